import PyProof.Rows.All
import Wide.All
import OpenK.AllK
import Wide.FinOn
import Lean
import PyProof.EqAt
import PyProof.EqKinds
import PyProof.TupleCall
import PyProof.Rows.SortShell
import PyProof.Rows.SortWalk
import PyProof.CompFree
import PyProof.Rows.SortRuns
import PyProof.EqLayable
import PyProof.NeData
import PyProof.P3In
import PyProof.ZipIter
import PyProof.EnumMake
import PyProof.EnumFor
import PyProof.Rows.Range3
import PyProof.AttrMissSeq
import KE.KDictOf
import KE.KTryMore
import PyProof.NsDelKeeps
import PyProof.ExcBaseAll.ValueError
import PyProof.Rows.SeqMore
import PyProof.ConsumeWalk
import PyProof.Rows.SeqMore2
import PyProof.Rows.CountFlat
import PySem.Challenge.RW_archrow_k04_no_rows_and_no_ties
set_option Elab.async false
set_option linter.all false
set_option maxRecDepth 100000
set_option maxHeartbeats 4000000
set_option compiler.extract_closed false
open PySem renaming Value->KR,wpAny_bind->KS,Shared->KU,wpAny_pure->K0,Program->K3,starEach->K5,World->Lf,sizeLine->Lk,wpAny->Ln,FuncData->LF,Around->LI,sizeLine_eq->LL,bootBuiltins->LM,compareOp->LW,wpAny_holding->L7,backTo->L8,wpAny_setState_of->Me,foldedSetIterable->Mf,Builtin->Mn,wpAny_call_entry->Mq,mainGlobals->Mt,assignEach->Mu,behindInMarks->Mx,attributeBase->My,wpAny_truthy_bool->MD,binaryOp->MF,codeAny_mono->MK,wpAny_mono->MQ,wpAny_newObj_type->MS,Scope->MU,wpAny_rule->M4,swapsWith->M5,wpAny_standAt->M_,codeAny->Na,Keyword->Nb,sliceBounds->Nc,NameKind->Nf,CmpOp->Ng,wpAny_passesOwn->Nh,codeAny_builtin->Ni,cLine->Nl,wpAny_Call_Name_kw->Np,keywordEach->Ny,wpAny_attempt->ND,Comprehension->NK,wpAny_askSetting->NP,checkBuiltinCall->NQ,wpAny_call->NU,wpAny_execs_nil->N1,letOwnedTupleGo->N2,codeAny_call_builtin->Oa,wpAny_setEntries_of->Oh,pyNext->Oo,call_meets->Oq,callerA->Ou,backToKw->Ov,wpAny_forIn_list->OE,Model->OJ,wpAny_loadPart'->OK,codeAny_of_tree->OL,standAt->OQ,pyIter->OS,isSubtype_type->OT
open PyProof.Rows renaming Keyed->KW,wpS_bind->K1,wpS_pure->K7,pendingOf->Lh,SortSt->Lo,arrOf->Ls,wpS_forRange->LK,setArr->LS,wpS_mono->Mb,seqObj->Mr,wpS_modify->ME,SortKind->MN,failedOf->MT,setPending->M6,callWith_type1->Nn,wpS_get->Nx,AllBare->NC,envOfC->NG,IntsAre->NZ,wpS_lift->N_
open List renaming length_map->KY,mem_cons->K6,getElem?_eq_getElem->K9,mem_singleton->K_,mem_cons_of_mem->Lc,mem_cons_self->Lg,size_toArray->Li,getElem?_map->Lj,length_cons->Lm,getElem?_eq_some_iff->Lr,mem_append->Lv,length_take->Lw,mem_append_right->Ly,length_append->Lz,filterMap_cons->LA,mem_map->LC,nodup_cons->LD,getElem?_append_right->LH,map_cons->LJ,nodup_nil->LO,append_assoc->LQ,mem_of_getElem?->LR,range->LU,append_nil->LV,lookup_cons->LX,getElem?_append_left->LY,mem_append_left->L6,not_mem_nil->L_,mem_range->Md,pairwise_cons->Mk,drop_eq_getElem_cons->Mo,map_append->Mp,getElem?_cons_succ->Ms,map_map->Mv,take_append_drop->MA,length_singleton->MB,getElem?_eq_none->MC,replicate->MI,getElem?_take_of_lt->MP,mem_filterMap->MR,take_of_length_le->MX,pairwise_map->MY,getElem?_set->MZ,ext_getElem?->M0,length_drop->M7,getElem_mem->M8,all_eq_true->M9,map_congr_left->Nm,getElem?_drop->Nr,pairwise_iff_getElem->Nv,extract_eq_take_drop->Nw,nodup_append->Nz,length_range->NA,map_take->NJ,take_length->NS,perm_middle->NT,drop_of_length_le->NY,of_mem_zip->N4,filterMap_append->N7,getElem?_set_ne->Oc,getElem?_of_mem->Od,getElem?_range->Oi,map_drop->Om,take_add_one->OC,range_succ->ON,mem_filter->OO,take_succ->OU,perm_ext_iff_of_nodup->OV,getD_eq_getElem?_getD->OW
open Nat renaming le_refl->KZ,lt_of_lt_of_le->Ll,zero_le->Lp,ne_of_lt->Lu,le_trans->L4,lt_or_ge->Ma,lt_irrefl->Mz,zero_add->ML,lt_succ_of_lt->MW,pow_le_pow_right->Nd,mod_lt->Nq,sub_self->NW,pow_succ->NX,pow_pos->Ob,lt_trichotomy->OB,mod_eq_of_lt->OG,mod_mul->OI,not_lt_zero->OM
open Array renaming length_toList->K2,getD_eq_getD_getElem?->La,getElem?_toList->Lb,toList_append->LZ,toList_push->Mi,getElem?_eq_none->Mj,perm_iff_toList_perm->MJ,size_setIfInBounds->NO,getElem?_setIfInBounds_self_of_lt->N9,toList_extract->Of,getElem?_setIfInBounds_ne->OD,toList_zip->OH,size_zip->OZ,size_map->O0
open PySem.Heap renaming get?_push_of_some->K4,lt_size->K8,get?_push_size->LB,SameBut->Mw,FlyingW->M1,size_push->Oe
open Option.some renaming inj->Lq,injEq->OA
open PySem.NameKind renaming free->Lx,cell->MO
open Option renaming map_eq_some_iff->LG,bind_eq_some_iff->L5,map_some->N3
open Decidable renaming by_contra->LN
open Bool renaming and_eq_true->LP,false_ne_true->Mm,not_eq_true'->M3,eq_iff_iff->Nk,not_eq_false'->Nt,false_eq_true->Nu
open PySem.PassesOwn renaming never->L9
open PySem.PyData renaming canLay0->Mc,eqv->MG,canLayAll0->MV,depthAll->Nj,eqvAll->NH
open False renaming elim->Ml
open PySem.Obj renaming mapSeq->MH,putSet->Ot
open Classical renaming byContradiction->MM
open PySem.Code renaming compLoop->NM,compStart->OX
open PySem.Builtin.List renaming listTooLong->NN,listLengthHint->OR
open PySem.SeqAt renaming canLay_of_shaped->NR
open Ne renaming symm->NV
open List.Perm renaming of_eq->N5,append_left->N8
open ForInStep renaming yield->N6
open PySem.Around renaming under_plainId->Og
open PySem.Heap.SameBut renaming update->Oj
open PySem.Value renaming builtin->Ol,isInt_shape->Ox
open Sum renaming inr->Oy,inl->Oz
open Array.Perm renaming refl->OP
open PySem.Calls renaming Name_function_global->OY,call_function_entry->O1
noncomputable section
namespace L2
open PySem PySem.Spec PyProof.Rows
def g9 (s:Stmt):Arguments:=match s with
 |.FunctionDef _ a _ _ _ _ _ _ _ _=>a
 |_=>{posonlyargs:=[],args:=[],vararg:=none,kwonlyargs:=[],kw_defaults:=[],kwarg:=none,defaults:=[]}
def cg (s:Stmt):List Stmt:=match s with
 |.FunctionDef _ _ b _ _ _ _ _ _ _=>b
 |_=>[]
def aw (s:Stmt):MU:=match s with
 |.FunctionDef _ _ _ _ _ _ sc _ _ _=>sc
 |_=>{kind:=.function,names:=[],isGenerator:=false,isCoroutine:=false}
end L2
namespace jU
open PySem L2
def top (i:Nat):Stmt:=PySem.Challenge.pw_archrow_k04_no_rows_and_no_ties.main.body.getD i (.Pass ⟨0,0,0,0⟩)
abbrev dY:Stmt:=top 15
abbrev cy:Stmt:=top 16
abbrev bS:Stmt:=top 17
abbrev b_:Stmt:=top 18
abbrev cw:Stmt:=top 20
abbrev cu:Stmt:=top 21
abbrev dw:Stmt:=top 22
abbrev dt:Stmt:=top 23
abbrev eC:Stmt:=top 24
abbrev dv:Stmt:=top 25
abbrev du:Stmt:=top 26
abbrev bO:Stmt:=top 27
abbrev il:Stmt:=top 28
abbrev vS (x:Str)(t:Nat):KR:=.str x t
abbrev kE (P:Params)(x:Str)(t:Nat)(v:KR):DictEntry:=⟨PyData.keyHash P x,.str x t,v⟩
abbrev kC (n:Str)(t l p r8 Jm IX:Nat)(Iv Iu Ir:KR)(IW Jl IG:Nat):Obj:={cls:=.type "code",data:=.fields #[vS n t,vS n (t+1),vS "/claim/cut.py" (t+2),.int l 0,.int p 0,.int 0 0,.int 0 0,.int 3 0,.ref r8,.bool true,.int Jm 0,.ref IX,Iv,Iu,Ir,.ref IW,.int Jl 0,.int l 0,vS "/claim/cut.py" IG]}
abbrev DF (st:Stmt)(x m:Str)(t c:Nat):LF:=PySem.W.fnOf x x (g9 st) (cg st) (aw st) .none .none .none (vS m t) none (.ref c) .none
abbrev kF (st:Stmt)(x m:Str)(t c:Nat):Obj:={cls:=.type "function",data:=.func (DF st x m t c)}
abbrev kX (x:Str)(a A t:Nat):Obj:={cls:=.type "type",data:=.cls {name:=x,bases:=[.ref A],mro:=[.ref a,.ref A,.type "ValueError",.type "Exception",.type "BaseException",.type "object"],ns:=a-1,qualname:=x},slots:=#[some (.ref (a-9)),none,some (vS x t),some (vS x (t+8)),some (.builtin "ValueError.__new__"),some (.bool true)]}
abbrev kN (P:Params)(a t m l:Nat):Obj:={cls:=.type "dict",data:=.dict #[kE P "__module__" (t+7) (vS "archrow.errors" m),kE P "__firstlineno__" (t+11) (.int l (t+10)),kE P "__static_attributes__" (t+12) (.ref (a-2)),kE P "__doc__" (t+13) .none] 2}
def KK:Params->PySem.W.Frag:=λP=>[(3,{cls:=.type "dict",data:=.dict #[kE P "__name__" 165 (vS "law_archrow_k04_no_rows_and_no_ties" 436),kE P "__doc__" 166 .none,kE P "__package__" 167 .none,kE P "__loader__" 168 (.builtin "__main__.__loader__#opaque"),kE P "__spec__" 169 .none,kE P "__annotations__" 170 (.ref 6),kE P "__builtins__" 171 (.ref 4),kE P "__file__" 173 (vS "/claim/cut.py" 172),kE P "__cached__" 174 .none,kE P "ArchError" 206 (.ref 24),kE P "NoRow" 222 (.ref 37),kE P "NoTie" 238 (.ref 49),kE P "NoStretch" 254 (.ref 61),kE P "NoWeights" 270 (.ref 73),kE P "NoNumber" 286 (.ref 85),kE P "NoSet" 302 (.ref 97),kE P "NoGap" 318 (.ref 109),kE P "NoPlace" 334 (.ref 121),kE P "NoShape" 350 (.ref 133),kE P "NoText" 366 (.ref 145),kE P "NoForm" 382 (.ref 157),kE P "NoneYet" 398 (.ref 169),kE P "row_of" 406 (.ref 176),kE P "do_cross" 414 (.ref 183),kE P "check_tie" 423 (.ref 190),kE P "arcs_cross" 435 (.ref 197),kE P "_law_hand" 444 (.ref 204),kE P "_law_take" 453 (.ref 211),kE P "_law_arcs" 465 (.ref 218),kE P "_law_ties" 471 (.ref 223),kE P "_law_row" 479 (.ref 230),kE P "_law_kind" 488 (.ref 237),kE P "_law_made" 499 (.ref 244),kE P "_law_crossed" 509 (.ref 251),kE P "law" 515 (.ref 256)] 35}),
 (175,kC "row_of" 401 29 2 172 181 173 .none .none .none 174 404 405),
 (176,kF dY "row_of" "archrow.arcs" 399 175),
 (182,kC "do_cross" 407 36 2 177 181 178 .none (.ref 179) (.ref 180) 181 412 413),
 (183,kF cy "do_cross" "archrow.arcs" 399 182),
 (189,kC "check_tie" 415 40 1 184 181 185 .none (.ref 186) (.ref 187) 188 421 422),
 (190,kF bS "check_tie" "archrow.arcs" 399 189),
 (196,kC "arcs_cross" 424 44 2 191 181 192 .none (.ref 193) (.ref 194) 195 433 434),
 (197,kF b_ "arcs_cross" "archrow.arcs" 399 196),
 (203,kC "_law_hand" 438 49 1 198 181 199 .none (.ref 200) (.ref 201) 202 442 443),
 (204,kF cw "_law_hand" "law_archrow_k04_no_rows_and_no_ties" 436 203),
 (210,kC "_law_take" 445 51 2 205 181 206 .none (.ref 207) (.ref 208) 209 451 452),
 (211,kF cu "_law_take" "law_archrow_k04_no_rows_and_no_ties" 436 210),
 (217,kC "_law_arcs" 454 58 2 212 181 213 .none (.ref 214) (.ref 215) 216 463 464),
 (218,kF dw "_law_arcs" "law_archrow_k04_no_rows_and_no_ties" 436 217),
 (222,kC "_law_ties" 466 68 2 219 181 220 .none .none .none 221 469 470),
 (223,kF dt "_law_ties" "law_archrow_k04_no_rows_and_no_ties" 436 222),
 (229,kC "_law_row" 472 90 1 224 181 225 .none (.ref 226) (.ref 227) 228 477 478),
 (230,kF eC "_law_row" "law_archrow_k04_no_rows_and_no_ties" 436 229),
 (236,kC "_law_kind" 480 95 1 231 181 232 .none (.ref 233) (.ref 234) 235 486 487),
 (237,kF dv "_law_kind" "law_archrow_k04_no_rows_and_no_ties" 436 236),
 (243,kC "_law_made" 489 103 2 238 181 239 .none (.ref 240) (.ref 241) 242 497 498),
 (244,kF du "_law_made" "law_archrow_k04_no_rows_and_no_ties" 436 243),
 (250,kC "_law_crossed" 500 113 2 245 181 246 .none (.ref 247) (.ref 248) 249 507 508),
 (251,kF bO "_law_crossed" "law_archrow_k04_no_rows_and_no_ties" 436 250),
 (255,kC "law" 510 120 1 252 181 253 .none .none .none 254 513 514),
 (256,kF il "law" "law_archrow_k04_no_rows_and_no_ties" 436 255),
 (24,{cls:=.type "type",data:=.cls {name:="ArchError",bases:=[(.type "ValueError")],mro:=[(.ref 24),(.type "ValueError"),(.type "Exception"),(.type "BaseException"),(.type "object")],ns:=23,qualname:="ArchError",subclasses:=[(.ref 37),(.ref 49),(.ref 61),(.ref 73),(.ref 85),(.ref 97),(.ref 109),(.ref 121),(.ref 133),(.ref 145),(.ref 157),(.ref 169)]},slots:=#[some ((.ref 15)),none,some ((vS "ArchError" 189)),some ((vS "ArchError" 197)),some ((.builtin "ValueError.__new__")),some (.bool true)]}),
 (23,{cls:=.type "dict",data:=.dict #[kE P "__module__" 196 (vS "archrow.errors" 187),kE P "__firstlineno__" 200 (.int 2 199),kE P "__static_attributes__" 201 (.ref 22),kE P "__weakref__" 203 (.ref 25),kE P "__doc__" 204 .none] 3}),
 (37,kX "NoRow" 37 24 207),
 (36,kN P 37 207 187 4),
 (49,kX "NoTie" 49 24 223),
 (48,kN P 49 223 187 6),
 (61,kX "NoStretch" 61 24 239),
 (60,kN P 61 239 187 8),
 (73,kX "NoWeights" 73 24 255),
 (72,kN P 73 255 187 10),
 (85,kX "NoNumber" 85 24 271),
 (84,kN P 85 271 187 12),
 (97,kX "NoSet" 97 24 287),
 (96,kN P 97 287 187 14),
 (109,kX "NoGap" 109 24 303),
 (108,kN P 109 303 187 16),
 (121,kX "NoPlace" 121 24 319),
 (120,kN P 121 319 187 18),
 (133,kX "NoShape" 133 24 335),
 (132,kN P 133 335 187 20),
 (145,kX "NoText" 145 24 351),
 (144,kN P 145 351 187 22),
 (157,kX "NoForm" 157 24 367),
 (156,kN P 157 367 187 24),
 (169,kX "NoneYet" 169 24 383),
 (168,kN P 169 383 187 26)]
abbrev HK:PySem.W.Hook:=PySem.W.kHook KK [3,175,176,182,183,189,190,196,197,203,204,210,211,217,218,222,223,229,230,236,237,243,244,250,251,255,256,24,23,37,36,49,48,61,60,73,72,85,84,97,96,109,108,121,120,133,132,145,144,157,156,169,168] (λ_=>by kernel_rfl)
def view:K3:={PySem.Challenge.pw_archrow_k04_no_rows_and_no_ties with main:={PySem.Challenge.pw_archrow_k04_no_rows_and_no_ties.main with body:=[top 1,top 2,top 3,top 4,top 5,top 6,top 7,top 8,top 9,top 10,top 11,top 12,top 13,top 15,top 16,top 17,top 18,top 20,top 21,top 22,top 23,top 24,top 25,top 26,top 27,top 28]}}
theorem left:PySem.W.LeftO PySem.Challenge.pw_archrow_k04_no_rows_and_no_ties view [] (λs=>PySem.W.xlAt view [] s&&PySem.W.recOk (PySem.W.RowW.records PySem.Challenge.rw_archrow_k04_no_rows_and_no_ties.row.toRowW) s) HK.obs HK.val 6450:=λw=>by kernel_rfl
end jU
namespace L2
open PySem PySem.Spec PyProof.Rows
abbrev Key:=Sum Int Str
def w6:Key->KR->Bool
 |.inl k,v=>Value.isInt k v
 |.inr x,v=>Value.isStrOf x v
def Fo (w:Lf):Key->Int
 |.inl k=>hashInt k
 |.inr x=>hashStr w x
theorem a6:∀{k:Key} {v:KR},w6 k v=true->(∃i t,k=Oz i/\v=Value.int i t)\/(∃x t,k=Oy x/\v=Value.str x t)
 |.inl i,v,h=>by
  obtain⟨t,e⟩:=Ox (k:=i) (v:=v) h;exact .inl ⟨i,t,rfl,e⟩
 |.inr x,v,h=>by
  obtain⟨t,e⟩:=Value.isStrOf_shape (x:=x) (v:=v) h;exact .inr ⟨x,t,rfl,e⟩
theorem zh (a b:Int):decide ((Oz a:Key)=Oz b)=(a==b):=by
 by_cases e:a=b
 ·subst e;simp
 ·have h:¬ (Oz a:Key)=Oz b:=λq=>e (Sum.inl.inj q);rw[decide_eq_false h];exact(beq_eq_false_iff_ne.mpr e).symm
theorem ze (a b:Str):decide ((Oy a:Key)=Oy b)=decide (a=b):=by
 by_cases e:a=b
 ·subst e;simp
 ·have h:¬ (Oy a:Key)=Oy b:=λq=>e (Sum.inr.inj q);rw[decide_eq_false h,decide_eq_false e]
theorem zg (a:Int)(b:Str):decide ((Oz a:Key)=Oy b)=false:=decide_eq_false (λq=>nomatch q)
theorem zf (a:Str)(b:Int):decide ((Oy a:Key)=Oz b)=false:=decide_eq_false (λq=>nomatch q)
def oW (prog:K3)(w:Lf):PySem.KeyKind prog w Key where
 is:=w6
 hash:=Fo w
 inj:=λv a b ha hb=>by
  rcases a6 ha with⟨i,t,rfl,rfl⟩|⟨x,t,rfl,rfl⟩
  ·rcases a6 hb with⟨j,u,rfl,e⟩|⟨y,u,rfl,e⟩
   ·injection e with e1 _;rw[e1]
   ·exact nomatch e
  ·rcases a6 hb with⟨j,u,rfl,e⟩|⟨y,u,rfl,e⟩
   ·exact nomatch e
   ·injection e with e1 _;rw[e1]
 byValue:=λk v h=>by
  rcases a6 h with⟨i,t,rfl,rfl⟩|⟨x,t,rfl,rfl⟩ <;> rfl
 pyHash:=λhv h=>by
  rcases a6 hv with⟨i,t,rfl,rfl⟩|⟨x,t,rfl,rfl⟩
  ·exact wpAny_pyHash_int h
  ·exact wpAny_pyHash_str h
 eqBool:=λhu hv h=>by
  rcases a6 hu with⟨i,t,rfl,rfl⟩|⟨x,t,rfl,rfl⟩
  ·rcases a6 hv with⟨j,u,rfl,rfl⟩|⟨y,u,rfl,rfl⟩
   ·rw[zh]at h;exact wpAny_eqBool_int h
   ·rw[zg]at h;exact SeqAt.EqAt.int_str i t y u _ _ _ _ h
  ·rcases a6 hv with⟨j,u,rfl,rfl⟩|⟨y,u,rfl,rfl⟩
   ·rw[zf]at h;exact SeqAt.EqAt.str_int x t j u _ _ _ _ h
   ·rw[ze]at h;exact wpAny_eqBool_str h
 «strs»:=λk x t v h=>by
  rcases a6 h with⟨i,u,rfl,e⟩|⟨y,u,rfl,e⟩
  ·exact nomatch e
  ·injection e with e1 _
   subst e1;cases v <;> rfl
inductive V where
 |bx|bl (b:Bool)|int (i:Int)|str (x:Str)|wu (b:Array UInt8)|GK (b:UInt64)|ref (a:Addr)|ty (n:String)
 deriving DecidableEq
def RelV:V->KR->Prop
 |.bx,u=>u=Value.none
 |.bl b,u=>u=Value.bool b
 |.int i,u=>∃t,u=Value.int i t
 |.str x,u=>∃t,u=Value.str x t
 |.wu b,u=>∃t,u=Value.bytes b t
 |.GK b,u=>∃t,u=Value.float b t
 |.ref a,u=>u=Value.ref a
 |.ty n,u=>u=Value.type n
abbrev Vals:List V->List KR->Prop:=Paired RelV
theorem Vals.length {xs:List V}{us:List KR}(r:Vals xs us):xs.length=us.length:=Paired.length r
theorem Vals.get:∀{xs:List V} {us:List KR} {i:Nat} {x:V},Vals xs us->xs[i]?=some x->∃u,us[i]?=some u/\RelV x u
 |_,_,_,_,.nil,e=>by simp at e
 |_,_,0,_,.cons r _,e=>by simp at e;subst e;exact⟨_,rfl,r⟩
 |_,_,i+1,x,.cons _ t,e=>by
  obtain⟨u,h1,h2⟩:=Vals.get (i:=i) (x:=x) t (by simpa using e)
  exact⟨u,by simpa using h1,h2⟩
theorem Vals.set {x:V}{u:KR}(r:RelV x u):∀{xs:List V} {us:List KR} (i:Nat),Vals xs us->Vals (xs.set i x) (us.set i u)
 |_,_,_,.nil=>.nil
 |_,_,0,.cons _ t=>.cons r t
 |_,_,i+1,.cons q t=>.cons q (Vals.set r i t)
theorem Vals.append:∀{xs ys:List V} {us ws:List KR},Vals xs us->Vals ys ws->Vals (xs++ys) (us++ws)
 |_,_,_,_,.nil,s=>s
 |_,_,_,_,.cons r t,s=>.cons r (Vals.append t s)
theorem Vals.take:∀{xs:List V} {us:List KR} (n:Nat),Vals xs us->Vals (xs.take n) (us.take n)
 |_,_,0,_=>.nil
 |_,_,_+1,.nil=>.nil
 |_,_,n+1,.cons r t=>.cons r (Vals.take n t)
theorem Vals.drop:∀{xs:List V} {us:List KR} (n:Nat),Vals xs us->Vals (xs.drop n) (us.drop n)
 |_,_,0,r=>r
 |_,_,_+1,.nil=>.nil
 |_,_,n+1,.cons _ t=>Vals.drop n t
def Di:Option V->Option KR->Prop
 |some v,some u=>RelV v u
 |none,none=>True
 |_,_=>False
def KV {κ:Type}:List (κ×V)->List (κ×KR)->Prop:=Paired λ(p:κ×V) (q:κ×KR)=>p.1=q.1/\RelV p.2 q.2
def kV:Key->V
 |.inl i=>.int i
 |.inr x=>.str x
inductive HO where
 /-- a list -/
 |lst (xs:List V)
 /-- a tuple (never changes) -/
 |tup (xs:List V)
 /-- a dict whose keys are ints and texts;one whose keys are tuples of ints and texts (the empty one is both) -/
 |dK (kz:List (Key×V))|dT (kz:List (List Key×V))
 /-- a set of ints: its members,its size -/
 |set (S:Int->Bool) (n:Nat)
 /-- an instance of the class at C,its dict at dx,its attributes -/
 |ins (C dx:Addr) (fs:List (Str×V))
 /-- the dict of the instance at x -/
 |own (x:Addr)
 /-- the dict of an exception -/
 |xd (fs:List (Str×V))
 /-- a bound method,f of x -/
 |met (f x:Addr)
 /-- a range object lo,lo+1,.. below hi -/
 |Dw (lo hi:Int)
 /-- a AU that is known to the object (the EJ;a dict while a loop walks it): read,never written while it is so -/
 |tO (o:Obj) (u:HO)
 /-- a code BE table -/
 |wK (ps:Array KR)
 /-- any other AU,by what is true of its one object (a def of BD own: ee a S n:=HO.ext λh=>..) -/
 |ext (φ:Heap->Prop)
abbrev Hp:=Addr->Option HO
def upd (H:Hp)(a:Addr)(o:HO):Hp:=λb=>if b=a then some o else H b
theorem ao {H:Hp}{a:Addr}{o:HO}:upd H a o a=some o:=by unfold upd;rw[if_pos rfl]
theorem aj {H:Hp}{a b:Addr}{o:HO}(h:b≠a):upd H a o b=H b:=by unfold upd;rw[if_neg h]
theorem BI {H:Hp}{a b:Addr}{o u:HO}(h:H a=some o)(h':H b=some u)(d:o≠u):a≠b:=by
 intro e;subst e;rw[h]at h';exact d (Lq h')
theorem bE {H:Hp}{a b:Addr}{o:HO}(h:H a=some o)(h':H b=none):a≠b:=by
 intro e;subst e;rw[h]at h';cases h'
section
variable (P:K3)(w:Lf)
def bY (H:Hp)(h:Heap)(a:Addr):HO->Prop
 |.lst xs=>xs.length<=Lk/\∃(its:List KR) (n:Nat),Vals xs its/\h.get? a=some {cls:=.type "list",data:=.seq its.toArray n}
 |.tup xs=>xs.length<=Lk/\∃its:List KR,Vals xs its/\IsTup h a its.toArray
 |.dK kz=>kz.length<=Lk/\(a==sysModules)=false/\∃vs,KV kz vs/\h.DictOf (oW P w) a vs
 |.dT kz=>kz.length<=Lk/\(a==sysModules)=false/\∃xs:List (List Key×Addr×KR),
   Paired (λ(p:List Key×V) (q:List Key×Addr×KR)=>p.1=q.1/\H q.2.1=some (.tup (p.1.map kV))/\RelV p.2 q.2.2) kz xs /\
   ∃o es ep,h.get? a=some o/\o.ExactDict/\o.data=.dict es ep/\es.toList=xs.map (entryOfKey (tupleKind (oW P w)))/\(xs.map (·.1)).Nodup
 |.set S n=>h.SetOf (intKind P w) a S n
 |.ins C dx fs=>H dx=some (.own a)/\fs.length<=1000/\dx≠a/\h.get? a=some (PySem.W.instObj C dx) /\
   ∃mA,h.Ns1 dx mA/\(∀f,Di (fs.lookup f) (mA f))/\PySem.Within mA (fs.map (·.1))
 |.own _=>∃o,h.get? a=some o
 |.xd fs=>∃mA,h.Ns1 a mA/\∀f,Di (fs.lookup f) (mA f)
 |.Dw lo hi=>∃t u v,h.get? a=some {cls:=.type "range",data:=.fields #[.int lo t,.int hi u,.int 1 v]}
 |.tO o u=>h.get? a=some o/\bY H h a u
 |.wK ps=>h.get? a=some {cls:=.none,data:=.fields ps}
 |.met f x=>h.get? a=some (PySem.W.methodObj (.ref f) (.ref x))
 |.ext φ=>φ h/\(∃o,h.get? a=some o)/\∀h1 h2:Heap,φ h1->(∀o,h1.get? a=some o->h2.get? a=some o)->φ h2
def eW (H:Hp)(h:Heap):Prop:=∀a o,H a=some o->bY P w H h a o
end
section
variable {P:K3}{w:Lf}{H H':Hp}{h h':Heap}{a:Addr}{o:HO}
theorem bY.lt (x:bY P w H h a o):a<h.objs.size:=by
 cases o with
 |lst xs=>obtain⟨_,_,_,_,e⟩:=x;exact K8 e
 |tup xs=>obtain⟨_,_,_,p⟩:=x;exact p.lt
 |dK kz=>obtain⟨_,_,_,_,o,_,_,e,_⟩:=x;exact K8 e
 |dT kz=>obtain⟨_,_,_,_,o,_,_,e,_⟩:=x;exact K8 e
 |set S n=>obtain⟨o,_,_,_,e,_⟩:=x;exact K8 e
 |ins C dx fs=>obtain⟨_,_,_,e,_⟩:=x;exact K8 e
 |own y=>obtain⟨_,e⟩:=x;exact K8 e
 |xd fs=>obtain⟨_,⟨_,_,_,e,_⟩,_⟩:=x;exact K8 e
 |Dw lo hi=>obtain⟨_,_,_,e⟩:=x;exact K8 e
 |tO ob u=>obtain⟨e,_⟩:=x;exact K8 e
 |wK ps=>exact K8 (show h.get? a=some _ from x)
 |met f y=>exact K8 (show h.get? a=some _ from x)
 |ext φ=>obtain⟨_,⟨_,e⟩,_⟩:=x;exact K8 e
theorem Paired.BW {α β:Type}{F G:α->β->Prop}:∀{l₁:List α} {l₂:List β},Paired F l₁ l₂->(∀a b,F a b->G a b)->Paired G l₁ l₂
 |_,_,.nil,_=>.nil
 |_,_,.cons r t,f=>.cons (f _ _ r) (Paired.BW t f)
theorem bY.j5 (x:bY P w H h a o)(k:∀b u,(b=a\/H b=some (.own a))->h.get? b=some u->h'.get? b=some u)
  (ho:∀b,H b=some (.own a)->H' b=some (.own a)) (ht:∀b xs,H b=some (.tup xs)->H' b=some (.tup xs)):bY P w H' h' a o:=by
 induction o with
 |lst xs=>obtain⟨z,its,n,r,e⟩:=x;exact⟨z,its,n,r,k _ _ (.inl rfl) e⟩
 |tup xs=>obtain⟨z,its,r,ob,e,c⟩:=x;exact⟨z,its,r,ob,k _ _ (.inl rfl) e,c⟩
 |dK kz=>obtain⟨z,y,vs,r,ob,es,ep,e,c⟩:=x;exact⟨z,y,vs,r,ob,es,ep,k _ _ (.inl rfl) e,c⟩
 |dT kz =>
  obtain⟨z,y,xs,r,ob,es,ep,e,c⟩:=x;exact⟨z,y,xs,Paired.BW r λp q z=>⟨z.1,ht _ _ z.2.1,z.2.2⟩,ob,es,ep,k _ _ (.inl rfl) e,c⟩
 |set S n=>obtain⟨ob,es,ep,t,e,c⟩:=x;exact⟨ob,es,ep,t,k _ _ (.inl rfl) e,c⟩
 |ins C dx fs =>
  obtain⟨d,z,ne,e,mA,⟨od,es,ep,e2,c⟩,r⟩:=x;exact⟨ho _ d,z,ne,k _ _ (.inl rfl) e,mA,⟨od,es,ep,k _ _ (.inr d) e2,c⟩,r⟩
 |own y=>obtain⟨ob,e⟩:=x;exact⟨ob,k _ _ (.inl rfl) e⟩
 |xd fs=>obtain⟨mA,⟨od,es,ep,e,c⟩,r⟩:=x;exact⟨mA,⟨od,es,ep,k _ _ (.inl rfl) e,c⟩,r⟩
 |Dw lo hi=>obtain⟨t,u,v,e⟩:=x;exact⟨t,u,v,k _ _ (.inl rfl) e⟩
 |tO ob u ih=>obtain⟨e,q⟩:=x;exact⟨k _ _ (.inl rfl) e,ih q⟩
 |wK ps =>
  have e:h.get? a=some {cls:=.none,data:=.fields ps}:=x;show h'.get? a=some {cls:=.none,data:=.fields ps};exact k a _ (.inl rfl) e
 |met f y =>
  have e:h.get? a=some (PySem.W.methodObj (.ref f) (.ref y)):=x;show h'.get? a=some (PySem.W.methodObj (.ref f) (.ref y));exact k a _ (.inl rfl) e
 |ext φ=>obtain⟨p,⟨o,e⟩,st⟩:=x;exact⟨st _ _ p λo q=>k _ _ (.inl rfl) q,⟨o,k _ _ (.inl rfl) e⟩,st⟩
theorem eW.lt (x:eW P w H h)(e:H a=some o):a<h.objs.size:=(x a o e).lt
theorem eW.fresh (x:eW P w H h)(e:h.objs.size<=a):H a=none:=by
 cases q:H a with
 |none=>rfl
 |some u=>exact absurd (Ll (x.lt q) e) (Mz _)
theorem eW.kept (x:eW P w H h)(k:∀b u,h.get? b=some u->h'.get? b=some u):eW P w H h':=λa o e =>
 (x a o e).j5 (λb u _ q=>k b u q) (λ_ q=>q) λ_ _ q=>q
theorem eW.laid (x:eW P w H h)(k:∀b u,h.get? b=some u->h'.get? b=some u)(hp:h.objs.size<=a)(new:bY P w (upd H a o) h' a o):eW P w (upd H a o) h':=λb u e=>by
 have hn:=x.fresh hp
 by_cases hb:b=a
 ·subst hb;rw[ao]at e;cases e;exact new
 ·rw[aj hb]at e;exact(x b u e).j5 (λc v _ q=>k c v q) (λc q=>by rw[aj (bE q hn)];exact q) λc xs q=>by rw[aj (bE q hn)];exact q
end
def Rd (H:Hp)(a:Addr)(u:HO):Prop:=H a=some u\/∃o,H a=some (.tO o u)
theorem Rd.ok {P:K3}{w:Lf}{H:Hp}{h:Heap}{a:Addr}{u:HO}(r:Rd H a u)(x:eW P w H h):bY P w H h a u:=by
 rcases r with r|⟨o,r⟩
 ·exact x a u r
 ·obtain⟨_,q⟩:=x a _ r;exact q
def Ef:Option HO->Prop
 |some (.lst _)=>True
 |some (.dK _)=>True
 |some (.dT _)=>True
 |some (.set _ _)=>True
 |some (.ins _ _ _)=>True
 |some (.ext _)=>True
 |_=>False
section
variable {P:K3}{w:Lf}{H:Hp}{h h':Heap}{x e:Addr}{o':HO}
theorem eW.write (ok:eW P w H h)(mu:Ef (H x))(he:e=x\/H e=some (.own x))(k:∀b u,b≠e->h.get? b=some u->h'.get? b=some u)(AF:∃u,h'.get? e=some u)
  (new:bY P w (upd H x o') h' x o'):eW P w (upd H x o') h':=λb u q=>by
 have BF:∀c y,H c=some (.own y)->c≠x:=λc y r z=>by subst z;rw[r]at mu;exact mu
 have Fe:∀c xs,H c=some (.tup xs)->c≠x:=λc xs r z=>by subst z;rw[r]at mu;exact mu
 by_cases hb:b=x
 ·subst hb;rw[ao]at q;cases q;exact new
 ·rw[aj hb]at q
  by_cases zU:b=e
  ·have q':H b=some (.own x):=by
    rcases he with z|z
    ·exact absurd (zU.trans z) hb
    ·rw[zU];exact z
   rw[q]at q';cases q';obtain⟨v,hv⟩:=AF;exact⟨v,by rw[zU];exact hv⟩
  ·refine(ok b u q).j5 (λc v hc r=>k c v ?_ r) (λc r=>by rw[aj (BF c b r)];exact r) λc xs r=>by rw[aj (Fe c xs r)];exact r
   rcases hc with rfl|hc
   ·exact zU
   ·rintro rfl;rcases he with z|z
    ·exact BF c b hc z
    ·rw[hc]at z;cases z;exact hb rfl
end
structure Un (fs ex:List Addr)(H H':Hp)(h h':Heap):Prop where
 keep:∀b o,h.get? b=some o->H b=none->b∉fs->b∉ex->h'.get? b=some o
 slot:∀b o,h.get? b=some o->H b=none->b∈fs->b∉ex->∃sl,h'.get? b=some {o with slots:=sl}
 free:∀b o,h.get? b=some o->H b=none->b∉ex->H' b=none
 there:∀b o,h.get? b=some o->b∉ex->∃o',h'.get? b=some o'
 eX:∀b xs,H b=some (.tup xs)->H' b=some (.tup xs)
 eO:∀b o u,H b=some (.tO o u)->H' b=some (.tO o u)
 eY:∀b ps,H b=some (.wK ps)->∃more,H' b=some (.wK (ps++more))
section
variable {fs ex:List Addr}{H H1:Hp}{h h1 h':Heap}{a x e:Addr}{o:HO}
theorem Un.any (u:Un fs ex H H1 h h1){b:Addr}{ob:Obj}(q:h.get? b=some ob)(n:H b=none)(hx:b∉ex):∃sl,h1.get? b=some {ob with slots:=sl}:=by
 by_cases hb:b∈fs
 ·exact u.slot b ob q n hb hx
 ·exact⟨ob.slots,u.keep b ob q n hb hx⟩
theorem Un.kept (k:∀b u,h.get? b=some u->h'.get? b=some u):Un fs ex H H h h' :=
 ⟨λb ob q _ _ _=>k b ob q,λb ob q _ _ _=>⟨ob.slots,k b ob q⟩,λ_ _ _ n _=>n,λb ob q _=>⟨ob,k b ob q⟩,λ_ _ q=>q,λ_ _ _ q=>q,λ_ ps q=>⟨#[],by rw[q];simp⟩⟩
theorem Un.refl:Un fs ex H H h h:=Un.kept λ_ _ q=>q
theorem Un.laid (k:∀b u,h.get? b=some u->h'.get? b=some u)(hp:h.objs.size<=a)(hn:H a=none):Un fs ex H (upd H a o) h h' where
 keep:=λb u q _ _ _=>k b u q
 slot:=λb u q _ _ _=>⟨u.slots,k b u q⟩
 free:=λb u q n _=>by rw[aj (Lu (Ll (K8 q) hp))];exact n
 there:=λb u q _=>⟨u,k b u q⟩
 eX:=λb xs q=>by rw[aj (bE q hn)];exact q
 eO:=λb u xs q=>by rw[aj (bE q hn)];exact q
 eY:=λb ps q=>⟨#[],by rw[aj (bE q hn),q];simp⟩
theorem Un.write (mu:Ef (H x))(he:e=x\/H e=some (.own x))(k:∀b u,b≠e->h.get? b=some u->h'.get? b=some u)(AF:∃u,h'.get? e=some u):Un fs ex H (upd H x o) h h':=by
 have hx:∀b,H b=none->b≠x:=λb n z=>by subst z;rw[n]at mu;exact mu
 have hb:∀b,H b=none->b≠e:=λb n z=>by
  subst z;rcases he with r|r
  ·exact hx b n r
  ·rw[n]at r;cases r
 have hm:∀b u,H b=some u->¬ Ef (some u)->b≠x:=λb u q nm z=>by subst z;rw[q]at mu;exact nm mu
 refine⟨λb u q n _ _=>k b u (hb b n) q,λb u q n _ _=>⟨u.slots,k b u (hb b n) q⟩,λb u q n _=>by rw[aj (hx b n)];exact n,λb u q _=>?_,
  λb xs q=>by rw[aj (hm b _ q λz=>z)];exact q,λb u xs q=>by rw[aj (hm b _ q λz=>z)];exact q,λb ps q=>⟨#[],by rw[aj (hm b _ q λz=>z),q];simp⟩⟩
 by_cases zU:b=e
 ·subst zU;exact AF
 ·exact⟨u,k b u zU q⟩
end
def Ar (h:Heap)(H:Hp):List Addr:=(LU h.objs.size).filter λa=>(H a).isSome
def kK (h:Heap)(H:Hp):Heap:=PySem.W.hideAll h (Ar h H)
theorem qv (h:Heap)(H:Hp):(kK h H).objs.size=h.objs.size:=PySem.W.hideAll_size _ _
theorem tI {h:Heap}{H:Hp}{b:Addr}{o:Obj}(e:h.get? b=some o)(n:H b=none):(kK h H).get? b=some o :=
 PySem.W.hideAll_get _ e λhm=>by
  have q:(H b).isSome=true:=(OO.mp hm).2;rw[n]at q;simp at q
theorem vA {h:Heap}{H:Hp}{b:Addr}{o:Obj}(e:(kK h H).get? b=some o):h.get? b=some o/\H b=none:=by
 have e':h.get? b=some o:=PySem.W.of_hideAll (Ar h H) e;refine⟨e',?_⟩;cases q:H b with
 |none=>rfl
 |some x =>
  have hm:b∈Ar h H:=OO.mpr ⟨Md.mpr (K8 e'),by simp[q]⟩
  have z:(kK h H).get? b=none:=PySem.W.hideAll_none (Ar h H) hm;rw[z]at e;cases e
structure Mod (K:PySem.W.Frag)(mg:Str->Option KR)(base:Heap):Prop where
 DE:K.In base
 glob:base.Ns Mt mg
 blt:∃mb,base.Ns builtinsNs mb/\∀x:Str,x≠"__name__" -> mb x=LM x
 nolimit:base.NoLimit
structure Cx where
 prog:K3
 w:Lf
 K:PySem.W.Frag
 mg:Str->Option KR
 base:Heap
 A:LI
 N:List Str
 s₀:KU
 H₀:Hp
 env:Env
 outer:List Env
 stack:List Env
 ex:List Addr
 fn:Str->Bool
 calm:Bool
 pn:List (Addr×Obj)
 xe:KR->KU->Prop
def dP (l:List Env):List Addr:=l.filterMap (·.frame)
abbrev Cx.fs (X:Cx):List Addr:=dP X.outer
def uG (sc:MU)(x:Str):Prop:=sc.names.lookup x=some .local\/sc.names.lookup x=some .cell\/sc.names.lookup x=some .free
def Loc (sc:MU)(x:Str):Prop:=sc.names.lookup x=some .local\/sc.names.lookup x=some .cell
def Look (env:Env)(h:Heap)(m:Str->Option KR)(x:Str)(u:KR):Prop :=
 (env.kindOf x=some .local/\m x=some u)\/((env.kindOf x=some .cell\/env.kindOf x=some .free)/\∃c,env.cells.lookup x=some c/\h.IsCell c (some u))
structure Cx.Ok (X:Cx):Prop where
 mod:Mod X.K X.mg X.base
 kind:X.env.scope.kind=.function
 glob:X.env.globals=Mt
 blt:X.env.builtins=builtinsNs
 above:X.s₀.heap.objs.size<=X.env.locals
 inj:∀x y c,X.env.cells.lookup x=some c->X.env.cells.lookup y=some c->x=y
 has:∀x,(X.env.kindOf x=some .cell\/X.env.kindOf x=some .free)->∃c,X.env.cells.lookup x=some c
 xE:∀x c,X.fn x=true->X.env.cells.lookup x=some c->X.s₀.heap.objs.size<=c
 hd:X.calm=true->X.A.handled=none
 frames:X.A.frames=some X.stack
 x_:X.stack=X.outer\/(X.stack=X.env::X.outer/\X.env.frame=some X.env.locals)
 wb:∀b∈X.ex,b≠X.env.locals/\∀x c,X.env.cells.lookup x=some c->c≠b
 bs:∀b o,X.base.get? b=some o->X.s₀.heap.get? b=some o/\X.H₀ b=none
 ue:X.base.objs.size<=X.s₀.heap.objs.size
 lI:∀b o,X.base.get? b=some o->b∉X.ex
 kP:∀b∈X.ex,b∉X.fs
 fO:X.s₀.heap.FunFrames X.base X.outer
 vZ:∀b∈X.fs,X.H₀ b=none
structure Inv (X:Cx)(pins:List (Addr×Obj))(σ:List (Option V))(H:Hp)(s:KU):Prop where
 ok:X.Ok
 os:s.os=X.s₀.os
 bare:NC s.gens
 base:Un X.fs X.ex X.H₀ H X.s₀.heap s.heap
 loc:∃m,s.heap.Ns X.env.locals m/\∀(i:Nat) (x:Str) (v:V),X.N[i]?=some x->σ[i]?=some (some v)->uG X.env.scope x->∃u,RelV v u/\Look X.env s.heap m x u
 cell:∀x c,X.env.cells.lookup x=some c->∃v,s.heap.IsCell c v
 free:H X.env.locals=none
 b9:∀x c,X.env.cells.lookup x=some c->H c=none
 pin:∀p∈X.pn++pins,s.heap.get? p.1=some p.2/\H p.1=none/\p.1≠X.env.locals/\p.1∉X.fs/\∀v,p.2.data≠.cell v
 a_:eW X.prog X.w H s.heap
 len:σ.length=X.N.length
section
variable {X:Cx}{pins:List (Addr×Obj)}{σ:List (Option V)}{H H':Hp}{s:KU}{h':Heap}
theorem Cx.Ok.yS (ok:X.Ok){b:Addr}{o:Obj}(e:X.base.get? b=some o):b∉X.fs:=λhb=>by
 have:=(ok.fO.mem hb).1;rw[e]at this;cases this
theorem Inv.bs (I:Inv X pins σ H s):∀b o,X.base.get? b=some o->s.heap.get? b=some o/\H b=none:=λb o e =>
 ⟨I.base.keep b o (I.ok.bs b o e).1 (I.ok.bs b o e).2 (I.ok.yS e) (I.ok.lI b o e),I.base.free b o (I.ok.bs b o e).1 (I.ok.bs b o e).2 (I.ok.lI b o e)⟩
theorem Inv.bk (I:Inv X pins σ H s):∀b o,X.base.get? b=some o->s.heap.get? b=some o:=λb o e=>(I.bs b o e).1
theorem Inv.mod (I:Inv X pins σ H s):Mod X.K X.mg X.base:=I.ok.mod
theorem Inv.qY (I:Inv X pins σ H s):X.K.In s.heap:=I.ok.mod.DE.keeps I.bk
theorem Inv.lt (I:Inv X pins σ H s):X.env.locals<s.heap.objs.size:=let ⟨_,hn,_⟩:=I.loc;hn.lt
theorem Inv.sz (I:Inv X pins σ H s):X.s₀.heap.objs.size<=s.heap.objs.size:=L4 I.ok.above (Nat.le_of_lt I.lt)
theorem Inv.Fg (I:Inv X pins σ H s){a:Addr}(h:s.heap.objs.size<=a):a∉X.fs:=λhb=>by
 obtain⟨_,o,ho,_⟩:=I.ok.fO.mem hb;exact absurd (Ll (K8 ho) (L4 I.sz h)) (Mz _)
theorem Inv.t6 (I:Inv X pins σ H s):∀x c,X.env.cells.lookup x=some c->c≠X.env.locals:=λx c e z=>by
 obtain⟨v,o,ho,hd⟩:=I.cell x c e;obtain⟨m,⟨o',es,ep,qt,JR,_⟩,_⟩:=I.loc;rw[z,qt]at ho;cases ho;rw[JR]at hd;cases hd
theorem Inv.fO (I:Inv X pins σ H s):s.heap.FunFrames X.base X.outer:=by
 have all:∀(l:List Env),(∀b∈dP l,b∈X.fs)->X.s₀.heap.FunFrames X.base l->s.heap.FunFrames X.base l:=by
  intro l
  induction l with
  |nil=>intro _ _;trivial
  |cons env r ih =>
   intro hs hl;obtain⟨hk,⟨L,o,hf,hn,ho,hd⟩,hr⟩:=hl;have hL:L∈X.fs:=hs L (by unfold dP;rw[LA,hf];exact Lg)
   obtain⟨sl,e⟩:=I.base.slot L o ho (I.ok.vZ L hL) hL λz=>I.ok.kP L z hL;exact⟨hk,⟨L,_,hf,hn,e,hd⟩,ih (λb hb=>hs b (by unfold dP;rw[LA,hf];exact Lc _ hb)) hr⟩
 exact all X.outer (λ_ hb=>hb) I.ok.fO
theorem Inv.stack (I:Inv X pins σ H s):s.heap.FunFrames X.base X.stack:=by
 rcases I.ok.x_ with e|⟨e,hf⟩
 ·rw[e];exact I.fO
 ·rw[e];obtain⟨m,hn,_⟩:=I.loc;refine .cons (by rw[I.ok.kind];decide) hf hn ?_ I.fO
  exact Heap.get?_none_of_le (L4 I.ok.ue I.ok.above)
theorem Inv.m_ (I:Inv X pins σ H s):∀b∈dP X.stack,b∈X.env.locals::X.fs:=λb hb=>by
 rcases I.ok.x_ with e|⟨e,hf⟩
 ·rw[e]at hb;exact Lc _ hb
 ·rw[e]at hb;unfold dP at hb;rw[LA,hf]at hb;exact hb
theorem Inv.j4 (I:Inv X pins σ H s):∀b∈dP X.stack,H b=none:=λb hb=>by
 rcases K6.mp (I.m_ b hb)with e|hb
 ·rw[e];exact I.free
 ·obtain⟨_,o,ho,_⟩:=I.ok.fO.mem hb;exact I.base.free b o ho (I.ok.vZ b hb) λz=>I.ok.kP b z hb
theorem Inv.step {g':Array GenState}{t':Nat}{d':Drawn}{ch:List Addr}(I:Inv X pins σ H s)
  (l5:∀b∈ch,(b∈X.ex\/X.s₀.heap.objs.size<=b)/\b≠X.env.locals/\(∀x c,X.env.cells.lookup x=some c->c≠b)/\∀p∈X.pn++pins,p.1≠b)
  (keep:∀b o,b≠X.env.locals->b∉X.fs->b∉ch->s.heap.get? b=some o->H b=none->h'.get? b=some o)
  (slot:∀b o,b≠X.env.locals->b∈X.fs->b∉ch->s.heap.get? b=some o->H b=none->∃sl,h'.get? b=some {o with slots:=sl}) (free:∀b o,b∉ch->s.heap.get? b=some o->H b=none->H' b=none)
  (there:∀b o,b∉ch->s.heap.get? b=some o->∃o',h'.get? b=some o')
  (eX:∀b xs,H b=some (.tup xs)->H' b=some (.tup xs)) (eO:∀b o u,H b=some (.tO o u)->H' b=some (.tO o u)) (eY:∀b ps,H b=some (.wK ps)->∃more,H' b=some (.wK (ps++more)))
  (ns:∀m,s.heap.Ns X.env.locals m->h'.Ns X.env.locals m) (a_:eW X.prog X.w H' h') (hg:NC g') :
  Inv X pins σ H' {s with heap:=h',gens:=g',drawn:=d',toks:=t'}:=by
 have Hv:∀b o,X.s₀.heap.get? b=some o->b≠X.env.locals:=λb o e=>Lu (Ll (K8 e) I.ok.above);have DC:∀b o,X.s₀.heap.get? b=some o->b∉X.ex->b∉ch:=λb o e hx hb=>by
  rcases (l5 b hb).1 with z|z
  ·exact hx z
  ·exact absurd (Ll (K8 e) z) (Mz _)
 have cellK:∀x c,X.env.cells.lookup x=some c->∀v,s.heap.IsCell c v->h'.IsCell c v:=λx c e v qr=>by
  obtain⟨o,ho,hd⟩:=qr;have BL:c∉ch:=λz=>(l5 c z).2.2.1 x c e rfl
  by_cases hc:c∈X.fs
  ·obtain⟨sl,q⟩:=slot c o (I.t6 x c e) hc BL ho (I.b9 x c e);exact⟨_,q,hd⟩
  ·exact⟨o,keep c o (I.t6 x c e) hc BL ho (I.b9 x c e),hd⟩
 refine⟨I.ok,I.os,hg,⟨λb o e n hb hx=>?_,λb o e n hb hx=>?_,λb o e n hx=>?_,λb o e hx=>?_,λb xs e=>eX b xs (I.base.eX b xs e),λb o xs e=>eO b o xs (I.base.eO b o xs e),λb ps e=>?_⟩,?_,λx c e=>?_,?_,λx c e=>?_,λp hp=>?_,a_,I.len⟩
 ·exact keep b o (Hv b o e) hb (DC b o e hx) (I.base.keep b o e n hb hx) (I.base.free b o e n hx)
 ·obtain⟨sl,e1⟩:=I.base.slot b o e n hb hx;obtain⟨oG,e2⟩:=slot b _ (Hv b o e) hb (DC b o e hx) e1 (I.base.free b o e n hx);exact⟨oG,e2⟩
 ·obtain⟨o',e1⟩:=I.base.there b o e hx;exact free b o' (DC b o e hx) e1 (I.base.free b o e n hx)
 ·obtain⟨o',e1⟩:=I.base.there b o e hx;exact there b o' (DC b o e hx) e1
 ·obtain⟨m1,e1⟩:=I.base.eY b ps e;obtain⟨m2,e2⟩:=eY b _ e1;exact⟨m1++m2,by rw[e2,Array.append_assoc]⟩
 ·obtain⟨m,hn,hl⟩:=I.loc;refine⟨m,ns m hn,λi x v e1 e2 e3=>?_⟩;obtain⟨u,r,l⟩:=hl i x v e1 e2 e3;refine⟨u,r,?_⟩;rcases l with l|⟨k,c,e,z⟩
  ·exact .inl l
  ·exact .inr ⟨k,c,e,cellK x c e _ z⟩
 ·obtain⟨v,z⟩:=I.cell x c e;exact⟨v,cellK x c e v z⟩
 ·obtain⟨m,⟨o,_,_,ho,_⟩,_⟩:=I.loc;exact free _ o (λz=>(l5 _ z).2.1 rfl) ho I.free
 ·obtain⟨v,o,ho,hd⟩:=I.cell x c e;exact free c o (λz=>(l5 c z).2.2.1 x c e rfl) ho (I.b9 x c e)
 ·obtain⟨e,n,ne,nf,d⟩:=I.pin p hp;have BL:p.1∉ch:=λz=>(l5 p.1 z).2.2.2 p hp rfl;exact⟨keep p.1 p.2 ne nf BL e n,free p.1 p.2 BL e n,ne,nf,d⟩
theorem Inv.un {t':Nat}(I:Inv X pins σ H s)(u:Un X.fs [] H H' s.heap h')(a_:eW X.prog X.w H' h'):Inv X pins σ H' {s with heap:=h',toks:=t'}:=by
 obtain⟨m,⟨o,es,ep,ho,r⟩,_⟩:=id I.loc;obtain⟨sl,hL⟩:=u.any ho I.free (by simp)
 exact I.step (g':=s.gens) (d':=s.drawn) (ch:=[]) (λ_ z=>nomatch z) (λb o _ hb _ e n=>u.keep b o e n hb (by simp)) (λb o _ hb _ e n=>u.slot b o e n hb (by simp)) (λb o _ e n=>u.free b o e n (by simp)) (λb o _ e=>u.there b o e (by simp)) u.eX u.eO u.eY (λm' hm=>by
  obtain⟨o',eL,je,qt,r'⟩:=hm;rw[ho]at qt;cases qt;exact⟨_,eL,je,hL,r'⟩) a_ I.bare
theorem Inv.call {g':Array GenState}{t':Nat}{d':Drawn}{ch:List Addr}(I:Inv X pins σ H s)(u:Un (dP X.stack) ch H H' s.heap h')(a_:eW X.prog X.w H' h')(hg:NC g')
  (l5:∀b∈ch,(b∈X.ex\/X.s₀.heap.objs.size<=b)/\b≠X.env.locals/\(∀x c,X.env.cells.lookup x=some c->c≠b)/\∀p∈X.pn++pins,p.1≠b) :
  Inv X pins σ H' {s with heap:=h',gens:=g',drawn:=d',toks:=t'}:=by
 obtain⟨m,⟨o,es,ep,ho,r⟩,_⟩:=id I.loc;obtain⟨sl,hL⟩:=u.any ho I.free λz=>(l5 _ z).2.1 rfl;exact I.step (ch:=ch) l5 (λb o hL hb hc e n=>u.keep b o e n (λz=>(K6.mp (I.m_ b z)).elim hL hb) hc) (λb o _ _ hc e n=>u.any e n hc) (λb o hc e n=>u.free b o e n hc) (λb o hc e=>u.there b o e hc) u.eX u.eO u.eY (λm' hm=>by
  obtain⟨o',eL,je,qt,r'⟩:=hm;rw[ho]at qt;cases qt;exact⟨_,eL,je,hL,r'⟩) a_ hg
theorem Inv.turned {t':Nat}{it:Addr}(I:Inv X pins σ H s)(k:∀b o,b≠it->s.heap.get? b=some o->h'.get? b=some o)(hn:H it=none)(hL:it≠X.env.locals)
  (h1:it∈X.ex\/X.s₀.heap.objs.size<=it) (h2:∀x c,X.env.cells.lookup x=some c->c≠it) (h3:∀p∈X.pn++pins,p.1≠it):Inv X pins σ H {s with heap:=h',toks:=t'}:=by
 have Hu:∀b u,H b=some u->b≠it:=λb u e z=>by rw[z,hn]at e;cases e
 refine I.step (g':=s.gens) (d':=s.drawn) (ch:=[it]) (λb hb=>?_) (λb o _ _ hc e _=>k b o (λz=>hc (by simp[z])) e) (λb o _ _ hc e _=>⟨o.slots,k b o (λz=>hc (by simp[z])) e⟩) (λ_ _ _ _ n=>n)
  (λb o hc e=>⟨o,k b o (λz=>hc (by simp[z])) e⟩) (λ_ _ e=>e) (λ_ _ _ e=>e) (λb ps e=>⟨#[],by rw[e];simp⟩) (λm hm=>?_) (λb u e=>?_) I.bare
 ·have e:b=it:=by simpa using hb
  subst e;exact⟨h1,hL,h2,h3⟩
 ·obtain⟨o,es,ep,ho,r⟩:=hm;exact⟨o,es,ep,k _ o (NV hL) ho,r⟩
 ·refine(I.a_ b u e).j5 (λc v hc q=>k c v ?_ q) (λ_ q=>q) λ_ _ q=>q;rcases hc with z|z
  ·rw[z];exact Hu b u e
  ·exact Hu c _ z
theorem Inv.tok (I:Inv X pins σ H s)(t:Nat):Inv X pins σ H {s with toks:=t}:=I.un (h':=s.heap) (t':=t) Un.refl I.a_
theorem Inv.kept {t':Nat}(I:Inv X pins σ H s)(k:∀b u,s.heap.get? b=some u->h'.get? b=some u):Inv X pins σ H {s with heap:=h',toks:=t'}:=I.un (Un.kept k) (I.a_.kept k)
theorem Inv.laid {a:Addr}{o:HO}{t':Nat}(I:Inv X pins σ H s)(k:∀b u,s.heap.get? b=some u->h'.get? b=some u)(hp:s.heap.objs.size<=a)(new:bY X.prog X.w (upd H a o) h' a o):
  Inv X pins σ (upd H a o) {s with heap:=h',toks:=t'}:=I.un (Un.laid k hp (I.a_.fresh hp)) (I.a_.laid k hp new)
theorem Inv.write {x e:Addr}{o:HO}{t':Nat}(I:Inv X pins σ H s)(mu:Ef (H x))(he:e=x\/H e=some (.own x))(k:∀b u,b≠e->s.heap.get? b=some u->h'.get? b=some u)(AF:∃u,h'.get? e=some u)
  (new:bY X.prog X.w (upd H x o) h' x o):Inv X pins σ (upd H x o) {s with heap:=h',toks:=t'}:=I.un (Un.write mu he k AF) (I.a_.write mu he k AF new)
theorem Inv.oN {d6:List (Addr×Obj)}(I:Inv X pins σ H s)(h:∀p∈d6,s.heap.get? p.1=some p.2/\H p.1=none/\p.1≠X.env.locals/\p.1∉X.fs/\∀v,p.2.data≠.cell v):Inv X d6 σ H s :=
 ⟨I.ok,I.os,I.bare,I.base,I.loc,I.cell,I.free,I.b9,λp hp=>(Lv.mp hp).elim (λz=>I.pin p (L6 _ z)) (h p),I.a_,I.len⟩
theorem iE {N:List Str}(hN:N.Nodup){i j:Nat}{x:Str}(a:N[i]?=some x)(b:N[j]?=some x):i=j:=by
 obtain⟨h1,e1⟩:=Lr.mp a;obtain⟨h2,e2⟩:=Lr.mp b;exact(List.getElem_inj hN).mp (e1.trans e2.symm)
theorem pM {M:OJ}{A:LI}{E:KR->KU->Prop}{i:Nat}{x:Str}{v:V}{u:KR}{Q:Unit->KU->Prop}(I:Inv X pins σ H s)(hN:X.N.Nodup)(hi:X.N[i]?=some x)(hx:Loc X.env.scope x)(r:RelV v u)
  (h:∀s',Inv X pins (σ.set i (some v)) H s'->(∃a,Mw a s.heap s'.heap/\(a=X.env.locals\/X.env.cells.lookup x=some a))->Q () s') (hf:X.fn x=true\/X.env.scope.names.lookup x=some .local:=by first|exact .inl rfl|exact .inr rfl|assumption):Ln M A (storeName X.env x u) Q E s:=by
 obtain⟨m,hn,hl⟩:=id I.loc;have zT:(X.env.scope.kind==.class || (X.env.scope.kind==.module&&X.env.locals != X.env.globals))=false:=by rw[I.ok.kind];rfl
 have CJ:i<σ.length:=by rw[I.len];exact(Lr.mp hi).1
 have t6:=I.t6;have tracked:∀{a:Addr} {h':Heap},(∃o,s.heap.get? a=some o/\H a=none)->Mw a s.heap h'->eW X.prog X.w H h':=λ{a h'} ha hs b ob e=>by
  obtain⟨_,_,xh⟩:=ha;refine(I.a_ b ob e).j5 (λc w' hc q=>(hs.2 c ?_).trans q) (λ_ q=>q) λ_ _ q=>q;rintro rfl;rcases hc with rfl|hc
  ·rw[xh]at e;cases e
  ·rw[xh]at hc;cases hc
 rcases hx with hk|hk
 ·refine wpAny_storeName_local hk hn (λh' tG hs=>?_) zT;obtain⟨oL,_,_,HL,_⟩:=id hn;refine h _ ⟨I.ok,I.os,I.bare,⟨λb o e n hb hx=>?_,λb o e n hb hx=>?_,I.base.free,λb o e hx=>?_,I.base.eX,I.base.eO,I.base.eY⟩,⟨_,tG,λj y v' e1 e2 e3=>?_⟩,λy c e=>?_,I.free,I.b9,λp hp=>?_,tracked ⟨oL,HL,I.free⟩ hs,by simpa using I.len⟩ ⟨_,hs,.inl rfl⟩
  ·exact(hs.2 b (Lu (Ll (K8 e) I.ok.above))).trans (I.base.keep b o e n hb hx)
  ·obtain⟨sl,e1⟩:=I.base.slot b o e n hb hx;exact⟨sl,(hs.2 b (Lu (Ll (K8 e) I.ok.above))).trans e1⟩
  ·obtain⟨o',e1⟩:=I.base.there b o e hx;exact⟨o',(hs.2 b (Lu (Ll (K8 e) I.ok.above))).trans e1⟩
  ·by_cases hj:j=i
   ·subst hj;rw[hi]at e1;cases e1;rw[List.getElem?_set_self CJ]at e2;cases e2;exact⟨u,r,.inl ⟨hk,by simp⟩⟩
   ·rw[Oc (NV hj)]at e2;obtain⟨u',r',q⟩:=hl j y v' e1 e2 e3;refine⟨u',r',?_⟩;rcases q with⟨k,e⟩|⟨k,c,e,z⟩
    ·refine .inl ⟨k,?_⟩;have:y≠x:=λe=>hj (iE hN e1 (e▸hi));simp[this,e]
    ·exact .inr ⟨k,c,e,z.sameBut hs (t6 y c e)⟩
  ·obtain⟨w',z⟩:=I.cell y c e;exact⟨w',z.sameBut hs (t6 y c e)⟩
  ·obtain⟨e,n,ne,nf,d⟩:=I.pin p hp;exact⟨(hs.2 p.1 ne).trans e,n,ne,nf,d⟩
 ·have Gs:X.fn x=true:=by
   rcases hf with z|z
   ·exact z
   ·rw[z]at hk;cases hk
  obtain⟨c,hc⟩:=I.ok.has x (.inl hk);obtain⟨w',z⟩:=I.cell x c hc;refine wpAny_storeName_cell I.ok.kind hk hc z (λh' uE hs=>?_);obtain⟨oc,zL,F6⟩:=id z;refine h {s with heap:=h'} ⟨I.ok,I.os,I.bare,⟨λb o e n hb hx=>?_,λb o e n hb hx=>?_,I.base.free,λb o e hx=>?_,I.base.eX,I.base.eO,I.base.eY⟩,⟨m,hn.sameBut hs (NV (t6 x c hc)),λj y v' e1 e2 e3=>?_⟩,λy c' e=>?_,I.free,I.b9,λp hp=>?_,tracked ⟨oc,zL,I.b9 x c hc⟩ hs,by simpa using I.len⟩ ⟨c,hs,.inr hc⟩
  ·exact(hs.2 b (Lu (Ll (K8 e) (I.ok.xE x c Gs hc)))).trans (I.base.keep b o e n hb hx)
  ·obtain⟨sl,e1⟩:=I.base.slot b o e n hb hx;exact⟨sl,(hs.2 b (Lu (Ll (K8 e) (I.ok.xE x c Gs hc)))).trans e1⟩
  ·obtain⟨o',e1⟩:=I.base.there b o e hx;exact⟨o',(hs.2 b (Lu (Ll (K8 e) (I.ok.xE x c Gs hc)))).trans e1⟩
  ·by_cases hj:j=i
   ·subst hj;rw[hi]at e1;cases e1;rw[List.getElem?_set_self CJ]at e2;cases e2;exact⟨u,r,.inr ⟨.inl hk,c,hc,uE⟩⟩
   ·rw[Oc (NV hj)]at e2;obtain⟨u',r',q⟩:=hl j y v' e1 e2 e3;refine⟨u',r',?_⟩;rcases q with q|⟨k,c',e,z'⟩
    ·exact .inl q
    ·refine .inr ⟨k,c',e,z'.sameBut hs ?_⟩;rintro rfl;exact hj (iE hN e1 (I.ok.inj _ _ _ e hc▸hi))
  ·by_cases H_:c'=c
   ·subst H_;exact⟨_,uE⟩
   ·obtain⟨w2,z2⟩:=I.cell y c' e;exact⟨w2,z2.sameBut hs H_⟩
  ·obtain⟨e,n,ne,nf,d⟩:=I.pin p hp;refine⟨(hs.2 p.1 ?_).trans e,n,ne,nf,d⟩;intro q;rw[q,zL]at e;have q':oc=p.2:=Lq e;exact d w' (by rw[<- q'];exact F6)
theorem h_ {M:OJ}{A:LI}{E:KR->KU->Prop}{i:Nat}{x:Str}{v:V}{u:KR}{Q:Unit->KU->Prop}(I:Inv X pins σ H s)(hN:X.N.Nodup)(hi:X.N[i]?=some x)(hx:Loc X.env.scope x)(r:RelV v u)
  (h:∀s',Inv X pins (σ.set i (some v)) H s'->Q () s') (hf:X.fn x=true\/X.env.scope.names.lookup x=some .local:=by first|exact .inl rfl|exact .inr rfl|assumption):Ln M A (storeName X.env x u) Q E s :=
 pM I hN hi hx r (λs' I' _=>h s' I') hf
theorem Inv.xD {s':KU}{ch:List Addr}(I:Inv X pins σ H s)(ho:s'.os=s.os)(u:Un (dP X.stack) ch H H' s.heap s'.heap)(a_:eW X.prog X.w H' s'.heap)(hg:NC s'.gens)
  (l5:∀b∈ch,(b∈X.ex\/X.s₀.heap.objs.size<=b)/\b≠X.env.locals/\(∀x c,X.env.cells.lookup x=some c->c≠b)/\∀p∈X.pn++pins,p.1≠b):Inv X pins σ H' s':=by
 obtain⟨h',g',d',t',o'⟩:=s';have e:o'=s.os:=ho;subst e;exact I.call (g':=g') (t':=t') (d':=d') u a_ hg l5
end
abbrev XK:=KR->Option Addr->Hp->Prop
abbrev St:=List (Option V)
abbrev VK:=V->Hp->Prop
abbrev TE:=St->Hp->VK->Prop
abbrev TT:=St->Hp->(Bool->Hp->Prop)->Prop
abbrev TA:=St->Hp->(List V->Hp->Prop)->Prop
structure Ends where
 nx:St->Hp->Prop
 rt:VK
 bk:St->Hp->Prop:=λ_ _=>False
 ct:St->Hp->Prop:=λ_ _=>False
abbrev TS:=Ends->St->Hp->Prop
def EP (X:Cx)(pins:List (Addr×Obj))(σ:St)(Q:VK)(u:KR)(s':KU):Prop:=∃v H',Inv X pins σ H' s'/\RelV v u/\Q v H'
def TP (X:Cx)(pins:List (Addr×Obj))(σ:St)(Q:Bool->Hp->Prop)(b:Bool)(s':KU):Prop:=∃H',Inv X pins σ H' s'/\Q b H'
def AP (X:Cx)(pins:List (Addr×Obj))(σ:St)(Q:List V->Hp->Prop)(us:List KR)(s':KU):Prop:=∃vs H',Inv X pins σ H' s'/\Vals vs us/\Q vs H'
def SP (X:Cx)(pins:List (Addr×Obj))(D:Ends)(f:Flow)(s':KU):Prop :=
 match f with
 |.next=>∃σ' H',Inv X pins σ' H' s'/\D.nx σ' H'
 |.brk=>∃σ' H',Inv X pins σ' H' s'/\D.bk σ' H'
 |.cont=>∃σ' H',Inv X pins σ' H' s'/\D.ct σ' H'
 |.ret u=>∃v σ' H',Inv X pins σ' H' s'/\RelV v u/\D.rt v H'
def PE (X:Cx)(e:Expr)(t:TE):Prop :=
 ∀(pins:List (Addr×Obj)) (s:KU) (σ:St) (H:Hp) (Q:VK),Inv X pins σ H s->t σ H Q->Ln (model X.prog X.w) X.A (eval e X.env) (EP X pins σ Q) X.xe s
def PT (X:Cx)(e:Expr)(t:TT):Prop :=
 ∀(pins:List (Addr×Obj)) (s:KU) (σ:St) (H:Hp) (Q:Bool->Hp->Prop),Inv X pins σ H s->t σ H Q->Ln (model X.prog X.w) X.A (isTrue e X.env (eval e X.env)) (TP X pins σ Q) X.xe s
def PW (X:Cx)(e:Expr)(t:TT):Prop :=
 ∀(whole:Sem KR) (pins:List (Addr×Obj)) (s:KU) (σ:St) (H:Hp) (Q:Bool->Hp->Prop),Inv X pins σ H s->t σ H Q->Ln (model X.prog X.w) X.A (isTrue e X.env whole) (TP X pins σ Q) X.xe s
theorem PW.pt {X:Cx}{e:Expr}{t:TT}(h:PW X e t):PT X e t:=h _
def PA (X:Cx)(es:List Expr)(t:TA):Prop :=
 ∀(pos:Pos) (pins:List (Addr×Obj)) (s:KU) (σ:St) (H:Hp) (Q:List V->Hp->Prop),Inv X pins σ H s->t σ H Q->Ln (model X.prog X.w) X.A (spliced (L8 pos (K5 es X.env))) (AP X pins σ Q) X.xe s
def PS (X:Cx)(st:Stmt)(t:TS):Prop :=
 ∀(pins:List (Addr×Obj)) (s:KU) (σ:St) (H:Hp) (D:Ends),Inv X pins σ H s->t D σ H->Ln (model X.prog X.w) X.A (exec st X.env) (SP X pins D) X.xe s
def mM (X:Cx)(st:List Stmt)(t:TS):Prop :=
 ∀(pins:List (Addr×Obj)) (s:KU) (σ:St) (H:Hp) (D:Ends),Inv X pins σ H s->t D σ H->Ln (model X.prog X.w) X.A (execs st X.env) (SP X pins D) X.xe s
theorem bj {α:Type}{t:Sem α}{Q Q':α->KU->Prop}{M:OJ}{A:LI}{E:KR->KU->Prop}{s:KU}(h:Ln M A t Q E s)(hQ:∀a s,Q a s->Q' a s):Ln M A t Q' E s:=MQ h hQ λ_ _ x=>x
section
variable {X:Cx}
def AW (i:Nat):TE:=λσ H Q=>∃v,σ[i]?=some (some v)/\Q v H
def tC (v:V):TE:=λ_ H Q=>Q v H
theorem eZ {i:Nat} {x:Str} {pos:Pos} (hN:X.N[i]?=some x) (hv:uG X.env.scope x) (hd:(x==("__debug__" : Str))=false:=by decide) (g8:(x==("__classdict__" : Str))=false:=by decide):PE X (.Name x pos) (AW i):=by
 intro pins s σ H Q I h;obtain⟨v,e,h⟩:=h;obtain⟨m,hn,hl⟩:=I.loc;obtain⟨u,r,l⟩:=hl i x v hN e hv;have fin:EP X pins σ Q u s:=⟨v,H,I,r,h⟩;rcases l with⟨hk,hm⟩|⟨hk,c,hc,jG⟩
 ·exact wpAny_Name (wpAny_loadName_local I.ok.kind hk hn hm fin) hd
 ·rcases hk with hk|hk
  ·exact wpAny_Name (wpAny_loadName_cell I.ok.kind hk hc jG fin) hd
  ·exact wpAny_Name (wpAny_loadName_free I.ok.kind hk hc jG fin g8) hd
theorem aT {i j pos}:PE X (.Constant (.int i) j pos) (tC (.int i)):=λ_ _ _ H _ I h=>wpAny_Constant_int ⟨.int i,H,I.tok _,⟨_,rfl⟩,h⟩
theorem wO {b j pos}:PE X (.Constant (.bool b) j pos) (tC (.bl b)):=λ_ _ _ H _ I h=>Constant_bool ⟨.bl b,H,I,rfl,h⟩
theorem yC {j pos}:PE X (.Constant .none j pos) (tC .bx):=λ_ _ _ H _ I h=>Constant_none ⟨.bx,H,I,rfl,h⟩
theorem yA {x j pos}:PE X (.Constant (.str x) j pos) (tC (.str x)):=λ_ _ _ H _ I h=>Calls.Constant_str ⟨.str x,H,I.tok _,⟨_,rfl⟩,h⟩
def Gl (X:Cx)(x:Str):Prop:=X.env.kindOf x=some .globalImplicit
theorem fJ {E:KR->KU->Prop}{pins:List (Addr×Obj)}{s:KU}{σ:St}{H:Hp}{x:Str}{u:KR}{pos:Pos}{Q:KR->KU->Prop}(I:Inv X pins σ H s)(hg:Gl X x)(hm:X.mg x=some u)(h:Q u s)
  (hd:(x==("__debug__" : Str))=false:=by decide):Ln (model X.prog X.w) X.A (eval (.Name x pos) X.env) Q E s :=
 OY I.ok.kind hg (Calls.loadGlobal_global (by rw[I.ok.glob];exact I.mod.glob.keeps I.bk) hm h) hd
theorem iI {E:KR->KU->Prop}{pins:List (Addr×Obj)}{s:KU}{σ:St}{H:Hp}{x:Str}{u:KR}{pos:Pos}{Q:KR->KU->Prop}(I:Inv X pins σ H s)(hg:Gl X x)(hm:X.mg x=none)(hv:LM x=some u)(h:Q u s)
  (hn:x≠"__name__" := by decide) (hd:(x==("__debug__" : Str))=false:=by decide):Ln (model X.prog X.w) X.A (eval (.Name x pos) X.env) Q E s:=by
 obtain⟨mb,h1,h2⟩:=I.mod.blt;exact OY I.ok.kind hg (Calls.loadGlobal_builtin (by rw[I.ok.glob];exact I.mod.glob.keeps I.bk) hm (by rw[I.ok.blt];exact h1.keeps I.bk) ((h2 x hn).trans hv) h) hd
theorem oQ {x:Str} {v:V} {u:KR} {pos:Pos} (hg:Gl X x) (hm:X.mg x=some u) (r:RelV v u) (hd:(x==("__debug__" : Str))=false:=by decide):PE X (.Name x pos) (tC v) :=
 λ_ _ _ H _ I h=>fJ I hg hm ⟨v,H,I,r,h⟩ hd
theorem vh {x:Str} {v:V} {u:KR} {pos:Pos} (hg:Gl X x) (hm:X.mg x=none) (hv:LM x=some u) (r:RelV v u) (hn:x≠"__name__" := by decide) (hd:(x==("__debug__" : Str))=false:=by decide):PE X (.Name x pos) (tC v) :=
 λ_ _ _ H _ I h=>iI I hg hm hv ⟨v,H,I,r,h⟩ hn hd
variable {a b:Expr}{ta tb:TE}{pos:Pos}
theorem lK (b:Expr){op:Ng}(h:op≠.In)(h2:op≠.NotIn):Mx op b=false:=by
 have e1:(op==CmpOp.In)=false:=by cases op <;> first|rfl|exact absurd rfl h
 have e2:(op==CmpOp.NotIn)=false:=by cases op <;> first|rfl|exact absurd rfl h2
 cases b <;> simp[Mx,e1,e2]
def tB (t:TE):TT:=λσ H Q=>t σ H λx H1=>∃c,x=.bl c/\Q c H1
theorem yq {e:Expr}{t:TE}(h:PE X e t)(he:∀whole,isTrue e X.env whole=(do let v <- whole;OQ e.pos;holding [v] (truthy v)):=by intro _;rfl):PT X e (tB t):=by
 intro pins s σ H Q I hw;refine isTrue_plain (bj (h pins s σ H _ I hw) λv s1 ⟨x,H1,I1,r1,q1⟩=>?_) (he _);obtain⟨d,rfl,q⟩:=q1;cases r1;exact MD ⟨H1,I1,q⟩
variable {tA Dt:TT}{rest:List Expr}
def EE (t u:TT):TT:=λσ H Q=>t σ H λc H1=>if c=true then u σ H1 Q else Q false H1
def IE (t u:TT):TT:=λσ H Q=>t σ H λc H1=>if c=true then Q true H1 else u σ H1 Q
def Ex (t:TT):TT:=λσ H Q=>t σ H λc H1=>Q (!c) H1
theorem pw_and1 (ha:PT X a tA):PW X (.BoolOp .And [a] pos) tA:=by
 intro wh pins s σ H Q I h;refine isTrue_and (bj (ha pins s σ H Q I h) λc s1 e=>?_);cases c with
 |true=>exact isTrue_and_nil e
 |false=>exact e
theorem pw_or1 (ha:PT X a tA):PW X (.BoolOp .Or [a] pos) tA:=by
 intro wh pins s σ H Q I h;refine isTrue_or (bj (ha pins s σ H Q I h) λc s1 e=>?_);cases c with
 |false=>exact isTrue_or_nil e
 |true=>exact e
theorem pw_and (ha:PT X a tA)(hb:PW X (.BoolOp .And (b::rest) pos) Dt):PW X (.BoolOp .And (a::b::rest) pos) (EE tA Dt):=by
 intro wh pins s σ H Q I h;refine isTrue_and (bj (ha pins s σ H _ I h) λc s1 ⟨H1,I1,q1⟩=>?_);cases c with
 |true=>exact hb wh pins s1 σ H1 Q I1 q1
 |false=>exact⟨H1,I1,q1⟩
theorem pw_or (ha:PT X a tA)(hb:PW X (.BoolOp .Or (b::rest) pos) Dt):PW X (.BoolOp .Or (a::b::rest) pos) (IE tA Dt):=by
 intro wh pins s σ H Q I h;refine isTrue_or (bj (ha pins s σ H _ I h) λc s1 ⟨H1,I1,q1⟩=>?_);cases c with
 |true=>exact⟨H1,I1,q1⟩
 |false=>exact hb wh pins s1 σ H1 Q I1 q1
theorem yr (ha:PT X a tA):PT X (.UnaryOp .Not a pos) (Ex tA):=by
 intro pins s σ H Q I h;exact isTrue_not (ha pins s σ H (λc H1=>Q (!c) H1) I h)
def Ew (ta tb:TE):TE:=λσ H Q=>ta σ H λx H1=>∃c,x=.bl c/\if c=true then Q (.bl true) H1 else tb σ H1 Q
theorem yB {op}{t:TE}(h:PE X a t):PE X (.BoolOp op [a] pos) t:=λpins s σ H Q I hw=>BoolOp_one (h pins s σ H Q I hw)
theorem Bx (ha:PE X a ta)(hb:PE X (.BoolOp .Or (b::rest) pos) tb):PE X (.BoolOp .Or (a::b::rest) pos) (Ew ta tb):=by
 intro pins s σ H Q I h;refine BoolOp_or (bj (ha pins s σ H _ I h) λv s1 ⟨x,H1,I1,r1,q1⟩=>?_);obtain⟨c,rfl,q1⟩:=q1;cases r1;refine MD ?_;cases c with
 |false=>exact hb pins s1 σ H1 Q I1 q1
 |true=>exact⟨.bl true,H1,I1,rfl,q1⟩
end
def de (K:PySem.W.Frag)(H:Hp)(a:Addr)(xs:List V):Prop :=
 Rd H a (.lst xs) \/
  ∃(o:Obj) (its:Array KR) (n:Nat),K.lookup a=some o/\o.cls=.type "list" /\ o.dict=none/\o.data=.seq its n/\its.size<=Lk/\Vals xs its.toList
def q0 (K:PySem.W.Frag)(H:Hp)(a:Addr)(xs:List V):Prop :=
 Rd H a (.tup xs) \/
  ∃(o:Obj) (its:Array KR) (n:Nat),K.lookup a=some o/\o.cls=.type "tuple" /\ o.data=.seq its n/\its.size<=Lk/\Vals xs its.toList
def G1:KR->Option V
 |.none=>some .bx
 |.bool b=>some (.bl b)
 |.int i _=>some (.int i)
 |.str x _=>some (.str x)
 |.bytes b _=>some (.wu b)
 |.float b _=>some (.GK b)
 |.ref a=>some (.ref a)
 |.type n=>some (.ty n)
 |_=>none
theorem RelV.abs {x:V}{u:KR}(r:RelV x u):G1 u=some x:=by
 cases x with
 |bx=>cases r;rfl
 |bl _=>cases r;rfl
 |int _=>obtain⟨t,rfl⟩:=r;rfl
 |str _=>obtain⟨t,rfl⟩:=r;rfl
 |wu _=>obtain⟨t,rfl⟩:=r;rfl
 |GK _=>obtain⟨t,rfl⟩:=r;rfl
 |ref _=>cases r;rfl
 |ty _=>cases r;rfl
theorem RelV.inj {x y:V}{u:KR}(r:RelV x u)(q:RelV y u):x=y:=Lq (r.abs.symm.trans q.abs)
theorem Vals.inj:∀{xs ys:List V} {us:List KR},Vals xs us->Vals ys us->xs=ys
 |_,_,_,.nil,.nil=>rfl
 |_,_,_,.cons r t,.cons r' t'=>by rw[r.inj r',Vals.inj t t']
section
variable {X:Cx}{pins:List (Addr×Obj)}{σ:St}{H:Hp}{s:KU}{a:Addr}{xs ys:List V}
theorem de.of {K:PySem.W.Frag}(h:H a=some (.lst xs)):de K H a xs:=.inl (.inl h)
theorem q0.of {K:PySem.W.Frag}(h:H a=some (.tup xs)):q0 K H a xs:=.inl (.inl h)
theorem Inv.list (I:Inv X pins σ H s)(h:de X.K H a xs):∃its:List KR,Vals xs its/\PlainL s.heap a its.toArray/\xs.length<=Lk:=by
 rcases h with h|⟨o,its,n,hk,hc,hd,hs,hz,r⟩
 ·obtain⟨z,its,n,r,e⟩:=h.ok I.a_;exact⟨its,r,⟨_,n,e,rfl,rfl,rfl⟩,z⟩
 ·refine⟨its.toList,r,⟨o,n,I.qY a o hk,hc,hd,by simpa using hs⟩,?_⟩
  have e:=r.length;simp only[K2]at e;lia
theorem Inv.tuple (I:Inv X pins σ H s)(h:q0 X.K H a xs):∃its:List KR,Vals xs its/\IsTup s.heap a its.toArray/\xs.length<=Lk:=by
 rcases h with h|⟨o,its,n,hk,hc,hs,hz,r⟩
 ·obtain⟨z,its,r,p⟩:=h.ok I.a_;exact⟨its,r,p,z⟩
 ·refine⟨its.toList,r,⟨o,I.qY a o hk,hc,n,by simpa using hs⟩,?_⟩
  have e:=r.length;simp only[K2]at e;lia
theorem Inv.sX (I:Inv X pins σ H s)(h:de X.K H a xs)(h':de X.K H a ys):xs=ys:=by
 obtain⟨its,r,⟨o,n,e,_,_,d⟩,_⟩:=I.list h;obtain⟨its',r',⟨o',n',e',_,_,d'⟩,_⟩:=I.list h';rw[e]at e';cases e';rw[d]at d';injection d' with d1 _
 have:its=its':=by simpa using congrArg Array.toList d1
 subst this;exact r.inj r'
end
abbrev Cx.hV (X:Cx)(E:KR->KU->Prop):Cx:={X with xe:=E}
abbrev Cx.mU (X:Cx):Cx:=X.hV λ_ _=>False
theorem Cx.Ok.hV {X:Cx}(ok:X.Ok)(E:KR->KU->Prop):(X.hV E).Ok :=
 ⟨ok.mod,ok.kind,ok.glob,ok.blt,ok.above,ok.inj,ok.has,ok.xE,ok.hd,ok.frames,ok.x_,ok.wb,ok.bs,ok.ue,ok.lI,ok.kP,ok.fO,ok.vZ⟩
theorem Cx.Ok.dk {X:Cx}{E:KR->KU->Prop}(ok:(X.hV E).Ok):X.Ok :=
 ⟨ok.mod,ok.kind,ok.glob,ok.blt,ok.above,ok.inj,ok.has,ok.xE,ok.hd,ok.frames,ok.x_,ok.wb,ok.bs,ok.ue,ok.lI,ok.kP,ok.fO,ok.vZ⟩
section
variable {X:Cx}{pins:List (Addr×Obj)}{σ:St}{H:Hp}{s:KU}{E:KR->KU->Prop}
theorem Inv.hV (I:Inv X pins σ H s)(E:KR->KU->Prop):Inv (X.hV E) pins σ H s:=⟨I.ok.hV E,I.os,I.bare,I.base,I.loc,I.cell,I.free,I.b9,I.pin,I.a_,I.len⟩
theorem Inv.dk (I:Inv (X.hV E) pins σ H s):Inv X pins σ H s:=⟨I.ok.dk,I.os,I.bare,I.base,I.loc,I.cell,I.free,I.b9,I.pin,I.a_,I.len⟩
theorem SP.dk {D:Ends}{f:Flow}{s':KU}(h:SP (X.hV E) pins D f s'):SP X pins D f s':=by
 cases f with
 |next=>obtain⟨σ',H',I,q⟩:=h;exact⟨σ',H',I.dk,q⟩
 |brk=>obtain⟨σ',H',I,q⟩:=h;exact⟨σ',H',I.dk,q⟩
 |cont=>obtain⟨σ',H',I,q⟩:=h;exact⟨σ',H',I.dk,q⟩
 |ret u=>obtain⟨v,σ',H',I,r,q⟩:=h;exact⟨v,σ',H',I.dk,r,q⟩
theorem mM.mU {st:List Stmt}{t:TS}(h:mM X.mU st t):mM X st t:=λpins s σ H D I hw =>
 MQ (h pins s σ H D (I.hV _) hw) (λ_ _ q=>q.dk) λ_ _ z=>Ml z
end
section
variable {X:Cx}{st:Stmt}{rest:List Stmt}{t u:TS}{e:Expr}{te:TE}{pos:Pos}
def A5:TS:=λD σ H=>D.nx σ H
def Et (t u:TS):TS:=λD σ H=>t {D with nx:=u D} σ H
theorem oI:mM X [] A5:=λ_ _ σ H _ I h=>N1 ⟨σ,H,I,h⟩
theorem cC (h1:PS X st t)(h2:mM X rest u):mM X (st::rest) (Et t u):=by
 intro pins s σ H D I h;refine wpAny_execs_cons (bj (h1 pins s σ H {D with nx:=u D} I h) λf s1 q=>?_)
 cases f with
 |next =>
  obtain⟨σ',H',I',q⟩:=q;exact h2 pins s1 σ' H' D I' q
 |ret v=>exact q
 |brk=>exact q
 |cont=>exact q
theorem eF (h1:PS X st t):mM X [st] t:=by
 intro pins s σ H D I h;refine wpAny_execs_cons (bj (h1 pins s σ H D I h) λf s1 q=>?_);cases f with
 |next=>exact N1 q
 |ret v=>exact q
 |brk=>exact q
 |cont=>exact q
theorem Inv.quiet {pins:List (Addr×Obj)}{σ:St}{H:Hp}{s:KU}(I:Inv X pins σ H s):interactive X.env=false:=by simp[interactive,I.ok.kind]
def A6 (te:TE):TS:=λD σ H=>te σ H λ_ H1=>D.nx σ H1
theorem gX (he:PE X e te)(hs:M5 e none pos.line X.env=pure false:=by rfl):PS X (.Expr e pos) (A6 te):=by
 intro pins s σ H D I h;exact wpAny_Expr_any (bj (he pins s σ H _ I h) λv s1 tw=>by obtain⟨x,H1,I1,r1,q1⟩:=tw;exact⟨σ,H1,I1,q1⟩) I.quiet hs
def Eu (te:TE):TS:=λD σ H=>te σ H D.rt
theorem iq (he:PE X e te):PS X (.Return (some e) pos) (Eu te):=by
 intro pins s σ H D I h;exact wpAny_Return_some (bj (he pins s σ H _ I h) λv s1 tv=>by obtain⟨x,H1,I1,r1,q1⟩:=tv;exact⟨x,σ,H1,I1,r1,q1⟩)
def EA (c:TT)(t u:TS):TS:=λD σ H=>c σ H λb H1=>if b=true then t D σ H1 else u D σ H1
theorem wM {c:Expr}{a b:List Stmt}{tc:TT}(hc:PT X c tc)(ha:mM X a t)(hb:mM X b u):PS X (.If c a b pos) (EA tc t u):=by
 intro pins s σ H D I h;refine wpAny_If (bj (hc pins s σ H _ I h) λd s1 ⟨H1,I1,q1⟩=>?_);cases d with
 |true=>exact ha pins s1 σ H1 D I1 q1
 |false=>exact hb pins s1 σ H1 D I1 q1
end
abbrev TG:=V->St->Hp->(St->Hp->Prop)->Prop
abbrev xH:=List V->St->Hp->(St->Hp->Prop)->Prop
def PG (X:Cx)(target:Expr)(t:TG):Prop :=
 ∀(pins:List (Addr×Obj)) (s:KU) (σ:St) (H:Hp) (v:V) (u:KR) (Q:St->Hp->Prop),Inv X pins σ H s->RelV v u->t v σ H Q ->
  Ln (model X.prog X.w) X.A (assign target X.env u) (λ_ s'=>∃σ' H',Inv X pins σ' H' s'/\Q σ' H') X.xe s
def xN (X:Cx)(ts:List Expr)(t:xH):Prop :=
 ∀(pins:List (Addr×Obj)) (s:KU) (σ:St) (H:Hp) (vs:List V) (us:List KR) (Q:St->Hp->Prop),Inv X pins σ H s->Vals vs us->t vs σ H Q ->
  Ln (model X.prog X.w) X.A (assignInOrder ((Mu ts X.env).map (·.2)) us) (λ_ s'=>∃σ' H',Inv X pins σ' H' s'/\Q σ' H') X.xe s
abbrev Am:=V->V->V->Hp->(Hp->Prop)->Prop
def Dk (X:Cx)(t:Am):Prop :=
 ∀(pins:List (Addr×Obj)) (s:KU) (σ:St) (H:Hp) (o i v:V) (ov iv u:KR) (Q:Hp->Prop),Inv X pins σ H s->RelV o ov->RelV i iv->RelV v u->t o i v H Q ->
  Ln (model X.prog X.w) X.A (setItem ov iv u) (λ_ s'=>∃H',Inv X pins σ H' s'/\Q H') X.xe s
section
variable {X:Cx}{pos:Pos}
def xn (i:Nat):TG:=λv σ H Q=>Q (σ.set i (some v)) H
theorem vg {i:Nat}{x:Str}(hN:X.N.Nodup)(hi:X.N[i]?=some x)(hx:Loc X.env.scope x)(hf:X.fn x=true\/X.env.scope.names.lookup x=some .local:=by first|exact .inl rfl|exact .inr rfl|assumption):PG X (.Name x pos) (xn i):=by
 intro pins s σ H v u Q I r h;exact wpAny_assign_Name (h_ I hN hi hx r (λs' I'=>⟨_,H,I',h⟩) hf)
def zZ:xH:=λvs σ H Q=>vs=[]/\Q σ H
def tM (t:TG)(u:xH):xH:=λvs σ H Q=>∃v r,vs=v::r/\t v σ H λσ' H'=>u r σ' H' Q
theorem vf:xN X [] zZ:=by
 intro pins s σ H vs us Q I r h;obtain⟨e,h⟩:=h;subst e;cases r;exact assignInOrder_nil ⟨σ,H,I,h⟩
theorem sf {e:Expr}{es:List Expr}{t:TG}{u:xH}(h1:PG X e t)(h2:xN X es u)
  (hs:(Mu (e::es) X.env).map (·.2)=assign e X.env::(Mu es X.env).map (·.2):=by rfl):xN X (e::es) (tM t u):=by
 intro pins s σ H vs us Q I r h;obtain⟨v,vr,e1,h⟩:=h;subst e1;cases r with
 |cons r rr =>
  rw[hs];refine assignInOrder_cons (bj (h1 pins s σ H _ _ _ I r h) λ_ s1 ⟨σ1,H1,I1,q1⟩=>?_);exact h2 pins s1 σ1 H1 _ _ Q I1 rr q1
def GD (K:PySem.W.Frag)(n:Nat)(t:xH):TG:=λv σ H Q=>∃a xs,v=.ref a/\q0 K H a xs/\xs.length=n/\t xs σ H Q
theorem yz {es:List Expr}{k:Nat}{t:xH}{n:Nat}(hc:X.calm=true)(h:xN X es t)
  (hn:(Mu es X.env).length=n:=by rfl) (kG:(Mu es X.env).findIdx? (·.1)=none:=by rfl):PG X (.Tuple es k pos) (GD X.K n t):=by
 intro pins s σ H v u Q I r hw;obtain⟨a,xs,e1,hq,hl,hw⟩:=hw;subst e1;cases r;obtain⟨its,rv,ht,hz⟩:=I.tuple hq;refine assign_Tuple_tuple (I.ok.hd hc) ht (by simp[hn,<- hl,rv.length]) kG λh' hx=>?_
 have I1:Inv X pins σ H {s with heap:=h'}:=I.kept (t':=s.toks) λb o e=>hx b o (Lu (K8 e)) e
 exact h pins _ σ H xs _ Q I1 (by simpa using rv) hw
def GF (to ti:TE)(t:Am):TG:=λv σ H Q=>to σ H λo H1=>ti σ H1 λi H2=>t o i v H2 λH3=>Q σ H3
theorem sg {o i:Expr}{to ti:TE}{t:Am}(ho:PE X o to)(hi:PE X i ti)(hs:Dk X t)
  (ha:∀v,assign (.Subscript o i pos) X.env v=(do
   let ov <- holding [v] (eval o X.env)
   let iv <- holding [v,ov] (eval i X.env)
   OQ pos
   holding [v,ov,iv] (setItem ov iv v)
   release [v,ov,iv] []):=by intro _;rfl):PG X (.Subscript o i pos) (GF to ti t):=by
 intro pins s σ H v u Q I r h;rw[ha];refine KS (L7 (bj (ho pins s σ H _ I h) λov s1 ⟨x,H1,I1,r1,q1⟩=>?_));refine KS (L7 (bj (hi pins s1 σ H1 _ I1 q1) λiv s2 ⟨y,H2,I2,r2,q2⟩=>?_));refine KS (M_ (KS (L7 (bj (hs pins s2 σ H2 x y v ov iv u _ I2 r1 r2 r q2) λ_ s3 ⟨H3,I3,q3⟩=>?_))));exact wpAny_release ⟨σ,H3,I3,q3⟩
def A9 (te:TE)(g:TG):TS:=λD σ H=>te σ H λx H1=>g x σ H1 D.nx
theorem nz {tg e:Expr}{te:TE}{g:TG}(he:PE X e te)(hg:PG X tg g)(hs:swapsWithSole [tg] e pos.line X.env=pure false:=by rfl)(hw:swappedStores [tg] e X.env=pure none:=by rfl)
  (h1:(Mu [tg] X.env).map (·.2)=[assign tg X.env]:=by rfl):PS X (.Assign [tg] e pos) (A9 te g):=by
 intro pins s σ H D I h;refine wpAny_Assign_stores (bj (he pins s σ H _ I h) λv s1 ⟨x,H1,I1,r1,q1⟩=>?_) hs hw;rw[h1];exact bj (hg pins s1 σ H1 x v _ I1 r1 q1) λ_ s2 q=>q
theorem ny {i:Nat}{x:Str}{e:Expr}{te:TE}{pos':Pos}(hN:X.N.Nodup)(hi:X.N[i]?=some x)(hx:Loc X.env.scope x)(he:PE X e te)(hs:M5 e (some (.Name x pos')) pos.line X.env=pure false:=by rfl)(hf:X.fn x=true\/X.env.scope.names.lookup x=some .local:=by first|exact .inl rfl|exact .inr rfl|assumption):
  PS X (.Assign [.Name x pos'] e pos) (A9 te (xn i)):=by
 intro pins s σ H D I h;refine wpAny_Assign_Name (bj (he pins s σ H _ I h) λv s1 ⟨y,H1,I1,r1,q1⟩=>?_) hs;exact h_ I1 hN hi hx r1 (λs2 I2=>⟨_,H1,I2,q1⟩) hf
end
section
end
structure It where
 go:Nat->Hp->Prop
 Dq:Nat->Hp->V->Hp->Prop
 stop:Nat->Hp->Prop
def dN (X:Cx)(pins:List (Addr×Obj))(H:Hp)(b:Addr):Prop :=
 H b=none/\b≠X.env.locals/\b∉X.fs/\(b∈X.ex\/X.s₀.heap.objs.size<=b)/\(∀x c,X.env.cells.lookup x=some c->c≠b)/\∀p∈X.pn++pins,p.1≠b
theorem Inv.v3 {X:Cx}{pins:List (Addr×Obj)}{σ:St}{H H':Hp}{s:KU}{b:Addr}(I:Inv X pins σ H s)(hb:s.heap.objs.size<=b)(hn:H' b=none):dN X pins H' b:=by
 refine⟨hn,Nat.ne_of_gt (Ll I.lt hb),I.Fg hb,.inr (L4 I.sz hb),λx c e z=>?_,λp hp z=>?_⟩
 ·obtain⟨v,q⟩:=I.cell x c e;exact absurd (Ll q.lt (by rw[z];exact hb)) (Mz _)
 ·exact absurd (Ll (K8 (I.pin p hp).1) (by rw[z];exact hb)) (Mz _)
structure Turn (P:K3)(w:Lf)(K:PySem.W.Frag)(tg:Expr)(J:It)(fp:List Addr)(it:Addr)(tn:Nat->Heap->Prop):Prop where
 mem:it∈fp
 obj:∀i h,tn i h->∀b∈fp,∃o,h.get? b=some o/\∀v,o.data≠.cell v
 keep:∀i h h',tn i h->(∀b∈fp,∀o,h.get? b=some o->h'.get? b=some o)->tn i h'
 item:∀(X:Cx),X.prog=P->X.w=w->X.K=K->X.calm=true->∀(i:Nat) (pins:List (Addr×Obj)) (s:KU) (σ:St) (H:Hp) (E:KR->KU->Prop),Inv X pins σ H s->(∀b∈fp,dN X pins H b)->tn i s.heap->J.go i H ->
  Ln (model P w) X.A (Oo (.ref it)) (λr s1=>∃u,r=some u /\
   Ln (model P w) X.A (N2 tg (.ref it) u) (λ_ s2=>∃x H',Inv X pins σ H' s2/\RelV x u/\J.Dq i H x H'/\tn (i+1) s2.heap/\∀b∈fp,H' b=none) E s1) E s
 done:∀(X:Cx),X.prog=P->X.w=w->X.K=K->X.calm=true->∀(i:Nat) (pins:List (Addr×Obj)) (s:KU) (σ:St) (H:Hp) (E:KR->KU->Prop),Inv X pins σ H s->(∀b∈fp,dN X pins H b)->tn i s.heap->J.stop i H ->
  Ln (model P w) X.A (Oo (.ref it)) (λr s1=>r=none/\Inv X pins σ H s1) E s
 self:∀(A:LI) (i:Nat) (s:KU) (Q:KR->KU->Prop) (E:KR->KU->Prop),tn i s.heap->Q (.ref it) s->Ln (model P w) A (OS (.ref it)) Q E s
abbrev TI:=St->Hp->(It->Hp->Prop)->Prop
def Ec (X:Cx)(pins:List (Addr×Obj))(σ:St)(tg:Expr)(R:It->Hp->Prop)(uz:KR)(s2:KU):Prop :=
 ∃(it:Addr) (fp:List Addr) (tn:Nat->Heap->Prop) (J:It) (H':Hp),uz=.ref it/\Inv X pins σ H' s2/\Turn X.prog X.w X.K tg J fp it tn/\tn 0 s2.heap/\(∀b∈fp,dN X pins H' b)/\R J H'
def PI (X:Cx)(tg iter:Expr)(wi:TI):Prop :=
 ∀(pins:List (Addr×Obj)) (s:KU) (σ:St) (H:Hp) (R:It->Hp->Prop),Inv X pins σ H s->wi σ H R ->
  Ln (model X.prog X.w) X.A (eval iter X.env) (λv s1=>Ln (model X.prog X.w) X.A (OS v) (Ec X pins σ tg R) X.xe s1) X.xe s
theorem xk {M:OJ}{A:LI}{E:KR->KU->Prop}{s:KU}{tg:Expr}{it:Addr}{u:KR}{o:Obj}{n:String}{vs:Array KR}{Q:Unit->KU->Prop}(ho:s.heap.get? it=some o)(hc:o.cls=.type n)(hd:o.data=.fields vs)
  (hn:["enumerate","zip","dict_itemiterator","dict_reverseitemiterator","odict_iterator","itertools.zip_longest","itertools.pairwise"].contains n=false) (hQ:Q () s):Ln M A (N2 tg (.ref it) u) Q E s:=by
 unfold N2;cases tg <;> first
  |exact K0 hQ
  | (cases u <;> first
    |exact K0 hQ
    | (refine KS (wpAny_load ho ?_)
       rw[hc,hd];show Ln M A (if (["enumerate","zip","dict_itemiterator","dict_reverseitemiterator","odict_iterator","itertools.zip_longest","itertools.pairwise"].contains n&&vs[0]?==some (rawInt _))=true then _ else _) Q E s
       rw[if_neg (by intro h;rw[hn,Bool.false_and]at h;cases h)]
       exact K0 hQ))
def Eg (K:PySem.W.Frag)(a:Addr):It :=
 ⟨λi H=>∃xs x,de K H a xs/\xs[i]?=some x,λi H x H'=>H'=H/\∀xs,de K H a xs->xs[i]?=some x,λi H=>∃xs,de K H a xs/\xs.length<=i⟩
def Dn (lo:Int)(n:Nat):It:=⟨λi _=>i<n,λi H x H'=>H'=H/\x=.int (lo+i),λi _=>n<=i⟩
theorem pK {P:K3}{w:Lf}{K:PySem.W.Frag}{tg:Expr}(a it:Addr):Turn P w K tg (Eg K a) [it] it (λi h=>h.IsListIter it a i) where
 mem:=by simp
 obj:=λi h st b hb=>by
  have e:b=it:=by simpa using hb
  subst e;obtain⟨o,e,c,d⟩:=st;exact⟨o,e,λv z=>by rw[d]at z;cases z⟩
 keep:=λi h h' st k=>st.at λo e=>k it (by simp) o e
 item:=by
  intro X hP hw hK hc i pins s σ H E I hf st hg;subst hP hw hK;obtain⟨xs,x,hq,hx⟩:=hg;obtain⟨its,rv,p,hz⟩:=I.list hq;obtain⟨u,hu,ru⟩:=rv.get hx;obtain⟨f0,f1,f2,f3,f4,f5⟩:=hf it (by simp)
  refine wpAny_pyNext_list_item st p.isList (x:=u) (by simpa using hu) λh' ak sb=>?_
  have I1:Inv X pins σ H {s with heap:=h'}:=I.turned (t':=s.toks) (λb o hb e=>(sb.2 b hb).trans e) f0 f1 f3 f4 f5
  obtain⟨o,e,c,d⟩:=id ak;exact⟨u,rfl,xk (s:={s with heap:=h'}) e c d (by decide) ⟨x,H,I1,ru,⟨rfl,λys hy=>by rw[I.sX hy hq];exact hx⟩,ak,λb hb=>(hf b hb).1⟩⟩
 done:=by
  intro X hP hw hK hc i pins s σ H E I hf st hg;subst hP hw hK;obtain⟨xs,hq,hx⟩:=hg;obtain⟨its,rv,p,hz⟩:=I.list hq;obtain⟨f0,f1,f2,f3,f4,f5⟩:=hf it (by simp)
  have hl:=rv.length;exact wpAny_pyNext_list_end (I.ok.hd hc) st p.isList (by simp;lia) λh' eb=>⟨rfl,I.turned (t':=s.toks) (λb o hb e=>eb b o hb e) f0 f1 f3 f4 f5⟩
 self:=λ_ _ _ _ _ st h=>wpAny_pyIter_listiter st h
theorem m8 {P:K3}{w:Lf}{K:PySem.W.Frag}{tg:Expr}(it:Addr)(lo:Int)(n:Nat):Turn P w K tg (Dn lo n) [it] it (λi h=>IsRangeIter h it (lo+(i:Nat)*1) ((n:Int)-(i:Nat)) 1) where
 mem:=by simp
 obj:=λi h st b hb=>by
  have e:b=it:=by simpa using hb
  subst e;exact⟨_,st,λv z=>by
   have z':Data.fields _=Data.cell v:=z;cases z'⟩
 keep:=λi h h' st k=>k it (by simp) _ st
 item:=by
  intro X hP hw hK hc i pins s σ H E I hf st hg;subst hP hw hK;obtain⟨f0,f1,f2,f3,f4,f5⟩:=hf it (by simp)
  have W:=Walks.range (prog:=X.prog) (w:=X.w) (I.ok.hd hc) it lo 1 n;refine W.item i s _ _ hg st λv h' tk hv ak kk=>?_;obtain⟨t,rfl⟩:=hv;have I1:Inv X pins σ H {s with heap:=h',toks:=tk}:=I.turned (λb o hb e=>kk b o (by simpa using hb) e) f0 f1 f3 f4 f5
  refine⟨_,rfl,xk (s:={s with heap:=h',toks:=tk}) (n:="range_iterator") ak rfl rfl (by decide) ⟨.int (lo+i),H,I1,⟨t,?_⟩,⟨rfl,rfl⟩,ak,λb hb=>(hf b hb).1⟩⟩
  rw[Int.mul_one]
 done:=by
  intro X hP hw hK hc i pins s σ H E I hf st hg;subst hP hw hK;obtain⟨f0,f1,f2,f3,f4,f5⟩:=hf it (by simp)
  exact wpAny_pyNext_range_end (I.ok.hd hc) st (by have:n<=i:=hg;lia) λh' eb=>⟨rfl,I.turned (t':=s.toks) (λb o hb e=>eb b o hb e) f0 f1 f3 f4 f5⟩
 self:=λ_ _ _ _ _ st h=>wpAny_pyIter_rangeiter st h
section
variable {X:Cx}{tg:Expr}
def B_ (K:PySem.W.Frag)(tl:TE):TI:=λσ H R=>tl σ H λx H1=>∃a,x=.ref a/\(∃xs,de K H1 a xs)/\R (Eg K a) H1
theorem oP {l:Expr}{tl:TE}(hl:PE X l tl):PI X tg l (B_ X.K tl):=by
 intro pins s σ H R I h;refine bj (hl pins s σ H _ I h) λv s1 ⟨x,H1,I1,r1,q1⟩=>?_;obtain⟨a,e,⟨xs,hq⟩,q⟩:=q1;subst e;cases r1;obtain⟨its,rv,p,hz⟩:=I1.list hq;refine wpAny_pyIter_list p.isList ?_;refine⟨s1.heap.objs.size,[s1.heap.objs.size],_,_,H1,rfl,I1.kept (t':=s1.toks) λb o e=>K4 _ e,pK a _,⟨_,LB _ rfl,rfl,rfl⟩,λb hb=>?_,q⟩;have e:b=s1.heap.objs.size:=by simpa using hb
 subst e;exact I1.v3 (KZ _) (I1.a_.fresh (KZ _))
theorem lA {pins:List (Addr×Obj)}{σ:St}{H:Hp}{s:KU}{R:It->Hp->Prop}{E:KR->KU->Prop}{lo hi:Int}{t u v:Tok}{tk:Nat}(I:Inv X pins σ H s)(h1:-(2 ^ 62)<=lo)(h2:lo<2 ^ 62)(h3:-(2 ^ 62)<=hi)(h4:hi<2 ^ 62)
  (q:R (Dn lo (hi-lo).toNat) H):Ln (model X.prog X.w) X.A (OS (.ref s.heap.objs.size)) (Ec X pins σ tg R) E {s with heap:=s.heap.push {cls:=.type "range",data:=.fields #[.int lo t,.int hi u,.int 1 v]},toks:=tk}:=by
 refine wpAny_pyIter_range (IsRange.new ..) (small_one h1 h2 h3 h4) ?_;have I1:Inv X pins σ H {s with heap:=s.heap.push {cls:=.type "range",data:=.fields #[.int lo t,.int hi u,.int 1 v]},toks:=tk}:=I.kept λb o e=>K4 _ e
 refine⟨(s.heap.push {cls:=.type "range",data:=.fields #[.int lo t,.int hi u,.int 1 v]}).objs.size,[(s.heap.push {cls:=.type "range",data:=.fields #[.int lo t,.int hi u,.int 1 v]}).objs.size],_,_,H,rfl,
  I1.kept (t':=tk) λb o e=>K4 _ e,m8 _ lo (hi-lo).toNat,?_,λb hb=>?_,q⟩
 ·have e1:lo+((0:Nat):Int)*1=lo:=by simp
  have e2:(((hi-lo).toNat:Nat):Int)-((0:Nat):Int)=Builtin.Range.rangeSize lo hi 1:=by rw[rangeSize_one];split <;> lia
  show IsRangeIter _ _ (lo+((0:Nat):Int)*1) ((((hi-lo).toNat:Nat):Int)-((0:Nat):Int)) 1;rw[e1,e2];exact LB _ rfl
 ·have e:b=(s.heap.push {cls:=.type "range",data:=.fields #[.int lo t,.int hi u,.int 1 v]}).objs.size:=by simpa using hb
  subst e;exact I1.v3 (KZ _) (I1.a_.fresh (KZ _))
def B9 (ta:TA):TI:=λσ H R=>ta σ H λvs H1=>∃j:Int,vs=[.int j]/\-(2 ^ 62)<=j/\j<2 ^ 62/\R (Dn 0 j.toNat) H1
def B8 (ta:TA):TI:=λσ H R=>ta σ H λvs H1=>∃i j:Int,vs=[.int i,.int j]/\(-(2 ^ 62)<=i/\i<2 ^ 62/\-(2 ^ 62)<=j/\j<2 ^ 62)/\R (Dn i (j-i).toNat) H1
theorem p8 {a:Expr} {ta:TA} {p pos:Pos} (hg:Gl X "range") (hm:X.mg "range" = none) (ha:PA X [a] ta) (hs:K5 [a] X.env=[(false,eval a X.env)]:=by rfl):PI X tg (.Call (.Name "range" p) [a] [] pos) (B9 ta):=by
 intro pins s σ H R I h;refine Call_ (iI I hg hm boot_range (Nn (bj (ha pos pins s σ H _ I h) λus s1 ⟨vs,H1,I1,r1,q1⟩=>?_) hs rfl));obtain⟨j,e,q1,q2,q⟩:=q1;subst e;cases r1 with
 |cons r rr =>
  cases rr;obtain⟨t,rfl⟩:=r;exact call_range_1 (lA I1 (by lia) (by lia) q1 q2 (by simpa using q))
theorem p7 {a b:Expr} {ta:TA} {p pos:Pos} (hg:Gl X "range") (hm:X.mg "range" = none) (ha:PA X [a,b] ta) (hs:K5 [a,b] X.env=[(false,eval a X.env),(false,eval b X.env)]:=by rfl) (DI:K5 [b] X.env=[(false,eval b X.env)]:=by rfl) :
  PI X tg (.Call (.Name "range" p) [a,b] [] pos) (B8 ta):=by
 intro pins s σ H R I h;refine Call_ (iI I hg hm boot_range (Nn (bj (ha pos pins s σ H _ I h) λus s1 ⟨vs,H1,I1,r1,q1⟩=>?_) (by rw[hs,DI]) (by rw[DI];rfl)))
 obtain⟨i,j,e,⟨q1,q2,q3,q4⟩,q⟩:=q1;subst e;cases r1 with
 |cons r rr =>
  cases rr with
  |cons r' rr =>
   cases rr;obtain⟨t,rfl⟩:=r;obtain⟨t',rfl⟩:=r';exact call_range_2 (lA I1 q1 q2 q3 q4 q)
def EB (wi:TI)(g:TG)(tb:TS):TS:=λD σ H=>wi σ H λJ H1=>∃W:Nat->Nat->St->Hp->Prop,(∃m,W 0 m σ H1)/\∀i m σ H,W i m σ H ->
 (J.stop i H/\D.nx σ H)\/(J.go i H/\∃N:St->Hp->Prop,(∀σ' H',N σ' H'->∃m',m'<m/\W (i+1) m' σ' H')/\∀x H',J.Dq i H x H'->g x σ H' λσ2 H2=>tb {D with nx:=N,ct:=N,bk:=D.nx} σ2 H2)
def iy (fp:List Addr)(h:Heap):List (Addr×Obj):=fp.filterMap λb=>(h.get? b).map λo=>(b,o)
theorem dB {fp:List Addr}{h:Heap}{b:Addr}{o:Obj}(hb:b∈fp)(e:h.get? b=some o):(b,o)∈iy fp h:=MR.mpr ⟨b,hb,by rw[e];rfl⟩
theorem qa {fp:List Addr}{h:Heap}{p:Addr×Obj}(hp:p∈iy fp h):p.1∈fp/\h.get? p.1=some p.2:=by
 obtain⟨b,hb,e⟩:=MR.mp hp;cases q:h.get? b with
 |none=>rw[q]at e;cases e
 |some o =>
  rw[q]at e;have e':(b,o)=p:=Lq e;subst e';exact⟨hb,q⟩
theorem Inv.pinned {pins:List (Addr×Obj)}{σ:St}{H:Hp}{s:KU}{fp:List Addr}(I:Inv X pins σ H s)(hf:∀b∈fp,dN X pins H b)(ho:∀b∈fp,∃o,s.heap.get? b=some o/\∀v,o.data≠.cell v):Inv X (pins++iy fp s.heap) σ H s :=
 I.oN λp hp=>(Lv.mp hp).elim (λz=>I.pin p (Ly _ z)) λz=>by
  obtain⟨hb,e⟩:=qa z;obtain⟨f0,f1,f2,_⟩:=hf p.1 hb;obtain⟨o,e',d⟩:=ho p.1 hb;rw[e]at e';cases e';exact⟨e,f0,f1,f2,d⟩
theorem Inv.fq {pins pl:List (Addr×Obj)}{σ:St}{H:Hp}{s:KU}(I:Inv X (pins++pl) σ H s):Inv X pins σ H s:=I.oN λp hp=>I.pin p (Ly _ (L6 _ hp))
theorem rW {iter:Expr}{body:List Stmt}{wi:TI}{g:TG}{tb:TS}{pos:Pos}(hp:PassesOwn (model X.prog X.w) X.A X.env X.xe)(hc:X.calm=true)(hi:PI X tg iter wi)(hg:PG X tg g)(hb:mM X body tb)
  (hs:∀x,Mf iter X.env x=pure x:=by intro _;rfl):PS X (.For tg iter body [] pos) (EB wi g tb):=by
 intro pins s σ H D I h;refine wpAny_For (bj (hi pins s σ H _ I h) λv s1 h1=>bj h1 λuz s2 h2=>?_) hs;obtain⟨it,fp,tn,J,H2,e,I2,T,di,f2,W,⟨m0,w0⟩,turn⟩:=h2;subst e;have ng:∀{H':Hp},(∀b∈fp,H' b=none)->∀b∈fp,dN X pins H' b:=λhn b hb=>⟨hn b hb,(f2 b hb).2⟩;refine codeAny_forLoop_any (λn s'=>∃i σ' H',Inv X pins σ' H' s'/\tn i s'.heap/\(∀b∈fp,H' b=none)/\W i n σ' H') ?_ m0 ⟨0,σ,H2,I2,di,λb hb=>(f2 b hb).1,w0⟩;rintro n s3 ⟨i,σ3,H3,I3,ia,C0,w3⟩;rcases turn i n σ3 H3 w3 with⟨stop,qn⟩|⟨go,N,hN,step⟩
 ·refine Nh hp (bj (T.done X rfl rfl rfl hc i pins s3 σ3 H3 X.xe I3 (ng C0) ia stop) λr s4 ⟨hr,I4⟩=>?_);subst hr;exact N1 ⟨σ3,H3,I4,qn⟩
 ·refine Nh hp (bj (T.item X rfl rfl rfl hc i pins s3 σ3 H3 X.xe I3 (ng C0) ia go) λr s4 ⟨u,hr,h4⟩=>?_);subst hr;refine Nh hp (bj h4 λ_ s5 ⟨x,H5,I5,r5,y5,yb,GG⟩=>?_);have G_:=I5.pinned (ng GG) (T.obj _ _ yb);refine Nh hp (bj (hg _ s5 σ3 H5 x u _ G_ r5 (step x H5 y5)) λ_ s6 ⟨σ6,H6,I6,q6⟩=>?_);refine Nh hp (bj (hb _ s6 σ6 H6 _ I6 q6) λf s7 q7=>?_);have again:∀{σ7:St} {H7:Hp},Inv X (pins++iy fp s5.heap) σ7 H7 s7->N σ7 H7->∃m,m<n/\∃i σ' H',Inv X pins σ' H' s7/\tn i s7.heap/\(∀b∈fp,H' b=none)/\W i m σ' H':=λ{σ7 H7} I7 n7=>by
   obtain⟨m',hm,w7⟩:=hN σ7 H7 n7;refine⟨m',hm,i+1,σ7,H7,I7.fq,T.keep _ _ _ yb λb hb o e=>(I7.pin (b,o) (Ly _ (Ly _ (dB hb e)))).1,λb hb=>?_,w7⟩;obtain⟨o,e,d⟩:=T.obj _ _ yb b hb;exact(I7.pin (b,o) (Ly _ (Ly _ (dB hb e)))).2.1
  cases f with
  |next=>obtain⟨σ7,H7,I7,n7⟩:=q7;exact again I7 n7
  |cont=>obtain⟨σ7,H7,I7,n7⟩:=q7;exact again I7 n7
  |brk=>obtain⟨σ7,H7,I7,q7⟩:=q7;exact⟨σ7,H7,I7.fq,q7⟩
  |ret v=>obtain⟨x7,σ7,H7,I7,r7,q7⟩:=q7;exact⟨x7,σ7,H7,I7.fq,r7,q7⟩
end
abbrev R2:=V->V->Hp->VK->Prop
def fV (X:Cx)(f:KR->KR->Sem KR)(r:R2):Prop :=
 ∀(pins:List (Addr×Obj)) (s:KU) (σ:St) (H:Hp) (x y:V) (v u:KR) (Q:VK),Inv X pins σ H s->RelV x v->RelV y u->r x y H Q ->
  Ln (model X.prog X.w) X.A (f v u) (EP X pins σ Q) X.xe s
def Dh (X:Cx)(f:KR->Sem KR)(r:V->Hp->VK->Prop):Prop :=
 ∀(pins:List (Addr×Obj)) (s:KU) (σ:St) (H:Hp) (x:V) (v:KR) (Q:VK),Inv X pins σ H s->RelV x v->r x H Q ->
  Ln (model X.prog X.w) X.A (f v) (EP X pins σ Q) X.xe s
def dg (X:Cx)(f:KR)(r:List V->Hp->VK->Prop):Prop :=
 ∀(pins:List (Addr×Obj)) (s:KU) (σ:St) (H:Hp) (xs:List V) (us:List KR) (Q:VK),Inv X pins σ H s->Vals xs us->r xs H Q ->
  Ln (model X.prog X.w) X.A (call f us) (EP X pins σ Q) X.xe s
def A4 (r:R2)(ta tb:TE):TE:=λσ H Q=>ta σ H λx H1=>tb σ H1 λy H2=>r x y H2 Q
def IC (r:V->Hp->VK->Prop)(ta:TE):TE:=λσ H Q=>ta σ H λx H1=>r x H1 Q
def rI (C:Int->Int->Prop)(g:Int->Int->V):R2:=λx y H Q=>∃i j,x=.int i/\y=.int j/\C i j/\Q (g i j) H
def uY (g:Int->Int->V):R2:=λx y H Q=>∃i j,x=.int i/\y=.int j/\Q (g i j) H
def rU (g:Int->V):V->Hp->VK->Prop:=λx H Q=>∃i,x=.int i/\Q (g i) H
section
variable {X:Cx}{a b:Expr}{ta tb:TE}{pos:Pos}
theorem Al (ha:PE X a ta)(hb:PE X b tb){pins:List (Addr×Obj)}{s:KU}{σ:St}{H:Hp}{R:V->V->Hp->Prop}(I:Inv X pins σ H s)
  (h:ta σ H λx H1=>tb σ H1 λy H2=>R x y H2) {Q:KR->KU->Prop} {f:KR->KR->Sem KR}
  (hf:∀v u s2 x y H2,Inv X pins σ H2 s2->RelV x v->RelV y u->R x y H2->Ln (model X.prog X.w) X.A (f v u) Q X.xe s2) :
  Ln (model X.prog X.w) X.A (eval a X.env) (λv s₁=>Ln (model X.prog X.w) X.A (eval b X.env) (λu s₂=>Ln (model X.prog X.w) X.A (f v u) Q X.xe s₂) X.xe s₁) X.xe s:=by
 refine bj (ha pins s σ H _ I h) λv s1 ⟨x,H1,I1,r1,q1⟩=>?_;refine bj (hb pins s1 σ H1 _ I1 q1) λu s2 ⟨y,H2,I2,r2,q2⟩=>?_;exact hf v u s2 x y H2 I2 r1 r2 q2
theorem bW {op:Operator}{r:R2}(ho:fV X (MF op) r)(ha:PE X a ta)(hb:PE X b tb):PE X (.BinOp a op b pos) (A4 r ta tb):=by
 intro pins s σ H Q I h;exact wpAny_BinOp (Al ha hb I h λv u s2 x y H2 I2 rx ry q=>ho pins s2 σ H2 x y v u Q I2 rx ry q)
theorem Bw {op:UnaryOp}{r:V->Hp->VK->Prop}(ho:Dh X (unaryOp op) r)(ha:PE X a ta):PE X (.UnaryOp op a pos) (IC r ta):=by
 intro pins s σ H Q I h;exact UnaryOp_ (bj (ha pins s σ H _ I h) λv s1 FJ=>by obtain⟨x,H1,I1,r1,q1⟩:=FJ;exact ho pins s1 σ H1 x v Q I1 r1 q1)
theorem Dy {f:KR->KR->Sem KR}{C:Int->Int->Prop}{g:Int->Int->Int}
  (rule:∀(i j:Int) (t u:Tok) (s:KU) (Q:KR->KU->Prop) (E:KR->KU->Prop),C i j->Q (.int (g i j) s.toks) {s with toks:=s.toks+1}->Ln (model X.prog X.w) X.A (f (.int i t) (.int j u)) Q E s) :
  fV X f (rI C λi j=>.int (g i j)):=by
 intro pins s σ H x y v u Q I rx ry h;obtain⟨i,j,rfl,rfl,hc,q⟩:=h;obtain⟨t,rfl⟩:=rx;obtain⟨t',rfl⟩:=ry;exact rule i j t t' s _ _ hc ⟨.int (g i j),H,I.tok _,⟨_,rfl⟩,q⟩
theorem BC {f:KR->KR->Sem KR}{g:Int->Int->Int}
  (rule:∀(i j:Int) (t u:Tok) (s:KU) (Q:KR->KU->Prop) (E:KR->KU->Prop),Q (.int (g i j) s.toks) {s with toks:=s.toks+1}->Ln (model X.prog X.w) X.A (f (.int i t) (.int j u)) Q E s) :
  fV X f (uY λi j=>.int (g i j)):=by
 intro pins s σ H x y v u Q I rx ry h;obtain⟨i,j,rfl,rfl,q⟩:=h;obtain⟨t,rfl⟩:=rx;obtain⟨t',rfl⟩:=ry;exact rule i j t t' s _ _ ⟨.int (g i j),H,I.tok _,⟨_,rfl⟩,q⟩
theorem yI {f:KR->KR->Sem KR}{g:Int->Int->Bool}
  (rule:∀(i j:Int) (t u:Tok) (s:KU) (Q:KR->KU->Prop) (E:KR->KU->Prop),Q (.bool (g i j)) s->Ln (model X.prog X.w) X.A (f (.int i t) (.int j u)) Q E s) :
  fV X f (uY λi j=>.bl (g i j)):=by
 intro pins s σ H x y v u Q I rx ry h;obtain⟨i,j,rfl,rfl,q⟩:=h;obtain⟨t,rfl⟩:=rx;obtain⟨t',rfl⟩:=ry;exact rule i j t t' s _ _ ⟨.bl (g i j),H,I,rfl,q⟩
def oz (i j:Int):Prop:=0<=j/\j<=1000000/\i.natAbs<2 ^ 64
def uw (i j:Int):Prop:=(-(2 ^ 64)<i/\i<2 ^ 64)\/(-(2 ^ 64)<j/\j<2 ^ 64)
theorem uw.ok {i j:Int}(h:uw i j):IntMulOk i j:=by
 rcases h with⟨h1,h2⟩|⟨h1,h2⟩
 ·exact .of_left (intBits_le_64 h1 h2)
 ·exact .of_right (intBits_le_64 h1 h2)
theorem nE:fV X (MF .Add) (uY λi j=>.int (i+j)):=BC λ_ _ _ _ _ _ _ q=>add_int q
theorem sG:fV X (MF .Sub) (uY λi j=>.int (i-j)):=BC λ_ _ _ _ _ _ _ q=>sub_int q
theorem sH:fV X (MF .Mult) (rI uw λi j=>.int (i*j)):=Dy λ_ _ _ _ _ _ _ hc q=>mul_int q hc.ok
theorem iD:fV X (MF .Mod) (rI (λ_ j=>0<j) λi j=>.int (i % j)):=Dy λi j _ _ _ _ _ hc q=>by
 have h1:(0:Int)<j:=hc;exact mod_int' (by lia) (by rw[Int.fmod_eq_emod_of_nonneg i (by lia)];exact q)
theorem iC:fV X (MF .Pow) (rI oz λi j=>.int (i ^ j.toNat)):=Dy λ_ _ _ _ _ _ _ hc q=>pow_int_small hc.1 hc.2.1 hc.2.2 q
theorem Iw {f:KR->Sem KR}{g:Int->Int}
  (rule:∀(i:Int) (t:Tok) (s:KU) (Q:KR->KU->Prop) (E:KR->KU->Prop),Q (.int (g i) s.toks) {s with toks:=s.toks+1}->Ln (model X.prog X.w) X.A (f (.int i t)) Q E s) :
  Dh X f (rU λi=>.int (g i)):=by
 intro pins s σ H x v Q I rx h;obtain⟨i,rfl,q⟩:=h;obtain⟨t,rfl⟩:=rx;exact rule i t s _ _ ⟨.int (g i),H,I.tok _,⟨_,rfl⟩,q⟩
theorem xY:Dh X (unaryOp .USub) (rU λi=>.int (-i)):=Iw λ_ _ _ _ _ q=>neg_int q
end
def EK:V->V->Bool
 |.bx,.bx=>true | .bx,.int _=>true | .int _,.bx=>true | .bx,.bl _=>true | .bl _,.bx=>true | .bx,.str _=>true | .str _,.bx=>true
 |.int _,.int _=>true | .bl _,.bl _=>true | .str _,.str _=>true | .wu _,.wu _=>true
 |.int _,.str _=>true | .str _,.int _=>true | .bl _,.str _=>true | .str _,.bl _=>true
 |_,_=>false
def IU:R2:=λx y H Q=>EK x y=true/\Q (.bl (!decide (x=y))) H
theorem wg {i j:Int}:decide (V.int i=V.int j)=(i==j):=by
 rw[Nk];simp
theorem z_ {i j:Bool}:decide (V.bl i=V.bl j)=(i==j):=by
 rw[Nk];simp
theorem we {i j:Str}:decide (V.str i=V.str j)=(i==j):=by
 rw[Nk];simp
theorem wj {i j:Array UInt8}:decide (V.wu i=V.wu j)=(i.toList==j.toList):=by
 rw[Nk];cases i;cases j;simp
section
variable {X:Cx}{a b c:Expr}{ta tb:TE}{pos:Pos}
theorem bu {pins:List (Addr×Obj)}{σ:St}{H:Hp}{s:KU}{Q:VK}{k k':Bool}(I:Inv X pins σ H s)(q:Q (.bl k) H)(e:k=k'):EP X pins σ Q (.bool k') s:=by
 subst e;exact⟨.bl k,H,I,rfl,q⟩
theorem Bz:fV X (LW .NotEq) IU:=by
 intro pins s σ H x y v u Q I rx ry h;obtain⟨hs,q⟩:=h;cases x with
 |bx =>
  cases rx;cases y with
  |bx=>cases ry;exact PySem.EqNone.ne_none_none (bu I q (by simp))
  |bl j=>cases ry;exact PySem.EqNone.ne_none_bool (bu I q (by simp))
  |int j=>obtain⟨t',rfl⟩:=ry;exact PySem.EqNone.ne_none_int (bu I q (by simp))
  |str j=>obtain⟨t',rfl⟩:=ry;exact PySem.EqNone.ne_none_str (bu I q (by simp))
  |_=>exact absurd (show false=true from hs) Mm
 |bl i =>
  cases rx;cases y with
  |bx=>cases ry;exact PySem.EqNone.ne_bool_none (bu I q (by simp))
  |bl j=>cases ry;exact ne_bool (bu I q (congrArg not z_))
  |str j=>obtain⟨t',rfl⟩:=ry;exact PySem.EqMixed.ne_bool_str (bu I q (by simp))
  |_=>exact absurd (show false=true from hs) Mm
 |int i =>
  obtain⟨t,rfl⟩:=rx;cases y with
  |bx=>cases ry;exact PySem.EqNone.ne_int_none (bu I q (by simp))
  |int j=>obtain⟨t',rfl⟩:=ry;exact ne_int (bu I q (congrArg not wg))
  |str j=>obtain⟨t',rfl⟩:=ry;exact PySem.EqMixed.ne_int_str (bu I q (by simp))
  |_=>exact absurd (show false=true from hs) Mm
 |str i =>
  obtain⟨t,rfl⟩:=rx;cases y with
  |bx=>cases ry;exact PySem.EqNone.ne_str_none (bu I q (by simp))
  |bl j=>cases ry;exact PySem.EqMixed.ne_str_bool (bu I q (by simp))
  |int j=>obtain⟨t',rfl⟩:=ry;exact PySem.EqMixed.ne_str_int (bu I q (by simp))
  |str j=>obtain⟨t',rfl⟩:=ry;exact ne_str (bu I q (congrArg not we))
  |_=>exact absurd (show false=true from hs) Mm
 |wu i =>
  obtain⟨t,rfl⟩:=rx;cases y with
  |wu j=>obtain⟨t',rfl⟩:=ry;exact PySem.W.ne_bytes (bu I q (congrArg not wj))
  |_=>exact absurd (show false=true from hs) Mm
 |_=>cases y <;> exact absurd (show false=true from hs) Mm
theorem BA:fV X (LW .Lt) (uY λi j=>.bl (decide (i<j))):=yI λ_ _ _ _ _ _ _ q=>lt_int q
theorem BB:fV X (LW .LtE) (uY λi j=>.bl (decide (i<=j))):=yI λ_ _ _ _ _ _ _ q=>le_int q
theorem wU:fV X (LW .Gt) (uY λi j=>.bl (decide (j<i))):=yI λ_ _ _ _ _ _ _ q=>gt_int q
theorem yH:fV X (LW .Is) (λx y H Q=>y=.bx/\Q (.bl (decide (x=.bx))) H):=by
 intro pins s σ H x y v u Q I rx ry h;obtain⟨rfl,q⟩:=h;cases ry;refine is_none_gen (bu I q ?_);cases x <;> first
  | (cases rx;rfl)
  | (obtain⟨t,rfl⟩:=rx;rfl)
theorem sP (b:Expr){op:Ng}(h:op≠.In:=by decide)(h2:op≠.NotIn:=by decide):Mx op b=false:=by
 have e1:(op==CmpOp.In)=false:=by cases op <;> first|rfl|exact absurd rfl h
 have e2:(op==CmpOp.NotIn)=false:=by cases op <;> first|rfl|exact absurd rfl h2
 cases b <;> simp[Mx,e1,e2]
theorem oR {op:Ng}{r:R2}(ho:fV X (LW op) r)(ha:PE X a ta)(hb:PE X b tb)(hm:Mx op b=false):PE X (.Compare a [op] [b] pos) (A4 r ta tb):=by
 intro pins s σ H Q I h;exact wpAny_Compare1 (Al ha hb I h λv u s2 x y H2 I2 rx ry q=>ho pins s2 σ H2 x y v u Q I2 rx ry q) hm
def AY (t:TE):TT:=λσ H Q=>t σ H λx H'=>∃k,x=.bl k/\Q k H'
theorem oH {op:Ng}{r:R2}(ho:fV X (LW op) r)(ha:PE X a ta)(hb:PE X b tb)(hm:Mx op b=false):PT X (.Compare a [op] [b] pos) (AY (A4 r ta tb)):=by
 intro pins s σ H Q I h;refine wpAny_isTrue_Compare1 (bj (ha pins s σ H _ I h) λv s1 ⟨x,H1,I1,r1,q1⟩=>bj (hb pins s1 σ H1 _ I1 q1) λu s2 ⟨y,H2,I2,r2,q2⟩ =>
  bj (ho pins s2 σ H2 x y v u _ I2 r1 r2 q2) λc s3 ⟨z,H3,I3,r3,k,e,q3⟩=>?_) hm
 subst e;cases r3;exact MD ⟨H3,I3,q3⟩
theorem kq:(Lk:Nat)<2 ^ 63:=by rw[LL];decide
theorem vals1 {x:V}{us:List KR}(r:Vals [x] us):∃u,us=[u]/\RelV x u:=by
 cases r with
 |cons r1 r2=>cases r2;exact⟨_,rfl,r1⟩
theorem vals2 {x y:V}{us:List KR}(r:Vals [x,y] us):∃u w',us=[u,w']/\RelV x u/\RelV y w':=by
 cases r with
 |cons r1 r2 =>
  cases r2 with
  |cons r3 r4=>cases r4;exact⟨_,_,rfl,r1,r3⟩
theorem jN (hc:X.calm=true):dg X (.builtin "max") (λxs H Q=>∃i j,xs=[.int i,.int j]/\Q (.int (if j>i then j else i)) H):=by
 intro pins s σ H xs us Q I r h;obtain⟨i,j,rfl,q⟩:=h;obtain⟨u,w',rfl,⟨t,rfl⟩,⟨t',rfl⟩⟩:=vals2 r;refine max_two_ints (I.ok.hd hc) λh' tk k=>⟨_,H,I.kept k,?_,q⟩
 by_cases hj:j>i
 ·rw[if_pos hj,if_pos hj];exact⟨_,rfl⟩
 ·rw[if_neg hj,if_neg hj];exact⟨_,rfl⟩
theorem qI (hc:X.calm=true):dg X (.builtin "min") (λxs H Q=>∃i j,xs=[.int i,.int j]/\Q (.int (if j<i then j else i)) H):=by
 intro pins s σ H xs us Q I r h;obtain⟨i,j,rfl,q⟩:=h;obtain⟨u,w',rfl,⟨t,rfl⟩,⟨t',rfl⟩⟩:=vals2 r;refine min_two_ints (I.ok.hd hc) λh' tk k=>⟨_,H,I.kept k,?_,q⟩
 by_cases hj:j<i
 ·rw[if_pos hj,if_pos hj];exact⟨_,rfl⟩
 ·rw[if_neg hj,if_neg hj];exact⟨_,rfl⟩
theorem gv:dg X (.type "int") (λxs H Q=>(∃i,xs=[.int i]/\Q (.int i) H)\/∃k,xs=[.bl k]/\Q (.int (if k then 1 else 0)) H):=by
 intro pins s σ H xs us Q I r h;rcases h with⟨i,rfl,q⟩|⟨k,rfl,q⟩
 ·obtain⟨u,rfl,t,rfl⟩:=vals1 r;exact call_int_int ⟨.int i,H,I,⟨_,rfl⟩,q⟩
 ·obtain⟨u,rfl,r1⟩:=vals1 r;cases r1;exact call_int_bool ⟨.int (if k then 1 else 0),H,I.tok _,⟨_,rfl⟩,q⟩
end
section
end
section
end
section
end
section
end
section
end
structure bN (k:Nat)(A:LI):Prop where
 hd:A.handled=none
 dp:A.depth+3*k+5<recursionLimit
 un:A.units+16*k+200<Nl
theorem bN.mono {j k:Nat}{A:LI}(r:bN k A)(h:j<=k):bN j A:=⟨r.hd,by have:=r.dp;lia,by have:=r.un;lia⟩
theorem bN.deeper {k:Nat}{A:LI}(r:bN (k+1) A)(env:Env):bN k (A.deeper env) :=
 ⟨r.hd,by have:=r.dp;show A.depth+1+3*k+5<_;lia,by have:=r.un;show A.units+3+16*k+200<_;lia⟩
theorem bN.depth {k:Nat}{A:LI}(r:bN k A):A.depth<recursionLimit:=by have:=r.dp;lia
theorem bN.units {k:Nat}{A:LI}(r:bN k A):A.units+64<Nl:=by have:=r.un;lia
def Ey:TA:=λ_ H Q=>Q [] H
def A7 (ta:TE)(tr:TA):TA:=λσ H Q=>ta σ H λx H1=>tr σ H1 λxs H2=>Q (x::xs) H2
section
variable {X:Cx}{e:Expr}{es:List Expr}{te:TE}{t:TA}{pos:Pos}
theorem cG:PA X [] Ey:=λ_ _ _ _ H Q I h=>Calls.spliced_nil ⟨[],H,I,.nil,h⟩
theorem a7 (ha:PE X e te)(hr:PA X es t)(hs:K5 (e::es) X.env=(false,eval e X.env)::K5 es X.env:=by rfl):PA X (e::es) (A7 te t):=by
 intro pos pins s σ H Q I h;rw[hs];show Ln _ _ (spliced ((false,eval e X.env)::L8 pos (K5 es X.env))) _ _ s;refine Calls.spliced_cons (bj (ha pins s σ H _ I h) λu s1 ⟨x,H1,I1,r1,q1⟩=>?_);exact bj (hr pos pins s1 σ H1 _ I1 q1) λus s2 ⟨xs,H2,I2,r2,q2⟩=>⟨x::xs,H2,I2,.cons r1 r2,q2⟩
def Es (t:TA):TE:=λσ H Q=>t σ H λxs H1=>xs.length<=Lk/\∀p,H1 p=none->Q (.ref p) (upd H1 p (.tup xs))
def Ez (t:TA):TE:=λσ H Q=>t σ H λxs H1=>xs.length<=Lk/\∀p,H1 p=none->Q (.ref p) (upd H1 p (.lst xs))
theorem sj {x1}(h:PA X es t):PE X (.Tuple es x1 pos) (Es t):=by
 intro pins s σ H Q I hq;refine wpAny_Tuple_spliced (bj (h pos pins s σ H _ I hq) λus s1 ⟨xs,H1,I1,r,z,q⟩=>⟨by rw[<- r.length];exact z,?_⟩)
 have hf:H1 s1.heap.objs.size=none:=I1.a_.fresh (KZ _);refine⟨.ref s1.heap.objs.size,upd H1 s1.heap.objs.size (.tup xs),I1.laid (t':=s1.toks) (λb u e=>K4 _ e) (KZ _) ?_,rfl,q _ hf⟩;exact⟨z,us,r,⟨_,LB _ rfl,rfl,_,rfl⟩⟩
theorem nD (h:PA X es t):PE X (.List es pos) (Ez t):=by
 intro pins s σ H Q I hq;refine wpAny_List_spliced (bj (h pos pins s σ H _ I hq) λus s1 ⟨xs,H1,I1,r,z,q⟩=>⟨by rw[<- r.length];exact z,?_⟩)
 have hf:H1 s1.heap.objs.size=none:=I1.a_.fresh (KZ _);refine⟨.ref s1.heap.objs.size,upd H1 s1.heap.objs.size (.lst xs),I1.laid (t':=s1.toks) (λb u e=>K4 _ e) (KZ _) ?_,rfl,q _ hf⟩;exact⟨z,us,0,r,LB _ rfl⟩
end
abbrev Sp:=List V->Hp->VK->XK->Prop
abbrev qR:=List Env->Hp->KU->XK->KR->KU->Prop
structure wI (P:K3)(w:Lf)(K:PySem.W.Frag)(mg:Str->Option KR)(base:Heap)(A:LI)(outer:List Env)(s:KU)(H:Hp):Prop where
 frames:A.frames=some outer
 mod:Mod K mg base
 bs:∀b o,base.get? b=some o->s.heap.get? b=some o/\H b=none
 ue:base.objs.size<=s.heap.objs.size
 fO:s.heap.FunFrames base outer
 vZ:∀b∈dP outer,H b=none
 a_:eW P w H s.heap
 bare:NC s.gens
def CE (outer:List Env)(P:K3)(w:Lf)(H:Hp)(s:KU)(Q:VK)(u:KR)(s':KU):Prop :=
 ∃v H',s'.os=s.os/\NC s'.gens/\Un (dP outer) [] H H' s.heap s'.heap/\eW P w H' s'.heap/\RelV v u/\Q v H'
def CR (CX:qR)(outer:List Env)(P:K3)(w:Lf)(H:Hp)(s:KU)(Q:VK)(E:XK)(r:Result)(s':KU):Prop :=
 match r with
 |.ok (.ret u)=>CE outer P w H s Q u s'
 |.ok _=>False
 |.error e=>CX outer H s E e s'
structure aR (P:K3)(w:Lf)(K:PySem.W.Frag)(mg:Str->Option KR)(base:Heap)(CX:qR)(k:Nat)(f:Addr)(fd:LF)(ps:List Str)(sp:Sp):Prop where
 len:∀vs H Q E,sp vs H Q E->vs.length=ps.length
 run:∀(A:LI) (outer:List Env) (s:KU) (H:Hp) (args:Args) (us:List KR) (vs:List V) (Q:VK) (E:XK),bN k A->wI P w K mg base A outer s H->BindsTo s fd args (ps.zip us)->Vals vs us->sp vs H Q E ->
  Na (model P w) A (.call (.ref f) args) (CR CX outer P w H s Q E) s
theorem aR.imp {P:K3}{w:Lf}{K:PySem.W.Frag}{mg:Str->Option KR}{base:Heap}{CX:qR}{k:Nat}{f:Addr}{fd:LF}{ps:List Str}{sp Hf:Sp}(F:aR P w K mg base CX k f fd ps sp)
  (h:∀vs H Q E,Hf vs H Q E->sp vs H Q E):aR P w K mg base CX k f fd ps Hf :=
 ⟨λvs H Q E q=>F.len vs H Q E (h _ _ _ _ q),λA outer s H args us vs Q E hr he hb hv hs=>F.run A outer s H args us vs Q E hr he hb hv (h _ _ _ _ hs)⟩
section
variable {X:Cx}{pins:List (Addr×Obj)}{σ:St}{H:Hp}{s s':KU}
theorem Inv.C2 (I:Inv X pins σ H s):wI X.prog X.w X.K X.mg X.base X.A X.stack s H :=
 ⟨I.ok.frames,I.ok.mod,I.bs,L4 I.ok.ue I.sz,I.stack,I.j4,I.a_,I.bare⟩
theorem Inv.after {Q:VK}{u:KR}(I:Inv X pins σ H s)(h:CE X.stack X.prog X.w H s Q u s'):EP X pins σ Q u s':=by
 obtain⟨v,H',os,bare,un,a_,r,q⟩:=h;obtain⟨hh,g,d,t,Fc⟩:=s';obtain rfl:Fc=s.os:=os;exact⟨v,H',I.call (h':=hh) (g':=g) (d':=d) (t':=t) (ch:=[]) un a_ bare (λb z=>absurd z (by simp)),r,q⟩
end
def A8 (sp:Sp)(xr:List V)(E:XK)(t:TA):TE:=λσ H Q=>t σ H λvs H1=>sp (vs++xr) H1 Q E
def Binds (K:PySem.W.Frag)(fd:LF)(ps:List Str)(ds:List KR):Prop :=
 ∀(s:KU) (us:List KR),K.In s.heap->(us++ds).length=ps.length->BindsTo s fd ⟨us,[]⟩ (ps.zip (us++ds))
theorem Binds.all {K:PySem.W.Frag}{fd:LF}{ps:List Str}(h:∀us:List KR,us.length=ps.length->bindArgs fd ⟨us,[]⟩=pure (ps.zip us)):Binds K fd ps []:=λs us _ hl=>by
 rw[LV]at hl ⊢
 exact .of_eq (h us hl)
def Passes (CX:qR)(X:Cx)(E:XK):Prop:=∀(pins:List (Addr×Obj)) (σ:St) (H:Hp) (s:KU) (e:KR) (s':KU),Inv X pins σ H s->CX X.stack H s E e s'->X.xe e s'
section
variable {X:Cx}{CX:qR}{k:Nat}{f:Addr}{fd:LF}{ps:List Str}{sp:Sp}{xr:List V}{ds:List KR}{E:XK}{x:Str}{p pos:Pos}{e:Expr}{es:List Expr}{t:TA}
theorem yn {pins:List (Addr×Obj)}{σ:St}{H:Hp}{s:KU}{Q:VK}{us:List KR}{vs:List V}(F:aR X.prog X.w X.K X.mg X.base CX k f fd ps sp)(hr:bN k X.A)(hb:Binds X.K fd ps ds)(hd:Vals xr ds)(hx:Passes CX X E)
  (I:Inv X pins σ H s) (r:Vals vs us) (h:sp (vs++xr) H Q E):Ln (model X.prog X.w) X.A (call (.ref f) us) (EP X pins σ Q) X.xe s:=by
 have r2:Vals (vs++xr) (us++ds):=r.append hd;have hl:(us++ds).length=ps.length:=by rw[<- r2.length];exact F.len _ _ _ _ h
 refine NU (MK (F.run X.A X.stack s H ⟨us,[]⟩ (us++ds) (vs++xr) Q E hr I.C2 (hb s us I.qY hl) r2 h) λr s' hq=>?_);cases r with
 |error e=>exact hx pins σ H s e s' I hq
 |ok fl =>
  cases fl with
  |ret u=>exact I.after hq
  |next=>exact Ml hq
  |brk=>exact Ml hq
  |cont=>exact Ml hq
theorem ke (F:aR X.prog X.w X.K X.mg X.base CX k f fd ps sp)(hr:bN k X.A)(hg:Gl X x)(hm:X.mg x=some (.ref f))(hk:PySem.W.keepIn X.K (.ref f)=true)(hb:Binds X.K fd ps ds)(hd:Vals xr ds)(hx:Passes CX X E)
  (ha:PA X (e::es) t) (hdb:(x==("__debug__" : Str))=false:=by decide) (he:K5 (e::es) X.env=(false,eval e X.env)::K5 es X.env:=by rfl) (hpl:(L8 pos (K5 es X.env)).any (·.1)=false:=by rfl) :
  PE X (.Call (.Name x p) (e::es) [] pos) (A8 sp xr E t):=by
 intro pins s σ H Q I h;refine Np (fJ I hg hm ?_ hdb);refine PySem.W.callWith_K (h₀:=X.base) I.ok.mod.DE hk (bj (ha pos pins s σ H _ I h) λus s1 ⟨vs,H1,I1,r,q⟩=>⟨I1.qY,?_⟩) he hpl;exact yn F hr hb hd hx I1 r q
end
section
end
structure aU (N P:List Str)(sc:MU):Prop where
 kind:sc.kind=.function
 co:sc.isCoroutine=false
 gen:sc.isGenerator=false
 nd:N.Nodup
 pre:N.take P.length=P
 par:∀x∈P,sc.names.lookup x=some .local\/sc.names.lookup x=some .cell
 yR:∀y∈sc.names,y.2≠.free
theorem jO {kindOf:Str->Option Nf}{x:Str}:∀{binds:List (Str×KR)} {m:Str->Option KR},(∀v,(x,v)∉binds)->bindL kindOf binds m x=m x
 |[],_,_=>rfl
 | (n,v)::r,m,h=>by
  unfold bindL;rw[jO λw hw=>h w (Lc _ hw)]
  split
  ·have:x≠n:=by rintro rfl;exact h v Lg
   simp[this]
  ·rfl
theorem jQ {kindOf:Str->Option Nf}{x:Str}:∀{binds:List (Str×KR)} {m:Str->Option KR},(∀v,(x,v)∉binds)->bindC kindOf binds m x=m x
 |[],_,_=>rfl
 | (n,v)::r,m,h=>by
  unfold bindC;rw[jQ λw hw=>h w (Lc _ hw)]
  split
  ·rfl
  ·have:x≠n:=by rintro rfl;exact h v Lg
   simp[this]
theorem jP {kindOf:Str->Option Nf}{x:Str}{v:KR}:∀{P:List Str} {vs:List KR} {i:Nat} {m:Str->Option KR},P.Nodup->P[i]?=some x->vs[i]?=some v->kindOf x=some .local ->
  bindL kindOf (P.zip vs) m x=some v
 |[],_,_,_,_,h,_,_=>by simp at h
 |_::_,[],_,_,_,_,h,_=>by simp at h
 |p::P,w::vs,0,m,nd,h1,h2,hk=>by
  simp at h1 h2;subst h1;subst h2;show bindL kindOf ((p,w)::P.zip vs) m p=_;unfold bindL;rw[jO λv hv=>(LD.mp nd).1 (N4 hv).1,if_pos hk];simp
 |p::P,w::vs,i+1,m,nd,h1,h2,hk=>by
  show bindL kindOf ((p,w)::P.zip vs) m x=_;unfold bindL;exact jP (i:=i) (LD.mp nd).2 (by simpa using h1) (by simpa using h2) hk
theorem jR {kindOf:Str->Option Nf}{x:Str}{v:KR}:∀{P:List Str} {vs:List KR} {i:Nat} {m:Str->Option KR},P.Nodup->P[i]?=some x->vs[i]?=some v->kindOf x≠some .local ->
  bindC kindOf (P.zip vs) m x=some v
 |[],_,_,_,_,h,_,_=>by simp at h
 |_::_,[],_,_,_,_,h,_=>by simp at h
 |p::P,w::vs,0,m,nd,h1,h2,hk=>by
  simp at h1 h2;subst h1;subst h2;show bindC kindOf ((p,w)::P.zip vs) m p=_;unfold bindC;rw[jQ λv hv=>(LD.mp nd).1 (N4 hv).1,if_neg hk];simp
 |p::P,w::vs,i+1,m,nd,h1,h2,hk=>by
  show bindC kindOf ((p,w)::P.zip vs) m x=_;unfold bindC;exact jR (i:=i) (LD.mp nd).2 (by simpa using h1) (by simpa using h2) hk
def start (N:List Str)(vs:List V):St:=vs.map some++MI (N.length-vs.length) none
def gT (CX:qR)(P:K3)(w:Lf)(K:PySem.W.Frag)(mg:Str->Option KR)(base:Heap)(N:List Str)(qual:Str)(scope:MU)(f:Addr)(cd:KR)(A:LI)(outer:List Env)(s:KU)(H:Hp)(E:XK):Cx where
 prog:=P
 w:=w
 K:=K
 mg:=mg
 base:=base
 A:=A.deeper (NG qual scope s.heap.objs.size f cd)
 N:=N
 s₀:=s
 H₀:=H
 env:=NG qual scope s.heap.objs.size f cd
 outer:=outer
 stack:=NG qual scope s.heap.objs.size f cd::outer
 ex:=[]
 calm:=true
 fn:=λ_=>true
 pn:=[]
 xe:=λe s'=>Ln (model P w) (A.deeper (NG qual scope s.heap.objs.size f cd)) (leaving (NG qual scope s.heap.objs.size f cd) e) (λ_ rP=>CX outer H s E e rP) (λe' rP=>CX outer H s E e' rP) s'
theorem mG {sc:MU}{n:Nat}{x:Str}(h:sc.names.lookup x=some .cell):∃c,(cellsFrom n sc.names []).lookup x=some c:=by
 have q:=PySem.W.cellsFrom_some sc.names n [] (.inl h);exact Option.isSome_iff_exists.mp q
theorem qo {CX:qR}{P:K3}{w:Lf}{K:PySem.W.Frag}{mg:Str->Option KR}{base:Heap}{N ps:List Str}{qual:Str}{scope:MU}{f:Addr}{cd:KR}{A:LI}{outer:List Env}{s s1:KU}{H:Hp}{E:XK}{us:List KR}{vs:List V}
  (S:aU N ps scope) (hd:A.handled=none) (e0:wI P w K mg base A outer s H) (hl:vs.length=ps.length) (r:Vals vs us)
  (x:InCallC s s.heap.objs.size (bindL (NG qual scope s.heap.objs.size f cd).kindOf (ps.zip us) λ_=>none) (cellsFrom (s.heap.objs.size+1) scope.names []) (bindC (NG qual scope s.heap.objs.size f cd).kindOf (ps.zip us) λ_=>none) s1) :
  Inv (gT CX P w K mg base N qual scope f cd A outer s H E) [] (start N vs) H s1:=by
 have hpl:ps.length<=N.length:=by have:=congrArg List.length S.pre;rw[Lw]at this;lia
 obtain⟨h1,tk,rfl,hk⟩:=x.done;have BH:∀b:Addr,b∉(gT CX P w K mg base N qual scope f cd A outer s H E).ex:=λb z=>absurd (show b∈([]:List Addr) from z) (by simp)
 refine⟨⟨e0.mod,S.kind,rfl,rfl,KZ _,λy z c h1 h2=>?_,λy hy=>?_,λy c _ h=>?_,λ_=>hd,Around.frames_deeper e0.frames,.inr ⟨rfl,rfl⟩,λb z=>absurd z (BH b),e0.bs,e0.ue,λb _ _=>BH b,λb z=>absurd z (BH b),e0.fO,e0.vZ⟩,
  rfl,e0.bare,Un.kept hk,⟨_,x.toInCall.ns,λi y v h1 h2 h3=>?_⟩,λy c h=>⟨_,x.cell y c h⟩,e0.a_.fresh (KZ _),λy c h=>?_,λp hp=>absurd (show p∈([]:List (Addr×Obj)) from hp) (by simp),e0.a_.kept hk,?_⟩
 ·exact name_of_addr x.apart (PySem.mem_of_lookup h1) (PySem.mem_of_lookup h2)
 ·have hy:scope.names.lookup y=some .cell\/scope.names.lookup y=some .free:=hy;rcases hy with hy|hy
  ·exact mG hy
  ·exact absurd rfl (S.yR _ (PySem.mem_of_lookup hy))
 ·exact Nat.le_of_lt (x.above y c (PySem.mem_of_lookup h))
 ·have hi:i<vs.length:=by
   unfold start at h2
   by_cases hi:i<vs.length
   ·exact hi
   ·rw[LH (by simpa using hi)]at h2
    rw[List.getElem?_replicate]at h2
    split at h2 <;> cases h2
  have ha:vs[i]?=some v:=by
   unfold start at h2;rw[LY (by simpa using hi),Lj]at h2
   cases e:vs[i]? with
   |none=>rw[e]at h2;cases h2
   |some a=>rw[e]at h2;cases h2;rfl
  obtain⟨u,hu,rv⟩:=r.get ha;have hp:ps[i]?=some y:=by
   rw[<- S.pre,MP (by lia)];exact h1
  have Hx:ps.Nodup:=by rw[<- S.pre];exact S.nd.sublist (List.take_sublist _ _)
  refine⟨u,rv,?_⟩;rcases S.par y (LR hp)with k|k
  ·exact .inl ⟨k,jP Hx hp hu k⟩
  ·obtain⟨c,e⟩:=mG (n:=s.heap.objs.size+1) k;refine .inr ⟨.inl k,c,e,?_⟩;have q:=x.cell y c e;rw[jR Hx hp hu (by show scope.names.lookup y≠_;rw[k];decide)]at q
   exact q
 ·exact e0.a_.fresh (Nat.le_of_lt (x.above y c (PySem.mem_of_lookup h)))
 ·unfold start;show _=N.length;rw[Lz,KY,List.length_replicate];lia
theorem xo {CX:qR}{P:K3}{w:Lf}{K:PySem.W.Frag}{mg:Str->Option KR}{base:Heap}{k:Nat}{f:Addr}{name qual:Str}{params:Arguments}{body:List Stmt}{scope:MU}{dV kV doc pm bX ct oc:KR}{an od:Option Addr}
  {wR:Array (Option KR)} {N ps:List Str} {sp:Sp} (lk:K.lookup f=some ⟨oc,od,.func (PySem.W.fnOf name qual params body scope dV kV doc pm an bX ct),wR⟩) (g8:PySem.W.codeIn K bX qual=true) (S:aU N ps scope)
  (len:∀vs H Q E,sp vs H Q E->vs.length=ps.length)
  (fN:∀(A:LI) (outer:List Env) (s:KU) (H:Hp) (vs:List V) (Q:VK) (E:XK),bN k (A.deeper (NG qual scope s.heap.objs.size f bX))->sp vs H Q E ->
   ∃t,mM (gT CX P w K mg base N qual scope f bX A outer s H E) body t/\t {nx:=λ_ H'=>Q .bx H',rt:=Q} (start N vs) H) :
  aR P w K mg base CX (k+1) f (PySem.W.fnOf name qual params body scope dV kV doc pm an bX ct) ps sp:=by
 refine⟨len,λA outer s H args us vs Q E hr e0 hb r eN=>?_⟩;have hl:=len _ _ _ _ eN;have KX:K.In s.heap:=e0.mod.DE.keeps λb o e=>(e0.bs b o e).1;have lim:s.heap.NoLimit:=e0.mod.nolimit.keeps λb o e=>(e0.bs b o e).1;have CI:∀y∈ps.zip us,scope.names.lookup y.1=some .local\/(scope.names.lookup y.1=some .cell/\((cellsFrom (s.heap.objs.size+1) scope.names []).lookup y.1).isSome=true):=λFH hy=>by
  obtain⟨n,v⟩:=FH;rcases S.par n (N4 hy).1 with q|q
  ·exact .inl q
  ·exact .inr ⟨q,PySem.W.cellsFrom_some _ _ _ (.inl q)⟩
 refine codeAny_call_function hr.depth (KX _ _ lk) rfl S.co S.gen rfl (PySem.W.codeRec_of KX g8) (hb _ _ _ _ ?_);refine wpAny_newFunctionEnv_cells S.kind CI λenv he s1 x=>?_;subst he;refine⟨lim.keeps x.toInCall.keep,codeAny_func ?_⟩;obtain⟨t,ht,hq⟩:=fN A outer s H vs Q E (hr.deeper _) eN;have I:Inv (gT CX P w K mg base N qual scope f bX A outer s H E) [] (start N vs) H s1:=qo S hr.hd e0 hl r x;refine MQ (ht [] s1 (start N vs) H _ I hq) (λfl s' hs=>?_) λe s' hs=>hs;have fin:∀{σ':St} {H':Hp} {v:V} {u:KR},Inv (gT CX P w K mg base N qual scope f bX A outer s H E) [] σ' H' s'->RelV v u->Q v H'->CE outer P w H s Q u s' :=
  λ{σ' H' v u} J rv q=>⟨v,H',J.os,J.bare,J.base,J.a_,rv,q⟩
 cases fl with
 |ret u =>
  obtain⟨v,σ',H',J,rv,q⟩:=hs;exact fin J rv q
 |next =>
  obtain⟨σ',H',J,q⟩:=hs;exact fin (v:=V.bx) (u:=Value.none) J rfl q
 |brk =>
  obtain⟨_,_,_,q⟩:=hs;exact Ml q
 |cont =>
  obtain⟨_,_,_,q⟩:=hs;exact Ml q
section
variable {X:Cx}{x:Str}{p pos:Pos}{e:Expr}{es:List Expr}{t:TA}{id T:String}{r:List V->Hp->VK->Prop}
def EC (r:List V->Hp->VK->Prop)(t:TA):TE:=λσ H Q=>t σ H λvs H1=>r vs H1 Q
theorem fA (hc:dg X (.builtin id) r) (hg:Gl X x) (hm:X.mg x=none) (hv:LM x=some (.builtin id)) (ha:PA X (e::es) t) (hn:x≠"__name__" := by decide) (hdb:(x==("__debug__" : Str))=false:=by decide)
  (he:K5 (e::es) X.env=(false,eval e X.env)::K5 es X.env:=by rfl) (hpl:(L8 pos (K5 es X.env)).any (·.1)=false:=by rfl):PE X (.Call (.Name x p) (e::es) [] pos) (EC r t):=by
 intro pins s σ H Q I h;refine Np (iI I hg hm hv ?_ hn hdb);exact PyProof.Rows.callWith_builtin1 (bj (ha pos pins s σ H _ I h) λus s1 FG=>by obtain⟨vs,H1,I1,r1,q1⟩:=FG;exact hc pins s1 σ H1 vs us Q I1 r1 q1) he hpl
theorem ju (hc:dg X (.type T) r) (hg:Gl X x) (hm:X.mg x=none) (hv:LM x=some (.type T)) (ha:PA X (e::es) t) (hn:x≠"__name__" := by decide) (hdb:(x==("__debug__" : Str))=false:=by decide)
  (he:K5 (e::es) X.env=(false,eval e X.env)::K5 es X.env:=by rfl) (hpl:(L8 pos (K5 es X.env)).any (·.1)=false:=by rfl):PE X (.Call (.Name x p) (e::es) [] pos) (EC r t):=by
 intro pins s σ H Q I h;refine Np (iI I hg hm hv ?_ hn hdb);exact Nn (bj (ha pos pins s σ H _ I h) λus s1 FF=>by obtain⟨vs,H1,I1,r1,q1⟩:=FF;exact hc pins s1 σ H1 vs us Q I1 r1 q1) he hpl
end
end L2
namespace HT
open PySem PyProof.Rows
def lexLt:List Int->List Int->Bool
 |[],[]=>false
 |[],_::_=>true
 |_::_,[]=>false
 |x::xs,y::ys=>if x=y then lexLt xs ys else decide (x<y)
theorem e_ (x y:Int)(xs ys:List Int):lexLt (x::xs) (y::ys)=if x=y then lexLt xs ys else decide (x<y):=rfl
section
open PySem.SeqAt
open PySem.AutoSeq1 (wpAny_loadPart')
open PySem.MeetsSeq PySem.MeetsSeq2 PySem.MeetsSeq3
end
section
def gW (n d:Nat):Option Int->Nat
 |none=>d
 |some v=>if v<0 then (v+(n:Int)).toNat else min v.toNat n
theorem rO (n d:Nat):gW n d none=d:=rfl
theorem fx (n d k:Nat):gW n d (some (k:Int))=min k n:=by
 show (if (k:Int)<0 then ((k:Int)+(n:Int)).toNat else min (k:Int).toNat n)=min k n
 rw[if_neg (by lia),Int.toNat_natCast]
end
end HT
namespace L2
open PySem PySem.Spec PyProof.Rows
abbrev TO:=St->Hp->(Option Int->Hp->Prop)->Prop
def PO (X:Cx)(e:Option Expr)(t:TO):Prop :=
 ∀(pins:List (Addr×Obj)) (s:KU) (σ:St) (H:Hp) (Q:Option Int->Hp->Prop),Inv X pins σ H s->t σ H Q ->
  Ln (model X.prog X.w) X.A (evalPart e X.env) (λu s'=>∃o H',Inv X pins σ H' s'/\IsPart u o/\Q o H') X.xe s
def uP:TO:=λ_ H Q=>Q none H
def AZ (t:TE):TO:=λσ H Q=>t σ H λx H1=>∃i,x=.int i/\Q (some i) H1
theorem intsAre_of {ns:List Int}:∀{us:List KR},Vals (ns.map V.int) us->NZ us ns:=by
 induction ns with
 |nil=>intro us r;rw[List.map_nil]at r;cases r;exact .nil
 |cons n ns ih =>
  intro us r;rw[LJ]at r;cases r with
  |cons r1 r2 =>
   obtain⟨t,e⟩:=r1;subst e;exact .cons n t (ih r2)
section
variable {X:Cx}{e:Expr}{te:TE}{lo hi:Option Expr}{tl th:TO}{pos p2:Pos}
theorem oM:PO X none uP:=by
 intro pins s σ H Q I h;rw[evalPart_none];exact K0 ⟨none,H,I,.none,h⟩
theorem oK (h:PE X e te):PO X (some e) (AZ te):=by
 intro pins s σ H Q I hw;rw[evalPart_some];refine bj (h pins s σ H _ I hw) λu s1 ⟨x,H1,I1,r1,q1⟩=>?_;obtain⟨i,rfl,q⟩:=q1;obtain⟨t,rfl⟩:=r1;exact⟨some i,H1,I1,.int i t,q⟩
def G5 (X:Cx)(r:V->Option Int->Option Int->Hp->VK->Prop):Prop :=
 ∀(pins:List (Addr×Obj)) (s:KU) (σ:St) (H:Hp) (x:V) (v vl vu:KR) (lo hi:Option Int) (sl:Addr) (Q:VK),Inv X pins σ H s->RelV x v->s.heap.IsSliceOf sl vl vu .none->IsPart vl lo->IsPart vu hi->r x lo hi H Q ->
  ∃T id,typeLookup (.type T) "__getitem__" = pure (some (.builtin id))/\s.TypeIs v T/\Ln (model X.prog X.w) X.A (getItem v (.ref sl)) (EP X pins σ Q) X.xe s
def ID (r:V->Option Int->Option Int->Hp->VK->Prop)(te:TE)(tl th:TO):TE:=λσ H Q=>te σ H λx H1=>tl σ H1 λl H2=>th σ H2 λu H3=>r x l u H3 Q
theorem lG {r:V->Option Int->Option Int->Hp->VK->Prop}(hr:G5 X r)(he:PE X e te)(hl:PO X lo tl)(hu:PO X hi th):PE X (.Subscript e (.Slice lo hi none p2) pos) (ID r te tl th):=by
 intro pins s σ H Q I h;refine Subscript_ (bj (he pins s σ H _ I h) λv s1 ⟨x,H1,I1,r1,q1⟩=>?_);refine wpAny_Slice (bj (hl pins s1 σ H1 _ I1 q1) λvl s2 ⟨l,H2,I2,pl,q2⟩=>bj (hu pins s2 σ H2 _ I2 q2) λvu s3 ⟨u,H3,I3,pu,q3⟩=>?_);rw[evalPart_none];refine K0 ?_;have I4:Inv X pins σ H3 {s3 with heap:=s3.heap.push {cls:=.type "slice",data:=.fields #[vl,vu,.none]}}:=I3.kept (t':=s3.toks) λb ob q=>K4 _ q
 obtain⟨T,id,hT,ht,hg⟩:=hr pins {s3 with heap:=s3.heap.push {cls:=.type "slice",data:=.fields #[vl,vu,.none]}} σ H3 x v vl vu l u s3.heap.objs.size Q I4 r1 (Heap.IsSliceOf.new ..) pl pu q3
 show Ln (model X.prog X.w) X.A (subscriptTail e (.Slice lo hi none p2) v (.ref s3.heap.objs.size)) (EP X pins σ Q) X.xe {s3 with heap:=s3.heap.push {cls:=.type "slice",data:=.fields #[vl,vu,.none]}}
 exact tail_any (ops:=[.ref s3.heap.objs.size,v]) ht hT hg (by with_unfolding_all rfl)
def mB (xs:List V)(lo hi:Option Int):List V:=(xs.drop (HT.gW xs.length 0 lo)).take (HT.gW xs.length xs.length hi-HT.gW xs.length 0 lo)
theorem mz (xs:List V)(lo hi:Option Int):(mB xs lo hi).length<=xs.length:=by
 unfold mB;rw[Lw,M7];lia
end
def zk (n:Nat)(i:Int):Option Nat:=if 0<=i then (if i<n then some i.toNat else none) else if -(n:Int)<=i then some (i+n).toNat else none
def mK {α:Type}(xs:List α)(i:Int):Option α:=(zk xs.length i).bind λj=>xs[j]?
theorem o4 {n:Nat}{i:Int}{j:Nat}(h:zk n i=some j):seqIndex? i n=some j/\j<n/\-(n:Int)<=i/\i<n:=by
 unfold zk at h
 by_cases h0:0<=i
 ·rw[if_pos h0]at h
  by_cases h1:i<n
  ·rw[if_pos h1]at h;have e:i.toNat=j:=Lq h;exact⟨by rw[seqIndex_of h0 h1,e],by lia,by lia,h1⟩
  ·rw[if_neg h1]at h;cases h
 ·rw[if_neg h0]at h
  by_cases h1:-(n:Int)<=i
  ·rw[if_pos h1]at h;have e:(i+n).toNat=j:=Lq h;exact⟨by rw[seqIndex_neg (by lia) h1,e],by lia,h1,by lia⟩
  ·rw[if_neg h1]at h;cases h
theorem pD {α:Type}{xs:List α}{i:Int}{v:α}(h:mK xs i=some v):∃j,seqIndex? i xs.length=some j/\xs[j]?=some v/\j<xs.length/\-(xs.length:Int)<=i/\i<xs.length:=by
 unfold mK at h;cases e:zk xs.length i with
 |none=>rw[e]at h;cases h
 |some j =>
  rw[e]at h;obtain⟨h1,h2,h3,h4⟩:=o4 e;exact⟨j,h1,h,h2,h3,h4⟩
def pG (b:Expr):Prop:=∀o i,subscripted b false o i=operate [o,i] (getItem o i)
def AL (X:Cx)(r:R2):Prop :=
 ∀(value slice:Expr) (pins:List (Addr×Obj)) (s:KU) (σ:St) (H:Hp) (x y:V) (v u:KR) (Q:VK),Inv X pins σ H s->RelV x v->RelV y u->r x y H Q ->
  subscripted slice false v u=operate [v,u] (getItem v u)->Ln (model X.prog X.w) X.A (subscriptTail value slice v u) (EP X pins σ Q) X.xe s
def G8 (X:Cx)(id:String)(r:V->List V->Hp->VK->Prop):Prop :=
 ∀(pins:List (Addr×Obj)) (s:KU) (σ:St) (H:Hp) (x:V) (xs:List V) (v:KR) (us:List KR) (Q:VK),Inv X pins σ H s->RelV x v->Vals xs us->r x xs H Q ->
  Ln (model X.prog X.w) X.A (call (.builtin id) (v::us)) (EP X pins σ Q) X.xe s
section
variable {X:Cx}{a b:Expr}{ta tb:TE}{pos:Pos}
theorem jt {r:R2}(hr:AL X r)(ha:PE X a ta)(hb:PE X b tb)(hs:pG b):PE X (.Subscript a b pos) (A4 r ta tb):=by
 intro pins s σ H Q I h;exact Subscript_ (Al ha hb I h λv u s2 x y H2 I2 rx ry q=>hr a b pins s2 σ H2 x y v u Q I2 rx ry q (hs _ _))
def ES (K:PySem.W.Frag):R2:=λx y H Q=>∃p xs i v,x=.ref p/\y=.int i/\de K H p xs/\mK xs i=some v/\Q v H
def ER (K:PySem.W.Frag):R2:=λx y H Q=>∃p xs i v,x=.ref p/\y=.int i/\q0 K H p xs/\mK xs i=some v/\Q v H
theorem eI:AL X (ES X.K):=by
 intro value slice pins s σ H x y v u Q I rx ry h hs;obtain⟨p,xs,i,z,rfl,rfl,hq,he,q⟩:=h;cases rx;obtain⟨t,rfl⟩:=ry;obtain⟨its,r,pl,hz⟩:=I.list hq;obtain⟨j,h1,h2,h3,h4,h5⟩:=pD he;obtain⟨w,ew,EL⟩:=r.get h2;have hl:=r.length;have hn:=kq;have fin:EP X pins σ Q w s:=⟨z,H,I,EL,q⟩
 by_cases h0:0<=i
 ·have hj:i.toNat=j:=by
   rw[seqIndex_of h0 h5]at h1;exact Lq h1
  exact item_listR pl.isList h0 (by lia) (by rw[hj];simpa using ew) fin hs
 ·have hj:(i+(its.toArray.size:Int)).toNat=j:=by
   rw[seqIndex_neg (by lia) h4]at h1
   rw[Li,<- hl];exact Lq h1
  exact subscriptTail_builtinR (x:=w) pl.isList.typeIs slot_list_getitem.lookup
   (wpAny_getItem_list_neg (Q:=λr s'=>r=w/\EP X pins σ Q r s') pl.isList (by lia) (by rw[Li] <;> lia) (by lia) (by rw[hj];simpa using ew) ⟨rfl,fin⟩) hs
theorem zi:AL X (ER X.K):=by
 intro value slice pins s σ H x y v u Q I rx ry h hs;obtain⟨p,xs,i,z,rfl,rfl,hq,he,q⟩:=h;cases rx;obtain⟨t,rfl⟩:=ry;obtain⟨its,r,pl,hz⟩:=I.tuple hq;obtain⟨j,h1,h2,h3,h4,h5⟩:=pD he;obtain⟨w,ew,EL⟩:=r.get h2;have hl:=r.length;have hn:=kq;have fin:EP X pins σ Q w s:=⟨z,H,I,EL,q⟩;exact subscriptTail_builtinR (x:=w) pl.typeIs slot_tuple_getitem.lookup
  (getItem_tuple (j:=j) (Q:=λr s'=>r=w/\EP X pins σ Q r s') pl (by lia) (by lia) (by rw[Li,<- hl];exact h1) (by simpa using ew) ⟨rfl,fin⟩) hs
theorem nG (its:List KR)(n j:Nat)(u:KR):MH (·.setIfInBounds j u) {cls:=.type "list",data:=.seq its.toArray n}={cls:=.type "list",data:=.seq (its.set j u).toArray n}:=by
 simp[MH]
theorem Inv.lst {pins:List (Addr×Obj)}{σ:St}{H:Hp}{s:KU}{p:Addr}{xs:List V}(I:Inv X pins σ H s)(h:H p=some (.lst xs)):
  ∃(its:List KR) (n:Nat),Vals xs its/\s.heap.get? p=some {cls:=.type "list",data:=.seq its.toArray n}/\xs.length<=Lk:=by
 obtain⟨z,its,n,r,e⟩:=I.a_ p _ h;exact⟨its,n,r,e,z⟩
theorem Inv.yX {pins:List (Addr×Obj)}{σ:St}{H:Hp}{s:KU}{p:Addr}{xs ys:List V}{its its':List KR}{n n':Nat}{f:Obj->Obj}(I:Inv X pins σ H s)(h:H p=some (.lst xs))
  (ho:s.heap.get? p=some {cls:=.type "list",data:=.seq its.toArray n}) (hf:f {cls:=.type "list",data:=.seq its.toArray n}={cls:=.type "list",data:=.seq its'.toArray n'}) (r:Vals ys its') (hz:ys.length<=Lk) (t:Nat) :
  Inv X pins σ (upd H p (.lst ys)) {s with heap:=s.heap.update p f,toks:=t}:=by
 have e:(s.heap.update p f).get? p=some {cls:=.type "list",data:=.seq its'.toArray n'}:=by
  rw[Heap.get?_update_self f ho (by rw[hf] <;> rfl),hf]
 refine I.write (x:=p) (e:=p) (by rw[h];trivial) (.inl rfl) (λb u hb q=>(Heap.get?_update_other _ _ (NV hb)).trans q) ⟨_,e⟩ ?_
 exact⟨hz,its',n',r,e⟩
def Bf:V->V->V->Hp->(Hp->Prop)->Prop:=λo i v H Q=>∃p xs k j,o=.ref p/\i=.int k/\H p=some (.lst xs)/\zk xs.length k=some j/\Q (upd H p (.lst (xs.set j v)))
theorem set_list:Dk X Bf:=by
 intro pins s σ H o i v ov iv u Q I ro ri rv h;obtain⟨p,xs,k,j,rfl,rfl,hp,hj,q⟩:=h;cases ro;obtain⟨t,rfl⟩:=ri;obtain⟨its,n,r,ho,hz⟩:=I.lst hp;obtain⟨h1,h2,h3,h4⟩:=o4 hj;have hl:=r.length;have hn:=kq;have I':Inv X pins σ (upd H p (.lst (xs.set j v))) {s with heap:=s.heap.update p (MH (·.setIfInBounds j u))} :=
  I.yX hp ho (nG its n j u) (r.set rv j) (by rw[List.length_set];exact hz) s.toks
 by_cases h0:0<=k
 ·have hk:k.toNat=j:=by
   rw[seqIndex_of h0 h4]at h1;exact Lq h1
  exact PySem.W.ki_setAt ho h0 (by lia) (by rw[Li,<- hl];exact h4) (by rw[hk];exact⟨_,I',q⟩)
 ·have hk:(k+(its.toArray.size:Int)).toNat=j:=by
   rw[seqIndex_neg (by lia) h3]at h1
   rw[Li,<- hl];exact Lq h1
  exact PySem.W.ki_setBack ho (by lia) (by rw[Li,<- hl];exact h3) (by lia) (by rw[hk];exact⟨_,I',q⟩)
theorem j7 (lo hi:Option Int)(n:Nat):(Nc lo hi none n).1=((HT.gW n 0 lo:Nat):Int)/\(Nc lo hi none n).2.1=((HT.gW n n hi:Nat):Int)/\(Nc lo hi none n).2.2=1:=by
 refine⟨?_,?_,rfl⟩
 ·cases lo with
  |none=>simp[Nc,HT.gW]
  |some i =>
   simp only[Nc,HT.gW,Option.getD_none,show (1:Int)>0 by decide,if_true]
   by_cases h:i<0
   ·simp only[h,if_true] <;> lia
   ·simp only[h,if_false] <;> lia
 ·cases hi with
  |none=>simp[Nc,HT.gW]
  |some i =>
   simp only[Nc,HT.gW,Option.getD_none,show (1:Int)>0 by decide,if_true]
   by_cases h:i<0
   ·simp only[h,if_true] <;> lia
   ·simp only[h,if_false] <;> lia
theorem i8 (its:List KR)(lo hi:Option Int):slicePick its.toArray lo hi none=((its.drop (HT.gW its.length 0 lo)).take (HT.gW its.length its.length hi-HT.gW its.length 0 lo)).toArray:=by
 obtain⟨h1,h2,h3⟩:=j7 lo hi its.toArray.size;unfold slicePick;rw[h1,h2,h3];simp only[sliceRange_one,pick_run,Li] <;> rfl
def EN (K:PySem.W.Frag):V->Option Int->Option Int->Hp->VK->Prop:=λx lo hi H Q=>∃a xs,x=.ref a/\de K H a xs/\∀p,H p=none->Q (.ref p) (upd H p (.lst (mB xs lo hi)))
theorem oF:G5 X (EN X.K):=by
 intro pins s σ H x v vl vu lo hi sl Q I rx hs pl pu h;obtain⟨a,xs,rfl,hx,q⟩:=h;cases rx;obtain⟨its,r,ht,hz⟩:=I.list hx;have hlen:=r.length;refine⟨"list",_,slot_list_getitem.lookup,ht.isList.typeIs,?_⟩;refine wpAny_getItem_list_slice ht.isList hs pl pu .none (by simp) ?_ (by rw[Li] <;> lia)
 rw[i8,<- hlen];refine⟨.ref s.heap.objs.size,_,I.laid (t':=s.toks) (o:=.lst (mB xs lo hi)) (λb ob q=>K4 _ q) (KZ _) ?_,rfl,q _ (I.a_.fresh (KZ _))⟩;exact⟨L4 (mz xs lo hi) hz,_,0,(r.drop (HT.gW xs.length 0 lo)).take (HT.gW xs.length xs.length hi-HT.gW xs.length 0 lo),LB _ rfl⟩
theorem fS:dg X (.builtin "len") (λxs H Q=>∃p ys,xs=[.ref p]/\(de X.K H p ys\/q0 X.K H p ys)/\Q (.int ys.length) H):=by
 intro pins s σ H xs us Q I r h;obtain⟨p,ys,rfl,hq,q⟩:=h;obtain⟨u,rfl,rx⟩:=vals1 r;cases rx;have hn:=kq;rcases hq with hq|hq
 ·obtain⟨its,r',pl,hz⟩:=I.list hq;have hlen:=r'.length;exact Calls.call_len_list pl.isList (by simp only[Li] <;> lia) ⟨.int ys.length,H,I.tok _,⟨s.toks+1,by rw[Li,hlen]⟩,q⟩
 ·obtain⟨its,r',pl,hz⟩:=I.tuple hq;have hlen:=r'.length;exact len_tuple pl (by simp only[Li] <;> lia) ⟨.int ys.length,H,I.tok _,⟨s.toks+1,by rw[Li,hlen]⟩,q⟩
theorem fR:dg X (.type "list") (λxs H Q=>∃p ys,xs=[.ref p]/\(de X.K H p ys\/q0 X.K H p ys)/\∀l,H l=none->Q (.ref l) (upd H l (.lst ys))):=by
 intro pins s σ H xs us Q I r h;obtain⟨p,ys,rfl,hq,q⟩:=h;obtain⟨u,rfl,rx⟩:=vals1 r;cases rx;have fin:∀(its:List KR),Vals ys its->ys.length<=Lk->∀(h':Heap) (c':Nat),(∀b o',s.heap.get? b=some o'->h'.get? b=some o') ->
   h'.get? s.heap.objs.size=some {cls:=.type "list",dict:=none,data:=.seq its.toArray c',slots:=#[]}->EP X pins σ Q (.ref s.heap.objs.size) {s with heap:=h'}:=λits r' hz h' c' kp e =>
  ⟨.ref s.heap.objs.size,_,I.laid (t':=s.toks) kp (KZ _) (show bY X.prog X.w _ h' _ (.lst ys) from ⟨hz,its,c',r',e⟩),rfl,q _ (I.a_.fresh (KZ _))⟩
 rcases hq with hq|hq
 ·obtain⟨its,r',pl,hz⟩:=I.list hq;have hlen:=r'.length;obtain⟨o,ho,hc,n,hd⟩:=pl.isList;exact call_list_seq p (.inl rfl) ho hc hd (λh' c' kp e=>fin its r' hz h' c' kp e) (by simp only[Li] <;> lia)
 ·obtain⟨its,r',pl,hz⟩:=I.tuple hq;have hlen:=r'.length;obtain⟨o,ho,hc,n,hd⟩:=pl;exact call_list_seq p (.inr rfl) ho hc hd (λh' c' kp e=>fin its r' hz h' c' kp e) (by simp only[Li] <;> lia)
def Ep (K:PySem.W.Frag)(T:String)(x:V)(H:Hp):Prop:=match x with
 |.str _=>T="str"
 |.int _=>T="int"
 |.ref p=>(T="list" /\ ∃xs,de K H p xs)\/(T="tuple" /\ ∃o,K.lookup p=some o/\o.cls=.type "tuple" /\ o.dict=none) \/
   (T="dict" /\ ((∃kz,H p=some (.dK kz))\/∃kz,H p=some (.dT kz)))\/(T="set" /\ ∃S n,H p=some (.set S n))
 |_=>False
theorem rm {pins:List (Addr×Obj)}{σ:St}{H:Hp}{s:KU}{T:String}{x:V}{v:KR}(I:Inv X pins σ H s)(r:RelV x v)(ty:Ep X.K T x H):
  s.TypeIs v T/\∀a,v=.ref a->∃ob,s.heap.get? a=some ob/\ob.dict=none:=by
 cases x with
 |str z =>
  obtain⟨t,rfl⟩:=r;cases (show T="str" from ty)
  exact⟨typeIs_str s z t,λ_ e=>nomatch e⟩
 |int i =>
  obtain⟨t,rfl⟩:=r;cases (show T="int" from ty)
  exact⟨typeIs_int s i t,λ_ e=>nomatch e⟩
 |ref p =>
  cases r;rcases ty with⟨rfl,xs,hq⟩|⟨rfl,o,hk,hc,hd⟩|⟨rfl,hk⟩|⟨rfl,S,n,hk⟩
  ·obtain⟨its,_,pl,_⟩:=I.list hq;refine⟨pl.isList.typeIs,λa e=>?_⟩;cases e;obtain⟨o,n,e,c,hd,_⟩:=pl;exact⟨o,e,hd⟩
  ·refine⟨⟨o,I.qY p o hk,hc⟩,λa e=>?_⟩;cases e;exact⟨o,I.qY _ o hk,hd⟩
  ·have z:∃o,s.heap.get? p=some o/\o.ExactDict:=by
    rcases hk with⟨kz,hk⟩|⟨kz,hk⟩
    ·obtain⟨_,_,_,_,o,_,_,e,ex,_⟩:=I.a_ p _ hk;exact⟨o,e,ex⟩
    ·obtain⟨_,_,_,_,o,_,_,e,ex,_⟩:=I.a_ p _ hk;exact⟨o,e,ex⟩
   obtain⟨o,e,ex⟩:=z;refine⟨⟨o,e,ex.1⟩,λa e2=>?_⟩;cases e2;exact⟨o,e,ex.2.1⟩
  ·obtain⟨o,_,_,_,e,ex,_⟩:=I.a_ p _ hk;refine⟨⟨o,e,ex.1⟩,λa e2=>?_⟩;cases e2;exact⟨o,e,ex.2.1⟩
 |_=>exact Ml ty
def ED (K:PySem.W.Frag)(T:String)(r:V->List V->Hp->VK->Prop)(to:TE):TE:=λσ H Q=>to σ H λx H1=>Ep K T x H1/\r x [] H1 Q
def IF (K:PySem.W.Frag)(T:String)(r:V->List V->Hp->VK->Prop)(to:TE)(t:TA):TE:=λσ H Q=>to σ H λx H1=>Ep K T x H1/\t σ H1 λxs H2=>r x xs H2 Q
variable {o e:Expr}{es:List Expr}{to:TE}{t:TA}{name:Str}{apos cpos:Pos}{T id:String}{r:V->List V->Hp->VK->Prop}
theorem yD (pa:PlainAttrs T) (slot:Slot T name id) (Cc:typeOf (.builtin id)=pure (.type "method_descriptor")) (hm:G8 X id r) (ho:PE X o to)
  (cM:My o name X.env (eval o X.env)=eval o X.env:=by rfl) (cL:(apos.endLine==cpos.line)=true:=by rfl):PE X (.Call (.Attribute o name apos) [] [] cpos) (ED X.K T r to):=by
 intro pins s σ H Q I h;refine wpAny_Call_method0_late cM cL (bj (ho pins s σ H _ I h) λv s1 ⟨x,H1,I1,r1,ty,q1⟩=>?_);obtain⟨h1,h2⟩:=rm I1 r1 ty;exact⟨T,id,pa,slot,Cc,h1,h2,Calls.callWith_builtin rfl (PySem.evalArgs_none (hm pins s1 σ H1 x [] v [] Q I1 r1 .nil q1))⟩
theorem sA (pa:PlainAttrs T) (slot:Slot T name id) (Cc:typeOf (.builtin id)=pure (.type "method_descriptor")) (hm:G8 X id r) (ho:PE X o to) (ha:PA X (e::es) t)
  (cM:My o name X.env (eval o X.env)=eval o X.env:=by rfl)
  (gq:((L8 cpos (K5 (e::es) X.env)).all (λx=>!x.1)&&(Ov cpos (Ny [] X.env)).all (λx=>x.1.isSome)
   && decide ((e::es).length+([]:List Nb).length+(if ([]:List Nb).isEmpty then 0 else 1)<30))=true:=by rfl)
  (cL:(apos.endLine==cpos.line)=true:=by rfl) (hs:K5 (e::es) X.env=(false,eval e X.env)::K5 es X.env:=by rfl) (cK:(L8 cpos (K5 es X.env)).any (·.1)=false:=by rfl) :
  PE X (.Call (.Attribute o name apos) (e::es) [] cpos) (IF X.K T r to t):=by
 intro pins s σ H Q I h;refine wpAny_Call_method_late cM gq cL rfl (bj (ho pins s σ H _ I h) λv s1 ⟨x,H1,I1,r1,ty,q1⟩=>?_);obtain⟨h1,h2⟩:=rm I1 r1 ty;refine⟨T,id,pa,slot,Cc,h1,h2,?_⟩;have hA:=ha cpos pins s1 σ H1 _ I1 q1;rw[hs]at hA ⊢
 refine Calls.callWith_builtin (by show (false || (L8 cpos (K5 es X.env)).any (·.1))=false;rw[cK] <;> rfl) (Calls.evalArgs_plain ?_)
 exact bj hA λus s2 ⟨vs,H2,I2,r2,q2⟩=>hm pins s2 σ H2 x vs v us Q I2 r1 r2 q2
end
def G9 (X:Cx)(id:String)(r:V->List V->Hp->VK->Prop):Prop :=
 ∀(pins:List (Addr×Obj)) (s:KU) (σ:St) (H:Hp) (x:V) (xs:List V) (v:KR) (us:List KR) (Q:VK),Inv X pins σ H s->RelV x v->Vals xs us->r x xs H Q ->
  Ln (model X.prog X.w) X.A (call (.builtin id) (v::us)) (EP X pins σ Q) X.xe s
theorem Vals.one:∀{x:V} {us:List KR},Vals [x] us->∃u,us=[u]/\RelV x u
 |_,_,.cons r .nil=>⟨_,rfl,r⟩
theorem Vals.zero:∀{us:List KR},Vals [] us->us=[]
 |_,.nil=>rfl
theorem Vals.dropLast {xs:List V}{us:List KR}(h:Vals xs us):Vals xs.dropLast us.dropLast:=by
 induction h with
 |nil=>exact .nil
 |cons r t ih =>
  cases t with
  |nil=>exact .nil
  |cons q t'=>exact .cons r ih
theorem n9 {α:Type}(l:List α):l.eraseIdx (l.length-1)=l.dropLast:=by
 induction l with
 |nil=>rfl
 |cons a r ih =>
  cases r with
  |nil=>rfl
  |cons b r =>
   have e:(a::b::r).length-1=((b::r).length-1)+1:=by
    have h1:(a::b::r).length=r.length+2:=rfl;have h2:(b::r).length=r.length+1:=rfl;lia
   rw[e,List.eraseIdx_cons_succ,ih]
   all_goals rfl
section
variable {X:Cx}{pins:List (Addr×Obj)}{σ:St}{H:Hp}{s:KU}{l:Addr}{xs ys:List V}
theorem Inv.y_ {its its':List KR}{n:Nat}{f:Array KR->Array KR}{t':Nat}(I:Inv X pins σ H s)(hH:H l=some (.lst xs))
  (e:s.heap.get? l=some {cls:=.type "list",data:=.seq its.toArray n}) (hf:f its.toArray=its'.toArray) (hv:Vals ys its') (hz:ys.length<=Lk) :
  Inv X pins σ (upd H l (.lst ys)) {s with heap:=s.heap.update l (MH f),toks:=t'}:=by
 have q:=PySem.IsL.update e f;rw[hf]at q;refine I.write (x:=l) (e:=l) (by rw[hH];exact trivial) (.inl rfl) (λb' u hb hu=>(Heap.get?_update_other s.heap (MH f) (NV hb)).trans hu) ⟨_,q⟩ ?_
 exact⟨hz,its',_,hv,q⟩
theorem Inv.B0 {its:List KR}{t':Nat}(I:Inv X pins σ H s)(hv:Vals ys its)(hz:ys.length<=Lk):
  Inv X pins σ (upd H s.heap.objs.size (.lst ys)) {s with heap:=s.heap.push {cls:=.type "list",data:=.seq its.toArray},toks:=t'} :=
 I.laid (λ_ _ q=>K4 _ q) (KZ _) ⟨hz,its,0,hv,LB _ rfl⟩
theorem Inv.fresh (I:Inv X pins σ H s):H s.heap.objs.size=none:=I.a_.fresh (KZ _)
theorem Inv.qi (I:Inv X pins σ H s)(hH:H l=some (.lst xs)):xs.length<=Lk/\∃(its:List KR) (n:Nat),Vals xs its/\xs.length=its.length/\s.heap.get? l=some {cls:=.type "list",data:=.seq its.toArray n}:=by
 obtain⟨z,its,n,r,e⟩:=I.a_ l _ hH;exact⟨z,its,n,r,r.length,e⟩
theorem sO {n:Nat}(h:n<=Lk):NN n=false:=by
 unfold NN;exact decide_eq_false (by lia)
end
section
variable {X:Cx}
def u5:V->List V->Hp->VK->Prop:=λx vs H Q=>∃l xs y,x=.ref l/\vs=[y]/\H l=some (.lst xs)/\xs.length<Lk/\Q .bx (upd H l (.lst (xs++[y])))
theorem jw:G9 X "list.append" u5:=by
 intro pins s σ H x vs v us Q I rx rv h;obtain⟨l,xs,y,rfl,rfl,hH,hz,q⟩:=h;cases rx;obtain⟨u,rfl,ru⟩:=rv.one;obtain⟨z,its,n,r,hl,e⟩:=I.qi hH;refine Oq F.slot_list_append ⟨_,e,rfl⟩ F.entry_list_append (F.args_list_append_2 _ _) (PySem.list_append l its.toArray n u (by rw[Li];lia)) ⟨e,?_⟩
 refine⟨.bx,_,I.y_ (its':=its++[u]) hH e (by simp) (r.append (.cons ru .nil)) ?_,rfl,q⟩
 rw[Lz,MB];lia
def uZ:V->List V->Hp->VK->Prop:=λx vs H Q=>∃l b xs zs,x=.ref l/\vs=[.ref b]/\H l=some (.lst xs)/\H b=some (.lst zs)/\xs.length+zs.length<=Lk/\Q .bx (upd H l (.lst (xs++zs)))
theorem qf:G9 X "list.extend" uZ:=by
 intro pins s σ H x vs v us Q I rx rv h;obtain⟨l,b,xs,zs,rfl,rfl,hH,hB,hz,q⟩:=h;cases rx;obtain⟨u,rfl,ru⟩:=rv.one;cases ru;obtain⟨z,its,n,r,hl,e⟩:=I.qi hH;obtain⟨z2,nM,n2,r2,HS,e2⟩:=I.qi hB;have AA:its.toArray.size+nM.toArray.size<=Lk:=by rw[Li,Li];lia
 have CH:¬ (!its.toArray.isEmpty&&NN (its.toArray.size+nM.toArray.size))=true:=by
  rw[sO AA,Bool.and_false];exact Mm
 refine Oq F.slot_list_extend ⟨_,e,rfl⟩ F.entry_list_extend (F.args_list_extend_2 _ _)
  (AutoSeq1.list_extend_list_list_0 l its.toArray n b nM.toArray n2 CH (by rw[Li];lia) (by lia)) ⟨e,e2,?_⟩
 refine⟨.bx,_,I.y_ (its':=its++nM) hH e (by simp) (r.append r2) ?_,rfl,q⟩
 rw[Lz];lia
def EO:V->List V->Hp->VK->Prop:=λx vs H Q=>∃l xs y,x=.ref l/\vs=[]/\H l=some (.lst xs)/\xs[xs.length-1]?=some y/\Q y (upd H l (.lst xs.dropLast))
theorem yW:G9 X "list.pop" EO:=by
 intro pins s σ H x vs v us Q I rx rv h;obtain⟨l,xs,y,rfl,rfl,hH,hy,q⟩:=h;cases rx;have qp:=rv.zero;subst qp;obtain⟨z,its,n,r,hl,e⟩:=I.qi hH;obtain⟨u,hu,ru⟩:=r.get hy;have Jr:its.toArray[its.toArray.size-1]?=some u:=by
  show its.toArray[its.length-1]?=some u;rw[<- Lb,<- hl];exact hu
 refine Oq F.slot_list_pop ⟨_,e,rfl⟩ F.entry_list_pop (F.args_list_pop_1 _) (MeetsSeq.list_pop_last l its.toArray n u Jr (by rw[Li];lia)) ⟨e,?_⟩
 refine⟨y,_,I.y_ (its':=its.dropLast) hH e ?_ r.dropLast ?_,ru,q⟩
 ·show its.toArray.eraseIdxIfInBounds (its.toArray.size-1)=its.dropLast.toArray;rw[Li,List.eraseIdxIfInBounds_toArray,n9]
 ·rw[List.length_dropLast];lia
def EV:R2:=λx y H Q=>∃l b xs zs,x=.ref l/\y=.ref b/\H l=some (.lst xs)/\H b=some (.lst zs)/\xs.length+zs.length<=Lk/\∀p,H p=none->Q (.ref p) (upd H p (.lst (xs++zs)))
theorem sM:fV X (MF .Add) EV:=by
 intro pins s σ H x y v u Q I rx ry h;obtain⟨l,b,xs,zs,rfl,rfl,hH,hB,hz,q⟩:=h;cases rx;cases ry;obtain⟨z,its,n,r,hl,e⟩:=I.qi hH;obtain⟨z2,nM,n2,r2,HS,e2⟩:=I.qi hB;refine PySem.P.add_list e e2 ?_ (by rw[Li,Li];lia)
 have ea:its.toArray++nM.toArray=(its++nM).toArray:=by simp
 rw[ea];exact⟨.ref _,_,I.B0 (t':=s.toks) (r.append r2) (by rw[Lz];lia),rfl,q _ I.fresh⟩
end
section
end
section
end
end L2
namespace Ip
open PySem PySem.W PySem.Calls PyProof.Rows
theorem gR {P:Params}{h:Heap}:∀(ns:List Int) (vs:List KR),WellAll P h vs (ns.map WData.int)->NZ vs ns:=by
 intro ns
 induction ns with
 |nil =>
  intro vs w;rw[List.map_nil]at w;cases w;exact .nil
 |cons n ns ih =>
  intro vs w;rw[LJ]at w;cases w with
  |cons a b =>
   cases a;exact .cons _ _ (ih _ b)
theorem pW {l:OpenLaw}{n:Nat}(hn:l.most=some n){P:Params}{h:Heap}{args:List WData}{vals:List KR}
  (vQ:l.row.toRowW.claim.pre args=true) (Fy:WellAll P h vals args) :
  ∃a vs ns,vals=[Value.ref a]/\args=[WData.list (ns.map WData.int)]/\h.get? a=some {cls:=.type "list",data:=.seq vs.toArray}/\NZ vs ns/\ns.length<=n:=by
 have Jw:WShape.hasAll [] args [.list .int]=true:=(pre_splitW vQ).1;have hc:l.pre.holds [] {args:=args}=true:=(pre_splitW vQ).2;obtain⟨d,r,rfl,h1,h2⟩:=hasAllW_cons Jw;obtain rfl:=hasAllW_nil h2;obtain⟨xs,rfl,h3⟩:=hasW_list h1;obtain⟨ns,rfl⟩:=items_int h3;have hlen:ns.length<=n:=by
  unfold OpenLaw.pre at hc;have h4:(WTm.not (.lt (.lit (.int (n:Int))) (.len (.arg 0)))).holds [] {args:=[.list (ns.map .int)]}=true:=by
   have h4:=(holds_andW hc).1;rw[hn]at h4;exact h4
  have h5:=condW_of h4 (w_not (w_lt w_lit (w_len_list (w_arg rfl))));rw[KY]at h5;refine Nat.le_of_not_lt λq=>?_;have q':(n:Int)<((ns.length:Nat):Int):=by lia
  first
   | (rw[decide_eq_true q']at h5;exact absurd h5 (by decide))
   | (simp at h5;lia)
 cases Fy with
 |cons w1 w2 =>
  cases w2;cases w1 with
  |list ho jd=>exact⟨_,_,ns,rfl,rfl,ho,gR ns _ jd,hlen⟩
theorem p5 (l:OpenLaw)(args:List WData):l.row.toRowW.claim.post args (.bool true) args=true :=
 postW_of (r:=l.row.toRowW) (X:=(true==true))
  (show WShape.has [] (.bool true) .bool=true by first|rfl|decide|simp[WShape.has,WShape.arms,WShape.armsAll])
  (show (WTm.eq .res (.lit (.bool true))).value [] {args:=args,res:=some (.bool true),after:=args}=some (.bool (true==true)) from w_eq_bool (w_res rfl) w_lit) rfl
theorem mJ {l:OpenLaw}{n:Nat}{q:K3}{loose:List Str}{XP:(Str->Option KR)->Heap->Prop}{YP:Lf->Heap->Prop}{d:DefRec}
  (hn:l.most=some n) (DR:d.params.defaults=[])
  (call:∀(w:Lf) (s₀ s₁:KU) (mg mb:Str->Option KR) (fa:Addr) (o:Obj) (pm cd doc:KR) (a:Addr) (vs:List KR) (ns:List Int),
   Ground q loose [] XP w s₀ mg mb s₁.heap->YP w s₁.heap ->
   s₁.heap.get? fa=some o->o.data=.func (docDef d.name d.params d.body d.scope pm cd doc)->s₁.heap.CodeRec cd d.name->mg d.name=some (.ref fa) ->
   s₁.heap.get? a=some {cls:=.type "list",data:=.seq vs.toArray}->NZ vs ns->ns.length<=n->s₁.gens=#[] ->
   Na (model l.prog w) Ou (.call (.ref fa) ⟨[.ref a],[]⟩) (λr s'=>r=.ok (.ret (.bool true))/\OldK s₁.heap s'.heap/\s'.os=s₁.os/\NC s'.gens) s₁) :
  WalkO q loose XP YP l.row.toRowW d [] (λf vs=>PySem.call f vs):=by
 intro w s₀ s₁ mg mb G Y fa o pm cd doc dV kV ho hd g8 hD F_ hg args vals as vQ JK KA Fy DO;obtain rfl:dV=.none:=Dflts.none hD DR;obtain rfl:kV=.none:=Dflts.noKw hD;obtain⟨a,vs,ns,rfl,rfl,zM,hints,hlen⟩:=pW hn vQ Fy;refine enter_call (MK (call w s₀ s₁ mg mb fa o pm cd doc a vs ns G Y ho (fd_plain hd) g8 F_ zM hints hlen hg) λr s' hq=>?_);obtain⟨rfl,h2,h3,h4⟩:=hq;exact⟨.inl ⟨.bool true,.bool true,[],rfl,λ_=>rfl,.bool true,p5 l _,λ_=>⟨List.Pairwise.nil,λ_ hm=>(nomatch hm)⟩⟩,h2,h3,h4⟩
section
end
end Ip
namespace L2
open PySem PySem.Spec PyProof.Rows
theorem jj:∀{vs:List KR} {ns:List Int},NZ vs ns->Vals (ns.map V.int) vs
 |_,_,.nil=>.nil
 |_,_,.cons n t h=>.cons ⟨t,rfl⟩ (jj h)
def An (H:Hp):Prop:=∀b,H b=none\/∃o xs,H b=some (.tO o (.lst xs))
theorem sZ {P:K3}{w:Lf}{K:PySem.W.Frag}{mg mb:Str->Option KR}{CX:qR}{k:Nat}{fa a:Addr}{fd:LF}{x:Str}{sp:Sp}{s₁:KU}{vs:List KR}{ns:List Int}
  (KX:K.In s₁.heap) (AD:s₁.heap.Ns Mt mg) (hb:s₁.heap.Ns builtinsNs mb) (JU:∀x:Str,x≠"__name__" -> mb x=LM x) (Ge:s₁.heap.NoLimit) (hg:s₁.gens=#[])
  (ha:s₁.heap.get? a=some {cls:=.type "list",data:=.seq vs.toArray}) (hi:NZ vs ns) (hl:ns.length<=Lk) (hr:bN k Ou)
  (F:∀base:Heap,K.In base->base.Ns Mt mg->aR P w K mg base CX k fa fd [x] sp) (CW:∀(s:KU) (u:KR),BindsTo s fd ⟨[u],[]⟩ [(x,u)])
  (eN:∀H:Hp,An H->de K H a (ns.map V.int)->sp [.ref a] H (λv _=>v=.bl true) λ_ _ _=>False)
  (GB:∀H e s',CX [] H s₁ (λ_ _ _=>False) e s'->False) :
  Na (model P w) Ou (.call (.ref fa) ⟨[.ref a],[]⟩) (λr s'=>r=.ok (.ret (.bool true))/\OldK s₁.heap s'.heap/\s'.os=s₁.os/\NC s'.gens) s₁:=by
 have rv:=jj hi;have Fn:=hi.length;have core:∀H:Hp,An H->de K H a (ns.map V.int)->eW P w H s₁.heap->(∀b,H b≠none->b=a)->(H a≠none->K.lookup a=none) ->
   Na (model P w) Ou (.call (.ref fa) ⟨[.ref a],[]⟩) (λr s'=>r=.ok (.ret (.bool true))/\OldK s₁.heap s'.heap/\s'.os=s₁.os/\NC s'.gens) s₁:=by
  intro H hO hS a_ hA hK;have pC:∀{b:Addr} {o:Obj},s₁.heap.get? b=some o->H b=none->(kK s₁.heap H).get? b=some o:=λe n=>tI e n;have BH:∀{b:Addr} {o:Obj} {es:Array DictEntry} {ep:Nat},s₁.heap.get? b=some o->o.data=.dict es ep->H b=none:=λ{b o es ep} e d=>by
   cases q:H b with
   |none=>rfl
   |some u =>
    have e':b=a:=hA b (by rw[q];simp)
    subst e';rw[ha]at e;cases e;have d':Data.seq vs.toArray _=Data.dict es ep:=d;cases d'
  have DA:∀{b:Addr} {m:Str->Option KR},s₁.heap.Ns b m->(kK s₁.heap H).Ns b m:=λ{b m} ⟨o,es,ep,e,d,r⟩=>⟨o,es,ep,pC e (BH e d),d,r⟩;have Ib:K.In (kK s₁.heap H):=λb o e=>pC (KX b o e) (by
   cases q:H b with
   |none=>rfl
   |some u =>
    have e':b=a:=hA b (by rw[q];simp)
    subst e';rw[hK (by rw[q];simp)]at e;cases e)
  have hM:Mod K mg (kK s₁.heap H):=⟨Ib,DA AD,⟨mb,DA hb,JU⟩,let ⟨mc,h1,h2⟩:=Ge;⟨mc,DA h1,h2⟩⟩
  have e0:wI P w K mg (kK s₁.heap H) Ou [] s₁ H:=⟨rfl,hM,λb o e=>vA e,Nat.le_of_eq (qv _ _),trivial,λb hb=>absurd (show b∈([]:List Addr) from hb) (by simp),a_,.of_eq hg⟩
  refine MK ((F _ Ib (DA AD)).run Ou [] s₁ H ⟨[.ref a],[]⟩ [.ref a] [.ref a] _ _ hr e0 (CW s₁ (.ref a)) (.cons rfl .nil) (eN H hO hS)) λr s' h=>?_;cases r with
  |error e=>exact(GB H e s' h).elim
  |ok fl =>
   cases fl with
   |next=>exact Ml h
   |brk=>exact Ml h
   |cont=>exact Ml h
   |ret u =>
    obtain⟨v,H',os,bare,un,F5,r',q⟩:=h;have q':v=.bl true:=q;subst q';obtain rfl:u=Value.bool true:=r';refine⟨rfl,OldK.of_keep λb o e=>?_,os,bare⟩;cases q:H b with
    |none=>exact un.keep b o e q (by intro z;exact absurd (show b∈([]:List Addr) from z) (by simp)) (by simp)
    |some u =>
     rcases hO b with z|⟨ob,xs,z⟩
     ·rw[q]at z;cases z
     ·have z2:=un.eO b ob _ z;obtain⟨e1,_⟩:=a_ b _ z;obtain⟨e2,_⟩:=F5 b _ z2;rw[e]at e1;cases e1;exact e2
 cases hk:K.lookup a with
 |some o =>
  have e:=KX a o hk;rw[ha]at e;cases e;refine core (λ_=>none) (λ_=>.inl rfl) (.inr ⟨_,vs.toArray,_,hk,rfl,rfl,rfl,by rw[Li,Fn];exact hl,by simpa using rv⟩) (λb u z=>by have z':(none:Option HO)=some u:=z;cases z') (λb z=>absurd rfl z) λz=>absurd rfl z
 |none =>
  refine core (λb=>if b=a then some (.tO {cls:=.type "list",data:=.seq vs.toArray} (.lst (ns.map V.int))) else none) (λb=>?_) (.inl (.inr ⟨{cls:=.type "list",data:=.seq vs.toArray},if_pos rfl⟩)) (λb u z=>?_) (λb z=>?_) λ_=>hk
  ·by_cases hb:b=a
   ·exact .inr ⟨_,_,if_pos hb⟩
   ·exact .inl (if_neg hb)
  ·by_cases hb:b=a
   ·have z':=(if_pos hb).symm.trans z;cases z';subst hb;exact⟨ha,by rw[KY];exact hl,vs,_,rv,ha⟩
   ·have z':=(if_neg hb).symm.trans z;cases z'
  ·by_cases hb:b=a
   ·exact hb
   ·exact absurd (if_neg hb) z
theorem uO {l:PySem.W.OpenLaw}{n k:Nat}{q:K3}{loose:List Str}{XP:(Str->Option KR)->Heap->Prop}{YP:Lf->Heap->Prop}{d:DefRec}{K:Params->PySem.W.Frag}{CX:Lf->qR}{sp:Lf->Sp}{x:Str}
  (hn:l.most=some n) (DM:n<=Lk) (DR:d.params.defaults=[]) (hr:bN k Ou)
  (hY:∀(w:Lf) (h:Heap),YP w h->(K w.params).In h)
  (F:∀(w:Lf) (mg:Str->Option KR) (fa:Addr) (h:Heap),(K w.params).In h->h.Ns Mt mg->mg d.name=some (.ref fa) ->
   ∃fd:LF,(∀(s:KU) (u:KR),BindsTo s fd ⟨[u],[]⟩ [(x,u)]) /\
    ∀base:Heap,(K w.params).In base->base.Ns Mt mg->aR l.prog w (K w.params) mg base (CX w) k fa fd [x] (sp w))
  (eN:∀(w:Lf) (H:Hp) (a:Addr) (ns:List Int),ns.length<=n->An H->de (K w.params) H a (ns.map V.int)->sp w [.ref a] H (λv _=>v=.bl true) λ_ _ _=>False)
  (GB:∀(w:Lf) (H:Hp) (s:KU) (e:KR) (s':KU),CX w [] H s (λ_ _ _=>False) e s'->False) :
  PySem.W.WalkO q loose XP YP l.row.toRowW d [] (λf vs=>PySem.call f vs):=by
 refine Ip.mJ hn DR λw s₀ s₁ mg mb fa o pm cd doc a vs ns G Y ho hd g8 F_ zM hints hlen hg=>?_;have KX:=hY w _ Y;obtain⟨fd,hb,hF⟩:=F w mg fa _ KX G.T.g F_;exact sZ KX G.T.g G.T.b G.T.builtins G.T.nolimit hg zM hints (L4 hlen DM) hr hF hb (λH hO hS=>eN w H a ns hlen hO hS) λH e s'=>GB w H s₁ e s'
abbrev dj:qR:=λ_ _ _ _ _ _=>False
abbrev E0:XK:=λ_ _ _=>False
theorem wQ {X:Cx}:Passes dj X E0:=λ_ _ _ _ _ _ _ h=>h.elim
structure ur (K:PySem.W.Frag)(x qual:Str)(st:Stmt)(f:Addr)(fd:LF):Prop where
 ex:∃(oc:KR) (od:Option Addr) (kV doc pm:KR) (an:Option Addr) (bX ct:KR) (wR:Array (Option KR)),
  fd=PySem.W.fnOf x qual (g9 st) (cg st) (aw st) .none kV doc pm an bX ct/\K.lookup f=some ⟨oc,od,.func fd,wR⟩/\PySem.W.codeIn K bX qual=true
 kp:PySem.W.keepIn K (.ref f)=true
section
variable {P:K3}{w:Lf}{K:PySem.W.Frag}{mg:Str->Option KR}{base:Heap}
theorem ur.ok {x qual:Str}{st:Stmt}{f:Addr}{fd:LF}{N ps:List Str}{k:Nat}{sp:Sp}(F:ur K x qual st f fd)(S:aU N ps (aw st))(len:∀vs H Q E,sp vs H Q E->vs.length=ps.length)
  (fN:∀(bX:KR) (A:LI) (outer:List Env) (s:KU) (H:Hp) (vs:List V) (Q:VK) (E:XK),bN k (A.deeper (NG qual (aw st) s.heap.objs.size f bX))->sp vs H Q E ->
   ∃t,mM (gT dj P w K mg base N qual (aw st) f bX A outer s H E).mU (cg st) t/\t {nx:=λ_ H'=>Q .bx H',rt:=Q} (start N vs) H):aR P w K mg base dj (k+1) f fd ps sp:=by
 obtain⟨oc,od,kV,doc,pm,an,bX,ct,wR,rfl,lk,g8⟩:=F.ex;refine xo lk g8 S len λA outer s H vs Q E hr eN=>?_;obtain⟨t,h,q⟩:=fN bX A outer s H vs Q E hr eN;exact⟨t,h.mU,q⟩
theorem z5 {x qual:Str}{st:Stmt}{f:Addr}{oc:KR}{od an:Option Addr}{wR:Array (Option KR)}{kV doc pm bX ct:KR}(l:K.lookup f=some ⟨oc,od,.func (PySem.W.fnOf x qual (g9 st) (cg st) (aw st) .none kV doc pm an bX ct),wR⟩)
  (c:PySem.W.codeIn K bX qual=true) (k:PySem.W.keepIn K (.ref f)=true):ur K x qual st f (PySem.W.fnOf x qual (g9 st) (cg st) (aw st) .none kV doc pm an bX ct):=⟨⟨oc,od,kV,doc,pm,an,bX,ct,wR,rfl,l,c⟩,k⟩
end
section
variable {X:Cx}
theorem pv (i:Nat){x:Str}{pos:Pos}(hN:X.N[i]?=some x:=by rfl)(hv:uG X.env.scope x:=by first|exact Or.inl rfl|exact Or.inr (Or.inl rfl)|exact Or.inr (Or.inr rfl))(hd:(x==("__debug__" : Str))=false:=by decide)
  (g8:(x==("__classdict__" : Str))=false:=by decide):PE X (.Name x pos) (AW i):=eZ hN hv hd g8
end
def ay (H H':Hp):Prop:=∀b o,H b=some o->H' b=some o
theorem ay.refl (H:Hp):ay H H:=λ_ _ h=>h
theorem ay.trans {H H1 H2:Hp}(a:ay H H1)(b:ay H1 H2):ay H H2:=λc o h=>b c o (a c o h)
theorem ay.free {H H':Hp}(e:ay H H'){l:Addr}(h:H' l=Option.none):H l=Option.none:=by
 cases q:H l with
 |none=>rfl
 |some o =>
  rw[e l o q]at h;cases h
theorem ay.seq {K:PySem.W.Frag}{H H':Hp}{a:Addr}{xs:List V}(e:ay H H')(h:de K H a xs):de K H' a xs:=by
 rcases h with (h|⟨o,h⟩)|h
 ·exact .inl (.inl (e _ _ h))
 ·exact .inl (.inr ⟨o,e _ _ h⟩)
 ·exact .inr h
section
variable {X:Cx}{a b c:Expr}{ta tb:TE}{pos:Pos}
def mS (i j:Int):Prop:=0<j/\j.natAbs.log2<9000
theorem mS.of {i j:Int}(h0:0<j)(h:j<2 ^ 200):mS i j:=by
 refine⟨h0,?_⟩;have h2:j.natAbs<2 ^ 200:=by lia
 have:=(Nat.log2_lt (n:=j.natAbs) (k:=200) (by lia)).mpr h2
 lia
theorem lH:fV X (MF .FloorDiv) (rI mS λi j=>.int (i / j)):=Dy λi j _ _ _ _ _ hc q=>by
 have h1:(0:Int)<j:=hc.1;exact floordiv_int (by lia) (by rw[Int.fdiv_eq_ediv_of_nonneg i (by lia)];exact q) (.inl (PyProof.noPylong_of_log2 hc.2))
def xO (X:Cx)(ops:List Ng)(rs:List Expr)(t:V->TE):Prop :=
 ∀(pos:Pos) (pins:List (Addr×Obj)) (s:KU) (σ:St) (H:Hp) (x:V) (v:KR) (Q:VK),Inv X pins σ H s->RelV x v->t x σ H Q ->
  Ln (model X.prog X.w) X.A (compareChain pos v ops (evalEach rs X.env)) (EP X pins σ Q) X.xe s
def mQ (X:Cx)(ops:List Ng)(rs:List Expr)(t:V->TT):Prop :=
 ∀(pos:Pos) (pins:List (Addr×Obj)) (s:KU) (σ:St) (H:Hp) (x:V) (v:KR) (Q:Bool->Hp->Prop),Inv X pins σ H s->RelV x v->t x σ H Q ->
  Ln (model X.prog X.w) X.A (testChain pos v ops (evalEach rs X.env)) (TP X pins σ Q) X.xe s
variable {op yJ:Ng}{ops:List Ng}{rs:List Expr}{r:R2}{t:V->TE}{tt:V->TT}
theorem Ag (ho:fV X (LW op) r)(hb:PE X b tb):xO X [op] [b] (λx σ H Q=>tb σ H λy H2=>r x y H2 Q):=by
 intro pos pins s σ H x v Q I rx h;exact chain_last (bj (hb pins s σ H _ I h) λu s1 qr=>by obtain⟨y,H1,I1,r1,q1⟩:=qr;exact ho pins s1 σ H1 x y v u Q I1 rx r1 q1)
theorem wt (ho:fV X (LW op) r)(hb:PE X b tb)(hc:xO X (yJ::ops) (c::rs) t):
  xO X (op::yJ::ops) (b::c::rs) (λx σ H Q=>tb σ H λy H2=>r x y H2 λz H3=>∃k,z=.bl k/\(if k=true then t y σ H3 Q else Q (.bl false) H3)):=by
 intro pos pins s σ H x v Q I rx h;refine chain_link (bj (hb pins s σ H _ I h) λu s1 ⟨y,H1,I1,r1,q1⟩=>bj (ho pins s1 σ H1 x y v u _ I1 rx r1 q1) λd s3 ⟨z,H3,I3,r3,k,e,q3⟩=>?_);subst e;cases r3;refine MD ?_;cases k with
 |false=>exact ite_ff ⟨.bl false,H3,I3,rfl,q3⟩
 |true=>exact ite_tt (hc pos pins s3 σ H3 y u Q I3 r1 q3)
theorem p9 {cI cH:Ng}(ha:PE X a ta)(hc:xO X (cI::cH::ops) (b::c::rs) t)(hm:lastMarks (cI::cH::ops) (b::c::rs)=false:=by with_unfolding_all rfl):
  PE X (.Compare a (cI::cH::ops) (b::c::rs) pos) (λσ H Q=>ta σ H λx H1=>t x σ H1 Q):=by
 intro pins s σ H Q I h;exact Compare_chain (bj (ha pins s σ H _ I h) λv s1 zA=>by obtain⟨x,H1,I1,r1,q1⟩:=zA;exact hc pos pins s1 σ H1 x v Q I1 r1 q1) hm
theorem wq (ho:fV X (LW op) r)(hb:PE X b tb):mQ X [op] [b] (λx σ H Q=>tb σ H λy H2=>r x y H2 λz H3=>∃k,z=.bl k/\Q k H3):=by
 intro pos pins s σ H x v Q I rx h;refine test_last (bj (hb pins s σ H _ I h) λu s1 ⟨y,H1,I1,r1,q1⟩=>bj (ho pins s1 σ H1 x y v u _ I1 rx r1 q1) λd s3 ⟨z,H3,I3,r3,k,e,q3⟩=>?_);subst e;cases r3;exact MD ⟨H3,I3,q3⟩
theorem t7 (ho:fV X (LW op) r)(hb:PE X b tb)(hc:mQ X (yJ::ops) (c::rs) tt):
  mQ X (op::yJ::ops) (b::c::rs) (λx σ H Q=>tb σ H λy H2=>r x y H2 λz H3=>∃k,z=.bl k/\(if k=true then tt y σ H3 Q else Q false H3)):=by
 intro pos pins s σ H x v Q I rx h;refine test_link (bj (hb pins s σ H _ I h) λu s1 ⟨y,H1,I1,r1,q1⟩=>bj (ho pins s1 σ H1 x y v u _ I1 rx r1 q1) λd s3 ⟨z,H3,I3,r3,k,e,q3⟩=>?_);subst e;cases r3;refine MD ?_;cases k with
 |false=>exact ite_ff ⟨H3,I3,q3⟩
 |true=>exact ite_tt (hc pos pins s3 σ H3 y u Q I3 r1 q3)
theorem pZ {cI cH:Ng}(ha:PE X a ta)(hc:mQ X (cI::cH::ops) (b::c::rs) tt)(hm:lastMarks (cI::cH::ops) (b::c::rs)=false:=by with_unfolding_all rfl):
  PT X (.Compare a (cI::cH::ops) (b::c::rs) pos) (λσ H Q=>ta σ H λx H1=>tt x σ H1 Q):=by
 intro pins s σ H Q I h;exact isTrue_chain (bj (ha pins s σ H _ I h) λv s1 vO=>by obtain⟨x,H1,I1,r1,q1⟩:=vO;exact hc pos pins s1 σ H1 x v Q I1 r1 q1) hm
end
theorem i4:LM "max" = some (.builtin "max"):=by decide +kernel
theorem i3:LM "min" = some (.builtin "min"):=by decide +kernel
theorem ud:LM "int" = some (.type "int"):=by decide +kernel
theorem wy:LM "list" = some (.type "list"):=by decide +kernel
theorem gw:LM "sorted" = some (.builtin "sorted"):=by decide +kernel
theorem uc:LM "isinstance" = some (.builtin "isinstance"):=by decide +kernel
theorem Ak:LM "len" = some (.builtin "len"):=by decide +kernel
theorem B5 {c A B:Prop}[Decidable c](hc:c)(h:A):if decide c=true then A else B:=by
 rw[if_pos (decide_eq_true hc)];exact h
theorem B6 {c A B:Prop}[Decidable c](hc:¬ c)(h:B):if decide c=true then A else B:=by
 rw[if_neg (by simp[hc])]
 exact h
theorem Fp {c A B:Prop}[Decidable c](h1:c->A)(h2:¬ c->B):if decide c=true then A else B:=by
 by_cases h:c
 ·exact B5 h (h1 h)
 ·exact B6 h (h2 h)
def Fm (h:Addr)(H H':Hp):Prop:=∀b o,H b=some o->b≠h->H' b=some o
theorem Fm.upd {h:Addr}{H:Hp}{o:HO}:Fm h H (upd H h o):=λb u e n=>by rw[aj n];exact e
theorem ay.new {H:Hp}{p:Addr}{o:HO}(n:H p=none):ay H (L2.upd H p o):=λb u e=>by rw[aj (bE e n)];exact e
def Hand (H:Hp)(h:Addr):Prop:=∃x y:Int,H h=some (.lst [.int x,.int y])/\0<=x/\0<=y/\y<2147483647
def rE:Sp:=λvs H Q _=>∃c:Int,vs=[.int c]/\∀p H',H p=none->Hand H' p->ay H H'->Q (.ref p) H'
def rC:Sp:=λvs H Q _=>∃(h:Addr) (n:Int),vs=[.ref h,.int n]/\Hand H h/\0<n/\n<2 ^ 200 /\
 ∀(r:Int) (H':Hp),0<=r->r<n->Hand H' h->Fm h H H'->Q (.int r) H'
structure Kn (mg:Str->Option KR):Prop where
 max:mg "max" = none
 min:mg "min" = none
 int:mg "int" = none
section
end
theorem sd:oz 10 18:=⟨by decide,by decide,by decide⟩
section
theorem g7 {a:Int}{b:Int}(h:0<b):0<=a % b/\a % b<b:=⟨Int.emod_nonneg a (by lia),Int.emod_lt_of_pos a h⟩
end
def aC (X:Cx)(scope:MU)(N':List Str)(cl:List (Str×Addr))(C:Addr)(s:KU)(H:Hp)(ex:List Addr):Cx :=
 {X with N:=N',s₀:=s,H₀:=H,env:=compEnvC scope cl C X.env,outer:=X.stack,stack:=X.stack,ex:=ex,fn:=λ_=>false,pn:=[],xe:=λ_ _=>False}
theorem fe {env:Env}:∀(names:List (Str×Nf)) (cs:List (Str×Addr)),(∀x,(x,Lx)∈names->∃c,env.cells.lookup x=some c) ->
  (∀x c,cs.lookup x=some c->env.cells.lookup x=some c) ->
  ∃cl,(forIn names cs λ(p:Str×Nf) (cs:List (Str×Addr))=>do
   if p.2==.free then do
    let a <- cellOf env p.1
    pure (N6 ((p.1,a)::cs))
   else pure (N6 cs):Sem (List (Str×Addr)))=pure cl /\
   (∀x,((x,Lx)∈names\/(∃c,cs.lookup x=some c))->∃c,cl.lookup x=some c)/\∀x c,cl.lookup x=some c->env.cells.lookup x=some c
 |[],cs,_,DS=>⟨cs,rfl,λx h=>h.elim (λz=>nomatch z) id,DS⟩
 | (n,k)::names,cs,hf,DS=>by
  by_cases hk:k=.free
  ·subst hk;obtain⟨c,hc⟩:=hf n (Lg ..);obtain⟨cl,e,h1,h2⟩:=fe names ((n,c)::cs) (λx hx=>hf x (Lc _ hx)) (λx c' hx=>by
    rw[LX]at hx;cases q:x==n with
    |true=>rw[q]at hx;cases hx;rw[eq_of_beq q];exact hc
    |false=>rw[q]at hx;exact DS x c' hx)
   refine⟨cl,?_,λx hx=>h1 x ?_,h2⟩
   ·rw[List.forIn_cons];have ec:cellOf env n=pure c:=by unfold cellOf;rw[hc]
    simp only[beq_self_eq_true,if_true,ec];exact e
   ·rcases hx with hx|⟨c',hx⟩
    ·rcases K6.mp hx with z|z
     ·cases z;exact .inr ⟨c,by simp⟩
     ·exact .inl z
    ·right
     rw[LX];cases q:x==n with
     |true=>exact⟨c,rfl⟩
     |false=>exact⟨c',hx⟩
  ·obtain⟨cl,e,h1,h2⟩:=fe names cs (λx hx=>hf x (Lc _ hx)) DS;refine⟨cl,?_,λx hx=>h1 x ?_,h2⟩
   ·rw[List.forIn_cons];have hb:(k==Lx)=false:=by simpa using hk
    simp only[hb,Nu,if_false];exact e
   ·rcases hx with hx|hx
    ·rcases K6.mp hx with z|z
     ·cases z;exact absurd rfl hk
     ·exact .inl z
    ·exact .inr hx
theorem eT {env:Env}{scope:MU}(h:∀x,(x,Lx)∈scope.names->∃c,env.cells.lookup x=some c):
  ∃cl,closureFor scope env=pure cl/\(∀x,(x,Lx)∈scope.names->∃c,cl.lookup x=some c)/\∀x c,cl.lookup x=some c->env.cells.lookup x=some c:=by
 obtain⟨cl,e,h1,h2⟩:=fe scope.names [] h (λx c z=>by simp at z)
 refine⟨cl,?_,λx hx=>h1 x (.inl hx),h2⟩;unfold closureFor;refine Eq.trans ?_ (congrArg (· >>= pure) e);rfl
structure Links (X:Cx)(scope:MU)(N':List Str)(lk:List (Option Nat)):Prop where
 kind:scope.kind=.function
 kj:∀x∈scope.names,x.2≠.cell
 names:∀x∈scope.names,x.2=.local->scope.names.lookup x.1=some .local
 free:∀x,(x,Lx)∈scope.names->X.env.kindOf x=some .cell\/X.env.kindOf x=some .free
 len:lk.length=N'.length
 link:∀(i j:Nat),lk[i]?=some (some j)->∃x,N'[i]?=some x/\X.N[j]?=some x/\(x,Lx)∈scope.names/\scope.names.lookup x=some .free
def kn (outer:List (Str×Nf))(N:List Str)(scope:MU)(N':List Str)(lk:List (Option Nat)):Bool :=
 (scope.kind==.function)&&scope.names.all (λx=>x.2 != .cell&&(x.2 != .local || scope.names.lookup x.1==some .local)&&(x.2 != .free || outer.lookup x.1==some .cell || outer.lookup x.1==some .free)) &&
 lk.length==N'.length&&(LU lk.length).all λi=>match lk[i]? with
  |some (some j)=>match N'[i]? with
   |some x=>N[j]?==some x&&scope.names.contains (x,.free)&&scope.names.lookup x==some .free
   |none=>false
  |_=>true
theorem Links.of {X:Cx}{scope:MU}{N':List Str}{lk:List (Option Nat)}(h:kn X.env.scope.names X.N scope N' lk=true):Links X scope N' lk:=by
 simp only[kn,LP]at h;obtain⟨⟨⟨h1,h2⟩,h3⟩,h4⟩:=h;rw[M9]at h2 h4;refine⟨by simpa using h1,λx hx=>?_,λx hx hl=>?_,λx hx=>?_,by simpa using h3,λi j aB=>?_⟩
 ·have:=h2 x hx;simp only[LP]at this;simpa using this.1.1
 ·have:=h2 x hx;simp only[LP]at this;have q:=this.1.2;rw[hl]at q;simpa using q
 ·have:=h2 _ hx;simp only[LP]at this;have q:=this.2;simp only[Bool.or_eq_true]at q;rcases q with (q|q)|q
  ·simp at q
  ·exact .inl (show X.env.scope.names.lookup x=some .cell by simpa using q)
  ·exact .inr (show X.env.scope.names.lookup x=some .free by simpa using q)
 ·have hi:i<lk.length:=(Lr.mp aB).1;have q:=h4 i (Md.mpr hi);rw[aB]at q;simp only at q;cases e:N'[i]? with
  |none=>rw[e]at q;simp at q
  |some x =>
   rw[e]at q;simp only[LP]at q;obtain⟨⟨q1,q2⟩,q3⟩:=q;exact⟨x,rfl,by simpa using q1,by simpa using q2,by simpa using q3⟩
def c6 (lk:List (Option Nat))(σ:St):St:=lk.map λl=>match l with|some j=>(match σ[j]? with|some v=>v|none=>none)|none=>none
theorem b8 {env:Env}:∀{names:List (Str×Nf)} {x:Str},names.lookup x=some .free ->
  (names.map λ(n,k)=>if (k==Lx&&env.scope.kind==.function&&env.kindOf n==some .cell) then (n,MO) else (n,k)).lookup x=some .cell \/
  (names.map λ(n,k)=>if (k==Lx&&env.scope.kind==.function&&env.kindOf n==some .cell) then (n,MO) else (n,k)).lookup x=some .free
 |[],_,h=>by simp at h
 | (n,k)::r,x,h=>by
  have ih:=@b8 env r x;show List.lookup x ((if (k==Lx&&env.scope.kind==.function&&env.kindOf n==some .cell)=true then (n,MO) else (n,k))::_)=_ \/
   List.lookup x ((if (k==Lx&&env.scope.kind==.function&&env.kindOf n==some .cell)=true then (n,MO) else (n,k))::_)=_
  cases hx:x==n with
  |true =>
   simp only[LX,hx]at h;cases h
   by_cases hc:(Lx==Lx&&env.scope.kind==.function&&env.kindOf n==some .cell)=true
   ·rw[if_pos hc];left;simp[LX,hx]
   ·rw[if_neg hc];right;simp[LX,hx]
  |false =>
   simp only[LX,hx]at h
   by_cases hc:(k==Lx&&env.scope.kind==.function&&env.kindOf n==some .cell)=true
   ·rw[if_pos hc];simp only[LX,hx];exact ih h
   ·rw[if_neg hc];simp only[LX,hx];exact ih h
theorem b6 {env:Env}:∀{names:List (Str×Nf)} {x:Str} {k:Nf},(k=.cell\/k=.free)->(∀y∈names,y.2≠.cell) ->
  (names.map λ(n,k)=>if (k==Lx&&env.scope.kind==.function&&env.kindOf n==some .cell) then (n,MO) else (n,k)).lookup x=some k->(x,Lx)∈names
 |[],_,_,_,_,h=>by simp at h
 | (n,k')::r,x,k,hk,hc,h=>by
  have ih:=@b6 env r x k hk (λy hy=>hc y (Lc _ hy));have h':List.lookup x ((if (k'==Lx&&env.scope.kind==.function&&env.kindOf n==some .cell)=true then (n,MO) else (n,k'))::(r.map λ(n,k)=>if (k==Lx&&env.scope.kind==.function&&env.kindOf n==some .cell) then (n,MO) else (n,k)))=some k:=h
  have DP:=hc (n,k') (Lg ..)
  by_cases vT:(k'==Lx&&env.scope.kind==.function&&env.kindOf n==some .cell)=true
  ·rw[if_pos vT]at h';simp only[LP,beq_iff_eq]at vT;cases hx:x==n with
   |true=>rw[eq_of_beq hx,vT.1.1];exact Lg ..
   |false=>rw[LX,hx]at h';exact Lc _ (ih h')
  ·rw[if_neg vT]at h';cases hx:x==n with
   |true =>
    rw[LX,hx]at h';have e:k'=k:=by simpa using h'
    subst e;rcases hk with hk|hk
    ·exact absurd hk DP
    ·rw[eq_of_beq hx,hk];exact Lg ..
   |false=>rw[LX,hx]at h';exact Lc _ (ih h')
section
variable {X:Cx}{pins:List (Addr×Obj)}{σ:St}{H:Hp}{s:KU}{scope:MU}{N':List Str}{lk:List (Option Nat)}{cl:List (Str×Addr)}{ex:List Addr}
theorem lZ {h':Heap}{t':Nat}(I:Inv X pins σ H s)(L:Links X scope N' lk)(hex:∀b∈ex,dN X pins H b)(CD:∀b∈ex,∃o,s.heap.get? b=some o)
  (kL:∀x,(x,Lx)∈scope.names->∃c,cl.lookup x=some c) (l6:∀x c,cl.lookup x=some c->X.env.cells.lookup x=some c)
  (hn:h'.Ns s.heap.objs.size (λ_=>none)) (hk:∀b o,s.heap.get? b=some o->h'.get? b=some o) :
  Inv (aC X scope N' cl s.heap.objs.size s H ex) [] (c6 lk σ) H {s with heap:=h',toks:=t'}:=by
 obtain⟨m,hm,hl⟩:=I.loc;have J7:∀b∈ex,b≠s.heap.objs.size:=λb hb=>by
  obtain⟨o,e⟩:=CD b hb;exact Lu (K8 e)
 refine⟨⟨I.ok.mod,L.kind,I.ok.glob,I.ok.blt,KZ _,λx y c h1 h2=>I.ok.inj x y c (l6 _ _ h1) (l6 _ _ h2),λx hx=>?_,λx c z=>(nomatch z),I.ok.hd,I.ok.frames,.inl rfl,
  λb hb=>⟨J7 b hb,λx c e=>(hex b hb).2.2.2.2.1 x c (l6 _ _ e)⟩,I.bs,L4 I.ok.ue I.sz,λb o e z=>?_,λb hb z=>?_,I.stack,I.j4⟩,
  rfl,I.bare,Un.kept hk,⟨_,hn,λi x v h1 h2 h3=>?_⟩,λx c e=>?_,I.a_.fresh (KZ _),λx c e=>I.b9 x c (l6 _ _ e),λp hp=>absurd (show p∈([]:List (Addr×Obj)) from hp) (by simp),I.a_.kept hk,?_⟩
 ·have Az:(relabel scope X.env).names.lookup x=some .cell\/(relabel scope X.env).names.lookup x=some .free:=hx;rcases Az with q|q
  ·exact kL x (b6 (.inl rfl) L.kj q)
  ·exact kL x (b6 (.inr rfl) L.kj q)
 ·obtain⟨f0,f1,f2,f3,_⟩:=hex b z;rcases f3 with q|q
  ·exact I.ok.lI b o e q
  ·have h1:=K8 e;have h2:=I.ok.ue;exact absurd (Ll h1 (L4 h2 q)) (Mz _)
 ·obtain⟨f0,f1,f2,f3,_⟩:=hex b hb;rcases K6.mp (I.m_ b z)with q|q
  ·exact f1 q
  ·exact f2 q
 ·have hi:∃j,lk[i]?=some (some j)/\σ[j]?=some (some v):=by
   have tL:(c6 lk σ)[i]?=some (some v):=h2;unfold c6 at tL;rw[Lj]at tL;cases e:lk[i]? with
   |none=>rw[e]at tL;cases tL
   |some l =>
    cases l with
    |none=>rw[e]at tL;cases tL
    |some j =>
     rw[e]at tL;cases e2:σ[j]? with
     |none=>simp[e2]at tL
     |some w' =>
      simp only[N3,e2,OA]at tL;subst tL;exact⟨j,rfl,e2⟩
  obtain⟨j,hj,hσ⟩:=hi;obtain⟨y,e1,e2,e3,e4⟩:=L.link i j hj;have J6:x=y:=by
   have vW:N'[i]?=some x:=h1;rw[e1]at vW;exact(Lq vW).symm
  subst J6;have Fz:uG X.env.scope x:=by
   rcases L.free x e3 with q|q
   ·exact .inr (.inl q)
   ·exact .inr (.inr q)
  obtain⟨u,ru,lu⟩:=hl j x v e2 hσ Fz;refine⟨u,ru,.inr ⟨?_,?_⟩⟩
  ·exact b8 e4
  ·rcases lu with⟨k,_⟩|⟨_,c,hc,z⟩
   ·rcases L.free x e3 with q|q <;> (rw[k]at q;cases q)
   ·obtain⟨c',uE⟩:=kL x e3;have:=l6 x c' uE;rw[hc]at this;cases this;obtain⟨o,ho,hd⟩:=z;exact⟨c,uE,o,hk _ _ ho,hd⟩
 ·obtain⟨v,o,ho,hd⟩:=I.cell x c (l6 _ _ e);exact⟨v,o,hk _ _ ho,hd⟩
 ·show (c6 lk σ).length=N'.length;unfold c6;rw[KY,L.len]
theorem l0 {s':KU}{σ':St}{H':Hp}{pl:List (Addr×Obj)}{C:Addr}{h'':Heap}(I:Inv X pins σ H s)(hex:∀b∈ex,dN X pins H b)
  (J:Inv (aC X scope N' cl s.heap.objs.size s H ex) pl σ' H' s') (hs:Mw s.heap.objs.size s'.heap h''):Inv X pins σ H' {s' with heap:=h''}:=by
 have hC:H' s.heap.objs.size=none:=J.free;have u:=J.base;refine I.xD (ch:=ex) (s':={s' with heap:=h''}) J.os ?_ ?_ J.bare (λb hb=>?_)
 ·have kk:∀b o,b≠s.heap.objs.size->s'.heap.get? b=some o->h''.get? b=some o:=λb o hb e=>(hs.2 b hb).trans e;have ne:∀b o,s.heap.get? b=some o->b≠s.heap.objs.size:=λb o e=>Lu (K8 e);refine⟨λb o e n hb hx=>kk b _ (ne b o e) (u.keep b o e n hb hx),λb o e n hb hx=>?_,u.free,λb o e hx=>?_,u.eX,u.eO,u.eY⟩
  ·obtain⟨sl,q⟩:=u.slot b o e n hb hx;exact⟨sl,kk b _ (ne b o e) q⟩
  ·obtain⟨o',q⟩:=u.there b o e hx;exact⟨o',kk b _ (ne b o e) q⟩
 ·intro b o e;have hb:b≠s.heap.objs.size:=λz=>by rw[z]at e;rw[hC]at e;cases e
  refine(J.a_ b o e).j5 (λc v hc q=>(hs.2 c ?_).trans q) (λ_ q=>q) λ_ _ q=>q;rcases hc with z|z
  ·rw[z];exact hb
  ·intro z';rw[z']at z;rw[hC]at z;cases z
 ·obtain⟨f0,f1,f2,f3,f4,f5⟩:=hex b hb;exact⟨f3,f1,f4,f5⟩
end
def hX (g:NK)(after:Sem Fin->Sem Fin)(e:Expr)(d:Nat)(it acc:KR)(env:Env):Sem Fin:=do
 OQ g.iter.pos
 match <- Oo it with
 |none=>pure (.done .next)
 |some v =>
  N2 g.target it v
  assign g.target env v
  let mut ok:=true
  for c in g.ifs do
   if ok then ok <- isTrue c env (eval c env)
  if ok then after (again (.compLoop e d it acc env)) else again (.compLoop e d it acc env)
def jk (t:Sem Unit)(k:Sem Fin):Sem Fin:=do
 t
 k
def tV (elt:Expr)(acc:KR)(env:Env):Sem Unit:=do let _ <- call (.builtin "list.append") [acc,<- eval elt env]
def tU (elt:Expr)(acc:KR)(env:Env):Sem Unit:=do let v <- eval elt env;OQ elt.pos;let _ <- call (.builtin "set.add") [acc,v]
structure gQ (e:Expr)(d:Nat)(g:NK)(acc:KR)(env:Env)(after:Sem Fin->Sem Fin):Prop where
 turn:∀it,compTurn e d it acc env=hX g after e d it acc env
 cl:(clausesOf e)[d]?=some g
 sync:g.is_async=0
 quiet:∀it,(NM e d it acc env).quiet=true
 under:∀(A:LI) it,A.under (NM e d it acc env)=A
 xX:∀(A:LI) it,A.under (OX e d it acc env)=A
 yS:∀it,(NM e d it acc env).isFrame=false
 BG:∀it,(OX e d it acc env).isFrame=false
section
variable {elt tg fL:Expr}{ifs:List Expr}{sc:MU}{pos:Pos}{acc:KR}{env:Env}
theorem C9:gQ (.ListComp elt [⟨tg,fL,ifs,0⟩] sc pos) 0 ⟨tg,fL,ifs,0⟩ acc env (jk (tV elt acc env)) :=
 ⟨λ_=>rfl,rfl,rfl,λ_=>rfl,λ_ _=>rfl,λ_ _=>rfl,λ_=>rfl,λ_=>rfl⟩
theorem C8:gQ (.SetComp elt [⟨tg,fL,ifs,0⟩] sc pos) 0 ⟨tg,fL,ifs,0⟩ acc env (jk (tU elt acc env)) :=
 ⟨λ_=>rfl,rfl,rfl,λ_=>rfl,λ_ _=>rfl,λ_ _=>rfl,λ_=>rfl,λ_=>rfl⟩
end
def AX:TT:=λ_ H Q=>Q true H
def mX (X:Cx)(ifs:List Expr)(t:TT):Prop :=
 ∀(pins:List (Addr×Obj)) (s:KU) (σ:St) (H:Hp) (Q:Bool->Hp->Prop),Inv X pins σ H s->t σ H Q ->
  Ln (model X.prog X.w) X.A (forIn ifs true λc r=>if r=true then do let ok <- isTrue c X.env (eval c X.env);pure (N6 ok) else pure (N6 r)) (TP X pins σ Q) X.xe s
theorem u9 {X:Cx}:mX X [] AX:=λ_ _ _ H _ I h=>wpAny_tests_nil ⟨H,I,h⟩
theorem u7 {X:Cx}{c:Expr}{t:TT}(h:PT X c t):mX X [c] t:=λpins s σ H Q I q=>wpAny_tests_one (h pins s σ H Q I q)
abbrev om:=(St->Hp->Prop)->St->Hp->Prop
def mO (X:Cx)(after:Sem Fin->Sem Fin)(t:om):Prop :=
 ∀(pins:List (Addr×Obj)) (s:KU) (σ:St) (H:Hp) (N:St->Hp->Prop) (k:Sem Fin) (Q:Fin->KU->Prop) (E:KR->KU->Prop),Inv X pins σ H s->t N σ H ->
  (∀σ' H' s',Inv X pins σ' H' s'->N σ' H'->Ln (model X.prog X.w) X.A k Q E s')->Ln (model X.prog X.w) X.A (after k) Q E s
theorem fF {X:Cx}(hx:X.xe=λ_ _=>False){α:Type}{t:Sem α}{Q:α->KU->Prop}{E:KR->KU->Prop}{s:KU}(h:Ln (model X.prog X.w) X.A t Q X.xe s):Ln (model X.prog X.w) X.A t Q E s :=
 MQ h (λ_ _ q=>q) λe s q=>by rw[hx]at q;exact q.elim
def gC (J:It)(g:TG)(tt:TT)(ta:om)(End:St->Hp->Prop):St->Hp->Prop:=λσ H =>
 ∃W:Nat->Nat->St->Hp->Prop,(∃m,W 0 m σ H)/\∀i m σ H,W i m σ H->(J.stop i H/\End σ H) \/
  (J.go i H/\∃N:St->Hp->Prop,(∀σ' H',N σ' H'->∃m',m'<m/\W (i+1) m' σ' H')/\∀x H',J.Dq i H x H'->g x σ H' λσ2 H2=>tt σ2 H2 λb H3=>if b=true then ta N σ2 H3 else N σ2 H3)
section
variable {X:Cx}{e:Expr}{d:Nat}{g:NK}{acc:KR}{after:Sem Fin->Sem Fin}{tg:TG}{tt:TT}{ta:om}
theorem qE (hx:X.xe=λ_ _=>False)(hc:X.calm=true)(F:gQ e d g acc X.env after)(hg:PG X g.target tg)(ht:mX X g.ifs tt)(ha:mO X after ta)
  {it:Addr} {fp:List Addr} {tn:Nat->Heap->Prop} {J:It} (T:Turn X.prog X.w X.K g.target J fp it tn) {pins:List (Addr×Obj)} {σ:St} {H:Hp} {s:KU} {End:St->Hp->Prop}
  (I:Inv X pins σ H s) (st:tn 0 s.heap) (hf:∀b∈fp,dN X pins H b) (h:gC J tg tt ta End σ H) :
  Na (model X.prog X.w) X.A (.compLoop e d (.ref it) acc X.env) (λr s'=>r=.ok .next/\∃σ' H',Inv X pins σ' H' s'/\End σ' H') s:=by
 obtain⟨W,⟨m0,w0⟩,turn⟩:=h;have ng:∀{H':Hp},(∀b∈fp,H' b=none)->∀b∈fp,dN X pins H' b:=λhn b hb=>⟨hn b hb,(hf b hb).2⟩;refine codeAny_loop (F.quiet _) (λn s'=>∃i σ' H',Inv X pins σ' H' s'/\tn i s'.heap/\(∀b∈fp,H' b=none)/\W i n σ' H') (λn s3 hI=>?_) m0 ⟨0,σ,H,I,st,λb hb=>(hf b hb).1,w0⟩;obtain⟨i,σ3,H3,I3,ia,C0,w3⟩:=hI;rw[F.under];have zS:(model X.prog X.w).den (.compLoop e d (.ref it) acc X.env)=(hX g after e d (.ref it) acc X.env).onRaise (λx=>do noteFrame x X.env;theTreesLotGoes x):=by
  rw[<- F.turn];show (if (NM e d (.ref it) acc X.env).isFrame then _ else _)=_
  rw[F.yS];rfl
 rw[zS];refine wpAny_noted ?_;unfold hX;rcases turn i n σ3 H3 w3 with⟨stop,qn⟩|⟨go,N,hN,step⟩
 ·refine KS (M_ (KS (bj (T.done X rfl rfl rfl hc i pins s3 σ3 H3 _ I3 (ng C0) ia stop) λr s4 ⟨hr,I4⟩=>?_)));subst hr;exact K0 ⟨rfl,σ3,H3,I4,qn⟩
 ·refine KS (M_ (KS (bj (T.item X rfl rfl rfl hc i pins s3 σ3 H3 _ I3 (ng C0) ia go) λr s4 ⟨u,hr,h4⟩=>?_)));subst hr;refine KS (bj h4 λ_ s5 ⟨x,H5,I5,r5,y5,yb,GG⟩=>?_);have G_:=I5.pinned (ng GG) (T.obj _ _ yb);refine KS (bj (fF hx (hg _ s5 σ3 H5 x u _ G_ r5 (step x H5 y5))) λ_ s6 ⟨σ6,H6,I6,q6⟩=>?_);refine KS (bj (fF hx (ht _ s6 σ6 H6 _ I6 q6)) λok s7 ⟨H7,I7,q7⟩=>?_);have um:∀{σ8:St} {H8:Hp} {s8:KU},Inv X (pins++iy fp s5.heap) σ8 H8 s8->N σ8 H8->∃m,m<n/\∃i σ' H',Inv X pins σ' H' s8/\tn i s8.heap/\(∀b∈fp,H' b=none)/\W i m σ' H':=λ{σ8 H8 s8} I8 n8=>by
   obtain⟨m',hm,w8⟩:=hN σ8 H8 n8;refine⟨m',hm,i+1,σ8,H8,I8.fq,T.keep _ _ _ yb λb hb o e=>(I8.pin (b,o) (Ly _ (Ly _ (dB hb e)))).1,λb hb=>?_,w8⟩;obtain⟨o,e,d⟩:=T.obj _ _ yb b hb;exact(I8.pin (b,o) (Ly _ (Ly _ (dB hb e)))).2.1
  cases ok with
  |false=>exact K0 ⟨rfl,um I7 (by simpa using q7)⟩
  |true =>
   exact ha _ s7 σ6 H7 N _ _ _ I7 (by simpa using q7) λσ8 H8 s8 I8 n8=>K0 ⟨rfl,um I8 n8⟩
theorem iY (hx:X.xe=λ_ _=>False)(hc:X.calm=true)(F:gQ e d g acc X.env after)(hg:PG X g.target tg)(ht:mX X g.ifs tt)(ha:mO X after ta)
  {it:Addr} {fp:List Addr} {tn:Nat->Heap->Prop} {J:It} (T:Turn X.prog X.w X.K g.target J fp it tn) {pins:List (Addr×Obj)} {σ:St} {H:Hp} {s:KU} {End:St->Hp->Prop}
  (I:Inv X pins σ H s) (st:tn 0 s.heap) (hf:∀b∈fp,dN X pins H b) (h:gC J tg tt ta End σ H) :
  Na (model X.prog X.w) X.A (.compStart e d (.ref it) acc X.env) (λr s'=>r=.ok .next/\∃σ' H',Inv X pins σ' H' s'/\End σ' H') s:=by
 have lp:=qE hx hc F hg ht ha T I st hf h;refine OL ?_;rw[F.xX];have zS:(model X.prog X.w).den (.compStart e d (.ref it) acc X.env)=(compStart e d (.ref it) acc X.env).onRaise (λx=>do noteFrame x X.env;OQ theWindowsPlace):=by
  show (if (OX e d (.ref it) acc X.env).isFrame then _ else _)=_
  rw[F.BG];rfl
 rw[zS];refine wpAny_notedAt ?_;unfold compStart;rw[F.cl];simp only[Option.elim_some,F.sync];show Ln _ _ (ask >>= _) _ _ s;refine KS (NP (wpAny_ite ?_))
 split
 ·first
   |exact KS (K0 (K0 (And.intro (F.quiet _) lp)))
   |exact K0 (And.intro (F.quiet _) lp)
 ·have h2:∀(E:KR->KU->Prop),Ln (model X.prog X.w) X.A (OS (.ref it)) (λDG s'=>(NM e d DG acc X.env).quiet=true/\Na (model X.prog X.w) X.A (.compLoop e d DG acc X.env) (λr s'=>r=.ok .next/\∃σ' H',Inv X pins σ' H' s'/\End σ' H') s') E s :=
   λE=>T.self X.A 0 s _ E st ⟨F.quiet _,lp⟩
  first
   |exact KS (M4 (KS (M_ (KS (MQ (h2 _) (λDG s' h'=>K0 h') λ_ _ x=>x)))))
   | (refine KS (M4 ?_);exact KS (M_ (KS (MQ (h2 _) (λDG s' h'=>K0 h') λ_ _ x=>x))))
theorem sE {elt:Expr}{te:TE}{a:Addr}(hx:X.xe=λ_ _=>False)(he:PE X elt te):
  mO X (jk (tV elt (.ref a) X.env)) (λN σ H=>te σ H λv H1=>∃xs,H1 a=some (.lst xs)/\xs.length<Lk/\N σ (upd H1 a (.lst (xs++[v])))):=by
 intro pins s σ H N k Q E I h hk;unfold jk tV;refine KS (KS (bj (fF hx (he pins s σ H _ I h)) λu s1 ⟨v,H1,I1,r1,xs,hH,hz,q⟩=>?_));refine KS (bj (fF hx <| jw (X:=X) pins s1 σ H1 (.ref a) [v] (.ref a) [u] (λw' H'=>N σ H') I1 rfl (.cons r1 .nil) ⟨a,xs,v,rfl,rfl,hH,hz,q⟩) λ_ s2 ⟨_,H2,I2,_,q2⟩=>?_)
 exact K0 (hk σ H2 s2 I2 q2)
end
section
variable {X:Cx}{e:Expr}
structure ou (X:Cx)(bM:Sem KR)(o:HO):Prop where
 ok:∀(pins:List (Addr×Obj)) (s:KU) (σ:St) (H:Hp) (Q:KR->KU->Prop) (E:KR->KU->Prop),Inv X pins σ H s ->
  (∀a s',s.heap.objs.size<=a->H a=none->(∀b o,s.heap.get? b=some o->s'.heap.get? b=some o)->Inv X pins σ (upd H a o) s'->Q (.ref a) s')->Ln (model X.prog X.w) X.A bM Q E s
theorem sQ:ou X (newList []) (.lst []) :=
 ⟨λpins s σ H Q E I h=>MS (h _ _ (KZ _) I.fresh (λb o e=>K4 _ e) (I.B0 (its:=[]) (t':=s.toks) .nil (Lp _)))⟩
theorem Inv.sameBut {pins:List (Addr×Obj)}{σ:St}{H:Hp}{s:KU}{C:Addr}{h':Heap}(I:Inv X pins σ H s)(f:dN X pins H C)(hs:Mw C s.heap h'):Inv X pins σ H {s with heap:=h'}:=by
 obtain⟨f0,f1,f2,f3,f4,f5⟩:=f;exact I.turned (t':=s.toks) (λb o hb e=>(hs.2 b hb).trans e) f0 f1 f3 f4 f5
end
end L2
namespace ST
open PySem PySem.SetTable
def it:Nat->Nat->Nat
 |0,x=>x
 |n+1,x=>5*it n x+1
theorem nN (a:Nat):∀(b x:Nat),it (a+b) x=it b (it a x)
 |0,x=>rfl
 |b+1,x=>by
  show 5*it (a+b) x+1=5*it b (it a x)+1;rw[nN a b x]
theorem s_:∀j:Nat,∃a b:Nat,∀x,it (2 ^ j) x=(1+4*2 ^ j*a)*x+2 ^ j*(1+2*b)
 |0=>⟨1,0,λx=>by show 5*x+1=_;simp⟩
 |j+1=>by
  obtain⟨a,b,h⟩:=s_ j;refine⟨a+2*2 ^ j*a*a,b+2 ^ j*a*(1+2*b),λx=>?_⟩;rw[show 2 ^ (j+1)=2 ^ j+2 ^ j by rw[NX];lia,nN,h,h]
  generalize 2 ^ j=P
  grind
theorem lift:∀(j x t:Nat),∃k,k<2 ^ j/\it k x % 2 ^ j=t % 2 ^ j
 |0,x,t=>⟨0,by decide,by rw[Nat.pow_zero,Nat.mod_one,Nat.mod_one]⟩
 |j+1,x,t=>by
  obtain⟨k,hk,e⟩:=lift j x t;obtain⟨a,b,h⟩:=s_ j;have hP:0<2 ^ j:=Ob (by decide)
  rw[NX]
  by_cases q:it k x % (2 ^ j*2)=t % (2 ^ j*2)
  ·exact⟨k,by lia,q⟩
  ·refine⟨k+2 ^ j,by lia,?_⟩
   rw[nN,h];generalize it k x=y at *
   generalize 2 ^ j=P at *
   have e1:((1+4*P*a)*y+P*(1+2*b))=(y+P)+(P*2)*(2*a*y+b):=by grind
   rw[e1,Nat.add_mul_mod_self_left,OI,OI];rw[OI,OI,e]at q;rw[Nat.add_mod_right,Nat.add_div_right _ hP,e];have u1:y / P % 2<2:=Nq _ (by decide)
   have u2:t / P % 2<2:=Nq _ (by decide)
   have u3:y / P % 2≠t / P % 2:=λz=>q (by rw[z])
   have u4:(y / P).succ % 2=t / P % 2:=by lia
   rw[u4]
def bZ (m:Nat)(p:Probe):Probe:=advance {mask:=m,place:=#[],dummies:=#[],finger:=0,led:=true,moves:=0,plain:=true} p
def EH (m:Nat)(h:Int):Probe:=probeStart {mask:=m,place:=#[],dummies:=#[],finger:=0,led:=true,moves:=0,plain:=true} h
theorem ya (t:SetTable)(h:Int):probeStart t h=EH t.mask h:=rfl
def dO (m:Nat)(h:Int):Nat->Probe
 |0=>EH m h
 |n+1=>bZ m (dO m h n)
def bF (m:Nat)(h:Int)(n:Nat):Nat:=(dO m h n).j
def lp (m:Nat)(h:Int):Nat->Nat×Nat
 |0=>(bits h % (m+1),bits h)
 |k+1=>leap m (lp m h k).1 (lp m h k).2
def AI (m:Nat)(x:Nat×Nat):Probe:={j:=x.1,more:=runEnd m x.1-x.1,i:=x.1,perturb:=x.2,dummy:=none}
theorem ym (m i:Nat):runEnd m i-i<=9:=by
 unfold runEnd
 split <;> lia
theorem nP (m:Nat)(h:Int)(x:Nat×Nat)(n:Nat)(e:dO m h n=AI m x):∀d,d<=runEnd m x.1-x.1->dO m h (n+d)={AI m x with j:=x.1+d,more:=runEnd m x.1-x.1-d}
 |0,_=>by rw[Nat.add_zero,e];rfl
 |d+1,hd=>by
  show bZ m (dO m h (n+d))=_;rw[nP m h x n e d (by lia)]
  unfold bZ advance;rw[if_pos (by show runEnd m x.1-x.1-d>0;lia)]
  rfl
theorem mI (m:Nat)(h:Int)(x:Nat×Nat)(n:Nat)(e:dO m h n=AI m x):dO m h (n+(runEnd m x.1-x.1)+1)=AI m (leap m x.1 x.2):=by
 show bZ m (dO m h (n+(runEnd m x.1-x.1)))=_;rw[nP m h x n e _ (KZ _)];unfold bZ advance;rw[if_neg (by show ¬ runEnd m x.1-x.1-(runEnd m x.1-x.1)>0;lia)]
 rfl
theorem uf (m:Nat)(h:Int):∀k,∃n,n<=10*k/\dO m h n=AI m (lp m h k)
 |0=>⟨0,KZ _,rfl⟩
 |k+1=>by
  obtain⟨n,h1,h2⟩:=uf m h k;refine⟨n+(runEnd m (lp m h k).1-(lp m h k).1)+1,?_,mI m h _ n h2⟩;have:=ym m (lp m h k).1;lia
theorem sV (m:Nat)(h:Int):∀k,(lp m h k).2=bits h / 32 ^ k
 |0=>by rw[Nat.pow_zero,Nat.div_one];rfl
 |k+1=>by
  show (lp m h k).2 / 32=_;rw[sV m h k,Nat.div_div_eq_div_mul,NX]
theorem wz (h:Int):bits h<2 ^ 64:=by
 unfold bits;have h1:=Int.emod_lt_of_pos h (show (0:Int)<2 ^ 64 by decide)
 have h2:=Int.emod_nonneg h (show (2 ^ 64:Int)≠0 by decide)
 lia
theorem vH (m:Nat)(h:Int){k:Nat}(hk:13<=k):(lp m h k).2=0:=by
 rw[sV];refine Nat.div_eq_of_lt (Ll (wz h) ?_);have:32 ^ 13<=32 ^ k:=Nd (by decide) hk
 exact L4 (by decide) this
theorem wZ {j:Nat}(h:Int):∀d,(lp (2 ^ j-1) h (13+d)).1=it d (lp (2 ^ j-1) h 13).1 % 2 ^ j:=by
 have hP:2 ^ j-1+1=2 ^ j:=by have:0<2 ^ j:=Ob (by decide);lia
 have lt:∀k,(lp (2 ^ j-1) h k).1<2 ^ j:=λk=>by
  cases k with
  |zero=>show bits h % (2 ^ j-1+1)<_;rw[hP];exact Nq _ (by lia)
  |succ k=>show (_*5+1+_ / 32) % (2 ^ j-1+1)<_;rw[hP];exact Nq _ (by lia)
 intro d
 induction d with
 |zero=>exact(OG (lt 13)).symm
 |succ d ih =>
  show ((lp (2 ^ j-1) h (13+d)).1*5+1+(lp (2 ^ j-1) h (13+d)).2 / 32) % (2 ^ j-1+1)=(5*it d _+1) % 2 ^ j;rw[hP,vH _ h (by lia),ih,Nat.zero_div,Nat.add_zero,Nat.mul_comm]
  conv=>rhs;rw[Nat.add_mod,Nat.mul_mod]
  rw[Nat.add_mod,Nat.mul_mod,Nat.mod_mod]
theorem Ke (j:Nat)(h:Int){t:Nat}(ht:t<2 ^ j):∃n,n<10*turns (2 ^ j-1)/\bF (2 ^ j-1) h n=t:=by
 obtain⟨k,hk,e⟩:=lift j (lp (2 ^ j-1) h 13).1 t;obtain⟨n,h1,h2⟩:=uf (2 ^ j-1) h (13+k);refine⟨n,by unfold turns;lia,?_⟩
 unfold bF;rw[h2];show (lp (2 ^ j-1) h (13+k)).1=t;rw[wZ,e,OG ht]
abbrev g (xs:Array Nat)(i:Nat):Nat:=xs.getD i 0
theorem nV {xs:Array Nat}{i:Nat}(h:i<xs.size):xs[i]?=some (g xs i):=by
 rw[getElem?_pos xs i h,g,La,getElem?_pos xs i h];rfl
def xJ (xs:Array Nat):Prop:=∀i j,i<j->j<xs.size->g xs i<g xs j
theorem xJ.inj {xs:Array Nat}(r:xJ xs){i j:Nat}(hi:i<xs.size)(hj:j<xs.size)(e:g xs i=g xs j):i=j:=by
 rcases OB i j with h|h|h
 ·have:=r i j h hj;lia
 ·exact h
 ·have:=r j i h hi;lia
theorem i5 {xs:Array Nat}{j:Nat}(r:xJ xs):∀(f lo hi:Nat),hi<=xs.size->lo<=hi->hi-lo<=f->(∀k,k<lo->g xs k<j)->(∀k,hi<=k->k<xs.size->j<=g xs k) ->
  below.go xs j f lo hi<=xs.size/\(∀k,k<below.go xs j f lo hi->g xs k<j)/\(∀k,below.go xs j f lo hi<=k->k<xs.size->j<=g xs k)
 |0,lo,hi,h1,h2,h3,h4,h5=>by
  obtain rfl:lo=hi:=by omega
  exact⟨h1,h4,h5⟩
 |f+1,lo,hi,h1,h2,h3,h4,h5=>by
  unfold below.go
  by_cases hl:lo<hi
  ·rw[if_pos hl];dsimp only;have hm:(lo+hi) / 2<xs.size:=by omega
   have e:xs.getD ((lo+hi) / 2) j=g xs ((lo+hi) / 2):=by
    rw[g,La,La,getElem?_pos xs _ hm];rfl
   rw[e]
   by_cases hc:g xs ((lo+hi) / 2)<j
   ·rw[if_pos hc];refine i5 r f _ _ h1 (by omega) (by omega) (λk hk=>?_) h5
    by_cases Gi:k=(lo+hi) / 2
    ·rw[Gi];exact hc
    ·have:=r k ((lo+hi) / 2) (by omega) hm;omega
   ·rw[if_neg hc];refine i5 r f _ _ (by omega) (by omega) (by omega) h4 (λk hk DP=>?_)
    by_cases Gi:k=(lo+hi) / 2
    ·rw[Gi];omega
    ·have:=r ((lo+hi) / 2) k (by omega) DP;omega
  ·rw[if_neg hl];obtain rfl:lo=hi:=by omega
   exact⟨h1,h4,h5⟩
theorem dF {xs:Array Nat}(r:xJ xs)(j:Nat):below xs j<=xs.size/\(∀k,k<below xs j->g xs k<j)/\(∀k,below xs j<=k->k<xs.size->j<=g xs k) :=
 i5 r xs.size 0 xs.size (KZ _) (Lp _) (KZ _) (λk hk=>by lia) (λk h1 h2=>by lia)
theorem below_at {xs:Array Nat}(r:xJ xs){i:Nat}(hi:i<xs.size):below xs (g xs i)=i:=by
 obtain⟨h1,h2,h3⟩:=dF r (g xs i);rcases OB (below xs (g xs i)) i with h|h|h
 ·have:=h3 (below xs (g xs i)) (KZ _) (by omega)
  have:=r _ _ h hi;omega
 ·exact h
 ·have:=h2 i h;omega
def k7 (t:SetTable)(x:Nat):Prop:=∃i,i<t.place.size/\g t.place i=x
theorem jn {t:SetTable}(r:xJ t.place){i:Nat}(hi:i<t.place.size):t.slot (g t.place i)=.live i:=by
 unfold slot;dsimp only;rw[below_at r hi,if_pos (by rw[nV hi];exact beq_self_eq_true _)]
theorem pS {t:SetTable}(r:xJ t.place)(d:t.dummies=#[]){x:Nat}(h:¬ k7 t x):t.slot x=.empty:=by
 unfold slot;dsimp only;rw[if_neg ?_,if_neg ?_]
 ·rw[d];unfold has;simp
 ·intro q;have q:=eq_of_beq q;have hl:below t.place x<t.place.size:=by
   rcases Ma (below t.place x) t.place.size with z|z
   ·exact z
   ·rw[Mj z]at q;cases q
  rw[nV hl]at q;exact h ⟨_,hl,Lq q⟩
structure WF (t:SetTable)(hs:List Int):Prop where
 AH:t.dummies=#[]
 sz:t.place.size=hs.length
 pY:xJ t.place
 Ii:∀i,i<t.place.size->g t.place i<=t.mask
 wY:∃j,3<=j/\t.mask=2 ^ j-1
 room:t.place.size<=t.mask
 Hk:∀i h,hs[i]?=some h->∃n,bF t.mask h n=g t.place i/\∀k,k<n->k7 t (bF t.mask h k)
theorem least {p:Nat->Prop}[DecidablePred p]:∀n,p n->∃m,m<=n/\p m/\∀k,k<m->¬ p k:=by
 intro n
 induction n using Nat.strongRecOn with
 |_ n ih =>
  intro hn
  by_cases h:∃k,k<n/\p k
  ·obtain⟨k,hk,hp⟩:=h;obtain⟨m,h1,h2,h3⟩:=ih k hk hp;exact⟨m,by lia,h2,h3⟩
  ·exact⟨n,KZ _,hn,λk hk hp=>h ⟨k,hk,hp⟩⟩
instance (t:SetTable):DecidablePred (k7 t):=λx=>decidable_of_iff (∃i,i<t.place.size/\g t.place i=x) Iff.rfl
theorem WF.hole {t:SetTable}{hs:List Int}(w:WF t hs):∃x,x<=t.mask/\¬ k7 t x:=by
 refine MM λF7=>?_;have all:∀x,x<=t.mask->k7 t x:=λx hx=>MM λq=>F7 ⟨x,hx,q⟩;have up:∀x,x<=t.mask->∃i,i<t.place.size/\g t.place i=x/\x<=i:=by
  intro x
  induction x with
  |zero =>
   intro hx;obtain⟨i,h1,h2⟩:=all 0 hx;exact⟨i,h1,h2,Lp _⟩
  |succ x ih =>
   intro hx;obtain⟨i,h1,h2,h3⟩:=ih (by lia)
   obtain⟨i',h4,h5⟩:=all (x+1) hx;refine⟨i',h4,h5,?_⟩;rcases Ma i i' with q|q
   ·lia
   ·rcases Ma i' i with q2|q2
    ·have:=w.pY i' i q2 h1;lia
    ·obtain rfl:i=i':=by lia
     lia
 obtain⟨i,h1,h2,h3⟩:=up t.mask (KZ _);have:=w.room;lia
theorem WF.first {t:SetTable}{hs:List Int}(w:WF t hs)(h:Int):∃n,n<10*turns t.mask/\¬ k7 t (bF t.mask h n)/\∀k,k<n->k7 t (bF t.mask h k):=by
 obtain⟨x,hx,hf⟩:=w.hole;obtain⟨j,_,hj⟩:=w.wY;have Az:x<2 ^ j:=by have:0<2 ^ j:=Ob (by decide);lia
 obtain⟨n,h1,h2⟩:=Ke j h Az;rw[<- hj]at h1 h2;obtain⟨m,g1,g2,g3⟩:=least (p:=λn=>¬ k7 t (bF t.mask h n)) n (by rw[h2];exact hf)
 exact⟨m,by lia,g2,λk hk=>MM λq=>g3 k hk q⟩
theorem f_ (m:Nat)(h:Int):∀n,(dO m h n).dummy=none
 |0=>rfl
 |n+1=>by
  show (bZ m (dO m h n)).dummy=none;unfold bZ advance
  split
  ·exact f_ m h n
  ·exact f_ m h n
theorem lC {t:SetTable}{hs:List Int}(w:WF t hs)(ha:Nat->Int)(h:Int){N:Nat}(hN:¬ k7 t (bF t.mask h N))(hO:∀k,k<N->k7 t (bF t.mask h k)):∀(d n f:Nat),n+d=N->d<f ->
  (probe.go t ha h f (dO t.mask h n)=some (.empty (bF t.mask h N) none)/\∀k,n<=k->k<N->∀i,i<t.place.size->g t.place i=bF t.mask h k->ha i≠h) \/
  ∃m i,n<=m/\m<N/\i<t.place.size/\g t.place i=bF t.mask h m/\ha i=h/\probe.go t ha h f (dO t.mask h n)=some (.candidate (bF t.mask h m) i (dO t.mask h (m+1)))/\∀k,n<=k->k<m->∀i,i<t.place.size->g t.place i=bF t.mask h k->ha i≠h
 |0,n,f,e,hf=>by
  obtain rfl:n=N:=by lia
  obtain⟨f,rfl⟩:∃f',f=f'+1:=⟨f-1,by lia⟩
  refine .inl ⟨?_,λk h1 h2=>by lia⟩
  unfold probe.go;rw[show t.slot (dO t.mask h n).j=.empty from pS w.pY w.AH hN]
  dsimp only;rw[f_];rfl
 |d+1,n,f,e,hf=>by
  obtain⟨f,rfl⟩:∃f',f=f'+1:=⟨f-1,by lia⟩
  obtain⟨i,hi,hg⟩:=hO n (by lia)
  have AB:t.slot (dO t.mask h n).j=.live i:=by
   show t.slot (bF t.mask h n)=.live i;rw[<- hg];exact jn w.pY hi
  by_cases hh:ha i=h
  ·refine .inr ⟨n,i,KZ _,by lia,hi,hg,hh,?_,λk h1 h2=>by lia⟩
   unfold probe.go;rw[AB];dsimp only;rw[if_pos (by rw[hh];exact beq_self_eq_true _)]
   rfl
  ·have st:probe.go t ha h (f+1) (dO t.mask h n)=probe.go t ha h f (dO t.mask h (n+1)):=by
    conv=>lhs;unfold probe.go
    rw[AB];dsimp only;rw[if_neg (by simpa using hh)]
    rfl
   rw[st];have here:∀i',i'<t.place.size->g t.place i'=bF t.mask h n->ha i'≠h:=λi' h1 h2=>by
    rw[w.pY.inj h1 hi (h2.trans hg.symm)];exact hh
   rcases lC w ha h hN hO d (n+1) f (by lia) (by lia)with⟨q1,q2⟩|⟨m,i',q1,q2,q3,q4,q5,q6,q7⟩
   ·refine .inl ⟨q1,λk h1 h2=>?_⟩
    by_cases hk:k=n
    ·subst hk;exact here
    ·exact q2 k (by lia) h2
   ·refine .inr ⟨m,i',by lia,q2,q3,q4,q5,q6,λk h1 h2=>?_⟩
    by_cases hk:k=n
    ·subst hk;exact here
    ·exact q7 k (by lia) h2
theorem iN {α:Type}(xs:Array α)(p:Nat)(x:α):(insertAt xs p x).toList=xs.toList.take p++x::xs.toList.drop p:=by
 unfold insertAt;rw[LZ,Mi,Of,Of,Nw,Nw,LQ];simp[MX]
theorem tm {α:Type}{xs:Array α}{p:Nat}{x:α}(h:p<=xs.size):(insertAt xs p x).size=xs.size+1:=by
 rw[<- K2,iN,Lz,Lm,Lw,M7,K2];lia
theorem dC {xs:Array Nat}{p x:Nat}(h:p<=xs.size)(k:Nat):g (insertAt xs p x) k=if k<p then g xs k else if k=p then x else g xs (k-1):=by
 have e:∀(ys:Array Nat) (k:Nat),g ys k=(ys.toList[k]?).getD 0:=λys k=>by rw[g,La,Lb]
 rw[e,e,e,iN]
 by_cases h1:k<p
 ·rw[if_pos h1,LY (by rw[Lw,K2];lia),MP h1]
 ·rw[if_neg h1,LH (by rw[Lw];lia),Lw,K2,show min p xs.size=p by lia]
  by_cases h2:k=p
  ·rw[if_pos h2,h2,NW];rfl
  ·rw[if_neg h2,show k-p=k-p-1+1 by lia,Ms,Nr,show p+(k-p-1)=k-1 by lia]
theorem WF.put {t:SetTable}{hs:List Int}(w:WF t hs){h:Int}{N:Nat}(hb:bF t.mask h N<=t.mask)(hN:¬ k7 t (bF t.mask h N))(hO:∀k,k<N->k7 t (bF t.mask h k))(hr:t.place.size+1<=t.mask):
  WF (t.put (bF t.mask h N)).1 (hs.take (t.put (bF t.mask h N)).2++h::hs.drop (t.put (bF t.mask h N)).2)/\(t.put (bF t.mask h N)).2<=t.place.size:=by
 obtain⟨b1,b2,b3⟩:=dF w.pY (bF t.mask h N);have hp:(t.put (bF t.mask h N)).2=below t.place (bF t.mask h N):=rfl;rw[hp];generalize hx:bF t.mask h N=x at *
 generalize hq:below t.place x=p at *
 have e:(t.put x).1={t with place:=insertAt t.place p x}:=by
  unfold SetTable.put;dsimp only;rw[w.AH,hq];unfold has;simp
 have ne:∀k,p<=k->k<t.place.size->x<g t.place k:=λk h1 h2=>by
  have:=b3 k h1 h2;rcases Ma x (g t.place k)with q|q
  ·exact q
  ·exact absurd ⟨k,h2,by lia⟩ hN
 have EF:(insertAt t.place p x).size=t.place.size+1:=tm b1;have Hs:∀y,k7 t y->k7 {t with place:=insertAt t.place p x} y:=by
  rintro y ⟨i,h1,h2⟩
  by_cases hi:i<p
  ·exact⟨i,by show i<(insertAt t.place p x).size;lia,by show g (insertAt t.place p x) i=y;rw[dC b1,if_pos hi];exact h2⟩
  ·exact⟨i+1,by show i+1<(insertAt t.place p x).size;lia,by show g (insertAt t.place p x) (i+1)=y;rw[dC b1,if_neg (by lia),if_neg (by lia)];exact h2⟩
 rw[e];refine⟨⟨w.AH,?_,?_,?_,w.wY,?_,?_⟩,b1⟩
 ·show (insertAt t.place p x).size=_;rw[EF,Lz,Lm,Lw,M7,<- w.sz];lia
 ·intro i j aB hj;have hj:j<t.place.size+1:=by rw[<- EF];exact hj
  show g (insertAt t.place p x) i<g (insertAt t.place p x) j;rw[dC b1,dC b1]
  by_cases h1:i<p
  ·rw[if_pos h1]
   by_cases h2:j<p
   ·rw[if_pos h2];exact w.pY i j aB (by lia)
   ·rw[if_neg h2]
    by_cases h3:j=p
    ·rw[if_pos h3];exact b2 i h1
    ·rw[if_neg h3];exact w.pY i (j-1) (by lia) (by lia)
  ·rw[if_neg h1,if_neg (show ¬ j<p by lia)]
   by_cases h3:i=p
   ·rw[if_pos h3,if_neg (show ¬ j=p by lia)];exact ne _ (by lia) (by lia)
   ·rw[if_neg h3,if_neg (show ¬ j=p by lia)];exact w.pY (i-1) (j-1) (by lia) (by lia)
 ·intro i hi;have hi:i<t.place.size+1:=by rw[<- EF];exact hi
  show g (insertAt t.place p x) i<=t.mask;rw[dC b1]
  split
  ·exact w.Ii i (by lia)
  ·split
   ·exact hb
   ·exact w.Ii _ (by lia)
 ·show (insertAt t.place p x).size<=t.mask;lia
 ·intro i h' cf;show ∃n,bF t.mask h' n=g (insertAt t.place p x) i/\_;have old:∀i h',hs[i]?=some h'->∃n,bF t.mask h' n=g t.place i/\∀k,k<n->k7 {t with place:=insertAt t.place p x} (bF t.mask h' k):=λi h' q=>by
   obtain⟨n,h1,h2⟩:=w.Hk i h' q;exact⟨n,h1,λk hk=>Hs _ (h2 k hk)⟩
  have hpl:p<=hs.length:=by rw[<- w.sz];exact b1
  by_cases h1:i<p
  ·rw[LY (by rw[Lw];lia),MP h1]at cf
   rw[dC b1,if_pos h1];exact old i h' cf
  ·rw[LH (by rw[Lw];lia),Lw,show min p hs.length=p by lia]at cf
   rw[dC b1,if_neg h1]
   by_cases h2:i=p
   ·rw[h2,NW]at cf;rw[if_pos h2];obtain rfl:h=h':=Lq cf;exact⟨N,hx,λk hk=>Hs _ (hO k hk)⟩
   ·rw[show i-p=i-p-1+1 by lia,Ms,Nr,show p+(i-p-1)=i-1 by lia]at cf
    rw[if_neg h2];exact old (i-1) h' cf
theorem eD {m i:Nat}(h:i<=m):i<=runEnd m i/\runEnd m i<=m:=by
 unfold runEnd
 split <;> lia
theorem rV (m:Nat)(h:Int):∀n,(dO m h n).j+(dO m h n).more<=m
 |0=>by
  show bits h % (m+1)+(runEnd m (bits h % (m+1))-bits h % (m+1))<=m;have hl:bits h % (m+1)<=m:=Nat.le_of_lt_succ (Nq _ (Nat.succ_pos _));have:=eD hl;lia
 |n+1=>by
  have ih:=rV m h n;show (bZ m (dO m h n)).j+(bZ m (dO m h n)).more<=m;unfold bZ advance
  split
  ·show (dO m h n).j+1+((dO m h n).more-1)<=m;lia
  ·show (leap m (dO m h n).i (dO m h n).perturb).1+(runEnd m (leap m (dO m h n).i (dO m h n).perturb).1-(leap m (dO m h n).i (dO m h n).perturb).1)<=m;have hl:(leap m (dO m h n).i (dO m h n).perturb).1<=m:=Nat.le_of_lt_succ (Nq _ (Nat.succ_pos _));have:=eD hl;lia
theorem gU (m:Nat)(h:Int)(n:Nat):bF m h n<=m:=by
 have:=rV m h n;unfold bF;lia
abbrev Ow:=Array (Option Nat)
def dJ (o:Ow)(j:Nat):Bool:=(o.getD j (some 0)).isNone
theorem jH {m:Nat}{o:Ow}(h:Int):∀(f b n:Nat) (j:Nat),dO m h n=AI m (lp m h b)->layClean.free m o f (lp m h b).1 (lp m h b).2=some j->∃N,n<=N/\bF m h N=j/\dJ o j=true/\∀k,n<=k->k<N->dJ o (bF m h k)=false
 |0,b,n,j,_,e=>by cases e
 |f+1,b,n,j,hb,e=>by
  unfold layClean.free at e;have Fs:∀d,d<=runEnd m (lp m h b).1-(lp m h b).1->bF m h (n+d)=(lp m h b).1+d:=λd hd=>by
   unfold bF;rw[nP m h _ n hb d hd]
  have hl:(lp m h b).1<=m:=by
   have:=gU m h n;unfold bF at this;rw[hb]at this;exact this
  have hr:=eD hl;cases hf:(LU (runEnd m (lp m h b).1+1-(lp m h b).1)).find? (λk=>(o.getD ((lp m h b).1+k) (some 0)).isNone)with
  |some k =>
   rw[hf]at e;dsimp only at e;obtain⟨h1,h2,h3⟩:=List.find?_range_eq_some.mp hf;have h2:=Md.mp h2;refine⟨n+k,by lia,?_,?_,λx g1 g2=>?_⟩
   ·rw[Fs k (by lia)]
    exact Lq e
   ·rw[<- Lq e];exact h1
   ·have:=h3 (x-n) (by lia)
    rw[show x=n+(x-n) by lia,Fs (x-n) (by lia)]
    unfold dJ;simpa using this
  |none =>
   rw[hf]at e;dsimp only at e;have h3:=List.find?_range_eq_none.mp hf;obtain⟨N,q1,q2,q3,q4⟩:=jH h f (b+1) (n+(runEnd m (lp m h b).1-(lp m h b).1)+1) j (mI m h _ n hb) e;refine⟨N,by lia,q2,q3,λx g1 g2=>?_⟩
   by_cases hx:n+(runEnd m (lp m h b).1-(lp m h b).1)+1<=x
   ·exact q4 x hx g2
   ·have:=h3 (x-n) (by lia)
    rw[show x=n+(x-n) by lia,Fs (x-n) (by lia)]
    unfold dJ;simpa using this
theorem jI {m:Nat}{o:Ow}(h:Int):∀(f b:Nat),layClean.free m o f (lp m h b).1 (lp m h b).2=none->∀d,d<f->(lp m h (b+d)).1<=m->dJ o (lp m h (b+d)).1=false
 |0,b,_,d,hd,_=>by lia
 |f+1,b,e,d,hd,hl=>by
  unfold layClean.free at e;cases hf:(LU (runEnd m (lp m h b).1+1-(lp m h b).1)).find? (λk=>(o.getD ((lp m h b).1+k) (some 0)).isNone)with
  |some k =>
   rw[hf]at e;cases e
  |none =>
   rw[hf]at e;dsimp only at e;cases d with
   |zero =>
    have:=List.find?_range_eq_none.mp hf 0 (by have:=eD hl;rw[Nat.add_zero]at this;lia)
    unfold dJ;simpa using this
   |succ d =>
    have:=jI h f (b+1) e d (by lia) (by rw[show b+1+d=b+(d+1) by lia];exact hl)
    rw[show b+1+d=b+(d+1) by lia]at this
    exact this
theorem za (j:Nat)(h:Int){t:Nat}(ht:t<2 ^ j):∃k,k<turns (2 ^ j-1)/\(lp (2 ^ j-1) h k).1=t:=by
 obtain⟨k,hk,e⟩:=lift j (lp (2 ^ j-1) h 13).1 t;refine⟨13+k,by unfold turns;lia,?_⟩
 rw[wZ,e,OG ht]
def ow (o:Ow)(j:Nat):Option Nat:=o.getD j none
theorem cO {α:Type}{f f':Nat->Option α}:∀(l:List Nat),(∀k∈l,f' k=f k)->l.filterMap f'=l.filterMap f
 |[],_=>rfl
 |x::l,h=>by
  rw[LA,LA,h x Lg,cO l λk hk=>h k (Lc _ hk)]
theorem l_ {α:Type}{f f':Nat->Option α}(l:List Nat)(h:∀k∈l,f' k=f k):l.filterMap f'=l.filterMap f:=cO l h
theorem l8 {α:Type}(f f':Nat->Option α)(j:Nat)(v:α)(h1:f j=none)(h2:f' j=some v)(h3:∀k,k≠j->f' k=f k):∀N,j<N->((LU N).filterMap f').Perm (v::(LU N).filterMap f)
 |0,h=>by lia
 |N+1,h=>by
  rw[ON,N7,N7]
  by_cases e:j=N
  ·subst e;have e1:(LU j).filterMap f'=(LU j).filterMap f:=by
    exact cO _ λk hk=>h3 k (Lu (Md.mp hk))
   rw[e1,LA,h2,LA,h1,List.filterMap_nil,List.filterMap_nil];show ((LU j).filterMap f++[v]).Perm (v::((LU j).filterMap f++[]));rw[LV];exact List.perm_append_comm
  ·have ih:=l8 f f' j v h1 h2 h3 N (by lia)
   have e2:[N].filterMap f'=[N].filterMap f:=cO _ λk hk=>by
    rw[K_.mp hk];exact h3 N (λz=>e z.symm)
   rw[e2];exact ih.append_right _
theorem md {α:Type}(f:Nat->Option α):∀N,(∀k,k<N->(f k).isSome=true)->((LU N).filterMap f).length=N
 |0,_=>rfl
 |N+1,h=>by
  rw[ON,N7,Lz,md f N λk hk=>h k (by lia)]
  have:=h N (by lia)
  cases e:f N with
  |none=>rw[e]at this;cases this
  |some x=>rw[LA,e];rfl
structure Ld (m:Nat)(hs:Array Int)(o:Ow)(k:Nat):Prop where
 sz:o.size=m+1
 E9:((LU (m+1)).filterMap (ow o)).Perm (LU k)
 way:∀j a,ow o j=some a->a<k/\∃n,bF m (hs.getD a 0) n=j/\∀x,x<n->dJ o (bF m (hs.getD a 0) x)=false
theorem iB {o:Ow}{j:Nat}(h:j<o.size):dJ o j=true↔ow o j=none:=by
 unfold dJ ow;rw[La,La,getElem?_pos o j h];show (o[j]).isNone=true↔o[j]=none;exact Option.isNone_iff_eq_none
theorem Ld.next {j0:Nat}{hs:Array Int}{o:Ow}{k:Nat}(L:Ld (2 ^ j0-1) hs o k)(hk:k<=2 ^ j0-1)(h:Int)(hh:hs.getD k 0=h):
  ∃j,layClean.free (2 ^ j0-1) o (turns (2 ^ j0-1)) (bits h % (2 ^ j0-1+1)) (bits h)=some j/\Ld (2 ^ j0-1) hs (o.setIfInBounds j (some k)) (k+1):=by
 have hP:0<2 ^ j0:=Ob (by decide)
 generalize hm:2 ^ j0-1=m at *
 obtain⟨x,hx,JB⟩:∃x,x<=m/\ow o x=none:=by
  refine MM λF7=>?_;have:=md (ow o) (m+1) λx hx=>by
   cases e:ow o x with
   |none=>exact absurd ⟨x,by lia,e⟩ F7
   |some _=>rfl
  rw[L.E9.length_eq,NA]at this;lia
 cases hf:layClean.free m o (turns m) (bits h % (m+1)) (bits h)with
 |none =>
  exfalso
  obtain⟨c,hc,he⟩:=za j0 h (t:=x) (by lia)
  rw[hm]at hc he;have:=jI (m:=m) (o:=o) h (turns m) 0 hf c hc (by rw[ML,he];exact hx)
  rw[ML,he]at this;have q:=(iB (o:=o) (j:=x) (by rw[L.sz];lia)).mpr JB
  rw[q]at this;cases this
 |some j =>
  refine⟨j,rfl,?_⟩;obtain⟨N,_,q2,q3,q4⟩:=jH (m:=m) (o:=o) h (turns m) 0 0 j rfl hf;have hj:j<=m:=by rw[<- q2];exact gU m h N
  have Gj:j<o.size:=by rw[L.sz];lia
  have CF:ow o j=none:=(iB Gj).mp q3;have same:∀i,i≠j->ow (o.setIfInBounds j (some k)) i=ow o i:=λi hi=>by
   unfold ow;rw[La,La,OD (λz=>hi z.symm)]
  have here:ow (o.setIfInBounds j (some k)) j=some k:=by
   unfold ow;rw[La,N9 Gj];rfl
  have shut:∀i,dJ o i=false->dJ (o.setIfInBounds j (some k)) i=false:=λi hi=>by
   unfold dJ at *
   rw[La]at *
   by_cases e:i=j
   ·subst e;rw[N9 Gj];rfl
   ·rw[OD (λz=>e z.symm)];exact hi
  refine⟨by rw[NO];exact L.sz,?_,λi a DQ=>?_⟩
  ·refine(l8 (ow o) _ j k CF here same (m+1) (by lia)).trans ?_
   refine(L.E9.cons k).trans ?_;rw[ON];exact(List.perm_append_singleton k _).symm
  ·by_cases e:i=j
   ·subst e;rw[here]at DQ;obtain rfl:=Lq DQ;refine⟨Nat.lt_succ_self _,N,by rw[hh];exact q2,λx hx=>shut _ ?_⟩
    rw[hh];exact q4 x (Lp _) hx
   ·rw[same i e]at DQ;obtain⟨g1,n,g2,g3⟩:=L.way i a DQ;exact⟨by lia,n,g2,λx hx=>shut _ (g3 x hx)⟩
theorem iZ {j0:Nat}{hs:Array Int}(hk:hs.size<=2 ^ j0-1):∀(l:List Int) (k:Nat) (o:Ow),hs.toList.drop k=l->k+l.length=hs.size->Ld (2 ^ j0-1) hs o k ->
  ∃o',(l.foldl (λ(acc:Option (Ow×Nat)) h=>do
   let (owner,k) <- acc
   let j <- layClean.free (2 ^ j0-1) owner (turns (2 ^ j0-1)) (bits h % (2 ^ j0-1+1)) (bits h)
   pure (owner.setIfInBounds j (some k),k+1)) (some (o,k)))=some (o',hs.size)/\Ld (2 ^ j0-1) hs o' hs.size
 |[],k,o,e,z,L=>by
  obtain rfl:k=hs.size:=z;exact⟨o,rfl,L⟩
 |h::l,k,o,e,z,L=>by
  rw[Lm]at z;have eS:k<hs.toList.length:=by rw[K2];lia
  rw[Mo eS]at e;injection e with e1 e2
  have hh:hs.getD k 0=h:=by
   rw[La,<- Lb,K9 eS,e1];rfl
  obtain⟨j,q1,q2⟩:=L.next (by lia) h hh
  rw[List.foldl_cons];show ∃o',(l.foldl _ (do
   let j <- layClean.free (2 ^ j0-1) o (turns (2 ^ j0-1)) (bits h % (2 ^ j0-1+1)) (bits h)
   pure (o.setIfInBounds j (some k),k+1)))=_/\_
  rw[q1];exact iZ hk l (k+1) _ e2 (by lia) q2
theorem Ld.start (m:Nat)(hs:Array Int):Ld m hs (Array.replicate (m+1) none) 0:=by
 have e:∀j,ow (Array.replicate (m+1) none) j=none:=λj=>by
  unfold ow;rw[La,Array.getElem?_replicate]
  split <;> rfl
 refine⟨Array.size_replicate,?_,λj a h=>by rw[e]at h;cases h⟩
 rw[cO (f:=λ_=>(none:Option Nat)) _ λk _=>e k];have:∀l:List Nat,l.filterMap (λ_=>(none:Option Nat))=[]:=λl=>by
  induction l with
  |nil=>rfl
  |cons x l ih=>rw[LA];exact ih
 rw[this];exact .refl _
theorem vI {j0:Nat}{hs:Array Int}(h3:3<=j0)(hk:hs.size<=2 ^ j0-1)(finger moves:Nat)(led plain:Bool):
  ∃t order,laid (2 ^ j0-1) finger moves led plain hs=some (t,order)/\t.mask=2 ^ j0-1/\t.led=led/\t.plain=plain/\t.moves=moves/\order.toList.Perm (LU hs.size)/\WF t (order.toList.map λa=>hs.getD a 0)/\t.place.size=hs.size:=by
 obtain⟨o,e1,L⟩:=iZ hk hs.toList 0 _ rfl (by rw[ML,K2]) (Ld.start _ hs)
 have e2:layClean (2 ^ j0-1) hs=some o:=by
  unfold layClean;rw[<- Array.foldl_toList];exact congrArg (Option.map (·.1)) e1
 generalize hm:2 ^ j0-1=m at *
 have B4:∀(l:List Nat),((l.filterMap λj=>(o.getD j none).map (j,·)).map (·.2))=l.filterMap (ow o):=λl=>by
  rw[List.map_filterMap];refine l_ l λj _=>?_;rw[Option.map_map];show ((o.getD j none).map λa=>a)=_;rw[Option.map_id'];rfl
 generalize CG:((LU (m+1)).filterMap λj=>(o.getD j none).map (j,·))=live at *
 have pw:live.Pairwise (λx y=>x.1<y.1):=by
  rw[<- CG,List.pairwise_filterMap];refine List.pairwise_lt_range.imp λ{a b} zX x hx y hy=>?_;obtain⟨_,_,rfl⟩:=LG.mp hx;obtain⟨_,_,rfl⟩:=LG.mp hy;exact zX
 have mem:∀x∈live,x.1<m+1/\ow o x.1=some x.2:=λx hx=>by
  rw[<- CG]at hx;obtain⟨j,hj,e⟩:=MR.mp hx;obtain⟨a,ha,rfl⟩:=LG.mp e;exact⟨Md.mp hj,ha⟩
 have ord:(live.map (·.2)).Perm (LU hs.size):=by
  rw[<- CG,B4];exact L.E9
 have len:live.length=hs.size:=by
  have:=ord.length_eq;rw[KY,NA]at this;exact this
 have gp:∀i (hi:i<live.length),g (live.map (·.1)).toArray i=(live[i]).1:=λi hi=>by
  rw[g,La,List.getElem?_toArray,Lj,K9 hi];rfl
 refine⟨{mask:=m,place:=(live.map (·.1)).toArray,dummies:=#[],finger,led,moves,plain},(live.map (·.2)).toArray,?_,rfl,rfl,rfl,rfl,ord,?_,?_⟩
 ·unfold laid;rw[e2,<- CG];rfl
 ·have E7:(live.map (·.1)).toArray.size=live.length:=by rw[Li,KY]
  refine⟨rfl,?_,?_,?_,⟨j0,h3,hm.symm⟩,?_,?_⟩
  ·show (live.map (·.1)).toArray.size=_;rw[E7,KY,KY]
  ·intro i j aB hj;have hj:j<live.length:=by rw[<- E7];exact hj
   show g (live.map (·.1)).toArray i<g (live.map (·.1)).toArray j;rw[gp i (by lia),gp j hj]
   exact Nv.mp pw i j (by lia) hj aB
  ·intro i hi;have hi:i<live.length:=by rw[<- E7];exact hi
   show g (live.map (·.1)).toArray i<=m;rw[gp i hi];have:=(mem _ (M8 hi)).1;lia
  ·show (live.map (·.1)).toArray.size<=m;lia
  ·intro i h hi;show ∃n,bF m h n=g (live.map (·.1)).toArray i/\_;rw[Lj,Lj]at hi;have xg:i<live.length:=by
    rcases Ma i live.length with q|q
    ·exact q
    ·rw[MC q]at hi;cases hi
   rw[K9 xg]at hi;have hi:hs.getD (live[i]).2 0=h:=Lq hi;obtain⟨_,n,g2,g3⟩:=L.way _ _ (mem _ (M8 xg)).2;rw[hi]at g2 g3;refine⟨n,by rw[gp i xg];exact g2,λk hk=>?_⟩
   have hv:=gU m h k;have Jx:bF m h k<o.size:=by rw[L.sz];lia
   have:=g3 k hk;cases eo:ow o (bF m h k)with
   |none =>
    rw[(iB Jx).mpr eo]at this;cases this
   |some a =>
    have zQ:(bF m h k,a)∈live:=by
     rw[<- CG];exact MR.mpr ⟨bF m h k,Md.mpr (by lia),by show (ow o (bF m h k)).map _=_;rw[eo];rfl⟩
    obtain⟨i',cf,e'⟩:=List.getElem_of_mem zQ;exact⟨i',by show i'<(live.map (·.1)).toArray.size;lia,by show g (live.map (·.1)).toArray i'=_;rw[gp i' cf,e']⟩
 ·show (live.map (·.1)).toArray.size=hs.size;rw[Li,KY];exact len
end ST
namespace TS
open PySem PyProof.Rows
def bC:Bool->KW->Array KW->Nat->Nat->Nat->StateT Lo Sem (Option Nat):=sortPriv% PySem.Builtin.gallop
def fG:Array KW->Array KW->StateT Lo Sem (Array KW):=sortPriv% PySem.Builtin.mergeLo
def fH:Array KW->Array KW->StateT Lo Sem (Array KW):=sortPriv% PySem.Builtin.mergeHi
abbrev bD (st:Lo)(g:Nat):Lo:=SortSt.mk' (kindOf st) (Ls st) (Lh st) g (MT st)
theorem nU (left:Bool)(key:KW)(arr:Array KW)(base n hint:Nat):bC left key arr base n hint=(do
  let ask:=λ(at_:Nat)=>(do
   let z <- elem' arr (base+at_)
   if left then lt' z key else return (<- lt' key z).map (!·):StateT Lo Sem (Option Bool))
  let mut before:=0
  let mut step:=1
  let mut u:=0
  let mut v:=0
  let some up <- ask hint|return none
  if up then
   let room:=n-hint
   for _ in [0:n] do
    if step >= room then break
    let some on <- ask (hint+step)|return none
    if !on then break
    before:=step
    step:=2*step+1
   u:=hint+before+1
   v:=hint+min step room
  else
   let room:=hint+1
   for _ in [0:n] do
    if step >= room then break
    let some hit <- ask (hint-step)|return none
    if hit then break
    before:=step
    step:=2*step+1
   u:=hint+1-min step room
   v:=hint-before
  for _ in [0:n] do
   if u >= v then break
   let mid:=u+(v-u) / 2
   let some on <- ask mid|return none
   if on then u:=mid+1 else v:=mid
  return some v):=rfl
theorem lM (p q:Array KW):fG p q=(do
  rule "list.sort.merge-lo"
  let all:=p.size+q.size
  let rest:=λ(to:Array KW) (i j:Nat)=>to++p.extract i p.size++q.extract j q.size
  let tail:=λ(to:Array KW) (i j:Nat)=>to++q.extract j q.size++p.extract i p.size
  let mut to:Array KW:=#[<- elem' q 0]
  let mut i:=0
  let mut j:=1
  if j==q.size then return rest to i j
  if i+1==p.size then return tail to i j
  let mut mg:=gallopOf (<- get)
  for _ in [0:all] do
   let mut m:=0
   let mut n:=0
   for _ in [0:all] do
    let some xW <- lt' (<- elem' q j) (<- elem' p i)|return rest to i j
    if xW then
     to:=to.push (<- elem' q j);j:=j+1;n:=n+1;m:=0
     if j==q.size then return rest to i j
     if n >= mg then break
    else
     to:=to.push (<- elem' p i);i:=i+1;m:=m+1;n:=0
     if i+1==p.size then return tail to i j
     if m >= mg then break
   rule "list.sort.gallop"
   mg:=mg+1
   for _ in [0:all] do
    if mg>1 then mg:=mg-1
    modify λst=>bD st mg
    let some k <- bC false (<- elem' q j) p i (p.size-i) 0|return rest to i j
    m:=k
    if k>0 then
     to:=to++p.extract i (i+k);i:=i+k
     if i+1==p.size then return tail to i j
     if i==p.size then return rest to i j
    to:=to.push (<- elem' q j);j:=j+1
    if j==q.size then return rest to i j
    let some k <- bC true (<- elem' p i) q j (q.size-j) 0|return rest to i j
    n:=k
    if k>0 then
     to:=to++q.extract j (j+k);j:=j+k
     if j==q.size then return rest to i j
    to:=to.push (<- elem' p i);i:=i+1
    if i+1==p.size then return tail to i j
    if m<7&&n<7 then break
   mg:=mg+1
   modify λst=>bD st mg
  unsupported "internal:list.sort.merge-bound"):=rfl
theorem lO (p q:Array KW):fH p q=(do
  rule "list.sort.merge-hi"
  let all:=p.size+q.size
  let rest:=λ(to:Array KW) (i j:Nat)=>p.extract 0 i++q.extract 0 j++to.reverse
  let tail:=λ(to:Array KW) (i j:Nat)=>q.extract 0 j++p.extract 0 i++to.reverse
  let mut i:=p.size-1
  let mut j:=q.size
  let mut to:Array KW:=#[<- elem' p i]
  if i==0 then return rest to i j
  if j==1 then return tail to i j
  let mut mg:=gallopOf (<- get)
  for _ in [0:all] do
   let mut m:=0
   let mut n:=0
   for _ in [0:all] do
    let some xW <- lt' (<- elem' q (j-1)) (<- elem' p (i-1))|return rest to i j
    if xW then
     i:=i-1;to:=to.push (<- elem' p i);m:=m+1;n:=0
     if i==0 then return rest to i j
     if m >= mg then break
    else
     j:=j-1;to:=to.push (<- elem' q j);n:=n+1;m:=0
     if j==1 then return tail to i j
     if n >= mg then break
   rule "list.sort.gallop"
   mg:=mg+1
   for _ in [0:all] do
    if mg>1 then mg:=mg-1
    modify λst=>bD st mg
    let some h <- bC false (<- elem' q (j-1)) p 0 i (i-1)|return rest to i j
    let k:=i-h
    m:=k
    if k>0 then
     to:=to++(p.extract h i).reverse;i:=h
     if i==0 then return rest to i j
    j:=j-1;to:=to.push (<- elem' q j)
    if j==1 then return tail to i j
    let some h <- bC true (<- elem' p (i-1)) q 0 j (j-1)|return rest to i j
    let k:=j-h
    n:=k
    if k>0 then
     to:=to++(q.extract h j).reverse;j:=h
     if j==1 then return tail to i j
     if j==0 then return rest to i j
    i:=i-1;to:=to.push (<- elem' p i)
    if i==0 then return rest to i j
    if m<7&&n<7 then break
   mg:=mg+1
   modify λst=>bD st mg
  unsupported "internal:list.sort.merge-bound"):=rfl
theorem lQ (i:Nat):mergeAt' i=(do
  let st <- get
  let (some (sa,na,pw),some (sb,nb,_)):=((Lh st)[i]?,(Lh st)[i+1]?)|unsupported "internal:list.sort.pending"
  set (M6 st (((Lh st).setIfInBounds i (sa,na+nb,pw)).eraseIdxIfInBounds (i+1)))
  let some k <- bC false (<- elem' (Ls st) sb) (Ls st) sa na 0|return false
  let (sa,na):=(sa+k,na-k)
  if na==0 then return true
  let some nb <- bC true (<- elem' (Ls st) (sa+na-1)) (Ls st) sb nb (nb-1)|return false
  if nb==0 then return true
  let x:=(Ls st).extract sa sb
  let y:=(Ls st).extract sb (sb+nb)
  let got <- if na<=nb then fG x y else fH x y
  modify λs2=>LS s2 (got.toList.zipIdx.foldl (λa (p,j)=>a.setIfInBounds (sa+j) p) (Ls s2))
  return (MT (<- get)).isNone):=rfl
structure bB (c:KW->KW->Bool):Prop where
 Dc:∀x y,c x y=true->c y x=false
 Ht:∀x y z,c x z=true->c x y=true\/c y z=true
def le (c:KW->KW->Bool)(x y:KW):Prop:=c y x=false
section
variable {c:KW->KW->Bool}
theorem bB.refl (O:bB c)(x:KW):le c x x:=by
 cases h:c x x
 ·exact h
 ·exact O.Dc _ _ h
theorem bB.trans (O:bB c){x y z:KW}(h1:le c x y)(h2:le c y z):le c x z:=by
 cases h:c z x
 ·exact h
 ·rcases O.Ht _ y _ h with q|q
  ·exact absurd (q.symm.trans h2) (by simp)
  ·exact absurd (q.symm.trans h1) (by simp)
theorem bB.of_lt (O:bB c){x y:KW}(h:c x y=true):le c x y:=O.Dc _ _ h
def el (a:Array KW)(i:Nat):KW:=a.getD i (Value.none,Value.none)
theorem fP {a:Array KW}{i:Nat}(h:i<a.size):a[i]?=some (el a i):=by
 rw[getElem?_pos a i h,el,La,getElem?_pos a i h];rfl
theorem pj {a:Array KW}{i:Nat}{x:KW}(h:a[i]?=some x):el a i=x:=by
 rw[el,La,h];rfl
theorem cP {a b:Array KW}{i j:Nat}(h:a[i]?=b[j]?):el a i=el b j:=by
 rw[el,el,La,La,h]
def SR (c:KW->KW->Bool)(a:Array KW)(lo hi:Nat):Prop:=∀i j,lo<=i->i<=j->j<hi->le c (el a i) (el a j)
def dG (prog:K3)(w:Lf)(A:LI)(E:KR->KU->Prop)(s:KU)(κ:MN)(c:KW->KW->Bool)(S:KW->Prop):Prop :=
 ∀(x y:KW) (st:Lo) (Q:Option Bool->Lo->Prop),S x->S y->kindOf st=κ->Q (some (c x y)) st->wpS (model prog w) A E s (lt' x y) Q st
end
section
variable {prog:K3}{w:Lf}{A:LI}{E:KR->KU->Prop}{s:KU}{κ:MN}{c:KW->KW->Bool}{S:KW->Prop}
theorem aD {a:Array KW}{i:Nat}{Q:KW->Lo->Prop}{st:Lo}(h:i<a.size)(q:Q (el a i) st):wpS (model prog w) A E s (elem' a i) Q st:=by
 rw[elem'_eq,fP h];exact K7 q
def cR (c:KW->KW->Bool)(left:Bool)(key:KW)(a:Array KW)(base i:Nat):Bool:=if left=true then c (el a (base+i)) key else !c key (el a (base+i))
theorem wx (O:bB c){left:Bool}{key:KW}{a:Array KW}{base n i j:Nat}(hs:SR c a base (base+n))(aB:i<=j)(hj:j<n)(h:cR c left key a base j=true):cR c left key a base i=true:=by
 have hl:=hs (base+i) (base+j) (by lia) (by lia) (by lia)
 unfold cR at *
 cases left with
 |true =>
  rw[if_pos rfl]at *
  rcases O.Ht _ (el a (base+i)) _ h with q|q
  ·exact absurd (q.symm.trans hl) (by simp)
  ·exact q
 |false =>
  rw[if_neg (by simp)]at *
  rw[M3]at *
  exact O.trans hl h
theorem fo (L:dG prog w A E s κ c S){left:Bool}{key:KW}{a:Array KW}{base n i:Nat}{Q:Option Bool->Lo->Prop}{st:Lo}(hk:kindOf st=κ)(hK:S key)(hA:∀i,i<n->S (el a (base+i)))(hn:base+n<=a.size)(hi:i<n)
  (h:Q (some (cR c left key a base i)) st):wpS (model prog w) A E s (do
   let z <- elem' a (base+i)
   if left then lt' z key else return (<- lt' key z).map (!·):StateT Lo Sem (Option Bool)) Q st:=by
 refine K1 (aD (by lia) ?_)
 unfold cR at h;cases left with
 |true =>
  rw[if_pos rfl]at *
  exact L _ _ st Q (hA i hi) hK hk h
 |false =>
  rw[if_neg (by simp)]at *
  exact K1 (L _ _ st _ hK (hA i hi) hk (K7 h))
theorem ck (O:bB c)(L:dG prog w A E s κ c S){left:Bool}{key:KW}{a:Array KW}{base n hint:Nat}{Q:Option Nat->Lo->Prop}{st:Lo}(hk:kindOf st=κ)(hK:S key)(hA:∀i,i<n->S (el a (base+i)))(hn:base+n<=a.size)
  (hs:SR c a base (base+n)) (hh:hint<n) (h:∀k,k<=n->(∀i,i<k->cR c left key a base i=true)->(∀i,k<=i->i<n->cR c left key a base i=false)->Q (some k) st) :
  wpS (model prog w) A E s (bC left key a base n hint) Q st:=by
 rw[nU];dsimp only;have up:∀{i j},i<=j->j<n->cR c left key a base j=true->cR c left key a base i=true:=λh1 h2 h3=>wx O hs h1 h2 h3;refine K1 (fo L hk hK hA hn hh ?_);dsimp only;have dn:∀{i j},i<=j->j<n->cR c left key a base i=false->cR c left key a base j=false:=λ{i j} h1 h2 h3=>by
  cases q:cR c left key a base j
  ·rfl
  ·rw[up h1 h2 q]at h3;exact absurd h3 (by simp)
 cases DT:cR c left key a base hint with
 |true =>
  rw[if_pos rfl];refine K1 (Mb (LK (I:=λx r ak=>ak=st/\∃be bZ,r=(none,be,bZ)/\hint+be<n/\be<bZ/\x+1<=bZ/\cR c left key a base (hint+be)=true)
   (Q:=λr ak=>ak=st/\∃be bZ,r=(none,be,bZ)/\hint+be<n/\be<bZ/\cR c left key a base (hint+be)=true/\(n-hint<=bZ\/(hint+bZ<n/\cR c left key a base (hint+bZ)=false))) ?_ ?_ ?_) ?_)
  ·rintro x r ak _ hx ⟨rfl,be,bZ,rfl,h1,h2,h3,h4⟩;dsimp only
   by_cases hr:bZ >= n-hint
   ·rw[if_pos hr];exact K7 ⟨rfl,be,bZ,rfl,h1,h2,h4,.inl hr⟩
   ·rw[if_neg hr];refine K1 (fo L hk hK hA hn (by omega) ?_)
    dsimp only;cases hb:cR c left key a base (hint+bZ)with
    |true =>
     rw[if_neg (by simp)]
     exact K7 ⟨rfl,bZ,_,rfl,by omega,by omega,by omega,hb⟩
    |false =>
     rw[if_pos (by simp)]
     exact K7 ⟨rfl,be,bZ,rfl,h1,h2,h4,.inr ⟨by omega,hb⟩⟩
  ·rintro r ak ⟨rfl,be,bZ,rfl,h1,h2,h3,h4⟩;exact⟨rfl,be,bZ,rfl,h1,h2,h4,.inl (by omega)⟩
  ·exact⟨rfl,0,1,rfl,by omega,by omega,by omega,DT⟩
  rintro r ak ⟨e0,be,bZ,rfl,h1,h2,h4,h5⟩;rw[e0];dsimp only;have g1:∀i,i<hint+be+1->cR c left key a base i=true:=λi hi=>up (j:=hint+be) (by omega) h1 h4
  have g2:∀i,hint+min bZ (n-hint)<=i->i<n->cR c left key a base i=false:=λi hi cf=>by
   rcases h5 with q|⟨q1,q2⟩
   ·omega
   ·exact dn (i:=hint+bZ) (by omega) cf q2
  refine K1 (Mb (LK (I:=λx r ak=>ak=st/\∃u v,r=(none,u,v)/\u<=v/\v<=n/\v-u<=n-x/\(∀i,i<u->cR c left key a base i=true)/\(∀i,v<=i->i<n->cR c left key a base i=false))
   (Q:=λr ak=>ak=st/\∃v,r=(none,v,v)/\v<=n/\(∀i,i<v->cR c left key a base i=true)/\(∀i,v<=i->i<n->cR c left key a base i=false)) ?_ ?_ ?_) ?_)
  ·rintro x r ak _ hx ⟨rfl,u,v,rfl,h1,h2,h3,h4,h5⟩;dsimp only
   by_cases Cb:u >= v
   ·rw[if_pos Cb];obtain rfl:u=v:=by omega
    exact K7 ⟨rfl,u,rfl,h2,h4,h5⟩
   ·rw[if_neg Cb];refine K1 (fo L hk hK hA hn (by omega) ?_)
    dsimp only;cases hb:cR c left key a base (u+(v-u) / 2)with
    |true =>
     rw[if_pos rfl];exact K7 ⟨rfl,_,v,rfl,by omega,h2,by omega,λi hi=>up (j:=u+(v-u) / 2) (by omega) (by omega) hb,h5⟩
    |false =>
     rw[if_neg (by simp)]
     exact K7 ⟨rfl,u,_,rfl,by omega,by omega,by omega,h4,λi hi cf=>dn (i:=u+(v-u) / 2) (by omega) (by omega) hb⟩
  ·rintro r ak ⟨rfl,u,v,rfl,h1,h2,h3,h4,h5⟩;obtain rfl:u=v:=by omega
   exact⟨rfl,u,rfl,h2,h4,h5⟩
  ·exact⟨rfl,_,_,rfl,by omega,by omega,by omega,by assumption,by assumption⟩
  ·rintro r ak ⟨rfl,v,rfl,h2,h4,h5⟩;exact K7 (h v h2 h4 h5)
 |false =>
  rw[if_neg (by simp)]
  refine K1 (Mb (LK (I:=λx r ak=>ak=st/\∃be bZ,r=(none,be,bZ)/\be<=hint/\be<bZ/\x+1<=bZ/\cR c left key a base (hint-be)=false)
   (Q:=λr ak=>ak=st/\∃be bZ,r=(none,be,bZ)/\be<=hint/\be<bZ/\cR c left key a base (hint-be)=false/\(hint+1<=bZ\/(bZ<=hint/\cR c left key a base (hint-bZ)=true))) ?_ ?_ ?_) ?_)
  ·rintro x r ak _ hx ⟨rfl,be,bZ,rfl,h1,h2,h3,h4⟩;dsimp only
   by_cases hr:bZ >= hint+1
   ·rw[if_pos hr];exact K7 ⟨rfl,be,bZ,rfl,h1,h2,h4,.inl hr⟩
   ·rw[if_neg hr];refine K1 (fo L hk hK hA hn (by omega) ?_)
    dsimp only;cases hb:cR c left key a base (hint-bZ)with
    |true =>
     rw[if_pos rfl];exact K7 ⟨rfl,be,bZ,rfl,h1,h2,h4,.inr ⟨by omega,hb⟩⟩
    |false =>
     rw[if_neg (by simp)]
     exact K7 ⟨rfl,bZ,_,rfl,by omega,by omega,by omega,hb⟩
  ·rintro r ak ⟨rfl,be,bZ,rfl,h1,h2,h3,h4⟩;exact⟨rfl,be,bZ,rfl,h1,h2,h4,.inl (by omega)⟩
  ·exact⟨rfl,0,1,rfl,by omega,by omega,by omega,DT⟩
  rintro r ak ⟨e0,be,bZ,rfl,h1,h2,h4,h5⟩;rw[e0];dsimp only;have g1:∀i,i<hint+1-min bZ (hint+1)->cR c left key a base i=true:=λi hi=>by
   rcases h5 with q|⟨q1,q2⟩
   ·omega
   ·exact up (j:=hint-bZ) (by omega) (by omega) q2
  have g2:∀i,hint-be<=i->i<n->cR c left key a base i=false:=λi hi cf=>dn (i:=hint-be) hi cf h4;refine K1 (Mb (LK (I:=λx r ak=>ak=st/\∃u v,r=(none,u,v)/\u<=v/\v<=n/\v-u<=n-x/\(∀i,i<u->cR c left key a base i=true)/\(∀i,v<=i->i<n->cR c left key a base i=false))
   (Q:=λr ak=>ak=st/\∃v,r=(none,v,v)/\v<=n/\(∀i,i<v->cR c left key a base i=true)/\(∀i,v<=i->i<n->cR c left key a base i=false)) ?_ ?_ ?_) ?_)
  ·rintro x r ak _ hx ⟨rfl,u,v,rfl,h1,h2,h3,h4,h5⟩;dsimp only
   by_cases Cb:u >= v
   ·rw[if_pos Cb];obtain rfl:u=v:=by omega
    exact K7 ⟨rfl,u,rfl,h2,h4,h5⟩
   ·rw[if_neg Cb];refine K1 (fo L hk hK hA hn (by omega) ?_)
    dsimp only;cases hb:cR c left key a base (u+(v-u) / 2)with
    |true =>
     rw[if_pos rfl];exact K7 ⟨rfl,_,v,rfl,by omega,h2,by omega,λi hi=>up (j:=u+(v-u) / 2) (by omega) (by omega) hb,h5⟩
    |false =>
     rw[if_neg (by simp)]
     exact K7 ⟨rfl,u,_,rfl,by omega,by omega,by omega,h4,λi hi cf=>dn (i:=u+(v-u) / 2) (by omega) (by omega) hb⟩
  ·rintro r ak ⟨rfl,u,v,rfl,h1,h2,h3,h4,h5⟩;obtain rfl:u=v:=by omega
   exact⟨rfl,u,rfl,h2,h4,h5⟩
  ·exact⟨rfl,_,_,rfl,by omega,by omega,by omega,by assumption,by assumption⟩
  ·rintro r ak ⟨rfl,v,rfl,h2,h4,h5⟩;exact K7 (h v h2 h4 h5)
end
section
variable {c:KW->KW->Bool}{p q:Array KW}{t:List KW}{i j:Nat}
theorem oD {a:Array KW}{i:Nat}(h:i<a.size):a.toList.take (i+1)=a.toList.take i++[el a i]:=by
 have e:a.toList[i]?=some (el a i):=by rw[Lb];exact fP h
 rw[OU,e];rfl
theorem pq {a:Array KW}{i:Nat}(h:i<a.size):a.toList.drop i=el a i::a.toList.drop (i+1):=by
 have hl:i<a.toList.length:=by rw[K2];exact h
 have e:a.toList[i]=el a i:=by
  have h1:=K9 hl;rw[Lb,fP h]at h1;exact(Lq h1).symm
 rw[Mo hl,e]
structure Mg (c:KW->KW->Bool)(p q:Array KW)(t:List KW)(i j:Nat):Prop where
 hi:i<=p.size
 hj:j<=q.size
 perm:t.Perm (p.toList.take i++q.toList.take j)
 eP:t.Pairwise (le c)
 ap:∀x∈t,∀k,i<=k->k<p.size->le c x (el p k)
 aq:∀x∈t,∀k,j<=k->k<q.size->le c x (el q k)
def Gd (c:KW->KW->Bool)(p q:Array KW)(t:List KW):Prop:=t.Perm (p.toList++q.toList)/\t.Pairwise (le c)
theorem lr {x:KW}(h:t.Pairwise (le c))(hx:∀y∈t,le c y x):(t++[x]).Pairwise (le c):=by
 rw[List.pairwise_append];exact⟨h,List.pairwise_singleton _ _,λy hy z hz=>by rw[K_.mp hz];exact hx y hy⟩
theorem Mg.gG (m:Mg c p q t i j)(hj:j<q.size)(sq:SR c q 0 q.size)(hle:∀k,i<=k->k<p.size->le c (el q j) (el p k)):Mg c p q (t++[el q j]) i (j+1) where
 hi:=m.hi
 hj:=hj
 perm:=by
  rw[oD hj,<- LQ];exact m.perm.append_right _
 eP:=lr m.eP λy hy=>m.aq y hy j (KZ _) hj
 ap:=λx hx k h1 h2=>by
  rcases Lv.mp hx with h|h
  ·exact m.ap x h k h1 h2
  ·rw[K_.mp h];exact hle k h1 h2
 aq:=λx hx k h1 h2=>by
  rcases Lv.mp hx with h|h
  ·exact m.aq x h k (by lia) h2
  ·rw[K_.mp h];exact sq j k (by lia) (by lia) h2
theorem Mg.gH (m:Mg c p q t i j)(hi:i<p.size)(sp:SR c p 0 p.size)(hle:∀k,j<=k->k<q.size->le c (el p i) (el q k)):Mg c p q (t++[el p i]) (i+1) j where
 hi:=hi
 hj:=m.hj
 perm:=by
  rw[oD hi];refine(m.perm.append_right _).trans ?_;rw[LQ,LQ];exact N8 _ List.perm_append_comm
 eP:=lr m.eP λy hy=>m.ap y hy i (KZ _) hi
 ap:=λx hx k h1 h2=>by
  rcases Lv.mp hx with h|h
  ·exact m.ap x h k (by lia) h2
  ·rw[K_.mp h];exact sp i k (by lia) (by lia) h2
 aq:=λx hx k h1 h2=>by
  rcases Lv.mp hx with h|h
  ·exact m.aq x h k h1 h2
  ·rw[K_.mp h];exact hle k h1 h2
theorem d_ {a:Array KW}{i k:Nat}(h:i+k<a.size):(a.toList.drop i).take (k+1)=(a.toList.drop i).take k++[el a (i+k)]:=by
 have e:(a.toList.drop i)[k]?=some (el a (i+k)):=by rw[Nr,Lb];exact fP h
 rw[OU,e];rfl
theorem Mg.fu (m:Mg c p q t i j)(sp:SR c p 0 p.size):∀(k:Nat),i+k<=p.size->(∀x,x<k->∀y,j<=y->y<q.size->le c (el p (i+x)) (el q y))->Mg c p q (t++(p.toList.drop i).take k) (i+k) j
 |0,_,_=>by simpa using m
 |k+1,h,hle=>by
  have m':=Mg.fu m sp k (by lia) λx hx=>hle x (by lia)
  rw[d_ (by lia),<- LQ,<- Nat.add_assoc]
  exact m'.gH (by lia) sp (hle k (by lia))
theorem Mg.ft (m:Mg c p q t i j)(sq:SR c q 0 q.size):∀(k:Nat),j+k<=q.size->(∀x,x<k->∀y,i<=y->y<p.size->le c (el q (j+x)) (el p y))->Mg c p q (t++(q.toList.drop j).take k) i (j+k)
 |0,_,_=>by simpa using m
 |k+1,h,hle=>by
  have m':=Mg.ft m sq k (by lia) λx hx=>hle x (by lia)
  rw[d_ (by lia),<- LQ,<- Nat.add_assoc]
  exact m'.gG (by lia) sq (hle k (by lia))
theorem Mg.full (m:Mg c p q t p.size q.size):Gd c p q t:=by
 refine⟨?_,m.eP⟩;have h:=m.perm;rw[MX (by rw[K2];lia),MX (by rw[K2];lia)]at h
 exact h
theorem bA (a:Array KW)(i j:Nat):(a.extract i j).toList=(a.toList.drop i).take (j-i):=by
 rw[Of,Nw]
theorem mx {a:Array KW}{i j:Nat}(h:a.size<=i):(a.toList.drop i).take (j-i)=[]:=by
 rw[NY (by rw[K2];exact h)]
 simp
theorem Mg.done {to:Array KW}(m:Mg c p q to.toList i j)(sp:SR c p 0 p.size)(sq:SR c q 0 q.size)(h:i=p.size\/j=q.size):Gd c p q (to++p.extract i p.size++q.extract j q.size).toList:=by
 rw[LZ,LZ,bA,bA];rcases h with rfl|rfl
 ·rw[mx (KZ _),LV];have m':=m.ft sq (q.size-j) (by have:=m.hj;lia) λx hx y h1 h2=>by lia
  rw[show j+(q.size-j)=q.size by have:=m.hj;lia]at m'
  exact m'.full
 ·rw[mx (a:=q) (KZ _),LV];have m':=m.fu sp (p.size-i) (by have:=m.hi;lia) λx hx y h1 h2=>by lia
  rw[show i+(p.size-i)=p.size by have:=m.hi;lia]at m'
  exact m'.full
theorem Mg.tail {to:Array KW}(O:bB c)(m:Mg c p q to.toList i j)(sp:SR c p 0 p.size)(sq:SR c q 0 q.size)(h:i+1=p.size)(hl:∀y,y<q.size->c (el q y) (el p (p.size-1))=true):Gd c p q (to++q.extract j q.size++p.extract i p.size).toList:=by
 rw[LZ,LZ,bA,bA];have m':=m.ft sq (q.size-j) (by have:=m.hj;lia) λx hx y h1 h2=>by
  rw[show y=p.size-1 by lia]
  exact O.of_lt (hl _ (by lia))
 rw[show j+(q.size-j)=q.size by have:=m.hj;lia]at m'
 have m2:=m'.fu sp (p.size-i) (by have:=m.hi;lia) λx hx y h1 h2=>by lia
 rw[show i+(p.size-i)=p.size by have:=m.hi;lia]at m2
 exact m2.full
theorem pF (to a:Array KW)(i k:Nat):(to++a.extract i (i+k)).toList=to.toList++(a.toList.drop i).take k:=by
 rw[LZ,bA,show i+k-i=k by lia]
theorem Mg.start (O:bB c)(sp:SR c p 0 p.size)(sq:SR c q 0 q.size)(hq:0<q.size)(hp:0<p.size)(h:c (el q 0) (el p 0)=true):Mg c p q [el q 0] 0 1:=by
 have m:Mg c p q [] 0 0:=⟨Lp _,Lp _,(by simp),.nil,(λx hx=>by cases hx),(λx hx=>by cases hx)⟩
 exact m.gG hq sq λk _ hk=>O.trans (O.of_lt h) (sp 0 k (by lia) (by lia) hk)
end
structure gB (st ak:Lo):Prop where
 kind:kindOf ak=kindOf st
 arr:Ls ak=Ls st
 pend:Lh ak=Lh st
 fail:MT ak=MT st
theorem gB.refl (st:Lo):gB st st:=⟨rfl,rfl,rfl,rfl⟩
theorem gB.xl {st ak:Lo}(e:gB st ak)(g:Nat):gB st (bD ak g):=⟨e.kind,e.arr,e.pend,e.fail⟩
abbrev RI:=Array KW×Nat×Nat×Nat×Nat
abbrev RG:=Array KW×Nat×Nat×Nat×Nat×Nat
abbrev RO:=Array KW×Nat×Nat×Nat
def Fj (p q t:Array KW)(i j mg m n:Nat):StateT Lo Sem (ForInStep (Option (Array KW)×RG)):=do
 let z <- elem' p i
 if (i+1+1==p.size)=true then pure (.done (some (t.push z++q.extract j++p.extract (i+1)),t.push z,i+1,j,mg,m,n))
 else if (decide (m<7)&&decide (n<7))=true then pure (.done (none,t.push z,i+1,j,mg,m,n)) else pure (.yield (none,t.push z,i+1,j,mg,m,n))
def Fl (p q t:Array KW)(i j mg m n:Nat):StateT Lo Sem (ForInStep (Option (Array KW)×RG)):=do
 let y <- elem' q j
 if (j+1==q.size)=true then pure (.done (some (t.push y++p.extract i++q.extract (j+1)),t.push y,i,j+1,mg,m,n))
 else do
  let x <- elem' p i
  let r <- bC true x q (j+1) (q.size-(j+1)) 0
  match r with
  |some k=>if k>0 then (if (j+1+k==q.size)=true then pure (.done (some (t.push y++q.extract (j+1) (j+1+k)++p.extract i++q.extract (j+1+k)),t.push y++q.extract (j+1) (j+1+k),i,j+1+k,mg,m,k))
    else Fj p q (t.push y++q.extract (j+1) (j+1+k)) i (j+1+k) mg m k) else Fj p q (t.push y) i (j+1) mg m k
  |_=>pure (.done (some (t.push y++p.extract i++q.extract (j+1)),t.push y,i,j+1,mg,m,n))
def BZ (p q t:Array KW)(i j mg m n:Nat):StateT Lo Sem (ForInStep (Option (Array KW)×RG)):=do
 modify λst=>bD st mg
 let y <- elem' q j
 let r <- bC false y p i (p.size-i) 0
 match r with
 |some k=>if k>0 then (if (i+k+1==p.size)=true then pure (.done (some (t++p.extract i (i+k)++q.extract j++p.extract (i+k)),t++p.extract i (i+k),i+k,j,mg,k,n))
   else if (i+k==p.size)=true then pure (.done (some (t++p.extract i (i+k)++p.extract (i+k)++q.extract j),t++p.extract i (i+k),i+k,j,mg,k,n))
   else Fl p q (t++p.extract i (i+k)) (i+k) j mg k n) else Fl p q t i j mg k n
 |_=>pure (.done (some (t++p.extract i++q.extract j),t,i,j,mg,m,n))
def Ji (p q:Array KW)(s:Option (Array KW)×RG):StateT Lo Sem (ForInStep (Option (Array KW)×RG)):=if s.2.2.2.2.1>1 then BZ p q s.2.1 s.2.2.1 s.2.2.2.1 (s.2.2.2.2.1-1) s.2.2.2.2.2.1 s.2.2.2.2.2.2 else BZ p q s.2.1 s.2.2.1 s.2.2.2.1 s.2.2.2.2.1 s.2.2.2.2.2.1 s.2.2.2.2.2.2
def BY (p q:Array KW)(mg:Nat)(s:Option (Array KW)×RI):StateT Lo Sem (ForInStep (Option (Array KW)×RI)):=do
 let y <- elem' q s.2.2.2.1
 if (s.2.2.2.1+1==q.size)=true then pure (.done (some (s.2.1.push y++p.extract s.2.2.1++q.extract (s.2.2.2.1+1)),s.2.1.push y,s.2.2.1,s.2.2.2.1+1,0,s.2.2.2.2.2+1))
 else if s.2.2.2.2.2+1 >= mg then pure (.done (none,s.2.1.push y,s.2.2.1,s.2.2.2.1+1,0,s.2.2.2.2.2+1)) else pure (.yield (none,s.2.1.push y,s.2.2.1,s.2.2.2.1+1,0,s.2.2.2.2.2+1))
def BX (p q:Array KW)(mg:Nat)(s:Option (Array KW)×RI):StateT Lo Sem (ForInStep (Option (Array KW)×RI)):=do
 let x <- elem' p s.2.2.1
 if (s.2.2.1+1+1==p.size)=true then pure (.done (some (s.2.1.push x++q.extract s.2.2.2.1++p.extract (s.2.2.1+1)),s.2.1.push x,s.2.2.1+1,s.2.2.2.1,s.2.2.2.2.1+1,0))
 else if s.2.2.2.2.1+1 >= mg then pure (.done (none,s.2.1.push x,s.2.2.1+1,s.2.2.2.1,s.2.2.2.2.1+1,0)) else pure (.yield (none,s.2.1.push x,s.2.2.1+1,s.2.2.2.1,s.2.2.2.2.1+1,0))
def Fi (p q:Array KW)(mg:Nat)(s:Option (Array KW)×RI):StateT Lo Sem (ForInStep (Option (Array KW)×RI)):=do
 let y <- elem' q s.2.2.2.1
 let x <- elem' p s.2.2.1
 let r <- lt' y x
 match r with
 |some xW=>if xW=true then BY p q mg s else BX p q mg s
 |_=>pure (.done (some (s.2.1++p.extract s.2.2.1++q.extract s.2.2.2.1),s.2.1,s.2.2.1,s.2.2.2.1,s.2.2.2.2.1,s.2.2.2.2.2))
def HA (p q:Array KW)(s:Option (Array KW)×RO):StateT Lo Sem (ForInStep (Option (Array KW)×RO)):=do
 let s1 <- forIn [:p.size+q.size] ((none,s.2.1,s.2.2.1,s.2.2.2.1,0,0):Option (Array KW)×RI) λ_ r=>Fi p q s.2.2.2.2 r
 match s1.1 with
 |some r=>pure (.done (some r,s1.2.1,s1.2.2.1,s1.2.2.2.1,s.2.2.2.2))
 |none=>do
  liftM (rule "list.sort.gallop")
  let s2 <- forIn [:p.size+q.size] ((none,s1.2.1,s1.2.2.1,s1.2.2.2.1,s.2.2.2.2+1,s1.2.2.2.2.1,s1.2.2.2.2.2):Option (Array KW)×RG) λ_ r=>Ji p q r
  match s2.1 with
  |some r=>pure (.done (some r,s2.2.1,s2.2.2.1,s2.2.2.2.1,s2.2.2.2.2.1))
  |none=>do
   modify λst=>bD st (s2.2.2.2.2.1+1)
   pure (.yield (none,s2.2.1,s2.2.2.1,s2.2.2.2.1,s2.2.2.2.2.1+1))
theorem lN (p q:Array KW):fG p q=(do
  liftM (rule "list.sort.merge-lo")
  let y <- elem' q 0
  if (1==q.size)=true then pure (#[y]++p.extract 0++q.extract 1)
  else if (0+1==p.size)=true then pure (#[y]++q.extract 1++p.extract 0)
  else do
   let st <- get
   let s <- forIn [:p.size+q.size] ((none,#[y],0,1,gallopOf st):Option (Array KW)×RO) λ_ s=>HA p q s
   match s.1 with
   |some r=>pure r
   |none=>liftM (unsupported "internal:list.sort.merge-bound" : Sem (Array KW))):=by
 rw[lM];dsimp only;refine congrArg (bind _) (funext λ_=>?_);refine congrArg (bind _) (funext λy=>?_);refine congrArg (ite _ _) (congrArg (ite _ _) ?_);refine congrArg (bind _) (funext λy=>?_);refine congr (congrArg bind (congrArg _ (funext λ_=>funext λs=>?_))) (funext λs=>?_)
 ·refine congr (congrArg bind (congrArg _ (funext λ_=>funext λs=>?_))) (funext λs=>?_)
  ·rfl
  ·cases s.1
   ·refine congrArg (bind _) (funext λ_=>?_);refine congr (congrArg bind (congrArg _ (funext λ_=>funext λs=>?_))) (funext λs=>?_)
    ·rfl
    ·cases s.1 <;> rfl
   ·rfl
 ·cases s.1 <;> rfl
section
variable {prog:K3}{w:Lf}{A:LI}{E:KR->KU->Prop}{s:KU}{κ:MN}{c:KW->KW->Bool}{S:KW->Prop}{p q:Array KW}
theorem q_ {st:Lo}{Q:ForInStep (Option (Array KW)×RG)->Lo->Prop}{t:Array KW}{i j mg m n:Nat}(O:bB c)(sp:SR c p 0 p.size)(sq:SR c q 0 q.size)(hl:∀y,y<q.size->c (el q y) (el p (p.size-1))=true)(m3:Mg c p q t.toList i j)(hi:i+1<p.size)(g3:∀y,j<=y->y<q.size->le c (el p i) (el q y))
  (hd:∀out r,Gd c p q out.toList->Q (.done (some out,r)) st) (hn:∀t' m n,Mg c p q t'.toList (i+1) j->i+1+1<p.size->Q (.done (none,t',i+1,j,mg,m,n)) st/\Q (.yield (none,t',i+1,j,mg,m,n)) st):wpS (model prog w) A E s (Fj p q t i j mg m n) Q st:=by
 refine K1 (aD (by lia) ?_)
 have m4:Mg c p q (t.push (el p i)).toList (i+1) j:=by
  rw[Mi];exact m3.gH (by lia) sp g3
 by_cases e5:(i+1+1==p.size)=true
 ·rw[if_pos e5];exact K7 (hd _ _ (m4.tail O sp sq (by simpa using e5) hl))
 rw[if_neg e5];have h5:i+1+1≠p.size:=by simpa using e5
 obtain⟨h6,h7⟩:=hn (t.push (el p i)) m n m4 (by lia)
 split
 ·exact K7 h6
 ·exact K7 h7
theorem rd {st:Lo}{Q:ForInStep (Option (Array KW)×RG)->Lo->Prop}{t:Array KW}{i j mg m n:Nat}(O:bB c)(L:dG prog w A E s κ c S)(hk:kindOf st=κ)(Sp:∀i,i<p.size->S (el p i))(Sq:∀i,i<q.size->S (el q i))(sp:SR c p 0 p.size)(sq:SR c q 0 q.size)(hl:∀y,y<q.size->c (el q y) (el p (p.size-1))=true)(m1:Mg c p q t.toList i j)(hi:i+1<p.size)(hj:j<q.size)(g1:∀y,i<=y->y<p.size->le c (el q j) (el p y))
  (hd:∀out r,Gd c p q out.toList->Q (.done (some out,r)) st) (hn:∀t' j' m n,Mg c p q t'.toList (i+1) j'->i+1+1<p.size->j<j'->j'<q.size->Q (.done (none,t',i+1,j',mg,m,n)) st/\Q (.yield (none,t',i+1,j',mg,m,n)) st):wpS (model prog w) A E s (Fl p q t i j mg m n) Q st:=by
 refine K1 (aD hj ?_);have m2:Mg c p q (t.push (el q j)).toList i (j+1):=by
  rw[Mi];exact m1.gG hj sq g1
 by_cases e3:(j+1==q.size)=true
 ·rw[if_pos e3];exact K7 (hd _ _ (m2.done sp sq (.inr (by simpa using e3))))
 rw[if_neg e3];have h3:j+1≠q.size:=by simpa using e3
 refine K1 (aD (by lia) (K1 (ck O L hk (Sp _ (by lia)) (λx hx=>Sq _ (by lia)) (by lia) (λa b h1 h2 h3=>sq a b (by lia) h2 (by lia)) (by lia) λk k1 k2 k3=>?_)))
 have g3:∀y,j+1+k<=y->y<q.size->le c (el p i) (el q y):=λy h1 h2=>by
  have:=k3 (y-(j+1)) (by lia) (by lia)
  unfold cR at this;rw[if_pos rfl,show j+1+(y-(j+1))=y by lia]at this
  exact this
 dsimp only
 by_cases tH:k>0
 ·rw[if_pos tH];have m3:Mg c p q (t.push (el q j)++q.extract (j+1) (j+1+k)).toList i (j+1+k):=by
   rw[pF];exact m2.ft sq k (by lia) λx hx y h1 h2=>O.trans (O.of_lt (show c (el q (j+1+x)) (el p i)=true from k2 x hx)) (sp _ y (by lia) h1 h2)
  by_cases e4:(j+1+k==q.size)=true
  ·rw[if_pos e4];exact K7 (hd _ _ (m3.done sp sq (.inr (by simpa using e4))))
  rw[if_neg e4];have h4:j+1+k≠q.size:=by simpa using e4
  exact q_ O sp sq hl m3 hi g3 hd λt' m n h1 h2=>hn t' _ m n h1 h2 (by lia) (by lia)
 ·rw[if_neg tH];exact q_ O sp sq hl m2 hi (λy h1 h2=>g3 y (by lia) h2) hd λt' m n h1 h2=>hn t' _ m n h1 h2 (by lia) (by lia)
theorem xR {st:Lo}{Q:ForInStep (Option (Array KW)×RG)->Lo->Prop}{t:Array KW}{i j mg m n:Nat}(O:bB c)(L:dG prog w A E s κ c S)(hk:kindOf st=κ)(Sp:∀i,i<p.size->S (el p i))(Sq:∀i,i<q.size->S (el q i))(sp:SR c p 0 p.size)(sq:SR c q 0 q.size)(hl:∀y,y<q.size->c (el q y) (el p (p.size-1))=true)(m0:Mg c p q t.toList i j)(hi:i+1<p.size)(hj:j<q.size)
  (hd:∀out r,Gd c p q out.toList->Q (.done (some out,r)) (bD st mg)) (hn:∀t' i' j' m n,Mg c p q t'.toList i' j'->i'+1<p.size->j'<q.size->i+j<i'+j'->Q (.done (none,t',i',j',mg,m,n)) (bD st mg)/\Q (.yield (none,t',i',j',mg,m,n)) (bD st mg)):wpS (model prog w) A E s (BZ p q t i j mg m n) Q st:=by
 refine K1 (ME (K1 (aD hj (K1 (ck O L hk (Sq _ hj) (λx hx=>Sp _ (by lia)) (by lia) (λa b h1 h2 h3=>sp a b (by lia) h2 (by lia)) (by lia) λk k1 k2 k3=>?_)))))
 have g0:∀x,x<k->le c (el p (i+x)) (el q j):=λx hx=>by
  have:=k2 x hx;unfold cR at this;rw[if_neg (by simp),M3]at this
  exact this
 have g1:∀y,i+k<=y->y<p.size->le c (el q j) (el p y):=λy h1 h2=>by
  have:=k3 (y-i) (by lia) (by lia)
  unfold cR at this;rw[if_neg (by simp),Nt,show i+(y-i)=y by lia]at this
  exact O.of_lt this
 have KI:i+k<p.size:=by
  rcases Ma (i+k) p.size with eS|KN
  ·exact eS
  ·have h1:=g0 (p.size-1-i) (by lia)
   rw[show i+(p.size-1-i)=p.size-1 by lia]at h1
   exact absurd ((hl j hj).symm.trans h1) (by simp)
 dsimp only
 by_cases tH:k>0
 ·rw[if_pos tH];have m1:Mg c p q (t++p.extract i (i+k)).toList (i+k) j:=by
   rw[pF];exact m0.fu sp k (by lia) λx hx y h1 h2=>O.trans (g0 x hx) (sq j y (by lia) h1 h2)
  by_cases e1:(i+k+1==p.size)=true
  ·rw[if_pos e1];exact K7 (hd _ _ (m1.tail O sp sq (by simpa using e1) hl))
  rw[if_neg e1];have vW:i+k+1≠p.size:=by simpa using e1
  rw[if_neg (by simp;lia)]
  exact rd O L hk Sp Sq sp sq hl m1 (by lia) hj g1 hd λt' j' m n h1 h2 h3 h4=>hn t' _ j' m n h1 h2 h4 (by lia)
 ·rw[if_neg tH];exact rd O L hk Sp Sq sp sq hl m0 hi hj (λy h1 h2=>g1 y (by lia) h2) hd λt' j' m n h1 h2 h3 h4=>hn t' _ j' m n h1 h2 h4 (by lia)
theorem xQ {st:Lo}{Q:ForInStep (Option (Array KW)×RI)->Lo->Prop}{t:Array KW}{i j mg ma na:Nat}(O:bB c)(L:dG prog w A E s κ c S)(hk:kindOf st=κ)(Sp:∀i,i<p.size->S (el p i))(Sq:∀i,i<q.size->S (el q i))(sp:SR c p 0 p.size)(sq:SR c q 0 q.size)(hl:∀y,y<q.size->c (el q y) (el p (p.size-1))=true)(m:Mg c p q t.toList i j)(hi:i+1<p.size)(hj:j<q.size)
  (hd:∀out r,Gd c p q out.toList->Q (.done (some out,r)) st) (hn:∀t' i' j' m n,Mg c p q t'.toList i' j'->i'+1<p.size->j'<q.size->i+j<i'+j'->Q (.done (none,t',i',j',m,n)) st/\Q (.yield (none,t',i',j',m,n)) st):wpS (model prog w) A E s (Fi p q mg (none,t,i,j,ma,na)) Q st:=by
 unfold Fi BY BX;dsimp only;refine K1 (aD hj (K1 (aD (by lia) (K1 (L _ _ st _ (Sq _ hj) (Sp _ (by lia)) hk ?_)))))
 dsimp only;cases hc:c (el q j) (el p i)with
 |true =>
  rw[if_pos rfl];refine K1 (aD hj ?_);have m1:Mg c p q (t.push (el q j)).toList i (j+1):=by
   rw[Mi];exact m.gG hj sq λk h1 h2=>O.trans (O.of_lt hc) (sp i k (by lia) h1 h2)
  by_cases e3:(j+1==q.size)=true
  ·rw[if_pos e3];exact K7 (hd _ _ (m1.done sp sq (.inr (by simpa using e3))))
  rw[if_neg e3];have h3:j+1≠q.size:=by simpa using e3
  obtain⟨h6,h7⟩:=hn _ _ _ 0 (na+1) m1 hi (by lia) (by lia)
  split
  ·exact K7 h6
  ·exact K7 h7
 |false =>
  rw[if_neg (by simp)]
  refine K1 (aD (by lia) ?_)
  have m1:Mg c p q (t.push (el p i)).toList (i+1) j:=by
   rw[Mi];exact m.gH (by lia) sp λk h1 h2=>O.trans (show le c (el p i) (el q j) from hc) (sq j k (by lia) h1 h2)
  by_cases e3:(i+1+1==p.size)=true
  ·rw[if_pos e3];exact K7 (hd _ _ (m1.tail O sp sq (by simpa using e3) hl))
  rw[if_neg e3];have h3:i+1+1≠p.size:=by simpa using e3
  obtain⟨h6,h7⟩:=hn _ _ _ (ma+1) 0 m1 (by lia) hj (by lia)
  split
  ·exact K7 h6
  ·exact K7 h7
theorem mZ (O:bB c)(L:dG prog w A E s κ c S){Q:Array KW->Lo->Prop}{st:Lo}(hk:kindOf st=κ)(Sp:∀i,i<p.size->S (el p i))(Sq:∀i,i<q.size->S (el q i))(sp:SR c p 0 p.size)(sq:SR c q 0 q.size)
  (hp:0<p.size) (hq:0<q.size) (hf:c (el q 0) (el p 0)=true) (hl:∀y,y<q.size->c (el q y) (el p (p.size-1))=true) (h:∀to ak,gB st ak->Gd c p q to.toList->Q to ak) :
  wpS (model prog w) A E s (fG p q) Q st:=by
 rw[lN];refine K1 (N_ (M4 ⟨rfl,?_⟩));refine K1 (aD hq ?_);have m0:Mg c p q (#[el q 0]:Array KW).toList 0 1:=Mg.start O sp sq hq hp hf
 by_cases h1:(1==q.size)=true
 ·rw[if_pos h1];exact K7 (h _ st (gB.refl st) (m0.done sp sq (.inr (by simpa using h1))))
 rw[if_neg h1]
 by_cases h2:(0+1==p.size)=true
 ·rw[if_pos h2];exact K7 (h _ st (gB.refl st) (m0.tail O sp sq (by simpa using h2) hl))
 rw[if_neg h2];refine K1 (Nx ?_);refine K1 (Mb (LK
  (I:=λx r ak=>gB st ak/\∃to i j mg,r=(none,to,i,j,mg)/\Mg c p q to.toList i j/\i+1<p.size/\j<q.size/\x<i+j)
  (Q:=λr ak=>gB st ak/\∃out r',r=(some out,r')/\Gd c p q out.toList) ?_ ?_ ?_) ?_)
 ·rintro x r ak _ hx ⟨e,to,i,j,mg,rfl,m,hi,hj,hb⟩;unfold HA;dsimp only;refine K1 (Mb (LK
   (I:=λy r ak=>gB st ak/\∃to i j m n,r=(none,to,i,j,m,n)/\Mg c p q to.toList i j/\i+1<p.size/\j<q.size/\x+min y 1<i+j)
   (Q:=λr ak=>gB st ak/\((∃out r',r=(some out,r')/\Gd c p q out.toList)\/∃to i j m n,r=(none,to,i,j,m,n)/\Mg c p q to.toList i j/\i+1<p.size/\j<q.size/\x+1<i+j)) ?_ ?_ ?_) ?_)
  ·rintro y r di _ hy ⟨e2,to,i,j,ma,na,rfl,m,hi,hj,hb⟩;exact xQ O L (e2.kind.trans hk) Sp Sq sp sq hl m hi hj (λout r h=>⟨e2,.inl ⟨_,_,rfl,h⟩⟩) λt' i' j' m n h1 h2 h3 h4=>⟨⟨e2,.inr ⟨_,_,_,_,_,rfl,h1,h2,h3,by lia⟩⟩,⟨e2,_,_,_,_,_,rfl,h1,h2,h3,by lia⟩⟩
  ·rintro r di ⟨e2,to,i,j,ma,na,rfl,m,hi,hj,hb⟩;exact⟨e2,.inr ⟨_,_,_,_,_,rfl,m,hi,hj,by lia⟩⟩
  ·exact⟨e,_,_,_,_,_,rfl,m,hi,hj,by lia⟩
  rintro r di ⟨e2,⟨out,r',rfl,g⟩|⟨to,i,j,ma,na,rfl,m,hi,hj,hb⟩⟩
  ·exact K7 ⟨e2,_,_,rfl,g⟩
  dsimp only;refine K1 (N_ (M4 ⟨rfl,?_⟩));refine K1 (Mb (LK
   (I:=λy r ak=>gB st ak/\∃to i j mg m n,r=(none,to,i,j,mg,m,n)/\Mg c p q to.toList i j/\i+1<p.size/\j<q.size/\x+1<i+j)
   (Q:=λr ak=>gB st ak/\((∃out r',r=(some out,r')/\Gd c p q out.toList)\/∃to i j mg m n,r=(none,to,i,j,mg,m,n)/\Mg c p q to.toList i j/\i+1<p.size/\j<q.size/\x+1<i+j)) ?_ ?_ ?_) ?_)
  ·rintro y r di _ hy ⟨e2,to,i,j,mg,ma,na,rfl,m,hi,hj,hb⟩;show wpS (model prog w) A E s (if mg>1 then BZ p q to i j (mg-1) ma na else BZ p q to i j mg ma na) _ di
   split <;> exact xR O L (e2.kind.trans hk) Sp Sq sp sq hl m hi hj (λout r h=>⟨e2.xl _,.inl ⟨_,_,rfl,h⟩⟩) λt' i' j' m n h1 h2 h3 h4=>⟨⟨e2.xl _,.inr ⟨_,_,_,_,_,_,rfl,h1,h2,h3,by lia⟩⟩,⟨e2.xl _,_,_,_,_,_,_,rfl,h1,h2,h3,by lia⟩⟩
  ·rintro r di ⟨e2,to,i,j,mg,ma,na,rfl,m,hi,hj,hb⟩;exact⟨e2,.inr ⟨_,_,_,_,_,_,rfl,m,hi,hj,hb⟩⟩
  ·exact⟨e2,_,_,_,_,_,_,rfl,m,hi,hj,hb⟩
  rintro r di ⟨e2,⟨out,r',rfl,g⟩|⟨to,i,j,mg,ma,na,rfl,m,hi,hj,hb⟩⟩
  ·exact K7 ⟨e2,_,_,rfl,g⟩
  dsimp only;refine K1 (ME (K7 ⟨e2.xl _,_,_,_,_,rfl,m,hi,hj,by lia⟩))
 ·rintro r ak ⟨e,to,i,j,mg,rfl,m,hi,hj,hb⟩
  exfalso
  rw[show max 0 (p.size+q.size)=p.size+q.size by lia]at hb
  lia
 ·exact⟨gB.refl st,_,_,_,_,rfl,m0,by simp at h2;lia,by simp at h1;lia,by lia⟩
 ·rintro r ak ⟨e,out,r',rfl,g⟩;exact K7 (h _ ak e g)
end
section
variable {c:KW->KW->Bool}{p q:Array KW}{t:List KW}{i j:Nat}
structure Mh (c:KW->KW->Bool)(p q:Array KW)(t:List KW)(i j:Nat):Prop where
 hi:i<=p.size
 hj:j<=q.size
 perm:t.Perm (p.toList.drop i++q.toList.drop j)
 eP:t.Pairwise (le c)
 ap:∀x∈t,∀k,k<i->le c (el p k) x
 aq:∀x∈t,∀k,k<j->le c (el q k) x
theorem jM {a:Array KW}{i:Nat}(h0:0<i)(h:i<=a.size):a.toList.drop (i-1)=el a (i-1)::a.toList.drop i:=by
 rw[pq (by lia),show i-1+1=i by lia]
theorem Mh.gH (m:Mh c p q t i j)(h0:0<i)(sp:SR c p 0 p.size)(hle:∀k,k<j->le c (el q k) (el p (i-1))):Mh c p q (el p (i-1)::t) (i-1) j where
 hi:=by have:=m.hi;lia
 hj:=m.hj
 perm:=by
  rw[jM h0 m.hi];exact m.perm.cons _
 eP:=Mk.mpr ⟨λx hx=>m.ap x hx _ (by lia),m.eP⟩
 ap:=λx hx k hk=>by
  rcases K6.mp hx with rfl|h
  ·exact sp k (i-1) (by lia) (by lia) (by have:=m.hi;lia)
  ·exact m.ap x h k (by lia)
 aq:=λx hx k hk=>by
  rcases K6.mp hx with rfl|h
  ·exact hle k hk
  ·exact m.aq x h k hk
theorem Mh.gG (m:Mh c p q t i j)(h0:0<j)(sq:SR c q 0 q.size)(hle:∀k,k<i->le c (el p k) (el q (j-1))):Mh c p q (el q (j-1)::t) i (j-1) where
 hi:=m.hi
 hj:=by have:=m.hj;lia
 perm:=by
  rw[jM h0 m.hj];exact(m.perm.cons _).trans NT.symm
 eP:=Mk.mpr ⟨λx hx=>m.aq x hx _ (by lia),m.eP⟩
 ap:=λx hx k hk=>by
  rcases K6.mp hx with rfl|h
  ·exact hle k hk
  ·exact m.ap x h k hk
 aq:=λx hx k hk=>by
  rcases K6.mp hx with rfl|h
  ·exact sq k (j-1) (by lia) (by lia) (by have:=m.hj;lia)
  ·exact m.aq x h k (by lia)
theorem jl {a:Array KW}{i k:Nat}(h0:k<i)(h:i<=a.size):(a.toList.drop (i-(k+1))).take (k+1)=el a (i-(k+1))::(a.toList.drop (i-k)).take k:=by
 rw[pq (by lia),show i-(k+1)+1=i-k by lia,List.take_succ_cons]
theorem Mh.rp (m:Mh c p q t i j)(sp:SR c p 0 p.size):∀(k:Nat),k<=i->(∀x,i-k<=x->x<i->∀y,y<j->le c (el q y) (el p x))->Mh c p q ((p.toList.drop (i-k)).take k++t) (i-k) j
 |0,_,_=>by simpa using m
 |k+1,h,hle=>by
  have m':=Mh.rp m sp k (by lia) λx h1 h2=>hle x (by lia) h2
  rw[jl (by lia) m.hi,List.cons_append]
  exact m'.gH (by lia) sp λy hy=>hle _ (by lia) (by lia) y hy
theorem Mh.rn (m:Mh c p q t i j)(sq:SR c q 0 q.size):∀(k:Nat),k<=j->(∀x,j-k<=x->x<j->∀y,y<i->le c (el p y) (el q x))->Mh c p q ((q.toList.drop (j-k)).take k++t) i (j-k)
 |0,_,_=>by simpa using m
 |k+1,h,hle=>by
  have m':=Mh.rn m sq k (by lia) λx h1 h2=>hle x (by lia) h2
  rw[jl (by lia) m.hj,List.cons_append]
  exact m'.gG (by lia) sq λy hy=>hle _ (by lia) (by lia) y hy
theorem Mh.fu (m:Mh c p q t i j)(sp:SR c p 0 p.size){h:Nat}(hh:h<=i)(hle:∀x,h<=x->x<i->∀y,y<j->le c (el q y) (el p x)):Mh c p q ((p.toList.drop h).take (i-h)++t) h j:=by
 have m':=m.rp sp (i-h) (by lia) λx h1 h2=>hle x (by lia) h2
 rw[show i-(i-h)=h by lia]at m'
 exact m'
theorem Mh.ft (m:Mh c p q t i j)(sq:SR c q 0 q.size){h:Nat}(hh:h<=j)(hle:∀x,h<=x->x<j->∀y,y<i->le c (el p y) (el q x)):Mh c p q ((q.toList.drop h).take (j-h)++t) i h:=by
 have m':=m.rn sq (j-h) (by lia) λx h1 h2=>hle x (by lia) h2
 rw[show j-(j-h)=h by lia]at m'
 exact m'
theorem Mh.full (m:Mh c p q t 0 0):Gd c p q t:=⟨m.perm,m.eP⟩
theorem By (a b to:Array KW)(i j:Nat):(a.extract 0 i++b.extract 0 j++to.reverse).toList=(a.toList.drop 0).take (i-0)++((b.toList.drop 0).take (j-0)++to.toList.reverse):=by
 rw[LZ,LZ,bA,bA,Array.toList_reverse,LQ]
theorem Mh.done {to:Array KW}(m:Mh c p q to.toList.reverse i j)(sp:SR c p 0 p.size)(sq:SR c q 0 q.size)(h:i=0\/j=0):Gd c p q (p.extract 0 i++q.extract 0 j++to.reverse).toList:=by
 rw[By];rcases h with rfl|rfl
 ·have m':=m.ft sq (h:=0) (Lp _) λx _ _ y hy=>by lia
  exact(m'.fu sp (h:=0) (Lp _) λx _ hx=>by lia).full
 ·have m':=m.ft sq (h:=0) (Lp _) λx _ hx=>by lia
  exact(m'.fu sp (h:=0) (Lp _) λx _ hx y hy=>by lia).full
theorem Mh.tail {to:Array KW}(O:bB c)(m:Mh c p q to.toList.reverse i j)(sp:SR c p 0 p.size)(sq:SR c q 0 q.size)(h:j=1)(hf:c (el q 0) (el p 0)=true):Gd c p q (q.extract 0 j++p.extract 0 i++to.reverse).toList:=by
 rw[By];subst h;have m':=m.fu sp (h:=0) (Lp _) λx _ hx y hy=>by
  obtain rfl:y=0:=by lia
  exact O.trans (O.of_lt hf) (sp 0 x (by lia) (by lia) (by have:=m.hi;lia))
 exact(m'.ft sq (h:=0) (Lp _) λx _ _ y hy=>by lia).full
theorem fy (to:Array KW)(x:KW):(to.push x).toList.reverse=x::to.toList.reverse:=by
 rw[Mi,List.reverse_append];rfl
theorem pE (to a:Array KW)(h i:Nat):(to++(a.extract h i).reverse).toList.reverse=(a.toList.drop h).take (i-h)++to.toList.reverse:=by
 rw[LZ,List.reverse_append,Array.toList_reverse,List.reverse_reverse,bA]
theorem Mh.start (sp:SR c p 0 p.size)(O:bB c)(hp:0<p.size)(hl:∀y,y<q.size->c (el q y) (el p (p.size-1))=true):Mh c p q [el p (p.size-1)] (p.size-1) q.size:=by
 have m:Mh c p q [] p.size q.size:=⟨KZ _,KZ _,by rw[NY (by simp),NY (by simp)];exact .refl _,.nil,(λx hx=>by cases hx),(λx hx=>by cases hx)⟩
 exact m.gH hp sp λk hk=>O.of_lt (hl k hk)
end
abbrev RJ:=Nat×Nat×Array KW×Nat×Nat
abbrev RH:=Nat×Nat×Array KW×Nat×Nat×Nat
abbrev RP:=Nat×Nat×Array KW×Nat
def Gp (p q t:Array KW)(i j mg m n:Nat):StateT Lo Sem (ForInStep (Option (Array KW)×RH)):=do
 let z <- elem' p (i-1)
 if (i-1==0)=true then pure (.done (some (p.extract 0 (i-1)++q.extract 0 j++(t.push z).reverse),i-1,j,t.push z,mg,m,n))
 else if (decide (m<7)&&decide (n<7))=true then pure (.done (none,i-1,j,t.push z,mg,m,n)) else pure (.yield (none,i-1,j,t.push z,mg,m,n))
def Gq (p q t:Array KW)(i j mg m n:Nat):StateT Lo Sem (ForInStep (Option (Array KW)×RH)):=do
 let y <- elem' q (j-1)
 if (j-1==1)=true then pure (.done (some (q.extract 0 (j-1)++p.extract 0 i++(t.push y).reverse),i,j-1,t.push y,mg,m,n))
 else do
  let x <- elem' p (i-1)
  let r <- bC true x q 0 (j-1) (j-1-1)
  match r with
  |some h=>if j-1-h>0 then (if (h==1)=true then pure (.done (some (q.extract 0 h++p.extract 0 i++(t.push y++(q.extract h (j-1)).reverse).reverse),i,h,t.push y++(q.extract h (j-1)).reverse,mg,m,j-1-h))
    else if (h==0)=true then pure (.done (some (p.extract 0 i++q.extract 0 h++(t.push y++(q.extract h (j-1)).reverse).reverse),i,h,t.push y++(q.extract h (j-1)).reverse,mg,m,j-1-h))
    else Gp p q (t.push y++(q.extract h (j-1)).reverse) i h mg m (j-1-h)) else Gp p q (t.push y) i (j-1) mg m (j-1-h)
  |_=>pure (.done (some (p.extract 0 i++q.extract 0 (j-1)++(t.push y).reverse),i,j-1,t.push y,mg,m,n))
def CK (p q t:Array KW)(i j mg m n:Nat):StateT Lo Sem (ForInStep (Option (Array KW)×RH)):=do
 modify λst=>bD st mg
 let y <- elem' q (j-1)
 let r <- bC false y p 0 i (i-1)
 match r with
 |some h=>if i-h>0 then (if (h==0)=true then pure (.done (some (p.extract 0 h++q.extract 0 j++(t++(p.extract h i).reverse).reverse),h,j,t++(p.extract h i).reverse,mg,i-h,n))
   else Gq p q (t++(p.extract h i).reverse) h j mg (i-h) n) else Gq p q t i j mg (i-h) n
 |_=>pure (.done (some (p.extract 0 i++q.extract 0 j++t.reverse),i,j,t,mg,m,n))
def JM (p q:Array KW)(s:Option (Array KW)×RH):StateT Lo Sem (ForInStep (Option (Array KW)×RH)):=if s.2.2.2.2.1>1 then CK p q s.2.2.2.1 s.2.1 s.2.2.1 (s.2.2.2.2.1-1) s.2.2.2.2.2.1 s.2.2.2.2.2.2 else CK p q s.2.2.2.1 s.2.1 s.2.2.1 s.2.2.2.2.1 s.2.2.2.2.2.1 s.2.2.2.2.2.2
def Gn (p q t:Array KW)(mg i j m:Nat):StateT Lo Sem (ForInStep (Option (Array KW)×RJ)):=do
 let x <- elem' p (i-1)
 if (i-1==0)=true then pure (.done (some (p.extract 0 (i-1)++q.extract 0 j++(t.push x).reverse),i-1,j,t.push x,m+1,0))
 else if m+1 >= mg then pure (.done (none,i-1,j,t.push x,m+1,0)) else pure (.yield (none,i-1,j,t.push x,m+1,0))
def Gm (p q t:Array KW)(mg i j n:Nat):StateT Lo Sem (ForInStep (Option (Array KW)×RJ)):=do
 let y <- elem' q (j-1)
 if (j-1==1)=true then pure (.done (some (q.extract 0 (j-1)++p.extract 0 i++(t.push y).reverse),i,j-1,t.push y,0,n+1))
 else if n+1 >= mg then pure (.done (none,i,j-1,t.push y,0,n+1)) else pure (.yield (none,i,j-1,t.push y,0,n+1))
def HX (p q t:Array KW)(mg i j m n:Nat):StateT Lo Sem (ForInStep (Option (Array KW)×RJ)):=do
 let y <- elem' q (j-1)
 let x <- elem' p (i-1)
 let r <- lt' y x
 match r with
 |some xW=>if xW=true then Gn p q t mg i j m else Gm p q t mg i j n
 |_=>pure (.done (some (p.extract 0 i++q.extract 0 j++t.reverse),i,j,t,m,n))
def HW (p q:Array KW)(s:Option (Array KW)×RP):StateT Lo Sem (ForInStep (Option (Array KW)×RP)):=do
 let s1 <- forIn [:p.size+q.size] ((none,s.2.1,s.2.2.1,s.2.2.2.1,0,0):Option (Array KW)×RJ) λ_ r=>HX p q r.2.2.2.1 s.2.2.2.2 r.2.1 r.2.2.1 r.2.2.2.2.1 r.2.2.2.2.2
 match s1.1 with
 |some r=>pure (.done (some r,s1.2.1,s1.2.2.1,s1.2.2.2.1,s.2.2.2.2))
 |none=>do
  liftM (rule "list.sort.gallop")
  let s2 <- forIn [:p.size+q.size] ((none,s1.2.1,s1.2.2.1,s1.2.2.2.1,s.2.2.2.2+1,s1.2.2.2.2.1,s1.2.2.2.2.2):Option (Array KW)×RH) λ_ r=>JM p q r
  match s2.1 with
  |some r=>pure (.done (some r,s2.2.1,s2.2.2.1,s2.2.2.2.1,s2.2.2.2.2.1))
  |none=>do
   modify λst=>bD st (s2.2.2.2.2.1+1)
   pure (.yield (none,s2.2.1,s2.2.2.1,s2.2.2.2.1,s2.2.2.2.2.1+1))
theorem lP (p q:Array KW):fH p q=(do
  liftM (rule "list.sort.merge-hi")
  let y <- elem' p (p.size-1)
  if (p.size-1==0)=true then pure (p.extract 0 (p.size-1)++q.extract 0++#[y].reverse)
  else if (q.size==1)=true then pure (q.extract 0++p.extract 0 (p.size-1)++#[y].reverse)
  else do
   let st <- get
   let s <- forIn [:p.size+q.size] ((none,p.size-1,q.size,#[y],gallopOf st):Option (Array KW)×RP) λ_ s=>HW p q s
   match s.1 with
   |some r=>pure r
   |none=>liftM (unsupported "internal:list.sort.merge-bound" : Sem (Array KW))):=by
 rw[lO];dsimp only;refine congrArg (bind _) (funext λ_=>?_);refine congrArg (bind _) (funext λy=>?_);refine congrArg (ite _ _) (congrArg (ite _ _) ?_);refine congrArg (bind _) (funext λy=>?_);refine congr (congrArg bind (congrArg _ (funext λ_=>funext λs=>?_))) (funext λs=>?_)
 ·refine congr (congrArg bind (congrArg _ (funext λ_=>funext λs=>?_))) (funext λs=>?_)
  ·rfl
  ·cases s.1
   ·refine congrArg (bind _) (funext λ_=>?_);refine congr (congrArg bind (congrArg _ (funext λ_=>funext λs=>?_))) (funext λs=>?_)
    ·rfl
    ·cases s.1 <;> rfl
   ·rfl
 ·cases s.1 <;> rfl
section
variable {prog:K3}{w:Lf}{A:LI}{E:KR->KU->Prop}{s:KU}{κ:MN}{c:KW->KW->Bool}{S:KW->Prop}{p q:Array KW}
theorem rf {st:Lo}{Q:ForInStep (Option (Array KW)×RH)->Lo->Prop}{t:Array KW}{i j mg m n:Nat}(sp:SR c p 0 p.size)(sq:SR c q 0 q.size)(m3:Mh c p q t.toList.reverse i j)(hi:0<i)(g3:∀k,k<j->le c (el q k) (el p (i-1)))
  (hd:∀out r,Gd c p q out.toList->Q (.done (some out,r)) st) (hn:∀t' m n,Mh c p q t'.toList.reverse (i-1) j->0<i-1->Q (.done (none,i-1,j,t',mg,m,n)) st/\Q (.yield (none,i-1,j,t',mg,m,n)) st):wpS (model prog w) A E s (Gp p q t i j mg m n) Q st:=by
 have cf:=m3.hi;refine K1 (aD (by lia) ?_)
 have m4:Mh c p q (t.push (el p (i-1))).toList.reverse (i-1) j:=by
  rw[fy];exact m3.gH hi sp g3
 by_cases e5:(i-1==0)=true
 ·rw[if_pos e5];exact K7 (hd _ _ (m4.done sp sq (.inl (by simpa using e5))))
 rw[if_neg e5];have h5:i-1≠0:=by simpa using e5
 obtain⟨h6,h7⟩:=hn (t.push (el p (i-1))) m n m4 (by lia)
 split
 ·exact K7 h6
 ·exact K7 h7
theorem rg {st:Lo}{Q:ForInStep (Option (Array KW)×RH)->Lo->Prop}{t:Array KW}{i j mg m n:Nat}(O:bB c)(L:dG prog w A E s κ c S)(hk:kindOf st=κ)(Sp:∀i,i<p.size->S (el p i))(Sq:∀i,i<q.size->S (el q i))(sp:SR c p 0 p.size)(sq:SR c q 0 q.size)(hf:c (el q 0) (el p 0)=true)(m1:Mh c p q t.toList.reverse i j)(hi:0<i)(hj:1<j)(g1:∀x,x<i->le c (el p x) (el q (j-1)))
  (hd:∀out r,Gd c p q out.toList->Q (.done (some out,r)) st) (hn:∀t' j' m n,Mh c p q t'.toList.reverse (i-1) j'->0<i-1->1<j'->j'<j->Q (.done (none,i-1,j',t',mg,m,n)) st/\Q (.yield (none,i-1,j',t',mg,m,n)) st):wpS (model prog w) A E s (Gq p q t i j mg m n) Q st:=by
 have mi:=m1.hi;have mj:=m1.hj;refine K1 (aD (by lia) ?_)
 have m2:Mh c p q (t.push (el q (j-1))).toList.reverse i (j-1):=by
  rw[fy];exact m1.gG (by lia) sq g1
 by_cases e3:(j-1==1)=true
 ·rw[if_pos e3];exact K7 (hd _ _ (m2.tail O sp sq (by simpa using e3) hf))
 rw[if_neg e3];have h3:j-1≠1:=by simpa using e3
 refine K1 (aD (by lia) (K1 (ck O L hk (Sp _ (by lia)) (λx hx=>Sq _ (by lia)) (by lia) (λa b h1 h2 h3=>sq a b (by lia) h2 (by lia)) (by lia) λh k1 k2 k3=>?_)))
 have g2:∀x,x<h->c (el q x) (el p (i-1))=true:=λx hx=>by
  have:=k2 x hx;unfold cR at this;rw[if_pos rfl,ML]at this;exact this
 have g4:∀x,h<=x->x<j-1->le c (el p (i-1)) (el q x):=λx h1 h2=>by
  have:=k3 x h1 h2;unfold cR at this;rw[if_pos rfl,ML]at this;exact this
 have hh:0<h:=by
  rcases Nat.eq_zero_or_pos h with z|z
  ·subst z;have h2:=O.trans (sp 0 (i-1) (by lia) (by lia) (by lia)) (g4 0 (KZ _) (by lia))
   exact absurd (hf.symm.trans h2) (by simp)
  ·exact z
 dsimp only
 by_cases tH:j-1-h>0
 ·rw[if_pos tH];have m3:Mh c p q (t.push (el q (j-1))++(q.extract h (j-1)).reverse).toList.reverse i h:=by
   rw[pE];exact m2.ft sq k1 λx h1 h2 y hy=>O.trans (sp y (i-1) (by lia) (by lia) (by lia)) (g4 x h1 h2)
  by_cases e4:(h==1)=true
  ·rw[if_pos e4];exact K7 (hd _ _ (m3.tail O sp sq (by simpa using e4) hf))
  rw[if_neg e4];have h4:h≠1:=by simpa using e4
  rw[if_neg (by simp;lia)]
  exact rf sp sq m3 hi (λk hk=>O.of_lt (g2 k hk)) hd λt' m n h1 h2=>hn t' _ m n h1 h2 (by lia) (by lia)
 ·rw[if_neg tH];exact rf sp sq m2 hi (λk hk=>O.of_lt (g2 k (by lia))) hd λt' m n h1 h2=>hn t' _ m n h1 h2 (by lia) (by lia)
theorem xT {st:Lo}{Q:ForInStep (Option (Array KW)×RH)->Lo->Prop}{t:Array KW}{i j mg m n:Nat}(O:bB c)(L:dG prog w A E s κ c S)(hk:kindOf st=κ)(Sp:∀i,i<p.size->S (el p i))(Sq:∀i,i<q.size->S (el q i))(sp:SR c p 0 p.size)(sq:SR c q 0 q.size)(hf:c (el q 0) (el p 0)=true)(m0:Mh c p q t.toList.reverse i j)(hi:0<i)(hj:1<j)
  (hd:∀out r,Gd c p q out.toList->Q (.done (some out,r)) (bD st mg)) (hn:∀t' i' j' m n,Mh c p q t'.toList.reverse i' j'->0<i'->1<j'->i'+j'<i+j->Q (.done (none,i',j',t',mg,m,n)) (bD st mg)/\Q (.yield (none,i',j',t',mg,m,n)) (bD st mg)):wpS (model prog w) A E s (CK p q t i j mg m n) Q st:=by
 have mi:=m0.hi;have mj:=m0.hj;refine K1 (ME (K1 (aD (by lia) (K1 (ck O L hk (Sq _ (by lia)) (λx hx=>Sp _ (by lia)) (by lia) (λa b h1 h2 h3=>sp a b (by lia) h2 (by lia)) (by lia) λh k1 k2 k3=>?_)))))
 have g0:∀x,x<h->le c (el p x) (el q (j-1)):=λx hx=>by
  have:=k2 x hx;unfold cR at this;rw[if_neg (by simp),M3,ML]at this
  exact this
 have g5:∀x,h<=x->x<i->le c (el q (j-1)) (el p x):=λx h1 h2=>by
  have:=k3 x h1 h2;unfold cR at this;rw[if_neg (by simp),Nt,ML]at this
  exact O.of_lt this
 dsimp only
 by_cases tH:i-h>0
 ·rw[if_pos tH];have m1:Mh c p q (t++(p.extract h i).reverse).toList.reverse h j:=by
   rw[pE];exact m0.fu sp k1 λx h1 h2 y hy=>O.trans (sq y (j-1) (by lia) (by lia) (by lia)) (g5 x h1 h2)
  by_cases e1:(h==0)=true
  ·rw[if_pos e1];exact K7 (hd _ _ (m1.done sp sq (.inl (by simpa using e1))))
  rw[if_neg e1];have vW:h≠0:=by simpa using e1
  exact rg O L hk Sp Sq sp sq hf m1 (by lia) hj g0 hd λt' j' m n h1 h2 h3 h4=>hn t' _ j' m n h1 h2 h3 (by lia)
 ·rw[if_neg tH];exact rg O L hk Sp Sq sp sq hf m0 hi hj (λx hx=>g0 x (by lia)) hd λt' j' m n h1 h2 h3 h4=>hn t' _ j' m n h1 h2 h3 (by lia)
theorem xS {st:Lo}{Q:ForInStep (Option (Array KW)×RJ)->Lo->Prop}{t:Array KW}{i j mg ma na:Nat}(O:bB c)(L:dG prog w A E s κ c S)(hk:kindOf st=κ)(Sp:∀i,i<p.size->S (el p i))(Sq:∀i,i<q.size->S (el q i))(sp:SR c p 0 p.size)(sq:SR c q 0 q.size)(hf:c (el q 0) (el p 0)=true)(m:Mh c p q t.toList.reverse i j)(hi:0<i)(hj:1<j)
  (hd:∀out r,Gd c p q out.toList->Q (.done (some out,r)) st) (hn:∀t' i' j' m n,Mh c p q t'.toList.reverse i' j'->0<i'->1<j'->i'+j'<i+j->Q (.done (none,i',j',t',m,n)) st/\Q (.yield (none,i',j',t',m,n)) st):wpS (model prog w) A E s (HX p q t mg i j ma na) Q st:=by
 have cf:=m.hi;have KJ:=m.hj;refine K1 (aD (by lia) (K1 (aD (by lia) (K1 (L _ _ st _ (Sq _ (by lia)) (Sp _ (by lia)) hk ?_)))))
 dsimp only;cases hc:c (el q (j-1)) (el p (i-1))with
 |true =>
  rw[if_pos rfl];refine K1 (aD (by lia) ?_)
  have m1:Mh c p q (t.push (el p (i-1))).toList.reverse (i-1) j:=by
   rw[fy];exact m.gH hi sp λk hk=>O.trans (sq k (j-1) (by lia) (by lia) (by lia)) (O.of_lt hc)
  by_cases e3:(i-1==0)=true
  ·rw[if_pos e3];exact K7 (hd _ _ (m1.done sp sq (.inl (by simpa using e3))))
  rw[if_neg e3];have h3:i-1≠0:=by simpa using e3
  obtain⟨h6,h7⟩:=hn _ _ _ (ma+1) 0 m1 (by lia) hj (by lia)
  split
  ·exact K7 h6
  ·exact K7 h7
 |false =>
  rw[if_neg (by simp)]
  refine K1 (aD (by lia) ?_)
  have m1:Mh c p q (t.push (el q (j-1))).toList.reverse i (j-1):=by
   rw[fy];exact m.gG (by lia) sq λk hk=>O.trans (sp k (i-1) (by lia) (by lia) (by lia)) (show le c (el p (i-1)) (el q (j-1)) from hc)
  by_cases e3:(j-1==1)=true
  ·rw[if_pos e3];exact K7 (hd _ _ (m1.tail O sp sq (by simpa using e3) hf))
  rw[if_neg e3];have h3:j-1≠1:=by simpa using e3
  obtain⟨h6,h7⟩:=hn _ _ _ 0 (na+1) m1 hi (by lia) (by lia)
  split
  ·exact K7 h6
  ·exact K7 h7
theorem m6 (O:bB c)(L:dG prog w A E s κ c S){Q:Array KW->Lo->Prop}{st:Lo}(hk:kindOf st=κ)(Sp:∀i,i<p.size->S (el p i))(Sq:∀i,i<q.size->S (el q i))(sp:SR c p 0 p.size)(sq:SR c q 0 q.size)
  (hp:0<p.size) (hq:0<q.size) (hf:c (el q 0) (el p 0)=true) (hl:∀y,y<q.size->c (el q y) (el p (p.size-1))=true) (h:∀to ak,gB st ak->Gd c p q to.toList->Q to ak) :
  wpS (model prog w) A E s (fH p q) Q st:=by
 rw[lP];refine K1 (N_ (M4 ⟨rfl,?_⟩));refine K1 (aD (by lia) ?_)
 have m0:Mh c p q (#[el p (p.size-1)]:Array KW).toList.reverse (p.size-1) q.size:=Mh.start sp O hp hl
 by_cases h1:(p.size-1==0)=true
 ·rw[if_pos h1];exact K7 (h _ st (gB.refl st) (m0.done sp sq (.inl (by simpa using h1))))
 rw[if_neg h1];have vW:p.size-1≠0:=by simpa using h1
 by_cases h2:(q.size==1)=true
 ·rw[if_pos h2];exact K7 (h _ st (gB.refl st) (m0.tail O sp sq (by simpa using h2) hf))
 rw[if_neg h2];have tL:q.size≠1:=by simpa using h2
 refine K1 (Nx ?_);refine K1 (Mb (LK
  (I:=λx r ak=>gB st ak/\∃i j to mg,r=(none,i,j,to,mg)/\Mh c p q to.toList.reverse i j/\0<i/\1<j/\i+j+x<p.size+q.size)
  (Q:=λr ak=>gB st ak/\∃out r',r=(some out,r')/\Gd c p q out.toList) ?_ ?_ ?_) ?_)
 ·rintro x r ak _ hx ⟨e,i,j,to,mg,rfl,m,hi,hj,hb⟩;unfold HW;dsimp only;refine K1 (Mb (LK
   (I:=λy r ak=>gB st ak/\∃i j to m n,r=(none,i,j,to,m,n)/\Mh c p q to.toList.reverse i j/\0<i/\1<j/\i+j+x+min y 1<p.size+q.size)
   (Q:=λr ak=>gB st ak/\((∃out r',r=(some out,r')/\Gd c p q out.toList)\/∃i j to m n,r=(none,i,j,to,m,n)/\Mh c p q to.toList.reverse i j/\0<i/\1<j/\i+j+x+1<p.size+q.size)) ?_ ?_ ?_) ?_)
  ·rintro y r di _ hy ⟨e2,i,j,to,ma,na,rfl,m,hi,hj,hb⟩;exact xS O L (e2.kind.trans hk) Sp Sq sp sq hf m hi hj (λout r h=>⟨e2,.inl ⟨_,_,rfl,h⟩⟩) λt' i' j' m n h1 h2 h3 h4=>⟨⟨e2,.inr ⟨_,_,_,_,_,rfl,h1,h2,h3,by lia⟩⟩,⟨e2,_,_,_,_,_,rfl,h1,h2,h3,by lia⟩⟩
  ·rintro r di ⟨e2,i,j,to,ma,na,rfl,m,hi,hj,hb⟩;exact⟨e2,.inr ⟨_,_,_,_,_,rfl,m,hi,hj,by lia⟩⟩
  ·exact⟨e,_,_,_,_,_,rfl,m,hi,hj,by lia⟩
  rintro r di ⟨e2,⟨out,r',rfl,g⟩|⟨i,j,to,ma,na,rfl,m,hi,hj,hb⟩⟩
  ·exact K7 ⟨e2,_,_,rfl,g⟩
  dsimp only;refine K1 (N_ (M4 ⟨rfl,?_⟩));refine K1 (Mb (LK
   (I:=λy r ak=>gB st ak/\∃i j to mg m n,r=(none,i,j,to,mg,m,n)/\Mh c p q to.toList.reverse i j/\0<i/\1<j/\i+j+x+1<p.size+q.size)
   (Q:=λr ak=>gB st ak/\((∃out r',r=(some out,r')/\Gd c p q out.toList)\/∃i j to mg m n,r=(none,i,j,to,mg,m,n)/\Mh c p q to.toList.reverse i j/\0<i/\1<j/\i+j+x+1<p.size+q.size)) ?_ ?_ ?_) ?_)
  ·rintro y r di _ hy ⟨e2,i,j,to,mg,ma,na,rfl,m,hi,hj,hb⟩;show wpS (model prog w) A E s (if mg>1 then CK p q to i j (mg-1) ma na else CK p q to i j mg ma na) _ di
   split <;> exact xT O L (e2.kind.trans hk) Sp Sq sp sq hf m hi hj (λout r h=>⟨e2.xl _,.inl ⟨_,_,rfl,h⟩⟩) λt' i' j' m n h1 h2 h3 h4=>⟨⟨e2.xl _,.inr ⟨_,_,_,_,_,_,rfl,h1,h2,h3,by lia⟩⟩,⟨e2.xl _,_,_,_,_,_,_,rfl,h1,h2,h3,by lia⟩⟩
  ·rintro r di ⟨e2,i,j,to,mg,ma,na,rfl,m,hi,hj,hb⟩;exact⟨e2,.inr ⟨_,_,_,_,_,_,rfl,m,hi,hj,hb⟩⟩
  ·exact⟨e2,_,_,_,_,_,_,rfl,m,hi,hj,hb⟩
  rintro r di ⟨e2,⟨out,r',rfl,g⟩|⟨i,j,to,mg,ma,na,rfl,m,hi,hj,hb⟩⟩
  ·exact K7 ⟨e2,_,_,rfl,g⟩
  dsimp only;refine K1 (ME (K7 ⟨e2.xl _,_,_,_,_,rfl,m,hi,hj,by lia⟩))
 ·rintro r ak ⟨e,i,j,to,mg,rfl,m,hi,hj,hb⟩
  exfalso
  rw[show max 0 (p.size+q.size)=p.size+q.size by lia]at hb
  lia
 ·exact⟨gB.refl st,_,_,_,_,rfl,m0,by lia,by lia,by lia⟩
 ·rintro r ak ⟨e,out,r',rfl,g⟩;exact K7 (h _ ak e g)
end
section
variable {c:KW->KW->Bool}{a b:Array KW}
structure Rg (a b:Array KW)(lo hi:Nat):Prop where
 perm:b.Perm a
 out:∀k,(k<lo\/hi<=k)->el b k=el a k
theorem Rg.refl {lo hi:Nat}:Rg a a lo hi:=⟨OP _,λ_ _=>rfl⟩
theorem Rg.trans {d:Array KW}{lo hi:Nat}(x:Rg a b lo hi)(y:Rg b d lo hi):Rg a d lo hi:=⟨y.perm.trans x.perm,λk h=>(y.out k h).trans (x.out k h)⟩
theorem Rg.mono {lo hi w5 cf:Nat}(x:Rg a b lo hi)(h1:w5<=lo)(h2:hi<=cf):Rg a b w5 cf:=⟨x.perm,λk h=>x.out k (by lia)⟩
theorem Rg.size {lo hi:Nat}(x:Rg a b lo hi):b.size=a.size:=x.perm.size_eq
theorem SR.congr {lo hi:Nat}(h:SR c a lo hi)(e:∀k,lo<=k->k<hi->el b k=el a k):SR c b lo hi:=λi j h1 h2 h3=>by
 rw[e i h1 (by lia),e j (by lia) h3]
 exact h i j h1 h2 h3
def NI (c:KW->KW->Bool)(a:Array KW)(lo hi:Nat):Prop:=∀i j,lo<=i->i<=j->j<hi->le c (el a j) (el a i)
theorem br {i j:Nat}(hj:j<=a.size)(k:Nat):el (mirror a i j ((j-i) / 2)) k=if i<=k/\k<j then el a (i+j-1-k) else el a k:=by
 have e:=getElem?_mirror_all (i:=i) hj k
 by_cases h:i<=k/\k<j
 ·rw[if_pos h]at e ⊢
  exact cP e
 ·rw[if_neg h]at e ⊢
  exact cP e
theorem da {i j:Nat}(hj:j<=a.size):Rg a (mirror a i j ((j-i) / 2)) i j:=⟨mirror_perm _ _ _ _,λk h=>by rw[br hj,if_neg (by lia)]⟩
theorem jx {i j:Nat}(hj:j<=a.size)(h:NI c a i j):SR c (mirror a i j ((j-i) / 2)) i j:=λx y h1 h2 h3=>by
 rw[br hj,br hj,if_pos (by lia),if_pos (by lia)]
 exact h _ _ (by lia) (by lia) (by lia)
theorem gg {lo i j:Nat}(DO:lo<=i)(hj:j<=a.size)(h:NI c a lo j)(he:∀x y,i<=x->x<j->i<=y->y<j->le c (el a x) (el a y)):NI c (mirror a i j ((j-i) / 2)) lo j:=λx y h1 h2 h3=>by
 rw[br hj,br hj]
 by_cases hx:i<=x/\x<j
 ·rw[if_pos hx,if_pos (by lia)]
  exact he _ _ (by lia) (by lia) (by lia) (by lia)
 ·rw[if_neg hx]
  by_cases hy:i<=y/\y<j
  ·rw[if_pos hy];exact h _ _ (by lia) (by lia) (by lia)
  ·rw[if_neg hy];exact h _ _ h1 h2 h3
theorem SR.snoc {lo n:Nat}(O:bB c)(h:SR c a lo (lo+n))(h1:0<n)(hn:le c (el a (lo+n-1)) (el a (lo+n))):SR c a lo (lo+(n+1)):=λi j h2 h3 h4=>by
 by_cases hj:j<lo+n
 ·exact h i j h2 h3 hj
 ·obtain rfl:j=lo+n:=by lia
  by_cases hi:i<lo+n
  ·exact O.trans (h i (lo+n-1) h2 (by lia) (by lia)) hn
  ·obtain rfl:i=lo+n:=by lia
   exact O.refl _
theorem NI.snoc {lo n:Nat}(O:bB c)(h:NI c a lo (lo+n))(h1:0<n)(hn:le c (el a (lo+n)) (el a (lo+n-1))):NI c a lo (lo+(n+1)):=λi j h2 h3 h4=>by
 by_cases hj:j<lo+n
 ·exact h i j h2 h3 hj
 ·obtain rfl:j=lo+n:=by lia
  by_cases hi:i<lo+n
  ·exact O.trans hn (h i (lo+n-1) h2 (by lia) (by lia))
  ·obtain rfl:i=lo+n:=by lia
   exact O.refl _
theorem SR.one {lo:Nat}(O:bB c):SR c a lo (lo+1):=λi j h1 h2 h3=>by
 obtain rfl:i=j:=by lia
 exact O.refl _
end
structure gz (κ:MN)(a₀:Array KW)(st:Lo):Prop where
 kind:kindOf st=κ
 fail:MT st=none
 perm:(Ls st).Perm a₀
section
variable {prog:K3}{w:Lf}{A:LI}{E:KR->KU->Prop}{s:KU}{κ:MN}{c:KW->KW->Bool}{a₀:Array KW}
theorem gz.size {st:Lo}(h:gz κ a₀ st):(Ls st).size=a₀.size:=h.perm.size_eq
theorem gz.mem {st:Lo}(h:gz κ a₀ st){i:Nat}(hi:i<a₀.size):el (Ls st) i∈a₀.toList:=by
 have h1:i<(Ls st).size:=by rw[h.size];exact hi
 refine(MJ.mp h.perm).mem_iff.mp ?_;have:=fP h1;rw[<- Lb]at this;exact LR this
theorem gz.set {st:Lo}{b:Array KW}{lo hi:Nat}(h:gz κ a₀ st)(r:Rg (Ls st) b lo hi):gz κ a₀ (LS st b):=⟨h.kind,h.fail,r.perm.trans h.perm⟩
theorem jX (L:dG prog w A E s κ c (·∈a₀.toList)){st:Lo}{i j:Nat}{Q:Option Bool->Lo->Prop}(h:gz κ a₀ st)(hi:i<a₀.size)(hj:j<a₀.size)(q:Q (some (c (el (Ls st) i) (el (Ls st) j))) st):
  wpS (model prog w) A E s (ltAt' i j) Q st:=by
 rw[ltAt'_eq];refine K1 (Nx ?_);exact K1 (aD (by rw[h.size];exact hi) (K1 (aD (by rw[h.size];exact hj) (L _ _ st Q (h.mem hi) (h.mem hj) h.kind q))))
theorem fk (L:dG prog w A E s κ c (·∈a₀.toList)){st:Lo}{b:Array KW}{i j lo hi:Nat}{Q:Option Bool->Lo->Prop}(h:gz κ a₀ st)(R:Rg (Ls st) b lo hi)(hi:i<a₀.size)(hj:j<a₀.size)(q:Q (some (c (el b i) (el b j))) (LS st b)):
  wpS (model prog w) A E s (ltAt' i j) Q (LS st b):=jX L (h.set R) hi hj q
theorem fh {st:Lo}{i j:Nat}{Q:Unit->Lo->Prop}(q:Q () (LS st (mirror (Ls st) i j ((j-i) / 2)))):wpS (model prog w) A E s (reverseSlice' i j) Q st:=by
 rw[reverseSlice'_eq];exact ME q
theorem rh (O:bB c)(L:dG prog w A E s κ c (·∈a₀.toList)){st:Lo}{lo c_:Nat}{Q:Option Nat->Lo->Prop}(h0:gz κ a₀ st)(h1:1<=c_)(hn:lo+c_<=a₀.size)
  (h:∀n b,1<=n->n<=c_->Rg (Ls st) b lo (lo+c_)->SR c b lo (lo+n)->Q (some n) (LS st b)):wpS (model prog w) A E s (countRun' lo c_) Q st:=by
 rw[countRun'_eq];dsimp only;refine K1 (Mb (LK (I:=λx r ak=>ak=st/\∃n,r=(none,n)/\n=x/\SR c (Ls st) lo (lo+n))
  (Q:=λr ak=>ak=st/\∃n,r=(none,n)/\1<=n/\n<=c_/\SR c (Ls st) lo (lo+n)/\(n=c_\/(n<c_/\c (el (Ls st) (lo+n)) (el (Ls st) (lo+n-1))=true))) ?_ ?_ ?_) ?_)
 ·rintro x r ak uB hx ⟨rfl,n,rfl,rfl,hs⟩;dsimp only;refine K1 (jX L h0 (by lia) (by lia) ?_)
  dsimp only;cases hc:c (el (Ls ak) (lo+n)) (el (Ls ak) (lo+n-1))with
  |true =>
   rw[if_pos rfl];exact K7 ⟨rfl,n,rfl,uB,by lia,hs,.inr ⟨by lia,hc⟩⟩
  |false =>
   rw[if_neg (by simp)]
   exact K7 ⟨rfl,n+1,rfl,rfl,hs.snoc O uB hc⟩
 ·rintro r ak ⟨rfl,n,rfl,hx,hs⟩;exact⟨rfl,n,rfl,by lia,by lia,hs,.inl (by lia)⟩
 ·exact⟨rfl,1,rfl,rfl,SR.one O⟩
 rintro r ak ⟨e0,n,rfl,HP,DM,hs,hc⟩;rw[e0];dsimp only
 by_cases F8:(n==c_)=true
 ·rw[if_pos F8];exact K7 (h n (Ls st) HP DM Rg.refl hs)
 rw[if_neg F8];have JC:n≠c_:=by simpa using F8
 have hc:c (el (Ls st) (lo+n)) (el (Ls st) (lo+n-1))=true:=by
  rcases hc with q|q
  ·lia
  ·exact q.2
 refine(λ(key:∀b,Rg (Ls st) b lo (lo+c_)->NI c b lo (lo+(n+1))->wpS (model prog w) A E s ?cont Q (LS st b))=>?main) ?key
 case main =>
  by_cases h2:n>1
  ·rw[if_pos h2];refine K1 (jX L h0 (by lia) (by lia) ?_)
   dsimp only;cases hr:c (el (Ls st) lo) (el (Ls st) (lo+n-1))with
   |true =>
    rw[if_pos rfl];exact K7 (h n (Ls st) HP DM Rg.refl hs)
   |false =>
    rw[if_neg (by simp)]
    refine K1 (fh ?_);have hz:lo+n<=(Ls st).size:=by have:=h0.size;lia
    have R0:Rg (Ls st) (mirror (Ls st) lo (lo+n) ((lo+n-lo) / 2)) lo (lo+c_):=(da hz).mono (KZ _) (by lia)
    have all:∀u v,lo<=u->u<lo+n->lo<=v->v<lo+n->le c (el (Ls st) u) (el (Ls st) v):=λu v h1 h2 h3 h4 =>
     O.trans (hs u (lo+n-1) h1 (by lia) (by lia)) (O.trans hr (hs lo v (KZ _) h3 h4))
    have N0:NI c (mirror (Ls st) lo (lo+n) ((lo+n-lo) / 2)) lo (lo+(n+1)):=by
     refine NI.snoc O (gg (KZ _) hz (λu v h1 h2 h3=>all v u (by lia) (by lia) h1 (by lia)) λu v h1 h2 h3 h4=>all u v h1 h2 h3 h4) (by lia) ?_
     rw[br hz,br hz,if_neg (by lia),if_pos (by lia)]
     exact O.trans (O.of_lt hc) (all _ _ (by lia) (by lia) (by lia) (by lia))
    exact key _ R0 N0
  ·rw[if_neg h2];have N0:NI c (Ls st) lo (lo+(n+1)):=NI.snoc O (λu v h1 h2 h3=>by
    obtain rfl:u=v:=by lia
    exact O.refl _) (by lia) (O.of_lt hc)
   show wpS _ _ _ _ _ Q (LS st (Ls st));exact key _ Rg.refl N0
 case key =>
  intro b0 R0 N0;refine K1 (N_ (M4 ⟨rfl,?_⟩));refine K1 (Mb (LK (I:=λx r ak=>∃b n gJ,ak=LS st b/\r=(none,n,gJ)/\n=x/\Rg (Ls st) b lo (lo+c_)/\NI c b lo (lo+n)/\gJ<n/\(∀u v,lo+n-1-gJ<=u->u<lo+n->lo+n-1-gJ<=v->v<lo+n->le c (el b u) (el b v)))
   (Q:=λr ak=>∃b n gJ,ak=LS st b/\r=(none,n,gJ)/\1<=n/\n<=c_/\Rg (Ls st) b lo (lo+c_)/\NI c b lo (lo+n)/\gJ<n/\(∀u v,lo+n-1-gJ<=u->u<lo+n->lo+n-1-gJ<=v->v<lo+n->le c (el b u) (el b v))) ?_ ?_ ?_) ?_)
  ·rintro x r ak uB hx ⟨b,n',gJ,rfl,rfl,rfl,R,N,hq,he⟩;dsimp only;refine K1 (fk L h0 R (by lia) (by lia) ?_)
   dsimp only;cases kL:c (el b (lo+n')) (el b (lo+n' - 1))with
   |true =>
    rw[if_pos rfl]
    by_cases tF:gJ>0
    ·rw[if_pos tF];refine K1 (fh (K7 ?_));have hz:lo+n'<=b.size:=by have:=R.size;have:=h0.size;lia
     refine⟨mirror b (lo+n' - (gJ+1)) (lo+n') ((lo+n' - (lo+n' - (gJ+1))) / 2),n'+1,0,rfl,rfl,rfl,R.trans ((da hz).mono (by lia) (by lia)),?_,by lia,?_⟩
     ·refine NI.snoc O (gg (by lia) hz N λu v h1 h2 h3 h4=>he u v (by lia) h2 (by lia) h4) (by lia) ?_
      rw[br hz,br hz,if_neg (by lia),if_pos (by lia)]
      exact O.trans (O.of_lt kL) (he _ _ (by lia) (by lia) (by lia) (by lia))
     ·intro u v h1 h2 h3 h4;obtain rfl:u=v:=by lia
      exact O.refl _
    ·rw[if_neg tF];refine K7 ⟨b,n'+1,0,rfl,rfl,rfl,R,N.snoc O (by lia) (O.of_lt kL),by lia,?_⟩
     intro u v h1 h2 h3 h4;obtain rfl:u=v:=by lia
     exact O.refl _
   |false =>
    rw[if_neg (by simp)]
    refine K1 (fk L h0 R (by lia) (by lia) ?_)
    dsimp only;cases l6:c (el b (lo+n' - 1)) (el b (lo+n'))with
    |true =>
     rw[if_pos rfl];exact K7 ⟨b,n',gJ,rfl,rfl,by lia,by lia,R,N,hq,he⟩
    |false =>
     rw[if_neg (by simp)]
     refine K7 ⟨b,n'+1,gJ+1,rfl,rfl,rfl,R,N.snoc O (by lia) l6,by lia,?_⟩
     have hl:∀u,lo+n' - 1-gJ<=u->u<lo+(n'+1)->le c (el b u) (el b (lo+n'))/\le c (el b (lo+n')) (el b u):=λu h1 h2=>by
      by_cases hu:u<lo+n'
      ·exact⟨O.trans (he u (lo+n' - 1) h1 hu (by lia) (by lia)) kL,O.trans l6 (he (lo+n' - 1) u (by lia) (by lia) h1 hu)⟩
      ·obtain rfl:u=lo+n':=by lia
       exact⟨O.refl _,O.refl _⟩
     intro u v h1 h2 h3 h4;exact O.trans (hl u (by lia) h2).1 (hl v (by lia) h4).2
  ·rintro r ak ⟨b,n',gJ,rfl,rfl,hx,R,N,hq,he⟩;exact⟨b,n',gJ,rfl,rfl,by lia,by lia,R,N,hq,he⟩
  ·refine⟨_,n+1,0,rfl,rfl,rfl,R0,N0,by lia,?_⟩
   intro u v h1 h2 h3 h4;obtain rfl:u=v:=by lia
   exact O.refl _
  rintro r ak ⟨b,n',gJ,rfl,rfl,JG,JF,RB,NB,hq,he⟩;dsimp only
  by_cases tF:gJ>0
  ·rw[if_pos tF];refine K1 (fh ?_);have hz:lo+n'<=b.size:=by have:=RB.size;have:=h0.size;lia
   have NB:=gg (c:=c) (i:=lo+n' - (gJ+1)) (by lia) hz NB λu v h1 h2 h3 h4=>he u v (by lia) h2 (by lia) h4
   have RB:=RB.trans ((da (i:=lo+n' - (gJ+1)) hz).mono (by lia) (by lia:lo+n'<=lo+c_))
   show wpS _ _ _ _ _ Q (LS st (mirror b (lo+n' - (gJ+1)) (lo+n') ((lo+n' - (lo+n' - (gJ+1))) / 2)));generalize mirror b (lo+n' - (gJ+1)) (lo+n') ((lo+n' - (lo+n' - (gJ+1))) / 2)=b1 at NB RB;refine K1 (fh ?_);have R2:Rg (Ls st) (mirror b1 lo (lo+n') ((lo+n' - lo) / 2)) lo (lo+c_):=RB.trans ((da (by have:=RB.size;have:=h0.size;lia)).mono (KZ _) (by lia))
   have S2:SR c (mirror b1 lo (lo+n') ((lo+n' - lo) / 2)) lo (lo+n'):=jx (by have:=RB.size;have:=h0.size;lia) NB
   show wpS _ _ _ _ _ Q (LS st (mirror b1 lo (lo+n') ((lo+n' - lo) / 2)));generalize mirror b1 lo (lo+n') ((lo+n' - lo) / 2)=b2 at R2 S2;refine K1 (Mb (LK (I:=λx r ak=>ak=LS st b2/\∃m,r=(none,m)/\m=x/\SR c b2 lo (lo+m))
    (Q:=λr ak=>ak=LS st b2/\∃m,r=(none,m)/\1<=m/\m<=c_/\SR c b2 lo (lo+m)) ?_ ?_ ?_) ?_)
   ·rintro x r ak uB hx ⟨rfl,m,rfl,rfl,hs⟩;dsimp only;refine K1 (fk L h0 R2 (by lia) (by lia) ?_)
    dsimp only;cases hc:c (el b2 (lo+m)) (el b2 (lo+m-1))with
    |true =>
     rw[if_pos rfl];exact K7 ⟨rfl,m,rfl,by lia,by lia,hs⟩
    |false =>
     rw[if_neg (by simp)]
     exact K7 ⟨rfl,m+1,rfl,rfl,hs.snoc O (by lia) hc⟩
   ·rintro r ak ⟨rfl,m,rfl,hx,hs⟩;exact⟨rfl,m,rfl,by lia,by lia,hs⟩
   ·exact⟨rfl,n',rfl,rfl,S2⟩
   rintro r ak ⟨rfl,m,rfl,Gb,Ga,hs⟩;exact K7 (h m b2 Gb Ga R2 hs)
  ·rw[if_neg tF];refine K1 (fh ?_);have R2:Rg (Ls st) (mirror b lo (lo+n') ((lo+n' - lo) / 2)) lo (lo+c_):=RB.trans ((da (by have:=RB.size;have:=h0.size;lia)).mono (KZ _) (by lia))
   have S2:SR c (mirror b lo (lo+n') ((lo+n' - lo) / 2)) lo (lo+n'):=jx (by have:=RB.size;have:=h0.size;lia) NB
   show wpS _ _ _ _ _ Q (LS st (mirror b lo (lo+n') ((lo+n' - lo) / 2)));generalize mirror b lo (lo+n') ((lo+n' - lo) / 2)=b2 at R2 S2;refine K1 (Mb (LK (I:=λx r ak=>ak=LS st b2/\∃m,r=(none,m)/\m=x/\SR c b2 lo (lo+m))
    (Q:=λr ak=>ak=LS st b2/\∃m,r=(none,m)/\1<=m/\m<=c_/\SR c b2 lo (lo+m)) ?_ ?_ ?_) ?_)
   ·rintro x r ak uB hx ⟨rfl,m,rfl,rfl,hs⟩;dsimp only;refine K1 (fk L h0 R2 (by lia) (by lia) ?_)
    dsimp only;cases hc:c (el b2 (lo+m)) (el b2 (lo+m-1))with
    |true =>
     rw[if_pos rfl];exact K7 ⟨rfl,m,rfl,by lia,by lia,hs⟩
    |false =>
     rw[if_neg (by simp)]
     exact K7 ⟨rfl,m+1,rfl,rfl,hs.snoc O (by lia) hc⟩
   ·rintro r ak ⟨rfl,m,rfl,hx,hs⟩;exact⟨rfl,m,rfl,by lia,by lia,hs⟩
   ·exact⟨rfl,n',rfl,rfl,S2⟩
   rintro r ak ⟨rfl,m,rfl,Gb,Ga,hs⟩;exact K7 (h m b2 Gb Ga R2 hs)
end
section
variable {c:KW->KW->Bool}{a:Array KW}
theorem gu {src d:Nat}(hs:src<a.size)(hd:d<=src)(k:Nat):el (bubble a src d) k=if k=src-d then el a src else if src-d<k/\k<=src then el a (k-1) else el a k:=by
 have e:=getElem?_bubble hs d hd k
 by_cases h1:k=src-d
 ·rw[if_pos h1]at e ⊢
  exact cP e
 ·rw[if_neg h1]at e ⊢
  by_cases h2:src-d<k/\k<=src
  ·rw[if_pos h2]at e ⊢
   exact cP e
  ·rw[if_neg h2]at e ⊢
   exact cP e
theorem qN {lo k l:Nat}(O:bB c)(hk:lo+k<a.size)(hl:l<=k)(h:SR c a lo (lo+k))(h1:∀i,i<l->le c (el a (lo+i)) (el a (lo+k)))(h2:∀i,l<=i->i<k->le c (el a (lo+k)) (el a (lo+i))):
  SR c (bubble a (lo+k) (lo+k-(lo+l))) lo (lo+(k+1)):=λi j g1 g2 g3=>by
 rw[gu hk (by lia),gu hk (by lia),show lo+k-(lo+k-(lo+l))=lo+l by lia]
 have q1:∀i,lo<=i->i<lo+l->le c (el a i) (el a (lo+k)):=λi x y=>by
  have:=h1 (i-lo) (by lia)
  rwa [show lo+(i-lo)=i by lia]at this
 have q2:∀i,lo+l<=i->i<lo+k->le c (el a (lo+k)) (el a i):=λi x y=>by
  have:=h2 (i-lo) (by lia) (by lia)
  rwa [show lo+(i-lo)=i by lia]at this
 by_cases ei:i=lo+l
 ·rw[if_pos ei]
  by_cases ej:j=lo+l
  ·rw[if_pos ej];exact O.refl _
  ·rw[if_neg ej,if_pos (by lia)]
   exact q2 _ (by lia) (by lia)
 ·rw[if_neg ei]
  by_cases ej:j=lo+l
  ·rw[if_pos ej,if_neg (by lia)]
   exact q1 _ (by lia) (by lia)
  ·rw[if_neg ej]
   by_cases fi:lo+l<i/\i<=lo+k
   ·rw[if_pos fi,if_pos (by lia)]
    exact h _ _ (by lia) (by lia) (by lia)
   ·rw[if_neg fi]
    by_cases fj:lo+l<j/\j<=lo+k
    ·rw[if_pos fj];exact h _ _ (by lia) (by lia) (by lia)
    ·rw[if_neg fj];exact h _ _ (by lia) (by lia) (by lia)
theorem qO {src d:Nat}(hs:src<a.size)(hd:d<=src):Rg a (bubble a src d) (src-d) (src+1):=⟨bubble_perm _ _ _,λk h=>by
 rw[gu hs hd,if_neg (by lia),if_neg (by lia)]⟩
end
section
variable {prog:K3}{w:Lf}{A:LI}{E:KR->KU->Prop}{s:KU}{κ:MN}{c:KW->KW->Bool}{a₀:Array KW}
theorem xV (O:bB c)(L:dG prog w A E s κ c (·∈a₀.toList)){st:Lo}{lo n ok:Nat}{Q:Bool->Lo->Prop}(h0:gz κ a₀ st)(a_:ok<=n)(h1:1<=n)(hn:lo+n<=a₀.size)(hs:SR c (Ls st) lo (lo+ok))
  (h:∀b,Rg (Ls st) b lo (lo+n)->SR c b lo (lo+n)->Q true (LS st b)):wpS (model prog w) A E s (binarySort' lo n ok) Q st:=by
 rw[binarySort'_eq];refine K1 (Mb (LK (I:=λk r ak=>r=(none,())/\k<=n/\∃b,ak=LS st b/\Rg (Ls st) b lo (lo+n)/\SR c b lo (lo+k))
  (Q:=λr ak=>r=(none,())/\∃b,ak=LS st b/\Rg (Ls st) b lo (lo+n)/\SR c b lo (lo+n)) ?_ ?_ ?_) ?_)
 ·rintro k r ak AE hk ⟨rfl,_,b,rfl,R,qq⟩;dsimp only;have hz:b.size=a₀.size:=R.size.trans h0.size;refine K1 (Mb (LK (I:=λx r ak=>ak=LS st b/\∃l u,r=(none,l,u)/\l<=u/\u<=k/\u-l<=k-x/\(∀i,i<l->le c (el b (lo+i)) (el b (lo+k)))/\(∀i,u<=i->i<k->le c (el b (lo+k)) (el b (lo+i))))
   (Q:=λr ak=>ak=LS st b/\∃l,r=(none,l,l)/\l<=k/\(∀i,i<l->le c (el b (lo+i)) (el b (lo+k)))/\(∀i,l<=i->i<k->le c (el b (lo+k)) (el b (lo+i)))) ?_ ?_ ?_) ?_)
  ·rintro x r ak _ hx ⟨rfl,l,u,rfl,g1,g2,g3,g4,g5⟩;dsimp only
   by_cases HQ:l >= u
   ·rw[if_pos HQ];obtain rfl:l=u:=by lia
    exact K7 ⟨rfl,l,rfl,g2,g4,g5⟩
   ·rw[if_neg HQ];refine K1 (fk L h0 R (by lia) (by lia) ?_)
    dsimp only;cases hc:c (el b (lo+k)) (el b (lo+(l+u) / 2))with
    |true =>
     rw[if_pos rfl];exact K7 ⟨rfl,l,_,rfl,by lia,by lia,by lia,g4,λi h1 h2=>O.trans (O.of_lt hc) (qq _ _ (by lia) (by lia) (by lia))⟩
    |false =>
     rw[if_neg (by simp)]
     exact K7 ⟨rfl,_,u,rfl,by lia,by lia,by lia,λi h1=>O.trans (qq _ _ (by lia) (by lia) (by lia)) (show le c (el b (lo+(l+u) / 2)) (el b (lo+k)) from hc),g5⟩
  ·rintro r ak ⟨rfl,l,u,rfl,g1,g2,g3,g4,g5⟩;obtain rfl:l=u:=by lia
   exact⟨rfl,l,rfl,g2,g4,g5⟩
  ·exact⟨rfl,0,k,rfl,Lp _,KZ _,by lia,λi hi=>by lia,λi h1 h2=>by lia⟩
  rintro r ak ⟨rfl,l,rfl,g2,g4,g5⟩;dsimp only;rw[moveDown'_eq];refine K1 (ME (K7 ⟨rfl,by lia,_,rfl,R.trans ((qO (a:=b) (by lia) (by lia)).mono (by lia) (by lia)),qN (a:=b) O (by lia) g2 qq g4 g5⟩))
 ·rintro r ak ⟨rfl,hx,b,rfl,R,qq⟩;rw[show max (max ok 1) n=n by lia]at qq
  exact⟨rfl,b,rfl,R,qq⟩
 ·refine⟨rfl,by lia,Ls st,rfl,Rg.refl,?_⟩
  by_cases h2:ok=0
  ·subst h2;exact SR.one O
  ·rw[show max ok 1=ok by lia]
   exact hs
 ·rintro r ak ⟨rfl,b,rfl,R,qq⟩;exact K7 (h b R qq)
theorem l7 (base:Nat):∀(l:List KW) (off:Nat) (a:Array KW),base+off+l.length<=a.size->∀k:Nat,
  ((l.zipIdx off).foldl (λx (z:KW×Nat)=>x.setIfInBounds (base+z.2) z.1) a)[k]?=if base+off<=k/\k<base+off+l.length then l[k-(base+off)]? else a[k]?
 |[],off,a,_,k=>by
  rw[if_neg (by rw[List.length_nil];lia)]
  rfl
 |x::l,off,a,h,k=>by
  rw[Lm]at h;rw[List.zipIdx_cons,List.foldl_cons,l7 base l (off+1) _ (by rw[NO];lia)]
  by_cases h1:base+(off+1)<=k/\k<base+(off+1)+l.length
  ·rw[if_pos h1,if_pos (by rw[Lm];lia),show k-(base+off)=k-(base+(off+1))+1 by lia,Ms]
  ·rw[if_neg h1,Array.getElem?_setIfInBounds]
   by_cases h2:base+off=k
   ·subst h2;rw[if_pos rfl,if_pos (by lia),if_pos (by rw[Lm];lia),NW]
    rfl
   ·rw[if_neg h2,if_neg (by rw[Lm];lia)]
def uJ (a:Array KW)(base:Nat)(l:List KW):Array KW:=l.zipIdx.foldl (λx (z:KW×Nat)=>x.setIfInBounds (base+z.2) z.1) a
theorem jW {a:Array KW}{base:Nat}{l:List KW}(h:base+l.length<=a.size)(k:Nat):(uJ a base l)[k]?=if base<=k/\k<base+l.length then l[k-base]? else a[k]?:=l7 base l 0 a h k
theorem q8 {a:Array KW}{base:Nat}{l:List KW}(h:base+l.length<=a.size):(uJ a base l).toList=a.toList.take base++(l++a.toList.drop (base+l.length)):=by
 apply M0;intro k;rw[Lb,jW h];have hz:a.toList.length=a.size:=K2
 by_cases h1:base<=k/\k<base+l.length
 ·rw[if_pos h1,LH (by rw[Lw];lia),Lw,LY (by lia)]
  congr 1
  lia
 ·rw[if_neg h1]
  by_cases h2:k<base
  ·rw[LY (by rw[Lw];lia),MP h2,Lb]
  ·rw[LH (by rw[Lw];lia),Lw,LH (by lia),Nr,Lb]
   congr 1
   lia
theorem ye (a:Array KW)(base m:Nat):a.toList=a.toList.take base++((a.toList.drop base).take m++a.toList.drop (base+m)):=by
 have h1:=(MA base a.toList).symm;have h2:=(MA m (a.toList.drop base)).symm;rw[List.drop_drop]at h2;rw[<- h2];exact h1
theorem xP {a:Array KW}{base:Nat}{l:List KW}(h:base+l.length<=a.size)(hp:l.Perm ((a.toList.drop base).take l.length)):Rg a (uJ a base l) base (base+l.length) where
 perm:=by
  rw[MJ,q8 h];refine List.Perm.trans ?_ (N5 (ye a base l.length).symm);exact N8 _ (hp.append_right _)
 out:=λk hk=>cP (by rw[jW h,if_neg (by lia)])
end
section
variable {prog:K3}{w:Lf}{A:LI}{E:KR->KU->Prop}{s:KU}{κ:MN}{c:KW->KW->Bool}{a₀:Array KW}
theorem uN {σ:Type}{M:OJ}{Q:PUnit->σ->Prop}{st ak:σ}(h:Q ⟨⟩ ak):wpS M A E s (set ak:StateT σ Sem PUnit) Q st:=by
 unfold wpS;rw[StateT.run_set];exact K0 ⟨rfl,h⟩
theorem n_ {a:Array KW}{lo hi i:Nat}(h:i<hi-lo)(hh:hi<=a.size):el (a.extract lo hi) i=el a (lo+i) :=
 cP (by rw[Array.getElem?_extract,if_pos (by lia)])
theorem iQ {a:Array KW}{lo hi:Nat}(hh:hi<=a.size):(a.extract lo hi).size=hi-lo:=by
 rw[Array.size_extract];lia
theorem oX {a:Array KW}{lo hi:Nat}(hh:hi<=a.size){z:KW}(h:z∈(a.extract lo hi).toList):∃u,lo<=u/\u<hi/\z=el a u:=by
 obtain⟨i,cf⟩:=Od h;rw[Lb]at cf;have eS:i<(a.extract lo hi).size:=by
  rcases Ma i (a.extract lo hi).size with q|q
  ·exact q
  ·rw[Mj q]at cf;cases cf
 rw[iQ hh]at eS;exact⟨lo+i,by lia,by lia,by rw[<- n_ eS hh,pj cf]⟩
theorem m7 (O:bB c)(L:dG prog w A E s κ c (·∈a₀.toList)){st:Lo}{i sa na pw sb nb E6:Nat}{Q:Bool->Lo->Prop}(h0:gz κ a₀ st)(p1:(Lh st)[i]?=some (sa,na,pw))(p2:(Lh st)[i+1]?=some (sb,nb,E6))
  (qq:sb=sa+na) (KG:1<=na) (KD:1<=nb) (hz:sb+nb<=a₀.size) (s1:SR c (Ls st) sa sb) (s2:SR c (Ls st) sb (sb+nb))
  (h:∀ak,kindOf ak=κ->MT ak=none->Lh ak=((Lh st).setIfInBounds i (sa,na+nb,pw)).eraseIdxIfInBounds (i+1)->Rg (Ls st) (Ls ak) sa (sb+nb)->SR c (Ls ak) sa (sb+nb)->Q true ak) :
  wpS (model prog w) A E s (mergeAt' i) Q st:=by
 rw[lQ];refine K1 (Nx ?_);rw[p1,p2];dsimp only;refine K1 (uN ?_);have AA:=h0.size;have hm:∀{j},j<a₀.size->el (Ls st) j∈a₀.toList:=λhj=>h0.mem hj;generalize ha:Ls st=a at *
 have pN:kindOf (M6 st (((Lh st).setIfInBounds i (sa,na+nb,pw)).eraseIdxIfInBounds (i+1)))=κ:=h0.kind;have yc:MT (M6 st (((Lh st).setIfInBounds i (sa,na+nb,pw)).eraseIdxIfInBounds (i+1)))=none:=h0.fail;have yd:Ls (M6 st (((Lh st).setIfInBounds i (sa,na+nb,pw)).eraseIdxIfInBounds (i+1)))=a:=ha;have Ba:Lh (M6 st (((Lh st).setIfInBounds i (sa,na+nb,pw)).eraseIdxIfInBounds (i+1)))=((Lh st).setIfInBounds i (sa,na+nb,pw)).eraseIdxIfInBounds (i+1):=rfl;generalize hP:((Lh st).setIfInBounds i (sa,na+nb,pw)).eraseIdxIfInBounds (i+1)=P at *
 generalize M6 st P=Bb at *
 refine K1 (aD (by lia) ?_)
 refine K1 (ck O L pN (hm (by lia)) (λx hx=>hm (by lia)) (by lia) (λx y h1 h2 h3=>s1 x y h1 h2 (by lia)) (by lia) λk k1 k2 k3=>?_)
 dsimp only;have g0:∀x,sa<=x->x<sa+k->le c (el a x) (el a sb):=λx h1 h2=>by
  have:=k2 (x-sa) (by lia)
  unfold cR at this;rw[if_neg (by simp),M3,show sa+(x-sa)=x by lia]at this
  exact this
 by_cases e1:(na-k==0)=true
 ·rw[if_pos e1];have e1:na-k=0:=by simpa using e1
  refine K7 (h Bb pN yc Ba (by rw[yd];exact Rg.refl) ?_)
  rw[yd];intro x y h1 h2 h3
  by_cases hx:x<sb
  ·by_cases hy:y<sb
   ·exact s1 x y h1 h2 hy
   ·exact O.trans (g0 x h1 (by lia)) (s2 sb y (KZ _) (by lia) h3)
  ·exact s2 x y (by lia) h2 h3
 rw[if_neg e1];have e1:na-k≠0:=by simpa using e1
 have g1:c (el a sb) (el a (sa+k))=true:=by
  have:=k3 k (KZ _) (by lia)
  unfold cR at this;rw[if_neg (by simp),Nt]at this
  exact this
 refine K1 (aD (by lia) ?_)
 refine K1 (ck O L pN (hm (by lia)) (λx hx=>hm (by lia)) (by lia) (λx y h1 h2 h3=>s2 x y h1 h2 (by lia)) (by lia) λm m1 m2 m3=>?_)
 dsimp only;rw[show sa+k+(na-k)-1=sb-1 by lia]at m2 m3
 have g2:∀x,sb<=x->x<sb+m->c (el a x) (el a (sb-1))=true:=λx h1 h2=>by
  have:=m2 (x-sb) (by lia)
  unfold cR at this;rw[if_pos rfl,show sb+(x-sb)=x by lia]at this
  exact this
 have g3:∀x,sb+m<=x->x<sb+nb->le c (el a (sb-1)) (el a x):=λx h1 h2=>by
  have:=m3 (x-sb) (by lia) (by lia)
  unfold cR at this;rw[if_pos rfl,show sb+(x-sb)=x by lia]at this
  exact this
 by_cases e2:(m==0)=true
 ·exfalso
  have e2:m=0:=by simpa using e2
  have:=O.trans (s1 (sa+k) (sb-1) (by lia) (by lia) (by lia)) (g3 sb (by lia) (by lia))
  exact absurd (g1.symm.trans this) (by simp)
 rw[if_neg e2];have e2:m≠0:=by simpa using e2
 have zx:(a.extract (sa+k) sb).size=sb-(sa+k):=iQ (by lia)
 have zy:(a.extract sb (sb+m)).size=m:=by rw[iQ (by lia)];lia
 have ex:∀{t},t<sb-(sa+k)->el (a.extract (sa+k) sb) t=el a (sa+k+t):=λht=>n_ ht (by lia)
 have ey:∀{t},t<m->el (a.extract sb (sb+m)) t=el a (sb+t):=λht=>n_ (by lia) (by lia)
 have fin:∀(out:Array KW) (di:Lo),gB Bb di->Gd c (a.extract (sa+k) sb) (a.extract sb (sb+m)) out.toList ->
   wpS (model prog w) A E s (do
    modify λs2=>LS s2 (out.toList.zipIdx.foldl (λx z=>match z with|(p,j)=>x.setIfInBounds (sa+k+j) p) (Ls s2))
    let y <- get
    pure (MT y).isNone:StateT Lo Sem Bool) Q di:=by
  rintro out di e ⟨gp,gs⟩;refine K1 (ME (K1 (Nx (K7 ?_))));show Q (MT di).isNone (LS di (uJ (Ls di) (sa+k) out.toList));rw[e.fail,yc,e.arr,yd];have zo:out.toList.length=sb-(sa+k)+m:=by
   rw[gp.length_eq,Lz,K2,K2,zx,zy]
  have hb:sa+k+out.toList.length<=a.size:=by lia
  have xy:(a.toList.drop (sa+k)).take out.toList.length=(a.extract (sa+k) sb).toList++(a.extract sb (sb+m)).toList:=by
   rw[bA,bA,zo,show sb+m-sb=m by lia,List.take_add,List.drop_drop,show sa+k+(sb-(sa+k))=sb by lia]
  have R:Rg a (uJ a (sa+k) out.toList) (sa+k) (sa+k+out.toList.length):=xP hb (by rw[xy];exact gp)
  refine h _ (e.kind.trans pN) (e.fail.trans yc) (e.pend.trans Ba) (R.mono (by lia) (by lia)) ?_
  show SR c (uJ a (sa+k) out.toList) sa (sb+nb);have zP:∀t,sa+k<=t->t<sb+m->∃z,out.toList[t-(sa+k)]?=some z/\el (uJ a (sa+k) out.toList) t=z/\((∃u,sa+k<=u/\u<sb/\z=el a u)\/∃u,sb<=u/\u<sb+m/\z=el a u):=by
   intro t h1 h2;have hl:t-(sa+k)<out.toList.length:=by lia
   refine⟨out.toList[t-(sa+k)],K9 hl,pj (by rw[jW hb,if_pos (by lia)];exact K9 hl),?_⟩
   have zQ:=gp.mem_iff.mp (M8 hl);rcases Lv.mp zQ with q|q
   ·exact .inl (oX (by lia) q)
   ·exact .inr (oX (by lia) q)
  have Ig:∀t,t<sa+k->el (uJ a (sa+k) out.toList) t=el a t:=λt ht=>R.out t (.inl ht);have DX:∀t,sb+m<=t->el (uJ a (sa+k) out.toList) t=el a t:=λt ht=>R.out t (.inr (by lia))
  intro x y h1 h2 h3
  by_cases hx:x<sa+k
  ·rw[Ig x hx]
   by_cases hy:y<sa+k
   ·rw[Ig y hy];exact s1 x y h1 h2 (by lia)
   ·by_cases Fw:y<sb+m
    ·obtain⟨z,_,ez,Fu⟩:=zP y (by lia) Fw
     rw[ez];rcases Fu with⟨u,u1,u2,rfl⟩|⟨u,u1,u2,rfl⟩
     ·exact s1 x u h1 (by lia) u2
     ·exact O.trans (g0 x h1 hx) (s2 sb u (KZ _) u1 (by lia))
    ·rw[DX y (by lia)]
     exact O.trans (g0 x h1 hx) (s2 sb y (KZ _) (by lia) h3)
  ·by_cases zt:x<sb+m
   ·obtain⟨z,iz,ez,Fu⟩:=zP x (by lia) zt
    rw[ez]
    by_cases Fw:y<sb+m
    ·obtain⟨z',Jn,GN,_⟩:=zP y (by lia) Fw
     rw[GN]
     by_cases Fx:x=y
     ·subst Fx;rw[ez]at GN;rw[GN];exact O.refl _
     ·obtain⟨q1,q2⟩:=Lr.mp iz;obtain⟨q3,q4⟩:=Lr.mp Jn;have:=Nv.mp gs _ _ q1 q3 (by lia)
      rw[q2,q4]at this;exact this
    ·rw[DX y (by lia)]
     rcases Fu with⟨u,u1,u2,rfl⟩|⟨u,u1,u2,rfl⟩
     ·exact O.trans (s1 u (sb-1) (by lia) (by lia) (by lia)) (g3 y (by lia) h3)
     ·exact s2 u y (by lia) (by lia) h3
   ·rw[DX x (by lia),DX y (by lia)]
    exact s2 x y (by lia) h2 h3
 have go:∀(out:Array KW) (di:Lo),gB Bb di->Gd c (a.extract (sa+k) sb) (a.extract sb (sb+m)) out.toList->wpS (model prog w) A E s (do
    modify λs2=>LS s2 (out.toList.zipIdx.foldl (λx z=>match z with|(p,j)=>x.setIfInBounds (sa+k+j) p) (Ls s2))
    let y <- get
    pure (MT y).isNone:StateT Lo Sem Bool) Q di:=fin
 have HE:0<(a.extract (sa+k) sb).size:=by lia
 have HD:0<(a.extract sb (sb+m)).size:=by lia
 have Sx:∀t,t<(a.extract (sa+k) sb).size->el (a.extract (sa+k) sb) t∈a₀.toList:=λt ht=>by rw[ex (by lia)];exact hm (by lia)
 have Sy:∀t,t<(a.extract sb (sb+m)).size->el (a.extract sb (sb+m)) t∈a₀.toList:=λt ht=>by rw[ey (by lia)];exact hm (by lia)
 have He:SR c (a.extract (sa+k) sb) 0 (a.extract (sa+k) sb).size:=λx y h1 h2 h3=>by
  rw[ex (by lia),ex (by lia)]
  exact s1 _ _ (by lia) (by lia) (by lia)
 have Hd:SR c (a.extract sb (sb+m)) 0 (a.extract sb (sb+m)).size:=λx y h1 h2 h3=>by
  rw[ey (by lia),ey (by lia)]
  exact s2 _ _ (by lia) (by lia) (by lia)
 have hf:c (el (a.extract sb (sb+m)) 0) (el (a.extract (sa+k) sb) 0)=true:=by
  rw[ex (by lia),ey (by lia)]
  exact g1
 have hl:∀y,y<(a.extract sb (sb+m)).size->c (el (a.extract sb (sb+m)) y) (el (a.extract (sa+k) sb) ((a.extract (sa+k) sb).size-1))=true:=λy hy=>by
  rw[ey (by lia),ex (by lia),show sa+k+((a.extract (sa+k) sb).size-1)=sb-1 by lia]
  exact g2 _ (by lia) (by lia)
 by_cases e3:na-k<=m
 ·rw[if_pos e3];exact K1 (mZ O L pN Sx Sy He Hd HE HD hf hl go)
 ·rw[if_neg e3];exact K1 (m6 O L pN Sx Sy He Hd HE HD hf hl go)
end
section
variable {c:KW->KW->Bool}{a b:Array KW}
def Runs (c:KW->KW->Bool)(a:Array KW):List (Nat×Nat×Nat)->Nat->Nat->Prop
 |[],lo,hi=>lo=hi
 |z::r,lo,hi=>z.1=lo/\1<=z.2.1/\SR c a lo (lo+z.2.1)/\Runs c a r (lo+z.2.1) hi
theorem Runs.app:∀{l r:List (Nat×Nat×Nat)} {lo hi:Nat},Runs c a (l++r) lo hi->∃m,Runs c a l lo m/\Runs c a r m hi
 |[],r,lo,hi,h=>⟨lo,rfl,h⟩
 |z::l,r,lo,hi,⟨h1,h2,h3,h4⟩=>by
  obtain⟨m,g1,g2⟩:=Runs.app h4;exact⟨m,⟨h1,h2,h3,g1⟩,g2⟩
theorem Runs.join:∀{l r:List (Nat×Nat×Nat)} {lo m hi:Nat},Runs c a l lo m->Runs c a r m hi->Runs c a (l++r) lo hi
 |[],r,lo,m,hi,h,g=>by
  obtain rfl:lo=m:=h;exact g
 |z::l,r,lo,m,hi,⟨h1,h2,h3,h4⟩,g=>⟨h1,h2,h3,Runs.join h4 g⟩
theorem Runs.len:∀{l:List (Nat×Nat×Nat)} {lo hi:Nat},Runs c a l lo hi->lo+l.length<=hi
 |[],lo,hi,h=>Nat.le_of_eq h
 |z::l,lo,hi,⟨h1,h2,h3,h4⟩=>by
  have:=Runs.len h4;rw[Lm];lia
theorem Runs.congr:∀{l:List (Nat×Nat×Nat)} {lo hi:Nat},Runs c a l lo hi->(∀k,lo<=k->k<hi->el b k=el a k)->Runs c b l lo hi
 |[],lo,hi,h,_=>h
 |z::l,lo,hi,⟨h1,h2,h3,h4⟩,e=>by
  have hl:=Runs.len h4;exact⟨h1,h2,h3.congr λk g1 g2=>e k g1 (by lia),Runs.congr h4 λk g1 g2=>e k (by lia) g2⟩
theorem Runs.pow:∀{l l':List (Nat×Nat×Nat)} {lo hi:Nat},Runs c a l lo hi->l'.map (λz=>(z.1,z.2.1))=l.map (λz=>(z.1,z.2.1))->Runs c a l' lo hi
 |[],[],_,_,h,_=>h
 |[],z::l',_,_,_,e=>by cases e
 |z::l,[],_,_,_,e=>by cases e
 |z::l,z'::l',lo,hi,⟨h1,h2,h3,h4⟩,e=>by
  rw[LJ,LJ]at e;injection e with e1 e2
  injection e1 with e3 e4
  exact⟨e3.trans h1,by rw[e4];exact h2,by rw[e4];exact h3,by rw[e4];exact Runs.pow h4 e2⟩
end
section
variable {prog:K3}{w:Lf}{A:LI}{E:KR->KU->Prop}{s:KU}{κ:MN}{c:KW->KW->Bool}{a₀:Array KW}
theorem yf {α:Type}{l:List α}{i:Nat}(h:i+1<l.length):∃l1 x y l2,l=l1++x::y::l2/\l1.length=i:=by
 refine⟨l.take i,l[i],l[i+1],l.drop (i+2),?_,by rw[Lw];lia⟩
 rw[<- Mo h,<- Mo (by lia),MA]
theorem ji (O:bB c)(L:dG prog w A E s κ c (·∈a₀.toList)){st:Lo}{i hi:Nat}{Q:Bool->Lo->Prop}(h0:gz κ a₀ st)(hr:Runs c (Ls st) (Lh st).toList 0 hi)(hh:hi<=a₀.size)(HY:i+1<(Lh st).size)
  (h:∀ak,gz κ a₀ ak->Rg (Ls st) (Ls ak) 0 hi->Runs c (Ls ak) (Lh ak).toList 0 hi->(Lh ak).size+1=(Lh st).size->Q true ak) :
  wpS (model prog w) A E s (mergeAt' i) Q st:=by
 obtain⟨l1,⟨sa,na,pw⟩,⟨sb,nb,E6⟩,l2,el,hl⟩:=yf (l:=(Lh st).toList) (i:=i) (by rw[K2];exact HY)
 rw[el]at hr;obtain⟨m,r1,r2⟩:=hr.app;obtain⟨x1,x2,x3,y1,y2,y3,r3⟩:=r2;dsimp only at x1 x2 x3 y1 y2 y3 r3;have hlen:=r3.len;have HR:=r1.len;have p1:(Lh st)[i]?=some (sa,na,pw):=by
  rw[<- Lb,el,LH (by lia),hl,NW]
  rfl
 have p2:(Lh st)[i+1]?=some (sb,nb,E6):=by
  rw[<- Lb,el,LH (by lia),hl,show i+1-i=1 by lia]
  rfl
 subst x1;refine m7 O L h0 p1 p2 y1 x2 y2 (by lia) (by rw[y1];exact x3) (by rw[y1];exact y3) λak k1 k2 k3 R S=>?_
 have ep:(Lh ak).toList=l1++(sa,na+nb,pw)::l2:=by
  rw[k3];have hz:i+1<((Lh st).setIfInBounds i (sa,na+nb,pw)).size:=by rw[NO];exact HY
  have e1:(((Lh st).setIfInBounds i (sa,na+nb,pw)).eraseIdxIfInBounds (i+1)).toList=((Lh st).toList.set i (sa,na+nb,pw)).eraseIdx (i+1):=by
   unfold Array.eraseIdxIfInBounds;rw[dif_pos hz,Array.toList_eraseIdx,Array.toList_setIfInBounds]
  rw[e1,el,<- hl,List.set_append_right _ _ (KZ _),NW,List.set_cons_zero,List.eraseIdx_append_of_length_le (by lia),show l1.length+1-l1.length=1 by lia]
  rfl
 have out:∀k,(k<sa\/sb+nb<=k)->TS.el (Ls ak) k=TS.el (Ls st) k:=R.out;refine h ak ⟨k1,k2,R.perm.trans h0.perm⟩ (R.mono (Lp _) (by lia)) ?_ ?_
 ·rw[ep];refine Runs.join (r1.congr λk g1 g2=>out k (.inl (by lia))) ⟨rfl,by show 1<=na+nb;lia,?_,?_⟩
  ·show SR c (Ls ak) sa (sa+(na+nb));rw[show sa+(na+nb)=sb+nb by lia]
   exact S
  ·show Runs c (Ls ak) l2 (sa+(na+nb)) hi;rw[show sa+(na+nb)=sa+na+nb by lia]
   exact r3.congr λk g1 g2=>out k (.inr (by lia))
 ·have e2:(Lh ak).size=l1.length+(l2.length+1):=by rw[<- K2,ep,Lz,Lm]
  have e3:(Lh st).size=l1.length+(l2.length+1+1):=by rw[<- K2,el,Lz,Lm,Lm]
  lia
theorem iF:∀(f n r:Nat),1<=n->1<=minRun' f n r
 |0,n,r,h=>by show 1<=n+r;lia
 |f+1,n,r,h=>by
  rw[minRun'_succ]
  split
  ·lia
  ·exact iF f _ _ (by lia)
theorem vb (p:Array (Nat×Nat×Nat))(i w:Nat):(p.modify i λx=>(x.1,x.2.1,w)).toList.map (λz=>(z.1,z.2.1))=p.toList.map (λz=>(z.1,z.2.1)):=by
 apply M0;intro k;rw[Lj,Lj,Lb,Lb,Array.getElem?_modify]
 split
 ·rw[Option.map_map];rfl
 ·rfl
theorem k_ (O:bB c)(L:dG prog w A E s κ c (·∈a₀.toList)){st:Lo}{Q:Unit->Lo->Prop}(h0:gz κ a₀ st)(hp:Lh st=#[])(h2:2<=a₀.size)
  (h:∀ak,gz κ a₀ ak->SR c (Ls ak) 0 a₀.size->Q () ak):wpS (model prog w) A E s sortRuns' Q st:=by
 rw[sortRuns'_eq];refine K1 (Nx ?_);dsimp only;rw[h0.size];have JH:=iF a₀.size a₀.size 0 (by lia)
 generalize minRun' a₀.size a₀.size 0=mr at JH;refine K1 (Mb (LK (I:=λx r ak=>gz κ a₀ ak/\∃lo,r=(none,lo)/\lo<=a₀.size/\(a₀.size<=lo\/x<=lo)/\Runs c (Ls ak) (Lh ak).toList 0 lo)
  (Q:=λr ak=>gz κ a₀ ak/\r=(none,a₀.size)/\Runs c (Ls ak) (Lh ak).toList 0 a₀.size) ?_ ?_ ?_) ?_)
 ·rintro x r ak _ hx ⟨hS,lo,rfl,DO,JJ,hr⟩;dsimp only
  by_cases hl:lo >= a₀.size
  ·rw[if_pos hl];obtain rfl:lo=a₀.size:=by lia
   exact K7 ⟨hS,rfl,hr⟩
  rw[if_neg hl];refine K1 (rh O L hS (by lia) (by lia) λn b n1 n2 R Sb=>?_)
  dsimp only;have mW:gz κ a₀ (LS ak b):=hS.set R;have kJ:Runs c (Ls (LS ak b)) (Lh (LS ak b)).toList 0 lo:=Runs.congr (b:=b) hr λk q1 q2=>R.out k (.inl q2);refine(λ(key:∀(N:Nat) (stx:Lo),1<=N->lo+N<=a₀.size->Runs c (Ls stx) (Lh stx).toList 0 lo->gz κ a₀ stx->SR c (Ls stx) lo (lo+N)->(?G:Nat->Lo->Prop) N stx)=>?main) ?key
  case main =>
   by_cases HN:n<mr
   ·rw[if_pos HN];refine K1 (N_ (M4 ⟨rfl,?_⟩));refine K1 (xV O L mW (by lia) (by lia) (by lia) Sb λb' R' Kh=>?_)
    rw[if_neg (by simp)]
    have DV:1<=min (a₀.size-lo) mr:=by lia
    have Gz:lo+min (a₀.size-lo) mr<=a₀.size:=by lia
    have kJ:Runs c (Ls (LS (LS ak b) b')) (Lh (LS (LS ak b) b')).toList 0 lo:=Runs.congr (b:=b') kJ λk q1 q2=>R'.out k (.inl q2);have mW:gz κ a₀ (LS (LS ak b) b'):=mW.set R';have xI:SR c (Ls (LS (LS ak b) b')) lo (lo+(min (a₀.size-lo) mr)):=Kh;generalize LS (LS ak b) b'=stx at kJ mW xI ⊢
    generalize min (a₀.size-lo) mr=N at DV Gz xI ⊢
    exact key N stx DV Gz kJ mW xI
   ·rw[if_neg HN];have xI:SR c (Ls (LS ak b)) lo (lo+n):=Sb;exact key n _ n1 (by lia) kJ mW xI
  case key =>
   intro N stx DV Gz kJ mW xI;refine K1 (Nx ?_);have Dj:∀(ia:Lo),gz κ a₀ ia->SR c (Ls ia) lo (lo+N)->Runs c (Ls ia) (Lh ia).toList 0 lo->gz κ a₀ (M6 ia ((Lh ia).push (lo,N,0)))/\∃w5,((none,lo+N):Option Unit×Nat)=(none,w5)/\w5<=a₀.size/\(a₀.size<=w5\/x+1<=w5)/\Runs c (Ls ia) ((Lh ia).push (lo,N,0)).toList 0 w5:=λia g1 g2 g3 =>
    ⟨⟨g1.kind,g1.fail,g1.perm⟩,_,rfl,by lia,by lia,by rw[Mi];exact g3.join ⟨rfl,DV,g2,rfl⟩⟩
   cases hb:(Lh stx).back? with
   |none =>
    dsimp only;exact K1 (ME (K7 (Dj stx mW xI kJ)))
   |some z =>
    obtain⟨s1,n1,p1⟩:=z;dsimp only;refine K1 (Mb (LK (I:=λx r ak=>r=(none,())/\gz κ a₀ ak/\SR c (Ls ak) lo (lo+N)/\Runs c (Ls ak) (Lh ak).toList 0 lo)
     (Q:=λr ak=>r=(none,())/\gz κ a₀ ak/\SR c (Ls ak) lo (lo+N)/\Runs c (Ls ak) (Lh ak).toList 0 lo) ?_ ?_ ?_) ?_)
    ·rintro y r ia _ _ ⟨rfl,g1,g2,g3⟩;refine K1 (Nx ?_)
     by_cases CC:(Lh ia).size>1
     ·rw[if_pos CC];cases hq:(Lh ia)[(Lh ia).size-2]? with
      |none =>
       dsimp only;exact K7 ⟨rfl,g1,g2,g3⟩
      |some z =>
       obtain⟨u,v,Hr⟩:=z;dsimp only
       split
       ·exact K7 ⟨rfl,g1,g2,g3⟩
       ·refine K1 (ji O L g1 g3 (by lia) (by lia) λuy f1 f2 f3 f4=>?_)
        exact K7 ⟨rfl,f1,g2.congr λk q1 q2=>f2.out k (.inr q1),f3⟩
     ·rw[if_neg CC];dsimp only;exact K7 ⟨rfl,g1,g2,g3⟩
    ·rintro r ia ⟨rfl,g1,g2,g3⟩;exact⟨rfl,g1,g2,g3⟩
    ·exact⟨rfl,mW,xI,kJ⟩
    rintro r ia ⟨rfl,g1,g2,g3⟩;dsimp only;refine K1 (ME (K1 (ME (K7 ?_))));exact Dj (M6 ia _) ⟨g1.kind,g1.fail,g1.perm⟩ g2 (g3.pow (vb _ _ _))
 ·rintro r ak ⟨hS,lo,rfl,DO,JJ,hr⟩;obtain rfl:lo=a₀.size:=by lia
  exact⟨hS,rfl,hr⟩
 ·exact⟨h0,0,rfl,Lp _,.inr (KZ _),by rw[hp];rfl⟩
 rintro r ak ⟨hS,rfl,hr⟩;dsimp only;refine K1 (Mb (LK (I:=λx r ak=>r=(none,())/\gz κ a₀ ak/\Runs c (Ls ak) (Lh ak).toList 0 a₀.size/\((Lh ak).size<=1\/(Lh ak).size+x<=a₀.size))
  (Q:=λr ak=>r=(none,())/\gz κ a₀ ak/\Runs c (Ls ak) (Lh ak).toList 0 a₀.size/\(Lh ak).size<=1) ?_ ?_ ?_) ?_)
 ·rintro x r di _ hx ⟨rfl,mW,kJ,hz⟩;refine K1 (Nx ?_)
  by_cases h1:(Lh di).size<=1
  ·rw[if_pos h1];exact K7 ⟨rfl,mW,kJ,h1⟩
  rw[if_neg h1];refine K1 (ji O L mW kJ (KZ _) ?_ λia JX R3 Jy Ky=>?_)
  ·split
   ·split <;> lia
   ·rw[if_neg (by simp)]
    lia
  ·exact K7 ⟨rfl,JX,Jy,.inr (by lia)⟩
 ·rintro r di ⟨rfl,mW,kJ,hz⟩;exact⟨rfl,mW,kJ,by lia⟩
 ·refine⟨rfl,hS,hr,.inr ?_⟩;have:=hr.len;rw[K2]at this;lia
 ·rintro r di ⟨rfl,mW,kJ,hz⟩;refine K7 (h di mW ?_)
  match hq:(Lh di).toList,kJ with
  |[],e=>
   have:(0:Nat)=a₀.size:=e;lia
  |[z],e =>
   obtain⟨e1,e2,e3,e4⟩:=e;have e4:0+z.2.1=a₀.size:=e4;rw[e4]at e3;exact e3
  |z::y::l,e =>
   have:(Lh di).toList.length<=1:=by rw[K2];exact hz
   rw[hq]at this;simp at this
end
theorem lex_nil {y:List Int}:HT.lexLt [] y=decide (0<y.length):=by cases y <;> rfl
theorem fI {a b:Int}{x y:List Int}:HT.lexLt (a::x) (b::y)=if a=b then HT.lexLt x y else decide (a<b):=rfl
theorem lU:∀{x y:List Int},HT.lexLt x y=true->HT.lexLt y x=false
 |[],[],_=>rfl
 |[],_::_,_=>rfl
 |_::_,[],h=>by cases h
 |a::x,b::y,h=>by
  rw[fI]at h ⊢
  by_cases e:a=b
  ·rw[if_pos e]at h;rw[if_pos e.symm];exact lU h
  ·rw[if_neg e]at h;rw[if_neg λz=>e z.symm];have:=of_decide_eq_true h;exact decide_eq_false (by lia)
theorem oZ:∀{x z:List Int} (y:List Int),HT.lexLt x z=true->HT.lexLt x y=true\/HT.lexLt y z=true
 |[],[],_,h=>by cases h
 |[],_::_,[],h=>.inr rfl
 |[],_::_,_::_,h=>.inl rfl
 |_::_,[],_,h=>by cases h
 |a::x,b::z,[],h=>.inr rfl
 |a::x,b::z,d::y,h=>by
  rw[fI]at h ⊢
  rw[fI]
  by_cases e:a=b
  ·subst e;rw[if_pos rfl]at h
   by_cases e2:a=d
   ·subst e2;rw[if_pos rfl,if_pos rfl];exact oZ y h
   ·rw[if_neg e2,if_neg λq=>e2 q.symm]
    by_cases e3:a<d
    ·exact .inl (decide_eq_true e3)
    ·exact .inr (decide_eq_true (by lia))
  ·rw[if_neg e]at h;have h:=of_decide_eq_true h
   by_cases e2:a=d
   ·subst e2;rw[if_neg e];exact .inr (decide_eq_true h)
   ·rw[if_neg e2]
    by_cases e3:a<d
    ·exact .inl (decide_eq_true e3)
    ·rw[if_neg (by lia)]
     exact .inr (decide_eq_true (by lia))
def byKey (kf:KR->List Int)(x y:KW):Bool:=HT.lexLt (kf x.1) (kf y.1)
theorem vn (kf:KR->List Int):bB (byKey kf):=⟨λ_ _ h=>lU h,λ_ y _ h=>oZ (kf y.1) h⟩
section
variable {prog:K3}{w:Lf}{A:LI}{E:KR->KU->Prop}{s:KU}
theorem lT {b:Bool}{Q:Bool->KU->Prop}:∀{ns ms:List Int} {us vs:List KR} (i:Nat),NZ us ns->NZ vs ms->Q (HT.lexLt ns ms) s->PySem.W.KatLex prog w A b (decide (ns.length<ms.length)) Q (us.zip vs) i s
 |[],ms,us,vs,i,hu,hv,q=>by
  cases hu;rw[List.zip_nil_left];rw[lex_nil]at q;exact PySem.W.kat_nil q
 |n::ns,[],us,vs,i,hu,hv,q=>by
  cases hv;rw[List.zip_nil_right];exact PySem.W.kat_nil q
 |n::ns,m::ms,us,vs,i,hu,hv,q=>by
  cases hu with
  |cons _ t hu =>
   cases hv with
   |cons _ t' hv =>
    rw[List.zip_cons_cons];refine PySem.W.kat_cons (wpAny_eqBool_int ?_);rw[fI]at q
    by_cases e:n=m
    ·subst e;rw[if_pos rfl]at q;rw[beq_self_eq_true];have:=lT (b:=b) (Q:=Q) (i+1) hu hv q;rw[show decide ((n::ns).length<(n::ms).length)=decide (ns.length<ms.length) by rw[Lm,Lm];congr 1;simp]
     exact PySem.W.kat_yes this
    ·rw[if_neg e]at q;rw[show (n==m)=false from beq_eq_false_iff_ne.mpr e]
     refine PySem.W.kat_no ?_;cases b&&i==0 with
     |true=>exact oneLt_int q
     |false=>exact PySem.W.kat_one _ _ (lt_int q)
def jh (h:Heap)(kf:KR->List Int)(a:Addr)(vs:List KR):Prop :=
 ∀v∈vs,∃t o xs k,v=.ref t/\t≠a/\h.get? t=some o/\o.cls=.type "tuple" /\ o.data=.seq xs k/\NZ xs.toList (kf v)/\kf v≠[]
theorem qh {kf:KR->List Int}{a:Addr}{vs:List KR}{b:Bool}{a₀:Array KW}(T:jh s.heap kf a vs)(hm:∀z∈a₀.toList,z.1∈vs):dG prog w A E s (tuples' b) (byKey kf) (·∈a₀.toList):=by
 intro x y st Q hx hy hk q;obtain⟨t,o,xs,n,e1,_,e2,_,e3,e4,_⟩:=T _ (hm _ hx);obtain⟨t',o',Iq,n',f1,_,f2,_,f3,f4,_⟩:=T _ (hm _ hy);rw[lt'_eq];refine K1 (Nx ?_);rw[hk,e1,f1];have z1:xs.size=(kf x.1).length:=by rw[<- K2];exact e4.length
 have z2:Iq.size=(kf y.1).length:=by rw[<- K2];exact f4.length
 refine K1 (N_ (ND (PySem.W.kat_lt e2 e3 f2 f3 ?_)));rw[z1,z2];exact lT 0 e4 f4 ⟨rfl,K7 q⟩
theorem hZ {kf:KR->List Int}{a:Addr}{h:Heap}:∀{vs:List KR},jh h kf a vs->∃fs:List KR,PySem.W.KatTups h vs fs/\fs.length=vs.length/\∀f∈fs,∃n t,f=Value.int n t
 |[],_=>⟨[],trivial,rfl,λf hf=>by cases hf⟩
 |v::vs,T=>by
  obtain⟨fs,h1,h2,h3⟩:=hZ (vs:=vs) λu hu=>T u (Lc _ hu);obtain⟨t,o,xs,k,rfl,_,e2,e3,e4,e5,e6⟩:=T v Lg;obtain⟨f,r,ef,n,tk,hn⟩:∃f r,xs.toList=f::r/\∃n tk,f=Value.int n tk:=by
   generalize kf (.ref t)=ks at e5 e6;generalize xs.toList=us at e5;cases e5 with
   |nil=>exact absurd rfl e6
   |cons n tk r=>exact⟨_,_,rfl,_,_,rfl⟩
  have e:xs[0]?=some f:=by rw[<- Lb,ef];rfl
  exact⟨f::fs,PySem.W.KatTups.cons e2 e3 e4 e h1,by rw[Lm,Lm,h2],λg hg=>by
   rcases K6.mp hg with rfl|hg
   ·exact⟨_,_,hn⟩
   ·exact h3 g hg⟩
theorem ql {kf:KR->List Int}{a:Addr}{vs:List KR}{Q:MN->KU->Prop}(T:jh s.heap kf a vs)(h0:0<vs.length)(q:Q (tuples' true) s):Ln (model prog w) A (keyKind' vs.toArray) Q E s:=by
 obtain⟨fs,h1,h2,h3⟩:=hZ T;refine PySem.W.kat_kind (T:=.type "int") h1 (by lia) (λv hv=>?_) (by decide) q
 obtain⟨n,t,rfl⟩:=h3 v hv;exact .now
theorem rM {α:Type}{R:α->α->Prop}:∀{l:List α},l.length<2->l.Pairwise R
 |[],_=>.nil
 |[x],_=>List.pairwise_singleton _ _
 |_::_::_,h=>by
  rw[Lm,Lm]at h;lia
theorem nH {a:Addr} {vs:List KR} {n:Nat} {κ:MN} {c:KR->KR->Bool} {P:PySem.Fin->KU->Prop} (ho:s.heap.get? a=some (Mr "list" vs.toArray n)) (hz:vs.length<=1000000) (O:bB λx y=>c x.1 y.1)
  (T:∀s':KU,(∀t o,t≠a->s.heap.get? t=some o->s'.heap.get? t=some o)->(2<=vs.length->∀(Q:MN->KU->Prop),Q κ s'->Ln (model prog w) A (keyKind' vs.toArray) Q E s')/\dG prog w A E s' κ (λx y=>c x.1 y.1) (·∈(vs.toArray.zip vs.toArray).toList))
  (h:∀out:List KR,out.Perm vs->out.Pairwise (λx y=>c y x=false)->P (.done (.ret .none)) {s with heap:=sortedHeap s.heap a vs out.toArray}) :
  Ln (model prog w) A (Mn.«list.sort» ⟨[.ref a],[]⟩) P E s:=by
 have la:a<s.heap.objs.size:=K8 ho;obtain⟨ep,hc⟩:∃ep,(s.heap.update a (MH λ_=>#[])).get? a=some (Mr "list" #[] ep):=⟨_,get?_update_seq ho (λ_=>#[])⟩;have old:∀t o,t≠a->s.heap.get? t=some o->(((s.heap.update a (MH λ_=>#[])).push (Mr "tuple" vs.toArray 0)).push (Mr "list" #[] 0)).get? t=some o:=λt o ht e =>
  K4 _ (K4 _ (by rw[Heap.get?_update_ne _ _ _ _ ht];exact e))
 have uE:(((s.heap.update a (MH λ_=>#[])).push (Mr "tuple" vs.toArray 0)).push (Mr "list" #[] 0)).get? a=some (Mr "list" #[] ep):=K4 _ (K4 _ hc);have big:∀m:Nat,m<=vs.length->m<=Lk:=λm hm=>by rw[LL];lia
 have zz:vs.toArray.size=vs.length:=by simp
 rw[list_sort_plain];refine KS (listItems_at ho rfl ?_);refine KS (listUpdate_at ho rfl ?_ (big _ (Nat.le_of_eq zz)) (Lp _));refine KS (seqEpoch_at hc rfl ?_);refine KS (wpAny_newTuple ?_ (big _ (KZ _)));refine KS (wpAny_newList ?_ (Lp _));refine L7 ?_;show Ln (model prog w) A _ P E {s with heap:=((s.heap.update a (MH λ_=>#[])).push (Mr "tuple" vs.toArray 0)).push (Mr "list" #[] 0)}
 dsimp only;have done:∀ak:Lo,(Ls ak).Perm (vs.toArray.zip vs.toArray)->(Ls ak).toList.Pairwise (le λx y=>c x.1 y.1)->P (.done (.ret .none)) {s with heap:=sortedHeap s.heap a vs ((Ls ak).map (·.2))}:=λak hp hs=>by
  have h1:∀z∈(Ls ak).toList,z.1=z.2:=λz hz=>by
   have:=(MJ.mp hp).mem_iff.mp hz;rw[OH]at this;obtain⟨i,hi⟩:=Od this;rw[List.getElem?_zip_eq_some]at hi;exact Lq (hi.1.symm.trans hi.2)
  have e2:(Ls ak).map (·.2)=((Ls ak).toList.map (·.2)).toArray:=by
   apply Array.toList_inj.mp;rw[Array.toList_map]
  rw[e2];refine h _ ?_ ?_
  ·have:=(MJ.mp hp).map (λz:KW=>z.2);rw[OH]at this;refine this.trans (N5 ?_);exact List.map_snd_zip (by simp)
  ·rw[MY];refine hs.imp_of_mem λ{x y} hx hy hl=>?_;rw[<- h1 x hx,<- h1 y hy];exact hl
 by_cases h2:vs.toArray.size<2
 ·rw[if_pos h2,if_pos h2];refine KS (K0 ?_);rw[StateT.run_pure];refine KS (K0 ?_);dsimp only;refine KS (seqEpoch_at uE rfl ?_);refine KS (listUpdate_at uE rfl ?_ (Lp _) (by rw[O0,OZ];exact L4 (big _ (by lia)) (Nat.le_succ _)))
  simp only[bne_self_eq_false,Nu,if_false];refine K0 (done (SortSt.mk' general' (vs.toArray.zip vs.toArray) #[] 7 none) (OP _) ?_);refine rM ?_;show (vs.toArray.zip vs.toArray).toList.length<2;rw[K2,OZ];lia
 ·rw[if_neg h2,if_neg h2];obtain⟨hK,L⟩:=T {s with heap:=((s.heap.update a (MH λ_=>#[])).push (Mr "tuple" vs.toArray 0)).push (Mr "list" #[] 0)} old
  refine KS (hK (by lia) _ ?_)
  have zp:(vs.toArray.zip vs.toArray).size=vs.length:=by rw[OZ];lia
  refine KS (MQ (k_ (Q:=λ_ ak=>(Ls ak).Perm (vs.toArray.zip vs.toArray)/\MT ak=none/\SR (λx y=>c x.1 y.1) (Ls ak) 0 vs.length) O L
   (st:=SortSt.mk' κ (vs.toArray.zip vs.toArray) #[] 7 none) ⟨rfl,rfl,OP _⟩ rfl (by lia) λak g1 g2=>⟨g1.perm,g1.fail,by rw[zp]at g2;exact g2⟩) ?_ λ_ _ e=>e)
  rintro⟨⟨⟩,ak⟩ s' ⟨rfl,hp,hf,hs⟩;dsimp only;have zs:(Ls ak).size=vs.length:=hp.size_eq.trans zp;refine KS (seqEpoch_at uE rfl ?_);refine KS (listUpdate_at uE rfl ?_ (Lp _) (by rw[O0,zs];exact L4 (big _ (KZ _)) (Nat.le_succ _)))
  rw[hf];simp only[bne_self_eq_false,Nu,if_false];refine K0 (done ak hp ?_);rw[Nv];intro i j hi hj aB;rw[K2]at hi hj;have:=hs i j (Lp _) (by lia) (by lia)
  have ei:el (Ls ak) i=(Ls ak).toList[i]:=pj (by rw[<- Lb];exact K9 _)
  have ej:el (Ls ak) j=(Ls ak).toList[j]:=pj (by rw[<- Lb];exact K9 _)
  rw[ei,ej]at this;exact this
theorem iG {a:Addr} {vs:List KR} {n:Nat} {kf:KR->List Int} {P:PySem.Fin->KU->Prop} (ho:s.heap.get? a=some (Mr "list" vs.toArray n)) (hz:vs.length<=1000000) (T:jh s.heap kf a vs)
  (h:∀out:List KR,out.Perm vs->out.Pairwise (λx y=>HT.lexLt (kf y) (kf x)=false)->P (.done (.ret .none)) {s with heap:=sortedHeap s.heap a vs out.toArray}) :
  Ln (model prog w) A (Mn.«list.sort» ⟨[.ref a],[]⟩) P E s:=by
 refine nH (κ:=tuples' true) (c:=λx y=>HT.lexLt (kf x) (kf y)) ho hz (vn kf) (λs' kp=>?_) h;have T':jh s'.heap kf a vs:=λv hv=>by
  obtain⟨t,o,xs,k,e1,e2,e3,r⟩:=T v hv;exact⟨t,o,xs,k,e1,e2,kp t o e2 e3,r⟩
 exact⟨λh2 Q q=>ql T' (by lia) q,qh T' λz hz=>by
  rw[OH]at hz;exact(N4 hz).1⟩
end
end TS
namespace ST
open PySem PyProof.Rows
section
variable {prog:K3}{w:Lf}{A:LI}{E:KR->KU->Prop}{s:KU}
abbrev TK (prog:K3)(w:Lf):=tupleKind (intKind prog w)
abbrev kH (prog:K3)(w:Lf)(k:List Int):Int:=(TK prog w).hash k
abbrev ent (prog:K3)(w:Lf)(x:Addr×List Int):Int×KR:=(kH prog w x.2,.ref x.1)
structure bK (prog:K3)(w:Lf)(o:Obj)(ts:List (Addr×List Int))(es:Array (Int×KR))(ep:Nat)(t:SetTable):Prop where
 ex:o.ExactSet
 dat:o.data=.set es ep t
 z9:es.toList=ts.map (ent prog w)
 wf:WF t (ts.map λx=>kH prog w x.2)
 EM:t.place.size*5<t.mask*3
 wY:t.mask<=8191
 led:t.led=!w.params.followText "set-order"
 Au:t.plain=true
 BJ:(ts.map (·.2)).Nodup
def wB (prog:K3)(w:Lf)(h:Heap)(ts:List (Addr×List Int)):Prop:=∀x∈ts,(TK prog w).is h x.2 x.1
theorem bK.fits {o:Obj}{ts:List (Addr×List Int)}{es:Array (Int×KR)}{ep:Nat}{t:SetTable}(S:bK prog w o ts es ep t):t.fits es.size=true:=by
 have h1:=S.wf.sz;have h2:es.size=ts.length:=by rw[<- K2,S.z9,KY]
 rw[KY]at h1;unfold SetTable.fits SetTable.fill;rw[S.wf.AH,h2,h1];have:=S.EM;simp;lia
theorem bK.size {o:Obj}{ts:List (Addr×List Int)}{es:Array (Int×KR)}{ep:Nat}{t:SetTable}(S:bK prog w o ts es ep t):es.size=ts.length/\t.place.size=ts.length:=by
 have h1:=S.wf.sz;rw[KY]at h1;exact⟨by rw[<- K2,S.z9,KY],h1⟩
theorem qG (d:Nat)(n:Int)(tk:Tok):ofAClassStatement d (.int n tk)=pure false:=by
 cases d <;> rfl
theorem lg {k:List Int}{b:Addr}{Q:Bool->KU->Prop}(hk:(TK prog w).is s.heap k b)(q:Q false s):Ln (model prog w) A (ofAClassStatement 8 (.ref b)) Q E s:=by
 obtain⟨o,items,n,ho,hc,hd,hi⟩:=hk;have hT:s.TypeIs (.ref b) "tuple" := ⟨o,ho,hc⟩;unfold ofAClassStatement;refine KS (wpAny_typeOf hT ?_);dsimp only;rw[if_pos (by rfl)]
 refine KS (K0 ?_);rw[if_neg (by simp)]
 refine KS (wpAny_seqItems ho hd ?_);dsimp only;rw[<- Array.forIn_toList];refine KS (OE _ (λrest r s'=>r=(none,())/\s'=s/\∀v∈rest,∃n tk,v=Value.int n tk) _ ?_ ?_ _ _ ⟨rfl,rfl,?_⟩)
 ·rintro v rest r s' ⟨rfl,rfl,jd⟩;obtain⟨n,tk,rfl⟩:=jd v Lg;rw[qG];refine KS (K0 ?_);rw[if_neg (by simp)]
  exact K0 ⟨rfl,rfl,λu hu=>jd u (Lc _ hu)⟩
 ·rintro r s' ⟨rfl,rfl,_⟩;exact K0 q
 ·generalize items.toList=vs at hi
  induction hi with
  |nil=>intro v hv;cases hv
  | @cons k v ks vs h1 h2 ih =>
   intro u hu;rcases K6.mp hu with rfl|hu
   ·obtain⟨t,rfl⟩:=Ox h1;exact⟨_,_,rfl⟩
   ·exact ih u hu
theorem uK {k:List Int}{b:Addr}(hk:(TK prog w).is s.heap k b)(l:List (Addr×List Int)){Q:Bool->KU->Prop}(T:wB prog w s.heap l)(q:Q false s):Ln (model prog w) A (searchCouldBeSeen (.ref b) (l.map λx=>Value.ref x.1)) Q E s:=by
 unfold searchCouldBeSeen;refine KS (OE _ (λrest r s'=>r=(none,())/\s'=s/\∀v∈rest,∃x∈l,v=Value.ref x.1) _ ?_ ?_ _ _ ⟨rfl,rfl,?_⟩)
 ·rintro v rest r s' ⟨rfl,rfl,jd⟩;obtain⟨x,hx,rfl⟩:=jd v Lg;have xj:∀v∈rest,∃x∈l,v=Value.ref x.1:=λu hu=>jd u (Lc _ hu);dsimp only
  split
  ·exact K0 ⟨rfl,rfl,xj⟩
  ·refine KS ((TK prog w).quiet hk ?_);rw[if_neg (by simp)]
   refine KS ((TK prog w).quiet (T x hx) ?_);rw[if_neg (by simp)]
   refine KS (lg hk ?_);rw[if_neg (by simp)]
   refine KS (lg (T x hx) ?_);rw[if_neg (by simp)]
   exact K0 ⟨rfl,rfl,xj⟩
 ·rintro r s' ⟨rfl,rfl,_⟩;exact K0 q
 ·intro v hv;obtain⟨x,hx,rfl⟩:=LC.mp hv;exact⟨x,hx,rfl⟩
end
end ST
namespace L2
open PySem PySem.Spec PyProof.Rows
inductive D where
 |bx|bl (b:Bool)|int (i:Int)|str (x:Str)|obj (a:Addr)
 |tup (ds:List D)|lst (ds:List D)
 |dT (ks:List (List Key)) (ds:List D)|dK (ks:List Key) (ds:List D)
 |sT (ts:List (List Int))
 /-- one object,by what EG there -/
 |ob (φ:Addr->HO)
def yi (P:K3)(w:Lf)(a:Addr)(ts:List (Addr×List Int))(h:Heap):Prop:=∃o es ep t,h.get? a=some o/\ST.bK P w o ts es ep t
abbrev ee (P:K3)(w:Lf)(a:Addr)(ts:List (Addr×List Int)):HO:=.ext (yi P w a ts)
def wC (P:K3)(w:Lf)(H:Hp)(a:Addr)(ts:List (List Int)):Prop :=
 ∃bg:List (Addr×List Int),H a=some (ee P w a bg)/\(∀x∈bg,H x.1=some (.tup (x.2.map V.int)))/\(bg.map (·.2)).Perm ts
section
variable (P:K3)(w:Lf)(W:Addr->Prop)(H:Hp)
mutual
def ar:D->V->Prop
 |.bx,v=>v=.bx
 |.bl b,v=>v=.bl b
 |.int i,v=>v=.int i
 |.str x,v=>v=.str x
 |.obj a,v=>v=.ref a
 |.tup ds,v=>∃a vs,v=.ref a/\H a=some (.tup vs)/\ag ds vs
 |.lst ds,v=>∃a vs,v=.ref a/\H a=some (.lst vs)/\¬ W a/\ag ds vs
 |.dT ks ds,v=>∃a vs,v=.ref a/\H a=some (.dT (ks.zip vs))/\ks.length=vs.length/\¬ W a/\ag ds vs
 |.dK ks ds,v=>∃a vs,v=.ref a/\H a=some (.dK (ks.zip vs))/\ks.length=vs.length/\¬ W a/\ag ds vs
 |.sT ts,v=>∃a,v=.ref a/\wC P w H a ts/\¬ W a
 |.ob φ,v=>∃a,v=.ref a/\(H a=some (φ a)/\∀xs,φ a≠.tup xs)/\¬ W a
def ag:List D->List V->Prop
 |[],vs=>vs=[]
 |d::ds,vs=>∃v r,vs=v::r/\ar d v/\ag ds r
end
end
mutual
def D.flat:D->Bool
 |.tup ds=>D.cY ds
 |.lst _=>false
 |.dT _ _=>false
 |.dK _ _=>false
 |.sT _=>false
 |.ob _=>false
 |_=>true
def D.cY:List D->Bool
 |[]=>true
 |d::ds=>D.flat d&&D.cY ds
end
structure Kp (W:Addr->Prop)(H H':Hp):Prop where
 out:∀b o,H b=some o->¬ W b->H' b=some o
 tup:∀b xs,H b=some (.tup xs)->H' b=some (.tup xs)
theorem Kp.refl {W:Addr->Prop}{H:Hp}:Kp W H H:=⟨λ_ _ e _=>e,λ_ _ e=>e⟩
theorem Kp.trans {W:Addr->Prop}{H H1 H2:Hp}(a:Kp W H H1)(b:Kp W H1 H2):Kp W H H2:=⟨λc o e n=>b.out c o (a.out c o e n) n,λc xs e=>b.tup c xs (a.tup c xs e)⟩
theorem ay.kp {W:Addr->Prop}{H H':Hp}(h:ay H H'):Kp W H H':=⟨λb o e _=>h b o e,λb xs e=>h b _ e⟩
theorem Kp.mono {W W':Addr->Prop}{H H':Hp}(h:Kp W H H')(s:∀a,W a->W' a):Kp W' H H':=⟨λb o e n=>h.out b o e λz=>n (s b z),h.tup⟩
section
variable {P:K3}{w:Lf}{W W':Addr->Prop}{H H':Hp}
mutual
theorem ar.keep (k:Kp W H H'):∀{d:D} {v:V},ar P w W H d v->ar P w W H' d v
 |.bx,_,h=>h
 |.bl _,_,h=>h
 |.int _,_,h=>h
 |.str _,_,h=>h
 |.obj _,_,h=>h
 |.tup ds,_,⟨a,vs,e,t,r⟩=>⟨a,vs,e,k.tup a vs t,ag.keep k r⟩
 |.lst ds,_,⟨a,vs,e,t,n,r⟩=>⟨a,vs,e,k.out a _ t n,n,ag.keep k r⟩
 |.dT ks ds,_,⟨a,vs,e,t,l,n,r⟩=>⟨a,vs,e,k.out a _ t n,l,n,ag.keep k r⟩
 |.dK ks ds,_,⟨a,vs,e,t,l,n,r⟩=>⟨a,vs,e,k.out a _ t n,l,n,ag.keep k r⟩
 |.sT ts,_,⟨a,e,⟨bg,t,r,z⟩,n⟩=>⟨a,e,⟨bg,k.out a _ t n,λx hx=>k.tup _ _ (r x hx),z⟩,n⟩
 |.ob φ,_,⟨a,e,⟨t,z⟩,n⟩=>⟨a,e,⟨k.out a _ t n,z⟩,n⟩
theorem ag.keep (k:Kp W H H'):∀{ds:List D} {vs:List V},ag P w W H ds vs->ag P w W H' ds vs
 |[],_,h=>h
 |d::ds,_,⟨v,r,e,h1,h2⟩=>⟨v,r,e,ar.keep k h1,ag.keep k h2⟩
end
mutual
theorem ar.aK (s:∀a,W' a->W a):∀{d:D} {v:V},ar P w W H d v->ar P w W' H d v
 |.bx,_,h=>h
 |.bl _,_,h=>h
 |.int _,_,h=>h
 |.str _,_,h=>h
 |.obj _,_,h=>h
 |.tup ds,_,⟨a,vs,e,t,r⟩=>⟨a,vs,e,t,ag.aK s r⟩
 |.lst ds,_,⟨a,vs,e,t,n,r⟩=>⟨a,vs,e,t,λz=>n (s a z),ag.aK s r⟩
 |.dT ks ds,_,⟨a,vs,e,t,l,n,r⟩=>⟨a,vs,e,t,l,λz=>n (s a z),ag.aK s r⟩
 |.dK ks ds,_,⟨a,vs,e,t,l,n,r⟩=>⟨a,vs,e,t,l,λz=>n (s a z),ag.aK s r⟩
 |.sT ts,_,⟨a,e,t,n⟩=>⟨a,e,t,λz=>n (s a z)⟩
 |.ob φ,_,⟨a,e,t,n⟩=>⟨a,e,t,λz=>n (s a z)⟩
theorem ag.aK (s:∀a,W' a->W a):∀{ds:List D} {vs:List V},ag P w W H ds vs->ag P w W' H ds vs
 |[],_,h=>h
 |d::ds,_,⟨v,r,e,h1,h2⟩=>⟨v,r,e,ar.aK s h1,ag.aK s h2⟩
end
mutual
theorem ar.flat:∀{d:D} {v:V},d.flat=true->ar P w W H d v->ar P w W' H d v
 |.bx,_,_,h=>h
 |.bl _,_,_,h=>h
 |.int _,_,_,h=>h
 |.str _,_,_,h=>h
 |.obj _,_,_,h=>h
 |.tup ds,_,f,⟨a,vs,e,t,r⟩=>⟨a,vs,e,t,ag.flat (by simpa[D.flat] using f) r⟩
 |.lst ds,_,f,_=>by simp[D.flat]at f
 |.dT ks ds,_,f,_=>by simp[D.flat]at f
 |.dK ks ds,_,f,_=>by simp[D.flat]at f
 |.sT ts,_,f,_=>by simp[D.flat]at f
 |.ob φ,_,f,_=>by simp[D.flat]at f
theorem ag.flat:∀{ds:List D} {vs:List V},D.cY ds=true->ag P w W H ds vs->ag P w W' H ds vs
 |[],_,_,h=>h
 |d::ds,_,f,⟨v,r,e,h1,h2⟩=>by
  have f':(d.flat&&D.cY ds)=true:=f;rw[LP]at f';exact⟨v,r,e,ar.flat f'.1 h1,ag.flat f'.2 h2⟩
end
theorem ar.same (s:ay H H'){d:D}{v:V}(h:ar P w W H d v):ar P w W H' d v:=h.keep s.kp
theorem ag.same (s:ay H H'){ds:List D}{vs:List V}(h:ag P w W H ds vs):ag P w W H' ds vs:=h.keep s.kp
theorem ag.length:∀{ds:List D} {vs:List V},ag P w W H ds vs->vs.length=ds.length
 |[],_,h=>by rw[show _=[] from h];rfl
 |d::ds,_,⟨v,r,e,h1,h2⟩=>by rw[e,Lm,Lm,ag.length h2]
theorem ag.get:∀{ds:List D} {vs:List V} {i:Nat} {d:D},ag P w W H ds vs->ds[i]?=some d->∃v,vs[i]?=some v/\ar P w W H d v
 |[],_,_,_,_,e=>by simp at e
 |d::ds,_,0,_,⟨v,r,e,h1,h2⟩,e'=>by simp at e';subst e' e;exact⟨v,by simp,h1⟩
 |d::ds,_,i+1,_,⟨v,r,e,h1,h2⟩,e'=>by
  subst e;obtain⟨u,e1,e2⟩:=ag.get (i:=i) h2 (by simpa using e')
  exact⟨u,by simpa using e1,e2⟩
theorem ag.append:∀{ds ds':List D} {vs vs':List V},ag P w W H ds vs->ag P w W H ds' vs'->ag P w W H (ds++ds') (vs++vs')
 |[],_,_,_,h,h'=>by rw[show _=[] from h];exact h'
 |d::ds,_,_,_,⟨v,r,e,h1,h2⟩,h'=>by subst e;exact⟨v,_,rfl,h1,ag.append h2 h'⟩
theorem ag.take:∀{ds:List D} {vs:List V} (n:Nat),ag P w W H ds vs->ag P w W H (ds.take n) (vs.take n)
 |[],_,n,h=>by rw[show _=[] from h];simp[ag]
 |d::ds,_,0,_=>by simp[ag]
 |d::ds,_,n+1,⟨v,r,e,h1,h2⟩=>by subst e;exact⟨v,_,rfl,h1,ag.take n h2⟩
theorem ag.drop:∀{ds:List D} {vs:List V} (n:Nat),ag P w W H ds vs->ag P w W H (ds.drop n) (vs.drop n)
 |[],_,n,h=>by rw[show _=[] from h];simp[ag]
 |d::ds,_,0,h=>h
 |d::ds,_,n+1,⟨v,r,e,h1,h2⟩=>by subst e;exact ag.drop n h2
end
open PySem.SeqAt
abbrev Dm (W:Addr->Prop)(H:Hp):Prop:=∀a,W a->H a≠none
abbrev Rp (X:Cx)(W:Addr->Prop)(H:Hp)(d:D)(v:V):Prop:=ar X.prog X.w W H d v
abbrev ot (X:Cx)(W:Addr->Prop)(H:Hp)(ds:List D)(vs:List V):Prop:=ag X.prog X.w W H ds vs
def Hm (X:Cx)(f:D->Option D):V->Hp->VK->Prop:=λx H Q=>∃W d1 d,Dm W H/\Rp X W H d1 x/\f d1=some d/\∀v H',ay H H'->Rp X W H' d v->Q v H'
def Hl (X:Cx)(f:D->D->Option D):R2:=λx y H Q=>∃W d1 d2 d,Dm W H/\Rp X W H d1 x/\Rp X W H d2 y/\f d1 d2=some d/\∀v H',ay H H'->Rp X W H' d v->Q v H'
def IV (X:Cx)(f:List D->Option D):List V->Hp->VK->Prop:=λxs H Q=>∃W ds d,Dm W H/\ot X W H ds xs/\f ds=some d/\∀v H',ay H H'->Rp X W H' d v->Q v H'
abbrev cS (X:Cx)(f:KR->KR->Sem KR)(g:D->D->Option D):Prop:=fV X f (Hl X g)
abbrev bJ (X:Cx)(f:KR)(g:List D->Option D):Prop:=dg X f (IV X g)
section
variable {X:Cx}{W:Addr->Prop}{H:Hp}
theorem oU {p:Addr}(d:Dm W H)(n:H p=none):¬ W p:=λz=>d p z n
theorem Rp.gh {p:Addr}{vs:List V}{ds:List D}(d:Dm W H)(n:H p=none)(r:ot X W H ds vs):Rp X W (upd H p (.lst vs)) (.lst ds) (.ref p) :=
 ⟨p,vs,rfl,ao,oU d n,r.same (ay.new n)⟩
end
def D.zr:D->Option Int
 |.int i=>some i
 |_=>none
def D.zq:D->Option (List D)
 |.lst a=>some a
 |_=>none
def D.Fq:D->Option (List D)
 |.tup a=>some a
 |_=>none
def D.xb:D->Bool
 |.bx=>true
 |_=>false
theorem D.fM {d:D}{i:Int}(h:d.zr=some i):d=.int i:=by cases d <;> first|(cases h;rfl)|cases h
theorem D.iM {d:D}{i:List D}(h:d.zq=some i):d=.lst i:=by cases d <;> first|(cases h;rfl)|cases h
theorem D.tf {d:D}{i:List D}(h:d.Fq=some i):d=.tup i:=by cases d <;> first|(cases h;rfl)|cases h
theorem D.lY {d:D}(h:d.xb=true):d=.bx:=by cases d <;> first|rfl|cases h
theorem D.vJ {d:D}:d=.bx↔d.xb=true:=⟨λe=>by rw[e];rfl,D.lY⟩
def kB (f:Int->Int->Option D)(a b:D):Option D:=match a.zr,b.zr with
 |some i,some j=>f i j
 |_,_=>none
theorem gk {f:Int->Int->Option D}{a b d:D}(h:kB f a b=some d):∃i j,a=.int i/\b=.int j/\f i j=some d:=by
 unfold kB at h;cases ha:a.zr with
 |none=>rw[ha]at h;cases h
 |some i =>
  cases hb:b.zr with
  |none=>rw[ha,hb]at h;cases h
  |some j=>rw[ha,hb]at h;exact⟨i,j,D.fM ha,D.fM hb,h⟩
def yZ (f:D->D->Option D)(g:List D->List D->Option D)(a b:D):Option D:=match a.zq,b.zq with
 |some i,some j=>g i j
 |_,_=>f a b
theorem qj {f:D->D->Option D}{g:List D->List D->Option D}{a b d:D}(h:yZ f g a b=some d):(∃i j,a=.lst i/\b=.lst j/\g i j=some d)\/f a b=some d:=by
 unfold yZ at h;cases ha:a.zq with
 |none=>rw[ha]at h;exact .inr h
 |some i =>
  cases hb:b.zq with
  |none=>rw[ha,hb]at h;exact .inr h
  |some j=>rw[ha,hb]at h;exact .inl ⟨i,j,D.iM ha,D.iM hb,h⟩
def Ac:D->D->Option D:=yZ (kB λi j=>some (.int (i+j))) λa b=>if a.length+b.length<=Lk then some (.lst (a++b)) else none
def GP:D->D->Option D:=kB λi j=>some (.int (i-j))
instance (i j:Int):Decidable (uw i j):=by unfold uw;infer_instance
instance (i j:Int):Decidable (oz i j):=by unfold oz;infer_instance
def C4:D->D->Option D:=kB λi j=>if 0<j then some (.int (i % j)) else none
def C3:D->D->Option D:=kB λi j=>if oz i j then some (.int (i ^ j.toNat)) else none
def GQ:D->Option D
 |.int i=>some (.int (-i))
 |_=>none
section
variable {X:Cx}
theorem dD {c:Prop}[Decidable c]{α:Type}{a b:α}(h:(if c then some a else none)=some b):c/\b=a:=by
 by_cases hc:c
 ·rw[if_pos hc]at h;cases h;exact⟨hc,rfl⟩
 ·rw[if_neg hc]at h;cases h
theorem wV {f:KR->KR->Sem KR}{C:Int->Int->Prop}{g:Int->Int->V}{h:Int->Int->D}{F:Int->Int->Option D}(ho:fV X f (rI C g))(hF:∀i j d,F i j=some d->C i j/\d=h i j)
  (hg:∀(W:Addr->Prop) (H:Hp) i j,Rp X W H (h i j) (g i j)):cS X f (kB F):=by
 intro pins s σ H x y v u Q I rx ry hh;obtain⟨W,d1,d2,d,hd,r1,r2,e,q⟩:=hh;obtain⟨i,j,rfl,rfl,e⟩:=gk e;obtain⟨c,rfl⟩:=hF _ _ _ e;cases r1;cases r2;exact ho pins s σ H _ _ v u Q I rx ry ⟨i,j,rfl,rfl,c,q _ _ (ay.refl _) (hg W H i j)⟩
theorem sJ {f:KR->KR->Sem KR}{g:Int->Int->V}{h:Int->Int->D}(ho:fV X f (uY g))
  (hg:∀(W:Addr->Prop) (H:Hp) i j,Rp X W H (h i j) (g i j)):cS X f (kB λi j=>some (h i j)):=by
 intro pins s σ H x y v u Q I rx ry hh;obtain⟨W,d1,d2,d,hd,r1,r2,e,q⟩:=hh;obtain⟨i,j,rfl,rfl,e⟩:=gk e;cases e;cases r1;cases r2;exact ho pins s σ H _ _ v u Q I rx ry ⟨i,j,rfl,rfl,q _ _ (ay.refl _) (hg W H i j)⟩
theorem fE:cS X (MF .Sub) GP:=sJ (h:=λi j=>.int (i-j)) sG λ_ _ _ _=>rfl
theorem vp:cS X (MF .Mod) C4:=wV (h:=λi j=>.int (i % j)) iD (λ_ _ _ e=>dD e) λ_ _ _ _=>rfl
theorem vo:cS X (MF .Pow) C3:=wV (h:=λi j=>.int (i ^ j.toNat)) iC (λ_ _ _ e=>dD e) λ_ _ _ _=>rfl
theorem cT:Dh X (unaryOp .USub) (Hm X GQ):=by
 intro pins s σ H x v Q I rx h;obtain⟨W,d1,d,hd,r1,e,q⟩:=h;cases d1 with
 |int i=>cases e;cases r1;exact xY pins s σ H _ v Q I rx ⟨i,rfl,q _ _ (ay.refl _) rfl⟩
 |_=>cases e
end
def wm (p:Int->Int->Bool):D->D->Option D:=kB λi j=>some (.bl (p i j))
abbrev DZ:D->D->Option D:=wm λi j=>decide (i<j)
abbrev Kb:D->D->Option D:=wm λi j=>decide (i<=j)
abbrev Kc:D->D->Option D:=wm λi j=>decide (j<i)
section
variable {X:Cx}
theorem ki {p:Int->Int->Bool}{f:KR->KR->Sem KR}(ho:fV X f (uY λi j=>.bl (p i j))):cS X f (wm p):=sJ (h:=λi j=>.bl (p i j)) ho λ_ _ _ _=>rfl
theorem cJ:cS X (LW .Lt) DZ:=ki BA
theorem sI:cS X (LW .LtE) Kb:=ki BB
theorem sL:cS X (LW .Gt) Kc:=ki wU
end
mutual
def D.pd:D->PyData
 |.bx=>.none
 |.bl b=>.bool b
 |.int i=>.int i
 |.str x=>.str x
 |.tup ds=>.tuple (D.mT ds)
 |.lst ds=>.list (D.mT ds)
 |_=>.dict []
def D.mT:List D->List PyData
 |[]=>[]
 |d::ds=>d.pd::D.mT ds
end
abbrev D.rL (d:D):Bool:=shaped d.pd
mutual
theorem d0 {X:Cx}{pins:List (Addr×Obj)}{σ:St}{H:Hp}{s:KU}(I:Inv X pins σ H s){W:Addr->Prop}:∀{d:D} {v:V} {u:KR},Rp X W H d v->RelV v u->d.pd.canLay0=true->∃as,Reads s.heap u d.pd as
 |.bx,_,_,h,r,_=>by cases h;cases r;exact⟨_,.none⟩
 |.bl b,_,_,h,r,_=>by cases h;cases r;exact⟨_,.bool b⟩
 |.int i,_,_,h,r,_=>by cases h;obtain⟨t,rfl⟩:=r;exact⟨_,.int i t⟩
 |.str x,_,_,h,r,_=>by cases h;obtain⟨t,rfl⟩:=r;exact⟨_,.str x t⟩
 |.tup ds,_,_,h,r,c=>by
  obtain⟨a,vs,rfl,e,q⟩:=h;cases r;obtain⟨its,rv,⟨o,ho,hc,n,hd⟩,hz⟩:=I.tuple (q0.of e);obtain⟨as,ha⟩:=d3 I q rv (by simpa[D.pd,Mc] using c)
  exact⟨_,.tuple ho hc hd (by simpa using ha)⟩
 |.lst ds,_,_,h,r,c=>by
  obtain⟨a,vs,rfl,e,_,q⟩:=h;cases r;obtain⟨z,its,n,rv,e'⟩:=I.a_ a _ e;obtain⟨as,ha⟩:=d3 I q rv (by simpa[D.pd,Mc] using c)
  exact⟨_,.list e' rfl rfl (by simpa using ha)⟩
 |.obj _,_,_,_,_,c=>by simp[D.pd,Mc]at c
 |.dT _ _,_,_,_,_,c=>by simp[D.pd,Mc]at c
 |.dK _ _,_,_,_,_,c=>by simp[D.pd,Mc]at c
 |.sT _,_,_,_,_,c=>by simp[D.pd,Mc]at c
 |.ob _,_,_,_,_,c=>by simp[D.pd,Mc]at c
theorem d3 {X:Cx}{pins:List (Addr×Obj)}{σ:St}{H:Hp}{s:KU}(I:Inv X pins σ H s){W:Addr->Prop}:∀{ds:List D} {vs:List V} {us:List KR},ot X W H ds vs->Vals vs us->MV (D.mT ds)=true->∃as,ReadsAll s.heap us (D.mT ds) as
 |[],_,_,h,r,_=>by
  rw[show _=[] from h]at r
  cases r;exact⟨_,.nil⟩
 |d::ds,_,_,⟨v,vr,e,h1,h2⟩,r,c=>by
  subst e;have c':(d.pd.canLay0&&MV (D.mT ds))=true:=c;rw[LP]at c';cases r with
  |cons r1 r2 =>
   obtain⟨as,ha⟩:=d0 I h1 r1 c'.1;obtain⟨bs,hb⟩:=d3 I h2 r2 c'.2;exact⟨_,.cons ha hb⟩
end
def D_ (a b:D):Option D:=if a.rL=true/\b.rL=true then some (.bl (MG a.pd b.pd)) else none
def xv (a b:D):Option D:=if a.rL=true/\b.rL=true then some (.bl (!MG a.pd b.pd)) else none
section
variable {X:Cx}
theorem d7 (hu:X.A.units+64<Nl):cS X (LW .Eq) D_:=by
 intro pins s σ H x y v u Q I rx ry h;obtain⟨W,d1,d2,d,hd,r1,r2,e,q⟩:=h;obtain⟨⟨s1,s2⟩,rfl⟩:=dD e;obtain⟨as,ra⟩:=d0 I r1 rx (NR s1);obtain⟨bs,rb⟩:=d0 I r2 ry (NR s2);exact compareEq_shaped ra rb s1 s2 hu ⟨.bl _,H,I,rfl,q _ _ (ay.refl _) rfl⟩
theorem dz (hu:X.A.units+64<Nl):cS X (LW .NotEq) xv:=by
 intro pins s σ H x y v u Q I rx ry h;obtain⟨W,d1,d2,d,hd,r1,r2,e,q⟩:=h;obtain⟨⟨s1,s2⟩,rfl⟩:=dD e;obtain⟨as,ra⟩:=d0 I r1 rx (NR s1);obtain⟨bs,rb⟩:=d0 I r2 ry (NR s2);exact compareNe_shaped ra rb s1 s2 hu ⟨.bl _,H,I,rfl,q _ _ (ay.refl _) rfl⟩
def GU (a b:D):Option D:=match b.xb with
 |true=>some (.bl a.xb)
 |false=>none
theorem Rp.vB {W:Addr->Prop}{H:Hp}{d:D}{v:V}(h:Rp X W H d v):v=.bx↔d=.bx:=by
 cases d with
 |bx=>cases h;simp
 |bl b=>cases h;simp
 |int i=>cases h;simp
 |str x=>cases h;simp
 |obj a=>cases h;simp
 |tup ds=>obtain⟨a,vs,rfl,_⟩:=h;simp
 |lst ds=>obtain⟨a,vs,rfl,_⟩:=h;simp
 |dT ks ds=>obtain⟨a,vs,rfl,_⟩:=h;simp
 |dK ks ds=>obtain⟨a,vs,rfl,_⟩:=h;simp
 |sT ts=>obtain⟨a,rfl,_⟩:=h;simp
 |ob φ=>obtain⟨a,rfl,_⟩:=h;simp
theorem tj {b d e:D}(h:(match b.xb with|true=>some d|false=>none)=some e):b=.bx/\e=d:=by
 cases q:b.xb with
 |true=>rw[q]at h;cases h;exact⟨D.lY q,rfl⟩
 |false=>rw[q]at h;cases h
theorem Rp.vC {W:Addr->Prop}{H:Hp}{d:D}{v:V}(h:Rp X W H d v):decide (v=.bx)=d.xb:=by
 have q:=h.vB.trans D.vJ;cases e:d.xb with
 |true=>exact decide_eq_true (q.mpr e)
 |false=>exact decide_eq_false λz=>by rw[q.mp z]at e;cases e
theorem vq:cS X (LW .Is) GU:=by
 intro pins s σ H x y v u Q I rx ry h;obtain⟨W,d1,d2,d,hd,r1,r2,e,q⟩:=h;obtain⟨rfl,rfl⟩:=tj e;cases r2;exact yH pins s σ H _ _ v u Q I rx ry ⟨rfl,q _ _ (ay.refl _) (congrArg V.bl r1.vC)⟩
end
section
variable {X:Cx}
def Aa (a b:D):Option D:=match b.zr with
 |some i=>match a.zq with
  |some ds=>mK ds i
  |none=>match a.Fq with
   |some ds=>mK ds i
   |none=>none
 |none=>none
theorem tZ {a b d:D}(h:Aa a b=some d):∃ds i,(a=.lst ds\/a=.tup ds)/\b=.int i/\mK ds i=some d:=by
 unfold Aa at h;cases hb:b.zr with
 |none=>rw[hb]at h;cases h
 |some i =>
  rw[hb]at h;cases ha:a.zq with
  |some ds=>rw[ha]at h;exact⟨ds,i,.inl (D.iM ha),D.fM hb,h⟩
  |none =>
   rw[ha]at h;cases ht:a.Fq with
   |some ds=>rw[ht]at h;exact⟨ds,i,.inr (D.tf ht),D.fM hb,h⟩
   |none=>rw[ht]at h;cases h
theorem ot.mK {W:Addr->Prop}{H:Hp}{ds:List D}{vs:List V}{i:Int}{d:D}(h:ot X W H ds vs)(e:L2.mK ds i=some d):∃v,L2.mK vs i=some v/\Rp X W H d v:=by
 unfold L2.mK at *
 rw[h.length];cases q:zk ds.length i with
 |none=>rw[q]at e;cases e
 |some j =>
  rw[q]at e;exact ag.get h e
theorem zj:AL X (Hl X Aa):=by
 intro value slice pins s σ H x y v u Q I rx ry h hs;obtain⟨W,d1,d2,d,hd,r1,r2,e,q⟩:=h;obtain⟨ds,i,h,rfl,e⟩:=tZ e;cases r2;rcases h with rfl|rfl
 ·obtain⟨p,vs,rfl,h1,n1,q1⟩:=r1;obtain⟨z,hz,rz⟩:=ot.mK (X:=X) q1 e;exact eI value slice pins s σ H _ _ v u Q I rx ry ⟨p,vs,i,z,rfl,rfl,de.of h1,hz,q _ _ (ay.refl _) rz⟩ hs
 ·obtain⟨p,vs,rfl,h1,q1⟩:=r1;obtain⟨z,hz,rz⟩:=ot.mK (X:=X) q1 e;exact zi value slice pins s σ H _ _ v u Q I rx ry ⟨p,vs,i,z,rfl,rfl,q0.of h1,hz,q _ _ (ay.refl _) rz⟩ hs
def cutD (xs:List D)(lo hi:Option Int):List D:=(xs.drop (HT.gW xs.length 0 lo)).take (HT.gW xs.length xs.length hi-HT.gW xs.length 0 lo)
def DY:D->Option Int->Option Int->Option D
 |.lst ds,lo,hi=>some (.lst (cutD ds lo hi))
 |_,_,_=>none
def GS:List D->Option D
 |[.lst ds]=>some (.int ds.length)
 |[.tup ds]=>some (.int ds.length)
 |_=>none
theorem qL:bJ X (.builtin "len") GS:=by
 intro pins s σ H xs us Q I r h;obtain⟨W,ds,d,hd,r1,e,q⟩:=h
 match ds,e with
 |[.lst es],e =>
  cases e;obtain⟨v,r',rfl,⟨p,vs,rfl,h1,n1,q1⟩,hr⟩:=r1;cases hr;refine fS pins s σ H _ us Q I r ⟨p,vs,rfl,.inl (de.of h1),?_⟩;rw[q1.length];exact q _ _ (ay.refl _) rfl
 |[.tup es],e =>
  cases e;obtain⟨v,r',rfl,⟨p,vs,rfl,h1,q1⟩,hr⟩:=r1;cases hr;refine fS pins s σ H _ us Q I r ⟨p,vs,rfl,.inr (q0.of h1),?_⟩;rw[q1.length];exact q _ _ (ay.refl _) rfl
def dList:List D->Option D
 |[.lst ds]=>some (.lst ds)
 |[.tup ds]=>some (.lst ds)
 |_=>none
def C6:List D->Option D
 |[.int i,.int j]=>some (.int (if j>i then j else i))
 |_=>none
def C5:List D->Option D
 |[.int i,.int j]=>some (.int (if j<i then j else i))
 |_=>none
theorem uj {W:Addr->Prop}{H:Hp}{a b:D}{xs:List V}(h:ot X W H [a,b] xs):∃x y,xs=[x,y]/\Rp X W H a x/\Rp X W H b y:=by
 obtain⟨x,r,rfl,hx,y,r',rfl,hy,hr⟩:=h;cases hr;exact⟨x,y,rfl,hx,hy⟩
theorem jS {W:Addr->Prop}{H:Hp}{a:D}{xs:List V}(h:ot X W H [a] xs):∃x,xs=[x]/\Rp X W H a x:=by
 obtain⟨x,r,rfl,hx,hr⟩:=h;cases hr;exact⟨x,rfl,hx⟩
theorem dE (hc:X.calm=true):bJ X (.builtin "max") C6:=by
 intro pins s σ H xs us Q I r h;obtain⟨W,ds,d,hd,r1,e,q⟩:=h
 match ds,e with
 |[.int i,.int j],e =>
  cases e;obtain⟨x,y,rfl,hx,hy⟩:=uj r1;cases hx;cases hy;exact jN hc pins s σ H _ us Q I r ⟨i,j,rfl,q _ _ (ay.refl _) rfl⟩
theorem cQ (hc:X.calm=true):bJ X (.builtin "min") C5:=by
 intro pins s σ H xs us Q I r h;obtain⟨W,ds,d,hd,r1,e,q⟩:=h
 match ds,e with
 |[.int i,.int j],e =>
  cases e;obtain⟨x,y,rfl,hx,hy⟩:=uj r1;cases hx;cases hy;exact qI hc pins s σ H _ us Q I r ⟨i,j,rfl,q _ _ (ay.refl _) rfl⟩
def GV:List D->Option D
 |[.int i]=>some (.int i)
 |[.bl k]=>some (.int (if k then 1 else 0))
 |_=>none
theorem qM:bJ X (.type "int") GV:=by
 intro pins s σ H xs us Q I r h;obtain⟨W,ds,d,hd,r1,e,q⟩:=h
 match ds,e with
 |[.int i],e =>
  cases e;obtain⟨x,rfl,hx⟩:=jS r1;cases hx;exact gv pins s σ H _ us Q I r (.inl ⟨i,rfl,q _ _ (ay.refl _) rfl⟩)
 |[.bl k],e =>
  cases e;obtain⟨x,rfl,hx⟩:=jS r1;cases hx;exact gv pins s σ H _ us Q I r (.inr ⟨k,rfl,q _ _ (ay.refl _) rfl⟩)
end
theorem PE.pre {X:Cx}{e:Expr}{t t':TE}(h:PE X e t)(k:∀σ H Q,t' σ H Q->t σ H Q):PE X e t':=λpins s σ H Q I q=>h pins s σ H Q I (k σ H Q q)
theorem PT.pre {X:Cx}{e:Expr}{t t':TT}(h:PT X e t)(k:∀σ H Q,t' σ H Q->t σ H Q):PT X e t':=λpins s σ H Q I q=>h pins s σ H Q I (k σ H Q q)
theorem PA.pre {X:Cx}{es:List Expr}{t t':TA}(h:PA X es t)(k:∀σ H Q,t' σ H Q->t σ H Q):PA X es t':=λpos pins s σ H Q I q=>h pos pins s σ H Q I (k σ H Q q)
section
variable {X:Cx}{e:Expr}{σ:St}{H:Hp}
theorem PW.pre {t t':TT}(h:PW X e t)(k:∀σ H Q,t' σ H Q->t σ H Q):PW X e t':=λw pins s σ H Q I q=>h w pins s σ H Q I (k σ H Q q)
end
abbrev FD:=List D->(D->Prop)->Prop
def i6 (F:FD):Prop:=∀ds R R',(∀d,R d->R' d)->F ds R->F ds R'
section
end
section
variable {X:Cx}{e:Expr}{pos:Pos}{σ:St}{H:Hp}
theorem xO.pre {ops:List Ng}{rs:List Expr}{t t':V->TE}(h:xO X ops rs t)(k:∀x σ H Q,t' x σ H Q->t x σ H Q):xO X ops rs t':=λpos pins s σ H x v Q I r q=>h pos pins s σ H x v Q I r (k x σ H Q q)
theorem mQ.pre {ops:List Ng}{rs:List Expr}{t t':V->TT}(h:mQ X ops rs t)(k:∀x σ H Q,t' x σ H Q->t x σ H Q):mQ X ops rs t':=λpos pins s σ H x v Q I r q=>h pos pins s σ H x v Q I r (k x σ H Q q)
theorem PO.pre {e:Option Expr}{t t':TO}(h:PO X e t)(k:∀σ H Q,t' σ H Q->t σ H Q):PO X e t':=λpins s σ H Q I q=>h pins s σ H Q I (k σ H Q q)
end
abbrev NF:D->Prop:=λd=>d.flat=true
section
abbrev NL:D->Prop:=λd=>match d with | .lst ds=>D.cY ds=true|d=>d.flat=true
end
section
variable {P:K3}{w:Lf}{W W':Addr->Prop}{H:Hp}
mutual
theorem ar.grow (s:∀a,W' a->W a\/H a=none):∀{d:D} {v:V},ar P w W H d v->ar P w W' H d v
 |.bx,_,h=>h
 |.bl _,_,h=>h
 |.int _,_,h=>h
 |.str _,_,h=>h
 |.obj _,_,h=>h
 |.tup ds,_,⟨a,vs,e,t,r⟩=>⟨a,vs,e,t,ag.grow s r⟩
 |.lst ds,_,⟨a,vs,e,t,n,r⟩=>⟨a,vs,e,t,λz=>(s a z).elim n λq=>(by rw[t]at q;cases q),ag.grow s r⟩
 |.dT ks ds,_,⟨a,vs,e,t,l,n,r⟩=>⟨a,vs,e,t,l,λz=>(s a z).elim n λq=>(by rw[t]at q;cases q),ag.grow s r⟩
 |.dK ks ds,_,⟨a,vs,e,t,l,n,r⟩=>⟨a,vs,e,t,l,λz=>(s a z).elim n λq=>(by rw[t]at q;cases q),ag.grow s r⟩
 |.sT ts,_,⟨a,e,⟨bg,t,r,z⟩,n⟩=>⟨a,e,⟨bg,t,r,z⟩,λz=>(s a z).elim n λq=>(by rw[t]at q;cases q)⟩
 |.ob φ,_,⟨a,e,⟨t,z⟩,n⟩=>⟨a,e,⟨t,z⟩,λz=>(s a z).elim n λq=>(by rw[t]at q;cases q)⟩
theorem ag.grow (s:∀a,W' a->W a\/H a=none):∀{ds:List D} {vs:List V},ag P w W H ds vs->ag P w W' H ds vs
 |[],_,h=>h
 |d::ds,_,⟨v,r,e,h1,h2⟩=>⟨v,r,e,ar.grow s h1,ag.grow s h2⟩
end
end
def Ki (X:Cx)(W:Addr->Prop)(J:It)(ds:List D)(H0:Hp):Prop:=∀(i:Nat) (H:Hp),Kp W H0 H ->
 (∀d,ds[i]?=some d->J.go i H/\∀x H1,J.Dq i H x H1->ay H H1/\Rp X W H1 d x)/\(ds.length<=i->J.stop i H)
def AM (X:Cx)(W:Addr->Prop)(J:It)(ds:List D)(H0:Hp):Prop:=∀W':Addr->Prop,(∀b,W' b->W b\/H0 b=none)->Ki X W' J ds H0
section
variable {X:Cx}{tg e:Expr}
theorem PI.pre {iter:Expr}{t t':TI}(h:PI X tg iter t)(k:∀σ H R,t' σ H R->t σ H R):PI X tg iter t':=λpins s σ H R I q=>h pins s σ H R I (k σ H R q)
theorem lX {W:Addr->Prop}{H:Hp}{p:Addr}{vs:List V}{ds:List D}(h1:H p=some (.lst vs))(n1:¬ W p)(q1:ot X W H ds vs):AM X W (Eg X.K p) ds H:=λW' hW i H' k=>by
 have h2:=k.out p _ h1 λz=>(hW p z).elim n1 λq=>by rw[h1]at q;cases q
 replace q1:=ag.grow hW q1;constructor
 ·intro d hd;obtain⟨v,hv,rv⟩:=ag.get q1 hd;refine⟨⟨vs,v,de.of h2,hv⟩,λx H1 y=>?_⟩;obtain⟨rfl,y⟩:=y;have e:=y vs (de.of h2);rw[hv]at e;cases e;exact⟨ay.refl _,rv.keep k⟩
 ·intro hl;exact⟨vs,de.of h2,by rw[q1.length];exact hl⟩
def j_ (lo:Int)(n:Nat):List D:=(LU n).map λ(k:Nat)=>D.int (lo+(k:Int))
theorem jB {W:Addr->Prop}{H:Hp}{lo:Int}{n:Nat}:AM X W (Dn lo n) (j_ lo n) H:=λ_ _ i H' k=>by
 constructor
 ·intro d hd;unfold j_ at hd;rw[Lj]at hd;have hi:i<n:=by
   by_cases h:i<n
   ·exact h
   ·rw[MC (by simpa using h)]at hd;cases hd
  rw[Oi hi]at hd;cases hd;refine⟨hi,λx H1 y=>?_⟩;obtain⟨rfl,rfl⟩:=y;exact⟨ay.refl _,rfl⟩
 ·intro hl;unfold j_ at hl;rw[KY,NA]at hl;exact hl
end
section
variable {X:Cx}{tg:Expr}{pL:List Expr}
theorem PG.pre {t t':TG}(h:PG X tg t)(k:∀v σ H Q,t' v σ H Q->t v σ H Q):PG X tg t':=λpins s σ H v u Q I r q=>h pins s σ H v u Q I r (k v σ H Q q)
theorem xN.pre {t t':xH}(h:xN X pL t)(k:∀v σ H Q,t' v σ H Q->t v σ H Q):xN X pL t':=λpins s σ H v u Q I r q=>h pins s σ H v u Q I r (k v σ H Q q)
end
theorem iJ {H:Hp}{a:Addr}{o o':HO}(h:H a=some o)(ht:∀xs,o≠.tup xs):Kp (·=a) H (upd H a o') :=
 ⟨λb u e n=>by rw[aj n];exact e,λb xs e=>by rw[aj (BI e h (λz=>ht xs z.symm))];exact e⟩
section
end
section
end
section
end
section
variable {σ:St}{β:bt}{own:Nat->List Addr}
def aE (own:Nat->List Addr)(i:Nat)(as:List Addr):Nat->List Addr:=λj=>if j=i then as else own j
theorem aW {own:Nat->List Addr}{i j:Nat}{a:Addr}(h:a∈aE own i [] j):a∈own j/\j≠i:=by
 unfold aE at h
 by_cases e:j=i
 ·rw[if_pos e]at h;cases h
 ·rw[if_neg e]at h;exact⟨h,e⟩
theorem aQ {α:Type}{β:List α}{i j:Nat}{x:α}(h:i≠j):(β.set i x)[j]?=β[j]?:=by rw[MZ,if_neg h]
theorem aS {α:Type}{β:List α}{i:Nat}{x y:α}(h:(β.set i x)[i]?=some y):y=x/\i<β.length:=by
 rw[MZ,if_pos rfl]at h
 by_cases hi:i<β.length
 ·rw[if_pos hi]at h;cases h;exact⟨rfl,hi⟩
 ·rw[if_neg hi]at h;cases h
theorem get_set {α:Type}{σ:List α}{i:Nat}{x:α}(h:i<σ.length):(σ.set i x)[i]?=some x:=by rw[MZ,if_pos rfl,if_pos h]
end
structure Sn (Z:Hp×(Addr->Prop))(H:Hp)(W:Addr->Prop):Prop where
 w:∀b,W b->Z.2 b\/Z.1 b=none
 k:Kp (λb=>Z.2 b\/Z.1 b=none) Z.1 H
 d:∀b,Z.1 b≠none->H b≠none
theorem Sn.refl {H:Hp}{W:Addr->Prop}:Sn (H,W) H W:=⟨λ_ z=>.inl z,Kp.refl,λ_ z=>z⟩
theorem Sn.same {Z:Hp×(Addr->Prop)}{H H':Hp}{W:Addr->Prop}(n:Sn Z H W)(s:ay H H'):Sn Z H' W:=⟨n.w,n.k.trans s.kp,λb z e=>n.d b z (s.free e)⟩
theorem Sn.free {Z:Hp×(Addr->Prop)}{H:Hp}{W:Addr->Prop}(n:Sn Z H W){a:Addr}(h:H a=none):Z.1 a=none:=by
 cases q:Z.1 a with
 |none=>rfl
 |some o=>exact absurd h (n.d a (by rw[q];intro z;cases z))
theorem Sn.upd {Z:Hp×(Addr->Prop)}{H:Hp}{W:Addr->Prop}(n:Sn Z H W){a:Addr}{o o':HO}(h:H a=some o)(ht:∀xs,o≠.tup xs)(wa:W a):Sn Z (L2.upd H a o') W :=
 ⟨n.w,n.k.trans ((iJ h ht).mono λb z=>by rw[z];exact n.w a wa),λb z e=>by
  by_cases hb:b=a
  ·subst hb;rw[ao]at e;cases e
  ·rw[aj hb]at e;exact n.d b z e⟩
theorem Sn.trans {Z:Hp×(Addr->Prop)}{H1 H:Hp}{W1 W:Addr->Prop}(n1:Sn Z H1 W1)(n:Sn (H1,W1) H W):Sn Z H W:=by
 have big:∀b,W1 b\/H1 b=none->Z.2 b\/Z.1 b=none:=λb z=>z.elim (n1.w b) λq=>.inr (n1.free q);exact⟨λb z=>big b (n.w b z),n1.k.trans (n.k.mono big),λb z=>n.d b (n1.d b z)⟩
section
variable {X:Cx}{st:Stmt}{rest:List Stmt}{σ:St}{H:Hp}
theorem PS.pre {t t':TS}(h:PS X st t)(k:∀D σ H,t' D σ H->t D σ H):PS X st t':=λpins s σ H D I q=>h pins s σ H D I (k D σ H q)
theorem mM.pre {t t':TS}(h:mM X rest t)(k:∀D σ H,t' D σ H->t D σ H):mM X rest t':=λpins s σ H D I q=>h pins s σ H D I (k D σ H q)
end
section
variable {b:Expr}{H:Hp}
theorem held {P:K3}{w:Lf}{W W2:Addr->Prop}{H2:Hp}{d:D}{v:V}(r:ar P w W H d v)(n:Sn (H,W) H2 W2):ar P w W2 H2 d v :=
 ar.aK n.w (ar.keep n.k (ar.grow (λb z=>z) r))
end
theorem Sn.kp {Z:Hp×(Addr->Prop)}{H H':Hp}{W:Addr->Prop}(n:Sn Z H W)(k:Kp W H H')(dn:∀c,H c≠none->H' c≠none):Sn Z H' W:=⟨n.w,n.k.trans (k.mono n.w),λb z=>dn b (n.d b z)⟩
section
end
section
end
end L2
namespace Kj
open PySem PySem.Spec PyProof.Rows
section
open PySem.SeqAt
open PySem.AutoSeq1 (wpAny_loadPart')
open PySem.MeetsSeq PySem.MeetsSeq2 PySem.MeetsSeq3
end
section
end
section
open PySem.SeqAt
open PySem.AutoSeq1 (wpAny_loadPart')
open PySem.MeetsSeq PySem.MeetsSeq2 PySem.MeetsSeq3
end
section
end
end Kj
namespace L2
open PySem PySem.Spec PySem.SeqAt PyProof.Rows
def gL:List D->Option (List Int)
 |[]=>some []
 |.int i::ds=>(gL ds).map (i::·)
 |_::_=>none
theorem l3:∀{ds:List D} {ns:List Int},gL ds=some ns->ds=ns.map D.int
 |[],_,h=>by cases h;rfl
 |.int i::ds,_,h=>by
  obtain⟨ns,h1,rfl⟩:=LG.mp h;rw[LJ,<- l3 h1]
 |.bx::_,_,h=>by cases h
 |.bl _::_,_,h=>by cases h
 |.str _::_,_,h=>by cases h
 |.obj _::_,_,h=>by cases h
 |.tup _::_,_,h=>by cases h
 |.lst _::_,_,h=>by cases h
 |.dT _ _::_,_,h=>by cases h
 |.dK _ _::_,_,h=>by cases h
 |.sT _::_,_,h=>by cases h
 |.ob _::_,_,h=>by cases h
theorem jD:∀(ns:List Int),gL (ns.map D.int)=some ns
 |[]=>rfl
 |n::ns=>by rw[LJ];show (gL (ns.map D.int)).map _=_;rw[jD ns];rfl
theorem cn {P:K3}{w:Lf}{W:Addr->Prop}{H:Hp}:∀{ns:List Int} {vs:List V},ag P w W H (ns.map D.int) vs->vs=ns.map V.int
 |[],_,h=>h
 |n::ns,_,⟨v,r,e,h1,h2⟩=>by rw[e,cn h2,show v=V.int n from h1];rfl
theorem jC {P:K3}{w:Lf}{W:Addr->Prop}{H:Hp}:∀(ns:List Int),ag P w W H (ns.map D.int) (ns.map V.int)
 |[]=>rfl
 |n::ns=>⟨_,_,rfl,rfl,jC ns⟩
section
end
end L2
namespace TS
open PySem PyProof.Rows
section
variable {prog:K3}{w:Lf}{A:LI}{E:KR->KU->Prop}{s:KU}
theorem ni {x:KR}{vs:List KR}{kf:KR->List Int}{Q:KR->KU->Prop}(hz:vs.length<=1000000)
  (col:∀(B:LI) (R:List KR->KU->Prop),B.units<=A.units+1->(∀(h':Heap) (tk:Nat),(∀b o,s.heap.get? b=some o->h'.get? b=some o)->s.heap.objs.size<=h'.objs.size->R vs {s with heap:=h',toks:=tk})->Ln (model prog w) B (collect x) R E s)
  (T:jh s.heap kf s.heap.objs.size vs)
  (h:∀(out:List KR) (l:Addr) (h':Heap) (tk:Nat) (n:Nat),out.Perm vs->out.Pairwise (λx y=>HT.lexLt (kf y) (kf x)=false)->s.heap.objs.size<=l->(∀b o,s.heap.get? b=some o->h'.get? b=some o)->h'.get? l=some (Mr "list" out.toArray n)->Q (.ref l) {s with heap:=h',toks:=tk}) :
  Ln (model prog w) A (call (.builtin "sorted") [x]) Q E s:=by
 refine O1 kind_sorted plain_sorted entry_sorted (args_sorted1 _) ?_;unfold Mn.«sorted»
 refine KS (m:=checkCount "sorted" 1 1 _) (K0 ?_);refine KS (col A.in1 _ (KZ _) λh' tk kp Jj=>?_);have nl:vs.length<=Lk:=by rw[LL];lia
 refine KS (wpAny_newList ?_ nl);have hl:(h'.push (Mr "list" vs.toArray 0)).get? h'.objs.size=some (Mr "list" vs.toArray 0):=LB _ rfl;have T':jh (h'.push (Mr "list" vs.toArray 0)) kf h'.objs.size vs:=λv hv=>by
  obtain⟨t,o,xs,k,e1,_,e3,r⟩:=T v hv;exact⟨t,o,xs,k,e1,Lu (K8 (kp _ _ e3)),K4 _ (kp _ _ e3),r⟩
 refine KS (L7 (Mq slot_list_sort ⟨_,hl,rfl⟩ entry_list_sort (iG (s:={s with heap:=h'.push (Mr "list" vs.toArray 0),toks:=tk}) hl hz T' λout hp hs=>⟨_,rfl,?_⟩) (args_list_sort _)))
 obtain⟨n,hn⟩:=sortedHeap_at (out:=out.toArray) hl;refine K0 ⟨_,rfl,h out h'.objs.size _ tk n hp hs Jj (λb o e=>?_) hn⟩;have hb:=K8 (kp _ _ e);rw[sortedHeap_old (Lu hb) (by rw[size_push'];exact MW hb)]
 exact K4 _ (kp _ _ e)
end
end TS
namespace L2
open PySem PySem.Spec PyProof.Rows
def nK (H:Hp):KR->List Int
 |.ref t=>match H t with
  |some (.tup xs)=>xs.filterMap fun
   |.int i=>some i
   |_=>none
  |_=>[]
 |_=>[]
theorem l9:∀ns:List Int,((ns.map V.int).filterMap fun
   |.int i=>some i
   |_=>none)=ns
 |[]=>rfl
 |n::ns=>by
  rw[LJ,LA];dsimp only;rw[l9 ns]
theorem iK {H:Hp}{t:Addr}{ns:List Int}(h:H t=some (.tup (ns.map V.int))):nK H (.ref t)=ns:=by
 unfold nK;dsimp only;rw[h];exact l9 ns
def xm (H:Hp):KR->Addr×List Int
 |.ref t=>(t,nK H (.ref t))
 |_=>(0,[])
abbrev qP (H:Hp)(ts:List (Addr×List Int)):Prop:=∀t∈ts,H t.1=some (.tup (t.2.map V.int))/\t.2≠[]
abbrev lj (t:Addr×List Int):V:=.ref t.1
theorem fW:∀{ts:List (Addr×List Int)} {us:List KR},Vals (ts.map lj) us->us=ts.map λt=>Value.ref t.1
 |[],_,.nil=>rfl
 |t::ts,_,.cons r q=>by
  rw[LJ,<- fW q];cases r;rfl
theorem f9:∀(ts:List (Addr×List Int)),Vals (ts.map lj) (ts.map λt=>Value.ref t.1)
 |[]=>.nil
 |t::ts=>.cons rfl (f9 ts)
theorem jr {H:Hp}{ts:List (Addr×List Int)}(T:qP H ts){out:List KR}(hp:out.Perm (ts.map λt=>Value.ref t.1)):out=(out.map (xm H)).map (λt=>Value.ref t.1)/\(out.map (xm H)).Perm ts:=by
 constructor
 ·rw[Mv];refine(Nm (g:=id) λv hv=>?_).trans (List.map_id _) |>.symm
  obtain⟨t,ht,rfl⟩:=LC.mp (hp.mem_iff.mp hv);rfl
 ·refine(hp.map (xm H)).trans (N5 ?_);rw[Mv];refine(Nm (g:=id) λt ht=>?_).trans (List.map_id _);show (t.1,nK H (.ref t.1))=t;rw[iK (T t ht).1]
theorem oB {P:K3}{w:Lf}{H:Hp}{h:Heap}{ts:List (Addr×List Int)}(ok:eW P w H h)(T:qP H ts){a:Addr}(ha:h.objs.size<=a):TS.jh h (nK H) a (ts.map λt=>Value.ref t.1):=λv hv=>by
 obtain⟨t,ht,rfl⟩:=LC.mp hv;obtain⟨h1,h2⟩:=T t ht;obtain⟨_,its,r,o,ho,hc,n,hd⟩:=(show bY P w H h t.1 (.tup (t.2.map V.int)) from ok _ _ h1)
 exact⟨t.1,o,_,n,rfl,Lu (Ll (K8 ho) ha),ho,hc,hd,by rw[iK h1];exact intsAre_of (by simpa using r),by rw[iK h1];exact h2⟩
section
variable {X:Cx}
theorem kY:dg X (.builtin "sorted") (λxs H Q=>∃(p:Addr) (ts:List (Addr×List Int)),xs=[.ref p]/\de X.K H p (ts.map lj)/\qP H ts/\ts.length<=1000000 /\
  ∀(l:Addr) (bg:List (Addr×List Int)),H l=none->bg.Perm ts->bg.Pairwise (λx y=>HT.lexLt y.2 x.2=false)->Q (.ref l) (upd H l (.lst (bg.map lj)))):=by
 intro pins s σ H xs us Q I r h;obtain⟨p,ts,rfl,hq,T,hz,q⟩:=h;obtain⟨u,rfl,rx⟩:=vals1 r;cases rx;obtain⟨its,r',pl,hl⟩:=I.list hq;obtain rfl:=fW r';have nl:(ts.map λt=>Value.ref t.1).length<=Lk:=by rw[KY,LL];lia
 refine TS.ni (kf:=nK H) (by rw[KY];exact hz) (λB R _ hR=>?_) (oB I.a_ T (KZ _)) λout l h' tk n hp hs hle kp ho=>?_
 ·refine collect_list pl.isList (hR _ s.toks (λb o e=>?_) ?_) nl
  ·have hb:=K8 e;rw[Heap.get?_update_ne _ _ _ _ (Lu hb)];exact K4 _ e
  ·rw[Heap.size_update,size_push'];exact Nat.le_succ _
 ·obtain⟨e1,e2⟩:=jr T hp;have zl:out.length=ts.length:=by rw[hp.length_eq,KY]
  refine⟨.ref l,_,I.laid (t':=tk) (o:=.lst ((out.map (xm H)).map lj)) kp hle ?_,rfl,q l _ (I.a_.fresh hle) e2 ?_⟩
  ·refine⟨by rw[KY,KY,zl,LL];lia,out,n,?_,ho⟩
   have:=f9 (out.map (xm H));rw[<- e1]at this;exact this
  ·rw[MY];refine hs.imp_of_mem λ{x y} hx hy hh=>?_;obtain⟨t,ht,rfl⟩:=LC.mp (hp.mem_iff.mp hx);obtain⟨t',Jv,rfl⟩:=LC.mp (hp.mem_iff.mp hy);exact hh
end
end L2
namespace ST
open PySem PyProof.Rows
section
variable {prog:K3}{w:Lf}{A:LI}{E:KR->KU->Prop}{s:KU}
variable {a b:Addr}{o:Obj}{ts:List (Addr×List Int)}{es:Array (Int×KR)}{ep:Nat}{t:SetTable}{k:List Int}
theorem bK.at (S:bK prog w o ts es ep t){i:Nat}(hi:i<t.place.size):∃x,ts[i]?=some x/\es[i]?=some (ent prog w x):=by
 have hl:i<ts.length:=by rw[<- S.size.2];exact hi
 exact⟨ts[i],K9 hl,by rw[<- Lb,S.z9,Lj,K9 hl];rfl⟩
theorem sN (S:bK prog w o ts es ep t):t.gaveWay=false:=by
 obtain⟨j,hj,e⟩:=S.wf.wY;unfold SetTable.gaveWay;rw[e];obtain⟨i,rfl⟩:∃i,j=i+1:=⟨j-1,by lia⟩
 have:0<2 ^ i:=Ob (by decide)
 rw[NX];have:(2 ^ i*2-1) % 2=1:=by lia
 rw[this];rfl
theorem i7 (ho:s.heap.get? a=some o)(S:bK prog w o ts es ep t)(T:wB prog w s.heap ts)(hk:(TK prog w).is s.heap k b)(hu:A.units<Nl){gy:Bool}{N:Nat}{Q:SetFound->KU->Prop}
  (hN:¬ k7 t (bF t.mask (kH prog w k) N)) (hO:∀x,x<N->k7 t (bF t.mask (kH prog w k) x)) (KP:N<10*SetTable.turns t.mask)
  (Qf:(∀x∈ts,x.2≠k)->Q (.free (bF t.mask (kH prog w k) N) false) s) (Qt:∀i:Option Nat,(∃x∈ts,x.2=k)->(gy=false->i.isSome=true)->Q (.there i) s) :
  ∀(d n f:Nat) (rq:Option SetTable.Probe),rq.getD (EH t.mask (kH prog w k))=dO t.mask (kH prog w k) n->n+d=N->d<f ->
   (∀m,m<n->∀i x,i<t.place.size->g t.place i=bF t.mask (kH prog w k) m->ts[i]?=some x->x.2≠k) ->
   Ln (model prog w) A (setSearchFrom a (.ref b) (kH prog w k) gy f rq) Q E s:=by
 intro d
 induction d using Nat.strongRecOn with
 |_ d ih =>
  intro n f rq kG i_ DR CY;obtain⟨f,rfl⟩:∃f',f=f'+1:=⟨f-1,by lia⟩
  unfold setSearchFrom;refine KS (Me ho S.dat S.fits ?_);dsimp only;rw[sN S,if_neg (by simp)]
  rw[ya,kG];generalize HH:SetTable.probe t _ (kH prog w k) (dO t.mask (kH prog w k) n)=pr;have hash:∀i x,i<t.place.size->ts[i]?=some x->(es[i]?.map (·.1)).getD 0=kH prog w x.2:=λi x hi hx=>by
   obtain⟨y,h1,h2⟩:=S.at hi;rw[hx]at h1;obtain rfl:=Lq h1;rw[h2];rfl
  rcases lC S.wf (λi=>(es[i]?.map (·.1)).getD 0) (kH prog w k) hN hO d n (10*SetTable.turns t.mask) i_ (by lia)with⟨q1,q2⟩|⟨m,i,q1,q2,q3,q4,q5,q6,q7⟩
  ·have e:pr=some (.empty (bF t.mask (kH prog w k) N) none):=HH.symm.trans q1;rw[e];dsimp only;refine K0 (Qf λx hx vM=>?_);obtain⟨i,hi⟩:=Od hx;have xg:i<t.place.size:=by
    rw[S.size.2];exact(Lr.mp hi).1
   obtain⟨n',g1,g2⟩:=S.wf.Hk i (kH prog w x.2) (by rw[Lj,hi];rfl)
   rw[vM]at g1 g2;have tG:n'<N:=by
    rcases Ma n' N with z|z
    ·exact z
    ·rcases Ma N n' with z2|z2
     ·exact absurd (g2 N z2) hN
     ·obtain rfl:N=n':=by lia
      exact absurd ⟨i,xg,g1.symm⟩ hN
   rcases Ma n' n with z|z
   ·exact CY n' z i x xg g1.symm hi vM
   ·exact q2 n' z tG i xg g1.symm (by rw[hash i x xg hi,vM])
  ·have e:pr=some (.candidate (bF t.mask (kH prog w k) m) i (dO t.mask (kH prog w k) (m+1))):=HH.symm.trans q6;rw[e];dsimp only;obtain⟨x,uB,zt⟩:=S.at q3;have Ca:x∈ts:=LR uB;have xf:t.slot (bF t.mask (kH prog w k) m)=.live i:=by rw[<- q4];exact jn S.wf.pY q3
   refine(λ(key:?G)=>?main) ?key
   case main =>
    cases hl:t.led with
    |true =>
     rw[if_neg (by simp)]
     exact key
    |false =>
     rw[if_pos (by simp)]
     have FA:(es.filter (·.1==kH prog w k)).toList.map (·.2)=(ts.filter λx=>kH prog w x.2==kH prog w k).map λx=>Value.ref x.1:=by
      rw[Array.toList_filter,S.z9,List.filter_map,Mv];rfl
     rw[FA];refine KS (uK hk _ (λy hy=>T y (OO.mp hy).1) ?_);rw[if_neg (by simp)]
     exact key
   case key =>
    rw[zt];dsimp only;refine KS (L7 ((TK prog w).eqBool hu (T x Ca) hk ?_));refine KS (Me ho S.dat S.fits ?_);dsimp only;have HF:t.sameMemory t.moves t.mask=some true:=by
     unfold SetTable.sameMemory;rw[if_pos (beq_self_eq_true _)]
    by_cases vM:x.2=k
    ·rw[decide_eq_true vM];cases gy with
     |true =>
      rw[if_pos (by rfl)]
      exact K0 (Qt none ⟨x,Ca,vM⟩ (λz=>by cases z))
     |false =>
      rw[if_neg (by simp),HF]
      dsimp only;rw[if_pos rfl,xf];dsimp only;rw[zt];dsimp only;refine KS (wpAny_isSame_ref_self ?_);rw[if_pos rfl];refine KS (K0 ?_);exact K0 (Qt (some i) ⟨x,Ca,vM⟩ (λ_=>rfl))
    ·rw[decide_eq_false vM,if_neg (by simp),HF]
     dsimp only;rw[if_pos rfl,xf];dsimp only;rw[zt];dsimp only;refine KS (wpAny_isSame_ref_self ?_);rw[if_pos rfl];refine KS (K0 ?_);dsimp only;rw[if_neg (by simp)]
     refine ih (N-(m+1)) (by lia) (m+1) f _ rfl (by lia) (by lia) λm' JI i' x' h1 h2 h3=>?_
     rcases Ma m' n with z|z
     ·exact CY m' z i' x' h1 h2 h3
     ·by_cases e2:m'=m
      ·subst e2;obtain rfl:=S.wf.pY.inj h1 q3 (h2.trans q4.symm);rw[uB]at h3;obtain rfl:=Lq h3;exact vM
      ·intro z2;exact q7 m' z (by lia) i' h1 h2 (by rw[hash i' x' h1 h3,z2])
end
theorem mL (n:Nat):∀(f j:Nat),n<2 ^ (j+f)->∃j',j<=j'/\SetTable.sizeAbove.go n f (2 ^ j)=2 ^ j'/\n<2 ^ j'/\(j'=j\/2 ^ (j' - 1)<=n)
 |0,j,h=>⟨j,KZ _,rfl,h,.inl rfl⟩
 |f+1,j,h=>by
  unfold SetTable.sizeAbove.go
  by_cases hc:2 ^ j<=n
  ·rw[if_pos hc,<- NX];obtain⟨j',h1,h2,h3,h4⟩:=mL n f (j+1) (by rw[show j+1+f=j+(f+1) by lia];exact h)
   refine⟨j',by lia,h2,h3,.inr ?_⟩
   rcases h4 with rfl|h4
   ·exact hc
   ·exact h4
  ·rw[if_neg hc];exact⟨j,KZ _,rfl,by lia,.inl rfl⟩
theorem uo {n:Nat}(h:n<=4000):∃j,3<=j/\SetTable.sizeAbove n=2 ^ j/\n<2 ^ j/\2 ^ j<=8192:=by
 obtain⟨j,h1,h2,h3,h4⟩:=mL n 64 3 (Nat.lt_of_le_of_lt h (by decide))
 refine⟨j,h1,h2,h3,?_⟩;rcases h4 with rfl|h4
 ·decide
 ·have:j-1<12:=by
   rcases Ma (j-1) 12 with z|z
   ·exact z
   ·have:2 ^ 12<=2 ^ (j-1):=Nd (by decide) z
    lia
  have:2 ^ j<=2 ^ 12:=Nd (by decide) (by lia)
  lia
theorem vV (d:Nat)(n:Int)(tk:Tok):hashByValue d (.int n tk)=pure true:=by
 cases d <;> rfl
section
variable {prog:K3}{w:Lf}{A:LI}{E:KR->KU->Prop}{s:KU}
variable {a b:Addr}{o:Obj}{ts:List (Addr×List Int)}{es:Array (Int×KR)}{ep:Nat}{t:SetTable}{k:List Int}
theorem xU {Q:Bool->KU->Prop}(hk:(TK prog w).is s.heap k b)(q:Q true s):Ln (model prog w) A (hashByValue 8 (.ref b)) Q E s:=by
 obtain⟨o,items,n,ho,hc,hd,hi⟩:=hk;have hT:s.TypeIs (.ref b) "tuple" := ⟨o,ho,hc⟩;unfold hashByValue;refine KS (wpAny_specialOf hT F.slot_tuple_hash.lookup ?_);dsimp only;refine KS (wpAny_seqItems ho hd ?_);dsimp only[Option.getD_some];rw[<- Array.forIn_toList];refine KS (OE _ (λrest r s'=>r=(none,())/\s'=s/\∀v∈rest,∃n tk,v=Value.int n tk) _ ?_ ?_ _ _ ⟨rfl,rfl,?_⟩)
 ·rintro v rest r s' ⟨rfl,rfl,jd⟩;obtain⟨n,tk,rfl⟩:=jd v Lg;rw[vV];refine KS (K0 ?_);rw[if_neg (by simp)]
  exact K0 ⟨rfl,rfl,λu hu=>jd u (Lc _ hu)⟩
 ·rintro r s' ⟨rfl,rfl,_⟩;exact K0 q
 ·generalize items.toList=vs at hi
  induction hi with
  |nil=>intro v hv;cases hv
  | @cons k v ks vs h1 h2 ih =>
   intro u hu;rcases K6.mp hu with rfl|hu
   ·obtain⟨t,rfl⟩:=Ox h1;exact⟨_,_,rfl⟩
   ·exact ih u hu
theorem pJ (ho:s.heap.get? a=some o)(S:bK prog w o ts es ep t)(T:wB prog w s.heap ts)(hk:(TK prog w).is s.heap k b)(hu:A.units<Nl){gy:Bool}{Q:SetFound->KU->Prop}
  (Qf:∀N,(∀x∈ts,x.2≠k)->¬ k7 t (bF t.mask (kH prog w k) N)->(∀x,x<N->k7 t (bF t.mask (kH prog w k) x))->Q (.free (bF t.mask (kH prog w k) N) false) s)
  (Qt:∀i:Option Nat,(∃x∈ts,x.2=k)->(gy=false->i.isSome=true)->Q (.there i) s) :
  Ln (model prog w) A (setSearch a (.ref b) (kH prog w k) gy) Q E s:=by
 obtain⟨N,h1,h2,h3⟩:=S.wf.first (kH prog w k)
 have hm:=S.wY;unfold setSearch;exact i7 ho S T hk hu h2 h3 h1 (λq=>Qf N q h2 h3) Qt N 0 100000 none rfl (ML N) (by unfold SetTable.turns at h1;lia) λm hm=>by lia
theorem o8 {h:Heap}(ho:h.get? a=some o)(hd:o.data=.set es ep t)(eL:Array (Int×KR))(t':SetTable):(h.update a (Ot eL t')).get? a=some {o with data:=.set eL (ep+1) t'}:=by
 have e:=Heap.get?_update_self (Ot eL t') ho (by rw[putSet_of eL t' hd];rfl)
 rw[e,putSet_of eL t' hd]
theorem si {α:Type}(l:List α)(p:Nat)(x:α):(l.take p++x::l.drop p).Perm (x::l):=by
 refine NT.trans (List.Perm.cons x ?_);rw[MA]
theorem q9 (ho:s.heap.get? a=some o)(hx:o.ExactSet)(hd:o.data=.set es ep t)(he:es.toList=ts.map (ent prog w))(hw:WF t (ts.map λx=>kH prog w x.2))(KH:0<ts.length)(hn:ts.length<=1000)
  (Gf:t.led=!w.params.followText "set-order") (hpl:t.plain=true) (i_:(ts.map (·.2)).Nodup) {Q:Unit->KU->Prop}
  (q:∀(bg:List (Addr×List Int)) (eL:Array (Int×KR)) (t':SetTable),bg.Perm ts->bK prog w {o with data:=.set eL (ep+1) t'} bg eL (ep+1) t'->Q () {s with heap:=s.heap.update a (Ot eL t')}) :
  Ln (model prog w) A (setRelay a (SetTable.grown ts.length)) Q E s:=by
 have hz:es.size=ts.length:=by rw[<- K2,he,KY]
 have hp:t.place.size=ts.length:=by have:=hw.sz;rw[KY]at this;exact this
 have hf:t.fits es.size=true:=by
  unfold SetTable.fits SetTable.fill;rw[hw.AH,hz,hp];have:=hw.room;simp;lia
 unfold setRelay;refine KS (Me ho hd hf ?_);dsimp only;have hg:SetTable.grown ts.length=ts.length*4:=by unfold SetTable.grown;rw[if_neg (by lia)]
 rw[hg];obtain⟨j,j3,ja,jb,jc⟩:=uo (n:=ts.length*4) (by lia)
 rw[ja,if_neg (by rw[LL];lia)]
 have hs:(es.map (·.1)).size=ts.length:=by rw[O0,hz]
 obtain⟨t',order,e1,e2,e3,e4,e5,e6,e7,e8⟩:=vI (hs:=es.map (·.1)) j3 (by lia) t.finger (t.movedTo (2 ^ j-1)) t.led t.plain
 rw[hs]at e6 e8;have er:t.relaid (es.map (·.1)) (ts.length*4)=some (t',order):=by
  unfold SetTable.relaid;rw[ja];exact e1
 rw[er];have gd:∀i,i<ts.length->es[i]?=some (ent prog w (ts.getD i (0,[]))):=λi hi=>by
  rw[<- Lb,he,Lj,K9 hi,OW,K9 hi];rfl
 have qZ:(order.filterMap (es[·]?)).toList=(order.toList.map λi=>ts.getD i (0,[])).map (ent prog w):=by
  rw[Array.toList_filterMap,Mv];have:∀l:List Nat,(∀i∈l,i<ts.length)->l.filterMap (es[·]?)=l.map (ent prog w ∘ λi=>ts.getD i (0,[])):=λl=>by
   induction l with
   |nil=>intro _;rfl
   |cons i l ih =>
    intro h;rw[LA,gd i (h i Lg),LJ,ih λy hy=>h y (Lc _ hy)];rfl
  exact this _ λi hi=>Md.mp (e6.mem_iff.mp hi)
 have tE:(order.toList.map λi=>ts.getD i (0,[])).Perm ts:=by
  refine(e6.map _).trans (N5 ?_);apply M0;intro i;rw[Lj]
  by_cases hi:i<ts.length
  ·rw[Oi hi,K9 hi];show some (ts.getD i (0,[]))=_;rw[OW,K9 hi];rfl
  ·rw[MC (by rw[NA];lia),MC (by lia)]
   rfl
 have AA:(order.filterMap (es[·]?)).size=es.size:=by
  rw[<- K2,qZ,KY,tE.length_eq,hz]
 refine KS ?_;show Ln _ _ (if (order.filterMap (es[·]?)).size != es.size then _ else _) _ _ _
 rw[AA,if_neg (by simp)]
 refine K0 ?_;dsimp only;refine wpAny_storeSet_of ho hd (q _ _ t' tE ⟨hx,rfl,qZ,?_,?_,by lia,e3.trans Gf,e4.trans hpl,?_⟩) (by rw[AA,hz,LL];lia)
 ·rw[Mv];have:(order.toList.map λi=>(es.map (·.1)).getD i 0)=order.toList.map ((λx=>kH prog w x.2) ∘ λi=>ts.getD i (0,[])):=by
   refine Nm λi hi=>?_;have hi:=Md.mp (e6.mem_iff.mp hi);rw[La,Array.getElem?_map,gd i hi];rfl
  rw[<- this];exact e7
 ·rw[e8,e2];lia
 ·exact((tE.map (·.2)).nodup_iff).mpr i_
theorem rj (ho:s.heap.get? a=some o)(S:bK prog w o ts es ep t)(T:wB prog w s.heap ts)(hk:(TK prog w).is s.heap k b)(hu:A.units<Nl)(hn:ts.length<1000)(f:Nat){Q:Bool->KU->Prop}
  (q:∀(h':Heap) (o':Obj) (bg:List (Addr×List Int)) (eL:Array (Int×KR)) (je:Nat) (t':SetTable) (added:Bool),Mw a s.heap h'->h'.get? a=some o'->bK prog w o' bg eL je t' ->
   ((∃x∈ts,x.2=k)->bg=ts)->((∀x∈ts,x.2≠k)->bg.Perm ((b,k)::ts))->Q added {s with heap:=h'}) :
  Ln (model prog w) A (setAddHashedIn a (.ref b) (kH prog w k) (f+1)) Q E s:=by
 unfold setAddHashedIn;refine KS (Me ho S.dat S.fits ?_);dsimp only;rw[if_neg (by simp[byScan,Value.scannable])]
 refine KS (pJ ho S T hk hu (λN g1 g2 g3=>?_) λi g1 g2=>?_)
 ·dsimp only;refine KS (Me ho S.dat S.fits ?_);dsimp only;have hr:t.place.size+1<=t.mask:=by
   have:=S.EM;obtain⟨j,hj,e⟩:=S.wf.wY;have:2 ^ 3<=2 ^ j:=Nd (by decide) hj
   lia
  obtain⟨W,hp⟩:=S.wf.put (gU _ _ _) g2 g3 hr;have pe:(t.put (bF t.mask (kH prog w k) N)).1.plain=t.plain/\(t.put (bF t.mask (kH prog w k) N)).1.led=t.led/\(t.put (bF t.mask (kH prog w k) N)).1.mask=t.mask:=⟨rfl,rfl,rfl⟩;have pf:(t.put (bF t.mask (kH prog w k) N)).1.dummies=#[]:=W.AH;generalize (t.put (bF t.mask (kH prog w k) N)).1=t1 at *
  generalize (t.put (bF t.mask (kH prog w k) N)).2=p at *
  obtain⟨Fb,Hq,Ja⟩:=pe;rw[Fb,S.Au,if_pos rfl];refine KS (xU hk ?_);rw[if_pos rfl];have hz:=S.size;have z8:(SetTable.insertAt es p (kH prog w k,Value.ref b)).toList=(ts.take p++(b,k)::ts.drop p).map (ent prog w):=by
   rw[iN,S.z9,Mp,LJ,NJ,Om]
  have W1:WF t1 ((ts.take p++(b,k)::ts.drop p).map λx=>kH prog w x.2):=by
   rw[Mp,LJ,NJ,Om];exact W
  have pm:(ts.take p++(b,k)::ts.drop p).Perm ((b,k)::ts):=si ts p (b,k);have ku:(ts.take p++(b,k)::ts.drop p).length=ts.length+1:=pm.length_eq;have yT:((ts.take p++(b,k)::ts.drop p).map (·.2)).Nodup:=by
   refine((pm.map (·.2)).nodup_iff).mpr ?_;rw[LJ,LD];exact⟨λhm=>by
    obtain⟨x,hx,e⟩:=LC.mp hm;exact g1 x hx e,S.BJ⟩
  have A_:(SetTable.insertAt es p (kH prog w k,Value.ref b)).size=ts.length+1:=by rw[<- K2,z8,KY,ku]
  have Kw:t1.place.size=ts.length+1:=by have:=W1.sz;rw[KY,ku]at this;exact this
  refine KS (wpAny_storeSet_of ho S.dat ?_ (by rw[A_,LL];lia))
  have zN:=o8 ho S.dat (SetTable.insertAt es p (kH prog w k,Value.ref b)) t1;have Bc:Mw a s.heap (s.heap.update a (Ot (SetTable.insertAt es p (kH prog w k,Value.ref b)) t1)):=Oj _ _ _;have fin:∀(h':Heap) (o':Obj) (bg:List (Addr×List Int)) (eL:Array (Int×KR)) (je:Nat) (t':SetTable),Mw a s.heap h'->h'.get? a=some o'->bK prog w o' bg eL je t'->bg.Perm (ts.take p++(b,k)::ts.drop p)->Q true {s with heap:=h'} :=
   λh' o' bg eL je t' q1 q2 q3 q4=>q h' o' bg eL je t' true q1 q2 q3 (λtu=>by obtain⟨x,hx,e⟩:=tu;exact absurd e (g1 x hx)) λ_=>q4.trans pm
  by_cases l4:t1.tooFull=true
  ·rw[l4,if_pos (by rfl)]
   have HZ:SetTable.grown (es.size+1)=SetTable.grown (ts.take p++(b,k)::ts.drop p).length:=by rw[ku,hz.1]
   rw[HZ];refine KS (q9 (s:={s with heap:=s.heap.update a (Ot (SetTable.insertAt es p (kH prog w k,Value.ref b)) t1)}) zN S.ex rfl z8 W1 (by lia) (by lia) (Hq.trans S.led) (Fb.trans S.Au) yT λbg eL t' r1 r2=>K0 ?_)
   have HM:=o8 zN rfl eL t';exact fin _ _ bg eL _ t' (Bc.trans (Oj _ _ _)) HM r2 r1
  ·rw[if_neg (by simpa using l4)]
   refine K0 (fin _ _ _ _ _ _ Bc zN ⟨S.ex,rfl,z8,W1,?_,by rw[Ja];exact S.wY,Hq.trans S.led,Fb.trans S.Au,yT⟩ (.refl _))
   unfold SetTable.tooFull SetTable.fill at l4;rw[pf]at l4;simp at l4;lia
 ·dsimp only;exact K0 (q s.heap o ts es ep t false (Heap.SameBut.refl _ _) ho S (λ_=>rfl) λg=>absurd g1 λtq=>by obtain⟨x,hx,e⟩:=tq;exact g x hx e)
theorem rl (ho:s.heap.get? a=some o)(S:bK prog w o ts es ep t)(T:wB prog w s.heap ts)(hk:(TK prog w).is s.heap k b)(hu:A.units<Nl)(hn:ts.length<1000){Q:Bool->KU->Prop}
  (q:∀(h':Heap) (o':Obj) (bg:List (Addr×List Int)) (eL:Array (Int×KR)) (je:Nat) (t':SetTable) (added:Bool) (tk:Nat),s.toks<=tk->Mw a s.heap h'->h'.get? a=some o'->bK prog w o' bg eL je t' ->
   ((∃x∈ts,x.2=k)->bg=ts)->((∀x∈ts,x.2≠k)->bg.Perm ((b,k)::ts))->Q added {s with heap:=h',toks:=tk}) :
  Ln (model prog w) A (setAdd a (.ref b)) Q E s:=by
 unfold setAdd;refine L7 ?_;refine KS ((TK prog w).pyHash hu hk ?_);unfold setAddHashed;refine L7 ?_;exact rj (s:={s with toks:=s.toks+(TK prog w).draws k}) ho S T hk hu hn 99999 λh' o' bg eL je t' added r1 r2 r3 r4 r5=>q h' o' bg eL je t' added _ (Nat.le_add_right _ _) r1 r2 r3 r4 r5
end
theorem iX {α:Type}:∀{l:List α} {i:Nat} (h:i<l.length),(l[i]::l.eraseIdx i).Perm l
 |[],_,h=>absurd h (OM _)
 |x::l,0,_=>.refl _
 |x::l,i+1,h=>by
  have h':i<l.length:=by rw[Lm]at h;lia
  show (l[i]::x::l.eraseIdx i).Perm (x::l);exact(List.Perm.swap _ _ _).trans ((iX h').cons x)
theorem oO {α:Type}(next:Nat->Nat):∀(f k:Nat) (left:List α) (out:Array α),f=left.length->(pickOrder.go next f k left out).toList.Perm (out.toList++left)
 |0,k,left,out,e=>by
  obtain rfl:left=[]:=List.length_eq_zero_iff.mp e.symm;unfold pickOrder.go;rw[LV]
 |f+1,k,left,out,e=>by
  unfold pickOrder.go;have hi:next k % left.length<left.length:=Nq _ (by lia)
  rw[K9 hi];dsimp only;refine(oO next f (k+1) _ _ (by rw[List.length_eraseIdx_of_lt hi];lia)).trans ?_
  rw[Mi,LQ];exact N8 _ (iX hi)
theorem p6 {α:Type}(next:Nat->Nat)(xs:Array α):(pickOrder next xs).toList.Perm xs.toList:=by
 have:=oO next xs.size 0 xs.toList #[] (by rw[K2])
 exact this
theorem bc:Slot "set_iterator" "__next__" "set_iterator.__next__" :=
 .of (owner:="set_iterator") (n:="__next__") (by rw[typeLookup_type,builtinLookup_eq_fast];kernel_rfl) (by decide +kernel) (by decide +kernel) (by decide +kernel)
  (by first|exact .inl (by decide +kernel)|exact .inr (by decide +kernel)) (by rw[OT];kernel_rfl)
theorem eQ:Slot "set_iterator" "__iter__" "set_iterator.__iter__" :=
 .of (owner:="set_iterator") (n:="__iter__") (by rw[typeLookup_type,builtinLookup_eq_fast];kernel_rfl) (by decide +kernel) (by decide +kernel) (by decide +kernel)
  (by first|exact .inl (by decide +kernel)|exact .inr (by decide +kernel)) (by rw[OT];kernel_rfl)
theorem d9:entryFor table "set_iterator.__next__" = some Mn.«set_iterator.__next__»:=entryFor_of_tree (by kernel_rfl)
theorem iS:entryFor table "set_iterator.__iter__" = some Mn.«dict_keyiterator.__iter__» :=
 entryFor_alias (id':="dict_keyiterator.__iter__") (by kernel_rfl) rfl (by decide +kernel) (by kernel_rfl)
theorem iT:entryFor table "set.__iter__" = some Mn.«frozenset.__iter__» :=
 entryFor_alias (id':="frozenset.__iter__") (by kernel_rfl) rfl (by decide +kernel) (by kernel_rfl)
theorem eU (a:KR):argsOk "set_iterator.__next__" ⟨[a],[]⟩:=by unfold argsOk;kernel_rfl
theorem jg (a:KR):argsOk "set_iterator.__iter__" ⟨[a],[]⟩:=by unfold argsOk;kernel_rfl
section
variable {prog:K3}{w:Lf}{A:LI}{E:KR->KU->Prop}{s:KU}
variable {a:Addr}{o:Obj}{ts:List (Addr×List Int)}{es:Array (Int×KR)}{ep:Nat}{t:SetTable}
abbrev ub (w:Lf):Bool:=w.params.followText "set-order"
theorem en {Q:Bool->KU->Prop}(q:Q (ub w) s):Ln (model prog w) A setsByText Q E s:=by
 unfold setsByText;exact KS (NP (K0 q))
def bf (w:Lf)(a:Addr)(ep:Nat)(es:Array (Int×KR)):Array (Int×KR):=if ub w=true then pickOrder (w.params.setOrder a ep) es else es
theorem eu (w:Lf)(a:Addr)(ep:Nat)(es:Array (Int×KR)):(bf w a ep es).toList.Perm es.toList:=by
 unfold bf
 split
 ·exact p6 _ _
 ·exact .refl _
theorem qc (S:bK prog w o ts es ep t){Q:Bool->KU->Prop}(ho:s.heap.get? a=some o)(q:Q false s):Ln (model prog w) A (setDrawn a) Q E s:=by
 unfold setDrawn;refine KS (Me ho S.dat S.fits ?_);dsimp only;refine KS (en (K0 ?_));have:(!ub w&&(!t.plain&&decide (es.size>1)))=false:=by rw[S.Au];simp
 show Q (!ub w&&(!t.plain&&decide (es.size>1))) s;rw[this];exact q
theorem hJ (ho:s.heap.get? a=some o)(S:bK prog w o ts es ep t){sl i:Nat}{Q:Option (KR×Nat)->KU->Prop}(AB:ub w=false->SetTable.below t.place sl=i)
  (q1:∀e,(bf w a ep es)[i]?=some e->∀oG:Nat,(ub w=false->SetTable.below t.place oG=i+1)->Q (some (e.2,oG)) s) (q2:(bf w a ep es)[i]?=none->Q none s) :
  Ln (model prog w) A (setNext a sl i ep) Q E s:=by
 unfold setNext;refine KS (Me ho S.dat S.fits ?_);dsimp only;refine KS (en ?_);cases hb:ub w with
 |true =>
  rw[if_pos rfl,if_neg (by simp)]
  unfold setWalk;refine KS (KS (Me ho S.dat S.fits ?_));dsimp only;refine KS (en ?_);rw[hb,if_pos rfl];refine KS (NP (K0 (K0 ?_)));have e:bf w a ep es=pickOrder (w.params.setOrder a ep) es:=by unfold bf;rw[hb,if_pos rfl]
  rw[e]at q1 q2;show Q (((pickOrder (w.params.setOrder a ep) es)[i]?).map λe=>(e.2,sl)) s;cases hx:(pickOrder (w.params.setOrder a ep) es)[i]? with
  |none=>exact q2 hx
  |some x=>exact q1 x hx sl (λz=>by rw[hb]at z;cases z)
 |false =>
  rw[if_neg (by simp)]
  have e:bf w a ep es=es:=by unfold bf;rw[hb,if_neg (by simp)]
  rw[e]at q1 q2;have hd:(!t.plain&&decide (es.size>1))=false:=by rw[S.Au];rfl
  show Ln _ _ (if (!t.plain&&decide (es.size>1))=true then _ else _) _ _ _
  rw[hd,if_neg (by simp)]
  have hl:t.led=true:=by
   rw[S.led];show (!ub w)=true;rw[hb];rfl
  refine KS ?_;show Ln _ _ (if (!t.led&&!es.isEmpty)=true then _ else _) _ _ _
  rw[hl,if_neg (by simp)]
  refine K0 (K0 ?_);rw[AB hb];have hz:=S.size
  by_cases hi:i<t.place.size
  ·have h1:es[i]?=some es[i]:=getElem?_pos es i (by omega)
   rw[h1,nV hi];refine q1 _ h1 _ λ_=>?_;obtain⟨b1,b2,b3⟩:=dF S.wf.pY (g t.place i+1);rcases OB (SetTable.below t.place (g t.place i+1)) (i+1)with z|z|z
   ·have:=b3 i (by omega) hi
    omega
   ·exact z
   ·have:=b2 (i+1) z;have:=S.wf.pY i (i+1) (by omega) (by omega)
    omega
  ·have h1:es[i]?=none:=Mj (by omega)
   rw[h1];exact q2 h1
end
section
variable {prog:K3}{w:Lf}{A:LI}{E:KR->KU->Prop}{s:KU}
variable {a b it:Addr}{o:Obj}{ts:List (Addr×List Int)}{es:Array (Int×KR)}{ep:Nat}{t:SetTable}
def j9 (sl i:Nat)(a:Addr)(n ep:Nat):Obj:={cls:=.type "set_iterator",dict:=none,data:=.fields #[.int sl 0,.int i 0,.ref a,.int n 0,.int ep 0],slots:=#[]}
theorem ij {sl i n:Nat} (h:s.heap.get? it=some (j9 sl i a n ep)):s.TypeIs (.ref it) "set_iterator" := ⟨_,h,rfl⟩
def AJ (prog:K3)(w:Lf)(it a:Addr)(ts:List (Addr×List Int))(es:Array (Int×KR))(ep:Nat)(i:Nat)(h:Heap):Prop :=
 ∃sl o t,h.get? it=some (j9 sl i a es.size ep)/\h.get? a=some o/\bK prog w o ts es ep t/\(ub w=false->SetTable.below t.place sl=i)
theorem rK (zO:a≠it){i:Nat}{e:Int×KR}{Q:Option KR->KU->Prop}(st:AJ prog w it a ts es ep i s.heap)(he:(bf w a ep es)[i]?=some e)
  (q:∀h',AJ prog w it a ts es ep (i+1) h'->Mw it s.heap h'->Q (some e.2) {s with heap:=h'}):Ln (model prog w) A (Oo (.ref it)) Q E s:=by
 obtain⟨sl,o,t,hi,ho,S,hb⟩:=st;have hT:=ij hi;unfold Oo;refine KS (ND (wpAny_callSpecial?_slot (name:=Str.ofString "__next__") hT bc (Mq bc hT d9 ?_ (eU _))));unfold Mn.«set_iterator.__next__»
 refine KS (K0 ?_);refine KS (wpAny_fieldsOf hi rfl ?_);dsimp only;refine KS (Oh ho S.dat S.fits ?_);rw[if_neg (by simp)]
 refine KS (hJ (i:=i) ho S (λz=>by simpa using hb z) (λe' CS oG Cd=>?_) λhn=>?_)
 ·rw[he]at CS;obtain rfl:=Lq CS;dsimp only;refine KS (wpAny_setField_rec hi (by simp) λh1 g1 Bc=>?_)
  refine KS (wpAny_setField_rec (s:={s with heap:=h1}) g1 (by simp) λh2 g2 Hj=>?_)
  refine K0 ⟨_,rfl,K0 (q h2 ⟨oG,o,t,?_,?_,S,Cd⟩ (Bc.trans Hj))⟩
  ·rw[g2];rfl
  ·rw[(Bc.trans Hj).2 a zO];exact ho
 ·rw[he]at hn;cases hn
theorem uT (hh:A.handled=none)(zO:a≠it){i:Nat}{Q:Option KR->KU->Prop}(st:AJ prog w it a ts es ep i s.heap)(he:(bf w a ep es)[i]?=none)
  (q:∀h',Heap.ExtBut it s.heap h'->Q none {s with heap:=h'}):Ln (model prog w) A (Oo (.ref it)) Q E s:=by
 obtain⟨sl,o,t,hi,ho,S,hb⟩:=st;have hT:=ij hi;unfold Oo;refine KS (ND (wpAny_callSpecial?_slot (name:=Str.ofString "__next__") hT bc (Mq bc hT d9 ?_ (eU _))));unfold Mn.«set_iterator.__next__»
 refine KS (K0 ?_);refine KS (wpAny_fieldsOf hi rfl ?_);dsimp only;refine KS (Oh ho S.dat S.fits ?_);rw[if_neg (by simp)]
 refine KS (hJ (i:=i) ho S (λz=>by simpa using hb z) (λe' CS oG Cd=>?_) λhn=>?_)
 ·rw[he]at CS;cases CS
 ·dsimp only;refine KS (wpAny_setField hi rfl (by simp) ?_)
  refine KS ?_;simp only[newExc,newTuple];refine KS (MS ?_ (by size_fits))
  refine KS (m:=firstArgMember _ _) (wpAny_of_eq (a:=Value.none) (by first|rfl|(simp only[firstArgMember];rfl)) ?_)
  refine MS ?_ (by size_fits)
  simp only[raiseNew];refine KS (wpAny_handled ?_);rw[show A.in1.handled=none from hh]
  refine KS (K0 (wpAny_throw ?_));refine KS (wpAny_isInstance (T:="StopIteration") (b:=true) ⟨_,LB _ rfl,rfl⟩ isSubtype_stop ?_);exact K0 (q _ (((Oj ..).extBut.push _).push _))
theorem rJ {i:Nat}{Q:KR->KU->Prop}(st:AJ prog w it a ts es ep i s.heap)(q:Q (.ref it) s):Ln (model prog w) A (OS (.ref it)) Q E s:=by
 obtain⟨sl,o,t,hi,ho,S,hb⟩:=st;have hT:=ij hi;refine wpAny_pyIter_slot hT eQ (Mq eQ hT iS ?_ (jg _));show Ln _ _ (ret (.ref it)) _ _ s;exact K0 ⟨_,rfl,"set_iterator",_,hT,bc.lookup,q⟩
theorem pU (hh:A.handled=none)(zO:a≠it):Walks prog w A it [it,a] [it] es.size (λi v=>∃e,(bf w a ep es)[i]?=some e/\v=e.2) (AJ prog w it a ts es ep) where
 sub:=λb hb=>by rw[K_.mp hb];exact Lg
 frame:=λi h h' ⟨sl,o,t,h1,h2,h3⟩ hk=>⟨sl,o,t,hk it Lg _ h1,hk a (Lc _ Lg) _ h2,h3⟩
 item:=λi s Q E hi st hQ=>by
  have hz:(bf w a ep es).size=es.size:=by
   have:=(eu w a ep es).length_eq;rw[K2,K2]at this;exact this
  have he:(bf w a ep es)[i]?=some (bf w a ep es)[i]:=getElem?_pos _ i (by lia)
  exact rK zO st he λh' ak sb=>hQ _ h' s.toks ⟨_,he,rfl⟩ ak λb o hb e=>sb.extBut b o (λz=>hb (by rw[z];exact K_.mpr rfl)) e
 done:=λs Q E st hQ=>by
  have hz:(bf w a ep es).size=es.size:=by
   have:=(eu w a ep es).length_eq;rw[K2,K2]at this;exact this
  exact uT hh zO st (Mj (by lia)) λh' eb=>hQ h' s.toks λb o hb e=>eb b o (λz=>hb (by rw[z];exact K_.mpr rfl)) e
 self:=λi s Q E st hQ=>rJ st hQ
theorem fw (ho:s.heap.get? a=some o) (S:bK prog w o ts es ep t):s.TypeIs (.ref a) "set" := ⟨o,ho,S.ex.1⟩
theorem uL (ho:s.heap.get? a=some o)(S:bK prog w o ts es ep t){Q:KR->KU->Prop}(q:Q (.ref s.heap.objs.size) {s with heap:=s.heap.push (j9 0 0 a es.size ep)}):
  Ln (model prog w) A (OS (.ref a)) Q E s:=by
 have hT:=fw ho S;refine wpAny_pyIter_slot hT F.slot_set_iter (Mq F.slot_set_iter hT iT ?_ (F.args_set_iter_1 _));unfold Mn.«frozenset.__iter__» Builtin.Frozenset.slot0 Builtin.Frozenset.sizeOf;refine KS (KS (K0 (K0 ?_)));refine KS (KS (Oh ho S.dat S.fits (K0 ?_)));refine KS (qc S ho ?_);rw[if_neg (by simp)]
 refine KS (K0 ?_);refine KS (wpAny_setEpoch_of ho S.dat S.fits ?_);unfold newFields;refine KS (MS (K0 ⟨_,rfl,"set_iterator",_,⟨_,LB _ rfl,rfl⟩,bc.lookup,?_⟩) (by size_fits))
 exact q
theorem uM (ho:s.heap.get? a=some o)(S:bK prog w o ts es ep t){Q:Bool->KU->Prop}(q:Q false s):Ln (model prog w) A (OR (.ref a)) Q E s:=by
 have hT:=fw ho S;unfold OR;refine KS (wpAny_specialOf hT PySem.F.slot_set_len.lookup ?_);generalize HV:("set.__len__" : String)=Jq
 wp_delta
 rw[show splitId Jq=some ("set","__len__") from by subst HV;decide +kernel]
 subst HV;refine KS (wpAny_isInstance (T:="set") (b:=true) hT (by rw[OT];kernel_rfl) ?_)
 refine wpAny_ite_split (λzX=>absurd zX (by decide)) (λ_=>?_)
 refine wpAny_ite_split (λ_=>?_) (λzX=>absurd (by decide +kernel) zX)
 refine KS (wpAny_typeOf hT ?_);exact K0 q
theorem uU (prog:K3)(w:Lf)(a:Addr)(o:Obj)(ts:List (Addr×List Int))(es:Array (Int×KR))(ep:Nat)(t:SetTable)(S:bK prog w o ts es ep t):
  PySem.W.KdlSrc prog w "set" a a es.size (λi v=>∃e,(bf w a ep es)[i]?=some e/\v=e.2) (λh=>h.get? a=some o) where
 type:=λs ho=>fw ho S
 there:=λh ho=>⟨K8 ho,K8 ho⟩
 keep:=λh h' ho hk=>hk a (.inl rfl) _ ho
 notList:=by decide
 notTuple:=by decide
 hint:=λA E s Q ho q=>uM ho S q
 iter:=λA s hh ho=>⟨j9 0 0 a es.size ep,AJ prog w s.heap.objs.size a ts es ep,λE Q q=>uL ho S q,pU hh (Lu (K8 ho)),
  0,o,t,LB _ rfl,K4 _ ho,S,λ_=>by
   obtain⟨b1,b2,b3⟩:=dF S.wf.pY 0;rcases Nat.eq_zero_or_pos (SetTable.below t.place 0)with z|z
   ·exact z
   ·have:=b2 0 z;lia⟩
theorem lF {α β:Type}{f:α->β}:∀{ts:List α} {l:List β},l.Perm (ts.map f)->∃us:List α,us.Perm ts/\l=us.map f
 |[],l,h=>⟨[],.refl _,List.perm_nil.mp h⟩
 |x::ts,l,h=>by
  obtain⟨l1,l2,rfl⟩:=List.append_of_mem (h.mem_iff.mpr (show f x∈(x::ts).map f from Lg))
  have h':(l1++l2).Perm (ts.map f):=(NT.symm.trans h).cons_inv;obtain⟨us,h1,h2⟩:=lF h';obtain⟨u1,u2,rfl,e1,e2⟩:=List.map_eq_append_iff.mp h2.symm;refine⟨u1++x::u2,NT.trans (h1.cons x),?_⟩;rw[Mp,LJ,e1,e2]
end
section
variable {prog:K3}{w:Lf}{A:LI}{E:KR->KU->Prop}{s:KU}
variable {o:Obj}{ts:List (Addr×List Int)}{es:Array (Int×KR)}{ep:Nat}{t:SetTable}
def gf (w:Lf):Obj:={cls:=.type "set",dict:=none,data:=.set #[] 0 (.fresh 0 0 (!ub w))}
theorem oV (prog:K3)(w:Lf):bK prog w (gf w) [] #[] 0 (.fresh 0 0 (!ub w)) where
 ex:=⟨rfl,rfl,rfl⟩
 dat:=rfl
 z9:=rfl
 wf:=⟨rfl,rfl,λi j _ hj=>absurd hj (OM _),λi hi=>absurd hi (OM _),⟨3,KZ _,rfl⟩,Lp _,λi h hi=>by simp at hi⟩
 EM:=by show 0*5<7*3;decide
 wY:=by show 7<=8191;decide
 led:=rfl
 Au:=rfl
 BJ:=LO
theorem sU {xs:List KR} {R:KR->KU->Prop} (hc:NQ "set.__new__" ⟨.type "set" :: xs,[]⟩=pure ()) (hx:xs=[]\/∃v,xs=[v]) (q:R (.ref s.heap.objs.size) {s with heap:=s.heap.push (gf w)}) :
  Na (model prog w) A (.call (.builtin "set.__new__") ⟨.type "set" :: xs,[]⟩) (wants R E) s:=by
 refine OL ?_;show Ln _ A.in1 (NQ "set.__new__" ⟨.type "set" :: xs,[]⟩ >>= λ_=>again (.builtin "set.__new__" ⟨.type "set" :: xs,[]⟩)) _ _ s;refine KS (wpAny_of_eq hc (K0 ⟨plainId_quiet F.plain_set_new _,Ni F.entry_set_new ?_⟩));rw[Og F.plain_set_new _];unfold Mn.«set.__new__» Builtin.Frozenset.newClass;have IJ:=sub_set_self;obtain⟨hp,gs,dr,tk,os⟩:=s;rcases hx with rfl|⟨v,rfl⟩
 all_goals
  dsimp only
  wp_walk
  refine NP (K0 ?_);dsimp only;simp only[newObj];exact KS (wpAny_alloc (K0 (K0 q)))
theorem qk {I:Addr}{fp wr:List Addr}{G:Array GenState->Array GenState->Prop}{vs:List (Addr×List Int)}{St:Nat->KU->Prop}{R:Result->KU->Prop}(hu:A.in1.units<Nl)
  {n:Nat} {P:Nat->KR->Prop} (W:WalksS prog w A.in1 I fp wr G n P St) (JD:n=vs.length) (JY:∀(i:Nat) (v:KR),P i v->∃x,vs[i]?=some x/\v=.ref x.1) (sa:Addr) (HG:sa∉fp) (hn:vs.length<1000) (hv:∀x∈vs,x.1∉wr/\x.1≠sa) :
  ∀(d i:Nat) (s:KU) (o:Obj) (ts:List (Addr×List Int)) (es:Array (Int×KR)) (ep:Nat) (t:SetTable),vs.length-i=d->i<=vs.length->St i s->wB prog w s.heap vs->s.heap.get? sa=some o->bK prog w o ts es ep t ->
   (∀x∈ts,x∈vs.take i)->(∀x∈vs.take i,∃y∈ts,y.2=x.2)->ts.length<=i ->
   (∀s' o' bg eL je t',Moved (sa::wr) G s s'->s'.heap.get? sa=some o'->bK prog w o' bg eL je t'->(∀x∈bg,x∈vs)->(∀x∈vs,∃y∈bg,y.2=x.2)->R (.ok (.ret .none)) s') ->
   Na (model prog w) A (.builtin "set.update.loop" ⟨[.ref sa,.ref I],[]⟩) R s:=by
 subst JD;have uC:sa∉wr:=λz=>HG (W.sub _ z);have up:∀x∈wr,x∈sa::wr:=λx hx=>Lc _ hx;intro d
 induction d with
 |zero =>
  intro i s o ts es ep t hd hi st T ho S k1 k2 k3 hR;obtain rfl:i=vs.length:=by lia
  refine Ni F.entry_set_update_loop ?_;rw[Og F.plain_set_update_loop _];show Ln _ A.in1 (Oo (.ref I) >>= _) _ _ s;refine KS (W.done s _ _ st λs' mv=>?_);rw[NS]at k1 k2;exact K0 (hR s' o ts es ep t (mv.mono up) (mv.heap sa _ uC ho) S k1 k2)
 |succ d ih =>
  intro i s o ts es ep t hd hi st T ho S k1 k2 k3 hR;have lt:i<vs.length:=by lia
  refine Ni F.entry_set_update_loop ?_;rw[Og F.plain_set_update_loop _];show Ln _ A.in1 (Oo (.ref I) >>= _) _ _ s;refine KS (W.item i s _ _ lt st λv s1 hP Bb mv=>?_);obtain⟨x,hx,rfl⟩:=JY i v hP;have Ca:x∈vs:=LR hx;have T1:wB prog w s1.heap vs:=λy hy=>by
   obtain⟨oy,its,n,g1,g2⟩:=T y hy;exact⟨oy,its,n,mv.heap _ _ (hv y hy).1 g1,g2⟩
  have zN:=mv.heap sa _ uC ho;refine KS (L7 (rl zN S (λy hy=>T1 y (List.mem_of_mem_take (k1 y hy))) (T1 x Ca) hu (by lia) λh' o' bg eL je t' added tk r0 r1 r2 r3 r4 r5=>?_))
  have Iz:vs.take (i+1)=vs.take i++[x]:=by rw[OU,hx];rfl
  have keep:∀c oc,c≠sa->s1.heap.get? c=some oc->h'.get? c=some oc:=λc oc hc e=>by rw[r1.2 c hc];exact e
  have step:(∀y∈bg,y∈vs.take (i+1))/\(∀y∈vs.take (i+1),∃z∈bg,z.2=y.2)/\bg.length<=i+1:=by
   rw[Iz]
   by_cases k9:∃y∈ts,y.2=x.2
   ·rw[r4 k9];refine⟨λy hy=>L6 _ (k1 y hy),λy hy=>?_,by lia⟩
    rcases Lv.mp hy with z|z
    ·exact k2 y z
    ·rw[K_.mp z];exact k9
   ·have pm:=r5 λy hy e=>k9 ⟨y,hy,e⟩;refine⟨λy hy=>?_,λy hy=>?_,by rw[pm.length_eq,Lm];lia⟩
    ·rcases K6.mp (pm.mem_iff.mp hy)with rfl|z
     ·exact Ly _ (K_.mpr rfl)
     ·exact L6 _ (k1 y z)
    ·rcases Lv.mp hy with z|z
     ·obtain⟨u,hu,e⟩:=k2 y z;exact⟨u,pm.mem_iff.mpr (Lc _ hu),e⟩
     ·rw[K_.mp z];exact⟨x,pm.mem_iff.mpr Lg,rfl⟩
  have Jg:Moved (sa::wr) G s {s1 with heap:=h',toks:=tk} :=
   (mv.mono up).then_heap r0 λc oc hc e=>keep c oc (λz=>hc (by rw[z];exact Lg)) e
  refine K0 ⟨plainId_quiet F.plain_set_update_loop _,ih (i+1) _ o' bg eL je t' (by lia) lt (W.frame _ s1 _ _ Bb r0 λc hc oc e=>keep c oc (λz=>HG (by rw[<- z];exact hc)) e) (λy hy=>?_) r2 r3 step.1 step.2.1 step.2.2 λs' o2 Iy J9 J_ t2 m1 m2 m3 m4 m5=>hR s' o2 Iy J9 J_ t2 (Moved.trans W.gtrans Jg m1) m2 m3 m4 m5⟩
  obtain⟨oy,its,n,g1,g2⟩:=T1 y hy;exact⟨oy,its,n,keep _ _ (hv y hy).2 g1,g2⟩
end
section
variable {prog:K3}{w:Lf}{A:LI}{E:KR->KU->Prop}{s:KU}
theorem qH {l:Addr}{vs:List (Addr×List Int)}{Q:KR->KU->Prop}(hh:A.handled=none)(hu:A.units+16<Nl)(hl:s.heap.IsList l (vs.map λx=>Value.ref x.1).toArray)(hn:vs.length<1000)(T:wB prog w s.heap vs)
  (q:∀(h':Heap) (tk:Nat) (o':Obj) (ts:List (Addr×List Int)) (es:Array (Int×KR)) (ep:Nat) (t:SetTable),(∀c oc,s.heap.get? c=some oc->h'.get? c=some oc)->h'.get? s.heap.objs.size=some o'->bK prog w o' ts es ep t ->
   (∀x∈ts,x∈vs)->(∀x∈vs,∃y∈ts,y.2=x.2)->Q (.ref s.heap.objs.size) {s with heap:=h',toks:=tk}) :
  Ln (model prog w) A (call (.type "set") [.ref l]) Q E s:=by
 obtain⟨cx,Kt,Jh⟩:=F.called_set.mro;have Hz:=F.called_set.made;have II:=F.called_set.sub;refine NU (OL ?_);show Ln _ _ (callAny (.type "set") _) _ _ _;refine K0 ⟨Code.quiet_builtin _ (by decide +kernel),Ni F.entry_type_call ?_⟩
 rw[Around.under_plain (weight_type_call_type "set" [.ref l] []) rfl];have t1:=F.called_set.notType;have t2:=F.called_set.canCreate;have t3:=F.typeCall_set_1 (.ref l)
 repeat (any_goals (first|assumption|wp_step))
 have ls:l<s.heap.objs.size:=by obtain⟨ol,F3,_⟩:=hl;exact K8 F3
 refine MK (sU (w:=w) (E:=E) (xs:=[.ref l]) (R:=λob sx=>ob=.ref s.heap.objs.size/\sx={s with heap:=s.heap.push (gf w)}) (F.newCall_set_1 _) (.inr ⟨_,rfl⟩) ⟨rfl,rfl⟩) λr sx hr=>?_
 cases r with
 |error e=>exact hr
 |ok fl =>
  cases fl with
  |ret ob =>
   obtain⟨rfl,rfl⟩:=hr;have hS:(s.heap.push (gf w)).get? s.heap.objs.size=some (gf w):=LB _ rfl;have hT:Shared.TypeIs {s with heap:=s.heap.push (gf w)} (.ref s.heap.objs.size) "set" := ⟨_,hS,rfl⟩
   have i1:=F.called_set.init.lookup;have i2:=F.called_set.init.bind (.ref s.heap.objs.size)
   repeat (any_goals (first|assumption|wp_step))
   refine MK (Oa (R:=wants (λr s2=>r=.none/\Q (.ref s.heap.objs.size) s2) E) F.called_set.init.plain F.entry_set_init (check_set_init_1 hT ?_)) λr2 s2 kJ=>?_
   ·obtain⟨ol,F3,vU,nl,H9⟩:=hl;obtain⟨c1,c2,c3,c4⟩:=ol;simp only at vU H9;subst vU H9;have F2:(s.heap.push (gf w)).get? l=some {cls:=.type "list",dict:=c2,data:=.seq (vs.map λx=>Value.ref x.1).toArray nl,slots:=c4}:=K4 _ F3;have u1:=F.sub_list_set;have u2:=F.sub_list_frozenset;have u3:(Value.type "list" == Value.type "dict")=false:=by decide
    have Gg:(s.heap.push (gf w)).IsList l (vs.map λx=>Value.ref x.1).toArray:=⟨_,F2,rfl,nl,rfl⟩;unfold Mn.«set.__init__» noKeywords Builtin.Frozenset.updateFrom;generalize JZ:OS=PI
    wp_walk
    subst JZ;refine wpAny_pyIter_list Gg ?_;refine KS (wpAny_runValue ?_);have Js:A.in1.in1.in1.handled=none:=by simp[hh]
    have uu:A.in1.in1.in1.units<Nl:=by
     have e1:∀B:LI,B.in1.units=B.units+1:=λB=>rfl;rw[e1,e1,e1];lia
    have nI:l≠(s.heap.push (gf w)).objs.size:=by rw[Oe];exact Lu (MW ls)
    have hf:s.heap.objs.size∉[(s.heap.push (gf w)).objs.size,l]:=by
     rw[Oe];simp only[K6,L_,or_false,not_or];exact⟨Lu (Nat.lt_succ_self _),Nat.ne_of_gt ls⟩
    have old:∀x∈vs,x.1<s.heap.objs.size:=λx hx=>by
     obtain⟨oy,its,n,g1,g2⟩:=T x hx;exact K8 g1
    refine qk (vs:=vs) uu ((Walks.list Js _ l nI _).toS) (by simp) (λi v hv=>?_) s.heap.objs.size hf hn (λx hx=>?_) vs.length 0 _ (gf w) [] #[] 0 _ (by lia) (Lp _) ⟨⟨_,LB _ rfl,rfl,rfl⟩,Gg.push _⟩ (λx hx=>?_) (K4 _ hS) (oV prog w) (λx hx=>by cases hx) (λx hx=>by simp at hx) (Lp _) λs' o' bg eL je t' m1 m2 m3 m4 m5=>?_
    ·have hv:(vs.map λx=>Value.ref x.1).toArray[i]?=some v:=hv;rw[List.getElem?_toArray,Lj]at hv;obtain⟨x,e1,e2⟩:=LG.mp hv;exact⟨x,e1,e2.symm⟩
    ·have:=old x hx;refine⟨λz=>?_,Lu this⟩;have z:=K_.mp z;rw[Oe]at z;exact absurd z (Lu (MW this))
    ·obtain⟨oy,its,n,g1,g2⟩:=T x hx;exact⟨oy,its,n,K4 _ (K4 _ g1),g2⟩
    ·obtain⟨h',g',d',IA,Fc⟩:=s';have eg:g'=s.gens:=m1.gens;have ed:d'=s.drawn:=m1.drawn;have eo:Fc=s.os:=m1.os;subst eg ed eo;refine K0 (K0 ⟨rfl,q h' IA o' bg eL je t' (λc oc e=>?_) m2 m3 m4 m5⟩);have hc:=K8 e;refine m1.heap c oc (λz=>?_) (K4 _ (K4 _ e));rcases K6.mp z with z|z
     ·exact absurd z (Lu hc)
     ·have z:=K_.mp z;rw[Oe]at z;exact absurd z (Lu (MW hc))
   ·cases r2 with
    |error e=>exact kJ
    |ok J2 =>
     cases J2 with
     |ret r =>
      obtain⟨rfl,hq⟩:=kJ
      repeat (any_goals (first|assumption|wp_step))
     |_=>exact kJ.elim
  |_=>exact hr.elim
end
end ST
namespace TS
open PySem PyProof.Rows
section
variable {prog:K3}{w:Lf}{A:LI}{E:KR->KU->Prop}{s:KU}
theorem nh {x:KR}{vs:List KR}{kf:KR->List Int}{Q:KR->KU->Prop}(hz:vs.length<=1000000)
  (col:∀(R:List KR->KU->Prop),(∀(h':Heap) (tk:Nat),(∀b o,s.heap.get? b=some o->h'.get? b=some o)->R vs {s with heap:=h',toks:=tk})->Ln (model prog w) A.in1 (collect x) R E s)
  (T:jh s.heap kf s.heap.objs.size vs)
  (h:∀(out:List KR) (h1 h':Heap) (tk:Nat) (n:Nat),out.Perm vs->out.Pairwise (λx y=>HT.lexLt (kf y) (kf x)=false)->(∀b o,s.heap.get? b=some o->h1.get? b=some o)->(∀b o,h1.get? b=some o->h'.get? b=some o)->h'.get? h1.objs.size=some (Mr "list" out.toArray n)->Q (.ref h1.objs.size) {s with heap:=h',toks:=tk}) :
  Ln (model prog w) A (call (.builtin "sorted") [x]) Q E s:=by
 refine O1 kind_sorted plain_sorted entry_sorted (args_sorted1 _) ?_;unfold Mn.«sorted»
 refine KS (m:=checkCount "sorted" 1 1 _) (K0 ?_);refine KS (col _ λh' tk kp=>?_);have nl:vs.length<=Lk:=by rw[LL];lia
 refine KS (wpAny_newList ?_ nl);have hl:(h'.push (Mr "list" vs.toArray 0)).get? h'.objs.size=some (Mr "list" vs.toArray 0):=LB _ rfl;have T':jh (h'.push (Mr "list" vs.toArray 0)) kf h'.objs.size vs:=λv hv=>by
  obtain⟨t,o,xs,k,e1,_,e3,r⟩:=T v hv;exact⟨t,o,xs,k,e1,Lu (K8 (kp _ _ e3)),K4 _ (kp _ _ e3),r⟩
 refine KS (L7 (Mq slot_list_sort ⟨_,hl,rfl⟩ entry_list_sort (iG (s:={s with heap:=h'.push (Mr "list" vs.toArray 0),toks:=tk}) hl hz T' λout hp hs=>⟨_,rfl,?_⟩) (args_list_sort _)))
 obtain⟨n,hn⟩:=sortedHeap_at (out:=out.toArray) hl;refine K0 ⟨_,rfl,h out h' _ tk n hp hs kp (λb o e=>?_) hn⟩;have hb:=K8 e;rw[sortedHeap_old (Lu hb) (by rw[size_push'];exact MW hb)]
 exact K4 _ e
end
end TS
namespace ST
open PySem PyProof.Rows
section
variable {prog:K3}{w:Lf}{s:KU}
theorem lb {a:Addr}{o:Obj}{ts:List (Addr×List Int)}{es:Array (Int×KR)}{ep:Nat}{t:SetTable}(ho:s.heap.get? a=some o)(S:bK prog w o ts es ep t)(hn:ts.length<=1000):
  ∃us:List (Addr×List Int),us.Perm ts/\∀(A:LI) (E:KR->KU->Prop) (R:List KR->KU->Prop),A.handled=none->(∀(h':Heap) (tk:Nat),(∀b o,s.heap.get? b=some o->h'.get? b=some o)->R (us.map λx=>Value.ref x.1) {s with heap:=h',toks:=tk}) ->
  Ln (model prog w) A (collect (.ref a)) R E s:=by
 have hw:=eu w a ep es;rw[S.z9]at hw;obtain⟨us,h1,h2⟩:=lF hw;refine⟨us,h1,λA E R hh q=>?_⟩;refine PySem.W.kdu_collect (uU prog w a o ts es ep t S) hh ho (by rw[S.size.1,LL];lia) λh' tk acc hk CZ=>?_
 have e:acc.toList=us.map λx=>Value.ref x.1:=by
  have hz:(bf w a ep es).size=es.size:=by
   have:=(eu w a ep es).length_eq;rw[K2,K2]at this;exact this
  have e2:us.map (λx=>Value.ref x.1)=(bf w a ep es).toList.map (·.2):=by
   rw[h2,Mv];rfl
  rw[e2];apply M0;intro i;rw[Lj,Lb,Lb]
  by_cases hi:i<acc.size
  ·obtain⟨x,g1,g2⟩:=CZ.2 i acc[i] (getElem?_pos acc i hi);rw[getElem?_pos acc i hi,g1,g2];rfl
  ·have:=CZ.1;rw[Mj (by lia),Mj (by lia)]
   rfl
 rw[e];exact q h' tk hk
end
end ST
namespace L2
open PySem PySem.Spec PySem.SeqAt PyProof.Rows HT
theorem fb:∀{a b:List Int},lexLt a b=false->lexLt b a=false->a=b
 |[],[],_,_=>rfl
 |[],_::_,h,_=>by cases h
 |_::_,[],_,h=>by cases h
 |x::xs,y::ys,h1,h2=>by
  rw[e_]at h1 h2
  by_cases e:x=y
  ·subst e;rw[if_pos rfl]at h1 h2;rw[fb h1 h2]
  ·rw[if_neg e]at h1;rw[if_neg (λz=>e z.symm)]at h2;have:=of_decide_eq_false h1;have:=of_decide_eq_false h2;omega
theorem iH:∀{a b:List Int},lexLt a b=true->lexLt b a=false
 |[],[],h=>by cases h
 |[],_::_,_=>rfl
 |_::_,[],h=>by cases h
 |x::xs,y::ys,h=>by
  rw[e_]at h ⊢
  by_cases e:x=y
  ·subst e;rw[if_pos rfl]at h ⊢
   exact iH h
  ·rw[if_neg e]at h;rw[if_neg (λz=>e z.symm)];have:=of_decide_eq_true h;exact decide_eq_false (by lia)
theorem gK:∀{a b c:List Int},lexLt a b=true->lexLt b c=true->lexLt a c=true
 |[],[],_,h,_=>by cases h
 |[],_::_,[],_,h=>by cases h
 |[],_::_,_::_,_,_=>rfl
 |_::_,[],_,h,_=>by cases h
 |x::xs,y::ys,[],_,h=>by cases h
 |x::xs,y::ys,z::zs,h1,h2=>by
  rw[e_]at h1 h2 ⊢
  by_cases e:x=y
  ·subst e;rw[if_pos rfl]at h1
   by_cases e2:x=z
   ·subst e2;rw[if_pos rfl]at h2 ⊢
    exact gK h1 h2
   ·rw[if_neg e2]at h2 ⊢
    exact h2
  ·rw[if_neg e]at h1;have q1:=of_decide_eq_true h1
   by_cases e2:y=z
   ·subst e2;rw[if_neg e];exact h1
   ·rw[if_neg e2]at h2;have q2:=of_decide_eq_true h2;rw[if_neg (by omega)]
    exact decide_eq_true (by omega)
def nO (k:List Int):List (List Int)->List (List Int)
 |[]=>[k]
 |x::xs=>if lexLt x k=true then x::nO k xs else k::x::xs
def eP:List (List Int)->List (List Int)
 |[]=>[]
 |k::ks=>nO k (eP ks)
theorem gm (k:List Int):∀xs,(nO k xs).Perm (k::xs)
 |[]=>.refl _
 |x::xs=>by
  unfold nO
  split
  ·exact((gm k xs).cons x).trans (List.Perm.swap _ _ _)
  ·exact .refl _
theorem c8:∀ks,(eP ks).Perm ks
 |[]=>.refl _
 |k::ks=>(gm k (eP ks)).trans ((c8 ks).cons k)
abbrev oq (ks:List (List Int)):Prop:=ks.Pairwise λx y=>HT.lexLt y x=false
theorem le_trans' {a b c:List Int}(h1:lexLt b a=false)(h2:lexLt c b=false):lexLt c a=false:=by
 cases h:lexLt c a with
 |false=>rfl
 |true =>
  cases hb:lexLt a b with
  |true=>rw[gK h hb]at h2;cases h2
  |false =>
   have:=fb hb h1;subst this;rw[h]at h2;cases h2
theorem jE (k:List Int):∀xs,oq xs->oq (nO k xs)
 |[],_=>by simp[nO]
 |x::xs,h=>by
  obtain⟨h1,h2⟩:=Mk.mp h;unfold nO
  split
  ·rename_i hx
   refine Mk.mpr ⟨λy hy=>?_,jE k xs h2⟩;rcases K6.mp ((gm k xs).mem_iff.mp hy)with rfl|hy
   ·exact iH hx
   ·exact h1 y hy
  ·rename_i hx
   have Az:lexLt x k=false:=by cases q:lexLt x k <;> simp_all
   refine Mk.mpr ⟨λy hy=>?_,h⟩;rcases K6.mp hy with rfl|hy
   ·exact Az
   ·exact le_trans' Az (h1 y hy)
theorem ib:∀ks,oq (eP ks)
 |[]=>.nil
 |k::ks=>jE k _ (ib ks)
theorem gD:∀{a b:List (List Int)},a.Perm b->oq a->oq b->a=b
 |[],b,p,_,_=>by rw[List.nil_perm.mp p]
 |x::a,[],p,_,_=>by have:=p.length_eq;simp at this
 |x::a,y::b,p,ha,hb=>by
  obtain⟨a1,a2⟩:=Mk.mp ha;obtain⟨b1,b2⟩:=Mk.mp hb;have Fx:x=y:=by
   rcases K6.mp (p.mem_iff.mp (Lg (a:=x) (l:=a)))with h|h
   ·exact h
   ·rcases K6.mp (p.mem_iff.mpr (Lg (a:=y) (l:=b)))with h' | h'
    ·exact h'.symm
    ·exact fb (b1 x h) (a1 y h')
  subst Fx;rw[gD (List.perm_cons x |>.mp p) a2 b2]
theorem rB {a b:List (List Int)}(p:a.Perm b)(h:oq a):a=eP b:=gD (p.trans (c8 b).symm) h (ib b)
def iV:List (List Int)->List (List Int)
 |[]=>[]
 |k::ks=>if k∈iV ks then iV ks else k::iV ks
theorem dc:∀l:List (List Int),(iV l).Nodup/\∀x,x∈iV l↔x∈l
 |[]=>⟨LO,λ_=>Iff.rfl⟩
 |k::ks=>by
  obtain⟨h1,h2⟩:=dc ks;unfold iV
  split
  ·rename_i h
   refine⟨h1,λx=>?_⟩;rw[h2 x,K6];exact⟨.inr,λz=>z.elim (λe=>by rw[e];exact(h2 k).mp h) id⟩
  ·rename_i h
   refine⟨LD.mpr ⟨h,h1⟩,λx=>?_⟩;rw[K6,K6,h2 x]
theorem pz:∀l:List (List Int),(iV l).length<=l.length
 |[]=>KZ _
 |k::ks=>by
  have:=pz ks;unfold iV
  split
  ·exact Nat.le_succ_of_le this
  ·simpa using this
abbrev kD (k:List Int):D:=.tup (k.map D.int)
def cV:List D->Option (List (List Int))
 |[]=>some []
 |.tup a::ds=>match gL a,cV ds with
  |some k,some ks=>if k=[] then none else some (k::ks)
  |_,_=>none
 |_::_=>none
theorem iL:∀{ds:List D} {ks:List (List Int)},cV ds=some ks->ds=ks.map kD/\∀k∈ks,k≠[]
 |[],_,h=>by cases h;exact⟨rfl,λ_ z=>nomatch z⟩
 |.tup a::ds,ks,h=>by
  have h':(match gL a,cV ds with|some k,some ks=>if k=[] then none else some (k::ks)|_,_=>none)=some ks:=h
  cases ea:gL a with
  |none=>rw[ea]at h';cases h'
  |some k =>
   cases eb:cV ds with
   |none=>rw[ea,eb]at h';cases h'
   |some kr =>
    rw[ea,eb]at h'
    by_cases hk:k=[]
    ·simp[hk]at h'
    ·simp only[hk,if_false,OA]at h';subst h';obtain⟨h1,h2⟩:=iL eb;rw[LJ,<- h1,l3 ea];refine⟨rfl,λx hx=>?_⟩;rcases K6.mp hx with rfl|hx
     ·exact hk
     ·exact h2 x hx
 |.bx::_,_,h=>by cases h
 |.bl _::_,_,h=>by cases h
 |.str _::_,_,h=>by cases h
 |.obj _::_,_,h=>by cases h
 |.int _::_,_,h=>by cases h
 |.lst _::_,_,h=>by cases h
 |.dT _ _::_,_,h=>by cases h
 |.dK _ _::_,_,h=>by cases h
 |.sT _::_,_,h=>by cases h
 |.ob _::_,_,h=>by cases h
theorem gj:∀{ks:List (List Int)},(∀k∈ks,k≠[])->cV (ks.map kD)=some ks
 |[],_=>rfl
 |k::ks,h=>by
  show (match gL (k.map D.int),cV (ks.map kD)with|some k,some ks=>if k=[] then none else some (k::ks)|_,_=>none)=_
  rw[jD,gj λx hx=>h x (Lc _ hx)];simp[h k (Lg ..)]
section
variable {P:K3}{w:Lf}{W:Addr->Prop}{H:Hp}
theorem gi:∀{ks:List (List Int)} {vs:List V},(∀k∈ks,k≠[])->ag P w W H (ks.map kD) vs->∃ts:List (Addr×List Int),vs=ts.map lj/\qP H ts/\ts.map (·.2)=ks
 |[],_,_,h=>⟨[],h,(λ_ z=>nomatch z),rfl⟩
 |k::ks,_,hk,⟨v,r,e,⟨a,us,e1,e2,e3⟩,h2⟩=>by
  obtain⟨ts,q1,q2,q3⟩:=gi (λx hx=>hk x (Lc _ hx)) h2;refine⟨(a,k)::ts,by rw[e,e1,q1];rfl,λt ht=>?_,by rw[LJ,q3]⟩
  rcases K6.mp ht with rfl|ht
  ·rw[cn e3]at e2;exact⟨e2,hk k (Lg ..)⟩
  ·exact q2 t ht
theorem eE:∀{ts:List (Addr×List Int)},(∀t∈ts,H t.1=some (.tup (t.2.map V.int)))->ag P w W H ((ts.map (·.2)).map kD) (ts.map lj)
 |[],_=>rfl
 |t::ts,h=>⟨_,_,rfl,⟨t.1,_,rfl,h t (Lg ..),jC t.2⟩,eE λx hx=>h x (Lc _ hx)⟩
def kR:List D->Option D
 |[.lst ds]=>match cV ds with
  |some ks=>if ks.length<=1000000 then some (.lst ((eP ks).map kD)) else none
  |none=>none
 |[.sT ts]=>if ts.length<=1000/\(∀k∈ts,k≠[]) then some (.lst ((eP ts).map kD)) else none
 |_=>none
theorem td:∀{ns:List Int} {its:List KR},Vals (ns.map V.int) its->ItemsAre (intKind P w) ns its
 |[],_,.nil=>.nil
 |n::ns,_,.cons r t=>by
  obtain⟨tk,rfl⟩:=r;exact .cons (by show Value.isInt n (.int n tk)=true;simp[Value.isInt]) (td t)
theorem m9 {h:Heap}{ts:List (Addr×List Int)}(ok:eW P w H h)(T:∀t∈ts,H t.1=some (.tup (t.2.map V.int))):ST.wB P w h ts:=λt ht=>by
 obtain⟨_,its,r,o,ho,hc,n,hd⟩:=(show bY P w H h t.1 (.tup (t.2.map V.int)) from ok _ _ (T t ht))
 refine⟨o,its.toArray,n,ho,hc,hd,?_⟩;exact td r
def xt:List D->Option D
 |[.lst ds]=>match cV ds with
  |some ks=>if ks.length<1000 then some (.sT (iV ks)) else none
  |none=>none
 |_=>none
end
section
end
theorem qK {X:Cx} (hc:X.calm=true) (hu:X.A.units+16<Nl):bJ X (.type "set") xt:=by
 intro pins s σ H xs us Q I r h;obtain⟨W,ds,d,hd,r1,e,q⟩:=h
 match ds,e with
 |[.lst es],e =>
  have e':(match cV es with|some ks=>if ks.length<1000 then some (D.sT (iV ks)) else none|none=>none)=some d:=e
  cases ek:cV es with
  |none=>rw[ek]at e';cases e'
  |some ks =>
   rw[ek]at e';obtain⟨hl,rfl⟩:=dD e';obtain⟨rfl,hk⟩:=iL ek;obtain⟨x,rfl,p,vs,rfl,hp,n1,q1⟩:=jS r1;obtain⟨ts,rfl,T,rfl⟩:=gi hk q1;obtain⟨u,rfl,rx⟩:=vals1 r;cases rx;obtain⟨its,r',pl,hz⟩:=I.list (de.of hp);obtain rfl:=fW r';refine ST.qH (w:=X.w) (I.ok.hd hc) hu pl.isList (by simpa using hl) (m9 I.a_ λt ht=>(T t ht).1) λh' tk o' bg es ep t kp ho S m1 m2=>?_
   have zR:H s.heap.objs.size=none:=I.a_.fresh (KZ _);have nd:=dc (ts.map (·.2));refine⟨.ref s.heap.objs.size,_,I.laid (t':=tk) (o:=ee X.prog X.w s.heap.objs.size bg) kp (KZ _) ?_,rfl,q _ _ (ay.new zR) ⟨_,rfl,⟨bg,ao,λx hx=>?_,?_⟩,oU hd zR⟩⟩
   ·refine⟨⟨o',es,ep,t,ho,S⟩,⟨o',ho⟩,λh1 h2 qr k=>by obtain⟨o1,e1,C1,t1,g1,g2⟩:=qr;exact⟨o1,e1,C1,t1,k _ g1,g2⟩⟩
   ·exact(ay.new zR) _ _ (T x (m1 x hx)).1
   ·refine(OV S.BJ nd.1).mpr λk=>?_;rw[nd.2 k,LC,LC];constructor
    ·rintro⟨x,hx,rfl⟩;exact⟨x,m1 x hx,rfl⟩
    ·rintro⟨x,hx,rfl⟩;obtain⟨y,hy,e⟩:=m2 x hx;exact⟨y,hy,e⟩
def e9 (ns:List Int):Prop:=∃x y:Int,ns=[x,y]/\0<=x/\0<=y/\y<2147483647
theorem Hand.ok {H:Hp}{h:Addr}(d:Hand H h):∃ns,H h=some (.lst (ns.map V.int))/\e9 ns:=by
 obtain⟨x,y,e,h1,h2,h3⟩:=d;exact⟨[x,y],e,x,y,rfl,h1,h2,h3⟩
theorem e9.hand {H:Hp}{h:Addr}{ns:List Int}(e:H h=some (.lst (ns.map V.int)))(o:e9 ns):Hand H h:=by
 obtain⟨x,y,rfl,h1,h2,h3⟩:=o;exact⟨x,y,e,h1,h2,h3⟩
def bh:FD:=λds R=>∃n:Int,ds=[.int n]/\0<n/\n<2 ^ 200/\∀r:Int,0<=r->r<n->R (.int r)
theorem bh.mono:i6 bh:=λds R R' k ⟨n,e,h1,h2,q⟩=>⟨n,e,h1,h2,λr a b=>k _ (q r a b)⟩
section
end
section
variable {X:Cx}{W:Addr->Prop}{H:Hp}
theorem qd {p:Addr}{vs:List V}{ds:List D}(n:H p=none)(f:NL (.lst ds))(r:ot X W H ds vs):Rp X (λa=>H a≠none) (upd H p (.lst vs)) (.lst ds) (.ref p) :=
 ⟨p,vs,rfl,ao,λz=>z n,ag.flat f (r.same (ay.new n))⟩
def EU (X:Cx)(f:D->D->Option D):R2:=λx y H Q=>∃W d1 d2 d,Dm W H/\Rp X W H d1 x/\Rp X W H d2 y/\f d1 d2=some d/\∀v H',ay H H'->Rp X W H' d v->(NL d->Rp X (λa=>H a≠none) H' d v)->Q v H'
def ET (X:Cx)(f:List D->Option D):List V->Hp->VK->Prop:=λxs H Q=>∃W ds d,Dm W H/\ot X W H ds xs/\f ds=some d/\∀v H',ay H H'->Rp X W H' d v->(NL d->Rp X (λa=>H a≠none) H' d v)->Q v H'
def Bh (X:Cx)(f:D->Option Int->Option Int->Option D):V->Option Int->Option Int->Hp->VK->Prop:=λx lo hi H Q=>∃W d1 d,Dm W H/\Rp X W H d1 x/\f d1 lo hi=some d/\∀v H',ay H H'->Rp X W H' d v->(NL d->Rp X (λa=>H a≠none) H' d v)->Q v H'
abbrev G7 (X:Cx)(f:KR->KR->Sem KR)(g:D->D->Option D):Prop:=fV X f (EU X g)
abbrev ox (X:Cx)(f:KR)(g:List D->Option D):Prop:=dg X f (ET X g)
theorem aF:G7 X (MF .Add) Ac:=by
 intro pins s σ H x y v u Q I rx ry h;obtain⟨W,d1,d2,d,hd,r1,r2,e,q⟩:=h;rcases qj e with⟨a,b,rfl,rfl,e⟩|e
 ·obtain⟨hl,rfl⟩:=dD e;obtain⟨p,vs,rfl,h1,n1,q1⟩:=r1;obtain⟨p',vs',rfl,h2,n2,q2⟩:=r2;exact sM pins s σ H _ _ v u Q I rx ry ⟨p,p',vs,vs',rfl,rfl,h1,h2,by rw[q1.length,q2.length];exact hl,λl qu=>q _ _ (ay.new qu) (Rp.gh hd qu (q1.append q2)) λf=>qd qu f (q1.append q2)⟩
 ·obtain⟨i,j,rfl,rfl,e⟩:=gk e;cases e;cases r1;cases r2;exact nE pins s σ H _ _ v u Q I rx ry ⟨i,j,rfl,rfl,q _ _ (ay.refl _) rfl λ_=>rfl⟩
theorem uS:G5 X (Bh X DY):=by
 intro pins s σ H x v vl vu lo hi sl Q I rx hs pl pu h;obtain⟨W,d1,d,hd,r1,e,q⟩:=h;cases d1 with
 |lst ds =>
  cases e;obtain⟨p,vs,rfl,h1,n1,q1⟩:=r1;have rr:ot X W H (cutD ds lo hi) (mB vs lo hi):=by
   unfold mB cutD;rw[q1.length];exact(ag.drop _ q1).take _
  exact oF pins s σ H _ v vl vu lo hi sl Q I rx hs pl pu ⟨p,vs,rfl,de.of h1,λl hl=>q _ _ (ay.new hl) (Rp.gh hd hl rr) λf=>qd hl f rr⟩
 |_=>cases e
theorem mH:ox X (.type "list") dList:=by
 intro pins s σ H xs us Q I r h;obtain⟨W,ds,d,hd,r1,e,q⟩:=h
 match ds,e with
 |[.lst es],e =>
  cases e;obtain⟨v,r',rfl,⟨p,vs,rfl,h1,n1,q1⟩,hr⟩:=r1;cases hr;exact fR pins s σ H _ us Q I r ⟨p,vs,rfl,.inl (de.of h1),λl hl=>q _ _ (ay.new hl) (Rp.gh hd hl q1) λf=>qd hl f q1⟩
 |[.tup es],e =>
  cases e;obtain⟨v,r',rfl,⟨p,vs,rfl,h1,q1⟩,hr⟩:=r1;cases hr;exact fR pins s σ H _ us Q I r ⟨p,vs,rfl,.inr (q0.of h1),λl hl=>q _ _ (ay.new hl) (Rp.gh hd hl q1) λf=>qd hl f q1⟩
theorem kZ:ox X (.builtin "sorted") (λds=>match ds with | [.lst ds]=>kR [.lst ds]|_=>none):=by
 intro pins s σ H xs us Q I r h;obtain⟨W,ds,d,hd,r1,e,q⟩:=h
 match ds,e with
 |[.lst es],e =>
  have e':(match cV es with|some ks=>if ks.length<=1000000 then some (D.lst ((eP ks).map kD)) else none|none=>none)=some d:=e
  cases ek:cV es with
  |none=>rw[ek]at e';cases e'
  |some ks =>
   rw[ek]at e';obtain⟨hl,rfl⟩:=dD e';obtain⟨rfl,hk⟩:=iL ek;obtain⟨x,rfl,p,vs,rfl,hp,n1,q1⟩:=jS r1;obtain⟨ts,rfl,T,rfl⟩:=gi hk q1;refine kY pins s σ H _ us Q I r ⟨p,ts,rfl,de.of hp,T,by simpa using hl,λl bg qu DJ Jz=>?_⟩
   have eq:bg.map (·.2)=eP (ts.map (·.2)):=rB (DJ.map _) (MY.mpr Jz);rw[<- eq]at q;have rk:=eE (P:=X.prog) (w:=X.w) (W:=W) (H:=H) (ts:=bg) λt ht=>(T t (DJ.mem_iff.mp ht)).1;exact q _ _ (ay.new qu) (Rp.gh hd qu rk) λf=>qd qu f rk
theorem fT (hc:X.calm=true):ox X (.builtin "sorted") (λds=>match ds with | [.sT ts]=>kR [.sT ts]|_=>none):=by
 intro pins s σ H xs us Q I r h;obtain⟨W,ds,d,hd,r1,e,q⟩:=h
 match ds,e with
 |[.sT ks],e =>
  obtain⟨⟨hl,hk⟩,rfl⟩:=dD (show (if ks.length<=1000/\(∀k∈ks,k≠[]) then some (D.lst ((eP ks).map kD)) else none)=some d from e)
  obtain⟨x,rfl,p,rfl,⟨ts,hp,T,pm⟩,nW⟩:=jS r1;obtain⟨u,rfl,rx⟩:=vals1 r;cases rx;obtain⟨⟨o,es,ep,t,ho,S⟩,_,_⟩:=(show bY X.prog X.w H s.heap p (ee X.prog X.w p ts) from I.a_ p _ hp)
  have tl:ts.length=ks.length:=by rw[<- pm.length_eq,KY]
  have T':qP H ts:=λt ht=>⟨T t ht,hk _ (pm.mem_iff.mp (LC.mpr ⟨t,ht,rfl⟩))⟩;obtain⟨us,qp,col⟩:=ST.lb (s:=s) ho S (by omega)
  have T2:qP H us:=λt ht=>T' t (qp.mem_iff.mp ht);refine TS.nh (vs:=us.map λx=>Value.ref x.1) (kf:=nK H) (by rw[KY,qp.length_eq];omega) (λR hR=>col _ _ R (by simp[I.ok.hd hc]) λh' tk kp=>hR h' tk kp) (oB I.a_ T2 (KZ _)) λout h1 h' tk n DK hs k1 kp qt=>?_
  ·obtain⟨e1,e2⟩:=jr T2 DK;have zl:out.length=us.length:=by rw[DK.length_eq,KY]
   have eq:(out.map (xm H)).map (·.2)=eP ks:=by
    refine rB ((e2.trans qp).map _ |>.trans pm) ?_
    refine MY.mpr (MY.mpr ?_);refine hs.imp_of_mem λ{x y} hx hy hh=>?_;obtain⟨t,ht,rfl⟩:=LC.mp (DK.mem_iff.mp hx);obtain⟨t',Jv,rfl⟩:=LC.mp (DK.mem_iff.mp hy);exact hh
   have I1:Inv X pins σ H {s with heap:=h1,toks:=s.toks}:=I.kept k1
   have zR:H h1.objs.size=none:=I1.a_.fresh (KZ _);refine⟨.ref h1.objs.size,_,I1.laid (t':=tk) (o:=.lst ((out.map (xm H)).map lj)) kp (KZ _) ?_,rfl,q _ _ (ay.new zR) ?_ ?_⟩
   ·refine⟨by rw[KY,KY,zl,qp.length_eq,LL];omega,out,n,?_,qt⟩
    have:=f9 (out.map (xm H));rw[<- e1]at this;exact this
   ·rw[<- eq];exact Rp.gh hd zR (eE λt ht=>(T2 t (e2.mem_iff.mp ht)).1)
   ·rw[<- eq];exact λf=>qd (W:=W) zR f (eE λt ht=>(T2 t (e2.mem_iff.mp ht)).1)
end
section
end
end L2
namespace L2.Q
open PySem PySem.Spec PySem.SeqAt PyProof.Rows
section
variable (P:K3)(w:Lf)(H:Hp)
mutual
def Own:D->V->List Addr->Prop
 |.tup ds,v,A=>∃a vs,v=.ref a/\H a=some (.tup vs)/\aI ds vs A
 |.lst ds,v,A=>∃a vs A',v=.ref a/\H a=some (.lst vs)/\A=a::A'/\aI ds vs A'
 |.dT ks ds,v,A=>∃a vs A',v=.ref a/\H a=some (.dT (ks.zip vs))/\ks.length=vs.length/\A=a::A'/\aI ds vs A'
 |.dK ks ds,v,A=>∃a vs A',v=.ref a/\H a=some (.dK (ks.zip vs))/\ks.length=vs.length/\A=a::A'/\aI ds vs A'
 |.sT ts,v,A=>∃a,v=.ref a/\wC P w H a ts/\A=[a]
 |.ob φ,v,A=>∃a,v=.ref a/\(H a=some (φ a)/\∀xs,φ a≠.tup xs)/\A=[a]
 |.bx,v,A=>v=.bx/\A=[]
 |.bl b,v,A=>v=.bl b/\A=[]
 |.int i,v,A=>v=.int i/\A=[]
 |.str x,v,A=>v=.str x/\A=[]
 |.obj a,v,A=>v=.ref a/\A=[]
def aI:List D->List V->List Addr->Prop
 |[],vs,A=>vs=[]/\A=[]
 |d::ds,vs,A=>∃v r A1 A2,vs=v::r/\A=A1++A2/\Own d v A1/\aI ds r A2
end
end
section
variable {P:K3}{w:Lf}{W:Addr->Prop}{H H':Hp}
theorem pV {a:Addr}{ts:List (List Int)}(k:∀b xs,H b=some (.tup xs)->H' b=some (.tup xs))(ha:∀o,H a=some o->H' a=some o)(h:wC P w H a ts):wC P w H' a ts :=
 let ⟨bg,e,r,z⟩:=h;⟨bg,ha _ e,λx hx=>k _ _ (r x hx),z⟩
mutual
theorem Own.keep (k:∀b xs,H b=some (.tup xs)->H' b=some (.tup xs)):∀{d:D} {v:V} {A:List Addr},(∀c∈A,∀o,H c=some o->H' c=some o)->Own P w H d v A->Own P w H' d v A
 |.tup ds,_,_,ha,⟨a,vs,e,t,r⟩=>⟨a,vs,e,k a vs t,aI.keep k ha r⟩
 |.lst ds,_,_,ha,⟨a,vs,A',e,t,eA,r⟩=>⟨a,vs,A',e,ha a (by rw[eA];simp) _ t,eA,aI.keep k (λc hc=>ha c (by rw[eA];simp[hc])) r⟩
 |.dT ks ds,_,_,ha,⟨a,vs,A',e,t,l,eA,r⟩=>⟨a,vs,A',e,ha a (by rw[eA];simp) _ t,l,eA,aI.keep k (λc hc=>ha c (by rw[eA];simp[hc])) r⟩
 |.dK ks ds,_,_,ha,⟨a,vs,A',e,t,l,eA,r⟩=>⟨a,vs,A',e,ha a (by rw[eA];simp) _ t,l,eA,aI.keep k (λc hc=>ha c (by rw[eA];simp[hc])) r⟩
 |.sT ts,_,_,ha,⟨a,e,r,eA⟩=>⟨a,e,pV k (λo ho=>ha a (by rw[eA];simp) o ho) r,eA⟩
 |.ob φ,_,_,ha,⟨a,e,r,eA⟩=>⟨a,e,⟨ha a (by rw[eA];simp) _ r.1,r.2⟩,eA⟩
 |.bx,_,_,_,h=>h
 |.bl _,_,_,_,h=>h
 |.int _,_,_,_,h=>h
 |.str _,_,_,_,h=>h
 |.obj _,_,_,_,h=>h
theorem aI.keep (k:∀b xs,H b=some (.tup xs)->H' b=some (.tup xs)):∀{ds:List D} {vs:List V} {A:List Addr},(∀c∈A,∀o,H c=some o->H' c=some o)->aI P w H ds vs A->aI P w H' ds vs A
 |[],_,_,_,h=>h
 |d::ds,_,_,ha,⟨v,r,A1,A2,e,eA,h1,h2⟩=>⟨v,r,A1,A2,e,eA,Own.keep k (λc hc=>ha c (by rw[eA];simp[hc])) h1,aI.keep k (λc hc=>ha c (by rw[eA];simp[hc])) h2⟩
end
mutual
theorem Own.rep:∀{d:D} {v:V} {A:List Addr},(∀c∈A,¬ W c)->Own P w H d v A->ar P w W H d v
 |.tup ds,_,_,ha,⟨a,vs,e,t,r⟩=>⟨a,vs,e,t,aI.rep ha r⟩
 |.lst ds,_,_,ha,⟨a,vs,A',e,t,eA,r⟩=>⟨a,vs,e,t,ha a (by rw[eA];simp),aI.rep (λc hc=>ha c (by rw[eA];simp[hc])) r⟩
 |.dT ks ds,_,_,ha,⟨a,vs,A',e,t,l,eA,r⟩=>⟨a,vs,e,t,l,ha a (by rw[eA];simp),aI.rep (λc hc=>ha c (by rw[eA];simp[hc])) r⟩
 |.dK ks ds,_,_,ha,⟨a,vs,A',e,t,l,eA,r⟩=>⟨a,vs,e,t,l,ha a (by rw[eA];simp),aI.rep (λc hc=>ha c (by rw[eA];simp[hc])) r⟩
 |.sT ts,_,_,ha,⟨a,e,r,eA⟩=>⟨a,e,r,ha a (by rw[eA];simp)⟩
 |.ob φ,_,_,ha,⟨a,e,r,eA⟩=>⟨a,e,r,ha a (by rw[eA];simp)⟩
 |.bx,_,_,_,h=>h.1
 |.bl _,_,_,_,h=>h.1
 |.int _,_,_,_,h=>h.1
 |.str _,_,_,_,h=>h.1
 |.obj _,_,_,_,h=>h.1
theorem aI.rep:∀{ds:List D} {vs:List V} {A:List Addr},(∀c∈A,¬ W c)->aI P w H ds vs A->ag P w W H ds vs
 |[],_,_,_,h=>h.1
 |d::ds,_,_,ha,⟨v,r,A1,A2,e,eA,h1,h2⟩=>⟨v,r,e,Own.rep (λc hc=>ha c (by rw[eA];simp[hc])) h1,aI.rep (λc hc=>ha c (by rw[eA];simp[hc])) h2⟩
end
mutual
theorem Own.jf:∀{d:D} {v:V} {A:List Addr},Own P w H d v A->∀c∈A,H c≠none/\∀xs,H c≠some (.tup xs)
 |.tup ds,_,_,⟨a,vs,e,t,r⟩,c,hc=>aI.jf r c hc
 |.lst ds,_,_,⟨a,vs,A',e,t,eA,r⟩,c,hc=>by
  rw[eA]at hc;rcases K6.mp hc with rfl|hc
  ·rw[t];exact⟨λz=>(nomatch z),λxs z=>by cases z⟩
  ·exact aI.jf r c hc
 |.dT ks ds,_,_,⟨a,vs,A',e,t,l,eA,r⟩,c,hc=>by
  rw[eA]at hc;rcases K6.mp hc with rfl|hc
  ·rw[t];exact⟨λz=>(nomatch z),λxs z=>by cases z⟩
  ·exact aI.jf r c hc
 |.dK ks ds,_,_,⟨a,vs,A',e,t,l,eA,r⟩,c,hc=>by
  rw[eA]at hc;rcases K6.mp hc with rfl|hc
  ·rw[t];exact⟨λz=>(nomatch z),λxs z=>by cases z⟩
  ·exact aI.jf r c hc
 |.sT ts,_,_,⟨a,e,⟨bg,t,r,z⟩,eA⟩,c,hc=>by
  rw[eA]at hc;rw[K_.mp hc,t];exact⟨λz=>(nomatch z),λxs z=>by cases z⟩
 |.ob φ,_,_,⟨a,e,⟨t,z⟩,eA⟩,c,hc=>by
  rw[eA]at hc;rw[K_.mp hc,t];exact⟨λz=>(nomatch z),λxs q=>z xs (Lq q)⟩
 |.bx,_,_,h,c,hc=>by rw[h.2]at hc;cases hc
 |.bl _,_,_,h,c,hc=>by rw[h.2]at hc;cases hc
 |.int _,_,_,h,c,hc=>by rw[h.2]at hc;cases hc
 |.str _,_,_,h,c,hc=>by rw[h.2]at hc;cases hc
 |.obj _,_,_,h,c,hc=>by rw[h.2]at hc;cases hc
theorem aI.jf:∀{ds:List D} {vs:List V} {A:List Addr},aI P w H ds vs A->∀c∈A,H c≠none/\∀xs,H c≠some (.tup xs)
 |[],_,_,h,c,hc=>by rw[h.2]at hc;cases hc
 |d::ds,_,_,⟨v,r,A1,A2,e,eA,h1,h2⟩,c,hc=>by
  rw[eA]at hc;rcases Lv.mp hc with hc|hc
  ·exact Own.jf h1 c hc
  ·exact aI.jf h2 c hc
end
mutual
theorem c9:∀{d:D} {v:V},d.flat=true->ar P w W H d v->Own P w H d v []
 |.tup ds,_,f,⟨a,vs,e,t,r⟩=>⟨a,vs,e,t,eH (by simpa[D.flat] using f) r⟩
 |.lst ds,_,f,_=>by simp[D.flat]at f
 |.dT ks ds,_,f,_=>by simp[D.flat]at f
 |.dK ks ds,_,f,_=>by simp[D.flat]at f
 |.sT ts,_,f,_=>by simp[D.flat]at f
 |.ob φ,_,f,_=>by simp[D.flat]at f
 |.bx,_,_,h=>⟨h,rfl⟩
 |.bl _,_,_,h=>⟨h,rfl⟩
 |.int _,_,_,h=>⟨h,rfl⟩
 |.str _,_,_,h=>⟨h,rfl⟩
 |.obj _,_,_,h=>⟨h,rfl⟩
theorem eH:∀{ds:List D} {vs:List V},D.cY ds=true->ag P w W H ds vs->aI P w H ds vs []
 |[],_,_,h=>⟨h,rfl⟩
 |d::ds,_,f,⟨v,r,e,h1,h2⟩=>by
  have f':(d.flat&&D.cY ds)=true:=f;rw[LP]at f';exact⟨v,r,[],[],e,rfl,c9 f'.1 h1,eH f'.2 h2⟩
end
theorem aI.length:∀{ds:List D} {vs:List V} {A:List Addr},aI P w H ds vs A->vs.length=ds.length
 |[],_,_,h=>by rw[h.1];rfl
 |d::ds,_,_,⟨v,r,A1,A2,e,eA,h1,h2⟩=>by rw[e,Lm,Lm,aI.length h2]
theorem aI.append:∀{ds ds':List D} {vs vs':List V} {A A':List Addr},aI P w H ds vs A->aI P w H ds' vs' A'->aI P w H (ds++ds') (vs++vs') (A++A')
 |[],_,_,_,_,_,h,h'=>by rw[h.1,h.2];exact h'
 |d::ds,_,_,_,_,_,⟨v,r,A1,A2,e,eA,h1,h2⟩,h'=>by
  subst e eA;exact⟨v,_,A1,_,rfl,by rw[LQ],h1,aI.append h2 h'⟩
theorem aI.one {d:D}{v:V}{A:List Addr}(h:Own P w H d v A):aI P w H [d] [v] A:=⟨v,[],A,[],rfl,by simp,h,rfl,rfl⟩
theorem aI.split:∀{ds:List D} {vs:List V} {A:List Addr} {i:Nat} {d:D},aI P w H ds vs A->ds[i]?=some d->∃v A1 A2 A3,vs[i]?=some v/\A=A1++(A2++A3)/\aI P w H (ds.take i) (vs.take i) A1/\Own P w H d v A2/\aI P w H (ds.drop (i+1)) (vs.drop (i+1)) A3
 |[],_,_,_,_,_,e=>by simp at e
 |d::ds,_,_,0,_,⟨v,r,A1,A2,e,eA,h1,h2⟩,e'=>by
  simp at e';subst e' e eA;exact⟨v,[],A1,A2,by simp,by simp,⟨rfl,rfl⟩,h1,by simpa using h2⟩
 |d::ds,_,_,i+1,_,⟨v,r,A1,A2,e,eA,h1,h2⟩,e'=>by
  subst e eA;obtain⟨u,B1,B2,B3,g1,g2,g3,g4,g5⟩:=aI.split (i:=i) h2 (by simpa using e')
  exact⟨u,A1++B1,B2,B3,by simpa using g1,by rw[g2];simp[LQ],by simpa using ⟨v,_,A1,B1,rfl,rfl,h1,g3⟩,g4,by simpa using g5⟩
end
inductive Kd where
 |own|dh|old|bor
inductive B where
 |val (y:Bool) (d:D)|own (d:D)|hand (ok:List Int->Prop)|shl (y:Bool) (d:D)
abbrev bt:=List (Option B)
structure Cfg where
 H0:Hp
 IO:Addr->Prop
 /-- is the result to be BD own -/
 ro:Bool
 /-- what else Fh data keeps off -/
 U:Addr->Prop:=λ_=>False
abbrev Wn (own:Nat->List Addr):Addr->Prop:=λa=>∃i,a∈own i
def av (C:Cfg)(W:Addr->Prop):Kd->Addr->Prop
 |.own,a=>W a\/C.H0 a≠none
 |.dh,a=>W a\/C.H0 a≠none
 |.old,a=>W a
 |.bor,_=>False
def fg (C:Cfg)(W:Addr->Prop)(k:Kd)(a:Addr):Prop:=av C W k a\/C.U a
abbrev yk (y:Bool):Kd:=match y with|true=>.dh|false=>.old
def IP:D->HO->List V->Prop
 |.lst _,o,vs=>o=.lst vs
 |.dT ks _,o,vs=>o=.dT (ks.zip vs)/\ks.length=vs.length
 |.dK ks _,o,vs=>o=.dK (ks.zip vs)/\ks.length=vs.length
 |_,_,_=>False
def IQ:D->List D
 |.lst ds=>ds
 |.dT _ ds=>ds
 |.dK _ ds=>ds
 |_=>[]
def AK (P:K3)(w:Lf)(W:Addr->Prop)(H:Hp)(d:D)(v:V)(A:List Addr):Prop:=∃a o vs,v=.ref a/\A=[a]/\H a=some o/\IP d o vs/\ag P w W H (IQ d) vs
theorem AK.map {P:K3}{w:Lf}{W W':Addr->Prop}{H H':Hp}{d:D}{v:V}{A:List Addr}(h:AK P w W H d v A)(ha:∀c∈A,∀o,H c=some o->H' c=some o)(hr:∀ds vs,ag P w W H ds vs->ag P w W' H' ds vs):AK P w W' H' d v A :=
 let ⟨a,o,vs,e1,e2,e3,e4,r⟩:=h;⟨a,o,vs,e1,e2,ha a (by rw[e2];simp) o e3,e4,hr _ _ r⟩
theorem AK.rep {P:K3}{w:Lf}{W W':Addr->Prop}{H:Hp}{d:D}{v:V}{A:List Addr}(h:AK P w W H d v A)(ha:∀c∈A,¬ W' c)(hs:∀ds vs,ag P w W H ds vs->ag P w W' H ds vs):ar P w W' H d v:=by
 obtain⟨a,o,vs,rfl,rfl,e,sh,r⟩:=h;have na:=ha a (by simp)
 replace r:=hs _ _ r;cases d with
 |lst ds=>cases sh;exact⟨a,vs,rfl,e,na,r⟩
 |dT ks ds=>obtain⟨rfl,l⟩:=sh;exact⟨a,vs,rfl,e,l,na,r⟩
 |dK ks ds=>obtain⟨rfl,l⟩:=sh;exact⟨a,vs,rfl,e,l,na,r⟩
 |_=>exact sh.elim
structure bw (P:K3)(w:Lf)(C:Cfg)(σ:St)(H:Hp)(β:bt)(own:Nat->List Addr):Prop where
 len:β.length=σ.length
 val:∀(i:Nat) (y:Bool) (d:D),β[i]?=some (some (.val y d))->∃v,σ[i]?=some (some v)/\ar P w (fg C (Wn own) (yk y)) H d v
 ow:∀(i:Nat) (d:D),β[i]?=some (some (.own d))->∃v,σ[i]?=some (some v)/\Own P w H d v (own i)/\∀c∈own i,C.H0 c=none
 i_:∀(i:Nat) (ok:List Int->Prop),β[i]?=some (some (.hand ok))->∃a ns,σ[i]?=some (some (.ref a))/\H a=some (.lst (ns.map V.int))/\ok ns/\own i=[a]/\((∀b,¬ C.IO b)\/C.IO a)
 dm:∀(i:Nat) (a:Addr),a∈own i->H a≠none/\(∀xs,H a≠some (.tup xs))/\(C.H0 a=none\/C.IO a)/\¬ C.U a
 iU:∀(i j:Nat) (a:Addr),a∈own i->a∈own j->i=j
 lJ:∀i,(own i).Nodup
 kp:Kp C.IO C.H0 H
 fQ:∀a,C.H0 a≠none->H a≠none
 shl:∀(i:Nat) (y:Bool) (d:D),β[i]?=some (some (.shl y d))->∃v,σ[i]?=some (some v)/\AK P w (fg C (Wn own) (yk y)) H d v (own i)/\∀c∈own i,C.H0 c=none
abbrev SQ (X:Cx):=bw X.prog X.w
section
variable {P:K3}{w:Lf}{C:Cfg}{σ:St}{H H':Hp}{β:bt}{own:Nat->List Addr}{W W':Addr->Prop}
theorem bw.qz (b:bw P w C σ H β own):Dm (Wn own) H:=λa ⟨i,h⟩=>(b.dm i a h).1
theorem bw.uF (b:bw P w C σ H β own)(k:Kd):Dm (av C (Wn own) k) H:=λa h=>by
 cases k with
 |own=>exact h.elim (b.qz a) (b.fQ a)
 |dh=>exact h.elim (b.qz a) (b.fQ a)
 |old=>exact b.qz a h
 |bor=>exact h.elim
theorem g_ (s:∀a,W' a->W a)(k:Kd):∀a,av C W' k a->av C W k a:=λa h=>by
 cases k with
 |own=>exact h.imp (s a) id
 |dh=>exact h.imp (s a) id
 |old=>exact s a h
 |bor=>exact h
theorem fU (s:∀a,W' a->W a)(k:Kd):∀a,fg C W' k a->fg C W k a:=λa h=>h.imp (g_ s k a) id
theorem bw.keep (b:bw P w C σ H β own)(k:Kp (λa=>H a=none) H H')(kp:Kp C.IO H H')(dn:∀a,H a≠none->H' a≠none):bw P w C σ H' β own:=by
 have ko:∀c o,H c=some o->H' c=some o:=λc o e=>k.out c o e (by rw[e];exact λz=>(nomatch z))
 have same:ay H H':=ko;exact⟨b.len,λi y d e=>let ⟨v,h1,h2⟩:=b.val i y d e;⟨v,h1,h2.same same⟩,λi d e=>let ⟨v,h1,h2,h3⟩:=b.ow i d e;⟨v,h1,h2.keep (λ_ _ e=>same _ _ e) (λc _ o e=>same c o e),h3⟩,
  λi ok e=>let ⟨a,ns,h1,h2,h3⟩:=b.i_ i ok e;⟨a,ns,h1,same _ _ h2,h3⟩,λi a h=>by
   obtain⟨h1,h2,h3⟩:=b.dm i a h;cases q:H a with
   |none=>exact absurd q h1
   |some o=>rw[same a o q];exact⟨λz=>(nomatch z),λxs z=>h2 xs (by rw[q];exact z),h3⟩,b.iU,b.lJ,b.kp.trans kp,λa z=>dn a (b.fQ a z),λi y d e=>let ⟨v,h1,h2,h3⟩:=b.shl i y d e;⟨v,h1,h2.map (λc _ o e=>same c o e) (λ_ _ r=>r.same same),h3⟩⟩
theorem bw.same (b:bw P w C σ H β own)(s:ay H H'):bw P w C σ H' β own:=b.keep s.kp s.kp λa z e=>z (s.free e)
theorem c0 {own:Nat->List Addr}{i:Nat}{a:Addr}(h:Wn (aE own i []) a):Wn own a:=let ⟨j,q⟩:=h;⟨j,(aW q).1⟩
theorem a3 {own:Nat->List Addr}{i j:Nat}{A:List Addr}(h:i≠j):aE own i A j=own j:=by unfold aE;rw[if_neg (NV h)]
theorem os_eq {own:Nat->List Addr}{i:Nat}{A:List Addr}:aE own i A i=A:=by unfold aE;rw[if_pos rfl]
theorem bw.dU {i:Nat}{d:D}{v:V}{y:Bool}(b:bw P w C σ H β own)(r:ar P w (fg C (Wn own) (yk y)) H d v):bw P w C (σ.set i (some v)) H (β.set i (some (.val y d))) (aE own i []):=by
 have sub:∀y a,fg C (Wn (aE own i [])) (yk y) a->fg C (Wn own) (yk y) a:=λy=>fU (λa h=>c0 h) _;refine⟨by simp[b.len],λj y' d' e=>?_,λj d' e=>?_,λj ok e=>?_,λj a h=>b.dm j a (aW h).1,λj k a h1 h2=>b.iU j k a (aW h1).1 (aW h2).1,λj=>?_,b.kp,b.fQ,λj y' d' e=>?_⟩
 ·by_cases aB:i=j
  ·subst aB;obtain⟨e',hl⟩:=aS e;cases e';exact⟨v,get_set (by rw[<- b.len];exact hl),r.aK (sub _)⟩
  ·rw[aQ aB]at e ⊢
   obtain⟨u,h1,h2⟩:=b.val j y' d' e;exact⟨u,h1,h2.aK (sub _)⟩
 ·by_cases aB:i=j
  ·subst aB;obtain⟨e',hl⟩:=aS e;cases e'
  ·rw[aQ aB]at e ⊢
   rw[a3 aB];exact b.ow j d' e
 ·by_cases aB:i=j
  ·subst aB;obtain⟨e',hl⟩:=aS e;cases e'
  ·rw[aQ aB]at e ⊢
   rw[a3 aB];exact b.i_ j ok e
 ·by_cases aB:i=j
  ·rw[aB,os_eq];exact LO
  ·rw[a3 aB];exact b.lJ j
 ·by_cases aB:i=j
  ·subst aB;obtain⟨e',hl⟩:=aS e;cases e'
  ·rw[aQ aB]at e ⊢
   rw[a3 aB];obtain⟨u,h1,h2,h3⟩:=b.shl j y' d' e;exact⟨u,h1,h2.map (λ_ _ _ z=>z) (λ_ _ r=>ag.aK (sub _) r),h3⟩
theorem bw.yj {i:Nat}{d:D}{v:V}{A:List Addr}(b:bw P w C σ H β own)(r:Own P w H d v A)(nd:A.Nodup)(nw:∀c∈A,C.H0 c=none/\¬ Wn own c/\C.U c):
  bw P w {C with U:=λ_=>False} (σ.set i (some v)) H (β.set i (some (.own d))) (aE own i A):=by
 have sub:∀y a,fg {C with U:=λ_=>False} (Wn (aE own i A)) (yk y) a->fg C (Wn own) (yk y) a:=λy a h=>by
  have q:∀a,Wn (aE own i A) a->Wn own a\/a∈A:=λa tu=>by
   obtain⟨j,q⟩:=tu
   by_cases aB:i=j
   ·rw[aB,os_eq]at q;exact .inr q
   ·rw[a3 aB]at q;exact .inl ⟨j,q⟩
  have q':∀a,Wn (aE own i A) a->Wn own a\/C.U a:=λa z=>(q a z).imp id λz=>(nw a z).2.2;rcases h with h|h
  ·cases y with
   |true=>exact h.elim (λz=>(q' a z).imp .inl id) λz=>.inl (.inr z)
   |false=>exact q' a h
  ·exact h.elim
 have mem:∀{j c},c∈aE own i A j->(i=j/\c∈A)\/(i≠j/\c∈own j):=λ{j c} h=>by
  by_cases aB:i=j
  ·subst aB;rw[os_eq]at h;exact .inl ⟨rfl,h⟩
  ·rw[a3 aB]at h;exact .inr ⟨aB,h⟩
 refine⟨by simp[b.len],λj y' d' e=>?_,λj d' e=>?_,λj ok e=>?_,λj a h=>?_,λj k a h1 h2=>?_,λj=>?_,b.kp,b.fQ,λj y' d' e=>?_⟩
 ·by_cases aB:i=j
  ·subst aB;obtain⟨e',hl⟩:=aS e;cases e'
  ·rw[aQ aB]at e ⊢
   obtain⟨u,h1,h2⟩:=b.val j y' d' e;exact⟨u,h1,h2.aK (sub _)⟩
 ·by_cases aB:i=j
  ·subst aB;obtain⟨e',hl⟩:=aS e;cases e';rw[os_eq];exact⟨v,get_set (by rw[<- b.len];exact hl),r,λc hc=>(nw c hc).1⟩
  ·rw[aQ aB]at e ⊢
   rw[a3 aB];exact b.ow j d' e
 ·by_cases aB:i=j
  ·subst aB;obtain⟨e',hl⟩:=aS e;cases e'
  ·rw[aQ aB]at e ⊢
   rw[a3 aB];exact b.i_ j ok e
 ·rcases mem h with⟨_,h⟩|⟨_,h⟩
  ·exact⟨(r.jf a h).1,(r.jf a h).2,.inl (nw a h).1,λz=>z⟩
  ·exact⟨(b.dm j a h).1,(b.dm j a h).2.1,(b.dm j a h).2.2.1,λz=>z⟩
 ·rcases mem h1 with⟨e1,h1⟩|⟨n1,h1⟩
  ·rcases mem h2 with⟨e2,h2⟩|⟨n2,h2⟩
   ·rw[<- e1,<- e2]
   ·exact absurd ⟨k,h2⟩ (nw a h1).2.1
  ·rcases mem h2 with⟨e2,h2⟩|⟨n2,h2⟩
   ·exact absurd ⟨j,h1⟩ (nw a h2).2.1
   ·exact b.iU j k a h1 h2
 ·by_cases aB:i=j
  ·rw[<- aB,os_eq];exact nd
  ·rw[a3 aB];exact b.lJ j
 ·by_cases aB:i=j
  ·subst aB;obtain⟨e',hl⟩:=aS e;cases e'
  ·rw[aQ aB]at e ⊢
   rw[a3 aB];obtain⟨u,h1,h2,h3⟩:=b.shl j y' d' e;exact⟨u,h1,h2.map (λ_ _ _ z=>z) (λ_ _ r=>ag.aK (sub _) r),h3⟩
theorem bw.freeze {i:Nat}{d:D}(b:bw P w C σ H β own)(h:β[i]?=some (some (.own d))):bw P w C σ H (β.set i (some (.val true d))) (aE own i []):=by
 obtain⟨v,h1,h2,h3⟩:=b.ow i d h;have e:σ.set i (some v)=σ:=by
  apply M0;intro j;rw[MZ]
  by_cases aB:i=j
  ·subst aB;rw[if_pos rfl,h1];have:i<σ.length:=(Lr.mp h1).1;rw[if_pos this]
  ·rw[if_neg aB]
 have q:=bw.dU (i:=i) (d:=d) (v:=v) (y:=true) (own:=aE own i []) (C:=C) (P:=P) (w:=w) (σ:=σ) (H:=H) (β:=β.set i none);have b':bw P w C σ H (β.set i none) (aE own i []):=by
  have sub:∀y a,fg C (Wn (aE own i [])) (yk y) a->fg C (Wn own) (yk y) a:=λy=>fU (λa h=>c0 h) _;refine⟨by simp[b.len],λj y' d' e=>?_,λj d' e=>?_,λj ok e=>?_,λj a h=>b.dm j a (aW h).1,λj k a h1 h2=>b.iU j k a (aW h1).1 (aW h2).1,λj=>?_,b.kp,b.fQ,λj y' d' e=>?_⟩
  ·by_cases aB:i=j
   ·subst aB;obtain⟨e',hl⟩:=aS e;cases e'
   ·rw[aQ aB]at e;obtain⟨u,h1,h2⟩:=b.val j y' d' e;exact⟨u,h1,h2.aK (sub _)⟩
  ·by_cases aB:i=j
   ·subst aB;obtain⟨e',hl⟩:=aS e;cases e'
   ·rw[aQ aB]at e;rw[a3 aB];exact b.ow j d' e
  ·by_cases aB:i=j
   ·subst aB;obtain⟨e',hl⟩:=aS e;cases e'
   ·rw[aQ aB]at e;rw[a3 aB];exact b.i_ j ok e
  ·by_cases aB:i=j
   ·rw[aB,os_eq];exact LO
   ·rw[a3 aB];exact b.lJ j
  ·by_cases aB:i=j
   ·subst aB;obtain⟨e',hl⟩:=aS e;cases e'
   ·rw[aQ aB]at e;rw[a3 aB];obtain⟨u,h1,h2,h3⟩:=b.shl j y' d' e;exact⟨u,h1,h2.map (λ_ _ _ z=>z) (λ_ _ r=>ag.aK (sub _) r),h3⟩
 have q:=bw.dU (i:=i) (d:=d) (v:=v) (y:=true) b' (h2.rep λc hc z=>by
  rcases z with (z|z)|z
  ·obtain⟨j,hj⟩:=z;obtain⟨hj,ne⟩:=aW hj;exact ne (b.iU j i c hj hc)
  ·exact z (h3 c hc)
  ·exact(b.dm i c hc).2.2.2 z)
 rw[e,List.set_set]at q;have eo:aE (aE own i []) i []=aE own i []:=by
  funext j
  by_cases aB:i=j
  ·rw[<- aB,os_eq,os_eq]
  ·rw[a3 aB,a3 aB]
 rwa [eo]at q
abbrev Cfg.u (C:Cfg)(U:Addr->Prop):Cfg:={C with U:=U}
theorem bw.wJ {U:Addr->Prop}(b:bw P w C σ H β own)(hU:∀a,U a->H a=none):bw P w (C.u U) σ H β own :=
 ⟨b.len,λi y d e=>let ⟨v,h1,h2⟩:=b.val i y d e;⟨v,h1,ar.grow (λa z=>z.elim (λz=>.inl (.inl z)) λz=>.inr (hU a z)) h2⟩,b.ow,b.i_,λi a h=>let ⟨h1,h2,h3,_⟩:=b.dm i a h;⟨h1,h2,h3,λz=>h1 (hU a z)⟩,b.iU,b.lJ,b.kp,b.fQ,λi y d e=>let ⟨v,h1,h2,h3⟩:=b.shl i y d e;⟨v,h1,h2.map (λ_ _ _ z=>z) (λ_ _ r=>ag.grow (λa z=>z.elim (λz=>.inl (.inl z)) λz=>.inr (hU a z)) r),h3⟩⟩
theorem bw.AR {i:Nat}{y:Bool}{d:D}(b:bw P w C σ H β own)(e:β[i]?=some (some (.val y d))):∃v,σ[i]?=some (some v)/\ar P w (av C (Wn own) (yk y)) H d v:=let ⟨v,h1,h2⟩:=b.val i y d e;⟨v,h1,ar.aK (λa z=>.inl z) h2⟩
end
def KV (P:K3)(w:Lf)(C:Cfg)(Z:Hp×(Addr->Prop))(own:Nat->List Addr)(H:Hp):Kd->D->V->Prop
 |.own,d,v=>∃A,Own P w H d v A/\A.Nodup/\∀c∈A,Z.1 c=none/\¬ Wn own c/\C.H0 c=none
 |.dh,d,v=>ar P w (av C (Wn own) .dh) H d v
 |.old,d,v=>ar P w (av C (Wn own) .old) H d v
 |.bor,d,v=>ar P w (av C (Wn own) .bor) H d v
structure G6 (P:K3)(w:Lf)(C:Cfg)(σ:St)(H:Hp)(own:Nat->List Addr)(p:Bool)(β':bt)(H':Hp)(aH:Nat->List Addr):Prop where
 sq:bw P w C σ H' β' aH
 sn:Sn (H,Wn own) H' (Wn aH)
 pu:p=true->ay H H'/\aH=own
 le:∀a,Wn aH a->Wn own a
abbrev Out (X:Cx):=G6 X.prog X.w
section
variable {X:Cx}{C:Cfg}{σ:St}{H H1 H2 H':Hp}{own az aX:Nat->List Addr}{p p':Bool}{β β1 β2 β':bt}{Z:Hp×(Addr->Prop)}{d:D}{v:V}{k:Kd}{P:K3}{w:Lf}
theorem Out.refl (s:SQ X C σ H β own)(p:Bool):Out X C σ H own p β H own:=⟨s,Sn.refl,λ_=>⟨ay.refl _,rfl⟩,λ_ z=>z⟩
theorem Out.trans (a:Out X C σ H own p β1 H1 az)(b:Out X C σ H1 az p' β2 H2 aX):Out X C σ H own (p&&p') β2 H2 aX:=⟨b.sq,a.sn.trans b.sn,λh=>by
 rw[LP]at h;obtain⟨s1,e1⟩:=a.pu h.1;obtain⟨s2,e2⟩:=b.pu h.2;exact⟨s1.trans s2,e2.trans e1⟩,λc z=>a.le c (b.le c z)⟩
theorem Out.same (a:Out X C σ H own p β1 H1 az)(s:ay H1 H2):Out X C σ H own p β1 H2 az:=⟨a.sq.same s,a.sn.same s,λh=>let ⟨s1,e1⟩:=a.pu h;⟨s1.trans s,e1⟩,a.le⟩
theorem Out.wk (a:Out X C σ H own p β1 H1 az)(h:p'=true->p=true):Out X C σ H own p' β1 H1 az:=⟨a.sq,a.sn,λz=>a.pu (h z),a.le⟩
theorem KV.rep (h:KV P w C Z own H k d v):ar P w (av C (Wn own) k) H d v:=by
 cases k with
 |own=>obtain⟨A,h1,h2,h3⟩:=h;exact h1.rep λc hc z=>z.elim (h3 c hc).2.1 λz=>z (h3 c hc).2.2
 |_=>exact h
theorem KV.dh (h:KV P w C Z own H .own d v):KV P w C Z own H .dh d v:=KV.rep (k:=.own) h
theorem KV.flat {W:Addr->Prop}(f:d.flat=true)(h:ar P w W H d v):KV P w C Z own H .own d v:=⟨[],c9 f h,LO,λc hc=>(nomatch hc)⟩
abbrev Kd.wk:Kd->Kd
 |.own=>.dh
 |.dh=>.dh
 |.old=>.old
 |.bor=>.bor
abbrev Kd.max:Kd->Kd->Kd
 |.bor,_=>.bor
 |_,.bor=>.bor
 |.old,_=>.old
 |_,.old=>.old
 |_,_=>.dh
theorem bH {W:Addr->Prop}{a b:Kd}:∀c,av C W (a.max b) c->av C W a c:=λc h=>by
 cases a <;> cases b <;> first|exact h|exact h.elim|exact .inl h
theorem cZ {W:Addr->Prop}{a b:Kd}:∀c,av C W (a.max b) c->av C W b c:=λc h=>by
 cases a <;> cases b <;> first|exact h|exact h.elim|exact .inl h
theorem KV.of (h:ar P w (av C (Wn own) k.wk) H d v):KV P w C Z own H k.wk d v:=by
 cases k <;> exact h
theorem KV.Bd (h:KV P w C Z own H k d v)(s:ay H H'):KV P w C Z own H' k d v:=by
 cases k with
 |own=>obtain⟨A,h1,h2⟩:=h;exact⟨A,h1.keep (λb xs e=>s _ _ e) (λc _ o e=>s c o e),h2⟩
 |dh=>exact ar.same s h
 |old=>exact ar.same s h
 |bor=>exact ar.same s h
theorem KV.held (hk:k≠.bor)(h:KV P w C Z own H k d v)(n:Sn (H,Wn own) H2 (Wn aX)):KV P w C Z aX H2 k d v:=by
 cases k with
 |own =>
  obtain⟨A,h1,h2,h3⟩:=h;refine⟨A,h1.keep n.k.tup (λc hc o e=>n.k.out c o e λz=>z.elim (h3 c hc).2.1 λz=>(h1.jf c hc).1 z),h2,λc hc=>⟨(h3 c hc).1,λz=>(n.w c z).elim (h3 c hc).2.1 λz=>(h1.jf c hc).1 z,(h3 c hc).2.2⟩⟩
 |dh =>
  have g:ar P w (λa=>av C (Wn own) .dh a\/H a=none) H d v:=ar.grow (λb z=>z) h;exact ar.aK (λb z=>z.elim (λz=>(n.w b z).imp .inl id) λz=>.inl (.inr z)) (ar.keep (n.k.mono λb z=>z.imp .inl id) g)
 |old=>exact held (W:=Wn own) h n
 |bor=>exact absurd rfl hk
theorem KV.CP (h:KV P w C Z own H k d v)(s:ay H H2)(e:aX=own):KV P w C Z aX H2 k d v:=by rw[e];exact h.Bd s
abbrev hold (k:Kd)(p:Bool):Prop:=match k,p with
 |.bor,false=>False
 |_,_=>True
theorem KV.ho (h:KV P w C Z own H k d v)(o:Out X C σ H own p β' H2 aX)(hh:hold k p):KV P w C Z aX H2 k d v:=by
 cases p with
 |true=>obtain⟨s,e⟩:=o.pu rfl;exact h.CP s e
 |false=>exact h.held (by rintro rfl;exact hh) o.sn
theorem KV.later (h:KV P w C (H1,Wn az) own H k d v)(n:Sn Z H1 (Wn az)):KV P w C Z own H k d v:=by
 cases k with
 |own=>obtain⟨A,h1,h2,h3⟩:=h;exact⟨A,h1,h2,λc hc=>⟨n.free (h3 c hc).1,(h3 c hc).2⟩⟩
 |_=>exact h
end
abbrev aM:=bt->(D->Kd->bt->Prop)->Prop
abbrev bb:=bt->(Bool->bt->Prop)->Prop
abbrev bI:=bt->(List D->List Kd->bt->Prop)->Prop
def tQ (X:Cx)(C:Cfg)(p:Bool)(φ:aM):TE:=λσ H Q=>∃β own,SQ X C σ H β own/\φ β λd k β'=>∀v H' aH,Out X C σ H own p β' H' aH->KV X.prog X.w C (H,Wn own) aH H' k d v->Q v H'
def j2 (X:Cx)(C:Cfg)(p:Bool)(φ:bb):TT:=λσ H Q=>∃β own,SQ X C σ H β own/\φ β λb β'=>∀H' aH,Out X C σ H own p β' H' aH->Q b H'
def KF (P:K3)(w:Lf)(C:Cfg)(own:Nat->List Addr)(H:Hp):List Kd->List D->List V->List Addr->Prop
 |[],ds,vs,A=>ds=[]/\vs=[]/\A=[]
 |k::ks,ds,vs,A=>∃d dr v vr A1 A2,ds=d::dr/\vs=v::vr/\A=A1++A2/\(match k with | .own=>Own P w H d v A1|k=>A1=[]/\ar P w (av C (Wn own) k) H d v)/\KF P w C own H ks dr vr A2
def mR (P:K3)(w:Lf)(C:Cfg)(Z:Hp×(Addr->Prop))(own:Nat->List Addr)(H:Hp)(ks:List Kd)(ds:List D)(vs:List V):Prop :=
 ∃A,KF P w C own H ks ds vs A/\A.Nodup/\∀c∈A,Z.1 c=none/\¬ Wn own c/\C.H0 c=none
def oE (X:Cx)(C:Cfg)(p:Bool)(φ:bI):TA:=λσ H Q=>∃β own,SQ X C σ H β own/\φ β λds ks β'=>∀vs H' aH,Out X C σ H own p β' H' aH->mR X.prog X.w C (H,Wn own) aH H' ks ds vs->Q vs H'
section
variable {C:Cfg}{H H1:Hp}{own az:Nat->List Addr}{Z:Hp×(Addr->Prop)}{d:D}{v:V}{k:Kd}{P:K3}{w:Lf}{ks:List Kd}{ds:List D}{vs:List V}
theorem mR.nil:mR P w C Z own H [] [] []:=⟨[],⟨rfl,rfl,rfl⟩,LO,λc hc=>(nomatch hc)⟩
theorem KF.jf:∀{ks:List Kd} {ds:List D} {vs:List V} {A:List Addr},KF P w C own H ks ds vs A->∀c∈A,H c≠none
 |[],_,_,_,⟨_,_,e⟩,c,hc=>by rw[e]at hc;cases hc
 |k::ks,_,_,_,⟨d,dr,v,vr,A1,A2,rfl,rfl,rfl,h1,h2⟩,c,hc=>by
  rcases Lv.mp hc with hc|hc
  ·cases k with
   |own=>exact(Own.jf h1 c hc).1
   |_=>rw[h1.1]at hc;cases hc
  ·exact KF.jf h2 c hc
theorem mR.cons (h1:KV P w C Z az H1 k d v)(n:Sn (H1,Wn az) H (Wn own))(vW:KV P w C Z own H k d v)(h2:mR P w C (H1,Wn az) own H ks ds vs)(n0:Sn Z H1 (Wn az)):mR P w C Z own H (k::ks) (d::ds) (v::vs):=by
 obtain⟨A2,f2,BK,q2⟩:=h2;have z2:∀c∈A2,Z.1 c=none/\¬ Wn own c/\C.H0 c=none:=λc hc=>⟨n0.free (q2 c hc).1,(q2 c hc).2⟩;cases k with
 |own =>
  obtain⟨A1,o1,yT,q1⟩:=h1;obtain⟨KQ,Kx,Je,Hn⟩:=(show KV P w C Z own H .own d v from KV.held (k:=.own) (λz=>(nomatch z)) (⟨A1,o1,yT,q1⟩:KV P w C Z az H1 .own d v) n)
  have Fd:Own P w H d v A1:=o1.keep n.k.tup (λc hc o e=>n.k.out c o e λz=>z.elim (q1 c hc).2.1 λz=>(o1.jf c hc).1 z);refine⟨A1++A2,⟨d,ds,v,vs,A1,A2,rfl,rfl,rfl,Fd,f2⟩,Nz.mpr ⟨yT,BK,λa ha b hb e=>?_⟩,λc hc=>?_⟩
  ·subst e;exact(o1.jf a ha).1 (q2 a hb).1
  ·rcases Lv.mp hc with hc|hc
   ·exact⟨(q1 c hc).1,λz=>(n.w c z).elim (q1 c hc).2.1 λz=>(o1.jf c hc).1 z,(q1 c hc).2.2⟩
   ·exact z2 c hc
 |dh=>exact⟨A2,⟨d,ds,v,vs,[],A2,rfl,rfl,rfl,⟨rfl,vW⟩,f2⟩,BK,z2⟩
 |old=>exact⟨A2,⟨d,ds,v,vs,[],A2,rfl,rfl,rfl,⟨rfl,vW⟩,f2⟩,BK,z2⟩
 |bor=>exact⟨A2,⟨d,ds,v,vs,[],A2,rfl,rfl,rfl,⟨rfl,vW⟩,f2⟩,BK,z2⟩
abbrev fc:List Kd->Kd
 |[]=>.dh
 |k::ks=>Kd.max k (fc ks)
theorem KF.ip:∀{ks:List Kd} {ds:List D} {vs:List V} {A:List Addr},KF P w C own H ks ds vs A->(∀c∈A,¬ Wn own c/\C.H0 c=none)->ag P w (av C (Wn own) (fc ks)) H ds vs
 |[],_,_,_,⟨e1,e2,e⟩,_=>by rw[e1,e2];rfl
 |k::ks,_,_,_,⟨d,dr,v,vr,A1,A2,rfl,rfl,rfl,h1,h2⟩,hA=>by
  refine⟨v,vr,rfl,?_,ag.aK cZ (KF.ip h2 λc hc=>hA c (Ly _ hc))⟩;cases k with
  |own=>exact ar.aK bH (Own.rep (W:=av C (Wn own) .own) (λc hc z=>z.elim (hA c (L6 _ hc)).1 λz=>z (hA c (L6 _ hc)).2) h1)
  |dh=>exact ar.aK (bH (a:=.dh)) h1.2
  |old=>exact ar.aK (bH (a:=.old)) h1.2
  |bor=>exact ar.aK (bH (a:=.bor)) h1.2
theorem mR.ip (h:mR P w C Z own H ks ds vs):ag P w (av C (Wn own) (fc ks)) H ds vs:=let ⟨A,h1,_,h3⟩:=h;h1.ip λc hc=>(h3 c hc).2
theorem mR.bor (h:mR P w C Z own H ks ds vs):ag P w (λ_=>False) H ds vs:=ag.aK (λ_ z=>z.elim) h.ip
def pI:List Kd->List D->Prop
 |k::ks,d::ds=>(match k with | .own=>True|_=>d.flat=true)/\pI ks ds
 |_,_=>True
theorem KF.yF:∀{ks:List Kd} {ds:List D} {vs:List V} {A:List Addr},KF P w C own H ks ds vs A->pI ks ds->aI P w H ds vs A
 |[],_,_,_,⟨e1,e2,e⟩,_=>by rw[e1,e2,e];exact⟨rfl,rfl⟩
 |k::ks,_,_,_,⟨d,dr,v,vr,A1,A2,rfl,rfl,rfl,h1,h2⟩,⟨f1,f2⟩=>by
  refine⟨v,vr,A1,A2,rfl,rfl,?_,KF.yF h2 f2⟩;cases k with
  |own=>exact h1
  |dh=>rw[h1.1];exact c9 f1 h1.2
  |old=>rw[h1.1];exact c9 f1 h1.2
  |bor=>rw[h1.1];exact c9 f1 h1.2
theorem fK:∀{ks:List Kd},(fc ks).wk=fc ks
 |[]=>rfl
 |k::ks=>by cases k <;> cases h:fc ks <;> simp[fc,Kd.max,h]
def s9 (ks:List Kd)(ds:List D)(K:Kd->Prop):Prop:=match ks.all (λk=>match k with | .own=>true|_=>false)with
 |true=>K .own
 |false=>(pI ks ds/\K .own)\/K (fc ks)
theorem s9.mono {ks:List Kd}{ds:List D}{K K':Kd->Prop}(k:∀x,K x->K' x)(h:s9 ks ds K):s9 ks ds K':=by
 unfold s9 at *
 split
 ·next e=>rw[e]at h;exact k _ h
 ·next e=>rw[e]at h;exact h.imp (λz=>⟨z.1,k _ z.2⟩) (k _)
theorem s9.of {ks:List Kd}{ds:List D}{K:Kd->Prop}(h:s9 ks ds K):(pI ks ds/\K .own)\/K (fc ks):=by
 unfold s9 at h
 split at h
 ·next e =>
  refine .inl ⟨?_,h⟩
  clear h
  induction ks generalizing ds with
  |nil=>cases ds <;> trivial
  |cons k ks ih =>
   cases ds with
   |nil=>trivial
   |cons d ds =>
    rw[List.all_cons,LP]at e;refine⟨?_,ih e.2⟩;have e1:=e.1;cases k <;> first|trivial|cases e1
 ·exact h
end
structure PQ (X:Cx)(C:Cfg)(p:Bool)(e:Expr)(φ:aM):Prop where
 mono:∀β R R',(∀d k β,R d k β->R' d k β)->φ β R->φ β R'
 pe:PE X e (tQ X C p φ)
structure pH (X:Cx)(C:Cfg)(p:Bool)(e:Expr)(φ:bb):Prop where
 mono:∀β R R',(∀d β,R d β->R' d β)->φ β R->φ β R'
 pt:PT X e (j2 X C p φ)
structure qQ (X:Cx)(C:Cfg)(p:Bool)(e:Expr)(φ:bb):Prop where
 mono:∀β R R',(∀d β,R d β->R' d β)->φ β R->φ β R'
 pw:PW X e (j2 X C p φ)
structure mY (X:Cx)(C:Cfg)(p:Bool)(es:List Expr)(φ:bI):Prop where
 mono:∀β R R',(∀d k β,R d k β->R' d k β)->φ β R->φ β R'
 pa:PA X es (oE X C p φ)
section
variable {X:Cx}{C:Cfg}{a b c e:Expr}{es:List Expr}{φ φa φb:aM}{τ τa τb:bb}{φs:bI}{pos:Pos}{σ:St}{H H':Hp}{β:bt}{own:Nat->List Addr}{p p':Bool}
theorem tQ.of (h:PQ X C p e φ)(s:SQ X C σ H β own){R:D->Kd->bt->Prop}{Q:VK}(hr:φ β R)(k:∀d kd β' v H' aH,R d kd β'->Out X C σ H own p β' H' aH->KV X.prog X.w C (H,Wn own) aH H' kd d v->Q v H'):tQ X C p φ σ H Q :=
 ⟨β,own,s,h.mono β _ _ (λd kd β' hd v H' aH o r=>k d kd β' v H' aH hd o r) hr⟩
theorem j2.of (h:pH X C p e τ)(s:SQ X C σ H β own){R:Bool->bt->Prop}{Q:Bool->Hp->Prop}(hr:τ β R)(k:∀t β' H' aH,R t β'->Out X C σ H own p β' H' aH->Q t H'):j2 X C p τ σ H Q :=
 ⟨β,own,s,h.mono β _ _ (λt β' hd H' aH o=>k t β' H' aH hd o) hr⟩
theorem oE.of (h:mY X C p es φs)(s:SQ X C σ H β own){R:List D->List Kd->bt->Prop}{Q:List V->Hp->Prop}(hr:φs β R)(k:∀ds ks β' vs H' aH,R ds ks β'->Out X C σ H own p β' H' aH->mR X.prog X.w C (H,Wn own) aH H' ks ds vs->Q vs H'):oE X C p φs σ H Q :=
 ⟨β,own,s,h.mono β _ _ (λd kd β' hd v H' aH o r=>k d kd β' v H' aH hd o r) hr⟩
theorem qQ.t (h:qQ X C p e τ):pH X C p e τ:=⟨h.mono,h.pw.pt⟩
abbrev vk (y:Bool):D->Kd
 |.int _=>.own
 |.bl _=>.own
 |.bx=>.own
 |.str _=>.own
 |_=>yk y
def qB:B->(D->Kd->Prop)->Prop
 |.val y d,K=>K d (vk y d)
 |.own d,K=>K d .bor
 |.hand _,_=>False
 |.shl _ _,_=>False
def rR (i:Nat):aM:=λβ R=>∃b,β[i]?=some (some b)/\qB b λd k=>R d k β
theorem zb {P:K3}{w:Lf}{Z:Hp×(Addr->Prop)}{y:Bool}{d:D}{v:V}(h:ar P w (av C (Wn own) (yk y)) H d v):KV P w C Z own H (vk y d) d v:=by
 cases d with
 |int i=>exact KV.flat rfl h
 |bl i=>exact KV.flat rfl h
 |bx=>exact KV.flat rfl h
 |str i=>exact KV.flat rfl h
 |_=>cases y <;> exact h
theorem ae {i:Nat}{x:Str}(hN:X.N[i]?=some x:=by rfl)(hv:uG X.env.scope x:=by first|exact .inl rfl|exact .inr (.inl rfl)|exact .inr (.inr rfl))(hd:(x==("__debug__" : Str))=false:=by decide)(g8:(x==("__classdict__" : Str))=false:=by decide):
  PQ X C true (.Name x pos) (rR i):=⟨λβ R R' k tu=>by obtain⟨b,e,h⟩:=tu;exact⟨b,e,by cases b <;> first|exact k _ _ _ h|exact h⟩,(eZ hN hv hd g8).pre λσ H Q tq=>by
 obtain⟨β,own,s,b,e,q⟩:=tq;cases b with
 |val y d=>obtain⟨v,h1,h2⟩:=s.AR e;exact⟨v,h1,q v H own (Out.refl s _) (zb h2)⟩
 |own d=>obtain⟨v,h1,h2,h3⟩:=s.ow i d e;exact⟨v,h1,q v H own (Out.refl s _) (h2.rep λ_ _ z=>z)⟩
 |hand ok=>exact q.elim
 |shl _ _=>exact q.elim⟩
def E5 (i:Nat):aM:=λβ R=>∃d,β[i]?=some (some (.own d))/\R d .dh (β.set i (some (.val true d)))
theorem yw {i:Nat}{x:Str}(hN:X.N[i]?=some x:=by rfl)(hv:uG X.env.scope x:=by first|exact .inl rfl|exact .inr (.inl rfl)|exact .inr (.inr rfl))(hd:(x==("__debug__" : Str))=false:=by decide)(g8:(x==("__classdict__" : Str))=false:=by decide):
  PQ X C false (.Name x pos) (E5 i):=⟨λβ R R' k zA=>by obtain⟨b,e,h⟩:=zA;exact⟨b,e,k _ _ _ h⟩,(eZ hN hv hd g8).pre λσ H Q vP=>by
 obtain⟨β,own,s,d,e,q⟩:=vP;have f:=s.freeze e;obtain⟨v,h1,h2⟩:=f.AR (y:=true) (get_set (by rw[s.len];obtain⟨v,h1,_⟩:=s.ow i d e;exact(Lr.mp h1).1))
 exact⟨v,h1,q v H _ ⟨f,⟨λb z=>.inl (c0 z),Kp.refl,λ_ z=>z⟩,λz=>(nomatch z),λ_ z=>c0 z⟩ h2⟩⟩
def qC (d:D):aM:=λβ R=>R d .own β
theorem ah {i j}:PQ X C true (.Constant (.int i) j pos) (qC (.int i)):=⟨λρ R R' k h=>k _ _ _ h,aT.pre λσ H Q zw=>by obtain⟨β,own,s,q⟩:=zw;exact q _ H own (Out.refl s _) (KV.flat (W:=λ_=>False) rfl rfl)⟩
theorem jq {b j}:PQ X C true (.Constant (.bool b) j pos) (qC (.bl b)):=⟨λρ R R' k h=>k _ _ _ h,wO.pre λσ H Q FI=>by obtain⟨β,own,s,q⟩:=FI;exact q _ H own (Out.refl s _) (KV.flat (W:=λ_=>False) rfl rfl)⟩
theorem nB {j}:PQ X C true (.Constant .none j pos) (qC .bx):=⟨λρ R R' k h=>k _ _ _ h,yC.pre λσ H Q zv=>by obtain⟨β,own,s,q⟩:=zv;exact q _ H own (Out.refl s _) (KV.flat (W:=λ_=>False) rfl rfl)⟩
theorem b4 {x j}:PQ X C true (.Constant (.str x) j pos) (qC (.str x)):=⟨λρ R R' k h=>k _ _ _ h,yA.pre λσ H Q vO=>by obtain⟨β,own,s,q⟩:=vO;exact q _ H own (Out.refl s _) (KV.flat (W:=λ_=>False) rfl rfl)⟩
def rQ (X:Cx)(f:D->D->Option D)(N:D->Prop):R2:=λx y H Q=>∃W d1 d2 d,Dm W H/\Rp X W H d1 x/\Rp X W H d2 y/\f d1 d2=some d/\∀v H',ay H H'->Rp X W H' d v->(N d->Rp X (λa=>H a≠none) H' d v)->Q v H'
abbrev Ee (X:Cx)(f:KR->KR->Sem KR)(g:D->D->Option D)(N:D->Prop):Prop:=fV X f (rQ X g N)
theorem cS.m {f:KR->KR->Sem KR}{g:D->D->Option D}(h:cS X f g):Ee X f g NF:=λpins s σ H x y v u Q I rx ry ⟨W,d1,d2,d,hd,r1,r2,e,q⟩ =>
 h pins s σ H x y v u Q I rx ry ⟨W,d1,d2,d,hd,r1,r2,e,λv H' s r=>q v H' s r λf=>ar.flat f r⟩
def kN (N:D->Prop)(d:D)(k:Kd)(K:Kd->Prop):Prop:=match d with
 |.int _=>K .own
 |.bl _=>K .own
 |.bx=>K .own
 |.str _=>K .own
 |.tup _=>K k
 |_=>(N d/\K .own)\/K k
theorem kN.mono {N:D->Prop}{d:D}{k:Kd}{K K':Kd->Prop}(h:∀x,K x->K' x)(q:kN N d k K):kN N d k K':=by
 cases d <;> first|exact h _ q|exact q.imp (λz=>⟨z.1,h _ z.2⟩) (h _)
theorem fD {P:K3}{w:Lf}{Z:Hp×(Addr->Prop)}{d:D}{v:V}(hd:Dm (Wn own) H)(h0:∀a,C.H0 a≠none->H a≠none)(hz:∀a,Z.1 a≠none->H a≠none)(f:NL d)(r:ar P w (λa=>H a≠none) H' d v):KV P w C Z own H' .own d v:=by
 have nn:∀{a:Addr},¬ (H a≠none)->H a=none:=λ{a} h=>LN λz=>h z;have cl:∀{a:Addr},H a=none->Z.1 a=none/\¬ Wn own a/\C.H0 a=none:=λ{a} h=>⟨LN λz=>hz a z h,λz=>hd a z h,LN λz=>h0 a z h⟩;cases d with
 |lst ds =>
  obtain⟨a,vs,rfl,e,n,q⟩:=r;exact⟨[a],⟨a,vs,[],rfl,e,rfl,eH f q⟩,by simp,λc hc=>by rw[K_.mp hc];exact cl (nn n)⟩
 |_=>exact KV.flat f r
theorem KV.kN {N:D->Prop}{P:K3}{w:Lf}{Z:Hp×(Addr->Prop)}{d:D}{v:V}{k:Kd}{K:Kd->Prop}(hk:k.wk=k)(r:ar P w (av C (Wn own) k) H' d v)(ro:N d->KV P w C Z own H' .own d v)(q:kN N d k K):∃k',K k'/\KV P w C Z own H' k' d v:=by
 have rk:KV P w C Z own H' k d v:=by rw[<- hk];exact KV.of (by rw[hk];exact r)
 cases d with
 |int i=>exact⟨_,q,KV.flat rfl r⟩
 |bl i=>exact⟨_,q,KV.flat rfl r⟩
 |bx=>exact⟨_,q,KV.flat rfl r⟩
 |str i=>exact⟨_,q,KV.flat rfl r⟩
 |tup ds=>exact⟨_,q,rk⟩
 |_=>exact q.elim (λz=>⟨_,z.2,ro z.1⟩) λz=>⟨_,z,rk⟩
structure uH (N:D->Prop):Prop where
 nl:∀d,N d->NL d
theorem aL:uH NL:=⟨λ_ h=>h⟩
theorem ax:uH NF:=⟨λd h=>by cases d <;> first|exact h|cases h⟩
theorem sS {a b:Kd}:(a.max b).wk=a.max b:=by cases a <;> cases b <;> rfl
def qW (g:D->D->Option D)(N:D->Prop)(pb:Bool)(φa φb:aM):aM:=λβ R=>φa β λx ka β1=>hold ka pb/\φb β1 λy kb β2=>∃d,g x y=some d/\kN N d (ka.max kb) λk=>R d k β2
variable {g:D->D->Option D}{N:D->Prop}
theorem qW.mono (ha:PQ X C p a φa)(hb:PQ X C p' b φb):∀β R R',(∀d k β,R d k β->R' d k β)->qW g N p' φa φb β R->qW g N p' φa φb β R':=λβ R R' k h =>
 ha.mono β _ _ (λx ka β1 hx=>⟨hx.1,hb.mono β1 _ _ (λy kb β2 zJ=>by obtain⟨d,e,q⟩:=zJ;exact⟨d,e,q.mono λ_ z=>k _ _ _ z⟩) hx.2⟩) h
theorem nu (hn:uH N)(ha:PQ X C p a φa)(hb:PQ X C p' b φb):∀σ H Q,tQ X C (p&&p') (qW g N p' φa φb) σ H Q->A4 (rQ X g N) (tQ X C p φa) (tQ X C p' φb) σ H Q:=λσ H Q ⟨β,own,s,h⟩ =>
 tQ.of ha s h λd1 k1 β1 v1 H1 az ⟨hh,h1⟩ o1 r1=>tQ.of hb o1.sq h1 λd2 k2 β2 v2 H2 aX tD o2 r2=>by
  obtain⟨d,e,q⟩:=tD;have u6:=r1.ho o2 hh;refine⟨av C (Wn aX) (k1.max k2),d1,d2,d,o2.sq.uF _,ar.aK bH u6.rep,ar.aK cZ r2.rep,e,λv H' s3 r3 n3=>?_⟩;have o:=(o1.trans o2).same s3;obtain⟨k,q,r⟩:=KV.kN (Z:=(H,Wn own)) sS r3 (λn=>fD (H:=H2) o2.sq.qz o2.sq.fQ (λa z=>o2.sn.d a (o1.sn.d a z)) (hn.nl _ n) (n3 n)) q;exact q v H' aX o r
theorem aZ {op:Operator}(hn:uH N)(ho:Ee X (MF op) g N)(ha:PQ X C p a φa)(hb:PQ X C p' b φb):PQ X C (p&&p') (.BinOp a op b pos) (qW g N p' φa φb):=⟨qW.mono ha hb,(bW ho ha.pe hb.pe).pre (nu hn ha hb)⟩
theorem yx {op:Ng}(hn:uH N)(ho:Ee X (LW op) g N)(ha:PQ X C p a φa)(hb:PQ X C p' b φb)(hm:Mx op b=false:=by first|exact lK _ (by decide) (by decide)|rfl):PQ X C (p&&p') (.Compare a [op] [b] pos) (qW g N p' φa φb) :=
 ⟨qW.mono ha hb,(oR ho ha.pe hb.pe hm).pre (nu hn ha hb)⟩
theorem fz (hn:uH N)(ho:AL X (rQ X g N))(ha:PQ X C p a φa)(hb:PQ X C p' b φb)(hs:pG b:=by exact λ_ _=>rfl):PQ X C (p&&p') (.Subscript a b pos) (qW g N p' φa φb):=⟨qW.mono ha hb,(jt ho ha.pe hb.pe hs).pre (nu hn ha hb)⟩
def rS (φ:aM):bb:=λβ R=>φ β λd k β'=>∃b,d=.bl b/\R b β'
theorem aN {op:Ng}(hn:uH N)(ho:Ee X (LW op) g N)(ha:PQ X C p a φa)(hb:PQ X C p' b φb)(hm:Mx op b=false:=by first|exact lK _ (by decide) (by decide)|rfl):pH X C (p&&p') (.Compare a [op] [b] pos) (rS (qW g N p' φa φb)) :=
 ⟨λβ R R' k h=>qW.mono ha hb β _ _ (λd kd β tx=>by obtain⟨t,e,q⟩:=tx;exact⟨t,e,k _ _ q⟩) h,(oH ho ha.pe hb.pe hm).pre λσ H Q ⟨β,own,s,h⟩ =>
  tQ.of ha s h λd1 k1 β1 v1 H1 az ⟨hh,h1⟩ o1 r1=>tQ.of hb o1.sq h1 λd2 k2 β2 v2 H2 aX zG o2 r2=>by
   obtain⟨d,e,q⟩:=zG;have u6:=r1.ho o2 hh;refine⟨av C (Wn aX) (k1.max k2),d1,d2,d,o2.sq.uF _,ar.aK bH u6.rep,ar.aK cZ r2.rep,e,λv H' s3 r3 n3=>?_⟩;obtain⟨k,⟨t,et,q'⟩,r⟩:=KV.kN (Z:=(H,Wn own)) sS r3 (λn=>fD (H:=H2) o2.sq.qz o2.sq.fQ (λa z=>o2.sn.d a (o1.sn.d a z)) (hn.nl _ n) (n3 n)) q;subst et;cases r3;exact⟨t,rfl,q' H' aX ((o1.trans o2).same s3)⟩⟩
theorem oJ (ha:PQ X C p a φa)(he:∀whole,isTrue a X.env whole=(do let v <- whole;OQ a.pos;holding [v] (truthy v)):=by intro _;rfl):pH X C p a (rS φa) :=
 ⟨λβ R R' k h=>ha.mono β _ _ (λd kd β' zF=>by obtain⟨b,e,q⟩:=zF;exact⟨b,e,k _ _ q⟩) h,(yq ha.pe he).pre λσ H Q ⟨β,own,s,h⟩=>tQ.of ha s h λd k β' v H1 az zD o1 r1=>by
  obtain⟨b,e,q⟩:=zD;subst e;cases r1.rep;exact⟨b,rfl,q H1 az o1⟩⟩
def Bj (τ:bb):bb:=λβ R=>τ β λb β'=>R (!b) β'
theorem kc (ha:pH X C p a τ):pH X C p (.UnaryOp .Not a pos) (Bj τ) :=
 ⟨λβ R R' k h=>ha.mono β _ _ (λb β' q=>k _ _ q) h,(yr ha.pt).pre λσ H Q zC=>by obtain⟨β,own,s,h⟩:=zC;exact j2.of ha s h λb β' H1 az q o=>q H1 az o⟩
variable {rest:List Expr}
def Bo (τa τb:bb):bb:=λβ R=>τa β λt β1=>if t=true then τb β1 R else R false β1
def E1 (τa τb:bb):bb:=λβ R=>τa β λt β1=>if t=true then R true β1 else τb β1 R
theorem rX (ha:pH X C p a τ):qQ X C p (.BoolOp .And [a] pos) τ:=⟨ha.mono,pw_and1 ha.pt⟩
theorem gY (ha:pH X C p a τ):qQ X C p (.BoolOp .Or [a] pos) τ:=⟨ha.mono,pw_or1 ha.pt⟩
theorem uk {p q:Bool}(z:(p&&q)=true):p=true:=by cases p <;> first|rfl|cases z
theorem Dg {p q:Bool}(z:(p&&q)=true):q=true:=by cases p <;> first|exact z|cases z
theorem u_ (ha:pH X C p a τa)(hb:qQ X C p' (.BoolOp .And (b::rest) pos) τb):qQ X C (p&&p') (.BoolOp .And (a::b::rest) pos) (Bo τa τb) :=
 ⟨λβ R R' k h=>ha.mono β _ _ (λt β1 q=>by
   cases t
   ·exact k _ _ q
   ·exact hb.mono β1 _ _ k q) h,(pw_and ha.pt hb.pw).pre λσ H Q ⟨β,own,s,h⟩=>j2.of ha s h λt β1 H1 az q o1=>by
  cases t
  ·exact q H1 az (o1.wk uk)
  ·exact j2.of hb.t o1.sq q λt' β2 H2 aX q2 o2=>q2 H2 aX (o1.trans o2)⟩
theorem ir (ha:pH X C p a τa)(hb:qQ X C p' (.BoolOp .Or (b::rest) pos) τb):qQ X C (p&&p') (.BoolOp .Or (a::b::rest) pos) (E1 τa τb) :=
 ⟨λβ R R' k h=>ha.mono β _ _ (λt β1 q=>by
   cases t
   ·exact hb.mono β1 _ _ k q
   ·exact k _ _ q) h,(pw_or ha.pt hb.pw).pre λσ H Q ⟨β,own,s,h⟩=>j2.of ha s h λt β1 H1 az q o1=>by
  cases t
  ·exact j2.of hb.t o1.sq q λt' β2 H2 aX q2 o2=>q2 H2 aX (o1.trans o2)
  ·exact q H1 az (o1.wk uk)⟩
def I9 (φa φb:aM):aM:=λβ R=>φa β λx _ β1=>∃c,x=.bl c/\if c=true then R (.bl true) .own β1 else φb β1 R
theorem yu {op}(h:PQ X C p a φ):PQ X C p (.BoolOp op [a] pos) φ:=⟨h.mono,yB h.pe⟩
theorem o3 {P:K3}{w:Lf}{Z:Hp×(Addr->Prop)}{b:Bool}:KV P w C Z own H .own (.bl b) (.bl b):=KV.flat (W:=λ_=>False) rfl rfl
theorem Bt (ha:PQ X C p a φa)(hb:PQ X C p' (.BoolOp .Or (b::rest) pos) φb):PQ X C (p&&p') (.BoolOp .Or (a::b::rest) pos) (I9 φa φb) :=
 ⟨λβ R R' k h=>ha.mono β _ _ (λd kd β1 ⟨c,e,q⟩=>⟨c,e,by
   cases c
   ·exact hb.mono β1 _ _ k q
   ·exact k _ _ _ q⟩) h,(Bx ha.pe hb.pe).pre λσ H Q ⟨β,own,s,h⟩=>tQ.of ha s h λd kd β1 v H1 az zB o1 r1=>by
  obtain⟨c,e,q⟩:=zB;subst e;cases r1.rep;refine⟨c,rfl,?_⟩;cases c
  ·exact tQ.of hb o1.sq q λd2 k2 β2 v2 H2 aX q2 o2 r2=>q2 v2 H2 aX (o1.trans o2) (r2.later o1.sn)
  ·exact q _ H1 az (o1.wk uk) o3⟩
def IY (g:D->Option D)(φa:aM):aM:=λβ R=>φa β λx _ β1=>∃d,g x=some d/\d.flat=true/\R d .own β1
theorem gI {op:UnaryOp}{g:D->Option D}(ho:Dh X (unaryOp op) (Hm X g))(ha:PQ X C p a φa):PQ X C p (.UnaryOp op a pos) (IY g φa) :=
 ⟨λβ R R' k h=>ha.mono β _ _ (λx _ β1 FQ=>by obtain⟨d,e,f,q⟩:=FQ;exact⟨d,e,f,k _ _ _ q⟩) h,(Bw ho ha.pe).pre λσ H Q ⟨β,own,s,h⟩ =>
  tQ.of ha s h λd1 k1 β1 v1 H1 az FP o1 r1=>by obtain⟨d,e,f,q⟩:=FP;exact⟨_,d1,d,o1.sq.uF _,r1.rep,e,λv H' s2 r2=>q v H' az (o1.same s2) (KV.flat f r2)⟩⟩
def E2:bI:=λβ R=>R [] [] β
def Bm (pr:Bool)(φ:aM)(φs:bI):bI:=λβ R=>φ β λd k β1=>hold k pr/\φs β1 λds ks β2=>R (d::ds) (k::ks) β2
theorem af:mY X C true [] E2:=⟨λβ R R' k h=>k _ _ _ h,cG.pre λσ H Q FO=>by obtain⟨β,own,s,q⟩:=FO;exact q [] H own (Out.refl s _) mR.nil⟩
theorem aa (ha:PQ X C p a φ)(hr:mY X C p' es φs)(hs:K5 (a::es) X.env=(false,eval a X.env)::K5 es X.env:=by rfl):mY X C (p&&p') (a::es) (Bm p' φ φs) :=
 ⟨λβ R R' k h=>ha.mono β _ _ (λd kd β1 q=>⟨q.1,hr.mono β1 _ _ (λds ks β2 q2=>k _ _ _ q2) q.2⟩) h,(a7 ha.pe hr.pa hs).pre λσ H Q ⟨β,own,s,h⟩ =>
  tQ.of ha s h λd1 k1 β1 v1 H1 az FN o1 r1=>by obtain⟨hh,h1⟩:=FN;exact oE.of hr o1.sq h1 λds ks β2 vs H2 aX q o2 r2=>q (v1::vs) H2 aX (o1.trans o2) (mR.cons r1 o2.sn (r1.ho o2 hh) r2 o1.sn)⟩
def EY (φs:bI):aM:=λβ R=>φs β λds ks β1=>ds.length<=Lk/\s9 ks ds λk=>R (.tup ds) k β1
def E4 (φs:bI):aM:=λβ R=>φs β λds ks β1=>ds.length<=Lk/\s9 ks ds λk=>R (.lst ds) k β1
theorem aI.same {P:K3}{w:Lf}{ds:List D}{vs:List V}{A:List Addr}(s:ay H H')(h:aI P w H ds vs A):aI P w H' ds vs A:=h.keep (λb xs e=>s _ _ e) λc _ o e=>s c o e
theorem zc {P:K3}{w:Lf}{Z:Hp×(Addr->Prop)}{ks:List Kd}{ds:List D}{vs:List V}{K:Kd->Prop}{q:Addr}(hq:H q=none)(h:mR P w C Z own H ks ds vs)(m:s9 ks ds K):∃k,K k/\KV P w C Z own (upd H q (.tup vs)) k (.tup ds) (.ref q):=by
 rcases m.of with⟨f,k⟩|k
 ·obtain⟨A,h1,h2,h3⟩:=h;exact⟨_,k,A,⟨q,vs,rfl,ao,(h1.yF f).same (ay.new hq)⟩,h2,h3⟩
 ·refine⟨_,k,?_⟩;rw[<- fK];exact KV.of (by rw[fK];exact⟨q,vs,rfl,ao,h.ip.same (ay.new hq)⟩)
theorem zd {P:K3}{w:Lf}{Z:Hp×(Addr->Prop)}{ks:List Kd}{ds:List D}{vs:List V}{K:Kd->Prop}{q:Addr}(hq:H q=none)(hd:Dm (Wn own) H)(h0:∀a,C.H0 a≠none->H a≠none)(hz:∀a,Z.1 a≠none->H a≠none)(h:mR P w C Z own H ks ds vs)(m:s9 ks ds K):∃k,K k/\KV P w C Z own (upd H q (.lst vs)) k (.lst ds) (.ref q):=by
 rcases m.of with⟨f,k⟩|k
 ·obtain⟨A,h1,h2,h3⟩:=h;refine⟨_,k,q::A,⟨q,vs,A,rfl,ao,rfl,(h1.yF f).same (ay.new hq)⟩,LD.mpr ⟨λz=>h1.jf q z hq,h2⟩,λc hc=>?_⟩;rcases K6.mp hc with rfl|hc
  ·exact⟨LN λz=>hz c z hq,λz=>hd c z hq,LN λz=>h0 c z hq⟩
  ·exact h3 c hc
 ·refine⟨_,k,?_⟩;have nq:¬ av C (Wn own) (fc ks) q:=λz=>by
   cases e:fc ks <;> rw[e]at z <;> first|exact z.elim (λz=>hd q z hq) λz=>h0 q z hq|exact hd q z hq|exact z
  rw[<- fK];exact KV.of (by rw[fK];exact⟨q,vs,rfl,ao,nq,h.ip.same (ay.new hq)⟩)
theorem mR.length {P:K3}{w:Lf}{Z:Hp×(Addr->Prop)}{ks:List Kd}{ds:List D}{vs:List V}(h:mR P w C Z own H ks ds vs):vs.length=ds.length:=h.ip.length
theorem a4 {x1}(h:mY X C p es φs):PQ X C p (.Tuple es x1 pos) (EY φs) :=
 ⟨λβ R R' k q=>h.mono β _ _ (λds ks β1 FL=>by obtain⟨l,q⟩:=FL;exact⟨l,q.mono λ_ z=>k _ _ _ z⟩) q,(sj h.pa).pre λσ H Q ⟨β,own,s,q⟩=>oE.of h s q λds ks β1 vs H1 az ⟨l,q1⟩ o1 r1 =>
  ⟨by rw[r1.length];exact l,λq hq=>let ⟨k,q1,r⟩:=zc hq r1 q1;q1 _ _ az (o1.same (ay.new hq)) r⟩⟩
theorem a8 (h:mY X C p es φs):PQ X C p (.List es pos) (E4 φs) :=
 ⟨λβ R R' k q=>h.mono β _ _ (λds ks β1 FK=>by obtain⟨l,q⟩:=FK;exact⟨l,q.mono λ_ z=>k _ _ _ z⟩) q,(nD h.pa).pre λσ H Q ⟨β,own,s,q⟩=>oE.of h s q λds ks β1 vs H1 az ⟨l,q1⟩ o1 r1 =>
  ⟨by rw[r1.length];exact l,λq hq=>let ⟨k,q1,r⟩:=zd hq o1.sq.qz o1.sq.fQ (λa z=>o1.sn.d a z) r1 q1;q1 _ _ az (o1.same (ay.new hq)) r⟩⟩
end
section
variable {X:Cx}{C:Cfg}{a b c e:Expr}{es:List Expr}{φ φa φb:aM}{φs:bI}{pos:Pos}{σ:St}{H H':Hp}{β:bt}{own:Nat->List Addr}{p:Bool}{g:D->D->Option D}{N:D->Prop}
abbrev jT:=D->Kd->aM
structure Dl (X:Cx)(C:Cfg)(ops:List Ng)(es:List Expr)(φ:jT):Prop where
 mono:∀x k β R R',(∀d k β,R d k β->R' d k β)->φ x k β R->φ x k β R'
 ch:xO X ops es λx σ H Q=>∃β own d k,SQ X C σ H β own/\Rp X (av C (Wn own) k) H d x/\φ d k β λd' k' β'=>∀v H',ay H H'->SQ X C σ H' β' own->KV X.prog X.w C (H,Wn own) own H' k' d' v->Q v H'
 Ih:mQ X ops es λx σ H Q=>∃β own d k,SQ X C σ H β own/\Rp X (av C (Wn own) k) H d x/\φ d k β λd' k' β'=>∃b,d'=.bl b/\∀H',ay H H'->SQ X C σ H' β' own->Q b H'
def Bn (g:D->D->Option D)(φb:aM):jT:=λx _ β R=>φb β λy _ β1=>∃b,g x y=some (.bl b)/\R (.bl b) .own β1
def yp (g:D->D->Option D)(φb:aM)(φr:jT):jT:=λx _ β R=>φb β λy ky β1=>∃k,g x y=some (.bl k)/\if k=true then φr y ky β1 R else R (.bl false) .own β1
variable {op yJ:Ng}{ops:List Ng}{rs:List Expr}{φr:jT}
theorem gZ (ho:cS X (LW op) g)(hb:PQ X C true b φb):Dl X C [op] [b] (Bn g φb) :=
 ⟨λx k β R R' h q=>hb.mono β _ _ (λy _ β1 qr=>by obtain⟨d,e,q⟩:=qr;exact⟨d,e,h _ _ _ q⟩) q,
  (Ag ho hb.pe).pre λx σ H Q ⟨β,own,d,k,s,r,h⟩=>tQ.of hb s h λd2 k2 β2 v2 H2 aX tq o2 r2=>by
    obtain⟨d',e,q⟩:=tq;obtain⟨s2,rfl⟩:=o2.pu rfl;exact⟨av C (Wn aX) (k.max k2),d,d2,.bl d',o2.sq.uF _,ar.aK bH (r.same s2),ar.aK cZ r2.rep,e,λv H' s3 r3=>q v H' (s2.trans s3) (o2.sq.same s3) (KV.flat rfl r3)⟩,
  (wq ho hb.pe).pre λx σ H Q ⟨β,own,d,k,s,r,h⟩=>tQ.of hb s h λd2 k2 β2 v2 H2 aX vP o2 r2=>by
    obtain⟨d',e,b,eb,q⟩:=vP;obtain⟨s2,rfl⟩:=o2.pu rfl;cases eb;exact⟨av C (Wn aX) (k.max k2),d,d2,.bl d',o2.sq.uF _,ar.aK bH (r.same s2),ar.aK cZ r2.rep,e,λv H' s3 r3=>by
      cases r3;exact⟨_,rfl,q H' (s2.trans s3) (o2.sq.same s3)⟩⟩⟩
theorem cE (ho:cS X (LW op) g)(hb:PQ X C true b φb)(hc:Dl X C (yJ::ops) (c::rs) φr):Dl X C (op::yJ::ops) (b::c::rs) (yp g φb φr) :=
 ⟨λx k β R R' h q=>hb.mono β _ _ (λy ky β1 ⟨d,e,q⟩=>⟨d,e,by
   cases d
   ·exact h _ _ _ q
   ·exact hc.mono y ky β1 _ _ h q⟩) q,
  (wt ho hb.pe hc.ch).pre λx σ H Q ⟨β,own,d,k,s,r,h⟩=>tQ.of hb s h λd2 k2 β2 v2 H2 aX zv o2 r2=>by
    obtain⟨t,e,q⟩:=zv;obtain⟨s2,rfl⟩:=o2.pu rfl;refine⟨av C (Wn aX) (k.max k2),d,d2,.bl t,o2.sq.uF _,ar.aK bH (r.same s2),ar.aK cZ r2.rep,e,λv H' s3 r3=>?_⟩;cases r3;refine⟨t,rfl,?_⟩;cases t
    · exact q _ H' (s2.trans s3) (o2.sq.same s3) o3
    · exact⟨β2,aX,d2,k2,o2.sq.same s3,r2.rep.same s3,hc.mono d2 k2 β2 _ _ (λd' k' β' q' v Ap s4 sq r4=>q' v Ap ((s2.trans s3).trans s4) sq (r4.later ((o2.same s3).sn))) q⟩,
  (t7 ho hb.pe hc.Ih).pre λx σ H Q ⟨β,own,d,k,s,r,h⟩=>tQ.of hb s h λd2 k2 β2 v2 H2 aX zK o2 r2=>by
    obtain⟨t,e,q⟩:=zK;obtain⟨s2,rfl⟩:=o2.pu rfl;refine⟨av C (Wn aX) (k.max k2),d,d2,.bl t,o2.sq.uF _,ar.aK bH (r.same s2),ar.aK cZ r2.rep,e,λv H' s3 r3=>?_⟩;cases r3;refine⟨t,rfl,?_⟩;cases t
    · obtain⟨b,eb,q⟩:=q;cases eb;exact q H' (s2.trans s3) (o2.sq.same s3)
    · exact⟨β2,aX,d2,k2,o2.sq.same s3,r2.rep.same s3,hc.mono d2 k2 β2 _ _ (λd' k' β' zJ=>by obtain⟨b,eb,q'⟩:=zJ;exact⟨b,eb,λAp s4 sq=>q' Ap ((s2.trans s3).trans s4) sq⟩) q⟩⟩
def nv (φa:aM)(φr:jT):aM:=λβ R=>φa β λx k β1=>φr x k β1 R
theorem lD {cI cH:Ng}(ha:PQ X C true a φa)(hc:Dl X C (cI::cH::ops) (b::c::rs) φr)(hm:lastMarks (cI::cH::ops) (b::c::rs)=false:=by with_unfolding_all rfl):
  PQ X C true (.Compare a (cI::cH::ops) (b::c::rs) pos) (nv φa φr) :=
 ⟨λβ R R' k h=>ha.mono β _ _ (λx kx β1 q=>hc.mono x kx β1 _ _ k q) h,(p9 ha.pe hc.ch hm).pre λσ H Q ⟨β,own,s,h⟩=>tQ.of ha s h λd k β1 v H1 az q o1 r1=>by
  obtain⟨s1,rfl⟩:=o1.pu rfl;exact⟨β1,az,d,k,o1.sq,r1.rep,hc.mono d k β1 _ _ (λd' k' β' q' v Ap s4 sq r4=>q' v Ap az ⟨sq,o1.sn.same s4,λ_=>⟨s1.trans s4,rfl⟩,o1.le⟩ (r4.later o1.sn)) q⟩⟩
theorem jo {cI cH:Ng}(ha:PQ X C true a φa)(hc:Dl X C (cI::cH::ops) (b::c::rs) φr)(hm:lastMarks (cI::cH::ops) (b::c::rs)=false:=by with_unfolding_all rfl):
  pH X C true (.Compare a (cI::cH::ops) (b::c::rs) pos) (rS (nv φa φr)) :=
 ⟨λβ R R' k h=>ha.mono β _ _ (λx kx β1 q=>hc.mono x kx β1 _ _ (λd kd β' zH=>by obtain⟨b,e,q⟩:=zH;exact⟨b,e,k _ _ q⟩) q) h,(pZ ha.pe hc.Ih hm).pre λσ H Q ⟨β,own,s,h⟩=>tQ.of ha s h λd k β1 v H1 az q o1 r1=>by
  obtain⟨s1,rfl⟩:=o1.pu rfl;exact⟨β1,az,d,k,o1.sq,r1.rep,hc.mono d k β1 _ _ (λd' k' β' tx=>by obtain⟨b,e,q'⟩:=tx;exact⟨b,e,λAp s4 sq=>q' Ap az ⟨sq,o1.sn.same s4,λ_=>⟨s1.trans s4,rfl⟩,o1.le⟩⟩) q⟩⟩
abbrev uq:=bt->(Option Int->bt->Prop)->Prop
structure Eb (X:Cx)(C:Cfg)(e:Option Expr)(φ:uq):Prop where
 mono:∀β R R',(∀d β,R d β->R' d β)->φ β R->φ β R'
 po:PO X e λσ H Q=>∃β own,SQ X C σ H β own/\φ β λo β'=>∀H',ay H H'->SQ X C σ H' β' own->Q o H'
theorem iw:Eb X C none (λβ R=>R none β):=⟨λβ R R' k h=>k _ _ h,oM.pre λσ H Q tw=>by obtain⟨β,own,s,q⟩:=tw;exact q H (ay.refl _) s⟩
theorem iu (ha:PQ X C true a φ):Eb X C (some a) (λβ R=>φ β λd _ β1=>∃i,d=.int i/\R (some i) β1) :=
 ⟨λβ R R' k h=>ha.mono β _ _ (λd _ β1 tv=>by obtain⟨i,e,q⟩:=tv;exact⟨i,e,k _ _ q⟩) h,(oK ha.pe).pre λσ H Q ⟨β,own,s,h⟩=>tQ.of ha s h λd k β1 v H1 az zF o1 r1=>by
  obtain⟨i,e,q⟩:=zF;subst e;cases r1.rep;obtain⟨s1,rfl⟩:=o1.pu rfl;exact⟨i,rfl,q H1 s1 o1.sq⟩⟩
def IZ (φ:aM)(φl φh:uq):aM:=λβ R=>φ β λx k β1=>φl β1 λl β2=>φh β2 λh β3=>∃d,DY x l h=some d/\kN NL d k.wk λk'=>R d k' β3
theorem AQ {k:Kd}:k.wk.wk=k.wk:=by cases k <;> rfl
theorem xF {W:Addr->Prop}{k:Kd}:∀c,av C W k.wk c->av C W k c:=λc h=>by cases k <;> exact h
theorem r9 {lo hi:Option Expr}{φl φh:uq}{p2:Pos}(ha:PQ X C p a φ)(hl:Eb X C lo φl)(hh:Eb X C hi φh):PQ X C p (.Subscript a (.Slice lo hi none p2) pos) (IZ φ φl φh) :=
 ⟨λβ R R' k h=>ha.mono β _ _ (λx kx β1 q=>hl.mono β1 _ _ (λl β2 q=>hh.mono β2 _ _ (λu β3 zE=>by obtain⟨d,e,q⟩:=zE;exact⟨d,e,q.mono λ_ z=>k _ _ _ z⟩) q) q) h,
  (lG uS ha.pe hl.po hh.po).pre λσ H Q ⟨β,own,s,h⟩=>tQ.of ha s h λd k β1 v H1 az q o1 r1 =>
    ⟨β1,az,o1.sq,hl.mono β1 _ _ (λl β2 q H2 s2 EI=>⟨β2,az,EI,hh.mono β2 _ _ (λu β3 zC H3 s3 Du=>by
      obtain⟨d',e,q⟩:=zC;refine⟨av C (Wn az) k.wk,d,d',Du.uF _,((ar.aK xF r1.rep).same s2).same s3,e,λv H' s4 r4 n4=>?_⟩;obtain⟨k',q,r⟩:=KV.kN (Z:=(H,Wn own)) AQ r4 (λn=>fD (H:=H3) Du.qz Du.fQ (λa z e=>o1.sn.d a z (s2.free (s3.free e))) n (n4 n)) q;exact q v H' az ⟨Du.same s4,o1.sn.same ((s2.trans s3).trans s4),λz=>⟨(o1.pu z).1.trans ((s2.trans s3).trans s4),(o1.pu z).2⟩,o1.le⟩ r) q⟩) q⟩⟩
def Bg (X:Cx)(f:List D->Option D)(N:D->Prop):List V->Hp->VK->Prop:=λxs H Q=>∃W ds d,Dm W H/\ot X W H ds xs/\f ds=some d/\∀v H',ay H H'->Rp X W H' d v->(N d->Rp X (λa=>H a≠none) H' d v)->Q v H'
abbrev uv (X:Cx)(f:KR)(g:List D->Option D)(N:D->Prop):Prop:=dg X f (Bg X g N)
theorem bJ.m {f:KR}{g:List D->Option D}(h:bJ X f g):uv X f g NF:=λpins s σ H xs us Q I r ⟨W,ds,d,hd,r1,e,q⟩ =>
 h pins s σ H xs us Q I r ⟨W,ds,d,hd,r1,e,λv H' s r=>q v H' s r λf=>ar.flat f r⟩
def gF (g:List D->Option D)(N:D->Prop)(φs:bI):aM:=λβ R=>φs β λds ks β1=>∃d,g ds=some d/\kN N d (fc ks) λk=>R d k β1
variable {x:Str}{pp:Pos}{id T:String}{gs:List D->Option D}
theorem gF.mono (h:mY X C p es φs):∀β R R',(∀d k β,R d k β->R' d k β)->gF gs N φs β R->gF gs N φs β R':=λβ R R' k q=>h.mono β _ _ (λds ks β1 FZ=>by obtain⟨d,e,q⟩:=FZ;exact⟨d,e,q.mono λ_ z=>k _ _ _ z⟩) q
theorem lB (hn:uH N)(h:mY X C p es φs):∀σ H Q,tQ X C p (gF gs N φs) σ H Q->EC (Bg X gs N) (oE X C p φs) σ H Q:=λσ H Q ⟨β,own,s,q⟩=>oE.of h s q λds ks β1 vs H1 az FX o1 r1=>by
 obtain⟨d,e,q1⟩:=FX;refine⟨av C (Wn az) (fc ks),ds,d,o1.sq.uF _,r1.ip,e,λv H' s2 r2 n2=>?_⟩;obtain⟨k',q,r⟩:=KV.kN (Z:=(H,Wn own)) fK r2 (λn=>fD (H:=H1) o1.sq.qz o1.sq.fQ (λa z=>o1.sn.d a z) (hn.nl _ n) (n2 n)) q1;exact q v H' az (o1.same s2) r
theorem a9 (tG:uH N)(hc:uv X (.builtin id) gs N)(hm:X.mg x=none)(hv:LM x=some (.builtin id))(ha:mY X C p (e::es) φs)(hg:Gl X x:=by rfl)(hn:x≠"__name__" := by decide)(hdb:(x==("__debug__" : Str))=false:=by decide)
  (eN:K5 (e::es) X.env=(false,eval e X.env)::K5 es X.env:=by rfl) (hpl:(L8 pos (K5 es X.env)).any (·.1)=false:=by rfl) :
  PQ X C p (.Call (.Name x pp) (e::es) [] pos) (gF gs N φs):=⟨gF.mono ha,(fA hc hg hm hv ha.pa hn hdb (he:=eN) (hpl:=hpl)).pre (lB tG ha)⟩
theorem gb (tG:uH N)(hc:uv X (.type T) gs N)(hm:X.mg x=none)(hv:LM x=some (.type T))(ha:mY X C p (e::es) φs)(hg:Gl X x:=by rfl)(hn:x≠"__name__" := by decide)(hdb:(x==("__debug__" : Str))=false:=by decide)
  (eN:K5 (e::es) X.env=(false,eval e X.env)::K5 es X.env:=by rfl) (hpl:(L8 pos (K5 es X.env)).any (·.1)=false:=by rfl) :
  PQ X C p (.Call (.Name x pp) (e::es) [] pos) (gF gs N φs):=⟨gF.mono ha,(ju hc hg hm hv ha.pa hn hdb (he:=eN) (hpl:=hpl)).pre (lB tG ha)⟩
end
def k8 (P:K3)(w:Lf)(ro:Bool)(H H':Hp)(d:D)(v:V):Prop:=match ro with
 |true=>∃A,Own P w H' d v A/\A.Nodup/\∀c∈A,H c=none
 |false=>ar P w (λa=>H a≠none) H' d v
abbrev rk (ro:Bool):Kd:=match ro with|true=>.own|false=>.dh
def pP (P:K3)(w:Lf)(ro:Bool)(F:FD):Sp:=λvs H Q _=>∃ds,ag P w (λ_=>False) H ds vs/\F ds λd=>∀v H',ay H H'->k8 P w ro H H' d v->Q v H'
def fZ (P:K3)(w:Lf)(ok:List Int->Prop)(ro:Bool)(F:FD):Sp:=λvs H Q _=>∃h vs' ds ns,vs=.ref h::vs'/\H h=some (.lst (ns.map V.int))/\ok ns/\ag P w (λa=>a=h) H ds vs' /\
 F ds λd=>∀v H' qb,Kp (·=h) H H'->(∀c,H c≠none->H' c≠none)->H' h=some (.lst (qb.map V.int))->ok qb->k8 P w ro H H' d v->Q v H'
section
variable {X:Cx}{C:Cfg}{k ih:Nat}{f:Addr}{fd:LF}{ps:List Str}{F:FD}{ro p:Bool}{x hx:Str}{pp pos px:Pos}{e:Expr}{es:List Expr}{φs:bI}{ok:List Int->Prop}{σ:St}{H H':Hp}{β:bt}{own:Nat->List Addr}{P:K3}{w:Lf}
theorem k8.kv {Z:Hp×(Addr->Prop)}{d:D}{v:V}(hd:Dm (Wn own) H)(h0:∀a,C.H0 a≠none->H a≠none)(hz:∀a,Z.1 a≠none->H a≠none)(h:k8 P w ro H H' d v):KV P w C Z own H' (rk ro) d v:=by
 cases ro with
 |true =>
  obtain⟨A,h1,h2,h3⟩:=h;exact⟨A,h1,h2,λc hc=>⟨LN λz=>hz c z (h3 c hc),λz=>hd c z (h3 c hc),LN λz=>h0 c z (h3 c hc)⟩⟩
 |false=>exact ar.aK (λa z=>z.elim (hd a) (h0 a)) h
def EZ (ro:Bool)(F:FD)(φs:bI):aM:=λβ R=>φs β λds _ β1=>F ds λd=>R d (rk ro) β1
theorem bP (mF:i6 F)(G:aR X.prog X.w X.K X.mg X.base dj k f fd ps (pP X.prog X.w ro F))(hr:bN k X.A)(hm:X.mg x=some (.ref f))(hk:PySem.W.keepIn X.K (.ref f)=true)(hb:Binds X.K fd ps [])(ha:mY X C p (e::es) φs)(hg:Gl X x:=by rfl)
  (hdb:(x==("__debug__" : Str))=false:=by decide)
  (eN:K5 (e::es) X.env=(false,eval e X.env)::K5 es X.env:=by rfl) (hpl:(L8 pos (K5 es X.env)).any (·.1)=false:=by rfl) :
  PQ X C p (.Call (.Name x pp) (e::es) [] pos) (EZ ro F φs) :=
 ⟨λβ R R' k h=>ha.mono β _ _ (λds ks β1 q=>mF ds _ _ (λd q=>k _ _ _ q) q) h,(ke G hr hg hm hk hb .nil wQ ha.pa (hdb:=hdb) (he:=eN) (hpl:=hpl)).pre λσ H Q ⟨β,own,s,h⟩=>oE.of ha s h λds ks β1 vs H1 az q o1 r1=>by
  rw[LV];exact⟨ds,r1.bor,mF ds _ _ (λd q2 v H' s2 r2=>q2 v H' az (o1.same s2) (r2.kv o1.sq.qz o1.sq.fQ λa z=>o1.sn.d a z)) q⟩⟩
theorem bw.drawn {i:Nat}{h:Addr}{qb:List Int}(b:bw P w C σ H β own)(e:β[i]?=some (some (.hand ok)))(hσ:σ[i]?=some (some (.ref h)))(k:Kp (·=h) H H')(e':H' h=some (.lst (qb.map V.int)))(o':ok qb)(dn:∀c,H c≠none->H' c≠none):bw P w C σ H' β own:=by
 obtain⟨a,ns,h1,h2,h3,h4,h5⟩:=b.i_ i ok e;rw[hσ]at h1;cases h1;have wh:Wn own h:=⟨i,by rw[h4];simp⟩
 have kW:∀y,Kp (fg C (Wn own) (yk y)) H H':=λy=>k.mono λc z=>by rw[z];cases y <;> first|exact .inl wh|exact .inl (.inl wh)
 have ne:∀j,j≠i->∀c∈own j,c≠h:=λj hj c hc z=>hj (b.iU j i c hc (by rw[h4,z];simp))
 refine⟨b.len,λj y d e=>let ⟨v,g1,g2⟩:=b.val j y d e;⟨v,g1,g2.keep (kW y)⟩,λj d ej=>?_,λj qX ej=>?_,λj c hc=>?_,b.iU,b.lJ,⟨λc o z n=>?_,λc xs z=>k.tup c xs (b.kp.tup c xs z)⟩,λc z=>dn c (b.fQ c z),λj y d ej=>by
  obtain⟨v,g1,g2,g3⟩:=b.shl j y d ej;have hj:j≠i:=λz=>by rw[z,e]at ej;cases ej
  exact⟨v,g1,g2.map (λc hc o eo=>k.out c o eo (ne j hj c hc)) (λ_ _ r=>r.keep (kW y)),g3⟩⟩
 ·obtain⟨v,g1,g2,g3⟩:=b.ow j d ej;have hj:j≠i:=λz=>by rw[z,e]at ej;cases ej
  exact⟨v,g1,g2.keep k.tup (λc hc o eo=>k.out c o eo (ne j hj c hc)),g3⟩
 ·by_cases hj:j=i
  ·subst hj;rw[e]at ej;cases ej;exact⟨h,qb,hσ,e',o',h4,h5⟩
  ·obtain⟨a,ms,g1,g2,g3,g4,g5⟩:=b.i_ j qX ej;exact⟨a,ms,g1,k.out a _ g2 (ne j hj a (by rw[g4];simp)),g3,g4,g5⟩
 ·obtain⟨g1,g2,g3⟩:=b.dm j c hc
  by_cases l5:c=h
  ·rw[l5,e'];rw[l5]at g3;exact⟨λz=>(nomatch z),λxs z=>(by cases z),g3⟩
  ·cases q:H c with
   |none=>exact absurd q g1
   |some o=>rw[k.out c o q l5];exact⟨λz=>(nomatch z),λxs z=>g2 xs (by rw[q];exact z),g3⟩
 ·refine k.out c o (b.kp.out c o z n) λq=>?_;subst q;rcases (b.dm i c (by rw[h4];simp)).2.2.1 with z0|z0
  ·rw[z0]at z;cases z
  ·exact n z0
def Bl (ih:Nat)(ok:List Int->Prop)(ro:Bool)(F:FD)(φs:bI):aM:=λβ R=>β[ih]?=some (some (.hand ok))/\φs β λds ks β1=>β1[ih]?=some (some (.hand ok))/\hold (fc ks) false/\F ds λd=>R d (rk ro) β1
theorem aO (mF:i6 F)(G:aR X.prog X.w X.K X.mg X.base dj k f fd ps (fZ X.prog X.w ok ro F))(hr:bN k X.A)(hm:X.mg x=some (.ref f))(hk:PySem.W.keepIn X.K (.ref f)=true)(hb:Binds X.K fd ps [])(ha:mY X C p es φs)(hN:X.N[ih]?=some hx:=by rfl)
  (hv:uG X.env.scope hx:=by first|exact .inl rfl|exact .inr (.inl rfl)|exact .inr (.inr rfl)) (hd:(hx==("__debug__" : Str))=false:=by decide) (g8:(hx==("__classdict__" : Str))=false:=by decide) (hg:Gl X x:=by rfl) (hdb:(x==("__debug__" : Str))=false:=by decide)
  (eN:K5 (.Name hx px::es) X.env=(false,eval (.Name hx px) X.env)::K5 es X.env:=by rfl) (hpl:(L8 pos (K5 es X.env)).any (·.1)=false:=by rfl) :
  PQ X C false (.Call (.Name x pp) (.Name hx px::es) [] pos) (Bl ih ok ro F φs) :=
 ⟨λβ R R' k FV=>by obtain⟨e,h⟩:=FV;exact⟨e,ha.mono β _ _ (λds ks β1 FU=>by obtain⟨e,hh,q⟩:=FU;exact⟨e,hh,mF ds _ _ (λd q=>k _ _ _ q) q⟩) h⟩,
  (ke G hr hg hm hk hb .nil wQ (a7 (eZ (pos:=px) hN hv hd g8) ha.pa eN) (hdb:=hdb) (he:=eN) (hpl:=hpl)).pre λσ H Q zB=>by
  obtain⟨β,own,s,e,h⟩:=zB;obtain⟨hh,ns,h1,h2,h3,h4⟩:=s.i_ ih ok e;refine⟨.ref hh,h1,oE.of ha s h λds ks β1 vs H1 az ⟨e1,ho,q⟩ o1 r1=>?_⟩;obtain⟨KL,Jb,g1,g2,g3,g4,g5⟩:=o1.sq.i_ ih ok e1;rw[h1]at g1;cases g1;have wh:Wn az hh:=⟨ih,by rw[g4];simp⟩
  rw[LV];refine⟨hh,vs,ds,Jb,rfl,g2,g3,ag.aK (λa z=>?_) r1.ip,mF ds _ _ (λd q v H' qb kp dn e' qX r=>?_) q⟩
  ·subst z;cases hk:fc ks with
   |own=>exact .inl wh
   |dh=>exact .inl wh
   |old=>exact wh
   |bor=>rw[hk]at ho;exact ho.elim
  ·exact q v H' az ⟨o1.sq.drawn e1 h1 kp e' qX dn,o1.sn.kp (kp.mono λb z=>by rw[z];exact wh) dn,λz=>(nomatch z),o1.le⟩ (r.kv o1.sq.qz o1.sq.fQ λa z=>o1.sn.d a z)⟩
end
abbrev Cfg.z (C:Cfg):Cfg:=C.u λ_=>False
def SB (X:Cx)(C:Cfg)(Z:Hp×(Addr->Prop))(σ:St)(H:Hp)(β:bt):Prop:=∃own,SQ X C.z σ H β own/\Sn Z H (Wn own)
structure df where
 nx:bt->Prop
 rt:D->bt->Prop
 bk:bt->Prop:=λ_=>False
 ct:bt->Prop:=λ_=>False
def df.up (E:df)(n:bt->Prop):df:=⟨n,E.rt,E.bk,E.ct⟩
def df.lp (E:df)(n:bt->Prop):df:=⟨n,E.rt,E.nx,n⟩
structure Im (X:Cx)(C:Cfg)(Z:Hp×(Addr->Prop))(E:df)(D:Ends):Prop where
 nx:∀σ H β,SB X C Z σ H β->E.nx β->D.nx σ H
 rt:∀σ H β d v,SB X C Z σ H β->k8 X.prog X.w C.ro C.H0 H d v->E.rt d β->D.rt v H
 bk:∀σ H β,SB X C Z σ H β->E.bk β->D.bk σ H
 ct:∀σ H β,SB X C Z σ H β->E.ct β->D.ct σ H
structure Le (E E':df):Prop where
 nx:∀β,E.nx β->E'.nx β
 rt:∀d β,E.rt d β->E'.rt d β
 bk:∀β,E.bk β->E'.bk β
 ct:∀β,E.ct β->E'.ct β
abbrev xK:=df->bt->Prop
def Hb (X:Cx)(C:Cfg)(ψ:xK):TS:=λD σ H=>∃Z E β,SB X C Z σ H β/\ψ E β/\Im X C Z E D
structure PB (X:Cx)(C:Cfg)(st:Stmt)(ψ:xK):Prop where
 mono:∀E E' β,Le E E'->ψ E β->ψ E' β
 ps:PS X st (Hb X C ψ)
structure k6 (X:Cx)(C:Cfg)(st:List Stmt)(ψ:xK):Prop where
 mono:∀E E' β,Le E E'->ψ E β->ψ E' β
 ps:mM X st (Hb X C ψ)
section
variable {X:Cx}{C:Cfg}{st:Stmt}{rest a b:List Stmt}{ψ ψ1 ψ2:xK}{Z:Hp×(Addr->Prop)}{σ:St}{H H':Hp}{β β':bt}{pos pos':Pos}{e c:Expr}{φ:aM}{τ:bb}{p:Bool}{own aH:Nat->List Addr}{i:Nat}{x:Str}
theorem Out.sb (n:Sn Z H (Wn own))(o:Out X C.z σ H own p β' H' aH):SB X C Z σ H' β':=⟨aH,o.sq,n.trans o.sn⟩
theorem aY:k6 X C [] (λE β=>E.nx β):=⟨λE E' β l h=>l.nx β h,oI.pre λD σ H qr=>by obtain⟨Z,E,β,sb,h,ok⟩:=qr;exact ok.nx σ H β sb h⟩
theorem ai (h1:PB X C st ψ1)(h2:k6 X C rest ψ2):k6 X C (st::rest) (λE β=>ψ1 (E.up (ψ2 E)) β) :=
 ⟨λE E' β l h=>h1.mono {E with nx:=ψ2 E} {E' with nx:=ψ2 E'} β ⟨λβ' q=>h2.mono E E' β' l q,l.rt,l.bk,l.ct⟩ h,(cC h1.ps h2.ps).pre λD σ H ⟨Z,E,β,sb,h,ok⟩ =>
  ⟨Z,{E with nx:=ψ2 E},β,sb,h,⟨λσ' H' β' uW h'=>⟨Z,E,β',uW,h',ok⟩,ok.rt,ok.bk,ok.ct⟩⟩⟩
theorem au (h1:PB X C st ψ):k6 X C [st] ψ:=⟨h1.mono,eF h1.ps⟩
theorem cU (h1:PB X C st ψ1)(h2:k6 X C rest ψ2):k6 X C (st::rest) (λE β=>∃J:bt->Prop,ψ1 (E.up J) β/\∀β',J β'->ψ2 E β') :=
 ⟨λE E' β l tq=>by obtain⟨J,h,k⟩:=tq;exact⟨J,h1.mono {E with nx:=J} {E' with nx:=J} β ⟨λ_ q=>q,l.rt,l.bk,l.ct⟩ h,λβ' q=>h2.mono E E' β' l (k β' q)⟩,(cC h1.ps h2.ps).pre λD σ H ⟨Z,E,β,sb,⟨J,h,k⟩,ok⟩ =>
  ⟨Z,{E with nx:=J},β,sb,h,⟨λσ' H' β' uW h'=>⟨Z,E,β',uW,k β' h',ok⟩,ok.rt,ok.bk,ok.ct⟩⟩⟩
theorem bL (hc:pH X C.z p c τ)(ha:k6 X C a ψ1)(hb:k6 X C b ψ2):PB X C (.If c a b pos) (λE β=>τ β λt β'=>if t=true then ψ1 E β' else ψ2 E β') :=
 ⟨λE E' β l h=>hc.mono _ _ _ (λt β' q=>by
   cases t
   ·exact hb.mono E E' β' l q
   ·exact ha.mono E E' β' l q) h,(wM hc.pt ha.ps hb.ps).pre λD σ H vO=>by
  obtain⟨Z,E,β,⟨own,s,n⟩,h,ok⟩:=vO;refine j2.of hc s h λt β' H1 az q o1=>?_;cases t
  ·exact⟨Z,E,β',o1.sb n,q,ok⟩
  ·exact⟨Z,E,β',o1.sb n,q,ok⟩⟩
abbrev w_ (d:D)(k:Kd)(K:B->Prop):Prop:=match k with
 |.own=>K (.val true d)
 |.dh=>K (.val true d)
 |.old=>K (.val false d)
 |.bor=>d.flat=true/\K (.val true d)
theorem w_.mono {d:D}{k:Kd}{K K':B->Prop}(h:∀b,K b->K' b)(q:w_ d k K):w_ d k K':=by
 cases k <;> first|exact h _ q|exact⟨q.1,h _ q.2⟩
theorem w_.of {P:K3}{w:Lf}{d:D}{v:V}{k:Kd}{K:B->Prop}(r:KV P w C Z own H k d v)(q:w_ d k K):∃y,K (.val y d)/\ar P w (av C (Wn own) (yk y)) H d v:=by
 cases k with
 |own=>exact⟨true,q,r.dh⟩
 |dh=>exact⟨true,q,r⟩
 |old=>exact⟨false,q,r⟩
 |bor=>exact⟨true,q.2,ar.flat q.1 r⟩
theorem nk {own:Nat->List Addr}{i:Nat}(n:Sn Z H (Wn own)):Sn Z H (Wn (aE own i [])):=⟨λb z=>n.w b (c0 z),n.k,n.d⟩
theorem a5 (he:PQ X C.z p e φ)(hN:X.N.Nodup)(hi:X.N[i]?=some x:=by rfl)(hx:Loc X.env.scope x:=by first|exact .inl rfl|exact .inr rfl)
  (hs:M5 e (some (.Name x pos')) pos.line X.env=pure false:=by rfl) (hf:X.fn x=true\/X.env.scope.names.lookup x=some .local:=by first|exact .inl rfl|exact .inr rfl|assumption) :
  PB X C (.Assign [.Name x pos'] e pos) (λE β=>φ β λd k β'=>w_ d k λb=>E.nx (β'.set i (some b))) :=
 ⟨λE E' β l q=>he.mono _ _ _ (λd k β' q=>q.mono λ_=>l.nx _) q,(ny hN hi hx he.pe hs hf).pre λD σ H ⟨Z,E,β,⟨own,s,n⟩,q,ok⟩=>tQ.of he s q λd k β' v H' aH q o r=>by
  obtain⟨y,q,r⟩:=q.of r;exact ok.nx _ _ _ ⟨_,o.sq.dU (ar.aK (λa z=>z.elim id λz=>z.elim) r),nk (n.trans o.sn)⟩ q⟩
abbrev Ay (k:Kd)(d:D):Prop:=match k with
 |.own=>True
 |_=>d.flat=true
theorem KV.fl {P:K3}{w:Lf}{d:D}{v:V}{k:Kd}(f:Ay k d)(r:KV P w C Z own H k d v):KV P w C Z own H .own d v:=by
 cases k with
 |own=>exact r
 |dh=>exact KV.flat f r.rep
 |old=>exact KV.flat f r.rep
 |bor=>exact KV.flat f r.rep
theorem fC (he:∀U,PQ X (C.u U) p e φ)(hN:X.N.Nodup)(hi:X.N[i]?=some x:=by rfl)(hx:Loc X.env.scope x:=by first|exact .inl rfl|exact .inr rfl)
  (hs:M5 e (some (.Name x pos')) pos.line X.env=pure false:=by rfl) (hf:X.fn x=true\/X.env.scope.names.lookup x=some .local:=by first|exact .inl rfl|exact .inr rfl|assumption) :
  PB X C (.Assign [.Name x pos'] e pos) (λE β=>φ β λd k β'=>Ay k d/\E.nx (β'.set i (some (.own d)))) :=
 ⟨λE E' β l q=>(he λ_=>False).mono _ _ _ (λd k β' q=>⟨q.1,l.nx _ q.2⟩) q,λpins s σ H D I ⟨Z,E,β,⟨own,sq,n⟩,q,ok⟩ =>
  ny hN hi hx (he λa=>H a=none).pe hs hf pins s σ H D I (tQ.of (he λa=>H a=none) (sq.wJ (C:=C.z) (U:=λa=>H a=none) λa z=>z) q λd k β' v H' aH zI o r=>by
   obtain⟨f,q⟩:=zI;obtain⟨A,h1,h2,h3⟩:=r.fl f;refine ok.nx _ _ _ ⟨_,o.sq.yj h1 h2 λc hc=>⟨(h3 c hc).2.2,(h3 c hc).2.1,(h3 c hc).1⟩,?_⟩ q;have m:=n.trans o.sn;exact⟨λb zH=>by
    obtain⟨j,hj⟩:=zH
    by_cases aB:i=j
    ·rw[<- aB,os_eq]at hj;exact .inr (n.free (h3 b hj).1)
    ·rw[a3 aB]at hj;exact m.w b ⟨j,hj⟩,m.k,m.d⟩)⟩
theorem bw.Bp {P:K3}{w:Lf}{U U2:Addr->Prop}{d d':D}{v:V}{A':List Addr}{c:Addr}{o:HO}(b:bw P w (C.u U) σ H β own)(e:β[i]?=some (some (.own d)))(hσ:σ[i]?=some (some v))(hc:c∈own i)
  (r:Own P w (upd H c o) d' v A') (nd:A'.Nodup) (hA:∀a∈A',a∈own i\/(C.H0 a=none/\¬ Wn own a/\U a)) (hU:∀a,U2 a->U a) (GC:∀a∈A',¬ U2 a):bw P w (C.u U2) σ (upd H c o) (β.set i (some (.own d'))) (aE own i A'):=by
 obtain⟨g1,g2,g3,g4⟩:=b.dm i c hc;obtain⟨oc,zL⟩:∃oc,H c=some oc:=by
  cases q:H c with
  |none=>exact absurd q g1
  |some oc=>exact⟨oc,rfl⟩
 have ht:∀xs,oc≠.tup xs:=λxs z=>g2 xs (by rw[zL,z])
 have k:Kp (·=c) H (upd H c o):=iJ zL ht;have h0:∀a∈own i,C.H0 a=none:=by obtain⟨_,_,_,h⟩:=b.ow i d e;exact h
 have wc:Wn own c:=⟨i,hc⟩;have sub:∀y a,fg (C.u U2) (Wn (aE own i A')) (yk y) a->fg (C.u U) (Wn own) (yk y) a:=λy a h=>by
  have q:∀a,Wn (aE own i A') a->Wn own a\/U a:=λa tD=>by
   obtain⟨j,q⟩:=tD
   by_cases aB:i=j
   ·rw[aB,os_eq]at q;rcases hA a q with z|z
    ·exact .inl ⟨i,z⟩
    ·exact .inr z.2.2
   ·rw[a3 aB]at q;exact .inl ⟨j,q⟩
  rcases h with h|h
  ·cases y with
   |true=>exact h.elim (λz=>(q a z).imp .inl id) λz=>.inl (.inr z)
   |false=>exact q a h
  ·exact .inr (hU a h)
 have mem:∀{j c},c∈aE own i A' j->(i=j/\c∈A')\/(i≠j/\c∈own j):=λ{j c} h=>by
  by_cases aB:i=j
  ·subst aB;rw[os_eq]at h;exact .inl ⟨rfl,h⟩
  ·rw[a3 aB]at h;exact .inr ⟨aB,h⟩
 have DB:∀j,i≠j->∀a∈own j,a≠c:=λj aB a ha z=>aB (b.iU i j c hc (by rw[<- z];exact ha))
 refine⟨by simp[b.len],λj y' d2 e2=>?_,λj d2 e2=>?_,λj ok e2=>?_,λj a h=>?_,λj k2 a h1 h2=>?_,λj=>?_,⟨λa oa z n=>?_,λa xs z=>k.tup a xs (b.kp.tup a xs z)⟩,λa z=>?_,λj y' d2 e2=>by
  by_cases aB:i=j
  ·subst aB;obtain⟨e',hl⟩:=aS e2;cases e'
  ·rw[aQ aB]at e2;rw[a3 aB];obtain⟨u,h1,h2,h3⟩:=b.shl j y' d2 e2;exact⟨u,h1,h2.map (λa ha oa ea=>k.out a oa ea (DB j aB a ha)) (λ_ _ r=>ag.aK (sub _) (r.keep (k.mono λa z=>by rw[z];cases y' <;> first|exact .inl wc|exact .inl (.inl wc)))),h3⟩⟩
 ·by_cases aB:i=j
  ·subst aB;obtain⟨e',hl⟩:=aS e2;cases e'
  ·rw[aQ aB]at e2;obtain⟨u,h1,h2⟩:=b.val j y' d2 e2;exact⟨u,h1,(h2.keep (k.mono λa z=>by rw[z];cases y' <;> first|exact .inl wc|exact .inl (.inl wc))).aK (sub _)⟩
 ·by_cases aB:i=j
  ·subst aB;obtain⟨e',hl⟩:=aS e2;cases e';rw[os_eq];exact⟨v,hσ,r,λa ha=>(hA a ha).elim (h0 a) λz=>z.1⟩
  ·rw[aQ aB]at e2;rw[a3 aB];obtain⟨u,h1,h2,h3⟩:=b.ow j d2 e2;exact⟨u,h1,h2.keep k.tup (λa ha oa ea=>k.out a oa ea (DB j aB a ha)),h3⟩
 ·by_cases aB:i=j
  ·subst aB;obtain⟨e',hl⟩:=aS e2;cases e'
  ·rw[aQ aB]at e2;rw[a3 aB];obtain⟨a,ns,h1,h2,h3,h4,h5⟩:=b.i_ j ok e2;exact⟨a,ns,h1,k.out a _ h2 (DB j aB a (by rw[h4];simp)),h3,h4,h5⟩
 ·rcases mem h with⟨_,h⟩|⟨aB,h⟩
  ·exact⟨(r.jf a h).1,(r.jf a h).2,.inl ((hA a h).elim (h0 a) λz=>z.1),GC a h⟩
  ·obtain⟨q1,q2,q3,q4⟩:=b.dm j a h;rw[aj (DB j aB a h)];exact⟨q1,q2,q3,λz=>q4 (hU a z)⟩
 ·rcases mem h1 with⟨e1,h1⟩|⟨n1,h1⟩
  ·rcases mem h2 with⟨e2,h2⟩|⟨n2,h2⟩
   ·rw[<- e1,<- e2]
   ·rcases hA a h1 with z|z
    ·exact absurd (b.iU i k2 a z h2) n2
    ·exact absurd ⟨k2,h2⟩ z.2.1
  ·rcases mem h2 with⟨e2,h2⟩|⟨n2,h2⟩
   ·rcases hA a h2 with z|z
    ·exact absurd (b.iU i j a z h1) n1
    ·exact absurd ⟨j,h1⟩ z.2.1
   ·exact b.iU j k2 a h1 h2
 ·by_cases aB:i=j
  ·rw[<- aB,os_eq];exact nd
  ·rw[a3 aB];exact b.lJ j
 ·refine k.out a oa (b.kp.out a oa z n) λq=>?_;subst q;rw[h0 a hc]at z;cases z
 ·by_cases Ia:a=c
  ·rw[Ia,ao];exact λz=>(nomatch z)
  ·rw[aj Ia];exact b.fQ a z
theorem bw.putIn {P:K3}{w:Lf}{U:Addr->Prop}{d d':D}{v:V}{A':List Addr}{c:Addr}{o:HO}(b:bw P w (C.u U) σ H β own)(e:β[i]?=some (some (.own d)))(hσ:σ[i]?=some (some v))(hc:c∈own i)
  (r:Own P w (upd H c o) d' v A') (nd:A'.Nodup) (hA:∀a∈A',a∈own i\/(C.H0 a=none/\¬ Wn own a/\U a)):bw P w C.z σ (upd H c o) (β.set i (some (.own d'))) (aE own i A') :=
 b.Bp (U2:=λ_=>False) e hσ hc r nd hA (λ_ z=>z.elim) λ_ _ z=>z
theorem rG {A':List Addr}{c:Addr}{o:HO}{U:Addr->Prop}(n:Sn Z H (Wn own))(m:∀a,U a->Z.1 a=none)(hc:Wn own c)(zL:∃oc,H c=some oc/\∀xs,oc≠.tup xs)(hA:∀a∈A',a∈own i\/(C.H0 a=none/\¬ Wn own a/\U a)):Sn Z (upd H c o) (Wn (aE own i A')):=by
 obtain⟨oc,h1,h2⟩:=zL;have u:=Sn.upd (o':=o) n h1 h2 hc;exact⟨λb tx=>by
  obtain⟨j,hj⟩:=tx
  by_cases aB:i=j
  ·rw[<- aB,os_eq]at hj;rcases hA b hj with z|z
   ·exact n.w b ⟨i,z⟩
   ·exact .inr (m b z.2.2)
  ·rw[a3 aB]at hj;exact n.w b ⟨j,hj⟩,u.k,u.d⟩
theorem bw.lR {P:K3}{w:Lf}{ds:List D}(b:bw P w C σ H β own)(e:β[i]?=some (some (.own (.lst ds)))):∃a vs A',σ[i]?=some (some (.ref a))/\H a=some (.lst vs)/\own i=a::A'/\aI P w H ds vs A':=by
 obtain⟨v,h1,⟨a,vs,A',rfl,h2,h3,h4⟩,_⟩:=b.ow i _ e;exact⟨a,vs,A',h1,h2,h3,h4⟩
variable {px ap cp:Pos}
theorem eG (he:∀U,PQ X (C.u U) p e φ)(hN:X.N[i]?=some x:=by rfl)(hv:uG X.env.scope x:=by first|exact .inl rfl|exact .inr (.inl rfl)|exact .inr (.inr rfl))(hd:(x==("__debug__" : Str))=false:=by decide)(g8:(x==("__classdict__" : Str))=false:=by decide)
  (cM:My (.Name x px) "append" X.env (eval (.Name x px) X.env)=eval (.Name x px) X.env:=by rfl)
  (gq:((L8 cp (K5 [e] X.env)).all (λx=>!x.1)&&(Ov cp (Ny [] X.env)).all (λx=>x.1.isSome)&&decide ([e].length+([]:List Nb).length+(if ([]:List Nb).isEmpty then 0 else 1)<30))=true:=by rfl)
  (cL:(ap.endLine==cp.line)=true:=by rfl) (hs:K5 [e] X.env=(false,eval e X.env)::K5 [] X.env:=by rfl) (cK:(L8 cp (K5 [] X.env)).any (·.1)=false:=by rfl)
  (uC:M5 (.Call (.Attribute (.Name x px) "append" ap) [e] [] cp) none pos.line X.env=pure false:=by rfl) :
  PB X C (.Expr (.Call (.Attribute (.Name x px) "append" ap) [e] [] cp) pos) (λE β=>(∃ds,β[i]?=some (some (.own (.lst ds))))/\φ β λd k β'=>Ay k d/\∃ds,β'[i]?=some (some (.own (.lst ds)))/\ds.length<Lk/\E.nx (β'.set i (some (.own (.lst (ds++[d])))))):=by
 refine⟨λE E' β l tw=>by obtain⟨h1,q⟩:=tw;exact⟨h1,(he λ_=>False).mono _ _ _ (λd k β' tv=>by obtain⟨f,ds,h1,h2,q⟩:=tv;exact⟨f,ds,h1,h2,l.nx _ q⟩) q⟩,λpins s σ H D I ⟨Z,E,β,⟨own,sq,n⟩,⟨⟨Ka,hb⟩,q⟩,ok⟩=>?_⟩
 refine gX (pos:=pos) (sA (apos:=ap) (cpos:=cp) PySem.F.plainAttrs_list PySem.F.slot_list_append PySem.F.type_list_append jw (eZ (pos:=px) hN hv hd g8) (a7 (he λa=>H a=none).pe cG hs) cM gq cL hs cK) uC pins s σ H D I ?_;obtain⟨a,vs,A',h1,h2,h3,h4⟩:=sq.lR hb;refine⟨.ref a,h1,.inl ⟨rfl,vs,de.of h2⟩,tQ.of (he λa=>H a=none) (sq.wJ (C:=C.z) (U:=λa=>H a=none) λa z=>z) q λd k β' v H1 az ⟨f,ds,DU,hl,q⟩ o r=>?_⟩;obtain⟨a',vs',A1,g1,g2,g3,g4⟩:=o.sq.lR DU;rw[h1]at g1;cases g1;obtain⟨A,r1,r2,r3⟩:=r.fl f;have ha:a∈az i:=by rw[g3];simp
 have nd:(a::(A1++A)).Nodup:=by
  have q:=o.sq.lJ i;rw[g3]at q;refine LD.mpr ⟨λz=>?_,Nz.mpr ⟨(LD.mp q).2,r2,λx hx y hy e=>?_⟩⟩
  ·rcases Lv.mp z with z|z
   ·exact(LD.mp q).1 z
   ·exact(r3 a z).2.1 ⟨i,ha⟩
  ·subst e;exact(r3 x hy).2.1 ⟨i,by rw[g3];simp[hx]⟩
 have hA:∀b∈a::(A1++A),b∈az i\/(C.H0 b=none/\¬ Wn az b/\H b=none):=λb hb=>by
  rcases K6.mp hb with rfl|hb
  ·exact .inl ha
  ·rcases Lv.mp hb with hb|hb
   ·exact .inl (by rw[g3];simp[hb])
   ·exact .inr ⟨(r3 b hb).2.2,(r3 b hb).2.1,(r3 b hb).1⟩
 have kt:∀b xs,H1 b=some (.tup xs)->upd H1 a (.lst (vs'++[v])) b=some (.tup xs):=λb xs z=>by
  rw[aj (λz'=>by rw[z',g2]at z;cases z)];exact z
 have ne1:∀c∈A1,c≠a:=λc hc z=>by
  have q:=o.sq.lJ i;rw[g3]at q;exact(LD.mp q).1 (by rw[<- z];exact hc)
 have ne2:∀c∈A,c≠a:=λc hc z=>(r3 c hc).2.1 ⟨i,by rw[z];exact ha⟩
 have r':Own X.prog X.w (upd H1 a (.lst (vs'++[v]))) (.lst (ds++[d])) (.ref a) (a::(A1++A)) :=
  ⟨a,vs'++[v],A1++A,rfl,ao,rfl,(g4.keep kt λc hc oc ec=>by rw[aj (ne1 c hc)];exact ec).append (aI.one (r1.keep kt λc hc oc ec=>by rw[aj (ne2 c hc)];exact ec))⟩
 exact⟨a,vs',v,rfl,rfl,g2,by rw[g4.length];exact hl,ok.nx _ _ _ ⟨_,o.sq.putIn DU h1 ha r' nd hA,rG (n.trans o.sn) (λb z=>n.free z) ⟨i,ha⟩ ⟨_,g2,λxs z=>by cases z⟩ hA⟩ q⟩
end
abbrev eh:=D->Kd->bt->(bt->Prop)->Prop
abbrev jV:=List D->Kd->bt->(bt->Prop)->Prop
structure wG (X:Cx)(C:Cfg)(tg:Expr)(T:List Nat)(γ:eh):Prop where
 mono:∀d k β R R',(∀r,R r->R' r)->γ d k β R->γ d k β R'
 pg:PG X tg λv σ H Q=>∃own β d k,SQ X C σ H β own/\Rp X (fg C (Wn own) k) H d v/\γ d k β λβ'=>∀σ' aH,SQ X C σ' H β' aH->(∀a,Wn aH a->Wn own a)->(∀j,j∉T->σ'[j]?=σ[j]?)->Q σ' H
structure wF (X:Cx)(C:Cfg)(pL:List Expr)(T:List Nat)(γ:jV):Prop where
 mono:∀d k β R R',(∀r,R r->R' r)->γ d k β R->γ d k β R'
 Ho:xN X pL λvs σ H Q=>∃own β ds k,SQ X C σ H β own/\ot X (fg C (Wn own) k) H ds vs/\γ ds k β λβ'=>∀σ' aH,SQ X C σ' H β' aH->(∀a,Wn aH a->Wn own a)->(∀j,j∉T->σ'[j]?=σ[j]?)->Q σ' H
section
variable {X:Cx}{C:Cfg}{tg:Expr}{pL:List Expr}{γ:eh}{γs:jV}{T T':List Nat}{pos:Pos}{e:Expr}{φ:aM}{p:Bool}
def J1 (i:Nat):eh:=λd k β R=>w_ d k λb=>R (β.set i (some b))
theorem aA {i:Nat}{x:Str}(hN:X.N.Nodup)(hi:X.N[i]?=some x:=by rfl)(hx:Loc X.env.scope x:=by first|exact .inl rfl|exact .inr rfl)
  (hf:X.fn x=true\/X.env.scope.names.lookup x=some .local:=by first|exact .inl rfl|exact .inr rfl|assumption):wG X C (.Name x pos) [i] (J1 i) :=
 ⟨λd k β R R' h q=>w_.mono (d:=d) (k:=k) (K:=λb=>R (β.set i (some b))) (K':=λb=>R' (β.set i (some b))) (λ_=>h _) q,(vg hN hi hx hf).pre λv σ H Q qr=>by
  obtain⟨own,β,d,k,s,r,q⟩:=qr;have Dv:∀(v:V) (j:Nat),j∉[i]->(σ.set i (some v))[j]?=σ[j]?:=λv j hj=>aQ (NV (by simpa using hj))
  cases k with
  |own=>exact q _ _ (s.dU (y:=true) r) (λa h=>c0 h) (Dv v)
  |dh=>exact q _ _ (s.dU (y:=true) r) (λa h=>c0 h) (Dv v)
  |old=>exact q _ _ (s.dU (y:=false) r) (λa h=>c0 h) (Dv v)
  |bor=>exact q.2 _ _ (s.dU (y:=true) (ar.flat q.1 r)) (λa h=>c0 h) (Dv v)⟩
abbrev sk (k:Kd):D->Kd
 |.int _=>.own
 |.bl _=>.own
 |.bx=>.own
 |.str _=>.own
 |_=>k.wk
theorem j8 {P:K3}{w:Lf}{W:Addr->Prop}{H:Hp}{k:Kd}{d:D}{v:V}(r:ar P w (fg C W k) H d v):ar P w (fg C W (sk k d)) H d v:=by
 cases d with
 |int i=>exact ar.flat rfl r
 |bl i=>exact ar.flat rfl r
 |bx=>exact ar.flat rfl r
 |str i=>exact ar.flat rfl r
 |_=>exact ar.aK (λa z=>z.imp (xF a) id) r
def zZ:jV:=λds _ β R=>ds=[]/\R β
def tM (γ:eh)(γs:jV):jV:=λds k β R=>∃d r,ds=d::r/\γ d (sk k d) β λβ'=>γs r k β' R
theorem cF:wF X C [] [] zZ:=⟨λd k β R R' h q=>⟨q.1,h _ q.2⟩,vf.pre λvs σ H Q tu=>by
 obtain⟨own,β,ds,k,s,r,e,q⟩:=tu;subst e;exact⟨r,q σ own s (λ_ z=>z) λ_ _=>rfl⟩⟩
theorem aP (h1:wG X C tg T γ)(h2:wF X C pL T' γs)(hs:(Mu (tg::pL) X.env).map (·.2)=assign tg X.env::(Mu pL X.env).map (·.2):=by rfl):wF X C (tg::pL) (T++T') (tM γ γs) :=
 ⟨λds k β R R' h tq=>by obtain⟨d,r,e,q⟩:=tq;exact⟨d,r,e,h1.mono _ _ β _ _ (λβ' q=>h2.mono r k β' _ _ h q) q⟩,
  (sf h1.pg h2.Ho hs).pre λvs σ H Q zA=>by
    obtain⟨own,β,ds,k,s,rr,d,r,e,q⟩:=zA;subst e;obtain⟨v,vr,rfl,rv,IT⟩:=rr;exact⟨v,vr,rfl,own,β,d,_,s,j8 rv,h1.mono _ _ β _ _ (λβ' q σ' aH s' w' t'=>⟨aH,β',r,k,s',ag.aK (fU w' k) IT,h2.mono r k β' _ _ (λβ2 q2 σ2 aX s2 w2 t2=>q2 σ2 aX s2 (λa z=>w' a (w2 a z)) λj hj=>(t2 j λz=>hj (Ly _ z)).trans (t' j λz=>hj (L6 _ z))) q⟩) q⟩⟩
def J0 (n:Nat)(γs:jV):eh:=λd k β R=>∃ds,d=.tup ds/\ds.length=n/\γs ds k β R
theorem dy {k:Nat}{n:Nat}(hc:X.calm=true)(h:wF X C pL T γs)(hn:(Mu pL X.env).length=n:=by rfl)(kG:(Mu pL X.env).findIdx? (·.1)=none:=by rfl):wG X C (.Tuple pL k pos) T (J0 n γs) :=
 ⟨λd k β R R' hh vP=>by obtain⟨ds,e,l,q⟩:=vP;exact⟨ds,e,l,h.mono ds k β _ _ hh q⟩,(yz hc h.Ho hn kG).pre λv σ H Q zw=>by
  obtain⟨own,β,d,k,s,r,ds,e,l,q⟩:=zw;subst e;obtain⟨a,vs,rfl,ha,rs⟩:=r;exact⟨a,vs,rfl,q0.of ha,by rw[rs.length];exact l,own,β,ds,k,s,rs,q⟩⟩
theorem fv {Z:Hp×(Addr->Prop)}{H:Hp}{own aH:Nat->List Addr}(n:Sn Z H (Wn own))(h:∀a,Wn aH a->Wn own a):Sn Z H (Wn aH):=⟨λb z=>n.w b (h b z),n.k,n.d⟩
theorem kg (he:PQ X C.z p e φ)(hg:wG X C.z tg T γ)(hs:swapsWithSole [tg] e pos.line X.env=pure false:=by rfl)(hw:swappedStores [tg] e X.env=pure none:=by rfl)
  (h1:(Mu [tg] X.env).map (·.2)=[assign tg X.env]:=by rfl):PB X C (.Assign [tg] e pos) (λE β=>φ β λd k β'=>γ d k β' E.nx) :=
 ⟨λE E' β l q=>he.mono _ _ _ (λd k β' q=>hg.mono _ _ _ _ _ l.nx q) q,(nz he.pe hg.pg hs hw h1).pre λD σ H ⟨Z,E,β,⟨own,s,n⟩,q,ok⟩=>tQ.of he s q λd k β' v H' aH q o r =>
  ⟨aH,β',d,k,o.sq,ar.aK (λa z=>z.elim id λz=>z.elim) r.rep,hg.mono _ _ _ _ _ (λβ2 q σ2 aX s2 w2 _=>ok.nx _ _ _ ⟨aX,s2,fv (n.trans o.sn) w2⟩ q) q⟩⟩
theorem oS (he:PQ X C.z p e φ)(uC:M5 e none pos.line X.env=pure false:=by rfl):PB X C (.Expr e pos) (λE β=>φ β λ_ _ β'=>E.nx β') :=
 ⟨λE E' β l q=>he.mono _ _ _ (λd k β' q=>l.nx _ q) q,(gX he.pe uC).pre λD σ H zv=>by obtain⟨Z,E,β,⟨own,s,n⟩,q,ok⟩:=zv;exact tQ.of he s q λd k β' v H' aH q o r=>ok.nx _ _ _ (o.sb n) q⟩
abbrev HB (ro:Bool)(k:Kd)(d:D):Prop:=match k,ro with
 |.own,_=>True
 |.dh,false=>True
 |_,_=>d.flat=true
theorem cq {P:K3}{w:Lf}{W:Addr->Prop}{ro:Bool}{H H':Hp}{d:D}{v:V}(f:d.flat=true)(r:ar P w W H' d v):k8 P w ro H H' d v:=by
 cases ro with
 |true=>exact⟨[],c9 f r,LO,λc hc=>(nomatch hc)⟩
 |false=>exact ar.flat f r
theorem vE {P:K3}{w:Lf}{Z:Hp×(Addr->Prop)}{own:Nat->List Addr}{ro:Bool}{H':Hp}{k:Kd}{d:D}{v:V}(f:HB ro k d)(r:KV P w C Z own H' k d v):k8 P w ro C.H0 H' d v:=by
 cases k with
 |own =>
  cases ro with
  |true=>obtain⟨A,h1,h2,h3⟩:=r;exact⟨A,h1,h2,λc hc=>(h3 c hc).2.2⟩
  |false=>exact ar.aK (λa z=>.inr z) r.rep
 |dh =>
  cases ro with
  |true=>exact cq f r.rep
  |false=>exact ar.aK (λa z=>.inr z) r.rep
 |old=>cases ro <;> exact cq f r.rep
 |bor=>cases ro <;> exact cq f r.rep
theorem bp (he:PQ X C.z p e φ):PB X C (.Return (some e) pos) (λE β=>φ β λd k β'=>HB C.ro k d/\E.rt d β') :=
 ⟨λE E' β l q=>he.mono _ _ _ (λd k β' q=>⟨q.1,l.rt _ _ q.2⟩) q,(iq he.pe).pre λD σ H vO=>by obtain⟨Z,E,β,⟨own,s,n⟩,q,ok⟩:=vO;exact tQ.of he s q λd k β' v H' aH q o r=>ok.rt _ _ _ _ _ (o.sb n) (vE (C:=C.z) q.1 r) q.2⟩
end
abbrev eV:=bt->(List D->Kd->bt->Prop)->Prop
structure xM (X:Cx)(C:Cfg)(p:Bool)(tg iter:Expr)(ι:eV):Prop where
 mono:∀β R R',(∀d k β,R d k β->R' d k β)->ι β R->ι β R'
 pi:PI X tg iter λσ H R=>∃β own,SQ X C σ H β own/\ι β λds k β'=>∀J H' aH,Out X C σ H own p β' H' aH->AM X (av C (Wn aH) k) J ds H'->R J H'
section
variable {X:Cx}{C:Cfg}{tg e a b:Expr}{φ:aM}{φs:bI}{p:Bool}{pp pos:Pos}
def Ft (φ:aM):eV:=λβ R=>φ β λd k β'=>∃ds,d=.lst ds/\R ds k β'
theorem bU (h:PQ X C p e φ):xM X C p tg e (Ft φ) :=
 ⟨λβ R R' k q=>h.mono β _ _ (λd kd β' zI=>by obtain⟨ds,e,q⟩:=zI;exact⟨ds,e,k _ _ _ q⟩) q,(oP h.pe).pre λσ H R ⟨β,own,s,q⟩=>tQ.of h s q λd k β' v H1 az tD o1 r1=>by
  obtain⟨ds,e,q1⟩:=tD;subst e;obtain⟨a,vs,rfl,h1,n1,q2⟩:=r1.rep;exact⟨a,rfl,⟨vs,de.of h1⟩,q1 _ _ az o1 (lX h1 n1 q2)⟩⟩
def vL (φs:bI):eV:=λβ R=>φs β λds _ β'=>∃j:Int,ds=[.int j]/\-(2 ^ 62)<=j/\j<2 ^ 62/\R (j_ 0 j.toNat) .dh β'
def vK (φs:bI):eV:=λβ R=>φs β λds _ β'=>∃i j:Int,ds=[.int i,.int j]/\(-(2 ^ 62)<=i/\i<2 ^ 62/\-(2 ^ 62)<=j/\j<2 ^ 62)/\R (j_ i (j-i).toNat) .dh β'
theorem cD (hm:X.mg "range" = none) (ha:mY X C p [a] φs) (hg:Gl X "range" := by rfl) (hs:K5 [a] X.env=[(false,eval a X.env)]:=by rfl):xM X C p tg (.Call (.Name "range" pp) [a] [] pos) (vL φs) :=
 ⟨λβ R R' k q=>ha.mono β _ _ (λd kd β' zG=>by obtain⟨j,e,h1,h2,q⟩:=zG;exact⟨j,e,h1,h2,k _ _ _ q⟩) q,(p8 hg hm ha.pa hs).pre λσ H R ⟨β,own,s,q⟩=>oE.of ha s q λds ks β' vs H1 az zE o1 r1=>by
  obtain⟨j,e,h1,h2,q1⟩:=zE;subst e;obtain⟨x,rfl,hx⟩:=jS r1.ip;cases hx;exact⟨j,rfl,h1,h2,q1 _ _ az o1 jB⟩⟩
theorem ix (hm:X.mg "range" = none) (ha:mY X C p [a,b] φs) (hg:Gl X "range" := by rfl) (hs:K5 [a,b] X.env=[(false,eval a X.env),(false,eval b X.env)]:=by rfl) (DI:K5 [b] X.env=[(false,eval b X.env)]:=by rfl) :
  xM X C p tg (.Call (.Name "range" pp) [a,b] [] pos) (vK φs) :=
 ⟨λβ R R' k q=>ha.mono β _ _ (λd kd β' zD=>by obtain⟨i,j,e,h1,q⟩:=zD;exact⟨i,j,e,h1,k _ _ _ q⟩) q,(p7 hg hm ha.pa hs DI).pre λσ H R ⟨β,own,s,q⟩=>oE.of ha s q λds ks β' vs H1 az F0 o1 r1=>by
  obtain⟨i,j,e,h1,q1⟩:=F0;subst e;obtain⟨x,y,rfl,hx,hy⟩:=uj r1.ip;cases hx;cases hy;exact⟨i,j,rfl,h1,q1 _ _ az o1 jB⟩⟩
end
def v7 (γ:eh)(ψ:xK)(E:df)(ds:List D)(k:Kd)(β:bt):Prop:=∃I:Nat->bt->Prop,I 0 β/\(∀i d β,ds[i]?=some d->I i β->γ d (sk k d) β λβ1=>ψ (E.lp (I (i+1))) β1)/\∀β,I ds.length β->E.nx β
section
variable {X:Cx}{C:Cfg}{tg iter:Expr}{γ:eh}{T:List Nat}{ψ:xK}{ι:eV}{body:List Stmt}{pos:Pos}{p:Bool}
theorem v7.mono {E E':df}{ds:List D}{k:Kd}{β:bt}(hγ:∀d k β R R',(∀r,R r->R' r)->γ d k β R->γ d k β R')(hψ:∀E E' β,Le E E'->ψ E β->ψ E' β)(l:Le E E'):v7 γ ψ E ds k β->v7 γ ψ E' ds k β:=λ⟨I,h0,h1,h2⟩ =>
 ⟨I,h0,λi d β e q=>hγ d _ β _ _ (λβ1 q=>hψ {nx:=I (i+1),rt:=E.rt,bk:=E.nx,ct:=I (i+1)} {nx:=I (i+1),rt:=E'.rt,bk:=E'.nx,ct:=I (i+1)} β1 ⟨λ_ q=>q,l.rt,l.nx,λ_ q=>q⟩ q) (h1 i d β e q),λβ q=>l.nx _ (h2 β q)⟩
theorem wA {own aX:Nat->List Addr}{H H2:Hp}{k:Kd}(n:Sn (H,Wn own) H2 (Wn aX)):∀b,av C (Wn aX) k b->av C (Wn own) k b\/H b=none:=λb z=>by
 cases k with
 |own=>exact z.elim (λz=>(n.w b z).imp .inl id) λz=>.inl (.inr z)
 |dh=>exact z.elim (λz=>(n.w b z).imp .inl id) λz=>.inl (.inr z)
 |old=>exact n.w b z
 |bor=>exact z.elim
theorem c5 (hp:PassesOwn (model X.prog X.w) X.A X.env X.xe)(hc:X.calm=true)(hi:xM X C.z p tg iter ι)(hg:wG X C.z tg T γ)(hb:k6 X C body ψ)(hs:∀x,Mf iter X.env x=pure x:=by intro _;rfl):
  PB X C (.For tg iter body [] pos) (λE β=>ι β λds k β1=>hold k false/\v7 γ ψ E ds k β1) :=
 ⟨λE E' β l q=>hi.mono _ _ _ (λds k β1 q=>⟨q.1,q.2.mono hg.mono hb.mono l⟩) q,(rW hp hc hi.pi hg.pg hb.ps hs).pre λD σ H FY=>by
  obtain⟨Z,E,β,⟨own,s,n⟩,q,ok⟩:=FY;refine⟨β,own,s,hi.mono _ _ _ (λds k β1 ⟨hk,I,i0,i1,i2⟩ J H1 az o1 it=>?_) q⟩;have n':=n.trans o1.sn;have ig:∀b,Wn az b\/H1 b=none->av C.z (Wn az) k b\/H1 b=none:=λb z=>by
   cases k with
   |own=>exact z.imp .inl id
   |dh=>exact z.imp .inl id
   |old=>exact z
   |bor=>exact hk.elim
  have xa:=it (λb=>av C.z (Wn az) k b\/H1 b=none) λb z=>z;refine⟨λi m σ H=>i<=ds.length/\m=ds.length-i/\∃β,SB X C (H1,Wn az) σ H β/\I i β,⟨_,Lp _,rfl,β1,⟨az,o1.sq,Sn.refl⟩,i0⟩,?_⟩;rintro i m σ2 H2 ⟨hi,rfl,β2,⟨aX,s2,n2⟩,hl⟩;obtain⟨fL,zm⟩:=xa i H2 (n2.k.mono ig)
  by_cases eS:i<ds.length
  ·right
   have hd:ds[i]?=some ds[i]:=K9 eS;obtain⟨go,yl⟩:=fL _ hd;refine⟨go,λσ' H'=>∃β,SB X C (H1,Wn az) σ' H' β/\I (i+1) β,λσ' H' FW=>by obtain⟨β',uW,qu⟩:=FW;exact⟨_,by lia,eS,rfl,β',uW,qu⟩,λx H3 y=>?_⟩
   obtain⟨s3,r3⟩:=yl x H3 y;refine⟨aX,β2,_,_,s2.same s3,j8 (C:=C.z) (ar.aK (λb z=>wA (C:=C) n2 b (z.elim id λz=>z.elim)) r3),hg.mono _ _ _ _ _ (λβ4 q σ4 kh s4 w4 _=>?_) (i1 i _ β2 hd hl)⟩;refine⟨(H1,Wn az),_,β4,⟨kh,s4,fv (n2.same s3) w4⟩,q,⟨λσ5 H5 β5 pX q5=>⟨β5,pX,q5⟩,λσ5 H5 β5 d5 v5 pX r5 q5=>?_,λσ5 H5 β5 pX q5=>?_,λσ5 H5 β5 pX q5=>⟨β5,pX,q5⟩⟩⟩
   ·obtain⟨gc,s5,n5⟩:=pX;exact ok.rt _ _ _ _ _ ⟨gc,s5,n'.trans n5⟩ r5 q5
   ·obtain⟨gc,s5,n5⟩:=pX;exact ok.nx _ _ _ ⟨gc,s5,n'.trans n5⟩ q5
  ·left
   have e:i=ds.length:=by lia
   subst e;exact⟨zm (KZ _),ok.nx _ _ _ ⟨aX,s2,n'.trans n2⟩ (i2 β2 hl)⟩⟩
end
def startB (N:List Str)(ds:List D):bt:=ds.map (λd=>some (.val false d))++MI (N.length-ds.length) none
def fY (N:List Str)(ok:List Int->Prop)(ds:List D):bt:=some (.hand ok)::(ds.map (λd=>some (.val false d))++MI (N.length-(ds.length+1)) none)
section
variable {P:K3}{w:Lf}{K:PySem.W.Frag}{mg:Str->Option KR}{base:Heap}
theorem dZ {i n:Nat}{b:B}(h:(MI n (none:Option B))[i]?=some (some b)):False:=by
 rw[List.getElem?_replicate]at h
 split at h <;> cases h
theorem c7 {ds:List D}{n i:Nat}{b:B}(h:(ds.map (λd=>some (B.val false d))++MI n none)[i]?=some (some b)):∃d,ds[i]?=some d/\b=.val false d:=by
 by_cases hi:i<ds.length
 ·rw[LY (by simpa using hi),Lj]at h
  cases q:ds[i]? with
  |none=>rw[q]at h;cases h
  |some d=>rw[q]at h;cases h;exact⟨d,rfl,rfl⟩
 ·rw[LH (by simpa using hi)]at h
  exact(dZ h).elim
theorem fX {N:List Str}{vs:List V}{i:Nat}{v:V}(h:vs[i]?=some v):(start N vs)[i]?=some (some v):=by
 unfold start;rw[LY (by simpa using (Lr.mp h).1),Lj,h]
 rfl
theorem lq {N:List Str}{vs:List V}{ds:List D}{H:Hp}{ro:Bool}(r:ag P w (λ_=>False) H ds vs):bw P w ⟨H,λ_=>False,ro,λ_=>False⟩ (start N vs) H (startB N ds) (λ_=>[]):=by
 refine⟨?_,λi y d h=>?_,λi d h=>?_,λi ok h=>?_,λi a h=>(nomatch h),λi j a h=>(nomatch h),λi=>LO,Kp.refl,λ_ z=>z,λi y d h=>by obtain⟨d',e,e'⟩:=c7 h;cases e'⟩
 ·unfold startB start;simp[r.length]
 ·obtain⟨d',e,e'⟩:=c7 h;cases e';obtain⟨v,e1,e2⟩:=ag.get r e;exact⟨v,fX e1,ar.aK (λa z=>z.elim (λFT=>by obtain⟨_,q⟩:=FT;exact(nomatch q)) λz=>z) e2⟩
 ·obtain⟨d',e,e'⟩:=c7 h;cases e'
 ·obtain⟨d',e,e'⟩:=c7 h;cases e'
theorem Dz {x qual:Str}{st:Stmt}{f:Addr}{fd:LF}{N ps:List Str}{k:Nat}{F:FD}{ro:Bool}(G:ur K x qual st f fd)(S:aU N ps (aw st))(len:∀ds R,F ds R->ds.length=ps.length)
  (fN:∀(bX:KR) (A:LI) (outer:List Env) (s:KU) (H:Hp) (E:XK),bN k (A.deeper (NG qual (aw st) s.heap.objs.size f bX)) ->
   ∃ψ,k6 (gT dj P w K mg base N qual (aw st) f bX A outer s H E).mU ⟨H,λ_=>False,ro,λ_=>False⟩ (cg st) ψ/\∀ds R,F ds R->ψ {nx:=λ_=>R .bx,rt:=λd _=>R d} (startB N ds)) :
  aR P w K mg base dj (k+1) f fd ps (pP P w ro F):=by
 refine G.ok S (λvs H Q E h=>?_) (λbX A outer s H vs Q E hr h=>?_)
 ·obtain⟨ds,r,h⟩:=h;rw[r.length];exact len ds _ h
 ·obtain⟨ds,r,h⟩:=h;obtain⟨ψ,hb,hF⟩:=fN bX A outer s H E hr;refine⟨_,hb.ps,(H,Wn λ_=>[]),_,startB N ds,⟨λ_=>[],lq r,Sn.refl⟩,hF ds _ h,λσ H' β sb q=>?_,λσ H' β d v sb rr q=>?_,λ_ _ _ _ z=>z.elim,λ_ _ _ _ z=>z.elim⟩
  ·obtain⟨own,s',n'⟩:=sb;exact q _ H' (λb o e=>s'.kp.out b o e (λz=>z)) (cq (W:=λ_=>False) rfl rfl)
  ·obtain⟨own,s',n'⟩:=sb;exact q _ H' (λb o e=>s'.kp.out b o e (λz=>z)) rr
theorem pO {N:List Str}{ok:List Int->Prop}{h:Addr}{ns:List Int}{vs:List V}{ds:List D}{H:Hp}{ro:Bool}(hh:H h=some (.lst (ns.map V.int)))(ho:ok ns)(r:ag P w (λa=>a=h) H ds vs):
  bw P w ⟨H,(·=h),ro,λ_=>False⟩ (start N (.ref h::vs)) H (fY N ok ds) (λi=>if i=0 then [h] else []):=by
 have vm:∀{i:Nat} {a:Addr},a∈(if i=0 then [h] else ([]:List Addr))->i=0/\a=h:=λ{i a} q=>by
  by_cases e:i=0
  ·rw[if_pos e]at q;exact⟨e,by simpa using q⟩
  ·rw[if_neg e]at q;cases q
 have vY:∀{i:Nat} {b:B},(fY N ok ds)[i]?=some (some b)->(i=0/\b=.hand ok)\/∃j d,i=j+1/\ds[j]?=some d/\b=.val false d:=λ{i b} q=>by
  unfold fY at q;cases i with
  |zero=>simp at q;exact .inl ⟨rfl,q.symm⟩
  |succ i =>
   rw[Ms]at q;obtain⟨d,e,e'⟩:=c7 q;exact .inr ⟨i,d,rfl,e,e'⟩
 refine⟨?_,λi y d q=>?_,λi d q=>?_,λi qX q=>?_,λi a q=>?_,λi j a h1 h2=>?_,λi=>?_,Kp.refl,λ_ z=>z,λi y d q=>(vY q).elim (λFE=> by obtain⟨_,e⟩ := FE;cases e) (λFC=> by obtain⟨j,d',_,_,e'⟩ := FC;cases e')⟩
 ·unfold fY start;simp[r.length]
 ·rcases vY q with⟨_,e⟩|⟨j,d',rfl,e,e'⟩
  ·cases e
  ·cases e';obtain⟨v,e1,e2⟩:=ag.get r e;exact⟨v,fX (by simpa using e1),ar.aK (λa z=>z.elim (λFR=>by obtain⟨j,q⟩:=FR;exact(vm q).2) λz=>z.elim) e2⟩
 ·rcases vY q with⟨_,e⟩|⟨j,d',_,_,e'⟩
  ·cases e
  ·cases e'
 ·rcases vY q with⟨e0,e⟩|⟨j,d',_,_,e'⟩
  ·cases e;subst e0;exact⟨h,ns,fX rfl,hh,ho,rfl,.inr rfl⟩
  ·cases e'
 ·obtain⟨_,rfl⟩:=vm q;exact⟨by rw[hh];exact λz=>(nomatch z),λxs z=>(by rw[hh]at z;cases z),.inr rfl,λz=>z⟩
 ·rw[(vm h1).1,(vm h2).1]
 ·by_cases e:i=0
  ·simp[e]
  ·simp[e]
theorem yQ {x qual:Str}{st:Stmt}{f:Addr}{fd:LF}{N ps:List Str}{k:Nat}{F:FD}{ok:List Int->Prop}{ro:Bool}(G:ur K x qual st f fd)(S:aU N ps (aw st))(len:∀ds R,F ds R->ds.length+1=ps.length)
  (fN:∀(bX:KR) (A:LI) (outer:List Env) (s:KU) (H:Hp) (E:XK) (IO:Addr->Prop),bN k (A.deeper (NG qual (aw st) s.heap.objs.size f bX)) ->
   ∃ψ,k6 (gT dj P w K mg base N qual (aw st) f bX A outer s H E).mU ⟨H,IO,ro,λ_=>False⟩ (cg st) ψ/\∀ds R,F ds R->ψ {nx:=λ_=>False,rt:=λd β=>β[0]?=some (some (.hand ok))/\R d} (fY N ok ds)) :
  aR P w K mg base dj (k+1) f fd ps (fZ P w ok ro F):=by
 refine G.ok S (λvs H Q E h=>?_) (λbX A outer s H vs Q E hr h=>?_)
 ·obtain⟨h,vs',ds,ns,rfl,hh,ho,r,q⟩:=h;rw[Lm,r.length];exact len ds _ q
 ·obtain⟨h,vs',ds,ns,rfl,hh,ho,r,q⟩:=h;obtain⟨ψ,hb,hF⟩:=fN bX A outer s H E (·=h) hr;refine⟨_,hb.ps,(H,_),_,fY N ok ds,⟨_,pO hh ho r,Sn.refl⟩,hF ds _ q,λσ H' β sb z=>z.elim,λσ H' β d v sb rr ⟨b0,q⟩=>?_,λ_ _ _ _ z=>z.elim,λ_ _ _ _ z=>z.elim⟩;obtain⟨own,s',n'⟩:=sb;obtain⟨a,qb,g1,g2,g3,g4,g5⟩:=s'.i_ 0 ok b0;have ea:a=h:=g5.elim (λz=>(z h rfl).elim) λz=>z;subst ea;exact q v H' qb s'.kp s'.fQ g2 g3 rr
end
end L2.Q
namespace L2
open PySem PySem.Spec PySem.SeqAt PyProof.Rows
theorem mX.pre {X:Cx}{ifs:List Expr}{t t':TT}(h:mX X ifs t)(k:∀σ H Q,t' σ H Q->t σ H Q):mX X ifs t':=λpins s σ H Q I q=>h pins s σ H Q I (k σ H Q q)
section
end
section
end
section
variable {X:Cx}{e:Expr}{g:NK}{gs:List NK}{scope:MU}{N':List Str}{lk:List (Option Nat)}{tg:Addr->TG}{tt:Addr->TT}{wi:TI}
theorem mD {bM:Sem KR}{o:HO}{after:KR->Env->Sem Fin->Sem Fin}{ta:Addr->om}(L:Links X scope N' lk)(hc:X.calm=true)(hA:ou X bM o)
  (F:∀acc env,gQ e 0 g acc env (after acc env))
  (k9:∀a cl C s H ex,PG (aC X scope N' cl C s H ex) g.target (tg a)/\mX (aC X scope N' cl C s H ex) g.ifs (tt a)/\mO (aC X scope N' cl C s H ex) (after (.ref a) (aC X scope N' cl C s H ex).env) (ta a))
  {cl:List (Str×Addr)} (kL:∀x,(x,Lx)∈scope.names->∃c,cl.lookup x=some c) (l6:∀x c,cl.lookup x=some c->X.env.cells.lookup x=some c)
  {pins:List (Addr×Obj)} {σ:St} {s:KU} {Q:V->Hp->Prop} {uz:KR} {E:KR->KU->Prop} {RR:KR->Addr->Result->KU->Prop}
  (h:Ec X pins σ g.target (λJ H1=>∀a,H1 a=none->gC J (tg a) (tt a) (ta a) (λ_ H'=>Q (.ref a) H') (c6 lk σ) (upd H1 a o)) uz s)
  (hR:∀a H' C s',Inv X pins σ H' s'->dN X pins H' C->(∃m,s'.heap.Ns C m)->Q (.ref a) H'->RR (.ref a) C (.ok .next) s') :
  Ln (model X.prog X.w) X.A bM (λacc s₃=>Ln (model X.prog X.w) X.A (newFunctionEnv scope X.env.globals cl [] X.env.qual none .none (some X.env)) (λt_ s₄ =>
   Na (model X.prog X.w) X.A (.compStart e 0 uz acc {t_ with scope:=relabel scope X.env}) (RR acc t_.locals) s₄) E s₃) E s:=by
 obtain⟨it,fp,tn,J,H2,e1,I2,T,di,f2,hl⟩:=h;subst e1;refine hA.ok pins s σ H2 _ E I2 λa s3 ha hn hk I3=>?_;refine wpAny_newFunctionEnv L.kj (by intro y hy;simp at hy) (λh₁ nT nS=>?_) L.kind
 have CD:∀b∈fp,∃o,s3.heap.get? b=some o:=λb hb=>by
  obtain⟨ob,q,_⟩:=T.obj _ _ di b hb;exact⟨ob,hk b ob q⟩
 have Gx:∀b∈fp,b≠a:=λb hb=>by
  obtain⟨ob,q,_⟩:=T.obj _ _ di b hb;exact Lu (Ll (K8 q) ha)
 have f3:∀b∈fp,dN X pins (upd H2 a o) b:=λb hb=>⟨by rw[aj (Gx b hb)];exact(f2 b hb).1,(f2 b hb).2⟩
 have AE:∀b ob,s3.heap.get? b=some ob->h₁.get? b=some ob:=λb ob q=>nS.extBut b ob (Lu (K8 q)) (K4 _ q);have AD:h₁.Ns s3.heap.objs.size (λ_=>none):=nT;have I4:=lZ (t':=s3.toks+([]:List (Str×KR)).length) I3 L f3 CD kL l6 AD AE;obtain⟨g1,g2,g3⟩:=k9 a cl s3.heap.objs.size s3 (upd H2 a o) fp;have f4:∀b∈fp,dN (aC X scope N' cl s3.heap.objs.size s3 (upd H2 a o) fp) [] (upd H2 a o) b:=λb hb =>
  ⟨(f3 b hb).1,(I4.ok.wb b hb).1,I4.ok.kP b hb,.inl hb,(I4.ok.wb b hb).2,λp hp=>absurd (show p∈([]:List (Addr×Obj)) from hp) (by simp)⟩
 have uy:tn 0 h₁:=T.keep 0 _ _ di λb hb ob q=>AE b ob (hk b ob q);refine MK (iY (X:=aC X scope N' cl s3.heap.objs.size s3 (upd H2 a o) fp) rfl hc (F (.ref a) _) g1 g2 g3 T I4 uy f4 (hl a hn)) λr s' hr=>?_;obtain⟨rfl,σ',H',J',q⟩:=hr;have I5:Inv X pins σ H' s':=l0 (C:=s3.heap.objs.size) (h'':=s'.heap) I3 f3 J' (.refl ..);refine hR a H' s3.heap.objs.size s' I5 (I3.v3 (KZ _) J'.free) ?_ q;obtain⟨m,hm,_⟩:=J'.loc;exact⟨m,hm⟩
theorem sv {bM:Sem KR}{o:HO}{after:KR->Env->Sem Fin->Sem Fin}{ta:Addr->om}{pos:Pos}(L:Links X scope N' lk)(hc:X.calm=true)(hA:ou X bM o)
  (Gv:eval e X.env=comprehension e scope X.env pos bM false (eval g.iter X.env)) (vU:clausesOf e=g::gs)
  (F:∀acc env,gQ e 0 g acc env (after acc env)) (hi:PI X g.target g.iter wi)
  (k9:∀a cl C s H ex,PG (aC X scope N' cl C s H ex) g.target (tg a)/\mX (aC X scope N' cl C s H ex) g.ifs (tt a)/\mO (aC X scope N' cl C s H ex) (after (.ref a) (aC X scope N' cl C s H ex).env) (ta a))
  (hs:∀x,Mf g.iter X.env x=pure x) :
  PE X e (λσ H Q=>wi σ H λJ H1=>∀a,H1 a=none->gC J (tg a) (tt a) (ta a) (λ_ H'=>Q (.ref a) H') (c6 lk σ) (upd H1 a o)):=by
 intro pins s σ H Q I h;rw[Gv];obtain⟨cl,tJ,kL,l6⟩:=eT (env:=X.env) (scope:=scope) λx hx=>I.ok.has x (L.free x hx);refine wpAny_comprehension_free (use:=none) vU hs tJ L.kind L.names (bj (hi pins s σ H _ I h) λv s1 h1=>bj h1 λuz s2 h2=>?_);refine mD (RR:=λacc C=>compPost (model X.prog X.w) X.A X.xe none (EP X pins σ Q) acc C) L hc hA F k9 kL l6 h2 λa H' C s' I' f ⟨m,hm⟩ q=>?_;exact⟨m,hm,λh' qq=>⟨.ref a,H',I'.sameBut f qq,rfl,q⟩⟩
theorem mC {bM:Sem KR}{o:Addr->HO}{after:KR->Env->Sem Fin->Sem Fin}{ta:Addr->om}(L:Links X scope N' lk)(hc:X.calm=true)(hA:∀(pins:List (Addr×Obj)) (s:KU) (σ:St) (H:Hp) (Q:KR->KU->Prop) (E:KR->KU->Prop),Inv X pins σ H s->(∀a s',s.heap.objs.size<=a->H a=none->(∀b o,s.heap.get? b=some o->s'.heap.get? b=some o)->Inv X pins σ (upd H a (o a)) s'->Q (.ref a) s')->Ln (model X.prog X.w) X.A bM Q E s)
  (F:∀acc env,gQ e 0 g acc env (after acc env))
  (k9:∀a cl C s H ex,PG (aC X scope N' cl C s H ex) g.target (tg a)/\mX (aC X scope N' cl C s H ex) g.ifs (tt a)/\mO (aC X scope N' cl C s H ex) (after (.ref a) (aC X scope N' cl C s H ex).env) (ta a))
  {cl:List (Str×Addr)} (kL:∀x,(x,Lx)∈scope.names->∃c,cl.lookup x=some c) (l6:∀x c,cl.lookup x=some c->X.env.cells.lookup x=some c)
  {pins:List (Addr×Obj)} {σ:St} {s:KU} {Q:V->Hp->Prop} {uz:KR} {E:KR->KU->Prop} {RR:KR->Addr->Result->KU->Prop}
  (h:Ec X pins σ g.target (λJ H1=>∀a,H1 a=none->gC J (tg a) (tt a) (ta a) (λ_ H'=>Q (.ref a) H') (c6 lk σ) (upd H1 a (o a))) uz s)
  (hR:∀a H' C s',Inv X pins σ H' s'->dN X pins H' C->(∃m,s'.heap.Ns C m)->Q (.ref a) H'->RR (.ref a) C (.ok .next) s') :
  Ln (model X.prog X.w) X.A bM (λacc s₃=>Ln (model X.prog X.w) X.A (newFunctionEnv scope X.env.globals cl [] X.env.qual none .none (some X.env)) (λt_ s₄ =>
   Na (model X.prog X.w) X.A (.compStart e 0 uz acc {t_ with scope:=relabel scope X.env}) (RR acc t_.locals) s₄) E s₃) E s:=by
 obtain⟨it,fp,tn,J,H2,e1,I2,T,di,f2,hl⟩:=h;subst e1;refine hA pins s σ H2 _ E I2 λa s3 ha hn hk I3=>?_;refine wpAny_newFunctionEnv L.kj (by intro y hy;simp at hy) (λh₁ nT nS=>?_) L.kind
 have CD:∀b∈fp,∃o,s3.heap.get? b=some o:=λb hb=>by
  obtain⟨ob,q,_⟩:=T.obj _ _ di b hb;exact⟨ob,hk b ob q⟩
 have Gx:∀b∈fp,b≠a:=λb hb=>by
  obtain⟨ob,q,_⟩:=T.obj _ _ di b hb;exact Lu (Ll (K8 q) ha)
 have f3:∀b∈fp,dN X pins (upd H2 a (o a)) b:=λb hb=>⟨by rw[aj (Gx b hb)];exact(f2 b hb).1,(f2 b hb).2⟩
 have AE:∀b ob,s3.heap.get? b=some ob->h₁.get? b=some ob:=λb ob q=>nS.extBut b ob (Lu (K8 q)) (K4 _ q);have AD:h₁.Ns s3.heap.objs.size (λ_=>none):=nT;have I4:=lZ (t':=s3.toks+([]:List (Str×KR)).length) I3 L f3 CD kL l6 AD AE;obtain⟨g1,g2,g3⟩:=k9 a cl s3.heap.objs.size s3 (upd H2 a (o a)) fp;have f4:∀b∈fp,dN (aC X scope N' cl s3.heap.objs.size s3 (upd H2 a (o a)) fp) [] (upd H2 a (o a)) b:=λb hb =>
  ⟨(f3 b hb).1,(I4.ok.wb b hb).1,I4.ok.kP b hb,.inl hb,(I4.ok.wb b hb).2,λp hp=>absurd (show p∈([]:List (Addr×Obj)) from hp) (by simp)⟩
 have uy:tn 0 h₁:=T.keep 0 _ _ di λb hb ob q=>AE b ob (hk b ob q);refine MK (iY (X:=aC X scope N' cl s3.heap.objs.size s3 (upd H2 a (o a)) fp) rfl hc (F (.ref a) _) g1 g2 g3 T I4 uy f4 (hl a hn)) λr s' hr=>?_;obtain⟨rfl,σ',H',J',q⟩:=hr;have I5:Inv X pins σ H' s':=l0 (C:=s3.heap.objs.size) (h'':=s'.heap) I3 f3 J' (.refl ..);refine hR a H' s3.heap.objs.size s' I5 (I3.v3 (KZ _) J'.free) ?_ q;obtain⟨m,hm,_⟩:=J'.loc;exact⟨m,hm⟩
theorem su {bM:Sem KR}{o:Addr->HO}{after:KR->Env->Sem Fin->Sem Fin}{ta:Addr->om}{pos:Pos}(L:Links X scope N' lk)(hc:X.calm=true)(hA:∀(pins:List (Addr×Obj)) (s:KU) (σ:St) (H:Hp) (Q:KR->KU->Prop) (E:KR->KU->Prop),Inv X pins σ H s->(∀a s',s.heap.objs.size<=a->H a=none->(∀b o,s.heap.get? b=some o->s'.heap.get? b=some o)->Inv X pins σ (upd H a (o a)) s'->Q (.ref a) s')->Ln (model X.prog X.w) X.A bM Q E s)
  (Gv:eval e X.env=comprehension e scope X.env pos bM false (eval g.iter X.env)) (vU:clausesOf e=g::gs)
  (F:∀acc env,gQ e 0 g acc env (after acc env)) (hi:PI X g.target g.iter wi)
  (k9:∀a cl C s H ex,PG (aC X scope N' cl C s H ex) g.target (tg a)/\mX (aC X scope N' cl C s H ex) g.ifs (tt a)/\mO (aC X scope N' cl C s H ex) (after (.ref a) (aC X scope N' cl C s H ex).env) (ta a))
  (hs:∀x,Mf g.iter X.env x=pure x) :
  PE X e (λσ H Q=>wi σ H λJ H1=>∀a,H1 a=none->gC J (tg a) (tt a) (ta a) (λ_ H'=>Q (.ref a) H') (c6 lk σ) (upd H1 a (o a))):=by
 intro pins s σ H Q I h;rw[Gv];obtain⟨cl,tJ,kL,l6⟩:=eT (env:=X.env) (scope:=scope) λx hx=>I.ok.has x (L.free x hx);refine wpAny_comprehension_free (use:=none) vU hs tJ L.kind L.names (bj (hi pins s σ H _ I h) λv s1 h1=>bj h1 λuz s2 h2=>?_);refine mC (RR:=λacc C=>compPost (model X.prog X.w) X.A X.xe none (EP X pins σ Q) acc C) L hc hA F k9 kL l6 h2 λa H' C s' I' f ⟨m,hm⟩ q=>?_;exact⟨m,hm,λh' qq=>⟨.ref a,H',I'.sameBut f qq,rfl,q⟩⟩
end
end L2
namespace L2.Q
open PySem PySem.Spec PySem.SeqAt PyProof.Rows
def HC:Option B->Option B
 |some (.own d)=>some (.val false d)
 |some (.shl _ d)=>some (.val false d)
 |b=>b
def cW (lk:List (Option Nat))(β:bt):bt:=lk.map λl=>match l with|some j=>(match β[j]? with|some b=>HC b|none=>none)|none=>none
def DH:Option (Option B)->Bool
 |some (some (.hand _))=>true
 |_=>false
def aV (lk:List (Option Nat))(β:bt)(own:Nat->List Addr)(i:Nat):List Addr:=match lk[i]? with
 |some (some j)=>if DH β[j]?=true then own j else []
 |_=>[]
def eR:bt->bt->Prop
 |[],_=>True
 |some (.hand ok)::a,c=>c.head?=some (some (.hand ok))/\eR a c.tail
 |_::a,c=>eR a c.tail
theorem eR.get:∀{a c:bt} {i:Nat} {ok:List Int->Prop},eR a c->a[i]?=some (some (.hand ok))->c[i]?=some (some (.hand ok))
 |[],_,_,_,_,e=>by simp at e
 |x::a,c,0,ok,h,e=>by
  simp at e;subst e;rw[<- List.head?_eq_getElem?];exact h.1
 |x::a,c,i+1,ok,h,e=>by
  have h':eR a c.tail:=by
   cases x with
   |none=>exact h
   |some x=>cases x <;> first|exact h|exact h.2
  have:=eR.get (i:=i) h' (by simpa using e)
  rwa [List.getElem?_tail]at this
section
variable {P:K3}{w:Lf}{C:Cfg}{σ σ':St}{H H' H1:Hp}{β βi:bt}{own b5:Nat->List Addr}{lk:List (Option Nat)}{a:Addr}
theorem bq {i:Nat}{c:Addr}(h:c∈aV lk β own i):∃j,lk[i]?=some (some j)/\DH β[j]?=true/\c∈own j:=by
 unfold aV at h
 split at h
 ·next j e =>
  by_cases q:DH β[j]?=true
  ·rw[if_pos q]at h;exact⟨j,e,q,h⟩
  ·rw[if_neg q]at h;cases h
 ·cases h
theorem aJ:∀c,Wn (aV lk β own) c->Wn own c:=λc ⟨i,h⟩=>let ⟨j,_,_,h⟩:=bq h;⟨j,h⟩
theorem d8 {i j:Nat}{v:V}(h:lk[i]?=some (some j))(e:σ[j]?=some (some v)):(c6 lk σ)[i]?=some (some v):=by
 unfold c6;rw[Lj,h];simp only[N3];rw[e]
theorem eJ {i:Nat}{b:B}(h:(cW lk β)[i]?=some (some b)):∃j b',lk[i]?=some (some j)/\β[j]?=some (some b')/\HC (some b')=some b:=by
 unfold cW at h;rw[Lj]at h;cases q:lk[i]? with
 |none=>rw[q]at h;cases h
 |some l =>
  rw[q]at h;cases l with
  |none=>cases h
  |some j =>
   simp only[N3]at h;cases q2:β[j]? with
   |none=>rw[q2]at h;cases h
   |some b2 =>
    rw[q2]at h;simp only[OA]at h;cases b2 with
    |none=>cases h
    |some b'=>exact⟨j,b',rfl,q2,h⟩
theorem bw.enter (s:bw P w C σ H β own)(ha:H a=none)(inj:∀(i i' j:Nat),lk[i]?=some (some j)->lk[i']?=some (some j)->i=i'):
  bw P w (C.u λc=>c=a) (c6 lk σ) (upd H a (.lst [])) (cW lk β) (aV lk β own):=by
 have sm:ay H (upd H a (.lst [])):=ay.new ha;have na:∀{i c},c∈own i->c≠a:=λ{i c} hc z=>(s.dm i c hc).1 (by rw[z];exact ha)
 have gr:∀k,∀c,fg (C.u λc=>c=a) (Wn (aV lk β own)) k c->fg C (Wn own) k c\/H c=none:=λk c z=>by
  rcases z with z|z
  ·exact .inl (.inl (g_ aJ k c z))
  ·exact .inr (by rw[z];exact ha)
 refine⟨by unfold cW c6;simp,λi y d e=>?_,λi d e=>?_,λi ok e=>?_,λi c h=>?_,λi i' c h1 h2=>?_,λi=>?_,s.kp.trans sm.kp,λc z e=>s.fQ c z (sm.free e),λi y d e=>by
  obtain⟨j,b',e1,e2,e3⟩:=eJ e;cases b' <;> cases e3⟩
 ·obtain⟨j,b',e1,e2,e3⟩:=eJ e;cases b' with
  |val y' d' =>
   cases e3;obtain⟨v,h1,h2⟩:=s.val j y d e2;exact⟨v,d8 e1 h1,(ar.grow (gr _) h2).same sm⟩
  |own d' =>
   cases e3;obtain⟨v,h1,h2,h3⟩:=s.ow j d e2;refine⟨v,d8 e1 h1,ar.same sm (h2.rep λc hc z=>?_)⟩;rcases z with z|z
   ·obtain⟨i',cf⟩:=z;obtain⟨j',q1,q2,q3⟩:=bq cf;have:=s.iU j j' c hc q3;subst this;rw[e2]at q2;cases q2
   ·exact na hc z
  |hand ok=>cases e3
  |shl y' d' =>
   cases e3;obtain⟨v,h1,h2,h3⟩:=s.shl j y' d e2;refine⟨v,d8 e1 h1,ar.same sm (h2.rep (λc hc z=>?_) λds vs r=>ag.grow (λc z=>?_) r)⟩
   ·rcases z with z|z
    ·obtain⟨i',cf⟩:=z;obtain⟨j',q1,q2,q3⟩:=bq cf;have:=s.iU j j' c hc q3;subst this;rw[e2]at q2;cases q2
    ·exact na hc z
   ·rcases gr _ c z with z|z
    ·refine .inl ?_;rcases z with z|z
     ·cases y' with
      |true=>exact .inl (.inl z)
      |false=>exact .inl z
     ·exact .inr z
    ·exact .inr z
 ·obtain⟨j,b',e1,e2,e3⟩:=eJ e;cases b' <;> cases e3
 ·obtain⟨j,b',e1,e2,e3⟩:=eJ e;cases b' with
  |val y' d'=>cases e3
  |own d'=>cases e3
  |shl y d=>cases e3
  |hand qX =>
   cases e3;obtain⟨h,ns,h1,h2,h3,h4,h5⟩:=s.i_ j ok e2;refine⟨h,ns,d8 e1 h1,sm _ _ h2,h3,?_,h5⟩;unfold aV;rw[e1];simp only;rw[e2];exact(if_pos rfl).trans h4
 ·obtain⟨j,q1,q2,q3⟩:=bq h;obtain⟨g1,g2,g3,g4⟩:=s.dm j c q3;rw[aj (na q3)];exact⟨g1,g2,g3,na q3⟩
 ·obtain⟨j,q1,q2,q3⟩:=bq h1;obtain⟨j',Hn,Kv,I_⟩:=bq h2;have:=s.iU j j' c q3 I_;subst this;exact inj _ _ _ q1 Hn
 ·unfold aV
  split
  ·next j e =>
   split
   ·exact s.lJ j
   ·exact LO
  ·exact LO
theorem bw.yh {o:HO}(s:bw P w (C.u λc=>c=a) σ H β own){oa:HO}(ha:H a=some oa)(ht:∀xs,oa≠.tup xs)(h0:C.H0 a=none):bw P w (C.u λc=>c=a) σ (upd H a o) β own:=by
 have k:Kp (·=a) H (upd H a o):=iJ ha ht;have na:∀{i c},c∈own i->c≠a:=λ{i c} hc=>(s.dm i c hc).2.2.2;refine⟨s.len,λi y d e=>let ⟨v,h1,h2⟩:=s.val i y d e;⟨v,h1,h2.keep (k.mono λc z=>.inr z)⟩,λi d e=>let ⟨v,h1,h2,h3⟩:=s.ow i d e;⟨v,h1,h2.keep k.tup (λc hc oc ec=>k.out c oc ec (na hc)),h3⟩,
  λi ok e=>?_,λi c h=>?_,s.iU,s.lJ,⟨λc oc z n=>k.out c oc (s.kp.out c oc z n) λq=>?_,λc xs z=>k.tup c xs (s.kp.tup c xs z)⟩,λc z=>?_,λi y d e=>let ⟨v,h1,h2,h3⟩:=s.shl i y d e;⟨v,h1,h2.map (λc hc oc ec=>k.out c oc ec (na hc)) (λ_ _ r=>r.keep (k.mono λc z=>.inr z)),h3⟩⟩
 ·obtain⟨h,ns,h1,h2,h3,h4,h5⟩:=s.i_ i ok e;exact⟨h,ns,h1,k.out h _ h2 (na (by rw[h4];simp)),h3,h4,h5⟩
 ·rw[aj (na h)];exact s.dm i c h
 ·rw[q,h0]at z;cases z
 ·by_cases q:c=a
  ·rw[q,ao];exact λz=>(nomatch z)
  ·rw[aj q];exact s.fQ c z
theorem bw.leave (s:bw P w C σ H1 β own)(i:bw P w (C.u λc=>c=a) σ' H' βi b5)(n:Sn (H1,Wn (aV lk β own)) H' (Wn b5))(le:∀c,Wn b5 c->Wn (aV lk β own) c)
  (hh:eR (cW lk β) βi) (hσ:∀(j:Nat) (ok:List Int->Prop) (i:Nat),β[j]?=some (some (B.hand ok))->lk[i]?=some (some j)->σ'[i]?=(c6 lk σ)[i]?):bw P w C σ H' β own:=by
 have off:∀{j c},c∈own j->¬ Wn (aV lk β own) c->∀o,H1 c=some o->H' c=some o:=λ{j c} hc nw o e=>n.k.out c o e λz=>z.elim nw λz=>(s.dm j c hc).1 z;have Ce:∀{j c},c∈own j->DH β[j]?=false->¬ Wn (aV lk β own) c:=λ{j c} hc q tu=>by
  obtain⟨i',cf⟩:=tu;obtain⟨j',q1,q2,q3⟩:=bq cf;have:=s.iU j j' c hc q3;subst this;rw[q]at q2;cases q2
 have hN:∀(j:Nat) (ok:List Int->Prop),β[j]?=some (some (B.hand ok))->∃a ns,σ[j]?=some (some (V.ref a))/\H' a=some (.lst (ns.map V.int))/\ok ns/\own j=[a]/\((∀b,¬ C.IO b)\/C.IO a):=λj ok e=>by
  obtain⟨h,ns,h1,h2,h3,h4,h5⟩:=s.i_ j ok e
  by_cases q:Wn (aV lk β own) h
  ·obtain⟨i',cf⟩:=q;obtain⟨j',q1,q2,q3⟩:=bq cf;have:=s.iU j j' h (by rw[h4];simp) q3
   subst this;have eB:(cW lk β)[i']?=some (some (.hand ok)):=by
    unfold cW;rw[Lj,q1];simp only[N3];rw[e];rfl
   obtain⟨h',qb,g1,g2,g3,g4,g5⟩:=i.i_ i' ok (hh.get eB);rw[hσ j ok i' e q1,d8 q1 h1]at g1;cases g1;exact⟨h,qb,h1,g2,g3,h4,h5⟩
  ·exact⟨h,ns,h1,off (by rw[h4];simp) q _ h2,h3,h4,h5⟩
 refine⟨s.len,λj y d e=>?_,λj d e=>?_,hN,λj c hc=>?_,s.iU,s.lJ,i.kp,i.fQ,λj y d e=>by
  obtain⟨v,h1,h2,h3⟩:=s.shl j y d e;refine⟨v,h1,h2.map (λc hc o eo=>off hc (Ce hc (by rw[e];rfl)) o eo) (λds vs r=>?_),h3⟩
  have g:ag P w (λc=>fg C (Wn own) (yk y) c\/H1 c=none) H1 ds vs:=ag.grow (λc z=>z) r;refine ag.aK (λc z=>.inl z) (g.keep (n.k.mono λc z=>z.imp (λz=>?_) id));cases y with
  |true=>exact .inl (.inl (aJ c z))
  |false=>exact .inl (aJ c z)⟩
 ·obtain⟨v,h1,h2⟩:=s.val j y d e;have g:ar P w (λc=>fg C (Wn own) (yk y) c\/H1 c=none) H1 d v:=ar.grow (λc z=>z) h2;refine⟨v,h1,ar.aK (λc z=>.inl z) (g.keep (n.k.mono λc z=>z.imp (λz=>?_) id))⟩;cases y with
  |true=>exact .inl (.inl (aJ c z))
  |false=>exact .inl (aJ c z)
 ·obtain⟨v,h1,h2,h3⟩:=s.ow j d e;exact⟨v,h1,h2.keep n.k.tup (λc hc o eo=>off hc (Ce hc (by rw[e];rfl)) o eo),h3⟩
 ·obtain⟨g1,g2,g3,g4⟩:=s.dm j c hc
  by_cases q:Wn (aV lk β own) c
  ·obtain⟨i',cf⟩:=q;obtain⟨j',q1,q2,q3⟩:=bq cf;have:=s.iU j j' c hc q3;subst this;cases e:β[j]? with
   |none=>rw[e]at q2;cases q2
   |some b =>
    rw[e]at q2;cases b with
    |none=>cases q2
    |some b =>
     cases b with
     |val y d=>cases q2
     |own d=>cases q2
     |shl y d=>cases q2
     |hand ok =>
      obtain⟨h,ns,k1,k2,k3,k4,k5⟩:=hN j ok e;rw[k4]at hc;rw[K_.mp hc]at g3 g4 ⊢
      rw[k2];exact⟨λz=>(nomatch z),λxs z=>(by cases z),g3,g4⟩
  ·cases e:H1 c with
   |none=>exact absurd e g1
   |some o=>rw[off hc q o e];exact⟨λz=>(nomatch z),λxs z=>g2 xs (by rw[e];exact z),g3,g4⟩
end
def AV:bb:=λβ R=>R true β
theorem rZ {X:Cx}{C:Cfg}:mX X [] (j2 X C true AV):=u9.pre λσ H Q ⟨β,own,s,q⟩=>q H own (Out.refl s _)
theorem rY {X:Cx}{C:Cfg}{p:Bool}{c:Expr}{τ:bb}(h:pH X C p c τ):mX X [c] (j2 X C p τ):=u7 h.pt
def jy (γ:eh)(τ:bb)(φ:aM)(ds:List D)(k:Kd)(β0:bt)(K:List D->Prop):Prop:=∃I:Nat->bt->List D->Prop,I 0 β0 [] /\
 (∀i d β o,ds[i]?=some d->I i β o->γ d (sk k d) β λβ1=>τ β1 λt β2=>if t=true then φ β2 λx kx β3=>Ay kx x/\o.length<Lk/\I (i+1) β3 (o++[x]) else I (i+1) β2 o)/\∀β o,I ds.length β o->eR β0 β/\K o
theorem jy.mono {γ:eh}{τ:bb}{φ:aM}{ds:List D}{k:Kd}{β0:bt}{K K':List D->Prop}(h:∀o,K o->K' o)(q:jy γ τ φ ds k β0 K):jy γ τ φ ds k β0 K':=let ⟨I,h0,h1,h2⟩:=q;⟨I,h0,h1,λβ o z=>⟨(h2 β o z).1,h _ (h2 β o z).2⟩⟩
section
variable {X:Cx}{C:Cfg}{lk:List (Option Nat)}{γ:eh}{τ:bb}{φ:aM}{T:List Nat}{pc pe:Bool}
theorem qF {σ:St}{H1:Hp}{β:bt}{own:Nat->List Addr}{a:Addr}{J:It}{ds:List D}{k:Kd}{K:List D->Prop}{End:Hp->Prop}
  (γm:∀d k β R R',(∀r,R r->R' r)->γ d k β R->γ d k β R') (τm:∀β R R',(∀d β,R d β->R' d β)->τ β R->τ β R') (φm:∀β R R',(∀d k β,R d k β->R' d k β)->φ β R->φ β R')
  (inj:∀(i i' j:Nat),lk[i]?=some (some j)->lk[i']?=some (some j)->i=i') (hT:∀i∈T,∀j,lk[i]?≠some (some j))
  (s1:SQ X C σ H1 β own) (ha:H1 a=none) {hp:Bool} (HI:hp=true->(pc&&pe)=true) (hk:hold k hp) (it:AM X (av C (Wn own) k) J ds H1) (q:jy γ τ φ ds k (cW lk β) K)
  (fin:∀o H',K o->Out X C σ H1 own (pc&&pe) β H' own->KV X.prog X.w C (H1,Wn own) own H' .own (.lst o) (.ref a)->End H') :
  gC J (λv σ H Q=>∃own β d k,SQ X (C.u λc=>c=a) σ H β own/\Rp X (fg (C.u λc=>c=a) (Wn own) k) H d v/\γ d k β λβ'=>∀σ' aH,SQ X (C.u λc=>c=a) σ' H β' aH->(∀a,Wn aH a->Wn own a)->(∀j,j∉T->σ'[j]?=σ[j]?)->Q σ' H)
   (j2 X (C.u λc=>c=a) pc τ) (λN σ H=>tQ X (C.u λc=>c=a) pe φ σ H λv H1=>∃xs,H1 a=some (.lst xs)/\xs.length<Lk/\N σ (upd H1 a (.lst (xs++[v]))))
   (λ_ H'=>End H') (c6 lk σ) (upd H1 a (.lst [])):=by
 obtain⟨I,i0,i1,i2⟩:=q;have h0:C.H0 a=none:=LN λz=>s1.fQ a z ha;have sm:ay H1 (upd H1 a (.lst [])):=ay.new ha;have BV:∀c,Wn (aV lk β own) c->c≠a:=λc z e=>by
  obtain⟨j,hj⟩:=aJ c z;exact(s1.dm j c hj).1 (by rw[e];exact ha)
 let S:Nat->St->Hp->Prop:=λi σ' H'=>∃βi b5 vs o A,SQ X (C.u λc=>c=a) σ' H' βi b5/\Sn (H1,Wn (aV lk β own)) H' (Wn b5)/\(∀c,Wn b5 c->Wn (aV lk β own) c)/\H' a=some (.lst vs)/\aI X.prog X.w H' o vs A/\A.Nodup/\(∀c∈A,H1 c=none/\c≠a) /\
  ((pc&&pe)=true->ay H1 H')/\(∀j,j∉T->σ'[j]?=(c6 lk σ)[j]?)/\I i βi o
 have W':Addr->Prop:=λb=>av C (Wn own) k b\/H1 b=none;have xa:=it (λb=>av C (Wn own) k b\/H1 b=none) λb z=>z;have kI:∀{H':Hp} {b5:Nat->List Addr},Sn (H1,Wn (aV lk β own)) H' (Wn b5)->((pc&&pe)=true->ay H1 H')->Kp (λb=>av C (Wn own) k b\/H1 b=none) H1 H':=λn pu=>by
  cases k with
  |own=>exact n.k.mono λb z=>z.imp (λz=>.inl (aJ b z)) id
  |dh=>exact n.k.mono λb z=>z.imp (λz=>.inl (aJ b z)) id
  |old=>exact n.k.mono λb z=>z.imp (aJ b) id
  |bor =>
   cases hp with
   |false=>exact hk.elim
   |true=>exact(pu (HI rfl)).kp.mono λb z=>.inr z
 refine⟨λi m σ' H'=>i<=ds.length/\m=ds.length-i/\S i σ' H',⟨_,Lp _,rfl,cW lk β,aV lk β own,[],[],[],s1.enter ha inj,⟨λb z=>.inl z,sm.kp,λb z e=>z (sm.free e)⟩,λ_ z=>z,ao,⟨rfl,rfl⟩,LO,λc hc=>(nomatch hc),λ_=>sm,λ_ _=>rfl,i0⟩,?_⟩;rintro i m σ2 H2 ⟨hi,rfl,βi,b5,vs,o,A,sq,sn,le,zV,os,nd,nw,pu,st,hl⟩;obtain⟨fL,zm⟩:=xa i H2 (kI sn pu)
 by_cases eS:i<ds.length
 ·right
  have hd:ds[i]?=some ds[i]:=K9 eS;obtain⟨go,yl⟩:=fL _ hd;refine⟨go,λσ' H'=>S (i+1) σ' H',λσ' H' h=>⟨_,by omega,eS,rfl,h⟩,λx H3 y=>?_⟩
  obtain⟨s3,r3⟩:=yl x H3 y;have G0:∀{b5:Nat->List Addr},(∀c,Wn b5 c->Wn (aV lk β own) c)->∀c,fg (C.u λc=>c=a) (Wn b5) k c->av C (Wn own) k c\/H1 c=none:=λle c z=>z.elim (λz=>.inl (g_ (λc z=>aJ c (le c z)) k c z)) λz=>.inr (by rw[z];exact ha)
  refine⟨b5,βi,_,_,sq.same s3,j8 (ar.aK (G0 le) r3),γm _ _ _ _ _ (λβ4 q σ4 kh s4 w4 t4=>?_) (i1 i _ βi o hd hl)⟩;have Ax:∀c,Wn kh c->Wn (aV lk β own) c:=λc z=>le c (w4 c z);refine⟨β4,kh,s4,τm _ _ _ (λt β5 q H5 gc o5=>?_) q⟩;have wX:∀c,Wn gc c->Wn (aV lk β own) c:=λc z=>Ax c (o5.le c z);have jA:∀c,c∈a::A->∀oc,H2 c=some oc->H5 c=some oc:=λc hc oc e=>by
   refine o5.sn.k.out c oc (s3 c oc e) λz=>?_;rcases z with z|z
   ·rcases K6.mp hc with rfl|hc
    ·exact BV _ (Ax _ z) rfl
    ·obtain⟨j,hj⟩:=aJ c (Ax c z);exact(s1.dm j c hj).1 (nw c hc).1
   ·exact absurd ((s3 c oc e).symm.trans z) (λz=>(nomatch z))
  have Jk:∀b xs,H2 b=some (.tup xs)->H5 b=some (.tup xs):=λb xs e=>o5.sn.k.tup b xs (s3 b _ e);have Aw:aI X.prog X.w H5 o vs A:=os.keep Jk λc hc oc e=>jA c (by simp[hc]) oc e
  have As:Sn (H1,Wn (aV lk β own)) H5 (Wn gc):=(fv (sn.same s3) w4).trans o5.sn;have Bq:(pc&&pe)=true->ay H1 H5:=λz=>((pu z).trans s3).trans (o5.pu (uk z)).1;have uy:∀j,j∉T->σ4[j]?=(c6 lk σ)[j]?:=λj hj=>(t4 j hj).trans (st j hj);cases t with
  |false=>exact⟨β5,gc,vs,o,A,o5.sq,As,wX,jA a (by simp) _ zV,Aw,nd,nw,Bq,uy,q⟩
  |true =>
   refine⟨β5,gc,o5.sq,φm _ _ _ (λxd kx β6 ⟨f,hz,q⟩ v H6 yG o6 r6=>?_) q⟩;obtain⟨B',r1,r2,EW⟩:=r6.fl f;have tK:H5 a=some (.lst vs):=jA a (by simp) _ zV
   have w9:∀c,c∈a::A->∀oc,H5 c=some oc->H6 c=some oc:=λc hc oc e=>by
    refine o6.sn.k.out c oc e λz=>?_;rcases z with z|z
    ·rcases K6.mp hc with rfl|hc
     ·exact BV _ (wX _ z) rfl
     ·obtain⟨j,hj⟩:=aJ c (wX c z);exact(s1.dm j c hj).1 (nw c hc).1
    ·exact absurd (e.symm.trans z) (λz=>(nomatch z))
   have kM:H6 a=some (.lst vs):=w9 a (by simp) _ tK
   have Av:aI X.prog X.w H6 o vs A:=Aw.keep o6.sn.k.tup λc hc oc e=>w9 c (by simp[hc]) oc e
   have Jc:∀c∈A,c≠a:=λc hc=>(nw c hc).2;have Hw:∀c∈B',c≠a:=λc hc z=>by rw[z]at hc;exact absurd (tK.symm.trans (EW a hc).1) (λz=>(nomatch z))
   have kt:∀b xs,H6 b=some (.tup xs)->upd H6 a (.lst (vs++[v])) b=some (.tup xs):=λb xs z=>by rw[aj (λz'=>by rw[z',kM]at z;cases z)];exact z
   refine⟨vs,kM,by rw[Av.length];exact hz,β6,yG,vs++[v],o++[xd],A++B',o6.sq.yh kM (λxs z=>by cases z) h0,?_,λc z=>wX c (o6.le c z),ao,?_,?_,λc hc=>?_,λz=>?_,uy,q⟩
   ·have m:=As.trans o6.sn;refine⟨m.w,m.k.trans ((iJ kM (λxs z=>by cases z)).mono λb z=>.inr (by rw[z];exact ha)),λb z e=>?_⟩
    by_cases hb:b=a
    ·rw[hb,ao]at e;cases e
    ·rw[aj hb]at e;exact m.d b z e
   ·exact(Av.keep kt λc hc oc e=>by rw[aj (Jc c hc)];exact e).append (aI.one (r1.keep kt λc hc oc e=>by rw[aj (Hw c hc)];exact e))
   ·refine Nz.mpr ⟨nd,r2,λx hx y hy e=>?_⟩;subst e;have:=(EW x hy).1;exact(Aw.jf x hx).1 this
   ·rcases Lv.mp hc with hc|hc
    ·exact nw c hc
    ·exact⟨As.free (EW c hc).1,Hw c hc⟩
   ·refine λb ob e=>?_;rw[aj (λz'=>by rw[z',ha]at e;cases e)]
    exact(o6.pu (Dg z)).1 b ob (Bq z b ob e)
 ·left
  have e:i=ds.length:=by omega
  subst e;obtain⟨hh,q⟩:=i2 βi o hl;have lv:SQ X C σ H2 β own:=s1.leave sq sn le hh λj ok i' e1 e2=>st i' λz=>hT i' z j e2;refine⟨zm (KZ _),fin o H2 q ⟨lv,⟨λb z=>.inl z,sn.k.mono λb z=>z.imp (aJ b) id,sn.d⟩,λz=>⟨pu z,rfl⟩,λ_ z=>z⟩ ⟨a::A,⟨a,vs,A,rfl,zV,rfl,os⟩,LD.mpr ⟨λz=>(nw a z).2 rfl,nd⟩,λc hc=>?_⟩⟩;have kL:H1 c=none:=by
   rcases K6.mp hc with rfl|hc
   ·exact ha
   ·exact(nw c hc).1
  exact⟨kL,λvP=>by obtain⟨j,hj⟩:=vP;exact(s1.dm j c hj).1 kL,LN λz=>s1.fQ c z kL⟩
theorem jz {scope:MU}{N':List Str}(L:Links X scope N' lk)(hN:N'.Nodup):∀(i i' j:Nat),lk[i]?=some (some j)->lk[i']?=some (some j)->i=i':=λi i' j h1 h2=>by
 obtain⟨x,a1,a2,_⟩:=L.link i j h1;obtain⟨y,b1,b2,_⟩:=L.link i' j h2;rw[a2]at b2;cases b2;exact(List.getElem?_inj (Lr.mp a1).1 hN).mp (a1.trans b1.symm)
def wL (lk:List (Option Nat))(ι:eV)(γ:eh)(τ:bb)(φ:aM):aM:=λβ R=>ι β λds k β1=>hold k false/\jy γ τ φ ds k (cW lk β1) λo=>R (.lst o) .own β1
variable {scope:MU}{N':List Str}{tg fL elt:Expr}{ifs:List Expr}{ι:eV}{pi:Bool}{pos:Pos}{i:Nat}
theorem Bu (L:Links X scope N' lk)(zY:N'.Nodup)(hT:T.all (λi=>match lk[i]? with|some (some _)=>false|_=>true)=true)(hc:X.calm=true)(hi:xM X C pi tg fL ι)
  (vN:∀a cl c s H ex,wG (aC X scope N' cl c s H ex) (C.u λc=>c=a) tg T γ) (nQ:∀a cl c s H ex,mX (aC X scope N' cl c s H ex) ifs (j2 (aC X scope N' cl c s H ex) (C.u λc=>c=a) pc τ)) (τm:∀β R R',(∀d β,R d β->R' d β)->τ β R->τ β R')
  (qZ:∀a cl c s H ex,PQ (aC X scope N' cl c s H ex) (C.u λc=>c=a) pe elt φ) (γm:∀d k β R R',(∀r,R r->R' r)->γ d k β R->γ d k β R') (φm:∀β R R',(∀d k β,R d k β->R' d k β)->φ β R->φ β R')
  (hs:∀x,Mf fL X.env x=pure x:=by intro _;rfl):PQ X C (pi&&(pc&&pe)) (.ListComp elt [⟨tg,fL,ifs,0⟩] scope pos) (wL lk ι γ τ φ):=by
 have Gy:∀i∈T,∀j,lk[i]?≠some (some j):=λi hi j e=>by
  have:=M9.mp hT i hi;rw[e]at this;cases this
 refine⟨λβ R R' k h=>hi.mono β _ _ (λds kd β1 q=>⟨q.1,q.2.mono λo z=>k _ _ _ z⟩) h,?_⟩;refine(sv (g:=⟨tg,fL,ifs,0⟩) (gs:=[]) (tg:=λa v σ H Q=>∃own β d k,SQ X (C.u λc=>c=a) σ H β own/\Rp X (fg (C.u λc=>c=a) (Wn own) k) H d v/\γ d k β λβ'=>∀σ' aH,SQ X (C.u λc=>c=a) σ' H β' aH->(∀a,Wn aH a->Wn own a)->(∀j,j∉T->σ'[j]?=σ[j]?)->Q σ' H)
  (tt:=λa=>j2 X (C.u λc=>c=a) pc τ) (ta:=λa N σ H=>tQ X (C.u λc=>c=a) pe φ σ H λv H1=>∃xs,H1 a=some (.lst xs)/\xs.length<Lk/\N σ (upd H1 a (.lst (xs++[v]))))
  L hc sQ rfl rfl (λ_ _=>C9) hi.pi (λa cl c s H ex=>⟨(vN a cl c s H ex).pg,nQ a cl c s H ex,sE rfl (qZ a cl c s H ex).pe⟩) hs).pre λσ H Q ⟨β,own,s,h⟩=>?_
 refine⟨β,own,s,hi.mono β _ _ (λds k β1 ⟨hk,q⟩ J H1 az o1 it a ha=>?_) h⟩;exact qF γm τm φm (jz L zY) Gy o1.sq ha (hp:=false) (λz=>by cases z) hk it q λo H' q o2 r=>q _ _ az (o1.trans o2) (r.later o1.sn)
end
end L2.Q
namespace L2
open PySem PySem.Spec PySem.SeqAt PyProof.Rows
section
end
theorem cB {lo:Int}{n i:Nat}{d:D}(h:(j_ lo n)[i]?=some d):i<n/\d=.int (lo+i):=by
 unfold j_ at h;rw[Lj]at h;have hi:i<n:=by
  by_cases hi:i<n
  ·exact hi
  ·rw[MC (by simpa using hi)]at h;cases h
 rw[Oi hi]at h;cases h;exact⟨hi,rfl⟩
theorem cz {lo:Int}{n:Nat}:(j_ lo n).length=n:=by unfold j_;simp
section
end
structure Df (K:PySem.W.Frag)(mg:Str->Option KR)(x:Str)(st:Stmt)(ps:List Str)(f:Addr)(fd:LF):Prop where
 F:ur K x x st f fd
 b:Binds K fd ps []
 m:mg x=some (.ref f)
structure Bs (mg:Str->Option KR):Prop where
 max:mg "max" = none
 min:mg "min" = none
 int:mg "int" = none
 range:mg "range" = none
 sorted:mg "sorted" = none
 set:mg "set" = none
 len:mg "len" = none
 list:mg "list" = none
theorem Aj:LM "set" = some (.type "set"):=by decide +kernel
theorem bN.oA {k:Nat}{A:LI}(r:bN k A):A.units+16<Nl:=by have:=r.un;lia
def G4 (n:Int)(t:List Int):Prop:=∃a b,t=[a,b]/\0<=a/\a<b/\b<n
theorem G4.ne {n:Int}{t:List Int}(h:G4 n t):t≠[]:=by
 obtain⟨a,b,rfl,_⟩:=h;intro z;cases z
def ba (n:Int)(ts:List (List Int)):Prop:=∀t∈ts,G4 n t
theorem ba.ne {n:Int}{ts:List (List Int)}(h:ba n ts):∀k∈ts,k≠[]:=λk hk=>(h k hk).ne
theorem ba.nil {n:Int}:ba n []:=λ_ z=>(nomatch z)
theorem ba.app {n:Int}{ts us:List (List Int)}(h:ba n ts)(h':ba n us):ba n (ts++us):=λt ht=>(Lv.mp ht).elim (h t) (h' t)
theorem ba.one {n:Int}{a b:Int}(h1:0<=a)(h2:a<b)(h3:b<n):ba n [[a,b]]:=λt ht=>by
 rw[K_.mp ht];exact⟨a,b,rfl,h1,h2,h3⟩
theorem cN (ts:List (List Int)):D.cY (ts.map kD)=true:=by
 have fi:∀k:List Int,D.cY (k.map D.int)=true:=λk=>by
  induction k with
  |nil=>rfl
  |cons i k ih=>show (D.flat (.int i)&&D.cY (k.map D.int))=true;rw[ih];rfl
 induction ts with
 |nil=>rfl
 |cons t ts ih =>
  show (D.flat (kD t)&&D.cY (ts.map kD))=true;rw[ih];show (D.cY (t.map D.int)&&true)=true;rw[fi];rfl
theorem nj {ts:List (List Int)}(h:∀k∈ts,k≠[])(l:ts.length<=1000000):(match [D.lst (ts.map kD)]with | [.lst ds]=>kR [.lst ds]|_=>none)=some (.lst ((eP ts).map kD)):=by
 show (match cV (ts.map kD)with|some ks=>if ks.length<=1000000 then some (D.lst ((eP ks).map kD)) else none|none=>none)=_
 rw[gj h];show (if ts.length<=1000000 then some (D.lst ((eP ts).map kD)) else none)=_
 rw[if_pos l]
theorem rA {n:Int}{ts:List (List Int)}(h:ba n ts):ba n (eP ts):=λt ht=>h t ((c8 ts).mem_iff.mp ht)
theorem rN {ts:List (List Int)}(h:∀k∈ts,k≠[])(l:ts.length<1000):xt [.lst (ts.map kD)]=some (.sT (iV ts)):=by
 show (match cV (ts.map kD)with|some ks=>if ks.length<1000 then some (D.sT (iV ks)) else none|none=>none)=_
 rw[gj h];show (if ts.length<1000 then some (D.sT (iV ts)) else none)=_
 rw[if_pos l]
theorem ic {ts:List (List Int)}(h:∀k∈ts,k≠[])(l:ts.length<1000):(match [D.sT (iV ts)]with | [.sT ts]=>kR [.sT ts]|_=>none)=some (.lst ((eP (iV ts)).map kD)):=by
 show (if (iV ts).length<=1000/\(∀k∈iV ts,k≠[]) then some (D.lst ((eP (iV ts)).map kD)) else none)=_
 rw[if_pos ⟨by have:=pz ts;lia,λk hk=>h k (((dc ts).2 k).mp hk)⟩]
def mw:FD:=λds R=>∃n:Int,ds=[.int n]/\0<=n/\n<=1000/\∀ts:List (List Int),ts.length<=n.toNat->ba n ts->R (.lst (ts.map kD))
theorem mw.mono:i6 mw:=λds R R' k ⟨n,e,h1,h2,q⟩=>⟨n,e,h1,h2,λts a b=>k _ (q ts a b)⟩
def Drawn (n:Int)(ts:List (List Int)):Prop:=ts.length<=300/\ba n ts/\oq ts/\ts.Nodup
def ml:FD:=λds R=>∃n:Int,ds=[.int n]/\2<=n/\n<=40/\∀ts,Drawn n ts->R (.lst (ts.map kD))
theorem ml.mono:i6 ml:=λds R R' k ⟨n,e,h1,h2,q⟩=>⟨n,e,h1,h2,λts a=>k _ (q ts a)⟩
def tP:FD:=λds R=>ds=[]/\∀(n:Int) ts,0<=n->n<=40->Drawn n ts->R (.tup [.int n,.lst (ts.map kD)])
theorem tP.mono:i6 tP:=λds R R' k ⟨e,q⟩=>⟨e,λn ts a b c=>k _ (q n ts a b c)⟩
theorem tW {n:Int}{ks:List (List Int)}(h:ba n ks):∃ts,cutD ((eP (iV ks)).map kD) none (some 300)=ts.map kD/\Drawn n ts:=by
 refine⟨(eP (iV ks)).take (min 300 (eP (iV ks)).length),?_,?_,?_,?_,?_⟩
 ·unfold cutD;rw[HT.rO,show (some (300:Int))=some ((300:Nat):Int) from rfl,HT.fx,List.drop_zero,<- NJ]
  simp
 ·rw[Lw];lia
 ·exact λt ht=>h t (((dc ks).2 t).mp ((c8 _).mem_iff.mp (List.mem_of_mem_take ht)))
 ·exact List.Pairwise.take (ib _)
 ·exact List.Nodup.sublist (List.take_sublist _ _) ((c8 _).nodup_iff.mpr (dc ks).1)
theorem gV {fs:List (List Int)}{t:List Int}:(fs++[t]).map kD=fs.map kD++[kD t]:=by simp
theorem rF {fs:List Int}{t:Int}:(fs++[t]).map D.int=fs.map D.int++[D.int t]:=by simp
theorem h8 {a b:D}:[a,b].length<=Lk:=by show 2<=Lk;decide
theorem IH {a b c:D}:[a,b,c].length<=Lk:=by show 3<=Lk;decide
theorem A_ {a:D}:[a].length<=Lk:=by show 1<=Lk;decide
theorem uA {b:Bool}{p q:Prop}(hb:b=true)(h:p):(if b=true then p else q):=by rw[if_pos hb];exact h
theorem gS {b:Bool}{p q:Prop}(hb:b=false)(h:q):(if b=true then p else q):=by rw[hb,if_neg (by simp)];exact h
theorem mV {c:Prop}[Decidable c]{p q:Prop}(h1:c->p)(h2:¬ c->q):(if decide c=true then p else q):=by
 by_cases h:c
 ·exact uA (by simp[h]) (h1 h)
 ·exact gS (by simp[h]) (h2 h)
theorem Jo {c:Prop}[Decidable c]{p q:Prop}(h1:¬ c->p)(h2:c->q):(if (!decide c)=true then p else q):=by
 by_cases h:c
 ·exact gS (by simp[h]) (h2 h)
 ·exact uA (by simp[h]) (h1 h)
theorem fB {α:Type}(f:α->D):∀l:List α,D.mT (l.map f)=l.map λa=>(f a).pd
 |[]=>rfl
 |a::l=>by
  show (f a).pd::D.mT (l.map f)=_;rw[fB f l];rfl
theorem gx {n:Nat}:∀{xs:List PyData},(∀x∈xs,x.canLay0=true/\x.depth<=n)->MV xs=true/\Nj xs<=n
 |[],_=>⟨by simp[MV],by simp[Nj]⟩
 |x::xs,h=>by
  obtain⟨h1,h2⟩:=gx (n:=n) (xs:=xs) λy hy=>h y (by simp[hy])
  obtain⟨g1,g2⟩:=h x (by simp)
  refine⟨by simp[MV,h1,g1],?_⟩
  simp only[Nj];lia
theorem pQ {n:Nat}{ds:List D}(h:∀d∈ds,d.pd.canLay0=true/\d.pd.depth<=n):(D.tup ds).pd.canLay0=true/\(D.tup ds).pd.depth<=n+1:=by
 have e:D.mT ds=ds.map λd=>d.pd:=by
  have:=fB (λd:D=>d) ds;simpa using this
 obtain⟨h1,h2⟩:=gx (n:=n) (xs:=D.mT ds) λx hx=>by
  rw[e]at hx;obtain⟨d,hd,rfl⟩:=LC.mp hx;exact h d hd
 refine⟨by simpa[D.pd,Mc] using h1,?_⟩
 have:(D.tup ds).pd.depth=Nj (D.mT ds)+1:=by simp[D.pd,PyData.depth]
 lia
theorem jm {n:Nat}{ds:List D}(h:∀d∈ds,d.pd.canLay0=true/\d.pd.depth<=n):(D.lst ds).pd.canLay0=true/\(D.lst ds).pd.depth<=n+1:=by
 have e:D.mT ds=ds.map λd=>d.pd:=by
  have:=fB (λd:D=>d) ds;simpa using this
 obtain⟨h1,h2⟩:=gx (n:=n) (xs:=D.mT ds) λx hx=>by
  rw[e]at hx;obtain⟨d,hd,rfl⟩:=LC.mp hx;exact h d hd
 refine⟨by simpa[D.pd,Mc] using h1,?_⟩
 have:(D.lst ds).pd.depth=Nj (D.mT ds)+1:=by simp[D.pd,PyData.depth]
 lia
theorem cm (i:Int):(D.int i).pd.canLay0=true/\(D.int i).pd.depth<=1:=⟨by simp[D.pd,Mc],by simp[D.pd,PyData.depth]⟩
theorem rH (t:List Int):(kD t).pd.canLay0=true/\(kD t).pd.depth<=2:=pQ λd hd=>by
 obtain⟨i,_,rfl⟩:=LC.mp hd;exact cm i
theorem nr (ts:List (List Int)):(D.lst (ts.map kD)).pd.canLay0=true/\(D.lst (ts.map kD)).pd.depth<=3:=jm λd hd=>by
 obtain⟨i,_,rfl⟩:=LC.mp hd;exact rH i
theorem ie (ts:List Int):(D.lst (ts.map D.int)).pd.canLay0=true/\(D.lst (ts.map D.int)).pd.depth<=2:=jm λd hd=>by
 obtain⟨i,_,rfl⟩:=LC.mp hd;exact cm i
theorem dS {d:D}{n:Nat}(h:d.pd.canLay0=true/\d.pd.depth<=n)(hn:n<=64:=by decide):d.rL=true:=by
 show (d.pd.canLay0&&decide (d.pd.depth<=64))=true;rw[h.1,decide_eq_true (by lia)]
 rfl
theorem iR {α:Type}[DecidableEq α]{f:α->PyData}(hf:∀a b,MG (f a) (f b)=decide (a=b)):∀xs ys:List α,NH (xs.map f) (ys.map f)=decide (xs=ys)
 |[],[]=>by simp[NH]
 |[],_::_=>by simp[NH]
 |_::_,[]=>by simp[NH]
 |x::xs,y::ys=>by
  simp only[LJ,NH];rw[hf,iR hf xs ys]
  by_cases h1:x=y
  ·by_cases h2:xs=ys <;> simp[h1,h2]
  ·simp[h1]
theorem kQ (i j:Int):MG (D.int i).pd (D.int j).pd=decide (i=j):=by
 simp only[D.pd,MG]
 by_cases h:i=j <;> simp[h]
theorem tT (ts us:List Int):MG (D.lst (ts.map D.int)).pd (D.lst (us.map D.int)).pd=decide (ts=us):=by
 show MG (.list (D.mT (ts.map D.int))) (.list (D.mT (us.map D.int)))=_;rw[fB,fB];simp only[MG];exact iR kQ ts us
theorem Ab {a b:D}{c:Bool}(h1:a.rL=true)(h2:b.rL=true)(e:MG a.pd b.pd=c):D_ a b=some (.bl c):=by
 unfold D_;rw[if_pos ⟨h1,h2⟩,e]
theorem og {a b:D}{c:Bool}(h1:a.rL=true)(h2:b.rL=true)(e:MG a.pd b.pd=c):xv a b=some (.bl (!c)):=by
 unfold xv;rw[if_pos ⟨h1,h2⟩,e]
theorem cj (i j:Int):D_ (.int i) (.int j)=some (.bl (decide (i=j))):=Ab (dS (cm i)) (dS (cm j)) (kQ i j)
theorem kS (i j:Int):xv (.int i) (.int j)=some (.bl (!decide (i=j))):=og (dS (cm i)) (dS (cm j)) (kQ i j)
theorem tY (ts us:List Int):xv (.lst (ts.map D.int)) (.lst (us.map D.int))=some (.bl (!decide (ts=us))):=og (dS (ie ts)) (dS (ie us)) (tT ts us)
theorem Ij {α:Type}{ds:List α}{i:Nat}{d:α}(h:ds[i]?=some d):mK ds (i:Int)=some d:=by
 have hl:i<ds.length:=(Lr.mp h).1;unfold mK zk;rw[if_pos (by lia),if_pos (by lia),Int.toNat_natCast]
 exact h
theorem ui {α:Type}{ds:List α}{i:Int}(h0:0<=i)(h1:i<ds.length):∃d∈ds,mK ds i=some d/\ds[i.toNat]?=some d:=by
 have hl:i.toNat<ds.length:=by lia
 refine⟨ds[i.toNat],M8 hl,?_,K9 hl⟩;have:=Ij (ds:=ds) (i:=i.toNat) (K9 hl)
 rwa [show ((i.toNat:Nat):Int)=i by lia]at this
theorem pick {ds:List D}{r:Int}{p:D->Prop}(h0:0<=r)(h1:r<ds.length)(h:∀d∈ds,p d):∃d,Aa (.lst ds) (.int r)=some d/\p d:=by
 obtain⟨d,hd,e,_⟩:=ui h0 h1;exact⟨d,e,h d hd⟩
theorem my {ks:List Int}{i:Int}(h0:0<=i)(h1:i<ks.length):∃r∈ks,Aa (.lst (ks.map D.int)) (.int i)=some (.int r):=by
 obtain⟨r,hr,e,e'⟩:=ui h0 h1;refine⟨r,hr,?_⟩;show mK (ks.map D.int) i=_;have:=Ij (ds:=ks.map D.int) (i:=i.toNat) (d:=.int r) (by rw[Lj,e'];rfl)
 rwa [show ((i.toNat:Nat):Int)=i by lia]at this
end L2
namespace L2.Q
open PySem PySem.Spec PySem.SeqAt PyProof.Rows
section
end
section
end
section
variable {P:K3}{w:Lf}{C:Cfg}{σ:St}{H:Hp}{β:bt}{own:Nat->List Addr}{i:Nat}{ok:List Int->Prop}{ns:List Int}
theorem jv:∀{ns:List Int} {vs:List V} {A:List Addr},aI P w H (ns.map D.int) vs A->vs=ns.map V.int/\A=[]
 |[],_,_,h=>h
 |n::ns,_,_,⟨v,r,A1,A2,e,eA,h1,h2⟩=>by
  obtain⟨rfl,rfl⟩:=jv h2;obtain⟨rfl,rfl⟩:=h1;exact⟨e,by rw[eA];rfl⟩
theorem bw.toHand (s:bw P w C σ H β own)(e:β[i]?=some (some (.own (.lst (ns.map D.int)))))(ho:ok ns)(io:∀b,¬ C.IO b):bw P w C σ H (β.set i (some (.hand ok))) own:=by
 obtain⟨v,h1,⟨a,vs,A',rfl,h2,h3,h4⟩,h5⟩:=s.ow i _ e;obtain⟨rfl,rfl⟩:=jv h4;refine⟨by simp[s.len],λj y d q=>?_,λj d q=>?_,λj qX q=>?_,s.dm,s.iU,s.lJ,s.kp,s.fQ,λj y d q=>by
  by_cases aB:i=j
  ·subst aB;obtain⟨e',_⟩:=aS q;cases e'
  ·rw[aQ aB]at q;exact s.shl j y d q⟩
 ·by_cases aB:i=j
  ·subst aB;obtain⟨e',_⟩:=aS q;cases e'
  ·rw[aQ aB]at q;exact s.val j y d q
 ·by_cases aB:i=j
  ·subst aB;obtain⟨e',_⟩:=aS q;cases e'
  ·rw[aQ aB]at q;exact s.ow j d q
 ·by_cases aB:i=j
  ·subst aB;obtain⟨e',_⟩:=aS q;cases e';exact⟨a,ns,h1,h2,ho,h3,.inl io⟩
  ·rw[aQ aB]at q;exact s.i_ j qX q
end
section
variable {X:Cx}{C:Cfg}{e:Expr}{φ:aM}{p:Bool}{i:Nat}{x:Str}{pos pos' px ap cp:Pos}{ok:List Int->Prop}
theorem vi (ok:List Int->Prop)(Gk:∀b,¬ C.IO b)(he:∀U,PQ X (C.u U) p e φ)(hN:X.N.Nodup)(hi:X.N[i]?=some x:=by rfl)(hx:Loc X.env.scope x:=by first|exact .inl rfl|exact .inr rfl)
  (hs:M5 e (some (.Name x pos')) pos.line X.env=pure false:=by rfl) (hf:X.fn x=true\/X.env.scope.names.lookup x=some .local:=by first|exact .inl rfl|exact .inr rfl|assumption) :
  PB X C (.Assign [.Name x pos'] e pos) (λE β=>φ β λd k β'=>Ay k d/\i<β'.length/\∃ns:List Int,d=.lst (ns.map D.int)/\ok ns/\E.nx (β'.set i (some (.hand ok)))):=by
 have B:=fC (C:=C) (i:=i) (pos:=pos) (pos':=pos') he hN hi hx hs hf;refine⟨λE E' β l q=>(he λ_=>False).mono _ _ _ (λd k β' zA=>by obtain⟨f,h,ns,e,o,q⟩:=zA;exact⟨f,h,ns,e,o,l.nx _ q⟩) q,B.ps.pre λDe σ H ⟨Z,E,β,sb,q,qX⟩=>?_⟩
 refine⟨Z,{E with nx:=λβ'=>∃(ns:List Int) (β2:bt),i<β2.length/\β'=β2.set i (some (.own (.lst (ns.map D.int))))/\ok ns/\E.nx (β2.set i (some (.hand ok)))},β,sb,(he λ_=>False).mono _ _ _ (λd k β' zw=>by obtain⟨f,h,ns,e,o,q⟩:=zw;exact⟨f,ns,β',h,by rw[e],o,q⟩) q,⟨λσ' H' β' uW ⟨ns,β2,hl,e,o,q⟩=>?_,qX.rt,qX.bk,qX.ct⟩⟩
 subst e;obtain⟨own,s,n⟩:=uW;have:=s.toHand (i:=i) (ok:=ok) (get_set hl) o Gk;rw[List.set_set]at this;exact qX.nx _ _ _ ⟨own,this,n⟩ q
theorem bw.putL {P:K3}{w:Lf}{σ:St}{H:Hp}{β:bt}{own:Nat->List Addr}{U U2:Addr->Prop}{ds ds':List D}{vs':List V}{a:Addr}{vs:List V}{A A':List Addr}(s:bw P w (C.u U) σ H β own)(e:β[i]?=some (some (.own (.lst ds))))(h1:σ[i]?=some (some (.ref a)))(h2:H a=some (.lst vs))(h3:own i=a::A)
  (r:aI P w H ds' vs' A') (nd:A'.Nodup) (hA:∀c∈A',c∈A\/(C.H0 c=none/\¬ Wn own c/\U c)) (hU:∀a,U2 a->U a) (GC:∀c∈A',c∉A->¬ U2 c) :
  bw P w (C.u U2) σ (upd H a (.lst vs')) (β.set i (some (.own (.lst ds')))) (aE own i (a::A'))/\∀c∈a::A',c∈own i\/(C.H0 c=none/\¬ Wn own c/\U c):=by
 have ha:a∈own i:=by rw[h3];simp
 have nA:a∉A:=by have:=s.lJ i;rw[h3]at this;exact(LD.mp this).1
 have na:∀c∈A',c≠a:=λc hc z=>by
  subst z;rcases hA c hc with z|z
  ·exact nA z
  ·exact z.2.1 ⟨i,ha⟩
 have kt:∀b xs,H b=some (.tup xs)->upd H a (.lst vs') b=some (.tup xs):=λb xs z=>by rw[aj (λz'=>by rw[z',h2]at z;cases z)];exact z
 have Ic:∀c∈a::A',c∈own i\/(C.H0 c=none/\¬ Wn own c/\U c):=λc hc=>by
  rcases K6.mp hc with rfl|hc
  ·exact .inl ha
  ·exact(hA c hc).imp (λz=>by rw[h3];simp[z]) id
 refine⟨s.Bp e h1 ha ⟨a,vs',A',rfl,ao,rfl,r.keep kt λc hc oc ec=>by rw[aj (na c hc)];exact ec⟩ (LD.mpr ⟨λz=>na a z rfl,nd⟩) Ic hU (λc hc z=>?_),Ic⟩
 rcases K6.mp hc with rfl|hc
 ·exact(s.dm i c ha).2.2.2 (hU c z)
 ·by_cases q:c∈A
  ·exact(s.dm i c (by rw[h3];simp[q])).2.2.2 (hU c z)
  ·exact GC c hc q z
theorem sF {own:Nat->List Addr}{i:Nat}{A':List Addr}(h:∀c∈A',c∈own i):∀c,Wn (aE own i A') c->Wn own c:=λc zv=>by
 obtain⟨j,hj⟩:=zv
 by_cases aB:i=j
 ·rw[<- aB,os_eq]at hj;exact⟨i,h c hj⟩
 ·rw[a3 aB]at hj;exact⟨j,hj⟩
theorem yy {P:K3}{w:Lf}{H:Hp}{own:Nat->List Addr}{Z:Hp×(Addr->Prop)}{d:D}{v:V}{A:List Addr}(r:Own P w H d v A)(h:∀c∈A,¬ Wn own c/\C.H0 c=none):KV P w C Z own H (sk .dh d) d v:=by
 have q:ar P w (av C (Wn own) .dh) H d v:=r.rep λc hc z=>z.elim (h c hc).1 λz=>z (h c hc).2;cases d with
 |int i=>exact KV.flat rfl q
 |bl i=>exact KV.flat rfl q
 |bx=>exact KV.flat rfl q
 |str i=>exact KV.flat rfl q
 |_=>exact q
theorem aI.concat {P:K3}{w:Lf}{H:Hp}{ds:List D}{d:D}{vs:List V}{A:List Addr}(h:aI P w H (ds++[d]) vs A):∃us v A1 A2,vs=us++[v]/\A=A1++A2/\aI P w H ds us A1/\Own P w H d v A2:=by
 obtain⟨v,A1,A2,A3,g1,g2,g3,g4,g5⟩:=h.split (i:=ds.length) (d:=d) (by simp)
 rw[List.take_left]at g3;have e3:aI P w H [] (vs.drop (ds.length+1)) A3:=by simpa using g5
 have hl:=h.length;rw[Lz,MB]at hl;refine⟨vs.take ds.length,v,A1,A2,?_,by rw[g2,e3.2,LV],g3,g4⟩
 have eS:ds.length<vs.length:=by lia
 have e1:vs=vs.take ds.length++vs.drop ds.length:=(MA _ _).symm;rw[Mo eS,e3.1]at e1;have:vs[ds.length]=v:=by
  have:=K9 eS;rw[g1]at this;exact(Lq this).symm
 rw[this]at e1;exact e1
theorem yt (hN:X.N[i]?=some x:=by rfl)(hv:uG X.env.scope x:=by first|exact .inl rfl|exact .inr (.inl rfl)|exact .inr (.inr rfl))(hd:(x==("__debug__" : Str))=false:=by decide)(g8:(x==("__classdict__" : Str))=false:=by decide)
  (cM:My (.Name x px) "pop" X.env (eval (.Name x px) X.env)=eval (.Name x px) X.env:=by rfl) (cL:(ap.endLine==cp.line)=true:=by rfl) :
  PQ X C false (.Call (.Attribute (.Name x px) "pop" ap) [] [] cp) (λβ R=>∃ds d,β[i]?=some (some (.own (.lst (ds++[d]))))/\R d (sk .dh d) (β.set i (some (.own (.lst ds))))) :=
 ⟨λβ R R' k vO=>by obtain⟨ds,d,h1,q⟩:=vO;exact⟨ds,d,h1,k _ _ _ q⟩,(yD (apos:=ap) (cpos:=cp) PySem.F.plainAttrs_list PySem.F.slot_list_pop PySem.F.type_list_pop yW (eZ (pos:=px) hN hv hd g8) cM cL).pre λσ H Q zK=>by
  obtain⟨β,own,s,ds,d,hb,q⟩:=zK;obtain⟨a,vs,A,h1,h2,h3,h4⟩:=s.lR hb;obtain⟨us,v,A1,A2,rfl,rfl,g3,g4⟩:=h4.concat;have nd:=s.lJ i;rw[h3]at nd;obtain⟨yT,BK,Jd⟩:=Nz.mp (LD.mp nd).2;obtain⟨s2,hA⟩:=s.putL (C:=C) (U:=C.U) (U2:=C.U) (ds':=ds) (vs':=us) (A':=A1) hb h1 h2 h3 g3 yT (λc hc=>.inl (by simp[hc])) (λ_ z=>z) (λc hc n=>absurd (by simp[hc]) n)
  have h0:∀c∈own i,C.H0 c=none:=by obtain⟨_,_,_,h⟩:=s.ow i _ hb;exact h
  have kt:∀b xs,H b=some (.tup xs)->upd H a (.lst us) b=some (.tup xs):=λb xs z=>by rw[aj (λz'=>by rw[z',h2]at z;cases z)];exact z
  have na:∀c∈A2,c≠a:=λc hc z=>(LD.mp nd).1 (by rw[<- z];simp[hc])
  have le:∀c,Wn (aE own i (a::A1)) c->Wn own c:=sF λc hc=>by rw[h3];rcases K6.mp hc with rfl|hc <;> simp[*]
  refine⟨.ref a,h1,.inl ⟨rfl,_,de.of h2⟩,a,_,v,rfl,rfl,h2,by simp,?_⟩
  rw[List.dropLast_concat];refine q v _ _ ⟨s2,?_,λz=>(nomatch z),le⟩ (yy (C:=C) (g4.keep kt λc hc oc ec=>by rw[aj (na c hc)];exact ec) λc hc=>⟨λ⟨j,hj⟩=>?_,h0 c (by rw[h3];simp[hc])⟩)
  ·have u:=Sn.upd (Z:=(H,Wn own)) (o':=.lst us) (Sn.refl (H:=H) (W:=Wn own)) h2 (λxs z=>by cases z) ⟨i,by rw[h3];simp⟩
   exact⟨λb z=>.inl (le b z),u.k,u.d⟩
  ·by_cases aB:i=j
   ·rw[<- aB,os_eq]at hj;rcases K6.mp hj with rfl|hj
    ·exact na _ hc rfl
    ·exact Jd _ hj _ hc rfl
   ·rw[a3 aB]at hj;exact aB (s.iU i j c (by rw[h3];simp[hc]) hj)⟩
end
section
variable {X:Cx}{C:Cfg}{e k:Expr}{φ:aM}{p:Bool}{i:Nat}{x:Str}{pos px ap cp:Pos}
theorem uR {Z:Hp×(Addr->Prop)}{H:Hp}{own:Nat->List Addr}{a:Addr}{o oa:HO}{A':List Addr}{U:Addr->Prop}(n:Sn Z H (Wn own))(m:∀a,U a->Z.1 a=none)(h2:H a=some oa)(ht:∀xs,oa≠.tup xs)(ha:Wn own a)(hA:∀c∈A',c∈own i\/(C.H0 c=none/\¬ Wn own c/\U c)):Sn Z (upd H a o) (Wn (aE own i A')) :=
 rG n m ha ⟨oa,h2,ht⟩ hA
theorem p_ (he:PQ X C.z p e φ)(hN:X.N[i]?=some x:=by rfl)(hv:uG X.env.scope x:=by first|exact .inl rfl|exact .inr (.inl rfl)|exact .inr (.inr rfl))(hd:(x==("__debug__" : Str))=false:=by decide)(g8:(x==("__classdict__" : Str))=false:=by decide)
  (cM:My (.Name x px) "extend" X.env (eval (.Name x px) X.env)=eval (.Name x px) X.env:=by rfl)
  (gq:((L8 cp (K5 [e] X.env)).all (λx=>!x.1)&&(Ov cp (Ny [] X.env)).all (λx=>x.1.isSome)&&decide ([e].length+([]:List Nb).length+(if ([]:List Nb).isEmpty then 0 else 1)<30))=true:=by rfl)
  (cL:(ap.endLine==cp.line)=true:=by rfl) (hs:K5 [e] X.env=(false,eval e X.env)::K5 [] X.env:=by rfl) (cK:(L8 cp (K5 [] X.env)).any (·.1)=false:=by rfl)
  (uC:M5 (.Call (.Attribute (.Name x px) "extend" ap) [e] [] cp) none pos.line X.env=pure false:=by rfl) :
  PB X C (.Expr (.Call (.Attribute (.Name x px) "extend" ap) [e] [] cp) pos) (λE β=>(∃ds,β[i]?=some (some (.own (.lst ds))))/\φ β λd _ β'=>∃ds es,d=.lst es/\D.cY es=true/\β'[i]?=some (some (.own (.lst ds)))/\ds.length+es.length<=Lk/\E.nx (β'.set i (some (.own (.lst (ds++es)))))):=by
 refine⟨λE E' β l zw=>by obtain⟨h1,q⟩:=zw;exact⟨h1,he.mono _ _ _ (λd k β' FI=>by obtain⟨ds,es,h1,h2,h3,h4,q⟩:=FI;exact⟨ds,es,h1,h2,h3,h4,l.nx _ q⟩) q⟩,
  (gX (pos:=pos) (sA (apos:=ap) (cpos:=cp) PySem.F.plainAttrs_list PySem.F.slot_list_extend PySem.F.type_list_extend qf (eZ (pos:=px) hN hv hd g8) (a7 he.pe cG hs) cM gq cL hs cK) uC).pre λD σ H ⟨Z,E,β,⟨own,s0,n⟩,⟨⟨Ka,DT⟩,q⟩,ok⟩=>?_⟩
 obtain⟨a0,Ks,A0,z1,z2,z3,z4⟩:=s0.lR DT;refine⟨.ref a0,z1,.inl ⟨rfl,_,de.of z2⟩,tQ.of he s0 q λd kk β' v H1 az ⟨ds,es,e1,f,hb,hl,q⟩ o r=>?_⟩;subst e1;obtain⟨b,us,rfl,JW,_,rb⟩:=r.rep;obtain⟨a,vs,A,h1,h2,h3,h4⟩:=o.sq.lR hb;rw[z1]at h1;cases h1;have nd:=o.sq.lJ i;rw[h3]at nd;obtain⟨s2,hA⟩:=o.sq.putL (C:=C) (U:=λ_=>False) (U2:=λ_=>False) (ds':=ds++es) (vs':=vs++us) (A':=A) hb z1 h2 h3 (by simpa using h4.append (eH f rb)) (LD.mp nd).2 (λc hc=>.inl hc) (λ_ z=>z) (λc hc n=>absurd hc n)
 exact⟨a0,b,vs,us,rfl,rfl,h2,JW,by rw[h4.length,rb.length];exact hl,ok.nx _ _ _ ⟨_,s2,uR (n.trans o.sn) (λ_ z=>z.elim) h2 (λxs z=>by cases z) ⟨i,by rw[h3];simp⟩ hA⟩ q⟩
end
end L2.Q
namespace L2
open PySem PySem.Spec PySem.SeqAt PyProof.Rows
theorem vD {X:Cx}:∀(pins:List (Addr×Obj)) (s:KU) (σ:St) (H:Hp) (Q:KR->KU->Prop) (E:KR->KU->Prop),Inv X pins σ H s ->
  (∀a s',s.heap.objs.size<=a->H a=none->(∀b o,s.heap.get? b=some o->s'.heap.get? b=some o)->Inv X pins σ (upd H a (ee X.prog X.w a [])) s'->Q (.ref a) s')->Ln (model X.prog X.w) X.A (newSet (.type "set")) Q E s:=λpins s σ H Q E I h=>by
 unfold newSet;refine KS (ST.en ?_);dsimp only;have hS:(s.heap.push (ST.gf X.w)).get? s.heap.objs.size=some (ST.gf X.w):=LB _ rfl;refine MS (h _ _ (KZ _) I.fresh (λb o e=>K4 _ e) (I.laid (t':=s.toks) (λ_ _ q=>K4 _ q) (KZ _) ?_));exact⟨⟨_,_,_,_,hS,ST.oV _ _⟩,⟨_,hS⟩,λh1 h2 qr k=>by obtain⟨o1,e1,C1,t1,g1,g2⟩:=qr;exact⟨o1,e1,C1,t1,k _ g1,g2⟩⟩
section
variable {X:Cx}
theorem sD {elt:Expr}{te:TE}{a:Addr}(hx:X.xe=λ_ _=>False)(hu:X.A.units+16<Nl)(he:PE X elt te):
  mO X (jk (tU elt (.ref a) X.env)) (λN σ H=>te σ H λv H1=>∃ts t key,v=.ref t/\H1 a=some (ee X.prog X.w a ts)/\H1 t=some (.tup (key.map V.int))/\(∀x∈ts,H1 x.1=some (.tup (x.2.map V.int)))/\ts.length<1000/\∀bg,(∀x∈bg,x∈ts\/x=(t,key))->(∀x,x∈bg.map (·.2)↔x∈ts.map (·.2)\/x=key)->bg.length<=ts.length+1->(bg.map (·.2)).Nodup->N σ (upd H1 a (ee X.prog X.w a bg))):=by
 intro pins s σ H N k Q E I h hk;unfold jk tU;refine KS (KS (bj (fF hx (he pins s σ H _ I h)) λu s1 ⟨v,H1,I1,r1,ts,t,key,ev,hH,ht,nQ,hn,q⟩=>?_));subst ev;cases r1;refine KS (M_ (KS ?_));obtain⟨⟨o,es,ep,tb,ho,S⟩,_,_⟩:=(show bY X.prog X.w H1 s1.heap a (ee X.prog X.w a ts) from I1.a_ a _ hH)
 have T:=m9 I1.a_ nQ;have Gh:(ST.TK X.prog X.w).is s1.heap key t:=(m9 (ts:=[(t,key)]) I1.a_ λx hx=>by rw[K_.mp hx];exact ht) (t,key) (K_.mpr rfl)
 refine Mq PySem.F.slot_set_add (ST.fw ho S) PySem.F.entry_set_add ?_ (PySem.F.args_set_add_2 _ _);unfold Mn.«set.add» Builtin.Frozenset.oneOther;simp only[List.isEmpty_nil,bind_assoc];unfold Builtin.Frozenset.addrOf;refine KS (K0 ?_)
 try dsimp only
 refine KS (K0 ?_)
 try dsimp only
 have Jt:X.A.in1.units<Nl:=by show X.A.units+1<Nl;lia
 refine KS (ST.rl ho S T Gh Jt hn λh' o' bg eL je t' added tk Kz sb qt S' m1 m2=>?_);show Ln _ _ (ret Value.none) _ _ _;refine K0 ⟨_,rfl,K0 ?_⟩;have I2:Inv X pins σ (upd H1 a (ee X.prog X.w a bg)) {s1 with heap:=h',toks:=tk}:=I1.write (x:=a) (e:=a) (by rw[hH];exact trivial) (.inl rfl) (λb u hb hu=>(sb.2 b hb).trans hu) ⟨_,qt⟩
  ⟨⟨o',eL,je,t',qt,S'⟩,⟨_,qt⟩,λh1 h2 tq k=>by obtain⟨o1,e1,C1,t1,g1,g2⟩:=tq;exact⟨o1,e1,C1,t1,k _ g1,g2⟩⟩
 by_cases k9:∃x∈ts,x.2=key
 ·obtain rfl:=m1 k9;refine hk σ _ _ I2 (q bg (λx hx=>.inl hx) (λx=>⟨.inl,λz=>z.elim id λz=>?_⟩) (by lia) S'.BJ)
  obtain⟨y,hy,e⟩:=k9;rw[z,<- e];exact List.mem_map_of_mem hy
 ·have pm:=m2 λx hx e=>k9 ⟨x,hx,e⟩;refine hk σ _ _ I2 (q bg (λx hx=>?_) (λx=>?_) (by rw[pm.length_eq];exact KZ _) S'.BJ)
  ·rcases K6.mp (pm.mem_iff.mp hx)with z|z
   ·exact .inr z
   ·exact .inl z
  ·rw[(pm.map _).mem_iff,LJ,K6];exact⟨λz=>z.symm,λz=>z.symm⟩
end
namespace Q
section
variable {P:K3}{w:Lf}{C:Cfg}{σ:St}{H:Hp}{β:bt}{own:Nat->List Addr}{lk:List (Option Nat)}{a:Addr}
theorem bw.z7 {o:HO}(ho:∀xs,o≠.tup xs)(s:bw P w C σ H β own)(ha:H a=none)(inj:∀(i i' j:Nat),lk[i]?=some (some j)->lk[i']?=some (some j)->i=i'):
  bw P w (C.u λc=>c=a) (c6 lk σ) (upd H a o) (cW lk β) (aV lk β own):=by
 have h0:C.H0 a=none:=LN λz=>s.fQ a z ha;have q:=(s.enter ha inj).yh (o:=o) ao (λxs z=>by cases z) h0
 have e:upd (upd H a (.lst [])) a o=upd H a o:=by
  funext b
  by_cases hb:b=a
  ·rw[hb,ao,ao]
  ·rw[aj hb,aj hb,aj hb]
 rwa [e]at q
end
def lS (γ:eh)(τ:bb)(φ:aM)(ds:List D)(k:Kd)(β0:bt)(K:List (List Int)->Prop):Prop:=∃I:Nat->bt->List (List Int)->Prop,I 0 β0 [] /\
 (∀i d β o,ds[i]?=some d->I i β o->γ d (sk k d) β λβ1=>τ β1 λt β2=>if t=true then φ β2 λx kx β3=>∃key,x=kD key/\o.length<1000/\I (i+1) β3 (o++[key]) else I (i+1) β2 o)/\∀β o,I ds.length β o->eR β0 β/\K o
theorem lS.mono {γ:eh}{τ:bb}{φ:aM}{ds:List D}{k:Kd}{β0:bt}{K K':List (List Int)->Prop}(h:∀o,K o->K' o)(q:lS γ τ φ ds k β0 K):lS γ τ φ ds k β0 K':=let ⟨I,h0,h1,h2⟩:=q;⟨I,h0,h1,λβ o z=>⟨(h2 β o z).1,h _ (h2 β o z).2⟩⟩
section
variable {X:Cx}{C:Cfg}{lk:List (Option Nat)}{γ:eh}{τ:bb}{φ:aM}{T:List Nat}{pc pe:Bool}
theorem oi {σ:St}{H1:Hp}{β:bt}{own:Nat->List Addr}{a:Addr}{J:It}{ds:List D}{k:Kd}{K:List (List Int)->Prop}{End:Hp->Prop}
  (γm:∀d k β R R',(∀r,R r->R' r)->γ d k β R->γ d k β R') (τm:∀β R R',(∀d β,R d β->R' d β)->τ β R->τ β R') (φm:∀β R R',(∀d k β,R d k β->R' d k β)->φ β R->φ β R')
  (inj:∀(i i' j:Nat),lk[i]?=some (some j)->lk[i']?=some (some j)->i=i') (hT:∀i∈T,∀j,lk[i]?≠some (some j))
  (s1:SQ X C σ H1 β own) (ha:H1 a=none) (hk:hold k false) (it:AM X (av C (Wn own) k) J ds H1) (q:lS γ τ φ ds k (cW lk β) K)
  (fin:∀o H',K o->Out X C σ H1 own (pc&&pe) β H' own->KV X.prog X.w C (H1,Wn own) own H' .own (.sT (iV o)) (.ref a)->End H') :
  gC J (λv σ H Q=>∃own β d k,SQ X (C.u λc=>c=a) σ H β own/\Rp X (fg (C.u λc=>c=a) (Wn own) k) H d v/\γ d k β λβ'=>∀σ' aH,SQ X (C.u λc=>c=a) σ' H β' aH->(∀a,Wn aH a->Wn own a)->(∀j,j∉T->σ'[j]?=σ[j]?)->Q σ' H)
   (j2 X (C.u λc=>c=a) pc τ) (λN σ H=>tQ X (C.u λc=>c=a) pe φ σ H λv H1=>∃ts t key,v=.ref t/\H1 a=some (ee X.prog X.w a ts)/\H1 t=some (.tup (key.map V.int))/\(∀x∈ts,H1 x.1=some (.tup (x.2.map V.int)))/\ts.length<1000/\∀bg,(∀x∈bg,x∈ts\/x=(t,key))->(∀x,x∈bg.map (·.2)↔x∈ts.map (·.2)\/x=key)->bg.length<=ts.length+1->(bg.map (·.2)).Nodup->N σ (upd H1 a (ee X.prog X.w a bg)))
   (λ_ H'=>End H') (c6 lk σ) (upd H1 a (ee X.prog X.w a [])):=by
 obtain⟨I,i0,i1,i2⟩:=q;have h0:C.H0 a=none:=LN λz=>s1.fQ a z ha;have sm:ay H1 (upd H1 a (ee X.prog X.w a [])):=ay.new ha;have BV:∀c,Wn (aV lk β own) c->c≠a:=λc z e=>by
  obtain⟨j,hj⟩:=aJ c z;exact(s1.dm j c hj).1 (by rw[e];exact ha)
 let S:Nat->St->Hp->Prop:=λi σ' H'=>∃βi b5 ts o,SQ X (C.u λc=>c=a) σ' H' βi b5/\Sn (H1,Wn (aV lk β own)) H' (Wn b5)/\(∀c,Wn b5 c->Wn (aV lk β own) c)/\H' a=some (ee X.prog X.w a ts)/\(∀x∈ts,H' x.1=some (.tup (x.2.map V.int)))/\(ts.map (·.2)).Nodup/\(ts.length<=o.length/\∀x,x∈ts.map (·.2)↔x∈o) /\
  ((pc&&pe)=true->ay H1 H')/\(∀j,j∉T->σ'[j]?=(c6 lk σ)[j]?)/\I i βi o
 have W':Addr->Prop:=λb=>av C (Wn own) k b\/H1 b=none;have xa:=it (λb=>av C (Wn own) k b\/H1 b=none) λb z=>z;have kI:∀{H':Hp} {b5:Nat->List Addr},Sn (H1,Wn (aV lk β own)) H' (Wn b5)->Kp (λb=>av C (Wn own) k b\/H1 b=none) H1 H':=λn=>n.k.mono λb z=>z.imp (λz=>by
  cases k with
  |own=>exact .inl (aJ b z)
  |dh=>exact .inl (aJ b z)
  |old=>exact aJ b z
  |bor=>exact hk.elim) id
 refine⟨λi m σ' H'=>i<=ds.length/\m=ds.length-i/\S i σ' H',⟨_,Lp _,rfl,cW lk β,aV lk β own,[],[],s1.z7 (λxs z=>by cases z) ha inj,⟨λb z=>.inl z,sm.kp,λb z e=>z (sm.free e)⟩,λ_ z=>z,ao,λx hx=>(nomatch hx),LO,⟨KZ _,λx=>Iff.rfl⟩,λ_=>sm,λ_ _=>rfl,i0⟩,?_⟩
 rintro i m σ2 H2 ⟨hi,rfl,βi,b5,ts,o,sq,sn,le,zV,os,nd,nw,pu,st,hl⟩;obtain⟨fL,zm⟩:=xa i H2 (kI sn)
 by_cases eS:i<ds.length
 ·right
  have hd:ds[i]?=some ds[i]:=K9 eS;obtain⟨go,yl⟩:=fL _ hd;refine⟨go,λσ' H'=>S (i+1) σ' H',λσ' H' h=>⟨_,by lia,eS,rfl,h⟩,λx H3 y=>?_⟩
  obtain⟨s3,r3⟩:=yl x H3 y;have G0:∀{b5:Nat->List Addr},(∀c,Wn b5 c->Wn (aV lk β own) c)->∀c,fg (C.u λc=>c=a) (Wn b5) k c->av C (Wn own) k c\/H1 c=none:=λle c z=>z.elim (λz=>.inl (g_ (λc z=>aJ c (le c z)) k c z)) λz=>.inr (by rw[z];exact ha)
  refine⟨b5,βi,_,_,sq.same s3,j8 (ar.aK (G0 le) r3),γm _ _ _ _ _ (λβ4 q σ4 kh s4 w4 t4=>?_) (i1 i _ βi o hd hl)⟩;have Ax:∀c,Wn kh c->Wn (aV lk β own) c:=λc z=>le c (w4 c z);refine⟨β4,kh,s4,τm _ _ _ (λt β5 q H5 gc o5=>?_) q⟩;have wX:∀c,Wn gc c->Wn (aV lk β own) c:=λc z=>Ax c (o5.le c z);have jA:∀oc,H2 a=some oc->H5 a=some oc:=λoc e=>by
   refine o5.sn.k.out a oc (s3 a oc e) λz=>?_;rcases z with z|z
   ·exact BV _ (Ax _ z) rfl
   ·exact absurd ((s3 a oc e).symm.trans z) (λz=>(nomatch z))
  have Aw:∀x∈ts,H5 x.1=some (.tup (x.2.map V.int)):=λx hx=>o5.sn.k.tup _ _ (s3 _ _ (os x hx));have As:Sn (H1,Wn (aV lk β own)) H5 (Wn gc):=(fv (sn.same s3) w4).trans o5.sn;have Bq:(pc&&pe)=true->ay H1 H5:=λz=>((pu z).trans s3).trans (o5.pu (uk z)).1;have uy:∀j,j∉T->σ4[j]?=(c6 lk σ)[j]?:=λj hj=>(t4 j hj).trans (st j hj);cases t with
  |false=>exact⟨β5,gc,ts,o,o5.sq,As,wX,jA _ zV,Aw,nd,nw,Bq,uy,q⟩
  |true =>
   refine⟨β5,gc,o5.sq,φm _ _ _ (λxd kx β6 ⟨key,ek,hz,q⟩ v H6 yG o6 r6=>?_) q⟩;subst ek;obtain⟨t,us,rfl,ht,qp⟩:=r6.rep;rw[cn qp]at ht;have tK:=jA _ zV;have kM:H6 a=some (ee X.prog X.w a ts):=by
    refine o6.sn.k.out a _ tK λz=>?_;rcases z with z|z
    ·exact BV _ (wX _ z) rfl
    ·exact absurd (tK.symm.trans z) (λz=>(nomatch z))
   have Av:∀x∈ts,H6 x.1=some (.tup (x.2.map V.int)):=λx hx=>o6.sn.k.tup _ _ (Aw x hx);have nt:∀{b xs},H6 b=some (.tup xs)->b≠a:=λe z=>by rw[z,kM]at e;cases e
   refine⟨ts,t,key,rfl,kM,ht,Av,by lia,λbg m1 m2 m3 m4=>⟨β6,yG,bg,o++[key],o6.sq.yh kM (λxs z=>by cases z) h0,?_,λc z=>wX c (o6.le c z),ao,λx hx=>?_,m4,⟨?_,λx=>?_⟩,λz=>?_,uy,q⟩⟩
   ·have m:=As.trans o6.sn;refine⟨m.w,m.k.trans ((iJ kM (λxs z=>by cases z)).mono λb z=>.inr (by rw[z];exact ha)),λb z e=>?_⟩
    by_cases hb:b=a
    ·rw[hb,ao]at e;cases e
    ·rw[aj hb]at e;exact m.d b z e
   ·rcases m1 x hx with z|rfl
    ·rw[aj (nt (Av x z))];exact Av x z
    ·rw[aj (nt ht)];exact ht
   ·rw[Lz,MB];lia
   ·rw[m2,nw.2 x,Lv,K_]
   ·refine λb ob e=>?_;rw[aj (λz'=>by rw[z',ha]at e;cases e)]
    exact(o6.pu (Dg z)).1 b ob (Bq z b ob e)
 ·left
  have e:i=ds.length:=by lia
  subst e;obtain⟨hh,q⟩:=i2 βi o hl;have lv:SQ X C σ H2 β own:=s1.leave sq sn le hh λj ok i' e1 e2=>st i' λz=>hT i' z j e2;have Hy:=dc o;refine⟨zm (KZ _),fin o H2 q ⟨lv,⟨λb z=>.inl z,sn.k.mono λb z=>z.imp (aJ b) id,sn.d⟩,λz=>⟨pu z,rfl⟩,λ_ z=>z⟩ ⟨[a],⟨a,rfl,⟨ts,zV,os,(OV nd Hy.1).mpr λx=>by rw[nw.2 x,Hy.2 x]⟩,rfl⟩,by simp,λc hc=>?_⟩⟩
  rw[K_.mp hc];exact⟨ha,λvP=>by obtain⟨j,hj⟩:=vP;exact(s1.dm j a hj).1 ha,h0⟩
def rT (lk:List (Option Nat))(ι:eV)(γ:eh)(τ:bb)(φ:aM):aM:=λβ R=>ι β λds k β1=>hold k false/\lS γ τ φ ds k (cW lk β1) λo=>R (.sT (iV o)) .own β1
variable {scope:MU}{N':List Str}{tg fL elt:Expr}{ifs:List Expr}{ι:eV}{pi:Bool}{pos:Pos}
theorem Br (hu:X.A.units+16<Nl)(L:Links X scope N' lk)(zY:N'.Nodup)(hT:T.all (λi=>match lk[i]? with|some (some _)=>false|_=>true)=true)(hc:X.calm=true)(hi:xM X C pi tg fL ι)
  (vN:∀a cl c s H ex,wG (aC X scope N' cl c s H ex) (C.u λc=>c=a) tg T γ) (nQ:∀a cl c s H ex,mX (aC X scope N' cl c s H ex) ifs (j2 (aC X scope N' cl c s H ex) (C.u λc=>c=a) pc τ)) (τm:∀β R R',(∀d β,R d β->R' d β)->τ β R->τ β R')
  (qZ:∀a cl c s H ex,PQ (aC X scope N' cl c s H ex) (C.u λc=>c=a) pe elt φ) (γm:∀d k β R R',(∀r,R r->R' r)->γ d k β R->γ d k β R') (φm:∀β R R',(∀d k β,R d k β->R' d k β)->φ β R->φ β R')
  (hs:∀x,Mf fL X.env x=pure x:=by intro _;rfl):PQ X C (pi&&(pc&&pe)) (.SetComp elt [⟨tg,fL,ifs,0⟩] scope pos) (rT lk ι γ τ φ):=by
 have Gy:∀i∈T,∀j,lk[i]?≠some (some j):=λi hi j e=>by
  have:=M9.mp hT i hi;rw[e]at this;cases this
 refine⟨λβ R R' k h=>hi.mono β _ _ (λds kd β1 q=>⟨q.1,q.2.mono λo z=>k _ _ _ z⟩) h,?_⟩;refine(su (g:=⟨tg,fL,ifs,0⟩) (gs:=[]) (tg:=λa v σ H Q=>∃own β d k,SQ X (C.u λc=>c=a) σ H β own/\Rp X (fg (C.u λc=>c=a) (Wn own) k) H d v/\γ d k β λβ'=>∀σ' aH,SQ X (C.u λc=>c=a) σ' H β' aH->(∀a,Wn aH a->Wn own a)->(∀j,j∉T->σ'[j]?=σ[j]?)->Q σ' H)
  (tt:=λa=>j2 X (C.u λc=>c=a) pc τ) (ta:=λa N σ H=>tQ X (C.u λc=>c=a) pe φ σ H λv H1=>∃ts t key,v=.ref t/\H1 a=some (ee X.prog X.w a ts)/\H1 t=some (.tup (key.map V.int))/\(∀x∈ts,H1 x.1=some (.tup (x.2.map V.int)))/\ts.length<1000/\∀bg,(∀x∈bg,x∈ts\/x=(t,key))->(∀x,x∈bg.map (·.2)↔x∈ts.map (·.2)\/x=key)->bg.length<=ts.length+1->(bg.map (·.2)).Nodup->N σ (upd H1 a (ee X.prog X.w a bg)))
  L hc vD rfl rfl (λ_ _=>C8) hi.pi (λa cl c s H ex=>⟨(vN a cl c s H ex).pg,nQ a cl c s H ex,sD (X:=aC X scope N' cl c s H ex) rfl hu (qZ a cl c s H ex).pe⟩) hs).pre λσ H Q ⟨β,own,s,h⟩=>?_
 refine⟨β,own,s,hi.mono β _ _ (λds k β1 ⟨hk,q⟩ J H1 az o1 it a ha=>?_) h⟩;exact oi γm τm φm (jz L zY) Gy o1.sq ha hk it q λo H' q o2 r=>q _ _ az (o1.trans o2) (r.later o1.sn)
end
end Q
theorem Jp {b:Bool}{p q:Prop}(h1:b=true->p)(h2:b=false->q):(if b=true then p else q):=by
 cases b
 ·exact gS rfl (h2 rfl)
 ·exact uA rfl (h1 rfl)
def Af (a b c d:Int):Bool:=(decide (a<c)&&(decide (c<b)&&decide (b<d))) || (decide (c<a)&&(decide (a<d)&&decide (d<b)))
def kU:List Int->List Int->Bool
 |[a,b],[c,d]=>Af a b c d
 |_,_=>false
def Pair (t:List Int):Prop:=∃a b,t=[a,b]
def iP:FD:=λds R=>∃t u,ds=[kD t,kD u]/\Pair t/\Pair u/\R (.bl (kU t u))
theorem iP.mono:i6 iP:=λds R R' k ⟨t,u,e,h1,h2,q⟩=>⟨t,u,e,h1,h2,k _ q⟩
structure Bs2 (mg:Str->Option KR):Prop extends Bs mg where
 B7:mg "isinstance" = none
 tuple:mg "tuple" = none
 str:mg "str" = none
 bool:mg "bool" = none
 zip:mg "zip" = none
 enumerate:mg "enumerate" = none
theorem tX {d:D}{n:Nat}(h:d.pd.canLay0=true/\d.pd.depth<=n)(hn:n<=64:=by decide):xv d d=some (.bl false):=og (dS h hn) (dS h hn) (eqv_refl _ h.1)
end L2
namespace L2.Q
open PySem PySem.Spec PySem.SeqAt PyProof.Rows
structure wD (X:Cx)(C:Cfg)(p:Bool)(ifs:List Expr)(τ:bb):Prop where
 mono:∀β R R',(∀d β,R d β->R' d β)->τ β R->τ β R'
 pt:mX X ifs (j2 X C p τ)
theorem jY {X:Cx}{C:Cfg}:wD X C true [] AV:=⟨λ_ _ _ k h=>k _ _ h,rZ⟩
theorem xZ {X:Cx}{C:Cfg}{p:Bool}{c:Expr}{τ:bb}(h:pH X C p c τ):wD X C p [c] τ:=⟨h.mono,rY h⟩
section
variable {X:Cx}{C:Cfg}{lk:List (Option Nat)}{γ:eh}{τ:bb}{φ:aM}{T:List Nat}{pc pe pi:Bool}{scope:MU}{N':List Str}{tg fL elt:Expr}{ifs:List Expr}{ι:eV}{pos:Pos}{y:Str}{i:Nat}
theorem DD (N':List Str)(lk:List (Option Nat))(L:kn X.env.scope.names X.N scope N' lk=true)(zY:N'.Nodup)(hc:X.calm=true)(hi:xM X C pi tg fL ι)
  (vN:∀U cl c s H ex,wG (aC X scope N' cl c s H ex) (C.u U) tg T γ) (nQ:∀U cl c s H ex,wD (aC X scope N' cl c s H ex) (C.u U) pc ifs τ) (qZ:∀U cl c s H ex,PQ (aC X scope N' cl c s H ex) (C.u U) pe elt φ)
  (hT:T.all (λi=>match lk[i]? with|some (some _)=>false|_=>true)=true:=by rfl) (hs:∀x,Mf fL X.env x=pure x:=by intro _;rfl):PQ X C (pi&&(pc&&pe)) (.ListComp elt [⟨tg,fL,ifs,0⟩] scope pos) (wL lk ι γ τ φ) :=
 Bu (Links.of L) zY hT hc hi (λa=>vN _) (λa cl c s H ex=>(nQ _ cl c s H ex).pt) (nQ (λ_=>False) [] 0 X.s₀ X.H₀ []).mono (λa=>qZ _) (vN (λ_=>False) [] 0 X.s₀ X.H₀ []).mono (qZ (λ_=>False) [] 0 X.s₀ X.H₀ []).mono hs
theorem IS (hu:X.A.units+16<Nl)(N':List Str)(lk:List (Option Nat))(L:kn X.env.scope.names X.N scope N' lk=true)(zY:N'.Nodup)(hc:X.calm=true)(hi:xM X C pi tg fL ι)
  (vN:∀U cl c s H ex,wG (aC X scope N' cl c s H ex) (C.u U) tg T γ) (nQ:∀U cl c s H ex,wD (aC X scope N' cl c s H ex) (C.u U) pc ifs τ) (qZ:∀U cl c s H ex,PQ (aC X scope N' cl c s H ex) (C.u U) pe elt φ)
  (hT:T.all (λi=>match lk[i]? with|some (some _)=>false|_=>true)=true:=by rfl) (hs:∀x,Mf fL X.env x=pure x:=by intro _;rfl):PQ X C (pi&&(pc&&pe)) (.SetComp elt [⟨tg,fL,ifs,0⟩] scope pos) (rT lk ι γ τ φ) :=
 Br hu (Links.of L) zY hT hc hi (λa=>vN _) (λa cl c s H ex=>(nQ _ cl c s H ex).pt) (nQ (λ_=>False) [] 0 X.s₀ X.H₀ []).mono (λa=>qZ _) (vN (λ_=>False) [] 0 X.s₀ X.H₀ []).mono (qZ (λ_=>False) [] 0 X.s₀ X.H₀ []).mono hs
theorem kA:AL X (rQ X Aa NF):=λvalue slice pins s σ H x y v u Q I rx ry ⟨W,d1,d2,d,hd,r1,r2,e,q⟩ hs =>
 zj value slice pins s σ H x y v u Q I rx ry ⟨W,d1,d2,d,hd,r1,r2,e,λv H' s r=>q v H' s r λf=>ar.flat f r⟩ hs
end
section
variable {P:K3}{w:Lf}{K:PySem.W.Frag}{mg:Str->Option KR}{base:Heap}{k:Nat}{f:Addr}{fd:LF}{ps:List Str}
def mq:FD:=λds R=>∃c:Int,ds=[.int c]/\∀ns,e9 ns->R (.lst (ns.map D.int))
theorem mq.mono:i6 mq:=λds R R' k ⟨c,e,q⟩=>⟨c,e,λns o=>k _ (q ns o)⟩
theorem zW (G:aR P w K mg base dj k f fd ps rE):aR P w K mg base dj k f fd ps (pP P w true mq):=G.imp λvs H Q E h=>by
 obtain⟨ds,r,c,rfl,q⟩:=h;obtain⟨x,rr,rfl,hx,hr⟩:=r;cases (show rr=[] from hr)
 cases (show x=V.int c from hx)
 refine⟨c,rfl,λp H' hp hd sm=>?_⟩;obtain⟨ns,e,o⟩:=hd.ok;have rep:∀ns:List Int,aI P w H' (ns.map D.int) (ns.map V.int) []:=λns=>by
  induction ns with
  |nil=>exact⟨rfl,rfl⟩
  |cons n ns ih=>exact⟨_,_,[],[],rfl,rfl,⟨rfl,rfl⟩,ih⟩
 exact q ns o _ H' sm ⟨[p],⟨p,_,[],rfl,e,rfl,rep ns⟩,by simp,λc hc=>by rw[K_.mp hc];exact hp⟩
theorem jZ {ro:Bool}(G:aR P w K mg base dj k f fd ps rC):aR P w K mg base dj k f fd ps (fZ P w e9 ro bh):=G.imp λvs H Q E h=>by
 obtain⟨h,vs',ds,ns,rfl,e,o,r,n,rfl,n1,n2,q⟩:=h;obtain⟨x,rr,rfl,hx,hr⟩:=r;cases (show rr=[] from hr)
 cases (show x=V.int n from hx)
 refine⟨h,n,rfl,o.hand e,n1,n2,λr H' r0 r1 hd fm=>?_⟩;obtain⟨qb,e',o'⟩:=hd.ok;refine q r r0 r1 _ H' qb ⟨λb u hb nb=>fm b u hb nb,λb xs hb=>fm b _ hb λz=>by rw[z,e]at hb;cases hb⟩ (λc hc z=>?_) e' o' (cq (W:=λ_=>False) rfl rfl)
 by_cases l5:c=h
 ·rw[l5,e']at z;cases z
 ·cases q:H c with
  |none=>exact hc q
  |some u=>rw[fm c u q l5]at z;cases z
end
end L2.Q
namespace jU
open PySem L2 L2.Q
abbrev D0 (K:PySem.W.Frag)(mg:Str->Option KR)(f:Addr)(fd:LF):Prop:=Df K mg "_law_arcs" dw ["hand","many"] f fd
abbrev D1 (K:PySem.W.Frag)(mg:Str->Option KR)(f:Addr)(fd:LF):Prop:=Df K mg "_law_take" cu ["hand","many"] f fd
abbrev D2 (K:PySem.W.Frag)(mg:Str->Option KR)(f:Addr)(fd:LF):Prop:=Df K mg "_law_ties" dt ["hand","many"] f fd
abbrev D3 (K:PySem.W.Frag)(mg:Str->Option KR)(f:Addr)(fd:LF):Prop:=Df K mg "_law_row" eC ["hand"] f fd
abbrev D4 (K:PySem.W.Frag)(mg:Str->Option KR)(f:Addr)(fd:LF):Prop:=Df K mg "check_tie" bS ["tie"] f fd
abbrev D5 (K:PySem.W.Frag)(mg:Str->Option KR)(f:Addr)(fd:LF):Prop:=Df K mg "arcs_cross" b_ ["one","other"] f fd
abbrev D6 (K:PySem.W.Frag)(mg:Str->Option KR)(f:Addr)(fd:LF):Prop:=Df K mg "do_cross" cy ["one","other"] f fd
abbrev D7 (K:PySem.W.Frag)(mg:Str->Option KR)(f:Addr)(fd:LF):Prop:=Df K mg "row_of" dY ["many","ties"] f fd
abbrev D8 (K:PySem.W.Frag)(mg:Str->Option KR)(f:Addr)(fd:LF):Prop:=Df K mg "_law_kind" dv ["caught"] f fd
abbrev D9 (K:PySem.W.Frag)(mg:Str->Option KR)(f:Addr)(fd:LF):Prop:=Df K mg "_law_made" du ["many","ties"] f fd
abbrev Io (K:PySem.W.Frag)(mg:Str->Option KR)(f:Addr)(fd:LF):Prop:=Df K mg "_law_crossed" bO ["one","other"] f fd
abbrev Km (K:PySem.W.Frag)(mg:Str->Option KR)(f:Addr)(fd:LF):Prop:=Df K mg "_law_hand" cw ["cell"] f fd
section
variable {P:K3}{w:Lf}{K:PySem.W.Frag}{mg:Str->Option KR}{base:Heap}
theorem lx:aU ["cell"] ["cell"] (aw cw):=⟨rfl,rfl,rfl,by decide +kernel,rfl,by decide +kernel,by decide +kernel⟩
theorem vx {f:Addr} {fd:LF} (F:ur K "_law_hand" "_law_hand" cw f fd) (B:Kn mg):aR P w K mg base dj 1 f fd ["cell"] rE:=by
 refine F.ok lx (λvs H Q E h=>?_) (λbX A outer s H vs Q E hr h=>?_)
 ·obtain⟨c,rfl,_⟩:=h;rfl
 ·obtain⟨c,rfl,k⟩:=h;refine⟨_,eF (iq (nD (a7 (fA (jN rfl) (by rfl) B.max i4 (a7 aT (a7 (bW sG (pv 0) (bW iC aT aT)) cG)))
   (a7 (bW sH (bW nE (bW iD (pv 0) aT) aT) (ju gv (by rfl) B.int ud (a7 (oR Bz (pv 0) (bW iC aT aT) (sP _)) cG))) cG)))),?_⟩
  refine⟨_,rfl,_,_,rfl,rfl,sd,_,_,rfl,rfl,_,_,rfl,?_⟩;have m1:=g7 (a:=c) (b:=2147483629) (by decide)
  refine⟨_,rfl,_,_,rfl,rfl,(by show (0:Int)<2147483629;decide),_,_,rfl,rfl,_,rfl,_,_,rfl,rfl,sd,rfl,.inr ⟨_,rfl,_,_,rfl,rfl,.inl ⟨by lia,by lia⟩,?_⟩⟩
  refine⟨(by show 2<=Lk;decide),λp hp=>k p _ hp ⟨_,_,ao,?_,?_⟩ (ay.new hp)⟩
  ·split <;> lia
  ·split <;> constructor <;> lia
theorem gE:aU ["hand","many","taken"] ["hand","many"] (aw cu):=⟨rfl,rfl,rfl,by decide +kernel,rfl,by decide +kernel,by decide +kernel⟩
theorem E_ {y:Int}(h:0<=y)(h':y<2147483647):oz (y+1) 7:=⟨by decide,by decide,by lia⟩
theorem g6 {f:Addr} {fd:LF} (F:ur K "_law_take" "_law_take" cu f fd):aR P w K mg base dj 1 f fd ["hand","many"] rC:=by
 refine F.ok gE (λvs H Q E h=>?_) (λbX A outer s H vs Q E hr h=>?_)
 ·obtain⟨h,n,rfl,_⟩:=h;rfl
 ·obtain⟨h,n,rfl,⟨x,y,hx,x0,y0,y1⟩,n0,n1,k⟩:=h;refine⟨_,cC (wM (oH wU (jt eI (pv 0) aT (λ_ _=>rfl)) aT (sP _))
    (cC (ny (i:=2) gE.nd rfl (Or.inl rfl) (bW iD (jt eI (pv 0) aT (λ_ _=>rfl)) (pv 1)))
    (cC (nz (bW lH (jt eI (pv 0) aT (λ_ _=>rfl)) (pv 1)) (sg (pv 0) aT set_list))
    (eF (iq (pv 2))))) oI)
   (cC (nz (bW iD (bW sH (jt eI (pv 0) aT (λ_ _=>rfl)) aT) aT) (sg (pv 0) aT set_list))
   (eF (iq (bW iD (bW lH (bW iC (bW nE (jt eI (pv 0) aT (λ_ _=>rfl)) aT) aT) aT) (pv 1))))),?_⟩
  refine⟨_,rfl,h,_,_,_,rfl,rfl,de.of hx,rfl,_,_,rfl,rfl,_,rfl,?_⟩;refine Fp (λhp=>?_) (λhp=>?_)
  ·refine⟨_,rfl,h,_,_,_,rfl,rfl,de.of hx,rfl,_,rfl,_,_,rfl,rfl,n0,?_⟩;refine⟨_,rfl,h,_,_,_,rfl,rfl,de.of hx,rfl,_,rfl,_,_,rfl,rfl,mS.of n0 n1,?_⟩;refine⟨_,rfl,h,_,_,0,rfl,rfl,hx,rfl,?_⟩;have m:=g7 (a:=x) n0;exact⟨_,rfl,k _ _ m.1 m.2 ⟨_,_,ao,Int.ediv_nonneg x0 (Int.le_of_lt n0),y0,y1⟩ Fm.upd⟩
  ·have m1:=g7 (a:=y*48271) (b:=2147483647) (by decide)
   refine⟨_,rfl,h,_,_,_,rfl,rfl,de.of hx,rfl,_,_,rfl,rfl,.inr ⟨by decide,by decide⟩,_,_,rfl,rfl,(by show (0:Int)<2147483647;decide),?_⟩
   refine⟨_,rfl,h,_,_,1,rfl,rfl,hx,rfl,?_⟩;refine⟨_,rfl,h,_,_,_,rfl,rfl,de.of ao,rfl,_,_,rfl,rfl,_,_,rfl,rfl,E_ m1.1 m1.2,_,_,rfl,rfl,mS.of (by decide) (by decide),_,rfl,_,_,rfl,rfl,n0,?_⟩
   have m:=g7 (a:=(y*48271 % 2147483647+1) ^ (7:Int).toNat / 8) n0;exact k _ _ m.1 m.2 ⟨_,_,ao,x0,m1.1,m1.2⟩ Fm.upd
theorem bR:aU ["hand","many","found","piled","point","way"] ["hand","many"] (aw dw):=⟨rfl,rfl,rfl,by decide +kernel,rfl,by decide +kernel,by decide +kernel⟩
theorem vz {xq mf} (dA:D0 K mg xq mf) {z6 nY} (dT:D1 K mg z6 nY) (B:Bs mg):aR P w K mg base dj 2 xq mf ["hand","many"] (fZ P w e9 true mw):=by
 have GT:aR P w K mg base dj 1 _ _ _ (fZ P w e9 true bh):=jZ (g6 dT.F);refine yQ dA.F bR (λds R CB=> by obtain⟨n,e,_⟩ := CB;subst e;rfl) λbX A outer s H E IO hr=>⟨_,(ai (fC (i:=2) (λ_=>(a8 af)) bR.nd)
    (ai (fC (i:=3) (λ_=>(a8 af)) bR.nd)
    (ai (c5 L9 rfl (cD B.range (aa (ae (i:=1)) af)) (aA (i:=4) bR.nd) (ai (a5 (i:=5) (aO (ih:=0) bh.mono GT (hr.mono (by decide)) dT.m dT.F.kp dT.b (aa ah af)) bR.nd)
    (ai (bL (aN ax (cS.m (d7 hr.units)) (ae (i:=5)) ah) (au (eG (i:=3) (λ_=>(ae (i:=4))))) aY)
    (au (bL (qQ.t (u_ (aN ax (cS.m (d7 hr.units)) (ae (i:=5)) ah) (rX (aN ax (cS.m (dz hr.units)) (ae (i:=3)) (a8 af))))) (au (eG (i:=2) (λ_=>(a4 (aa (yt (i:=3)) (aa (ae (i:=4)) af)))))) aY)))))
    (au (bp (a9 aL kZ B.sorted gw (aa (ae (i:=2)) af))))))),λds R h=>?_⟩
 obtain⟨n,rfl,n0,n1,q⟩:=h;refine⟨Lp _,trivial,Lp _,trivial,_,rfl,trivial,n,rfl,by omega,by omega,trivial,?_⟩
 refine⟨λi β=>∃(fs:List (List Int)) (ps:List Int) (x4 x5:Option Q.B),β=[some (.hand e9),some (.val false (.int n)),some (.own (.lst (fs.map kD))),some (.own (.lst (ps.map D.int))),x4,x5]/\fs.length<=i/\ps.length<=i/\i<=n.toNat/\ba n fs/\(∀p∈ps,0<=p/\p<i),⟨[],[],_,_,rfl,KZ _,KZ _,Lp _,ba.nil,λ_ z=>(nomatch z)⟩,?_,?_⟩
 ·rintro i d β hd ⟨fs,ps,x4,x5,rfl,h1,h2,h3,h4,h5⟩;obtain⟨hi,rfl⟩:=cB hd;refine⟨rfl,trivial,rfl,trivial,3,rfl,by omega,by omega,λr r0 r1=>?_⟩
  refine⟨_,rfl,trivial,_,cj _ _,_,rfl,?_⟩;have fin:∃(qw:List (List Int)) (E8:List Int) (x4 x5:Option Q.B),[some (.hand e9),some (.val false (.int n)),some (.own (.lst (fs.map kD))),some (.own (.lst (ps.map D.int))),some (.val true (.int (0+(i:Int)))),some (.val true (.int r))]=[some (.hand e9),some (.val false (.int n)),some (.own (.lst (qw.map kD))),some (.own (.lst (E8.map D.int))),x4,x5]/\qw.length<=i+1/\E8.length<=i+1/\i+1<=n.toNat/\ba n qw/\(∀p∈E8,0<=p/\p<((i+1:Nat):Int)) :=
    ⟨fs,ps,_,_,rfl,by omega,by omega,by omega,h4,λp hp=>by have:=h5 p hp;omega⟩
  refine mV (λu6=>?_) (λu6=>?_)
  ·refine⟨⟨_,rfl⟩,_,rfl,trivial,_,rfl,by rw[KY,LL];omega,?_⟩
   refine⟨_,rfl,trivial,_,cj _ _,_,rfl,gS (by simp[u6]) (gS rfl ?_)⟩
   refine⟨fs,ps++[0+(i:Int)],_,_,by rw[rF];rfl,by omega,by simp;omega,by omega,h4,λp hp=>?_⟩
   rcases Lv.mp hp with z|z
   ·have:=h5 p z;omega
   ·rw[K_.mp z];omega
  ·refine⟨_,rfl,trivial,_,cj _ _,_,rfl,mV (λr2=>?_) (λr2=>gS rfl fin)⟩;refine⟨_,rfl,trivial,Lp _,_,tY ps [],_,rfl,Jo (λhp=>?_) (λhp=>fin)⟩;obtain⟨qs,p,rfl⟩:∃qs p,ps=qs++[p]:=⟨ps.dropLast,ps.getLast hp,(List.dropLast_concat_getLast hp).symm⟩;have HI:=h5 p (by simp)
   rw[Lz,MB]at h2;refine⟨⟨_,rfl⟩,qs.map D.int,.int p,by simp,trivial,_,rfl,trivial,h8,trivial,fs.map kD,rfl,by rw[KY,LL];omega,?_⟩
   refine⟨fs++[[p,0+(i:Int)]],qs,_,_,by rw[gV];rfl,by simp;omega,by omega,by omega,h4.app (ba.one (by omega) (by omega) (by omega)),λx hx=>?_⟩
   have:=h5 x (by simp[hx])
   omega
 ·rintro β ⟨fs,ps,x4,x5,rfl,h1,h2,h3,h4,h5⟩;rw[cz]at h1;refine⟨_,rfl,trivial,_,nj h4.ne (by omega),.inl ⟨cN _,trivial,rfl,q _ ?_ (rA h4)⟩⟩
  rw[(c8 fs).length_eq];exact h1
end
section
variable {P:K3}{w:Lf}{K:PySem.W.Frag}{mg:Str->Option KR}{base:Heap}
theorem aG:aU ["hand","many","way","found","k","one","other","reach","kinds","wide"] ["hand","many"] (aw dt):=⟨rfl,rfl,rfl,by decide +kernel,rfl,by decide +kernel,by decide +kernel⟩
def T9 (n way:Int)(f:Q.B)(β:Q.bt):Prop:=∃x4 x5 x6 x7 x8 x9:Option Q.B,β=[some (.hand e9),some (.val false (.int n)),some (.val true (.int way)),some f,x4,x5,x6,x7,x8,x9]
theorem vt {AG qx} (dI:D2 K mg AG qx) {z6 nY} (dT:D1 K mg z6 nY) {xq mf} (dA:D0 K mg xq mf) (B:Bs mg):aR P w K mg base dj 3 AG qx ["hand","many"] (fZ P w e9 true ml):=by
 have GT:aR P w K mg base dj 1 _ _ _ (fZ P w e9 true bh):=jZ (g6 dT.F);have GA:aR P w K mg base dj 2 _ _ _ (fZ P w e9 true mw):=vz dA dT B;refine yQ dI.F aG (λds R Cz=> by obtain⟨n,e,_⟩ := Cz;subst e;rfl) λbX A outer s H E IO hr=>⟨_,(ai (a5 (i:=2) (aO (ih:=0) bh.mono GT (hr.mono (by decide)) dT.m dT.F.kp dT.b (aa ah af)) aG.nd)
    (ai (fC (i:=3) (λ_=>(a8 af)) aG.nd)
    (cU (bL (qQ.t (ir (aN ax (cS.m (d7 hr.units)) (ae (i:=2)) ah) (gY (aN ax (cS.m (d7 hr.units)) (ae (i:=2)) ah)))) (au (c5 L9 rfl (cD B.range (aa (aO (ih:=0) bh.mono GT (hr.mono (by decide)) dT.m dT.F.kp dT.b (aa (fz ax kA (a8 (aa ah (aa ah (aa ah af)))) (aO (ih:=0) bh.mono GT (hr.mono (by decide)) dT.m dT.F.kp dT.b (aa ah af))) af)) af)) (aA (i:=4) aG.nd) (ai (a5 (i:=5) (aO (ih:=0) bh.mono GT (hr.mono (by decide)) dT.m dT.F.kp dT.b (aa (ae (i:=1)) af)) aG.nd)
    (ai (a5 (i:=6) (aZ ax (cS.m vp) (aZ aL aF (aZ aL aF (ae (i:=5)) ah) (aO (ih:=0) bh.mono GT (hr.mono (by decide)) dT.m dT.F.kp dT.b (aa (aZ ax (cS.m fE) (ae (i:=1)) ah) af))) (ae (i:=1))) aG.nd)
    (au (eG (i:=3) (λ_=>(a4 (aa (a9 ax (bJ.m (cQ rfl)) B.min i3 (aa (ae (i:=5)) (aa (ae (i:=6)) af))) (aa (a9 ax (bJ.m (dE rfl)) B.max i4 (aa (ae (i:=5)) (aa (ae (i:=6)) af))) af)))))))))) aY)
    (ai (a5 (i:=7) (aZ aL aF ah (aO (ih:=0) bh.mono GT (hr.mono (by decide)) dT.m dT.F.kp dT.b (aa ah af))) aG.nd)
    (cU (bL (aN ax (cS.m (d7 hr.units)) (ae (i:=2)) ah) (au (c5 L9 rfl (cD B.range (aa (ae (i:=1)) af)) (aA (i:=5) aG.nd) (au (c5 L9 rfl (ix B.range (aa (aZ aL aF (ae (i:=5)) ah) (aa (a9 ax (bJ.m (cQ rfl)) B.min i3 (aa (ae (i:=1)) (aa (aZ aL aF (aZ aL aF (ae (i:=5)) ah) (ae (i:=7))) af))) af))) (aA (i:=6) aG.nd) (au (bL (aN ax (cS.m sL) (aO (ih:=0) bh.mono GT (hr.mono (by decide)) dT.m dT.F.kp dT.b (aa ah af)) ah) (au (eG (i:=3) (λ_=>(a4 (aa (ae (i:=5)) (aa (ae (i:=6)) af)))))) aY)))))) aY)
    (cU (bL (aN ax (cS.m (d7 hr.units)) (ae (i:=2)) ah) (ai (a5 (i:=8) (DD ["point","hand"] [none,some 0] (by rfl) (by decide:(["point","hand"]:List Str).Nodup) rfl (cD B.range (aa (ae (i:=1)) af)) (λ_ _ _ _ _ _=>(aA (i:=0) (by decide:(["point","hand"]:List Str).Nodup))) (λ_ _ _ _ _ _=>jY) (λ_ _ _ _ _ _=>(aO (ih:=1) bh.mono GT (hr.mono (by decide)) dT.m dT.F.kp dT.b (aa ah af)))) aG.nd)
    (ai (a5 (i:=9) (fz ax kA (a8 (aa (ae (i:=1)) (aa ah af))) (gb ax (bJ.m qM) B.int ud (aa (yx ax (cS.m sL) (ae (i:=1)) ah) af))) aG.nd)
    (au (c5 L9 rfl (cD B.range (aa (ae (i:=1)) af)) (aA (i:=5) aG.nd) (au (p_ (i:=3) (DD ["k","one","kinds"] [none,some 5,some 8] (by rfl) (by decide:(["k","one","kinds"]:List Str).Nodup) rfl (ix B.range (aa (aZ aL aF (ae (i:=5)) ah) (aa (a9 ax (bJ.m (cQ rfl)) B.min i3 (aa (ae (i:=1)) (aa (aZ aL aF (ae (i:=5)) (ae (i:=9))) af))) af))) (λ_ _ _ _ _ _=>(aA (i:=0) (by decide:(["k","one","kinds"]:List Str).Nodup))) (λ_ _ _ _ _ _=>(xZ (aN ax (cS.m (d7 hr.units)) (aZ aL aF (fz ax kA (ae (i:=2)) (ae (i:=1))) (fz ax kA (ae (i:=2)) (ae (i:=0)))) ah))) (λ_ _ _ _ _ _=>(a4 (aa (ae (i:=1)) (aa (ae (i:=0)) af))))))))))) aY)
    (cU (bL (aN ax (cS.m (d7 hr.units)) (ae (i:=2)) ah) (au (fC (i:=3) (λ_=>(aZ aL aF (yw (i:=3)) (aO (ih:=0) mw.mono GA (hr.mono (by decide)) dA.m dA.F.kp dA.b (aa (ae (i:=1)) af)))) aG.nd)) aY)
    (au (bp (r9 (a9 aL (fT rfl) B.sorted gw (aa (gb ax (bJ.m (qK rfl hr.oA)) B.set Aj (aa (ae (i:=3)) af)) af)) iw (iu ah))))))))))),λds R h=>?_⟩
 obtain⟨n,rfl,n0,n1,q⟩:=h;refine⟨rfl,trivial,rfl,trivial,5,rfl,by lia,by lia,λway w0 w1=>?_⟩
 refine⟨Lp _,trivial,?_⟩;refine⟨λβ=>∃fs:List (List Int),T9 n way (.own (.lst (fs.map kD))) β/\ba n fs/\fs.length<=300/\(way≠1->way≠4->fs=[]),?_,?_⟩
 ·-- drawn IB
  have no:∃fs:List (List Int),T9 n way (.own (.lst (fs.map kD))) [some (.hand e9),some (.val false (.int n)),some (.val true (.int way)),some (.own (.lst [])),none,none,none,none,none,none]/\ba n fs/\fs.length<=300/\(way≠1->way≠4->fs=[]) :=
   ⟨[],⟨_,_,_,_,_,_,rfl⟩,ba.nil,by simp,λ_ _=>rfl⟩
  refine(λ(key:way=1\/way=4->_)=>⟨_,rfl,trivial,_,cj _ _,_,rfl,mV (λh1=>uA rfl (key (.inl h1))) (λh1=>⟨_,rfl,trivial,_,cj _ _,_,rfl,mV (λh4=>key (.inr h4)) (λh4=>no)⟩)⟩) ?_
  ·intro Kr;refine⟨rfl,trivial,trivial,trivial,IH,trivial,rfl,trivial,rfl,trivial,3,rfl,by lia,by lia,λr r0 r1=>pick r0 (by simpa using r1) λd hd=>?_⟩
   obtain⟨m,rfl,m0,m1⟩:∃m:Int,d=.int m/\0<m/\m<=301:=by
    simp only[K6,L_,or_false]at hd;rcases hd with rfl|rfl|rfl
    ·exact⟨5,rfl,by lia,by lia⟩
    ·exact⟨12,rfl,by lia,by lia⟩
    ·exact⟨301,rfl,by lia,by lia⟩
   refine⟨trivial,rfl,trivial,m,rfl,m0,by lia,λj j0 j1=>⟨trivial,j,rfl,by lia,by lia,trivial,?_⟩⟩
   refine⟨λi β=>∃fs:List (List Int),T9 n way (.own (.lst (fs.map kD))) β/\ba n fs/\fs.length<=i,⟨[],⟨_,_,_,_,_,_,rfl⟩,ba.nil,by simp⟩,?_,?_⟩
   ·rintro i d β hd ⟨fs,⟨x4,x5,x6,x7,x8,x9,rfl⟩,ht,hl⟩;obtain⟨hi,rfl⟩:=cB hd;refine⟨rfl,_,rfl,trivial,rfl,trivial,n,rfl,by lia,by lia,λone o0 o1=>?_⟩
    refine⟨_,rfl,trivial,_,rfl,trivial,rfl,_,rfl,trivial,_,rfl,trivial,rfl,trivial,n-1,rfl,by lia,by lia,λr' Ku u6=>?_⟩
    have F9:C4 (.int (one+1+r')) (.int n)=some (.int ((one+1+r') % n)):=if_pos (by lia)
    refine⟨_,rfl,trivial,_,rfl,_,F9,?_⟩;refine⟨⟨_,rfl⟩,_,rfl,trivial,_,rfl,trivial,_,rfl,trivial,_,rfl,trivial,_,rfl,trivial,_,rfl,trivial,h8,trivial,_,rfl,by rw[KY,LL];lia,?_⟩
    have tG:(one+1+r') % n≠one/\0<=(one+1+r') % n/\(one+1+r') % n<n:=by
     by_cases eS:one+1+r'<n
     ·rw[Int.emod_eq_of_lt (by lia) eS];lia
     ·rw[show one+1+r'=(one+1+r' - n)+n by lia,Int.add_emod_right,Int.emod_eq_of_lt (by lia) (by lia)];lia
    generalize (one+1+r') % n=Dx at tG;refine⟨fs++[[if Dx<one then Dx else one,if Dx>one then Dx else one]],⟨_,_,_,_,_,_,by rw[gV];rfl⟩,ht.app (ba.one ?_ ?_ ?_),by simp;lia⟩
    all_goals (split <;> (try split) <;> lia)
   ·rintro β ⟨fs,h9,ht,hl⟩;rw[cz]at hl;exact⟨fs,h9,ht,by lia,λa b=>by lia⟩
 ·rintro β ⟨fs,⟨x4,x5,x6,x7,x8,x9,rfl⟩,ht,hl,hz⟩;refine⟨trivial,rfl,trivial,rfl,trivial,6,rfl,by lia,by lia,λreach e0 e1=>⟨_,rfl,?_⟩⟩
  refine⟨λβ=>∃fs:List (List Int),T9 n way (.own (.lst (fs.map kD))) β/\ba n fs/\fs.length<=300/\(way=3->fs=[]),?_,?_⟩
  ·have no:∃qw:List (List Int),T9 n way (.own (.lst (qw.map kD))) [some (.hand e9),some (.val false (.int n)),some (.val true (.int way)),some (.own (.lst (fs.map kD))),x4,x5,x6,some (.val true (.int (1+reach))),x8,x9]/\ba n qw/\qw.length<=300/\(way=3->qw=[]) :=
    ⟨fs,⟨_,_,_,_,_,_,rfl⟩,ht,hl,λh=>hz (by lia) (by lia)⟩
   refine⟨_,rfl,trivial,_,cj _ _,_,rfl,mV (λw2=>?_) (λw2=>no)⟩;have Fv:fs=[]:=hz (by lia) (by lia)
   subst Fv;refine⟨_,rfl,trivial,n,rfl,by lia,by lia,trivial,?_⟩
   refine⟨λi β=>∃(fs:List (List Int)) (y4 y5 y6 y8 y9:Option Q.B),β=[some (.hand e9),some (.val false (.int n)),some (.val true (.int way)),some (.own (.lst (fs.map kD))),y4,y5,y6,some (.val true (.int (1+reach))),y8,y9]/\ba n fs/\fs.length<=i*6,⟨[],_,_,_,_,_,rfl,ba.nil,by simp⟩,?_,?_⟩
   ·rintro i d β hd ⟨fs,y4,y5,y6,y8,y9,rfl,ht,hl⟩;obtain⟨hi,rfl⟩:=cB hd;refine⟨_,rfl,trivial,_,rfl,trivial,_,rfl,trivial,_,rfl,trivial,_,rfl,trivial,_,rfl,_,rfl,trivial,_,rfl,trivial,_,_,rfl,⟨by lia,by lia,by split <;> lia,by split <;> lia⟩,trivial,?_⟩
    generalize DO:(0:Int)+(i:Int)+1=lo;have Gr:((if lo+(1+reach)<n then lo+(1+reach) else n)-lo).toNat<=6/\(if lo+(1+reach)<n then lo+(1+reach) else n)<=n:=by split <;> lia
    generalize (if lo+(1+reach)<n then lo+(1+reach) else n)=cf at Gr
    refine⟨λk β=>∃(fs:List (List Int)) (y4 y6 y8 y9:Option Q.B),β=[some (.hand e9),some (.val false (.int n)),some (.val true (.int way)),some (.own (.lst (fs.map kD))),y4,some (.val true (.int (0+(i:Int)))),y6,some (.val true (.int (1+reach))),y8,y9]/\ba n fs/\fs.length<=i*6+k,⟨fs,_,_,_,_,rfl,ht,by lia⟩,?_,?_⟩
    ·rintro k d β hd ⟨fs,y4,y6,y8,y9,rfl,ht,hl⟩;obtain⟨hk,rfl⟩:=cB hd;refine⟨rfl,trivial,rfl,trivial,3,rfl,by lia,by lia,λr r0 r1=>⟨trivial,_,rfl,_,rfl,mV (λhp=>?_) (λhp=>?_)⟩⟩
     ·refine⟨⟨_,rfl⟩,_,rfl,trivial,_,rfl,trivial,h8,trivial,_,rfl,by rw[KY,LL];lia,?_⟩
      exact⟨fs++[[0+(i:Int),lo+(k:Int)]],_,_,_,_,by rw[gV];rfl,ht.app (ba.one (by lia) (by lia) (by lia)),by simp;lia⟩
     ·exact⟨fs,_,_,_,_,rfl,ht,by lia⟩
    ·rintro β ⟨fs,y4,y6,y8,y9,rfl,ht,hl⟩;rw[cz]at hl;exact⟨fs,_,_,_,_,_,rfl,ht,by lia⟩
   ·rintro β ⟨fs,y4,y5,y6,y8,y9,rfl,ht,hl⟩;rw[cz]at hl;exact⟨fs,⟨_,_,_,_,_,_,rfl⟩,ht,by lia,λh=>by lia⟩
  ·rintro β ⟨fs,⟨x4,x5,x6,x7,x8,x9,rfl⟩,ht,hl,hz⟩;refine⟨λβ=>∃fs:List (List Int),T9 n way (.own (.lst (fs.map kD))) β/\ba n fs/\fs.length<=960/\(way=4->fs.length<=300),?_,?_⟩
   ·have no:∃qw:List (List Int),T9 n way (.own (.lst (qw.map kD))) [some (.hand e9),some (.val false (.int n)),some (.val true (.int way)),some (.own (.lst (fs.map kD))),x4,x5,x6,x7,x8,x9]/\ba n qw/\qw.length<=960/\(way=4->qw.length<=300) :=
     ⟨fs,⟨_,_,_,_,_,_,rfl⟩,ht,by lia,λh=>hl⟩
    refine⟨_,rfl,trivial,_,cj _ _,_,rfl,mV (λw3=>?_) (λw3=>no)⟩;have Fv:fs=[]:=hz w3;subst Fv;refine⟨_,rfl,trivial,n,rfl,by lia,by lia,trivial,?_⟩
    refine⟨λi β o=>(∃x0,β=[x0,some (.hand e9)])/\∃ks:List Int,o=ks.map D.int/\ks.length=i/\∀k∈ks,0<=k/\k<3,⟨⟨_,rfl⟩,[],rfl,rfl,λ_ z=>(nomatch z)⟩,?_,?_⟩
    ·rintro i d β o hd ⟨⟨x0,rfl⟩,ks,rfl,hk,HU⟩;obtain⟨hi,rfl⟩:=cB hd;refine⟨rfl,trivial,rfl,trivial,3,rfl,by lia,by lia,λr r0 r1=>⟨trivial,by rw[KY,LL];lia,⟨_,rfl⟩,ks++[r],by simp,by simp[hk],λk hk=>?_⟩⟩
     rcases Lv.mp hk with z|z
     ·exact HU k z
     ·rw[K_.mp z];exact⟨r0,r1⟩
    rintro β o ⟨⟨x0,rfl⟩,ks,rfl,ho,HU⟩;rw[cz]at ho;refine⟨⟨rfl,trivial⟩,?_⟩;obtain⟨wd,J8,Kq,Ko⟩:∃wd:Int,Aa (.lst [.int n,.int 14]) (.int (if decide (n>24)=true then 1 else 0))=some (.int wd)/\0<=wd/\wd<=24:=by
     by_cases hn:n>24
     ·exact⟨14,by rw[if_pos (by simpa using hn)];rfl,by lia,by lia⟩
     ·exact⟨n,by rw[if_neg (by simpa using hn)];rfl,by lia,by lia⟩
    refine⟨_,rfl,trivial,trivial,h8,trivial,_,rfl,trivial,_,rfl,trivial,_,rfl,_,J8,?_⟩;refine⟨_,rfl,trivial,n,rfl,by lia,by lia,trivial,?_⟩
    refine⟨λi β=>∃(fs:List (List Int)) (y4 y5 y6 y7:Option Q.B),β=[some (.hand e9),some (.val false (.int n)),some (.val true (.int way)),some (.own (.lst (fs.map kD))),y4,y5,y6,y7,some (.val true (.lst (ks.map D.int))),some (.val true (.int wd))]/\ba n fs/\fs.length<=i*24,⟨[],_,_,_,_,rfl,ba.nil,by simp⟩,?_,?_⟩
    ·rintro i d β hd ⟨fs,y4,y5,y6,y7,rfl,ht,hl⟩;obtain⟨hi,rfl⟩:=cB hd;refine⟨⟨_,rfl⟩,_,rfl,trivial,_,rfl,trivial,_,rfl,trivial,_,rfl,trivial,_,rfl,_,rfl,trivial,_,rfl,trivial,_,_,rfl,⟨by lia,by lia,by split <;> lia,by split <;> lia⟩,trivial,?_⟩
     have Gr:((if 0+(i:Int)+wd<n then 0+(i:Int)+wd else n)-(0+(i:Int)+1)).toNat<=24/\(if 0+(i:Int)+wd<n then 0+(i:Int)+wd else n)<=n:=by split <;> lia
     generalize (if 0+(i:Int)+wd<n then 0+(i:Int)+wd else n)=cf at Gr
     refine⟨λj β o=>(∃x0,β=[x0,some (.val true (.int (0+(i:Int)))),some (.val true (.lst (ks.map D.int)))])/\∃us:List (List Int),o=us.map kD/\us.length<=j/\ba n us,⟨⟨_,rfl⟩,[],rfl,KZ _,ba.nil⟩,?_,?_⟩
     ·rintro j d β o hd ⟨⟨x0,rfl⟩,us,rfl,hj,qp⟩;obtain⟨DP,rfl⟩:=cB hd;obtain⟨r1,_,e1⟩:=my (ks:=ks) (i:=0+(i:Int)) (by lia) (by lia)
      obtain⟨r2,_,e2⟩:=my (ks:=ks) (i:=0+(i:Int)+1+(j:Int)) (by lia) (by lia)
      refine⟨_,rfl,trivial,_,rfl,_,e1,trivial,_,rfl,trivial,_,rfl,_,e2,_,rfl,trivial,_,cj _ _,_,rfl,mV (λh=>?_) (λh=>⟨⟨_,rfl⟩,us,rfl,by lia,qp⟩)⟩
      refine⟨_,rfl,trivial,_,rfl,trivial,h8,trivial,by rw[KY,LL];lia,⟨_,rfl⟩,us++[[0+(i:Int),0+(i:Int)+1+(j:Int)]],by rw[gV];rfl,by simp;lia,qp.app (ba.one (by lia) (by lia) (by lia))⟩
     ·rintro β o ⟨⟨x0,rfl⟩,us,rfl,hlen,qp⟩;rw[cz]at hlen;refine⟨trivial,_,us.map kD,rfl,cN us,rfl,by rw[KY,KY,LL];lia,?_⟩
      exact⟨fs++us,_,_,_,_,by rw[Mp];rfl,ht.app qp,by simp;lia⟩
    ·rintro β ⟨fs,y4,y5,y6,y7,rfl,ht,hl⟩;rw[cz]at hl;exact⟨fs,⟨_,_,_,_,_,_,rfl⟩,ht,by lia,λh=>by lia⟩
   ·rintro β ⟨fs,⟨x4,x5,x6,x7,x8,x9,rfl⟩,ht,hl,hz⟩;refine⟨λβ=>∃fs:List (List Int),T9 n way (.own (.lst (fs.map kD))) β/\ba n fs/\fs.length<1000,?_,?_⟩
    ·refine⟨_,rfl,trivial,_,cj _ _,_,rfl,mV (λw4=>?_) (λw4=>⟨fs,⟨_,_,_,_,_,_,rfl⟩,ht,by lia⟩)⟩
     have:=hz w4;refine⟨_,rfl,trivial,rfl,_,rfl,trivial,rfl,trivial,n,rfl,by lia,by lia,λts tl tt=>?_⟩
     have ea:Ac (.lst (fs.map kD)) (.lst (ts.map kD))=some (.lst ((fs++ts).map kD)):=by
      rw[Mp];exact if_pos (by rw[KY,KY,LL];lia)
     exact⟨_,ea,.inl ⟨cN _,trivial,fs++ts,⟨_,_,_,_,_,_,rfl⟩,ht.app tt,by simp;lia⟩⟩
    ·rintro β ⟨fs,⟨x4,x5,x6,x7,x8,x9,rfl⟩,ht,hl⟩;obtain⟨ts,e,nQ⟩:=tW ht;refine⟨_,rfl,trivial,_,rN ht.ne hl,.inr ⟨trivial,_,ic ht.ne hl,.inl ⟨cN _,300,rfl,_,rfl,?_⟩⟩⟩;rw[e];exact .inl ⟨cN _,trivial,rfl,q _ nQ⟩
theorem ik:aU ["hand","many"] ["hand"] (aw eC):=⟨rfl,rfl,rfl,by decide +kernel,rfl,by decide +kernel,by decide +kernel⟩
theorem yK {DW v8} (dR:D3 K mg DW v8) {z6 nY} (dT:D1 K mg z6 nY) {xq mf} (dA:D0 K mg xq mf) {AG qx} (dI:D2 K mg AG qx) (B:Bs mg):aR P w K mg base dj 4 DW v8 ["hand"] (fZ P w e9 true tP):=by
 have GT:aR P w K mg base dj 1 _ _ _ (fZ P w e9 true bh):=jZ (g6 dT.F);have GI:aR P w K mg base dj 3 _ _ _ (fZ P w e9 true ml):=vt dI dT dA B;refine yQ dR.F ik (λds R Cy=> by obtain⟨e,_⟩ := Cy;subst e;rfl) λbX A outer s H E IO hr=>⟨_,(ai (a5 (i:=1) (aO (ih:=0) bh.mono GT (hr.mono (by decide)) dT.m dT.F.kp dT.b (aa (fz ax kA (a8 (aa ah (aa ah (aa ah (aa ah af))))) (aO (ih:=0) bh.mono GT (hr.mono (by decide)) dT.m dT.F.kp dT.b (aa ah af))) af)) ik.nd)
    (ai (bL (aN ax (cS.m cJ) (ae (i:=1)) ah) (au (bp (a4 (aa (ae (i:=1)) (aa (a8 af) af))))) aY)
    (au (bp (a4 (aa (ae (i:=1)) (aa (aO (ih:=0) ml.mono GI (hr.mono (by decide)) dI.m dI.F.kp dI.b (aa (ae (i:=1)) af)) af))))))),λds R h=>?_⟩
 obtain⟨rfl,q⟩:=h;refine⟨rfl,trivial,trivial,trivial,trivial,(by show 4<=Lk;decide),trivial,rfl,trivial,rfl,trivial,4,rfl,by lia,by lia,λr r0 r1=>pick r0 (by simpa using r1) λd hd=>?_⟩
 obtain⟨m,rfl,m0,m1⟩:∃m:Int,d=.int m/\0<m/\m<=41:=by
  simp only[K6,L_,or_false]at hd;rcases hd with rfl|rfl|rfl|rfl
  ·exact⟨7,rfl,by lia,by lia⟩
  ·exact⟨7,rfl,by lia,by lia⟩
  ·exact⟨11,rfl,by lia,by lia⟩
  ·exact⟨41,rfl,by lia,by lia⟩
 refine⟨trivial,rfl,trivial,m,rfl,m0,by lia,λn j0 j1=>?_⟩
 refine⟨_,rfl,trivial,_,rfl,_,rfl,mV (λh=>?_) (λh=>?_)⟩
 ·exact⟨_,rfl,trivial,Lp _,trivial,h8,trivial,rfl,q n [] j0 (by lia) ⟨by simp,ba.nil,List.Pairwise.nil,LO⟩⟩
 ·exact⟨_,rfl,trivial,rfl,_,rfl,trivial,rfl,trivial,n,rfl,by lia,by lia,λts nQ=>⟨trivial,h8,trivial,rfl,q n ts j0 (by lia) nQ⟩⟩
end
end jU
namespace L2.Q
open PySem PySem.Spec PySem.SeqAt PyProof.Rows
theorem qD (ns:List Int)(lo hi:Option Int):∃ms:List Int,mB (ns.map V.int) lo hi=ms.map V.int/\ms.length<=ns.length:=by
 refine⟨(ns.drop (HT.gW (ns.map V.int).length 0 lo)).take (HT.gW (ns.map V.int).length (ns.map V.int).length hi-HT.gW (ns.map V.int).length 0 lo),?_,?_⟩
 ·unfold mB;rw[NJ,Om]
 ·rw[Lw,M7];lia
section
variable {P:K3}{w:Lf}
theorem cn {W:Addr->Prop}{H:Hp}:∀ns:List Int,ag P w W H (ns.map D.int) (ns.map V.int)
 |[]=>rfl
 |n::ns=>⟨_,_,rfl,rfl,cn ns⟩
theorem uQ {N:List Str}{vs:List V}{H H':Hp}{n:Nat}{ro:Bool}{U:Addr->Prop}(hl:(L2.start N vs).length=n)(sm:ay H H'):bw P w ⟨H,λ_=>False,ro,U⟩ (L2.start N vs) H' (MI n none) (λ_=>[]) :=
 ⟨by rw[hl,List.length_replicate],λi y d h=>(dZ h).elim,λi d h=>(dZ h).elim,λi ok h=>(dZ h).elim,λi a h=>(nomatch h),λi j a h=>(nomatch h),λi=>LO,sm.kp,λa z e=>z (sm.free e),λi y d h=>(dZ h).elim⟩
theorem Be {ro:Bool}{H H':Hp}{b:Bool}{v:V}(h:k8 P w ro H H' (.bl b) v):v=.bl b:=by
 cases ro with
 |true=>obtain⟨A,h1,_⟩:=h;exact h1.1
 |false=>exact h
end
theorem t9 {β:bt}{i j k l:Nat}{y1 y2 y3 y4:Bool}{a b c d:Int}{R:D->Kd->bt->Prop}(h1:β[i]?=some (some (.val y1 (.int a))))(h2:β[j]?=some (some (.val y2 (.int b))))(h3:β[k]?=some (some (.val y3 (.int c))))(h4:β[l]?=some (some (.val y4 (.int d))))
  (q:R (.bl (decide (a<b)&&(decide (b<c)&&decide (c<d)))) .own β):nv (rR i) (yp DZ (rR j) (yp DZ (rR k) (Bn DZ (rR l)))) β R:=by
 refine⟨_,h1,_,h2,_,rfl,mV (λz1=>⟨_,h3,_,rfl,mV (λz2=>⟨_,h4,_,rfl,?_⟩) (λz2=>?_)⟩) (λz1=>?_)⟩
 ·simpa[z1,z2] using q
 ·simpa[z1,z2] using q
 ·simpa[z1] using q
end L2.Q
namespace L2
open PySem PySem.Spec PySem.SeqAt PyProof.Rows
def D.yY:D->Option (List D)
 |.lst ds=>some ds
 |_=>none
theorem D.oY {d:D}{ds:List D}(h:d.yY=some ds):d=.lst ds:=by
 cases d <;> first|(cases h;rfl)|cases h
section
end
end L2
namespace L2.EX
open PySem PySem.W PySem.Spec PySem.Calls PyProof.Rows Builtin Builtin.ObjectAttr Builtin.Getset_descriptor
def ExcAt (a C:Addr)(h:Heap):Prop:=∃o vs,h.get? a=some o/\o.cls=.ref C/\o.data=.fields vs
theorem ExcAt.ty {a C:Addr}{h:Heap}{M:OJ}(p:ExcAt a C h):Looks M h (typeOf (.ref a)) (.ref C):=by
 obtain⟨o,vs,h1,h2,_⟩:=p;exact h2▸(Looks.ld h1).andThen .now
section
variable {prog:K3}{w:Lf}{A:LI}{E:KR->KU->Prop}{s:KU}{K:Frag}{x C:Addr}{R:Result->KU->Prop}
theorem class_get {tp:KR} (X:K.In s.heap) (I:ExcAt x C s.heap) (hm:mroIn K C (.type "object")=some true)
  (h:R (.ok (.ret (.ref C))) s):Na (model prog w) A (.call (.builtin "getset_descriptor.__get__") ⟨[.builtin "object.__class__",.ref x,tp],[]⟩) R s:=by
 obtain⟨hh,g,dr,t,os⟩:=s;have L0:=I.ty (M:=model prog w);have L1:=looks_mroIn (M:=model prog w) X hm;refine Oa KF.slot_gs.plain KF.entry_gs (KF.slot_gs.check _ _ _ _ _ _ _ _ KF.type_class (KF.args_gs _ _ _) ?_);unfold Mn.«getset_descriptor.__get__» descrGet;rw[dga_obj];refine KS (K0 ?_);unfold descrGetter descrCheckInstance descrNameAndClass isInstance;simp only[KF.owner_class]
 repeat lk
 refine⟨Code.quiet_builtin _ (by decide +kernel),Ni KF.entry_class ?_⟩
 unfold Mn.«object.__class__» shownTypeOf
 repeat lk
 exact h
structure XC (K:Frag)(C:Addr):Prop where
 obj:mroIn K C (.type "object")=some true
 base:mroIn K C (.type "BaseException")=some true
 ga:findIn K (.ref C) "__getattribute__" = some (some (.builtin "BaseException.__getattribute__"))
 hook:findIn K (.ref C) "__getattr__" = some none
 cls:findIn K (.ref C) "__class__" = some (some (.builtin "object.__class__"))
theorem t8 {M:OJ} {wW:KR} {Q:Unit->KU->Prop} (X:K.In s.heap) (I:ExcAt x C s.heap) (Z:XC K C) (hq:Q () s):Ln M A (NQ "BaseException.__getattribute__" ⟨[.ref x,wW],[]⟩) Q E s:=by
 obtain⟨hh,g,dr,t,os⟩:=s;have hk:builtinKind "BaseException.__getattribute__" = some .slot:=by decide +kernel
 have zu:splitId "BaseException.__getattribute__" = some ("BaseException","__getattribute__"):=by decide +kernel
 have ha:=F.args_bexc_ga (.ref x) wW;have L0:=I.ty (M:=M);have L1:=looks_mroIn (M:=M) X Z.base;simp only[NQ,hk,zu];refine KS ?_;unfold isInstance
 repeat lk
 exact hq
theorem mE {tk:Tok}{Q:Fin->KU->Prop}(X:K.In s.heap)(I:ExcAt x C s.heap)(Z:XC K C)(hq:Q (.done (.ret (.ref C))) s):
  Ln (model prog w) A (Mn.«object.__getattribute__» ⟨[.ref x,.str "__class__" tk],[]⟩) Q E s:=by
 obtain⟨hh,g,dr,t,os⟩:=s;have L0:=I.ty (M:=model prog w);have L1:=looks_findIn (M:=model prog w) X Z.cls;have L2:=looks_specialIn (M:=model prog w) (K:=K) X (v:=.builtin "object.__class__") (name:="__get__") (r:=some (.builtin "getset_descriptor.__get__")) (by kernel_rfl)
 have L3:=looks_takesIn (M:=model prog w) (K:=K) X (a:=.builtin "object.__class__") (r:=true) (by kernel_rfl)
 unfold Mn.«object.__getattribute__»
 repeat (first|(with_reducible refine KS (NU (class_get (s:=⟨hh,g,dr,t,os⟩) X I Z.obj ?_)))|(with_reducible refine NU (class_get (s:=⟨hh,g,dr,t,os⟩) X I Z.obj ?_))|lk)
 exact hq
theorem oj {Q:Option KR->KU->Prop}(X:K.In s.heap)(I:ExcAt x C s.heap)(Z:XC K C)(h:Q (some (.ref C)) {s with toks:=s.toks+1}):Ln (model prog w) A (getAttr? (.ref x) "__class__") Q E s:=by
 obtain⟨hh,g,dr,t,os⟩:=s;have L0:=I.ty (M:=model prog w);have L1:=looks_findIn (M:=model prog w) X Z.ga;have L2:=looks_findIn (M:=model prog w) X Z.hook;have f3:=F.attr_ValueError.ga.bind (.ref x);have zt:(Ol "BaseException.__getattribute__" == Ol "object.__getattribute__")=false:=by decide +kernel
 have uB:(onTheHeap (Value.ref C)&&Ol "BaseException.__getattribute__" == Ol "object.__getattribute__")=false:=by rw[zt];rfl
 unfold getAttr? getAttrBy? getAttrBy;refine KS (wpAny_mkText (KS (ND (L7 (KS (L0.at (KS (L1.at ?_))))))));dsimp only;rw[if_neg (λq=>by rw[uB]at q;cases q)]
 unfold getAttrByItsOwn hookBefore onTheHeap callGetattribute boundAndCalled;dsimp only;rw[if_pos rfl];refine KS (L2.at (KS (ND (L7 ?_))));simp only[Bool.false_and,Nu,if_false];refine KS (wpAny_of_eq f3 ?_);refine NU (Oa F.attr_ValueError.ga.plain F.entry_bexc_ga (t8 (s:=⟨hh,g,dr,t+1,os⟩) X I Z (mE (s:=⟨hh,g,dr,t+1,os⟩) X I Z ?_)));exact handed_on rfl (K0 h)
theorem lW (Z:XC K C):KitX K (.ref x) (.ref C) (ExcAt x C) where
 ty:=λ_ _ _ I=>I.ty
 it:=λ_ _ X _=>by
  obtain⟨cd,hc,_⟩:=L5.mp Z.obj;unfold clsIn at hc
  split at hc
  ·rename_i c' d' Kg oG ho
   intro A' Q' E' s' k q;unfold isType loadHead;exact KS (wpAny_loadPart (k _ _ (X _ _ ho)) (K0 q))
  ·cases hc
 ne:=λh tp dd its n sl X Ju=>by
  obtain⟨cd,hc,_⟩:=L5.mp Z.obj;refine Bool.eq_false_iff.mpr λq=>?_;have e:C=tp:=Value.ref.inj (beq_iff_eq.mp q);subst e;unfold clsIn at hc
  split at hc
  ·rename_i c' d' Kg oG ho
   have z:=(X _ _ ho).symm.trans Ju;cases z
  ·cases hc
 ca:=λX I k=>oj X I Z k
end
end L2.EX
namespace L2
open PySem PySem.W PySem.Spec PyProof.Rows
abbrev gA (C a:Addr):HO:=.ext (EX.ExcAt a C)
def D.exc (C:Addr):D:=.ob (gA C)
structure Aq (P:K3)(w:Lf)(outer:List Env)(H:Hp)(s:KU)(a C:Addr)(H':Hp)(s':KU):Prop where
 os:s'.os=s.os
 bare:NC s'.gens
 un:Un (dP outer) [] H H' s.heap s'.heap
 a_:eW P w H' s'.heap
 fl:∃(B:Heap) (a0:KR),M1 B outer a (.ref C) a0 s'.heap/\(∀b,H' b≠none->∃o,B.get? b=some o) /\
  ∀b o,s.heap.get? b=some o->b∉dP outer->∃o',B.get? b=some o'/\(H b=none->o'=o)
 nt:H' a=none
 nw:s.heap.get? a=none
def qS (P:K3)(w:Lf):qR:=λouter H s E e s'=>∃(a C:Addr) (H':Hp),e=.ref a/\Aq P w outer H s a C H' s'/\E (.ref C) none H'
section
variable {P:K3}{w:Lf}{H:Hp}{h h' B:Heap}
theorem jF (x:eW P w H h){b:Addr}(e:H b≠none):∃o,h.get? b=some o:=by
 cases q:H b with
 |none=>exact absurd q e
 |some u =>
  have z:=x b u q;cases u with
  |lst xs=>obtain⟨_,_,_,_,e⟩:=z;exact⟨_,e⟩
  |tup xs=>obtain⟨_,_,_,o,e,_⟩:=z;exact⟨_,e⟩
  |dK kz=>obtain⟨_,_,_,_,o,_,_,e,_⟩:=z;exact⟨_,e⟩
  |dT kz=>obtain⟨_,_,_,_,o,_,_,e,_⟩:=z;exact⟨_,e⟩
  |set S n=>obtain⟨o,_,_,_,e,_⟩:=z;exact⟨_,e⟩
  |ins C dx fs=>obtain⟨_,_,_,e,_⟩:=z;exact⟨_,e⟩
  |own y=>obtain⟨_,e⟩:=z;exact⟨_,e⟩
  |xd fs=>obtain⟨_,⟨_,_,_,e,_⟩,_⟩:=z;exact⟨_,e⟩
  |Dw lo hi=>obtain⟨_,_,_,e⟩:=z;exact⟨_,e⟩
  |tO ob u=>obtain⟨e,_⟩:=z;exact⟨_,e⟩
  |wK ps=>exact⟨_,(show h.get? b=some _ from z)⟩
  |met f y=>exact⟨_,(show h.get? b=some _ from z)⟩
  |ext φ=>obtain⟨_,e,_⟩:=z;exact e
theorem gn (x:eW P w H h)(st:B.StaysIn h)(ak:B.StaysIn h')(tr:∀b,H b≠none->∃o,B.get? b=some o):eW P w H h':=λb u e =>
 (x b u e).j5 (λc v hc q=>by
  have nc:H c≠none:=by
   rcases hc with rfl|z
   ·rw[e];exact λz=>(nomatch z)
   ·rw[z];exact λz=>(nomatch z)
  obtain⟨o,ho⟩:=tr c nc;rw[st c o ho]at q;cases q;exact ak c _ ho) (λ_ q=>q) λ_ _ q=>q
end
section
variable {X:Cx}{pins:List (Addr×Obj)}{σ:St}{H H':Hp}{s s':KU}{e C:Addr}
theorem nX {B:Heap}{outer:List Env}{h0 h1 h2:Heap}{H0:Hp}(u:Un (dP outer) [] H0 H h0 h1)(ff:h1.FunFrames B outer)(st:B.StaysIn h2)(up:h1.UpToSlots h2)
  (tr:∀b o,h0.get? b=some o->b∉dP outer->∃o',B.get? b=some o'/\(H0 b=none->o'=o)):Un (dP outer) [] H0 H h0 h2 where
 keep:=λb o e n hb _=>by
  obtain⟨o',e1,e2⟩:=tr b o e hb;rw[<- e2 n];exact st b _ e1
 slot:=λb o e n hb hx=>by
  obtain⟨sl,e1⟩:=u.slot b o e n hb hx;obtain⟨_,o',e2,nf⟩:=ff.mem hb;rw[e1]at e2;cases e2;obtain⟨oG,e3⟩:=up b _ e1 nf;exact⟨oG,e3⟩
 free:=u.free
 there:=λb o e hx=>by
  by_cases hb:b∈dP outer
  ·obtain⟨_,o',e2,nf⟩:=ff.mem hb;obtain⟨oG,e3⟩:=up b _ e2 nf;exact⟨_,e3⟩
  ·obtain⟨o',e1,_⟩:=tr b o e hb;exact⟨o',st b _ e1⟩
 eX:=u.eX
 eO:=u.eO
 eY:=u.eY
theorem nJ {vs:List KR}{hs:Heap}{M:OJ}{E:KR->KU->Prop}{Q:Unit->KU->Prop}(I:Inv X pins σ H s)(hx:X.ex=[])(kG:X.stack=X.env::X.outer)(hf:X.env.frame=some X.env.locals)(m:Heap.MadeExcOf s.heap hs e (.ref C) vs)
  (k:∀rP,Aq X.prog X.w X.outer X.H₀ X.s₀ e C H rP->Q () rP):Ln M X.A (leaving X.env (.ref e)) Q E {s with heap:=hs}:=by
 have fr:X.A.frames=some (X.env::X.outer):=by rw[<- kG];exact I.ok.frames
 have ff:s.heap.FunFrames X.base (X.env::X.outer):=by rw[<- kG];exact I.stack
 have k9:∀env∈(X.env::X.outer),∀b,env.frame=some b->b∈dP (X.env::X.outer):=λenv he b hb=>MR.mpr ⟨env,he,hb⟩;have nl:∀b o,X.s₀.heap.get? b=some o->b∉X.fs->b∉dP (X.env::X.outer):=λb o eb nb z=>by
  unfold dP at z;rw[LA,hf]at z;rcases K6.mp z with z|z
  ·exact absurd (Ll (K8 eb) I.ok.above) (by rw[z];exact Mz _)
  ·exact nb z
 have I0:∀b,b∉X.ex:=λb z=>by rw[hx]at z;cases z
 have Hc:(hideAll s.heap (dP (X.env::X.outer))).StaysIn s.heap:=λb o q=>of_hideAll _ q;refine wpAny_leaves_madeW (h:=s.heap) (base:=hideAll s.heap (dP (X.env::X.outer))) fr hf Hc (funFrames_hide ff k9) m λh' t f1 f2 f3 f4=>k _ ?_;have tr:∀b,H b≠none->∃o,(hideAll s.heap (dP (X.env::X.outer))).get? b=some o:=λb nb=>by
  obtain⟨o,ho⟩:=jF I.a_ nb;exact⟨o,hideAll_get _ ho λz=>nb (I.j4 b (by rw[kG];exact z))⟩
 have ux:∀b o,X.s₀.heap.get? b=some o->b∉dP X.outer->∃o',(hideAll s.heap (dP (X.env::X.outer))).get? b=some o'/\(X.H₀ b=none->o'=o):=λb o eb nb=>by
  obtain⟨o1,e1⟩:=I.base.there b o eb (I0 b);refine⟨o1,hideAll_get _ e1 (nl b o eb nb),λn=>?_⟩;rw[I.base.keep b o eb n nb (I0 b)]at e1;exact(Lq e1).symm
 have u0:Un (dP X.outer) [] X.H₀ H X.s₀.heap s.heap:=by
  have z:=I.base;rw[hx]at z;exact z
 have J4:s.heap.FunFrames (hideAll s.heap (dP (X.env::X.outer))) X.outer:=(funFrames_hide ff k9).2.2;refine⟨I.os,I.bare,nX u0 J4 f1.1 ((Heap.UpToSlots.of_keeps m.keeps).trans f4) ux,gn I.a_ Hc f1.1 tr,⟨_,_,f1,tr,ux⟩,?_,?_⟩
 ·cases q:H e with
  |none=>rfl
  |some u =>
   obtain⟨o,ho⟩:=jF I.a_ (b:=e) (by rw[q];exact λz=>(nomatch z))
   rw[m.new]at ho;cases ho
 ·cases q:X.s₀.heap.get? e with
  |none=>rfl
  |some o =>
   obtain⟨o',e1⟩:=I.base.there e o q (I0 e);rw[m.new]at e1;cases e1
theorem sY {M:OJ}{E:KR->KU->Prop}{Q:Unit->KU->Prop}(I:Inv X pins σ H s)(hx:X.ex=[])(kG:X.stack=X.env::X.outer)(hf:X.env.frame=some X.env.locals)(f:Aq X.prog X.w X.stack H s e C H' s')
  (k:∀rP,Aq X.prog X.w X.outer X.H₀ X.s₀ e C H' rP->Q () rP):Ln M X.A (leaving X.env (.ref e)) Q E s':=by
 have fr:X.A.frames=some (X.env::X.outer):=by rw[<- kG];exact I.ok.frames
 have I0:∀b,b∉X.ex:=λb z=>by rw[hx]at z;cases z
 obtain⟨os,bare,un,a_,⟨B,a0,fl,tr,ux⟩,nt,nw⟩:=f;rw[kG]at fl un ux;have nl:∀b o,X.s₀.heap.get? b=some o->b∉X.fs->b∉dP (X.env::X.outer):=λb o eb nb z=>by
  unfold dP at z;rw[LA,hf]at z;rcases K6.mp z with z|z
  ·exact absurd (Ll (K8 eb) I.ok.above) (by rw[z];exact Mz _)
  ·exact nb z
 refine wpAny_leaves_onW fr hf fl λh' f1 f4=>k _ ?_;have u0:Un (dP X.outer) [] X.H₀ H X.s₀.heap s.heap:=by
  have z:=I.base;rw[hx]at z;exact z
 have Er:∀b o,X.s₀.heap.get? b=some o->b∉dP X.outer->∃o',B.get? b=some o'/\(X.H₀ b=none->o'=o):=λb o eb nb=>by
  obtain⟨o1,e1⟩:=I.base.there b o eb (I0 b);obtain⟨o',e2,e3⟩:=ux b o1 e1 (nl b o eb nb);refine⟨o',e2,λn=>?_⟩;rw[I.base.keep b o eb n nb (I0 b)]at e1;cases e1;exact e3 (I.base.free b o eb n (I0 b))
 have u1:Un (dP X.outer) [] X.H₀ H' X.s₀.heap s'.heap:=by
  refine⟨λb o eb n nb _=>?_,λb o eb n hb hx=>?_,λb o eb n hx=>?_,λb o eb hx=>?_,λb xs q=>un.eX b xs (u0.eX b xs q),λb o q z=>un.eO b o q (u0.eO b o q z),λb ps q=>?_⟩
  ·obtain⟨o',e1,e2⟩:=Er b o eb nb;rw[<- e2 n];exact fl.1 b _ e1
  ·obtain⟨sl,e1⟩:=u0.slot b o eb n hb hx;have DU:b∈dP (X.env::X.outer):=by unfold dP;rw[LA,hf];exact Lc _ hb
   obtain⟨oG,e2⟩:=un.slot b _ e1 (u0.free b o eb n hx) DU (by simp)
   exact⟨oG,e2⟩
  ·obtain⟨o',e1⟩:=u0.there b o eb hx;exact un.free b o' e1 (u0.free b o eb n hx) (by simp)
  ·obtain⟨o',e1⟩:=u0.there b o eb hx;exact un.there b o' e1 (by simp)
  ·obtain⟨m1,e1⟩:=u0.eY b ps q;obtain⟨m2,e2⟩:=un.eY b _ e1;exact⟨m1++m2,by rw[e2,Array.append_assoc]⟩
 refine⟨os.trans I.os,bare,nX u1 fl.2.2.1.2.2 f1.1 f4 Er,gn a_ fl.1 f1.1 tr,⟨B,a0,f1,tr,Er⟩,nt,?_⟩;cases q:X.s₀.heap.get? e with
 |none=>rfl
 |some o =>
  obtain⟨o',e1⟩:=I.base.there e o q (I0 e);rw[nw]at e1;cases e1
end
abbrev Cx.uD (X:Cx)(e:Addr):Cx:={X with A:=X.A.mark (some (.ref e)),calm:=false,xe:=λ_ _=>False}
section
variable {X:Cx}{pins:List (Addr×Obj)}{σ:St}{H H':Hp}{s s':KU}{e C:Addr}
theorem Inv.uD (I:Inv X pins σ H s):Inv (X.uD e) pins σ H s :=
 ⟨⟨I.ok.mod,I.ok.kind,I.ok.glob,I.ok.blt,I.ok.above,I.ok.inj,I.ok.has,I.ok.xE,(λz=>by cases z),I.ok.frames,I.ok.x_,I.ok.wb,I.ok.bs,I.ok.ue,I.ok.lI,I.ok.kP,I.ok.fO,I.ok.vZ⟩,I.os,I.bare,I.base,I.loc,I.cell,I.free,I.b9,I.pin,I.a_,I.len⟩
theorem Inv.AS (ok:X.Ok)(I:Inv (X.uD e) pins σ H s):Inv X pins σ H s:=⟨ok,I.os,I.bare,I.base,I.loc,I.cell,I.free,I.b9,I.pin,I.a_,I.len⟩
theorem vX {M:OJ}{A:LI}{E:KR->KU->Prop}{j:Nat}{n:Str}{pos:Pos}{Q:Unit->KU->Prop}(I:Inv X pins σ H s)(hN:X.N.Nodup)(hj:X.N[j]?=some n)(hl:X.env.scope.names.lookup n=some .local)
  (h:∀s',Inv X pins (σ.set j none) H s'->Q () s'):Ln M A (do bindName X.env n .none;unbindBehindTheSuite X.env n pos) Q E s:=by
 obtain⟨m,hn,qu⟩:=id I.loc;have zT:(X.env.scope.kind==.class || (X.env.scope.kind==.module&&X.env.locals != X.env.globals))=false:=by rw[I.ok.kind];rfl
 have t6:=I.t6;obtain⟨oL,_,_,HL,_⟩:=id hn;refine wpAny_nameGoes_keeps hl hn zT λh' v tG hs=>h _ ?_;have Ar:eW X.prog X.w H h':=λb ob eb=>by
  refine(I.a_ b ob eb).j5 (λc w' hc q=>(hs.2 c ?_).trans q) (λ_ q=>q) λ_ _ q=>q;rintro rfl;rcases hc with rfl|hc
  ·rw[I.free]at eb;cases eb
  ·rw[I.free]at hc;cases hc
 have nL:∀b o,X.s₀.heap.get? b=some o->b≠X.env.locals:=λb o eb=>Lu (Ll (K8 eb) I.ok.above);refine⟨I.ok,I.os,I.bare,⟨λb o eb nb hb hx=>(hs.2 b (nL b o eb)).trans (I.base.keep b o eb nb hb hx),λb o eb nb hb hx=>?_,I.base.free,λb o eb hx=>?_,I.base.eX,I.base.eO,I.base.eY⟩,⟨_,tG,λi y v' e1 e2 e3=>?_⟩,λy c ec=>?_,I.free,I.b9,λp hp=>?_,Ar,by simpa using I.len⟩
 ·obtain⟨sl,e1⟩:=I.base.slot b o eb nb hb hx;exact⟨sl,(hs.2 b (nL b o eb)).trans e1⟩
 ·obtain⟨o',e1⟩:=I.base.there b o eb hx;exact⟨o',(hs.2 b (nL b o eb)).trans e1⟩
 ·by_cases aB:i=j
  ·subst aB;rw[MZ]at e2;rw[if_pos rfl]at e2
   split at e2 <;> cases e2
  ·rw[Oc (NV aB)]at e2;obtain⟨u',r',q⟩:=qu i y v' e1 e2 e3;refine⟨u',r',?_⟩;rcases q with⟨k,z⟩|⟨k,c,z,z'⟩
   ·refine .inl ⟨k,?_⟩;have ne:y≠n:=λz=>aB (iE hN e1 (z▸hj));simp[ne,z]
   ·exact .inr ⟨k,c,z,z'.sameBut hs (t6 y c z)⟩
 ·obtain⟨w',z⟩:=I.cell y c ec;exact⟨w',z.sameBut hs (t6 y c ec)⟩
 ·obtain⟨e1,n1,ne,nf,d⟩:=I.pin p hp;exact⟨(hs.2 p.1 ne).trans e1,n1,ne,nf,d⟩
theorem Aq.land {B:Heap}{a0:KR}{h6:Heap}{t:Nat}(I:Inv X pins σ H s)(f:Aq X.prog X.w X.stack H s e C H' s')(fl:M1 B X.stack e (.ref C) a0 s'.heap)(tr:∀b,H' b≠none->∃o,B.get? b=some o)
  (ux:∀b o,s.heap.get? b=some o->b∉dP X.stack->∃o',B.get? b=some o'/\(H b=none->o'=o)) (f6:M1 B X.stack e (.ref C) a0 h6) (up:s'.heap.UpToSlots h6) :
  Inv X pins σ (upd H' e (gA C e)) {s' with heap:=h6,toks:=t}:=by
 have u:=nX f.un fl.2.2.1 f6.1 up ux;obtain⟨oe,vs,g1,g2,g3,_⟩:=f6.first
 have ex:EX.ExcAt e C h6:=⟨oe,vs,g1,g2,g3⟩;have a_:eW X.prog X.w H' h6:=gn f.a_ fl.1 f6.1 tr;have ne:∀b u,H' b=some u->b≠e:=λb u q z=>by rw[z,f.nt]at q;cases q
 have F4:eW X.prog X.w (upd H' e (gA C e)) h6:=λb u q=>by
  by_cases hb:b=e
  ·subst hb;rw[ao]at q;cases q;exact⟨ex,⟨oe,g1⟩,λh1 h2 Cw k=> by obtain⟨o,vs,z1,z2⟩ := Cw;exact⟨o,vs,k o z1,z2⟩⟩
  ·rw[aj hb]at q;exact(a_ b u q).j5 (λc v _ q=>q) (λc q=>by rw[aj (ne c _ q)];exact q) λc xs q=>by rw[aj (ne c _ q)];exact q
 have u2:Un (dP X.stack) [] H (upd H' e (gA C e)) s.heap h6:=by
  refine⟨u.keep,u.slot,λb o eb nb hx=>?_,u.there,λb xs q=>?_,λb o q z=>?_,λb ps q=>?_⟩
  ·rw[aj (λz=>by rw[z,f.nw]at eb;cases eb)]
   exact u.free b o eb nb hx
  ·have z:=u.eX b xs q;rw[aj (ne b _ z)];exact z
  ·have z':=u.eO b o q z;rw[aj (ne b _ z')];exact z'
  ·obtain⟨more,z⟩:=u.eY b ps q;exact⟨more,by rw[aj (ne b _ z)];exact z⟩
 exact I.xD (s':={s' with heap:=h6,toks:=t}) f.os u2 F4 f.bare (λb z=>nomatch z)
theorem ExcAt.stays {B h:Heap}{l:List Env}{a0:KR}(f:M1 B l e (.ref C) a0 h):EX.ExcAt e C h:=by
 obtain⟨oe,vs,g1,g2,g3,_⟩:=f.first
 exact⟨oe,vs,g1,g2,g3⟩
theorem Ah {xA n:Str}{CA:Addr}{j:Nat}{np vR:Pos}{b₀:Stmt}{ll:List Stmt}{Q:Flow->KU->Prop}{E:KR->KU->Prop}(I:Inv X pins σ H s)(kG:X.stack=X.env::X.outer)(hf:X.env.frame=some X.env.locals)
  (f:Aq X.prog X.w X.stack H s e C H' s') (hm:X.mg xA=some (.ref CA)) (hg:Gl X xA) (hx:exmOne X.K (.ref C) (.ref CA)=some true) (hN:X.N.Nodup) (hj:X.N[j]?=some n) (hl:X.env.scope.names.lookup n=some .local)
  (k:∀s1,Inv (X.uD e) pins (σ.set j (some (.ref e))) (upd H' e (gA C e)) s1->Ln (model X.prog X.w) (X.uD e).A (execs (b₀::ll) X.env)
   (λf s4=>Ln (model X.prog X.w) X.A (do bindName X.env n .none;unbindBehindTheSuite X.env n vR) (λ_ s5=>Q f s5) E s4) (λ_ _=>False) s1) (hd:(xA==("__debug__" : Str))=false:=by decide) :
  Ln (model X.prog X.w) X.A (noteFrame (.ref e) X.env) (λ_ s₂=>Ln (model X.prog X.w) X.A (setFlight (.ref e) none) (λ_ s₃ =>
   Ln (model X.prog X.w) X.A (handleBy (.ref e) X.env [.ExceptHandler (some (.Name xA np)) (some n) (b₀::ll) vR]) Q E s₃) E s₂) E s':=by
 have fr:X.A.frames=some (X.env::X.outer):=by rw[<- kG];exact I.ok.frames
 obtain⟨B,a0,fl,tr,ux⟩:=f.fl;have J3:M1 B (X.env::X.outer) e (.ref C) a0 s'.heap:=by rw[<- kG];exact fl
 refine wpAny_looks_onW fr hf J3 λh4 CQ Hh=>?_;refine wpAny_landsW CQ λh5 CO Hg=>?_;have xi:M1 B X.stack e (.ref C) a0 h5:=by rw[kG];exact CO
 have I5:Inv X pins σ (upd H' e (gA C e)) {s' with heap:=h5}:=f.land (t:=s'.toks) I fl tr ux xi (Hh.trans Hg)
 refine wpAny_handleBy_cons (codeAny_handlers_test ?_) (by intro q;cases q)
 refine fJ (X:=X.uD e) (Inv.uD I5) hg hm ?_ hd;refine(exm_one (M:=model X.prog X.w) I5.qY (ExcAt.stays xi).ty hx).here ?_;rw[if_pos rfl];refine codeAny_handlers_suite_as ?_;refine lands_againW CO λh6 Gu IM=>?_;have CN:M1 B X.stack e (.ref C) a0 h6:=by rw[kG];exact Gu
 have I6:Inv X pins σ (upd H' e (gA C e)) {s' with heap:=h6}:=f.land (t:=s'.toks) I fl tr ux CN ((Hh.trans Hg).trans IM)
 refine h_ (X:=X.uD e) (Inv.uD I6) hN hj (.inl hl) (v:=.ref e) rfl (λs7 I7=>?_) (.inr hl);exact MQ (k s7 I7) (λf s8 z=>z) λ_ _ z=>z.elim
end
end L2
namespace L2.Q
open PySem PySem.W PySem.Spec PySem.SeqAt PyProof.Rows
abbrev wH:=List D->(D->Prop)->(Addr->Prop)->Prop
def mP (F:wH):Prop:=∀ds R R' T T',(∀d,R d->R' d)->(∀c,T c->T' c)->F ds R T->F ds R' T'
def j6 (P:K3)(w:Lf)(ro:Bool)(F:wH):Sp:=λvs H Q E=>∃ds,ag P w (λ_=>False) H ds vs/\F ds (λd=>∀v H',ay H H'->k8 P w ro H H' d v->Q v H') (λcl=>∀H',ay H H'->E (.ref cl) none H')
structure G3 (X:Cx)(H0:Hp)(IO:Addr->Prop)(T:Addr->Prop):Prop where
 made:∀pins σ H s e cl hs vs,Inv X pins σ H s->Kp IO H0 H->Heap.MadeExcOf s.heap hs e (.ref cl) vs->T cl->X.xe (.ref e) {s with heap:=hs}
 pass:Passes (qS X.prog X.w) X (λcv _ H'=>∃cl,cv=.ref cl/\T cl/\Kp IO H0 H')
 own:PassesOwn (model X.prog X.w) X.A X.env X.xe
abbrev XR (H:Hp)(E:XK)(cl:Addr):Prop:=∀H',ay H H'->E (.ref cl) none H'
theorem hG {P:K3}{w:Lf}{K:Frag}{mg:Str->Option KR}{base:Heap}{N:List Str}{qual:Str}{scope:MU}{f:Addr}{cd:KR}{A:LI}{outer:List Env}{s:KU}{H:Hp}{E:XK}:
  G3 (gT (qS P w) P w K mg base N qual scope f cd A outer s H E) H (λ_=>False) (XR H E) where
 made:=λpins σ H1 s1 e cl hs vs I k m t=>nJ I rfl rfl rfl m λrP fl=>⟨e,cl,H1,rfl,fl,t H1 λb o z=>k.out b o z λz=>z⟩
 pass:=λpins σ H1 s1 e s' I Cv=> by
  obtain⟨a,cl,H',ea,fl,Kf,GO,t,k⟩ := Cv;cases ea;cases GO;exact sY I rfl rfl rfl fl λrP fl=>⟨a,cl,H',rfl,fl,t H' λb o z=>k.out b o z λz=>z⟩
 own:=PassesOwn.leaving
abbrev Ea:List KR:=[.type "ValueError",.type "Exception",.type "BaseException",.type "object"]
structure Xc (K:Frag)(mg:Str->Option KR)(x:Str)(C:Addr):Prop where
 m:mg x=some (.ref C)
 exc:excIn K C Ea "ValueError.__new__" = true
theorem Xc.own {K:Frag} {mg:Str->Option KR} {x:Str} {C:Addr} {h:Heap} (z:Xc K mg x C) (X:K.In h):OwnCls x C Ea "ValueError.__new__" mg h:=by
 refine⟨z.m,?_⟩;have q:=z.exc;unfold excIn at q
 split at q
 ·rename_i dd cd sl ho
  split at q
  ·rename_i C' bm k0 k1 k2 k3 n k5 hm hs
   simp only[LP,beq_iff_eq,M3]at q;obtain⟨⟨⟨⟨⟨rfl,rfl⟩,CT⟩,ht⟩,a_⟩,DL⟩:=q;obtain⟨nm,bs,mro,ns,qn,hd,sn,sub,ab,col,del⟩:=cd;dsimp only at hm CT a_ DL;subst hm CT;have AB:sl=#[k0,k1,k2,k3,some (.builtin "ValueError.__new__"),k5]:=by
    obtain⟨l⟩:=sl;simp only at hs;rw[hs]
   subst AB;exact⟨bm,ns,nm,qn,bs,hd,sn,sub,ab,col,dd,k0,k1,k2,k3,k5,_,X _ _ ho,.of_isNs (isNs_of_in X a_),nsMap_none_of_in X a_ DL,tail_of_in X ht⟩
  ·cases q
 ·cases q
section
variable {X:Cx}{C:Cfg}{T:Addr->Prop}{x:Str}{cl:Addr}{np cpos pos C7:Pos}{m:Str}
theorem iA {j}(Z:G3 X C.H0 C.IO T)(hc:X.calm=true)(hx:Xc X.K X.mg x cl)(hg:Gl X x:=by rfl)(hd:(x==("__debug__" : Str))=false:=by decide)
  (he:K5 [.Constant (.str m) j C7] X.env=[(false,eval (.Constant (.str m) j C7) X.env)]:=by rfl) (hp:(L8 cpos (K5 [.Constant (.str m) j C7] X.env)).any (·.1)=false:=by rfl) :
  PB X C (.Raise (some (.Call (.Name x np) [.Constant (.str m) j C7] [] cpos)) none pos) (λ_ _=>T cl) :=
 ⟨λ_ _ _ _ h=>h,λpins s σ H D I Cu=> by
  obtain⟨_,E,β,⟨own,sq,n⟩,t,_⟩ := Cu;obtain⟨tl,N,nm,q,bs,hdct,sn,sub,ab,col,dd,k0,k1,k2,k3,k5,mN,hC,hN,DL,TL⟩:=(hx.own I.qY).obj;have FB:=PySem.F.excBase_ValueError;refine wpAny_Raise_call_subT (C:=cl) (nm:=nm) (q:=q) (N:=N) (bs:=bs) (bm:=tl) (hdct:=hdct) (sn:=sn) (sub:=sub) (ab:=ab) (col:=col) (dd:=dd) (k0:=k0) (k1:=k1) (k2:=k2) (k3:=k3) (k5:=k5)
   FB (mN:=mN) (TL.hasType FB.hasBase) (I.ok.hd hc) hp DL (fJ I hg hx.m ⟨rfl,?_⟩ hd)
  rw[he];refine Calls.evalArgs_plain ?_;show Ln _ _ (spliced ((false,eval (.Constant (.str m) j C7) X.env)::L8 cpos [])) _ _ _;refine Calls.spliced_cons (Calls.Constant_str (Calls.spliced_nil ⟨rfl,(by show 1<=Lk;decide),hC,hN,TL,λh' e mk=>?_⟩))
  exact Z.made pins σ H {s with toks:=s.toks+1} e cl h' _ (I.tok _) sq.kp mk t⟩
end
section
variable {X:Cx}{C:Cfg}{k:Nat}{f:Addr}{fd:LF}{ps:List Str}{F:wH}{ro p:Bool}{x:Str}{pp pos:Pos}{e:Expr}{es:List Expr}{φs:bI}{T:Addr->Prop}
def Bi (ro:Bool)(F:wH)(T:Addr->Prop)(φs:bI):aM:=λβ R=>φs β λds _ β1=>F ds (λd=>R d (rk ro) β1) T
theorem lE (Z:G3 X C.H0 C.IO T)(mF:mP F)(G:aR X.prog X.w X.K X.mg X.base (qS X.prog X.w) k f fd ps (j6 X.prog X.w ro F))(hr:bN k X.A)(hm:X.mg x=some (.ref f))(hk:PySem.W.keepIn X.K (.ref f)=true)(hb:Binds X.K fd ps [])(ha:mY X C p (e::es) φs)(hg:Gl X x:=by rfl)
  (hdb:(x==("__debug__" : Str))=false:=by decide)
  (eN:K5 (e::es) X.env=(false,eval e X.env)::K5 es X.env:=by rfl) (hpl:(L8 pos (K5 es X.env)).any (·.1)=false:=by rfl) :
  PQ X C p (.Call (.Name x pp) (e::es) [] pos) (Bi ro F T φs) :=
 ⟨λβ R R' k h=>ha.mono β _ _ (λds ks β1 q=>mF ds _ _ _ _ (λd q=>k _ _ _ q) (λ_ z=>z) q) h,(ke G hr hg hm hk hb .nil Z.pass ha.pa (hdb:=hdb) (he:=eN) (hpl:=hpl)).pre λσ H Q ⟨β,own,s,h⟩=>oE.of ha s h λds ks β1 vs H1 az q o1 r1=>by
  rw[LV];exact⟨ds,r1.bor,mF ds _ _ _ _ (λd q2 v H' s2 r2=>q2 v H' az (o1.same s2) (r2.kv o1.sq.qz o1.sq.fQ λa z=>o1.sn.d a z)) (λc t H' s2=>⟨c,rfl,t,o1.sq.kp.trans s2.kp⟩) q⟩⟩
end
theorem k6.mU {X:Cx}{C:Cfg}{st:List Stmt}{ψ:xK}(h:k6 X.mU C st ψ):k6 X C st ψ:=⟨h.mono,mM.mU (h.ps.pre λD σ H hq=>by obtain⟨Z,E,β,sb,q,ok⟩:=hq;exact⟨Z,E,β,sb,q,⟨ok.nx,ok.rt,ok.bk,ok.ct⟩⟩)⟩
section
variable {P:K3}{w:Lf}{K:Frag}{mg:Str->Option KR}{base:Heap}
theorem yP {x qual:Str}{st:Stmt}{f:Addr}{fd:LF}{N ps:List Str}{k:Nat}{F:wH}{ro:Bool}(G:ur K x qual st f fd)(S:aU N ps (aw st))(len:∀ds R T,F ds R T->ds.length=ps.length)
  (fN:∀(bX:KR) (A:LI) (outer:List Env) (s:KU) (H:Hp) (E:XK),bN k (A.deeper (NG qual (aw st) s.heap.objs.size f bX)) ->
   ∃ψ,k6 (gT (qS P w) P w K mg base N qual (aw st) f bX A outer s H E) ⟨H,λ_=>False,ro,λ_=>False⟩ (cg st) ψ/\∀ds R,F ds R (XR H E)->ψ {nx:=λ_=>R .bx,rt:=λd _=>R d} (startB N ds)) :
  aR P w K mg base (qS P w) (k+1) f fd ps (j6 P w ro F):=by
 obtain⟨oc,od,kV,doc,pm,an,bX,ct,wR,rfl,lk,g8⟩:=G.ex;refine xo lk g8 S (λvs H Q E h=>?_) (λA outer s H vs Q E hr h=>?_)
 ·obtain⟨ds,r,h⟩:=h;rw[r.length];exact len ds _ _ h
 ·obtain⟨ds,r,h⟩:=h;obtain⟨ψ,hb,hF⟩:=fN bX A outer s H E hr;refine⟨_,hb.ps,(H,Wn λ_=>[]),_,startB N ds,⟨λ_=>[],lq r,Sn.refl⟩,hF ds _ h,λσ H' β sb q=>?_,λσ H' β d v sb rr q=>?_,λ_ _ _ _ z=>z.elim,λ_ _ _ _ z=>z.elim⟩
  ·obtain⟨own,s',n'⟩:=sb;exact q _ H' (λb o e=>s'.kp.out b o e (λz=>z)) (cq (W:=λ_=>False) rfl rfl)
  ·obtain⟨own,s',n'⟩:=sb;exact q _ H' (λb o e=>s'.kp.out b o e (λz=>z)) rr
end
abbrev _root_.L2.Cx.ve (X:Cx)(pins:List (Addr×Obj))(Eh:KR->KU->Prop):Cx:={X with pn:=X.pn++pins,xe:=Eh}
section
variable {X:Cx}{pins d6:List (Addr×Obj)}{σ:St}{H:Hp}{s:KU}{Eh:KR->KU->Prop}
theorem yL (ok:X.Ok):(X.ve pins Eh).Ok:=⟨ok.mod,ok.kind,ok.glob,ok.blt,ok.above,ok.inj,ok.has,ok.xE,ok.hd,ok.frames,ok.x_,ok.wb,ok.bs,ok.ue,ok.lI,ok.kP,ok.fO,ok.vZ⟩
theorem o7 (I:Inv X (pins++d6) σ H s):Inv (X.ve pins Eh) d6 σ H s:=⟨yL I.ok,I.os,I.bare,I.base,I.loc,I.cell,I.free,I.b9,λp hp=>I.pin p (by rw[<- LQ];exact hp),I.a_,I.len⟩
theorem se (ok:(X.ve pins Eh).Ok):X.Ok:=⟨ok.mod,ok.kind,ok.glob,ok.blt,ok.above,ok.inj,ok.has,ok.xE,ok.hd,ok.frames,ok.x_,ok.wb,ok.bs,ok.ue,ok.lI,ok.kP,ok.fO,ok.vZ⟩
theorem vd (I:Inv (X.ve pins Eh) d6 σ H s):Inv X (pins++d6) σ H s:=⟨se I.ok,I.os,I.bare,I.base,I.loc,I.cell,I.free,I.b9,λp hp=>I.pin p (by rw[<- LQ]at hp;exact hp),I.a_,I.len⟩
theorem d4 (I:Inv (X.ve pins Eh) d6 σ H s):Inv X pins σ H s:=⟨se I.ok,I.os,I.bare,I.base,I.loc,I.cell,I.free,I.b9,λp hp=>I.pin p (L6 _ hp),I.a_,I.len⟩
theorem yE {es:List Expr}{t:TA}(h:PA X.mU es t):PA (X.ve pins Eh) es t:=λpos d6 s σ H Q I q =>
 MQ (h pos (pins++d6) s σ H Q ((vd I).hV _) q) (λ_ _ Ct=> by obtain⟨vs,H',I',r,q⟩ := Ct;exact⟨vs,H',o7 I'.dk,r,q⟩) λ_ _ z=>z.elim
theorem yg {D:Ends}{f:Flow}{s':KU}(h:SP (X.ve pins Eh) [] D f s'):SP X pins D f s':=by
 cases f with
 |next=>obtain⟨σ',H',I,q⟩:=h;exact⟨σ',H',d4 I,q⟩
 |brk=>obtain⟨σ',H',I,q⟩:=h;exact⟨σ',H',d4 I,q⟩
 |cont=>obtain⟨σ',H',I,q⟩:=h;exact⟨σ',H',d4 I,q⟩
 |ret u=>obtain⟨v,σ',H',I,r,q⟩:=h;exact⟨v,σ',H',d4 I,r,q⟩
end
theorem sy {X:Cx}{CX:qR}{k:Nat}{f:Addr}{fd:LF}{ps:List Str}{sp:Sp}{x:Str}{p pos:Pos}{e:Expr}{es:List Expr}{t:TA}(F:aR X.prog X.w X.K X.mg X.base CX k f fd ps sp)(hr:bN k X.A)(hg:Gl X x)(hm:X.mg x=some (.ref f))
  (hk:PySem.W.keepIn X.K (.ref f)=true) (hb:Binds X.K fd ps []) (ha:PA X (e::es) t) (hdb:(x==("__debug__" : Str))=false:=by decide) (he:K5 (e::es) X.env=(false,eval e X.env)::K5 es X.env:=by rfl)
  (hpl:(L8 pos (K5 es X.env)).any (·.1)=false:=by rfl) :
  PE X (.Call (.Name x p) (e::es) [] pos) (λσ H Q=>t σ H λvs H1=>∃E:XK,sp vs H1 Q E/\∀pins s e s',Inv X pins σ H1 s->CX X.stack H1 s E e s'->X.xe e s'):=by
 intro pins s σ H Q I h;refine Np (fJ I hg hm ?_ hdb);refine PySem.W.callWith_K (h₀:=X.base) I.ok.mod.DE hk (bj (ha pos pins s σ H _ I h) λus s1 ⟨vs,H1,I1,r,q⟩=>⟨I1.qY,?_⟩) he hpl;obtain⟨E,q,hx⟩:=q;have r2:Vals (vs++[]) (us++[]):=r.append .nil;have hl:(us++[]).length=ps.length:=by rw[<- r2.length,LV];exact F.len _ _ _ _ q
 refine NU (MK (F.run X.A X.stack s1 H1 ⟨us,[]⟩ (us++[]) (vs++[]) Q E hr I1.C2 (hb s1 us I1.qY hl) r2 (by rw[LV];exact q)) λr s' hq=>?_)
 cases r with
 |error e=>exact hx pins s1 e s' I1 hq
 |ok fl =>
  cases fl with
  |ret u=>exact I1.after hq
  |next=>exact Ml hq
  |brk=>exact Ml hq
  |cont=>exact Ml hq
abbrev xG:=df->(Addr->Prop)->bt->Prop
structure TB (X:Cx)(C:Cfg)(body:List Stmt)(θ:xG):Prop where
 mono:∀E E' T T' β,Le E E'->(∀c,T c->T' c)->θ E T β->θ E' T' β
 run:∀(pins:List (Addr×Obj)) (s:KU) (σ:St) (H:Hp) (D:Ends) (Eh:KR->KU->Prop) (Z:Hp×(Addr->Prop)) (E:df) (β:bt) (own:Nat->List Addr) (T:Addr->Prop),Inv X pins σ H s->SQ X C.z σ H β own->Sn Z H (Wn own)->Im X C Z E D->θ E T β ->
  (∀s1 H1 e s',Inv X pins σ H1 s1->ay H H1->qS X.prog X.w X.stack H1 s1 (λcv _ H'=>∃cl,cv=.ref cl/\ay H1 H'/\T cl) e s'->Eh e s')->Ln (model X.prog X.w) X.A (execs body X.env) (SP X pins D) Eh s
section
variable {X:Cx}{C:Cfg}{k:Nat}{f:Addr}{fd:LF}{ps:List Str}{F:wH}{ro:Bool}{x:Str}{pp pos cp:Pos}{e:Expr}{es:List Expr}{φs:bI}
theorem oC (mF:mP F)(G:aR X.prog X.w X.K X.mg X.base (qS X.prog X.w) k f fd ps (j6 X.prog X.w ro F))(hr:bN k X.A)(hm:X.mg x=some (.ref f))(hk:PySem.W.keepIn X.K (.ref f)=true)(hb:Binds X.K fd ps [])(ha:mY X.mU C.z true (e::es) φs)(hg:Gl X x:=by rfl)
  (hdb:(x==("__debug__" : Str))=false:=by decide) (eN:K5 (e::es) X.env=(false,eval e X.env)::K5 es X.env:=by rfl) (hpl:(L8 cp (K5 es X.env)).any (·.1)=false:=by rfl)
  (uC:M5 (.Call (.Name x pp) (e::es) [] cp) none pos.line X.env=pure false:=by rfl) :
  TB X C [.Expr (.Call (.Name x pp) (e::es) [] cp) pos] (λE T β=>φs β λds _ β1=>F ds (λ_=>E.nx β1) T) where
 mono:=λE E' T T' β l m h=>ha.mono _ _ _ (λds ks β1 q=>mF ds _ _ _ _ (λ_ q=>l.nx _ q) m q) h
 run:=λpins s σ H D Eh Z E β own T I sq n ok h hE=>by
  have P:=eF (gX (X:=X.ve pins Eh) (pos:=pos) (sy (X:=X.ve pins Eh) (p:=pp) (pos:=cp) G hr hg hm hk hb (yE ha.pa) hdb eN hpl) uC);refine bj (P [] s σ H D (o7 (by rw[LV];exact I)) ?_) λfl s' q=>yg q
  refine oE.of (X:=X.mU) ha sq h λds ks β1 vs H1 az q o1 r1=>?_;obtain⟨sm,rfl⟩:=o1.pu rfl;refine⟨λcv _ H'=>∃cl,cv=.ref cl/\ay H1 H'/\T cl,⟨ds,r1.bor,mF ds _ _ _ _ (λd q2 v H' s2 r2=>?_) (λcl t H' s2=>⟨cl,rfl,s2,t⟩) q⟩,λd6 s1 e s' I1 q=>hE s1 H1 e s' (d4 I1) sm q⟩;exact ok.nx _ _ _ ⟨az,o1.sq.same s2,(n.same sm).same s2⟩ q2
end
section
variable {P:K3}{w:Lf}{C:Cfg}{σ:St}{H:Hp}{β:bt}{own:Nat->List Addr}
theorem bw.uV {i:Nat}(b:bw P w C σ H β own):bw P w C (σ.set i none) H (β.set i none) (aE own i []):=by
 have sub:∀y a,fg C (Wn (aE own i [])) (yk y) a->fg C (Wn own) (yk y) a:=λy=>fU (λa h=>c0 h) _;refine⟨by simp[b.len],λj y' d' e=>?_,λj d' e=>?_,λj ok e=>?_,λj a h=>b.dm j a (aW h).1,λj k a h1 h2=>b.iU j k a (aW h1).1 (aW h2).1,λj=>?_,b.kp,b.fQ,λj y' d' e=>?_⟩
 ·by_cases aB:i=j
  ·subst aB;obtain⟨e',hl⟩:=aS e;cases e'
  ·rw[aQ aB]at e ⊢
   obtain⟨u,h1,h2⟩:=b.val j y' d' e;exact⟨u,h1,h2.aK (sub _)⟩
 ·by_cases aB:i=j
  ·subst aB;obtain⟨e',hl⟩:=aS e;cases e'
  ·rw[aQ aB]at e ⊢
   rw[a3 aB];exact b.ow j d' e
 ·by_cases aB:i=j
  ·subst aB;obtain⟨e',hl⟩:=aS e;cases e'
  ·rw[aQ aB]at e ⊢
   rw[a3 aB];exact b.i_ j ok e
 ·by_cases aB:i=j
  ·rw[aB,os_eq];exact LO
  ·rw[a3 aB];exact b.lJ j
 ·by_cases aB:i=j
  ·subst aB;obtain⟨e',hl⟩:=aS e;cases e'
  ·rw[aQ aB]at e ⊢
   rw[a3 aB];obtain⟨u,h1,h2,h3⟩:=b.shl j y' d' e;exact⟨u,h1,h2.map (λ_ _ _ z=>z) (λ_ _ r=>ag.aK (sub _) r),h3⟩
end
section
variable {X:Cx}{C:Cfg}{body ll:List Stmt}{b₀:Stmt}{θ:xG}{ψ:xK}{j:Nat}{xA n:Str}{CA:Addr}{np vR pos:Pos}
theorem uX {P:K3}{w:Lf}{σ:St}{H H':Hp}{β:bt}{own:Nat->List Addr}{e cl:Addr}(b:bw P w C.z σ H β own)(sm:ay H H')(nt:H' e=none):ar P w (fg C.z (Wn own) .dh) (upd H' e (gA cl e)) (.exc cl) (.ref e) :=
 ⟨e,rfl,⟨ao,λxs z=>(by cases z)⟩,λz=>by
  have b':=b.same sm;rcases z with (z|z)|z
  ·exact b'.qz e z nt
  ·exact b'.fQ e z nt
  ·exact z⟩
theorem sC (kG:X.stack=X.env::X.outer)(hf:X.env.frame=some X.env.locals)(hb:TB X C body θ)(hs:∀e,k6 (X.uD e) C (b₀::ll) ψ)(hm:X.mg xA=some (.ref CA))(hN:X.N.Nodup)(hj:X.N[j]?=some n:=by rfl)(hl:X.env.scope.names.lookup n=some .local:=by rfl)(hg:Gl X xA:=by rfl)
  (hd:(xA==("__debug__" : Str))=false:=by decide) :
  PB X C (.Try body [.ExceptHandler (some (.Name xA np)) (some n) (b₀::ll) vR] [] [] pos)
   (λE β=>∃T:Addr->Prop,θ E T β/\∀cl,T cl->exmOne X.K (.ref cl) (.ref CA)=some true/\ψ {nx:=λβ'=>E.nx (β'.set j none),rt:=λ_ _=>False} (β.set j (some (.val true (.exc cl))))) :=
 ⟨λE E' β l Cs=> by obtain⟨T,h,k⟩ := Cs;exact⟨T,hb.mono E E' T T β l (λ_ z=>z) h,λcl t=>⟨(k cl t).1,(hs 0).mono {nx:=λβ'=>E.nx (β'.set j none),rt:=λ_ _=>False} {nx:=λβ'=>E'.nx (β'.set j none),rt:=λ_ _=>False} _ ⟨λβ' q=>l.nx _ q,λ_ _ z=>z,λ_ z=>z,λ_ z=>z⟩ (k cl t).2⟩⟩,λpins s σ H D I Cr=> by
  obtain⟨Z,E,β,⟨own,sq,sn⟩,⟨T,h,k⟩,ok⟩ := Cr;refine wpAny_Try_except (bj (hb.run pins s σ H D _ Z E β own T I sq sn ok h λs1 H1 e s' I1 sm cx=>?_) λfl s1 q=>?_)
  ·obtain⟨a,cl,H',rfl,GJ,Kf,GO,Hi,t⟩:=cx;cases GO;obtain⟨hx,hk⟩:=k cl t;refine Ah (X:=X) I1 kG hf GJ hm hg hx hN hj hl (λs2 I2=>?_) hd;have s3:ay H (upd H' a (gA cl a)):=(sm.trans Hi).trans (ay.new GJ.nt);have EI:SQ X C.z (σ.set j (some (.ref a))) (upd H' a (gA cl a)) (β.set j (some (.val true (.exc cl)))) (aE own j []):=(sq.same s3).dU (uX sq (sm.trans Hi) GJ.nt);refine bj ((hs a).ps pins s2 _ _ {nx:=λσ' H'=>D.nx (σ'.set j none) H',rt:=λ_ _=>False} I2 ⟨Z,_,_,⟨_,EI,nk (sn.same s3)⟩,hk,⟨λσ' H' β' sb q=>?_,λ_ _ _ _ _ _ _ z=>z.elim,λ_ _ _ _ z=>z.elim,λ_ _ _ _ z=>z.elim⟩⟩) λfl s4 q=>?_
   ·obtain⟨aH,IK,IL⟩:=sb;exact ok.nx _ _ _ ⟨_,IK.uV,nk IL⟩ q
   ·cases fl with
    |next =>
     obtain⟨σ4,H4,I4,q4⟩:=q;exact vX (X:=X) (I4.AS I1.ok) hN hj hl λs5 I5=>⟨_,H4,I5,q4⟩
    |brk=>obtain⟨_,_,_,z⟩:=q;exact z.elim
    |cont=>obtain⟨_,_,_,z⟩:=q;exact z.elim
    |ret u=>obtain⟨_,_,_,_,_,z⟩:=q;exact z.elim
  ·cases fl with
   |next=>exact N1 q
   |ret v=>exact q
   |brk=>exact q
   |cont=>exact q⟩
variable {e:Expr}{φ:aM}{p:Bool}{T:Str}{pp pT:Pos}{cA:Addr}
structure Xk (K:Frag)(cl:Addr)(c:KR)(b:Bool):Prop where
 xc:EX.XC K cl
 is:kitOne K (.ref cl) c=some b
def yo (K:Frag)(c:KR)(φ:aM):aM:=λβ R=>φ β λd _ β1=>∃cl b,d=.exc cl/\Xk K cl c b/\R (.bl b) .own β1
inductive CV:V->KR->Prop where
 |own (a:Addr):CV (.ref a) (.ref a)
 |ty (n:String):CV (.ty n) (.type n)
theorem CV.rel {v:V}{c u:KR}(h:CV v c)(r:RelV v u):u=c:=by
 cases h with
 |own a=>exact r
 |ty n=>exact r
theorem ua {c:KR} {vc:V} (hc:CV vc c):dg X (.builtin "isinstance") (λxs H Q=>∃a cl b,xs=[.ref a,vc]/\H a=some (gA cl a)/\Xk X.K cl c b/\Q (.bl b) H):=by
 intro pins s σ H xs us Q I r h;obtain⟨a,cl,b,rfl,ha,z,q⟩:=h;obtain⟨u1,u2,rfl,r1,r2⟩:∃u1 u2,us=[u1,u2]/\RelV (.ref a) u1/\RelV vc u2:=by
  cases r with
  |cons r1 r =>
   cases r with
   |cons r2 r=>cases r;exact⟨_,_,rfl,r1,r2⟩
 cases r1;obtain⟨ex,_,_⟩:=I.a_ a _ ha;have e2:=hc.rel r2;subst e2;exact kia_one (EX.lW z.xc) I.qY ex z.is (λz=>by cases z) λtk=>⟨.bl b,H,I.tok _,rfl,q⟩
theorem tS {P:K3}{w:Lf}{W:Addr->Prop}{H:Hp}{cl:Addr}{v:V}(h:ar P w W H (.exc cl) v):∃a,v=.ref a/\H a=some (gA cl a):=by
 obtain⟨a,rfl,⟨h1,_⟩,_⟩:=h;exact⟨a,rfl,h1⟩
theorem r_ {c:KR} {vc:V} {ce:Expr} (hm:X.mg "isinstance" = none) (he:PQ X C p e φ) (hc:CV vc c) (JS:PE X ce (tC vc)) (hg:Gl X "isinstance" := by rfl)
  (eN:K5 [e,ce] X.env=(false,eval e X.env)::K5 [ce] X.env:=by rfl) (nR:K5 [ce] X.env=(false,eval ce X.env)::K5 [] X.env:=by rfl) (hpl:(L8 pos (K5 [ce] X.env)).any (·.1)=false:=by rfl) :
  PQ X C p (.Call (.Name "isinstance" pp) [e,ce] [] pos) (yo X.K c φ) :=
 ⟨λβ R R' k h=>he.mono β _ _ (λd kd β1 Cq=> by obtain⟨cl,b,ed,z,q⟩ := Cq;exact⟨cl,b,ed,z,k _ _ _ q⟩) h,
  (fA (ua hc) hg hm uc (a7 he.pe (a7 JS cG nR) eN) (by decide) (by decide) (he:=eN) (hpl:=hpl)).pre λσ H Q ⟨β,own,s,h⟩=>tQ.of he s h λd kd β1 v H1 az hq o1 r1=>by
  obtain⟨cl,b,ed,z,q⟩:=hq;subst ed;obtain⟨a,rfl,ha⟩:=tS r1.rep;exact⟨a,cl,b,rfl,ha,z,q _ H1 az o1 o3⟩⟩
theorem nC (hm:X.mg "isinstance" = none) (he:PQ X C p e φ) (hT:X.mg T=some (.ref cA)) (hg:Gl X "isinstance" := by rfl) (CM:Gl X T:=by rfl) (CU:(T==("__debug__" : Str))=false:=by decide)
  (eN:K5 [e,.Name T pT] X.env=(false,eval e X.env)::K5 [.Name T pT] X.env:=by rfl) (nR:K5 [.Name T pT] X.env=(false,eval (.Name T pT) X.env)::K5 [] X.env:=by rfl) (hpl:(L8 pos (K5 [.Name T pT] X.env)).any (·.1)=false:=by rfl) :
  PQ X C p (.Call (.Name "isinstance" pp) [e,.Name T pT] [] pos) (yo X.K (.ref cA) φ):=r_ hm he (.own cA) (oQ CM hT rfl CU) hg eN nR hpl
theorem yv {n:String} (hm:X.mg "isinstance" = none) (he:PQ X C p e φ) (hT:X.mg T=none) (bT:LM T=some (.type n)) (hg:Gl X "isinstance" := by rfl) (CM:Gl X T:=by rfl) (JE:T≠"__name__" := by decide) (CU:(T==("__debug__" : Str))=false:=by decide)
  (eN:K5 [e,.Name T pT] X.env=(false,eval e X.env)::K5 [.Name T pT] X.env:=by rfl) (nR:K5 [.Name T pT] X.env=(false,eval (.Name T pT) X.env)::K5 [] X.env:=by rfl) (hpl:(L8 pos (K5 [.Name T pT] X.env)).any (·.1)=false:=by rfl) :
  PQ X C p (.Call (.Name "isinstance" pp) [e,.Name T pT] [] pos) (yo X.K (.type n) φ):=r_ hm he (.ty n) (vh CM hT bT rfl JE CU) hg eN nR hpl
structure Ed (X:Cx)(es:List Expr)(vs:List V)(cs:List KR):Prop where
 pa:PA X es λ_ H Q=>Q vs H
 rel:Paired CV vs cs
theorem vj:Ed X [] [] []:=⟨cG.pre λσ H Q h=>h,.nil⟩
theorem cb {es:List Expr}{vs:List V}{cs:List KR}(h:Ed X es vs cs)(hT:X.mg T=some (.ref cA))(CM:Gl X T:=by rfl)(CU:(T==("__debug__" : Str))=false:=by decide)(eN:K5 (.Name T pT::es) X.env=(false,eval (.Name T pT) X.env)::K5 es X.env:=by rfl):
  Ed X (.Name T pT::es) (.ref cA::vs) (.ref cA::cs):=⟨(a7 (oQ (v:=.ref cA) (pos:=pT) CM hT rfl CU) h.pa eN).pre λσ H Q h=>h,.cons (.own cA) h.rel⟩
theorem pB:∀{vs:List V} {cs us:List KR},Paired CV vs cs->Vals vs us->us=cs
 |_,_,_,.nil,.nil=>rfl
 |_,_,_,.cons h t,.cons r t'=>by rw[h.rel r,pB t t']
structure G2 (K:Frag)(cl:Addr)(cs:List KR)(b:Bool):Prop where
 xc:EX.XC K cl
 is:kitAny K (.ref cl) cs=some b
theorem qJ {cs:List KR} {vs:List V} (hc:Paired CV vs cs):dg X (.builtin "isinstance") (λxs H Q=>∃a t cl b,xs=[.ref a,.ref t]/\H a=some (gA cl a)/\H t=some (.tup vs)/\G2 X.K cl cs b/\Q (.bl b) H):=by
 intro pins s σ H xs us Q I r h;obtain⟨a,t,cl,b,rfl,ha,ht,z,q⟩:=h;obtain⟨u1,u2,rfl,r1,r2⟩:∃u1 u2,us=[u1,u2]/\RelV (.ref a) u1/\RelV (.ref t) u2:=by
  cases r with
  |cons r1 r =>
   cases r with
   |cons r2 r=>cases r;exact⟨_,_,rfl,r1,r2⟩
 cases r1;cases r2;obtain⟨ex,_,_⟩:=I.a_ a _ ha;obtain⟨_,its,rv,⟨⟨oc,dd,od,sl⟩,ho,vU,n,hd⟩⟩:=I.a_ t _ ht;have e2:=pB hc rv;subst e2;dsimp only at vU hd;subst vU hd;exact kia_tup (EX.lW z.xc) I.qY ex ho z.is (λz=>by cases z) λtk=>⟨.bl b,H,I.tok _,rfl,q⟩
def Bk (K:Frag)(cs:List KR)(φ:aM):aM:=λβ R=>φ β λd _ β1=>∃cl b,d=.exc cl/\G2 K cl cs b/\R (.bl b) .own β1
theorem va {es:List Expr} {vs:List V} {cs:List KR} {tk} (hm:X.mg "isinstance" = none) (he:PQ X C p e φ) (hc:Ed X es vs cs) (hz:vs.length<=Lk) (hg:Gl X "isinstance" := by rfl)
  (eN:K5 [e,.Tuple es tk pT] X.env=(false,eval e X.env)::K5 [.Tuple es tk pT] X.env:=by rfl) (nR:K5 [.Tuple es tk pT] X.env=(false,eval (.Tuple es tk pT) X.env)::K5 [] X.env:=by rfl) (hpl:(L8 pos (K5 [.Tuple es tk pT] X.env)).any (·.1)=false:=by rfl) :
  PQ X C p (.Call (.Name "isinstance" pp) [e,.Tuple es tk pT] [] pos) (Bk X.K cs φ) :=
 ⟨λβ R R' k h=>he.mono β _ _ (λd kd β1 Cp=> by obtain⟨cl,b,ed,z,q⟩ := Cp;exact⟨cl,b,ed,z,k _ _ _ q⟩) h,
  (fA (qJ hc.rel) hg hm uc (a7 he.pe (a7 (sj hc.pa) cG nR) eN) (by decide) (by decide) (he:=eN) (hpl:=hpl)).pre λσ H Q ⟨β,own,s,h⟩=>tQ.of he s h λd kd β1 v H1 az hq o1 r1=>by
  obtain⟨cl,b,ed,z,q⟩:=hq;subst ed;obtain⟨a,rfl,ha⟩:=tS r1.rep;refine⟨hz,λt ht=>⟨a,t,cl,b,rfl,?_,ao,z,q _ _ az (o1.same (ay.new ht)) o3⟩⟩;rw[aj (λz=>by rw[z,ht]at ha;cases ha)]
  exact ha⟩
end
def Dr:List Str:=["NoRow","NoTie","NoStretch","NoWeights","NoNumber","NoSet","NoGap","NoPlace","NoShape","NoText","NoForm","NoneYet"]
structure XA (K:Frag)(mg:Str->Option KR)(cA:Addr)(c:Nat->Addr):Prop where
 Dd:mg "ArchError" = some (.ref cA)
 nm:∀i x,Dr[i]?=some x->mg x=some (.ref (c i))
 exc:∀i,i<12->excIn K (c i) Ea "ValueError.__new__" = true
 xc:∀i,i<12->EX.XC K (c i)
 is:∀i,i<12->∀j,j<12->kitOne K (.ref (c i)) (.ref (c j))=some (decide (i=j))
 val:∀i,i<12->kitOne K (.ref (c i)) (.type "ValueError")=some true
 Ie:∀i,i<12->exmOne K (.ref (c i)) (.ref cA)=some true
def Eo (K:Frag)(cA:Addr)(c:Nat->Addr):Bool:=(LU 12).all λi=>excIn K (c i) Ea "ValueError.__new__" && (mroIn K (c i) (.type "object")==some true&&(mroIn K (c i) (.type "BaseException")==some true &&
 (findIn K (.ref (c i)) "__getattribute__" == some (some (.builtin "BaseException.__getattribute__"))&&(findIn K (.ref (c i)) "__getattr__" == some none&&(findIn K (.ref (c i)) "__class__" == some (some (.builtin "object.__class__")) &&
 (kitOne K (.ref (c i)) (.type "ValueError")==some true&&(exmOne K (.ref (c i)) (.ref cA)==some true&&(LU 12).all λj=>kitOne K (.ref (c i)) (.ref (c j))==some (decide (i=j)))))))))
theorem AO {K:Frag} {mg:Str->Option KR} {cA:Addr} {c:Nat->Addr} (h:Eo K cA c=true) (a:mg "ArchError" = some (.ref cA)) (n:∀i x,Dr[i]?=some x->mg x=some (.ref (c i))):XA K mg cA c:=by
 have q:∀i,i<12->_:=λi hi=>M9.mp h i (Md.mpr hi);simp only[LP,beq_iff_eq,M9,Md]at q;exact⟨a,n,λi hi=>(q i hi).1,λi hi=>⟨(q i hi).2.1,(q i hi).2.2.1,(q i hi).2.2.2.1,(q i hi).2.2.2.2.1,(q i hi).2.2.2.2.2.1⟩,λi hi j hj=>(q i hi).2.2.2.2.2.2.2.2 j hj,λi hi=>(q i hi).2.2.2.2.2.2.1,λi hi=>(q i hi).2.2.2.2.2.2.2.1⟩
section
variable {K:Frag}{mg:Str->Option KR}{cA:Addr}{c:Nat->Addr}
theorem XA.x (Z:XA K mg cA c)(i:Nat){x:Str}(h:Dr[i]?=some x:=by rfl)(hi:i<12:=by decide):Xc K mg x (c i):=⟨Z.nm i x h,Z.exc i hi⟩
theorem XA.k (Z:XA K mg cA c){i j:Nat}(hi:i<12)(hj:j<12):Xk K (c i) (.ref (c j)) (decide (i=j)):=⟨Z.xc i hi,Z.is i hi j hj⟩
theorem XA.kv (Z:XA K mg cA c) {i:Nat} (hi:i<12):Xk K (c i) (.type "ValueError") true:=⟨Z.xc i hi,Z.val i hi⟩
theorem XA.any (Z:XA K mg cA c){i:Nat}(hi:i<12):∀(js:List Nat),(∀j∈js,j<12)->kitAny K (.ref (c i)) (js.map λj=>.ref (c j))=some (js.any λj=>decide (i=j))
 |[],_=>rfl
 |j::js,h=>by
  show (match kitOne K (.ref (c i)) (.ref (c j))with|some true=>some true|some false=>kitAny K (.ref (c i)) (js.map λj=>.ref (c j))|none=>none)=_
  rw[Z.is i hi j (h j Lg),List.any_cons]
  by_cases e:i=j
  ·rw[decide_eq_true e];rfl
  ·rw[decide_eq_false e];exact XA.any Z hi js λj hj=>h j (Lc _ hj)
theorem XA.ks (Z:XA K mg cA c){i:Nat}(hi:i<12)(js:List Nat)(h:∀j∈js,j<12:=by decide):G2 K (c i) (js.map λj=>.ref (c j)) (js.any λj=>decide (i=j)):=⟨Z.xc i hi,Z.any hi js h⟩
end
theorem Ai:LM "ValueError" = some (.type "ValueError"):=by decide +kernel
section
variable {X:Cx}{C:Cfg}{p p':Bool}{a b:Expr}{φa φb:aM}{g:D->D->Option D}{name:Str}{id:String}{apos cpos:Pos}
def E3 (g:D->D->Option D)(pb:Bool)(φa φb:aM):aM:=λβ R=>φa β λx ka β1=>(∃ds,x=.lst ds)/\hold ka pb/\φb β1 λy kb β2=>∃d,g x y=some d/\kN NF d (ka.max kb) λk=>R d k β2
abbrev Ao (X:Cx)(id:String)(g:D->D->Option D):Prop:=G8 X id λx xs H Q=>∃y,xs=[y]/\rQ X g NF x y H Q
theorem wN (slot:Slot "list" name id) (Cc:typeOf (.builtin id)=pure (.type "method_descriptor")) (hm:Ao X id g) (ha:PQ X C p a φa) (hb:PQ X C p' b φb)
  (cM:My a name X.env (eval a X.env)=eval a X.env:=by rfl)
  (gq:((L8 cpos (K5 [b] X.env)).all (λx=>!x.1)&&(Ov cpos (Ny [] X.env)).all (λx=>x.1.isSome)
   && decide ([b].length+([]:List Nb).length+(if ([]:List Nb).isEmpty then 0 else 1)<30))=true:=by rfl)
  (cL:(apos.endLine==cpos.line)=true:=by rfl) (hs:K5 [b] X.env=(false,eval b X.env)::K5 [] X.env:=by rfl) (cK:(L8 cpos (K5 [] X.env)).any (·.1)=false:=by rfl) :
  PQ X C (p&&p') (.Call (.Attribute a name apos) [b] [] cpos) (E3 g p' φa φb) :=
 ⟨λβ R R' k h=>ha.mono β _ _ (λx ka β1 hx=>⟨hx.1,hx.2.1,hb.mono β1 _ _ (λy kb β2 hq=>by obtain⟨d,e,q⟩:=hq;exact⟨d,e,q.mono λ_ z=>k _ _ _ z⟩) hx.2.2⟩) h,
  (sA PySem.F.plainAttrs_list slot Cc hm ha.pe (a7 hb.pe cG (hs:=hs)) cM gq cL hs cK).pre λσ H Q hq=>by
    obtain⟨β,own,s,h⟩:=hq;refine tQ.of ha s h λd1 k1 β1 v1 H1 az hx o1 r1=>?_;obtain⟨⟨ds,rfl⟩,hh,h1⟩:=hx;refine⟨?_,tQ.of hb o1.sq h1 λd2 k2 β2 v2 H2 aX tu o2 r2=>?_⟩
    · obtain⟨l,vs,rfl,hl,_⟩:=r1.rep;exact .inl ⟨rfl,vs,de.of hl⟩
    · obtain⟨d,e,q⟩:=tu;have u6:=r1.ho o2 hh;refine⟨v2,rfl,av C (Wn aX) (k1.max k2),.lst ds,d2,d,o2.sq.uF _,ar.aK bH u6.rep,ar.aK cZ r2.rep,e,λv H' s3 r3 n3=>?_⟩;have o:=(o1.trans o2).same s3;obtain⟨k,q,r⟩:=KV.kN (Z:=(H,Wn own)) sS r3 (λn=>fD (H:=H2) o2.sq.qz o2.sq.fQ (λa z=>o2.sn.d a (o1.sn.d a z)) (ax.nl _ n) (n3 n)) q;exact q v H' aX o r⟩
end
end L2.Q
namespace L2
open PySem PySem.Spec PySem.SeqAt PyProof.Rows
def t5:List D->Option (List Bool)
 |[]=>some []
 |.bl b::ds=>(t5 ds).map (b::·)
 |_::_=>none
theorem kT:∀{ds:List D} {bs:List Bool},t5 ds=some bs->ds=bs.map D.bl
 |[],_,h=>by cases h;rfl
 |d::ds,bs,h=>by
  cases d with
  |bl b =>
   obtain⟨r,h1,rfl⟩:=LG.mp (show (t5 ds).map (b::·)=some bs from h)
   rw[kT h1];rfl
  |_=>cases h
section
variable {P:K3}{w:Lf}{W:Addr->Prop}{H:Hp}
theorem lz:∀{bs:List Bool} {vs:List V},ag P w W H (bs.map D.bl) vs->vs=bs.map V.bl
 |[],_,h=>h
 |b::bs,_,⟨v,r,e,h1,h2⟩=>by rw[e,show v=.bl b from h1,lz h2];rfl
end
theorem lh:∀{bs:List Bool} {us:List KR},Vals (bs.map V.bl) us->us=bs.map Value.bool
 |[],_,.nil=>rfl
 |b::bs,_,.cons r q=>by rw[LJ,<- lh q,show _=Value.bool b from r]
namespace Q
section
end
end Q
end L2
namespace L2.Q
open PySem PySem.Spec PySem.SeqAt PyProof.Rows
def _root_.L2.D.GW:D->Option Bool
 |.bl b=>some b
 |_=>none
theorem D.uh {d:D}{b:Bool}(h:d.GW=some b):d=.bl b:=by cases d <;> first|(cases h;rfl)|cases h
section
variable {X:Cx}{C:Cfg}{p p':Bool}{a b:Expr}{φa φb:aM}{apos cpos:Pos}
def qm (k:Bool):KR->Bool
 |.bool b=>b==k
 |_=>false
theorem ph (k:Bool){A:LI}{s:KU}{bs:List Bool}{y:KR}(hy:y∈bs.map Value.bool):EqAt A s y (.bool k) (qm k y):=by
 obtain⟨b,_,rfl⟩:=LC.mp hy;exact EqAt.bool_bool b k
def xB (a b:D):Option D:=a.yY.bind λds=>(t5 ds).bind λbs=>b.GW.map λk=>.int (bs.count k:Nat)
def xw (a b:D):Option D:=a.yY.bind λds=>(t5 ds).bind λbs=>b.GW.bind λk=>if k∈bs/\bs.length<=Lk then some (.int (bs.idxOf k:Nat)) else none
theorem ug {pins:List (Addr×Obj)}{s:KU}{σ:St}{H:Hp}{W:Addr->Prop}{bs:List Bool}{x:V}{v:KR}(I:Inv X pins σ H s)(rx:RelV x v)(r1:Rp X W H (.lst (bs.map D.bl)) x):
  ∃l dd n sl,v=.ref l/\s.heap.get? l=some ⟨.type "list",dd,.seq (bs.map Value.bool).toArray n,sl⟩:=by
 obtain⟨l,vs,rfl,hl,_,rv⟩:=r1;rw[lz rv]at hl;cases (show v=.ref l from rx)
 obtain⟨_,its,n,r',ho⟩:=I.a_ l _ hl;rw[lh r']at ho;exact⟨l,_,n,_,rfl,ho⟩
theorem qg:Ao X "list.count" xB:=by
 intro pins s σ H x xs v us Q I rx rs h;obtain⟨y,rfl,W,d1,d2,d,hd,r1,r2,e,q⟩:=h;obtain⟨ds,e1,e2⟩:=L5.mp e;obtain⟨bs,e3,e4⟩:=L5.mp e2;obtain⟨k,e5,rfl⟩:=LG.mp e4;rw[D.oY e1,kT e3]at r1;rw[D.uh e5]at r2;obtain⟨l,dd,n,sl,rfl,ho⟩:=ug I rx r1;obtain⟨u,rfl,ru⟩:=vals1 rs;cases (show y=.bl k from r2)
 cases ru;refine Oq PySem.F.slot_list_count ⟨_,ho,rfl⟩ PySem.F.entry_list_count (PySem.F.args_list_count_2 _ _) (list_countAt l (bs.map Value.bool).toArray n dd sl (.bool k) (qm k)) ⟨ho,λy hy=>ph k (by simpa using hy),?_⟩
 have ec:(bs.map Value.bool).countP (qm k)=bs.count k:=by
  rw[List.countP_map];rfl
 rw[show (bs.map Value.bool).toArray.toList=bs.map Value.bool from rfl,ec]
 exact⟨.int (bs.count k:Nat),H,I.tok _,⟨_,rfl⟩,q _ _ (ay.refl _) rfl λ_=>rfl⟩
theorem qe:Ao X "list.index" xw:=by
 intro pins s σ H x xs v us Q I rx rs h;obtain⟨y,rfl,W,d1,d2,d,hd,r1,r2,e,q⟩:=h;obtain⟨ds,e1,e2⟩:=L5.mp e;obtain⟨bs,e3,e4⟩:=L5.mp e2;obtain⟨k,e5,e6⟩:=L5.mp e4;obtain⟨⟨hk,hz⟩,rfl⟩:=dD e6;rw[D.oY e1,kT e3]at r1;rw[D.uh e5]at r2;obtain⟨l,dd,n,sl,rfl,ho⟩:=ug I rx r1;obtain⟨u,rfl,ru⟩:=vals1 rs;cases (show y=.bl k from r2)
 cases ru;have hj:bs.idxOf k<bs.length:=List.idxOf_lt_length_iff.mpr hk;have AA:Lk<2 ^ 63-1:=by decide
 refine Oq PySem.F.slot_list_index ⟨_,ho,rfl⟩ PySem.F.entry_list_index (PySem.F.args_list_index_2 _ _) (list_indexAt l (bs.map Value.bool).toArray n dd sl (.bool k) (qm k) (bs.idxOf k) (by simpa using hj) (by lia) ?_ ?_)
  ⟨ho,λy hy=>ph k (by simpa using hy),⟨.int (bs.idxOf k:Nat),H,I.tok _,⟨_,rfl⟩,q _ _ (ay.refl _) rfl λ_=>rfl⟩⟩
 ·simp[qm]
 ·intro m hm eS;have JI:m<bs.length:=by simpa using hm
  have:=List.not_of_lt_findIdx (p:=(·==k)) (xs:=bs) eS;simpa[qm] using this
theorem p4 (ha:PQ X C p a φa) (hb:PQ X C p' b φb) (cM:My a "count" X.env (eval a X.env)=eval a X.env:=by rfl)
  (gq:((L8 cpos (K5 [b] X.env)).all (λx=>!x.1)&&(Ov cpos (Ny [] X.env)).all (λx=>x.1.isSome)
   && decide ([b].length+([]:List Nb).length+(if ([]:List Nb).isEmpty then 0 else 1)<30))=true:=by rfl)
  (cL:(apos.endLine==cpos.line)=true:=by rfl) (hs:K5 [b] X.env=(false,eval b X.env)::K5 [] X.env:=by rfl) (cK:(L8 cpos (K5 [] X.env)).any (·.1)=false:=by rfl) :
  PQ X C (p&&p') (.Call (.Attribute a "count" apos) [b] [] cpos) (E3 xB p' φa φb):=wN PySem.F.slot_list_count PySem.F.type_list_count qg ha hb cM gq cL hs cK
theorem p3 (ha:PQ X C p a φa) (hb:PQ X C p' b φb) (cM:My a "index" X.env (eval a X.env)=eval a X.env:=by rfl)
  (gq:((L8 cpos (K5 [b] X.env)).all (λx=>!x.1)&&(Ov cpos (Ny [] X.env)).all (λx=>x.1.isSome)
   && decide ([b].length+([]:List Nb).length+(if ([]:List Nb).isEmpty then 0 else 1)<30))=true:=by rfl)
  (cL:(apos.endLine==cpos.line)=true:=by rfl) (hs:K5 [b] X.env=(false,eval b X.env)::K5 [] X.env:=by rfl) (cK:(L8 cpos (K5 [] X.env)).any (·.1)=false:=by rfl) :
  PQ X C (p&&p') (.Call (.Attribute a "index" apos) [b] [] cpos) (E3 xw p' φa φb):=wN PySem.F.slot_list_index PySem.F.type_list_index qe ha hb cM gq cL hs cK
end
theorem eM (a b:Str)(ha:(D.str a).rL=true:=by decide +kernel)(hb:(D.str b).rL=true:=by decide +kernel):xv (.str a) (.str b)=some (.bl (!decide (a=b))):=by
 unfold xv;rw[if_pos ⟨ha,hb⟩];show some (D.bl (!(a==b)))=_;rw[show (a==b)=decide (a=b) from Nk.mpr (by rw[beq_iff_eq,decide_eq_true_iff])]
end L2.Q
namespace L2
open PySem PySem.Spec PySem.SeqAt PyProof.Rows
def Ff:List Int->List Int
 |[a,b]=>[if b<a then b else a,if a<b then b else a]
 |t=>t
end L2
namespace L2.Q
open PySem PySem.Spec PySem.SeqAt PyProof.Rows
structure Dp (mg:Str->Option KR):Prop extends Bs2 mg where
 sum:mg "sum" = none
theorem sW {α:Type}{γ:eh}{τ:bb}{φ:aM}{l:List α}{f:α->D}{k:Kd}{xC:bt}{K:List D->Prop}(t:α->Bool)(g:α->D)(h0:eR xC xC)(hl:l.length<=Lk)
  (h:∀x∈l,∀(x0:Option B) (o:List D) (J:bt->List D->Prop),o.length<Lk->(t x=true->∀x0,J (x0::xC) (o++[g x]))->(t x=false->∀x0,J (x0::xC) o)->γ (f x) (sk k (f x)) (x0::xC) λβ1=>τ β1 λt β2=>if t=true then φ β2 λx kx β3=>Ay kx x/\o.length<Lk/\J β3 (o++[x]) else J β2 o)
  (q:K ((l.filter t).map g)):jy γ τ φ (l.map f) k (none::xC) K:=by
 refine⟨λi β o=>i<=l.length/\(∃x0,β=x0::xC)/\o=((l.take i).filter t).map g,⟨Lp _,⟨_,rfl⟩,rfl⟩,?_,?_⟩
 ·rintro i d β o hd ⟨hi,⟨x0,rfl⟩,rfl⟩;rw[Lj]at hd;obtain⟨x,hx,rfl⟩:=LG.mp hd;have eS:i<l.length:=(Lr.mp hx).1;have hle:(((l.take i).filter t).map g).length<Lk:=by
   rw[KY];have:=List.length_filter_le t (l.take i);rw[Lw]at this;lia
  have e:l.take (i+1)=l.take i++[x]:=by rw[OC,hx];rfl
  refine h x (LR hx) x0 _ (λβ o=>i+1<=l.length/\(∃x0,β=x0::xC)/\o=((l.take (i+1)).filter t).map g) hle (λht x0=>?_) λht x0=>?_
  ·exact⟨eS,⟨_,rfl⟩,by rw[e,List.filter_append,Mp,List.filter_cons,if_pos ht];rfl⟩
  ·exact⟨eS,⟨_,rfl⟩,by rw[e,List.filter_append,Mp,List.filter_cons,if_neg (by rw[ht];simp)];simp⟩
 ·rintro β o ⟨_,⟨x0,rfl⟩,rfl⟩;rw[KY,NS];exact⟨h0,q⟩
theorem gM {α:Type}{l:List α}:l.filter (λ_=>true)=l:=List.filter_eq_self.mpr λ_ _=>rfl
theorem iW {a b:List D}(h:a.length+b.length<=1000000):Ac (.lst a) (.lst b)=some (.lst (a++b)):=by
 show (if a.length+b.length<=Lk then _ else _)=_
 rw[if_pos (L4 h (by decide))]
theorem dQ {n:Nat}(h:n<=1000):n<=Lk:=L4 h (by decide)
end L2.Q
namespace jU
open PySem L2 L2.Q
section
variable {P:K3}{w:Lf}{K:PySem.W.Frag}{mg:Str->Option KR}{base:Heap}{cA:Addr}{c:Nat->Addr}
abbrev b7 (p:Int×Int):D:=.tup [.int p.1,.int p.2]
def nF (n:Int)(p:Int×Int):Prop:=0<=(if p.2<p.1 then p.2 else p.1)/\(if p.2<p.1 then p.2 else p.1)<(if p.1<p.2 then p.2 else p.1)/\(if p.1<p.2 then p.2 else p.1)<n
def jL (c:Nat->Addr):wH:=λds R T=>∃p:Int×Int,ds=[b7 p]/\(¬ (0<=p.1/\p.1<p.2)->T (c 1))/\(0<=p.1/\p.1<p.2->R .bx)
theorem jL.mono:mP (jL c):=λds R R' T T' k l ⟨p,e,h,q⟩=>⟨p,e,λz=>l _ (h z),λz=>k _ (q z)⟩
theorem dq:aU ["tie","a","b"] ["tie"] (aw bS):=⟨rfl,rfl,rfl,by decide +kernel,rfl,by decide +kernel,by decide +kernel⟩
theorem vy {kO gO} (qA:D4 K mg kO gO) (ZA:XA K mg cA c):aR P w K mg base (qS P w) 1 kO gO ["tie"] (j6 P w true (jL c)):=by
 refine yP qA.F dq (λds R T Co=> by obtain⟨p,e,_⟩ := Co;subst e;rfl) λbX A outer s H E hr=>?_
 have Z:=hG (P:=P) (w:=w) (K:=K) (mg:=mg) (base:=base) (N:=["tie","a","b"]) (qual:="check_tie") (scope:=aw bS) (f:=kO) (cd:=bX) (A:=A) (outer:=outer) (s:=s) (H:=H) (E:=E);refine⟨_,(ai (kg (ae (i:=0)) (dy (n:=2) rfl (aP (aA (i:=1) dq.nd) (aP (aA (i:=2) dq.nd) cF))))
    (au (bL (kc (jo ah (cE sI (ae (i:=1)) (gZ cJ (ae (i:=2)))))) (au (iA Z rfl (XA.x ZA 1))) aY))),λds R h=>?_⟩
 obtain⟨p,rfl,hx,q⟩:=h;refine⟨_,rfl,_,rfl,rfl,_,_,rfl,_,_,rfl,rfl,?_⟩;refine⟨_,rfl,_,rfl,mV (λh1=>?_) λh1=>⟨_,rfl,uA rfl (hx λz=>h1 z.1)⟩⟩
 by_cases h2:p.1<p.2
 ·exact⟨_,rfl,_,rfl,_,rfl,gS (by show (!decide _)=false;rw[decide_eq_true h2];rfl) (q ⟨h1,h2⟩)⟩
 ·exact⟨_,rfl,_,rfl,_,rfl,uA (by show (!decide _)=true;rw[decide_eq_false h2];rfl) (hx λz=>h2 z.2)⟩
theorem bz:aU ["one","other","a","b","c","d"] ["one","other"] (aw b_):=⟨rfl,rfl,rfl,by decide +kernel,rfl,by decide +kernel,by decide +kernel⟩
theorem i9 {xp me} (dX:D5 K mg xp me):aR P w K mg base dj 1 xp me ["one","other"] (pP P w true iP):=by
 refine Dz dX.F bz (λds R Cn=> by obtain⟨t,u,e,_⟩ := Cn;subst e;rfl) λbX A outer s H E hr=>⟨_,(ai (kg (ae (i:=0)) (dy (n:=2) rfl (aP (aA (i:=2) bz.nd) (aP (aA (i:=3) bz.nd) cF))))
    (ai (kg (ae (i:=1)) (dy (n:=2) rfl (aP (aA (i:=4) bz.nd) (aP (aA (i:=5) bz.nd) cF))))
    (au (bp (Bt (lD (ae (i:=2)) (cE cJ (ae (i:=4)) (cE cJ (ae (i:=3)) (gZ cJ (ae (i:=5)))))) (yu (lD (ae (i:=4)) (cE cJ (ae (i:=2)) (cE cJ (ae (i:=5)) (gZ cJ (ae (i:=3)))))))))))),λds R h=>?_⟩
 obtain⟨t,u,rfl,⟨a,b,rfl⟩,⟨c,d,rfl⟩,q⟩:=h;refine⟨_,rfl,_,rfl,rfl,_,_,rfl,_,_,rfl,rfl,?_⟩;refine⟨_,rfl,_,rfl,rfl,_,_,rfl,_,_,rfl,rfl,?_⟩;refine t9 (a:=a) (b:=c) (c:=b) (d:=d) rfl rfl rfl rfl ⟨_,rfl,Jp (λh=>⟨trivial,?_⟩) (λh=>t9 (a:=c) (b:=a) (c:=d) (d:=b) rfl rfl rfl rfl ⟨trivial,?_⟩)⟩
 ·have:kU [a,b] [c,d]=true:=by show (_ || _)=true;rw[h];rfl
  rw[<- this];exact q
 ·have:kU [a,b] [c,d]=(decide (c<a)&&(decide (a<d)&&decide (d<b))):=by show (_ || _)=_;rw[h];rfl
  rw[<- this];exact q
def tR (c:Nat->Addr):wH:=λds R T=>∃p q:Int×Int,ds=[b7 p,b7 q]/\(¬ ((0<=p.1/\p.1<p.2)/\0<=q.1/\q.1<q.2)->T (c 1))/\((0<=p.1/\p.1<p.2)/\0<=q.1/\q.1<q.2->R (.bl (kU [p.1,p.2] [q.1,q.2])))
theorem tR.mono:mP (tR c):=λds R R' T T' k l ⟨p,q,e,h,q'⟩=>⟨p,q,e,λz=>l _ (h z),λz=>k _ (q' z)⟩
theorem ly:aU ["one","other"] ["one","other"] (aw cy):=⟨rfl,rfl,rfl,by decide +kernel,rfl,by decide +kernel,by decide +kernel⟩
theorem yN {n6 jK} (xx:D6 K mg n6 jK) {kO gO} (qA:D4 K mg kO gO) {xp me} (dX:D5 K mg xp me) (ZA:XA K mg cA c):aR P w K mg base (qS P w) 2 n6 jK ["one","other"] (j6 P w true (tR c)):=by
 have Ik:aR P w K mg base (qS P w) 1 _ _ _ (j6 P w true (jL c)):=vy qA ZA;have GX:aR P w K mg base dj 1 _ _ _ (pP P w true iP):=i9 dX;refine yP xx.F ly (λds R T Cm=> by obtain⟨p,q,e,_⟩ := Cm;subst e;rfl) λbX A outer s H E hr=>?_
 have Z:=hG (P:=P) (w:=w) (K:=K) (mg:=mg) (base:=base) (N:=["one","other"]) (qual:="do_cross") (scope:=aw cy) (f:=n6) (cd:=bX) (A:=A) (outer:=outer) (s:=s) (H:=H) (E:=E);refine⟨_,(ai (oS (lE Z jL.mono Ik (hr.mono (by decide)) qA.m qA.F.kp qA.b (aa (ae (i:=0)) af)))
    (ai (oS (lE Z jL.mono Ik (hr.mono (by decide)) qA.m qA.F.kp qA.b (aa (ae (i:=1)) af)))
    (k6.mU (au (bp (bP iP.mono GX (hr.mono (by decide)) dX.m dX.F.kp dX.b (aa (ae (i:=0)) (aa (ae (i:=1)) af)))))))),λds R h=>?_⟩
 obtain⟨p,q,rfl,hx,h⟩:=h;refine⟨_,rfl,trivial,p,rfl,λz=>hx λy=>z y.1,λh1=>?_⟩;refine⟨_,rfl,trivial,q,rfl,λz=>hx λy=>z y.2,λh2=>?_⟩;exact⟨_,rfl,trivial,_,rfl,trivial,[p.1,p.2],[q.1,q.2],rfl,⟨_,_,rfl⟩,⟨_,_,rfl⟩,trivial,h ⟨h1,h2⟩⟩
def mn (c:Nat->Addr):wH:=λds R T=>∃(n:Int) (gs:List (Int×Int)),ds=[.int n,.lst (gs.map b7)]/\gs.length<1000/\(¬ (0<=n/\∀p∈gs,nF n p)->T (c 0))/\(0<=n/\(∀p∈gs,nF n p)->∀d,R d)
theorem mn.mono:mP (mn c):=λds R R' T T' k l ⟨n,gs,e,hl,h,q'⟩=>⟨n,gs,e,hl,λz=>l _ (h z),λz d=>k _ (q' z d)⟩
theorem f7:aU ["many","ties","a","b"] ["many","ties"] (aw dY):=⟨rfl,rfl,rfl,by decide +kernel,rfl,by decide +kernel,by decide +kernel⟩
theorem vv {nZ jJ} (xu:D7 K mg nZ jJ) (B:Bs mg) (ZA:XA K mg cA c):aR P w K mg base (qS P w) 1 nZ jJ ["many","ties"] (j6 P w true (mn c)):=by
 refine yP xu.F f7 (λds R T Ck=> by obtain⟨n,gs,e,_⟩ := Ck;subst e;rfl) λbX A outer s H E hr=>?_
 have Z:=hG (P:=P) (w:=w) (K:=K) (mg:=mg) (base:=base) (N:=["many","ties","a","b"]) (qual:="row_of") (scope:=aw dY) (f:=nZ) (cd:=bX) (A:=A) (outer:=outer) (s:=s) (H:=H) (E:=E);refine⟨_,(ai (bL (aN ax (cS.m cJ) (ae (i:=0)) ah) (au (iA Z rfl (XA.x ZA 0))) aY)
    (ai (c5 Z.own rfl (bU (ae (i:=1))) (dy (n:=2) rfl (aP (aA (i:=2) f7.nd) (aP (aA (i:=3) f7.nd) cF))) (au (bL (kc (jo ah (cE sI (a9 ax (bJ.m (cQ rfl)) B.min i3 (aa (ae (i:=2)) (aa (ae (i:=3)) af))) (cE cJ (a9 ax (bJ.m (dE rfl)) B.max i4 (aa (ae (i:=2)) (aa (ae (i:=3)) af))) (gZ cJ (ae (i:=0))))))) (au (iA Z rfl (XA.x ZA 0))) aY)))
    (k6.mU (au (bp (a4 (aa (ae (i:=0)) (aa (a9 aL (fT rfl) B.sorted gw (aa (IS hr.oA ["a","b"] [none,none] (by rfl) (by decide:(["a","b"]:List Str).Nodup) rfl (bU (ae (i:=1))) (λ_ _ _ _ _ _=>(dy (n:=2) rfl (aP (aA (i:=0) (by decide:(["a","b"]:List Str).Nodup)) (aP (aA (i:=1) (by decide:(["a","b"]:List Str).Nodup)) cF)))) (λ_ _ _ _ _ _=>jY) (λ_ _ _ _ _ _=>(a4 (aa (a9 ax (bJ.m (cQ rfl)) B.min i3 (aa (ae (i:=0)) (aa (ae (i:=1)) af))) (aa (a9 ax (bJ.m (dE rfl)) B.max i4 (aa (ae (i:=0)) (aa (ae (i:=1)) af))) af))))) af)) af)))))))),λds R h=>?_⟩
 obtain⟨n,gs,rfl,gl,hx,q⟩:=h;refine⟨_,rfl,trivial,_,rfl,_,rfl,mV (λh1=>hx λz=>by lia) λh1=>?_⟩
 have n0:0<=n:=by lia
 refine⟨_,rfl,_,rfl,trivial,?_⟩;refine⟨λi β=>(∀p∈gs.take i,nF n p)/\∃x2 x3,β=[some (.val false (.int n)),some (.val false (.lst (gs.map b7))),x2,x3],⟨λp hp=>by simp at hp,_,_,rfl⟩,?_,?_⟩
 ·rintro i d β hd ⟨hg,x2,x3,rfl⟩;rw[Lj]at hd;obtain⟨p,eg,rfl⟩:=LG.mp hd;have hm:=LR eg;have bad:¬ nF n p->XR H E (c 0):=λz=>hx λy=>z (y.2 p hm);refine⟨_,rfl,rfl,_,_,rfl,_,_,rfl,rfl,_,rfl,trivial,_,rfl,trivial,_,rfl,_,rfl,mV (λt0=>?_) λt0=>⟨_,rfl,uA rfl (bad λz=>t0 z.1)⟩⟩;refine⟨_,rfl,trivial,_,rfl,trivial,_,rfl,_,rfl,mV (λt1=>?_) λt1=>⟨_,rfl,uA rfl (bad λz=>t1 z.2.1)⟩⟩
  by_cases t2:(if p.1<p.2 then p.2 else p.1)<n
  ·refine⟨_,rfl,_,rfl,_,rfl,gS (by show (!decide _)=false;rw[Nt];exact decide_eq_true t2) ⟨λx hx=>?_,_,_,rfl⟩⟩
   rw[OC,eg]at hx;rcases Lv.mp hx with z|z
   ·exact hg x z
   ·rw[K_.mp z];exact⟨t0,t1,t2⟩
  ·exact⟨_,rfl,_,rfl,_,rfl,uA (by show (!decide _)=true;rw[decide_eq_false t2];rfl) (bad λz=>t2 z.2.2)⟩
 ·rintro β ⟨hg,x2,x3,rfl⟩;rw[KY,NS]at hg;have q:=q ⟨n0,hg⟩;refine⟨_,rfl,trivial,_,rfl,_,rfl,trivial,?_⟩;refine⟨λi β o=>(∃x0 x1,β=[x0,x1])/\i<=gs.length/\o=(gs.take i).map λp=>Ff [p.1,p.2],⟨⟨_,_,rfl⟩,Lp _,rfl⟩,?_,?_⟩
  ·rintro i d β o hd ⟨⟨x0,x1,rfl⟩,hi,rfl⟩;rw[Lj]at hd;obtain⟨p,eg,rfl⟩:=LG.mp hd;have eS:i<gs.length:=(Lr.mp eg).1;refine⟨_,rfl,rfl,_,_,rfl,_,_,rfl,rfl,_,rfl,trivial,_,rfl,trivial,_,rfl,trivial,_,rfl,trivial,_,rfl,trivial,_,rfl,trivial,h8,Ff [p.1,p.2],rfl,by rw[KY,Lw];lia,⟨_,_,rfl⟩,eS,?_⟩
   rw[OC,eg,Mp];rfl
  ·rintro β o ⟨⟨x0,x1,rfl⟩,_,rfl⟩;rw[KY,NS];have zO:∀k∈gs.map λp=>Ff [p.1,p.2],k≠[]:=λk hk=>by
    obtain⟨p,_,rfl⟩:=LC.mp hk;exact λz=>(by cases z)
   exact⟨trivial,trivial,_,ic zO (by rw[KY];exact gl),.inl ⟨cN _,trivial,h8,trivial,q _⟩⟩
theorem dW:aU ["caught","others","kinds"] ["caught"] (aw dv):=⟨rfl,rfl,rfl,by decide +kernel,rfl,by decide +kernel,by decide +kernel⟩
def iO (c:Nat->Addr):FD:=λds R=>(ds=[.bx]/\R (.str "told"))\/∃i,i<3/\ds=[.exc (c i)]/\R (.str (Dr.getD i ""))
theorem iO.mono:i6 (iO c):=λds R R' k h=>h.imp (λz=>⟨z.1,k _ z.2⟩) λ⟨i,hi,e,q⟩=>⟨i,hi,e,k _ q⟩
theorem oT {mh gN} (pA:D8 K mg mh gN) (B:Dp mg) (bV:mg "ValueError" = none) (ZA:XA K mg cA c):aR P w K mg base dj 1 mh gN ["caught"] (pP P w true (iO c)):=by
 refine Dz pA.F dW (λds R h=>by rcases h with⟨e,_⟩|⟨_,_,e,_⟩ <;> (subst e;rfl)) λbX A outer s H E hr=>⟨_,(cU (bL (aN ax (cS.m vq) (ae (i:=0)) nB) (au (bp b4)) aY)
    (ai (a5 (i:=1) (va B.B7 (ae (i:=0)) (cb (cb (cb (cb (cb (cb (cb (cb (cb vj (XA.x ZA 11).m) (XA.x ZA 3).m) (XA.x ZA 9).m) (XA.x ZA 8).m) (XA.x ZA 5).m) (XA.x ZA 7).m) (XA.x ZA 4).m) (XA.x ZA 6).m) (XA.x ZA 10).m) (by show 9<=Lk;decide)) dW.nd)
    (ai (a5 (i:=2) (a8 (aa (nC B.B7 (ae (i:=0)) (XA.x ZA 0).m) (aa (nC B.B7 (ae (i:=0)) (XA.x ZA 1).m) (aa (nC B.B7 (ae (i:=0)) (XA.x ZA 2).m) af)))) dW.nd)
    (cU (bL (qQ.t (ir (oJ (ae (i:=1))) (ir (kc (oJ (yv B.B7 (ae (i:=0)) bV Ai))) (gY (aN ax (cS.m (dz hr.units)) (p4 (ae (i:=2)) jq) ah))))) (au (bp b4)) aY)
    (au (bp (fz ax kA (a8 (aa b4 (aa b4 (aa b4 af)))) (p3 (ae (i:=2)) jq)))))))),λds R h=>?_⟩
 rcases h with⟨rfl,q⟩|⟨i,hi,rfl,q⟩
 ·exact⟨λ_=>False,⟨_,rfl,trivial,_,rfl,_,rfl,uA rfl ⟨trivial,q⟩⟩,λ_ z=>z.elim⟩
 ·refine⟨λβ=>β=[some (.val false (.exc (c i))),none,none],⟨_,rfl,trivial,_,rfl,_,rfl,gS rfl rfl⟩,?_⟩;rintro β rfl;have cf:i<12:=by lia
  refine⟨_,rfl,c i,_,rfl,ZA.ks cf [10,6,4,7,5,8,9,3,11],?_⟩;refine⟨_,rfl,c i,_,rfl,ZA.k cf (j:=0) (by decide),trivial,_,rfl,c i,_,rfl,ZA.k cf (j:=1) (by decide),trivial,_,rfl,c i,_,rfl,ZA.k cf (j:=2) (by decide),trivial,dQ (by show 3<=1000;decide),?_⟩
  match i,hi,cf,q with
  |0,_,cf,q =>
   refine⟨λβ=>β=[some (.val false (.exc (c 0))),some (.val true (.bl false)),some (.val true (.lst [.bl true,.bl false,.bl false]))],⟨_,rfl,_,rfl,gS rfl ⟨_,rfl,c 0,true,rfl,ZA.kv cf,_,rfl,gS rfl ⟨_,rfl,⟨_,rfl⟩,trivial,_,rfl,trivial,_,kS _ _,_,rfl,gS rfl rfl⟩⟩⟩,?_⟩;rintro β rfl;exact⟨trivial,trivial,trivial,dQ (by show 3<=1000;decide),trivial,_,rfl,⟨_,rfl⟩,trivial,_,rfl,_,rfl,trivial,q⟩
  |1,_,cf,q =>
   refine⟨λβ=>β=[some (.val false (.exc (c 1))),some (.val true (.bl false)),some (.val true (.lst [.bl false,.bl true,.bl false]))],⟨_,rfl,_,rfl,gS rfl ⟨_,rfl,c 1,true,rfl,ZA.kv cf,_,rfl,gS rfl ⟨_,rfl,⟨_,rfl⟩,trivial,_,rfl,trivial,_,kS _ _,_,rfl,gS rfl rfl⟩⟩⟩,?_⟩;rintro β rfl;exact⟨trivial,trivial,trivial,dQ (by show 3<=1000;decide),trivial,_,rfl,⟨_,rfl⟩,trivial,_,rfl,_,rfl,trivial,q⟩
  |2,_,cf,q =>
   refine⟨λβ=>β=[some (.val false (.exc (c 2))),some (.val true (.bl false)),some (.val true (.lst [.bl false,.bl false,.bl true]))],⟨_,rfl,_,rfl,gS rfl ⟨_,rfl,c 2,true,rfl,ZA.kv cf,_,rfl,gS rfl ⟨_,rfl,⟨_,rfl⟩,trivial,_,rfl,trivial,_,kS _ _,_,rfl,gS rfl rfl⟩⟩⟩,?_⟩;rintro β rfl;exact⟨trivial,trivial,trivial,dQ (by show 3<=1000;decide),trivial,_,rfl,⟨_,rfl⟩,trivial,_,rfl,_,rfl,trivial,q⟩
theorem bQ:aU ["many","ties","caught","handed","e"] ["many","ties"] (aw du):=⟨rfl,rfl,rfl,by decide +kernel,rfl,by decide +kernel,by decide +kernel⟩
def gP:FD:=λds R=>∃(n:Int) (gs:List (Int×Int)),ds=[.int n,.lst (gs.map b7)]/\gs.length<1000/\(¬ (0<=n/\∀p∈gs,nF n p)->R (.str "NoRow"))/\(0<=n/\(∀p∈gs,nF n p)->R (.str "told"))
theorem gP.mono:i6 gP:=λds R R' k ⟨n,gs,e,hl,h,q⟩=>⟨n,gs,e,hl,λz=>k _ (h z),λz=>k _ (q z)⟩
theorem pR (gs:List (Int×Int)):(D.lst (gs.map b7)).pd.canLay0=true/\(D.lst (gs.map b7)).pd.depth<=3:=by
 have e:gs.map b7=(gs.map λp=>[p.1,p.2]).map kD:=by rw[Mv];rfl
 rw[e];exact nr _
theorem vw {v9 o9} (oh:D9 K mg v9 o9) {nZ jJ} (xu:D7 K mg nZ jJ) {mh gN} (pA:D8 K mg mh gN) (B:Dp mg) (bV:mg "ValueError" = none) (ZA:XA K mg cA c):aR P w K mg base dj 2 v9 o9 ["many","ties"] (pP P w true gP):=by
 have Kk:aR P w K mg base (qS P w) 1 _ _ _ (j6 P w true (mn c)):=vv xu B.toBs ZA;have Ha:aR P w K mg base dj 1 _ _ _ (pP P w true (iO c)):=oT pA B bV ZA;refine Dz oh.F bQ (λds R Cj=> by obtain⟨n,gs,e,_⟩ := Cj;subst e;rfl) λbX A outer s H E hr=>⟨_,(ai (a5 (i:=2) nB bQ.nd)
    (ai (a5 (i:=3) (gb aL mH B.list wy (aa (ae (i:=1)) af)) bQ.nd)
    (cU (sC (j:=4) rfl rfl (oC mn.mono Kk (hr.mono (by decide)) xu.m xu.F.kp xu.b (aa (ae (i:=0)) (aa (ae (i:=3)) af))) (λ_=>(au (a5 (i:=2) (ae (i:=4)) bQ.nd))) ZA.Dd bQ.nd)
    (ai (bL (aN ax (cS.m (dz hr.units)) (ae (i:=3)) (ae (i:=1))) (au (bp b4)) aY)
    (au (bp (bP iO.mono Ha (hr.mono (by decide)) pA.m pA.F.kp pA.b (aa (ae (i:=2)) af)))))))),λds R h=>?_⟩
 obtain⟨n,gs,rfl,hl,q1,q2⟩:=h;have fl:D.cY (gs.map b7)=true:=by
  have e:gs.map b7=(gs.map λp=>[p.1,p.2]).map kD:=by rw[Mv];rfl
  rw[e];exact cN _
 refine⟨_,rfl,trivial,_,rfl,.inl ⟨fl,?_⟩⟩;refine⟨λβ=>∃d,β=[some (.val false (.int n)),some (.val false (.lst (gs.map b7))),some (.val true d),some (.val true (.lst (gs.map b7))),none]/\((d=.bx/\(0<=n/\∀p∈gs,nF n p))\/(d=.exc (c 0)/\¬ (0<=n/\∀p∈gs,nF n p))),
  ⟨λcl=>cl=c 0/\¬ (0<=n/\∀p∈gs,nF n p),⟨_,rfl,trivial,_,rfl,trivial,n,gs,rfl,hl,λh=>⟨rfl,h⟩,λh d=>⟨_,rfl,.inl ⟨rfl,h⟩⟩⟩,λcl h=>by
   obtain⟨rfl,h⟩:=h;exact⟨ZA.Ie 0 (by decide),_,rfl,_,rfl,.inr ⟨rfl,h⟩⟩⟩,?_⟩
 rintro β ⟨d,rfl,hd⟩;refine⟨_,rfl,trivial,_,rfl,_,tX (pR gs),_,rfl,gS rfl ?_⟩;rcases hd with⟨rfl,hv⟩|⟨rfl,hv⟩
 ·exact⟨_,rfl,trivial,.inl ⟨rfl,trivial,q2 hv⟩⟩
 ·exact⟨_,rfl,trivial,.inr ⟨0,by decide,rfl,trivial,q1 hv⟩⟩
theorem bG:aU ["one","other","caught","e"] ["one","other"] (aw bO):=⟨rfl,rfl,rfl,by decide +kernel,rfl,by decide +kernel,by decide +kernel⟩
def qy:FD:=λds R=>∃p q:Int×Int,ds=[b7 p,b7 q]/\(¬ ((0<=p.1/\p.1<p.2)/\0<=q.1/\q.1<q.2)->R (.str "NoTie"))/\((0<=p.1/\p.1<p.2)/\0<=q.1/\q.1<q.2->R (.str "told"))
theorem qy.mono:i6 qy:=λds R R' k ⟨p,q,e,h,z⟩=>⟨p,q,e,λy=>k _ (h y),λy=>k _ (z y)⟩
theorem yO {v_ o_} (wo:Io K mg v_ o_) {n6 jK} (xx:D6 K mg n6 jK) {kO gO} (qA:D4 K mg kO gO) {xp me} (dX:D5 K mg xp me) {mh gN} (pA:D8 K mg mh gN) (B:Dp mg) (bV:mg "ValueError" = none) (ZA:XA K mg cA c):aR P w K mg base dj 3 v_ o_ ["one","other"] (pP P w true qy):=by
 have Kl:aR P w K mg base (qS P w) 2 _ _ _ (j6 P w true (tR c)):=yN xx qA dX ZA;have Ha:aR P w K mg base dj 1 _ _ _ (pP P w true (iO c)):=oT pA B bV ZA;refine Dz wo.F bG (λds R Ci=> by obtain⟨p,q,e,_⟩ := Ci;subst e;rfl) λbX A outer s H E hr=>⟨_,(ai (a5 (i:=2) nB bG.nd)
    (cU (sC (j:=3) rfl rfl (oC tR.mono Kl (hr.mono (by decide)) xx.m xx.F.kp xx.b (aa (ae (i:=0)) (aa (ae (i:=1)) af))) (λ_=>(au (a5 (i:=2) (ae (i:=3)) bG.nd))) ZA.Dd bG.nd)
    (au (bp (bP iO.mono Ha (hr.mono (by decide)) pA.m pA.F.kp pA.b (aa (ae (i:=2)) af)))))),λds R h=>?_⟩
 obtain⟨p,q,rfl,q1,q2⟩:=h;refine⟨λβ=>∃d,β=[some (.val false (b7 p)),some (.val false (b7 q)),some (.val true d),none]/\((d=.bx/\((0<=p.1/\p.1<p.2)/\0<=q.1/\q.1<q.2))\/(d=.exc (c 1)/\¬ ((0<=p.1/\p.1<p.2)/\0<=q.1/\q.1<q.2))),
  ⟨λcl=>cl=c 1/\¬ ((0<=p.1/\p.1<p.2)/\0<=q.1/\q.1<q.2),⟨_,rfl,trivial,_,rfl,trivial,p,q,rfl,λh=>⟨rfl,h⟩,λh=>⟨_,rfl,.inl ⟨rfl,h⟩⟩⟩,λcl h=>by
   obtain⟨rfl,h⟩:=h;exact⟨ZA.Ie 1 (by decide),_,rfl,_,rfl,.inr ⟨rfl,h⟩⟩⟩,?_⟩
 rintro β ⟨d,rfl,hd⟩;rcases hd with⟨rfl,hv⟩|⟨rfl,hv⟩
 ·exact⟨_,rfl,trivial,.inl ⟨rfl,trivial,q2 hv⟩⟩
 ·exact⟨_,rfl,trivial,.inr ⟨1,by decide,rfl,trivial,q1 hv⟩⟩
end
end jU
namespace L2.Q
open PySem
section
end
section
end
theorem fx {n d p:Nat}{x:Int}(hx:x=(p:Int))(h:p<=n):HT.gW n d (some x)=p:=by
 subst hx;rw[HT.fx];lia
theorem Ae {ds:List D}{p:Nat}{x:Int}(hx:x=(p:Int))(h:p<=ds.length):cutD ds none (some x)=ds.take p:=by
 unfold cutD;rw[fx hx h];show (ds.drop 0).take (p-0)=_;simp
theorem Ad {ds:List D}{p:Nat}{x:Int}(hx:x=(p:Int))(h:p<=ds.length):cutD ds (some x) none=ds.drop p:=by
 unfold cutD;rw[fx hx h];show (ds.drop p).take (ds.length-p)=_;rw[MX (by simp)]
end L2.Q
namespace jU
open PySem L2 L2.Q
section
variable {P:K3}{w:Lf}{K:PySem.W.Frag}{mg:Str->Option KR}{base:Heap}{cA:Addr}{c:Nat->Addr}
theorem bo:aU ["script","cell","hand","many","ties","far","point","odds","bads","bad","at","few","good","one","other"] ["script"] (aw il):=⟨rfl,rfl,rfl,by decide +kernel,rfl,by decide +kernel,by decide +kernel⟩
def rD (K:PySem.W.Frag):Sp:=λvs H Q _=>∃(a:Addr) (ns:List Int),vs=[.ref a]/\de K H a (ns.map V.int)/\ns.length<=63/\∀H',Q (.bl true) H'
def JL (β:Q.bt):Prop:=∃y0 y1 y2 y3 y4 y5 y6 y7 y8 y9 En Em El Ek Ej:Option Q.B,β=[y0,y1,y2,y3,y4,y5,y6,y7,y8,y9,En,Em,El,Ek,Ej]
theorem Bv:C3 (.int 10) (.int 29)=some (.int (10 ^ 29)):=by
 show (if oz 10 29 then some (D.int (10 ^ (29:Int).toNat)) else none)=_
 rw[if_pos ⟨by decide,by decide,by decide⟩]
 rfl
theorem yM {f:Addr} {fd:LF} (F:ur K "law" "law" il f fd) (B:Dp mg) (bV:mg "ValueError" = none) (ZA:XA K mg cA c) {nZ jJ} (xu:D7 K mg nZ jJ) {n6 jK} (xx:D6 K mg n6 jK) {kO gO} (qA:D4 K mg kO gO) {xp me} (dX:D5 K mg xp me) {J5 GL} (dH:Km K mg J5 GL) {z6 nY} (dT:D1 K mg z6 nY) {xq mf} (dA:D0 K mg xq mf) {AG qx} (dI:D2 K mg AG qx) {DW v8} (dR:D3 K mg DW v8) {mh gN} (pA:D8 K mg mh gN) {v9 o9} (oh:D9 K mg v9 o9) {v_ o_} (wo:Io K mg v_ o_):aR P w K mg base dj 45 f fd ["script"] (rD K):=by
 have GH:aR P w K mg base dj 1 _ _ _ (pP P w true mq):=zW (vx dH.F ⟨B.max,B.min,B.int⟩);have GT:aR P w K mg base dj 1 _ _ _ (fZ P w e9 true bh):=jZ (g6 dT.F);have GR:aR P w K mg base dj 4 _ _ _ (fZ P w e9 true tP):=yK dR dT dA dI B.toBs;have Ei:aR P w K mg base dj 2 _ _ _ (pP P w true gP):=vw oh xu pA B bV ZA;have Il:aR P w K mg base dj 3 _ _ _ (pP P w true qy):=yO wo xx qA dX pA B bV ZA;refine F.ok bo (λvs H Q E h=>?_) (λbX A outer s H vs Qk E hr h=>?_)
 ·obtain⟨a,ns,rfl,_⟩:=h;rfl
 ·obtain⟨a,ns,rfl,hS,hlen,k⟩:=h;have Gk:∀b:Addr,¬ (λ_=>False) b:=λb z=>z;obtain⟨ψ,hb,hψ⟩:∃ψ,Q.k6 (gT dj P w K mg base _ "law" (aw il) f bX A outer s H E).mU ⟨H,λ_=>False,true,λ_=>False⟩ (match (cg il)with | .For _ _ b _ _::_=>b|_=>[]) ψ /\
    ∀(c:Int) (x0 x2 x3 x4 x5 x6 x7 x8 x9 qV uI Ds qU qT:Option Q.B),ψ {nx:=JL,rt:=λd _=>d=.bl true,bk:=JL,ct:=JL} [x0,some (.val true (.int c)),x2,x3,x4,x5,x6,x7,x8,x9,qV,uI,Ds,qU,qT]:=by
   refine⟨_,(ai (vi (i:=2) e9 Gk (λ_=>(bP mq.mono GH (hr.mono (by decide)) dH.m dH.F.kp dH.b (aa (ae (i:=1)) af))) bo.nd)
    (ai (kg (aO (ih:=2) tP.mono GR (hr.mono (by decide)) dR.m dR.F.kp dR.b af) (dy (n:=2) rfl (aP (aA (i:=3) bo.nd) (aP (aA (i:=4) bo.nd) cF))))
    (ai (a5 (i:=5) (aO (ih:=2) bh.mono GT (hr.mono (by decide)) dT.m dT.F.kp dT.b (aa (fz ax kA (a8 (aa ah (aa ah (aa (aZ ax (cS.m vo) ah ah) af)))) (aO (ih:=2) bh.mono GT (hr.mono (by decide)) dT.m dT.F.kp dT.b (aa ah af))) af)) bo.nd)
    (ai (a5 (i:=6) (aO (ih:=2) bh.mono GT (hr.mono (by decide)) dT.m dT.F.kp dT.b (aa (a9 ax (bJ.m (dE rfl)) B.max i4 (aa ah (aa (ae (i:=3)) af))) af)) bo.nd)
    (ai (a5 (i:=7) (a8 (aa (gI cT ah) (aa (ae (i:=3)) (aa (aZ ax (cS.m fE) (gI cT ah) (ae (i:=5))) (aa (aZ aL aF (ae (i:=3)) (ae (i:=5))) af))))) bo.nd)
    (ai (a5 (i:=8) (aZ aL aF (aZ aL aF (a8 (aa (a4 (aa (ae (i:=6)) (aa (ae (i:=6)) af))) af)) (DD ["odd","point"] [none,some 6] (by rfl) (by decide:(["odd","point"]:List Str).Nodup) rfl (bU (ae (i:=7))) (λ_ _ _ _ _ _=>(aA (i:=0) (by decide:(["odd","point"]:List Str).Nodup))) (λ_ _ _ _ _ _=>jY) (λ_ _ _ _ _ _=>(a4 (aa (ae (i:=0)) (aa (ae (i:=1)) af)))))) (DD ["odd","point"] [none,some 6] (by rfl) (by decide:(["odd","point"]:List Str).Nodup) rfl (bU (ae (i:=7))) (λ_ _ _ _ _ _=>(aA (i:=0) (by decide:(["odd","point"]:List Str).Nodup))) (λ_ _ _ _ _ _=>jY) (λ_ _ _ _ _ _=>(a4 (aa (ae (i:=1)) (aa (ae (i:=0)) af)))))) bo.nd)
    (ai (c5 L9 rfl (bU (aZ aL aF (ae (i:=8)) (a8 (aa (a4 (aa (fz ax kA (ae (i:=7)) (aO (ih:=2) bh.mono GT (hr.mono (by decide)) dT.m dT.F.kp dT.b (aa ah af))) (aa (fz ax kA (ae (i:=7)) (aO (ih:=2) bh.mono GT (hr.mono (by decide)) dT.m dT.F.kp dT.b (aa ah af))) af))) af)))) (aA (i:=9) bo.nd) (ai (a5 (i:=10) (aO (ih:=2) bh.mono GT (hr.mono (by decide)) dT.m dT.F.kp dT.b (aa (aZ aL aF (a9 ax (bJ.m qL) B.len Ak (aa (ae (i:=4)) af)) ah) af)) bo.nd)
    (au (bL (aN ax (cS.m (dz hr.units)) (bP gP.mono Ei (hr.mono (by decide)) oh.m oh.F.kp oh.b (aa (ae (i:=3)) (aa (aZ aL aF (aZ aL aF (r9 (ae (i:=4)) iw (iu (ae (i:=10)))) (a8 (aa (ae (i:=9)) af))) (r9 (ae (i:=4)) (iu (ae (i:=10))) iw)) af))) b4) (au (bp jq)) aY))))
    (ai (c5 L9 rfl (bU (a8 (aa (gI cT ah) (aa (aZ ax (cS.m fE) (gI cT ah) (ae (i:=5))) af)))) (aA (i:=11) bo.nd) (au (bL (qQ.t (ir (aN ax (cS.m (dz hr.units)) (bP gP.mono Ei (hr.mono (by decide)) oh.m oh.F.kp oh.b (aa (ae (i:=11)) (aa (a8 af) af))) b4) (gY (aN ax (cS.m (dz hr.units)) (bP gP.mono Ei (hr.mono (by decide)) oh.m oh.F.kp oh.b (aa (ae (i:=11)) (aa (ae (i:=4)) af))) b4)))) (au (bp jq)) aY)))
    (ai (a5 (i:=12) (a4 (aa (ae (i:=6)) (aa (aZ aL aF (aZ aL aF (ae (i:=6)) ah) (ae (i:=5))) af))) bo.nd)
    (ai (a5 (i:=8) (a8 (aa (a4 (aa (ae (i:=6)) (aa (ae (i:=6)) af))) (aa (a4 (aa (aZ aL aF (aZ aL aF (ae (i:=6)) ah) (ae (i:=5))) (aa (ae (i:=6)) af))) (aa (a4 (aa (aZ ax (cS.m fE) (gI cT ah) (ae (i:=5))) (aa (ae (i:=6)) af))) af)))) bo.nd)
    (ai (c5 L9 rfl (bU (aZ aL aF (ae (i:=8)) (a8 (aa (a4 (aa (gI cT ah) (aa ah af))) (aa (a4 (aa (aZ ax (cS.m fE) (gI cT ah) (ae (i:=5))) (aa (gI cT ah) af))) af))))) (aA (i:=9) bo.nd) (au (c5 L9 rfl (bU (a8 (aa (a4 (aa (ae (i:=9)) (aa (ae (i:=12)) af))) (aa (a4 (aa (ae (i:=12)) (aa (ae (i:=9)) af))) (aa (a4 (aa (ae (i:=9)) (aa (ae (i:=9)) af))) af))))) (dy (n:=2) rfl (aP (aA (i:=13) bo.nd) (aP (aA (i:=14) bo.nd) cF))) (au (bL (aN ax (cS.m (dz hr.units)) (bP qy.mono Il (hr.mono (by decide)) wo.m wo.F.kp wo.b (aa (ae (i:=13)) (aa (ae (i:=14)) af))) b4) (au (bp jq)) aY)))))
    (au (bL (qQ.t (ir (aN ax (cS.m (dz hr.units)) (bP gP.mono Ei (hr.mono (by decide)) oh.m oh.F.kp oh.b (aa (ae (i:=3)) (aa (ae (i:=4)) af))) b4) (gY (aN ax (cS.m (dz hr.units)) (bP qy.mono Il (hr.mono (by decide)) wo.m wo.F.kp wo.b (aa (ae (i:=12)) (aa (a4 (aa ah (aa (aZ aL aF ah (ae (i:=5))) af))) af))) b4)))) (au (bp jq)) aY))))))))))))),λcc x0 x2 x3 x4 x5 x6 x7 x8 x9 qV uI Ds qU qT=>?_⟩
   refine⟨_,rfl,trivial,cc,rfl,λns hk=>⟨trivial,(by show 2<15;decide),ns,rfl,hk,?_⟩⟩
   refine⟨rfl,rfl,trivial,rfl,λn ts n0 n1 dr=>?_⟩;obtain⟨hl,tr,sr,nd⟩:=dr;obtain⟨gs,eg,JN⟩:∃gs:List (Int×Int),ts.map kD=gs.map b7/\gs.length=ts.length/\∀p∈gs,nF n p:=by
    refine⟨ts.map λt=>(t.getD 0 0,t.getD 1 0),?_,by rw[KY],λp hp=>?_⟩
    ·rw[Mv];refine Nm λt ht=>?_;obtain⟨a,b,rfl,_⟩:=tr t ht;rfl
    ·obtain⟨t,ht,rfl⟩:=LC.mp hp;obtain⟨a,b,rfl,h0,h1,h2⟩:=tr t ht;refine⟨?_,?_,?_⟩ <;> (dsimp only[List.getD,List.getElem?_cons_zero,Ms,Option.getD];repeat' split) <;> lia
   rw[eg];obtain⟨HZ,JO⟩:=JN;refine⟨_,rfl,rfl,_,_,rfl,_,_,rfl,rfl,?_⟩;refine⟨rfl,trivial,trivial,trivial,.int (10 ^ 29),Bv,trivial,(by show 3<=Lk;decide),trivial,rfl,trivial,rfl,trivial,3,rfl,by lia,by lia,λr r0 r1=>pick r0 (by simpa using r1) λd hd=>?_⟩
   obtain⟨mm,rfl,m0,m1⟩:∃mm:Int,d=.int mm/\0<mm/\mm<=10 ^ 29:=by
    simp only[K6,L_,or_false]at hd;rcases hd with rfl|rfl|rfl
    ·exact⟨1,rfl,by lia,by lia⟩
    ·exact⟨9,rfl,by lia,by lia⟩
    ·exact⟨10 ^ 29,rfl,by lia,by lia⟩
   refine⟨trivial,rfl,trivial,mm,rfl,m0,by lia,λeK f0 f1=>?_⟩
   refine⟨rfl,trivial,_,rfl,trivial,_,rfl,trivial,rfl,trivial,(if (1:Int)<n then n else 1),rfl,by split <;> lia,by split <;> lia,λpt p0 p1=>?_⟩
   have KC:n<=0/\pt=0\/pt<n:=by
    split at p1
    ·exact .inr p1
    ·by_cases z:n<=0
     ·exact .inl ⟨z,by lia⟩
     ·exact .inr (by lia)
   refine⟨_,rfl,rfl,trivial,_,rfl,trivial,_,rfl,rfl,trivial,_,rfl,_,rfl,trivial,_,rfl,trivial,_,rfl,_,rfl,trivial,dQ (by show 4<=1000;decide),?_⟩
   refine⟨_,rfl,trivial,_,rfl,trivial,h8,trivial,A_,trivial,_,rfl,_,rfl,trivial,sW (l:=[-1,n,-1-eK,n+eK]) (f:=D.int) (λ_=>true) (λo=>b7 (o,pt)) trivial (dQ (by show 4<=1000;decide)) (λo ho y0 oo J F1 h1 _=>?_) ?_⟩
   ·exact⟨_,rfl,trivial,_,rfl,trivial,h8,trivial,F1,h1 rfl _⟩
   rw[gM];refine⟨_,rfl,.inr ⟨trivial,_,rfl,_,rfl,trivial,sW (l:=[-1,n,-1-eK,n+eK]) (f:=D.int) (λ_=>true) (λo=>b7 (pt,o)) trivial (dQ (by show 4<=1000;decide)) (λo ho y0 oo J F1 h1 _=>?_) ?_⟩⟩
   ·exact⟨_,rfl,trivial,_,rfl,trivial,h8,trivial,F1,h1 rfl _⟩
   rw[gM];obtain⟨bl,hB⟩:∃bl:List D,bl=[b7 (pt,pt)]++([-1,n,-1-eK,n+eK].map λo=>b7 (o,pt))++([-1,n,-1-eK,n+eK].map λo=>b7 (pt,o)):=⟨_,rfl⟩;have odd:∀o∈[-1,n,-1-eK,n+eK],o<0\/n<=o:=λo ho=>by
    simp only[K6,L_,or_false]at ho;lia
   have C_:∀a b:Int,a<0\/n<=a->¬ nF n (a,b):=λa b h z=>by
    obtain⟨z1,z2,z3⟩:=z;dsimp only at z1 z2 z3
    split at z1 <;> split at z3 <;> lia
   have GZ:∀a b:Int,b<0\/n<=b->¬ nF n (a,b):=λa b h z=>by
    obtain⟨z1,z2,z3⟩:=z;dsimp only at z1 z2 z3
    split at z1 <;> split at z3 <;> lia
   have GY:∀a:Int,¬ nF n (a,a):=λa z=>by
    obtain⟨z1,z2,z3⟩:=z;dsimp only at z2;simp at z2
   have JT:∀d∈bl,∃p,d=b7 p/\¬ nF n p:=λd hd=>by
    rw[hB]at hd;rcases Lv.mp hd with hd|hd
    ·rcases Lv.mp hd with hd|hd
     ·rw[K_.mp hd];exact⟨_,rfl,GY _⟩
     ·obtain⟨o,ho,rfl⟩:=LC.mp hd;exact⟨_,rfl,C_ _ _ (odd o ho)⟩
    ·obtain⟨o,ho,rfl⟩:=LC.mp hd;exact⟨_,rfl,GZ _ _ (odd o ho)⟩
   have KO:bl.length<=9:=by rw[hB];exact KZ _
   refine⟨.lst bl,by rw[hB];rfl,.inr ?_⟩
   clear hB
   have pk:∀d∈[D.int (-1),D.int n,D.int (-1-eK),D.int (n+eK)],∃o,d=.int o/\(o<0\/n<=o):=λd hd=>by
    simp only[K6,L_,or_false]at hd;rcases hd with rfl|rfl|rfl|rfl
    ·exact⟨_,rfl,odd _ (by simp)⟩
    ·exact⟨_,rfl,odd _ (by simp)⟩
    ·exact⟨_,rfl,odd _ (by simp)⟩
    ·exact⟨_,rfl,odd _ (by simp)⟩
   refine⟨_,rfl,trivial,_,rfl,trivial,rfl,trivial,rfl,trivial,4,rfl,by lia,by lia,λr r0 r1=>pick r0 (by simpa using r1) λd hd=>?_⟩
   obtain⟨o1,rfl,zN⟩:=pk d hd;refine⟨trivial,_,rfl,trivial,rfl,trivial,rfl,trivial,4,rfl,by lia,by lia,λr r0 r1=>pick r0 (by simpa using r1) λd hd=>?_⟩
   obtain⟨o2,rfl,HM⟩:=pk d hd;refine⟨trivial,h8,trivial,A_,.lst (bl++[b7 (o1,o2)]),iW (by show bl.length+1<=1000000;lia),.inr ⟨_,rfl,trivial,?_⟩⟩
   have Gw:∀d∈bl++[b7 (o1,o2)],∃p,d=b7 p/\¬ nF n p:=λd hd=>by
    rcases Lv.mp hd with hd|hd
    ·exact JT d hd
    ·rw[K_.mp hd];exact⟨_,rfl,C_ _ _ zN⟩
   refine⟨λ_ β=>∃x9 qV:Option Q.B,β=[x0,some (.val true (.int cc)),some (.hand e9),some (.val true (.int n)),some (.val true (.lst (gs.map b7))),some (.val true (.int eK)),some (.val true (.int pt)),some (.val true (.lst [.int (-1),.int n,.int (-1-eK),.int (n+eK)])),some (.val true (.lst bl)),x9,qV,uI,Ds,qU,qT],⟨_,_,rfl⟩,?_,?_⟩
   ·rintro i d β hd ⟨x9,qV,rfl⟩;obtain⟨p,rfl,hp⟩:=Gw d (LR hd);refine⟨rfl,_,rfl,trivial,_,rfl,trivial,_,rfl,trivial,rfl,trivial,_,rfl,by lia,by rw[KY];lia,λat' a0 a1=>?_⟩
    obtain⟨a,rfl⟩:=Int.eq_ofNat_of_zero_le a0;rw[KY]at a1;have ha:a<=gs.length:=by lia
    have e1:DY (.lst (gs.map b7)) none (some (a:Int))=some (.lst ((gs.take a).map b7)):=by
     show some (D.lst (cutD _ _ _))=_;rw[Ae rfl (by rw[KY];exact ha),NJ]
    have e2:DY (.lst (gs.map b7)) (some (a:Int)) none=some (.lst ((gs.drop a).map b7)):=by
     show some (D.lst (cutD _ _ _))=_;rw[Ad rfl (by rw[KY];exact ha),Om]
    have Gg:(gs.take a).length<=300:=by rw[Lw];lia
    have HS:(gs.drop a).length<=300:=by rw[M7];lia
    refine⟨_,rfl,trivial,_,rfl,_,rfl,_,rfl,_,e1,.inr ⟨trivial,_,rfl,trivial,A_,.inr ⟨.lst ((gs.take a).map b7++[b7 p]),iW (by rw[KY];show _+1<=_;lia),.inr ⟨trivial,_,rfl,_,rfl,_,rfl,_,e2,.inr ⟨.lst ((gs.take a++p::gs.drop a).map b7),?_,.inr ⟨trivial,n,_,rfl,?_,λ_=>⟨trivial,_,eM _ _,_,rfl,gS (by decide) ⟨_,_,rfl⟩⟩,λz=>absurd (z.2 p (by simp)) hp⟩⟩⟩⟩⟩⟩
    ·rw[iW (by rw[Lz,KY,KY];show _+1+_<=_;lia)]
     simp
    ·rw[Lz,Lm];lia
   ·rintro β ⟨x9,qV,rfl⟩;refine⟨_,rfl,rfl,trivial,_,rfl,rfl,trivial,_,rfl,_,rfl,trivial,dQ (by show 2<=1000;decide),_,rfl,trivial,?_⟩
    have gq:∀d∈[D.int (-1),D.int (-1-eK)],∃o,d=.int o/\o<0:=λd hd=>by
     simp only[K6,L_,or_false]at hd;rcases hd with rfl|rfl
     ·exact⟨_,rfl,by lia⟩
     ·exact⟨_,rfl,by lia⟩
    refine⟨λ_ β=>∃x9 qV uI:Option Q.B,β=[x0,some (.val true (.int cc)),some (.hand e9),some (.val true (.int n)),some (.val true (.lst (gs.map b7))),some (.val true (.int eK)),some (.val true (.int pt)),some (.val true (.lst [.int (-1),.int n,.int (-1-eK),.int (n+eK)])),some (.val true (.lst bl)),x9,qV,uI,Ds,qU,qT],⟨_,_,_,rfl⟩,?_,?_⟩
    ·rintro i d β hd ⟨x9,qV,uI,rfl⟩;obtain⟨o,rfl,ho⟩:=gq d (LR hd);refine⟨_,rfl,trivial,Lp _,trivial,o,[],rfl,by show 0<1000;lia,λ_=>⟨trivial,_,eM _ _,_,rfl,gS (by decide) ?_⟩,λz=>absurd z.1 (by lia)⟩
     exact⟨_,rfl,trivial,_,rfl,trivial,o,gs,rfl,by lia,λ_=>⟨trivial,_,eM _ _,_,rfl,gS (by decide) ⟨_,_,_,rfl⟩⟩,λz=>absurd z.1 (by lia)⟩
    ·rintro β ⟨x9,qV,uI,rfl⟩;refine⟨_,rfl,trivial,_,rfl,trivial,_,rfl,trivial,_,rfl,_,rfl,trivial,h8,?_⟩;refine⟨_,rfl,trivial,_,rfl,trivial,h8,trivial,_,rfl,trivial,_,rfl,trivial,_,rfl,_,rfl,trivial,_,rfl,trivial,h8,trivial,_,rfl,rfl,trivial,_,rfl,_,rfl,trivial,_,rfl,trivial,h8,trivial,dQ (by show 3<=1000;decide),?_⟩
     obtain⟨b2,e2⟩:∃b2:List (Int×Int),b2=[(pt,pt),(pt+1+eK,pt),(-1-eK,pt),(-1,0),(-2-eK,-1)]:=⟨_,rfl⟩;have JV:∀p∈b2,¬ (0<=p.1/\p.1<p.2):=λp hp=>by
      rw[e2]at hp;simp only[K6,L_,or_false]at hp;rcases hp with rfl|rfl|rfl|rfl|rfl <;> (dsimp only;lia)
     refine⟨_,rfl,trivial,_,rfl,rfl,trivial,trivial,h8,trivial,_,rfl,rfl,trivial,_,rfl,_,rfl,trivial,_,rfl,rfl,trivial,h8,trivial,dQ (by show 2<=1000;decide),.lst (b2.map b7),by rw[e2];rfl,.inr ⟨_,rfl,trivial,?_⟩⟩
     clear e2
     have CL:0<=(pt,pt+1+eK).1/\(pt,pt+1+eK).1<(pt,pt+1+eK).2:=⟨p0,by dsimp only;lia⟩
     refine⟨λ_ β=>∃x8 x9 qU qT:Option Q.B,β=[x0,some (.val true (.int cc)),some (.hand e9),some (.val true (.int n)),some (.val true (.lst (gs.map b7))),some (.val true (.int eK)),some (.val true (.int pt)),some (.val true (.lst [.int (-1),.int n,.int (-1-eK),.int (n+eK)])),x8,x9,qV,uI,some (.val true (b7 (pt,pt+1+eK))),qU,qT],⟨_,_,_,_,rfl⟩,?_,?_⟩
     ·rintro i d β hd ⟨x8,x9,qU,qT,rfl⟩;rw[Lj]at hd;obtain⟨p,DJ,rfl⟩:=LG.mp hd;have hp:=JV p (LR DJ);obtain⟨gd,eg⟩:∃gd,gd=(pt,pt+1+eK):=⟨_,rfl⟩;rw[<- eg];refine⟨_,rfl,trivial,_,rfl,trivial,h8,.inr ⟨trivial,_,rfl,trivial,_,rfl,trivial,h8,.inr ⟨trivial,_,rfl,trivial,_,rfl,trivial,h8,.inr ⟨trivial,dQ (by show 3<=1000;decide),.inr ⟨_,rfl,trivial,?_⟩⟩⟩⟩⟩
      have JA:∀d∈[D.tup [b7 p,b7 gd],D.tup [b7 gd,b7 p],D.tup [b7 p,b7 p]],∃a b,d=.tup [b7 a,b7 b]/\¬ ((0<=a.1/\a.1<a.2)/\0<=b.1/\b.1<b.2):=λd hd=>by
       simp only[K6,L_,or_false]at hd;rcases hd with rfl|rfl|rfl
       ·exact⟨_,_,rfl,λz=>hp z.1⟩
       ·exact⟨_,_,rfl,λz=>hp z.2⟩
       ·exact⟨_,_,rfl,λz=>hp z.1⟩
      refine⟨λ_ β=>∃qU qT:Option Q.B,β=[x0,some (.val true (.int cc)),some (.hand e9),some (.val true (.int n)),some (.val true (.lst (gs.map b7))),some (.val true (.int eK)),some (.val true (.int pt)),some (.val true (.lst [.int (-1),.int n,.int (-1-eK),.int (n+eK)])),x8,some (.val true (b7 p)),qV,uI,some (.val true (b7 gd)),qU,qT],⟨_,_,rfl⟩,?_,?_⟩
      ·rintro i d β hd ⟨qU,qT,rfl⟩;obtain⟨a,b,rfl,zX⟩:=JA d (LR hd);exact⟨_,rfl,rfl,_,_,rfl,_,_,rfl,rfl,_,rfl,trivial,_,rfl,trivial,a,b,rfl,λ_=>⟨trivial,_,eM _ _,_,rfl,gS (by decide) ⟨_,_,rfl⟩⟩,λz=>absurd z zX⟩
      ·rintro β ⟨qU,qT,rfl⟩;rw[eg];exact⟨_,_,_,_,rfl⟩
     ·rintro β ⟨x8,x9,qU,qT,rfl⟩;refine⟨_,rfl,trivial,_,rfl,trivial,n,gs,rfl,by lia,λz=>absurd ⟨n0,JO⟩ z,λ_=>⟨trivial,_,eM _ _,_,rfl,gS (by decide) ?_⟩⟩
      exact⟨_,rfl,trivial,trivial,trivial,_,rfl,_,rfl,trivial,h8,trivial,_,(0,1+eK),rfl,λz=>absurd ⟨CL,by dsimp only;lia⟩ z,λ_=>⟨trivial,_,eM _ _,_,rfl,gS (by decide) ⟨_,_,_,_,_,_,_,_,_,_,_,_,_,_,_,rfl⟩⟩⟩
  refine⟨_,cC (rW L9 rfl (oP (bW sM (nD (a7 (bW iC aT aT) cG)) (lG oF (pv 0) oM (oK aT)))) (Q.aA (C:=⟨H,λ_=>False,true,λ_=>False⟩) (i:=1) bo.nd).pg hb.ps) (eF (iq wO)),?_⟩;obtain⟨ms,em,hm⟩:=qD ns none (some 10);refine⟨_,_,rfl,rfl,sd,(by show 1<=Lk;decide),λp1 CC=>⟨_,rfl,_,rfl,a,_,rfl,(ay.new CC).seq hS,λp2 HJ=>?_⟩⟩
  have Jf:p1≠p2:=bE ao HJ;refine⟨p1,p2,_,_,rfl,rfl,(by rw[aj Jf];exact ao),ao,(by rw[em,KY,LL,MB];lia),λl hl=>⟨l,rfl,⟨_,de.of ao⟩,?_⟩⟩
  rw[em];rw[em]at hl;have sm:ay H (upd (upd (upd H p1 (.lst [V.int (10 ^ (18:Int).toNat)])) p2 (.lst (ms.map V.int))) l (.lst ([V.int (10 ^ (18:Int).toNat)]++ms.map V.int))):=((ay.new CC).trans (ay.new (by rw[em]at *;exact HJ))).trans (ay.new hl)
  have jG:(upd (upd (upd H p1 (.lst [V.int (10 ^ (18:Int).toNat)])) p2 (.lst (ms.map V.int))) l (.lst ([V.int (10 ^ (18:Int).toNat)]++ms.map V.int))) l=some (.lst (((10 ^ (18:Int).toNat)::ms).map V.int)):=ao;generalize (upd (upd (upd H p1 (.lst [V.int (10 ^ (18:Int).toNat)])) p2 (.lst (ms.map V.int))) l (.lst ([V.int (10 ^ (18:Int).toNat)]++ms.map V.int)))=H1 at sm jG ⊢
  generalize ((10 ^ (18:Int).toNat)::ms)=cs at jG;let X:Cx:=(gT dj P w K mg base ["script","cell","hand","many","ties","far","point","odds","bads","bad","at","few","good","one","other"] "law" (aw il) f bX A outer s H E).mU
  let C:Q.Cfg:=⟨H,λ_=>False,true,λ_=>False⟩
  have it:AM X (λ_=>False) (Eg K l) (cs.map D.int) H1:=lX jG (λz=>z) (cn cs);have xa:=it (λb=>(λ_=>False) b\/H1 b=none) λb z=>z;have s':Q.bw P w C.z (L2.start ["script","cell","hand","many","ties","far","point","odds","bads","bad","at","few","good","one","other"] [.ref a]) H1 (MI 15 none) (λ_=>[]):=uQ (by rfl) sm
  generalize JQ:cs.map D.int=ds at xa;have hint:∀d∈ds,∃c:Int,d=.int c:=λd hd=>by
   rw[<- JQ]at hd;obtain⟨c,_,rfl⟩:=LC.mp hd;exact⟨c,rfl⟩
  refine⟨λi m σ H'=>i<=ds.length/\m=ds.length-i/\∃β,Q.SB X C (H1,Q.Wn λ_=>[]) σ H' β/\JL β,⟨_,Lp _,rfl,_,⟨_,s',Sn.refl⟩,⟨_,_,_,_,_,_,_,_,_,_,_,_,_,_,_,rfl⟩⟩,?_⟩;rintro i m σ2 H2 ⟨hi,rfl,β2,⟨aX,s2,n2⟩,⟨y0,y1,y2,y3,y4,y5,y6,y7,y8,y9,En,Em,El,Ek,Ej,rfl⟩⟩;obtain⟨fL,zm⟩:=xa i H2 (n2.k.mono λb z=>z.imp (λCg=> by obtain⟨_,q⟩ := Cg;exact(nomatch q)) id)
  by_cases eS:i<ds.length
  ·right
   have hd:ds[i]?=some ds[i]:=K9 eS;obtain⟨go,yl⟩:=fL _ hd;obtain⟨c,hc⟩:=hint ds[i] (M8 eS);refine⟨go,λσ' H'=>∃β,Q.SB X C (H1,Q.Wn λ_=>[]) σ' H' β/\JL β,λσ' H' Cf=> by obtain⟨β',uW,qu⟩ := Cf;exact⟨_,by lia,eS,rfl,β',uW,qu⟩,λx H3 y=>?_⟩
   obtain⟨s3,r3⟩:=yl x H3 y;rw[hc]at r3;refine⟨aX,_,.int c,.own,s2.same s3,ar.flat rfl r3,λσ4 kh s4 w4 _=>?_⟩;exact⟨(H1,Q.Wn λ_=>[]),{nx:=JL,rt:=λd _=>d=.bl true,bk:=JL,ct:=JL},_,⟨kh,s4,Q.fv (n2.same s3) w4⟩,hψ c y0 y2 y3 y4 y5 y6 y7 y8 y9 En Em El Ek Ej,⟨λσ5 H5 β5 pX q5=>⟨β5,pX,q5⟩,λσ5 H5 β5 d5 v5 pX r5 q5=>by
    subst q5;cases (show v5=V.bl true from Be r5)
    exact k _,λσ5 H5 β5 pX q5=>k _,λσ5 H5 β5 pX q5=>⟨β5,pX,q5⟩⟩⟩
  ·left
   have e:i=ds.length:=by lia
   subst e;exact⟨zm (KZ _),k _⟩
end
theorem ku {α:Type}{P:List α->Prop}(h:∀a,P [a]):∀us:List α,us.length=1->P us:=λus e=>by
 obtain⟨a,rfl⟩:=List.length_eq_one_iff.mp e;exact h a
theorem lV {α:Type}{P:List α->Prop}(h:∀a b,P [a,b]):∀us:List α,us.length=2->P us:=λus e=>by
 cases us with
 |nil=>cases e
 |cons a us=>exact ku (P:=λus=>P (a::us)) (h a) us (Nat.succ.inj e)
theorem tN {K:PySem.W.Frag}{x m:Str}{st:Stmt}{t c f:Nat}(l:K.lookup f=some (kF st x m t c))(cd:PySem.W.codeIn K (.ref c) x=true)(k:PySem.W.keepIn K (.ref f)=true):ur K x x st f (DF st x m t c):=z5 l cd k
theorem dM {K:PySem.W.Frag}{h:Heap}{mg:Str->Option KR}{x m:Str}{st:Stmt}{t c f:Nat}{ps:List Str}(X:K.In h)(G:h.Ns Mt mg)(l:K.lookup f=some (kF st x m t c))(cd:PySem.W.codeIn K (.ref c) x=true)(k:PySem.W.keepIn K (.ref f)=true)
  (a:PySem.W.nsIn K Mt x=some (some (.ref f))) (b:∀us:List KR,us.length=ps.length->bindArgs (DF st x m t c) ⟨us,[]⟩=pure (ps.zip us)):Df K mg x st ps f (DF st x m t c):=⟨tN l cd k,.all b,PySem.W.mg_of X G a⟩
abbrev cX (i:Nat):Addr:=[37,49,61,73,85,97,109,121,133,145,157,169].getD i 0
theorem all_mk {l:PySem.W.OpenLaw} (w:Lf) (mg:Str->Option KR) (fa:Addr) (h:Heap) (X:(KK w.params).In h) (G:h.Ns Mt mg) (JP:mg "law" = some (.ref fa))   :∃fd:LF,(∀(s:KU) (v:KR),BindsTo s fd ⟨[v],[]⟩ [("script",v)])/\∀base:Heap,(KK w.params).In base->base.Ns Mt mg->aR l.prog w (KK w.params) mg base dj 45 fa fd ["script"] (rD (KK w.params)):=by
 have e:=JP.symm.trans (PySem.W.mg_of X G (v:=.ref 256) (by kernel_rfl))
 cases e;have BR:=PySem.W.mg_none_of X G (n:="max") (by kernel_rfl)
 have BQ:=PySem.W.mg_none_of X G (n:="min") (by kernel_rfl)
 have BU:=PySem.W.mg_none_of X G (n:="int") (by kernel_rfl)
 have vG:=PySem.W.mg_none_of X G (n:="range") (by kernel_rfl)
 have sR:=PySem.W.mg_none_of X G (n:="sorted") (by kernel_rfl)
 have BP:=PySem.W.mg_none_of X G (n:="set") (by kernel_rfl)
 have BS:=PySem.W.mg_none_of X G (n:="len") (by kernel_rfl)
 have yU:=PySem.W.mg_none_of X G (n:="list") (by kernel_rfl)
 have kl:=PySem.W.mg_none_of X G (n:="isinstance") (by kernel_rfl)
 have vF:=PySem.W.mg_none_of X G (n:="tuple") (by kernel_rfl)
 have BO:=PySem.W.mg_none_of X G (n:="str") (by kernel_rfl)
 have yV:=PySem.W.mg_none_of X G (n:="bool") (by kernel_rfl)
 have BM:=PySem.W.mg_none_of X G (n:="zip") (by kernel_rfl)
 have lL:=PySem.W.mg_none_of X G (n:="enumerate") (by kernel_rfl)
 have BN:=PySem.W.mg_none_of X G (n:="sum") (by kernel_rfl)
 have km:=PySem.W.mg_none_of X G (n:="ValueError") (by kernel_rfl)
 have B:=(⟨⟨⟨BR,BQ,BU,vG,sR,BP,BS,yU⟩,kl,vF,BO,yV,BM,lL⟩,BN⟩:Dp mg);have ZA:XA (KK w.params) mg 24 cX:=AO (by kernel_rfl) (PySem.W.mg_of X G (v:=.ref 24) (by kernel_rfl)) λi x h=>by
  match i,h with
  |0,h=>cases h;exact PySem.W.mg_of X G (v:=.ref 37) (by kernel_rfl)
  |1,h=>cases h;exact PySem.W.mg_of X G (v:=.ref 49) (by kernel_rfl)
  |2,h=>cases h;exact PySem.W.mg_of X G (v:=.ref 61) (by kernel_rfl)
  |3,h=>cases h;exact PySem.W.mg_of X G (v:=.ref 73) (by kernel_rfl)
  |4,h=>cases h;exact PySem.W.mg_of X G (v:=.ref 85) (by kernel_rfl)
  |5,h=>cases h;exact PySem.W.mg_of X G (v:=.ref 97) (by kernel_rfl)
  |6,h=>cases h;exact PySem.W.mg_of X G (v:=.ref 109) (by kernel_rfl)
  |7,h=>cases h;exact PySem.W.mg_of X G (v:=.ref 121) (by kernel_rfl)
  |8,h=>cases h;exact PySem.W.mg_of X G (v:=.ref 133) (by kernel_rfl)
  |9,h=>cases h;exact PySem.W.mg_of X G (v:=.ref 145) (by kernel_rfl)
  |10,h=>cases h;exact PySem.W.mg_of X G (v:=.ref 157) (by kernel_rfl)
  |11,h=>cases h;exact PySem.W.mg_of X G (v:=.ref 169) (by kernel_rfl)
  |n+12,h=>cases h
 exact⟨_,λs v=>.of_eq rfl,λbase _ _=>yM (tN (x:="law") (m:="law_archrow_k04_no_rows_and_no_ties") (st:=il) (t:=436) (c:=255) (f:=256) (by kernel_rfl) (by kernel_rfl) (by kernel_rfl)) B km ZA (dM X G (x:="row_of") (m:="archrow.arcs") (st:=dY) (t:=399) (c:=175) (f:=176) (ps:=["many","ties"]) (by kernel_rfl) (by kernel_rfl) (by kernel_rfl) (by kernel_rfl) (lV λ_ _=>rfl))
  (dM X G (x:="do_cross") (m:="archrow.arcs") (st:=cy) (t:=399) (c:=182) (f:=183) (ps:=["one","other"]) (by kernel_rfl) (by kernel_rfl) (by kernel_rfl) (by kernel_rfl) (lV λ_ _=>rfl))
  (dM X G (x:="check_tie") (m:="archrow.arcs") (st:=bS) (t:=399) (c:=189) (f:=190) (ps:=["tie"]) (by kernel_rfl) (by kernel_rfl) (by kernel_rfl) (by kernel_rfl) (ku λ_=>rfl))
  (dM X G (x:="arcs_cross") (m:="archrow.arcs") (st:=b_) (t:=399) (c:=196) (f:=197) (ps:=["one","other"]) (by kernel_rfl) (by kernel_rfl) (by kernel_rfl) (by kernel_rfl) (lV λ_ _=>rfl))
  (dM X G (x:="_law_hand") (m:="law_archrow_k04_no_rows_and_no_ties") (st:=cw) (t:=436) (c:=203) (f:=204) (ps:=["cell"]) (by kernel_rfl) (by kernel_rfl) (by kernel_rfl) (by kernel_rfl) (ku λ_=>rfl))
  (dM X G (x:="_law_take") (m:="law_archrow_k04_no_rows_and_no_ties") (st:=cu) (t:=436) (c:=210) (f:=211) (ps:=["hand","many"]) (by kernel_rfl) (by kernel_rfl) (by kernel_rfl) (by kernel_rfl) (lV λ_ _=>rfl))
  (dM X G (x:="_law_arcs") (m:="law_archrow_k04_no_rows_and_no_ties") (st:=dw) (t:=436) (c:=217) (f:=218) (ps:=["hand","many"]) (by kernel_rfl) (by kernel_rfl) (by kernel_rfl) (by kernel_rfl) (lV λ_ _=>rfl))
  (dM X G (x:="_law_ties") (m:="law_archrow_k04_no_rows_and_no_ties") (st:=dt) (t:=436) (c:=222) (f:=223) (ps:=["hand","many"]) (by kernel_rfl) (by kernel_rfl) (by kernel_rfl) (by kernel_rfl) (lV λ_ _=>rfl))
  (dM X G (x:="_law_row") (m:="law_archrow_k04_no_rows_and_no_ties") (st:=eC) (t:=436) (c:=229) (f:=230) (ps:=["hand"]) (by kernel_rfl) (by kernel_rfl) (by kernel_rfl) (by kernel_rfl) (ku λ_=>rfl))
  (dM X G (x:="_law_kind") (m:="law_archrow_k04_no_rows_and_no_ties") (st:=dv) (t:=436) (c:=236) (f:=237) (ps:=["caught"]) (by kernel_rfl) (by kernel_rfl) (by kernel_rfl) (by kernel_rfl) (ku λ_=>rfl))
  (dM X G (x:="_law_made") (m:="law_archrow_k04_no_rows_and_no_ties") (st:=du) (t:=436) (c:=243) (f:=244) (ps:=["many","ties"]) (by kernel_rfl) (by kernel_rfl) (by kernel_rfl) (by kernel_rfl) (lV λ_ _=>rfl))
  (dM X G (x:="_law_crossed") (m:="law_archrow_k04_no_rows_and_no_ties") (st:=bO) (t:=436) (c:=250) (f:=251) (ps:=["one","other"]) (by kernel_rfl) (by kernel_rfl) (by kernel_rfl) (by kernel_rfl) (lV λ_ _=>rfl))⟩
end jU
abbrev PySem.W.Fast.tw2793162581117498803:PySem.Program:=PySem.Challenge.pw_archrow_k04_no_rows_and_no_ties
theorem PySem.W.Fast.te2793162581117498803:PySem.Challenge.pw_archrow_k04_no_rows_and_no_ties=PySem.W.Fast.tw2793162581117498803:=rfl
open PySem PySem.W PyProof.Rows
set_option maxRecDepth 100000 in
set_option maxHeartbeats 0 in
theorem PySem.Challenge.cw_archrow_k04_no_rows_and_no_ties_holds : PySem.Challenge.rw_archrow_k04_no_rows_and_no_ties.Holds := by
 w_on;o_law
 refine holds_open (q:=jU.view) (loose:=[]) (Xt:=λs=>xlAt jU.view [] s&&recOk (RowW.records PySem.Challenge.rw_archrow_k04_no_rows_and_no_ties.row.toRowW) s) (XP:=XL jU.view []) (Yf:=jU.HK.obs) (Ya:=jU.HK.val) (YP:=λw h=>(jU.KK w.params).In h) (N:=6450) jU.left jU.HK.of jU.HK.keeps (λs e=>xl_of s (Bool.and_eq_true_iff.mp e).1) XL.keeps (by rfl) (by rfl) (by rfl) (λs e=>recFacts_of (Bool.and_eq_true_iff.mp e).2) (by rfl) (by first|assumption|decide +kernel) (by decide +kernel) ⟨rfl,rfl,rfl,rfl,rfl,by decide +kernel⟩ ?hw ?hc
 (case hw=>w_witness2)
 case hc =>
  exact L2.uO (l:=PySem.Challenge.rw_archrow_k04_no_rows_and_no_ties) (K:=jU.KK) (n:=63) (k:=45) (x:="script") (CX:=λ_=>L2.dj) (sp:=λw=>jU.rD (jU.KK w.params)) rfl (by decide) rfl ⟨rfl,by decide,by decide⟩ (λw h Y=>Y) jU.all_mk (λ_ _ a ns hl _ hS=>⟨a,ns,rfl,hS,hl,λ_=>rfl⟩) λ_ _ _ _ _ z=>z
#print axioms PySem.Challenge.cw_archrow_k04_no_rows_and_no_ties_holds
