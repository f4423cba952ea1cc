import PyProof.Rows.All
import Wide.All
import OpenK.AllK
import Wide.FinOn
import OpenK.KLine
import Lean
import PyProof.EqAt
import PyProof.EqKinds
import PyProof.TupleCall
import PyProof.Rows.SortShell
import PyProof.Rows.SortWalk
import PyProof.CompFree
import PyProof.Rows.SortRuns
import PyProof.EqLayable
import PyProof.NeData
import PyProof.P3In
import PyProof.ZipIter
import PyProof.EnumMake
import PyProof.EnumFor
import PyProof.Rows.Range3
import PyProof.AttrMissSeq
import KE.KDictOf
import PyProof.Rows.SeqMore
import PyProof.StrCalls6
import PyProof.MeetsStr
import PyProof.Rows.StrStrike
import PyProof.StrBlock2
import PyProof.Rows.StrRules
import PyProof.ConsumeWalk
import KE.IntBitsLaws
import PyProof.ListNew
import PySem.Challenge.RW_archrow_k40_shapes_of_sets
set_option Elab.async false
set_option linter.all false
set_option maxRecDepth 100000
set_option maxHeartbeats 4000000
set_option compiler.extract_closed false
open PySem renaming Value->IS,Shared->IT,wpAny_bind->IU,Program->IY,wpAny_pure->Jc,World->Je,sizeLine->Jg,starEach->Jl,wpAny->Js,compareOp->JH,FuncData->JJ,Around->JQ,sizeLine_eq->JU,foldedSetIterable->JY,bootBuiltins->J6,sysModules->J7,mainGlobals->Ke,wpAny_truthy_bool->Kf,backTo->Kj,assignEach->Kk,wpAny_typeNameOfWhole_keyiter->Ko,binaryOp->Ks,wpAny_holding->Kv,swapsWith->Kw,behindInMarks->Kx,attributeBase->Ky,DictEntry->KN,wpAny_typeNameOf_keyiter->KP,Scope->K2,wpAny_rule->K6,wpAny_mono->K7,wpAny_call_entry->K8,wpAny_standAt->K_,Keyword->Lb,sliceBounds->Lc,NameKind->Lf,wpAny_passesOwn->Lg,wpAny_loadPart'->Lh,CmpOp->Ll,Builtin->Lo,wpAny_Call_Name_kw->Lp,wpAny_newObj_type->Lz,wpAny_dictEntries->LA,keywordEach->LB,Comprehension->LJ,wpAny_callSpecial?_slot->LL,letOwnedTupleGo->LU,cLine->LV,tupleKind->L5,codeAny->L6,Params->L_,codeAny_mono->Md,callerA->Me,backToKw->Mf,treeTable->Mr,seqIndex?->Ms,Model->Mv,wpAny_execs_nil->Mx,wpAny_dictEpoch->My,standAt->MG,pyNext->MI,call_meets->MJ
open PyProof.Rows renaming Keyed->IV,wpS_bind->IX,wpS_pure->I9,pendingOf->Jh,SortSt->Jm,arrOf->Jr,wpS_forRange->JO,setArr->JX,wpS_mono->Kc,seqObj->Kl,IntsAre->Kr,wpS_modify->KG,SortKind->KQ,failedOf->KZ,setPending->K9,wpS_get->Ly,envOfC->LP,AllBare->LS,wpS_lift->L1,callWith_type1->MH
open List renaming length_map->IW,getElem?_eq_getElem->I_,mem_cons->Ja,getElem?_eq_some_iff->Jd,size_toArray->Ji,mem_singleton->Jk,length_cons->Jo,mem_append->Jq,getElem?_map->Jt,mem_cons_of_mem->Ju,mem_append_right->Jx,map_cons->Jy,replicate->Jz,mem_cons_self->JA,nodup_cons->JF,mem_of_getElem?->JI,mem_map->JK,range->JM,nodup_append->JT,length_append->JV,nodup_nil->J0,getElem?_append_right->J1,lookup_cons->J4,length_take->J5,mem_range->J8,append_assoc->J9,length_replicate->Ka,pairwise_cons->Kb,getElem?_append_left->Kg,mem_append_left->Kh,map_map->Ki,not_mem_nil->Kn,map_append->Kt,append_nil->Ku,length_singleton->Kz,filter_cons->KL,drop_eq_getElem_cons->KO,filter_append->KS,pairwise_map->K0,take_append_drop->K3,length_filter_le->K4,getElem?_eq_none->K5,length_nil->Li,map_congr_left->Lj,filterMap_cons->Lk,zip_cons_cons->Lq,getD_eq_getElem?_getD->Lr,findSome?_eq_none_iff->Ls,pairwise_iff_getElem->Lw,length_range->LC,getElem?_set->LD,ext_getElem?->LF,getElem_mem->LM,any_eq_true->LN,all_eq_true->LO,drop_of_length_le->LQ,of_mem_zip->LY,find?_cons->LZ,getElem?_of_mem->L4,reverse_append->L8,getElem?_range->L9,find?_eq_none->Ma,set_eq_take_append_cons_drop->Mc,take_add_one->Mo,eraseIdxIfInBounds_toArray->Mq,take_length->Mt,length->Mw,range_succ->Mz,mem_filter->MA,foldl_cons->MB
open Nat renaming le_refl->IZ,zero_le->Jp,lt_of_lt_of_le->Jw,ne_of_lt->JB,le_trans->JC,lt_irrefl->La,min_le_left->LX,le_succ->L3,zero_add->Ml,le_of_eq->Mn
open PySem.Heap renaming get?_push_of_some->Jb,lt_size->Jf,get?_push_size->JG,SameBut->Ln
open Array renaming getElem?_toList->Jj,length_toList->Jn,toList_append->J_,toList_push->KC,getD_eq_getD_getElem?->KD,perm_iff_toList_perm->KJ,getElem?_eq_none->K1,toList_zip->Mu,size_zip->MN,mk->MO
open Option renaming map_eq_some_iff->Jv,bind_eq_some_iff->Km,map_some->LW
open PySem.SeqAt renaming canLay_of_shaped->JD
open PySem.NameKind renaming free->JE,cell->KR
open Option.some renaming inj->JN,injEq->Mk
open PySem.PyData renaming eqv->JP,canLay0->JW,depthAll->J2,depth->Kq,canLayAll0->KA,eqvAll->LI
open Decidable renaming by_contra->JR
open Bool renaming and_eq_true->JS,false_ne_true->KU,false_eq_true->KW,not_eq_false'->Lv,not_eq_true'->LG,eq_false_iff->LH,eq_iff_iff->ME
open Int renaming toNat_natCast->JZ
open PySem.PassesOwn renaming never->J3
open PySem.Obj renaming mapSeq->KH
open False renaming elim->KI
open PySem.W renaming boot_heap->KY,boot_drawn->MK
open PySem.Txt renaming replace->Ld
open Ne renaming symm->Lm
open PySem.Calls renaming spliced_cons->Lu,call_function_entry->Lx,callWith_builtin->LR,Constant_str->Mb,Name_function_global->MM
open PySem.Code renaming compLoop->LK,compStart->ML
open ForInStep renaming yield->L0
open Sum renaming inl->L7,inr->Mi
open PySem.Str renaming ofString->Mj
open Nat.succ renaming inj->Mm
open PySem.Builtin.Str renaming glued->Mp
open List.Perm renaming of_eq->MC
open PySem.Builtin.Dict_items renaming ownsTuple->MD
open Array.Perm renaming refl->MF
noncomputable section
namespace L2
open PySem PySem.Spec PyProof.Rows
def gC (s:Stmt):Arguments:=match s with
 |.FunctionDef _ a _ _ _ _ _ _ _ _=>a
 |_=>{posonlyargs:=[],args:=[],vararg:=none,kwonlyargs:=[],kw_defaults:=[],kwarg:=none,defaults:=[]}
def cL (s:Stmt):List Stmt:=match s with
 |.FunctionDef _ _ b _ _ _ _ _ _ _=>b
 |_=>[]
def ao (s:Stmt):K2:=match s with
 |.FunctionDef _ _ _ _ _ _ sc _ _ _=>sc
 |_=>{kind:=.function,names:=[],isGenerator:=false,isCoroutine:=false}
end L2
namespace L2.Hd
open PySem PySem.W PySem.Spec PyProof.Rows
noncomputable def eT (tb:String->Option Lo)(p:IY)(w:Je)(n₀:Nat)(ann:Option IS):Nat->SharedT->Thread->Option SharedT
 |0,_,_=>none
 |n+1,s,t=>match through t with
  |true=>some s
  |false=>match stepOk n₀ ann t with
   |false=>none
   |true=>match stepT (denote tb) p w s t with
    |some (s',t')=>eT tb p w n₀ ann n s' t'
    |none=>none
theorem gI {tb:String->Option Lo}{p:IY}{w:Je}{n₀:Nat}{ann:Option IS}:∀{n:Nat} {s s':SharedT} {t:Thread},eT tb p w n₀ ann n s t=some s'->topRun tb p w n₀ ann n s.abs t=some s'.abs
 |0,_,_,_,g=>by cases g
 |n+1,s,s',t,g=>by
  unfold eT at g;unfold topRun;cases ht:through t with
  |true=>rw[ht]at g;cases g;rfl
  |false =>
   rw[ht]at g;cases hk:stepOk n₀ ann t with
   |false=>rw[hk]at g;cases g
   |true =>
    rw[hk]at g;cases hq:stepT (denote tb) p w s t with
    |none=>rw[hq]at g;cases g
    |some r=>obtain⟨s₂,t₂⟩:=r;rw[hq]at g;dsimp only;rw[stepT_spec hq];exact gI g
noncomputable def BE (P:L_):BT:=((KY P).objs.toList.foldl (λ(x:BT×Nat) o=>(x.1.ins x.2 o,x.2+1)) (.nil,0)).1
noncomputable def tL (w:Je)(os:OsState):SharedT:=⟨BE w.params,11,(KY w.params).life,MO [],MK,boot_toks,os⟩
theorem boot_abs (w:Je)(os:OsState):(tL w os).abs=⟨KY w.params,MO [],MK,boot_toks,os⟩:=by kernel_rfl
theorem vH (P:L_):((KY P).isNs Ke&&((MO []:Array GenState).size==0))=true:=by kernel_rfl
theorem qi (P:L_):(KY P).objs.size=11:=by kernel_rfl
theorem tK (P:L_):(KY P).nsMap Ke "__annotations__" = some (.ref 6):=by kernel_rfl
def ends (p:IY)(h0:Heap)(s₁:IT):Option IT:=match staticsOk (importedModules p.main.body) h0 s₁.heap&&namesBound p s₁.heap&&gensDone s₁&&laidKept h0 s₁.heap with
 |true=>some s₁
 |false=>none
theorem pM {p q:IY}{loose:List Str}{Xt:IT->Bool}{α:Type}{Yf:IT->α}{Ya:Je->α}{N:Nat}{g0:Bool}
  (g1:opening p=plainProg p.main.scope.names) (g2:Nat.ble 600 N=true) (g3:∀s,fenceModules? p s=some s)
  (g4:∀(w:Je) (os:OsState),((eT Mr p w 11 (some (.ref 6)) N (tL w os) (topStub p)).bind λs₁=>ends p (KY w.params) s₁.abs).map (λs=>(openSeen q loose (importedModules p.main.body) Xt g0 s,Yf s))=some (openGood q loose,Ya w)) :
  LeftO p q loose Xt Yf Ya N g0:=λw=>by
 obtain⟨⟨hp,gs,dr,tk,os⟩,e,v⟩:=Jv.mp (boot_open (N:=N) g1 g2 g3 w);obtain⟨v1,v⟩:=Prod.mk.inj v;obtain⟨v2,v⟩:=Prod.mk.inj v;obtain⟨v3,v4⟩:=Prod.mk.inj v;dsimp only at v1 v2 v3 v4;subst v1 v2 v3 v4;have g:=g4 w os;unfold openEnds;rw[e];show (topFrom Mr p w N _).map _=_;have t:topFrom Mr p w N ⟨KY w.params,MO [],MK,boot_toks,os⟩=(topRun Mr p w 11 (some (.ref 6)) N ⟨KY w.params,MO [],MK,boot_toks,os⟩ (topStub p)).bind (ends p (KY w.params)):=by
  unfold topFrom;rw[vH];dsimp only;rw[qi,tK];rfl
 rw[t];cases hT:eT Mr p w 11 (some (.ref 6)) N (tL w os) (topStub p)with
 |none=>rw[hT]at g;cases g
 |some s₁ =>
  have r:=gI hT;rw[boot_abs]at r;rw[hT]at g;rw[r];exact g
end L2.Hd
namespace gF
open PySem L2
def top (i:Nat):Stmt:=PySem.Challenge.pw_archrow_k40_shapes_of_sets.main.body.getD i (.Pass ⟨0,0,0,0⟩)
abbrev cb:Stmt:=top 5
abbrev eX:Stmt:=top 6
abbrev bS:Stmt:=top 7
abbrev c6:Stmt:=top 8
abbrev bp:Stmt:=top 9
abbrev cH:Stmt:=top 10
abbrev c7:Stmt:=top 12
abbrev c4:Stmt:=top 14
abbrev cU:Stmt:=top 16
abbrev cv:Stmt:=top 17
abbrev bR:Stmt:=top 18
abbrev dQ:Stmt:=top 19
abbrev b_:Stmt:=top 20
abbrev c5:Stmt:=top 21
abbrev dN:Stmt:=top 22
abbrev gO:Stmt:=top 23
noncomputable abbrev vS (x:Str)(t:Nat):IS:=.str x t
noncomputable abbrev kE (P:L_)(x:Str)(t:Nat)(v:IS):KN:=⟨PyData.keyHash P x,.str x t,v⟩
noncomputable abbrev kC (n:Str)(t l p r8 Hc GV:Nat)(Gy Gx Gw:IS)(GU Hb GD:Nat):Obj:={cls:=.type "code",data:=.fields #[vS n t,vS n (t+1),vS "/claim/cut.py" (t+2),.int l 0,.int p 0,.int 0 0,.int 0 0,.int 3 0,.ref r8,.bool true,.int Hc 0,.ref GV,Gy,Gx,Gw,.ref GU,.int Hb 0,.int l 0,vS "/claim/cut.py" GD]}
noncomputable abbrev B5 (st:Stmt)(x m:Str)(t c:Nat):JJ:=PySem.W.fnOf x x (gC st) (cL st) (ao st) .none .none .none (vS m t) none (.ref c) .none
noncomputable abbrev kF (st:Stmt)(x m:Str)(t c:Nat):Obj:={cls:=.type "function",data:=.func (B5 st x m t c)}
noncomputable def KK:L_->PySem.W.Frag:=λP=>[(3,{cls:=.type "dict",data:=.dict #[kE P "__name__" 165 (vS "law_archrow_k40_shapes_of_sets" 315),kE P "__doc__" 166 .none,kE P "__package__" 167 .none,kE P "__loader__" 168 (.builtin "__main__.__loader__#opaque"),kE P "__spec__" 169 .none,kE P "__annotations__" 170 (.ref 6),kE P "__builtins__" 171 (.ref 4),kE P "__file__" 173 (vS "/claim/cut.py" 172),kE P "__cached__" 174 .none,kE P "ArchError" 206 (.ref 24),kE P "NoRow" 222 (.ref 37),kE P "NoSet" 238 (.ref 49),kE P "arcs_cross" 252 (.ref 58),kE P "is_set" 260 (.ref 65),kE P "first_fault" 270 (.ref 72),kE P "fault_at" 280 (.ref 79),kE P "share_a_point" 288 (.ref 86),kE P "check_set" 296 (.ref 93),kE P "brackets" 304 (.ref 98),kE P "shape_of" 314 (.ref 105),kE P "_law_pot" 323 (.ref 112),kE P "_law_take" 333 (.ref 119),kE P "_law_planted" 346 (.ref 126),kE P "_law_row" 360 (.ref 133),kE P "_law_copied" 367 (.ref 140),kE P "_law_meet" 379 (.ref 147),kE P "_law_set" 385 (.ref 152),kE P "law" 391 (.ref 157)] 28}),
 (57,kC "arcs_cross" 241 9 2 52 181 53 .none (.ref 54) (.ref 55) 56 250 251),
 (58,kF cb "arcs_cross" "archrow.arcs" 239 57),
 (64,kC "is_set" 253 13 2 59 181 60 .none (.ref 61) (.ref 62) 63 258 259),
 (65,kF eX "is_set" "archrow.arcs" 239 64),
 (71,kC "first_fault" 261 15 2 66 181 67 .none (.ref 68) (.ref 69) 70 268 269),
 (72,kF bS "first_fault" "archrow.arcs" 239 71),
 (78,kC "fault_at" 271 21 3 73 181 74 .none (.ref 75) (.ref 76) 77 278 279),
 (79,kF c6 "fault_at" "archrow.arcs" 239 78),
 (85,kC "share_a_point" 281 33 2 80 181 81 .none (.ref 82) (.ref 83) 84 286 287),
 (86,kF bp "share_a_point" "archrow.arcs" 239 85),
 (92,kC "check_set" 289 35 2 87 181 88 .none (.ref 89) (.ref 90) 91 294 295),
 (93,kF cH "check_set" "archrow.arcs" 239 92),
 (97,kC "brackets" 299 39 2 94 181 95 .none .none .none 96 302 303),
 (98,kF c7 "brackets" "archrow.texts" 297 97),
 (104,kC "shape_of" 307 51 2 99 181 100 .none (.ref 101) (.ref 102) 103 312 313),
 (105,kF c4 "shape_of" "archrow.shapes" 305 104),
 (111,kC "_law_pot" 317 55 1 106 181 107 .none (.ref 108) (.ref 109) 110 321 322),
 (112,kF cU "_law_pot" "law_archrow_k40_shapes_of_sets" 315 111),
 (118,kC "_law_take" 324 57 2 113 181 114 .none (.ref 115) (.ref 116) 117 331 332),
 (119,kF cv "_law_take" "law_archrow_k40_shapes_of_sets" 315 118),
 (125,kC "_law_planted" 334 67 2 120 181 121 .none (.ref 122) (.ref 123) 124 344 345),
 (126,kF bR "_law_planted" "law_archrow_k40_shapes_of_sets" 315 125),
 (132,kC "_law_row" 347 78 1 127 181 128 .none (.ref 129) (.ref 130) 131 358 359),
 (133,kF dQ "_law_row" "law_archrow_k40_shapes_of_sets" 315 132),
 (139,kC "_law_copied" 361 91 1 134 181 135 .none (.ref 136) (.ref 137) 138 365 366),
 (140,kF b_ "_law_copied" "law_archrow_k40_shapes_of_sets" 315 139),
 (146,kC "_law_meet" 368 93 2 141 181 142 .none (.ref 143) (.ref 144) 145 377 378),
 (147,kF c5 "_law_meet" "law_archrow_k40_shapes_of_sets" 315 146),
 (151,kC "_law_set" 380 97 2 148 181 149 .none .none .none 150 383 384),
 (152,kF dN "_law_set" "law_archrow_k40_shapes_of_sets" 315 151),
 (156,kC "law" 386 105 1 153 181 154 .none .none .none 155 389 390),
 (157,kF gO "law" "law_archrow_k40_shapes_of_sets" 315 156)]
noncomputable abbrev HK:PySem.W.Hook:=PySem.W.kHook KK [3,57,58,64,65,71,72,78,79,85,86,92,93,97,98,104,105,111,112,118,119,125,126,132,133,139,140,146,147,151,152,156,157] (λ_=>by kernel_rfl)
noncomputable def view:IY:={PySem.Challenge.pw_archrow_k40_shapes_of_sets with main:={PySem.Challenge.pw_archrow_k40_shapes_of_sets.main with body:=[top 1,top 2,top 3,top 5,top 6,top 7,top 8,top 9,top 10,top 12,top 14,top 16,top 17,top 18,top 19,top 20,top 21,top 22,top 23]}}
theorem left:PySem.W.LeftO PySem.Challenge.pw_archrow_k40_shapes_of_sets view [] (λs=>PySem.W.xlAt view [] s&&PySem.W.recOk (PySem.W.RowW.records PySem.Challenge.rw_archrow_k40_shapes_of_sets.row.toRowW) s) HK.obs HK.val 2422:=L2.Hd.pM (by kernel_rfl) (by kernel_rfl) (λ_=>rfl) (λw os=>by kernel_rfl)
end gF
namespace L2
open PySem PySem.Spec PyProof.Rows
abbrev Key:=Sum Int Str
def i9:Key->IS->Bool
 |.inl k,v=>Value.isInt k v
 |.inr x,v=>Value.isStrOf x v
def Du (w:Je):Key->Int
 |.inl k=>hashInt k
 |.inr x=>hashStr w x
theorem aQ:∀{k:Key} {v:IS},i9 k v=true->(∃i t,k=L7 i/\v=Value.int i t)\/(∃x t,k=Mi x/\v=Value.str x t)
 |.inl i,v,h=>by
  obtain⟨t,e⟩:=Value.isInt_shape (k:=i) (v:=v) h;exact .inl ⟨i,t,rfl,e⟩
 |.inr x,v,h=>by
  obtain⟨t,e⟩:=Value.isStrOf_shape (x:=x) (v:=v) h;exact .inr ⟨x,t,rfl,e⟩
theorem pP (i:Int)(t:Tok):i9 (.inl i) (.int i t)=true:=by simp[i9,Value.isInt]
theorem pO (x:Str)(t:Tok):i9 (.inr x) (.str x t)=true:=by simp[i9,Value.isStrOf]
theorem yd (a b:Int):decide ((L7 a:Key)=L7 b)=(a==b):=by
 by_cases e:a=b
 ·subst e;simp
 ·have h:¬ (L7 a:Key)=L7 b:=λq=>e (Sum.inl.inj q);rw[decide_eq_false h];exact(beq_eq_false_iff_ne.mpr e).symm
theorem ya (a b:Str):decide ((Mi a:Key)=Mi b)=decide (a=b):=by
 by_cases e:a=b
 ·subst e;simp
 ·have h:¬ (Mi a:Key)=Mi b:=λq=>e (Sum.inr.inj q);rw[decide_eq_false h,decide_eq_false e]
theorem yc (a:Int)(b:Str):decide ((L7 a:Key)=Mi b)=false:=decide_eq_false (λq=>nomatch q)
theorem yb (a:Str)(b:Int):decide ((Mi a:Key)=L7 b)=false:=decide_eq_false (λq=>nomatch q)
def a8 (prog:IY)(w:Je):PySem.KeyKind prog w Key where
 is:=i9
 hash:=Du w
 inj:=λv a b ha hb=>by
  rcases aQ ha with⟨i,t,rfl,rfl⟩|⟨x,t,rfl,rfl⟩
  ·rcases aQ hb with⟨j,u,rfl,e⟩|⟨y,u,rfl,e⟩
   ·injection e with e1 _;rw[e1]
   ·exact nomatch e
  ·rcases aQ hb with⟨j,u,rfl,e⟩|⟨y,u,rfl,e⟩
   ·exact nomatch e
   ·injection e with e1 _;rw[e1]
 byValue:=λk v h=>by
  rcases aQ h with⟨i,t,rfl,rfl⟩|⟨x,t,rfl,rfl⟩ <;> rfl
 pyHash:=λhv h=>by
  rcases aQ hv with⟨i,t,rfl,rfl⟩|⟨x,t,rfl,rfl⟩
  ·exact wpAny_pyHash_int h
  ·exact wpAny_pyHash_str h
 eqBool:=λhu hv h=>by
  rcases aQ hu with⟨i,t,rfl,rfl⟩|⟨x,t,rfl,rfl⟩
  ·rcases aQ hv with⟨j,u,rfl,rfl⟩|⟨y,u,rfl,rfl⟩
   ·rw[yd]at h;exact wpAny_eqBool_int h
   ·rw[yc]at h;exact SeqAt.EqAt.int_str i t y u _ _ _ _ h
  ·rcases aQ hv with⟨j,u,rfl,rfl⟩|⟨y,u,rfl,rfl⟩
   ·rw[yb]at h;exact SeqAt.EqAt.str_int x t j u _ _ _ _ h
   ·rw[ya]at h;exact wpAny_eqBool_str h
 «strs»:=λk x t v h=>by
  rcases aQ h with⟨i,u,rfl,e⟩|⟨y,u,rfl,e⟩
  ·exact nomatch e
  ·injection e with e1 _
   subst e1;cases v <;> rfl
theorem k9 (prog:IY)(w:Je)(i:Int)(t:Tok):(a8 prog w).is (.inl i) (.int i t)=true:=pP i t
theorem k8 (prog:IY)(w:Je)(x:Str)(t:Tok):(a8 prog w).is (.inr x) (.str x t)=true:=pO x t
inductive V where
 |b7|bl (b:Bool)|int (i:Int)|str (x:Str)|Fh (b:Array UInt8)|E5 (b:UInt64)|ref (a:Addr)|ty (n:String)
 deriving DecidableEq
def RelV:V->IS->Prop
 |.b7,u=>u=Value.none
 |.bl b,u=>u=Value.bool b
 |.int i,u=>∃t,u=Value.int i t
 |.str x,u=>∃t,u=Value.str x t
 |.Fh b,u=>∃t,u=Value.bytes b t
 |.E5 b,u=>∃t,u=Value.float b t
 |.ref a,u=>u=Value.ref a
 |.ty n,u=>u=Value.type n
abbrev Vals:List V->List IS->Prop:=Paired RelV
theorem Vals.length {xs:List V}{us:List IS}(r:Vals xs us):xs.length=us.length:=Paired.length r
theorem Vals.get:∀{xs:List V} {us:List IS} {i:Nat} {x:V},Vals xs us->xs[i]?=some x->∃u,us[i]?=some u/\RelV x u
 |_,_,_,_,.nil,e=>by simp at e
 |_,_,0,_,.cons r _,e=>by simp at e;subst e;exact⟨_,rfl,r⟩
 |_,_,i+1,x,.cons _ t,e=>by
  obtain⟨u,h1,h2⟩:=Vals.get (i:=i) (x:=x) t (by simpa using e)
  exact⟨u,by simpa using h1,h2⟩
theorem Vals.set {x:V}{u:IS}(r:RelV x u):∀{xs:List V} {us:List IS} (i:Nat),Vals xs us->Vals (xs.set i x) (us.set i u)
 |_,_,_,.nil=>.nil
 |_,_,0,.cons _ t=>.cons r t
 |_,_,i+1,.cons q t=>.cons q (Vals.set r i t)
theorem Vals.append:∀{xs ys:List V} {us ws:List IS},Vals xs us->Vals ys ws->Vals (xs++ys) (us++ws)
 |_,_,_,_,.nil,s=>s
 |_,_,_,_,.cons r t,s=>.cons r (Vals.append t s)
theorem Vals.take:∀{xs:List V} {us:List IS} (n:Nat),Vals xs us->Vals (xs.take n) (us.take n)
 |_,_,0,_=>.nil
 |_,_,_+1,.nil=>.nil
 |_,_,n+1,.cons r t=>.cons r (Vals.take n t)
theorem Vals.drop:∀{xs:List V} {us:List IS} (n:Nat),Vals xs us->Vals (xs.drop n) (us.drop n)
 |_,_,0,r=>r
 |_,_,_+1,.nil=>.nil
 |_,_,n+1,.cons _ t=>Vals.drop n t
def tO:Option V->Option IS->Prop
 |some v,some u=>RelV v u
 |none,none=>True
 |_,_=>False
def KV {κ:Type}:List (κ×V)->List (κ×IS)->Prop:=Paired λ(p:κ×V) (q:κ×IS)=>p.1=q.1/\RelV p.2 q.2
def kV:Key->V
 |.inl i=>.int i
 |.inr x=>.str x
inductive HO where
 |lst (xs:List V)
 |tup (xs:List V)
 |dK (aM:List (Key×V))|dT (aM:List (List Key×V))
 |set (S:Int->Bool) (n:Nat)
 |ins (C dx:Addr) (fs:List (Str×V))
 |own (x:Addr)
 |xd (fs:List (Str×V))
 |met (f x:Addr)
 |CO (lo hi:Int)
 |tY (o:Obj) (u:HO)
 |wZ (ps:Array IS)
 |ext (φ:Heap->Prop)
abbrev Hp:=Addr->Option HO
def upd (H:Hp)(a:Addr)(o:HO):Hp:=λb=>if b=a then some o else H b
theorem az {H:Hp}{a:Addr}{o:HO}:upd H a o a=some o:=by unfold upd;rw[if_pos rfl]
theorem ay {H:Hp}{a b:Addr}{o:HO}(h:b≠a):upd H a o b=H b:=by unfold upd;rw[if_neg h]
theorem v7 {H:Hp}{a b:Addr}{o u:HO}(h:H a=some o)(h':H b=some u)(d:o≠u):a≠b:=by
 intro e;subst e;rw[h]at h';exact d (JN h')
theorem bu {H:Hp}{a b:Addr}{o:HO}(h:H a=some o)(h':H b=none):a≠b:=by
 intro e;subst e;rw[h]at h';cases h'
section
variable (P:IY)(w:Je)
def a6 (H:Hp)(h:Heap)(a:Addr):HO->Prop
 |.lst xs=>xs.length<=Jg/\∃(its:List IS) (n:Nat),Vals xs its/\h.get? a=some {cls:=.type "list",data:=.seq its.toArray n}
 |.tup xs=>xs.length<=Jg/\∃its:List IS,Vals xs its/\IsTup h a its.toArray
 |.dK aM=>aM.length<=Jg/\(a==J7)=false/\∃vs,KV aM vs/\h.DictOf (a8 P w) a vs
 |.dT aM=>aM.length<=Jg/\(a==J7)=false/\∃xs:List (List Key×Addr×IS),
   Paired (λ(p:List Key×V) (q:List Key×Addr×IS)=>p.1=q.1/\H q.2.1=some (.tup (p.1.map kV))/\RelV p.2 q.2.2) aM xs /\
   ∃o es ep,h.get? a=some o/\o.ExactDict/\o.data=.dict es ep/\es.toList=xs.map (entryOfKey (L5 (a8 P w)))/\(xs.map (·.1)).Nodup
 |.set S n=>h.SetOf (intKind P w) a S n
 |.ins C dx fs=>H dx=some (.own a)/\fs.length<=1000/\dx≠a/\h.get? a=some (PySem.W.instObj C dx) /\
   ∃mA,h.Ns1 dx mA/\(∀f,tO (fs.lookup f) (mA f))/\PySem.Within mA (fs.map (·.1))
 |.own _=>∃o,h.get? a=some o
 |.xd fs=>∃mA,h.Ns1 a mA/\∀f,tO (fs.lookup f) (mA f)
 |.CO lo hi=>∃t u v,h.get? a=some {cls:=.type "range",data:=.fields #[.int lo t,.int hi u,.int 1 v]}
 |.tY o u=>h.get? a=some o/\a6 H h a u
 |.wZ ps=>h.get? a=some {cls:=.none,data:=.fields ps}
 |.met f x=>h.get? a=some (PySem.W.methodObj (.ref f) (.ref x))
 |.ext φ=>φ h/\(∃o,h.get? a=some o)/\∀h1 h2:Heap,φ h1->(∀o,h1.get? a=some o->h2.get? a=some o)->φ h2
def eM (H:Hp)(h:Heap):Prop:=∀a o,H a=some o->a6 P w H h a o
end
section
variable {P:IY}{w:Je}{H H':Hp}{h h':Heap}{a:Addr}{o:HO}
theorem a6.lt (x:a6 P w H h a o):a<h.objs.size:=by
 cases o with
 |lst xs=>obtain⟨_,_,_,_,e⟩:=x;exact Jf e
 |tup xs=>obtain⟨_,_,_,p⟩:=x;exact p.lt
 |dK aM=>obtain⟨_,_,_,_,o,_,_,e,_⟩:=x;exact Jf e
 |dT aM=>obtain⟨_,_,_,_,o,_,_,e,_⟩:=x;exact Jf e
 |set S n=>obtain⟨o,_,_,_,e,_⟩:=x;exact Jf e
 |ins C dx fs=>obtain⟨_,_,_,e,_⟩:=x;exact Jf e
 |own y=>obtain⟨_,e⟩:=x;exact Jf e
 |xd fs=>obtain⟨_,⟨_,_,_,e,_⟩,_⟩:=x;exact Jf e
 |CO lo hi=>obtain⟨_,_,_,e⟩:=x;exact Jf e
 |tY ob u=>obtain⟨e,_⟩:=x;exact Jf e
 |wZ ps=>exact Jf (show h.get? a=some _ from x)
 |met f y=>exact Jf (show h.get? a=some _ from x)
 |ext φ=>obtain⟨_,⟨_,e⟩,_⟩:=x;exact Jf e
theorem Paired.xU {α β:Type}{F G:α->β->Prop}:∀{l₁:List α} {l₂:List β},Paired F l₁ l₂->(∀a b,F a b->G a b)->Paired G l₁ l₂
 |_,_,.nil,_=>.nil
 |_,_,.cons r t,f=>.cons (f _ _ r) (Paired.xU t f)
theorem a6.o4 (x:a6 P w H h a o)(k:∀b u,(b=a\/H b=some (.own a))->h.get? b=some u->h'.get? b=some u)
  (ho:∀b,H b=some (.own a)->H' b=some (.own a)) (ht:∀b xs,H b=some (.tup xs)->H' b=some (.tup xs)):a6 P w H' h' a o:=by
 induction o with
 |lst xs=>obtain⟨z,its,n,r,e⟩:=x;exact⟨z,its,n,r,k _ _ (.inl rfl) e⟩
 |tup xs=>obtain⟨z,its,r,ob,e,c⟩:=x;exact⟨z,its,r,ob,k _ _ (.inl rfl) e,c⟩
 |dK aM=>obtain⟨z,y,vs,r,ob,es,ep,e,c⟩:=x;exact⟨z,y,vs,r,ob,es,ep,k _ _ (.inl rfl) e,c⟩
 |dT aM =>
  obtain⟨z,y,xs,r,ob,es,ep,e,c⟩:=x;exact⟨z,y,xs,Paired.xU r λp q z=>⟨z.1,ht _ _ z.2.1,z.2.2⟩,ob,es,ep,k _ _ (.inl rfl) e,c⟩
 |set S n=>obtain⟨ob,es,ep,t,e,c⟩:=x;exact⟨ob,es,ep,t,k _ _ (.inl rfl) e,c⟩
 |ins C dx fs =>
  obtain⟨d,z,ne,e,mA,⟨od,es,ep,e2,c⟩,r⟩:=x;exact⟨ho _ d,z,ne,k _ _ (.inl rfl) e,mA,⟨od,es,ep,k _ _ (.inr d) e2,c⟩,r⟩
 |own y=>obtain⟨ob,e⟩:=x;exact⟨ob,k _ _ (.inl rfl) e⟩
 |xd fs=>obtain⟨mA,⟨od,es,ep,e,c⟩,r⟩:=x;exact⟨mA,⟨od,es,ep,k _ _ (.inl rfl) e,c⟩,r⟩
 |CO lo hi=>obtain⟨t,u,v,e⟩:=x;exact⟨t,u,v,k _ _ (.inl rfl) e⟩
 |tY ob u ih=>obtain⟨e,q⟩:=x;exact⟨k _ _ (.inl rfl) e,ih q⟩
 |wZ ps =>
  have e:h.get? a=some {cls:=.none,data:=.fields ps}:=x;show h'.get? a=some {cls:=.none,data:=.fields ps};exact k a _ (.inl rfl) e
 |met f y =>
  have e:h.get? a=some (PySem.W.methodObj (.ref f) (.ref y)):=x;show h'.get? a=some (PySem.W.methodObj (.ref f) (.ref y));exact k a _ (.inl rfl) e
 |ext φ=>obtain⟨p,⟨o,e⟩,st⟩:=x;exact⟨st _ _ p λo q=>k _ _ (.inl rfl) q,⟨o,k _ _ (.inl rfl) e⟩,st⟩
theorem eM.lt (x:eM P w H h)(e:H a=some o):a<h.objs.size:=(x a o e).lt
theorem eM.fresh (x:eM P w H h)(e:h.objs.size<=a):H a=none:=by
 cases q:H a with
 |none=>rfl
 |some u=>exact absurd (Jw (x.lt q) e) (La _)
theorem eM.kept (x:eM P w H h)(k:∀b u,h.get? b=some u->h'.get? b=some u):eM P w H h':=λa o e =>
 (x a o e).o4 (λb u _ q=>k b u q) (λ_ q=>q) λ_ _ q=>q
theorem eM.laid (x:eM P w H h)(k:∀b u,h.get? b=some u->h'.get? b=some u)(hp:h.objs.size<=a)(new:a6 P w (upd H a o) h' a o):eM P w (upd H a o) h':=λb u e=>by
 have hn:=x.fresh hp
 by_cases hb:b=a
 ·subst hb;rw[az]at e;cases e;exact new
 ·rw[ay hb]at e;exact(x b u e).o4 (λc v _ q=>k c v q) (λc q=>by rw[ay (bu q hn)];exact q) λc xs q=>by rw[ay (bu q hn)];exact q
end
def Rd (H:Hp)(a:Addr)(u:HO):Prop:=H a=some u\/∃o,H a=some (.tY o u)
theorem Rd.ok {P:IY}{w:Je}{H:Hp}{h:Heap}{a:Addr}{u:HO}(r:Rd H a u)(x:eM P w H h):a6 P w H h a u:=by
 rcases r with r|⟨o,r⟩
 ·exact x a u r
 ·obtain⟨_,q⟩:=x a _ r;exact q
def BL:Option HO->Prop
 |some (.lst _)=>True
 |some (.dK _)=>True
 |some (.dT _)=>True
 |some (.set _ _)=>True
 |some (.ins _ _ _)=>True
 |some (.ext _)=>True
 |_=>False
section
variable {P:IY}{w:Je}{H:Hp}{h h':Heap}{x e:Addr}{o':HO}
theorem eM.write (ok:eM P w H h)(mu:BL (H x))(he:e=x\/H e=some (.own x))(k:∀b u,b≠e->h.get? b=some u->h'.get? b=some u)(zr:∃u,h'.get? e=some u)
  (new:a6 P w (upd H x o') h' x o'):eM P w (upd H x o') h':=λb u q=>by
 have Al:∀c y,H c=some (.own y)->c≠x:=λc y r z=>by subst z;rw[r]at mu;exact mu
 have Dd:∀c xs,H c=some (.tup xs)->c≠x:=λc xs r z=>by subst z;rw[r]at mu;exact mu
 by_cases hb:b=x
 ·subst hb;rw[az]at q;cases q;exact new
 ·rw[ay hb]at q
  by_cases yI:b=e
  ·have q':H b=some (.own x):=by
    rcases he with z|z
    ·exact absurd (yI.trans z) hb
    ·rw[yI];exact z
   rw[q]at q';cases q';obtain⟨v,hv⟩:=zr;exact⟨v,by rw[yI];exact hv⟩
  ·refine(ok b u q).o4 (λc v hc r=>k c v ?_ r) (λc r=>by rw[ay (Al c b r)];exact r) λc xs r=>by rw[ay (Dd c xs r)];exact r
   rcases hc with rfl|hc
   ·exact yI
   ·rintro rfl;rcases he with z|z
    ·exact Al c b hc z
    ·rw[hc]at z;cases z;exact hb rfl
end
structure Un (fs ex:List Addr)(H H':Hp)(h h':Heap):Prop where
 keep:∀b o,h.get? b=some o->H b=none->b∉fs->b∉ex->h'.get? b=some o
 slot:∀b o,h.get? b=some o->H b=none->b∈fs->b∉ex->∃sl,h'.get? b=some {o with slots:=sl}
 free:∀b o,h.get? b=some o->H b=none->b∉ex->H' b=none
 there:∀b o,h.get? b=some o->b∉ex->∃o',h'.get? b=some o'
 jt:∀b xs,H b=some (.tup xs)->H' b=some (.tup xs)
 iI:∀b o u,H b=some (.tY o u)->H' b=some (.tY o u)
 jw:∀b ps,H b=some (.wZ ps)->∃more,H' b=some (.wZ (ps++more))
section
variable {fs ex:List Addr}{H H1:Hp}{h h1 h':Heap}{a x e:Addr}{o:HO}
theorem Un.any (u:Un fs ex H H1 h h1){b:Addr}{ob:Obj}(q:h.get? b=some ob)(n:H b=none)(hx:b∉ex):∃sl,h1.get? b=some {ob with slots:=sl}:=by
 by_cases hb:b∈fs
 ·exact u.slot b ob q n hb hx
 ·exact⟨ob.slots,u.keep b ob q n hb hx⟩
theorem Un.kept (k:∀b u,h.get? b=some u->h'.get? b=some u):Un fs ex H H h h' :=
 ⟨λb ob q _ _ _=>k b ob q,λb ob q _ _ _=>⟨ob.slots,k b ob q⟩,λ_ _ _ n _=>n,λb ob q _=>⟨ob,k b ob q⟩,λ_ _ q=>q,λ_ _ _ q=>q,λ_ ps q=>⟨#[],by rw[q];simp⟩⟩
theorem Un.refl:Un fs ex H H h h:=Un.kept λ_ _ q=>q
theorem Un.laid (k:∀b u,h.get? b=some u->h'.get? b=some u)(hp:h.objs.size<=a)(hn:H a=none):Un fs ex H (upd H a o) h h' where
 keep:=λb u q _ _ _=>k b u q
 slot:=λb u q _ _ _=>⟨u.slots,k b u q⟩
 free:=λb u q n _=>by rw[ay (JB (Jw (Jf q) hp))];exact n
 there:=λb u q _=>⟨u,k b u q⟩
 jt:=λb xs q=>by rw[ay (bu q hn)];exact q
 iI:=λb u xs q=>by rw[ay (bu q hn)];exact q
 jw:=λb ps q=>⟨#[],by rw[ay (bu q hn),q];simp⟩
theorem Un.write (mu:BL (H x))(he:e=x\/H e=some (.own x))(k:∀b u,b≠e->h.get? b=some u->h'.get? b=some u)(zr:∃u,h'.get? e=some u):Un fs ex H (upd H x o) h h':=by
 have hx:∀b,H b=none->b≠x:=λb n z=>by subst z;rw[n]at mu;exact mu
 have hb:∀b,H b=none->b≠e:=λb n z=>by
  subst z;rcases he with r|r
  ·exact hx b n r
  ·rw[n]at r;cases r
 have hm:∀b u,H b=some u->¬ BL (some u)->b≠x:=λb u q nm z=>by subst z;rw[q]at mu;exact nm mu
 refine⟨λb u q n _ _=>k b u (hb b n) q,λb u q n _ _=>⟨u.slots,k b u (hb b n) q⟩,λb u q n _=>by rw[ay (hx b n)];exact n,λb u q _=>?_,
  λb xs q=>by rw[ay (hm b _ q λz=>z)];exact q,λb u xs q=>by rw[ay (hm b _ q λz=>z)];exact q,λb ps q=>⟨#[],by rw[ay (hm b _ q λz=>z),q];simp⟩⟩
 by_cases yI:b=e
 ·subst yI;exact zr
 ·exact⟨u,k b u yI q⟩
end
def BQ (h:Heap)(H:Hp):List Addr:=(JM h.objs.size).filter λa=>(H a).isSome
def jU (h:Heap)(H:Hp):Heap:=PySem.W.hideAll h (BQ h H)
theorem pY (h:Heap)(H:Hp):(jU h H).objs.size=h.objs.size:=PySem.W.hideAll_size _ _
theorem sG {h:Heap}{H:Hp}{b:Addr}{o:Obj}(e:h.get? b=some o)(n:H b=none):(jU h H).get? b=some o :=
 PySem.W.hideAll_get _ e λhm=>by
  have q:(H b).isSome=true:=(MA.mp hm).2;rw[n]at q;simp at q
theorem uW {h:Heap}{H:Hp}{b:Addr}{o:Obj}(e:(jU h H).get? b=some o):h.get? b=some o/\H b=none:=by
 have e':h.get? b=some o:=PySem.W.of_hideAll (BQ h H) e;refine⟨e',?_⟩;cases q:H b with
 |none=>rfl
 |some x =>
  have hm:b∈BQ h H:=MA.mpr ⟨J8.mpr (Jf e'),by simp[q]⟩
  have z:(jU h H).get? b=none:=PySem.W.hideAll_none (BQ h H) hm;rw[z]at e;cases e
structure Mod (K:PySem.W.Frag)(mg:Str->Option IS)(base:Heap):Prop where
 B0:K.In base
 glob:base.Ns Ke mg
 blt:∃mb,base.Ns builtinsNs mb/\∀x:Str,x≠"__name__" -> mb x=J6 x
 nolimit:base.NoLimit
structure Cx where
 prog:IY
 w:Je
 K:PySem.W.Frag
 mg:Str->Option IS
 base:Heap
 A:JQ
 N:List Str
 s₀:IT
 H₀:Hp
 env:Env
 outer:List Env
 stack:List Env
 ex:List Addr
 fn:Str->Bool
 calm:Bool
 pn:List (Addr×Obj)
 xe:IS->IT->Prop
def sQ (l:List Env):List Addr:=l.filterMap (·.frame)
abbrev Cx.fs (X:Cx):List Addr:=sQ X.outer
def zD (sc:K2)(x:Str):Prop:=sc.names.lookup x=some .local\/sc.names.lookup x=some .cell\/sc.names.lookup x=some .free
def Loc (sc:K2)(x:Str):Prop:=sc.names.lookup x=some .local\/sc.names.lookup x=some .cell
def Look (env:Env)(h:Heap)(m:Str->Option IS)(x:Str)(u:IS):Prop :=
 (env.kindOf x=some .local/\m x=some u)\/((env.kindOf x=some .cell\/env.kindOf x=some .free)/\∃c,env.cells.lookup x=some c/\h.IsCell c (some u))
structure Cx.Ok (X:Cx):Prop where
 mod:Mod X.K X.mg X.base
 kind:X.env.scope.kind=.function
 glob:X.env.globals=Ke
 blt:X.env.builtins=builtinsNs
 above:X.s₀.heap.objs.size<=X.env.locals
 inj:∀x y c,X.env.cells.lookup x=some c->X.env.cells.lookup y=some c->x=y
 has:∀x,(X.env.kindOf x=some .cell\/X.env.kindOf x=some .free)->∃c,X.env.cells.lookup x=some c
 BD:∀x c,X.fn x=true->X.env.cells.lookup x=some c->X.s₀.heap.objs.size<=c
 hd:X.calm=true->X.A.handled=none
 frames:X.A.frames=some X.stack
 BS:X.stack=X.outer\/(X.stack=X.env::X.outer/\X.env.frame=some X.env.locals)
 Ce:∀b∈X.ex,b≠X.env.locals/\∀x c,X.env.cells.lookup x=some c->c≠b
 bs:∀b o,X.base.get? b=some o->X.s₀.heap.get? b=some o/\X.H₀ b=none
 wG:X.base.objs.size<=X.s₀.heap.objs.size
 rQ:∀b o,X.base.get? b=some o->b∉X.ex
 sX:∀b∈X.ex,b∉X.fs
 ia:X.s₀.heap.FunFrames X.base X.outer
 zu:∀b∈X.fs,X.H₀ b=none
structure Inv (X:Cx)(pins:List (Addr×Obj))(σ:List (Option V))(H:Hp)(s:IT):Prop where
 ok:X.Ok
 os:s.os=X.s₀.os
 bare:LS s.gens
 base:Un X.fs X.ex X.H₀ H X.s₀.heap s.heap
 loc:∃m,s.heap.Ns X.env.locals m/\∀(i:Nat) (x:Str) (v:V),X.N[i]?=some x->σ[i]?=some (some v)->zD X.env.scope x->∃u,RelV v u/\Look X.env s.heap m x u
 cell:∀x c,X.env.cells.lookup x=some c->∃v,s.heap.IsCell c v
 free:H X.env.locals=none
 d_:∀x c,X.env.cells.lookup x=some c->H c=none
 pin:∀p∈X.pn++pins,s.heap.get? p.1=some p.2/\H p.1=none/\p.1≠X.env.locals/\p.1∉X.fs/\∀v,p.2.data≠.cell v
 bz:eM X.prog X.w H s.heap
 len:σ.length=X.N.length
section
variable {X:Cx}{pins:List (Addr×Obj)}{σ:List (Option V)}{H H':Hp}{s:IT}{h':Heap}
theorem Cx.Ok.xP (ok:X.Ok){b:Addr}{o:Obj}(e:X.base.get? b=some o):b∉X.fs:=λhb=>by
 have:=(ok.ia.mem hb).1;rw[e]at this;cases this
theorem Inv.bs (I:Inv X pins σ H s):∀b o,X.base.get? b=some o->s.heap.get? b=some o/\H b=none:=λb o e =>
 ⟨I.base.keep b o (I.ok.bs b o e).1 (I.ok.bs b o e).2 (I.ok.xP e) (I.ok.rQ b o e),I.base.free b o (I.ok.bs b o e).1 (I.ok.bs b o e).2 (I.ok.rQ b o e)⟩
theorem Inv.bk (I:Inv X pins σ H s):∀b o,X.base.get? b=some o->s.heap.get? b=some o:=λb o e=>(I.bs b o e).1
theorem Inv.mod (I:Inv X pins σ H s):Mod X.K X.mg X.base:=I.ok.mod
theorem Inv.ye (I:Inv X pins σ H s):X.K.In s.heap:=I.ok.mod.B0.keeps I.bk
theorem Inv.lt (I:Inv X pins σ H s):X.env.locals<s.heap.objs.size:=let ⟨_,hn,_⟩:=I.loc;hn.lt
theorem Inv.sz (I:Inv X pins σ H s):X.s₀.heap.objs.size<=s.heap.objs.size:=JC I.ok.above (Nat.le_of_lt I.lt)
theorem Inv.Dg (I:Inv X pins σ H s){a:Addr}(h:s.heap.objs.size<=a):a∉X.fs:=λhb=>by
 obtain⟨_,o,ho,_⟩:=I.ok.ia.mem hb;exact absurd (Jw (Jf ho) (JC I.sz h)) (La _)
theorem Inv.yU (I:Inv X pins σ H s):∀x c,X.env.cells.lookup x=some c->c≠X.env.locals:=λx c e z=>by
 obtain⟨v,o,ho,hd⟩:=I.cell x c e;obtain⟨m,⟨o',es,ep,vf,HH,_⟩,_⟩:=I.loc;rw[z,vf]at ho;cases ho;rw[HH]at hd;cases hd
theorem Inv.ia (I:Inv X pins σ H s):s.heap.FunFrames X.base X.outer:=by
 have all:∀(l:List Env),(∀b∈sQ l,b∈X.fs)->X.s₀.heap.FunFrames X.base l->s.heap.FunFrames X.base l:=by
  intro l
  induction l with
  |nil=>intro _ _;trivial
  |cons env r ih =>
   intro hs hl;obtain⟨hk,⟨L,o,hf,hn,ho,hd⟩,hr⟩:=hl;have hL:L∈X.fs:=hs L (by unfold sQ;rw[Lk,hf];exact JA)
   obtain⟨sl,e⟩:=I.base.slot L o ho (I.ok.zu L hL) hL λz=>I.ok.sX L z hL;exact⟨hk,⟨L,_,hf,hn,e,hd⟩,ih (λb hb=>hs b (by unfold sQ;rw[Lk,hf];exact Ju _ hb)) hr⟩
 exact all X.outer (λ_ hb=>hb) I.ok.ia
theorem Inv.stack (I:Inv X pins σ H s):s.heap.FunFrames X.base X.stack:=by
 rcases I.ok.BS with e|⟨e,hf⟩
 ·rw[e];exact I.ia
 ·rw[e];obtain⟨m,hn,_⟩:=I.loc;refine .cons (by rw[I.ok.kind];decide) hf hn ?_ I.ia
  exact Heap.get?_none_of_le (JC I.ok.wG I.ok.above)
theorem Inv.mz (I:Inv X pins σ H s):∀b∈sQ X.stack,b∈X.env.locals::X.fs:=λb hb=>by
 rcases I.ok.BS with e|⟨e,hf⟩
 ·rw[e]at hb;exact Ju _ hb
 ·rw[e]at hb;unfold sQ at hb;rw[Lk,hf]at hb;exact hb
theorem Inv.nL (I:Inv X pins σ H s):∀b∈sQ X.stack,H b=none:=λb hb=>by
 rcases Ja.mp (I.mz b hb)with e|hb
 ·rw[e];exact I.free
 ·obtain⟨_,o,ho,_⟩:=I.ok.ia.mem hb;exact I.base.free b o ho (I.ok.zu b hb) λz=>I.ok.sX b z hb
theorem Inv.step {g':Array GenState}{t':Nat}{d':Drawn}{ch:List Addr}(I:Inv X pins σ H s)
  (ox:∀b∈ch,(b∈X.ex\/X.s₀.heap.objs.size<=b)/\b≠X.env.locals/\(∀x c,X.env.cells.lookup x=some c->c≠b)/\∀p∈X.pn++pins,p.1≠b)
  (keep:∀b o,b≠X.env.locals->b∉X.fs->b∉ch->s.heap.get? b=some o->H b=none->h'.get? b=some o)
  (slot:∀b o,b≠X.env.locals->b∈X.fs->b∉ch->s.heap.get? b=some o->H b=none->∃sl,h'.get? b=some {o with slots:=sl}) (free:∀b o,b∉ch->s.heap.get? b=some o->H b=none->H' b=none)
  (there:∀b o,b∉ch->s.heap.get? b=some o->∃o',h'.get? b=some o')
  (jt:∀b xs,H b=some (.tup xs)->H' b=some (.tup xs)) (iI:∀b o u,H b=some (.tY o u)->H' b=some (.tY o u)) (jw:∀b ps,H b=some (.wZ ps)->∃more,H' b=some (.wZ (ps++more)))
  (ns:∀m,s.heap.Ns X.env.locals m->h'.Ns X.env.locals m) (bz:eM X.prog X.w H' h') (hg:LS g') :
  Inv X pins σ H' {s with heap:=h',gens:=g',drawn:=d',toks:=t'}:=by
 have FN:∀b o,X.s₀.heap.get? b=some o->b≠X.env.locals:=λb o e=>JB (Jw (Jf e) I.ok.above);have BY:∀b o,X.s₀.heap.get? b=some o->b∉X.ex->b∉ch:=λb o e hx hb=>by
  rcases (ox b hb).1 with z|z
  ·exact hx z
  ·exact absurd (Jw (Jf e) z) (La _)
 have cellK:∀x c,X.env.cells.lookup x=some c->∀v,s.heap.IsCell c v->h'.IsCell c v:=λx c e v pW=>by
  obtain⟨o,ho,hd⟩:=pW;have Ao:c∉ch:=λz=>(ox c z).2.2.1 x c e rfl
  by_cases hc:c∈X.fs
  ·obtain⟨sl,q⟩:=slot c o (I.yU x c e) hc Ao ho (I.d_ x c e);exact⟨_,q,hd⟩
  ·exact⟨o,keep c o (I.yU x c e) hc Ao ho (I.d_ x c e),hd⟩
 refine⟨I.ok,I.os,hg,⟨λb o e n hb hx=>?_,λb o e n hb hx=>?_,λb o e n hx=>?_,λb o e hx=>?_,λb xs e=>jt b xs (I.base.jt b xs e),λb o xs e=>iI b o xs (I.base.iI b o xs e),λb ps e=>?_⟩,?_,λx c e=>?_,?_,λx c e=>?_,λp hp=>?_,bz,I.len⟩
 ·exact keep b o (FN b o e) hb (BY b o e hx) (I.base.keep b o e n hb hx) (I.base.free b o e n hx)
 ·obtain⟨sl,e1⟩:=I.base.slot b o e n hb hx;obtain⟨GI,e2⟩:=slot b _ (FN b o e) hb (BY b o e hx) e1 (I.base.free b o e n hx);exact⟨GI,e2⟩
 ·obtain⟨o',e1⟩:=I.base.there b o e hx;exact free b o' (BY b o e hx) e1 (I.base.free b o e n hx)
 ·obtain⟨o',e1⟩:=I.base.there b o e hx;exact there b o' (BY b o e hx) e1
 ·obtain⟨m1,e1⟩:=I.base.jw b ps e;obtain⟨m2,e2⟩:=jw b _ e1;exact⟨m1++m2,by rw[e2,Array.append_assoc]⟩
 ·obtain⟨m,hn,hl⟩:=I.loc;refine⟨m,ns m hn,λi x v e1 e2 e3=>?_⟩;obtain⟨u,r,l⟩:=hl i x v e1 e2 e3;refine⟨u,r,?_⟩;rcases l with l|⟨k,c,e,z⟩
  ·exact .inl l
  ·exact .inr ⟨k,c,e,cellK x c e _ z⟩
 ·obtain⟨v,z⟩:=I.cell x c e;exact⟨v,cellK x c e v z⟩
 ·obtain⟨m,⟨o,_,_,ho,_⟩,_⟩:=I.loc;exact free _ o (λz=>(ox _ z).2.1 rfl) ho I.free
 ·obtain⟨v,o,ho,hd⟩:=I.cell x c e;exact free c o (λz=>(ox c z).2.2.1 x c e rfl) ho (I.d_ x c e)
 ·obtain⟨e,n,ne,nf,d⟩:=I.pin p hp;have Ao:p.1∉ch:=λz=>(ox p.1 z).2.2.2 p hp rfl;exact⟨keep p.1 p.2 ne nf Ao e n,free p.1 p.2 Ao e n,ne,nf,d⟩
theorem Inv.un {t':Nat}(I:Inv X pins σ H s)(u:Un X.fs [] H H' s.heap h')(bz:eM X.prog X.w H' h'):Inv X pins σ H' {s with heap:=h',toks:=t'}:=by
 obtain⟨m,⟨o,es,ep,ho,r⟩,_⟩:=id I.loc;obtain⟨sl,hL⟩:=u.any ho I.free (by simp)
 exact I.step (g':=s.gens) (d':=s.drawn) (ch:=[]) (λ_ z=>nomatch z) (λb o _ hb _ e n=>u.keep b o e n hb (by simp)) (λb o _ hb _ e n=>u.slot b o e n hb (by simp)) (λb o _ e n=>u.free b o e n (by simp)) (λb o _ e=>u.there b o e (by simp)) u.jt u.iI u.jw (λm' hm=>by
  obtain⟨o',zv,E8,vf,r'⟩:=hm;rw[ho]at vf;cases vf;exact⟨_,zv,E8,hL,r'⟩) bz I.bare
theorem Inv.call {g':Array GenState}{t':Nat}{d':Drawn}{ch:List Addr}(I:Inv X pins σ H s)(u:Un (sQ X.stack) ch H H' s.heap h')(bz:eM X.prog X.w H' h')(hg:LS g')
  (ox:∀b∈ch,(b∈X.ex\/X.s₀.heap.objs.size<=b)/\b≠X.env.locals/\(∀x c,X.env.cells.lookup x=some c->c≠b)/\∀p∈X.pn++pins,p.1≠b) :
  Inv X pins σ H' {s with heap:=h',gens:=g',drawn:=d',toks:=t'}:=by
 obtain⟨m,⟨o,es,ep,ho,r⟩,_⟩:=id I.loc;obtain⟨sl,hL⟩:=u.any ho I.free λz=>(ox _ z).2.1 rfl;exact I.step (ch:=ch) ox (λb o hL hb hc e n=>u.keep b o e n (λz=>(Ja.mp (I.mz b z)).elim hL hb) hc) (λb o _ _ hc e n=>u.any e n hc) (λb o hc e n=>u.free b o e n hc) (λb o hc e=>u.there b o e hc) u.jt u.iI u.jw (λm' hm=>by
  obtain⟨o',zv,E8,vf,r'⟩:=hm;rw[ho]at vf;cases vf;exact⟨_,zv,E8,hL,r'⟩) bz hg
theorem Inv.turned {t':Nat}{it:Addr}(I:Inv X pins σ H s)(k:∀b o,b≠it->s.heap.get? b=some o->h'.get? b=some o)(hn:H it=none)(hL:it≠X.env.locals)
  (h1:it∈X.ex\/X.s₀.heap.objs.size<=it) (h2:∀x c,X.env.cells.lookup x=some c->c≠it) (h3:∀p∈X.pn++pins,p.1≠it):Inv X pins σ H {s with heap:=h',toks:=t'}:=by
 have FL:∀b u,H b=some u->b≠it:=λb u e z=>by rw[z,hn]at e;cases e
 refine I.step (g':=s.gens) (d':=s.drawn) (ch:=[it]) (λb hb=>?_) (λb o _ _ hc e _=>k b o (λz=>hc (by simp[z])) e) (λb o _ _ hc e _=>⟨o.slots,k b o (λz=>hc (by simp[z])) e⟩) (λ_ _ _ _ n=>n)
  (λb o hc e=>⟨o,k b o (λz=>hc (by simp[z])) e⟩) (λ_ _ e=>e) (λ_ _ _ e=>e) (λb ps e=>⟨#[],by rw[e];simp⟩) (λm hm=>?_) (λb u e=>?_) I.bare
 ·have e:b=it:=by simpa using hb
  subst e;exact⟨h1,hL,h2,h3⟩
 ·obtain⟨o,es,ep,ho,r⟩:=hm;exact⟨o,es,ep,k _ o (Lm hL) ho,r⟩
 ·refine(I.bz b u e).o4 (λc v hc q=>k c v ?_ q) (λ_ q=>q) λ_ _ q=>q;rcases hc with z|z
  ·rw[z];exact FL b u e
  ·exact FL c _ z
theorem Inv.tok (I:Inv X pins σ H s)(t:Nat):Inv X pins σ H {s with toks:=t}:=I.un (h':=s.heap) (t':=t) Un.refl I.bz
theorem Inv.kept {t':Nat}(I:Inv X pins σ H s)(k:∀b u,s.heap.get? b=some u->h'.get? b=some u):Inv X pins σ H {s with heap:=h',toks:=t'}:=I.un (Un.kept k) (I.bz.kept k)
theorem Inv.laid {a:Addr}{o:HO}{t':Nat}(I:Inv X pins σ H s)(k:∀b u,s.heap.get? b=some u->h'.get? b=some u)(hp:s.heap.objs.size<=a)(new:a6 X.prog X.w (upd H a o) h' a o):
  Inv X pins σ (upd H a o) {s with heap:=h',toks:=t'}:=I.un (Un.laid k hp (I.bz.fresh hp)) (I.bz.laid k hp new)
theorem Inv.write {x e:Addr}{o:HO}{t':Nat}(I:Inv X pins σ H s)(mu:BL (H x))(he:e=x\/H e=some (.own x))(k:∀b u,b≠e->s.heap.get? b=some u->h'.get? b=some u)(zr:∃u,h'.get? e=some u)
  (new:a6 X.prog X.w (upd H x o) h' x o):Inv X pins σ (upd H x o) {s with heap:=h',toks:=t'}:=I.un (Un.write mu he k zr) (I.bz.write mu he k zr new)
theorem Inv.nV {vW:List (Addr×Obj)}(I:Inv X pins σ H s)(h:∀p∈vW,s.heap.get? p.1=some p.2/\H p.1=none/\p.1≠X.env.locals/\p.1∉X.fs/\∀v,p.2.data≠.cell v):Inv X vW σ H s :=
 ⟨I.ok,I.os,I.bare,I.base,I.loc,I.cell,I.free,I.d_,λp hp=>(Jq.mp hp).elim (λz=>I.pin p (Kh _ z)) (h p),I.bz,I.len⟩
theorem kZ {N:List Str}(hN:N.Nodup){i j:Nat}{x:Str}(a:N[i]?=some x)(b:N[j]?=some x):i=j:=by
 obtain⟨h1,e1⟩:=Jd.mp a;obtain⟨h2,e2⟩:=Jd.mp b;exact(List.getElem_inj hN).mp (e1.trans e2.symm)
theorem iU {M:Mv}{A:JQ}{E:IS->IT->Prop}{i:Nat}{x:Str}{v:V}{u:IS}{Q:Unit->IT->Prop}(I:Inv X pins σ H s)(hN:X.N.Nodup)(hi:X.N[i]?=some x)(hx:Loc X.env.scope x)(r:RelV v u)
  (h:∀s',Inv X pins (σ.set i (some v)) H s'->(∃a,Ln a s.heap s'.heap/\(a=X.env.locals\/X.env.cells.lookup x=some a))->Q () s') (hf:X.fn x=true\/X.env.scope.names.lookup x=some .local:=by first|exact .inl rfl|exact .inr rfl|assumption):Js M A (storeName X.env x u) Q E s:=by
 obtain⟨m,hn,hl⟩:=id I.loc;have ET:(X.env.scope.kind==.class || (X.env.scope.kind==.module&&X.env.locals != X.env.globals))=false:=by rw[I.ok.kind];rfl
 have Bc:i<σ.length:=by rw[I.len];exact(Jd.mp hi).1
 have yU:=I.yU;have tracked:∀{a:Addr} {h':Heap},(∃o,s.heap.get? a=some o/\H a=none)->Ln a s.heap h'->eM X.prog X.w H h':=λ{a h'} ha hs b ob e=>by
  obtain⟨_,_,wo⟩:=ha;refine(I.bz b ob e).o4 (λc w' hc q=>(hs.2 c ?_).trans q) (λ_ q=>q) λ_ _ q=>q;rintro rfl;rcases hc with rfl|hc
  ·rw[wo]at e;cases e
  ·rw[wo]at hc;cases hc
 rcases hx with hk|hk
 ·refine wpAny_storeName_local hk hn (λh' A_ hs=>?_) ET;obtain⟨oL,_,_,Hr,_⟩:=id hn;refine h _ ⟨I.ok,I.os,I.bare,⟨λb o e n hb hx=>?_,λb o e n hb hx=>?_,I.base.free,λb o e hx=>?_,I.base.jt,I.base.iI,I.base.jw⟩,⟨_,A_,λj y v' e1 e2 e3=>?_⟩,λy c e=>?_,I.free,I.d_,λp hp=>?_,tracked ⟨oL,Hr,I.free⟩ hs,by simpa using I.len⟩ ⟨_,hs,.inl rfl⟩
  ·exact(hs.2 b (JB (Jw (Jf e) I.ok.above))).trans (I.base.keep b o e n hb hx)
  ·obtain⟨sl,e1⟩:=I.base.slot b o e n hb hx;exact⟨sl,(hs.2 b (JB (Jw (Jf e) I.ok.above))).trans e1⟩
  ·obtain⟨o',e1⟩:=I.base.there b o e hx;exact⟨o',(hs.2 b (JB (Jw (Jf e) I.ok.above))).trans e1⟩
  ·by_cases hj:j=i
   ·subst hj;rw[hi]at e1;cases e1;rw[List.getElem?_set_self Bc]at e2;cases e2;exact⟨u,r,.inl ⟨hk,by simp⟩⟩
   ·rw[List.getElem?_set_ne (Lm hj)]at e2;obtain⟨u',r',q⟩:=hl j y v' e1 e2 e3;refine⟨u',r',?_⟩;rcases q with⟨k,e⟩|⟨k,c,e,z⟩
    ·refine .inl ⟨k,?_⟩;have:y≠x:=λe=>hj (kZ hN e1 (e▸hi));simp[this,e]
    ·exact .inr ⟨k,c,e,z.sameBut hs (yU y c e)⟩
  ·obtain⟨w',z⟩:=I.cell y c e;exact⟨w',z.sameBut hs (yU y c e)⟩
  ·obtain⟨e,n,ne,nf,d⟩:=I.pin p hp;exact⟨(hs.2 p.1 ne).trans e,n,ne,nf,d⟩
 ·have EN:X.fn x=true:=by
   rcases hf with z|z
   ·exact z
   ·rw[z]at hk;cases hk
  obtain⟨c,hc⟩:=I.ok.has x (.inl hk);obtain⟨w',z⟩:=I.cell x c hc;refine wpAny_storeName_cell I.ok.kind hk hc z (λh' qq hs=>?_);obtain⟨oc,yC,Et⟩:=id z;refine h {s with heap:=h'} ⟨I.ok,I.os,I.bare,⟨λb o e n hb hx=>?_,λb o e n hb hx=>?_,I.base.free,λb o e hx=>?_,I.base.jt,I.base.iI,I.base.jw⟩,⟨m,hn.sameBut hs (Lm (yU x c hc)),λj y v' e1 e2 e3=>?_⟩,λy c' e=>?_,I.free,I.d_,λp hp=>?_,tracked ⟨oc,yC,I.d_ x c hc⟩ hs,by simpa using I.len⟩ ⟨c,hs,.inr hc⟩
  ·exact(hs.2 b (JB (Jw (Jf e) (I.ok.BD x c EN hc)))).trans (I.base.keep b o e n hb hx)
  ·obtain⟨sl,e1⟩:=I.base.slot b o e n hb hx;exact⟨sl,(hs.2 b (JB (Jw (Jf e) (I.ok.BD x c EN hc)))).trans e1⟩
  ·obtain⟨o',e1⟩:=I.base.there b o e hx;exact⟨o',(hs.2 b (JB (Jw (Jf e) (I.ok.BD x c EN hc)))).trans e1⟩
  ·by_cases hj:j=i
   ·subst hj;rw[hi]at e1;cases e1;rw[List.getElem?_set_self Bc]at e2;cases e2;exact⟨u,r,.inr ⟨.inl hk,c,hc,qq⟩⟩
   ·rw[List.getElem?_set_ne (Lm hj)]at e2;obtain⟨u',r',q⟩:=hl j y v' e1 e2 e3;refine⟨u',r',?_⟩;rcases q with q|⟨k,c',e,z'⟩
    ·exact .inl q
    ·refine .inr ⟨k,c',e,z'.sameBut hs ?_⟩;rintro rfl;exact hj (kZ hN e1 (I.ok.inj _ _ _ e hc▸hi))
  ·by_cases Gb:c'=c
   ·subst Gb;exact⟨_,qq⟩
   ·obtain⟨w2,z2⟩:=I.cell y c' e;exact⟨w2,z2.sameBut hs Gb⟩
  ·obtain⟨e,n,ne,nf,d⟩:=I.pin p hp;refine⟨(hs.2 p.1 ?_).trans e,n,ne,nf,d⟩;intro q;rw[q,yC]at e;have q':oc=p.2:=JN e;exact d w' (by rw[<- q'];exact Et)
theorem km {M:Mv}{A:JQ}{E:IS->IT->Prop}{i:Nat}{x:Str}{v:V}{u:IS}{Q:Unit->IT->Prop}(I:Inv X pins σ H s)(hN:X.N.Nodup)(hi:X.N[i]?=some x)(hx:Loc X.env.scope x)(r:RelV v u)
  (h:∀s',Inv X pins (σ.set i (some v)) H s'->Q () s') (hf:X.fn x=true\/X.env.scope.names.lookup x=some .local:=by first|exact .inl rfl|exact .inr rfl|assumption):Js M A (storeName X.env x u) Q E s :=
 iU I hN hi hx r (λs' I' _=>h s' I') hf
theorem Inv.BC {s':IT}{ch:List Addr}(I:Inv X pins σ H s)(ho:s'.os=s.os)(u:Un (sQ X.stack) ch H H' s.heap s'.heap)(bz:eM X.prog X.w H' s'.heap)(hg:LS s'.gens)
  (ox:∀b∈ch,(b∈X.ex\/X.s₀.heap.objs.size<=b)/\b≠X.env.locals/\(∀x c,X.env.cells.lookup x=some c->c≠b)/\∀p∈X.pn++pins,p.1≠b):Inv X pins σ H' s':=by
 obtain⟨h',g',d',t',o'⟩:=s';have e:o'=s.os:=ho;subst e;exact I.call (g':=g') (t':=t') (d':=d') u bz hg ox
end
abbrev XK:=IS->Option Addr->Hp->Prop
abbrev St:=List (Option V)
abbrev VK:=V->Hp->Prop
abbrev TE:=St->Hp->VK->Prop
abbrev TT:=St->Hp->(Bool->Hp->Prop)->Prop
abbrev TA:=St->Hp->(List V->Hp->Prop)->Prop
structure Ends where
 nx:St->Hp->Prop
 rt:VK
 bk:St->Hp->Prop:=λ_ _=>False
 ct:St->Hp->Prop:=λ_ _=>False
abbrev TS:=Ends->St->Hp->Prop
def EP (X:Cx)(pins:List (Addr×Obj))(σ:St)(Q:VK)(u:IS)(s':IT):Prop:=∃v H',Inv X pins σ H' s'/\RelV v u/\Q v H'
def TP (X:Cx)(pins:List (Addr×Obj))(σ:St)(Q:Bool->Hp->Prop)(b:Bool)(s':IT):Prop:=∃H',Inv X pins σ H' s'/\Q b H'
def AP (X:Cx)(pins:List (Addr×Obj))(σ:St)(Q:List V->Hp->Prop)(us:List IS)(s':IT):Prop:=∃vs H',Inv X pins σ H' s'/\Vals vs us/\Q vs H'
def SP (X:Cx)(pins:List (Addr×Obj))(D:Ends)(f:Flow)(s':IT):Prop :=
 match f with
 |.next=>∃σ' H',Inv X pins σ' H' s'/\D.nx σ' H'
 |.brk=>∃σ' H',Inv X pins σ' H' s'/\D.bk σ' H'
 |.cont=>∃σ' H',Inv X pins σ' H' s'/\D.ct σ' H'
 |.ret u=>∃v σ' H',Inv X pins σ' H' s'/\RelV v u/\D.rt v H'
def PE (X:Cx)(e:Expr)(t:TE):Prop :=
 ∀(pins:List (Addr×Obj)) (s:IT) (σ:St) (H:Hp) (Q:VK),Inv X pins σ H s->t σ H Q->Js (model X.prog X.w) X.A (eval e X.env) (EP X pins σ Q) X.xe s
def PT (X:Cx)(e:Expr)(t:TT):Prop :=
 ∀(pins:List (Addr×Obj)) (s:IT) (σ:St) (H:Hp) (Q:Bool->Hp->Prop),Inv X pins σ H s->t σ H Q->Js (model X.prog X.w) X.A (isTrue e X.env (eval e X.env)) (TP X pins σ Q) X.xe s
def PW (X:Cx)(e:Expr)(t:TT):Prop :=
 ∀(whole:Sem IS) (pins:List (Addr×Obj)) (s:IT) (σ:St) (H:Hp) (Q:Bool->Hp->Prop),Inv X pins σ H s->t σ H Q->Js (model X.prog X.w) X.A (isTrue e X.env whole) (TP X pins σ Q) X.xe s
theorem PW.pt {X:Cx}{e:Expr}{t:TT}(h:PW X e t):PT X e t:=h _
def PA (X:Cx)(es:List Expr)(t:TA):Prop :=
 ∀(pos:Pos) (pins:List (Addr×Obj)) (s:IT) (σ:St) (H:Hp) (Q:List V->Hp->Prop),Inv X pins σ H s->t σ H Q->Js (model X.prog X.w) X.A (spliced (Kj pos (Jl es X.env))) (AP X pins σ Q) X.xe s
def PS (X:Cx)(st:Stmt)(t:TS):Prop :=
 ∀(pins:List (Addr×Obj)) (s:IT) (σ:St) (H:Hp) (D:Ends),Inv X pins σ H s->t D σ H->Js (model X.prog X.w) X.A (exec st X.env) (SP X pins D) X.xe s
def l5 (X:Cx)(st:List Stmt)(t:TS):Prop :=
 ∀(pins:List (Addr×Obj)) (s:IT) (σ:St) (H:Hp) (D:Ends),Inv X pins σ H s->t D σ H->Js (model X.prog X.w) X.A (execs st X.env) (SP X pins D) X.xe s
theorem aZ {α:Type}{t:Sem α}{Q Q':α->IT->Prop}{M:Mv}{A:JQ}{E:IS->IT->Prop}{s:IT}(h:Js M A t Q E s)(hQ:∀a s,Q a s->Q' a s):Js M A t Q' E s:=K7 h hQ λ_ _ x=>x
section
variable {X:Cx}
def w5 (i:Nat):TE:=λσ H Q=>∃v,σ[i]?=some (some v)/\Q v H
def tC (v:V):TE:=λ_ H Q=>Q v H
theorem rl {i:Nat} {x:Str} {pos:Pos} (hN:X.N[i]?=some x) (hv:zD X.env.scope x) (hd:(x==("__debug__" : Str))=false:=by decide) (qp:(x==("__classdict__" : Str))=false:=by decide):PE X (.Name x pos) (w5 i):=by
 intro pins s σ H Q I h;obtain⟨v,e,h⟩:=h;obtain⟨m,hn,hl⟩:=I.loc;obtain⟨u,r,l⟩:=hl i x v hN e hv;have fin:EP X pins σ Q u s:=⟨v,H,I,r,h⟩;rcases l with⟨hk,hm⟩|⟨hk,c,hc,jc⟩
 ·exact wpAny_Name (wpAny_loadName_local I.ok.kind hk hn hm fin) hd
 ·rcases hk with hk|hk
  ·exact wpAny_Name (wpAny_loadName_cell I.ok.kind hk hc jc fin) hd
  ·exact wpAny_Name (wpAny_loadName_free I.ok.kind hk hc jc fin qp) hd
theorem aK {i j pos}:PE X (.Constant (.int i) j pos) (tC (.int i)):=λ_ _ _ H _ I h=>wpAny_Constant_int ⟨.int i,H,I.tok _,⟨_,rfl⟩,h⟩
theorem rC {b j pos}:PE X (.Constant (.bool b) j pos) (tC (.bl b)):=λ_ _ _ H _ I h=>Constant_bool ⟨.bl b,H,I,rfl,h⟩
theorem xv {j pos}:PE X (.Constant .none j pos) (tC .b7):=λ_ _ _ H _ I h=>Constant_none ⟨.b7,H,I,rfl,h⟩
theorem rm {x j pos}:PE X (.Constant (.str x) j pos) (tC (.str x)):=λ_ _ _ H _ I h=>Mb ⟨.str x,H,I.tok _,⟨_,rfl⟩,h⟩
def Gl (X:Cx)(x:Str):Prop:=X.env.kindOf x=some .globalImplicit
theorem oi {E:IS->IT->Prop}{pins:List (Addr×Obj)}{s:IT}{σ:St}{H:Hp}{x:Str}{u:IS}{pos:Pos}{Q:IS->IT->Prop}(I:Inv X pins σ H s)(hg:Gl X x)(hm:X.mg x=some u)(h:Q u s)
  (hd:(x==("__debug__" : Str))=false:=by decide):Js (model X.prog X.w) X.A (eval (.Name x pos) X.env) Q E s :=
 MM I.ok.kind hg (Calls.loadGlobal_global (by rw[I.ok.glob];exact I.mod.glob.keeps I.bk) hm h) hd
theorem mV {E:IS->IT->Prop}{pins:List (Addr×Obj)}{s:IT}{σ:St}{H:Hp}{x:Str}{u:IS}{pos:Pos}{Q:IS->IT->Prop}(I:Inv X pins σ H s)(hg:Gl X x)(hm:X.mg x=none)(hv:J6 x=some u)(h:Q u s)
  (hn:x≠"__name__" := by decide) (hd:(x==("__debug__" : Str))=false:=by decide):Js (model X.prog X.w) X.A (eval (.Name x pos) X.env) Q E s:=by
 obtain⟨mb,h1,h2⟩:=I.mod.blt;exact MM I.ok.kind hg (Calls.loadGlobal_builtin (by rw[I.ok.glob];exact I.mod.glob.keeps I.bk) hm (by rw[I.ok.blt];exact h1.keeps I.bk) ((h2 x hn).trans hv) h) hd
variable {a b:Expr}{ta tb:TE}{pos:Pos}
theorem k6 (b:Expr){op:Ll}(h:op≠.In)(h2:op≠.NotIn):Kx op b=false:=by
 have e1:(op==CmpOp.In)=false:=by cases op <;> first|rfl|exact absurd rfl h
 have e2:(op==CmpOp.NotIn)=false:=by cases op <;> first|rfl|exact absurd rfl h2
 cases b <;> simp[Kx,e1,e2]
def tB (t:TE):TT:=λσ H Q=>t σ H λx H1=>∃c,x=.bl c/\Q c H1
theorem xl {e:Expr}{t:TE}(h:PE X e t)(he:∀whole,isTrue e X.env whole=(do let v <- whole;MG e.pos;holding [v] (truthy v)):=by intro _;rfl):PT X e (tB t):=by
 intro pins s σ H Q I hw;refine isTrue_plain (aZ (h pins s σ H _ I hw) λv s1 ⟨x,H1,I1,r1,q1⟩=>?_) (he _);obtain⟨d,rfl,q⟩:=q1;cases r1;exact Kf ⟨H1,I1,q⟩
variable {tA BR:TT}{rest:List Expr}
def CF (t u:TT):TT:=λσ H Q=>t σ H λc H1=>if c=true then u σ H1 Q else Q false H1
def GB (t u:TT):TT:=λσ H Q=>t σ H λc H1=>if c=true then Q true H1 else u σ H1 Q
def Cw (t:TT):TT:=λσ H Q=>t σ H λc H1=>Q (!c) H1
theorem pw_and1 (ha:PT X a tA):PW X (.BoolOp .And [a] pos) tA:=by
 intro wh pins s σ H Q I h;refine isTrue_and (aZ (ha pins s σ H Q I h) λc s1 e=>?_);cases c with
 |true=>exact isTrue_and_nil e
 |false=>exact e
theorem pw_or1 (ha:PT X a tA):PW X (.BoolOp .Or [a] pos) tA:=by
 intro wh pins s σ H Q I h;refine isTrue_or (aZ (ha pins s σ H Q I h) λc s1 e=>?_);cases c with
 |false=>exact isTrue_or_nil e
 |true=>exact e
theorem pw_and (ha:PT X a tA)(hb:PW X (.BoolOp .And (b::rest) pos) BR):PW X (.BoolOp .And (a::b::rest) pos) (CF tA BR):=by
 intro wh pins s σ H Q I h;refine isTrue_and (aZ (ha pins s σ H _ I h) λc s1 ⟨H1,I1,q1⟩=>?_);cases c with
 |true=>exact hb wh pins s1 σ H1 Q I1 q1
 |false=>exact⟨H1,I1,q1⟩
theorem pw_or (ha:PT X a tA)(hb:PW X (.BoolOp .Or (b::rest) pos) BR):PW X (.BoolOp .Or (a::b::rest) pos) (GB tA BR):=by
 intro wh pins s σ H Q I h;refine isTrue_or (aZ (ha pins s σ H _ I h) λc s1 ⟨H1,I1,q1⟩=>?_);cases c with
 |true=>exact⟨H1,I1,q1⟩
 |false=>exact hb wh pins s1 σ H1 Q I1 q1
theorem xm (ha:PT X a tA):PT X (.UnaryOp .Not a pos) (Cw tA):=by
 intro pins s σ H Q I h;exact isTrue_not (ha pins s σ H (λc H1=>Q (!c) H1) I h)
def Cv (ta tb:TE):TE:=λσ H Q=>ta σ H λx H1=>∃c,x=.bl c/\if c=true then Q (.bl true) H1 else tb σ H1 Q
def zO (ta:TE):TE:=λσ H Q=>ta σ H λx H1=>∃c,x=.bl c/\Q (.bl (!c)) H1
theorem xt {op}{t:TE}(h:PE X a t):PE X (.BoolOp op [a] pos) t:=λpins s σ H Q I hw=>BoolOp_one (h pins s σ H Q I hw)
theorem Ae (ha:PE X a ta)(hb:PE X (.BoolOp .Or (b::rest) pos) tb):PE X (.BoolOp .Or (a::b::rest) pos) (Cv ta tb):=by
 intro pins s σ H Q I h;refine BoolOp_or (aZ (ha pins s σ H _ I h) λv s1 ⟨x,H1,I1,r1,q1⟩=>?_);obtain⟨c,rfl,q1⟩:=q1;cases r1;refine Kf ?_;cases c with
 |false=>exact hb pins s1 σ H1 Q I1 q1
 |true=>exact⟨.bl true,H1,I1,rfl,q1⟩
theorem xu (ha:PE X a ta):PE X (.UnaryOp .Not a pos) (zO ta):=by
 intro pins s σ H Q I h;refine UnaryOp_ (aZ (ha pins s σ H _ I h) λv s1 ⟨x,H1,I1,r1,q1⟩=>?_);obtain⟨c,rfl,q1⟩:=q1;cases r1;exact not_of (Kf ⟨.bl (!c),H1,I1,rfl,q1⟩)
end
def cS (K:PySem.W.Frag)(H:Hp)(a:Addr)(xs:List V):Prop :=
 Rd H a (.lst xs) \/
  ∃(o:Obj) (its:Array IS) (n:Nat),K.lookup a=some o/\o.cls=.type "list" /\ o.dict=none/\o.data=.seq its n/\its.size<=Jg/\Vals xs its.toList
def oS (K:PySem.W.Frag)(H:Hp)(a:Addr)(xs:List V):Prop :=
 Rd H a (.tup xs) \/
  ∃(o:Obj) (its:Array IS) (n:Nat),K.lookup a=some o/\o.cls=.type "tuple" /\ o.data=.seq its n/\its.size<=Jg/\Vals xs its.toList
noncomputable def Fj:IS->Option V
 |.none=>some .b7
 |.bool b=>some (.bl b)
 |.int i _=>some (.int i)
 |.str x _=>some (.str x)
 |.bytes b _=>some (.Fh b)
 |.float b _=>some (.E5 b)
 |.ref a=>some (.ref a)
 |.type n=>some (.ty n)
 |_=>none
theorem RelV.abs {x:V}{u:IS}(r:RelV x u):Fj u=some x:=by
 cases x with
 |b7=>cases r;rfl
 |bl _=>cases r;rfl
 |int _=>obtain⟨t,rfl⟩:=r;rfl
 |str _=>obtain⟨t,rfl⟩:=r;rfl
 |Fh _=>obtain⟨t,rfl⟩:=r;rfl
 |E5 _=>obtain⟨t,rfl⟩:=r;rfl
 |ref _=>cases r;rfl
 |ty _=>cases r;rfl
theorem RelV.inj {x y:V}{u:IS}(r:RelV x u)(q:RelV y u):x=y:=JN (r.abs.symm.trans q.abs)
theorem Vals.inj:∀{xs ys:List V} {us:List IS},Vals xs us->Vals ys us->xs=ys
 |_,_,_,.nil,.nil=>rfl
 |_,_,_,.cons r t,.cons r' t'=>by rw[r.inj r',Vals.inj t t']
section
variable {X:Cx}{pins:List (Addr×Obj)}{σ:St}{H:Hp}{s:IT}{a:Addr}{xs ys:List V}
theorem cS.of {K:PySem.W.Frag}(h:H a=some (.lst xs)):cS K H a xs:=.inl (.inl h)
theorem oS.of {K:PySem.W.Frag}(h:H a=some (.tup xs)):oS K H a xs:=.inl (.inl h)
theorem Inv.list (I:Inv X pins σ H s)(h:cS X.K H a xs):∃its:List IS,Vals xs its/\PlainL s.heap a its.toArray/\xs.length<=Jg:=by
 rcases h with h|⟨o,its,n,hk,hc,hd,hs,hz,r⟩
 ·obtain⟨z,its,n,r,e⟩:=h.ok I.bz;exact⟨its,r,⟨_,n,e,rfl,rfl,rfl⟩,z⟩
 ·refine⟨its.toList,r,⟨o,n,I.ye a o hk,hc,hd,by simpa using hs⟩,?_⟩
  have e:=r.length;simp only[Jn]at e;lia
theorem Inv.tuple (I:Inv X pins σ H s)(h:oS X.K H a xs):∃its:List IS,Vals xs its/\IsTup s.heap a its.toArray/\xs.length<=Jg:=by
 rcases h with h|⟨o,its,n,hk,hc,hs,hz,r⟩
 ·obtain⟨z,its,r,p⟩:=h.ok I.bz;exact⟨its,r,p,z⟩
 ·refine⟨its.toList,r,⟨o,I.ye a o hk,hc,n,by simpa using hs⟩,?_⟩
  have e:=r.length;simp only[Jn]at e;lia
theorem Inv.rW (I:Inv X pins σ H s)(h:cS X.K H a xs)(h':cS X.K H a ys):xs=ys:=by
 obtain⟨its,r,⟨o,n,e,_,_,d⟩,_⟩:=I.list h;obtain⟨its',r',⟨o',n',e',_,_,d'⟩,_⟩:=I.list h';rw[e]at e';cases e';rw[d]at d';injection d' with d1 _
 have:its=its':=by simpa using congrArg Array.toList d1
 subst this;exact r.inj r'
end
noncomputable abbrev Cx.iB (X:Cx)(E:IS->IT->Prop):Cx:={X with xe:=E}
abbrev Cx.vZ (X:Cx):Cx:=X.iB λ_ _=>False
theorem Cx.Ok.iB {X:Cx}(ok:X.Ok)(E:IS->IT->Prop):(X.iB E).Ok :=
 ⟨ok.mod,ok.kind,ok.glob,ok.blt,ok.above,ok.inj,ok.has,ok.BD,ok.hd,ok.frames,ok.BS,ok.Ce,ok.bs,ok.wG,ok.rQ,ok.sX,ok.ia,ok.zu⟩
theorem Cx.Ok.du {X:Cx}{E:IS->IT->Prop}(ok:(X.iB E).Ok):X.Ok :=
 ⟨ok.mod,ok.kind,ok.glob,ok.blt,ok.above,ok.inj,ok.has,ok.BD,ok.hd,ok.frames,ok.BS,ok.Ce,ok.bs,ok.wG,ok.rQ,ok.sX,ok.ia,ok.zu⟩
section
variable {X:Cx}{pins:List (Addr×Obj)}{σ:St}{H:Hp}{s:IT}{E:IS->IT->Prop}
theorem Inv.iB (I:Inv X pins σ H s)(E:IS->IT->Prop):Inv (X.iB E) pins σ H s:=⟨I.ok.iB E,I.os,I.bare,I.base,I.loc,I.cell,I.free,I.d_,I.pin,I.bz,I.len⟩
theorem Inv.du (I:Inv (X.iB E) pins σ H s):Inv X pins σ H s:=⟨I.ok.du,I.os,I.bare,I.base,I.loc,I.cell,I.free,I.d_,I.pin,I.bz,I.len⟩
theorem SP.du {D:Ends}{f:Flow}{s':IT}(h:SP (X.iB E) pins D f s'):SP X pins D f s':=by
 cases f with
 |next=>obtain⟨σ',H',I,q⟩:=h;exact⟨σ',H',I.du,q⟩
 |brk=>obtain⟨σ',H',I,q⟩:=h;exact⟨σ',H',I.du,q⟩
 |cont=>obtain⟨σ',H',I,q⟩:=h;exact⟨σ',H',I.du,q⟩
 |ret u=>obtain⟨v,σ',H',I,r,q⟩:=h;exact⟨v,σ',H',I.du,r,q⟩
theorem l5.vZ {st:List Stmt}{t:TS}(h:l5 X.vZ st t):l5 X st t:=λpins s σ H D I hw =>
 K7 (h pins s σ H D (I.iB _) hw) (λ_ _ q=>q.du) λ_ _ z=>KI z
end
section
variable {X:Cx}{st:Stmt}{rest:List Stmt}{t u:TS}{e:Expr}{te:TE}{pos:Pos}
def zP:TS:=λD σ H=>D.nx σ H
def Ct (t u:TS):TS:=λD σ H=>t {D with nx:=u D} σ H
theorem nR:l5 X [] zP:=λ_ _ σ H _ I h=>Mx ⟨σ,H,I,h⟩
theorem bg (h1:PS X st t)(h2:l5 X rest u):l5 X (st::rest) (Ct t u):=by
 intro pins s σ H D I h;refine wpAny_execs_cons (aZ (h1 pins s σ H {D with nx:=u D} I h) λf s1 q=>?_)
 cases f with
 |next =>
  obtain⟨σ',H',I',q⟩:=q;exact h2 pins s1 σ' H' D I' q
 |ret v=>exact q
 |brk=>exact q
 |cont=>exact q
theorem e7 (h1:PS X st t):l5 X [st] t:=by
 intro pins s σ H D I h;refine wpAny_execs_cons (aZ (h1 pins s σ H D I h) λf s1 q=>?_);cases f with
 |next=>exact Mx q
 |ret v=>exact q
 |brk=>exact q
 |cont=>exact q
theorem Inv.quiet {pins:List (Addr×Obj)}{σ:St}{H:Hp}{s:IT}(I:Inv X pins σ H s):interactive X.env=false:=by simp[interactive,I.ok.kind]
def zQ (te:TE):TS:=λD σ H=>te σ H λ_ H1=>D.nx σ H1
theorem nS (he:PE X e te)(hs:Kw e none pos.line X.env=pure false:=by rfl):PS X (.Expr e pos) (zQ te):=by
 intro pins s σ H D I h;exact wpAny_Expr_any (aZ (he pins s σ H _ I h) λv s1 yy=>by obtain⟨x,H1,I1,r1,q1⟩:=yy;exact⟨σ,H1,I1,q1⟩) I.quiet hs
def Cu (te:TE):TS:=λD σ H=>te σ H D.rt
theorem gP (he:PE X e te):PS X (.Return (some e) pos) (Cu te):=by
 intro pins s σ H D I h;exact wpAny_Return_some (aZ (he pins s σ H _ I h) λv s1 yx=>by obtain⟨x,H1,I1,r1,q1⟩:=yx;exact⟨x,σ,H1,I1,r1,q1⟩)
def CA (c:TT)(t u:TS):TS:=λD σ H=>c σ H λb H1=>if b=true then t D σ H1 else u D σ H1
theorem vV {c:Expr}{a b:List Stmt}{tc:TT}(hc:PT X c tc)(ha:l5 X a t)(hb:l5 X b u):PS X (.If c a b pos) (CA tc t u):=by
 intro pins s σ H D I h;refine wpAny_If (aZ (hc pins s σ H _ I h) λd s1 ⟨H1,I1,q1⟩=>?_);cases d with
 |true=>exact ha pins s1 σ H1 D I1 q1
 |false=>exact hb pins s1 σ H1 D I1 q1
def w6:TS:=λ_ _ _=>False
theorem pA {GG:List Stmt}:l5 X GG w6:=λ_ _ _ _ _ _ h=>h.elim
end
abbrev TG:=V->St->Hp->(St->Hp->Prop)->Prop
abbrev wH:=List V->St->Hp->(St->Hp->Prop)->Prop
def PG (X:Cx)(target:Expr)(t:TG):Prop :=
 ∀(pins:List (Addr×Obj)) (s:IT) (σ:St) (H:Hp) (v:V) (u:IS) (Q:St->Hp->Prop),Inv X pins σ H s->RelV v u->t v σ H Q ->
  Js (model X.prog X.w) X.A (assign target X.env u) (λ_ s'=>∃σ' H',Inv X pins σ' H' s'/\Q σ' H') X.xe s
def wK (X:Cx)(ts:List Expr)(t:wH):Prop :=
 ∀(pins:List (Addr×Obj)) (s:IT) (σ:St) (H:Hp) (vs:List V) (us:List IS) (Q:St->Hp->Prop),Inv X pins σ H s->Vals vs us->t vs σ H Q ->
  Js (model X.prog X.w) X.A (assignInOrder ((Kk ts X.env).map (·.2)) us) (λ_ s'=>∃σ' H',Inv X pins σ' H' s'/\Q σ' H') X.xe s
abbrev zc:=V->V->V->Hp->(Hp->Prop)->Prop
def BK (X:Cx)(t:zc):Prop :=
 ∀(pins:List (Addr×Obj)) (s:IT) (σ:St) (H:Hp) (o i v:V) (ov iv u:IS) (Q:Hp->Prop),Inv X pins σ H s->RelV o ov->RelV i iv->RelV v u->t o i v H Q ->
  Js (model X.prog X.w) X.A (setItem ov iv u) (λ_ s'=>∃H',Inv X pins σ H' s'/\Q H') X.xe s
section
variable {X:Cx}{pos:Pos}
def wx (i:Nat):TG:=λv σ H Q=>Q (σ.set i (some v)) H
theorem uJ {i:Nat}{x:Str}(hN:X.N.Nodup)(hi:X.N[i]?=some x)(hx:Loc X.env.scope x)(hf:X.fn x=true\/X.env.scope.names.lookup x=some .local:=by first|exact .inl rfl|exact .inr rfl|assumption):PG X (.Name x pos) (wx i):=by
 intro pins s σ H v u Q I r h;exact wpAny_assign_Name (km I hN hi hx r (λs' I'=>⟨_,H,I',h⟩) hf)
def yJ:wH:=λvs σ H Q=>vs=[]/\Q σ H
def sO (t:TG)(u:wH):wH:=λvs σ H Q=>∃v r,vs=v::r/\t v σ H λσ' H'=>u r σ' H' Q
theorem uI:wK X [] yJ:=by
 intro pins s σ H vs us Q I r h;obtain⟨e,h⟩:=h;subst e;cases r;exact assignInOrder_nil ⟨σ,H,I,h⟩
theorem rh {e:Expr}{es:List Expr}{t:TG}{u:wH}(h1:PG X e t)(h2:wK X es u)
  (hs:(Kk (e::es) X.env).map (·.2)=assign e X.env::(Kk es X.env).map (·.2):=by rfl):wK X (e::es) (sO t u):=by
 intro pins s σ H vs us Q I r h;obtain⟨v,vr,e1,h⟩:=h;subst e1;cases r with
 |cons r rr =>
  rw[hs];refine assignInOrder_cons (aZ (h1 pins s σ H _ _ _ I r h) λ_ s1 ⟨σ1,H1,I1,q1⟩=>?_);exact h2 pins s1 σ1 H1 _ _ Q I1 rr q1
def EZ (K:PySem.W.Frag)(n:Nat)(t:wH):TG:=λv σ H Q=>∃a xs,v=.ref a/\oS K H a xs/\xs.length=n/\t xs σ H Q
theorem xq {es:List Expr}{k:Nat}{t:wH}{n:Nat}(hc:X.calm=true)(h:wK X es t)
  (hn:(Kk es X.env).length=n:=by rfl) (DP:(Kk es X.env).findIdx? (·.1)=none:=by rfl):PG X (.Tuple es k pos) (EZ X.K n t):=by
 intro pins s σ H v u Q I r hw;obtain⟨a,xs,e1,hq,hl,hw⟩:=hw;subst e1;cases r;obtain⟨its,rv,ht,hz⟩:=I.tuple hq;refine assign_Tuple_tuple (I.ok.hd hc) ht (by simp[hn,<- hl,rv.length]) DP λh' hx=>?_
 have I1:Inv X pins σ H {s with heap:=h'}:=I.kept (t':=s.toks) λb o e=>hx b o (JB (Jf e)) e
 exact h pins _ σ H xs _ Q I1 (by simpa using rv) hw
def E3 (to ti:TE)(t:zc):TG:=λv σ H Q=>to σ H λo H1=>ti σ H1 λi H2=>t o i v H2 λH3=>Q σ H3
theorem mM {o i:Expr}{to ti:TE}{t:zc}(ho:PE X o to)(hi:PE X i ti)(hs:BK X t)
  (ha:∀v,assign (.Subscript o i pos) X.env v=(do
   let ov <- holding [v] (eval o X.env)
   let iv <- holding [v,ov] (eval i X.env)
   MG pos
   holding [v,ov,iv] (setItem ov iv v)
   release [v,ov,iv] []):=by intro _;rfl):PG X (.Subscript o i pos) (E3 to ti t):=by
 intro pins s σ H v u Q I r h;rw[ha];refine IU (Kv (aZ (ho pins s σ H _ I h) λov s1 ⟨x,H1,I1,r1,q1⟩=>?_));refine IU (Kv (aZ (hi pins s1 σ H1 _ I1 q1) λiv s2 ⟨y,H2,I2,r2,q2⟩=>?_));refine IU (K_ (IU (Kv (aZ (hs pins s2 σ H2 x y v ov iv u _ I2 r1 r2 r q2) λ_ s3 ⟨H3,I3,q3⟩=>?_))));exact wpAny_release ⟨σ,H3,I3,q3⟩
def zR (te:TE)(g:TG):TS:=λD σ H=>te σ H λx H1=>g x σ H1 D.nx
theorem jD {tg e:Expr}{te:TE}{g:TG}(he:PE X e te)(hg:PG X tg g)(hs:swapsWithSole [tg] e pos.line X.env=pure false:=by rfl)(hw:swappedStores [tg] e X.env=pure none:=by rfl)
  (h1:(Kk [tg] X.env).map (·.2)=[assign tg X.env]:=by rfl):PS X (.Assign [tg] e pos) (zR te g):=by
 intro pins s σ H D I h;refine wpAny_Assign_stores (aZ (he pins s σ H _ I h) λv s1 ⟨x,H1,I1,r1,q1⟩=>?_) hs hw;rw[h1];exact aZ (hg pins s1 σ H1 x v _ I1 r1 q1) λ_ s2 q=>q
theorem fI {i:Nat}{x:Str}{e:Expr}{te:TE}{pos':Pos}(hN:X.N.Nodup)(hi:X.N[i]?=some x)(hx:Loc X.env.scope x)(he:PE X e te)(hs:Kw e (some (.Name x pos')) pos.line X.env=pure false:=by rfl)(hf:X.fn x=true\/X.env.scope.names.lookup x=some .local:=by first|exact .inl rfl|exact .inr rfl|assumption):
  PS X (.Assign [.Name x pos'] e pos) (zR te (wx i)):=by
 intro pins s σ H D I h;refine wpAny_Assign_Name (aZ (he pins s σ H _ I h) λv s1 ⟨y,H1,I1,r1,q1⟩=>?_) hs;exact km I1 hN hi hx r1 (λs2 I2=>⟨_,H1,I2,q1⟩) hf
end
section
end
structure It where
 go:Nat->Hp->Prop
 BP:Nat->Hp->V->Hp->Prop
 stop:Nat->Hp->Prop
def eL (X:Cx)(pins:List (Addr×Obj))(H:Hp)(b:Addr):Prop :=
 H b=none/\b≠X.env.locals/\b∉X.fs/\(b∈X.ex\/X.s₀.heap.objs.size<=b)/\(∀x c,X.env.cells.lookup x=some c->c≠b)/\∀p∈X.pn++pins,p.1≠b
theorem Inv.yL {X:Cx}{pins:List (Addr×Obj)}{σ:St}{H H':Hp}{s:IT}{b:Addr}(I:Inv X pins σ H s)(hb:s.heap.objs.size<=b)(hn:H' b=none):eL X pins H' b:=by
 refine⟨hn,Nat.ne_of_gt (Jw I.lt hb),I.Dg hb,.inr (JC I.sz hb),λx c e z=>?_,λp hp z=>?_⟩
 ·obtain⟨v,q⟩:=I.cell x c e;exact absurd (Jw q.lt (by rw[z];exact hb)) (La _)
 ·exact absurd (Jw (Jf (I.pin p hp).1) (by rw[z];exact hb)) (La _)
structure Turn (P:IY)(w:Je)(K:PySem.W.Frag)(tg:Expr)(J:It)(fp:List Addr)(it:Addr)(tn:Nat->Heap->Prop):Prop where
 mem:it∈fp
 obj:∀i h,tn i h->∀b∈fp,∃o,h.get? b=some o/\∀v,o.data≠.cell v
 keep:∀i h h',tn i h->(∀b∈fp,∀o,h.get? b=some o->h'.get? b=some o)->tn i h'
 item:∀(X:Cx),X.prog=P->X.w=w->X.K=K->X.calm=true->∀(i:Nat) (pins:List (Addr×Obj)) (s:IT) (σ:St) (H:Hp) (E:IS->IT->Prop),Inv X pins σ H s->(∀b∈fp,eL X pins H b)->tn i s.heap->J.go i H ->
  Js (model P w) X.A (MI (.ref it)) (λr s1=>∃u,r=some u /\
   Js (model P w) X.A (LU tg (.ref it) u) (λ_ s2=>∃x H',Inv X pins σ H' s2/\RelV x u/\J.BP i H x H'/\tn (i+1) s2.heap/\∀b∈fp,H' b=none) E s1) E s
 done:∀(X:Cx),X.prog=P->X.w=w->X.K=K->X.calm=true->∀(i:Nat) (pins:List (Addr×Obj)) (s:IT) (σ:St) (H:Hp) (E:IS->IT->Prop),Inv X pins σ H s->(∀b∈fp,eL X pins H b)->tn i s.heap->J.stop i H ->
  Js (model P w) X.A (MI (.ref it)) (λr s1=>r=none/\Inv X pins σ H s1) E s
 self:∀(A:JQ) (i:Nat) (s:IT) (Q:IS->IT->Prop) (E:IS->IT->Prop),tn i s.heap->Q (.ref it) s->Js (model P w) A (pyIter (.ref it)) Q E s
abbrev TI:=St->Hp->(It->Hp->Prop)->Prop
def Fm (X:Cx)(pins:List (Addr×Obj))(σ:St)(tg:Expr)(R:It->Hp->Prop)(yi:IS)(s2:IT):Prop :=
 ∃(it:Addr) (fp:List Addr) (tn:Nat->Heap->Prop) (J:It) (H':Hp),yi=.ref it/\Inv X pins σ H' s2/\Turn X.prog X.w X.K tg J fp it tn/\tn 0 s2.heap/\(∀b∈fp,eL X pins H' b)/\R J H'
def PI (X:Cx)(tg iter:Expr)(wi:TI):Prop :=
 ∀(pins:List (Addr×Obj)) (s:IT) (σ:St) (H:Hp) (R:It->Hp->Prop),Inv X pins σ H s->wi σ H R ->
  Js (model X.prog X.w) X.A (eval iter X.env) (λv s1=>Js (model X.prog X.w) X.A (pyIter v) (Fm X pins σ tg R) X.xe s1) X.xe s
theorem wt {M:Mv}{A:JQ}{E:IS->IT->Prop}{s:IT}{tg:Expr}{it:Addr}{u:IS}{o:Obj}{n:String}{vs:Array IS}{Q:Unit->IT->Prop}(ho:s.heap.get? it=some o)(hc:o.cls=.type n)(hd:o.data=.fields vs)
  (hn:["enumerate","zip","dict_itemiterator","dict_reverseitemiterator","odict_iterator","itertools.zip_longest","itertools.pairwise"].contains n=false) (hQ:Q () s):Js M A (LU tg (.ref it) u) Q E s:=by
 unfold LU;cases tg <;> first
  |exact Jc hQ
  | (cases u <;> first
    |exact Jc hQ
    | (refine IU (wpAny_load ho ?_)
       rw[hc,hd];show Js M A (if (["enumerate","zip","dict_itemiterator","dict_reverseitemiterator","odict_iterator","itertools.zip_longest","itertools.pairwise"].contains n&&vs[0]?==some (rawInt _))=true then _ else _) Q E s
       rw[if_neg (by intro h;rw[hn,Bool.false_and]at h;cases h)]
       exact Jc hQ))
def Co (K:PySem.W.Frag)(a:Addr):It :=
 ⟨λi H=>∃xs x,cS K H a xs/\xs[i]?=some x,λi H x H'=>H'=H/\∀xs,cS K H a xs->xs[i]?=some x,λi H=>∃xs,cS K H a xs/\xs.length<=i⟩
def Cn (lo:Int)(n:Nat):It:=⟨λi _=>i<n,λi H x H'=>H'=H/\x=.int (lo+i),λi _=>n<=i⟩
theorem oX {P:IY}{w:Je}{K:PySem.W.Frag}{tg:Expr}(a it:Addr):Turn P w K tg (Co K a) [it] it (λi h=>h.IsListIter it a i) where
 mem:=by simp
 obj:=λi h st b hb=>by
  have e:b=it:=by simpa using hb
  subst e;obtain⟨o,e,c,d⟩:=st;exact⟨o,e,λv z=>by rw[d]at z;cases z⟩
 keep:=λi h h' st k=>st.at λo e=>k it (by simp) o e
 item:=by
  intro X hP hw hK hc i pins s σ H E I hf st hg;subst hP hw hK;obtain⟨xs,x,hq,hx⟩:=hg;obtain⟨its,rv,p,hz⟩:=I.list hq;obtain⟨u,hu,ru⟩:=rv.get hx;obtain⟨f0,f1,f2,f3,f4,f5⟩:=hf it (by simp)
  refine wpAny_pyNext_list_item st p.isList (x:=u) (by simpa using hu) λh' aj sb=>?_
  have I1:Inv X pins σ H {s with heap:=h'}:=I.turned (t':=s.toks) (λb o hb e=>(sb.2 b hb).trans e) f0 f1 f3 f4 f5
  obtain⟨o,e,c,d⟩:=id aj;exact⟨u,rfl,wt (s:={s with heap:=h'}) e c d (by decide) ⟨x,H,I1,ru,⟨rfl,λys hy=>by rw[I.rW hy hq];exact hx⟩,aj,λb hb=>(hf b hb).1⟩⟩
 done:=by
  intro X hP hw hK hc i pins s σ H E I hf st hg;subst hP hw hK;obtain⟨xs,hq,hx⟩:=hg;obtain⟨its,rv,p,hz⟩:=I.list hq;obtain⟨f0,f1,f2,f3,f4,f5⟩:=hf it (by simp)
  have hl:=rv.length;exact wpAny_pyNext_list_end (I.ok.hd hc) st p.isList (by simp;lia) λh' eb=>⟨rfl,I.turned (t':=s.toks) (λb o hb e=>eb b o hb e) f0 f1 f3 f4 f5⟩
 self:=λ_ _ _ _ _ st h=>wpAny_pyIter_listiter st h
theorem mx {P:IY}{w:Je}{K:PySem.W.Frag}{tg:Expr}(it:Addr)(lo:Int)(n:Nat):Turn P w K tg (Cn lo n) [it] it (λi h=>IsRangeIter h it (lo+(i:Nat)*1) ((n:Int)-(i:Nat)) 1) where
 mem:=by simp
 obj:=λi h st b hb=>by
  have e:b=it:=by simpa using hb
  subst e;exact⟨_,st,λv z=>by
   have z':Data.fields _=Data.cell v:=z;cases z'⟩
 keep:=λi h h' st k=>k it (by simp) _ st
 item:=by
  intro X hP hw hK hc i pins s σ H E I hf st hg;subst hP hw hK;obtain⟨f0,f1,f2,f3,f4,f5⟩:=hf it (by simp)
  have W:=Walks.range (prog:=X.prog) (w:=X.w) (I.ok.hd hc) it lo 1 n;refine W.item i s _ _ hg st λv h' tk hv aj kk=>?_;obtain⟨t,rfl⟩:=hv;have I1:Inv X pins σ H {s with heap:=h',toks:=tk}:=I.turned (λb o hb e=>kk b o (by simpa using hb) e) f0 f1 f3 f4 f5
  refine⟨_,rfl,wt (s:={s with heap:=h',toks:=tk}) (n:="range_iterator") aj rfl rfl (by decide) ⟨.int (lo+i),H,I1,⟨t,?_⟩,⟨rfl,rfl⟩,aj,λb hb=>(hf b hb).1⟩⟩
  rw[Int.mul_one]
 done:=by
  intro X hP hw hK hc i pins s σ H E I hf st hg;subst hP hw hK;obtain⟨f0,f1,f2,f3,f4,f5⟩:=hf it (by simp)
  exact wpAny_pyNext_range_end (I.ok.hd hc) st (by have:n<=i:=hg;lia) λh' eb=>⟨rfl,I.turned (t':=s.toks) (λb o hb e=>eb b o hb e) f0 f1 f3 f4 f5⟩
 self:=λ_ _ _ _ _ st h=>wpAny_pyIter_rangeiter st h
section
variable {X:Cx}{tg:Expr}
def AJ (K:PySem.W.Frag)(tl:TE):TI:=λσ H R=>tl σ H λx H1=>∃a,x=.ref a/\(∃xs,cS K H1 a xs)/\R (Co K a) H1
theorem nX {l:Expr}{tl:TE}(hl:PE X l tl):PI X tg l (AJ X.K tl):=by
 intro pins s σ H R I h;refine aZ (hl pins s σ H _ I h) λv s1 ⟨x,H1,I1,r1,q1⟩=>?_;obtain⟨a,e,⟨xs,hq⟩,q⟩:=q1;subst e;cases r1;obtain⟨its,rv,p,hz⟩:=I1.list hq;refine wpAny_pyIter_list p.isList ?_;refine⟨s1.heap.objs.size,[s1.heap.objs.size],_,_,H1,rfl,I1.kept (t':=s1.toks) λb o e=>Jb _ e,oX a _,⟨_,JG _ rfl,rfl,rfl⟩,λb hb=>?_,q⟩;have e:b=s1.heap.objs.size:=by simpa using hb
 subst e;exact I1.yL (IZ _) (I1.bz.fresh (IZ _))
theorem qV {pins:List (Addr×Obj)}{σ:St}{H:Hp}{s:IT}{R:It->Hp->Prop}{E:IS->IT->Prop}{lo hi:Int}{t u v:Tok}{tk:Nat}(I:Inv X pins σ H s)(h1:-(2 ^ 62)<=lo)(h2:lo<2 ^ 62)(h3:-(2 ^ 62)<=hi)(h4:hi<2 ^ 62)
  (q:R (Cn lo (hi-lo).toNat) H):Js (model X.prog X.w) X.A (pyIter (.ref s.heap.objs.size)) (Fm X pins σ tg R) E {s with heap:=s.heap.push {cls:=.type "range",data:=.fields #[.int lo t,.int hi u,.int 1 v]},toks:=tk}:=by
 refine wpAny_pyIter_range (IsRange.new ..) (small_one h1 h2 h3 h4) ?_;have I1:Inv X pins σ H {s with heap:=s.heap.push {cls:=.type "range",data:=.fields #[.int lo t,.int hi u,.int 1 v]},toks:=tk}:=I.kept λb o e=>Jb _ e
 refine⟨(s.heap.push {cls:=.type "range",data:=.fields #[.int lo t,.int hi u,.int 1 v]}).objs.size,[(s.heap.push {cls:=.type "range",data:=.fields #[.int lo t,.int hi u,.int 1 v]}).objs.size],_,_,H,rfl,
  I1.kept (t':=tk) λb o e=>Jb _ e,mx _ lo (hi-lo).toNat,?_,λb hb=>?_,q⟩
 ·have e1:lo+((0:Nat):Int)*1=lo:=by simp
  have e2:(((hi-lo).toNat:Nat):Int)-((0:Nat):Int)=Builtin.Range.rangeSize lo hi 1:=by rw[rangeSize_one];split <;> lia
  show IsRangeIter _ _ (lo+((0:Nat):Int)*1) ((((hi-lo).toNat:Nat):Int)-((0:Nat):Int)) 1;rw[e1,e2];exact JG _ rfl
 ·have e:b=(s.heap.push {cls:=.type "range",data:=.fields #[.int lo t,.int hi u,.int 1 v]}).objs.size:=by simpa using hb
  subst e;exact I1.yL (IZ _) (I1.bz.fresh (IZ _))
def AI (ta:TA):TI:=λσ H R=>ta σ H λvs H1=>∃j:Int,vs=[.int j]/\-(2 ^ 62)<=j/\j<2 ^ 62/\R (Cn 0 j.toNat) H1
theorem pC {a:Expr} {ta:TA} {p pos:Pos} (hg:Gl X "range") (hm:X.mg "range" = none) (ha:PA X [a] ta) (hs:Jl [a] X.env=[(false,eval a X.env)]:=by rfl):PI X tg (.Call (.Name "range" p) [a] [] pos) (AI ta):=by
 intro pins s σ H R I h;refine Call_ (mV I hg hm boot_range (MH (aZ (ha pos pins s σ H _ I h) λus s1 ⟨vs,H1,I1,r1,q1⟩=>?_) hs rfl));obtain⟨j,e,q1,q2,q⟩:=q1;subst e;cases r1 with
 |cons r rr =>
  cases rr;obtain⟨t,rfl⟩:=r;exact call_range_1 (qV I1 (by lia) (by lia) q1 q2 (by simpa using q))
def CB (wi:TI)(g:TG)(tb:TS):TS:=λD σ H=>wi σ H λJ H1=>∃W:Nat->Nat->St->Hp->Prop,(∃m,W 0 m σ H1)/\∀i m σ H,W i m σ H ->
 (J.stop i H/\D.nx σ H)\/(J.go i H/\∃N:St->Hp->Prop,(∀σ' H',N σ' H'->∃m',m'<m/\W (i+1) m' σ' H')/\∀x H',J.BP i H x H'->g x σ H' λσ2 H2=>tb {D with nx:=N,ct:=N,bk:=D.nx} σ2 H2)
def gQ (fp:List Addr)(h:Heap):List (Addr×Obj):=fp.filterMap λb=>(h.get? b).map λo=>(b,o)
theorem da {fp:List Addr}{h:Heap}{b:Addr}{o:Obj}(hb:b∈fp)(e:h.get? b=some o):(b,o)∈gQ fp h:=List.mem_filterMap.mpr ⟨b,hb,by rw[e];rfl⟩
theorem pI {fp:List Addr}{h:Heap}{p:Addr×Obj}(hp:p∈gQ fp h):p.1∈fp/\h.get? p.1=some p.2:=by
 obtain⟨b,hb,e⟩:=List.mem_filterMap.mp hp;cases q:h.get? b with
 |none=>rw[q]at e;cases e
 |some o =>
  rw[q]at e;have e':(b,o)=p:=JN e;subst e';exact⟨hb,q⟩
theorem Inv.pinned {pins:List (Addr×Obj)}{σ:St}{H:Hp}{s:IT}{fp:List Addr}(I:Inv X pins σ H s)(hf:∀b∈fp,eL X pins H b)(ho:∀b∈fp,∃o,s.heap.get? b=some o/\∀v,o.data≠.cell v):Inv X (pins++gQ fp s.heap) σ H s :=
 I.nV λp hp=>(Jq.mp hp).elim (λz=>I.pin p (Jx _ z)) λz=>by
  obtain⟨hb,e⟩:=pI z;obtain⟨f0,f1,f2,_⟩:=hf p.1 hb;obtain⟨o,e',d⟩:=ho p.1 hb;rw[e]at e';cases e';exact⟨e,f0,f1,f2,d⟩
theorem Inv.eR {pins pl:List (Addr×Obj)}{σ:St}{H:Hp}{s:IT}(I:Inv X (pins++pl) σ H s):Inv X pins σ H s:=I.nV λp hp=>I.pin p (Jx _ (Kh _ hp))
theorem qZ {iter:Expr}{body:List Stmt}{wi:TI}{g:TG}{tb:TS}{pos:Pos}(hp:PassesOwn (model X.prog X.w) X.A X.env X.xe)(hc:X.calm=true)(hi:PI X tg iter wi)(hg:PG X tg g)(hb:l5 X body tb)
  (hs:∀x,JY iter X.env x=pure x:=by intro _;rfl):PS X (.For tg iter body [] pos) (CB wi g tb):=by
 intro pins s σ H D I h;refine wpAny_For (aZ (hi pins s σ H _ I h) λv s1 h1=>aZ h1 λyi s2 h2=>?_) hs;obtain⟨it,fp,tn,J,H2,e,I2,T,dk,f2,W,⟨m0,w0⟩,turn⟩:=h2;subst e;have mB:∀{H':Hp},(∀b∈fp,H' b=none)->∀b∈fp,eL X pins H' b:=λhn b hb=>⟨hn b hb,(f2 b hb).2⟩;refine codeAny_forLoop_any (λn s'=>∃i σ' H',Inv X pins σ' H' s'/\tn i s'.heap/\(∀b∈fp,H' b=none)/\W i n σ' H') ?_ m0 ⟨0,σ,H2,I2,dk,λb hb=>(f2 b hb).1,w0⟩;rintro n s3 ⟨i,σ3,H3,I3,gK,Bn,w3⟩;rcases turn i n σ3 H3 w3 with⟨stop,qn⟩|⟨go,N,hN,step⟩
 ·refine Lg hp (aZ (T.done X rfl rfl rfl hc i pins s3 σ3 H3 X.xe I3 (mB Bn) gK stop) λr s4 ⟨hr,I4⟩=>?_);subst hr;exact Mx ⟨σ3,H3,I4,qn⟩
 ·refine Lg hp (aZ (T.item X rfl rfl rfl hc i pins s3 σ3 H3 X.xe I3 (mB Bn) gK go) λr s4 ⟨u,hr,h4⟩=>?_);subst hr;refine Lg hp (aZ h4 λ_ s5 ⟨x,H5,I5,r5,y5,w_,E4⟩=>?_);have Fs:=I5.pinned (mB E4) (T.obj _ _ w_);refine Lg hp (aZ (hg _ s5 σ3 H5 x u _ Fs r5 (step x H5 y5)) λ_ s6 ⟨σ6,H6,I6,q6⟩=>?_);refine Lg hp (aZ (hb _ s6 σ6 H6 _ I6 q6) λf s7 q7=>?_);have again:∀{σ7:St} {H7:Hp},Inv X (pins++gQ fp s5.heap) σ7 H7 s7->N σ7 H7->∃m,m<n/\∃i σ' H',Inv X pins σ' H' s7/\tn i s7.heap/\(∀b∈fp,H' b=none)/\W i m σ' H':=λ{σ7 H7} I7 n7=>by
   obtain⟨m',hm,w7⟩:=hN σ7 H7 n7;refine⟨m',hm,i+1,σ7,H7,I7.eR,T.keep _ _ _ w_ λb hb o e=>(I7.pin (b,o) (Jx _ (Jx _ (da hb e)))).1,λb hb=>?_,w7⟩;obtain⟨o,e,d⟩:=T.obj _ _ w_ b hb;exact(I7.pin (b,o) (Jx _ (Jx _ (da hb e)))).2.1
  cases f with
  |next=>obtain⟨σ7,H7,I7,n7⟩:=q7;exact again I7 n7
  |cont=>obtain⟨σ7,H7,I7,n7⟩:=q7;exact again I7 n7
  |brk=>obtain⟨σ7,H7,I7,q7⟩:=q7;exact⟨σ7,H7,I7.eR,q7⟩
  |ret v=>obtain⟨x7,σ7,H7,I7,r7,q7⟩:=q7;exact⟨x7,σ7,H7,I7.eR,r7,q7⟩
end
abbrev R2:=V->V->Hp->VK->Prop
def fy (X:Cx)(f:IS->IS->Sem IS)(r:R2):Prop :=
 ∀(pins:List (Addr×Obj)) (s:IT) (σ:St) (H:Hp) (x y:V) (v u:IS) (Q:VK),Inv X pins σ H s->RelV x v->RelV y u->r x y H Q ->
  Js (model X.prog X.w) X.A (f v u) (EP X pins σ Q) X.xe s
def dM (X:Cx)(f:IS)(r:List V->Hp->VK->Prop):Prop :=
 ∀(pins:List (Addr×Obj)) (s:IT) (σ:St) (H:Hp) (xs:List V) (us:List IS) (Q:VK),Inv X pins σ H s->Vals xs us->r xs H Q ->
  Js (model X.prog X.w) X.A (call f us) (EP X pins σ Q) X.xe s
def zg (r:R2)(ta tb:TE):TE:=λσ H Q=>ta σ H λx H1=>tb σ H1 λy H2=>r x y H2 Q
def rI (C:Int->Int->Prop)(g:Int->Int->V):R2:=λx y H Q=>∃i j,x=.int i/\y=.int j/\C i j/\Q (g i j) H
def tV (g:Int->Int->V):R2:=λx y H Q=>∃i j,x=.int i/\y=.int j/\Q (g i j) H
section
variable {X:Cx}{a b:Expr}{ta tb:TE}{pos:Pos}
theorem y9 (ha:PE X a ta)(hb:PE X b tb){pins:List (Addr×Obj)}{s:IT}{σ:St}{H:Hp}{R:V->V->Hp->Prop}(I:Inv X pins σ H s)
  (h:ta σ H λx H1=>tb σ H1 λy H2=>R x y H2) {Q:IS->IT->Prop} {f:IS->IS->Sem IS}
  (hf:∀v u s2 x y H2,Inv X pins σ H2 s2->RelV x v->RelV y u->R x y H2->Js (model X.prog X.w) X.A (f v u) Q X.xe s2) :
  Js (model X.prog X.w) X.A (eval a X.env) (λv s₁=>Js (model X.prog X.w) X.A (eval b X.env) (λu s₂=>Js (model X.prog X.w) X.A (f v u) Q X.xe s₂) X.xe s₁) X.xe s:=by
 refine aZ (ha pins s σ H _ I h) λv s1 ⟨x,H1,I1,r1,q1⟩=>?_;refine aZ (hb pins s1 σ H1 _ I1 q1) λu s2 ⟨y,H2,I2,r2,q2⟩=>?_;exact hf v u s2 x y H2 I2 r1 r2 q2
theorem bI {op:Operator}{r:R2}(ho:fy X (Ks op) r)(ha:PE X a ta)(hb:PE X b tb):PE X (.BinOp a op b pos) (zg r ta tb):=by
 intro pins s σ H Q I h;exact wpAny_BinOp (y9 ha hb I h λv u s2 x y H2 I2 rx ry q=>ho pins s2 σ H2 x y v u Q I2 rx ry q)
theorem BV {f:IS->IS->Sem IS}{C:Int->Int->Prop}{g:Int->Int->Int}
  (rule:∀(i j:Int) (t u:Tok) (s:IT) (Q:IS->IT->Prop) (E:IS->IT->Prop),C i j->Q (.int (g i j) s.toks) {s with toks:=s.toks+1}->Js (model X.prog X.w) X.A (f (.int i t) (.int j u)) Q E s) :
  fy X f (rI C λi j=>.int (g i j)):=by
 intro pins s σ H x y v u Q I rx ry h;obtain⟨i,j,rfl,rfl,hc,q⟩:=h;obtain⟨t,rfl⟩:=rx;obtain⟨t',rfl⟩:=ry;exact rule i j t t' s _ _ hc ⟨.int (g i j),H,I.tok _,⟨_,rfl⟩,q⟩
theorem Ai {f:IS->IS->Sem IS}{g:Int->Int->Int}
  (rule:∀(i j:Int) (t u:Tok) (s:IT) (Q:IS->IT->Prop) (E:IS->IT->Prop),Q (.int (g i j) s.toks) {s with toks:=s.toks+1}->Js (model X.prog X.w) X.A (f (.int i t) (.int j u)) Q E s) :
  fy X f (tV λi j=>.int (g i j)):=by
 intro pins s σ H x y v u Q I rx ry h;obtain⟨i,j,rfl,rfl,q⟩:=h;obtain⟨t,rfl⟩:=rx;obtain⟨t',rfl⟩:=ry;exact rule i j t t' s _ _ ⟨.int (g i j),H,I.tok _,⟨_,rfl⟩,q⟩
theorem xE {f:IS->IS->Sem IS}{g:Int->Int->Bool}
  (rule:∀(i j:Int) (t u:Tok) (s:IT) (Q:IS->IT->Prop) (E:IS->IT->Prop),Q (.bool (g i j)) s->Js (model X.prog X.w) X.A (f (.int i t) (.int j u)) Q E s) :
  fy X f (tV λi j=>.bl (g i j)):=by
 intro pins s σ H x y v u Q I rx ry h;obtain⟨i,j,rfl,rfl,q⟩:=h;obtain⟨t,rfl⟩:=rx;obtain⟨t',rfl⟩:=ry;exact rule i j t t' s _ _ ⟨.bl (g i j),H,I,rfl,q⟩
def vP (i j:Int):Prop:=0<=j/\j<=1000000/\i.natAbs<2 ^ 64
def l7 (i j:Int):Prop:=(-(2 ^ 64)<i/\i<2 ^ 64)\/(-(2 ^ 64)<j/\j<2 ^ 64)
theorem l7.ok {i j:Int}(h:l7 i j):IntMulOk i j:=by
 rcases h with⟨h1,h2⟩|⟨h1,h2⟩
 ·exact .of_left (intBits_le_64 h1 h2)
 ·exact .of_right (intBits_le_64 h1 h2)
theorem jL:fy X (Ks .Add) (tV λi j=>.int (i+j)):=Ai λ_ _ _ _ _ _ _ q=>add_int q
theorem rF:fy X (Ks .Sub) (tV λi j=>.int (i-j)):=Ai λ_ _ _ _ _ _ _ q=>sub_int q
theorem jI:fy X (Ks .Mult) (rI l7 λi j=>.int (i*j)):=BV λ_ _ _ _ _ _ _ hc q=>mul_int q hc.ok
theorem fM:fy X (Ks .Mod) (rI (λ_ j=>0<j) λi j=>.int (i % j)):=BV λi j _ _ _ _ _ hc q=>by
 have h1:(0:Int)<j:=hc;exact mod_int' (by lia) (by rw[Int.fmod_eq_emod_of_nonneg i (by lia)];exact q)
theorem xB:fy X (Ks .Pow) (rI vP λi j=>.int (i ^ j.toNat)):=BV λ_ _ _ _ _ _ _ hc q=>pow_int_small hc.1 hc.2.1 hc.2.2 q
end
section
variable {X:Cx}{a b c:Expr}{ta tb:TE}{pos:Pos}
theorem sU {pins:List (Addr×Obj)}{σ:St}{H:Hp}{s:IT}{Q:VK}{k k':Bool}(I:Inv X pins σ H s)(q:Q (.bl k) H)(e:k=k'):EP X pins σ Q (.bool k') s:=by
 subst e;exact⟨.bl k,H,I,rfl,q⟩
theorem Ag:fy X (JH .Lt) (tV λi j=>.bl (decide (i<j))):=xE λ_ _ _ _ _ _ _ q=>lt_int q
theorem vX:fy X (JH .LtE) (tV λi j=>.bl (decide (i<=j))):=xE λ_ _ _ _ _ _ _ q=>le_int q
theorem vY:fy X (JH .Gt) (tV λi j=>.bl (decide (j<i))):=xE λ_ _ _ _ _ _ _ q=>gt_int q
theorem xC:fy X (JH .Is) (λx y H Q=>y=.b7/\Q (.bl (decide (x=.b7))) H):=by
 intro pins s σ H x y v u Q I rx ry h;obtain⟨rfl,q⟩:=h;cases ry;refine is_none_gen (sU I q ?_);cases x <;> first
  | (cases rx;rfl)
  | (obtain⟨t,rfl⟩:=rx;rfl)
theorem uR:fy X (JH .IsNot) (λx y H Q=>y=.b7/\Q (.bl (!decide (x=.b7))) H):=by
 intro pins s σ H x y v u Q I rx ry h;obtain⟨rfl,q⟩:=h;cases ry;refine isnot_none_gen (sU I q ?_);cases x <;> first
  | (cases rx;rfl)
  | (obtain⟨t,rfl⟩:=rx;rfl)
theorem xN (b:Expr){op:Ll}(h:op≠.In:=by decide)(h2:op≠.NotIn:=by decide):Kx op b=false:=by
 have e1:(op==CmpOp.In)=false:=by cases op <;> first|rfl|exact absurd rfl h
 have e2:(op==CmpOp.NotIn)=false:=by cases op <;> first|rfl|exact absurd rfl h2
 cases b <;> simp[Kx,e1,e2]
theorem uM {op:Ll}{r:R2}(ho:fy X (JH op) r)(ha:PE X a ta)(hb:PE X b tb)(hm:Kx op b=false):PE X (.Compare a [op] [b] pos) (zg r ta tb):=by
 intro pins s σ H Q I h;exact wpAny_Compare1 (y9 ha hb I h λv u s2 x y H2 I2 rx ry q=>ho pins s2 σ H2 x y v u Q I2 rx ry q) hm
def zM (t:TE):TT:=λσ H Q=>t σ H λx H'=>∃k,x=.bl k/\Q k H'
theorem nQ {op:Ll}{r:R2}(ho:fy X (JH op) r)(ha:PE X a ta)(hb:PE X b tb)(hm:Kx op b=false):PT X (.Compare a [op] [b] pos) (zM (zg r ta tb)):=by
 intro pins s σ H Q I h;refine wpAny_isTrue_Compare1 (aZ (ha pins s σ H _ I h) λv s1 ⟨x,H1,I1,r1,q1⟩=>aZ (hb pins s1 σ H1 _ I1 q1) λu s2 ⟨y,H2,I2,r2,q2⟩ =>
  aZ (ho pins s2 σ H2 x y v u _ I2 r1 r2 q2) λc s3 ⟨z,H3,I3,r3,k,e,q3⟩=>?_) hm
 subst e;cases r3;exact Kf ⟨H3,I3,q3⟩
theorem jP:(Jg:Nat)<2 ^ 63:=by rw[JU];decide
theorem vals1 {x:V}{us:List IS}(r:Vals [x] us):∃u,us=[u]/\RelV x u:=by
 cases r with
 |cons r1 r2=>cases r2;exact⟨_,rfl,r1⟩
theorem vals2 {x y:V}{us:List IS}(r:Vals [x,y] us):∃u w',us=[u,w']/\RelV x u/\RelV y w':=by
 cases r with
 |cons r1 r2 =>
  cases r2 with
  |cons r3 r4=>cases r4;exact⟨_,_,rfl,r1,r3⟩
theorem qd (hc:X.calm=true):dM X (.builtin "max") (λxs H Q=>∃i j,xs=[.int i,.int j]/\Q (.int (if j>i then j else i)) H):=by
 intro pins s σ H xs us Q I r h;obtain⟨i,j,rfl,q⟩:=h;obtain⟨u,w',rfl,⟨t,rfl⟩,⟨t',rfl⟩⟩:=vals2 r;refine max_two_ints (I.ok.hd hc) λh' tk k=>⟨_,H,I.kept k,?_,q⟩
 by_cases hj:j>i
 ·rw[if_pos hj,if_pos hj];exact⟨_,rfl⟩
 ·rw[if_neg hj,if_neg hj];exact⟨_,rfl⟩
theorem qc (hc:X.calm=true):dM X (.builtin "min") (λxs H Q=>∃i j,xs=[.int i,.int j]/\Q (.int (if j<i then j else i)) H):=by
 intro pins s σ H xs us Q I r h;obtain⟨i,j,rfl,q⟩:=h;obtain⟨u,w',rfl,⟨t,rfl⟩,⟨t',rfl⟩⟩:=vals2 r;refine min_two_ints (I.ok.hd hc) λh' tk k=>⟨_,H,I.kept k,?_,q⟩
 by_cases hj:j<i
 ·rw[if_pos hj,if_pos hj];exact⟨_,rfl⟩
 ·rw[if_neg hj,if_neg hj];exact⟨_,rfl⟩
theorem jj:dM X (.type "int") (λxs H Q=>(∃i,xs=[.int i]/\Q (.int i) H)\/∃k,xs=[.bl k]/\Q (.int (if k then 1 else 0)) H):=by
 intro pins s σ H xs us Q I r h;rcases h with⟨i,rfl,q⟩|⟨k,rfl,q⟩
 ·obtain⟨u,rfl,t,rfl⟩:=vals1 r;exact call_int_int ⟨.int i,H,I,⟨_,rfl⟩,q⟩
 ·obtain⟨u,rfl,r1⟩:=vals1 r;cases r1;exact call_int_bool ⟨.int (if k then 1 else 0),H,I.tok _,⟨_,rfl⟩,q⟩
end
section
end
section
end
section
end
section
end
section
end
structure bF (k:Nat)(A:JQ):Prop where
 hd:A.handled=none
 dp:A.depth+3*k+5<recursionLimit
 un:A.units+16*k+200<LV
theorem bF.mono {j k:Nat}{A:JQ}(r:bF k A)(h:j<=k):bF j A:=⟨r.hd,by have:=r.dp;lia,by have:=r.un;lia⟩
theorem bF.deeper {k:Nat}{A:JQ}(r:bF (k+1) A)(env:Env):bF k (A.deeper env) :=
 ⟨r.hd,by have:=r.dp;show A.depth+1+3*k+5<_;lia,by have:=r.un;show A.units+3+16*k+200<_;lia⟩
theorem bF.depth {k:Nat}{A:JQ}(r:bF k A):A.depth<recursionLimit:=by have:=r.dp;lia
theorem bF.units {k:Nat}{A:JQ}(r:bF k A):A.units+64<LV:=by have:=r.un;lia
theorem bF.wX {k:Nat}{A:JQ}(r:bF k A):A.units<LV:=by have:=r.un;lia
def Cy:TA:=λ_ H Q=>Q [] H
def vQ (ta:TE)(tr:TA):TA:=λσ H Q=>ta σ H λx H1=>tr σ H1 λxs H2=>Q (x::xs) H2
section
variable {X:Cx}{e:Expr}{es:List Expr}{te:TE}{t:TA}{pos:Pos}
theorem er:PA X [] Cy:=λ_ _ _ _ H Q I h=>Calls.spliced_nil ⟨[],H,I,.nil,h⟩
theorem bD (ha:PE X e te)(hr:PA X es t)(hs:Jl (e::es) X.env=(false,eval e X.env)::Jl es X.env:=by rfl):PA X (e::es) (vQ te t):=by
 intro pos pins s σ H Q I h;rw[hs];show Js _ _ (spliced ((false,eval e X.env)::Kj pos (Jl es X.env))) _ _ s;refine Lu (aZ (ha pins s σ H _ I h) λu s1 ⟨x,H1,I1,r1,q1⟩=>?_);exact aZ (hr pos pins s1 σ H1 _ I1 q1) λus s2 ⟨xs,H2,I2,r2,q2⟩=>⟨x::xs,H2,I2,.cons r1 r2,q2⟩
def Cs (t:TA):TE:=λσ H Q=>t σ H λxs H1=>xs.length<=Jg/\∀p,H1 p=none->Q (.ref p) (upd H1 p (.tup xs))
def Cz (t:TA):TE:=λσ H Q=>t σ H λxs H1=>xs.length<=Jg/\∀p,H1 p=none->Q (.ref p) (upd H1 p (.lst xs))
theorem xr {x1}(h:PA X es t):PE X (.Tuple es x1 pos) (Cs t):=by
 intro pins s σ H Q I hq;refine wpAny_Tuple_spliced (aZ (h pos pins s σ H _ I hq) λus s1 ⟨xs,H1,I1,r,z,q⟩=>⟨by rw[<- r.length];exact z,?_⟩)
 have hf:H1 s1.heap.objs.size=none:=I1.bz.fresh (IZ _);refine⟨.ref s1.heap.objs.size,upd H1 s1.heap.objs.size (.tup xs),I1.laid (t':=s1.toks) (λb u e=>Jb _ e) (IZ _) ?_,rfl,q _ hf⟩;exact⟨z,us,r,⟨_,JG _ rfl,rfl,_,rfl⟩⟩
theorem mN (h:PA X es t):PE X (.List es pos) (Cz t):=by
 intro pins s σ H Q I hq;refine wpAny_List_spliced (aZ (h pos pins s σ H _ I hq) λus s1 ⟨xs,H1,I1,r,z,q⟩=>⟨by rw[<- r.length];exact z,?_⟩)
 have hf:H1 s1.heap.objs.size=none:=I1.bz.fresh (IZ _);refine⟨.ref s1.heap.objs.size,upd H1 s1.heap.objs.size (.lst xs),I1.laid (t':=s1.toks) (λb u e=>Jb _ e) (IZ _) ?_,rfl,q _ hf⟩;exact⟨z,us,0,r,JG _ rfl⟩
end
abbrev Sp:=List V->Hp->VK->XK->Prop
abbrev tT:=List Env->Hp->IT->XK->IS->IT->Prop
structure vO (P:IY)(w:Je)(K:PySem.W.Frag)(mg:Str->Option IS)(base:Heap)(A:JQ)(outer:List Env)(s:IT)(H:Hp):Prop where
 frames:A.frames=some outer
 mod:Mod K mg base
 bs:∀b o,base.get? b=some o->s.heap.get? b=some o/\H b=none
 wG:base.objs.size<=s.heap.objs.size
 ia:s.heap.FunFrames base outer
 zu:∀b∈sQ outer,H b=none
 bz:eM P w H s.heap
 bare:LS s.gens
def CE (outer:List Env)(P:IY)(w:Je)(H:Hp)(s:IT)(Q:VK)(u:IS)(s':IT):Prop :=
 ∃v H',s'.os=s.os/\LS s'.gens/\Un (sQ outer) [] H H' s.heap s'.heap/\eM P w H' s'.heap/\RelV v u/\Q v H'
def CR (CX:tT)(outer:List Env)(P:IY)(w:Je)(H:Hp)(s:IT)(Q:VK)(E:XK)(r:Result)(s':IT):Prop :=
 match r with
 |.ok (.ret u)=>CE outer P w H s Q u s'
 |.ok _=>False
 |.error e=>CX outer H s E e s'
structure aN (P:IY)(w:Je)(K:PySem.W.Frag)(mg:Str->Option IS)(base:Heap)(CX:tT)(k:Nat)(f:Addr)(fd:JJ)(ps:List Str)(sp:Sp):Prop where
 len:∀vs H Q E,sp vs H Q E->vs.length=ps.length
 run:∀(A:JQ) (outer:List Env) (s:IT) (H:Hp) (args:Args) (us:List IS) (vs:List V) (Q:VK) (E:XK),bF k A->vO P w K mg base A outer s H->BindsTo s fd args (ps.zip us)->Vals vs us->sp vs H Q E ->
  L6 (model P w) A (.call (.ref f) args) (CR CX outer P w H s Q E) s
section
variable {X:Cx}{pins:List (Addr×Obj)}{σ:St}{H:Hp}{s s':IT}
theorem Inv.E9 (I:Inv X pins σ H s):vO X.prog X.w X.K X.mg X.base X.A X.stack s H :=
 ⟨I.ok.frames,I.ok.mod,I.bs,JC I.ok.wG I.sz,I.stack,I.nL,I.bz,I.bare⟩
theorem Inv.after {Q:VK}{u:IS}(I:Inv X pins σ H s)(h:CE X.stack X.prog X.w H s Q u s'):EP X pins σ Q u s':=by
 obtain⟨v,H',os,bare,un,bz,r,q⟩:=h;obtain⟨hh,g,d,t,GZ⟩:=s';obtain rfl:GZ=s.os:=os;exact⟨v,H',I.call (h':=hh) (g':=g) (d':=d) (t':=t) (ch:=[]) un bz bare (λb z=>absurd z (by simp)),r,q⟩
end
def vR (sp:Sp)(wy:List V)(E:XK)(t:TA):TE:=λσ H Q=>t σ H λvs H1=>sp (vs++wy) H1 Q E
def Binds (K:PySem.W.Frag)(fd:JJ)(ps:List Str)(ds:List IS):Prop :=
 ∀(s:IT) (us:List IS),K.In s.heap->(us++ds).length=ps.length->BindsTo s fd ⟨us,[]⟩ (ps.zip (us++ds))
theorem Binds.all {K:PySem.W.Frag}{fd:JJ}{ps:List Str}(h:∀us:List IS,us.length=ps.length->bindArgs fd ⟨us,[]⟩=pure (ps.zip us)):Binds K fd ps []:=λs us _ hl=>by
 rw[Ku]at hl ⊢
 exact .of_eq (h us hl)
def Passes (CX:tT)(X:Cx)(E:XK):Prop:=∀(pins:List (Addr×Obj)) (σ:St) (H:Hp) (s:IT) (e:IS) (s':IT),Inv X pins σ H s->CX X.stack H s E e s'->X.xe e s'
section
variable {X:Cx}{CX:tT}{k:Nat}{f:Addr}{fd:JJ}{ps:List Str}{sp:Sp}{wy:List V}{ds:List IS}{E:XK}{x:Str}{p pos:Pos}{e:Expr}{es:List Expr}{t:TA}
theorem qT {pins:List (Addr×Obj)}{σ:St}{H:Hp}{s:IT}{Q:VK}{us:List IS}{vs:List V}(F:aN X.prog X.w X.K X.mg X.base CX k f fd ps sp)(hr:bF k X.A)(hb:Binds X.K fd ps ds)(hd:Vals wy ds)(hx:Passes CX X E)
  (I:Inv X pins σ H s) (r:Vals vs us) (h:sp (vs++wy) H Q E):Js (model X.prog X.w) X.A (call (.ref f) us) (EP X pins σ Q) X.xe s:=by
 have r2:Vals (vs++wy) (us++ds):=r.append hd;have hl:(us++ds).length=ps.length:=by rw[<- r2.length];exact F.len _ _ _ _ h
 refine wpAny_call (Md (F.run X.A X.stack s H ⟨us,[]⟩ (us++ds) (vs++wy) Q E hr I.E9 (hb s us I.ye hl) r2 h) λr s' hq=>?_);cases r with
 |error e=>exact hx pins σ H s e s' I hq
 |ok fl =>
  cases fl with
  |ret u=>exact I.after hq
  |next=>exact KI hq
  |brk=>exact KI hq
  |cont=>exact KI hq
theorem nY (F:aN X.prog X.w X.K X.mg X.base CX k f fd ps sp)(hr:bF k X.A)(hg:Gl X x)(hm:X.mg x=some (.ref f))(hk:PySem.W.keepIn X.K (.ref f)=true)(hb:Binds X.K fd ps ds)(hd:Vals wy ds)(hx:Passes CX X E)
  (ha:PA X (e::es) t) (hdb:(x==("__debug__" : Str))=false:=by decide) (he:Jl (e::es) X.env=(false,eval e X.env)::Jl es X.env:=by rfl) (hpl:(Kj pos (Jl es X.env)).any (·.1)=false:=by rfl) :
  PE X (.Call (.Name x p) (e::es) [] pos) (vR sp wy E t):=by
 intro pins s σ H Q I h;refine Lp (oi I hg hm ?_ hdb);refine PySem.W.callWith_K (h₀:=X.base) I.ok.mod.B0 hk (aZ (ha pos pins s σ H _ I h) λus s1 ⟨vs,H1,I1,r,q⟩=>⟨I1.ye,?_⟩) he hpl;exact qT F hr hb hd hx I1 r q
end
section
end
structure aH (N P:List Str)(sc:K2):Prop where
 kind:sc.kind=.function
 co:sc.isCoroutine=false
 gen:sc.isGenerator=false
 nd:N.Nodup
 pre:N.take P.length=P
 par:∀x∈P,sc.names.lookup x=some .local\/sc.names.lookup x=some .cell
 xO:∀y∈sc.names,y.2≠.free
theorem mkS{N P:List Str}{sc:K2}(h0:sc.kind=.function:=by rfl)(h1:sc.isCoroutine=false:=by rfl)(h2:sc.isGenerator=false:=by rfl)(h3:N.Nodup:=by decide +kernel)(h4:N.take P.length=P:=by rfl)(h5:∀x∈P,sc.names.lookup x=some .local\/sc.names.lookup x=some .cell:=by decide +kernel)(h6:∀y∈sc.names,y.2≠.free:=by decide +kernel):aH N P sc:=⟨h0,h1,h2,h3,h4,h5,h6⟩
theorem jk {kindOf:Str->Option Lf}{x:Str}:∀{binds:List (Str×IS)} {m:Str->Option IS},(∀v,(x,v)∉binds)->bindL kindOf binds m x=m x
 |[],_,_=>rfl
 | (n,v)::r,m,h=>by
  unfold bindL;rw[jk λw hw=>h w (Ju _ hw)]
  split
  ·have:x≠n:=by rintro rfl;exact h v JA
   simp[this]
  ·rfl
theorem jm {kindOf:Str->Option Lf}{x:Str}:∀{binds:List (Str×IS)} {m:Str->Option IS},(∀v,(x,v)∉binds)->bindC kindOf binds m x=m x
 |[],_,_=>rfl
 | (n,v)::r,m,h=>by
  unfold bindC;rw[jm λw hw=>h w (Ju _ hw)]
  split
  ·rfl
  ·have:x≠n:=by rintro rfl;exact h v JA
   simp[this]
theorem jl {kindOf:Str->Option Lf}{x:Str}{v:IS}:∀{P:List Str} {vs:List IS} {i:Nat} {m:Str->Option IS},P.Nodup->P[i]?=some x->vs[i]?=some v->kindOf x=some .local ->
  bindL kindOf (P.zip vs) m x=some v
 |[],_,_,_,_,h,_,_=>by simp at h
 |_::_,[],_,_,_,_,h,_=>by simp at h
 |p::P,w::vs,0,m,nd,h1,h2,hk=>by
  simp at h1 h2;subst h1;subst h2;show bindL kindOf ((p,w)::P.zip vs) m p=_;unfold bindL;rw[jk λv hv=>(JF.mp nd).1 (LY hv).1,if_pos hk];simp
 |p::P,w::vs,i+1,m,nd,h1,h2,hk=>by
  show bindL kindOf ((p,w)::P.zip vs) m x=_;unfold bindL;exact jl (i:=i) (JF.mp nd).2 (by simpa using h1) (by simpa using h2) hk
theorem jn {kindOf:Str->Option Lf}{x:Str}{v:IS}:∀{P:List Str} {vs:List IS} {i:Nat} {m:Str->Option IS},P.Nodup->P[i]?=some x->vs[i]?=some v->kindOf x≠some .local ->
  bindC kindOf (P.zip vs) m x=some v
 |[],_,_,_,_,h,_,_=>by simp at h
 |_::_,[],_,_,_,_,h,_=>by simp at h
 |p::P,w::vs,0,m,nd,h1,h2,hk=>by
  simp at h1 h2;subst h1;subst h2;show bindC kindOf ((p,w)::P.zip vs) m p=_;unfold bindC;rw[jm λv hv=>(JF.mp nd).1 (LY hv).1,if_neg hk];simp
 |p::P,w::vs,i+1,m,nd,h1,h2,hk=>by
  show bindC kindOf ((p,w)::P.zip vs) m x=_;unfold bindC;exact jn (i:=i) (JF.mp nd).2 (by simpa using h1) (by simpa using h2) hk
def start (N:List Str)(vs:List V):St:=vs.map some++Jz (N.length-vs.length) none
noncomputable def iM (CX:tT)(P:IY)(w:Je)(K:PySem.W.Frag)(mg:Str->Option IS)(base:Heap)(N:List Str)(qual:Str)(scope:K2)(f:Addr)(cd:IS)(A:JQ)(outer:List Env)(s:IT)(H:Hp)(E:XK):Cx where
 prog:=P
 w:=w
 K:=K
 mg:=mg
 base:=base
 A:=A.deeper (LP qual scope s.heap.objs.size f cd)
 N:=N
 s₀:=s
 H₀:=H
 env:=LP qual scope s.heap.objs.size f cd
 outer:=outer
 stack:=LP qual scope s.heap.objs.size f cd::outer
 ex:=[]
 calm:=true
 fn:=λ_=>true
 pn:=[]
 xe:=λe s'=>Js (model P w) (A.deeper (LP qual scope s.heap.objs.size f cd)) (leaving (LP qual scope s.heap.objs.size f cd) e) (λ_ CN=>CX outer H s E e CN) (λe' CN=>CX outer H s E e' CN) s'
theorem lW {sc:K2}{n:Nat}{x:Str}(h:sc.names.lookup x=some .cell):∃c,(cellsFrom n sc.names []).lookup x=some c:=by
 have q:=PySem.W.cellsFrom_some sc.names n [] (.inl h);exact Option.isSome_iff_exists.mp q
theorem pT {CX:tT}{P:IY}{w:Je}{K:PySem.W.Frag}{mg:Str->Option IS}{base:Heap}{N ps:List Str}{qual:Str}{scope:K2}{f:Addr}{cd:IS}{A:JQ}{outer:List Env}{s s1:IT}{H:Hp}{E:XK}{us:List IS}{vs:List V}
  (S:aH N ps scope) (hd:A.handled=none) (e0:vO P w K mg base A outer s H) (hl:vs.length=ps.length) (r:Vals vs us)
  (x:InCallC s s.heap.objs.size (bindL (LP qual scope s.heap.objs.size f cd).kindOf (ps.zip us) λ_=>none) (cellsFrom (s.heap.objs.size+1) scope.names []) (bindC (LP qual scope s.heap.objs.size f cd).kindOf (ps.zip us) λ_=>none) s1) :
  Inv (iM CX P w K mg base N qual scope f cd A outer s H E) [] (start N vs) H s1:=by
 have hpl:ps.length<=N.length:=by have:=congrArg Mw S.pre;rw[J5]at this;lia
 obtain⟨h1,tk,rfl,hk⟩:=x.done;have An:∀b:Addr,b∉(iM CX P w K mg base N qual scope f cd A outer s H E).ex:=λb z=>absurd (show b∈([]:List Addr) from z) (by simp)
 refine⟨⟨e0.mod,S.kind,rfl,rfl,IZ _,λy z c h1 h2=>?_,λy hy=>?_,λy c _ h=>?_,λ_=>hd,Around.frames_deeper e0.frames,.inr ⟨rfl,rfl⟩,λb z=>absurd z (An b),e0.bs,e0.wG,λb _ _=>An b,λb z=>absurd z (An b),e0.ia,e0.zu⟩,
  rfl,e0.bare,Un.kept hk,⟨_,x.toInCall.ns,λi y v h1 h2 h3=>?_⟩,λy c h=>⟨_,x.cell y c h⟩,e0.bz.fresh (IZ _),λy c h=>?_,λp hp=>absurd (show p∈([]:List (Addr×Obj)) from hp) (by simp),e0.bz.kept hk,?_⟩
 ·exact name_of_addr x.apart (PySem.mem_of_lookup h1) (PySem.mem_of_lookup h2)
 ·have hy:scope.names.lookup y=some .cell\/scope.names.lookup y=some .free:=hy;rcases hy with hy|hy
  ·exact lW hy
  ·exact absurd rfl (S.xO _ (PySem.mem_of_lookup hy))
 ·exact Nat.le_of_lt (x.above y c (PySem.mem_of_lookup h))
 ·have hi:i<vs.length:=by
   unfold start at h2
   by_cases hi:i<vs.length
   ·exact hi
   ·rw[J1 (by simpa using hi)]at h2
    rw[List.getElem?_replicate]at h2
    split at h2 <;> cases h2
  have ha:vs[i]?=some v:=by
   unfold start at h2;rw[Kg (by simpa using hi),Jt]at h2
   cases e:vs[i]? with
   |none=>rw[e]at h2;cases h2
   |some a=>rw[e]at h2;cases h2;rfl
  obtain⟨u,hu,rv⟩:=r.get ha;have hp:ps[i]?=some y:=by
   rw[<- S.pre,List.getElem?_take_of_lt (by lia)];exact h1
  have FP:ps.Nodup:=by rw[<- S.pre];exact S.nd.sublist (List.take_sublist _ _)
  refine⟨u,rv,?_⟩;rcases S.par y (JI hp)with k|k
  ·exact .inl ⟨k,jl FP hp hu k⟩
  ·obtain⟨c,e⟩:=lW (n:=s.heap.objs.size+1) k;refine .inr ⟨.inl k,c,e,?_⟩;have q:=x.cell y c e;rw[jn FP hp hu (by show scope.names.lookup y≠_;rw[k];decide)]at q
   exact q
 ·exact e0.bz.fresh (Nat.le_of_lt (x.above y c (PySem.mem_of_lookup h)))
 ·unfold start;show _=N.length;rw[JV,IW,Ka];lia
theorem Bo {CX:tT}{P:IY}{w:Je}{K:PySem.W.Frag}{mg:Str->Option IS}{base:Heap}{k:Nat}{f:Addr}{name qual:Str}{params:Arguments}{body:List Stmt}{scope:K2}{dV kV doc pm cg ct oc:IS}{an od:Option Addr}
  {xA:Array (Option IS)} {N ps:List Str} {sp:Sp} (lk:K.lookup f=some ⟨oc,od,.func (PySem.W.fnOf name qual params body scope dV kV doc pm an cg ct),xA⟩) (qp:PySem.W.codeIn K cg qual=true) (S:aH N ps scope)
  (len:∀vs H Q E,sp vs H Q E->vs.length=ps.length)
  (h_:∀(A:JQ) (outer:List Env) (s:IT) (H:Hp) (vs:List V) (Q:VK) (E:XK),bF k (A.deeper (LP qual scope s.heap.objs.size f cg))->sp vs H Q E ->
   ∃t,l5 (iM CX P w K mg base N qual scope f cg A outer s H E) body t/\t {nx:=λ_ H'=>Q .b7 H',rt:=Q} (start N vs) H) :
  aN P w K mg base CX (k+1) f (PySem.W.fnOf name qual params body scope dV kV doc pm an cg ct) ps sp:=by
 refine⟨len,λA outer s H args us vs Q E hr e0 hb r jS=>?_⟩;have hl:=len _ _ _ _ jS;have KX:K.In s.heap:=e0.mod.B0.keeps λb o e=>(e0.bs b o e).1;have lim:s.heap.NoLimit:=e0.mod.nolimit.keeps λb o e=>(e0.bs b o e).1;have Ba:∀y∈ps.zip us,scope.names.lookup y.1=some .local\/(scope.names.lookup y.1=some .cell/\((cellsFrom (s.heap.objs.size+1) scope.names []).lookup y.1).isSome=true):=λD_ hy=>by
  obtain⟨n,v⟩:=D_;rcases S.par n (LY hy).1 with q|q
  ·exact .inl q
  ·exact .inr ⟨q,PySem.W.cellsFrom_some _ _ _ (.inl q)⟩
 refine codeAny_call_function hr.depth (KX _ _ lk) rfl S.co S.gen rfl (PySem.W.codeRec_of KX qp) (hb _ _ _ _ ?_);refine wpAny_newFunctionEnv_cells S.kind Ba λenv he s1 x=>?_;subst he;refine⟨lim.keeps x.toInCall.keep,codeAny_func ?_⟩;obtain⟨t,ht,hq⟩:=h_ A outer s H vs Q E (hr.deeper _) jS;have I:Inv (iM CX P w K mg base N qual scope f cg A outer s H E) [] (start N vs) H s1:=pT S hr.hd e0 hl r x;refine K7 (ht [] s1 (start N vs) H _ I hq) (λfl s' hs=>?_) λe s' hs=>hs;have fin:∀{σ':St} {H':Hp} {v:V} {u:IS},Inv (iM CX P w K mg base N qual scope f cg A outer s H E) [] σ' H' s'->RelV v u->Q v H'->CE outer P w H s Q u s' :=
  λ{σ' H' v u} J rv q=>⟨v,H',J.os,J.bare,J.base,J.bz,rv,q⟩
 cases fl with
 |ret u =>
  obtain⟨v,σ',H',J,rv,q⟩:=hs;exact fin J rv q
 |next =>
  obtain⟨σ',H',J,q⟩:=hs;exact fin (v:=V.b7) (u:=Value.none) J rfl q
 |brk =>
  obtain⟨_,_,_,q⟩:=hs;exact KI q
 |cont =>
  obtain⟨_,_,_,q⟩:=hs;exact KI q
section
variable {X:Cx}{x:Str}{p pos:Pos}{e:Expr}{es:List Expr}{t:TA}{id T:String}{r:List V->Hp->VK->Prop}
def CC (r:List V->Hp->VK->Prop)(t:TA):TE:=λσ H Q=>t σ H λvs H1=>r vs H1 Q
theorem kQ (hc:dM X (.builtin id) r) (hg:Gl X x) (hm:X.mg x=none) (hv:J6 x=some (.builtin id)) (ha:PA X (e::es) t) (hn:x≠"__name__" := by decide) (hdb:(x==("__debug__" : Str))=false:=by decide)
  (he:Jl (e::es) X.env=(false,eval e X.env)::Jl es X.env:=by rfl) (hpl:(Kj pos (Jl es X.env)).any (·.1)=false:=by rfl):PE X (.Call (.Name x p) (e::es) [] pos) (CC r t):=by
 intro pins s σ H Q I h;refine Lp (mV I hg hm hv ?_ hn hdb);exact PyProof.Rows.callWith_builtin1 (aZ (ha pos pins s σ H _ I h) λus s1 DZ=>by obtain⟨vs,H1,I1,r1,q1⟩:=DZ;exact hc pins s1 σ H1 vs us Q I1 r1 q1) he hpl
theorem pE (hc:dM X (.type T) r) (hg:Gl X x) (hm:X.mg x=none) (hv:J6 x=some (.type T)) (ha:PA X (e::es) t) (hn:x≠"__name__" := by decide) (hdb:(x==("__debug__" : Str))=false:=by decide)
  (he:Jl (e::es) X.env=(false,eval e X.env)::Jl es X.env:=by rfl) (hpl:(Kj pos (Jl es X.env)).any (·.1)=false:=by rfl):PE X (.Call (.Name x p) (e::es) [] pos) (CC r t):=by
 intro pins s σ H Q I h;refine Lp (mV I hg hm hv ?_ hn hdb);exact MH (aZ (ha pos pins s σ H _ I h) λus s1 DY=>by obtain⟨vs,H1,I1,r1,q1⟩:=DY;exact hc pins s1 σ H1 vs us Q I1 r1 q1) he hpl
end
end L2
namespace HT
open PySem PyProof.Rows
def lexLt:List Int->List Int->Bool
 |[],[]=>false
 |[],_::_=>true
 |_::_,[]=>false
 |x::xs,y::ys=>if x=y then lexLt xs ys else decide (x<y)
theorem eC (x y:Int)(xs ys:List Int):lexLt (x::xs) (y::ys)=if x=y then lexLt xs ys else decide (x<y):=rfl
theorem s_ (A:JQ)(s:IT)(a:Int)(t:Tok)(c:Int)(u:Tok):∃e,SeqAt.EqAt A s (.int a t) (.int c u) e/\(e=true↔a=c) :=
 ⟨(a==c),SeqAt.EqAt.int_int a t c u,by simp⟩
section
open PySem.SeqAt
open PySem.AutoSeq1 (wpAny_loadPart')
open PySem.MeetsSeq PySem.MeetsSeq2 PySem.MeetsSeq3
end
section
def j5 (n d:Nat):Option Int->Nat
 |none=>d
 |some v=>if v<0 then (v+(n:Int)).toNat else min v.toNat n
end
end HT
namespace L2
open PySem PySem.Spec PyProof.Rows
abbrev TO:=St->Hp->(Option Int->Hp->Prop)->Prop
def PO (X:Cx)(e:Option Expr)(t:TO):Prop :=
 ∀(pins:List (Addr×Obj)) (s:IT) (σ:St) (H:Hp) (Q:Option Int->Hp->Prop),Inv X pins σ H s->t σ H Q ->
  Js (model X.prog X.w) X.A (evalPart e X.env) (λu s'=>∃o H',Inv X pins σ H' s'/\IsPart u o/\Q o H') X.xe s
def ub:TO:=λ_ H Q=>Q none H
def zN (t:TE):TO:=λσ H Q=>t σ H λx H1=>∃i,x=.int i/\Q (some i) H1
theorem intsAre_of {ns:List Int}:∀{us:List IS},Vals (ns.map V.int) us->Kr us ns:=by
 induction ns with
 |nil=>intro us r;rw[List.map_nil]at r;cases r;exact .nil
 |cons n ns ih =>
  intro us r;rw[Jy]at r;cases r with
  |cons r1 r2 =>
   obtain⟨t,e⟩:=r1;subst e;exact .cons n t (ih r2)
section
variable {X:Cx}{e:Expr}{te:TE}{lo hi:Option Expr}{tl th:TO}{pos p2:Pos}
theorem uH:PO X none ub:=by
 intro pins s σ H Q I h;rw[evalPart_none];exact Jc ⟨none,H,I,.none,h⟩
theorem uG (h:PE X e te):PO X (some e) (zN te):=by
 intro pins s σ H Q I hw;rw[evalPart_some];refine aZ (h pins s σ H _ I hw) λu s1 ⟨x,H1,I1,r1,q1⟩=>?_;obtain⟨i,rfl,q⟩:=q1;obtain⟨t,rfl⟩:=r1;exact⟨some i,H1,I1,.int i t,q⟩
def Gn (X:Cx)(r:V->Option Int->Option Int->Hp->VK->Prop):Prop :=
 ∀(pins:List (Addr×Obj)) (s:IT) (σ:St) (H:Hp) (x:V) (v vl vu:IS) (lo hi:Option Int) (sl:Addr) (Q:VK),Inv X pins σ H s->RelV x v->s.heap.IsSliceOf sl vl vu .none->IsPart vl lo->IsPart vu hi->r x lo hi H Q ->
  ∃T id,typeLookup (.type T) "__getitem__" = pure (some (.builtin id))/\s.TypeIs v T/\Js (model X.prog X.w) X.A (getItem v (.ref sl)) (EP X pins σ Q) X.xe s
def GA (r:V->Option Int->Option Int->Hp->VK->Prop)(te:TE)(tl th:TO):TE:=λσ H Q=>te σ H λx H1=>tl σ H1 λl H2=>th σ H2 λu H3=>r x l u H3 Q
theorem rp {r:V->Option Int->Option Int->Hp->VK->Prop}(hr:Gn X r)(he:PE X e te)(hl:PO X lo tl)(hu:PO X hi th):PE X (.Subscript e (.Slice lo hi none p2) pos) (GA r te tl th):=by
 intro pins s σ H Q I h;refine Subscript_ (aZ (he pins s σ H _ I h) λv s1 ⟨x,H1,I1,r1,q1⟩=>?_);refine wpAny_Slice (aZ (hl pins s1 σ H1 _ I1 q1) λvl s2 ⟨l,H2,I2,pl,q2⟩=>aZ (hu pins s2 σ H2 _ I2 q2) λvu s3 ⟨u,H3,I3,pu,q3⟩=>?_);rw[evalPart_none];refine Jc ?_;have I4:Inv X pins σ H3 {s3 with heap:=s3.heap.push {cls:=.type "slice",data:=.fields #[vl,vu,.none]}}:=I3.kept (t':=s3.toks) λb ob q=>Jb _ q
 obtain⟨T,id,hT,ht,hg⟩:=hr pins {s3 with heap:=s3.heap.push {cls:=.type "slice",data:=.fields #[vl,vu,.none]}} σ H3 x v vl vu l u s3.heap.objs.size Q I4 r1 (Heap.IsSliceOf.new ..) pl pu q3
 show Js (model X.prog X.w) X.A (subscriptTail e (.Slice lo hi none p2) v (.ref s3.heap.objs.size)) (EP X pins σ Q) X.xe {s3 with heap:=s3.heap.push {cls:=.type "slice",data:=.fields #[vl,vu,.none]}}
 exact tail_any (ops:=[.ref s3.heap.objs.size,v]) ht hT hg (by with_unfolding_all rfl)
def qa (xs:List V)(lo hi:Option Int):List V:=(xs.drop (HT.j5 xs.length 0 lo)).take (HT.j5 xs.length xs.length hi-HT.j5 xs.length 0 lo)
theorem lU (xs:List V)(lo hi:Option Int):(qa xs lo hi).length<=xs.length:=by
 unfold qa;rw[J5,List.length_drop];lia
end
def mY (n:Nat)(i:Int):Option Nat:=if 0<=i then (if i<n then some i.toNat else none) else if -(n:Int)<=i then some (i+n).toNat else none
def ml {α:Type}(xs:List α)(i:Int):Option α:=(mY xs.length i).bind λj=>xs[j]?
theorem om {n:Nat}{i:Int}{j:Nat}(h:mY n i=some j):Ms i n=some j/\j<n/\-(n:Int)<=i/\i<n:=by
 unfold mY at h
 by_cases h0:0<=i
 ·rw[if_pos h0]at h
  by_cases h1:i<n
  ·rw[if_pos h1]at h;have e:i.toNat=j:=JN h;exact⟨by rw[seqIndex_of h0 h1,e],by lia,by lia,h1⟩
  ·rw[if_neg h1]at h;cases h
 ·rw[if_neg h0]at h
  by_cases h1:-(n:Int)<=i
  ·rw[if_pos h1]at h;have e:(i+n).toNat=j:=JN h;exact⟨by rw[seqIndex_neg (by lia) h1,e],by lia,h1,by lia⟩
  ·rw[if_neg h1]at h;cases h
theorem oP {α:Type}{xs:List α}{i:Int}{v:α}(h:ml xs i=some v):∃j,Ms i xs.length=some j/\xs[j]?=some v/\j<xs.length/\-(xs.length:Int)<=i/\i<xs.length:=by
 unfold ml at h;cases e:mY xs.length i with
 |none=>rw[e]at h;cases h
 |some j =>
  rw[e]at h;obtain⟨h1,h2,h3,h4⟩:=om e;exact⟨j,h1,h,h2,h3,h4⟩
def gE (b:Expr):Prop:=∀o i,subscripted b false o i=operate [o,i] (getItem o i)
def ze (X:Cx)(r:R2):Prop :=
 ∀(value slice:Expr) (pins:List (Addr×Obj)) (s:IT) (σ:St) (H:Hp) (x y:V) (v u:IS) (Q:VK),Inv X pins σ H s->RelV x v->RelV y u->r x y H Q ->
  subscripted slice false v u=operate [v,u] (getItem v u)->Js (model X.prog X.w) X.A (subscriptTail value slice v u) (EP X pins σ Q) X.xe s
def Fp (X:Cx)(id:String)(r:V->List V->Hp->VK->Prop):Prop :=
 ∀(pins:List (Addr×Obj)) (s:IT) (σ:St) (H:Hp) (x:V) (xs:List V) (v:IS) (us:List IS) (Q:VK),Inv X pins σ H s->RelV x v->Vals xs us->r x xs H Q ->
  Js (model X.prog X.w) X.A (call (.builtin id) (v::us)) (EP X pins σ Q) X.xe s
section
variable {X:Cx}{a b:Expr}{ta tb:TE}{pos:Pos}
theorem gS {r:R2}(hr:ze X r)(ha:PE X a ta)(hb:PE X b tb)(hs:gE b):PE X (.Subscript a b pos) (zg r ta tb):=by
 intro pins s σ H Q I h;exact Subscript_ (y9 ha hb I h λv u s2 x y H2 I2 rx ry q=>hr a b pins s2 σ H2 x y v u Q I2 rx ry q (hs _ _))
def CT (K:PySem.W.Frag):R2:=λx y H Q=>∃p xs i v,x=.ref p/\y=.int i/\cS K H p xs/\ml xs i=some v/\Q v H
def CS (K:PySem.W.Frag):R2:=λx y H Q=>∃p xs i v,x=.ref p/\y=.int i/\oS K H p xs/\ml xs i=some v/\Q v H
theorem de:ze X (CT X.K):=by
 intro value slice pins s σ H x y v u Q I rx ry h hs;obtain⟨p,xs,i,z,rfl,rfl,hq,he,q⟩:=h;cases rx;obtain⟨t,rfl⟩:=ry;obtain⟨its,r,pl,hz⟩:=I.list hq;obtain⟨j,h1,h2,h3,h4,h5⟩:=oP he;obtain⟨w,ew,zW⟩:=r.get h2;have hl:=r.length;have hn:=jP;have fin:EP X pins σ Q w s:=⟨z,H,I,zW,q⟩
 by_cases h0:0<=i
 ·have hj:i.toNat=j:=by
   rw[seqIndex_of h0 h5]at h1;exact JN h1
  exact item_listR pl.isList h0 (by lia) (by rw[hj];simpa using ew) fin hs
 ·have hj:(i+(its.toArray.size:Int)).toNat=j:=by
   rw[seqIndex_neg (by lia) h4]at h1
   rw[Ji,<- hl];exact JN h1
  exact subscriptTail_builtinR (x:=w) pl.isList.typeIs slot_list_getitem.lookup
   (wpAny_getItem_list_neg (Q:=λr s'=>r=w/\EP X pins σ Q r s') pl.isList (by lia) (by rw[Ji] <;> lia) (by lia) (by rw[hj];simpa using ew) ⟨rfl,fin⟩) hs
theorem yf:ze X (CS X.K):=by
 intro value slice pins s σ H x y v u Q I rx ry h hs;obtain⟨p,xs,i,z,rfl,rfl,hq,he,q⟩:=h;cases rx;obtain⟨t,rfl⟩:=ry;obtain⟨its,r,pl,hz⟩:=I.tuple hq;obtain⟨j,h1,h2,h3,h4,h5⟩:=oP he;obtain⟨w,ew,zW⟩:=r.get h2;have hl:=r.length;have hn:=jP;have fin:EP X pins σ Q w s:=⟨z,H,I,zW,q⟩;exact subscriptTail_builtinR (x:=w) pl.typeIs slot_tuple_getitem.lookup
  (getItem_tuple (j:=j) (Q:=λr s'=>r=w/\EP X pins σ Q r s') pl (by lia) (by lia) (by rw[Ji,<- hl];exact h1) (by simpa using ew) ⟨rfl,fin⟩) hs
theorem mR (its:List IS)(n j:Nat)(u:IS):KH (·.setIfInBounds j u) {cls:=.type "list",data:=.seq its.toArray n}={cls:=.type "list",data:=.seq (its.set j u).toArray n}:=by
 simp[KH]
theorem Inv.lst {pins:List (Addr×Obj)}{σ:St}{H:Hp}{s:IT}{p:Addr}{xs:List V}(I:Inv X pins σ H s)(h:H p=some (.lst xs)):
  ∃(its:List IS) (n:Nat),Vals xs its/\s.heap.get? p=some {cls:=.type "list",data:=.seq its.toArray n}/\xs.length<=Jg:=by
 obtain⟨z,its,n,r,e⟩:=I.bz p _ h;exact⟨its,n,r,e,z⟩
theorem Inv.xV {pins:List (Addr×Obj)}{σ:St}{H:Hp}{s:IT}{p:Addr}{xs ys:List V}{its its':List IS}{n n':Nat}{f:Obj->Obj}(I:Inv X pins σ H s)(h:H p=some (.lst xs))
  (ho:s.heap.get? p=some {cls:=.type "list",data:=.seq its.toArray n}) (hf:f {cls:=.type "list",data:=.seq its.toArray n}={cls:=.type "list",data:=.seq its'.toArray n'}) (r:Vals ys its') (hz:ys.length<=Jg) (t:Nat) :
  Inv X pins σ (upd H p (.lst ys)) {s with heap:=s.heap.update p f,toks:=t}:=by
 have e:(s.heap.update p f).get? p=some {cls:=.type "list",data:=.seq its'.toArray n'}:=by
  rw[Heap.get?_update_self f ho (by rw[hf] <;> rfl),hf]
 refine I.write (x:=p) (e:=p) (by rw[h];trivial) (.inl rfl) (λb u hb q=>(Heap.get?_update_other _ _ (Lm hb)).trans q) ⟨_,e⟩ ?_
 exact⟨hz,its',n',r,e⟩
def zY:V->V->V->Hp->(Hp->Prop)->Prop:=λo i v H Q=>∃p xs k j,o=.ref p/\i=.int k/\H p=some (.lst xs)/\mY xs.length k=some j/\Q (upd H p (.lst (xs.set j v)))
theorem set_list:BK X zY:=by
 intro pins s σ H o i v ov iv u Q I ro ri rv h;obtain⟨p,xs,k,j,rfl,rfl,hp,hj,q⟩:=h;cases ro;obtain⟨t,rfl⟩:=ri;obtain⟨its,n,r,ho,hz⟩:=I.lst hp;obtain⟨h1,h2,h3,h4⟩:=om hj;have hl:=r.length;have hn:=jP;have I':Inv X pins σ (upd H p (.lst (xs.set j v))) {s with heap:=s.heap.update p (KH (·.setIfInBounds j u))} :=
  I.xV hp ho (mR its n j u) (r.set rv j) (by rw[List.length_set];exact hz) s.toks
 by_cases h0:0<=k
 ·have hk:k.toNat=j:=by
   rw[seqIndex_of h0 h4]at h1;exact JN h1
  exact PySem.W.ki_setAt ho h0 (by lia) (by rw[Ji,<- hl];exact h4) (by rw[hk];exact⟨_,I',q⟩)
 ·have hk:(k+(its.toArray.size:Int)).toNat=j:=by
   rw[seqIndex_neg (by lia) h3]at h1
   rw[Ji,<- hl];exact JN h1
  exact PySem.W.ki_setBack ho (by lia) (by rw[Ji,<- hl];exact h3) (by lia) (by rw[hk];exact⟨_,I',q⟩)
theorem jz (lo hi:Option Int)(n:Nat):(Lc lo hi none n).1=((HT.j5 n 0 lo:Nat):Int)/\(Lc lo hi none n).2.1=((HT.j5 n n hi:Nat):Int)/\(Lc lo hi none n).2.2=1:=by
 refine⟨?_,?_,rfl⟩
 ·cases lo with
  |none=>simp[Lc,HT.j5]
  |some i =>
   simp only[Lc,HT.j5,Option.getD_none,show (1:Int)>0 by decide,if_true]
   by_cases h:i<0
   ·simp only[h,if_true] <;> lia
   ·simp only[h,if_false] <;> lia
 ·cases hi with
  |none=>simp[Lc,HT.j5]
  |some i =>
   simp only[Lc,HT.j5,Option.getD_none,show (1:Int)>0 by decide,if_true]
   by_cases h:i<0
   ·simp only[h,if_true] <;> lia
   ·simp only[h,if_false] <;> lia
theorem iE (its:List IS)(lo hi:Option Int):slicePick its.toArray lo hi none=((its.drop (HT.j5 its.length 0 lo)).take (HT.j5 its.length its.length hi-HT.j5 its.length 0 lo)).toArray:=by
 obtain⟨h1,h2,h3⟩:=jz lo hi its.toArray.size;unfold slicePick;rw[h1,h2,h3];simp only[sliceRange_one,pick_run,Ji] <;> rfl
def CP (K:PySem.W.Frag):V->Option Int->Option Int->Hp->VK->Prop:=λx lo hi H Q=>∃a xs,x=.ref a/\cS K H a xs/\∀p,H p=none->Q (.ref p) (upd H p (.lst (qa xs lo hi)))
theorem ug:Gn X (CP X.K):=by
 intro pins s σ H x v vl vu lo hi sl Q I rx hs pl pu h;obtain⟨a,xs,rfl,hx,q⟩:=h;cases rx;obtain⟨its,r,ht,hz⟩:=I.list hx;have hlen:=r.length;refine⟨"list",_,slot_list_getitem.lookup,ht.isList.typeIs,?_⟩;refine wpAny_getItem_list_slice ht.isList hs pl pu .none (by simp) ?_ (by rw[Ji] <;> lia)
 rw[iE,<- hlen];refine⟨.ref s.heap.objs.size,_,I.laid (t':=s.toks) (o:=.lst (qa xs lo hi)) (λb ob q=>Jb _ q) (IZ _) ?_,rfl,q _ (I.bz.fresh (IZ _))⟩;exact⟨JC (lU xs lo hi) hz,_,0,(r.drop (HT.j5 xs.length 0 lo)).take (HT.j5 xs.length xs.length hi-HT.j5 xs.length 0 lo),JG _ rfl⟩
theorem fv:dM X (.builtin "len") (λxs H Q=>∃p ys,xs=[.ref p]/\(cS X.K H p ys\/oS X.K H p ys)/\Q (.int ys.length) H):=by
 intro pins s σ H xs us Q I r h;obtain⟨p,ys,rfl,hq,q⟩:=h;obtain⟨u,rfl,rx⟩:=vals1 r;cases rx;have hn:=jP;rcases hq with hq|hq
 ·obtain⟨its,r',pl,hz⟩:=I.list hq;have hlen:=r'.length;exact Calls.call_len_list pl.isList (by simp only[Ji] <;> lia) ⟨.int ys.length,H,I.tok _,⟨s.toks+1,by rw[Ji,hlen]⟩,q⟩
 ·obtain⟨its,r',pl,hz⟩:=I.tuple hq;have hlen:=r'.length;exact len_tuple pl (by simp only[Ji] <;> lia) ⟨.int ys.length,H,I.tok _,⟨s.toks+1,by rw[Ji,hlen]⟩,q⟩
theorem fu:dM X (.type "list") (λxs H Q=>∃p ys,xs=[.ref p]/\(cS X.K H p ys\/oS X.K H p ys)/\∀l,H l=none->Q (.ref l) (upd H l (.lst ys))):=by
 intro pins s σ H xs us Q I r h;obtain⟨p,ys,rfl,hq,q⟩:=h;obtain⟨u,rfl,rx⟩:=vals1 r;cases rx;have fin:∀(its:List IS),Vals ys its->ys.length<=Jg->∀(h':Heap) (c':Nat),(∀b o',s.heap.get? b=some o'->h'.get? b=some o') ->
   h'.get? s.heap.objs.size=some {cls:=.type "list",dict:=none,data:=.seq its.toArray c',slots:=#[]}->EP X pins σ Q (.ref s.heap.objs.size) {s with heap:=h'}:=λits r' hz h' c' kp e =>
  ⟨.ref s.heap.objs.size,_,I.laid (t':=s.toks) kp (IZ _) (show a6 X.prog X.w _ h' _ (.lst ys) from ⟨hz,its,c',r',e⟩),rfl,q _ (I.bz.fresh (IZ _))⟩
 rcases hq with hq|hq
 ·obtain⟨its,r',pl,hz⟩:=I.list hq;have hlen:=r'.length;obtain⟨o,ho,hc,n,hd⟩:=pl.isList;exact call_list_seq p (.inl rfl) ho hc hd (λh' c' kp e=>fin its r' hz h' c' kp e) (by simp only[Ji] <;> lia)
 ·obtain⟨its,r',pl,hz⟩:=I.tuple hq;have hlen:=r'.length;obtain⟨o,ho,hc,n,hd⟩:=pl;exact call_list_seq p (.inr rfl) ho hc hd (λh' c' kp e=>fin its r' hz h' c' kp e) (by simp only[Ji] <;> lia)
def Cr (K:PySem.W.Frag)(T:String)(x:V)(H:Hp):Prop:=match x with
 |.str _=>T="str"
 |.int _=>T="int"
 |.ref p=>(T="list" /\ ∃xs,cS K H p xs)\/(T="tuple" /\ ∃o,K.lookup p=some o/\o.cls=.type "tuple" /\ o.dict=none) \/
   (T="dict" /\ ((∃aM,H p=some (.dK aM))\/∃aM,H p=some (.dT aM)))\/(T="set" /\ ∃S n,H p=some (.set S n))
 |_=>False
theorem qF {pins:List (Addr×Obj)}{σ:St}{H:Hp}{s:IT}{T:String}{x:V}{v:IS}(I:Inv X pins σ H s)(r:RelV x v)(ty:Cr X.K T x H):
  s.TypeIs v T/\∀a,v=.ref a->∃ob,s.heap.get? a=some ob/\ob.dict=none:=by
 cases x with
 |str z =>
  obtain⟨t,rfl⟩:=r;cases (show T="str" from ty)
  exact⟨typeIs_str s z t,λ_ e=>nomatch e⟩
 |int i =>
  obtain⟨t,rfl⟩:=r;cases (show T="int" from ty)
  exact⟨typeIs_int s i t,λ_ e=>nomatch e⟩
 |ref p =>
  cases r;rcases ty with⟨rfl,xs,hq⟩|⟨rfl,o,hk,hc,hd⟩|⟨rfl,hk⟩|⟨rfl,S,n,hk⟩
  ·obtain⟨its,_,pl,_⟩:=I.list hq;refine⟨pl.isList.typeIs,λa e=>?_⟩;cases e;obtain⟨o,n,e,c,hd,_⟩:=pl;exact⟨o,e,hd⟩
  ·refine⟨⟨o,I.ye p o hk,hc⟩,λa e=>?_⟩;cases e;exact⟨o,I.ye _ o hk,hd⟩
  ·have z:∃o,s.heap.get? p=some o/\o.ExactDict:=by
    rcases hk with⟨aM,hk⟩|⟨aM,hk⟩
    ·obtain⟨_,_,_,_,o,_,_,e,ex,_⟩:=I.bz p _ hk;exact⟨o,e,ex⟩
    ·obtain⟨_,_,_,_,o,_,_,e,ex,_⟩:=I.bz p _ hk;exact⟨o,e,ex⟩
   obtain⟨o,e,ex⟩:=z;refine⟨⟨o,e,ex.1⟩,λa e2=>?_⟩;cases e2;exact⟨o,e,ex.2.1⟩
  ·obtain⟨o,_,_,_,e,ex,_⟩:=I.bz p _ hk;refine⟨⟨o,e,ex.1⟩,λa e2=>?_⟩;cases e2;exact⟨o,e,ex.2.1⟩
 |_=>exact KI ty
def CD (K:PySem.W.Frag)(T:String)(r:V->List V->Hp->VK->Prop)(to:TE):TE:=λσ H Q=>to σ H λx H1=>Cr K T x H1/\r x [] H1 Q
def GC (K:PySem.W.Frag)(T:String)(r:V->List V->Hp->VK->Prop)(to:TE)(t:TA):TE:=λσ H Q=>to σ H λx H1=>Cr K T x H1/\t σ H1 λxs H2=>r x xs H2 Q
variable {o e:Expr}{es:List Expr}{to:TE}{t:TA}{name:Str}{apos cpos:Pos}{T id:String}{r:V->List V->Hp->VK->Prop}
theorem xw (pa:PlainAttrs T) (slot:Slot T name id) (DL:typeOf (.builtin id)=pure (.type "method_descriptor")) (hm:Fp X id r) (ho:PE X o to)
  (cA:Ky o name X.env (eval o X.env)=eval o X.env:=by rfl) (cz:(apos.endLine==cpos.line)=true:=by rfl):PE X (.Call (.Attribute o name apos) [] [] cpos) (CD X.K T r to):=by
 intro pins s σ H Q I h;refine wpAny_Call_method0_late cA cz (aZ (ho pins s σ H _ I h) λv s1 ⟨x,H1,I1,r1,ty,q1⟩=>?_);obtain⟨h1,h2⟩:=qF I1 r1 ty;exact⟨T,id,pa,slot,DL,h1,h2,LR rfl (PySem.evalArgs_none (hm pins s1 σ H1 x [] v [] Q I1 r1 .nil q1))⟩
theorem rB (pa:PlainAttrs T) (slot:Slot T name id) (DL:typeOf (.builtin id)=pure (.type "method_descriptor")) (hm:Fp X id r) (ho:PE X o to) (ha:PA X (e::es) t)
  (cA:Ky o name X.env (eval o X.env)=eval o X.env:=by rfl)
  (h9:((Kj cpos (Jl (e::es) X.env)).all (λx=>!x.1)&&(Mf cpos (LB [] X.env)).all (λx=>x.1.isSome)
   && decide ((e::es).length+([]:List Lb).length+(if ([]:List Lb).isEmpty then 0 else 1)<30))=true:=by rfl)
  (cz:(apos.endLine==cpos.line)=true:=by rfl) (hs:Jl (e::es) X.env=(false,eval e X.env)::Jl es X.env:=by rfl) (hZ:(Kj cpos (Jl es X.env)).any (·.1)=false:=by rfl) :
  PE X (.Call (.Attribute o name apos) (e::es) [] cpos) (GC X.K T r to t):=by
 intro pins s σ H Q I h;refine wpAny_Call_method_late cA h9 cz rfl (aZ (ho pins s σ H _ I h) λv s1 ⟨x,H1,I1,r1,ty,q1⟩=>?_);obtain⟨h1,h2⟩:=qF I1 r1 ty;refine⟨T,id,pa,slot,DL,h1,h2,?_⟩;have hA:=ha cpos pins s1 σ H1 _ I1 q1;rw[hs]at hA ⊢
 refine LR (by show (false || (Kj cpos (Jl es X.env)).any (·.1))=false;rw[hZ] <;> rfl) (Calls.evalArgs_plain ?_)
 exact aZ hA λus s2 ⟨vs,H2,I2,r2,q2⟩=>hm pins s2 σ H2 x vs v us Q I2 r1 r2 q2
end
def Fq (X:Cx)(id:String)(r:V->List V->Hp->VK->Prop):Prop :=
 ∀(pins:List (Addr×Obj)) (s:IT) (σ:St) (H:Hp) (x:V) (xs:List V) (v:IS) (us:List IS) (Q:VK),Inv X pins σ H s->RelV x v->Vals xs us->r x xs H Q ->
  Js (model X.prog X.w) X.A (call (.builtin id) (v::us)) (EP X pins σ Q) X.xe s
theorem Vals.one:∀{x:V} {us:List IS},Vals [x] us->∃u,us=[u]/\RelV x u
 |_,_,.cons r .nil=>⟨_,rfl,r⟩
theorem Vals.zero:∀{us:List IS},Vals [] us->us=[]
 |_,.nil=>rfl
theorem Vals.dropLast {xs:List V}{us:List IS}(h:Vals xs us):Vals xs.dropLast us.dropLast:=by
 induction h with
 |nil=>exact .nil
 |cons r t ih =>
  cases t with
  |nil=>exact .nil
  |cons q t'=>exact .cons r ih
theorem Vals.eraseIdx:∀{xs:List V} {us:List IS} (i:Nat),Vals xs us->Vals (xs.eraseIdx i) (us.eraseIdx i)
 |_,_,_,.nil=>.nil
 |_,_,0,.cons _ t=>t
 |_,_,i+1,.cons r t=>.cons r (Vals.eraseIdx i t)
theorem ng {α:Type}(l:List α):l.eraseIdx (l.length-1)=l.dropLast:=by
 induction l with
 |nil=>rfl
 |cons a r ih =>
  cases r with
  |nil=>rfl
  |cons b r =>
   have e:(a::b::r).length-1=((b::r).length-1)+1:=by
    have h1:(a::b::r).length=r.length+2:=rfl;have h2:(b::r).length=r.length+1:=rfl;lia
   rw[e,List.eraseIdx_cons_succ,ih]
   all_goals rfl
theorem i6 {α:Type}:∀(l:List α) (i:Nat),(l.eraseIdx i).length<=l.length
 |[],_=>IZ _
 |_::_,0=>L3 _
 |_::r,i+1=>Nat.succ_le_succ (i6 r i)
section
variable {X:Cx}{pins:List (Addr×Obj)}{σ:St}{H:Hp}{s:IT}{l:Addr}{xs ys:List V}
theorem Inv.xY {its its':List IS}{n:Nat}{f:Array IS->Array IS}{t':Nat}(I:Inv X pins σ H s)(hH:H l=some (.lst xs))
  (e:s.heap.get? l=some {cls:=.type "list",data:=.seq its.toArray n}) (hf:f its.toArray=its'.toArray) (hv:Vals ys its') (hz:ys.length<=Jg) :
  Inv X pins σ (upd H l (.lst ys)) {s with heap:=s.heap.update l (KH f),toks:=t'}:=by
 have q:=PySem.IsL.update e f;rw[hf]at q;refine I.write (x:=l) (e:=l) (by rw[hH];exact trivial) (.inl rfl) (λb' u hb hu=>(Heap.get?_update_other s.heap (KH f) (Lm hb)).trans hu) ⟨_,q⟩ ?_
 exact⟨hz,its',_,hv,q⟩
theorem Inv.AD {its:List IS}{t':Nat}(I:Inv X pins σ H s)(hv:Vals ys its)(hz:ys.length<=Jg):
  Inv X pins σ (upd H s.heap.objs.size (.lst ys)) {s with heap:=s.heap.push {cls:=.type "list",data:=.seq its.toArray},toks:=t'} :=
 I.laid (λ_ _ q=>Jb _ q) (IZ _) ⟨hz,its,0,hv,JG _ rfl⟩
theorem Inv.fresh (I:Inv X pins σ H s):H s.heap.objs.size=none:=I.bz.fresh (IZ _)
theorem Inv.rU (I:Inv X pins σ H s)(hH:H l=some (.lst xs)):xs.length<=Jg/\∃(its:List IS) (n:Nat),Vals xs its/\xs.length=its.length/\s.heap.get? l=some {cls:=.type "list",data:=.seq its.toArray n}:=by
 obtain⟨z,its,n,r,e⟩:=I.bz l _ hH;exact⟨z,its,n,r,r.length,e⟩
end
section
variable {X:Cx}
def uv:V->List V->Hp->VK->Prop:=λx vs H Q=>∃l xs y,x=.ref l/\vs=[y]/\H l=some (.lst xs)/\xs.length<Jg/\Q .b7 (upd H l (.lst (xs++[y])))
theorem i3:Fq X "list.append" uv:=by
 intro pins s σ H x vs v us Q I rx rv h;obtain⟨l,xs,y,rfl,rfl,hH,hz,q⟩:=h;cases rx;obtain⟨u,rfl,ru⟩:=rv.one;obtain⟨z,its,n,r,hl,e⟩:=I.rU hH;refine MJ F.slot_list_append ⟨_,e,rfl⟩ F.entry_list_append (F.args_list_append_2 _ _) (PySem.list_append l its.toArray n u (by rw[Ji];lia)) ⟨e,?_⟩
 refine⟨.b7,_,I.xY (its':=its++[u]) hH e (by simp) (r.append (.cons ru .nil)) ?_,rfl,q⟩
 rw[JV,Kz];lia
def CQ:V->List V->Hp->VK->Prop:=λx vs H Q=>∃l xs y,x=.ref l/\vs=[]/\H l=some (.lst xs)/\xs[xs.length-1]?=some y/\Q y (upd H l (.lst xs.dropLast))
theorem xT:Fq X "list.pop" CQ:=by
 intro pins s σ H x vs v us Q I rx rv h;obtain⟨l,xs,y,rfl,rfl,hH,hy,q⟩:=h;cases rx;have Hj:=rv.zero;subst Hj;obtain⟨z,its,n,r,hl,e⟩:=I.rU hH;obtain⟨u,hu,ru⟩:=r.get hy;have Hg:its.toArray[its.toArray.size-1]?=some u:=by
  show its.toArray[its.length-1]?=some u;rw[<- Jj,<- hl];exact hu
 refine MJ F.slot_list_pop ⟨_,e,rfl⟩ F.entry_list_pop (F.args_list_pop_1 _) (MeetsSeq.list_pop_last l its.toArray n u Hg (by rw[Ji];lia)) ⟨e,?_⟩
 refine⟨y,_,I.xY (its':=its.dropLast) hH e ?_ r.dropLast ?_,ru,q⟩
 ·show its.toArray.eraseIdxIfInBounds (its.toArray.size-1)=its.dropLast.toArray;rw[Ji,Mq,ng]
 ·rw[List.length_dropLast];lia
def xi:V->List V->Hp->VK->Prop:=λx vs H Q=>∃l xs i k y,x=.ref l/\vs=[.int i]/\H l=some (.lst xs)/\-(2 ^ 63)<=i/\i<2 ^ 63/\Ms i xs.length=some k/\xs[k]?=some y/\Q y (upd H l (.lst (xs.eraseIdx k)))
theorem rT:Fq X "list.pop" xi:=by
 intro pins s σ H x vs v us Q I rx rv h;obtain⟨l,xs,i,k,y,rfl,rfl,hH,h1,h2,hk,hy,q⟩:=h;cases rx;obtain⟨u,rfl,ru⟩:=rv.one;obtain⟨t,rfl⟩:=ru;obtain⟨z,its,n,r,hl,e⟩:=I.rU hH;obtain⟨w,hw,zW⟩:=r.get hy;refine MJ F.slot_list_pop ⟨_,e,rfl⟩ F.entry_list_pop (F.args_list_pop_2 _ _)
  (MeetsSeq.list_pop_at l its.toArray n i t k w (fitsIndex_both h1 h2) (by rw[Ji,<- hl];exact hk) (by rw[<- Jj];exact hw) (by rw[Ji];lia)) ⟨e,?_⟩
 refine⟨y,_,I.xY (its':=its.eraseIdx k) hH e ?_ (r.eraseIdx k) ?_,zW,q⟩
 ·show its.toArray.eraseIdxIfInBounds k=(its.eraseIdx k).toArray;rw[Mq]
 ·have:=i6 xs k;lia
def CW:R2:=λx y H Q=>∃l b xs zs,x=.ref l/\y=.ref b/\H l=some (.lst xs)/\H b=some (.lst zs)/\xs.length+zs.length<=Jg/\∀p,H p=none->Q (.ref p) (upd H p (.lst (xs++zs)))
theorem rK:fy X (Ks .Add) CW:=by
 intro pins s σ H x y v u Q I rx ry h;obtain⟨l,b,xs,zs,rfl,rfl,hH,hB,hz,q⟩:=h;cases rx;cases ry;obtain⟨z,its,n,r,hl,e⟩:=I.rU hH;obtain⟨z2,yj,n2,r2,II,e2⟩:=I.rU hB;refine PySem.P.add_list e e2 ?_ (by rw[Ji,Ji];lia)
 have ea:its.toArray++yj.toArray=(its++yj).toArray:=by simp
 rw[ea];exact⟨.ref _,_,I.AD (t':=s.toks) (r.append r2) (by rw[JV];lia),rfl,q _ I.fresh⟩
end
section
end
section
end
end L2
namespace Gu
open PySem PySem.W PySem.Calls PyProof.Rows
theorem gj {P:L_}{h:Heap}:∀(ns:List Int) (vs:List IS),WellAll P h vs (ns.map WData.int)->Kr vs ns:=by
 intro ns
 induction ns with
 |nil =>
  intro vs w;rw[List.map_nil]at w;cases w;exact .nil
 |cons n ns ih =>
  intro vs w;rw[Jy]at w;cases w with
  |cons a b =>
   cases a;exact .cons _ _ (ih _ b)
theorem pj {l:OpenLaw}{n:Nat}(hn:l.most=some n){P:L_}{h:Heap}{args:List WData}{vals:List IS}
  (ve:l.row.toRowW.claim.pre args=true) (DD:WellAll P h vals args) :
  ∃a vs ns,vals=[Value.ref a]/\args=[WData.list (ns.map WData.int)]/\h.get? a=some {cls:=.type "list",data:=.seq vs.toArray}/\Kr vs ns/\ns.length<=n:=by
 have Hk:WShape.hasAll [] args [.list .int]=true:=(pre_splitW ve).1;have hc:l.pre.holds [] {args:=args}=true:=(pre_splitW ve).2;obtain⟨d,r,rfl,h1,h2⟩:=hasAllW_cons Hk;obtain rfl:=hasAllW_nil h2;obtain⟨xs,rfl,h3⟩:=hasW_list h1;obtain⟨ns,rfl⟩:=items_int h3;have hlen:ns.length<=n:=by
  unfold OpenLaw.pre at hc;have h4:(WTm.not (.lt (.lit (.int (n:Int))) (.len (.arg 0)))).holds [] {args:=[.list (ns.map .int)]}=true:=by
   have h4:=(holds_andW hc).1;rw[hn]at h4;exact h4
  have h5:=condW_of h4 (w_not (w_lt w_lit (w_len_list (w_arg rfl))));rw[IW]at h5;refine Nat.le_of_not_lt λq=>?_;have q':(n:Int)<((ns.length:Nat):Int):=by lia
  first
   | (rw[decide_eq_true q']at h5;exact absurd h5 (by decide))
   | (simp at h5;lia)
 cases DD with
 |cons w1 w2 =>
  cases w2;cases w1 with
  |list ho EV=>exact⟨_,_,ns,rfl,rfl,ho,gj ns _ EV,hlen⟩
theorem pB (l:OpenLaw)(args:List WData):l.row.toRowW.claim.post args (.bool true) args=true :=
 postW_of (r:=l.row.toRowW) (X:=(true==true))
  (show WShape.has [] (.bool true) .bool=true by first|rfl|decide|simp[WShape.has,WShape.arms,WShape.armsAll])
  (show (WTm.eq .res (.lit (.bool true))).value [] {args:=args,res:=some (.bool true),after:=args}=some (.bool (true==true)) from w_eq_bool (w_res rfl) w_lit) rfl
theorem lZ {l:OpenLaw}{n:Nat}{q:IY}{loose:List Str}{XP:(Str->Option IS)->Heap->Prop}{YP:Je->Heap->Prop}{d:DefRec}
  (hn:l.most=some n) (ES:d.params.defaults=[])
  (call:∀(w:Je) (s₀ s₁:IT) (mg mb:Str->Option IS) (fa:Addr) (o:Obj) (pm cd doc:IS) (a:Addr) (vs:List IS) (ns:List Int),
   Ground q loose [] XP w s₀ mg mb s₁.heap->YP w s₁.heap ->
   s₁.heap.get? fa=some o->o.data=.func (docDef d.name d.params d.body d.scope pm cd doc)->s₁.heap.CodeRec cd d.name->mg d.name=some (.ref fa) ->
   s₁.heap.get? a=some {cls:=.type "list",data:=.seq vs.toArray}->Kr vs ns->ns.length<=n->s₁.gens=#[] ->
   L6 (model l.prog w) Me (.call (.ref fa) ⟨[.ref a],[]⟩) (λr s'=>r=.ok (.ret (.bool true))/\OldK s₁.heap s'.heap/\s'.os=s₁.os/\LS s'.gens) s₁) :
  WalkO q loose XP YP l.row.toRowW d [] (λf vs=>PySem.call f vs):=by
 intro w s₀ s₁ mg mb G Y fa o pm cd doc dV kV ho hd qp hD Ex hg args vals as ve HA IF DD ED;obtain rfl:dV=.none:=Dflts.none hD ES;obtain rfl:kV=.none:=Dflts.noKw hD;obtain⟨a,vs,ns,rfl,rfl,yD,hints,hlen⟩:=pj hn ve DD;refine enter_call (Md (call w s₀ s₁ mg mb fa o pm cd doc a vs ns G Y ho (fd_plain hd) qp Ex yD hints hlen hg) λr s' hq=>?_);obtain⟨rfl,h2,h3,h4⟩:=hq;exact⟨.inl ⟨.bool true,.bool true,[],rfl,λ_=>rfl,.bool true,pB l _,λ_=>⟨List.Pairwise.nil,λ_ hm=>(nomatch hm)⟩⟩,h2,h3,h4⟩
section
end
end Gu
namespace L2
open PySem PySem.Spec PyProof.Rows
theorem iR:∀{vs:List IS} {ns:List Int},Kr vs ns->Vals (ns.map V.int) vs
 |_,_,.nil=>.nil
 |_,_,.cons n t h=>.cons ⟨t,rfl⟩ (iR h)
def zd (H:Hp):Prop:=∀b,H b=none\/∃o xs,H b=some (.tY o (.lst xs))
theorem sd {P:IY}{w:Je}{K:PySem.W.Frag}{mg mb:Str->Option IS}{CX:tT}{k:Nat}{fa a:Addr}{fd:JJ}{x:Str}{sp:Sp}{s₁:IT}{vs:List IS}{ns:List Int}
  (KX:K.In s₁.heap) (B_:s₁.heap.Ns Ke mg) (hb:s₁.heap.Ns builtinsNs mb) (HI:∀x:Str,x≠"__name__" -> mb x=J6 x) (EE:s₁.heap.NoLimit) (hg:s₁.gens=#[])
  (ha:s₁.heap.get? a=some {cls:=.type "list",data:=.seq vs.toArray}) (hi:Kr vs ns) (hl:ns.length<=Jg) (hr:bF k Me)
  (F:∀base:Heap,K.In base->base.Ns Ke mg->aN P w K mg base CX k fa fd [x] sp) (Bj:∀(s:IT) (u:IS),BindsTo s fd ⟨[u],[]⟩ [(x,u)])
  (jS:∀H:Hp,zd H->cS K H a (ns.map V.int)->sp [.ref a] H (λv _=>v=.bl true) λ_ _ _=>False)
  (EX:∀H e s',CX [] H s₁ (λ_ _ _=>False) e s'->False) :
  L6 (model P w) Me (.call (.ref fa) ⟨[.ref a],[]⟩) (λr s'=>r=.ok (.ret (.bool true))/\OldK s₁.heap s'.heap/\s'.os=s₁.os/\LS s'.gens) s₁:=by
 have rv:=iR hi;have Dq:=hi.length;have core:∀H:Hp,zd H->cS K H a (ns.map V.int)->eM P w H s₁.heap->(∀b,H b≠none->b=a)->(H a≠none->K.lookup a=none) ->
   L6 (model P w) Me (.call (.ref fa) ⟨[.ref a],[]⟩) (λr s'=>r=.ok (.ret (.bool true))/\OldK s₁.heap s'.heap/\s'.os=s₁.os/\LS s'.gens) s₁:=by
  intro H hO hS bz hA hK;have oO:∀{b:Addr} {o:Obj},s₁.heap.get? b=some o->H b=none->(jU s₁.heap H).get? b=some o:=λe n=>sG e n;have An:∀{b:Addr} {o:Obj} {es:Array KN} {ep:Nat},s₁.heap.get? b=some o->o.data=.dict es ep->H b=none:=λ{b o es ep} e d=>by
   cases q:H b with
   |none=>rfl
   |some u =>
    have e':b=a:=hA b (by rw[q];simp)
    subst e';rw[ha]at e;cases e;have d':Data.seq vs.toArray _=Data.dict es ep:=d;cases d'
  have BW:∀{b:Addr} {m:Str->Option IS},s₁.heap.Ns b m->(jU s₁.heap H).Ns b m:=λ{b m} ⟨o,es,ep,e,d,r⟩=>⟨o,es,ep,oO e (An e d),d,r⟩;have Gg:K.In (jU s₁.heap H):=λb o e=>oO (KX b o e) (by
   cases q:H b with
   |none=>rfl
   |some u =>
    have e':b=a:=hA b (by rw[q];simp)
    subst e';rw[hK (by rw[q];simp)]at e;cases e)
  have hM:Mod K mg (jU s₁.heap H):=⟨Gg,BW B_,⟨mb,BW hb,HI⟩,let ⟨mc,h1,h2⟩:=EE;⟨mc,BW h1,h2⟩⟩
  have e0:vO P w K mg (jU s₁.heap H) Me [] s₁ H:=⟨rfl,hM,λb o e=>uW e,Mn (pY _ _),trivial,λb hb=>absurd (show b∈([]:List Addr) from hb) (by simp),bz,.of_eq hg⟩
  refine Md ((F _ Gg (BW B_)).run Me [] s₁ H ⟨[.ref a],[]⟩ [.ref a] [.ref a] _ _ hr e0 (Bj s₁ (.ref a)) (.cons rfl .nil) (jS H hO hS)) λr s' h=>?_;cases r with
  |error e=>exact(EX H e s' h).elim
  |ok fl =>
   cases fl with
   |next=>exact KI h
   |brk=>exact KI h
   |cont=>exact KI h
   |ret u =>
    obtain⟨v,H',os,bare,un,Es,r',q⟩:=h;have q':v=.bl true:=q;subst q';obtain rfl:u=Value.bool true:=r';refine⟨rfl,OldK.of_keep λb o e=>?_,os,bare⟩;cases q:H b with
    |none=>exact un.keep b o e q (by intro z;exact absurd (show b∈([]:List Addr) from z) (by simp)) (by simp)
    |some u =>
     rcases hO b with z|⟨ob,xs,z⟩
     ·rw[q]at z;cases z
     ·have z2:=un.iI b ob _ z;obtain⟨e1,_⟩:=bz b _ z;obtain⟨e2,_⟩:=Es b _ z2;rw[e]at e1;cases e1;exact e2
 cases hk:K.lookup a with
 |some o =>
  have e:=KX a o hk;rw[ha]at e;cases e;refine core (λ_=>none) (λ_=>.inl rfl) (.inr ⟨_,vs.toArray,_,hk,rfl,rfl,rfl,by rw[Ji,Dq];exact hl,by simpa using rv⟩) (λb u z=>by have z':(none:Option HO)=some u:=z;cases z') (λb z=>absurd rfl z) λz=>absurd rfl z
 |none =>
  refine core (λb=>if b=a then some (.tY {cls:=.type "list",data:=.seq vs.toArray} (.lst (ns.map V.int))) else none) (λb=>?_) (.inl (.inr ⟨{cls:=.type "list",data:=.seq vs.toArray},if_pos rfl⟩)) (λb u z=>?_) (λb z=>?_) λ_=>hk
  ·by_cases hb:b=a
   ·exact .inr ⟨_,_,if_pos hb⟩
   ·exact .inl (if_neg hb)
  ·by_cases hb:b=a
   ·have z':=(if_pos hb).symm.trans z;cases z';subst hb;exact⟨ha,by rw[IW];exact hl,vs,_,rv,ha⟩
   ·have z':=(if_neg hb).symm.trans z;cases z'
  ·by_cases hb:b=a
   ·exact hb
   ·exact absurd (if_neg hb) z
theorem t_ {l:PySem.W.OpenLaw}{n k:Nat}{q:IY}{loose:List Str}{XP:(Str->Option IS)->Heap->Prop}{YP:Je->Heap->Prop}{d:DefRec}{K:L_->PySem.W.Frag}{CX:Je->tT}{sp:Je->Sp}{x:Str}
  (hn:l.most=some n) (Ca:n<=Jg) (ES:d.params.defaults=[]) (hr:bF k Me)
  (hY:∀(w:Je) (h:Heap),YP w h->(K w.params).In h)
  (F:∀(w:Je) (mg:Str->Option IS) (fa:Addr) (h:Heap),(K w.params).In h->h.Ns Ke mg->mg d.name=some (.ref fa) ->
   ∃fd:JJ,(∀(s:IT) (u:IS),BindsTo s fd ⟨[u],[]⟩ [(x,u)]) /\
    ∀base:Heap,(K w.params).In base->base.Ns Ke mg->aN l.prog w (K w.params) mg base (CX w) k fa fd [x] (sp w))
  (jS:∀(w:Je) (H:Hp) (a:Addr) (ns:List Int),ns.length<=n->zd H->cS (K w.params) H a (ns.map V.int)->sp w [.ref a] H (λv _=>v=.bl true) λ_ _ _=>False)
  (EX:∀(w:Je) (H:Hp) (s:IT) (e:IS) (s':IT),CX w [] H s (λ_ _ _=>False) e s'->False) :
  PySem.W.WalkO q loose XP YP l.row.toRowW d [] (λf vs=>PySem.call f vs):=by
 refine Gu.lZ hn ES λw s₀ s₁ mg mb fa o pm cd doc a vs ns G Y ho hd qp Ex yD hints hlen hg=>?_;have KX:=hY w _ Y;obtain⟨fd,hb,hF⟩:=F w mg fa _ KX G.T.g Ex;exact sd KX G.T.g G.T.b G.T.builtins G.T.nolimit hg yD hints (JC hlen Ca) hr hF hb (λH hO hS=>jS w H a ns hlen hO hS) λH e s'=>EX w H s₁ e s'
abbrev ck:tT:=λ_ _ _ _ _ _=>False
abbrev E0:XK:=λ_ _ _=>False
theorem rD {X:Cx}:Passes ck X E0:=λ_ _ _ _ _ _ _ h=>h.elim
structure t7 (K:PySem.W.Frag)(x qual:Str)(st:Stmt)(f:Addr)(fd:JJ):Prop where
 ex:∃(oc:IS) (od:Option Addr) (kV doc pm:IS) (an:Option Addr) (cg ct:IS) (xA:Array (Option IS)),
  fd=PySem.W.fnOf x qual (gC st) (cL st) (ao st) .none kV doc pm an cg ct/\K.lookup f=some ⟨oc,od,.func fd,xA⟩/\PySem.W.codeIn K cg qual=true
 kp:PySem.W.keepIn K (.ref f)=true
section
variable {P:IY}{w:Je}{K:PySem.W.Frag}{mg:Str->Option IS}{base:Heap}
theorem t7.ok {x qual:Str}{st:Stmt}{f:Addr}{fd:JJ}{N ps:List Str}{k:Nat}{sp:Sp}(F:t7 K x qual st f fd)(S:aH N ps (ao st))(len:∀vs H Q E,sp vs H Q E->vs.length=ps.length)
  (h_:∀(cg:IS) (A:JQ) (outer:List Env) (s:IT) (H:Hp) (vs:List V) (Q:VK) (E:XK),bF k (A.deeper (LP qual (ao st) s.heap.objs.size f cg))->sp vs H Q E ->
   ∃t,l5 (iM ck P w K mg base N qual (ao st) f cg A outer s H E).vZ (cL st) t/\t {nx:=λ_ H'=>Q .b7 H',rt:=Q} (start N vs) H):aN P w K mg base ck (k+1) f fd ps sp:=by
 obtain⟨oc,od,kV,doc,pm,an,cg,ct,xA,rfl,lk,qp⟩:=F.ex;refine Bo lk qp S len λA outer s H vs Q E hr jS=>?_;obtain⟨t,h,q⟩:=h_ cg A outer s H vs Q E hr jS;exact⟨t,h.vZ,q⟩
theorem yK {x qual:Str}{st:Stmt}{f:Addr}{oc:IS}{od an:Option Addr}{xA:Array (Option IS)}{kV doc pm cg ct:IS}(l:K.lookup f=some ⟨oc,od,.func (PySem.W.fnOf x qual (gC st) (cL st) (ao st) .none kV doc pm an cg ct),xA⟩)
  (c:PySem.W.codeIn K cg qual=true) (k:PySem.W.keepIn K (.ref f)=true):t7 K x qual st f (PySem.W.fnOf x qual (gC st) (cL st) (ao st) .none kV doc pm an cg ct):=⟨⟨oc,od,kV,doc,pm,an,cg,ct,xA,rfl,l,c⟩,k⟩
end
section
variable {X:Cx}
theorem pv (i:Nat){x:Str}{pos:Pos}(hN:X.N[i]?=some x:=by rfl)(hv:zD X.env.scope x:=by first|exact Or.inl rfl|exact Or.inr (Or.inl rfl)|exact Or.inr (Or.inr rfl))(hd:(x==("__debug__" : Str))=false:=by decide)
  (qp:(x==("__classdict__" : Str))=false:=by decide):PE X (.Name x pos) (w5 i):=rl hN hv hd qp
end
def ax (H H':Hp):Prop:=∀b o,H b=some o->H' b=some o
theorem ax.refl (H:Hp):ax H H:=λ_ _ h=>h
theorem ax.trans {H H1 H2:Hp}(a:ax H H1)(b:ax H1 H2):ax H H2:=λc o h=>b c o (a c o h)
theorem ax.free {H H':Hp}(e:ax H H'){l:Addr}(h:H' l=Option.none):H l=Option.none:=by
 cases q:H l with
 |none=>rfl
 |some o =>
  rw[e l o q]at h;cases h
theorem ax.seq {K:PySem.W.Frag}{H H':Hp}{a:Addr}{xs:List V}(e:ax H H')(h:cS K H a xs):cS K H' a xs:=by
 rcases h with (h|⟨o,h⟩)|h
 ·exact .inl (.inl (e _ _ h))
 ·exact .inl (.inr ⟨o,e _ _ h⟩)
 ·exact .inr h
structure Nm (X:Cx)(i:Nat)(x:Str):Prop where
 a:X.N[i]?=some x
 b:zD X.env.scope x
 c:(x==("__debug__" : Str))=false
 d:(x==("__classdict__" : Str))=false
theorem xQ {X:Cx}{i:Nat}{x:Str}(a:X.N[i]?=some x:=by rfl)(b:zD X.env.scope x:=by first|exact .inl rfl|exact .inr (.inl rfl)|exact .inr (.inr rfl))(c:(x==("__debug__" : Str))=false:=by decide)(d:(x==("__classdict__" : Str))=false:=by decide):Nm X i x:=⟨a,b,c,d⟩
theorem gR {X:Cx}{i:Nat}{x:Str}{pos:Pos}(h:Nm X i x):PE X (.Name x pos) (w5 i):=rl h.a h.b h.c h.d
section
variable {X:Cx}{a b c:Expr}{ta tb:TE}{pos:Pos}
def l8 (i j:Int):Prop:=0<j/\j.natAbs.log2<9000
theorem l8.of {i j:Int}(h0:0<j)(h:j<2 ^ 200):l8 i j:=by
 refine⟨h0,?_⟩;have h2:j.natAbs<2 ^ 200:=by lia
 have:=(Nat.log2_lt (n:=j.natAbs) (k:=200) (by lia)).mpr h2
 lia
theorem kU:fy X (Ks .FloorDiv) (rI l8 λi j=>.int (i / j)):=BV λi j _ _ _ _ _ hc q=>by
 have h1:(0:Int)<j:=hc.1;exact floordiv_int (by lia) (by rw[Int.fdiv_eq_ediv_of_nonneg i (by lia)];exact q) (.inl (PyProof.noPylong_of_log2 hc.2))
def wL (X:Cx)(ops:List Ll)(rs:List Expr)(t:V->TE):Prop :=
 ∀(pos:Pos) (pins:List (Addr×Obj)) (s:IT) (σ:St) (H:Hp) (x:V) (v:IS) (Q:VK),Inv X pins σ H s->RelV x v->t x σ H Q ->
  Js (model X.prog X.w) X.A (compareChain pos v ops (evalEach rs X.env)) (EP X pins σ Q) X.xe s
def nE (X:Cx)(ops:List Ll)(rs:List Expr)(t:V->TT):Prop :=
 ∀(pos:Pos) (pins:List (Addr×Obj)) (s:IT) (σ:St) (H:Hp) (x:V) (v:IS) (Q:Bool->Hp->Prop),Inv X pins σ H s->RelV x v->t x σ H Q ->
  Js (model X.prog X.w) X.A (testChain pos v ops (evalEach rs X.env)) (TP X pins σ Q) X.xe s
variable {op xF:Ll}{ops:List Ll}{rs:List Expr}{r:R2}{t:V->TE}{tt:V->TT}
theorem yV (ho:fy X (JH op) r)(hb:PE X b tb):wL X [op] [b] (λx σ H Q=>tb σ H λy H2=>r x y H2 Q):=by
 intro pos pins s σ H x v Q I rx h;exact chain_last (aZ (hb pins s σ H _ I h) λu s1 pW=>by obtain⟨y,H1,I1,r1,q1⟩:=pW;exact ho pins s1 σ H1 x y v u Q I1 rx r1 q1)
theorem vF (ho:fy X (JH op) r)(hb:PE X b tb)(hc:wL X (xF::ops) (c::rs) t):
  wL X (op::xF::ops) (b::c::rs) (λx σ H Q=>tb σ H λy H2=>r x y H2 λz H3=>∃k,z=.bl k/\(if k=true then t y σ H3 Q else Q (.bl false) H3)):=by
 intro pos pins s σ H x v Q I rx h;refine chain_link (aZ (hb pins s σ H _ I h) λu s1 ⟨y,H1,I1,r1,q1⟩=>aZ (ho pins s1 σ H1 x y v u _ I1 rx r1 q1) λd s3 jR=>?_);obtain⟨z,H3,I3,r3,k,e,q3⟩:=jR;subst e;cases r3;refine Kf ?_;cases k with
 |false=>exact ite_ff ⟨.bl false,H3,I3,rfl,q3⟩
 |true=>exact ite_tt (hc pos pins s3 σ H3 y u Q I3 r1 q3)
theorem pD {gW gV:Ll}(ha:PE X a ta)(hc:wL X (gW::gV::ops) (b::c::rs) t)(hm:lastMarks (gW::gV::ops) (b::c::rs)=false:=by with_unfolding_all rfl):
  PE X (.Compare a (gW::gV::ops) (b::c::rs) pos) (λσ H Q=>ta σ H λx H1=>t x σ H1 Q):=by
 intro pins s σ H Q I h;exact Compare_chain (aZ (ha pins s σ H _ I h) λv s1 AU=>by obtain⟨x,H1,I1,r1,q1⟩:=AU;exact hc pos pins s1 σ H1 x v Q I1 r1 q1) hm
theorem vE (ho:fy X (JH op) r)(hb:PE X b tb):nE X [op] [b] (λx σ H Q=>tb σ H λy H2=>r x y H2 λz H3=>∃k,z=.bl k/\Q k H3):=by
 intro pos pins s σ H x v Q I rx h;refine test_last (aZ (hb pins s σ H _ I h) λu s1 ⟨y,H1,I1,r1,q1⟩=>aZ (ho pins s1 σ H1 x y v u _ I1 rx r1 q1) λd s3 m5=>?_);obtain⟨z,H3,I3,r3,k,e,q3⟩:=m5;subst e;cases r3;exact Kf ⟨H3,I3,q3⟩
theorem tF (ho:fy X (JH op) r)(hb:PE X b tb)(hc:nE X (xF::ops) (c::rs) tt):
  nE X (op::xF::ops) (b::c::rs) (λx σ H Q=>tb σ H λy H2=>r x y H2 λz H3=>∃k,z=.bl k/\(if k=true then tt y σ H3 Q else Q false H3)):=by
 intro pos pins s σ H x v Q I rx h;refine test_link (aZ (hb pins s σ H _ I h) λu s1 ⟨y,H1,I1,r1,q1⟩=>aZ (ho pins s1 σ H1 x y v u _ I1 rx r1 q1) λd s3 sx=>?_);obtain⟨z,H3,I3,r3,k,e,q3⟩:=sx;subst e;cases r3;refine Kf ?_;cases k with
 |false=>exact ite_ff ⟨H3,I3,q3⟩
 |true=>exact ite_tt (hc pos pins s3 σ H3 y u Q I3 r1 q3)
end
theorem yX:J6 "max" = some (.builtin "max"):=by decide +kernel
theorem yW:J6 "min" = some (.builtin "min"):=by decide +kernel
theorem yY:J6 "int" = some (.type "int"):=by decide +kernel
theorem j0:J6 "list" = some (.type "list"):=by decide +kernel
theorem fU:J6 "sorted" = some (.builtin "sorted"):=by decide +kernel
theorem eK:J6 "len" = some (.builtin "len"):=by decide +kernel
theorem AE {c A B:Prop}[Decidable c](hc:c)(h:A):if decide c=true then A else B:=by
 rw[if_pos (decide_eq_true hc)];exact h
theorem AF {c A B:Prop}[Decidable c](hc:¬ c)(h:B):if decide c=true then A else B:=by
 rw[if_neg (by simp[hc])]
 exact h
theorem Dw {c A B:Prop}[Decidable c](h1:c->A)(h2:¬ c->B):if decide c=true then A else B:=by
 by_cases h:c
 ·exact AE h (h1 h)
 ·exact AF h (h2 h)
theorem ax.new {H:Hp}{p:Addr}{o:HO}(n:H p=none):ax H (L2.upd H p o):=λb u e=>by rw[ay (bu e n)];exact e
section
end
theorem Ad:vP 10 18:=⟨by decide,by decide,by decide⟩
section
theorem gA {a:Int}{b:Int}(h:0<b):0<=a % b/\a % b<b:=⟨Int.emod_nonneg a (by lia),Int.emod_lt_of_pos a h⟩
end
noncomputable def aA (X:Cx)(scope:K2)(N':List Str)(cl:List (Str×Addr))(C:Addr)(s:IT)(H:Hp)(ex:List Addr):Cx :=
 {X with N:=N',s₀:=s,H₀:=H,env:=compEnvC scope cl C X.env,outer:=X.stack,stack:=X.stack,ex:=ex,fn:=λ_=>false,pn:=[],xe:=λ_ _=>False}
theorem eJ {env:Env}:∀(names:List (Str×Lf)) (cs:List (Str×Addr)),(∀x,(x,JE)∈names->∃c,env.cells.lookup x=some c) ->
  (∀x c,cs.lookup x=some c->env.cells.lookup x=some c) ->
  ∃cl,(forIn names cs λ(p:Str×Lf) (cs:List (Str×Addr))=>do
   if p.2==.free then do
    let a <- cellOf env p.1
    pure (L0 ((p.1,a)::cs))
   else pure (L0 cs):Sem (List (Str×Addr)))=pure cl /\
   (∀x,((x,JE)∈names\/(∃c,cs.lookup x=some c))->∃c,cl.lookup x=some c)/\∀x c,cl.lookup x=some c->env.cells.lookup x=some c
 |[],cs,_,Cb=>⟨cs,rfl,λx h=>h.elim (λz=>nomatch z) id,Cb⟩
 | (n,k)::names,cs,hf,Cb=>by
  by_cases hk:k=.free
  ·subst hk;obtain⟨c,hc⟩:=hf n (JA ..);obtain⟨cl,e,h1,h2⟩:=eJ names ((n,c)::cs) (λx hx=>hf x (Ju _ hx)) (λx c' hx=>by
    rw[J4]at hx;cases q:x==n with
    |true=>rw[q]at hx;cases hx;rw[eq_of_beq q];exact hc
    |false=>rw[q]at hx;exact Cb x c' hx)
   refine⟨cl,?_,λx hx=>h1 x ?_,h2⟩
   ·rw[List.forIn_cons];have ec:cellOf env n=pure c:=by unfold cellOf;rw[hc]
    simp only[beq_self_eq_true,if_true,ec];exact e
   ·rcases hx with hx|⟨c',hx⟩
    ·rcases Ja.mp hx with z|z
     ·cases z;exact .inr ⟨c,by simp⟩
     ·exact .inl z
    ·right
     rw[J4];cases q:x==n with
     |true=>exact⟨c,rfl⟩
     |false=>exact⟨c',hx⟩
  ·obtain⟨cl,e,h1,h2⟩:=eJ names cs (λx hx=>hf x (Ju _ hx)) Cb;refine⟨cl,?_,λx hx=>h1 x ?_,h2⟩
   ·rw[List.forIn_cons];have hb:(k==JE)=false:=by simpa using hk
    simp only[hb,KW,if_false];exact e
   ·rcases hx with hx|hx
    ·rcases Ja.mp hx with z|z
     ·cases z;exact absurd rfl hk
     ·exact .inl z
    ·exact .inr hx
theorem ed {env:Env}{scope:K2}(h:∀x,(x,JE)∈scope.names->∃c,env.cells.lookup x=some c):
  ∃cl,closureFor scope env=pure cl/\(∀x,(x,JE)∈scope.names->∃c,cl.lookup x=some c)/\∀x c,cl.lookup x=some c->env.cells.lookup x=some c:=by
 obtain⟨cl,e,h1,h2⟩:=eJ scope.names [] h (λx c z=>by simp at z)
 refine⟨cl,?_,λx hx=>h1 x (.inl hx),h2⟩;unfold closureFor;refine Eq.trans ?_ (congrArg (· >>= pure) e);rfl
structure Links (X:Cx)(scope:K2)(N':List Str)(lk:List (Option Nat)):Prop where
 kind:scope.kind=.function
 mP:∀x∈scope.names,x.2≠.cell
 names:∀x∈scope.names,x.2=.local->scope.names.lookup x.1=some .local
 free:∀x,(x,JE)∈scope.names->X.env.kindOf x=some .cell\/X.env.kindOf x=some .free
 len:lk.length=N'.length
 link:∀(i j:Nat),lk[i]?=some (some j)->∃x,N'[i]?=some x/\X.N[j]?=some x/\(x,JE)∈scope.names/\scope.names.lookup x=some .free
noncomputable def hE (outer:List (Str×Lf))(N:List Str)(scope:K2)(N':List Str)(lk:List (Option Nat)):Bool :=
 (scope.kind==.function)&&scope.names.all (λx=>x.2 != .cell&&(x.2 != .local || scope.names.lookup x.1==some .local)&&(x.2 != .free || outer.lookup x.1==some .cell || outer.lookup x.1==some .free)) &&
 lk.length==N'.length&&(JM lk.length).all λi=>match lk[i]? with
  |some (some j)=>match N'[i]? with
   |some x=>N[j]?==some x&&scope.names.contains (x,.free)&&scope.names.lookup x==some .free
   |none=>false
  |_=>true
theorem Links.of {X:Cx}{scope:K2}{N':List Str}{lk:List (Option Nat)}(h:hE X.env.scope.names X.N scope N' lk=true):Links X scope N' lk:=by
 simp only[hE,JS]at h;obtain⟨⟨⟨h1,h2⟩,h3⟩,h4⟩:=h;rw[LO]at h2 h4;refine⟨by simpa using h1,λx hx=>?_,λx hx hl=>?_,λx hx=>?_,by simpa using h3,λi j aF=>?_⟩
 ·have:=h2 x hx;simp only[JS]at this;simpa using this.1.1
 ·have:=h2 x hx;simp only[JS]at this;have q:=this.1.2;rw[hl]at q;simpa using q
 ·have:=h2 _ hx;simp only[JS]at this;have q:=this.2;simp only[Bool.or_eq_true]at q;rcases q with (q|q)|q
  ·simp at q
  ·exact .inl (show X.env.scope.names.lookup x=some .cell by simpa using q)
  ·exact .inr (show X.env.scope.names.lookup x=some .free by simpa using q)
 ·have hi:i<lk.length:=(Jd.mp aF).1;have q:=h4 i (J8.mpr hi);rw[aF]at q;simp only at q;cases e:N'[i]? with
  |none=>rw[e]at q;simp at q
  |some x =>
   rw[e]at q;simp only[JS]at q;obtain⟨⟨q1,q2⟩,q3⟩:=q;exact⟨x,rfl,by simpa using q1,by simpa using q2,by simpa using q3⟩
noncomputable def dC (lk:List (Option Nat))(σ:St):St:=lk.map λl=>match l with|some j=>(match σ[j]? with|some v=>v|none=>none)|none=>none
theorem b8 {env:Env}:∀{names:List (Str×Lf)} {x:Str},names.lookup x=some .free ->
  (names.map λ(n,k)=>if (k==JE&&env.scope.kind==.function&&env.kindOf n==some .cell) then (n,KR) else (n,k)).lookup x=some .cell \/
  (names.map λ(n,k)=>if (k==JE&&env.scope.kind==.function&&env.kindOf n==some .cell) then (n,KR) else (n,k)).lookup x=some .free
 |[],_,h=>by simp at h
 | (n,k)::r,x,h=>by
  have ih:=@b8 env r x;show List.lookup x ((if (k==JE&&env.scope.kind==.function&&env.kindOf n==some .cell)=true then (n,KR) else (n,k))::_)=_ \/
   List.lookup x ((if (k==JE&&env.scope.kind==.function&&env.kindOf n==some .cell)=true then (n,KR) else (n,k))::_)=_
  cases hx:x==n with
  |true =>
   simp only[J4,hx]at h;cases h
   by_cases hc:(JE==JE&&env.scope.kind==.function&&env.kindOf n==some .cell)=true
   ·rw[if_pos hc];left;simp[J4,hx]
   ·rw[if_neg hc];right;simp[J4,hx]
  |false =>
   simp only[J4,hx]at h
   by_cases hc:(k==JE&&env.scope.kind==.function&&env.kindOf n==some .cell)=true
   ·rw[if_pos hc];simp only[J4,hx];exact ih h
   ·rw[if_neg hc];simp only[J4,hx];exact ih h
theorem b6 {env:Env}:∀{names:List (Str×Lf)} {x:Str} {k:Lf},(k=.cell\/k=.free)->(∀y∈names,y.2≠.cell) ->
  (names.map λ(n,k)=>if (k==JE&&env.scope.kind==.function&&env.kindOf n==some .cell) then (n,KR) else (n,k)).lookup x=some k->(x,JE)∈names
 |[],_,_,_,_,h=>by simp at h
 | (n,k')::r,x,k,hk,hc,h=>by
  have ih:=@b6 env r x k hk (λy hy=>hc y (Ju _ hy));have h':List.lookup x ((if (k'==JE&&env.scope.kind==.function&&env.kindOf n==some .cell)=true then (n,KR) else (n,k'))::(r.map λ(n,k)=>if (k==JE&&env.scope.kind==.function&&env.kindOf n==some .cell) then (n,KR) else (n,k)))=some k:=h
  have HB:=hc (n,k') (JA ..)
  by_cases vi:(k'==JE&&env.scope.kind==.function&&env.kindOf n==some .cell)=true
  ·rw[if_pos vi]at h';simp only[JS,beq_iff_eq]at vi;cases hx:x==n with
   |true=>rw[eq_of_beq hx,vi.1.1];exact JA ..
   |false=>rw[J4,hx]at h';exact Ju _ (ih h')
  ·rw[if_neg vi]at h';cases hx:x==n with
   |true =>
    rw[J4,hx]at h';have e:k'=k:=by simpa using h'
    subst e;rcases hk with hk|hk
    ·exact absurd hk HB
    ·rw[eq_of_beq hx,hk];exact JA ..
   |false=>rw[J4,hx]at h';exact Ju _ (ih h')
section
variable {X:Cx}{pins:List (Addr×Obj)}{σ:St}{H:Hp}{s:IT}{scope:K2}{N':List Str}{lk:List (Option Nat)}{cl:List (Str×Addr)}{ex:List Addr}
theorem su {h':Heap}{t':Nat}(I:Inv X pins σ H s)(L:Links X scope N' lk)(hex:∀b∈ex,eL X pins H b)(Eu:∀b∈ex,∃o,s.heap.get? b=some o)
  (lE:∀x,(x,JE)∈scope.names->∃c,cl.lookup x=some c) (j7:∀x c,cl.lookup x=some c->X.env.cells.lookup x=some c)
  (hn:h'.Ns s.heap.objs.size (λ_=>none)) (hk:∀b o,s.heap.get? b=some o->h'.get? b=some o) :
  Inv (aA X scope N' cl s.heap.objs.size s H ex) [] (dC lk σ) H {s with heap:=h',toks:=t'}:=by
 obtain⟨m,hm,hl⟩:=I.loc;have HS:∀b∈ex,b≠s.heap.objs.size:=λb hb=>by
  obtain⟨o,e⟩:=Eu b hb;exact JB (Jf e)
 refine⟨⟨I.ok.mod,L.kind,I.ok.glob,I.ok.blt,IZ _,λx y c h1 h2=>I.ok.inj x y c (j7 _ _ h1) (j7 _ _ h2),λx hx=>?_,λx c z=>(nomatch z),I.ok.hd,I.ok.frames,.inl rfl,
  λb hb=>⟨HS b hb,λx c e=>(hex b hb).2.2.2.2.1 x c (j7 _ _ e)⟩,I.bs,JC I.ok.wG I.sz,λb o e z=>?_,λb hb z=>?_,I.stack,I.nL⟩,
  rfl,I.bare,Un.kept hk,⟨_,hn,λi x v h1 h2 h3=>?_⟩,λx c e=>?_,I.bz.fresh (IZ _),λx c e=>I.d_ x c (j7 _ _ e),λp hp=>absurd (show p∈([]:List (Addr×Obj)) from hp) (by simp),I.bz.kept hk,?_⟩
 ·have zq:(relabel scope X.env).names.lookup x=some .cell\/(relabel scope X.env).names.lookup x=some .free:=hx;rcases zq with q|q
  ·exact lE x (b6 (.inl rfl) L.mP q)
  ·exact lE x (b6 (.inr rfl) L.mP q)
 ·obtain⟨f0,f1,f2,f3,_⟩:=hex b z;rcases f3 with q|q
  ·exact I.ok.rQ b o e q
  ·have h1:=Jf e;have h2:=I.ok.wG;exact absurd (Jw h1 (JC h2 q)) (La _)
 ·obtain⟨f0,f1,f2,f3,_⟩:=hex b hb;rcases Ja.mp (I.mz b z)with q|q
  ·exact f1 q
  ·exact f2 q
 ·have hi:∃j,lk[i]?=some (some j)/\σ[j]?=some (some v):=by
   have sL:(dC lk σ)[i]?=some (some v):=h2;unfold dC at sL;rw[Jt]at sL;cases e:lk[i]? with
   |none=>rw[e]at sL;cases sL
   |some l =>
    cases l with
    |none=>rw[e]at sL;cases sL
    |some j =>
     rw[e]at sL;cases e2:σ[j]? with
     |none=>simp[e2]at sL
     |some w' =>
      simp only[LW,e2,Mk]at sL;subst sL;exact⟨j,rfl,e2⟩
  obtain⟨j,hj,hσ⟩:=hi;obtain⟨y,e1,e2,e3,e4⟩:=L.link i j hj;have HR:x=y:=by
   have pZ:N'[i]?=some x:=h1;rw[e1]at pZ;exact(JN pZ).symm
  subst HR;have DH:zD X.env.scope x:=by
   rcases L.free x e3 with q|q
   ·exact .inr (.inl q)
   ·exact .inr (.inr q)
  obtain⟨u,ru,lu⟩:=hl j x v e2 hσ DH;refine⟨u,ru,.inr ⟨?_,?_⟩⟩
  ·exact b8 e4
  ·rcases lu with⟨k,_⟩|⟨_,c,hc,z⟩
   ·rcases L.free x e3 with q|q <;> (rw[k]at q;cases q)
   ·obtain⟨c',qq⟩:=lE x e3;have:=j7 x c' qq;rw[hc]at this;cases this;obtain⟨o,ho,hd⟩:=z;exact⟨c,qq,o,hk _ _ ho,hd⟩
 ·obtain⟨v,o,ho,hd⟩:=I.cell x c (j7 _ _ e);exact⟨v,o,hk _ _ ho,hd⟩
 ·show (dC lk σ).length=N'.length;unfold dC;rw[IW,L.len]
theorem sv {s':IT}{σ':St}{H':Hp}{pl:List (Addr×Obj)}{C:Addr}{h'':Heap}(I:Inv X pins σ H s)(hex:∀b∈ex,eL X pins H b)
  (J:Inv (aA X scope N' cl s.heap.objs.size s H ex) pl σ' H' s') (hs:Ln s.heap.objs.size s'.heap h''):Inv X pins σ H' {s' with heap:=h''}:=by
 have hC:H' s.heap.objs.size=none:=J.free;have u:=J.base;refine I.BC (ch:=ex) (s':={s' with heap:=h''}) J.os ?_ ?_ J.bare (λb hb=>?_)
 ·have kk:∀b o,b≠s.heap.objs.size->s'.heap.get? b=some o->h''.get? b=some o:=λb o hb e=>(hs.2 b hb).trans e;have ne:∀b o,s.heap.get? b=some o->b≠s.heap.objs.size:=λb o e=>JB (Jf e);refine⟨λb o e n hb hx=>kk b _ (ne b o e) (u.keep b o e n hb hx),λb o e n hb hx=>?_,u.free,λb o e hx=>?_,u.jt,u.iI,u.jw⟩
  ·obtain⟨sl,q⟩:=u.slot b o e n hb hx;exact⟨sl,kk b _ (ne b o e) q⟩
  ·obtain⟨o',q⟩:=u.there b o e hx;exact⟨o',kk b _ (ne b o e) q⟩
 ·intro b o e;have hb:b≠s.heap.objs.size:=λz=>by rw[z]at e;rw[hC]at e;cases e
  refine(J.bz b o e).o4 (λc v hc q=>(hs.2 c ?_).trans q) (λ_ q=>q) λ_ _ q=>q;rcases hc with z|z
  ·rw[z];exact hb
  ·intro z';rw[z']at z;rw[hC]at z;cases z
 ·obtain⟨f0,f1,f2,f3,f4,f5⟩:=hex b hb;exact⟨f3,f1,f4,f5⟩
end
noncomputable def gG (g:LJ)(after:Sem Fin->Sem Fin)(e:Expr)(d:Nat)(it acc:IS)(env:Env):Sem Fin:=do
 MG g.iter.pos
 match <- MI it with
 |none=>pure (.done .next)
 |some v =>
  LU g.target it v
  assign g.target env v
  let mut ok:=true
  for c in g.ifs do
   if ok then ok <- isTrue c env (eval c env)
  if ok then after (again (.compLoop e d it acc env)) else again (.compLoop e d it acc env)
def qH (t:Sem Unit)(k:Sem Fin):Sem Fin:=do
 t
 k
def tf (elt:Expr)(acc:IS)(env:Env):Sem Unit:=do let _ <- call (.builtin "list.append") [acc,<- eval elt env]
structure iy (e:Expr)(d:Nat)(g:LJ)(acc:IS)(env:Env)(after:Sem Fin->Sem Fin):Prop where
 turn:∀it,compTurn e d it acc env=gG g after e d it acc env
 cl:(clausesOf e)[d]?=some g
 sync:g.is_async=0
 quiet:∀it,(LK e d it acc env).quiet=true
 under:∀(A:JQ) it,A.under (LK e d it acc env)=A
 wY:∀(A:JQ) it,A.under (ML e d it acc env)=A
 xP:∀it,(LK e d it acc env).isFrame=false
 Am:∀it,(ML e d it acc env).isFrame=false
section
variable {elt tg cR:Expr}{ifs:List Expr}{sc:K2}{pos:Pos}{acc:IS}{env:Env}
theorem tH:iy (.ListComp elt [⟨tg,cR,ifs,0⟩] sc pos) 0 ⟨tg,cR,ifs,0⟩ acc env (qH (tf elt acc env)) :=
 ⟨λ_=>rfl,rfl,rfl,λ_=>rfl,λ_ _=>rfl,λ_ _=>rfl,λ_=>rfl,λ_=>rfl⟩
end
def zL:TT:=λ_ H Q=>Q true H
def l4 (X:Cx)(ifs:List Expr)(t:TT):Prop :=
 ∀(pins:List (Addr×Obj)) (s:IT) (σ:St) (H:Hp) (Q:Bool->Hp->Prop),Inv X pins σ H s->t σ H Q ->
  Js (model X.prog X.w) X.A (forIn ifs true λc r=>if r=true then do let ok <- isTrue c X.env (eval c X.env);pure (L0 ok) else pure (L0 r)) (TP X pins σ Q) X.xe s
theorem uz {X:Cx}:l4 X [] zL:=λ_ _ _ H _ I h=>wpAny_tests_nil ⟨H,I,h⟩
theorem uy {X:Cx}{c:Expr}{t:TT}(h:PT X c t):l4 X [c] t:=λpins s σ H Q I q=>wpAny_tests_one (h pins s σ H Q I q)
abbrev nz:=(St->Hp->Prop)->St->Hp->Prop
def nC (X:Cx)(after:Sem Fin->Sem Fin)(t:nz):Prop :=
 ∀(pins:List (Addr×Obj)) (s:IT) (σ:St) (H:Hp) (N:St->Hp->Prop) (k:Sem Fin) (Q:Fin->IT->Prop) (E:IS->IT->Prop),Inv X pins σ H s->t N σ H ->
  (∀σ' H' s',Inv X pins σ' H' s'->N σ' H'->Js (model X.prog X.w) X.A k Q E s')->Js (model X.prog X.w) X.A (after k) Q E s
theorem gz {X:Cx}(hx:X.xe=λ_ _=>False){α:Type}{t:Sem α}{Q:α->IT->Prop}{E:IS->IT->Prop}{s:IT}(h:Js (model X.prog X.w) X.A t Q X.xe s):Js (model X.prog X.w) X.A t Q E s :=
 K7 h (λ_ _ q=>q) λe s q=>by rw[hx]at q;exact q.elim
def gJ (J:It)(g:TG)(tt:TT)(ta:nz)(End:St->Hp->Prop):St->Hp->Prop:=λσ H =>
 ∃W:Nat->Nat->St->Hp->Prop,(∃m,W 0 m σ H)/\∀i m σ H,W i m σ H->(J.stop i H/\End σ H) \/
  (J.go i H/\∃N:St->Hp->Prop,(∀σ' H',N σ' H'->∃m',m'<m/\W (i+1) m' σ' H')/\∀x H',J.BP i H x H'->g x σ H' λσ2 H2=>tt σ2 H2 λb H3=>if b=true then ta N σ2 H3 else N σ2 H3)
section
variable {X:Cx}{e:Expr}{d:Nat}{g:LJ}{acc:IS}{after:Sem Fin->Sem Fin}{tg:TG}{tt:TT}{ta:nz}
theorem qb (hx:X.xe=λ_ _=>False)(hc:X.calm=true)(F:iy e d g acc X.env after)(hg:PG X g.target tg)(ht:l4 X g.ifs tt)(ha:nC X after ta)
  {it:Addr} {fp:List Addr} {tn:Nat->Heap->Prop} {J:It} (T:Turn X.prog X.w X.K g.target J fp it tn) {pins:List (Addr×Obj)} {σ:St} {H:Hp} {s:IT} {End:St->Hp->Prop}
  (I:Inv X pins σ H s) (st:tn 0 s.heap) (hf:∀b∈fp,eL X pins H b) (h:gJ J tg tt ta End σ H) :
  L6 (model X.prog X.w) X.A (.compLoop e d (.ref it) acc X.env) (λr s'=>r=.ok .next/\∃σ' H',Inv X pins σ' H' s'/\End σ' H') s:=by
 obtain⟨W,⟨m0,w0⟩,turn⟩:=h;have mB:∀{H':Hp},(∀b∈fp,H' b=none)->∀b∈fp,eL X pins H' b:=λhn b hb=>⟨hn b hb,(hf b hb).2⟩;refine codeAny_loop (F.quiet _) (λn s'=>∃i σ' H',Inv X pins σ' H' s'/\tn i s'.heap/\(∀b∈fp,H' b=none)/\W i n σ' H') (λn s3 hI=>?_) m0 ⟨0,σ,H,I,st,λb hb=>(hf b hb).1,w0⟩;obtain⟨i,σ3,H3,I3,gK,Bn,w3⟩:=hI;rw[F.under];have yH:(model X.prog X.w).den (.compLoop e d (.ref it) acc X.env)=(gG g after e d (.ref it) acc X.env).onRaise (λx=>do noteFrame x X.env;theTreesLotGoes x):=by
  rw[<- F.turn];show (if (LK e d (.ref it) acc X.env).isFrame then _ else _)=_
  rw[F.xP];rfl
 rw[yH];refine wpAny_noted ?_;unfold gG;rcases turn i n σ3 H3 w3 with⟨stop,qn⟩|⟨go,N,hN,step⟩
 ·refine IU (K_ (IU (aZ (T.done X rfl rfl rfl hc i pins s3 σ3 H3 _ I3 (mB Bn) gK stop) λr s4 jR=>?_)));obtain⟨hr,I4⟩:=jR;subst hr;exact Jc ⟨rfl,σ3,H3,I4,qn⟩
 ·refine IU (K_ (IU (aZ (T.item X rfl rfl rfl hc i pins s3 σ3 H3 _ I3 (mB Bn) gK go) λr s4 m5=>?_)));obtain⟨u,hr,h4⟩:=m5;subst hr;refine IU (aZ h4 λ_ s5 sx=>?_);obtain⟨x,H5,I5,r5,y5,w_,E4⟩:=sx;have Fs:=I5.pinned (mB E4) (T.obj _ _ w_);refine IU (aZ (gz hx (hg _ s5 σ3 H5 x u _ Fs r5 (step x H5 y5))) λ_ s6 AL=>?_);obtain⟨σ6,H6,I6,q6⟩:=AL;refine IU (aZ (gz hx (ht _ s6 σ6 H6 _ I6 q6)) λok s7 DG=>?_);obtain⟨H7,I7,q7⟩:=DG;have tM:∀{σ8:St} {H8:Hp} {s8:IT},Inv X (pins++gQ fp s5.heap) σ8 H8 s8->N σ8 H8->∃m,m<n/\∃i σ' H',Inv X pins σ' H' s8/\tn i s8.heap/\(∀b∈fp,H' b=none)/\W i m σ' H':=λ{σ8 H8 s8} I8 n8=>by
   obtain⟨m',hm,w8⟩:=hN σ8 H8 n8;refine⟨m',hm,i+1,σ8,H8,I8.eR,T.keep _ _ _ w_ λb hb o e=>(I8.pin (b,o) (Jx _ (Jx _ (da hb e)))).1,λb hb=>?_,w8⟩;obtain⟨o,e,d⟩:=T.obj _ _ w_ b hb;exact(I8.pin (b,o) (Jx _ (Jx _ (da hb e)))).2.1
  cases ok with
  |false=>exact Jc ⟨rfl,tM I7 (by simpa using q7)⟩
  |true =>
   exact ha _ s7 σ6 H7 N _ _ _ I7 (by simpa using q7) λσ8 H8 s8 I8 n8=>Jc ⟨rfl,tM I8 n8⟩
theorem nu (hx:X.xe=λ_ _=>False)(hc:X.calm=true)(F:iy e d g acc X.env after)(hg:PG X g.target tg)(ht:l4 X g.ifs tt)(ha:nC X after ta)
  {it:Addr} {fp:List Addr} {tn:Nat->Heap->Prop} {J:It} (T:Turn X.prog X.w X.K g.target J fp it tn) {pins:List (Addr×Obj)} {σ:St} {H:Hp} {s:IT} {End:St->Hp->Prop}
  (I:Inv X pins σ H s) (st:tn 0 s.heap) (hf:∀b∈fp,eL X pins H b) (h:gJ J tg tt ta End σ H) :
  L6 (model X.prog X.w) X.A (.compStart e d (.ref it) acc X.env) (λr s'=>r=.ok .next/\∃σ' H',Inv X pins σ' H' s'/\End σ' H') s:=by
 have lp:=qb hx hc F hg ht ha T I st hf h;refine codeAny_of_tree ?_;rw[F.wY];have yH:(model X.prog X.w).den (.compStart e d (.ref it) acc X.env)=(compStart e d (.ref it) acc X.env).onRaise (λx=>do noteFrame x X.env;MG theWindowsPlace):=by
  show (if (ML e d (.ref it) acc X.env).isFrame then _ else _)=_
  rw[F.Am];rfl
 rw[yH];refine wpAny_notedAt ?_;unfold compStart;rw[F.cl];simp only[Option.elim_some,F.sync];show Js _ _ (ask >>= _) _ _ s;refine IU (wpAny_askSetting (wpAny_ite ?_))
 split
 ·first
   |exact IU (Jc (Jc (And.intro (F.quiet _) lp)))
   |exact Jc (And.intro (F.quiet _) lp)
 ·have h2:∀(E:IS->IT->Prop),Js (model X.prog X.w) X.A (pyIter (.ref it)) (λB6 s'=>(LK e d B6 acc X.env).quiet=true/\L6 (model X.prog X.w) X.A (.compLoop e d B6 acc X.env) (λr s'=>r=.ok .next/\∃σ' H',Inv X pins σ' H' s'/\End σ' H') s') E s :=
   λE=>T.self X.A 0 s _ E st ⟨F.quiet _,lp⟩
  first
   |exact IU (K6 (IU (K_ (IU (K7 (h2 _) (λB6 s' h'=>Jc h') λ_ _ x=>x)))))
   | (refine IU (K6 ?_);exact IU (K_ (IU (K7 (h2 _) (λB6 s' h'=>Jc h') λ_ _ x=>x))))
theorem gU {elt:Expr}{te:TE}{a:Addr}(hx:X.xe=λ_ _=>False)(he:PE X elt te):
  nC X (qH (tf elt (.ref a) X.env)) (λN σ H=>te σ H λv H1=>∃xs,H1 a=some (.lst xs)/\xs.length<Jg/\N σ (upd H1 a (.lst (xs++[v])))):=by
 intro pins s σ H N k Q E I h hk;unfold qH tf;refine IU (IU (aZ (gz hx (he pins s σ H _ I h)) λu s1 DF=>?_));obtain⟨v,H1,I1,r1,xs,hH,hz,q⟩:=DF;refine IU (aZ (gz hx <| i3 (X:=X) pins s1 σ H1 (.ref a) [v] (.ref a) [u] (λw' H'=>N σ H') I1 rfl (.cons r1 .nil) ⟨a,xs,v,rfl,rfl,hH,hz,q⟩) λ_ s2 Hi=>?_)
 obtain⟨_,H2,I2,_,q2⟩:=Hi;exact Jc (hk σ H2 s2 I2 q2)
end
section
variable {X:Cx}{e:Expr}
structure nD (X:Cx)(bQ:Sem IS)(o:HO):Prop where
 ok:∀(pins:List (Addr×Obj)) (s:IT) (σ:St) (H:Hp) (Q:IS->IT->Prop) (E:IS->IT->Prop),Inv X pins σ H s ->
  (∀a s',s.heap.objs.size<=a->H a=none->(∀b o,s.heap.get? b=some o->s'.heap.get? b=some o)->Inv X pins σ (upd H a o) s'->Q (.ref a) s')->Js (model X.prog X.w) X.A bQ Q E s
theorem g6:nD X (newList []) (.lst []) :=
 ⟨λpins s σ H Q E I h=>Lz (h _ _ (IZ _) I.fresh (λb o e=>Jb _ e) (I.AD (its:=[]) (t':=s.toks) .nil (Jp _)))⟩
theorem Inv.sameBut {pins:List (Addr×Obj)}{σ:St}{H:Hp}{s:IT}{C:Addr}{h':Heap}(I:Inv X pins σ H s)(f:eL X pins H C)(hs:Ln C s.heap h'):Inv X pins σ H {s with heap:=h'}:=by
 obtain⟨f0,f1,f2,f3,f4,f5⟩:=f;exact I.turned (t':=s.toks) (λb o hb e=>(hs.2 b hb).trans e) f0 f1 f3 f4 f5
end
end L2
namespace ST
open PySem PySem.SetTable
def cM (m:Nat)(p:Probe):Probe:=advance {mask:=m,place:=#[],dummies:=#[],finger:=0,led:=true,moves:=0,plain:=true} p
def GH (m:Nat)(h:Int):Probe:=probeStart {mask:=m,place:=#[],dummies:=#[],finger:=0,led:=true,moves:=0,plain:=true} h
noncomputable def FG (m:Nat)(h:Int):Nat->Probe
 |0=>GH m h
 |n+1=>cM m (FG m h n)
def Fx (m:Nat)(h:Int)(n:Nat):Nat:=(FG m h n).j
abbrev g (xs:Array Nat)(i:Nat):Nat:=xs.getD i 0
def H_ (xs:Array Nat):Prop:=∀i j,i<j->j<xs.size->g xs i<g xs j
def Gp (t:SetTable)(x:Nat):Prop:=∃i,i<t.place.size/\g t.place i=x
structure WF (t:SetTable)(hs:List Int):Prop where
 IM:t.dummies=#[]
 sz:t.place.size=hs.length
 Ip:H_ t.place
 IP:∀i,i<t.place.size->g t.place i<=t.mask
 G6:∃j,3<=j/\t.mask=2 ^ j-1
 room:t.place.size<=t.mask
 Iq:∀i h,hs[i]?=some h->∃n,Fx t.mask h n=g t.place i/\∀k,k<n->Gp t (Fx t.mask h k)
instance (t:SetTable):DecidablePred (Gp t):=λx=>decidable_of_iff (∃i,i<t.place.size/\g t.place i=x) Iff.rfl
end ST
namespace TS
open PySem PyProof.Rows
def bq:Bool->IV->Array IV->Nat->Nat->Nat->StateT Jm Sem (Option Nat):=sortPriv% PySem.Builtin.gallop
def fc:Array IV->Array IV->StateT Jm Sem (Array IV):=sortPriv% PySem.Builtin.mergeLo
def fe:Array IV->Array IV->StateT Jm Sem (Array IV):=sortPriv% PySem.Builtin.mergeHi
abbrev br (st:Jm)(g:Nat):Jm:=SortSt.mk' (kindOf st) (Jr st) (Jh st) g (KZ st)
theorem m8 (left:Bool)(key:IV)(arr:Array IV)(base n hint:Nat):bq left key arr base n hint=(do
  let ask:=λ(at_:Nat)=>(do
   let z <- elem' arr (base+at_)
   if left then lt' z key else return (<- lt' key z).map (!·):StateT Jm Sem (Option Bool))
  let mut before:=0
  let mut step:=1
  let mut u:=0
  let mut v:=0
  let some up <- ask hint|return none
  if up then
   let room:=n-hint
   for _ in [0:n] do
    if step >= room then break
    let some on <- ask (hint+step)|return none
    if !on then break
    before:=step
    step:=2*step+1
   u:=hint+before+1
   v:=hint+min step room
  else
   let room:=hint+1
   for _ in [0:n] do
    if step >= room then break
    let some hit <- ask (hint-step)|return none
    if hit then break
    before:=step
    step:=2*step+1
   u:=hint+1-min step room
   v:=hint-before
  for _ in [0:n] do
   if u >= v then break
   let mid:=u+(v-u) / 2
   let some on <- ask mid|return none
   if on then u:=mid+1 else v:=mid
  return some v):=rfl
theorem k_ (p q:Array IV):fc p q=(do
  rule "list.sort.merge-lo"
  let all:=p.size+q.size
  let rest:=λ(to:Array IV) (i j:Nat)=>to++p.extract i p.size++q.extract j q.size
  let tail:=λ(to:Array IV) (i j:Nat)=>to++q.extract j q.size++p.extract i p.size
  let mut to:Array IV:=#[<- elem' q 0]
  let mut i:=0
  let mut j:=1
  if j==q.size then return rest to i j
  if i+1==p.size then return tail to i j
  let mut mg:=gallopOf (<- get)
  for _ in [0:all] do
   let mut m:=0
   let mut n:=0
   for _ in [0:all] do
    let some wW <- lt' (<- elem' q j) (<- elem' p i)|return rest to i j
    if wW then
     to:=to.push (<- elem' q j);j:=j+1;n:=n+1;m:=0
     if j==q.size then return rest to i j
     if n >= mg then break
    else
     to:=to.push (<- elem' p i);i:=i+1;m:=m+1;n:=0
     if i+1==p.size then return tail to i j
     if m >= mg then break
   rule "list.sort.gallop"
   mg:=mg+1
   for _ in [0:all] do
    if mg>1 then mg:=mg-1
    modify λst=>br st mg
    let some k <- bq false (<- elem' q j) p i (p.size-i) 0|return rest to i j
    m:=k
    if k>0 then
     to:=to++p.extract i (i+k);i:=i+k
     if i+1==p.size then return tail to i j
     if i==p.size then return rest to i j
    to:=to.push (<- elem' q j);j:=j+1
    if j==q.size then return rest to i j
    let some k <- bq true (<- elem' p i) q j (q.size-j) 0|return rest to i j
    n:=k
    if k>0 then
     to:=to++q.extract j (j+k);j:=j+k
     if j==q.size then return rest to i j
    to:=to.push (<- elem' p i);i:=i+1
    if i+1==p.size then return tail to i j
    if m<7&&n<7 then break
   mg:=mg+1
   modify λst=>br st mg
  unsupported "internal:list.sort.merge-bound"):=rfl
theorem lg (p q:Array IV):fe p q=(do
  rule "list.sort.merge-hi"
  let all:=p.size+q.size
  let rest:=λ(to:Array IV) (i j:Nat)=>p.extract 0 i++q.extract 0 j++to.reverse
  let tail:=λ(to:Array IV) (i j:Nat)=>q.extract 0 j++p.extract 0 i++to.reverse
  let mut i:=p.size-1
  let mut j:=q.size
  let mut to:Array IV:=#[<- elem' p i]
  if i==0 then return rest to i j
  if j==1 then return tail to i j
  let mut mg:=gallopOf (<- get)
  for _ in [0:all] do
   let mut m:=0
   let mut n:=0
   for _ in [0:all] do
    let some wW <- lt' (<- elem' q (j-1)) (<- elem' p (i-1))|return rest to i j
    if wW then
     i:=i-1;to:=to.push (<- elem' p i);m:=m+1;n:=0
     if i==0 then return rest to i j
     if m >= mg then break
    else
     j:=j-1;to:=to.push (<- elem' q j);n:=n+1;m:=0
     if j==1 then return tail to i j
     if n >= mg then break
   rule "list.sort.gallop"
   mg:=mg+1
   for _ in [0:all] do
    if mg>1 then mg:=mg-1
    modify λst=>br st mg
    let some h <- bq false (<- elem' q (j-1)) p 0 i (i-1)|return rest to i j
    let k:=i-h
    m:=k
    if k>0 then
     to:=to++(p.extract h i).reverse;i:=h
     if i==0 then return rest to i j
    j:=j-1;to:=to.push (<- elem' q j)
    if j==1 then return tail to i j
    let some h <- bq true (<- elem' p (i-1)) q 0 j (j-1)|return rest to i j
    let k:=j-h
    n:=k
    if k>0 then
     to:=to++(q.extract h j).reverse;j:=h
     if j==1 then return tail to i j
     if j==0 then return rest to i j
    i:=i-1;to:=to.push (<- elem' p i)
    if i==0 then return rest to i j
    if m<7&&n<7 then break
   mg:=mg+1
   modify λst=>br st mg
  unsupported "internal:list.sort.merge-bound"):=rfl
theorem lj (i:Nat):mergeAt' i=(do
  let st <- get
  let (some (sa,na,pw),some (sb,nb,_)):=((Jh st)[i]?,(Jh st)[i+1]?)|unsupported "internal:list.sort.pending"
  set (K9 st (((Jh st).setIfInBounds i (sa,na+nb,pw)).eraseIdxIfInBounds (i+1)))
  let some k <- bq false (<- elem' (Jr st) sb) (Jr st) sa na 0|return false
  let (sa,na):=(sa+k,na-k)
  if na==0 then return true
  let some nb <- bq true (<- elem' (Jr st) (sa+na-1)) (Jr st) sb nb (nb-1)|return false
  if nb==0 then return true
  let x:=(Jr st).extract sa sb
  let y:=(Jr st).extract sb (sb+nb)
  let got <- if na<=nb then fc x y else fe x y
  modify λs2=>JX s2 (got.toList.zipIdx.foldl (λa (p,j)=>a.setIfInBounds (sa+j) p) (Jr s2))
  return (KZ (<- get)).isNone):=rfl
structure bj (c:IV->IV->Bool):Prop where
 BG:∀x y,c x y=true->c y x=false
 FK:∀x y z,c x z=true->c x y=true\/c y z=true
def le (c:IV->IV->Bool)(x y:IV):Prop:=c y x=false
section
variable {c:IV->IV->Bool}
theorem bj.refl (O:bj c)(x:IV):le c x x:=by
 cases h:c x x
 ·exact h
 ·exact O.BG _ _ h
theorem bj.trans (O:bj c){x y z:IV}(h1:le c x y)(h2:le c y z):le c x z:=by
 cases h:c z x
 ·exact h
 ·rcases O.FK _ y _ h with q|q
  ·exact absurd (q.symm.trans h2) (by simp)
  ·exact absurd (q.symm.trans h1) (by simp)
theorem bj.of_lt (O:bj c){x y:IV}(h:c x y=true):le c x y:=O.BG _ _ h
def el (a:Array IV)(i:Nat):IV:=a.getD i (Value.none,Value.none)
theorem ft {a:Array IV}{i:Nat}(h:i<a.size):a[i]?=some (el a i):=by
 rw[getElem?_pos a i h,el,KD,getElem?_pos a i h];rfl
theorem oE {a:Array IV}{i:Nat}{x:IV}(h:a[i]?=some x):el a i=x:=by
 rw[el,KD,h];rfl
theorem cC {a b:Array IV}{i j:Nat}(h:a[i]?=b[j]?):el a i=el b j:=by
 rw[el,el,KD,KD,h]
def SR (c:IV->IV->Bool)(a:Array IV)(lo hi:Nat):Prop:=∀i j,lo<=i->i<=j->j<hi->le c (el a i) (el a j)
def dh (prog:IY)(w:Je)(A:JQ)(E:IS->IT->Prop)(s:IT)(κ:KQ)(c:IV->IV->Bool)(S:IV->Prop):Prop :=
 ∀(x y:IV) (st:Jm) (Q:Option Bool->Jm->Prop),S x->S y->kindOf st=κ->Q (some (c x y)) st->wpS (model prog w) A E s (lt' x y) Q st
end
section
variable {prog:IY}{w:Je}{A:JQ}{E:IS->IT->Prop}{s:IT}{κ:KQ}{c:IV->IV->Bool}{S:IV->Prop}
theorem aC {a:Array IV}{i:Nat}{Q:IV->Jm->Prop}{st:Jm}(h:i<a.size)(q:Q (el a i) st):wpS (model prog w) A E s (elem' a i) Q st:=by
 rw[elem'_eq,ft h];exact I9 q
def cF (c:IV->IV->Bool)(left:Bool)(key:IV)(a:Array IV)(base i:Nat):Bool:=if left=true then c (el a (base+i)) key else !c key (el a (base+i))
theorem vG (O:bj c){left:Bool}{key:IV}{a:Array IV}{base n i j:Nat}(hs:SR c a base (base+n))(aF:i<=j)(hj:j<n)(h:cF c left key a base j=true):cF c left key a base i=true:=by
 have hl:=hs (base+i) (base+j) (by lia) (by lia) (by lia)
 unfold cF at *
 cases left with
 |true =>
  rw[if_pos rfl]at *
  rcases O.FK _ (el a (base+i)) _ h with q|q
  ·exact absurd (q.symm.trans hl) (by simp)
  ·exact q
 |false =>
  rw[if_neg (by simp)]at *
  rw[LG]at *
  exact O.trans hl h
theorem eQ (L:dh prog w A E s κ c S){left:Bool}{key:IV}{a:Array IV}{base n i:Nat}{Q:Option Bool->Jm->Prop}{st:Jm}(hk:kindOf st=κ)(hK:S key)(hA:∀i,i<n->S (el a (base+i)))(hn:base+n<=a.size)(hi:i<n)
  (h:Q (some (cF c left key a base i)) st):wpS (model prog w) A E s (do
   let z <- elem' a (base+i)
   if left then lt' z key else return (<- lt' key z).map (!·):StateT Jm Sem (Option Bool)) Q st:=by
 refine IX (aC (by lia) ?_)
 unfold cF at h;cases left with
 |true =>
  rw[if_pos rfl]at *
  exact L _ _ st Q (hA i hi) hK hk h
 |false =>
  rw[if_neg (by simp)]at *
  exact IX (L _ _ st _ hK (hA i hi) hk (I9 h))
theorem cf (O:bj c)(L:dh prog w A E s κ c S){left:Bool}{key:IV}{a:Array IV}{base n hint:Nat}{Q:Option Nat->Jm->Prop}{st:Jm}(hk:kindOf st=κ)(hK:S key)(hA:∀i,i<n->S (el a (base+i)))(hn:base+n<=a.size)
  (hs:SR c a base (base+n)) (hh:hint<n) (h:∀k,k<=n->(∀i,i<k->cF c left key a base i=true)->(∀i,k<=i->i<n->cF c left key a base i=false)->Q (some k) st) :
  wpS (model prog w) A E s (bq left key a base n hint) Q st:=by
 rw[m8];dsimp only;have up:∀{i j},i<=j->j<n->cF c left key a base j=true->cF c left key a base i=true:=λh1 h2 h3=>vG O hs h1 h2 h3;refine IX (eQ L hk hK hA hn hh ?_);dsimp only;have dn:∀{i j},i<=j->j<n->cF c left key a base i=false->cF c left key a base j=false:=λ{i j} h1 h2 h3=>by
  cases q:cF c left key a base j
  ·rfl
  ·rw[up h1 h2 q]at h3;exact absurd h3 (by simp)
 cases wq:cF c left key a base hint with
 |true =>
  rw[if_pos rfl];refine IX (Kc (JO (I:=λx r aj=>aj=st/\∃be cM,r=(none,be,cM)/\hint+be<n/\be<cM/\x+1<=cM/\cF c left key a base (hint+be)=true)
   (Q:=λr aj=>aj=st/\∃be cM,r=(none,be,cM)/\hint+be<n/\be<cM/\cF c left key a base (hint+be)=true/\(n-hint<=cM\/(hint+cM<n/\cF c left key a base (hint+cM)=false))) ?_ ?_ ?_) ?_)
  ·rintro x r aj _ hx ⟨rfl,be,cM,rfl,h1,h2,h3,h4⟩;dsimp only
   by_cases hr:cM >= n-hint
   ·rw[if_pos hr];exact I9 ⟨rfl,be,cM,rfl,h1,h2,h4,.inl hr⟩
   ·rw[if_neg hr];refine IX (eQ L hk hK hA hn (by omega) ?_)
    dsimp only;cases hb:cF c left key a base (hint+cM)with
    |true =>
     rw[if_neg (by simp)]
     exact I9 ⟨rfl,cM,_,rfl,by omega,by omega,by omega,hb⟩
    |false =>
     rw[if_pos (by simp)]
     exact I9 ⟨rfl,be,cM,rfl,h1,h2,h4,.inr ⟨by omega,hb⟩⟩
  ·rintro r aj ⟨rfl,be,cM,rfl,h1,h2,h3,h4⟩;exact⟨rfl,be,cM,rfl,h1,h2,h4,.inl (by omega)⟩
  ·exact⟨rfl,0,1,rfl,by omega,by omega,by omega,wq⟩
  rintro r aj ⟨e0,be,cM,rfl,h1,h2,h4,h5⟩;rw[e0];dsimp only;have g1:∀i,i<hint+be+1->cF c left key a base i=true:=λi hi=>up (j:=hint+be) (by omega) h1 h4
  have g2:∀i,hint+min cM (n-hint)<=i->i<n->cF c left key a base i=false:=λi hi gk=>by
   rcases h5 with q|⟨q1,q2⟩
   ·omega
   ·exact dn (i:=hint+cM) (by omega) gk q2
  refine IX (Kc (JO (I:=λx r aj=>aj=st/\∃u v,r=(none,u,v)/\u<=v/\v<=n/\v-u<=n-x/\(∀i,i<u->cF c left key a base i=true)/\(∀i,v<=i->i<n->cF c left key a base i=false))
   (Q:=λr aj=>aj=st/\∃v,r=(none,v,v)/\v<=n/\(∀i,i<v->cF c left key a base i=true)/\(∀i,v<=i->i<n->cF c left key a base i=false)) ?_ ?_ ?_) ?_)
  ·rintro x r aj _ hx ⟨rfl,u,v,rfl,h1,h2,h3,h4,h5⟩;dsimp only
   by_cases AM:u >= v
   ·rw[if_pos AM];obtain rfl:u=v:=by omega
    exact I9 ⟨rfl,u,rfl,h2,h4,h5⟩
   ·rw[if_neg AM];refine IX (eQ L hk hK hA hn (by omega) ?_)
    dsimp only;cases hb:cF c left key a base (u+(v-u) / 2)with
    |true =>
     rw[if_pos rfl];exact I9 ⟨rfl,_,v,rfl,by omega,h2,by omega,λi hi=>up (j:=u+(v-u) / 2) (by omega) (by omega) hb,h5⟩
    |false =>
     rw[if_neg (by simp)]
     exact I9 ⟨rfl,u,_,rfl,by omega,by omega,by omega,h4,λi hi gk=>dn (i:=u+(v-u) / 2) (by omega) (by omega) hb⟩
  ·rintro r aj ⟨rfl,u,v,rfl,h1,h2,h3,h4,h5⟩;obtain rfl:u=v:=by omega
   exact⟨rfl,u,rfl,h2,h4,h5⟩
  ·exact⟨rfl,_,_,rfl,by omega,by omega,by omega,by assumption,by assumption⟩
  ·rintro r aj ⟨rfl,v,rfl,h2,h4,h5⟩;exact I9 (h v h2 h4 h5)
 |false =>
  rw[if_neg (by simp)]
  refine IX (Kc (JO (I:=λx r aj=>aj=st/\∃be cM,r=(none,be,cM)/\be<=hint/\be<cM/\x+1<=cM/\cF c left key a base (hint-be)=false)
   (Q:=λr aj=>aj=st/\∃be cM,r=(none,be,cM)/\be<=hint/\be<cM/\cF c left key a base (hint-be)=false/\(hint+1<=cM\/(cM<=hint/\cF c left key a base (hint-cM)=true))) ?_ ?_ ?_) ?_)
  ·rintro x r aj _ hx ⟨rfl,be,cM,rfl,h1,h2,h3,h4⟩;dsimp only
   by_cases hr:cM >= hint+1
   ·rw[if_pos hr];exact I9 ⟨rfl,be,cM,rfl,h1,h2,h4,.inl hr⟩
   ·rw[if_neg hr];refine IX (eQ L hk hK hA hn (by omega) ?_)
    dsimp only;cases hb:cF c left key a base (hint-cM)with
    |true =>
     rw[if_pos rfl];exact I9 ⟨rfl,be,cM,rfl,h1,h2,h4,.inr ⟨by omega,hb⟩⟩
    |false =>
     rw[if_neg (by simp)]
     exact I9 ⟨rfl,cM,_,rfl,by omega,by omega,by omega,hb⟩
  ·rintro r aj ⟨rfl,be,cM,rfl,h1,h2,h3,h4⟩;exact⟨rfl,be,cM,rfl,h1,h2,h4,.inl (by omega)⟩
  ·exact⟨rfl,0,1,rfl,by omega,by omega,by omega,wq⟩
  rintro r aj ⟨e0,be,cM,rfl,h1,h2,h4,h5⟩;rw[e0];dsimp only;have g1:∀i,i<hint+1-min cM (hint+1)->cF c left key a base i=true:=λi hi=>by
   rcases h5 with q|⟨q1,q2⟩
   ·omega
   ·exact up (j:=hint-cM) (by omega) (by omega) q2
  have g2:∀i,hint-be<=i->i<n->cF c left key a base i=false:=λi hi gk=>dn (i:=hint-be) hi gk h4;refine IX (Kc (JO (I:=λx r aj=>aj=st/\∃u v,r=(none,u,v)/\u<=v/\v<=n/\v-u<=n-x/\(∀i,i<u->cF c left key a base i=true)/\(∀i,v<=i->i<n->cF c left key a base i=false))
   (Q:=λr aj=>aj=st/\∃v,r=(none,v,v)/\v<=n/\(∀i,i<v->cF c left key a base i=true)/\(∀i,v<=i->i<n->cF c left key a base i=false)) ?_ ?_ ?_) ?_)
  ·rintro x r aj _ hx ⟨rfl,u,v,rfl,h1,h2,h3,h4,h5⟩;dsimp only
   by_cases AM:u >= v
   ·rw[if_pos AM];obtain rfl:u=v:=by omega
    exact I9 ⟨rfl,u,rfl,h2,h4,h5⟩
   ·rw[if_neg AM];refine IX (eQ L hk hK hA hn (by omega) ?_)
    dsimp only;cases hb:cF c left key a base (u+(v-u) / 2)with
    |true =>
     rw[if_pos rfl];exact I9 ⟨rfl,_,v,rfl,by omega,h2,by omega,λi hi=>up (j:=u+(v-u) / 2) (by omega) (by omega) hb,h5⟩
    |false =>
     rw[if_neg (by simp)]
     exact I9 ⟨rfl,u,_,rfl,by omega,by omega,by omega,h4,λi hi gk=>dn (i:=u+(v-u) / 2) (by omega) (by omega) hb⟩
  ·rintro r aj ⟨rfl,u,v,rfl,h1,h2,h3,h4,h5⟩;obtain rfl:u=v:=by omega
   exact⟨rfl,u,rfl,h2,h4,h5⟩
  ·exact⟨rfl,_,_,rfl,by omega,by omega,by omega,by assumption,by assumption⟩
  ·rintro r aj ⟨rfl,v,rfl,h2,h4,h5⟩;exact I9 (h v h2 h4 h5)
end
section
variable {c:IV->IV->Bool}{p q:Array IV}{t:List IV}{i j:Nat}
theorem nJ {a:Array IV}{i:Nat}(h:i<a.size):a.toList.take (i+1)=a.toList.take i++[el a i]:=by
 have e:a.toList[i]?=some (el a i):=by rw[Jj];exact ft h
 rw[List.take_succ,e];rfl
theorem oF {a:Array IV}{i:Nat}(h:i<a.size):a.toList.drop i=el a i::a.toList.drop (i+1):=by
 have hl:i<a.toList.length:=by rw[Jn];exact h
 have e:a.toList[i]=el a i:=by
  have h1:=I_ hl;rw[Jj,ft h]at h1;exact(JN h1).symm
 rw[KO hl,e]
structure Mg (c:IV->IV->Bool)(p q:Array IV)(t:List IV)(i j:Nat):Prop where
 hi:i<=p.size
 hj:j<=q.size
 perm:t.Perm (p.toList.take i++q.toList.take j)
 dq:t.Pairwise (le c)
 ap:∀x∈t,∀k,i<=k->k<p.size->le c x (el p k)
 aq:∀x∈t,∀k,j<=k->k<q.size->le c x (el q k)
def Gd (c:IV->IV->Bool)(p q:Array IV)(t:List IV):Prop:=t.Perm (p.toList++q.toList)/\t.Pairwise (le c)
theorem ku {x:IV}(h:t.Pairwise (le c))(hx:∀y∈t,le c y x):(t++[x]).Pairwise (le c):=by
 rw[List.pairwise_append];exact⟨h,List.pairwise_singleton _ _,λy hy z hz=>by rw[Jk.mp hz];exact hx y hy⟩
theorem Mg.f6 (m:Mg c p q t i j)(hj:j<q.size)(sq:SR c q 0 q.size)(hle:∀k,i<=k->k<p.size->le c (el q j) (el p k)):Mg c p q (t++[el q j]) i (j+1) where
 hi:=m.hi
 hj:=hj
 perm:=by
  rw[nJ hj,<- J9];exact m.perm.append_right _
 dq:=ku m.dq λy hy=>m.aq y hy j (IZ _) hj
 ap:=λx hx k h1 h2=>by
  rcases Jq.mp hx with h|h
  ·exact m.ap x h k h1 h2
  ·rw[Jk.mp h];exact hle k h1 h2
 aq:=λx hx k h1 h2=>by
  rcases Jq.mp hx with h|h
  ·exact m.aq x h k (by lia) h2
  ·rw[Jk.mp h];exact sq j k (by lia) (by lia) h2
theorem Mg.f7 (m:Mg c p q t i j)(hi:i<p.size)(sp:SR c p 0 p.size)(hle:∀k,j<=k->k<q.size->le c (el p i) (el q k)):Mg c p q (t++[el p i]) (i+1) j where
 hi:=hi
 hj:=m.hj
 perm:=by
  rw[nJ hi];refine(m.perm.append_right _).trans ?_;rw[J9,J9];exact List.Perm.append_left _ List.perm_append_comm
 dq:=ku m.dq λy hy=>m.ap y hy i (IZ _) hi
 ap:=λx hx k h1 h2=>by
  rcases Jq.mp hx with h|h
  ·exact m.ap x h k (by lia) h2
  ·rw[Jk.mp h];exact sp i k (by lia) (by lia) h2
 aq:=λx hx k h1 h2=>by
  rcases Jq.mp hx with h|h
  ·exact m.aq x h k h1 h2
  ·rw[Jk.mp h];exact hle k h1 h2
theorem dH {a:Array IV}{i k:Nat}(h:i+k<a.size):(a.toList.drop i).take (k+1)=(a.toList.drop i).take k++[el a (i+k)]:=by
 have e:(a.toList.drop i)[k]?=some (el a (i+k)):=by rw[List.getElem?_drop,Jj];exact ft h
 rw[List.take_succ,e];rfl
theorem Mg.eV (m:Mg c p q t i j)(sp:SR c p 0 p.size):∀(k:Nat),i+k<=p.size->(∀x,x<k->∀y,j<=y->y<q.size->le c (el p (i+x)) (el q y))->Mg c p q (t++(p.toList.drop i).take k) (i+k) j
 |0,_,_=>by simpa using m
 |k+1,h,hle=>by
  have m':=Mg.eV m sp k (by lia) λx hx=>hle x (by lia)
  rw[dH (by lia),<- J9,<- Nat.add_assoc]
  exact m'.f7 (by lia) sp (hle k (by lia))
theorem Mg.eU (m:Mg c p q t i j)(sq:SR c q 0 q.size):∀(k:Nat),j+k<=q.size->(∀x,x<k->∀y,i<=y->y<p.size->le c (el q (j+x)) (el p y))->Mg c p q (t++(q.toList.drop j).take k) i (j+k)
 |0,_,_=>by simpa using m
 |k+1,h,hle=>by
  have m':=Mg.eU m sq k (by lia) λx hx=>hle x (by lia)
  rw[dH (by lia),<- J9,<- Nat.add_assoc]
  exact m'.f6 (by lia) sq (hle k (by lia))
theorem Mg.full (m:Mg c p q t p.size q.size):Gd c p q t:=by
 refine⟨?_,m.dq⟩;have h:=m.perm;rw[List.take_of_length_le (by rw[Jn];lia),List.take_of_length_le (by rw[Jn];lia)]at h
 exact h
theorem bh (a:Array IV)(i j:Nat):(a.extract i j).toList=(a.toList.drop i).take (j-i):=by
 rw[Array.toList_extract,List.extract_eq_take_drop]
theorem lN {a:Array IV}{i j:Nat}(h:a.size<=i):(a.toList.drop i).take (j-i)=[]:=by
 rw[LQ (by rw[Jn];exact h)]
 simp
theorem Mg.done {to:Array IV}(m:Mg c p q to.toList i j)(sp:SR c p 0 p.size)(sq:SR c q 0 q.size)(h:i=p.size\/j=q.size):Gd c p q (to++p.extract i p.size++q.extract j q.size).toList:=by
 rw[J_,J_,bh,bh];rcases h with rfl|rfl
 ·rw[lN (IZ _),Ku];have m':=m.eU sq (q.size-j) (by have:=m.hj;lia) λx hx y h1 h2=>by lia
  rw[show j+(q.size-j)=q.size by have:=m.hj;lia]at m'
  exact m'.full
 ·rw[lN (a:=q) (IZ _),Ku];have m':=m.eV sp (p.size-i) (by have:=m.hi;lia) λx hx y h1 h2=>by lia
  rw[show i+(p.size-i)=p.size by have:=m.hi;lia]at m'
  exact m'.full
theorem Mg.tail {to:Array IV}(O:bj c)(m:Mg c p q to.toList i j)(sp:SR c p 0 p.size)(sq:SR c q 0 q.size)(h:i+1=p.size)(hl:∀y,y<q.size->c (el q y) (el p (p.size-1))=true):Gd c p q (to++q.extract j q.size++p.extract i p.size).toList:=by
 rw[J_,J_,bh,bh];have m':=m.eU sq (q.size-j) (by have:=m.hj;lia) λx hx y h1 h2=>by
  rw[show y=p.size-1 by lia]
  exact O.of_lt (hl _ (by lia))
 rw[show j+(q.size-j)=q.size by have:=m.hj;lia]at m'
 have m2:=m'.eV sp (p.size-i) (by have:=m.hi;lia) λx hx y h1 h2=>by lia
 rw[show i+(p.size-i)=p.size by have:=m.hi;lia]at m2
 exact m2.full
theorem oR (to a:Array IV)(i k:Nat):(to++a.extract i (i+k)).toList=to.toList++(a.toList.drop i).take k:=by
 rw[J_,bh,show i+k-i=k by lia]
theorem Mg.start (O:bj c)(sp:SR c p 0 p.size)(sq:SR c q 0 q.size)(hq:0<q.size)(hp:0<p.size)(h:c (el q 0) (el p 0)=true):Mg c p q [el q 0] 0 1:=by
 have m:Mg c p q [] 0 0:=⟨Jp _,Jp _,(by simp),.nil,(λx hx=>by cases hx),(λx hx=>by cases hx)⟩
 exact m.f6 hq sq λk _ hk=>O.trans (O.of_lt h) (sp 0 k (by lia) (by lia) hk)
end
structure fX (st aj:Jm):Prop where
 kind:kindOf aj=kindOf st
 arr:Jr aj=Jr st
 pend:Jh aj=Jh st
 fail:KZ aj=KZ st
theorem fX.refl (st:Jm):fX st st:=⟨rfl,rfl,rfl,rfl⟩
theorem fX.wu {st aj:Jm}(e:fX st aj)(g:Nat):fX st (br aj g):=⟨e.kind,e.arr,e.pend,e.fail⟩
abbrev RI:=Array IV×Nat×Nat×Nat×Nat
abbrev RG:=Array IV×Nat×Nat×Nat×Nat×Nat
abbrev RO:=Array IV×Nat×Nat×Nat
noncomputable def Dn (p q t:Array IV)(i j mg m n:Nat):StateT Jm Sem (ForInStep (Option (Array IV)×RG)):=do
 let z <- elem' p i
 if (i+1+1==p.size)=true then pure (.done (some (t.push z++q.extract j++p.extract (i+1)),t.push z,i+1,j,mg,m,n))
 else if (decide (m<7)&&decide (n<7))=true then pure (.done (none,t.push z,i+1,j,mg,m,n)) else pure (.yield (none,t.push z,i+1,j,mg,m,n))
noncomputable def Dp (p q t:Array IV)(i j mg m n:Nat):StateT Jm Sem (ForInStep (Option (Array IV)×RG)):=do
 let y <- elem' q j
 if (j+1==q.size)=true then pure (.done (some (t.push y++p.extract i++q.extract (j+1)),t.push y,i,j+1,mg,m,n))
 else do
  let x <- elem' p i
  let r <- bq true x q (j+1) (q.size-(j+1)) 0
  match r with
  |some k=>if k>0 then (if (j+1+k==q.size)=true then pure (.done (some (t.push y++q.extract (j+1) (j+1+k)++p.extract i++q.extract (j+1+k)),t.push y++q.extract (j+1) (j+1+k),i,j+1+k,mg,m,k))
    else Dn p q (t.push y++q.extract (j+1) (j+1+k)) i (j+1+k) mg m k) else Dn p q (t.push y) i (j+1) mg m k
  |_=>pure (.done (some (t.push y++p.extract i++q.extract (j+1)),t.push y,i,j+1,mg,m,n))
noncomputable def AB (p q t:Array IV)(i j mg m n:Nat):StateT Jm Sem (ForInStep (Option (Array IV)×RG)):=do
 modify λst=>br st mg
 let y <- elem' q j
 let r <- bq false y p i (p.size-i) 0
 match r with
 |some k=>if k>0 then (if (i+k+1==p.size)=true then pure (.done (some (t++p.extract i (i+k)++q.extract j++p.extract (i+k)),t++p.extract i (i+k),i+k,j,mg,k,n))
   else if (i+k==p.size)=true then pure (.done (some (t++p.extract i (i+k)++p.extract (i+k)++q.extract j),t++p.extract i (i+k),i+k,j,mg,k,n))
   else Dp p q (t++p.extract i (i+k)) (i+k) j mg k n) else Dp p q t i j mg k n
 |_=>pure (.done (some (t++p.extract i++q.extract j),t,i,j,mg,m,n))
def G8 (p q:Array IV)(s:Option (Array IV)×RG):StateT Jm Sem (ForInStep (Option (Array IV)×RG)):=if s.2.2.2.2.1>1 then AB p q s.2.1 s.2.2.1 s.2.2.2.1 (s.2.2.2.2.1-1) s.2.2.2.2.2.1 s.2.2.2.2.2.2 else AB p q s.2.1 s.2.2.1 s.2.2.2.1 s.2.2.2.2.1 s.2.2.2.2.2.1 s.2.2.2.2.2.2
noncomputable def AA (p q:Array IV)(mg:Nat)(s:Option (Array IV)×RI):StateT Jm Sem (ForInStep (Option (Array IV)×RI)):=do
 let y <- elem' q s.2.2.2.1
 if (s.2.2.2.1+1==q.size)=true then pure (.done (some (s.2.1.push y++p.extract s.2.2.1++q.extract (s.2.2.2.1+1)),s.2.1.push y,s.2.2.1,s.2.2.2.1+1,0,s.2.2.2.2.2+1))
 else if s.2.2.2.2.2+1 >= mg then pure (.done (none,s.2.1.push y,s.2.2.1,s.2.2.2.1+1,0,s.2.2.2.2.2+1)) else pure (.yield (none,s.2.1.push y,s.2.2.1,s.2.2.2.1+1,0,s.2.2.2.2.2+1))
noncomputable def Az (p q:Array IV)(mg:Nat)(s:Option (Array IV)×RI):StateT Jm Sem (ForInStep (Option (Array IV)×RI)):=do
 let x <- elem' p s.2.2.1
 if (s.2.2.1+1+1==p.size)=true then pure (.done (some (s.2.1.push x++q.extract s.2.2.2.1++p.extract (s.2.2.1+1)),s.2.1.push x,s.2.2.1+1,s.2.2.2.1,s.2.2.2.2.1+1,0))
 else if s.2.2.2.2.1+1 >= mg then pure (.done (none,s.2.1.push x,s.2.2.1+1,s.2.2.2.1,s.2.2.2.2.1+1,0)) else pure (.yield (none,s.2.1.push x,s.2.2.1+1,s.2.2.2.1,s.2.2.2.2.1+1,0))
noncomputable def Dl (p q:Array IV)(mg:Nat)(s:Option (Array IV)×RI):StateT Jm Sem (ForInStep (Option (Array IV)×RI)):=do
 let y <- elem' q s.2.2.2.1
 let x <- elem' p s.2.2.1
 let r <- lt' y x
 match r with
 |some wW=>if wW=true then AA p q mg s else Az p q mg s
 |_=>pure (.done (some (s.2.1++p.extract s.2.2.1++q.extract s.2.2.2.1),s.2.1,s.2.2.1,s.2.2.2.1,s.2.2.2.2.1,s.2.2.2.2.2))
noncomputable def FT (p q:Array IV)(s:Option (Array IV)×RO):StateT Jm Sem (ForInStep (Option (Array IV)×RO)):=do
 let s1 <- forIn [:p.size+q.size] ((none,s.2.1,s.2.2.1,s.2.2.2.1,0,0):Option (Array IV)×RI) λ_ r=>Dl p q s.2.2.2.2 r
 match s1.1 with
 |some r=>pure (.done (some r,s1.2.1,s1.2.2.1,s1.2.2.2.1,s.2.2.2.2))
 |none=>do
  liftM (rule "list.sort.gallop")
  let s2 <- forIn [:p.size+q.size] ((none,s1.2.1,s1.2.2.1,s1.2.2.2.1,s.2.2.2.2+1,s1.2.2.2.2.1,s1.2.2.2.2.2):Option (Array IV)×RG) λ_ r=>G8 p q r
  match s2.1 with
  |some r=>pure (.done (some r,s2.2.1,s2.2.2.1,s2.2.2.2.1,s2.2.2.2.2.1))
  |none=>do
   modify λst=>br st (s2.2.2.2.2.1+1)
   pure (.yield (none,s2.2.1,s2.2.2.1,s2.2.2.2.1,s2.2.2.2.2.1+1))
theorem lb (p q:Array IV):fc p q=(do
  liftM (rule "list.sort.merge-lo")
  let y <- elem' q 0
  if (1==q.size)=true then pure (#[y]++p.extract 0++q.extract 1)
  else if (0+1==p.size)=true then pure (#[y]++q.extract 1++p.extract 0)
  else do
   let st <- get
   let s <- forIn [:p.size+q.size] ((none,#[y],0,1,gallopOf st):Option (Array IV)×RO) λ_ s=>FT p q s
   match s.1 with
   |some r=>pure r
   |none=>liftM (unsupported "internal:list.sort.merge-bound" : Sem (Array IV))):=by
 rw[k_];dsimp only;refine congrArg (bind _) (funext λ_=>?_);refine congrArg (bind _) (funext λy=>?_);refine congrArg (ite _ _) (congrArg (ite _ _) ?_);refine congrArg (bind _) (funext λy=>?_);refine congr (congrArg bind (congrArg _ (funext λ_=>funext λs=>?_))) (funext λs=>?_)
 ·refine congr (congrArg bind (congrArg _ (funext λ_=>funext λs=>?_))) (funext λs=>?_)
  ·rfl
  ·cases s.1
   ·refine congrArg (bind _) (funext λ_=>?_);refine congr (congrArg bind (congrArg _ (funext λ_=>funext λs=>?_))) (funext λs=>?_)
    ·rfl
    ·cases s.1 <;> rfl
   ·rfl
 ·cases s.1 <;> rfl
section
variable {prog:IY}{w:Je}{A:JQ}{E:IS->IT->Prop}{s:IT}{κ:KQ}{c:IV->IV->Bool}{S:IV->Prop}{p q:Array IV}
theorem qu {st:Jm}{Q:ForInStep (Option (Array IV)×RG)->Jm->Prop}{t:Array IV}{i j mg m n:Nat}(O:bj c)(sp:SR c p 0 p.size)(sq:SR c q 0 q.size)(hl:∀y,y<q.size->c (el q y) (el p (p.size-1))=true)(m3:Mg c p q t.toList i j)(hi:i+1<p.size)(g3:∀y,j<=y->y<q.size->le c (el p i) (el q y))
  (hd:∀out r,Gd c p q out.toList->Q (.done (some out,r)) st) (hn:∀t' m n,Mg c p q t'.toList (i+1) j->i+1+1<p.size->Q (.done (none,t',i+1,j,mg,m,n)) st/\Q (.yield (none,t',i+1,j,mg,m,n)) st):wpS (model prog w) A E s (Dn p q t i j mg m n) Q st:=by
 refine IX (aC (by lia) ?_)
 have m4:Mg c p q (t.push (el p i)).toList (i+1) j:=by
  rw[KC];exact m3.f7 (by lia) sp g3
 by_cases e5:(i+1+1==p.size)=true
 ·rw[if_pos e5];exact I9 (hd _ _ (m4.tail O sp sq (by simpa using e5) hl))
 rw[if_neg e5];have h5:i+1+1≠p.size:=by simpa using e5
 obtain⟨h6,h7⟩:=hn (t.push (el p i)) m n m4 (by lia)
 split
 ·exact I9 h6
 ·exact I9 h7
theorem qv {st:Jm}{Q:ForInStep (Option (Array IV)×RG)->Jm->Prop}{t:Array IV}{i j mg m n:Nat}(O:bj c)(L:dh prog w A E s κ c S)(hk:kindOf st=κ)(Sp:∀i,i<p.size->S (el p i))(Sq:∀i,i<q.size->S (el q i))(sp:SR c p 0 p.size)(sq:SR c q 0 q.size)(hl:∀y,y<q.size->c (el q y) (el p (p.size-1))=true)(m1:Mg c p q t.toList i j)(hi:i+1<p.size)(hj:j<q.size)(g1:∀y,i<=y->y<p.size->le c (el q j) (el p y))
  (hd:∀out r,Gd c p q out.toList->Q (.done (some out,r)) st) (hn:∀t' j' m n,Mg c p q t'.toList (i+1) j'->i+1+1<p.size->j<j'->j'<q.size->Q (.done (none,t',i+1,j',mg,m,n)) st/\Q (.yield (none,t',i+1,j',mg,m,n)) st):wpS (model prog w) A E s (Dp p q t i j mg m n) Q st:=by
 refine IX (aC hj ?_);have m2:Mg c p q (t.push (el q j)).toList i (j+1):=by
  rw[KC];exact m1.f6 hj sq g1
 by_cases e3:(j+1==q.size)=true
 ·rw[if_pos e3];exact I9 (hd _ _ (m2.done sp sq (.inr (by simpa using e3))))
 rw[if_neg e3];have h3:j+1≠q.size:=by simpa using e3
 refine IX (aC (by lia) (IX (cf O L hk (Sp _ (by lia)) (λx hx=>Sq _ (by lia)) (by lia) (λa b h1 h2 h3=>sq a b (by lia) h2 (by lia)) (by lia) λk k1 k2 k3=>?_)))
 have g3:∀y,j+1+k<=y->y<q.size->le c (el p i) (el q y):=λy h1 h2=>by
  have:=k3 (y-(j+1)) (by lia) (by lia)
  unfold cF at this;rw[if_pos rfl,show j+1+(y-(j+1))=y by lia]at this
  exact this
 dsimp only
 by_cases pX:k>0
 ·rw[if_pos pX];have m3:Mg c p q (t.push (el q j)++q.extract (j+1) (j+1+k)).toList i (j+1+k):=by
   rw[oR];exact m2.eU sq k (by lia) λx hx y h1 h2=>O.trans (O.of_lt (show c (el q (j+1+x)) (el p i)=true from k2 x hx)) (sp _ y (by lia) h1 h2)
  by_cases e4:(j+1+k==q.size)=true
  ·rw[if_pos e4];exact I9 (hd _ _ (m3.done sp sq (.inr (by simpa using e4))))
  rw[if_neg e4];have h4:j+1+k≠q.size:=by simpa using e4
  exact qu O sp sq hl m3 hi g3 hd λt' m n h1 h2=>hn t' _ m n h1 h2 (by lia) (by lia)
 ·rw[if_neg pX];exact qu O sp sq hl m2 hi (λy h1 h2=>g3 y (by lia) h2) hd λt' m n h1 h2=>hn t' _ m n h1 h2 (by lia) (by lia)
theorem wQ {st:Jm}{Q:ForInStep (Option (Array IV)×RG)->Jm->Prop}{t:Array IV}{i j mg m n:Nat}(O:bj c)(L:dh prog w A E s κ c S)(hk:kindOf st=κ)(Sp:∀i,i<p.size->S (el p i))(Sq:∀i,i<q.size->S (el q i))(sp:SR c p 0 p.size)(sq:SR c q 0 q.size)(hl:∀y,y<q.size->c (el q y) (el p (p.size-1))=true)(m0:Mg c p q t.toList i j)(hi:i+1<p.size)(hj:j<q.size)
  (hd:∀out r,Gd c p q out.toList->Q (.done (some out,r)) (br st mg)) (hn:∀t' i' j' m n,Mg c p q t'.toList i' j'->i'+1<p.size->j'<q.size->i+j<i'+j'->Q (.done (none,t',i',j',mg,m,n)) (br st mg)/\Q (.yield (none,t',i',j',mg,m,n)) (br st mg)):wpS (model prog w) A E s (AB p q t i j mg m n) Q st:=by
 refine IX (KG (IX (aC hj (IX (cf O L hk (Sq _ hj) (λx hx=>Sp _ (by lia)) (by lia) (λa b h1 h2 h3=>sp a b (by lia) h2 (by lia)) (by lia) λk k1 k2 k3=>?_)))))
 have g0:∀x,x<k->le c (el p (i+x)) (el q j):=λx hx=>by
  have:=k2 x hx;unfold cF at this;rw[if_neg (by simp),LG]at this
  exact this
 have g1:∀y,i+k<=y->y<p.size->le c (el q j) (el p y):=λy h1 h2=>by
  have:=k3 (y-i) (by lia) (by lia)
  unfold cF at this;rw[if_neg (by simp),Lv,show i+(y-i)=y by lia]at this
  exact O.of_lt this
 have IJ:i+k<p.size:=by
  rcases Nat.lt_or_ge (i+k) p.size with h8|Ga
  ·exact h8
  ·have h1:=g0 (p.size-1-i) (by lia)
   rw[show i+(p.size-1-i)=p.size-1 by lia]at h1
   exact absurd ((hl j hj).symm.trans h1) (by simp)
 dsimp only
 by_cases pX:k>0
 ·rw[if_pos pX];have m1:Mg c p q (t++p.extract i (i+k)).toList (i+k) j:=by
   rw[oR];exact m0.eV sp k (by lia) λx hx y h1 h2=>O.trans (g0 x hx) (sq j y (by lia) h1 h2)
  by_cases e1:(i+k+1==p.size)=true
  ·rw[if_pos e1];exact I9 (hd _ _ (m1.tail O sp sq (by simpa using e1) hl))
  rw[if_neg e1];have pZ:i+k+1≠p.size:=by simpa using e1
  rw[if_neg (by simp;lia)]
  exact qv O L hk Sp Sq sp sq hl m1 (by lia) hj g1 hd λt' j' m n h1 h2 h3 h4=>hn t' _ j' m n h1 h2 h4 (by lia)
 ·rw[if_neg pX];exact qv O L hk Sp Sq sp sq hl m0 hi hj (λy h1 h2=>g1 y (by lia) h2) hd λt' j' m n h1 h2 h3 h4=>hn t' _ j' m n h1 h2 h4 (by lia)
theorem wO {st:Jm}{Q:ForInStep (Option (Array IV)×RI)->Jm->Prop}{t:Array IV}{i j mg ma na:Nat}(O:bj c)(L:dh prog w A E s κ c S)(hk:kindOf st=κ)(Sp:∀i,i<p.size->S (el p i))(Sq:∀i,i<q.size->S (el q i))(sp:SR c p 0 p.size)(sq:SR c q 0 q.size)(hl:∀y,y<q.size->c (el q y) (el p (p.size-1))=true)(m:Mg c p q t.toList i j)(hi:i+1<p.size)(hj:j<q.size)
  (hd:∀out r,Gd c p q out.toList->Q (.done (some out,r)) st) (hn:∀t' i' j' m n,Mg c p q t'.toList i' j'->i'+1<p.size->j'<q.size->i+j<i'+j'->Q (.done (none,t',i',j',m,n)) st/\Q (.yield (none,t',i',j',m,n)) st):wpS (model prog w) A E s (Dl p q mg (none,t,i,j,ma,na)) Q st:=by
 unfold Dl AA Az;dsimp only;refine IX (aC hj (IX (aC (by lia) (IX (L _ _ st _ (Sq _ hj) (Sp _ (by lia)) hk ?_)))))
 dsimp only;cases hc:c (el q j) (el p i)with
 |true =>
  rw[if_pos rfl];refine IX (aC hj ?_);have m1:Mg c p q (t.push (el q j)).toList i (j+1):=by
   rw[KC];exact m.f6 hj sq λk h1 h2=>O.trans (O.of_lt hc) (sp i k (by lia) h1 h2)
  by_cases e3:(j+1==q.size)=true
  ·rw[if_pos e3];exact I9 (hd _ _ (m1.done sp sq (.inr (by simpa using e3))))
  rw[if_neg e3];have h3:j+1≠q.size:=by simpa using e3
  obtain⟨h6,h7⟩:=hn _ _ _ 0 (na+1) m1 hi (by lia) (by lia)
  split
  ·exact I9 h6
  ·exact I9 h7
 |false =>
  rw[if_neg (by simp)]
  refine IX (aC (by lia) ?_)
  have m1:Mg c p q (t.push (el p i)).toList (i+1) j:=by
   rw[KC];exact m.f7 (by lia) sp λk h1 h2=>O.trans (show le c (el p i) (el q j) from hc) (sq j k (by lia) h1 h2)
  by_cases e3:(i+1+1==p.size)=true
  ·rw[if_pos e3];exact I9 (hd _ _ (m1.tail O sp sq (by simpa using e3) hl))
  rw[if_neg e3];have h3:i+1+1≠p.size:=by simpa using e3
  obtain⟨h6,h7⟩:=hn _ _ _ (ma+1) 0 m1 (by lia) hj (by lia)
  split
  ·exact I9 h6
  ·exact I9 h7
theorem mn (O:bj c)(L:dh prog w A E s κ c S){Q:Array IV->Jm->Prop}{st:Jm}(hk:kindOf st=κ)(Sp:∀i,i<p.size->S (el p i))(Sq:∀i,i<q.size->S (el q i))(sp:SR c p 0 p.size)(sq:SR c q 0 q.size)
  (hp:0<p.size) (hq:0<q.size) (hf:c (el q 0) (el p 0)=true) (hl:∀y,y<q.size->c (el q y) (el p (p.size-1))=true) (h:∀to aj,fX st aj->Gd c p q to.toList->Q to aj) :
  wpS (model prog w) A E s (fc p q) Q st:=by
 rw[lb];refine IX (L1 (K6 ⟨rfl,?_⟩));refine IX (aC hq ?_);have m0:Mg c p q (#[el q 0]:Array IV).toList 0 1:=Mg.start O sp sq hq hp hf
 by_cases h1:(1==q.size)=true
 ·rw[if_pos h1];exact I9 (h _ st (fX.refl st) (m0.done sp sq (.inr (by simpa using h1))))
 rw[if_neg h1]
 by_cases h2:(0+1==p.size)=true
 ·rw[if_pos h2];exact I9 (h _ st (fX.refl st) (m0.tail O sp sq (by simpa using h2) hl))
 rw[if_neg h2];refine IX (Ly ?_);refine IX (Kc (JO
  (I:=λx r aj=>fX st aj/\∃to i j mg,r=(none,to,i,j,mg)/\Mg c p q to.toList i j/\i+1<p.size/\j<q.size/\x<i+j)
  (Q:=λr aj=>fX st aj/\∃out r',r=(some out,r')/\Gd c p q out.toList) ?_ ?_ ?_) ?_)
 ·rintro x r aj _ hx ⟨e,to,i,j,mg,rfl,m,hi,hj,hb⟩;unfold FT;dsimp only;refine IX (Kc (JO
   (I:=λy r aj=>fX st aj/\∃to i j m n,r=(none,to,i,j,m,n)/\Mg c p q to.toList i j/\i+1<p.size/\j<q.size/\x+min y 1<i+j)
   (Q:=λr aj=>fX st aj/\((∃out r',r=(some out,r')/\Gd c p q out.toList)\/∃to i j m n,r=(none,to,i,j,m,n)/\Mg c p q to.toList i j/\i+1<p.size/\j<q.size/\x+1<i+j)) ?_ ?_ ?_) ?_)
  ·rintro y r dk _ hy ⟨e2,to,i,j,ma,na,rfl,m,hi,hj,hb⟩;exact wO O L (e2.kind.trans hk) Sp Sq sp sq hl m hi hj (λout r h=>⟨e2,.inl ⟨_,_,rfl,h⟩⟩) λt' i' j' m n h1 h2 h3 h4=>⟨⟨e2,.inr ⟨_,_,_,_,_,rfl,h1,h2,h3,by lia⟩⟩,⟨e2,_,_,_,_,_,rfl,h1,h2,h3,by lia⟩⟩
  ·rintro r dk ⟨e2,to,i,j,ma,na,rfl,m,hi,hj,hb⟩;exact⟨e2,.inr ⟨_,_,_,_,_,rfl,m,hi,hj,by lia⟩⟩
  ·exact⟨e,_,_,_,_,_,rfl,m,hi,hj,by lia⟩
  rintro r dk ⟨e2,⟨out,r',rfl,g⟩|⟨to,i,j,ma,na,rfl,m,hi,hj,hb⟩⟩
  ·exact I9 ⟨e2,_,_,rfl,g⟩
  dsimp only;refine IX (L1 (K6 ⟨rfl,?_⟩));refine IX (Kc (JO
   (I:=λy r aj=>fX st aj/\∃to i j mg m n,r=(none,to,i,j,mg,m,n)/\Mg c p q to.toList i j/\i+1<p.size/\j<q.size/\x+1<i+j)
   (Q:=λr aj=>fX st aj/\((∃out r',r=(some out,r')/\Gd c p q out.toList)\/∃to i j mg m n,r=(none,to,i,j,mg,m,n)/\Mg c p q to.toList i j/\i+1<p.size/\j<q.size/\x+1<i+j)) ?_ ?_ ?_) ?_)
  ·rintro y r dk _ hy ⟨e2,to,i,j,mg,ma,na,rfl,m,hi,hj,hb⟩;show wpS (model prog w) A E s (if mg>1 then AB p q to i j (mg-1) ma na else AB p q to i j mg ma na) _ dk
   split <;> exact wQ O L (e2.kind.trans hk) Sp Sq sp sq hl m hi hj (λout r h=>⟨e2.wu _,.inl ⟨_,_,rfl,h⟩⟩) λt' i' j' m n h1 h2 h3 h4=>⟨⟨e2.wu _,.inr ⟨_,_,_,_,_,_,rfl,h1,h2,h3,by lia⟩⟩,⟨e2.wu _,_,_,_,_,_,_,rfl,h1,h2,h3,by lia⟩⟩
  ·rintro r dk ⟨e2,to,i,j,mg,ma,na,rfl,m,hi,hj,hb⟩;exact⟨e2,.inr ⟨_,_,_,_,_,_,rfl,m,hi,hj,hb⟩⟩
  ·exact⟨e2,_,_,_,_,_,_,rfl,m,hi,hj,hb⟩
  rintro r dk ⟨e2,⟨out,r',rfl,g⟩|⟨to,i,j,mg,ma,na,rfl,m,hi,hj,hb⟩⟩
  ·exact I9 ⟨e2,_,_,rfl,g⟩
  dsimp only;refine IX (KG (I9 ⟨e2.wu _,_,_,_,_,rfl,m,hi,hj,by lia⟩))
 ·rintro r aj ⟨e,to,i,j,mg,rfl,m,hi,hj,hb⟩
  exfalso
  rw[show max 0 (p.size+q.size)=p.size+q.size by lia]at hb
  lia
 ·exact⟨fX.refl st,_,_,_,_,rfl,m0,by simp at h2;lia,by simp at h1;lia,by lia⟩
 ·rintro r aj ⟨e,out,r',rfl,g⟩;exact I9 (h _ aj e g)
end
section
variable {c:IV->IV->Bool}{p q:Array IV}{t:List IV}{i j:Nat}
structure Mh (c:IV->IV->Bool)(p q:Array IV)(t:List IV)(i j:Nat):Prop where
 hi:i<=p.size
 hj:j<=q.size
 perm:t.Perm (p.toList.drop i++q.toList.drop j)
 dq:t.Pairwise (le c)
 ap:∀x∈t,∀k,k<i->le c (el p k) x
 aq:∀x∈t,∀k,k<j->le c (el q k) x
theorem ji {a:Array IV}{i:Nat}(h0:0<i)(h:i<=a.size):a.toList.drop (i-1)=el a (i-1)::a.toList.drop i:=by
 rw[oF (by lia),show i-1+1=i by lia]
theorem Mh.f7 (m:Mh c p q t i j)(h0:0<i)(sp:SR c p 0 p.size)(hle:∀k,k<j->le c (el q k) (el p (i-1))):Mh c p q (el p (i-1)::t) (i-1) j where
 hi:=by have:=m.hi;lia
 hj:=m.hj
 perm:=by
  rw[ji h0 m.hi];exact m.perm.cons _
 dq:=Kb.mpr ⟨λx hx=>m.ap x hx _ (by lia),m.dq⟩
 ap:=λx hx k hk=>by
  rcases Ja.mp hx with rfl|h
  ·exact sp k (i-1) (by lia) (by lia) (by have:=m.hi;lia)
  ·exact m.ap x h k (by lia)
 aq:=λx hx k hk=>by
  rcases Ja.mp hx with rfl|h
  ·exact hle k hk
  ·exact m.aq x h k hk
theorem Mh.f6 (m:Mh c p q t i j)(h0:0<j)(sq:SR c q 0 q.size)(hle:∀k,k<i->le c (el p k) (el q (j-1))):Mh c p q (el q (j-1)::t) i (j-1) where
 hi:=m.hi
 hj:=by have:=m.hj;lia
 perm:=by
  rw[ji h0 m.hj];exact(m.perm.cons _).trans List.perm_middle.symm
 dq:=Kb.mpr ⟨λx hx=>m.aq x hx _ (by lia),m.dq⟩
 ap:=λx hx k hk=>by
  rcases Ja.mp hx with rfl|h
  ·exact hle k hk
  ·exact m.ap x h k hk
 aq:=λx hx k hk=>by
  rcases Ja.mp hx with rfl|h
  ·exact sq k (j-1) (by lia) (by lia) (by have:=m.hj;lia)
  ·exact m.aq x h k (by lia)
theorem iS {a:Array IV}{i k:Nat}(h0:k<i)(h:i<=a.size):(a.toList.drop (i-(k+1))).take (k+1)=el a (i-(k+1))::(a.toList.drop (i-k)).take k:=by
 rw[oF (by lia),show i-(k+1)+1=i-k by lia,List.take_succ_cons]
theorem Mh.qJ (m:Mh c p q t i j)(sp:SR c p 0 p.size):∀(k:Nat),k<=i->(∀x,i-k<=x->x<i->∀y,y<j->le c (el q y) (el p x))->Mh c p q ((p.toList.drop (i-k)).take k++t) (i-k) j
 |0,_,_=>by simpa using m
 |k+1,h,hle=>by
  have m':=Mh.qJ m sp k (by lia) λx h1 h2=>hle x (by lia) h2
  rw[iS (by lia) m.hi,List.cons_append]
  exact m'.f7 (by lia) sp λy hy=>hle _ (by lia) (by lia) y hy
theorem Mh.qI (m:Mh c p q t i j)(sq:SR c q 0 q.size):∀(k:Nat),k<=j->(∀x,j-k<=x->x<j->∀y,y<i->le c (el p y) (el q x))->Mh c p q ((q.toList.drop (j-k)).take k++t) i (j-k)
 |0,_,_=>by simpa using m
 |k+1,h,hle=>by
  have m':=Mh.qI m sq k (by lia) λx h1 h2=>hle x (by lia) h2
  rw[iS (by lia) m.hj,List.cons_append]
  exact m'.f6 (by lia) sq λy hy=>hle _ (by lia) (by lia) y hy
theorem Mh.eV (m:Mh c p q t i j)(sp:SR c p 0 p.size){h:Nat}(hh:h<=i)(hle:∀x,h<=x->x<i->∀y,y<j->le c (el q y) (el p x)):Mh c p q ((p.toList.drop h).take (i-h)++t) h j:=by
 have m':=m.qJ sp (i-h) (by lia) λx h1 h2=>hle x (by lia) h2
 rw[show i-(i-h)=h by lia]at m'
 exact m'
theorem Mh.eU (m:Mh c p q t i j)(sq:SR c q 0 q.size){h:Nat}(hh:h<=j)(hle:∀x,h<=x->x<j->∀y,y<i->le c (el p y) (el q x)):Mh c p q ((q.toList.drop h).take (j-h)++t) i h:=by
 have m':=m.qI sq (j-h) (by lia) λx h1 h2=>hle x (by lia) h2
 rw[show j-(j-h)=h by lia]at m'
 exact m'
theorem Mh.full (m:Mh c p q t 0 0):Gd c p q t:=⟨m.perm,m.dq⟩
theorem Af (a b to:Array IV)(i j:Nat):(a.extract 0 i++b.extract 0 j++to.reverse).toList=(a.toList.drop 0).take (i-0)++((b.toList.drop 0).take (j-0)++to.toList.reverse):=by
 rw[J_,J_,bh,bh,Array.toList_reverse,J9]
theorem Mh.done {to:Array IV}(m:Mh c p q to.toList.reverse i j)(sp:SR c p 0 p.size)(sq:SR c q 0 q.size)(h:i=0\/j=0):Gd c p q (p.extract 0 i++q.extract 0 j++to.reverse).toList:=by
 rw[Af];rcases h with rfl|rfl
 ·have m':=m.eU sq (h:=0) (Jp _) λx _ _ y hy=>by lia
  exact(m'.eV sp (h:=0) (Jp _) λx _ hx=>by lia).full
 ·have m':=m.eU sq (h:=0) (Jp _) λx _ hx=>by lia
  exact(m'.eV sp (h:=0) (Jp _) λx _ hx y hy=>by lia).full
theorem Mh.tail {to:Array IV}(O:bj c)(m:Mh c p q to.toList.reverse i j)(sp:SR c p 0 p.size)(sq:SR c q 0 q.size)(h:j=1)(hf:c (el q 0) (el p 0)=true):Gd c p q (q.extract 0 j++p.extract 0 i++to.reverse).toList:=by
 rw[Af];subst h;have m':=m.eV sp (h:=0) (Jp _) λx _ hx y hy=>by
  obtain rfl:y=0:=by lia
  exact O.trans (O.of_lt hf) (sp 0 x (by lia) (by lia) (by have:=m.hi;lia))
 exact(m'.eU sq (h:=0) (Jp _) λx _ _ y hy=>by lia).full
theorem eZ (to:Array IV)(x:IV):(to.push x).toList.reverse=x::to.toList.reverse:=by
 rw[KC,L8];rfl
theorem oQ (to a:Array IV)(h i:Nat):(to++(a.extract h i).reverse).toList.reverse=(a.toList.drop h).take (i-h)++to.toList.reverse:=by
 rw[J_,L8,Array.toList_reverse,List.reverse_reverse,bh]
theorem Mh.start (sp:SR c p 0 p.size)(O:bj c)(hp:0<p.size)(hl:∀y,y<q.size->c (el q y) (el p (p.size-1))=true):Mh c p q [el p (p.size-1)] (p.size-1) q.size:=by
 have m:Mh c p q [] p.size q.size:=⟨IZ _,IZ _,by rw[LQ (by simp),LQ (by simp)];exact .refl _,.nil,(λx hx=>by cases hx),(λx hx=>by cases hx)⟩
 exact m.f7 hp sp λk hk=>O.of_lt (hl k hk)
end
abbrev RJ:=Nat×Nat×Array IV×Nat×Nat
abbrev RH:=Nat×Nat×Array IV×Nat×Nat×Nat
abbrev RP:=Nat×Nat×Array IV×Nat
noncomputable def EJ (p q t:Array IV)(i j mg m n:Nat):StateT Jm Sem (ForInStep (Option (Array IV)×RH)):=do
 let z <- elem' p (i-1)
 if (i-1==0)=true then pure (.done (some (p.extract 0 (i-1)++q.extract 0 j++(t.push z).reverse),i-1,j,t.push z,mg,m,n))
 else if (decide (m<7)&&decide (n<7))=true then pure (.done (none,i-1,j,t.push z,mg,m,n)) else pure (.yield (none,i-1,j,t.push z,mg,m,n))
noncomputable def EK (p q t:Array IV)(i j mg m n:Nat):StateT Jm Sem (ForInStep (Option (Array IV)×RH)):=do
 let y <- elem' q (j-1)
 if (j-1==1)=true then pure (.done (some (q.extract 0 (j-1)++p.extract 0 i++(t.push y).reverse),i,j-1,t.push y,mg,m,n))
 else do
  let x <- elem' p (i-1)
  let r <- bq true x q 0 (j-1) (j-1-1)
  match r with
  |some h=>if j-1-h>0 then (if (h==1)=true then pure (.done (some (q.extract 0 h++p.extract 0 i++(t.push y++(q.extract h (j-1)).reverse).reverse),i,h,t.push y++(q.extract h (j-1)).reverse,mg,m,j-1-h))
    else if (h==0)=true then pure (.done (some (p.extract 0 i++q.extract 0 h++(t.push y++(q.extract h (j-1)).reverse).reverse),i,h,t.push y++(q.extract h (j-1)).reverse,mg,m,j-1-h))
    else EJ p q (t.push y++(q.extract h (j-1)).reverse) i h mg m (j-1-h)) else EJ p q (t.push y) i (j-1) mg m (j-1-h)
  |_=>pure (.done (some (p.extract 0 i++q.extract 0 (j-1)++(t.push y).reverse),i,j-1,t.push y,mg,m,n))
noncomputable def Be (p q t:Array IV)(i j mg m n:Nat):StateT Jm Sem (ForInStep (Option (Array IV)×RH)):=do
 modify λst=>br st mg
 let y <- elem' q (j-1)
 let r <- bq false y p 0 i (i-1)
 match r with
 |some h=>if i-h>0 then (if (h==0)=true then pure (.done (some (p.extract 0 h++q.extract 0 j++(t++(p.extract h i).reverse).reverse),h,j,t++(p.extract h i).reverse,mg,i-h,n))
   else EK p q (t++(p.extract h i).reverse) h j mg (i-h) n) else EK p q t i j mg (i-h) n
 |_=>pure (.done (some (p.extract 0 i++q.extract 0 j++t.reverse),i,j,t,mg,m,n))
def HD (p q:Array IV)(s:Option (Array IV)×RH):StateT Jm Sem (ForInStep (Option (Array IV)×RH)):=if s.2.2.2.2.1>1 then Be p q s.2.2.2.1 s.2.1 s.2.2.1 (s.2.2.2.2.1-1) s.2.2.2.2.2.1 s.2.2.2.2.2.2 else Be p q s.2.2.2.1 s.2.1 s.2.2.1 s.2.2.2.2.1 s.2.2.2.2.2.1 s.2.2.2.2.2.2
noncomputable def EI (p q t:Array IV)(mg i j m:Nat):StateT Jm Sem (ForInStep (Option (Array IV)×RJ)):=do
 let x <- elem' p (i-1)
 if (i-1==0)=true then pure (.done (some (p.extract 0 (i-1)++q.extract 0 j++(t.push x).reverse),i-1,j,t.push x,m+1,0))
 else if m+1 >= mg then pure (.done (none,i-1,j,t.push x,m+1,0)) else pure (.yield (none,i-1,j,t.push x,m+1,0))
noncomputable def EH (p q t:Array IV)(mg i j n:Nat):StateT Jm Sem (ForInStep (Option (Array IV)×RJ)):=do
 let y <- elem' q (j-1)
 if (j-1==1)=true then pure (.done (some (q.extract 0 (j-1)++p.extract 0 i++(t.push y).reverse),i,j-1,t.push y,0,n+1))
 else if n+1 >= mg then pure (.done (none,i,j-1,t.push y,0,n+1)) else pure (.yield (none,i,j-1,t.push y,0,n+1))
noncomputable def F9 (p q t:Array IV)(mg i j m n:Nat):StateT Jm Sem (ForInStep (Option (Array IV)×RJ)):=do
 let y <- elem' q (j-1)
 let x <- elem' p (i-1)
 let r <- lt' y x
 match r with
 |some wW=>if wW=true then EI p q t mg i j m else EH p q t mg i j n
 |_=>pure (.done (some (p.extract 0 i++q.extract 0 j++t.reverse),i,j,t,m,n))
noncomputable def F8 (p q:Array IV)(s:Option (Array IV)×RP):StateT Jm Sem (ForInStep (Option (Array IV)×RP)):=do
 let s1 <- forIn [:p.size+q.size] ((none,s.2.1,s.2.2.1,s.2.2.2.1,0,0):Option (Array IV)×RJ) λ_ r=>F9 p q r.2.2.2.1 s.2.2.2.2 r.2.1 r.2.2.1 r.2.2.2.2.1 r.2.2.2.2.2
 match s1.1 with
 |some r=>pure (.done (some r,s1.2.1,s1.2.2.1,s1.2.2.2.1,s.2.2.2.2))
 |none=>do
  liftM (rule "list.sort.gallop")
  let s2 <- forIn [:p.size+q.size] ((none,s1.2.1,s1.2.2.1,s1.2.2.2.1,s.2.2.2.2+1,s1.2.2.2.2.1,s1.2.2.2.2.2):Option (Array IV)×RH) λ_ r=>HD p q r
  match s2.1 with
  |some r=>pure (.done (some r,s2.2.1,s2.2.2.1,s2.2.2.2.1,s2.2.2.2.2.1))
  |none=>do
   modify λst=>br st (s2.2.2.2.2.1+1)
   pure (.yield (none,s2.2.1,s2.2.2.1,s2.2.2.2.1,s2.2.2.2.2.1+1))
theorem lh (p q:Array IV):fe p q=(do
  liftM (rule "list.sort.merge-hi")
  let y <- elem' p (p.size-1)
  if (p.size-1==0)=true then pure (p.extract 0 (p.size-1)++q.extract 0++#[y].reverse)
  else if (q.size==1)=true then pure (q.extract 0++p.extract 0 (p.size-1)++#[y].reverse)
  else do
   let st <- get
   let s <- forIn [:p.size+q.size] ((none,p.size-1,q.size,#[y],gallopOf st):Option (Array IV)×RP) λ_ s=>F8 p q s
   match s.1 with
   |some r=>pure r
   |none=>liftM (unsupported "internal:list.sort.merge-bound" : Sem (Array IV))):=by
 rw[lg];dsimp only;refine congrArg (bind _) (funext λ_=>?_);refine congrArg (bind _) (funext λy=>?_);refine congrArg (ite _ _) (congrArg (ite _ _) ?_);refine congrArg (bind _) (funext λy=>?_);refine congr (congrArg bind (congrArg _ (funext λ_=>funext λs=>?_))) (funext λs=>?_)
 ·refine congr (congrArg bind (congrArg _ (funext λ_=>funext λs=>?_))) (funext λs=>?_)
  ·rfl
  ·cases s.1
   ·refine congrArg (bind _) (funext λ_=>?_);refine congr (congrArg bind (congrArg _ (funext λ_=>funext λs=>?_))) (funext λs=>?_)
    ·rfl
    ·cases s.1 <;> rfl
   ·rfl
 ·cases s.1 <;> rfl
section
variable {prog:IY}{w:Je}{A:JQ}{E:IS->IT->Prop}{s:IT}{κ:KQ}{c:IV->IV->Bool}{S:IV->Prop}{p q:Array IV}
theorem qw {st:Jm}{Q:ForInStep (Option (Array IV)×RH)->Jm->Prop}{t:Array IV}{i j mg m n:Nat}(sp:SR c p 0 p.size)(sq:SR c q 0 q.size)(m3:Mh c p q t.toList.reverse i j)(hi:0<i)(g3:∀k,k<j->le c (el q k) (el p (i-1)))
  (hd:∀out r,Gd c p q out.toList->Q (.done (some out,r)) st) (hn:∀t' m n,Mh c p q t'.toList.reverse (i-1) j->0<i-1->Q (.done (none,i-1,j,t',mg,m,n)) st/\Q (.yield (none,i-1,j,t',mg,m,n)) st):wpS (model prog w) A E s (EJ p q t i j mg m n) Q st:=by
 have gk:=m3.hi;refine IX (aC (by lia) ?_)
 have m4:Mh c p q (t.push (el p (i-1))).toList.reverse (i-1) j:=by
  rw[eZ];exact m3.f7 hi sp g3
 by_cases e5:(i-1==0)=true
 ·rw[if_pos e5];exact I9 (hd _ _ (m4.done sp sq (.inl (by simpa using e5))))
 rw[if_neg e5];have h5:i-1≠0:=by simpa using e5
 obtain⟨h6,h7⟩:=hn (t.push (el p (i-1))) m n m4 (by lia)
 split
 ·exact I9 h6
 ·exact I9 h7
theorem qx {st:Jm}{Q:ForInStep (Option (Array IV)×RH)->Jm->Prop}{t:Array IV}{i j mg m n:Nat}(O:bj c)(L:dh prog w A E s κ c S)(hk:kindOf st=κ)(Sp:∀i,i<p.size->S (el p i))(Sq:∀i,i<q.size->S (el q i))(sp:SR c p 0 p.size)(sq:SR c q 0 q.size)(hf:c (el q 0) (el p 0)=true)(m1:Mh c p q t.toList.reverse i j)(hi:0<i)(hj:1<j)(g1:∀x,x<i->le c (el p x) (el q (j-1)))
  (hd:∀out r,Gd c p q out.toList->Q (.done (some out,r)) st) (hn:∀t' j' m n,Mh c p q t'.toList.reverse (i-1) j'->0<i-1->1<j'->j'<j->Q (.done (none,i-1,j',t',mg,m,n)) st/\Q (.yield (none,i-1,j',t',mg,m,n)) st):wpS (model prog w) A E s (EK p q t i j mg m n) Q st:=by
 have mi:=m1.hi;have mj:=m1.hj;refine IX (aC (by lia) ?_)
 have m2:Mh c p q (t.push (el q (j-1))).toList.reverse i (j-1):=by
  rw[eZ];exact m1.f6 (by lia) sq g1
 by_cases e3:(j-1==1)=true
 ·rw[if_pos e3];exact I9 (hd _ _ (m2.tail O sp sq (by simpa using e3) hf))
 rw[if_neg e3];have h3:j-1≠1:=by simpa using e3
 refine IX (aC (by lia) (IX (cf O L hk (Sp _ (by lia)) (λx hx=>Sq _ (by lia)) (by lia) (λa b h1 h2 h3=>sq a b (by lia) h2 (by lia)) (by lia) λh k1 k2 k3=>?_)))
 have g2:∀x,x<h->c (el q x) (el p (i-1))=true:=λx hx=>by
  have:=k2 x hx;unfold cF at this;rw[if_pos rfl,Ml]at this;exact this
 have g4:∀x,h<=x->x<j-1->le c (el p (i-1)) (el q x):=λx h1 h2=>by
  have:=k3 x h1 h2;unfold cF at this;rw[if_pos rfl,Ml]at this;exact this
 have hh:0<h:=by
  rcases Nat.eq_zero_or_pos h with z|z
  ·subst z;have h2:=O.trans (sp 0 (i-1) (by lia) (by lia) (by lia)) (g4 0 (IZ _) (by lia))
   exact absurd (hf.symm.trans h2) (by simp)
  ·exact z
 dsimp only
 by_cases pX:j-1-h>0
 ·rw[if_pos pX];have m3:Mh c p q (t.push (el q (j-1))++(q.extract h (j-1)).reverse).toList.reverse i h:=by
   rw[oQ];exact m2.eU sq k1 λx h1 h2 y hy=>O.trans (sp y (i-1) (by lia) (by lia) (by lia)) (g4 x h1 h2)
  by_cases e4:(h==1)=true
  ·rw[if_pos e4];exact I9 (hd _ _ (m3.tail O sp sq (by simpa using e4) hf))
  rw[if_neg e4];have h4:h≠1:=by simpa using e4
  rw[if_neg (by simp;lia)]
  exact qw sp sq m3 hi (λk hk=>O.of_lt (g2 k hk)) hd λt' m n h1 h2=>hn t' _ m n h1 h2 (by lia) (by lia)
 ·rw[if_neg pX];exact qw sp sq m2 hi (λk hk=>O.of_lt (g2 k (by lia))) hd λt' m n h1 h2=>hn t' _ m n h1 h2 (by lia) (by lia)
theorem wU {st:Jm}{Q:ForInStep (Option (Array IV)×RH)->Jm->Prop}{t:Array IV}{i j mg m n:Nat}(O:bj c)(L:dh prog w A E s κ c S)(hk:kindOf st=κ)(Sp:∀i,i<p.size->S (el p i))(Sq:∀i,i<q.size->S (el q i))(sp:SR c p 0 p.size)(sq:SR c q 0 q.size)(hf:c (el q 0) (el p 0)=true)(m0:Mh c p q t.toList.reverse i j)(hi:0<i)(hj:1<j)
  (hd:∀out r,Gd c p q out.toList->Q (.done (some out,r)) (br st mg)) (hn:∀t' i' j' m n,Mh c p q t'.toList.reverse i' j'->0<i'->1<j'->i'+j'<i+j->Q (.done (none,i',j',t',mg,m,n)) (br st mg)/\Q (.yield (none,i',j',t',mg,m,n)) (br st mg)):wpS (model prog w) A E s (Be p q t i j mg m n) Q st:=by
 have mi:=m0.hi;have mj:=m0.hj;refine IX (KG (IX (aC (by lia) (IX (cf O L hk (Sq _ (by lia)) (λx hx=>Sp _ (by lia)) (by lia) (λa b h1 h2 h3=>sp a b (by lia) h2 (by lia)) (by lia) λh k1 k2 k3=>?_)))))
 have g0:∀x,x<h->le c (el p x) (el q (j-1)):=λx hx=>by
  have:=k2 x hx;unfold cF at this;rw[if_neg (by simp),LG,Ml]at this
  exact this
 have g5:∀x,h<=x->x<i->le c (el q (j-1)) (el p x):=λx h1 h2=>by
  have:=k3 x h1 h2;unfold cF at this;rw[if_neg (by simp),Lv,Ml]at this
  exact O.of_lt this
 dsimp only
 by_cases pX:i-h>0
 ·rw[if_pos pX];have m1:Mh c p q (t++(p.extract h i).reverse).toList.reverse h j:=by
   rw[oQ];exact m0.eV sp k1 λx h1 h2 y hy=>O.trans (sq y (j-1) (by lia) (by lia) (by lia)) (g5 x h1 h2)
  by_cases e1:(h==0)=true
  ·rw[if_pos e1];exact I9 (hd _ _ (m1.done sp sq (.inl (by simpa using e1))))
  rw[if_neg e1];have pZ:h≠0:=by simpa using e1
  exact qx O L hk Sp Sq sp sq hf m1 (by lia) hj g0 hd λt' j' m n h1 h2 h3 h4=>hn t' _ j' m n h1 h2 h3 (by lia)
 ·rw[if_neg pX];exact qx O L hk Sp Sq sp sq hf m0 hi hj (λx hx=>g0 x (by lia)) hd λt' j' m n h1 h2 h3 h4=>hn t' _ j' m n h1 h2 h3 (by lia)
theorem wR {st:Jm}{Q:ForInStep (Option (Array IV)×RJ)->Jm->Prop}{t:Array IV}{i j mg ma na:Nat}(O:bj c)(L:dh prog w A E s κ c S)(hk:kindOf st=κ)(Sp:∀i,i<p.size->S (el p i))(Sq:∀i,i<q.size->S (el q i))(sp:SR c p 0 p.size)(sq:SR c q 0 q.size)(hf:c (el q 0) (el p 0)=true)(m:Mh c p q t.toList.reverse i j)(hi:0<i)(hj:1<j)
  (hd:∀out r,Gd c p q out.toList->Q (.done (some out,r)) st) (hn:∀t' i' j' m n,Mh c p q t'.toList.reverse i' j'->0<i'->1<j'->i'+j'<i+j->Q (.done (none,i',j',t',m,n)) st/\Q (.yield (none,i',j',t',m,n)) st):wpS (model prog w) A E s (F9 p q t mg i j ma na) Q st:=by
 have gk:=m.hi;have jT:=m.hj;refine IX (aC (by lia) (IX (aC (by lia) (IX (L _ _ st _ (Sq _ (by lia)) (Sp _ (by lia)) hk ?_)))))
 dsimp only;cases hc:c (el q (j-1)) (el p (i-1))with
 |true =>
  rw[if_pos rfl];refine IX (aC (by lia) ?_)
  have m1:Mh c p q (t.push (el p (i-1))).toList.reverse (i-1) j:=by
   rw[eZ];exact m.f7 hi sp λk hk=>O.trans (sq k (j-1) (by lia) (by lia) (by lia)) (O.of_lt hc)
  by_cases e3:(i-1==0)=true
  ·rw[if_pos e3];exact I9 (hd _ _ (m1.done sp sq (.inl (by simpa using e3))))
  rw[if_neg e3];have h3:i-1≠0:=by simpa using e3
  obtain⟨h6,h7⟩:=hn _ _ _ (ma+1) 0 m1 (by lia) hj (by lia)
  split
  ·exact I9 h6
  ·exact I9 h7
 |false =>
  rw[if_neg (by simp)]
  refine IX (aC (by lia) ?_)
  have m1:Mh c p q (t.push (el q (j-1))).toList.reverse i (j-1):=by
   rw[eZ];exact m.f6 (by lia) sq λk hk=>O.trans (sp k (i-1) (by lia) (by lia) (by lia)) (show le c (el p (i-1)) (el q (j-1)) from hc)
  by_cases e3:(j-1==1)=true
  ·rw[if_pos e3];exact I9 (hd _ _ (m1.tail O sp sq (by simpa using e3) hf))
  rw[if_neg e3];have h3:j-1≠1:=by simpa using e3
  obtain⟨h6,h7⟩:=hn _ _ _ 0 (na+1) m1 hi (by lia) (by lia)
  split
  ·exact I9 h6
  ·exact I9 h7
theorem mq (O:bj c)(L:dh prog w A E s κ c S){Q:Array IV->Jm->Prop}{st:Jm}(hk:kindOf st=κ)(Sp:∀i,i<p.size->S (el p i))(Sq:∀i,i<q.size->S (el q i))(sp:SR c p 0 p.size)(sq:SR c q 0 q.size)
  (hp:0<p.size) (hq:0<q.size) (hf:c (el q 0) (el p 0)=true) (hl:∀y,y<q.size->c (el q y) (el p (p.size-1))=true) (h:∀to aj,fX st aj->Gd c p q to.toList->Q to aj) :
  wpS (model prog w) A E s (fe p q) Q st:=by
 rw[lh];refine IX (L1 (K6 ⟨rfl,?_⟩));refine IX (aC (by lia) ?_)
 have m0:Mh c p q (#[el p (p.size-1)]:Array IV).toList.reverse (p.size-1) q.size:=Mh.start sp O hp hl
 by_cases h1:(p.size-1==0)=true
 ·rw[if_pos h1];exact I9 (h _ st (fX.refl st) (m0.done sp sq (.inl (by simpa using h1))))
 rw[if_neg h1];have pZ:p.size-1≠0:=by simpa using h1
 by_cases h2:(q.size==1)=true
 ·rw[if_pos h2];exact I9 (h _ st (fX.refl st) (m0.tail O sp sq (by simpa using h2) hf))
 rw[if_neg h2];have sL:q.size≠1:=by simpa using h2
 refine IX (Ly ?_);refine IX (Kc (JO
  (I:=λx r aj=>fX st aj/\∃i j to mg,r=(none,i,j,to,mg)/\Mh c p q to.toList.reverse i j/\0<i/\1<j/\i+j+x<p.size+q.size)
  (Q:=λr aj=>fX st aj/\∃out r',r=(some out,r')/\Gd c p q out.toList) ?_ ?_ ?_) ?_)
 ·rintro x r aj _ hx ⟨e,i,j,to,mg,rfl,m,hi,hj,hb⟩;unfold F8;dsimp only;refine IX (Kc (JO
   (I:=λy r aj=>fX st aj/\∃i j to m n,r=(none,i,j,to,m,n)/\Mh c p q to.toList.reverse i j/\0<i/\1<j/\i+j+x+min y 1<p.size+q.size)
   (Q:=λr aj=>fX st aj/\((∃out r',r=(some out,r')/\Gd c p q out.toList)\/∃i j to m n,r=(none,i,j,to,m,n)/\Mh c p q to.toList.reverse i j/\0<i/\1<j/\i+j+x+1<p.size+q.size)) ?_ ?_ ?_) ?_)
  ·rintro y r dk _ hy ⟨e2,i,j,to,ma,na,rfl,m,hi,hj,hb⟩;exact wR O L (e2.kind.trans hk) Sp Sq sp sq hf m hi hj (λout r h=>⟨e2,.inl ⟨_,_,rfl,h⟩⟩) λt' i' j' m n h1 h2 h3 h4=>⟨⟨e2,.inr ⟨_,_,_,_,_,rfl,h1,h2,h3,by lia⟩⟩,⟨e2,_,_,_,_,_,rfl,h1,h2,h3,by lia⟩⟩
  ·rintro r dk ⟨e2,i,j,to,ma,na,rfl,m,hi,hj,hb⟩;exact⟨e2,.inr ⟨_,_,_,_,_,rfl,m,hi,hj,by lia⟩⟩
  ·exact⟨e,_,_,_,_,_,rfl,m,hi,hj,by lia⟩
  rintro r dk ⟨e2,⟨out,r',rfl,g⟩|⟨i,j,to,ma,na,rfl,m,hi,hj,hb⟩⟩
  ·exact I9 ⟨e2,_,_,rfl,g⟩
  dsimp only;refine IX (L1 (K6 ⟨rfl,?_⟩));refine IX (Kc (JO
   (I:=λy r aj=>fX st aj/\∃i j to mg m n,r=(none,i,j,to,mg,m,n)/\Mh c p q to.toList.reverse i j/\0<i/\1<j/\i+j+x+1<p.size+q.size)
   (Q:=λr aj=>fX st aj/\((∃out r',r=(some out,r')/\Gd c p q out.toList)\/∃i j to mg m n,r=(none,i,j,to,mg,m,n)/\Mh c p q to.toList.reverse i j/\0<i/\1<j/\i+j+x+1<p.size+q.size)) ?_ ?_ ?_) ?_)
  ·rintro y r dk _ hy ⟨e2,i,j,to,mg,ma,na,rfl,m,hi,hj,hb⟩;show wpS (model prog w) A E s (if mg>1 then Be p q to i j (mg-1) ma na else Be p q to i j mg ma na) _ dk
   split <;> exact wU O L (e2.kind.trans hk) Sp Sq sp sq hf m hi hj (λout r h=>⟨e2.wu _,.inl ⟨_,_,rfl,h⟩⟩) λt' i' j' m n h1 h2 h3 h4=>⟨⟨e2.wu _,.inr ⟨_,_,_,_,_,_,rfl,h1,h2,h3,by lia⟩⟩,⟨e2.wu _,_,_,_,_,_,_,rfl,h1,h2,h3,by lia⟩⟩
  ·rintro r dk ⟨e2,i,j,to,mg,ma,na,rfl,m,hi,hj,hb⟩;exact⟨e2,.inr ⟨_,_,_,_,_,_,rfl,m,hi,hj,hb⟩⟩
  ·exact⟨e2,_,_,_,_,_,_,rfl,m,hi,hj,hb⟩
  rintro r dk ⟨e2,⟨out,r',rfl,g⟩|⟨i,j,to,mg,ma,na,rfl,m,hi,hj,hb⟩⟩
  ·exact I9 ⟨e2,_,_,rfl,g⟩
  dsimp only;refine IX (KG (I9 ⟨e2.wu _,_,_,_,_,rfl,m,hi,hj,by lia⟩))
 ·rintro r aj ⟨e,i,j,to,mg,rfl,m,hi,hj,hb⟩
  exfalso
  rw[show max 0 (p.size+q.size)=p.size+q.size by lia]at hb
  lia
 ·exact⟨fX.refl st,_,_,_,_,rfl,m0,by lia,by lia,by lia⟩
 ·rintro r aj ⟨e,out,r',rfl,g⟩;exact I9 (h _ aj e g)
end
section
variable {c:IV->IV->Bool}{a b:Array IV}
structure Rg (a b:Array IV)(lo hi:Nat):Prop where
 perm:b.Perm a
 out:∀k,(k<lo\/hi<=k)->el b k=el a k
theorem Rg.refl {lo hi:Nat}:Rg a a lo hi:=⟨MF _,λ_ _=>rfl⟩
theorem Rg.trans {d:Array IV}{lo hi:Nat}(x:Rg a b lo hi)(y:Rg b d lo hi):Rg a d lo hi:=⟨y.perm.trans x.perm,λk h=>(y.out k h).trans (x.out k h)⟩
theorem Rg.mono {lo hi wb gk:Nat}(x:Rg a b lo hi)(h1:wb<=lo)(h2:hi<=gk):Rg a b wb gk:=⟨x.perm,λk h=>x.out k (by lia)⟩
theorem Rg.size {lo hi:Nat}(x:Rg a b lo hi):b.size=a.size:=x.perm.size_eq
theorem SR.congr {lo hi:Nat}(h:SR c a lo hi)(e:∀k,lo<=k->k<hi->el b k=el a k):SR c b lo hi:=λi j h1 h2 h3=>by
 rw[e i h1 (by lia),e j (by lia) h3]
 exact h i j h1 h2 h3
def NI (c:IV->IV->Bool)(a:Array IV)(lo hi:Nat):Prop:=∀i j,lo<=i->i<=j->j<hi->le c (el a j) (el a i)
theorem a_ {i j:Nat}(hj:j<=a.size)(k:Nat):el (mirror a i j ((j-i) / 2)) k=if i<=k/\k<j then el a (i+j-1-k) else el a k:=by
 have e:=getElem?_mirror_all (i:=i) hj k
 by_cases h:i<=k/\k<j
 ·rw[if_pos h]at e ⊢
  exact cC e
 ·rw[if_neg h]at e ⊢
  exact cC e
theorem cY {i j:Nat}(hj:j<=a.size):Rg a (mirror a i j ((j-i) / 2)) i j:=⟨mirror_perm _ _ _ _,λk h=>by rw[a_ hj,if_neg (by lia)]⟩
theorem i4 {i j:Nat}(hj:j<=a.size)(h:NI c a i j):SR c (mirror a i j ((j-i) / 2)) i j:=λx y h1 h2 h3=>by
 rw[a_ hj,a_ hj,if_pos (by lia),if_pos (by lia)]
 exact h _ _ (by lia) (by lia) (by lia)
theorem fN {lo i j:Nat}(ED:lo<=i)(hj:j<=a.size)(h:NI c a lo j)(he:∀x y,i<=x->x<j->i<=y->y<j->le c (el a x) (el a y)):NI c (mirror a i j ((j-i) / 2)) lo j:=λx y h1 h2 h3=>by
 rw[a_ hj,a_ hj]
 by_cases hx:i<=x/\x<j
 ·rw[if_pos hx,if_pos (by lia)]
  exact he _ _ (by lia) (by lia) (by lia) (by lia)
 ·rw[if_neg hx]
  by_cases hy:i<=y/\y<j
  ·rw[if_pos hy];exact h _ _ (by lia) (by lia) (by lia)
  ·rw[if_neg hy];exact h _ _ h1 h2 h3
theorem SR.snoc {lo n:Nat}(O:bj c)(h:SR c a lo (lo+n))(h1:0<n)(hn:le c (el a (lo+n-1)) (el a (lo+n))):SR c a lo (lo+(n+1)):=λi j h2 h3 h4=>by
 by_cases hj:j<lo+n
 ·exact h i j h2 h3 hj
 ·obtain rfl:j=lo+n:=by lia
  by_cases hi:i<lo+n
  ·exact O.trans (h i (lo+n-1) h2 (by lia) (by lia)) hn
  ·obtain rfl:i=lo+n:=by lia
   exact O.refl _
theorem NI.snoc {lo n:Nat}(O:bj c)(h:NI c a lo (lo+n))(h1:0<n)(hn:le c (el a (lo+n)) (el a (lo+n-1))):NI c a lo (lo+(n+1)):=λi j h2 h3 h4=>by
 by_cases hj:j<lo+n
 ·exact h i j h2 h3 hj
 ·obtain rfl:j=lo+n:=by lia
  by_cases hi:i<lo+n
  ·exact O.trans hn (h i (lo+n-1) h2 (by lia) (by lia))
  ·obtain rfl:i=lo+n:=by lia
   exact O.refl _
theorem SR.one {lo:Nat}(O:bj c):SR c a lo (lo+1):=λi j h1 h2 h3=>by
 obtain rfl:i=j:=by lia
 exact O.refl _
end
structure fW (κ:KQ)(a₀:Array IV)(st:Jm):Prop where
 kind:kindOf st=κ
 fail:KZ st=none
 perm:(Jr st).Perm a₀
section
variable {prog:IY}{w:Je}{A:JQ}{E:IS->IT->Prop}{s:IT}{κ:KQ}{c:IV->IV->Bool}{a₀:Array IV}
theorem fW.size {st:Jm}(h:fW κ a₀ st):(Jr st).size=a₀.size:=h.perm.size_eq
theorem fW.mem {st:Jm}(h:fW κ a₀ st){i:Nat}(hi:i<a₀.size):el (Jr st) i∈a₀.toList:=by
 have h1:i<(Jr st).size:=by rw[h.size];exact hi
 refine(KJ.mp h.perm).mem_iff.mp ?_;have:=ft h1;rw[<- Jj]at this;exact JI this
theorem fW.set {st:Jm}{b:Array IV}{lo hi:Nat}(h:fW κ a₀ st)(r:Rg (Jr st) b lo hi):fW κ a₀ (JX st b):=⟨h.kind,h.fail,r.perm.trans h.perm⟩
theorem js (L:dh prog w A E s κ c (·∈a₀.toList)){st:Jm}{i j:Nat}{Q:Option Bool->Jm->Prop}(h:fW κ a₀ st)(hi:i<a₀.size)(hj:j<a₀.size)(q:Q (some (c (el (Jr st) i) (el (Jr st) j))) st):
  wpS (model prog w) A E s (ltAt' i j) Q st:=by
 rw[ltAt'_eq];refine IX (Ly ?_);exact IX (aC (by rw[h.size];exact hi) (IX (aC (by rw[h.size];exact hj) (L _ _ st Q (h.mem hi) (h.mem hj) h.kind q))))
theorem eP (L:dh prog w A E s κ c (·∈a₀.toList)){st:Jm}{b:Array IV}{i j lo hi:Nat}{Q:Option Bool->Jm->Prop}(h:fW κ a₀ st)(R:Rg (Jr st) b lo hi)(hi:i<a₀.size)(hj:j<a₀.size)(q:Q (some (c (el b i) (el b j))) (JX st b)):
  wpS (model prog w) A E s (ltAt' i j) Q (JX st b):=js L (h.set R) hi hj q
theorem eO {st:Jm}{i j:Nat}{Q:Unit->Jm->Prop}(q:Q () (JX st (mirror (Jr st) i j ((j-i) / 2)))):wpS (model prog w) A E s (reverseSlice' i j) Q st:=by
 rw[reverseSlice'_eq];exact KG q
theorem qy (O:bj c)(L:dh prog w A E s κ c (·∈a₀.toList)){st:Jm}{lo cW:Nat}{Q:Option Nat->Jm->Prop}(h0:fW κ a₀ st)(h1:1<=cW)(hn:lo+cW<=a₀.size)
  (h:∀n b,1<=n->n<=cW->Rg (Jr st) b lo (lo+cW)->SR c b lo (lo+n)->Q (some n) (JX st b)):wpS (model prog w) A E s (countRun' lo cW) Q st:=by
 rw[countRun'_eq];dsimp only;refine IX (Kc (JO (I:=λx r aj=>aj=st/\∃n,r=(none,n)/\n=x/\SR c (Jr st) lo (lo+n))
  (Q:=λr aj=>aj=st/\∃n,r=(none,n)/\1<=n/\n<=cW/\SR c (Jr st) lo (lo+n)/\(n=cW\/(n<cW/\c (el (Jr st) (lo+n)) (el (Jr st) (lo+n-1))=true))) ?_ ?_ ?_) ?_)
 ·rintro x r aj AK hx ⟨rfl,n,rfl,rfl,hs⟩;dsimp only;refine IX (js L h0 (by lia) (by lia) ?_)
  dsimp only;cases hc:c (el (Jr aj) (lo+n)) (el (Jr aj) (lo+n-1))with
  |true =>
   rw[if_pos rfl];exact I9 ⟨rfl,n,rfl,AK,by lia,hs,.inr ⟨by lia,hc⟩⟩
  |false =>
   rw[if_neg (by simp)]
   exact I9 ⟨rfl,n+1,rfl,rfl,hs.snoc O AK hc⟩
 ·rintro r aj ⟨rfl,n,rfl,hx,hs⟩;exact⟨rfl,n,rfl,by lia,by lia,hs,.inl (by lia)⟩
 ·exact⟨rfl,1,rfl,rfl,SR.one O⟩
 rintro r aj ⟨e0,n,rfl,F5,Ca,hs,hc⟩;rw[e0];dsimp only
 by_cases Ew:(n==cW)=true
 ·rw[if_pos Ew];exact I9 (h n (Jr st) F5 Ca Rg.refl hs)
 rw[if_neg Ew];have Hs:n≠cW:=by simpa using Ew
 have hc:c (el (Jr st) (lo+n)) (el (Jr st) (lo+n-1))=true:=by
  rcases hc with q|q
  ·lia
  ·exact q.2
 refine(λ(key:∀b,Rg (Jr st) b lo (lo+cW)->NI c b lo (lo+(n+1))->wpS (model prog w) A E s ?cont Q (JX st b))=>?main) ?key
 case main =>
  by_cases h2:n>1
  ·rw[if_pos h2];refine IX (js L h0 (by lia) (by lia) ?_)
   dsimp only;cases hr:c (el (Jr st) lo) (el (Jr st) (lo+n-1))with
   |true =>
    rw[if_pos rfl];exact I9 (h n (Jr st) F5 Ca Rg.refl hs)
   |false =>
    rw[if_neg (by simp)]
    refine IX (eO ?_);have hz:lo+n<=(Jr st).size:=by have:=h0.size;lia
    have R0:Rg (Jr st) (mirror (Jr st) lo (lo+n) ((lo+n-lo) / 2)) lo (lo+cW):=(cY hz).mono (IZ _) (by lia)
    have all:∀u v,lo<=u->u<lo+n->lo<=v->v<lo+n->le c (el (Jr st) u) (el (Jr st) v):=λu v h1 h2 h3 h4 =>
     O.trans (hs u (lo+n-1) h1 (by lia) (by lia)) (O.trans hr (hs lo v (IZ _) h3 h4))
    have N0:NI c (mirror (Jr st) lo (lo+n) ((lo+n-lo) / 2)) lo (lo+(n+1)):=by
     refine NI.snoc O (fN (IZ _) hz (λu v h1 h2 h3=>all v u (by lia) (by lia) h1 (by lia)) λu v h1 h2 h3 h4=>all u v h1 h2 h3 h4) (by lia) ?_
     rw[a_ hz,a_ hz,if_neg (by lia),if_pos (by lia)]
     exact O.trans (O.of_lt hc) (all _ _ (by lia) (by lia) (by lia) (by lia))
    exact key _ R0 N0
  ·rw[if_neg h2];have N0:NI c (Jr st) lo (lo+(n+1)):=NI.snoc O (λu v h1 h2 h3=>by
    obtain rfl:u=v:=by lia
    exact O.refl _) (by lia) (O.of_lt hc)
   show wpS _ _ _ _ _ Q (JX st (Jr st));exact key _ Rg.refl N0
 case key =>
  intro b0 R0 N0;refine IX (L1 (K6 ⟨rfl,?_⟩));refine IX (Kc (JO (I:=λx r aj=>∃b n f_,aj=JX st b/\r=(none,n,f_)/\n=x/\Rg (Jr st) b lo (lo+cW)/\NI c b lo (lo+n)/\f_<n/\(∀u v,lo+n-1-f_<=u->u<lo+n->lo+n-1-f_<=v->v<lo+n->le c (el b u) (el b v)))
   (Q:=λr aj=>∃b n f_,aj=JX st b/\r=(none,n,f_)/\1<=n/\n<=cW/\Rg (Jr st) b lo (lo+cW)/\NI c b lo (lo+n)/\f_<n/\(∀u v,lo+n-1-f_<=u->u<lo+n->lo+n-1-f_<=v->v<lo+n->le c (el b u) (el b v))) ?_ ?_ ?_) ?_)
  ·rintro x r aj AK hx ⟨b,n',f_,rfl,rfl,rfl,R,N,hq,he⟩;dsimp only;refine IX (eP L h0 R (by lia) (by lia) ?_)
   dsimp only;cases lE:c (el b (lo+n')) (el b (lo+n' - 1))with
   |true =>
    rw[if_pos rfl]
    by_cases sE:f_>0
    ·rw[if_pos sE];refine IX (eO (I9 ?_));have hz:lo+n'<=b.size:=by have:=R.size;have:=h0.size;lia
     refine⟨mirror b (lo+n' - (f_+1)) (lo+n') ((lo+n' - (lo+n' - (f_+1))) / 2),n'+1,0,rfl,rfl,rfl,R.trans ((cY hz).mono (by lia) (by lia)),?_,by lia,?_⟩
     ·refine NI.snoc O (fN (by lia) hz N λu v h1 h2 h3 h4=>he u v (by lia) h2 (by lia) h4) (by lia) ?_
      rw[a_ hz,a_ hz,if_neg (by lia),if_pos (by lia)]
      exact O.trans (O.of_lt lE) (he _ _ (by lia) (by lia) (by lia) (by lia))
     ·intro u v h1 h2 h3 h4;obtain rfl:u=v:=by lia
      exact O.refl _
    ·rw[if_neg sE];refine I9 ⟨b,n'+1,0,rfl,rfl,rfl,R,N.snoc O (by lia) (O.of_lt lE),by lia,?_⟩
     intro u v h1 h2 h3 h4;obtain rfl:u=v:=by lia
     exact O.refl _
   |false =>
    rw[if_neg (by simp)]
    refine IX (eP L h0 R (by lia) (by lia) ?_)
    dsimp only;cases j7:c (el b (lo+n' - 1)) (el b (lo+n'))with
    |true =>
     rw[if_pos rfl];exact I9 ⟨b,n',f_,rfl,rfl,by lia,by lia,R,N,hq,he⟩
    |false =>
     rw[if_neg (by simp)]
     refine I9 ⟨b,n'+1,f_+1,rfl,rfl,rfl,R,N.snoc O (by lia) j7,by lia,?_⟩
     have hl:∀u,lo+n' - 1-f_<=u->u<lo+(n'+1)->le c (el b u) (el b (lo+n'))/\le c (el b (lo+n')) (el b u):=λu h1 h2=>by
      by_cases hu:u<lo+n'
      ·exact⟨O.trans (he u (lo+n' - 1) h1 hu (by lia) (by lia)) lE,O.trans j7 (he (lo+n' - 1) u (by lia) (by lia) h1 hu)⟩
      ·obtain rfl:u=lo+n':=by lia
       exact⟨O.refl _,O.refl _⟩
     intro u v h1 h2 h3 h4;exact O.trans (hl u (by lia) h2).1 (hl v (by lia) h4).2
  ·rintro r aj ⟨b,n',f_,rfl,rfl,hx,R,N,hq,he⟩;exact⟨b,n',f_,rfl,rfl,by lia,by lia,R,N,hq,he⟩
  ·refine⟨_,n+1,0,rfl,rfl,rfl,R0,N0,by lia,?_⟩
   intro u v h1 h2 h3 h4;obtain rfl:u=v:=by lia
   exact O.refl _
  rintro r aj ⟨b,n',f_,rfl,rfl,Hu,Ht,RB,NB,hq,he⟩;dsimp only
  by_cases sE:f_>0
  ·rw[if_pos sE];refine IX (eO ?_);have hz:lo+n'<=b.size:=by have:=RB.size;have:=h0.size;lia
   have NB:=fN (c:=c) (i:=lo+n' - (f_+1)) (by lia) hz NB λu v h1 h2 h3 h4=>he u v (by lia) h2 (by lia) h4
   have RB:=RB.trans ((cY (i:=lo+n' - (f_+1)) hz).mono (by lia) (by lia:lo+n'<=lo+cW))
   show wpS _ _ _ _ _ Q (JX st (mirror b (lo+n' - (f_+1)) (lo+n') ((lo+n' - (lo+n' - (f_+1))) / 2)));generalize mirror b (lo+n' - (f_+1)) (lo+n') ((lo+n' - (lo+n' - (f_+1))) / 2)=b1 at NB RB;refine IX (eO ?_);have R2:Rg (Jr st) (mirror b1 lo (lo+n') ((lo+n' - lo) / 2)) lo (lo+cW):=RB.trans ((cY (by have:=RB.size;have:=h0.size;lia)).mono (IZ _) (by lia))
   have S2:SR c (mirror b1 lo (lo+n') ((lo+n' - lo) / 2)) lo (lo+n'):=i4 (by have:=RB.size;have:=h0.size;lia) NB
   show wpS _ _ _ _ _ Q (JX st (mirror b1 lo (lo+n') ((lo+n' - lo) / 2)));generalize mirror b1 lo (lo+n') ((lo+n' - lo) / 2)=b2 at R2 S2;refine IX (Kc (JO (I:=λx r aj=>aj=JX st b2/\∃m,r=(none,m)/\m=x/\SR c b2 lo (lo+m))
    (Q:=λr aj=>aj=JX st b2/\∃m,r=(none,m)/\1<=m/\m<=cW/\SR c b2 lo (lo+m)) ?_ ?_ ?_) ?_)
   ·rintro x r aj AK hx ⟨rfl,m,rfl,rfl,hs⟩;dsimp only;refine IX (eP L h0 R2 (by lia) (by lia) ?_)
    dsimp only;cases hc:c (el b2 (lo+m)) (el b2 (lo+m-1))with
    |true =>
     rw[if_pos rfl];exact I9 ⟨rfl,m,rfl,by lia,by lia,hs⟩
    |false =>
     rw[if_neg (by simp)]
     exact I9 ⟨rfl,m+1,rfl,rfl,hs.snoc O (by lia) hc⟩
   ·rintro r aj ⟨rfl,m,rfl,hx,hs⟩;exact⟨rfl,m,rfl,by lia,by lia,hs⟩
   ·exact⟨rfl,n',rfl,rfl,S2⟩
   rintro r aj ⟨rfl,m,rfl,EB,EA,hs⟩;exact I9 (h m b2 EB EA R2 hs)
  ·rw[if_neg sE];refine IX (eO ?_);have R2:Rg (Jr st) (mirror b lo (lo+n') ((lo+n' - lo) / 2)) lo (lo+cW):=RB.trans ((cY (by have:=RB.size;have:=h0.size;lia)).mono (IZ _) (by lia))
   have S2:SR c (mirror b lo (lo+n') ((lo+n' - lo) / 2)) lo (lo+n'):=i4 (by have:=RB.size;have:=h0.size;lia) NB
   show wpS _ _ _ _ _ Q (JX st (mirror b lo (lo+n') ((lo+n' - lo) / 2)));generalize mirror b lo (lo+n') ((lo+n' - lo) / 2)=b2 at R2 S2;refine IX (Kc (JO (I:=λx r aj=>aj=JX st b2/\∃m,r=(none,m)/\m=x/\SR c b2 lo (lo+m))
    (Q:=λr aj=>aj=JX st b2/\∃m,r=(none,m)/\1<=m/\m<=cW/\SR c b2 lo (lo+m)) ?_ ?_ ?_) ?_)
   ·rintro x r aj AK hx ⟨rfl,m,rfl,rfl,hs⟩;dsimp only;refine IX (eP L h0 R2 (by lia) (by lia) ?_)
    dsimp only;cases hc:c (el b2 (lo+m)) (el b2 (lo+m-1))with
    |true =>
     rw[if_pos rfl];exact I9 ⟨rfl,m,rfl,by lia,by lia,hs⟩
    |false =>
     rw[if_neg (by simp)]
     exact I9 ⟨rfl,m+1,rfl,rfl,hs.snoc O (by lia) hc⟩
   ·rintro r aj ⟨rfl,m,rfl,hx,hs⟩;exact⟨rfl,m,rfl,by lia,by lia,hs⟩
   ·exact⟨rfl,n',rfl,rfl,S2⟩
   rintro r aj ⟨rfl,m,rfl,EB,EA,hs⟩;exact I9 (h m b2 EB EA R2 hs)
end
section
variable {c:IV->IV->Bool}{a:Array IV}
theorem fS {src d:Nat}(hs:src<a.size)(hd:d<=src)(k:Nat):el (bubble a src d) k=if k=src-d then el a src else if src-d<k/\k<=src then el a (k-1) else el a k:=by
 have e:=getElem?_bubble hs d hd k
 by_cases h1:k=src-d
 ·rw[if_pos h1]at e ⊢
  exact cC e
 ·rw[if_neg h1]at e ⊢
  by_cases h2:src-d<k/\k<=src
  ·rw[if_pos h2]at e ⊢
   exact cC e
  ·rw[if_neg h2]at e ⊢
   exact cC e
theorem qg {lo k l:Nat}(O:bj c)(hk:lo+k<a.size)(hl:l<=k)(h:SR c a lo (lo+k))(h1:∀i,i<l->le c (el a (lo+i)) (el a (lo+k)))(h2:∀i,l<=i->i<k->le c (el a (lo+k)) (el a (lo+i))):
  SR c (bubble a (lo+k) (lo+k-(lo+l))) lo (lo+(k+1)):=λi j g1 g2 g3=>by
 rw[fS hk (by lia),fS hk (by lia),show lo+k-(lo+k-(lo+l))=lo+l by lia]
 have q1:∀i,lo<=i->i<lo+l->le c (el a i) (el a (lo+k)):=λi x y=>by
  have:=h1 (i-lo) (by lia)
  rwa [show lo+(i-lo)=i by lia]at this
 have q2:∀i,lo+l<=i->i<lo+k->le c (el a (lo+k)) (el a i):=λi x y=>by
  have:=h2 (i-lo) (by lia) (by lia)
  rwa [show lo+(i-lo)=i by lia]at this
 by_cases ei:i=lo+l
 ·rw[if_pos ei]
  by_cases ej:j=lo+l
  ·rw[if_pos ej];exact O.refl _
  ·rw[if_neg ej,if_pos (by lia)]
   exact q2 _ (by lia) (by lia)
 ·rw[if_neg ei]
  by_cases ej:j=lo+l
  ·rw[if_pos ej,if_neg (by lia)]
   exact q1 _ (by lia) (by lia)
  ·rw[if_neg ej]
   by_cases fi:lo+l<i/\i<=lo+k
   ·rw[if_pos fi,if_pos (by lia)]
    exact h _ _ (by lia) (by lia) (by lia)
   ·rw[if_neg fi]
    by_cases fj:lo+l<j/\j<=lo+k
    ·rw[if_pos fj];exact h _ _ (by lia) (by lia) (by lia)
    ·rw[if_neg fj];exact h _ _ (by lia) (by lia) (by lia)
theorem qh {src d:Nat}(hs:src<a.size)(hd:d<=src):Rg a (bubble a src d) (src-d) (src+1):=⟨bubble_perm _ _ _,λk h=>by
 rw[fS hs hd,if_neg (by lia),if_neg (by lia)]⟩
end
section
variable {prog:IY}{w:Je}{A:JQ}{E:IS->IT->Prop}{s:IT}{κ:KQ}{c:IV->IV->Bool}{a₀:Array IV}
theorem wV (O:bj c)(L:dh prog w A E s κ c (·∈a₀.toList)){st:Jm}{lo n ok:Nat}{Q:Bool->Jm->Prop}(h0:fW κ a₀ st)(bz:ok<=n)(h1:1<=n)(hn:lo+n<=a₀.size)(hs:SR c (Jr st) lo (lo+ok))
  (h:∀b,Rg (Jr st) b lo (lo+n)->SR c b lo (lo+n)->Q true (JX st b)):wpS (model prog w) A E s (binarySort' lo n ok) Q st:=by
 rw[binarySort'_eq];refine IX (Kc (JO (I:=λk r aj=>r=(none,())/\k<=n/\∃b,aj=JX st b/\Rg (Jr st) b lo (lo+n)/\SR c b lo (lo+k))
  (Q:=λr aj=>r=(none,())/\∃b,aj=JX st b/\Rg (Jr st) b lo (lo+n)/\SR c b lo (lo+n)) ?_ ?_ ?_) ?_)
 ·rintro k r aj Bb hk ⟨rfl,_,b,rfl,R,pV⟩;dsimp only;have hz:b.size=a₀.size:=R.size.trans h0.size;refine IX (Kc (JO (I:=λx r aj=>aj=JX st b/\∃l u,r=(none,l,u)/\l<=u/\u<=k/\u-l<=k-x/\(∀i,i<l->le c (el b (lo+i)) (el b (lo+k)))/\(∀i,u<=i->i<k->le c (el b (lo+k)) (el b (lo+i))))
   (Q:=λr aj=>aj=JX st b/\∃l,r=(none,l,l)/\l<=k/\(∀i,i<l->le c (el b (lo+i)) (el b (lo+k)))/\(∀i,l<=i->i<k->le c (el b (lo+k)) (el b (lo+i)))) ?_ ?_ ?_) ?_)
  ·rintro x r aj _ hx ⟨rfl,l,u,rfl,g1,g2,g3,g4,g5⟩;dsimp only
   by_cases F6:l >= u
   ·rw[if_pos F6];obtain rfl:l=u:=by lia
    exact I9 ⟨rfl,l,rfl,g2,g4,g5⟩
   ·rw[if_neg F6];refine IX (eP L h0 R (by lia) (by lia) ?_)
    dsimp only;cases hc:c (el b (lo+k)) (el b (lo+(l+u) / 2))with
    |true =>
     rw[if_pos rfl];exact I9 ⟨rfl,l,_,rfl,by lia,by lia,by lia,g4,λi h1 h2=>O.trans (O.of_lt hc) (pV _ _ (by lia) (by lia) (by lia))⟩
    |false =>
     rw[if_neg (by simp)]
     exact I9 ⟨rfl,_,u,rfl,by lia,by lia,by lia,λi h1=>O.trans (pV _ _ (by lia) (by lia) (by lia)) (show le c (el b (lo+(l+u) / 2)) (el b (lo+k)) from hc),g5⟩
  ·rintro r aj ⟨rfl,l,u,rfl,g1,g2,g3,g4,g5⟩;obtain rfl:l=u:=by lia
   exact⟨rfl,l,rfl,g2,g4,g5⟩
  ·exact⟨rfl,0,k,rfl,Jp _,IZ _,by lia,λi hi=>by lia,λi h1 h2=>by lia⟩
  rintro r aj ⟨rfl,l,rfl,g2,g4,g5⟩;dsimp only;rw[moveDown'_eq];refine IX (KG (I9 ⟨rfl,by lia,_,rfl,R.trans ((qh (a:=b) (by lia) (by lia)).mono (by lia) (by lia)),qg (a:=b) O (by lia) g2 pV g4 g5⟩))
 ·rintro r aj ⟨rfl,hx,b,rfl,R,pV⟩;rw[show max (max ok 1) n=n by lia]at pV
  exact⟨rfl,b,rfl,R,pV⟩
 ·refine⟨rfl,by lia,Jr st,rfl,Rg.refl,?_⟩
  by_cases h2:ok=0
  ·subst h2;exact SR.one O
  ·rw[show max ok 1=ok by lia]
   exact hs
 ·rintro r aj ⟨rfl,b,rfl,R,pV⟩;exact I9 (h b R pV)
theorem lG (base:Nat):∀(l:List IV) (off:Nat) (a:Array IV),base+off+l.length<=a.size->∀k:Nat,
  ((l.zipIdx off).foldl (λx (z:IV×Nat)=>x.setIfInBounds (base+z.2) z.1) a)[k]?=if base+off<=k/\k<base+off+l.length then l[k-(base+off)]? else a[k]?
 |[],off,a,_,k=>by
  rw[if_neg (by rw[Li];lia)]
  rfl
 |x::l,off,a,h,k=>by
  rw[Jo]at h;rw[List.zipIdx_cons,MB,lG base l (off+1) _ (by rw[Array.size_setIfInBounds];lia)]
  by_cases h1:base+(off+1)<=k/\k<base+(off+1)+l.length
  ·rw[if_pos h1,if_pos (by rw[Jo];lia),show k-(base+off)=k-(base+(off+1))+1 by lia,List.getElem?_cons_succ]
  ·rw[if_neg h1,Array.getElem?_setIfInBounds]
   by_cases h2:base+off=k
   ·subst h2;rw[if_pos rfl,if_pos (by lia),if_pos (by rw[Jo];lia),Nat.sub_self]
    rfl
   ·rw[if_neg h2,if_neg (by rw[Jo];lia)]
def t8 (a:Array IV)(base:Nat)(l:List IV):Array IV:=l.zipIdx.foldl (λx (z:IV×Nat)=>x.setIfInBounds (base+z.2) z.1) a
theorem jr {a:Array IV}{base:Nat}{l:List IV}(h:base+l.length<=a.size)(k:Nat):(t8 a base l)[k]?=if base<=k/\k<base+l.length then l[k-base]? else a[k]?:=lG base l 0 a h k
theorem qt {a:Array IV}{base:Nat}{l:List IV}(h:base+l.length<=a.size):(t8 a base l).toList=a.toList.take base++(l++a.toList.drop (base+l.length)):=by
 apply LF;intro k;rw[Jj,jr h];have hz:a.toList.length=a.size:=Jn
 by_cases h1:base<=k/\k<base+l.length
 ·rw[if_pos h1,J1 (by rw[J5];lia),J5,Kg (by lia)]
  congr 1
  lia
 ·rw[if_neg h1]
  by_cases h2:k<base
  ·rw[Kg (by rw[J5];lia),List.getElem?_take_of_lt h2,Jj]
  ·rw[J1 (by rw[J5];lia),J5,J1 (by lia),List.getElem?_drop,Jj]
   congr 1
   lia
theorem xc (a:Array IV)(base m:Nat):a.toList=a.toList.take base++((a.toList.drop base).take m++a.toList.drop (base+m)):=by
 have h1:=(K3 base a.toList).symm;have h2:=(K3 m (a.toList.drop base)).symm;rw[List.drop_drop]at h2;rw[<- h2];exact h1
theorem wN {a:Array IV}{base:Nat}{l:List IV}(h:base+l.length<=a.size)(hp:l.Perm ((a.toList.drop base).take l.length)):Rg a (t8 a base l) base (base+l.length) where
 perm:=by
  rw[KJ,qt h];refine List.Perm.trans ?_ (MC (xc a base l.length).symm);exact List.Perm.append_left _ (hp.append_right _)
 out:=λk hk=>cC (by rw[jr h,if_neg (by lia)])
end
section
variable {prog:IY}{w:Je}{A:JQ}{E:IS->IT->Prop}{s:IT}{κ:KQ}{c:IV->IV->Bool}{a₀:Array IV}
theorem t9 {σ:Type}{M:Mv}{Q:PUnit->σ->Prop}{st aj:σ}(h:Q ⟨⟩ aj):wpS M A E s (set aj:StateT σ Sem PUnit) Q st:=by
 unfold wpS;rw[StateT.run_set];exact Jc ⟨rfl,h⟩
theorem nh {a:Array IV}{lo hi i:Nat}(h:i<hi-lo)(hh:hi<=a.size):el (a.extract lo hi) i=el a (lo+i) :=
 cC (by rw[Array.getElem?_extract,if_pos (by lia)])
theorem ir {a:Array IV}{lo hi:Nat}(hh:hi<=a.size):(a.extract lo hi).size=hi-lo:=by
 rw[Array.size_extract];lia
theorem oe {a:Array IV}{lo hi:Nat}(hh:hi<=a.size){z:IV}(h:z∈(a.extract lo hi).toList):∃u,lo<=u/\u<hi/\z=el a u:=by
 obtain⟨i,gk⟩:=L4 h;rw[Jj]at gk;have h8:i<(a.extract lo hi).size:=by
  rcases Nat.lt_or_ge i (a.extract lo hi).size with q|q
  ·exact q
  ·rw[K1 q]at gk;cases gk
 rw[ir hh]at h8;exact⟨lo+i,by lia,by lia,by rw[<- nh h8 hh,oE gk]⟩
theorem mv (O:bj c)(L:dh prog w A E s κ c (·∈a₀.toList)){st:Jm}{i sa na pw sb nb C7:Nat}{Q:Bool->Jm->Prop}(h0:fW κ a₀ st)(p1:(Jh st)[i]?=some (sa,na,pw))(p2:(Jh st)[i+1]?=some (sb,nb,C7))
  (pV:sb=sa+na) (IH:1<=na) (IG:1<=nb) (hz:sb+nb<=a₀.size) (s1:SR c (Jr st) sa sb) (s2:SR c (Jr st) sb (sb+nb))
  (h:∀aj,kindOf aj=κ->KZ aj=none->Jh aj=((Jh st).setIfInBounds i (sa,na+nb,pw)).eraseIdxIfInBounds (i+1)->Rg (Jr st) (Jr aj) sa (sb+nb)->SR c (Jr aj) sa (sb+nb)->Q true aj) :
  wpS (model prog w) A E s (mergeAt' i) Q st:=by
 rw[lj];refine IX (Ly ?_);rw[p1,p2];dsimp only;refine IX (t9 ?_);have hsz:=h0.size;have hm:∀{j},j<a₀.size->el (Jr st) j∈a₀.toList:=λhj=>h0.mem hj;generalize ha:Jr st=a at *
 have o7:kindOf (K9 st (((Jh st).setIfInBounds i (sa,na+nb,pw)).eraseIdxIfInBounds (i+1)))=κ:=h0.kind;have xa:KZ (K9 st (((Jh st).setIfInBounds i (sa,na+nb,pw)).eraseIdxIfInBounds (i+1)))=none:=h0.fail;have xb:Jr (K9 st (((Jh st).setIfInBounds i (sa,na+nb,pw)).eraseIdxIfInBounds (i+1)))=a:=ha;have zT:Jh (K9 st (((Jh st).setIfInBounds i (sa,na+nb,pw)).eraseIdxIfInBounds (i+1)))=((Jh st).setIfInBounds i (sa,na+nb,pw)).eraseIdxIfInBounds (i+1):=rfl;generalize hP:((Jh st).setIfInBounds i (sa,na+nb,pw)).eraseIdxIfInBounds (i+1)=P at *
 generalize K9 st P=CH at *
 refine IX (aC (by lia) ?_)
 refine IX (cf O L o7 (hm (by lia)) (λx hx=>hm (by lia)) (by lia) (λx y h1 h2 h3=>s1 x y h1 h2 (by lia)) (by lia) λk k1 k2 k3=>?_)
 dsimp only;have g0:∀x,sa<=x->x<sa+k->le c (el a x) (el a sb):=λx h1 h2=>by
  have:=k2 (x-sa) (by lia)
  unfold cF at this;rw[if_neg (by simp),LG,show sa+(x-sa)=x by lia]at this
  exact this
 by_cases e1:(na-k==0)=true
 ·rw[if_pos e1];have e1:na-k=0:=by simpa using e1
  refine I9 (h CH o7 xa zT (by rw[xb];exact Rg.refl) ?_)
  rw[xb];intro x y h1 h2 h3
  by_cases hx:x<sb
  ·by_cases hy:y<sb
   ·exact s1 x y h1 h2 hy
   ·exact O.trans (g0 x h1 (by lia)) (s2 sb y (IZ _) (by lia) h3)
  ·exact s2 x y (by lia) h2 h3
 rw[if_neg e1];have e1:na-k≠0:=by simpa using e1
 have g1:c (el a sb) (el a (sa+k))=true:=by
  have:=k3 k (IZ _) (by lia)
  unfold cF at this;rw[if_neg (by simp),Lv]at this
  exact this
 refine IX (aC (by lia) ?_)
 refine IX (cf O L o7 (hm (by lia)) (λx hx=>hm (by lia)) (by lia) (λx y h1 h2 h3=>s2 x y h1 h2 (by lia)) (by lia) λm m1 m2 m3=>?_)
 dsimp only;rw[show sa+k+(na-k)-1=sb-1 by lia]at m2 m3
 have g2:∀x,sb<=x->x<sb+m->c (el a x) (el a (sb-1))=true:=λx h1 h2=>by
  have:=m2 (x-sb) (by lia)
  unfold cF at this;rw[if_pos rfl,show sb+(x-sb)=x by lia]at this
  exact this
 have g3:∀x,sb+m<=x->x<sb+nb->le c (el a (sb-1)) (el a x):=λx h1 h2=>by
  have:=m3 (x-sb) (by lia) (by lia)
  unfold cF at this;rw[if_pos rfl,show sb+(x-sb)=x by lia]at this
  exact this
 by_cases e2:(m==0)=true
 ·exfalso
  have e2:m=0:=by simpa using e2
  have:=O.trans (s1 (sa+k) (sb-1) (by lia) (by lia) (by lia)) (g3 sb (by lia) (by lia))
  exact absurd (g1.symm.trans this) (by simp)
 rw[if_neg e2];have e2:m≠0:=by simpa using e2
 have zx:(a.extract (sa+k) sb).size=sb-(sa+k):=ir (by lia)
 have zy:(a.extract sb (sb+m)).size=m:=by rw[ir (by lia)];lia
 have ex:∀{t},t<sb-(sa+k)->el (a.extract (sa+k) sb) t=el a (sa+k+t):=λht=>nh ht (by lia)
 have ey:∀{t},t<m->el (a.extract sb (sb+m)) t=el a (sb+t):=λht=>nh (by lia) (by lia)
 have fin:∀(out:Array IV) (dk:Jm),fX CH dk->Gd c (a.extract (sa+k) sb) (a.extract sb (sb+m)) out.toList ->
   wpS (model prog w) A E s (do
    modify λs2=>JX s2 (out.toList.zipIdx.foldl (λx z=>match z with|(p,j)=>x.setIfInBounds (sa+k+j) p) (Jr s2))
    let y <- get
    pure (KZ y).isNone:StateT Jm Sem Bool) Q dk:=by
  rintro out dk e ⟨gp,gs⟩;refine IX (KG (IX (Ly (I9 ?_))));show Q (KZ dk).isNone (JX dk (t8 (Jr dk) (sa+k) out.toList));rw[e.fail,xa,e.arr,xb];have zo:out.toList.length=sb-(sa+k)+m:=by
   rw[gp.length_eq,JV,Jn,Jn,zx,zy]
  have hb:sa+k+out.toList.length<=a.size:=by lia
  have xy:(a.toList.drop (sa+k)).take out.toList.length=(a.extract (sa+k) sb).toList++(a.extract sb (sb+m)).toList:=by
   rw[bh,bh,zo,show sb+m-sb=m by lia,List.take_add,List.drop_drop,show sa+k+(sb-(sa+k))=sb by lia]
  have R:Rg a (t8 a (sa+k) out.toList) (sa+k) (sa+k+out.toList.length):=wN hb (by rw[xy];exact gp)
  refine h _ (e.kind.trans o7) (e.fail.trans xa) (e.pend.trans zT) (R.mono (by lia) (by lia)) ?_
  show SR c (t8 a (sa+k) out.toList) sa (sb+nb);have yF:∀t,sa+k<=t->t<sb+m->∃z,out.toList[t-(sa+k)]?=some z/\el (t8 a (sa+k) out.toList) t=z/\((∃u,sa+k<=u/\u<sb/\z=el a u)\/∃u,sb<=u/\u<sb+m/\z=el a u):=by
   intro t h1 h2;have hl:t-(sa+k)<out.toList.length:=by lia
   refine⟨out.toList[t-(sa+k)],I_ hl,oE (by rw[jr hb,if_pos (by lia)];exact I_ hl),?_⟩
   have Ey:=gp.mem_iff.mp (LM hl);rcases Jq.mp Ey with q|q
   ·exact .inl (oe (by lia) q)
   ·exact .inr (oe (by lia) q)
  have Gj:∀t,t<sa+k->el (t8 a (sa+k) out.toList) t=el a t:=λt ht=>R.out t (.inl ht);have Cf:∀t,sb+m<=t->el (t8 a (sa+k) out.toList) t=el a t:=λt ht=>R.out t (.inr (by lia))
  intro x y h1 h2 h3
  by_cases hx:x<sa+k
  ·rw[Gj x hx]
   by_cases hy:y<sa+k
   ·rw[Gj y hy];exact s1 x y h1 h2 (by lia)
   ·by_cases DB:y<sb+m
    ·obtain⟨z,_,ez,Dz⟩:=yF y (by lia) DB
     rw[ez];rcases Dz with⟨u,u1,u2,rfl⟩|⟨u,u1,u2,rfl⟩
     ·exact s1 x u h1 (by lia) u2
     ·exact O.trans (g0 x h1 hx) (s2 sb u (IZ _) u1 (by lia))
    ·rw[Cf y (by lia)]
     exact O.trans (g0 x h1 hx) (s2 sb y (IZ _) (by lia) h3)
  ·by_cases Hh:x<sb+m
   ·obtain⟨z,iz,ez,Dz⟩:=yF x (by lia) Hh
    rw[ez]
    by_cases DB:y<sb+m
    ·obtain⟨z',He,E7,_⟩:=yF y (by lia) DB
     rw[E7]
     by_cases DC:x=y
     ·subst DC;rw[ez]at E7;rw[E7];exact O.refl _
     ·obtain⟨q1,q2⟩:=Jd.mp iz;obtain⟨q3,q4⟩:=Jd.mp He;have:=Lw.mp gs _ _ q1 q3 (by lia)
      rw[q2,q4]at this;exact this
    ·rw[Cf y (by lia)]
     rcases Dz with⟨u,u1,u2,rfl⟩|⟨u,u1,u2,rfl⟩
     ·exact O.trans (s1 u (sb-1) (by lia) (by lia) (by lia)) (g3 y (by lia) h3)
     ·exact s2 u y (by lia) (by lia) h3
   ·rw[Cf x (by lia),Cf y (by lia)]
    exact s2 x y (by lia) h2 h3
 have go:∀(out:Array IV) (dk:Jm),fX CH dk->Gd c (a.extract (sa+k) sb) (a.extract sb (sb+m)) out.toList->wpS (model prog w) A E s (do
    modify λs2=>JX s2 (out.toList.zipIdx.foldl (λx z=>match z with|(p,j)=>x.setIfInBounds (sa+k+j) p) (Jr s2))
    let y <- get
    pure (KZ y).isNone:StateT Jm Sem Bool) Q dk:=fin
 have FW:0<(a.extract (sa+k) sb).size:=by lia
 have FV:0<(a.extract sb (sb+m)).size:=by lia
 have Sx:∀t,t<(a.extract (sa+k) sb).size->el (a.extract (sa+k) sb) t∈a₀.toList:=λt ht=>by rw[ex (by lia)];exact hm (by lia)
 have Sy:∀t,t<(a.extract sb (sb+m)).size->el (a.extract sb (sb+m)) t∈a₀.toList:=λt ht=>by rw[ey (by lia)];exact hm (by lia)
 have FA:SR c (a.extract (sa+k) sb) 0 (a.extract (sa+k) sb).size:=λx y h1 h2 h3=>by
  rw[ex (by lia),ex (by lia)]
  exact s1 _ _ (by lia) (by lia) (by lia)
 have Fz:SR c (a.extract sb (sb+m)) 0 (a.extract sb (sb+m)).size:=λx y h1 h2 h3=>by
  rw[ey (by lia),ey (by lia)]
  exact s2 _ _ (by lia) (by lia) (by lia)
 have hf:c (el (a.extract sb (sb+m)) 0) (el (a.extract (sa+k) sb) 0)=true:=by
  rw[ex (by lia),ey (by lia)]
  exact g1
 have hl:∀y,y<(a.extract sb (sb+m)).size->c (el (a.extract sb (sb+m)) y) (el (a.extract (sa+k) sb) ((a.extract (sa+k) sb).size-1))=true:=λy hy=>by
  rw[ey (by lia),ex (by lia),show sa+k+((a.extract (sa+k) sb).size-1)=sb-1 by lia]
  exact g2 _ (by lia) (by lia)
 by_cases e3:na-k<=m
 ·rw[if_pos e3];exact IX (mn O L o7 Sx Sy FA Fz FW FV hf hl go)
 ·rw[if_neg e3];exact IX (mq O L o7 Sx Sy FA Fz FW FV hf hl go)
end
section
variable {c:IV->IV->Bool}{a b:Array IV}
def Runs (c:IV->IV->Bool)(a:Array IV):List (Nat×Nat×Nat)->Nat->Nat->Prop
 |[],lo,hi=>lo=hi
 |z::r,lo,hi=>z.1=lo/\1<=z.2.1/\SR c a lo (lo+z.2.1)/\Runs c a r (lo+z.2.1) hi
theorem Runs.app:∀{l r:List (Nat×Nat×Nat)} {lo hi:Nat},Runs c a (l++r) lo hi->∃m,Runs c a l lo m/\Runs c a r m hi
 |[],r,lo,hi,h=>⟨lo,rfl,h⟩
 |z::l,r,lo,hi,⟨h1,h2,h3,h4⟩=>by
  obtain⟨m,g1,g2⟩:=Runs.app h4;exact⟨m,⟨h1,h2,h3,g1⟩,g2⟩
theorem Runs.join:∀{l r:List (Nat×Nat×Nat)} {lo m hi:Nat},Runs c a l lo m->Runs c a r m hi->Runs c a (l++r) lo hi
 |[],r,lo,m,hi,h,g=>by
  obtain rfl:lo=m:=h;exact g
 |z::l,r,lo,m,hi,⟨h1,h2,h3,h4⟩,g=>⟨h1,h2,h3,Runs.join h4 g⟩
theorem Runs.len:∀{l:List (Nat×Nat×Nat)} {lo hi:Nat},Runs c a l lo hi->lo+l.length<=hi
 |[],lo,hi,h=>Mn h
 |z::l,lo,hi,⟨h1,h2,h3,h4⟩=>by
  have:=Runs.len h4;rw[Jo];lia
theorem Runs.congr:∀{l:List (Nat×Nat×Nat)} {lo hi:Nat},Runs c a l lo hi->(∀k,lo<=k->k<hi->el b k=el a k)->Runs c b l lo hi
 |[],lo,hi,h,_=>h
 |z::l,lo,hi,⟨h1,h2,h3,h4⟩,e=>by
  have hl:=Runs.len h4;exact⟨h1,h2,h3.congr λk g1 g2=>e k g1 (by lia),Runs.congr h4 λk g1 g2=>e k (by lia) g2⟩
theorem Runs.pow:∀{l l':List (Nat×Nat×Nat)} {lo hi:Nat},Runs c a l lo hi->l'.map (λz=>(z.1,z.2.1))=l.map (λz=>(z.1,z.2.1))->Runs c a l' lo hi
 |[],[],_,_,h,_=>h
 |[],z::l',_,_,_,e=>by cases e
 |z::l,[],_,_,_,e=>by cases e
 |z::l,z'::l',lo,hi,⟨h1,h2,h3,h4⟩,e=>by
  rw[Jy,Jy]at e;injection e with e1 e2
  injection e1 with e3 e4
  exact⟨e3.trans h1,by rw[e4];exact h2,by rw[e4];exact h3,by rw[e4];exact Runs.pow h4 e2⟩
end
section
variable {prog:IY}{w:Je}{A:JQ}{E:IS->IT->Prop}{s:IT}{κ:KQ}{c:IV->IV->Bool}{a₀:Array IV}
theorem xf {α:Type}{l:List α}{i:Nat}(h:i+1<l.length):∃l1 x y l2,l=l1++x::y::l2/\l1.length=i:=by
 refine⟨l.take i,l[i],l[i+1],l.drop (i+2),?_,by rw[J5];lia⟩
 rw[<- KO h,<- KO (by lia),K3]
theorem iO (O:bj c)(L:dh prog w A E s κ c (·∈a₀.toList)){st:Jm}{i hi:Nat}{Q:Bool->Jm->Prop}(h0:fW κ a₀ st)(hr:Runs c (Jr st) (Jh st).toList 0 hi)(hh:hi<=a₀.size)(F_:i+1<(Jh st).size)
  (h:∀aj,fW κ a₀ aj->Rg (Jr st) (Jr aj) 0 hi->Runs c (Jr aj) (Jh aj).toList 0 hi->(Jh aj).size+1=(Jh st).size->Q true aj) :
  wpS (model prog w) A E s (mergeAt' i) Q st:=by
 obtain⟨l1,⟨sa,na,pw⟩,⟨sb,nb,C7⟩,l2,el,hl⟩:=xf (l:=(Jh st).toList) (i:=i) (by rw[Jn];exact F_)
 rw[el]at hr;obtain⟨m,r1,r2⟩:=hr.app;obtain⟨x1,x2,x3,y1,y2,y3,r3⟩:=r2;dsimp only at x1 x2 x3 y1 y2 y3 r3;have hlen:=r3.len;have F7:=r1.len;have p1:(Jh st)[i]?=some (sa,na,pw):=by
  rw[<- Jj,el,J1 (by lia),hl,Nat.sub_self]
  rfl
 have p2:(Jh st)[i+1]?=some (sb,nb,C7):=by
  rw[<- Jj,el,J1 (by lia),hl,show i+1-i=1 by lia]
  rfl
 subst x1;refine mv O L h0 p1 p2 y1 x2 y2 (by lia) (by rw[y1];exact x3) (by rw[y1];exact y3) λaj k1 k2 k3 R S=>?_
 have ep:(Jh aj).toList=l1++(sa,na+nb,pw)::l2:=by
  rw[k3];have hz:i+1<((Jh st).setIfInBounds i (sa,na+nb,pw)).size:=by rw[Array.size_setIfInBounds];exact F_
  have e1:(((Jh st).setIfInBounds i (sa,na+nb,pw)).eraseIdxIfInBounds (i+1)).toList=((Jh st).toList.set i (sa,na+nb,pw)).eraseIdx (i+1):=by
   unfold Array.eraseIdxIfInBounds;rw[dif_pos hz,Array.toList_eraseIdx,Array.toList_setIfInBounds]
  rw[e1,el,<- hl,List.set_append_right _ _ (IZ _),Nat.sub_self,List.set_cons_zero,List.eraseIdx_append_of_length_le (by lia),show l1.length+1-l1.length=1 by lia]
  rfl
 have out:∀k,(k<sa\/sb+nb<=k)->TS.el (Jr aj) k=TS.el (Jr st) k:=R.out;refine h aj ⟨k1,k2,R.perm.trans h0.perm⟩ (R.mono (Jp _) (by lia)) ?_ ?_
 ·rw[ep];refine Runs.join (r1.congr λk g1 g2=>out k (.inl (by lia))) ⟨rfl,by show 1<=na+nb;lia,?_,?_⟩
  ·show SR c (Jr aj) sa (sa+(na+nb));rw[show sa+(na+nb)=sb+nb by lia]
   exact S
  ·show Runs c (Jr aj) l2 (sa+(na+nb)) hi;rw[show sa+(na+nb)=sa+na+nb by lia]
   exact r3.congr λk g1 g2=>out k (.inr (by lia))
 ·have e2:(Jh aj).size=l1.length+(l2.length+1):=by rw[<- Jn,ep,JV,Jo]
  have e3:(Jh st).size=l1.length+(l2.length+1+1):=by rw[<- Jn,el,JV,Jo,Jo]
  lia
theorem g7:∀(f n r:Nat),1<=n->1<=minRun' f n r
 |0,n,r,h=>by show 1<=n+r;lia
 |f+1,n,r,h=>by
  rw[minRun'_succ]
  split
  ·lia
  ·exact g7 f _ _ (by lia)
theorem uF (p:Array (Nat×Nat×Nat))(i w:Nat):(p.modify i λx=>(x.1,x.2.1,w)).toList.map (λz=>(z.1,z.2.1))=p.toList.map (λz=>(z.1,z.2.1)):=by
 apply LF;intro k;rw[Jt,Jt,Jj,Jj,Array.getElem?_modify]
 split
 ·rw[Option.map_map];rfl
 ·rfl
theorem j9 (O:bj c)(L:dh prog w A E s κ c (·∈a₀.toList)){st:Jm}{Q:Unit->Jm->Prop}(h0:fW κ a₀ st)(hp:Jh st=#[])(h2:2<=a₀.size)
  (h:∀aj,fW κ a₀ aj->SR c (Jr aj) 0 a₀.size->Q () aj):wpS (model prog w) A E s sortRuns' Q st:=by
 rw[sortRuns'_eq];refine IX (Ly ?_);dsimp only;rw[h0.size];have Hw:=g7 a₀.size a₀.size 0 (by lia)
 generalize minRun' a₀.size a₀.size 0=mr at Hw;refine IX (Kc (JO (I:=λx r aj=>fW κ a₀ aj/\∃lo,r=(none,lo)/\lo<=a₀.size/\(a₀.size<=lo\/x<=lo)/\Runs c (Jr aj) (Jh aj).toList 0 lo)
  (Q:=λr aj=>fW κ a₀ aj/\r=(none,a₀.size)/\Runs c (Jr aj) (Jh aj).toList 0 a₀.size) ?_ ?_ ?_) ?_)
 ·rintro x r aj _ hx ⟨hS,lo,rfl,ED,Hy,hr⟩;dsimp only
  by_cases hl:lo >= a₀.size
  ·rw[if_pos hl];obtain rfl:lo=a₀.size:=by lia
   exact I9 ⟨hS,rfl,hr⟩
  rw[if_neg hl];refine IX (qy O L hS (by lia) (by lia) λn b n1 n2 R Sb=>?_)
  dsimp only;have me:fW κ a₀ (JX aj b):=hS.set R;have m6:Runs c (Jr (JX aj b)) (Jh (JX aj b)).toList 0 lo:=Runs.congr (b:=b) hr λk q1 q2=>R.out k (.inl q2);refine(λ(key:∀(N:Nat) (stx:Jm),1<=N->lo+N<=a₀.size->Runs c (Jr stx) (Jh stx).toList 0 lo->fW κ a₀ stx->SR c (Jr stx) lo (lo+N)->(?G:Nat->Jm->Prop) N stx)=>?main) ?key
  case main =>
   by_cases F4:n<mr
   ·rw[if_pos F4];refine IX (L1 (K6 ⟨rfl,?_⟩));refine IX (wV O L me (by lia) (by lia) (by lia) Sb λb' R' H9=>?_)
    rw[if_neg (by simp)]
    have Cc:1<=min (a₀.size-lo) mr:=by lia
    have EW:lo+min (a₀.size-lo) mr<=a₀.size:=by lia
    have m6:Runs c (Jr (JX (JX aj b) b')) (Jh (JX (JX aj b) b')).toList 0 lo:=Runs.congr (b:=b') m6 λk q1 q2=>R'.out k (.inl q2);have me:fW κ a₀ (JX (JX aj b) b'):=me.set R';have wI:SR c (Jr (JX (JX aj b) b')) lo (lo+(min (a₀.size-lo) mr)):=H9;generalize JX (JX aj b) b'=stx at m6 me wI ⊢
    generalize min (a₀.size-lo) mr=N at Cc EW wI ⊢
    exact key N stx Cc EW m6 me wI
   ·rw[if_neg F4];have wI:SR c (Jr (JX aj b)) lo (lo+n):=Sb;exact key n _ n1 (by lia) m6 me wI
  case key =>
   intro N stx Cc EW m6 me wI;refine IX (Ly ?_);have BJ:∀(gK:Jm),fW κ a₀ gK->SR c (Jr gK) lo (lo+N)->Runs c (Jr gK) (Jh gK).toList 0 lo->fW κ a₀ (K9 gK ((Jh gK).push (lo,N,0)))/\∃wb,((none,lo+N):Option Unit×Nat)=(none,wb)/\wb<=a₀.size/\(a₀.size<=wb\/x+1<=wb)/\Runs c (Jr gK) ((Jh gK).push (lo,N,0)).toList 0 wb:=λgK g1 g2 g3 =>
    ⟨⟨g1.kind,g1.fail,g1.perm⟩,_,rfl,by lia,by lia,by rw[KC];exact g3.join ⟨rfl,Cc,g2,rfl⟩⟩
   cases hb:(Jh stx).back? with
   |none =>
    dsimp only;exact IX (KG (I9 (BJ stx me wI m6)))
   |some z =>
    obtain⟨s1,n1,p1⟩:=z;dsimp only;refine IX (Kc (JO (I:=λx r aj=>r=(none,())/\fW κ a₀ aj/\SR c (Jr aj) lo (lo+N)/\Runs c (Jr aj) (Jh aj).toList 0 lo)
     (Q:=λr aj=>r=(none,())/\fW κ a₀ aj/\SR c (Jr aj) lo (lo+N)/\Runs c (Jr aj) (Jh aj).toList 0 lo) ?_ ?_ ?_) ?_)
    ·rintro y r gK _ _ ⟨rfl,g1,g2,g3⟩;refine IX (Ly ?_)
     by_cases A7:(Jh gK).size>1
     ·rw[if_pos A7];cases hq:(Jh gK)[(Jh gK).size-2]? with
      |none =>
       dsimp only;exact I9 ⟨rfl,g1,g2,g3⟩
      |some z =>
       obtain⟨u,v,FJ⟩:=z;dsimp only
       split
       ·exact I9 ⟨rfl,g1,g2,g3⟩
       ·refine IX (iO O L g1 g3 (by lia) (by lia) λzS f1 f2 f3 f4=>?_)
        exact I9 ⟨rfl,f1,g2.congr λk q1 q2=>f2.out k (.inr q1),f3⟩
     ·rw[if_neg A7];dsimp only;exact I9 ⟨rfl,g1,g2,g3⟩
    ·rintro r gK ⟨rfl,g1,g2,g3⟩;exact⟨rfl,g1,g2,g3⟩
    ·exact⟨rfl,me,wI,m6⟩
    rintro r gK ⟨rfl,g1,g2,g3⟩;dsimp only;refine IX (KG (IX (KG (I9 ?_))));exact BJ (K9 gK _) ⟨g1.kind,g1.fail,g1.perm⟩ g2 (g3.pow (uF _ _ _))
 ·rintro r aj ⟨hS,lo,rfl,ED,Hy,hr⟩;obtain rfl:lo=a₀.size:=by lia
  exact⟨hS,rfl,hr⟩
 ·exact⟨h0,0,rfl,Jp _,.inr (IZ _),by rw[hp];rfl⟩
 rintro r aj ⟨hS,rfl,hr⟩;dsimp only;refine IX (Kc (JO (I:=λx r aj=>r=(none,())/\fW κ a₀ aj/\Runs c (Jr aj) (Jh aj).toList 0 a₀.size/\((Jh aj).size<=1\/(Jh aj).size+x<=a₀.size))
  (Q:=λr aj=>r=(none,())/\fW κ a₀ aj/\Runs c (Jr aj) (Jh aj).toList 0 a₀.size/\(Jh aj).size<=1) ?_ ?_ ?_) ?_)
 ·rintro x r dk _ hx ⟨rfl,me,m6,hz⟩;refine IX (Ly ?_)
  by_cases h1:(Jh dk).size<=1
  ·rw[if_pos h1];exact I9 ⟨rfl,me,m6,h1⟩
  rw[if_neg h1];refine IX (iO O L me m6 (IZ _) ?_ λgK HM R3 Hn ID=>?_)
  ·split
   ·split <;> lia
   ·rw[if_neg (by simp)]
    lia
  ·exact I9 ⟨rfl,HM,Hn,.inr (by lia)⟩
 ·rintro r dk ⟨rfl,me,m6,hz⟩;exact⟨rfl,me,m6,by lia⟩
 ·refine⟨rfl,hS,hr,.inr ?_⟩;have:=hr.len;rw[Jn]at this;lia
 ·rintro r dk ⟨rfl,me,m6,hz⟩;refine I9 (h dk me ?_)
  match hq:(Jh dk).toList,m6 with
  |[],e=>
   have:(0:Nat)=a₀.size:=e;lia
  |[z],e =>
   obtain⟨e1,e2,e3,e4⟩:=e;have e4:0+z.2.1=a₀.size:=e4;rw[e4]at e3;exact e3
  |z::y::l,e =>
   have:(Jh dk).toList.length<=1:=by rw[Jn];exact hz
   rw[hq]at this;simp at this
end
theorem lex_nil {y:List Int}:HT.lexLt [] y=decide (0<y.length):=by cases y <;> rfl
theorem fg {a b:Int}{x y:List Int}:HT.lexLt (a::x) (b::y)=if a=b then HT.lexLt x y else decide (a<b):=rfl
theorem lq:∀{x y:List Int},HT.lexLt x y=true->HT.lexLt y x=false
 |[],[],_=>rfl
 |[],_::_,_=>rfl
 |_::_,[],h=>by cases h
 |a::x,b::y,h=>by
  rw[fg]at h ⊢
  by_cases e:a=b
  ·rw[if_pos e]at h;rw[if_pos e.symm];exact lq h
  ·rw[if_neg e]at h;rw[if_neg λz=>e z.symm];have:=of_decide_eq_true h;exact decide_eq_false (by lia)
theorem og:∀{x z:List Int} (y:List Int),HT.lexLt x z=true->HT.lexLt x y=true\/HT.lexLt y z=true
 |[],[],_,h=>by cases h
 |[],_::_,[],h=>.inr rfl
 |[],_::_,_::_,h=>.inl rfl
 |_::_,[],_,h=>by cases h
 |a::x,b::z,[],h=>.inr rfl
 |a::x,b::z,d::y,h=>by
  rw[fg]at h ⊢
  rw[fg]
  by_cases e:a=b
  ·subst e;rw[if_pos rfl]at h
   by_cases e2:a=d
   ·subst e2;rw[if_pos rfl,if_pos rfl];exact og y h
   ·rw[if_neg e2,if_neg λq=>e2 q.symm]
    by_cases e3:a<d
    ·exact .inl (decide_eq_true e3)
    ·exact .inr (decide_eq_true (by lia))
  ·rw[if_neg e]at h;have h:=of_decide_eq_true h
   by_cases e2:a=d
   ·subst e2;rw[if_neg e];exact .inr (decide_eq_true h)
   ·rw[if_neg e2]
    by_cases e3:a<d
    ·exact .inl (decide_eq_true e3)
    ·rw[if_neg (by lia)]
     exact .inr (decide_eq_true (by lia))
def byKey (kf:IS->List Int)(x y:IV):Bool:=HT.lexLt (kf x.1) (kf y.1)
theorem uQ (kf:IS->List Int):bj (byKey kf):=⟨λ_ _ h=>lq h,λ_ y _ h=>og (kf y.1) h⟩
section
variable {prog:IY}{w:Je}{A:JQ}{E:IS->IT->Prop}{s:IT}
theorem ll {b:Bool}{Q:Bool->IT->Prop}:∀{ns ms:List Int} {us vs:List IS} (i:Nat),Kr us ns->Kr vs ms->Q (HT.lexLt ns ms) s->PySem.W.KatLex prog w A b (decide (ns.length<ms.length)) Q (us.zip vs) i s
 |[],ms,us,vs,i,hu,hv,q=>by
  cases hu;rw[List.zip_nil_left];rw[lex_nil]at q;exact PySem.W.kat_nil q
 |n::ns,[],us,vs,i,hu,hv,q=>by
  cases hv;rw[List.zip_nil_right];exact PySem.W.kat_nil q
 |n::ns,m::ms,us,vs,i,hu,hv,q=>by
  cases hu with
  |cons _ t hu =>
   cases hv with
   |cons _ t' hv =>
    rw[Lq];refine PySem.W.kat_cons (wpAny_eqBool_int ?_);rw[fg]at q
    by_cases e:n=m
    ·subst e;rw[if_pos rfl]at q;rw[beq_self_eq_true];have:=ll (b:=b) (Q:=Q) (i+1) hu hv q;rw[show decide ((n::ns).length<(n::ms).length)=decide (ns.length<ms.length) by rw[Jo,Jo];congr 1;simp]
     exact PySem.W.kat_yes this
    ·rw[if_neg e]at q;rw[show (n==m)=false from beq_eq_false_iff_ne.mpr e]
     refine PySem.W.kat_no ?_;cases b&&i==0 with
     |true=>exact oneLt_int q
     |false=>exact PySem.W.kat_one _ _ (lt_int q)
def iN (h:Heap)(kf:IS->List Int)(a:Addr)(vs:List IS):Prop :=
 ∀v∈vs,∃t o xs k,v=.ref t/\t≠a/\h.get? t=some o/\o.cls=.type "tuple" /\ o.data=.seq xs k/\Kr xs.toList (kf v)/\kf v≠[]
theorem pK {kf:IS->List Int}{a:Addr}{vs:List IS}{b:Bool}{a₀:Array IV}(T:iN s.heap kf a vs)(hm:∀z∈a₀.toList,z.1∈vs):dh prog w A E s (tuples' b) (byKey kf) (·∈a₀.toList):=by
 intro x y st Q hx hy hk q;obtain⟨t,o,xs,n,e1,_,e2,_,e3,e4,_⟩:=T _ (hm _ hx);obtain⟨t',o',wM,n',f1,_,f2,_,f3,f4,_⟩:=T _ (hm _ hy);rw[lt'_eq];refine IX (Ly ?_);rw[hk,e1,f1];have z1:xs.size=(kf x.1).length:=by rw[<- Jn];exact e4.length
 have z2:wM.size=(kf y.1).length:=by rw[<- Jn];exact f4.length
 refine IX (L1 (wpAny_attempt (PySem.W.kat_lt e2 e3 f2 f3 ?_)));rw[z1,z2];exact ll 0 e4 f4 ⟨rfl,I9 q⟩
theorem gH {kf:IS->List Int}{a:Addr}{h:Heap}:∀{vs:List IS},iN h kf a vs->∃fs:List IS,PySem.W.KatTups h vs fs/\fs.length=vs.length/\∀f∈fs,∃n t,f=Value.int n t
 |[],_=>⟨[],trivial,rfl,λf hf=>by cases hf⟩
 |v::vs,T=>by
  obtain⟨fs,h1,h2,h3⟩:=gH (vs:=vs) λu hu=>T u (Ju _ hu);obtain⟨t,o,xs,k,rfl,_,e2,e3,e4,e5,e6⟩:=T v JA;obtain⟨f,r,ef,n,tk,hn⟩:∃f r,xs.toList=f::r/\∃n tk,f=Value.int n tk:=by
   generalize kf (.ref t)=ks at e5 e6;generalize xs.toList=us at e5;cases e5 with
   |nil=>exact absurd rfl e6
   |cons n tk r=>exact⟨_,_,rfl,_,_,rfl⟩
  have e:xs[0]?=some f:=by rw[<- Jj,ef];rfl
  exact⟨f::fs,PySem.W.KatTups.cons e2 e3 e4 e h1,by rw[Jo,Jo,h2],λg hg=>by
   rcases Ja.mp hg with rfl|hg
   ·exact⟨_,_,hn⟩
   ·exact h3 g hg⟩
theorem pN {kf:IS->List Int}{a:Addr}{vs:List IS}{Q:KQ->IT->Prop}(T:iN s.heap kf a vs)(h0:0<vs.length)(q:Q (tuples' true) s):Js (model prog w) A (keyKind' vs.toArray) Q E s:=by
 obtain⟨fs,h1,h2,h3⟩:=gH T;refine PySem.W.kat_kind (T:=.type "int") h1 (by lia) (λv hv=>?_) (by decide) q
 obtain⟨n,t,rfl⟩:=h3 v hv;exact .now
theorem qQ {α:Type}{R:α->α->Prop}:∀{l:List α},l.length<2->l.Pairwise R
 |[],_=>.nil
 |[x],_=>List.pairwise_singleton _ _
 |_::_::_,h=>by
  rw[Jo,Jo]at h;lia
theorem mT {a:Addr} {vs:List IS} {n:Nat} {κ:KQ} {c:IS->IS->Bool} {P:PySem.Fin->IT->Prop} (ho:s.heap.get? a=some (Kl "list" vs.toArray n)) (hz:vs.length<=1000000) (O:bj λx y=>c x.1 y.1)
  (T:∀s':IT,(∀t o,t≠a->s.heap.get? t=some o->s'.heap.get? t=some o)->(2<=vs.length->∀(Q:KQ->IT->Prop),Q κ s'->Js (model prog w) A (keyKind' vs.toArray) Q E s')/\dh prog w A E s' κ (λx y=>c x.1 y.1) (·∈(vs.toArray.zip vs.toArray).toList))
  (h:∀out:List IS,out.Perm vs->out.Pairwise (λx y=>c y x=false)->P (.done (.ret .none)) {s with heap:=sortedHeap s.heap a vs out.toArray}) :
  Js (model prog w) A (Lo.«list.sort» ⟨[.ref a],[]⟩) P E s:=by
 have la:a<s.heap.objs.size:=Jf ho;obtain⟨ep,hc⟩:∃ep,(s.heap.update a (KH λ_=>#[])).get? a=some (Kl "list" #[] ep):=⟨_,get?_update_seq ho (λ_=>#[])⟩;have old:∀t o,t≠a->s.heap.get? t=some o->(((s.heap.update a (KH λ_=>#[])).push (Kl "tuple" vs.toArray 0)).push (Kl "list" #[] 0)).get? t=some o:=λt o ht e =>
  Jb _ (Jb _ (by rw[Heap.get?_update_ne _ _ _ _ ht];exact e))
 have qq:(((s.heap.update a (KH λ_=>#[])).push (Kl "tuple" vs.toArray 0)).push (Kl "list" #[] 0)).get? a=some (Kl "list" #[] ep):=Jb _ (Jb _ hc);have big:∀m:Nat,m<=vs.length->m<=Jg:=λm hm=>by rw[JU];lia
 have zz:vs.toArray.size=vs.length:=by simp
 rw[list_sort_plain];refine IU (listItems_at ho rfl ?_);refine IU (listUpdate_at ho rfl ?_ (big _ (Mn zz)) (Jp _));refine IU (seqEpoch_at hc rfl ?_);refine IU (wpAny_newTuple ?_ (big _ (IZ _)));refine IU (wpAny_newList ?_ (Jp _));refine Kv ?_;show Js (model prog w) A _ P E {s with heap:=((s.heap.update a (KH λ_=>#[])).push (Kl "tuple" vs.toArray 0)).push (Kl "list" #[] 0)}
 dsimp only;have done:∀aj:Jm,(Jr aj).Perm (vs.toArray.zip vs.toArray)->(Jr aj).toList.Pairwise (le λx y=>c x.1 y.1)->P (.done (.ret .none)) {s with heap:=sortedHeap s.heap a vs ((Jr aj).map (·.2))}:=λaj hp hs=>by
  have h1:∀z∈(Jr aj).toList,z.1=z.2:=λz hz=>by
   have:=(KJ.mp hp).mem_iff.mp hz;rw[Mu]at this;obtain⟨i,hi⟩:=L4 this;rw[List.getElem?_zip_eq_some]at hi;exact JN (hi.1.symm.trans hi.2)
  have e2:(Jr aj).map (·.2)=((Jr aj).toList.map (·.2)).toArray:=by
   apply Array.toList_inj.mp;rw[Array.toList_map]
  rw[e2];refine h _ ?_ ?_
  ·have:=(KJ.mp hp).map (λz:IV=>z.2);rw[Mu]at this;refine this.trans (MC ?_);exact List.map_snd_zip (by simp)
  ·rw[K0];refine hs.imp_of_mem λ{x y} hx hy hl=>?_;rw[<- h1 x hx,<- h1 y hy];exact hl
 by_cases h2:vs.toArray.size<2
 ·rw[if_pos h2,if_pos h2];refine IU (Jc ?_);rw[StateT.run_pure];refine IU (Jc ?_);dsimp only;refine IU (seqEpoch_at qq rfl ?_);refine IU (listUpdate_at qq rfl ?_ (Jp _) (by rw[Array.size_map,MN];exact JC (big _ (by lia)) (L3 _)))
  simp only[bne_self_eq_false,KW,if_false];refine Jc (done (SortSt.mk' general' (vs.toArray.zip vs.toArray) #[] 7 none) (MF _) ?_);refine qQ ?_;show (vs.toArray.zip vs.toArray).toList.length<2;rw[Jn,MN];lia
 ·rw[if_neg h2,if_neg h2];obtain⟨hK,L⟩:=T {s with heap:=((s.heap.update a (KH λ_=>#[])).push (Kl "tuple" vs.toArray 0)).push (Kl "list" #[] 0)} old
  refine IU (hK (by lia) _ ?_)
  have zp:(vs.toArray.zip vs.toArray).size=vs.length:=by rw[MN];lia
  refine IU (K7 (j9 (Q:=λ_ aj=>(Jr aj).Perm (vs.toArray.zip vs.toArray)/\KZ aj=none/\SR (λx y=>c x.1 y.1) (Jr aj) 0 vs.length) O L
   (st:=SortSt.mk' κ (vs.toArray.zip vs.toArray) #[] 7 none) ⟨rfl,rfl,MF _⟩ rfl (by lia) λaj g1 g2=>⟨g1.perm,g1.fail,by rw[zp]at g2;exact g2⟩) ?_ λ_ _ e=>e)
  rintro⟨⟨⟩,aj⟩ s' ⟨rfl,hp,hf,hs⟩;dsimp only;have zs:(Jr aj).size=vs.length:=hp.size_eq.trans zp;refine IU (seqEpoch_at qq rfl ?_);refine IU (listUpdate_at qq rfl ?_ (Jp _) (by rw[Array.size_map,zs];exact JC (big _ (IZ _)) (L3 _)))
  rw[hf];simp only[bne_self_eq_false,KW,if_false];refine Jc (done aj hp ?_);rw[Lw];intro i j hi hj aF;rw[Jn]at hi hj;have:=hs i j (Jp _) (by lia) (by lia)
  have ei:el (Jr aj) i=(Jr aj).toList[i]:=oE (by rw[<- Jj];exact I_ _)
  have ej:el (Jr aj) j=(Jr aj).toList[j]:=oE (by rw[<- Jj];exact I_ _)
  rw[ei,ej]at this;exact this
theorem g_ {a:Addr} {vs:List IS} {n:Nat} {kf:IS->List Int} {P:PySem.Fin->IT->Prop} (ho:s.heap.get? a=some (Kl "list" vs.toArray n)) (hz:vs.length<=1000000) (T:iN s.heap kf a vs)
  (h:∀out:List IS,out.Perm vs->out.Pairwise (λx y=>HT.lexLt (kf y) (kf x)=false)->P (.done (.ret .none)) {s with heap:=sortedHeap s.heap a vs out.toArray}) :
  Js (model prog w) A (Lo.«list.sort» ⟨[.ref a],[]⟩) P E s:=by
 refine mT (κ:=tuples' true) (c:=λx y=>HT.lexLt (kf x) (kf y)) ho hz (uQ kf) (λs' kp=>?_) h;have T':iN s'.heap kf a vs:=λv hv=>by
  obtain⟨t,o,xs,k,e1,e2,e3,r⟩:=T v hv;exact⟨t,o,xs,k,e1,e2,kp t o e2 e3,r⟩
 exact⟨λh2 Q q=>pN T' (by lia) q,pK T' λz hz=>by
  rw[Mu]at hz;exact(LY hz).1⟩
end
end TS
namespace ST
open PySem PyProof.Rows
section
variable {prog:IY}{w:Je}
abbrev TK (prog:IY)(w:Je):=L5 (intKind prog w)
abbrev kH (prog:IY)(w:Je)(k:List Int):Int:=(TK prog w).hash k
abbrev ent (prog:IY)(w:Je)(x:Addr×List Int):Int×IS:=(kH prog w x.2,.ref x.1)
structure Ft {α β:Type}(w:Je)(en:α->Int×IS)(hk:α->Int)(ky:α->β)(o:Obj)(ts:List α)(es:Array (Int×IS))(ep:Nat)(t:SetTable):Prop where
 ex:o.ExactSet
 dat:o.data=.set es ep t
 E_:es.toList=ts.map en
 wf:WF t (ts.map hk)
 Io:t.place.size*5<t.mask*3
 G6:t.mask<=8191
 led:t.led=!w.params.followText "set-order"
 Iw:t.plain=true
 IA:(ts.map ky).Nodup
abbrev Fl (prog:IY)(w:Je):=Ft w (ent prog w) (λx=>kH prog w x.2) (λx=>x.2)
section
end
end
end ST
namespace L2
open PySem PySem.Spec PyProof.Rows
inductive D where
 |b7|bl (b:Bool)|int (i:Int)|str (x:Str)|obj (a:Addr)
 |tup (ds:List D)|lst (ds:List D)
 |dT (ks:List (List Key)) (ds:List D)|dK (ks:List Key) (ds:List D)
 |sT (ts:List (List Int))
 |ob (φ:Addr->HO)
def xg (P:IY)(w:Je)(a:Addr)(ts:List (Addr×List Int))(h:Heap):Prop:=∃o es ep t,h.get? a=some o/\ST.Fl P w o ts es ep t
abbrev BI (P:IY)(w:Je)(a:Addr)(ts:List (Addr×List Int)):HO:=.ext (xg P w a ts)
def vK (P:IY)(w:Je)(H:Hp)(a:Addr)(ts:List (List Int)):Prop :=
 ∃ju:List (Addr×List Int),H a=some (BI P w a ju)/\(∀x∈ju,H x.1=some (.tup (x.2.map V.int)))/\(ju.map (·.2)).Perm ts
section
variable (P:IY)(w:Je)(W:Addr->Prop)(H:Hp)
mutual
def ak:D->V->Prop
 |.b7,v=>v=.b7
 |.bl b,v=>v=.bl b
 |.int i,v=>v=.int i
 |.str x,v=>v=.str x
 |.obj a,v=>v=.ref a
 |.tup ds,v=>∃a vs,v=.ref a/\H a=some (.tup vs)/\ag ds vs
 |.lst ds,v=>∃a vs,v=.ref a/\H a=some (.lst vs)/\¬ W a/\ag ds vs
 |.dT ks ds,v=>∃a vs,v=.ref a/\H a=some (.dT (ks.zip vs))/\ks.length=vs.length/\¬ W a/\ag ds vs
 |.dK ks ds,v=>∃a vs,v=.ref a/\H a=some (.dK (ks.zip vs))/\ks.length=vs.length/\¬ W a/\ag ds vs
 |.sT ts,v=>∃a,v=.ref a/\vK P w H a ts/\¬ W a
 |.ob φ,v=>∃a,v=.ref a/\(H a=some (φ a)/\∀xs,φ a≠.tup xs)/\¬ W a
def ag:List D->List V->Prop
 |[],vs=>vs=[]
 |d::ds,vs=>∃v r,vs=v::r/\ak d v/\ag ds r
end
end
mutual
def D.flat:D->Bool
 |.tup ds=>D.bJ ds
 |.lst _=>false
 |.dT _ _=>false
 |.dK _ _=>false
 |.sT _=>false
 |.ob _=>false
 |_=>true
def D.bJ:List D->Bool
 |[]=>true
 |d::ds=>D.flat d&&D.bJ ds
end
structure Kp (W:Addr->Prop)(H H':Hp):Prop where
 out:∀b o,H b=some o->¬ W b->H' b=some o
 tup:∀b xs,H b=some (.tup xs)->H' b=some (.tup xs)
theorem Kp.refl {W:Addr->Prop}{H:Hp}:Kp W H H:=⟨λ_ _ e _=>e,λ_ _ e=>e⟩
theorem Kp.trans {W:Addr->Prop}{H H1 H2:Hp}(a:Kp W H H1)(b:Kp W H1 H2):Kp W H H2:=⟨λc o e n=>b.out c o (a.out c o e n) n,λc xs e=>b.tup c xs (a.tup c xs e)⟩
theorem ax.kp {W:Addr->Prop}{H H':Hp}(h:ax H H'):Kp W H H':=⟨λb o e _=>h b o e,λb xs e=>h b _ e⟩
theorem Kp.mono {W W':Addr->Prop}{H H':Hp}(h:Kp W H H')(s:∀a,W a->W' a):Kp W' H H':=⟨λb o e n=>h.out b o e λz=>n (s b z),h.tup⟩
section
variable {P:IY}{w:Je}{W W':Addr->Prop}{H H':Hp}
mutual
theorem ak.keep (k:Kp W H H'):∀{d:D} {v:V},ak P w W H d v->ak P w W H' d v
 |.b7,_,h=>h
 |.bl _,_,h=>h
 |.int _,_,h=>h
 |.str _,_,h=>h
 |.obj _,_,h=>h
 |.tup ds,_,⟨a,vs,e,t,r⟩=>⟨a,vs,e,k.tup a vs t,ag.keep k r⟩
 |.lst ds,_,⟨a,vs,e,t,n,r⟩=>⟨a,vs,e,k.out a _ t n,n,ag.keep k r⟩
 |.dT ks ds,_,⟨a,vs,e,t,l,n,r⟩=>⟨a,vs,e,k.out a _ t n,l,n,ag.keep k r⟩
 |.dK ks ds,_,⟨a,vs,e,t,l,n,r⟩=>⟨a,vs,e,k.out a _ t n,l,n,ag.keep k r⟩
 |.sT ts,_,⟨a,e,⟨ju,t,r,z⟩,n⟩=>⟨a,e,⟨ju,k.out a _ t n,λx hx=>k.tup _ _ (r x hx),z⟩,n⟩
 |.ob φ,_,⟨a,e,⟨t,z⟩,n⟩=>⟨a,e,⟨k.out a _ t n,z⟩,n⟩
theorem ag.keep (k:Kp W H H'):∀{ds:List D} {vs:List V},ag P w W H ds vs->ag P w W H' ds vs
 |[],_,h=>h
 |d::ds,_,⟨v,r,e,h1,h2⟩=>⟨v,r,e,ak.keep k h1,ag.keep k h2⟩
end
mutual
theorem ak.aJ (s:∀a,W' a->W a):∀{d:D} {v:V},ak P w W H d v->ak P w W' H d v
 |.b7,_,h=>h
 |.bl _,_,h=>h
 |.int _,_,h=>h
 |.str _,_,h=>h
 |.obj _,_,h=>h
 |.tup ds,_,⟨a,vs,e,t,r⟩=>⟨a,vs,e,t,ag.aJ s r⟩
 |.lst ds,_,⟨a,vs,e,t,n,r⟩=>⟨a,vs,e,t,λz=>n (s a z),ag.aJ s r⟩
 |.dT ks ds,_,⟨a,vs,e,t,l,n,r⟩=>⟨a,vs,e,t,l,λz=>n (s a z),ag.aJ s r⟩
 |.dK ks ds,_,⟨a,vs,e,t,l,n,r⟩=>⟨a,vs,e,t,l,λz=>n (s a z),ag.aJ s r⟩
 |.sT ts,_,⟨a,e,t,n⟩=>⟨a,e,t,λz=>n (s a z)⟩
 |.ob φ,_,⟨a,e,t,n⟩=>⟨a,e,t,λz=>n (s a z)⟩
theorem ag.aJ (s:∀a,W' a->W a):∀{ds:List D} {vs:List V},ag P w W H ds vs->ag P w W' H ds vs
 |[],_,h=>h
 |d::ds,_,⟨v,r,e,h1,h2⟩=>⟨v,r,e,ak.aJ s h1,ag.aJ s h2⟩
end
mutual
theorem ak.flat:∀{d:D} {v:V},d.flat=true->ak P w W H d v->ak P w W' H d v
 |.b7,_,_,h=>h
 |.bl _,_,_,h=>h
 |.int _,_,_,h=>h
 |.str _,_,_,h=>h
 |.obj _,_,_,h=>h
 |.tup ds,_,f,⟨a,vs,e,t,r⟩=>⟨a,vs,e,t,ag.flat (by simpa[D.flat] using f) r⟩
 |.lst ds,_,f,_=>by simp[D.flat]at f
 |.dT ks ds,_,f,_=>by simp[D.flat]at f
 |.dK ks ds,_,f,_=>by simp[D.flat]at f
 |.sT ts,_,f,_=>by simp[D.flat]at f
 |.ob φ,_,f,_=>by simp[D.flat]at f
theorem ag.flat:∀{ds:List D} {vs:List V},D.bJ ds=true->ag P w W H ds vs->ag P w W' H ds vs
 |[],_,_,h=>h
 |d::ds,_,f,⟨v,r,e,h1,h2⟩=>by
  have f':(d.flat&&D.bJ ds)=true:=f;rw[JS]at f';exact⟨v,r,e,ak.flat f'.1 h1,ag.flat f'.2 h2⟩
end
theorem ak.same (s:ax H H'){d:D}{v:V}(h:ak P w W H d v):ak P w W H' d v:=h.keep s.kp
theorem ag.same (s:ax H H'){ds:List D}{vs:List V}(h:ag P w W H ds vs):ag P w W H' ds vs:=h.keep s.kp
theorem ag.length:∀{ds:List D} {vs:List V},ag P w W H ds vs->vs.length=ds.length
 |[],_,h=>by rw[show _=[] from h];rfl
 |d::ds,_,⟨v,r,e,h1,h2⟩=>by rw[e,Jo,Jo,ag.length h2]
theorem ag.get:∀{ds:List D} {vs:List V} {i:Nat} {d:D},ag P w W H ds vs->ds[i]?=some d->∃v,vs[i]?=some v/\ak P w W H d v
 |[],_,_,_,_,e=>by simp at e
 |d::ds,_,0,_,⟨v,r,e,h1,h2⟩,e'=>by simp at e';subst e' e;exact⟨v,by simp,h1⟩
 |d::ds,_,i+1,_,⟨v,r,e,h1,h2⟩,e'=>by
  subst e;obtain⟨u,e1,e2⟩:=ag.get (i:=i) h2 (by simpa using e')
  exact⟨u,by simpa using e1,e2⟩
theorem ag.append:∀{ds ds':List D} {vs vs':List V},ag P w W H ds vs->ag P w W H ds' vs'->ag P w W H (ds++ds') (vs++vs')
 |[],_,_,_,h,h'=>by rw[show _=[] from h];exact h'
 |d::ds,_,_,_,⟨v,r,e,h1,h2⟩,h'=>by subst e;exact⟨v,_,rfl,h1,ag.append h2 h'⟩
end
open PySem.SeqAt
abbrev Dm (W:Addr->Prop)(H:Hp):Prop:=∀a,W a->H a≠none
abbrev Rp (X:Cx)(W:Addr->Prop)(H:Hp)(d:D)(v:V):Prop:=ak X.prog X.w W H d v
abbrev oT (X:Cx)(W:Addr->Prop)(H:Hp)(ds:List D)(vs:List V):Prop:=ag X.prog X.w W H ds vs
def FC (X:Cx)(f:D->D->Option D):R2:=λx y H Q=>∃W d1 d2 d,Dm W H/\Rp X W H d1 x/\Rp X W H d2 y/\f d1 d2=some d/\∀v H',ax H H'->Rp X W H' d v->Q v H'
def GQ (X:Cx)(f:List D->Option D):List V->Hp->VK->Prop:=λxs H Q=>∃W ds d,Dm W H/\oT X W H ds xs/\f ds=some d/\∀v H',ax H H'->Rp X W H' d v->Q v H'
abbrev bH (X:Cx)(f:IS->IS->Sem IS)(g:D->D->Option D):Prop:=fy X f (FC X g)
abbrev b5 (X:Cx)(f:IS)(g:List D->Option D):Prop:=dM X f (GQ X g)
section
variable {X:Cx}{W:Addr->Prop}{H:Hp}
theorem uY {p:Addr}(d:Dm W H)(n:H p=none):¬ W p:=λz=>d p z n
theorem Rp.g8 {p:Addr}{vs:List V}{ds:List D}(d:Dm W H)(n:H p=none)(r:oT X W H ds vs):Rp X W (upd H p (.lst vs)) (.lst ds) (.ref p) :=
 ⟨p,vs,rfl,az,uY d n,r.same (ax.new n)⟩
end
def D.yo:D->Option Int
 |.int i=>some i
 |_=>none
def D.yn:D->Option (List D)
 |.lst a=>some a
 |_=>none
def D.ym:D->Option (List D)
 |.tup a=>some a
 |_=>none
def D.tX:D->Bool
 |.b7=>true
 |_=>false
theorem D.fk {d:D}{i:Int}(h:d.yo=some i):d=.int i:=by cases d <;> first|(cases h;rfl)|cases h
theorem D.hX {d:D}{i:List D}(h:d.yn=some i):d=.lst i:=by cases d <;> first|(cases h;rfl)|cases h
theorem D.hV {d:D}{i:List D}(h:d.ym=some i):d=.tup i:=by cases d <;> first|(cases h;rfl)|cases h
theorem D.lz {d:D}(h:d.tX=true):d=.b7:=by cases d <;> first|rfl|cases h
theorem D.u9 {d:D}:d=.b7↔d.tX=true:=⟨λe=>by rw[e];rfl,D.lz⟩
def lB (f:Int->Int->Option D)(a b:D):Option D:=match a.yo,b.yo with
 |some i,some j=>f i j
 |_,_=>none
theorem fP {f:Int->Int->Option D}{a b d:D}(h:lB f a b=some d):∃i j,a=.int i/\b=.int j/\f i j=some d:=by
 unfold lB at h;cases ha:a.yo with
 |none=>rw[ha]at h;cases h
 |some i =>
  cases hb:b.yo with
  |none=>rw[ha,hb]at h;cases h
  |some j=>rw[ha,hb]at h;exact⟨i,j,D.fk ha,D.fk hb,h⟩
def xX (f:D->D->Option D)(g:List D->List D->Option D)(a b:D):Option D:=match a.yn,b.yn with
 |some i,some j=>g i j
 |_,_=>f a b
theorem pL {f:D->D->Option D}{g:List D->List D->Option D}{a b d:D}(h:xX f g a b=some d):(∃i j,a=.lst i/\b=.lst j/\g i j=some d)\/f a b=some d:=by
 unfold xX at h;cases ha:a.yn with
 |none=>rw[ha]at h;exact .inr h
 |some i =>
  cases hb:b.yn with
  |none=>rw[ha,hb]at h;exact .inr h
  |some j=>rw[ha,hb]at h;exact .inl ⟨i,j,D.hX ha,D.hX hb,h⟩
def Fg:D->D->Option D:=xX (lB λi j=>some (.int (i+j))) λa b=>if a.length+b.length<=Jg then some (.lst (a++b)) else none
def Fc:D->D->Option D:=lB λi j=>some (.int (i-j))
instance (i j:Int):Decidable (l7 i j):=by unfold l7;infer_instance
instance (i j:Int):Decidable (vP i j):=by unfold vP;infer_instance
def Bu:D->D->Option D:=lB λi j=>if l7 i j then some (.int (i*j)) else none
section
variable {X:Cx}
theorem cQ {c:Prop}[Decidable c]{α:Type}{a b:α}(h:(if c then some a else none)=some b):c/\b=a:=by
 by_cases hc:c
 ·rw[if_pos hc]at h;cases h;exact⟨hc,rfl⟩
 ·rw[if_neg hc]at h;cases h
theorem Ah {f:IS->IS->Sem IS}{C:Int->Int->Prop}{g:Int->Int->V}{h:Int->Int->D}{F:Int->Int->Option D}(ho:fy X f (rI C g))(hF:∀i j d,F i j=some d->C i j/\d=h i j)
  (hg:∀(W:Addr->Prop) (H:Hp) i j,Rp X W H (h i j) (g i j)):bH X f (lB F):=by
 intro pins s σ H x y v u Q I rx ry hh;obtain⟨W,d1,d2,d,hd,r1,r2,e,q⟩:=hh;obtain⟨i,j,rfl,rfl,e⟩:=fP e;obtain⟨c,rfl⟩:=hF _ _ _ e;cases r1;cases r2;exact ho pins s σ H _ _ v u Q I rx ry ⟨i,j,rfl,rfl,c,q _ _ (ax.refl _) (hg W H i j)⟩
theorem rH {f:IS->IS->Sem IS}{g:Int->Int->V}{h:Int->Int->D}(ho:fy X f (tV g))
  (hg:∀(W:Addr->Prop) (H:Hp) i j,Rp X W H (h i j) (g i j)):bH X f (lB λi j=>some (h i j)):=by
 intro pins s σ H x y v u Q I rx ry hh;obtain⟨W,d1,d2,d,hd,r1,r2,e,q⟩:=hh;obtain⟨i,j,rfl,rfl,e⟩:=fP e;cases e;cases r1;cases r2;exact ho pins s σ H _ _ v u Q I rx ry ⟨i,j,rfl,rfl,q _ _ (ax.refl _) (hg W H i j)⟩
theorem dY:bH X (Ks .Sub) Fc:=rH (h:=λi j=>.int (i-j)) rF λ_ _ _ _=>rfl
theorem uS:bH X (Ks .Mult) Bu:=Ah (h:=λi j=>.int (i*j)) jI (λ_ _ _ e=>cQ e) λ_ _ _ _=>rfl
end
def p9 (p:Int->Int->Bool):D->D->Option D:=lB λi j=>some (.bl (p i j))
abbrev zB:D->D->Option D:=p9 λi j=>decide (i<j)
abbrev HV:D->D->Option D:=p9 λi j=>decide (i<=j)
abbrev HW:D->D->Option D:=p9 λi j=>decide (j<i)
section
variable {X:Cx}
theorem gy {p:Int->Int->Bool}{f:IS->IS->Sem IS}(ho:fy X f (tV λi j=>.bl (p i j))):bH X f (p9 p):=rH (h:=λi j=>.bl (p i j)) ho λ_ _ _ _=>rfl
theorem bt:bH X (JH .Lt) zB:=gy Ag
theorem xD:bH X (JH .LtE) HV:=gy vX
theorem jK:bH X (JH .Gt) HW:=gy vY
end
mutual
def D.pd:D->PyData
 |.b7=>.none
 |.bl b=>.bool b
 |.int i=>.int i
 |.str x=>.str x
 |.tup ds=>.tuple (D.dt ds)
 |.lst ds=>.list (D.dt ds)
 |_=>.dict []
def D.dt:List D->List PyData
 |[]=>[]
 |d::ds=>d.pd::D.dt ds
end
abbrev D.kA (d:D):Bool:=shaped d.pd
mutual
theorem aT {X:Cx}{pins:List (Addr×Obj)}{σ:St}{H:Hp}{s:IT}(I:Inv X pins σ H s){W:Addr->Prop}:∀{d:D} {v:V} {u:IS},Rp X W H d v->RelV v u->d.pd.canLay0=true->∃as,Reads s.heap u d.pd as
 |.b7,_,_,h,r,_=>by cases h;cases r;exact⟨_,.none⟩
 |.bl b,_,_,h,r,_=>by cases h;cases r;exact⟨_,.bool b⟩
 |.int i,_,_,h,r,_=>by cases h;obtain⟨t,rfl⟩:=r;exact⟨_,.int i t⟩
 |.str x,_,_,h,r,_=>by cases h;obtain⟨t,rfl⟩:=r;exact⟨_,.str x t⟩
 |.tup ds,_,_,h,r,c=>by
  obtain⟨a,vs,rfl,e,q⟩:=h;cases r;obtain⟨its,rv,⟨o,ho,hc,n,hd⟩,hz⟩:=I.tuple (oS.of e);obtain⟨as,ha⟩:=dy I q rv (by simpa[D.pd,JW] using c)
  exact⟨_,.tuple ho hc hd (by simpa using ha)⟩
 |.lst ds,_,_,h,r,c=>by
  obtain⟨a,vs,rfl,e,_,q⟩:=h;cases r;obtain⟨z,its,n,rv,e'⟩:=I.bz a _ e;obtain⟨as,ha⟩:=dy I q rv (by simpa[D.pd,JW] using c)
  exact⟨_,.list e' rfl rfl (by simpa using ha)⟩
 |.obj _,_,_,_,_,c=>by simp[D.pd,JW]at c
 |.dT _ _,_,_,_,_,c=>by simp[D.pd,JW]at c
 |.dK _ _,_,_,_,_,c=>by simp[D.pd,JW]at c
 |.sT _,_,_,_,_,c=>by simp[D.pd,JW]at c
 |.ob _,_,_,_,_,c=>by simp[D.pd,JW]at c
theorem dy {X:Cx}{pins:List (Addr×Obj)}{σ:St}{H:Hp}{s:IT}(I:Inv X pins σ H s){W:Addr->Prop}:∀{ds:List D} {vs:List V} {us:List IS},oT X W H ds vs->Vals vs us->KA (D.dt ds)=true->∃as,ReadsAll s.heap us (D.dt ds) as
 |[],_,_,h,r,_=>by
  rw[show _=[] from h]at r
  cases r;exact⟨_,.nil⟩
 |d::ds,_,_,⟨v,vr,e,h1,h2⟩,r,c=>by
  subst e;have c':(d.pd.canLay0&&KA (D.dt ds))=true:=c;rw[JS]at c';cases r with
  |cons r1 r2 =>
   obtain⟨as,ha⟩:=aT I h1 r1 c'.1;obtain⟨bs,hb⟩:=dy I h2 r2 c'.2;exact⟨_,.cons ha hb⟩
end
def Bx (a b:D):Option D:=if a.kA=true/\b.kA=true then some (.bl (JP a.pd b.pd)) else none
def zA (a b:D):Option D:=if a.kA=true/\b.kA=true then some (.bl (!JP a.pd b.pd)) else none
section
variable {X:Cx}
theorem gY (hu:X.A.units+64<LV):bH X (JH .Eq) Bx:=by
 intro pins s σ H x y v u Q I rx ry h;obtain⟨W,d1,d2,d,hd,r1,r2,e,q⟩:=h;obtain⟨⟨s1,s2⟩,rfl⟩:=cQ e;obtain⟨as,ra⟩:=aT I r1 rx (JD s1);obtain⟨bs,rb⟩:=aT I r2 ry (JD s2);exact compareEq_shaped ra rb s1 s2 hu ⟨.bl _,H,I,rfl,q _ _ (ax.refl _) rfl⟩
theorem gX (hu:X.A.units+64<LV):bH X (JH .NotEq) zA:=by
 intro pins s σ H x y v u Q I rx ry h;obtain⟨W,d1,d2,d,hd,r1,r2,e,q⟩:=h;obtain⟨⟨s1,s2⟩,rfl⟩:=cQ e;obtain⟨as,ra⟩:=aT I r1 rx (JD s1);obtain⟨bs,rb⟩:=aT I r2 ry (JD s2);exact compareNe_shaped ra rb s1 s2 hu ⟨.bl _,H,I,rfl,q _ _ (ax.refl _) rfl⟩
def Fd (a b:D):Option D:=match b.tX with
 |true=>some (.bl a.tX)
 |false=>none
def Bt (a b:D):Option D:=match b.tX with
 |true=>some (.bl (!a.tX))
 |false=>none
theorem Rp.uX {W:Addr->Prop}{H:Hp}{d:D}{v:V}(h:Rp X W H d v):v=.b7↔d=.b7:=by
 cases d with
 |b7=>cases h;simp
 |bl b=>cases h;simp
 |int i=>cases h;simp
 |str x=>cases h;simp
 |obj a=>cases h;simp
 |tup ds=>obtain⟨a,vs,rfl,_⟩:=h;simp
 |lst ds=>obtain⟨a,vs,rfl,_⟩:=h;simp
 |dT ks ds=>obtain⟨a,vs,rfl,_⟩:=h;simp
 |dK ks ds=>obtain⟨a,vs,rfl,_⟩:=h;simp
 |sT ts=>obtain⟨a,rfl,_⟩:=h;simp
 |ob φ=>obtain⟨a,rfl,_⟩:=h;simp
theorem lA {b d e:D}(h:(match b.tX with|true=>some d|false=>none)=some e):b=.b7/\e=d:=by
 cases q:b.tX with
 |true=>rw[q]at h;cases h;exact⟨D.lz q,rfl⟩
 |false=>rw[q]at h;cases h
theorem Rp.n9 {W:Addr->Prop}{H:Hp}{d:D}{v:V}(h:Rp X W H d v):decide (v=.b7)=d.tX:=by
 have q:=h.uX.trans D.u9;cases e:d.tX with
 |true=>exact decide_eq_true (q.mpr e)
 |false=>exact decide_eq_false λz=>by rw[q.mp z]at e;cases e
theorem uU:bH X (JH .Is) Fd:=by
 intro pins s σ H x y v u Q I rx ry h;obtain⟨W,d1,d2,d,hd,r1,r2,e,q⟩:=h;obtain⟨rfl,rfl⟩:=lA e;cases r2;exact xC pins s σ H _ _ v u Q I rx ry ⟨rfl,q _ _ (ax.refl _) (congrArg V.bl r1.n9)⟩
theorem rG:bH X (JH .IsNot) Bt:=by
 intro pins s σ H x y v u Q I rx ry h;obtain⟨W,d1,d2,d,hd,r1,r2,e,q⟩:=h;obtain⟨rfl,rfl⟩:=lA e;cases r2;exact uR pins s σ H _ _ v u Q I rx ry ⟨rfl,q _ _ (ax.refl _) (congrArg (λb=>V.bl (!b)) r1.n9)⟩
end
noncomputable def vC:D->D->Option Bool
 |a,.lst ds=>if a.kA=true/\(D.lst ds).kA=true then some ((D.dt ds).any λy=>JP y a.pd) else none
 |a,.tup ds=>if a.kA=true/\(D.tup ds).kA=true then some ((D.dt ds).any λy=>JP y a.pd) else none
 |_,_=>none
def Ff (a b:D):Option D:=(vC a b).map .bl
def nj (a b:D):Option D:=(vC a b).map λc=>.bl (!c)
theorem gv {ds:List D}{n:PyData}(hn:n=.list (D.dt ds)\/n=.tuple (D.dt ds))(h:shaped n=true):KA (D.dt ds)=true/\J2 (D.dt ds)<=64:=by
 have h1:=JD h;have h2:=depth_of_shaped h;rcases hn with rfl|rfl
 ·refine⟨by simpa[JW] using h1,?_⟩
  have:Kq (.list (D.dt ds))=J2 (D.dt ds)+1:=by simp[Kq]
  lia
 ·refine⟨by simpa[JW] using h1,?_⟩
  have:Kq (.tuple (D.dt ds))=J2 (D.dt ds)+1:=by simp[Kq]
  lia
section
variable {X:Cx}
theorem jJ (hu:X.A.units+64+1<LV):bH X (JH .In) Ff:=by
 intro pins s σ H x y v u Q I rx ry h;obtain⟨W,d1,d2,d,hd,r1,r2,e,q⟩:=h;cases d2 with
 |lst ds =>
  obtain⟨b,e1,rfl⟩:=Jv.mp e;obtain⟨⟨s1,s2⟩,rfl⟩:=cQ e1;obtain⟨as,ra⟩:=aT I r1 rx (JD s1);obtain⟨bs,rb⟩:=aT I r2 ry (JD s2);obtain⟨c1,c2⟩:=gv (.inl rfl) s2;exact in_list_reads rb ra c1 (JD s1) (by have:=LX (J2 (D.dt ds)) d1.pd.depth;lia) ⟨.bl _,H,I,rfl,q _ _ (ax.refl _) rfl⟩
 |tup ds =>
  obtain⟨b,e1,rfl⟩:=Jv.mp e;obtain⟨⟨s1,s2⟩,rfl⟩:=cQ e1;obtain⟨as,ra⟩:=aT I r1 rx (JD s1);obtain⟨bs,rb⟩:=aT I r2 ry (JD s2);obtain⟨c1,c2⟩:=gv (.inr rfl) s2;exact in_tuple_reads rb ra c1 (JD s1) (by have:=LX (J2 (D.dt ds)) d1.pd.depth;lia) ⟨.bl _,H,I,rfl,q _ _ (ax.refl _) rfl⟩
 |_=>cases e
theorem pG (hu:X.A.units+64+1<LV):bH X (JH .NotIn) nj:=by
 intro pins s σ H x y v u Q I rx ry h;obtain⟨W,d1,d2,d,hd,r1,r2,e,q⟩:=h;cases d2 with
 |lst ds =>
  obtain⟨b,e1,rfl⟩:=Jv.mp e;obtain⟨⟨s1,s2⟩,rfl⟩:=cQ e1;obtain⟨as,ra⟩:=aT I r1 rx (JD s1);obtain⟨bs,rb⟩:=aT I r2 ry (JD s2);obtain⟨c1,c2⟩:=gv (.inl rfl) s2;exact notIn_list_reads rb ra c1 (JD s1) (by have:=LX (J2 (D.dt ds)) d1.pd.depth;lia) ⟨.bl _,H,I,rfl,q _ _ (ax.refl _) rfl⟩
 |tup ds =>
  obtain⟨b,e1,rfl⟩:=Jv.mp e;obtain⟨⟨s1,s2⟩,rfl⟩:=cQ e1;obtain⟨as,ra⟩:=aT I r1 rx (JD s1);obtain⟨bs,rb⟩:=aT I r2 ry (JD s2);obtain⟨c1,c2⟩:=gv (.inr rfl) s2;exact notIn_tuple_reads rb ra c1 (JD s1) (by have:=LX (J2 (D.dt ds)) d1.pd.depth;lia) ⟨.bl _,H,I,rfl,q _ _ (ax.refl _) rfl⟩
 |_=>cases e
def tw (a b:D):Option D:=match b.yo with
 |some i=>match a.yn with
  |some ds=>ml ds i
  |none=>match a.ym with
   |some ds=>ml ds i
   |none=>none
 |none=>none
theorem tu {a b d:D}(h:tw a b=some d):∃ds i,(a=.lst ds\/a=.tup ds)/\b=.int i/\ml ds i=some d:=by
 unfold tw at h;cases hb:b.yo with
 |none=>rw[hb]at h;cases h
 |some i =>
  rw[hb]at h;cases ha:a.yn with
  |some ds=>rw[ha]at h;exact⟨ds,i,.inl (D.hX ha),D.fk hb,h⟩
  |none =>
   rw[ha]at h;cases ht:a.ym with
   |some ds=>rw[ht]at h;exact⟨ds,i,.inr (D.hV ht),D.fk hb,h⟩
   |none=>rw[ht]at h;cases h
theorem oT.ml {W:Addr->Prop}{H:Hp}{ds:List D}{vs:List V}{i:Int}{d:D}(h:oT X W H ds vs)(e:L2.ml ds i=some d):∃v,L2.ml vs i=some v/\Rp X W H d v:=by
 unfold L2.ml at *
 rw[h.length];cases q:mY ds.length i with
 |none=>rw[q]at e;cases e
 |some j =>
  rw[q]at e;exact ag.get h e
theorem yg:ze X (FC X tw):=by
 intro value slice pins s σ H x y v u Q I rx ry h hs;obtain⟨W,d1,d2,d,hd,r1,r2,e,q⟩:=h;obtain⟨ds,i,h,rfl,e⟩:=tu e;cases r2;rcases h with rfl|rfl
 ·obtain⟨p,vs,rfl,h1,n1,q1⟩:=r1;obtain⟨z,hz,rz⟩:=oT.ml (X:=X) q1 e;exact de value slice pins s σ H _ _ v u Q I rx ry ⟨p,vs,i,z,rfl,rfl,cS.of h1,hz,q _ _ (ax.refl _) rz⟩ hs
 ·obtain⟨p,vs,rfl,h1,q1⟩:=r1;obtain⟨z,hz,rz⟩:=oT.ml (X:=X) q1 e;exact yf value slice pins s σ H _ _ v u Q I rx ry ⟨p,vs,i,z,rfl,rfl,oS.of h1,hz,q _ _ (ax.refl _) rz⟩ hs
def vy:List D->Option D
 |[.lst ds]=>some (.int ds.length)
 |[.tup ds]=>some (.int ds.length)
 |_=>none
theorem cj:b5 X (.builtin "len") vy:=by
 intro pins s σ H xs us Q I r h;obtain⟨W,ds,d,hd,r1,e,q⟩:=h
 match ds,e with
 |[.lst es],e =>
  cases e;obtain⟨v,r',rfl,⟨p,vs,rfl,h1,n1,q1⟩,hr⟩:=r1;cases hr;refine fv pins s σ H _ us Q I r ⟨p,vs,rfl,.inl (cS.of h1),?_⟩;rw[q1.length];exact q _ _ (ax.refl _) rfl
 |[.tup es],e =>
  cases e;obtain⟨v,r',rfl,⟨p,vs,rfl,h1,q1⟩,hr⟩:=r1;cases hr;refine fv pins s σ H _ us Q I r ⟨p,vs,rfl,.inr (oS.of h1),?_⟩;rw[q1.length];exact q _ _ (ax.refl _) rfl
def dList:List D->Option D
 |[.lst ds]=>some (.lst ds)
 |[.tup ds]=>some (.lst ds)
 |_=>none
def Bv:List D->Option D
 |[.int i,.int j]=>some (.int (if j<i then j else i))
 |_=>none
theorem BH {W:Addr->Prop}{H:Hp}{a b:D}{xs:List V}(h:oT X W H [a,b] xs):∃x y,xs=[x,y]/\Rp X W H a x/\Rp X W H b y:=by
 obtain⟨x,r,rfl,hx,y,r',rfl,hy,hr⟩:=h;cases hr;exact⟨x,y,rfl,hx,hy⟩
theorem iw {W:Addr->Prop}{H:Hp}{a:D}{xs:List V}(h:oT X W H [a] xs):∃x,xs=[x]/\Rp X W H a x:=by
 obtain⟨x,r,rfl,hx,hr⟩:=h;cases hr;exact⟨x,rfl,hx⟩
theorem nv (hc:X.calm=true):b5 X (.builtin "min") Bv:=by
 intro pins s σ H xs us Q I r h;obtain⟨W,ds,d,hd,r1,e,q⟩:=h
 match ds,e with
 |[.int i,.int j],e =>
  cases e;obtain⟨x,y,rfl,hx,hy⟩:=BH r1;cases hx;cases hy;exact qc hc pins s σ H _ us Q I r ⟨i,j,rfl,q _ _ (ax.refl _) rfl⟩
def Fe:List D->Option D
 |[.int i]=>some (.int i)
 |[.bl k]=>some (.int (if k then 1 else 0))
 |_=>none
theorem qe:b5 X (.type "int") Fe:=by
 intro pins s σ H xs us Q I r h;obtain⟨W,ds,d,hd,r1,e,q⟩:=h
 match ds,e with
 |[.int i],e =>
  cases e;obtain⟨x,rfl,hx⟩:=iw r1;cases hx;exact jj pins s σ H _ us Q I r (.inl ⟨i,rfl,q _ _ (ax.refl _) rfl⟩)
 |[.bl k],e =>
  cases e;obtain⟨x,rfl,hx⟩:=iw r1;cases hx;exact jj pins s σ H _ us Q I r (.inr ⟨k,rfl,q _ _ (ax.refl _) rfl⟩)
end
theorem PE.pre {X:Cx}{e:Expr}{t t':TE}(h:PE X e t)(k:∀σ H Q,t' σ H Q->t σ H Q):PE X e t':=λpins s σ H Q I q=>h pins s σ H Q I (k σ H Q q)
theorem PT.pre {X:Cx}{e:Expr}{t t':TT}(h:PT X e t)(k:∀σ H Q,t' σ H Q->t σ H Q):PT X e t':=λpins s σ H Q I q=>h pins s σ H Q I (k σ H Q q)
theorem PA.pre {X:Cx}{es:List Expr}{t t':TA}(h:PA X es t)(k:∀σ H Q,t' σ H Q->t σ H Q):PA X es t':=λpos pins s σ H Q I q=>h pos pins s σ H Q I (k σ H Q q)
section
variable {X:Cx}{e:Expr}{σ:St}{H:Hp}
theorem PW.pre {t t':TT}(h:PW X e t)(k:∀σ H Q,t' σ H Q->t σ H Q):PW X e t':=λw pins s σ H Q I q=>h w pins s σ H Q I (k σ H Q q)
end
abbrev FD:=List D->(D->Prop)->Prop
def dj (F:FD):Prop:=∀ds R R',(∀d,R d->R' d)->F ds R->F ds R'
section
end
section
variable {X:Cx}{pos:Pos}{σ:St}{H:Hp}
theorem wL.pre {ops:List Ll}{rs:List Expr}{t t':V->TE}(h:wL X ops rs t)(k:∀x σ H Q,t' x σ H Q->t x σ H Q):wL X ops rs t':=λpos pins s σ H x v Q I r q=>h pos pins s σ H x v Q I r (k x σ H Q q)
theorem nE.pre {ops:List Ll}{rs:List Expr}{t t':V->TT}(h:nE X ops rs t)(k:∀x σ H Q,t' x σ H Q->t x σ H Q):nE X ops rs t':=λpos pins s σ H x v Q I r q=>h pos pins s σ H x v Q I r (k x σ H Q q)
end
abbrev NF:D->Prop:=λd=>d.flat=true
section
abbrev NL:D->Prop:=λd=>match d with | .lst ds=>D.bJ ds=true|d=>d.flat=true
end
section
variable {P:IY}{w:Je}{W W':Addr->Prop}{H:Hp}
mutual
theorem ak.grow (s:∀a,W' a->W a\/H a=none):∀{d:D} {v:V},ak P w W H d v->ak P w W' H d v
 |.b7,_,h=>h
 |.bl _,_,h=>h
 |.int _,_,h=>h
 |.str _,_,h=>h
 |.obj _,_,h=>h
 |.tup ds,_,⟨a,vs,e,t,r⟩=>⟨a,vs,e,t,ag.grow s r⟩
 |.lst ds,_,⟨a,vs,e,t,n,r⟩=>⟨a,vs,e,t,λz=>(s a z).elim n λq=>(by rw[t]at q;cases q),ag.grow s r⟩
 |.dT ks ds,_,⟨a,vs,e,t,l,n,r⟩=>⟨a,vs,e,t,l,λz=>(s a z).elim n λq=>(by rw[t]at q;cases q),ag.grow s r⟩
 |.dK ks ds,_,⟨a,vs,e,t,l,n,r⟩=>⟨a,vs,e,t,l,λz=>(s a z).elim n λq=>(by rw[t]at q;cases q),ag.grow s r⟩
 |.sT ts,_,⟨a,e,⟨ju,t,r,z⟩,n⟩=>⟨a,e,⟨ju,t,r,z⟩,λz=>(s a z).elim n λq=>(by rw[t]at q;cases q)⟩
 |.ob φ,_,⟨a,e,⟨t,z⟩,n⟩=>⟨a,e,⟨t,z⟩,λz=>(s a z).elim n λq=>(by rw[t]at q;cases q)⟩
theorem ag.grow (s:∀a,W' a->W a\/H a=none):∀{ds:List D} {vs:List V},ag P w W H ds vs->ag P w W' H ds vs
 |[],_,h=>h
 |d::ds,_,⟨v,r,e,h1,h2⟩=>⟨v,r,e,ak.grow s h1,ag.grow s h2⟩
end
end
def Ia (X:Cx)(W:Addr->Prop)(J:It)(ds:List D)(H0:Hp):Prop:=∀(i:Nat) (H:Hp),Kp W H0 H ->
 (∀d,ds[i]?=some d->J.go i H/\∀x H1,J.BP i H x H1->ax H H1/\Rp X W H1 d x)/\(ds.length<=i->J.stop i H)
def BM (X:Cx)(W:Addr->Prop)(J:It)(ds:List D)(H0:Hp):Prop:=∀W':Addr->Prop,(∀b,W' b->W b\/H0 b=none)->Ia X W' J ds H0
section
variable {X:Cx}{tg e:Expr}
theorem PI.pre {iter:Expr}{t t':TI}(h:PI X tg iter t)(k:∀σ H R,t' σ H R->t σ H R):PI X tg iter t':=λpins s σ H R I q=>h pins s σ H R I (k σ H R q)
theorem ly {W:Addr->Prop}{H:Hp}{p:Addr}{vs:List V}{ds:List D}(h1:H p=some (.lst vs))(n1:¬ W p)(q1:oT X W H ds vs):BM X W (Co X.K p) ds H:=λW' hW i H' k=>by
 have h2:=k.out p _ h1 λz=>(hW p z).elim n1 λq=>by rw[h1]at q;cases q
 replace q1:=ag.grow hW q1;constructor
 ·intro d hd;obtain⟨v,hv,rv⟩:=ag.get q1 hd;refine⟨⟨vs,v,cS.of h2,hv⟩,λx H1 y=>?_⟩;obtain⟨rfl,y⟩:=y;have e:=y vs (cS.of h2);rw[hv]at e;cases e;exact⟨ax.refl _,rv.keep k⟩
 ·intro hl;exact⟨vs,cS.of h2,by rw[q1.length];exact hl⟩
def kK (lo:Int)(n:Nat):List D:=(JM n).map λ(k:Nat)=>D.int (lo+(k:Int))
theorem pR {W:Addr->Prop}{H:Hp}{lo:Int}{n:Nat}:BM X W (Cn lo n) (kK lo n) H:=λ_ _ i H' k=>by
 constructor
 ·intro d hd;unfold kK at hd;rw[Jt]at hd;have hi:i<n:=by
   by_cases h:i<n
   ·exact h
   ·rw[K5 (by simpa using h)]at hd;cases hd
  rw[L9 hi]at hd;cases hd;refine⟨hi,λx H1 y=>?_⟩;obtain⟨rfl,rfl⟩:=y;exact⟨ax.refl _,rfl⟩
 ·intro hl;unfold kK at hl;rw[IW,LC]at hl;exact hl
end
section
variable {X:Cx}{tg:Expr}{oZ:List Expr}
theorem PG.pre {t t':TG}(h:PG X tg t)(k:∀v σ H Q,t' v σ H Q->t v σ H Q):PG X tg t':=λpins s σ H v u Q I r q=>h pins s σ H v u Q I r (k v σ H Q q)
theorem wK.pre {t t':wH}(h:wK X oZ t)(k:∀v σ H Q,t' v σ H Q->t v σ H Q):wK X oZ t':=λpins s σ H v u Q I r q=>h pins s σ H v u Q I r (k v σ H Q q)
end
theorem jQ {H:Hp}{a:Addr}{o o':HO}(h:H a=some o)(ht:∀xs,o≠.tup xs):Kp (·=a) H (upd H a o') :=
 ⟨λb u e n=>by rw[ay n];exact e,λb xs e=>by rw[ay (v7 e h (λz=>ht xs z.symm))];exact e⟩
section
end
section
end
section
end
section
variable {σ:St}{β:bo}{own:Nat->List Addr}
def aI (own:Nat->List Addr)(i:Nat)(as:List Addr):Nat->List Addr:=λj=>if j=i then as else own j
theorem c9 {own:Nat->List Addr}{i j:Nat}{a:Addr}(h:a∈aI own i [] j):a∈own j/\j≠i:=by
 unfold aI at h
 by_cases e:j=i
 ·rw[if_pos e]at h;cases h
 ·rw[if_neg e]at h;exact⟨h,e⟩
theorem a3 {α:Type}{β:List α}{i j:Nat}{x:α}(h:i≠j):(β.set i x)[j]?=β[j]?:=by rw[LD,if_neg h]
theorem bc {α:Type}{β:List α}{i:Nat}{x y:α}(h:(β.set i x)[i]?=some y):y=x/\i<β.length:=by
 rw[LD,if_pos rfl]at h
 by_cases hi:i<β.length
 ·rw[if_pos hi]at h;cases h;exact⟨rfl,hi⟩
 ·rw[if_neg hi]at h;cases h
theorem get_set {α:Type}{σ:List α}{i:Nat}{x:α}(h:i<σ.length):(σ.set i x)[i]?=some x:=by rw[LD,if_pos rfl,if_pos h]
end
structure Sn (Z:Hp×(Addr->Prop))(H:Hp)(W:Addr->Prop):Prop where
 w:∀b,W b->Z.2 b\/Z.1 b=none
 k:Kp (λb=>Z.2 b\/Z.1 b=none) Z.1 H
 d:∀b,Z.1 b≠none->H b≠none
theorem Sn.refl {H:Hp}{W:Addr->Prop}:Sn (H,W) H W:=⟨λ_ z=>.inl z,Kp.refl,λ_ z=>z⟩
theorem Sn.same {Z:Hp×(Addr->Prop)}{H H':Hp}{W:Addr->Prop}(n:Sn Z H W)(s:ax H H'):Sn Z H' W:=⟨n.w,n.k.trans s.kp,λb z e=>n.d b z (s.free e)⟩
theorem Sn.free {Z:Hp×(Addr->Prop)}{H:Hp}{W:Addr->Prop}(n:Sn Z H W){a:Addr}(h:H a=none):Z.1 a=none:=by
 cases q:Z.1 a with
 |none=>rfl
 |some o=>exact absurd h (n.d a (by rw[q];intro z;cases z))
theorem Sn.upd {Z:Hp×(Addr->Prop)}{H:Hp}{W:Addr->Prop}(n:Sn Z H W){a:Addr}{o o':HO}(h:H a=some o)(ht:∀xs,o≠.tup xs)(wa:W a):Sn Z (L2.upd H a o') W :=
 ⟨n.w,n.k.trans ((jQ h ht).mono λb z=>by rw[z];exact n.w a wa),λb z e=>by
  by_cases hb:b=a
  ·subst hb;rw[az]at e;cases e
  ·rw[ay hb]at e;exact n.d b z e⟩
theorem Sn.trans {Z:Hp×(Addr->Prop)}{H1 H:Hp}{W1 W:Addr->Prop}(n1:Sn Z H1 W1)(n:Sn (H1,W1) H W):Sn Z H W:=by
 have big:∀b,W1 b\/H1 b=none->Z.2 b\/Z.1 b=none:=λb z=>z.elim (n1.w b) λq=>.inr (n1.free q);exact⟨λb z=>big b (n.w b z),n1.k.trans (n.k.mono big),λb z=>n.d b (n1.d b z)⟩
section
variable {X:Cx}{st:Stmt}{rest:List Stmt}{σ:St}{H:Hp}
theorem PS.pre {t t':TS}(h:PS X st t)(k:∀D σ H,t' D σ H->t D σ H):PS X st t':=λpins s σ H D I q=>h pins s σ H D I (k D σ H q)
theorem l5.pre {t t':TS}(h:l5 X rest t)(k:∀D σ H,t' D σ H->t D σ H):l5 X rest t':=λpins s σ H D I q=>h pins s σ H D I (k D σ H q)
end
section
variable {b:Expr}{H:Hp}
theorem held {P:IY}{w:Je}{W W2:Addr->Prop}{H2:Hp}{d:D}{v:V}(r:ak P w W H d v)(n:Sn (H,W) H2 W2):ak P w W2 H2 d v :=
 ak.aJ n.w (ak.keep n.k (ak.grow (λb z=>z) r))
end
theorem Sn.kp {Z:Hp×(Addr->Prop)}{H H':Hp}{W:Addr->Prop}(n:Sn Z H W)(k:Kp W H H')(dn:∀c,H c≠none->H' c≠none):Sn Z H' W:=⟨n.w,n.k.trans (k.mono n.w),λb z=>dn b (n.d b z)⟩
section
end
section
end
end L2
namespace zf
open PySem PySem.Spec PyProof.Rows
def lexLe:List Int->List Int->Bool
 |[],_=>true
 |_::_,[]=>false
 |x::xs,y::ys=>if x=y then lexLe xs ys else decide (x<=y)
theorem r9 (x y:Int)(xs ys:List Int):lexLe (x::xs) (y::ys)=if x=y then lexLe xs ys else decide (x<=y):=rfl
theorem rX:lexLe [] []=true:=rfl
theorem rY (y:Int)(ys:List Int):lexLe [] (y::ys)=true:=rfl
theorem rZ (x:Int)(xs:List Int):lexLe (x::xs) []=false:=rfl
theorem qU (A:JQ)(s:IT)(a:Int)(t:Tok)(c:Int)(u:Tok)(prog:IY)(w:Je)(E:IS->IT->Prop)(Q:IS->IT->Prop)(h:Q (.bool (decide (a<=c))) s):
  Js (model prog w) A (richCompare .LtE (.int a t) (.int c u)) Q E s :=
 (PyProof.Rows.le_int h:Js (model prog w) A (JH .LtE (.int a t) (.int c u)) Q E s)
section
open PySem.SeqAt
open PySem.AutoSeq1 (wpAny_loadPart')
open PySem.MeetsSeq PySem.MeetsSeq2 PySem.MeetsSeq3
theorem iD (l b:Addr)(items bE:Array IS)(n n2:Nat)(dd Fb:Option Addr)(sl CJ:Array (Option IS))(ns ms:List Int)(hi:Kr items.toList ns)(hj:Kr bE.toList ms):
  Meets (Lo.«tuple.__le__» ⟨[.ref l,.ref b],[]⟩)
   (λ_ R s=>s.heap.get? l=some {cls:=.type "tuple",dict:=dd,data:=.seq items n,slots:=sl}/\s.heap.get? b=some {cls:=.type "tuple",dict:=Fb,data:=.seq bE n2,slots:=CJ} /\
    R (.ok (.ret (.bool (lexLe ns ms)))) s) :=
 .of_wp λprog w A R s h=>by
  obtain⟨hp,g,d,tk,os⟩:=s;obtain⟨hl,hb,h⟩:=h;have f2:=AutoSeq1.sub_tuple_tuple;have z1:items.size=ns.length:=by rw[<- hi.length];simp
  have z2:bE.size=ms.length:=by rw[<- hj.length];simp
  wp_walk using Lh hl,Lh hb,wpAny_forIn_list _ (λrest b s'=>b.1=none/\s'=⟨hp,g,d,tk,os⟩/\∃(vs ws:List IS) (j6 zj:List Int),rest=vs.zip ws /\
   Kr vs j6/\Kr ws zj/\j6.length+bE.size=zj.length+items.size/\R (.ok (.ret (.bool (lexLe j6 zj)))) ⟨hp,g,d,tk,os⟩) _
  case turn =>
   rintro⟨y,x⟩ rest b s' ⟨zt,rfl,vs,ws,j6,zj,hz,DJ,B8,hlen,hR⟩;cases DJ with
   |nil=>rw[List.zip_nil_left]at hz;cases hz
   |cons a t DI =>
    cases B8 with
    |nil=>rw[List.zip_nil_right]at hz;cases hz
    |cons c u DE =>
     rw[Lq]at hz;injection hz with Hf AQ
     injection Hf with hy hx
     subst hy hx;rw[r9]at hR;simp only[Jo]at hlen;obtain⟨e,he,Bd⟩:=HT.s_ A.in1 ⟨hp,g,d,tk,os⟩ a t c u;refine IU (he prog w _ _ ?_);cases e with
     |true =>
      rw[if_pos (Bd.mp rfl)]at hR
      wp_walk
      exact⟨rfl,rfl,_,_,_,_,AQ,DI,DE,by lia,hR⟩
     |false =>
      rw[if_neg (λq=>absurd (Bd.mpr q) KU)]at hR;have Hm:=qU A.in1 ⟨hp,g,d,tk,os⟩ a t c u prog w
      wp_walk using Hm
      exact⟨_,rfl,by simpa using hR⟩
  case fin =>
   rintro⟨b1,b2⟩ s' ⟨zt,rfl,vs,ws,j6,zj,hz,DJ,B8,hlen,hR⟩;simp only at zt;subst zt;have hv:lexLe j6 zj=decide (items.size<=bE.size):=by
    cases DJ with
    |nil =>
     cases B8 with
     |nil =>
      simp only[Li]at hlen;rw[rX];exact(decide_eq_true (by lia)).symm
     |cons c u hw =>
      simp only[Li,Jo]at hlen;rw[rY];exact(decide_eq_true (by lia)).symm
    |cons a t hv =>
     cases B8 with
     |nil =>
      simp only[Li,Jo]at hlen;rw[rZ];exact(decide_eq_false (by lia)).symm
     |cons c u hw =>
      rw[Lq]at hz;cases hz
   rw[hv]at hR
   wp_walk
   exact⟨_,rfl,by simpa[Builtin.Tuple.tupleCompareSizes] using hR⟩
  case h =>
   exact⟨rfl,rfl,items.toList,bE.toList,ns,ms,rfl,hi,hj,by lia,h⟩
end
section
variable {prog:IY}{w:Je}{A:JQ}{E:IS->IT->Prop}{s:IT}
theorem mU {l b:Addr}{items bE:Array IS}{ns ms:List Int}{Q:IS->IT->Prop}(hl:IsTup s.heap l items)(hb:IsTup s.heap b bE)(hi:Kr items.toList ns)(hj:Kr bE.toList ms)
  (hu:A.units<LV) (h:Q (.bool (lexLe ns ms)) s):Js (model prog w) A (JH .LtE (.ref l) (.ref b)) Q E s:=by
 obtain⟨⟨cls,dd,data,sl⟩,ho,hc,n,hd⟩:=id hl;obtain⟨⟨HX,Fb,data2,CJ⟩,F3,j7,n2,hd2⟩:=id hb;simp only at hc hd j7 hd2;subst hc hd j7 hd2;exact richCompare_meets_room (op:=.LtE) ⟨_,ho,rfl⟩ ⟨_,F3,rfl⟩ PySem.F.slot_tuple_le PySem.F.entry_tuple_le (PySem.F.args_tuple_le_2 _ _) (iD l b items bE n n2 dd Fb sl CJ ns ms hi hj)
  ⟨ho,F3,show Value.bool (lexLe ns ms)≠Value.notImplemented/\Q (.bool (lexLe ns ms)) s from ⟨(λx=>nomatch x),h⟩⟩ hu
end
section
open PySem.SeqAt
open PySem.AutoSeq1 (wpAny_loadPart')
open PySem.MeetsSeq PySem.MeetsSeq2 PySem.MeetsSeq3
end
section
end
end zf
namespace L2
open PySem PySem.Spec PySem.SeqAt PyProof.Rows
noncomputable def b9:List D->Option (List Int)
 |[]=>some []
 |.int i::ds=>(b9 ds).map (i::·)
 |_::_=>none
theorem fm:∀{ds:List D} {ns:List Int},b9 ds=some ns->ds=ns.map D.int
 |[],_,h=>by cases h;rfl
 |.int i::ds,_,h=>by
  obtain⟨ns,h1,rfl⟩:=Jv.mp h;rw[Jy,<- fm h1]
 |.b7::_,_,h=>by cases h
 |.bl _::_,_,h=>by cases h
 |.str _::_,_,h=>by cases h
 |.obj _::_,_,h=>by cases h
 |.tup _::_,_,h=>by cases h
 |.lst _::_,_,h=>by cases h
 |.dT _ _::_,_,h=>by cases h
 |.dK _ _::_,_,h=>by cases h
 |.sT _::_,_,h=>by cases h
 |.ob _::_,_,h=>by cases h
theorem dZ:∀(ns:List Int),b9 (ns.map D.int)=some ns
 |[]=>rfl
 |n::ns=>by rw[Jy];show (b9 (ns.map D.int)).map _=_;rw[dZ ns];rfl
theorem bO {P:IY}{w:Je}{W:Addr->Prop}{H:Hp}:∀{ns:List Int} {vs:List V},ag P w W H (ns.map D.int) vs->vs=ns.map V.int
 |[],_,h=>h
 |n::ns,_,⟨v,r,e,h1,h2⟩=>by rw[e,bO h2,show v=V.int n from h1];rfl
theorem ja {P:IY}{w:Je}{W:Addr->Prop}{H:Hp}:∀(ns:List Int),ag P w W H (ns.map D.int) (ns.map V.int)
 |[]=>rfl
 |n::ns=>⟨_,_,rfl,rfl,ja ns⟩
noncomputable def oJ (p:Int->Int->Bool)(lex:List Int->List Int->Bool)(a b:D):Option D:=match a.ym,b.ym with
 |some a,some b=>match b9 a,b9 b with
  |some ns,some ms=>some (.bl (lex ns ms))
  |_,_=>none
 |_,_=>p9 p a b
theorem oY {p:Int->Int->Bool}{lex:List Int->List Int->Bool}{a b d:D}(h:oJ p lex a b=some d):(∃i j ns ms,a=.tup i/\b=.tup j/\b9 i=some ns/\b9 j=some ms/\d=.bl (lex ns ms))\/p9 p a b=some d:=by
 unfold oJ at h;cases ha:a.ym with
 |none=>rw[ha]at h;exact .inr h
 |some i =>
  cases hb:b.ym with
  |none=>rw[ha,hb]at h;exact .inr h
  |some j =>
   rw[ha,hb]at h;cases ea:b9 i with
   |none=>simp only[ea]at h;cases h
   |some ns =>
    cases eb:b9 j with
    |none=>simp only[ea,eb]at h;cases h
    |some ms=>simp only[ea,eb]at h;cases h;exact .inl ⟨i,j,ns,ms,D.hV ha,D.hV hb,ea,eb,rfl⟩
abbrev Bw:D->D->Option D:=oJ (λi j=>decide (i<=j)) zf.lexLe
section
variable {X:Cx}
theorem rJ {p:Int->Int->Bool}{lex:List Int->List Int->Bool}{op:Ll}(ho:fy X (JH op) (tV λi j=>.bl (p i j)))
  (ht:∀(s:IT) (E:IS->IT->Prop) (l b:Addr) (items bE:Array IS) (ns ms:List Int) (Q:IS->IT->Prop),IsTup s.heap l items->IsTup s.heap b bE->Kr items.toList ns->Kr bE.toList ms->Q (.bool (lex ns ms)) s->Js (model X.prog X.w) X.A (JH op (.ref l) (.ref b)) Q E s) :
  bH X (JH op) (oJ p lex):=by
 intro pins s σ H x y v u Q I rx ry h;obtain⟨W,d1,d2,d,hd,r1,r2,e,q⟩:=h;rcases oY e with⟨a,b,ns,ms,rfl,rfl,ea,eb,rfl⟩|e
 ·rw[fm ea]at r1;rw[fm eb]at r2;obtain⟨pa,vs,rfl,ha,ra⟩:=r1;obtain⟨pb,us,rfl,hb,rb⟩:=r2;rw[bO ra]at ha;rw[bO rb]at hb;cases rx;cases ry;obtain⟨its,q1,p1,_⟩:=I.tuple (oS.of ha);obtain⟨yj,q2,p2,_⟩:=I.tuple (oS.of hb);exact ht s _ pa pb _ _ ns ms _ p1 p2 (by simpa using intsAre_of q1) (by simpa using intsAre_of q2) ⟨.bl _,H,I,rfl,q _ _ (ax.refl _) rfl⟩
 ·exact gy ho pins s σ H x y v u Q I rx ry ⟨W,_,_,d,hd,r1,r2,e,q⟩
theorem uT (hu:X.A.units<LV):bH X (JH .LtE) Bw:=rJ vX λs E l b items bE ns ms Q h1 h2 h3 h4 h5=>zf.mU h1 h2 h3 h4 hu h5
end
end L2
namespace TS
open PySem PyProof.Rows
section
variable {prog:IY}{w:Je}{A:JQ}{E:IS->IT->Prop}{s:IT}
theorem mD {x:IS}{vs:List IS}{kf:IS->List Int}{Q:IS->IT->Prop}(hz:vs.length<=1000000)
  (col:∀(B:JQ) (R:List IS->IT->Prop),B.units<=A.units+1->(∀(h':Heap) (tk:Nat),(∀b o,s.heap.get? b=some o->h'.get? b=some o)->s.heap.objs.size<=h'.objs.size->R vs {s with heap:=h',toks:=tk})->Js (model prog w) B (collect x) R E s)
  (T:iN s.heap kf s.heap.objs.size vs)
  (h:∀(out:List IS) (l:Addr) (h':Heap) (tk:Nat) (n:Nat),out.Perm vs->out.Pairwise (λx y=>HT.lexLt (kf y) (kf x)=false)->s.heap.objs.size<=l->(∀b o,s.heap.get? b=some o->h'.get? b=some o)->h'.get? l=some (Kl "list" out.toArray n)->Q (.ref l) {s with heap:=h',toks:=tk}) :
  Js (model prog w) A (call (.builtin "sorted") [x]) Q E s:=by
 refine Lx kind_sorted plain_sorted entry_sorted (args_sorted1 _) ?_;unfold Lo.«sorted»
 refine IU (m:=checkCount "sorted" 1 1 _) (Jc ?_);refine IU (col A.in1 _ (IZ _) λh' tk kp G9=>?_);have nl:vs.length<=Jg:=by rw[JU];lia
 refine IU (wpAny_newList ?_ nl);have hl:(h'.push (Kl "list" vs.toArray 0)).get? h'.objs.size=some (Kl "list" vs.toArray 0):=JG _ rfl;have T':iN (h'.push (Kl "list" vs.toArray 0)) kf h'.objs.size vs:=λv hv=>by
  obtain⟨t,o,xs,k,e1,_,e3,r⟩:=T v hv;exact⟨t,o,xs,k,e1,JB (Jf (kp _ _ e3)),Jb _ (kp _ _ e3),r⟩
 refine IU (Kv (K8 slot_list_sort ⟨_,hl,rfl⟩ entry_list_sort (g_ (s:={s with heap:=h'.push (Kl "list" vs.toArray 0),toks:=tk}) hl hz T' λout hp hs=>⟨_,rfl,?_⟩) (args_list_sort _)))
 obtain⟨n,hn⟩:=sortedHeap_at (out:=out.toArray) hl;refine Jc ⟨_,rfl,h out h'.objs.size _ tk n hp hs G9 (λb o e=>?_) hn⟩;have hb:=Jf (kp _ _ e);rw[sortedHeap_old (JB hb) (by rw[size_push'];exact Nat.lt_succ_of_lt hb)]
 exact Jb _ (kp _ _ e)
end
end TS
namespace L2
open PySem PySem.Spec PyProof.Rows
def mW (H:Hp):IS->List Int
 |.ref t=>match H t with
  |some (.tup xs)=>xs.filterMap fun
   |.int i=>some i
   |_=>none
  |_=>[]
 |_=>[]
theorem lJ:∀ns:List Int,((ns.map V.int).filterMap fun
   |.int i=>some i
   |_=>none)=ns
 |[]=>rfl
 |n::ns=>by
  rw[Jy,Lk];dsimp only;rw[lJ ns]
theorem hJ {H:Hp}{t:Addr}{ns:List Int}(h:H t=some (.tup (ns.map V.int))):mW H (.ref t)=ns:=by
 unfold mW;dsimp only;rw[h];exact lJ ns
def vn (H:Hp):IS->Addr×List Int
 |.ref t=>(t,mW H (.ref t))
 |_=>(0,[])
abbrev tN (H:Hp)(ts:List (Addr×List Int)):Prop:=∀t∈ts,H t.1=some (.tup (t.2.map V.int))/\t.2≠[]
abbrev jx (t:Addr×List Int):V:=.ref t.1
theorem iQ:∀{ts:List (Addr×List Int)} {us:List IS},Vals (ts.map jx) us->us=ts.map λt=>Value.ref t.1
 |[],_,.nil=>rfl
 |t::ts,_,.cons r q=>by
  rw[Jy,<- iQ q];cases r;rfl
theorem fH:∀(ts:List (Addr×List Int)),Vals (ts.map jx) (ts.map λt=>Value.ref t.1)
 |[]=>.nil
 |t::ts=>.cons rfl (fH ts)
theorem iX {H:Hp}{ts:List (Addr×List Int)}(T:tN H ts){out:List IS}(hp:out.Perm (ts.map λt=>Value.ref t.1)):out=(out.map (vn H)).map (λt=>Value.ref t.1)/\(out.map (vn H)).Perm ts:=by
 constructor
 ·rw[Ki];refine(Lj (g:=id) λv hv=>?_).trans (List.map_id _) |>.symm
  obtain⟨t,ht,rfl⟩:=JK.mp (hp.mem_iff.mp hv);rfl
 ·refine(hp.map (vn H)).trans (MC ?_);rw[Ki];refine(Lj (g:=id) λt ht=>?_).trans (List.map_id _);show (t.1,mW H (.ref t.1))=t;rw[hJ (T t ht).1]
theorem nI {P:IY}{w:Je}{H:Hp}{h:Heap}{ts:List (Addr×List Int)}(ok:eM P w H h)(T:tN H ts){a:Addr}(ha:h.objs.size<=a):TS.iN h (mW H) a (ts.map λt=>Value.ref t.1):=λv hv=>by
 obtain⟨t,ht,rfl⟩:=JK.mp hv;obtain⟨h1,h2⟩:=T t ht;obtain⟨_,its,r,o,ho,hc,n,hd⟩:=(show a6 P w H h t.1 (.tup (t.2.map V.int)) from ok _ _ h1)
 exact⟨t.1,o,_,n,rfl,JB (Jw (Jf ho) ha),ho,hc,hd,by rw[hJ h1];exact intsAre_of (by simpa using r),by rw[hJ h1];exact h2⟩
section
variable {X:Cx}
theorem jY:dM X (.builtin "sorted") (λxs H Q=>∃(p:Addr) (ts:List (Addr×List Int)),xs=[.ref p]/\cS X.K H p (ts.map jx)/\tN H ts/\ts.length<=1000000 /\
  ∀(l:Addr) (ju:List (Addr×List Int)),H l=none->ju.Perm ts->ju.Pairwise (λx y=>HT.lexLt y.2 x.2=false)->Q (.ref l) (upd H l (.lst (ju.map jx)))):=by
 intro pins s σ H xs us Q I r h;obtain⟨p,ts,rfl,hq,T,hz,q⟩:=h;obtain⟨u,rfl,rx⟩:=vals1 r;cases rx;obtain⟨its,r',pl,hl⟩:=I.list hq;obtain rfl:=iQ r';have nl:(ts.map λt=>Value.ref t.1).length<=Jg:=by rw[IW,JU];lia
 refine TS.mD (kf:=mW H) (by rw[IW];exact hz) (λB R _ hR=>?_) (nI I.bz T (IZ _)) λout l h' tk n hp hs hle kp ho=>?_
 ·refine collect_list pl.isList (hR _ s.toks (λb o e=>?_) ?_) nl
  ·have hb:=Jf e;rw[Heap.get?_update_ne _ _ _ _ (JB hb)];exact Jb _ e
  ·rw[Heap.size_update,size_push'];exact L3 _
 ·obtain⟨e1,e2⟩:=iX T hp;have zl:out.length=ts.length:=by rw[hp.length_eq,IW]
  refine⟨.ref l,_,I.laid (t':=tk) (o:=.lst ((out.map (vn H)).map jx)) kp hle ?_,rfl,q l _ (I.bz.fresh hle) e2 ?_⟩
  ·refine⟨by rw[IW,IW,zl,JU];lia,out,n,?_,ho⟩
   have:=fH (out.map (vn H));rw[<- e1]at this;exact this
  ·rw[K0];refine hs.imp_of_mem λ{x y} hx hy hh=>?_;obtain⟨t,ht,rfl⟩:=JK.mp (hp.mem_iff.mp hx);obtain⟨t',DM,rfl⟩:=JK.mp (hp.mem_iff.mp hy);exact hh
end
end L2
namespace TS
open PySem PyProof.Rows
section
variable {prog:IY}{w:Je}{A:JQ}{E:IS->IT->Prop}{s:IT}
theorem mC {x:IS}{vs:List IS}{kf:IS->List Int}{Q:IS->IT->Prop}(hz:vs.length<=1000000)
  (col:∀(R:List IS->IT->Prop),(∀(h':Heap) (tk:Nat),(∀b o,s.heap.get? b=some o->h'.get? b=some o)->R vs {s with heap:=h',toks:=tk})->Js (model prog w) A.in1 (collect x) R E s)
  (T:iN s.heap kf s.heap.objs.size vs)
  (h:∀(out:List IS) (h1 h':Heap) (tk:Nat) (n:Nat),out.Perm vs->out.Pairwise (λx y=>HT.lexLt (kf y) (kf x)=false)->(∀b o,s.heap.get? b=some o->h1.get? b=some o)->(∀b o,h1.get? b=some o->h'.get? b=some o)->h'.get? h1.objs.size=some (Kl "list" out.toArray n)->Q (.ref h1.objs.size) {s with heap:=h',toks:=tk}) :
  Js (model prog w) A (call (.builtin "sorted") [x]) Q E s:=by
 refine Lx kind_sorted plain_sorted entry_sorted (args_sorted1 _) ?_;unfold Lo.«sorted»
 refine IU (m:=checkCount "sorted" 1 1 _) (Jc ?_);refine IU (col _ λh' tk kp=>?_);have nl:vs.length<=Jg:=by rw[JU];lia
 refine IU (wpAny_newList ?_ nl);have hl:(h'.push (Kl "list" vs.toArray 0)).get? h'.objs.size=some (Kl "list" vs.toArray 0):=JG _ rfl;have T':iN (h'.push (Kl "list" vs.toArray 0)) kf h'.objs.size vs:=λv hv=>by
  obtain⟨t,o,xs,k,e1,_,e3,r⟩:=T v hv;exact⟨t,o,xs,k,e1,JB (Jf (kp _ _ e3)),Jb _ (kp _ _ e3),r⟩
 refine IU (Kv (K8 slot_list_sort ⟨_,hl,rfl⟩ entry_list_sort (g_ (s:={s with heap:=h'.push (Kl "list" vs.toArray 0),toks:=tk}) hl hz T' λout hp hs=>⟨_,rfl,?_⟩) (args_list_sort _)))
 obtain⟨n,hn⟩:=sortedHeap_at (out:=out.toArray) hl;refine Jc ⟨_,rfl,h out h' _ tk n hp hs kp (λb o e=>?_) hn⟩;have hb:=Jf e;rw[sortedHeap_old (JB hb) (by rw[size_push'];exact Nat.lt_succ_of_lt hb)]
 exact Jb _ e
end
end TS
namespace L2
open PySem PySem.Spec PySem.SeqAt PyProof.Rows HT
theorem dc:∀{a b:List Int},lexLt a b=false->lexLt b a=false->a=b
 |[],[],_,_=>rfl
 |[],_::_,h,_=>by cases h
 |_::_,[],_,h=>by cases h
 |x::xs,y::ys,h1,h2=>by
  rw[eC]at h1 h2
  by_cases e:x=y
  ·subst e;rw[if_pos rfl]at h1 h2;rw[dc h1 h2]
  ·rw[if_neg e]at h1;rw[if_neg (λz=>e z.symm)]at h2;have:=of_decide_eq_false h1;have:=of_decide_eq_false h2;omega
theorem hG:∀{a b:List Int},lexLt a b=true->lexLt b a=false
 |[],[],h=>by cases h
 |[],_::_,_=>rfl
 |_::_,[],h=>by cases h
 |x::xs,y::ys,h=>by
  rw[eC]at h ⊢
  by_cases e:x=y
  ·subst e;rw[if_pos rfl]at h ⊢
   exact hG h
  ·rw[if_neg e]at h;rw[if_neg (λz=>e z.symm)];have:=of_decide_eq_true h;exact decide_eq_false (by lia)
theorem dA:∀{a b c:List Int},lexLt a b=true->lexLt b c=true->lexLt a c=true
 |[],[],_,h,_=>by cases h
 |[],_::_,[],_,h=>by cases h
 |[],_::_,_::_,_,_=>rfl
 |_::_,[],_,h,_=>by cases h
 |x::xs,y::ys,[],_,h=>by cases h
 |x::xs,y::ys,z::zs,h1,h2=>by
  rw[eC]at h1 h2 ⊢
  by_cases e:x=y
  ·subst e;rw[if_pos rfl]at h1
   by_cases e2:x=z
   ·subst e2;rw[if_pos rfl]at h2 ⊢
    exact dA h1 h2
   ·rw[if_neg e2]at h2 ⊢
    exact h2
  ·rw[if_neg e]at h1;have q1:=of_decide_eq_true h1
   by_cases e2:y=z
   ·subst e2;rw[if_neg e];exact h1
   ·rw[if_neg e2]at h2;have q2:=of_decide_eq_true h2;rw[if_neg (by omega)]
    exact decide_eq_true (by omega)
noncomputable def mZ (k:List Int):List (List Int)->List (List Int)
 |[]=>[k]
 |x::xs=>if lexLt x k=true then x::mZ k xs else k::x::xs
def dq:List (List Int)->List (List Int)
 |[]=>[]
 |k::ks=>mZ k (dq ks)
theorem fQ (k:List Int):∀xs,(mZ k xs).Perm (k::xs)
 |[]=>.refl _
 |x::xs=>by
  unfold mZ
  split
  ·exact((fQ k xs).cons x).trans (List.Perm.swap _ _ _)
  ·exact .refl _
theorem bU:∀ks,(dq ks).Perm ks
 |[]=>.refl _
 |k::ks=>(fQ k (dq ks)).trans ((bU ks).cons k)
abbrev nB (ks:List (List Int)):Prop:=ks.Pairwise λx y=>HT.lexLt y x=false
theorem le_trans' {a b c:List Int}(h1:lexLt b a=false)(h2:lexLt c b=false):lexLt c a=false:=by
 cases h:lexLt c a with
 |false=>rfl
 |true =>
  cases hb:lexLt a b with
  |true=>rw[dA h hb]at h2;cases h2
  |false =>
   have:=dc hb h1;subst this;rw[h]at h2;cases h2
theorem jb (k:List Int):∀xs,nB xs->nB (mZ k xs)
 |[],_=>by simp[mZ]
 |x::xs,h=>by
  obtain⟨h1,h2⟩:=Kb.mp h;unfold mZ
  split
  ·rename_i hx
   refine Kb.mpr ⟨λy hy=>?_,jb k xs h2⟩;rcases Ja.mp ((fQ k xs).mem_iff.mp hy)with rfl|hy
   ·exact hG hx
   ·exact h1 y hy
  ·rename_i hx
   have zq:lexLt x k=false:=by cases q:lexLt x k <;> simp_all
   refine Kb.mpr ⟨λy hy=>?_,h⟩;rcases Ja.mp hy with rfl|hy
   ·exact zq
   ·exact le_trans' zq (h1 y hy)
theorem eW:∀ks,nB (dq ks)
 |[]=>.nil
 |k::ks=>jb k _ (eW ks)
theorem fY:∀{a b:List (List Int)},a.Perm b->nB a->nB b->a=b
 |[],b,p,_,_=>by rw[List.nil_perm.mp p]
 |x::a,[],p,_,_=>by have:=p.length_eq;simp at this
 |x::a,y::b,p,ha,hb=>by
  obtain⟨a1,a2⟩:=Kb.mp ha;obtain⟨b1,b2⟩:=Kb.mp hb;have DC:x=y:=by
   rcases Ja.mp (p.mem_iff.mp (JA (a:=x) (l:=a)))with h|h
   ·exact h
   ·rcases Ja.mp (p.mem_iff.mpr (JA (a:=y) (l:=b)))with h' | h'
    ·exact h'.symm
    ·exact dc (b1 x h) (a1 y h')
  subst DC;rw[fY (List.perm_cons x |>.mp p) a2 b2]
theorem qL {a b:List (List Int)}(p:a.Perm b)(h:nB a):a=dq b:=fY (p.trans (bU b).symm) h (eW b)
abbrev kD (k:List Int):D:=.tup (k.map D.int)
noncomputable def d8:List D->Option (List (List Int))
 |[]=>some []
 |.tup a::ds=>match b9 a,d8 ds with
  |some k,some ks=>if k=[] then none else some (k::ks)
  |_,_=>none
 |_::_=>none
theorem lx:∀{ds:List D} {ks:List (List Int)},d8 ds=some ks->ds=ks.map kD/\∀k∈ks,k≠[]
 |[],_,h=>by cases h;exact⟨rfl,λ_ z=>nomatch z⟩
 |.tup a::ds,ks,h=>by
  have h':(match b9 a,d8 ds with|some k,some ks=>if k=[] then none else some (k::ks)|_,_=>none)=some ks:=h
  cases ea:b9 a with
  |none=>rw[ea]at h';cases h'
  |some k =>
   cases eb:d8 ds with
   |none=>rw[ea,eb]at h';cases h'
   |some kr =>
    rw[ea,eb]at h'
    by_cases hk:k=[]
    ·simp[hk]at h'
    ·simp only[hk,if_false,Mk]at h';subst h';obtain⟨h1,h2⟩:=lx eb;rw[Jy,<- h1,fm ea];refine⟨rfl,λx hx=>?_⟩;rcases Ja.mp hx with rfl|hx
     ·exact hk
     ·exact h2 x hx
 |.b7::_,_,h=>by cases h
 |.bl _::_,_,h=>by cases h
 |.str _::_,_,h=>by cases h
 |.obj _::_,_,h=>by cases h
 |.int _::_,_,h=>by cases h
 |.lst _::_,_,h=>by cases h
 |.dT _ _::_,_,h=>by cases h
 |.dK _ _::_,_,h=>by cases h
 |.sT _::_,_,h=>by cases h
 |.ob _::_,_,h=>by cases h
theorem i8:∀{ks:List (List Int)},(∀k∈ks,k≠[])->d8 (ks.map kD)=some ks
 |[],_=>rfl
 |k::ks,h=>by
  show (match b9 (k.map D.int),d8 (ks.map kD)with|some k,some ks=>if k=[] then none else some (k::ks)|_,_=>none)=_
  rw[dZ,i8 λx hx=>h x (Ju _ hx)];simp[h k (JA ..)]
section
variable {P:IY}{w:Je}{W:Addr->Prop}{H:Hp}
theorem i7:∀{ks:List (List Int)} {vs:List V},(∀k∈ks,k≠[])->ag P w W H (ks.map kD) vs->∃ts:List (Addr×List Int),vs=ts.map jx/\tN H ts/\ts.map (·.2)=ks
 |[],_,_,h=>⟨[],h,(λ_ z=>nomatch z),rfl⟩
 |k::ks,_,hk,⟨v,r,e,⟨a,us,e1,e2,e3⟩,h2⟩=>by
  obtain⟨ts,q1,q2,q3⟩:=i7 (λx hx=>hk x (Ju _ hx)) h2;refine⟨(a,k)::ts,by rw[e,e1,q1];rfl,λt ht=>?_,by rw[Jy,q3]⟩
  rcases Ja.mp ht with rfl|ht
  ·rw[bO e3]at e2;exact⟨e2,hk k (JA ..)⟩
  ·exact q2 t ht
theorem fG:∀{ts:List (Addr×List Int)},(∀t∈ts,H t.1=some (.tup (t.2.map V.int)))->ag P w W H ((ts.map (·.2)).map kD) (ts.map jx)
 |[],_=>rfl
 |t::ts,h=>⟨_,_,rfl,⟨t.1,_,rfl,h t (JA ..),ja t.2⟩,fG λx hx=>h x (Ju _ hx)⟩
noncomputable def tp:List D->Option D
 |[.lst ds]=>match d8 ds with
  |some ks=>if ks.length<=1000000 then some (.lst ((dq ks).map kD)) else none
  |none=>none
 |[.sT ts]=>if ts.length<=1000/\(∀k∈ts,k≠[]) then some (.lst ((dq ts).map kD)) else none
 |_=>none
end
section
end
def bK:FD:=λds R=>∃n:Int,ds=[.int n]/\0<n/\n<2 ^ 200/\∀r:Int,0<=r->r<n->R (.int r)
theorem bK.mono:dj bK:=λds R R' k ⟨n,e,h1,h2,q⟩=>⟨n,e,h1,h2,λr a b=>k _ (q r a b)⟩
section
end
section
variable {X:Cx}{W:Addr->Prop}{H:Hp}
theorem rR {p:Addr}{vs:List V}{ds:List D}(n:H p=none)(f:NL (.lst ds))(r:oT X W H ds vs):Rp X (λa=>H a≠none) (upd H p (.lst vs)) (.lst ds) (.ref p) :=
 ⟨p,vs,rfl,az,λz=>z n,ag.flat f (r.same (ax.new n))⟩
def CV (X:Cx)(f:D->D->Option D):R2:=λx y H Q=>∃W d1 d2 d,Dm W H/\Rp X W H d1 x/\Rp X W H d2 y/\f d1 d2=some d/\∀v H',ax H H'->Rp X W H' d v->(NL d->Rp X (λa=>H a≠none) H' d v)->Q v H'
def CU (X:Cx)(f:List D->Option D):List V->Hp->VK->Prop:=λxs H Q=>∃W ds d,Dm W H/\oT X W H ds xs/\f ds=some d/\∀v H',ax H H'->Rp X W H' d v->(NL d->Rp X (λa=>H a≠none) H' d v)->Q v H'
abbrev Fo (X:Cx)(f:IS->IS->Sem IS)(g:D->D->Option D):Prop:=fy X f (CV X g)
abbrev nF (X:Cx)(f:IS)(g:List D->Option D):Prop:=dM X f (CU X g)
theorem gZ:Fo X (Ks .Add) Fg:=by
 intro pins s σ H x y v u Q I rx ry h;obtain⟨W,d1,d2,d,hd,r1,r2,e,q⟩:=h;rcases pL e with⟨a,b,rfl,rfl,e⟩|e
 ·obtain⟨hl,rfl⟩:=cQ e;obtain⟨p,vs,rfl,h1,n1,q1⟩:=r1;obtain⟨p',vs',rfl,h2,n2,q2⟩:=r2;exact rK pins s σ H _ _ v u Q I rx ry ⟨p,p',vs,vs',rfl,rfl,h1,h2,by rw[q1.length,q2.length];exact hl,λl sF=>q _ _ (ax.new sF) (Rp.g8 hd sF (q1.append q2)) λf=>rR sF f (q1.append q2)⟩
 ·obtain⟨i,j,rfl,rfl,e⟩:=fP e;cases e;cases r1;cases r2;exact jL pins s σ H _ _ v u Q I rx ry ⟨i,j,rfl,rfl,q _ _ (ax.refl _) rfl λ_=>rfl⟩
theorem dI:nF X (.type "list") dList:=by
 intro pins s σ H xs us Q I r h;obtain⟨W,ds,d,hd,r1,e,q⟩:=h
 match ds,e with
 |[.lst es],e =>
  cases e;obtain⟨v,r',rfl,⟨p,vs,rfl,h1,n1,q1⟩,hr⟩:=r1;cases hr;exact fu pins s σ H _ us Q I r ⟨p,vs,rfl,.inl (cS.of h1),λl hl=>q _ _ (ax.new hl) (Rp.g8 hd hl q1) λf=>rR hl f q1⟩
 |[.tup es],e =>
  cases e;obtain⟨v,r',rfl,⟨p,vs,rfl,h1,q1⟩,hr⟩:=r1;cases hr;exact fu pins s σ H _ us Q I r ⟨p,vs,rfl,.inr (oS.of h1),λl hl=>q _ _ (ax.new hl) (Rp.g8 hd hl q1) λf=>rR hl f q1⟩
theorem fw:nF X (.builtin "sorted") (λds=>match ds with | [.lst ds]=>tp [.lst ds]|_=>none):=by
 intro pins s σ H xs us Q I r h;obtain⟨W,ds,d,hd,r1,e,q⟩:=h
 match ds,e with
 |[.lst es],e =>
  have e':(match d8 es with|some ks=>if ks.length<=1000000 then some (D.lst ((dq ks).map kD)) else none|none=>none)=some d:=e
  cases ek:d8 es with
  |none=>rw[ek]at e';cases e'
  |some ks =>
   rw[ek]at e';obtain⟨hl,rfl⟩:=cQ e';obtain⟨rfl,hk⟩:=lx ek;obtain⟨x,rfl,p,vs,rfl,hp,n1,q1⟩:=iw r1;obtain⟨ts,rfl,T,rfl⟩:=i7 hk q1;refine jY pins s σ H _ us Q I r ⟨p,ts,rfl,cS.of hp,T,by simpa using hl,λl ju sF F1 Hq=>?_⟩
   have eq:ju.map (·.2)=dq (ts.map (·.2)):=qL (F1.map _) (K0.mpr Hq);rw[<- eq]at q;have rk:=fG (P:=X.prog) (w:=X.w) (W:=W) (H:=H) (ts:=ju) λt ht=>(T t (F1.mem_iff.mp ht)).1;exact q _ _ (ax.new sF) (Rp.g8 hd sF rk) λf=>rR sF f rk
end
section
end
end L2
namespace L2.Q
open PySem PySem.Spec PySem.SeqAt PyProof.Rows
section
variable (P:IY)(w:Je)(H:Hp)
mutual
def Own:D->V->List Addr->Prop
 |.tup ds,v,A=>∃a vs,v=.ref a/\H a=some (.tup vs)/\aD ds vs A
 |.lst ds,v,A=>∃a vs A',v=.ref a/\H a=some (.lst vs)/\A=a::A'/\aD ds vs A'
 |.dT ks ds,v,A=>∃a vs A',v=.ref a/\H a=some (.dT (ks.zip vs))/\ks.length=vs.length/\A=a::A'/\aD ds vs A'
 |.dK ks ds,v,A=>∃a vs A',v=.ref a/\H a=some (.dK (ks.zip vs))/\ks.length=vs.length/\A=a::A'/\aD ds vs A'
 |.sT ts,v,A=>∃a,v=.ref a/\vK P w H a ts/\A=[a]
 |.ob φ,v,A=>∃a,v=.ref a/\(H a=some (φ a)/\∀xs,φ a≠.tup xs)/\A=[a]
 |.b7,v,A=>v=.b7/\A=[]
 |.bl b,v,A=>v=.bl b/\A=[]
 |.int i,v,A=>v=.int i/\A=[]
 |.str x,v,A=>v=.str x/\A=[]
 |.obj a,v,A=>v=.ref a/\A=[]
def aD:List D->List V->List Addr->Prop
 |[],vs,A=>vs=[]/\A=[]
 |d::ds,vs,A=>∃v r A1 A2,vs=v::r/\A=A1++A2/\Own d v A1/\aD ds r A2
end
end
section
variable {P:IY}{w:Je}{W:Addr->Prop}{H H':Hp}
theorem pf {a:Addr}{ts:List (List Int)}(k:∀b xs,H b=some (.tup xs)->H' b=some (.tup xs))(ha:∀o,H a=some o->H' a=some o)(h:vK P w H a ts):vK P w H' a ts :=
 let ⟨ju,e,r,z⟩:=h;⟨ju,ha _ e,λx hx=>k _ _ (r x hx),z⟩
mutual
theorem Own.keep (k:∀b xs,H b=some (.tup xs)->H' b=some (.tup xs)):∀{d:D} {v:V} {A:List Addr},(∀c∈A,∀o,H c=some o->H' c=some o)->Own P w H d v A->Own P w H' d v A
 |.tup ds,_,_,ha,⟨a,vs,e,t,r⟩=>⟨a,vs,e,k a vs t,aD.keep k ha r⟩
 |.lst ds,_,_,ha,⟨a,vs,A',e,t,eA,r⟩=>⟨a,vs,A',e,ha a (by rw[eA];simp) _ t,eA,aD.keep k (λc hc=>ha c (by rw[eA];simp[hc])) r⟩
 |.dT ks ds,_,_,ha,⟨a,vs,A',e,t,l,eA,r⟩=>⟨a,vs,A',e,ha a (by rw[eA];simp) _ t,l,eA,aD.keep k (λc hc=>ha c (by rw[eA];simp[hc])) r⟩
 |.dK ks ds,_,_,ha,⟨a,vs,A',e,t,l,eA,r⟩=>⟨a,vs,A',e,ha a (by rw[eA];simp) _ t,l,eA,aD.keep k (λc hc=>ha c (by rw[eA];simp[hc])) r⟩
 |.sT ts,_,_,ha,⟨a,e,r,eA⟩=>⟨a,e,pf k (λo ho=>ha a (by rw[eA];simp) o ho) r,eA⟩
 |.ob φ,_,_,ha,⟨a,e,r,eA⟩=>⟨a,e,⟨ha a (by rw[eA];simp) _ r.1,r.2⟩,eA⟩
 |.b7,_,_,_,h=>h
 |.bl _,_,_,_,h=>h
 |.int _,_,_,_,h=>h
 |.str _,_,_,_,h=>h
 |.obj _,_,_,_,h=>h
theorem aD.keep (k:∀b xs,H b=some (.tup xs)->H' b=some (.tup xs)):∀{ds:List D} {vs:List V} {A:List Addr},(∀c∈A,∀o,H c=some o->H' c=some o)->aD P w H ds vs A->aD P w H' ds vs A
 |[],_,_,_,h=>h
 |d::ds,_,_,ha,⟨v,r,A1,A2,e,eA,h1,h2⟩=>⟨v,r,A1,A2,e,eA,Own.keep k (λc hc=>ha c (by rw[eA];simp[hc])) h1,aD.keep k (λc hc=>ha c (by rw[eA];simp[hc])) h2⟩
end
mutual
theorem Own.rep:∀{d:D} {v:V} {A:List Addr},(∀c∈A,¬ W c)->Own P w H d v A->ak P w W H d v
 |.tup ds,_,_,ha,⟨a,vs,e,t,r⟩=>⟨a,vs,e,t,aD.rep ha r⟩
 |.lst ds,_,_,ha,⟨a,vs,A',e,t,eA,r⟩=>⟨a,vs,e,t,ha a (by rw[eA];simp),aD.rep (λc hc=>ha c (by rw[eA];simp[hc])) r⟩
 |.dT ks ds,_,_,ha,⟨a,vs,A',e,t,l,eA,r⟩=>⟨a,vs,e,t,l,ha a (by rw[eA];simp),aD.rep (λc hc=>ha c (by rw[eA];simp[hc])) r⟩
 |.dK ks ds,_,_,ha,⟨a,vs,A',e,t,l,eA,r⟩=>⟨a,vs,e,t,l,ha a (by rw[eA];simp),aD.rep (λc hc=>ha c (by rw[eA];simp[hc])) r⟩
 |.sT ts,_,_,ha,⟨a,e,r,eA⟩=>⟨a,e,r,ha a (by rw[eA];simp)⟩
 |.ob φ,_,_,ha,⟨a,e,r,eA⟩=>⟨a,e,r,ha a (by rw[eA];simp)⟩
 |.b7,_,_,_,h=>h.1
 |.bl _,_,_,_,h=>h.1
 |.int _,_,_,_,h=>h.1
 |.str _,_,_,_,h=>h.1
 |.obj _,_,_,_,h=>h.1
theorem aD.rep:∀{ds:List D} {vs:List V} {A:List Addr},(∀c∈A,¬ W c)->aD P w H ds vs A->ag P w W H ds vs
 |[],_,_,_,h=>h.1
 |d::ds,_,_,ha,⟨v,r,A1,A2,e,eA,h1,h2⟩=>⟨v,r,e,Own.rep (λc hc=>ha c (by rw[eA];simp[hc])) h1,aD.rep (λc hc=>ha c (by rw[eA];simp[hc])) h2⟩
end
mutual
theorem Own.iL:∀{d:D} {v:V} {A:List Addr},Own P w H d v A->∀c∈A,H c≠none/\∀xs,H c≠some (.tup xs)
 |.tup ds,_,_,⟨a,vs,e,t,r⟩,c,hc=>aD.iL r c hc
 |.lst ds,_,_,⟨a,vs,A',e,t,eA,r⟩,c,hc=>by
  rw[eA]at hc;rcases Ja.mp hc with rfl|hc
  ·rw[t];exact⟨λz=>(nomatch z),λxs z=>by cases z⟩
  ·exact aD.iL r c hc
 |.dT ks ds,_,_,⟨a,vs,A',e,t,l,eA,r⟩,c,hc=>by
  rw[eA]at hc;rcases Ja.mp hc with rfl|hc
  ·rw[t];exact⟨λz=>(nomatch z),λxs z=>by cases z⟩
  ·exact aD.iL r c hc
 |.dK ks ds,_,_,⟨a,vs,A',e,t,l,eA,r⟩,c,hc=>by
  rw[eA]at hc;rcases Ja.mp hc with rfl|hc
  ·rw[t];exact⟨λz=>(nomatch z),λxs z=>by cases z⟩
  ·exact aD.iL r c hc
 |.sT ts,_,_,⟨a,e,⟨ju,t,r,z⟩,eA⟩,c,hc=>by
  rw[eA]at hc;rw[Jk.mp hc,t];exact⟨λz=>(nomatch z),λxs z=>by cases z⟩
 |.ob φ,_,_,⟨a,e,⟨t,z⟩,eA⟩,c,hc=>by
  rw[eA]at hc;rw[Jk.mp hc,t];exact⟨λz=>(nomatch z),λxs q=>z xs (JN q)⟩
 |.b7,_,_,h,c,hc=>by rw[h.2]at hc;cases hc
 |.bl _,_,_,h,c,hc=>by rw[h.2]at hc;cases hc
 |.int _,_,_,h,c,hc=>by rw[h.2]at hc;cases hc
 |.str _,_,_,h,c,hc=>by rw[h.2]at hc;cases hc
 |.obj _,_,_,h,c,hc=>by rw[h.2]at hc;cases hc
theorem aD.iL:∀{ds:List D} {vs:List V} {A:List Addr},aD P w H ds vs A->∀c∈A,H c≠none/\∀xs,H c≠some (.tup xs)
 |[],_,_,h,c,hc=>by rw[h.2]at hc;cases hc
 |d::ds,_,_,⟨v,r,A1,A2,e,eA,h1,h2⟩,c,hc=>by
  rw[eA]at hc;rcases Jq.mp hc with hc|hc
  ·exact Own.iL h1 c hc
  ·exact aD.iL h2 c hc
end
mutual
theorem cV:∀{d:D} {v:V},d.flat=true->ak P w W H d v->Own P w H d v []
 |.tup ds,_,f,⟨a,vs,e,t,r⟩=>⟨a,vs,e,t,fL (by simpa[D.flat] using f) r⟩
 |.lst ds,_,f,_=>by simp[D.flat]at f
 |.dT ks ds,_,f,_=>by simp[D.flat]at f
 |.dK ks ds,_,f,_=>by simp[D.flat]at f
 |.sT ts,_,f,_=>by simp[D.flat]at f
 |.ob φ,_,f,_=>by simp[D.flat]at f
 |.b7,_,_,h=>⟨h,rfl⟩
 |.bl _,_,_,h=>⟨h,rfl⟩
 |.int _,_,_,h=>⟨h,rfl⟩
 |.str _,_,_,h=>⟨h,rfl⟩
 |.obj _,_,_,h=>⟨h,rfl⟩
theorem fL:∀{ds:List D} {vs:List V},D.bJ ds=true->ag P w W H ds vs->aD P w H ds vs []
 |[],_,_,h=>⟨h,rfl⟩
 |d::ds,_,f,⟨v,r,e,h1,h2⟩=>by
  have f':(d.flat&&D.bJ ds)=true:=f;rw[JS]at f';exact⟨v,r,[],[],e,rfl,cV f'.1 h1,fL f'.2 h2⟩
end
theorem aD.length:∀{ds:List D} {vs:List V} {A:List Addr},aD P w H ds vs A->vs.length=ds.length
 |[],_,_,h=>by rw[h.1];rfl
 |d::ds,_,_,⟨v,r,A1,A2,e,eA,h1,h2⟩=>by rw[e,Jo,Jo,aD.length h2]
theorem aD.append:∀{ds ds':List D} {vs vs':List V} {A A':List Addr},aD P w H ds vs A->aD P w H ds' vs' A'->aD P w H (ds++ds') (vs++vs') (A++A')
 |[],_,_,_,_,_,h,h'=>by rw[h.1,h.2];exact h'
 |d::ds,_,_,_,_,_,⟨v,r,A1,A2,e,eA,h1,h2⟩,h'=>by
  subst e eA;exact⟨v,_,A1,_,rfl,by rw[J9],h1,aD.append h2 h'⟩
theorem aD.one {d:D}{v:V}{A:List Addr}(h:Own P w H d v A):aD P w H [d] [v] A:=⟨v,[],A,[],rfl,by simp,h,rfl,rfl⟩
theorem aD.split:∀{ds:List D} {vs:List V} {A:List Addr} {i:Nat} {d:D},aD P w H ds vs A->ds[i]?=some d->∃v A1 A2 A3,vs[i]?=some v/\A=A1++(A2++A3)/\aD P w H (ds.take i) (vs.take i) A1/\Own P w H d v A2/\aD P w H (ds.drop (i+1)) (vs.drop (i+1)) A3
 |[],_,_,_,_,_,e=>by simp at e
 |d::ds,_,_,0,_,⟨v,r,A1,A2,e,eA,h1,h2⟩,e'=>by
  simp at e';subst e' e eA;exact⟨v,[],A1,A2,by simp,by simp,⟨rfl,rfl⟩,h1,by simpa using h2⟩
 |d::ds,_,_,i+1,_,⟨v,r,A1,A2,e,eA,h1,h2⟩,e'=>by
  subst e eA;obtain⟨u,B1,B2,B3,g1,g2,g3,g4,g5⟩:=aD.split (i:=i) h2 (by simpa using e')
  exact⟨u,A1++B1,B2,B3,by simpa using g1,by rw[g2];simp[J9],by simpa using ⟨v,_,A1,B1,rfl,rfl,h1,g3⟩,g4,by simpa using g5⟩
end
inductive Kd where
 |own|di|old|bor
inductive Sk where
 |one|two|at (h:Addr)
inductive B where
 |val (y:Bool) (d:D)|own (d:D)|hand (ok:List Int->Prop)|shl (y:Sk) (d:D)
abbrev bo:=List (Option B)
structure Cfg where
 H0:Hp
 IO:Addr->Prop
 ro:Bool
 U:Addr->Prop:=λ_=>False
abbrev Wn (own:Nat->List Addr):Addr->Prop:=λa=>∃i,a∈own i
def av (C:Cfg)(W:Addr->Prop):Kd->Addr->Prop
 |.own,a=>W a\/C.H0 a≠none
 |.di,a=>W a\/C.H0 a≠none
 |.old,a=>W a
 |.bor,_=>False
def gq (C:Cfg)(W:Addr->Prop)(k:Kd)(a:Addr):Prop:=av C W k a\/C.U a
abbrev yk (y:Bool):Kd:=match y with|true=>.di|false=>.old
def GJ:D->HO->List V->Prop
 |.lst _,o,vs=>o=.lst vs
 |.dT ks _,o,vs=>o=.dT (ks.zip vs)/\ks.length=vs.length
 |.dK ks _,o,vs=>o=.dK (ks.zip vs)/\ks.length=vs.length
 |_,_,_=>False
def GK:D->List D
 |.lst ds=>ds
 |.dT _ ds=>ds
 |.dK _ ds=>ds
 |_=>[]
def vL (P:IY)(w:Je)(W:Addr->Prop)(H:Hp):List D->List V->List Addr->Prop
 |[],vs,A=>vs=[]/\A=[]
 |d::ds,vs,A=>∃b us r A',vs=.ref b::r/\A=b::A'/\H b=some (.lst us)/\(∃es,d=.lst es/\ag P w W H es us)/\vL P w W H ds r A'
def ix (P:IY)(w:Je)(W:Addr->Prop)(H:Hp)(d:D)(v:V)(A:List Addr):Prop:=∃a o vs,v=.ref a/\A=[a]/\H a=some o/\GJ d o vs/\ag P w W H (GK d) vs
def zF (P:IY)(w:Je)(W:Addr->Prop)(H:Hp)(y:Sk)(d:D)(v:V)(A:List Addr):Prop:=match y with
 |.one=>ix P w W H d v A
 |.at h=>ix P w W H d v A/\v=.ref h
 |.two=>∃a vs A' ds,v=.ref a/\A=a::A'/\H a=some (.lst vs)/\d=.lst ds/\vL P w W H ds vs A'
theorem vL.map {P:IY}{w:Je}{W W':Addr->Prop}{H H':Hp}(hr:∀ds vs,ag P w W H ds vs->ag P w W' H' ds vs):∀{ds:List D} {vs:List V} {A:List Addr},(∀c∈A,∀o,H c=some o->H' c=some o)->vL P w W H ds vs A->vL P w W' H' ds vs A
 |[],_,_,_,h=>h
 |_::_,_,_,ha,⟨b,us,r,A',e1,e2,e3,⟨es,e4,e5⟩,h⟩=>⟨b,us,r,A',e1,e2,ha b (by rw[e2];simp) _ e3,⟨es,e4,hr _ _ e5⟩,vL.map hr (λc hc=>ha c (by rw[e2];simp[hc])) h⟩
theorem vL.rep {P:IY}{w:Je}{W W':Addr->Prop}{H:Hp}(hs:∀ds vs,ag P w W H ds vs->ag P w W' H ds vs):∀{ds:List D} {vs:List V} {A:List Addr},(∀c∈A,¬ W' c)->vL P w W H ds vs A->ag P w W' H ds vs
 |[],_,_,_,h=>h.1
 |_::_,_,_,ha,⟨b,us,r,A',e1,e2,e3,⟨es,e4,e5⟩,h⟩=>by
  subst e1 e2 e4;exact⟨.ref b,r,rfl,⟨b,us,rfl,e3,ha b (by simp),hs _ _ e5⟩,vL.rep hs (λc hc=>ha c (by simp[hc])) h⟩
theorem ix.map {P:IY}{w:Je}{W W':Addr->Prop}{H H':Hp}{d:D}{v:V}{A:List Addr}(h:ix P w W H d v A)(ha:∀c∈A,∀o,H c=some o->H' c=some o)(hr:∀ds vs,ag P w W H ds vs->ag P w W' H' ds vs):ix P w W' H' d v A :=
 let ⟨a,o,vs,e1,e2,e3,e4,r⟩:=h;⟨a,o,vs,e1,e2,ha a (by rw[e2];simp) o e3,e4,hr _ _ r⟩
theorem zF.map {P:IY}{w:Je}{W W':Addr->Prop}{H H':Hp}{y:Sk}{d:D}{v:V}{A:List Addr}(h:zF P w W H y d v A)(ha:∀c∈A,∀o,H c=some o->H' c=some o)(hr:∀ds vs,ag P w W H ds vs->ag P w W' H' ds vs):zF P w W' H' y d v A:=by
 cases y with
 |one=>exact ix.map h ha hr
 | «at» b=>exact⟨ix.map h.1 ha hr,h.2⟩
 |two =>
  obtain⟨a,vs,A',ds,e1,e2,e3,e4,r⟩:=h;exact⟨a,vs,A',ds,e1,e2,ha a (by rw[e2];simp) _ e3,e4,r.map hr λc hc=>ha c (by rw[e2];simp[hc])⟩
theorem ix.rep {P:IY}{w:Je}{W W':Addr->Prop}{H:Hp}{d:D}{v:V}{A:List Addr}(h:ix P w W H d v A)(ha:∀c∈A,¬ W' c)(hs:∀ds vs,ag P w W H ds vs->ag P w W' H ds vs):ak P w W' H d v:=by
 obtain⟨a,o,vs,rfl,rfl,e,sh,r⟩:=h;have na:=ha a (by simp)
 replace r:=hs _ _ r;cases d with
 |lst ds=>cases sh;exact⟨a,vs,rfl,e,na,r⟩
 |dT ks ds=>obtain⟨rfl,l⟩:=sh;exact⟨a,vs,rfl,e,l,na,r⟩
 |dK ks ds=>obtain⟨rfl,l⟩:=sh;exact⟨a,vs,rfl,e,l,na,r⟩
 |_=>exact sh.elim
theorem zF.rep {P:IY}{w:Je}{W W':Addr->Prop}{H:Hp}{y:Sk}{d:D}{v:V}{A:List Addr}(h:zF P w W H y d v A)(ha:∀c∈A,¬ W' c)(hs:∀ds vs,ag P w W H ds vs->ag P w W' H ds vs):ak P w W' H d v:=by
 cases y with
 |one=>exact ix.rep h ha hs
 | «at» b=>exact ix.rep h.1 ha hs
 |two =>
  obtain⟨a,vs,A',ds,rfl,rfl,e3,rfl,r⟩:=h;exact⟨a,vs,rfl,e3,ha a (by simp),r.rep hs λc hc=>ha c (by simp[hc])⟩
structure bG (P:IY)(w:Je)(C:Cfg)(σ:St)(H:Hp)(β:bo)(own:Nat->List Addr):Prop where
 len:β.length=σ.length
 val:∀(i:Nat) (y:Bool) (d:D),β[i]?=some (some (.val y d))->∃v,σ[i]?=some (some v)/\ak P w (gq C (Wn own) (yk y)) H d v
 ow:∀(i:Nat) (d:D),β[i]?=some (some (.own d))->∃v,σ[i]?=some (some v)/\Own P w H d v (own i)/\∀c∈own i,C.H0 c=none
 md:∀(i:Nat) (ok:List Int->Prop),β[i]?=some (some (.hand ok))->∃a ns,σ[i]?=some (some (.ref a))/\H a=some (.lst (ns.map V.int))/\ok ns/\own i=[a]/\((∀b,¬ C.IO b)\/C.IO a)
 dm:∀(i:Nat) (a:Addr),a∈own i->H a≠none/\(∀xs,H a≠some (.tup xs))/\(C.H0 a=none\/C.IO a)/\¬ C.U a
 iA:∀(i j:Nat) (a:Addr),a∈own i->a∈own j->i=j
 k0:∀i,(own i).Nodup
 kp:Kp C.IO C.H0 H
 iu:∀a,C.H0 a≠none->H a≠none
 shl:∀(i:Nat) (y:Sk) (d:D),β[i]?=some (some (.shl y d))->∃v,σ[i]?=some (some v)/\zF P w (gq C (Wn own) (yk true)) H y d v (own i)/\∀c∈own i,C.H0 c=none
abbrev SQ (X:Cx):=bG X.prog X.w
section
variable {P:IY}{w:Je}{C:Cfg}{σ:St}{H H':Hp}{β:bo}{own:Nat->List Addr}{W W':Addr->Prop}
theorem bG.t5 (b:bG P w C σ H β own):Dm (Wn own) H:=λa ⟨i,h⟩=>(b.dm i a h).1
theorem bG.yP (b:bG P w C σ H β own)(k:Kd):Dm (av C (Wn own) k) H:=λa h=>by
 cases k with
 |own=>exact h.elim (b.t5 a) (b.iu a)
 |di=>exact h.elim (b.t5 a) (b.iu a)
 |old=>exact b.t5 a h
 |bor=>exact h.elim
theorem j3 (s:∀a,W' a->W a)(k:Kd):∀a,av C W' k a->av C W k a:=λa h=>by
 cases k with
 |own=>exact h.imp (s a) id
 |di=>exact h.imp (s a) id
 |old=>exact s a h
 |bor=>exact h
theorem lY (s:∀a,W' a->W a)(k:Kd):∀a,gq C W' k a->gq C W k a:=λa h=>h.imp (j3 s k a) id
theorem bG.keep (b:bG P w C σ H β own)(k:Kp (λa=>H a=none) H H')(kp:Kp C.IO H H')(dn:∀a,H a≠none->H' a≠none):bG P w C σ H' β own:=by
 have ko:∀c o,H c=some o->H' c=some o:=λc o e=>k.out c o e (by rw[e];exact λz=>(nomatch z))
 have same:ax H H':=ko;exact⟨b.len,λi y d e=>let ⟨v,h1,h2⟩:=b.val i y d e;⟨v,h1,h2.same same⟩,λi d e=>let ⟨v,h1,h2,h3⟩:=b.ow i d e;⟨v,h1,h2.keep (λ_ _ e=>same _ _ e) (λc _ o e=>same c o e),h3⟩,
  λi ok e=>let ⟨a,ns,h1,h2,h3⟩:=b.md i ok e;⟨a,ns,h1,same _ _ h2,h3⟩,λi a h=>by
   obtain⟨h1,h2,h3⟩:=b.dm i a h;cases q:H a with
   |none=>exact absurd q h1
   |some o=>rw[same a o q];exact⟨λz=>(nomatch z),λxs z=>h2 xs (by rw[q];exact z),h3⟩,b.iA,b.k0,b.kp.trans kp,λa z=>dn a (b.iu a z),λi y d e=>let ⟨v,h1,h2,h3⟩:=b.shl i y d e;⟨v,h1,h2.map (λc _ o e=>same c o e) (λ_ _ r=>r.same same),h3⟩⟩
theorem bG.same (b:bG P w C σ H β own)(s:ax H H'):bG P w C σ H' β own:=b.keep s.kp s.kp λa z e=>z (s.free e)
theorem fz {own:Nat->List Addr}{i:Nat}{a:Addr}(h:Wn (aI own i []) a):Wn own a:=let ⟨j,q⟩:=h;⟨j,(c9 q).1⟩
theorem ba {own:Nat->List Addr}{i j:Nat}{A:List Addr}(h:i≠j):aI own i A j=own j:=by unfold aI;rw[if_neg (Lm h)]
theorem os_eq {own:Nat->List Addr}{i:Nat}{A:List Addr}:aI own i A i=A:=by unfold aI;rw[if_pos rfl]
theorem bG.fE {i:Nat}{d:D}{v:V}{y:Bool}(b:bG P w C σ H β own)(r:ak P w (gq C (Wn own) (yk y)) H d v):bG P w C (σ.set i (some v)) H (β.set i (some (.val y d))) (aI own i []):=by
 have sub:∀y a,gq C (Wn (aI own i [])) (yk y) a->gq C (Wn own) (yk y) a:=λy=>lY (λa h=>fz h) _;refine⟨by simp[b.len],λj y' d' e=>?_,λj d' e=>?_,λj ok e=>?_,λj a h=>b.dm j a (c9 h).1,λj k a h1 h2=>b.iA j k a (c9 h1).1 (c9 h2).1,λj=>?_,b.kp,b.iu,λj y' d' e=>?_⟩
 ·by_cases aF:i=j
  ·subst aF;obtain⟨e',hl⟩:=bc e;cases e';exact⟨v,get_set (by rw[<- b.len];exact hl),r.aJ (sub _)⟩
  ·rw[a3 aF]at e ⊢
   obtain⟨u,h1,h2⟩:=b.val j y' d' e;exact⟨u,h1,h2.aJ (sub _)⟩
 ·by_cases aF:i=j
  ·subst aF;obtain⟨e',hl⟩:=bc e;cases e'
  ·rw[a3 aF]at e ⊢
   rw[ba aF];exact b.ow j d' e
 ·by_cases aF:i=j
  ·subst aF;obtain⟨e',hl⟩:=bc e;cases e'
  ·rw[a3 aF]at e ⊢
   rw[ba aF];exact b.md j ok e
 ·by_cases aF:i=j
  ·rw[aF,os_eq];exact J0
  ·rw[ba aF];exact b.k0 j
 ·by_cases aF:i=j
  ·subst aF;obtain⟨e',hl⟩:=bc e;cases e'
  ·rw[a3 aF]at e ⊢
   rw[ba aF];obtain⟨u,h1,h2,h3⟩:=b.shl j y' d' e;exact⟨u,h1,h2.map (λ_ _ _ z=>z) (λ_ _ r=>ag.aJ (sub _) r),h3⟩
theorem bG.qS {i:Nat}{d:D}{v:V}{A:List Addr}(b:bG P w C σ H β own)(r:Own P w H d v A)(nd:A.Nodup)(nw:∀c∈A,C.H0 c=none/\¬ Wn own c/\C.U c):
  bG P w {C with U:=λ_=>False} (σ.set i (some v)) H (β.set i (some (.own d))) (aI own i A):=by
 have sub:∀y a,gq {C with U:=λ_=>False} (Wn (aI own i A)) (yk y) a->gq C (Wn own) (yk y) a:=λy a h=>by
  have q:∀a,Wn (aI own i A) a->Wn own a\/a∈A:=λa sA=>by
   obtain⟨j,q⟩:=sA
   by_cases aF:i=j
   ·rw[aF,os_eq]at q;exact .inr q
   ·rw[ba aF]at q;exact .inl ⟨j,q⟩
  have q':∀a,Wn (aI own i A) a->Wn own a\/C.U a:=λa z=>(q a z).imp id λz=>(nw a z).2.2;rcases h with h|h
  ·cases y with
   |true=>exact h.elim (λz=>(q' a z).imp .inl id) λz=>.inl (.inr z)
   |false=>exact q' a h
  ·exact h.elim
 have mem:∀{j c},c∈aI own i A j->(i=j/\c∈A)\/(i≠j/\c∈own j):=λ{j c} h=>by
  by_cases aF:i=j
  ·subst aF;rw[os_eq]at h;exact .inl ⟨rfl,h⟩
  ·rw[ba aF]at h;exact .inr ⟨aF,h⟩
 refine⟨by simp[b.len],λj y' d' e=>?_,λj d' e=>?_,λj ok e=>?_,λj a h=>?_,λj k a h1 h2=>?_,λj=>?_,b.kp,b.iu,λj y' d' e=>?_⟩
 ·by_cases aF:i=j
  ·subst aF;obtain⟨e',hl⟩:=bc e;cases e'
  ·rw[a3 aF]at e ⊢
   obtain⟨u,h1,h2⟩:=b.val j y' d' e;exact⟨u,h1,h2.aJ (sub _)⟩
 ·by_cases aF:i=j
  ·subst aF;obtain⟨e',hl⟩:=bc e;cases e';rw[os_eq];exact⟨v,get_set (by rw[<- b.len];exact hl),r,λc hc=>(nw c hc).1⟩
  ·rw[a3 aF]at e ⊢
   rw[ba aF];exact b.ow j d' e
 ·by_cases aF:i=j
  ·subst aF;obtain⟨e',hl⟩:=bc e;cases e'
  ·rw[a3 aF]at e ⊢
   rw[ba aF];exact b.md j ok e
 ·rcases mem h with⟨_,h⟩|⟨_,h⟩
  ·exact⟨(r.iL a h).1,(r.iL a h).2,.inl (nw a h).1,λz=>z⟩
  ·exact⟨(b.dm j a h).1,(b.dm j a h).2.1,(b.dm j a h).2.2.1,λz=>z⟩
 ·rcases mem h1 with⟨e1,h1⟩|⟨n1,h1⟩
  ·rcases mem h2 with⟨e2,h2⟩|⟨n2,h2⟩
   ·rw[<- e1,<- e2]
   ·exact absurd ⟨k,h2⟩ (nw a h1).2.1
  ·rcases mem h2 with⟨e2,h2⟩|⟨n2,h2⟩
   ·exact absurd ⟨j,h1⟩ (nw a h2).2.1
   ·exact b.iA j k a h1 h2
 ·by_cases aF:i=j
  ·rw[<- aF,os_eq];exact nd
  ·rw[ba aF];exact b.k0 j
 ·by_cases aF:i=j
  ·subst aF;obtain⟨e',hl⟩:=bc e;cases e'
  ·rw[a3 aF]at e ⊢
   rw[ba aF];obtain⟨u,h1,h2,h3⟩:=b.shl j y' d' e;exact⟨u,h1,h2.map (λ_ _ _ z=>z) (λ_ _ r=>ag.aJ (sub _) r),h3⟩
abbrev Cfg.u (C:Cfg)(U:Addr->Prop):Cfg:={C with U:=U}
theorem bG.nG {U:Addr->Prop}(b:bG P w C σ H β own)(hU:∀a,U a->H a=none):bG P w (C.u U) σ H β own :=
 ⟨b.len,λi y d e=>let ⟨v,h1,h2⟩:=b.val i y d e;⟨v,h1,ak.grow (λa z=>z.elim (λz=>.inl (.inl z)) λz=>.inr (hU a z)) h2⟩,b.ow,b.md,λi a h=>let ⟨h1,h2,h3,_⟩:=b.dm i a h;⟨h1,h2,h3,λz=>h1 (hU a z)⟩,b.iA,b.k0,b.kp,b.iu,λi y d e=>let ⟨v,h1,h2,h3⟩:=b.shl i y d e;⟨v,h1,h2.map (λ_ _ _ z=>z) (λ_ _ r=>ag.grow (λa z=>z.elim (λz=>.inl (.inl z)) λz=>.inr (hU a z)) r),h3⟩⟩
theorem bG.G1 {U:Addr->Prop}(b:bG P w (C.u U) σ H β own):bG P w (C.u λ_=>False) σ H β own :=
 ⟨b.len,λi y d e=>let ⟨v,h1,h2⟩:=b.val i y d e;⟨v,h1,ak.aJ (λa z=>z.elim .inl λz=>z.elim) h2⟩,b.ow,b.md,λi a h=>let ⟨h1,h2,h3,_⟩:=b.dm i a h;⟨h1,h2,h3,λz=>z⟩,b.iA,b.k0,b.kp,b.iu,λi y d e=>let ⟨v,h1,h2,h3⟩:=b.shl i y d e;⟨v,h1,h2.map (λ_ _ _ z=>z) (λ_ _ r=>ag.aJ (λa z=>z.elim .inl λz=>z.elim) r),h3⟩⟩
theorem bG.Cq {i:Nat}{y:Bool}{d:D}(b:bG P w C σ H β own)(e:β[i]?=some (some (.val y d))):∃v,σ[i]?=some (some v)/\ak P w (av C (Wn own) (yk y)) H d v:=let ⟨v,h1,h2⟩:=b.val i y d e;⟨v,h1,ak.aJ (λa z=>.inl z) h2⟩
end
def KV (P:IY)(w:Je)(C:Cfg)(Z:Hp×(Addr->Prop))(own:Nat->List Addr)(H:Hp):Kd->D->V->Prop
 |.own,d,v=>∃A,Own P w H d v A/\A.Nodup/\∀c∈A,Z.1 c=none/\¬ Wn own c/\C.H0 c=none
 |.di,d,v=>ak P w (av C (Wn own) .di) H d v
 |.old,d,v=>ak P w (av C (Wn own) .old) H d v
 |.bor,d,v=>ak P w (av C (Wn own) .bor) H d v
structure Fn (P:IY)(w:Je)(C:Cfg)(σ:St)(H:Hp)(own:Nat->List Addr)(p:Bool)(β':bo)(H':Hp)(aE:Nat->List Addr):Prop where
 sq:bG P w C σ H' β' aE
 sn:Sn (H,Wn own) H' (Wn aE)
 pu:p=true->ax H H'/\aE=own
 le:∀a,Wn aE a->Wn own a
abbrev Out (X:Cx):=Fn X.prog X.w
section
variable {X:Cx}{C:Cfg}{σ:St}{H H1 H2 H':Hp}{own aB aP:Nat->List Addr}{p p':Bool}{β β1 β2 β':bo}{Z:Hp×(Addr->Prop)}{d:D}{v:V}{k:Kd}{P:IY}{w:Je}
theorem Out.refl (s:SQ X C σ H β own)(p:Bool):Out X C σ H own p β H own:=⟨s,Sn.refl,λ_=>⟨ax.refl _,rfl⟩,λ_ z=>z⟩
theorem Out.trans (a:Out X C σ H own p β1 H1 aB)(b:Out X C σ H1 aB p' β2 H2 aP):Out X C σ H own (p&&p') β2 H2 aP:=⟨b.sq,a.sn.trans b.sn,λh=>by
 rw[JS]at h;obtain⟨s1,e1⟩:=a.pu h.1;obtain⟨s2,e2⟩:=b.pu h.2;exact⟨s1.trans s2,e2.trans e1⟩,λc z=>a.le c (b.le c z)⟩
theorem Out.same (a:Out X C σ H own p β1 H1 aB)(s:ax H1 H2):Out X C σ H own p β1 H2 aB:=⟨a.sq.same s,a.sn.same s,λh=>let ⟨s1,e1⟩:=a.pu h;⟨s1.trans s,e1⟩,a.le⟩
theorem Out.wk (a:Out X C σ H own p β1 H1 aB)(h:p'=true->p=true):Out X C σ H own p' β1 H1 aB:=⟨a.sq,a.sn,λz=>a.pu (h z),a.le⟩
theorem KV.rep (h:KV P w C Z own H k d v):ak P w (av C (Wn own) k) H d v:=by
 cases k with
 |own=>obtain⟨A,h1,h2,h3⟩:=h;exact h1.rep λc hc z=>z.elim (h3 c hc).2.1 λz=>z (h3 c hc).2.2
 |_=>exact h
theorem KV.di (h:KV P w C Z own H .own d v):KV P w C Z own H .di d v:=KV.rep (k:=.own) h
theorem KV.flat {W:Addr->Prop}(f:d.flat=true)(h:ak P w W H d v):KV P w C Z own H .own d v:=⟨[],cV f h,J0,λc hc=>(nomatch hc)⟩
noncomputable abbrev Kd.wk:Kd->Kd
 |.own=>.di
 |.di=>.di
 |.old=>.old
 |.bor=>.bor
abbrev Kd.max:Kd->Kd->Kd
 |.bor,_=>.bor
 |_,.bor=>.bor
 |.old,_=>.old
 |_,.old=>.old
 |_,_=>.di
theorem bT {W:Addr->Prop}{a b:Kd}:∀c,av C W (a.max b) c->av C W a c:=λc h=>by
 cases a <;> cases b <;> first|exact h|exact h.elim|exact .inl h
theorem dg {W:Addr->Prop}{a b:Kd}:∀c,av C W (a.max b) c->av C W b c:=λc h=>by
 cases a <;> cases b <;> first|exact h|exact h.elim|exact .inl h
theorem KV.of (h:ak P w (av C (Wn own) k.wk) H d v):KV P w C Z own H k.wk d v:=by
 cases k <;> exact h
theorem KV.zU (h:KV P w C Z own H k d v)(s:ax H H'):KV P w C Z own H' k d v:=by
 cases k with
 |own=>obtain⟨A,h1,h2⟩:=h;exact⟨A,h1.keep (λb xs e=>s _ _ e) (λc _ o e=>s c o e),h2⟩
 |di=>exact ak.same s h
 |old=>exact ak.same s h
 |bor=>exact ak.same s h
theorem KV.held (hk:k≠.bor)(h:KV P w C Z own H k d v)(n:Sn (H,Wn own) H2 (Wn aP)):KV P w C Z aP H2 k d v:=by
 cases k with
 |own =>
  obtain⟨A,h1,h2,h3⟩:=h;refine⟨A,h1.keep n.k.tup (λc hc o e=>n.k.out c o e λz=>z.elim (h3 c hc).2.1 λz=>(h1.iL c hc).1 z),h2,λc hc=>⟨(h3 c hc).1,λz=>(n.w c z).elim (h3 c hc).2.1 λz=>(h1.iL c hc).1 z,(h3 c hc).2.2⟩⟩
 |di =>
  have g:ak P w (λa=>av C (Wn own) .di a\/H a=none) H d v:=ak.grow (λb z=>z) h;exact ak.aJ (λb z=>z.elim (λz=>(n.w b z).imp .inl id) λz=>.inl (.inr z)) (ak.keep (n.k.mono λb z=>z.imp .inl id) g)
 |old=>exact held (W:=Wn own) h n
 |bor=>exact absurd rfl hk
theorem KV.Bg (h:KV P w C Z own H k d v)(s:ax H H2)(e:aP=own):KV P w C Z aP H2 k d v:=by rw[e];exact h.zU s
abbrev hold (k:Kd)(p:Bool):Prop:=match k,p with
 |.bor,false=>False
 |_,_=>True
theorem KV.ho (h:KV P w C Z own H k d v)(o:Out X C σ H own p β' H2 aP)(hh:hold k p):KV P w C Z aP H2 k d v:=by
 cases p with
 |true=>obtain⟨s,e⟩:=o.pu rfl;exact h.Bg s e
 |false=>exact h.held (by rintro rfl;exact hh) o.sn
theorem KV.later (h:KV P w C (H1,Wn aB) own H k d v)(n:Sn Z H1 (Wn aB)):KV P w C Z own H k d v:=by
 cases k with
 |own=>obtain⟨A,h1,h2,h3⟩:=h;exact⟨A,h1,h2,λc hc=>⟨n.free (h3 c hc).1,(h3 c hc).2⟩⟩
 |_=>exact h
end
abbrev aL:=bo->(D->Kd->bo->Prop)->Prop
abbrev aX:=bo->(Bool->bo->Prop)->Prop
abbrev b3:=bo->(List D->List Kd->bo->Prop)->Prop
def tQ (X:Cx)(C:Cfg)(p:Bool)(φ:aL):TE:=λσ H Q=>∃β own,SQ X C σ H β own/\φ β λd k β'=>∀v H' aE,Out X C σ H own p β' H' aE->KV X.prog X.w C (H,Wn own) aE H' k d v->Q v H'
def iT (X:Cx)(C:Cfg)(p:Bool)(φ:aX):TT:=λσ H Q=>∃β own,SQ X C σ H β own/\φ β λb β'=>∀H' aE,Out X C σ H own p β' H' aE->Q b H'
def KF (P:IY)(w:Je)(C:Cfg)(own:Nat->List Addr)(H:Hp):List Kd->List D->List V->List Addr->Prop
 |[],ds,vs,A=>ds=[]/\vs=[]/\A=[]
 |k::ks,ds,vs,A=>∃d dr v vr A1 A2,ds=d::dr/\vs=v::vr/\A=A1++A2/\(match k with | .own=>Own P w H d v A1|k=>A1=[]/\ak P w (av C (Wn own) k) H d v)/\KF P w C own H ks dr vr A2
def l6 (P:IY)(w:Je)(C:Cfg)(Z:Hp×(Addr->Prop))(own:Nat->List Addr)(H:Hp)(ks:List Kd)(ds:List D)(vs:List V):Prop :=
 ∃A,KF P w C own H ks ds vs A/\A.Nodup/\∀c∈A,Z.1 c=none/\¬ Wn own c/\C.H0 c=none
def ql (X:Cx)(C:Cfg)(p:Bool)(φ:b3):TA:=λσ H Q=>∃β own,SQ X C σ H β own/\φ β λds ks β'=>∀vs H' aE,Out X C σ H own p β' H' aE->l6 X.prog X.w C (H,Wn own) aE H' ks ds vs->Q vs H'
section
variable {C:Cfg}{H H1:Hp}{own aB:Nat->List Addr}{Z:Hp×(Addr->Prop)}{d:D}{v:V}{k:Kd}{P:IY}{w:Je}{ks:List Kd}{ds:List D}{vs:List V}
theorem l6.nil:l6 P w C Z own H [] [] []:=⟨[],⟨rfl,rfl,rfl⟩,J0,λc hc=>(nomatch hc)⟩
theorem KF.iL:∀{ks:List Kd} {ds:List D} {vs:List V} {A:List Addr},KF P w C own H ks ds vs A->∀c∈A,H c≠none
 |[],_,_,_,⟨_,_,e⟩,c,hc=>by rw[e]at hc;cases hc
 |k::ks,_,_,_,⟨d,dr,v,vr,A1,A2,rfl,rfl,rfl,h1,h2⟩,c,hc=>by
  rcases Jq.mp hc with hc|hc
  ·cases k with
   |own=>exact(Own.iL h1 c hc).1
   |_=>rw[h1.1]at hc;cases hc
  ·exact KF.iL h2 c hc
theorem l6.cons (h1:KV P w C Z aB H1 k d v)(n:Sn (H1,Wn aB) H (Wn own))(pZ:KV P w C Z own H k d v)(h2:l6 P w C (H1,Wn aB) own H ks ds vs)(n0:Sn Z H1 (Wn aB)):l6 P w C Z own H (k::ks) (d::ds) (v::vs):=by
 obtain⟨A2,f2,u0,q2⟩:=h2;have z2:∀c∈A2,Z.1 c=none/\¬ Wn own c/\C.H0 c=none:=λc hc=>⟨n0.free (q2 c hc).1,(q2 c hc).2⟩;cases k with
 |own =>
  obtain⟨A1,o1,v8,q1⟩:=h1;obtain⟨IQ,Iz,G4,FE⟩:=(show KV P w C Z own H .own d v from KV.held (k:=.own) (λz=>(nomatch z)) (⟨A1,o1,v8,q1⟩:KV P w C Z aB H1 .own d v) n)
  have Dc:Own P w H d v A1:=o1.keep n.k.tup (λc hc o e=>n.k.out c o e λz=>z.elim (q1 c hc).2.1 λz=>(o1.iL c hc).1 z);refine⟨A1++A2,⟨d,ds,v,vs,A1,A2,rfl,rfl,rfl,Dc,f2⟩,JT.mpr ⟨v8,u0,λa ha b hb e=>?_⟩,λc hc=>?_⟩
  ·subst e;exact(o1.iL a ha).1 (q2 a hb).1
  ·rcases Jq.mp hc with hc|hc
   ·exact⟨(q1 c hc).1,λz=>(n.w c z).elim (q1 c hc).2.1 λz=>(o1.iL c hc).1 z,(q1 c hc).2.2⟩
   ·exact z2 c hc
 |di=>exact⟨A2,⟨d,ds,v,vs,[],A2,rfl,rfl,rfl,⟨rfl,pZ⟩,f2⟩,u0,z2⟩
 |old=>exact⟨A2,⟨d,ds,v,vs,[],A2,rfl,rfl,rfl,⟨rfl,pZ⟩,f2⟩,u0,z2⟩
 |bor=>exact⟨A2,⟨d,ds,v,vs,[],A2,rfl,rfl,rfl,⟨rfl,pZ⟩,f2⟩,u0,z2⟩
abbrev eD:List Kd->Kd
 |[]=>.di
 |k::ks=>Kd.max k (eD ks)
theorem KF.iG:∀{ks:List Kd} {ds:List D} {vs:List V} {A:List Addr},KF P w C own H ks ds vs A->(∀c∈A,¬ Wn own c/\C.H0 c=none)->ag P w (av C (Wn own) (eD ks)) H ds vs
 |[],_,_,_,⟨e1,e2,e⟩,_=>by rw[e1,e2];rfl
 |k::ks,_,_,_,⟨d,dr,v,vr,A1,A2,rfl,rfl,rfl,h1,h2⟩,hA=>by
  refine⟨v,vr,rfl,?_,ag.aJ dg (KF.iG h2 λc hc=>hA c (Jx _ hc))⟩;cases k with
  |own=>exact ak.aJ bT (Own.rep (W:=av C (Wn own) .own) (λc hc z=>z.elim (hA c (Kh _ hc)).1 λz=>z (hA c (Kh _ hc)).2) h1)
  |di=>exact ak.aJ (bT (a:=.di)) h1.2
  |old=>exact ak.aJ (bT (a:=.old)) h1.2
  |bor=>exact ak.aJ (bT (a:=.bor)) h1.2
theorem l6.iG (h:l6 P w C Z own H ks ds vs):ag P w (av C (Wn own) (eD ks)) H ds vs:=let ⟨A,h1,_,h3⟩:=h;h1.iG λc hc=>(h3 c hc).2
theorem l6.bor (h:l6 P w C Z own H ks ds vs):ag P w (λ_=>False) H ds vs:=ag.aJ (λ_ z=>z.elim) h.iG
def oW:List Kd->List D->Prop
 |k::ks,d::ds=>(match k with | .own=>True|_=>d.flat=true)/\oW ks ds
 |_,_=>True
theorem KF.xx:∀{ks:List Kd} {ds:List D} {vs:List V} {A:List Addr},KF P w C own H ks ds vs A->oW ks ds->aD P w H ds vs A
 |[],_,_,_,⟨e1,e2,e⟩,_=>by rw[e1,e2,e];exact⟨rfl,rfl⟩
 |k::ks,_,_,_,⟨d,dr,v,vr,A1,A2,rfl,rfl,rfl,h1,h2⟩,⟨f1,f2⟩=>by
  refine⟨v,vr,A1,A2,rfl,rfl,?_,KF.xx h2 f2⟩;cases k with
  |own=>exact h1
  |di=>rw[h1.1];exact cV f1 h1.2
  |old=>rw[h1.1];exact cV f1 h1.2
  |bor=>rw[h1.1];exact cV f1 h1.2
theorem fh:∀{ks:List Kd},(eD ks).wk=eD ks
 |[]=>rfl
 |k::ks=>by cases k <;> cases h:eD ks <;> simp[eD,Kd.max,h]
def sj (ks:List Kd)(ds:List D)(K:Kd->Prop):Prop:=match ks.all (λk=>match k with | .own=>true|_=>false)with
 |true=>K .own
 |false=>(oW ks ds/\K .own)\/K (eD ks)
theorem sj.mono {ks:List Kd}{ds:List D}{K K':Kd->Prop}(k:∀x,K x->K' x)(h:sj ks ds K):sj ks ds K':=by
 unfold sj at *
 split
 ·next e=>rw[e]at h;exact k _ h
 ·next e=>rw[e]at h;exact h.imp (λz=>⟨z.1,k _ z.2⟩) (k _)
theorem sj.of {ks:List Kd}{ds:List D}{K:Kd->Prop}(h:sj ks ds K):(oW ks ds/\K .own)\/K (eD ks):=by
 unfold sj at h
 split at h
 ·next e =>
  refine .inl ⟨?_,h⟩
  clear h
  induction ks generalizing ds with
  |nil=>cases ds <;> trivial
  |cons k ks ih =>
   cases ds with
   |nil=>trivial
   |cons d ds =>
    rw[List.all_cons,JS]at e;refine⟨?_,ih e.2⟩;have e1:=e.1;cases k <;> first|trivial|cases e1
 ·exact h
end
structure PQ (X:Cx)(C:Cfg)(p:Bool)(e:Expr)(φ:aL):Prop where
 mono:∀β R R',(∀d k β,R d k β->R' d k β)->φ β R->φ β R'
 pe:PE X e (tQ X C p φ)
structure qj (X:Cx)(C:Cfg)(p:Bool)(e:Expr)(φ:aX):Prop where
 mono:∀β R R',(∀d β,R d β->R' d β)->φ β R->φ β R'
 pt:PT X e (iT X C p φ)
structure oU (X:Cx)(C:Cfg)(p:Bool)(e:Expr)(φ:aX):Prop where
 mono:∀β R R',(∀d β,R d β->R' d β)->φ β R->φ β R'
 pw:PW X e (iT X C p φ)
structure oV (X:Cx)(C:Cfg)(p:Bool)(es:List Expr)(φ:b3):Prop where
 mono:∀β R R',(∀d k β,R d k β->R' d k β)->φ β R->φ β R'
 pa:PA X es (ql X C p φ)
section
variable {X:Cx}{C:Cfg}{a b c e:Expr}{es:List Expr}{φ φa φb:aL}{τ τa τb:aX}{φs:b3}{pos:Pos}{σ:St}{H H':Hp}{β:bo}{own:Nat->List Addr}{p p':Bool}
theorem tQ.of (h:PQ X C p e φ)(s:SQ X C σ H β own){R:D->Kd->bo->Prop}{Q:VK}(hr:φ β R)(k:∀d kd β' v H' aE,R d kd β'->Out X C σ H own p β' H' aE->KV X.prog X.w C (H,Wn own) aE H' kd d v->Q v H'):tQ X C p φ σ H Q :=
 ⟨β,own,s,h.mono β _ _ (λd kd β' hd v H' aE o r=>k d kd β' v H' aE hd o r) hr⟩
theorem iT.of (h:qj X C p e τ)(s:SQ X C σ H β own){R:Bool->bo->Prop}{Q:Bool->Hp->Prop}(hr:τ β R)(k:∀t β' H' aE,R t β'->Out X C σ H own p β' H' aE->Q t H'):iT X C p τ σ H Q :=
 ⟨β,own,s,h.mono β _ _ (λt β' hd H' aE o=>k t β' H' aE hd o) hr⟩
theorem ql.of (h:oV X C p es φs)(s:SQ X C σ H β own){R:List D->List Kd->bo->Prop}{Q:List V->Hp->Prop}(hr:φs β R)(k:∀ds ks β' vs H' aE,R ds ks β'->Out X C σ H own p β' H' aE->l6 X.prog X.w C (H,Wn own) aE H' ks ds vs->Q vs H'):ql X C p φs σ H Q :=
 ⟨β,own,s,h.mono β _ _ (λd kd β' hd v H' aE o r=>k d kd β' v H' aE hd o r) hr⟩
theorem oU.t (h:oU X C p e τ):qj X C p e τ:=⟨h.mono,h.pw.pt⟩
noncomputable abbrev vk (y:Bool):D->Kd
 |.int _=>.own
 |.bl _=>.own
 |.b7=>.own
 |.str _=>.own
 |_=>yk y
def qB:B->(D->Kd->Prop)->Prop
 |.val y d,K=>K d (vk y d)
 |.own d,K=>K d .bor
 |.hand _,_=>False
 |.shl _ _,_=>False
def kM (i:Nat):aL:=λβ R=>∃b,β[i]?=some (some b)/\qB b λd k=>R d k β
theorem xZ {P:IY}{w:Je}{Z:Hp×(Addr->Prop)}{y:Bool}{d:D}{v:V}(h:ak P w (av C (Wn own) (yk y)) H d v):KV P w C Z own H (vk y d) d v:=by
 cases d with
 |int i=>exact KV.flat rfl h
 |bl i=>exact KV.flat rfl h
 |b7=>exact KV.flat rfl h
 |str i=>exact KV.flat rfl h
 |_=>cases y <;> exact h
theorem ae {i:Nat}{x:Str}(hn:Nm X i x:=by exact xQ):
  PQ X C true (.Name x pos) (kM i):=⟨λβ R R' k sA=>by obtain⟨b,e,h⟩:=sA;exact⟨b,e,by cases b <;> first|exact k _ _ _ h|exact h⟩,(gR hn).pre λσ H Q vd=>by
 obtain⟨β,own,s,b,e,q⟩:=vd;cases b with
 |val y d=>obtain⟨v,h1,h2⟩:=s.Cq e;exact⟨v,h1,q v H own (Out.refl s _) (xZ h2)⟩
 |own d=>obtain⟨v,h1,h2,h3⟩:=s.ow i d e;exact⟨v,h1,q v H own (Out.refl s _) (h2.rep λ_ _ z=>z)⟩
 |hand ok=>exact q.elim
 |shl _ _=>exact q.elim⟩
def qC (d:D):aL:=λβ R=>R d .own β
theorem au {i j}:PQ X C true (.Constant (.int i) j pos) (qC (.int i)):=⟨λρ R R' k h=>k _ _ _ h,aK.pre λσ H Q AR=>by obtain⟨β,own,s,q⟩:=AR;exact q _ H own (Out.refl s _) (KV.flat (W:=λ_=>False) rfl rfl)⟩
theorem Ac {b j}:PQ X C true (.Constant (.bool b) j pos) (qC (.bl b)):=⟨λρ R R' k h=>k _ _ _ h,rC.pre λσ H Q Ho=>by obtain⟨β,own,s,q⟩:=Ho;exact q _ H own (Out.refl s _) (KV.flat (W:=λ_=>False) rfl rfl)⟩
theorem jE {j}:PQ X C true (.Constant .none j pos) (qC .b7):=⟨λρ R R' k h=>k _ _ _ h,xv.pre λσ H Q sy=>by obtain⟨β,own,s,q⟩:=sy;exact q _ H own (Out.refl s _) (KV.flat (W:=λ_=>False) rfl rfl)⟩
theorem cO {x j}:PQ X C true (.Constant (.str x) j pos) (qC (.str x)):=⟨λρ R R' k h=>k _ _ _ h,rm.pre λσ H Q vc=>by obtain⟨β,own,s,q⟩:=vc;exact q _ H own (Out.refl s _) (KV.flat (W:=λ_=>False) rfl rfl)⟩
def uu (X:Cx)(f:D->D->Option D)(N:D->Prop):R2:=λx y H Q=>∃W d1 d2 d,Dm W H/\Rp X W H d1 x/\Rp X W H d2 y/\f d1 d2=some d/\∀v H',ax H H'->Rp X W H' d v->(N d->Rp X (λa=>H a≠none) H' d v)->Q v H'
abbrev Cm (X:Cx)(f:IS->IS->Sem IS)(g:D->D->Option D)(N:D->Prop):Prop:=fy X f (uu X g N)
theorem bH.m {f:IS->IS->Sem IS}{g:D->D->Option D}(h:bH X f g):Cm X f g NF:=λpins s σ H x y v u Q I rx ry ⟨W,d1,d2,d,hd,r1,r2,e,q⟩ =>
 h pins s σ H x y v u Q I rx ry ⟨W,d1,d2,d,hd,r1,r2,e,λv H' s r=>q v H' s r λf=>ak.flat f r⟩
noncomputable def kN (N:D->Prop)(d:D)(k:Kd)(K:Kd->Prop):Prop:=match d with
 |.int _=>K .own
 |.bl _=>K .own
 |.b7=>K .own
 |.str _=>K .own
 |.tup _=>K k
 |_=>(N d/\K .own)\/K k
theorem kN.mono {N:D->Prop}{d:D}{k:Kd}{K K':Kd->Prop}(h:∀x,K x->K' x)(q:kN N d k K):kN N d k K':=by
 cases d <;> first|exact h _ q|exact q.imp (λz=>⟨z.1,h _ z.2⟩) (h _)
theorem jH {P:IY}{w:Je}{Z:Hp×(Addr->Prop)}{d:D}{v:V}(hd:Dm (Wn own) H)(h0:∀a,C.H0 a≠none->H a≠none)(hz:∀a,Z.1 a≠none->H a≠none)(f:NL d)(r:ak P w (λa=>H a≠none) H' d v):KV P w C Z own H' .own d v:=by
 have nn:∀{a:Addr},¬ (H a≠none)->H a=none:=λ{a} h=>JR λz=>h z;have cl:∀{a:Addr},H a=none->Z.1 a=none/\¬ Wn own a/\C.H0 a=none:=λ{a} h=>⟨JR λz=>hz a z h,λz=>hd a z h,JR λz=>h0 a z h⟩;cases d with
 |lst ds =>
  obtain⟨a,vs,rfl,e,n,q⟩:=r;exact⟨[a],⟨a,vs,[],rfl,e,rfl,fL f q⟩,by simp,λc hc=>by rw[Jk.mp hc];exact cl (nn n)⟩
 |_=>exact KV.flat f r
theorem KV.kN {N:D->Prop}{P:IY}{w:Je}{Z:Hp×(Addr->Prop)}{d:D}{v:V}{k:Kd}{K:Kd->Prop}(hk:k.wk=k)(r:ak P w (av C (Wn own) k) H' d v)(ro:N d->KV P w C Z own H' .own d v)(q:kN N d k K):∃k',K k'/\KV P w C Z own H' k' d v:=by
 have rk:KV P w C Z own H' k d v:=by rw[<- hk];exact KV.of (by rw[hk];exact r)
 cases d with
 |int i=>exact⟨_,q,KV.flat rfl r⟩
 |bl i=>exact⟨_,q,KV.flat rfl r⟩
 |b7=>exact⟨_,q,KV.flat rfl r⟩
 |str i=>exact⟨_,q,KV.flat rfl r⟩
 |tup ds=>exact⟨_,q,rk⟩
 |_=>exact q.elim (λz=>⟨_,z.2,ro z.1⟩) λz=>⟨_,z,rk⟩
structure t6 (N:D->Prop):Prop where
 nl:∀d,N d->NL d
theorem c_:t6 NL:=⟨λ_ h=>h⟩
theorem ah:t6 NF:=⟨λd h=>by cases d <;> first|exact h|cases h⟩
theorem v9 {a b:Kd}:(a.max b).wk=a.max b:=by cases a <;> cases b <;> rfl
def qm (g:D->D->Option D)(N:D->Prop)(pb:Bool)(φa φb:aL):aL:=λβ R=>φa β λx ka β1=>hold ka pb/\φb β1 λy kb β2=>∃d,g x y=some d/\kN N d (ka.max kb) λk=>R d k β2
variable {g:D->D->Option D}{N:D->Prop}
theorem qm.mono (ha:PQ X C p a φa)(hb:PQ X C p' b φb):∀β R R',(∀d k β,R d k β->R' d k β)->qm g N p' φa φb β R->qm g N p' φa φb β R':=λβ R R' k h =>
 ha.mono β _ _ (λx ka β1 hx=>⟨hx.1,hb.mono β1 _ _ (λy kb β2 sD=>by obtain⟨d,e,q⟩:=sD;exact⟨d,e,q.mono λ_ z=>k _ _ _ z⟩) hx.2⟩) h
theorem mJ (hn:t6 N)(ha:PQ X C p a φa)(hb:PQ X C p' b φb):∀σ H Q,tQ X C (p&&p') (qm g N p' φa φb) σ H Q->zg (uu X g N) (tQ X C p φa) (tQ X C p' φb) σ H Q:=λσ H Q ⟨β,own,s,h⟩ =>
 tQ.of ha s h λd1 k1 β1 v1 H1 aB ⟨hh,h1⟩ o1 r1=>tQ.of hb o1.sq h1 λd2 k2 β2 v2 H2 aP sC o2 r2=>by
  obtain⟨d,e,q⟩:=sC;have CZ:=r1.ho o2 hh;refine⟨av C (Wn aP) (k1.max k2),d1,d2,d,o2.sq.yP _,ak.aJ bT CZ.rep,ak.aJ dg r2.rep,e,λv H' s3 r3 n3=>?_⟩;have o:=(o1.trans o2).same s3;obtain⟨k,q,r⟩:=KV.kN (Z:=(H,Wn own)) v9 r3 (λn=>jH (H:=H2) o2.sq.t5 o2.sq.iu (λa z=>o2.sn.d a (o1.sn.d a z)) (hn.nl _ n) (n3 n)) q;exact q v H' aP o r
theorem cI {op:Operator}(hn:t6 N)(ho:Cm X (Ks op) g N)(ha:PQ X C p a φa)(hb:PQ X C p' b φb):PQ X C (p&&p') (.BinOp a op b pos) (qm g N p' φa φb):=⟨qm.mono ha hb,(bI ho ha.pe hb.pe).pre (mJ hn ha hb)⟩
theorem eh {op:Ll}(hn:t6 N)(ho:Cm X (JH op) g N)(ha:PQ X C p a φa)(hb:PQ X C p' b φb)(hm:Kx op b=false:=by first|exact k6 _ (by decide) (by decide)|rfl):PQ X C (p&&p') (.Compare a [op] [b] pos) (qm g N p' φa φb) :=
 ⟨qm.mono ha hb,(uM ho ha.pe hb.pe hm).pre (mJ hn ha hb)⟩
theorem bw (hn:t6 N)(ho:ze X (uu X g N))(ha:PQ X C p a φa)(hb:PQ X C p' b φb)(hs:gE b:=by exact λ_ _=>rfl):PQ X C (p&&p') (.Subscript a b pos) (qm g N p' φa φb):=⟨qm.mono ha hb,(gS ho ha.pe hb.pe hs).pre (mJ hn ha hb)⟩
def vU (φ:aL):aX:=λβ R=>φ β λd k β'=>∃b,d=.bl b/\R b β'
theorem aO {op:Ll}(hn:t6 N)(ho:Cm X (JH op) g N)(ha:PQ X C p a φa)(hb:PQ X C p' b φb)(hm:Kx op b=false:=by first|exact k6 _ (by decide) (by decide)|rfl):qj X C (p&&p') (.Compare a [op] [b] pos) (vU (qm g N p' φa φb)) :=
 ⟨λβ R R' k h=>qm.mono ha hb β _ _ (λd kd β yz=>by obtain⟨t,e,q⟩:=yz;exact⟨t,e,k _ _ q⟩) h,(nQ ho ha.pe hb.pe hm).pre λσ H Q ⟨β,own,s,h⟩ =>
  tQ.of ha s h λd1 k1 β1 v1 H1 aB ⟨hh,h1⟩ o1 r1=>tQ.of hb o1.sq h1 λd2 k2 β2 v2 H2 aP yw o2 r2=>by
   obtain⟨d,e,q⟩:=yw;have CZ:=r1.ho o2 hh;refine⟨av C (Wn aP) (k1.max k2),d1,d2,d,o2.sq.yP _,ak.aJ bT CZ.rep,ak.aJ dg r2.rep,e,λv H' s3 r3 n3=>?_⟩;obtain⟨k,⟨t,et,q'⟩,r⟩:=KV.kN (Z:=(H,Wn own)) v9 r3 (λn=>jH (H:=H2) o2.sq.t5 o2.sq.iu (λa z=>o2.sn.d a (o1.sn.d a z)) (hn.nl _ n) (n3 n)) q;subst et;cases r3;exact⟨t,rfl,q' H' aP ((o1.trans o2).same s3)⟩⟩
theorem e9 (ha:PQ X C p a φa)(he:∀whole,isTrue a X.env whole=(do let v <- whole;MG a.pos;holding [v] (truthy v)):=by intro _;rfl):qj X C p a (vU φa) :=
 ⟨λβ R R' k h=>ha.mono β _ _ (λd kd β' Ep=>by obtain⟨b,e,q⟩:=Ep;exact⟨b,e,k _ _ q⟩) h,(xl ha.pe he).pre λσ H Q ⟨β,own,s,h⟩=>tQ.of ha s h λd k β' v H1 aB En o1 r1=>by
  obtain⟨b,e,q⟩:=En;subst e;cases r1.rep;exact⟨b,rfl,q H1 aB o1⟩⟩
def z6 (τ:aX):aX:=λβ R=>τ β λb β'=>R (!b) β'
theorem uB (ha:qj X C p a τ):qj X C p (.UnaryOp .Not a pos) (z6 τ) :=
 ⟨λβ R R' k h=>ha.mono β _ _ (λb β' q=>k _ _ q) h,(xm ha.pt).pre λσ H Q Em=>by obtain⟨β,own,s,h⟩:=Em;exact iT.of ha s h λb β' H1 aB q o=>q H1 aB o⟩
variable {rest:List Expr}
def z_ (τa τb:aX):aX:=λβ R=>τa β λt β1=>if t=true then τb β1 R else R false β1
def C2 (τa τb:aX):aX:=λβ R=>τa β λt β1=>if t=true then R true β1 else τb β1 R
theorem e8 (ha:qj X C p a τ):oU X C p (.BoolOp .And [a] pos) τ:=⟨ha.mono,pw_and1 ha.pt⟩
theorem nT (ha:qj X C p a τ):oU X C p (.BoolOp .Or [a] pos) τ:=⟨ha.mono,pw_or1 ha.pt⟩
theorem vJ {p q:Bool}(z:(p&&q)=true):p=true:=by cases p <;> first|rfl|cases z
theorem Fi {p q:Bool}(z:(p&&q)=true):q=true:=by cases p <;> first|exact z|cases z
theorem gx (ha:qj X C p a τa)(hb:oU X C p' (.BoolOp .And (b::rest) pos) τb):oU X C (p&&p') (.BoolOp .And (a::b::rest) pos) (z_ τa τb) :=
 ⟨λβ R R' k h=>ha.mono β _ _ (λt β1 q=>by
   cases t
   ·exact k _ _ q
   ·exact hb.mono β1 _ _ k q) h,(pw_and ha.pt hb.pw).pre λσ H Q ⟨β,own,s,h⟩=>iT.of ha s h λt β1 H1 aB q o1=>by
  cases t
  ·exact q H1 aB (o1.wk vJ)
  ·exact iT.of hb.t o1.sq q λt' β2 H2 aP q2 o2=>q2 H2 aP (o1.trans o2)⟩
theorem q9 (ha:qj X C p a τa)(hb:oU X C p' (.BoolOp .Or (b::rest) pos) τb):oU X C (p&&p') (.BoolOp .Or (a::b::rest) pos) (C2 τa τb) :=
 ⟨λβ R R' k h=>ha.mono β _ _ (λt β1 q=>by
   cases t
   ·exact hb.mono β1 _ _ k q
   ·exact k _ _ q) h,(pw_or ha.pt hb.pw).pre λσ H Q ⟨β,own,s,h⟩=>iT.of ha s h λt β1 H1 aB q o1=>by
  cases t
  ·exact iT.of hb.t o1.sq q λt' β2 H2 aP q2 o2=>q2 H2 aP (o1.trans o2)
  ·exact q H1 aB (o1.wk vJ)⟩
def GW (φa φb:aL):aL:=λβ R=>φa β λx _ β1=>∃c,x=.bl c/\if c=true then R (.bl true) .own β1 else φb β1 R
def C3 (φa:aL):aL:=λβ R=>φa β λx _ β1=>∃c,x=.bl c/\R (.bl (!c)) .own β1
theorem mL {op}(h:PQ X C p a φ):PQ X C p (.BoolOp op [a] pos) φ:=⟨h.mono,xt h.pe⟩
theorem sf {P:IY}{w:Je}{Z:Hp×(Addr->Prop)}{b:Bool}:KV P w C Z own H .own (.bl b) (.bl b):=KV.flat (W:=λ_=>False) rfl rfl
theorem nU (ha:PQ X C p a φa)(hb:PQ X C p' (.BoolOp .Or (b::rest) pos) φb):PQ X C (p&&p') (.BoolOp .Or (a::b::rest) pos) (GW φa φb) :=
 ⟨λβ R R' k h=>ha.mono β _ _ (λd kd β1 ⟨c,e,q⟩=>⟨c,e,by
   cases c
   ·exact hb.mono β1 _ _ k q
   ·exact k _ _ _ q⟩) h,(Ae ha.pe hb.pe).pre λσ H Q ⟨β,own,s,h⟩=>tQ.of ha s h λd kd β1 v H1 aB yv o1 r1=>by
  obtain⟨c,e,q⟩:=yv;subst e;cases r1.rep;refine⟨c,rfl,?_⟩;cases c
  ·exact tQ.of hb o1.sq q λd2 k2 β2 v2 H2 aP q2 o2 r2=>q2 v2 H2 aP (o1.trans o2) (r2.later o1.sn)
  ·exact q _ H1 aB (o1.wk vJ) sf⟩
theorem xo (ha:PQ X C p a φa):PQ X C p (.UnaryOp .Not a pos) (C3 φa) :=
 ⟨λβ R R' k h=>ha.mono β _ _ (λd kd β1 Ef=>by obtain⟨c,e,q⟩:=Ef;exact⟨c,e,k _ _ _ q⟩) h,(xu ha.pe).pre λσ H Q ⟨β,own,s,h⟩=>tQ.of ha s h λd kd β1 v H1 aB yu o1 r1=>by
  obtain⟨c,e,q⟩:=yu;subst e;cases r1.rep;exact⟨c,rfl,q _ H1 aB o1 sf⟩⟩
def C4:b3:=λβ R=>R [] [] β
def z9 (pr:Bool)(φ:aL)(φs:b3):b3:=λβ R=>φ β λd k β1=>hold k pr/\φs β1 λds ks β2=>R (d::ds) (k::ks) β2
theorem af:oV X C true [] C4:=⟨λβ R R' k h=>k _ _ _ h,er.pre λσ H Q Ed=>by obtain⟨β,own,s,q⟩:=Ed;exact q [] H own (Out.refl s _) l6.nil⟩
theorem aa (ha:PQ X C p a φ)(hr:oV X C p' es φs)(hs:Jl (a::es) X.env=(false,eval a X.env)::Jl es X.env:=by rfl):oV X C (p&&p') (a::es) (z9 p' φ φs) :=
 ⟨λβ R R' k h=>ha.mono β _ _ (λd kd β1 q=>⟨q.1,hr.mono β1 _ _ (λds ks β2 q2=>k _ _ _ q2) q.2⟩) h,(bD ha.pe hr.pa hs).pre λσ H Q ⟨β,own,s,h⟩ =>
  tQ.of ha s h λd1 k1 β1 v1 H1 aB Ec o1 r1=>by obtain⟨hh,h1⟩:=Ec;exact ql.of hr o1.sq h1 λds ks β2 vs H2 aP q o2 r2=>q (v1::vs) H2 aP (o1.trans o2) (l6.cons r1 o2.sn (r1.ho o2 hh) r2 o1.sn)⟩
def C0 (φs:b3):aL:=λβ R=>φs β λds ks β1=>ds.length<=Jg/\sj ks ds λk=>R (.tup ds) k β1
def C5 (φs:b3):aL:=λβ R=>φs β λds ks β1=>ds.length<=Jg/\sj ks ds λk=>R (.lst ds) k β1
theorem aD.same {P:IY}{w:Je}{ds:List D}{vs:List V}{A:List Addr}(s:ax H H')(h:aD P w H ds vs A):aD P w H' ds vs A:=h.keep (λb xs e=>s _ _ e) λc _ o e=>s c o e
theorem x9 {P:IY}{w:Je}{Z:Hp×(Addr->Prop)}{ks:List Kd}{ds:List D}{vs:List V}{K:Kd->Prop}{q:Addr}(hq:H q=none)(h:l6 P w C Z own H ks ds vs)(m:sj ks ds K):∃k,K k/\KV P w C Z own (upd H q (.tup vs)) k (.tup ds) (.ref q):=by
 rcases m.of with⟨f,k⟩|k
 ·obtain⟨A,h1,h2,h3⟩:=h;exact⟨_,k,A,⟨q,vs,rfl,az,(h1.xx f).same (ax.new hq)⟩,h2,h3⟩
 ·refine⟨_,k,?_⟩;rw[<- fh];exact KV.of (by rw[fh];exact⟨q,vs,rfl,az,h.iG.same (ax.new hq)⟩)
theorem x_ {P:IY}{w:Je}{Z:Hp×(Addr->Prop)}{ks:List Kd}{ds:List D}{vs:List V}{K:Kd->Prop}{q:Addr}(hq:H q=none)(hd:Dm (Wn own) H)(h0:∀a,C.H0 a≠none->H a≠none)(hz:∀a,Z.1 a≠none->H a≠none)(h:l6 P w C Z own H ks ds vs)(m:sj ks ds K):∃k,K k/\KV P w C Z own (upd H q (.lst vs)) k (.lst ds) (.ref q):=by
 rcases m.of with⟨f,k⟩|k
 ·obtain⟨A,h1,h2,h3⟩:=h;refine⟨_,k,q::A,⟨q,vs,A,rfl,az,rfl,(h1.xx f).same (ax.new hq)⟩,JF.mpr ⟨λz=>h1.iL q z hq,h2⟩,λc hc=>?_⟩;rcases Ja.mp hc with rfl|hc
  ·exact⟨JR λz=>hz c z hq,λz=>hd c z hq,JR λz=>h0 c z hq⟩
  ·exact h3 c hc
 ·refine⟨_,k,?_⟩;have nq:¬ av C (Wn own) (eD ks) q:=λz=>by
   cases e:eD ks <;> rw[e]at z <;> first|exact z.elim (λz=>hd q z hq) λz=>h0 q z hq|exact hd q z hq|exact z
  rw[<- fh];exact KV.of (by rw[fh];exact⟨q,vs,rfl,az,nq,h.iG.same (ax.new hq)⟩)
theorem l6.length {P:IY}{w:Je}{Z:Hp×(Addr->Prop)}{ks:List Kd}{ds:List D}{vs:List V}(h:l6 P w C Z own H ks ds vs):vs.length=ds.length:=h.iG.length
theorem c8 {x1}(h:oV X C p es φs):PQ X C p (.Tuple es x1 pos) (C0 φs) :=
 ⟨λβ R R' k q=>h.mono β _ _ (λds ks β1 Eb=>by obtain⟨l,q⟩:=Eb;exact⟨l,q.mono λ_ z=>k _ _ _ z⟩) q,(xr h.pa).pre λσ H Q ⟨β,own,s,q⟩=>ql.of h s q λds ks β1 vs H1 aB ⟨l,q1⟩ o1 r1 =>
  ⟨by rw[r1.length];exact l,λq hq=>let ⟨k,q1,r⟩:=x9 hq r1 q1;q1 _ _ aB (o1.same (ax.new hq)) r⟩⟩
theorem bB (h:oV X C p es φs):PQ X C p (.List es pos) (C5 φs) :=
 ⟨λβ R R' k q=>h.mono β _ _ (λds ks β1 Ea=>by obtain⟨l,q⟩:=Ea;exact⟨l,q.mono λ_ z=>k _ _ _ z⟩) q,(mN h.pa).pre λσ H Q ⟨β,own,s,q⟩=>ql.of h s q λds ks β1 vs H1 aB ⟨l,q1⟩ o1 r1 =>
  ⟨by rw[r1.length];exact l,λq hq=>let ⟨k,q1,r⟩:=x_ hq o1.sq.t5 o1.sq.iu (λa z=>o1.sn.d a z) r1 q1;q1 _ _ aB (o1.same (ax.new hq)) r⟩⟩
end
section
variable {X:Cx}{C:Cfg}{a b c e:Expr}{es:List Expr}{φ φa φb:aL}{φs:b3}{pos:Pos}{σ:St}{H H':Hp}{β:bo}{own:Nat->List Addr}{p:Bool}{g:D->D->Option D}{N:D->Prop}
abbrev jo:=D->Kd->aL
structure Cj (X:Cx)(C:Cfg)(ops:List Ll)(es:List Expr)(φ:jo):Prop where
 mono:∀x k β R R',(∀d k β,R d k β->R' d k β)->φ x k β R->φ x k β R'
 ch:wL X ops es λx σ H Q=>∃β own d k,SQ X C σ H β own/\Rp X (av C (Wn own) k) H d x/\φ d k β λd' k' β'=>∀v H',ax H H'->SQ X C σ H' β' own->KV X.prog X.w C (H,Wn own) own H' k' d' v->Q v H'
 HY:nE X ops es λx σ H Q=>∃β own d k,SQ X C σ H β own/\Rp X (av C (Wn own) k) H d x/\φ d k β λd' k' β'=>∃b,d'=.bl b/\∀H',ax H H'->SQ X C σ H' β' own->Q b H'
def xj (g:D->D->Option D)(φb:aL):jo:=λx _ β R=>φb β λy _ β1=>∃b,g x y=some (.bl b)/\R (.bl b) .own β1
def uw (g:D->D->Option D)(φb:aL)(φr:jo):jo:=λx _ β R=>φb β λy ky β1=>∃k,g x y=some (.bl k)/\if k=true then φr y ky β1 R else R (.bl false) .own β1
variable {op xF:Ll}{ops:List Ll}{rs:List Expr}{φr:jo}
theorem e_ (ho:bH X (JH op) g)(hb:PQ X C true b φb):Cj X C [op] [b] (xj g φb) :=
 ⟨λx k β R R' h q=>hb.mono β _ _ (λy _ β1 pW=>by obtain⟨d,e,q⟩:=pW;exact⟨d,e,h _ _ _ q⟩) q,
  (yV ho hb.pe).pre λx σ H Q ⟨β,own,d,k,s,r,h⟩=>tQ.of hb s h λd2 k2 β2 v2 H2 aP vd o2 r2=>by
    obtain⟨d',e,q⟩:=vd;obtain⟨s2,rfl⟩:=o2.pu rfl;exact⟨av C (Wn aP) (k.max k2),d,d2,.bl d',o2.sq.yP _,ak.aJ bT (r.same s2),ak.aJ dg r2.rep,e,λv H' s3 r3=>q v H' (s2.trans s3) (o2.sq.same s3) (KV.flat rfl r3)⟩,
  (vE ho hb.pe).pre λx σ H Q ⟨β,own,d,k,s,r,h⟩=>tQ.of hb s h λd2 k2 β2 v2 H2 aP AS o2 r2=>by
    obtain⟨d',e,b,eb,q⟩:=AS;obtain⟨s2,rfl⟩:=o2.pu rfl;cases eb;exact⟨av C (Wn aP) (k.max k2),d,d2,.bl d',o2.sq.yP _,ak.aJ bT (r.same s2),ak.aJ dg r2.rep,e,λv H' s3 r3=>by
      cases r3;exact⟨_,rfl,q H' (s2.trans s3) (o2.sq.same s3)⟩⟩⟩
theorem bY (ho:bH X (JH op) g)(hb:PQ X C true b φb)(hc:Cj X C (xF::ops) (c::rs) φr):Cj X C (op::xF::ops) (b::c::rs) (uw g φb φr) :=
 ⟨λx k β R R' h q=>hb.mono β _ _ (λy ky β1 ⟨d,e,q⟩=>⟨d,e,by
   cases d
   ·exact h _ _ _ q
   ·exact hc.mono y ky β1 _ _ h q⟩) q,
  (vF ho hb.pe hc.ch).pre λx σ H Q ⟨β,own,d,k,s,r,h⟩=>tQ.of hb s h λd2 k2 β2 v2 H2 aP sy o2 r2=>by
    obtain⟨t,e,q⟩:=sy;obtain⟨s2,rfl⟩:=o2.pu rfl;refine⟨av C (Wn aP) (k.max k2),d,d2,.bl t,o2.sq.yP _,ak.aJ bT (r.same s2),ak.aJ dg r2.rep,e,λv H' s3 r3=>?_⟩;cases r3;refine⟨t,rfl,?_⟩;cases t
    · exact q _ H' (s2.trans s3) (o2.sq.same s3) sf
    · exact⟨β2,aP,d2,k2,o2.sq.same s3,r2.rep.same s3,hc.mono d2 k2 β2 _ _ (λd' k' β' q' v BN s4 sq r4=>q' v BN ((s2.trans s3).trans s4) sq (r4.later ((o2.same s3).sn))) q⟩,
  (tF ho hb.pe hc.HY).pre λx σ H Q ⟨β,own,d,k,s,r,h⟩=>tQ.of hb s h λd2 k2 β2 v2 H2 aP m7 o2 r2=>by
    obtain⟨t,e,q⟩:=m7;obtain⟨s2,rfl⟩:=o2.pu rfl;refine⟨av C (Wn aP) (k.max k2),d,d2,.bl t,o2.sq.yP _,ak.aJ bT (r.same s2),ak.aJ dg r2.rep,e,λv H' s3 r3=>?_⟩;cases r3;refine⟨t,rfl,?_⟩;cases t
    · obtain⟨b,eb,q⟩:=q;cases eb;exact q H' (s2.trans s3) (o2.sq.same s3)
    · exact⟨β2,aP,d2,k2,o2.sq.same s3,r2.rep.same s3,hc.mono d2 k2 β2 _ _ (λd' k' β' sD=>by obtain⟨b,eb,q'⟩:=sD;exact⟨b,eb,λBN s4 sq=>q' BN ((s2.trans s3).trans s4) sq⟩) q⟩⟩
def mK (φa:aL)(φr:jo):aL:=λβ R=>φa β λx k β1=>φr x k β1 R
theorem dz {gW gV:Ll}(ha:PQ X C true a φa)(hc:Cj X C (gW::gV::ops) (b::c::rs) φr)(hm:lastMarks (gW::gV::ops) (b::c::rs)=false:=by with_unfolding_all rfl):
  PQ X C true (.Compare a (gW::gV::ops) (b::c::rs) pos) (mK φa φr) :=
 ⟨λβ R R' k h=>ha.mono β _ _ (λx kx β1 q=>hc.mono x kx β1 _ _ k q) h,(pD ha.pe hc.ch hm).pre λσ H Q ⟨β,own,s,h⟩=>tQ.of ha s h λd k β1 v H1 aB q o1 r1=>by
  obtain⟨s1,rfl⟩:=o1.pu rfl;exact⟨β1,aB,d,k,o1.sq,r1.rep,hc.mono d k β1 _ _ (λd' k' β' q' v BN s4 sq r4=>q' v BN aB ⟨sq,o1.sn.same s4,λ_=>⟨s1.trans s4,rfl⟩,o1.le⟩ (r4.later o1.sn)) q⟩⟩
theorem BF {W:Addr->Prop}{k:Kd}:∀c,av C W k.wk c->av C W k c:=λc h=>by cases k <;> exact h
def zZ (X:Cx)(f:List D->Option D)(N:D->Prop):List V->Hp->VK->Prop:=λxs H Q=>∃W ds d,Dm W H/\oT X W H ds xs/\f ds=some d/\∀v H',ax H H'->Rp X W H' d v->(N d->Rp X (λa=>H a≠none) H' d v)->Q v H'
abbrev tS (X:Cx)(f:IS)(g:List D->Option D)(N:D->Prop):Prop:=dM X f (zZ X g N)
theorem b5.m {f:IS}{g:List D->Option D}(h:b5 X f g):tS X f g NF:=λpins s σ H xs us Q I r ⟨W,ds,d,hd,r1,e,q⟩ =>
 h pins s σ H xs us Q I r ⟨W,ds,d,hd,r1,e,λv H' s r=>q v H' s r λf=>ak.flat f r⟩
def fZ (g:List D->Option D)(N:D->Prop)(φs:b3):aL:=λβ R=>φs β λds ks β1=>∃d,g ds=some d/\kN N d (eD ks) λk=>R d k β1
variable {x:Str}{pp:Pos}{id T:String}{gs:List D->Option D}
theorem fZ.mono (h:oV X C p es φs):∀β R R',(∀d k β,R d k β->R' d k β)->fZ gs N φs β R->fZ gs N φs β R':=λβ R R' k q=>h.mono β _ _ (λds ks β1 El=>by obtain⟨d,e,q⟩:=El;exact⟨d,e,q.mono λ_ z=>k _ _ _ z⟩) q
theorem kO (hn:t6 N)(h:oV X C p es φs):∀σ H Q,tQ X C p (fZ gs N φs) σ H Q->CC (zZ X gs N) (ql X C p φs) σ H Q:=λσ H Q ⟨β,own,s,q⟩=>ql.of h s q λds ks β1 vs H1 aB Ej o1 r1=>by
 obtain⟨d,e,q1⟩:=Ej;refine⟨av C (Wn aB) (eD ks),ds,d,o1.sq.yP _,r1.iG,e,λv H' s2 r2 n2=>?_⟩;obtain⟨k',q,r⟩:=KV.kN (Z:=(H,Wn own)) fh r2 (λn=>jH (H:=H1) o1.sq.t5 o1.sq.iu (λa z=>o1.sn.d a z) (hn.nl _ n) (n2 n)) q1;exact q v H' aB (o1.same s2) r
theorem aV (A_:t6 N)(hc:tS X (.builtin id) gs N)(hm:X.mg x=none)(hv:J6 x=some (.builtin id))(ha:oV X C p (e::es) φs)(hg:Gl X x:=by rfl)(hn:x≠"__name__" := by decide)(hdb:(x==("__debug__" : Str))=false:=by decide)
  (jS:Jl (e::es) X.env=(false,eval e X.env)::Jl es X.env:=by rfl) (hpl:(Kj pos (Jl es X.env)).any (·.1)=false:=by rfl) :
  PQ X C p (.Call (.Name x pp) (e::es) [] pos) (fZ gs N φs):=⟨fZ.mono ha,(kQ hc hg hm hv ha.pa hn hdb (he:=jS) (hpl:=hpl)).pre (kO A_ ha)⟩
theorem dU (A_:t6 N)(hc:tS X (.type T) gs N)(hm:X.mg x=none)(hv:J6 x=some (.type T))(ha:oV X C p (e::es) φs)(hg:Gl X x:=by rfl)(hn:x≠"__name__" := by decide)(hdb:(x==("__debug__" : Str))=false:=by decide)
  (jS:Jl (e::es) X.env=(false,eval e X.env)::Jl es X.env:=by rfl) (hpl:(Kj pos (Jl es X.env)).any (·.1)=false:=by rfl) :
  PQ X C p (.Call (.Name x pp) (e::es) [] pos) (fZ gs N φs):=⟨fZ.mono ha,(pE hc hg hm hv ha.pa hn hdb (he:=jS) (hpl:=hpl)).pre (kO A_ ha)⟩
end
def j4 (P:IY)(w:Je)(ro:Bool)(H H':Hp)(d:D)(v:V):Prop:=match ro with
 |true=>∃A,Own P w H' d v A/\A.Nodup/\∀c∈A,H c=none
 |false=>ak P w (λa=>H a≠none) H' d v
abbrev rk (ro:Bool):Kd:=match ro with|true=>.own|false=>.di
def fC (P:IY)(w:Je)(ro:Bool)(F:FD):Sp:=λvs H Q _=>∃ds,ag P w (λ_=>False) H ds vs/\F ds λd=>∀v H',ax H H'->j4 P w ro H H' d v->Q v H'
def gh (P:IY)(w:Je)(ok:List Int->Prop)(ro:Bool)(F:FD):Sp:=λvs H Q _=>∃h vs' ds ns,vs=.ref h::vs'/\H h=some (.lst (ns.map V.int))/\ok ns/\ag P w (λa=>a=h) H ds vs' /\
 F ds λd=>∀v H' j6,Kp (·=h) H H'->(∀c,H c≠none->H' c≠none)->H' h=some (.lst (j6.map V.int))->ok j6->j4 P w ro H H' d v->Q v H'
section
variable {X:Cx}{C:Cfg}{k ih:Nat}{f:Addr}{fd:JJ}{ps:List Str}{F:FD}{ro p:Bool}{x hx:Str}{pp pos px:Pos}{e:Expr}{es:List Expr}{φs:b3}{ok:List Int->Prop}{σ:St}{H H':Hp}{β:bo}{own:Nat->List Addr}{P:IY}{w:Je}
theorem j4.kv {Z:Hp×(Addr->Prop)}{d:D}{v:V}(hd:Dm (Wn own) H)(h0:∀a,C.H0 a≠none->H a≠none)(hz:∀a,Z.1 a≠none->H a≠none)(h:j4 P w ro H H' d v):KV P w C Z own H' (rk ro) d v:=by
 cases ro with
 |true =>
  obtain⟨A,h1,h2,h3⟩:=h;exact⟨A,h1,h2,λc hc=>⟨JR λz=>hz c z (h3 c hc),λz=>hd c z (h3 c hc),JR λz=>h0 c z (h3 c hc)⟩⟩
 |false=>exact ak.aJ (λa z=>z.elim (hd a) (h0 a)) h
def C1 (ro:Bool)(F:FD)(φs:b3):aL:=λβ R=>φs β λds _ β1=>F ds λd=>R d (rk ro) β1
theorem bC (mF:dj F)(G:aN X.prog X.w X.K X.mg X.base ck k f fd ps (fC X.prog X.w ro F))(hr:bF k X.A)(hm:X.mg x=some (.ref f))(hk:PySem.W.keepIn X.K (.ref f)=true)(hb:Binds X.K fd ps [])(ha:oV X C p (e::es) φs)(hg:Gl X x:=by rfl)
  (hdb:(x==("__debug__" : Str))=false:=by decide)
  (jS:Jl (e::es) X.env=(false,eval e X.env)::Jl es X.env:=by rfl) (hpl:(Kj pos (Jl es X.env)).any (·.1)=false:=by rfl) :
  PQ X C p (.Call (.Name x pp) (e::es) [] pos) (C1 ro F φs) :=
 ⟨λβ R R' k h=>ha.mono β _ _ (λds ks β1 q=>mF ds _ _ (λd q=>k _ _ _ q) q) h,(nY G hr hg hm hk hb .nil rD ha.pa (hdb:=hdb) (he:=jS) (hpl:=hpl)).pre λσ H Q ⟨β,own,s,h⟩=>ql.of ha s h λds ks β1 vs H1 aB q o1 r1=>by
  rw[Ku];exact⟨ds,r1.bor,mF ds _ _ (λd q2 v H' s2 r2=>q2 v H' aB (o1.same s2) (r2.kv o1.sq.t5 o1.sq.iu λa z=>o1.sn.d a z)) q⟩⟩
theorem bG.drawn {i:Nat}{h:Addr}{j6:List Int}(b:bG P w C σ H β own)(e:β[i]?=some (some (.hand ok)))(hσ:σ[i]?=some (some (.ref h)))(k:Kp (·=h) H H')(e':H' h=some (.lst (j6.map V.int)))(o':ok j6)(dn:∀c,H c≠none->H' c≠none):bG P w C σ H' β own:=by
 obtain⟨a,ns,h1,h2,h3,h4,h5⟩:=b.md i ok e;rw[hσ]at h1;cases h1;have wh:Wn own h:=⟨i,by rw[h4];simp⟩
 have kW:∀y,Kp (gq C (Wn own) (yk y)) H H':=λy=>k.mono λc z=>by rw[z];cases y <;> first|exact .inl wh|exact .inl (.inl wh)
 have ne:∀j,j≠i->∀c∈own j,c≠h:=λj hj c hc z=>hj (b.iA j i c hc (by rw[h4,z];simp))
 refine⟨b.len,λj y d e=>let ⟨v,g1,g2⟩:=b.val j y d e;⟨v,g1,g2.keep (kW y)⟩,λj d ej=>?_,λj qo ej=>?_,λj c hc=>?_,b.iA,b.k0,⟨λc o z n=>?_,λc xs z=>k.tup c xs (b.kp.tup c xs z)⟩,λc z=>dn c (b.iu c z),λj y d ej=>by
  obtain⟨v,g1,g2,g3⟩:=b.shl j y d ej;have hj:j≠i:=λz=>by rw[z,e]at ej;cases ej
  exact⟨v,g1,g2.map (λc hc o eo=>k.out c o eo (ne j hj c hc)) (λ_ _ r=>r.keep (kW true)),g3⟩⟩
 ·obtain⟨v,g1,g2,g3⟩:=b.ow j d ej;have hj:j≠i:=λz=>by rw[z,e]at ej;cases ej
  exact⟨v,g1,g2.keep k.tup (λc hc o eo=>k.out c o eo (ne j hj c hc)),g3⟩
 ·by_cases hj:j=i
  ·subst hj;rw[e]at ej;cases ej;exact⟨h,j6,hσ,e',o',h4,h5⟩
  ·obtain⟨a,ms,g1,g2,g3,g4,g5⟩:=b.md j qo ej;exact⟨a,ms,g1,k.out a _ g2 (ne j hj a (by rw[g4];simp)),g3,g4,g5⟩
 ·obtain⟨g1,g2,g3⟩:=b.dm j c hc
  by_cases ox:c=h
  ·rw[ox,e'];rw[ox]at g3;exact⟨λz=>(nomatch z),λxs z=>(by cases z),g3⟩
  ·cases q:H c with
   |none=>exact absurd q g1
   |some o=>rw[k.out c o q ox];exact⟨λz=>(nomatch z),λxs z=>g2 xs (by rw[q];exact z),g3⟩
 ·refine k.out c o (b.kp.out c o z n) λq=>?_;subst q;rcases (b.dm i c (by rw[h4];simp)).2.2.1 with z0|z0
  ·rw[z0]at z;cases z
  ·exact n z0
def z8 (ih:Nat)(ok:List Int->Prop)(ro:Bool)(F:FD)(φs:b3):aL:=λβ R=>β[ih]?=some (some (.hand ok))/\φs β λds ks β1=>β1[ih]?=some (some (.hand ok))/\hold (eD ks) false/\F ds λd=>R d (rk ro) β1
theorem aR (mF:dj F)(G:aN X.prog X.w X.K X.mg X.base ck k f fd ps (gh X.prog X.w ok ro F))(hr:bF k X.A)(hm:X.mg x=some (.ref f))(hk:PySem.W.keepIn X.K (.ref f)=true)(hb:Binds X.K fd ps [])(ha:oV X C p es φs)(hn:Nm X ih hx:=by exact xQ)(hg:Gl X x:=by rfl)(hdb:(x==("__debug__" : Str))=false:=by decide)
  (jS:Jl (.Name hx px::es) X.env=(false,eval (.Name hx px) X.env)::Jl es X.env:=by rfl) (hpl:(Kj pos (Jl es X.env)).any (·.1)=false:=by rfl) :
  PQ X C false (.Call (.Name x pp) (.Name hx px::es) [] pos) (z8 ih ok ro F φs) :=
 ⟨λβ R R' k Eh=>by obtain⟨e,h⟩:=Eh;exact⟨e,ha.mono β _ _ (λds ks β1 Eg=>by obtain⟨e,hh,q⟩:=Eg;exact⟨e,hh,mF ds _ _ (λd q=>k _ _ _ q) q⟩) h⟩,
  (nY G hr hg hm hk hb .nil rD (bD (gR (pos:=px) hn) ha.pa jS) (hdb:=hdb) (he:=jS) (hpl:=hpl)).pre λσ H Q yv=>by
  obtain⟨β,own,s,e,h⟩:=yv;obtain⟨hh,ns,h1,h2,h3,h4⟩:=s.md ih ok e;refine⟨.ref hh,h1,ql.of ha s h λds ks β1 vs H1 aB jR o1 r1=>?_⟩;obtain⟨e1,ho,q⟩:=jR;obtain⟨IK,G0,g1,g2,g3,g4,g5⟩:=o1.sq.md ih ok e1;rw[h1]at g1;cases g1;have wh:Wn aB hh:=⟨ih,by rw[g4];simp⟩
  rw[Ku];refine⟨hh,vs,ds,G0,rfl,g2,g3,ag.aJ (λa z=>?_) r1.iG,mF ds _ _ (λd q v H' j6 kp dn e' qo r=>?_) q⟩
  ·subst z;cases hk:eD ks with
   |own=>exact .inl wh
   |di=>exact .inl wh
   |old=>exact wh
   |bor=>rw[hk]at ho;exact ho.elim
  ·exact q v H' aB ⟨o1.sq.drawn e1 h1 kp e' qo dn,o1.sn.kp (kp.mono λb z=>by rw[z];exact wh) dn,λz=>(nomatch z),o1.le⟩ (r.kv o1.sq.t5 o1.sq.iu λa z=>o1.sn.d a z)⟩
end
abbrev Cfg.z (C:Cfg):Cfg:=C.u λ_=>False
def SB (X:Cx)(C:Cfg)(Z:Hp×(Addr->Prop))(σ:St)(H:Hp)(β:bo):Prop:=∃own,SQ X C.z σ H β own/\Sn Z H (Wn own)
structure b4 where
 nx:bo->Prop
 rt:D->bo->Prop
 bk:bo->Prop:=λ_=>False
 ct:bo->Prop:=λ_=>False
def b4.up (E:b4)(n:bo->Prop):b4:=⟨n,E.rt,E.bk,E.ct⟩
def b4.lp (E:b4)(n:bo->Prop):b4:=⟨n,E.rt,E.nx,n⟩
structure Ij (X:Cx)(C:Cfg)(Z:Hp×(Addr->Prop))(E:b4)(D:Ends):Prop where
 nx:∀σ H β,SB X C Z σ H β->E.nx β->D.nx σ H
 rt:∀σ H β d v,SB X C Z σ H β->j4 X.prog X.w C.ro C.H0 H d v->E.rt d β->D.rt v H
 bk:∀σ H β,SB X C Z σ H β->E.bk β->D.bk σ H
 ct:∀σ H β,SB X C Z σ H β->E.ct β->D.ct σ H
structure Le (E E':b4):Prop where
 nx:∀β,E.nx β->E'.nx β
 rt:∀d β,E.rt d β->E'.rt d β
 bk:∀β,E.bk β->E'.bk β
 ct:∀β,E.ct β->E'.ct β
abbrev wJ:=b4->bo->Prop
def ap (ψ:wJ)(E:b4)(β:bo):Prop:=ψ E β
def eN (R:D->Prop):b4:={nx:=λ_=>R .b7,rt:=λd _=>R d}
def eH (ok:List Int->Prop)(R:D->Prop):b4:={nx:=λ_=>False,rt:=λd β=>β[0]?=some (some (.hand ok))/\R d}
def Fy (X:Cx)(C:Cfg)(ψ:wJ):TS:=λD σ H=>∃Z E β,SB X C Z σ H β/\ψ E β/\Ij X C Z E D
structure PB (X:Cx)(C:Cfg)(st:Stmt)(ψ:wJ):Prop where
 mono:∀E E' β,Le E E'->ψ E β->ψ E' β
 ps:PS X st (Fy X C ψ)
structure qk (X:Cx)(C:Cfg)(st:List Stmt)(ψ:wJ):Prop where
 mono:∀E E' β,Le E E'->ψ E β->ψ E' β
 ps:l5 X st (Fy X C ψ)
section
variable {X:Cx}{C:Cfg}{st:Stmt}{rest a b:List Stmt}{ψ ψ1 ψ2:wJ}{Z:Hp×(Addr->Prop)}{σ:St}{H H':Hp}{β β':bo}{pos pos':Pos}{e c:Expr}{φ:aL}{τ:aX}{p:Bool}{own aE:Nat->List Addr}{i:Nat}{x:Str}
theorem Out.sb (n:Sn Z H (Wn own))(o:Out X C.z σ H own p β' H' aE):SB X C Z σ H' β':=⟨aE,o.sq,n.trans o.sn⟩
theorem a7:qk X C [] (λE β=>E.nx β):=⟨λE E' β l h=>l.nx β h,nR.pre λD σ H pW=>by obtain⟨Z,E,β,sb,h,ok⟩:=pW;exact ok.nx σ H β sb h⟩
theorem ai (h1:PB X C st ψ1)(h2:qk X C rest ψ2):qk X C (st::rest) (λE β=>ψ1 (E.up (ap ψ2 E)) β) :=
 ⟨λE E' β l h=>h1.mono {E with nx:=ψ2 E} {E' with nx:=ψ2 E'} β ⟨λβ' q=>h2.mono E E' β' l q,l.rt,l.bk,l.ct⟩ h,(bg h1.ps h2.ps).pre λD σ H ⟨Z,E,β,sb,h,ok⟩ =>
  ⟨Z,{E with nx:=ψ2 E},β,sb,h,⟨λσ' H' β' uo h'=>⟨Z,E,β',uo,h',ok⟩,ok.rt,ok.bk,ok.ct⟩⟩⟩
theorem ar (h1:PB X C st ψ):qk X C [st] ψ:=⟨h1.mono,e7 h1.ps⟩
theorem jF (h1:PB X C st ψ1)(h2:qk X C rest ψ2):qk X C (st::rest) (λE β=>∃J:bo->Prop,ψ1 (E.up J) β/\∀β',J β'->ap ψ2 E β') :=
 ⟨λE E' β l vd=>by obtain⟨J,h,k⟩:=vd;exact⟨J,h1.mono {E with nx:=J} {E' with nx:=J} β ⟨λ_ q=>q,l.rt,l.bk,l.ct⟩ h,λβ' q=>h2.mono E E' β' l (k β' q)⟩,(bg h1.ps h2.ps).pre λD σ H ⟨Z,E,β,sb,⟨J,h,k⟩,ok⟩ =>
  ⟨Z,{E with nx:=J},β,sb,h,⟨λσ' H' β' uo h'=>⟨Z,E,β',uo,k β' h',ok⟩,ok.rt,ok.bk,ok.ct⟩⟩⟩
theorem fJ:qk X C a (λ_ _=>False):=⟨λ_ _ _ _ h=>h.elim,pA.pre λD σ H sy=>by obtain⟨Z,E,β,sb,h,ok⟩:=sy;exact h.elim⟩
theorem cK (hc:qj X C.z p c τ)(ha:qk X C a ψ1)(hb:qk X C b ψ2):PB X C (.If c a b pos) (λE β=>τ β λt β'=>if t=true then ap ψ1 E β' else ap ψ2 E β') :=
 ⟨λE E' β l h=>hc.mono _ _ _ (λt β' q=>by
   cases t
   ·exact hb.mono E E' β' l q
   ·exact ha.mono E E' β' l q) h,(vV hc.pt ha.ps hb.ps).pre λD σ H vc=>by
  obtain⟨Z,E,β,⟨own,s,n⟩,h,ok⟩:=vc;refine iT.of hc s h λt β' H1 aB q o1=>?_;cases t
  ·exact⟨Z,E,β',o1.sb n,q,ok⟩
  ·exact⟨Z,E,β',o1.sb n,q,ok⟩⟩
abbrev wg (d:D)(k:Kd)(K:B->Prop):Prop:=match k with
 |.own=>K (.val true d)
 |.di=>K (.val true d)
 |.old=>K (.val false d)
 |.bor=>d.flat=true/\K (.val true d)
theorem wg.mono {d:D}{k:Kd}{K K':B->Prop}(h:∀b,K b->K' b)(q:wg d k K):wg d k K':=by
 cases k <;> first|exact h _ q|exact⟨q.1,h _ q.2⟩
theorem wg.of {P:IY}{w:Je}{d:D}{v:V}{k:Kd}{K:B->Prop}(r:KV P w C Z own H k d v)(q:wg d k K):∃y,K (.val y d)/\ak P w (av C (Wn own) (yk y)) H d v:=by
 cases k with
 |own=>exact⟨true,q,r.di⟩
 |di=>exact⟨true,q,r⟩
 |old=>exact⟨false,q,r⟩
 |bor=>exact⟨true,q.2,ak.flat q.1 r⟩
theorem qP {own:Nat->List Addr}{i:Nat}(n:Sn Z H (Wn own)):Sn Z H (Wn (aI own i [])):=⟨λb z=>n.w b (fz z),n.k,n.d⟩
theorem bP (he:PQ X C.z p e φ)(hN:X.N.Nodup)(hi:X.N[i]?=some x:=by rfl)(hx:Loc X.env.scope x:=by first|exact .inl rfl|exact .inr rfl)
  (hs:Kw e (some (.Name x pos')) pos.line X.env=pure false:=by rfl) (hf:X.fn x=true\/X.env.scope.names.lookup x=some .local:=by first|exact .inl rfl|exact .inr rfl|assumption) :
  PB X C (.Assign [.Name x pos'] e pos) (λE β=>φ β λd k β'=>wg d k λb=>E.nx (β'.set i (some b))) :=
 ⟨λE E' β l q=>he.mono _ _ _ (λd k β' q=>q.mono λ_=>l.nx _) q,(fI hN hi hx he.pe hs hf).pre λD σ H ⟨Z,E,β,⟨own,s,n⟩,q,ok⟩=>tQ.of he s q λd k β' v H' aE q o r=>by
  obtain⟨y,q,r⟩:=q.of r;exact ok.nx _ _ _ ⟨_,o.sq.fE (ak.aJ (λa z=>z.elim id λz=>z.elim) r),qP (n.trans o.sn)⟩ q⟩
abbrev wj (k:Kd)(d:D):Prop:=match k with
 |.own=>True
 |_=>d.flat=true
theorem KV.fl {P:IY}{w:Je}{d:D}{v:V}{k:Kd}(f:wj k d)(r:KV P w C Z own H k d v):KV P w C Z own H .own d v:=by
 cases k with
 |own=>exact r
 |di=>exact KV.flat f r.rep
 |old=>exact KV.flat f r.rep
 |bor=>exact KV.flat f r.rep
theorem dW (he:∀U,PQ X (C.u U) p e φ)(hN:X.N.Nodup)(hi:X.N[i]?=some x:=by rfl)(hx:Loc X.env.scope x:=by first|exact .inl rfl|exact .inr rfl)
  (hs:Kw e (some (.Name x pos')) pos.line X.env=pure false:=by rfl) (hf:X.fn x=true\/X.env.scope.names.lookup x=some .local:=by first|exact .inl rfl|exact .inr rfl|assumption) :
  PB X C (.Assign [.Name x pos'] e pos) (λE β=>φ β λd k β'=>wj k d/\E.nx (β'.set i (some (.own d)))) :=
 ⟨λE E' β l q=>(he λ_=>False).mono _ _ _ (λd k β' q=>⟨q.1,l.nx _ q.2⟩) q,λpins s σ H D I ⟨Z,E,β,⟨own,sq,n⟩,q,ok⟩ =>
  fI hN hi hx (he λa=>H a=none).pe hs hf pins s σ H D I (tQ.of (he λa=>H a=none) (sq.nG (C:=C.z) (U:=λa=>H a=none) λa z=>z) q λd k β' v H' aE yA o r=>by
   obtain⟨f,q⟩:=yA;obtain⟨A,h1,h2,h3⟩:=r.fl f;refine ok.nx _ _ _ ⟨_,o.sq.qS h1 h2 λc hc=>⟨(h3 c hc).2.2,(h3 c hc).2.1,(h3 c hc).1⟩,?_⟩ q;have m:=n.trans o.sn;exact⟨λb Er=>by
    obtain⟨j,hj⟩:=Er
    by_cases aF:i=j
    ·rw[<- aF,os_eq]at hj;exact .inr (n.free (h3 b hj).1)
    ·rw[ba aF]at hj;exact m.w b ⟨j,hj⟩,m.k,m.d⟩)⟩
theorem bG.xk {P:IY}{w:Je}{U U2:Addr->Prop}{d d':D}{v:V}{A':List Addr}{c:Addr}{o:HO}(b:bG P w (C.u U) σ H β own)(e:β[i]?=some (some (.own d)))(hσ:σ[i]?=some (some v))(hc:c∈own i)
  (r:Own P w (upd H c o) d' v A') (nd:A'.Nodup) (hA:∀a∈A',a∈own i\/(C.H0 a=none/\¬ Wn own a/\U a)) (hU:∀a,U2 a->U a) (EY:∀a∈A',¬ U2 a):bG P w (C.u U2) σ (upd H c o) (β.set i (some (.own d'))) (aI own i A'):=by
 obtain⟨g1,g2,g3,g4⟩:=b.dm i c hc;obtain⟨oc,yC⟩:∃oc,H c=some oc:=by
  cases q:H c with
  |none=>exact absurd q g1
  |some oc=>exact⟨oc,rfl⟩
 have ht:∀xs,oc≠.tup xs:=λxs z=>g2 xs (by rw[yC,z])
 have k:Kp (·=c) H (upd H c o):=jQ yC ht;have h0:∀a∈own i,C.H0 a=none:=by obtain⟨_,_,_,h⟩:=b.ow i d e;exact h
 have wc:Wn own c:=⟨i,hc⟩;have sub:∀y a,gq (C.u U2) (Wn (aI own i A')) (yk y) a->gq (C.u U) (Wn own) (yk y) a:=λy a h=>by
  have q:∀a,Wn (aI own i A') a->Wn own a\/U a:=λa sC=>by
   obtain⟨j,q⟩:=sC
   by_cases aF:i=j
   ·rw[aF,os_eq]at q;rcases hA a q with z|z
    ·exact .inl ⟨i,z⟩
    ·exact .inr z.2.2
   ·rw[ba aF]at q;exact .inl ⟨j,q⟩
  rcases h with h|h
  ·cases y with
   |true=>exact h.elim (λz=>(q a z).imp .inl id) λz=>.inl (.inr z)
   |false=>exact q a h
  ·exact .inr (hU a h)
 have mem:∀{j c},c∈aI own i A' j->(i=j/\c∈A')\/(i≠j/\c∈own j):=λ{j c} h=>by
  by_cases aF:i=j
  ·subst aF;rw[os_eq]at h;exact .inl ⟨rfl,h⟩
  ·rw[ba aF]at h;exact .inr ⟨aF,h⟩
 have BX:∀j,i≠j->∀a∈own j,a≠c:=λj aF a ha z=>aF (b.iA i j c hc (by rw[<- z];exact ha))
 refine⟨by simp[b.len],λj y' d2 e2=>?_,λj d2 e2=>?_,λj ok e2=>?_,λj a h=>?_,λj k2 a h1 h2=>?_,λj=>?_,⟨λa oa z n=>?_,λa xs z=>k.tup a xs (b.kp.tup a xs z)⟩,λa z=>?_,λj y' d2 e2=>by
  by_cases aF:i=j
  ·subst aF;obtain⟨e',hl⟩:=bc e2;cases e'
  ·rw[a3 aF]at e2;rw[ba aF];obtain⟨u,h1,h2,h3⟩:=b.shl j y' d2 e2;exact⟨u,h1,h2.map (λa ha oa ea=>k.out a oa ea (BX j aF a ha)) (λ_ _ r=>ag.aJ (sub _) (r.keep (k.mono λa z=>by rw[z];cases y' <;> first|exact .inl wc|exact .inl (.inl wc)))),h3⟩⟩
 ·by_cases aF:i=j
  ·subst aF;obtain⟨e',hl⟩:=bc e2;cases e'
  ·rw[a3 aF]at e2;obtain⟨u,h1,h2⟩:=b.val j y' d2 e2;exact⟨u,h1,(h2.keep (k.mono λa z=>by rw[z];cases y' <;> first|exact .inl wc|exact .inl (.inl wc))).aJ (sub _)⟩
 ·by_cases aF:i=j
  ·subst aF;obtain⟨e',hl⟩:=bc e2;cases e';rw[os_eq];exact⟨v,hσ,r,λa ha=>(hA a ha).elim (h0 a) λz=>z.1⟩
  ·rw[a3 aF]at e2;rw[ba aF];obtain⟨u,h1,h2,h3⟩:=b.ow j d2 e2;exact⟨u,h1,h2.keep k.tup (λa ha oa ea=>k.out a oa ea (BX j aF a ha)),h3⟩
 ·by_cases aF:i=j
  ·subst aF;obtain⟨e',hl⟩:=bc e2;cases e'
  ·rw[a3 aF]at e2;rw[ba aF];obtain⟨a,ns,h1,h2,h3,h4,h5⟩:=b.md j ok e2;exact⟨a,ns,h1,k.out a _ h2 (BX j aF a (by rw[h4];simp)),h3,h4,h5⟩
 ·rcases mem h with⟨_,h⟩|⟨aF,h⟩
  ·exact⟨(r.iL a h).1,(r.iL a h).2,.inl ((hA a h).elim (h0 a) λz=>z.1),EY a h⟩
  ·obtain⟨q1,q2,q3,q4⟩:=b.dm j a h;rw[ay (BX j aF a h)];exact⟨q1,q2,q3,λz=>q4 (hU a z)⟩
 ·rcases mem h1 with⟨e1,h1⟩|⟨n1,h1⟩
  ·rcases mem h2 with⟨e2,h2⟩|⟨n2,h2⟩
   ·rw[<- e1,<- e2]
   ·rcases hA a h1 with z|z
    ·exact absurd (b.iA i k2 a z h2) n2
    ·exact absurd ⟨k2,h2⟩ z.2.1
  ·rcases mem h2 with⟨e2,h2⟩|⟨n2,h2⟩
   ·rcases hA a h2 with z|z
    ·exact absurd (b.iA i j a z h1) n1
    ·exact absurd ⟨j,h1⟩ z.2.1
   ·exact b.iA j k2 a h1 h2
 ·by_cases aF:i=j
  ·rw[<- aF,os_eq];exact nd
  ·rw[ba aF];exact b.k0 j
 ·refine k.out a oa (b.kp.out a oa z n) λq=>?_;subst q;rw[h0 a hc]at z;cases z
 ·by_cases Gf:a=c
  ·rw[Gf,az];exact λz=>(nomatch z)
  ·rw[ay Gf];exact b.iu a z
theorem bG.putIn {P:IY}{w:Je}{U:Addr->Prop}{d d':D}{v:V}{A':List Addr}{c:Addr}{o:HO}(b:bG P w (C.u U) σ H β own)(e:β[i]?=some (some (.own d)))(hσ:σ[i]?=some (some v))(hc:c∈own i)
  (r:Own P w (upd H c o) d' v A') (nd:A'.Nodup) (hA:∀a∈A',a∈own i\/(C.H0 a=none/\¬ Wn own a/\U a)):bG P w C.z σ (upd H c o) (β.set i (some (.own d'))) (aI own i A') :=
 b.xk (U2:=λ_=>False) e hσ hc r nd hA (λ_ z=>z.elim) λ_ _ z=>z
theorem mE {A':List Addr}{c:Addr}{o:HO}{U:Addr->Prop}(n:Sn Z H (Wn own))(m:∀a,U a->Z.1 a=none)(hc:Wn own c)(yC:∃oc,H c=some oc/\∀xs,oc≠.tup xs)(hA:∀a∈A',a∈own i\/(C.H0 a=none/\¬ Wn own a/\U a)):Sn Z (upd H c o) (Wn (aI own i A')):=by
 obtain⟨oc,h1,h2⟩:=yC;have u:=Sn.upd (o':=o) n h1 h2 hc;exact⟨λb yz=>by
  obtain⟨j,hj⟩:=yz
  by_cases aF:i=j
  ·rw[<- aF,os_eq]at hj;rcases hA b hj with z|z
   ·exact n.w b ⟨i,z⟩
   ·exact .inr (m b z.2.2)
  ·rw[ba aF]at hj;exact n.w b ⟨j,hj⟩,u.k,u.d⟩
theorem bG.g9 {P:IY}{w:Je}{ds:List D}(b:bG P w C σ H β own)(e:β[i]?=some (some (.own (.lst ds)))):∃a vs A',σ[i]?=some (some (.ref a))/\H a=some (.lst vs)/\own i=a::A'/\aD P w H ds vs A':=by
 obtain⟨v,h1,⟨a,vs,A',rfl,h2,h3,h4⟩,_⟩:=b.ow i _ e;exact⟨a,vs,A',h1,h2,h3,h4⟩
variable {px ap cp:Pos}
theorem fK (he:∀U,PQ X (C.u U) p e φ)(hn:Nm X i x:=by exact xQ)
  (cA:Ky (.Name x px) "append" X.env (eval (.Name x px) X.env)=eval (.Name x px) X.env:=by rfl)
  (h9:((Kj cp (Jl [e] X.env)).all (λx=>!x.1)&&(Mf cp (LB [] X.env)).all (λx=>x.1.isSome)&&decide ([e].length+([]:List Lb).length+(if ([]:List Lb).isEmpty then 0 else 1)<30))=true:=by rfl)
  (cz:(ap.endLine==cp.line)=true:=by rfl) (hs:Jl [e] X.env=(false,eval e X.env)::Jl [] X.env:=by rfl) (hZ:(Kj cp (Jl [] X.env)).any (·.1)=false:=by rfl)
  (vb:Kw (.Call (.Attribute (.Name x px) "append" ap) [e] [] cp) none pos.line X.env=pure false:=by rfl) :
  PB X C (.Expr (.Call (.Attribute (.Name x px) "append" ap) [e] [] cp) pos) (λE β=>(∃ds,β[i]?=some (some (.own (.lst ds))))/\φ β λd k β'=>wj k d/\∃ds,β'[i]?=some (some (.own (.lst ds)))/\ds.length<Jg/\E.nx (β'.set i (some (.own (.lst (ds++[d])))))):=by
 refine⟨λE E' β l yy=>by obtain⟨h1,q⟩:=yy;exact⟨h1,(he λ_=>False).mono _ _ _ (λd k β' yx=>by obtain⟨f,ds,h1,h2,q⟩:=yx;exact⟨f,ds,h1,h2,l.nx _ q⟩) q⟩,λpins s σ H D I jR=>?_⟩
 obtain⟨Z,E,β,⟨own,sq,n⟩,⟨⟨Gk,hb⟩,q⟩,ok⟩:=jR;refine nS (pos:=pos) (rB (apos:=ap) (cpos:=cp) PySem.F.plainAttrs_list PySem.F.slot_list_append PySem.F.type_list_append i3 (gR (pos:=px) hn) (bD (he λa=>H a=none).pe er hs) cA h9 cz hs hZ) vb pins s σ H D I ?_;obtain⟨a,vs,A',h1,h2,h3,h4⟩:=sq.g9 hb;refine⟨.ref a,h1,.inl ⟨rfl,vs,cS.of h2⟩,tQ.of (he λa=>H a=none) (sq.nG (C:=C.z) (U:=λa=>H a=none) λa z=>z) q λd k β' v H1 aB m5 o r=>?_⟩;obtain⟨f,ds,zt,hl,q⟩:=m5;obtain⟨a',vs',A1,g1,g2,g3,g4⟩:=o.sq.g9 zt;rw[h1]at g1;cases g1;obtain⟨A,r1,r2,r3⟩:=r.fl f;have ha:a∈aB i:=by rw[g3];simp
 have nd:(a::(A1++A)).Nodup:=by
  have q:=o.sq.k0 i;rw[g3]at q;refine JF.mpr ⟨λz=>?_,JT.mpr ⟨(JF.mp q).2,r2,λx hx y hy e=>?_⟩⟩
  ·rcases Jq.mp z with z|z
   ·exact(JF.mp q).1 z
   ·exact(r3 a z).2.1 ⟨i,ha⟩
  ·subst e;exact(r3 x hy).2.1 ⟨i,by rw[g3];simp[hx]⟩
 have hA:∀b∈a::(A1++A),b∈aB i\/(C.H0 b=none/\¬ Wn aB b/\H b=none):=λb hb=>by
  rcases Ja.mp hb with rfl|hb
  ·exact .inl ha
  ·rcases Jq.mp hb with hb|hb
   ·exact .inl (by rw[g3];simp[hb])
   ·exact .inr ⟨(r3 b hb).2.2,(r3 b hb).2.1,(r3 b hb).1⟩
 have kt:∀b xs,H1 b=some (.tup xs)->upd H1 a (.lst (vs'++[v])) b=some (.tup xs):=λb xs z=>by
  rw[ay (λz'=>by rw[z',g2]at z;cases z)];exact z
 have ne1:∀c∈A1,c≠a:=λc hc z=>by
  have q:=o.sq.k0 i;rw[g3]at q;exact(JF.mp q).1 (by rw[<- z];exact hc)
 have ne2:∀c∈A,c≠a:=λc hc z=>(r3 c hc).2.1 ⟨i,by rw[z];exact ha⟩
 have r':Own X.prog X.w (upd H1 a (.lst (vs'++[v]))) (.lst (ds++[d])) (.ref a) (a::(A1++A)) :=
  ⟨a,vs'++[v],A1++A,rfl,az,rfl,(g4.keep kt λc hc oc ec=>by rw[ay (ne1 c hc)];exact ec).append (aD.one (r1.keep kt λc hc oc ec=>by rw[ay (ne2 c hc)];exact ec))⟩
 exact⟨a,vs',v,rfl,rfl,g2,by rw[g4.length];exact hl,ok.nx _ _ _ ⟨_,o.sq.putIn zt h1 ha r' nd hA,mE (n.trans o.sn) (λb z=>n.free z) ⟨i,ha⟩ ⟨_,g2,λxs z=>by cases z⟩ hA⟩ q⟩
end
abbrev dJ:=D->Kd->bo->(bo->Prop)->Prop
abbrev jq:=List D->Kd->bo->(bo->Prop)->Prop
structure tR (X:Cx)(C:Cfg)(tg:Expr)(T:List Nat)(γ:dJ):Prop where
 mono:∀d k β R R',(∀r,R r->R' r)->γ d k β R->γ d k β R'
 pg:PG X tg λv σ H Q=>∃own β d k,SQ X C σ H β own/\Rp X (gq C (Wn own) k) H d v/\γ d k β λβ'=>∀σ' aE,SQ X C σ' H β' aE->(∀a,Wn aE a->Wn own a)->(∀j,j∉T->σ'[j]?=σ[j]?)->Q σ' H
structure vN (X:Cx)(C:Cfg)(oZ:List Expr)(T:List Nat)(γ:jq):Prop where
 mono:∀d k β R R',(∀r,R r->R' r)->γ d k β R->γ d k β R'
 FH:wK X oZ λvs σ H Q=>∃own β ds k,SQ X C σ H β own/\oT X (gq C (Wn own) k) H ds vs/\γ ds k β λβ'=>∀σ' aE,SQ X C σ' H β' aE->(∀a,Wn aE a->Wn own a)->(∀j,j∉T->σ'[j]?=σ[j]?)->Q σ' H
section
variable {X:Cx}{C:Cfg}{tg:Expr}{oZ:List Expr}{γ:dJ}{γs:jq}{T T':List Nat}{pos:Pos}{e:Expr}{φ:aL}{p:Bool}
def HP (i:Nat):dJ:=λd k β R=>wg d k λb=>R (β.set i (some b))
theorem aw {i:Nat}{x:Str}(hN:X.N.Nodup)(hi:X.N[i]?=some x:=by rfl)(hx:Loc X.env.scope x:=by first|exact .inl rfl|exact .inr rfl)
  (hf:X.fn x=true\/X.env.scope.names.lookup x=some .local:=by first|exact .inl rfl|exact .inr rfl|assumption):tR X C (.Name x pos) [i] (HP i) :=
 ⟨λd k β R R' h q=>wg.mono (d:=d) (k:=k) (K:=λb=>R (β.set i (some b))) (K':=λb=>R' (β.set i (some b))) (λ_=>h _) q,(uJ hN hi hx hf).pre λv σ H Q pW=>by
  obtain⟨own,β,d,k,s,r,q⟩:=pW;have BU:∀(v:V) (j:Nat),j∉[i]->(σ.set i (some v))[j]?=σ[j]?:=λv j hj=>a3 (Lm (by simpa using hj))
  cases k with
  |own=>exact q _ _ (s.fE (y:=true) r) (λa h=>fz h) (BU v)
  |di=>exact q _ _ (s.fE (y:=true) r) (λa h=>fz h) (BU v)
  |old=>exact q _ _ (s.fE (y:=false) r) (λa h=>fz h) (BU v)
  |bor=>exact q.2 _ _ (s.fE (y:=true) (ak.flat q.1 r)) (λa h=>fz h) (BU v)⟩
abbrev sk (k:Kd):D->Kd
 |.int _=>.own
 |.bl _=>.own
 |.b7=>.own
 |.str _=>.own
 |_=>k.wk
theorem mH {P:IY}{w:Je}{W:Addr->Prop}{H:Hp}{k:Kd}{d:D}{v:V}(r:ak P w (gq C W k) H d v):ak P w (gq C W (sk k d)) H d v:=by
 cases d with
 |int i=>exact ak.flat rfl r
 |bl i=>exact ak.flat rfl r
 |b7=>exact ak.flat rfl r
 |str i=>exact ak.flat rfl r
 |_=>exact ak.aJ (λa z=>z.imp (BF a) id) r
def yJ:jq:=λds _ β R=>ds=[]/\R β
def sO (γ:dJ)(γs:jq):jq:=λds k β R=>∃d r,ds=d::r/\γ d (sk k d) β λβ'=>γs r k β' R
theorem bZ:vN X C [] [] yJ:=⟨λd k β R R' h q=>⟨q.1,h _ q.2⟩,uI.pre λvs σ H Q sA=>by
 obtain⟨own,β,ds,k,s,r,e,q⟩:=sA;subst e;exact⟨r,q σ own s (λ_ z=>z) λ_ _=>rfl⟩⟩
theorem aG (h1:tR X C tg T γ)(h2:vN X C oZ T' γs)(hs:(Kk (tg::oZ) X.env).map (·.2)=assign tg X.env::(Kk oZ X.env).map (·.2):=by rfl):vN X C (tg::oZ) (T++T') (sO γ γs) :=
 ⟨λds k β R R' h vd=>by obtain⟨d,r,e,q⟩:=vd;exact⟨d,r,e,h1.mono _ _ β _ _ (λβ' q=>h2.mono r k β' _ _ h q) q⟩,
  (rh h1.pg h2.FH hs).pre λvs σ H Q AU=>by
    obtain⟨own,β,ds,k,s,rr,d,r,e,q⟩:=AU;subst e;obtain⟨v,vr,rfl,rv,GN⟩:=rr;exact⟨v,vr,rfl,own,β,d,_,s,mH rv,h1.mono _ _ β _ _ (λβ' q σ' aE s' w' t'=>⟨aE,β',r,k,s',ag.aJ (lY w' k) GN,h2.mono r k β' _ _ (λβ2 q2 σ2 aP s2 w2 t2=>q2 σ2 aP s2 (λa z=>w' a (w2 a z)) λj hj=>(t2 j λz=>hj (Jx _ z)).trans (t' j λz=>hj (Kh _ z))) q⟩) q⟩⟩
def HN (n:Nat)(γs:jq):dJ:=λd k β R=>∃ds,d=.tup ds/\ds.length=n/\γs ds k β R
theorem cJ {k:Nat}{n:Nat}(hc:X.calm=true)(h:vN X C oZ T γs)(hn:(Kk oZ X.env).length=n:=by rfl)(DP:(Kk oZ X.env).findIdx? (·.1)=none:=by rfl):tR X C (.Tuple oZ k pos) T (HN n γs) :=
 ⟨λd k β R R' hh AS=>by obtain⟨ds,e,l,q⟩:=AS;exact⟨ds,e,l,h.mono ds k β _ _ hh q⟩,(xq hc h.FH hn DP).pre λv σ H Q AR=>by
  obtain⟨own,β,d,k,s,r,ds,e,l,q⟩:=AR;subst e;obtain⟨a,vs,rfl,ha,rs⟩:=r;exact⟨a,vs,rfl,oS.of ha,by rw[rs.length];exact l,own,β,ds,k,s,rs,q⟩⟩
theorem gu {Z:Hp×(Addr->Prop)}{H:Hp}{own aE:Nat->List Addr}(n:Sn Z H (Wn own))(h:∀a,Wn aE a->Wn own a):Sn Z H (Wn aE):=⟨λb z=>n.w b (h b z),n.k,n.d⟩
theorem jG (he:PQ X C.z p e φ)(hg:tR X C.z tg T γ)(hs:swapsWithSole [tg] e pos.line X.env=pure false:=by rfl)(hw:swappedStores [tg] e X.env=pure none:=by rfl)
  (h1:(Kk [tg] X.env).map (·.2)=[assign tg X.env]:=by rfl):PB X C (.Assign [tg] e pos) (λE β=>φ β λd k β'=>γ d k β' E.nx) :=
 ⟨λE E' β l q=>he.mono _ _ _ (λd k β' q=>hg.mono _ _ _ _ _ l.nx q) q,(jD he.pe hg.pg hs hw h1).pre λD σ H ⟨Z,E,β,⟨own,s,n⟩,q,ok⟩=>tQ.of he s q λd k β' v H' aE q o r =>
  ⟨aE,β',d,k,o.sq,ak.aJ (λa z=>z.elim id λz=>z.elim) r.rep,hg.mono _ _ _ _ _ (λβ2 q σ2 aP s2 w2 _=>ok.nx _ _ _ ⟨aP,s2,gu (n.trans o.sn) w2⟩ q) q⟩⟩
theorem nZ (he:PQ X C.z p e φ)(vb:Kw e none pos.line X.env=pure false:=by rfl):PB X C (.Expr e pos) (λE β=>φ β λ_ _ β'=>E.nx β') :=
 ⟨λE E' β l q=>he.mono _ _ _ (λd k β' q=>l.nx _ q) q,(nS he.pe vb).pre λD σ H sy=>by obtain⟨Z,E,β,⟨own,s,n⟩,q,ok⟩:=sy;exact tQ.of he s q λd k β' v H' aE q o r=>ok.nx _ _ _ (o.sb n) q⟩
abbrev Dv (ro:Bool)(k:Kd)(d:D):Prop:=match k,ro with
 |.own,_=>True
 |.di,false=>True
 |_,_=>d.flat=true
theorem cX {P:IY}{w:Je}{W:Addr->Prop}{ro:Bool}{H H':Hp}{d:D}{v:V}(f:d.flat=true)(r:ak P w W H' d v):j4 P w ro H H' d v:=by
 cases ro with
 |true=>exact⟨[],cV f r,J0,λc hc=>(nomatch hc)⟩
 |false=>exact ak.flat f r
theorem uZ {P:IY}{w:Je}{Z:Hp×(Addr->Prop)}{own:Nat->List Addr}{ro:Bool}{H':Hp}{k:Kd}{d:D}{v:V}(f:Dv ro k d)(r:KV P w C Z own H' k d v):j4 P w ro C.H0 H' d v:=by
 cases k with
 |own =>
  cases ro with
  |true=>obtain⟨A,h1,h2,h3⟩:=r;exact⟨A,h1,h2,λc hc=>(h3 c hc).2.2⟩
  |false=>exact ak.aJ (λa z=>.inr z) r.rep
 |di =>
  cases ro with
  |true=>exact cX f r.rep
  |false=>exact ak.aJ (λa z=>.inr z) r.rep
 |old=>cases ro <;> exact cX f r.rep
 |bor=>cases ro <;> exact cX f r.rep
theorem uO (he:PQ X C.z p e φ):PB X C (.Return (some e) pos) (λE β=>φ β λd k β'=>Dv C.ro k d/\E.rt d β') :=
 ⟨λE E' β l q=>he.mono _ _ _ (λd k β' q=>⟨q.1,l.rt _ _ q.2⟩) q,(gP he.pe).pre λD σ H vc=>by obtain⟨Z,E,β,⟨own,s,n⟩,q,ok⟩:=vc;exact tQ.of he s q λd k β' v H' aE q o r=>ok.rt _ _ _ _ _ (o.sb n) (uZ (C:=C.z) q.1 r) q.2⟩
theorem aY {ro:Bool}(he:PQ X C.z p e φ)(Hl:C.ro=ro:=by first|exact(rfl:_=true)|exact(rfl:_=false)):PB X C (.Return (some e) pos) (λE β=>φ β λd k β'=>Dv ro k d/\E.rt d β'):=by
 subst Hl;exact uO he
end
abbrev fx:=bo->(List D->Kd->bo->Prop)->Prop
structure vM (X:Cx)(C:Cfg)(p:Bool)(tg iter:Expr)(ι:fx):Prop where
 mono:∀β R R',(∀d k β,R d k β->R' d k β)->ι β R->ι β R'
 pi:PI X tg iter λσ H R=>∃β own,SQ X C σ H β own/\ι β λds k β'=>∀J H' aE,Out X C σ H own p β' H' aE->BM X (av C (Wn aE) k) J ds H'->R J H'
section
variable {X:Cx}{C:Cfg}{tg e a:Expr}{φ:aL}{φs:b3}{p:Bool}{pp pos:Pos}
def Dy (φ:aL):fx:=λβ R=>φ β λd k β'=>∃ds,d=.lst ds/\R ds k β'
theorem cx (h:PQ X C p e φ):vM X C p tg e (Dy φ) :=
 ⟨λβ R R' k q=>h.mono β _ _ (λd kd β' yA=>by obtain⟨ds,e,q⟩:=yA;exact⟨ds,e,k _ _ _ q⟩) q,(nX h.pe).pre λσ H R ⟨β,own,s,q⟩=>tQ.of h s q λd k β' v H1 aB sC o1 r1=>by
  obtain⟨ds,e,q1⟩:=sC;subst e;obtain⟨a,vs,rfl,h1,n1,q2⟩:=r1.rep;exact⟨a,rfl,⟨vs,cS.of h1⟩,q1 _ _ aB o1 (ly h1 n1 q2)⟩⟩
def va (φs:b3):fx:=λβ R=>φs β λds _ β'=>∃j:Int,ds=[.int j]/\-(2 ^ 62)<=j/\j<2 ^ 62/\R (kK 0 j.toNat) .di β'
theorem aU (hm:X.mg "range" = none) (ha:oV X C p [a] φs) (hg:Gl X "range" := by rfl) (hs:Jl [a] X.env=[(false,eval a X.env)]:=by rfl):vM X C p tg (.Call (.Name "range" pp) [a] [] pos) (va φs) :=
 ⟨λβ R R' k q=>ha.mono β _ _ (λd kd β' yw=>by obtain⟨j,e,h1,h2,q⟩:=yw;exact⟨j,e,h1,h2,k _ _ _ q⟩) q,(pC hg hm ha.pa hs).pre λσ H R ⟨β,own,s,q⟩=>ql.of ha s q λds ks β' vs H1 aB Eo o1 r1=>by
  obtain⟨j,e,h1,h2,q1⟩:=Eo;subst e;obtain⟨x,rfl,hx⟩:=iw r1.iG;cases hx;exact⟨j,rfl,h1,h2,q1 _ _ aB o1 pR⟩⟩
end
def sR (γ:dJ)(ψ:wJ)(E:b4)(ds:List D)(k:Kd)(β:bo):Prop:=∃I:Nat->bo->Prop,I 0 β/\(∀i d β,ds[i]?=some d->I i β->γ d (sk k d) β λβ1=>ψ (E.lp (I (i+1))) β1)/\∀β,I ds.length β->E.nx β
section
variable {X:Cx}{C:Cfg}{tg iter:Expr}{γ:dJ}{T:List Nat}{ψ:wJ}{ι:fx}{body:List Stmt}{pos:Pos}{p:Bool}
theorem sR.mono {E E':b4}{ds:List D}{k:Kd}{β:bo}(hγ:∀d k β R R',(∀r,R r->R' r)->γ d k β R->γ d k β R')(hψ:∀E E' β,Le E E'->ψ E β->ψ E' β)(l:Le E E'):sR γ ψ E ds k β->sR γ ψ E' ds k β:=λ⟨I,h0,h1,h2⟩ =>
 ⟨I,h0,λi d β e q=>hγ d _ β _ _ (λβ1 q=>hψ {nx:=I (i+1),rt:=E.rt,bk:=E.nx,ct:=I (i+1)} {nx:=I (i+1),rt:=E'.rt,bk:=E'.nx,ct:=I (i+1)} β1 ⟨λ_ q=>q,l.rt,l.nx,λ_ q=>q⟩ q) (h1 i d β e q),λβ q=>l.nx _ (h2 β q)⟩
theorem vI {own aP:Nat->List Addr}{H H2:Hp}{k:Kd}(n:Sn (H,Wn own) H2 (Wn aP)):∀b,av C (Wn aP) k b->av C (Wn own) k b\/H b=none:=λb z=>by
 cases k with
 |own=>exact z.elim (λz=>(n.w b z).imp .inl id) λz=>.inl (.inr z)
 |di=>exact z.elim (λz=>(n.w b z).imp .inl id) λz=>.inl (.inr z)
 |old=>exact n.w b z
 |bor=>exact z.elim
theorem cy (hp:PassesOwn (model X.prog X.w) X.A X.env X.xe)(hc:X.calm=true)(hi:vM X C.z p tg iter ι)(hg:tR X C.z tg T γ)(hb:qk X C body ψ)(hs:∀x,JY iter X.env x=pure x:=by intro _;rfl):
  PB X C (.For tg iter body [] pos) (λE β=>ι β λds k β1=>hold k false/\sR γ ψ E ds k β1) :=
 ⟨λE E' β l q=>hi.mono _ _ _ (λds k β1 q=>⟨q.1,q.2.mono hg.mono hb.mono l⟩) q,(qZ hp hc hi.pi hg.pg hb.ps hs).pre λD σ H Ek=>by
  obtain⟨Z,E,β,⟨own,s,n⟩,q,ok⟩:=Ek;refine⟨β,own,s,hi.mono _ _ _ (λds k β1 jR J H1 aB o1 it=>?_) q⟩;obtain⟨hk,I,i0,i1,i2⟩:=jR;have n':=n.trans o1.sn;have ig:∀b,Wn aB b\/H1 b=none->av C.z (Wn aB) k b\/H1 b=none:=λb z=>by
   cases k with
   |own=>exact z.imp .inl id
   |di=>exact z.imp .inl id
   |old=>exact z
   |bor=>exact hk.elim
  have zm:=it (λb=>av C.z (Wn aB) k b\/H1 b=none) λb z=>z;refine⟨λi m σ H=>i<=ds.length/\m=ds.length-i/\∃β,SB X C (H1,Wn aB) σ H β/\I i β,⟨_,Jp _,rfl,β1,⟨aB,o1.sq,Sn.refl⟩,i0⟩,?_⟩;rintro i m σ2 H2 ⟨hi,rfl,β2,⟨aP,s2,n2⟩,hl⟩;obtain⟨cR,AG⟩:=zm i H2 (n2.k.mono ig)
  by_cases h8:i<ds.length
  ·right
   have hd:ds[i]?=some ds[i]:=I_ h8;obtain⟨go,yl⟩:=cR _ hd;refine⟨go,λσ' H'=>∃β,SB X C (H1,Wn aB) σ' H' β/\I (i+1) β,λσ' H' Ei=>by obtain⟨β',uo,sF⟩:=Ei;exact⟨_,by lia,h8,rfl,β',uo,sF⟩,λx H3 y=>?_⟩
   obtain⟨s3,r3⟩:=yl x H3 y;refine⟨aP,β2,_,_,s2.same s3,mH (C:=C.z) (ak.aJ (λb z=>vI (C:=C) n2 b (z.elim id λz=>z.elim)) r3),hg.mono _ _ _ _ _ (λβ4 q σ4 pF s4 w4 _=>?_) (i1 i _ β2 hd hl)⟩;refine⟨(H1,Wn aB),_,β4,⟨pF,s4,gu (n2.same s3) w4⟩,q,⟨λσ5 H5 β5 pz q5=>⟨β5,pz,q5⟩,λσ5 H5 β5 d5 v5 pz r5 q5=>?_,λσ5 H5 β5 pz q5=>?_,λσ5 H5 β5 pz q5=>⟨β5,pz,q5⟩⟩⟩
   ·obtain⟨kT,s5,n5⟩:=pz;exact ok.rt _ _ _ _ _ ⟨kT,s5,n'.trans n5⟩ r5 q5
   ·obtain⟨kT,s5,n5⟩:=pz;exact ok.nx _ _ _ ⟨kT,s5,n'.trans n5⟩ q5
  ·left
   have e:i=ds.length:=by lia
   subst e;exact⟨AG (IZ _),ok.nx _ _ _ ⟨aP,s2,n'.trans n2⟩ (i2 β2 hl)⟩⟩
end
def startB (N:List Str)(ds:List D):bo:=ds.map (λd=>some (.val false d))++Jz (N.length-ds.length) none
def fB (N:List Str)(ok:List Int->Prop)(ds:List D):bo:=some (.hand ok)::(ds.map (λd=>some (.val false d))++Jz (N.length-(ds.length+1)) none)
section
variable {P:IY}{w:Je}{K:PySem.W.Frag}{mg:Str->Option IS}{base:Heap}
theorem dw {i n:Nat}{b:B}(h:(Jz n (none:Option B))[i]?=some (some b)):False:=by
 rw[List.getElem?_replicate]at h
 split at h <;> cases h
theorem cT {ds:List D}{n i:Nat}{b:B}(h:(ds.map (λd=>some (B.val false d))++Jz n none)[i]?=some (some b)):∃d,ds[i]?=some d/\b=.val false d:=by
 by_cases hi:i<ds.length
 ·rw[Kg (by simpa using hi),Jt]at h
  cases q:ds[i]? with
  |none=>rw[q]at h;cases h
  |some d=>rw[q]at h;cases h;exact⟨d,rfl,rfl⟩
 ·rw[J1 (by simpa using hi)]at h
  exact(dw h).elim
theorem fA {N:List Str}{vs:List V}{i:Nat}{v:V}(h:vs[i]?=some v):(start N vs)[i]?=some (some v):=by
 unfold start;rw[Kg (by simpa using (Jd.mp h).1),Jt,h]
 rfl
theorem qM {N:List Str}{vs:List V}{ds:List D}{H:Hp}{ro:Bool}(r:ag P w (λ_=>False) H ds vs):bG P w ⟨H,λ_=>False,ro,λ_=>False⟩ (start N vs) H (startB N ds) (λ_=>[]):=by
 refine⟨?_,λi y d h=>?_,λi d h=>?_,λi ok h=>?_,λi a h=>(nomatch h),λi j a h=>(nomatch h),λi=>J0,Kp.refl,λ_ z=>z,λi y d h=>by obtain⟨d',e,e'⟩:=cT h;cases e'⟩
 ·unfold startB start;simp[r.length]
 ·obtain⟨d',e,e'⟩:=cT h;cases e';obtain⟨v,e1,e2⟩:=ag.get r e;exact⟨v,fA e1,ak.aJ (λa z=>z.elim (λEe=>by obtain⟨_,q⟩:=Ee;exact(nomatch q)) λz=>z) e2⟩
 ·obtain⟨d',e,e'⟩:=cT h;cases e'
 ·obtain⟨d',e,e'⟩:=cT h;cases e'
theorem tW {x qual:Str}{st:Stmt}{f:Addr}{fd:JJ}{N ps:List Str}{k:Nat}{F:FD}{ro:Bool}(G:t7 K x qual st f fd)(S:aH N ps (ao st))(len:∀ds R,F ds R->ds.length=ps.length)
  (h_:∀(cg:IS) (A:JQ) (outer:List Env) (s:IT) (H:Hp) (E:XK),bF k (A.deeper (LP qual (ao st) s.heap.objs.size f cg)) ->
   ∃ψ,qk (iM ck P w K mg base N qual (ao st) f cg A outer s H E).vZ ⟨H,λ_=>False,ro,λ_=>False⟩ (cL st) ψ/\∀ds R,F ds R->ψ (eN R) (startB N ds)) :
  aN P w K mg base ck (k+1) f fd ps (fC P w ro F):=by
 refine G.ok S (λvs H Q E h=>?_) (λcg A outer s H vs Q E hr h=>?_)
 ·obtain⟨ds,r,h⟩:=h;rw[r.length];exact len ds _ h
 ·obtain⟨ds,r,h⟩:=h;obtain⟨ψ,hb,hF⟩:=h_ cg A outer s H E hr;refine⟨_,hb.ps,(H,Wn λ_=>[]),_,startB N ds,⟨λ_=>[],qM r,Sn.refl⟩,hF ds _ h,λσ H' β sb q=>?_,λσ H' β d v sb rr q=>?_,λ_ _ _ _ z=>z.elim,λ_ _ _ _ z=>z.elim⟩
  ·obtain⟨own,s',n'⟩:=sb;exact q _ H' (λb o e=>s'.kp.out b o e (λz=>z)) (cX (W:=λ_=>False) rfl rfl)
  ·obtain⟨own,s',n'⟩:=sb;exact q _ H' (λb o e=>s'.kp.out b o e (λz=>z)) rr
theorem o8 {N:List Str}{ok:List Int->Prop}{h:Addr}{ns:List Int}{vs:List V}{ds:List D}{H:Hp}{ro:Bool}(hh:H h=some (.lst (ns.map V.int)))(ho:ok ns)(r:ag P w (λa=>a=h) H ds vs):
  bG P w ⟨H,(·=h),ro,λ_=>False⟩ (start N (.ref h::vs)) H (fB N ok ds) (λi=>if i=0 then [h] else []):=by
 have uP:∀{i:Nat} {a:Addr},a∈(if i=0 then [h] else ([]:List Addr))->i=0/\a=h:=λ{i a} q=>by
  by_cases e:i=0
  ·rw[if_pos e]at q;exact⟨e,by simpa using q⟩
  ·rw[if_neg e]at q;cases q
 have vm:∀{i:Nat} {b:B},(fB N ok ds)[i]?=some (some b)->(i=0/\b=.hand ok)\/∃j d,i=j+1/\ds[j]?=some d/\b=.val false d:=λ{i b} q=>by
  unfold fB at q;cases i with
  |zero=>simp at q;exact .inl ⟨rfl,q.symm⟩
  |succ i =>
   rw[List.getElem?_cons_succ]at q;obtain⟨d,e,e'⟩:=cT q;exact .inr ⟨i,d,rfl,e,e'⟩
 refine⟨?_,λi y d q=>?_,λi d q=>?_,λi qo q=>?_,λi a q=>?_,λi j a h1 h2=>?_,λi=>?_,Kp.refl,λ_ z=>z,λi y d q=>(vm q).elim (λsy=>by obtain⟨_,e⟩:=sy;cases e) (λvc=>by obtain⟨j,d',_,_,e'⟩:=vc;cases e')⟩
 ·unfold fB start;simp[r.length]
 ·rcases vm q with⟨_,e⟩|⟨j,d',rfl,e,e'⟩
  ·cases e
  ·cases e';obtain⟨v,e1,e2⟩:=ag.get r e;exact⟨v,fA (by simpa using e1),ak.aJ (λa z=>z.elim (λyu=>by obtain⟨j,q⟩:=yu;exact(uP q).2) λz=>z.elim) e2⟩
 ·rcases vm q with⟨_,e⟩|⟨j,d',_,_,e'⟩
  ·cases e
  ·cases e'
 ·rcases vm q with⟨e0,e⟩|⟨j,d',_,_,e'⟩
  ·cases e;subst e0;exact⟨h,ns,fA rfl,hh,ho,rfl,.inr rfl⟩
  ·cases e'
 ·obtain⟨_,rfl⟩:=uP q;exact⟨by rw[hh];exact λz=>(nomatch z),λxs z=>(by rw[hh]at z;cases z),.inr rfl,λz=>z⟩
 ·rw[(uP h1).1,(uP h2).1]
 ·by_cases e:i=0
  ·simp[e]
  ·simp[e]
theorem xM {x qual:Str}{st:Stmt}{f:Addr}{fd:JJ}{N ps:List Str}{k:Nat}{F:FD}{ok:List Int->Prop}{ro:Bool}(G:t7 K x qual st f fd)(S:aH N ps (ao st))(len:∀ds R,F ds R->ds.length+1=ps.length)
  (h_:∀(cg:IS) (A:JQ) (outer:List Env) (s:IT) (H:Hp) (E:XK) (IO:Addr->Prop),bF k (A.deeper (LP qual (ao st) s.heap.objs.size f cg)) ->
   ∃ψ,qk (iM ck P w K mg base N qual (ao st) f cg A outer s H E).vZ ⟨H,IO,ro,λ_=>False⟩ (cL st) ψ/\∀ds R,F ds R->ψ (eH ok R) (fB N ok ds)) :
  aN P w K mg base ck (k+1) f fd ps (gh P w ok ro F):=by
 refine G.ok S (λvs H Q E h=>?_) (λcg A outer s H vs Q E hr h=>?_)
 ·obtain⟨h,vs',ds,ns,rfl,hh,ho,r,q⟩:=h;rw[Jo,r.length];exact len ds _ q
 ·obtain⟨h,vs',ds,ns,rfl,hh,ho,r,q⟩:=h;obtain⟨ψ,hb,hF⟩:=h_ cg A outer s H E (·=h) hr;refine⟨_,hb.ps,(H,_),_,fB N ok ds,⟨_,o8 hh ho r,Sn.refl⟩,hF ds _ q,λσ H' β sb z=>z.elim,λσ H' β d v sb rr sx=>?_,λ_ _ _ _ z=>z.elim,λ_ _ _ _ z=>z.elim⟩;obtain⟨b0,q⟩:=sx;obtain⟨own,s',n'⟩:=sb;obtain⟨a,j6,g1,g2,g3,g4,g5⟩:=s'.md 0 ok b0;have ea:a=h:=g5.elim (λz=>(z h rfl).elim) λz=>z;subst ea;exact q v H' j6 s'.kp s'.iu g2 g3 rr
end
end L2.Q
namespace L2
open PySem PySem.Spec PySem.SeqAt PyProof.Rows
theorem l4.pre {X:Cx}{ifs:List Expr}{t t':TT}(h:l4 X ifs t)(k:∀σ H Q,t' σ H Q->t σ H Q):l4 X ifs t':=λpins s σ H Q I q=>h pins s σ H Q I (k σ H Q q)
theorem lI {T:D->Prop}:∀{outs:List D},(∀d∈outs,T d/\d.flat=true)->D.bJ outs=true
 |[],_=>rfl
 |d::ds,h=>by
  rw[D.bJ,(h d (by simp)).2,lI λd' hd=>h d' (by simp[hd])]
  rfl
section
end
section
end
section
variable {X:Cx}{e:Expr}{g:LJ}{gs:List LJ}{scope:K2}{N':List Str}{lk:List (Option Nat)}{tg:Addr->TG}{tt:Addr->TT}{wi:TI}
theorem gg {bQ:Sem IS}{o:Addr->HO}{after:IS->Env->Sem Fin->Sem Fin}{ta:Addr->nz}(L:Links X scope N' lk)(hc:X.calm=true)(hA:∀(pins:List (Addr×Obj)) (s:IT) (σ:St) (H:Hp) (Q:IS->IT->Prop) (E:IS->IT->Prop),Inv X pins σ H s->(∀a s',s.heap.objs.size<=a->H a=none->(∀b o,s.heap.get? b=some o->s'.heap.get? b=some o)->Inv X pins σ (upd H a (o a)) s'->Q (.ref a) s')->Js (model X.prog X.w) X.A bQ Q E s)
  (F:∀acc env,iy e 0 g acc env (after acc env))
  (yG:∀a cl C s H ex,PG (aA X scope N' cl C s H ex) g.target (tg a)/\l4 (aA X scope N' cl C s H ex) g.ifs (tt a)/\nC (aA X scope N' cl C s H ex) (after (.ref a) (aA X scope N' cl C s H ex).env) (ta a))
  {cl:List (Str×Addr)} (lE:∀x,(x,JE)∈scope.names->∃c,cl.lookup x=some c) (j7:∀x c,cl.lookup x=some c->X.env.cells.lookup x=some c)
  {pins:List (Addr×Obj)} {σ:St} {s:IT} {Q:V->Hp->Prop} {yi:IS} {E:IS->IT->Prop} {RR:IS->Addr->Result->IT->Prop}
  (h:Fm X pins σ g.target (λJ H1=>∀a,H1 a=none->gJ J (tg a) (tt a) (ta a) (λ_ H'=>Q (.ref a) H') (dC lk σ) (upd H1 a (o a))) yi s)
  (hR:∀a H' C s',Inv X pins σ H' s'->eL X pins H' C->(∃m,s'.heap.Ns C m)->Q (.ref a) H'->RR (.ref a) C (.ok .next) s') :
  Js (model X.prog X.w) X.A bQ (λacc s₃=>Js (model X.prog X.w) X.A (newFunctionEnv scope X.env.globals cl [] X.env.qual none .none (some X.env)) (λBB s₄ =>
   L6 (model X.prog X.w) X.A (.compStart e 0 yi acc {BB with scope:=relabel scope X.env}) (RR acc BB.locals) s₄) E s₃) E s:=by
 obtain⟨it,fp,tn,J,H2,e1,I2,T,dk,f2,hl⟩:=h;subst e1;refine hA pins s σ H2 _ E I2 λa s3 ha hn hk I3=>?_;refine wpAny_newFunctionEnv L.mP (by intro y hy;simp at hy) (λh₁ yE yt=>?_) L.kind
 have Eu:∀b∈fp,∃o,s3.heap.get? b=some o:=λb hb=>by
  obtain⟨ob,q,_⟩:=T.obj _ _ dk b hb;exact⟨ob,hk b ob q⟩
 have HJ:∀b∈fp,b≠a:=λb hb=>by
  obtain⟨ob,q,_⟩:=T.obj _ _ dk b hb;exact JB (Jw (Jf q) ha)
 have f3:∀b∈fp,eL X pins (upd H2 a (o a)) b:=λb hb=>⟨by rw[ay (HJ b hb)];exact(f2 b hb).1,(f2 b hb).2⟩
 have Bb:∀b ob,s3.heap.get? b=some ob->h₁.get? b=some ob:=λb ob q=>yt.extBut b ob (JB (Jf q)) (Jb _ q);have B_:h₁.Ns s3.heap.objs.size (λ_=>none):=yE;have I4:=su (t':=s3.toks+([]:List (Str×IS)).length) I3 L f3 Eu lE j7 B_ Bb;obtain⟨g1,g2,g3⟩:=yG a cl s3.heap.objs.size s3 (upd H2 a (o a)) fp;have f4:∀b∈fp,eL (aA X scope N' cl s3.heap.objs.size s3 (upd H2 a (o a)) fp) [] (upd H2 a (o a)) b:=λb hb =>
  ⟨(f3 b hb).1,(I4.ok.Ce b hb).1,I4.ok.sX b hb,.inl hb,(I4.ok.Ce b hb).2,λp hp=>absurd (show p∈([]:List (Addr×Obj)) from hp) (by simp)⟩
 have zS:tn 0 h₁:=T.keep 0 _ _ dk λb hb ob q=>Bb b ob (hk b ob q);refine Md (nu (X:=aA X scope N' cl s3.heap.objs.size s3 (upd H2 a (o a)) fp) rfl hc (F (.ref a) _) g1 g2 g3 T I4 zS f4 (hl a hn)) λr s' hr=>?_;obtain⟨rfl,σ',H',J',q⟩:=hr;have I5:Inv X pins σ H' s':=sv (C:=s3.heap.objs.size) (h'':=s'.heap) I3 f3 J' (.refl ..);refine hR a H' s3.heap.objs.size s' I5 (I3.yL (IZ _) J'.free) ?_ q;obtain⟨m,hm,_⟩:=J'.loc;exact⟨m,hm⟩
theorem rA {bQ:Sem IS}{o:Addr->HO}{after:IS->Env->Sem Fin->Sem Fin}{ta:Addr->nz}{pos:Pos}(L:Links X scope N' lk)(hc:X.calm=true)(hA:∀(pins:List (Addr×Obj)) (s:IT) (σ:St) (H:Hp) (Q:IS->IT->Prop) (E:IS->IT->Prop),Inv X pins σ H s->(∀a s',s.heap.objs.size<=a->H a=none->(∀b o,s.heap.get? b=some o->s'.heap.get? b=some o)->Inv X pins σ (upd H a (o a)) s'->Q (.ref a) s')->Js (model X.prog X.w) X.A bQ Q E s)
  (vh:eval e X.env=comprehension e scope X.env pos bQ false (eval g.iter X.env)) (Bi:clausesOf e=g::gs)
  (F:∀acc env,iy e 0 g acc env (after acc env)) (hi:PI X g.target g.iter wi)
  (yG:∀a cl C s H ex,PG (aA X scope N' cl C s H ex) g.target (tg a)/\l4 (aA X scope N' cl C s H ex) g.ifs (tt a)/\nC (aA X scope N' cl C s H ex) (after (.ref a) (aA X scope N' cl C s H ex).env) (ta a))
  (hs:∀x,JY g.iter X.env x=pure x) :
  PE X e (λσ H Q=>wi σ H λJ H1=>∀a,H1 a=none->gJ J (tg a) (tt a) (ta a) (λ_ H'=>Q (.ref a) H') (dC lk σ) (upd H1 a (o a))):=by
 intro pins s σ H Q I h;rw[vh];obtain⟨cl,sI,lE,j7⟩:=ed (env:=X.env) (scope:=scope) λx hx=>I.ok.has x (L.free x hx);refine wpAny_comprehension_free (use:=none) Bi hs sI L.kind L.names (aZ (hi pins s σ H _ I h) λv s1 h1=>aZ h1 λyi s2 h2=>?_);refine gg (RR:=λacc C=>compPost (model X.prog X.w) X.A X.xe none (EP X pins σ Q) acc C) L hc hA F yG lE j7 h2 λa H' C s' I' f sx q=>?_;obtain⟨m,hm⟩:=sx;exact⟨m,hm,λh' pV=>⟨.ref a,H',I'.sameBut f pV,rfl,q⟩⟩
theorem kP {bQ:Sem IS}{o:HO}{after:IS->Env->Sem Fin->Sem Fin}{ta:Addr->nz}{pos:Pos}(L:Links X scope N' lk)(hc:X.calm=true)(hA:nD X bQ o)
  (vh:eval e X.env=comprehension e scope X.env pos bQ false (eval g.iter X.env)) (Bi:clausesOf e=g::gs)
  (F:∀acc env,iy e 0 g acc env (after acc env)) (hi:PI X g.target g.iter wi)
  (yG:∀a cl C s H ex,PG (aA X scope N' cl C s H ex) g.target (tg a)/\l4 (aA X scope N' cl C s H ex) g.ifs (tt a)/\nC (aA X scope N' cl C s H ex) (after (.ref a) (aA X scope N' cl C s H ex).env) (ta a))
  (hs:∀x,JY g.iter X.env x=pure x) :
  PE X e (λσ H Q=>wi σ H λJ H1=>∀a,H1 a=none->gJ J (tg a) (tt a) (ta a) (λ_ H'=>Q (.ref a) H') (dC lk σ) (upd H1 a o)):=rA (o:=λ_=>o) L hc hA.ok vh Bi F hi yG hs
theorem q8 {bQ:Sem IS}{o:HO}{after:IS->Env->Sem Fin->Sem Fin}{ta:Addr->nz}{pos pos' kq:Pos}{y:Str}{i:Nat}(L:Links X scope N' lk)(hc:X.calm=true)(hA:nD X bQ o)
  (vb:Kw e (some (.Name y pos')) kq.line X.env=pure true)
  (vh:evalThenUse e X.env (assign (.Name y pos') X.env)=(do let _ <- comprehension e scope X.env pos bQ false (eval g.iter X.env) (some (assign (.Name y pos') X.env));pure ())) (Bi:clausesOf e=g::gs)
  (hN:X.N.Nodup) (hy:X.N[i]?=some y) (hx:Loc X.env.scope y) (hf:X.fn y=true\/X.env.scope.names.lookup y=some .local)
  (F:∀acc env,iy e 0 g acc env (after acc env)) (hi:PI X g.target g.iter wi)
  (yG:∀a cl C s H ex,PG (aA X scope N' cl C s H ex) g.target (tg a)/\l4 (aA X scope N' cl C s H ex) g.ifs (tt a)/\nC (aA X scope N' cl C s H ex) (after (.ref a) (aA X scope N' cl C s H ex).env) (ta a))
  (hs:∀x,JY g.iter X.env x=pure x) :
  PS X (.Assign [.Name y pos'] e kq) (λD σ H=>wi σ H λJ H1=>∀a,H1 a=none->gJ J (tg a) (tt a) (ta a) (λ_ H'=>D.nx (σ.set i (some (.ref a))) H') (dC lk σ) (upd H1 a o)):=by
 intro pins s σ H D I h;rw[exec_Assign_Name_used _ _ _ _ vb,vh];refine IU (K_ (IU (IU ?_)));obtain⟨cl,sI,lE,j7⟩:=ed (env:=X.env) (scope:=scope) λx hx=>I.ok.has x (L.free x hx);refine aZ (wpAny_comprehension_free (use:=some (assign (.Name y pos') X.env)) (Q:=λ_ s'=>SP X pins D .next s') Bi hs sI L.kind L.names (aZ (hi pins s σ H _ I h) λv s1 h1=>aZ h1 λyi s2 h2=>?_)) λ_ s' q=>Jc (Jc q)
 refine gg (o:=λ_=>o) (Q:=λv H'=>D.nx (σ.set i (some v)) H') (RR:=λacc C=>compPost (model X.prog X.w) X.A X.xe (some (assign (.Name y pos') X.env)) (λ_ s'=>SP X pins D .next s') acc C) L hc hA.ok F yG lE j7 h2 λa H' C s' I' f m5 q=>?_
 obtain⟨m,hm⟩:=m5;show Js _ _ (assign (.Name y pos') X.env (.ref a)) _ _ s';have IL:∃o,s'.heap.get? C=some o:=by obtain⟨o,_,_,ho,_⟩:=hm;exact⟨o,ho⟩
 refine wpAny_assign_Name (iU I' hN hy hx (v:=.ref a) (u:=.ref a) rfl (λs4 I4 k4=>?_) hf);obtain⟨a4,GL,HL⟩:=k4;have A9:C≠a4:=by
  rcases HL with z|z
  ·rw[z];exact f.2.1
  ·exact(f.2.2.2.2.1 y a4 z).symm
 exact⟨m,hm.at' (λo e=>(GL.2 C A9).trans e),λh' pV=>⟨_,H',I4.sameBut f pV,q⟩⟩
end
end L2
namespace L2.Q
open PySem PySem.Spec PySem.SeqAt PyProof.Rows
noncomputable def FU:Option B->Option B
 |some (.own d)=>some (.val false d)
 |some (.shl _ d)=>some (.val false d)
 |b=>b
def dD (lk:List (Option Nat))(β:bo):bo:=lk.map λl=>match l with|some j=>(match β[j]? with|some b=>FU b|none=>none)|none=>none
def B7:Option (Option B)->Bool
 |some (some (.hand _))=>true
 |_=>false
def bb (lk:List (Option Nat))(β:bo)(own:Nat->List Addr)(i:Nat):List Addr:=match lk[i]? with
 |some (some j)=>if B7 β[j]?=true then own j else []
 |_=>[]
def d9:bo->bo->Prop
 |[],_=>True
 |some (.hand ok)::a,c=>c.head?=some (some (.hand ok))/\d9 a c.tail
 |_::a,c=>d9 a c.tail
theorem d9.get:∀{a c:bo} {i:Nat} {ok:List Int->Prop},d9 a c->a[i]?=some (some (.hand ok))->c[i]?=some (some (.hand ok))
 |[],_,_,_,_,e=>by simp at e
 |x::a,c,0,ok,h,e=>by
  simp at e;subst e;rw[<- List.head?_eq_getElem?];exact h.1
 |x::a,c,i+1,ok,h,e=>by
  have h':d9 a c.tail:=by
   cases x with
   |none=>exact h
   |some x=>cases x <;> first|exact h|exact h.2
  have:=d9.get (i:=i) h' (by simpa using e)
  rwa [List.getElem?_tail]at this
section
variable {P:IY}{w:Je}{C:Cfg}{σ σ':St}{H H' H1:Hp}{β βi:bo}{own fb:Nat->List Addr}{lk:List (Option Nat)}{a:Addr}
theorem a9 {i:Nat}{c:Addr}(h:c∈bb lk β own i):∃j,lk[i]?=some (some j)/\B7 β[j]?=true/\c∈own j:=by
 unfold bb at h
 split at h
 ·next j e =>
  by_cases q:B7 β[j]?=true
  ·rw[if_pos q]at h;exact⟨j,e,q,h⟩
  ·rw[if_neg q]at h;cases h
 ·cases h
theorem aW:∀c,Wn (bb lk β own) c->Wn own c:=λc ⟨i,h⟩=>let ⟨j,_,_,h⟩:=a9 h;⟨j,h⟩
theorem dB {i j:Nat}{v:V}(h:lk[i]?=some (some j))(e:σ[j]?=some (some v)):(dC lk σ)[i]?=some (some v):=by
 unfold dC;rw[Jt,h];simp only[LW];rw[e]
theorem d3 {i:Nat}{b:B}(h:(dD lk β)[i]?=some (some b)):∃j b',lk[i]?=some (some j)/\β[j]?=some (some b')/\FU (some b')=some b:=by
 unfold dD at h;rw[Jt]at h;cases q:lk[i]? with
 |none=>rw[q]at h;cases h
 |some l =>
  rw[q]at h;cases l with
  |none=>cases h
  |some j =>
   simp only[LW]at h;cases q2:β[j]? with
   |none=>rw[q2]at h;cases h
   |some b2 =>
    rw[q2]at h;simp only[Mk]at h;cases b2 with
    |none=>cases h
    |some b'=>exact⟨j,b',rfl,q2,h⟩
theorem bG.enter (s:bG P w C σ H β own)(ha:H a=none)(inj:∀(i i' j:Nat),lk[i]?=some (some j)->lk[i']?=some (some j)->i=i'):
  bG P w (C.u λc=>c=a) (dC lk σ) (upd H a (.lst [])) (dD lk β) (bb lk β own):=by
 have sm:ax H (upd H a (.lst [])):=ax.new ha;have na:∀{i c},c∈own i->c≠a:=λ{i c} hc z=>(s.dm i c hc).1 (by rw[z];exact ha)
 have gr:∀k,∀c,gq (C.u λc=>c=a) (Wn (bb lk β own)) k c->gq C (Wn own) k c\/H c=none:=λk c z=>by
  rcases z with z|z
  ·exact .inl (.inl (j3 aW k c z))
  ·exact .inr (by rw[z];exact ha)
 refine⟨by unfold dD dC;simp,λi y d e=>?_,λi d e=>?_,λi ok e=>?_,λi c h=>?_,λi i' c h1 h2=>?_,λi=>?_,s.kp.trans sm.kp,λc z e=>s.iu c z (sm.free e),λi y d e=>by
  obtain⟨j,b',e1,e2,e3⟩:=d3 e;cases b' <;> cases e3⟩
 ·obtain⟨j,b',e1,e2,e3⟩:=d3 e;cases b' with
  |val y' d' =>
   cases e3;obtain⟨v,h1,h2⟩:=s.val j y d e2;exact⟨v,dB e1 h1,(ak.grow (gr _) h2).same sm⟩
  |own d' =>
   cases e3;obtain⟨v,h1,h2,h3⟩:=s.ow j d e2;refine⟨v,dB e1 h1,ak.same sm (h2.rep λc hc z=>?_)⟩;rcases z with z|z
   ·obtain⟨i',gk⟩:=z;obtain⟨j',q1,q2,q3⟩:=a9 gk;have:=s.iA j j' c hc q3;subst this;rw[e2]at q2;cases q2
   ·exact na hc z
  |hand ok=>cases e3
  |shl y' d' =>
   cases e3;obtain⟨v,h1,h2,h3⟩:=s.shl j y' d e2;refine⟨v,dB e1 h1,ak.same sm (h2.rep (λc hc z=>?_) λds vs r=>ag.grow (λc z=>?_) r)⟩
   ·rcases z with z|z
    ·obtain⟨i',gk⟩:=z;obtain⟨j',q1,q2,q3⟩:=a9 gk;have:=s.iA j j' c hc q3;subst this;rw[e2]at q2;cases q2
    ·exact na hc z
   ·rcases gr _ c z with z|z
    ·refine .inl ?_;rcases z with z|z
     ·exact .inl (.inl z)
     ·exact .inr z
    ·exact .inr z
 ·obtain⟨j,b',e1,e2,e3⟩:=d3 e;cases b' <;> cases e3
 ·obtain⟨j,b',e1,e2,e3⟩:=d3 e;cases b' with
  |val y' d'=>cases e3
  |own d'=>cases e3
  |shl y d=>cases e3
  |hand qo =>
   cases e3;obtain⟨h,ns,h1,h2,h3,h4,h5⟩:=s.md j ok e2;refine⟨h,ns,dB e1 h1,sm _ _ h2,h3,?_,h5⟩;unfold bb;rw[e1];simp only;rw[e2];exact(if_pos rfl).trans h4
 ·obtain⟨j,q1,q2,q3⟩:=a9 h;obtain⟨g1,g2,g3,g4⟩:=s.dm j c q3;rw[ay (na q3)];exact⟨g1,g2,g3,na q3⟩
 ·obtain⟨j,q1,q2,q3⟩:=a9 h1;obtain⟨j',FE,Iv,GY⟩:=a9 h2;have:=s.iA j j' c q3 GY;subst this;exact inj _ _ _ q1 FE
 ·unfold bb
  split
  ·next j e =>
   split
   ·exact s.k0 j
   ·exact J0
  ·exact J0
theorem bG.CK {o:HO}(s:bG P w (C.u λc=>c=a) σ H β own){oa:HO}(ha:H a=some oa)(ht:∀xs,oa≠.tup xs)(h0:C.H0 a=none):bG P w (C.u λc=>c=a) σ (upd H a o) β own:=by
 have k:Kp (·=a) H (upd H a o):=jQ ha ht;have na:∀{i c},c∈own i->c≠a:=λ{i c} hc=>(s.dm i c hc).2.2.2;refine⟨s.len,λi y d e=>let ⟨v,h1,h2⟩:=s.val i y d e;⟨v,h1,h2.keep (k.mono λc z=>.inr z)⟩,λi d e=>let ⟨v,h1,h2,h3⟩:=s.ow i d e;⟨v,h1,h2.keep k.tup (λc hc oc ec=>k.out c oc ec (na hc)),h3⟩,
  λi ok e=>?_,λi c h=>?_,s.iA,s.k0,⟨λc oc z n=>k.out c oc (s.kp.out c oc z n) λq=>?_,λc xs z=>k.tup c xs (s.kp.tup c xs z)⟩,λc z=>?_,λi y d e=>let ⟨v,h1,h2,h3⟩:=s.shl i y d e;⟨v,h1,h2.map (λc hc oc ec=>k.out c oc ec (na hc)) (λ_ _ r=>r.keep (k.mono λc z=>.inr z)),h3⟩⟩
 ·obtain⟨h,ns,h1,h2,h3,h4,h5⟩:=s.md i ok e;exact⟨h,ns,h1,k.out h _ h2 (na (by rw[h4];simp)),h3,h4,h5⟩
 ·rw[ay (na h)];exact s.dm i c h
 ·rw[q,h0]at z;cases z
 ·by_cases q:c=a
  ·rw[q,az];exact λz=>(nomatch z)
  ·rw[ay q];exact s.iu c z
theorem bG.leave (s:bG P w C σ H1 β own)(i:bG P w (C.u λc=>c=a) σ' H' βi fb)(n:Sn (H1,Wn (bb lk β own)) H' (Wn fb))(le:∀c,Wn fb c->Wn (bb lk β own) c)
  (hh:d9 (dD lk β) βi) (hσ:∀(j:Nat) (ok:List Int->Prop) (i:Nat),β[j]?=some (some (B.hand ok))->lk[i]?=some (some j)->σ'[i]?=(dC lk σ)[i]?):bG P w C σ H' β own:=by
 have off:∀{j c},c∈own j->¬ Wn (bb lk β own) c->∀o,H1 c=some o->H' c=some o:=λ{j c} hc nw o e=>n.k.out c o e λz=>z.elim nw λz=>(s.dm j c hc).1 z;have AO:∀{j c},c∈own j->B7 β[j]?=false->¬ Wn (bb lk β own) c:=λ{j c} hc q sA=>by
  obtain⟨i',gk⟩:=sA;obtain⟨j',q1,q2,q3⟩:=a9 gk;have:=s.iA j j' c hc q3;subst this;rw[q]at q2;cases q2
 have hN:∀(j:Nat) (ok:List Int->Prop),β[j]?=some (some (B.hand ok))->∃a ns,σ[j]?=some (some (V.ref a))/\H' a=some (.lst (ns.map V.int))/\ok ns/\own j=[a]/\((∀b,¬ C.IO b)\/C.IO a):=λj ok e=>by
  obtain⟨h,ns,h1,h2,h3,h4,h5⟩:=s.md j ok e
  by_cases q:Wn (bb lk β own) h
  ·obtain⟨i',gk⟩:=q;obtain⟨j',q1,q2,q3⟩:=a9 gk;have:=s.iA j j' h (by rw[h4];simp) q3
   subst this;have eB:(dD lk β)[i']?=some (some (.hand ok)):=by
    unfold dD;rw[Jt,q1];simp only[LW];rw[e];rfl
   obtain⟨h',j6,g1,g2,g3,g4,g5⟩:=i.md i' ok (hh.get eB);rw[hσ j ok i' e q1,dB q1 h1]at g1;cases g1;exact⟨h,j6,h1,g2,g3,h4,h5⟩
  ·exact⟨h,ns,h1,off (by rw[h4];simp) q _ h2,h3,h4,h5⟩
 refine⟨s.len,λj y d e=>?_,λj d e=>?_,hN,λj c hc=>?_,s.iA,s.k0,i.kp,i.iu,λj y d e=>by
  obtain⟨v,h1,h2,h3⟩:=s.shl j y d e;refine⟨v,h1,h2.map (λc hc o eo=>off hc (AO hc (by rw[e];rfl)) o eo) (λds vs r=>?_),h3⟩
  have g:ag P w (λc=>gq C (Wn own) (yk true) c\/H1 c=none) H1 ds vs:=ag.grow (λc z=>z) r;refine ag.aJ (λc z=>.inl z) (g.keep (n.k.mono λc z=>z.imp (λz=>?_) id));exact .inl (.inl (aW c z))⟩
 ·obtain⟨v,h1,h2⟩:=s.val j y d e;have g:ak P w (λc=>gq C (Wn own) (yk y) c\/H1 c=none) H1 d v:=ak.grow (λc z=>z) h2;refine⟨v,h1,ak.aJ (λc z=>.inl z) (g.keep (n.k.mono λc z=>z.imp (λz=>?_) id))⟩;cases y with
  |true=>exact .inl (.inl (aW c z))
  |false=>exact .inl (aW c z)
 ·obtain⟨v,h1,h2,h3⟩:=s.ow j d e;exact⟨v,h1,h2.keep n.k.tup (λc hc o eo=>off hc (AO hc (by rw[e];rfl)) o eo),h3⟩
 ·obtain⟨g1,g2,g3,g4⟩:=s.dm j c hc
  by_cases q:Wn (bb lk β own) c
  ·obtain⟨i',gk⟩:=q;obtain⟨j',q1,q2,q3⟩:=a9 gk;have:=s.iA j j' c hc q3;subst this;cases e:β[j]? with
   |none=>rw[e]at q2;cases q2
   |some b =>
    rw[e]at q2;cases b with
    |none=>cases q2
    |some b =>
     cases b with
     |val y d=>cases q2
     |own d=>cases q2
     |shl y d=>cases q2
     |hand ok =>
      obtain⟨h,ns,k1,k2,k3,k4,k5⟩:=hN j ok e;rw[k4]at hc;rw[Jk.mp hc]at g3 g4 ⊢
      rw[k2];exact⟨λz=>(nomatch z),λxs z=>(by cases z),g3,g4⟩
  ·cases e:H1 c with
   |none=>exact absurd e g1
   |some o=>rw[off hc q o e];exact⟨λz=>(nomatch z),λxs z=>g2 xs (by rw[e];exact z),g3,g4⟩
end
def zK:aX:=λβ R=>R true β
theorem rd {X:Cx}{C:Cfg}:l4 X [] (iT X C true zK):=uz.pre λσ H Q ⟨β,own,s,q⟩=>q H own (Out.refl s _)
theorem q_ {X:Cx}{C:Cfg}{p:Bool}{c:Expr}{τ:aX}(h:qj X C p c τ):l4 X [c] (iT X C p τ):=uy h.pt
def gb (γ:dJ)(τ:aX)(φ:aL)(ds:List D)(k:Kd)(β0:bo)(K:List D->Prop):Prop:=∃I:Nat->bo->List D->Prop,I 0 β0 [] /\
 (∀i d β o,ds[i]?=some d->I i β o->γ d (sk k d) β λβ1=>τ β1 λt β2=>if t=true then φ β2 λx kx β3=>wj kx x/\o.length<Jg/\I (i+1) β3 (o++[x]) else I (i+1) β2 o)/\∀β o,I ds.length β o->d9 β0 β/\K o
theorem gb.mono {γ:dJ}{τ:aX}{φ:aL}{ds:List D}{k:Kd}{β0:bo}{K K':List D->Prop}(h:∀o,K o->K' o)(q:gb γ τ φ ds k β0 K):gb γ τ φ ds k β0 K':=let ⟨I,h0,h1,h2⟩:=q;⟨I,h0,h1,λβ o z=>⟨(h2 β o z).1,h _ (h2 β o z).2⟩⟩
section
variable {X:Cx}{C:Cfg}{lk:List (Option Nat)}{γ:dJ}{τ:aX}{φ:aL}{T:List Nat}{pc pe:Bool}
theorem fT {σ:St}{H1:Hp}{β:bo}{own:Nat->List Addr}{a:Addr}{J:It}{ds:List D}{k:Kd}{K:List D->Prop}{End:Hp->Prop}
  (γm:∀d k β R R',(∀r,R r->R' r)->γ d k β R->γ d k β R') (τm:∀β R R',(∀d β,R d β->R' d β)->τ β R->τ β R') (φm:∀β R R',(∀d k β,R d k β->R' d k β)->φ β R->φ β R')
  (inj:∀(i i' j:Nat),lk[i]?=some (some j)->lk[i']?=some (some j)->i=i') (hT:∀i∈T,∀j,lk[i]?≠some (some j))
  (s1:SQ X C σ H1 β own) (ha:H1 a=none) {hp:Bool} (F0:hp=true->(pc&&pe)=true) (hk:hold k hp) (it:BM X (av C (Wn own) k) J ds H1) (q:gb γ τ φ ds k (dD lk β) K)
  (fin:∀o H',K o->Out X C σ H1 own (pc&&pe) β H' own->KV X.prog X.w C (H1,Wn own) own H' .own (.lst o) (.ref a)->End H') :
  gJ J (λv σ H Q=>∃own β d k,SQ X (C.u λc=>c=a) σ H β own/\Rp X (gq (C.u λc=>c=a) (Wn own) k) H d v/\γ d k β λβ'=>∀σ' aE,SQ X (C.u λc=>c=a) σ' H β' aE->(∀a,Wn aE a->Wn own a)->(∀j,j∉T->σ'[j]?=σ[j]?)->Q σ' H)
   (iT X (C.u λc=>c=a) pc τ) (λN σ H=>tQ X (C.u λc=>c=a) pe φ σ H λv H1=>∃xs,H1 a=some (.lst xs)/\xs.length<Jg/\N σ (upd H1 a (.lst (xs++[v]))))
   (λ_ H'=>End H') (dC lk σ) (upd H1 a (.lst [])):=by
 obtain⟨I,i0,i1,i2⟩:=q;have h0:C.H0 a=none:=JR λz=>s1.iu a z ha;have sm:ax H1 (upd H1 a (.lst [])):=ax.new ha;have FR:∀c,Wn (bb lk β own) c->c≠a:=λc z e=>by
  obtain⟨j,hj⟩:=aW c z;exact(s1.dm j c hj).1 (by rw[e];exact ha)
 let S:Nat->St->Hp->Prop:=λi σ' H'=>∃βi fb vs o A,SQ X (C.u λc=>c=a) σ' H' βi fb/\Sn (H1,Wn (bb lk β own)) H' (Wn fb)/\(∀c,Wn fb c->Wn (bb lk β own) c)/\H' a=some (.lst vs)/\aD X.prog X.w H' o vs A/\A.Nodup/\(∀c∈A,H1 c=none/\c≠a) /\
  ((pc&&pe)=true->ax H1 H')/\(∀j,j∉T->σ'[j]?=(dC lk σ)[j]?)/\I i βi o
 have W':Addr->Prop:=λb=>av C (Wn own) k b\/H1 b=none;have zm:=it (λb=>av C (Wn own) k b\/H1 b=none) λb z=>z;have kI:∀{H':Hp} {fb:Nat->List Addr},Sn (H1,Wn (bb lk β own)) H' (Wn fb)->((pc&&pe)=true->ax H1 H')->Kp (λb=>av C (Wn own) k b\/H1 b=none) H1 H':=λn pu=>by
  cases k with
  |own=>exact n.k.mono λb z=>z.imp (λz=>.inl (aW b z)) id
  |di=>exact n.k.mono λb z=>z.imp (λz=>.inl (aW b z)) id
  |old=>exact n.k.mono λb z=>z.imp (aW b) id
  |bor =>
   cases hp with
   |false=>exact hk.elim
   |true=>exact(pu (F0 rfl)).kp.mono λb z=>.inr z
 refine⟨λi m σ' H'=>i<=ds.length/\m=ds.length-i/\S i σ' H',⟨_,Jp _,rfl,dD lk β,bb lk β own,[],[],[],s1.enter ha inj,⟨λb z=>.inl z,sm.kp,λb z e=>z (sm.free e)⟩,λ_ z=>z,az,⟨rfl,rfl⟩,J0,λc hc=>(nomatch hc),λ_=>sm,λ_ _=>rfl,i0⟩,?_⟩;rintro i m σ2 H2 ⟨hi,rfl,βi,fb,vs,o,A,sq,sn,le,EU,os,nd,nw,pu,st,hl⟩;obtain⟨cR,AG⟩:=zm i H2 (kI sn pu)
 by_cases h8:i<ds.length
 ·right
  have hd:ds[i]?=some ds[i]:=I_ h8;obtain⟨go,yl⟩:=cR _ hd;refine⟨go,λσ' H'=>S (i+1) σ' H',λσ' H' h=>⟨_,by omega,h8,rfl,h⟩,λx H3 y=>?_⟩
  obtain⟨s3,r3⟩:=yl x H3 y;have HZ:∀{fb:Nat->List Addr},(∀c,Wn fb c->Wn (bb lk β own) c)->∀c,gq (C.u λc=>c=a) (Wn fb) k c->av C (Wn own) k c\/H1 c=none:=λle c z=>z.elim (λz=>.inl (j3 (λc z=>aW c (le c z)) k c z)) λz=>.inr (by rw[z];exact ha)
  refine⟨fb,βi,_,_,sq.same s3,mH (ak.aJ (HZ le) r3),γm _ _ _ _ _ (λβ4 q σ4 pF s4 w4 t4=>?_) (i1 i _ βi o hd hl)⟩;have Ds:∀c,Wn pF c->Wn (bb lk β own) c:=λc z=>le c (w4 c z);refine⟨β4,pF,s4,τm _ _ _ (λt β5 q H5 kT o5=>?_) q⟩;have BZ:∀c,Wn kT c->Wn (bb lk β own) c:=λc z=>Ds c (o5.le c z);have si:∀c,c∈a::A->∀oc,H2 c=some oc->H5 c=some oc:=λc hc oc e=>by
   refine o5.sn.k.out c oc (s3 c oc e) λz=>?_;rcases z with z|z
   ·rcases Ja.mp hc with rfl|hc
    ·exact FR _ (Ds _ z) rfl
    ·obtain⟨j,hj⟩:=aW c (Ds c z);exact(s1.dm j c hj).1 (nw c hc).1
   ·exact absurd ((s3 c oc e).symm.trans z) (λz=>(nomatch z))
  have Ha:∀b xs,H2 b=some (.tup xs)->H5 b=some (.tup xs):=λb xs e=>o5.sn.k.tup b xs (s3 b _ e);have C_:aD X.prog X.w H5 o vs A:=os.keep Ha λc hc oc e=>si c (by simp[hc]) oc e
  have CI:Sn (H1,Wn (bb lk β own)) H5 (Wn kT):=(gu (sn.same s3) w4).trans o5.sn;have FF:(pc&&pe)=true->ax H1 H5:=λz=>((pu z).trans s3).trans (o5.pu (vJ z)).1;have zS:∀j,j∉T->σ4[j]?=(dC lk σ)[j]?:=λj hj=>(t4 j hj).trans (st j hj);cases t with
  |false=>exact⟨β5,kT,vs,o,A,o5.sq,CI,BZ,si a (by simp) _ EU,C_,nd,nw,FF,zS,q⟩
  |true =>
   refine⟨β5,kT,o5.sq,φm _ _ _ (λxd kx β6 jR v H6 C8 o6 r6=>?_) q⟩;obtain⟨f,hz,q⟩:=jR;obtain⟨B',r1,r2,CY⟩:=r6.fl f;have Bk:H5 a=some (.lst vs):=si a (by simp) _ EU
   have wd:∀c,c∈a::A->∀oc,H5 c=some oc->H6 c=some oc:=λc hc oc e=>by
    refine o6.sn.k.out c oc e λz=>?_;rcases z with z|z
    ·rcases Ja.mp hc with rfl|hc
     ·exact FR _ (BZ _ z) rfl
     ·obtain⟨j,hj⟩:=aW c (BZ c z);exact(s1.dm j c hj).1 (nw c hc).1
    ·exact absurd (e.symm.trans z) (λz=>(nomatch z))
   have vj:H6 a=some (.lst vs):=wd a (by simp) _ Bk
   have FI:aD X.prog X.w H6 o vs A:=C_.keep o6.sn.k.tup λc hc oc e=>wd c (by simp[hc]) oc e
   have G2:∀c∈A,c≠a:=λc hc=>(nw c hc).2;have FO:∀c∈B',c≠a:=λc hc z=>by rw[z]at hc;exact absurd (Bk.symm.trans (CY a hc).1) (λz=>(nomatch z))
   have kt:∀b xs,H6 b=some (.tup xs)->upd H6 a (.lst (vs++[v])) b=some (.tup xs):=λb xs z=>by rw[ay (λz'=>by rw[z',vj]at z;cases z)];exact z
   refine⟨vs,vj,by rw[FI.length];exact hz,β6,C8,vs++[v],o++[xd],A++B',o6.sq.CK vj (λxs z=>by cases z) h0,?_,λc z=>BZ c (o6.le c z),az,?_,?_,λc hc=>?_,λz=>?_,zS,q⟩
   ·have m:=CI.trans o6.sn;refine⟨m.w,m.k.trans ((jQ vj (λxs z=>by cases z)).mono λb z=>.inr (by rw[z];exact ha)),λb z e=>?_⟩
    by_cases hb:b=a
    ·rw[hb,az]at e;cases e
    ·rw[ay hb]at e;exact m.d b z e
   ·exact(FI.keep kt λc hc oc e=>by rw[ay (G2 c hc)];exact e).append (aD.one (r1.keep kt λc hc oc e=>by rw[ay (FO c hc)];exact e))
   ·refine JT.mpr ⟨nd,r2,λx hx y hy e=>?_⟩;subst e;have:=(CY x hy).1;exact(C_.iL x hx).1 this
   ·rcases Jq.mp hc with hc|hc
    ·exact nw c hc
    ·exact⟨CI.free (CY c hc).1,FO c hc⟩
   ·refine λb ob e=>?_;rw[ay (λz'=>by rw[z',ha]at e;cases e)]
    exact(o6.pu (Fi z)).1 b ob (FF z b ob e)
 ·left
  have e:i=ds.length:=by omega
  subst e;obtain⟨hh,q⟩:=i2 βi o hl;have lv:SQ X C σ H2 β own:=s1.leave sq sn le hh λj ok i' e1 e2=>st i' λz=>hT i' z j e2;refine⟨AG (IZ _),fin o H2 q ⟨lv,⟨λb z=>.inl z,sn.k.mono λb z=>z.imp (aW b) id,sn.d⟩,λz=>⟨pu z,rfl⟩,λ_ z=>z⟩ ⟨a::A,⟨a,vs,A,rfl,EU,rfl,os⟩,JF.mpr ⟨λz=>(nw a z).2 rfl,nd⟩,λc hc=>?_⟩⟩;have lE:H1 c=none:=by
   rcases Ja.mp hc with rfl|hc
   ·exact ha
   ·exact(nw c hc).1
  exact⟨lE,λAS=>by obtain⟨j,hj⟩:=AS;exact(s1.dm j c hj).1 lE,JR λz=>s1.iu c z lE⟩
theorem fO {scope:K2}{N':List Str}(L:Links X scope N' lk)(hN:N'.Nodup):∀(i i' j:Nat),lk[i]?=some (some j)->lk[i']?=some (some j)->i=i':=λi i' j h1 h2=>by
 obtain⟨x,a1,a2,_⟩:=L.link i j h1;obtain⟨y,b1,b2,_⟩:=L.link i' j h2;rw[a2]at b2;cases b2;exact(List.getElem?_inj (Jd.mp a1).1 hN).mp (a1.trans b1.symm)
def nP (lk:List (Option Nat))(ι:fx)(γ:dJ)(τ:aX)(φ:aL):aL:=λβ R=>ι β λds k β1=>hold k false/\gb γ τ φ ds k (dD lk β1) λo=>R (.lst o) .own β1
variable {scope:K2}{N':List Str}{tg cR elt:Expr}{ifs:List Expr}{ι:fx}{pi:Bool}{pos pos' kq:Pos}{y:Str}{i:Nat}
theorem Ab (L:Links X scope N' lk)(sJ:N'.Nodup)(hT:T.all (λi=>match lk[i]? with|some (some _)=>false|_=>true)=true)(hc:X.calm=true)(hi:vM X C pi tg cR ι)
  (ot:∀a cl c s H ex,tR (aA X scope N' cl c s H ex) (C.u λc=>c=a) tg T γ) (oq:∀a cl c s H ex,l4 (aA X scope N' cl c s H ex) ifs (iT (aA X scope N' cl c s H ex) (C.u λc=>c=a) pc τ)) (τm:∀β R R',(∀d β,R d β->R' d β)->τ β R->τ β R')
  (ou:∀a cl c s H ex,PQ (aA X scope N' cl c s H ex) (C.u λc=>c=a) pe elt φ) (γm:∀d k β R R',(∀r,R r->R' r)->γ d k β R->γ d k β R') (φm:∀β R R',(∀d k β,R d k β->R' d k β)->φ β R->φ β R')
  (hs:∀x,JY cR X.env x=pure x:=by intro _;rfl):PQ X C (pi&&(pc&&pe)) (.ListComp elt [⟨tg,cR,ifs,0⟩] scope pos) (nP lk ι γ τ φ):=by
 have Bm:∀i∈T,∀j,lk[i]?≠some (some j):=λi hi j e=>by
  have:=LO.mp hT i hi;rw[e]at this;cases this
 refine⟨λβ R R' k h=>hi.mono β _ _ (λds kd β1 q=>⟨q.1,q.2.mono λo z=>k _ _ _ z⟩) h,?_⟩;refine(kP (g:=⟨tg,cR,ifs,0⟩) (gs:=[]) (tg:=λa v σ H Q=>∃own β d k,SQ X (C.u λc=>c=a) σ H β own/\Rp X (gq (C.u λc=>c=a) (Wn own) k) H d v/\γ d k β λβ'=>∀σ' aE,SQ X (C.u λc=>c=a) σ' H β' aE->(∀a,Wn aE a->Wn own a)->(∀j,j∉T->σ'[j]?=σ[j]?)->Q σ' H)
  (tt:=λa=>iT X (C.u λc=>c=a) pc τ) (ta:=λa N σ H=>tQ X (C.u λc=>c=a) pe φ σ H λv H1=>∃xs,H1 a=some (.lst xs)/\xs.length<Jg/\N σ (upd H1 a (.lst (xs++[v]))))
  L hc g6 rfl rfl (λ_ _=>tH) hi.pi (λa cl c s H ex=>⟨(ot a cl c s H ex).pg,oq a cl c s H ex,gU rfl (ou a cl c s H ex).pe⟩) hs).pre λσ H Q ⟨β,own,s,h⟩=>?_
 refine⟨β,own,s,hi.mono β _ _ (λds k β1 m5 J H1 aB o1 it a ha=>?_) h⟩;obtain⟨hk,q⟩:=m5;exact fT γm τm φm (fO L sJ) Bm o1.sq ha (hp:=false) (λz=>by cases z) hk it q λo H' q o2 r=>q _ _ aB (o1.trans o2) (r.later o1.sn)
theorem Aa {K:D->bo->b4->Prop}(L:Links X scope N' lk)(sJ:N'.Nodup)(hT:T.all (λi=>match lk[i]? with|some (some _)=>false|_=>true)=true)(hc:X.calm=true)(hi:∀U,vM X (C.u U) pi tg cR ι)
  (ot:∀U cl c s H ex,tR (aA X scope N' cl c s H ex) (C.u U) tg T γ) (oq:∀U cl c s H ex,l4 (aA X scope N' cl c s H ex) ifs (iT (aA X scope N' cl c s H ex) (C.u U) pc τ)) (τm:∀β R R',(∀d β,R d β->R' d β)->τ β R->τ β R')
  (ou:∀U cl c s H ex,PQ (aA X scope N' cl c s H ex) (C.u U) pe elt φ) (γm:∀d k β R R',(∀r,R r->R' r)->γ d k β R->γ d k β R') (φm:∀β R R',(∀d k β,R d k β->R' d k β)->φ β R->φ β R') (o:Bool)
  (hN:X.N.Nodup) (hy:X.N[i]?=some y:=by rfl) (hx:Loc X.env.scope y:=by first|exact .inl rfl|exact .inr rfl) (hf:X.fn y=true\/X.env.scope.names.lookup y=some .local:=by first|exact .inl rfl|exact .inr rfl|assumption)
  (vb:Kw (.ListComp elt [⟨tg,cR,ifs,0⟩] scope pos) (some (.Name y pos')) kq.line X.env=pure true:=by rfl)
  (vh:evalThenUse (.ListComp elt [⟨tg,cR,ifs,0⟩] scope pos) X.env (assign (.Name y pos') X.env)=(do let _ <- comprehension (.ListComp elt [⟨tg,cR,ifs,0⟩] scope pos) scope X.env (firstIterPos [⟨tg,cR,ifs,0⟩] pos) (newList []) false (eval cR X.env) (some (assign (.Name y pos') X.env));pure ()):=by first|rfl|exact arm_evalThenUse_ListComp ..)
  (hs:∀x,JY cR X.env x=pure x:=by intro _;rfl) :
  PB X C (.Assign [.Name y pos'] (.ListComp elt [⟨tg,cR,ifs,0⟩] scope pos) kq) (λE β=>nP lk ι γ τ φ β λd _ β'=>E.nx (β'.set i (some (match o with|true=>.own d|false=>.val true d)))):=by
 have Bm:∀i∈T,∀j,lk[i]?≠some (some j):=λi hi j e=>by
  have:=LO.mp hT i hi;rw[e]at this;cases this
 refine⟨λE E' β l h=>(hi λ_=>False).mono β _ _ (λds kd β1 q=>⟨q.1,q.2.mono λo z=>l.nx _ z⟩) h,λpins s σ H D I0 sx=>?_⟩;obtain⟨Z,E,β,⟨own,sq,n⟩,h,ok⟩:=sx;refine q8 (g:=⟨tg,cR,ifs,0⟩) (gs:=[]) (tg:=λa v σ H Q=>∃own β d k,SQ X (C.u λc=>c=a) σ H β own/\Rp X (gq (C.u λc=>c=a) (Wn own) k) H d v/\γ d k β λβ'=>∀σ' aE,SQ X (C.u λc=>c=a) σ' H β' aE->(∀a,Wn aE a->Wn own a)->(∀j,j∉T->σ'[j]?=σ[j]?)->Q σ' H)
  (tt:=λa=>iT X (C.u λc=>c=a) pc τ) (ta:=λa N σ H=>tQ X (C.u λc=>c=a) pe φ σ H λv H1=>∃xs,H1 a=some (.lst xs)/\xs.length<Jg/\N σ (upd H1 a (.lst (xs++[v]))))
  L hc g6 vb vh rfl hN hy hx hf (λ_ _=>tH) (hi λa=>H a=none).pi (λa cl c s H ex=>⟨(ot _ cl c s H ex).pg,oq _ cl c s H ex,gU rfl (ou _ cl c s H ex).pe⟩) hs pins s σ H D I0 ?_
 refine⟨β,own,sq.nG (C:=C.z) (U:=λa=>H a=none) λa z=>z,(hi λ_=>False).mono β _ _ (λds k β1 AL J H1 aB o1 it a ha=>?_) h⟩;obtain⟨hk,q⟩:=AL;refine fT (C:=C.u λa=>H a=none) γm τm φm (fO L sJ) Bm o1.sq ha (hp:=false) (λz=>by cases z) hk it q λol H' q o2 r=>?_
 have r':=r.later o1.sn;have oo:=o1.trans o2;have m:=n.trans oo.sn;cases o with
 |false=>exact ok.nx _ _ _ ⟨_,(bG.G1 oo.sq).fE (ak.aJ (λa z=>z.elim id λz=>z.elim) (KV.rep r')),qP m⟩ q
 |true =>
  obtain⟨A,h1,h2,h3⟩:=r';refine ok.nx _ _ _ ⟨_,oo.sq.qS h1 h2 λc hc=>⟨(h3 c hc).2.2,(h3 c hc).2.1,(h3 c hc).1⟩,?_⟩ q;exact⟨λb m7=>by
   obtain⟨j,hj⟩:=m7
   by_cases aF:i=j
   ·rw[<- aF,os_eq]at hj;exact .inr (n.free (h3 b hj).1)
   ·rw[ba aF]at hj;exact m.w b ⟨j,hj⟩,m.k,m.d⟩
end
end L2.Q
namespace L2
open PySem PySem.Spec PySem.SeqAt PyProof.Rows
section
end
theorem bX {lo:Int}{n i:Nat}{d:D}(h:(kK lo n)[i]?=some d):i<n/\d=.int (lo+i):=by
 unfold kK at h;rw[Jt]at h;have hi:i<n:=by
  by_cases hi:i<n
  ·exact hi
  ·rw[K5 (by simpa using hi)]at h;cases h
 rw[L9 hi]at h;cases h;exact⟨hi,rfl⟩
theorem cw {lo:Int}{n:Nat}:(kK lo n).length=n:=by unfold kK;simp
section
end
structure Df (K:PySem.W.Frag)(mg:Str->Option IS)(x:Str)(st:Stmt)(ps:List Str)(f:Addr)(fd:JJ):Prop where
 F:t7 K x x st f fd
 b:Binds K fd ps []
 m:mg x=some (.ref f)
structure Bs (mg:Str->Option IS):Prop where
 max:mg "max" = none
 min:mg "min" = none
 int:mg "int" = none
 range:mg "range" = none
 sorted:mg "sorted" = none
 set:mg "set" = none
 len:mg "len" = none
 list:mg "list" = none
theorem bF.eS {k:Nat}{A:JQ}(r:bF k A):A.units+64+1<LV:=by have:=r.un;lia
def zE (n:Int)(t:List Int):Prop:=∃a b,t=[a,b]/\0<=a/\a<b/\b<n
theorem zE.ne {n:Int}{t:List Int}(h:zE n t):t≠[]:=by
 obtain⟨a,b,rfl,_⟩:=h;intro z;cases z
def bx (n:Int)(ts:List (List Int)):Prop:=∀t∈ts,zE n t
theorem bx.ne {n:Int}{ts:List (List Int)}(h:bx n ts):∀k∈ts,k≠[]:=λk hk=>(h k hk).ne
theorem bx.nil {n:Int}:bx n []:=λ_ z=>(nomatch z)
theorem bx.app {n:Int}{ts us:List (List Int)}(h:bx n ts)(h':bx n us):bx n (ts++us):=λt ht=>(Jq.mp ht).elim (h t) (h' t)
theorem bx.one {n:Int}{a b:Int}(h1:0<=a)(h2:a<b)(h3:b<n):bx n [[a,b]]:=λt ht=>by
 rw[Jk.mp ht];exact⟨a,b,rfl,h1,h2,h3⟩
theorem cB (ts:List (List Int)):D.bJ (ts.map kD)=true:=by
 have fi:∀k:List Int,D.bJ (k.map D.int)=true:=λk=>by
  induction k with
  |nil=>rfl
  |cons i k ih=>show (D.flat (.int i)&&D.bJ (k.map D.int))=true;rw[ih];rfl
 induction ts with
 |nil=>rfl
 |cons t ts ih =>
  show (D.flat (kD t)&&D.bJ (ts.map kD))=true;rw[ih];show (D.bJ (t.map D.int)&&true)=true;rw[fi];rfl
theorem gL {ts:List (List Int)}(h:∀k∈ts,k≠[])(l:ts.length<=1000000):(match [D.lst (ts.map kD)]with | [.lst ds]=>tp [.lst ds]|_=>none)=some (.lst ((dq ts).map kD)):=by
 show (match d8 (ts.map kD)with|some ks=>if ks.length<=1000000 then some (D.lst ((dq ks).map kD)) else none|none=>none)=_
 rw[i8 h];show (if ts.length<=1000000 then some (D.lst ((dq ts).map kD)) else none)=_
 rw[if_pos l]
theorem kn {n:Int}{ts:List (List Int)}(h:bx n ts):bx n (dq ts):=λt ht=>h t ((bU ts).mem_iff.mp ht)
theorem nM {fs:List (List Int)}{t:List Int}:(fs++[t]).map kD=fs.map kD++[kD t]:=by simp
theorem qO {fs:List Int}{t:Int}:(fs++[t]).map D.int=fs.map D.int++[D.int t]:=by simp
theorem tU {a b:D}:[a,b].length<=Jg:=by show 2<=Jg;decide
theorem zh {a b c:D}:[a,b,c].length<=Jg:=by show 3<=Jg;decide
theorem yq {b:Bool}{p q:Prop}(hb:b=true)(h:p):(if b=true then p else q):=by rw[if_pos hb];exact h
theorem pU {b:Bool}{p q:Prop}(hb:b=false)(h:q):(if b=true then p else q):=by rw[hb,if_neg (by simp)];exact h
theorem l_ {c:Prop}[Decidable c]{p q:Prop}(h1:c->p)(h2:¬ c->q):(if decide c=true then p else q):=by
 by_cases h:c
 ·exact yq (by simp[h]) (h1 h)
 ·exact pU (by simp[h]) (h2 h)
theorem Dx {c:Prop}[Decidable c]{p q:Prop}(h1:¬ c->p)(h2:c->q):(if (!decide c)=true then p else q):=by
 by_cases h:c
 ·exact pU (by simp[h]) (h2 h)
 ·exact yq (by simp[h]) (h1 h)
theorem cc {α:Type}(f:α->D):∀l:List α,D.dt (l.map f)=l.map λa=>(f a).pd
 |[]=>rfl
 |a::l=>by
  show (f a).pd::D.dt (l.map f)=_;rw[cc f l];rfl
theorem fV {n:Nat}:∀{xs:List PyData},(∀x∈xs,x.canLay0=true/\x.depth<=n)->KA xs=true/\J2 xs<=n
 |[],_=>⟨by simp[KA],by simp[J2]⟩
 |x::xs,h=>by
  obtain⟨h1,h2⟩:=fV (n:=n) (xs:=xs) λy hy=>h y (by simp[hy])
  obtain⟨g1,g2⟩:=h x (by simp)
  refine⟨by simp[KA,h1,g1],?_⟩
  simp only[J2];lia
theorem iV {n:Nat}{ds:List D}(h:∀d∈ds,d.pd.canLay0=true/\d.pd.depth<=n):(D.tup ds).pd.canLay0=true/\(D.tup ds).pd.depth<=n+1:=by
 have e:D.dt ds=ds.map λd=>d.pd:=by
  have:=cc (λd:D=>d) ds;simpa using this
 obtain⟨h1,h2⟩:=fV (n:=n) (xs:=D.dt ds) λx hx=>by
  rw[e]at hx;obtain⟨d,hd,rfl⟩:=JK.mp hx;exact h d hd
 refine⟨by simpa[D.pd,JW] using h1,?_⟩
 have:(D.tup ds).pd.depth=J2 (D.dt ds)+1:=by simp[D.pd,Kq]
 lia
theorem fD {n:Nat}{ds:List D}(h:∀d∈ds,d.pd.canLay0=true/\d.pd.depth<=n):(D.lst ds).pd.canLay0=true/\(D.lst ds).pd.depth<=n+1:=by
 have e:D.dt ds=ds.map λd=>d.pd:=by
  have:=cc (λd:D=>d) ds;simpa using this
 obtain⟨h1,h2⟩:=fV (n:=n) (xs:=D.dt ds) λx hx=>by
  rw[e]at hx;obtain⟨d,hd,rfl⟩:=JK.mp hx;exact h d hd
 refine⟨by simpa[D.pd,JW] using h1,?_⟩
 have:(D.lst ds).pd.depth=J2 (D.dt ds)+1:=by simp[D.pd,Kq]
 lia
theorem bM (i:Int):(D.int i).pd.canLay0=true/\(D.int i).pd.depth<=1:=⟨by simp[D.pd,JW],by simp[D.pd,Kq]⟩
theorem kz (b:Bool):(D.bl b).pd.canLay0=true/\(D.bl b).pd.depth<=1:=⟨by simp[D.pd,JW],by simp[D.pd,Kq]⟩
theorem gM (t:List Int):(kD t).pd.canLay0=true/\(kD t).pd.depth<=2:=iV λd hd=>by
 obtain⟨i,_,rfl⟩:=JK.mp hd;exact bM i
theorem bL (ts:List (List Int)):(D.lst (ts.map kD)).pd.canLay0=true/\(D.lst (ts.map kD)).pd.depth<=3:=fD λd hd=>by
 obtain⟨i,_,rfl⟩:=JK.mp hd;exact gM i
theorem gN (ts:List Int):(D.lst (ts.map D.int)).pd.canLay0=true/\(D.lst (ts.map D.int)).pd.depth<=2:=fD λd hd=>by
 obtain⟨i,_,rfl⟩:=JK.mp hd;exact bM i
theorem bA {d:D}{n:Nat}(h:d.pd.canLay0=true/\d.pd.depth<=n)(hn:n<=64:=by decide):d.kA=true:=by
 show (d.pd.canLay0&&decide (d.pd.depth<=64))=true;rw[h.1,decide_eq_true (by lia)]
 rfl
theorem df {α:Type}[DecidableEq α]{f:α->PyData}(hf:∀a b,JP (f a) (f b)=decide (a=b)):∀xs ys:List α,LI (xs.map f) (ys.map f)=decide (xs=ys)
 |[],[]=>by simp[LI]
 |[],_::_=>by simp[LI]
 |_::_,[]=>by simp[LI]
 |x::xs,y::ys=>by
  simp only[Jy,LI];rw[hf,df hf xs ys]
  by_cases h1:x=y
  ·by_cases h2:xs=ys <;> simp[h1,h2]
  ·simp[h1]
theorem gB (i j:Int):JP (D.int i).pd (D.int j).pd=decide (i=j):=by
 simp only[D.pd,JP]
 by_cases h:i=j <;> simp[h]
theorem sZ (t u:List Int):JP (kD t).pd (kD u).pd=decide (t=u):=by
 show JP (.tuple (D.dt (t.map D.int))) (.tuple (D.dt (u.map D.int)))=_;rw[cc,cc];simp only[JP];exact df gB t u
theorem sY (ts us:List (List Int)):JP (D.lst (ts.map kD)).pd (D.lst (us.map kD)).pd=decide (ts=us):=by
 show JP (.list (D.dt (ts.map kD))) (.list (D.dt (us.map kD)))=_;rw[cc,cc];simp only[JP];exact df sZ ts us
theorem s9 (ts us:List Int):JP (D.lst (ts.map D.int)).pd (D.lst (us.map D.int)).pd=decide (ts=us):=by
 show JP (.list (D.dt (ts.map D.int))) (.list (D.dt (us.map D.int)))=_;rw[cc,cc];simp only[JP];exact df gB ts us
theorem tE {a b:D}{c:Bool}(h1:a.kA=true)(h2:b.kA=true)(e:JP a.pd b.pd=c):Bx a b=some (.bl c):=by
 unfold Bx;rw[if_pos ⟨h1,h2⟩,e]
theorem nk {a b:D}{c:Bool}(h1:a.kA=true)(h2:b.kA=true)(e:JP a.pd b.pd=c):zA a b=some (.bl (!c)):=by
 unfold zA;rw[if_pos ⟨h1,h2⟩,e]
theorem gD (i j:Int):Bx (.int i) (.int j)=some (.bl (decide (i=j))):=tE (bA (bM i)) (bA (bM j)) (gB i j)
theorem tD (ts us:List (List Int)):Bx (.lst (ts.map kD)) (.lst (us.map kD))=some (.bl (decide (ts=us))):=tE (bA (bL ts)) (bA (bL us)) (sY ts us)
theorem lP (ts us:List Int):zA (.lst (ts.map D.int)) (.lst (us.map D.int))=some (.bl (!decide (ts=us))):=nk (bA (gN ts)) (bA (gN us)) (s9 ts us)
theorem any_map {α:Type}[DecidableEq α]{f:α->D}(hf:∀a b,JP (f a).pd (f b).pd=decide (a=b))(t:α):∀xs:List α,((D.dt (xs.map f)).any λy=>JP y (f t).pd)=decide (t∈xs)
 |[]=>rfl
 |x::xs=>by
  show (JP (f x).pd (f t).pd || (D.dt (xs.map f)).any λy=>JP y (f t).pd)=_
  rw[any_map hf t xs,hf]
  by_cases h:x=t
  ·simp[h]
  ·have h':¬ t=x:=λz=>h z.symm;simp[h,h']
theorem tx (t:List Int)(ts:List (List Int)):vC (kD t) (.lst (ts.map kD))=some (decide (t∈ts)):=by
 show (if (kD t).kA=true/\(D.lst (ts.map kD)).kA=true then some _ else none)=_
 rw[if_pos ⟨bA (gM t),bA (bL ts)⟩,any_map sZ];exact congrArg some (decide_eq_decide.mpr Iff.rfl)
theorem vB (i:Int)(t:List Int):vC (.int i) (kD t)=some (decide (i∈t)):=by
 show (if (D.int i).kA=true/\(D.tup (t.map D.int)).kA=true then some _ else none)=_
 rw[if_pos ⟨bA (bM i),bA (gM t)⟩,any_map gB]
theorem ni (t:List Int)(ts:List (List Int)):nj (kD t) (.lst (ts.map kD))=some (.bl (!decide (t∈ts))):=by unfold nj;rw[tx];rfl
theorem jV (i:Int)(t:List Int):Ff (.int i) (kD t)=some (.bl (decide (i∈t))):=by unfold Ff;rw[vB];rfl
theorem Gm {α:Type}{ds:List α}{i:Nat}{d:α}(h:ds[i]?=some d):ml ds (i:Int)=some d:=by
 have hl:i<ds.length:=(Jd.mp h).1;unfold ml mY;rw[if_pos (by lia),if_pos (by lia),JZ]
 exact h
theorem y_ {α:Type}{ds:List α}{i:Int}(h0:0<=i)(h1:i<ds.length):∃d∈ds,ml ds i=some d/\ds[i.toNat]?=some d:=by
 have hl:i.toNat<ds.length:=by lia
 refine⟨ds[i.toNat],LM hl,?_,I_ hl⟩;have:=Gm (ds:=ds) (i:=i.toNat) (I_ hl)
 rwa [show ((i.toNat:Nat):Int)=i by lia]at this
theorem vA {ds:List D}{i:Nat}{d:D}(h:ds[i]?=some d):tw (.lst ds) (.int (i:Int))=some d:=Gm h
theorem pick {ds:List D}{r:Int}{p:D->Prop}(h0:0<=r)(h1:r<ds.length)(h:∀d∈ds,p d):∃d,tw (.lst ds) (.int r)=some d/\p d:=by
 obtain⟨d,hd,e,_⟩:=y_ h0 h1;exact⟨d,e,h d hd⟩
end L2
namespace L2.Q
open PySem PySem.Spec PySem.SeqAt PyProof.Rows
section
end
section
end
section
variable {P:IY}{w:Je}{C:Cfg}{σ:St}{H:Hp}{β:bo}{own:Nat->List Addr}{i:Nat}{ok:List Int->Prop}{ns:List Int}
theorem iY:∀{ns:List Int} {vs:List V} {A:List Addr},aD P w H (ns.map D.int) vs A->vs=ns.map V.int/\A=[]
 |[],_,_,h=>h
 |n::ns,_,_,⟨v,r,A1,A2,e,eA,h1,h2⟩=>by
  obtain⟨rfl,rfl⟩:=iY h2;obtain⟨rfl,rfl⟩:=h1;exact⟨e,by rw[eA];rfl⟩
theorem bG.toHand (s:bG P w C σ H β own)(e:β[i]?=some (some (.own (.lst (ns.map D.int)))))(ho:ok ns)(io:∀b,¬ C.IO b):bG P w C σ H (β.set i (some (.hand ok))) own:=by
 obtain⟨v,h1,⟨a,vs,A',rfl,h2,h3,h4⟩,h5⟩:=s.ow i _ e;obtain⟨rfl,rfl⟩:=iY h4;refine⟨by simp[s.len],λj y d q=>?_,λj d q=>?_,λj qo q=>?_,s.dm,s.iA,s.k0,s.kp,s.iu,λj y d q=>by
  by_cases aF:i=j
  ·subst aF;obtain⟨e',_⟩:=bc q;cases e'
  ·rw[a3 aF]at q;exact s.shl j y d q⟩
 ·by_cases aF:i=j
  ·subst aF;obtain⟨e',_⟩:=bc q;cases e'
  ·rw[a3 aF]at q;exact s.val j y d q
 ·by_cases aF:i=j
  ·subst aF;obtain⟨e',_⟩:=bc q;cases e'
  ·rw[a3 aF]at q;exact s.ow j d q
 ·by_cases aF:i=j
  ·subst aF;obtain⟨e',_⟩:=bc q;cases e';exact⟨a,ns,h1,h2,ho,h3,.inl io⟩
  ·rw[a3 aF]at q;exact s.md j qo q
end
section
variable {X:Cx}{C:Cfg}{e:Expr}{φ:aL}{p:Bool}{i:Nat}{x:Str}{pos pos' px ap cp:Pos}{ok:List Int->Prop}
theorem uN (ok:List Int->Prop)(EF:∀b,¬ C.IO b)(he:∀U,PQ X (C.u U) p e φ)(hN:X.N.Nodup)(hi:X.N[i]?=some x:=by rfl)(hx:Loc X.env.scope x:=by first|exact .inl rfl|exact .inr rfl)
  (hs:Kw e (some (.Name x pos')) pos.line X.env=pure false:=by rfl) (hf:X.fn x=true\/X.env.scope.names.lookup x=some .local:=by first|exact .inl rfl|exact .inr rfl|assumption) :
  PB X C (.Assign [.Name x pos'] e pos) (λE β=>φ β λd k β'=>wj k d/\i<β'.length/\∃ns:List Int,d=.lst (ns.map D.int)/\ok ns/\E.nx (β'.set i (some (.hand ok)))):=by
 have B:=dW (C:=C) (i:=i) (pos:=pos) (pos':=pos') he hN hi hx hs hf;refine⟨λE E' β l q=>(he λ_=>False).mono _ _ _ (λd k β' AU=>by obtain⟨f,h,ns,e,o,q⟩:=AU;exact⟨f,h,ns,e,o,l.nx _ q⟩) q,B.ps.pre λDe σ H jR=>?_⟩
 obtain⟨Z,E,β,sb,q,qo⟩:=jR;refine⟨Z,{E with nx:=λβ'=>∃(ns:List Int) (β2:bo),i<β2.length/\β'=β2.set i (some (.own (.lst (ns.map D.int))))/\ok ns/\E.nx (β2.set i (some (.hand ok)))},β,sb,(he λ_=>False).mono _ _ _ (λd k β' AR=>by obtain⟨f,h,ns,e,o,q⟩:=AR;exact⟨f,ns,β',h,by rw[e],o,q⟩) q,⟨λσ' H' β' uo m5=>?_,qo.rt,qo.bk,qo.ct⟩⟩
 obtain⟨ns,β2,hl,e,o,q⟩:=m5;subst e;obtain⟨own,s,n⟩:=uo;have:=s.toHand (i:=i) (ok:=ok) (get_set hl) o EF;rw[List.set_set]at this;exact qo.nx _ _ _ ⟨own,this,n⟩ q
theorem bG.putL {P:IY}{w:Je}{σ:St}{H:Hp}{β:bo}{own:Nat->List Addr}{U U2:Addr->Prop}{ds ds':List D}{vs':List V}{a:Addr}{vs:List V}{A A':List Addr}(s:bG P w (C.u U) σ H β own)(e:β[i]?=some (some (.own (.lst ds))))(h1:σ[i]?=some (some (.ref a)))(h2:H a=some (.lst vs))(h3:own i=a::A)
  (r:aD P w H ds' vs' A') (nd:A'.Nodup) (hA:∀c∈A',c∈A\/(C.H0 c=none/\¬ Wn own c/\U c)) (hU:∀a,U2 a->U a) (EY:∀c∈A',c∉A->¬ U2 c) :
  bG P w (C.u U2) σ (upd H a (.lst vs')) (β.set i (some (.own (.lst ds')))) (aI own i (a::A'))/\∀c∈a::A',c∈own i\/(C.H0 c=none/\¬ Wn own c/\U c):=by
 have ha:a∈own i:=by rw[h3];simp
 have nA:a∉A:=by have:=s.k0 i;rw[h3]at this;exact(JF.mp this).1
 have na:∀c∈A',c≠a:=λc hc z=>by
  subst z;rcases hA c hc with z|z
  ·exact nA z
  ·exact z.2.1 ⟨i,ha⟩
 have kt:∀b xs,H b=some (.tup xs)->upd H a (.lst vs') b=some (.tup xs):=λb xs z=>by rw[ay (λz'=>by rw[z',h2]at z;cases z)];exact z
 have Gh:∀c∈a::A',c∈own i\/(C.H0 c=none/\¬ Wn own c/\U c):=λc hc=>by
  rcases Ja.mp hc with rfl|hc
  ·exact .inl ha
  ·exact(hA c hc).imp (λz=>by rw[h3];simp[z]) id
 refine⟨s.xk e h1 ha ⟨a,vs',A',rfl,az,rfl,r.keep kt λc hc oc ec=>by rw[ay (na c hc)];exact ec⟩ (JF.mpr ⟨λz=>na a z rfl,nd⟩) Gh hU (λc hc z=>?_),Gh⟩
 rcases Ja.mp hc with rfl|hc
 ·exact(s.dm i c ha).2.2.2 (hU c z)
 ·by_cases q:c∈A
  ·exact(s.dm i c (by rw[h3];simp[q])).2.2.2 (hU c z)
  ·exact EY c hc q z
theorem kR {own:Nat->List Addr}{i:Nat}{A':List Addr}(h:∀c∈A',c∈own i):∀c,Wn (aI own i A') c->Wn own c:=λc sy=>by
 obtain⟨j,hj⟩:=sy
 by_cases aF:i=j
 ·rw[<- aF,os_eq]at hj;exact⟨i,h c hj⟩
 ·rw[ba aF]at hj;exact⟨j,hj⟩
theorem rg {P:IY}{w:Je}{H:Hp}{own:Nat->List Addr}{Z:Hp×(Addr->Prop)}{d:D}{v:V}{A:List Addr}(r:Own P w H d v A)(h:∀c∈A,¬ Wn own c/\C.H0 c=none):KV P w C Z own H (sk .di d) d v:=by
 have q:ak P w (av C (Wn own) .di) H d v:=r.rep λc hc z=>z.elim (h c hc).1 λz=>z (h c hc).2;cases d with
 |int i=>exact KV.flat rfl q
 |bl i=>exact KV.flat rfl q
 |b7=>exact KV.flat rfl q
 |str i=>exact KV.flat rfl q
 |_=>exact q
theorem aD.concat {P:IY}{w:Je}{H:Hp}{ds:List D}{d:D}{vs:List V}{A:List Addr}(h:aD P w H (ds++[d]) vs A):∃us v A1 A2,vs=us++[v]/\A=A1++A2/\aD P w H ds us A1/\Own P w H d v A2:=by
 obtain⟨v,A1,A2,A3,g1,g2,g3,g4,g5⟩:=h.split (i:=ds.length) (d:=d) (by simp)
 rw[List.take_left]at g3;have e3:aD P w H [] (vs.drop (ds.length+1)) A3:=by simpa using g5
 have hl:=h.length;rw[JV,Kz]at hl;refine⟨vs.take ds.length,v,A1,A2,?_,by rw[g2,e3.2,Ku],g3,g4⟩
 have h8:ds.length<vs.length:=by lia
 have e1:vs=vs.take ds.length++vs.drop ds.length:=(K3 _ _).symm;rw[KO h8,e3.1]at e1;have:vs[ds.length]=v:=by
  have:=I_ h8;rw[g1]at this;exact(JN this).symm
 rw[this]at e1;exact e1
theorem xn (hn:Nm X i x:=by exact xQ)
  (cA:Ky (.Name x px) "pop" X.env (eval (.Name x px) X.env)=eval (.Name x px) X.env:=by rfl) (cz:(ap.endLine==cp.line)=true:=by rfl) :
  PQ X C false (.Call (.Attribute (.Name x px) "pop" ap) [] [] cp) (λβ R=>∃ds d,β[i]?=some (some (.own (.lst (ds++[d]))))/\R d (sk .di d) (β.set i (some (.own (.lst ds))))) :=
 ⟨λβ R R' k vc=>by obtain⟨ds,d,h1,q⟩:=vc;exact⟨ds,d,h1,k _ _ _ q⟩,(xw (apos:=ap) (cpos:=cp) PySem.F.plainAttrs_list PySem.F.slot_list_pop PySem.F.type_list_pop xT (gR (pos:=px) hn) cA cz).pre λσ H Q m7=>by
  obtain⟨β,own,s,ds,d,hb,q⟩:=m7;obtain⟨a,vs,A,h1,h2,h3,h4⟩:=s.g9 hb;obtain⟨us,v,A1,A2,rfl,rfl,g3,g4⟩:=h4.concat;have nd:=s.k0 i;rw[h3]at nd;obtain⟨v8,u0,zi⟩:=JT.mp (JF.mp nd).2;obtain⟨s2,hA⟩:=s.putL (C:=C) (U:=C.U) (U2:=C.U) (ds':=ds) (vs':=us) (A':=A1) hb h1 h2 h3 g3 v8 (λc hc=>.inl (by simp[hc])) (λ_ z=>z) (λc hc n=>absurd (by simp[hc]) n)
  have h0:∀c∈own i,C.H0 c=none:=by obtain⟨_,_,_,h⟩:=s.ow i _ hb;exact h
  have kt:∀b xs,H b=some (.tup xs)->upd H a (.lst us) b=some (.tup xs):=λb xs z=>by rw[ay (λz'=>by rw[z',h2]at z;cases z)];exact z
  have na:∀c∈A2,c≠a:=λc hc z=>(JF.mp nd).1 (by rw[<- z];simp[hc])
  have le:∀c,Wn (aI own i (a::A1)) c->Wn own c:=kR λc hc=>by rw[h3];rcases Ja.mp hc with rfl|hc <;> simp[*]
  refine⟨.ref a,h1,.inl ⟨rfl,_,cS.of h2⟩,a,_,v,rfl,rfl,h2,by simp,?_⟩
  rw[List.dropLast_concat];refine q v _ _ ⟨s2,?_,λz=>(nomatch z),le⟩ (rg (C:=C) (g4.keep kt λc hc oc ec=>by rw[ay (na c hc)];exact ec) λc hc=>⟨λ⟨j,hj⟩=>?_,h0 c (by rw[h3];simp[hc])⟩)
  ·have u:=Sn.upd (Z:=(H,Wn own)) (o':=.lst us) (Sn.refl (H:=H) (W:=Wn own)) h2 (λxs z=>by cases z) ⟨i,by rw[h3];simp⟩
   exact⟨λb z=>.inl (le b z),u.k,u.d⟩
  ·by_cases aF:i=j
   ·rw[<- aF,os_eq]at hj;rcases Ja.mp hj with rfl|hj
    ·exact na _ hc rfl
    ·exact zi _ hj _ hc rfl
   ·rw[ba aF]at hj;exact aF (s.iA i j c (by rw[h3];simp[hc]) hj)⟩
end
section
variable {X:Cx}{C:Cfg}{e k:Expr}{φ φk:aL}{p pk:Bool}{i:Nat}{x:Str}{pos pos' px ap cp:Pos}
theorem ph {n:Nat}{j:Int}{k:Nat}(h:mY n j=some k):Ms j n=some k:=by
 unfold mY at h;unfold Ms
 by_cases h0:0<=j
 ·rw[if_pos h0]at h
  by_cases h1:j<n
  ·rw[if_pos h1]at h;cases h;have e:(if j<0 then j+n else j)=j:=if_neg (by lia)
   simp only[e];simp[h0,h1]
  ·rw[if_neg h1]at h;cases h
 ·rw[if_neg h0]at h
  by_cases h1:-(n:Int)<=j
  ·rw[if_pos h1]at h;cases h;have e:(if j<0 then j+n else j)=j+n:=if_pos (by lia)
   simp only[e];have:0<=j+n/\j+n<n:=by lia
   simp[this]
  ·rw[if_neg h1]at h;cases h
theorem mX {n:Nat}{j:Int}{k:Nat}(h:mY n j=some k):k<n:=by
 unfold mY at h
 by_cases h0:0<=j
 ·rw[if_pos h0]at h
  by_cases h1:j<n
  ·rw[if_pos h1]at h;cases h;lia
  ·rw[if_neg h1]at h;cases h
 ·rw[if_neg h0]at h
  by_cases h1:-(n:Int)<=j
  ·rw[if_pos h1]at h;cases h;lia
  ·rw[if_neg h1]at h;cases h
theorem gf {α:Type}:∀(l:List α) (j:Nat),l.eraseIdx j=l.take j++l.drop (j+1):=λl j=>List.eraseIdx_eq_take_drop_succ l j
theorem rf (he:PQ X C p e φ)(hn:Nm X i x:=by exact xQ)
  (cA:Ky (.Name x px) "pop" X.env (eval (.Name x px) X.env)=eval (.Name x px) X.env:=by rfl)
  (h9:((Kj cp (Jl [e] X.env)).all (λx=>!x.1)&&(Mf cp (LB [] X.env)).all (λx=>x.1.isSome)&&decide ([e].length+([]:List Lb).length+(if ([]:List Lb).isEmpty then 0 else 1)<30))=true:=by rfl)
  (cz:(ap.endLine==cp.line)=true:=by rfl) (hs:Jl [e] X.env=(false,eval e X.env)::Jl [] X.env:=by rfl) (hZ:(Kj cp (Jl [] X.env)).any (·.1)=false:=by rfl) :
  PQ X C false (.Call (.Attribute (.Name x px) "pop" ap) [e] [] cp) (λβ R=>(∃ds,β[i]?=some (some (.own (.lst ds))))/\φ β λkd _ β'=>∃(ds:List D) (j:Int) (m:Nat) (d:D),kd=.int j/\β'[i]?=some (some (.own (.lst ds)))/\-(2 ^ 63)<=j/\j<2 ^ 63/\mY ds.length j=some m/\ds[m]?=some d/\R d (sk .di d) (β'.set i (some (.own (.lst (ds.eraseIdx m)))))) :=
 ⟨λβ R R' k pW=>by obtain⟨h0,q⟩:=pW;exact⟨h0,he.mono _ _ _ (λkd _ β' sA=>by obtain⟨ds,j,m,d,h1,h2,h3,h4,h5,h6,q⟩:=sA;exact⟨ds,j,m,d,h1,h2,h3,h4,h5,h6,k _ _ _ q⟩) q⟩,
  (rB (apos:=ap) (cpos:=cp) PySem.F.plainAttrs_list PySem.F.slot_list_pop PySem.F.type_list_pop rT (gR (pos:=px) hn) (bD he.pe er hs) cA h9 cz hs hZ).pre λσ H Q vd=>by
  obtain⟨β,own,s0,⟨Gk,wq⟩,q⟩:=vd;obtain⟨a0,Gv,A0,z1,z2,z3,z4⟩:=s0.g9 wq;refine⟨.ref a0,z1,.inl ⟨rfl,_,cS.of z2⟩,tQ.of he s0 q λkd kk β' kv H1 aB jR o r=>?_⟩;obtain⟨ds,j,m,d,e1,hb,j1,j2,hj,hm,q⟩:=jR;subst e1;cases r.rep;have s:=o.sq;obtain⟨a,vs,A,h1,h2,h3,h4⟩:=s.g9 hb;rw[z1]at h1;cases h1;obtain⟨v,A1,A2,A3,g1,rfl,g3,g4,g5⟩:=h4.split hm;have nd:=s.k0 i;rw[h3]at nd;obtain⟨v8,u0,zi⟩:=JT.mp (JF.mp nd).2;obtain⟨G3,Di,FQ⟩:=JT.mp u0;have ow:aD X.prog X.w H1 (ds.eraseIdx m) (vs.eraseIdx m) (A1++A3):=by rw[gf,gf];exact g3.append g5
  have Dh:(A1++A3).Nodup:=JT.mpr ⟨v8,Di,λx hx y hy=>zi x hx y (Jx _ hy)⟩;obtain⟨s2,hA⟩:=s.putL (C:=C) (U:=C.U) (U2:=C.U) (ds':=ds.eraseIdx m) (vs':=vs.eraseIdx m) (A':=A1++A3) hb z1 h2 h3 ow Dh (λc hc=>.inl (by rcases Jq.mp hc with hc|hc <;> simp[hc])) (λ_ z=>z) (λc hc n=>absurd (by rcases Jq.mp hc with hc|hc <;> simp[hc]) n)
  have h0:∀c∈aB i,C.H0 c=none:=by obtain⟨_,_,_,h⟩:=s.ow i _ hb;exact h
  have kt:∀b xs,H1 b=some (.tup xs)->upd H1 a0 (.lst (vs.eraseIdx m)) b=some (.tup xs):=λb xs z=>by rw[ay (λz'=>by rw[z',h2]at z;cases z)];exact z
  have na:∀c∈A2,c≠a0:=λc hc z=>(JF.mp nd).1 (by rw[<- z];simp[hc])
  have le:∀c,Wn (aI aB i (a0::(A1++A3))) c->Wn aB c:=kR λc hc=>by
   rw[h3];rcases Ja.mp hc with rfl|hc
   ·simp
   ·rcases Jq.mp hc with hc|hc <;> simp[hc]
  refine⟨a0,vs,j,m,v,rfl,rfl,h2,j1,j2,by rw[h4.length];exact ph hj,g1,?_⟩
  have u:=Sn.upd (Z:=(H1,Wn aB)) (o':=.lst (vs.eraseIdx m)) (Sn.refl (H:=H1) (W:=Wn aB)) h2 (λxs z=>by cases z) ⟨i,by rw[h3];simp⟩
  refine q v _ _ ⟨s2,o.sn.trans ⟨λb z=>.inl (le b z),u.k,u.d⟩,λz=>(nomatch z),λc z=>o.le c (le c z)⟩ (rg (C:=C) (g4.keep kt λc hc oc ec=>by rw[ay (na c hc)];exact ec) λc hc=>⟨λm5=>?_,h0 c (by rw[h3];simp[hc])⟩)
  obtain⟨j',jT⟩:=m5
  by_cases aF:i=j'
  ·rw[<- aF,os_eq]at jT;rcases Ja.mp jT with rfl|jT
   ·exact na _ hc rfl
   ·rcases Jq.mp jT with jT|jT
    ·exact zi _ jT _ (Kh _ hc) rfl
    ·exact FQ _ hc _ jT rfl
  ·rw[ba aF]at jT;exact aF (s.iA i j' c (by rw[h3];simp[hc]) jT)⟩
theorem uf {Z:Hp×(Addr->Prop)}{H:Hp}{own:Nat->List Addr}{a:Addr}{o oa:HO}{A':List Addr}{U:Addr->Prop}(n:Sn Z H (Wn own))(m:∀a,U a->Z.1 a=none)(h2:H a=some oa)(ht:∀xs,oa≠.tup xs)(ha:Wn own a)(hA:∀c∈A',c∈own i\/(C.H0 c=none/\¬ Wn own c/\U c)):Sn Z (upd H a o) (Wn (aI own i A')) :=
 mE n m ha ⟨oa,h2,ht⟩ hA
theorem gT (he:∀U,PQ X (C.u U) p e φ)(hk:∀U,PQ X (C.u U) pk k φk)(hn:Nm X i x:=by exact xQ)
  (ha:∀v,assign (.Subscript (.Name x px) k pos') X.env v=(do
   let ov <- holding [v] (eval (.Name x px) X.env)
   let iv <- holding [v,ov] (eval k X.env)
   MG pos'
   holding [v,ov,iv] (setItem ov iv v)
   release [v,ov,iv] []):=by intro _;rfl) (hs:swapsWithSole [.Subscript (.Name x px) k pos'] e pos.line X.env=pure false:=by rfl) (hw:swappedStores [.Subscript (.Name x px) k pos'] e X.env=pure none:=by rfl)
  (h1:(Kk [.Subscript (.Name x px) k pos'] X.env).map (·.2)=[assign (.Subscript (.Name x px) k pos') X.env]:=by rfl) :
  PB X C (.Assign [.Subscript (.Name x px) k pos'] e pos) (λE β=>φ β λd kd β1=>wj kd d/\(∃ds,β1[i]?=some (some (.own (.lst ds))))/\φk β1 λjd _ β2=>∃ds j m,jd=.int j/\β2[i]?=some (some (.own (.lst ds)))/\mY ds.length j=some m/\E.nx (β2.set i (some (.own (.lst (ds.set m d)))))):=by
 refine⟨λE E' β l q=>(he λ_=>False).mono _ _ _ (λd kd β1 m7=>by obtain⟨f,h0,q⟩:=m7;exact⟨f,h0,(hk λ_=>False).mono _ _ _ (λjd _ β2 sD=>by obtain⟨ds,j,m,h1,h2,h3,q⟩:=sD;exact⟨ds,j,m,h1,h2,h3,l.nx _ q⟩) q⟩) q,λpins s σ H De I AL=>?_⟩
 obtain⟨Z,E,β,⟨own,sq,n⟩,q,ok⟩:=AL;refine jD (he λa=>H a=none).pe (mM (gR (pos:=px) hn) (hk λa=>H a=none).pe set_list ha) hs hw h1 pins s σ H De I ?_;refine tQ.of (he λa=>H a=none) (sq.nG (C:=C.z) (U:=λa=>H a=none) λa z=>z) q λd kd β1 v H1 aB DG o r=>?_;obtain⟨f,⟨Gk,wq⟩,q⟩:=DG;obtain⟨a0,Gv,A0,z1,z2,z3,z4⟩:=o.sq.g9 wq;refine⟨.ref a0,z1,tQ.of (hk λa=>H a=none) o.sq q λjd kj β2 jv H2 aP DF o2 r2=>?_⟩;obtain⟨ds,j,m,e1,hb,hj,q⟩:=DF;subst e1;cases r2.rep;obtain⟨A,r1,rn,r3⟩:=(r.fl f).held (by intro z;cases z) o2.sn
 obtain⟨a,vs,A',g1,g2,g3,g4⟩:=o2.sq.g9 hb;rw[z1]at g1;cases g1;have Hx:m<ds.length:=mX hj;have hm:ds[m]?=some ds[m]:=I_ Hx;obtain⟨v0,B1,B2,B3,k1,rfl,k3,k4,k5⟩:=g4.split hm;have nd:=o2.sq.k0 i;rw[g3]at nd;obtain⟨v8,u0,zi⟩:=JT.mp (JF.mp nd).2;obtain⟨G3,Di,FQ⟩:=JT.mp u0;have Hv:m<vs.length:=by rw[g4.length];exact mX hj
 have ow:aD X.prog X.w H2 (ds.set m d) (vs.set m v) (B1++(A++B3)):=by
  rw[Mc,if_pos (mX hj),Mc,if_pos Hv];exact k3.append ⟨v,_,A,B3,rfl,rfl,r1,k5⟩
 have off:∀c∈A,∀c'∈B1++(B2++B3),c≠c':=λc hc c' qq z=>(r3 c hc).2.1 ⟨i,by rw[g3,z];simp only[Ja];exact .inr qq⟩
 have Dh:(B1++(A++B3)).Nodup:=JT.mpr ⟨v8,JT.mpr ⟨rn,Di,λx hx y hy=>off x hx y (by simp[hy])⟩,λx hx y hy z=>by
  rcases Jq.mp hy with hy|hy
  ·exact off y hy x (by simp[hx]) z.symm
  ·exact zi x hx y (Jx _ hy) z⟩
 obtain⟨s2,hA⟩:=o2.sq.putL (C:=C) (U:=λa=>H a=none) (U2:=λ_=>False) (ds':=ds.set m d) (vs':=vs.set m v) (A':=B1++(A++B3)) hb z1 g2 g3 ow Dh (λc hc=>by
  rcases Jq.mp hc with hc|hc
  ·exact .inl (by simp[hc])
  ·rcases Jq.mp hc with hc|hc
   ·exact .inr ⟨(r3 c hc).2.2,(r3 c hc).2.1,(r3 c hc).1⟩
   ·exact .inl (by simp[hc])) (λ_ z=>z.elim) (λc hc n z=>z)
 exact⟨a0,vs,j,m,rfl,rfl,g2,by rw[g4.length];exact hj,ok.nx _ _ _ ⟨_,s2,uf ((n.trans o.sn).trans o2.sn) (λb z=>n.free z) g2 (λxs z=>by cases z) ⟨i,by rw[g3];simp⟩ hA⟩ q⟩
end
end L2.Q
namespace L2
open PySem PySem.Spec PySem.SeqAt PyProof.Rows
theorem AH {b:Bool}{p q:Prop}(h1:b=true->p)(h2:b=false->q):(if b=true then p else q):=by
 cases b
 ·exact pU rfl (h2 rfl)
 ·exact yq rfl (h1 rfl)
def jW (a b c d:Int):Bool:=(decide (a<c)&&(decide (c<b)&&decide (b<d))) || (decide (c<a)&&(decide (a<d)&&decide (d<b)))
def cE:List Int->List Int->Bool
 |[a,b],[c,d]=>jW a b c d
 |_,_=>false
def Pair (t:List Int):Prop:=∃a b,t=[a,b]
theorem zE.pair {n:Int}{t:List Int}(h:zE n t):Pair t:=let ⟨a,b,e,_⟩:=h;⟨a,b,e⟩
def il:FD:=λds R=>∃t u,ds=[kD t,kD u]/\Pair t/\Pair u/\R (.bl (cE t u))
theorem il.mono:dj il:=λds R R' k ⟨t,u,e,h1,h2,q⟩=>⟨t,u,e,h1,h2,k _ q⟩
def bN (t u:List Int):Bool:=t.any λi=>decide (i∈u)
def ib:FD:=λds R=>∃t u,ds=[kD t,kD u]/\Pair t/\R (.bl (bN t u))
theorem ib.mono:dj ib:=λds R R' k ⟨t,u,e,h1,q⟩=>⟨t,u,e,h1,k _ q⟩
abbrev Flt:=Option (Str×List Nat)
def yM:Flt->D
 |none=>.b7
 |some (s,ks)=>.tup (.str s::ks.map λ(k:Nat)=>D.int (k:Int))
def j8 (ts:List (List Int))(p:List Int->Bool)(j:Nat):Bool:=match ts[j]? with|some u=>p u|none=>false
noncomputable def fq (rows ts:List (List Int))(k:Nat)(t:List Int):Flt:=if t∈rows then
   (if decide (0<k)&&j8 ts (λu=>!HT.lexLt u t) (k-1) then some ("order",[k]) else
    match (JM k).find? (j8 ts λu=>bN u t)with
    |some j=>some ("twice",[j,k])
    |none=>match (JM k).find? (j8 ts λu=>cE u t)with
      |some j=>some ("cross",[j,k])
      |none=>none)
  else some ("none",[k])
def eG (rows ts:List (List Int))(k:Nat):Flt:=match ts[k]? with
 |none=>none
 |some t=>fq rows ts k t
theorem fR {rows ts:List (List Int)}{k:Nat}{t:List Int}(h:ts[k]?=some t):eG rows ts k=fq rows ts k t:=by unfold eG;rw[h]
def eE (rows ts:List (List Int)):Flt:=(JM ts.length).findSome? (eG rows ts)
theorem eF {p:Nat->Bool}{j:Nat}:∀{k:Nat},j<k->p j=true->(∀i<j,p i=false)->(JM k).find? p=some j
 |0,h,_,_=>by lia
 |k+1,h,hp,hb=>by
  rw[Mz,List.find?_append]
  by_cases hj:j<k
  ·rw[eF hj hp hb];rfl
  ·have e:j=k:=by lia
   subst e;have:(JM j).find? p=none:=Ma.mpr λi hi=>by simp[hb i (J8.mp hi)]
   rw[this];simp[hp]
theorem find_none {p:Nat->Bool}{k:Nat}(h:∀i<k,p i=false):(JM k).find? p=none:=Ma.mpr λi hi=>by simp[h i (J8.mp hi)]
theorem lF {f:Nat->Flt}{j:Nat}{x:Str×List Nat}:∀{k:Nat},j<k->f j=some x->(∀i<j,f i=none)->(JM k).findSome? f=some x
 |0,h,_,_=>by lia
 |k+1,h,hp,hb=>by
  rw[Mz,List.findSome?_append]
  by_cases hj:j<k
  ·rw[lF hj hp hb];rfl
  ·have e:j=k:=by lia
   subst e;have:(JM j).findSome? f=none:=Ls.mpr λi hi=>hb i (J8.mp hi);rw[this];simp[hp]
theorem vo {f:Nat->Flt}{k:Nat}(h:∀i<k,f i=none):(JM k).findSome? f=none:=Ls.mpr λi hi=>h i (J8.mp hi)
def Pairs (ts:List (List Int)):Prop:=∀t∈ts,Pair t
def ik:FD:=λds R=>∃(n:Int) (rows ts:List (List Int)) (k:Nat),ds=[.tup [.int n,.lst (rows.map kD)],.lst (ts.map kD),.int k]/\k<ts.length/\Pairs ts/\k<2 ^ 60/\R (yM (eG rows ts k))
theorem ik.mono:dj ik:=λds R R' k ⟨n,rows,ts,j,e,h1,h2,h3,q⟩=>⟨n,rows,ts,j,e,h1,h2,h3,k _ q⟩
def ij:FD:=λds R=>∃(n:Int) (rows ts:List (List Int)),ds=[.tup [.int n,.lst (rows.map kD)],.lst (ts.map kD)]/\ts.length<=100000/\Pairs ts/\R (yM (eE rows ts))
theorem ij.mono:dj ij:=λds R R' k ⟨n,rows,ts,e,h1,h2,q⟩=>⟨n,rows,ts,e,h1,h2,k _ q⟩
def ie:FD:=λds R=>∃(n:Int) (rows ts:List (List Int)),ds=[.tup [.int n,.lst (rows.map kD)],.lst (ts.map kD)]/\ts.length<=100000/\Pairs ts/\R (.bl (decide (eE rows ts=none)))
theorem ie.mono:dj ie:=λds R R' k ⟨n,rows,ts,e,h1,h2,q⟩=>⟨n,rows,ts,e,h1,h2,k _ q⟩
theorem i5:∀t u:List Int,zf.lexLe t u=!HT.lexLt u t
 |[],[]=>rfl
 |[],_::_=>rfl
 |_::_,[]=>rfl
 |x::xs,y::ys=>by
  show (if x=y then zf.lexLe xs ys else decide (x<=y))=!(if y=x then HT.lexLt ys xs else decide (y<x))
  by_cases h:x=y
  ·rw[if_pos h,if_pos h.symm,i5 xs ys]
  ·rw[if_neg h,if_neg (Lm h)]
   by_cases h2:x<=y
   ·have:¬ y<x:=by lia
    simp[h2,this]
   ·have:y<x:=by lia
    simp[h2,this]
theorem vz (t u:List Int):Bw (kD t) (kD u)=some (.bl (!HT.lexLt u t)):=by
 show (match b9 (t.map D.int),b9 (u.map D.int)with|some ns,some ms=>some (D.bl (zf.lexLe ns ms))|_,_=>none)=_
 rw[dZ,dZ];show some (D.bl (zf.lexLe t u))=_;rw[i5]
theorem sS:∀f:Flt,(yM f).flat=true
 |none=>rfl
 |some (s,ks)=>by
  show (D.flat (.str s)&&D.bJ (ks.map λ(k:Nat)=>D.int (k:Int)))=true;have:D.bJ (ks.map λ(k:Nat)=>D.int (k:Int))=true:=lI (T:=λ_=>True) λd hd=>by
   obtain⟨k,_,rfl⟩:=JK.mp hd;exact⟨trivial,rfl⟩
  rw[this];rfl
theorem eI {ts:List (List Int)}{k:Nat}{t:List Int}(h:ts[k]?=some t):tw (.lst (ts.map kD)) (.int (k:Int))=some (kD t):=vA (by rw[Jt,h];rfl)
structure Bs2 (mg:Str->Option IS):Prop extends Bs mg where
 IC:mg "isinstance" = none
 tuple:mg "tuple" = none
 str:mg "str" = none
 bool:mg "bool" = none
 zip:mg "zip" = none
 enumerate:mg "enumerate" = none
theorem o9 (x:Str)(h:PyData.strOk x=true):(D.str x).pd.canLay0=true/\(D.str x).pd.depth<=1:=⟨by simp[D.pd,JW,h],by simp[D.pd,Kq]⟩
theorem lO {d:D}{n:Nat}(h:d.pd.canLay0=true/\d.pd.depth<=n)(hn:n<=64:=by decide):zA d d=some (.bl false):=nk (bA h hn) (bA h hn) (eqv_refl _ h.1)
end L2
namespace L2.Q
open PySem PySem.Spec PySem.SeqAt PyProof.Rows
structure tP (X:Cx)(C:Cfg)(p:Bool)(ifs:List Expr)(τ:aX):Prop where
 mono:∀β R R',(∀d β,R d β->R' d β)->τ β R->τ β R'
 pt:l4 X ifs (iT X C p τ)
theorem qG {X:Cx}{C:Cfg}:tP X C true [] zK:=⟨λ_ _ _ k h=>k _ _ h,rd⟩
theorem my {X:Cx}{C:Cfg}{p:Bool}{c:Expr}{τ:aX}(h:qj X C p c τ):tP X C p [c] τ:=⟨h.mono,q_ h⟩
section
variable {X:Cx}{C:Cfg}{lk:List (Option Nat)}{γ:dJ}{τ:aX}{φ:aL}{T:List Nat}{pc pe pi:Bool}{scope:K2}{N':List Str}{tg cR elt:Expr}{ifs:List Expr}{ι:fx}{pos pos' kq:Pos}{y:Str}{i:Nat}
theorem Dt (N':List Str)(lk:List (Option Nat))(L:hE X.env.scope.names X.N scope N' lk=true)(sJ:N'.Nodup)(hc:X.calm=true)(hi:vM X C pi tg cR ι)
  (ot:∀U cl c s H ex,tR (aA X scope N' cl c s H ex) (C.u U) tg T γ) (oq:∀U cl c s H ex,tP (aA X scope N' cl c s H ex) (C.u U) pc ifs τ) (ou:∀U cl c s H ex,PQ (aA X scope N' cl c s H ex) (C.u U) pe elt φ)
  (hT:T.all (λi=>match lk[i]? with|some (some _)=>false|_=>true)=true:=by rfl) (hs:∀x,JY cR X.env x=pure x:=by intro _;rfl):PQ X C (pi&&(pc&&pe)) (.ListComp elt [⟨tg,cR,ifs,0⟩] scope pos) (nP lk ι γ τ φ) :=
 Ab (Links.of L) sJ hT hc hi (λa=>ot _) (λa cl c s H ex=>(oq _ cl c s H ex).pt) (oq (λ_=>False) [] 0 X.s₀ X.H₀ []).mono (λa=>ou _) (ot (λ_=>False) [] 0 X.s₀ X.H₀ []).mono (ou (λ_=>False) [] 0 X.s₀ X.H₀ []).mono hs
theorem CM (o:Bool)(N':List Str)(lk:List (Option Nat))(L:hE X.env.scope.names X.N scope N' lk=true)(sJ:N'.Nodup)(hc:X.calm=true)(hi:∀U,vM X (C.u U) pi tg cR ι)
  (ot:∀U cl c s H ex,tR (aA X scope N' cl c s H ex) (C.u U) tg T γ) (oq:∀U cl c s H ex,tP (aA X scope N' cl c s H ex) (C.u U) pc ifs τ) (ou:∀U cl c s H ex,PQ (aA X scope N' cl c s H ex) (C.u U) pe elt φ)
  (hN:X.N.Nodup) (hT:T.all (λi=>match lk[i]? with|some (some _)=>false|_=>true)=true:=by rfl) (hy:X.N[i]?=some y:=by rfl) (hx:Loc X.env.scope y:=by first|exact .inl rfl|exact .inr rfl) (hf:X.fn y=true\/X.env.scope.names.lookup y=some .local:=by first|exact .inl rfl|exact .inr rfl|assumption)
  (vb:Kw (.ListComp elt [⟨tg,cR,ifs,0⟩] scope pos) (some (.Name y pos')) kq.line X.env=pure true:=by rfl)
  (vh:evalThenUse (.ListComp elt [⟨tg,cR,ifs,0⟩] scope pos) X.env (assign (.Name y pos') X.env)=(do let _ <- comprehension (.ListComp elt [⟨tg,cR,ifs,0⟩] scope pos) scope X.env (firstIterPos [⟨tg,cR,ifs,0⟩] pos) (newList []) false (eval cR X.env) (some (assign (.Name y pos') X.env));pure ()):=by first|rfl|exact arm_evalThenUse_ListComp ..)
  (hs:∀x,JY cR X.env x=pure x:=by intro _;rfl) :
  PB X C (.Assign [.Name y pos'] (.ListComp elt [⟨tg,cR,ifs,0⟩] scope pos) kq) (λE β=>nP lk ι γ τ φ β λd _ β'=>E.nx (β'.set i (some (match o with|true=>.own d|false=>.val true d)))) :=
 Aa (K:=λ_ _ _=>True) (Links.of L) sJ hT hc hi ot (λU cl c s H ex=>(oq U cl c s H ex).pt) (oq (λ_=>False) [] 0 X.s₀ X.H₀ []).mono ou (ot (λ_=>False) [] 0 X.s₀ X.H₀ []).mono (ou (λ_=>False) [] 0 X.s₀ X.H₀ []).mono o hN hy hx hf vb vh hs
theorem cP:ze X (uu X tw NF):=λvalue slice pins s σ H x y v u Q I rx ry ⟨W,d1,d2,d,hd,r1,r2,e,q⟩ hs =>
 yg value slice pins s σ H x y v u Q I rx ry ⟨W,d1,d2,d,hd,r1,r2,e,λv H' s r=>q v H' s r λf=>ak.flat f r⟩ hs
end
section
end
theorem p_ (ns:List Int)(lo hi:Option Int):∃ms:List Int,qa (ns.map V.int) lo hi=ms.map V.int/\ms.length<=ns.length:=by
 refine⟨(ns.drop (HT.j5 (ns.map V.int).length 0 lo)).take (HT.j5 (ns.map V.int).length (ns.map V.int).length hi-HT.j5 (ns.map V.int).length 0 lo),?_,?_⟩
 ·unfold qa;rw[List.map_take,List.map_drop]
 ·rw[J5,List.length_drop];lia
section
variable {P:IY}{w:Je}
theorem bO {W:Addr->Prop}{H:Hp}:∀ns:List Int,ag P w W H (ns.map D.int) (ns.map V.int)
 |[]=>rfl
 |n::ns=>⟨_,_,rfl,rfl,bO ns⟩
theorem ud {N:List Str}{vs:List V}{H H':Hp}{n:Nat}{ro:Bool}{U:Addr->Prop}(hl:(L2.start N vs).length=n)(sm:ax H H'):bG P w ⟨H,λ_=>False,ro,U⟩ (L2.start N vs) H' (Jz n none) (λ_=>[]) :=
 ⟨by rw[hl,Ka],λi y d h=>(dw h).elim,λi d h=>(dw h).elim,λi ok h=>(dw h).elim,λi a h=>(nomatch h),λi j a h=>(nomatch h),λi=>J0,sm.kp,λa z e=>z (sm.free e),λi y d h=>(dw h).elim⟩
theorem zX {ro:Bool}{H H':Hp}{b:Bool}{v:V}(h:j4 P w ro H H' (.bl b) v):v=.bl b:=by
 cases ro with
 |true=>obtain⟨A,h1,_⟩:=h;exact h1.1
 |false=>exact h
end
end L2.Q
namespace L2
open PySem PySem.Spec PySem.SeqAt PyProof.Rows
abbrev eY (n:Int)(rows:List (List Int)):D:=.tup [.int n,.lst (rows.map kD)]
theorem o_ (n:Int)(rows:List (List Int)):(eY n rows).pd.canLay0=true/\(eY n rows).pd.depth<=4:=iV λd hd=>by
 rcases Ja.mp hd with rfl|hd
 ·exact⟨(bM n).1,JC (bM n).2 (by decide)⟩
 ·rw[Jk.mp hd];exact bL rows
theorem Pairs.ne {ts:List (List Int)}(h:Pairs ts):∀k∈ts,k≠[]:=λk hk=>by
 obtain⟨a,b,rfl⟩:=h k hk;intro z;cases z
end L2
namespace L2.Q
open PySem PySem.Spec PySem.SeqAt PyProof.Rows
theorem tG {β:bo}{i j k l:Nat}{y1 y2 y3 y4:Bool}{a b c d:Int}{R:D->Kd->bo->Prop}(h1:β[i]?=some (some (.val y1 (.int a))))(h2:β[j]?=some (some (.val y2 (.int b))))(h3:β[k]?=some (some (.val y3 (.int c))))(h4:β[l]?=some (some (.val y4 (.int d))))
  (q:R (.bl (decide (a<b)&&(decide (b<c)&&decide (c<d)))) .own β):mK (kM i) (uw zB (kM j) (uw zB (kM k) (xj zB (kM l)))) β R:=by
 refine⟨_,h1,_,h2,_,rfl,l_ (λz1=>⟨_,h3,_,rfl,l_ (λz2=>⟨_,h4,_,rfl,?_⟩) (λz2=>?_)⟩) (λz1=>?_)⟩
 ·simpa[z1,z2] using q
 ·simpa[z1,z2] using q
 ·simpa[z1] using q
def iZ (ns:List Int):Prop:=∃x y z:Int,ns=[x,y,z]/\0<=x
def sV:FD:=λds R=>∃c:Int,ds=[.int c]/\∀ns,iZ ns->R (.lst (ns.map D.int))
theorem sV.mono:dj sV:=λds R R' k ⟨c,e,q⟩=>⟨c,e,λns o=>k _ (q ns o)⟩
section
variable {P:IY}{w:Je}{H:Hp}{h:Addr}
theorem kS {H:Hp}:∀ns:List Int,aD P w H (ns.map D.int) (ns.map V.int) []
 |[]=>⟨rfl,rfl⟩
 |n::ns=>⟨_,_,[],[],rfl,rfl,⟨rfl,rfl⟩,kS ns⟩
theorem qX {xs ys:List V}(e:H h=some (.lst xs)):Kp (·=h) H (upd H h (.lst ys)):=⟨λb u hb nb=>by rw[ay nb];exact hb,λb wM hb=>by rw[ay λz=>by rw[z,e]at hb;cases hb];exact hb⟩
theorem qY {ys:List V}:∀c,H c≠none->upd H h (.lst ys) c≠none:=λc hc=>by
 by_cases z:c=h
 ·rw[z,az];exact λz=>(nomatch z)
 ·rw[ay z];exact hc
theorem n_ {H':Hp}{r:Int}:j4 P w true H H' (.int r) (.int r):=cX (W:=λ_=>False) rfl rfl
end
end L2.Q
namespace gF
open PySem L2 L2.Q
section
variable (K:PySem.W.Frag)(mg:Str->Option IS)(f:Addr)(fd:JJ)
abbrev D0:Prop:=Df K mg "_law_planted" bR ["pot","many"] f fd
abbrev D1:Prop:=Df K mg "_law_take" cv ["pot","many"] f fd
abbrev D2:Prop:=Df K mg "_law_row" dQ ["pot"] f fd
abbrev D3:Prop:=Df K mg "arcs_cross" cb ["one","other"] f fd
abbrev D4:Prop:=Df K mg "share_a_point" bp ["one","other"] f fd
abbrev D5:Prop:=Df K mg "fault_at" c6 ["row","ties","k"] f fd
abbrev D6:Prop:=Df K mg "first_fault" bS ["row","ties"] f fd
abbrev D7:Prop:=Df K mg "is_set" eX ["row","ties"] f fd
abbrev D8:Prop:=Df K mg "check_set" cH ["row","ties"] f fd
abbrev D9:Prop:=Df K mg "_law_copied" b_ ["row"] f fd
abbrev Fw:Prop:=Df K mg "_law_meet" c5 ["one","other"] f fd
abbrev Gs:Prop:=Df K mg "_law_set" dN ["pot","row"] f fd
abbrev Fv:Prop:=Df K mg "brackets" c7 ["many","ties"] f fd
abbrev Gr:Prop:=Df K mg "shape_of" c4 ["row","ties"] f fd
abbrev Ik:Prop:=Df K mg "_law_pot" cU ["cell"] f fd
end
section
variable {P:IY}{w:Je}{K:PySem.W.Frag}{mg:Str->Option IS}{base:Heap}
theorem mI:aH ["cell"] ["cell"] (ao cU):=mkS
theorem xI {f:Addr} {fd:JJ} (F:t7 K "_law_pot" "_law_pot" cU f fd) (B:Bs mg):aN P w K mg base ck 1 f fd ["cell"] (fC P w true sV):=by
 refine F.ok mI (λvs H Q E h=>?_) (λcg A outer s H vs Q E hr h=>?_)
 ·obtain⟨ds,r,c,rfl,_⟩:=h;obtain⟨x,rr,rfl,_,hr⟩:=r;cases (show rr=[] from hr)
  rfl
 ·obtain⟨ds,r,c,rfl,q⟩:=h;obtain⟨x,rr,rfl,hx,DQ⟩:=r;cases (show rr=[] from DQ)
  cases (show x=V.int c from hx)
  refine⟨_,e7 (gP (mN (bD (kQ (qd rfl) (by rfl) B.max yX (bD aK (bD (bI rF (pv 0) (bI xB aK aK)) er)))
   (bD (bI fM (pv 0) aK) (bD aK er))))),?_⟩
  refine⟨_,rfl,_,_,rfl,rfl,Ad,_,_,rfl,rfl,_,_,rfl,?_⟩;refine⟨_,rfl,_,_,rfl,rfl,(by show (0:Int)<99999999977;decide),(by show 3<=Jg;decide),λp hp=>?_⟩
  refine q [_,_,_] ⟨_,_,_,rfl,?_⟩ _ _ (ax.new hp) ⟨[p],⟨p,_,[],rfl,az,rfl,kS [_,_,_]⟩,by simp,λc hc=>by rw[Jk.mp hc];exact hp⟩
  split <;> lia
theorem bV:aH ["pot","many","found","number"] ["pot","many"] (ao cv):=mkS
theorem jN {f:Addr} {fd:JJ} (F:t7 K "_law_take" "_law_take" cv f fd):aN P w K mg base ck 1 f fd ["pot","many"] (gh P w iZ true bK):=by
 refine F.ok bV (λvs H Q E h=>?_) (λcg A outer s H vs Q E hr h=>?_)
 ·obtain⟨h,vs',ds,ns,rfl,_,_,r,n,rfl,_⟩:=h;obtain⟨x,rr,rfl,_,hr⟩:=r;cases (show rr=[] from hr)
  rfl
 ·obtain⟨h,vs',ds,ns,rfl,e,⟨x,y,z,rfl,x0⟩,r,n,rfl,n0,n1,q⟩:=h;obtain⟨x',rr,rfl,zq,DQ⟩:=r;cases (show rr=[] from DQ)
  cases (show x'=V.int n from zq)
  have hx:H h=some (.lst [.int x,.int y,.int z]):=e;refine⟨_,bg (vV (nQ vY (gS de (pv 0) aK (λ_ _=>rfl)) aK (xN _))
    (bg (fI (i:=2) bV.nd rfl (Or.inl rfl) (bI fM (gS de (pv 0) aK (λ_ _=>rfl)) (pv 1)))
    (bg (jD (bI kU (gS de (pv 0) aK (λ_ _=>rfl)) (pv 1)) (mM (pv 0) aK set_list))
    (e7 (gP (pv 2))))) nR)
   (bg (jD (bI jL (gS de (pv 0) aK (λ_ _=>rfl)) aK) (mM (pv 0) aK set_list))
   (bg (fI (i:=3) bV.nd rfl (Or.inl rfl) (bI fM (bI jL (gS de (pv 0) aK (λ_ _=>rfl)) (bI jI aK (gS de (pv 0) aK (λ_ _=>rfl)))) aK))
   (bg (fI (i:=3) bV.nd rfl (Or.inl rfl) (bI fM (bI jI (pv 3) (pv 3)) aK))
   (bg (fI (i:=3) bV.nd rfl (Or.inl rfl) (bI fM (bI jI (pv 3) (bI jL (pv 3) aK)) aK))
   (e7 (gP (bI fM (bI kU (pv 3) aK) (pv 1)))))))),?_⟩
  refine⟨_,rfl,h,_,_,_,rfl,rfl,cS.of hx,rfl,_,_,rfl,rfl,_,rfl,?_⟩;refine Dw (λhp=>?_) (λhp=>?_)
  ·refine⟨_,rfl,h,_,_,_,rfl,rfl,cS.of hx,rfl,_,rfl,_,_,rfl,rfl,n0,?_⟩;refine⟨_,rfl,h,_,_,_,rfl,rfl,cS.of hx,rfl,_,rfl,_,_,rfl,rfl,l8.of n0 n1,?_⟩;refine⟨_,rfl,h,_,_,0,rfl,rfl,hx,rfl,?_⟩;have m:=gA (a:=x) n0;exact⟨_,rfl,q _ m.1 m.2 _ _ [x / n,y,z] (qX hx) qY az ⟨_,_,_,rfl,Int.ediv_nonneg x0 (Int.le_of_lt n0)⟩ n_⟩
  ·refine⟨_,rfl,h,_,_,_,rfl,rfl,cS.of hx,rfl,_,_,rfl,rfl,?_⟩;refine⟨_,rfl,h,_,_,2,rfl,rfl,hx,rfl,?_⟩;have hy:upd H h (.lst ([V.int x,V.int y,V.int z].set 2 (V.int (z+1)))) h=some (.lst [V.int x,V.int y,V.int (z+1)]):=az;refine⟨_,rfl,h,_,_,_,rfl,rfl,cS.of hy,rfl,_,rfl,h,_,_,_,rfl,rfl,cS.of hy,rfl,_,_,rfl,rfl,.inl ⟨by decide,by decide⟩,_,_,rfl,rfl,_,_,rfl,rfl,(by show (0:Int)<99999999947;decide),?_⟩
   have m1:=gA (a:=y+700001*(z+1)) (b:=99999999947) (by decide)
   refine⟨_,rfl,_,rfl,_,_,rfl,rfl,.inl ⟨Int.lt_of_lt_of_le (by decide) m1.1,Int.lt_trans m1.2 (by decide)⟩,_,_,rfl,rfl,(by show (0:Int)<99999999821;decide),?_⟩
   have m2:=gA (a:=(y+700001*(z+1)) % 99999999947*((y+700001*(z+1)) % 99999999947)) (b:=99999999821) (by decide)
   refine⟨_,rfl,_,rfl,_,_,rfl,rfl,_,_,rfl,rfl,.inl ⟨Int.lt_of_lt_of_le (by decide) m2.1,Int.lt_trans m2.2 (by decide)⟩,_,_,rfl,rfl,(by show (0:Int)<9999999967;decide),?_⟩
   refine⟨_,rfl,_,_,rfl,rfl,l8.of (by decide) (by decide),_,rfl,_,_,rfl,rfl,n0,?_⟩
   have m:=λa:Int=>gA (a:=a) n0;exact q _ (m _).1 (m _).2 _ _ [x,y,z+1] (qX hx) qY az ⟨_,_,_,rfl,x0⟩ n_
end
end gF
namespace L2
open PySem PySem.Spec PyProof.Rows
section
variable {κ:Type}[DecidableEq κ]
def mw (aM:List (κ×V))(k:κ):Option V:=(aM.find? λkv=>decide (kv.1=k)).map (·.2)
def putK (aM:List (κ×V))(k:κ)(v:V):List (κ×V) :=
 if (aM.any λkv=>decide (kv.1=k))=true then aM.map (λkv=>if kv.1=k then (kv.1,v) else kv) else aM++[(k,v)]
theorem kc {p:κ×V}{r:List (κ×V)}{k:κ}(e:p.1=k):mw (p::r) k=some p.2:=by simp[mw,LZ,e]
theorem ke {p:κ×V}{r:List (κ×V)}{k:κ}(e:¬ p.1=k):mw (p::r) k=mw r k:=by simp[mw,LZ,e]
theorem kh (k:κ):∀aM:List (κ×V),(aM.any λkv=>decide (kv.1=k))=(mw aM k).isSome
 |[]=>rfl
 |p::r=>by
  rw[List.any_cons]
  by_cases e:p.1=k
  ·simp only[kc e,decide_eq_true e,Bool.true_or,Option.isSome_some]
  ·rw[ke e,decide_eq_false e,Bool.false_or];exact kh k r
theorem gc (aM:List (κ×V))(k:κ)(v:V):(putK aM k v).length<=aM.length+1:=by
 unfold putK
 split
 ·rw[IW];lia
 ·rw[JV,Jo,Li];lia
theorem tO.pS {o:Option V}{u:Option IS}(r:tO o u):o.isSome=u.isSome:=by
 cases o with
 |none=>cases u with
  |none=>rfl
  |some _=>exact(show False from r).elim
 |some _=>cases u with
  |none=>exact(show False from r).elim
  |some _=>rfl
theorem KV.any {aM:List (κ×V)}{vs:List (κ×IS)}(r:KV aM vs)(k:κ):(aM.any λkv=>decide (kv.1=k))=vs.any λkv=>decide (kv.1=k):=by
 unfold KV at r
 induction r with
 |nil=>rfl
 |cons h t ih=>rw[List.any_cons,List.any_cons,ih,h.1]
theorem KV.xh {aM:List (κ×V)}{vs:List (κ×IS)}(r:KV aM vs)(k:κ){y:V}{u:IS}(ry:RelV y u):
  KV (aM.map λkv=>if kv.1=k then (kv.1,y) else kv) (vs.map λkv=>if kv.1=k then (kv.1,u) else kv):=by
 unfold KV at r ⊢
 induction r with
 |nil=>exact .nil
 | @cons p q ps qs h t ih =>
  rw[Jy,Jy];refine .cons ?_ ih;obtain⟨h1,h2⟩:=h
  by_cases e:p.1=k
  ·rw[if_pos e,if_pos (h1.symm.trans e)];exact⟨h1,ry⟩
  ·rw[if_neg e,if_neg (λz=>e (h1.trans z))];exact⟨h1,h2⟩
theorem KV.put {aM:List (κ×V)}{vs:List (κ×IS)}(r:KV aM vs)(k:κ){y:V}{u:IS}(ry:RelV y u):KV (putK aM k y) (stored vs k u):=by
 unfold putK stored;rw[r.any k]
 by_cases e:(vs.any λkv=>decide (kv.1=k))=true
 ·rw[if_pos e,if_pos e];exact r.xh k ry
 ·rw[if_neg e,if_neg e];exact Paired.snoc r ⟨rfl,ry⟩
theorem KV.length {aM:List (κ×V)}{vs:List (κ×IS)}(r:KV aM vs):aM.length=vs.length:=Paired.length r
end
theorem we {P:IY}{w:Je}{k:Key}{u:IS}(r:RelV (kV k) u):(a8 P w).is k u=true:=by
 cases k with
 |inl i=>obtain⟨t,e⟩:=(show ∃t,u=Value.int i t from r);subst e;exact k9 P w i t
 |inr x=>obtain⟨t,e⟩:=(show ∃t,u=Value.str x t from r);subst e;exact k8 P w x t
theorem i_ {P:IY}{w:Je}:∀{ks:List Key} {us:List IS},Vals (ks.map kV) us->ItemsAre (a8 P w) ks us
 |[],_,r=>by rw[List.map_nil]at r;cases r;exact .nil
 |k::ks,_,r=>by
  rw[Jy]at r;cases r with
  |cons h t=>exact .cons (we h) (i_ t)
abbrev KT (H:Hp):List (List Key×V)->List (List Key×Addr×IS)->Prop:=Paired λp q=>p.1=q.1/\H q.2.1=some (.tup (p.1.map kV))/\RelV p.2 q.2.2
theorem KT.val {H:Hp}{aM:List (List Key×V)}{xs:List (List Key×Addr×IS)}(r:KT H aM xs)(k:List Key):tO (mw aM k) ((atKey xs k).map (·.2)):=by
 induction r with
 |nil=>exact True.intro
 | @cons p q ps qs h t ih =>
  obtain⟨h1,_,h2⟩:=h
  by_cases e:p.1=k
  ·have e':q.1=k:=h1.symm.trans e;have b:atKey (q::qs) k=some q.2:=by simp[atKey,LZ,e']
   rw[kc e,b];exact h2
  ·have e':¬ q.1=k:=λz=>e (h1.trans z);have b:atKey (q::qs) k=atKey qs k:=by simp[atKey,LZ,e']
   rw[ke e,b];exact ih
theorem KT.xh {H:Hp}{aM:List (List Key×V)}{xs:List (List Key×Addr×IS)}(r:KT H aM xs)(k:List Key){y:V}{u:IS}(ry:RelV y u):
  KT H (aM.map λkv=>if kv.1=k then (kv.1,y) else kv) (xs.map (putAt k u)):=by
 induction r with
 |nil=>exact .nil
 | @cons p q ps qs h t ih =>
  rw[Jy,Jy];refine .cons ?_ ih;obtain⟨h1,h2,h3⟩:=h;unfold putAt
  by_cases e:p.1=k
  ·rw[if_pos e,if_pos (h1.symm.trans e)];exact⟨h1,h2,ry⟩
  ·rw[if_neg e,if_neg (λz=>e (h1.trans z))];exact⟨h1,h2,h3⟩
theorem KT.put {H:Hp}{aM:List (List Key×V)}{xs:List (List Key×Addr×IS)}(r:KT H aM xs)(k:List Key){b:Addr}{y:V}{u:IS}(hb:H b=some (.tup (k.map kV)))(ry:RelV y u):
  KT H (putK aM k y) (storedH xs k b u):=by
 have e:(aM.any λkv=>decide (kv.1=k))=(atKey xs k).isSome:=by
  rw[kh,(r.val k).pS,Option.isSome_map]
 unfold putK storedH;rw[e]
 by_cases q:(atKey xs k).isSome=true
 ·rw[if_pos q,if_pos q];exact r.xh k ry
 ·rw[if_neg q,if_neg q];exact Paired.snoc r ⟨rfl,hb,ry⟩
theorem KT.keeps {H H':Hp}{aM:List (List Key×V)}{xs:List (List Key×Addr×IS)}(r:KT H aM xs)(ht:∀b ys,H b=some (.tup ys)->H' b=some (.tup ys)):KT H' aM xs :=
 Paired.xU r λ_ _ z=>⟨z.1,ht _ _ z.2.1,z.2.2⟩
section
variable {P:IY}{w:Je}{H:Hp}{h:Heap}{a:Addr}
theorem vT {u:HO}(ok:eM P w H h)(e:Rd H a u):a6 P w H h a u:=e.ok ok
theorem wA {aM:List (Key×V)}(ok:eM P w H h)(e:Rd H a (.dK aM)):aM.length<=Jg/\(a==J7)=false/\∃vs,KV aM vs/\h.DictOf (a8 P w) a vs :=
 show a6 P w H h a (.dK aM) from vT ok e
theorem Br {aM:List (Key×V)}(ok:eM P w H h)(e:H a=some (.dK aM)):aM.length<=Jg/\(a==J7)=false/\∃vs,KV aM vs/\h.DictOf (a8 P w) a vs:=wA ok (.inl e)
theorem sg {ks:List Key}(ok:eM P w H h)(e:H a=some (.tup (ks.map kV))):(L5 (a8 P w)).is h ks a:=by
 obtain⟨_,its,r,o,h1,h2,n,h3⟩:=(show a6 P w H h a (.tup (ks.map kV)) from ok a _ e)
 exact⟨o,its.toArray,n,h1,h2,h3,by simpa using i_ r⟩
theorem wz {aM:List (List Key×V)}(ok:eM P w H h)(e:Rd H a (.dT aM)):aM.length<=Jg/\(a==J7)=false /\
  ∃xs,KT H aM xs/\h.DictOfH (L5 (a8 P w)) a xs:=by
 obtain⟨z,y,xs,r,o,es,ep,h1,h2,h3,h4,h5⟩:=(show a6 P w H h a (.dT aM) from vT ok e)
 refine⟨z,y,xs,r,o,es,ep,h1,h2,h3,h4,λx hx=>?_,h5⟩;have all:∀{l:List (List Key×V)} {m:List (List Key×Addr×IS)},KT H l m->∀x∈m,(L5 (a8 P w)).is h x.1 x.2.1:=by
  intro l m q
  induction q with
  |nil=>intro x hx;exact nomatch hx
  | @cons p q ps qs hq t ih =>
   intro x hx;rcases Ja.mp hx with e|hx
   ·subst e;exact sg ok (by rw[<- hq.1];exact hq.2.1)
   ·exact ih x hx
 exact all r x hx
theorem Bq {aM:List (List Key×V)}(ok:eM P w H h)(e:H a=some (.dT aM)):aM.length<=Jg/\(a==J7)=false /\
  ∃xs,KT H aM xs/\h.DictOfH (L5 (a8 P w)) a xs:=wz ok (.inl e)
end
def BO (H:Hp)(a:Addr)(y v:V)(H':Hp):Prop :=
 (∃aM k,H a=some (.dK aM)/\y=kV k/\aM.length<Jg/\H'=upd H a (.dK (putK aM k v))) \/
 ∃aM k b,H a=some (.dT aM)/\y=.ref b/\H b=some (.tup (k.map kV))/\aM.length<Jg/\H'=upd H a (.dT (putK aM k v))
section
variable {X:Cx}{pins:List (Addr×Obj)}{σ:St}{H:Hp}{s:IT}{a:Addr}{y v:V}{u r:IS}{A:JQ}{E:IS->IT->Prop}
theorem Inv.big (I:Inv X pins σ H s):J7<s.heap.objs.size:=by
 have h:Ke<s.heap.objs.size:=(I.mod.glob.keeps I.bk).lt;exact Nat.lt_trans (by decide) h
theorem oG {h':Heap}{t':Nat}{ob:HO}(I:Inv X pins σ H s)(mu:BL (H a))(hs:Ln a s.heap h')(he:∃q,h'.get? a=some q)(new:a6 X.prog X.w (upd H a ob) h' a ob):
  Inv X pins σ (upd H a ob) {s with heap:=h',toks:=t'} :=
 I.write (x:=a) (e:=a) mu (.inl rfl) (λb q hb z=>(hs.2 b hb).trans z) he new
theorem yQ {P:IY}{w:Je}{H':Hp}{h':Heap}{aM:List (Key×V)}{vs:List (Key×IS)}(z:aM.length<=Jg)(hd:(a==J7)=false)(rel:KV aM vs)(dd:h'.DictOf (a8 P w) a vs):
  a6 P w H' h' a (.dK aM):=⟨z,hd,vs,rel,dd⟩
theorem p8 {H':Hp}{Q:Unit->IT->Prop}(hu:A.units+1<LV)(I:Inv X pins σ H s)(g:BO H a y v H')(ry:RelV y u)(rv:RelV v r)(h:∀s',Inv X pins σ H' s'->Q () s'):
  Js (model X.prog X.w) A (setItem (.ref a) u r) Q E s:=by
 rcases g with⟨aM,k,e,ey,l,eH⟩|⟨aM,k,b,e,ey,eb,l,eH⟩
 ·subst ey eH;obtain⟨z,hd,vs,rel,dd⟩:=Br I.bz e;have hz:vs.length<=Jg:=by rw[<- rel.length];exact z
  have hl:(putK aM k v).length<=Jg:=by have:=gc aM k v;lia
  refine wpAny_setItem_pairs (hsz:=hz) (we ry) dd λh' Cg hs=>h _ ?_;have he:∃q,h'.get? a=some q:=let ⟨q,_,_,hq,_⟩:=Cg;⟨q,hq⟩
  exact oG I (by rw[e];exact True.intro) hs he (yQ hl hd (rel.put k rv) Cg)
 ·subst ey eH;cases (show u=Value.ref b from ry)
  obtain⟨z,hd,xs,rel,dd⟩:=Bq I.bz e;have hz:xs.length<=Jg:=by rw[<- Paired.length rel];exact z
  have hl:(putK aM k v).length<=Jg:=by have:=gc aM k v;lia
  refine wpAny_setItem_heap (hsz:=hz) (tupleKind_room_in1 hu) (sg I.bz eb) dd λh' Cg hs=>h _ ?_;obtain⟨q,es,ep,hq,h2,h3,h4,_,h5⟩:=Cg;refine oG I (by rw[e];exact True.intro) hs ⟨q,hq⟩ ⟨hl,hd,_,(rel.put k eb rv).keeps λc ys ec=>?_,q,es,ep,hq,h2,h3,h4,h5⟩
  rw[ay (v7 ec e (λz=>nomatch z))];exact ec
end
section
end
def zV (td ty tv:TE):TS:=λD σ H=>tv σ H λv H1=>td σ H1 λx H2=>ty σ H2 λy H3=>∃a H4,x=.ref a/\BO H3 a y v H4/\D.nx σ H4
section
variable {X:Cx}{o i value:Expr}{pos pos':Pos}{td ty tv:TE}
theorem uA (hu:X.A.units+1<LV)(ho:PE X o td)(hi:PE X i ty)(hv:PE X value tv)(hs:Kw value (some (.Subscript o i pos')) pos.line X.env=pure false):
  PS X (.Assign [.Subscript o i pos'] value pos) (zV td ty tv):=by
 intro pins s σ H D I h;refine wpAny_Assign_Subscript (aZ (hv pins s σ H _ I h) λr s1 ⟨v,H1,I1,rv,q1⟩=>aZ (ho pins s1 σ H1 _ I1 q1) λu s2 ⟨x,H2,I2,rx,q2⟩=>aZ (hi pins s2 σ H2 _ I2 q2) λiv s3 ⟨y,H3,I3,ry,a,H4,ex,g,q3⟩=>?_) hs;subst ex;obtain rfl:u=Value.ref a:=rx;exact p8 hu I3 g ry rv λs4 I4=>⟨σ,H4,I4,q3⟩
end
theorem tm {P:IY}{w:Je}{H:Hp}(h:Heap)(hb:J7<h.objs.size):a6 P w H (h.push {cls:=.type "dict",data:=.dict #[]}) h.objs.size (.dT []) :=
 ⟨Jp _,beq_eq_false_iff_ne.mpr (Lm (JB hb)),[],.nil,_,#[],0,JG _ rfl,⟨rfl,rfl,rfl⟩,rfl,rfl,J0⟩
def w9:TE:=λ_ H Q=>∀p,H p=none->Q (.ref p) (upd H p (.dT []))
section
variable {X:Cx}{pos:Pos}
theorem rq:PE X (.Dict [] [] pos) w9:=λpins s σ H Q I h =>
 wpAny_Dict_empty ⟨.ref s.heap.objs.size,_,I.laid (a:=s.heap.objs.size) (o:=.dT []) (t':=s.toks) (λ_ _ q=>Jb _ q) (IZ _) (tm s.heap I.big),rfl,h _ (I.bz.fresh (IZ _))⟩
end
def Ib (H:Hp)(a:Addr):Prop:=(∃aM,Rd H a (.dK aM))\/∃aM,Rd H a (.dT aM)
theorem yp {X:Cx}{pins:List (Addr×Obj)}{σ:St}{H:Hp}{s:IT}{a:Addr}(I:Inv X pins σ H s)(d:Ib H a):
  s.TypeIs (.ref a) "dict" /\ (∀b,Value.ref a=.ref b->∃ob,s.heap.get? b=some ob/\ob.dict=none)/\(a==J7)=false:=by
 rcases d with⟨aM,e⟩|⟨aM,e⟩
 ·obtain⟨_,hd,vs,_,dd⟩:=wA I.bz e;refine⟨dd.typeIs,λb q=>?_,hd⟩;cases q;obtain⟨ob,_,_,h1,h2,_⟩:=dd;exact⟨ob,h1,h2.2.1⟩
 ·obtain⟨_,hd,xs,_,dd⟩:=wz I.bz e;refine⟨dd.typeIs,λb q=>?_,hd⟩;cases q;obtain⟨ob,_,_,h1,h2,_⟩:=dd;exact⟨ob,h1,h2.2.1⟩
section
end
section
end
section
end
section
end
section
end
section
variable {κ:Type}[DecidableEq κ]
end
end L2
namespace L2.Q
open PySem PySem.Spec PySem.SeqAt PyProof.Rows
theorem _root_.L2.bF.qA {k:Nat}{A:JQ}(r:bF k A):A.units+1<LV:=by have:=r.un;lia
def iK (t:List Int):List Key:=t.map L7
theorem yr {t u:List Int}(h:iK t=iK u):t=u:=by
 unfold iK at h
 induction t generalizing u with
 |nil=>cases u with|nil=>rfl|cons _ _=>cases h
 |cons a t ih =>
  cases u with
  |nil=>cases h
  |cons b u =>
   rw[Jy,Jy]at h;injection h with h1 h2
   injection h1 with h1
   rw[h1,ih h2]
theorem wm (t:List Int):(iK t).map kV=t.map V.int:=by
 unfold iK;rw[Ki];rfl
def dP (ts:List (List Int))(b:Bool):D:=.dT (ts.map iK) (Jz ts.length (.bl b))
def l3 (ts:List (List Int))(t:List Int):List (List Int):=if t∈ts then ts else ts++[t]
theorem jC {v:V}:∀{ks:List (List Key)} {n:Nat},ks.length=n->ks.zip (Jz n v)=ks.map λk=>(k,v)
 |[],_,_=>by simp
 |k::ks,0,h=>by cases h
 |k::ks,n+1,h=>by
  rw[List.replicate_succ,Lq,jC (Mm h)];rfl
theorem ux {v:V}{ts:List (List Int)}{t:List Int}:putK ((ts.map iK).map λk=>(k,v)) (iK t) v=((l3 ts t).map iK).map λk=>(k,v):=by
 unfold putK l3;have any:(((ts.map iK).map λk=>(k,v)).any λkv=>decide (kv.1=iK t))=decide (t∈ts):=by
  rw[ME,LN,decide_eq_true_eq];constructor
  ·rintro⟨kv,h1,h2⟩;obtain⟨k,h3,rfl⟩:=JK.mp h1;obtain⟨u,h4,rfl⟩:=JK.mp h3;have:=yr (of_decide_eq_true h2);rw[<- this];exact h4
  ·intro h;exact⟨(iK t,v),JK.mpr ⟨iK t,JK.mpr ⟨t,h,rfl⟩,rfl⟩,by simp⟩
 rw[any]
 by_cases h:t∈ts
 ·rw[if_pos (by simpa using h),if_pos h,Ki]
  refine Lj λk _=>?_;show (if k=iK t then (k,v) else (k,v))=(k,v)
  split <;> rfl
 ·rw[if_neg (by simpa using h),if_neg h,Kt,Kt]
  rfl
section
variable {P:IY}{w:Je}{H:Hp}{a:Addr}
theorem n6 {b:Bool}:∀{n:Nat},aD P w H (Jz n (.bl b)) (Jz n (V.bl b)) []
 |0=>⟨rfl,rfl⟩
 |n+1=>⟨_,_,[],[],rfl,rfl,⟨rfl,rfl⟩,n6⟩
theorem oN {b:Bool}:∀{n:Nat} {vs:List V} {A:List Addr},aD P w H (Jz n (.bl b)) vs A->vs=Jz n (V.bl b)/\A=[]
 |0,_,_,h=>h
 |n+1,_,_,⟨v,r,A1,A2,e,eA,h1,h2⟩=>by
  obtain⟨e1,e2⟩:=h1;obtain⟨e3,e4⟩:=oN h2;rw[e,eA,e1,e2,e3,e4];exact⟨rfl,rfl⟩
theorem rE {ts:List (List Int)}{b:Bool}(h:H a=some (.dT ((ts.map iK).map λk=>(k,V.bl b)))):Own P w H (dP ts b) (.ref a) [a] :=
 ⟨a,Jz ts.length (V.bl b),[],rfl,by rw[jC (by simp)];exact h,by simp,rfl,n6⟩
theorem yR {ts:List (List Int)}{b:Bool}{v:V}{A:List Addr}(h:Own P w H (dP ts b) v A):∃a,v=.ref a/\A=[a]/\H a=some (.dT ((ts.map iK).map λk=>(k,V.bl b))):=by
 obtain⟨a,vs,A',e,h1,l,eA,h2⟩:=h;obtain⟨e3,e4⟩:=oN h2;rw[e3,jC (by simp)]at h1
 exact⟨a,e,by rw[eA,e4],h1⟩
end
section
variable {X:Cx}{C:Cfg}{k:Expr}{φk:aL}{i:Nat}{x:Str}{pos pos' px pc:Pos}{b:Bool}
theorem uE (b:Bool):PQ X C true (.Dict [] [] pos) (λβ R=>R (dP [] b) .own β) :=
 ⟨λβ R R' k h=>k _ _ _ h,rq.pre λσ H Q h p hp=>by
  obtain⟨β,own,s,q⟩:=h;refine q _ _ own ((Out.refl s _).same (ax.new hp)) ⟨[p],rE az,by simp,λc hc=>?_⟩
  rw[Jk.mp hc];exact⟨hp,λz=>s.t5 p z hp,JR λz=>s.iu p z hp⟩⟩
theorem n4 {j}(hu:X.A.units+1<LV)(hk:PQ X C.z true k φk)(hn:Nm X i x:=by exact xQ)
  (hs:Kw (.Constant (.bool b) j pc) (some (.Subscript (.Name x px) k pos')) pos.line X.env=pure false:=by rfl) :
  PB X C (.Assign [.Subscript (.Name x px) k pos'] (.Constant (.bool b) j pc) pos) (λE β=>(∃ts,β[i]?=some (some (.own (dP ts b))))/\φk β λjd _ β2=>∃ts t,jd=kD t/\β2[i]?=some (some (.own (dP ts b)))/\ts.length<Jg/\E.nx (β2.set i (some (.own (dP (l3 ts t) b))))):=by
 refine⟨λE E' β l h=>⟨h.1,hk.mono _ _ _ (λjd _ β2 h=>by obtain⟨ts,t,h1,h2,h3,q⟩:=h;exact⟨ts,t,h1,h2,h3,l.nx _ q⟩) h.2⟩,(uA hu (gR (pos:=px) hn) hk.pe (rC (j:=j) (pos:=pc)) hs).pre λDe σ H h=>?_⟩
 obtain⟨Z,E,β,⟨own,s0,n⟩,⟨⟨Im,wq⟩,q⟩,ok⟩:=h;obtain⟨v0,DK,Iy,_⟩:=s0.ow i _ wq;refine⟨v0,DK,tQ.of hk s0 q λjd kk β2 v H1 aB h o r=>?_⟩;obtain⟨ts,t,e1,hb,hl,q⟩:=h;subst e1;obtain⟨v1,FX,ow,h0⟩:=o.sq.ow i _ hb;rw[DK]at FX;cases FX;obtain⟨a,rfl,eA,ha⟩:=yR ow;obtain⟨p,vs,rfl,hp,rv⟩:=r.rep;have ev:vs=(iK t).map kV:=by
  rw[wm];have key:∀(t:List Int) (vs:List V),ag X.prog X.w (av C.z (Wn aB) kk) H1 (t.map D.int) vs->vs=t.map V.int:=λt=>by
   induction t with
   |nil=>intro vs h;exact h
   |cons y t ih =>
    intro vs h;obtain⟨z,r',e1,e2,e3⟩:=h;rw[e1,ih r' e3,show z=V.int y from e2]
    rfl
  exact key t vs rv
 have Ez:a∈aB i:=by rw[eA];simp
 refine⟨a,_,rfl,.inr ⟨_,iK t,p,ha,rfl,by rw[<- ev];exact hp,by rw[IW,IW];exact hl,rfl⟩,?_⟩
 have hA:∀c∈[a],c∈aB i\/(C.H0 c=none/\¬ Wn aB c/\(λ_=>False) c):=λc hc=>.inl (by rw[Jk.mp hc];exact Ez)
 have r':Own X.prog X.w (upd H1 a (.dT (putK ((ts.map iK).map λk=>(k,V.bl b)) (iK t) (V.bl b)))) (dP (l3 ts t) b) (.ref a) [a]:=rE (by rw[ux];exact az)
 exact ok.nx _ _ _ ⟨_,o.sq.xk (C:=C) (U:=λ_=>False) (U2:=λ_=>False) hb DK Ez r' (by simp) hA (λ_ z=>z) (λ_ _ z=>z),mE (C:=C) (n.trans o.sn) (λ_ z=>z.elim) ⟨i,Ez⟩ ⟨_,ha,λxs z=>by cases z⟩ hA⟩ q
end
end L2.Q
namespace Dk
open PySem PySem.Spec PyProof.Rows
section
variable {prog:IY}{w:Je}{A:JQ}{E:IS->IT->Prop}{s:IT}
theorem pJ (d:Addr)(hd:(d==J7)=false):
  MeetsIn prog w (Lo.«dict.__len__» ⟨[.ref d],[]⟩) (λ_ R s=>∃o es ep,s.heap.get? d=some o/\o.data=.dict es ep/\R (.ok (.ret (.int es.size s.toks))) {s with toks:=s.toks+1}) :=
 .of_wp λA R s h=>by
  obtain⟨o,es,ep,ho,lD,h⟩:=h;show Js _ _ (dictSize d >>= _) _ _ s;unfold dictSize;refine IU (IU (LA ho lD (Jc ?_)));show Js _ _ (Builtin.Dict.pendingCount d >>= _) _ _ s;refine IU (wpAny_pendingCount_other hd ?_);refine wpAny_ret_mkInt ?_;rw[Nat.add_zero];exact h
theorem r_ {d:Addr} {o:Obj} {es:Array KN} {ep:Nat} {Q:IS->IT->Prop} (hd:(d==J7)=false) (hT:s.TypeIs (.ref d) "dict") (ho:s.heap.get? d=some o) (lD:o.data=.dict es ep) (sH:(es.size:Int)<2 ^ 63)
  (h:Q (.int es.size (s.toks+1)) {s with toks:=s.toks+1+1}):Js (model prog w) A (Lo.«len» ⟨[.ref d],[]⟩) (λfin s'=>∃r,fin=.done (.ret r)/\Q r s') E s:=by
 unfold Lo.«len»
 refine IU (m:=oneArg "len" _) (Jc ?_);refine IU (m:=callSpecial? (.ref d) (Mj "__len__")) (LL (name:=Mj "__len__") hT F.slot_dict_len
  (call_meetsIn F.slot_dict_len hT F.entry_dict_len (F.args_dict_len_1 _) (pJ d hd) ⟨o,es,ep,ho,lD,?_⟩))
 show Js _ _ _ _ _ {s with toks:=s.toks+1}
 refine IU (Kv (Jc ?_));refine IU (wpAny_letGo ?_);show Js _ _ (if ((es.size:Nat):Int)<0 then _ else _) _ _ _
 rw[if_neg (by lia)]
 show Js _ _ (if ((es.size:Nat):Int) >= 2 ^ 63 then _ else _) _ _ _
 rw[if_neg (by lia)]
 exact IU (wpAny_mkInt (Jc ⟨_,rfl,h⟩))
theorem tI {d:Addr} {o:Obj} {es:Array KN} {ep:Nat} {Q:IS->IT->Prop} (hd:(d==J7)=false) (hT:s.TypeIs (.ref d) "dict") (ho:s.heap.get? d=some o) (lD:o.data=.dict es ep) (sH:(es.size:Int)<2 ^ 63)
  (h:Q (.int es.size (s.toks+1)) {s with toks:=s.toks+1+1}):Js (model prog w) A (call (.builtin "len") [.ref d]) Q E s :=
 Lx kind_len plain_len entry_len (args_len1 _) (r_ hd hT ho lD sH h)
end
end Dk
namespace L2.Q
open PySem PySem.Spec PySem.SeqAt PyProof.Rows
theorem ny {X:Cx}:b5 X (.builtin "len") (λds=>match ds with | [.dT ks _]=>some (.int ks.length)|_=>none):=by
 intro pins s σ H xs us Q I r h;obtain⟨W,ds,d,hd,r1,e,q⟩:=h
 match ds,e with
 |[.dT ks es],e =>
  cases e;obtain⟨x,rfl,a,vs,rfl,ha,hl,nW,rs⟩:=iw r1;obtain⟨u,rfl,rx⟩:=vals1 r;cases rx;have T:=(yp I (.inr ⟨_,.inl ha⟩)).1;obtain⟨z,y,wM,pr,o,zv,ep,h1,h2,h3,h4,h5⟩:=(show a6 X.prog X.w H s.heap a (.dT (ks.zip vs)) from I.bz a _ ha)
  have hlen:zv.size=ks.length:=by
   have e1:zv.toList.length=wM.length:=by rw[h4,IW]
   have e2:(ks.zip vs).length=wM.length:=by
    clear h4 h5 e1 z
    generalize ks.zip vs=kv at pr
    induction pr with
    |nil=>rfl
    |cons _ _ ih=>simp[ih]
   rw[List.length_zip,<- hl,Nat.min_self]at e2;rw[<- Jn,e1,e2]
  have zk:(ks.zip vs).length=ks.length:=by rw[List.length_zip,<- hl,Nat.min_self]
  refine Dk.tI y T h1 h3 (by rw[hlen,<- zk];rw[JU]at z;lia) ?_
  rw[hlen];exact⟨.int ks.length,H,I.tok _,⟨_,rfl⟩,q _ _ (ax.refl _) rfl⟩
end L2.Q
namespace Dk
open PySem PySem.Spec PyProof.Rows
def At (h:Heap)(d:Addr)(es:Array KN)(ep:Nat):Prop:=∃o,h.get? d=some o/\o.ExactDict/\o.data=.dict es ep
theorem At.at' {h h':Heap}{d:Addr}{es:Array KN}{ep:Nat}(x:At h d es ep)(e:∀o,h.get? d=some o->h'.get? d=some o):At h' d es ep:=by
 obtain⟨o,h1,r⟩:=x;exact⟨o,e _ h1,r⟩
theorem At.lt {h:Heap}{d:Addr}{es:Array KN}{ep:Nat}(x:At h d es ep):d<h.objs.size:=by
 obtain⟨o,h1,_⟩:=x;exact Jf h1
theorem At.typeIs {s:IT} {d:Addr} {es:Array KN} {ep:Nat} (x:At s.heap d es ep):s.TypeIs (.ref d) "dict" := by
 obtain⟨o,h1,h2,_⟩:=x;exact⟨o,h1,h2.1⟩
section
variable {prog:IY}{w:Je}{A:JQ}{E:IS->IT->Prop}{s:IT}{d it:Addr}{es:Array KN}{i ep:Nat}
theorem pQ {Q:IS->IT->Prop}(hd:(d==J7)=false)(hm:At s.heap d es ep)
  (hQ:Q (.ref s.heap.objs.size) {s with heap:=s.heap.push {cls:=.type "dict_keyiterator",data:=.fields #[.ref d,.int 0 0,.int es.size 0,.int ep 0]}}):Js (model prog w) A (pyIter (.ref d)) Q E s:=by
 have hT:=hm.typeIs;obtain⟨o,ho,hc,lD⟩:=id hm;refine wpAny_pyIter_slot hT F.slot_dict_iter (K8 F.slot_dict_iter hT F.entry_dict_iter ?_ (F.args_dict_iter_1 _));unfold Lo.«dict.__iter__»
 refine IU ?_;unfold Builtin.Dict.dictSlotNone;refine IU (wpAny_notOrdered_dict hT ?_);show Js _ _ (pure (Value.ref d)) _ _ s;refine Jc ?_;show Js _ _ (Builtin.Dict.showsAll d >>= _) _ _ s;unfold Builtin.Dict.showsAll;rw[if_neg (by rw[hd];exact KU)]
 refine IU (Jc ?_);refine IU (LA ho lD ?_);refine IU (My ho lD ?_);refine IU (Lz (Jc ⟨_,rfl,"dict_keyiterator",_,⟨_,JG _ rfl,rfl⟩,F.slot_dict_keyiterator_next.lookup,?_⟩));simpa[rawInt] using hQ
theorem next_item {Q:Option IS->IT->Prop}(hit:s.heap.IsKeyIter it d i es.size ep)(hm:At s.heap d es ep)(EC:i<es.size)
  (hQ:∀h',h'.IsKeyIter it d (i+1) es.size ep->Ln it s.heap h'->Q (some es[i].key) {s with heap:=h'}):Js (model prog w) A (MI (.ref it)) Q E s:=by
 obtain⟨o,ho,hc,hd⟩:=id hit;obtain⟨od,A8,qp,Bh⟩:=id hm;unfold MI;refine IU (wpAny_attempt (LL (name:=Mj "__next__") hit.typeIs F.slot_dict_keyiterator_next
  (K8 F.slot_dict_keyiterator_next hit.typeIs F.entry_dict_keyiterator_next ?_ (F.args_dict_keyiterator_next_1 _))))
 refine IU (Jc ?_);refine IU ?_;refine IU ?_
 first|refine IU (Ko hit.typeIs (Jc ?_))|refine IU (KP hit.typeIs (Jc ?_))
 refine IU (wpAny_fieldsOf ho hd ?_);have yB:MD "dict_keyiterator" = false:=by decide
 simp only[yB,KW,if_false];show Js _ _ (if (Value.ref d==Value.none)=true then _ else _) _ _ s
 rw[if_neg (show ¬ ((Value.ref d==Value.none)=true) from KU)]
 refine IU (Jc ?_);refine IU (LA A8 Bh ?_);rw[if_neg (by simp)]
 refine IU (Jc ?_);refine IU (My A8 Bh ?_);rw[if_neg (by simp)]
 refine Jc ?_;simp only[show ¬ ((i:Int)<0) from by lia,if_false,JZ,Array.getElem?_eq_getElem EC]
 refine IU ?_
 first|refine IU (Ko hit.typeIs (Jc ?_))|refine IU (KP hit.typeIs (Jc ?_))
 refine IU (wpAny_isOneOf_keyiter hit.typeIs ?_);show Js _ _ (setField (.ref it) 1 (rawInt ((i:Int)+1)) >>= _) _ _ s;refine IU (wpAny_setField ho hd (by simp) ?_)
 have vg:(s.heap.update it (Obj.mapFields (·.setIfInBounds 1 (rawInt ((i:Int)+1))))).IsKeyIter it d (i+1) es.size ep :=
  ⟨_,Heap.get?_update_self _ ho (Obj.isFreed_of_fields (Obj.data_mapFields hd _)),(Obj.cls_mapFields ..).trans hc,by rw[Obj.data_mapFields hd];simp[rawInt]⟩
 refine IU (Kv ?_);refine IU (wpAny_isOneOf_keyiter (s:={s with heap:=s.heap.update it (Obj.mapFields (·.setIfInBounds 1 (rawInt ((i:Int)+1))))}) vg.typeIs ?_)
 show Js _ _ (pure es[i].key) _ _ _;exact Jc (Jc ⟨_,rfl,Jc (hQ _ vg (Heap.SameBut.update ..))⟩)
end
section
variable {prog:IY}{w:Je}{A:JQ}{E:IS->IT->Prop}{s:IT}{d it:Addr}{es:Array KN}{i ep:Nat}
theorem next_end {Q:Option IS->IT->Prop}(hh:A.handled=none)(hit:s.heap.IsKeyIter it d i es.size ep)(hm:At s.heap d es ep)(Ga:es.size<=i)
  (hQ:∀h',Heap.ExtBut it s.heap h'->Q none {s with heap:=h'}):Js (model prog w) A (MI (.ref it)) Q E s:=by
 obtain⟨o,ho,hc,hd⟩:=id hit;obtain⟨od,A8,qp,Bh⟩:=id hm;unfold MI;refine IU (wpAny_attempt (LL (name:=Mj "__next__") hit.typeIs F.slot_dict_keyiterator_next
  (K8 F.slot_dict_keyiterator_next hit.typeIs F.entry_dict_keyiterator_next ?_ (F.args_dict_keyiterator_next_1 _))))
 refine IU (Jc ?_);refine IU ?_;refine IU ?_
 first|refine IU (Ko hit.typeIs (Jc ?_))|refine IU (KP hit.typeIs (Jc ?_))
 refine IU (wpAny_fieldsOf ho hd ?_);have yB:MD "dict_keyiterator" = false:=by decide
 simp only[yB,KW,if_false];show Js _ _ (if (Value.ref d==Value.none)=true then _ else _) _ _ s
 rw[if_neg (show ¬ ((Value.ref d==Value.none)=true) from KU)]
 refine IU (Jc ?_);refine IU (LA A8 Bh ?_);rw[if_neg (by simp)]
 refine IU (Jc ?_);refine IU (My A8 Bh ?_);rw[if_neg (by simp)]
 refine Jc ?_;simp only[show ¬ ((i:Int)<0) from by lia,if_false,JZ,K1 Ga]
 refine IU ?_
 first|refine IU (Ko hit.typeIs (Jc ?_))|refine IU (KP hit.typeIs (Jc ?_))
 show Js _ _ (setField (.ref it) 0 .none >>= _) _ _ s;refine IU (wpAny_setField ho hd (by simp) ?_)
 show Js _ _ (newExc (.type "StopIteration") [] >>= _) _ _ _;refine IU ?_;simp only[newExc,newTuple];refine IU (Lz ?_ (by size_fits))
 refine IU (m:=firstArgMember _ _) (wpAny_of_eq (a:=Value.none) (by first|rfl|(simp only[firstArgMember];rfl)) ?_)
 refine Lz ?_ (by size_fits)
 simp only[raiseNew];refine IU (wpAny_handled ?_);rw[show A.in1.handled=none from hh]
 refine IU (Jc (wpAny_throw ?_));refine IU (wpAny_isInstance (T:="StopIteration") (b:=true) ⟨_,JG _ rfl,rfl⟩ isSubtype_stop ?_);exact Jc (hQ _ (((Heap.SameBut.update ..).extBut.push _).push _))
theorem walks (hh:A.handled=none)(I d:Addr)(A9:d≠I)(es:Array KN)(ep:Nat):
  Walks prog w A I [I,d] [I] es.size (λi v=>∃h:i<es.size,v=es[i].key) (λi h=>h.IsKeyIter I d i es.size ep/\At h d es ep) where
 sub:=λb hb=>by simp at hb;simp[hb]
 frame:=λ_ _ _ st hk=>⟨st.1.at λo e=>hk I (by simp) o e,st.2.at' λo e=>hk d (by simp) o e⟩
 item:=λi s Q E hi st hQ=>by
  refine next_item st.1 st.2 hi λh' vg FZ=>?_;exact hQ _ h' s.toks ⟨hi,rfl⟩ ⟨vg,st.2.at' λo e=>FZ.extBut d o A9 e⟩ λb o hb e=>FZ.extBut b o (λh=>hb (by simp[h])) e
 done:=λs Q E st hQ=>next_end hh st.1 st.2 (IZ _) λh' HF=>hQ h' s.toks λb o hb e=>HF b o (λh=>hb (by simp[h])) e
 self:=λ_ _ _ _ st hQ=>wpAny_pyIter_keyiter st.1 hQ
theorem src (lo:(d==J7)=false):PySem.W.KdlSrc prog w "dict" d d es.size (λi v=>∃h:i<es.size,v=es[i].key) (λh=>At h d es ep) where
 type:=λ_ hm=>hm.typeIs
 there:=λ_ hm=>⟨hm.lt,hm.lt⟩
 keep:=λ_ _ hm hk=>hm.at' λo e=>hk d (.inl rfl) o e
 notList:=by decide
 notTuple:=by decide
 hint:=λ_ _ _ _ hm hq=>PySem.W.kdl_hint_dict hm.typeIs hq
 iter:=λ_ _ hh hm=>⟨_,_,(λ_ _ hq=>pQ lo hm hq),walks hh _ d (JB hm.lt) es ep,⟨⟨_,JG _ rfl,rfl,rfl⟩,hm.at' λo e=>Jb _ e⟩⟩
theorem jX {R:List IS->IT->Prop}(lo:(d==J7)=false)(hm:At s.heap d es ep)(hn:es.size<=Jg)(hh:A.handled=none)
  (h:∀(h':Heap) (tk:Nat),(∀b o,s.heap.get? b=some o->h'.get? b=some o)->R (es.toList.map (·.key)) {s with heap:=h',toks:=tk}):Js (model prog w) A (collect (.ref d)) R E s:=by
 refine PySem.W.kdu_collect (src (es:=es) (ep:=ep) lo) hh hm hn λh' tk acc hk Bl=>?_;have e:acc.toList=es.toList.map (·.key):=by
  apply LF;intro i;rw[Jt,Jj,Jj]
  by_cases hi:i<acc.size
  ·obtain⟨g1,g2⟩:=Bl.2 i acc[i] (getElem?_pos acc i hi);rw[getElem?_pos acc i hi,getElem?_pos es i g1,g2];rfl
  ·have:=Bl.1;rw[K1 (by lia),K1 (by lia)]
   rfl
 rw[e];exact h h' tk hk
end
end Dk
namespace L2.Q
open PySem PySem.Spec PySem.SeqAt PyProof.Rows HT
noncomputable def ua:List Key->Option (List Int)
 |[]=>some []
 |.inl i::r=>(ua r).map (i::·)
 |.inr _::_=>none
noncomputable def iC:List (List Key)->Option (List (List Int))
 |[]=>some []
 |k::r=>match ua k,iC r with
  |some t,some ts=>some (t::ts)
  |_,_=>none
theorem qD:∀t:List Int,ua (iK t)=some t
 |[]=>rfl
 |i::t=>by
  show (ua (iK t)).map (i::·)=_;rw[qD t];rfl
theorem ki:∀ts:List (List Int),iC (ts.map iK)=some ts
 |[]=>rfl
 |t::ts=>by
  show (match ua (iK t),iC (ts.map iK)with|some t,some ts=>some (t::ts)|_,_=>none)=_
  rw[qD,ki ts]
theorem qE:∀{k:List Key} {t:List Int},ua k=some t->k=iK t
 |[],t,h=>by cases h;rfl
 |.inl i::r,t,h=>by
  obtain⟨u,h1,h2⟩:=Jv.mp (show (ua r).map (i::·)=some t from h)
  rw[<- h2,qE h1];rfl
 |.inr _::_,t,h=>by cases h
theorem nH:∀{ks:List (List Key)} {ts:List (List Int)},iC ks=some ts->ks=ts.map iK
 |[],ts,h=>by cases h;rfl
 |k::r,ts,h=>by
  have h:(match ua k,iC r with|some t,some ts=>some (t::ts)|_,_=>none)=some ts:=h
  cases h1:ua k with
  |none=>rw[h1]at h;cases h
  |some t =>
   cases h2:iC r with
   |none=>rw[h1,h2]at h;cases h
   |some us =>
    rw[h1,h2]at h;cases h;rw[qE h1,nH h2];rfl
noncomputable def tq:List D->Option D
 |[.dT ks _]=>match iC ks with
  |some ts=>if ts.length<=1000/\(∀k∈ts,k≠[]) then some (.lst ((dq ts).map kD)) else none
  |none=>none
 |_=>none
theorem ue {ts:List (List Int)}{b:Bool}(h:∀k∈ts,k≠[])(l:ts.length<=1000):tq [dP ts b]=some (.lst ((dq ts).map kD)):=by
 show (match iC (ts.map iK)with|some ts=>if ts.length<=1000/\(∀k∈ts,k≠[]) then some (D.lst ((dq ts).map kD)) else none|none=>none)=_
 rw[ki];exact if_pos ⟨l,h⟩
theorem oj {H:Hp}:∀{ts:List (List Int)} {vs:List V} {xs:List (List Key×Addr×IS)},(ts.map iK).length=vs.length ->
  Paired (λ(p:List Key×V) (q:List Key×Addr×IS)=>p.1=q.1/\H q.2.1=some (.tup (p.1.map kV))/\RelV p.2 q.2.2) ((ts.map iK).zip vs) xs->∃us:List (Addr×List Int),xs.map (λq=>Value.ref q.2.1)=us.map (λx=>Value.ref x.1)/\us.map (·.2)=ts/\∀u∈us,H u.1=some (.tup (u.2.map V.int))
 |[],vs,xs,_,p=>by cases p;exact⟨[],rfl,rfl,λ_ z=>(nomatch z)⟩
 |t::ts,[],xs,l,p=>by cases l
 |t::ts,v::vs,xs,l,p=>by
  cases p with
  |cons h r =>
   obtain⟨us,h1,h2,h3⟩:=oj (Mm l) r
   rename_i q wM
   refine⟨(q.2.1,t)::us,by rw[Jy,Jy,h1],by rw[Jy,h2],λu hu=>?_⟩
   rcases Ja.mp hu with rfl|hu
   ·have:=h.2.1;rw[wm]at this;exact this
   ·exact h3 u hu
theorem jZ {X:Cx} (hc:X.calm=true):nF X (.builtin "sorted") tq:=by
 intro pins s σ H xs Il Q I r h;obtain⟨W,ds,d,hd,r1,e,q⟩:=h
 match ds,e with
 |[.dT ks fs],e =>
  have e:(match iC ks with|some ts=>if ts.length<=1000/\(∀k∈ts,k≠[]) then some (D.lst ((dq ts).map kD)) else none|none=>none)=some d:=e
  cases hk:iC ks with
  |none=>rw[hk]at e;cases e
  |some ts =>
   rw[hk]at e;obtain⟨⟨hl,A9⟩,rfl⟩:=cQ e;have:=nH hk;subst this;obtain⟨x,rfl,p,vs,rfl,hp,Hz,nW,rs⟩:=iw r1;obtain⟨u,rfl,rx⟩:=vals1 r;cases rx;obtain⟨z,y,wM,pr,o,es,ep,h1,h2,h3,h4,h5⟩:=(show a6 X.prog X.w H s.heap p (.dT ((ts.map iK).zip vs)) from I.bz p _ hp)
   obtain⟨us,eu,ek,T⟩:=oj Hz pr;have T2:tN H us:=λt ht=>⟨T t ht,A9 _ (by rw[<- ek];exact JK.mpr ⟨t,ht,rfl⟩)⟩
   have ul:us.length=ts.length:=by rw[<- ek,IW]
   have ev:es.toList.map (·.key)=us.map λx=>Value.ref x.1:=by
    rw[h4,Ki,<- eu];rfl
   have HU:es.size=us.length:=by
    have:=congrArg Mw ev;rw[IW,IW,Jn]at this;exact this
   refine TS.mC (vs:=us.map λx=>Value.ref x.1) (kf:=mW H) (by rw[IW];lia) (λR hR=>Dk.jX (es:=es) (ep:=ep) y ⟨o,h1,h2,h3⟩ (by rw[HU,ul,JU];lia) (by simp[I.ok.hd hc]) λh' tk kp=>by rw[ev];exact hR h' tk kp) (nI I.bz T2 (IZ _)) λout pZ h' tk n B9 hs k1 kp vf=>?_
   ·obtain⟨e1,e2⟩:=iX T2 B9;have zl:out.length=us.length:=by rw[B9.length_eq,IW]
    have eq:(out.map (vn H)).map (·.2)=dq ts:=by
     refine qL (by rw[<- ek];exact e2.map _) ?_
     refine K0.mpr (K0.mpr ?_);refine hs.imp_of_mem λ{x y} hx hy hh=>?_;obtain⟨t,ht,rfl⟩:=JK.mp (B9.mem_iff.mp hx);obtain⟨t',DM,rfl⟩:=JK.mp (B9.mem_iff.mp hy);exact hh
    have I1:Inv X pins σ H {s with heap:=pZ,toks:=s.toks}:=I.kept k1
    have EM:H pZ.objs.size=none:=I1.bz.fresh (IZ _);have rk:ag X.prog X.w W H ((dq ts).map kD) ((out.map (vn H)).map jx):=by rw[<- eq];exact fG λt ht=>(T2 t (e2.mem_iff.mp ht)).1
    refine⟨.ref pZ.objs.size,_,I1.laid (t':=tk) (o:=.lst ((out.map (vn H)).map jx)) kp (IZ _) ?_,rfl,q _ _ (ax.new EM) (Rp.g8 hd EM rk) λf=>rR EM f rk⟩;refine⟨by rw[IW,IW,zl,ul,JU];lia,out,n,?_,vf⟩
    have:=fH (out.map (vn H));rw[<- e1]at this;exact this
end L2.Q
namespace gF
open PySem L2 L2.Q
def dG:FD:=λds R=>∃n:Int,ds=[.int n]/\0<=n/\n<=40/\∀ts:List (List Int),ts.length<=n.toNat->bx n ts->R (.lst (ts.map kD))
theorem dG.mono:dj dG:=λds R R' k ⟨n,e,h1,h2,q⟩=>⟨n,e,h1,h2,λts a b=>k _ (q ts a b)⟩
def lL:FD:=λds R=>ds=[]/\∀(n:Int) ts,0<=n->n<=40->ts.length<=400->bx n ts->nB ts->ts.Nodup->R (.tup [.int n,.lst (ts.map kD)])
theorem lL.mono:dj lL:=λds R R' k ⟨e,q⟩=>⟨e,λn ts a b c d f g=>k _ (q n ts a b c d f g)⟩
section
variable {P:IY}{w:Je}{K:PySem.W.Frag}{mg:Str->Option IS}{base:Heap}
theorem aS:aH ["pot","many","often","pile","found","point","way"] ["pot","many"] (ao bR):=mkS
theorem mO {p5 je} (wB:D0 K mg p5 je) {yN nc} (dT:D1 K mg yN nc) (B:Bs mg):aN P w K mg base ck 2 p5 je ["pot","many"] (gh P w iZ true dG):=by
 have GT:aN P w K mg base ck 1 _ _ _ (gh P w iZ true bK):=jN dT.F;refine xM wB.F aS (λds R DX=> by obtain⟨n,e,_⟩ := DX;subst e;rfl) λcg A outer s H E IO hr=>⟨_,(ai (bP (i:=2) (bw ah cP (bB (aa au (aa au (aa au af)))) (aR (ih:=0) bK.mono GT (hr.mono (by decide)) dT.m dT.F.kp dT.b (aa au af))) aS.nd)
    (ai (dW (i:=3) (λ_=>(bB af)) aS.nd)
    (ai (dW (i:=4) (λ_=>(bB af)) aS.nd)
    (ai (cy J3 rfl (aU B.range (aa (ae (i:=1)) af)) (aw (i:=5) aS.nd) (ai (bP (i:=6) (aR (ih:=0) bK.mono GT (hr.mono (by decide)) dT.m dT.F.kp dT.b (aa (cI c_ gZ au (ae (i:=2))) af)) aS.nd)
    (ar (cK (oU.t (q9 (oU.t (gx (aO ah (bH.m (gY hr.units)) (ae (i:=6)) au) (e8 (aO ah (bH.m (gX hr.units)) (ae (i:=3)) (bB af))))) (nT (oU.t (gx (aO ah (bH.m jK) (aV ah (b5.m cj) B.len eK (aa (ae (i:=3)) af)) (cI ah (bH.m dY) (cI ah (bH.m dY) (ae (i:=1)) (ae (i:=5))) au)) (e8 (aO ah (bH.m (gX hr.units)) (ae (i:=3)) (bB af)))))))) (ar (fK (i:=4) (λ_=>(c8 (aa (xn (i:=3)) (aa (ae (i:=5)) af)))))) (ar (cK (aO ah (bH.m bt) (ae (i:=6)) au) (ar (fK (i:=3) (λ_=>(ae (i:=5))))) a7))))))
    (ar (aY (aV c_ fw B.sorted fU (aa (ae (i:=4)) af)))))))),λds R h=>?_⟩
 obtain⟨n,rfl,n0,n1,q⟩:=h;refine⟨trivial,trivial,trivial,zh,trivial,rfl,trivial,rfl,trivial,3,rfl,by lia,by lia,λr r0 r1=>pick r0 (by simpa using r1) λd hd=>?_⟩
 obtain⟨m,rfl,m0,m1⟩:∃m:Int,d=.int m/\0<=m/\m<=4:=by
  simp only[Ja,Kn,or_false]at hd;rcases hd with rfl|rfl|rfl
  ·exact⟨0,rfl,by lia,by lia⟩
  ·exact⟨1,rfl,by lia,by lia⟩
  ·exact⟨4,rfl,by lia,by lia⟩
 refine⟨Jp _,trivial,Jp _,trivial,_,rfl,trivial,n,rfl,by lia,by lia,trivial,?_⟩
 refine⟨λi β=>∃(ps:List Int) (fs:List (List Int)) (x5 x6:Option Q.B),β=[some (.hand iZ),some (.val false (.int n)),some (.val true (.int m)),some (.own (.lst (ps.map D.int))),some (.own (.lst (fs.map kD))),x5,x6]/\fs.length<=i/\ps.length<=i/\i<=n.toNat/\bx n fs/\(∀p∈ps,0<=p/\p<i),⟨[],[],_,_,rfl,IZ _,IZ _,Jp _,bx.nil,λ_ z=>(nomatch z)⟩,?_,?_⟩
 ·rintro i d β hd ⟨ps,fs,x5,x6,rfl,h1,h2,h3,h4,h5⟩;obtain⟨hi,rfl⟩:=bX hd;refine⟨rfl,trivial,_,rfl,_,rfl,trivial,rfl,trivial,_,rfl,by lia,by lia,λr r0 r1=>?_⟩
  refine(λ(pop:ps≠[]->_) (E_:_)=>(λsecond=>⟨_,rfl,trivial,_,gD _ _,_,rfl,l_ (λ_=>⟨_,rfl,trivial,Jp _,_,lP ps [],_,rfl,Dx (λhp=>yq rfl (pop hp)) (λhp=>second)⟩) (λ_=>pU rfl second)⟩)
   ⟨_,rfl,trivial,_,rfl,trivial,_,rfl,trivial,_,rfl,_,rfl,trivial,_,rfl,_,rfl,_,rfl,l_ (λ_=>⟨_,rfl,trivial,Jp _,_,lP ps [],_,rfl,Dx (λhp=>pop hp) (λhp=>E_)⟩) (λ_=>pU rfl E_)⟩) ?_ ?_
  ·intro hp;obtain⟨qs,p,rfl⟩:∃qs p,ps=qs++[p]:=⟨ps.dropLast,ps.getLast hp,(List.dropLast_concat_getLast hp).symm⟩;have F0:=h5 p (by simp)
   rw[JV,Kz]at h2;refine⟨⟨_,rfl⟩,qs.map D.int,.int p,by simp,trivial,_,rfl,trivial,tU,trivial,fs.map kD,rfl,by rw[IW,JU];lia,?_⟩
   refine⟨qs,fs++[[p,0+(i:Int)]],_,_,by rw[nM];rfl,by simp;lia,by lia,by lia,h4.app (bx.one (by lia) (by lia) (by lia)),λx hx=>?_⟩
   have:=h5 x (by simp[hx])
   lia
  ·refine⟨_,rfl,trivial,_,rfl,_,rfl,l_ (λ_=>?_) (λ_=>⟨ps,fs,_,_,rfl,by lia,by lia,by lia,h4,λp hp=>by have:=h5 p hp;lia⟩)⟩
   refine⟨⟨_,rfl⟩,_,rfl,trivial,_,rfl,by rw[IW,JU];lia,?_⟩
   refine⟨ps++[0+(i:Int)],fs,_,_,by rw[qO];rfl,by lia,by simp;lia,by lia,h4,λp hp=>?_⟩
   rcases Jq.mp hp with z|z
   ·have:=h5 p z;lia
   ·rw[Jk.mp z];lia
 ·rintro β ⟨ps,fs,x5,x6,rfl,h1,h2,h3,h4,h5⟩;rw[cw]at h1;refine⟨_,rfl,trivial,_,gL h4.ne (by lia),.inl ⟨cB _,trivial,rfl,q _ ?_ (kn h4)⟩⟩
  rw[(bU fs).length_eq];exact h1
theorem a5:aH ["pot","many","found","tie","reach","k","a","b"] ["pot"] (ao dQ):=mkS
theorem xH {Cd vq} (dR:D2 K mg Cd vq) {yN nc} (dT:D1 K mg yN nc) {p5 je} (wB:D0 K mg p5 je) (B:Bs mg):aN P w K mg base ck 3 Cd vq ["pot"] (gh P w iZ true lL):=by
 have GT:aN P w K mg base ck 1 _ _ _ (gh P w iZ true bK):=jN dT.F;have Ie:aN P w K mg base ck 2 _ _ _ (gh P w iZ true dG):=mO wB dT B;refine xM dR.F a5 (λds R DW=> by obtain⟨e,_⟩ := DW;subst e;rfl) λcg A outer s H E IO hr=>⟨_,(ai (bP (i:=1) (aR (ih:=0) bK.mono GT (hr.mono (by decide)) dT.m dT.F.kp dT.b (aa (bw ah cP (bB (aa au (aa au (aa au af)))) (aR (ih:=0) bK.mono GT (hr.mono (by decide)) dT.m dT.F.kp dT.b (aa au af))) af)) a5.nd)
    (ai (dW (i:=2) (λ_=>(uE true)) a5.nd)
    (jF (cK (aO ah (bH.m (gY hr.units)) (aR (ih:=0) bK.mono GT (hr.mono (by decide)) dT.m dT.F.kp dT.b (aa au af)) au) (ar (cy J3 rfl (cx (aR (ih:=0) dG.mono Ie (hr.mono (by decide)) wB.m wB.F.kp wB.b (aa (ae (i:=1)) af))) (aw (i:=3) a5.nd) (ar (n4 (i:=2) hr.qA (ae (i:=3)))))) a7)
    (ai (bP (i:=4) (bw ah cP (bB (aa au (aa au af))) (aR (ih:=0) bK.mono GT (hr.mono (by decide)) dT.m dT.F.kp dT.b (aa au af))) a5.nd)
    (ai (cy J3 rfl (aU B.range (aa (cI ah (bH.m uS) (aR (ih:=0) bK.mono GT (hr.mono (by decide)) dT.m dT.F.kp dT.b (aa (bw ah cP (bB (aa au (aa au (aa au af)))) (aR (ih:=0) bK.mono GT (hr.mono (by decide)) dT.m dT.F.kp dT.b (aa au af))) af)) (dU ah (b5.m qe) B.int yY (aa (eh ah (bH.m jK) (ae (i:=1)) au) af))) af)) (aw (i:=5) a5.nd) (ai (bP (i:=6) (aR (ih:=0) bK.mono GT (hr.mono (by decide)) dT.m dT.F.kp dT.b (aa (cI ah (bH.m dY) (ae (i:=1)) au) af)) a5.nd)
    (ai (bP (i:=7) (cI c_ gZ (cI c_ gZ (ae (i:=6)) au) (aR (ih:=0) bK.mono GT (hr.mono (by decide)) dT.m dT.F.kp dT.b (aa (aV ah (b5.m (nv rfl)) B.min yW (aa (ae (i:=4)) (aa (cI ah (bH.m dY) (cI ah (bH.m dY) (ae (i:=1)) au) (ae (i:=6))) af))) af))) a5.nd)
    (ar (cK (aO ah (bH.m bt) (aV ah (b5.m ny) B.len eK (aa (ae (i:=2)) af)) au) (ar (n4 (i:=2) hr.qA (c8 (aa (ae (i:=6)) (aa (ae (i:=7)) af))))) a7)))))
    (ar (aY (c8 (aa (ae (i:=1)) (aa (aV c_ (jZ rfl) B.sorted fU (aa (ae (i:=2)) af)) af)))))))))),λds R h=>?_⟩
 obtain⟨rfl,q⟩:=h;refine⟨rfl,trivial,trivial,trivial,zh,trivial,rfl,trivial,rfl,trivial,3,rfl,by lia,by lia,λr r0 r1=>pick r0 (by simpa using r1) λd hd=>?_⟩
 obtain⟨m,rfl,m0,m1⟩:∃m:Int,d=.int m/\0<m/\m<=41:=by
  simp only[Ja,Kn,or_false]at hd;rcases hd with rfl|rfl|rfl
  ·exact⟨9,rfl,by lia,by lia⟩
  ·exact⟨17,rfl,by lia,by lia⟩
  ·exact⟨41,rfl,by lia,by lia⟩
 refine⟨trivial,rfl,trivial,m,rfl,m0,by lia,λn n0 n1=>⟨trivial,?_⟩⟩
 have add:∀{ts:List (List Int)} {t:List Int},ts.Nodup->bx n ts->zE n t->(l3 ts t).Nodup/\bx n (l3 ts t)/\(l3 ts t).length<=ts.length+1:=λ{ts t} h1 h2 h3=>by
  unfold l3
  split
  ·exact⟨h1,h2,by lia⟩
  ·next hn =>
   refine⟨JT.mpr ⟨h1,by simp,λx hx y hy z=>?_⟩,λu hu=>?_,by simp⟩
   ·rw[Jk.mp hy]at z;exact hn (by rw[<- z];exact hx)
   ·rcases Jq.mp hu with z|z
    ·exact h2 u z
    ·rw[Jk.mp z];exact h3
 refine⟨λβ=>∃(ts:List (List Int)) (x3:Option Q.B),β=[some (.hand iZ),some (.val true (.int n)),some (.own (dP ts true)),x3,none,none,none,none]/\ts.Nodup/\bx n ts/\ts.length<=40,?_,?_⟩
 ·refine⟨rfl,trivial,rfl,trivial,2,rfl,by lia,by lia,λr r0 r1=>⟨trivial,_,gD _ _,_,rfl,l_ (λ_=>?_) (λ_=>⟨[],_,rfl,J0,bx.nil,by simp⟩)⟩⟩
  refine⟨rfl,_,rfl,trivial,rfl,trivial,n,rfl,n0,by lia,λus ul ut=>⟨_,rfl,trivial,?_⟩⟩
  refine⟨λi β=>∃(ts:List (List Int)) (x3:Option Q.B),β=[some (.hand iZ),some (.val true (.int n)),some (.own (dP ts true)),x3,none,none,none,none]/\ts.Nodup/\bx n ts/\ts.length<=i,⟨[],_,rfl,J0,bx.nil,by simp⟩,?_,?_⟩
  ·rintro i d β hd ⟨ts,x3,rfl,h1,h2,h3⟩;rw[Jt]at hd;obtain⟨t,et,rfl⟩:=Jv.mp hd;have hi:i<us.length:=(Jd.mp et).1;obtain⟨g1,g2,g3⟩:=add h1 h2 (ut t (JI et));exact⟨⟨_,rfl⟩,_,rfl,ts,t,rfl,rfl,by rw[JU];lia,_,_,rfl,g1,g2,by lia⟩
  ·rintro β ⟨ts,x3,rfl,h1,h2,h3⟩;rw[IW]at h3;exact⟨ts,_,rfl,h1,h2,by lia⟩
 rintro β ⟨ts,x3,rfl,h1,h2,h3⟩;refine⟨trivial,trivial,tU,trivial,rfl,trivial,rfl,trivial,2,rfl,by lia,by lia,λr r0 r1=>pick r0 (by simpa using r1) λd hd=>?_⟩
 obtain⟨rc,rfl,Iu,Ir⟩:∃m:Int,d=.int m/\0<m/\m<=41:=by
  simp only[Ja,Kn,or_false]at hd;rcases hd with rfl|rfl
  ·exact⟨4,rfl,by lia,by lia⟩
  ·exact⟨41,rfl,by lia,by lia⟩
 refine⟨rfl,trivial,trivial,trivial,zh,trivial,rfl,trivial,rfl,trivial,3,rfl,by lia,by lia,λr r0 r1=>pick r0 (by simpa using r1) λd hd=>?_⟩
 obtain⟨mm,rfl,G7,IB⟩:∃m:Int,d=.int m/\0<m/\m<=301:=by
  simp only[Ja,Kn,or_false]at hd;rcases hd with rfl|rfl|rfl
  ·exact⟨9,rfl,by lia,by lia⟩
  ·exact⟨40,rfl,by lia,by lia⟩
  ·exact⟨301,rfl,by lia,by lia⟩
 refine⟨trivial,rfl,trivial,mm,rfl,G7,by lia,λc c0 c1=>?_⟩
 have Bp:Bu (.int c) (.int (if decide (n>1)=true then 1 else 0))=some (.int (c*(if decide (n>1)=true then 1 else 0))):=by
  show (if l7 c _ then some _ else none)=_
  rw[if_pos (show l7 c (if decide (n>1)=true then 1 else 0) from .inl ⟨by lia,by lia⟩)]
 have hj:0<=c*(if decide (n>1)=true then 1 else 0)/\c*(if decide (n>1)=true then 1 else 0)<=300/\(¬ n>1->c*(if decide (n>1)=true then 1 else 0)=0):=by
  by_cases hn:n>1
  ·simp[hn];lia
  ·simp[hn]
 generalize c*(if decide (n>1)=true then 1 else 0)=j at Bp hj
 refine⟨trivial,_,rfl,trivial,_,rfl,trivial,_,rfl,_,Bp,trivial,j,rfl,by lia,by lia,trivial,?_⟩
 refine⟨λi β=>∃(ts:List (List Int)) (x3 x5 x6 x7:Option Q.B),β=[some (.hand iZ),some (.val true (.int n)),some (.own (dP ts true)),x3,some (.val true (.int rc)),x5,x6,x7]/\ts.Nodup/\bx n ts/\ts.length<=40+i,⟨ts,_,_,_,_,rfl,h1,h2,by lia⟩,?_,?_⟩
 ·rintro i d β hd ⟨ts,x3,x5,x6,x7,rfl,h1,h2,h3⟩;obtain⟨hi,rfl⟩:=bX hd;have hn:n>1:=JR λz=>by have:=hj.2.2 z;lia
  refine⟨rfl,_,rfl,trivial,_,rfl,trivial,rfl,trivial,_,rfl,by lia,by lia,λa a0 a1=>?_⟩
  refine⟨_,rfl,trivial,_,rfl,trivial,rfl,_,rfl,trivial,_,rfl,trivial,_,rfl,trivial,_,rfl,_,rfl,trivial,_,rfl,trivial,rfl,trivial,_,rfl,by split <;> lia,by split <;> lia,λr r0 r1=>⟨_,rfl,?_⟩⟩
  have hb:a+1+r<n:=by split at r1 <;> lia
  refine⟨_,rfl,trivial,_,rfl,trivial,_,rfl,_,rfl,l_ (λ_=>?_) (λ_=>⟨ts,_,_,_,_,rfl,h1,h2,by lia⟩)⟩
  obtain⟨g1,g2,g3⟩:=add h1 h2 (t:=[a,a+1+r]) ⟨_,_,rfl,by lia,by lia,by lia⟩
  exact⟨⟨_,rfl⟩,_,rfl,trivial,_,rfl,trivial,tU,ts,[a,a+1+r],rfl,rfl,by rw[JU];lia,_,_,_,_,_,rfl,g1,g2,by lia⟩
 ·rintro β ⟨ts,x3,x5,x6,x7,rfl,h1,h2,h3⟩;rw[cw]at h3;refine⟨_,rfl,trivial,_,rfl,trivial,_,ue h2.ne (by lia),.inl ⟨cB _,trivial,tU,trivial,rfl,q n (dq ts) n0 (by lia) (by rw[(bU ts).length_eq];lia) (kn h2) (eW ts) ((bU ts).nodup_iff.mpr h1)⟩⟩
end
end gF
namespace L2
open PySem PySem.Spec PySem.SeqAt PyProof.Rows
def Apart (t u:List Int):Prop:=bN t u=false/\cE t u=false
def Good (rows ts:List (List Int)):Prop:=(∀t∈ts,t∈rows)/\ts.Pairwise (λa b=>HT.lexLt a b=true)/\ts.Pairwise Apart
theorem cm {t u:List Int}:bN t u=true↔∃i∈t,i∈u:=by
 unfold bN;rw[LN];simp
theorem kB (t u:List Int):bN t u=bN u t:=by
 rw[ME,cm,cm];exact⟨λpW=>by obtain⟨i,a,b⟩:=pW;exact⟨i,b,a⟩,λsA=>by obtain⟨i,a,b⟩:=sA;exact⟨i,b,a⟩⟩
theorem nt {a b c d:Int}:jW a b c d=true↔(a<c/\c<b/\b<d)\/(c<a/\a<d/\d<b):=by
 unfold jW;simp[Bool.or_eq_true,JS]
theorem lV (t u:List Int):cE t u=cE u t:=by
 match t,u with
 |[a,b],[c,d] =>
  exact Bool.or_comm _ _
 |[],[]=>rfl
 |[],[_]=>rfl
 |[],[_,_]=>rfl
 |[],_::_::_::_=>rfl
 |[_],[]=>rfl
 |[_],[_]=>rfl
 |[_],[_,_]=>rfl
 |[_],_::_::_::_=>rfl
 |[_,_],[]=>rfl
 |[_,_],[_]=>rfl
 |[_,_],_::_::_::_=>rfl
 |_::_::_::_,[]=>rfl
 |_::_::_::_,[_]=>rfl
 |_::_::_::_,[_,_]=>rfl
 |_::_::_::_,_::_::_::_=>rfl
theorem Apart.symm {t u:List Int}(h:Apart t u):Apart u t:=⟨(kB u t).trans h.1,(lV u t).trans h.2⟩
theorem Apart.ne {t u:List Int}(p:Pair t)(h:Apart t u):t≠u:=λe=>by
 obtain⟨a,b,rfl⟩:=p;have:=h.1;rw[<- e,LH]at this;exact this (cm.mpr ⟨a,by simp,by simp⟩)
theorem lH {rows ts:List (List Int)}{k:Nat}{t:List Int}(hk:k<ts.length):fq rows ts k t=none↔t∈rows/\(∀u,0<k->ts[k-1]?=some u->HT.lexLt u t=true)/\∀j u,j<k->ts[j]?=some u->Apart u t:=by
 have Ci:∀(p:List Int->Bool) (j:Nat) (u:List Int),ts[j]?=some u->j8 ts p j=p u:=λp j u e=>by unfold j8;rw[e]
 unfold fq
 by_cases h1:t∈rows
 ·rw[if_pos h1]
  by_cases h2:(decide (0<k)&&j8 ts (λu=>!HT.lexLt u t) (k-1))=true
  ·rw[if_pos h2];refine⟨λz=>(nomatch z),λjR=>?_⟩;obtain⟨_,z,_⟩:=jR;rw[JS]at h2;have h0:0<k:=by simpa using h2.1
   have e:ts[k-1]?=some ts[k-1]:=I_ (by lia)
   have:=h2.2;rw[Ci _ _ _ e,z _ h0 e]at this;exact absurd this (by simp)
  ·rw[if_neg h2];have o:∀u,0<k->ts[k-1]?=some u->HT.lexLt u t=true:=λu h0 e=>by
    rw[Ci _ _ _ e]at h2;cases q:HT.lexLt u t with
    |true=>rfl
    |false=>exact absurd (by rw[q];simp[h0]) h2
   have sh:∀p:List Int->Bool,(JM k).find? (j8 ts p)=none↔∀j u,j<k->ts[j]?=some u->p u=false:=λp=>by
    rw[Ma];refine⟨λz j u hj e=>?_,λz j hj=>?_⟩
    ·have:=z j (J8.mpr hj);rw[Ci p j u e]at this;simpa using this
    ·have jT:=J8.mp hj;have e:ts[j]?=some ts[j]:=I_ (by lia)
     rw[Ci p j _ e,z j _ jT e];simp
   cases q1:(JM k).find? (j8 ts λu=>bN u t)with
   |some j =>
    refine⟨λz=>(nomatch z),λm5=>?_⟩;obtain⟨_,_,z⟩:=m5;rw[(sh _).mpr λj u hj e=>(z j u hj e).1]at q1;cases q1
   |none =>
    cases q2:(JM k).find? (j8 ts λu=>cE u t)with
    |some j =>
     refine⟨λz=>(nomatch z),λsx=>?_⟩;obtain⟨_,_,z⟩:=sx;rw[(sh _).mpr λj u hj e=>(z j u hj e).2]at q2;cases q2
    |none=>exact⟨λ_=>⟨h1,o,λj u hj e=>⟨(sh _).mp q1 j u hj e,(sh _).mp q2 j u hj e⟩⟩,λ_=>rfl⟩
 ·rw[if_neg h1];exact⟨λz=>(nomatch z),λz=>absurd z.1 h1⟩
theorem pw_iff {R:List Int->List Int->Prop}{ts:List (List Int)}:ts.Pairwise R↔∀(i j:Nat) (u t:List Int),i<j->ts[i]?=some u->ts[j]?=some t->R u t:=by
 rw[Lw];refine⟨λh i j u t aF e1 e2=>?_,λh i j hi hj aF=>h i j _ _ aF (I_ hi) (I_ hj)⟩;obtain⟨hi,rfl⟩:=Jd.mp e1;obtain⟨hj,rfl⟩:=Jd.mp e2;exact h i j hi hj aF
theorem m9 {rows ts:List (List Int)}:eE rows ts=none↔∀k<ts.length,eG rows ts k=none:=by
 unfold eE;rw[Ls];exact⟨λh k hk=>h k (J8.mpr hk),λh k hk=>h k (J8.mp hk)⟩
theorem m_ {rows ts:List (List Int)}:eE rows ts=none↔Good rows ts:=by
 rw[m9];constructor
 ·intro h;have h':∀k t,ts[k]?=some t->_:=λk t e=>(lH (Jd.mp e).1).mp ((fR e).symm.trans (h k (Jd.mp e).1));refine⟨λt ht=>?_,pw_iff.mpr ?_,pw_iff.mpr λi j u t aF e1 e2=>(h' j t e2).2.2 i u aF e1⟩
  ·obtain⟨k,e⟩:=List.mem_iff_getElem?.mp ht;exact(h' k t e).1
  ·intro i j
   induction j with
   |zero=>intro u t aF;lia
   |succ j ih =>
    intro u t aF e1 e2;have hj:j<ts.length:=by have:=(Jd.mp e2).1;lia
    have e3:ts[j]?=some ts[j]:=I_ hj;have l:=(h' (j+1) t e2).2.1 ts[j] (by lia) e3
    by_cases EG:i<j
    ·exact dA (ih u ts[j] EG e1 e3) l
    ·have:i=j:=by lia
     subst this;rw[e1]at e3;cases e3;exact l
 ·rintro⟨h1,h2,h3⟩ k hk;have e:ts[k]?=some ts[k]:=I_ hk;rw[fR e];exact(lH hk).mpr ⟨h1 _ (LM hk),λu h0 eu=>pw_iff.mp h2 (k-1) k u _ (by lia) eu e,λj u hj eu=>pw_iff.mp h3 j k u _ hj eu e⟩
theorem Good.nil {rows:List (List Int)}:Good rows []:=⟨λ_ z=>(nomatch z),.nil,.nil⟩
theorem sM {rows l:List (List Int)}(p:Pairs l):Good rows (dq l)↔(∀t∈l,t∈rows)/\l.Pairwise Apart:=by
 have pm:=bU l;have ps:Pairs (dq l):=λt ht=>p t (pm.mem_iff.mp ht);constructor
 ·rintro⟨h1,_,h3⟩;exact⟨λt ht=>h1 t (pm.mem_iff.mpr ht),(pm.pairwise_iff λh=>Apart.symm h).mp h3⟩
 ·rintro⟨h1,h3⟩;have Gi:(dq l).Pairwise Apart:=(pm.pairwise_iff λh=>Apart.symm h).mpr h3;refine⟨λt ht=>h1 t (pm.mem_iff.mp ht),?_,Gi⟩;have nd:(dq l).Pairwise (λa b=>a≠b):=Gi.imp_of_mem λha _ h=>h.ne (ps _ ha);refine((eW l).and nd).imp λ{a b} ⟨h,n⟩=>?_;cases q:HT.lexLt a b with
  |true=>rfl
  |false=>exact absurd (dc q h) n
theorem oz (t:List Int):(kD t).flat=true:=by
 have:=cB [t];show D.bJ (t.map D.int)=true;have h:(D.bJ (t.map D.int)&&true)=true:=this
 rwa [Bool.and_true]at h
end L2
namespace gF
open PySem L2 L2.Q
def iq:FD:=λds R=>∃(n:Int) (rows ts:List (List Int)),ds=[eY n rows,.lst (ts.map kD)]/\ts.length<=600/\bx n rows/\Good rows ts/\R .b7
theorem iq.mono:dj iq:=λds R R' k ⟨n,rows,ts,e,h1,h2,h3,q⟩=>⟨n,rows,ts,e,h1,h2,h3,k _ q⟩
section
variable {P:IY}{w:Je}{K:PySem.W.Frag}{mg:Str->Option IS}{base:Heap}
theorem bf:aH ["one","other","a","b","c","d"] ["one","other"] (ao cb):=mkS
theorem iH {mf d4} (dX:D3 K mg mf d4):aN P w K mg base ck 1 mf d4 ["one","other"] (fC P w true il):=by
 refine tW dX.F bf (λds R DV=> by obtain⟨t,u,e,_⟩ := DV;subst e;rfl) λcg A outer s H E hr=>⟨_,(ai (jG (ae (i:=0)) (cJ (n:=2) rfl (aG (aw (i:=2) bf.nd) (aG (aw (i:=3) bf.nd) bZ))))
    (ai (jG (ae (i:=1)) (cJ (n:=2) rfl (aG (aw (i:=4) bf.nd) (aG (aw (i:=5) bf.nd) bZ))))
    (ar (aY (nU (dz (ae (i:=2)) (bY bt (ae (i:=4)) (bY bt (ae (i:=3)) (e_ bt (ae (i:=5)))))) (mL (dz (ae (i:=4)) (bY bt (ae (i:=2)) (bY bt (ae (i:=5)) (e_ bt (ae (i:=3)))))))))))),λds R h=>?_⟩
 obtain⟨t,u,rfl,⟨a,b,rfl⟩,⟨c,d,rfl⟩,q⟩:=h;refine⟨_,rfl,_,rfl,rfl,_,_,rfl,_,_,rfl,rfl,?_⟩;refine⟨_,rfl,_,rfl,rfl,_,_,rfl,_,_,rfl,rfl,?_⟩;refine tG (a:=a) (b:=c) (c:=b) (d:=d) rfl rfl rfl rfl ⟨_,rfl,AH (λh=>⟨trivial,?_⟩) (λh=>tG (a:=c) (b:=a) (c:=d) (d:=b) rfl rfl rfl rfl ⟨trivial,?_⟩)⟩
 ·have:cE [a,b] [c,d]=true:=by show (_ || _)=true;rw[h];rfl
  rw[<- this];exact q
 ·have:cE [a,b] [c,d]=(decide (c<a)&&(decide (a<d)&&decide (d<b))):=by show (_ || _)=_;rw[h];rfl
  rw[<- this];exact q
theorem fF:aH ["one","other"] ["one","other"] (ao bp):=mkS
theorem rL {mh d6} (dS:D4 K mg mh d6):aN P w K mg base ck 1 mh d6 ["one","other"] (fC P w true ib):=by
 refine tW dS.F fF (λds R DU=> by obtain⟨t,u,e,_⟩ := DU;subst e;rfl) λcg A outer s H E hr=>⟨_,(ar (aY (nU (eh ah (bH.m (jJ hr.eS)) (bw ah cP (ae (i:=0)) au) (ae (i:=1))) (mL (eh ah (bH.m (jJ hr.eS)) (bw ah cP (ae (i:=0)) au) (ae (i:=1))))))),λds R h=>?_⟩
 obtain⟨t,u,rfl,⟨a,b,rfl⟩,q⟩:=h;refine⟨_,rfl,trivial,_,rfl,trivial,_,rfl,_,jV a u,_,rfl,l_ (λh=>⟨trivial,?_⟩) (λh=>⟨_,rfl,trivial,_,rfl,trivial,_,rfl,_,jV b u,trivial,?_⟩)⟩
 ·show R _;simpa[bN,h] using q
 ·show R _;simpa[bN,h] using q
theorem dv:aH ["row","ties","k","j"] ["row","ties","k"] (ao c6):=mkS
theorem rP {oD fo} (dF:D5 K mg oD fo) {mh d6} (dS:D4 K mg mh d6) {mf d4} (dX:D3 K mg mf d4) (B:Bs mg):aN P w K mg base ck 2 oD fo ["row","ties","k"] (fC P w true ik):=by
 have GS:aN P w K mg base ck 1 _ _ _ (fC P w true ib):=rL dS;have GX:aN P w K mg base ck 1 _ _ _ (fC P w true il):=iH dX;refine tW dF.F dv (λds R DT=> by obtain⟨n,rows,ts,k,e,_⟩ := DT;subst e;rfl) λcg A outer s H E hr=>⟨_,(jF (cK (aO ah (bH.m (pG hr.eS)) (bw ah cP (ae (i:=1)) (ae (i:=2))) (bw ah cP (ae (i:=0)) au)) (ar (aY (c8 (aa cO (aa (ae (i:=2)) af))))) a7)
    (jF (cK (oU.t (gx (aO ah (bH.m jK) (ae (i:=2)) au) (e8 (aO ah (bH.m (uT hr.wX)) (bw ah cP (ae (i:=1)) (ae (i:=2))) (bw ah cP (ae (i:=1)) (cI ah (bH.m dY) (ae (i:=2)) au)))))) (ar (aY (c8 (aa cO (aa (ae (i:=2)) af))))) a7)
    (ai (cy J3 rfl (aU B.range (aa (ae (i:=2)) af)) (aw (i:=3) dv.nd) (ar (cK (e9 (bC ib.mono GS (hr.mono (by decide)) dS.m dS.F.kp dS.b (aa (bw ah cP (ae (i:=1)) (ae (i:=3))) (aa (bw ah cP (ae (i:=1)) (ae (i:=2))) af)))) (ar (aY (c8 (aa cO (aa (ae (i:=3)) (aa (ae (i:=2)) af)))))) a7)))
    (ai (cy J3 rfl (aU B.range (aa (ae (i:=2)) af)) (aw (i:=3) dv.nd) (ar (cK (e9 (bC il.mono GX (hr.mono (by decide)) dX.m dX.F.kp dX.b (aa (bw ah cP (ae (i:=1)) (ae (i:=3))) (aa (bw ah cP (ae (i:=1)) (ae (i:=2))) af)))) (ar (aY (c8 (aa cO (aa (ae (i:=3)) (aa (ae (i:=2)) af)))))) a7)))
    (ar (aY jE)))))),λds R h=>?_⟩
 obtain⟨n,rows,ts,k,rfl,hk,hp,hb,q⟩:=h;obtain⟨t,et⟩:∃t,ts[k]?=some t:=⟨ts[k],I_ hk⟩;have pt:Pair t:=hp t (JI et);rw[fR et]at q;unfold fq at q;refine⟨λβ=>β=[some (.val false (.tup [.int n,.lst (rows.map kD)])),some (.val false (.lst (ts.map kD))),some (.val false (.int (k:Int))),none]/\t∈rows,?_,?_⟩
 ·refine⟨_,rfl,trivial,_,rfl,_,eI et,trivial,_,rfl,trivial,_,rfl,.inr ⟨_,ni t rows,_,rfl,Dx (λh=>?_) (λh=>⟨rfl,h⟩)⟩⟩;exact⟨trivial,_,rfl,trivial,tU,trivial,by rw[if_neg h]at q;exact q⟩
 ·rintro β ⟨rfl,ht⟩;rw[if_pos ht]at q;refine⟨λβ=>β=[some (.val false (.tup [.int n,.lst (rows.map kD)])),some (.val false (.lst (ts.map kD))),some (.val false (.int (k:Int))),none]/\(decide (0<k)&&j8 ts (λu=>!HT.lexLt u t) (k-1))=false,?_,?_⟩
  ·refine⟨_,rfl,trivial,_,rfl,_,rfl,l_ (λpX=>?_) (λpX=>pU rfl ⟨rfl,?_⟩)⟩
   ·have Bb:0<k:=by lia
    obtain⟨u,eu⟩:∃u,ts[k-1]?=some u:=⟨ts[k-1],I_ (by lia)⟩
    have ei:tw (.lst (ts.map kD)) (.int ((k:Int)-1))=some (kD u):=by
     rw[show (k:Int)-1=((k-1:Nat):Int) by lia];exact eI eu
    have ea:j8 ts (λu=>!HT.lexLt u t) (k-1)=!HT.lexLt u t:=by unfold j8;rw[eu]
    refine⟨_,rfl,trivial,_,rfl,_,eI et,trivial,_,rfl,trivial,_,rfl,trivial,_,rfl,_,ei,_,vz t u,_,rfl,AH (λh=>?_) (λh=>⟨rfl,?_⟩)⟩
    ·exact⟨trivial,_,rfl,trivial,tU,trivial,by rw[if_pos (by rw[ea,h];simp[Bb])]at q;exact q⟩
    ·rw[ea,h];simp
   ·have:¬ 0<k:=by lia
    simp[this]
  ·rintro β ⟨rfl,ho⟩;rw[if_neg (by rw[ho];simp)]at q
   refine⟨_,rfl,trivial,k,rfl,by lia,by lia,trivial,?_⟩
   refine⟨λi β=>(∃x3,β=[some (.val false (.tup [.int n,.lst (rows.map kD)])),some (.val false (.lst (ts.map kD))),some (.val false (.int (k:Int))),x3])/\∀j<i,j8 ts (λu=>bN u t) j=false,⟨⟨_,rfl⟩,λj hj=>by lia⟩,?_,?_⟩
   ·rintro i d β hd ⟨⟨x3,rfl⟩,lC⟩;obtain⟨hi,rfl⟩:=bX hd;rw[JZ]at hi;obtain⟨u,eu⟩:∃u,ts[i]?=some u:=⟨ts[i],I_ (by lia)⟩
    have ei:tw (.lst (ts.map kD)) (.int (0+(i:Int)))=some (kD u):=by
     rw[show 0+(i:Int)=(i:Int) by lia];exact eI eu
    have ea:j8 ts (λu=>bN u t) i=bN u t:=by unfold j8;rw[eu]
    refine⟨_,rfl,trivial,_,rfl,_,ei,trivial,_,rfl,trivial,_,rfl,_,eI et,trivial,u,t,rfl,hp u (JI eu),_,rfl,AH (λh=>?_) (λh=>⟨⟨_,rfl⟩,λj hj=>?_⟩)⟩
    ·rw[eF hi (by rw[ea];exact h) lC]at q
     exact⟨trivial,_,rfl,trivial,_,rfl,trivial,zh,trivial,by rw[show (0+(i:Int))=(i:Int) by lia];exact q⟩
    ·by_cases jT:j<i
     ·exact lC j jT
     ·rw[show j=i by lia,ea];exact h
   ·rintro β ⟨⟨x3,rfl⟩,lC⟩;rw[cw,JZ]at lC;rw[find_none lC]at q;refine⟨_,rfl,trivial,k,rfl,by lia,by lia,trivial,?_⟩
    refine⟨λi β=>(∃x3,β=[some (.val false (.tup [.int n,.lst (rows.map kD)])),some (.val false (.lst (ts.map kD))),some (.val false (.int (k:Int))),x3])/\∀j<i,j8 ts (λu=>cE u t) j=false,⟨⟨_,rfl⟩,λj hj=>by lia⟩,?_,?_⟩
    ·rintro i d β hd ⟨⟨x3,rfl⟩,lC⟩;obtain⟨hi,rfl⟩:=bX hd;rw[JZ]at hi;obtain⟨u,eu⟩:∃u,ts[i]?=some u:=⟨ts[i],I_ (by lia)⟩
     have ei:tw (.lst (ts.map kD)) (.int (0+(i:Int)))=some (kD u):=by
      rw[show 0+(i:Int)=(i:Int) by lia];exact eI eu
     have ea:j8 ts (λu=>cE u t) i=cE u t:=by unfold j8;rw[eu]
     refine⟨_,rfl,trivial,_,rfl,_,ei,trivial,_,rfl,trivial,_,rfl,_,eI et,trivial,u,t,rfl,hp u (JI eu),pt,_,rfl,AH (λh=>?_) (λh=>⟨⟨_,rfl⟩,λj hj=>?_⟩)⟩
     ·rw[eF hi (by rw[ea];exact h) lC]at q
      exact⟨trivial,_,rfl,trivial,_,rfl,trivial,zh,trivial,by rw[show (0+(i:Int))=(i:Int) by lia];exact q⟩
     ·by_cases jT:j<i
      ·exact lC j jT
      ·rw[show j=i by lia,ea];exact h
    ·rintro β ⟨⟨x3,rfl⟩,lC⟩;rw[cw,JZ]at lC;rw[find_none lC]at q;exact⟨trivial,q⟩
theorem cu:aH ["row","ties","k","fault"] ["row","ties"] (ao bS):=mkS
theorem rO {qr gm} (dO:D6 K mg qr gm) {oD fo} (dF:D5 K mg oD fo) {mh d6} (dS:D4 K mg mh d6) {mf d4} (dX:D3 K mg mf d4) (B:Bs mg):aN P w K mg base ck 3 qr gm ["row","ties"] (fC P w true ij):=by
 have GF:aN P w K mg base ck 2 _ _ _ (fC P w true ik):=rP dF dS dX B;refine tW dO.F cu (λds R DS=> by obtain⟨n,rows,ts,e,_⟩ := DS;subst e;rfl) λcg A outer s H E hr=>⟨_,(ai (cy J3 rfl (aU B.range (aa (aV ah (b5.m cj) B.len eK (aa (ae (i:=1)) af)) af)) (aw (i:=2) cu.nd) (ai (bP (i:=3) (bC ik.mono GF (hr.mono (by decide)) dF.m dF.F.kp dF.b (aa (ae (i:=0)) (aa (ae (i:=1)) (aa (ae (i:=2)) af)))) cu.nd)
    (ar (cK (aO ah (bH.m rG) (ae (i:=3)) jE) (ar (aY (ae (i:=3)))) a7))))
    (ar (aY jE))),λds R h=>?_⟩
 obtain⟨n,rows,ts,rfl,hl,hp,q⟩:=h;refine⟨_,rfl,trivial,_,rfl,trivial,_,rfl,by rw[IW];lia,by rw[IW];lia,trivial,?_⟩
 rw[IW];refine⟨λi β=>(∃x2 x3,β=[some (.val false (.tup [.int n,.lst (rows.map kD)])),some (.val false (.lst (ts.map kD))),x2,x3])/\∀j<i,eG rows ts j=none,⟨⟨_,_,rfl⟩,λj hj=>by lia⟩,?_,?_⟩
 ·rintro i d β hd ⟨⟨x2,x3,rfl⟩,lC⟩;obtain⟨hi,rfl⟩:=bX hd;rw[JZ]at hi;refine⟨_,rfl,trivial,_,rfl,trivial,_,rfl,trivial,n,rows,ts,i,by rw[Int.zero_add],hi,hp,by lia,?_⟩
  cases hf:eG rows ts i with
  |none =>
   refine⟨_,rfl,trivial,_,rfl,_,rfl,pU rfl ⟨⟨_,_,rfl⟩,λj hj=>?_⟩⟩
   by_cases jT:j<i
   ·exact lC j jT
   ·rw[show j=i by lia];exact hf
  |some x =>
   refine⟨_,rfl,trivial,_,rfl,_,rfl,yq rfl ⟨_,rfl,sS (some x),?_⟩⟩;rw[<- lF hi hf lC];exact q
 ·rintro β ⟨⟨x2,x3,rfl⟩,lC⟩;rw[cw,JZ]at lC;refine⟨trivial,?_⟩;have:eE rows ts=none:=vo lC;rw[this]at q;exact q
theorem pq:aH ["row","ties"] ["row","ties"] (ao eX):=mkS
theorem rN {tZ iJ} (dE:D7 K mg tZ iJ) {qr gm} (dO:D6 K mg qr gm) {oD fo} (dF:D5 K mg oD fo) {mh d6} (dS:D4 K mg mh d6) {mf d4} (dX:D3 K mg mf d4) (B:Bs mg):aN P w K mg base ck 4 tZ iJ ["row","ties"] (fC P w true ie):=by
 have GO:aN P w K mg base ck 3 _ _ _ (fC P w true ij):=rO dO dF dS dX B;refine tW dE.F pq (λds R DR=> by obtain⟨n,rows,ts,e,_⟩ := DR;subst e;rfl) λcg A outer s H E hr=>⟨_,(ar (aY (eh ah (bH.m uU) (bC ij.mono GO (hr.mono (by decide)) dO.m dO.F.kp dO.b (aa (ae (i:=0)) (aa (ae (i:=1)) af))) jE))),λds R h=>?_⟩
 obtain⟨n,rows,ts,rfl,hl,hp,q⟩:=h;refine⟨_,rfl,trivial,_,rfl,trivial,n,rows,ts,rfl,hl,hp,trivial,?_⟩;cases hf:eE rows ts with
 |none=>rw[hf]at q;exact⟨_,rfl,trivial,q⟩
 |some x=>rw[hf]at q;exact⟨_,rfl,trivial,q⟩
theorem jA:aH ["row","ties"] ["row","ties"] (ao cH):=mkS
theorem f9 {lK gd} (oI:D8 K mg lK gd) {tZ iJ} (dE:D7 K mg tZ iJ) {qr gm} (dO:D6 K mg qr gm) {oD fo} (dF:D5 K mg oD fo) {mh d6} (dS:D4 K mg mh d6) {mf d4} (dX:D3 K mg mf d4) (B:Bs mg):aN P w K mg base ck 5 lK gd ["row","ties"] (fC P w true iq):=by
 have GE:aN P w K mg base ck 4 _ _ _ (fC P w true ie):=rN dE dO dF dS dX B;refine tW oI.F jA (λds R A6=> by obtain⟨n,rows,ts,e,_⟩ := A6;subst e;rfl) λcg A outer s H E hr=>⟨_,(ar (cK (uB (e9 (bC ie.mono GE (hr.mono (by decide)) dE.m dE.F.kp dE.b (aa (ae (i:=0)) (aa (ae (i:=1)) af))))) fJ a7)),λds R h=>?_⟩
 obtain⟨n,rows,ts,rfl,hl,ht,hg,q⟩:=h;refine⟨_,rfl,trivial,_,rfl,trivial,n,rows,ts,rfl,by lia,λu hu=>(ht u (hg.1 u hu)).pair,_,rfl,pU (by rw[m_.mpr hg];rfl) q⟩
end
end gF
namespace L2
open PySem PySem.Spec PySem.SeqAt PyProof.Rows
def D.int?:D->Option Int
 |.int i=>some i
 |_=>none
def D.xW:D->Option (List D)
 |.lst ds=>some ds
 |_=>none
theorem D.u_ {d:D}{i:Int}(h:d.int?=some i):d=.int i:=by
 cases d <;> first|(cases h;rfl)|cases h
theorem D.u6 {d:D}{ds:List D}(h:d.xW=some ds):d=.lst ds:=by
 cases d <;> first|(cases h;rfl)|cases h
section
end
end L2
namespace L2.Q
open PySem PySem.Spec PySem.SeqAt PyProof.Rows
structure Bs3 (mg:Str->Option IS):Prop extends Bs2 mg where
 sum:mg "sum" = none
theorem nO {α:Type}{n i:Nat}{f:Nat->α}(h:i<n):((JM n).map f)[i]?=some (f i):=by
 rw[Jt,L9 h];rfl
theorem rV {α:Type}{γ:dJ}{τ:aX}{φ:aL}{l:List α}{f:α->D}{k:Kd}{lX:bo}{K:List D->Prop}(t:α->Bool)(g:α->D)(h0:d9 lX lX)(hl:l.length<=Jg)
  (h:∀x∈l,∀(x0:Option B) (o:List D) (J:bo->List D->Prop),o.length<Jg->(t x=true->∀x0,J (x0::lX) (o++[g x]))->(t x=false->∀x0,J (x0::lX) o)->γ (f x) (sk k (f x)) (x0::lX) λβ1=>τ β1 λt β2=>if t=true then φ β2 λx kx β3=>wj kx x/\o.length<Jg/\J β3 (o++[x]) else J β2 o)
  (q:K ((l.filter t).map g)):gb γ τ φ (l.map f) k (none::lX) K:=by
 refine⟨λi β o=>i<=l.length/\(∃x0,β=x0::lX)/\o=((l.take i).filter t).map g,⟨Jp _,⟨_,rfl⟩,rfl⟩,?_,?_⟩
 ·rintro i d β o hd ⟨hi,⟨x0,rfl⟩,rfl⟩;rw[Jt]at hd;obtain⟨x,hx,rfl⟩:=Jv.mp hd;have h8:i<l.length:=(Jd.mp hx).1;have hle:(((l.take i).filter t).map g).length<Jg:=by
   rw[IW];have:=K4 t (l.take i);rw[J5]at this;lia
  have e:l.take (i+1)=l.take i++[x]:=by rw[Mo,hx];rfl
  refine h x (JI hx) x0 _ (λβ o=>i+1<=l.length/\(∃x0,β=x0::lX)/\o=((l.take (i+1)).filter t).map g) hle (λht x0=>?_) λht x0=>?_
  ·exact⟨h8,⟨_,rfl⟩,by rw[e,KS,Kt,KL,if_pos ht];rfl⟩
  ·exact⟨h8,⟨_,rfl⟩,by rw[e,KS,Kt,KL,if_neg (by rw[ht];simp)];simp⟩
 ·rintro β o ⟨_,⟨x0,rfl⟩,rfl⟩;rw[IW,Mt];exact⟨h0,q⟩
theorem mS {α:Type}{γ:dJ}{τ:aX}{φ:aL}{l:List α}{f:α->D}{k:Kd}{lX:bo}{K:List D->Prop}(t:α->Bool)(g:α->D)(h0:d9 lX lX)(hl:l.length<=Jg)
  (h:∀x∈l,∀(x0 x1:Option B) (o:List D) (J:bo->List D->Prop),o.length<Jg->(t x=true->∀x0 x1,J (x0::x1::lX) (o++[g x]))->(t x=false->∀x0 x1,J (x0::x1::lX) o)->γ (f x) (sk k (f x)) (x0::x1::lX) λβ1=>τ β1 λt β2=>if t=true then φ β2 λx kx β3=>wj kx x/\o.length<Jg/\J β3 (o++[x]) else J β2 o)
  (q:K ((l.filter t).map g)):gb γ τ φ (l.map f) k (none::none::lX) K:=by
 refine⟨λi β o=>i<=l.length/\(∃x0 x1,β=x0::x1::lX)/\o=((l.take i).filter t).map g,⟨Jp _,⟨_,_,rfl⟩,rfl⟩,?_,?_⟩
 ·rintro i d β o hd ⟨hi,⟨x0,x1,rfl⟩,rfl⟩;rw[Jt]at hd;obtain⟨x,hx,rfl⟩:=Jv.mp hd;have h8:i<l.length:=(Jd.mp hx).1;have hle:(((l.take i).filter t).map g).length<Jg:=by
   rw[IW];have:=K4 t (l.take i);rw[J5]at this;lia
  have e:l.take (i+1)=l.take i++[x]:=by rw[Mo,hx];rfl
  refine h x (JI hx) x0 x1 _ (λβ o=>i+1<=l.length/\(∃x0 x1,β=x0::x1::lX)/\o=((l.take (i+1)).filter t).map g) hle (λht x0 x1=>?_) λht x0 x1=>?_
  ·exact⟨h8,⟨_,_,rfl⟩,by rw[e,KS,Kt,KL,if_pos ht];rfl⟩
  ·exact⟨h8,⟨_,_,rfl⟩,by rw[e,KS,Kt,KL,if_neg (by rw[ht];simp)];simp⟩
 ·rintro β o ⟨_,⟨x0,x1,rfl⟩,rfl⟩;rw[IW,Mt];exact⟨h0,q⟩
theorem nK {n:Nat}(h:n<=1000):n<=Jg:=JC h (by decide)
theorem yh {n i:Nat}{x:Int}(hx:x=(i:Int))(h:i<n):mY n x=some i:=by
 subst hx;unfold mY;rw[if_pos (by lia),if_pos (by lia)]
 simp
theorem nN {α:Type}{n i:Nat}{f:Nat->α}{y:α}(h:i<n):((JM n).map f).set i y=(JM n).map λk=>if k=i then y else f k:=by
 refine LF λk=>?_;rw[LD]
 by_cases hk:k<n
 ·rw[nO hk,nO hk,IW,LC]
  by_cases e:i=k
  ·rw[if_pos e,if_pos (e▸hk),if_pos e.symm]
  ·rw[if_neg e,if_neg (Lm e)]
 ·rw[K5 (l:=(JM n).map f) (by simpa using hk),K5 (l:=(JM n).map λk=>if k=i then y else f k) (by simpa using hk),if_neg (by lia)]
def d7 (a b c d:Int):Bool:=decide (a∈[c,d]) || decide (b∈[c,d]) || !decide ((decide (a<c)&&decide (c<b))=(decide (a<d)&&decide (d<b)))
def v_:List Int->List Int->Bool
 |[a,b],[c,d]=>d7 a b c d
 |_,_=>false
theorem mQ {a b c d:Int}(ab:a<b)(cd:c<d)(h:v_ [a,b] [c,d]=false):Apart [a,b] [c,d]:=by
 have h:d7 a b c d=false:=h;unfold d7 at h;simp only[Bool.or_eq_false_iff,decide_eq_false_iff_not,Lv,decide_eq_true_eq]at h;obtain⟨⟨h1,h2⟩,h3⟩:=h;have h4:(a<c/\c<b)↔(a<d/\d<b):=by
  have:=congrArg (·=true) h3;simpa using this
 have m1:=h1;have m2:=h2;simp only[Ja,Kn,or_false,not_or]at m1 m2;refine⟨LH.mpr λz=>?_,LH.mpr λz=>?_⟩
 ·obtain⟨i,hi,hj⟩:=cm.mp z;simp only[Ja,Kn,or_false]at hi;rcases hi with rfl|rfl
  ·exact h1 hj
  ·exact h2 hj
 ·have:=nt.mp (show jW a b c d=true from z)
  lia
theorem oM {β:bo}{i j k:Nat}{y1 y2 y3:Bool}{a b c:Int}{R:D->Kd->bo->Prop}(h1:β[i]?=some (some (.val y1 (.int a))))(h2:β[j]?=some (some (.val y2 (.int b))))(h3:β[k]?=some (some (.val y3 (.int c))))
  (q:R (.bl (decide (a<b)&&decide (b<c))) .own β):mK (kM i) (uw zB (kM j) (xj zB (kM k))) β R:=by
 refine⟨_,h1,_,h2,_,rfl,l_ (λz1=>⟨_,h3,_,rfl,?_⟩) (λz1=>?_)⟩
 ·simpa[z1] using q
 ·simpa[z1] using q
theorem yO (i j:Bool):JP (D.bl i).pd (D.bl j).pd=decide (i=j):=by
 cases i <;> cases j <;> rfl
theorem yS (i j:Bool):zA (.bl i) (.bl j)=some (.bl (!decide (i=j))):=nk (bA (kz i)) (bA (kz j)) (yO i j)
theorem mG (n:Int)(rows ts:List (List Int)):(D.lst [eY n rows,.lst (ts.map kD)]).pd.canLay0=true/\(D.lst [eY n rows,.lst (ts.map kD)]).pd.depth<=5:=fD λd hd=>by
 rcases Ja.mp hd with rfl|hd
 ·exact o_ n rows
 ·rw[Jk.mp hd];exact⟨(bL ts).1,JC (bL ts).2 (by decide)⟩
def lM:FD:=λds R=>∃a b c d:Int,ds=[kD [a,b],kD [c,d]]/\R (.bl (d7 a b c d))
theorem lM.mono:dj lM:=λds R R' k ⟨a,b,c,d,e,q⟩=>⟨a,b,c,d,e,k _ q⟩
def ip:FD:=λds R=>∃(n:Int) (rows:List (List Int)),ds=[eY n rows]/\R (eY n rows)
theorem ip.mono:dj ip:=λds R R' k ⟨n,rows,e,q⟩=>⟨n,rows,e,k _ q⟩
def jh:FD:=λds R=>∃(n:Int) (rows:List (List Int)),ds=[eY n rows]/\bx n rows/\rows.length<=400/\∀ts,Good rows ts->ts.length<=400->R (.lst (ts.map kD))
theorem jh.mono:dj jh:=λds R R' k ⟨n,rows,e,h1,h2,q⟩=>⟨n,rows,e,h1,h2,λts a b=>k _ (q ts a b)⟩
theorem ff {α β:Type}{f:α->β}:∀(l:List α) (m:Nat),(l.eraseIdx m).map f=(l.map f).eraseIdx m
 |[],_=>rfl
 |_::_,0=>rfl
 |x::l,m+1=>by
  show f x::(l.eraseIdx m).map f=f x::(l.map f).eraseIdx m;rw[ff l m]
section
variable {X:Cx}{C:Cfg}{lk:List (Option Nat)}{γ:dJ}{τ:aX}{φ:aL}{T:List Nat}{scope:K2}{N':List Str}{tg cR elt:Expr}{ifs:List Expr}{ι:fx}{pos:Pos}
def qW (lk:List (Option Nat))(ι:fx)(γ:dJ)(τ:aX)(φ:aL):aL:=λβ R=>ι β λds k β1=>hold k true/\gb γ τ φ ds k (dD lk β1) λo=>R (.lst o) .own β1
theorem xp (L:Links X scope N' lk)(sJ:N'.Nodup)(hT:T.all (λi=>match lk[i]? with|some (some _)=>false|_=>true)=true)(hc:X.calm=true)(hi:vM X C true tg cR ι)
  (ot:∀a cl c s H ex,tR (aA X scope N' cl c s H ex) (C.u λc=>c=a) tg T γ) (oq:∀a cl c s H ex,l4 (aA X scope N' cl c s H ex) ifs (iT (aA X scope N' cl c s H ex) (C.u λc=>c=a) true τ)) (τm:∀β R R',(∀d β,R d β->R' d β)->τ β R->τ β R')
  (ou:∀a cl c s H ex,PQ (aA X scope N' cl c s H ex) (C.u λc=>c=a) true elt φ) (γm:∀d k β R R',(∀r,R r->R' r)->γ d k β R->γ d k β R') (φm:∀β R R',(∀d k β,R d k β->R' d k β)->φ β R->φ β R')
  (hs:∀x,JY cR X.env x=pure x:=by intro _;rfl):PQ X C true (.ListComp elt [⟨tg,cR,ifs,0⟩] scope pos) (qW lk ι γ τ φ):=by
 have Bm:∀i∈T,∀j,lk[i]?≠some (some j):=λi hi j e=>by
  have:=LO.mp hT i hi;rw[e]at this;cases this
 refine⟨λβ R R' k h=>hi.mono β _ _ (λds kd β1 q=>⟨q.1,q.2.mono λo z=>k _ _ _ z⟩) h,?_⟩;refine(kP (g:=⟨tg,cR,ifs,0⟩) (gs:=[]) (tg:=λa v σ H Q=>∃own β d k,SQ X (C.u λc=>c=a) σ H β own/\Rp X (gq (C.u λc=>c=a) (Wn own) k) H d v/\γ d k β λβ'=>∀σ' aE,SQ X (C.u λc=>c=a) σ' H β' aE->(∀a,Wn aE a->Wn own a)->(∀j,j∉T->σ'[j]?=σ[j]?)->Q σ' H)
  (tt:=λa=>iT X (C.u λc=>c=a) true τ) (ta:=λa N σ H=>tQ X (C.u λc=>c=a) true φ σ H λv H1=>∃xs,H1 a=some (.lst xs)/\xs.length<Jg/\N σ (upd H1 a (.lst (xs++[v]))))
  L hc g6 rfl rfl (λ_ _=>tH) hi.pi (λa cl c s H ex=>⟨(ot a cl c s H ex).pg,oq a cl c s H ex,gU rfl (ou a cl c s H ex).pe⟩) hs).pre λσ H Q ⟨β,own,s,h⟩=>?_
 refine⟨β,own,s,hi.mono β _ _ (λds k β1 jR J H1 aB o1 it a ha=>?_) h⟩;obtain⟨hk,q⟩:=jR;exact fT γm τm φm (fO L sJ) Bm o1.sq ha (hp:=true) (λ_=>rfl) hk it q λo H' q o2 r=>q _ _ aB (o1.trans o2) (r.later o1.sn)
theorem G_ (N':List Str)(lk:List (Option Nat))(L:hE X.env.scope.names X.N scope N' lk=true)(sJ:N'.Nodup)(hc:X.calm=true)(hi:vM X C true tg cR ι)
  (ot:∀U cl c s H ex,tR (aA X scope N' cl c s H ex) (C.u U) tg T γ) (oq:∀U cl c s H ex,tP (aA X scope N' cl c s H ex) (C.u U) true ifs τ) (ou:∀U cl c s H ex,PQ (aA X scope N' cl c s H ex) (C.u U) true elt φ)
  (hT:T.all (λi=>match lk[i]? with|some (some _)=>false|_=>true)=true:=by rfl) (hs:∀x,JY cR X.env x=pure x:=by intro _;rfl):PQ X C true (.ListComp elt [⟨tg,cR,ifs,0⟩] scope pos) (qW lk ι γ τ φ) :=
 xp (Links.of L) sJ hT hc hi (λa=>ot _) (λa cl c s H ex=>(oq _ cl c s H ex).pt) (oq (λ_=>False) [] 0 X.s₀ X.H₀ []).mono (λa=>ou _) (ot (λ_=>False) [] 0 X.s₀ X.H₀ []).mono (ou (λ_=>False) [] 0 X.s₀ X.H₀ []).mono hs
end
end L2.Q
namespace gF
open PySem L2 L2.Q
section
variable {P:IY}{w:Je}{K:PySem.W.Frag}{mg:Str->Option IS}{base:Heap}
theorem iF:aH ["row"] ["row"] (ao b_):=mkS
theorem pH {vw oC} (zC:D9 K mg vw oC) (B:Bs mg):aN P w K mg base ck 1 vw oC ["row"] (fC P w true ip):=by
 refine tW zC.F iF (λds R A5=> by obtain⟨n,ps,e,_⟩ := A5;subst e;rfl) λcg A outer s H E hr=>⟨_,(ar (aY (c8 (aa (bw ah cP (ae (i:=0)) au) (aa (dU c_ dI B.list j0 (aa (bw ah cP (ae (i:=0)) au) af)) af))))),λds R h=>?_⟩
 obtain⟨n,ps,rfl,q⟩:=h;exact⟨_,rfl,trivial,_,rfl,trivial,_,rfl,trivial,_,rfl,.inr ⟨trivial,_,rfl,.inl ⟨cB _,trivial,tU,trivial,q⟩⟩⟩
theorem bW:aH ["one","other","a","b","c","d"] ["one","other"] (ao c5):=mkS
theorem uV {p6 jf} (wC:Fw K mg p6 jf):aN P w K mg base ck 1 p6 jf ["one","other"] (fC P w true lM):=by
 refine tW wC.F bW (λds R A4=> by obtain⟨a,b,c,d,e,_⟩ := A4;subst e;rfl) λcg A outer s H E hr=>⟨_,(ai (jG (ae (i:=0)) (cJ (n:=2) rfl (aG (aw (i:=2) bW.nd) (aG (aw (i:=3) bW.nd) bZ))))
    (ai (jG (ae (i:=1)) (cJ (n:=2) rfl (aG (aw (i:=4) bW.nd) (aG (aw (i:=5) bW.nd) bZ))))
    (ar (aY (nU (eh ah (bH.m (jJ hr.eS)) (ae (i:=2)) (ae (i:=1))) (nU (eh ah (bH.m (jJ hr.eS)) (ae (i:=3)) (ae (i:=1))) (mL (eh ah (bH.m (gX hr.units)) (dz (ae (i:=2)) (bY bt (ae (i:=4)) (e_ bt (ae (i:=3))))) (dz (ae (i:=2)) (bY bt (ae (i:=5)) (e_ bt (ae (i:=3))))))))))))),λds R h=>?_⟩
 obtain⟨a,b,c,d,rfl,q⟩:=h;refine⟨_,rfl,_,rfl,rfl,_,_,rfl,_,_,rfl,rfl,?_⟩;refine⟨_,rfl,_,rfl,rfl,_,_,rfl,_,_,rfl,rfl,?_⟩;refine⟨_,rfl,trivial,_,rfl,_,jV a [c,d],_,rfl,l_ (λh=>⟨trivial,?_⟩) (λh1=>⟨_,rfl,trivial,_,rfl,_,jV b [c,d],_,rfl,l_ (λh=>⟨trivial,?_⟩) (λh2=>?_)⟩)⟩
 ·rw[show d7 a b c d=true by unfold d7;rw[decide_eq_true h];rfl]at q
  exact q
 ·rw[show d7 a b c d=true by unfold d7;rw[decide_eq_true h,Bool.or_true];rfl]at q
  exact q
 ·rw[show d7 a b c d=!decide ((decide (a<c)&&decide (c<b))=(decide (a<d)&&decide (d<b))) by unfold d7;rw[decide_eq_false h1,decide_eq_false h2];rfl]at q
  exact oM (a:=a) (b:=c) (c:=b) rfl rfl rfl ⟨trivial,oM (a:=a) (b:=d) (c:=b) rfl rfl rfl ⟨_,yS _ _,trivial,q⟩⟩
theorem cn:aH ["pot","row","left","found","k","tie"] ["pot","row"] (ao dN):=mkS
theorem xG {vv oB} (vx:Gs K mg vv oB) {yN nc} (dT:D1 K mg yN nc) {p6 jf} (wC:Fw K mg p6 jf) (B:Bs mg):aN P w K mg base ck 2 vv oB ["pot","row"] (gh P w iZ true jh):=by
 have GT:aN P w K mg base ck 1 _ _ _ (gh P w iZ true bK):=jN dT.F;have Ig:aN P w K mg base ck 1 _ _ _ (fC P w true lM):=uV wC;refine xM vx.F cn (λds R AZ=> by obtain⟨n,rows,e,_⟩ := AZ;subst e;rfl) λcg A outer s H E IO hr=>⟨_,(ai (dW (i:=2) (λ_=>(dU c_ dI B.list j0 (aa (bw ah cP (ae (i:=1)) au) af))) cn.nd)
    (ai (dW (i:=3) (λ_=>(bB af)) cn.nd)
    (ai (cy J3 rfl (aU B.range (aa (aV ah (b5.m cj) B.len eK (aa (ae (i:=2)) af)) af)) (aw (i:=4) cn.nd) (ai (bP (i:=5) (rf (i:=2) (aR (ih:=0) bK.mono GT (hr.mono (by decide)) dT.m dT.F.kp dT.b (aa (aV ah (b5.m cj) B.len eK (aa (ae (i:=2)) af)) af))) cn.nd)
    (ar (cK (oU.t (gx (aO ah (bH.m (gY hr.units)) (G_ ["other","tie"] [none,some 5] (by rfl) (by decide:(["other","tie"]:List Str).Nodup) rfl (cx (ae (i:=3))) (λ_ _ _ _ _ _=>(aw (i:=0) (by decide:(["other","tie"]:List Str).Nodup))) (λ_ _ _ _ _ _=>(my (e9 (bC lM.mono Ig (hr.mono (by decide)) wC.m wC.F.kp wC.b (aa (ae (i:=1)) (aa (ae (i:=0)) af)))))) (λ_ _ _ _ _ _=>(ae (i:=0)))) (bB af)) (e8 (aO ah (bH.m jK) (aR (ih:=0) bK.mono GT (hr.mono (by decide)) dT.m dT.F.kp dT.b (aa au af)) au)))) (ar (fK (i:=3) (λ_=>(ae (i:=5))))) a7))))
    (ar (aY (aV c_ fw B.sorted fU (aa (ae (i:=3)) af))))))),λds R h=>?_⟩
 obtain⟨n,rows,rfl,tr,lr,q⟩:=h;refine⟨_,rfl,trivial,_,rfl,.inr ⟨trivial,_,rfl,.inl ⟨cB _,trivial,?_⟩⟩⟩;refine⟨Jp _,trivial,_,rfl,trivial,_,rfl,trivial,_,rfl,by rw[IW];lia,by rw[IW];lia,trivial,?_⟩
 rw[IW,JZ];refine⟨λi β=>∃(us fs:List (List Int)) (x4 x5:Option Q.B),β=[some (.hand iZ),some (.val false (eY n rows)),some (.own (.lst (us.map kD))),some (.own (.lst (fs.map kD))),x4,x5]/\us.length=rows.length-i/\fs.length<=i/\i<=rows.length/\(∀u∈us,u∈rows)/\(∀u∈fs,u∈rows)/\fs.Pairwise Apart,⟨rows,[],_,_,rfl,rfl,IZ _,Jp _,λ_ z=>z,λ_ z=>(nomatch z),List.Pairwise.nil⟩,?_,?_⟩
 ·rintro i d β hd ⟨us,fs,x4,x5,rfl,h1,h2,h3,h4,h5,h6⟩;obtain⟨hi,rfl⟩:=bX hd;refine⟨⟨_,rfl⟩,rfl,_,rfl,trivial,_,rfl,trivial,rfl,trivial,_,rfl,by rw[IW];lia,by rw[IW];lia,λr r0 r1=>?_⟩
  rw[IW]at r1;obtain⟨m,rfl⟩:∃m:Nat,r=m:=⟨r.toNat,by lia⟩
  have hm:m<us.length:=by lia
  obtain⟨t,et⟩:∃t,us[m]?=some t:=⟨us[m],I_ hm⟩;have FY:t∈rows:=h4 t (JI et);obtain⟨a,b,rfl,a0,ab,bn⟩:=tr t FY;refine⟨us.map kD,m,m,kD [a,b],rfl,rfl,by lia,by lia,by rw[IW];exact yh rfl hm,by rw[Jt,et];rfl,?_⟩
  have ee:(us.map kD).eraseIdx m=(us.eraseIdx m).map kD:=(ff us m).symm;rw[ee];have ER:(us.eraseIdx m).length=rows.length-(i+1):=by rw[List.length_eraseIdx,if_pos hm];lia
  have EO:∀u∈us.eraseIdx m,u∈rows:=λu hu=>h4 u (List.mem_of_mem_eraseIdx hu);refine⟨_,rfl,_,rfl,trivial,?_⟩;refine rV (λu=>v_ [a,b] u) (λu=>kD u) trivial (by rw[JU];lia) (λu hu x0 o J ho j1 j2=>?_) ?_
  ·obtain⟨c,d,rfl,c0,cd,dn⟩:=tr u (h5 u hu);exact⟨rfl,_,rfl,trivial,_,rfl,trivial,a,b,c,d,rfl,_,rfl,AH (λh=>⟨_,rfl,oz _,ho,j1 h _⟩) (λh=>j2 h _)⟩
  ·refine⟨trivial,Jp _,_,tD _ [],_,rfl,l_ (λh=>?_) (λ_=>pU rfl ⟨us.eraseIdx m,fs,_,_,rfl,ER,by lia,by lia,EO,h5,h6⟩)⟩
   refine⟨rfl,trivial,rfl,trivial,5,rfl,by lia,by lia,λr r0 r1=>⟨trivial,_,rfl,_,rfl,l_ (λ_=>?_) (λ_=>⟨us.eraseIdx m,fs,_,_,rfl,ER,by lia,by lia,EO,h5,h6⟩)⟩⟩
   refine⟨⟨_,rfl⟩,_,rfl,oz _,fs.map kD,rfl,by rw[IW,JU];lia,?_⟩
   refine⟨us.eraseIdx m,fs++[[a,b]],_,_,by rw[nM];rfl,ER,by simp;lia,by lia,EO,λu hu=>(Jq.mp hu).elim (h5 u) λz=>by rw[Jk.mp z];exact FY,?_⟩
   rw[List.pairwise_append];refine⟨h6,by simp,λu hu x hx=>?_⟩
   rw[Jk.mp hx];obtain⟨c,d,rfl,c0,cd,dn⟩:=tr u (h5 u hu);have:=List.filter_eq_nil_iff.mp h _ hu;exact(mQ ab cd (LH.mpr this)).symm
 ·rintro β ⟨us,fs,x4,x5,rfl,h1,h2,h3,h4,h5,h6⟩;rw[cw]at h2;have hp:Pairs fs:=λu hu=>(tr u (h5 u hu)).pair;exact⟨_,rfl,trivial,_,gL hp.ne (by lia),.inl ⟨cB _,trivial,rfl,q _ ((sM hp).mpr ⟨h5,h6⟩) (by rw[(bU fs).length_eq];lia)⟩⟩
end
end gF
namespace TK
open PySem
theorem jB {M:Mv}{Γ:Ctx}{p:Pos}{t:Sem Fin}{fs:List Frame}{s s':IT}{e:End}(h:Runs M Γ p t fs s e s'):s.toks<=s'.toks:=by
 induction h with
 |fresh _ ih=>exact JC (L3 _) ih
 |call _ _ a b=>exact JC a b
 |resumeFresh _ _ _ _ a b=>exact JC a b
 |resumeSuspended _ _ _ _ a b=>exact JC a b
 |segRet _ _ a b=>exact JC a b
 |segGen _ _ a b=>exact JC a b
 |segSuspGen _ _ _ _ a b=>exact JC a b
 |_=>first|exact IZ _|assumption
theorem qz {M:Mv}{Γ:Ctx}{p:Pos}{g:Nat}{r:Resume}{s s':IT}{res:GenResult}(h:Wakes M Γ p g r s res s'):s.toks<=s'.toks:=by
 unfold Wakes at h
 split at h
 ·exact h.elim
 ·split at h
  ·obtain⟨e,s1,h1,_,_,rfl⟩:=h;exact(show s.toks<=s1.toks from jB (s:=s.setGen g .running) h1)
  ·rw[h.2];exact IZ _
  ·rw[h.2];exact IZ _
 ·obtain⟨e,s1,h1,_,_,rfl⟩:=h;exact(show s.toks<=s1.toks from jB (s:=s.setGen g .running) h1)
 ·rw[h.2];exact IZ _
 ·rw[h.2];exact IZ _
theorem zH {α:Type}{M:Mv}{Γ:Ctx}{n:Nat}(t:Sem α):∀{Q:α->Pos->IT->Prop} {E:IS->Pos->IT->Prop} {p:Pos} {s:IT},n<=s.toks->Sem.wp M Γ t Q E p s->Sem.wp M Γ t (λa p' s'=>n<=s'.toks/\Q a p' s') (λe p' s'=>n<=s'.toks/\E e p' s') p s:=by
 induction t with
 |pure a=>exact λh q=>⟨h,q⟩
 |raise e=>exact λh q=>⟨h,q⟩
 |unsupported _=>exact λ_ q=>q
 |finish _=>exact λ_ q=>q
 |rule _ k ih=>exact λh q=>ih () h q
 | «at» _ k ih=>exact λh q=>ih () h q
 |load _ _ k ih=>exact λh q=>by obtain⟨o,e,q⟩:=q;exact⟨o,e,ih o h q⟩
 |update _ _ _ k ih=>exact λh q=>⟨q.1,ih () (by exact h) q.2⟩
 |alloc _ k ih=>exact λh q=>ih _ (by exact h) q
 |loadIfAlive _ k ih=>exact λh q=>ih _ h q
 |point _ k ih=>exact λh q=>ih () h q
 |register _ _ _=>exact λ_ q=>q
 |fresh k ih=>exact λh q=>ih _ (Nat.le_succ_of_le h) q
 |ask k ih=>exact λh q=>ih _ h q
 |choose _ _ k ih=>exact λh q=>⟨q.1,ih _ (by exact h) q.2⟩
 |os _ _ k ih=>exact λh q=>ih _ (by exact h) q
 |call _ _ _ _ k ih =>
  intro Q E p s h q;obtain⟨r,s1,h1,q⟩:=q;exact⟨r,s1,h1,ih r (JC h (jB h1)) q⟩
 |handled _ k ih=>exact λh q=>ih _ h q
 |newGen _ k ih=>exact λh q=>ih _ (by exact h) q
 |genState _ k ih=>exact λh q=>by obtain⟨st,e,q⟩:=q;exact⟨st,e,ih _ h q⟩
 |resume _ _ _ k ih =>
  intro Q E p s h q;obtain⟨r,s1,h1,q⟩:=q;exact⟨r,s1,h1,ih r (JC h (qz h1)) q⟩
 |yield _ _ _ _ _=>exact λ_ q=>q
 |stack k ih=>exact λh q=>ih _ h q
 |fork _ _ _=>exact λ_ q=>q
 |thread k ih=>exact λh q=>ih _ h q
 |await _ _ _ _ _ _=>exact λ_ q=>q
theorem zb {α:Type}{M:Mv}{A:JQ}{t:Sem α}{Q:α->IT->Prop}{E:IS->IT->Prop}{s:IT}{n:Nat}(h:n<=s.toks)(q:Js M A t Q E s):Js M A t (λa s'=>n<=s'.toks/\Q a s') (λe s'=>n<=s'.toks/\E e s') s:=λΓ p hΓ=>zH t h (q Γ p hΓ)
end TK
namespace L2
open PySem PySem.Spec PySem.SeqAt PyProof.Rows
section
variable {X:Cx}{e a:Expr}{es:List Expr}{te ta to:TE}{t:TA}{pos p1 p2 apos cpos:Pos}{i:Int}{j:Nat}
abbrev Ck (X:Cx)(e:Expr)(t:TE):Prop:=∀(pins:List (Addr×Obj)) (s:IT) (σ:St) (H:Hp) (Q:VK),Inv X pins σ H s->t σ H Q->Js (model X.prog X.w) X.A (eval e X.env) (λv s'=>1<=s'.toks/\EP X pins σ Q v s') X.xe s
theorem jM {α:Type}{M:Mv}{A:JQ}{u:Sem α}{Q:α->IT->Prop}{E:IS->IT->Prop}{s:IT}(h:1<=s.toks)(q:Js M A u Q E s):Js M A u (λa s'=>1<=s'.toks/\Q a s') E s:=K7 (TK.zb h q) (λ_ _ z=>z) λ_ _ z=>z.2
theorem uK {r:R2}(hr:ze X r)(ha:PE X a ta)(hs:gE (.Constant (.int i) j p1)):Ck X (.Subscript a (.Constant (.int i) j p1) pos) (zg r ta (tC (.int i))):=λpins s σ H Q I h =>
 Subscript_ (aZ (ha pins s σ H _ I h) λv s1 hq=>by
  obtain⟨x,H1,I1,r1,q1⟩:=hq;refine wpAny_Constant_int ?_;exact jM (Nat.succ_pos _) (hr a (.Constant (.int i) j p1) pins {s1 with toks:=s1.toks+1} σ H1 x (.int i) v (.int i s1.toks) Q (I1.tok _) r1 ⟨_,rfl⟩ q1 (hs _ _)))
theorem rj {CX:tT}{k:Nat}{f:Addr}{fd:JJ}{ps:List Str}{sp:Sp}{E:XK}{x:Str}(F:aN X.prog X.w X.K X.mg X.base CX k f fd ps sp)(hr:bF k X.A)(hg:Gl X x)(hm:X.mg x=some (.ref f))(hk:PySem.W.keepIn X.K (.ref f)=true)(hb:Binds X.K fd ps [])(hx:Passes CX X E)
  (ha:Ck X e te) (Bf:PA X es t) (hdb:(x==("__debug__" : Str))=false:=by decide) (he:Jl (e::es) X.env=(false,eval e X.env)::Jl es X.env:=by rfl) (hpl:(Kj pos (Jl es X.env)).any (·.1)=false:=by rfl) :
  Ck X (.Call (.Name x p1) (e::es) [] pos) (vR sp [] E (vQ te t)):=by
 intro pins s σ H Q I h;refine Lp (oi I hg hm ?_ hdb);refine PySem.W.callWith_K (h₀:=X.base) I.ok.mod.B0 hk ?_ he hpl;rw[he];show Js _ _ (spliced ((false,eval e X.env)::Kj pos (Jl es X.env))) _ _ s;refine Lu (aZ (ha pins s σ H _ I h) λu s1 hq=>?_);obtain⟨z,y,H1,I1,r1,q1⟩:=hq;refine aZ (jM z (Bf pos pins s1 σ H1 _ I1 q1)) λus s2 hq=>?_;obtain⟨z2,xs,H2,I2,r2,q2⟩:=hq;exact⟨I2.ye,jM z2 (qT F hr hb .nil hx I2 (.cons r1 r2) q2)⟩
theorem uL {y z:Str}{j1 j2:Nat}(ho:Ck X o to)(DA:(y==z)=false)(hz:z.length<=14)
  (cA:Ky o "replace" X.env (eval o X.env)=eval o X.env:=by rfl)
  (h9:((Kj cpos (Jl [.Constant (.str y) j1 p1,.Constant (.str z) j2 p2] X.env)).all (λx=>!x.1)&&(Mf cpos (LB [] X.env)).all (λx=>x.1.isSome)&&decide ([Expr.Constant (.str y) j1 p1,.Constant (.str z) j2 p2].length+([]:List Lb).length+(if ([]:List Lb).isEmpty then 0 else 1)<30))=true:=by rfl)
  (cz:(apos.endLine==cpos.line)=true:=by rfl) :
  PE X (.Call (.Attribute o "replace" apos) [.Constant (.str y) j1 p1,.Constant (.str z) j2 p2] [] cpos) (λσ H Q=>to σ H λx H1=>∃u,x=.str u/\u.length<=1048576/\Q (.str (Ld u y z)) H1):=by
 intro pins s σ H Q I h;refine wpAny_Call_method_late cA h9 cz rfl (aZ (ho pins s σ H _ I h) λv s1 hx=>?_);obtain⟨tk,x,H1,I1,r1,u,rfl,hu,q⟩:=hx;obtain⟨t,rfl⟩:=r1;refine⟨"str","str.replace",PySem.F.plainAttrs_str,PySem.F.slot_str_replace,PySem.F.type_str_replace,typeIs_str _ _ _,(λa e=>nomatch e),?_⟩;refine LR rfl (Calls.evalArgs_plain (Lu (Mb (k:=j1) (pos:=p1) (Lu (Mb (k:=j2) (pos:=p2) (Calls.spliced_nil ?_))))));exact SC.replaceW (u:=s1.toks) (v:=s1.toks+1) (Nat.ne_of_gt tk) (Nat.succ_ne_zero _) (JB (Nat.lt_succ_self _)) DA hu hz λt' k=>⟨.str (Ld u y z),H1,I1.tok _,⟨t',rfl⟩,q⟩
def gn (c:Nat):Str:=⟨#[c]⟩
def c3 (cs:List Nat):Str:=⟨cs.toArray⟩
theorem oy:∀(cs:List Nat) (acc:Array Nat),(cs.map gn).foldl (λacc p=>acc++(#[]:Array Nat)++p.cps) acc=acc++cs.toArray
 |[],acc=>by simp
 |c::cs,acc=>by
  rw[Jy,MB,oy cs];simp[gn]
theorem sN (cs:List Nat):Mp ⟨#[]⟩ (cs.map gn)=c3 cs:=by
 unfold Mp c3;cases cs with
 |nil=>rfl
 |cons c cs =>
  show (⟨((cs.map gn).foldl (λacc p=>acc++(#[]:Array Nat)++p.cps) (gn c).cps)⟩:Str)=_;rw[oy];simp[gn]
theorem iP:∀{xs:List Str} {us:List IS},Vals (xs.map V.str) us->∃l:List (Str×Tok),us=strValues l/\l.map (·.1)=xs
 |[],_,h=>by cases h;exact⟨[],rfl,rfl⟩
 |x::xs,_,h=>by
  cases h with
  |cons h1 h2 =>
   obtain⟨t,rfl⟩:=h1;obtain⟨l,rfl,rfl⟩:=iP h2;exact⟨(x,t)::l,rfl,rfl⟩
theorem oh:∀(xs:List Str) (n:Nat),(∀x∈xs,x.length=1)->xs.foldl (λa x=>a+x.length+(⟨#[]⟩:Str).length) n=n+xs.length
 |[],_,_=>rfl
 |x::xs,n,h=>by
  rw[MB,oh xs _ λy hy=>h y (Ju _ hy),h x JA,Jo];show n+1+0+xs.length=_;lia
theorem u5:Fp X "str.join" (λx xs H Q=>∃a cs,x=.str ⟨#[]⟩/\xs=[.ref a]/\cS X.K H a (cs.map λc=>V.str (gn c))/\cs.length<=1000/\Q (.str (c3 cs)) H):=by
 intro pins s σ H x xs v us Q I rx rs h;obtain⟨a,cs,rfl,rfl,hl,hc,q⟩:=h;obtain⟨t,rfl⟩:=rx;obtain⟨u,rfl,ru⟩:=vals1 rs;cases ru;obtain⟨its,r,ht,hz⟩:=I.list hl;rw[show (cs.map λc=>V.str (gn c))=(cs.map gn).map V.str by rw[Ki];rfl]at r
 obtain⟨l,rfl,el⟩:=iP r;have hlen:l.length=cs.length:=by have:=congrArg Mw el;rwa [IW,IW]at this
 have DO:Builtin.Str.tooLong ((l.map (·.1)).toArray.foldl (·+·.length+(⟨#[]⟩:Str).length) 0)=false:=by
  rw[el,List.foldl_toArray,oh _ _ (λx hx=>by obtain⟨c,_,rfl⟩:=JK.mp hx;rfl),IW]
  exact decide_eq_false (by rw[JU];lia)
 refine MJ PySem.F.slot_str_join (typeIs_str _ _ _) PySem.F.entry_str_join (PySem.F.args_str_join_2 _ _) (meets_str_join_list ⟨#[]⟩ t a l DO) ⟨ht.isList,?_⟩;have eg:Mp ⟨#[]⟩ (l.map (·.1))=c3 cs:=by rw[el];exact sN cs
 have sH:(c3 cs).length<=Jg:=by
  show cs.toArray.size<=_;rw[Ji,JU];lia
 have fin:∀tk,EP X pins σ Q (.str (c3 cs) tk) {s with toks:=s.toks+1}:=λtk=>⟨.str (c3 cs),H,I.tok _,⟨tk,rfl⟩,q⟩
 cases l with
 |nil =>
  refine⟨by rw[eg];exact sH,?_⟩
  rw[eg];exact fin _
 |cons p l =>
  cases l with
  |nil =>
   have e1:p.1=c3 cs:=by
    cases cs with
    |nil=>cases el
    |cons c cs =>
     cases cs with
     |nil=>exact(List.cons.inj el).1
     |cons _ _=>cases (List.cons.inj el).2
   show EP X pins σ Q (.str p.1 p.2) s;rw[e1];exact⟨.str (c3 cs),H,I,⟨_,rfl⟩,q⟩
  |cons p2 l =>
   refine⟨by rw[eg];exact sH,?_⟩
   rw[eg];exact fin _
end
end L2
namespace L2.Q
open PySem PySem.Spec PySem.SeqAt PyProof.Rows
theorem BA:("(" : Str)=gn 40:=by decide +kernel
theorem Bz:(")" : Str)=gn 41:=by decide +kernel
theorem By:("." : Str)=gn 46:=by decide +kernel
theorem Gz:("" : Str)=c3 []:=by decide +kernel
theorem zI:("" : Str)=⟨#[]⟩:=by decide +kernel
theorem se {P:IY}{w:Je}{C:Cfg}{Z:Hp×(Addr->Prop)}{own:Nat->List Addr}{H:Hp}{x:Str}:KV P w C Z own H .own (.str x) (.str x):=⟨[],⟨rfl,rfl⟩,J0,λc hc=>(nomatch hc)⟩
theorem iW {P:IY}{w:Je}{W:Addr->Prop}{H:Hp}{f:Nat->Str}:∀{cs:List Nat} {vs:List V},ag P w W H (cs.map λc=>D.str (f c)) vs->vs=cs.map λc=>V.str (f c)
 |[],_,h=>h
 |c::cs,_,⟨v,r,e,h1,h2⟩=>by rw[e,iW h2,show v=V.str (f c) from h1];rfl
section
variable {X:Cx}{C:Cfg}{e a:Expr}{es:List Expr}{φ φa:aL}{φs:b3}{p p':Bool}{pos apos cpos p1 p2 p3 p4 pp:Pos}{j j1 j2:Nat}
def z7 (φ:aL):aL:=λβ R=>φ β λd _ β1=>∃cs,d=.lst (cs.map λc=>D.str (gn c))/\cs.length<=1000/\R (.str (c3 cs)) .own β1
theorem uD (he:PQ X C p e φ) (cA:Ky (.Constant (.str "") j p1) "join" X.env (eval (.Constant (.str "") j p1) X.env)=eval (.Constant (.str "") j p1) X.env:=by rfl)
  (h9:((Kj cpos (Jl [e] X.env)).all (λx=>!x.1)&&(Mf cpos (LB [] X.env)).all (λx=>x.1.isSome)&&decide ([e].length+([]:List Lb).length+(if ([]:List Lb).isEmpty then 0 else 1)<30))=true:=by rfl)
  (cz:(apos.endLine==cpos.line)=true:=by rfl) (hs:Jl [e] X.env=(false,eval e X.env)::Jl [] X.env:=by rfl) (hpl:(Kj cpos (Jl [] X.env)).any (·.1)=false:=by rfl) :
  PQ X C p (.Call (.Attribute (.Constant (.str "") j p1) "join" apos) [e] [] cpos) (z7 φ) :=
 ⟨λβ R R' k h=>he.mono β _ _ (λd kd β1 h=>by obtain⟨cs,h1,h2,q⟩:=h;exact⟨cs,h1,h2,k _ _ _ q⟩) h,
  (rB (apos:=apos) (cpos:=cpos) PySem.F.plainAttrs_str PySem.F.slot_str_join PySem.F.type_str_join u5 rm (bD he.pe er hs) cA h9 cz hs hpl).pre λσ H Q ⟨β,own,s,h⟩ =>
  ⟨rfl,tQ.of he s h λd k β1 v H1 aB hq o1 r1=>by
   obtain⟨cs,rfl,hc,q⟩:=hq;obtain⟨b,us,rfl,Ge,_,rb⟩:=r1.rep;rw[iW rb]at Ge;exact⟨b,cs,by rw[zI],rfl,cS.of Ge,hc,q _ _ aB o1 se⟩⟩⟩
def C6 (i:Int)(φa:aL):aL:=λβ R=>φa β λd1 _ β1=>∃n,tw d1 (.int i)=some (.int n)/\R (.int n) .own β1
def z5 (ro:Bool)(F:FD)(i:Int)(y z:Str)(φa:aL)(φs:b3):aL:=λβ R=>C6 i φa β λd1 _ β1=>φs β1 λds _ β2=>F (d1::ds) λd=>∃u,d=.str u/\u.length<=1048576/\R (.str (Ld u y z)) .own β2
theorem uC {k:Nat}{f:Addr}{fd:JJ}{ps:List Str}{F:FD}{ro:Bool}{x:Str}{i:Int}{y z:Str}(mF:dj F)(G:aN X.prog X.w X.K X.mg X.base ck k f fd ps (fC X.prog X.w ro F))(hr:bF k X.A)(hm:X.mg x=some (.ref f))(hk:PySem.W.keepIn X.K (.ref f)=true)(hb:Binds X.K fd ps [])
  (ha:PQ X C p a φa) (Bf:oV X C p' es φs) (DA:(y==z)=false) (hz:z.length<=14) (HC:gE (.Constant (.int i) j p3):=by exact λ_ _=>rfl) (hg:Gl X x:=by rfl) (hdb:(x==("__debug__" : Str))=false:=by decide)
  (jS:Jl (.Subscript a (.Constant (.int i) j p3) pos::es) X.env=(false,eval (.Subscript a (.Constant (.int i) j p3) pos) X.env)::Jl es X.env:=by rfl) (hpl:(Kj pp (Jl es X.env)).any (·.1)=false:=by rfl)
  (cA:Ky (.Call (.Name x p4) (.Subscript a (.Constant (.int i) j p3) pos::es) [] pp) "replace" X.env (eval (.Call (.Name x p4) (.Subscript a (.Constant (.int i) j p3) pos::es) [] pp) X.env)=eval (.Call (.Name x p4) (.Subscript a (.Constant (.int i) j p3) pos::es) [] pp) X.env:=by rfl)
  (h9:((Kj cpos (Jl [.Constant (.str y) j1 p1,.Constant (.str z) j2 p2] X.env)).all (λx=>!x.1)&&(Mf cpos (LB [] X.env)).all (λx=>x.1.isSome)&&decide ([Expr.Constant (.str y) j1 p1,.Constant (.str z) j2 p2].length+([]:List Lb).length+(if ([]:List Lb).isEmpty then 0 else 1)<30))=true:=by rfl)
  (cz:(apos.endLine==cpos.line)=true:=by rfl) :
  PQ X C (p&&p') (.Call (.Attribute (.Call (.Name x p4) (.Subscript a (.Constant (.int i) j p3) pos::es) [] pp) "replace" apos) [.Constant (.str y) j1 p1,.Constant (.str z) j2 p2] [] cpos) (z5 ro F i y z φa φs) :=
 ⟨λβ R R' k h=>ha.mono β _ _ (λd kd β1 h=>by
   obtain⟨n,e,q⟩:=h;exact⟨n,e,Bf.mono β1 _ _ (λds ks β2 q=>mF _ _ _ (λd q=>by obtain⟨u,e,hu,q⟩:=q;exact⟨u,e,hu,k _ _ _ q⟩) q) q⟩) h,
  (uL (apos:=apos) (cpos:=cpos) (rj G hr hg hm hk hb rD (uK cP ha.pe HC) Bf.pa hdb jS hpl) DA hz cA h9 cz).pre λσ H Q ⟨β,own,s,h⟩=>tQ.of ha s h λd1 k1 β1 v1 H1 aB hq o1 r1=>by
  obtain⟨n,e,q⟩:=hq;refine⟨λ_=>False,d1,.int i,.int n,(λ_ z=>z.elim),ak.aJ (λ_ z=>z.elim) r1.rep,rfl,e,λv H2 sm rv _=>?_⟩;cases (show v=V.int n from rv)
  have o2:=o1.same sm;refine ql.of Bf o2.sq q λds ks β2 vs H3 C9 q o3 r3=>?_;show fC X.prog X.w ro F ((V.int n::vs)++[]) H3 _ E0;rw[Ku];exact⟨.int n::ds,⟨V.int n,vs,rfl,rfl,r3.bor⟩,mF _ _ _ (λd q v H' s2 r2=>by
   obtain⟨u,rfl,hu,q⟩:=q;have ev:v=.str u:=by
    cases ro with
    |true=>obtain⟨A,h,_⟩:=r2;exact h.1
    |false=>exact r2
   exact⟨u,ev,hu,q _ H' C9 ((o2.trans o3).same s2) se⟩) q⟩⟩
end
def D.uc:D->Option Str
 |.str x=>some x
 |_=>none
theorem D.jy {d:D}{x:Str}(h:D.uc d=some x):d=.str x:=by
 cases d <;> first|(cases h;rfl)|cases h
def wF (a b:D):Option D:=(D.uc a).bind λx=>(D.uc b).bind λy=>if x.length+y.length<=1000000 then some (.str (x++y)) else none
def oH (a b:D):Option D:=(D.uc a).bind λx=>b.int?.bind λn=>if x.length=1/\0<=n/\n<=1 then some (.str (if n=1 then x else Str.empty)) else none
theorem lT {a b:List Nat}(h:a.length+b.length<=1000000):wF (.str (c3 a)) (.str (c3 b))=some (.str (c3 (a++b))):=by
 show (if (c3 a).length+(c3 b).length<=1000000 then some (D.str (c3 a++c3 b)) else none)=_
 rw[if_pos (show (c3 a).length+(c3 b).length<=1000000 from h)]
 have:c3 a++c3 b=c3 (a++b):=by
  show (⟨a.toArray++b.toArray⟩:Str)=⟨(a++b).toArray⟩;rw[List.append_toArray]
 rw[this]
section
variable {X:Cx}
theorem kY:bH X (Ks .Add) wF:=by
 intro pins s σ H x y v u Q I rx ry h;obtain⟨W,d1,d2,d,hd,r1,r2,e,q⟩:=h;obtain⟨a,h1,e⟩:=Km.mp e;obtain⟨b,h2,e⟩:=Km.mp e;rw[D.jy h1]at r1;rw[D.jy h2]at r2;cases (show x=.str a from r1)
 cases (show y=.str b from r2)
 obtain⟨t,rfl⟩:=rx;obtain⟨t2,rfl⟩:=ry
 by_cases hl:a.length+b.length<=1000000
 ·rw[if_pos hl]at e;cases e;exact PyProof.Rows.add_str (λt' tk=>⟨.str (a++b),H,I.tok _,⟨t',rfl⟩,q _ _ (ax.refl _) rfl⟩) (by rw[JU];lia)
 ·rw[if_neg hl]at e;cases e
theorem kX:bH X (Ks .Mult) oH:=by
 intro pins s σ H x y v u Q I rx ry h;obtain⟨W,d1,d2,d,hd,r1,r2,e,q⟩:=h;obtain⟨a,h1,e⟩:=Km.mp e;obtain⟨n,h2,e⟩:=Km.mp e;rw[D.jy h1]at r1;rw[D.u_ h2]at r2;cases (show x=.str a from r1)
 cases (show y=.int n from r2)
 obtain⟨t,rfl⟩:=rx;obtain⟨t2,rfl⟩:=ry
 by_cases hl:a.length=1/\0<=n/\n<=1
 ·rw[if_pos hl]at e;cases e;obtain⟨h3,h4,h5⟩:=hl;have ok:¬ n<1->(n==1 || a.length==0)=true:=λz=>by
   have:n=1:=by lia
   rw[this];rfl
  refine SB.mul ⟨?_,λz1 z2=>?_,λz1 z2=>?_⟩ λt' k=>?_
  ·rw[decide_eq_false (by lia),decide_eq_false (by lia)];rfl
  ·rw[ok z1]at z2;cases z2
  ·rw[ok z1]at z2;cases z2
  ·have et:Txt.mul a n=if n=1 then a else Str.empty:=by
    unfold Txt.mul
    by_cases z:n=1
    ·subst z;rw[if_neg (by lia),if_pos rfl];rfl
    ·rw[if_pos (by lia),if_neg z]
   rw[et];exact⟨.str (if n=1 then a else Str.empty),H,I.tok _,⟨t',rfl⟩,q _ _ (ax.refl _) rfl⟩
 ·rw[if_neg hl]at e;cases e
end
def p0 (t:List Int):Int:=t.getD 0 0
def p1 (t:List Int):Int:=t.getD 1 0
def uk:List (List Int)->Int->Nat
 |[],_=>46
 |t::us,k=>if k=p1 t then 41 else if k=p0 t then 40 else uk us k
def zG (t u:List Int):Prop:=p0 t≠p0 u/\p0 t≠p1 u/\p1 t≠p0 u/\p1 t≠p1 u
theorem cnt_none {k:Int}{f:List Int->Int}:∀{us:List (List Int)},(∀u∈us,f u≠k)->us.filter (λu=>decide (f u=k))=[]
 |[],_=>rfl
 |u::us,h=>by
  rw[KL,if_neg (by rw[decide_eq_true_eq];exact h u JA)]
  exact cnt_none λv hv=>h v (Ju _ hv)
theorem cZ {k:Int}{f:List Int->Int}{t:List Int}{us:List (List Int)}:(t::us).filter (λu=>decide (f u=k))=if f t=k then t::us.filter (λu=>decide (f u=k)) else us.filter (λu=>decide (f u=k)):=by
 rw[KL]
 by_cases h:f t=k
 ·rw[if_pos h,if_pos (decide_eq_true h)]
 ·rw[if_neg h,if_neg (by rw[decide_eq_true_eq];exact h)]
theorem kG {k:Int}:∀{us:List (List Int)},us.Pairwise zG->(∀u∈us,p0 u≠p1 u)->[uk us k].filter (λc=>c != 46)=Jz (us.filter λu=>decide (p0 u=k)).length 40++Jz (us.filter λu=>decide (p1 u=k)).length 41
 |[],_,_=>rfl
 |t::us,h,hn=>by
  have h:=Kb.mp h;have ih:=kG (k:=k) h.2 λu hu=>hn u (Ju _ hu);have ht:=hn t JA;unfold uk
  by_cases e1:k=p1 t
  ·rw[if_pos e1,cZ (f:=p0),cZ (f:=p1),if_neg (by lia),if_pos (by lia),cnt_none λu hu=>by have:=h.1 u hu;unfold zG at this;lia,cnt_none λu hu=>by have:=h.1 u hu;unfold zG at this;lia]
   rfl
  ·rw[if_neg e1]
   by_cases e0:k=p0 t
   ·rw[if_pos e0,cZ (f:=p0),cZ (f:=p1),if_pos (by lia),if_neg (by lia),cnt_none λu hu=>by have:=h.1 u hu;unfold zG at this;lia,cnt_none λu hu=>by have:=h.1 u hu;unfold zG at this;lia]
    rfl
   ·rw[if_neg e0,cZ (f:=p0),cZ (f:=p1),if_neg (by lia),if_neg (by lia)]
    exact ih
def l9 (us:List (List Int))(n:Nat):List Nat:=(JM n).map λ(k:Nat)=>uk us (k:Int)
def ui (us:List (List Int))(n:Nat):List Nat:=(l9 us n).filter λc=>c != 46
theorem uj {us:List (List Int)}{a b:Int}{n:Nat}{F:Nat->D}(a0:0<=a)(ab:a<b)(bn:b<n):(((l9 us n).map F).set a.toNat (F 40)).set b.toNat (F 41)=(l9 ([a,b]::us) n).map F:=by
 unfold l9;rw[Ki,nN (by lia),nN (by lia),Ki]
 refine Lj λk _=>?_;show (if k=b.toNat then F 41 else if k=a.toNat then F 40 else F (uk us (k:Int)))=F (if (k:Int)=b then 41 else if (k:Int)=a then 40 else uk us (k:Int))
 by_cases h1:(k:Int)=b
 ·rw[if_pos h1,if_pos (by lia)]
 ·rw[if_neg h1,if_neg (by lia)]
  by_cases h2:(k:Int)=a
  ·rw[if_pos h2,if_pos (by lia)]
  ·rw[if_neg h2,if_neg (by lia)]
theorem gw {us:List (List Int)}{n:Nat}:(l9 us n).length=n:=by unfold l9;rw[IW,LC]
theorem um {n:Nat}{F:Nat->D}:(l9 [] n).map F=(JM n).map λ_=>F 46:=by unfold l9;rw[Ki];rfl
theorem ur:(("." : Str)==("" : Str))=false:=by decide +kernel
theorem uq (cs:List Nat):Ld (c3 cs) ("." : Str) ("" : Str)=c3 (cs.filter λc=>c != 46):=by
 rw[By,zI];have h:=PyProof.Rows.replace_strikes (c3 cs) 46;have e:(Ld (c3 cs) (gn 46) ⟨#[]⟩).cps=(cs.filter λc=>c != 46).toArray:=by
  rw[<- Array.toArray_toList (xs:=(Ld (c3 cs) (gn 46) ⟨#[]⟩).cps)];exact congrArg List.toArray h
 show Ld (c3 cs) (gn 46) ⟨#[]⟩=⟨(cs.filter λc=>c != 46).toArray⟩;rw[<- e]
theorem za {n:Int}{rows ks:List (List Int)}(tr:bx n rows)(kg:Good rows ks):ks.reverse.Pairwise zG/\∀u∈ks.reverse,p0 u≠p1 u:=by
 refine⟨List.pairwise_reverse.mpr ?_,λu hu=>?_⟩
 ·refine(List.Pairwise.and_mem.mp kg.2.2).imp λ{t u} h=>?_;obtain⟨ht,hu,ha,_⟩:=h;obtain⟨a,b,rfl,_⟩:=tr t (kg.1 t ht);obtain⟨c,d,rfl,_⟩:=tr u (kg.1 u hu);have hs:∀i∈[a,b],i∉[c,d]:=λi hi hj=>by
   rw[cm.mpr ⟨i,hi,hj⟩]at ha;cases ha
  have h1:=hs a (by simp)
  have h2:=hs b (by simp)
  simp only[Ja,Kn,or_false,not_or]at h1 h2;show c≠a/\c≠b/\d≠a/\d≠b;lia
 ·obtain⟨a,b,rfl,_,ab,_⟩:=tr u (kg.1 u (List.mem_reverse.mp hu));show a≠b;lia
def cN (f:List Int->Int)(ks:List (List Int))(p:Nat):Nat:=(ks.filter λu=>decide (f u=(p:Int))).length
theorem tJ {f:List Int->Int}{ks:List (List Int)}{p:Nat}:cN f ks.reverse p=cN f ks p:=by
 unfold cN;rw[List.filter_reverse,List.length_reverse]
theorem tj {n:Int}{rows ks:List (List Int)}(tr:bx n rows)(kg:Good rows ks)(p:Nat):ui ks.reverse (p+1)=ui ks.reverse p++Jz (cN p0 ks p) 40++Jz (cN p1 ks p) 41/\cN p0 ks p<=1/\cN p1 ks p<=1:=by
 obtain⟨h1,h2⟩:=za tr kg;have e:=kG (k:=(p:Int)) h1 h2;have hl:=congrArg Mw e;rw[JV,Ka,Ka]at hl;have hle:=K4 (λc=>c != 46) [uk ks.reverse (p:Int)];rw[Kz]at hle;have c0:cN p0 ks.reverse p=(ks.reverse.filter λu=>decide (p0 u=(p:Int))).length:=rfl;have c1:cN p1 ks.reverse p=(ks.reverse.filter λu=>decide (p1 u=(p:Int))).length:=rfl;rw[<- c0,<- c1,tJ,tJ]at hl e;refine⟨?_,by lia,by lia⟩
 unfold ui l9;rw[Mz,Kt,KS,J9,<- e];rfl
theorem lQ {c l:Nat}(h:l<=1):oH (.str (gn c)) (.int (l:Int))=some (.str (c3 (Jz l c))):=by
 show (if (gn c).length=1/\0<=(l:Int)/\(l:Int)<=1 then some (D.str (if (l:Int)=1 then gn c else Str.empty)) else none)=_
 rw[if_pos ⟨rfl,by lia,by lia⟩]
 match l,h with
 |0,_=>rfl
 |1,_=>rfl
theorem uh {us:List (List Int)}{n:Nat}:(ui us n).length<=n:=by
 unfold ui;exact JC (K4 _ _) (Mn gw)
theorem qR {k:Int}:∀{us:List (List Int)},uk us k<=46
 |[]=>IZ _
 |t::us=>by
  unfold uk
  split
  ·decide
  ·split
   ·decide
   ·exact qR
theorem qK {us:List (List Int)}{n:Nat}:PyData.strOk (c3 (ui us n))=true:=by
 unfold PyData.strOk c3;rw[Array.all_eq_true'];intro x hx;have hx:=List.mem_toArray.mp hx;obtain⟨k,_,rfl⟩:=JK.mp (MA.mp hx).1;have:=qR (us:=us) (k:=((k:Nat):Int));exact decide_eq_true (by lia)
end L2.Q
namespace L2
open PySem PySem.Spec PySem.SeqAt PyProof.Rows
def nr:List D->Option (List Bool)
 |[]=>some []
 |.bl b::ds=>(nr ds).map (b::·)
 |_::_=>none
theorem oK:∀{ds:List D} {bs:List Bool},nr ds=some bs->ds=bs.map D.bl
 |[],_,h=>by cases h;rfl
 |d::ds,bs,h=>by
  cases d with
  |bl b =>
   obtain⟨r,h1,rfl⟩:=Jv.mp (show (nr ds).map (b::·)=some bs from h)
   rw[oK h1];rfl
  |_=>cases h
theorem lS:∀bs:List Bool,nr (bs.map D.bl)=some bs
 |[]=>rfl
 |b::bs=>by show (nr (bs.map D.bl)).map (b::·)=_;rw[lS bs];rfl
def yT:List D->Option D
 |[d]=>d.xW.bind λds=>(nr ds).map λbs=>.bl (bs.any id)
 |_=>none
theorem vD (bs:List Bool):yT [.lst (bs.map D.bl)]=some (.bl (bs.any id)):=by
 show (nr (bs.map D.bl)).map _=_;rw[lS];rfl
section
variable {P:IY}{w:Je}{W:Addr->Prop}{H:Hp}
theorem kL:∀{bs:List Bool} {vs:List V},ag P w W H (bs.map D.bl) vs->vs=bs.map V.bl
 |[],_,h=>h
 |b::bs,_,⟨v,r,e,h1,h2⟩=>by rw[e,show v=.bl b from h1,kL h2];rfl
end
theorem j_:∀{bs:List Bool} {us:List IS},Vals (bs.map V.bl) us->us=bs.map Value.bool
 |[],_,.nil=>rfl
 |b::bs,_,.cons r q=>by rw[Jy,<- j_ q,show _=Value.bool b from r]
variable {X:Cx}
theorem qf (hc:X.calm=true):b5 X (.builtin "any") yT:=by
 intro pins s σ H xs us Q I r h;obtain⟨W,ds,d,hd,r1,e,q⟩:=h
 match ds,e with
 |[x],e =>
  obtain⟨es,e1,e2⟩:=Km.mp (show x.xW.bind _=some d from e)
  obtain⟨bs,e3,rfl⟩:=Jv.mp e2;rw[D.u6 e1,oK e3]at r1;obtain⟨x,rfl,p,vs,rfl,h1,n1,q1⟩:=iw r1;obtain⟨u,rfl,ru⟩:=vals1 r;cases ru;rw[kL q1]at h1;obtain⟨its,r2,ht,hz⟩:=I.list (cS.of h1);obtain rfl:=j_ r2;obtain⟨ol,gl,_⟩:=id ht.isList;have lt:p<s.heap.objs.size:=Jf gl;have Wk:=Walks.list (prog:=X.prog) (w:=X.w) (A:=X.A.in1) (I.ok.hd hc) s.heap.objs.size p (JB lt) (bs.map Value.bool).toArray;refine call_any_walk (wpAny_pyIter_list ht.isList ⟨s.heap.objs.size,_,_,_,_,_,λj=>bs.getD j false,rfl,Wk,⟨⟨_,JG _ rfl,rfl,rfl⟩,ht.isList.push _⟩,λj v s' Q' E' hv hq=>?_,λh' tk k=>?_⟩)
  ·have hv:((bs.map Value.bool).toArray)[j]?=some v:=hv;rw[List.getElem?_toArray,Jt]at hv;obtain⟨b,hb,rfl⟩:=Jv.mp hv;have hq:Q' (bs.getD j false) s':=hq;rw[Lr,hb]at hq;exact Kf hq
  ·have ea:((JM (bs.map Value.bool).toArray.size).any λj=>bs.getD j false)=bs.any id:=by
    rw[ME,LN,LN];constructor
    ·rintro⟨j,hj,hb⟩;rw[Lr]at hb;cases hg:bs[j]? with
     |none=>rw[hg]at hb;cases hb
     |some b=>rw[hg]at hb;exact⟨b,JI hg,hb⟩
    ·rintro⟨b,hb,ht⟩;obtain⟨j,hj⟩:=L4 hb;refine⟨j,?_,by rw[Lr,hj];exact ht⟩
     rw[J8];have:=(Jd.mp hj).1;simpa using this
   rw[ea];exact⟨.bl (bs.any id),H,I.kept (t':=tk) λb o e=>k b o (by
    have:=Jf e;simp only[Jk];exact JB this) (Jb _ e),rfl,q _ _ (ax.refl _) rfl⟩
namespace Q
section
end
end Q
end L2
namespace L2.Q
open PySem PySem.Spec PySem.SeqAt PyProof.Rows
structure Cp (mg:Str->Option IS):Prop extends Bs3 mg where
 any:mg "any" = none
theorem yZ:J6 "any" = some (.builtin "any"):=by decide +kernel
theorem lR {ds:List D}{n:Nat}(h:ds.length=n):vy [.lst ds]=some (.int (n:Int)):=by subst h;rfl
theorem vp {γ:dJ}{ψ:wJ}{E:b4}{ds:List D}{k:Kd}{β:bo}(I:Nat->bo->Prop)(h0:I 0 β)(h1:∀E':b4,(∀d β,E.rt d β->E'.rt d β)->∀i:Nat,(∀β,I (i+1) β->E'.nx β)->∀d β,ds[i]?=some d->I i β->γ d (sk k d) β λβ1=>ψ E' β1)
  (h2:∀β,I ds.length β->E.nx β):sR γ ψ E ds k β:=⟨I,h0,λi d β e q=>h1 (E.lp (I (i+1))) (λ_ _ q=>q) i (λ_ q=>q) d β e q,h2⟩
end L2.Q
namespace gF
open PySem L2 L2.Q
section
variable {P:IY}{w:Je}{K:PySem.W.Frag}{mg:Str->Option IS}{base:Heap}
theorem cG:aH ["many","ties","signs","a","b"] ["many","ties"] (ao c7):=mkS
def sW:FD:=λds R=>∃(n:Nat) (ts:List (List Int)),ds=[.int (n:Int),.lst (ts.map kD)]/\n<=60/\ts.length<=600/\bx n ts/\Good ts ts/\R (.str (c3 (l9 ts.reverse n)))
theorem sW.mono:dj sW:=λds R R' k ⟨n,ts,e,h1,h2,h3,h4,q⟩=>⟨n,ts,e,h1,h2,h3,h4,k _ q⟩
theorem xK {p7 jg} (wD:Fv K mg p7 jg) {lK gd} (oI:D8 K mg lK gd) {tZ iJ} (dE:D7 K mg tZ iJ) {qr gm} (dO:D6 K mg qr gm) {oD fo} (dF:D5 K mg oD fo) {mh d6} (dS:D4 K mg mh d6) {mf d4} (dX:D3 K mg mf d4) (B:Cp mg):aN P w K mg base ck 6 p7 jg ["many","ties"] (fC P w true sW):=by
 have Fu:aN P w K mg base ck 5 _ _ _ (fC P w true iq):=f9 oI dE dO dF dS dX B.toBs;refine tW wD.F cG (λds R AY=> by obtain⟨n,ts,e,_⟩ := AY;subst e;rfl) λcg A outer s H E hr=>⟨_,(ai (cK (aO ah (bH.m bt) (ae (i:=0)) au) fJ a7)
    (ai (cK (e9 (aV ah (b5.m (qf rfl)) B.any yZ (aa (Dt ["a","b","many"] [none,none,some 0] (by rfl) (by decide:(["a","b","many"]:List Str).Nodup) rfl (cx (ae (i:=1))) (λ_ _ _ _ _ _=>(cJ (n:=2) rfl (aG (aw (i:=0) (by decide:(["a","b","many"]:List Str).Nodup)) (aG (aw (i:=1) (by decide:(["a","b","many"]:List Str).Nodup)) bZ)))) (λ_ _ _ _ _ _=>qG) (λ_ _ _ _ _ _=>(xo (dz au (bY xD (ae (i:=0)) (bY bt (ae (i:=1)) (e_ bt (ae (i:=2))))))))) af))) fJ a7)
    (ai (nZ (bC iq.mono Fu (hr.mono (by decide)) oI.m oI.F.kp oI.b (aa (c8 (aa (ae (i:=0)) (aa (ae (i:=1)) af))) (aa (ae (i:=1)) af))))
    (ai (CM (i:=2) true ["point"] [none] (by rfl) (by decide:(["point"]:List Str).Nodup) rfl (λ_=>(aU B.range (aa (ae (i:=0)) af))) (λ_ _ _ _ _ _=>(aw (i:=0) (by decide:(["point"]:List Str).Nodup))) (λ_ _ _ _ _ _=>qG) (λ_ _ _ _ _ _=>cO) cG.nd)
    (ai (cy J3 rfl (cx (ae (i:=1))) (cJ (n:=2) rfl (aG (aw (i:=3) cG.nd) (aG (aw (i:=4) cG.nd) bZ))) (ai (gT (i:=2) (λ_=>cO) (λ_=>(ae (i:=3))))
    (ar (gT (i:=2) (λ_=>cO) (λ_=>(ae (i:=4)))))))
    (ar (aY (uD (ae (i:=2)))))))))),λds R h=>?_⟩
 obtain⟨n,ts,rfl,hn,hl,ht,hg,q⟩:=h;refine⟨_,rfl,trivial,_,rfl,_,rfl,pU (decide_eq_false (by lia)) ?_⟩
 refine⟨_,rfl,_,rfl,trivial,mS (λ_=>true) (λ_=>.bl false) trivial (nK (by lia)) (λt DM x0 x1 o J ho j1 j2=>?_) ?_⟩
 ·obtain⟨a,b,rfl,a0,ab,bn⟩:=ht t DM;refine⟨_,rfl,rfl,_,_,rfl,_,_,rfl,rfl,_,rfl,_,rfl,yq (decide_eq_true a0) ⟨_,rfl,_,rfl,yq (decide_eq_true ab) ⟨_,rfl,_,rfl,?_⟩⟩⟩;exact⟨decide (b<(n:Int)),rfl,trivial,ho,by rw[decide_eq_true bn];exact j1 rfl _ _⟩
 have ea:yT [.lst ((ts.filter λ_=>true).map λ_=>D.bl false)]=some (.bl false):=by
  have h:=vD ((ts.filter λ_=>true).map λ_=>false);rw[Ki,show (((ts.filter λ_=>true).map λ_=>false).any id)=false by rw[List.any_map];exact List.any_eq_false.mpr λ_ _=>KU]at h
  exact h
 refine⟨trivial,_,ea,_,rfl,pU rfl ?_⟩;refine⟨_,rfl,trivial,_,rfl,trivial,tU,.inr ⟨trivial,_,rfl,trivial,(n:Int),ts,ts,rfl,hl,ht,hg,?_⟩⟩;refine⟨_,rfl,trivial,(n:Int),rfl,by lia,by lia,trivial,rV (l:=JM n) (f:=λk:Nat=>D.int (0+(k:Int))) (λ_=>true) (λ_=>.str (gn 46)) trivial (nK (by rw[LC];lia)) (λk hk x0 o J ho j1 j2=>⟨trivial,ho,by rw[By];exact j1 rfl _⟩) ?_⟩
 rw[List.filter_eq_self.mpr λ_ _=>rfl];refine⟨_,rfl,_,rfl,trivial,?_⟩;refine vp (λi β=>i<=ts.length/\∃y3 y4:Option Q.B,β=[some (.val false (.int (n:Int))),some (.val false (.lst (ts.map kD))),some (.own (.lst ((l9 (ts.take i).reverse n).map λc=>D.str (gn c)))),y3,y4]) ⟨Jp _,_,_,by rw[show (ts.take 0).reverse=[] from rfl,um];rfl⟩ (λE1 r1 i n1 d β hd hv=>?_) λβ hv=>?_
 ·obtain⟨_,y3,y4,rfl⟩:=hv;rw[Jt]at hd;obtain⟨t,hx,rfl⟩:=Jv.mp hd;have hi:i<ts.length:=(Jd.mp hx).1;obtain⟨a,b,rfl,a0,ab,bn⟩:=ht t (JI hx);have e1:ts.take (i+1)=ts.take i++[[a,b]]:=by rw[Mo,hx];rfl
  refine⟨_,rfl,rfl,_,_,rfl,_,_,rfl,rfl,?_⟩;have IE:((l9 (ts.take i).reverse n).map λc=>D.str (gn c)).length=n:=by rw[IW,gw]
  have es:(l9 (ts.take (i+1)).reverse n).map (λc=>D.str (gn c))=(((l9 (ts.take i).reverse n).map λc=>D.str (gn c)).set a.toNat (.str "(")).set b.toNat (.str ")"):=by
   rw[e1,L8,List.reverse_singleton,List.singleton_append,BA,Bz];exact(uj (us:=(ts.take i).reverse) (F:=λc=>D.str (gn c)) a0 ab bn).symm
  refine⟨trivial,⟨_,rfl⟩,_,rfl,_,a,a.toNat,rfl,rfl,yh (i:=a.toNat) (by lia) (by lia),?_⟩
  exact⟨trivial,⟨_,rfl⟩,_,rfl,_,b,b.toNat,rfl,rfl,yh (i:=b.toNat) (by lia) (by rw[List.length_set];lia),n1 _ ⟨hi,_,_,by rw[es];rfl⟩⟩
 ·obtain⟨_,y3,y4,rfl⟩:=hv;rw[IW,Mt];exact⟨_,rfl,_,rfl,by rw[gw];lia,trivial,q⟩
theorem kJ:aH ["row","ties"] ["row","ties"] (ao c4):=mkS
def ic:FD:=λds R=>∃(n:Nat) (rows ts:List (List Int)),ds=[eY n rows,.lst (ts.map kD)]/\n<=60/\ts.length<=600/\bx n rows/\Good rows ts/\R (.str (c3 (ui ts.reverse n)))
theorem ic.mono:dj ic:=λds R R' k ⟨n,rows,ts,e,h1,h2,h3,h4,q⟩=>⟨n,rows,ts,e,h1,h2,h3,h4,k _ q⟩
theorem rM {vt oA} (zw:Gr K mg vt oA) {p7 jg} (wD:Fv K mg p7 jg) {lK gd} (oI:D8 K mg lK gd) {tZ iJ} (dE:D7 K mg tZ iJ) {qr gm} (dO:D6 K mg qr gm) {oD fo} (dF:D5 K mg oD fo) {mh d6} (dS:D4 K mg mh d6) {mf d4} (dX:D3 K mg mf d4) (B:Cp mg):aN P w K mg base ck 7 vt oA ["row","ties"] (fC P w true ic):=by
 have Fu:aN P w K mg base ck 5 _ _ _ (fC P w true iq):=f9 oI dE dO dF dS dX B.toBs;have Ii:aN P w K mg base ck 6 _ _ _ (fC P w true sW):=xK wD oI dE dO dF dS dX B;refine tW zw.F kJ (λds R AX=> by obtain⟨n,rows,ts,e,_⟩ := AX;subst e;rfl) λcg A outer s H E hr=>⟨_,(ai (nZ (bC iq.mono Fu (hr.mono (by decide)) oI.m oI.F.kp oI.b (aa (ae (i:=0)) (aa (ae (i:=1)) af))))
    (ar (aY (uC sW.mono Ii (hr.mono (by decide)) wD.m wD.F.kp wD.b (ae (i:=0)) (aa (ae (i:=1)) af) ur (by decide))))),λds R h=>?_⟩
 obtain⟨n,rows,ts,rfl,hn,hl,ht,hg,q⟩:=h;refine⟨_,rfl,trivial,_,rfl,trivial,(n:Int),rows,ts,rfl,hl,ht,hg,?_⟩;have EL:Good ts ts:=⟨λt h=>h,hg.2⟩;refine⟨_,rfl,(n:Int),rfl,_,rfl,trivial,n,ts,rfl,hn,hl,λt h=>ht t (hg.1 t h),EL,c3 (l9 ts.reverse n),rfl,?_,trivial,?_⟩
 ·show (l9 ts.reverse n).toArray.size<=_;rw[Ji,gw];lia
 ·rw[uq];exact q
end
section
variable {P:IY}{w:Je}{K:PySem.W.Frag}{mg:Str->Option IS}{base:Heap}
theorem cq:aH ["script","cell","pot","row","ties","due","point","handed","again"] ["script"] (ao gO):=mkS
def qN (K:PySem.W.Frag):Sp:=λvs H Q _=>∃(a:Addr) (ns:List Int),vs=[.ref a]/\cS K H a (ns.map V.int)/\ns.length<=63/\∀H',Q (.bl true) H'
def JL (β:Q.bo):Prop:=∃y0 y1 y2 y3 y4 y5 y6 y7 y8:Option Q.B,β=[y0,y1,y2,y3,y4,y5,y6,y7,y8]
theorem xJ {f:Addr} {fd:JJ} (F:t7 K "law" "law" gO f fd) (B4:Cp mg) {mf d4} (dX:D3 K mg mf d4) {mh d6} (dS:D4 K mg mh d6) {oD fo} (dF:D5 K mg oD fo) {qr gm} (dO:D6 K mg qr gm) {tZ iJ} (dE:D7 K mg tZ iJ) {lK gd} (oI:D8 K mg lK gd) {p7 jg} (wD:Fv K mg p7 jg) {vt oA} (zw:Gr K mg vt oA) {HQ E6} (dP:Ik K mg HQ E6) {yN nc} (dT:D1 K mg yN nc) {p5 je} (wB:D0 K mg p5 je) {Cd vq} (dR:D2 K mg Cd vq) {vw oC} (zC:D9 K mg vw oC) {p6 jf} (wC:Fw K mg p6 jf) {vv oB} (vx:Gs K mg vv oB):aN P w K mg base ck 8 f fd ["script"] (qN K):=by
 have B:=B4.toBs2;have GP:aN P w K mg base ck 1 _ _ _ (fC P w true sV):=xI dP.F B.toBs;have GR:aN P w K mg base ck 3 _ _ _ (gh P w iZ true lL):=xH dR dT wB B.toBs;have Gq:aN P w K mg base ck 2 _ _ _ (gh P w iZ true jh):=xG vx dT wC B.toBs;have Ih:aN P w K mg base ck 1 _ _ _ (fC P w true ip):=pH zC B.toBs;have Ic:aN P w K mg base ck 7 _ _ _ (fC P w true ic):=rM zw wD oI dE dO dF dS dX B4;refine F.ok cq (λvs H Q E h=>?_) (λcg A outer s H vs Qk E hr h=>?_)
 ·obtain⟨a,ns,rfl,_⟩:=h;rfl
 ·obtain⟨a,ns,rfl,hS,hlen,k⟩:=h;have EF:∀b:Addr,¬ (λ_=>False) b:=λb z=>z;obtain⟨ψ,hb,hψ⟩:∃ψ,Q.qk (iM ck P w K mg base _ "law" (ao gO) f cg A outer s H E).vZ ⟨H,λ_=>False,true,λ_=>False⟩ (match (cL gO)with | .For _ _ b _ _::_=>b|_=>[]) ψ /\
    ∀(c:Int) (x0 x2 x3 x4 x5 x6 x7 x8:Option Q.B),ψ {nx:=JL,rt:=λd _=>d=.bl true,bk:=JL,ct:=JL} [x0,some (.val true (.int c)),x2,x3,x4,x5,x6,x7,x8]:=by
   refine⟨_,(ai (uN (i:=2) iZ EF (λ_=>(bC sV.mono GP (hr.mono (by decide)) dP.m dP.F.kp dP.b (aa (ae (i:=1)) af))) cq.nd)
    (ai (bP (i:=3) (aR (ih:=2) lL.mono GR (hr.mono (by decide)) dR.m dR.F.kp dR.b af) cq.nd)
    (ar (cy J3 rfl (cx (bB (aa (aR (ih:=2) jh.mono Gq (hr.mono (by decide)) vx.m vx.F.kp vx.b (aa (ae (i:=3)) af)) (aa (aR (ih:=2) jh.mono Gq (hr.mono (by decide)) vx.m vx.F.kp vx.b (aa (ae (i:=3)) af)) (aa (bB af) af))))) (aw (i:=4) cq.nd) (ai (bP (i:=5) cO cq.nd)
    (ai (cy J3 rfl (aU B.range (aa (bw ah cP (ae (i:=3)) au) af)) (aw (i:=6) cq.nd) (ai (bP (i:=5) (cI ah (bH.m kY) (ae (i:=5)) (cI ah (bH.m kX) cO (aV ah (b5.m cj) B.len eK (aa (Dt ["a","b","point"] [none,none,some 6] (by rfl) (by decide:(["a","b","point"]:List Str).Nodup) rfl (cx (ae (i:=4))) (λ_ _ _ _ _ _=>(cJ (n:=2) rfl (aG (aw (i:=0) (by decide:(["a","b","point"]:List Str).Nodup)) (aG (aw (i:=1) (by decide:(["a","b","point"]:List Str).Nodup)) bZ)))) (λ_ _ _ _ _ _=>(my (aO ah (bH.m (gY hr.units)) (ae (i:=0)) (ae (i:=2))))) (λ_ _ _ _ _ _=>au)) af)))) cq.nd)
    (ar (bP (i:=5) (cI ah (bH.m kY) (ae (i:=5)) (cI ah (bH.m kX) cO (aV ah (b5.m cj) B.len eK (aa (Dt ["a","b","point"] [none,none,some 6] (by rfl) (by decide:(["a","b","point"]:List Str).Nodup) rfl (cx (ae (i:=4))) (λ_ _ _ _ _ _=>(cJ (n:=2) rfl (aG (aw (i:=0) (by decide:(["a","b","point"]:List Str).Nodup)) (aG (aw (i:=1) (by decide:(["a","b","point"]:List Str).Nodup)) bZ)))) (λ_ _ _ _ _ _=>(my (aO ah (bH.m (gY hr.units)) (ae (i:=1)) (ae (i:=2))))) (λ_ _ _ _ _ _=>au)) af)))) cq.nd))))
    (ai (bP (i:=7) (bB (aa (bC ip.mono Ih (hr.mono (by decide)) zC.m zC.F.kp zC.b (aa (ae (i:=3)) af)) (aa (dU c_ dI B.list j0 (aa (ae (i:=4)) af)) af))) cq.nd)
    (ar (cy J3 rfl (aU B.range (aa au af)) (aw (i:=8) cq.nd) (ar (cK (oU.t (q9 (aO ah (bH.m (gX hr.units)) (bC ic.mono Ic (hr.mono (by decide)) zw.m zw.F.kp zw.b (aa (bw ah cP (ae (i:=7)) au) (aa (bw ah cP (ae (i:=7)) au) af))) (ae (i:=5))) (nT (aO ah (bH.m (gX hr.units)) (ae (i:=7)) (bB (aa (ae (i:=3)) (aa (ae (i:=4)) af))))))) (ar (aY Ac)) a7))))))))))),λc x0 x2 x3 x4 x5 x6 x7 x8=>?_⟩
   refine⟨_,rfl,trivial,c,rfl,λns hk=>⟨trivial,(by show 2<9;decide),ns,rfl,hk,?_⟩⟩
   refine⟨rfl,rfl,trivial,rfl,λm rows m0 m1 hl tr sr nd=>?_⟩;refine⟨rfl,_,rfl,trivial,rfl,trivial,m,rows,rfl,tr,hl,λts hg lt=>⟨trivial,rfl,_,rfl,trivial,rfl,trivial,m,rows,rfl,tr,hl,λju EL lt'=>⟨trivial,Jp _,trivial,zh,_,rfl,trivial,?_⟩⟩⟩;obtain⟨n,rfl⟩:∃n:Nat,m=(n:Int):=⟨m.toNat,by lia⟩
   refine vp (λ_ β=>∃y4 y5 y6 y7 y8:Option Q.B,β=[x0,some (.val true (.int c)),some (.hand iZ),some (.val true (eY (n:Int) rows)),y4,y5,y6,y7,y8]) ⟨_,_,_,_,_,rfl⟩ (λE1 r1 i n1 d β hd hv=>?_) λβ hv=>?_
   ·obtain⟨y4,y5,y6,y7,y8,rfl⟩:=hv;obtain⟨ks,rfl,kg,kl⟩:∃ks:List (List Int),d=.lst (ks.map kD)/\Good rows ks/\ks.length<=400:=by
     have:=JI hd;rcases Ja.mp this with rfl|h
     ·exact⟨ts,rfl,hg,lt⟩
     rcases Ja.mp h with rfl|h
     ·exact⟨ju,rfl,EL,lt'⟩
     ·exact⟨[],Jk.mp h,Good.nil,Jp _⟩
    clear hd
    refine⟨_,rfl,trivial,_,rfl,trivial,(n:Int),rfl,by lia,by lia,trivial,?_⟩
    rw[JZ];refine vp (λp β=>p<=n/\∃y6 y7 y8:Option Q.B,β=[x0,some (.val true (.int c)),some (.hand iZ),some (.val true (eY (n:Int) rows)),some (.val true (.lst (ks.map kD))),some (.val true (.str (c3 (ui ks.reverse p)))),y6,y7,y8]) ⟨Jp _,_,_,_,by rw[Gz];rfl⟩ (λE2 r2 p n2 d β hd hv=>?_) λβ hv=>?_
    ·obtain⟨_,y6,y7,y8,rfl⟩:=hv;obtain⟨hp,rfl⟩:=bX hd;rw[Int.zero_add];obtain⟨es,l0,l1⟩:=tj tr kg p;have hs:=uh (us:=ks.reverse) (n:=p);have q0:oH (.str "(") (.int ((cN p0 ks p:Nat):Int))=some (.str (c3 (Jz (cN p0 ks p) 40))):=by rw[BA];exact lQ l0
     have q1:oH (.str ")") (.int ((cN p1 ks p:Nat):Int))=some (.str (c3 (Jz (cN p1 ks p) 41))):=by rw[Bz];exact lQ l1
     have d0:vy [.lst ((ks.filter λu=>decide (p0 u=(p:Int))).map λ_=>D.int 1)]=some (.int ((cN p0 ks p:Nat):Int)):=lR (by rw[IW];rfl)
     have d1:vy [.lst ((ks.filter λu=>decide (p1 u=(p:Int))).map λ_=>D.int 1)]=some (.int ((cN p1 ks p:Nat):Int)):=lR (by rw[IW];rfl)
     refine⟨_,rfl,trivial,trivial,_,rfl,_,rfl,trivial,mS (λu=>decide (p0 u=(p:Int))) (λ_=>.int 1) trivial (nK (by lia)) (λu hu x0 x1 o J ho j1 j2=>?_) ?_⟩
     ·obtain⟨a,b,rfl,_⟩:=tr u (kg.1 u hu);exact⟨_,rfl,rfl,_,_,rfl,_,_,rfl,rfl,_,rfl,trivial,_,rfl,_,gD _ _,_,rfl,l_ (λh=>⟨trivial,ho,j1 (decide_eq_true h) _ _⟩) λh=>j2 (decide_eq_false h) _ _⟩
     refine⟨trivial,_,d0,_,q0,_,lT (by rw[Ka];lia),?_⟩
     refine⟨_,rfl,trivial,trivial,_,rfl,_,rfl,trivial,mS (λu=>decide (p1 u=(p:Int))) (λ_=>.int 1) trivial (nK (by lia)) (λu hu x0 x1 o J ho j1 j2=>?_) ?_⟩
     ·obtain⟨a,b,rfl,_⟩:=tr u (kg.1 u hu);exact⟨_,rfl,rfl,_,_,rfl,_,_,rfl,rfl,_,rfl,trivial,_,rfl,_,gD _ _,_,rfl,l_ (λh=>⟨trivial,ho,j1 (decide_eq_true h) _ _⟩) λh=>j2 (decide_eq_false h) _ _⟩
     refine⟨trivial,_,d1,_,q1,_,lT (by rw[JV,Ka,Ka];lia),n2 _ ⟨hp,_,_,_,by rw[es];rfl⟩⟩
    ·obtain⟨_,y6,y7,y8,rfl⟩:=hv;rw[cw];refine⟨_,rfl,trivial,(n:Int),rows,rfl,trivial,_,rfl,trivial,_,rfl,.inl ⟨cB _,trivial,tU,?_⟩⟩;refine⟨trivial,2,rfl,by decide,by decide,trivial,?_⟩
     refine vp (λ_ β=>∃y8:Option Q.B,β=[x0,some (.val true (.int c)),some (.hand iZ),some (.val true (eY (n:Int) rows)),some (.val true (.lst (ks.map kD))),some (.val true (.str (c3 (ui ks.reverse n)))),y6,some (.val true (.lst [eY (n:Int) rows,.lst (ks.map kD)])),y8]) ⟨_,rfl⟩ (λE2 r2 j n2 d β hd hv=>?_) λβ hv=>?_
     ·obtain⟨y8,rfl⟩:=hv;obtain⟨_,rfl⟩:=bX hd;refine⟨_,rfl,trivial,_,rfl,trivial,_,rfl,trivial,_,rfl,.inr ⟨trivial,n,rows,ks,rfl,by lia,by lia,tr,kg,?_⟩⟩
      refine⟨trivial,_,rfl,_,lO (o9 _ qK),_,rfl,pU rfl ?_⟩;exact⟨_,rfl,trivial,_,rfl,trivial,_,rfl,trivial,tU,.inr ⟨_,lO (mG (n:Int) rows ks),_,rfl,pU rfl (n2 _ ⟨_,rfl⟩)⟩⟩
     ·obtain⟨y8,rfl⟩:=hv;exact n1 _ ⟨_,_,_,_,_,rfl⟩
   ·obtain⟨y4,y5,y6,y7,y8,rfl⟩:=hv;exact⟨_,_,_,_,_,_,_,_,_,rfl⟩
  refine⟨_,bg (qZ J3 rfl (nX (bI rK (mN (bD aK er)) (rp ug (pv 0) uH (uG aK)))) (Q.aw (C:=⟨H,λ_=>False,true,λ_=>False⟩) (i:=1) cq.nd).pg hb.ps) (e7 (gP rC)),?_⟩;obtain⟨ms,em,hm⟩:=p_ ns none (some 8);refine⟨(by show 1<=Jg;decide),λp1 A7=>⟨_,rfl,_,rfl,a,_,rfl,(ax.new A7).seq hS,λp2 F2=>?_⟩⟩
  have G5:p1≠p2:=bu az F2;refine⟨p1,p2,_,_,rfl,rfl,(by rw[ay G5];exact az),az,(by rw[em,IW,JU,Kz];lia),λl hl=>⟨l,rfl,⟨_,cS.of az⟩,?_⟩⟩
  rw[em];rw[em]at hl;have sm:ax H (upd (upd (upd H p1 (.lst [V.int 0])) p2 (.lst (ms.map V.int))) l (.lst ([V.int 0]++ms.map V.int))):=((ax.new A7).trans (ax.new (by rw[em]at *;exact F2))).trans (ax.new hl)
  have jc:(upd (upd (upd H p1 (.lst [V.int 0])) p2 (.lst (ms.map V.int))) l (.lst ([V.int 0]++ms.map V.int))) l=some (.lst ((0::ms).map V.int)):=az;generalize (upd (upd (upd H p1 (.lst [V.int 0])) p2 (.lst (ms.map V.int))) l (.lst ([V.int 0]++ms.map V.int)))=H1 at sm jc ⊢
  generalize (0::ms)=cs at jc;let X:Cx:=(iM ck P w K mg base ["script","cell","pot","row","ties","due","point","handed","again"] "law" (ao gO) f cg A outer s H E).vZ
  let C:Q.Cfg:=⟨H,λ_=>False,true,λ_=>False⟩
  have it:BM X (λ_=>False) (Co K l) (cs.map D.int) H1:=ly jc (λz=>z) (bO cs);have zm:=it (λb=>(λ_=>False) b\/H1 b=none) λb z=>z;have s':Q.bG P w C.z (L2.start ["script","cell","pot","row","ties","due","point","handed","again"] [.ref a]) H1 (Jz 9 none) (λ_=>[]):=ud (by rfl) sm
  generalize HG:cs.map D.int=ds at zm;have hint:∀d∈ds,∃c:Int,d=.int c:=λd hd=>by
   rw[<- HG]at hd;obtain⟨c,_,rfl⟩:=JK.mp hd;exact⟨c,rfl⟩
  refine⟨λi m σ H'=>i<=ds.length/\m=ds.length-i/\∃β,Q.SB X C (H1,Q.Wn λ_=>[]) σ H' β/\JL β,⟨_,Jp _,rfl,_,⟨_,s',Sn.refl⟩,⟨_,_,_,_,_,_,_,_,_,rfl⟩⟩,?_⟩;rintro i m σ2 H2 ⟨hi,rfl,β2,⟨aP,s2,n2⟩,⟨y0,y1,y2,y3,y4,y5,y6,y7,y8,rfl⟩⟩;obtain⟨cR,AG⟩:=zm i H2 (n2.k.mono λb z=>z.imp (λAW=> by obtain⟨_,q⟩ := AW;exact(nomatch q)) id)
  by_cases h8:i<ds.length
  ·right
   have hd:ds[i]?=some ds[i]:=I_ h8;obtain⟨go,yl⟩:=cR _ hd;obtain⟨c,hc⟩:=hint ds[i] (LM h8);refine⟨go,λσ' H'=>∃β,Q.SB X C (H1,Q.Wn λ_=>[]) σ' H' β/\JL β,λσ' H' AV=> by obtain⟨β',uo,sF⟩ := AV;exact⟨_,by lia,h8,rfl,β',uo,sF⟩,λx H3 y=>?_⟩
   obtain⟨s3,r3⟩:=yl x H3 y;rw[hc]at r3;refine⟨aP,_,.int c,.own,s2.same s3,ak.flat rfl r3,λσ4 pF s4 w4 _=>?_⟩;exact⟨(H1,Q.Wn λ_=>[]),{nx:=JL,rt:=λd _=>d=.bl true,bk:=JL,ct:=JL},_,⟨pF,s4,Q.gu (n2.same s3) w4⟩,hψ c y0 y2 y3 y4 y5 y6 y7 y8,⟨λσ5 H5 β5 pz q5=>⟨β5,pz,q5⟩,λσ5 H5 β5 d5 v5 pz r5 q5=>by
    subst q5;cases (show v5=V.bl true from zX r5)
    exact k _,λσ5 H5 β5 pz q5=>k _,λσ5 H5 β5 pz q5=>⟨β5,pz,q5⟩⟩⟩
  ·left
   have e:i=ds.length:=by lia
   subst e;exact⟨AG (IZ _),k _⟩
end
theorem u7 {α:Type}{P:List α->Prop}(h:∀a,P [a]):∀us:List α,us.length=1->P us:=λus e=>by
 obtain⟨a,rfl⟩:=List.length_eq_one_iff.mp e;exact h a
theorem gi {α:Type}{P:List α->Prop}(h:∀a b,P [a,b]):∀us:List α,us.length=2->P us:=λus e=>by
 cases us with
 |nil=>cases e
 |cons a us=>exact u7 (P:=λus=>P (a::us)) (h a) us (Mm e)
theorem Dr {α:Type}{P:List α->Prop}(h:∀a b c,P [a,b,c]):∀us:List α,us.length=3->P us:=λus e=>by
 cases us with
 |nil=>cases e
 |cons a us=>exact gi (P:=λus=>P (a::us)) (h a) us (Mm e)
theorem sP {K:PySem.W.Frag}{x m:Str}{st:Stmt}{t c f:Nat}(l:K.lookup f=some (kF st x m t c))(cd:PySem.W.codeIn K (.ref c) x=true)(k:PySem.W.keepIn K (.ref f)=true):t7 K x x st f (B5 st x m t c):=yK l cd k
theorem cD {K:PySem.W.Frag}{h:Heap}{mg:Str->Option IS}{x m:Str}{st:Stmt}{t c f:Nat}{ps:List Str}(X:K.In h)(G:h.Ns Ke mg)(l:K.lookup f=some (kF st x m t c))(cd:PySem.W.codeIn K (.ref c) x=true)(k:PySem.W.keepIn K (.ref f)=true)
  (a:PySem.W.nsIn K Ke x=some (some (.ref f))) (b:∀us:List IS,us.length=ps.length->bindArgs (B5 st x m t c) ⟨us,[]⟩=pure (ps.zip us)):Df K mg x st ps f (B5 st x m t c):=⟨sP l cd k,.all b,PySem.W.mg_of X G a⟩
theorem all_mk {l:PySem.W.OpenLaw} (w:Je) (mg:Str->Option IS) (fa:Addr) (h:Heap) (X:(KK w.params).In h) (G:h.Ns Ke mg) (HE:mg "law" = some (.ref fa))   :∃fd:JJ,(∀(s:IT) (v:IS),BindsTo s fd ⟨[v],[]⟩ [("script",v)])/\∀base:Heap,(KK w.params).In base->base.Ns Ke mg->aN l.prog w (KK w.params) mg base ck 8 fa fd ["script"] (qN (KK w.params)):=by
 have e:=HE.symm.trans (PySem.W.mg_of X G (v:=.ref 157) (by kernel_rfl))
 cases e;have Av:=PySem.W.mg_none_of X G (n:="max") (by kernel_rfl)
 have Au:=PySem.W.mg_none_of X G (n:="min") (by kernel_rfl)
 have Ax:=PySem.W.mg_none_of X G (n:="int") (by kernel_rfl)
 have u4:=PySem.W.mg_none_of X G (n:="range") (by kernel_rfl)
 have rS:=PySem.W.mg_none_of X G (n:="sorted") (by kernel_rfl)
 have As:=PySem.W.mg_none_of X G (n:="set") (by kernel_rfl)
 have Aw:=PySem.W.mg_none_of X G (n:="len") (by kernel_rfl)
 have xR:=PySem.W.mg_none_of X G (n:="list") (by kernel_rfl)
 have jO:=PySem.W.mg_none_of X G (n:="isinstance") (by kernel_rfl)
 have u3:=PySem.W.mg_none_of X G (n:="tuple") (by kernel_rfl)
 have Ar:=PySem.W.mg_none_of X G (n:="str") (by kernel_rfl)
 have xS:=PySem.W.mg_none_of X G (n:="bool") (by kernel_rfl)
 have Ap:=PySem.W.mg_none_of X G (n:="zip") (by kernel_rfl)
 have k7:=PySem.W.mg_none_of X G (n:="enumerate") (by kernel_rfl)
 have Aq:=PySem.W.mg_none_of X G (n:="sum") (by kernel_rfl)
 have Ay:=PySem.W.mg_none_of X G (n:="any") (by kernel_rfl)
 have B:=(⟨(⟨⟨⟨Av,Au,Ax,u4,rS,As,Aw,xR⟩,jO,u3,Ar,xS,Ap,k7⟩,Aq⟩:Bs3 mg),Ay⟩:Cp mg);exact⟨_,λs v=>.of_eq rfl,λbase _ _=>xJ (sP (x:="law") (m:="law_archrow_k40_shapes_of_sets") (st:=gO) (t:=315) (c:=156) (f:=157) (by kernel_rfl) (by kernel_rfl) (by kernel_rfl)) B (cD X G (x:="arcs_cross") (m:="archrow.arcs") (st:=cb) (t:=239) (c:=57) (f:=58) (ps:=["one","other"]) (by kernel_rfl) (by kernel_rfl) (by kernel_rfl) (by kernel_rfl) (gi λ_ _=>rfl))
  (cD X G (x:="share_a_point") (m:="archrow.arcs") (st:=bp) (t:=239) (c:=85) (f:=86) (ps:=["one","other"]) (by kernel_rfl) (by kernel_rfl) (by kernel_rfl) (by kernel_rfl) (gi λ_ _=>rfl))
  (cD X G (x:="fault_at") (m:="archrow.arcs") (st:=c6) (t:=239) (c:=78) (f:=79) (ps:=["row","ties","k"]) (by kernel_rfl) (by kernel_rfl) (by kernel_rfl) (by kernel_rfl) (Dr λ_ _ _=>rfl))
  (cD X G (x:="first_fault") (m:="archrow.arcs") (st:=bS) (t:=239) (c:=71) (f:=72) (ps:=["row","ties"]) (by kernel_rfl) (by kernel_rfl) (by kernel_rfl) (by kernel_rfl) (gi λ_ _=>rfl))
  (cD X G (x:="is_set") (m:="archrow.arcs") (st:=eX) (t:=239) (c:=64) (f:=65) (ps:=["row","ties"]) (by kernel_rfl) (by kernel_rfl) (by kernel_rfl) (by kernel_rfl) (gi λ_ _=>rfl))
  (cD X G (x:="check_set") (m:="archrow.arcs") (st:=cH) (t:=239) (c:=92) (f:=93) (ps:=["row","ties"]) (by kernel_rfl) (by kernel_rfl) (by kernel_rfl) (by kernel_rfl) (gi λ_ _=>rfl))
  (cD X G (x:="brackets") (m:="archrow.texts") (st:=c7) (t:=297) (c:=97) (f:=98) (ps:=["many","ties"]) (by kernel_rfl) (by kernel_rfl) (by kernel_rfl) (by kernel_rfl) (gi λ_ _=>rfl))
  (cD X G (x:="shape_of") (m:="archrow.shapes") (st:=c4) (t:=305) (c:=104) (f:=105) (ps:=["row","ties"]) (by kernel_rfl) (by kernel_rfl) (by kernel_rfl) (by kernel_rfl) (gi λ_ _=>rfl))
  (cD X G (x:="_law_pot") (m:="law_archrow_k40_shapes_of_sets") (st:=cU) (t:=315) (c:=111) (f:=112) (ps:=["cell"]) (by kernel_rfl) (by kernel_rfl) (by kernel_rfl) (by kernel_rfl) (u7 λ_=>rfl))
  (cD X G (x:="_law_take") (m:="law_archrow_k40_shapes_of_sets") (st:=cv) (t:=315) (c:=118) (f:=119) (ps:=["pot","many"]) (by kernel_rfl) (by kernel_rfl) (by kernel_rfl) (by kernel_rfl) (gi λ_ _=>rfl))
  (cD X G (x:="_law_planted") (m:="law_archrow_k40_shapes_of_sets") (st:=bR) (t:=315) (c:=125) (f:=126) (ps:=["pot","many"]) (by kernel_rfl) (by kernel_rfl) (by kernel_rfl) (by kernel_rfl) (gi λ_ _=>rfl))
  (cD X G (x:="_law_row") (m:="law_archrow_k40_shapes_of_sets") (st:=dQ) (t:=315) (c:=132) (f:=133) (ps:=["pot"]) (by kernel_rfl) (by kernel_rfl) (by kernel_rfl) (by kernel_rfl) (u7 λ_=>rfl))
  (cD X G (x:="_law_copied") (m:="law_archrow_k40_shapes_of_sets") (st:=b_) (t:=315) (c:=139) (f:=140) (ps:=["row"]) (by kernel_rfl) (by kernel_rfl) (by kernel_rfl) (by kernel_rfl) (u7 λ_=>rfl))
  (cD X G (x:="_law_meet") (m:="law_archrow_k40_shapes_of_sets") (st:=c5) (t:=315) (c:=146) (f:=147) (ps:=["one","other"]) (by kernel_rfl) (by kernel_rfl) (by kernel_rfl) (by kernel_rfl) (gi λ_ _=>rfl))
  (cD X G (x:="_law_set") (m:="law_archrow_k40_shapes_of_sets") (st:=dN) (t:=315) (c:=151) (f:=152) (ps:=["pot","row"]) (by kernel_rfl) (by kernel_rfl) (by kernel_rfl) (by kernel_rfl) (gi λ_ _=>rfl))⟩
end gF
abbrev PySem.W.Fast.tw4888660441842479651:PySem.Program:=PySem.Challenge.pw_archrow_k40_shapes_of_sets
theorem PySem.W.Fast.te4888660441842479651:PySem.Challenge.pw_archrow_k40_shapes_of_sets=PySem.W.Fast.tw4888660441842479651:=rfl
open PySem PySem.W PyProof.Rows
set_option maxRecDepth 100000 in
set_option maxHeartbeats 0 in
theorem PySem.Challenge.cw_archrow_k40_shapes_of_sets_holds : PySem.Challenge.rw_archrow_k40_shapes_of_sets.Holds := by
 w_on;o_law
 refine holds_open (q:=gF.view) (loose:=[]) (Xt:=λs=>xlAt gF.view [] s&&recOk (RowW.records PySem.Challenge.rw_archrow_k40_shapes_of_sets.row.toRowW) s) (XP:=XL gF.view []) (Yf:=gF.HK.obs) (Ya:=gF.HK.val) (YP:=λw h=>(gF.KK w.params).In h) (N:=2422) gF.left gF.HK.of gF.HK.keeps (λs e=>xl_of s (Bool.and_eq_true_iff.mp e).1) XL.keeps (by rfl) (by rfl) (by rfl) (λs e=>recFacts_of (Bool.and_eq_true_iff.mp e).2) (by rfl) (by first|assumption|decide +kernel) (by decide +kernel) ⟨rfl,rfl,rfl,rfl,rfl,by decide +kernel⟩ ?hw ?hc
 (case hw=>w_witness2)
 case hc =>
  exact L2.t_ (l:=PySem.Challenge.rw_archrow_k40_shapes_of_sets) (K:=gF.KK) (n:=63) (k:=8) (x:="script") (CX:=λ_=>L2.ck) (sp:=λw=>gF.qN (gF.KK w.params)) rfl (by decide) rfl ⟨rfl,by decide,by decide⟩ (λw h Y=>Y) gF.all_mk (λ_ _ a ns hl _ hS=>⟨a,ns,rfl,hS,hl,λ_=>rfl⟩) λ_ _ _ _ _ z=>z
#print axioms PySem.Challenge.cw_archrow_k40_shapes_of_sets_holds
