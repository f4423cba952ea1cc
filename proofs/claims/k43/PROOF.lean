import PyProof.Rows.All
import Wide.All
import OpenK.AllK
import Wide.FinOn
import Lean
import PySem.Challenge.RW_archrow_k43_no_sets_and_no_shapes
set_option Elab.async false
set_option linter.all false
set_option maxRecDepth 100000
open Option renaming some->M,none->ξ
open Bool renaming true->G,false->η
open PySem renaming Addr->μ,model->δ
open PySem.W renaming Frag->Ψ,mg_none_of->ε
open PySem.Value renaming ref->Ω
open PySem.F renaming plain_min_loop->ς
theorem ω {c:Prop}{h:Decidable c}(w:c){α:Sort _}{t e:α}:(if c then t else e)=t:=if_pos w
theorem Δ {c:Prop}{h:Decidable c}(w:¬c){α:Sort _}{t e:α}:(if c then t else e)=e:=if_neg w
theorem Ξ [h:Decidable p](w:p):decide p=Bool.true:=decide_eq_true w
theorem Φ [h:Decidable p](w:¬p):decide p=Bool.false:=decide_eq_false w
open PySem.W renaming kia_one->υ,kia_tup->Α,keepIn->Β,kitOne->Ε,kitAny->Ζ,fnOf->Η
open PySem.F renaming plainAttrs_list->Ι
theorem Μ {a b:Sort _}{x y:a}(f:a->b)(h:x=y):f x=f y:=congrArg f h
def Κ {b:Sort _}(x:a)(y:¬a):b:=absurd x y
local macro_rules
 |`(command|def $i:declId $s:optDeclSig $v:declValSimple)=>`(command|noncomputable def $i $s $v:declValSimple)
 |`(command|abbrev $i:declId $s:optDeclSig $v:declValSimple)=>`(command|noncomputable abbrev $i $s $v:declValSimple)
 |`(command|def $i:declId $s:optDeclSig $v:declValEqns)=>`(command|noncomputable def $i $s $v:declValEqns)
 |`(command|abbrev $i:declId $s:optDeclSig $v:declValEqns)=>`(command|noncomputable abbrev $i $s $v:declValEqns)
local macro_rules
 |`({$x:term})=>`(⟨$x⟩)
 |`({$x:term,$y:term,*})=>`(⟨$x,$y,*⟩)
theorem tv:True:=.intro
set_option maxHeartbeats 4000000
set_option compiler.extract_closed false
open PySem renaming wpAny_bind->aal,Value->aam,Shared->aao,wpAny_pure->aap,Program->aas,starEach->aaz,sizeLine->aaC,wpAny->aaD,World->aaG,FuncData->aa6,sizeLine_eq->aa7,Around->abf,wpAny_holding->abl,bootBuiltins->abt,foldedSetIterable->abu,compareOp->abv,wpAny_callSpecial?_slot->abD,wpAny_call_entry->abF,backTo->abN,wpAny_newObj_type->abS,wpAny_seqItems->abT,wpAny_field->abU,wpAny_truthy_bool->ab4,wpAny_setField_rec->ab9,wpAny_Call_Name_kw->ab_,sysModules->aca,Builtin->acf,IsPair->ack,wpAny_attempt->acn,attributeBase->aco,mainGlobals->acq,wpAny_setState_of->acs,pyNext->acv,codeAny_builtin->acw,codeAny_mono->acy,binaryOp->acz,swapsWith->acD,Scope->acF,wpAny_rule->acK,wpAny_mono->acL,assignEach->acM,Comprehension->acN,Keyword->acO,NameKind->acQ,wpAny_typeNameOfWhole_keyiter->acT,sliceBounds->acU,wpAny_updateSeq->acY,wpAny_passesOwn->acZ,plainId_quiet->ac3,behindInMarks->ac4,wpAny_letGo->ac_,keywordEach->ada,codeAny->adg,DictEntry->adi,wpAny_typeNameOf_keyiter->adm,wpAny_standAt->adn,wpAny_execs_nil->ads,cLine->adx,intItems->adE,builtinLookup_eq_fast->adM,wpAny_isInstance->adO,slicePicked->adR,wpAny_loadPart'->adW,CmpOp->ad2,cellsFrom->ad7,wpAny_call->ad8,backToKw->ad9,wpAny_pyIter_list->ael,wpAny_pyIter_enum->aem,wpAny_of_eq->aen,wpAny_dictEntries->aeo,standAt->aep,wpAny_comprehension_free->aeu,PyData->aew,wpAny_forIn_list->aeC,wpAny_askSetting->aeD,checkBuiltinCall->aeE,Model->aeG,IsZip->aeL
open List renaming length_map->aan,mem_cons->aat,getElem?_eq_getElem->aav,length_append->aax,getElem?_eq_some_iff->aay,range->aaA,getElem?_map->aaB,mem_singleton->aaE,size_toArray->aaH,mem_cons_of_mem->aaL,mem_cons_self->aaO,not_mem_nil->aaQ,replicate->aaR,length_cons->aaS,mem_append->aaT,nodup_cons->aaX,mem_of_getElem?->aaY,mem_range->aa2,length_take->aa4,length_range->aa5,map_cons->aa8,mem_append_right->aa_,map_append->abb,length_singleton->abd,mem_map->abe,nodup_nil->abg,drop_eq_getElem_cons->abh,getElem?_append_right->abi,filterMap_cons->abj,nodup_append->abm,getElem?_eq_none->abq,lookup_cons->abw,append_assoc->abx,getElem?_append_left->abE,map_map->abH,map_congr_left->abK,length_drop->abM,take_of_length_le->abP,append_nil->abR,mem_append_left->abW,foldl_cons->abZ,length_reverse->ab2,mem_filter->ab8,getElem_mem->acd,filter_eq_nil_iff->acg,replicate_succ->aci,getElem?_range->acj,take_append_drop->acm,pairwise_map->acu,getD_eq_getElem?_getD->acA,filter_append->acB,length_filter_le->acC,range_succ->acE,take_add_one->acI,filter_cons->acR,all_eq_true->acS,drop_of_length_le->acV,forIn_cons->ac0,dropLast_concat_getLast->ac1,flatten_cons->ac6,ext_getElem?->ac7,mem_of_mem_drop->ade,getElem?_take_of_lt->adp,of_mem_zip->adu,pairwise_cons->adv,mem_filterMap->adw,getElem?_cons_succ->adA,set_eq_take_append_cons_drop->adD,getElem?_set->adH,getElem?_toArray->adN,getElem?_of_mem->adU,length_nil->adZ,filter_eq_self->ad1,zip_cons_cons->aea,forIn_nil->aeb,findSome?_eq_none_iff->aec,pairwise_iff_getElem->aeg,extract_eq_take_drop->aeh,reverse_cons->aer,map_take->aex,map_drop->aey,take_length->aeH,mem_reverse->aeI,length_eq_zero_iff->aeJ,any_eq_true->aeK
open Nat renaming le_refl->aaq,zero_le->aaJ,ne_of_lt->aaN,lt_of_lt_of_le->aaV,le_trans->aa3,lt_or_ge->abG,lt_irrefl->ab7,ne_of_gt->acp,lt_succ_of_lt->acH,pow_le_pow_right->adb,le_add_right->adh,min_le_left->adt,le_succ->adz,sub_self->adF,le_of_eq->adG,mod_lt->adQ,zero_add->ad3,lt_succ_self->aeF
open PySem.Heap renaming get?_push_of_some->aar,lt_size->aaw,get?_push_size->aaU,get?_update_other->ab0,get?_update_self->ab5,SameBut->ach,FlyingW->adI,size_push->aed
open Array renaming length_toList->aau,getElem?_toList->aaP,getD_eq_getD_getElem?->aaW,getElem?_eq_none->ab1,toList_append->ab3,toList_push->ac8,perm_iff_toList_perm->adf,forIn_toList->aef,size_setIfInBounds->aeB
open PyProof.Rows renaming Keyed->aaF,wpS_bind->aaI,wpS_pure->aaM,pendingOf->aa0,SortSt->aa9,arrOf->abk,callWith_type1->abB,wpS_forRange->abJ,setArr->ab6,wpS_mono->acx,seqObj->acP,IntsAre->acW,wpS_modify->ac9,SortKind->ado,slot_tuple_getitem->adL,setPending->adP,failedOf->adS,envOfC->adX,wpS_get->aek,AllBare->aet
open Option renaming map_eq_some_iff->aaK,bind_eq_some_iff->aba,map_some->adY
open Option.some renaming inj->aaZ,injEq->aeq
open Bool renaming and_eq_true->aa1,false_eq_true->abQ,false_ne_true->acb,and_eq_true_iff->ace,eq_false_iff->acJ,eq_iff_iff->ac2,or_eq_true->ad0
open PySem.NameKind renaming free->abc,cell->abC
open Ne renaming symm->abn
open PySem.PassesOwn renaming never->abo
open PySem.Builtin.SmallTypes renaming ownedTupleIsFree->abp,nextOf->abz
open PySem.SeqAt renaming canLay_of_shaped->abr
open Int renaming toNat_natCast->aby,eq_ofNat_of_zero_le->adB
open Decidable renaming by_contra->abA
open PySem.PyData renaming eqv->abI,canLay0->abV,depthAll->abY,depth->acG,canLayAll0->ac5,eqvAll->aev
open PySem.Obj renaming mapSeq->abL
open PySem.Str renaming ofString->abO
open False renaming elim->abX
open PySem.Around renaming under_plainId->acr
open PySem.Calls renaming spliced_cons->acX,callWith_builtin->adJ,evalArgs_plain->adV,Constant_str->aee,call_function_entry->aei,spliced_nil->aes
open Classical renaming byContradiction->adj
open PySem.Builtin.Slice renaming slicePlaces->adk,sliceAdjust->aej
open PySem.Heap.SameBut renaming update->adl
open PySem.Builtin.Tuple renaming tupleExact->adq
open PySem.W renaming boot_heap->ady
open PySem.Builtin.Range renaming rangeSize->adC
open PySem.Builtin.Str renaming subAt->adK,strSliceIndices->ad4
open PySem.Txt renaming replace->adT
open PySem.Builtin.List renaming listLengthHint->ad5,listExtendWith->ad6,listTooLong->aeA
open PySem.Value renaming type->ad_
open PySem.Code renaming compLoop->aez
open PySem.Data renaming cell->aeM
local macro_rules
 |`(.a)=>`(by lia)
 |`(.b)=>`(by decide)
 |`(.c)=>`(by simp)
 |`(.d)=>`(by kernel_rfl)
 |`(.e)=>return Lean.mkIdent `s.heap.objs.size
 |`(.f)=>return Lean.mkIdent `X.env
 |`(.g)=>`(by decide +kernel)
 |`(.h)=>`(by omega)
 |`(.i)=>`(by rfl)
local macro_rules
 |`(tactic|let {$[$x:ident],*}:=$t)=>`(tactic|obtain ⟨$[$x:ident],*⟩:=$t)
set_option hygiene false in
local macro_rules
 |`(.aa)=>`(δ X.prog X.w)
 |`(.ab)=>`(δ prog w)
 |`(.ad)=>`(ae (i:=1))
 |`(.ae)=>`(List Int)
 |`(.af)=>`(ae (i:=0))
 |`(.ag)=>`(ae (i:=2))
 |`(.ah)=>`(ts.map kD)
 |`(.ai)=>`(x==("__debug__" : Str))
 |`(.aj)=>`(ae (i:=3))
 |`(.ak)=>`(C.u λc=>c=a)
 |`(.al)=>`(k==abc&&env.scope.kind==.function&&env.kindOf n==M .cell)
 |`(.am)=>`(aQ X scope N' cl c s H ex)
 |`(.an)=>`(.ListComp elt [{tg,du,ifs,0}] scope pos)
 |`(.ao)=>`(aP (ih:=0) bu.mono GT (Y.mono .b) dT.m dT.F.kp dT.b (aa ai af))
 |`(.ap)=>`(aQ X scope N' cl C s H ex)
 |`(.ar)=>`((∀c o,c∉[z,TO,i1,i2]->s.heap.get? c=M o->h'.get? c=M o))
 |`(.as)=>`((abN cp (aaz [e] .f)).all (λx=>!x.1)&&(ad9 cp (ada [] .f)).all (λx=>x.1.isSome)&&decide ([e].length+([]:List acO).length+(if ([]:List acO).isEmpty then 0 else 1)<30))
 |`(.au)=>`(nomatch z)
 |`(.av)=>`(.Slice ξ ξ (M (.UnaryOp .USub (.Constant (.int 1) j p3) p4)) p2)
 |`(.aw)=>`(((aa0 st).setIfInBounds i (sa,na+nb,pw)).eraseIdxIfInBounds (i+1))
 |`(.ax)=>`(Array aaF)
 |`(.ay)=>`(.Name x px)
 |`(.az)=>`(if ([]:List acO).isEmpty then 0 else 1)
 |`(.aA)=>`(λ_ _ _ _ _ _=>(bL (n:=2) rfl (aD (aq (i:=0) (by decide:(["a","b"]:List Str).Nodup)) (aD (aq (i:=1) (by decide:(["a","b"]:List Str).Nodup)) bt))))
 |`(.aB)=>`(Option Nat)
 |`(.aC)=>`((∀d k β,R d k β->R' d k β))
 |`(.aD)=>`(λc hc=>L c (by rw[eA];simp[hc]))
 |`(.aE)=>`((η,eval e .f))
 |`(.aF)=>`(λ_=>{_,rfl,tv,_,rfl,tv,em.imp (λg=>{(n:Int),ps.map tI,ts,rfl,.a,Y,g,λ_=>bd rfl g}) λg=>{(n:Int),ps.map tI,ts,rfl,.a,O,g,rfl,g}})
 |`(.aG)=>`(ay.refl _)
 |`(.aH)=>`(kH prog w k)
variable {P prog:aas}{w:aaG}{h h' base:Heap}{a e b tg elt du:Expr}{χ:List (μ×Obj)}{s:aao}{pos p2 apos cpos pp px pos' cp:Pos}{E:aam->aao->Prop}{c:aaF->aaF->Bool}{es ifs:List Expr}{fd:aa6}{ps N':List Str}{K:Ψ}{mg:Str->Option aam}{scope:acF}{lk:List .aB}{A:abf}{κ:ado}{p pi:Bool}{q a₀:Array aaF}{i j ep:Nat}{W:μ->Prop}{T:List Nat}{cA:μ}
noncomputable section
namespace L2
open PySem PySem.Spec PyProof.Rows
def n9 (s:Stmt):Arguments:=match s with
 |.FunctionDef _ a _ _ _ _ _ _ _ _=>a
 |_=>{posonlyargs:=[],args:=[],vararg:=ξ,kwonlyargs:=[],kw_defaults:=[],kwarg:=ξ,defaults:=[]}
def dI (s:Stmt):List Stmt:=match s with
 |.FunctionDef _ _ b _ _ _ _ _ _ _=>b
 |_=>[]
def ak (s:Stmt):acF:=match s with
 |.FunctionDef _ _ _ _ _ _ sc _ _ _=>sc
 |_=>{kind:=.function,names:=[],isGenerator:=η,isCoroutine:=η}
end L2
namespace L2.Hd
open PySem PySem.W PySem.Spec PyProof.Rows
def kn (tb:String->Option acf)(p:aas)(w:aaG)(n₀:Nat)(ann:Option aam):Nat->SharedT->Thread->Option SharedT
 |0,_,_=>ξ
 |n+1,s,t=>match through t with
  |true=>M s
  |false=>match stepOk n₀ ann t with
   |false=>ξ
   |true=>match stepT (denote tb) p w s t with
    |some (s',t')=>kn tb p w n₀ ann n s' t'
    |none=>ξ
theorem oz {tb:String->Option acf}{p:aas}{w:aaG}{n₀:Nat}{ann:Option aam}:∀{n:Nat} {s s':SharedT} {t:Thread},kn tb p w n₀ ann n s t=M s'->topRun tb p w n₀ ann n s.abs t=M s'.abs
 |0,_,_,_,g=>by cases g
 |n+1,s,s',t,g=>by
  unfold kn at g;unfold topRun;cases O:through t with
  |true=>rw[O]at g;cases g;rfl
  |false =>
   rw[O]at g;cases hk:stepOk n₀ ann t with
   |false=>rw[hk]at g;cases g
   |true =>
    rw[hk]at g;cases L:stepT (denote tb) p w s t with
    |none=>rw[L]at g;cases g
    |some r=>let {s₂,t₂}:=r;rw[L]at g;dsimp only;rw[stepT_spec L];exact oz g
def Sl (P:Params):BT:=((ady P).objs.toList.foldl (λ(x:BT×Nat) o=>(x.1.ins x.2 o,x.2+1)) (.nil,0)).1
def GD (w:aaG)(os:OsState):SharedT:={Sl w.params,11,(ady w.params).life,Array.mk [],boot_drawn,boot_toks,os}
def boot_abs (w:aaG)(os:OsState):(GD w os).abs={ady w.params,Array.mk [],boot_drawn,boot_toks,os}:=by kernel_rfl
def Kj (P:Params):((ady P).isNs acq&&((Array.mk []:Array GenState).size==0))=G:=by kernel_rfl
def Cr (P:Params):(ady P).objs.size=11:=by kernel_rfl
def GC (P:Params):(ady P).nsMap acq "__annotations__" = M (.ref 6):=by kernel_rfl
def ends (p:aas)(L:Heap)(s₁:aao):Option aao:=match staticsOk (importedModules p.main.body) L s₁.heap&&namesBound p s₁.heap&&gensDone s₁&&laidKept L s₁.heap with
 |true=>M s₁
 |false=>ξ
def BL {p q:aas}{loose:List Str}{Xt:aao->Bool}{α:Type}{Yf:aao->α}{Ya:aaG->α}{N:Nat}{g0:Bool}
  (g1:opening p=plainProg p.main.scope.names) (g2:Nat.ble 600 N=G) (g3:∀s,fenceModules? p s=M s)
  (g4:∀(w:aaG) (os:OsState),((kn treeTable p w 11 (M (.ref 6)) N (GD w os) (topStub p)).bind λs₁=>ends p (ady w.params) s₁.abs).map (λs=>(openSeen q loose (importedModules p.main.body) Xt g0 s,Yf s))=M (openGood q loose,Ya w)) :
  LeftO p q loose Xt Yf Ya N g0:=λw=>by
 obtain⟨⟨hp,gs,dr,tk,os⟩,e,v⟩:=aaK.mp (boot_open (N:=N) g1 g2 g3 w);let {v1,v}:=Prod.mk.inj v;let {v2,v}:=Prod.mk.inj v;let {Y,O}:=Prod.mk.inj v;dsimp only at v1 v2 Y O;subst v1 v2 Y O;have g:=g4 w os;unfold openEnds;rw[e];show (topFrom treeTable p w N _).map _=_;have t:topFrom treeTable p w N {ady w.params,Array.mk [],boot_drawn,boot_toks,os}=(topRun treeTable p w 11 (M (.ref 6)) N {ady w.params,Array.mk [],boot_drawn,boot_toks,os} (topStub p)).bind (ends p (ady w.params)):=by
  unfold topFrom;rw[Kj];dsimp only;rw[Cr,GC];rfl
 rw[t];cases L:kn treeTable p w 11 (M (.ref 6)) N (GD w os) (topStub p)with
 |none=>rw[L]at g;cases g
 |some s₁ =>
  have r:=oz L;rw[boot_abs]at r;rw[L]at g;rw[r];exact g
end L2.Hd
namespace gK
open PySem L2
def top (i:Nat):Stmt:=PySem.Challenge.pw_archrow_k43_no_sets_and_no_shapes.main.body.getD i (.Pass {0,0,0,0})
abbrev e9:Stmt:=top 15
abbrev kJ:Stmt:=top 16
abbrev d9:Stmt:=top 17
abbrev gU:Stmt:=top 18
abbrev de:Stmt:=top 19
abbrev eF:Stmt:=top 20
abbrev b5:Stmt:=top 22
abbrev d7:Stmt:=top 23
abbrev gV:Stmt:=top 25
abbrev jg:Stmt:=top 26
abbrev gm:Stmt:=top 28
abbrev eE:Stmt:=top 29
abbrev fw:Stmt:=top 30
abbrev fu:Stmt:=top 31
abbrev cY:Stmt:=top 32
abbrev bR:Stmt:=top 33
abbrev cD:Stmt:=top 34
abbrev gn:Stmt:=top 36
abbrev fv:Stmt:=top 37
abbrev d8:Stmt:=top 38
abbrev jf:Stmt:=top 39
abbrev eZ:Stmt:=top 40
abbrev gQ:Stmt:=top 41
abbrev je:Stmt:=top 42
abbrev fR:Stmt:=top 43
abbrev fS:Stmt:=top 44
abbrev df:Stmt:=top 45
abbrev eY:Stmt:=top 46
abbrev gS:Stmt:=top 47
abbrev gR:Stmt:=top 48
abbrev gP:Stmt:=top 49
abbrev cK:Stmt:=top 50
abbrev oQ:Stmt:=top 51
abbrev vS (x:Str)(t:Nat):aam:=.str x t
abbrev kE (P:Params)(x:Str)(t:Nat)(v:aam):adi:={PyData.keyHash P x,.str x t,v}
abbrev kC (n:Str)(t l p r8 k10 Y:Nat)(Z8 Z7 Z6:aam)(O k16 L:Nat):Obj:={cls:=.type "code",data:=.fields #[vS n t,vS n (t+1),vS "/claim/cut.py" (t+2),.int l 0,.int p 0,.int 0 0,.int 0 0,.int 3 0,.ref r8,.bool G,.int k10 0,.ref Y,Z8,Z7,Z6,.ref O,.int k16 0,.int l 0,vS "/claim/cut.py" L]}
abbrev Tb (st:Stmt)(x m:Str)(t c:Nat):aa6:=Η x x (n9 st) (dI st) (ak st) .none .none .none (vS m t) ξ (.ref c) .none
abbrev Ν:Str:="law_archrow_k43_no_sets_and_no_shapes"
abbrev kF (st:Stmt)(x m:Str)(t c:Nat):Obj:={cls:=.type "function",data:=.func (Tb st x m t c)}
abbrev kX (x:Str)(a A t:Nat):Obj:={cls:=.type "type",data:=.cls {name:=x,bases:=[.ref A],mro:=[.ref a,.ref A,.type "ValueError",.type "Exception",.type "BaseException",.type "object"],ns:=a-1,qualname:=x},slots:=#[M (.ref (a-9)),ξ,M (vS x t),M (vS x (t+8)),M (.builtin "ValueError.__new__"),M (.bool G)]}
abbrev kN (P:Params)(a t m l:Nat):Obj:={cls:=.type "dict",data:=.dict #[kE P "__module__" (t+7) (vS "archrow.errors" m),kE P "__firstlineno__" (t+11) (.int l (t+10)),kE P "__static_attributes__" (t+12) (.ref (a-2)),kE P "__doc__" (t+13) .none] 2}
def KK:Params->Ψ:=λP=>[(3,{cls:=.type "dict",data:=.dict #[kE P "__name__" 165 (vS Ν 548),kE P "__doc__" 166 .none,kE P "__package__" 167 .none,kE P "__loader__" 168 (.builtin "__main__.__loader__#opaque"),kE P "__spec__" 169 .none,kE P "__annotations__" 170 (.ref 6),kE P "__builtins__" 171 (.ref 4),kE P "__file__" 173 (vS "/claim/cut.py" 172),kE P "__cached__" 174 .none,kE P "ArchError" 206 (.ref 24),kE P "NoRow" 222 (.ref 37),kE P "NoTie" 238 (.ref 49),kE P "NoStretch" 254 (.ref 61),kE P "NoWeights" 270 (.ref 73),kE P "NoNumber" 286 (.ref 85),kE P "NoSet" 302 (.ref 97),kE P "NoGap" 318 (.ref 109),kE P "NoPlace" 334 (.ref 121),kE P "NoShape" 350 (.ref 133),kE P "NoText" 366 (.ref 145),kE P "NoForm" 382 (.ref 157),kE P "NoneYet" 398 (.ref 169),kE P "arcs_cross" 412 (.ref 178),kE P "is_set" 420 (.ref 185),kE P "first_fault" 430 (.ref 192),kE P "fault_at" 440 (.ref 199),kE P "share_a_point" 448 (.ref 206),kE P "check_set" 456 (.ref 213),kE P "stretches_rising" 464 (.ref 218),kE P "partners_of" 470 (.ref 223),kE P "brackets" 478 (.ref 228),kE P "arcs_in" 489 (.ref 235),kE P "nest_of" 503 (.ref 242),kE P "depths_of" 513 (.ref 249),kE P "depth_of" 521 (.ref 256),kE P "shape_of" 529 (.ref 263),kE P "count_shape" 535 (.ref 268),kE P "counts_with_first" 541 (.ref 273),kE P "stretches_of" 547 (.ref 278),kE P "_law_pot" 556 (.ref 285),kE P "_law_take" 566 (.ref 292),kE P "_law_planted" 579 (.ref 299),kE P "_law_row" 593 (.ref 306),kE P "_law_copied" 600 (.ref 313),kE P "_law_meet" 612 (.ref 320),kE P "_law_set" 618 (.ref 325),kE P "_law_shape" 631 (.ref 332),kE P "_law_flags" 639 (.ref 339),kE P "_law_due_flags" 645 (.ref 344),kE P "_law_is_set" 651 (.ref 349),kE P "_law_bent" 667 (.ref 356),kE P "_law_fits" 676 (.ref 363),kE P "_law_said" 687 (.ref 370),kE P "_law_shape_bent" 700 (.ref 377),kE P "law" 706 (.ref 382)] 55}),
 (177,kC "arcs_cross" 401 29 2 172 181 173 .none (.ref 174) (.ref 175) 176 410 411),
 (178,kF e9 "arcs_cross" "archrow.arcs" 399 177),
 (184,kC "is_set" 413 33 2 179 181 180 .none (.ref 181) (.ref 182) 183 418 419),
 (185,kF kJ "is_set" "archrow.arcs" 399 184),
 (191,kC "first_fault" 421 35 2 186 181 187 .none (.ref 188) (.ref 189) 190 428 429),
 (192,kF d9 "first_fault" "archrow.arcs" 399 191),
 (198,kC "fault_at" 431 41 3 193 181 194 .none (.ref 195) (.ref 196) 197 438 439),
 (199,kF gU "fault_at" "archrow.arcs" 399 198),
 (205,kC "share_a_point" 441 53 2 200 181 201 .none (.ref 202) (.ref 203) 204 446 447),
 (206,kF de "share_a_point" "archrow.arcs" 399 205),
 (212,kC "check_set" 449 55 2 207 181 208 .none (.ref 209) (.ref 210) 211 454 455),
 (213,kF eF "check_set" "archrow.arcs" 399 212),
 (217,kC "stretches_rising" 459 59 1 214 181 215 .none .none .none 216 462 463),
 (218,kF b5 "stretches_rising" "archrow.stretches" 457 217),
 (222,kC "partners_of" 465 61 1 219 181 220 .none .none .none 221 468 469),
 (223,kF d7 "partners_of" "archrow.stretches" 457 222),
 (227,kC "brackets" 473 68 2 224 181 225 .none .none .none 226 476 477),
 (228,kF gV "brackets" "archrow.texts" 471 227),
 (234,kC "arcs_in" 479 79 1 229 181 230 .none (.ref 231) (.ref 232) 233 487 488),
 (235,kF jg "arcs_in" "archrow.texts" 471 234),
 (241,kC "nest_of" 492 91 2 236 181 237 .none (.ref 238) (.ref 239) 240 501 502),
 (242,kF gm "nest_of" "archrow.shapes" 490 241),
 (248,kC "depths_of" 504 101 2 243 181 244 .none (.ref 245) (.ref 246) 247 511 512),
 (249,kF eE "depths_of" "archrow.shapes" 490 248),
 (255,kC "depth_of" 514 106 2 250 181 251 .none (.ref 252) (.ref 253) 254 519 520),
 (256,kF fw "depth_of" "archrow.shapes" 490 255),
 (262,kC "shape_of" 522 108 2 257 181 258 .none (.ref 259) (.ref 260) 261 527 528),
 (263,kF fu "shape_of" "archrow.shapes" 490 262),
 (267,kC "count_shape" 530 111 2 264 181 265 .none .none .none 266 533 534),
 (268,kF cY "count_shape" "archrow.shapes" 490 267),
 (272,kC "counts_with_first" 536 124 3 269 181 270 .none .none .none 271 539 540),
 (273,kF bR "counts_with_first" "archrow.shapes" 490 272),
 (277,kC "stretches_of" 542 131 2 274 181 275 .none .none .none 276 545 546),
 (278,kF cD "stretches_of" "archrow.shapes" 490 277),
 (284,kC "_law_pot" 550 137 1 279 181 280 .none (.ref 281) (.ref 282) 283 554 555),
 (285,kF gn "_law_pot" Ν 548 284),
 (291,kC "_law_take" 557 139 2 286 181 287 .none (.ref 288) (.ref 289) 290 564 565),
 (292,kF fv "_law_take" Ν 548 291),
 (298,kC "_law_planted" 567 149 2 293 181 294 .none (.ref 295) (.ref 296) 297 577 578),
 (299,kF d8 "_law_planted" Ν 548 298),
 (305,kC "_law_row" 580 160 1 300 181 301 .none (.ref 302) (.ref 303) 304 591 592),
 (306,kF jf "_law_row" Ν 548 305),
 (312,kC "_law_copied" 594 173 1 307 181 308 .none (.ref 309) (.ref 310) 311 598 599),
 (313,kF eZ "_law_copied" Ν 548 312),
 (319,kC "_law_meet" 601 175 2 314 181 315 .none (.ref 316) (.ref 317) 318 610 611),
 (320,kF gQ "_law_meet" Ν 548 319),
 (324,kC "_law_set" 613 179 2 321 181 322 .none .none .none 323 616 617),
 (325,kF je "_law_set" Ν 548 324),
 (331,kC "_law_shape" 619 187 2 326 181 327 .none (.ref 328) (.ref 329) 330 629 630),
 (332,kF fR "_law_shape" Ν 548 331),
 (338,kC "_law_flags" 632 201 1 333 181 334 .none (.ref 335) (.ref 336) 337 637 638),
 (339,kF fS "_law_flags" Ν 548 338),
 (343,kC "_law_due_flags" 640 206 1 340 181 341 .none .none .none 342 643 644),
 (344,kF df "_law_due_flags" Ν 548 343),
 (348,kC "_law_is_set" 646 208 2 345 181 346 .none .none .none 347 649 650),
 (349,kF eY "_law_is_set" Ν 548 348),
 (355,kC "_law_bent" 652 212 3 350 181 351 .none (.ref 352) (.ref 353) 354 665 666),
 (356,kF gS "_law_bent" Ν 548 355),
 (362,kC "_law_fits" 668 223 1 357 181 358 .none (.ref 359) (.ref 360) 361 674 675),
 (363,kF gR "_law_fits" Ν 548 362),
 (369,kC "_law_said" 677 230 3 364 181 365 .none (.ref 366) (.ref 367) 368 685 686),
 (370,kF gP "_law_said" Ν 548 369),
 (376,kC "_law_shape_bent" 688 248 2 371 181 372 .none (.ref 373) (.ref 374) 375 698 699),
 (377,kF cK "_law_shape_bent" Ν 548 376),
 (381,kC "law" 701 255 1 378 181 379 .none .none .none 380 704 705),
 (382,kF oQ "law" Ν 548 381),
 (24,{cls:=.type "type",data:=.cls {name:="ArchError",bases:=[(.type "ValueError")],mro:=[(.ref 24),(.type "ValueError"),(.type "Exception"),(.type "BaseException"),(.type "object")],ns:=23,qualname:="ArchError",subclasses:=[(.ref 37),(.ref 49),(.ref 61),(.ref 73),(.ref 85),(.ref 97),(.ref 109),(.ref 121),(.ref 133),(.ref 145),(.ref 157),(.ref 169)]},slots:=#[M ((.ref 15)),ξ,M ((vS "ArchError" 189)),M ((vS "ArchError" 197)),M ((.builtin "ValueError.__new__")),M (.bool G)]}),
 (23,{cls:=.type "dict",data:=.dict #[kE P "__module__" 196 (vS "archrow.errors" 187),kE P "__firstlineno__" 200 (.int 2 199),kE P "__static_attributes__" 201 (.ref 22),kE P "__weakref__" 203 (.ref 25),kE P "__doc__" 204 .none] 3}),
 (37,kX "NoRow" 37 24 207),
 (36,kN P 37 207 187 4),
 (49,kX "NoTie" 49 24 223),
 (48,kN P 49 223 187 6),
 (61,kX "NoStretch" 61 24 239),
 (60,kN P 61 239 187 8),
 (73,kX "NoWeights" 73 24 255),
 (72,kN P 73 255 187 10),
 (85,kX "NoNumber" 85 24 271),
 (84,kN P 85 271 187 12),
 (97,kX "NoSet" 97 24 287),
 (96,kN P 97 287 187 14),
 (109,kX "NoGap" 109 24 303),
 (108,kN P 109 303 187 16),
 (121,kX "NoPlace" 121 24 319),
 (120,kN P 121 319 187 18),
 (133,kX "NoShape" 133 24 335),
 (132,kN P 133 335 187 20),
 (145,kX "NoText" 145 24 351),
 (144,kN P 145 351 187 22),
 (157,kX "NoForm" 157 24 367),
 (156,kN P 157 367 187 24),
 (169,kX "NoneYet" 169 24 383),
 (168,kN P 169 383 187 26)]
abbrev HK:PySem.W.Hook:=PySem.W.kHook KK [3,177,178,184,185,191,192,198,199,205,206,212,213,217,218,222,223,227,228,234,235,241,242,248,249,255,256,262,263,267,268,272,273,277,278,284,285,291,292,298,299,305,306,312,313,319,320,324,325,331,332,338,339,343,344,348,349,355,356,362,363,369,370,376,377,381,382,24,23,37,36,49,48,61,60,73,72,85,84,97,96,109,108,121,120,133,132,145,144,157,156,169,168] (λ_=>by kernel_rfl)
def view:aas:={PySem.Challenge.pw_archrow_k43_no_sets_and_no_shapes with main:={PySem.Challenge.pw_archrow_k43_no_sets_and_no_shapes.main with body:=[top 1,top 2,top 3,top 4,top 5,top 6,top 7,top 8,top 9,top 10,top 11,top 12,top 13,top 15,top 16,top 17,top 18,top 19,top 20,top 22,top 23,top 25,top 26,top 28,top 29,top 30,top 31,top 32,top 33,top 34,top 36,top 37,top 38,top 39,top 40,top 41,top 42,top 43,top 44,top 45,top 46,top 47,top 48,top 49,top 50,top 51]}}
def left:PySem.W.LeftO PySem.Challenge.pw_archrow_k43_no_sets_and_no_shapes view [] (λs=>PySem.W.xlAt view [] s&&PySem.W.recOk (PySem.W.RowW.records PySem.Challenge.rw_archrow_k43_no_sets_and_no_shapes.row.toRowW) s) HK.obs HK.val 7726:=L2.Hd.BL .d .d (λ_=>rfl) (λw os=>by kernel_rfl)
end gK
namespace L2
open PySem PySem.Spec PyProof.Rows
abbrev Key:=Sum Int Str
def rR:Key->aam->Bool
 |.inl k,v=>Value.isInt k v
 |.inr x,v=>Value.isStrOf x v
def Ve (w:aaG):Key->Int
 |.inl k=>hashInt k
 |.inr x=>hashStr w x
theorem bN:∀{k:Key} {v:aam},rR k v=G->(∃i t,k=Sum.inl i/\v=Value.int i t)\/(∃x t,k=Sum.inr x/\v=Value.str x t)
 |.inl i,v,h=>by
  let {t,e}:=Value.isInt_shape (k:=i) (v:=v) h;exact .inl {(i),t,rfl,e}
 |.inr x,v,h=>by
  let {t,e}:=Value.isStrOf_shape (x:=x) (v:=v) h;exact .inr {(x),t,rfl,e}
def BO (i:Int)(t:Tok):rR (.inl i) (.int i t)=G:=by simp[rR,Value.isInt]
def BN (x:Str)(t:Tok):rR (.inr x) (.str x t)=G:=by simp[rR,Value.isStrOf]
def M9 (a b:Int):decide ((Sum.inl a:Key)=Sum.inl b)=(a==b):=by
 by_cases e:a=b
 ·subst e;simp
 ·have h:¬ (Sum.inl a:Key)=Sum.inl b:=λq=>e (Sum.inl.inj q);rw[Φ h];exact(beq_eq_false_iff_ne.mpr e).symm
def M6 (a b:Str):decide ((Sum.inr a:Key)=Sum.inr b)=decide (a=b):=by
 by_cases e:a=b
 ·subst e;simp
 ·have h:¬ (Sum.inr a:Key)=Sum.inr b:=λq=>e (Sum.inr.inj q);rw[Φ h,Φ e]
def M8 (a:Int)(b:Str):decide ((Sum.inl a:Key)=Sum.inr b)=η:=Φ (λq=>nomatch q)
def M7 (a:Str)(b:Int):decide ((Sum.inr a:Key)=Sum.inl b)=η:=Φ (λq=>nomatch q)
def cq (prog:aas)(w:aaG):PySem.KeyKind prog w Key where
 is:=rR
 hash:=Ve w
 inj:=λv a b ha Y=>by
  rcases bN ha with⟨i,t,rfl,rfl⟩|⟨x,t,rfl,rfl⟩
  ·rcases bN Y with⟨j,u,rfl,e⟩|⟨y,u,rfl,e⟩
   ·injection e with L _;rw[L]
   ·exact nomatch e
  ·rcases bN Y with⟨j,u,rfl,e⟩|⟨y,u,rfl,e⟩
   ·exact nomatch e
   ·injection e with L _;rw[L]
 byValue:=λk v h=>by
  rcases bN h with⟨i,t,rfl,rfl⟩|⟨x,t,rfl,rfl⟩ <;> rfl
 pyHash:=λO h=>by
  rcases bN O with⟨i,t,rfl,rfl⟩|⟨x,t,rfl,rfl⟩
  ·exact wpAny_pyHash_int h
  ·exact wpAny_pyHash_str h
 eqBool:=λhu O h=>by
  rcases bN hu with⟨i,t,rfl,rfl⟩|⟨x,t,rfl,rfl⟩
  ·rcases bN O with⟨j,u,rfl,rfl⟩|⟨y,u,rfl,rfl⟩
   ·rw[M9]at h;exact wpAny_eqBool_int h
   ·rw[M8]at h;exact SeqAt.EqAt.int_str i t y u _ _ _ _ h
  ·rcases bN O with⟨j,u,rfl,rfl⟩|⟨y,u,rfl,rfl⟩
   ·rw[M7]at h;exact SeqAt.EqAt.str_int x t j u _ _ _ _ h
   ·rw[M6]at h;exact wpAny_eqBool_str h
 «strs»:=λk x t v h=>by
  rcases bN h with⟨i,u,rfl,e⟩|⟨y,u,rfl,e⟩
  ·exact nomatch e
  ·injection e with L _
   subst L;cases v <;> rfl
def vn (prog:aas)(w:aaG)(i:Int)(t:Tok):(cq prog w).is (.inl i) (.int i t)=G:=BO i t
def vm (prog:aas)(w:aaG)(x:Str)(t:Tok):(cq prog w).is (.inr x) (.str x t)=G:=BN x t
inductive V where
 |cI|bl (b:Bool)|int (i:Int)|str (x:Str)|Sj (b:Array UInt8)|X6 (b:UInt64)|ref (a:μ)|ty (n:String)
 deriving DecidableEq
def RelV:V->aam->Prop
 |.cI,u=>u=Value.none
 |.bl b,u=>u=Value.bool b
 |.int i,u=>∃t,u=Value.int i t
 |.str x,u=>∃t,u=Value.str x t
 |.Sj b,u=>∃t,u=Value.bytes b t
 |.X6 b,u=>∃t,u=Value.float b t
 |.ref a,u=>u=Ω a
 |.ty n,u=>u=ad_ n
abbrev Vals:List V->List aam->Prop:=Paired RelV
def Vals.length (r:Vals xs us):xs.length=us.length:=Paired.length r
theorem Vals.get:∀{xs:List V} {us:List aam} {i:Nat} {x:V},Vals xs us->xs[i]?=M x->∃u,us[i]?=M u/\RelV x u
 |_,_,_,_,.nil,e=>by simp at e
 |_,_,0,_,.cons r _,e=>by simp at e;subst e;exact{_,rfl,r}
 |_,_,i+1,x,.cons _ t,e=>by
  let {u,O,L}:=Vals.get (i:=i) (x:=x) t (by simpa using e)
  exact{u,by simpa using O,L}
theorem Vals.set (r:RelV x u):∀{xs:List V} {us:List aam} (i:Nat),Vals xs us->Vals (xs.set i x) (us.set i u)
 |_,_,_,.nil=>.nil
 |_,_,0,.cons _ t=>.cons r t
 |_,_,i+1,.cons q t=>.cons q (Vals.set r i t)
def Vals.append:∀{xs ys:List V} {us L:List aam},Vals xs us->Vals ys L->Vals (xs++ys) (us++L):=by
 intro xs ys us L h s
 induction h with
 |nil=>exact s
 |cons r t ih=>exact .cons r ih
theorem Vals.take:∀{xs:List V} {us:List aam} (n:Nat),Vals xs us->Vals (xs.take n) (us.take n)
 |_,_,0,_=>.nil
 |_,_,_+1,.nil=>.nil
 |_,_,n+1,.cons r t=>.cons r (Vals.take n t)
theorem Vals.drop:∀{xs:List V} {us:List aam} (n:Nat),Vals xs us->Vals (xs.drop n) (us.drop n)
 |_,_,0,r=>r
 |_,_,_+1,.nil=>.nil
 |_,_,n+1,.cons _ t=>Vals.drop n t
def Vals.none_of:∀{xs:List V} {us:List aam} {i:Nat},Vals xs us->xs[i]?=ξ->us[i]?=ξ:=λ{xs us i} r e=>by
 have O:=r.length;have L:xs.length<=i:=List.getElem?_eq_none_iff.mp e;exact List.getElem?_eq_none_iff.mpr .a
def GW:Option V->Option aam->Prop
 |some v,M u=>RelV v u
 |none,ξ=>True
 |_,_=>False
def KV {κ:Type}:List (κ×V)->List (κ×aam)->Prop:=Paired λ(p:κ×V) (q:κ×aam)=>p.1=q.1/\RelV p.2 q.2
def kV:Key->V
 |.inl i=>.int i
 |.inr x=>.str x
inductive HO where
 |lst (xs:List V)
 |tup (xs:List V)
 |dK (bc:List (Key×V))|dT (bc:List (List Key×V))
 |set (S:Int->Bool) (n:Nat)
 |ins (C dx:μ) (fs:List (Str×V))
 |own (x:μ)
 |xd (fs:List (Str×V))
 |met (f x:μ)
 |S6 (lo hi:Int)
 |FH (o:Obj) (u:HO)
 |Kt (ps:Array aam)
 |ext (φ:Heap->Prop)
abbrev Hp:=μ->Option HO
def upd (H:Hp)(a:μ)(o:HO):Hp:=λb=>if b=a then M o else H b
def az {H:Hp}{a:μ}{o:HO}:upd H a o a=M o:=by unfold upd;rw[ω rfl]
def au {H:Hp}{a b:μ}{o:HO}(h:b≠a):upd H a o b=H b:=by unfold upd;rw[Δ h]
def KH {H:Hp}{a b:μ}{o u:HO}(h:H a=M o)(h':H b=M u)(d:o≠u):a≠b:=by
 intro e;subst e;rw[h]at h';exact d (aaZ h')
def dj {H:Hp}{a b:μ}{o:HO}(h:H a=M o)(h':H b=ξ):a≠b:=by
 intro e;subst e;rw[h]at h';cases h'
section
variable (P:aas)(w:aaG)
def bY (H:Hp)(h:Heap)(a:μ):HO->Prop
 |.lst xs=>xs.length<=aaC/\∃(its:List aam) (n:Nat),Vals xs its/\h.get? a=M {cls:=.type "list",data:=.seq its.toArray n}
 |.tup xs=>xs.length<=aaC/\∃its:List aam,Vals xs its/\IsTup h a its.toArray
 |.dK bc=>bc.length<=aaC/\(a==aca)=η/\∃vs,KV bc vs/\h.DictOf (cq P w) a vs
 |.dT bc=>bc.length<=aaC/\(a==aca)=η/\∃xs:List (List Key×μ×aam),
   Paired (λ(p:List Key×V) (q:List Key×μ×aam)=>p.1=q.1/\H q.2.1=M (.tup (p.1.map kV))/\RelV p.2 q.2.2) bc xs /\
   ∃o es ep,h.get? a=M o/\o.ExactDict/\o.data=.dict es ep/\es.toList=xs.map (entryOfKey (tupleKind (cq P w)))/\(xs.map (·.1)).Nodup
 |.set S n=>h.SetOf (intKind P w) a S n
 |.ins C dx fs=>H dx=M (.own a)/\fs.length<=1000/\dx≠a/\h.get? a=M (PySem.W.instObj C dx) /\
   ∃mA,h.Ns1 dx mA/\(∀f,GW (fs.lookup f) (mA f))/\PySem.Within mA (fs.map (·.1))
 |.own _=>∃o,h.get? a=M o
 |.xd fs=>∃mA,h.Ns1 a mA/\∀f,GW (fs.lookup f) (mA f)
 |.S6 lo hi=>∃t u v,h.get? a=M {cls:=.type "range",data:=.fields #[.int lo t,.int hi u,.int 1 v]}
 |.FH o u=>h.get? a=M o/\bY H h a u
 |.Kt ps=>h.get? a=M {cls:=.none,data:=.fields ps}
 |.met f x=>h.get? a=M (PySem.W.methodObj (.ref f) (.ref x))
 |.ext φ=>φ h/\(∃o,h.get? a=M o)/\∀O L:Heap,φ O->(∀o,O.get? a=M o->L.get? a=M o)->φ L
def iq (H:Hp)(h:Heap):Prop:=∀a o,H a=M o->bY P w H h a o
end
section
variable {H H':Hp}{a:μ}{o:HO}
def bY.lt (x:bY P w H h a o):a<h.objs.size:=by
 cases o with
 |lst xs=>let {L,L,L,L,e}:=x;exact aaw e
 |tup xs=>let {L,L,L,p}:=x;exact p.lt
 |dK bc=>let {L,L,L,L,o,L,L,e,L}:=x;exact aaw e
 |dT bc=>let {L,L,L,L,o,L,L,e,L}:=x;exact aaw e
 |set S n=>let {o,L,L,L,e,L}:=x;exact aaw e
 |ins C dx fs=>let {L,L,L,e,L}:=x;exact aaw e
 |own y=>let {L,e}:=x;exact aaw e
 |xd fs=>obtain⟨_,⟨_,_,_,e,_⟩,_⟩:=x;exact aaw e
 |S6 lo hi=>let {L,L,L,e}:=x;exact aaw e
 |FH ob u=>let {e,L}:=x;exact aaw e
 |Kt ps=>exact aaw (show h.get? a=M _ from x)
 |met f y=>exact aaw (show h.get? a=M _ from x)
 |ext φ=>obtain⟨_,⟨_,e⟩,_⟩:=x;exact aaw e
def Paired.QY {α β:Type}{F G:α->β->Prop}:∀{l₁:List α} {l₂:List β},Paired F l₁ l₂->(∀a b,F a b->G a b)->Paired G l₁ l₂:=by
 intro l₁ l₂ h f
 induction h with
 |nil=>exact .nil
 |cons r t ih=>exact .cons (f _ _ r) ih
def bY.nr (x:bY P w H h a o)(k:∀b u,(b=a\/H b=M (.own a))->h.get? b=M u->h'.get? b=M u)
  (ho:∀b,H b=M (.own a)->H' b=M (.own a)) (L:∀b xs,H b=M (.tup xs)->H' b=M (.tup xs)):bY P w H' h' a o:=by
 induction o with
 |lst xs=>let {z,its,n,r,e}:=x;exact{z,its,n,r,k _ _ (.inl rfl) e}
 |tup xs=>let {z,its,r,ob,e,c}:=x;exact{z,its,r,ob,k _ _ (.inl rfl) e,c}
 |dK bc=>let {z,y,vs,r,ob,es,ep,e,c}:=x;exact{z,y,vs,r,ob,es,ep,k _ _ (.inl rfl) e,c}
 |dT bc =>
  let {z,y,xs,r,ob,es,ep,e,c}:=x;exact{z,y,xs,Paired.QY r λp q z=>{z.1,L _ _ z.2.1,z.2.2},ob,es,ep,k _ _ (.inl rfl) e,c}
 |set S n=>let {ob,es,ep,t,e,c}:=x;exact{ob,es,ep,t,k _ _ (.inl rfl) e,c}
 |ins C dx fs =>
  obtain⟨d,z,ne,e,mA,⟨od,es,ep,O,c⟩,r⟩:=x;exact{ho _ d,z,ne,k _ _ (.inl rfl) e,mA,{od,es,ep,k _ _ (.inr d) O,c},r}
 |own y=>let {ob,e}:=x;exact{ob,k _ _ (.inl rfl) e}
 |xd fs=>obtain⟨mA,⟨od,es,ep,e,c⟩,r⟩:=x;exact{mA,{od,es,ep,k _ _ (.inl rfl) e,c},r}
 |S6 lo hi=>let {t,u,v,e}:=x;exact{t,u,v,k _ _ (.inl rfl) e}
 |FH ob u ih=>let {e,q}:=x;exact{k _ _ (.inl rfl) e,ih q}
 |Kt ps =>
  have e:h.get? a=M {cls:=.none,data:=.fields ps}:=x;show h'.get? a=M {cls:=.none,data:=.fields ps};exact k a _ (.inl rfl) e
 |met f y =>
  have e:h.get? a=M (PySem.W.methodObj (.ref f) (.ref y)):=x;show h'.get? a=M (PySem.W.methodObj (.ref f) (.ref y));exact k a _ (.inl rfl) e
 |ext φ=>obtain⟨p,⟨o,e⟩,st⟩:=x;exact{st _ _ p λo q=>k _ _ (.inl rfl) q,{o,k _ _ (.inl rfl) e},st}
def iq.lt (x:iq P w H h)(e:H a=M o):a<h.objs.size:=(x a o e).lt
def iq.fresh (x:iq P w H h)(e:h.objs.size<=a):H a=ξ:=by
 cases q:H a with
 |none=>rfl
 |some u=>exact Κ (aaV (x.lt q) e) (ab7 _)
def iq.kept (x:iq P w H h)(k:∀b u,h.get? b=M u->h'.get? b=M u):iq P w H h':=λa o e =>
 (x a o e).nr (λb u _ q=>k b u q) (λ_ q=>q) λ_ _ q=>q
def iq.laid (x:iq P w H h)(k:∀b u,h.get? b=M u->h'.get? b=M u)(Y:h.objs.size<=a)(new:bY P w (upd H a o) h' a o):iq P w (upd H a o) h':=λb u e=>by
 have L:=x.fresh Y
 by_cases O:b=a
 ·subst O;rw[az]at e;cases e;exact new
 ·rw[au O]at e;exact(x b u e).nr (λc v _ q=>k c v q) (λc q=>by rw[au (dj q L)];exact q) λc xs q=>by rw[au (dj q L)];exact q
end
def Rd (H:Hp)(a:μ)(u:HO):Prop:=H a=M u\/∃o,H a=M (.FH o u)
def Rd.ok {P:aas}{w:aaG}{H:Hp}{h:Heap}{a:μ}{u:HO}(r:Rd H a u)(x:iq P w H h):bY P w H h a u:=by
 rcases r with r|⟨o,r⟩
 ·exact x a u r
 ·let {L,q}:=x a _ r;exact q
def SH:Option HO->Prop
 |some (.lst _)=>True
 |some (.dK _)=>True
 |some (.dT _)=>True
 |some (.set _ _)=>True
 |some (.ins _ _ _)=>True
 |some (.ext _)=>True
 |_=>False
section
variable {H:Hp}{x e:μ}{o':HO}
def iq.write (ok:iq P w H h)(mu:SH (H x))(he:e=x\/H e=M (.own x))(k:∀b u,b≠e->h.get? b=M u->h'.get? b=M u)(Ph:∃u,h'.get? e=M u)
  (new:bY P w (upd H x o') h' x o'):iq P w (upd H x o') h':=λb u q=>by
 have QG:∀c y,H c=M (.own y)->c≠x:=λc y r z=>by subst z;rw[r]at mu;exact mu
 have U1:∀c xs,H c=M (.tup xs)->c≠x:=λc xs r z=>by subst z;rw[r]at mu;exact mu
 by_cases L:b=x
 ·subst L;rw[az]at q;cases q;exact new
 ·rw[au L]at q
  by_cases Oa:b=e
  ·have O:H b=M (.own x):=by
    rcases he with z|z
    ·exact Κ (Oa.trans z) L
    ·rw[Oa];exact z
   rw[q]at O;cases O;let {v,Y}:=Ph;exact{v,by rw[Oa];exact Y}
  ·refine(ok b u q).nr (λc v hc r=>k c v ?_ r) (λc r=>by rw[au (QG c b r)];exact r) λc xs r=>by rw[au (U1 c xs r)];exact r
   rcases hc with rfl|hc
   ·exact Oa
   ·rintro rfl;rcases he with z|z
    ·exact QG c b hc z
    ·rw[hc]at z;cases z;exact L rfl
end
structure Un (fs ex:List μ)(H H':Hp)(h h':Heap):Prop where
 keep:∀b o,h.get? b=M o->H b=ξ->b∉fs->b∉ex->h'.get? b=M o
 slot:∀b o,h.get? b=M o->H b=ξ->b∈fs->b∉ex->∃sl,h'.get? b=M {o with slots:=sl}
 free:∀b o,h.get? b=M o->H b=ξ->b∉ex->H' b=ξ
 there:∀b o,h.get? b=M o->b∉ex->∃o',h'.get? b=M o'
 jA:∀b xs,H b=M (.tup xs)->H' b=M (.tup xs)
 iW:∀b o u,H b=M (.FH o u)->H' b=M (.FH o u)
 jB:∀b ps,H b=M (.Kt ps)->∃more,H' b=M (.Kt (ps++more))
section
variable {fs ex:List μ}{H H1:Hp}{h1:Heap}{a x e:μ}{o:HO}
def Un.any (u:Un fs ex H H1 h h1){b:μ}{ob:Obj}(q:h.get? b=M ob)(n:H b=ξ)(L:b∉ex):∃sl,h1.get? b=M {ob with slots:=sl}:=by
 by_cases O:b∈fs
 ·exact u.slot b ob q n O L
 ·exact{ob.slots,u.keep b ob q n O L}
def Un.kept (k:∀b u,h.get? b=M u->h'.get? b=M u):Un fs ex H H h h' :=
 {λb ob q _ _ _=>k b ob q,λb ob q _ _ _=>{ob.slots,k b ob q},λ_ _ _ n _=>n,λb ob q _=>{ob,k b ob q},λ_ _ q=>q,λ_ _ _ q=>q,λ_ ps q=>{#[],by rw[q];simp}}
def Un.refl:Un fs ex H H h h:=Un.kept λ_ _ q=>q
def Un.laid (k:∀b u,h.get? b=M u->h'.get? b=M u)(O:h.objs.size<=a)(L:H a=ξ):Un fs ex H (upd H a o) h h' where
 keep:=λb u q _ _ _=>k b u q
 slot:=λb u q _ _ _=>{u.slots,k b u q}
 free:=λb u q n _=>by rw[au (aaN (aaV (aaw q) O))];exact n
 there:=λb u q _=>{u,k b u q}
 jA:=λb xs q=>by rw[au (dj q L)];exact q
 iW:=λb u xs q=>by rw[au (dj q L)];exact q
 jB:=λb ps q=>{#[],by rw[au (dj q L),q];simp}
def Un.write (mu:SH (H x))(he:e=x\/H e=M (.own x))(k:∀b u,b≠e->h.get? b=M u->h'.get? b=M u)(Ph:∃u,h'.get? e=M u):Un fs ex H (upd H x o) h h':=by
 have O:∀b,H b=ξ->b≠x:=λb n z=>by subst z;rw[n]at mu;exact mu
 have Y:∀b,H b=ξ->b≠e:=λb n z=>by
  subst z;rcases he with r|r
  ·exact O b n r
  ·rw[n]at r;cases r
 have L:∀b u,H b=M u->¬ SH (M u)->b≠x:=λb u q nm z=>by subst z;rw[q]at mu;exact nm mu
 refine⟨λb u q n _ _=>k b u (Y b n) q,λb u q n _ _=>{u.slots,k b u (Y b n) q},λb u q n _=>by rw[au (O b n)];exact n,λb u q _=>?_,
  λb xs q=>by rw[au (L b _ q λz=>z)];exact q,λb u xs q=>by rw[au (L b _ q λz=>z)];exact q,λb ps q=>{#[],by rw[au (L b _ q λz=>z),q];simp}⟩
 by_cases Oa:b=e
 ·subst Oa;exact Ph
 ·exact{u,k b u Oa q}
end
def O5 (h:Heap)(H:Hp):List μ:=(aaA h.objs.size).filter λa=>(H a).isSome
def t9 (h:Heap)(H:Hp):Heap:=PySem.W.hideAll h (O5 h H)
def B0 (h:Heap)(H:Hp):(t9 h H).objs.size=h.objs.size:=PySem.W.hideAll_size _ _
def Fx {h:Heap}{H:Hp}{b:μ}{o:Obj}(e:h.get? b=M o)(n:H b=ξ):(t9 h H).get? b=M o :=
 PySem.W.hideAll_get _ e λL=>by
  have q:(H b).isSome=G:=(ab8.mp L).2;rw[n]at q;simp at q
def IY {h:Heap}{H:Hp}{b:μ}{o:Obj}(e:(t9 h H).get? b=M o):h.get? b=M o/\H b=ξ:=by
 have L:h.get? b=M o:=PySem.W.of_hideAll (O5 h H) e;refine{L,?_};cases q:H b with
 |none=>rfl
 |some x =>
  have O:b∈O5 h H:=ab8.mpr {aa2.mpr (aaw L),by simp[q]}
  have z:(t9 h H).get? b=ξ:=PySem.W.hideAll_none (O5 h H) O;rw[z]at e;cases e
structure Mod (K:Ψ)(mg:Str->Option aam)(base:Heap):Prop where
 M5:K.In base
 glob:base.Ns acq mg
 blt:∃mb,base.Ns builtinsNs mb/\∀x:Str,x≠"__name__" -> mb x=abt x
 nolimit:base.NoLimit
structure Cx where
 prog:aas
 w:aaG
 K:Ψ
 mg:Str->Option aam
 base:Heap
 A:abf
 N:List Str
 s₀:aao
 H₀:Hp
 env:Env
 outer:List Env
 stack:List Env
 ex:List μ
 fn:Str->Bool
 calm:Bool
 pn:List (μ×Obj)
 xe:aam->aao->Prop
def iC (l:List Env):List μ:=l.filterMap (·.frame)
abbrev Cx.fs (X:Cx):List μ:=iC X.outer
def Lf (sc:acF)(x:Str):Prop:=sc.names.lookup x=M .local\/sc.names.lookup x=M .cell\/sc.names.lookup x=M .free
def Loc (sc:acF)(x:Str):Prop:=sc.names.lookup x=M .local\/sc.names.lookup x=M .cell
def Look (env:Env)(h:Heap)(m:Str->Option aam)(x:Str)(u:aam):Prop :=
 (env.kindOf x=M .local/\m x=M u)\/((env.kindOf x=M .cell\/env.kindOf x=M .free)/\∃c,env.cells.lookup x=M c/\h.IsCell c (M u))
structure Cx.Ok (X:Cx):Prop where
 mod:Mod X.K X.mg X.base
 kind:X.env.scope.kind=.function
 glob:X.env.globals=acq
 blt:X.env.builtins=builtinsNs
 above:X.s₀.heap.objs.size<=X.env.locals
 inj:∀x y c,X.env.cells.lookup x=M c->X.env.cells.lookup y=M c->x=y
 has:∀x,(X.env.kindOf x=M .cell\/X.env.kindOf x=M .free)->∃c,X.env.cells.lookup x=M c
 Ki:∀x c,X.fn x=G->X.env.cells.lookup x=M c->X.s₀.heap.objs.size<=c
 hd:X.calm=G->X.A.handled=ξ
 frames:X.A.frames=M X.stack
 Kw:X.stack=X.outer\/(X.stack=.f::X.outer/\X.env.frame=M X.env.locals)
 Hh:∀b∈X.ex,b≠X.env.locals/\∀x c,X.env.cells.lookup x=M c->c≠b
 bs:∀b o,X.base.get? b=M o->X.s₀.heap.get? b=M o/\X.H₀ b=ξ
 yS:X.base.objs.size<=X.s₀.heap.objs.size
 qP:∀b o,X.base.get? b=M o->b∉X.ex
 q_:∀b∈X.ex,b∉X.fs
 jF:X.s₀.heap.FunFrames X.base X.outer
 FI:∀b∈X.fs,X.H₀ b=ξ
structure Inv (X:Cx)(χ:List (μ×Obj))(σ:List (Option V))(H:Hp)(s:aao):Prop where
 ok:X.Ok
 os:s.os=X.s₀.os
 bare:aet s.gens
 base:Un X.fs X.ex X.H₀ H X.s₀.heap s.heap
 loc:∃m,s.heap.Ns X.env.locals m/\∀(i:Nat) (x:Str) (v:V),X.N[i]?=M x->σ[i]?=M (M v)->Lf X.env.scope x->∃u,RelV v u/\Look .f s.heap m x u
 cell:∀x c,X.env.cells.lookup x=M c->∃v,s.heap.IsCell c v
 free:H X.env.locals=ξ
 dQ:∀x c,X.env.cells.lookup x=M c->H c=ξ
 pin:∀p∈X.pn++χ,s.heap.get? p.1=M p.2/\H p.1=ξ/\p.1≠X.env.locals/\p.1∉X.fs/\∀v,p.2.data≠.cell v
 bh:iq X.prog X.w H s.heap
 len:σ.length=X.N.length
section
variable {X:Cx}{σ:List (Option V)}{H H':Hp}
def Cx.Ok.MR (ok:X.Ok){b:μ}{o:Obj}(e:X.base.get? b=M o):b∉X.fs:=λL=>by
 have:=(ok.jF.mem L).1;rw[e]at this;cases this
def Inv.bs (I:Inv X χ σ H s):∀b o,X.base.get? b=M o->s.heap.get? b=M o/\H b=ξ:=λb o e =>
 {I.base.keep b o (I.ok.bs b o e).1 (I.ok.bs b o e).2 (I.ok.MR e) (I.ok.qP b o e),I.base.free b o (I.ok.bs b o e).1 (I.ok.bs b o e).2 (I.ok.qP b o e)}
def Inv.bk (I:Inv X χ σ H s):∀b o,X.base.get? b=M o->s.heap.get? b=M o:=λb o e=>(I.bs b o e).1
def Inv.mod (I:Inv X χ σ H s):Mod X.K X.mg X.base:=I.ok.mod
def Inv.zV (I:Inv X χ σ H s):X.K.In s.heap:=I.ok.mod.M5.keeps I.bk
def Inv.lt (I:Inv X χ σ H s):X.env.locals<.e:=let ⟨_,L,_⟩:=I.loc;L.lt
def Inv.sz (I:Inv X χ σ H s):X.s₀.heap.objs.size<=.e:=aa3 I.ok.above (Nat.le_of_lt I.lt)
def Inv.QI (I:Inv X χ σ H s){a:μ}(h:.e<=a):a∉X.fs:=λL=>by
 let {O,o,ho,O}:=I.ok.jF.mem L;exact Κ (aaV (aaw ho) (aa3 I.sz h)) (ab7 _)
def Inv.Gk (I:Inv X χ σ H s):∀x c,X.env.cells.lookup x=M c->c≠X.env.locals:=λx c e z=>by
 let {v,o,ho,hd}:=I.cell x c e;obtain⟨m,⟨o',es,ep,BZ,hd',_⟩,_⟩:=I.loc;rw[z,BZ]at ho;cases ho;rw[hd']at hd;cases hd
def Inv.jF (I:Inv X χ σ H s):s.heap.FunFrames X.base X.outer:=by
 have all:∀(l:List Env),(∀b∈iC l,b∈X.fs)->X.s₀.heap.FunFrames X.base l->s.heap.FunFrames X.base l:=by
  intro l
  induction l with
  |nil=>intro _ _;trivial
  |cons env r ih =>
   intro hs hl;obtain⟨hk,⟨L,o,O,hn,ho,hd⟩,hr⟩:=hl;have hL:L∈X.fs:=hs L (by unfold iC;rw[abj,O];exact aaO)
   let {sl,e}:=I.base.slot L o ho (I.ok.FI L hL) hL λz=>I.ok.q_ L z hL;exact{hk,{L,_,O,hn,e,hd},ih (λb Y=>hs b (by unfold iC;rw[abj,O];exact aaL _ Y)) hr}
 exact all X.outer (λ_ Y=>Y) I.ok.jF
def Inv.stack (I:Inv X χ σ H s):s.heap.FunFrames X.base X.stack:=by
 rcases I.ok.Kw with e|⟨e,O⟩
 ·rw[e];exact I.jF
 ·rw[e];let {m,L,Y}:=I.loc;refine .cons (by rw[I.ok.kind];decide) O L ?_ I.jF
  exact Heap.get?_none_of_le (aa3 I.ok.yS I.ok.above)
def Inv.sY (I:Inv X χ σ H s):∀b∈iC X.stack,b∈X.env.locals::X.fs:=λb L=>by
 rcases I.ok.Kw with e|⟨e,O⟩
 ·rw[e]at L;exact aaL _ L
 ·rw[e]at L;unfold iC at L;rw[abj,O]at L;exact L
def Inv.nH (I:Inv X χ σ H s):∀b∈iC X.stack,H b=ξ:=λb L=>by
 rcases aat.mp (I.sY b L)with e|L
 ·rw[e];exact I.free
 ·let {O,o,ho,O}:=I.ok.jF.mem L;exact I.base.free b o ho (I.ok.FI b L) λz=>I.ok.q_ b z L
def Inv.step {g':Array GenState}{t':Nat}{d':Drawn}{ch:List μ}(I:Inv X χ σ H s)
  (Ab:∀b∈ch,(b∈X.ex\/X.s₀.heap.objs.size<=b)/\b≠X.env.locals/\(∀x c,X.env.cells.lookup x=M c->c≠b)/\∀p∈X.pn++χ,p.1≠b)
  (keep:∀b o,b≠X.env.locals->b∉X.fs->b∉ch->s.heap.get? b=M o->H b=ξ->h'.get? b=M o)
  (slot:∀b o,b≠X.env.locals->b∈X.fs->b∉ch->s.heap.get? b=M o->H b=ξ->∃sl,h'.get? b=M {o with slots:=sl}) (free:∀b o,b∉ch->s.heap.get? b=M o->H b=ξ->H' b=ξ)
  (there:∀b o,b∉ch->s.heap.get? b=M o->∃o',h'.get? b=M o')
  (jA:∀b xs,H b=M (.tup xs)->H' b=M (.tup xs)) (iW:∀b o u,H b=M (.FH o u)->H' b=M (.FH o u)) (jB:∀b ps,H b=M (.Kt ps)->∃more,H' b=M (.Kt (ps++more)))
  (ns:∀m,s.heap.Ns X.env.locals m->h'.Ns X.env.locals m) (bh:iq X.prog X.w H' h') (hg:aet g') :
  Inv X χ σ H' {s with heap:=h',gens:=g',drawn:=d',toks:=t'}:=by
 have Y1:∀b o,X.s₀.heap.get? b=M o->b≠X.env.locals:=λb o e=>aaN (aaV (aaw e) I.ok.above);have S_:∀b o,X.s₀.heap.get? b=M o->b∉X.ex->b∉ch:=λb o e L Y=>by
  rcases (Ab b Y).1 with z|z
  ·exact L z
  ·exact Κ (aaV (aaw e) z) (ab7 _)
 have cellK:∀x c,X.env.cells.lookup x=M c->∀v,s.heap.IsCell c v->h'.IsCell c v:=λx c e v lj=>by
  let {o,ho,hd}:=lj;have QN:c∉ch:=λz=>(Ab c z).2.2.1 x c e rfl
  by_cases hc:c∈X.fs
  ·let {sl,q}:=slot c o (I.Gk x c e) hc QN ho (I.dQ x c e);exact{_,q,hd}
  ·exact{o,keep c o (I.Gk x c e) hc QN ho (I.dQ x c e),hd}
 refine{I.ok,I.os,hg,{λb o e n Y L=>?_,λb o e n Y L=>?_,λb o e n L=>?_,λb o e L=>?_,λb xs e=>jA b xs (I.base.jA b xs e),λb o xs e=>iW b o xs (I.base.iW b o xs e),λb ps e=>?_},?_,λx c e=>?_,?_,λx c e=>?_,λp hp=>?_,bh,I.len}
 ·exact keep b o (Y1 b o e) Y (S_ b o e L) (I.base.keep b o e n Y L) (I.base.free b o e n L)
 ·let {sl,O}:=I.base.slot b o e n Y L;let {zi,e2}:=slot b _ (Y1 b o e) Y (S_ b o e L) O (I.base.free b o e n L);exact{(zi),e2}
 ·let {o',O}:=I.base.there b o e L;exact free b o' (S_ b o e L) O (I.base.free b o e n L)
 ·let {o',O}:=I.base.there b o e L;exact there b o' (S_ b o e L) O
 ·let {m1,O}:=I.base.jB b ps e;let {m2,e2}:=jB b _ O;exact{m1++m2,by rw[e2,Array.append_assoc]}
 ·let {m,hn,hl}:=I.loc;refine{m,ns m hn,λi x v O e2 e3=>?_};let {u,r,l}:=hl i x v O e2 e3;refine{u,r,?_};rcases l with l|⟨k,c,e,z⟩
  ·exact .inl l
  ·exact .inr {k,c,e,cellK x c e _ z}
 ·let {v,z}:=I.cell x c e;exact{v,cellK x c e v z}
 ·obtain⟨m,⟨o,_,_,ho,_⟩,_⟩:=I.loc;exact free _ o (λz=>(Ab _ z).2.1 rfl) ho I.free
 ·let {v,o,ho,hd}:=I.cell x c e;exact free c o (λz=>(Ab c z).2.2.1 x c e rfl) ho (I.dQ x c e)
 ·let {e,n,ne,nf,d}:=I.pin p hp;have QN:p.1∉ch:=λz=>(Ab p.1 z).2.2.2 p hp rfl;exact{keep p.1 p.2 ne nf QN e n,free p.1 p.2 QN e n,ne,nf,d}
def Inv.un (I:Inv X χ σ H s)(u:Un X.fs [] H H' s.heap h')(bh:iq X.prog X.w H' h'):Inv X χ σ H' {s with heap:=h',toks:=t'}:=by
 obtain⟨m,⟨o,es,ep,ho,r⟩,_⟩:=id I.loc;let {sl,hL}:=u.any ho I.free .c
 exact I.step (g':=s.gens) (d':=s.drawn) (ch:=[]) (λ_ z=>nomatch z) (λb o _ L _ e n=>u.keep b o e n L .c) (λb o _ L _ e n=>u.slot b o e n L .c) (λb o _ e n=>u.free b o e n .c) (λb o _ e=>u.there b o e .c) u.jA u.iW u.jB (λm' Y=>by
  let {o',fN,wu,BZ,O}:=Y;rw[ho]at BZ;cases BZ;exact{_,fN,wu,hL,O}) bh I.bare
def Inv.call (I:Inv X χ σ H s)(u:Un (iC X.stack) ch H H' s.heap h')(bh:iq X.prog X.w H' h')(hg:aet g')
  (Ab:∀b∈ch,(b∈X.ex\/X.s₀.heap.objs.size<=b)/\b≠X.env.locals/\(∀x c,X.env.cells.lookup x=M c->c≠b)/\∀p∈X.pn++χ,p.1≠b) :
  Inv X χ σ H' {s with heap:=h',gens:=g',drawn:=d',toks:=t'}:=by
 obtain⟨m,⟨o,es,ep,ho,r⟩,_⟩:=id I.loc;let {sl,L}:=u.any ho I.free λz=>(Ab _ z).2.1 rfl;exact I.step (ch:=ch) Ab (λb o L hb hc e n=>u.keep b o e n (λz=>(aat.mp (I.sY b z)).elim L hb) hc) (λb o _ _ hc e n=>u.any e n hc) (λb o hc e n=>u.free b o e n hc) (λb o hc e=>u.there b o e hc) u.jA u.iW u.jB (λm' Y=>by
  let {o',fN,wu,BZ,O}:=Y;rw[ho]at BZ;cases BZ;exact{_,fN,wu,L,O}) bh hg
def Inv.turned (I:Inv X χ σ H s)(k:∀b o,b≠it->s.heap.get? b=M o->h'.get? b=M o)(Y:H it=ξ)(L:it≠X.env.locals)
  (h1:it∈X.ex\/X.s₀.heap.objs.size<=it) (h2:∀x c,X.env.cells.lookup x=M c->c≠it) (h3:∀p∈X.pn++χ,p.1≠it):Inv X χ σ H {s with heap:=h',toks:=t'}:=by
 have O:∀b u,H b=M u->b≠it:=λb u e z=>by rw[z,Y]at e;cases e
 refine I.step (g':=s.gens) (d':=s.drawn) (ch:=[it]) (λb hb=>?_) (λb o _ _ hc e _=>k b o (λz=>hc (by simp[z])) e) (λb o _ _ hc e _=>{o.slots,k b o (λz=>hc (by simp[z])) e}) (λ_ _ _ _ n=>n)
  (λb o hc e=>{o,k b o (λz=>hc (by simp[z])) e}) (λ_ _ e=>e) (λ_ _ _ e=>e) (λb ps e=>{#[],by rw[e];simp}) (λm hm=>?_) (λb u e=>?_) I.bare
 ·have e:b=it:=by simpa using hb
  subst e;exact{(h1),L,h2,h3}
 ·let {o,es,ep,ho,r}:=hm;exact{o,es,ep,k _ o (abn L) ho,r}
 ·refine(I.bh b u e).nr (λc v hc q=>k c v ?_ q) (λ_ q=>q) λ_ _ q=>q;rcases hc with z|z
  ·rw[z];exact O b u e
  ·exact O c _ z
def Inv.tok (I:Inv X χ σ H s)(t:Nat):Inv X χ σ H {s with toks:=t}:=I.un (h':=s.heap) (t':=t) Un.refl I.bh
def Inv.kept (I:Inv X χ σ H s)(k:∀b u,s.heap.get? b=M u->h'.get? b=M u):Inv X χ σ H {s with heap:=h',toks:=t'}:=I.un (Un.kept k) (I.bh.kept k)
def Inv.laid {a:μ}{o:HO}{t':Nat}(I:Inv X χ σ H s)(k:∀b u,s.heap.get? b=M u->h'.get? b=M u)(L:.e<=a)(new:bY X.prog X.w (upd H a o) h' a o):
  Inv X χ σ (upd H a o) {s with heap:=h',toks:=t'}:=I.un (Un.laid k L (I.bh.fresh L)) (I.bh.laid k L new)
def Inv.write {x e:μ}{o:HO}{t':Nat}(I:Inv X χ σ H s)(mu:SH (H x))(he:e=x\/H e=M (.own x))(k:∀b u,b≠e->s.heap.get? b=M u->h'.get? b=M u)(Ph:∃u,h'.get? e=M u)
  (new:bY X.prog X.w (upd H x o) h' x o):Inv X χ σ (upd H x o) {s with heap:=h',toks:=t'}:=I.un (Un.write mu he k Ph) (I.bh.write mu he k Ph new)
def Inv.nP (I:Inv X χ σ H s)(h:∀p∈iP,s.heap.get? p.1=M p.2/\H p.1=ξ/\p.1≠X.env.locals/\p.1∉X.fs/\∀v,p.2.data≠.cell v):Inv X iP σ H s :=
 {I.ok,I.os,I.bare,I.base,I.loc,I.cell,I.free,I.dQ,λp L=>(aaT.mp L).elim (λz=>I.pin p (abW _ z)) (h p),I.bh,I.len}
def o_ {N:List Str}(L:N.Nodup){i j:Nat}{x:Str}(a:N[i]?=M x)(b:N[j]?=M x):i=j:=by
 let {h1,Y}:=aay.mp a;let {h2,O}:=aay.mp b;exact(List.getElem_inj L).mp (Y.trans O.symm)
def rq (I:Inv X χ σ H s)(hN:X.N.Nodup)(hi:X.N[i]?=M x)(Y:Loc X.env.scope x)(r:RelV v u)
  (h:∀s',Inv X χ (σ.set i (M v)) H s'->(∃a,ach a s.heap s'.heap/\(a=X.env.locals\/X.env.cells.lookup x=M a))->Q () s') (hf:X.fn x=G\/X.env.scope.names.lookup x=M .local:=by first|exact .inl rfl|exact .inr rfl|assumption):aaD L A (storeName .f x u) Q E s:=by
 let {m,hn,hl}:=id I.loc;have N_:(X.env.scope.kind==.class || (X.env.scope.kind==.module&&X.env.locals != X.env.globals))=η:=by rw[I.ok.kind];rfl
 have RD:i<σ.length:=by rw[I.len];exact(aay.mp hi).1
 have Gk:=I.Gk;have tracked:∀{a:μ} {h':Heap},(∃o,s.heap.get? a=M o/\H a=ξ)->ach a s.heap h'->iq X.prog X.w H h':=λ{a h'} ha hs b ob e=>by
  let {_x,_x,KY}:=ha;refine(I.bh b ob e).nr (λc w' hc q=>(hs.2 c ?_).trans q) (λ_ q=>q) λ_ _ q=>q;rintro rfl;rcases hc with rfl|hc
  ·rw[KY]at e;cases e
  ·rw[KY]at hc;cases hc
 rcases Y with hk|hk
 ·refine wpAny_storeName_local hk hn (λh' JB hs=>?_) N_;let {oL,_x,_x,Zi,_x}:=id hn;refine h _ {I.ok,I.os,I.bare,{λb o e n hb Y=>?_,λb o e n hb Y=>?_,I.base.free,λb o e Y=>?_,I.base.jA,I.base.iW,I.base.jB},{_,JB,λj y v' O e2 e3=>?_},λy c e=>?_,I.free,I.dQ,λp hp=>?_,tracked {(oL),Zi,I.free} hs,by simpa using I.len} {_,hs,.inl rfl}
  ·exact(hs.2 b (aaN (aaV (aaw e) I.ok.above))).trans (I.base.keep b o e n hb Y)
  ·let {sl,O}:=I.base.slot b o e n hb Y;exact{sl,(hs.2 b (aaN (aaV (aaw e) I.ok.above))).trans O}
  ·let {o',O}:=I.base.there b o e Y;exact{o',(hs.2 b (aaN (aaV (aaw e) I.ok.above))).trans O}
  ·by_cases hj:j=i
   ·subst hj;rw[hi]at O;cases O;rw[List.getElem?_set_self RD]at e2;cases e2;exact{u,r,.inl {hk,by simp}}
   ·rw[List.getElem?_set_ne (abn hj)]at e2;let {u',r',q}:=hl j y v' O e2 e3;refine{u',r',?_};rcases q with⟨k,e⟩|⟨k,c,e,z⟩
    ·refine .inl {k,?_};have:y≠x:=λe=>hj (o_ hN O (e▸hi));simp[this,e]
    ·exact .inr {k,c,e,z.sameBut hs (Gk y c e)}
  ·let {w',z}:=I.cell y c e;exact{w',z.sameBut hs (Gk y c e)}
  ·let {e,n,ne,nf,d}:=I.pin p hp;exact{(hs.2 p.1 ne).trans e,n,ne,nf,d}
 ·have XJ:X.fn x=G:=by
   rcases hf with z|z
   ·exact z
   ·rw[z]at hk;cases hk
  let {c,hc}:=I.ok.has x (.inl hk);let {w',z}:=I.cell x c hc;refine wpAny_storeName_cell I.ok.kind hk hc z (λh' qw hs=>?_);let {oc,Jz,Xf}:=id z;refine h {s with heap:=h'} {I.ok,I.os,I.bare,{λb o e n hb Y=>?_,λb o e n hb Y=>?_,I.base.free,λb o e Y=>?_,I.base.jA,I.base.iW,I.base.jB},{m,hn.sameBut hs (abn (Gk x c hc)),λj y v' O e2 e3=>?_},λy c' e=>?_,I.free,I.dQ,λp hp=>?_,tracked {oc,Jz,I.dQ x c hc} hs,by simpa using I.len} {c,hs,.inr hc}
  ·exact(hs.2 b (aaN (aaV (aaw e) (I.ok.Ki x c XJ hc)))).trans (I.base.keep b o e n hb Y)
  ·let {sl,O}:=I.base.slot b o e n hb Y;exact{sl,(hs.2 b (aaN (aaV (aaw e) (I.ok.Ki x c XJ hc)))).trans O}
  ·let {o',O}:=I.base.there b o e Y;exact{o',(hs.2 b (aaN (aaV (aaw e) (I.ok.Ki x c XJ hc)))).trans O}
  ·by_cases hj:j=i
   ·subst hj;rw[hi]at O;cases O;rw[List.getElem?_set_self RD]at e2;cases e2;exact{u,r,.inr {.inl hk,c,hc,qw}}
   ·rw[List.getElem?_set_ne (abn hj)]at e2;let {u',r',q}:=hl j y v' O e2 e3;refine{u',r',?_};rcases q with q|⟨k,c',e,z'⟩
    ·exact .inl q
    ·refine .inr {k,c',e,z'.sameBut hs ?_};rintro rfl;exact hj (o_ hN O (I.ok.inj _ _ _ e hc▸hi))
  ·by_cases qv:c'=c
   ·subst qv;exact{_,qw}
   ·let {w2,z2}:=I.cell y c' e;exact{w2,z2.sameBut hs qv}
  ·let {e,n,ne,nf,d}:=I.pin p hp;refine{(hs.2 p.1 ?_).trans e,n,ne,nf,d};intro q;rw[q,Jz]at e;have q':oc=p.2:=aaZ e;exact d w' (by rw[<- q'];exact Xf)
def oE (I:Inv X χ σ H s)(hN:X.N.Nodup)(hi:X.N[i]?=M x)(O:Loc X.env.scope x)(r:RelV v u)
  (h:∀s',Inv X χ (σ.set i (M v)) H s'->Q () s') (Y:X.fn x=G\/X.env.scope.names.lookup x=M .local:=by first|exact .inl rfl|exact .inr rfl|assumption):aaD L A (storeName .f x u) Q E s :=
 rq I hN hi O r (λs' I' _=>h s' I') Y
def Inv.Gy (I:Inv X χ σ H s)(ho:s'.os=s.os)(u:Un (iC X.stack) ch H H' s.heap s'.heap)(bh:iq X.prog X.w H' s'.heap)(L:aet s'.gens)
  (Ab:∀b∈ch,(b∈X.ex\/X.s₀.heap.objs.size<=b)/\b≠X.env.locals/\(∀x c,X.env.cells.lookup x=M c->c≠b)/\∀p∈X.pn++χ,p.1≠b):Inv X χ σ H' s':=by
 let {h',g',d',t',o'}:=s';have e:o'=s.os:=ho;subst e;exact I.call (g':=g') (t':=t') (d':=d') u bh L Ab
end
abbrev XK:=aam->Option μ->Hp->Prop
abbrev St:=List (Option V)
abbrev VK:=V->Hp->Prop
abbrev TE:=St->Hp->VK->Prop
abbrev TT:=St->Hp->(Bool->Hp->Prop)->Prop
abbrev TA:=St->Hp->(List V->Hp->Prop)->Prop
structure Ends where
 nx:St->Hp->Prop
 rt:VK
 bk:St->Hp->Prop:=λ_ _=>False
 ct:St->Hp->Prop:=λ_ _=>False
abbrev TS:=Ends->St->Hp->Prop
def EP (X:Cx)(χ:List (μ×Obj))(σ:St)(Q:VK)(u:aam)(s':aao):Prop:=∃v H',Inv X χ σ H' s'/\RelV v u/\Q v H'
def TP (X:Cx)(χ:List (μ×Obj))(σ:St)(Q:Bool->Hp->Prop)(b:Bool)(s':aao):Prop:=∃H',Inv X χ σ H' s'/\Q b H'
def AP (X:Cx)(χ:List (μ×Obj))(σ:St)(Q:List V->Hp->Prop)(us:List aam)(s':aao):Prop:=∃vs H',Inv X χ σ H' s'/\Vals vs us/\Q vs H'
def SP (X:Cx)(χ:List (μ×Obj))(D:Ends)(f:Flow)(s':aao):Prop :=
 match f with
 |.next=>∃σ' H',Inv X χ σ' H' s'/\D.nx σ' H'
 |.brk=>∃σ' H',Inv X χ σ' H' s'/\D.bk σ' H'
 |.cont=>∃σ' H',Inv X χ σ' H' s'/\D.ct σ' H'
 |.ret u=>∃v σ' H',Inv X χ σ' H' s'/\RelV v u/\D.rt v H'
def PE (X:Cx)(e:Expr)(t:TE):Prop :=
 ∀(χ:List (μ×Obj)) (s:aao) (σ:St) (H:Hp) (Q:VK),Inv X χ σ H s->t σ H Q->aaD .aa X.A (eval e .f) (EP X χ σ Q) X.xe s
def PT (X:Cx)(e:Expr)(t:TT):Prop :=
 ∀(χ:List (μ×Obj)) (s:aao) (σ:St) (H:Hp) (Q:Bool->Hp->Prop),Inv X χ σ H s->t σ H Q->aaD .aa X.A (isTrue e .f (eval e .f)) (TP X χ σ Q) X.xe s
def PW (X:Cx)(e:Expr)(t:TT):Prop :=
 ∀(whole:Sem aam) (χ:List (μ×Obj)) (s:aao) (σ:St) (H:Hp) (Q:Bool->Hp->Prop),Inv X χ σ H s->t σ H Q->aaD .aa X.A (isTrue e .f whole) (TP X χ σ Q) X.xe s
def PW.pt (h:PW X e t):PT X e t:=h _
def PA (X:Cx)(es:List Expr)(t:TA):Prop :=
 ∀(pos:Pos) (χ:List (μ×Obj)) (s:aao) (σ:St) (H:Hp) (Q:List V->Hp->Prop),Inv X χ σ H s->t σ H Q->aaD .aa X.A (spliced (abN pos (aaz es .f))) (AP X χ σ Q) X.xe s
def PS (X:Cx)(st:Stmt)(t:TS):Prop :=
 ∀(χ:List (μ×Obj)) (s:aao) (σ:St) (H:Hp) (D:Ends),Inv X χ σ H s->t D σ H->aaD .aa X.A (exec st .f) (SP X χ D) X.xe s
def sQ (X:Cx)(st:List Stmt)(t:TS):Prop :=
 ∀(χ:List (μ×Obj)) (s:aao) (σ:St) (H:Hp) (D:Ends),Inv X χ σ H s->t D σ H->aaD .aa X.A (execs st .f) (SP X χ D) X.xe s
def bz {α:Type}{t:Sem α}{Q L:α->aao->Prop}{M:aeG}{A:abf}{E:aam->aao->Prop}{s:aao}(h:aaD M A t Q E s)(O:∀a s,Q a s->L a s):aaD M A t L E s:=acL h O λ_ _ x=>x
section
variable {X:Cx}
def LJ (i:Nat):TE:=λσ H Q=>∃v,σ[i]?=M (M v)/\Q v H
def tC (v:V):TE:=λ_ H Q=>Q v H
def xX (hN:X.N[i]?=M x)(L:Lf X.env.scope x)(hd:.ai=η:=by decide)(uu:(x==("__classdict__" : Str))=η:=by decide):PE X (.Name x pos) (LJ i):=by
 intro χ s σ H Q I h;let {v,e,h}:=h;let {m,O,hl}:=I.loc;let {u,r,l}:=hl i x v hN e L;have fin:EP X χ σ Q u s:={(v),H,I,r,h};rcases l with⟨hk,Y⟩|⟨hk,c,hc,mY⟩
 ·exact wpAny_Name (wpAny_loadName_local I.ok.kind hk O Y fin) hd
 ·rcases hk with hk|hk
  ·exact wpAny_Name (wpAny_loadName_cell I.ok.kind hk hc mY fin) hd
  ·exact wpAny_Name (wpAny_loadName_free I.ok.kind hk hc mY fin uu) hd
def br {i j pos}:PE X (.Constant (.int i) j pos) (tC (.int i)):=λ_ _ _ H _ I h=>wpAny_Constant_int {.int i,H,I.tok _,{_,rfl},h}
def Ed {b j pos}:PE X (.Constant (.bool b) j pos) (tC (.bl b)):=λ_ _ _ H _ I h=>Constant_bool {.bl b,H,I,rfl,h}
def Mq {j pos}:PE X (.Constant .none j pos) (tC .cI):=λ_ _ _ H _ I h=>Constant_none {.cI,H,I,rfl,h}
def DY {x j pos}:PE X (.Constant (.str x) j pos) (tC (.str x)):=λ_ _ _ H _ I h=>aee {.str x,H,I.tok _,{_,rfl},h}
def Gl (X:Cx)(x:Str):Prop:=X.env.kindOf x=M .globalImplicit
def hZ (I:Inv X χ σ H s)(O:Gl X x)(L:X.mg x=M u)(h:Q u s)
  (hd:.ai=η:=by decide):aaD .aa X.A (eval (.Name x pos) .f) Q E s :=
 Calls.Name_function_global I.ok.kind O (Calls.loadGlobal_global (by rw[I.ok.glob];exact I.mod.glob.keeps I.bk) L h) hd
def eS (I:Inv X χ σ H s)(hg:Gl X x)(Y:X.mg x=ξ)(L:abt x=M u)(h:Q u s)
  (O:x≠"__name__" := by decide) (hd:.ai=η:=by decide):aaD .aa X.A (eval (.Name x pos) .f) Q E s:=by
 let {mb,h1,h2}:=I.mod.blt;exact Calls.Name_function_global I.ok.kind hg (Calls.loadGlobal_builtin (by rw[I.ok.glob];exact I.mod.glob.keeps I.bk) Y (by rw[I.ok.blt];exact h1.keeps I.bk) ((h2 x O).trans L) h) hd
def Iv (O:Gl X x)(L:X.mg x=M u)(r:RelV v u)(hd:.ai=η:=by decide):PE X (.Name x pos) (tC v) :=
 λ_ _ _ H _ I h=>hZ I O L {(v),H,I,r,h} hd
def Iy (hg:Gl X x)(Y:X.mg x=ξ)(L:abt x=M u)(r:RelV v u)(O:x≠"__name__" := by decide)(hd:.ai=η:=by decide):PE X (.Name x pos) (tC v) :=
 λ_ _ _ H _ I h=>eS I hg Y L {(v),H,I,r,h} O hd
variable {ta tb:TE}
def vh (b:Expr)(h:op≠.In)(L:op≠.NotIn):ac4 op b=η:=by
 have Y:(op==CmpOp.In)=η:=by cases op <;> first|rfl|exact Κ rfl h
 have O:(op==CmpOp.NotIn)=η:=by cases op <;> first|rfl|exact Κ rfl L
 cases b <;> simp[ac4,Y,O]
def tB (t:TE):TT:=λσ H Q=>t σ H λx H1=>∃c,x=.bl c/\Q c H1
def Mb (h:PE X e t)(he:∀whole,isTrue e .f whole=(do let v <- whole;aep e.pos;holding [v] (truthy v)):=by intro _;rfl):PT X e (tB t):=by
 intro χ s σ H Q I hw;refine isTrue_plain (bz (h χ s σ H _ I hw) λv s1 L=>?_) (he _);let {x,H1,I1,O,Y}:=L;let {d,rfl,q}:=Y;cases O;exact ab4 {(H1),I1,q}
variable {tA SX:TT}{rest:List Expr}
def Up (t u:TT):TT:=λσ H Q=>t σ H λc H1=>if c=G then u σ H1 Q else Q η H1
def tOr (t u:TT):TT:=λσ H Q=>t σ H λc H1=>if c=G then Q G H1 else u σ H1 Q
def Ui (t:TT):TT:=λσ H Q=>t σ H λc H1=>Q (!c) H1
def pw_and1 (L:PT X a tA):PW X (.BoolOp .And [a] pos) tA:=by
 intro wh χ s σ H Q I h;refine isTrue_and (bz (L χ s σ H Q I h) λc s1 e=>?_);cases c with
 |true=>exact isTrue_and_nil e
 |false=>exact e
def pw_or1 (L:PT X a tA):PW X (.BoolOp .Or [a] pos) tA:=by
 intro wh χ s σ H Q I h;refine isTrue_or (bz (L χ s σ H Q I h) λc s1 e=>?_);cases c with
 |false=>exact isTrue_or_nil e
 |true=>exact e
def pw_and (ha:PT X a tA)(hb:PW X (.BoolOp .And (b::rest) pos) SX):PW X (.BoolOp .And (a::b::rest) pos) (Up tA SX):=by
 intro wh χ s σ H Q I h;refine isTrue_and (bz (ha χ s σ H _ I h) λc s1 L=>?_);let {H1,Y,O}:=L;cases c with
 |true=>exact hb wh χ s1 σ H1 Q Y O
 |false=>exact{(H1),Y,O}
def pw_or (ha:PT X a tA)(hb:PW X (.BoolOp .Or (b::rest) pos) SX):PW X (.BoolOp .Or (a::b::rest) pos) (tOr tA SX):=by
 intro wh χ s σ H Q I h;refine isTrue_or (bz (ha χ s σ H _ I h) λc s1 L=>?_);let {H1,Y,O}:=L;cases c with
 |true=>exact{(H1),Y,O}
 |false=>exact hb wh χ s1 σ H1 Q Y O
def Mc (L:PT X a tA):PT X (.UnaryOp .Not a pos) (Ui tA):=by
 intro χ s σ H Q I h;exact isTrue_not (L χ s σ H (λc H1=>Q (!c) H1) I h)
def Uh (ta tb:TE):TE:=λσ H Q=>ta σ H λx H1=>∃c,x=.bl c/\if c=G then Q (.bl G) H1 else tb σ H1 Q
def PX (ta:TE):TE:=λσ H Q=>ta σ H λx H1=>∃c,x=.bl c/\Q (.bl (!c)) H1
def Mo {op}(h:PE X a t):PE X (.BoolOp op [a] pos) t:=λχ s σ H Q I hw=>BoolOp_one (h χ s σ H Q I hw)
def Qz (ha:PE X a ta)(hb:PE X (.BoolOp .Or (b::rest) pos) tb):PE X (.BoolOp .Or (a::b::rest) pos) (Uh ta tb):=by
 intro χ s σ H Q I h;refine BoolOp_or (bz (ha χ s σ H _ I h) λv s1 VM=>?_);let {x,H1,O,Y,L}:=VM;let {c,rfl,L}:=L;cases Y;refine ab4 ?_;cases c with
 |false=>exact hb χ s1 σ H1 Q O L
 |true=>exact{.bl G,H1,O,rfl,L}
def Mp (Y:PE X a ta):PE X (.UnaryOp .Not a pos) (PX ta):=by
 intro χ s σ H Q I h;refine UnaryOp_ (bz (Y χ s σ H _ I h) λv s1 VL=>?_);let {x,H1,I1,O,L}:=VL;let {c,rfl,L}:=L;cases O;exact not_of (ab4 {.bl (!c),H1,I1,rfl,L})
def tIf (t:TT)(ta tb:TE):TE:=λσ H Q=>t σ H λc H1=>if c=G then ta σ H1 Q else tb σ H1 Q
def DZ {c:Expr}(hc:PT X c tA)(ha:PE X a ta)(Y:PE X b tb):PE X (.IfExp c a b pos) (tIf tA ta tb):=by
 intro χ s σ H Q I h;refine wpAny_IfExp (bz (hc χ s σ H _ I h) λd s1 VJ=>?_);let {H1,O,L}:=VJ;cases d with
 |true=>exact ha χ s1 σ H1 Q O L
 |false=>exact Y χ s1 σ H1 Q O L
end
def dw (K:Ψ)(H:Hp)(a:μ)(xs:List V):Prop :=
 Rd H a (.lst xs) \/
  ∃(o:Obj) (its:Array aam) (n:Nat),K.lookup a=M o/\o.cls=.type "list" /\ o.dict=ξ/\o.data=.seq its n/\its.size<=aaC/\Vals xs its.toList
def uw (K:Ψ)(H:Hp)(a:μ)(xs:List V):Prop :=
 Rd H a (.tup xs) \/
  ∃(o:Obj) (its:Array aam) (n:Nat),K.lookup a=M o/\o.cls=.type "tuple" /\ o.data=.seq its n/\its.size<=aaC/\Vals xs its.toList
def Yp:aam->Option V
 |.none=>M .cI
 |.bool b=>M (.bl b)
 |.int i _=>M (.int i)
 |.str x _=>M (.str x)
 |.bytes b _=>M (.Sj b)
 |.float b _=>M (.X6 b)
 |.ref a=>M (.ref a)
 |.type n=>M (.ty n)
 |_=>ξ
def RelV.abs (r:RelV x u):Yp u=M x:=by
 cases x with
 |cI=>cases r;rfl
 |bl _=>cases r;rfl
 |int _=>let {t,rfl}:=r;rfl
 |str _=>let {t,rfl}:=r;rfl
 |Sj _=>let {t,rfl}:=r;rfl
 |X6 _=>let {t,rfl}:=r;rfl
 |ref _=>cases r;rfl
 |ty _=>cases r;rfl
def RelV.inj (r:RelV x u)(q:RelV y u):x=y:=aaZ (r.abs.symm.trans q.abs)
def Vals.inj:∀{xs ys:List V} {us:List aam},Vals xs us->Vals ys us->xs=ys:=by
 intro xs ys us h
 induction h generalizing ys with
 |nil =>
  intro q;cases q;rfl
 |cons r t ih =>
  intro q;cases q with
  |cons L t'=>rw[r.inj L,ih t']
section
variable {X:Cx}{σ:St}{H:Hp}{a:μ}{xs ys:List V}
def dw.of (h:H a=M (.lst xs)):dw K H a xs:=.inl (.inl h)
def uw.of (h:H a=M (.tup xs)):uw K H a xs:=.inl (.inl h)
def Inv.list (I:Inv X χ σ H s)(h:dw X.K H a xs):∃its:List aam,Vals xs its/\PlainL s.heap a its.toArray/\xs.length<=aaC:=by
 rcases h with h|⟨o,its,n,hk,hc,hd,hs,hz,r⟩
 ·let {z,its,n,r,e}:=h.ok I.bh;exact{its,r,{_,n,e,rfl,rfl,rfl},z}
 ·refine{its.toList,r,{o,n,I.zV a o hk,hc,hd,by simpa using hs},?_}
  have e:=r.length;simp only[aau]at e;lia
def Inv.tuple (I:Inv X χ σ H s)(h:uw X.K H a xs):∃its:List aam,Vals xs its/\IsTup s.heap a its.toArray/\xs.length<=aaC:=by
 rcases h with h|⟨o,its,n,hk,hc,hs,hz,r⟩
 ·let {z,its,r,p}:=h.ok I.bh;exact{(its),r,p,z}
 ·refine{its.toList,r,{o,I.zV a o hk,hc,n,by simpa using hs},?_}
  have e:=r.length;simp only[aau]at e;lia
def Inv.ER (I:Inv X χ σ H s)(h:dw X.K H a xs)(h':dw X.K H a ys):xs=ys:=by
 obtain⟨its,r,⟨o,n,e,_,_,d⟩,_⟩:=I.list h;obtain⟨its',O,⟨o',n',L,_,_,d'⟩,_⟩:=I.list h';rw[e]at L;cases L;rw[d]at d';injection d' with Y _
 have:its=its':=by simpa using Μ Array.toList Y
 subst this;exact r.inj O
end
abbrev Cx.ki (X:Cx)(E:aam->aao->Prop):Cx:={X with xe:=E}
abbrev Cx.qu (X:Cx):Cx:=X.ki λ_ _=>False
def Cx.Ok.ki {X:Cx}(ok:X.Ok)(E:aam->aao->Prop):(X.ki E).Ok :=
 {(ok.mod),ok.kind,ok.glob,ok.blt,ok.above,ok.inj,ok.has,ok.Ki,ok.hd,ok.frames,ok.Kw,ok.Hh,ok.bs,ok.yS,ok.qP,ok.q_,ok.jF,ok.FI}
def Cx.Ok.eM {X:Cx}{E:aam->aao->Prop}(ok:(X.ki E).Ok):X.Ok :=
 {(ok.mod),ok.kind,ok.glob,ok.blt,ok.above,ok.inj,ok.has,ok.Ki,ok.hd,ok.frames,ok.Kw,ok.Hh,ok.bs,ok.yS,ok.qP,ok.q_,ok.jF,ok.FI}
section
variable {X:Cx}{σ:St}{H:Hp}
def Inv.ki (I:Inv X χ σ H s)(E:aam->aao->Prop):Inv (X.ki E) χ σ H s:={I.ok.ki E,I.os,I.bare,I.base,I.loc,I.cell,I.free,I.dQ,I.pin,I.bh,I.len}
def Inv.eM (I:Inv (X.ki E) χ σ H s):Inv X χ σ H s:={(I.ok.eM),I.os,I.bare,I.base,I.loc,I.cell,I.free,I.dQ,I.pin,I.bh,I.len}
def SP.eM (h:SP (X.ki E) χ D f s'):SP X χ D f s':=by
 cases f with
 |next=>let {σ',H',I,q}:=h;exact{(σ'),H',I.eM,q}
 |brk=>let {σ',H',I,q}:=h;exact{(σ'),H',I.eM,q}
 |cont=>let {σ',H',I,q}:=h;exact{(σ'),H',I.eM,q}
 |ret u=>let {v,σ',H',I,r,q}:=h;exact{(v),σ',H',I.eM,r,q}
def PT.qu (h:PT X.qu e t):PT X e t:=λχ s σ H Q I hw =>
 acL (h χ s σ H Q (I.ki _) hw) (λ_ _ Fq=>by let {H',L,q}:=Fq;exact{(H'),L.eM,q}) λ_ _ z=>abX z
def sQ.qu {st:List Stmt}{t:TS}(h:sQ X.qu st t):sQ X st t:=λχ s σ H D I hw =>
 acL (h χ s σ H D (I.ki _) hw) (λ_ _ q=>q.eM) λ_ _ z=>abX z
end
section
variable {X:Cx}{st:Stmt}{rest:List Stmt}{t u:TS}{te:TE}
def PZ:TS:=λD σ H=>D.nx σ H
def Ue (t u:TS):TS:=λD σ H=>t {D with nx:=u D} σ H
def zv:sQ X [] PZ:=λ_ _ σ H _ I h=>ads {(σ),H,I,h}
def c6 (O:PS X st t)(L:sQ X rest u):sQ X (st::rest) (Ue t u):=by
 intro χ s σ H D I h;refine wpAny_execs_cons (bz (O χ s σ H {D with nx:=u D} I h) λf s1 q=>?_)
 cases f with
 |next =>
  let {σ',H',Y,q}:=q;exact L χ s1 σ' H' D Y q
 |ret v=>exact q
 |brk=>exact q
 |cont=>exact q
def jj (L:PS X st t):sQ X [st] t:=by
 intro χ s σ H D I h;refine wpAny_execs_cons (bz (L χ s σ H D I h) λf s1 q=>?_);cases f with
 |next=>exact ads q
 |ret v=>exact q
 |brk=>exact q
 |cont=>exact q
def Inv.quiet (I:Inv X χ σ H s):interactive .f=η:=by simp[interactive,I.ok.kind]
def P1 (te:TE):TS:=λD σ H=>te σ H λ_ H1=>D.nx σ H1
def nN (he:PE X e te)(hs:acD e ξ pos.line .f=pure η:=by rfl):PS X (.Expr e pos) (P1 te):=by
 intro χ s σ H D I h;exact wpAny_Expr_any (bz (he χ s σ H _ I h) λv s1 Fp=>by let {x,H1,O,Y,L}:=Fp;exact{(σ),H1,O,L}) I.quiet hs
def Ug (te:TE):TS:=λD σ H=>te σ H D.rt
def lY (he:PE X e te):PS X (.Return (M e) pos) (Ug te):=by
 intro χ s σ H D I h;exact wpAny_Return_some (bz (he χ s σ H _ I h) λv s1 Fo=>by let {x,H1,Y,L,O}:=Fo;exact{(x),σ,H1,Y,L,O})
def Uk (c:TT)(t u:TS):TS:=λD σ H=>c σ H λb H1=>if b=G then t D σ H1 else u D σ H1
def KA {c:Expr}{a b:List Stmt}{tc:TT}(hc:PT X c tc)(ha:sQ X a t)(Y:sQ X b u):PS X (.If c a b pos) (Uk tc t u):=by
 intro χ s σ H D I h;refine wpAny_If (bz (hc χ s σ H _ I h) λd s1 VI=>?_);let {H1,O,L}:=VI;cases d with
 |true=>exact ha χ s1 σ H1 D O L
 |false=>exact Y χ s1 σ H1 D O L
def LK:TS:=λ_ _ _=>False
def Bn :sQ X sts LK:=λ_ _ _ _ _ _ h=>h.elim
end
abbrev TG:=V->St->Hp->(St->Hp->Prop)->Prop
abbrev Lg:=List V->St->Hp->(St->Hp->Prop)->Prop
def PG (X:Cx)(target:Expr)(t:TG):Prop :=
 ∀(χ:List (μ×Obj)) (s:aao) (σ:St) (H:Hp) (v:V) (u:aam) (Q:St->Hp->Prop),Inv X χ σ H s->RelV v u->t v σ H Q ->
  aaD .aa X.A (assign target .f u) (λ_ s'=>∃σ' H',Inv X χ σ' H' s'/\Q σ' H') X.xe s
def Li (X:Cx)(ts:List Expr)(t:Lg):Prop :=
 ∀(χ:List (μ×Obj)) (s:aao) (σ:St) (H:Hp) (vs:List V) (us:List aam) (Q:St->Hp->Prop),Inv X χ σ H s->Vals vs us->t vs σ H Q ->
  aaD .aa X.A (assignInOrder ((acM ts .f).map (·.2)) us) (λ_ s'=>∃σ' H',Inv X χ σ' H' s'/\Q σ' H') X.xe s
abbrev OW:=V->V->V->Hp->(Hp->Prop)->Prop
def SD (X:Cx)(t:OW):Prop :=
 ∀(χ:List (μ×Obj)) (s:aao) (σ:St) (H:Hp) (o i v:V) (ov iv u:aam) (Q:Hp->Prop),Inv X χ σ H s->RelV o ov->RelV i iv->RelV v u->t o i v H Q ->
  aaD .aa X.A (setItem ov iv u) (λ_ s'=>∃H',Inv X χ σ H' s'/\Q H') X.xe s
section
variable {X:Cx}
def Ah (i:Nat):TG:=λv σ H Q=>Q (σ.set i (M v)) H
def zH (Y:X.N.Nodup)(hi:X.N[i]?=M x)(L:Loc X.env.scope x)(O:X.fn x=G\/X.env.scope.names.lookup x=M .local:=by first|exact .inl rfl|exact .inr rfl|assumption):PG X (.Name x pos) (Ah i):=by
 intro χ s σ H v u Q I r h;exact wpAny_assign_Name (oE I Y hi L r (λs' I'=>{_,H,I',h}) O)
def Oe:Lg:=λvs σ H Q=>vs=[]/\Q σ H
def FF (t:TG)(u:Lg):Lg:=λvs σ H Q=>∃v r,vs=v::r/\t v σ H λσ' H'=>u r σ' H' Q
def Ip:Li X [] Oe:=by
 intro χ s σ H vs us Q I r h;let {e,h}:=h;subst e;cases r;exact assignInOrder_nil {(σ),H,I,h}
def DU (h1:PG X e t)(h2:Li X es u)
  (hs:(acM (e::es) .f).map (·.2)=assign e .f::(acM es .f).map (·.2):=by rfl):Li X (e::es) (FF t u):=by
 intro χ s σ H vs us Q I r h;let {v,vr,e1,h}:=h;subst e1;cases r with
 |cons r O =>
  rw[hs];refine assignInOrder_cons (bz (h1 χ s σ H _ _ _ I r h) λ_ s1 VH=>?_);let {L,H1,I1,Y}:=VH;exact h2 χ s1 L H1 _ _ Q I1 O Y
def X2 (K:Ψ)(n:Nat)(t:Lg):TG:=λv σ H Q=>∃a xs,v=.ref a/\uw K H a xs/\xs.length=n/\t xs σ H Q
def Ml (hc:X.calm=G)(h:Li X es t)
  (hn:(acM es .f).length=n:=by rfl) (qT:(acM es .f).findIdx? (·.1)=ξ:=by rfl):PG X (.Tuple es k pos) (X2 X.K n t):=by
 intro χ s σ H v u Q I r hw;let {a,xs,e1,Y,hl,hw}:=hw;subst e1;cases r;let {its,rv,O,hz}:=I.tuple Y;refine assign_Tuple_tuple (I.ok.hd hc) O (by simp[hn,<- hl,rv.length]) qT λh' L=>?_
 have I1:Inv X χ σ H {s with heap:=h'}:=I.kept (t':=s.toks) λb o e=>L b o (aaN (aaw e)) e
 exact h χ _ σ H xs _ Q I1 (by simpa using rv) hw
def X3 (to ti:TE)(t:OW):TG:=λv σ H Q=>to σ H λo H1=>ti σ H1 λi O=>t o i v O λL=>Q σ L
def tH {o i:Expr}{to ti:TE}{t:OW}(ho:PE X o to)(hi:PE X i ti)(hs:SD X t)
  (ha:∀v,assign (.Subscript o i pos) .f v=(do
   let ov <- holding [v] (eval o .f)
   let iv <- holding [v,ov] (eval i .f)
   aep pos
   holding [v,ov,iv] (setItem ov iv v)
   release [v,ov,iv] []):=by intro _;rfl):PG X (.Subscript o i pos) (X3 to ti t):=by
 intro χ s σ H v u Q I r h;rw[ha];refine aal (abl (bz (ho χ s σ H _ I h) λov s1 VG=>?_));let {x,H1,I1,O,q1}:=VG;refine aal (abl (bz (hi χ s1 σ H1 _ I1 q1) λiv s2 VF=>?_));let {y,H2,I2,L,q2}:=VF;refine aal (adn (aal (abl (bz (hs χ s2 σ H2 x y v ov iv u _ I2 O L r q2) λ_ s3 VE=>?_))));let {H3,I3,Y}:=VE;exact wpAny_release {(σ),H3,I3,Y}
def P2 (te:TE)(g:TG):TS:=λD σ H=>te σ H λx H1=>g x σ H1 D.nx
def oU (he:PE X e te)(Y:PG X tg g)(hs:swapsWithSole [tg] e pos.line .f=pure η:=by rfl)(hw:swappedStores [tg] e .f=pure ξ:=by rfl)
  (h1:(acM [tg] .f).map (·.2)=[assign tg .f]:=by rfl):PS X (.Assign [tg] e pos) (P2 te g):=by
 intro χ s σ H D I h;refine wpAny_Assign_stores (bz (he χ s σ H _ I h) λv s1 VD=>?_) hs hw;let {x,H1,I1,L,O}:=VD;rw[h1];exact bz (Y χ s1 σ H1 x v _ I1 L O) λ_ s2 q=>q
def lX (hN:X.N.Nodup)(hi:X.N[i]?=M x)(Y:Loc X.env.scope x)(he:PE X e te)(hs:acD e (M (.Name x pos')) pos.line .f=pure η:=by rfl)(hf:X.fn x=G\/X.env.scope.names.lookup x=M .local:=by first|exact .inl rfl|exact .inr rfl|assumption):
  PS X (.Assign [.Name x pos'] e pos) (P2 te (Ah i)):=by
 intro χ s σ H D I h;refine wpAny_Assign_Name (bz (he χ s σ H _ I h) λv s1 VC=>?_) hs;let {y,H1,I1,L,O}:=VC;exact oE I1 hN hi Y L (λs2 I2=>{_,H1,I2,O}) hf
end
section
variable {X:Cx}
def LI (c:TT)(tb:TS):TS:=λD σ H=>∃W:Nat->St->Hp->Prop,(∃m,W m σ H)/\∀m σ H,W m σ H ->
 c σ H λb H1=>if b=G then ∃N:St->Hp->Prop,(∀σ' H',N σ' H'->∃L,L<m/\W L σ' H')/\tb {D with nx:=N,ct:=N,bk:=D.nx} σ H1 else D.nx σ H1
def DI {c:Expr}{body:List Stmt}{tc:TT}{tb:TS}(hp:PassesOwn .aa X.A .f X.xe)(hc:PT X c tc)(hb:sQ X body tb):PS X (.While c body [] pos) (LI tc tb):=by
 intro χ s σ H D I h;obtain⟨W,⟨m0,w0⟩,turn⟩:=h;refine wpAny_While (codeAny_whileLoop (λn s'=>∃σ' H',Inv X χ σ' H' s'/\W n σ' H') ?_ m0 {(σ),H,I,w0});rintro n s1 ⟨O,H1,I1,w1⟩;refine acZ hp (bz (hc χ s1 O H1 _ I1 (turn n O H1 w1)) λb s2 VB=>?_);let {H2,I2,q2}:=VB;cases b with
 |true =>
  let {N,hN,q2}:=q2;rw[ω rfl];refine acZ hp (bz (hb χ s2 O H2 _ I2 q2) λf s3 q3=>?_);cases f with
  |next =>
   let {L,Y,I3,n3}:=q3;let {m',hm,w3}:=hN L Y n3;exact{(m'),hm,L,Y,I3,w3}
  |cont =>
   let {L,Y,I3,n3}:=q3;let {m',hm,w3}:=hN L Y n3;exact{(m'),hm,L,Y,I3,w3}
  |brk=>exact q3
  |ret v=>exact q3
 |false =>
  rw[Δ acb];exact ads {(O),H2,I2,q2}
end
structure It where
 go:Nat->Hp->Prop
 PD:Nat->Hp->V->Hp->Prop
 stop:Nat->Hp->Prop
def eV (X:Cx)(χ:List (μ×Obj))(H:Hp)(b:μ):Prop :=
 H b=ξ/\b≠X.env.locals/\b∉X.fs/\(b∈X.ex\/X.s₀.heap.objs.size<=b)/\(∀x c,X.env.cells.lookup x=M c->c≠b)/\∀p∈X.pn++χ,p.1≠b
def Inv.t_ {X:Cx}{χ:List (μ×Obj)}{σ:St}{H H':Hp}{s:aao}{b:μ}(I:Inv X χ σ H s)(L:.e<=b)(Y:H' b=ξ):eV X χ H' b:=by
 refine{Y,acp (aaV I.lt L),I.QI L,.inr (aa3 I.sz L),λx c e z=>?_,λp O z=>?_}
 ·let {v,q}:=I.cell x c e;exact Κ (aaV q.lt (by rw[z];exact L)) (ab7 _)
 ·exact Κ (aaV (aaw (I.pin p O).1) (by rw[z];exact L)) (ab7 _)
structure Turn (P:aas)(w:aaG)(K:Ψ)(tg:Expr)(Ja:It)(fp:List μ)(it:μ)(tn:Nat->Heap->Prop):Prop where
 mem:it∈fp
 obj:∀i h,tn i h->∀b∈fp,∃o,h.get? b=M o/\∀v,o.data≠.cell v
 keep:∀i h h',tn i h->(∀b∈fp,∀o,h.get? b=M o->h'.get? b=M o)->tn i h'
 item:∀(X:Cx),X.prog=P->X.w=w->X.K=K->X.calm=G->∀(i:Nat) (χ:List (μ×Obj)) (s:aao) (σ:St) (H:Hp) (E:aam->aao->Prop),Inv X χ σ H s->(∀b∈fp,eV X χ H b)->tn i s.heap->Ja.go i H ->
  aaD (δ P w) X.A (acv (.ref it)) (λr s1=>∃u,r=M u /\
   aaD (δ P w) X.A (letOwnedTupleGo tg (.ref it) u) (λ_ s2=>∃x H',Inv X χ σ H' s2/\RelV x u/\Ja.PD i H x H'/\tn (i+1) s2.heap/\∀b∈fp,H' b=ξ) E s1) E s
 done:∀(X:Cx),X.prog=P->X.w=w->X.K=K->X.calm=G->∀(i:Nat) (χ:List (μ×Obj)) (s:aao) (σ:St) (H:Hp) (E:aam->aao->Prop),Inv X χ σ H s->(∀b∈fp,eV X χ H b)->tn i s.heap->Ja.stop i H ->
  aaD (δ P w) X.A (acv (.ref it)) (λr s1=>r=ξ/\Inv X χ σ H s1) E s
 self:∀(A:abf) (i:Nat) (s:aao) (Q:aam->aao->Prop) (E:aam->aao->Prop),tn i s.heap->Q (.ref it) s->aaD (δ P w) A (pyIter (.ref it)) Q E s
abbrev TI:=St->Hp->(It->Hp->Prop)->Prop
def SF (X:Cx)(χ:List (μ×Obj))(σ:St)(tg:Expr)(R:It->Hp->Prop)(CF:aam)(s2:aao):Prop :=
 ∃(it:μ) (fp:List μ) (tn:Nat->Heap->Prop) (J:It) (H':Hp),CF=.ref it/\Inv X χ σ H' s2/\Turn X.prog X.w X.K tg J fp it tn/\tn 0 s2.heap/\(∀b∈fp,eV X χ H' b)/\R J H'
def PI (X:Cx)(tg iter:Expr)(wi:TI):Prop :=
 ∀(χ:List (μ×Obj)) (s:aao) (σ:St) (H:Hp) (R:It->Hp->Prop),Inv X χ σ H s->wi σ H R ->
  aaD .aa X.A (eval iter .f) (λv s1=>aaD .aa X.A (pyIter v) (SF X χ σ tg R) X.xe s1) X.xe s
def Ad (ho:s.heap.get? it=M o)(hc:o.cls=.type n)(hd:o.data=.fields vs)
  (Y:["enumerate","zip","dict_itemiterator","dict_reverseitemiterator","odict_iterator","itertools.zip_longest","itertools.pairwise"].contains n=η) (O:Q () s):aaD L A (letOwnedTupleGo tg (.ref it) u) Q E s:=by
 unfold letOwnedTupleGo;cases tg <;> first
  |exact aap O
  | (cases u <;> first
    |exact aap O
    | (refine aal (wpAny_load ho ?_)
       rw[hc,hd];show aaD L A (if (["enumerate","zip","dict_itemiterator","dict_reverseitemiterator","odict_iterator","itertools.zip_longest","itertools.pairwise"].contains n&&vs[0]?==M (rawInt _))=G then _ else _) Q E s
       rw[Δ (by intro h;rw[Y,Bool.false_and]at h;cases h)]
       exact aap O))
def TV (K:Ψ)(a:μ):It :=
 {λi H=>∃xs x,dw K H a xs/\xs[i]?=M x,λi H x H'=>H'=H/\∀xs,dw K H a xs->xs[i]?=M x,λi H=>∃xs,dw K H a xs/\xs.length<=i}
def SI (lo:Int)(n:Nat):It:={λi _=>i<n,λi H x H'=>H'=H/\x=.int (lo+i),λi _=>n<=i}
def AV (a it:μ):Turn P w K tg (TV K a) [it] it (λi h=>h.IsListIter it a i) where
 mem:=by simp
 obj:=λi h st b L=>by
  have e:b=it:=by simpa using L
  subst e;let {o,e,c,d}:=st;exact{o,e,λv z=>by rw[d]at z;cases z}
 keep:=λi h h' st k=>st.at λo e=>k it .c o e
 item:=by
  intro X hP hw hK hc i χ s σ H E I Y st hg;subst hP hw hK;let {xs,x,O,hx}:=hg;let {its,rv,p,hz}:=I.list O;let {u,hu,ru}:=rv.get hx;let {f0,f1,f2,f3,f4,f5}:=Y it .c
  refine wpAny_pyNext_list_item st p.isList (x:=u) (by simpa using hu) λh' aI sb=>?_
  have I1:Inv X χ σ H {s with heap:=h'}:=I.turned (t':=s.toks) (λb o L e=>(sb.2 b L).trans e) f0 f1 f3 f4 f5
  let {o,e,c,d}:=id aI;exact{u,rfl,Ad (s:={s with heap:=h'}) e c d .b {x,H,I1,ru,{rfl,λys hy=>by rw[I.ER hy O];exact hx},aI,λb L=>(Y b L).1}}
 done:=by
  intro X hP hw hK hc i χ s σ H E I Y st hg;subst hP hw hK;let {xs,O,hx}:=hg;let {its,rv,p,hz}:=I.list O;let {f0,f1,f2,f3,f4,f5}:=Y it .c
  have hl:=rv.length;exact wpAny_pyNext_list_end (I.ok.hd hc) st p.isList (by simp;lia) λh' eb=>{rfl,I.turned (t':=s.toks) (λb o L e=>eb b o L e) f0 f1 f3 f4 f5}
 self:=λ_ _ _ _ _ st h=>wpAny_pyIter_listiter st h
def xq (it:μ)(lo:Int)(n:Nat):Turn P w K tg (SI lo n) [it] it (λi h=>IsRangeIter h it (lo+(i:Nat)*1) ((n:Int)-(i:Nat)) 1) where
 mem:=by simp
 obj:=λi h st b L=>by
  have e:b=it:=by simpa using L
  subst e;exact⟨_,st,λv z=>by
   have z':Data.fields _=aeM v:=z;cases z'⟩
 keep:=λi h h' st k=>k it .c _ st
 item:=by
  intro X hP hw hK hc i χ s σ H E I O st Y;subst hP hw hK;let {f0,f1,f2,f3,f4,f5}:=O it .c
  have W:=Walks.range (prog:=X.prog) (w:=X.w) (I.ok.hd hc) it lo 1 n;refine W.item i s _ _ Y st λv h' tk hv aI kk=>?_;let {t,rfl}:=hv;have I1:Inv X χ σ H {s with heap:=h',toks:=tk}:=I.turned (λb o L e=>kk b o (by simpa using L) e) f0 f1 f3 f4 f5
  refine{_,rfl,Ad (s:={s with heap:=h',toks:=tk}) (n:="range_iterator") aI rfl rfl .b {.int (lo+i),H,I1,{t,?_},{(rfl),rfl},aI,λb L=>(O b L).1}}
  rw[Int.mul_one]
 done:=by
  intro X hP hw hK hc i χ s σ H E I O st Y;subst hP hw hK;let {f0,f1,f2,f3,f4,f5}:=O it .c
  exact wpAny_pyNext_range_end (I.ok.hd hc) st (by have:n<=i:=Y;lia) λh' eb=>{rfl,I.turned (t':=s.toks) (λb o L e=>eb b o L e) f0 f1 f3 f4 f5}
 self:=λ_ _ _ _ _ st h=>wpAny_pyIter_rangeiter st h
section
variable {X:Cx}
def Rc (K:Ψ)(tl:TE):TI:=λσ H R=>tl σ H λx H1=>∃a,x=.ref a/\(∃xs,dw K H1 a xs)/\R (TV K a) H1
def zG (hl:PE X l tl):PI X tg l (Rc X.K tl):=by
 intro χ s σ H R I h;refine bz (hl χ s σ H _ I h) λv s1 VA=>?_;let {x,H1,L,O,Y}:=VA;obtain⟨a,e,⟨xs,hq⟩,q⟩:=Y;subst e;cases O;let {its,rv,p,hz}:=L.list hq;refine ael p.isList ?_;refine{s1.heap.objs.size,[s1.heap.objs.size],_,_,H1,rfl,L.kept (t':=s1.toks) λb o e=>aar _ e,AV a _,{_,aaU _ rfl,rfl,rfl},λb hb=>?_,q};have e:b=s1.heap.objs.size:=by simpa using hb
 subst e;exact L.t_ (aaq _) (L.bh.fresh (aaq _))
def uU {χ:List (μ×Obj)}{σ:St}{H:Hp}{s:aao}{R:It->Hp->Prop}{E:aam->aao->Prop}{lo hi:Int}{t u v:Tok}{L:Nat}(I:Inv X χ σ H s)(h1:-(2 ^ 62)<=lo)(h2:lo<2 ^ 62)(h3:-(2 ^ 62)<=hi)(h4:hi<2 ^ 62)
  (q:R (SI lo (hi-lo).toNat) H):aaD .aa X.A (pyIter (.ref .e)) (SF X χ σ tg R) E {s with heap:=s.heap.push {cls:=.type "range",data:=.fields #[.int lo t,.int hi u,.int 1 v]},toks:=L}:=by
 refine wpAny_pyIter_range (IsRange.new ..) (small_one h1 h2 h3 h4) ?_;have O:Inv X χ σ H {s with heap:=s.heap.push {cls:=.type "range",data:=.fields #[.int lo t,.int hi u,.int 1 v]},toks:=L}:=I.kept λb o e=>aar _ e
 refine⟨(s.heap.push {cls:=.type "range",data:=.fields #[.int lo t,.int hi u,.int 1 v]}).objs.size,[(s.heap.push {cls:=.type "range",data:=.fields #[.int lo t,.int hi u,.int 1 v]}).objs.size],_,_,H,rfl,
  O.kept (t':=L) λb o e=>aar _ e,xq _ lo (hi-lo).toNat,?_,λb Y=>?_,q⟩
 ·have e1:lo+((0:Nat):Int)*1=lo:=by simp
  have e2:(((hi-lo).toNat:Nat):Int)-((0:Nat):Int)=adC lo hi 1:=by rw[rangeSize_one];split <;> lia
  show IsRangeIter _ _ (lo+((0:Nat):Int)*1) ((((hi-lo).toNat:Nat):Int)-((0:Nat):Int)) 1;rw[e1,e2];exact aaU _ rfl
 ·have e:b=(s.heap.push {cls:=.type "range",data:=.fields #[.int lo t,.int hi u,.int 1 v]}).objs.size:=by simpa using Y
  subst e;exact O.t_ (aaq _) (O.bh.fresh (aaq _))
def Rb (ta:TA):TI:=λσ H R=>ta σ H λvs H1=>∃j:Int,vs=[.int j]/\-(2 ^ 62)<=j/\j<2 ^ 62/\R (SI 0 j.toNat) H1
def Ra (ta:TA):TI:=λσ H R=>ta σ H λvs H1=>∃i j:Int,vs=[.int i,.int j]/\(-(2 ^ 62)<=i/\i<2 ^ 62/\-(2 ^ 62)<=j/\j<2 ^ 62)/\R (SI i (j-i).toNat) H1
def Bu {a:Expr}{ta:TA}{p pos:Pos}(hg:Gl X "range")(hm:X.mg "range" = ξ)(ha:PA X [a] ta)(hs:aaz [a] .f=[(η,eval a .f)]:=by rfl):PI X tg (.Call (.Name "range" p) [a] [] pos) (Rb ta):=by
 intro χ s σ H R I h;refine Call_ (eS I hg hm boot_range (abB (bz (ha pos χ s σ H _ I h) λus s1 Vz=>?_) hs rfl));let {vs,H1,I1,Y,L}:=Vz;let {j,e,L,q2,q}:=L;subst e;cases Y with
 |cons r O =>
  cases O;let {t,rfl}:=r;exact call_range_1 (uU I1 .a .a L q2 (by simpa using q))
def rK {a b:Expr}{ta:TA}{p pos:Pos}(hg:Gl X "range")(hm:X.mg "range" = ξ)(ha:PA X [a,b] ta)(hs:aaz [a,b] .f=[(η,eval a .f),(η,eval b .f)]:=by rfl)(vD:aaz [b] .f=[(η,eval b .f)]:=by rfl) :
  PI X tg (.Call (.Name "range" p) [a,b] [] pos) (Ra ta):=by
 intro χ s σ H R I h;refine Call_ (eS I hg hm boot_range (abB (bz (ha pos χ s σ H _ I h) λus s1 Vy=>?_) (by rw[hs,vD]) (by rw[vD];rfl)))
 let {vs,H1,I1,Y,O}:=Vy;obtain⟨i,j,e,⟨O,q2,q3,q4⟩,q⟩:=O;subst e;cases Y with
 |cons r L =>
  cases L with
  |cons r' L =>
   cases L;let {t,rfl}:=r;let {t',rfl}:=r';exact call_range_2 (uU I1 O q2 q3 q4 q)
def Ul (wi:TI)(g:TG)(tb:TS):TS:=λD σ H=>wi σ H λJ H1=>∃W:Nat->Nat->St->Hp->Prop,(∃m,W 0 m σ H1)/\∀i m σ H,W i m σ H ->
 (J.stop i H/\D.nx σ H)\/(J.go i H/\∃N:St->Hp->Prop,(∀σ' H',N σ' H'->∃O,O<m/\W (i+1) O σ' H')/\∀x H',J.PD i H x H'->g x σ H' λL Y=>tb {D with nx:=N,ct:=N,bk:=D.nx} L Y)
def oV (fp:List μ)(h:Heap):List (μ×Obj):=fp.filterMap λb=>(h.get? b).map λo=>(b,o)
def g6 {fp:List μ}{h:Heap}{b:μ}{o:Obj}(L:b∈fp)(e:h.get? b=M o):(b,o)∈oV fp h:=adw.mpr {b,L,by rw[e];rfl}
def BC {fp:List μ}{h:Heap}{p:μ×Obj}(L:p∈oV fp h):p.1∈fp/\h.get? p.1=M p.2:=by
 let {b,O,e}:=adw.mp L;cases q:h.get? b with
 |none=>rw[q]at e;cases e
 |some o =>
  rw[q]at e;have Y:(b,o)=p:=aaZ e;subst Y;exact{(O),q}
def Inv.pinned (I:Inv X χ σ H s)(hf:∀b∈fp,eV X χ H b)(ho:∀b∈fp,∃o,s.heap.get? b=M o/\∀v,o.data≠.cell v):Inv X (χ++oV fp s.heap) σ H s :=
 I.nP λp Y=>(aaT.mp Y).elim (λz=>I.pin p (aa_ _ z)) λz=>by
  let {L,e}:=BC z;let {f0,f1,f2,_x}:=hf p.1 L;let {o,O,d}:=ho p.1 L;rw[e]at O;cases O;exact{(e),f0,f1,f2,d}
def Inv.km (I:Inv X (χ++O) σ H s):Inv X χ σ H s:=I.nP λp L=>I.pin p (aa_ _ (abW _ L))
def DJ (hp:PassesOwn .aa X.A .f X.xe)(hc:X.calm=G)(hi:PI X tg iter wi)(hg:PG X tg g)(Y:sQ X body tb)
  (hs:∀x,abu iter .f x=pure x:=by intro _;rfl):PS X (.For tg iter body [] pos) (Ul wi g tb):=by
 intro χ s σ H D I h;refine wpAny_For (bz (hi χ s σ H _ I h) λv s1 h1=>bz h1 λCF s2 h2=>?_) hs;obtain⟨it,fp,tn,J,H2,e,I2,T,iu,f2,W,⟨m0,w0⟩,turn⟩:=h2;subst e;have xw:∀{H':Hp},(∀b∈fp,H' b=ξ)->∀b∈fp,eV X χ H' b:=λhn b Y=>{hn b Y,(f2 b Y).2};refine codeAny_forLoop_any (λn s'=>∃i σ' H',Inv X χ σ' H' s'/\tn i s'.heap/\(∀b∈fp,H' b=ξ)/\W i n σ' H') ?_ m0 {0,σ,H2,I2,iu,λb Y=>(f2 b Y).1,w0};rintro n s3 ⟨i,O,H3,I3,qr,RY,w3⟩;rcases turn i n O H3 w3 with⟨stop,qn⟩|⟨go,N,hN,step⟩
 ·refine acZ hp (bz (T.done X rfl rfl rfl hc i χ s3 O H3 X.xe I3 (xw RY) qr stop) λr s4 Vx=>?_);let {hr,I4}:=Vx;subst hr;exact ads {(O),H3,I4,qn}
 ·refine acZ hp (bz (T.item X rfl rfl rfl hc i χ s3 O H3 X.xe I3 (xw RY) qr go) λr s4 Vw=>?_);let {u,hr,h4}:=Vw;subst hr;refine acZ hp (bz h4 λ_ s5 Vv=>?_);let {x,H5,I5,r5,y5,G5,X4}:=Vv;have Yw:=I5.pinned (xw X4) (T.obj _ _ G5);refine acZ hp (bz (hg _ s5 O H5 x u _ Yw r5 (step x H5 y5)) λ_ s6 Vu=>?_);let {σ6,H6,I6,q6}:=Vu;refine acZ hp (bz (Y _ s6 σ6 H6 _ I6 q6) λf s7 q7=>?_);have again:∀{L:St} {H7:Hp},Inv X (χ++oV fp s5.heap) L H7 s7->N L H7->∃m,m<n/\∃i σ' H',Inv X χ σ' H' s7/\tn i s7.heap/\(∀b∈fp,H' b=ξ)/\W i m σ' H':=λ{L H7} I7 n7=>by
   let {m',hm,w7}:=hN L H7 n7;refine{m',hm,i+1,L,H7,I7.km,T.keep _ _ _ G5 λb Y o e=>(I7.pin (b,o) (aa_ _ (aa_ _ (g6 Y e)))).1,λb Y=>?_,w7};let {o,e,d}:=T.obj _ _ G5 b Y;exact(I7.pin (b,o) (aa_ _ (aa_ _ (g6 Y e)))).2.1
  cases f with
  |next=>let {L,H7,I7,n7}:=q7;exact again I7 n7
  |cont=>let {L,H7,I7,n7}:=q7;exact again I7 n7
  |brk=>let {L,H7,I7,q7}:=q7;exact{(L),H7,I7.km,q7}
  |ret v=>let {x7,L,H7,I7,r7,q7}:=q7;exact{(x7),L,H7,I7.km,r7,q7}
end
abbrev R2:=V->V->Hp->VK->Prop
def j_ (X:Cx)(f:aam->aam->Sem aam)(r:R2):Prop :=
 ∀(χ:List (μ×Obj)) (s:aao) (σ:St) (H:Hp) (x y:V) (v u:aam) (Q:VK),Inv X χ σ H s->RelV x v->RelV y u->r x y H Q ->
  aaD .aa X.A (f v u) (EP X χ σ Q) X.xe s
def Ss (X:Cx)(f:aam->Sem aam)(r:V->Hp->VK->Prop):Prop :=
 ∀(χ:List (μ×Obj)) (s:aao) (σ:St) (H:Hp) (x:V) (v:aam) (Q:VK),Inv X χ σ H s->RelV x v->r x H Q ->
  aaD .aa X.A (f v) (EP X χ σ Q) X.xe s
def gJ (X:Cx)(f:aam)(r:List V->Hp->VK->Prop):Prop :=
 ∀(χ:List (μ×Obj)) (s:aao) (σ:St) (H:Hp) (xs:List V) (us:List aam) (Q:VK),Inv X χ σ H s->Vals xs us->r xs H Q ->
  aaD .aa X.A (call f us) (EP X χ σ Q) X.xe s
def Yr (X:Cx)(r:V->Hp->(Bool->Hp->Prop)->Prop):Prop :=
 ∀(χ:List (μ×Obj)) (s:aao) (σ:St) (H:Hp) (x:V) (v:aam) (Q:Bool->Hp->Prop),Inv X χ σ H s->RelV x v->r x H Q ->
  aaD .aa X.A (truthy v) (TP X χ σ Q) X.xe s
def O7 (r:R2)(ta tb:TE):TE:=λσ H Q=>ta σ H λx H1=>tb σ H1 λy L=>r x y L Q
def tUn (r:V->Hp->VK->Prop)(ta:TE):TE:=λσ H Q=>ta σ H λx H1=>r x H1 Q
def rI (C:Int->Int->Prop)(g:Int->Int->V):R2:=λx y H Q=>∃i j,x=.int i/\y=.int j/\C i j/\Q (g i j) H
def G7 (g:Int->Int->V):R2:=λx y H Q=>∃i j,x=.int i/\y=.int j/\Q (g i j) H
def rU (g:Int->V):V->Hp->VK->Prop:=λx H Q=>∃i,x=.int i/\Q (g i) H
section
variable {X:Cx}{ta tb:TE}
def OQ (ha:PE X a ta)(hb:PE X b tb){R:V->V->Hp->Prop}(I:Inv X χ σ H s)
  (h:ta σ H λx H1=>tb σ H1 λy L=>R x y L) {Q:aam->aao->Prop} {f:aam->aam->Sem aam}
  (hf:∀v u s2 x y L,Inv X χ σ L s2->RelV x v->RelV y u->R x y L->aaD .aa X.A (f v u) Q X.xe s2) :
  aaD .aa X.A (eval a .f) (λv s₁=>aaD .aa X.A (eval b .f) (λu s₂=>aaD .aa X.A (f v u) Q X.xe s₂) X.xe s₁) X.xe s:=by
 refine bz (ha χ s σ H _ I h) λv s1 Vt=>?_;let {x,H1,I1,Y,q1}:=Vt;refine bz (hb χ s1 σ H1 _ I1 q1) λu s2 Vs=>?_;let {y,L,I2,O,q2}:=Vs;exact hf v u s2 x y L I2 Y O q2
def dN (ho:j_ X (acz op) r)(ha:PE X a ta)(Y:PE X b tb):PE X (.BinOp a op b pos) (O7 r ta tb):=by
 intro χ s σ H Q I h;exact wpAny_BinOp (OQ ha Y I h λv u s2 x y H2 I2 O L q=>ho χ s2 σ H2 x y v u Q I2 O L q)
def DX (ho:Ss X (unaryOp op) r)(Y:PE X a ta):PE X (.UnaryOp op a pos) (tUn r ta):=by
 intro χ s σ H Q I h;exact UnaryOp_ (bz (Y χ s σ H _ I h) λv s1 NS=>by let {x,H1,I1,L,O}:=NS;exact ho χ s1 σ H1 x v Q I1 L O)
def S7 {f:aam->aam->Sem aam}{C:Int->Int->Prop}{g:Int->Int->Int}
  (rule:∀(i j:Int) (t u:Tok) (s:aao) (Q:aam->aao->Prop) (E:aam->aao->Prop),C i j->Q (.int (g i j) s.toks) {s with toks:=s.toks+1}->aaD .aa X.A (f (.int i t) (.int j u)) Q E s) :
  j_ X f (rI C λi j=>.int (g i j)):=by
 intro χ s σ H x y v u Q I O L h;let {i,j,rfl,rfl,hc,q}:=h;let {t,rfl}:=O;let {t',rfl}:=L;exact rule i j t t' s _ _ hc {.int (g i j),H,I.tok _,{_,rfl},q}
def QD {f:aam->aam->Sem aam}{g:Int->Int->Int}
  (rule:∀(i j:Int) (t u:Tok) (s:aao) (Q:aam->aao->Prop) (E:aam->aao->Prop),Q (.int (g i j) s.toks) {s with toks:=s.toks+1}->aaD .aa X.A (f (.int i t) (.int j u)) Q E s) :
  j_ X f (G7 λi j=>.int (g i j)):=by
 intro χ s σ H x y v u Q I O L h;let {i,j,rfl,rfl,q}:=h;let {t,rfl}:=O;let {t',rfl}:=L;exact rule i j t t' s _ _ {.int (g i j),H,I.tok _,{_,rfl},q}
def MA {f:aam->aam->Sem aam}{g:Int->Int->Bool}
  (rule:∀(i j:Int) (t u:Tok) (s:aao) (Q:aam->aao->Prop) (E:aam->aao->Prop),Q (.bool (g i j)) s->aaD .aa X.A (f (.int i t) (.int j u)) Q E s) :
  j_ X f (G7 λi j=>.bl (g i j)):=by
 intro χ s σ H x y v u Q I O L h;let {i,j,rfl,rfl,q}:=h;let {t,rfl}:=O;let {t',rfl}:=L;exact rule i j t t' s _ _ {.bl (g i j),H,I,rfl,q}
def Cw (i j:Int):Prop:=0<=j/\j<=1000000/\i.natAbs<2 ^ 64
def mP (i j:Int):Prop:=(-(2 ^ 64)<i/\i<2 ^ 64)\/(-(2 ^ 64)<j/\j<2 ^ 64)
def mP.ok {i j:Int}(h:mP i j):IntMulOk i j:=by
 rcases h with⟨O,L⟩|⟨O,L⟩
 ·exact .of_left (intBits_le_64 O L)
 ·exact .of_right (intBits_le_64 O L)
def tO:j_ X (acz .Add) (G7 λi j=>.int (i+j)):=QD λ_ _ _ _ _ _ _ q=>add_int q
def Ej:j_ X (acz .Sub) (G7 λi j=>.int (i-j)):=QD λ_ _ _ _ _ _ _ q=>sub_int q
def tM:j_ X (acz .Mult) (rI mP λi j=>.int (i*j)):=S7 λ_ _ _ _ _ _ _ hc q=>mul_int q hc.ok
def jT:j_ X (acz .Mod) (rI (λ_ j=>0<j) λi j=>.int (i % j)):=S7 λi j _ _ _ _ _ hc q=>by
 have L:(0:Int)<j:=hc;exact mod_int' .a (by rw[Int.fmod_eq_emod_of_nonneg i .a];exact q)
def Ek:j_ X (acz .Pow) (rI Cw λi j=>.int (i ^ j.toNat)):=S7 λ_ _ _ _ _ _ _ hc q=>pow_int_small hc.1 hc.2.1 hc.2.2 q
def Z9 {f:aam->Sem aam}{g:Int->Int}
  (rule:∀(i:Int) (t:Tok) (s:aao) (Q:aam->aao->Prop) (E:aam->aao->Prop),Q (.int (g i) s.toks) {s with toks:=s.toks+1}->aaD .aa X.A (f (.int i t)) Q E s) :
  Ss X f (rU λi=>.int (g i)):=by
 intro χ s σ H x v Q I L h;let {i,rfl,q}:=h;let {t,rfl}:=L;exact rule i t s _ _ {.int (g i),H,I.tok _,{_,rfl},q}
def xp:Ss X (unaryOp .USub) (rU λi=>.int (-i)):=Z9 λ_ _ _ _ _ q=>neg_int q
end
section
variable {X:Cx}{c:Expr}{ta tb:TE}
def FO (I:Inv X χ σ H s)(q:Q (.bl k) H)(e:k=k'):EP X χ σ Q (.bool k') s:=by
 subst e;exact{.bl k,H,I,rfl,q}
def QC:j_ X (abv .Lt) (G7 λi j=>.bl (decide (i<j))):=MA λ_ _ _ _ _ _ _ q=>lt_int q
def KC:j_ X (abv .LtE) (G7 λi j=>.bl (decide (i<=j))):=MA λ_ _ _ _ _ _ _ q=>le_int q
def KD:j_ X (abv .Gt) (G7 λi j=>.bl (decide (j<i))):=MA λ_ _ _ _ _ _ _ q=>gt_int q
def My:j_ X (abv .Is) (λx y H Q=>y=.cI/\Q (.bl (decide (x=.cI))) H):=by
 intro χ s σ H x y v u Q I L O h;let {rfl,q}:=h;cases O;refine is_none_gen (FO I q ?_);cases x <;> first
  | (cases L;rfl)
  | (let {t,rfl}:=L;rfl)
def IK:j_ X (abv .IsNot) (λx y H Q=>y=.cI/\Q (.bl (!decide (x=.cI))) H):=by
 intro χ s σ H x y v u Q I L O h;let {rfl,q}:=h;cases O;refine isnot_none_gen (FO I q ?_);cases x <;> first
  | (cases L;rfl)
  | (let {t,rfl}:=L;rfl)
def MP (b:Expr)(h:op≠.In:=by decide)(L:op≠.NotIn:=by decide):ac4 op b=η:=by
 have Y:(op==CmpOp.In)=η:=by cases op <;> first|rfl|exact Κ rfl h
 have O:(op==CmpOp.NotIn)=η:=by cases op <;> first|rfl|exact Κ rfl L
 cases b <;> simp[ac4,Y,O]
def Iw (ho:j_ X (abv op) r)(ha:PE X a ta)(hb:PE X b tb)(Y:ac4 op b=η):PE X (.Compare a [op] [b] pos) (O7 r ta tb):=by
 intro χ s σ H Q I h;exact wpAny_Compare1 (OQ ha hb I h λv u s2 x y H2 I2 O L q=>ho χ s2 σ H2 x y v u Q I2 O L q) Y
def PR (t:TE):TT:=λσ H Q=>t σ H λx H'=>∃k,x=.bl k/\Q k H'
def zu (ho:j_ X (abv op) r)(ha:PE X a ta)(hb:PE X b tb)(hm:ac4 op b=η):PT X (.Compare a [op] [b] pos) (PR (O7 r ta tb)):=by
 intro χ s σ H Q I h;refine wpAny_isTrue_Compare1 (bz (ha χ s σ H _ I h) λv s1 ⟨x,H1,I1,Y,q1⟩=>bz (hb χ s1 σ H1 _ I1 q1) λu s2 ⟨y,H2,I2,O,q2⟩ =>
  bz (ho χ s2 σ H2 x y v u _ I2 Y O q2) λc s3 ⟨z,H3,I3,L,k,e,q3⟩=>?_) hm
 subst e;cases L;exact ab4 {(H3),I3,q3}
def Su (K:Ψ)(x:V)(H:Hp)(k:Bool):Prop :=
 match x with
 |.cI=>k=η
 |.bl b=>k=b
 |.int i=>k=(i != 0)
 |.str y=>y.length<=aaC/\k=((y.length:Int) != 0)
 |.Sj y=>y.size<=aaC/\k=((y.size:Int) != 0)
 |.ref p=>(∃xs,dw K H p xs/\k=!xs.isEmpty)\/(∃xs,uw K H p xs/\k=!xs.isEmpty)\/∃bc,H p=M (.dK bc)/\k=!bc.isEmpty
 |_=>False
def yp {κ:Type}{bc:List (κ×V)}{vs:List (κ×aam)}(r:KV bc vs):(!vs.isEmpty)=!bc.isEmpty:=by
 cases r <;> rfl
def pJ (r:Vals xs its):(!its.toArray.isEmpty)=!xs.isEmpty:=by
 cases r <;> simp
def me:(aaC:Nat)<2 ^ 63:=by rw[aa7];decide
def LD:Yr X (λx H Q=>∃k,Su X.K x H k/\Q k H):=by
 intro χ s σ H x v Q I O h;let {k,e,q}:=h;have hl:=me;have hs:aaC=16777216:=aa7;cases x with
 |cI =>
  cases O;have L:k=η:=e;subst L;exact truthy_none {(H),I,q}
 |bl b =>
  cases O;have L:k=b:=e;subst L;exact ab4 {(H),I,q}
 |int i =>
  let {t,rfl}:=O;have L:k=(i != 0):=e;subst L;exact PySem.P.truthy_int {(H),I,q}
 |str y =>
  let {t,rfl}:=O;obtain⟨hy,L⟩:y.length<=aaC/\k=((y.length:Int) != 0):=e;subst L;exact PySem.P.truthy_str .a {H,I.tok _,q}
 |Sj y =>
  let {t,rfl}:=O;obtain⟨hy,L⟩:y.size<=aaC/\k=((y.size:Int) != 0):=e;subst L;exact PySem.W.truthy_bytes .a {H,I.tok _,q}
 |ref p =>
  cases O;have L:(∃xs,dw X.K H p xs/\k=!xs.isEmpty)\/(∃xs,uw X.K H p xs/\k=!xs.isEmpty)\/∃bc,H p=M (.dK bc)/\k=!bc.isEmpty:=e;rcases L with⟨xs,Y,L⟩|⟨xs,Y,L⟩|⟨bc,Y,L⟩
  ·subst L;let {its,r,pl,hz}:=I.list Y;have hlen:=r.length;exact wpAny_truthy_list pl.isList (by simp only[aaH];lia) {H,I.tok _,by rw[pJ r];exact q}
  ·subst L;let {its,r,pl,hz}:=I.tuple Y;have hlen:=r.length;exact truthy_tuple pl (by simp only[aaH];lia) {H,I.tok _,by rw[pJ r];exact q}
  ·subst L;obtain⟨hz,hS,vs,r,m⟩:bc.length<=aaC/\(p==aca)=η/\∃vs,KV bc vs/\s.heap.DictOf (cq X.prog X.w) p vs:=I.bh p _ Y;have hlen:bc.length=vs.length:=Paired.length r;exact wpAny_truthy_dict hS m .a {H,I.tok _,by rw[yp r];exact q}
 |_=>exact(show False from e).elim
def DH (Y:PE X a ta)(he:∀whole,isTrue a .f whole=(do let v <- whole;aep a.pos;holding [v] (truthy v))):
  PT X a (λσ H Q=>ta σ H λx H'=>∃k,Su X.K x H' k/\Q k H'):=by
 intro χ s σ H Q I h;exact isTrue_plain (bz (Y χ s σ H _ I h) λv s1 NR=>by let {x,H1,I1,L,O}:=NR;exact LD χ s1 σ H1 x v Q I1 L O) (he _)
def vals1 (r:Vals [x] us):∃u,us=[u]/\RelV x u:=by
 cases r with
 |cons O L=>cases L;exact{_,rfl,O}
def vals2 (r:Vals [x,y] us):∃u L,us=[u,L]/\RelV x u/\RelV y L:=by
 cases r with
 |cons r1 r2 =>
  cases r2 with
  |cons Y O=>cases O;exact{_,_,rfl,r1,Y}
def Ck (hc:X.calm=G):gJ X (.builtin "max") (λxs H Q=>∃i j,xs=[.int i,.int j]/\Q (.int (if j>i then j else i)) H):=by
 intro χ s σ H xs us Q I r h;let {i,j,rfl,q}:=h;obtain⟨u,L,rfl,⟨t,rfl⟩,⟨t',rfl⟩⟩:=vals2 r;refine max_two_ints (I.ok.hd hc) λh' O k=>{_,H,I.kept k,?_,q}
 by_cases hj:j>i
 ·rw[ω hj,ω hj];exact{_,rfl}
 ·rw[Δ hj,Δ hj];exact{_,rfl}
def Cj (hc:X.calm=G):gJ X (.builtin "min") (λxs H Q=>∃i j,xs=[.int i,.int j]/\Q (.int (if j<i then j else i)) H):=by
 intro χ s σ H xs us Q I r h;let {i,j,rfl,q}:=h;obtain⟨u,L,rfl,⟨t,rfl⟩,⟨t',rfl⟩⟩:=vals2 r;refine min_two_ints (I.ok.hd hc) λh' O k=>{_,H,I.kept k,?_,q}
 by_cases hj:j<i
 ·rw[ω hj,ω hj];exact{_,rfl}
 ·rw[Δ hj,Δ hj];exact{_,rfl}
def sH:gJ X (.type "int") (λxs H Q=>(∃i,xs=[.int i]/\Q (.int i) H)\/∃k,xs=[.bl k]/\Q (.int (if k then 1 else 0)) H):=by
 intro χ s σ H xs us Q I r h;rcases h with⟨i,rfl,q⟩|⟨k,rfl,q⟩
 ·let {u,rfl,t,rfl}:=vals1 r;exact call_int_int {.int i,H,I,{_,rfl},q}
 ·let {u,rfl,L}:=vals1 r;cases L;exact call_int_bool {.int (if k then 1 else 0),H,I.tok _,{_,rfl},q}
end
structure ck (k:Nat)(A:abf):Prop where
 hd:A.handled=ξ
 dp:A.depth+3*k+5<recursionLimit
 un:A.units+16*k+200<adx
def ck.mono (r:ck k A)(h:j<=k):ck j A:={r.hd,by have:=r.dp;lia,by have:=r.un;lia}
def ck.deeper (r:ck (k+1) A)(env:Env):ck k (A.deeper env) :=
 {r.hd,by have:=r.dp;show A.depth+1+3*k+5<_;lia,by have:=r.un;show A.units+3+16*k+200<_;lia}
def ck.depth (r:ck k A):A.depth<recursionLimit:=by have:=r.dp;lia
def ck.units (r:ck k A):A.units+64<adx:=by have:=r.un;lia
def ck.LB (r:ck k A):A.units<adx:=by have:=r.un;lia
def PY:TA:=λ_ H Q=>Q [] H
def Dc (ta:TE)(L:TA):TA:=λσ H Q=>ta σ H λx H1=>L σ H1 λxs O=>Q (x::xs) O
section
variable {X:Cx}{te:TE}{t:TA}
def f_:PA X [] PY:=λ_ _ _ _ H Q I h=>aes {[],H,I,.nil,h}
def b6 (ha:PE X e te)(hr:PA X es t)(hs:aaz (e::es) .f=.aE::aaz es .f:=by rfl):PA X (e::es) (Dc te t):=by
 intro pos χ s σ H Q I h;rw[hs];show aaD _ _ (spliced (.aE::abN pos (aaz es .f))) _ _ s;refine acX (bz (ha χ s σ H _ I h) λu s1 Vr=>?_);let {x,H1,I1,Y,q1}:=Vr;exact bz (hr pos χ s1 σ H1 _ I1 q1) λus s2 L=>by let {xs,H2,I2,O,q2}:=L;exact{x::xs,H2,I2,.cons Y O,q2}
def Ud (t:TA):TE:=λσ H Q=>t σ H λxs H1=>xs.length<=aaC/\∀p,H1 p=ξ->Q (.ref p) (upd H1 p (.tup xs))
def Uj (t:TA):TE:=λσ H Q=>t σ H λxs H1=>xs.length<=aaC/\∀p,H1 p=ξ->Q (.ref p) (upd H1 p (.lst xs))
def Mm {O}(h:PA X es t):PE X (.Tuple es O pos) (Ud t):=by
 intro χ s σ H Q I Y;refine wpAny_Tuple_spliced (bz (h pos χ s σ H _ I Y) λus s1 ⟨xs,H1,L,r,z,q⟩=>{by rw[<- r.length];exact z,?_})
 have hf:H1 s1.heap.objs.size=ξ:=L.bh.fresh (aaq _);refine{.ref s1.heap.objs.size,upd H1 s1.heap.objs.size (.tup xs),L.laid (t':=s1.toks) (λb u e=>aar _ e) (aaq _) ?_,rfl,q _ hf};exact{z,us,r,{_,aaU _ rfl,rfl,_,rfl}}
def xY (h:PA X es t):PE X (.List es pos) (Uj t):=by
 intro χ s σ H Q I O;refine wpAny_List_spliced (bz (h pos χ s σ H _ I O) λus s1 ⟨xs,H1,L,r,z,q⟩=>{by rw[<- r.length];exact z,?_})
 have Y:H1 s1.heap.objs.size=ξ:=L.bh.fresh (aaq _);refine{.ref s1.heap.objs.size,upd H1 s1.heap.objs.size (.lst xs),L.laid (t':=s1.toks) (λb u e=>aar _ e) (aaq _) ?_,rfl,q _ Y};exact{z,us,0,r,aaU _ rfl}
end
abbrev Sp:=List V->Hp->VK->XK->Prop
abbrev Cv:=List Env->Hp->aao->XK->aam->aao->Prop
structure G0 (P:aas)(w:aaG)(K:Ψ)(mg:Str->Option aam)(base:Heap)(A:abf)(outer:List Env)(s:aao)(H:Hp):Prop where
 frames:A.frames=M outer
 mod:Mod K mg base
 bs:∀b o,base.get? b=M o->s.heap.get? b=M o/\H b=ξ
 yS:base.objs.size<=.e
 jF:s.heap.FunFrames base outer
 FI:∀b∈iC outer,H b=ξ
 bh:iq P w H s.heap
 bare:aet s.gens
def CE (outer:List Env)(P:aas)(w:aaG)(H:Hp)(s:aao)(Q:VK)(u:aam)(s':aao):Prop :=
 ∃v H',s'.os=s.os/\aet s'.gens/\Un (iC outer) [] H H' s.heap s'.heap/\iq P w H' s'.heap/\RelV v u/\Q v H'
def CR (CX:Cv)(outer:List Env)(P:aas)(w:aaG)(H:Hp)(s:aao)(Q:VK)(E:XK)(r:Result)(s':aao):Prop :=
 match r with
 |.ok (.ret u)=>CE outer P w H s Q u s'
 |.ok _=>False
 |.error e=>CX outer H s E e s'
structure aG (P:aas)(w:aaG)(K:Ψ)(mg:Str->Option aam)(base:Heap)(CX:Cv)(k:Nat)(f:μ)(fd:aa6)(ps:List Str)(sp:Sp):Prop where
 len:∀vs H Q E,sp vs H Q E->vs.length=ps.length
 run:∀(A:abf) (outer:List Env) (s:aao) (H:Hp) (args:Args) (us:List aam) (vs:List V) (Q:VK) (E:XK),ck k A->G0 P w K mg base A outer s H->BindsTo s fd args (ps.zip us)->Vals vs us->sp vs H Q E ->
  adg (δ P w) A (.call (.ref f) args) (CR CX outer P w H s Q E) s
section
variable {X:Cx}{σ:St}{H:Hp}{s':aao}
def Inv.Ol (I:Inv X χ σ H s):G0 X.prog X.w X.K X.mg X.base X.A X.stack s H :=
 {I.ok.frames,I.ok.mod,I.bs,aa3 I.ok.yS I.sz,I.stack,I.nH,I.bh,I.bare}
def Inv.after (I:Inv X χ σ H s)(h:CE X.stack X.prog X.w H s Q u s'):EP X χ σ Q u s':=by
 let {v,H',os,bare,un,bh,r,q}:=h;let {L,g,d,t,UY}:=s';obtain rfl:UY=s.os:=os;exact{v,H',I.call (h':=L) (g':=g) (d':=d) (t':=t) (ch:=[]) un bh bare (λb z=>Κ z .c),r,q}
end
def Dd (sp:Sp)(L:List V)(E:XK)(t:TA):TE:=λσ H Q=>t σ H λvs H1=>sp (vs++L) H1 Q E
def Binds (K:Ψ)(fd:aa6)(ps:List Str)(ds:List aam):Prop :=
 ∀(s:aao) (us:List aam),K.In s.heap->(us++ds).length=ps.length->BindsTo s fd {us,[]} (ps.zip (us++ds))
def Binds.all (h:∀us:List aam,us.length=ps.length->bindArgs fd {us,[]}=pure (ps.zip us)):Binds K fd ps []:=λs us _ L=>by
 rw[abR]at L ⊢
 exact .of_eq (h us L)
def Passes (CX:Cv)(X:Cx)(E:XK):Prop:=∀(χ:List (μ×Obj)) (σ:St) (H:Hp) (s:aao) (e:aam) (s':aao),Inv X χ σ H s->CX X.stack H s E e s'->X.xe e s'
section
variable {X:Cx}{CX:Cv}{k:Nat}{f:μ}{sp:Sp}{K5:List V}{ds:List aam}{E:XK}{x:Str}{p:Pos}{t:TA}
def Dw (F:aG X.prog X.w X.K X.mg X.base CX k f fd ps sp)(hr:ck k X.A)(hb:Binds X.K fd ps ds)(hd:Vals K5 ds)(Y:Passes CX X E)
  (I:Inv X χ σ H s) (r:Vals vs us) (h:sp (vs++K5) H Q E):aaD .aa X.A (call (.ref f) us) (EP X χ σ Q) X.xe s:=by
 have O:Vals (vs++K5) (us++ds):=r.append hd;have hl:(us++ds).length=ps.length:=by rw[<- O.length];exact F.len _ _ _ _ h
 refine ad8 (acy (F.run X.A X.stack s H {us,[]} (us++ds) (vs++K5) Q E hr I.Ol (hb s us I.zV hl) O h) λr s' L=>?_);cases r with
 |error e=>exact Y χ σ H s e s' I L
 |ok fl =>
  cases fl with
  |ret u=>exact I.after L
  |next=>exact abX L
  |brk=>exact abX L
  |cont=>exact abX L
def tJ (F:aG X.prog X.w X.K X.mg X.base CX k f fd ps sp)(Y:ck k X.A)(hg:Gl X x)(hm:X.mg x=M (.ref f))(hk:Β X.K (.ref f)=G)(hb:Binds X.K fd ps ds)(hd:Vals K5 ds)(O:Passes CX X E)
  (ha:PA X (e::es) t) (hdb:.ai=η:=by decide) (he:aaz (e::es) .f=.aE::aaz es .f:=by rfl) (hpl:(abN pos (aaz es .f)).any (·.1)=η:=by rfl) :
  PE X (.Call (.Name x p) (e::es) [] pos) (Dd sp K5 E t):=by
 intro χ s σ H Q I h;refine ab_ (hZ I hg hm ?_ hdb);refine PySem.W.callWith_K (h₀:=X.base) I.ok.mod.M5 hk (bz (ha pos χ s σ H _ I h) λus s1 ⟨vs,H1,L,r,q⟩=>{L.zV,?_}) he hpl;exact Dw F Y hb hd O L r q
end
structure aH (N P:List Str)(sc:acF):Prop where
 kind:sc.kind=.function
 co:sc.isCoroutine=η
 gen:sc.isGenerator=η
 nd:N.Nodup
 pre:N.take P.length=P
 par:∀x∈P,sc.names.lookup x=M .local\/sc.names.lookup x=M .cell
 MQ:∀y∈sc.names,y.2≠.free
def mkS{N P:List Str}{sc:acF}(h0:sc.kind=.function:=by rfl)(h1:sc.isCoroutine=η:=by rfl)(h2:sc.isGenerator=η:=by rfl)(h3:N.Nodup:=by decide +kernel)(Y:N.take P.length=P:=by rfl)(O:∀x∈P,sc.names.lookup x=M .local\/sc.names.lookup x=M .cell:=by decide +kernel)(L:∀y∈sc.names,y.2≠.free:=by decide +kernel):aH N P sc:={(h0),h1,h2,h3,Y,O,L}
theorem sJ {kindOf:Str->Option acQ}:∀{binds:List (Str×aam)} {m:Str->Option aam},(∀v,(x,v)∉binds)->bindL kindOf binds m x=m x
 |[],_,_=>rfl
 | (n,v)::r,m,h=>by
  unfold bindL;rw[sJ λw hw=>h w (aaL _ hw)]
  split
  ·have:x≠n:=by rintro rfl;exact h v aaO
   simp[this]
  ·rfl
theorem sM {kindOf:Str->Option acQ}:∀{binds:List (Str×aam)} {m:Str->Option aam},(∀v,(x,v)∉binds)->bindC kindOf binds m x=m x
 |[],_,_=>rfl
 | (n,v)::r,m,h=>by
  unfold bindC;rw[sM λw hw=>h w (aaL _ hw)]
  split
  ·rfl
  ·have:x≠n:=by rintro rfl;exact h v aaO
   simp[this]
theorem sL {kindOf:Str->Option acQ}:∀{P:List Str} {vs:List aam} {i:Nat} {m:Str->Option aam},P.Nodup->P[i]?=M x->vs[i]?=M v->kindOf x=M .local ->
  bindL kindOf (P.zip vs) m x=M v
 |[],_,_,_,_,h,_,_=>by simp at h
 |_::_,[],_,_,_,_,h,_=>by simp at h
 |p::P,w::vs,0,m,nd,O,L,hk=>by
  simp at O L;subst O;subst L;show bindL kindOf ((p,w)::P.zip vs) m p=_;unfold bindL;rw[sJ λv Y=>(aaX.mp nd).1 (adu Y).1,ω hk];simp
 |p::P,w::vs,i+1,m,nd,O,L,hk=>by
  show bindL kindOf ((p,w)::P.zip vs) m x=_;unfold bindL;exact sL (i:=i) (aaX.mp nd).2 (by simpa using O) (by simpa using L) hk
theorem sN {kindOf:Str->Option acQ}:∀{P:List Str} {vs:List aam} {i:Nat} {m:Str->Option aam},P.Nodup->P[i]?=M x->vs[i]?=M v->kindOf x≠M .local ->
  bindC kindOf (P.zip vs) m x=M v
 |[],_,_,_,_,h,_,_=>by simp at h
 |_::_,[],_,_,_,_,h,_=>by simp at h
 |p::P,w::vs,0,m,nd,O,L,hk=>by
  simp at O L;subst O;subst L;show bindC kindOf ((p,w)::P.zip vs) m p=_;unfold bindC;rw[sM λv Y=>(aaX.mp nd).1 (adu Y).1,Δ hk];simp
 |p::P,w::vs,i+1,m,nd,O,L,hk=>by
  show bindC kindOf ((p,w)::P.zip vs) m x=_;unfold bindC;exact sN (i:=i) (aaX.mp nd).2 (by simpa using O) (by simpa using L) hk
def start (N:List Str)(vs:List V):St:=vs.map M++aaR (N.length-vs.length) ξ
def mG (CX:Cv)(P:aas)(w:aaG)(K:Ψ)(mg:Str->Option aam)(base:Heap)(N:List Str)(qual:Str)(scope:acF)(f:μ)(cd:aam)(A:abf)(outer:List Env)(s:aao)(H:Hp)(E:XK):Cx where
 prog:=P
 w:=w
 K:=K
 mg:=mg
 base:=base
 A:=A.deeper (adX qual scope .e f cd)
 N:=N
 s₀:=s
 H₀:=H
 env:=adX qual scope .e f cd
 outer:=outer
 stack:=adX qual scope .e f cd::outer
 ex:=[]
 calm:=G
 fn:=λ_=>G
 pn:=[]
 xe:=λe s'=>aaD (δ P w) (A.deeper (adX qual scope .e f cd)) (leaving (adX qual scope .e f cd) e) (λ_ Dv=>CX outer H s E e Dv) (λL Dv=>CX outer H s E L Dv) s'
def wM {sc:acF}{n:Nat}{x:Str}(h:sc.names.lookup x=M .cell):∃c,(ad7 n sc.names []).lookup x=M c:=by
 have q:=PySem.W.cellsFrom_some sc.names n [] (.inl h);exact Option.isSome_iff_exists.mp q
def rV {CX:Cv}{P:aas}{w:aaG}{K:Ψ}{mg:Str->Option aam}{base:Heap}{N ps:List Str}{qual:Str}{scope:acF}{f:μ}{cd:aam}{A:abf}{outer:List Env}{s s1:aao}{H:Hp}{E:XK}{us:List aam}{vs:List V}
  (S:aH N ps scope) (hd:A.handled=ξ) (O:G0 P w K mg base A outer s H) (hl:vs.length=ps.length) (r:Vals vs us)
  (x:InCallC s .e (bindL (adX qual scope .e f cd).kindOf (ps.zip us) λ_=>ξ) (ad7 (.e+1) scope.names []) (bindC (adX qual scope .e f cd).kindOf (ps.zip us) λ_=>ξ) s1) :
  Inv (mG CX P w K mg base N qual scope f cd A outer s H E) [] (start N vs) H s1:=by
 have hpl:ps.length<=N.length:=by have:=Μ List.length S.pre;rw[aa4]at this;lia
 let {h1,tk,rfl,hk}:=x.done;have QK:∀b:μ,b∉(mG CX P w K mg base N qual scope f cd A outer s H E).ex:=λb z=>Κ (show b∈([]:List μ) from z) .c
 refine⟨{O.mod,S.kind,rfl,rfl,aaq _,λy z c h1 L=>?_,λy Y=>?_,λy c _ h=>?_,λ_=>hd,Around.frames_deeper O.frames,.inr {(rfl),rfl},λb z=>Κ z (QK b),O.bs,O.yS,λb _ _=>QK b,λb z=>Κ z (QK b),O.jF,O.FI},
  rfl,O.bare,Un.kept hk,{_,x.toInCall.ns,λi y v h1 L h3=>?_},λy c h=>{_,x.cell y c h},O.bh.fresh (aaq _),λy c h=>?_,λp hp=>Κ (show p∈([]:List (μ×Obj)) from hp) .c,O.bh.kept hk,?_⟩
 ·exact name_of_addr x.apart (PySem.mem_of_lookup h1) (PySem.mem_of_lookup L)
 ·have Y:scope.names.lookup y=M .cell\/scope.names.lookup y=M .free:=Y;rcases Y with Y|Y
  ·exact wM Y
  ·exact Κ rfl (S.MQ _ (PySem.mem_of_lookup Y))
 ·exact Nat.le_of_lt (x.above y c (PySem.mem_of_lookup h))
 ·have hi:i<vs.length:=by
   unfold start at L
   by_cases hi:i<vs.length
   ·exact hi
   ·rw[abi (by simpa using hi)]at L
    rw[List.getElem?_replicate]at L
    split at L <;> cases L
  have ha:vs[i]?=M v:=by
   unfold start at L;rw[abE (by simpa using hi),aaB]at L
   cases e:vs[i]? with
   |none=>rw[e]at L;cases L
   |some a=>rw[e]at L;cases L;rfl
  let {u,hu,rv}:=r.get ha;have hp:ps[i]?=M y:=by
   rw[<- S.pre,adp .a];exact h1
  have Y3:ps.Nodup:=by rw[<- S.pre];exact S.nd.sublist (List.take_sublist _ _)
  refine{u,rv,?_};rcases S.par y (aaY hp)with k|k
  ·exact .inl {k,sL Y3 hp hu k}
  ·let {c,e}:=wM (n:=.e+1) k;refine .inr {.inl k,c,e,?_};have q:=x.cell y c e;rw[sN Y3 hp hu (by show scope.names.lookup y≠_;rw[k];decide)]at q
   exact q
 ·exact O.bh.fresh (Nat.le_of_lt (x.above y c (PySem.mem_of_lookup h)))
 ·unfold start;show _=N.length;rw[aax,aan,List.length_replicate];lia
def K3 {CX:Cv}{P:aas}{w:aaG}{K:Ψ}{mg:Str->Option aam}{base:Heap}{k:Nat}{f:μ}{name qual:Str}{params:Arguments}{body:List Stmt}{scope:acF}{dV kV doc pm bD ct oc:aam}{an od:Option μ}
  {II:Array (Option aam)} {N ps:List Str} {sp:Sp} (lk:K.lookup f=M {oc,od,.func (Η name qual params body scope dV kV doc pm an bD ct),II}) (uu:PySem.W.codeIn K bD qual=G) (S:aH N ps scope)
  (len:∀vs H Q E,sp vs H Q E->vs.length=ps.length)
  (gD:∀(A:abf) (outer:List Env) (s:aao) (H:Hp) (vs:List V) (Q:VK) (E:XK),ck k (A.deeper (adX qual scope .e f bD))->sp vs H Q E ->
   ∃t,sQ (mG CX P w K mg base N qual scope f bD A outer s H E) body t/\t {nx:=λ_ H'=>Q .cI H',rt:=Q} (start N vs) H) :
  aG P w K mg base CX (k+1) f (Η name qual params body scope dV kV doc pm an bD ct) ps sp:=by
 refine{len,λA outer s H args us vs Q E Y L hb r iy=>?_};have hl:=len _ _ _ _ iy;have KX:K.In s.heap:=L.mod.M5.keeps λb o e=>(L.bs b o e).1;have lim:s.heap.NoLimit:=L.mod.nolimit.keeps λb o e=>(L.bs b o e).1;have Fv:∀y∈ps.zip us,scope.names.lookup y.1=M .local\/(scope.names.lookup y.1=M .cell/\((ad7 (.e+1) scope.names []).lookup y.1).isSome=G):=λNQ hy=>by
  let {n,v}:=NQ;rcases S.par n (adu hy).1 with q|q
  ·exact .inl q
  ·exact .inr {q,PySem.W.cellsFrom_some _ _ _ (.inl q)}
 refine codeAny_call_function Y.depth (KX _ _ lk) rfl S.co S.gen rfl (PySem.W.codeRec_of KX uu) (hb _ _ _ _ ?_);refine wpAny_newFunctionEnv_cells S.kind Fv λenv he s1 x=>?_;subst he;refine{lim.keeps x.toInCall.keep,codeAny_func ?_};let {t,ht,hq}:=gD A outer s H vs Q E (Y.deeper _) iy;have I:Inv (mG CX P w K mg base N qual scope f bD A outer s H E) [] (start N vs) H s1:=rV S Y.hd L hl r x;refine acL (ht [] s1 (start N vs) H _ I hq) (λfl s' hs=>?_) λe s' hs=>hs;have fin:∀{σ':St} {H':Hp} {v:V} {u:aam},Inv (mG CX P w K mg base N qual scope f bD A outer s H E) [] σ' H' s'->RelV v u->Q v H'->CE outer P w H s Q u s' :=
  λ{σ' H' v u} J rv q=>{(v),H',J.os,J.bare,J.base,J.bh,rv,q}
 cases fl with
 |ret u =>
  let {v,σ',H',J,rv,q}:=hs;exact fin J rv q
 |next =>
  let {σ',H',J,q}:=hs;exact fin (v:=V.cI) (u:=Value.none) J rfl q
 |brk =>
  let {O,O,O,q}:=hs;exact abX q
 |cont =>
  let {O,O,O,q}:=hs;exact abX q
section
variable {X:Cx}{x:Str}{p:Pos}{t:TA}{id T:String}{r:List V->Hp->VK->Prop}
def Um (r:List V->Hp->VK->Prop)(t:TA):TE:=λσ H Q=>t σ H λvs H1=>r vs H1 Q
def kP (hc:gJ X (.builtin id) r)(hg:Gl X x)(hm:X.mg x=ξ)(Y:abt x=M (.builtin id))(ha:PA X (e::es) t)(hn:x≠"__name__" := by decide)(hdb:.ai=η:=by decide)
  (he:aaz (e::es) .f=.aE::aaz es .f:=by rfl) (hpl:(abN pos (aaz es .f)).any (·.1)=η:=by rfl):PE X (.Call (.Name x p) (e::es) [] pos) (Um r t):=by
 intro χ s σ H Q I h;refine ab_ (eS I hg hm Y ?_ hn hdb);exact PyProof.Rows.callWith_builtin1 (bz (ha pos χ s σ H _ I h) λus s1 NP=>by let {vs,H1,I1,L,O}:=NP;exact hc χ s1 σ H1 vs us Q I1 L O) he hpl
def Bx (hc:gJ X (.type T) r)(hg:Gl X x)(hm:X.mg x=ξ)(Y:abt x=M (.type T))(ha:PA X (e::es) t)(hn:x≠"__name__" := by decide)(hdb:.ai=η:=by decide)
  (he:aaz (e::es) .f=.aE::aaz es .f:=by rfl) (hpl:(abN pos (aaz es .f)).any (·.1)=η:=by rfl):PE X (.Call (.Name x p) (e::es) [] pos) (Um r t):=by
 intro χ s σ H Q I h;refine ab_ (eS I hg hm Y ?_ hn hdb);exact abB (bz (ha pos χ s σ H _ I h) λus s1 NO=>by let {vs,H1,I1,L,O}:=NO;exact hc χ s1 σ H1 vs us Q I1 L O) he hpl
end
end L2
variable {H H':L2.Hp}{X:L2.Cx}{σ:L2.St}
namespace HT
open PySem PyProof.Rows
def lexLt:List Int->List Int->Bool
 |[],[]=>η
 |[],_::_=>G
 |_::_,[]=>η
 |x::xs,y::ys=>if x=y then lexLt xs ys else decide (x<y)
def jU (x y:Int)(xs ys:List Int):lexLt (x::xs) (y::ys)=if x=y then lexLt xs ys else decide (x<y):=rfl
def FZ (A:abf)(s:aao)(a:Int)(t:Tok)(c:Int)(u:Tok):∃e,SeqAt.EqAt A s (.int a t) (.int c u) e/\(e=G↔a=c) :=
 {(a==c),SeqAt.EqAt.int_int a t c u,by simp}
def iw (n d:Nat):Option Int->Nat
 |none=>d
 |some v=>if v<0 then (v+(n:Int)).toNat else min v.toNat n
def uP (n d:Nat):iw n d ξ=d:=rfl
def nM (n d k:Nat):iw n d (M (k:Int))=min k n:=by
 show (if (k:Int)<0 then ((k:Int)+(n:Int)).toNat else min (k:Int).toNat n)=min k n
 rw[Δ .a,aby]
end HT
namespace L2
open PySem PySem.Spec PyProof.Rows
abbrev TO:=St->Hp->(Option Int->Hp->Prop)->Prop
def PO (X:Cx)(e:Option Expr)(t:TO):Prop :=
 ∀(χ:List (μ×Obj)) (s:aao) (σ:St) (H:Hp) (Q:Option Int->Hp->Prop),Inv X χ σ H s->t σ H Q ->
  aaD .aa X.A (evalPart e .f) (λu s'=>∃o H',Inv X χ σ H' s'/\IsPart u o/\Q o H') X.xe s
def HE:TO:=λ_ H Q=>Q ξ H
def PU (t:TE):TO:=λσ H Q=>t σ H λx H1=>∃i,x=.int i/\Q (M i) H1
def intsAre_of :∀{us:List aam},Vals (ns.map V.int) us->acW us ns:=by
 induction ns with
 |nil=>intro us r;rw[List.map_nil]at r;cases r;exact .nil
 |cons n ns ih =>
  intro us r;rw[aa8]at r;cases r with
  |cons O L =>
   let {t,e}:=O;subst e;exact .cons n t (ih L)
section
variable {te:TE}{lo hi:Option Expr}{tl th:TO}
def tG:PO X ξ HE:=by
 intro χ s σ H Q I h;rw[evalPart_none];exact aap {ξ,H,I,.none,h}
def tF (h:PE X e te):PO X (M e) (PU te):=by
 intro χ s σ H Q I hw;rw[evalPart_some];refine bz (h χ s σ H _ I hw) λu s1 Vq=>?_;let {x,H1,Y,L,O}:=Vq;let {i,rfl,q}:=O;let {t,rfl}:=L;exact{M i,H1,Y,.int i t,q}
def TM (X:Cx)(r:V->Option Int->Option Int->Hp->VK->Prop):Prop :=
 ∀(χ:List (μ×Obj)) (s:aao) (σ:St) (H:Hp) (x:V) (v O L:aam) (lo hi:Option Int) (sl:μ) (Q:VK),Inv X χ σ H s->RelV x v->s.heap.IsSliceOf sl O L .none->IsPart O lo->IsPart L hi->r x lo hi H Q ->
  ∃T id,typeLookup (.type T) "__getitem__" = pure (M (.builtin id))/\s.TypeIs v T/\aaD .aa X.A (getItem v (.ref sl)) (EP X χ σ Q) X.xe s
def tSl (r:V->Option Int->Option Int->Hp->VK->Prop)(te:TE)(tl th:TO):TE:=λσ H Q=>te σ H λx H1=>tl σ H1 λl O=>th σ O λu L=>r x l u L Q
def kM (hr:TM X r)(he:PE X e te)(hl:PO X lo tl)(hu:PO X hi th):PE X (.Subscript e (.Slice lo hi ξ p2) pos) (tSl r te tl th):=by
 intro χ s σ H Q I h;refine Subscript_ (bz (he χ s σ H _ I h) λv s1 Vp=>?_);let {x,H1,I1,r1,q1}:=Vp;refine wpAny_Slice (bz (hl χ s1 σ H1 _ I1 q1) λY s2 ⟨l,H2,I2,pl,q2⟩=>bz (hu χ s2 σ H2 _ I2 q2) λO L Vo=>?_);let {u,H3,I3,pu,q3}:=Vo;rw[evalPart_none];refine aap ?_;have I4:Inv X χ σ H3 {L with heap:=L.heap.push {cls:=.type "slice",data:=.fields #[Y,O,.none]}}:=I3.kept (t':=L.toks) λb ob q=>aar _ q
 let {T,id,hT,ht,hg}:=hr χ {L with heap:=L.heap.push {cls:=.type "slice",data:=.fields #[Y,O,.none]}} σ H3 x v Y O l u L.heap.objs.size Q I4 r1 (Heap.IsSliceOf.new ..) pl pu q3
 show aaD .aa X.A (subscriptTail e (.Slice lo hi ξ p2) v (.ref L.heap.objs.size)) (EP X χ σ Q) X.xe {L with heap:=L.heap.push {cls:=.type "slice",data:=.fields #[Y,O,.none]}}
 exact tail_any (ops:=[.ref L.heap.objs.size,v]) ht hT hg (by with_unfolding_all rfl)
def wG (xs:List V)(lo hi:Option Int):List V:=(xs.drop (HT.iw xs.length 0 lo)).take (HT.iw xs.length xs.length hi-HT.iw xs.length 0 lo)
def wF (xs:List V)(lo hi:Option Int):(wG xs lo hi).length<=xs.length:=by
 unfold wG;rw[aa4,abM];lia
end
def qQ (n:Nat)(i:Int):Option Nat:=if 0<=i then (if i<n then M i.toNat else ξ) else if -(n:Int)<=i then M (i+n).toNat else ξ
def mI {α:Type}(xs:List α)(i:Int):Option α:=(qQ xs.length i).bind λj=>xs[j]?
def zY {i:Int}(h:qQ n i=M j):seqIndex? i n=M j/\j<n/\-(n:Int)<=i/\i<n:=by
 unfold qQ at h
 by_cases O:0<=i
 ·rw[ω O]at h
  by_cases L:i<n
  ·rw[ω L]at h;have e:i.toNat=j:=aaZ h;exact{by rw[seqIndex_of O L,e],.a,.a,L}
  ·rw[Δ L]at h;cases h
 ·rw[Δ O]at h
  by_cases L:-(n:Int)<=i
  ·rw[ω L]at h;have e:(i+n).toNat=j:=aaZ h;exact{by rw[seqIndex_neg .a L,e],.a,L,.a}
  ·rw[Δ L]at h;cases h
def uj {α:Type}{xs:List α}{i:Int}{v:α}(h:mI xs i=M v):∃j,seqIndex? i xs.length=M j/\xs[j]?=M v/\j<xs.length/\-(xs.length:Int)<=i/\i<xs.length:=by
 unfold mI at h;cases e:qQ xs.length i with
 |none=>rw[e]at h;cases h
 |some j =>
  rw[e]at h;let {h1,Y,O,L}:=zY e;exact{(j),h1,h,Y,O,L}
def jz (b:Expr):Prop:=∀o i,subscripted b η o i=operate [o,i] (getItem o i)
def Hq (X:Cx)(r:R2):Prop :=
 ∀(value slice:Expr) (χ:List (μ×Obj)) (s:aao) (σ:St) (H:Hp) (x y:V) (v u:aam) (Q:VK),Inv X χ σ H s->RelV x v->RelV y u->r x y H Q ->
  subscripted slice η v u=operate [v,u] (getItem v u)->aaD .aa X.A (subscriptTail value slice v u) (EP X χ σ Q) X.xe s
def Yt (X:Cx)(id:String)(r:V->List V->Hp->VK->Prop):Prop :=
 ∀(χ:List (μ×Obj)) (s:aao) (σ:St) (H:Hp) (x:V) (xs:List V) (v:aam) (us:List aam) (Q:VK),Inv X χ σ H s->RelV x v->Vals xs us->r x xs H Q ->
  aaD .aa X.A (call (.builtin id) (v::us)) (EP X χ σ Q) X.xe s
section
variable {ta tb:TE}
def kO (Y:Hq X r)(ha:PE X a ta)(hb:PE X b tb)(hs:jz b):PE X (.Subscript a b pos) (O7 r ta tb):=by
 intro χ s σ H Q I h;exact Subscript_ (OQ ha hb I h λv u s2 x y H2 I2 O L q=>Y a b χ s2 σ H2 x y v u Q I2 O L q (hs _ _))
def Qe (K:Ψ):R2:=λx y H Q=>∃p xs i v,x=.ref p/\y=.int i/\dw K H p xs/\mI xs i=M v/\Q v H
def Qd (K:Ψ):R2:=λx y H Q=>∃p xs i v,x=.ref p/\y=.int i/\uw K H p xs/\mI xs i=M v/\Q v H
def UC:R2:=λx y H Q=>∃z i c,x=.str z/\y=.int i/\z.length<=aaC/\mI z.cps.toList i=M c/\Q (.str {#[c]}) H
def fb:Hq X (Qe X.K):=by
 intro value slice χ s σ H x y v u Q I rx ry h hs;let {p,xs,i,z,rfl,rfl,hq,he,q}:=h;cases rx;let {t,rfl}:=ry;let {its,r,O,hz}:=I.list hq;let {j,L,h2,h3,h4,h5}:=uj he;let {w,ew,LX}:=r.get h2;have hl:=r.length;have hn:=me;have fin:EP X χ σ Q w s:={(z),H,I,LX,q}
 by_cases Y:0<=i
 ·have hj:i.toNat=j:=by
   rw[seqIndex_of Y h5]at L;exact aaZ L
  exact item_listR O.isList Y .a (by rw[hj];simpa using ew) fin hs
 ·have hj:(i+(its.toArray.size:Int)).toNat=j:=by
   rw[seqIndex_neg .a h4]at L
   rw[aaH,<- hl];exact aaZ L
  exact subscriptTail_builtinR (x:=w) O.isList.typeIs slot_list_getitem.lookup
   (wpAny_getItem_list_neg (Q:=λr s'=>r=w/\EP X χ σ Q r s') O.isList .a (by rw[aaH] <;> lia) .a (by rw[hj];simpa using ew) {(rfl),fin}) hs
def E7:Hq X (Qd X.K):=by
 intro value slice χ s σ H x y v u Q I Y O h hs;let {p,xs,i,z,rfl,rfl,hq,he,q}:=h;cases Y;let {t,rfl}:=O;let {its,r,L,hz}:=I.tuple hq;let {j,h1,h2,h3,h4,h5}:=uj he;let {w,ew,LX}:=r.get h2;have hl:=r.length;have hn:=me;have fin:EP X χ σ Q w s:={(z),H,I,LX,q};exact subscriptTail_builtinR (x:=w) L.typeIs slot_tuple_getitem.lookup
  (getItem_tuple (j:=j) (Q:=λr s'=>r=w/\EP X χ σ Q r s') L .a .a (by rw[aaH,<- hl];exact h1) (by simpa using ew) {(rfl),fin}) hs
def M_:Hq X UC:=by
 intro value slice χ s σ H x y v u Q I Y O h hs;let {z,i,c,rfl,rfl,hz,he,q}:=h;let {t,rfl}:=Y;let {t',rfl}:=O;let {j,L,h2,h3,h4,h5}:=uj he;have hl:z.cps.toList.length=z.length:=by simp[Str.length]
 rw[hl]at L h4 h5;have hn:=me;exact tail_any (typeIs_str s z t) slot_str_getitem.lookup (getItem_str (c:=c) (by
  have e1:decide (i < -(2 ^ 63:Int))=η:=Φ .a
  have e2:decide (i >= 2 ^ 63)=η:=Φ .a
  rw[e1,e2,Bool.or_false]) (by rw[L];simpa using h2) {.str {#[c]},H,I.tok _,{_,rfl},q}) hs
def yb (its:List aam)(n j:Nat)(u:aam):abL (·.setIfInBounds j u) {cls:=.type "list",data:=.seq its.toArray n}={cls:=.type "list",data:=.seq (its.set j u).toArray n}:=by
 simp[abL]
def Inv.lst {χ:List (μ×Obj)}{σ:St}{H:Hp}{s:aao}{p:μ}{xs:List V}(I:Inv X χ σ H s)(h:H p=M (.lst xs)):
  ∃(its:List aam) (n:Nat),Vals xs its/\s.heap.get? p=M {cls:=.type "list",data:=.seq its.toArray n}/\xs.length<=aaC:=by
 let {z,its,n,r,e}:=I.bh p _ h;exact{(its),n,r,e,z}
def Inv.MV {χ:List (μ×Obj)}{σ:St}{H:Hp}{s:aao}{p:μ}{xs ys:List V}{its its':List aam}{n L:Nat}{f:Obj->Obj}(I:Inv X χ σ H s)(h:H p=M (.lst xs))
  (ho:s.heap.get? p=M {cls:=.type "list",data:=.seq its.toArray n}) (O:f {cls:=.type "list",data:=.seq its.toArray n}={cls:=.type "list",data:=.seq its'.toArray L}) (r:Vals ys its') (hz:ys.length<=aaC) (t:Nat) :
  Inv X χ σ (upd H p (.lst ys)) {s with heap:=s.heap.update p f,toks:=t}:=by
 have e:(s.heap.update p f).get? p=M {cls:=.type "list",data:=.seq its'.toArray L}:=by
  rw[ab5 f ho (by rw[O] <;> rfl),O]
 refine I.write (x:=p) (e:=p) (by rw[h];trivial) (.inl rfl) (λb u Y q=>(ab0 _ _ (abn Y)).trans q) {_,e} ?_
 exact{(hz),its',L,r,e}
def Qc:V->V->V->Hp->(Hp->Prop)->Prop:=λo i v H Q=>∃p xs k j,o=.ref p/\i=.int k/\H p=M (.lst xs)/\qQ xs.length k=M j/\Q (upd H p (.lst (xs.set j v)))
def set_list:SD X Qc:=by
 intro χ s σ H o i v ov iv u Q I ro ri rv h;let {p,xs,k,j,rfl,rfl,Y,hj,q}:=h;cases ro;let {t,rfl}:=ri;let {its,n,r,ho,hz}:=I.lst Y;let {L,h2,h3,h4}:=zY hj;have O:=r.length;have hn:=me;have I':Inv X χ σ (upd H p (.lst (xs.set j v))) {s with heap:=s.heap.update p (abL (·.setIfInBounds j u))} :=
  I.MV Y ho (yb its n j u) (r.set rv j) (by rw[List.length_set];exact hz) s.toks
 by_cases h0:0<=k
 ·have hk:k.toNat=j:=by
   rw[seqIndex_of h0 h4]at L;exact aaZ L
  exact PySem.W.ki_setAt ho h0 .a (by rw[aaH,<- O];exact h4) (by rw[hk];exact{_,I',q})
 ·have hk:(k+(its.toArray.size:Int)).toNat=j:=by
   rw[seqIndex_neg .a h3]at L
   rw[aaH,<- O];exact aaZ L
  exact PySem.W.ki_setBack ho .a (by rw[aaH,<- O];exact h3) .a (by rw[hk];exact{_,I',q})
def s_ (lo hi:Option Int)(n:Nat):(acU lo hi ξ n).1=((HT.iw n 0 lo:Nat):Int)/\(acU lo hi ξ n).2.1=((HT.iw n n hi:Nat):Int)/\(acU lo hi ξ n).2.2=1:=by
 refine{?_,?_,rfl}
 ·cases lo with
  |none=>simp[acU,HT.iw]
  |some i =>
   simp only[acU,HT.iw,Option.getD_none,show (1:Int)>0 by decide,if_true]
   by_cases h:i<0
   ·simp only[h,if_true] <;> lia
   ·simp only[h,if_false] <;> lia
 ·cases hi with
  |none=>simp[acU,HT.iw]
  |some i =>
   simp only[acU,HT.iw,Option.getD_none,show (1:Int)>0 by decide,if_true]
   by_cases h:i<0
   ·simp only[h,if_true] <;> lia
   ·simp only[h,if_false] <;> lia
def qJ (its:List aam)(lo hi:Option Int):slicePick its.toArray lo hi ξ=((its.drop (HT.iw its.length 0 lo)).take (HT.iw its.length its.length hi-HT.iw its.length 0 lo)).toArray:=by
 let {Y,O,L}:=s_ lo hi its.toArray.size;unfold slicePick;rw[Y,O,L];simp only[sliceRange_one,pick_run,aaH] <;> rfl
def Uz (K:Ψ):V->Option Int->Option Int->Hp->VK->Prop:=λx lo hi H Q=>∃a xs,x=.ref a/\dw K H a xs/\∀p,H p=ξ->Q (.ref p) (upd H p (.lst (wG xs lo hi)))
def zg:TM X (Uz X.K):=by
 intro χ s σ H x v vl vu lo hi sl Q I O hs Y pu h;let {a,xs,rfl,hx,q}:=h;cases O;let {its,r,L,hz}:=I.list hx;have hlen:=r.length;refine{"list",_,slot_list_getitem.lookup,L.isList.typeIs,?_};refine wpAny_getItem_list_slice L.isList hs Y pu .none .c ?_ (by rw[aaH] <;> lia)
 rw[qJ,<- hlen];refine{.ref .e,_,I.laid (t':=s.toks) (o:=.lst (wG xs lo hi)) (λb ob q=>aar _ q) (aaq _) ?_,rfl,q _ (I.bh.fresh (aaq _))};exact{aa3 (wF xs lo hi) hz,_,0,(r.drop (HT.iw xs.length 0 lo)).take (HT.iw xs.length xs.length hi-HT.iw xs.length 0 lo),aaU _ rfl}
def lI:gJ X (.builtin "len") (λxs H Q=>∃p ys,xs=[.ref p]/\(dw X.K H p ys\/uw X.K H p ys)/\Q (.int ys.length) H):=by
 intro χ s σ H xs us Q I r h;let {p,ys,rfl,L,q}:=h;let {u,rfl,rx}:=vals1 r;cases rx;have hn:=me;rcases L with L|L
 ·let {its,O,Y,hz}:=I.list L;have hlen:=O.length;exact Calls.call_len_list Y.isList (by simp only[aaH] <;> lia) {.int ys.length,H,I.tok _,{s.toks+1,by rw[aaH,hlen]},q}
 ·let {its,O,Y,hz}:=I.tuple L;have hlen:=O.length;exact len_tuple Y (by simp only[aaH] <;> lia) {.int ys.length,H,I.tok _,{s.toks+1,by rw[aaH,hlen]},q}
def lH:gJ X (.type "list") (λxs H Q=>∃p ys,xs=[.ref p]/\(dw X.K H p ys\/uw X.K H p ys)/\∀l,H l=ξ->Q (.ref l) (upd H l (.lst ys))):=by
 intro χ s σ H xs us Q I r h;let {p,ys,rfl,Y,q}:=h;let {u,rfl,rx}:=vals1 r;cases rx;have fin:∀(its:List aam),Vals ys its->ys.length<=aaC->∀(h':Heap) (O:Nat),(∀b o',s.heap.get? b=M o'->h'.get? b=M o') ->
   h'.get? .e=M {cls:=.type "list",dict:=ξ,data:=.seq its.toArray O,slots:=#[]}->EP X χ σ Q (.ref .e) {s with heap:=h'}:=λits L hz h' O kp e =>
  {.ref .e,_,I.laid (t':=s.toks) kp (aaq _) (show bY X.prog X.w _ h' _ (.lst ys) from {(hz),its,O,L,e}),rfl,q _ (I.bh.fresh (aaq _))}
 rcases Y with Y|Y
 ·let {its,L,pl,hz}:=I.list Y;have hlen:=L.length;let {o,ho,hc,n,hd}:=pl.isList;exact call_list_seq p (.inl rfl) ho hc hd (λh' O kp e=>fin its L hz h' O kp e) (by simp only[aaH] <;> lia)
 ·let {its,L,pl,hz}:=I.tuple Y;have hlen:=L.length;let {o,ho,hc,n,hd}:=pl;exact call_list_seq p (.inr rfl) ho hc hd (λh' O kp e=>fin its L hz h' O kp e) (by simp only[aaH] <;> lia)
def SV (K:Ψ)(T:String)(x:V)(H:Hp):Prop:=match x with
 |.str _=>T="str"
 |.int _=>T="int"
 |.ref p=>(T="list" /\ ∃xs,dw K H p xs)\/(T="tuple" /\ ∃o,K.lookup p=M o/\o.cls=.type "tuple" /\ o.dict=ξ) \/
   (T="dict" /\ ((∃bc,H p=M (.dK bc))\/∃bc,H p=M (.dT bc)))\/(T="set" /\ ∃S n,H p=M (.set S n))
 |_=>False
def C4 {χ:List (μ×Obj)}{σ:St}{H:Hp}{s:aao}{T:String}{x:V}{v:aam}(I:Inv X χ σ H s)(r:RelV x v)(ty:SV X.K T x H):
  s.TypeIs v T/\∀a,v=.ref a->∃ob,s.heap.get? a=M ob/\ob.dict=ξ:=by
 cases x with
 |str z =>
  let {t,rfl}:=r;cases (show T="str" from ty)
  exact{typeIs_str s z t,λ_ e=>nomatch e}
 |int i =>
  let {t,rfl}:=r;cases (show T="int" from ty)
  exact{typeIs_int s i t,λ_ e=>nomatch e}
 |ref p =>
  cases r;rcases ty with⟨rfl,xs,hq⟩|⟨rfl,o,hk,hc,hd⟩|⟨rfl,hk⟩|⟨rfl,S,n,hk⟩
  ·let {its,L,Y,L}:=I.list hq;refine{Y.isList.typeIs,λa e=>?_};cases e;let {o,n,e,c,hd,L}:=Y;exact{(o),e,hd}
  ·refine{{o,I.zV p o hk,hc},λa e=>?_};cases e;exact{o,I.zV _ o hk,hd}
  ·have z:∃o,s.heap.get? p=M o/\o.ExactDict:=by
    rcases hk with⟨bc,hk⟩|⟨bc,hk⟩
    ·let {L,L,L,L,o,L,L,e,ex,L}:=I.bh p _ hk;exact{(o),e,ex}
    ·let {L,L,L,L,o,L,L,e,ex,L}:=I.bh p _ hk;exact{(o),e,ex}
   let {o,e,ex}:=z;refine{{(o),e,ex.1},λa O=>?_};cases O;exact{(o),e,ex.2.1}
  ·let {o,L,L,L,e,ex,L}:=I.bh p _ hk;refine{{(o),e,ex.1},λa O=>?_};cases O;exact{(o),e,ex.2.1}
 |_=>exact abX ty
def Uo (K:Ψ)(T:String)(r:V->List V->Hp->VK->Prop)(to:TE):TE:=λσ H Q=>to σ H λx H1=>SV K T x H1/\r x [] H1 Q
def tBM (K:Ψ)(T:String)(r:V->List V->Hp->VK->Prop)(to:TE)(t:TA):TE:=λσ H Q=>to σ H λx H1=>SV K T x H1/\t σ H1 λxs L=>r x xs L Q
variable {o:Expr}{to:TE}{t:TA}{name:Str}{T id:String}{r:V->List V->Hp->VK->Prop}
def Mr (pa:PlainAttrs T)(slot:Slot T name id)(V4:typeOf (.builtin id)=pure (.type "method_descriptor"))(hm:Yt X id r)(ho:PE X o to)
  (c8:aco o name .f (eval o .f)=eval o .f:=by rfl) (c7:(apos.endLine==cpos.line)=G:=by rfl):PE X (.Call (.Attribute o name apos) [] [] cpos) (Uo X.K T r to):=by
 intro χ s σ H Q I h;refine wpAny_Call_method0_late c8 c7 (bz (ho χ s σ H _ I h) λv s1 Vn=>?_);let {x,H1,O,L,ty,Y}:=Vn;let {h1,h2}:=C4 O L ty;exact{T,id,pa,slot,V4,h1,h2,adJ rfl (PySem.evalArgs_none (hm χ s1 σ H1 x [] v [] Q O L .nil Y))}
def zI (pa:PlainAttrs T)(slot:Slot T name id)(V4:typeOf (.builtin id)=pure (.type "method_descriptor"))(hm:Yt X id r)(ho:PE X o to)(ha:PA X (e::es) t)
  (c8:aco o name .f (eval o .f)=eval o .f:=by rfl)
  (iV:((abN cpos (aaz (e::es) .f)).all (λx=>!x.1)&&(ad9 cpos (ada [] .f)).all (λx=>x.1.isSome)
   && decide ((e::es).length+([]:List acO).length+.az<30))=G:=by rfl)
  (c7:(apos.endLine==cpos.line)=G:=by rfl) (hs:aaz (e::es) .f=.aE::aaz es .f:=by rfl) (fC:(abN cpos (aaz es .f)).any (·.1)=η:=by rfl) :
  PE X (.Call (.Attribute o name apos) (e::es) [] cpos) (tBM X.K T r to t):=by
 intro χ s σ H Q I h;refine wpAny_Call_method_late c8 iV c7 rfl (bz (ho χ s σ H _ I h) λv s1 Vm=>?_);let {x,H1,Y,L,ty,q1}:=Vm;let {h1,h2}:=C4 Y L ty;refine{T,id,pa,slot,V4,h1,h2,?_};have O:=ha cpos χ s1 σ H1 _ Y q1;rw[hs]at O ⊢
 refine adJ (by show (η || (abN cpos (aaz es .f)).any (·.1))=η;rw[fC] <;> rfl) (adV ?_)
 exact bz O λus s2 Nj=>by let {vs,H2,I2,r2,q2}:=Nj;exact hm χ s2 σ H2 x vs v us Q I2 L r2 q2
end
def Yu (X:Cx)(id:String)(r:V->List V->Hp->VK->Prop):Prop :=
 ∀(χ:List (μ×Obj)) (s:aao) (σ:St) (H:Hp) (x:V) (xs:List V) (v:aam) (us:List aam) (Q:VK),Inv X χ σ H s->RelV x v->Vals xs us->r x xs H Q ->
  aaD .aa X.A (call (.builtin id) (v::us)) (EP X χ σ Q) X.xe s
def Vals.one:∀{x:V} {us:List aam},Vals [x] us->∃u,us=[u]/\RelV x u:=by
 intro x us h;cases h with
 |cons r t =>
  cases t;exact{_,rfl,r}
theorem Vals.zero:∀{us:List aam},Vals [] us->us=[]
 |_,.nil=>rfl
def Vals.dropLast (h:Vals xs us):Vals xs.dropLast us.dropLast:=by
 induction h with
 |nil=>exact .nil
 |cons r t ih =>
  cases t with
  |nil=>exact .nil
  |cons q t'=>exact .cons r ih
theorem Vals.eraseIdx:∀{xs:List V} {us:List aam} (i:Nat),Vals xs us->Vals (xs.eraseIdx i) (us.eraseIdx i)
 |_,_,_,.nil=>.nil
 |_,_,0,.cons _ t=>t
 |_,_,i+1,.cons r t=>.cons r (Vals.eraseIdx i t)
theorem Vals.rep (h:Vals xs us):∀k:Nat,Vals (aaR k xs).flatten (aaR k us).flatten
 |0=>.nil
 |k+1=>by
  rw[aci,aci,ac6,ac6];exact Vals.append h (Vals.rep h k)
def yH {α:Type}(l:List α):l.eraseIdx (l.length-1)=l.dropLast:=by
 induction l with
 |nil=>rfl
 |cons a r ih =>
  cases r with
  |nil=>rfl
  |cons b r =>
   have e:(a::b::r).length-1=((b::r).length-1)+1:=by
    have O:(a::b::r).length=r.length+2:=rfl;have L:(b::r).length=r.length+1:=rfl;lia
   rw[e,List.eraseIdx_cons_succ,ih]
   all_goals rfl
theorem rQ {α:Type}:∀(l:List α) (i:Nat),(l.eraseIdx i).length<=l.length
 |[],_=>aaq _
 |_::_,0=>adz _
 |_::r,i+1=>Nat.succ_le_succ (rQ r i)
theorem foldl_rep (its:List aam):∀(k:Nat) (acc:List aam),
  List.foldl (λO L=>O++L) acc.toArray (aaR k its.toArray)=(acc++(aaR k its).flatten).toArray
 |0,acc=>by simp
 |k+1,acc=>by
  have e:acc.toArray++its.toArray=(acc++its).toArray:=by simp
  have Y:(acc++its)++(aaR k its).flatten=acc++(aaR (k+1) its).flatten:=by
   rw[aci,ac6,abx]
  rw[<- Y,<- foldl_rep its k (acc++its),<- e,aci,abZ]
section
variable {l:μ}{xs ys:List V}
def Inv.Jd {its its':List aam}{n:Nat}{f:Array aam->Array aam}{t':Nat}(I:Inv X χ σ H s)(hH:H l=M (.lst xs))
  (e:s.heap.get? l=M {cls:=.type "list",data:=.seq its.toArray n}) (Y:f its.toArray=its'.toArray) (L:Vals ys its') (hz:ys.length<=aaC) :
  Inv X χ σ (upd H l (.lst ys)) {s with heap:=s.heap.update l (abL f),toks:=t'}:=by
 have q:=PySem.IsL.update e f;rw[Y]at q;refine I.write (x:=l) (e:=l) (by rw[hH];exact tv) (.inl rfl) (λb' u hb O=>(ab0 s.heap (abL f) (abn hb)).trans O) {_,q} ?_
 exact{hz,its',_,L,q}
def Inv.MZ (I:Inv X χ σ H s)(L:Vals ys its)(hz:ys.length<=aaC):
  Inv X χ σ (upd H .e (.lst ys)) {s with heap:=s.heap.push {cls:=.type "list",data:=.seq its.toArray},toks:=t'} :=
 I.laid (λ_ _ q=>aar _ q) (aaq _) {hz,its,0,L,aaU _ rfl}
def Inv.fresh (I:Inv X χ σ H s):H .e=ξ:=I.bh.fresh (aaq _)
def Inv.yc (I:Inv X χ σ H s)(L:H l=M (.lst xs)):xs.length<=aaC/\∃(its:List aam) (n:Nat),Vals xs its/\xs.length=its.length/\s.heap.get? l=M {cls:=.type "list",data:=.seq its.toArray n}:=by
 let {z,its,n,r,e}:=I.bh l _ L;exact{(z),its,n,r,r.length,e}
def EE (h:n<=aaC):aeA n=η:=by
 unfold aeA;exact Φ .a
end
def zr:V->List V->Hp->VK->Prop:=λx vs H Q=>∃l xs y,x=.ref l/\vs=[y]/\H l=M (.lst xs)/\xs.length<aaC/\Q .cI (upd H l (.lst (xs++[y])))
def l9:Yu X "list.append" zr:=by
 intro χ s σ H x vs v us Q I O rv h;let {l,xs,y,rfl,rfl,L,hz,q}:=h;cases O;let {u,rfl,ru}:=rv.one;let {z,its,n,r,Y,e}:=I.yc L;refine call_meets F.slot_list_append {_,e,rfl} F.entry_list_append (F.args_list_append_2 _ _) (PySem.list_append l its.toArray n u (by rw[aaH];lia)) {e,?_}
 refine{.cI,_,I.Jd (its':=its++[u]) L e .c (r.append (.cons ru .nil)) ?_,rfl,q}
 rw[aax,abd];lia
def UB:V->List V->Hp->VK->Prop:=λx vs H Q=>∃l xs y,x=.ref l/\vs=[]/\H l=M (.lst xs)/\xs[xs.length-1]?=M y/\Q y (upd H l (.lst xs.dropLast))
def MU:Yu X "list.pop" UB:=by
 intro χ s σ H x vs v us Q I O rv h;let {l,xs,y,rfl,rfl,L,Y,q}:=h;cases O;have Nk:=rv.zero;subst Nk;let {z,its,n,r,hl,e}:=I.yc L;let {u,hu,ru}:=r.get Y;have VN:its.toArray[its.toArray.size-1]?=M u:=by
  show its.toArray[its.length-1]?=M u;rw[<- aaP,<- hl];exact hu
 refine call_meets F.slot_list_pop {_,e,rfl} F.entry_list_pop (F.args_list_pop_1 _) (MeetsSeq.list_pop_last l its.toArray n u VN (by rw[aaH];lia)) {e,?_}
 refine{y,_,I.Jd (its':=its.dropLast) L e ?_ r.dropLast ?_,ru,q}
 ·show its.toArray.eraseIdxIfInBounds (its.toArray.size-1)=its.dropLast.toArray;rw[aaH,List.eraseIdxIfInBounds_toArray,yH]
 ·rw[List.length_dropLast];lia
def L5:V->List V->Hp->VK->Prop:=λx vs H Q=>∃l xs i k y,x=.ref l/\vs=[.int i]/\H l=M (.lst xs)/\-(2 ^ 63)<=i/\i<2 ^ 63/\seqIndex? i xs.length=M k/\xs[k]?=M y/\Q y (upd H l (.lst (xs.eraseIdx k)))
def EI:Yu X "list.pop" L5:=by
 intro χ s σ H x vs v us Q I O rv h;let {l,xs,i,k,y,rfl,rfl,L,h1,h2,hk,Y,q}:=h;cases O;let {u,rfl,ru}:=rv.one;let {t,rfl}:=ru;let {z,its,n,r,hl,e}:=I.yc L;let {w,hw,LX}:=r.get Y;refine call_meets F.slot_list_pop {_,e,rfl} F.entry_list_pop (F.args_list_pop_2 _ _)
  (MeetsSeq.list_pop_at l its.toArray n i t k w (fitsIndex_both h1 h2) (by rw[aaH,<- hl];exact hk) (by rw[<- aaP];exact hw) (by rw[aaH];lia)) {e,?_}
 refine{y,_,I.Jd (its':=its.eraseIdx k) L e ?_ (r.eraseIdx k) ?_,LX,q}
 ·show its.toArray.eraseIdxIfInBounds k=(its.eraseIdx k).toArray;rw[List.eraseIdxIfInBounds_toArray]
 ·have:=rQ xs k;lia
def UG:R2:=λx y H Q=>∃l b xs L,x=.ref l/\y=.ref b/\H l=M (.lst xs)/\H b=M (.lst L)/\xs.length+L.length<=aaC/\∀p,H p=ξ->Q (.ref p) (upd H p (.lst (xs++L)))
def Es:j_ X (acz .Add) UG:=by
 intro χ s σ H x y v u Q I O L h;let {l,b,xs,zs,rfl,rfl,hH,hB,hz,q}:=h;cases O;cases L;let {z,its,n,r,hl,e}:=I.yc hH;let {z2,Jj,n2,Y,hl2,e2}:=I.yc hB;refine PySem.P.add_list e e2 ?_ (by rw[aaH,aaH];lia)
 have ea:its.toArray++Jj.toArray=(its++Jj).toArray:=by simp
 rw[ea];exact{.ref _,_,I.MZ (t':=s.toks) (r.append Y) (by rw[aax];lia),rfl,q _ I.fresh}
def UA:R2:=λx y H Q=>∃l k xs,x=.ref l/\y=.int k/\H l=M (.lst xs)/\-(2 ^ 63)<=k/\k<2 ^ 63/\xs.length*k.toNat<=aaC /\
 ∀p,H p=ξ->Q (.ref p) (upd H p (.lst (aaR k.toNat xs).flatten))
def len_rep {α:Type}(xs:List α)(k:Nat):(aaR k xs).flatten.length=k*xs.length:=by
 induction k with
 |zero=>simp
 |succ k ih=>rw[aci,ac6,aax,ih,Nat.succ_mul,Nat.add_comm]
def Mx:j_ X (acz .Mult) UA:=by
 intro χ s σ H x y v u Q I rx Y h;let {l,k,xs,rfl,rfl,hH,h1,h2,hz,q}:=h;cases rx;let {t,rfl}:=Y;let {z,its,n,r,hl,e}:=I.yc hH;have hlen:its.toArray.size*k.toNat<=aaC:=by rw[aaH,<- hl];exact hz
 have XU:¬ its.toArray.size*k.toNat>(2 ^ 63-1) / 8:=by
  have:(aaC:Nat)<=(2 ^ 63-1) / 8:=by decide
  lia
 have yA:¬ (!Builtin.List.listFitsIndex k)=G:=by
  rw[fitsIndex_both h1 h2];exact acb
 have RA:¬ aeA (its.toArray.size*k.toNat)=G:=by
  rw[EE hlen];exact acb
 have Xi:List.foldl (λO L=>O++L) #[] (aaR (if its.toArray.isEmpty=G then 0 else k.toNat) its.toArray)=(aaR k.toNat its).flatten.toArray:=by
  have f0:∀m:Nat,List.foldl (λO L=>O++L) #[] (aaR m its.toArray)=(aaR m its).flatten.toArray:=λm=>by
   have:=foldl_rep its m [];rw[List.nil_append]at this;exact this
  rw[f0];cases its with
  |nil=>simp
  |cons a r'=>rw[Δ .c]
 refine wpAny_binaryOp_repeat_ref (T:="list") (U:="int") .b {_,e,rfl} (λs'=>typeIs_int s' k t) noFill_list_mul F.fills_int_mul F.slot_int_rmul repeat_list F.slot_int_index.lookup
  (call_meets F.slot_int_rmul (typeIs_int s k t) F.entry_int_rmul (F.args_int_rmul_2 _ _) (int___rmul___int_list k t l its.toArray n)
   {e,rfl,{_,e,rfl},call_meets F.slot_list_mul {_,e,rfl} F.entry_list_mul (F.args_list_mul_2 _ _) (AutoListH.list___mul___list_int_3 l its.toArray n k t yA XU RA) {e,?_}})
 rw[Xi];exact{.ref _,_,I.MZ (t':=s.toks) (r.rep k.toNat) (by rw[len_rep,Nat.mul_comm];exact hz),rfl,q _ I.fresh}
end L2
namespace Z4
open PySem PySem.W PySem.Calls PyProof.Rows
def ny {P:Params}{h:Heap}:∀(ns:List Int) (vs:List aam),WellAll P h vs (ns.map WData.int)->acW vs ns:=by
 intro ns
 induction ns with
 |nil =>
  intro vs w;rw[List.map_nil]at w;cases w;exact .nil
 |cons n ns ih =>
  intro vs w;rw[aa8]at w;cases w with
  |cons a b =>
   cases a;exact .cons _ _ (ih _ b)
def Bc {l:OpenLaw}{n:Nat}(hn:l.most=M n){P:Params}{h:Heap}{args:List WData}{vals:List aam}
  (Jw:l.row.toRowW.claim.pre args=G) (VP:WellAll P h vals args) :
  ∃a vs ns,vals=[Ω a]/\args=[WData.list (ns.map WData.int)]/\h.get? a=M {cls:=.type "list",data:=.seq vs.toArray}/\acW vs ns/\ns.length<=n:=by
 have hsh:WShape.hasAll [] args [.list .int]=G:=(pre_splitW Jw).1;have hc:l.pre.holds [] {args:=args}=G:=(pre_splitW Jw).2;let {d,r,rfl,h1,h2}:=hasAllW_cons hsh;obtain rfl:=hasAllW_nil h2;let {xs,rfl,h3}:=hasW_list h1;let {ns,rfl}:=items_int h3;have hlen:ns.length<=n:=by
  unfold OpenLaw.pre at hc;have O:(WTm.not (.lt (.lit (.int (n:Int))) (.len (.arg 0)))).holds [] {args:=[.list (ns.map .int)]}=G:=by
   have O:=(holds_andW hc).1;rw[hn]at O;exact O
  have L:=condW_of O (w_not (w_lt w_lit (w_len_list (w_arg rfl))));rw[aan]at L;refine Nat.le_of_not_lt λq=>?_;have q':(n:Int)<((ns.length:Nat):Int):=by lia
  first
   | (rw[Ξ q']at L;exact Κ L .b)
   | (simp at L;lia)
 cases VP with
 |cons w1 Y =>
  cases Y;cases w1 with
  |list ho ly=>exact{_,_,ns,rfl,rfl,ho,ny ns _ ly,hlen}
def Bq (l:OpenLaw)(args:List WData):l.row.toRowW.claim.post args (.bool G) args=G :=
 postW_of (r:=l.row.toRowW) (X:=(G==G))
  (show WShape.has [] (.bool G) .bool=G by first|rfl|decide|simp[WShape.has,WShape.arms,WShape.armsAll])
  (show (WTm.eq .res (.lit (.bool G))).value [] {args:=args,res:=M (.bool G),after:=args}=M (.bool (G==G)) from w_eq_bool (w_res rfl) w_lit) rfl
def wQ {l:OpenLaw}{n:Nat}{q:aas}{loose:List Str}{XP:(Str->Option aam)->Heap->Prop}{YP:aaG->Heap->Prop}{d:DefRec}
  (hn:l.most=M n) (Tp:d.params.defaults=[])
  (call:∀(w:aaG) (s₀ s₁:aao) (mg mb:Str->Option aam) (fa:μ) (o:Obj) (pm cd doc:aam) (a:μ) (vs:List aam) (ns:List Int),
   Ground q loose [] XP w s₀ mg mb s₁.heap->YP w s₁.heap ->
   s₁.heap.get? fa=M o->o.data=.func (docDef d.name d.params d.body d.scope pm cd doc)->s₁.heap.CodeRec cd d.name->mg d.name=M (.ref fa) ->
   s₁.heap.get? a=M {cls:=.type "list",data:=.seq vs.toArray}->acW vs ns->ns.length<=n->s₁.gens=#[] ->
   adg (δ l.prog w) callerA (.call (.ref fa) {[.ref a],[]}) (λr s'=>r=.ok (.ret (.bool G))/\OldK s₁.heap s'.heap/\s'.os=s₁.os/\aet s'.gens) s₁) :
  WalkO q loose XP YP l.row.toRowW d [] (λf vs=>PySem.call f vs):=by
 intro w s₀ s₁ mg mb L Y fa o pm cd doc dV kV ho hd uu O Xm hg args vals as Jw aaj hrd VP Xr;obtain rfl:dV=.none:=Dflts.none O Tp;obtain rfl:kV=.none:=Dflts.noKw O;let {a,vs,ns,rfl,rfl,N3,hints,hlen}:=Bc hn Jw VP;refine enter_call (acy (call w s₀ s₁ mg mb fa o pm cd doc a vs ns L Y ho (fd_plain hd) uu Xm N3 hints hlen hg) λr s' hq=>?_);let {rfl,h2,h3,h4}:=hq;exact{.inl {.bool G,.bool G,[],rfl,λ_=>rfl,.bool G,Bq l _,λ_=>{List.Pairwise.nil,λ_ hm=>(nomatch hm)}},h2,h3,h4}
end Z4
namespace L2
open PySem PySem.Spec PyProof.Rows
def AU:∀{vs:List aam} {ns:List Int},acW vs ns->Vals (ns.map V.int) vs:=by
 intro vs ns h
 induction h with
 |nil=>exact .nil
 |cons n t h ih=>exact .cons {(t),rfl} ih
def O0 (H:Hp):Prop:=∀b,H b=ξ\/∃o xs,H b=M (.FH o (.lst xs))
def E2 {P:aas}{w:aaG}{K:Ψ}{mg mb:Str->Option aam}{CX:Cv}{k:Nat}{fa a:μ}{fd:aa6}{x:Str}{sp:Sp}{s₁:aao}{vs:List aam}{ns:List Int}
  (KX:K.In s₁.heap) (Pf:s₁.heap.Ns acq mg) (L:s₁.heap.Ns builtinsNs mb) (hbb:∀x:Str,x≠"__name__" -> mb x=abt x) (Xs:s₁.heap.NoLimit) (hg:s₁.gens=#[])
  (Y:s₁.heap.get? a=M {cls:=.type "list",data:=.seq vs.toArray}) (hi:acW vs ns) (hl:ns.length<=aaC) (hr:ck k callerA)
  (F:∀base:Heap,K.In base->base.Ns acq mg->aG P w K mg base CX k fa fd [x] sp) (RU:∀(s:aao) (u:aam),BindsTo s fd {[u],[]} [(x,u)])
  (iy:∀H:Hp,O0 H->dw K H a (ns.map V.int)->sp [.ref a] H (λv _=>v=.bl G) λ_ _ _=>False)
  (XZ:∀H e s',CX [] H s₁ (λ_ _ _=>False) e s'->False) :
  adg (δ P w) callerA (.call (.ref fa) {[.ref a],[]}) (λr s'=>r=.ok (.ret (.bool G))/\OldK s₁.heap s'.heap/\s'.os=s₁.os/\aet s'.gens) s₁:=by
 have rv:=AU hi;have Vb:=hi.length;have core:∀H:Hp,O0 H->dw K H a (ns.map V.int)->iq P w H s₁.heap->(∀b,H b≠ξ->b=a)->(H a≠ξ->K.lookup a=ξ) ->
   adg (δ P w) callerA (.call (.ref fa) {[.ref a],[]}) (λr s'=>r=.ok (.ret (.bool G))/\OldK s₁.heap s'.heap/\s'.os=s₁.os/\aet s'.gens) s₁:=by
  intro H hO hS bh hA hK;have AI:∀{b:μ} {o:Obj},s₁.heap.get? b=M o->H b=ξ->(t9 s₁.heap H).get? b=M o:=λe n=>Fx e n;have QK:∀{b:μ} {o:Obj} {es:Array adi} {ep:Nat},s₁.heap.get? b=M o->o.data=.dict es ep->H b=ξ:=λ{b o es ep} e d=>by
   cases q:H b with
   |none=>rfl
   |some u =>
    have e':b=a:=hA b (by rw[q];simp)
    subst e';rw[Y]at e;cases e;have d':Data.seq vs.toArray _=Data.dict es ep:=d;cases d'
  have S8:∀{b:μ} {m:Str->Option aam},s₁.heap.Ns b m->(t9 s₁.heap H).Ns b m:=λ{b m} VV=>by let {o,es,ep,e,d,r}:=VV;exact{o,es,ep,AI e (QK e d),d,r}
  have ZC:K.In (t9 s₁.heap H):=λb o e=>AI (KX b o e) (by
   cases q:H b with
   |none=>rfl
   |some u =>
    have e':b=a:=hA b (by rw[q];simp)
    subst e';rw[hK (by rw[q];simp)]at e;cases e)
  have hM:Mod K mg (t9 s₁.heap H):={ZC,S8 Pf,{mb,S8 L,hbb},let ⟨mc,h1,h2⟩:=Xs;{mc,S8 h1,h2}}
  have e0:G0 P w K mg (t9 s₁.heap H) callerA [] s₁ H:={rfl,hM,λb o e=>IY e,adG (B0 _ _),tv,λb L=>Κ (show b∈([]:List μ) from L) .c,bh,.of_eq hg}
  refine acy ((F _ ZC (S8 Pf)).run callerA [] s₁ H {[.ref a],[]} [.ref a] [.ref a] _ _ hr e0 (RU s₁ (.ref a)) (.cons rfl .nil) (iy H hO hS)) λr s' h=>?_;cases r with
  |error e=>exact(XZ H e s' h).elim
  |ok fl =>
   cases fl with
   |next=>exact abX h
   |brk=>exact abX h
   |cont=>exact abX h
   |ret u =>
    let {v,H',os,bare,un,Xe,r',q}:=h;have q':v=.bl G:=q;subst q';obtain rfl:u=Value.bool G:=r';refine{rfl,OldK.of_keep λb o e=>?_,os,bare};cases q:H b with
    |none=>exact un.keep b o e q (by intro z;exact Κ (show b∈([]:List μ) from z) .c) .c
    |some u =>
     rcases hO b with z|⟨ob,xs,z⟩
     ·rw[q]at z;cases z
     ·have z2:=un.iW b ob _ z;let {e1,_x}:=bh b _ z;let {e2,_x}:=Xe b _ z2;rw[e]at e1;cases e1;exact e2
 cases hk:K.lookup a with
 |some o =>
  have e:=KX a o hk;rw[Y]at e;cases e;refine core (λ_=>ξ) (λ_=>.inl rfl) (.inr {_,vs.toArray,_,hk,rfl,rfl,rfl,by rw[aaH,Vb];exact hl,by simpa using rv}) (λb u z=>by have O:(ξ:Option HO)=M u:=z;cases O) (λb z=>Κ rfl z) λz=>Κ rfl z
 |none =>
  refine core (λb=>if b=a then M (.FH {cls:=.type "list",data:=.seq vs.toArray} (.lst (ns.map V.int))) else ξ) (λb=>?_) (.inl (.inr {{cls:=.type "list",data:=.seq vs.toArray},ω rfl})) (λb u z=>?_) (λb z=>?_) λ_=>hk
  ·by_cases L:b=a
   ·exact .inr {_,_,ω L}
   ·exact .inl (Δ L)
  ·by_cases L:b=a
   ·have O:=(ω L).symm.trans z;cases O;subst L;exact{Y,by rw[aan];exact hl,vs,_,rv,Y}
   ·have O:=(Δ L).symm.trans z;cases O
  ·by_cases L:b=a
   ·exact L
   ·exact Κ (Δ L) z
def HB {l:PySem.W.OpenLaw}{n k:Nat}{q:aas}{loose:List Str}{XP:(Str->Option aam)->Heap->Prop}{YP:aaG->Heap->Prop}{d:DefRec}{K:Params->Ψ}{CX:aaG->Cv}{sp:aaG->Sp}{x:Str}
  (hn:l.most=M n) (Ti:n<=aaC) (Tp:d.params.defaults=[]) (O:ck k callerA)
  (hY:∀(w:aaG) (h:Heap),YP w h->(K w.params).In h)
  (F:∀(w:aaG) (mg:Str->Option aam) (fa:μ) (h:Heap),(K w.params).In h->h.Ns acq mg->mg d.name=M (.ref fa) ->
   ∃fd:aa6,(∀(s:aao) (u:aam),BindsTo s fd {[u],[]} [(x,u)]) /\
    ∀base:Heap,(K w.params).In base->base.Ns acq mg->aG l.prog w (K w.params) mg base (CX w) k fa fd [x] (sp w))
  (iy:∀(w:aaG) (H:Hp) (a:μ) (ns:List Int),ns.length<=n->O0 H->dw (K w.params) H a (ns.map V.int)->sp w [.ref a] H (λv _=>v=.bl G) λ_ _ _=>False)
  (XZ:∀(w:aaG) (H:Hp) (s:aao) (e:aam) (s':aao),CX w [] H s (λ_ _ _=>False) e s'->False) :
  PySem.W.WalkO q loose XP YP l.row.toRowW d [] (λf vs=>PySem.call f vs):=by
 refine Z4.wQ hn Tp λw s₀ s₁ mg mb fa o pm cd doc a vs ns L Y ho hd uu Xm N3 hints hlen hg=>?_;have KX:=hY w _ Y;let {fd,hb,hF}:=F w mg fa _ KX L.T.g Xm;exact E2 KX L.T.g L.T.b L.T.builtins L.T.nolimit hg N3 hints (aa3 hlen Ti) O hF hb (λH hO hS=>iy w H a ns hlen hO hS) λH e s'=>XZ w H s₁ e s'
abbrev bP:Cv:=λ_ _ _ _ _ _=>False
abbrev E0:XK:=λ_ _ _=>False
def zK {X:Cx}:Passes bP X E0:=λ_ _ _ _ _ _ _ h=>h.elim
structure AO (K:Ψ)(x qual:Str)(st:Stmt)(f:μ)(fd:aa6):Prop where
 ex:∃(oc:aam) (od:Option μ) (kV doc pm:aam) (an:Option μ) (bD ct:aam) (II:Array (Option aam)),
  fd=Η x qual (n9 st) (dI st) (ak st) .none kV doc pm an bD ct/\K.lookup f=M {oc,od,.func fd,II}/\PySem.W.codeIn K bD qual=G
 kp:Β K (.ref f)=G
def AO.ok {x qual:Str}{st:Stmt}{f:μ}{fd:aa6}{N ps:List Str}{k:Nat}{sp:Sp}(F:AO K x qual st f fd)(S:aH N ps (ak st))(len:∀vs H Q E,sp vs H Q E->vs.length=ps.length)
  (gD:∀(bD:aam) (A:abf) (outer:List Env) (s:aao) (H:Hp) (vs:List V) (Q:VK) (E:XK),ck k (A.deeper (adX qual (ak st) .e f bD))->sp vs H Q E ->
   ∃t,sQ (mG bP P w K mg base N qual (ak st) f bD A outer s H E).qu (dI st) t/\t {nx:=λ_ H'=>Q .cI H',rt:=Q} (start N vs) H):aG P w K mg base bP (k+1) f fd ps sp:=by
 let {oc,od,kV,doc,pm,an,bD,ct,II,rfl,lk,uu}:=F.ex;refine K3 lk uu S len λA outer s H vs Q E L iy=>?_;let {t,h,q}:=gD bD A outer s H vs Q E L iy;exact{(t),h.qu,q}
def Of {x qual:Str}{st:Stmt}{f:μ}{oc:aam}{od an:Option μ}{II:Array (Option aam)}{kV doc pm bD ct:aam}(l:K.lookup f=M {oc,od,.func (Η x qual (n9 st) (dI st) (ak st) .none kV doc pm an bD ct),II})
  (c:PySem.W.codeIn K bD qual=G) (k:Β K (.ref f)=G):AO K x qual st f (Η x qual (n9 st) (dI st) (ak st) .none kV doc pm an bD ct):={{(oc),od,kV,doc,pm,an,bD,ct,II,rfl,l,c},k}
def pv (i:Nat)(O:X.N[i]?=M x:=by rfl)(L:Lf X.env.scope x:=by first|exact Or.inl rfl|exact Or.inr (Or.inl rfl)|exact Or.inr (Or.inr rfl))(hd:(x==("__debug__" : Str))=η:=by decide)
  (uu:(x==("__classdict__" : Str))=η:=by decide):PE X (.Name x pos) (LJ i):=xX O L hd uu
def ay (H H':Hp):Prop:=∀b o,H b=M o->H' b=M o
def ay.refl (H:Hp):ay H H:=λ_ _ h=>h
def ay.trans {H H1 L:Hp}(a:ay H H1)(b:ay H1 L):ay H L:=λc o h=>b c o (a c o h)
def ay.free {H H':Hp}(e:ay H H')(h:H' l=Option.none):H l=Option.none:=by
 cases q:H l with
 |none=>rfl
 |some o =>
  rw[e l o q]at h;cases h
def ay.seq {K:Ψ}{H H':Hp}{a:μ}{xs:List V}(e:ay H H')(h:dw K H a xs):dw K H' a xs:=by
 rcases h with (h|⟨o,h⟩)|h
 ·exact .inl (.inl (e _ _ h))
 ·exact .inl (.inr {o,e _ _ h})
 ·exact .inr h
structure Nm (X:Cx)(i:Nat)(x:Str):Prop where
 a:X.N[i]?=M x
 b:Lf X.env.scope x
 c:.ai=η
 d:(x==("__classdict__" : Str))=η
def CC {X:Cx}(a:X.N[i]?=M x:=by rfl)(b:Lf X.env.scope x:=by first|exact .inl rfl|exact .inr (.inl rfl)|exact .inr (.inr rfl))(c:(x==("__debug__" : Str))=η:=by decide)(d:(x==("__classdict__" : Str))=η:=by decide):Nm X i x:={(a),b,c,d}
def ij {X:Cx}(h:Nm X i x):PE X (.Name x pos) (LJ i):=xX h.a h.b h.c h.d
section
variable {c:Expr}{ta tb:TE}
def xf (i j:Int):Prop:=0<j/\j.natAbs.log2<9000
def xf.of {i j:Int}(O:0<j)(h:j<2 ^ 200):xf i j:=by
 refine{O,?_};have L:j.natAbs<2 ^ 200:=by lia
 have:=(Nat.log2_lt (n:=j.natAbs) (k:=200) .a).mpr L
 lia
def vb:j_ X (acz .FloorDiv) (rI xf λi j=>.int (i / j)):=S7 λi j _ _ _ _ _ hc q=>by
 have L:(0:Int)<j:=hc.1;exact floordiv_int .a (by rw[Int.fdiv_eq_ediv_of_nonneg i .a];exact q) (.inl (PyProof.noPylong_of_log2 hc.2))
def Lk (X:Cx)(ops:List ad2)(L:List Expr)(t:V->TE):Prop :=
 ∀(pos:Pos) (χ:List (μ×Obj)) (s:aao) (σ:St) (H:Hp) (x:V) (v:aam) (Q:VK),Inv X χ σ H s->RelV x v->t x σ H Q ->
  aaD .aa X.A (compareChain pos v ops (evalEach L .f)) (EP X χ σ Q) X.xe s
def yY (X:Cx)(ops:List ad2)(L:List Expr)(t:V->TT):Prop :=
 ∀(pos:Pos) (χ:List (μ×Obj)) (s:aao) (σ:St) (H:Hp) (x:V) (v:aam) (Q:Bool->Hp->Prop),Inv X χ σ H s->RelV x v->t x σ H Q ->
  aaD .aa X.A (testChain pos v ops (evalEach L .f)) (TP X χ σ Q) X.xe s
variable {op MB:ad2}{ops:List ad2}{rs:List Expr}{r:R2}{t:V->TE}{tt:V->TT}
def OG (ho:j_ X (abv op) r)(hb:PE X b tb):Lk X [op] [b] (λx σ H Q=>tb σ H λy H2=>r x y H2 Q):=by
 intro pos χ s σ H x v Q I L h;exact chain_last (bz (hb χ s σ H _ I h) λu s1 lj=>by let {y,H1,I1,O,Y}:=lj;exact ho χ s1 σ H1 x y v u Q I1 L O Y)
def Kg (ho:j_ X (abv op) r)(hb:PE X b tb)(hc:Lk X (MB::ops) (c::rs) t):
  Lk X (op::MB::ops) (b::c::rs) (λx σ H Q=>tb σ H λy H2=>r x y H2 λz L=>∃k,z=.bl k/\(if k=G then t y σ L Q else Q (.bl η) L)):=by
 intro pos χ s σ H x v Q I rx h;refine chain_link (bz (hb χ s σ H _ I h) λu s1 ⟨y,H1,I1,O,q1⟩=>bz (ho χ s1 σ H1 x y v u _ I1 rx O q1) λd s3 gC=>?_);let {z,L,I3,r3,k,e,Y}:=gC;subst e;cases r3;refine ab4 ?_;cases k with
 |false=>exact ite_ff {.bl η,L,I3,rfl,Y}
 |true=>exact ite_tt (hc pos χ s3 σ L y u Q I3 O Y)
def Bw (ha:PE X a ta)(hc:Lk X (oZ::oY::ops) (b::c::rs) t)(Y:lastMarks (oZ::oY::ops) (b::c::rs)=η:=by with_unfolding_all rfl):
  PE X (.Compare a (oZ::oY::ops) (b::c::rs) pos) (λσ H Q=>ta σ H λx H1=>t x σ H1 Q):=by
 intro χ s σ H Q I h;exact Compare_chain (bz (ha χ s σ H _ I h) λv s1 Fl=>by let {x,H1,I1,L,O}:=Fl;exact hc pos χ s1 σ H1 x v Q I1 L O) Y
def Kf (ho:j_ X (abv op) r)(hb:PE X b tb):yY X [op] [b] (λx σ H Q=>tb σ H λy H2=>r x y H2 λz L=>∃k,z=.bl k/\Q k L):=by
 intro pos χ s σ H x v Q I O h;refine test_last (bz (hb χ s σ H _ I h) λu s1 ⟨y,H1,I1,r1,q1⟩=>bz (ho χ s1 σ H1 x y v u _ I1 O r1 q1) λd s3 mw=>?_);let {z,L,I3,Y,k,e,q3}:=mw;subst e;cases Y;exact ab4 {(L),I3,q3}
def Gm (ho:j_ X (abv op) r)(hb:PE X b tb)(hc:yY X (MB::ops) (c::rs) tt):
  yY X (op::MB::ops) (b::c::rs) (λx σ H Q=>tb σ H λy H2=>r x y H2 λz L=>∃k,z=.bl k/\(if k=G then tt y σ L Q else Q η L)):=by
 intro pos χ s σ H x v Q I rx h;refine test_link (bz (hb χ s σ H _ I h) λu s1 ⟨y,H1,I1,O,q1⟩=>bz (ho χ s1 σ H1 x y v u _ I1 rx O q1) λd s3 BW=>?_);let {z,L,I3,r3,k,e,Y}:=BW;subst e;cases r3;refine ab4 ?_;cases k with
 |false=>exact ite_ff {(L),I3,Y}
 |true=>exact ite_tt (hc pos χ s3 σ L y u Q I3 O Y)
end
def GB:abt "max" = M (.builtin "max"):=by decide +kernel
def ON:abt "min" = M (.builtin "min"):=by decide +kernel
def yR:abt "int" = M (.type "int"):=by decide +kernel
def n_:abt "list" = M (.type "list"):=by decide +kernel
def fh:abt "sorted" = M (.builtin "sorted"):=by decide +kernel
def OO:abt "isinstance" = M (.builtin "isinstance"):=by decide +kernel
def dJ:abt "len" = M (.builtin "len"):=by decide +kernel
def Q6 {c A B:Prop}[Decidable c](hc:c)(h:A):if decide c=G then A else B:=by
 rw[ω (Ξ hc)];exact h
def Q8 {c A B:Prop}[Decidable c](hc:¬ c)(h:B):if decide c=G then A else B:=by
 rw[Δ (by simp[hc])]
 exact h
def Vh {c A B:Prop}[Decidable c](O:c->A)(L:¬ c->B):if decide c=G then A else B:=by
 by_cases h:c
 ·exact Q6 h (O h)
 ·exact Q8 h (L h)
def ay.new {H:Hp}{p:μ}{o:HO}(n:H p=ξ):ay H (L2.upd H p o):=λb u e=>by rw[au (dj e n)];exact e
def Qy:Cw 10 18:={.b,.b,.b}
def nV {a:Int}{b:Int}(h:0<b):0<=a % b/\a % b<b:={Int.emod_nonneg a .a,Int.emod_lt_of_pos a h}
def aQ (X:Cx)(scope:acF)(N':List Str)(cl:List (Str×μ))(C:μ)(s:aao)(H:Hp)(ex:List μ):Cx :=
 {X with N:=N',s₀:=s,H₀:=H,env:=compEnvC scope cl C .f,outer:=X.stack,stack:=X.stack,ex:=ex,fn:=λ_=>η,pn:=[],xe:=λ_ _=>False}
theorem j6 :∀(names:List (Str×acQ)) (cs:List (Str×μ)),(∀x,(x,abc)∈names->∃c,env.cells.lookup x=M c) ->
  (∀x c,cs.lookup x=M c->env.cells.lookup x=M c) ->
  ∃cl,(forIn names cs λ(p:Str×acQ) (cs:List (Str×μ))=>do
   if p.2==.free then do
    let a <- cellOf env p.1
    pure (ForInStep.yield ((p.1,a)::cs))
   else pure (ForInStep.yield cs):Sem (List (Str×μ)))=pure cl /\
   (∀x,((x,abc)∈names\/(∃c,cs.lookup x=M c))->∃c,cl.lookup x=M c)/\∀x c,cl.lookup x=M c->env.cells.lookup x=M c
 |[],cs,_,O=>{cs,rfl,λx h=>h.elim (λz=>nomatch z) id,O}
 | (n,k)::names,cs,Y,O=>by
  by_cases hk:k=.free
  ·subst hk;let {c,hc}:=Y n (aaO ..);let {cl,e,h1,h2}:=j6 names ((n,c)::cs) (λx L=>Y x (aaL _ L)) (λx c' L=>by
    rw[abw]at L;cases q:x==n with
    |true=>rw[q]at L;cases L;rw[eq_of_beq q];exact hc
    |false=>rw[q]at L;exact O x c' L)
   refine{cl,?_,λx L=>h1 x ?_,h2}
   ·rw[ac0];have ec:cellOf env n=pure c:=by unfold cellOf;rw[hc]
    simp only[beq_self_eq_true,if_true,ec];exact e
   ·rcases L with L|⟨c',L⟩
    ·rcases aat.mp L with z|z
     ·cases z;exact .inr {c,by simp}
     ·exact .inl z
    ·right
     rw[abw];cases q:x==n with
     |true=>exact{(c),rfl}
     |false=>exact{(c'),L}
  ·let {cl,e,h1,h2}:=j6 names cs (λx L=>Y x (aaL _ L)) O;refine{cl,?_,λx L=>h1 x ?_,h2}
   ·rw[ac0];have hb:(k==abc)=η:=by simpa using hk
    simp only[hb,abQ,if_false];exact e
   ·rcases L with L|L
    ·rcases aat.mp L with z|z
     ·cases z;exact Κ rfl hk
     ·exact .inl z
    ·exact .inr L
def gg (h:∀x,(x,abc)∈scope.names->∃c,env.cells.lookup x=M c):
  ∃cl,closureFor scope env=pure cl/\(∀x,(x,abc)∈scope.names->∃c,cl.lookup x=M c)/\∀x c,cl.lookup x=M c->env.cells.lookup x=M c:=by
 let {cl,e,Y,O}:=j6 scope.names [] h (λx c z=>by simp at z)
 refine{cl,?_,λx L=>Y x (.inl L),O};unfold closureFor;refine Eq.trans ?_ (Μ (· >>= pure) e);rfl
structure Links (X:Cx)(scope:acF)(N':List Str)(lk:List .aB):Prop where
 kind:scope.kind=.function
 ya:∀x∈scope.names,x.2≠.cell
 names:∀x∈scope.names,x.2=.local->scope.names.lookup x.1=M .local
 free:∀x,(x,abc)∈scope.names->X.env.kindOf x=M .cell\/X.env.kindOf x=M .free
 len:lk.length=N'.length
 link:∀(i j:Nat),lk[i]?=M (M j)->∃x,N'[i]?=M x/\X.N[j]?=M x/\(x,abc)∈scope.names/\scope.names.lookup x=M .free
def md (outer:List (Str×acQ))(N:List Str)(scope:acF)(N':List Str)(lk:List .aB):Bool :=
 (scope.kind==.function)&&scope.names.all (λx=>x.2 != .cell&&(x.2 != .local || scope.names.lookup x.1==M .local)&&(x.2 != .free || outer.lookup x.1==M .cell || outer.lookup x.1==M .free)) &&
 lk.length==N'.length&&(aaA lk.length).all λi=>match lk[i]? with
  |some (M j)=>match N'[i]? with
   |some x=>N[j]?==M x&&scope.names.contains (x,.free)&&scope.names.lookup x==M .free
   |none=>η
  |_=>G
def Links.of {X:Cx}(h:md X.env.scope.names X.N scope N' lk=G):Links X scope N' lk:=by
 simp only[md,aa1]at h;obtain⟨⟨⟨h1,O⟩,h3⟩,Y⟩:=h;rw[acS]at O Y;refine{by simpa using h1,λx L=>?_,λx L hl=>?_,λx L=>?_,by simpa using h3,λi j aN=>?_}
 ·have:=O x L;simp only[aa1]at this;simpa using this.1.1
 ·have:=O x L;simp only[aa1]at this;have q:=this.1.2;rw[hl]at q;simpa using q
 ·have:=O _ L;simp only[aa1]at this;have q:=this.2;simp only[ad0]at q;rcases q with (q|q)|q
  ·simp at q
  ·exact .inl (show X.env.scope.names.lookup x=M .cell by simpa using q)
  ·exact .inr (show X.env.scope.names.lookup x=M .free by simpa using q)
 ·have hi:i<lk.length:=(aay.mp aN).1;have q:=Y i (aa2.mpr hi);rw[aN]at q;simp only at q;cases e:N'[i]? with
  |none=>rw[e]at q;simp at q
  |some x =>
   rw[e]at q;simp only[aa1]at q;obtain⟨⟨q1,q2⟩,q3⟩:=q;exact{x,rfl,by simpa using q1,by simpa using q2,by simpa using q3}
def cV (lk:List .aB)(σ:St):St:=lk.map λl=>match l with|some j=>(match σ[j]? with|some v=>v|none=>ξ)|none=>ξ
theorem cU {env:Env}:∀{names:List (Str×acQ)} {x:Str},names.lookup x=M .free ->
  (names.map λ(n,k)=>if .al then (n,abC) else (n,k)).lookup x=M .cell \/
  (names.map λ(n,k)=>if .al then (n,abC) else (n,k)).lookup x=M .free
 |[],_,h=>by simp at h
 | (n,k)::r,x,h=>by
  have ih:=@cU env r x;show List.lookup x ((if .al=G then (n,abC) else (n,k))::_)=_ \/
   List.lookup x ((if .al=G then (n,abC) else (n,k))::_)=_
  cases L:x==n with
  |true =>
   simp only[abw,L]at h;cases h
   by_cases hc:(abc==abc&&env.scope.kind==.function&&env.kindOf n==M .cell)=G
   ·rw[ω hc];left;simp[abw,L]
   ·rw[Δ hc];right;simp[abw,L]
  |false =>
   simp only[abw,L]at h
   by_cases hc:.al=G
   ·rw[ω hc];simp only[abw,L];exact ih h
   ·rw[Δ hc];simp only[abw,L];exact ih h
theorem eR {env:Env}:∀{names:List (Str×acQ)} {x:Str} {k:acQ},(k=.cell\/k=.free)->(∀y∈names,y.2≠.cell) ->
  (names.map λ(n,k)=>if .al then (n,abC) else (n,k)).lookup x=M k->(x,abc)∈names
 |[],_,_,_,_,h=>by simp at h
 | (n,k')::r,x,k,hk,hc,h=>by
  have ih:=@eR env r x k hk (λy O=>hc y (aaL _ O));have h':List.lookup x ((if (k'==abc&&env.scope.kind==.function&&env.kindOf n==M .cell)=G then (n,abC) else (n,k'))::(r.map λ(n,k)=>if .al then (n,abC) else (n,k)))=M k:=h
  have Pg:=hc (n,k') (aaO ..)
  by_cases JD:(k'==abc&&env.scope.kind==.function&&env.kindOf n==M .cell)=G
  ·rw[ω JD]at h';simp only[aa1,beq_iff_eq]at JD;cases L:x==n with
   |true=>rw[eq_of_beq L,JD.1.1];exact aaO ..
   |false=>rw[abw,L]at h';exact aaL _ (ih h')
  ·rw[Δ JD]at h';cases L:x==n with
   |true =>
    rw[abw,L]at h';have e:k'=k:=by simpa using h'
    subst e;rcases hk with hk|hk
    ·exact Κ hk Pg
    ·rw[eq_of_beq L,hk];exact aaO ..
   |false=>rw[abw,L]at h';exact aaL _ (ih h')
section
variable {cl:List (Str×μ)}{ex:List μ}
def Fb (I:Inv X χ σ H s)(L:Links X scope N' lk)(hex:∀b∈ex,eV X χ H b)(JA:∀b∈ex,∃o,s.heap.get? b=M o)
  (nY:∀x,(x,abc)∈scope.names->∃c,cl.lookup x=M c) (nB:∀x c,cl.lookup x=M c->X.env.cells.lookup x=M c)
  (hn:h'.Ns .e (λ_=>ξ)) (hk:∀b o,s.heap.get? b=M o->h'.get? b=M o) :
  Inv (aQ X scope N' cl .e s H ex) [] (cV lk σ) H {s with heap:=h',toks:=t'}:=by
 let {m,hm,hl}:=I.loc;have Tw:∀b∈ex,b≠.e:=λb O=>by
  let {o,e}:=JA b O;exact aaN (aaw e)
 refine⟨⟨I.ok.mod,L.kind,I.ok.glob,I.ok.blt,aaq _,λx y c h1 Y=>I.ok.inj x y c (nB _ _ h1) (nB _ _ Y),λx hx=>?_,λx c z=>.au,I.ok.hd,I.ok.frames,.inl rfl,
  λb O=>{Tw b O,λx c e=>(hex b O).2.2.2.2.1 x c (nB _ _ e)},I.bs,aa3 I.ok.yS I.sz,λb o e z=>?_,λb O z=>?_,I.stack,I.nH⟩,
  rfl,I.bare,Un.kept hk,{_,hn,λi x v h1 Y h3=>?_},λx c e=>?_,I.bh.fresh (aaq _),λx c e=>I.dQ x c (nB _ _ e),λp hp=>Κ (show p∈([]:List (μ×Obj)) from hp) .c,I.bh.kept hk,?_⟩
 ·have yt:(relabel scope .f).names.lookup x=M .cell\/(relabel scope .f).names.lookup x=M .free:=hx;rcases yt with q|q
  ·exact nY x (eR (.inl rfl) L.ya q)
  ·exact nY x (eR (.inr rfl) L.ya q)
 ·let {f0,f1,f2,f3,_x}:=hex b z;rcases f3 with q|q
  ·exact I.ok.qP b o e q
  ·have h1:=aaw e;have Y:=I.ok.yS;exact Κ (aaV h1 (aa3 Y q)) (ab7 _)
 ·let {f0,f1,f2,f3,_x}:=hex b O;rcases aat.mp (I.sY b z)with q|q
  ·exact f1 q
  ·exact f2 q
 ·have hi:∃j,lk[i]?=M (M j)/\σ[j]?=M (M v):=by
   have qA:(cV lk σ)[i]?=M (M v):=Y;unfold cV at qA;rw[aaB]at qA;cases e:lk[i]? with
   |none=>rw[e]at qA;cases qA
   |some l =>
    cases l with
    |none=>rw[e]at qA;cases qA
    |some j =>
     rw[e]at qA;cases e2:σ[j]? with
     |none=>simp[e2]at qA
     |some w' =>
      simp only[adY,e2,aeq]at qA;subst qA;exact{(j),rfl,e2}
  let {j,hj,hσ}:=hi;let {y,e1,e2,e3,e4}:=L.link i j hj;have X_:x=y:=by
   have yC:N'[i]?=M x:=h1;rw[e1]at yC;exact(aaZ yC).symm
  subst X_;have Nh:Lf X.env.scope x:=by
   rcases L.free x e3 with q|q
   ·exact .inr (.inl q)
   ·exact .inr (.inr q)
  let {u,ru,lu}:=hl j x v e2 hσ Nh;refine{u,ru,.inr {?_,?_}}
  ·exact cU e4
  ·rcases lu with⟨k,_⟩|⟨_,c,hc,z⟩
   ·rcases L.free x e3 with q|q <;> (rw[k]at q;cases q)
   ·let {c',qw}:=nY x e3;have:=nB x c' qw;rw[hc]at this;cases this;let {o,ho,hd}:=z;exact{c,qw,o,hk _ _ ho,hd}
 ·let {v,o,ho,hd}:=I.cell x c (nB _ _ e);exact{v,o,hk _ _ ho,hd}
 ·show (cV lk σ).length=N'.length;unfold cV;rw[aan,L.len]
def Fc {s':aao}{σ':St}{H':Hp}{pl:List (μ×Obj)}{C:μ}{h'':Heap}(I:Inv X χ σ H s)(hex:∀b∈ex,eV X χ H b)
  (J:Inv (aQ X scope N' cl .e s H ex) pl σ' H' s') (hs:ach .e s'.heap h''):Inv X χ σ H' {s' with heap:=h''}:=by
 have Y:H' .e=ξ:=J.free;have u:=J.base;refine I.Gy (ch:=ex) (s':={s' with heap:=h''}) J.os ?_ ?_ J.bare (λb L=>?_)
 ·have kk:∀b o,b≠.e->s'.heap.get? b=M o->h''.get? b=M o:=λb o L e=>(hs.2 b L).trans e;have ne:∀b o,s.heap.get? b=M o->b≠.e:=λb o e=>aaN (aaw e);refine{λb o e n L O=>kk b _ (ne b o e) (u.keep b o e n L O),λb o e n L O=>?_,u.free,λb o e O=>?_,u.jA,u.iW,u.jB}
  ·let {sl,q}:=u.slot b o e n L O;exact{sl,kk b _ (ne b o e) q}
  ·let {o',q}:=u.there b o e O;exact{o',kk b _ (ne b o e) q}
 ·intro b o e;have L:b≠.e:=λz=>by rw[z]at e;rw[Y]at e;cases e
  refine(J.bh b o e).nr (λc v hc q=>(hs.2 c ?_).trans q) (λ_ q=>q) λ_ _ q=>q;rcases hc with z|z
  ·rw[z];exact L
  ·intro z';rw[z']at z;rw[Y]at z;cases z
 ·let {f0,f1,f2,f3,f4,f5}:=hex b L;exact{(f3),f1,f4,f5}
end
def oq (g:acN)(after:Sem Fin->Sem Fin)(e:Expr)(d:Nat)(it acc:aam)(env:Env):Sem Fin:=do
 aep g.iter.pos
 match <- acv it with
 |none=>pure (.done .next)
 |some v =>
  letOwnedTupleGo g.target it v
  assign g.target env v
  let mut ok:=G
  for c in g.ifs do
   if ok then ok <- isTrue c env (eval c env)
  if ok then after (again (.compLoop e d it acc env)) else again (.compLoop e d it acc env)
def tT (e:Expr)(d:Nat)(g':acN)(acc:aam)(env:Env)(k:Sem Fin):Sem Fin:=do
 let x <- eval g'.iter env
 aep g'.iter.pos
 let x <- abu g'.iter env x
 let _ <- runOwn (.compStart e (d+1) (<- holding [x] (pyIter x)) acc env) env
 k
def zf (t:Sem Unit)(k:Sem Fin):Sem Fin:=do
 t
 k
def Au (elt:Expr)(acc:aam)(env:Env):Sem Unit:=do let _ <- call (.builtin "list.append") [acc,<- eval elt env]
structure ir (e:Expr)(d:Nat)(g:acN)(acc:aam)(env:Env)(after:Sem Fin->Sem Fin):Prop where
 turn:∀it,compTurn e d it acc env=oq g after e d it acc env
 cl:(clausesOf e)[d]?=M g
 sync:g.is_async=0
 quiet:∀it,(aez e d it acc env).quiet=G
 under:∀(A:abf) it,A.under (aez e d it acc env)=A
 LC:∀(A:abf) it,A.under (Code.compStart e d it acc env)=A
 MR:∀it,(aez e d it acc env).isFrame=η
 QJ:∀it,(Code.compStart e d it acc env).isFrame=η
section
variable {C9 tY:Expr}{qS:List Expr}{sc:acF}{acc:aam}{env:Env}
def AE:ir (.ListComp elt [{tg,du,ifs,0}] sc pos) 0 {tg,du,ifs,0} acc env (zf (Au elt acc env)) :=
 {λ_=>rfl,rfl,rfl,λ_=>rfl,λ_ _=>rfl,λ_ _=>rfl,λ_=>rfl,λ_=>rfl}
def OI:ir (.ListComp elt [{tg,du,ifs,0},{C9,tY,qS,0}] sc pos) 0 {tg,du,ifs,0} acc env (tT (.ListComp elt [{tg,du,ifs,0},{C9,tY,qS,0}] sc pos) 0 {C9,tY,qS,0} acc env) :=
 {λ_=>rfl,rfl,rfl,λ_=>rfl,λ_ _=>rfl,λ_ _=>rfl,λ_=>rfl,λ_=>rfl}
def OH:ir (.ListComp elt [{tg,du,ifs,0},{C9,tY,qS,0}] sc pos) 1 {C9,tY,qS,0} acc env (zf (Au elt acc env)) :=
 {λ_=>rfl,rfl,rfl,λ_=>rfl,λ_ _=>rfl,λ_ _=>rfl,λ_=>rfl,λ_=>rfl}
end
def C_:TT:=λ_ H Q=>Q G H
def w6 (X:Cx)(ifs:List Expr)(t:TT):Prop :=
 ∀(χ:List (μ×Obj)) (s:aao) (σ:St) (H:Hp) (Q:Bool->Hp->Prop),Inv X χ σ H s->t σ H Q ->
  aaD .aa X.A (forIn ifs G λc r=>if r=G then do let ok <- isTrue c .f (eval c .f);pure (ForInStep.yield ok) else pure (ForInStep.yield r)) (TP X χ σ Q) X.xe s
def zt {X:Cx}:w6 X [] C_:=λ_ _ _ H _ I h=>wpAny_tests_nil {(H),I,h}
def Ia {X:Cx}{c:Expr}{t:TT}(h:PT X c t):w6 X [c] t:=λχ s σ H Q I q=>wpAny_tests_one (h χ s σ H Q I q)
abbrev mL:=(St->Hp->Prop)->St->Hp->Prop
def qp (X:Cx)(after:Sem Fin->Sem Fin)(t:mL):Prop :=
 ∀(χ:List (μ×Obj)) (s:aao) (σ:St) (H:Hp) (N:St->Hp->Prop) (k:Sem Fin) (Q:Fin->aao->Prop) (E:aam->aao->Prop),Inv X χ σ H s->t N σ H ->
  (∀σ' H' s',Inv X χ σ' H' s'->N σ' H'->aaD .aa X.A k Q E s')->aaD .aa X.A (after k) Q E s
def jn {X:Cx}(L:X.xe=λ_ _=>False){α:Type}{t:Sem α}{Q:α->aao->Prop}(h:aaD .aa X.A t Q X.xe s):aaD .aa X.A t Q E s :=
 acL h (λ_ _ q=>q) λe s q=>by rw[L]at q;exact q.elim
def fm (J:It)(g:TG)(tt:TT)(ta:mL)(End:St->Hp->Prop):St->Hp->Prop:=λσ H =>
 ∃W:Nat->Nat->St->Hp->Prop,(∃m,W 0 m σ H)/\∀i m σ H,W i m σ H->(J.stop i H/\End σ H) \/
  (J.go i H/\∃N:St->Hp->Prop,(∀σ' H',N σ' H'->∃O,O<m/\W (i+1) O σ' H')/\∀x H',J.PD i H x H'->g x σ H' λL H2=>tt L H2 λb Y=>if b=G then ta N L Y else N L Y)
section
variable {d:Nat}{g:acN}{acc:aam}{after:Sem Fin->Sem Fin}{tg:TG}{tt:TT}{ta:mL}
def Ce (hx:X.xe=λ_ _=>False)(hc:X.calm=G)(F:ir e d g acc .f after)(hg:PG X g.target tg)(ht:w6 X g.ifs tt)(ha:qp X after ta)
  {it:μ} {fp:List μ} {tn:Nat->Heap->Prop} {J:It} (T:Turn X.prog X.w X.K g.target J fp it tn) {χ:List (μ×Obj)} {σ:St} {H:Hp} {s:aao} {End:St->Hp->Prop}
  (I:Inv X χ σ H s) (st:tn 0 s.heap) (hf:∀b∈fp,eV X χ H b) (h:fm J tg tt ta End σ H) :
  adg .aa X.A (.compLoop e d (.ref it) acc .f) (λr s'=>r=.ok .next/\∃σ' H',Inv X χ σ' H' s'/\End σ' H') s:=by
 obtain⟨W,⟨m0,w0⟩,turn⟩:=h;have xw:∀{H':Hp},(∀b∈fp,H' b=ξ)->∀b∈fp,eV X χ H' b:=λhn b Y=>{hn b Y,(hf b Y).2};refine codeAny_loop (F.quiet _) (λn s'=>∃i σ' H',Inv X χ σ' H' s'/\tn i s'.heap/\(∀b∈fp,H' b=ξ)/\W i n σ' H') (λn s3 hI=>?_) m0 {0,σ,H,I,st,λb Y=>(hf b Y).1,w0};let {i,O,H3,I3,qr,RY,w3}:=hI;rw[F.under];have N8:(δ X.prog X.w).den (.compLoop e d (.ref it) acc .f)=(oq g after e d (.ref it) acc .f).onRaise (λx=>do noteFrame x .f;theTreesLotGoes x):=by
  rw[<- F.turn];show (if (aez e d (.ref it) acc .f).isFrame then _ else _)=_
  rw[F.MR];rfl
 rw[N8];refine wpAny_noted ?_;unfold oq;rcases turn i n O H3 w3 with⟨stop,qn⟩|⟨go,N,hN,step⟩
 ·refine aal (adn (aal (bz (T.done X rfl rfl rfl hc i χ s3 O H3 _ I3 (xw RY) qr stop) λr s4 gC=>?_)));let {hr,I4}:=gC;subst hr;exact aap {(rfl),O,H3,I4,qn}
 ·refine aal (adn (aal (bz (T.item X rfl rfl rfl hc i χ s3 O H3 _ I3 (xw RY) qr go) λr s4 mw=>?_)));let {u,hr,h4}:=mw;subst hr;refine aal (bz h4 λ_ s5 BW=>?_);let {x,H5,I5,r5,y5,G5,X4}:=BW;have Yw:=I5.pinned (xw X4) (T.obj _ _ G5);refine aal (bz (jn hx (hg _ s5 O H5 x u _ Yw r5 (step x H5 y5))) λ_ s6 Ri=>?_);let {σ6,H6,I6,q6}:=Ri;refine aal (bz (jn hx (ht _ s6 σ6 H6 _ I6 q6)) λok s7 VS=>?_);let {H7,I7,q7}:=VS;have GL:∀{L:St} {H8:Hp} {s8:aao},Inv X (χ++oV fp s5.heap) L H8 s8->N L H8->∃m,m<n/\∃i σ' H',Inv X χ σ' H' s8/\tn i s8.heap/\(∀b∈fp,H' b=ξ)/\W i m σ' H':=λ{L H8 s8} I8 n8=>by
   let {m',hm,w8}:=hN L H8 n8;refine{m',hm,i+1,L,H8,I8.km,T.keep _ _ _ G5 λb Y o e=>(I8.pin (b,o) (aa_ _ (aa_ _ (g6 Y e)))).1,λb Y=>?_,w8};let {o,e,d}:=T.obj _ _ G5 b Y;exact(I8.pin (b,o) (aa_ _ (aa_ _ (g6 Y e)))).2.1
  cases ok with
  |false=>exact aap {rfl,GL I7 (by simpa using q7)}
  |true =>
   exact ha _ s7 σ6 H7 N _ _ _ I7 (by simpa using q7) λL H8 s8 I8 n8=>aap {rfl,GL I8 n8}
def j5 (O:X.xe=λ_ _=>False)(hc:X.calm=G)(F:ir e d g acc .f after)(hg:PG X g.target tg)(Y:w6 X g.ifs tt)(ha:qp X after ta)
  {it:μ} {fp:List μ} {tn:Nat->Heap->Prop} {J:It} (T:Turn X.prog X.w X.K g.target J fp it tn) {χ:List (μ×Obj)} {σ:St} {H:Hp} {s:aao} {End:St->Hp->Prop}
  (I:Inv X χ σ H s) (st:tn 0 s.heap) (hf:∀b∈fp,eV X χ H b) (h:fm J tg tt ta End σ H) :
  adg .aa X.A (.compStart e d (.ref it) acc .f) (λr s'=>r=.ok .next/\∃σ' H',Inv X χ σ' H' s'/\End σ' H') s:=by
 have lp:=Ce O hc F hg Y ha T I st hf h;refine codeAny_of_tree ?_;rw[F.LC];have N8:(δ X.prog X.w).den (.compStart e d (.ref it) acc .f)=(compStart e d (.ref it) acc .f).onRaise (λx=>do noteFrame x .f;aep theWindowsPlace):=by
  show (if (Code.compStart e d (.ref it) acc .f).isFrame then _ else _)=_
  rw[F.QJ];rfl
 rw[N8];refine wpAny_notedAt ?_;unfold compStart;rw[F.cl];simp only[Option.elim_some,F.sync];show aaD _ _ (ask >>= _) _ _ s;refine aal (aeD (wpAny_ite ?_))
 split
 ·first
   |exact aal (aap (aap (And.intro (F.quiet _) lp)))
   |exact aap (And.intro (F.quiet _) lp)
 ·have L:∀(E:aam->aao->Prop),aaD .aa X.A (pyIter (.ref it)) (λTc s'=>(aez e d Tc acc .f).quiet=G/\adg .aa X.A (.compLoop e d Tc acc .f) (λr s'=>r=.ok .next/\∃σ' H',Inv X χ σ' H' s'/\End σ' H') s') E s :=
   λE=>T.self X.A 0 s _ E st {F.quiet _,lp}
  first
   |exact aal (acK (aal (adn (aal (acL (L _) (λTc s' h'=>aap h') λ_ _ x=>x)))))
   | (refine aal (acK ?_);exact aal (adn (aal (acL (L _) (λTc s' h'=>aap h') λ_ _ x=>x))))
def IC (L:X.xe=λ_ _=>False)(hc:X.calm=G)(F:ir e (d+1) g' acc .f after)(hi:PI X g'.target g'.iter wi)(hg:PG X g'.target tg)(O:w6 X g'.ifs tt)(ha:qp X after ta)
  (hs:∀x,abu g'.iter .f x=pure x:=by intro _;rfl) :
  qp X (tT e d g' acc .f) (λN σ H=>wi σ H λJ H1=>fm J tg tt ta N σ H1):=by
 intro χ s σ H N k Q E I h hk;unfold tT;refine aal (bz (jn L (hi χ s σ H _ I h)) λx s1 h1=>?_);refine aal (adn (aal (aen (hs x) ?_)));refine aal (abl (bz (jn L h1) λCF s2 h2=>?_));let {it,fp,tn,J,H2,e1,I2,T,iu,f2,hl}:=h2;subst e1;refine aal (wpAny_runOwn (acy (j5 L hc F hg O ha T I2 iu f2 hl) λr s' Y=>?_));let {rfl,σ',H',I',q}:=Y;exact hk σ' H' s' I' q
def iQ {elt:Expr}{te:TE}{a:μ}(O:X.xe=λ_ _=>False)(he:PE X elt te):
  qp X (zf (Au elt (.ref a) .f)) (λN σ H=>te σ H λv H1=>∃xs,H1 a=M (.lst xs)/\xs.length<aaC/\N σ (upd H1 a (.lst (xs++[v])))):=by
 intro χ s σ H N k Q E I h hk;unfold zf Au;refine aal (aal (bz (jn O (he χ s σ H _ I h)) λu s1 VR=>?_));let {v,H1,I1,Y,xs,hH,hz,q}:=VR;refine aal (bz (jn O <| l9 (X:=X) χ s1 σ H1 (.ref a) [v] (.ref a) [u] (λw' H'=>N σ H') I1 rfl (.cons Y .nil) ⟨a,xs,v,rfl,rfl,hH,hz,q⟩) λ_ s2 L=>?_)
 let {_x,H2,I2,_x,q2}:=L;exact aap (hk σ H2 s2 I2 q2)
end
structure qq (X:Cx)(b7:Sem aam)(o:HO):Prop where
 ok:∀(χ:List (μ×Obj)) (s:aao) (σ:St) (H:Hp) (Q:aam->aao->Prop) (E:aam->aao->Prop),Inv X χ σ H s ->
  (∀a s',.e<=a->H a=ξ->(∀b o,s.heap.get? b=M o->s'.heap.get? b=M o)->Inv X χ σ (upd H a o) s'->Q (.ref a) s')->aaD .aa X.A b7 Q E s
def iR:qq X (newList []) (.lst []) :=
 {λχ s σ H Q E I h=>abS (h _ _ (aaq _) I.fresh (λb o e=>aar _ e) (I.MZ (its:=[]) (t':=s.toks) .nil (aaJ _)))}
def Inv.sameBut {σ:St}{H:Hp}(I:Inv X χ σ H s)(f:eV X χ H C)(hs:ach C s.heap h'):Inv X χ σ H {s with heap:=h'}:=by
 let {f0,f1,f2,f3,Y,O}:=f;exact I.turned (t':=s.toks) (λb o L e=>(hs.2 b L).trans e) f0 f1 f3 Y O
end L2
namespace ST
open PySem PySem.SetTable
def it:Nat->Nat->Nat
 |0,x=>x
 |n+1,x=>5*it n x+1
theorem yo (a:Nat):∀(b x:Nat),it (a+b) x=it b (it a x)
 |0,x=>rfl
 |b+1,x=>by
  show 5*it (a+b) x+1=5*it b (it a x)+1;rw[yo a b x]
theorem E9:∀j:Nat,∃a b:Nat,∀x,it (2 ^ j) x=(1+4*2 ^ j*a)*x+2 ^ j*(1+2*b)
 |0=>{1,0,λx=>by show 5*x+1=_;simp}
 |j+1=>by
  let {a,b,h}:=E9 j;refine{a+2*2 ^ j*a*a,b+2 ^ j*a*(1+2*b),λx=>?_};rw[show 2 ^ (j+1)=2 ^ j+2 ^ j by rw[Nat.pow_succ];lia,yo,h,h]
  generalize 2 ^ j=P
  grind
theorem lift:∀(j x t:Nat),∃k,k<2 ^ j/\it k x % 2 ^ j=t % 2 ^ j
 |0,x,t=>{0,.b,by rw[Nat.pow_zero,Nat.mod_one,Nat.mod_one]}
 |j+1,x,t=>by
  let {k,hk,e}:=lift j x t;let {a,b,h}:=E9 j;have O:0<2 ^ j:=Nat.pow_pos .b
  rw[Nat.pow_succ]
  by_cases q:it k x % (2 ^ j*2)=t % (2 ^ j*2)
  ·exact{k,.a,q}
  ·refine{k+2 ^ j,.a,?_}
   rw[yo,h];generalize it k x=y at *
   generalize 2 ^ j=P at *
   have Y:((1+4*P*a)*y+P*(1+2*b))=(y+P)+(P*2)*(2*a*y+b):=by grind
   rw[Y,Nat.add_mul_mod_self_left,Nat.mod_mul,Nat.mod_mul];rw[Nat.mod_mul,Nat.mod_mul,e]at q;rw[Nat.add_mod_right,Nat.add_div_right _ O,e];have u1:y / P % 2<2:=adQ _ .b
   have u2:t / P % 2<2:=adQ _ .b
   have u3:y / P % 2≠t / P % 2:=λz=>q (by rw[z])
   have L:(y / P).succ % 2=t / P % 2:=by lia
   rw[L]
def i_ (m:Nat)(p:Probe):Probe:=advance {mask:=m,place:=#[],dummies:=#[],finger:=0,led:=G,moves:=0,plain:=G} p
def Us (m:Nat)(h:Int):Probe:=probeStart {mask:=m,place:=#[],dummies:=#[],finger:=0,led:=G,moves:=0,plain:=G} h
def LN (t:SetTable)(h:Int):probeStart t h=Us t.mask h:=rfl
def iA (m:Nat)(h:Int):Nat->Probe
 |0=>Us m h
 |n+1=>i_ m (iA m h n)
def dt (m:Nat)(h:Int)(n:Nat):Nat:=(iA m h n).j
def lp (m:Nat)(h:Int):Nat->Nat×Nat
 |0=>(bits h % (m+1),bits h)
 |k+1=>leap m (lp m h k).1 (lp m h k).2
def Pu (m:Nat)(x:Nat×Nat):Probe:={j:=x.1,more:=runEnd m x.1-x.1,i:=x.1,perturb:=x.2,dummy:=ξ}
def LY (m i:Nat):runEnd m i-i<=9:=by
 unfold runEnd
 split <;> lia
theorem yr (m:Nat)(h:Int)(x:Nat×Nat)(n:Nat)(e:iA m h n=Pu m x):∀d,d<=runEnd m x.1-x.1->iA m h (n+d)={Pu m x with j:=x.1+d,more:=runEnd m x.1-x.1-d}
 |0,_=>by rw[Nat.add_zero,e];rfl
 |d+1,hd=>by
  show i_ m (iA m h (n+d))=_;rw[yr m h x n e d .a]
  unfold i_ advance;rw[ω (by show runEnd m x.1-x.1-d>0;lia)]
  rfl
def wN (m:Nat)(h:Int)(x:Nat×Nat)(n:Nat)(e:iA m h n=Pu m x):iA m h (n+(runEnd m x.1-x.1)+1)=Pu m (leap m x.1 x.2):=by
 show i_ m (iA m h (n+(runEnd m x.1-x.1)))=_;rw[yr m h x n e _ (aaq _)];unfold i_ advance;rw[Δ (by show ¬ runEnd m x.1-x.1-(runEnd m x.1-x.1)>0;lia)]
 rfl
theorem GG (m:Nat)(h:Int):∀k,∃n,n<=10*k/\iA m h n=Pu m (lp m h k)
 |0=>{0,aaq _,rfl}
 |k+1=>by
  let {n,O,L}:=GG m h k;refine{n+(runEnd m (lp m h k).1-(lp m h k).1)+1,?_,wN m h _ n L};have:=LY m (lp m h k).1;lia
theorem EM (m:Nat)(h:Int):∀k,(lp m h k).2=bits h / 32 ^ k
 |0=>by rw[Nat.pow_zero,Nat.div_one];rfl
 |k+1=>by
  show (lp m h k).2 / 32=_;rw[EM m h k,Nat.div_div_eq_div_mul,Nat.pow_succ]
def Kk (h:Int):bits h<2 ^ 64:=by
 unfold bits;have O:=Int.emod_lt_of_pos h (show (0:Int)<2 ^ 64 by decide)
 have L:=Int.emod_nonneg h (show (2 ^ 64:Int)≠0 by decide)
 lia
def Je (m:Nat)(h:Int)(hk:13<=k):(lp m h k).2=0:=by
 rw[EM];refine Nat.div_eq_of_lt (aaV (Kk h) ?_);have:32 ^ 13<=32 ^ k:=adb .b hk
 exact aa3 .b this
def KO (h:Int):∀d,(lp (2 ^ j-1) h (13+d)).1=it d (lp (2 ^ j-1) h 13).1 % 2 ^ j:=by
 have L:2 ^ j-1+1=2 ^ j:=by have:0<2 ^ j:=Nat.pow_pos (by decide);lia
 have lt:∀k,(lp (2 ^ j-1) h k).1<2 ^ j:=λk=>by
  cases k with
  |zero=>show bits h % (2 ^ j-1+1)<_;rw[L];exact adQ _ .a
  |succ k=>show (_*5+1+_ / 32) % (2 ^ j-1+1)<_;rw[L];exact adQ _ .a
 intro d
 induction d with
 |zero=>exact(Nat.mod_eq_of_lt (lt 13)).symm
 |succ d ih =>
  show ((lp (2 ^ j-1) h (13+d)).1*5+1+(lp (2 ^ j-1) h (13+d)).2 / 32) % (2 ^ j-1+1)=(5*it d _+1) % 2 ^ j;rw[L,Je _ h .a,ih,Nat.zero_div,Nat.add_zero,Nat.mul_comm]
  conv=>rhs;rw[Nat.add_mod,Nat.mul_mod]
  rw[Nat.add_mod,Nat.mul_mod,Nat.mod_mod]
def cyc (j:Nat)(h:Int)(L:t<2 ^ j):∃n,n<10*turns (2 ^ j-1)/\dt (2 ^ j-1) h n=t:=by
 let {k,hk,e}:=lift j (lp (2 ^ j-1) h 13).1 t;let {n,Y,O}:=GG (2 ^ j-1) h (13+k);refine{n,by unfold turns;lia,?_}
 unfold dt;rw[O];show (lp (2 ^ j-1) h (13+k)).1=t;rw[KO,e,Nat.mod_eq_of_lt L]
abbrev g (xs:Array Nat)(i:Nat):Nat:=xs.getD i 0
def yE (h:i<xs.size):xs[i]?=M (g xs i):=by
 rw[getElem?_pos xs i h,g,aaW,getElem?_pos xs i h];rfl
def Lh (xs:Array Nat):Prop:=∀i j,i<j->j<xs.size->g xs i<g xs j
def Lh.inj (r:Lh xs)(hi:i<xs.size)(hj:j<xs.size)(e:g xs i=g xs j):i=j:=by
 rcases Nat.lt_trichotomy i j with h|h|h
 ·have:=r i j h hj;lia
 ·exact h
 ·have:=r j i h hi;lia
theorem ql (r:Lh xs):∀(f lo hi:Nat),hi<=xs.size->lo<=hi->hi-lo<=f->(∀k,k<lo->g xs k<j)->(∀k,hi<=k->k<xs.size->j<=g xs k) ->
  below.go xs j f lo hi<=xs.size/\(∀k,k<below.go xs j f lo hi->g xs k<j)/\(∀k,below.go xs j f lo hi<=k->k<xs.size->j<=g xs k)
 |0,lo,hi,Y,h2,h3,O,L=>by
  obtain rfl:lo=hi:=by omega
  exact{(Y),O,L}
 |f+1,lo,hi,Y,h2,h3,O,L=>by
  unfold below.go
  by_cases hl:lo<hi
  ·rw[ω hl];dsimp only;have hm:(lo+hi) / 2<xs.size:=by omega
   have e:xs.getD ((lo+hi) / 2) j=g xs ((lo+hi) / 2):=by
    rw[g,aaW,aaW,getElem?_pos xs _ hm];rfl
   rw[e]
   by_cases hc:g xs ((lo+hi) / 2)<j
   ·rw[ω hc];refine ql r f _ _ Y .h .h (λk hk=>?_) L
    by_cases Xw:k=(lo+hi) / 2
    ·rw[Xw];exact hc
    ·have:=r k ((lo+hi) / 2) .h hm;omega
   ·rw[Δ hc];refine ql r f _ _ .h .h .h O (λk hk Pg=>?_)
    by_cases Xw:k=(lo+hi) / 2
    ·rw[Xw];omega
    ·have:=r ((lo+hi) / 2) k .h Pg;omega
  ·rw[Δ hl];obtain rfl:lo=hi:=by omega
   exact{(Y),O,L}
def ia (r:Lh xs)(j:Nat):below xs j<=xs.size/\(∀k,k<below xs j->g xs k<j)/\(∀k,below xs j<=k->k<xs.size->j<=g xs k) :=
 ql r xs.size 0 xs.size (aaq _) (aaJ _) (aaq _) (λk hk=>by lia) (λk O L=>by lia)
def below_at (r:Lh xs)(hi:i<xs.size):below xs (g xs i)=i:=by
 let {Y,O,L}:=ia r (g xs i);rcases Nat.lt_trichotomy (below xs (g xs i)) i with h|h|h
 ·have:=L (below xs (g xs i)) (aaq _) .h
  have:=r _ _ h hi;omega
 ·exact h
 ·have:=O i h;omega
def um (t:SetTable)(x:Nat):Prop:=∃i,i<t.place.size/\g t.place i=x
def rD {t:SetTable}(r:Lh t.place){i:Nat}(hi:i<t.place.size):t.slot (g t.place i)=.live i:=by
 unfold slot;dsimp only;rw[below_at r hi,ω (by rw[yE hi];exact beq_self_eq_true _)]
def A8 (r:Lh t.place)(d:t.dummies=#[])(h:¬ um t x):t.slot x=.empty:=by
 unfold slot;dsimp only;rw[Δ ?_,Δ ?_]
 ·rw[d];unfold has;simp
 ·intro q;have q:=eq_of_beq q;have L:below t.place x<t.place.size:=by
   rcases abG (below t.place x) t.place.size with z|z
   ·exact z
   ·rw[ab1 z]at q;cases q
  rw[yE L]at q;exact h {_,L,aaZ q}
structure WF (t:SetTable)(hs:List Int):Prop where
 Pk:t.dummies=#[]
 sz:t.place.size=hs.length
 Bk:Lh t.place
 ZM:∀i,i<t.place.size->g t.place i<=t.mask
 KN:∃j,3<=j/\t.mask=2 ^ j-1
 room:t.place.size<=t.mask
 YL:∀i h,hs[i]?=M h->∃n,dt t.mask h n=g t.place i/\∀k,k<n->um t (dt t.mask h k)
def least {p:Nat->Prop}[DecidablePred p]:∀n,p n->∃m,m<=n/\p m/\∀k,k<m->¬ p k:=by
 intro n
 induction n using Nat.strongRecOn with
 |_ n ih =>
  intro O
  by_cases h:∃k,k<n/\p k
  ·let {k,hk,L}:=h;let {m,h1,h2,Y}:=ih k hk L;exact{m,.a,h2,Y}
  ·exact{n,aaq _,O,λk hk L=>h {(k),hk,L}}
instance (t:SetTable):DecidablePred (um t):=λx=>decidable_of_iff (∃i,i<t.place.size/\g t.place i=x) Iff.rfl
def WF.hole (w:WF t hs):∃x,x<=t.mask/\¬ um t x:=by
 refine adj λqV=>?_;have all:∀x,x<=t.mask->um t x:=λx O=>adj λq=>qV {(x),O,q};have up:∀x,x<=t.mask->∃i,i<t.place.size/\g t.place i=x/\x<=i:=by
  intro x
  induction x with
  |zero =>
   intro O;let {i,Y,h2}:=all 0 O;exact{i,Y,h2,aaJ _}
  |succ x ih =>
   intro O;let {i,Y,h2,h3}:=ih .a
   let {L,h4,h5}:=all (x+1) O;refine{L,h4,h5,?_};rcases abG i L with q|q
   ·lia
   ·rcases abG L i with q2|q2
    ·have:=w.Bk L i q2 Y;lia
    ·obtain rfl:i=L:=by lia
     lia
 let {i,Y,h2,h3}:=up t.mask (aaq _);have:=w.room;lia
def WF.first (w:WF t hs)(h:Int):∃n,n<10*turns t.mask/\¬ um t (dt t.mask h n)/\∀k,k<n->um t (dt t.mask h k):=by
 let {x,hx,O}:=w.hole;let {j,_x,hj}:=w.KN;have yt:x<2 ^ j:=by have:0<2 ^ j:=Nat.pow_pos (by decide);lia
 let {n,Y,L}:=cyc j h yt;rw[<- hj]at Y L;let {m,g1,g2,g3}:=least (p:=λn=>¬ um t (dt t.mask h n)) n (by rw[L];exact O)
 exact{m,.a,g2,λk hk=>adj λq=>g3 k hk q}
theorem lW (m:Nat)(h:Int):∀n,(iA m h n).dummy=ξ
 |0=>rfl
 |n+1=>by
  show (i_ m (iA m h n)).dummy=ξ;unfold i_ advance
  split
  ·exact lW m h n
  ·exact lW m h n
theorem uZ (w:WF t hs)(L:Nat->Int)(h:Int)(hN:¬ um t (dt t.mask h N))(hO:∀k,k<N->um t (dt t.mask h k)):∀(d n f:Nat),n+d=N->d<f ->
  (probe.go t L h f (iA t.mask h n)=M (.empty (dt t.mask h N) ξ)/\∀k,n<=k->k<N->∀i,i<t.place.size->g t.place i=dt t.mask h k->L i≠h) \/
  ∃m i,n<=m/\m<N/\i<t.place.size/\g t.place i=dt t.mask h m/\L i=h/\probe.go t L h f (iA t.mask h n)=M (.candidate (dt t.mask h m) i (iA t.mask h (m+1)))/\∀k,n<=k->k<m->∀i,i<t.place.size->g t.place i=dt t.mask h k->L i≠h
 |0,n,f,e,hf=>by
  obtain rfl:n=N:=by lia
  obtain⟨f,rfl⟩:∃f',f=f'+1:={f-1,.a}
  refine .inl {?_,λk h1 O=>.a}
  unfold probe.go;rw[show t.slot (iA t.mask h n).j=.empty from A8 w.Bk w.Pk hN]
  dsimp only;rw[lW];rfl
 |d+1,n,f,e,hf=>by
  obtain⟨f,rfl⟩:∃f',f=f'+1:={f-1,.a}
  let {i,hi,hg}:=hO n .a
  have Fh:t.slot (iA t.mask h n).j=.live i:=by
   show t.slot (dt t.mask h n)=.live i;rw[<- hg];exact rD w.Bk hi
  by_cases hh:L i=h
  ·refine .inr {n,i,aaq _,.a,hi,hg,hh,?_,λk h1 O=>.a}
   unfold probe.go;rw[Fh];dsimp only;rw[ω (by rw[hh];exact beq_self_eq_true _)]
   rfl
  ·have st:probe.go t L h (f+1) (iA t.mask h n)=probe.go t L h f (iA t.mask h (n+1)):=by
    conv=>lhs;unfold probe.go
    rw[Fh];dsimp only;rw[Δ (by simpa using hh)]
    rfl
   rw[st];have here:∀Y,Y<t.place.size->g t.place Y=dt t.mask h n->L Y≠h:=λY h1 O=>by
    rw[w.Bk.inj h1 hi (O.trans hg.symm)];exact hh
   rcases uZ w L h hN hO d (n+1) f .a (by lia)with⟨q1,q2⟩|⟨m,Y,q1,q2,q3,q4,q5,q6,q7⟩
   ·refine .inl {q1,λk h1 O=>?_}
    by_cases hk:k=n
    ·subst hk;exact here
    ·exact q2 k .a O
   ·refine .inr {m,Y,.a,q2,q3,q4,q5,q6,λk h1 O=>?_}
    by_cases hk:k=n
    ·subst hk;exact here
    ·exact q7 k .a O
def pK {α:Type}(xs:Array α)(p:Nat)(x:α):(insertAt xs p x).toList=xs.toList.take p++x::xs.toList.drop p:=by
 unfold insertAt;rw[ab3,ac8,Array.toList_extract,Array.toList_extract,aeh,aeh,abx];simp[abP]
def Fd {α:Type}{xs:Array α}{p:Nat}{x:α}(h:p<=xs.size):(insertAt xs p x).size=xs.size+1:=by
 rw[<- aau,pK,aax,aaS,aa4,abM,aau];lia
def h8 {xs:Array Nat}{p x:Nat}(h:p<=xs.size)(k:Nat):g (insertAt xs p x) k=if k<p then g xs k else if k=p then x else g xs (k-1):=by
 have e:∀(ys:Array Nat) (k:Nat),g ys k=(ys.toList[k]?).getD 0:=λys k=>by rw[g,aaW,aaP]
 rw[e,e,e,pK]
 by_cases O:k<p
 ·rw[ω O,abE (by rw[aa4,aau];lia),adp O]
 ·rw[Δ O,abi (by rw[aa4];lia),aa4,aau,show min p xs.size=p by lia]
  by_cases L:k=p
  ·rw[ω L,L,adF];rfl
  ·rw[Δ L,show k-p=k-p-1+1 by lia,adA,List.getElem?_drop,show p+(k-p-1)=k-1 by lia]
def WF.put {t:SetTable}{hs:List Int}(w:WF t hs){h:Int}{N:Nat}(hb:dt t.mask h N<=t.mask)(hN:¬ um t (dt t.mask h N))(hO:∀k,k<N->um t (dt t.mask h k))(hr:t.place.size+1<=t.mask):
  WF (t.put (dt t.mask h N)).1 (hs.take (t.put (dt t.mask h N)).2++h::hs.drop (t.put (dt t.mask h N)).2)/\(t.put (dt t.mask h N)).2<=t.place.size:=by
 let {Y,b2,b3}:=ia w.Bk (dt t.mask h N);have hp:(t.put (dt t.mask h N)).2=below t.place (dt t.mask h N):=rfl;rw[hp];generalize hx:dt t.mask h N=x at *
 generalize hq:below t.place x=p at *
 have e:(t.put x).1={t with place:=insertAt t.place p x}:=by
  unfold SetTable.put;dsimp only;rw[w.Pk,hq];unfold has;simp
 have ne:∀k,p<=k->k<t.place.size->x<g t.place k:=λk O L=>by
  have:=b3 k O L;rcases abG x (g t.place k)with q|q
  ·exact q
  ·exact Κ {k,L,.a} hN
 have Uq:(insertAt t.place p x).size=t.place.size+1:=Fd Y;have YY:∀y,um t y->um {t with place:=insertAt t.place p x} y:=by
  rintro y ⟨i,O,L⟩
  by_cases hi:i<p
  ·exact{i,by show i<(insertAt t.place p x).size;lia,by show g (insertAt t.place p x) i=y;rw[h8 Y,ω hi];exact L}
  ·exact{i+1,by show i+1<(insertAt t.place p x).size;lia,by show g (insertAt t.place p x) (i+1)=y;rw[h8 Y,Δ .a,Δ .a];exact L}
 rw[e];refine{{w.Pk,?_,?_,?_,w.KN,?_,?_},Y}
 ·show (insertAt t.place p x).size=_;rw[Uq,aax,aaS,aa4,abM,<- w.sz];lia
 ·intro i j aN hj;have hj:j<t.place.size+1:=by rw[<- Uq];exact hj
  show g (insertAt t.place p x) i<g (insertAt t.place p x) j;rw[h8 Y,h8 Y]
  by_cases O:i<p
  ·rw[ω O]
   by_cases L:j<p
   ·rw[ω L];exact w.Bk i j aN .a
   ·rw[Δ L]
    by_cases h3:j=p
    ·rw[ω h3];exact b2 i O
    ·rw[Δ h3];exact w.Bk i (j-1) .a .a
  ·rw[Δ O,Δ (show ¬ j<p by lia)]
   by_cases h3:i=p
   ·rw[ω h3,Δ (show ¬ j=p by lia)];exact ne _ .a .a
   ·rw[Δ h3,Δ (show ¬ j=p by lia)];exact w.Bk (i-1) (j-1) .a .a
 ·intro i hi;have hi:i<t.place.size+1:=by rw[<- Uq];exact hi
  show g (insertAt t.place p x) i<=t.mask;rw[h8 Y]
  split
  ·exact w.ZM i .a
  ·split
   ·exact hb
   ·exact w.ZM _ .a
 ·show (insertAt t.place p x).size<=t.mask;lia
 ·intro i h' nX;show ∃n,dt t.mask h' n=g (insertAt t.place p x) i/\_;have old:∀i h',hs[i]?=M h'->∃n,dt t.mask h' n=g t.place i/\∀k,k<n->um {t with place:=insertAt t.place p x} (dt t.mask h' k):=λi h' q=>by
   let {n,O,L}:=w.YL i h' q;exact{n,O,λk hk=>YY _ (L k hk)}
  have hpl:p<=hs.length:=by rw[<- w.sz];exact Y
  by_cases O:i<p
  ·rw[abE (by rw[aa4];lia),adp O]at nX
   rw[h8 Y,ω O];exact old i h' nX
  ·rw[abi (by rw[aa4];lia),aa4,show min p hs.length=p by lia]at nX
   rw[h8 Y,Δ O]
   by_cases L:i=p
   ·rw[L,adF]at nX;rw[ω L];obtain rfl:h=h':=aaZ nX;exact{N,hx,λk hk=>YY _ (hO k hk)}
   ·rw[show i-p=i-p-1+1 by lia,adA,List.getElem?_drop,show p+(i-p-1)=i-1 by lia]at nX
    rw[Δ L];exact old (i-1) h' nX
def jh (h:i<=m):i<=runEnd m i/\runEnd m i<=m:=by
 unfold runEnd
 split <;> lia
theorem DG (m:Nat)(h:Int):∀n,(iA m h n).j+(iA m h n).more<=m
 |0=>by
  show bits h % (m+1)+(runEnd m (bits h % (m+1))-bits h % (m+1))<=m;have L:bits h % (m+1)<=m:=Nat.le_of_lt_succ (adQ _ (Nat.succ_pos _));have:=jh L;lia
 |n+1=>by
  have ih:=DG m h n;show (i_ m (iA m h n)).j+(i_ m (iA m h n)).more<=m;unfold i_ advance
  split
  ·show (iA m h n).j+1+((iA m h n).more-1)<=m;lia
  ·show (leap m (iA m h n).i (iA m h n).perturb).1+(runEnd m (leap m (iA m h n).i (iA m h n).perturb).1-(leap m (iA m h n).i (iA m h n).perturb).1)<=m;have L:(leap m (iA m h n).i (iA m h n).perturb).1<=m:=Nat.le_of_lt_succ (adQ _ (Nat.succ_pos _));have:=jh L;lia
def nE (m:Nat)(h:Int)(n:Nat):dt m h n<=m:=by
 have:=DG m h n;unfold dt;lia
abbrev Ow:=Array .aB
def ik (o:Ow)(j:Nat):Bool:=(o.getD j (M 0)).isNone
theorem sd (h:Int):∀(f b n:Nat) (j:Nat),iA m h n=Pu m (lp m h b)->layClean.free m o f (lp m h b).1 (lp m h b).2=M j->∃N,n<=N/\dt m h N=j/\ik o j=G/\∀k,n<=k->k<N->ik o (dt m h k)=η
 |0,b,n,j,_,e=>by cases e
 |f+1,b,n,j,O,e=>by
  unfold layClean.free at e;have Vi:∀d,d<=runEnd m (lp m h b).1-(lp m h b).1->dt m h (n+d)=(lp m h b).1+d:=λd hd=>by
   unfold dt;rw[yr m h _ n O d hd]
  have hl:(lp m h b).1<=m:=by
   have:=nE m h n;unfold dt at this;rw[O]at this;exact this
  have hr:=jh hl;cases L:(aaA (runEnd m (lp m h b).1+1-(lp m h b).1)).find? (λk=>(o.getD ((lp m h b).1+k) (M 0)).isNone)with
  |some k =>
   rw[L]at e;dsimp only at e;let {h1,h2,Y}:=List.find?_range_eq_some.mp L;have h2:=aa2.mp h2;refine{n+k,.a,?_,?_,λx g1 g2=>?_}
   ·rw[Vi k .a]
    exact aaZ e
   ·rw[<- aaZ e];exact h1
   ·have:=Y (x-n) .a
    rw[show x=n+(x-n) by lia,Vi (x-n) .a]
    unfold ik;simpa using this
  |none =>
   rw[L]at e;dsimp only at e;have Y:=List.find?_range_eq_none.mp L;let {N,q1,q2,q3,q4}:=sd h f (b+1) (n+(runEnd m (lp m h b).1-(lp m h b).1)+1) j (wN m h _ n O) e;refine{N,.a,q2,q3,λx g1 g2=>?_}
   by_cases hx:n+(runEnd m (lp m h b).1-(lp m h b).1)+1<=x
   ·exact q4 x hx g2
   ·have:=Y (x-n) .a
    rw[show x=n+(x-n) by lia,Vi (x-n) .a]
    unfold ik;simpa using this
theorem sf (h:Int):∀(f b:Nat),layClean.free m o f (lp m h b).1 (lp m h b).2=ξ->∀d,d<f->(lp m h (b+d)).1<=m->ik o (lp m h (b+d)).1=η
 |0,b,_,d,hd,_=>by lia
 |f+1,b,e,d,hd,O=>by
  unfold layClean.free at e;cases L:(aaA (runEnd m (lp m h b).1+1-(lp m h b).1)).find? (λk=>(o.getD ((lp m h b).1+k) (M 0)).isNone)with
  |some k =>
   rw[L]at e;cases e
  |none =>
   rw[L]at e;dsimp only at e;cases d with
   |zero =>
    have:=List.find?_range_eq_none.mp L 0 (by have:=jh O;rw[Nat.add_zero]at this;lia)
    unfold ik;simpa using this
   |succ d =>
    have:=sf h f (b+1) e d .a (by rw[show b+1+d=b+(d+1) by lia];exact O)
    rw[show b+1+d=b+(d+1) by lia]at this
    exact this
def MX (j:Nat)(h:Int)(L:t<2 ^ j):∃k,k<turns (2 ^ j-1)/\(lp (2 ^ j-1) h k).1=t:=by
 let {k,hk,e}:=lift j (lp (2 ^ j-1) h 13).1 t;refine{13+k,by unfold turns;lia,?_}
 rw[KO,e,Nat.mod_eq_of_lt L]
def ow (o:Ow)(j:Nat):Option Nat:=o.getD j ξ
theorem fF {α:Type}{f L:Nat->Option α}:∀(l:List Nat),(∀k∈l,L k=f k)->l.filterMap L=l.filterMap f
 |[],_=>rfl
 |x::l,h=>by
  rw[abj,abj,h x aaO,fF l λk hk=>h k (aaL _ hk)]
def vW {α:Type}{f L:Nat->Option α}(l:List Nat)(h:∀k∈l,L k=f k):l.filterMap L=l.filterMap f:=fF l h
theorem vU {α:Type}(f L:Nat->Option α)(j:Nat)(v:α)(h1:f j=ξ)(Y:L j=M v)(O:∀k,k≠j->L k=f k):∀N,j<N->((aaA N).filterMap L).Perm (v::(aaA N).filterMap f)
 |0,h=>by lia
 |N+1,h=>by
  rw[acE,List.filterMap_append,List.filterMap_append]
  by_cases e:j=N
  ·subst e;have e1:(aaA j).filterMap L=(aaA j).filterMap f:=by
    exact fF _ λk hk=>O k (aaN (aa2.mp hk))
   rw[e1,abj,Y,abj,h1,List.filterMap_nil,List.filterMap_nil];show ((aaA j).filterMap f++[v]).Perm (v::((aaA j).filterMap f++[]));rw[abR];exact List.perm_append_comm
  ·have ih:=vU f L j v h1 Y O N .a
   have e2:[N].filterMap L=[N].filterMap f:=fF _ λk hk=>by
    rw[aaE.mp hk];exact O N (λz=>e z.symm)
   rw[e2];exact ih.append_right _
theorem vX {α:Type}(f:Nat->Option α):∀N,(∀k,k<N->(f k).isSome=G)->((aaA N).filterMap f).length=N
 |0,_=>rfl
 |N+1,h=>by
  rw[acE,List.filterMap_append,aax,vX f N λk hk=>h k .a]
  have:=h N .a
  cases e:f N with
  |none=>rw[e]at this;cases this
  |some x=>rw[abj,e];rfl
structure Ld (m:Nat)(hs:Array Int)(o:Ow)(k:Nat):Prop where
 sz:o.size=m+1
 US:((aaA (m+1)).filterMap (ow o)).Perm (aaA k)
 way:∀j a,ow o j=M a->a<k/\∃n,dt m (hs.getD a 0) n=j/\∀x,x<n->ik o (dt m (hs.getD a 0) x)=η
def o4 (h:j<o.size):ik o j=G↔ow o j=ξ:=by
 unfold ik ow;rw[aaW,aaW,getElem?_pos o j h];show (o[j]).isNone=G↔o[j]=ξ;exact Option.isNone_iff_eq_none
def Ld.next (L:Ld (2 ^ O-1) hs o k)(hk:k<=2 ^ O-1)(h:Int)(hh:hs.getD k 0=h):
  ∃j,layClean.free (2 ^ O-1) o (turns (2 ^ O-1)) (bits h % (2 ^ O-1+1)) (bits h)=M j/\Ld (2 ^ O-1) hs (o.setIfInBounds j (M k)) (k+1):=by
 have hP:0<2 ^ O:=Nat.pow_pos .b
 generalize hm:2 ^ O-1=m at *
 obtain⟨x,Y,hox⟩:∃x,x<=m/\ow o x=ξ:=by
  refine adj λqV=>?_;have:=vX (ow o) (m+1) λx Y=>by
   cases e:ow o x with
   |none=>exact Κ {x,.a,e} qV
   |some _=>rfl
  rw[L.US.length_eq,aa5]at this;lia
 cases hf:layClean.free m o (turns m) (bits h % (m+1)) (bits h)with
 |none =>
  exfalso
  let {c,hc,he}:=MX O h (t:=x) .a
  rw[hm]at hc he;have:=sf (m:=m) (o:=o) h (turns m) 0 hf c hc (by rw[ad3,he];exact Y)
  rw[ad3,he]at this;have q:=(o4 (o:=o) (j:=x) (by rw[L.sz];lia)).mpr hox
  rw[q]at this;cases this
 |some j =>
  refine{j,rfl,?_};let {N,_x,q2,q3,q4}:=sd (m:=m) (o:=o) h (turns m) 0 0 j rfl hf;have hj:j<=m:=by rw[<- q2];exact nE m h N
  have Xx:j<o.size:=by rw[L.sz];lia
  have Ry:ow o j=ξ:=(o4 Xx).mp q3;have same:∀i,i≠j->ow (o.setIfInBounds j (M k)) i=ow o i:=λi hi=>by
   unfold ow;rw[aaW,aaW,Array.getElem?_setIfInBounds_ne (λz=>hi z.symm)]
  have here:ow (o.setIfInBounds j (M k)) j=M k:=by
   unfold ow;rw[aaW,Array.getElem?_setIfInBounds_self_of_lt Xx];rfl
  have shut:∀i,ik o i=η->ik (o.setIfInBounds j (M k)) i=η:=λi hi=>by
   unfold ik at *
   rw[aaW]at *
   by_cases e:i=j
   ·subst e;rw[Array.getElem?_setIfInBounds_self_of_lt Xx];rfl
   ·rw[Array.getElem?_setIfInBounds_ne (λz=>e z.symm)];exact hi
  refine{by rw[aeB];exact L.sz,?_,λi a To=>?_}
  ·refine(vU (ow o) _ j k Ry here same (m+1) .a).trans ?_
   refine(L.US.cons k).trans ?_;rw[acE];exact(List.perm_append_singleton k _).symm
  ·by_cases e:i=j
   ·subst e;rw[here]at To;obtain rfl:=aaZ To;refine{aeF _,N,by rw[hh];exact q2,λx Y=>shut _ ?_}
    rw[hh];exact q4 x (aaJ _) Y
   ·rw[same i e]at To;let {g1,n,g2,g3}:=L.way i a To;exact{.a,n,g2,λx Y=>shut _ (g3 x Y)}
theorem qj (hk:hs.size<=2 ^ O-1):∀(l:List Int) (k:Nat) (o:Ow),hs.toList.drop k=l->k+l.length=hs.size->Ld (2 ^ O-1) hs o k ->
  ∃o',(l.foldl (λ(acc:Option (Ow×Nat)) h=>do
   let (owner,k) <- acc
   let j <- layClean.free (2 ^ O-1) owner (turns (2 ^ O-1)) (bits h % (2 ^ O-1+1)) (bits h)
   pure (owner.setIfInBounds j (M k),k+1)) (M (o,k)))=M (o',hs.size)/\Ld (2 ^ O-1) hs o' hs.size
 |[],k,o,e,z,L=>by
  obtain rfl:k=hs.size:=z;exact{(o),rfl,L}
 |h::l,k,o,e,z,L=>by
  rw[aaS]at z;have lM:k<hs.toList.length:=by rw[aau];lia
  rw[abh lM]at e;injection e with e1 e2
  have hh:hs.getD k 0=h:=by
   rw[aaW,<- aaP,aav lM,e1];rfl
  let {j,q1,Y}:=L.next .a h hh
  rw[abZ];show ∃o',(l.foldl _ (do
   let j <- layClean.free (2 ^ O-1) o (turns (2 ^ O-1)) (bits h % (2 ^ O-1+1)) (bits h)
   pure (o.setIfInBounds j (M k),k+1)))=_/\_
  rw[q1];exact qj hk l (k+1) _ e2 .a Y
def Ld.start (m:Nat)(hs:Array Int):Ld m hs (Array.replicate (m+1) ξ) 0:=by
 have e:∀j,ow (Array.replicate (m+1) ξ) j=ξ:=λj=>by
  unfold ow;rw[aaW,Array.getElem?_replicate]
  split <;> rfl
 refine{Array.size_replicate,?_,λj a h=>by rw[e]at h;cases h}
 rw[fF (f:=λ_=>(ξ:Option Nat)) _ λk _=>e k];have:∀l:List Nat,l.filterMap (λ_=>(ξ:Option Nat))=[]:=λl=>by
  induction l with
  |nil=>rfl
  |cons x l ih=>rw[abj];exact ih
 rw[this];exact .refl _
def Jg (h3:3<=O)(hk:hs.size<=2 ^ O-1)(finger moves:Nat)(led plain:Bool):
  ∃t order,laid (2 ^ O-1) finger moves led plain hs=M (t,order)/\t.mask=2 ^ O-1/\t.led=led/\t.plain=plain/\t.moves=moves/\order.toList.Perm (aaA hs.size)/\WF t (order.toList.map λa=>hs.getD a 0)/\t.place.size=hs.size:=by
 let {o,e1,L}:=qj hk hs.toList 0 _ rfl (by rw[ad3,aau]) (Ld.start _ hs)
 have e2:layClean (2 ^ O-1) hs=M o:=by
  unfold layClean;rw[<- Array.foldl_toList];exact Μ (Option.map (·.1)) e1
 generalize hm:2 ^ O-1=m at *
 have Q3:∀(l:List Nat),((l.filterMap λj=>(o.getD j ξ).map (j,·)).map (·.2))=l.filterMap (ow o):=λl=>by
  rw[List.map_filterMap];refine vW l λj _=>?_;rw[Option.map_map];show ((o.getD j ξ).map λa=>a)=_;rw[Option.map_id'];rfl
 generalize Y:((aaA (m+1)).filterMap λj=>(o.getD j ξ).map (j,·))=live at *
 have pw:live.Pairwise (λx y=>x.1<y.1):=by
  rw[<- Y,List.pairwise_filterMap];refine List.pairwise_lt_range.imp λ{a b} Od x hx y hy=>?_;let {_x,_x,rfl}:=aaK.mp hx;let {_x,_x,rfl}:=aaK.mp hy;exact Od
 have mem:∀x∈live,x.1<m+1/\ow o x.1=M x.2:=λx hx=>by
  rw[<- Y]at hx;let {j,hj,e}:=adw.mp hx;let {a,ha,rfl}:=aaK.mp e;exact{aa2.mp hj,ha}
 have ord:(live.map (·.2)).Perm (aaA hs.size):=by
  rw[<- Y,Q3];exact L.US
 have len:live.length=hs.size:=by
  have:=ord.length_eq;rw[aan,aa5]at this;exact this
 have gp:∀i (hi:i<live.length),g (live.map (·.1)).toArray i=(live[i]).1:=λi hi=>by
  rw[g,aaW,adN,aaB,aav hi];rfl
 refine{{mask:=m,place:=(live.map (·.1)).toArray,dummies:=#[],finger,led,moves,plain},(live.map (·.2)).toArray,?_,rfl,rfl,rfl,rfl,ord,?_,?_}
 ·unfold laid;rw[e2,<- Y];rfl
 ·have UR:(live.map (·.1)).toArray.size=live.length:=by rw[aaH,aan]
  refine{rfl,?_,?_,?_,{(O),h3,hm.symm},?_,?_}
  ·show (live.map (·.1)).toArray.size=_;rw[UR,aan,aan]
  ·intro i j aN hj;have hj:j<live.length:=by rw[<- UR];exact hj
   show g (live.map (·.1)).toArray i<g (live.map (·.1)).toArray j;rw[gp i .a,gp j hj]
   exact aeg.mp pw i j .a hj aN
  ·intro i hi;have hi:i<live.length:=by rw[<- UR];exact hi
   show g (live.map (·.1)).toArray i<=m;rw[gp i hi];have:=(mem _ (acd hi)).1;lia
  ·show (live.map (·.1)).toArray.size<=m;lia
  ·intro i h hi;show ∃n,dt m h n=g (live.map (·.1)).toArray i/\_;rw[aaB,aaB]at hi;have Fw:i<live.length:=by
    rcases abG i live.length with q|q
    ·exact q
    ·rw[abq q]at hi;cases hi
   rw[aav Fw]at hi;have hi:hs.getD (live[i]).2 0=h:=aaZ hi;let {_x,n,g2,g3}:=L.way _ _ (mem _ (acd Fw)).2;rw[hi]at g2 g3;refine{n,by rw[gp i Fw];exact g2,λk hk=>?_}
   have hv:=nE m h k;have Tf:dt m h k<o.size:=by rw[L.sz];lia
   have:=g3 k hk;cases eo:ow o (dt m h k)with
   |none =>
    rw[(o4 Tf).mpr eo]at this;cases this
   |some a =>
    have Xn:(dt m h k,a)∈live:=by
     rw[<- Y];exact adw.mpr {dt m h k,aa2.mpr .a,by show (ow o (dt m h k)).map _=_;rw[eo];rfl}
    let {i',nX,e'}:=List.getElem_of_mem Xn;exact{i',by show i'<(live.map (·.1)).toArray.size;lia,by show g (live.map (·.1)).toArray i'=_;rw[gp i' nX,e']}
 ·show (live.map (·.1)).toArray.size=hs.size;rw[aaH,aan];exact len
end ST
namespace TS
open PySem PyProof.Rows
def dg:Bool->aaF->Array aaF->Nat->Nat->Nat->StateT aa9 Sem .aB:=sortPriv% PySem.Builtin.gallop
def kS:Array aaF->Array aaF->StateT aa9 Sem .ax:=sortPriv% PySem.Builtin.mergeLo
def kT:Array aaF->Array aaF->StateT aa9 Sem .ax:=sortPriv% PySem.Builtin.mergeHi
abbrev dh (st:aa9)(g:Nat):aa9:=SortSt.mk' (kindOf st) (abk st) (aa0 st) g (adS st)
def yD (left:Bool)(key:aaF)(arr:Array aaF)(base n hint:Nat):dg left key arr base n hint=(do
  let ask:=λ(at_:Nat)=>(do
   let z <- elem' arr (base+at_)
   if left then lt' z key else return (<- lt' key z).map (!·):StateT aa9 Sem (Option Bool))
  let mut before:=0
  let mut step:=1
  let mut u:=0
  let mut v:=0
  let M up <- ask hint|return ξ
  if up then
   let room:=n-hint
   for _ in [0:n] do
    if step >= room then break
    let M on <- ask (hint+step)|return ξ
    if !on then break
    before:=step
    step:=2*step+1
   u:=hint+before+1
   v:=hint+min step room
  else
   let room:=hint+1
   for _ in [0:n] do
    if step >= room then break
    let M hit <- ask (hint-step)|return ξ
    if hit then break
    before:=step
    step:=2*step+1
   u:=hint+1-min step room
   v:=hint-before
  for _ in [0:n] do
   if u >= v then break
   let mid:=u+(v-u) / 2
   let M on <- ask mid|return ξ
   if on then u:=mid+1 else v:=mid
  return M v):=rfl
def vo (p q:Array aaF):kS p q=(do
  rule "list.sort.merge-lo"
  let all:=p.size+q.size
  let rest:=λ(to:Array aaF) (i j:Nat)=>to++p.extract i p.size++q.extract j q.size
  let tail:=λ(to:Array aaF) (i j:Nat)=>to++q.extract j q.size++p.extract i p.size
  let mut to:Array aaF:=#[<- elem' q 0]
  let mut i:=0
  let mut j:=1
  if j==q.size then return rest to i j
  if i+1==p.size then return tail to i j
  let mut mg:=gallopOf (<- get)
  for _ in [0:all] do
   let mut m:=0
   let mut n:=0
   for _ in [0:all] do
    let M Ly <- lt' (<- elem' q j) (<- elem' p i)|return rest to i j
    if Ly then
     to:=to.push (<- elem' q j);j:=j+1;n:=n+1;m:=0
     if j==q.size then return rest to i j
     if n >= mg then break
    else
     to:=to.push (<- elem' p i);i:=i+1;m:=m+1;n:=0
     if i+1==p.size then return tail to i j
     if m >= mg then break
   rule "list.sort.gallop"
   mg:=mg+1
   for _ in [0:all] do
    if mg>1 then mg:=mg-1
    modify λst=>dh st mg
    let M k <- dg η (<- elem' q j) p i (p.size-i) 0|return rest to i j
    m:=k
    if k>0 then
     to:=to++p.extract i (i+k);i:=i+k
     if i+1==p.size then return tail to i j
     if i==p.size then return rest to i j
    to:=to.push (<- elem' q j);j:=j+1
    if j==q.size then return rest to i j
    let M k <- dg G (<- elem' p i) q j (q.size-j) 0|return rest to i j
    n:=k
    if k>0 then
     to:=to++q.extract j (j+k);j:=j+k
     if j==q.size then return rest to i j
    to:=to.push (<- elem' p i);i:=i+1
    if i+1==p.size then return tail to i j
    if m<7&&n<7 then break
   mg:=mg+1
   modify λst=>dh st mg
  unsupported "internal:list.sort.merge-bound"):=rfl
def vq (p q:Array aaF):kT p q=(do
  rule "list.sort.merge-hi"
  let all:=p.size+q.size
  let rest:=λ(to:Array aaF) (i j:Nat)=>p.extract 0 i++q.extract 0 j++to.reverse
  let tail:=λ(to:Array aaF) (i j:Nat)=>q.extract 0 j++p.extract 0 i++to.reverse
  let mut i:=p.size-1
  let mut j:=q.size
  let mut to:Array aaF:=#[<- elem' p i]
  if i==0 then return rest to i j
  if j==1 then return tail to i j
  let mut mg:=gallopOf (<- get)
  for _ in [0:all] do
   let mut m:=0
   let mut n:=0
   for _ in [0:all] do
    let M Ly <- lt' (<- elem' q (j-1)) (<- elem' p (i-1))|return rest to i j
    if Ly then
     i:=i-1;to:=to.push (<- elem' p i);m:=m+1;n:=0
     if i==0 then return rest to i j
     if m >= mg then break
    else
     j:=j-1;to:=to.push (<- elem' q j);n:=n+1;m:=0
     if j==1 then return tail to i j
     if n >= mg then break
   rule "list.sort.gallop"
   mg:=mg+1
   for _ in [0:all] do
    if mg>1 then mg:=mg-1
    modify λst=>dh st mg
    let M h <- dg η (<- elem' q (j-1)) p 0 i (i-1)|return rest to i j
    let k:=i-h
    m:=k
    if k>0 then
     to:=to++(p.extract h i).reverse;i:=h
     if i==0 then return rest to i j
    j:=j-1;to:=to.push (<- elem' q j)
    if j==1 then return tail to i j
    let M h <- dg G (<- elem' p (i-1)) q 0 j (j-1)|return rest to i j
    let k:=j-h
    n:=k
    if k>0 then
     to:=to++(q.extract h j).reverse;j:=h
     if j==1 then return tail to i j
     if j==0 then return rest to i j
    i:=i-1;to:=to.push (<- elem' p i)
    if i==0 then return rest to i j
    if m<7&&n<7 then break
   mg:=mg+1
   modify λst=>dh st mg
  unsupported "internal:list.sort.merge-bound"):=rfl
def vv (i:Nat):mergeAt' i=(do
  let st <- get
  let (M (sa,na,pw),M (sb,nb,_)):=((aa0 st)[i]?,(aa0 st)[i+1]?)|unsupported "internal:list.sort.pending"
  set (adP st .aw)
  let M k <- dg η (<- elem' (abk st) sb) (abk st) sa na 0|return η
  let (sa,na):=(sa+k,na-k)
  if na==0 then return G
  let M nb <- dg G (<- elem' (abk st) (sa+na-1)) (abk st) sb nb (nb-1)|return η
  if nb==0 then return G
  let x:=(abk st).extract sa sb
  let y:=(abk st).extract sb (sb+nb)
  let got <- if na<=nb then kS x y else kT x y
  modify λs2=>ab6 s2 (got.toList.zipIdx.foldl (λa (p,j)=>a.setIfInBounds (sa+j) p) (abk s2))
  return (adS (<- get)).isNone):=rfl
structure j8 (c:aaF->aaF->Bool):Prop where
 So:∀x y,c x y=G->c y x=η
 ntr:∀x y z,c x z=G->c x y=G\/c y z=G
def le (c:aaF->aaF->Bool)(x y:aaF):Prop:=c y x=η
def j8.refl (O:j8 c)(x:aaF):le c x x:=by
 cases h:c x x
 ·exact h
 ·exact O.So _ _ h
def j8.trans (O:j8 c)(Y:le c x y)(L:le c y z):le c x z:=by
 cases h:c z x
 ·exact h
 ·rcases O.ntr _ y _ h with q|q
  ·exact Κ (q.symm.trans L) .c
  ·exact Κ (q.symm.trans Y) .c
def j8.of_lt (O:j8 c)(h:c x y=G):le c x y:=O.So _ _ h
def el (a:Array aaF)(i:Nat):aaF:=a.getD i (Value.none,Value.none)
def ua {a:Array aaF}{i:Nat}(h:i<a.size):a[i]?=M (el a i):=by
 rw[getElem?_pos a i h,el,aaW,getElem?_pos a i h];rfl
def K4 {a:Array aaF}{i:Nat}{x:aaF}(h:a[i]?=M x):el a i=x:=by
 rw[el,aaW,h];rfl
def fG {a b:Array aaF}{i j:Nat}(h:a[i]?=b[j]?):el a i=el b j:=by
 rw[el,el,aaW,aaW,h]
def SR (c:aaF->aaF->Bool)(a:Array aaF)(lo hi:Nat):Prop:=∀i j,lo<=i->i<=j->j<hi->le c (el a i) (el a j)
def ic (prog:aas)(w:aaG)(A:abf)(E:aam->aao->Prop)(s:aao)(κ:ado)(c:aaF->aaF->Bool)(S:aaF->Prop):Prop :=
 ∀(x y:aaF) (st:aa9) (Q:Option Bool->aa9->Prop),S x->S y->kindOf st=κ->Q (M (c x y)) st->wpS .ab A E s (lt' x y) Q st
section
variable {S:aaF->Prop}
def aT {a:Array aaF}{i:Nat}{Q:aaF->aa9->Prop}{st:aa9}(h:i<a.size)(q:Q (el a i) st):wpS .ab A E s (elem' a i) Q st:=by
 rw[elem'_eq,ua h];exact aaM q
def kh (L:ic prog w A E s κ c S){left:Bool}{key:aaF}{a:Array aaF}{i:Nat}{Q:Option Bool->aa9->Prop}{st:aa9}(hk:kindOf st=κ)(O:S key)(Y:S (el a i))(hi:i<a.size)(h:∀b,Q (M b) st):wpS .ab A E s (do
   let z <- elem' a i
   if left then lt' z key else return (<- lt' key z).map (!·):StateT aa9 Sem (Option Bool)) Q st:=by
 refine aaI (aT hi ?_);cases left with
 |true=>exact L _ _ st Q Y O hk (h _)
 |false=>exact aaI (L _ _ st _ O Y hk (aaM (h _)))
def fg (L:ic prog w A E s κ c S){left:Bool}{key:aaF}{a:Array aaF}{base n hint:Nat}{Q:Option Nat->aa9->Prop}{st:aa9}(hk:kindOf st=κ)(hK:S key)(hA:∀i,i<n->S (el a (base+i)))(hn:base+n<=a.size)
  (hh:hint<n) (h:∀k,k<=n->Q (M k) st):wpS .ab A E s (dg left key a base n hint) Q st:=by
 rw[yD];dsimp only;refine aaI (kh L hk hK (hA _ hh) .h λb0=>?_)
 dsimp only;have Q4:∀{f:Nat->Option .aB×Nat×Nat->StateT aa9 Sem (ForInStep (Option .aB×Nat×Nat))} {g:Option .aB×Nat×Nat->StateT aa9 Sem .aB} {u0 v0:Nat},u0<=v0->v0<=n ->
   (∀x u v (R:ForInStep (Option .aB×Nat×Nat)->aa9->Prop),(u >= v->R (.done (ξ,u,v)) st)->(¬ u >= v->∀b:Bool,R (.yield (if b=G then (ξ,u+(v-u) / 2+1,v) else (ξ,u,u+(v-u) / 2))) st)->u<=v->v<=n->wpS .ab A E s (f x (ξ,u,v)) R st)->(∀v,v<=n->wpS .ab A E s (g (ξ,v,v)) Q st) ->
   wpS .ab A E s (forIn [:n] (ξ,u0,v0) f >>= g) Q st:=λ{f g u0 v0} Y O hf hg=>by
  refine aaI (acx (abJ (I:=λx r aI=>aI=st/\∃u v,r=(ξ,u,v)/\u<=v/\v<=n/\v-u<=n-x) (Q:=λr aI=>aI=st/\∃v,r=(ξ,v,v)/\v<=n) ?_ ?_ {rfl,_,_,rfl,Y,O,by omega}) ?_)
  ·rintro x r aI _ hx ⟨rfl,u,v,rfl,g1,g2,g3⟩;refine hf x u v _ (λz=>{rfl,u,by rw[show v=u by omega],by omega}) (λz b=>?_) g1 g2
   cases b
   ·exact{rfl,_,_,rfl,by omega,by omega,by omega}
   ·exact{rfl,_,_,rfl,by omega,by omega,by omega}
  ·rintro r aI ⟨rfl,u,v,rfl,g1,g2,g3⟩;exact{rfl,u,by rw[show v=u by omega],by omega}
  ·rintro r aI ⟨rfl,v,rfl,g2⟩;exact hg v g2
 cases b0 with
 |true =>
  rw[ω rfl];refine aaI (acx (abJ (I:=λx r aI=>aI=st/\∃be i_,r=(ξ,be,i_)/\hint+be<n/\be<i_) (Q:=λr aI=>aI=st/\∃be i_,r=(ξ,be,i_)/\hint+be<n/\be<i_) ?_ (λ_ _ z=>z) {rfl,0,1,rfl,by omega,by omega}) ?_)
  ·rintro x r aI _ hx ⟨rfl,be,i_,rfl,Y,O⟩;dsimp only
   by_cases hr:i_ >= n-hint
   ·rw[ω hr];exact aaM {(rfl),be,i_,rfl,Y,O}
   ·rw[Δ hr];refine aaI (kh L hk hK (hA _ .h) .h λb=>?_)
    cases b
    ·exact aaM {(rfl),be,i_,rfl,Y,O}
    ·exact aaM {rfl,i_,_,rfl,by omega,by omega}
  rintro r aI ⟨e0,be,i_,rfl,Y,O⟩;rw[e0];dsimp only;refine Q4 .h .h (λx u v R z1 z2 g1 g2=>?_) λv hv=>aaM (h v hv)
  dsimp only
  by_cases Js:u >= v
  ·rw[ω Js];exact aaM (z1 Js)
  ·rw[Δ Js];refine aaI (kh L hk hK (hA _ .h) .h λb=>?_)
   have:=z2 Js b;cases b <;> exact aaM this
 |false =>
  rw[Δ .c]
  refine aaI (acx (abJ (I:=λx r aI=>aI=st/\∃be i_,r=(ξ,be,i_)/\be<=hint/\be<i_) (Q:=λr aI=>aI=st/\∃be i_,r=(ξ,be,i_)/\be<=hint/\be<i_) ?_ (λ_ _ z=>z) {rfl,0,1,rfl,by omega,by omega}) ?_)
  ·rintro x r aI _ hx ⟨rfl,be,i_,rfl,Y,O⟩;dsimp only
   by_cases hr:i_ >= hint+1
   ·rw[ω hr];exact aaM {(rfl),be,i_,rfl,Y,O}
   ·rw[Δ hr];refine aaI (kh L hk hK (hA _ .h) .h λb=>?_)
    cases b
    ·exact aaM {rfl,i_,_,rfl,by omega,by omega}
    ·exact aaM {(rfl),be,i_,rfl,Y,O}
  rintro r aI ⟨e0,be,i_,rfl,Y,O⟩;rw[e0];dsimp only;refine Q4 .h .h (λx u v R z1 z2 g1 g2=>?_) λv hv=>aaM (h v hv)
  dsimp only
  by_cases Js:u >= v
  ·rw[ω Js];exact aaM (z1 Js)
  ·rw[Δ Js];refine aaI (kh L hk hK (hA _ .h) .h λb=>?_)
   have:=z2 Js b;cases b <;> exact aaM this
end
section
variable {p:Array aaF}{t:List aaF}
def J0 {a:Array aaF}{i:Nat}(h:i<a.size):a.toList.drop i=el a i::a.toList.drop (i+1):=by
 have L:i<a.toList.length:=by rw[aau];exact h
 have e:a.toList[i]=el a i:=by
  have O:=aav L;rw[aaP,ua h]at O;exact(aaZ O).symm
 rw[abh L,e]
structure Mg (p q:Array aaF)(t:List aaF)(i j:Nat):Prop where
 hi:i<=p.size
 hj:j<=q.size
 perm:t.Perm (p.toList.take i++q.toList.take j)
abbrev Gd (p q:Array aaF)(t:List aaF):Prop:=t.Perm (p.toList++q.toList)
def Mg.kq (m:Mg p q t i j)(h:j+k<=q.size):Mg p q (t++(q.toList.drop j).take k) i (j+k):=⟨m.hi,h,by
 rw[List.take_add,<- abx];exact m.perm.append_right _⟩
def Mg.ku (m:Mg p q t i j)(h:i+k<=p.size):Mg p q (t++(p.toList.drop i).take k) (i+k) j:=⟨h,m.hj,by
 rw[List.take_add];refine(m.perm.append_right _).trans ?_;rw[abx,abx];exact List.Perm.append_left _ List.perm_append_comm⟩
def tP {a:Array aaF}{i:Nat}(h:i<a.size):(a.toList.drop i).take 1=[el a i]:=by
 rw[J0 h,List.take_succ_cons,List.take_zero]
def Mg.rG {to:Array aaF}(m:Mg p q to.toList i j)(h:j<q.size):Mg p q (to.push (el q j)).toList i (j+1):=by
 rw[ac8,<- tP h];exact m.kq h
def Mg.rH {to:Array aaF}(m:Mg p q to.toList i j)(h:i<p.size):Mg p q (to.push (el p i)).toList (i+1) j:=by
 rw[ac8,<- tP h];exact m.ku h
def Mg.full (m:Mg p q t p.size q.size):Gd p q t:=by
 have h:=m.perm;rw[abP (adG aau),abP (adG aau)]at h;exact h
def dc (a:Array aaF)(i j:Nat):(a.extract i j).toList=(a.toList.drop i).take (j-i):=by
 rw[Array.toList_extract,aeh]
def Mg.done (m:Mg p q to.toList i j):Gd p q (to++p.extract i p.size++q.extract j q.size).toList:=by
 have:=m.hi;have:=m.hj;rw[ab3,ab3,dc,dc];have L:=(m.ku (k:=p.size-i) .a).kq (k:=q.size-j) .a
 rw[show i+(p.size-i)=p.size by lia,show j+(q.size-j)=q.size by lia]at L
 exact L.full
def Mg.tail (m:Mg p q to.toList i j):Gd p q (to++q.extract j q.size++p.extract i p.size).toList:=by
 have:=m.hi;have:=m.hj;rw[ab3,ab3,dc,dc];have L:=(m.kq (k:=q.size-j) .a).ku (k:=p.size-i) .a
 rw[show i+(p.size-i)=p.size by lia,show j+(q.size-j)=q.size by lia]at L
 exact L.full
def AK (to a:Array aaF)(i k:Nat):(to++a.extract i (i+k)).toList=to.toList++(a.toList.drop i).take k:=by
 rw[ab3,dc,show i+k-i=k by lia]
end
structure ni (st aI:aa9):Prop where
 kind:kindOf aI=kindOf st
 arr:abk aI=abk st
 pend:aa0 aI=aa0 st
 fail:adS aI=adS st
def ni.refl (st:aa9):ni st st:={(rfl),rfl,rfl,rfl}
def ni.K2 {st aI:aa9}(e:ni st aI)(g:Nat):ni st (dh aI g):={(e.kind),e.arr,e.pend,e.fail}
abbrev RI:=Array aaF×Nat×Nat×Nat×Nat
abbrev RG:=Array aaF×Nat×Nat×Nat×Nat×Nat
abbrev RO:=Array aaF×Nat×Nat×Nat
def U_ (p q t:Array aaF)(i j mg m n:Nat):StateT aa9 Sem (ForInStep (Option .ax×RG)):=do
 let z <- elem' p i
 if (i+1+1==p.size)=G then pure (.done (M (t.push z++q.extract j++p.extract (i+1)),t.push z,i+1,j,mg,m,n))
 else if (decide (m<7)&&decide (n<7))=G then pure (.done (ξ,t.push z,i+1,j,mg,m,n)) else pure (.yield (ξ,t.push z,i+1,j,mg,m,n))
def Va (p q t:Array aaF)(i j mg m n:Nat):StateT aa9 Sem (ForInStep (Option .ax×RG)):=do
 let y <- elem' q j
 if (j+1==q.size)=G then pure (.done (M (t.push y++p.extract i++q.extract (j+1)),t.push y,i,j+1,mg,m,n))
 else do
  let x <- elem' p i
  let r <- dg G x q (j+1) (q.size-(j+1)) 0
  match r with
  |some k=>if k>0 then (if (j+1+k==q.size)=G then pure (.done (M (t.push y++q.extract (j+1) (j+1+k)++p.extract i++q.extract (j+1+k)),t.push y++q.extract (j+1) (j+1+k),i,j+1+k,mg,m,k))
    else U_ p q (t.push y++q.extract (j+1) (j+1+k)) i (j+1+k) mg m k) else U_ p q (t.push y) i (j+1) mg m k
  |_=>pure (.done (M (t.push y++p.extract i++q.extract (j+1)),t.push y,i,j+1,mg,m,n))
def Q1 (p q t:Array aaF)(i j mg m n:Nat):StateT aa9 Sem (ForInStep (Option .ax×RG)):=do
 modify λst=>dh st mg
 let y <- elem' q j
 let r <- dg η y p i (p.size-i) 0
 match r with
 |some k=>if k>0 then (if (i+k+1==p.size)=G then pure (.done (M (t++p.extract i (i+k)++q.extract j++p.extract (i+k)),t++p.extract i (i+k),i+k,j,mg,k,n))
   else if (i+k==p.size)=G then pure (.done (M (t++p.extract i (i+k)++p.extract (i+k)++q.extract j),t++p.extract i (i+k),i+k,j,mg,k,n))
   else Va p q (t++p.extract i (i+k)) (i+k) j mg k n) else Va p q t i j mg k n
 |_=>pure (.done (M (t++p.extract i++q.extract j),t,i,j,mg,m,n))
def loG (p q:Array aaF)(s:Option .ax×RG):StateT aa9 Sem (ForInStep (Option .ax×RG)):=if s.2.2.2.2.1>1 then Q1 p q s.2.1 s.2.2.1 s.2.2.2.1 (s.2.2.2.2.1-1) s.2.2.2.2.2.1 s.2.2.2.2.2.2 else Q1 p q s.2.1 s.2.2.1 s.2.2.2.1 s.2.2.2.2.1 s.2.2.2.2.2.1 s.2.2.2.2.2.2
def Q0 (p q:Array aaF)(mg:Nat)(s:Option .ax×RI):StateT aa9 Sem (ForInStep (Option .ax×RI)):=do
 let y <- elem' q s.2.2.2.1
 if (s.2.2.2.1+1==q.size)=G then pure (.done (M (s.2.1.push y++p.extract s.2.2.1++q.extract (s.2.2.2.1+1)),s.2.1.push y,s.2.2.1,s.2.2.2.1+1,0,s.2.2.2.2.2+1))
 else if s.2.2.2.2.2+1 >= mg then pure (.done (ξ,s.2.1.push y,s.2.2.1,s.2.2.2.1+1,0,s.2.2.2.2.2+1)) else pure (.yield (ξ,s.2.1.push y,s.2.2.1,s.2.2.2.1+1,0,s.2.2.2.2.2+1))
def QZ (p q:Array aaF)(mg:Nat)(s:Option .ax×RI):StateT aa9 Sem (ForInStep (Option .ax×RI)):=do
 let x <- elem' p s.2.2.1
 if (s.2.2.1+1+1==p.size)=G then pure (.done (M (s.2.1.push x++q.extract s.2.2.2.1++p.extract (s.2.2.1+1)),s.2.1.push x,s.2.2.1+1,s.2.2.2.1,s.2.2.2.2.1+1,0))
 else if s.2.2.2.2.1+1 >= mg then pure (.done (ξ,s.2.1.push x,s.2.2.1+1,s.2.2.2.1,s.2.2.2.2.1+1,0)) else pure (.yield (ξ,s.2.1.push x,s.2.2.1+1,s.2.2.2.1,s.2.2.2.2.1+1,0))
def U9 (p q:Array aaF)(mg:Nat)(s:Option .ax×RI):StateT aa9 Sem (ForInStep (Option .ax×RI)):=do
 let y <- elem' q s.2.2.2.1
 let x <- elem' p s.2.2.1
 let r <- lt' y x
 match r with
 |some Ly=>if Ly=G then Q0 p q mg s else QZ p q mg s
 |_=>pure (.done (M (s.2.1++p.extract s.2.2.1++q.extract s.2.2.2.1),s.2.1,s.2.2.1,s.2.2.2.1,s.2.2.2.2.1,s.2.2.2.2.2))
def Y7 (p q:Array aaF)(s:Option .ax×RO):StateT aa9 Sem (ForInStep (Option .ax×RO)):=do
 let s1 <- forIn [:p.size+q.size] ((ξ,s.2.1,s.2.2.1,s.2.2.2.1,0,0):Option .ax×RI) λ_ r=>U9 p q s.2.2.2.2 r
 match s1.1 with
 |some r=>pure (.done (M r,s1.2.1,s1.2.2.1,s1.2.2.2.1,s.2.2.2.2))
 |none=>do
  liftM (rule "list.sort.gallop")
  let s2 <- forIn [:p.size+q.size] ((ξ,s1.2.1,s1.2.2.1,s1.2.2.2.1,s.2.2.2.2+1,s1.2.2.2.2.1,s1.2.2.2.2.2):Option .ax×RG) λ_ r=>loG p q r
  match s2.1 with
  |some r=>pure (.done (M r,s2.2.1,s2.2.2.1,s2.2.2.2.1,s2.2.2.2.2.1))
  |none=>do
   modify λst=>dh st (s2.2.2.2.2.1+1)
   pure (.yield (ξ,s2.2.1,s2.2.2.1,s2.2.2.2.1,s2.2.2.2.2.1+1))
theorem vp (p q:Array aaF):kS p q=(do
  liftM (rule "list.sort.merge-lo")
  let y <- elem' q 0
  if (1==q.size)=G then pure (#[y]++p.extract 0++q.extract 1)
  else if (0+1==p.size)=G then pure (#[y]++q.extract 1++p.extract 0)
  else do
   let st <- get
   let s <- forIn [:p.size+q.size] ((ξ,#[y],0,1,gallopOf st):Option .ax×RO) λ_ s=>Y7 p q s
   match s.1 with
   |some r=>pure r
   |none=>liftM (unsupported "internal:list.sort.merge-bound" : Sem .ax)):=by
 rw[vo];dsimp only;refine Μ (bind _) (funext λ_=>?_);refine Μ (bind _) (funext λy=>?_);refine Μ (ite _ _) (Μ (ite _ _) ?_);refine Μ (bind _) (funext λy=>?_);refine congr (Μ bind (Μ _ (funext λ_=>funext λs=>?_))) (funext λs=>?_)
 ·refine congr (Μ bind (Μ _ (funext λ_=>funext λs=>?_))) (funext λs=>?_)
  ·rfl
  ·cases s.1
   ·refine Μ (bind _) (funext λ_=>?_);refine congr (Μ bind (Μ _ (funext λ_=>funext λs=>?_))) (funext λs=>?_)
    ·rfl
    ·cases s.1 <;> rfl
   ·rfl
 ·cases s.1 <;> rfl
section
variable {S:aaF->Prop}{p:Array aaF}
def CS {st:aa9}{Q:ForInStep (Option .ax×RG)->aa9->Prop}{t:Array aaF}{i j mg m n:Nat}(Y:Mg p q t.toList i j)(hi:i+1<p.size)
  (hd:∀out r,Gd p q out.toList->Q (.done (M out,r)) st) (hn:∀t' m n,Mg p q t'.toList (i+1) j->i+1+1<p.size->Q (.done (ξ,t',i+1,j,mg,m,n)) st/\Q (.yield (ξ,t',i+1,j,mg,m,n)) st):wpS .ab A E s (U_ p q t i j mg m n) Q st:=by
 refine aaI (aT .a ?_)
 have O:=Y.rH .a
 by_cases L:(i+1+1==p.size)=G
 ·rw[ω L];exact aaM (hd _ _ O.tail)
 rw[Δ L];have h5:i+1+1≠p.size:=by simpa using L
 let {h6,h7}:=hn _ m n O .a
 split
 ·exact aaM h6
 ·exact aaM h7
def CT {st:aa9}{Q:ForInStep (Option .ax×RG)->aa9->Prop}{t:Array aaF}{i j mg m n:Nat}(L:ic prog w A E s κ c S)(hk:kindOf st=κ)(Sp:∀i,i<p.size->S (el p i))(Sq:∀i,i<q.size->S (el q i))(m1:Mg p q t.toList i j)(hi:i+1<p.size)(hj:j<q.size)
  (hd:∀out r,Gd p q out.toList->Q (.done (M out,r)) st) (hn:∀t' O m n,Mg p q t'.toList (i+1) O->i+1+1<p.size->j<O->O<q.size->Q (.done (ξ,t',i+1,O,mg,m,n)) st/\Q (.yield (ξ,t',i+1,O,mg,m,n)) st):wpS .ab A E s (Va p q t i j mg m n) Q st:=by
 refine aaI (aT hj ?_);have Y:=m1.rG hj
 by_cases e3:(j+1==q.size)=G
 ·rw[ω e3];exact aaM (hd _ _ Y.done)
 rw[Δ e3];have h3:j+1≠q.size:=by simpa using e3
 refine aaI (aT .a (aaI (fg L hk (Sp _ .a) (λx hx=>Sq _ .a) .a .a λk k1=>?_)))
 dsimp only
 by_cases yz:k>0
 ·rw[ω yz];have m3:Mg p q (t.push (el q j)++q.extract (j+1) (j+1+k)).toList i (j+1+k):=by
   rw[AK];exact Y.kq .a
  by_cases e4:(j+1+k==q.size)=G
  ·rw[ω e4];exact aaM (hd _ _ m3.done)
  rw[Δ e4];have h4:j+1+k≠q.size:=by simpa using e4
  exact CS m3 hi hd λt' m n h1 h2=>hn t' _ m n h1 h2 .a .a
 ·rw[Δ yz];exact CS Y hi hd λt' m n h1 h2=>hn t' _ m n h1 h2 .a .a
def Lr {st:aa9}{Q:ForInStep (Option .ax×RG)->aa9->Prop}{t:Array aaF}{i j mg m n:Nat}(L:ic prog w A E s κ c S)(hk:kindOf st=κ)(Sp:∀i,i<p.size->S (el p i))(Sq:∀i,i<q.size->S (el q i))(m0:Mg p q t.toList i j)(hi:i+1<p.size)(hj:j<q.size)
  (hd:∀out r,Gd p q out.toList->Q (.done (M out,r)) (dh st mg)) (hn:∀t' Y O m n,Mg p q t'.toList Y O->Y+1<p.size->O<q.size->i+j<Y+O->Q (.done (ξ,t',Y,O,mg,m,n)) (dh st mg)/\Q (.yield (ξ,t',Y,O,mg,m,n)) (dh st mg)):wpS .ab A E s (Q1 p q t i j mg m n) Q st:=by
 refine aaI (ac9 (aaI (aT hj (aaI (fg L hk (Sq _ hj) (λx hx=>Sp _ .a) .a .a λk k1=>?_)))))
 dsimp only
 by_cases yz:k>0
 ·rw[ω yz];have m1:Mg p q (t++p.extract i (i+k)).toList (i+k) j:=by
   rw[AK];exact m0.ku .a
  by_cases e1:(i+k+1==p.size)=G
  ·rw[ω e1];exact aaM (hd _ _ m1.tail)
  rw[Δ e1]
  by_cases e2:(i+k==p.size)=G
  ·rw[ω e2];exact aaM (hd _ _ m1.done)
  rw[Δ e2];have h1:i+k+1≠p.size:=by simpa using e1
  have h2:i+k≠p.size:=by simpa using e2
  exact CT L hk Sp Sq m1 .a hj hd λt' O m n h1 h2 h3 h4=>hn t' _ O m n h1 h2 h4 .a
 ·rw[Δ yz];exact CT L hk Sp Sq m0 hi hj hd λt' O m n h1 h2 h3 h4=>hn t' _ O m n h1 h2 h4 .a
def Lq {st:aa9}{Q:ForInStep (Option .ax×RI)->aa9->Prop}{t:Array aaF}{i j mg ma na:Nat}(L:ic prog w A E s κ c S)(hk:kindOf st=κ)(Sp:∀i,i<p.size->S (el p i))(Sq:∀i,i<q.size->S (el q i))(m:Mg p q t.toList i j)(hi:i+1<p.size)(hj:j<q.size)
  (hd:∀out r,Gd p q out.toList->Q (.done (M out,r)) st) (hn:∀t' i' j' m n,Mg p q t'.toList i' j'->i'+1<p.size->j'<q.size->i+j<i'+j'->Q (.done (ξ,t',i',j',m,n)) st/\Q (.yield (ξ,t',i',j',m,n)) st):wpS .ab A E s (U9 p q mg (ξ,t,i,j,ma,na)) Q st:=by
 unfold U9 Q0 QZ;dsimp only;refine aaI (aT hj (aaI (aT .a (aaI (L _ _ st _ (Sq _ hj) (Sp _ .a) hk ?_)))))
 dsimp only
 split
 ·refine aaI (aT hj ?_);have Y:=m.rG hj
  by_cases O:(j+1==q.size)=G
  ·rw[ω O];exact aaM (hd _ _ Y.done)
  rw[Δ O];have h3:j+1≠q.size:=by simpa using O
  let {h6,h7}:=hn _ _ _ 0 (na+1) Y hi .a .a
  split
  ·exact aaM h6
  ·exact aaM h7
 ·refine aaI (aT .a ?_)
  have Y:=m.rH .a
  by_cases O:(i+1+1==p.size)=G
  ·rw[ω O];exact aaM (hd _ _ Y.tail)
  rw[Δ O];have h3:i+1+1≠p.size:=by simpa using O
  let {h6,h7}:=hn _ _ _ (ma+1) 0 Y .a hj .a
  split
  ·exact aaM h6
  ·exact aaM h7
def xl (L:ic prog w A E s κ c S){Q:Array aaF->aa9->Prop}{st:aa9}(hk:kindOf st=κ)(Sp:∀i,i<p.size->S (el p i))(Sq:∀i,i<q.size->S (el q i))
  (hp:0<p.size) (hq:0<q.size) (h:∀to aI,ni st aI->Gd p q to.toList->Q to aI) :
  wpS .ab A E s (kS p q) Q st:=by
 rw[vp];refine aaI (wpS_lift (acK {rfl,?_}));refine aaI (aT hq ?_);have m0:Mg p q (#[el q 0]:Array aaF).toList 0 1:=by
  have m:Mg p q (#[]:Array aaF).toList 0 0:={aaJ _,aaJ _,by simp}
  exact m.rG hq
 by_cases h1:(1==q.size)=G
 ·rw[ω h1];exact aaM (h _ st (ni.refl st) m0.done)
 rw[Δ h1]
 by_cases h2:(0+1==p.size)=G
 ·rw[ω h2];exact aaM (h _ st (ni.refl st) m0.tail)
 rw[Δ h2];refine aaI (aek ?_);refine aaI (acx (abJ
  (I:=λx r aI=>ni st aI/\∃to i j mg,r=(ξ,to,i,j,mg)/\Mg p q to.toList i j/\i+1<p.size/\j<q.size/\x<i+j)
  (Q:=λr aI=>ni st aI/\∃out r',r=(M out,r')/\Gd p q out.toList) ?_ ?_ ?_) ?_)
 ·rintro x r aI _ hx ⟨e,to,i,j,mg,rfl,m,hi,hj,Y⟩;unfold Y7;dsimp only;refine aaI (acx (abJ
   (I:=λy r aI=>ni st aI/\∃to i j m n,r=(ξ,to,i,j,m,n)/\Mg p q to.toList i j/\i+1<p.size/\j<q.size/\x+min y 1<i+j)
   (Q:=λr aI=>ni st aI/\((∃out r',r=(M out,r')/\Gd p q out.toList)\/∃to i j m n,r=(ξ,to,i,j,m,n)/\Mg p q to.toList i j/\i+1<p.size/\j<q.size/\x+1<i+j)) ?_ ?_ ?_) ?_)
  ·rintro y r iu _ hy ⟨O,to,i,j,ma,na,rfl,m,hi,hj,Y⟩;exact Lq L (O.kind.trans hk) Sp Sq m hi hj (λout r h=>{O,.inl {_,_,rfl,h}}) λt' i' j' m n h1 h2 h3 h4=>{{O,.inr {_,_,_,_,_,rfl,h1,h2,h3,.a}},{O,_,_,_,_,_,rfl,h1,h2,h3,.a}}
  ·rintro r iu ⟨O,to,i,j,ma,na,rfl,m,hi,hj,Y⟩;exact{O,.inr {_,_,_,_,_,rfl,m,hi,hj,.a}}
  ·exact{e,_,_,_,_,_,rfl,m,hi,hj,.a}
  rintro r iu ⟨O,⟨out,r',rfl,g⟩|⟨to,i,j,ma,na,rfl,m,hi,hj,Y⟩⟩
  ·exact aaM {O,_,_,rfl,g}
  dsimp only;refine aaI (wpS_lift (acK {rfl,?_}));refine aaI (acx (abJ
   (I:=λy r aI=>ni st aI/\∃to i j mg m n,r=(ξ,to,i,j,mg,m,n)/\Mg p q to.toList i j/\i+1<p.size/\j<q.size/\x+1<i+j)
   (Q:=λr aI=>ni st aI/\((∃out r',r=(M out,r')/\Gd p q out.toList)\/∃to i j mg m n,r=(ξ,to,i,j,mg,m,n)/\Mg p q to.toList i j/\i+1<p.size/\j<q.size/\x+1<i+j)) ?_ ?_ ?_) ?_)
  ·rintro y r iu _ hy ⟨O,to,i,j,mg,ma,na,rfl,m,hi,hj,Y⟩;show wpS .ab A E s (if mg>1 then Q1 p q to i j (mg-1) ma na else Q1 p q to i j mg ma na) _ iu
   split <;> exact Lr L (O.kind.trans hk) Sp Sq m hi hj (λout r h=>{O.K2 _,.inl {_,_,rfl,h}}) λt' i' j' m n h1 h2 h3 h4=>{{O.K2 _,.inr {_,_,_,_,_,_,rfl,h1,h2,h3,.a}},{O.K2 _,_,_,_,_,_,_,rfl,h1,h2,h3,.a}}
  ·rintro r iu ⟨O,to,i,j,mg,ma,na,rfl,m,hi,hj,Y⟩;exact{O,.inr {_,_,_,_,_,_,rfl,m,hi,hj,Y}}
  ·exact{O,_,_,_,_,_,_,rfl,m,hi,hj,Y}
  rintro r iu ⟨O,⟨out,r',rfl,g⟩|⟨to,i,j,mg,ma,na,rfl,m,hi,hj,Y⟩⟩
  ·exact aaM {O,_,_,rfl,g}
  dsimp only;refine aaI (ac9 (aaM {O.K2 _,_,_,_,_,rfl,m,hi,hj,.a}))
 ·rintro r aI ⟨e,to,i,j,mg,rfl,m,hi,hj,Y⟩
  exfalso
  rw[show max 0 (p.size+q.size)=p.size+q.size by lia]at Y
  lia
 ·exact{ni.refl st,_,_,_,_,rfl,m0,by simp at h2;lia,by simp at h1;lia,.a}
 ·rintro r aI ⟨e,out,r',rfl,g⟩;exact aaM (h _ aI e g)
end
section
variable {p:Array aaF}{t:List aaF}
structure Mh (p q:Array aaF)(t:List aaF)(i j:Nat):Prop where
 hi:i<=p.size
 hj:j<=q.size
 perm:t.Perm (p.toList.drop i++q.toList.drop j)
def fI (a:Array aaF){h i:Nat}(L:h<=i):a.toList.drop h=(a.toList.drop h).take (i-h)++a.toList.drop i:=by
 have:=(acm (i-h) (a.toList.drop h)).symm
 rwa [List.drop_drop,show h+(i-h)=i by lia]at this
def Mh.ku (m:Mh p q t i j){h:Nat}(L:h<=i):Mh p q ((p.toList.drop h).take (i-h)++t) h j:=⟨by have:=m.hi;lia,m.hj,by
 rw[fI p L,List.take_append_of_le_length (by rw[aa4,abM,aau];have:=m.hi;lia),List.take_take,Nat.min_self,abx]
 exact m.perm.append_left _⟩
def Mh.kq (m:Mh p q t i j){h:Nat}(L:h<=j):Mh p q ((q.toList.drop h).take (j-h)++t) i h:=⟨m.hi,by have:=m.hj;lia,by
 refine(m.perm.append_left _).trans ?_;rw[fI q L,List.take_append_of_le_length (by rw[aa4,abM,aau];have:=m.hj;lia),List.take_take,Nat.min_self,<- abx,<- abx]
 exact List.perm_append_comm.append_right _⟩
def uX (to:Array aaF)(x:aaF):(to.push x).toList.reverse=x::to.toList.reverse:=by
 rw[ac8,List.reverse_append];rfl
def Mh.rH {to:Array aaF}(m:Mh p q to.toList.reverse i j)(h:0<i):Mh p q (to.push (el p (i-1))).toList.reverse (i-1) j:=by
 have:=m.hi;have L:=m.ku (h:=i-1) .a
 rw[show i-(i-1)=1 by lia,tP .a]at L
 rw[uX];exact L
def Mh.rG {to:Array aaF}(m:Mh p q to.toList.reverse i j)(h:0<j):Mh p q (to.push (el q (j-1))).toList.reverse i (j-1):=by
 have:=m.hj;have L:=m.kq (h:=j-1) .a
 rw[show j-(j-1)=1 by lia,tP .a]at L
 rw[uX];exact L
def QA (a b to:Array aaF)(i j:Nat):(a.extract 0 i++b.extract 0 j++to.reverse).toList=(a.toList.drop 0).take (i-0)++((b.toList.drop 0).take (j-0)++to.toList.reverse):=by
 rw[ab3,ab3,dc,dc,Array.toList_reverse,abx]
def Mh.done {to:Array aaF}(m:Mh p q to.toList.reverse i j):Gd p q (p.extract 0 i++q.extract 0 j++to.reverse).toList:=by
 rw[QA];exact((m.kq (aaJ _)).ku (aaJ _)).perm
def Mh.tail {to:Array aaF}(m:Mh p q to.toList.reverse i j):Gd p q (q.extract 0 j++p.extract 0 i++to.reverse).toList:=by
 rw[QA];exact((m.ku (aaJ _)).kq (aaJ _)).perm
def AJ (to a:Array aaF)(h i:Nat):(to++(a.extract h i).reverse).toList.reverse=(a.toList.drop h).take (i-h)++to.toList.reverse:=by
 rw[ab3,List.reverse_append,Array.toList_reverse,List.reverse_reverse,dc]
end
abbrev RJ:=Nat×Nat×Array aaF×Nat×Nat
abbrev RH:=Nat×Nat×Array aaF×Nat×Nat×Nat
abbrev RP:=Nat×Nat×Array aaF×Nat
def XF (p q t:Array aaF)(i j mg m n:Nat):StateT aa9 Sem (ForInStep (Option .ax×RH)):=do
 let z <- elem' p (i-1)
 if (i-1==0)=G then pure (.done (M (p.extract 0 (i-1)++q.extract 0 j++(t.push z).reverse),i-1,j,t.push z,mg,m,n))
 else if (decide (m<7)&&decide (n<7))=G then pure (.done (ξ,i-1,j,t.push z,mg,m,n)) else pure (.yield (ξ,i-1,j,t.push z,mg,m,n))
def XG (p q t:Array aaF)(i j mg m n:Nat):StateT aa9 Sem (ForInStep (Option .ax×RH)):=do
 let y <- elem' q (j-1)
 if (j-1==1)=G then pure (.done (M (q.extract 0 (j-1)++p.extract 0 i++(t.push y).reverse),i,j-1,t.push y,mg,m,n))
 else do
  let x <- elem' p (i-1)
  let r <- dg G x q 0 (j-1) (j-1-1)
  match r with
  |some h=>if j-1-h>0 then (if (h==1)=G then pure (.done (M (q.extract 0 h++p.extract 0 i++(t.push y++(q.extract h (j-1)).reverse).reverse),i,h,t.push y++(q.extract h (j-1)).reverse,mg,m,j-1-h))
    else if (h==0)=G then pure (.done (M (p.extract 0 i++q.extract 0 h++(t.push y++(q.extract h (j-1)).reverse).reverse),i,h,t.push y++(q.extract h (j-1)).reverse,mg,m,j-1-h))
    else XF p q (t.push y++(q.extract h (j-1)).reverse) i h mg m (j-1-h)) else XF p q (t.push y) i (j-1) mg m (j-1-h)
  |_=>pure (.done (M (p.extract 0 i++q.extract 0 (j-1)++(t.push y).reverse),i,j-1,t.push y,mg,m,n))
def RF (p q t:Array aaF)(i j mg m n:Nat):StateT aa9 Sem (ForInStep (Option .ax×RH)):=do
 modify λst=>dh st mg
 let y <- elem' q (j-1)
 let r <- dg η y p 0 i (i-1)
 match r with
 |some h=>if i-h>0 then (if (h==0)=G then pure (.done (M (p.extract 0 h++q.extract 0 j++(t++(p.extract h i).reverse).reverse),h,j,t++(p.extract h i).reverse,mg,i-h,n))
   else XG p q (t++(p.extract h i).reverse) h j mg (i-h) n) else XG p q t i j mg (i-h) n
 |_=>pure (.done (M (p.extract 0 i++q.extract 0 j++t.reverse),i,j,t,mg,m,n))
def hiG (p q:Array aaF)(s:Option .ax×RH):StateT aa9 Sem (ForInStep (Option .ax×RH)):=if s.2.2.2.2.1>1 then RF p q s.2.2.2.1 s.2.1 s.2.2.1 (s.2.2.2.2.1-1) s.2.2.2.2.2.1 s.2.2.2.2.2.2 else RF p q s.2.2.2.1 s.2.1 s.2.2.1 s.2.2.2.2.1 s.2.2.2.2.2.1 s.2.2.2.2.2.2
def XE (p q t:Array aaF)(mg i j m:Nat):StateT aa9 Sem (ForInStep (Option .ax×RJ)):=do
 let x <- elem' p (i-1)
 if (i-1==0)=G then pure (.done (M (p.extract 0 (i-1)++q.extract 0 j++(t.push x).reverse),i-1,j,t.push x,m+1,0))
 else if m+1 >= mg then pure (.done (ξ,i-1,j,t.push x,m+1,0)) else pure (.yield (ξ,i-1,j,t.push x,m+1,0))
def XD (p q t:Array aaF)(mg i j n:Nat):StateT aa9 Sem (ForInStep (Option .ax×RJ)):=do
 let y <- elem' q (j-1)
 if (j-1==1)=G then pure (.done (M (q.extract 0 (j-1)++p.extract 0 i++(t.push y).reverse),i,j-1,t.push y,0,n+1))
 else if n+1 >= mg then pure (.done (ξ,i,j-1,t.push y,0,n+1)) else pure (.yield (ξ,i,j-1,t.push y,0,n+1))
def Zs (p q t:Array aaF)(mg i j m n:Nat):StateT aa9 Sem (ForInStep (Option .ax×RJ)):=do
 let y <- elem' q (j-1)
 let x <- elem' p (i-1)
 let r <- lt' y x
 match r with
 |some Ly=>if Ly=G then XE p q t mg i j m else XD p q t mg i j n
 |_=>pure (.done (M (p.extract 0 i++q.extract 0 j++t.reverse),i,j,t,m,n))
def Zr (p q:Array aaF)(s:Option .ax×RP):StateT aa9 Sem (ForInStep (Option .ax×RP)):=do
 let s1 <- forIn [:p.size+q.size] ((ξ,s.2.1,s.2.2.1,s.2.2.2.1,0,0):Option .ax×RJ) λ_ r=>Zs p q r.2.2.2.1 s.2.2.2.2 r.2.1 r.2.2.1 r.2.2.2.2.1 r.2.2.2.2.2
 match s1.1 with
 |some r=>pure (.done (M r,s1.2.1,s1.2.2.1,s1.2.2.2.1,s.2.2.2.2))
 |none=>do
  liftM (rule "list.sort.gallop")
  let s2 <- forIn [:p.size+q.size] ((ξ,s1.2.1,s1.2.2.1,s1.2.2.2.1,s.2.2.2.2+1,s1.2.2.2.2.1,s1.2.2.2.2.2):Option .ax×RH) λ_ r=>hiG p q r
  match s2.1 with
  |some r=>pure (.done (M r,s2.2.1,s2.2.2.1,s2.2.2.2.1,s2.2.2.2.2.1))
  |none=>do
   modify λst=>dh st (s2.2.2.2.2.1+1)
   pure (.yield (ξ,s2.2.1,s2.2.2.1,s2.2.2.2.1,s2.2.2.2.2.1+1))
theorem vt (p q:Array aaF):kT p q=(do
  liftM (rule "list.sort.merge-hi")
  let y <- elem' p (p.size-1)
  if (p.size-1==0)=G then pure (p.extract 0 (p.size-1)++q.extract 0++#[y].reverse)
  else if (q.size==1)=G then pure (q.extract 0++p.extract 0 (p.size-1)++#[y].reverse)
  else do
   let st <- get
   let s <- forIn [:p.size+q.size] ((ξ,p.size-1,q.size,#[y],gallopOf st):Option .ax×RP) λ_ s=>Zr p q s
   match s.1 with
   |some r=>pure r
   |none=>liftM (unsupported "internal:list.sort.merge-bound" : Sem .ax)):=by
 rw[vq];dsimp only;refine Μ (bind _) (funext λ_=>?_);refine Μ (bind _) (funext λy=>?_);refine Μ (ite _ _) (Μ (ite _ _) ?_);refine Μ (bind _) (funext λy=>?_);refine congr (Μ bind (Μ _ (funext λ_=>funext λs=>?_))) (funext λs=>?_)
 ·refine congr (Μ bind (Μ _ (funext λ_=>funext λs=>?_))) (funext λs=>?_)
  ·rfl
  ·cases s.1
   ·refine Μ (bind _) (funext λ_=>?_);refine congr (Μ bind (Μ _ (funext λ_=>funext λs=>?_))) (funext λs=>?_)
    ·rfl
    ·cases s.1 <;> rfl
   ·rfl
 ·cases s.1 <;> rfl
section
variable {S:aaF->Prop}{p:Array aaF}
def CU {st:aa9}{Q:ForInStep (Option .ax×RH)->aa9->Prop}{t:Array aaF}{i j mg m n:Nat}(Y:Mh p q t.toList.reverse i j)(hi:0<i)
  (hd:∀out r,Gd p q out.toList->Q (.done (M out,r)) st) (hn:∀t' m n,Mh p q t'.toList.reverse (i-1) j->0<i-1->Q (.done (ξ,i-1,j,t',mg,m,n)) st/\Q (.yield (ξ,i-1,j,t',mg,m,n)) st):wpS .ab A E s (XF p q t i j mg m n) Q st:=by
 have nX:=Y.hi;refine aaI (aT .a ?_)
 have O:=Y.rH hi
 by_cases L:(i-1==0)=G
 ·rw[ω L];exact aaM (hd _ _ O.done)
 rw[Δ L];have h5:i-1≠0:=by simpa using L
 let {h6,h7}:=hn _ m n O .a
 split
 ·exact aaM h6
 ·exact aaM h7
def CW {st:aa9}{Q:ForInStep (Option .ax×RH)->aa9->Prop}{t:Array aaF}{i j mg m n:Nat}(L:ic prog w A E s κ c S)(hk:kindOf st=κ)(Sp:∀i,i<p.size->S (el p i))(Sq:∀i,i<q.size->S (el q i))(m1:Mh p q t.toList.reverse i j)(hi:0<i)(hj:1<j)
  (hd:∀out r,Gd p q out.toList->Q (.done (M out,r)) st) (hn:∀t' O m n,Mh p q t'.toList.reverse (i-1) O->0<i-1->1<O->O<j->Q (.done (ξ,i-1,O,t',mg,m,n)) st/\Q (.yield (ξ,i-1,O,t',mg,m,n)) st):wpS .ab A E s (XG p q t i j mg m n) Q st:=by
 have mi:=m1.hi;have mj:=m1.hj;refine aaI (aT .a ?_)
 have m2:=m1.rG .a
 by_cases e3:(j-1==1)=G
 ·rw[ω e3];exact aaM (hd _ _ m2.tail)
 rw[Δ e3];have h3:j-1≠1:=by simpa using e3
 refine aaI (aT .a (aaI (fg L hk (Sp _ .a) (λx hx=>Sq _ .a) .a .a λh k1=>?_)))
 dsimp only
 by_cases yz:j-1-h>0
 ·rw[ω yz];have Y:Mh p q (t.push (el q (j-1))++(q.extract h (j-1)).reverse).toList.reverse i h:=by
   rw[AJ];exact m2.kq k1
  by_cases e4:(h==1)=G
  ·rw[ω e4];exact aaM (hd _ _ Y.tail)
  rw[Δ e4]
  by_cases e5:(h==0)=G
  ·rw[ω e5];exact aaM (hd _ _ Y.done)
  rw[Δ e5];have h4:h≠1:=by simpa using e4
  have h5:h≠0:=by simpa using e5
  exact CU Y hi hd λt' m n h1 h2=>hn t' _ m n h1 h2 .a .a
 ·rw[Δ yz];exact CU m2 hi hd λt' m n h1 h2=>hn t' _ m n h1 h2 .a .a
def Lu {st:aa9}{Q:ForInStep (Option .ax×RH)->aa9->Prop}{t:Array aaF}{i j mg m n:Nat}(L:ic prog w A E s κ c S)(hk:kindOf st=κ)(Sp:∀i,i<p.size->S (el p i))(Sq:∀i,i<q.size->S (el q i))(m0:Mh p q t.toList.reverse i j)(hi:0<i)(hj:1<j)
  (hd:∀out r,Gd p q out.toList->Q (.done (M out,r)) (dh st mg)) (hn:∀t' Y O m n,Mh p q t'.toList.reverse Y O->0<Y->1<O->Y+O<i+j->Q (.done (ξ,Y,O,t',mg,m,n)) (dh st mg)/\Q (.yield (ξ,Y,O,t',mg,m,n)) (dh st mg)):wpS .ab A E s (RF p q t i j mg m n) Q st:=by
 have mi:=m0.hi;have mj:=m0.hj;refine aaI (ac9 (aaI (aT .a (aaI (fg L hk (Sq _ .a) (λx hx=>Sp _ .a) .a .a λh k1=>?_)))))
 dsimp only
 by_cases yz:i-h>0
 ·rw[ω yz];have m1:Mh p q (t++(p.extract h i).reverse).toList.reverse h j:=by
   rw[AJ];exact m0.ku k1
  by_cases e1:(h==0)=G
  ·rw[ω e1];exact aaM (hd _ _ m1.done)
  rw[Δ e1];have yC:h≠0:=by simpa using e1
  exact CW L hk Sp Sq m1 .a hj hd λt' O m n h1 h2 h3 h4=>hn t' _ O m n h1 h2 h3 .a
 ·rw[Δ yz];exact CW L hk Sp Sq m0 hi hj hd λt' O m n h1 h2 h3 h4=>hn t' _ O m n h1 h2 h3 .a
def Ls {st:aa9}{Q:ForInStep (Option .ax×RJ)->aa9->Prop}{t:Array aaF}{i j mg ma na:Nat}(L:ic prog w A E s κ c S)(hk:kindOf st=κ)(Sp:∀i,i<p.size->S (el p i))(Sq:∀i,i<q.size->S (el q i))(m:Mh p q t.toList.reverse i j)(hi:0<i)(hj:1<j)
  (hd:∀out r,Gd p q out.toList->Q (.done (M out,r)) st) (hn:∀t' i' j' m n,Mh p q t'.toList.reverse i' j'->0<i'->1<j'->i'+j'<i+j->Q (.done (ξ,i',j',t',m,n)) st/\Q (.yield (ξ,i',j',t',m,n)) st):wpS .ab A E s (Zs p q t mg i j ma na) Q st:=by
 have nX:=m.hi;have t7:=m.hj;refine aaI (aT .a (aaI (aT .a (aaI (L _ _ st _ (Sq _ .a) (Sp _ .a) hk ?_)))))
 dsimp only
 split
 ·refine aaI (aT .a ?_)
  have Y:=m.rH hi
  by_cases O:(i-1==0)=G
  ·rw[ω O];exact aaM (hd _ _ Y.done)
  rw[Δ O];have h3:i-1≠0:=by simpa using O
  let {h6,h7}:=hn _ _ _ (ma+1) 0 Y .a hj .a
  split
  ·exact aaM h6
  ·exact aaM h7
 ·refine aaI (aT .a ?_)
  have Y:=m.rG .a
  by_cases O:(j-1==1)=G
  ·rw[ω O];exact aaM (hd _ _ Y.tail)
  rw[Δ O];have h3:j-1≠1:=by simpa using O
  let {h6,h7}:=hn _ _ _ 0 (na+1) Y hi .a .a
  split
  ·exact aaM h6
  ·exact aaM h7
def xm (L:ic prog w A E s κ c S){Q:Array aaF->aa9->Prop}{st:aa9}(hk:kindOf st=κ)(Sp:∀i,i<p.size->S (el p i))(Sq:∀i,i<q.size->S (el q i))
  (hp:0<p.size) (hq:0<q.size) (h:∀to aI,ni st aI->Gd p q to.toList->Q to aI) :
  wpS .ab A E s (kT p q) Q st:=by
 rw[vt];refine aaI (wpS_lift (acK {rfl,?_}));refine aaI (aT .a ?_)
 have m0:Mh p q (#[el p (p.size-1)]:Array aaF).toList.reverse (p.size-1) q.size:=by
  have m:Mh p q (#[]:Array aaF).toList.reverse p.size q.size:={aaq _,aaq _,by rw[acV (adG aau),acV (adG aau)];exact .refl _}
  exact m.rH hp
 by_cases h1:(p.size-1==0)=G
 ·rw[ω h1];exact aaM (h _ st (ni.refl st) m0.done)
 rw[Δ h1];have yC:p.size-1≠0:=by simpa using h1
 by_cases h2:(q.size==1)=G
 ·rw[ω h2];exact aaM (h _ st (ni.refl st) m0.tail)
 rw[Δ h2];have qA:q.size≠1:=by simpa using h2
 refine aaI (aek ?_);refine aaI (acx (abJ
  (I:=λx r aI=>ni st aI/\∃i j to mg,r=(ξ,i,j,to,mg)/\Mh p q to.toList.reverse i j/\0<i/\1<j/\i+j+x<p.size+q.size)
  (Q:=λr aI=>ni st aI/\∃out r',r=(M out,r')/\Gd p q out.toList) ?_ ?_ ?_) ?_)
 ·rintro x r aI _ hx ⟨e,i,j,to,mg,rfl,m,hi,hj,Y⟩;unfold Zr;dsimp only;refine aaI (acx (abJ
   (I:=λy r aI=>ni st aI/\∃i j to m n,r=(ξ,i,j,to,m,n)/\Mh p q to.toList.reverse i j/\0<i/\1<j/\i+j+x+min y 1<p.size+q.size)
   (Q:=λr aI=>ni st aI/\((∃out r',r=(M out,r')/\Gd p q out.toList)\/∃i j to m n,r=(ξ,i,j,to,m,n)/\Mh p q to.toList.reverse i j/\0<i/\1<j/\i+j+x+1<p.size+q.size)) ?_ ?_ ?_) ?_)
  ·rintro y r iu _ hy ⟨O,i,j,to,ma,na,rfl,m,hi,hj,Y⟩;exact Ls L (O.kind.trans hk) Sp Sq m hi hj (λout r h=>{O,.inl {_,_,rfl,h}}) λt' i' j' m n h1 h2 h3 h4=>{{O,.inr {_,_,_,_,_,rfl,h1,h2,h3,.a}},{O,_,_,_,_,_,rfl,h1,h2,h3,.a}}
  ·rintro r iu ⟨O,i,j,to,ma,na,rfl,m,hi,hj,Y⟩;exact{O,.inr {_,_,_,_,_,rfl,m,hi,hj,.a}}
  ·exact{e,_,_,_,_,_,rfl,m,hi,hj,.a}
  rintro r iu ⟨O,⟨out,r',rfl,g⟩|⟨i,j,to,ma,na,rfl,m,hi,hj,Y⟩⟩
  ·exact aaM {O,_,_,rfl,g}
  dsimp only;refine aaI (wpS_lift (acK {rfl,?_}));refine aaI (acx (abJ
   (I:=λy r aI=>ni st aI/\∃i j to mg m n,r=(ξ,i,j,to,mg,m,n)/\Mh p q to.toList.reverse i j/\0<i/\1<j/\i+j+x+1<p.size+q.size)
   (Q:=λr aI=>ni st aI/\((∃out r',r=(M out,r')/\Gd p q out.toList)\/∃i j to mg m n,r=(ξ,i,j,to,mg,m,n)/\Mh p q to.toList.reverse i j/\0<i/\1<j/\i+j+x+1<p.size+q.size)) ?_ ?_ ?_) ?_)
  ·rintro y r iu _ hy ⟨O,i,j,to,mg,ma,na,rfl,m,hi,hj,Y⟩;show wpS .ab A E s (if mg>1 then RF p q to i j (mg-1) ma na else RF p q to i j mg ma na) _ iu
   split <;> exact Lu L (O.kind.trans hk) Sp Sq m hi hj (λout r h=>{O.K2 _,.inl {_,_,rfl,h}}) λt' i' j' m n h1 h2 h3 h4=>{{O.K2 _,.inr {_,_,_,_,_,_,rfl,h1,h2,h3,.a}},{O.K2 _,_,_,_,_,_,_,rfl,h1,h2,h3,.a}}
  ·rintro r iu ⟨O,i,j,to,mg,ma,na,rfl,m,hi,hj,Y⟩;exact{O,.inr {_,_,_,_,_,_,rfl,m,hi,hj,Y}}
  ·exact{O,_,_,_,_,_,_,rfl,m,hi,hj,Y}
  rintro r iu ⟨O,⟨out,r',rfl,g⟩|⟨i,j,to,mg,ma,na,rfl,m,hi,hj,Y⟩⟩
  ·exact aaM {O,_,_,rfl,g}
  dsimp only;refine aaI (ac9 (aaM {O.K2 _,_,_,_,_,rfl,m,hi,hj,.a}))
 ·rintro r aI ⟨e,i,j,to,mg,rfl,m,hi,hj,Y⟩
  exfalso
  rw[show max 0 (p.size+q.size)=p.size+q.size by lia]at Y
  lia
 ·exact{ni.refl st,_,_,_,_,rfl,m0,.a,.a,.a}
 ·rintro r aI ⟨e,out,r',rfl,g⟩;exact aaM (h _ aI e g)
end
section
variable {a b:Array aaF}
structure Rg (a b:Array aaF)(lo hi:Nat):Prop where
 perm:b.Perm a
 out:∀k,(k<lo\/hi<=k)->el b k=el a k
def Rg.refl {lo hi:Nat}:Rg a a lo hi:={Array.Perm.refl _,λ_ _=>rfl}
def Rg.trans {d:Array aaF}{lo hi:Nat}(x:Rg a b lo hi)(y:Rg b d lo hi):Rg a d lo hi:={y.perm.trans x.perm,λk h=>(y.out k h).trans (x.out k h)}
def Rg.mono {lo hi L nX:Nat}(x:Rg a b lo hi)(Y:L<=lo)(O:hi<=nX):Rg a b L nX:={x.perm,λk h=>x.out k .a}
def Rg.size {lo hi:Nat}(x:Rg a b lo hi):b.size=a.size:=x.perm.size_eq
def NI (c:aaF->aaF->Bool)(a:Array aaF)(lo hi:Nat):Prop:=∀i j,lo<=i->i<=j->j<hi->le c (el a j) (el a i)
def cQ (hj:j<=a.size)(k:Nat):el (mirror a i j ((j-i) / 2)) k=if i<=k/\k<j then el a (i+j-1-k) else el a k:=by
 have e:=getElem?_mirror_all (i:=i) hj k
 by_cases h:i<=k/\k<j
 ·rw[ω h]at e ⊢
  exact fG e
 ·rw[Δ h]at e ⊢
  exact fG e
def gw (hj:j<=a.size):Rg a (mirror a i j ((j-i) / 2)) i j:={mirror_perm _ _ _ _,λk h=>by rw[cQ hj,Δ .a]}
def rO (hj:j<=a.size)(h:NI c a i j):SR c (mirror a i j ((j-i) / 2)) i j:=λx y Y O L=>by
 rw[cQ hj,cQ hj,ω .a,ω .a]
 exact h _ _ .a .a .a
def l_ {lo i j:Nat}(Xr:lo<=i)(hj:j<=a.size)(h:NI c a lo j)(he:∀x y,i<=x->x<j->i<=y->y<j->le c (el a x) (el a y)):NI c (mirror a i j ((j-i) / 2)) lo j:=λx y h1 h2 Y=>by
 rw[cQ hj,cQ hj]
 by_cases O:i<=x/\x<j
 ·rw[ω O,ω .a]
  exact he _ _ .a .a .a .a
 ·rw[Δ O]
  by_cases L:i<=y/\y<j
  ·rw[ω L];exact h _ _ .a .a .a
  ·rw[Δ L];exact h _ _ h1 h2 Y
def SR.snoc {lo n:Nat}(O:j8 c)(h:SR c a lo (lo+n))(h1:0<n)(Y:le c (el a (lo+n-1)) (el a (lo+n))):SR c a lo (lo+(n+1)):=λi j L h3 h4=>by
 by_cases hj:j<lo+n
 ·exact h i j L h3 hj
 ·obtain rfl:j=lo+n:=by lia
  by_cases hi:i<lo+n
  ·exact O.trans (h i (lo+n-1) L .a .a) Y
  ·obtain rfl:i=lo+n:=by lia
   exact O.refl _
def NI.snoc {lo n:Nat}(O:j8 c)(h:NI c a lo (lo+n))(h1:0<n)(Y:le c (el a (lo+n)) (el a (lo+n-1))):NI c a lo (lo+(n+1)):=λi j L h3 h4=>by
 by_cases hj:j<lo+n
 ·exact h i j L h3 hj
 ·obtain rfl:j=lo+n:=by lia
  by_cases hi:i<lo+n
  ·exact O.trans Y (h i (lo+n-1) L .a .a)
  ·obtain rfl:i=lo+n:=by lia
   exact O.refl _
def SR.one {lo:Nat}(O:j8 c):SR c a lo (lo+1):=λi j h1 Y L=>by
 obtain rfl:i=j:=by lia
 exact O.refl _
end
structure mM (κ:ado)(a₀:Array aaF)(st:aa9):Prop where
 kind:kindOf st=κ
 fail:adS st=ξ
 perm:(abk st).Perm a₀
def mM.size {st:aa9}(h:mM κ a₀ st):(abk st).size=a₀.size:=h.perm.size_eq
def mM.mem {st:aa9}(h:mM κ a₀ st){i:Nat}(hi:i<a₀.size):el (abk st) i∈a₀.toList:=by
 have L:i<(abk st).size:=by rw[h.size];exact hi
 refine(adf.mp h.perm).mem_iff.mp ?_;have:=ua L;rw[<- aaP]at this;exact aaY this
def mM.set {st:aa9}{b:Array aaF}{lo hi:Nat}(h:mM κ a₀ st)(r:Rg (abk st) b lo hi):mM κ a₀ (ab6 st b):={h.kind,h.fail,r.perm.trans h.perm}
def sS (L:ic prog w A E s κ c (·∈a₀.toList)){st:aa9}{i j:Nat}{Q:Option Bool->aa9->Prop}(h:mM κ a₀ st)(hi:i<a₀.size)(hj:j<a₀.size)(q:Q (M (c (el (abk st) i) (el (abk st) j))) st):
  wpS .ab A E s (ltAt' i j) Q st:=by
 rw[ltAt'_eq];refine aaI (aek ?_);exact aaI (aT (by rw[h.size];exact hi) (aaI (aT (by rw[h.size];exact hj) (L _ _ st Q (h.mem hi) (h.mem hj) h.kind q))))
def kg (L:ic prog w A E s κ c (·∈a₀.toList)){st:aa9}{b:Array aaF}{i j lo hi:Nat}{Q:Option Bool->aa9->Prop}(h:mM κ a₀ st)(R:Rg (abk st) b lo hi)(hi:i<a₀.size)(hj:j<a₀.size)(q:Q (M (c (el b i) (el b j))) (ab6 st b)):
  wpS .ab A E s (ltAt' i j) Q (ab6 st b):=sS L (h.set R) hi hj q
def ke {st:aa9}{i j:Nat}{Q:Unit->aa9->Prop}(q:Q () (ab6 st (mirror (abk st) i j ((j-i) / 2)))):wpS .ab A E s (reverseSlice' i j) Q st:=by
 rw[reverseSlice'_eq];exact ac9 q
def CY (O:j8 c)(L:ic prog w A E s κ c (·∈a₀.toList)){st:aa9}{lo gv:Nat}{Q:Option Nat->aa9->Prop}(h0:mM κ a₀ st)(h1:1<=gv)(hn:lo+gv<=a₀.size)
  (h:∀n b,1<=n->n<=gv->Rg (abk st) b lo (lo+gv)->SR c b lo (lo+n)->Q (M n) (ab6 st b)):wpS .ab A E s (countRun' lo gv) Q st:=by
 rw[countRun'_eq];dsimp only;refine aaI (acx (abJ (I:=λx r aI=>aI=st/\∃n,r=(ξ,n)/\n=x/\SR c (abk st) lo (lo+n))
  (Q:=λr aI=>aI=st/\∃n,r=(ξ,n)/\1<=n/\n<=gv/\SR c (abk st) lo (lo+n)/\(n=gv\/(n<gv/\c (el (abk st) (lo+n)) (el (abk st) (lo+n-1))=G))) ?_ ?_ ?_) ?_)
 ·rintro x r aI He hx ⟨rfl,n,rfl,rfl,hs⟩;dsimp only;refine aaI (sS L h0 .a .a ?_)
  dsimp only;cases hc:c (el (abk aI) (lo+n)) (el (abk aI) (lo+n-1))with
  |true =>
   rw[ω rfl];exact aaM {rfl,n,rfl,He,.a,hs,.inr {.a,hc}}
  |false =>
   rw[Δ .c]
   exact aaM {rfl,n+1,rfl,rfl,hs.snoc O He hc}
 ·rintro r aI ⟨rfl,n,rfl,hx,hs⟩;exact{rfl,n,rfl,.a,.a,hs,.inl .a}
 ·exact{rfl,1,rfl,rfl,SR.one O}
 rintro r aI ⟨e0,n,rfl,Zl,Ti,hs,hc⟩;rw[e0];dsimp only
 by_cases Xh:(n==gv)=G
 ·rw[ω Xh];exact aaM (h n (abk st) Zl Ti Rg.refl hs)
 rw[Δ Xh];have aaf:n≠gv:=by simpa using Xh
 have hc:c (el (abk st) (lo+n)) (el (abk st) (lo+n-1))=G:=by
  rcases hc with q|q
  ·lia
  ·exact q.2
 refine(λ(key:∀b,Rg (abk st) b lo (lo+gv)->NI c b lo (lo+(n+1))->wpS (δ prog w) A E s ?cont Q (ab6 st b))=>?main) ?key
 case main =>
  by_cases h2:n>1
  ·rw[ω h2];refine aaI (sS L h0 .a .a ?_)
   dsimp only;cases hr:c (el (abk st) lo) (el (abk st) (lo+n-1))with
   |true =>
    rw[ω rfl];exact aaM (h n (abk st) Zl Ti Rg.refl hs)
   |false =>
    rw[Δ .c]
    refine aaI (ke ?_);have hz:lo+n<=(abk st).size:=by have:=h0.size;lia
    have R0:Rg (abk st) (mirror (abk st) lo (lo+n) ((lo+n-lo) / 2)) lo (lo+gv):=(gw hz).mono (aaq _) .a
    have all:∀u v,lo<=u->u<lo+n->lo<=v->v<lo+n->le c (el (abk st) u) (el (abk st) v):=λu v h1 h2 h3 h4 =>
     O.trans (hs u (lo+n-1) h1 .a .a) (O.trans hr (hs lo v (aaq _) h3 h4))
    have N0:NI c (mirror (abk st) lo (lo+n) ((lo+n-lo) / 2)) lo (lo+(n+1)):=by
     refine NI.snoc O (l_ (aaq _) hz (λu v h1 h2 h3=>all v u .a .a h1 .a) λu v h1 h2 h3 h4=>all u v h1 h2 h3 h4) .a ?_
     rw[cQ hz,cQ hz,Δ .a,ω .a]
     exact O.trans (O.of_lt hc) (all _ _ .a .a .a .a)
    exact key _ R0 N0
  ·rw[Δ h2];have N0:NI c (abk st) lo (lo+(n+1)):=NI.snoc O (λu v h1 h2 h3=>by
    obtain rfl:u=v:=by lia
    exact O.refl _) .a (O.of_lt hc)
   show wpS _ _ _ _ _ Q (ab6 st (abk st));exact key _ Rg.refl N0
 case key =>
  intro b0 R0 N0;refine aaI (wpS_lift (acK {rfl,?_}));refine aaI (acx (abJ (I:=λx r aI=>∃b n mV,aI=ab6 st b/\r=(ξ,n,mV)/\n=x/\Rg (abk st) b lo (lo+gv)/\NI c b lo (lo+n)/\mV<n/\(∀u v,lo+n-1-mV<=u->u<lo+n->lo+n-1-mV<=v->v<lo+n->le c (el b u) (el b v)))
   (Q:=λr aI=>∃b n mV,aI=ab6 st b/\r=(ξ,n,mV)/\1<=n/\n<=gv/\Rg (abk st) b lo (lo+gv)/\NI c b lo (lo+n)/\mV<n/\(∀u v,lo+n-1-mV<=u->u<lo+n->lo+n-1-mV<=v->v<lo+n->le c (el b u) (el b v))) ?_ ?_ ?_) ?_)
  ·rintro x r aI He hx ⟨b,Y,mV,rfl,rfl,rfl,R,N,hq,he⟩;dsimp only;refine aaI (kg L h0 R .a .a ?_)
   dsimp only;cases nY:c (el b (lo+Y)) (el b (lo+Y - 1))with
   |true =>
    rw[ω rfl]
    by_cases Ft:mV>0
    ·rw[ω Ft];refine aaI (ke (aaM ?_));have hz:lo+Y<=b.size:=by have:=R.size;have:=h0.size;lia
     refine{mirror b (lo+Y - (mV+1)) (lo+Y) ((lo+Y - (lo+Y - (mV+1))) / 2),Y+1,0,rfl,rfl,rfl,R.trans ((gw hz).mono .a .a),?_,.a,?_}
     ·refine NI.snoc O (l_ .a hz N λu v h1 h2 h3 h4=>he u v .a h2 .a h4) .a ?_
      rw[cQ hz,cQ hz,Δ .a,ω .a]
      exact O.trans (O.of_lt nY) (he _ _ .a .a .a .a)
     ·intro u v h1 h2 h3 h4;obtain rfl:u=v:=by lia
      exact O.refl _
    ·rw[Δ Ft];refine aaM {b,Y+1,0,rfl,rfl,rfl,R,N.snoc O .a (O.of_lt nY),.a,?_}
     intro u v h1 h2 h3 h4;obtain rfl:u=v:=by lia
     exact O.refl _
   |false =>
    rw[Δ .c]
    refine aaI (kg L h0 R .a .a ?_)
    dsimp only;cases nB:c (el b (lo+Y - 1)) (el b (lo+Y))with
    |true =>
     rw[ω rfl];exact aaM {b,Y,mV,rfl,rfl,.a,.a,R,N,hq,he}
    |false =>
     rw[Δ .c]
     refine aaM {b,Y+1,mV+1,rfl,rfl,rfl,R,N.snoc O .a nB,.a,?_}
     have hl:∀u,lo+Y - 1-mV<=u->u<lo+(Y+1)->le c (el b u) (el b (lo+Y))/\le c (el b (lo+Y)) (el b u):=λu h1 h2=>by
      by_cases hu:u<lo+Y
      ·exact{O.trans (he u (lo+Y - 1) h1 hu .a .a) nY,O.trans nB (he (lo+Y - 1) u .a .a h1 hu)}
      ·obtain rfl:u=lo+Y:=by lia
       exact{O.refl _,O.refl _}
     intro u v h1 h2 h3 h4;exact O.trans (hl u .a h2).1 (hl v .a h4).2
  ·rintro r aI ⟨b,Y,mV,rfl,rfl,hx,R,N,hq,he⟩;exact{b,Y,mV,rfl,rfl,.a,.a,R,N,hq,he}
  ·refine{_,n+1,0,rfl,rfl,rfl,R0,N0,.a,?_}
   intro u v h1 h2 h3 h4;obtain rfl:u=v:=by lia
   exact O.refl _
  rintro r aI ⟨b,Y,mV,rfl,rfl,aai,aah,RB,NB,hq,he⟩;dsimp only
  by_cases Ft:mV>0
  ·rw[ω Ft];refine aaI (ke ?_);have hz:lo+Y<=b.size:=by have:=RB.size;have:=h0.size;lia
   have NB:=l_ (c:=c) (i:=lo+Y - (mV+1)) .a hz NB λu v h1 h2 h3 h4=>he u v .a h2 .a h4
   have RB:=RB.trans ((gw (i:=lo+Y - (mV+1)) hz).mono .a (by lia:lo+Y<=lo+gv))
   show wpS _ _ _ _ _ Q (ab6 st (mirror b (lo+Y - (mV+1)) (lo+Y) ((lo+Y - (lo+Y - (mV+1))) / 2)));generalize mirror b (lo+Y - (mV+1)) (lo+Y) ((lo+Y - (lo+Y - (mV+1))) / 2)=b1 at NB RB;refine aaI (ke ?_);have R2:Rg (abk st) (mirror b1 lo (lo+Y) ((lo+Y - lo) / 2)) lo (lo+gv):=RB.trans ((gw (by have:=RB.size;have:=h0.size;lia)).mono (aaq _) .a)
   have S2:SR c (mirror b1 lo (lo+Y) ((lo+Y - lo) / 2)) lo (lo+Y):=rO (by have:=RB.size;have:=h0.size;lia) NB
   show wpS _ _ _ _ _ Q (ab6 st (mirror b1 lo (lo+Y) ((lo+Y - lo) / 2)));generalize mirror b1 lo (lo+Y) ((lo+Y - lo) / 2)=b2 at R2 S2;refine aaI (acx (abJ (I:=λx r aI=>aI=ab6 st b2/\∃m,r=(ξ,m)/\m=x/\SR c b2 lo (lo+m))
    (Q:=λr aI=>aI=ab6 st b2/\∃m,r=(ξ,m)/\1<=m/\m<=gv/\SR c b2 lo (lo+m)) ?_ ?_ ?_) ?_)
   ·rintro x r aI He hx ⟨rfl,m,rfl,rfl,hs⟩;dsimp only;refine aaI (kg L h0 R2 .a .a ?_)
    dsimp only;cases hc:c (el b2 (lo+m)) (el b2 (lo+m-1))with
    |true =>
     rw[ω rfl];exact aaM {rfl,m,rfl,.a,.a,hs}
    |false =>
     rw[Δ .c]
     exact aaM {rfl,m+1,rfl,rfl,hs.snoc O .a hc}
   ·rintro r aI ⟨rfl,m,rfl,hx,hs⟩;exact{rfl,m,rfl,.a,.a,hs}
   ·exact{(rfl),Y,rfl,rfl,S2}
   rintro r aI ⟨rfl,m,rfl,Tn,Rz,hs⟩;exact aaM (h m b2 Tn Rz R2 hs)
  ·rw[Δ Ft];refine aaI (ke ?_);have R2:Rg (abk st) (mirror b lo (lo+Y) ((lo+Y - lo) / 2)) lo (lo+gv):=RB.trans ((gw (by have:=RB.size;have:=h0.size;lia)).mono (aaq _) .a)
   have S2:SR c (mirror b lo (lo+Y) ((lo+Y - lo) / 2)) lo (lo+Y):=rO (by have:=RB.size;have:=h0.size;lia) NB
   show wpS _ _ _ _ _ Q (ab6 st (mirror b lo (lo+Y) ((lo+Y - lo) / 2)));generalize mirror b lo (lo+Y) ((lo+Y - lo) / 2)=b2 at R2 S2;refine aaI (acx (abJ (I:=λx r aI=>aI=ab6 st b2/\∃m,r=(ξ,m)/\m=x/\SR c b2 lo (lo+m))
    (Q:=λr aI=>aI=ab6 st b2/\∃m,r=(ξ,m)/\1<=m/\m<=gv/\SR c b2 lo (lo+m)) ?_ ?_ ?_) ?_)
   ·rintro x r aI He hx ⟨rfl,m,rfl,rfl,hs⟩;dsimp only;refine aaI (kg L h0 R2 .a .a ?_)
    dsimp only;cases hc:c (el b2 (lo+m)) (el b2 (lo+m-1))with
    |true =>
     rw[ω rfl];exact aaM {rfl,m,rfl,.a,.a,hs}
    |false =>
     rw[Δ .c]
     exact aaM {rfl,m+1,rfl,rfl,hs.snoc O .a hc}
   ·rintro r aI ⟨rfl,m,rfl,hx,hs⟩;exact{rfl,m,rfl,.a,.a,hs}
   ·exact{(rfl),Y,rfl,rfl,S2}
   rintro r aI ⟨rfl,m,rfl,Tn,Rz,hs⟩;exact aaM (h m b2 Tn Rz R2 hs)
section
variable {a:Array aaF}
def mE (hs:src<a.size)(hd:d<=src)(k:Nat):el (bubble a src d) k=if k=src-d then el a src else if src-d<k/\k<=src then el a (k-1) else el a k:=by
 have e:=getElem?_bubble hs d hd k
 by_cases O:k=src-d
 ·rw[ω O]at e ⊢
  exact fG e
 ·rw[Δ O]at e ⊢
  by_cases L:src-d<k/\k<=src
  ·rw[ω L]at e ⊢
   exact fG e
  ·rw[Δ L]at e ⊢
   exact fG e
def Cp {lo k l:Nat}(O:j8 c)(hk:lo+k<a.size)(hl:l<=k)(h:SR c a lo (lo+k))(h1:∀i,i<l->le c (el a (lo+i)) (el a (lo+k)))(h2:∀i,l<=i->i<k->le c (el a (lo+k)) (el a (lo+i))):
  SR c (bubble a (lo+k) (lo+k-(lo+l))) lo (lo+(k+1)):=λi j g1 g2 g3=>by
 rw[mE hk .a,mE hk .a,show lo+k-(lo+k-(lo+l))=lo+l by lia]
 have Y:∀i,lo<=i->i<lo+l->le c (el a i) (el a (lo+k)):=λi x y=>by
  have:=h1 (i-lo) .a
  rwa [show lo+(i-lo)=i by lia]at this
 have L:∀i,lo+l<=i->i<lo+k->le c (el a (lo+k)) (el a i):=λi x y=>by
  have:=h2 (i-lo) .a .a
  rwa [show lo+(i-lo)=i by lia]at this
 by_cases ei:i=lo+l
 ·rw[ω ei]
  by_cases ej:j=lo+l
  ·rw[ω ej];exact O.refl _
  ·rw[Δ ej,ω .a]
   exact L _ .a .a
 ·rw[Δ ei]
  by_cases ej:j=lo+l
  ·rw[ω ej,Δ .a]
   exact Y _ .a .a
  ·rw[Δ ej]
   by_cases fi:lo+l<i/\i<=lo+k
   ·rw[ω fi,ω .a]
    exact h _ _ .a .a .a
   ·rw[Δ fi]
    by_cases fj:lo+l<j/\j<=lo+k
    ·rw[ω fj];exact h _ _ .a .a .a
    ·rw[Δ fj];exact h _ _ .a .a .a
def Cq (hs:src<a.size)(hd:d<=src):Rg a (bubble a src d) (src-d) (src+1):=⟨bubble_perm _ _ _,λk h=>by
 rw[mE hs hd,Δ .a,Δ .a]⟩
end
def Lw (O:j8 c)(L:ic prog w A E s κ c (·∈a₀.toList)){st:aa9}{lo n ok:Nat}{Q:Bool->aa9->Prop}(h0:mM κ a₀ st)(bh:ok<=n)(h1:1<=n)(hn:lo+n<=a₀.size)(hs:SR c (abk st) lo (lo+ok))
  (h:∀b,Rg (abk st) b lo (lo+n)->SR c b lo (lo+n)->Q G (ab6 st b)):wpS .ab A E s (binarySort' lo n ok) Q st:=by
 rw[binarySort'_eq];refine aaI (acx (abJ (I:=λk r aI=>r=(ξ,())/\k<=n/\∃b,aI=ab6 st b/\Rg (abk st) b lo (lo+n)/\SR c b lo (lo+k))
  (Q:=λr aI=>r=(ξ,())/\∃b,aI=ab6 st b/\Rg (abk st) b lo (lo+n)/\SR c b lo (lo+n)) ?_ ?_ ?_) ?_)
 ·rintro k r aI KW hk ⟨rfl,_,b,rfl,R,yv⟩;dsimp only;have hz:b.size=a₀.size:=R.size.trans h0.size;refine aaI (acx (abJ (I:=λx r aI=>aI=ab6 st b/\∃l u,r=(ξ,l,u)/\l<=u/\u<=k/\u-l<=k-x/\(∀i,i<l->le c (el b (lo+i)) (el b (lo+k)))/\(∀i,u<=i->i<k->le c (el b (lo+k)) (el b (lo+i))))
   (Q:=λr aI=>aI=ab6 st b/\∃l,r=(ξ,l,l)/\l<=k/\(∀i,i<l->le c (el b (lo+i)) (el b (lo+k)))/\(∀i,l<=i->i<k->le c (el b (lo+k)) (el b (lo+i)))) ?_ ?_ ?_) ?_)
  ·rintro x r aI _ hx ⟨rfl,l,u,rfl,g1,g2,g3,g4,Y⟩;dsimp only
   by_cases Zm:l >= u
   ·rw[ω Zm];obtain rfl:l=u:=by lia
    exact aaM {(rfl),l,rfl,g2,g4,Y}
   ·rw[Δ Zm];refine aaI (kg L h0 R .a .a ?_)
    dsimp only;cases hc:c (el b (lo+k)) (el b (lo+(l+u) / 2))with
    |true =>
     rw[ω rfl];exact aaM {rfl,l,_,rfl,.a,.a,.a,g4,λi h1 h2=>O.trans (O.of_lt hc) (yv _ _ .a .a .a)}
    |false =>
     rw[Δ .c]
     exact aaM {rfl,_,u,rfl,.a,.a,.a,λi h1=>O.trans (yv _ _ .a .a .a) (show le c (el b (lo+(l+u) / 2)) (el b (lo+k)) from hc),Y}
  ·rintro r aI ⟨rfl,l,u,rfl,g1,g2,g3,g4,Y⟩;obtain rfl:l=u:=by lia
   exact{(rfl),l,rfl,g2,g4,Y}
  ·exact{rfl,0,k,rfl,aaJ _,aaq _,.a,λi hi=>.a,λi h1 h2=>.a}
  rintro r aI ⟨rfl,l,rfl,g2,g4,Y⟩;dsimp only;rw[moveDown'_eq];refine aaI (ac9 (aaM {rfl,.a,_,rfl,R.trans ((Cq (a:=b) .a .a).mono .a .a),Cp (a:=b) O .a g2 yv g4 Y}))
 ·rintro r aI ⟨rfl,hx,b,rfl,R,yv⟩;rw[show max (max ok 1) n=n by lia]at yv
  exact{(rfl),b,rfl,R,yv}
 ·refine{rfl,.a,abk st,rfl,Rg.refl,?_}
  by_cases h2:ok=0
  ·subst h2;exact SR.one O
  ·rw[show max ok 1=ok by lia]
   exact hs
 ·rintro r aI ⟨rfl,b,rfl,R,yv⟩;exact aaM (h b R yv)
theorem vM (base:Nat):∀(l:List aaF) (off:Nat) (a:Array aaF),base+off+l.length<=a.size->∀k:Nat,
  ((l.zipIdx off).foldl (λx (z:aaF×Nat)=>x.setIfInBounds (base+z.2) z.1) a)[k]?=if base+off<=k/\k<base+off+l.length then l[k-(base+off)]? else a[k]?
 |[],off,a,_,k=>by
  rw[Δ (by rw[adZ];lia)]
  rfl
 |x::l,off,a,h,k=>by
  rw[aaS]at h;rw[List.zipIdx_cons,abZ,vM base l (off+1) _ (by rw[aeB];lia)]
  by_cases O:base+(off+1)<=k/\k<base+(off+1)+l.length
  ·rw[ω O,ω (by rw[aaS];lia),show k-(base+off)=k-(base+(off+1))+1 by lia,adA]
  ·rw[Δ O,Array.getElem?_setIfInBounds]
   by_cases L:base+off=k
   ·subst L;rw[ω rfl,ω .a,ω (by rw[aaS];lia),adF]
    rfl
   ·rw[Δ L,Δ (by rw[aaS];lia)]
def PH (a:Array aaF)(base:Nat)(l:List aaF):Array aaF:=l.zipIdx.foldl (λx (z:aaF×Nat)=>x.setIfInBounds (base+z.2) z.1) a
def zc {a:Array aaF}{base:Nat}{l:List aaF}(h:base+l.length<=a.size)(k:Nat):(PH a base l)[k]?=if base<=k/\k<base+l.length then l[k-base]? else a[k]?:=vM base l 0 a h k
def CP {a:Array aaF}{base:Nat}{l:List aaF}(h:base+l.length<=a.size):(PH a base l).toList=a.toList.take base++(l++a.toList.drop (base+l.length)):=by
 apply ac7;intro k;rw[aaP,zc h];have hz:a.toList.length=a.size:=aau
 by_cases L:base<=k/\k<base+l.length
 ·rw[ω L,abi (by rw[aa4];lia),aa4,abE .a]
  congr 1
  lia
 ·rw[Δ L]
  by_cases O:k<base
  ·rw[abE (by rw[aa4];lia),adp O,aaP]
  ·rw[abi (by rw[aa4];lia),aa4,abi .a,List.getElem?_drop,aaP]
   congr 1
   lia
def LQ (a:Array aaF)(base m:Nat):a.toList=a.toList.take base++((a.toList.drop base).take m++a.toList.drop (base+m)):=by
 have O:=(acm base a.toList).symm;have L:=(acm m (a.toList.drop base)).symm;rw[List.drop_drop]at L;rw[<- L];exact O
def Lp {a:Array aaF}{base:Nat}{l:List aaF}(h:base+l.length<=a.size)(L:l.Perm ((a.toList.drop base).take l.length)):Rg a (PH a base l) base (base+l.length) where
 perm:=by
  rw[adf,CP h];refine List.Perm.trans ?_ (List.Perm.of_eq (LQ a base l.length).symm);exact List.Perm.append_left _ (L.append_right _)
 out:=λk hk=>fG (by rw[zc h,Δ .a])
def HA {σ:Type}{M:aeG}{Q:PUnit->σ->Prop}{st aI:σ}(h:Q ⟨⟩ aI):wpS M A E s (set aI:StateT σ Sem PUnit) Q st:=by
 unfold wpS;rw[StateT.run_set];exact aap {(rfl),h}
def F1 {a:Array aaF}{lo hi i:Nat}(h:i<hi-lo)(L:hi<=a.size):el (a.extract lo hi) i=el a (lo+i) :=
 fG (by rw[Array.getElem?_extract,ω .a])
def wm {a:Array aaF}{lo hi:Nat}(L:hi<=a.size):(a.extract lo hi).size=hi-lo:=by
 rw[Array.size_extract];lia
def xn (L:ic prog w A E s κ c (·∈a₀.toList)){st:aa9}{i sa na pw sb nb UQ:Nat}{Q:Bool->aa9->Prop}(Y:mM κ a₀ st)(p1:(aa0 st)[i]?=M (sa,na,pw))(p2:(aa0 st)[i+1]?=M (sb,nb,UQ))
  (yv:sb=sa+na) (Zk:1<=na) (hnb:1<=nb) (hz:sb+nb<=a₀.size)
  (h:∀aI,kindOf aI=κ->adS aI=ξ->aa0 aI=((aa0 st).setIfInBounds i (sa,na+nb,pw)).eraseIdxIfInBounds (i+1)->Rg (abk st) (abk aI) sa (sb+nb)->Q G aI) :
  wpS .ab A E s (mergeAt' i) Q st:=by
 rw[vv];refine aaI (aek ?_);rw[p1,p2];dsimp only;refine aaI (HA ?_);have hsz:=Y.size;have O:∀{j},j<a₀.size->el (abk st) j∈a₀.toList:=λhj=>Y.mem hj;generalize ha:abk st=a at *
 have xx:kindOf (adP st .aw)=κ:=Y.kind;have HG:adS (adP st .aw)=ξ:=Y.fail;have LP:abk (adP st .aw)=a:=ha;have LO:aa0 (adP st .aw)=((aa0 st).setIfInBounds i (sa,na+nb,pw)).eraseIdxIfInBounds (i+1):=rfl;generalize hP:((aa0 st).setIfInBounds i (sa,na+nb,pw)).eraseIdxIfInBounds (i+1)=P at *
 generalize adP st P=P4 at *
 refine aaI (aT .a ?_)
 refine aaI (fg L xx (O .a) (λx hx=>O .a) .a .a λk k1=>?_)
 dsimp only
 by_cases e1:(na-k==0)=G
 ·rw[ω e1];exact aaM (h P4 xx HG LO (by rw[LP];exact Rg.refl))
 rw[Δ e1];have e1:na-k≠0:=by simpa using e1
 refine aaI (aT .a ?_)
 refine aaI (fg L xx (O .a) (λx hx=>O .a) .a .a λm m1=>?_)
 dsimp only
 by_cases e2:(m==0)=G
 ·rw[ω e2];exact aaM (h P4 xx HG LO (by rw[LP];exact Rg.refl))
 rw[Δ e2];have e2:m≠0:=by simpa using e2
 have zx:(a.extract (sa+k) sb).size=sb-(sa+k):=wm .a
 have zy:(a.extract sb (sb+m)).size=m:=by rw[wm .a];lia
 have go:∀(out:Array aaF) (iu:aa9),ni P4 iu->Gd (a.extract (sa+k) sb) (a.extract sb (sb+m)) out.toList ->
   wpS .ab A E s (do
    modify λs2=>ab6 s2 (out.toList.zipIdx.foldl (λx z=>match z with|(p,j)=>x.setIfInBounds (sa+k+j) p) (abk s2))
    let y <- get
    pure (adS y).isNone:StateT aa9 Sem Bool) Q iu:=by
  intro out iu e gp;refine aaI (ac9 (aaI (aek (aaM ?_))));show Q (adS iu).isNone (ab6 iu (PH (abk iu) (sa+k) out.toList));rw[e.fail,HG,e.arr,LP];have zo:out.toList.length=sb-(sa+k)+m:=by
   rw[gp.length_eq,aax,aau,aau,zx,zy]
  have hb:sa+k+out.toList.length<=a.size:=by lia
  have xy:(a.toList.drop (sa+k)).take out.toList.length=(a.extract (sa+k) sb).toList++(a.extract sb (sb+m)).toList:=by
   rw[dc,dc,zo,show sb+m-sb=m by lia,List.take_add,List.drop_drop,show sa+k+(sb-(sa+k))=sb by lia]
  have R:Rg a (PH a (sa+k) out.toList) (sa+k) (sa+k+out.toList.length):=Lp hb (by rw[xy];exact gp)
  exact h _ (e.kind.trans xx) (e.fail.trans HG) (e.pend.trans LO) (R.mono .a .a)
 have Za:0<(a.extract (sa+k) sb).size:=by lia
 have Y_:0<(a.extract sb (sb+m)).size:=by lia
 have Sx:∀t,t<(a.extract (sa+k) sb).size->el (a.extract (sa+k) sb) t∈a₀.toList:=λt ht=>by rw[F1 .a .a];exact O .a
 have Sy:∀t,t<(a.extract sb (sb+m)).size->el (a.extract sb (sb+m)) t∈a₀.toList:=λt ht=>by rw[F1 .a .a];exact O .a
 split
 ·exact aaI (xl L xx Sx Sy Za Y_ go)
 ·exact aaI (xm L xx Sx Sy Za Y_ go)
def Runs:List (Nat×Nat×Nat)->Nat->Nat->Prop
 |[],lo,hi=>lo=hi
 |z::r,lo,hi=>z.1=lo/\1<=z.2.1/\Runs r (lo+z.2.1) hi
theorem Runs.app:∀{l r:List (Nat×Nat×Nat)} {lo hi:Nat},Runs (l++r) lo hi->∃m,Runs l lo m/\Runs r m hi
 |[],r,lo,hi,h=>{(lo),rfl,h}
 |z::l,r,lo,hi,mx=>by
  let {Y,O,L}:=mx;let {m,g1,g2}:=Runs.app L;exact{m,{(Y),O,g1},g2}
theorem Runs.join:∀{l r:List (Nat×Nat×Nat)} {lo m hi:Nat},Runs l lo m->Runs r m hi->Runs (l++r) lo hi
 |[],r,lo,m,hi,h,g=>by
  obtain rfl:lo=m:=h;exact g
 |z::l,r,lo,m,hi,Ff,g=>by let {Y,O,L}:=Ff;exact{Y,O,Runs.join L g}
theorem Runs.len:∀{l:List (Nat×Nat×Nat)} {lo hi:Nat},Runs l lo hi->lo+l.length<=hi
 |[],lo,hi,h=>adG h
 |z::l,lo,hi,Fe=>by
  let {Y,O,L}:=Fe;have:=Runs.len L;rw[aaS];lia
theorem Runs.pow:∀{l L:List (Nat×Nat×Nat)} {lo hi:Nat},Runs l lo hi->L.map (λz=>(z.1,z.2.1))=l.map (λz=>(z.1,z.2.1))->Runs L lo hi
 |[],[],_,_,h,_=>h
 |[],z::L,_,_,_,e=>by cases e
 |z::l,[],_,_,_,e=>by cases e
 |z::l,z'::L,lo,hi,Nl,e=>by
  let {h1,h2,Y}:=Nl;rw[aa8,aa8]at e;injection e with e1 e2
  injection e1 with e3 O
  exact{e3.trans h1,by rw[O];exact h2,by rw[O];exact Runs.pow Y e2}
def LR {α:Type}{l:List α}(h:i+1<l.length):∃l1 x y l2,l=l1++x::y::l2/\l1.length=i:=by
 refine{l.take i,l[i],l[i+1],l.drop (i+2),?_,by rw[aa4];lia}
 rw[<- abh h,<- abh .a,acm]
def rl (L:ic prog w A E s κ c (·∈a₀.toList)){st:aa9}{i hi:Nat}{Q:Bool->aa9->Prop}(h0:mM κ a₀ st)(hr:Runs (aa0 st).toList 0 hi)(hh:hi<=a₀.size)(Zu:i+1<(aa0 st).size)
  (h:∀aI,mM κ a₀ aI->Rg (abk st) (abk aI) 0 hi->Runs (aa0 aI).toList 0 hi->(aa0 aI).size+1=(aa0 st).size->Q G aI) :
  wpS .ab A E s (mergeAt' i) Q st:=by
 obtain⟨l1,⟨sa,na,pw⟩,⟨sb,nb,UQ⟩,l2,el,Y⟩:=LR (l:=(aa0 st).toList) (i:=i) (by rw[aau];exact Zu)
 rw[el]at hr;let {m,r1,r2}:=hr.app;let {x1,x2,y1,y2,O}:=r2;dsimp only at x1 x2 y1 y2 O;have hlen:=O.len;have Zn:=r1.len;have p1:(aa0 st)[i]?=M (sa,na,pw):=by
  rw[<- aaP,el,abi .a,Y,adF]
  rfl
 have p2:(aa0 st)[i+1]?=M (sb,nb,UQ):=by
  rw[<- aaP,el,abi .a,Y,show i+1-i=1 by lia]
  rfl
 subst x1;refine xn L h0 p1 p2 y1 x2 y2 .a λaI k1 k2 k3 R=>?_
 have ep:(aa0 aI).toList=l1++(sa,na+nb,pw)::l2:=by
  rw[k3];have hz:i+1<((aa0 st).setIfInBounds i (sa,na+nb,pw)).size:=by rw[aeB];exact Zu
  have e1:(((aa0 st).setIfInBounds i (sa,na+nb,pw)).eraseIdxIfInBounds (i+1)).toList=((aa0 st).toList.set i (sa,na+nb,pw)).eraseIdx (i+1):=by
   unfold Array.eraseIdxIfInBounds;rw[dif_pos hz,Array.toList_eraseIdx,Array.toList_setIfInBounds]
  rw[e1,el,<- Y,List.set_append_right _ _ (aaq _),adF,List.set_cons_zero,List.eraseIdx_append_of_length_le .a,show l1.length+1-l1.length=1 by lia]
  rfl
 refine h aI {k1,k2,R.perm.trans h0.perm} (R.mono (aaJ _) .a) ?_ ?_
 ·rw[ep];refine Runs.join r1 {rfl,by show 1<=na+nb;lia,?_}
  show Runs l2 (sa+(na+nb)) hi;rw[show sa+(na+nb)=sa+na+nb by lia]
  exact O
 ·have e2:(aa0 aI).size=l1.length+(l2.length+1):=by rw[<- aau,ep,aax,aaS]
  have e3:(aa0 st).size=l1.length+(l2.length+1+1):=by rw[<- aau,el,aax,aaS,aaS]
  lia
theorem pj:∀(f n r:Nat),1<=n->1<=minRun' f n r
 |0,n,r,h=>by show 1<=n+r;lia
 |f+1,n,r,h=>by
  rw[minRun'_succ]
  split
  ·lia
  ·exact pj f _ _ .a
def Il (p:Array (Nat×Nat×Nat))(i w:Nat):(p.modify i λx=>(x.1,x.2.1,w)).toList.map (λz=>(z.1,z.2.1))=p.toList.map (λz=>(z.1,z.2.1)):=by
 apply ac7;intro k;rw[aaB,aaB,aaP,aaP,Array.getElem?_modify]
 split
 ·rw[Option.map_map];rfl
 ·rfl
def BF (h:2<=n)(qW:n<64):minRun' n n 0=n:=by
 obtain⟨f,rfl⟩:∃f,n=f+1:={n-1,.a}
 rw[minRun'_succ,ω qW]
def Runs.nil (h:Runs l 0 0):l=[]:=by
 have:=h.len;cases l with
 |nil=>rfl
 |cons z l=>rw[aaS]at this;lia
def uC (O:j8 c)(L:ic prog w A E s κ c (·∈a₀.toList)){st:aa9}{Q:Unit->aa9->Prop}(h0:mM κ a₀ st)(hp:aa0 st=#[])(h2:2<=a₀.size)
  (h:∀aI,mM κ a₀ aI->(a₀.size<64->SR c (abk aI) 0 a₀.size)->Q () aI):wpS .ab A E s sortRuns' Q st:=by
 rw[sortRuns'_eq];refine aaI (aek ?_);dsimp only;rw[h0.size];have hmr:=pj a₀.size a₀.size 0 .a
 have N5:a₀.size<64->minRun' a₀.size a₀.size 0=a₀.size:=BF h2;generalize minRun' a₀.size a₀.size 0=mr at hmr N5;refine aaI (acx (abJ (I:=λx r aI=>mM κ a₀ aI/\∃lo,r=(ξ,lo)/\lo<=a₀.size/\(a₀.size<=lo\/x<=lo)/\Runs (aa0 aI).toList 0 lo/\(a₀.size<64->lo=0\/lo=a₀.size/\(aa0 aI).size<=1/\SR c (abk aI) 0 a₀.size))
  (Q:=λr aI=>mM κ a₀ aI/\r=(ξ,a₀.size)/\Runs (aa0 aI).toList 0 a₀.size/\(a₀.size<64->(aa0 aI).size<=1/\SR c (abk aI) 0 a₀.size)) ?_ ?_ ?_) ?_)
 ·rintro x r aI _ hx ⟨hS,lo,rfl,Xr,hlx,hr,qW⟩;dsimp only
  by_cases hl:lo >= a₀.size
  ·rw[ω hl];obtain rfl:lo=a₀.size:=by lia
   exact aaM {hS,rfl,hr,λz=>(qW z).resolve_left .a |>.2}
  rw[Δ hl];have z0:a₀.size<64->lo=0:=λz=>(qW z).resolve_right .a
  refine aaI (CY O L hS .a .a λn b n1 n2 R Sb=>?_)
  dsimp only;have xh:mM κ a₀ (ab6 aI b):=hS.set R;refine(λ(key:∀(N:Nat) (stx:aa9),1<=N->lo+N<=a₀.size->(a₀.size<64->N=a₀.size)->Runs (aa0 stx).toList 0 lo->mM κ a₀ stx->SR c (abk stx) lo (lo+N)->(?G:Nat->aa9->Prop) N stx)=>?main) ?key
  case main =>
   by_cases Zj:n<mr
   ·rw[ω Zj];refine aaI (wpS_lift (acK {rfl,?_}));refine aaI (Lw O L xh .a .a .a Sb λb' R' Sb'=>?_)
    rw[Δ .c]
    have Tu:1<=min (a₀.size-lo) mr:=by lia
    have XY:lo+min (a₀.size-lo) mr<=a₀.size:=by lia
    have Tt:a₀.size<64->min (a₀.size-lo) mr=a₀.size:=λz=>by have:=z0 z;have:=N5 z;lia
    have Aa:Runs (aa0 (ab6 (ab6 aI b) b')).toList 0 lo:=hr;have xh:mM κ a₀ (ab6 (ab6 aI b) b'):=xh.set R';have OY:SR c (abk (ab6 (ab6 aI b) b')) lo (lo+(min (a₀.size-lo) mr)):=Sb';generalize ab6 (ab6 aI b) b'=stx at Aa xh OY ⊢
    generalize min (a₀.size-lo) mr=N at Tu XY Tt OY ⊢
    exact key N stx Tu XY Tt Aa xh OY
   ·rw[Δ Zj];have OY:SR c (abk (ab6 aI b)) lo (lo+n):=Sb;exact key n _ n1 .a (λz=>by have:=z0 z;have:=N5 z;lia) hr xh OY
  case key =>
   intro N stx Tu XY Tt Aa xh OY;refine aaI (aek ?_);have SA:∀(qr:aa9),mM κ a₀ qr->(a₀.size<64->SR c (abk qr) lo (lo+N))->Runs (aa0 qr).toList 0 lo->mM κ a₀ (adP qr ((aa0 qr).push (lo,N,0)))/\∃G9,((ξ,lo+N):Option Unit×Nat)=(ξ,G9)/\G9<=a₀.size/\(a₀.size<=G9\/x+1<=G9)/\Runs ((aa0 qr).push (lo,N,0)).toList 0 G9/\(a₀.size<64->G9=0\/G9=a₀.size/\((aa0 qr).push (lo,N,0)).size<=1/\SR c (abk qr) 0 a₀.size):=λqr Y g2 g3 =>
    ⟨{(Y.kind),Y.fail,Y.perm},_,rfl,.a,.a,by rw[ac8];exact g3.join {(rfl),Tu,rfl},λz=>by
     have e:=z0 z;have e2:=Tt z;have g2:=g2 z;rw[e]at g2 g3;have g4:=Μ List.length g3.nil;rw[aau]at g4;refine .inr {.a,by rw[Array.size_push,g4];exact aaq _,?_}
     rw[e2,ad3]at g2;exact g2⟩
   cases hb:(aa0 stx).back? with
   |none =>
    dsimp only;exact aaI (ac9 (aaM (SA stx xh (λ_=>OY) Aa)))
   |some z =>
    let {s1,n1,p1}:=z;have U3:¬ a₀.size<64:=λz=>by
     rw[z0 z]at Aa;have g4:aa0 stx=#[]:=Array.toList_inj.mp Aa.nil;rw[g4]at hb;cases hb
    dsimp only;refine aaI (acx (abJ (I:=λx r aI=>r=(ξ,())/\mM κ a₀ aI/\Runs (aa0 aI).toList 0 lo)
     (Q:=λr aI=>r=(ξ,())/\mM κ a₀ aI/\Runs (aa0 aI).toList 0 lo) ?_ (λ_ _ z=>z) {(rfl),xh,Aa}) ?_)
    ·rintro y r qr _ _ ⟨rfl,Y,g3⟩;refine aaI (aek ?_)
     by_cases Rv:(aa0 qr).size>1
     ·rw[ω Rv];cases hq:(aa0 qr)[(aa0 qr).size-2]? with
      |none =>
       dsimp only;exact aaM {(rfl),Y,g3}
      |some z =>
       let {u,v,YX}:=z;dsimp only
       split
       ·exact aaM {(rfl),Y,g3}
       ·exact aaI (rl L Y g3 .a .a λSY f1 _ f3 _=>aaM {(rfl),f1,f3})
     ·rw[Δ Rv];dsimp only;exact aaM {(rfl),Y,g3}
    rintro r qr ⟨rfl,Y,g3⟩;dsimp only;refine aaI (ac9 (aaI (ac9 (aaM ?_))));exact SA (adP qr _) {(Y.kind),Y.fail,Y.perm} (λz=>Κ z U3) (g3.pow (Il _ _ _))
 ·rintro r aI ⟨hS,lo,rfl,Xr,hlx,hr,qW⟩;obtain rfl:lo=a₀.size:=by lia
  exact{hS,rfl,hr,λz=>(qW z).resolve_left .a |>.2}
 ·exact{h0,0,rfl,aaJ _,.inr (aaq _),by rw[hp];rfl,λ_=>.inl rfl}
 rintro r aI ⟨hS,rfl,hr,qW⟩;dsimp only;refine aaI (acx (abJ (I:=λx r aI=>r=(ξ,())/\mM κ a₀ aI/\Runs (aa0 aI).toList 0 a₀.size/\((aa0 aI).size<=1\/(aa0 aI).size+x<=a₀.size)/\(a₀.size<64->(aa0 aI).size<=1/\SR c (abk aI) 0 a₀.size))
  (Q:=λr aI=>r=(ξ,())/\mM κ a₀ aI/\(aa0 aI).size<=1/\(a₀.size<64->SR c (abk aI) 0 a₀.size)) ?_ ?_ ?_) ?_)
 ·rintro x r iu _ hx ⟨rfl,xh,Aa,hz,qW⟩;refine aaI (aek ?_)
  by_cases h1:(aa0 iu).size<=1
  ·rw[ω h1];exact aaM {rfl,xh,h1,λz=>(qW z).2}
  rw[Δ h1];refine aaI (rl L xh Aa (aaq _) ?_ λqr hS3 _ hr3 hz3=>?_)
  ·split
   ·split <;> lia
   ·rw[Δ .c]
    lia
  ·exact aaM {rfl,hS3,hr3,.inr .a,λz=>Κ (qW z).1 h1}
 ·rintro r iu ⟨rfl,xh,Aa,hz,qW⟩;exact{rfl,xh,.a,λz=>(qW z).2}
 ·refine{rfl,hS,hr,.inr ?_,qW};have:=hr.len;rw[aau]at this;lia
 ·rintro r iu ⟨rfl,xh,hz,qW⟩;exact aaM (h iu xh qW)
def lex_nil :HT.lexLt [] y=decide (0<y.length):=by cases y <;> rfl
def k6 {a b:Int}{x y:List Int}:HT.lexLt (a::x) (b::y)=if a=b then HT.lexLt x y else decide (a<b):=rfl
theorem vx:∀{x y:List Int},HT.lexLt x y=G->HT.lexLt y x=η
 |[],[],_=>rfl
 |[],_::_,_=>rfl
 |_::_,[],h=>by cases h
 |a::x,b::y,h=>by
  rw[k6]at h ⊢
  by_cases e:a=b
  ·rw[ω e]at h;rw[ω e.symm];exact vx h
  ·rw[Δ e]at h;rw[Δ λz=>e z.symm];have:=of_decide_eq_true h;exact Φ .a
theorem zQ:∀{x z:List Int} (y:List Int),HT.lexLt x z=G->HT.lexLt x y=G\/HT.lexLt y z=G
 |[],[],_,h=>by cases h
 |[],_::_,[],h=>.inr rfl
 |[],_::_,_::_,h=>.inl rfl
 |_::_,[],_,h=>by cases h
 |a::x,b::z,[],h=>.inr rfl
 |a::x,b::z,d::y,h=>by
  rw[k6]at h ⊢
  rw[k6]
  by_cases e:a=b
  ·subst e;rw[ω rfl]at h
   by_cases L:a=d
   ·subst L;rw[ω rfl,ω rfl];exact zQ y h
   ·rw[Δ L,Δ λq=>L q.symm]
    by_cases O:a<d
    ·exact .inl (Ξ O)
    ·exact .inr (Ξ .a)
  ·rw[Δ e]at h;have h:=of_decide_eq_true h
   by_cases L:a=d
   ·subst L;rw[Δ e];exact .inr (Ξ h)
   ·rw[Δ L]
    by_cases O:a<d
    ·exact .inl (Ξ O)
    ·rw[Δ .a]
     exact .inr (Ξ .a)
def byKey (kf:aam->List Int)(x y:aaF):Bool:=HT.lexLt (kf x.1) (kf y.1)
def IJ (kf:aam->List Int):j8 (byKey kf):={λ_ _ h=>vx h,λ_ y _ h=>zQ (kf y.1) h}
theorem vw {b:Bool}{Q:Bool->aao->Prop}:∀{ns L:List Int} {us vs:List aam} (i:Nat),acW us ns->acW vs L->Q (HT.lexLt ns L) s->PySem.W.KatLex prog w A b (decide (ns.length<L.length)) Q (us.zip vs) i s
 |[],L,us,vs,i,Y,O,q=>by
  cases Y;rw[List.zip_nil_left];rw[lex_nil]at q;exact PySem.W.kat_nil q
 |n::ns,[],us,vs,i,Y,O,q=>by
  cases O;rw[List.zip_nil_right];exact PySem.W.kat_nil q
 |n::ns,m::L,us,vs,i,Y,O,q=>by
  cases Y with
  |cons _ t Y =>
   cases O with
   |cons _ t' O =>
    rw[aea];refine PySem.W.kat_cons (wpAny_eqBool_int ?_);rw[k6]at q
    by_cases e:n=m
    ·subst e;rw[ω rfl]at q;rw[beq_self_eq_true];have:=vw (b:=b) (Q:=Q) (i+1) Y O q;rw[show decide ((n::ns).length<(n::L).length)=decide (ns.length<L.length) by rw[aaS,aaS];congr 1;simp]
     exact PySem.W.kat_yes this
    ·rw[Δ e]at q;rw[show (n==m)=η from beq_eq_false_iff_ne.mpr e]
     refine PySem.W.kat_no ?_;cases b&&i==0 with
     |true=>exact oneLt_int q
     |false=>exact PySem.W.kat_one _ _ (lt_int q)
def rg (h:Heap)(kf:aam->List Int)(a:μ)(vs:List aam):Prop :=
 ∀v∈vs,∃t o xs k,v=.ref t/\t≠a/\h.get? t=M o/\o.cls=.type "tuple" /\ o.data=.seq xs k/\acW xs.toList (kf v)/\kf v≠[]
def BH {kf:aam->List Int}{a:μ}{vs:List aam}{b:Bool}{a₀:Array aaF}(T:rg s.heap kf a vs)(O:∀z∈a₀.toList,z.1∈vs):ic prog w A E s (tuples' b) (byKey kf) (·∈a₀.toList):=by
 intro x y st Q hx hy hk q;let {t,o,xs,n,e1,L,e2,L,e3,e4,L}:=T _ (O _ hx);let {t',o',CO,n',f1,L,f2,L,f3,Y,L}:=T _ (O _ hy);rw[lt'_eq];refine aaI (aek ?_);rw[hk,e1,f1];have z1:xs.size=(kf x.1).length:=by rw[<- aau];exact e4.length
 have z2:CO.size=(kf y.1).length:=by rw[<- aau];exact Y.length
 refine aaI (wpS_lift (acn (PySem.W.kat_lt e2 e3 f2 f3 ?_)));rw[z1,z2];exact vw 0 e4 Y {rfl,aaM q}
theorem ot {kf:aam->List Int}{a:μ}{h:Heap}:∀{vs:List aam},rg h kf a vs->∃fs:List aam,PySem.W.KatTups h vs fs/\fs.length=vs.length/\∀f∈fs,∃n t,f=Value.int n t
 |[],_=>{[],tv,rfl,λf hf=>by cases hf}
 |v::vs,T=>by
  let {fs,h1,h2,h3}:=ot (vs:=vs) λu hu=>T u (aaL _ hu);let {t,o,xs,k,rfl,_x,e2,e3,e4,Y,e6}:=T v aaO;obtain⟨f,r,ef,n,L,hn⟩:∃f r,xs.toList=f::r/\∃n L,f=Value.int n L:=by
   generalize kf (.ref t)=ks at Y e6;generalize xs.toList=us at Y;cases Y with
   |nil=>exact Κ rfl e6
   |cons n L r=>exact{_,_,rfl,_,_,rfl}
  have e:xs[0]?=M f:=by rw[<- aaP,ef];rfl
  exact⟨f::fs,PySem.W.KatTups.cons e2 e3 e4 e h1,by rw[aaS,aaS,h2],λg O=>by
   rcases aat.mp O with rfl|O
   ·exact{_,_,hn}
   ·exact h3 g O⟩
def BM {kf:aam->List Int}{a:μ}{vs:List aam}{Q:ado->aao->Prop}(T:rg s.heap kf a vs)(h0:0<vs.length)(q:Q (tuples' G) s):aaD .ab A (keyKind' vs.toArray) Q E s:=by
 let {fs,Y,h2,O}:=ot T;refine PySem.W.kat_kind (T:=.type "int") Y .a (λv L=>?_) .b q
 let {n,t,rfl}:=O v L;exact .now
theorem Ds {α:Type}{R:α->α->Prop}:∀{l:List α},l.length<2->l.Pairwise R
 |[],_=>.nil
 |[x],_=>List.pairwise_singleton _ _
 |_::_::_,h=>by
  rw[aaS,aaS]at h;lia
def ye {a:μ}{vs:List aam}{n:Nat}{κ:ado}{c:aam->aam->Bool}{P:PySem.Fin->aao->Prop}(ho:s.heap.get? a=M (acP "list" vs.toArray n))(hz:vs.length<=1000000)(O:j8 λx y=>c x.1 y.1)
  (T:∀s':aao,(∀t o,t≠a->s.heap.get? t=M o->s'.heap.get? t=M o)->(2<=vs.length->∀(Q:ado->aao->Prop),Q κ s'->aaD .ab A (keyKind' vs.toArray) Q E s')/\ic prog w A E s' κ (λx y=>c x.1 y.1) (·∈(vs.toArray.zip vs.toArray).toList))
  (h:∀out:List aam,out.Perm vs->(vs.length<64->out.Pairwise λx y=>c y x=η)->P (.done (.ret .none)) {s with heap:=sortedHeap s.heap a vs out.toArray}) :
  aaD .ab A (acf.«list.sort» {[.ref a],[]}) P E s:=by
 have la:a<.e:=aaw ho;obtain⟨ep,hc⟩:∃ep,(s.heap.update a (abL λ_=>#[])).get? a=M (acP "list" #[] ep):={_,get?_update_seq ho (λ_=>#[])};have old:∀t o,t≠a->s.heap.get? t=M o->(((s.heap.update a (abL λ_=>#[])).push (acP "tuple" vs.toArray 0)).push (acP "list" #[] 0)).get? t=M o:=λt o ht e =>
  aar _ (aar _ (by rw[Heap.get?_update_ne _ _ _ _ ht];exact e))
 have qw:(((s.heap.update a (abL λ_=>#[])).push (acP "tuple" vs.toArray 0)).push (acP "list" #[] 0)).get? a=M (acP "list" #[] ep):=aar _ (aar _ hc);have big:∀m:Nat,m<=vs.length->m<=aaC:=λm hm=>by rw[aa7];lia
 have zz:vs.toArray.size=vs.length:=by simp
 rw[list_sort_plain];refine aal (listItems_at ho rfl ?_);refine aal (listUpdate_at ho rfl ?_ (big _ (adG zz)) (aaJ _));refine aal (seqEpoch_at hc rfl ?_);refine aal (wpAny_newTuple ?_ (big _ (aaq _)));refine aal (wpAny_newList ?_ (aaJ _));refine abl ?_;show aaD .ab A _ P E {s with heap:=((s.heap.update a (abL λ_=>#[])).push (acP "tuple" vs.toArray 0)).push (acP "list" #[] 0)}
 dsimp only;have done:∀aI:aa9,(abk aI).Perm (vs.toArray.zip vs.toArray)->(vs.length<64->(abk aI).toList.Pairwise (le λx y=>c x.1 y.1))->P (.done (.ret .none)) {s with heap:=sortedHeap s.heap a vs ((abk aI).map (·.2))}:=λaI Y hs=>by
  have h1:∀z∈(abk aI).toList,z.1=z.2:=λz hz=>by
   have:=(adf.mp Y).mem_iff.mp hz;rw[Array.toList_zip]at this;let {i,hi}:=adU this;rw[List.getElem?_zip_eq_some]at hi;exact aaZ (hi.1.symm.trans hi.2)
  have e2:(abk aI).map (·.2)=((abk aI).toList.map (·.2)).toArray:=by
   apply Array.toList_inj.mp;rw[Array.toList_map]
  rw[e2];refine h _ ?_ λqW=>?_
  ·have:=(adf.mp Y).map (λz:aaF=>z.2);rw[Array.toList_zip]at this;refine this.trans (List.Perm.of_eq ?_);exact List.map_snd_zip .c
  ·rw[acu];refine(hs qW).imp_of_mem λ{x y} hx hy hl=>?_;rw[<- h1 x hx,<- h1 y hy];exact hl
 by_cases h2:vs.toArray.size<2
 ·rw[ω h2,ω h2];refine aal (aap ?_);rw[StateT.run_pure];refine aal (aap ?_);dsimp only;refine aal (seqEpoch_at qw rfl ?_);refine aal (listUpdate_at qw rfl ?_ (aaJ _) (by rw[Array.size_map,Array.size_zip];exact aa3 (big _ .a) (adz _)))
  simp only[bne_self_eq_false,abQ,if_false];refine aap (done (SortSt.mk' general' (vs.toArray.zip vs.toArray) #[] 7 ξ) (Array.Perm.refl _) ?_);refine λ_=>Ds ?_;show (vs.toArray.zip vs.toArray).toList.length<2;rw[aau,Array.size_zip];lia
 ·rw[Δ h2,Δ h2];let {hK,L}:=T {s with heap:=((s.heap.update a (abL λ_=>#[])).push (acP "tuple" vs.toArray 0)).push (acP "list" #[] 0)} old
  refine aal (hK .a _ ?_)
  have zp:(vs.toArray.zip vs.toArray).size=vs.length:=by rw[Array.size_zip];lia
  refine aal (acL (uC (Q:=λ_ aI=>(abk aI).Perm (vs.toArray.zip vs.toArray)/\adS aI=ξ/\(vs.length<64->SR (λx y=>c x.1 y.1) (abk aI) 0 vs.length)) O L
   (st:=SortSt.mk' κ (vs.toArray.zip vs.toArray) #[] 7 ξ) {rfl,rfl,Array.Perm.refl _} rfl .a λaI g1 g2=>{g1.perm,g1.fail,by rw[zp]at g2;exact g2}) ?_ λ_ _ e=>e)
  rintro⟨⟨⟩,aI⟩ s' ⟨rfl,Y,hf,hs⟩;dsimp only;have zs:(abk aI).size=vs.length:=Y.size_eq.trans zp;refine aal (seqEpoch_at qw rfl ?_);refine aal (listUpdate_at qw rfl ?_ (aaJ _) (by rw[Array.size_map,zs];exact aa3 (big _ (aaq _)) (adz _)))
  rw[hf];simp only[bne_self_eq_false,abQ,if_false];refine aap (done aI Y λqW=>?_);rw[aeg];intro i j hi hj aN;rw[aau]at hi hj;have:=hs qW i j (aaJ _) .a .a
  have ei:el (abk aI) i=(abk aI).toList[i]:=K4 (by rw[<- aaP];exact aav _)
  have ej:el (abk aI) j=(abk aI).toList[j]:=K4 (by rw[<- aaP];exact aav _)
  rw[ei,ej]at this;exact this
def pC {a:μ}{vs:List aam}{n:Nat}{kf:aam->List Int}{P:PySem.Fin->aao->Prop}(ho:s.heap.get? a=M (acP "list" vs.toArray n))(hz:vs.length<=1000000)(T:rg s.heap kf a vs)
  (h:∀out:List aam,out.Perm vs->(vs.length<64->out.Pairwise λx y=>HT.lexLt (kf y) (kf x)=η)->P (.done (.ret .none)) {s with heap:=sortedHeap s.heap a vs out.toArray}) :
  aaD .ab A (acf.«list.sort» {[.ref a],[]}) P E s:=by
 refine ye (κ:=tuples' G) (c:=λx y=>HT.lexLt (kf x) (kf y)) ho hz (IJ kf) (λs' kp=>?_) h;have T':rg s'.heap kf a vs:=λv O=>by
  let {t,o,xs,k,e1,L,Y,r}:=T v O;exact{t,o,xs,k,e1,L,kp t o L Y,r}
 exact⟨λh2 Q q=>BM T' .a q,BH T' λz hz=>by
  rw[Array.toList_zip]at hz;exact(adu hz).1⟩
end TS
namespace ST
open PySem PyProof.Rows
abbrev TK (prog:aas)(w:aaG):=tupleKind (intKind prog w)
abbrev kH (prog:aas)(w:aaG)(k:List Int):Int:=(TK prog w).hash k
abbrev ent (prog:aas)(w:aaG)(x:μ×List Int):Int×aam:=(kH prog w x.2,.ref x.1)
structure gI {α β:Type}(w:aaG)(en:α->Int×aam)(hk:α->Int)(ky:α->β)(o:Obj)(ts:List α)(es:Array (Int×aam))(ep:Nat)(t:SetTable):Prop where
 ex:o.ExactSet
 dat:o.data=.set es ep t
 Hi:es.toList=ts.map en
 wf:WF t (ts.map hk)
 Uy:t.place.size*5<t.mask*3
 KN:t.mask<=8191
 led:t.led=!w.params.followText "set-order"
 O_:t.plain=G
 U4:(ts.map ky).Nodup
abbrev qo (prog:aas)(w:aaG):=gI w (ent prog w) (λx=>kH prog w x.2) (λx=>x.2)
def OX (prog:aas)(w:aaG)(h:Heap)(ts:List (μ×List Int)):Prop:=∀x∈ts,(TK prog w).is h x.2 x.1
section
variable {α β:Type}{en:α->Int×aam}{hk:α->Int}{ky:α->β}{ts:List α}{o:Obj}{es:Array (Int×aam)}{t:SetTable}
def gI.fits (S:gI w en hk ky o ts es ep t):t.fits es.size=G:=by
 have L:=S.wf.sz;have O:es.size=ts.length:=by rw[<- aau,S.Hi,aan]
 rw[aan]at L;unfold SetTable.fits SetTable.fill;rw[S.wf.Pk,O,L];have:=S.Uy;simp;lia
def gI.size (S:gI w en hk ky o ts es ep t):es.size=ts.length/\t.place.size=ts.length:=by
 have L:=S.wf.sz;rw[aan]at L;exact{by rw[<- aau,S.Hi,aan],L}
end
def Cf (d:Nat)(n:Int)(L:Tok):ofAClassStatement d (.int n L)=pure η:=by
 cases d <;> rfl
def uE {k:List Int}{b:μ}{Q:Bool->aao->Prop}(hk:(TK prog w).is s.heap k b)(q:Q η s):aaD .ab A (ofAClassStatement 8 (.ref b)) Q E s:=by
 let {o,items,n,ho,hc,hd,hi}:=hk;have hT:s.TypeIs (.ref b) "tuple" := {(o),ho,hc};unfold ofAClassStatement;refine aal (wpAny_typeOf hT ?_);dsimp only;rw[ω .i]
 refine aal (aap ?_);rw[Δ .c]
 refine aal (abT ho hd ?_);dsimp only;rw[<- aef];refine aal (aeC _ (λrest r s'=>r=(ξ,())/\s'=s/\∀v∈rest,∃n O,v=Value.int n O) _ ?_ ?_ _ _ {rfl,rfl,?_})
 ·rintro v rest r s' ⟨rfl,rfl,ly⟩;let {n,O,rfl}:=ly v aaO;rw[Cf];refine aal (aap ?_);rw[Δ .c]
  exact aap {rfl,rfl,λu L=>ly u (aaL _ L)}
 ·rintro r s' ⟨rfl,rfl,_⟩;exact aap q
 ·generalize items.toList=vs at hi
  induction hi with
  |nil=>intro v Y;cases Y
  | @cons k v ks vs h1 h2 ih =>
   intro u L;rcases aat.mp L with rfl|L
   ·let {t,rfl}:=Value.isInt_shape h1;exact{_,_,rfl}
   ·exact ih u L
def Hv {k:List Int}{b:μ}(hk:(TK prog w).is s.heap k b)(l:List (μ×List Int)){Q:Bool->aao->Prop}(T:OX prog w s.heap l)(q:Q η s):aaD .ab A (searchCouldBeSeen (.ref b) (l.map λx=>Ω x.1)) Q E s:=by
 unfold searchCouldBeSeen;refine aal (aeC _ (λrest r s'=>r=(ξ,())/\s'=s/\∀v∈rest,∃x∈l,v=Ω x.1) _ ?_ ?_ _ _ {rfl,rfl,?_})
 ·rintro v rest r s' ⟨rfl,rfl,ly⟩;let {x,L,rfl}:=ly v aaO;have O:∀v∈rest,∃x∈l,v=Ω x.1:=λu hu=>ly u (aaL _ hu);dsimp only
  split
  ·exact aap {(rfl),rfl,O}
  ·refine aal ((TK prog w).quiet hk ?_);rw[Δ .c]
   refine aal ((TK prog w).quiet (T x L) ?_);rw[Δ .c]
   refine aal (uE hk ?_);rw[Δ .c]
   refine aal (uE (T x L) ?_);rw[Δ .c]
   exact aap {(rfl),rfl,O}
 ·rintro r s' ⟨rfl,rfl,_⟩;exact aap q
 ·intro v Y;let {x,L,rfl}:=abe.mp Y;exact{(x),L,rfl}
end ST
namespace L2
open PySem PySem.Spec PyProof.Rows
inductive D where
 |cI|bl (b:Bool)|int (i:Int)|str (x:Str)|obj (a:μ)
 |tup (ds:List D)|lst (ds:List D)
 |dT (ks:List (List Key)) (ds:List D)|dK (ks:List Key) (ds:List D)
 |sT (ts:List (List Int))
 |ob (φ:μ->HO)
def LW (P:aas)(w:aaG)(a:μ)(ts:List (μ×List Int))(h:Heap):Prop:=∃o es ep t,h.get? a=M o/\ST.qo P w o ts es ep t
abbrev Kn (P:aas)(w:aaG)(a:μ)(ts:List (μ×List Int)):HO:=.ext (LW P w a ts)
def Km (P:aas)(w:aaG)(H:Hp)(a:μ)(ts:List .ae):Prop :=
 ∃dy:List (μ×List Int),H a=M (Kn P w a dy)/\(∀x∈dy,H x.1=M (.tup (x.2.map V.int)))/\(dy.map (·.2)).Perm ts
section
variable (P:aas)(w:aaG)(W:μ->Prop)(H:Hp)
mutual
def aA:D->V->Prop
 |.cI,v=>v=.cI
 |.bl b,v=>v=.bl b
 |.int i,v=>v=.int i
 |.str x,v=>v=.str x
 |.obj a,v=>v=.ref a
 |.tup ds,v=>∃a vs,v=.ref a/\H a=M (.tup vs)/\aj ds vs
 |.lst ds,v=>∃a vs,v=.ref a/\H a=M (.lst vs)/\¬ W a/\aj ds vs
 |.dT ks ds,v=>∃a vs,v=.ref a/\H a=M (.dT (ks.zip vs))/\ks.length=vs.length/\¬ W a/\aj ds vs
 |.dK ks ds,v=>∃a vs,v=.ref a/\H a=M (.dK (ks.zip vs))/\ks.length=vs.length/\¬ W a/\aj ds vs
 |.sT ts,v=>∃a,v=.ref a/\Km P w H a ts/\¬ W a
 |.ob φ,v=>∃a,v=.ref a/\(H a=M (φ a)/\∀xs,φ a≠.tup xs)/\¬ W a
def aj:List D->List V->Prop
 |[],vs=>vs=[]
 |d::ds,vs=>∃v r,vs=v::r/\aA d v/\aj ds r
end
end
mutual
def D.flat:D->Bool
 |.tup ds=>D.bO ds
 |.lst _=>η
 |.dT _ _=>η
 |.dK _ _=>η
 |.sT _=>η
 |.ob _=>η
 |_=>G
def D.bO:List D->Bool
 |[]=>G
 |d::ds=>D.flat d&&D.bO ds
end
structure Kp (W:μ->Prop)(H H':Hp):Prop where
 out:∀b o,H b=M o->¬ W b->H' b=M o
 tup:∀b xs,H b=M (.tup xs)->H' b=M (.tup xs)
def Kp.refl {H:Hp}:Kp W H H:={λ_ _ e _=>e,λ_ _ e=>e}
def Kp.trans {H H1 L:Hp}(a:Kp W H H1)(b:Kp W H1 L):Kp W H L:={λc o e n=>b.out c o (a.out c o e n) n,λc xs e=>b.tup c xs (a.tup c xs e)}
def ay.kp {H H':Hp}(h:ay H H'):Kp W H H':={λb o e _=>h b o e,λb xs e=>h b _ e}
def Kp.mono {H H':Hp}(h:Kp W H H')(s:∀a,W a->L a):Kp L H H':={λb o e n=>h.out b o e λz=>n (s b z),h.tup}
section
variable {W':μ->Prop}
mutual
theorem aA.keep (k:Kp W H H'):∀{d:D} {v:V},aA P w W H d v->aA P w W H' d v
 |.cI,_,h=>h
 |.bl _,_,h=>h
 |.int _,_,h=>h
 |.str _,_,h=>h
 |.obj _,_,h=>h
 |.tup ds,_,mx=>by let {a,vs,e,t,r}:=mx;exact{a,vs,e,k.tup a vs t,aj.keep k r}
 |.lst ds,_,Ff=>by let {a,vs,e,t,n,r}:=Ff;exact{a,vs,e,k.out a _ t n,n,aj.keep k r}
 |.dT ks ds,_,Fe=>by let {a,vs,e,t,l,n,r}:=Fe;exact{a,vs,e,k.out a _ t n,l,n,aj.keep k r}
 |.dK ks ds,_,Nn=>by let {a,vs,e,t,l,n,r}:=Nn;exact{a,vs,e,k.out a _ t n,l,n,aj.keep k r}
 |.sT ts,_,Nl=>by obtain⟨a,e,⟨dy,t,r,z⟩,n⟩:=Nl;exact{a,e,{dy,k.out a _ t n,λx L=>k.tup _ _ (r x L),z},n}
 |.ob φ,_,Rm=>by obtain⟨a,e,⟨t,z⟩,n⟩:=Rm;exact{a,e,{k.out a _ t n,z},n}
theorem aj.keep (k:Kp W H H'):∀{ds:List D} {vs:List V},aj P w W H ds vs->aj P w W H' ds vs
 |[],_,h=>h
 |d::ds,_,Rl=>by let {v,r,e,O,L}:=Rl;exact{v,r,e,aA.keep k O,aj.keep k L}
end
mutual
theorem aA.aW (s:∀a,W' a->W a):∀{d:D} {v:V},aA P w W H d v->aA P w W' H d v
 |.cI,_,h=>h
 |.bl _,_,h=>h
 |.int _,_,h=>h
 |.str _,_,h=>h
 |.obj _,_,h=>h
 |.tup ds,_,VY=>by let {a,vs,e,t,r}:=VY;exact{a,vs,e,t,aj.aW s r}
 |.lst ds,_,VX=>by let {a,vs,e,t,n,r}:=VX;exact{a,vs,e,t,λz=>n (s a z),aj.aW s r}
 |.dT ks ds,_,NK=>by let {a,vs,e,t,l,n,r}:=NK;exact{a,vs,e,t,l,λz=>n (s a z),aj.aW s r}
 |.dK ks ds,_,NJ=>by let {a,vs,e,t,l,n,r}:=NJ;exact{a,vs,e,t,l,λz=>n (s a z),aj.aW s r}
 |.sT ts,_,NH=>by let {a,e,t,n}:=NH;exact{a,e,t,λz=>n (s a z)}
 |.ob φ,_,NG=>by let {a,e,t,n}:=NG;exact{a,e,t,λz=>n (s a z)}
theorem aj.aW (s:∀a,W' a->W a):∀{ds:List D} {vs:List V},aj P w W H ds vs->aj P w W' H ds vs
 |[],_,h=>h
 |d::ds,_,ND=>by let {v,r,e,O,L}:=ND;exact{v,r,e,aA.aW s O,aj.aW s L}
end
mutual
theorem aA.flat:∀{d:D} {v:V},d.flat=G->aA P w W H d v->aA P w W' H d v
 |.cI,_,_,h=>h
 |.bl _,_,_,h=>h
 |.int _,_,_,h=>h
 |.str _,_,_,h=>h
 |.obj _,_,_,h=>h
 |.tup ds,_,f,NC=>by let {a,vs,e,t,r}:=NC;exact{a,vs,e,t,aj.flat (by simpa[D.flat] using f) r}
 |.lst ds,_,f,_=>by simp[D.flat]at f
 |.dT ks ds,_,f,_=>by simp[D.flat]at f
 |.dK ks ds,_,f,_=>by simp[D.flat]at f
 |.sT ts,_,f,_=>by simp[D.flat]at f
 |.ob φ,_,f,_=>by simp[D.flat]at f
theorem aj.flat:∀{ds:List D} {vs:List V},D.bO ds=G->aj P w W H ds vs->aj P w W' H ds vs
 |[],_,_,h=>h
 |d::ds,_,f,NA=>by
  let {v,r,e,Y,O}:=NA;have L:(d.flat&&D.bO ds)=G:=f;rw[aa1]at L;exact{v,r,e,aA.flat L.1 Y,aj.flat L.2 O}
end
def aA.same (s:ay H H')(h:aA P w W H d v):aA P w W H' d v:=h.keep s.kp
def aj.same (s:ay H H')(h:aj P w W H ds vs):aj P w W H' ds vs:=h.keep s.kp
theorem aj.length:∀{ds:List D} {vs:List V},aj P w W H ds vs->vs.length=ds.length
 |[],_,h=>by rw[show _=[] from h];rfl
 |d::ds,_,Nz=>by let {v,r,e,O,L}:=Nz;rw[e,aaS,aaS,aj.length L]
theorem aj.get:∀{ds:List D} {vs:List V} {i:Nat} {d:D},aj P w W H ds vs->ds[i]?=M d->∃v,vs[i]?=M v/\aA P w W H d v
 |[],_,_,_,_,e=>by simp at e
 |d::ds,_,0,_,Nw,L=>by let {v,r,e,Y,O}:=Nw;simp at L;subst L e;exact{v,by simp,Y}
 |d::ds,_,i+1,_,Nv,L=>by
  let {v,r,e,Y,O}:=Nv;subst e;let {u,e1,e2}:=aj.get (i:=i) O (by simpa using L)
  exact{u,by simpa using e1,e2}
theorem aj.append:∀{ds ds':List D} {vs vs':List V},aj P w W H ds vs->aj P w W H ds' vs'->aj P w W H (ds++ds') (vs++vs')
 |[],_,_,_,h,h'=>by rw[show _=[] from h];exact h'
 |d::ds,_,_,_,Nu,h'=>by let {v,r,e,O,L}:=Nu;subst e;exact{v,_,rfl,O,aj.append L h'}
def aj.one (h:aA P w W H d v):aj P w W H [d] [v]:={v,[],rfl,h,rfl}
theorem aj.take:∀{ds:List D} {vs:List V} (n:Nat),aj P w W H ds vs->aj P w W H (ds.take n) (vs.take n)
 |[],_,n,h=>by rw[show _=[] from h];simp[aj]
 |d::ds,_,0,_=>by simp[aj]
 |d::ds,_,n+1,Nt=>by let {v,r,e,O,L}:=Nt;subst e;exact{v,_,rfl,O,aj.take n L}
theorem aj.drop:∀{ds:List D} {vs:List V} (n:Nat),aj P w W H ds vs->aj P w W H (ds.drop n) (vs.drop n)
 |[],_,n,h=>by rw[show _=[] from h];simp[aj]
 |d::ds,_,0,h=>h
 |d::ds,_,n+1,Nr=>by let {v,r,e,O,L}:=Nr;subst e;exact aj.drop n L
theorem aj.set (hd:aA P w W H d v):∀{ds:List D} {vs:List V} (i:Nat),aj P w W H ds vs->aj P w W H (ds.set i d) (vs.set i v)
 |[],_,_,h=>by rw[show _=[] from h];simp[aj]
 |_::ds,_,0,Nq=>by let {v,r,e,O,L}:=Nq;subst e;exact{_,_,rfl,hd,L}
 |_::ds,_,i+1,Np=>by let {v,r,e,O,L}:=Np;subst e;exact{_,_,rfl,O,aj.set hd i L}
end
open PySem.SeqAt
abbrev Dm (W:μ->Prop)(H:Hp):Prop:=∀a,W a->H a≠ξ
def Dm.same {H H':Hp}(d:Dm W H)(s:ay H H'):Dm W H':=λa h e=>d a h (s.free e)
abbrev Rp (X:Cx)(W:μ->Prop)(H:Hp)(d:D)(v:V):Prop:=aA X.prog X.w W H d v
abbrev jO (X:Cx)(W:μ->Prop)(H:Hp)(ds:List D)(vs:List V):Prop:=aj X.prog X.w W H ds vs
def YO (X:Cx)(f:D->Option D):V->Hp->VK->Prop:=λx H Q=>∃W L d,Dm W H/\Rp X W H L x/\f L=M d/\∀v H',ay H H'->Rp X W H' d v->Q v H'
def YN (X:Cx)(f:D->D->Option D):R2:=λx y H Q=>∃W O L d,Dm W H/\Rp X W H O x/\Rp X W H L y/\f O L=M d/\∀v H',ay H H'->Rp X W H' d v->Q v H'
def YM (X:Cx)(f:List D->Option D):List V->Hp->VK->Prop:=λxs H Q=>∃W ds d,Dm W H/\jO X W H ds xs/\f ds=M d/\∀v H',ay H H'->Rp X W H' d v->Q v H'
abbrev bo (X:Cx)(f:aam->aam->Sem aam)(g:D->D->Option D):Prop:=j_ X f (YN X g)
abbrev bH (X:Cx)(f:aam)(g:List D->Option D):Prop:=gJ X f (YM X g)
def zO {p:μ}(d:Dm W H)(n:H p=ξ):¬ W p:=λz=>d p z n
def Rp.iS {p:μ}{vs:List V}{ds:List D}(d:Dm W H)(n:H p=ξ)(r:jO X W H ds vs):Rp X W (upd H p (.lst vs)) (.lst ds) (.ref p) :=
 {p,vs,rfl,az,zO d n,r.same (ay.new n)}
def Rp.xt {p:μ}{vs:List V}{ds:List D}(n:H p=ξ)(r:jO X W H ds vs):Rp X W (upd H p (.tup vs)) (.tup ds) (.ref p) :=
 {p,vs,rfl,az,r.same (ay.new n)}
def jO.nil:jO X W H [] []:=rfl
def jO.cons (h:Rp X W H d v)(r:jO X W H ds vs):jO X W H (d::ds) (v::vs):={(v),vs,rfl,h,r}
def D.Nd:D->Option Int
 |.int i=>M i
 |_=>ξ
def D.Nc:D->Option (List D)
 |.lst a=>M a
 |_=>ξ
def D.Nb:D->Option (List D)
 |.tup a=>M a
 |_=>ξ
def D.Hc:D->Bool
 |.cI=>G
 |_=>η
def D.k9 {d:D}{i:Int}(h:d.Nd=M i):d=.int i:=by cases d <;> first|(cases h;rfl)|cases h
def D.pI {d:D}{i:List D}(h:d.Nc=M i):d=.lst i:=by cases d <;> first|(cases h;rfl)|cases h
def D.pH {d:D}{i:List D}(h:d.Nb=M i):d=.tup i:=by cases d <;> first|(cases h;rfl)|cases h
def D.vA {d:D}(h:d.Hc=G):d=.cI:=by cases d <;> first|rfl|cases h
def D.Jm {d:D}:d=.cI↔d.Hc=G:={λe=>by rw[e];rfl,D.vA}
def qR (f:Int->Int->Option D)(a b:D):Option D:=match a.Nd,b.Nd with
 |some i,M j=>f i j
 |_,_=>ξ
def mn {f:Int->Int->Option D}{a b d:D}(h:qR f a b=M d):∃i j,a=.int i/\b=.int j/\f i j=M d:=by
 unfold qR at h;cases L:a.Nd with
 |none=>rw[L]at h;cases h
 |some i =>
  cases O:b.Nd with
  |none=>rw[L,O]at h;cases h
  |some j=>rw[L,O]at h;exact{i,j,D.k9 L,D.k9 O,h}
def MW (f:D->D->Option D)(g:List D->List D->Option D)(a b:D):Option D:=match a.Nc,b.Nc with
 |some i,M j=>g i j
 |_,_=>f a b
def BI {f:D->D->Option D}{g:List D->List D->Option D}{a b d:D}(h:MW f g a b=M d):(∃i j,a=.lst i/\b=.lst j/\g i j=M d)\/f a b=M d:=by
 unfold MW at h;cases L:a.Nc with
 |none=>rw[L]at h;exact .inr h
 |some i =>
  cases O:b.Nc with
  |none=>rw[L,O]at h;exact .inr h
  |some j=>rw[L,O]at h;exact .inl {i,j,D.pI L,D.pI O,h}
def Cc:D->D->Option D:=MW (qR λi j=>M (.int (i+j))) λa b=>if a.length+b.length<=aaC then M (.lst (a++b)) else ξ
def Yh:D->D->Option D:=qR λi j=>M (.int (i-j))
instance (i j:Int):Decidable (mP i j):=by unfold mP;infer_instance
instance (i j:Int):Decidable (Cw i j):=by unfold Cw;infer_instance
def J8:D->D->Option D:=qR λi j=>if mP i j then M (.int (i*j)) else ξ
def Se:D->D->Option D:=qR λi j=>if 0<j then M (.int (i % j)) else ξ
def Sa:D->D->Option D:=qR λi j=>if Cw i j then M (.int (i ^ j.toNat)) else ξ
def Yj:D->Option D
 |.int i=>M (.int (-i))
 |_=>ξ
def dG {c:Prop}[Decidable c]{α:Type}{a b:α}(h:(if c then M a else ξ)=M b):c/\b=a:=by
 by_cases hc:c
 ·rw[ω hc]at h;cases h;exact{(hc),rfl}
 ·rw[Δ hc]at h;cases h
def Ep {f:aam->aam->Sem aam}{C:Int->Int->Prop}{g:Int->Int->V}{h:Int->Int->D}{F:Int->Int->Option D}(ho:j_ X f (rI C g))(hF:∀i j d,F i j=M d->C i j/\d=h i j)
  (hg:∀(W:μ->Prop) (H:Hp) i j,Rp X W H (h i j) (g i j)):bo X f (qR F):=by
 intro χ s σ H x y v u Q I O L hh;let {W,d1,d2,d,hd,r1,Y,e,q}:=hh;let {i,j,rfl,rfl,e}:=mn e;let {c,rfl}:=hF _ _ _ e;cases r1;cases Y;exact ho χ s σ H _ _ v u Q I O L {i,j,rfl,rfl,c,q _ _ .aG (hg W H i j)}
def Eo {f:aam->aam->Sem aam}{g:Int->Int->V}{h:Int->Int->D}(ho:j_ X f (G7 g))
  (hg:∀(W:μ->Prop) (H:Hp) i j,Rp X W H (h i j) (g i j)):bo X f (qR λi j=>M (h i j)):=by
 intro χ s σ H x y v u Q I O L hh;let {W,d1,d2,d,hd,r1,Y,e,q}:=hh;let {i,j,rfl,rfl,e}:=mn e;cases e;cases r1;cases Y;exact ho χ s σ H _ _ v u Q I O L {i,j,rfl,rfl,q _ _ .aG (hg W H i j)}
def bI:bo X (acz .Sub) Yh:=Eo (h:=λi j=>.int (i-j)) Ej λ_ _ _ _=>rfl
def tN:bo X (acz .Mult) J8:=Ep (h:=λi j=>.int (i*j)) tM (λ_ _ _ e=>dG e) λ_ _ _ _=>rfl
def IM:bo X (acz .Mod) Se:=Ep (h:=λi j=>.int (i % j)) jT (λ_ _ _ e=>dG e) λ_ _ _ _=>rfl
def IL:bo X (acz .Pow) Sa:=Ep (h:=λi j=>.int (i ^ j.toNat)) Ek (λ_ _ _ e=>dG e) λ_ _ _ _=>rfl
def i8:Ss X (unaryOp .USub) (YO X Yj):=by
 intro χ s σ H x v Q I L h;let {W,Y,d,hd,O,e,q}:=h;cases Y with
 |int i=>cases e;cases O;exact xp χ s σ H _ v Q I L {i,rfl,q _ _ .aG rfl}
 |_=>cases e
def Cb (p:Int->Int->Bool):D->D->Option D:=qR λi j=>M (.bl (p i j))
abbrev Pn:D->D->Option D:=Cb λi j=>decide (i<j)
abbrev dLe:D->D->Option D:=Cb λi j=>decide (i<=j)
abbrev dGt:D->D->Option D:=Cb λi j=>decide (j<i)
def nU {p:Int->Int->Bool}{f:aam->aam->Sem aam}(ho:j_ X f (G7 λi j=>.bl (p i j))):bo X f (Cb p):=Eo (h:=λi j=>.bl (p i j)) ho λ_ _ _ _=>rfl
def cg:bo X (abv .Lt) Pn:=nU QC
def Mz:bo X (abv .LtE) dLe:=nU KC
def l8:bo X (abv .Gt) dGt:=nU KD
mutual
def D.pd:D->aew
 |.cI=>.none
 |.bl b=>.bool b
 |.int i=>.int i
 |.str x=>.str x
 |.tup ds=>.tuple (D.iB ds)
 |.lst ds=>.list (D.iB ds)
 |_=>.dict []
def D.iB:List D->List aew
 |[]=>[]
 |d::ds=>d.pd::D.iB ds
end
abbrev D.oN (d:D):Bool:=shaped d.pd
mutual
theorem bX {X:Cx}{σ:St}{H:Hp}(I:Inv X χ σ H s):∀{d:D} {v:V} {u:aam},Rp X W H d v->RelV v u->d.pd.canLay0=G->∃as,Reads s.heap u d.pd as
 |.cI,_,_,h,r,_=>by cases h;cases r;exact{_,.none}
 |.bl b,_,_,h,r,_=>by cases h;cases r;exact{_,.bool b}
 |.int i,_,_,h,r,_=>by cases h;let {t,rfl}:=r;exact{_,.int i t}
 |.str x,_,_,h,r,_=>by cases h;let {t,rfl}:=r;exact{_,.str x t}
 |.tup ds,_,_,h,r,c=>by
  let {a,vs,rfl,e,q}:=h;cases r;obtain⟨its,rv,⟨o,ho,hc,n,hd⟩,hz⟩:=I.tuple (uw.of e);let {as,L}:=iJ I q rv (by simpa[D.pd,abV] using c)
  exact{_,.tuple ho hc hd (by simpa using L)}
 |.lst ds,_,_,h,r,c=>by
  let {a,vs,rfl,e,Y,q}:=h;cases r;let {z,its,n,rv,O}:=I.bh a _ e;let {as,L}:=iJ I q rv (by simpa[D.pd,abV] using c)
  exact{_,.list O rfl rfl (by simpa using L)}
 |.obj _,_,_,_,_,c=>by simp[D.pd,abV]at c
 |.dT _ _,_,_,_,_,c=>by simp[D.pd,abV]at c
 |.dK _ _,_,_,_,_,c=>by simp[D.pd,abV]at c
 |.sT _,_,_,_,_,c=>by simp[D.pd,abV]at c
 |.ob _,_,_,_,_,c=>by simp[D.pd,abV]at c
theorem iJ {X:Cx}{σ:St}{H:Hp}(I:Inv X χ σ H s):∀{ds:List D} {vs:List V} {us:List aam},jO X W H ds vs->Vals vs us->ac5 (D.iB ds)=G->∃as,ReadsAll s.heap us (D.iB ds) as
 |[],_,_,h,r,_=>by
  rw[show _=[] from h]at r
  cases r;exact{_,.nil}
 |d::ds,_,_,mx,r,c=>by
  let {v,vr,e,h1,h2}:=mx;subst e;have L:(d.pd.canLay0&&ac5 (D.iB ds))=G:=c;rw[aa1]at L;cases r with
  |cons Y O =>
   let {as,ha}:=bX I h1 Y L.1;let {bs,hb}:=iJ I h2 O L.2;exact{_,.cons ha hb}
end
def Gh (a b:D):Option D:=if a.oN=G/\b.oN=G then M (.bl (abI a.pd b.pd)) else ξ
def d_ (a b:D):Option D:=if a.oN=G/\b.oN=G then M (.bl (!abI a.pd b.pd)) else ξ
def dC (hu:X.A.units+64<adx):bo X (abv .Eq) Gh:=by
 intro χ s σ H x y v u Q I O L h;let {W,d1,d2,d,hd,r1,Y,e,q}:=h;obtain⟨⟨s1,s2⟩,rfl⟩:=dG e;let {as,ra}:=bX I r1 O (abr s1);let {bs,rb}:=bX I Y L (abr s2);exact compareEq_shaped ra rb s1 s2 hu {.bl _,H,I,rfl,q _ _ .aG rfl}
def fy (hu:X.A.units+64<adx):bo X (abv .NotEq) d_:=by
 intro χ s σ H x y v u Q I O L h;let {W,d1,d2,d,hd,r1,Y,e,q}:=h;obtain⟨⟨s1,s2⟩,rfl⟩:=dG e;let {as,ra}:=bX I r1 O (abr s1);let {bs,rb}:=bX I Y L (abr s2);exact compareNe_shaped ra rb s1 s2 hu {.bl _,H,I,rfl,q _ _ .aG rfl}
def Yk (a b:D):Option D:=match b.Hc with
 |true=>M (.bl a.Hc)
 |false=>ξ
def Sd (a b:D):Option D:=match b.Hc with
 |true=>M (.bl (!a.Hc))
 |false=>ξ
def Rp.IZ {H:Hp}(h:Rp X W H d v):v=.cI↔d=.cI:=by
 cases d with
 |cI=>cases h;simp
 |bl b=>cases h;simp
 |int i=>cases h;simp
 |str x=>cases h;simp
 |obj a=>cases h;simp
 |tup ds=>let {a,vs,rfl,L}:=h;simp
 |lst ds=>let {a,vs,rfl,L}:=h;simp
 |dT ks ds=>let {a,vs,rfl,L}:=h;simp
 |dK ks ds=>let {a,vs,rfl,L}:=h;simp
 |sT ts=>let {a,rfl,L}:=h;simp
 |ob φ=>let {a,rfl,L}:=h;simp
def vB {b d e:D}(h:(match b.Hc with|true=>M d|false=>ξ)=M e):b=.cI/\e=d:=by
 cases q:b.Hc with
 |true=>rw[q]at h;cases h;exact{D.vA q,rfl}
 |false=>rw[q]at h;cases h
def Rp.zN {H:Hp}(h:Rp X W H d v):decide (v=.cI)=d.Hc:=by
 have q:=h.IZ.trans D.Jm;cases e:d.Hc with
 |true=>exact Ξ (q.mpr e)
 |false=>exact Φ λz=>by rw[q.mp z]at e;cases e
def jm:bo X (abv .Is) Yk:=by
 intro χ s σ H x y v u Q I O L h;let {W,d1,d2,d,hd,r1,Y,e,q}:=h;let {rfl,rfl}:=vB e;cases Y;exact My χ s σ H _ _ v u Q I O L {rfl,q _ _ .aG (Μ V.bl r1.zN)}
def Em:bo X (abv .IsNot) Sd:=by
 intro χ s σ H x y v u Q I O L h;let {W,d1,d2,d,hd,r1,Y,e,q}:=h;let {rfl,rfl}:=vB e;cases Y;exact IK χ s σ H _ _ v u Q I O L {rfl,q _ _ .aG (Μ (λb=>V.bl (!b)) r1.zN)}
def Ka:D->D->Option Bool
 |a,.lst ds=>if a.oN=G/\(D.lst ds).oN=G then M ((D.iB ds).any λy=>abI y a.pd) else ξ
 |a,.tup ds=>if a.oN=G/\(D.tup ds).oN=G then M ((D.iB ds).any λy=>abI y a.pd) else ξ
 |_,_=>ξ
def Yl (a b:D):Option D:=(Ka a b).map .bl
def yJ (a b:D):Option D:=(Ka a b).map λc=>.bl (!c)
def nK (O:n=.list (D.iB ds)\/n=.tuple (D.iB ds))(h:shaped n=G):ac5 (D.iB ds)=G/\abY (D.iB ds)<=64:=by
 have L:=abr h;have Y:=depth_of_shaped h;rcases O with rfl|rfl
 ·refine{by simpa[abV] using L,?_}
  have:acG (.list (D.iB ds))=abY (D.iB ds)+1:=by simp[acG]
  lia
 ·refine{by simpa[abV] using L,?_}
  have:acG (.tuple (D.iB ds))=abY (D.iB ds)+1:=by simp[acG]
  lia
def o7 (hu:X.A.units+64+1<adx):bo X (abv .In) Yl:=by
 intro χ s σ H x y v u Q I rx Y h;let {W,d1,d2,d,hd,r1,r2,e,q}:=h;cases d2 with
 |lst ds =>
  let {b,L,rfl}:=aaK.mp e;obtain⟨⟨s1,s2⟩,rfl⟩:=dG L;let {as,ra}:=bX I r1 rx (abr s1);let {bs,rb}:=bX I r2 Y (abr s2);let {O,c2}:=nK (.inl rfl) s2;exact in_list_reads rb ra O (abr s1) (by have:=adt (abY (D.iB ds)) d1.pd.depth;lia) {.bl _,H,I,rfl,q _ _ .aG rfl}
 |tup ds =>
  let {b,L,rfl}:=aaK.mp e;obtain⟨⟨s1,s2⟩,rfl⟩:=dG L;let {as,ra}:=bX I r1 rx (abr s1);let {bs,rb}:=bX I r2 Y (abr s2);let {O,c2}:=nK (.inr rfl) s2;exact in_tuple_reads rb ra O (abr s1) (by have:=adt (abY (D.iB ds)) d1.pd.depth;lia) {.bl _,H,I,rfl,q _ _ .aG rfl}
 |_=>cases e
def rM (hu:X.A.units+64+1<adx):bo X (abv .NotIn) yJ:=by
 intro χ s σ H x y v u Q I rx Y h;let {W,d1,d2,d,hd,r1,r2,e,q}:=h;cases d2 with
 |lst ds =>
  let {b,L,rfl}:=aaK.mp e;obtain⟨⟨s1,s2⟩,rfl⟩:=dG L;let {as,ra}:=bX I r1 rx (abr s1);let {bs,rb}:=bX I r2 Y (abr s2);let {O,c2}:=nK (.inl rfl) s2;exact notIn_list_reads rb ra O (abr s1) (by have:=adt (abY (D.iB ds)) d1.pd.depth;lia) {.bl _,H,I,rfl,q _ _ .aG rfl}
 |tup ds =>
  let {b,L,rfl}:=aaK.mp e;obtain⟨⟨s1,s2⟩,rfl⟩:=dG L;let {as,ra}:=bX I r1 rx (abr s1);let {bs,rb}:=bX I r2 Y (abr s2);let {O,c2}:=nK (.inr rfl) s2;exact notIn_tuple_reads rb ra O (abr s1) (by have:=adt (abY (D.iB ds)) d1.pd.depth;lia) {.bl _,H,I,rfl,q _ _ .aG rfl}
 |_=>cases e
def qD (a b:D):Option D:=match b.Nd with
 |some i=>match a.Nc with
  |some ds=>mI ds i
  |none=>match a.Nb with
   |some ds=>mI ds i
   |none=>ξ
 |none=>ξ
def F_ {a b d:D}(h:qD a b=M d):∃ds i,(a=.lst ds\/a=.tup ds)/\b=.int i/\mI ds i=M d:=by
 unfold qD at h;cases L:b.Nd with
 |none=>rw[L]at h;cases h
 |some i =>
  rw[L]at h;cases Y:a.Nc with
  |some ds=>rw[Y]at h;exact{ds,i,.inl (D.pI Y),D.k9 L,h}
  |none =>
   rw[Y]at h;cases O:a.Nb with
   |some ds=>rw[O]at h;exact{ds,i,.inr (D.pH O),D.k9 L,h}
   |none=>rw[O]at h;cases h
def jO.mI {H:Hp}{i:Int}(h:jO X W H ds vs)(e:L2.mI ds i=M d):∃v,L2.mI vs i=M v/\Rp X W H d v:=by
 unfold L2.mI at *
 rw[h.length];cases q:qQ ds.length i with
 |none=>rw[q]at e;cases e
 |some j =>
  rw[q]at e;exact aj.get h e
def Na:Hq X (YN X qD):=by
 intro value slice χ s σ H x y v u Q I rx Y h hs;let {W,d1,d2,d,hd,r1,r2,e,q}:=h;let {ds,i,h,rfl,e}:=F_ e;cases r2;rcases h with rfl|rfl
 ·let {p,vs,rfl,O,n1,L}:=r1;let {z,hz,rz}:=jO.mI (X:=X) L e;exact fb value slice χ s σ H _ _ v u Q I rx Y {p,vs,i,z,rfl,rfl,dw.of O,hz,q _ _ .aG rz} hs
 ·let {p,vs,rfl,O,L}:=r1;let {z,hz,rz}:=jO.mI (X:=X) L e;exact E7 value slice χ s σ H _ _ v u Q I rx Y {p,vs,i,z,rfl,rfl,uw.of O,hz,q _ _ .aG rz} hs
def cutD (xs:List D)(lo hi:Option Int):List D:=(xs.drop (HT.iw xs.length 0 lo)).take (HT.iw xs.length xs.length hi-HT.iw xs.length 0 lo)
def Hj:D->Option Int->Option Int->Option D
 |.lst ds,lo,hi=>M (.lst (cutD ds lo hi))
 |_,_,_=>ξ
def OA:List D->Option D
 |[.lst ds]=>M (.int ds.length)
 |[.tup ds]=>M (.int ds.length)
 |_=>ξ
def cR:bH X (.builtin "len") OA:=by
 intro χ s σ H xs us Q I r h;let {W,ds,d,hd,r1,e,q}:=h
 match ds,e with
 |[.lst es],e =>
  cases e;obtain⟨v,r',rfl,⟨p,vs,rfl,Y,n1,L⟩,O⟩:=r1;cases O;refine lI χ s σ H _ us Q I r {p,vs,rfl,.inl (dw.of Y),?_};rw[L.length];exact q _ _ .aG rfl
 |[.tup es],e =>
  cases e;obtain⟨v,r',rfl,⟨p,vs,rfl,Y,L⟩,O⟩:=r1;cases O;refine lI χ s σ H _ us Q I r {p,vs,rfl,.inr (uw.of Y),?_};rw[L.length];exact q _ _ .aG rfl
def dList:List D->Option D
 |[.lst ds]=>M (.lst ds)
 |[.tup ds]=>M (.lst ds)
 |_=>ξ
def Sf:List D->Option D
 |[.int i,.int j]=>M (.int (if j<i then j else i))
 |_=>ξ
def wR {W:μ->Prop}{H:Hp}{a b:D}{xs:List V}(h:jO X W H [a,b] xs):∃x y,xs=[x,y]/\Rp X W H a x/\Rp X W H b y:=by
 let {x,r,rfl,O,y,r',rfl,L,Y}:=h;cases Y;exact{(x),y,rfl,O,L}
def gH {W:μ->Prop}{H:Hp}{a:D}{xs:List V}(h:jO X W H [a] xs):∃x,xs=[x]/\Rp X W H a x:=by
 let {x,r,rfl,L,O}:=h;cases O;exact{(x),rfl,L}
def yO (hc:X.calm=G):bH X (.builtin "min") Sf:=by
 intro χ s σ H xs us Q I r h;let {W,ds,d,hd,L,e,q}:=h
 match ds,e with
 |[.int i,.int j],e =>
  cases e;let {x,y,rfl,Y,O}:=wR L;cases Y;cases O;exact Cj hc χ s σ H _ us Q I r {i,j,rfl,q _ _ .aG rfl}
def OB:List D->Option D
 |[.int i]=>M (.int i)
 |[.bl k]=>M (.int (if k then 1 else 0))
 |_=>ξ
def mH:bH X (.type "int") OB:=by
 intro χ s σ H xs us Q I r h;let {W,ds,d,hd,O,e,q}:=h
 match ds,e with
 |[.int i],e =>
  cases e;let {x,rfl,L}:=gH O;cases L;exact sH χ s σ H _ us Q I r (.inl {i,rfl,q _ _ .aG rfl})
 |[.bl k],e =>
  cases e;let {x,rfl,L}:=gH O;cases L;exact sH χ s σ H _ us Q I r (.inr {k,rfl,q _ _ .aG rfl})
abbrev GV:=List (Option D)
abbrev Sw:=GV->(D->Prop)->Prop
abbrev wY:=GV->(List D->Prop)->Prop
def yZ (P:aas)(w:aaG)(W:μ->Prop)(H:Hp)(σ:St)(ρ:GV):Prop:=∀(i:Nat) (d:D),ρ[i]?=M (M d)->∃v,σ[i]?=M (M v)/\aA P w W H d v
def yZ.keep {H H':Hp}{σ:St}(e:yZ P w W H σ ρ)(k:Kp W H H'):yZ P w W H' σ ρ:=λi d h=>by
 let {v,O,L}:=e i d h;exact{v,O,L.keep k}
def yZ.same {H H':Hp}{σ:St}(e:yZ P w W H σ ρ)(s:ay H H'):yZ P w W H' σ ρ:=e.keep s.kp
def PE.pre {X:Cx}(h:PE X e t)(k:∀σ H Q,t' σ H Q->t σ H Q):PE X e t':=λχ s σ H Q I q=>h χ s σ H Q I (k σ H Q q)
def PT.pre {X:Cx}(h:PT X e t)(k:∀σ H Q,t' σ H Q->t σ H Q):PT X e t':=λχ s σ H Q I q=>h χ s σ H Q I (k σ H Q q)
def PA.pre {X:Cx}(h:PA X es t)(k:∀σ H Q,t' σ H Q->t σ H Q):PA X es t':=λpos χ s σ H Q I q=>h pos χ s σ H Q I (k σ H Q q)
structure Sv (P:aas)(w:aaG)(W:μ->Prop)(σ:St)(H:Hp)(ρ:GV):Prop where
 dm:Dm W H
 env:yZ P w W H σ ρ
abbrev SE (X:Cx):(μ->Prop)->St->Hp->GV->Prop:=Sv X.prog X.w
def Sv.same {σ:St}{H H':Hp}(e:Sv P w W σ H ρ)(s:ay H H'):Sv P w W σ H' ρ:={e.dm.same s,e.env.same s}
def tD (X:Cx)(φ:Sw):TE:=λσ H Q=>∃W ρ,SE X W σ H ρ/\φ ρ λd=>∀v H',ay H H'->Rp X W H' d v->Q v H'
def P0 (X:Cx)(φ:wY):TA:=λσ H Q=>∃W ρ,SE X W σ H ρ/\φ ρ λds=>∀vs H',ay H H'->jO X W H' ds vs->Q vs H'
structure PV (X:Cx)(e:Expr)(φ:Sw):Prop where
 mono:∀ρ R R',(∀d,R d->R' d)->φ ρ R->φ ρ R'
 pe:PE X e (tD X φ)
structure Sz (X:Cx)(es:List Expr)(φ:wY):Prop where
 mono:∀ρ R R',(∀d,R d->R' d)->φ ρ R->φ ρ R'
 pa:PA X es (P0 X φ)
section
variable {φ:Sw}{φs:wY}{ρ:GV}
def tD.of (h:PV X e φ)(se:SE X W σ H ρ)(L:φ ρ R)(k:∀d v H',R d->ay H H'->Rp X W H' d v->Q v H'):tD X φ σ H Q :=
 {W,ρ,se,h.mono ρ _ _ (λd hd v H' s r=>k d v H' hd s r) L}
def P0.of (h:Sz X es φs)(se:SE X W σ H ρ)(L:φs ρ R)(k:∀ds vs H',R ds->ay H H'->jO X W H' ds vs->Q vs H'):P0 X φs σ H Q :=
 {W,ρ,se,h.mono ρ _ _ (λd hd v H' s r=>k d v H' hd s r) L}
def X8 (i:Nat):Sw:=λρ R=>∃d,ρ[i]?=M (M d)/\R d
def L_ (L:Nm X i x:=by exact CC):
  PV X (.Name x pos) (X8 i):=⟨λρ R R' k lj=>by let {d,e,h}:=lj;exact{d,e,k d h},(ij L).pre λσ H Q qU=>by
 let {W,ρ,se,d,e,q}:=qU;let {v,Y,O}:=se.env i d e;exact{v,Y,q v H .aG O}⟩
def PW.pre (h:PW X e t)(k:∀σ H Q,t' σ H Q->t σ H Q):PW X e t':=λw χ s σ H Q I q=>h w χ s σ H Q I (k σ H Q q)
def X9:wY:=λ_ R=>R []
def R3 (φ:Sw)(φs:wY):wY:=λρ R=>φ ρ λd=>φs ρ λds=>R (d::ds)
def H9:Sz X [] X9:={λρ R R' k h=>k _ h,f_.pre λσ H Q NU=>by let {W,ρ,se,q}:=NU;exact q [] H .aG rfl}
def DD (O:PV X a φ)(L:Sz X es φs)(hs:aaz (a::es) .f=(η,eval a .f)::aaz es .f:=by rfl):Sz X (a::es) (R3 φ φs) :=
 ⟨λρ R R' k h=>O.mono ρ _ _ (λd q=>L.mono ρ _ _ (λds q2=>k _ q2) q) h,(b6 O.pe L.pa hs).pre λσ H Q ⟨W,ρ,se,h⟩ =>
  tD.of O se h λd1 Y H1 h1 s1 r1=>P0.of L (se.same s1) h1 λds vs H2 q s2 r2=>q (Y::vs) H2 (s1.trans s2) (.cons (r1.same s2) r2)⟩
end
abbrev FD:=List D->(D->Prop)->Prop
def cH (F:FD):Prop:=∀ds R R',(∀d,R d->R' d)->F ds R->F ds R'
def Lk.pre (h:Lk X ops L t)(k:∀x σ H Q,t' x σ H Q->t x σ H Q):Lk X ops L t':=λpos χ s σ H x v Q I r q=>h pos χ s σ H x v Q I r (k x σ H Q q)
def yY.pre (h:yY X ops L t)(k:∀x σ H Q,t' x σ H Q->t x σ H Q):yY X ops L t':=λpos χ s σ H x v Q I r q=>h pos χ s σ H x v Q I r (k x σ H Q q)
def PO.pre {e:Option Expr}{t t':TO}(h:PO X e t)(k:∀σ H Q,t' σ H Q->t σ H Q):PO X e t':=λχ s σ H Q I q=>h χ s σ H Q I (k σ H Q q)
abbrev NF:D->Prop:=λd=>d.flat=G
abbrev NL:D->Prop:=λd=>match d with | .lst ds=>D.bO ds=G|d=>d.flat=G
section
variable {W':μ->Prop}
mutual
theorem aA.grow (s:∀a,W' a->W a\/H a=ξ):∀{d:D} {v:V},aA P w W H d v->aA P w W' H d v
 |.cI,_,h=>h
 |.bl _,_,h=>h
 |.int _,_,h=>h
 |.str _,_,h=>h
 |.obj _,_,h=>h
 |.tup ds,_,mx=>by let {a,vs,e,t,r}:=mx;exact{a,vs,e,t,aj.grow s r}
 |.lst ds,_,Ff=>by let {a,vs,e,t,n,r}:=Ff;exact{a,vs,e,t,λz=>(s a z).elim n λq=>(by rw[t]at q;cases q),aj.grow s r}
 |.dT ks ds,_,Fe=>by let {a,vs,e,t,l,n,r}:=Fe;exact{a,vs,e,t,l,λz=>(s a z).elim n λq=>(by rw[t]at q;cases q),aj.grow s r}
 |.dK ks ds,_,Nn=>by let {a,vs,e,t,l,n,r}:=Nn;exact{a,vs,e,t,l,λz=>(s a z).elim n λq=>(by rw[t]at q;cases q),aj.grow s r}
 |.sT ts,_,Nl=>by obtain⟨a,e,⟨dy,t,r,z⟩,n⟩:=Nl;exact{a,e,{(dy),t,r,z},λz=>(s a z).elim n λq=>(by rw[t]at q;cases q)}
 |.ob φ,_,Rm=>by obtain⟨a,e,⟨t,z⟩,n⟩:=Rm;exact{a,e,{(t),z},λz=>(s a z).elim n λq=>(by rw[t]at q;cases q)}
theorem aj.grow (s:∀a,W' a->W a\/H a=ξ):∀{ds:List D} {vs:List V},aj P w W H ds vs->aj P w W' H ds vs
 |[],_,h=>h
 |d::ds,_,Rl=>by let {v,r,e,O,L}:=Rl;exact{v,r,e,aA.grow s O,aj.grow s L}
end
end
def ItW (X:Cx)(W:μ->Prop)(J:It)(ds:List D)(H0:Hp):Prop:=∀(i:Nat) (H:Hp),Kp W H0 H ->
 (∀d,ds[i]?=M d->J.go i H/\∀x H1,J.PD i H x H1->ay H H1/\Rp X W H1 d x)/\(ds.length<=i->J.stop i H)
def uo (X:Cx)(W:μ->Prop)(J:It)(ds:List D)(H0:Hp):Prop:=∀L:μ->Prop,(∀b,L b->W b\/H0 b=ξ)->ItW X L J ds H0
abbrev OZ:=GV->(List D->Prop)->Prop
structure ZO (X:Cx)(tg iter:Expr)(ι:OZ):Prop where
 mono:∀ρ R R',(∀d,R d->R' d)->ι ρ R->ι ρ R'
 pi:PI X tg iter λσ H R=>∃W ρ,SE X W σ H ρ/\ι ρ λds=>∀J H',ay H H'->uo X W J ds H'->R J H'
def PI.pre (h:PI X tg iter t)(k:∀σ H R,t' σ H R->t σ H R):PI X tg iter t':=λχ s σ H R I q=>h χ s σ H R I (k σ H R q)
def vz {W:μ->Prop}{H:Hp}{p:μ}{vs:List V}{ds:List D}(h1:H p=M (.lst vs))(n1:¬ W p)(L:jO X W H ds vs):uo X W (TV X.K p) ds H:=λW' hW i H' k=>by
 have O:=k.out p _ h1 λz=>(hW p z).elim n1 λq=>by rw[h1]at q;cases q
 replace L:=aj.grow hW L;constructor
 ·intro d hd;let {v,Y,rv}:=aj.get L hd;refine{{vs,v,dw.of O,Y},λx H1 y=>?_};let {rfl,y}:=y;have e:=y vs (dw.of O);rw[Y]at e;cases e;exact{ay.refl _,rv.keep k}
 ·intro hl;exact{vs,dw.of O,by rw[L.length];exact hl}
def oR (lo:Int)(n:Nat):List D:=(aaA n).map λ(k:Nat)=>D.int (lo+(k:Int))
def ml {W:μ->Prop}{H:Hp}{lo:Int}{n:Nat}:uo X W (SI lo n) (oR lo n) H:=λ_ _ i H' k=>by
 constructor
 ·intro d hd;unfold oR at hd;rw[aaB]at hd;have hi:i<n:=by
   by_cases h:i<n
   ·exact h
   ·rw[abq (by simpa using h)]at hd;cases hd
  rw[acj hi]at hd;cases hd;refine{hi,λx H1 y=>?_};let {rfl,rfl}:=y;exact{ay.refl _,rfl}
 ·intro L;unfold oR at L;rw[aan,aa5]at L;exact L
section
variable {AY:List Expr}
def PG.pre (h:PG X tg t)(k:∀v σ H Q,t' v σ H Q->t v σ H Q):PG X tg t':=λχ s σ H v u Q I r q=>h χ s σ H v u Q I r (k v σ H Q q)
def Li.pre (h:Li X AY t)(k:∀v σ H Q,t' v σ H Q->t v σ H Q):Li X AY t':=λχ s σ H v u Q I r q=>h χ s σ H v u Q I r (k v σ H Q q)
end
def pE {H:Hp}{a:μ}{o o':HO}(h:H a=M o)(L:∀xs,o≠.tup xs):Kp (·=a) H (upd H a o') :=
 {λb u e n=>by rw[au n];exact e,λb xs e=>by rw[au (KH e h (λz=>L xs z.symm))];exact e}
section
variable {β:a8}{own:Nat->List μ}
def aY (own:Nat->List μ)(i:Nat)(as:List μ):Nat->List μ:=λj=>if j=i then as else own j
def di {own:Nat->List μ}{i j:Nat}{a:μ}(h:a∈aY own i [] j):a∈own j/\j≠i:=by
 unfold aY at h
 by_cases e:j=i
 ·rw[ω e]at h;cases h
 ·rw[Δ e]at h;exact{(h),e}
def a6 {α:Type}{β:List α}{i j:Nat}{x:α}(h:i≠j):(β.set i x)[j]?=β[j]?:=by rw[adH,Δ h]
def ba {α:Type}{β:List α}{i:Nat}{x y:α}(h:(β.set i x)[i]?=M y):y=x/\i<β.length:=by
 rw[adH,ω rfl]at h
 by_cases hi:i<β.length
 ·rw[ω hi]at h;cases h;exact{(rfl),hi}
 ·rw[Δ hi]at h;cases h
def get_set {α:Type}{σ:List α}{i:Nat}{x:α}(h:i<σ.length):(σ.set i x)[i]?=M x:=by rw[adH,ω rfl,ω h]
end
structure Sn (Z:Hp×(μ->Prop))(H:Hp)(W:μ->Prop):Prop where
 w:∀b,W b->Z.2 b\/Z.1 b=ξ
 k:Kp (λb=>Z.2 b\/Z.1 b=ξ) Z.1 H
 d:∀b,Z.1 b≠ξ->H b≠ξ
def Sn.refl {H:Hp}:Sn (H,W) H W:={λ_ z=>.inl z,Kp.refl,λ_ z=>z}
def Sn.same {H H':Hp}(n:Sn Z H W)(s:ay H H'):Sn Z H' W:={n.w,n.k.trans s.kp,λb z e=>n.d b z (s.free e)}
def Sn.free {Z:Hp×(μ->Prop)}{H:Hp}{W:μ->Prop}(n:Sn Z H W){a:μ}(h:H a=ξ):Z.1 a=ξ:=by
 cases q:Z.1 a with
 |none=>rfl
 |some o=>exact Κ h (n.d a (by rw[q];intro z;cases z))
def Sn.upd {Z:Hp×(μ->Prop)}{H:Hp}{W:μ->Prop}(n:Sn Z H W){a:μ}{o o':HO}(h:H a=M o)(O:∀xs,o≠.tup xs)(wa:W a):Sn Z (L2.upd H a o') W :=
 ⟨n.w,n.k.trans ((pE h O).mono λb z=>by rw[z];exact n.w a wa),λb z e=>by
  by_cases L:b=a
  ·subst L;rw[az]at e;cases e
  ·rw[au L]at e;exact n.d b z e⟩
def Sn.trans {H1 H:Hp}(L:Sn Z H1 O)(n:Sn (H1,O) H W):Sn Z H W:=by
 have big:∀b,O b\/H1 b=ξ->Z.2 b\/Z.1 b=ξ:=λb z=>z.elim (L.w b) λq=>.inr (L.free q);exact{λb z=>big b (n.w b z),L.k.trans (n.k.mono big),λb z=>n.d b (L.d b z)}
section
variable {st:Stmt}{rest:List Stmt}
def PS.pre (h:PS X st t)(k:∀D σ H,t' D σ H->t D σ H):PS X st t':=λχ s σ H D I q=>h χ s σ H D I (k D σ H q)
def sQ.pre (h:sQ X rest t)(k:∀D σ H,t' D σ H->t D σ H):sQ X rest t':=λχ s σ H D I q=>h χ s σ H D I (k D σ H q)
end
def held (r:aA P w W H d v)(n:Sn (H,W) O L):aA P w L O d v :=
 aA.aW n.w (aA.keep n.k (aA.grow (λb z=>z) r))
def Sn.kp {H H':Hp}(n:Sn Z H W)(k:Kp W H H')(dn:∀c,H c≠ξ->H' c≠ξ):Sn Z H' W:={n.w,n.k.trans (k.mono n.w),λb z=>dn b (n.d b z)}
end L2
variable {ds:List L2.D}
namespace O1
open PySem PySem.Spec PyProof.Rows
def lexLe:List Int->List Int->Bool
 |[],_=>G
 |_::_,[]=>η
 |x::xs,y::ys=>if x=y then lexLe xs ys else decide (x<=y)
def EV (x y:Int)(xs ys:List Int):lexLe (x::xs) (y::ys)=if x=y then lexLe xs ys else decide (x<=y):=rfl
def ES:lexLe [] []=G:=rfl
def ET (y:Int)(ys:List Int):lexLe [] (y::ys)=G:=rfl
def EU (x:Int)(xs:List Int):lexLe (x::xs) []=η:=rfl
def Dy (A:abf)(s:aao)(a:Int)(t:Tok)(c:Int)(u:Tok)(prog:aas)(w:aaG)(E:aam->aao->Prop)(Q:aam->aao->Prop)(h:Q (.bool (decide (a<=c))) s):
  aaD .ab A (richCompare .LtE (.int a t) (.int c u)) Q E s :=
 (PyProof.Rows.le_int h:aaD .ab A (abv .LtE (.int a t) (.int c u)) Q E s)
section
open PySem.SeqAt
open PySem.AutoSeq1 (wpAny_loadPart')
open PySem.MeetsSeq PySem.MeetsSeq2 PySem.MeetsSeq3
def qG (l b:μ)(items dD:Array aam)(n n2:Nat)(dd Yg:Option μ)(sl Uu:Array (Option aam))(ns ms:List Int)(hi:acW items.toList ns)(hj:acW dD.toList ms):
  Meets (acf.«tuple.__le__» {[.ref l,.ref b],[]})
   (λ_ R s=>s.heap.get? l=M {cls:=.type "tuple",dict:=dd,data:=.seq items n,slots:=sl}/\s.heap.get? b=M {cls:=.type "tuple",dict:=Yg,data:=.seq dD n2,slots:=Uu} /\
    R (.ok (.ret (.bool (lexLe ns ms)))) s) :=
 .of_wp λprog w A R s h=>by
  let {hp,g,d,Y,os}:=s;let {hl,hb,h}:=h;have f2:=AutoSeq1.sub_tuple_tuple;have z1:items.size=ns.length:=by rw[<- hi.length];simp
  have z2:dD.size=ms.length:=by rw[<- hj.length];simp
  wp_walk using adW hl,adW hb,aeC _ (λrest b s'=>b.1=ξ/\s'={(hp),g,d,Y,os}/\∃(vs O:List aam) (uq Pb:List Int),rest=vs.zip O /\
   acW vs uq/\acW O Pb/\uq.length+dD.size=Pb.length+items.size/\R (.ok (.ret (.bool (lexLe uq Pb)))) {(hp),g,d,Y,os}) _
  case turn =>
   rintro⟨y,x⟩ rest b s' ⟨lq,rfl,vs,O,uq,Pb,hz,VU,Te,hlen,L⟩;cases VU with
   |nil=>rw[List.zip_nil_left]at hz;cases hz
   |cons a t VT =>
    cases Te with
    |nil=>rw[List.zip_nil_right]at hz;cases hz
    |cons c u VQ =>
     rw[aea]at hz;injection hz with hyx Fi
     injection hyx with hy hx
     subst hy hx;rw[EV]at L;simp only[aaS]at hlen;let {e,he,RE}:=HT.FZ A.in1 {(hp),g,d,Y,os} a t c u;refine aal (he prog w _ _ ?_);cases e with
     |true =>
      rw[ω (RE.mp rfl)]at L
      wp_walk
      exact{rfl,rfl,_,_,_,_,Fi,VT,VQ,.a,L}
     |false =>
      rw[Δ (λq=>Κ (RE.mpr q) acb)]at L;have hri:=Dy A.in1 {(hp),g,d,Y,os} a t c u prog w
      wp_walk using hri
      exact{_,rfl,by simpa using L}
  case fin =>
   rintro⟨b1,b2⟩ s' ⟨lq,rfl,vs,O,uq,Pb,hz,VU,Te,hlen,L⟩;simp only at lq;subst lq;have hv:lexLe uq Pb=decide (items.size<=dD.size):=by
    cases VU with
    |nil =>
     cases Te with
     |nil =>
      simp only[adZ]at hlen;rw[ES];exact(Ξ .a).symm
     |cons c u hw =>
      simp only[adZ,aaS]at hlen;rw[ET];exact(Ξ .a).symm
    |cons a t hv =>
     cases Te with
     |nil =>
      simp only[adZ,aaS]at hlen;rw[EU];exact(Φ .a).symm
     |cons c u hw =>
      rw[aea]at hz;cases hz
   rw[hv]at L
   wp_walk
   exact{_,rfl,by simpa[Builtin.Tuple.tupleCompareSizes] using L}
  case h =>
   exact{rfl,rfl,items.toList,dD.toList,ns,ms,rfl,hi,hj,.a,h}
end
def yi {l b:μ}{items dD:Array aam}{ns L:List Int}{Q:aam->aao->Prop}(hl:IsTup s.heap l items)(hb:IsTup s.heap b dD)(hi:acW items.toList ns)(hj:acW dD.toList L)
  (hu:A.units<adx) (h:Q (.bool (lexLe ns L)) s):aaD .ab A (abv .LtE (.ref l) (.ref b)) Q E s:=by
 obtain⟨⟨cls,dd,data,sl⟩,ho,hc,n,hd⟩:=id hl;obtain⟨⟨aak,Yg,data2,Uu⟩,Pe,nB,Y,O⟩:=id hb;simp only at hc hd nB O;subst hc hd nB O;exact richCompare_meets_room (op:=.LtE) {_,ho,rfl} {_,Pe,rfl} PySem.F.slot_tuple_le PySem.F.entry_tuple_le (PySem.F.args_tuple_le_2 _ _) (qG l b items dD n Y dd Yg sl Uu ns L hi hj)
  {ho,Pe,show Value.bool (lexLe ns L)≠Value.notImplemented/\Q (.bool (lexLe ns L)) s from {(λx=>nomatch x),h}} hu
end O1
namespace L2
open PySem PySem.Spec PySem.SeqAt PyProof.Rows
def cu:List D->Option .ae
 |[]=>M []
 |.int i::ds=>(cu ds).map (i::·)
 |_::_=>ξ
theorem lg:∀{ds:List D} {ns:List Int},cu ds=M ns->ds=ns.map D.int
 |[],_,h=>by cases h;rfl
 |.int i::ds,_,h=>by
  let {ns,L,rfl}:=aaK.mp h;rw[aa8,<- lg L]
 |.cI::_,_,h=>by cases h
 |.bl _::_,_,h=>by cases h
 |.str _::_,_,h=>by cases h
 |.obj _::_,_,h=>by cases h
 |.tup _::_,_,h=>by cases h
 |.lst _::_,_,h=>by cases h
 |.dT _ _::_,_,h=>by cases h
 |.dK _ _::_,_,h=>by cases h
 |.sT _::_,_,h=>by cases h
 |.ob _::_,_,h=>by cases h
theorem jo:∀(ns:List Int),cu (ns.map D.int)=M ns
 |[]=>rfl
 |n::ns=>by rw[aa8];show (cu (ns.map D.int)).map _=_;rw[jo ns];rfl
theorem cL {H:Hp}:∀{ns:List Int} {vs:List V},aj P w W H (ns.map D.int) vs->vs=ns.map V.int
 |[],_,h=>h
 |n::ns,_,mx=>by let {v,r,e,O,L}:=mx;rw[e,cL L,show v=V.int n from O];rfl
theorem rX {H:Hp}:∀(ns:List Int),aj P w W H (ns.map D.int) (ns.map V.int)
 |[]=>rfl
 |n::ns=>{_,_,rfl,rfl,rX ns}
def Az (p:Int->Int->Bool)(lex:List Int->List Int->Bool)(a b:D):Option D:=match a.Nb,b.Nb with
 |some a,M b=>match cu a,cu b with
  |some ns,M L=>M (.bl (lex ns L))
  |_,_=>ξ
 |_,_=>Cb p a b
def AX {p:Int->Int->Bool}{lex:List Int->List Int->Bool}{a b d:D}(h:Az p lex a b=M d):(∃i j ns L,a=.tup i/\b=.tup j/\cu i=M ns/\cu j=M L/\d=.bl (lex ns L))\/Cb p a b=M d:=by
 unfold Az at h;cases O:a.Nb with
 |none=>rw[O]at h;exact .inr h
 |some i =>
  cases hb:b.Nb with
  |none=>rw[O,hb]at h;exact .inr h
  |some j =>
   rw[O,hb]at h;cases Y:cu i with
   |none=>simp only[Y]at h;cases h
   |some ns =>
    cases eb:cu j with
    |none=>simp only[Y,eb]at h;cases h
    |some L=>simp only[Y,eb]at h;cases h;exact .inl {i,j,ns,L,D.pH O,D.pH hb,Y,eb,rfl}
abbrev Sg:D->D->Option D:=Az (λi j=>decide (i<=j)) O1.lexLe
def Er {p:Int->Int->Bool}{lex:List Int->List Int->Bool}(ho:j_ X (abv op) (G7 λi j=>.bl (p i j)))
  (ht:∀(s:aao) (E:aam->aao->Prop) (l b:μ) (items dD:Array aam) (ns L:List Int) (Q:aam->aao->Prop),IsTup s.heap l items->IsTup s.heap b dD->acW items.toList ns->acW dD.toList L->Q (.bool (lex ns L)) s->aaD .aa X.A (abv op (.ref l) (.ref b)) Q E s) :
  bo X (abv op) (Az p lex):=by
 intro χ s σ H x y v u Q I rx ry h;let {W,d1,d2,d,hd,Y,O,e,q}:=h;rcases AX e with⟨a,b,ns,L,rfl,rfl,ea,eb,rfl⟩|e
 ·rw[lg ea]at Y;rw[lg eb]at O;let {pa,vs,rfl,ha,ra}:=Y;let {pb,us,rfl,hb,rb}:=O;rw[cL ra]at ha;rw[cL rb]at hb;cases rx;cases ry;let {its,q1,p1,_x}:=I.tuple (uw.of ha);let {Jj,q2,p2,_x}:=I.tuple (uw.of hb);exact ht s _ pa pb _ _ ns L _ p1 p2 (by simpa using intsAre_of q1) (by simpa using intsAre_of q2) {.bl _,H,I,rfl,q _ _ .aG rfl}
 ·exact nU ho χ s σ H x y v u Q I rx ry {W,_,_,d,hd,Y,O,e,q}
def IP (L:X.A.units<adx):bo X (abv .LtE) Sg:=Er KC λs E l b items dD ns ms Q h1 h2 h3 Y O=>O1.yi h1 h2 h3 Y L O
end L2
namespace TS
open PySem PyProof.Rows
def xD (hz:vs.length<=1000000)
  (col:∀(B:abf) (R:List aam->aao->Prop),B.units<=A.units+1->(∀(h':Heap) (L:Nat),(∀b o,s.heap.get? b=M o->h'.get? b=M o)->.e<=h'.objs.size->R vs {s with heap:=h',toks:=L})->aaD .ab B (collect x) R E s)
  (T:rg s.heap kf .e vs)
  (h:∀(out:List aam) (l:μ) (h':Heap) (L:Nat) (n:Nat),out.Perm vs->(vs.length<64->out.Pairwise λx y=>HT.lexLt (kf y) (kf x)=η)->.e<=l->(∀b o,s.heap.get? b=M o->h'.get? b=M o)->h'.get? l=M (acP "list" out.toArray n)->Q (.ref l) {s with heap:=h',toks:=L}) :
  aaD .ab A (call (.builtin "sorted") [x]) Q E s:=by
 refine aei kind_sorted plain_sorted entry_sorted (args_sorted1 _) ?_;unfold acf.«sorted»
 refine aal (m:=checkCount "sorted" 1 1 _) (aap ?_);refine aal (col A.in1 _ (aaq _) λh' L kp le0=>?_);have nl:vs.length<=aaC:=by rw[aa7];lia
 refine aal (wpAny_newList ?_ nl);have O:(h'.push (acP "list" vs.toArray 0)).get? h'.objs.size=M (acP "list" vs.toArray 0):=aaU _ rfl;have T':rg (h'.push (acP "list" vs.toArray 0)) kf h'.objs.size vs:=λv hv=>by
  let {t,o,xs,k,e1,_x,e3,r}:=T v hv;exact{t,o,xs,k,e1,aaN (aaw (kp _ _ e3)),aar _ (kp _ _ e3),r}
 refine aal (abl (abF slot_list_sort {_,O,rfl} entry_list_sort (pC (s:={s with heap:=h'.push (acP "list" vs.toArray 0),toks:=L}) O hz T' λout hp hs=>{_,rfl,?_}) (args_list_sort _)))
 let {n,hn}:=sortedHeap_at (out:=out.toArray) O;refine aap {_,rfl,h out h'.objs.size _ L n hp hs le0 (λb o e=>?_) hn};have Y:=aaw (kp _ _ e);rw[sortedHeap_old (aaN Y) (by rw[size_push'];exact acH Y)]
 exact aar _ (kp _ _ e)
end TS
namespace L2
open PySem PySem.Spec PyProof.Rows
def vy (H:Hp):aam->List Int
 |.ref t=>match H t with
  |some (.tup xs)=>xs.filterMap fun
   |.int i=>M i
   |_=>ξ
  |_=>[]
 |_=>[]
theorem vV:∀ns:List Int,((ns.map V.int).filterMap fun
   |.int i=>M i
   |_=>ξ)=ns
 |[]=>rfl
 |n::ns=>by
  rw[aa8,abj];dsimp only;rw[vV ns]
def pF {H:Hp}(h:H t=M (.tup (ns.map V.int))):vy H (.ref t)=ns:=by
 unfold vy;dsimp only;rw[h];exact vV ns
def B5 (H:Hp):aam->μ×List Int
 |.ref t=>(t,vy H (.ref t))
 |_=>(0,[])
abbrev yV (H:Hp)(ts:List (μ×List Int)):Prop:=∀t∈ts,H t.1=M (.tup (t.2.map V.int))/\t.2≠[]
abbrev qH (t:μ×List Int):V:=.ref t.1
theorem lO:∀{ts:List (μ×List Int)} {us:List aam},Vals (ts.map qH) us->us=ts.map λt=>Ω t.1
 |[],_,.nil=>rfl
 |t::ts,_,.cons r q=>by
  rw[aa8,<- lO q];cases r;rfl
theorem ji:∀(ts:List (μ×List Int)),Vals (ts.map qH) (ts.map λt=>Ω t.1)
 |[]=>.nil
 |t::ts=>.cons rfl (ji ts)
def l6 {H:Hp}{ts:List (μ×List Int)}(T:yV H ts){out:List aam}(O:out.Perm (ts.map λt=>Ω t.1)):out=(out.map (B5 H)).map (λt=>Ω t.1)/\(out.map (B5 H)).Perm ts:=by
 constructor
 ·rw[abH];refine(abK (g:=id) λv Y=>?_).trans (List.map_id _) |>.symm
  let {t,L,rfl}:=abe.mp (O.mem_iff.mp Y);rfl
 ·refine(O.map (B5 H)).trans (List.Perm.of_eq ?_);rw[abH];refine(abK (g:=id) λt L=>?_).trans (List.map_id _);show (t.1,vy H (.ref t.1))=t;rw[pF (T t L).1]
def sU {P:aas}{w:aaG}{H:Hp}{h:Heap}{ts:List (μ×List Int)}(ok:iq P w H h)(T:yV H ts){a:μ}(ha:h.objs.size<=a):TS.rg h (vy H) a (ts.map λt=>Ω t.1):=λv O=>by
 let {t,Y,rfl}:=abe.mp O;let {L,h2}:=T t Y;let {_x,its,r,o,ho,hc,n,hd}:=(show bY P w H h t.1 (.tup (t.2.map V.int)) from ok _ _ L)
 exact{t.1,o,_,n,rfl,aaN (aaV (aaw ho) ha),ho,hc,hd,by rw[pF L];exact intsAre_of (by simpa using r),by rw[pF L];exact h2}
def ug:gJ X (.builtin "sorted") (λxs H Q=>∃(p:μ) (ts:List (μ×List Int)),xs=[.ref p]/\dw X.K H p (ts.map qH)/\yV H ts/\ts.length<=1000000 /\
  ∀(l:μ) (dy:List (μ×List Int)),H l=ξ->dy.Perm ts->(ts.length<64->dy.Pairwise λx y=>HT.lexLt y.2 x.2=η)->Q (.ref l) (upd H l (.lst (dy.map qH)))):=by
 intro χ s σ H xs us Q I r h;let {p,ts,rfl,hq,T,hz,q}:=h;let {u,rfl,rx}:=vals1 r;cases rx;let {its,r',pl,hl}:=I.list hq;obtain rfl:=lO r';have nl:(ts.map λt=>Ω t.1).length<=aaC:=by rw[aan,aa7];lia
 refine TS.xD (kf:=vy H) (by rw[aan];exact hz) (λB R _ hR=>?_) (sU I.bh T (aaq _)) λout l h' Y n L hs hle kp ho=>?_
 ·refine collect_list pl.isList (hR _ s.toks (λb o e=>?_) ?_) nl
  ·have hb:=aaw e;rw[Heap.get?_update_ne _ _ _ _ (aaN hb)];exact aar _ e
  ·rw[Heap.size_update,size_push'];exact adz _
 ·let {e1,e2}:=l6 T L;have O:out.length=ts.length:=by rw[L.length_eq,aan]
  refine{.ref l,_,I.laid (t':=Y) (o:=.lst ((out.map (B5 H)).map qH)) kp hle ?_,rfl,q l _ (I.bh.fresh hle) e2 λqW=>?_}
  ·refine{by rw[aan,aan,O,aa7];lia,out,n,?_,ho}
   have:=ji (out.map (B5 H));rw[<- e1]at this;exact this
  ·rw[acu];refine(hs (by rw[aan];exact qW)).imp_of_mem λ{x y} hx hy hh=>?_
   let {t,ht,rfl}:=abe.mp (L.mem_iff.mp hx);let {t',V5,rfl}:=abe.mp (L.mem_iff.mp hy);exact hh
end L2
namespace ST
open PySem PyProof.Rows
section
variable {a b:μ}{o:Obj}{ts:List (μ×List Int)}{es:Array (Int×aam)}{t:SetTable}{k:List Int}
def qo.at (S:qo prog w o ts es ep t)(hi:i<t.place.size):∃x,ts[i]?=M x/\es[i]?=M (ent prog w x):=by
 have L:i<ts.length:=by rw[<- S.size.2];exact hi
 exact{ts[i],aav L,by rw[<- aaP,S.Hi,aaB,aav L];rfl}
def EB (S:qo prog w o ts es ep t):t.gaveWay=η:=by
 let {j,hj,e}:=S.wf.KN;unfold SetTable.gaveWay;rw[e];obtain⟨i,rfl⟩:∃i,j=i+1:={j-1,.a}
 have:0<2 ^ i:=Nat.pow_pos .b
 rw[Nat.pow_succ];have:(2 ^ i*2-1) % 2=1:=by lia
 rw[this];rfl
def qF (ho:s.heap.get? a=M o)(S:qo prog w o ts es ep t)(T:OX prog w s.heap ts)(hk:(TK prog w).is s.heap k b)(hu:A.units<adx)
  (hN:¬ um t (dt t.mask .aH N)) (hO:∀x,x<N->um t (dt t.mask .aH x)) (hNf:N<10*SetTable.turns t.mask)
  (Qf:(∀x∈ts,x.2≠k)->Q (.free (dt t.mask .aH N) η) s) (Qt:∀i:Option Nat,(∃x∈ts,x.2=k)->(mK=η->i.isSome=G)->Q (.there i) s) :
  ∀(d n f:Nat) (Di:Option SetTable.Probe),Di.getD (Us t.mask .aH)=iA t.mask .aH n->n+d=N->d<f ->
   (∀m,m<n->∀i x,i<t.place.size->g t.place i=dt t.mask .aH m->ts[i]?=M x->x.2≠k) ->
   aaD .ab A (setSearchFrom a (.ref b) .aH mK f Di) Q E s:=by
 intro d
 induction d using Nat.strongRecOn with
 |_ d ih =>
  intro n f Di qT pM Tp RV;obtain⟨f,rfl⟩:∃f',f=f'+1:={f-1,.a}
  unfold setSearchFrom;refine aal (acs ho S.dat S.fits ?_);dsimp only;rw[EB S,Δ .c]
  rw[LN,qT];generalize Zf:SetTable.probe t _ (kH prog w k) (iA t.mask (kH prog w k) n)=pr;have hash:∀i x,i<t.place.size->ts[i]?=M x->(es[i]?.map (·.1)).getD 0=kH prog w x.2:=λi x hi hx=>by
   let {y,O,Y}:=S.at hi;rw[hx]at O;obtain rfl:=aaZ O;rw[Y];rfl
  rcases uZ S.wf (λi=>(es[i]?.map (·.1)).getD 0) (kH prog w k) hN hO d n (10*SetTable.turns t.mask) pM (by lia)with⟨q1,q2⟩|⟨m,i,q1,q2,q3,q4,q5,q6,q7⟩
  ·have e:pr=M (.empty (dt t.mask .aH N) ξ):=Zf.symm.trans q1;rw[e];dsimp only;refine aap (Qf λx hx Jr=>?_);let {i,hi}:=adU hx;have Fw:i<t.place.size:=by
    rw[S.size.2];exact(aay.mp hi).1
   let {L,g1,g2}:=S.wf.YL i (kH prog w x.2) (by rw[aaB,hi];rfl)
   rw[Jr]at g1 g2;have JB:L<N:=by
    rcases abG L N with z|z
    ·exact z
    ·rcases abG N L with z2|z2
     ·exact Κ (g2 N z2) hN
     ·obtain rfl:N=L:=by lia
      exact Κ {(i),Fw,g1.symm} hN
   rcases abG L n with z|z
   ·exact RV L z i x Fw g1.symm hi Jr
   ·exact q2 L z JB i Fw g1.symm (by rw[hash i x Fw hi,Jr])
  ·have e:pr=M (.candidate (dt t.mask .aH m) i (iA t.mask .aH (m+1))):=Zf.symm.trans q6;rw[e];dsimp only;let {x,He,Rh}:=S.at q3;have VO:x∈ts:=aaY He;have KS:t.slot (dt t.mask .aH m)=.live i:=by rw[<- q4];exact rD S.wf.Bk q3
   refine(λ(key:?G)=>?main) ?key
   case main =>
    cases hl:t.led with
    |true =>
     rw[Δ .c]
     exact key
    |false =>
     rw[ω .c]
     have V7:(es.filter (·.1==kH prog w k)).toList.map (·.2)=(ts.filter λx=>kH prog w x.2==kH prog w k).map λx=>Ω x.1:=by
      rw[Array.toList_filter,S.Hi,List.filter_map,abH];rfl
     rw[V7];refine aal (Hv hk _ (λy hy=>T y (ab8.mp hy).1) ?_);rw[Δ .c]
     exact key
   case key =>
    rw[Rh];dsimp only;refine aal (abl ((TK prog w).eqBool hu (T x VO) hk ?_));refine aal (acs ho S.dat S.fits ?_);dsimp only;have Zd:t.sameMemory t.moves t.mask=M G:=by
     unfold SetTable.sameMemory;rw[ω (beq_self_eq_true _)]
    by_cases Jr:x.2=k
    ·rw[Ξ Jr];cases mK with
     |true =>
      rw[ω .i]
      exact aap (Qt ξ {(x),VO,Jr} (λz=>by cases z))
     |false =>
      rw[Δ .c,Zd]
      dsimp only;rw[ω rfl,KS];dsimp only;rw[Rh];dsimp only;refine aal (wpAny_isSame_ref_self ?_);rw[ω rfl];refine aal (aap ?_);exact aap (Qt (M i) {(x),VO,Jr} (λ_=>rfl))
    ·rw[Φ Jr,Δ .c,Zd]
     dsimp only;rw[ω rfl,KS];dsimp only;rw[Rh];dsimp only;refine aal (wpAny_isSame_ref_self ?_);rw[ω rfl];refine aal (aap ?_);dsimp only;rw[Δ .c]
     refine ih (N-(m+1)) .a (m+1) f _ rfl .a .a λm' hm' i' x' O Y h3=>?_
     rcases abG m' n with z|z
     ·exact RV m' z i' x' O Y h3
     ·by_cases e2:m'=m
      ·subst e2;obtain rfl:=S.wf.Bk.inj O q3 (Y.trans q4.symm);rw[He]at h3;obtain rfl:=aaZ h3;exact Jr
      ·intro z2;exact q7 m' z .a i' O Y (by rw[hash i' x' O h3,z2])
end
theorem wW (n:Nat):∀(f j:Nat),n<2 ^ (j+f)->∃L,j<=L/\SetTable.sizeAbove.go n f (2 ^ j)=2 ^ L/\n<2 ^ L/\(L=j\/2 ^ (L - 1)<=n)
 |0,j,h=>{j,aaq _,rfl,h,.inl rfl}
 |f+1,j,h=>by
  unfold SetTable.sizeAbove.go
  by_cases hc:2 ^ j<=n
  ·rw[ω hc,<- Nat.pow_succ];let {L,h1,h2,Y,O}:=wW n f (j+1) (by rw[show j+1+f=j+(f+1) by lia];exact h)
   refine{L,.a,h2,Y,.inr ?_}
   rcases O with rfl|O
   ·exact hc
   ·exact O
  ·rw[Δ hc];exact{j,aaq _,rfl,.a,.inl rfl}
def GQ (h:n<=4000):∃j,3<=j/\SetTable.sizeAbove n=2 ^ j/\n<2 ^ j/\2 ^ j<=8192:=by
 let {j,h1,Y,O,L}:=wW n 64 3 (Nat.lt_of_le_of_lt h .b)
 refine{j,h1,Y,O,?_};rcases L with rfl|L
 ·decide
 ·have:j-1<12:=by
   rcases abG (j-1) 12 with z|z
   ·exact z
   ·have:2 ^ 12<=2 ^ (j-1):=adb .b z
    lia
  have:2 ^ j<=2 ^ 12:=adb .b .a
  lia
def JE (d:Nat)(n:Int)(L:Tok):hashByValue d (.int n L)=pure G:=by
 cases d <;> rfl
section
variable {a b:μ}{o:Obj}{ts:List (μ×List Int)}{es:Array (Int×aam)}{t:SetTable}{k:List Int}
def Lv (hk:(TK prog w).is s.heap k b)(q:Q G s):aaD .ab A (hashByValue 8 (.ref b)) Q E s:=by
 let {o,items,n,ho,hc,hd,hi}:=hk;have hT:s.TypeIs (.ref b) "tuple" := {(o),ho,hc};unfold hashByValue;refine aal (wpAny_specialOf hT F.slot_tuple_hash.lookup ?_);dsimp only;refine aal (abT ho hd ?_);dsimp only[Option.getD_some];rw[<- aef];refine aal (aeC _ (λrest r s'=>r=(ξ,())/\s'=s/\∀v∈rest,∃n O,v=Value.int n O) _ ?_ ?_ _ _ {rfl,rfl,?_})
 ·rintro v rest r s' ⟨rfl,rfl,ly⟩;let {n,O,rfl}:=ly v aaO;rw[JE];refine aal (aap ?_);rw[Δ .c]
  exact aap {rfl,rfl,λu L=>ly u (aaL _ L)}
 ·rintro r s' ⟨rfl,rfl,_⟩;exact aap q
 ·generalize items.toList=vs at hi
  induction hi with
  |nil=>intro v Y;cases Y
  | @cons k v ks vs h1 h2 ih =>
   intro u L;rcases aat.mp L with rfl|L
   ·let {t,rfl}:=Value.isInt_shape h1;exact{_,_,rfl}
   ·exact ih u L
def AS (ho:s.heap.get? a=M o)(S:qo prog w o ts es ep t)(T:OX prog w s.heap ts)(hk:(TK prog w).is s.heap k b)(hu:A.units<adx)
  (Qf:∀N,(∀x∈ts,x.2≠k)->¬ um t (dt t.mask .aH N)->(∀x,x<N->um t (dt t.mask .aH x))->Q (.free (dt t.mask .aH N) η) s)
  (Qt:∀i:Option Nat,(∃x∈ts,x.2=k)->(mK=η->i.isSome=G)->Q (.there i) s) :
  aaD .ab A (setSearch a (.ref b) .aH mK) Q E s:=by
 let {N,Y,O,L}:=S.wf.first .aH
 have hm:=S.KN;unfold setSearch;exact qF ho S T hk hu O L Y (λq=>Qf N q O L) Qt N 0 100000 ξ rfl (ad3 N) (by unfold SetTable.turns at Y;lia) λm hm=>by lia
def Ag (ho:h.get? a=M o)(hd:o.data=.set es ep t)(fN:Array (Int×aam))(t':SetTable):(h.update a (Obj.putSet fN t')).get? a=M {o with data:=.set fN (ep+1) t'}:=by
 have e:=ab5 (Obj.putSet fN t') ho (by rw[putSet_of fN t' hd];rfl)
 rw[e,putSet_of fN t' hd]
def DW {α:Type}(l:List α)(p:Nat)(x:α):(l.take p++x::l.drop p).Perm (x::l):=by
 refine List.perm_middle.trans (List.Perm.cons x ?_);rw[acm]
def M0 {α:Type}{en:α->Int×aam}{hk:α->Int}(hh:∀x,(en x).1=hk x)(x0:α){ts:List α}(he:es.toList=ts.map en){j:Nat}(j3:3<=j)(hj:ts.length<=2 ^ j-1)(fi mo:Nat)(le O:Bool):
  ∃(order:Array Nat) (t':SetTable) (dy:List α),SetTable.laid (2 ^ j-1) fi mo le O (es.map (·.1))=M (t',order)/\order.toList.Perm (aaA ts.length)/\(order.filterMap (es[·]?)).toList=dy.map en/\dy.Perm ts /\
   WF t' (dy.map hk)/\t'.mask=2 ^ j-1/\t'.led=le/\t'.plain=O/\t'.place.size=ts.length:=by
 have hz:es.size=ts.length:=by rw[<- aau,he,aan]
 have hs:(es.map (·.1)).size=ts.length:=by rw[Array.size_map,hz]
 let {t',order,e1,e2,e3,e4,e5,L,e7,Y}:=Jg (hs:=es.map (·.1)) j3 .a fi mo le O
 rw[hs]at L Y;have gd:∀i,i<ts.length->es[i]?=M (en (ts.getD i x0)):=λi hi=>by
  rw[<- aaP,he,aaB,aav hi,acA,aav hi];rfl
 have r_:(order.filterMap (es[·]?)).toList=(order.toList.map λi=>ts.getD i x0).map en:=by
  rw[Array.toList_filterMap,abH];have:∀l:List Nat,(∀i∈l,i<ts.length)->l.filterMap (es[·]?)=l.map (en ∘ λi=>ts.getD i x0):=λl=>by
   induction l with
   |nil=>intro _;rfl
   |cons i l ih =>
    intro h;rw[abj,gd i (h i aaO),aa8,ih λy hy=>h y (aaL _ hy)];rfl
  exact this _ λi hi=>aa2.mp (L.mem_iff.mp hi)
 have pL:(order.toList.map λi=>ts.getD i x0).Perm ts:=by
  refine(L.map _).trans (List.Perm.of_eq ?_);apply ac7;intro i;rw[aaB]
  by_cases hi:i<ts.length
  ·rw[acj hi,aav hi];show M (ts.getD i x0)=_;rw[acA,aav hi];rfl
  ·rw[abq (by rw[aa5];lia),abq .a]
   rfl
 refine{order,t',_,e1,L,r_,pL,?_,e2,e3,e4,Y};rw[abH];have:(order.toList.map λi=>(es.map (·.1)).getD i 0)=order.toList.map (hk ∘ λi=>ts.getD i x0):=by
  refine abK λi hi=>?_;rw[aaW,Array.getElem?_map,gd i (aa2.mp (L.mem_iff.mp hi))];exact hh _
 rw[<- this];exact e7
def Bl {α:Type}{en:α->Int×aam}{hk:α->Int}(hh:∀x,(en x).1=hk x)(x0:α){ts:List α}(he:es.toList=ts.map en){m:Nat}(Tn:ts.length*2<=m)(Rz:m<=4000):
  ∃(j:Nat) (order:Array Nat) (t':SetTable) (dy:List α),SetTable.sizeAbove m=2 ^ j/\2 ^ j<=8192/\t.relaid (es.map (·.1)) m=M (t',order)/\order.toList.Perm (aaA ts.length)/\(order.filterMap (es[·]?)).toList=dy.map en/\dy.Perm ts /\
   WF t' (dy.map hk)/\(t'.place.size*5<t'.mask*3/\m<=t'.mask)/\t'.mask<=8191/\t'.led=t.led/\t'.plain=t.plain/\t'.place.size=ts.length:=by
 let {j,L,ja,jb,jc}:=GQ (n:=m) Rz;have:2 ^ 3<=2 ^ j:=adb .b L
 let {order,t',dy,e1,e6,r_,pL,e7,Y,e3,e4,O}:=M0 hh x0 he L .a t.finger (t.movedTo (2 ^ j-1)) t.led t.plain
 exact{j,order,t',dy,ja,jc,by unfold SetTable.relaid;rw[ja];exact e1,e6,r_,pL,e7,{by rw[O,Y];lia,by rw[Y];lia},.a,e3,e4,O}
def CQ (ho:s.heap.get? a=M o)(L:o.ExactSet)(hd:o.data=.set es ep t)(he:es.toList=ts.map (ent prog w))(hw:WF t (ts.map λx=>kH prog w x.2))(Y:0<ts.length)(hn:ts.length<=1000)
  (Xu:t.led=!w.params.followText "set-order") (hpl:t.plain=G) (pM:(ts.map (·.2)).Nodup) {Q:Unit->aao->Prop}
  (q:∀(dy:List (μ×List Int)) (fN:Array (Int×aam)) (t':SetTable),dy.Perm ts->qo prog w {o with data:=.set fN (ep+1) t'} dy fN (ep+1) t'->Q () {s with heap:=s.heap.update a (Obj.putSet fN t')}) :
  aaD .ab A (setRelay a (SetTable.grown ts.length)) Q E s:=by
 have hz:es.size=ts.length:=by rw[<- aau,he,aan]
 have O:t.place.size=ts.length:=by have:=hw.sz;rw[aan]at this;exact this
 have hf:t.fits es.size=G:=by
  unfold SetTable.fits SetTable.fill;rw[hw.Pk,hz,O];have:=hw.room;simp;lia
 unfold setRelay;refine aal (acs ho hd hf ?_);dsimp only;have hg:SetTable.grown ts.length=ts.length*4:=by unfold SetTable.grown;rw[Δ .a]
 rw[hg];let {j,order,t',dy,ja,jc,er,e6,r_,pL,hW,V_,hms,e3,e4,e8}:=Bl (t:=t) (hk:=λx=>kH prog w x.2) (λ_=>rfl) (0,[]) (m:=ts.length*4) he .a .a
 rw[ja,Δ (by rw[aa7];lia)]
 rw[er];have hsz:(order.filterMap (es[·]?)).size=es.size:=by
  rw[<- aau,r_,aan,pL.length_eq,hz]
 refine aal ?_;show aaD _ _ (if (order.filterMap (es[·]?)).size != es.size then _ else _) _ _ _
 rw[hsz,Δ .c]
 refine aap ?_;dsimp only;exact wpAny_storeSet_of ho hd (q _ _ t' pL {L,rfl,r_,hW,V_.1,hms,e3.trans Xu,e4.trans hpl,((pL.map (·.2)).nodup_iff).mpr pM}) (by rw[hsz,hz,aa7];lia)
abbrev O4 {α β:Type}(w:aaG)(en:α->Int×aam)(hk:α->Int)(ky:α->β)(a:μ)(s:aao)(ts:List α)(x:α)(Q:Bool->aao->Prop):Prop :=
 ∀(h':Heap) (o':Obj) (dy:List α) (fN:Array (Int×aam)) (wu:Nat) (t':SetTable) (added:Bool) (L:Nat),s.toks<=L->ach a s.heap h'->h'.get? a=M o'->gI w en hk ky o' dy fN wu t' ->
  ((∃y∈ts,ky y=ky x)->dy=ts)->((∀y∈ts,ky y≠ky x)->dy.Perm (x::ts))->Q added {s with heap:=h',toks:=L}
abbrev SS (prog:aas)(w:aaG):=O4 w (ent prog w) (λx=>kH prog w x.2) (λx=>x.2)
def CZ (ho:s.heap.get? a=M o)(S:qo prog w o ts es ep t)(T:OX prog w s.heap ts)(hk:(TK prog w).is s.heap k b)(hu:A.units<adx)(hn:ts.length<1000)(f:Nat)
  (q:SS prog w a s ts (b,k) Q) :
  aaD .ab A (setAddHashedIn a (.ref b) .aH (f+1)) Q E s:=by
 unfold setAddHashedIn;refine aal (acs ho S.dat S.fits ?_);dsimp only;rw[Δ (by simp[byScan,Value.scannable])]
 refine aal (AS ho S T hk hu (λN Y g2 g3=>?_) λi Y g2=>?_)
 ·dsimp only;refine aal (acs ho S.dat S.fits ?_);dsimp only;have hr:t.place.size+1<=t.mask:=by
   have:=S.Uy;let {j,hj,e}:=S.wf.KN;have:2 ^ 3<=2 ^ j:=adb .b hj
   lia
  let {W,hp}:=S.wf.put (nE _ _ _) g2 g3 hr;have pe:(t.put (dt t.mask .aH N)).1.plain=t.plain/\(t.put (dt t.mask .aH N)).1.led=t.led/\(t.put (dt t.mask .aH N)).1.mask=t.mask:={(rfl),rfl,rfl};have pf:(t.put (dt t.mask .aH N)).1.dummies=#[]:=W.Pk;generalize (t.put (dt t.mask .aH N)).1=L at *
  generalize (t.put (dt t.mask (kH prog w k) N)).2=p at *
  let {UU,YU,pe3}:=pe;rw[UU,S.O_,ω rfl];refine aal (Lv hk ?_);rw[ω rfl];have hz:=S.size;have Om:(SetTable.insertAt es p (kH prog w k,Ω b)).toList=(ts.take p++(b,k)::ts.drop p).map (ent prog w):=by
   rw[pK,S.Hi,abb,aa8,aex,aey]
  have W1:WF L ((ts.take p++(b,k)::ts.drop p).map λx=>kH prog w x.2):=by
   rw[abb,aa8,aex,aey];exact W
  have pm:(ts.take p++(b,k)::ts.drop p).Perm ((b,k)::ts):=DW ts p (b,k);have k7:(ts.take p++(b,k)::ts.drop p).length=ts.length+1:=pm.length_eq;have BE:((ts.take p++(b,k)::ts.drop p).map (·.2)).Nodup:=by
   refine((pm.map (·.2)).nodup_iff).mpr ?_;rw[aa8,aaX];exact⟨λhm=>by
    let {x,O,e}:=abe.mp hm;exact Y x O e,S.U4⟩
  have AZ:(SetTable.insertAt es p (kH prog w k,Ω b)).size=ts.length+1:=by rw[<- aau,Om,aan,k7]
  have pl1:L.place.size=ts.length+1:=by have:=W1.sz;rw[aan,k7]at this;exact this
  refine aal (wpAny_storeSet_of ho S.dat ?_ (by rw[AZ,aa7];lia))
  have Xg:=Ag ho S.dat (SetTable.insertAt es p (kH prog w k,Ω b)) L;have P9:ach a s.heap (s.heap.update a (Obj.putSet (SetTable.insertAt es p (kH prog w k,Ω b)) L)):=adl _ _ _;have fin:∀(h':Heap) (o':Obj) (dy:List (μ×List Int)) (fN:Array (Int×aam)) (wu:Nat) (t':SetTable),ach a s.heap h'->h'.get? a=M o'->qo prog w o' dy fN wu t'->dy.Perm (ts.take p++(b,k)::ts.drop p)->Q G {s with heap:=h'} :=
   λh' o' dy fN wu t' q1 q2 q3 q4=>q h' o' dy fN wu t' G _ (aaq _) q1 q2 q3 (λqU=>by let {x,O,e}:=qU;exact Κ e (Y x O)) λ_=>q4.trans pm
  by_cases vF:L.tooFull=G
  ·rw[vF,ω .i]
   have XH:SetTable.grown (es.size+1)=SetTable.grown (ts.take p++(b,k)::ts.drop p).length:=by rw[k7,hz.1]
   rw[XH];refine aal (CQ (s:={s with heap:=s.heap.update a (Obj.putSet (SetTable.insertAt es p (kH prog w k,Ω b)) L)}) Xg S.ex rfl Om W1 .a .a (YU.trans S.led) (UU.trans S.O_) BE λdy fN t' r1 r2=>aap ?_)
   have Pe:=Ag Xg rfl fN t';exact fin _ _ dy fN _ t' (P9.trans (adl _ _ _)) Pe r2 r1
  ·rw[Δ (by simpa using vF)]
   refine aap (fin _ _ _ _ _ _ P9 Xg {S.ex,rfl,Om,W1,?_,by rw[pe3];exact S.KN,YU.trans S.led,UU.trans S.O_,BE} (.refl _))
   unfold SetTable.tooFull SetTable.fill at vF;rw[pf]at vF;simp at vF;lia
 ·dsimp only;exact aap (q s.heap o ts es ep t η _ (aaq _) (Heap.SameBut.refl _ _) ho S (λ_=>rfl) λg=>Κ Y λt6=>by let {x,O,e}:=t6;exact g x O e)
def Lx (ho:s.heap.get? a=M o)(S:qo prog w o ts es ep t)(T:OX prog w s.heap ts)(hk:(TK prog w).is s.heap k b)(L:A.units<adx)(hn:ts.length<1000)
  (q:SS prog w a s ts (b,k) Q) :
  aaD .ab A (setAdd a (.ref b)) Q E s:=by
 unfold setAdd;refine abl ?_;refine aal ((TK prog w).pyHash L hk ?_);unfold setAddHashed;refine abl ?_;exact CZ (s:={s with toks:=s.toks+(TK prog w).draws k}) ho S T hk L hn 99999 λh' o' dy fN wu t' added O r0 r1 r2 r3 r4 Y=>q h' o' dy fN wu t' added O (aa3 (adh _ _) r0) r1 r2 r3 r4 Y
end
theorem qi {α:Type}:∀{l:List α} {i:Nat} (h:i<l.length),(l[i]::l.eraseIdx i).Perm l
 |[],_,h=>Κ h (Nat.not_lt_zero _)
 |x::l,0,_=>.refl _
 |x::l,i+1,h=>by
  have h':i<l.length:=by rw[aaS]at h;lia
  show (l[i]::x::l.eraseIdx i).Perm (x::l);exact(List.Perm.swap _ _ _).trans ((qi h').cons x)
theorem zF {α:Type}(next:Nat->Nat):∀(f k:Nat) (left:List α) (out:Array α),f=left.length->(pickOrder.go next f k left out).toList.Perm (out.toList++left)
 |0,k,left,out,e=>by
  obtain rfl:left=[]:=aeJ.mp e.symm;unfold pickOrder.go;rw[abR]
 |f+1,k,left,out,e=>by
  unfold pickOrder.go;have hi:next k % left.length<left.length:=adQ _ .a
  rw[aav hi];dsimp only;refine(zF next f (k+1) _ _ (by rw[List.length_eraseIdx_of_lt hi];lia)).trans ?_
  rw[ac8,abx];exact List.Perm.append_left _ (qi hi)
def Br {α:Type}(next:Nat->Nat)(xs:Array α):(pickOrder next xs).toList.Perm xs.toList:=by
 have:=zF next xs.size 0 xs.toList #[] (by rw[aau])
 exact this
def cb:Slot "set_iterator" "__next__" "set_iterator.__next__" :=
 .of (owner:="set_iterator") (n:="__next__") (by rw[typeLookup_type,adM];kernel_rfl) .g .g .g
  (by first|exact .inl (by decide +kernel)|exact .inr .g) (by rw[isSubtype_type];kernel_rfl)
def jH:Slot "set_iterator" "__iter__" "set_iterator.__iter__" :=
 .of (owner:="set_iterator") (n:="__iter__") (by rw[typeLookup_type,adM];kernel_rfl) .g .g .g
  (by first|exact .inl (by decide +kernel)|exact .inr .g) (by rw[isSubtype_type];kernel_rfl)
def i4:entryFor table "set_iterator.__next__" = M acf.«set_iterator.__next__»:=entryFor_of_tree .d
def pX:entryFor table "set_iterator.__iter__" = M acf.«dict_keyiterator.__iter__» :=
 entryFor_alias (id':="dict_keyiterator.__iter__") .d rfl .g .d
def pY:entryFor table "set.__iter__" = M acf.«frozenset.__iter__» :=
 entryFor_alias (id':="frozenset.__iter__") .d rfl .g .d
def jN (a:aam):argsOk "set_iterator.__next__" ⟨[a],[]⟩:=by unfold argsOk;kernel_rfl
def rf (a:aam):argsOk "set_iterator.__iter__" ⟨[a],[]⟩:=by unfold argsOk;kernel_rfl
section
variable {a:μ}{o:Obj}{es:Array (Int×aam)}{t:SetTable}
variable {α β:Type}{en:α->Int×aam}{hk:α->Int}{ky:α->β}{ts:List α}
abbrev Gz (w:aaG):Bool:=w.params.followText "set-order"
def lN (q:Q (Gz w) s):aaD .ab A setsByText Q E s:=by
 unfold setsByText;exact aal (aeD (aap q))
def cc (w:aaG)(a:μ)(ep:Nat)(es:Array (Int×aam)):Array (Int×aam):=if Gz w=G then pickOrder (w.params.setOrder a ep) es else es
def i7 (w:aaG)(a:μ)(ep:Nat)(es:Array (Int×aam)):(cc w a ep es).toList.Perm es.toList:=by
 unfold cc
 split
 ·exact Br _ _
 ·exact .refl _
def BD (S:gI w en hk ky o ts es ep t){Q:Bool->aao->Prop}(ho:s.heap.get? a=M o)(q:Q η s):aaD .ab A (setDrawn a) Q E s:=by
 unfold setDrawn;refine aal (acs ho S.dat S.fits ?_);dsimp only;refine aal (lN (aap ?_));have:(!Gz w&&(!t.plain&&decide (es.size>1)))=η:=by rw[S.O_];simp
 show Q (!Gz w&&(!t.plain&&decide (es.size>1))) s;rw[this];exact q
def oi (ho:s.heap.get? a=M o)(S:gI w en hk ky o ts es ep t){sl i:Nat}{Q:Option (aam×Nat)->aao->Prop}(Fh:Gz w=η->SetTable.below t.place sl=i)
  (q1:∀e,(cc w a ep es)[i]?=M e->∀zi:Nat,(Gz w=η->SetTable.below t.place zi=i+1)->Q (M (e.2,zi)) s) (Y:(cc w a ep es)[i]?=ξ->Q ξ s) :
  aaD .ab A (setNext a sl i ep) Q E s:=by
 unfold setNext;refine aal (acs ho S.dat S.fits ?_);dsimp only;refine aal (lN ?_);cases L:Gz w with
 |true =>
  rw[ω rfl,Δ .c]
  unfold setWalk;refine aal (aal (acs ho S.dat S.fits ?_));dsimp only;refine aal (lN ?_);rw[L,ω rfl];refine aal (aeD (aap (aap ?_)));have e:cc w a ep es=pickOrder (w.params.setOrder a ep) es:=by unfold cc;rw[L,ω rfl]
  rw[e]at q1 Y;show Q (((pickOrder (w.params.setOrder a ep) es)[i]?).map λe=>(e.2,sl)) s;cases hx:(pickOrder (w.params.setOrder a ep) es)[i]? with
  |none=>exact Y hx
  |some x=>exact q1 x hx sl (λz=>by rw[L]at z;cases z)
 |false =>
  rw[Δ .c]
  have e:cc w a ep es=es:=by unfold cc;rw[L,Δ .c]
  rw[e]at q1 Y;have hd:(!t.plain&&decide (es.size>1))=η:=by rw[S.O_];rfl
  show aaD _ _ (if (!t.plain&&decide (es.size>1))=G then _ else _) _ _ _
  rw[hd,Δ .c]
  have hl:t.led=G:=by
   rw[S.led];show (!Gz w)=G;rw[L];rfl
  refine aal ?_;show aaD _ _ (if (!t.led&&!es.isEmpty)=G then _ else _) _ _ _
  rw[hl,Δ .c]
  refine aap (aap ?_);rw[Fh L];have hz:=S.size
  by_cases hi:i<t.place.size
  ·have O:es[i]?=M es[i]:=getElem?_pos es i .h
   rw[O,yE hi];refine q1 _ O _ λ_=>?_;let {b1,b2,b3}:=ia S.wf.Bk (g t.place i+1);rcases Nat.lt_trichotomy (SetTable.below t.place (g t.place i+1)) (i+1)with z|z|z
   ·have:=b3 i .h hi
    omega
   ·exact z
   ·have:=b2 (i+1) z;have:=S.wf.Bk i (i+1) .h .h
    omega
  ·have O:es[i]?=ξ:=ab1 .h
   rw[O];exact Y O
end
section
variable {a b it:μ}{o:Obj}{es:Array (Int×aam)}{t:SetTable}
variable {α β:Type}{en:α->Int×aam}{hk:α->Int}{ky:α->β}{ts:List α}
def tf (sl i:Nat)(a:μ)(n ep:Nat):Obj:={cls:=.type "set_iterator",dict:=ξ,data:=.fields #[.int sl 0,.int i 0,.ref a,.int n 0,.int ep 0],slots:=#[]}
def oM {sl i n:Nat}(h:s.heap.get? it=M (tf sl i a n ep)):s.TypeIs (.ref it) "set_iterator" := {_,h,rfl}
def Px (w:aaG)(en:α->Int×aam)(hk:α->Int)(ky:α->β)(it a:μ)(ts:List α)(es:Array (Int×aam))(ep:Nat)(i:Nat)(h:Heap):Prop :=
 ∃sl o t,h.get? it=M (tf sl i a es.size ep)/\h.get? a=M o/\gI w en hk ky o ts es ep t/\(Gz w=η->SetTable.below t.place sl=i)
def Dr (Fu:a≠it){i:Nat}{e:Int×aam}{Q:Option aam->aao->Prop}(st:Px w en hk ky it a ts es ep i s.heap)(he:(cc w a ep es)[i]?=M e)
  (q:∀h',Px w en hk ky it a ts es ep (i+1) h'->ach it s.heap h'->Q (M e.2) {s with heap:=h'}):aaD .ab A (acv (.ref it)) Q E s:=by
 let {sl,o,t,hi,ho,S,hb}:=st;have O:=oM hi;unfold acv;refine aal (acn (abD (name:=abO "__next__") O cb (abF cb O i4 ?_ (jN _))));unfold acf.«set_iterator.__next__»
 refine aal (aap ?_);refine aal (wpAny_fieldsOf hi rfl ?_);dsimp only;refine aal (wpAny_setEntries_of ho S.dat S.fits ?_);rw[Δ .c]
 refine aal (oi (i:=i) ho S (λz=>by simpa using hb z) (λe' N7 zi Rr=>?_) λL=>?_)
 ·rw[he]at N7;obtain rfl:=aaZ N7;dsimp only;refine aal (ab9 hi .c λh1 g1 Y=>?_)
  refine aal (ab9 (s:={s with heap:=h1}) g1 .c λh2 g2 YK=>?_)
  refine aap {_,rfl,aap (q h2 {zi,o,t,?_,?_,S,Rr} (Y.trans YK))}
  ·rw[g2];rfl
  ·rw[(Y.trans YK).2 a Fu];exact ho
 ·rw[he]at L;cases L
def HM (Y:A.handled=ξ)(Fu:a≠it){i:Nat}{Q:Option aam->aao->Prop}(st:Px w en hk ky it a ts es ep i s.heap)(he:(cc w a ep es)[i]?=ξ)
  (q:∀h',Heap.ExtBut it s.heap h'->Q ξ {s with heap:=h'}):aaD .ab A (acv (.ref it)) Q E s:=by
 let {sl,o,t,hi,ho,S,hb}:=st;have L:=oM hi;unfold acv;refine aal (acn (abD (name:=abO "__next__") L cb (abF cb L i4 ?_ (jN _))));unfold acf.«set_iterator.__next__»
 refine aal (aap ?_);refine aal (wpAny_fieldsOf hi rfl ?_);dsimp only;refine aal (wpAny_setEntries_of ho S.dat S.fits ?_);rw[Δ .c]
 refine aal (oi (i:=i) ho S (λz=>by simpa using hb z) (λe' O zi Rr=>?_) λhn=>?_)
 ·rw[he]at O;cases O
 ·dsimp only;refine aal (wpAny_setField hi rfl .c ?_)
  refine aal ?_;simp only[newExc,newTuple];refine aal (abS ?_ (by size_fits))
  refine aal (m:=firstArgMember _ _) (aen (a:=Value.none) (by first|rfl|(simp only[firstArgMember];rfl)) ?_)
  refine abS ?_ (by size_fits)
  simp only[raiseNew];refine aal (wpAny_handled ?_);rw[show A.in1.handled=ξ from Y]
  refine aal (aap (wpAny_throw ?_));refine aal (adO (T:="StopIteration") (b:=G) {_,aaU _ rfl,rfl} isSubtype_stop ?_);exact aap (q _ (((adl ..).extBut.push _).push _))
def Dq (st:Px w en hk ky it a ts es ep i s.heap)(q:Q (.ref it) s):aaD .ab A (pyIter (.ref it)) Q E s:=by
 let {sl,o,t,hi,ho,S,O}:=st;have L:=oM hi;refine wpAny_pyIter_slot L jH (abF jH L pX ?_ (rf _));show aaD _ _ (ret (.ref it)) _ _ s;exact aap {_,rfl,"set_iterator",_,L,cb.lookup,q}
def A9 (Y:A.handled=ξ)(Fu:a≠it):Walks prog w A it [it,a] [it] es.size (λi v=>∃e,(cc w a ep es)[i]?=M e/\v=e.2) (Px w en hk ky it a ts es ep) where
 sub:=λb L=>by rw[aaE.mp L];exact aaO
 frame:=λi h h' cO hk=>by let {sl,o,t,h1,h2,h3}:=cO;exact{sl,o,t,hk it aaO _ h1,hk a (aaL _ aaO) _ h2,h3}
 item:=λi s Q E hi st O=>by
  have hz:(cc w a ep es).size=es.size:=by
   have:=(i7 w a ep es).length_eq;rw[aau,aau]at this;exact this
  have he:(cc w a ep es)[i]?=M (cc w a ep es)[i]:=getElem?_pos _ i .a
  exact Dr Fu st he λh' aI sb=>O _ h' s.toks {_,he,rfl} aI λb o L e=>sb.extBut b o (λz=>L (by rw[z];exact aaE.mpr rfl)) e
 done:=λs Q E st O=>by
  have hz:(cc w a ep es).size=es.size:=by
   have:=(i7 w a ep es).length_eq;rw[aau,aau]at this;exact this
  exact HM Y Fu st (ab1 .a) λh' eb=>O h' s.toks λb o L e=>eb b o (λz=>L (by rw[z];exact aaE.mpr rfl)) e
 self:=λi s Q E st O=>Dq st O
def oO (ho:s.heap.get? a=M o)(S:gI w en hk ky o ts es ep t):s.TypeIs (.ref a) "set" := {(o),ho,S.ex.1}
def Hw (ho:s.heap.get? a=M o)(S:gI w en hk ky o ts es ep t)(q:Q (.ref .e) {s with heap:=s.heap.push (tf 0 0 a es.size ep)}):
  aaD .ab A (pyIter (.ref a)) Q E s:=by
 have L:=oO ho S;refine wpAny_pyIter_slot L F.slot_set_iter (abF F.slot_set_iter L pY ?_ (F.args_set_iter_1 _));unfold acf.«frozenset.__iter__» Builtin.Frozenset.slot0 Builtin.Frozenset.sizeOf;refine aal (aal (aap (aap ?_)));refine aal (aal (wpAny_setEntries_of ho S.dat S.fits (aap ?_)));refine aal (BD S ho ?_);rw[Δ .c]
 refine aal (aap ?_);refine aal (wpAny_setEpoch_of ho S.dat S.fits ?_);unfold newFields;refine aal (abS (aap {_,rfl,"set_iterator",_,{_,aaU _ rfl,rfl},cb.lookup,?_}) (by size_fits))
 exact q
def Hz (ho:s.heap.get? a=M o)(S:gI w en hk ky o ts es ep t)(q:Q η s):aaD .ab A (ad5 (.ref a)) Q E s:=by
 have L:=oO ho S;unfold ad5;refine aal (wpAny_specialOf L PySem.F.slot_set_len.lookup ?_);generalize Zq:("set.__len__" : String)=id0
 wp_delta
 rw[show splitId id0=M ("set","__len__") from by subst Zq;decide +kernel]
 subst Zq;refine aal (adO (T:="set") (b:=G) L (by rw[isSubtype_type];kernel_rfl) ?_)
 refine wpAny_ite_split (λOd=>Κ Od .b) (λ_=>?_)
 refine wpAny_ite_split (λ_=>?_) (λOd=>Κ .g Od)
 refine aal (wpAny_typeOf L ?_);exact aap q
def HR (prog:aas)(S:gI w en hk ky o ts es ep t):
  PySem.W.KdlSrc prog w "set" a a es.size (λi v=>∃e,(cc w a ep es)[i]?=M e/\v=e.2) (λh=>h.get? a=M o) where
 type:=λs ho=>oO ho S
 there:=λh ho=>{aaw ho,aaw ho}
 keep:=λh h' ho hk=>hk a (.inl rfl) _ ho
 notList:=by decide
 notTuple:=by decide
 hint:=λA E s Q ho q=>Hz ho S q
 iter:=λA s L ho=>⟨tf 0 0 a es.size ep,Px w en hk ky .e a ts es ep,λE Q q=>Hw ho S q,A9 L (aaN (aaw ho)),
  0,o,t,aaU _ rfl,aar _ ho,S,λ_=>by
   let {b1,O,Y}:=ia S.wf.Bk 0;rcases Nat.eq_zero_or_pos (SetTable.below t.place 0)with z|z
   ·exact z
   ·have:=O 0 z;lia⟩
theorem u5 {α β:Type}{f:α->β}:∀{ts:List α} {l:List β},l.Perm (ts.map f)->∃us:List α,us.Perm ts/\l=us.map f
 |[],l,h=>{[],.refl _,List.perm_nil.mp h}
 |x::ts,l,h=>by
  let {l1,l2,rfl}:=List.append_of_mem (h.mem_iff.mpr (show f x∈(x::ts).map f from aaO))
  have h':(l1++l2).Perm (ts.map f):=(List.perm_middle.symm.trans h).cons_inv;let {us,h1,Y}:=u5 h';let {O,L,rfl,e1,e2}:=List.map_eq_append_iff.mp Y.symm;refine{O++x::L,List.perm_middle.trans (h1.cons x),?_};rw[abb,aa8,e1,e2]
def uD (ho:s.heap.get? a=M o)(S:gI w en hk ky o ts es ep t)(hn:ts.length<=1000):
  ∃us:List α,us.Perm ts/\∀(A:abf) (E:aam->aao->Prop) (R:List aam->aao->Prop),A.handled=ξ->(∀(h':Heap) (L:Nat),(∀b o,s.heap.get? b=M o->h'.get? b=M o)->R (us.map λx=>(en x).2) {s with heap:=h',toks:=L}) ->
  aaD .ab A (collect (.ref a)) R E s:=by
 have hw:=i7 w a ep es;rw[S.Hi]at hw;let {us,h1,Y}:=u5 hw;refine{us,h1,λA E R O q=>?_};refine PySem.W.kdu_collect (HR prog S) O ho (by rw[S.size.1,aa7];lia) λh' L acc hk FA=>?_
 have e:acc.toList=us.map λx=>(en x).2:=by
  have hz:(cc w a ep es).size=es.size:=by
   have:=(i7 w a ep es).length_eq;rw[aau,aau]at this;exact this
  have e2:us.map (λx=>(en x).2)=(cc w a ep es).toList.map (·.2):=by
   rw[Y,abH];rfl
  rw[e2];apply ac7;intro i;rw[aaB,aaP,aaP]
  by_cases hi:i<acc.size
  ·let {x,g1,g2}:=FA.2 i acc[i] (getElem?_pos acc i hi);rw[getElem?_pos acc i hi,g1,g2];rfl
  ·have:=FA.1;rw[ab1 .a,ab1 .a]
   rfl
 rw[e];exact q h' L hk
end
section
variable {o:Obj}{ts:List (μ×List Int)}{es:Array (Int×aam)}{t:SetTable}
def nu (w:aaG):Obj:={cls:=.type "set",dict:=ξ,data:=.set #[] 0 (.fresh 0 0 (!Gz w))}
def I_ {α β:Type}{en:α->Int×aam}{hk:α->Int}{ky:α->β}(w:aaG):gI w en hk ky (nu w) [] #[] 0 (.fresh 0 0 (!Gz w)) where
 ex:={(rfl),rfl,rfl}
 dat:=rfl
 Hi:=rfl
 wf:={rfl,rfl,λi j _ hj=>Κ hj (Nat.not_lt_zero _),λi hi=>Κ hi (Nat.not_lt_zero _),{3,aaq _,rfl},aaJ _,λi h hi=>by simp at hi}
 Uy:=by show 0*5<7*3;decide
 KN:=by show 7<=8191;decide
 led:=rfl
 O_:=rfl
 U4:=abg
def EJ (hc:aeE "set.__new__" {.type "set" :: xs,[]}=pure ())(L:xs=[]\/∃v,xs=[v])(q:R (.ref .e) {s with heap:=s.heap.push (nu w)}) :
  adg .ab A (.call (.builtin "set.__new__") {.type "set" :: xs,[]}) (wants R E) s:=by
 refine codeAny_of_tree ?_;show aaD _ A.in1 (aeE "set.__new__" {.type "set" :: xs,[]} >>= λ_=>again (.builtin "set.__new__" {.type "set" :: xs,[]})) _ _ s;refine aal (aen hc (aap {ac3 F.plain_set_new _,acw F.entry_set_new ?_}));rw[acr F.plain_set_new _];unfold acf.«set.__new__» Builtin.Frozenset.newClass;have aab:=sub_set_self;let {Y,gs,dr,O,os}:=s;rcases L with rfl|⟨v,rfl⟩
 all_goals
  dsimp only
  wp_walk
  refine aeD (aap ?_);dsimp only;simp only[newObj];exact aal (wpAny_alloc (aap (aap q)))
section
variable {α β:Type}{en:α->Int×aam}{hk:α->Int}{ky:α->β}
def EN {X:Nat->α->Prop}{J:Heap->Prop}{G:Array GenState->Array GenState->Prop}{St:Nat->aao->Prop}{R:Result->aao->Prop}
  {n:Nat} {P:Nat->aam->Prop} (W:WalksS prog w A.in1 I fp wr G n P St) (hP:∀(i:Nat) (v:aam),P i v->∃x,X i x/\v=(en x).2) (hX:∀i x y,X i x->X i y->ky x=ky y) (sa:μ) (Ze:sa∉fp)
  (hJ:∀h h':Heap,J h->(∀c oc,c∉sa::wr->h.get? c=M oc->h'.get? c=M oc)->J h')
  (add:∀(s:aao) (E:aam->aao->Prop) (Q:Bool->aao->Prop) (o:Obj) (ts:List α) (es:Array (Int×aam)) (ep:Nat) (t:SetTable) (x:α),J s.heap->s.heap.get? sa=M o->gI w en hk ky o ts es ep t->(∀y∈ts,∃m,X m y)->(∃m,X m x)->ts.length<n ->
   O4 w en hk ky sa s ts x Q->aaD .ab A.in1 (setAdd sa (en x).2) Q E s) :
  ∀(d i:Nat) (s:aao) (o:Obj) (ts:List α) (es:Array (Int×aam)) (ep:Nat) (t:SetTable),n-i=d->i<=n->St i s->J s.heap->s.heap.get? sa=M o->gI w en hk ky o ts es ep t ->
   (∀y∈ts,∃m,X m y)->(∀m x,m<i->X m x->∃y∈ts,ky y=ky x)->ts.length<=i ->
   (∀s' o' dy fN wu t',Moved (sa::wr) G s s'->s'.heap.get? sa=M o'->gI w en hk ky o' dy fN wu t'->(∀y∈dy,∃m,X m y)->(∀m x,m<n->X m x->∃y∈dy,ky y=ky x)->dy.length<=n->R (.ok (.ret .none)) s') ->
   adg .ab A (.builtin "set.update.loop" {[.ref sa,.ref I],[]}) R s:=by
 have xg:sa∉wr:=λz=>Ze (W.sub _ z);have up:∀x∈wr,x∈sa::wr:=λx L=>aaL _ L;intro d
 induction d with
 |zero =>
  intro i s o ts es ep t hd hi st T ho S k1 k2 k3 hR;obtain rfl:i=n:=by lia
  refine acw F.entry_set_update_loop ?_;rw[acr F.plain_set_update_loop _];show aaD _ A.in1 (acv (.ref I) >>= _) _ _ s;refine aal (W.done s _ _ st λs' mv=>?_);exact aap (hR s' o ts es ep t (mv.mono up) (mv.heap sa _ xg ho) S k1 k2 k3)
 |succ d ih =>
  intro i s o ts es ep t hd hi st T ho S k1 k2 k3 hR;refine acw F.entry_set_update_loop ?_;rw[acr F.plain_set_update_loop _];show aaD _ A.in1 (acv (.ref I) >>= _) _ _ s;refine aal (W.item i s _ _ .a st λv s1 hv P4 mv=>?_)
  let {x,L,rfl}:=hP i v hv;refine aal (abl (add s1 _ _ o ts es ep t x (hJ _ _ T λc oc hc e=>mv.heap c oc (λz=>hc (up c z)) e) (mv.heap sa _ xg ho) S k1 {(i),L} .a λh' o' dy fN wu t' added tk r0 r1 r2 r3 r4 r5=>?_))
  have keep:∀c oc,c≠sa->s1.heap.get? c=M oc->h'.get? c=M oc:=λc oc hc e=>by rw[r1.2 c hc];exact e
  have step:(∀y∈dy,∃m,X m y)/\(∀m z,m<i+1->X m z->∃y∈dy,ky y=ky z)/\dy.length<=i+1:=by
   by_cases O:∃y∈ts,ky y=ky x
   ·rw[r4 O];refine{k1,λm z hm hz=>?_,.a}
    rcases abG m i with q|q
    ·exact k2 m z q hz
    ·obtain rfl:m=i:=by lia
     rw[hX m z x hz L];exact O
   ·have pm:=r5 λy Y e=>O {(y),Y,e};refine{λy Y=>?_,λm z hm hz=>?_,by rw[pm.length_eq,aaS];lia}
    ·rcases aat.mp (pm.mem_iff.mp Y)with rfl|q
     ·exact{(i),L}
     ·exact k1 y q
    ·rcases abG m i with q|q
     ·let {u,hu,e}:=k2 m z q hz;exact{u,pm.mem_iff.mpr (aaL _ hu),e}
     ·obtain rfl:m=i:=by lia
      exact{x,pm.mem_iff.mpr aaO,hX m x z L hz}
  have Y5:Moved (sa::wr) G s {s1 with heap:=h',toks:=tk} :=
   (mv.mono up).then_heap r0 λc oc hc e=>keep c oc (λz=>hc (by rw[z];exact aaO)) e
  exact aap {ac3 F.plain_set_update_loop _,ih (i+1) _ o' dy fN wu t' .a .a (W.frame _ s1 _ _ P4 r0 λc hc oc e=>keep c oc (λz=>Ze (by rw[<- z];exact hc)) e) (hJ _ _ T λc oc hc e=>Y5.heap c oc hc e) r2 r3 step.1 step.2.1 step.2.2 λs' o2 Z_ Yc ep2 t2 m1=>hR s' o2 Z_ Yc ep2 t2 (Moved.trans W.gtrans Y5 m1)}
end
end
def Ci {α β:Type}{en:α->Int×aam}{hk:α->Int}{ky:α->β}{X:Nat->α->Prop}{Q:aam->aao->Prop}(hh:A.handled=ξ)(hl:s.heap.IsList l its)
  (hP:∀(i:Nat) (v:aam),its[i]?=M v->∃x,X i x/\v=(en x).2) (hX:∀i x y,X i x->X i y->ky x=ky y)
  (add:∀(B:abf) (s1:aao) (E:aam->aao->Prop) (Q:Bool->aao->Prop) (a:μ) (o:Obj) (ts:List α) (es:Array (Int×aam)) (ep:Nat) (t:SetTable) (x:α),B.units<=A.units+3->(∀c oc,s.heap.get? c=M oc->s1.heap.get? c=M oc)->s1.heap.get? a=M o->gI w en hk ky o ts es ep t->(∀y∈ts,∃m,X m y)->(∃m,X m x)->ts.length<its.size ->
   O4 w en hk ky a s1 ts x Q->aaD .ab B (setAdd a (en x).2) Q E s1)
  (q:∀(h':Heap) (tk:Nat) (o':Obj) (ts:List α) (es:Array (Int×aam)) (ep:Nat) (t:SetTable),(∀c oc,s.heap.get? c=M oc->h'.get? c=M oc)->h'.get? .e=M o'->gI w en hk ky o' ts es ep t ->
   (∀y∈ts,∃m,X m y)->(∀m x,m<its.size->X m x->∃y∈ts,ky y=ky x)->ts.length<=its.size->Q (.ref .e) {s with heap:=h',toks:=tk}) :
  aaD .ab A (call (.type "set") [.ref l]) Q E s:=by
 let {cx,tlx,aad}:=F.called_set.mro;have Y6:=F.called_set.made;have aaa:=F.called_set.sub;refine ad8 (codeAny_of_tree ?_);show aaD _ _ (callAny (.type "set") _) _ _ _;refine aap {Code.quiet_builtin _ .g,acw F.entry_type_call ?_}
 rw[Around.under_plain (weight_type_call_type "set" [.ref l] []) rfl];have t1:=F.called_set.notType;have t2:=F.called_set.canCreate;have t3:=F.typeCall_set_1 (.ref l)
 repeat (any_goals (first|assumption|wp_step))
 have ls:l<.e:=by let {ol,Xb,_x}:=hl;exact aaw Xb
 refine acy (EJ (w:=w) (E:=E) (xs:=[.ref l]) (R:=λob sx=>ob=.ref .e/\sx={s with heap:=s.heap.push (nu w)}) (F.newCall_set_1 _) (.inr {_,rfl}) {(rfl),rfl}) λr sx Y=>?_
 cases r with
 |error e=>exact Y
 |ok fl =>
  cases fl with
  |ret ob =>
   let {rfl,rfl}:=Y;have hS:(s.heap.push (nu w)).get? .e=M (nu w):=aaU _ rfl;have hT:Shared.TypeIs {s with heap:=s.heap.push (nu w)} (.ref .e) "set" := {_,hS,rfl}
   have i1:=F.called_set.init.lookup;have i2:=F.called_set.init.bind (.ref .e)
   repeat (any_goals (first|assumption|wp_step))
   refine acy (codeAny_call_builtin (R:=wants (λr s2=>r=.none/\Q (.ref .e) s2) E) F.called_set.init.plain F.entry_set_init (check_set_init_1 hT ?_)) λr2 s2 Aa=>?_
   ·let {ol,Xb,Hf,nl,Zv}:=hl;let {c1,c2,c3,c4}:=ol;simp only at Hf Zv;subst Hf Zv;have Xa:(s.heap.push (nu w)).get? l=M {cls:=.type "list",dict:=c2,data:=.seq its nl,slots:=c4}:=aar _ Xb;have u1:=F.sub_list_set;have u2:=F.sub_list_frozenset;have u3:(ad_ "list" == ad_ "dict")=η:=by decide
    have RC:(s.heap.push (nu w)).IsList l its:={_,Xa,rfl,nl,rfl};unfold acf.«set.__init__» noKeywords Builtin.Frozenset.updateFrom;generalize hPI:pyIter=PI
    wp_walk
    subst hPI;refine ael RC ?_;refine aal (wpAny_runValue ?_);have O:A.in1.in1.in1.handled=ξ:=by simp[hh]
    have nI:l≠(s.heap.push (nu w)).objs.size:=by rw[aed];exact aaN (acH ls)
    have hf:.e∉[(s.heap.push (nu w)).objs.size,l]:=by
     rw[aed];simp only[aat,aaQ,or_false,not_or];exact{aaN (aeF _),acp ls}
    have nw:∀c oc,s.heap.get? c=M oc->c∉.e::[(s.heap.push (nu w)).objs.size]:=λc oc e z=>by
     have hc:=aaw e;rcases aat.mp z with z|z
     ·exact Κ z (aaN hc)
     ·have z:=aaE.mp z;rw[aed]at z;exact Κ z (aaN (acH hc))
    refine EN (J:=λh=>∀c oc,s.heap.get? c=M oc->h.get? c=M oc) ((Walks.list O _ l nI _).toS) hP hX .e hf (λh h' k kp c oc e=>kp c oc (nw c oc e) (k c oc e)) (λs1 E Q o ts es ep t x=>add _ s1 E Q .e o ts es ep t x (aaq _)) its.size 0 _ (nu w) [] #[] 0 _ rfl (aaJ _) {{_,aaU _ rfl,rfl,rfl},RC.push _} (λc oc e=>aar _ (aar _ e)) (aar _ hS) (I_ w) (λx hx=>by cases hx) (λm x hm=>by lia) (aaJ _) λs' o' dy fN wu t' L m2 m3 m4 m5 m6=>?_
    let {h',g',d',LG,UY}:=s';have eg:g'=s.gens:=L.gens;have ed:d'=s.drawn:=L.drawn;have eo:UY=s.os:=L.os;subst eg ed eo;exact aap (aap {rfl,q h' LG o' dy fN wu t' (λc oc e=>L.heap c oc (nw c oc e) (aar _ (aar _ e))) m2 m3 m4 m5 m6})
   ·cases r2 with
    |error e=>exact Aa
    |ok fl2 =>
     cases fl2 with
     |ret r =>
      let {rfl,hq}:=Aa
      repeat (any_goals (first|assumption|wp_step))
     |_=>exact Aa.elim
  |_=>exact Y.elim
def Cg (hh:A.handled=ξ)(hu:A.units+16<adx)(hl:s.heap.IsList l (vs.map λx=>Ω x.1).toArray)(hn:vs.length<1000)(T:OX prog w s.heap vs)
  (q:∀(h':Heap) (O:Nat) (o':Obj) (ts:List (μ×List Int)) (es:Array (Int×aam)) (ep:Nat) (t:SetTable),(∀c oc,s.heap.get? c=M oc->h'.get? c=M oc)->h'.get? .e=M o'->qo prog w o' ts es ep t ->
   (∀x∈ts,x∈vs)->(∀x∈vs,∃y∈ts,y.2=x.2)->Q (.ref .e) {s with heap:=h',toks:=O}) :
  aaD .ab A (call (.type "set") [.ref l]) Q E s:=by
 refine Ci (en:=ent prog w) (hk:=λx=>kH prog w x.2) (ky:=λx=>x.2) (X:=λi x=>vs[i]?=M x) hh hl (λi v hv=>?_) (λi x y h1 h2=>by rw[aaZ (h1.symm.trans h2)]) (λB s1 E Q a o ts es ep t x hB kp ho S h1 h2 h3 q=>?_) λh' O o' ts es ep t k m2 m3 m4 m5 m6=>?_
 ·rw[adN,aaB]at hv;let {x,e1,e2}:=aaK.mp hv;exact{(x),e1,e2.symm}
 ·have old:∀y,(∃m:Nat,vs[m]?=M y)->(TK prog w).is s1.heap y.2 y.1:=λy h=>by
   let {m,L}:=h;let {oy,its,n,g1,g2}:=T y (aaY L);exact{oy,its,n,kp _ _ g1,g2}
  exact Lx ho S (λy hy=>old y (h1 y hy)) (old x h2) .a (by simp at h3;lia) q
 ·refine q h' O o' ts es ep t k m2 m3 (λx Y=>?_) λx Y=>?_
  ·let {m,L}:=m4 x Y;exact aaY L
  ·let {m,L}:=adU Y;exact m5 m x (by simpa using (aay.mp L).1) L
end ST
namespace TS
open PySem PyProof.Rows
def oH (hz:vs.length<=1000000)
  (col:∀(R:List aam->aao->Prop),(∀(h':Heap) (L:Nat),(∀b o,s.heap.get? b=M o->h'.get? b=M o)->R vs {s with heap:=h',toks:=L})->aaD .ab A.in1 (collect x) R E s)
  (T:rg s.heap kf .e vs)
  (h:∀(out:List aam) (O h':Heap) (L:Nat) (n:Nat),out.Perm vs->(vs.length<64->out.Pairwise λx y=>HT.lexLt (kf y) (kf x)=η)->(∀b o,s.heap.get? b=M o->O.get? b=M o)->(∀b o,O.get? b=M o->h'.get? b=M o)->h'.get? O.objs.size=M (acP "list" out.toArray n)->Q (.ref O.objs.size) {s with heap:=h',toks:=L}) :
  aaD .ab A (call (.builtin "sorted") [x]) Q E s:=by
 refine aei kind_sorted plain_sorted entry_sorted (args_sorted1 _) ?_;unfold acf.«sorted»
 refine aal (m:=checkCount "sorted" 1 1 _) (aap ?_);refine aal (col _ λh' L kp=>?_);have nl:vs.length<=aaC:=by rw[aa7];lia
 refine aal (wpAny_newList ?_ nl);have Y:(h'.push (acP "list" vs.toArray 0)).get? h'.objs.size=M (acP "list" vs.toArray 0):=aaU _ rfl;have T':rg (h'.push (acP "list" vs.toArray 0)) kf h'.objs.size vs:=λv hv=>by
  let {t,o,xs,k,e1,_x,e3,r}:=T v hv;exact{t,o,xs,k,e1,aaN (aaw (kp _ _ e3)),aar _ (kp _ _ e3),r}
 refine aal (abl (abF slot_list_sort {_,Y,rfl} entry_list_sort (pC (s:={s with heap:=h'.push (acP "list" vs.toArray 0),toks:=L}) Y hz T' λout hp hs=>{_,rfl,?_}) (args_list_sort _)))
 let {n,hn}:=sortedHeap_at (out:=out.toArray) Y;refine aap {_,rfl,h out h' _ L n hp hs kp (λb o e=>?_) hn};have hb:=aaw e;rw[sortedHeap_old (aaN hb) (by rw[size_push'];exact acH hb)]
 exact aar _ e
end TS
namespace L2
open PySem PySem.Spec PySem.SeqAt PyProof.Rows HT
theorem g9:∀{a b:List Int},lexLt a b=η->lexLt b a=η->a=b
 |[],[],_,_=>rfl
 |[],_::_,h,_=>by cases h
 |_::_,[],_,h=>by cases h
 |x::xs,y::ys,O,L=>by
  rw[jU]at O L
  by_cases e:x=y
  ·subst e;rw[ω rfl]at O L;rw[g9 O L]
  ·rw[Δ e]at O;rw[Δ (λz=>e z.symm)]at L;have:=of_decide_eq_false O;have:=of_decide_eq_false L;omega
theorem jV:∀{a b:List Int},lexLt a b=G->lexLt b a=η
 |[],[],h=>by cases h
 |[],_::_,_=>rfl
 |_::_,[],h=>by cases h
 |x::xs,y::ys,h=>by
  rw[jU]at h ⊢
  by_cases e:x=y
  ·subst e;rw[ω rfl]at h ⊢
   exact jV h
  ·rw[Δ e]at h;rw[Δ (λz=>e z.symm)];have:=of_decide_eq_true h;exact Φ .a
theorem iT:∀{a b c:List Int},lexLt a b=G->lexLt b c=G->lexLt a c=G
 |[],[],_,h,_=>by cases h
 |[],_::_,[],_,h=>by cases h
 |[],_::_,_::_,_,_=>rfl
 |_::_,[],_,h,_=>by cases h
 |x::xs,y::ys,[],_,h=>by cases h
 |x::xs,y::ys,z::zs,O,L=>by
  rw[jU]at O L ⊢
  by_cases e:x=y
  ·subst e;rw[ω rfl]at O
   by_cases Y:x=z
   ·subst Y;rw[ω rfl]at L ⊢
    exact iT O L
   ·rw[Δ Y]at L ⊢
    exact L
  ·rw[Δ e]at O;have q1:=of_decide_eq_true O
   by_cases Y:y=z
   ·subst Y;rw[Δ e];exact O
   ·rw[Δ Y]at L;have q2:=of_decide_eq_true L;rw[Δ .h]
    exact Ξ .h
def yq (k:List Int):List .ae->List .ae
 |[]=>[k]
 |x::xs=>if lexLt x k=G then x::yq k xs else k::x::xs
def jC:List .ae->List .ae
 |[]=>[]
 |k::ks=>yq k (jC ks)
theorem mq (k:List Int):∀xs,(yq k xs).Perm (k::xs)
 |[]=>.refl _
 |x::xs=>by
  unfold yq
  split
  ·exact((mq k xs).cons x).trans (List.Perm.swap _ _ _)
  ·exact .refl _
theorem cz:∀ks,(jC ks).Perm ks
 |[]=>.refl _
 |k::ks=>(mq k (jC ks)).trans ((cz ks).cons k)
abbrev yW (ks:List .ae):Prop:=ks.Pairwise λx y=>HT.lexLt y x=η
def le_trans' {a b c:List Int}(Y:lexLt b a=η)(L:lexLt c b=η):lexLt c a=η:=by
 cases h:lexLt c a with
 |false=>rfl
 |true =>
  cases O:lexLt a b with
  |true=>rw[iT h O]at L;cases L
  |false =>
   have:=g9 O Y;subst this;rw[h]at L;cases L
theorem rY (k:List Int):∀xs,yW xs->yW (yq k xs)
 |[],_=>by simp[yq]
 |x::xs,h=>by
  let {Y,h2}:=adv.mp h;unfold yq
  split
  ·rename_i O
   refine adv.mpr {λy L=>?_,rY k xs h2};rcases aat.mp ((mq k xs).mem_iff.mp L)with rfl|L
   ·exact jV O
   ·exact Y y L
  ·rename_i O
   have yt:lexLt x k=η:=by cases q:lexLt x k <;> simp_all
   refine adv.mpr {λy L=>?_,h};rcases aat.mp L with rfl|L
   ·exact yt
   ·exact le_trans' yt (Y y L)
theorem oF:∀ks,yW (jC ks)
 |[]=>.nil
 |k::ks=>rY k _ (oF ks)
theorem mQ:∀{a b:List .ae},a.Perm b->yW a->yW b->a=b
 |[],b,p,_,_=>by rw[List.nil_perm.mp p]
 |x::a,[],p,_,_=>by have:=p.length_eq;simp at this
 |x::a,y::b,p,Y,O=>by
  let {a1,a2}:=adv.mp Y;let {b1,b2}:=adv.mp O;have L:x=y:=by
   rcases aat.mp (p.mem_iff.mp (aaO (a:=x) (l:=a)))with h|h
   ·exact h
   ·rcases aat.mp (p.mem_iff.mpr (aaO (a:=y) (l:=b)))with h' | h'
    ·exact h'.symm
    ·exact g9 (b1 x h) (a1 y h')
  subst L;rw[mQ (List.perm_cons x |>.mp p) a2 b2]
def xC {a b:List .ae}(p:a.Perm b)(h:yW a):a=jC b:=mQ (p.trans (cz b).symm) h (oF b)
def pZ:List .ae->List .ae
 |[]=>[]
 |k::ks=>if k∈pZ ks then pZ ks else k::pZ ks
theorem fH:∀l:List .ae,(pZ l).Nodup/\∀x,x∈pZ l↔x∈l
 |[]=>{abg,λ_=>Iff.rfl}
 |k::ks=>by
  let {O,L}:=fH ks;unfold pZ
  split
  ·rename_i h
   refine{O,λx=>?_};rw[L x,aat];exact{.inr,λz=>z.elim (λe=>by rw[e];exact(L k).mp h) id}
  ·rename_i h
   refine{aaX.mpr {(h),O},λx=>?_};rw[aat,aat,L x]
theorem Aw:∀l:List .ae,(pZ l).length<=l.length
 |[]=>aaq _
 |k::ks=>by
  have:=Aw ks;unfold pZ
  split
  ·exact Nat.le_succ_of_le this
  ·simpa using this
abbrev kD (k:List Int):D:=.tup (k.map D.int)
def fW:List D->Option (List .ae)
 |[]=>M []
 |.tup a::ds=>match cu a,fW ds with
  |some k,M ks=>if k=[] then ξ else M (k::ks)
  |_,_=>ξ
 |_::_=>ξ
theorem pG:∀{ds:List D} {ks:List .ae},fW ds=M ks->ds=ks.map kD/\∀k∈ks,k≠[]
 |[],_,h=>by cases h;exact{rfl,λ_ z=>nomatch z}
 |.tup a::ds,ks,h=>by
  have h':(match cu a,fW ds with|some k,M ks=>if k=[] then ξ else M (k::ks)|_,_=>ξ)=M ks:=h
  cases L:cu a with
  |none=>rw[L]at h';cases h'
  |some k =>
   cases Y:fW ds with
   |none=>rw[L,Y]at h';cases h'
   |some kr =>
    rw[L,Y]at h'
    by_cases hk:k=[]
    ·simp[hk]at h'
    ·simp only[hk,if_false,aeq]at h';subst h';let {h1,h2}:=pG Y;rw[aa8,<- h1,lg L];refine{rfl,λx O=>?_};rcases aat.mp O with rfl|O
     ·exact hk
     ·exact h2 x O
 |.cI::_,_,h=>by cases h
 |.bl _::_,_,h=>by cases h
 |.str _::_,_,h=>by cases h
 |.obj _::_,_,h=>by cases h
 |.int _::_,_,h=>by cases h
 |.lst _::_,_,h=>by cases h
 |.dT _ _::_,_,h=>by cases h
 |.dK _ _::_,_,h=>by cases h
 |.sT _::_,_,h=>by cases h
 |.ob _::_,_,h=>by cases h
theorem mh:∀{ks:List .ae},(∀k∈ks,k≠[])->fW (ks.map kD)=M ks
 |[],_=>rfl
 |k::ks,h=>by
  show (match cu (k.map D.int),fW (ks.map kD)with|some k,M ks=>if k=[] then ξ else M (k::ks)|_,_=>ξ)=_
  rw[jo,mh λx L=>h x (aaL _ L)];simp[h k (aaO ..)]
theorem mf:∀{ks:List .ae} {vs:List V},(∀k∈ks,k≠[])->aj P w W H (ks.map kD) vs->∃ts:List (μ×List Int),vs=ts.map qH/\yV H ts/\ts.map (·.2)=ks
 |[],_,_,h=>{[],h,(λ_ z=>nomatch z),rfl}
 |k::ks,_,hk,mx=>by
  obtain⟨v,r,e,⟨a,us,e1,O,e3⟩,h2⟩:=mx;let {ts,q1,q2,Y}:=mf (λx hx=>hk x (aaL _ hx)) h2;refine{(a,k)::ts,by rw[e,e1,q1];rfl,λt L=>?_,by rw[aa8,Y]}
  rcases aat.mp L with rfl|L
  ·rw[cL e3]at O;exact{O,hk k (aaO ..)}
  ·exact q2 t L
theorem gq:∀{ts:List (μ×List Int)},(∀t∈ts,H t.1=M (.tup (t.2.map V.int)))->aj P w W H ((ts.map (·.2)).map kD) (ts.map qH)
 |[],_=>rfl
 |t::ts,h=>{_,_,rfl,{t.1,_,rfl,h t (aaO ..),rX t.2},gq λx L=>h x (aaL _ L)}
def ub:List D->Option D
 |[.lst ds]=>match fW ds with
  |some ks=>if ks.length<64 then M (.lst ((jC ks).map kD)) else ξ
  |none=>ξ
 |[.sT ts]=>if ts.length<64/\(∀k∈ts,k≠[]) then M (.lst ((jC ts).map kD)) else ξ
 |_=>ξ
theorem E_:∀{ns:List Int} {its:List aam},Vals (ns.map V.int) its->ItemsAre (intKind P w) ns its
 |[],_,.nil=>.nil
 |n::ns,_,.cons r t=>by
  let {L,rfl}:=r;exact .cons (by show Value.isInt n (.int n L)=G;simp[Value.isInt]) (E_ t)
def LF (ok:iq P w H h)(T:∀t∈ts,H t.1=M (.tup (t.2.map V.int))):ST.OX P w h ts:=λt L=>by
 let {O,its,r,o,ho,hc,n,hd}:=(show bY P w H h t.1 (.tup (t.2.map V.int)) from ok _ _ (T t L))
 refine{o,its.toArray,n,ho,hc,hd,?_};exact E_ r
def K9:List D->Option D
 |[.lst ds]=>match fW ds with
  |some ks=>if ks.length<1000 then M (.sT (pZ ks)) else ξ
  |none=>ξ
 |_=>ξ
def Cn {X:Cx}(hc:X.calm=G)(hu:X.A.units+16<adx):bH X (.type "set") K9:=by
 intro χ s σ H xs us Q I r h;let {W,ds,d,hd,r1,e,q}:=h
 match ds,e with
 |[.lst es],e =>
  have O:(match fW es with|some ks=>if ks.length<1000 then M (D.sT (pZ ks)) else ξ|none=>ξ)=M d:=e
  cases Y:fW es with
  |none=>rw[Y]at O;cases O
  |some ks =>
   rw[Y]at O;let {hl,rfl}:=dG O;let {rfl,hk}:=pG Y;let {x,rfl,p,vs,rfl,hp,n1,q1}:=gH r1;let {ts,rfl,T,rfl}:=mf hk q1;let {u,rfl,rx}:=vals1 r;cases rx;let {its,r',pl,hz}:=I.list (dw.of hp);obtain rfl:=lO r';refine ST.Cg (w:=X.w) (I.ok.hd hc) hu pl.isList (by simpa using hl) (LF I.bh λt ht=>(T t ht).1) λh' tk o' dy es ep t kp ho S m1 m2=>?_
   have Fz:H .e=ξ:=I.bh.fresh (aaq _);have nd:=fH (ts.map (·.2));refine{.ref .e,_,I.laid (t':=tk) (o:=Kn X.prog X.w .e dy) kp (aaq _) ?_,rfl,q _ _ (ay.new Fz) {_,rfl,{dy,az,λx L=>?_,?_},zO hd Fz}}
   ·refine{{(o'),es,ep,t,ho,S},{(o'),ho},λh1 h2 lj k=>by let {o1,e1,ep1,t1,g1,g2}:=lj;exact{o1,e1,ep1,t1,k _ g1,g2}}
   ·exact(ay.new Fz) _ _ (T x (m1 x L)).1
   ·refine(List.perm_ext_iff_of_nodup S.U4 nd.1).mpr λk=>?_;rw[nd.2 k,abe,abe];constructor
    ·rintro⟨x,L,rfl⟩;exact{x,m1 x L,rfl}
    ·rintro⟨x,L,rfl⟩;let {y,hy,e}:=m2 x L;exact{(y),hy,e}
def bu:FD:=λds R=>∃n:Int,ds=[.int n]/\0<n/\n<2 ^ 200/\∀r:Int,0<=r->r<n->R (.int r)
def bu.mono:cH bu:=λds R R' k cO=>by let {n,e,O,L,q}:=cO;exact{n,e,O,L,λr a b=>k _ (q r a b)}
def vi {p:μ}{vs:List V}{ds:List D}(n:H p=ξ)(f:NL (.lst ds))(r:jO X W H ds vs):Rp X (λa=>H a≠ξ) (upd H p (.lst vs)) (.lst ds) (.ref p) :=
 {p,vs,rfl,az,λz=>z n,aj.flat f (r.same (ay.new n))}
def UE (X:Cx)(f:D->D->Option D):R2:=λx y H Q=>∃W O L d,Dm W H/\Rp X W H O x/\Rp X W H L y/\f O L=M d/\∀v H',ay H H'->Rp X W H' d v->(NL d->Rp X (λa=>H a≠ξ) H' d v)->Q v H'
def UD (X:Cx)(f:List D->Option D):List V->Hp->VK->Prop:=λxs H Q=>∃W ds d,Dm W H/\jO X W H ds xs/\f ds=M d/\∀v H',ay H H'->Rp X W H' d v->(NL d->Rp X (λa=>H a≠ξ) H' d v)->Q v H'
def Qi (X:Cx)(f:D->Option Int->Option Int->Option D):V->Option Int->Option Int->Hp->VK->Prop:=λx lo hi H Q=>∃W L d,Dm W H/\Rp X W H L x/\f L lo hi=M d/\∀v H',ay H H'->Rp X W H' d v->(NL d->Rp X (λa=>H a≠ξ) H' d v)->Q v H'
abbrev SG (X:Cx)(f:aam->aam->Sem aam)(g:D->D->Option D):Prop:=j_ X f (UE X g)
abbrev za (X:Cx)(f:aam)(g:List D->Option D):Prop:=gJ X f (UD X g)
def ar:SG X (acz .Add) Cc:=by
 intro χ s σ H x y v u Q I rx Y h;let {W,d1,d2,d,hd,r1,r2,e,q}:=h;rcases BI e with⟨a,b,rfl,rfl,e⟩|e
 ·let {hl,rfl}:=dG e;let {p,vs,rfl,h1,n1,O}:=r1;let {p',vs',rfl,h2,n2,L}:=r2;exact Es χ s σ H _ _ v u Q I rx Y {p,p',vs,vs',rfl,rfl,h1,h2,by rw[O.length,L.length];exact hl,λl vE=>q _ _ (ay.new vE) (Rp.iS hd vE (O.append L)) λf=>vi vE f (O.append L)}
 ·let {i,j,rfl,rfl,e}:=mn e;cases e;cases r1;cases r2;exact tO χ s σ H _ _ v u Q I rx Y {i,j,rfl,rfl,q _ _ .aG rfl λ_=>rfl}
def zh:TM X (Qi X Hj):=by
 intro χ s σ H x v vl vu lo hi sl Q I rx hs pl pu h;let {W,d1,d,hd,r1,e,q}:=h;cases d1 with
 |lst ds =>
  cases e;let {p,vs,rfl,h1,n1,Y}:=r1;have O:jO X W H (cutD ds lo hi) (wG vs lo hi):=by
   unfold wG cutD;rw[Y.length];exact(aj.drop _ Y).take _
  exact zg χ s σ H _ v vl vu lo hi sl Q I rx hs pl pu {p,vs,rfl,dw.of h1,λl L=>q _ _ (ay.new L) (Rp.iS hd L O) λf=>vi L f O}
 |_=>cases e
def i6:za X (.type "list") dList:=by
 intro χ s σ H xs us Q I r h;let {W,ds,d,hd,r1,e,q}:=h
 match ds,e with
 |[.lst es],e =>
  cases e;obtain⟨v,r',rfl,⟨p,vs,rfl,h1,n1,O⟩,Y⟩:=r1;cases Y;exact lH χ s σ H _ us Q I r {p,vs,rfl,.inl (dw.of h1),λl L=>q _ _ (ay.new L) (Rp.iS hd L O) λf=>vi L f O}
 |[.tup es],e =>
  cases e;obtain⟨v,r',rfl,⟨p,vs,rfl,h1,O⟩,Y⟩:=r1;cases Y;exact lH χ s σ H _ us Q I r {p,vs,rfl,.inr (uw.of h1),λl L=>q _ _ (ay.new L) (Rp.iS hd L O) λf=>vi L f O}
def fc:za X (.builtin "sorted") (λds=>match ds with | [.lst ds]=>ub [.lst ds]|_=>ξ):=by
 intro χ s σ H xs us Q I r h;let {W,ds,d,hd,r1,e,q}:=h
 match ds,e with
 |[.lst es],e =>
  have L:(match fW es with|some ks=>if ks.length<64 then M (D.lst ((jC ks).map kD)) else ξ|none=>ξ)=M d:=e
  cases Y:fW es with
  |none=>rw[Y]at L;cases L
  |some ks =>
   rw[Y]at L;let {O,rfl}:=dG L;let {rfl,hk}:=pG Y;let {x,rfl,p,vs,rfl,hp,n1,q1}:=gH r1;let {ts,rfl,T,rfl}:=mf hk q1;refine ug χ s σ H _ us Q I r {p,ts,rfl,dw.of hp,T,by rw[aan]at O;lia,λl dy vE Zg hpw=>?_}
   have eq:dy.map (·.2)=jC (ts.map (·.2)):=xC (Zg.map _) (acu.mpr (hpw (by rw[aan]at O;exact O)))
   rw[<- eq]at q;have rk:=gq (P:=X.prog) (w:=X.w) (W:=W) (H:=H) (ts:=dy) λt ht=>(T t (Zg.mem_iff.mp ht)).1;exact q _ _ (ay.new vE) (Rp.iS hd vE rk) λf=>vi vE f rk
def uh (hc:X.calm=G):za X (.builtin "sorted") (λds=>match ds with | [.sT ts]=>ub [.sT ts]|_=>ξ):=by
 intro χ s σ H xs us Q I r h;let {W,ds,d,hd,r1,e,q}:=h
 match ds,e with
 |[.sT ks],e =>
  obtain⟨⟨hl,hk⟩,rfl⟩:=dG (show (if ks.length<64/\(∀k∈ks,k≠[]) then M (D.lst ((jC ks).map kD)) else ξ)=M d from e)
  obtain⟨x,rfl,p,rfl,⟨ts,hp,T,pm⟩,nW⟩:=gH r1;let {u,rfl,rx}:=vals1 r;cases rx;obtain⟨⟨o,es,ep,t,ho,S⟩,_,_⟩:=(show bY X.prog X.w H s.heap p (Kn X.prog X.w p ts) from I.bh p _ hp)
  have tl:ts.length=ks.length:=by rw[<- pm.length_eq,aan]
  have T':yV H ts:=λt L=>{T t L,hk _ (pm.mem_iff.mp (abe.mpr {(t),L,rfl}))};let {us,Nk,col}:=ST.uD (s:=s) ho S .h
  have O:yV H us:=λt L=>T' t (Nk.mem_iff.mp L);refine TS.oH (vs:=us.map λx=>Ω x.1) (kf:=vy H) (by rw[aan,Nk.length_eq];omega) (λR hR=>col _ _ R (by simp[I.ok.hd hc]) λh' Y kp=>hR h' Y kp) (sU I.bh O (aaq _)) λout h1 h' Y n Jy hs k1 kp BZ=>?_
  ·let {e1,e2}:=l6 O Jy;have zl:out.length=us.length:=by rw[Jy.length_eq,aan]
   have eq:(out.map (B5 H)).map (·.2)=jC ks:=by
    refine xC ((e2.trans Nk).map _ |>.trans pm) ?_
    refine acu.mpr (acu.mpr ?_);refine(hs (by rw[aan,Nk.length_eq];omega)).imp_of_mem λ{x y} hx hy hh=>?_
    let {t,L,rfl}:=abe.mp (Jy.mem_iff.mp hx);let {t',V5,rfl}:=abe.mp (Jy.mem_iff.mp hy);exact hh
   have I1:Inv X χ σ H {s with heap:=h1,toks:=s.toks}:=I.kept k1
   have Fz:H h1.objs.size=ξ:=I1.bh.fresh (aaq _);refine{.ref h1.objs.size,_,I1.laid (t':=Y) (o:=.lst ((out.map (B5 H)).map qH)) kp (aaq _) ?_,rfl,q _ _ (ay.new Fz) ?_ ?_}
   ·refine{by rw[aan,aan,zl,Nk.length_eq,aa7];omega,out,n,?_,BZ}
    have:=ji (out.map (B5 H));rw[<- e1]at this;exact this
   ·rw[<- eq];exact Rp.iS hd Fz (gq λt L=>(O t (e2.mem_iff.mp L)).1)
   ·rw[<- eq];exact λf=>vi (W:=W) Fz f (gq λt L=>(O t (e2.mem_iff.mp L)).1)
end L2
section
open PySem PySem.Spec PySem.SeqAt PyProof.Rows
namespace L2.Q
section
variable (P:aas)(w:aaG)(H:Hp)
mutual
def Own:D->V->List μ->Prop
 |.tup ds,v,A=>∃a vs,v=.ref a/\H a=M (.tup vs)/\aR ds vs A
 |.lst ds,v,A=>∃a vs A',v=.ref a/\H a=M (.lst vs)/\A=a::A'/\aR ds vs A'
 |.dT ks ds,v,A=>∃a vs A',v=.ref a/\H a=M (.dT (ks.zip vs))/\ks.length=vs.length/\A=a::A'/\aR ds vs A'
 |.dK ks ds,v,A=>∃a vs A',v=.ref a/\H a=M (.dK (ks.zip vs))/\ks.length=vs.length/\A=a::A'/\aR ds vs A'
 |.sT ts,v,A=>∃a,v=.ref a/\Km P w H a ts/\A=[a]
 |.ob φ,v,A=>∃a,v=.ref a/\(H a=M (φ a)/\∀xs,φ a≠.tup xs)/\A=[a]
 |.cI,v,A=>v=.cI/\A=[]
 |.bl b,v,A=>v=.bl b/\A=[]
 |.int i,v,A=>v=.int i/\A=[]
 |.str x,v,A=>v=.str x/\A=[]
 |.obj a,v,A=>v=.ref a/\A=[]
def aR:List D->List V->List μ->Prop
 |[],vs,A=>vs=[]/\A=[]
 |d::ds,vs,A=>∃v r O L,vs=v::r/\A=O++L/\Own d v O/\aR ds r L
end
end
def Ba {a:μ}{ts:List .ae}(k:∀b xs,H b=M (.tup xs)->H' b=M (.tup xs))(O:∀o,H a=M o->H' a=M o)(h:Km P w H a ts):Km P w H' a ts :=
 let ⟨dy,e,r,z⟩:=h;{dy,O _ e,λx L=>k _ _ (r x L),z}
mutual
theorem Own.keep (k:∀b xs,H b=M (.tup xs)->H' b=M (.tup xs)):∀{d:D} {v:V} {A:List μ},(∀c∈A,∀o,H c=M o->H' c=M o)->Own P w H d v A->Own P w H' d v A
 |.tup ds,_,_,L,mx=>by let {a,vs,e,t,r}:=mx;exact{a,vs,e,k a vs t,aR.keep k L r}
 |.lst ds,_,_,L,Ff=>by let {a,vs,A',e,t,eA,r}:=Ff;exact{a,vs,A',e,L a (by rw[eA];simp) _ t,eA,aR.keep k .aD r}
 |.dT ks ds,_,_,L,Fe=>by let {a,vs,A',e,t,l,eA,r}:=Fe;exact{a,vs,A',e,L a (by rw[eA];simp) _ t,l,eA,aR.keep k .aD r}
 |.dK ks ds,_,_,L,Nn=>by let {a,vs,A',e,t,l,eA,r}:=Nn;exact{a,vs,A',e,L a (by rw[eA];simp) _ t,l,eA,aR.keep k .aD r}
 |.sT ts,_,_,L,Nl=>by let {a,e,r,eA}:=Nl;exact{a,e,Ba k (λo ho=>L a (by rw[eA];simp) o ho) r,eA}
 |.ob φ,_,_,L,Rm=>by let {a,e,r,eA}:=Rm;exact{a,e,{L a (by rw[eA];simp) _ r.1,r.2},eA}
 |.cI,_,_,_,h=>h
 |.bl _,_,_,_,h=>h
 |.int _,_,_,_,h=>h
 |.str _,_,_,_,h=>h
 |.obj _,_,_,_,h=>h
theorem aR.keep (k:∀b xs,H b=M (.tup xs)->H' b=M (.tup xs)):∀{ds:List D} {vs:List V} {A:List μ},(∀c∈A,∀o,H c=M o->H' c=M o)->aR P w H ds vs A->aR P w H' ds vs A
 |[],_,_,_,h=>h
 |d::ds,_,_,L,Rl=>by let {v,r,A1,A2,e,eA,Y,O}:=Rl;exact{v,r,A1,A2,e,eA,Own.keep k .aD Y,aR.keep k .aD O}
end
mutual
theorem Own.rep:∀{d:D} {v:V} {A:List μ},(∀c∈A,¬ W c)->Own P w H d v A->aA P w W H d v
 |.tup ds,_,_,L,VY=>by let {a,vs,e,t,r}:=VY;exact{a,vs,e,t,aR.rep L r}
 |.lst ds,_,_,L,VX=>by let {a,vs,A',e,t,eA,r}:=VX;exact{a,vs,e,t,L a (by rw[eA];simp),aR.rep .aD r}
 |.dT ks ds,_,_,L,NK=>by let {a,vs,A',e,t,l,eA,r}:=NK;exact{a,vs,e,t,l,L a (by rw[eA];simp),aR.rep .aD r}
 |.dK ks ds,_,_,L,NJ=>by let {a,vs,A',e,t,l,eA,r}:=NJ;exact{a,vs,e,t,l,L a (by rw[eA];simp),aR.rep .aD r}
 |.sT ts,_,_,L,NH=>by let {a,e,r,eA}:=NH;exact{a,e,r,L a (by rw[eA];simp)}
 |.ob φ,_,_,L,NG=>by let {a,e,r,eA}:=NG;exact{a,e,r,L a (by rw[eA];simp)}
 |.cI,_,_,_,h=>h.1
 |.bl _,_,_,_,h=>h.1
 |.int _,_,_,_,h=>h.1
 |.str _,_,_,_,h=>h.1
 |.obj _,_,_,_,h=>h.1
theorem aR.rep:∀{ds:List D} {vs:List V} {A:List μ},(∀c∈A,¬ W c)->aR P w H ds vs A->aj P w W H ds vs
 |[],_,_,_,h=>h.1
 |d::ds,_,_,L,ND=>by let {v,r,A1,A2,e,eA,Y,O}:=ND;exact{v,r,e,Own.rep .aD Y,aR.rep .aD O}
end
mutual
theorem Own.rd:∀{d:D} {v:V} {A:List μ},Own P w H d v A->∀c∈A,H c≠ξ/\∀xs,H c≠M (.tup xs)
 |.tup ds,_,_,NC,c,hc=>by let {a,vs,e,t,r}:=NC;exact aR.rd r c hc
 |.lst ds,_,_,NA,c,hc=>by
  let {a,vs,A',e,t,eA,r}:=NA;rw[eA]at hc;rcases aat.mp hc with rfl|hc
  ·rw[t];exact{λz=>.au,λxs z=>by cases z}
  ·exact aR.rd r c hc
 |.dT ks ds,_,_,Nz,c,hc=>by
  let {a,vs,A',e,t,l,eA,r}:=Nz;rw[eA]at hc;rcases aat.mp hc with rfl|hc
  ·rw[t];exact{λz=>.au,λxs z=>by cases z}
  ·exact aR.rd r c hc
 |.dK ks ds,_,_,Nw,c,hc=>by
  let {a,vs,A',e,t,l,eA,r}:=Nw;rw[eA]at hc;rcases aat.mp hc with rfl|hc
  ·rw[t];exact{λz=>.au,λxs z=>by cases z}
  ·exact aR.rd r c hc
 |.sT ts,_,_,Nv,c,hc=>by
  obtain⟨a,e,⟨dy,t,r,z⟩,eA⟩:=Nv;rw[eA]at hc;rw[aaE.mp hc,t];exact{λz=>.au,λxs z=>by cases z}
 |.ob φ,_,_,Nu,c,hc=>by
  obtain⟨a,e,⟨t,z⟩,eA⟩:=Nu;rw[eA]at hc;rw[aaE.mp hc,t];exact{λz=>.au,λxs q=>z xs (aaZ q)}
 |.cI,_,_,h,c,hc=>by rw[h.2]at hc;cases hc
 |.bl _,_,_,h,c,hc=>by rw[h.2]at hc;cases hc
 |.int _,_,_,h,c,hc=>by rw[h.2]at hc;cases hc
 |.str _,_,_,h,c,hc=>by rw[h.2]at hc;cases hc
 |.obj _,_,_,h,c,hc=>by rw[h.2]at hc;cases hc
theorem aR.rd:∀{ds:List D} {vs:List V} {A:List μ},aR P w H ds vs A->∀c∈A,H c≠ξ/\∀xs,H c≠M (.tup xs)
 |[],_,_,h,c,hc=>by rw[h.2]at hc;cases hc
 |d::ds,_,_,Nt,c,hc=>by
  let {v,r,A1,Y,e,eA,O,L}:=Nt;rw[eA]at hc;rcases aaT.mp hc with hc|hc
  ·exact Own.rd O c hc
  ·exact aR.rd L c hc
end
mutual
theorem gu:∀{d:D} {v:V},d.flat=G->aA P w W H d v->Own P w H d v []
 |.tup ds,_,f,Nr=>by let {a,vs,e,t,r}:=Nr;exact{a,vs,e,t,l7 (by simpa[D.flat] using f) r}
 |.lst ds,_,f,_=>by simp[D.flat]at f
 |.dT ks ds,_,f,_=>by simp[D.flat]at f
 |.dK ks ds,_,f,_=>by simp[D.flat]at f
 |.sT ts,_,f,_=>by simp[D.flat]at f
 |.ob φ,_,f,_=>by simp[D.flat]at f
 |.cI,_,_,h=>{(h),rfl}
 |.bl _,_,_,h=>{(h),rfl}
 |.int _,_,_,h=>{(h),rfl}
 |.str _,_,_,h=>{(h),rfl}
 |.obj _,_,_,h=>{(h),rfl}
theorem l7:∀{ds:List D} {vs:List V},D.bO ds=G->aj P w W H ds vs->aR P w H ds vs []
 |[],_,_,h=>{(h),rfl}
 |d::ds,_,f,V3=>by
  let {v,r,e,Y,O}:=V3;have L:(d.flat&&D.bO ds)=G:=f;rw[aa1]at L;exact{v,r,[],[],e,rfl,gu L.1 Y,l7 L.2 O}
end
theorem aR.length:∀{ds:List D} {vs:List V} {A:List μ},aR P w H ds vs A->vs.length=ds.length
 |[],_,_,h=>by rw[h.1];rfl
 |d::ds,_,_,Nq=>by let {v,r,A1,Y,e,eA,O,L}:=Nq;rw[e,aaS,aaS,aR.length L]
theorem aR.append:∀{ds ds':List D} {vs vs':List V} {A A':List μ},aR P w H ds vs A->aR P w H ds' vs' A'->aR P w H (ds++ds') (vs++vs') (A++A')
 |[],_,_,_,_,_,h,h'=>by rw[h.1,h.2];exact h'
 |d::ds,_,_,_,_,_,Np,h'=>by
  let {v,r,Y,A2,e,eA,O,L}:=Np;subst e eA;exact{v,_,Y,_,rfl,by rw[abx],O,aR.append L h'}
def aR.one {d:D}{v:V}{A:List μ}(h:Own P w H d v A):aR P w H [d] [v] A:={v,[],A,[],rfl,by simp,h,rfl,rfl}
theorem aR.split:∀{ds:List D} {vs:List V} {A:List μ} {i:Nat} {d:D},aR P w H ds vs A->ds[i]?=M d->∃v L O A3,vs[i]?=M v/\A=L++(O++A3)/\aR P w H (ds.take i) (vs.take i) L/\Own P w H d v O/\aR P w H (ds.drop (i+1)) (vs.drop (i+1)) A3
 |[],_,_,_,_,_,e=>by simp at e
 |d::ds,_,_,0,_,V2,Y=>by
  let {v,r,L,O,e,eA,h1,h2}:=V2;simp at Y;subst Y e eA;exact{v,[],L,O,by simp,by simp,{(rfl),rfl},h1,by simpa using h2}
 |d::ds,_,_,i+1,_,V1,Y=>by
  let {v,r,L,O,e,eA,h1,h2}:=V1;subst e eA;let {u,B1,B2,B3,g1,g2,g3,g4,g5}:=aR.split (i:=i) h2 (by simpa using Y)
  exact{u,L++B1,B2,B3,by simpa using g1,by rw[g2];simp[abx],by simpa using {v,_,L,B1,rfl,rfl,h1,g3},g4,by simpa using g5}
inductive Kd where
 |own|dM|old|bor
inductive Sk where
 |one|two|at (h:μ)
inductive B where
 |val (y:Bool) (d:D)|own (d:D)|hand (ok:List Int->Prop)|shl (y:Sk) (d:D)
abbrev a8:=List (Option B)
structure Cfg where
 H0:Hp
 IO:μ->Prop
 ro:Bool
 U:μ->Prop:=λ_=>False
abbrev Wn (own:Nat->List μ):μ->Prop:=λa=>∃i,a∈own i
def av (C:Cfg)(W:μ->Prop):Kd->μ->Prop
 |.own,a=>W a\/C.H0 a≠ξ
 |.dM,a=>W a\/C.H0 a≠ξ
 |.old,a=>W a
 |.bor,_=>False
def jx (C:Cfg)(W:μ->Prop)(k:Kd)(a:μ):Prop:=av C W k a\/C.U a
abbrev yk (y:Bool):Kd:=match y with|true=>.dM|false=>.old
def P7:D->HO->List V->Prop
 |.lst _,o,vs=>o=.lst vs
 |.dT ks _,o,vs=>o=.dT (ks.zip vs)/\ks.length=vs.length
 |.dK ks _,o,vs=>o=.dK (ks.zip vs)/\ks.length=vs.length
 |_,_,_=>False
def S4:D->List D
 |.lst ds=>ds
 |.dT _ ds=>ds
 |.dK _ ds=>ds
 |_=>[]
def Ko (P:aas)(w:aaG)(W:μ->Prop)(H:Hp):List D->List V->List μ->Prop
 |[],vs,A=>vs=[]/\A=[]
 |d::ds,vs,A=>∃b us r A',vs=.ref b::r/\A=b::A'/\H b=M (.lst us)/\(∃es,d=.lst es/\aj P w W H es us)/\Ko P w W H ds r A'
def mO (P:aas)(w:aaG)(W:μ->Prop)(H:Hp)(d:D)(v:V)(A:List μ):Prop:=∃a o vs,v=.ref a/\A=[a]/\H a=M o/\P7 d o vs/\aj P w W H (S4 d) vs
def CK (P:aas)(w:aaG)(W:μ->Prop)(H:Hp)(y:Sk)(d:D)(v:V)(A:List μ):Prop:=match y with
 |.one=>mO P w W H d v A
 |.at h=>mO P w W H d v A/\v=.ref h
 |.two=>∃a vs A' ds,v=.ref a/\A=a::A'/\H a=M (.lst vs)/\d=.lst ds/\Ko P w W H ds vs A'
theorem Ko.map {H H':Hp}(O:∀ds vs,aj P w W H ds vs->aj P w W' H' ds vs):∀{ds:List D} {vs:List V} {A:List μ},(∀c∈A,∀o,H c=M o->H' c=M o)->Ko P w W H ds vs A->Ko P w W' H' ds vs A
 |[],_,_,_,h=>h
 |_::_,_,_,Y,V0=>by obtain⟨b,us,r,A',e1,L,e3,⟨es,e4,e5⟩,h⟩:=V0;exact{b,us,r,A',e1,L,Y b (by rw[L];simp) _ e3,{es,e4,O _ _ e5},Ko.map O (λc hc=>Y c (by rw[L];simp[hc])) h}
theorem Ko.rep {H:Hp}(hs:∀ds vs,aj P w W H ds vs->aj P w O H ds vs):∀{ds:List D} {vs:List V} {A:List μ},(∀c∈A,¬ O c)->Ko P w W H ds vs A->aj P w O H ds vs
 |[],_,_,_,h=>h.1
 |_::_,_,_,L,VZ=>by
  obtain⟨b,us,r,A',e1,e2,e3,⟨es,e4,Y⟩,h⟩:=VZ;subst e1 e2 e4;exact{.ref b,r,rfl,{b,us,rfl,e3,L b .c,hs _ _ Y},Ko.rep hs (λc hc=>L c (by simp[hc])) h}
def mO.map {P:aas}{w:aaG}{W O:μ->Prop}{H H':Hp}{d:D}{v:V}{A:List μ}(h:mO P w W H d v A)(ha:∀c∈A,∀o,H c=M o->H' c=M o)(Y:∀ds vs,aj P w W H ds vs->aj P w O H' ds vs):mO P w O H' d v A :=
 let ⟨a,o,vs,e1,L,e3,e4,r⟩:=h;{a,o,vs,e1,L,ha a (by rw[L];simp) o e3,e4,Y _ _ r}
def CK.map {P:aas}{w:aaG}{W W':μ->Prop}{H H':Hp}{y:Sk}{d:D}{v:V}{A:List μ}(h:CK P w W H y d v A)(L:∀c∈A,∀o,H c=M o->H' c=M o)(O:∀ds vs,aj P w W H ds vs->aj P w W' H' ds vs):CK P w W' H' y d v A:=by
 cases y with
 |one=>exact mO.map h L O
 | «at» b=>exact{mO.map h.1 L O,h.2}
 |two =>
  let {a,vs,A',ds,e1,Y,e3,e4,r}:=h;exact{a,vs,A',ds,e1,Y,L a (by rw[Y];simp) _ e3,e4,r.map O λc hc=>L c (by rw[Y];simp[hc])}
def mO.rep {P:aas}{w:aaG}{W L:μ->Prop}{H:Hp}{d:D}{v:V}{A:List μ}(h:mO P w W H d v A)(O:∀c∈A,¬ L c)(hs:∀ds vs,aj P w W H ds vs->aj P w L H ds vs):aA P w L H d v:=by
 let {a,o,vs,rfl,rfl,e,sh,r}:=h;have na:=O a .c
 replace r:=hs _ _ r;cases d with
 |lst ds=>cases sh;exact{(a),vs,rfl,e,na,r}
 |dT ks ds=>let {rfl,l}:=sh;exact{(a),vs,rfl,e,l,na,r}
 |dK ks ds=>let {rfl,l}:=sh;exact{(a),vs,rfl,e,l,na,r}
 |_=>exact sh.elim
def CK.rep {P:aas}{w:aaG}{W O:μ->Prop}{H:Hp}{y:Sk}{d:D}{v:V}{A:List μ}(h:CK P w W H y d v A)(L:∀c∈A,¬ O c)(hs:∀ds vs,aj P w W H ds vs->aj P w O H ds vs):aA P w O H d v:=by
 cases y with
 |one=>exact mO.rep h L hs
 | «at» b=>exact mO.rep h.1 L hs
 |two =>
  let {a,vs,A',ds,rfl,rfl,Y,rfl,r}:=h;exact{a,vs,rfl,Y,L a .c,r.rep hs λc hc=>L c (by simp[hc])}
structure cy (P:aas)(w:aaG)(C:Cfg)(σ:St)(H:Hp)(β:a8)(own:Nat->List μ):Prop where
 len:β.length=σ.length
 val:∀(i:Nat) (y:Bool) (d:D),β[i]?=M (M (.val y d))->∃v,σ[i]?=M (M v)/\aA P w (jx C (Wn own) (yk y)) H d v
 ow:∀(i:Nat) (d:D),β[i]?=M (M (.own d))->∃v,σ[i]?=M (M v)/\Own P w H d v (own i)/\∀c∈own i,C.H0 c=ξ
 pM:∀(i:Nat) (ok:List Int->Prop),β[i]?=M (M (.hand ok))->∃a ns,σ[i]?=M (M (.ref a))/\H a=M (.lst (ns.map V.int))/\ok ns/\own i=[a]/\((∀b,¬ C.IO b)\/C.IO a)
 dm:∀(i:Nat) (a:μ),a∈own i->H a≠ξ/\(∀xs,H a≠M (.tup xs))/\(C.H0 a=ξ\/C.IO a)/\¬ C.U a
 nC:∀(i j:Nat) (a:μ),a∈own i->a∈own j->i=j
 ph:∀i,(own i).Nodup
 kp:Kp C.IO C.H0 H
 iE:∀a,C.H0 a≠ξ->H a≠ξ
 shl:∀(i:Nat) (y:Sk) (d:D),β[i]?=M (M (.shl y d))->∃v,σ[i]?=M (M v)/\CK P w (jx C (Wn own) (yk G)) H y d v (own i)/\∀c∈own i,C.H0 c=ξ
abbrev SQ (X:Cx):=cy X.prog X.w
section
variable {C:Cfg}{β:a8}{own:Nat->List μ}{W':μ->Prop}
def cy.sC (b:cy P w C σ H β own):Dm (Wn own) H:=λa cO=>by let {i,h}:=cO;exact(b.dm i a h).1
def cy.Av (b:cy P w C σ H β own)(k:Kd):Dm (av C (Wn own) k) H:=λa h=>by
 cases k with
 |own=>exact h.elim (b.sC a) (b.iE a)
 |dM=>exact h.elim (b.sC a) (b.iE a)
 |old=>exact b.sC a h
 |bor=>exact h.elim
def og (s:∀a,W' a->W a)(k:Kd):∀a,av C W' k a->av C W k a:=λa h=>by
 cases k with
 |own=>exact h.imp (s a) id
 |dM=>exact h.imp (s a) id
 |old=>exact s a h
 |bor=>exact h
def lJ (s:∀a,W' a->W a)(k:Kd):∀a,jx C W' k a->jx C W k a:=λa h=>h.imp (og s k a) id
def cy.keep (b:cy P w C σ H β own)(k:Kp (λa=>H a=ξ) H H')(kp:Kp C.IO H H')(dn:∀a,H a≠ξ->H' a≠ξ):cy P w C σ H' β own:=by
 have ko:∀c o,H c=M o->H' c=M o:=λc o e=>k.out c o e (by rw[e];exact λz=>.au)
 have same:ay H H':=ko;exact⟨b.len,λi y d e=>let ⟨v,O,L⟩:=b.val i y d e;{v,O,L.same same},λi d e=>let ⟨v,O,L,Y⟩:=b.ow i d e;{v,O,L.keep (λ_ _ e=>same _ _ e) (λc _ o e=>same c o e),Y},
  λi ok e=>let ⟨a,ns,O,L,Y⟩:=b.pM i ok e;{a,ns,O,same _ _ L,Y},λi a h=>by
   let {O,L,Y}:=b.dm i a h;cases q:H a with
   |none=>exact Κ q O
   |some o=>rw[same a o q];exact{λz=>.au,λxs z=>L xs (by rw[q];exact z),Y},b.nC,b.ph,b.kp.trans kp,λa z=>dn a (b.iE a z),λi y d e=>let ⟨v,O,L,Y⟩:=b.shl i y d e;{v,O,L.map (λc _ o e=>same c o e) (λ_ _ r=>r.same same),Y}⟩
def cy.same (b:cy P w C σ H β own)(s:ay H H'):cy P w C σ H' β own:=b.keep s.kp s.kp λa z e=>z (s.free e)
def iF {own:Nat->List μ}{i:Nat}{a:μ}(h:Wn (aY own i []) a):Wn own a:=let ⟨j,q⟩:=h;{j,(di q).1}
def bM {own:Nat->List μ}{i j:Nat}{A:List μ}(h:i≠j):aY own i A j=own j:=by unfold aY;rw[Δ (abn h)]
def os_eq {own:Nat->List μ}{i:Nat}{A:List μ}:aY own i A i=A:=by unfold aY;rw[ω rfl]
def cy.iG (b:cy P w C σ H β own)(r:aA P w (jx C (Wn own) (yk y)) H d v):cy P w C (σ.set i (M v)) H (β.set i (M (.val y d))) (aY own i []):=by
 have sub:∀y a,jx C (Wn (aY own i [])) (yk y) a->jx C (Wn own) (yk y) a:=λy=>lJ (λa h=>iF h) _;refine{by simp[b.len],λj y' d' e=>?_,λj d' e=>?_,λj ok e=>?_,λj a h=>b.dm j a (di h).1,λj k a Y O=>b.nC j k a (di Y).1 (di O).1,λj=>?_,b.kp,b.iE,λj y' d' e=>?_}
 ·by_cases aN:i=j
  ·subst aN;let {L,hl}:=ba e;cases L;exact{v,get_set (by rw[<- b.len];exact hl),r.aW (sub _)}
  ·rw[a6 aN]at e ⊢
   let {u,Y,O}:=b.val j y' d' e;exact{u,Y,O.aW (sub _)}
 ·by_cases aN:i=j
  ·subst aN;let {L,hl}:=ba e;cases L
  ·rw[a6 aN]at e ⊢
   rw[bM aN];exact b.ow j d' e
 ·by_cases aN:i=j
  ·subst aN;let {L,hl}:=ba e;cases L
  ·rw[a6 aN]at e ⊢
   rw[bM aN];exact b.pM j ok e
 ·by_cases aN:i=j
  ·rw[aN,os_eq];exact abg
  ·rw[bM aN];exact b.ph j
 ·by_cases aN:i=j
  ·subst aN;let {L,hl}:=ba e;cases L
  ·rw[a6 aN]at e ⊢
   rw[bM aN];let {u,Y,O,h3}:=b.shl j y' d' e;exact{u,Y,O.map (λ_ _ _ z=>z) (λ_ _ r=>aj.aW (sub _) r),h3}
def cy.xI {i:Nat}{d:D}{v:V}{A:List μ}(b:cy P w C σ H β own)(r:Own P w H d v A)(nd:A.Nodup)(nw:∀c∈A,C.H0 c=ξ/\¬ Wn own c/\C.U c):
  cy P w {C with U:=λ_=>False} (σ.set i (M v)) H (β.set i (M (.own d))) (aY own i A):=by
 have sub:∀y a,jx {C with U:=λ_=>False} (Wn (aY own i A)) (yk y) a->jx C (Wn own) (yk y) a:=λy a h=>by
  have q:∀a,Wn (aY own i A) a->Wn own a\/a∈A:=λa qU=>by
   let {j,q}:=qU
   by_cases aN:i=j
   ·rw[aN,os_eq]at q;exact .inr q
   ·rw[bM aN]at q;exact .inl {(j),q}
  have q':∀a,Wn (aY own i A) a->Wn own a\/C.U a:=λa z=>(q a z).imp id λz=>(nw a z).2.2;rcases h with h|h
  ·cases y with
   |true=>exact h.elim (λz=>(q' a z).imp .inl id) λz=>.inl (.inr z)
   |false=>exact q' a h
  ·exact h.elim
 have mem:∀{j c},c∈aY own i A j->(i=j/\c∈A)\/(i≠j/\c∈own j):=λ{j c} h=>by
  by_cases aN:i=j
  ·subst aN;rw[os_eq]at h;exact .inl {(rfl),h}
  ·rw[bM aN]at h;exact .inr {(aN),h}
 refine{by simp[b.len],λj y' d' e=>?_,λj d' e=>?_,λj ok e=>?_,λj a h=>?_,λj k a O L=>?_,λj=>?_,b.kp,b.iE,λj y' d' e=>?_}
 ·by_cases aN:i=j
  ·subst aN;let {Y,hl}:=ba e;cases Y
  ·rw[a6 aN]at e ⊢
   let {u,O,L}:=b.val j y' d' e;exact{u,O,L.aW (sub _)}
 ·by_cases aN:i=j
  ·subst aN;let {Y,hl}:=ba e;cases Y;rw[os_eq];exact{v,get_set (by rw[<- b.len];exact hl),r,λc hc=>(nw c hc).1}
  ·rw[a6 aN]at e ⊢
   rw[bM aN];exact b.ow j d' e
 ·by_cases aN:i=j
  ·subst aN;let {Y,hl}:=ba e;cases Y
  ·rw[a6 aN]at e ⊢
   rw[bM aN];exact b.pM j ok e
 ·rcases mem h with⟨_,h⟩|⟨_,h⟩
  ·exact{(r.rd a h).1,(r.rd a h).2,.inl (nw a h).1,λz=>z}
  ·exact{(b.dm j a h).1,(b.dm j a h).2.1,(b.dm j a h).2.2.1,λz=>z}
 ·rcases mem O with⟨e1,O⟩|⟨n1,O⟩
  ·rcases mem L with⟨e2,L⟩|⟨n2,L⟩
   ·rw[<- e1,<- e2]
   ·exact Κ {(k),L} (nw a O).2.1
  ·rcases mem L with⟨e2,L⟩|⟨n2,L⟩
   ·exact Κ {(j),O} (nw a L).2.1
   ·exact b.nC j k a O L
 ·by_cases aN:i=j
  ·rw[<- aN,os_eq];exact nd
  ·rw[bM aN];exact b.ph j
 ·by_cases aN:i=j
  ·subst aN;let {Y,hl}:=ba e;cases Y
  ·rw[a6 aN]at e ⊢
   rw[bM aN];let {u,O,L,h3}:=b.shl j y' d' e;exact{u,O,L.map (λ_ _ _ z=>z) (λ_ _ r=>aj.aW (sub _) r),h3}
abbrev Cfg.u (C:Cfg)(U:μ->Prop):Cfg:={C with U:=U}
def cy.oj {U:μ->Prop}(b:cy P w C σ H β own)(Y:∀a,U a->H a=ξ):cy P w (C.u U) σ H β own :=
 {b.len,λi y d e=>let ⟨v,L,O⟩:=b.val i y d e;{v,L,aA.grow (λa z=>z.elim (λz=>.inl (.inl z)) λz=>.inr (Y a z)) O},b.ow,b.pM,λi a h=>let ⟨L,O,h3,_⟩:=b.dm i a h;{L,O,h3,λz=>L (Y a z)},b.nC,b.ph,b.kp,b.iE,λi y d e=>let ⟨v,L,O,h3⟩:=b.shl i y d e;{v,L,O.map (λ_ _ _ z=>z) (λ_ _ r=>aj.grow (λa z=>z.elim (λz=>.inl (.inl z)) λz=>.inr (Y a z)) r),h3}}
def cy.noU {U:μ->Prop}(b:cy P w (C.u U) σ H β own):cy P w (C.u λ_=>False) σ H β own :=
 {b.len,λi y d e=>let ⟨v,O,L⟩:=b.val i y d e;{v,O,aA.aW (λa z=>z.elim .inl λz=>z.elim) L},b.ow,b.pM,λi a h=>let ⟨O,L,Y,_⟩:=b.dm i a h;{O,L,Y,λz=>z},b.nC,b.ph,b.kp,b.iE,λi y d e=>let ⟨v,O,L,Y⟩:=b.shl i y d e;{v,O,L.map (λ_ _ _ z=>z) (λ_ _ r=>aj.aW (λa z=>z.elim .inl λz=>z.elim) r),Y}}
def cy.Ua (b:cy P w C σ H β own)(e:β[i]?=M (M (.val y d))):∃v,σ[i]?=M (M v)/\aA P w (av C (Wn own) (yk y)) H d v:=let ⟨v,O,L⟩:=b.val i y d e;{v,O,aA.aW (λa z=>.inl z) L}
end
def KV (P:aas)(w:aaG)(C:Cfg)(Z:Hp×(μ->Prop))(own:Nat->List μ)(H:Hp):Kd->D->V->Prop
 |.own,d,v=>∃A,Own P w H d v A/\A.Nodup/\∀c∈A,Z.1 c=ξ/\¬ Wn own c/\C.H0 c=ξ
 |.dM,d,v=>aA P w (av C (Wn own) .dM) H d v
 |.old,d,v=>aA P w (av C (Wn own) .old) H d v
 |.bor,d,v=>aA P w (av C (Wn own) .bor) H d v
structure Ys (P:aas)(w:aaG)(C:Cfg)(σ:St)(H:Hp)(own:Nat->List μ)(p:Bool)(β':a8)(H':Hp)(aZ:Nat->List μ):Prop where
 sq:cy P w C σ H' β' aZ
 sn:Sn (H,Wn own) H' (Wn aZ)
 pu:p=G->ay H H'/\aZ=own
 le:∀a,Wn aZ a->Wn own a
abbrev Out (X:Cx):=Ys X.prog X.w
section
variable {C:Cfg}{H1 H2:Hp}{own aw a7:Nat->List μ}{p':Bool}{β β1 β2 β':a8}{Z:Hp×(μ->Prop)}{d:D}{v:V}{k:Kd}
def Out.refl (s:SQ X C σ H β own)(p:Bool):Out X C σ H own p β H own:={s,Sn.refl,λ_=>{ay.refl _,rfl},λ_ z=>z}
def Out.trans (a:Out X C σ H own p β1 H1 aw)(b:Out X C σ H1 aw p' β2 H2 a7):Out X C σ H own (p&&p') β2 H2 a7:=⟨b.sq,a.sn.trans b.sn,λh=>by
 rw[aa1]at h;let {s1,O}:=a.pu h.1;let {s2,L}:=b.pu h.2;exact{s1.trans s2,L.trans O},λc z=>a.le c (b.le c z)⟩
def Out.same (a:Out X C σ H own p β1 H1 aw)(s:ay H1 H2):Out X C σ H own p β1 H2 aw:={a.sq.same s,a.sn.same s,λh=>let ⟨s1,L⟩:=a.pu h;{s1.trans s,L},a.le}
def Out.wk (a:Out X C σ H own p β1 H1 aw)(h:p'=G->p=G):Out X C σ H own p' β1 H1 aw:={a.sq,a.sn,λz=>a.pu (h z),a.le}
def Out.xu {q:Bool}(a:Out X C σ H own p β1 H1 aw)(b:Out X C σ H1 aw p' β2 H2 a7)(h:q=G->p=G/\p'=G):Out X C σ H own q β2 H2 a7:=(a.trans b).wk λz=>by rw[(h z).1,(h z).2];rfl
def KV.rep (h:KV P w C Z own H k d v):aA P w (av C (Wn own) k) H d v:=by
 cases k with
 |own=>let {A,O,Y,L}:=h;exact O.rep λc hc z=>z.elim (L c hc).2.1 λz=>z (L c hc).2.2
 |_=>exact h
def KV.dM (h:KV P w C Z own H .own d v):KV P w C Z own H .dM d v:=KV.rep (k:=.own) h
def KV.flat (f:d.flat=G)(h:aA P w W H d v):KV P w C Z own H .own d v:={[],gu f h,abg,λc hc=>(nomatch hc)}
abbrev Kd.wk:Kd->Kd
 |.own=>.dM
 |.dM=>.dM
 |.old=>.old
 |.bor=>.bor
abbrev Kd.max:Kd->Kd->Kd
 |.bor,_=>.bor
 |_,.bor=>.bor
 |.old,_=>.old
 |_,.old=>.old
 |_,_=>.dM
def eh {W:μ->Prop}{a b:Kd}:∀c,av C W (a.max b) c->av C W a c:=λc h=>by
 cases a <;> cases b <;> first|exact h|exact h.elim|exact .inl h
def ib {W:μ->Prop}{a b:Kd}:∀c,av C W (a.max b) c->av C W b c:=λc h=>by
 cases a <;> cases b <;> first|exact h|exact h.elim|exact .inl h
def KV.of (h:aA P w (av C (Wn own) k.wk) H d v):KV P w C Z own H k.wk d v:=by
 cases k <;> exact h
def KV.P_ (h:KV P w C Z own H k d v)(s:ay H H'):KV P w C Z own H' k d v:=by
 cases k with
 |own=>let {A,O,L}:=h;exact{A,O.keep (λb xs e=>s _ _ e) (λc _ o e=>s c o e),L}
 |dM=>exact aA.same s h
 |old=>exact aA.same s h
 |bor=>exact aA.same s h
def KV.held (hk:k≠.bor)(h:KV P w C Z own H k d v)(n:Sn (H,Wn own) H2 (Wn a7)):KV P w C Z a7 H2 k d v:=by
 cases k with
 |own =>
  let {A,O,Y,L}:=h;refine{A,O.keep n.k.tup (λc hc o e=>n.k.out c o e λz=>z.elim (L c hc).2.1 λz=>(O.rd c hc).1 z),Y,λc hc=>{(L c hc).1,λz=>(n.w c z).elim (L c hc).2.1 λz=>(O.rd c hc).1 z,(L c hc).2.2}}
 |dM =>
  have g:aA P w (λa=>av C (Wn own) .dM a\/H a=ξ) H d v:=aA.grow (λb z=>z) h;exact aA.aW (λb z=>z.elim (λz=>(n.w b z).imp .inl id) λz=>.inl (.inr z)) (aA.keep (n.k.mono λb z=>z.imp .inl id) g)
 |old=>exact held (W:=Wn own) h n
 |bor=>exact Κ rfl hk
def KV.RN (h:KV P w C Z own H k d v)(s:ay H H2)(e:a7=own):KV P w C Z a7 H2 k d v:=by rw[e];exact h.P_ s
abbrev hold (k:Kd)(p:Bool):Prop:=match k,p with
 |.bor,η=>False
 |_,_=>True
def KV.ho (h:KV P w C Z own H k d v)(o:Out X C σ H own p β' H2 a7)(L:hold k p):KV P w C Z a7 H2 k d v:=by
 cases p with
 |true=>let {s,e}:=o.pu rfl;exact h.RN s e
 |false=>exact h.held (by rintro rfl;exact L) o.sn
def KV.later (h:KV P w C (H1,Wn aw) own H k d v)(n:Sn Z H1 (Wn aw)):KV P w C Z own H k d v:=by
 cases k with
 |own=>let {A,Y,O,L}:=h;exact{A,Y,O,λc hc=>{n.free (L c hc).1,(L c hc).2}}
 |_=>exact h
end
abbrev aM:=a8->(D->Kd->a8->Prop)->Prop
abbrev bg:=a8->(Bool->a8->Prop)->Prop
abbrev bf:=a8->(List D->List Kd->a8->Prop)->Prop
def tQ (X:Cx)(C:Cfg)(p:Bool)(φ:aM):TE:=λσ H Q=>∃β own,SQ X C σ H β own/\φ β λd k β'=>∀v H' aZ,Out X C σ H own p β' H' aZ->KV X.prog X.w C (H,Wn own) aZ H' k d v->Q v H'
def nk (X:Cx)(C:Cfg)(p:Bool)(φ:bg):TT:=λσ H Q=>∃β own,SQ X C σ H β own/\φ β λb β'=>∀H' aZ,Out X C σ H own p β' H' aZ->Q b H'
def KF (P:aas)(w:aaG)(C:Cfg)(own:Nat->List μ)(H:Hp):List Kd->List D->List V->List μ->Prop
 |[],ds,vs,A=>ds=[]/\vs=[]/\A=[]
 |k::ks,ds,vs,A=>∃d dr v O L Y,ds=d::dr/\vs=v::O/\A=L++Y/\(match k with | .own=>Own P w H d v L|k=>L=[]/\aA P w (av C (Wn own) k) H d v)/\KF P w C own H ks dr O Y
def xa (P:aas)(w:aaG)(C:Cfg)(Z:Hp×(μ->Prop))(own:Nat->List μ)(H:Hp)(ks:List Kd)(ds:List D)(vs:List V):Prop :=
 ∃A,KF P w C own H ks ds vs A/\A.Nodup/\∀c∈A,Z.1 c=ξ/\¬ Wn own c/\C.H0 c=ξ
def oA (X:Cx)(C:Cfg)(p:Bool)(φ:bf):TA:=λσ H Q=>∃β own,SQ X C σ H β own/\φ β λds ks β'=>∀vs H' aZ,Out X C σ H own p β' H' aZ->xa X.prog X.w C (H,Wn own) aZ H' ks ds vs->Q vs H'
section
variable {C:Cfg}{H1:Hp}{own aw:Nat->List μ}{Z:Hp×(μ->Prop)}{d:D}{v:V}{k:Kd}{ks:List Kd}{vs:List V}
def xa.nil:xa P w C Z own H [] [] []:={[],{(rfl),rfl,rfl},abg,λc hc=>(nomatch hc)}
theorem KF.rd:∀{ks:List Kd} {ds:List D} {vs:List V} {A:List μ},KF P w C own H ks ds vs A->∀c∈A,H c≠ξ
 |[],_,_,_,mx,c,hc=>by let {Y,Y,e}:=mx;rw[e]at hc;cases hc
 |k::ks,_,_,_,mx,c,hc=>by
  let {d,dr,v,vr,A1,A2,rfl,rfl,rfl,L,O}:=mx;rcases aaT.mp hc with hc|hc
  ·cases k with
   |own=>exact(Own.rd L c hc).1
   |_=>rw[L.1]at hc;cases hc
  ·exact KF.rd O c hc
def xa.cons (h1:KV P w C Z aw H1 k d v)(n:Sn (H1,Wn aw) H (Wn own))(yC:KV P w C Z own H k d v)(h2:xa P w C (H1,Wn aw) own H ks ds vs)(n0:Sn Z H1 (Wn aw)):xa P w C Z own H (k::ks) (d::ds) (v::vs):=by
 let {L,f2,EG,q2}:=h2;have Y:∀c∈L,Z.1 c=ξ/\¬ Wn own c/\C.H0 c=ξ:=λc hc=>{n0.free (q2 c hc).1,(q2 c hc).2};cases k with
 |own =>
  let {A1,o1,BE,O}:=h1;let {A1',o1',aac,YR}:=(show KV P w C Z own H .own d v from KV.held (k:=.own) (λz=>.au) ({(A1),o1,BE,O}:KV P w C Z aw H1 .own d v) n)
  have U0:Own P w H d v A1:=o1.keep n.k.tup (λc hc o e=>n.k.out c o e λz=>z.elim (O c hc).2.1 λz=>(o1.rd c hc).1 z);refine{A1++L,{(d),ds,v,vs,A1,L,rfl,rfl,rfl,U0,f2},abm.mpr {BE,EG,λa ha b hb e=>?_},λc hc=>?_}
  ·subst e;exact(o1.rd a ha).1 (q2 a hb).1
  ·rcases aaT.mp hc with hc|hc
   ·exact{(O c hc).1,λz=>(n.w c z).elim (O c hc).2.1 λz=>(o1.rd c hc).1 z,(O c hc).2.2}
   ·exact Y c hc
 |dM=>exact{L,{d,ds,v,vs,[],L,rfl,rfl,rfl,{(rfl),yC},f2},EG,Y}
 |old=>exact{L,{d,ds,v,vs,[],L,rfl,rfl,rfl,{(rfl),yC},f2},EG,Y}
 |bor=>exact{L,{d,ds,v,vs,[],L,rfl,rfl,rfl,{(rfl),yC},f2},EG,Y}
abbrev gB:List Kd->Kd
 |[]=>.dM
 |k::ks=>Kd.max k (gB ks)
theorem KF.jE:∀{ks:List Kd} {ds:List D} {vs:List V} {A:List μ},KF P w C own H ks ds vs A->(∀c∈A,¬ Wn own c/\C.H0 c=ξ)->aj P w (av C (Wn own) (gB ks)) H ds vs
 |[],_,_,_,Ff,_=>by let {e1,e2,e}:=Ff;rw[e1,e2];rfl
 |k::ks,_,_,_,Ff,O=>by
  let {d,dr,v,Y,A1,A2,rfl,rfl,rfl,L,h2}:=Ff;refine{v,Y,rfl,?_,aj.aW ib (KF.jE h2 λc hc=>O c (aa_ _ hc))};cases k with
  |own=>exact aA.aW eh (Own.rep (W:=av C (Wn own) .own) (λc hc z=>z.elim (O c (abW _ hc)).1 λz=>z (O c (abW _ hc)).2) L)
  |dM=>exact aA.aW (eh (a:=.dM)) L.2
  |old=>exact aA.aW (eh (a:=.old)) L.2
  |bor=>exact aA.aW (eh (a:=.bor)) L.2
def xa.jE (h:xa P w C Z own H ks ds vs):aj P w (av C (Wn own) (gB ks)) H ds vs:=let ⟨A,O,_,L⟩:=h;O.jE λc hc=>(L c hc).2
def xa.bor (h:xa P w C Z own H ks ds vs):aj P w (λ_=>False) H ds vs:=aj.aW (λ_ z=>z.elim) h.jE
def AM:List Kd->List D->Prop
 |k::ks,d::ds=>(match k with | .own=>True|_=>d.flat=G)/\AM ks ds
 |_,_=>True
theorem KF.Mu:∀{ks:List Kd} {ds:List D} {vs:List V} {A:List μ},KF P w C own H ks ds vs A->AM ks ds->aR P w H ds vs A
 |[],_,_,_,Fe,_=>by let {e1,e2,e}:=Fe;rw[e1,e2,e];exact{(rfl),rfl}
 |k::ks,_,_,_,Fe,Nn=>by
  let {d,dr,v,Y,A1,A2,rfl,rfl,rfl,L,h2}:=Fe;let {O,f2}:=Nn;refine{v,Y,A1,A2,rfl,rfl,?_,KF.Mu h2 f2};cases k with
  |own=>exact L
  |dM=>rw[L.1];exact gu O L.2
  |old=>rw[L.1];exact gu O L.2
  |bor=>rw[L.1];exact gu O L.2
theorem k8:∀{ks:List Kd},(gB ks).wk=gB ks
 |[]=>rfl
 |k::ks=>by cases k <;> cases h:gB ks <;> simp[gB,Kd.max,h]
def CD (ks:List Kd)(ds:List D)(K:Kd->Prop):Prop:=match ks.all (λk=>match k with | .own=>G|_=>η)with
 |true=>K .own
 |false=>(AM ks ds/\K .own)\/K (gB ks)
def CD.mono {ds:List D}{K K':Kd->Prop}(k:∀x,K x->K' x)(h:CD ks ds K):CD ks ds K':=by
 unfold CD at *
 split
 ·next e=>rw[e]at h;exact k _ h
 ·next e=>rw[e]at h;exact h.imp (λz=>{z.1,k _ z.2}) (k _)
def CD.of {ds:List D}{K:Kd->Prop}(h:CD ks ds K):(AM ks ds/\K .own)\/K (gB ks):=by
 unfold CD at h
 split at h
 ·next e =>
  refine .inl {?_,h}
  clear h
  induction ks generalizing ds with
  |nil=>cases ds <;> trivial
  |cons k ks ih =>
   cases ds with
   |nil=>trivial
   |cons d ds =>
    rw[List.all_cons,aa1]at e;refine{?_,ih e.2};have L:=e.1;cases k <;> first|trivial|cases L
 ·exact h
end
structure PQ (X:Cx)(C:Cfg)(p:Bool)(e:Expr)(φ:aM):Prop where
 mono:∀β R R',.aC->φ β R->φ β R'
 pe:PE X e (tQ X C p φ)
structure w_ (X:Cx)(C:Cfg)(p:Bool)(e:Expr)(φ:bg):Prop where
 mono:∀β R R',(∀d β,R d β->R' d β)->φ β R->φ β R'
 pt:PT X e (nk X C p φ)
structure rh (X:Cx)(C:Cfg)(p:Bool)(e:Expr)(φ:bg):Prop where
 mono:∀β R R',(∀d β,R d β->R' d β)->φ β R->φ β R'
 pw:PW X e (nk X C p φ)
structure nh (X:Cx)(C:Cfg)(p:Bool)(es:List Expr)(φ:bf):Prop where
 mono:∀β R R',.aC->φ β R->φ β R'
 pa:PA X es (oA X C p φ)
section
variable {C:Cfg}{c:Expr}{φ φa φb:aM}{τ τa τb:bg}{φs:bf}{β:a8}{own:Nat->List μ}{p':Bool}
def tQ.of (h:PQ X C p e φ)(s:SQ X C σ H β own)(L:φ β R)(k:∀d kd β' v H' aZ,R d kd β'->Out X C σ H own p β' H' aZ->KV X.prog X.w C (H,Wn own) aZ H' kd d v->Q v H'):tQ X C p φ σ H Q :=
 {β,own,s,h.mono β _ _ (λd kd β' hd v H' aZ o r=>k d kd β' v H' aZ hd o r) L}
def nk.of (h:w_ X C p e τ)(s:SQ X C σ H β own)(L:τ β R)(k:∀t β' H' aZ,R t β'->Out X C σ H own p β' H' aZ->Q t H'):nk X C p τ σ H Q :=
 {β,own,s,h.mono β _ _ (λt β' hd H' aZ o=>k t β' H' aZ hd o) L}
def oA.of (h:nh X C p es φs)(s:SQ X C σ H β own)(L:φs β R)(k:∀ds ks β' vs H' aZ,R ds ks β'->Out X C σ H own p β' H' aZ->xa X.prog X.w C (H,Wn own) aZ H' ks ds vs->Q vs H'):oA X C p φs σ H Q :=
 {β,own,s,h.mono β _ _ (λd kd β' hd v H' aZ o r=>k d kd β' v H' aZ hd o r) L}
def rh.t (h:rh X C p e τ):w_ X C p e τ:={(h.mono),h.pw.pt}
abbrev vk (y:Bool):D->Kd
 |.int _=>.own
 |.bl _=>.own
 |.cI=>.own
 |.str _=>.own
 |_=>yk y
def qB:B->(D->Kd->Prop)->Prop
 |.val y d,K=>K d (vk y d)
 |.own d,K=>K d .bor
 |.hand _,_=>False
 |.shl _ _,_=>False
def uV (i:Nat):aM:=λβ R=>∃b,β[i]?=M (M b)/\qB b λd k=>R d k β
def M1 (h:aA P w (av C (Wn own) (yk y)) H d v):KV P w C Z own H (vk y d) d v:=by
 cases d with
 |int i=>exact KV.flat rfl h
 |bl i=>exact KV.flat rfl h
 |cI=>exact KV.flat rfl h
 |str i=>exact KV.flat rfl h
 |_=>cases y <;> exact h
def ae (hn:Nm X i x:=by exact CC):
  PQ X C G (.Name x pos) (uV i):=⟨λβ R R' k qU=>by let {b,e,h}:=qU;exact{b,e,by cases b <;> first|exact k _ _ _ h|exact h},(ij hn).pre λσ H Q Y=>by
 let {β,own,s,b,e,q}:=Y;cases b with
 |val y d=>let {v,O,L}:=s.Ua e;exact{v,O,q v H own (Out.refl s _) (M1 L)}
 |own d=>let {v,O,L,h3}:=s.ow i d e;exact{v,O,q v H own (Out.refl s _) (L.rep λ_ _ z=>z)}
 |hand ok=>exact q.elim
 |shl _ _=>exact q.elim⟩
def qC (d:D):aM:=λβ R=>R d .own β
def ai {i j}:PQ X C G (.Constant (.int i) j pos) (qC (.int i)):={λρ R R' k h=>k _ _ _ h,br.pre λσ H Q Ru=>by let {β,own,s,q}:=Ru;exact q _ H own (Out.refl s _) (KV.flat (W:=λ_=>False) rfl rfl)}
def zE {b j}:PQ X C G (.Constant (.bool b) j pos) (qC (.bl b)):={λρ R R' k h=>k _ _ _ h,Ed.pre λσ H Q Wz=>by let {β,own,s,q}:=Wz;exact q _ H own (Out.refl s _) (KV.flat (W:=λ_=>False) rfl rfl)}
def eP {j}:PQ X C G (.Constant .none j pos) (qC .cI):={λρ R R' k h=>k _ _ _ h,Mq.pre λσ H Q Fj=>by let {β,own,s,q}:=Fj;exact q _ H own (Out.refl s _) (KV.flat (W:=λ_=>False) rfl rfl)}
def cE {x j}:PQ X C G (.Constant (.str x) j pos) (qC (.str x)):={λρ R R' k h=>k _ _ _ h,DY.pre λσ H Q Ju=>by let {β,own,s,q}:=Ju;exact q _ H own (Out.refl s _) (KV.flat (W:=λ_=>False) rfl rfl)}
def Dz (X:Cx)(f:D->D->Option D)(N:D->Prop):R2:=λx y H Q=>∃W O L d,Dm W H/\Rp X W H O x/\Rp X W H L y/\f O L=M d/\∀v H',ay H H'->Rp X W H' d v->(N d->Rp X (λa=>H a≠ξ) H' d v)->Q v H'
abbrev TR (X:Cx)(f:aam->aam->Sem aam)(g:D->D->Option D)(N:D->Prop):Prop:=j_ X f (Dz X g N)
def bo.m (h:bo X f g):TR X f g NF:=λχ s σ H x y v u Q I O L cO=>by
 let {W,d1,d2,d,hd,r1,Y,e,q}:=cO;exact h χ s σ H x y v u Q I O L {W,d1,d2,d,hd,r1,Y,e,λv H' s r=>q v H' s r λf=>aA.flat f r}
def kN (N:D->Prop)(d:D)(k:Kd)(K:Kd->Prop):Prop:=match d with
 |.int _=>K .own
 |.bl _=>K .own
 |.cI=>K .own
 |.str _=>K .own
 |.tup _=>K k
 |_=>(N d/\K .own)\/K k
def kN.mono {N:D->Prop}{K K':Kd->Prop}(h:∀x,K x->K' x)(q:kN N d k K):kN N d k K':=by
 cases d <;> first|exact h _ q|exact q.imp (λz=>⟨z.1,h _ z.2⟩) (h _)
def fU (hd:Dm (Wn own) H)(L:∀a,C.H0 a≠ξ->H a≠ξ)(hz:∀a,Z.1 a≠ξ->H a≠ξ)(f:NL d)(r:aA P w (λa=>H a≠ξ) H' d v):KV P w C Z own H' .own d v:=by
 have nn:∀{a:μ},¬ (H a≠ξ)->H a=ξ:=λ{a} h=>abA λz=>h z;have cl:∀{a:μ},H a=ξ->Z.1 a=ξ/\¬ Wn own a/\C.H0 a=ξ:=λ{a} h=>{abA λz=>hz a z h,λz=>hd a z h,abA λz=>L a z h};cases d with
 |lst ds =>
  let {a,vs,rfl,e,n,q}:=r;exact{[a],{a,vs,[],rfl,e,rfl,l7 f q},by simp,λc hc=>by rw[aaE.mp hc];exact cl (nn n)}
 |_=>exact KV.flat f r
def KV.kN {N:D->Prop}{Z:Hp×(μ->Prop)}{K:Kd->Prop}(hk:k.wk=k)(r:aA P w (av C (Wn own) k) H' d v)(ro:N d->KV P w C Z own H' .own d v)(q:kN N d k K):∃k',K k'/\KV P w C Z own H' k' d v:=by
 have rk:KV P w C Z own H' k d v:=by rw[<- hk];exact KV.of (by rw[hk];exact r)
 cases d with
 |int i=>exact{_,q,KV.flat rfl r}
 |bl i=>exact{_,q,KV.flat rfl r}
 |cI=>exact{_,q,KV.flat rfl r}
 |str i=>exact{_,q,KV.flat rfl r}
 |tup ds=>exact{_,q,rk}
 |_=>exact q.elim (λz=>{_,z.2,ro z.1}) λz=>{_,z,rk}
structure Ho (N:D->Prop):Prop where
 nl:∀d,N d->NL d
def aC:Ho NL:={λ_ h=>h}
def ag:Ho NF:={λd h=>by cases d <;> first|exact h|cases h}
def KL {a b:Kd}:(a.max b).wk=a.max b:=by cases a <;> cases b <;> rfl
def Cz (g:D->D->Option D)(N:D->Prop)(pb:Bool)(φa φb:aM):aM:=λβ R=>φa β λx ka O=>hold ka pb/\φb O λy kb L=>∃d,g x y=M d/\kN N d (ka.max kb) λk=>R d k L
variable {g:D->D->Option D}{N:D->Prop}
def Cz.mono (ha:PQ X C p a φa)(hb:PQ X C p' b φb):∀β R R',.aC->Cz g N p' φa φb β R->Cz g N p' φa φb β R':=λβ R R' k h =>
 ha.mono β _ _ (λx ka L O=>{O.1,hb.mono L _ _ (λy kb Y yx=>by let {d,e,q}:=yx;exact{d,e,q.mono λ_ z=>k _ _ _ z}) O.2}) h
def xO (hn:Ho N)(ha:PQ X C p a φa)(hb:PQ X C p' b φb):∀σ H Q,tQ X C (p&&p') (Cz g N p' φa φb) σ H Q->O7 (Dz X g N) (tQ X C p φa) (tQ X C p' φb) σ H Q:=λσ H Q lh=>by
 let {β,own,s,h}:=lh;exact tQ.of ha s h λd1 k1 Y v1 H1 aw Rk o1 r1=>by
  let {hh,h1}:=Rk;exact tQ.of hb o1.sq h1 λd2 k2 O v2 H2 L yw o2 r2=>by
   let {d,e,q}:=yw;have Qj:=r1.ho o2 hh;refine{av C (Wn L) (k1.max k2),d1,d2,d,o2.sq.Av _,aA.aW eh Qj.rep,aA.aW ib r2.rep,e,λv H' s3 r3 n3=>?_};have o:=(o1.trans o2).same s3;let {k,q,r}:=KV.kN (Z:=(H,Wn own)) KL r3 (λn=>fU (H:=H2) o2.sq.sC o2.sq.iE (λa z=>o2.sn.d a (o1.sn.d a z)) (hn.nl _ n) (n3 n)) q;exact q v H' L o r
def aB (Y:Ho N)(ho:TR X (acz op) g N)(O:PQ X C p a φa)(L:PQ X C p' b φb):PQ X C (p&&p') (.BinOp a op b pos) (Cz g N p' φa φb):={Cz.mono O L,(dN ho O.pe L.pe).pre (xO Y O L)}
def f9 (Y:Ho N)(ho:TR X (abv op) g N)(O:PQ X C p a φa)(L:PQ X C p' b φb)(hm:ac4 op b=η:=by first|exact vh _ .b (by decide)|rfl):PQ X C (p&&p') (.Compare a [op] [b] pos) (Cz g N p' φa φb) :=
 {Cz.mono O L,(Iw ho O.pe L.pe hm).pre (xO Y O L)}
def aO (Y:Ho N)(ho:Hq X (Dz X g N))(O:PQ X C p a φa)(L:PQ X C p' b φb)(hs:jz b:=by exact λ_ _=>rfl):PQ X C (p&&p') (.Subscript a b pos) (Cz g N p' φa φb):={Cz.mono O L,(kO ho O.pe L.pe hs).pre (xO Y O L)}
def Ky (φ:aM):bg:=λβ R=>φ β λd k β'=>∃b,d=.bl b/\R b β'
def aF (hn:Ho N)(ho:TR X (abv op) g N)(O:PQ X C p a φa)(L:PQ X C p' b φb)(hm:ac4 op b=η:=by first|exact vh _ .b (by decide)|rfl):w_ X C (p&&p') (.Compare a [op] [b] pos) (Ky (Cz g N p' φa φb)) :=
 ⟨λβ R R' k h=>Cz.mono O L β _ _ (λd kd β Fq=>by let {t,e,q}:=Fq;exact{t,e,k _ _ q}) h,(zu ho O.pe L.pe hm).pre λσ H Q ⟨β,own,s,h⟩ =>
  tQ.of O s h λd1 k1 β1 v1 H1 aw Ni o1 r1=>by
   let {hh,h1}:=Ni;exact tQ.of L o1.sq h1 λd2 k2 β2 v2 H2 a7 N1 o2 r2=>by
    let {d,e,q}:=N1;have Qj:=r1.ho o2 hh;refine{av C (Wn a7) (k1.max k2),d1,d2,d,o2.sq.Av _,aA.aW eh Qj.rep,aA.aW ib r2.rep,e,λv H' s3 Y n3=>?_};obtain⟨k,⟨t,et,q'⟩,r⟩:=KV.kN (Z:=(H,Wn own)) KL Y (λn=>fU (H:=H2) o2.sq.sC o2.sq.iE (λa z=>o2.sn.d a (o1.sn.d a z)) (hn.nl _ n) (n3 n)) q;subst et;cases Y;exact{t,rfl,q' H' a7 ((o1.trans o2).same s3)}⟩
def gY (L:PQ X C p a φa)(he:∀whole,isTrue a .f whole=(do let v <- whole;aep a.pos;holding [v] (truthy v)):=by intro _;rfl):w_ X C p a (Ky φa) :=
 ⟨λβ R R' k h=>L.mono β _ _ (λd kd β' NZ=>by let {b,e,q}:=NZ;exact{b,e,k _ _ q}) h,(Mb L.pe he).pre λσ H Q ⟨β,own,s,h⟩=>tQ.of L s h λd k β' v H1 aw NY o1 O=>by
  let {b,e,q}:=NY;subst e;cases O.rep;exact{b,rfl,q H1 aw o1}⟩
def Qp (τ:bg):bg:=λβ R=>τ β λb β'=>R (!b) β'
def zw (L:w_ X C p a τ):w_ X C p (.UnaryOp .Not a pos) (Qp τ) :=
 {λβ R R' k h=>L.mono β _ _ (λb β' q=>k _ _ q) h,(Mc L.pt).pre λσ H Q Fm=>by let {β,own,s,h}:=Fm;exact nk.of L s h λb β' H1 aw q o=>q H1 aw o}
variable {rest:List Expr}
def Qw (τa τb:bg):bg:=λβ R=>τa β λt L=>if t=G then τb L R else R η L
def UN (τa τb:bg):bg:=λβ R=>τa β λt L=>if t=G then R G L else τb L R
def fx (L:w_ X C p a τ):rh X C p (.BoolOp .And [a] pos) τ:={L.mono,pw_and1 L.pt}
def jk (L:w_ X C p a τ):rh X C p (.BoolOp .Or [a] pos) τ:={L.mono,pw_or1 L.pt}
def Cs {p q:Bool}(z:(p&&q)=G):p=G:=by cases p <;> first|rfl|cases z
def OU {p q:Bool}(z:(p&&q)=G):q=G:=by cases p <;> first|exact z|cases z
def gX (Y:w_ X C p a τa)(O:rh X C p' (.BoolOp .And (b::rest) pos) τb):rh X C (p&&p') (.BoolOp .And (a::b::rest) pos) (Qw τa τb) :=
 ⟨λβ R R' k h=>Y.mono β _ _ (λt L q=>by
   cases t
   ·exact k _ _ q
   ·exact O.mono L _ _ k q) h,(pw_and Y.pt O.pw).pre λσ H Q ⟨β,own,s,h⟩=>nk.of Y s h λt L H1 aw q o1=>by
  cases t
  ·exact q H1 aw (o1.wk Cs)
  ·exact nk.of O.t o1.sq q λt' β2 H2 a7 q2 o2=>q2 H2 a7 (o1.trans o2)⟩
def lZ (Y:w_ X C p a τa)(O:rh X C p' (.BoolOp .Or (b::rest) pos) τb):rh X C (p&&p') (.BoolOp .Or (a::b::rest) pos) (UN τa τb) :=
 ⟨λβ R R' k h=>Y.mono β _ _ (λt L q=>by
   cases t
   ·exact O.mono L _ _ k q
   ·exact k _ _ q) h,(pw_or Y.pt O.pw).pre λσ H Q ⟨β,own,s,h⟩=>nk.of Y s h λt L H1 aw q o1=>by
  cases t
  ·exact nk.of O.t o1.sq q λt' β2 H2 a7 q2 o2=>q2 H2 a7 (o1.trans o2)
  ·exact q H1 aw (o1.wk Cs)⟩
def qOr (φa φb:aM):aM:=λβ R=>φa β λx _ L=>∃c,x=.bl c/\if c=G then R (.bl G) .own L else φb L R
def UO (φa:aM):aM:=λβ R=>φa β λx _ L=>∃c,x=.bl c/\R (.bl (!c)) .own L
def xV {op}(h:PQ X C p a φ):PQ X C p (.BoolOp op [a] pos) φ:={h.mono,Mo h.pe}
def zS {P:aas}{w:aaG}{Z:Hp×(μ->Prop)}{b:Bool}:KV P w C Z own H .own (.bl b) (.bl b):=KV.flat (W:=λ_=>False) rfl rfl
def zB (Y:PQ X C p a φa)(O:PQ X C p' (.BoolOp .Or (b::rest) pos) φb):PQ X C (p&&p') (.BoolOp .Or (a::b::rest) pos) (qOr φa φb) :=
 ⟨λβ R R' k h=>Y.mono β _ _ (λd kd L ⟨c,e,q⟩=>⟨c,e,by
   cases c
   ·exact O.mono L _ _ k q
   ·exact k _ _ _ q⟩) h,(Qz Y.pe O.pe).pre λσ H Q ⟨β,own,s,h⟩=>tQ.of Y s h λd kd L v H1 aw NW o1 r1=>by
  let {c,e,q}:=NW;subst e;cases r1.rep;refine{c,rfl,?_};cases c
  ·exact tQ.of O o1.sq q λd2 k2 β2 v2 H2 a7 q2 o2 r2=>q2 v2 H2 a7 (o1.trans o2) (r2.later o1.sn)
  ·exact q _ H1 aw (o1.wk Cs) zS⟩
def Mi (O:PQ X C p a φa):PQ X C p (.UnaryOp .Not a pos) (UO φa) :=
 ⟨λβ R R' k h=>O.mono β _ _ (λd kd L NV=>by let {c,e,q}:=NV;exact{c,e,k _ _ _ q}) h,(Mp O.pe).pre λσ H Q ⟨β,own,s,h⟩=>tQ.of O s h λd kd L v H1 aw NT o1 Y=>by
  let {c,e,q}:=NT;subst e;cases Y.rep;exact{c,rfl,q _ H1 aw o1 zS}⟩
def qIf (τ:bg)(φa φb:aM):aM:=λβ R=>τ β λc L=>if c=G then φa L R else φb L R
def zD {pc pa pb:Bool}(hc:w_ X C pc c τ)(ha:PQ X C pa a φa)(hb:PQ X C pb b φb):PQ X C (pc&&(pa&&pb)) (.IfExp c a b pos) (qIf τ φa φb) :=
 ⟨λβ R R' k h=>hc.mono β _ _ (λc L q=>by
   cases c
   ·exact hb.mono L _ _ k q
   ·exact ha.mono L _ _ k q) h,(DZ hc.pt ha.pe hb.pe).pre λσ H Q ⟨β,own,s,h⟩=>nk.of hc s h λc L H1 aw q o1=>by
  cases c
  ·exact tQ.of hb o1.sq q λd2 k2 O Y H2 a7 q2 o2 r2=>q2 Y H2 a7 (o1.xu o2 λz=>{Cs z,OU (OU z)}) (r2.later o1.sn)
  ·exact tQ.of ha o1.sq q λd2 k2 O Y H2 a7 q2 o2 r2=>q2 Y H2 a7 (o1.xu o2 λz=>{Cs z,Cs (OU z)}) (r2.later o1.sn)⟩
def qUn (g:D->Option D)(φa:aM):aM:=λβ R=>φa β λx _ L=>∃d,g x=M d/\d.flat=G/\R d .own L
def rJ {g:D->Option D}(ho:Ss X (unaryOp op) (YO X g))(O:PQ X C p a φa):PQ X C p (.UnaryOp op a pos) (qUn g φa) :=
 ⟨λβ R R' k h=>O.mono β _ _ (λx _ L W3=>by let {d,e,f,q}:=W3;exact{d,e,f,k _ _ _ q}) h,(DX ho O.pe).pre λσ H Q ⟨β,own,s,h⟩ =>
  tQ.of O s h λd1 k1 L v1 H1 aw WZ o1 r1=>by let {d,e,f,q}:=WZ;exact{_,d1,d,o1.sq.Av _,r1.rep,e,λv H' s2 Y=>q v H' aw (o1.same s2) (KV.flat f Y)}⟩
def Qq:bf:=λβ R=>R [] [] β
def Kz (pr:Bool)(φ:aM)(φs:bf):bf:=λβ R=>φ β λd k O=>hold k pr/\φs O λds ks L=>R (d::ds) (k::ks) L
def af:nh X C G [] Qq:={λβ R R' k h=>k _ _ _ h,f_.pre λσ H Q WY=>by let {β,own,s,q}:=WY;exact q [] H own (Out.refl s _) xa.nil}
def aa (ha:PQ X C p a φ)(Y:nh X C p' es φs)(hs:aaz (a::es) .f=(η,eval a .f)::aaz es .f:=by rfl):nh X C (p&&p') (a::es) (Kz p' φ φs) :=
 ⟨λβ R R' k h=>ha.mono β _ _ (λd kd L q=>{q.1,Y.mono L _ _ (λds ks O q2=>k _ _ _ q2) q.2}) h,(b6 ha.pe Y.pa hs).pre λσ H Q ⟨β,own,s,h⟩ =>
  tQ.of ha s h λd1 k1 L v1 H1 aw WX o1 r1=>by let {hh,h1}:=WX;exact oA.of Y o1.sq h1 λds ks O vs H2 a7 q o2 r2=>q (v1::vs) H2 a7 (o1.trans o2) (xa.cons r1 o2.sn (r1.ho o2 hh) r2 o1.sn)⟩
def UH (φs:bf):aM:=λβ R=>φs β λds ks L=>ds.length<=aaC/\CD ks ds λk=>R (.tup ds) k L
def Qr (φs:bf):aM:=λβ R=>φs β λds ks L=>ds.length<=aaC/\CD ks ds λk=>R (.lst ds) k L
def aR.same {P:aas}{w:aaG}{ds:List D}{vs:List V}{A:List μ}(s:ay H H')(h:aR P w H ds vs A):aR P w H' ds vs A:=h.keep (λb xs e=>s _ _ e) λc _ o e=>s c o e
def M3 {P:aas}{w:aaG}{Z:Hp×(μ->Prop)}{ks:List Kd}{ds:List D}{vs:List V}{K:Kd->Prop}{q:μ}(L:H q=ξ)(h:xa P w C Z own H ks ds vs)(m:CD ks ds K):∃k,K k/\KV P w C Z own (upd H q (.tup vs)) k (.tup ds) (.ref q):=by
 rcases m.of with⟨f,k⟩|k
 ·let {A,h1,Y,O}:=h;exact{_,k,A,{q,vs,rfl,az,(h1.Mu f).same (ay.new L)},Y,O}
 ·refine{_,k,?_};rw[<- k8];exact KV.of (by rw[k8];exact{q,vs,rfl,az,h.jE.same (ay.new L)})
def M4 {P:aas}{w:aaG}{Z:Hp×(μ->Prop)}{ks:List Kd}{ds:List D}{vs:List V}{K:Kd->Prop}{q:μ}(L:H q=ξ)(hd:Dm (Wn own) H)(Y:∀a,C.H0 a≠ξ->H a≠ξ)(hz:∀a,Z.1 a≠ξ->H a≠ξ)(h:xa P w C Z own H ks ds vs)(m:CD ks ds K):∃k,K k/\KV P w C Z own (upd H q (.lst vs)) k (.lst ds) (.ref q):=by
 rcases m.of with⟨f,k⟩|k
 ·let {A,O,h2,h3}:=h;refine{_,k,q::A,{q,vs,A,rfl,az,rfl,(O.Mu f).same (ay.new L)},aaX.mpr {λz=>O.rd q z L,h2},λc hc=>?_};rcases aat.mp hc with rfl|hc
  ·exact{abA λz=>hz c z L,λz=>hd c z L,abA λz=>Y c z L}
  ·exact h3 c hc
 ·refine{_,k,?_};have nq:¬ av C (Wn own) (gB ks) q:=λz=>by
   cases e:gB ks <;> rw[e]at z <;> first|exact z.elim (λz=>hd q z L) λz=>Y q z L|exact hd q z L|exact z
  rw[<- k8];exact KV.of (by rw[k8];exact{q,vs,rfl,az,nq,h.jE.same (ay.new L)})
def xa.length {ds:List D}(h:xa P w C Z own H ks ds vs):vs.length=ds.length:=h.jE.length
def bQ {x1}(h:nh X C p es φs):PQ X C p (.Tuple es x1 pos) (UH φs) :=
 ⟨λβ R R' k q=>h.mono β _ _ (λds ks L WW=>by let {l,q}:=WW;exact{l,q.mono λ_ z=>k _ _ _ z}) q,(Mm h.pa).pre λσ H Q ⟨β,own,s,q⟩=>oA.of h s q λds ks L vs H1 aw ⟨l,O⟩ o1 Y =>
  {by rw[Y.length];exact l,λq hq=>let ⟨k,O,r⟩:=M3 hq Y O;O _ _ aw (o1.same (ay.new hq)) r}⟩
def aK (h:nh X C p es φs):PQ X C p (.List es pos) (Qr φs) :=
 ⟨λβ R R' k q=>h.mono β _ _ (λds ks L WV=>by let {l,q}:=WV;exact{l,q.mono λ_ z=>k _ _ _ z}) q,(xY h.pa).pre λσ H Q ⟨β,own,s,q⟩=>oA.of h s q λds ks L vs H1 aw ⟨l,O⟩ o1 Y =>
  {by rw[Y.length];exact l,λq hq=>let ⟨k,O,r⟩:=M4 hq o1.sq.sC o1.sq.iE (λa z=>o1.sn.d a z) Y O;O _ _ aw (o1.same (ay.new hq)) r}⟩
end
section
variable {C:Cfg}{c:Expr}{φ φa φb:aM}{φs:bf}{β:a8}{own:Nat->List μ}{g:D->D->Option D}{N:D->Prop}
abbrev sP:=D->Kd->aM
structure TN (X:Cx)(C:Cfg)(ops:List ad2)(es:List Expr)(φ:sP):Prop where
 mono:∀x k β R R',.aC->φ x k β R->φ x k β R'
 ch:Lk X ops es λx σ H Q=>∃β own d k,SQ X C σ H β own/\Rp X (av C (Wn own) k) H d x/\φ d k β λd' k' β'=>∀v H',ay H H'->SQ X C σ H' β' own->KV X.prog X.w C (H,Wn own) own H' k' d' v->Q v H'
 cht:yY X ops es λx σ H Q=>∃β own d k,SQ X C σ H β own/\Rp X (av C (Wn own) k) H d x/\φ d k β λd' k' β'=>∃b,d'=.bl b/\∀H',ay H H'->SQ X C σ H' β' own->Q b H'
def L9 (g:D->D->Option D)(φb:aM):sP:=λx _ β R=>φb β λy _ L=>∃b,g x y=M (.bl b)/\R (.bl b) .own L
def HZ (g:D->D->Option D)(φb:aM)(φr:sP):sP:=λx _ β R=>φb β λy ky L=>∃k,g x y=M (.bl k)/\if k=G then φr y ky L R else R (.bl η) .own L
variable {op MB:ad2}{ops:List ad2}{rs:List Expr}{φr:sP}
def kL (ho:bo X (abv op) g)(O:PQ X C G b φb):TN X C [op] [b] (L9 g φb) :=
 ⟨λx k β R R' h q=>O.mono β _ _ (λy _ β1 lj=>by let {d,e,q}:=lj;exact{d,e,h _ _ _ q}) q,
  (OG ho O.pe).pre λx σ H Q cO=>by
    let {β,own,d,k,s,r,h}:=cO;exact tQ.of O s h λd2 k2 Y v2 H2 a7 t6 o2 r2=>by
      let {d',e,q}:=t6;let {s2,rfl}:=o2.pu rfl;exact{av C (Wn a7) (k.max k2),d,d2,.bl d',o2.sq.Av _,aA.aW eh (r.same s2),aA.aW ib r2.rep,e,λv H' L r3=>q v H' (s2.trans L) (o2.sq.same L) (KV.flat rfl r3)},
  (Kf ho O.pe).pre λx σ H Q lh=>by
    let {β,own,d,k,s,r,h}:=lh;exact tQ.of O s h λd2 k2 Y v2 H2 a7 Jv o2 r2=>by
      let {d',e,b,eb,q}:=Jv;let {s2,rfl}:=o2.pu rfl;cases eb;exact⟨av C (Wn a7) (k.max k2),d,d2,.bl d',o2.sq.Av _,aA.aW eh (r.same s2),aA.aW ib r2.rep,e,λv H' L r3=>by
        cases r3;exact{_,rfl,q H' (s2.trans L) (o2.sq.same L)}⟩⟩
def eG (ho:bo X (abv op) g)(hb:PQ X C G b φb)(hc:TN X C (MB::ops) (c::rs) φr):TN X C (op::MB::ops) (b::c::rs) (HZ g φb φr) :=
 ⟨λx k β R R' h q=>hb.mono β _ _ (λy ky β1 ⟨d,e,q⟩=>⟨d,e,by
   cases d
   ·exact h _ _ _ q
   ·exact hc.mono y ky β1 _ _ h q⟩) q,
  (Kg ho hb.pe hc.ch).pre λx σ H Q Rj=>by
    let {β,own,d,k,s,r,h}:=Rj;exact tQ.of hb s h λY k2 O v2 H2 a7 Fj o2 r2=>by
      let {t,e,q}:=Fj;let {s2,rfl}:=o2.pu rfl;refine{av C (Wn a7) (k.max k2),d,Y,.bl t,o2.sq.Av _,aA.aW eh (r.same s2),aA.aW ib r2.rep,e,λv H' L r3=>?_};cases r3;refine{t,rfl,?_};cases t
      · exact q _ H' (s2.trans L) (o2.sq.same L) zS
      · exact{O,a7,Y,k2,o2.sq.same L,r2.rep.same L,hc.mono Y k2 O _ _ (λd' k' β' q' v GZ s4 sq r4=>q' v GZ ((s2.trans L).trans s4) sq (r4.later ((o2.same L).sn))) q},
  (Gm ho hb.pe hc.cht).pre λx σ H Q Ni=>by
    let {β,own,d,k,s,r,h}:=Ni;exact tQ.of hb s h λY k2 O v2 H2 a7 yy o2 r2=>by
      let {t,e,q}:=yy;let {s2,rfl}:=o2.pu rfl;refine{av C (Wn a7) (k.max k2),d,Y,.bl t,o2.sq.Av _,aA.aW eh (r.same s2),aA.aW ib r2.rep,e,λv H' L r3=>?_};cases r3;refine{t,rfl,?_};cases t
      · let {b,eb,q}:=q;cases eb;exact q H' (s2.trans L) (o2.sq.same L)
      · exact{O,a7,Y,k2,o2.sq.same L,r2.rep.same L,hc.mono Y k2 O _ _ (λd' k' β' yx=>by let {b,eb,q'}:=yx;exact{b,eb,λGZ s4 sq=>q' GZ ((s2.trans L).trans s4) sq}) q}⟩
def xP (φa:aM)(φr:sP):aM:=λβ R=>φa β λx k L=>φr x k L R
def iM (O:PQ X C G a φa)(hc:TN X C (oZ::oY::ops) (b::c::rs) φr)(hm:lastMarks (oZ::oY::ops) (b::c::rs)=η:=by with_unfolding_all rfl):
  PQ X C G (.Compare a (oZ::oY::ops) (b::c::rs) pos) (xP φa φr) :=
 ⟨λβ R R' k h=>O.mono β _ _ (λx kx L q=>hc.mono x kx L _ _ k q) h,(Bw O.pe hc.ch hm).pre λσ H Q ⟨β,own,s,h⟩=>tQ.of O s h λd k L v H1 aw q o1 r1=>by
  let {s1,rfl}:=o1.pu rfl;exact{L,aw,d,k,o1.sq,r1.rep,hc.mono d k L _ _ (λd' k' β' q' v GZ Y sq r4=>q' v GZ aw {sq,o1.sn.same Y,λ_=>{s1.trans Y,rfl},o1.le} (r4.later o1.sn)) q}⟩
abbrev wZ:=a8->(Option Int->a8->Prop)->Prop
structure Py (X:Cx)(C:Cfg)(e:Option Expr)(φ:wZ):Prop where
 mono:∀β R R',(∀d β,R d β->R' d β)->φ β R->φ β R'
 po:PO X e λσ H Q=>∃β own,SQ X C σ H β own/\φ β λo β'=>∀H',ay H H'->SQ X C σ H' β' own->Q o H'
def bq:Py X C ξ (λβ R=>R ξ β):={λβ R R' k h=>k _ _ h,tG.pre λσ H Q Fp=>by let {β,own,s,q}:=Fp;exact q H .aG s}
def a_ (O:PQ X C G a φ):Py X C (M a) (λβ R=>φ β λd _ L=>∃i,d=.int i/\R (M i) L) :=
 ⟨λβ R R' k h=>O.mono β _ _ (λd _ L Fo=>by let {i,e,q}:=Fo;exact{i,e,k _ _ q}) h,(tF O.pe).pre λσ H Q ⟨β,own,s,h⟩=>tQ.of O s h λd k L v H1 aw NZ o1 Y=>by
  let {i,e,q}:=NZ;subst e;cases Y.rep;let {s1,rfl}:=o1.pu rfl;exact{i,rfl,q H1 s1 o1.sq}⟩
def qSl (φ:aM)(φl φh:wZ):aM:=λβ R=>φ β λx k Y=>φl Y λl O=>φh O λh L=>∃d,Hj x l h=M d/\kN NL d k.wk λk'=>R d k' L
def zd {k:Kd}:k.wk.wk=k.wk:=by cases k <;> rfl
def wO :∀c,av C W k.wk c->av C W k c:=λc h=>by cases k <;> exact h
def jJ {lo hi:Option Expr}{φl φh:wZ}{p2:Pos}(ha:PQ X C p a φ)(hl:Py X C lo φl)(hh:Py X C hi φh):PQ X C p (.Subscript a (.Slice lo hi ξ p2) pos) (qSl φ φl φh) :=
 ⟨λβ R R' k h=>ha.mono β _ _ (λx kx O q=>hl.mono O _ _ (λl L q=>hh.mono L _ _ (λu β3 Fn=>by let {d,e,q}:=Fn;exact{d,e,q.mono λ_ z=>k _ _ _ z}) q) q) h,
  (kM zh ha.pe hl.po hh.po).pre λσ H Q ⟨β,own,s,h⟩=>tQ.of ha s h λd k O v H1 aw q o1 r1 =>
    ⟨O,aw,o1.sq,hl.mono O _ _ (λl L q H2 s2 P5=>⟨L,aw,P5,hh.mono L _ _ (λu β3 Fm H3 Y HI=>by
      let {d',e,q}:=Fm;refine{av C (Wn aw) k.wk,d,d',HI.Av _,((aA.aW wO r1.rep).same s2).same Y,e,λv H' s4 r4 n4=>?_};let {k',q,r}:=KV.kN (Z:=(H,Wn own)) zd r4 (λn=>fU (H:=H3) HI.sC HI.iE (λa z e=>o1.sn.d a z (s2.free (Y.free e))) n (n4 n)) q;exact q v H' aw {HI.same s4,o1.sn.same ((s2.trans Y).trans s4),λz=>{(o1.pu z).1.trans ((s2.trans Y).trans s4),(o1.pu z).2},o1.le} r) q⟩) q⟩⟩
def Qg (X:Cx)(f:List D->Option D)(N:D->Prop):List V->Hp->VK->Prop:=λxs H Q=>∃W ds d,Dm W H/\jO X W H ds xs/\f ds=M d/\∀v H',ay H H'->Rp X W H' d v->(N d->Rp X (λa=>H a≠ξ) H' d v)->Q v H'
abbrev G3 (X:Cx)(f:aam)(g:List D->Option D)(N:D->Prop):Prop:=gJ X f (Qg X g N)
def bH.m {g:List D->Option D}(h:bH X f g):G3 X f g NF:=λχ s σ H xs us Q I r Nj=>by
 let {W,ds,d,hd,L,e,q}:=Nj;exact h χ s σ H xs us Q I r {W,ds,d,hd,L,e,λv H' s r=>q v H' s r λf=>aA.flat f r}
def ie (g:List D->Option D)(N:D->Prop)(φs:bf):aM:=λβ R=>φs β λds ks L=>∃d,g ds=M d/\kN N d (gB ks) λk=>R d k L
variable {x:Str}{id T:String}{gs:List D->Option D}
def ie.mono (h:nh X C p es φs):∀β R R',.aC->ie gs N φs β R->ie gs N φs β R':=λβ R R' k q=>h.mono β _ _ (λds ks L O=>by let {d,e,q}:=O;exact{d,e,q.mono λ_ z=>k _ _ _ z}) q
def kK (hn:Ho N)(h:nh X C p es φs):∀σ H Q,tQ X C p (ie gs N φs) σ H Q->Um (Qg X gs N) (oA X C p φs) σ H Q:=λσ H Q VW=>by
 let {β,own,s,q}:=VW;exact oA.of h s q λds ks L vs H1 aw W6 o1 Y=>by
  let {d,e,q1}:=W6;refine{av C (Wn aw) (gB ks),ds,d,o1.sq.Av _,Y.jE,e,λv H' s2 O n2=>?_};let {k',q,r}:=KV.kN (Z:=(H,Wn own)) k8 O (λn=>fU (H:=H1) o1.sq.sC o1.sq.iE (λa z=>o1.sn.d a z) (hn.nl _ n) (n2 n)) q1;exact q v H' aw (o1.same s2) r
def aV (JB:Ho N)(hc:G3 X (.builtin id) gs N)(hm:X.mg x=ξ)(O:abt x=M (.builtin id))(L:nh X C p (e::es) φs)(hg:Gl X x:=by rfl)(Y:x≠"__name__" := by decide)(hdb:.ai=η:=by decide)
  (iy:aaz (e::es) .f=.aE::aaz es .f:=by rfl) (hpl:(abN pos (aaz es .f)).any (·.1)=η:=by rfl) :
  PQ X C p (.Call (.Name x pp) (e::es) [] pos) (ie gs N φs):={ie.mono L,(kP hc hg hm O L.pa Y hdb (he:=iy) (hpl:=hpl)).pre (kK JB L)}
def d3 (JB:Ho N)(hc:G3 X (.type T) gs N)(hm:X.mg x=ξ)(O:abt x=M (.type T))(L:nh X C p (e::es) φs)(hg:Gl X x:=by rfl)(Y:x≠"__name__" := by decide)(hdb:.ai=η:=by decide)
  (iy:aaz (e::es) .f=.aE::aaz es .f:=by rfl) (hpl:(abN pos (aaz es .f)).any (·.1)=η:=by rfl) :
  PQ X C p (.Call (.Name x pp) (e::es) [] pos) (ie gs N φs):={ie.mono L,(Bx hc hg hm O L.pa Y hdb (he:=iy) (hpl:=hpl)).pre (kK JB L)}
end
def rj (P:aas)(w:aaG)(ro:Bool)(H H':Hp)(d:D)(v:V):Prop:=match ro with
 |true=>∃A,Own P w H' d v A/\A.Nodup/\∀c∈A,H c=ξ
 |false=>aA P w (λa=>H a≠ξ) H' d v
abbrev rk (ro:Bool):Kd:=match ro with|true=>.own|false=>.dM
def dz (P:aas)(w:aaG)(ro:Bool)(F:FD):Sp:=λvs H Q _=>∃ds,aj P w (λ_=>False) H ds vs/\F ds λd=>∀v H',ay H H'->rj P w ro H H' d v->Q v H'
def fJ (P:aas)(w:aaG)(ok:List Int->Prop)(ro:Bool)(F:FD):Sp:=λvs H Q _=>∃h vs' ds ns,vs=.ref h::vs'/\H h=M (.lst (ns.map V.int))/\ok ns/\aj P w (λa=>a=h) H ds vs' /\
 F ds λd=>∀v H' uq,Kp (·=h) H H'->(∀c,H c≠ξ->H' c≠ξ)->H' h=M (.lst (uq.map V.int))->ok uq->rj P w ro H H' d v->Q v H'
section
variable {C:Cfg}{k ih:Nat}{f:μ}{F:FD}{ro:Bool}{x hx:Str}{φs:bf}{ok:List Int->Prop}{β:a8}{own:Nat->List μ}
def rj.kv (hd:Dm (Wn own) H)(O:∀a,C.H0 a≠ξ->H a≠ξ)(hz:∀a,Z.1 a≠ξ->H a≠ξ)(h:rj P w ro H H' d v):KV P w C Z own H' (rk ro) d v:=by
 cases ro with
 |true =>
  let {A,h1,Y,L}:=h;exact{A,h1,Y,λc hc=>{abA λz=>hz c z (L c hc),λz=>hd c z (L c hc),abA λz=>O c z (L c hc)}}
 |false=>exact aA.aW (λa z=>z.elim (hd a) (O a)) h
def Qo (ro:Bool)(F:FD)(φs:bf):aM:=λβ R=>φs β λds _ L=>F ds λd=>R d (rk ro) L
def aX (mF:cH F)(L:aG X.prog X.w X.K X.mg X.base bP k f fd ps (dz X.prog X.w ro F))(hr:ck k X.A)(hm:X.mg x=M (.ref f))(hk:Β X.K (.ref f)=G)(hb:Binds X.K fd ps [])(Y:nh X C p (e::es) φs)(hg:Gl X x:=by rfl)
  (hdb:.ai=η:=by decide)
  (iy:aaz (e::es) .f=.aE::aaz es .f:=by rfl) (hpl:(abN pos (aaz es .f)).any (·.1)=η:=by rfl) :
  PQ X C p (.Call (.Name x pp) (e::es) [] pos) (Qo ro F φs) :=
 ⟨λβ R R' k h=>Y.mono β _ _ (λds ks O q=>mF ds _ _ (λd q=>k _ _ _ q) q) h,(tJ L hr hg hm hk hb .nil zK Y.pa (hdb:=hdb) (he:=iy) (hpl:=hpl)).pre λσ H Q ⟨β,own,s,h⟩=>oA.of Y s h λds ks O vs H1 aw q o1 r1=>by
  rw[abR];exact{ds,r1.bor,mF ds _ _ (λd q2 v H' s2 r2=>q2 v H' aw (o1.same s2) (r2.kv o1.sq.sC o1.sq.iE λa z=>o1.sn.d a z)) q}⟩
def cy.drawn {i:Nat}{h:μ}{uq:List Int}(b:cy P w C σ H β own)(e:β[i]?=M (M (.hand ok)))(hσ:σ[i]?=M (M (.ref h)))(k:Kp (·=h) H H')(e':H' h=M (.lst (uq.map V.int)))(o':ok uq)(dn:∀c,H c≠ξ->H' c≠ξ):cy P w C σ H' β own:=by
 let {a,ns,h1,h2,h3,h4,h5}:=b.pM i ok e;rw[hσ]at h1;cases h1;have wh:Wn own h:={i,by rw[h4];simp}
 have kW:∀y,Kp (jx C (Wn own) (yk y)) H H':=λy=>k.mono λc z=>by rw[z];cases y <;> first|exact .inl wh|exact .inl (.inl wh)
 have ne:∀j,j≠i->∀c∈own j,c≠h:=λj hj c hc z=>hj (b.nC j i c hc (by rw[h4,z];simp))
 refine⟨b.len,λj y d e=>let ⟨v,Y,O⟩:=b.val j y d e;{v,Y,O.keep (kW y)},λj d ej=>?_,λj CB ej=>?_,λj c hc=>?_,b.nC,b.ph,{λc o z n=>?_,λc xs z=>k.tup c xs (b.kp.tup c xs z)},λc z=>dn c (b.iE c z),λj y d ej=>by
  let {v,Y,O,L}:=b.shl j y d ej;have hj:j≠i:=λz=>by rw[z,e]at ej;cases ej
  exact{v,Y,O.map (λc hc o eo=>k.out c o eo (ne j hj c hc)) (λ_ _ r=>r.keep (kW G)),L}⟩
 ·let {v,Y,O,L}:=b.ow j d ej;have hj:j≠i:=λz=>by rw[z,e]at ej;cases ej
  exact{v,Y,O.keep k.tup (λc hc o eo=>k.out c o eo (ne j hj c hc)),L}
 ·by_cases hj:j=i
  ·subst hj;rw[e]at ej;cases ej;exact{(h),uq,hσ,e',o',h4,h5}
  ·let {a,ms,Y,O,L,g4,g5}:=b.pM j CB ej;exact{a,ms,Y,k.out a _ O (ne j hj a (by rw[g4];simp)),L,g4,g5}
 ·let {Y,O,L}:=b.dm j c hc
  by_cases Ab:c=h
  ·rw[Ab,e'];rw[Ab]at L;exact{λz=>.au,λxs z=>(by cases z),L}
  ·cases q:H c with
   |none=>exact Κ q Y
   |some o=>rw[k.out c o q Ab];exact{λz=>.au,λxs z=>O xs (by rw[q];exact z),L}
 ·refine k.out c o (b.kp.out c o z n) λq=>?_;subst q;rcases (b.dm i c (by rw[h4];simp)).2.2.1 with z0|z0
  ·rw[z0]at z;cases z
  ·exact n z0
def Qv (ih:Nat)(ok:List Int->Prop)(ro:Bool)(F:FD)(φs:bf):aM:=λβ R=>β[ih]?=M (M (.hand ok))/\φs β λds ks L=>L[ih]?=M (M (.hand ok))/\hold (gB ks) η/\F ds λd=>R d (rk ro) L
def aP (mF:cH F)(L:aG X.prog X.w X.K X.mg X.base bP k f fd ps (fJ X.prog X.w ok ro F))(hr:ck k X.A)(hm:X.mg x=M (.ref f))(hk:Β X.K (.ref f)=G)(hb:Binds X.K fd ps [])(ha:nh X C p es φs)(hn:Nm X ih hx:=by exact CC)(hg:Gl X x:=by rfl)(hdb:.ai=η:=by decide)
  (iy:aaz (.Name hx px::es) .f=(η,eval (.Name hx px) .f)::aaz es .f:=by rfl) (hpl:(abN pos (aaz es .f)).any (·.1)=η:=by rfl) :
  PQ X C η (.Call (.Name x pp) (.Name hx px::es) [] pos) (Qv ih ok ro F φs) :=
 ⟨λβ R R' k W4=>by let {e,h}:=W4;exact{e,ha.mono β _ _ (λds ks Y NX=>by let {e,O,q}:=NX;exact{e,O,mF ds _ _ (λd q=>k _ _ _ q) q}) h},
  (tJ L hr hg hm hk hb .nil zK (b6 (ij (pos:=px) hn) ha.pa iy) (hdb:=hdb) (he:=iy) (hpl:=hpl)).pre λσ H Q NW=>by
  let {β,own,s,e,h}:=NW;let {O,ns,h1,h2,h3,h4}:=s.pM ih ok e;refine{.ref O,h1,oA.of ha s h λds ks Y vs H1 aw gC o1 r1=>?_};let {e1,ho,q}:=gC;let {hh',ns1,g1,g2,g3,g4,g5}:=o1.sq.pM ih ok e1;rw[h1]at g1;cases g1;have wh:Wn aw O:={ih,by rw[g4];simp}
  rw[abR];refine{O,vs,ds,ns1,rfl,g2,g3,aj.aW (λa z=>?_) r1.jE,mF ds _ _ (λd q v H' uq kp dn e' CB r=>?_) q}
  ·subst z;cases hk:gB ks with
   |own=>exact .inl wh
   |dM=>exact .inl wh
   |old=>exact wh
   |bor=>rw[hk]at ho;exact ho.elim
  ·exact q v H' aw {o1.sq.drawn e1 h1 kp e' CB dn,o1.sn.kp (kp.mono λb z=>by rw[z];exact wh) dn,λz=>.au,o1.le} (r.kv o1.sq.sC o1.sq.iE λa z=>o1.sn.d a z)⟩
end
abbrev Cfg.z (C:Cfg):Cfg:=C.u λ_=>False
def SB (X:Cx)(C:Cfg)(Z:Hp×(μ->Prop))(σ:St)(H:Hp)(β:a8):Prop:=∃own,SQ X C.z σ H β own/\Sn Z H (Wn own)
structure dq where
 nx:a8->Prop
 rt:D->a8->Prop
 bk:a8->Prop:=λ_=>False
 ct:a8->Prop:=λ_=>False
def dq.up (E:dq)(n:a8->Prop):dq:={(n),E.rt,E.bk,E.ct}
def dq.lp (E:dq)(n:a8->Prop):dq:={(n),E.rt,E.nx,n}
structure ZU (X:Cx)(C:Cfg)(Z:Hp×(μ->Prop))(E:dq)(D:Ends):Prop where
 nx:∀σ H β,SB X C Z σ H β->E.nx β->D.nx σ H
 rt:∀σ H β d v,SB X C Z σ H β->rj X.prog X.w C.ro C.H0 H d v->E.rt d β->D.rt v H
 bk:∀σ H β,SB X C Z σ H β->E.bk β->D.bk σ H
 ct:∀σ H β,SB X C Z σ H β->E.ct β->D.ct σ H
structure Le (E E':dq):Prop where
 nx:∀β,E.nx β->E'.nx β
 rt:∀d β,E.rt d β->E'.rt d β
 bk:∀β,E.bk β->E'.bk β
 ct:∀β,E.ct β->E'.ct β
abbrev Cu:=dq->a8->Prop
def ap (ψ:Cu)(E:dq)(β:a8):Prop:=ψ E β
def eN (R:D->Prop):dq:={nx:=λ_=>R .cI,rt:=λd _=>R d}
def eH (ok:List Int->Prop)(R:D->Prop):dq:={nx:=λ_=>False,rt:=λd β=>β[0]?=M (M (.hand ok))/\R d}
def YG (X:Cx)(C:Cfg)(ψ:Cu):TS:=λD σ H=>∃Z E β,SB X C Z σ H β/\ψ E β/\ZU X C Z E D
structure PB (X:Cx)(C:Cfg)(st:Stmt)(ψ:Cu):Prop where
 mono:∀E E' β,Le E E'->ψ E β->ψ E' β
 ps:PS X st (YG X C ψ)
structure qE (X:Cx)(C:Cfg)(st:List Stmt)(ψ:Cu):Prop where
 mono:∀E E' β,Le E E'->ψ E β->ψ E' β
 ps:sQ X st (YG X C ψ)
section
variable {C:Cfg}{st:Stmt}{rest a b:List Stmt}{ψ ψ1 ψ2:Cu}{Z:Hp×(μ->Prop)}{β β':a8}{c:Expr}{φ:aM}{τ:bg}{own aZ:Nat->List μ}{x:Str}
def Out.sb (n:Sn Z H (Wn own))(o:Out X C.z σ H own p β' H' aZ):SB X C Z σ H' β':={aZ,o.sq,n.trans o.sn}
def bx:qE X C [] (λE β=>E.nx β):={λE E' β l h=>l.nx β h,zv.pre λD σ H lj=>by let {Z,E,β,sb,h,ok}:=lj;exact ok.nx σ H β sb h}
def ah (O:PB X C st ψ1)(L:qE X C rest ψ2):qE X C (st::rest) (λE β=>ψ1 (E.up (ap ψ2 E)) β) :=
 ⟨λE E' β l h=>O.mono {E with nx:=ψ2 E} {E' with nx:=ψ2 E'} β {λβ' q=>L.mono E E' β' l q,l.rt,l.bk,l.ct} h,(c6 O.ps L.ps).pre λD σ H ⟨Z,E,β,sb,h,ok⟩ =>
  {Z,{E with nx:=ψ2 E},β,sb,h,{λσ' H' β' xK h'=>{(Z),E,β',xK,h',ok},ok.rt,ok.bk,ok.ct}}⟩
def ao (L:PB X C st ψ):qE X C [st] ψ:={L.mono,jj L.ps}
def nQ (O:PB X C st ψ1)(L:qE X C rest ψ2):qE X C (st::rest) (λE β=>∃J:a8->Prop,ψ1 (E.up J) β/\∀β',J β'->ap ψ2 E β') :=
 ⟨λE E' β l Y=>by let {J,h,k}:=Y;exact{J,O.mono {E with nx:=J} {E' with nx:=J} β {λ_ q=>q,l.rt,l.bk,l.ct} h,λβ' q=>L.mono E E' β' l (k β' q)},(c6 O.ps L.ps).pre λD σ H ⟨Z,E,β,sb,⟨J,h,k⟩,ok⟩ =>
  {Z,{E with nx:=J},β,sb,h,{λσ' H' β' xK h'=>{Z,E,β',xK,k β' h',ok},ok.rt,ok.bk,ok.ct}}⟩
def dk:qE X C a (λ_ _=>False):={λ_ _ _ _ h=>h.elim,Bn.pre λD σ H Fj=>by let {Z,E,β,sb,h,ok}:=Fj;exact h.elim}
def cn (hc:w_ X C.z p c τ)(O:qE X C a ψ1)(L:qE X C b ψ2):PB X C (.If c a b pos) (λE β=>τ β λt β'=>if t=G then ap ψ1 E β' else ap ψ2 E β') :=
 ⟨λE E' β l h=>hc.mono _ _ _ (λt β' q=>by
   cases t
   ·exact L.mono E E' β' l q
   ·exact O.mono E E' β' l q) h,(KA hc.pt O.ps L.ps).pre λD σ H Ju=>by
  obtain⟨Z,E,β,⟨own,s,n⟩,h,ok⟩:=Ju;refine nk.of hc s h λt β' H1 aw q o1=>?_;cases t
  ·exact{Z,E,β',o1.sb n,q,ok}
  ·exact{Z,E,β',o1.sb n,q,ok}⟩
abbrev KQ (d:D)(k:Kd)(K:B->Prop):Prop:=match k with
 |.own=>K (.val G d)
 |.dM=>K (.val G d)
 |.old=>K (.val η d)
 |.bor=>d.flat=G/\K (.val G d)
def KQ.mono {K K':B->Prop}(h:∀b,K b->K' b)(q:KQ d k K):KQ d k K':=by
 cases k <;> first|exact h _ q|exact⟨q.1,h _ q.2⟩
def KQ.of {K:B->Prop}(r:KV P w C Z own H k d v)(q:KQ d k K):∃y,K (.val y d)/\aA P w (av C (Wn own) (yk y)) H d v:=by
 cases k with
 |own=>exact{(G),q,r.dM}
 |dM=>exact{(G),q,r}
 |old=>exact{(η),q,r}
 |bor=>exact{G,q.2,aA.flat q.1 r}
def s9 (n:Sn Z H (Wn own)):Sn Z H (Wn (aY own i [])):={λb z=>n.w b (iF z),n.k,n.d}
def aJ (he:PQ X C.z p e φ)(Y:X.N.Nodup)(hi:X.N[i]?=M x:=by rfl)(L:Loc X.env.scope x:=by first|exact .inl rfl|exact .inr rfl)
  (hs:acD e (M (.Name x pos')) pos.line .f=pure η:=by rfl) (O:X.fn x=G\/X.env.scope.names.lookup x=M .local:=by first|exact .inl rfl|exact .inr rfl|assumption) :
  PB X C (.Assign [.Name x pos'] e pos) (λE β=>φ β λd k β'=>KQ d k λb=>E.nx (β'.set i (M b))) :=
 ⟨λE E' β l q=>he.mono _ _ _ (λd k β' q=>q.mono λ_=>l.nx _) q,(lX Y hi L he.pe hs O).pre λD σ H ⟨Z,E,β,⟨own,s,n⟩,q,ok⟩=>tQ.of he s q λd k β' v H' aZ q o r=>by
  let {y,q,r}:=q.of r;exact ok.nx _ _ _ {_,o.sq.iG (aA.aW (λa z=>z.elim id λz=>z.elim) r),s9 (n.trans o.sn)} q⟩
abbrev Ha (k:Kd)(d:D):Prop:=match k with
 |.own=>True
 |_=>d.flat=G
def KV.fl (f:Ha k d)(r:KV P w C Z own H k d v):KV P w C Z own H .own d v:=by
 cases k with
 |own=>exact r
 |dM=>exact KV.flat f r.rep
 |old=>exact KV.flat f r.rep
 |bor=>exact KV.flat f r.rep
def cm (he:∀U,PQ X (C.u U) p e φ)(hN:X.N.Nodup)(hi:X.N[i]?=M x:=by rfl)(O:Loc X.env.scope x:=by first|exact .inl rfl|exact .inr rfl)
  (hs:acD e (M (.Name x pos')) pos.line .f=pure η:=by rfl) (Y:X.fn x=G\/X.env.scope.names.lookup x=M .local:=by first|exact .inl rfl|exact .inr rfl|assumption) :
  PB X C (.Assign [.Name x pos'] e pos) (λE β=>φ β λd k β'=>Ha k d/\E.nx (β'.set i (M (.own d)))) :=
 ⟨λE E' β l q=>(he λ_=>False).mono _ _ _ (λd k β' q=>{q.1,l.nx _ q.2}) q,λχ s σ H D I ⟨Z,E,β,⟨own,sq,n⟩,q,ok⟩ =>
  lX hN hi O (he λa=>H a=ξ).pe hs Y χ s σ H D I (tQ.of (he λa=>H a=ξ) (sq.oj (C:=C.z) (U:=λa=>H a=ξ) λa z=>z) q λd k β' v H' aZ Fs o r=>by
   let {f,q}:=Fs;let {A,h1,h2,L}:=r.fl f;refine ok.nx _ _ _ {_,o.sq.xI h1 h2 λc hc=>{(L c hc).2.2,(L c hc).2.1,(L c hc).1},?_} q;have m:=n.trans o.sn;exact⟨λb W_=>by
    let {j,hj}:=W_
    by_cases aN:i=j
    ·rw[<- aN,os_eq]at hj;exact .inr (n.free (L b hj).1)
    ·rw[bM aN]at hj;exact m.w b {(j),hj},m.k,m.d⟩)⟩
def cy.Ma {P:aas}{w:aaG}{U U2:μ->Prop}{d d':D}{v:V}{A':List μ}{c:μ}{o:HO}(b:cy P w (C.u U) σ H β own)(e:β[i]?=M (M (.own d)))(hσ:σ[i]?=M (M v))(hc:c∈own i)
  (r:Own P w (upd H c o) d' v A') (nd:A'.Nodup) (hA:∀a∈A',a∈own i\/(C.H0 a=ξ/\¬ Wn own a/\U a)) (hU:∀a,U2 a->U a) (X0:∀a∈A',¬ U2 a):cy P w (C.u U2) σ (upd H c o) (β.set i (M (.own d'))) (aY own i A'):=by
 let {g1,g2,g3,g4}:=b.dm i c hc;obtain⟨oc,Jz⟩:∃oc,H c=M oc:=by
  cases q:H c with
  |none=>exact Κ q g1
  |some oc=>exact{(oc),rfl}
 have ht:∀xs,oc≠.tup xs:=λxs z=>g2 xs (by rw[Jz,z])
 have k:Kp (·=c) H (upd H c o):=pE Jz ht;have h0:∀a∈own i,C.H0 a=ξ:=by let {_x,_x,_x,h}:=b.ow i d e;exact h
 have wc:Wn own c:={(i),hc};have sub:∀y a,jx (C.u U2) (Wn (aY own i A')) (yk y) a->jx (C.u U) (Wn own) (yk y) a:=λy a h=>by
  have q:∀a,Wn (aY own i A') a->Wn own a\/U a:=λa yw=>by
   let {j,q}:=yw
   by_cases aN:i=j
   ·rw[aN,os_eq]at q;rcases hA a q with z|z
    ·exact .inl {(i),z}
    ·exact .inr z.2.2
   ·rw[bM aN]at q;exact .inl {(j),q}
  rcases h with h|h
  ·cases y with
   |true=>exact h.elim (λz=>(q a z).imp .inl id) λz=>.inl (.inr z)
   |false=>exact q a h
  ·exact .inr (hU a h)
 have mem:∀{j c},c∈aY own i A' j->(i=j/\c∈A')\/(i≠j/\c∈own j):=λ{j c} h=>by
  by_cases aN:i=j
  ·subst aN;rw[os_eq]at h;exact .inl {(rfl),h}
  ·rw[bM aN]at h;exact .inr {(aN),h}
 have S9:∀j,i≠j->∀a∈own j,a≠c:=λj aN a ha z=>aN (b.nC i j c hc (by rw[<- z];exact ha))
 refine⟨by simp[b.len],λj y' d2 O=>?_,λj d2 O=>?_,λj ok O=>?_,λj a h=>?_,λj k2 a Y L=>?_,λj=>?_,{λa oa z n=>?_,λa xs z=>k.tup a xs (b.kp.tup a xs z)},λa z=>?_,λj y' d2 O=>by
  by_cases aN:i=j
  ·subst aN;let {e',hl}:=ba O;cases e'
  ·rw[a6 aN]at O;rw[bM aN];let {u,Y,L,h3}:=b.shl j y' d2 O;exact{u,Y,L.map (λa ha oa ea=>k.out a oa ea (S9 j aN a ha)) (λ_ _ r=>aj.aW (sub _) (r.keep (k.mono λa z=>by rw[z];cases y' <;> first|exact .inl wc|exact .inl (.inl wc)))),h3}⟩
 ·by_cases aN:i=j
  ·subst aN;let {e',hl}:=ba O;cases e'
  ·rw[a6 aN]at O;let {u,Y,L}:=b.val j y' d2 O;exact{u,Y,(L.keep (k.mono λa z=>by rw[z];cases y' <;> first|exact .inl wc|exact .inl (.inl wc))).aW (sub _)}
 ·by_cases aN:i=j
  ·subst aN;let {e',hl}:=ba O;cases e';rw[os_eq];exact{v,hσ,r,λa ha=>(hA a ha).elim (h0 a) λz=>z.1}
  ·rw[a6 aN]at O;rw[bM aN];let {u,Y,L,h3}:=b.ow j d2 O;exact{u,Y,L.keep k.tup (λa ha oa ea=>k.out a oa ea (S9 j aN a ha)),h3}
 ·by_cases aN:i=j
  ·subst aN;let {e',hl}:=ba O;cases e'
  ·rw[a6 aN]at O;rw[bM aN];let {a,ns,Y,L,h3,h4,h5}:=b.pM j ok O;exact{a,ns,Y,k.out a _ L (S9 j aN a (by rw[h4];simp)),h3,h4,h5}
 ·rcases mem h with⟨_,h⟩|⟨aN,h⟩
  ·exact{(r.rd a h).1,(r.rd a h).2,.inl ((hA a h).elim (h0 a) λz=>z.1),X0 a h}
  ·let {q1,q2,q3,q4}:=b.dm j a h;rw[au (S9 j aN a h)];exact{q1,q2,q3,λz=>q4 (hU a z)}
 ·rcases mem Y with⟨e1,Y⟩|⟨n1,Y⟩
  ·rcases mem L with⟨O,L⟩|⟨n2,L⟩
   ·rw[<- e1,<- O]
   ·rcases hA a Y with z|z
    ·exact Κ (b.nC i k2 a z L) n2
    ·exact Κ {(k2),L} z.2.1
  ·rcases mem L with⟨O,L⟩|⟨n2,L⟩
   ·rcases hA a L with z|z
    ·exact Κ (b.nC i j a z Y) n1
    ·exact Κ {(j),Y} z.2.1
   ·exact b.nC j k2 a Y L
 ·by_cases aN:i=j
  ·rw[<- aN,os_eq];exact nd
  ·rw[bM aN];exact b.ph j
 ·refine k.out a oa (b.kp.out a oa z n) λq=>?_;subst q;rw[h0 a hc]at z;cases z
 ·by_cases Zy:a=c
  ·rw[Zy,az];exact λz=>.au
  ·rw[au Zy];exact b.iE a z
def cy.putIn {P:aas}{w:aaG}{U:μ->Prop}{d d':D}{v:V}{A':List μ}{c:μ}{o:HO}(b:cy P w (C.u U) σ H β own)(e:β[i]?=M (M (.own d)))(hσ:σ[i]?=M (M v))(hc:c∈own i)
  (r:Own P w (upd H c o) d' v A') (nd:A'.Nodup) (L:∀a∈A',a∈own i\/(C.H0 a=ξ/\¬ Wn own a/\U a)):cy P w C.z σ (upd H c o) (β.set i (M (.own d'))) (aY own i A') :=
 b.Ma (U2:=λ_=>False) e hσ hc r nd L (λ_ z=>z.elim) λ_ _ z=>z
def oI {A':List μ}{c:μ}{o:HO}{U:μ->Prop}(n:Sn Z H (Wn own))(m:∀a,U a->Z.1 a=ξ)(hc:Wn own c)(Jz:∃oc,H c=M oc/\∀xs,oc≠.tup xs)(L:∀a∈A',a∈own i\/(C.H0 a=ξ/\¬ Wn own a/\U a)):Sn Z (upd H c o) (Wn (aY own i A')):=by
 let {oc,Y,O}:=Jz;have u:=Sn.upd (o':=o) n Y O hc;exact⟨λb Fq=>by
  let {j,hj}:=Fq
  by_cases aN:i=j
  ·rw[<- aN,os_eq]at hj;rcases L b hj with z|z
   ·exact n.w b {(i),z}
   ·exact .inr (m b z.2.2)
  ·rw[bM aN]at hj;exact n.w b {(j),hj},u.k,u.d⟩
def cy.pz {ds:List D}(b:cy P w C σ H β own)(e:β[i]?=M (M (.own (.lst ds)))):∃a vs A',σ[i]?=M (M (.ref a))/\H a=M (.lst vs)/\own i=a::A'/\aR P w H ds vs A':=by
 obtain⟨v,h1,⟨a,vs,A',rfl,Y,O,L⟩,_⟩:=b.ow i _ e;exact{(a),vs,A',h1,Y,O,L}
variable {ap:Pos}
def cM (he:∀U,PQ X (C.u U) p e φ)(hn:Nm X i x:=by exact CC)
  (c8:aco .ay "append" .f (eval .ay .f)=eval .ay .f:=by rfl)
  (iV:.as=G:=by rfl)
  (c7:(ap.endLine==cp.line)=G:=by rfl) (hs:aaz [e] .f=.aE::aaz [] .f:=by rfl) (fC:(abN cp (aaz [] .f)).any (·.1)=η:=by rfl)
  (xg:acD (.Call (.Attribute .ay "append" ap) [e] [] cp) ξ pos.line .f=pure η:=by rfl) :
  PB X C (.Expr (.Call (.Attribute .ay "append" ap) [e] [] cp) pos) (λE β=>(∃ds,β[i]?=M (M (.own (.lst ds))))/\φ β λd k β'=>Ha k d/\∃ds,β'[i]?=M (M (.own (.lst ds)))/\ds.length<aaC/\E.nx (β'.set i (M (.own (.lst (ds++[d])))))):=by
 refine{λE E' β l Fp=>by let {O,q}:=Fp;exact{O,(he λ_=>False).mono _ _ _ (λd k β' Fo=>by let {f,ds,O,h2,q}:=Fo;exact{f,ds,O,h2,l.nx _ q}) q},λχ s σ H D I gC=>?_}
 obtain⟨Z,E,β,⟨own,sq,n⟩,⟨⟨Ye,L⟩,q⟩,ok⟩:=gC;refine nN (pos:=pos) (zI (apos:=ap) (cpos:=cp) Ι PySem.F.slot_list_append PySem.F.type_list_append l9 (ij (pos:=px) hn) (b6 (he λa=>H a=ξ).pe f_ hs) c8 iV c7 hs fC) xg χ s σ H D I ?_;let {a,vs,A',O,h2,h3,h4}:=sq.pz L;refine{.ref a,O,.inl {rfl,vs,dw.of h2},tQ.of (he λa=>H a=ξ) (sq.oj (C:=C.z) (U:=λa=>H a=ξ) λa z=>z) q λd k β' v H1 aw mw o r=>?_};let {f,ds,lq,hl,q}:=mw;let {a',vs',A1,g1,g2,g3,g4}:=o.sq.pz lq;rw[O]at g1;cases g1;let {A,r1,r2,Y}:=r.fl f;have ha:a∈aw i:=by rw[g3];simp
 have nd:(a::(A1++A)).Nodup:=by
  have q:=o.sq.ph i;rw[g3]at q;refine aaX.mpr {λz=>?_,abm.mpr {(aaX.mp q).2,r2,λx hx y hy e=>?_}}
  ·rcases aaT.mp z with z|z
   ·exact(aaX.mp q).1 z
   ·exact(Y a z).2.1 {(i),ha}
  ·subst e;exact(Y x hy).2.1 {i,by rw[g3];simp[hx]}
 have hA:∀b∈a::(A1++A),b∈aw i\/(C.H0 b=ξ/\¬ Wn aw b/\H b=ξ):=λb L=>by
  rcases aat.mp L with rfl|L
  ·exact .inl ha
  ·rcases aaT.mp L with L|L
   ·exact .inl (by rw[g3];simp[L])
   ·exact .inr {(Y b L).2.2,(Y b L).2.1,(Y b L).1}
 have kt:∀b xs,H1 b=M (.tup xs)->upd H1 a (.lst (vs'++[v])) b=M (.tup xs):=λb xs z=>by
  rw[au (λz'=>by rw[z',g2]at z;cases z)];exact z
 have ne1:∀c∈A1,c≠a:=λc hc z=>by
  have q:=o.sq.ph i;rw[g3]at q;exact(aaX.mp q).1 (by rw[<- z];exact hc)
 have ne2:∀c∈A,c≠a:=λc hc z=>(Y c hc).2.1 {i,by rw[z];exact ha}
 have r':Own X.prog X.w (upd H1 a (.lst (vs'++[v]))) (.lst (ds++[d])) (.ref a) (a::(A1++A)) :=
  {a,vs'++[v],A1++A,rfl,az,rfl,(g4.keep kt λc hc oc ec=>by rw[au (ne1 c hc)];exact ec).append (aR.one (r1.keep kt λc hc oc ec=>by rw[au (ne2 c hc)];exact ec))}
 exact{a,vs',v,rfl,rfl,g2,by rw[g4.length];exact hl,ok.nx _ _ _ {_,o.sq.putIn lq O ha r' nd hA,oI (n.trans o.sn) (λb z=>n.free z) {(i),ha} {_,g2,λxs z=>by cases z} hA} q}
end
abbrev eU:=D->Kd->a8->(a8->Prop)->Prop
abbrev sR:=List D->Kd->a8->(a8->Prop)->Prop
structure GY (X:Cx)(C:Cfg)(tg:Expr)(T:List Nat)(γ:eU):Prop where
 mono:∀d k β R R',(∀r,R r->R' r)->γ d k β R->γ d k β R'
 pg:PG X tg λv σ H Q=>∃own β d k,SQ X C σ H β own/\Rp X (jx C (Wn own) k) H d v/\γ d k β λβ'=>∀σ' aZ,SQ X C σ' H β' aZ->(∀a,Wn aZ a->Wn own a)->(∀j,j∉T->σ'[j]?=σ[j]?)->Q σ' H
structure Kq (X:Cx)(C:Cfg)(AY:List Expr)(T:List Nat)(γ:sR):Prop where
 mono:∀d k β R R',(∀r,R r->R' r)->γ d k β R->γ d k β R'
 YT:Li X AY λvs σ H Q=>∃own β ds k,SQ X C σ H β own/\jO X (jx C (Wn own) k) H ds vs/\γ ds k β λβ'=>∀σ' aZ,SQ X C σ' H β' aZ->(∀a,Wn aZ a->Wn own a)->(∀j,j∉T->σ'[j]?=σ[j]?)->Q σ' H
section
variable {C:Cfg}{AY:List Expr}{γ:eU}{γs:sR}{T':List Nat}{φ:aM}
def gNm (i:Nat):eU:=λd k β R=>KQ d k λb=>R (β.set i (M b))
def aq {i:Nat}{x:Str}(hN:X.N.Nodup)(hi:X.N[i]?=M x:=by rfl)(O:Loc X.env.scope x:=by first|exact .inl rfl|exact .inr rfl)
  (Y:X.fn x=G\/X.env.scope.names.lookup x=M .local:=by first|exact .inl rfl|exact .inr rfl|assumption):GY X C (.Name x pos) [i] (gNm i) :=
 ⟨λd k β R R' h q=>KQ.mono (d:=d) (k:=k) (K:=λb=>R (β.set i (M b))) (K':=λb=>R' (β.set i (M b))) (λ_=>h _) q,(zH hN hi O Y).pre λv σ H Q lj=>by
  let {own,β,d,k,s,r,q}:=lj;have L:∀(v:V) (j:Nat),j∉[i]->(σ.set i (M v))[j]?=σ[j]?:=λv j hj=>a6 (abn (by simpa using hj))
  cases k with
  |own=>exact q _ _ (s.iG (y:=G) r) (λa h=>iF h) (L v)
  |dM=>exact q _ _ (s.iG (y:=G) r) (λa h=>iF h) (L v)
  |old=>exact q _ _ (s.iG (y:=η) r) (λa h=>iF h) (L v)
  |bor=>exact q.2 _ _ (s.iG (y:=G) (aA.flat q.1 r)) (λa h=>iF h) (L v)⟩
abbrev sk (k:Kd):D->Kd
 |.int _=>.own
 |.bl _=>.own
 |.cI=>.own
 |.str _=>.own
 |_=>k.wk
def xG {H:Hp}(r:aA P w (jx C W k) H d v):aA P w (jx C W (sk k d)) H d v:=by
 cases d with
 |int i=>exact aA.flat rfl r
 |bl i=>exact aA.flat rfl r
 |cI=>exact aA.flat rfl r
 |str i=>exact aA.flat rfl r
 |_=>exact aA.aW (λa z=>z.imp (wO a) id) r
def Oe:sR:=λds _ β R=>ds=[]/\R β
def FF (γ:eU)(γs:sR):sR:=λds k β R=>∃d r,ds=d::r/\γ d (sk k d) β λβ'=>γs r k β' R
def bt:Kq X C [] [] Oe:=⟨λd k β R R' h q=>{q.1,h _ q.2},Ip.pre λvs σ H Q qU=>by
 let {own,β,ds,k,s,r,e,q}:=qU;subst e;exact{r,q σ own s (λ_ z=>z) λ_ _=>rfl}⟩
def aD (Y:GY X C tg T γ)(O:Kq X C AY T' γs)(hs:(acM (tg::AY) .f).map (·.2)=assign tg .f::(acM AY .f).map (·.2):=by rfl):Kq X C (tg::AY) (T++T') (FF γ γs) :=
 ⟨λds k β R R' h t6=>by let {d,r,e,q}:=t6;exact{d,r,e,Y.mono _ _ β _ _ (λβ' q=>O.mono r k β' _ _ h q) q},
  (DU Y.pg O.YT hs).pre λvs σ H Q Fl=>by
    let {own,β,ds,k,s,rr,d,r,e,q}:=Fl;subst e;let {v,vr,rfl,rv,rvr}:=rr;exact{v,vr,rfl,own,β,d,_,s,xG rv,Y.mono _ _ β _ _ (λβ' q σ' aZ s' w' t'=>{aZ,β',r,k,s',aj.aW (lJ w' k) rvr,O.mono r k β' _ _ (λβ2 q2 L a7 s2 w2 t2=>q2 L a7 s2 (λa z=>w' a (w2 a z)) λj hj=>(t2 j λz=>hj (aa_ _ z)).trans (t' j λz=>hj (abW _ z))) q}) q}⟩
def gTp (n:Nat)(γs:sR):eU:=λd k β R=>∃ds,d=.tup ds/\ds.length=n/\γs ds k β R
def bL (hc:X.calm=G)(h:Kq X C AY T γs)(O:(acM AY .f).length=n:=by rfl)(qT:(acM AY .f).findIdx? (·.1)=ξ:=by rfl):GY X C (.Tuple AY k pos) T (gTp n γs) :=
 ⟨λd k β R R' Y Jv=>by let {ds,e,l,q}:=Jv;exact{ds,e,l,h.mono ds k β _ _ Y q},(Ml hc h.YT O qT).pre λv σ H Q Ru=>by
  let {own,β,d,k,s,r,ds,e,l,q}:=Ru;subst e;let {a,vs,rfl,ha,L}:=r;exact{a,vs,rfl,uw.of ha,by rw[L.length];exact l,own,β,ds,k,s,L,q}⟩
def nJ {H:Hp}(n:Sn Z H (Wn own))(h:∀a,Wn aZ a->Wn own a):Sn Z H (Wn aZ):={λb z=>n.w b (h b z),n.k,n.d}
def oX (he:PQ X C.z p e φ)(L:GY X C.z tg T γ)(hs:swapsWithSole [tg] e pos.line .f=pure η:=by rfl)(hw:swappedStores [tg] e .f=pure ξ:=by rfl)
  (h1:(acM [tg] .f).map (·.2)=[assign tg .f]:=by rfl):PB X C (.Assign [tg] e pos) (λE β=>φ β λd k β'=>γ d k β' E.nx) :=
 ⟨λE E' β l q=>he.mono _ _ _ (λd k β' q=>L.mono _ _ _ _ _ l.nx q) q,(oU he.pe L.pg hs hw h1).pre λD σ H ⟨Z,E,β,⟨own,s,n⟩,q,ok⟩=>tQ.of he s q λd k β' v H' aZ q o r =>
  {aZ,β',d,k,o.sq,aA.aW (λa z=>z.elim id λz=>z.elim) r.rep,L.mono _ _ _ _ _ (λY q O a7 s2 w2 _=>ok.nx _ _ _ {a7,s2,nJ (n.trans o.sn) w2} q) q}⟩
def jl (he:PQ X C.z p e φ)(xg:acD e ξ pos.line .f=pure η:=by rfl):PB X C (.Expr e pos) (λE β=>φ β λ_ _ β'=>E.nx β') :=
 {λE E' β l q=>he.mono _ _ _ (λd k β' q=>l.nx _ q) q,(nN he.pe xg).pre λD σ H Fj=>by obtain⟨Z,E,β,⟨own,s,n⟩,q,ok⟩:=Fj;exact tQ.of he s q λd k β' v H' aZ q o r=>ok.nx _ _ _ (o.sb n) q}
abbrev Vf (ro:Bool)(k:Kd)(d:D):Prop:=match k,ro with
 |.own,_=>True
 |.dM,η=>True
 |_,_=>d.flat=G
def d4 {H H':Hp}(f:d.flat=G)(r:aA P w W H' d v):rj P w ro H H' d v:=by
 cases ro with
 |true=>exact{[],gu f r,abg,λc hc=>(nomatch hc)}
 |false=>exact aA.flat f r
def I9 {H':Hp}(f:Vf ro k d)(r:KV P w C Z own H' k d v):rj P w ro C.H0 H' d v:=by
 cases k with
 |own =>
  cases ro with
  |true=>let {A,Y,O,L}:=r;exact{A,Y,O,λc hc=>(L c hc).2.2}
  |false=>exact aA.aW (λa z=>.inr z) r.rep
 |dM =>
  cases ro with
  |true=>exact d4 f r.rep
  |false=>exact aA.aW (λa z=>.inr z) r.rep
 |old=>cases ro <;> exact d4 f r.rep
 |bor=>cases ro <;> exact d4 f r.rep
def IB (he:PQ X C.z p e φ):PB X C (.Return (M e) pos) (λE β=>φ β λd k β'=>Vf C.ro k d/\E.rt d β') :=
 {λE E' β l q=>he.mono _ _ _ (λd k β' q=>{q.1,l.rt _ _ q.2}) q,(lY he.pe).pre λD σ H Ju=>by obtain⟨Z,E,β,⟨own,s,n⟩,q,ok⟩:=Ju;exact tQ.of he s q λd k β' v H' aZ q o r=>ok.rt _ _ _ _ _ (o.sb n) (I9 (C:=C.z) q.1 r) q.2}
def aS (he:PQ X C.z p e φ)(V_:C.ro=ro:=by first|exact(rfl:_=G)|exact(rfl:_=η)):PB X C (.Return (M e) pos) (λE β=>φ β λd k β'=>Vf ro k d/\E.rt d β'):=by
 subst V_;exact IB he
def kQ (Y:Nm X i x:=by exact CC):
  PB X C (.Return (M .ay) pos) (λE β=>∃d,β[i]?=M (M (.own d))/\E.rt d β) :=
 ⟨λE E' β l yy=>by let {d,L,q}:=yy;exact{d,L,l.rt _ _ q},(lY (ij (pos:=px) Y)).pre λD σ H yx=>by
  obtain⟨Z,E,β,⟨own,s,n⟩,⟨d,L,q⟩,ok⟩:=yx;let {v,e1,r,O}:=s.ow i d L;refine{_,e1,ok.rt _ _ _ _ _ {(own),s,n} ?_ q};cases hr:C.ro with
  |true=>exact{_,r,s.ph i,O}
  |false=>exact r.rep λc hc z=>z (O c hc)⟩
end
abbrev cT:=a8->(List D->Kd->a8->Prop)->Prop
structure xi (X:Cx)(C:Cfg)(p:Bool)(tg iter:Expr)(ι:cT):Prop where
 mono:∀β R R',.aC->ι β R->ι β R'
 pi:PI X tg iter λσ H R=>∃β own,SQ X C σ H β own/\ι β λds k β'=>∀J H' aZ,Out X C σ H own p β' H' aZ->uo X (av C (Wn aZ) k) J ds H'->R J H'
section
variable {C:Cfg}{φ:aM}{φs:bf}
def Vk (φ:aM):cT:=λβ R=>φ β λd k β'=>∃ds,d=.lst ds/\R ds k β'
def bK (h:PQ X C p e φ):xi X C p tg e (Vk φ) :=
 ⟨λβ R R' k q=>h.mono β _ _ (λd kd β' Fs=>by let {ds,e,q}:=Fs;exact{ds,e,k _ _ _ q}) q,(zG h.pe).pre λσ H R ⟨β,own,s,q⟩=>tQ.of h s q λd k β' v H1 aw yw o1 O=>by
  let {ds,e,q1}:=yw;subst e;let {a,vs,rfl,L,n1,Y}:=O.rep;exact{a,rfl,{vs,dw.of L},q1 _ _ aw o1 (vz L n1 Y)}⟩
def Jp (φs:bf):cT:=λβ R=>φs β λds _ β'=>∃j:Int,ds=[.int j]/\-(2 ^ 62)<=j/\j<2 ^ 62/\R (oR 0 j.toNat) .dM β'
def z9 (φs:bf):cT:=λβ R=>φs β λds _ β'=>∃i j:Int,ds=[.int i,.int j]/\(-(2 ^ 62)<=i/\i<2 ^ 62/\-(2 ^ 62)<=j/\j<2 ^ 62)/\R (oR i (j-i).toNat) .dM β'
def aU (hm:X.mg "range" = ξ)(L:nh X C p [a] φs)(hg:Gl X "range" := by rfl)(hs:aaz [a] .f=[(η,eval a .f)]:=by rfl):xi X C p tg (.Call (.Name "range" pp) [a] [] pos) (Jp φs) :=
 ⟨λβ R R' k q=>L.mono β _ _ (λd kd β' N1=>by let {j,e,Y,O,q}:=N1;exact{j,e,Y,O,k _ _ _ q}) q,(Bu hg hm L.pa hs).pre λσ H R ⟨β,own,s,q⟩=>oA.of L s q λds ks β' vs H1 aw Fn o1 r1=>by
  let {j,e,Y,O,q1}:=Fn;subst e;let {x,rfl,hx}:=gH r1.jE;cases hx;exact{j,rfl,Y,O,q1 _ _ aw o1 ml}⟩
def xS (hm:X.mg "range" = ξ)(L:nh X C p [a,b] φs)(hg:Gl X "range" := by rfl)(hs:aaz [a,b] .f=[(η,eval a .f),(η,eval b .f)]:=by rfl)(vD:aaz [b] .f=[(η,eval b .f)]:=by rfl) :
  xi X C p tg (.Call (.Name "range" pp) [a,b] [] pos) (z9 φs) :=
 ⟨λβ R R' k q=>L.mono β _ _ (λd kd β' NY=>by let {i,j,e,O,q}:=NY;exact{i,j,e,O,k _ _ _ q}) q,(rK hg hm L.pa hs vD).pre λσ H R ⟨β,own,s,q⟩=>oA.of L s q λds ks β' vs H1 aw W9 o1 Y=>by
  let {i,j,e,O,q1}:=W9;subst e;let {x,y,rfl,hx,hy}:=wR Y.jE;cases hx;cases hy;exact{i,j,rfl,O,q1 _ _ aw o1 ml}⟩
end
def FJ (γ:eU)(ψ:Cu)(E:dq)(ds:List D)(k:Kd)(β:a8):Prop:=∃I:Nat->a8->Prop,I 0 β/\(∀i d β,ds[i]?=M d->I i β->γ d (sk k d) β λL=>ψ (E.lp (I (i+1))) L)/\∀β,I ds.length β->E.nx β
section
variable {C:Cfg}{iter c:Expr}{γ:eU}{ψ:Cu}{ι:cT}{τ:bg}{body:List Stmt}
def FJ.mono {E E':dq}{ds:List D}{k:Kd}{β:a8}(hγ:∀d k β R R',(∀r,R r->R' r)->γ d k β R->γ d k β R')(hψ:∀E E' β,Le E E'->ψ E β->ψ E' β)(l:Le E E'):FJ γ ψ E ds k β->FJ γ ψ E' ds k β:=λO=>by
 let {I,h0,h1,Y}:=O;exact{I,h0,λi d β e q=>hγ d _ β _ _ (λL q=>hψ {nx:=I (i+1),rt:=E.rt,bk:=E.nx,ct:=I (i+1)} {nx:=I (i+1),rt:=E'.rt,bk:=E'.nx,ct:=I (i+1)} L {λ_ q=>q,l.rt,l.nx,λ_ q=>q} q) (h1 i d β e q),λβ q=>l.nx _ (Y β q)}
def Kl {H O:Hp}(n:Sn (H,Wn own) O (Wn L)):∀b,av C (Wn L) k b->av C (Wn own) k b\/H b=ξ:=λb z=>by
 cases k with
 |own=>exact z.elim (λz=>(n.w b z).imp .inl id) λz=>.inl (.inr z)
 |dM=>exact z.elim (λz=>(n.w b z).imp .inl id) λz=>.inl (.inr z)
 |old=>exact n.w b z
 |bor=>exact z.elim
def cf (hp:PassesOwn .aa X.A .f X.xe)(hc:X.calm=G)(hi:xi X C.z p tg iter ι)(hg:GY X C.z tg T γ)(hb:qE X C body ψ)(hs:∀x,abu iter .f x=pure x:=by intro _;rfl):
  PB X C (.For tg iter body [] pos) (λE β=>ι β λds k O=>hold k η/\FJ γ ψ E ds k O) :=
 ⟨λE E' β l q=>hi.mono _ _ _ (λds k O q=>{q.1,q.2.mono hg.mono hb.mono l}) q,(DJ hp hc hi.pi hg.pg hb.ps hs).pre λD σ H W7=>by
  obtain⟨Z,E,β,⟨own,s,n⟩,q,ok⟩:=W7;refine{β,own,s,hi.mono _ _ _ (λds k O gC J H1 aw o1 it=>?_) q};let {hk,I,i0,i1,i2}:=gC;have n':=n.trans o1.sn;have ig:∀b,Wn aw b\/H1 b=ξ->av C.z (Wn aw) k b\/H1 b=ξ:=λb z=>by
   cases k with
   |own=>exact z.imp .inl id
   |dM=>exact z.imp .inl id
   |old=>exact z
   |bor=>exact hk.elim
  have Pc:=it (λb=>av C.z (Wn aw) k b\/H1 b=ξ) λb z=>z;refine{λi m σ H=>i<=ds.length/\m=ds.length-i/\∃β,SB X C (H1,Wn aw) σ H β/\I i β,{_,aaJ _,rfl,O,{(aw),o1.sq,Sn.refl},i0},?_};rintro i m σ2 H2 ⟨hi,rfl,β2,⟨a7,s2,n2⟩,hl⟩;let {du,tY}:=Pc i H2 (n2.k.mono ig)
  by_cases lM:i<ds.length
  ·right
   have hd:ds[i]?=M ds[i]:=aav lM;let {go,yl}:=du _ hd;refine{go,λσ' H'=>∃β,SB X C (H1,Wn aw) σ' H' β/\I (i+1) β,λσ' H' W5=>by let {β',xK,vE}:=W5;exact{_,.a,lM,rfl,β',xK,vE},λx H3 y=>?_}
   let {s3,r3}:=yl x H3 y;refine{a7,β2,_,_,s2.same s3,xG (C:=C.z) (aA.aW (λb z=>Kl (C:=C) n2 b (z.elim id λz=>z.elim)) r3),hg.mono _ _ _ _ _ (λβ4 q σ4 Eg s4 w4 _=>?_) (i1 i _ β2 hd hl)};refine{(H1,Wn aw),_,β4,{Eg,s4,nJ (n2.same s3) w4},q,{λY H5 L Bf q5=>{(L),Bf,q5},λY H5 L d5 v5 Bf r5 q5=>?_,λY H5 L Bf q5=>?_,λY H5 L Bf q5=>{(L),Bf,q5}}}
   ·let {IE,s5,n5}:=Bf;exact ok.rt _ _ _ _ _ {IE,s5,n'.trans n5} r5 q5
   ·let {IE,s5,n5}:=Bf;exact ok.nx _ _ _ {IE,s5,n'.trans n5} q5
  ·left
   have e:i=ds.length:=by lia
   subst e;exact{tY (aaq _),ok.nx _ _ _ {a7,s2,n'.trans n2} (i2 β2 hl)}⟩
def Lz (τ:bg)(ψ:Cu):Cu:=λE β=>∃V:Nat->a8->Prop,(∃m,V m β)/\∀m β,V m β->τ β λt L=>if t=G then ψ {nx:=λβ'=>∃O,O<m/\V O β',rt:=E.rt,bk:=E.nx,ct:=λβ'=>∃O,O<m/\V O β'} L else E.nx L
def Ee (hp:PassesOwn .aa X.A .f X.xe)(hc:w_ X C.z p c τ)(hb:qE X C body ψ):PB X C (.While c body [] pos) (Lz τ ψ) :=
 ⟨λE E' β l ⟨V,h0,h⟩=>⟨V,h0,λm β v=>hc.mono _ _ _ (λt O q=>by
   cases t
   ·exact l.nx _ q
   ·exact hb.mono {nx:=λβ'=>∃L,L<m/\V L β',rt:=E.rt,bk:=E.nx,ct:=λβ'=>∃L,L<m/\V L β'} {nx:=λβ'=>∃L,L<m/\V L β',rt:=E'.rt,bk:=E'.nx,ct:=λβ'=>∃L,L<m/\V L β'} O {λ_ q=>q,l.rt,l.nx,λ_ q=>q} q) (h m β v)⟩,(DI hp hc.pt hb.ps).pre λD σ H NX=>by
  obtain⟨Z,E,β,sb,⟨V,⟨m0,v0⟩,h⟩,ok⟩:=NX;refine{λm σ H=>∃β,SB X C Z σ H β/\V m β,{(m0),β,sb,v0},λm σ H mw=>?_};obtain⟨β,⟨own,s,n⟩,v⟩:=mw;refine nk.of hc s (h m β v) λt O H1 aw q o1=>?_;cases t
  ·exact ok.nx _ _ _ (o1.sb n) q
  ·exact{λσ' H'=>∃β',SB X C Z σ' H' β'/\∃L,L<m/\V L β',λσ' H' NV=>by let {β',xK,L,hm,v'}:=NV;exact{(L),hm,β',xK,v'},Z,_,O,o1.sb n,q,λσ' H' β' xK Y=>{(β'),xK,Y},ok.rt,ok.nx,λσ' H' β' xK Y=>{(β'),xK,Y}}⟩
end
def startB (N:List Str)(ds:List D):a8:=ds.map (λd=>M (.val η d))++aaR (N.length-ds.length) ξ
def lQ (N:List Str)(ok:List Int->Prop)(ds:List D):a8:=M (.hand ok)::(ds.map (λd=>M (.val η d))++aaR (N.length-(ds.length+1)) ξ)
def iI {i n:Nat}{b:B}(h:(aaR n (ξ:Option B))[i]?=M (M b)):False:=by
 rw[List.getElem?_replicate]at h
 split at h <;> cases h
def gj {ds:List D}{n i:Nat}{b:B}(h:(ds.map (λd=>M (B.val η d))++aaR n ξ)[i]?=M (M b)):∃d,ds[i]?=M d/\b=.val η d:=by
 by_cases hi:i<ds.length
 ·rw[abE (by simpa using hi),aaB]at h
  cases q:ds[i]? with
  |none=>rw[q]at h;cases h
  |some d=>rw[q]at h;cases h;exact{(d),rfl,rfl}
 ·rw[abi (by simpa using hi)]at h
  exact(iI h).elim
def lP (h:vs[i]?=M v):(start N vs)[i]?=M (M v):=by
 unfold start;rw[abE (by simpa using (aay.mp h).1),aaB,h]
 rfl
def oG {ds:List D}{H:Hp}(r:aj P w (λ_=>False) H ds vs):cy P w {H,λ_=>False,ro,λ_=>False} (start N vs) H (startB N ds) (λ_=>[]):=by
 refine{?_,λi y d h=>?_,λi d h=>?_,λi ok h=>?_,λi a h=>(nomatch h),λi j a h=>(nomatch h),λi=>abg,Kp.refl,λ_ z=>z,λi y d h=>by let {d',e,L}:=gj h;cases L}
 ·unfold startB start;simp[r.length]
 ·let {d',e,L}:=gj h;cases L;let {v,Y,O}:=aj.get r e;exact{v,lP Y,aA.aW (λa z=>z.elim (λNU=>by let {_x,q}:=NU;exact(nomatch q)) λz=>z) O}
 ·let {d',e,L}:=gj h;cases L
 ·let {d',e,L}:=gj h;cases L
def qt {x qual:Str}{st:Stmt}{f:μ}{fd:aa6}{N ps:List Str}{k:Nat}{F:FD}{ro:Bool}(G:AO K x qual st f fd)(S:aH N ps (ak st))(len:∀ds R,F ds R->ds.length=ps.length)
  (gD:∀(bD:aam) (A:abf) (outer:List Env) (s:aao) (H:Hp) (E:XK),ck k (A.deeper (adX qual (ak st) .e f bD)) ->
   ∃ψ,qE (mG bP P w K mg base N qual (ak st) f bD A outer s H E).qu {H,λ_=>False,ro,λ_=>False} (dI st) ψ/\∀ds R,F ds R->ψ (eN R) (startB N ds)) :
  aG P w K mg base bP (k+1) f fd ps (dz P w ro F):=by
 refine G.ok S (λvs H Q E h=>?_) (λbD A outer s H vs Q E Y h=>?_)
 ·let {ds,r,h}:=h;rw[r.length];exact len ds _ h
 ·let {ds,r,h}:=h;let {ψ,hb,hF}:=gD bD A outer s H E Y;refine{_,hb.ps,(H,Wn λ_=>[]),_,startB N ds,{λ_=>[],oG r,Sn.refl},hF ds _ h,λσ H' β sb q=>?_,λσ H' β d v sb L q=>?_,λ_ _ _ _ z=>z.elim,λ_ _ _ _ z=>z.elim}
  ·let {own,s',O}:=sb;exact q _ H' (λb o e=>s'.kp.out b o e (λz=>z)) (d4 (W:=λ_=>False) rfl rfl)
  ·let {own,s',O}:=sb;exact q _ H' (λb o e=>s'.kp.out b o e (λz=>z)) L
def A6 {N:List Str}{ok:List Int->Prop}{h:μ}{ns:List Int}{vs:List V}{ds:List D}{H:Hp}{ro:Bool}(O:H h=M (.lst (ns.map V.int)))(ho:ok ns)(r:aj P w (λa=>a=h) H ds vs):
  cy P w {H,(·=h),ro,λ_=>False} (start N (.ref h::vs)) H (lQ N ok ds) (λi=>if i=0 then [h] else []):=by
 have IF:∀{i:Nat} {a:μ},a∈(if i=0 then [h] else ([]:List μ))->i=0/\a=h:=λ{i a} q=>by
  by_cases e:i=0
  ·rw[ω e]at q;exact{e,by simpa using q}
  ·rw[Δ e]at q;cases q
 have JK:∀{i:Nat} {b:B},(lQ N ok ds)[i]?=M (M b)->(i=0/\b=.hand ok)\/∃j d,i=j+1/\ds[j]?=M d/\b=.val η d:=λ{i b} q=>by
  unfold lQ at q;cases i with
  |zero=>simp at q;exact .inl {(rfl),q.symm}
  |succ i =>
   rw[adA]at q;let {d,e,L}:=gj q;exact .inr {(i),d,rfl,e,L}
 refine{?_,λi y d q=>?_,λi d q=>?_,λi CB q=>?_,λi a q=>?_,λi j a h1 h2=>?_,λi=>?_,Kp.refl,λ_ z=>z,λi y d q=>(JK q).elim (λFj=>by let {Y,e}:=Fj;cases e) (λJu=>by let {j,d',Y,Y,L}:=Ju;cases L)}
 ·unfold lQ start;simp[r.length]
 ·rcases JK q with⟨_,e⟩|⟨j,d',rfl,e,L⟩
  ·cases e
  ·cases L;let {v,e1,e2}:=aj.get r e;exact{v,lP (by simpa using e1),aA.aW (λa z=>z.elim (λNT=>by let {j,q}:=NT;exact(IF q).2) λz=>z.elim) e2}
 ·rcases JK q with⟨_,e⟩|⟨j,d',_,_,L⟩
  ·cases e
  ·cases L
 ·rcases JK q with⟨e0,e⟩|⟨j,d',_,_,L⟩
  ·cases e;subst e0;exact{h,ns,lP rfl,O,ho,rfl,.inr rfl}
  ·cases L
 ·let {Y,rfl}:=IF q;exact{by rw[O];exact λz=>.au,λxs z=>(by rw[O]at z;cases z),.inr rfl,λz=>z}
 ·rw[(IF h1).1,(IF h2).1]
 ·by_cases e:i=0
  ·simp[e]
  ·simp[e]
def BB {x qual:Str}{st:Stmt}{f:μ}{fd:aa6}{N ps:List Str}{k:Nat}{F:FD}{ok:List Int->Prop}{ro:Bool}(G:AO K x qual st f fd)(S:aH N ps (ak st))(len:∀ds R,F ds R->ds.length+1=ps.length)
  (gD:∀(bD:aam) (A:abf) (outer:List Env) (s:aao) (H:Hp) (E:XK) (IO:μ->Prop),ck k (A.deeper (adX qual (ak st) .e f bD)) ->
   ∃ψ,qE (mG bP P w K mg base N qual (ak st) f bD A outer s H E).qu {H,IO,ro,λ_=>False} (dI st) ψ/\∀ds R,F ds R->ψ (eH ok R) (lQ N ok ds)) :
  aG P w K mg base bP (k+1) f fd ps (fJ P w ok ro F):=by
 refine G.ok S (λvs H Q E h=>?_) (λbD A outer s H vs Q E Y h=>?_)
 ·let {h,vs',ds,ns,rfl,L,ho,r,q}:=h;rw[aaS,r.length];exact len ds _ q
 ·let {h,vs',ds,ns,rfl,L,ho,r,q}:=h;let {ψ,hb,hF}:=gD bD A outer s H E (·=h) Y;refine{_,hb.ps,(H,_),_,lQ N ok ds,{_,A6 L ho r,Sn.refl},hF ds _ q,λσ H' β sb z=>z.elim,λσ H' β d v sb O BW=>?_,λ_ _ _ _ z=>z.elim,λ_ _ _ _ z=>z.elim};let {b0,q}:=BW;let {own,s',n'}:=sb;let {a,uq,g1,g2,g3,g4,g5}:=s'.pM 0 ok b0;have ea:a=h:=g5.elim (λz=>(z h rfl).elim) λz=>z;subst ea;exact q v H' uq s'.kp s'.iE g2 g3 O
end L2.Q
namespace L2
def w6.pre {X:Cx}(h:w6 X ifs t)(k:∀σ H Q,t' σ H Q->t σ H Q):w6 X ifs t':=λχ s σ H Q I q=>h χ s σ H Q I (k σ H Q q)
theorem vP {T:D->Prop}:∀{outs:List D},(∀d∈outs,T d/\d.flat=G)->D.bO outs=G
 |[],_=>rfl
 |d::ds,h=>by
  rw[D.bO,(h d .c).2,vP λd' hd=>h d' (by simp[hd])]
  rfl
section
variable {g:acN}{gs:List acN}{tg:μ->TG}{tt:μ->TT}{wi:TI}
def ng {o:μ->HO}{after:aam->Env->Sem Fin->Sem Fin}{ta:μ->mL}(L:Links X scope N' lk)(hc:X.calm=G)(hA:∀(χ:List (μ×Obj)) (s:aao) (σ:St) (H:Hp) (Q:aam->aao->Prop) (E:aam->aao->Prop),Inv X χ σ H s->(∀a s',.e<=a->H a=ξ->(∀b o,s.heap.get? b=M o->s'.heap.get? b=M o)->Inv X χ σ (upd H a (o a)) s'->Q (.ref a) s')->aaD .aa X.A b7 Q E s)
  (F:∀acc env,ir e 0 g acc env (after acc env))
  (r9:∀a cl C s H ex,PG .ap g.target (tg a)/\w6 .ap g.ifs (tt a)/\qp .ap (after (.ref a) (aQ X scope N' cl C s H ex).env) (ta a))
  {cl:List (Str×μ)} (nY:∀x,(x,abc)∈scope.names->∃c,cl.lookup x=M c) (nB:∀x c,cl.lookup x=M c->X.env.cells.lookup x=M c)
  {χ:List (μ×Obj)} {σ:St} {s:aao} {Q:V->Hp->Prop} {CF:aam} {E:aam->aao->Prop} {RR:aam->μ->Result->aao->Prop}
  (h:SF X χ σ g.target (λJ H1=>∀a,H1 a=ξ->fm J (tg a) (tt a) (ta a) (λ_ H'=>Q (.ref a) H') (cV lk σ) (upd H1 a (o a))) CF s)
  (hR:∀a H' C s',Inv X χ σ H' s'->eV X χ H' C->(∃m,s'.heap.Ns C m)->Q (.ref a) H'->RR (.ref a) C (.ok .next) s') :
  aaD .aa X.A b7 (λacc s₃=>aaD .aa X.A (newFunctionEnv scope X.env.globals cl [] X.env.qual ξ .none (M .f)) (λGs s₄ =>
   adg .aa X.A (.compStart e 0 CF acc {Gs with scope:=relabel scope .f}) (RR acc Gs.locals) s₄) E s₃) E s:=by
 let {it,fp,tn,J,H2,e1,I2,T,iu,f2,hl}:=h;subst e1;refine hA χ s σ H2 _ E I2 λa Y ha hn hk I3=>?_;refine wpAny_newFunctionEnv L.ya (by intro y hy;simp at hy) (λh₁ N4 NN=>?_) L.kind
 have JA:∀b∈fp,∃o,Y.heap.get? b=M o:=λb O=>by
  let {ob,q,_x}:=T.obj _ _ iu b O;exact{ob,hk b ob q}
 have XW:∀b∈fp,b≠a:=λb O=>by
  let {ob,q,_x}:=T.obj _ _ iu b O;exact aaN (aaV (aaw q) ha)
 have f3:∀b∈fp,eV X χ (upd H2 a (o a)) b:=λb O=>{by rw[au (XW b O)];exact(f2 b O).1,(f2 b O).2}
 have KW:∀b ob,Y.heap.get? b=M ob->h₁.get? b=M ob:=λb ob q=>NN.extBut b ob (aaN (aaw q)) (aar _ q);have Pf:h₁.Ns Y.heap.objs.size (λ_=>ξ):=N4;have I4:=Fb (t':=Y.toks+([]:List (Str×aam)).length) I3 L f3 JA nY nB Pf KW;let {g1,g2,g3}:=r9 a cl Y.heap.objs.size Y (upd H2 a (o a)) fp;have f4:∀b∈fp,eV (aQ X scope N' cl Y.heap.objs.size Y (upd H2 a (o a)) fp) [] (upd H2 a (o a)) b:=λb O =>
  {(f3 b O).1,(I4.ok.Hh b O).1,I4.ok.q_ b O,.inl O,(I4.ok.Hh b O).2,λp hp=>Κ (show p∈([]:List (μ×Obj)) from hp) .c}
 have SY:tn 0 h₁:=T.keep 0 _ _ iu λb O ob q=>KW b ob (hk b ob q);refine acy (j5 (X:=aQ X scope N' cl Y.heap.objs.size Y (upd H2 a (o a)) fp) rfl hc (F (.ref a) _) g1 g2 g3 T I4 SY f4 (hl a hn)) λr s' hr=>?_;let {rfl,σ',H',J',q}:=hr;have I5:Inv X χ σ H' s':=Fc (C:=Y.heap.objs.size) (h'':=s'.heap) I3 f3 J' (.refl ..);refine hR a H' Y.heap.objs.size s' I5 (I3.t_ (aaq _) J'.free) ?_ q;let {m,hm,_x}:=J'.loc;exact{(m),hm}
def Ea {o:μ->HO}{after:aam->Env->Sem Fin->Sem Fin}{ta:μ->mL}(L:Links X scope N' lk)(hc:X.calm=G)(hA:∀(χ:List (μ×Obj)) (s:aao) (σ:St) (H:Hp) (Q:aam->aao->Prop) (E:aam->aao->Prop),Inv X χ σ H s->(∀a s',.e<=a->H a=ξ->(∀b o,s.heap.get? b=M o->s'.heap.get? b=M o)->Inv X χ σ (upd H a (o a)) s'->Q (.ref a) s')->aaD .aa X.A b7 Q E s)
  (yB:eval e .f=comprehension e scope .f pos b7 η (eval g.iter .f)) (Hf:clausesOf e=g::gs)
  (F:∀acc env,ir e 0 g acc env (after acc env)) (hi:PI X g.target g.iter wi)
  (O:∀a cl C s H ex,PG .ap g.target (tg a)/\w6 .ap g.ifs (tt a)/\qp .ap (after (.ref a) (aQ X scope N' cl C s H ex).env) (ta a))
  (hs:∀x,abu g.iter .f x=pure x) :
  PE X e (λσ H Q=>wi σ H λJ H1=>∀a,H1 a=ξ->fm J (tg a) (tt a) (ta a) (λ_ H'=>Q (.ref a) H') (cV lk σ) (upd H1 a (o a))):=by
 intro χ s σ H Q I h;rw[yB];let {cl,vH,nY,nB}:=gg (env:=.f) (scope:=scope) λx Y=>I.ok.has x (L.free x Y);refine aeu (use:=ξ) Hf hs vH L.kind L.names (bz (hi χ s σ H _ I h) λv s1 h1=>bz h1 λCF s2 h2=>?_);refine ng (RR:=λacc C=>compPost .aa X.A X.xe ξ (EP X χ σ Q) acc C) L hc hA F O nY nB h2 λa H' C s' I' f BW q=>?_;let {m,hm}:=BW;exact{m,hm,λh' yv=>{.ref a,H',I'.sameBut f yv,rfl,q}}
def u6 {after:aam->Env->Sem Fin->Sem Fin}{ta:μ->mL}(L:Links X scope N' lk)(hc:X.calm=G)(Y:qq X b7 o)
  (yB:eval e .f=comprehension e scope .f pos b7 η (eval g.iter .f)) (Hf:clausesOf e=g::gs)
  (F:∀acc env,ir e 0 g acc env (after acc env)) (hi:PI X g.target g.iter wi)
  (O:∀a cl C s H ex,PG .ap g.target (tg a)/\w6 .ap g.ifs (tt a)/\qp .ap (after (.ref a) (aQ X scope N' cl C s H ex).env) (ta a))
  (hs:∀x,abu g.iter .f x=pure x) :
  PE X e (λσ H Q=>wi σ H λJ H1=>∀a,H1 a=ξ->fm J (tg a) (tt a) (ta a) (λ_ H'=>Q (.ref a) H') (cV lk σ) (upd H1 a o)):=Ea (o:=λ_=>o) L hc Y.ok yB Hf F hi O hs
def uY {after:aam->Env->Sem Fin->Sem Fin}{ta:μ->mL}(L:Links X scope N' lk)(hc:X.calm=G)(hA:qq X b7 o)
  (xg:acD e (M (.Name y pos')) uM.line .f=pure G)
  (yB:evalThenUse e .f (assign (.Name y pos') .f)=(do let _ <- comprehension e scope .f pos b7 η (eval g.iter .f) (M (assign (.Name y pos') .f));pure ())) (Hf:clausesOf e=g::gs)
  (hN:X.N.Nodup) (hy:X.N[i]?=M y) (O:Loc X.env.scope y) (hf:X.fn y=G\/X.env.scope.names.lookup y=M .local)
  (F:∀acc env,ir e 0 g acc env (after acc env)) (hi:PI X g.target g.iter wi)
  (r9:∀a cl C s H ex,PG .ap g.target (tg a)/\w6 .ap g.ifs (tt a)/\qp .ap (after (.ref a) (aQ X scope N' cl C s H ex).env) (ta a))
  (hs:∀x,abu g.iter .f x=pure x) :
  PS X (.Assign [.Name y pos'] e uM) (λD σ H=>wi σ H λJ H1=>∀a,H1 a=ξ->fm J (tg a) (tt a) (ta a) (λ_ H'=>D.nx (σ.set i (M (.ref a))) H') (cV lk σ) (upd H1 a o)):=by
 intro χ s σ H D I h;rw[exec_Assign_Name_used _ _ _ _ xg,yB];refine aal (adn (aal (aal ?_)));let {cl,vH,nY,nB}:=gg (env:=.f) (scope:=scope) λx O=>I.ok.has x (L.free x O);refine bz (aeu (use:=M (assign (.Name y pos') .f)) (Q:=λ_ s'=>SP X χ D .next s') Hf hs vH L.kind L.names (bz (hi χ s σ H _ I h) λv s1 h1=>bz h1 λCF s2 h2=>?_)) λ_ s' q=>aap (aap q)
 refine ng (o:=λ_=>o) (Q:=λv H'=>D.nx (σ.set i (M v)) H') (RR:=λacc C=>compPost .aa X.A X.xe (M (assign (.Name y pos') .f)) (λ_ s'=>SP X χ D .next s') acc C) L hc hA.ok F r9 nY nB h2 λa H' C s' I' f mw q=>?_
 let {m,hm}:=mw;show aaD _ _ (assign (.Name y pos') .f (.ref a)) _ _ s';have hCL:∃o,s'.heap.get? C=M o:=by let {o,_x,_x,ho,_x}:=hm;exact{(o),ho}
 refine wpAny_assign_Name (rq I' hN hy O (v:=.ref a) (u:=.ref a) rfl (λs4 I4 k4=>?_) hf);let {a4,sb4,Y}:=k4;have Fu:C≠a4:=by
  rcases Y with z|z
  ·rw[z];exact f.2.1
  ·exact(f.2.2.2.2.1 y a4 z).symm
 exact{m,hm.at' (λo e=>(sb4.2 C Fu).trans e),λh' yv=>{_,H',I4.sameBut f yv,q}}
end
end L2
namespace L2.Q
def Y9:Option B->Option B
 |some (.own d)=>M (.val η d)
 |some (.shl _ d)=>M (.val η d)
 |b=>b
def cS (lk:List .aB)(β:a8):a8:=lk.map λl=>match l with|some j=>(match β[j]? with|some b=>Y9 b|none=>ξ)|none=>ξ
def Td:Option (Option B)->Bool
 |some (M (.hand _))=>G
 |_=>η
def cF (lk:List .aB)(β:a8)(own:Nat->List μ)(i:Nat):List μ:=match lk[i]? with
 |some (M j)=>if Td β[j]?=G then own j else []
 |_=>[]
def fD:a8->a8->Prop
 |[],_=>True
 |some (.hand ok)::a,c=>c.head?=M (M (.hand ok))/\fD a c.tail
 |_::a,c=>fD a c.tail
theorem fD.get:∀{a c:a8} {i:Nat} {ok:List Int->Prop},fD a c->a[i]?=M (M (.hand ok))->c[i]?=M (M (.hand ok))
 |[],_,_,_,_,e=>by simp at e
 |x::a,c,0,ok,h,e=>by
  simp at e;subst e;rw[<- List.head?_eq_getElem?];exact h.1
 |x::a,c,i+1,ok,h,e=>by
  have h':fD a c.tail:=by
   cases x with
   |none=>exact h
   |some x=>cases x <;> first|exact h|exact h.2
  have:=fD.get (i:=i) h' (by simpa using e)
  rwa [List.getElem?_tail]at this
section
variable {C:Cfg}{σ':St}{H1:Hp}{β βi:a8}{own qN:Nat->List μ}{a:μ}
def cN {i:Nat}{c:μ}(h:c∈cF lk β own i):∃j,lk[i]?=M (M j)/\Td β[j]?=G/\c∈own j:=by
 unfold cF at h
 split at h
 ·next j e =>
  by_cases q:Td β[j]?=G
  ·rw[ω q]at h;exact{(j),e,q,h}
  ·rw[Δ q]at h;cases h
 ·cases h
def fB:∀c,Wn (cF lk β own) c->Wn own c:=λc ⟨i,h⟩=>let ⟨j,_,_,h⟩:=cN h;{(j),h}
def iU (h:lk[i]?=M (M j))(e:σ[j]?=M (M v)):(cV lk σ)[i]?=M (M v):=by
 unfold cV;rw[aaB,h];simp only[adY];rw[e]
def jq {i:Nat}{b:B}(h:(cS lk β)[i]?=M (M b)):∃j L,lk[i]?=M (M j)/\β[j]?=M (M L)/\Y9 (M L)=M b:=by
 unfold cS at h;rw[aaB]at h;cases q:lk[i]? with
 |none=>rw[q]at h;cases h
 |some l =>
  rw[q]at h;cases l with
  |none=>cases h
  |some j =>
   simp only[adY]at h;cases O:β[j]? with
   |none=>rw[O]at h;cases h
   |some Y =>
    rw[O]at h;simp only[aeq]at h;cases Y with
    |none=>cases h
    |some L=>exact{(j),L,rfl,O,h}
def cy.enter (s:cy P w C σ H β own)(ha:H a=ξ)(inj:∀(i i' j:Nat),lk[i]?=M (M j)->lk[i']?=M (M j)->i=i'):
  cy P w .ak (cV lk σ) (upd H a (.lst [])) (cS lk β) (cF lk β own):=by
 have sm:ay H (upd H a (.lst [])):=ay.new ha;have na:∀{i c},c∈own i->c≠a:=λ{i c} hc z=>(s.dm i c hc).1 (by rw[z];exact ha)
 have gr:∀k,∀c,jx .ak (Wn (cF lk β own)) k c->jx C (Wn own) k c\/H c=ξ:=λk c z=>by
  rcases z with z|z
  ·exact .inl (.inl (og fB k c z))
  ·exact .inr (by rw[z];exact ha)
 refine⟨by unfold cS cV;simp,λi y d e=>?_,λi d e=>?_,λi ok e=>?_,λi c h=>?_,λi i' c h1 h2=>?_,λi=>?_,s.kp.trans sm.kp,λc z e=>s.iE c z (sm.free e),λi y d e=>by
  let {j,b',e1,O,L}:=jq e;cases b' <;> cases L⟩
 ·let {j,b',e1,O,L}:=jq e;cases b' with
  |val y' d' =>
   cases L;let {v,h1,h2}:=s.val j y d O;exact{v,iU e1 h1,(aA.grow (gr _) h2).same sm}
  |own d' =>
   cases L;let {v,h1,h2,h3}:=s.ow j d O;refine{v,iU e1 h1,aA.same sm (h2.rep λc hc z=>?_)};rcases z with z|z
   ·let {i',nX}:=z;let {j',q1,q2,Y}:=cN nX;have:=s.nC j j' c hc Y;subst this;rw[O]at q2;cases q2
   ·exact na hc z
  |hand ok=>cases L
  |shl y' d' =>
   cases L;let {v,h1,h2,h3}:=s.shl j y' d O;refine{v,iU e1 h1,aA.same sm (h2.rep (λc hc z=>?_) λds vs r=>aj.grow (λc z=>?_) r)}
   ·rcases z with z|z
    ·let {i',nX}:=z;let {j',q1,q2,Y}:=cN nX;have:=s.nC j j' c hc Y;subst this;rw[O]at q2;cases q2
    ·exact na hc z
   ·rcases gr _ c z with z|z
    ·refine .inl ?_;rcases z with z|z
     ·exact .inl (.inl z)
     ·exact .inr z
    ·exact .inr z
 ·let {j,b',e1,O,L}:=jq e;cases b' <;> cases L
 ·let {j,b',e1,O,L}:=jq e;cases b' with
  |val y' d'=>cases L
  |own d'=>cases L
  |shl y d=>cases L
  |hand CB =>
   cases L;let {h,ns,h1,h2,h3,h4,h5}:=s.pM j ok O;refine{h,ns,iU e1 h1,sm _ _ h2,h3,?_,h5};unfold cF;rw[e1];simp only;rw[O];exact(ω rfl).trans h4
 ·let {j,q1,q2,Y}:=cN h;let {g1,g2,g3,g4}:=s.dm j c Y;rw[au (na Y)];exact{g1,g2,g3,na Y}
 ·let {j,q1,q2,Y}:=cN h1;let {j',YR,q2',q3'}:=cN h2;have:=s.nC j j' c Y q3';subst this;exact inj _ _ _ q1 YR
 ·unfold cF
  split
  ·next j e =>
   split
   ·exact s.ph j
   ·exact abg
  ·exact abg
def cy.P8 (s:cy P w .ak σ H β own)(ha:H a=M oa)(ht:∀xs,oa≠.tup xs)(h0:C.H0 a=ξ):cy P w .ak σ (upd H a o) β own:=by
 have k:Kp (·=a) H (upd H a o):=pE ha ht;have na:∀{i c},c∈own i->c≠a:=λ{i c} hc=>(s.dm i c hc).2.2.2;refine⟨s.len,λi y d e=>let ⟨v,O,L⟩:=s.val i y d e;{v,O,L.keep (k.mono λc z=>.inr z)},λi d e=>let ⟨v,O,L,Y⟩:=s.ow i d e;{v,O,L.keep k.tup (λc hc oc ec=>k.out c oc ec (na hc)),Y},
  λi ok e=>?_,λi c h=>?_,s.nC,s.ph,{λc oc z n=>k.out c oc (s.kp.out c oc z n) λq=>?_,λc xs z=>k.tup c xs (s.kp.tup c xs z)},λc z=>?_,λi y d e=>let ⟨v,O,L,Y⟩:=s.shl i y d e;{v,O,L.map (λc hc oc ec=>k.out c oc ec (na hc)) (λ_ _ r=>r.keep (k.mono λc z=>.inr z)),Y}⟩
 ·let {h,ns,O,L,Y,h4,h5}:=s.pM i ok e;exact{h,ns,O,k.out h _ L (na (by rw[h4];simp)),Y,h4,h5}
 ·rw[au (na h)];exact s.dm i c h
 ·rw[q,h0]at z;cases z
 ·by_cases q:c=a
  ·rw[q,az];exact λz=>.au
  ·rw[au q];exact s.iE c z
def cy.leave (s:cy P w C σ H1 β own)(i:cy P w .ak σ' H' βi qN)(n:Sn (H1,Wn (cF lk β own)) H' (Wn qN))(le:∀c,Wn qN c->Wn (cF lk β own) c)
  (hh:fD (cS lk β) βi) (hσ:∀(j:Nat) (ok:List Int->Prop) (i:Nat),β[j]?=M (M (B.hand ok))->lk[i]?=M (M j)->σ'[i]?=(cV lk σ)[i]?):cy P w C σ H' β own:=by
 have off:∀{j c},c∈own j->¬ Wn (cF lk β own) c->∀o,H1 c=M o->H' c=M o:=λ{j c} hc nw o e=>n.k.out c o e λz=>z.elim nw λz=>(s.dm j c hc).1 z;have Rt:∀{j c},c∈own j->Td β[j]?=η->¬ Wn (cF lk β own) c:=λ{j c} hc q qU=>by
  let {i',nX}:=qU;let {j',q1,L,q3}:=cN nX;have:=s.nC j j' c hc q3;subst this;rw[q]at L;cases L
 have hN:∀(j:Nat) (ok:List Int->Prop),β[j]?=M (M (B.hand ok))->∃a ns,σ[j]?=M (M (V.ref a))/\H' a=M (.lst (ns.map V.int))/\ok ns/\own j=[a]/\((∀b,¬ C.IO b)\/C.IO a):=λj ok e=>by
  let {h,ns,O,Y,h3,h4,h5}:=s.pM j ok e
  by_cases q:Wn (cF lk β own) h
  ·let {i',nX}:=q;let {j',q1,L,q3}:=cN nX;have:=s.nC j j' h (by rw[h4];simp) q3
   subst this;have eB:(cS lk β)[i']?=M (M (.hand ok)):=by
    unfold cS;rw[aaB,q1];simp only[adY];rw[e];rfl
   let {h',uq,g1,g2,g3,g4,g5}:=i.pM i' ok (hh.get eB);rw[hσ j ok i' e q1,iU q1 O]at g1;cases g1;exact{(h),uq,O,g2,g3,h4,h5}
  ·exact{h,ns,O,off (by rw[h4];simp) q _ Y,h3,h4,h5}
 refine⟨s.len,λj y d e=>?_,λj d e=>?_,hN,λj c hc=>?_,s.nC,s.ph,i.kp,i.iE,λj y d e=>by
  let {v,O,Y,h3}:=s.shl j y d e;refine{v,O,Y.map (λc hc o eo=>off hc (Rt hc (by rw[e];rfl)) o eo) (λds vs r=>?_),h3}
  have g:aj P w (λc=>jx C (Wn own) (yk G) c\/H1 c=ξ) H1 ds vs:=aj.grow (λc z=>z) r;refine aj.aW (λc z=>.inl z) (g.keep (n.k.mono λc z=>z.imp (λz=>?_) id));exact .inl (.inl (fB c z))⟩
 ·let {v,O,Y}:=s.val j y d e;have g:aA P w (λc=>jx C (Wn own) (yk y) c\/H1 c=ξ) H1 d v:=aA.grow (λc z=>z) Y;refine{v,O,aA.aW (λc z=>.inl z) (g.keep (n.k.mono λc z=>z.imp (λz=>?_) id))};cases y with
  |true=>exact .inl (.inl (fB c z))
  |false=>exact .inl (fB c z)
 ·let {v,O,Y,h3}:=s.ow j d e;exact{v,O,Y.keep n.k.tup (λc hc o eo=>off hc (Rt hc (by rw[e];rfl)) o eo),h3}
 ·let {g1,g2,g3,g4}:=s.dm j c hc
  by_cases q:Wn (cF lk β own) c
  ·let {i',nX}:=q;let {j',q1,L,q3}:=cN nX;have:=s.nC j j' c hc q3;subst this;cases e:β[j]? with
   |none=>rw[e]at L;cases L
   |some b =>
    rw[e]at L;cases b with
    |none=>cases L
    |some b =>
     cases b with
     |val y d=>cases L
     |own d=>cases L
     |shl y d=>cases L
     |hand ok =>
      let {h,ns,k1,k2,k3,k4,k5}:=hN j ok e;rw[k4]at hc;rw[aaE.mp hc]at g3 g4 ⊢
      rw[k2];exact{λz=>.au,λxs z=>(by cases z),g3,g4}
  ·cases e:H1 c with
   |none=>exact Κ e g1
   |some o=>rw[off hc q o e];exact{λz=>.au,λxs z=>g2 xs (by rw[e];exact z),g3,g4}
end
def PN:bg:=λβ R=>R G β
def DL {X:Cx}:w6 X [] (nk X C G PN):=zt.pre λσ H Q cO=>by let {β,own,s,q}:=cO;exact q H own (Out.refl s _)
def DK {X:Cx}{C:Cfg}{p:Bool}{c:Expr}{τ:bg}(h:w_ X C p c τ):w6 X [c] (nk X C p τ):=Ia h.pt
def pA (γ:eU)(τ:bg)(φ:aM)(ds:List D)(k:Kd)(O:a8)(K:List D->Prop):Prop:=∃I:Nat->a8->List D->Prop,I 0 O [] /\
 (∀i d β o,ds[i]?=M d->I i β o->γ d (sk k d) β λβ1=>τ β1 λt L=>if t=G then φ L λx kx Y=>Ha kx x/\o.length<aaC/\I (i+1) Y (o++[x]) else I (i+1) L o)/\∀β o,I ds.length β o->fD O β/\K o
def pA.mono {ds:List D}{K K':List D->Prop}(h:∀o,K o->K' o)(q:pA γ τ φ ds k L K):pA γ τ φ ds k L K':=let ⟨I,h0,Y,O⟩:=q;{I,h0,Y,λβ o z=>{(O β o z).1,h _ (O β o z).2}}
def gy (L:Links X scope N' lk)(hN:N'.Nodup):∀(i O j:Nat),lk[i]?=M (M j)->lk[O]?=M (M j)->i=O:=λi O j h1 h2=>by
 let {x,a1,a2,_x}:=L.link i j h1;let {y,b1,Y,_x}:=L.link O j h2;rw[a2]at Y;cases Y;exact(List.getElem?_inj (aay.mp a1).1 hN).mp (a1.trans b1.symm)
end L2.Q
namespace Zp
structure AQ (prog:aas)(w:aaG)(i l:μ)(vs:List aam)(St:Nat->Heap->Prop)(Ct:Heap->Prop):Prop where
 obj:∀k h,St k h->∃o,h.get? i=M o/\∀v,o.data≠.cell v
 keep:∀k h h',St k h->(∀o,h.get? i=M o->h'.get? i=M o)->St k h'
 kept:∀h h',Ct h->(∀o,h.get? l=M o->h'.get? l=M o)->Ct h'
 item:∀(A:abf) (E:aam->aao->Prop) (s:aao) (k:Nat) (x:aam) (Q:aam->aao->Prop),St k s.heap->Ct s.heap->vs[k]?=M x ->
  (∀h',St (k+1) h'->ach i s.heap h'->Q x {s with heap:=h'})->aaD .ab A (abz (.ref i)) Q E s
 done:∀(A:abf) (E:aam->aao->Prop) (s:aao) (k:Nat) (Q:aam->aao->Prop),A.handled=ξ->St k s.heap->Ct s.heap->vs[k]?=ξ ->
  (∀h' e,Heap.ExtBut i s.heap h'->(∃o,h'.get? e=M o/\o.cls=.type "StopIteration")->E (.ref e) {s with heap:=h'})->aaD .ab A (abz (.ref i)) Q E s
def F4 {i l:μ}:AQ prog w i l vs (λk h=>h.IsListIter i l k) (λh=>h.IsList l vs.toArray) where
 obj:=λk h cO=>by let {o,a,_x,d}:=cO;exact{o,a,λv z=>by rw[d]at z;cases z}
 keep:=λk h h' a k1=>a.at k1
 kept:=λh h' b k2=>b.at k2
 item:=λA E s k x Q a b L q=>wpAny_nextOf_list_item a b (by simpa using L) λh' Y sb=>q h' Y sb
 done:=λA E s k Q O a b L q=>wpAny_nextOf_list_end O a b (by simpa using L) q
structure Apart (z TI TO i1 i2 l1 l2:μ):Prop where
 nd:[z,TI,TO,i1,i2].Nodup
 o1:∀c∈[z,TO,i1,i2],l1≠c
 o2:∀c∈[z,TO,i1,i2],l2≠c
section
variable {z TI TO i1 i2 l1 l2:μ}{vs us:List aam}{S1 S2:Nat->Heap->Prop}{C1 C2:Heap->Prop}
def uA (P:Apart z TI TO i1 i2 l1 l2)(D1:AQ prog w i1 l1 vs S1 C1)(D2:AQ prog w i2 l2 us S2 C2){k:Nat}{x y a b:aam}{Q:Option aam->aao->Prop}(hz:aeL s.heap z TI TO .none)(qz:ack s.heap TI (.ref i1) (.ref i2))(CH:ack s.heap TO a b)
  (h1:S1 k s.heap) (h2:S2 k s.heap) (c1:C1 s.heap) (c2:C2 s.heap) (hx:vs[k]?=M x) (hy:us[k]?=M y)
  (q:∀h',aeL h' z TI TO (rawInt .e)->ack h' TO x y->S1 (k+1) h'->S2 (k+1) h'->ack h' .e x y->.ar->Q (M (.ref .e)) {s with heap:=h'}) :
  aaD .ab A (acv (.ref z)) Q E s:=by
 have hT:s.TypeIs (.ref z) "zip" := {_,hz,rfl};let {nd,o1,o2}:=P;simp only[aaX,aat,aaQ,or_false,not_or,abg,not_false_eq_true,and_true]at nd;obtain⟨⟨T7,Hu,Cy,CN⟩,⟨TITO,TIi1,TIi2⟩,⟨TOi1,TOi2⟩,i12⟩:=nd;have a1:=o1 z (by simp);have a2:=o1 TO (by simp);have a3:=o1 i1 (by simp);have a4:=o1 i2 .c
 have b1:=o2 z (by simp);have b2:=o2 TO (by simp);have b3:=o2 i1 (by simp);have b4:=o2 i2 .c
 unfold acv;apply aal;apply acn;apply abD (name:=abO "__next__") hT F.slot_zip_next;refine abF F.slot_zip_next hT F.entry_zip_next ?_ (F.args_zip_next_1 _)
 change aaD .ab _ (field (.ref z) 2 >>= _) _ _ _
 apply aal;apply abU hz rfl (x:=.bool η) rfl
 change aaD .ab _ (field (.ref z) 3 >>= _) _ _ _
 apply aal;apply abU hz rfl (x:=.ref TI) rfl;apply aal;apply abT qz rfl
 change aaD .ab _ (abp (.ref z) >>= _) _ _ _
 apply aal;unfold abp;apply aal;apply abU hz rfl (x:=.none) rfl;apply aap;simp only[if_true];apply aal;apply acK;apply aal;apply abU hz rfl (x:=.ref TO) rfl;apply aal;refine ab9 hz .c λg1 y1 O=>?_
 have z1:aeL g1 z TI TO .ellipsis:=y1;apply aal;simp only[List.zipIdx_cons,List.zipIdx_nil,ac0,aeb];apply aal;apply aal;apply wpAny_onRaise
 change aaD .ab _ (abz (.ref i1) >>= _) _ _ _
 apply aal;refine D1.item _ _ _ k x _ (D1.keep k _ _ h1 (λo e=>O.extBut _ _ (abn Cy) e)) (D1.kept _ _ c1 λo e=>O.extBut _ _ a1 e) hx λg2 s2 e2=>aap ?_;have t2:ack g2 TO a b:=e2.extBut _ _ TOi1 (O.extBut _ _ (abn Hu) CH);apply aal;apply abT t2 rfl;apply aal;refine wpAny_updateSeq_pair t2 λg3 y3 Y=>?_;have t3:ack g3 TO x b:=y3;apply aal;refine ac_ (aap ?_);apply aal;apply aal;apply wpAny_onRaise
 change aaD .ab _ (abz (.ref i2) >>= _) _ _ _
 apply aal;have k2:S2 k g3:=D2.keep k _ _ h2 λo e=>Y.extBut _ _ (abn TOi2) (e2.extBut _ _ (abn i12) (O.extBut _ _ (abn CN) e));have k3:C2 g3:=D2.kept _ _ c2 λo e=>Y.extBut _ _ b2 (e2.extBut _ _ b3 (O.extBut _ _ b1 e));refine D2.item _ _ _ k y _ k2 k3 hy λg4 s4 e4=>aap ?_;have t4:ack g4 TO x b:=e4.extBut _ _ TOi2 t3;apply aal;apply abT t4 rfl;apply aal;refine wpAny_updateSeq_pair t4 λL y5 e5=>?_;have t5:ack L TO x y:=y5;apply aal;refine ac_ (aap (aap ?_));apply aal;apply abT t5 rfl;apply aal;refine wpAny_newTuple ?_;have hsz:L.objs.size=.e:=by rw[e5.1,e4.1,Y.1,e2.1,O.1]
 have z5:aeL L z TI TO .ellipsis:=e5.extBut _ _ Hu (e4.extBut _ _ CN (Y.extBut _ _ Hu (e2.extBut _ _ Cy z1)));have old:∀c o,c∉[z,TO,i1,i2]->s.heap.get? c=M o->L.get? c=M o:=λc o hc e=>by
  simp only[aat,aaQ,or_false,not_or]at hc;let {c1,c2,c3,c4}:=hc;exact e5.extBut _ _ c2 (e4.extBut _ _ c4 (Y.extBut _ _ c2 (e2.extBut _ _ c3 (O.extBut _ _ c1 e))))
 have n1:S1 (k+1) L:=D1.keep _ _ _ s2 λo e=>e5.extBut _ _ (abn TOi1) (e4.extBut _ _ i12 (Y.extBut _ _ (abn TOi1) e));have n2:S2 (k+1) L:=D2.keep _ _ _ s4 λo e=>e5.extBut _ _ (abn TOi2) e;have YC:=aaw z5
 change aaD .ab _ (Builtin.SmallTypes.ownedTupleHandOut (.ref z) (.ref L.objs.size) >>= _) _ _ _
 apply aal;unfold Builtin.SmallTypes.ownedTupleHandOut;have z6:aeL (L.push {cls:=.type "tuple",data:=.seq #[x,y]}) z TI TO .ellipsis:=aar _ z5;apply aal;refine ab9 z6 .c λg7 y7 e7=>?_
 have z7:aeL g7 z TI TO (rawInt L.objs.size):=y7;refine ab9 z7 .c λg8 y8 e8=>?_
 have z8:aeL g8 z TI TO (rawInt L.objs.size):=y8;have up:∀c o,c≠z->L.get? c=M o->g8.get? c=M o:=λc o c1 e=>e8.extBut _ _ c1 (e7.extBut _ _ c1 (aar _ e));have t8:ack g8 L.objs.size x y:=e8.extBut _ _ (acp YC) (e7.extBut _ _ (acp YC) (aaU _ rfl));rw[hsz]at z8 t8;refine aap {_,rfl,aap ?_};show Q (M (.ref L.objs.size)) _;rw[hsz];exact q g8 z8 (up _ _ (abn Hu) t5) (D1.keep _ _ _ n1 λo e=>up _ _ (abn Cy) e) (D2.keep _ _ _ n2 λo e=>up _ _ (abn CN) e) t8 λc o hc e=>up c o (λw=>hc (by simp[w])) (old c o hc e)
def zb (P:Apart z TI TO i1 i2 l1 l2)(D1:AQ prog w i1 l1 vs S1 C1)(D2:AQ prog w i2 l2 us S2 C2)(hh:A.handled=ξ){k:Nat}{a b:aam}{Q:Option aam->aao->Prop}(hz:aeL s.heap z TI TO .none)(qz:ack s.heap TI (.ref i1) (.ref i2))(CH:ack s.heap TO a b)
  (h1:S1 k s.heap) (h2:S2 k s.heap) (c1:C1 s.heap) (c2:C2 s.heap) (hx:vs[k]?=ξ\/us[k]?=ξ)
  (q:∀h',.ar->Q ξ {s with heap:=h'}) :
  aaD .ab A (acv (.ref z)) Q E s:=by
 have hT:s.TypeIs (.ref z) "zip" := {_,hz,rfl};let {nd,o1,o2}:=P;simp only[aaX,aat,aaQ,or_false,not_or,abg,not_false_eq_true,and_true]at nd;obtain⟨⟨T7,Hu,Cy,CN⟩,⟨TITO,TIi1,TIi2⟩,⟨TOi1,TOi2⟩,i12⟩:=nd;have a1:=o1 z (by simp);have b1:=o2 z (by simp);have b2:=o2 TO (by simp);have b3:=o2 i1 .c
 have oc:∀{c:μ},c∉[z,TO,i1,i2]->c≠z/\c≠TO/\c≠i1/\c≠i2:=λhc=>by simpa[not_or] using hc
 have Fy:A.in1.handled=ξ:=hh;unfold acv;apply aal;apply acn;apply abD (name:=abO "__next__") hT F.slot_zip_next;refine abF F.slot_zip_next hT F.entry_zip_next ?_ (F.args_zip_next_1 _);have fin:∀(h':Heap) (e:μ),.ar->(∃o,h'.get? e=M o/\o.cls=.type "StopIteration") ->
   aaD .ab A (do if <- isInstance (.ref e) (.type "StopIteration") then pure ξ else throw (.ref e)) Q E {s with heap:=h'}:=λh' e hk Jv=>by
  let {o,ho,hc}:=Jv;apply aal;refine adO (T:="StopIteration") (b:=G) {(o),ho,hc} isSubtype_stop ?_;exact aap (q h' hk)
 change aaD .ab _ (field (.ref z) 2 >>= _) _ _ _
 apply aal;apply abU hz rfl (x:=.bool η) rfl
 change aaD .ab _ (field (.ref z) 3 >>= _) _ _ _
 apply aal;apply abU hz rfl (x:=.ref TI) rfl;apply aal;apply abT qz rfl
 change aaD .ab _ (abp (.ref z) >>= _) _ _ _
 apply aal;unfold abp;apply aal;apply abU hz rfl (x:=.none) rfl;apply aap;simp only[if_true];apply aal;apply acK;apply aal;apply abU hz rfl (x:=.ref TO) rfl;apply aal;refine ab9 hz .c λg1 y1 Y=>?_
 have z1:aeL g1 z TI TO .ellipsis:=y1;apply aal;simp only[List.zipIdx_cons,List.zipIdx_nil,ac0,aeb];apply aal;apply aal;apply wpAny_onRaise
 change aaD .ab _ (abz (.ref i1) >>= _) _ _ _
 apply aal;have f1:S1 k g1:=D1.keep k _ _ h1 λo e=>Y.extBut _ _ (abn Cy) e;have f2:C1 g1:=D1.kept _ _ c1 λo e=>Y.extBut _ _ a1 e;cases ex:vs[k]? with
 |none =>
  refine D1.done _ _ _ k _ Fy f1 f2 ex λg2 e L he=>?_;let {oe,ge,ce}:=he;have z2:aeL g2 z TI TO .ellipsis:=L _ _ Cy z1;have ez:e≠z:=λw=>by subst w;rw[z2]at ge;cases ge;simp at ce
  refine ab9 z2 .c λg3 _ O=>fin g3 e (λc o hc x=>?_) {oe,O.extBut _ _ ez ge,ce}
  let {q1,q2,q3,q4}:=oc hc;exact O.extBut _ _ q1 (L _ _ q3 (Y.extBut _ _ q1 x))
 |some x =>
  have ey:us[k]?=ξ:=hx.resolve_left (by rw[ex];intro z;cases z)
  refine D1.item _ _ _ k x _ f1 f2 ex λg2 s2 L=>aap ?_;have t2:ack g2 TO a b:=L.extBut _ _ TOi1 (Y.extBut _ _ (abn Hu) CH);apply aal;apply abT t2 rfl;apply aal;refine wpAny_updateSeq_pair t2 λg3 y3 O=>?_;apply aal;refine ac_ (aap ?_);apply aal;apply aal;apply wpAny_onRaise
  change aaD .ab _ (abz (.ref i2) >>= _) _ _ _
  apply aal;have k2:S2 k g3:=D2.keep k _ _ h2 λo e=>O.extBut _ _ (abn TOi2) (L.extBut _ _ (abn i12) (Y.extBut _ _ (abn CN) e));have k3:C2 g3:=D2.kept _ _ c2 λo e=>O.extBut _ _ b2 (L.extBut _ _ b3 (Y.extBut _ _ b1 e));refine D2.done _ _ _ k _ Fy k2 k3 ey λg4 e e4 he=>?_;let {oe,ge,ce}:=he;have z4:aeL g4 z TI TO .ellipsis:=e4 _ _ CN (O.extBut _ _ Hu (L.extBut _ _ Cy z1));have ez:e≠z:=λw=>by subst w;rw[z4]at ge;cases ge;simp at ce
  refine ab9 z4 .c λg5 _ e5=>fin g5 e (λc o hc x=>?_) {oe,e5.extBut _ _ ez ge,ce}
  let {q1,q2,q3,q4}:=oc hc;exact e5.extBut _ _ q1 (e4 _ _ q4 (O.extBut _ _ q2 (L.extBut _ _ q3 (Y.extBut _ _ q1 x))))
end
end Zp
namespace L2
open Zp
abbrev TJ:=Hp->List V->Prop
def ZQ (O L:TJ):It :=
 ⟨λi H=>∃xs ys x y,O H xs/\L H ys/\xs[i]?=M x/\ys[i]?=M y,
  λi H x H'=>∃T,H T=ξ/\x=.ref T/\∀xs ys,O H xs->L H ys->∃a b,xs[i]?=M a/\ys[i]?=M b/\H'=upd H T (.tup [a,b]),
  λi H=>∃xs ys,O H xs/\L H ys/\(xs[i]?=ξ\/ys[i]?=ξ)⟩
structure Src (P:aas)(w:aaG)(K:Ψ)(i l:μ)(c:TJ)(S:Nat->Heap->Prop):Prop where
 «at»:∀(X:Cx) (χ:List (μ×Obj)) (σ:St) (H:Hp) (s:aao) (xs:List V),X.prog=P->X.w=w->X.K=K->Inv X χ σ H s->c H xs->∃vs Ct,Vals xs vs/\AQ P w i l vs S Ct/\Ct s.heap
 obj:∀k h,S k h->∃o,h.get? i=M o/\∀v,o.data≠.cell v
 keep:∀k h h',S k h->(∀o,h.get? i=M o->h'.get? i=M o)->S k h'
 inj:∀(H:Hp) (xs ys:List V),c H xs->c H ys->xs=ys
 old:∀(H:Hp) (xs:List V),c H xs->H l≠ξ
def src_list {i l:μ}:Src P w K i l (λH xs=>H l=M (.lst xs)) (λk h=>h.IsListIter i l k) where
 «at»:=λX χ σ H s xs hp hw hk I h=>by
  let {its,L,O,Y}:=I.list (dw.of h);exact{its,_,L,F4,O.isList}
 obj:=λk h cO=>by let {o,a,Y,d}:=cO;exact{o,a,λv z=>by rw[d]at z;cases z}
 keep:=λk h h' a k1=>a.at k1
 inj:=λH xs ys h h'=>by rw[h]at h';cases h';rfl
 old:=λH xs h z=>by rw[h]at z;cases z
def Inv.nF {X:Cx}{χ:List (μ×Obj)}{σ:St}{H:Hp}{s:aao}{fp:List μ}{h':Heap}{x y:V}{u v:aam}(I:Inv X χ σ H s)(O:∀b∈fp,eV X χ H b)(k:∀c o,c∉fp->s.heap.get? c=M o->h'.get? c=M o)
  (rx:RelV x u) (Y:RelV y v) (hT:ack h' .e u v):Inv X χ σ (upd H .e (.tup [x,y])) {s with heap:=h'}:=by
 have hn:H .e=ξ:=I.bh.fresh (aaq _);have ne:∀{b:μ} {o:Obj},s.heap.get? b=M o->b≠.e:=λe=>aaN (aaw e);have nt:∀{b:μ} {o:HO},H b=M o->b≠.e:=λe z=>by rw[z,hn]at e;cases e
 have nf:∀{b:μ} {o:HO},H b=M o->b∉fp:=λe z=>by rw[(O _ z).1]at e;cases e
 refine I.call (g':=s.gens) (t':=s.toks) (d':=s.drawn) (ch:=fp) ⟨λb o e n _ hc=>k b o hc e,λb o e n _ hc=>{o.slots,k b o hc e},λb o e n _=>by rw[au (ne e)];exact n,λb o e hc=>{o,k b o hc e},
  λb xs e=>by rw[au (nt e)];exact e,λb o u e=>by rw[au (nt e)];exact e,λb ps e=>{#[],by rw[au (nt e),e];simp}⟩ (λb u e=>?_) I.bare λb L=>?_
 ·by_cases L:b=.e
  ·subst L;rw[az]at e;cases e;exact{by show 2<=aaC;decide,[_,_],.cons rx (.cons Y .nil),{_,hT,rfl,_,rfl}}
  ·rw[au L]at e;refine(I.bh b u e).nr (λc v hc q=>k c v ?_ q) (λc q=>by rw[au (nt q)];exact q) λc xs q=>by rw[au (nt q)];exact q
   rcases hc with z|z
   ·rw[z];exact nf e
   ·exact nf z
 ·let {f0,f1,f2,f3,f4,f5}:=O b L;exact{(f3),f1,f4,f5}
def Inv.gM {X:Cx}{χ:List (μ×Obj)}{σ:St}{H:Hp}{s:aao}{fp:List μ}{h':Heap}(I:Inv X χ σ H s)(L:∀b∈fp,eV X χ H b)(k:∀c o,c∉fp->s.heap.get? c=M o->h'.get? c=M o):Inv X χ σ H {s with heap:=h'}:=by
 have nf:∀{b:μ} {o:HO},H b=M o->b∉fp:=λe z=>by rw[(L _ z).1]at e;cases e
 refine I.call (g':=s.gens) (t':=s.toks) (d':=s.drawn) (ch:=fp) {λb o e n _ hc=>k b o hc e,λb o e n _ hc=>{o.slots,k b o hc e},λb o e n _=>n,λb o e hc=>{o,k b o hc e},λb xs e=>e,λb o u e=>e,λb ps e=>{#[],by rw[e];simp}} (λb u e=>?_) I.bare λb O=>?_
 ·refine(I.bh b u e).nr (λc v hc q=>k c v ?_ q) (λc q=>q) λc xs q=>q;rcases hc with z|z
  ·rw[z];exact nf e
  ·exact nf z
 ·let {f0,f1,f2,f3,f4,Y}:=L b O;exact{(f3),f1,f4,Y}
def C5 {P:aas}{w:aaG}{K:Ψ}{elts:List Expr}{kk:Nat}{pos:Pos}{z TI TO i1 i2 l1 l2:μ}{c1 c2:TJ}{S1 S2:Nat->Heap->Prop}(Ap:Apart z TI TO i1 i2 l1 l2)(s1:Src P w K i1 l1 c1 S1)(s2:Src P w K i2 l2 c2 S2):
  Turn P w K (.Tuple elts kk pos) (ZQ c1 c2) [z,TI,TO,i1,i2] z (λk h=>aeL h z TI TO .none/\ack h TI (.ref i1) (.ref i2)/\(∃a b,ack h TO a b)/\S1 k h/\S2 k h) where
 mem:=by simp
 obj:=λk h Fl c hc=>by
  obtain⟨h1,h2,⟨a,b,h3⟩,h4,h5⟩:=Fl;simp only[aat,aaQ,or_false]at hc;rcases hc with rfl|rfl|rfl|rfl|rfl
  ·exact{_,h1,λv z=>by cases (show Data.fields _=aeM v from z)}
  ·exact{_,h2,λv z=>by cases (show Data.seq _ _=aeM v from z)}
  ·exact{_,h3,λv z=>by cases (show Data.seq _ _=aeM v from z)}
  ·exact s1.obj k h h4
  ·exact s2.obj k h h5
 keep:=λk h h' Rj kp=>by obtain⟨h1,h2,⟨a,b,h3⟩,h4,h5⟩:=Rj;exact{kp z .c _ h1,kp TI .c _ h2,{a,b,kp TO .c _ h3},s1.keep k h h' h4 (λo e=>kp i1 .c o e),s2.keep k h h' h5 λo e=>kp i2 .c o e}
 item:=by
  intro X Y hw hK hc i χ s σ H E I L st hg;obtain⟨g1,g2,⟨a,b,g3⟩,g4,g5⟩:=st;let {xs,ys,x,y,hx,hy,ex,ey}:=hg;let {vs,C1,r1,D1,k1}:=s1.at X χ σ H s xs Y hw hK I hx;let {us,C2,r2,D2,k2}:=s2.at X χ σ H s ys Y hw hK I hy;let {u,eu,ru}:=r1.get ex;let {v,ev,rv}:=r2.get ey;have sub:∀c∈[z,TO,i1,i2],c∈[z,TI,TO,i1,i2]:=λc hc=>by simp at hc ⊢;rcases hc with h|h|h|h <;> simp[h]
  refine uA Ap D1 D2 g1 g2 g3 g4 g5 k1 k2 eu ev λh' y1 y2 y3 y4 y5 y6=>?_;have I1:=I.nF (fp:=[z,TI,TO,i1,i2]) L (λc o qv e=>y6 c o (λq=>qv (sub c q)) e) ru rv y5;have nT:∀b∈[z,TI,TO,i1,i2],upd H .e (.tup [x,y]) b=ξ:=λb O=>by
   have:b≠.e:=by
    have:=(show (∃o,s.heap.get? b=M o) from by
     simp only[aat,aaQ,or_false]at O;rcases O with rfl|rfl|rfl|rfl|rfl
     ·exact{_,g1}
     ·exact{_,g2}
     ·exact{_,g3}
     ·exact{_,(s1.obj i _ g4).choose_spec.1}
     ·exact{_,(s2.obj i _ g5).choose_spec.1})
    let {o,e}:=this;exact aaN (aaw e)
   rw[au this];exact(L b O).1
  have TI':ack h' TI (.ref i1) (.ref i2):=y6 TI _ (by
   have:=Ap.nd;simp only[aaX,aat,aaQ,or_false,not_or]at this ⊢
   obtain⟨⟨q1,_⟩,⟨q2,q3,q4⟩,_⟩:=this;exact{abn q1,q2,q3,q4}) g2
  refine{_,rfl,wpAny_letOwnedTupleGo_zip y1 λh'' z' sb=>?_};have I2:Inv X χ σ (upd H .e (.tup [x,y])) {s with heap:=h''}:=by
   refine I1.gM (fp:=[z]) (λb O=>?_) λc o qv e=>sb.extBut _ _ (by simpa using qv) e
   have e:b=z:=by simpa using O
   subst e;exact{nT b .c,(L b .c).2}
  have SU:∀c∈[TI,TO,i1,i2],c≠z:=λc hc q=>by
   have:=Ap.nd;rw[aaX]at this;exact this.1 (by rw[<- q];exact hc)
  refine{.ref .e,_,I2,rfl,{.e,I.bh.fresh (aaq _),rfl,λCO YD yt VN=>?_},{z',sb.extBut _ _ (SU TI .c) TI',{_,_,sb.extBut _ _ (SU TO .c) y2},s1.keep _ _ _ y3 (λo e=>sb.extBut _ _ (SU i1 .c) e),s2.keep _ _ _ y4 λo e=>sb.extBut _ _ (SU i2 .c) e},nT}
  rw[s1.inj H CO xs yt hx,s2.inj H YD ys VN hy];exact{(x),y,ex,ey,rfl}
 done:=by
  intro X Y hw hK hc i χ s σ H E I L st hg;obtain⟨g1,g2,⟨a,b,g3⟩,g4,g5⟩:=st;let {xs,ys,hx,hy,ex}:=hg;let {vs,C1,r1,D1,k1}:=s1.at X χ σ H s xs Y hw hK I hx;let {us,C2,r2,D2,k2}:=s2.at X χ σ H s ys Y hw hK I hy;have sub:∀c∈[z,TO,i1,i2],c∈[z,TI,TO,i1,i2]:=λc hc=>by simp at hc ⊢;rcases hc with h|h|h|h <;> simp[h]
  refine zb Ap D1 D2 (I.ok.hd hc) g1 g2 g3 g4 g5 k1 k2 (ex.imp (λq=>r1.none_of q) λq=>r2.none_of q) λh' y6=>?_;exact{rfl,I.gM (fp:=[z,TI,TO,i1,i2]) L λc o qv e=>y6 c o (λq=>qv (sub c q)) e}
 self:=λA i s Q E Ni q=>by let {h1,_x}:=Ni;exact wpAny_pyIter_zip h1 q
def GA:abt "zip" = M (.type "zip"):=by decide +kernel
def gh:List D->List D->List D
 |a::as,b::bs=>.tup [a,b]::gh as bs
 |_,_=>[]
theorem oh:∀{as bs:List D} {i:Nat} {d:D},(gh as bs)[i]?=M d->∃a b,as[i]?=M a/\bs[i]?=M b/\d=.tup [a,b]
 |[],_,_,_,h=>by simp[gh]at h
 |_::_,[],_,_,h=>by simp[gh]at h
 |a::as,b::bs,0,_,h=>by simp[gh]at h;exact{(a),b,rfl,rfl,h.symm}
 |a::as,b::bs,i+1,_,h=>by
  let {x,y,Y,O,L}:=oh (as:=as) (bs:=bs) (i:=i) (by simpa[gh] using h)
  exact{x,y,by simpa using Y,by simpa using O,L}
theorem kc:∀(as bs:List D),(gh as bs).length=min as.length bs.length
 |[],_=>by simp[gh]
 |_::_,[]=>by simp[gh]
 |a::as,b::bs=>by simp[gh,kc as bs]
section
variable {l1 l2:μ}{xs ys:List V}{es:List D}
def AF (t:Bool)(l:μ):TJ:=λH xs=>if t=G then H l=M (.tup xs) else H l=M (.lst xs)
def Jk (t:Bool)(h1:AF t l1 H xs)(h2:AF t l2 H ys)(O:t=η->¬ W l1)(L:t=η->¬ W l2)(r1:jO X W H ds xs)(r2:jO X W H es ys):uo X W (ZQ (AF t l1) (AF t l2)) (gh ds es) H:=λW' Y i H' k=>by
 have st:∀{l:μ} {xs:List V},AF t l H xs->(t=η->¬ W l)->AF t l H' xs:=λ{l xs} h n=>by
  unfold AF at h ⊢
  cases t with
  |true=>exact k.tup l xs h
  |false=>exact k.out l _ h λz=>(Y l z).elim (n rfl) λq=>by rw[show H l=M (HO.lst xs) from h]at q;cases q
 have inj:∀{l:μ} {xs ys:List V},AF t l H' xs->AF t l H' ys->xs=ys:=λ{l xs ys} a b=>by
  unfold AF at a b;cases t with
  |true=>rw[show H' l=M (HO.tup xs) from a]at b;cases b;rfl
  |false=>rw[show H' l=M (HO.lst xs) from a]at b;cases b;rfl
 have q1:=(aj.grow Y r1).keep k;have q2:=(aj.grow Y r2).keep k;constructor
 ·intro d hd;let {a,b,ha,hb,rfl}:=oh hd;let {x,ex,rx}:=aj.get q1 ha;let {y,ey,ry}:=aj.get q2 hb;refine{{xs,ys,x,y,st h1 O,st h2 L,ex,ey},λv H1 gC=>?_};let {T,hT,e,yl}:=gC;let {x',y',R4,ZI,eH}:=yl xs ys (st h1 O) (st h2 L);rw[ex]at R4;rw[ey]at ZI;cases R4;cases ZI;subst e eH;exact{ay.new hT,Rp.xt hT (.cons rx (.cons ry .nil))}
 ·intro hl;rw[kc]at hl;have z1:=q1.length;have z2:=q2.length;refine{xs,ys,st h1 O,st h2 L,?_}
  by_cases h:ds.length<=i
  ·exact .inl (abq .a)
  ·exact .inr (abq .a)
end
def c5 {lo:Int}{n i:Nat}{d:D}(h:(oR lo n)[i]?=M d):i<n/\d=.int (lo+i):=by
 unfold oR at h;rw[aaB]at h;have hi:i<n:=by
  by_cases hi:i<n
  ·exact hi
  ·rw[abq (by simpa using hi)]at h;cases h
 rw[acj hi]at h;cases h;exact{(hi),rfl}
def cZ {lo:Int}{n:Nat}:(oR lo n).length=n:=by unfold oR;simp
structure Df (K:Ψ)(mg:Str->Option aam)(x:Str)(st:Stmt)(ps:List Str)(f:μ)(fd:aa6):Prop where
 F:AO K x x st f fd
 b:Binds K fd ps []
 m:mg x=M (.ref f)
structure Bs (mg:Str->Option aam):Prop where
 max:mg "max" = ξ
 min:mg "min" = ξ
 int:mg "int" = ξ
 range:mg "range" = ξ
 sorted:mg "sorted" = ξ
 set:mg "set" = ξ
 len:mg "len" = ξ
 list:mg "list" = ξ
def OM:abt "set" = M (.type "set"):=by decide +kernel
def ck.gL (r:ck k A):A.units+64+1<adx:=by have:=r.un;lia
def ck.HC (r:ck k A):A.units+16<adx:=by have:=r.un;lia
def Pw (n:Int)(t:List Int):Prop:=∃a b,t=[a,b]/\0<=a/\a<b/\b<n
def Pw.ne (h:Pw n t):t≠[]:=by
 let {a,b,rfl,L}:=h;intro z;cases z
def cj (n:Int)(ts:List .ae):Prop:=∀t∈ts,Pw n t
def cj.ne (h:cj n ts):∀k∈ts,k≠[]:=λk hk=>(h k hk).ne
def cj.nil :cj n []:=λ_ z=>.au
def cj.app (h:cj n ts)(h':cj n us):cj n (ts++us):=λt L=>(aaT.mp L).elim (h t) (h' t)
def cj.one {n:Int}{a b:Int}(h1:0<=a)(Y:a<b)(O:b<n):cj n [[a,b]]:=λt L=>by
 rw[aaE.mp L];exact{(a),b,rfl,h1,Y,O}
def aE (ts:List .ae):D.bO .ah=G:=by
 have fi:∀k:List Int,D.bO (k.map D.int)=G:=λk=>by
  induction k with
  |nil=>rfl
  |cons i k ih=>show (D.flat (.int i)&&D.bO (k.map D.int))=G;rw[ih];rfl
 induction ts with
 |nil=>rfl
 |cons t ts ih =>
  show (D.flat (kD t)&&D.bO .ah)=G;rw[ih];show (D.bO (t.map D.int)&&G)=G;rw[fi];rfl
def gN (h:∀k∈ts,k≠[])(l:ts.length<64):(match [D.lst .ah]with | [.lst ds]=>ub [.lst ds]|_=>ξ)=M (.lst ((jC ts).map kD)):=by
 show (match fW (ts.map kD)with|some ks=>if ks.length<64 then M (D.lst ((jC ks).map kD)) else ξ|none=>ξ)=_
 rw[mh h];show (if ts.length<64 then M (D.lst ((jC ts).map kD)) else ξ)=_
 rw[ω l]
def Dj (h:cj n ts):cj n (jC ts):=λt L=>h t ((cz ts).mem_iff.mp L)
def Du (h:∀k∈ts,k≠[])(l:ts.length<1000):K9 [.lst .ah]=M (.sT (pZ ts)):=by
 show (match fW (ts.map kD)with|some ks=>if ks.length<1000 then M (D.sT (pZ ks)) else ξ|none=>ξ)=_
 rw[mh h];show (if ts.length<1000 then M (D.sT (pZ ts)) else ξ)=_
 rw[ω l]
def xE (h:∀k∈ts,k≠[])(l:ts.length<64):(match [D.sT (pZ ts)]with | [.sT ts]=>ub [.sT ts]|_=>ξ)=M (.lst ((jC (pZ ts)).map kD)):=by
 show (if (pZ ts).length<64/\(∀k∈pZ ts,k≠[]) then M (D.lst ((jC (pZ ts)).map kD)) else ξ)=_
 rw[ω {by have:=Aw ts;lia,λk hk=>h k (((fH ts).2 k).mp hk)}]
def sZ :(fs++[t]).map kD=fs.map kD++[kD t]:=by simp
def uN :(fs++[t]).map D.int=fs.map D.int++[D.int t]:=by simp
def nG {a b:D}:[a,b].length<=aaC:=by show 2<=aaC;decide
def O8 {a b c:D}:[a,b,c].length<=aaC:=by show 3<=aaC;decide
def AZ {a:D}:[a].length<=aaC:=by show 1<=aaC;decide
def ur {b:Bool}{p q:Prop}(L:b=G)(h:p):(if b=G then p else q):=by rw[ω L];exact h
def jW {b:Bool}{p q:Prop}(L:b=η)(h:q):(if b=G then p else q):=by rw[L,Δ .c];exact h
def lL {c:Prop}[Decidable c]{p q:Prop}(O:c->p)(L:¬ c->q):(if decide c=G then p else q):=by
 by_cases h:c
 ·exact ur (by simp[h]) (O h)
 ·exact jW (by simp[h]) (L h)
def Jn {c:Prop}[Decidable c]{p q:Prop}(O:¬ c->p)(L:c->q):(if (!decide c)=G then p else q):=by
 by_cases h:c
 ·exact jW (by simp[h]) (L h)
 ·exact ur (by simp[h]) (O h)
theorem e_ {α:Type}(f:α->D):∀l:List α,D.iB (l.map f)=l.map λa=>(f a).pd
 |[]=>rfl
 |a::l=>by
  show (f a).pd::D.iB (l.map f)=_;rw[e_ f l];rfl
theorem mJ :∀{xs:List aew},(∀x∈xs,x.canLay0=G/\x.depth<=n)->ac5 xs=G/\abY xs<=n
 |[],_=>{by simp[ac5],by simp[abY]}
 |x::xs,h=>by
  let {O,h2}:=mJ (n:=n) (xs:=xs) λy L=>h y (by simp[L])
  let {Y,g2}:=h x .c
  refine{by simp[ac5,O,Y],?_}
  simp only[abY];lia
def rA {ds:List D}(h:∀d∈ds,d.pd.canLay0=G/\d.pd.depth<=n):(D.tup ds).pd.canLay0=G/\(D.tup ds).pd.depth<=n+1:=by
 have e:D.iB ds=ds.map λd=>d.pd:=by
  have:=e_ (λd:D=>d) ds;simpa using this
 let {O,Y}:=mJ (n:=n) (xs:=D.iB ds) λx L=>by
  rw[e]at L;let {d,hd,rfl}:=abe.mp L;exact h d hd
 refine{by simpa[D.pd,abV] using O,?_}
 have:(D.tup ds).pd.depth=abY (D.iB ds)+1:=by simp[D.pd,acG]
 lia
def gk {ds:List D}(h:∀d∈ds,d.pd.canLay0=G/\d.pd.depth<=n):(D.lst ds).pd.canLay0=G/\(D.lst ds).pd.depth<=n+1:=by
 have e:D.iB ds=ds.map λd=>d.pd:=by
  have:=e_ (λd:D=>d) ds;simpa using this
 let {O,Y}:=mJ (n:=n) (xs:=D.iB ds) λx L=>by
  rw[e]at L;let {d,hd,rfl}:=abe.mp L;exact h d hd
 refine{by simpa[D.pd,abV] using O,?_}
 have:(D.lst ds).pd.depth=abY (D.iB ds)+1:=by simp[D.pd,acG]
 lia
def dW (i:Int):(D.int i).pd.canLay0=G/\(D.int i).pd.depth<=1:={by simp[D.pd,abV],by simp[D.pd,acG]}
def kA (b:Bool):(D.bl b).pd.canLay0=G/\(D.bl b).pd.depth<=1:={by simp[D.pd,abV],by simp[D.pd,acG]}
def oJ (t:List Int):(kD t).pd.canLay0=G/\(kD t).pd.depth<=2:=rA λd hd=>by
 let {i,L,rfl}:=abe.mp hd;exact dW i
def cB (ts:List .ae):(D.lst .ah).pd.canLay0=G/\(D.lst .ah).pd.depth<=3:=gk λd hd=>by
 let {i,L,rfl}:=abe.mp hd;exact oJ i
def gO (ts:List Int):(D.lst (ts.map D.int)).pd.canLay0=G/\(D.lst (ts.map D.int)).pd.depth<=2:=gk λd hd=>by
 let {i,L,rfl}:=abe.mp hd;exact dW i
def bZ {d:D}{n:Nat}(h:d.pd.canLay0=G/\d.pd.depth<=n)(L:n<=64:=by decide):d.oN=G:=by
 show (d.pd.canLay0&&decide (d.pd.depth<=64))=G;rw[h.1,Ξ .a]
 rfl
theorem h9 {α:Type}[DecidableEq α]{f:α->aew}(L:∀a b,abI (f a) (f b)=decide (a=b)):∀xs ys:List α,aev (xs.map f) (ys.map f)=decide (xs=ys)
 |[],[]=>by simp[aev]
 |[],_::_=>by simp[aev]
 |_::_,[]=>by simp[aev]
 |x::xs,y::ys=>by
  simp only[aa8,aev];rw[L,h9 L xs ys]
  by_cases O:x=y
  ·by_cases Y:xs=ys <;> simp[O,Y]
  ·simp[O]
def n6 (i j:Int):abI (D.int i).pd (D.int j).pd=decide (i=j):=by
 simp only[D.pd,abI]
 by_cases h:i=j <;> simp[h]
def FY (t u:List Int):abI (kD t).pd (kD u).pd=decide (t=u):=by
 show abI (.tuple (D.iB (t.map D.int))) (.tuple (D.iB (u.map D.int)))=_;rw[e_,e_];simp only[abI];exact h9 n6 t u
def wo (ts us:List .ae):abI (D.lst .ah).pd (D.lst (us.map kD)).pd=decide (ts=us):=by
 show abI (.list (D.iB .ah)) (.list (D.iB (us.map kD)))=_;rw[e_,e_];simp only[abI];exact h9 FY ts us
def wq (ts us:List Int):abI (D.lst (ts.map D.int)).pd (D.lst (us.map D.int)).pd=decide (ts=us):=by
 show abI (.list (D.iB (ts.map D.int))) (.list (D.iB (us.map D.int)))=_;rw[e_,e_];simp only[abI];exact h9 n6 ts us
def yK {a b:D}{c:Bool}(O:a.oN=G)(L:b.oN=G)(e:abI a.pd b.pd=c):Gh a b=M (.bl c):=by
 unfold Gh;rw[ω {(O),L},e]
def uc {a b:D}{c:Bool}(O:a.oN=G)(L:b.oN=G)(e:abI a.pd b.pd=c):d_ a b=M (.bl (!c)):=by
 unfold d_;rw[ω {(O),L},e]
def b8 (i j:Int):Gh (.int i) (.int j)=M (.bl (decide (i=j))):=yK (bZ (dW i)) (bZ (dW j)) (n6 i j)
def Ge (ts us:List .ae):Gh (.lst .ah) (.lst (us.map kD))=M (.bl (decide (ts=us))):=yK (bZ (cB ts)) (bZ (cB us)) (wo ts us)
def wy (ts us:List .ae):d_ (.lst .ah) (.lst (us.map kD))=M (.bl (!decide (ts=us))):=uc (bZ (cB ts)) (bZ (cB us)) (wo ts us)
def Gf (ts us:List Int):Gh (.lst (ts.map D.int)) (.lst (us.map D.int))=M (.bl (decide (ts=us))):=yK (bZ (gO ts)) (bZ (gO us)) (wq ts us)
def qc (ts us:List Int):d_ (.lst (ts.map D.int)) (.lst (us.map D.int))=M (.bl (!decide (ts=us))):=uc (bZ (gO ts)) (bZ (gO us)) (wq ts us)
theorem any_map {α:Type}[DecidableEq α]{f:α->D}(L:∀a b,abI (f a).pd (f b).pd=decide (a=b))(t:α):∀xs:List α,((D.iB (xs.map f)).any λy=>abI y (f t).pd)=decide (t∈xs)
 |[]=>rfl
 |x::xs=>by
  show (abI (f x).pd (f t).pd || (D.iB (xs.map f)).any λy=>abI y (f t).pd)=_
  rw[any_map L t xs,L]
  by_cases h:x=t
  ·simp[h]
  ·have h':¬ t=x:=λz=>h z.symm;simp[h,h']
def Gb (t:List Int)(ts:List .ae):Ka (kD t) (.lst .ah)=M (decide (t∈ts)):=by
 show (if (kD t).oN=G/\(D.lst .ah).oN=G then M _ else ξ)=_
 rw[ω {bZ (oJ t),bZ (cB ts)},any_map FY];exact Μ M (decide_eq_decide.mpr Iff.rfl)
def J_ (i:Int)(t:List Int):Ka (.int i) (kD t)=M (decide (i∈t)):=by
 show (if (D.int i).oN=G/\(D.tup (t.map D.int)).oN=G then M _ else ξ)=_
 rw[ω {bZ (dW i),bZ (oJ t)},any_map n6]
def qb (t:List Int)(ts:List .ae):yJ (kD t) (.lst .ah)=M (.bl (!decide (t∈ts))):=by unfold yJ;rw[Gb];rfl
def qe (i:Int)(t:List Int):Yl (.int i) (kD t)=M (.bl (decide (i∈t))):=by unfold Yl;rw[J_];rfl
def ZN {α:Type}{ds:List α}{i:Nat}{d:α}(h:ds[i]?=M d):mI ds (i:Int)=M d:=by
 have L:i<ds.length:=(aay.mp h).1;unfold mI qQ;rw[ω .a,ω .a,aby]
 exact h
def OR {α:Type}{ds:List α}{i:Int}(Y:0<=i)(O:i<ds.length):∃d∈ds,mI ds i=M d/\ds[i.toNat]?=M d:=by
 have L:i.toNat<ds.length:=by lia
 refine{ds[i.toNat],acd L,?_,aav L};have:=ZN (ds:=ds) (i:=i.toNat) (aav L)
 rwa [show ((i.toNat:Nat):Int)=i by lia]at this
def ud {ds:List D}{i:Nat}{d:D}(h:ds[i]?=M d):qD (.lst ds) (.int (i:Int))=M d:=ZN h
def pick {ds:List D}{r:Int}{p:D->Prop}(O:0<=r)(L:r<ds.length)(h:∀d∈ds,p d):∃d,qD (.lst ds) (.int r)=M d/\p d:=by
 let {d,hd,e,Y}:=OR O L;exact{d,e,h d hd}
def AG:abt "enumerate" = M (.type "enumerate"):=by decide +kernel
def ZR (l:μ):It :=
 ⟨λi H=>∃xs x,H l=M (.lst xs)/\xs[i]?=M x,
  λi H x H'=>∃T,H T=ξ/\x=.ref T/\∀xs,H l=M (.lst xs)->∃a,xs[i]?=M a/\H'=upd H T (.tup [.int i,a]),
  λi H=>∃xs,H l=M (.lst xs)/\xs[i]?=ξ⟩
def AW {P:aas}{w:aaG}{K:Ψ}{elts:List Expr}{kk:Nat}{pos:Pos}{e it l:μ}(ne:e≠it):
  Turn P w K (.Tuple elts kk pos) (ZR l) [e,it] e (λk h=>(∃old,IsEnum h e it (k:Int) old)/\h.IsListIter it l k) where
 mem:=by simp
 obj:=λk h lj c hc=>by
  obtain⟨⟨old,Y⟩,h2⟩:=lj;simp only[aat,aaQ,or_false]at hc;rcases hc with rfl|rfl
  ·exact{_,Y,λv z=>by cases (show Data.fields _=aeM v from z)}
  ·let {o,a,_x,d}:=h2;exact{o,a,λv z=>by rw[d]at z;cases z}
 keep:=λk h h' cO kp=>by obtain⟨⟨old,Y⟩,h2⟩:=cO;exact{{old,kp e .c _ Y},h2.at λo q=>kp it .c o q}
 item:=by
  intro X hP hw hK hc i χ s σ H E I L st hg;obtain⟨⟨old,g1⟩,g2⟩:=st;let {xs,x,hx,ex}:=hg;let {its,r',pl,_x}:=I.list (dw.of hx);let {u,eu,ru}:=r'.get ex;refine wpAny_pyNext_enum_item g1 g2 pl.isList (by simpa using eu) ne λh' y1 y2 y3 y4 y5=>?_
  have I1:=(I.nF (fp:=[e,it]) (x:=.int i) (u:=.int i s.toks) L (λc o qv q=>y5 c o (λz=>qv (by simp[z])) (λz=>qv (by simp[z])) q) {_,rfl} ru y3).tok (s.toks+1)
  have nT:∀b∈[e,it],upd H .e (.tup [.int i,x]) b=ξ:=λb O=>by
   have:b≠.e:=by
    simp only[aat,aaQ,or_false]at O;rcases O with rfl|rfl
    ·exact aaN (aaw g1)
    ·let {o,a,_x}:=g2;exact aaN (aaw a)
   rw[au this];exact(L b O).1
  refine{_,rfl,wpAny_letOwnedTupleGo_enum y1 λh'' z' sb=>?_};have I2:Inv X χ σ (upd H .e (.tup [.int i,x])) {s with heap:=h'',toks:=s.toks+1}:=by
   refine I1.gM (fp:=[e]) (λb O=>?_) λc o qv q=>sb.extBut _ _ (by simpa using qv) q
   have q:b=e:=by simpa using O
   subst q;exact{nT b .c,(L b .c).2}
  refine{.ref .e,_,I2,rfl,{.e,I.bh.fresh (aaq _),rfl,λCO yt=>?_},{{_,z'},y2.at λo q=>sb.extBut _ _ (abn ne) q},nT};rw[hx]at yt;cases yt;exact{(x),ex,rfl}
 done:=by
  intro X hP hw hK hc i χ s σ H E I L st hg;obtain⟨⟨old,g1⟩,g2⟩:=st;let {xs,hx,ex}:=hg;let {its,r',pl,_x}:=I.list (dw.of hx);refine wpAny_pyNext_enum_end (I.ok.hd hc) g1 g2 pl.isList (by simpa using r'.none_of ex) λh' y=>?_
  exact{rfl,I.gM (fp:=[e,it]) L λc o qv q=>y c o (λz=>qv (by simp[z])) q}
 self:=λA i s Q E lh q=>by obtain⟨⟨old,Y⟩,_⟩:=lh;exact aem Y q
def lF (ds:List D):List D:=gh (oR 0 ds.length) ds
section
variable {l:μ}{xs:List V}
def jt (h:(lF ds)[i]?=M d):∃b,ds[i]?=M b/\d=.tup [.int i,b]:=by
 let {a,b,O,L,rfl}:=oh h;let {Y,rfl}:=c5 O;exact{b,L,by simp}
def js:(lF ds).length=ds.length:=by unfold lF;rw[kc,cZ];simp
def E8 (h1:H l=M (.lst xs))(n1:¬ W l)(r1:jO X W H ds xs):uo X W (ZR l) (lF ds) H:=λW' Y i H' k=>by
 have st:H' l=M (.lst xs):=k.out l _ h1 λz=>(Y l z).elim n1 λq=>by rw[h1]at q;cases q
 have L:=(aj.grow Y r1).keep k;constructor
 ·intro d hd;let {b,hb,rfl}:=jt hd;let {x,ex,rx}:=aj.get L hb;refine{{(xs),x,st,ex},λv H1 gC=>?_};let {T,hT,e,yl}:=gC;let {x',R4,eH}:=yl xs st;rw[ex]at R4;cases R4;subst e eH;exact{ay.new hT,Rp.xt hT (.cons rfl (.cons rx .nil))}
 ·intro O;rw[js]at O;exact{xs,st,abq (by rw[L.length];exact O)}
variable {φs:wY}{elts:List Expr}{kk:Nat}{C7:Pos}
def Rf (φs:wY):OZ:=λρ R=>φs ρ λl=>∃as,l=[.lst as]/\R (lF as)
def DC {a:Expr}{p pos:Pos}(hm:X.mg "enumerate" = ξ)(Y:Sz X [a] φs)(hg:Gl X "enumerate" := by rfl)(hs:aaz [a] .f=[(η,eval a .f)]:=by rfl) :
  ZO X (.Tuple elts kk C7) (.Call (.Name "enumerate" p) [a] [] pos) (Rf φs):=by
 refine{λρ R R' k q=>Y.mono ρ _ _ (λl Fl=>by let {as,e,q}:=Fl;exact{as,e,k _ q}) q,λχ s σ H R I mw=>?_}
 let {W,ρ,se,q}:=mw;refine Call_ (eS I hg hm AG (abB (bz (Y.pa pos χ s σ H _ I (P0.of Y se q λds vs H1 h s1 O=>({(ds),h,s1,O}:∃ds,(∃as,ds=[.lst as]/\∀J H',ay H H'->uo X W J (lF as) H'->R J H')/\ay H H1/\jO X W H1 ds vs)))
  λus s1 ⟨vs,H1,L,rv,h⟩=>?_) hs rfl))
 obtain⟨ds,⟨as,e,q⟩,sm,O⟩:=h;subst e;obtain⟨x,rfl,⟨l1,xs,rfl,g1,n1,w1⟩⟩:=gH O;let {v1,rfl,e1}:=vals1 rv;cases (show v1=Ω l1 from e1)
 let {its,_x,p1,_x}:=L.list (dw.of g1);refine call_enumerate_list p1.isList λh' y1 y2 y3 y4=>aem y1 ?_;have I2:Inv X χ σ H1 {s1 with heap:=h'}:=L.kept (t':=s1.toks) y4
 refine{_,_,_,_,H1,rfl,I2,AW (Nat.succ_ne_self _),{{_,y1},y2},λb hb=>?_,q _ _ sm (E8 g1 n1 w1)};have lq:s1.heap.objs.size<=b:=by
  simp only[aat,aaQ,or_false]at hb;rcases hb with rfl|rfl <;> first|exact adh _ _|exact aaq _
 exact L.t_ lq (L.bh.fresh lq)
end
end L2
namespace HT
theorem iX {α β:Type}{f g:α->Option β}:∀{l:List α},(∀x∈l,f x=g x)->l.filterMap f=l.filterMap g
 |[],_=>rfl
 |x::l,h=>by
  rw[abj,abj,h x .c,iX λy L=>h y (by simp[L])]
def oS {α:Type}(xs:List α):((aaA xs.length).filterMap λk=>xs[xs.length-1-k]?)=xs.reverse:=by
 have h:=pick_run xs.reverse.toArray 0 xs.length;rw[List.filterMap_map]at h;have e:((aaA xs.length).filterMap λk=>xs[xs.length-1-k]?)=(aaA xs.length).filterMap ((λx=>xs.reverse.toArray[x]?) ∘ λx=>0+x):=by
  refine iX λk hk=>?_;have Pg:=aa2.mp hk;show _=xs.reverse.toArray[0+k]?;rw[adN,ad3,List.getElem?_reverse Pg]
 rw[e,h];simp only[List.drop_zero];exact abP .c
def qI (items:Array aam):slicePick items ξ ξ (M (-1))=items.toList.reverse.toArray:=by
 have e:(sliceRange (acU ξ ξ (M (-1)) items.size).1 (acU ξ ξ (M (-1)) items.size).2.1 (acU ξ ξ (M (-1)) items.size).2.2)=(aaA items.size).map λk=>items.size-1-k:=by
  show sliceRange ((items.size:Int)-1) (-1) (-1)=_;unfold sliceRange;have c:(if (-1:Int)>0 then (if (items.size:Int)-1 < -1 then ((-1)-((items.size:Int)-1)+-1-1) / -1 else 0) else (if (items.size:Int)-1 > -1 then ((items.size:Int)-1-(-1)-(-1)-1) / (-(-1)) else 0)).toNat=items.size:=by
   rw[Δ .a]
   split
   ·rw[show (-(-1):Int)=1 by rfl,Int.ediv_one];lia
   ·lia
  simp only[c];refine abK λk hk=>?_;have:=aa2.mp hk;lia
 unfold slicePick;rw[e,List.filterMap_map]
 congr 1
 have:=oS items.toList;rw[aau]at this;rw[<- this];refine iX λk hk=>?_;show items[items.size-1-k]?=_;rw[aaP]
def lS {sl:μ}{n:Nat}{t:Tok}{Q:Int×Int×Nat->aao->Prop}(hs:s.heap.IsSliceOf sl .none .none (.int (-1) t))
  (h:Q ((n:Int)-1,-1,n) s):aaD .ab A (Builtin.Slice.sliceApplied (.ref sl) (pure (n:Int))) Q E s:=by
 let {os,Rw,N9,L}:=id hs;unfold Builtin.Slice.sliceApplied Builtin.Slice.sliceFields;refine aal (aal (abU Rw L (x:=.none) rfl (aal (abU Rw L (x:=.none) rfl (aal (abU Rw L (x:=.int (-1) t) rfl (aap ?_)))))));refine aal (slicePart_int ?_);show aaD _ _ (if ((-1:Int)==0)=G then _ else _) _ _ s
 rw[Δ .b]
 refine aal (slicePart_none (aal (slicePart_none (aal (aap ?_)))));show aaD _ _ (match aej ξ ξ (-1) (n:Int)with|(lo,hi)=>pure (lo,(-1:Int),adk lo hi (-1))) _ _ s
 have Y:aej ξ ξ (-1) (n:Int)=((n:Int)-1,-1):=by
  unfold aej;simp
 rw[Y];show aaD _ _ (pure ((n:Int)-1,(-1:Int),adk ((n:Int)-1) (-1) (-1))) _ _ s;have O:adk ((n:Int)-1) (-1) (-1)=n:=by
  unfold adk;rw[Δ .a]
  split
  ·simp
  ·lia
 rw[O];exact aap h
def lA (L:IsTup s.heap t items)(hs:s.heap.IsSliceOf sl .none .none (.int (-1) Y))
  (h:Q (.ref .e) {s with heap:=s.heap.push {cls:=.type "tuple",data:=.seq items.toList.reverse.toArray}})
  (hsz:items.size<=aaC):aaD .ab A (getItem (.ref t) (.ref sl)) Q E s:=by
 have z_:sizeOk (.seq items.toList.reverse.toArray):=by
  show items.toList.reverse.toArray.size<=aaC;rw[aaH,ab2,aau];exact hsz
 let {os,Rw,O,K0}:=id hs;have hTs:s.TypeIs (.ref sl) "slice" := {(os),Rw,O};unfold getItem
 try with_reducible refine abl ?_
 first|refine aal (aap ?_)|skip
 refine aal (wpAny_sequenceKey L.typeIs .b ?_)
 refine aal (abD (name:=abO "__getitem__") L.typeIs adL
  (abF adL L.typeIs entry_tuple_getitem ?_ (args_tuple_getitem _ _)))
 show aaD _ _ (Builtin.Tuple.tupleItemsOf (.ref t) >>= _) _ _ s;refine aal (tupleItemsOf_ L ?_);refine aal (wpAny_typeOf hTs ?_);rw[ω .b]
 refine aal (lS hs ?_);show aaD _ _ (if (((items.size:Int)-1)==0&&(-1:Int)==1&&items.size==items.size)=G then _ else _) _ _ s
 rw[Δ .c]
 have ep:((aaA items.size).filterMap λ(m:Nat)=>items[(((items.size:Int)-1)+(m:Int)*(-1)).toNat]?).toArray=items.toList.reverse.toArray:=by
  congr 1
  have:=oS items.toList;rw[aau]at this;rw[<- this];refine iX λk hk=>?_;have Pg:=aa2.mp hk;rw[aaP,show (((items.size:Int)-1)+(k:Int)*(-1)).toNat=items.size-1-k by lia]
 rw[ep]
 first
  |exact aal (m:=adq _) (abS (aap ⟨_,rfl,aap h⟩) z_)
  |exact aal (m:=adq _) (abS (aal (aap (aap ⟨_,rfl,aap h⟩))) z_)
  |exact aal (aal (m:=adq _) (abS (aap (aap ⟨_,rfl,aap h⟩)) z_))
  |exact aal (aal (m:=adq _) (abS (aap ⟨_,rfl,aap h⟩) z_))
end HT
namespace L2
def Ot:D->Option D
 |.lst ds=>M (.lst ds.reverse)
 |.tup ds=>M (.tup ds.reverse)
 |_=>ξ
theorem aj.rev {H:Hp}:∀{ds:List D} {vs:List V},aj P w W H ds vs->aj P w W H ds.reverse vs.reverse
 |[],_,h=>by rw[show _=[] from h];rfl
 |d::ds,_,mx=>by
  let {v,r,e,O,L}:=mx;subst e;rw[aer,aer];exact(aj.rev L).append (.one O)
theorem Vals.rev:∀{xs:List V} {us:List aam},Vals xs us->Vals xs.reverse us.reverse
 |_,_,.nil=>.nil
 |_,_,.cons r t=>by
  rw[aer,aer];exact(Vals.rev t).append (.cons r .nil)
section
variable {p3 p4:Pos}
def Mn (he:PE X e te):PE X (.Subscript e .av pos) (λσ H Q=>te σ H λx H1=>(∃a xs,x=.ref a/\H1 a=M (.lst xs)/\∀p,H1 p=ξ->Q (.ref p) (upd H1 p (.lst xs.reverse)))\/(∃a xs,x=.ref a/\H1 a=M (.tup xs)/\∀p,H1 p=ξ->Q (.ref p) (upd H1 p (.tup xs.reverse)))):=by
 intro χ s σ H Q I h;refine Subscript_ (bz (he χ s σ H _ I h) λv s1 gC=>?_);let {x,H1,I1,r1,q1}:=gC;refine wpAny_Slice ?_;rw[evalPart_none];refine aap (aap ?_);rw[evalPart_some];refine bz (DX (X:=X) (pos:=p4) xp (br (i:=1) (j:=j) (pos:=p3)) χ s1 σ H1 (λv H'=>v=.int (-1)/\H'=H1) I1 {1,rfl,rfl,rfl}) λu L mw=>?_;let {y,H3,I3,r3,ey,eH}:=mw;subst ey eH;let {tk,rfl}:=(show ∃t,u=Value.int (-1) t from r3)
 have I4:Inv X χ σ H3 {L with heap:=L.heap.push {cls:=.type "slice",data:=.fields #[.none,.none,.int (-1) tk]}}:=I3.kept (t':=L.toks) λb ob q=>aar _ q
 have Fh:(L.heap.push {cls:=.type "slice",data:=.fields #[.none,.none,.int (-1) tk]}).IsSliceOf L.heap.objs.size .none .none (.int (-1) tk):=Heap.IsSliceOf.new ..
 generalize V9:({L with heap:=L.heap.push {cls:=.type "slice",data:=.fields #[.none,.none,.int (-1) tk]}}:aao)=O at I4 ⊢
 have Jt:O.heap.IsSliceOf L.heap.objs.size .none .none (.int (-1) tk):=by rw[<- V9];exact Fh
 have main:∃T id,typeLookup (.type T) "__getitem__" = pure (M (.builtin id))/\O.TypeIs v T/\aaD .aa X.A (getItem v (.ref L.heap.objs.size)) (EP X χ σ Q) X.xe O:=by
  rcases q1 with⟨a,xs,rfl,hx,q⟩|⟨a,xs,rfl,hx,q⟩
  ·cases (show v=Ω a from r1)
   let {its,r,Y,hz}:=I4.list (dw.of hx);have hlen:=r.length;refine{"list",_,slot_list_getitem.lookup,Y.isList.typeIs,?_};refine wpAny_getItem_list_slice Y.isList Jt .none .none (.int (-1) tk) .c ?_ (by rw[aaH] <;> lia)
   rw[HT.qI];refine{.ref O.heap.objs.size,_,I4.laid (t':=O.toks) (o:=.lst xs.reverse) (λb ob q=>aar _ q) (aaq _) ?_,rfl,q _ (I4.bh.fresh (aaq _))};exact{by rw[ab2];lia,_,0,by simpa using Vals.rev r,aaU _ rfl}
  ·cases (show v=Ω a from r1)
   let {its,r,Y,hz}:=I4.tuple (uw.of hx);have hlen:=r.length;refine{"tuple",_,adL.lookup,Y.typeIs,?_};refine HT.lA Y Jt ?_ (by rw[aaH] <;> lia)
   refine{.ref O.heap.objs.size,_,I4.laid (t':=O.toks) (o:=.tup xs.reverse) (λb ob q=>aar _ q) (aaq _) ?_,rfl,q _ (I4.bh.fresh (aaq _))};exact{by rw[ab2];lia,_,by simpa using Vals.rev r,IsTup.new _ _}
 let {T,id,hT,Y,hg}:=main;show aaD .aa X.A (subscriptTail e .av v (.ref L.heap.objs.size)) (EP X χ σ Q) X.xe O;exact tail_any (ops:=[v,.ref L.heap.objs.size]) Y hT hg (by with_unfolding_all rfl)
end
end L2
namespace L2.Q
def LA (β:a8):GV:=β.map λb=>match b with|some (.val _ d)=>M d|_=>ξ
section
variable {C:Cfg}{β:a8}{own:Nat->List μ}
def cy.Uv (s:cy P w C σ H β own):Sv P w (av C (Wn own) .old) σ H (LA β):=⟨s.Av .old,λi d e=>by
 unfold LA at e;rw[aaB]at e;cases q:β[i]? with
 |none=>rw[q]at e;cases e
 |some x =>
  rw[q]at e;cases x with
  |none=>cases e
  |some x =>
   cases x with
   |val y d'=>cases e;let {v,O,L}:=s.val i y d q;exact{v,O,L.aW λa z=>by cases y <;> first|exact .inl z|exact .inl (.inl z)}
   |own d'=>cases e
   |hand ok=>cases e
   |shl y d=>cases e⟩
end
section
variable {C:Cfg}{it:Expr}{ι:OZ}
def Ig (h:ZO X tg it ι):xi X C G tg it (λβ R=>ι (LA β) λds=>R ds .old β) :=
 {λβ R R' k q=>h.mono _ _ _ (λd q=>k _ _ _ q) q,h.pi.pre λσ H R L=>by let {β,own,s,q}:=L;exact{_,_,s.Uv,h.mono _ _ _ (λds q J H' s1 it=>q J H' own ((Out.refl s G).same s1) it) q}}
end
section
variable {C:Cfg}{β:a8}{own:Nat->List μ}{ok:List Int->Prop}{ns:List Int}
theorem rL:∀{ns:List Int} {vs:List V} {A:List μ},aR P w H (ns.map D.int) vs A->vs=ns.map V.int/\A=[]
 |[],_,_,h=>h
 |n::ns,_,_,mx=>by
  let {v,r,A1,Y,e,eA,O,L}:=mx;let {rfl,rfl}:=rL L;let {rfl,rfl}:=O;exact{e,by rw[eA];rfl}
def cy.toHand (s:cy P w C σ H β own)(e:β[i]?=M (M (.own (.lst (ns.map D.int)))))(ho:ok ns)(io:∀b,¬ C.IO b):cy P w C σ H (β.set i (M (.hand ok))) own:=by
 obtain⟨v,h1,⟨a,vs,A',rfl,h2,h3,Y⟩,h5⟩:=s.ow i _ e;let {rfl,rfl}:=rL Y;refine⟨by simp[s.len],λj y d q=>?_,λj d q=>?_,λj CB q=>?_,s.dm,s.nC,s.ph,s.kp,s.iE,λj y d q=>by
  by_cases aN:i=j
  ·subst aN;let {L,O}:=ba q;cases L
  ·rw[a6 aN]at q;exact s.shl j y d q⟩
 ·by_cases aN:i=j
  ·subst aN;let {L,O}:=ba q;cases L
  ·rw[a6 aN]at q;exact s.val j y d q
 ·by_cases aN:i=j
  ·subst aN;let {L,O}:=ba q;cases L
  ·rw[a6 aN]at q;exact s.ow j d q
 ·by_cases aN:i=j
  ·subst aN;let {L,O}:=ba q;cases L;exact{a,ns,h1,h2,ho,h3,.inl io}
  ·rw[a6 aN]at q;exact s.pM j CB q
end
section
variable {C:Cfg}{φ:aM}{x:Str}{ap:Pos}{ok:List Int->Prop}
def IA (ok:List Int->Prop)(Xz:∀b,¬ C.IO b)(he:∀U,PQ X (C.u U) p e φ)(hN:X.N.Nodup)(hi:X.N[i]?=M x:=by rfl)(O:Loc X.env.scope x:=by first|exact .inl rfl|exact .inr rfl)
  (hs:acD e (M (.Name x pos')) pos.line .f=pure η:=by rfl) (hf:X.fn x=G\/X.env.scope.names.lookup x=M .local:=by first|exact .inl rfl|exact .inr rfl|assumption) :
  PB X C (.Assign [.Name x pos'] e pos) (λE β=>φ β λd k β'=>Ha k d/\i<β'.length/\∃ns:List Int,d=.lst (ns.map D.int)/\ok ns/\E.nx (β'.set i (M (.hand ok)))):=by
 have B:=cm (C:=C) (i:=i) (pos:=pos) (pos':=pos') he hN hi O hs hf;refine{λE E' β l q=>(he λ_=>False).mono _ _ _ (λd k β' Fl=>by let {f,h,ns,e,o,q}:=Fl;exact{f,h,ns,e,o,l.nx _ q}) q,B.ps.pre λDe σ H gC=>?_}
 let {Z,E,β,sb,q,CB}:=gC;refine{Z,{E with nx:=λβ'=>∃(ns:List Int) (L:a8),i<L.length/\β'=L.set i (M (.own (.lst (ns.map D.int))))/\ok ns/\E.nx (L.set i (M (.hand ok)))},β,sb,(he λ_=>False).mono _ _ _ (λd k β' Ru=>by let {f,h,ns,e,o,q}:=Ru;exact{f,ns,β',h,by rw[e],o,q}) q,{λσ' H' β' xK mw=>?_,CB.rt,CB.bk,CB.ct}}
 let {ns,L,Y,e,o,q}:=mw;subst e;let {own,s,n}:=xK;have:=s.toHand (i:=i) (ok:=ok) (get_set Y) o Xz;rw[List.set_set]at this;exact CB.nx _ _ _ {(own),this,n} q
def cy.putL {P:aas}{w:aaG}{σ:St}{H:Hp}{β:a8}{own:Nat->List μ}{U U2:μ->Prop}{ds ds':List D}{vs':List V}{a:μ}{vs:List V}{A A':List μ}(s:cy P w (C.u U) σ H β own)(e:β[i]?=M (M (.own (.lst ds))))(h1:σ[i]?=M (M (.ref a)))(h2:H a=M (.lst vs))(O:own i=a::A)
  (r:aR P w H ds' vs' A') (nd:A'.Nodup) (hA:∀c∈A',c∈A\/(C.H0 c=ξ/\¬ Wn own c/\U c)) (Y:∀a,U2 a->U a) (X0:∀c∈A',c∉A->¬ U2 c) :
  cy P w (C.u U2) σ (upd H a (.lst vs')) (β.set i (M (.own (.lst ds')))) (aY own i (a::A'))/\∀c∈a::A',c∈own i\/(C.H0 c=ξ/\¬ Wn own c/\U c):=by
 have L:a∈own i:=by rw[O];simp
 have nA:a∉A:=by have:=s.ph i;rw[O]at this;exact(aaX.mp this).1
 have na:∀c∈A',c≠a:=λc hc z=>by
  subst z;rcases hA c hc with z|z
  ·exact nA z
  ·exact z.2.1 {(i),L}
 have kt:∀b xs,H b=M (.tup xs)->upd H a (.lst vs') b=M (.tup xs):=λb xs z=>by rw[au (λz'=>by rw[z',h2]at z;cases z)];exact z
 have ZG:∀c∈a::A',c∈own i\/(C.H0 c=ξ/\¬ Wn own c/\U c):=λc hc=>by
  rcases aat.mp hc with rfl|hc
  ·exact .inl L
  ·exact(hA c hc).imp (λz=>by rw[O];simp[z]) id
 refine{s.Ma e h1 L {a,vs',A',rfl,az,rfl,r.keep kt λc hc oc ec=>by rw[au (na c hc)];exact ec} (aaX.mpr {λz=>na a z rfl,nd}) ZG Y (λc hc z=>?_),ZG}
 rcases aat.mp hc with rfl|hc
 ·exact(s.dm i c L).2.2.2 (Y c z)
 ·by_cases q:c∈A
  ·exact(s.dm i c (by rw[O];simp[q])).2.2.2 (Y c z)
  ·exact X0 c hc q z
def u9 (h:∀c∈A',c∈own i):∀c,Wn (aY own i A') c->Wn own c:=λc Fj=>by
 let {j,hj}:=Fj
 by_cases aN:i=j
 ·rw[<- aN,os_eq]at hj;exact{i,h c hj}
 ·rw[bM aN]at hj;exact{(j),hj}
def DS {P:aas}{w:aaG}{H:Hp}{own:Nat->List μ}{Z:Hp×(μ->Prop)}{d:D}{v:V}{A:List μ}(r:Own P w H d v A)(h:∀c∈A,¬ Wn own c/\C.H0 c=ξ):KV P w C Z own H (sk .dM d) d v:=by
 have q:aA P w (av C (Wn own) .dM) H d v:=r.rep λc hc z=>z.elim (h c hc).1 λz=>z (h c hc).2;cases d with
 |int i=>exact KV.flat rfl q
 |bl i=>exact KV.flat rfl q
 |cI=>exact KV.flat rfl q
 |str i=>exact KV.flat rfl q
 |_=>exact q
def aR.concat {P:aas}{w:aaG}{H:Hp}{ds:List D}{d:D}{vs:List V}{A:List μ}(h:aR P w H (ds++[d]) vs A):∃us v O L,vs=us++[v]/\A=O++L/\aR P w H ds us O/\Own P w H d v L:=by
 let {v,O,L,A3,g1,g2,g3,g4,g5}:=h.split (i:=ds.length) (d:=d) .c
 rw[List.take_left]at g3;have e3:aR P w H [] (vs.drop (ds.length+1)) A3:=by simpa using g5
 have hl:=h.length;rw[aax,abd]at hl;refine{vs.take ds.length,v,O,L,?_,by rw[g2,e3.2,abR],g3,g4}
 have lM:ds.length<vs.length:=by lia
 have Y:vs=vs.take ds.length++vs.drop ds.length:=(acm _ _).symm;rw[abh lM,e3.1]at Y;have:vs[ds.length]=v:=by
  have:=aav lM;rw[g1]at this;exact(aaZ this).symm
 rw[this]at Y;exact Y
def xU (hn:Nm X i x:=by exact CC)
  (c8:aco .ay "pop" .f (eval .ay .f)=eval .ay .f:=by rfl) (c7:(ap.endLine==cp.line)=G:=by rfl) :
  PQ X C η (.Call (.Attribute .ay "pop" ap) [] [] cp) (λβ R=>∃ds d,β[i]?=M (M (.own (.lst (ds++[d]))))/\R d (sk .dM d) (β.set i (M (.own (.lst ds))))) :=
 ⟨λβ R R' k Ju=>by let {ds,d,Y,q}:=Ju;exact{ds,d,Y,k _ _ _ q},(Mr (apos:=ap) (cpos:=cp) Ι PySem.F.slot_list_pop PySem.F.type_list_pop MU (ij (pos:=px) hn) c8 c7).pre λσ H Q yy=>by
  let {β,own,s,ds,d,hb,q}:=yy;let {a,vs,A,Y,O,L,h4}:=s.pz hb;let {us,v,A1,A2,rfl,rfl,g3,g4}:=h4.concat;have nd:=s.ph i;rw[L]at nd;let {BE,EG,G8}:=abm.mp (aaX.mp nd).2;let {s2,hA}:=s.putL (C:=C) (U:=C.U) (U2:=C.U) (ds':=ds) (vs':=us) (A':=A1) hb Y O L g3 BE (λc hc=>.inl (by simp[hc])) (λ_ z=>z) (λc hc n=>Κ (by simp[hc]) n)
  have h0:∀c∈own i,C.H0 c=ξ:=by let {_x,_x,_x,h}:=s.ow i _ hb;exact h
  have kt:∀b xs,H b=M (.tup xs)->upd H a (.lst us) b=M (.tup xs):=λb xs z=>by rw[au (λz'=>by rw[z',O]at z;cases z)];exact z
  have na:∀c∈A2,c≠a:=λc hc z=>(aaX.mp nd).1 (by rw[<- z];simp[hc])
  have le:∀c,Wn (aY own i (a::A1)) c->Wn own c:=u9 λc hc=>by rw[L];rcases aat.mp hc with rfl|hc <;> simp[*]
  refine{.ref a,Y,.inl {rfl,_,dw.of O},a,_,v,rfl,rfl,O,by simp,?_}
  rw[List.dropLast_concat];refine q v _ _ {s2,?_,λz=>.au,le} (DS (C:=C) (g4.keep kt λc hc oc ec=>by rw[au (na c hc)];exact ec) λc hc=>{λ⟨j,hj⟩=>?_,h0 c (by rw[L];simp[hc])})
  ·have u:=Sn.upd (Z:=(H,Wn own)) (o':=.lst us) (Sn.refl (H:=H) (W:=Wn own)) O (λxs z=>by cases z) {i,by rw[L];simp}
   exact{λb z=>.inl (le b z),u.k,u.d}
  ·by_cases aN:i=j
   ·rw[<- aN,os_eq]at hj;rcases aat.mp hj with rfl|hj
    ·exact na _ hc rfl
    ·exact G8 _ hj _ hc rfl
   ·rw[bM aN]at hj;exact aN (s.nC i j c (by rw[L];simp[hc]) hj)⟩
end
section
variable {C:Cfg}{k:Expr}{φ φk:aM}{pk:Bool}{x:Str}{ap:Pos}
def Bb {n:Nat}{j:Int}{k:Nat}(h:qQ n j=M k):seqIndex? j n=M k:=by
 unfold qQ at h;unfold seqIndex?
 by_cases O:0<=j
 ·rw[ω O]at h
  by_cases L:j<n
  ·rw[ω L]at h;cases h;have e:(if j<0 then j+n else j)=j:=Δ .a
   simp only[e];simp[O,L]
  ·rw[Δ L]at h;cases h
 ·rw[Δ O]at h
  by_cases L:-(n:Int)<=j
  ·rw[ω L]at h;cases h;have e:(if j<0 then j+n else j)=j+n:=ω .a
   simp only[e];have:0<=j+n/\j+n<n:=by lia
   simp[this]
  ·rw[Δ L]at h;cases h
def ym {n:Nat}{j:Int}{k:Nat}(h:qQ n j=M k):k<n:=by
 unfold qQ at h
 by_cases O:0<=j
 ·rw[ω O]at h
  by_cases L:j<n
  ·rw[ω L]at h;cases h;lia
  ·rw[Δ L]at h;cases h
 ·rw[Δ O]at h
  by_cases L:-(n:Int)<=j
  ·rw[ω L]at h;cases h;lia
  ·rw[Δ L]at h;cases h
def m_ {α:Type}:∀(l:List α) (j:Nat),l.eraseIdx j=l.take j++l.drop (j+1):=λl j=>List.eraseIdx_eq_take_drop_succ l j
def DO (he:PQ X C p e φ)(hn:Nm X i x:=by exact CC)
  (c8:aco .ay "pop" .f (eval .ay .f)=eval .ay .f:=by rfl)
  (iV:.as=G:=by rfl)
  (c7:(ap.endLine==cp.line)=G:=by rfl) (hs:aaz [e] .f=.aE::aaz [] .f:=by rfl) (fC:(abN cp (aaz [] .f)).any (·.1)=η:=by rfl) :
  PQ X C η (.Call (.Attribute .ay "pop" ap) [e] [] cp) (λβ R=>(∃ds,β[i]?=M (M (.own (.lst ds))))/\φ β λkd _ β'=>∃(ds:List D) (j:Int) (m:Nat) (d:D),kd=.int j/\β'[i]?=M (M (.own (.lst ds)))/\-(2 ^ 63)<=j/\j<2 ^ 63/\qQ ds.length j=M m/\ds[m]?=M d/\R d (sk .dM d) (β'.set i (M (.own (.lst (ds.eraseIdx m)))))) :=
 ⟨λβ R R' k lj=>by let {h0,q}:=lj;exact{h0,he.mono _ _ _ (λkd _ β' qU=>by let {ds,j,m,d,h1,Y,O,h4,h5,h6,q}:=qU;exact{ds,j,m,d,h1,Y,O,h4,h5,h6,k _ _ _ q}) q},
  (zI (apos:=ap) (cpos:=cp) Ι PySem.F.slot_list_pop PySem.F.type_list_pop EI (ij (pos:=px) hn) (b6 he.pe f_ hs) c8 iV c7 hs fC).pre λσ H Q t6=>by
  obtain⟨β,own,s0,⟨Ye,JF⟩,q⟩:=t6;let {a0,Z5,A0,z1,z2,z3,z4}:=s0.pz JF;refine{.ref a0,z1,.inl {rfl,_,dw.of z2},tQ.of he s0 q λkd kk β' kv H1 aw gC o r=>?_};let {ds,j,m,d,e1,hb,j1,j2,hj,hm,q}:=gC;subst e1;cases r.rep;have s:=o.sq;let {a,vs,A,h1,Y,O,h4}:=s.pz hb;rw[z1]at h1;cases h1;let {v,A1,A2,A3,g1,rfl,g3,g4,g5}:=h4.split hm;have nd:=s.ph i;rw[O]at nd;let {BE,EG,G8}:=abm.mp (aaX.mp nd).2;let {Ta,QM,QL}:=abm.mp EG;have ow:aR X.prog X.w H1 (ds.eraseIdx m) (vs.eraseIdx m) (A1++A3):=by rw[m_,m_];exact g3.append g5
  have U5:(A1++A3).Nodup:=abm.mpr {BE,QM,λx hx y hy=>G8 x hx y (aa_ _ hy)};let {s2,hA}:=s.putL (C:=C) (U:=C.U) (U2:=C.U) (ds':=ds.eraseIdx m) (vs':=vs.eraseIdx m) (A':=A1++A3) hb z1 Y O ow U5 (λc hc=>.inl (by rcases aaT.mp hc with hc|hc <;> simp[hc])) (λ_ z=>z) (λc hc n=>Κ (by rcases aaT.mp hc with hc|hc <;> simp[hc]) n)
  have h0:∀c∈aw i,C.H0 c=ξ:=by let {_x,_x,_x,h}:=s.ow i _ hb;exact h
  have kt:∀b xs,H1 b=M (.tup xs)->upd H1 a0 (.lst (vs.eraseIdx m)) b=M (.tup xs):=λb xs z=>by rw[au (λz'=>by rw[z',Y]at z;cases z)];exact z
  have na:∀c∈A2,c≠a0:=λc hc z=>(aaX.mp nd).1 (by rw[<- z];simp[hc])
  have le:∀c,Wn (aY aw i (a0::(A1++A3))) c->Wn aw c:=u9 λc hc=>by
   rw[O];rcases aat.mp hc with rfl|hc
   ·simp
   ·rcases aaT.mp hc with hc|hc <;> simp[hc]
  refine{a0,vs,j,m,v,rfl,rfl,Y,j1,j2,by rw[h4.length];exact Bb hj,g1,?_}
  have u:=Sn.upd (Z:=(H1,Wn aw)) (o':=.lst (vs.eraseIdx m)) (Sn.refl (H:=H1) (W:=Wn aw)) Y (λxs z=>by cases z) {i,by rw[O];simp}
  refine q v _ _ {s2,o.sn.trans {λb z=>.inl (le b z),u.k,u.d},λz=>.au,λc z=>o.le c (le c z)} (DS (C:=C) (g4.keep kt λc hc oc ec=>by rw[au (na c hc)];exact ec) λc hc=>{λmw=>?_,h0 c (by rw[O];simp[hc])})
  let {j',L}:=mw
  by_cases aN:i=j'
  ·rw[<- aN,os_eq]at L;rcases aat.mp L with rfl|L
   ·exact na _ hc rfl
   ·rcases aaT.mp L with L|L
    ·exact G8 _ L _ (abW _ hc) rfl
    ·exact QL _ hc _ L rfl
  ·rw[bM aN]at L;exact aN (s.nC i j' c (by rw[O];simp[hc]) L)⟩
def HJ {Z:Hp×(μ->Prop)}{H:Hp}{own:Nat->List μ}{a:μ}{o oa:HO}{A':List μ}{U:μ->Prop}(n:Sn Z H (Wn own))(m:∀a,U a->Z.1 a=ξ)(h2:H a=M oa)(L:∀xs,oa≠.tup xs)(O:Wn own a)(Y:∀c∈A',c∈own i\/(C.H0 c=ξ/\¬ Wn own c/\U c)):Sn Z (upd H a o) (Wn (aY own i A')) :=
 oI n m O {(oa),h2,L} Y
def oW (he:∀U,PQ X (C.u U) p e φ)(hk:∀U,PQ X (C.u U) pk k φk)(hn:Nm X i x:=by exact CC)
  (ha:∀v,assign (.Subscript .ay k pos') .f v=(do
   let ov <- holding [v] (eval .ay .f)
   let iv <- holding [v,ov] (eval k .f)
   aep pos'
   holding [v,ov,iv] (setItem ov iv v)
   release [v,ov,iv] []):=by intro _;rfl) (hs:swapsWithSole [.Subscript .ay k pos'] e pos.line .f=pure η:=by rfl) (hw:swappedStores [.Subscript .ay k pos'] e .f=pure ξ:=by rfl)
  (h1:(acM [.Subscript .ay k pos'] .f).map (·.2)=[assign (.Subscript .ay k pos') .f]:=by rfl) :
  PB X C (.Assign [.Subscript .ay k pos'] e pos) (λE β=>φ β λd kd O=>Ha kd d/\(∃ds,O[i]?=M (M (.own (.lst ds))))/\φk O λjd _ L=>∃ds j m,jd=.int j/\L[i]?=M (M (.own (.lst ds)))/\qQ ds.length j=M m/\E.nx (L.set i (M (.own (.lst (ds.set m d)))))):=by
 refine{λE E' β l q=>(he λ_=>False).mono _ _ _ (λd kd O yy=>by let {f,h0,q}:=yy;exact{f,h0,(hk λ_=>False).mono _ _ _ (λjd _ L yx=>by let {ds,j,m,h1,h2,h3,q}:=yx;exact{ds,j,m,h1,h2,h3,l.nx _ q}) q}) q,λχ s σ H De I Ri=>?_}
 obtain⟨Z,E,β,⟨own,sq,n⟩,q,ok⟩:=Ri;refine oU (he λa=>H a=ξ).pe (tH (ij (pos:=px) hn) (hk λa=>H a=ξ).pe set_list ha) hs hw h1 χ s σ H De I ?_;refine tQ.of (he λa=>H a=ξ) (sq.oj (C:=C.z) (U:=λa=>H a=ξ) λa z=>z) q λd kd O v H1 aw VS o r=>?_;obtain⟨f,⟨Ye,JF⟩,q⟩:=VS;let {a0,Z5,A0,z1,z2,z3,z4}:=o.sq.pz JF;refine{.ref a0,z1,tQ.of (hk λa=>H a=ξ) o.sq q λjd kj L jv H2 a7 VR o2 r2=>?_};let {ds,j,m,e1,hb,hj,q}:=VR;subst e1;cases r2.rep;let {A,r1,rn,r3}:=(r.fl f).held (by intro z;cases z) o2.sn
 let {a,vs,A',g1,g2,g3,g4}:=o2.sq.pz hb;rw[z1]at g1;cases g1;have Xl:m<ds.length:=ym hj;have hm:ds[m]?=M ds[m]:=aav Xl;let {v0,B1,B2,B3,k1,rfl,k3,k4,k5}:=g4.split hm;have nd:=o2.sq.ph i;rw[g3]at nd;let {BE,EG,G8}:=abm.mp (aaX.mp nd).2;let {Ta,QM,QL}:=abm.mp EG;have Tj:m<vs.length:=by rw[g4.length];exact ym hj
 have ow:aR X.prog X.w H2 (ds.set m d) (vs.set m v) (B1++(A++B3)):=by
  rw[adD,ω (ym hj),adD,ω Tj];exact k3.append {v,_,A,B3,rfl,rfl,r1,k5}
 have off:∀c∈A,∀c'∈B1++(B2++B3),c≠c':=λc hc c' qw z=>(r3 c hc).2.1 {i,by rw[g3,z];simp only[aat];exact .inr qw}
 have U5:(B1++(A++B3)).Nodup:=abm.mpr ⟨BE,abm.mpr {rn,QM,λx hx y Y=>off x hx y (by simp[Y])},λx hx y Y z=>by
  rcases aaT.mp Y with Y|Y
  ·exact off y Y x (by simp[hx]) z.symm
  ·exact G8 x hx y (aa_ _ Y) z⟩
 let {s2,hA}:=o2.sq.putL (C:=C) (U:=λa=>H a=ξ) (U2:=λ_=>False) (ds':=ds.set m d) (vs':=vs.set m v) (A':=B1++(A++B3)) hb z1 g2 g3 ow U5 (λc hc=>by
  rcases aaT.mp hc with hc|hc
  ·exact .inl (by simp[hc])
  ·rcases aaT.mp hc with hc|hc
   ·exact .inr {(r3 c hc).2.2,(r3 c hc).2.1,(r3 c hc).1}
   ·exact .inl (by simp[hc])) (λ_ z=>z.elim) (λc hc n z=>z)
 exact{a0,vs,j,m,rfl,rfl,g2,by rw[g4.length];exact hj,ok.nx _ _ _ {_,s2,HJ ((n.trans o.sn).trans o2.sn) (λb z=>n.free z) g2 (λxs z=>by cases z) {i,by rw[g3];simp} hA} q}
end
abbrev QX (l:Bool)(ds:List D):D:=match l with|true=>.lst ds|false=>.tup ds
section
variable {A:List μ}{v:V}{l:Bool}
def u_ {m:Nat}{es:List D}(r:Own P w H (QX l ds) v A)(nd:A.Nodup)(hm:ds[m]?=M (.lst es)):∃a vs c us B,v=.ref a/\H a=M (match l with|true=>.lst vs|false=>.tup vs)/\vs.length=ds.length/\vs[m]?=M (.ref c)/\H c=M (.lst us)/\c∈A/\aR P w H es us B/\(∀x∈B,x∈A/\x≠c)/\B.Nodup /\
  ∀fN ze O,aR P w H fN ze O->O.Nodup->(∀x∈O,x∈B\/x∉A)->(∀x∈O,x≠c)->∃A',Own P w (upd H c (.lst ze)) (QX l (ds.set m (.lst fN))) v A'/\A'.Nodup/\∀x∈A',x∈A\/x∈O:=by
 have core:∀{vs:List V} {A:List μ},A.Nodup->aR P w H ds vs A->∃c us B,vs[m]?=M (.ref c)/\H c=M (.lst us)/\c∈A/\aR P w H es us B/\(∀x∈B,x∈A/\x≠c)/\B.Nodup /\
   ∀fN ze O,aR P w H fN ze O->O.Nodup->(∀x∈O,x∈B\/x∉A)->(∀x∈O,x≠c)->∃A',aR P w (upd H c (.lst ze)) (ds.set m (.lst fN)) vs A'/\A'.Nodup/\(∀x∈A',x∈A\/x∈O):=λ{vs A} nd os=>by
  have hl:=os.length;have hmd:m<ds.length:=(aay.mp hm).1;obtain⟨u,A1,A2,A3,g1,rfl,g3,⟨c,us,B,rfl,h2,rfl,h4⟩,g5⟩:=os.split hm;let {BE,EG,G8}:=abm.mp nd;let {Ta,QM,QL}:=abm.mp EG;have ncB:=(aaX.mp Ta).1;refine{c,us,B,g1,h2,by simp,h4,λx L=>{by simp[L],λz=>ncB (by rw[<- z];exact L)},(aaX.mp Ta).2,λfN ze O o' n' lq qw=>?_}
  have kt:∀b xs,H b=M (.tup xs)->upd H c (.lst ze) b=M (.tup xs):=λb xs z=>by rw[au (λz'=>by rw[z',h2]at z;cases z)];exact z
  have n1:∀x∈A1,x≠c:=λx L z=>G8 x L c .c z
  have n3:∀x∈A3,x≠c:=λx L z=>QL c .c x L z.symm
  have off:∀x∈O,x∉A1/\x∉A3:=λx L=>by
   rcases lq x L with z|z
   ·exact{λq=>G8 x q x (by simp[z]) rfl,λq=>QL x (by simp[z]) x q rfl}
   ·exact{λq=>z (by simp[q]),λq=>z (by simp[q])}
  have Tj:m<vs.length:=by lia
  have ev:vs=vs.take m++V.ref c::vs.drop (m+1):=by
   have e1:vs=vs.take m++vs.drop m:=(acm _ _).symm;rw[abh Tj]at e1;have:vs[m]=V.ref c:=by
    have:=aav Tj;rw[g1]at this;exact(aaZ this).symm
   rwa [this]at e1
  refine{A1++((c::O)++A3),?_,abm.mpr {BE,abm.mpr {aaX.mpr {λz=>qw c z rfl,n'},QM,λx L y Y=>?_},λx L y Y z=>?_},λx L=>?_}
  ·rw[adD,ω hmd];have q:aR P w (upd H c (.lst ze)) (ds.take m++.lst fN::ds.drop (m+1)) (vs.take m++.ref c::vs.drop (m+1)) (A1++((c::O)++A3)) :=
    (g3.keep kt λx L oc ec=>by rw[au (n1 x L)];exact ec).append {.ref c,_,c::O,A3,rfl,rfl,{c,ze,O,rfl,az,rfl,o'.keep kt λx L oc ec=>by rw[au (qw x L)];exact ec},g5.keep kt λx L oc ec=>by rw[au (n3 x L)];exact ec}
   rw[<- ev]at q;exact q
  ·intro z;subst z;rcases aat.mp L with rfl|L
   ·exact n3 _ Y rfl
   ·exact(off x L).2 Y
  ·subst z;rcases aaT.mp Y with Y|Y
   ·rcases aat.mp Y with rfl|Y
    ·exact n1 _ L rfl
    ·exact(off x Y).1 L
   ·exact G8 x L x (by simp[Y]) rfl
  ·rcases aaT.mp L with L|L
   ·exact .inl (by simp[L])
   ·rcases aaT.mp L with L|L
    ·rcases aat.mp L with rfl|L
     ·exact .inl .c
     ·exact .inr L
    ·exact .inl (by simp[L])
 cases l with
 |true =>
  let {a,vs,A',rfl,h2,rfl,h4}:=r;let {na,nd'}:=aaX.mp nd;let {c,us,B,q1,q2,q3,q4,q5,q6,q7}:=core nd' h4;have ca:c≠a:=λz=>na (by rw[<- z];exact q3)
  refine{a,vs,c,us,B,rfl,h2,h4.length,q1,q2,by simp[q3],q4,λx L=>{by simp[(q5 x L).1],(q5 x L).2},q6,λfN ze O o' n' lq qw=>?_}
  let {A2,g1,g2,g3}:=q7 fN ze O o' n' (λx L=>(lq x L).imp id λz q=>z (by simp[q])) qw
  refine{a::A2,{a,vs,A2,rfl,by rw[au ca.symm];exact h2,rfl,g1},aaX.mpr {λz=>?_,g2},λx L=>?_}
  ·rcases g3 a z with z|z
   ·exact na z
   ·rcases lq a z with z|z
    ·exact na (q5 a z).1
    ·exact z .c
  ·rcases aat.mp L with rfl|L
   ·exact .inl .c
   ·exact(g3 x L).imp (λz=>by simp[z]) id
 |false =>
  let {a,vs,rfl,h2,h4}:=r;let {c,us,B,q1,q2,q3,q4,q5,q6,q7}:=core nd h4;have ca:a≠c:=λz=>by rw[z,q2]at h2;cases h2
  refine{a,vs,c,us,B,rfl,h2,h4.length,q1,q2,q3,q4,q5,q6,λfN ze O o' n' lq qw=>?_};let {A2,g1,g2,g3}:=q7 fN ze O o' n' lq qw;exact{A2,{a,vs,rfl,by rw[au ca];exact h2,g1},g2,g3}
end
section
variable {C:Cfg}{k:Expr}{φ φk:aM}{x:Str}{kp ap:Pos}
def mU (l:Bool)(he:∀U,PQ X (C.u U) G e φ)(hk:∀U,PQ X (C.u U) G k φk)(hn:Nm X i x:=by exact CC)
  (Xy:jz k:=by exact λ_ _=>rfl)
  (c8:aco (.Subscript .ay k kp) "append" .f (eval (.Subscript .ay k kp) .f)=eval (.Subscript .ay k kp) .f:=by rfl)
  (iV:.as=G:=by rfl)
  (c7:(ap.endLine==cp.line)=G:=by rfl) (hs:aaz [e] .f=.aE::aaz [] .f:=by rfl) (fC:(abN cp (aaz [] .f)).any (·.1)=η:=by rfl)
  (xg:acD (.Call (.Attribute (.Subscript .ay k kp) "append" ap) [e] [] cp) ξ pos.line .f=pure η:=by rfl) :
  PB X C (.Expr (.Call (.Attribute (.Subscript .ay k kp) "append" ap) [e] [] cp) pos) (λE β=>(∃d0,β[i]?=M (M (.own d0)))/\φk β λjd _ Y=>∃ds j m es,jd=.int j/\Y[i]?=M (M (.own (QX l ds)))/\qQ ds.length j=M m/\ds[m]?=M (.lst es)/\φ Y λd kd O=>Ha kd d/\O[i]?=M (M (.own (QX l ds)))/\es.length<aaC/\E.nx (O.set i (M (.own (QX l (ds.set m (.lst (es++[d]))))))) ):=by
 refine{λE E' β l lj=>by let {q0,q}:=lj;exact{q0,(hk λ_=>False).mono _ _ _ (λjd _ Y qU=>by let {ds,j,m,es,h1,h2,h3,h4,q}:=qU;exact{ds,j,m,es,h1,h2,h3,h4,(he λ_=>False).mono _ _ _ (λd kd O t6=>by let {g1,g2,g3,q}:=t6;exact{g1,g2,g3,l.nx _ q}) q}) q},λχ s σ H De I gC=>?_}
 obtain⟨Z,E,β,⟨own,sq,n⟩,⟨⟨d0,hd0⟩,q⟩,ok⟩:=gC;have ix:Hq X (λx y H Q=>Qe X.K x y H Q\/Qd X.K x y H Q):=λvalue slice χ s σ H x y v u Q I rx ry h hs=>h.elim (λh=>fb value slice χ s σ H x y v u Q I rx ry h hs) λh=>E7 value slice χ s σ H x y v u Q I rx ry h hs;refine nN (pos:=pos) (zI (apos:=ap) (cpos:=cp) Ι PySem.F.slot_list_append PySem.F.type_list_append l9 (kO (pos:=kp) ix (ij (pos:=px) hn) (hk λa=>H a=ξ).pe Xy) (b6 (he λa=>H a=ξ).pe f_ hs) c8 iV c7 hs fC) xg χ s σ H De I ?_;have sqU:=sq.oj (C:=C.z) (U:=λa=>H a=ξ) λa z=>z;let {v0,yu,_x,_x}:=sq.ow i d0 hd0;refine{v0,yu,tQ.of (hk λa=>H a=ξ) sqU q λjd kk Y kv H1 aw mw o r=>?_};let {ds,j,m,es,e1,hb,hj,hm,q}:=mw;subst e1;cases r.rep;let {v,cO,ow,h0}:=o.sq.ow i _ hb;rw[yu]at cO;cases cO;let {a,vs,c,us,B,rfl,q1,q2,q3,q4,q5,q6,q7,q8,q9}:=u_ ow (o.sq.ph i) hm;have TH:mI vs j=M (.ref c):=by unfold mI;rw[q2,hj];exact q3
 have YZ:SV X.K "list" (.ref c) H1/\Dc (tQ X (C.u λa=>H a=ξ) G φ) PY σ H1 λxs H2=>zr (.ref c) xs H2 λ_ H1=>De.nx σ H1:=by
  refine{.inl {rfl,us,dw.of q4},tQ.of (he λa=>H a=ξ) o.sq q λd kd O v2 H2 a7 BW o2 r2=>?_};let {f,Zw,hl,q}:=BW;let {s2,e2}:=o2.pu rfl;let {v',Zb,ow2,h02}:=o2.sq.ow i _ Zw;rw[yu]at Zb;cases Zb;let {a',vs',c',ze,B',ea,p1,p2,p3,p4,p5,p6,p7,p8,p9}:=u_ ow2 (o2.sq.ph i) hm;cases ea;have e3:=s2 _ _ q1;rw[p1]at e3;have ev:vs'=vs:=by cases l <;> (cases e3;rfl)
  subst ev;rw[q3]at p3;cases p3;have e4:=s2 _ _ q4;rw[p4]at e4;cases e4;let {A,r1,rn,r3}:=r2.fl f;have MO:∀x∈A,x∉a7 i:=λx L z=>(r3 x L).2.1 {(i),z};let {A',g1,g2,g3}:=p9 (es++[d]) (us++[v2]) (B'++A) (p6.append (aR.one r1)) (abm.mpr {p8,rn,λx L y hy z=>MO y hy (by rw[<- z];exact(p7 x L).1)})
   (λx L=>(aaT.mp L).imp id (MO x)) (λx L z=>by
    rcases aaT.mp L with L|L
    ·exact(p7 x L).2 z
    ·exact MO x L (by rw[z];exact p5))
  have hA:∀x∈A',x∈a7 i\/(C.H0 x=ξ/\¬ Wn a7 x/\H x=ξ):=λx L=>by
   rcases g3 x L with z|z
   ·exact .inl z
   ·rcases aaT.mp z with z|z
    ·exact .inl (p7 x z).1
    ·exact .inr {(r3 x z).2.2,(r3 x z).2.1,o.sn.free (r3 x z).1}
  exact{c,us,v2,rfl,rfl,p4,by rw[p6.length];exact hl,ok.nx _ _ _ {_,o2.sq.putIn (C:=C) (U:=λa=>H a=ξ) Zw yu p5 g1 g2 hA,oI ((n.trans o.sn).trans o2.sn) (λb z=>n.free z) {(i),p5} {_,p4,λxs z=>by cases z} hA} q}
 cases l with
 |true=>exact .inl {a,vs,j,.ref c,rfl,rfl,dw.of q1,TH,YZ}
 |false=>exact .inr {a,vs,j,.ref c,rfl,rfl,uw.of q1,TH,YZ}
end
end L2.Q
namespace L2
def Pd {b:Bool}{p q:Prop}(O:b=G->p)(L:b=η->q):(if b=G then p else q):=by
 cases b
 ·exact jW rfl (L rfl)
 ·exact ur rfl (O rfl)
def ue (a b c d:Int):Bool:=(decide (a<c)&&(decide (c<b)&&decide (b<d))) || (decide (c<a)&&(decide (a<d)&&decide (d<b)))
def eT:List Int->List Int->Bool
 |[a,b],[c,d]=>ue a b c d
 |_,_=>η
def Pair (t:List Int):Prop:=∃a b,t=[a,b]
def Pw.pair (h:Pw n t):Pair t:=let ⟨a,b,e,_⟩:=h;{(a),b,e}
def pV:FD:=λds R=>∃t u,ds=[kD t,kD u]/\Pair t/\Pair u/\R (.bl (eT t u))
def pV.mono:cH pV:=λds R R' k cO=>by let {t,u,e,O,L,q}:=cO;exact{t,u,e,O,L,k _ q}
def dA (t u:List Int):Bool:=t.any λi=>decide (i∈u)
def pQ:FD:=λds R=>∃t u,ds=[kD t,kD u]/\Pair t/\R (.bl (dA t u))
def pQ.mono:cH pQ:=λds R R' k lh=>by let {t,u,e,L,q}:=lh;exact{t,u,e,L,k _ q}
abbrev Flt:=Option (Str×List Nat)
def Og:Flt->D
 |none=>.cI
 |some (s,ks)=>.tup (.str s::ks.map λ(k:Nat)=>D.int (k:Int))
def uv (ts:List .ae)(p:List Int->Bool)(j:Nat):Bool:=match ts[j]? with|some u=>p u|none=>η
def lE (rows ts:List .ae)(k:Nat)(t:List Int):Flt:=if t∈rows then
   (if decide (0<k)&&uv ts (λu=>!HT.lexLt u t) (k-1) then M ("order",[k]) else
    match (aaA k).find? (uv ts λu=>dA u t)with
    |some j=>M ("twice",[j,k])
    |none=>match (aaA k).find? (uv ts λu=>eT u t)with
      |some j=>M ("cross",[j,k])
      |none=>ξ)
  else M ("none",[k])
def jZ (rows ts:List .ae)(k:Nat):Flt:=match ts[k]? with
 |none=>ξ
 |some t=>lE rows ts k t
def mC (h:ts[k]?=M t):jZ rows ts k=lE rows ts k t:=by unfold jZ;rw[h]
def jX (rows ts:List .ae):Flt:=(aaA ts.length).findSome? (jZ rows ts)
theorem jY {p:Nat->Bool}:∀{k:Nat},j<k->p j=G->(∀i<j,p i=η)->(aaA k).find? p=M j
 |0,h,_,_=>by lia
 |k+1,h,L,O=>by
  rw[acE,List.find?_append]
  by_cases hj:j<k
  ·rw[jY hj L O];rfl
  ·have e:j=k:=by lia
   subst e;have:(aaA j).find? p=ξ:=List.find?_eq_none.mpr λi hi=>by simp[O i (aa2.mp hi)]
   rw[this];simp[L]
def find_none {p:Nat->Bool}(h:∀i<k,p i=η):(aaA k).find? p=ξ:=List.find?_eq_none.mpr λi hi=>by simp[h i (aa2.mp hi)]
theorem vK :∀{k:Nat},j<k->f j=M x->(∀i<j,f i=ξ)->(aaA k).findSome? f=M x
 |0,h,_,_=>by lia
 |k+1,h,L,O=>by
  rw[acE,List.findSome?_append]
  by_cases hj:j<k
  ·rw[vK hj L O];rfl
  ·have e:j=k:=by lia
   subst e;have:(aaA j).findSome? f=ξ:=aec.mpr λi hi=>O i (aa2.mp hi);rw[this];simp[L]
def JM (h:∀i<k,f i=ξ):(aaA k).findSome? f=ξ:=aec.mpr λi hi=>h i (aa2.mp hi)
def Pairs (ts:List .ae):Prop:=∀t∈ts,Pair t
def pU:FD:=λds R=>∃(n:Int) (rows ts:List .ae) (k:Nat),ds=[.tup [.int n,.lst (rows.map kD)],.lst .ah,.int k]/\k<ts.length/\Pairs ts/\k<2 ^ 60/\R (Og (jZ rows ts k))
def pU.mono:cH pU:=λds R R' k Rk=>by let {n,rows,ts,j,e,Y,O,L,q}:=Rk;exact{n,rows,ts,j,e,Y,O,L,k _ q}
def pS:FD:=λds R=>∃(n:Int) (rows ts:List .ae),ds=[.tup [.int n,.lst (rows.map kD)],.lst .ah]/\ts.length<=100000/\Pairs ts/\R (Og (jX rows ts))
def pS.mono:cH pS:=λds R R' k Rj=>by let {n,rows,ts,e,O,L,q}:=Rj;exact{n,rows,ts,e,O,L,k _ q}
def j4:FD:=λds R=>∃(n:Int) (rows ts:List .ae),ds=[.tup [.int n,.lst (rows.map kD)],.lst .ah]/\ts.length<=100000/\Pairs ts/\R (.bl (decide (jX rows ts=ξ)))
def j4.mono:cH j4:=λds R R' k Ni=>by let {n,rows,ts,e,O,L,q}:=Ni;exact{n,rows,ts,e,O,L,k _ q}
theorem rP:∀t u:List Int,O1.lexLe t u=!HT.lexLt u t
 |[],[]=>rfl
 |[],_::_=>rfl
 |_::_,[]=>rfl
 |x::xs,y::ys=>by
  show (if x=y then O1.lexLe xs ys else decide (x<=y))=!(if y=x then HT.lexLt ys xs else decide (y<x))
  by_cases h:x=y
  ·rw[ω h,ω h.symm,rP xs ys]
  ·rw[Δ h,Δ (abn h)]
   by_cases L:x<=y
   ·have:¬ y<x:=by lia
    simp[L,this]
   ·have:y<x:=by lia
    simp[L,this]
def J9 (t u:List Int):Sg (kD t) (kD u)=M (.bl (!HT.lexLt u t)):=by
 show (match cu (t.map D.int),cu (u.map D.int)with|some ns,M L=>M (D.bl (O1.lexLe ns L))|_,_=>ξ)=_
 rw[jo,jo];show M (D.bl (O1.lexLe t u))=_;rw[rP]
theorem FL:∀f:Flt,(Og f).flat=G
 |none=>rfl
 |some (s,ks)=>by
  show (D.flat (.str s)&&D.bO (ks.map λ(k:Nat)=>D.int (k:Int)))=G;have:D.bO (ks.map λ(k:Nat)=>D.int (k:Int))=G:=vP (T:=λ_=>True) λd hd=>by
   let {k,L,rfl}:=abe.mp hd;exact{(tv),rfl}
  rw[this];rfl
def i5 {ts:List .ae}{k:Nat}{t:List Int}(h:ts[k]?=M t):qD (.lst .ah) (.int (k:Int))=M (kD t):=ud (by rw[aaB,h];rfl)
structure Bs2 (mg:Str->Option aam):Prop extends Bs mg where
 BR:mg "isinstance" = ξ
 tuple:mg "tuple" = ξ
 str:mg "str" = ξ
 bool:mg "bool" = ξ
 zip:mg "zip" = ξ
 enumerate:mg "enumerate" = ξ
def lG (h:d.pd.canLay0=G/\d.pd.depth<=n)(L:n<=64:=by decide):d_ d d=M (.bl η):=uc (bZ h L) (bZ h L) (eqv_refl _ h.1)
end L2
namespace L2.Q
structure w9 (X:Cx)(C:Cfg)(p:Bool)(ifs:List Expr)(τ:bg):Prop where
 mono:∀β R R',(∀d β,R d β->R' d β)->τ β R->τ β R'
 pt:w6 X ifs (nk X C p τ)
def dU {X:Cx}:w9 X C G [] PN:={λ_ _ _ k h=>k _ _ h,DL}
def jQ {X:Cx}{C:Cfg}{p:Bool}{c:Expr}{τ:bg}(h:w_ X C p c τ):w9 X C p [c] τ:={h.mono,DK h}
section
variable {y:Str}
def bj:Hq X (Dz X qD NF):=λvalue slice χ s σ H x y v u Q I O L cO hs=>by
 let {W,d1,d2,d,hd,r1,Y,e,q}:=cO;exact Na value slice χ s σ H x y v u Q I O L {W,d1,d2,d,hd,r1,Y,e,λv H' s r=>q v H' s r λf=>aA.flat f r} hs
end
def Cd (ns:List Int)(lo hi:Option Int):∃L:List Int,wG (ns.map V.int) lo hi=L.map V.int/\L.length<=ns.length:=by
 refine{(ns.drop (HT.iw (ns.map V.int).length 0 lo)).take (HT.iw (ns.map V.int).length (ns.map V.int).length hi-HT.iw (ns.map V.int).length 0 lo),?_,?_}
 ·unfold wG;rw[aex,aey]
 ·rw[aa4,abM];lia
theorem cL {H:Hp}:∀ns:List Int,aj P w W H (ns.map D.int) (ns.map V.int)
 |[]=>rfl
 |n::ns=>{_,_,rfl,rfl,cL ns}
def HH {H H':Hp}(L:(L2.start N vs).length=n)(sm:ay H H'):cy P w {H,λ_=>False,ro,U} (L2.start N vs) H' (aaR n ξ) (λ_=>[]) :=
 {by rw[L,List.length_replicate],λi y d h=>(iI h).elim,λi d h=>(iI h).elim,λi ok h=>(iI h).elim,λi a h=>(nomatch h),λi j a h=>(nomatch h),λi=>abg,sm.kp,λa z e=>z (sm.free e),λi y d h=>(iI h).elim}
def Qb {ro:Bool}{H H':Hp}{b:Bool}{v:V}(h:rj P w ro H H' (.bl b) v):v=.bl b:=by
 cases ro with
 |true=>let {A,L,O}:=h;exact L.1
 |false=>exact h
end L2.Q
namespace L2
abbrev f7 (n:Int)(rows:List .ae):D:=.tup [.int n,.lst (rows.map kD)]
def rB (n:Int)(rows:List .ae):(f7 n rows).pd.canLay0=G/\(f7 n rows).pd.depth<=4:=rA λd hd=>by
 rcases aat.mp hd with rfl|hd
 ·exact{(dW n).1,aa3 (dW n).2 .b}
 ·rw[aaE.mp hd];exact cB rows
def jw {us vs:List .ae}(h:us.length+vs.length<=1000000):Cc (.lst (us.map kD)) (.lst (vs.map kD))=M (.lst ((us++vs).map kD)):=by
 show (if (us.map kD).length+(vs.map kD).length<=aaC then M (D.lst (us.map kD++vs.map kD)) else ξ)=_
 rw[ω (by rw[aan,aan,aa7];lia),abb]
def Pairs.ne (h:Pairs ts):∀k∈ts,k≠[]:=λk hk=>by
 let {a,b,rfl}:=h k hk;intro z;cases z
end L2
namespace L2.Q
def Gp {β:a8}{i j k l:Nat}{y1 y2 y3 Y:Bool}{a b c d:Int}{R:D->Kd->a8->Prop}(h1:β[i]?=M (M (.val y1 (.int a))))(h2:β[j]?=M (M (.val y2 (.int b))))(h3:β[k]?=M (M (.val y3 (.int c))))(h4:β[l]?=M (M (.val Y (.int d))))
  (q:R (.bl (decide (a<b)&&(decide (b<c)&&decide (c<d)))) .own β):xP (uV i) (HZ Pn (uV j) (HZ Pn (uV k) (L9 Pn (uV l)))) β R:=by
 refine{_,h1,_,h2,_,rfl,lL (λL=>{_,h3,_,rfl,lL (λO=>{_,h4,_,rfl,?_}) (λO=>?_)}) (λL=>?_)}
 ·simpa[L,O] using q
 ·simpa[L,O] using q
 ·simpa[L] using q
section
variable {C:Cfg}{p3 p4:Pos}{φ:aM}
def UM (φ:aM):aM:=λβ R=>φ β λx k L=>∃d,Ot x=M d/\kN NL d k.wk λk'=>R d k' L
def xT (ha:PQ X C p a φ):PQ X C p (.Subscript a .av pos) (UM φ) :=
 ⟨λβ R R' k h=>ha.mono β _ _ (λx kx Y t6=>by let {d,e,q}:=t6;exact{d,e,q.mono λ_ z=>k _ _ _ z}) h,
  (Mn ha.pe).pre λσ H Q cO=>by
    let {β,own,s,h}:=cO;exact tQ.of ha s h λd k Y v H1 aw Jv o1 r1=>by
      let {d',e,q}:=Jv;have rr:=aA.aW wO r1.rep
      match d,e with
      |.lst ds,e =>
        cases e;let {c,vs,rfl,h1,n1,O}:=rr;refine .inl {c,vs,rfl,h1,λp L=>?_};have sm:ay H1 (upd H1 p (.lst vs.reverse)):=ay.new L;have hw:¬ av C (Wn aw) k.wk p:=λz=>o1.sq.Av _ p z L;have r2:aA X.prog X.w (av C (Wn aw) k.wk) (upd H1 p (.lst vs.reverse)) (.lst ds.reverse) (.ref p):={p,_,rfl,az,hw,(aj.rev O).same sm};let {k',q,r}:=KV.kN (Z:=(H,Wn own)) zd r2 (λn=>fU (H:=H1) o1.sq.sC o1.sq.iE (λa z e=>o1.sn.d a z e) n {p,_,rfl,az,λz=>z L,aj.flat n ((aj.rev O).same sm)}) q;exact q _ _ aw (o1.same sm) r
      |.tup ds,e =>
        cases e;let {c,vs,rfl,h1,O}:=rr;refine .inr {c,vs,rfl,h1,λp L=>?_};have sm:ay H1 (upd H1 p (.tup vs.reverse)):=ay.new L;exact q _ _ aw (o1.same sm) (by
          have r2:aA X.prog X.w (av C (Wn aw) k.wk) (upd H1 p (.tup vs.reverse)) (.tup ds.reverse) (.ref p):={p,_,rfl,az,(aj.rev O).same sm};cases k <;> exact r2)⟩
end
def kR (ns:List Int):Prop:=∃x y z:Int,ns=[x,y,z]/\0<=x
def FU:FD:=λds R=>∃c:Int,ds=[.int c]/\∀ns,kR ns->R (.lst (ns.map D.int))
def FU.mono:cH FU:=λds R R' k cO=>by let {c,e,q}:=cO;exact{c,e,λns o=>k _ (q ns o)}
section
variable {h:μ}
theorem va {H:Hp}:∀ns:List Int,aR P w H (ns.map D.int) (ns.map V.int) []
 |[]=>{(rfl),rfl}
 |n::ns=>{_,_,[],[],rfl,rfl,{(rfl),rfl},va ns}
def DE (e:H h=M (.lst xs)):Kp (·=h) H (upd H h (.lst ys)):={λb u L nb=>by rw[au nb];exact L,λb CO L=>by rw[au λz=>by rw[z,e]at L;cases L];exact L}
def DF :∀c,H c≠ξ->upd H h (.lst ys) c≠ξ:=λc hc=>by
 by_cases z:c=h
 ·rw[z,az];exact λz=>.au
 ·rw[au z];exact hc
def zP {H':Hp}:rj P w G H H' (.int r) (.int r):=d4 (W:=λ_=>False) rfl rfl
end
end L2.Q
end
variable {C:L2.Q.Cfg}{φ:L2.Q.aM}{φs:L2.Q.bf}
namespace gK
open PySem L2 L2.Q
section
variable (K:Ψ)(mg:Str->Option aam)(f:μ)(fd:aa6)
abbrev D0:Prop:=Df K mg "_law_planted" d8 ["pot","many"] f fd
abbrev D1:Prop:=Df K mg "_law_take" fv ["pot","many"] f fd
abbrev D2:Prop:=Df K mg "_law_row" jf ["pot"] f fd
abbrev D3:Prop:=Df K mg "arcs_in" jg ["text"] f fd
abbrev D4:Prop:=Df K mg "stretches_rising" b5 ["many"] f fd
abbrev D5:Prop:=Df K mg "partners_of" d7 ["row"] f fd
abbrev D6:Prop:=Df K mg "counts_with_first" bR ["partners","beneath","behind"] f fd
abbrev D7:Prop:=Df K mg "arcs_cross" e9 ["one","other"] f fd
abbrev D8:Prop:=Df K mg "share_a_point" de ["one","other"] f fd
abbrev D9:Prop:=Df K mg "fault_at" gU ["row","ties","k"] f fd
abbrev xb:Prop:=Df K mg "first_fault" d9 ["row","ties"] f fd
abbrev xj:Prop:=Df K mg "is_set" kJ ["row","ties"] f fd
abbrev y_:Prop:=Df K mg "check_set" eF ["row","ties"] f fd
abbrev Z3:Prop:=Df K mg "_law_copied" eZ ["row"] f fd
abbrev T3:Prop:=Df K mg "_law_meet" gQ ["one","other"] f fd
abbrev Z2:Prop:=Df K mg "_law_set" je ["pot","row"] f fd
abbrev Hr:Prop:=Df K mg "nest_of" gm ["row","ties"] f fd
abbrev PC:Prop:=Df K mg "depths_of" eE ["row","ties"] f fd
abbrev T1:Prop:=Df K mg "depth_of" fw ["row","ties"] f fd
abbrev TZ:Prop:=Df K mg "stretches_of" cD ["row","ties"] f fd
abbrev SO:Prop:=Df K mg "brackets" gV ["many","ties"] f fd
abbrev TY:Prop:=Df K mg "shape_of" fu ["row","ties"] f fd
abbrev YB:Prop:=Df K mg "count_shape" cY ["row","shape"] f fd
abbrev YA:Prop:=Df K mg "_law_flags" fS ["e"] f fd
abbrev Z1:Prop:=Df K mg "_law_due_flags" df ["at"] f fd
abbrev Z0:Prop:=Df K mg "_law_said" gP ["way","row","thing"] f fd
abbrev ZZ:Prop:=Df K mg "_law_is_set" eY ["row","ties"] f fd
abbrev ZY:Prop:=Df K mg "_law_bent" gS ["pot","row","ties"] f fd
abbrev ZX:Prop:=Df K mg "_law_fits" gR ["text"] f fd
abbrev ZW:Prop:=Df K mg "_law_shape" fR ["pot","most"] f fd
abbrev ZV:Prop:=Df K mg "_law_shape_bent" cK ["pot","shape"] f fd
abbrev D31:Prop:=Df K mg "_law_pot" gn ["cell"] f fd
end
def xJ:aH ["cell"] ["cell"] (ak gn):=mkS
def MG (F:AO K "_law_pot" "_law_pot" gn f fd)(B:Bs mg):aG P w K mg base bP 1 f fd ["cell"] (dz P w G FU):=by
 refine F.ok xJ (λvs H Q E h=>?_) (λbD A outer s H vs Q E O h=>?_)
 ·let {ds,r,c,rfl,_x}:=h;let {x,L,rfl,_x,O}:=r;cases (show L=[] from O)
  rfl
 ·let {ds,r,c,rfl,q}:=h;let {x,L,rfl,hx,Wa}:=r;cases (show L=[] from Wa)
  cases (show x=V.int c from hx)
  refine⟨_,jj (lY (xY (b6 (kP (Ck rfl) .i B.max GB (b6 br (b6 (dN Ej (pv 0) (dN Ek br br)) f_)))
   (b6 (dN jT (pv 0) br) (b6 br f_))))),?_⟩
  refine{_,rfl,_,_,rfl,rfl,Qy,_,_,rfl,rfl,_,_,rfl,?_};refine{_,rfl,_,_,rfl,rfl,(by show (0:Int)<99999999977;decide),(by show 3<=aaC;decide),λp Y=>?_}
  refine q [_,_,_] {_,_,_,rfl,?_} _ _ (ay.new Y) {[p],{p,_,[],rfl,az,rfl,va [_,_,_]},by simp,λc hc=>by rw[aaE.mp hc];exact Y}
  split <;> lia
def eC:aH ["pot","many","found","number"] ["pot","many"] (ak fv):=mkS
def gZ (F:AO K "_law_take" "_law_take" fv f fd):aG P w K mg base bP 1 f fd ["pot","many"] (fJ P w kR G bu):=by
 refine F.ok eC (λvs H Q E h=>?_) (λbD A outer s H vs Q E hr h=>?_)
 ·let {h,vs',ds,ns,rfl,_x,_x,r,n,rfl,_x}:=h;let {x,Y,rfl,_x,hr}:=r;cases (show Y=[] from hr)
  rfl
 ·obtain⟨h,vs',ds,ns,rfl,e,⟨x,y,z,rfl,x0⟩,r,n,rfl,O,n1,q⟩:=h;let {x',Y,rfl,yt,Wa}:=r;cases (show Y=[] from Wa)
  cases (show x'=V.int n from yt)
  have L:H h=M (.lst [.int x,.int y,.int z]):=e;refine⟨_,c6 (KA (zu KD (kO fb (pv 0) br (λ_ _=>rfl)) br (MP _))
    (c6 (lX (i:=2) eC.nd rfl (Or.inl rfl) (dN jT (kO fb (pv 0) br (λ_ _=>rfl)) (pv 1)))
    (c6 (oU (dN vb (kO fb (pv 0) br (λ_ _=>rfl)) (pv 1)) (tH (pv 0) br set_list))
    (jj (lY (pv 2))))) zv)
   (c6 (oU (dN tO (kO fb (pv 0) br (λ_ _=>rfl)) br) (tH (pv 0) br set_list))
   (c6 (lX (i:=3) eC.nd rfl (Or.inl rfl) (dN jT (dN tO (kO fb (pv 0) br (λ_ _=>rfl)) (dN tM br (kO fb (pv 0) br (λ_ _=>rfl)))) br))
   (c6 (lX (i:=3) eC.nd rfl (Or.inl rfl) (dN jT (dN tM (pv 3) (pv 3)) br))
   (c6 (lX (i:=3) eC.nd rfl (Or.inl rfl) (dN jT (dN tM (pv 3) (dN tO (pv 3) br)) br))
   (jj (lY (dN jT (dN vb (pv 3) br) (pv 1)))))))),?_⟩
  refine{_,rfl,h,_,_,_,rfl,rfl,dw.of L,rfl,_,_,rfl,rfl,_,rfl,?_};refine Vh (λhp=>?_) (λhp=>?_)
  ·refine{_,rfl,h,_,_,_,rfl,rfl,dw.of L,rfl,_,rfl,_,_,rfl,rfl,O,?_};refine{_,rfl,h,_,_,_,rfl,rfl,dw.of L,rfl,_,rfl,_,_,rfl,rfl,xf.of O n1,?_};refine{_,rfl,h,_,_,0,rfl,rfl,L,rfl,?_};have m:=nV (a:=x) O;exact{_,rfl,q _ m.1 m.2 _ _ [x / n,y,z] (DE L) DF az {_,_,_,rfl,Int.ediv_nonneg x0 (Int.le_of_lt O)} zP}
  ·refine{_,rfl,h,_,_,_,rfl,rfl,dw.of L,rfl,_,_,rfl,rfl,?_};refine{_,rfl,h,_,_,2,rfl,rfl,L,rfl,?_};have hy:upd H h (.lst ([V.int x,V.int y,V.int z].set 2 (V.int (z+1)))) h=M (.lst [V.int x,V.int y,V.int (z+1)]):=az;refine{_,rfl,h,_,_,_,rfl,rfl,dw.of hy,rfl,_,rfl,h,_,_,_,rfl,rfl,dw.of hy,rfl,_,_,rfl,rfl,.inl {.b,.b},_,_,rfl,rfl,_,_,rfl,rfl,(by show (0:Int)<99999999947;decide),?_}
   have m1:=nV (a:=y+700001*(z+1)) (b:=99999999947) .b
   refine{_,rfl,_,rfl,_,_,rfl,rfl,.inl {Int.lt_of_lt_of_le .b m1.1,Int.lt_trans m1.2 .b},_,_,rfl,rfl,(by show (0:Int)<99999999821;decide),?_}
   have m2:=nV (a:=(y+700001*(z+1)) % 99999999947*((y+700001*(z+1)) % 99999999947)) (b:=99999999821) .b
   refine{_,rfl,_,rfl,_,_,rfl,rfl,_,_,rfl,rfl,.inl {Int.lt_of_lt_of_le .b m2.1,Int.lt_trans m2.2 .b},_,_,rfl,rfl,(by show (0:Int)<9999999967;decide),?_}
   refine{_,rfl,_,_,rfl,rfl,xf.of .b .b,_,rfl,_,_,rfl,rfl,O,?_}
   have m:=λa:Int=>nV (a:=a) O;exact q _ (m _).1 (m _).2 _ _ [x,y,z+1] (DE L) DF az {_,_,_,rfl,x0} zP
end gK
namespace L2
open PySem PySem.Spec PyProof.Rows
section
variable {κ:Type}[DecidableEq κ]
def xo (bc:List (κ×V))(k:κ):Option V:=(bc.find? λkv=>decide (kv.1=k)).map (·.2)
def putK (bc:List (κ×V))(k:κ)(v:V):List (κ×V) :=
 if (bc.any λkv=>decide (kv.1=k))=G then bc.map (λkv=>if kv.1=k then (kv.1,v) else kv) else bc++[(k,v)]
def uG {p:κ×V}{r:List (κ×V)}{k:κ}(e:p.1=k):xo (p::r) k=M p.2:=by simp[xo,List.find?_cons,e]
def uH {p:κ×V}{r:List (κ×V)}{k:κ}(e:¬ p.1=k):xo (p::r) k=xo r k:=by simp[xo,List.find?_cons,e]
theorem uI (k:κ):∀bc:List (κ×V),(bc.any λkv=>decide (kv.1=k))=(xo bc k).isSome
 |[]=>rfl
 |p::r=>by
  rw[List.any_cons]
  by_cases e:p.1=k
  ·simp only[uG e,Ξ e,Bool.true_or,Option.isSome_some]
  ·rw[uH e,Φ e,Bool.false_or];exact uI k r
def mX (bc:List (κ×V))(k:κ)(v:V):(putK bc k v).length<=bc.length+1:=by
 unfold putK
 split
 ·rw[aan];lia
 ·rw[aax,aaS,adZ];lia
def GW.BS (r:GW o u):o.isSome=u.isSome:=by
 cases o with
 |none=>cases u with
  |none=>rfl
  |some _=>exact(show False from r).elim
 |some _=>cases u with
  |none=>exact(show False from r).elim
  |some _=>rfl
def KV.any (r:KV bc vs)(k:κ):(bc.any λkv=>decide (kv.1=k))=vs.any λkv=>decide (kv.1=k):=by
 unfold KV at r
 induction r with
 |nil=>rfl
 |cons h t ih=>rw[List.any_cons,List.any_cons,ih,h.1]
def KV.LZ (r:KV bc vs)(k:κ)(O:RelV y u):
  KV (bc.map λkv=>if kv.1=k then (kv.1,y) else kv) (vs.map λkv=>if kv.1=k then (kv.1,u) else kv):=by
 unfold KV at r ⊢
 induction r with
 |nil=>exact .nil
 | @cons p q ps qs h t ih =>
  rw[aa8,aa8];refine .cons ?_ ih;let {L,Y}:=h
  by_cases e:p.1=k
  ·rw[ω e,ω (L.symm.trans e)];exact{(L),O}
  ·rw[Δ e,Δ (λz=>e (L.trans z))];exact{(L),Y}
def KV.put (r:KV bc vs)(k:κ)(L:RelV y u):KV (putK bc k y) (stored vs k u):=by
 unfold putK stored;rw[r.any k]
 by_cases e:(vs.any λkv=>decide (kv.1=k))=G
 ·rw[ω e,ω e];exact r.LZ k L
 ·rw[Δ e,Δ e];exact Paired.snoc r {(rfl),L}
def KV.length (r:KV bc vs):bc.length=vs.length:=Paired.length r
end
def KP (r:RelV (kV k) u):(cq P w).is k u=G:=by
 cases k with
 |inl i=>let {t,e}:=(show ∃t,u=Value.int i t from r);subst e;exact vn P w i t
 |inr x=>let {t,e}:=(show ∃t,u=Value.str x t from r);subst e;exact vm P w x t
theorem rT :∀{ks:List Key} {us:List aam},Vals (ks.map kV) us->ItemsAre (cq P w) ks us
 |[],_,r=>by rw[List.map_nil]at r;cases r;exact .nil
 |k::ks,_,r=>by
  rw[aa8]at r;cases r with
  |cons h t=>exact .cons (KP h) (rT t)
abbrev KT (H:Hp):List (List Key×V)->List (List Key×μ×aam)->Prop:=Paired λp q=>p.1=q.1/\H q.2.1=M (.tup (p.1.map kV))/\RelV p.2 q.2.2
def KT.val {H:Hp}(r:KT H bc xs)(k:List Key):GW (xo bc k) ((atKey xs k).map (·.2)):=by
 induction r with
 |nil=>exact True.intro
 | @cons p q ps L h t ih =>
  let {Y,_x,h2}:=h
  by_cases e:p.1=k
  ·have O:q.1=k:=Y.symm.trans e;have b:atKey (q::L) k=M q.2:=by simp[atKey,List.find?_cons,O]
   rw[uG e,b];exact h2
  ·have O:¬ q.1=k:=λz=>e (Y.trans z);have b:atKey (q::L) k=atKey L k:=by simp[atKey,List.find?_cons,O]
   rw[uH e,b];exact ih
def KT.LZ {H:Hp}(r:KT H bc xs)(k:List Key)(Y:RelV y u):
  KT H (bc.map λkv=>if kv.1=k then (kv.1,y) else kv) (xs.map (putAt k u)):=by
 induction r with
 |nil=>exact .nil
 | @cons p q ps qs h t ih =>
  rw[aa8,aa8];refine .cons ?_ ih;let {L,O,h3}:=h;unfold putAt
  by_cases e:p.1=k
  ·rw[ω e,ω (L.symm.trans e)];exact{(L),O,Y}
  ·rw[Δ e,Δ (λz=>e (L.trans z))];exact{(L),O,h3}
def KT.put {H:Hp}{bc:List (List Key×V)}{xs:List (List Key×μ×aam)}(r:KT H bc xs)(k:List Key){b:μ}{y:V}{u:aam}(O:H b=M (.tup (k.map kV)))(L:RelV y u):
  KT H (putK bc k y) (storedH xs k b u):=by
 have e:(bc.any λkv=>decide (kv.1=k))=(atKey xs k).isSome:=by
  rw[uI,(r.val k).BS,Option.isSome_map]
 unfold putK storedH;rw[e]
 by_cases q:(atKey xs k).isSome=G
 ·rw[ω q,ω q];exact r.LZ k L
 ·rw[Δ q,Δ q];exact Paired.snoc r {(rfl),O,L}
def KT.keeps {H H':Hp}(r:KT H bc xs)(L:∀b ys,H b=M (.tup ys)->H' b=M (.tup ys)):KT H' bc xs :=
 Paired.QY r λ_ _ z=>{z.1,L _ _ z.2.1,z.2.2}
section
variable {a:μ}
def Kx (ok:iq P w H h)(e:Rd H a u):bY P w H h a u:=e.ok ok
def K7 (ok:iq P w H h)(e:Rd H a (.dK bc)):bc.length<=aaC/\(a==aca)=η/\∃vs,KV bc vs/\h.DictOf (cq P w) a vs :=
 show bY P w H h a (.dK bc) from Kx ok e
def R9 (ok:iq P w H h)(e:H a=M (.dK bc)):bc.length<=aaC/\(a==aca)=η/\∃vs,KV bc vs/\h.DictOf (cq P w) a vs:=K7 ok (.inl e)
def E6 (ok:iq P w H h)(e:H a=M (.tup (ks.map kV))):(tupleKind (cq P w)).is h ks a:=by
 let {_x,its,r,o,Y,O,n,L}:=(show bY P w H h a (.tup (ks.map kV)) from ok a _ e)
 exact{o,its.toArray,n,Y,O,L,by simpa using rT r}
def K6 (ok:iq P w H h)(e:Rd H a (.dT bc)):bc.length<=aaC/\(a==aca)=η /\
  ∃xs,KT H bc xs/\h.DictOfH (tupleKind (cq P w)) a xs:=by
 let {z,y,xs,r,o,es,ep,h1,h2,h3,h4,Y}:=(show bY P w H h a (.dT bc) from Kx ok e)
 refine{z,y,xs,r,o,es,ep,h1,h2,h3,h4,λx L=>?_,Y};have all:∀{l:List (List Key×V)} {m:List (List Key×μ×aam)},KT H l m->∀x∈m,(tupleKind (cq P w)).is h x.1 x.2.1:=by
  intro l m q
  induction q with
  |nil=>intro x L;exact nomatch L
  | @cons p q ps qs O t ih =>
   intro x L;rcases aat.mp L with e|L
   ·subst e;exact E6 ok (by rw[<- O.1];exact O.2.1)
   ·exact ih x L
 exact all r x L
def R8 (ok:iq P w H h)(e:H a=M (.dT bc)):bc.length<=aaC/\(a==aca)=η /\
  ∃xs,KT H bc xs/\h.DictOfH (tupleKind (cq P w)) a xs:=K6 ok (.inl e)
end
def SN (H:Hp)(a:μ)(y v:V)(H':Hp):Prop :=
 (∃bc k,H a=M (.dK bc)/\y=kV k/\bc.length<aaC/\H'=upd H a (.dK (putK bc k v))) \/
 ∃bc k b,H a=M (.dT bc)/\y=.ref b/\H b=M (.tup (k.map kV))/\bc.length<aaC/\H'=upd H a (.dT (putK bc k v))
section
variable {a:μ}{y v:V}{u r:aam}
def Inv.big (I:Inv X χ σ H s):aca<.e:=by
 have h:acq<.e:=(I.mod.glob.keeps I.bk).lt;exact Nat.lt_trans .b h
def Ax {h':Heap}{t':Nat}{ob:HO}(I:Inv X χ σ H s)(mu:SH (H a))(hs:ach a s.heap h')(he:∃q,h'.get? a=M q)(new:bY X.prog X.w (upd H a ob) h' a ob):
  Inv X χ σ (upd H a ob) {s with heap:=h',toks:=t'} :=
 I.write (x:=a) (e:=a) mu (.inl rfl) (λb q L z=>(hs.2 b L).trans z) he new
def Oo {H':Hp}(z:bc.length<=aaC)(hd:(a==aca)=η)(rel:KV bc vs)(dd:h'.DictOf (cq P w) a vs):
  bY P w H' h' a (.dK bc):={(z),hd,vs,rel,dd}
def Ca {H':Hp}(hu:A.units+1<adx)(I:Inv X χ σ H s)(g:SN H a y v H')(ry:RelV y u)(rv:RelV v r)(h:∀s',Inv X χ σ H' s'->Q () s'):
  aaD .aa A (setItem (.ref a) u r) Q E s:=by
 rcases g with⟨bc,k,e,Y,l,eH⟩|⟨bc,k,b,e,Y,eb,l,eH⟩
 ·subst Y eH;let {z,hd,vs,rel,dd}:=R9 I.bh e;have hz:vs.length<=aaC:=by rw[<- rel.length];exact z
  have O:(putK bc k v).length<=aaC:=by have:=mX bc k v;lia
  refine wpAny_setItem_pairs (hsz:=hz) (KP ry) dd λh' Tx hs=>h _ ?_;have he:∃q,h'.get? a=M q:=let ⟨q,_,_,L,_⟩:=Tx;{(q),L}
  exact Ax I (by rw[e];exact True.intro) hs he (Oo O hd (rel.put k rv) Tx)
 ·subst Y eH;cases (show u=Ω b from ry)
  let {z,hd,xs,rel,dd}:=R8 I.bh e;have hz:xs.length<=aaC:=by rw[<- Paired.length rel];exact z
  have O:(putK bc k v).length<=aaC:=by have:=mX bc k v;lia
  refine wpAny_setItem_heap (hsz:=hz) (tupleKind_room_in1 hu) (E6 I.bh eb) dd λh' Tx hs=>h _ ?_;let {q,es,ep,L,h2,h3,h4,_x,h5}:=Tx;refine Ax I (by rw[e];exact True.intro) hs {(q),L} {O,hd,_,(rel.put k eb rv).keeps λc ys ec=>?_,q,es,ep,L,h2,h3,h4,h5}
  rw[au (KH ec e (λz=>nomatch z))];exact ec
end
def Qa (td ty tv:TE):TS:=λD σ H=>tv σ H λv H1=>td σ H1 λx Y=>ty σ Y λy O=>∃a L,x=.ref a/\SN O a y v L/\D.nx σ L
section
variable {o i value:Expr}{td ty tv:TE}
def Ib (hu:X.A.units+1<adx)(ho:PE X o td)(hi:PE X i ty)(hv:PE X value tv)(hs:acD value (M (.Subscript o i pos')) pos.line .f=pure η):
  PS X (.Assign [.Subscript o i pos'] value pos) (Qa td ty tv):=by
 intro χ s σ H D I h;refine wpAny_Assign_Subscript (bz (hv χ s σ H _ I h) λr s1 ⟨v,H1,I1,rv,q1⟩=>bz (ho χ s1 σ H1 _ I1 q1) λu s2 ⟨x,H2,I2,Y,q2⟩=>bz (hi χ s2 σ H2 _ I2 q2) λiv s3 L=>?_) hs;let {y,H3,I3,O,a,H4,ex,g,q3}:=L;subst ex;obtain rfl:u=Ω a:=Y;exact Ca hu I3 g O rv λs4 I4=>{(σ),H4,I4,q3}
end
def F3 {H:Hp}(h:Heap)(L:aca<h.objs.size):bY P w H (h.push {cls:=.type "dict",data:=.dict #[]}) h.objs.size (.dT []) :=
 {aaJ _,beq_eq_false_iff_ne.mpr (abn (aaN L)),[],.nil,_,#[],0,aaU _ rfl,{(rfl),rfl,rfl},rfl,rfl,abg}
def LL:TE:=λ_ H Q=>∀p,H p=ξ->Q (.ref p) (upd H p (.dT []))
def D_:PE X (.Dict [] [] pos) LL:=λχ s σ H Q I h =>
 wpAny_Dict_empty {.ref .e,_,I.laid (a:=.e) (o:=.dT []) (t':=s.toks) (λ_ _ q=>aar _ q) (aaq _) (F3 s.heap I.big),rfl,h _ (I.bh.fresh (aaq _))}
def IsD (H:Hp)(a:μ):Prop:=(∃bc,Rd H a (.dK bc))\/∃bc,Rd H a (.dT bc)
def Nf {X:Cx}{χ:List (μ×Obj)}{σ:St}{H:Hp}{s:aao}{a:μ}(I:Inv X χ σ H s)(d:IsD H a):
  s.TypeIs (.ref a) "dict" /\ (∀b,Ω a=.ref b->∃ob,s.heap.get? b=M ob/\ob.dict=ξ)/\(a==aca)=η:=by
 rcases d with⟨bc,e⟩|⟨bc,e⟩
 ·let {L,hd,vs,L,dd}:=K7 I.bh e;refine{dd.typeIs,λb q=>?_,hd};cases q;let {ob,L,L,Y,O,L}:=dd;exact{(ob),Y,O.2.1}
 ·let {L,hd,xs,L,dd}:=K6 I.bh e;refine{dd.typeIs,λb q=>?_,hd};cases q;let {ob,L,L,Y,O,L}:=dd;exact{(ob),Y,O.2.1}
end L2
namespace L2.Q
open PySem PySem.Spec PySem.SeqAt PyProof.Rows
def _root_.L2.ck.C3 (r:ck k A):A.units+1<adx:=by have:=r.un;lia
def iK (t:List Int):List Key:=t.map Sum.inl
def Ng (h:iK t=iK u):t=u:=by
 unfold iK at h
 induction t generalizing u with
 |nil=>cases u with|nil=>rfl|cons _ _=>cases h
 |cons a t ih =>
  cases u with
  |nil=>cases h
  |cons b u =>
   rw[aa8,aa8]at h;injection h with L O
   injection L with L
   rw[L,ih O]
def KR (t:List Int):(iK t).map kV=t.map V.int:=by
 unfold iK;rw[abH];rfl
def dP (ts:List .ae)(b:Bool):D:=.dT (ts.map iK) (aaR ts.length (.bl b))
def wV (ts:List .ae)(t:List Int):List .ae:=if t∈ts then ts else ts++[t]
theorem tw :∀{ks:List (List Key)} {n:Nat},ks.length=n->ks.zip (aaR n v)=ks.map λk=>(k,v)
 |[],_,_=>by simp
 |k::ks,0,h=>by cases h
 |k::ks,n+1,h=>by
  rw[aci,aea,tw (Nat.succ.inj h)];rfl
def H_ :putK ((ts.map iK).map λk=>(k,v)) (iK t) v=((wV ts t).map iK).map λk=>(k,v):=by
 unfold putK wV;have any:(((ts.map iK).map λk=>(k,v)).any λkv=>decide (kv.1=iK t))=decide (t∈ts):=by
  rw[ac2,aeK,decide_eq_true_eq];constructor
  ·rintro⟨kv,h1,Y⟩;let {k,O,rfl}:=abe.mp h1;let {u,L,rfl}:=abe.mp O;have:=Ng (of_decide_eq_true Y);rw[<- this];exact L
  ·intro h;exact{(iK t,v),abe.mpr {iK t,abe.mpr {(t),h,rfl},rfl},by simp}
 rw[any]
 by_cases h:t∈ts
 ·rw[ω (by simpa using h),ω h,abH]
  refine abK λk _=>?_;show (if k=iK t then (k,v) else (k,v))=(k,v)
  split <;> rfl
 ·rw[Δ (by simpa using h),Δ h,abb,abb]
  rfl
section
variable {a:μ}
theorem zL {b:Bool}:∀{n:Nat},aR P w H (aaR n (.bl b)) (aaR n (V.bl b)) []
 |0=>{(rfl),rfl}
 |n+1=>{_,_,[],[],rfl,rfl,{(rfl),rfl},zL}
theorem AH {b:Bool}:∀{n:Nat} {vs:List V} {A:List μ},aR P w H (aaR n (.bl b)) vs A->vs=aaR n (V.bl b)/\A=[]
 |0,_,_,h=>h
 |n+1,_,_,mx=>by
  let {v,r,A1,A2,e,eA,O,L}:=mx;let {e1,e2}:=O;let {e3,Y}:=AH L;rw[e,eA,e1,e2,e3,Y];exact{(rfl),rfl}
def Ef {ts:List .ae}{b:Bool}(h:H a=M (.dT ((ts.map iK).map λk=>(k,V.bl b)))):Own P w H (dP ts b) (.ref a) [a] :=
 {a,aaR ts.length (V.bl b),[],rfl,by rw[tw .c];exact h,by simp,rfl,zL}
def Ov {ts:List .ae}{b:Bool}{v:V}{A:List μ}(h:Own P w H (dP ts b) v A):∃a,v=.ref a/\A=[a]/\H a=M (.dT ((ts.map iK).map λk=>(k,V.bl b))):=by
 let {a,vs,A',e,L,l,eA,O}:=h;let {e3,Y}:=AH O;rw[e3,tw .c]at L
 exact{a,e,by rw[eA,Y],L}
end
section
variable {k:Expr}{φk:aM}{x:Str}{pc:Pos}{b:Bool}
def Ik (b:Bool):PQ X C G (.Dict [] [] pos) (λβ R=>R (dP [] b) .own β) :=
 ⟨λβ R R' k h=>k _ _ _ h,D_.pre λσ H Q h p L=>by
  let {β,own,s,q}:=h;refine q _ _ own ((Out.refl s _).same (ay.new L)) {[p],Ef az,by simp,λc hc=>?_}
  rw[aaE.mp hc];exact{L,λz=>s.sC p z L,abA λz=>s.iE p z L}⟩
def zJ {j}(hu:X.A.units+1<adx)(hk:PQ X C.z G k φk)(hn:Nm X i x:=by exact CC)
  (hs:acD (.Constant (.bool b) j pc) (M (.Subscript .ay k pos')) pos.line .f=pure η:=by rfl) :
  PB X C (.Assign [.Subscript .ay k pos'] (.Constant (.bool b) j pc) pos) (λE β=>(∃ts,β[i]?=M (M (.own (dP ts b))))/\φk β λjd _ L=>∃ts t,jd=kD t/\L[i]?=M (M (.own (dP ts b)))/\ts.length<aaC/\E.nx (L.set i (M (.own (dP (wV ts t) b))))):=by
 refine{λE E' β l h=>{h.1,hk.mono _ _ _ (λjd _ L h=>by let {ts,t,h1,h2,h3,q}:=h;exact{ts,t,h1,h2,h3,l.nx _ q}) h.2},(Ib hu (ij (pos:=px) hn) hk.pe (Ed (j:=j) (pos:=pc)) hs).pre λDe σ H h=>?_}
 obtain⟨Z,E,β,⟨own,s0,n⟩,⟨⟨ts0,JF⟩,q⟩,ok⟩:=h;let {v0,yu,ow0,_x}:=s0.ow i _ JF;refine{v0,yu,tQ.of hk s0 q λjd kk L v H1 aw h o r=>?_};let {ts,t,Y,hb,hl,q}:=h;subst Y;let {v1,cO,ow,h0}:=o.sq.ow i _ hb;rw[yu]at cO;cases cO;let {a,rfl,eA,ha}:=Ov ow;let {p,vs,rfl,hp,rv}:=r.rep;have ev:vs=(iK t).map kV:=by
  rw[KR];have key:∀(t:List Int) (vs:List V),aj X.prog X.w (av C.z (Wn aw) kk) H1 (t.map D.int) vs->vs=t.map V.int:=λt=>by
   induction t with
   |nil=>intro vs h;exact h
   |cons y t ih =>
    intro vs h;let {z,O,Y,e2,e3}:=h;rw[Y,ih O e3,show z=V.int y from e2]
    rfl
  exact key t vs rv
 have Xo:a∈aw i:=by rw[eA];simp
 refine{a,_,rfl,.inr {_,iK t,p,ha,rfl,by rw[<- ev];exact hp,by rw[aan,aan];exact hl,rfl},?_}
 have hA:∀c∈[a],c∈aw i\/(C.H0 c=ξ/\¬ Wn aw c/\(λ_=>False) c):=λc hc=>.inl (by rw[aaE.mp hc];exact Xo)
 have O:Own X.prog X.w (upd H1 a (.dT (putK ((ts.map iK).map λk=>(k,V.bl b)) (iK t) (V.bl b)))) (dP (wV ts t) b) (.ref a) [a]:=Ef (by rw[H_];exact az)
 exact ok.nx _ _ _ {_,o.sq.Ma (C:=C) (U:=λ_=>False) (U2:=λ_=>False) hb yu Xo O .c hA (λ_ z=>z) (λ_ _ z=>z),oI (C:=C) (n.trans o.sn) (λ_ z=>z.elim) {(i),Xo} {_,ha,λxs z=>by cases z} hA} q
end
end L2.Q
namespace Dk
open PySem PySem.Spec PyProof.Rows
def BG (d:μ)(hd:(d==aca)=η):
  MeetsIn prog w (acf.«dict.__len__» {[.ref d],[]}) (λ_ R s=>∃o es ep,s.heap.get? d=M o/\o.data=.dict es ep/\R (.ok (.ret (.int es.size s.toks))) {s with toks:=s.toks+1}) :=
 .of_wp λA R s h=>by
  let {o,es,ep,ho,vG,h}:=h;show aaD _ _ (dictSize d >>= _) _ _ s;unfold dictSize;refine aal (aal (aeo ho vG (aap ?_)));show aaD _ _ (Builtin.Dict.pendingCount d >>= _) _ _ s;refine aal (wpAny_pendingCount_other hd ?_);refine wpAny_ret_mkInt ?_;rw[Nat.add_zero];exact h
def EW {d:μ}{o:Obj}{es:Array adi}{ep:Nat}{Q:aam->aao->Prop}(hd:(d==aca)=η)(L:s.TypeIs (.ref d) "dict")(ho:s.heap.get? d=M o)(vG:o.data=.dict es ep)(yA:(es.size:Int)<2 ^ 63)
  (h:Q (.int es.size (s.toks+1)) {s with toks:=s.toks+1+1}):aaD .ab A (acf.«len» {[.ref d],[]}) (λfin s'=>∃r,fin=.done (.ret r)/\Q r s') E s:=by
 unfold acf.«len»
 refine aal (m:=oneArg "len" _) (aap ?_);refine aal (m:=callSpecial? (.ref d) (abO "__len__")) (abD (name:=abO "__len__") L F.slot_dict_len
  (call_meetsIn F.slot_dict_len L F.entry_dict_len (F.args_dict_len_1 _) (BG d hd) {o,es,ep,ho,vG,?_}))
 show aaD _ _ _ _ _ {s with toks:=s.toks+1}
 refine aal (abl (aap ?_));refine aal (ac_ ?_);show aaD _ _ (if ((es.size:Nat):Int)<0 then _ else _) _ _ _
 rw[Δ .a]
 show aaD _ _ (if ((es.size:Nat):Int) >= 2 ^ 63 then _ else _) _ _ _
 rw[Δ .a]
 exact aal (wpAny_mkInt (aap {_,rfl,h}))
def Gw {d:μ}{o:Obj}{es:Array adi}{ep:Nat}{Q:aam->aao->Prop}(hd:(d==aca)=η)(L:s.TypeIs (.ref d) "dict")(ho:s.heap.get? d=M o)(vG:o.data=.dict es ep)(yA:(es.size:Int)<2 ^ 63)
  (h:Q (.int es.size (s.toks+1)) {s with toks:=s.toks+1+1}):aaD .ab A (call (.builtin "len") [.ref d]) Q E s :=
 aei kind_len plain_len entry_len (args_len1 _) (EW hd L ho vG yA h)
end Dk
namespace L2.Q
open PySem PySem.Spec PySem.SeqAt PyProof.Rows
def yQ {X:Cx}:bH X (.builtin "len") (λds=>match ds with | [.dT ks _]=>M (.int ks.length)|_=>ξ):=by
 intro χ s σ H xs us Q I r h;let {W,ds,d,hd,r1,e,q}:=h
 match ds,e with
 |[.dT ks es],e =>
  cases e;let {x,rfl,a,vs,rfl,O,L,nW,rs}:=gH r1;let {u,rfl,rx}:=vals1 r;cases rx;have T:=(Nf I (.inr {_,.inl O})).1;let {z,y,CO,pr,o,fN,ep,h1,h2,h3,Y,h5}:=(show bY X.prog X.w H s.heap a (.dT (ks.zip vs)) from I.bh a _ O)
  have hlen:fN.size=ks.length:=by
   have e1:fN.toList.length=CO.length:=by rw[Y,aan]
   have e2:(ks.zip vs).length=CO.length:=by
    clear Y h5 e1 z
    generalize ks.zip vs=kv at pr
    induction pr with
    |nil=>rfl
    |cons _ _ ih=>simp[ih]
   rw[List.length_zip,<- L,Nat.min_self]at e2;rw[<- aau,e1,e2]
  have zk:(ks.zip vs).length=ks.length:=by rw[List.length_zip,<- L,Nat.min_self]
  refine Dk.Gw y T h1 h3 (by rw[hlen,<- zk];rw[aa7]at z;lia) ?_
  rw[hlen];exact{.int ks.length,H,I.tok _,{_,rfl},q _ _ .aG rfl}
end L2.Q
namespace Dk
open PySem PySem.Spec PyProof.Rows
def At (h:Heap)(d:μ)(es:Array adi)(ep:Nat):Prop:=∃o,h.get? d=M o/\o.ExactDict/\o.data=.dict es ep
def At.at' {h h':Heap}{d:μ}{es:Array adi}{ep:Nat}(x:At h d es ep)(e:∀o,h.get? d=M o->h'.get? d=M o):At h' d es ep:=by
 let {o,L,r}:=x;exact{o,e _ L,r}
def At.lt {h:Heap}{d:μ}{es:Array adi}{ep:Nat}(x:At h d es ep):d<h.objs.size:=by
 let {o,L,O}:=x;exact aaw L
def At.typeIs {s:aao}{d:μ}{es:Array adi}{ep:Nat}(x:At s.heap d es ep):s.TypeIs (.ref d) "dict" := by
 let {o,O,L,Y}:=x;exact{(o),O,L.1}
section
variable {d it:μ}{es:Array adi}
def BP (hd:(d==aca)=η)(O:At s.heap d es ep)
  (Y:Q (.ref .e) {s with heap:=s.heap.push {cls:=.type "dict_keyiterator",data:=.fields #[.ref d,.int 0 0,.int es.size 0,.int ep 0]}}):aaD .ab A (pyIter (.ref d)) Q E s:=by
 have L:=O.typeIs;let {o,ho,hc,vG}:=id O;refine wpAny_pyIter_slot L F.slot_dict_iter (abF F.slot_dict_iter L F.entry_dict_iter ?_ (F.args_dict_iter_1 _));unfold acf.«dict.__iter__»
 refine aal ?_;unfold Builtin.Dict.dictSlotNone;refine aal (wpAny_notOrdered_dict L ?_);show aaD _ _ (pure (Ω d)) _ _ s;refine aap ?_;show aaD _ _ (Builtin.Dict.showsAll d >>= _) _ _ s;unfold Builtin.Dict.showsAll;rw[Δ (by rw[hd];exact acb)]
 refine aal (aap ?_);refine aal (aeo ho vG ?_);refine aal (wpAny_dictEpoch ho vG ?_);refine aal (abS (aap {_,rfl,"dict_keyiterator",_,{_,aaU _ rfl,rfl},F.slot_dict_keyiterator_next.lookup,?_}));simpa[rawInt] using Y
def next_item (hit:s.heap.IsKeyIter it d i es.size ep)(L:At s.heap d es ep)(Xp:i<es.size)
  (O:∀h',h'.IsKeyIter it d (i+1) es.size ep->ach it s.heap h'->Q (M es[i].key) {s with heap:=h'}):aaD .ab A (acv (.ref it)) Q E s:=by
 let {o,ho,hc,hd}:=id hit;let {od,Rx,uu,RT}:=id L;unfold acv;refine aal (acn (abD (name:=abO "__next__") hit.typeIs F.slot_dict_keyiterator_next
  (abF F.slot_dict_keyiterator_next hit.typeIs F.entry_dict_keyiterator_next ?_ (F.args_dict_keyiterator_next_1 _))))
 refine aal (aap ?_);refine aal ?_;refine aal ?_
 first|refine aal (acT hit.typeIs (aap ?_))|refine aal (adm hit.typeIs (aap ?_))
 refine aal (wpAny_fieldsOf ho hd ?_);have Y:Builtin.Dict_items.ownsTuple "dict_keyiterator" = η:=by decide
 simp only[Y,abQ,if_false];show aaD _ _ (if (Ω d==Value.none)=G then _ else _) _ _ s
 rw[Δ (show ¬ ((Ω d==Value.none)=G) from acb)]
 refine aal (aap ?_);refine aal (aeo Rx RT ?_);rw[Δ .c]
 refine aal (aap ?_);refine aal (wpAny_dictEpoch Rx RT ?_);rw[Δ .c]
 refine aap ?_;simp only[show ¬ ((i:Int)<0) from by lia,if_false,aby,Array.getElem?_eq_getElem Xp]
 refine aal ?_
 first|refine aal (acT hit.typeIs (aap ?_))|refine aal (adm hit.typeIs (aap ?_))
 refine aal (wpAny_isOneOf_keyiter hit.typeIs ?_);show aaD _ _ (setField (.ref it) 1 (rawInt ((i:Int)+1)) >>= _) _ _ s;refine aal (wpAny_setField ho hd .c ?_)
 have JC:(s.heap.update it (Obj.mapFields (·.setIfInBounds 1 (rawInt ((i:Int)+1))))).IsKeyIter it d (i+1) es.size ep :=
  {_,ab5 _ ho (Obj.isFreed_of_fields (Obj.data_mapFields hd _)),(Obj.cls_mapFields ..).trans hc,by rw[Obj.data_mapFields hd];simp[rawInt]}
 refine aal (abl ?_);refine aal (wpAny_isOneOf_keyiter (s:={s with heap:=s.heap.update it (Obj.mapFields (·.setIfInBounds 1 (rawInt ((i:Int)+1))))}) JC.typeIs ?_)
 show aaD _ _ (pure es[i].key) _ _ _;exact aap (aap {_,rfl,aap (O _ JC (adl ..))})
end
section
variable {d it:μ}{es:Array adi}
def next_end (O:A.handled=ξ)(hit:s.heap.IsKeyIter it d i es.size ep)(L:At s.heap d es ep)(hge:es.size<=i)
  (Y:∀h',Heap.ExtBut it s.heap h'->Q ξ {s with heap:=h'}):aaD .ab A (acv (.ref it)) Q E s:=by
 let {o,ho,hc,hd}:=id hit;let {od,Rx,uu,RT}:=id L;unfold acv;refine aal (acn (abD (name:=abO "__next__") hit.typeIs F.slot_dict_keyiterator_next
  (abF F.slot_dict_keyiterator_next hit.typeIs F.entry_dict_keyiterator_next ?_ (F.args_dict_keyiterator_next_1 _))))
 refine aal (aap ?_);refine aal ?_;refine aal ?_
 first|refine aal (acT hit.typeIs (aap ?_))|refine aal (adm hit.typeIs (aap ?_))
 refine aal (wpAny_fieldsOf ho hd ?_);have N2:Builtin.Dict_items.ownsTuple "dict_keyiterator" = η:=by decide
 simp only[N2,abQ,if_false];show aaD _ _ (if (Ω d==Value.none)=G then _ else _) _ _ s
 rw[Δ (show ¬ ((Ω d==Value.none)=G) from acb)]
 refine aal (aap ?_);refine aal (aeo Rx RT ?_);rw[Δ .c]
 refine aal (aap ?_);refine aal (wpAny_dictEpoch Rx RT ?_);rw[Δ .c]
 refine aap ?_;simp only[show ¬ ((i:Int)<0) from by lia,if_false,aby,ab1 hge]
 refine aal ?_
 first|refine aal (acT hit.typeIs (aap ?_))|refine aal (adm hit.typeIs (aap ?_))
 show aaD _ _ (setField (.ref it) 0 .none >>= _) _ _ s;refine aal (wpAny_setField ho hd .c ?_)
 show aaD _ _ (newExc (.type "StopIteration") [] >>= _) _ _ _;refine aal ?_;simp only[newExc,newTuple];refine aal (abS ?_ (by size_fits))
 refine aal (m:=firstArgMember _ _) (aen (a:=Value.none) (by first|rfl|(simp only[firstArgMember];rfl)) ?_)
 refine abS ?_ (by size_fits)
 simp only[raiseNew];refine aal (wpAny_handled ?_);rw[show A.in1.handled=ξ from O]
 refine aal (aap (wpAny_throw ?_));refine aal (adO (T:="StopIteration") (b:=G) {_,aaU _ rfl,rfl} isSubtype_stop ?_);exact aap (Y _ (((adl ..).extBut.push _).push _))
def walks (Y:A.handled=ξ)(I d:μ)(Fu:d≠I)(es:Array adi)(ep:Nat):
  Walks prog w A I [I,d] [I] es.size (λi v=>∃h:i<es.size,v=es[i].key) (λi h=>h.IsKeyIter I d i es.size ep/\At h d es ep) where
 sub:=λb L=>by simp at L;simp[L]
 frame:=λ_ _ _ st hk=>{st.1.at λo e=>hk I .c o e,st.2.at' λo e=>hk d .c o e}
 item:=λi s Q E hi st O=>by
  refine next_item st.1 st.2 hi λh' JC Tf=>?_;exact O _ h' s.toks {(hi),rfl} {JC,st.2.at' λo e=>Tf.extBut d o Fu e} λb o L e=>Tf.extBut b o (λh=>L (by simp[h])) e
 done:=λs Q E st O=>next_end Y st.1 st.2 (aaq _) λh' N7=>O h' s.toks λb o L e=>N7 b o (λh=>L (by simp[h])) e
 self:=λ_ _ _ _ st O=>wpAny_pyIter_keyiter st.1 O
def src (lo:(d==aca)=η):PySem.W.KdlSrc prog w "dict" d d es.size (λi v=>∃h:i<es.size,v=es[i].key) (λh=>At h d es ep) where
 type:=λ_ L=>L.typeIs
 there:=λ_ L=>{(L.lt),L.lt}
 keep:=λ_ _ L hk=>L.at' λo e=>hk d (.inl rfl) o e
 notList:=by decide
 notTuple:=by decide
 hint:=λ_ _ _ _ L O=>PySem.W.kdl_hint_dict L.typeIs O
 iter:=λ_ _ Y L=>{_,_,(λ_ _ O=>BP lo L O),walks Y _ d (aaN L.lt) es ep,{{_,aaU _ rfl,rfl,rfl},L.at' λo e=>aar _ e}}
def uf (lo:(d==aca)=η)(Y:At s.heap d es ep)(O:es.size<=aaC)(hh:A.handled=ξ)
  (h:∀(h':Heap) (L:Nat),(∀b o,s.heap.get? b=M o->h'.get? b=M o)->R (es.toList.map (·.key)) {s with heap:=h',toks:=L}):aaD .ab A (collect (.ref d)) R E s:=by
 refine PySem.W.kdu_collect (src (es:=es) (ep:=ep) lo) hh Y O λh' L acc hk FA=>?_;have e:acc.toList=es.toList.map (·.key):=by
  apply ac7;intro i;rw[aaB,aaP,aaP]
  by_cases hi:i<acc.size
  ·let {g1,g2}:=FA.2 i acc[i] (getElem?_pos acc i hi);rw[getElem?_pos acc i hi,getElem?_pos es i g1,g2];rfl
  ·have:=FA.1;rw[ab1 .a,ab1 .a]
   rfl
 rw[e];exact h h' L hk
end
end Dk
namespace L2.Q
open PySem PySem.Spec PySem.SeqAt PyProof.Rows HT
theorem zU {H:Hp}:∀{ts:List .ae} {vs:List V} {xs:List (List Key×μ×aam)},(ts.map iK).length=vs.length ->
  Paired (λ(p:List Key×V) (q:List Key×μ×aam)=>p.1=q.1/\H q.2.1=M (.tup (p.1.map kV))/\RelV p.2 q.2.2) ((ts.map iK).zip vs) xs->∃us:List (μ×List Int),xs.map (λq=>Ω q.2.1)=us.map (λx=>Ω x.1)/\us.map (·.2)=ts/\∀u∈us,H u.1=M (.tup (u.2.map V.int))
 |[],vs,xs,_,p=>by cases p;exact{[],rfl,rfl,λ_ z=>.au}
 |t::ts,[],xs,l,p=>by cases l
 |t::ts,v::vs,xs,l,p=>by
  cases p with
  |cons h r =>
   let {us,h1,Y,O}:=zU (Nat.succ.inj l) r
   rename_i q CO
   refine{(q.2.1,t)::us,by rw[aa8,aa8,h1],by rw[aa8,Y],λu L=>?_}
   rcases aat.mp L with rfl|L
   ·have:=h.2.1;rw[KR]at this;exact this
   ·exact O u L
def L4 (X:Cx):List V->Hp->VK->Prop:=λxs H Q=>∃(W:μ->Prop) (ts:List .ae) (fs:List D),Dm W H/\jO X W H [.dT (ts.map iK) fs] xs/\ts.length<=1000/\(∀k∈ts,k≠[]) /\
 ∀us:List .ae,us.Perm ts->∀v H',ay H H'->Rp X W H' (.lst (us.map kD)) v->(NL (.lst (us.map kD))->Rp X (λa=>H a≠ξ) H' (.lst (us.map kD)) v)->Q v H'
def ui {X:Cx}(hc:X.calm=G):gJ X (.builtin "sorted") (L4 X):=by
 intro χ s σ H xs us0 Q I r h;let {W,ts,fs,hd,r1,hl,Fu,q}:=h;let {x,rfl,p,vs,rfl,hp,N6,nW,rs}:=gH r1;let {u,rfl,rx}:=vals1 r;cases rx;let {z,y,CO,pr,o,es,ep,h1,h2,h3,h4,h5}:=(show bY X.prog X.w H s.heap p (.dT ((ts.map iK).zip vs)) from I.bh p _ hp)
 let {us,eu,Y,T}:=zU N6 pr;have T2:yV H us:=λt L=>{T t L,Fu _ (by rw[<- Y];exact abe.mpr {(t),L,rfl})}
 have ul:us.length=ts.length:=by rw[<- Y,aan]
 have ev:es.toList.map (·.key)=us.map λx=>Ω x.1:=by
  rw[h4,abH,<- eu];rfl
 have esz:es.size=us.length:=by
  have:=Μ List.length ev;rw[aan,aan,aau]at this;exact this
 refine TS.oH (vs:=us.map λx=>Ω x.1) (kf:=vy H) (by rw[aan];lia) (λR hR=>Dk.uf (es:=es) (ep:=ep) y {(o),h1,h2,h3} (by rw[esz,ul,aa7];lia) (by simp[I.ok.hd hc]) λh' O kp=>by rw[ev];exact hR h' O kp) (sU I.bh T2 (aaq _)) λout yC h' O n Jy hs k1 kp BZ=>?_
 ·let {e1,e2}:=l6 T2 Jy;have zl:out.length=us.length:=by rw[Jy.length_eq,aan]
  have I1:Inv X χ σ H {s with heap:=yC,toks:=s.toks}:=I.kept k1
  have Fz:H yC.objs.size=ξ:=I1.bh.fresh (aaq _);have pm:((out.map (B5 H)).map (·.2)).Perm ts:=by rw[<- Y];exact e2.map _
  have rk:aj X.prog X.w W H (((out.map (B5 H)).map (·.2)).map kD) ((out.map (B5 H)).map qH):=gq λt L=>(T2 t (e2.mem_iff.mp L)).1;refine{.ref yC.objs.size,_,I1.laid (t':=O) (o:=.lst ((out.map (B5 H)).map qH)) kp (aaq _) ?_,rfl,q _ pm _ _ (ay.new Fz) (Rp.iS hd Fz rk) λf=>vi Fz f rk};refine{by rw[aan,aan,zl,ul,aa7];lia,out,n,?_,BZ}
  have:=ji (out.map (B5 H));rw[<- e1]at this;exact this
def L6 (φs:bf):aM:=λβ R=>φs β λds ks L=>∃(ts:List .ae) (fs:List D),ds=[.dT (ts.map iK) fs]/\ts.length<=1000/\(∀k∈ts,k≠[])/\∀us:List .ae,us.Perm ts->R (.lst (us.map kD)) .own L
def DM (hc:X.calm=G)(hm:X.mg "sorted" = ξ)(hv:abt "sorted" = M (.builtin "sorted"))(O:nh X C p (e::es) φs)(hg:Gl X "sorted" := by rfl)
  (iy:aaz (e::es) .f=.aE::aaz es .f:=by rfl) (hpl:(abN pos (aaz es .f)).any (·.1)=η:=by rfl) :
  PQ X C p (.Call (.Name "sorted" pp) (e::es) [] pos) (L6 φs):=⟨λβ R R' k q=>O.mono β _ _ (λds ks L h=>by let {ts,fs,e,h1,Y,q}:=h;exact{ts,fs,e,h1,Y,λus pm=>k _ _ _ (q us pm)}) q,
 (kP (ui hc) hg hm hv O.pa .b .b (he:=iy) (hpl:=hpl)).pre λσ H Q h=>by
  let {β,own,s,q}:=h;exact oA.of O s q λds ks L vs H1 aw h o1 r1=>by
   let {ts,fs,rfl,h1,Y,q1}:=h;refine{av C (Wn aw) (gB ks),ts,fs,o1.sq.Av _,r1.jE,h1,Y,λus pm v H' s2 r2 n2=>?_};exact q1 us pm v H' aw (o1.same s2) (fU (H:=H1) o1.sq.sC o1.sq.iE (λa z=>o1.sn.d a z) (aE us) (n2 (aE us)))⟩
end L2.Q
namespace gK
open PySem L2 L2.Q
def iZ:FD:=λds R=>∃n:Int,ds=[.int n]/\0<=n/\n<=40/\∀ts:List .ae,ts.length<=n.toNat->cj n ts->R (.lst .ah)
def iZ.mono:cH iZ:=λds R R' k cO=>by let {n,e,O,L,q}:=cO;exact{n,e,O,L,λts a b=>k _ (q ts a b)}
def wb:FD:=λds R=>ds=[]/\∀(n:Int) ts,0<=n->n<=40->ts.length<=400->cj n ts->ts.Nodup->R (.tup [.int n,.lst .ah])
def wb.mono:cH wb:=λds R R' k lh=>by let {e,q}:=lh;exact{e,λn ts a b c d f=>k _ (q n ts a b c d f)}
def bW:aH ["pot","many","often","pile","found","point","way"] ["pot","many"] (ak d8):=mkS
def xZ {B7 sj}(K_:D0 K mg B7 sj){B6 mz}(dT:D1 K mg B6 mz)(B:Bs mg):aG P w K mg base bP 2 B7 sj ["pot","many"] (fJ P w kR G iZ):=by
 have GT:aG P w K mg base bP 1 _ _ _ (fJ P w kR G bu):=gZ dT.F;refine BB K_.F bW (λds R WU=> by obtain⟨n,e,_⟩ := WU;subst e;rfl) λbD A outer s H E IO Y=>⟨_,(ah (aJ (i:=2) (aO ag bj (aK (aa ai (aa ai (aa ai af)))) .ao) bW.nd)
    (ah (cm (i:=3) (λ_=>(aK af)) bW.nd)
    (ah (cm (i:=4) (λ_=>(aK af)) bW.nd)
    (ah (cf abo rfl (aU B.range (aa .ad af)) (aq (i:=5) bW.nd) (ah (aJ (i:=6) (aP (ih:=0) bu.mono GT (Y.mono .b) dT.m dT.F.kp dT.b (aa (aB aC ar ai .ag) af)) bW.nd)
    (ao (cn (rh.t (lZ (rh.t (gX (aF ag (bo.m (dC Y.units)) (ae (i:=6)) ai) (fx (aF ag (bo.m (fy Y.units)) .aj (aK af))))) (jk (rh.t (gX (aF ag (bo.m l8) (aV ag (bH.m cR) B.len dJ (aa .aj af)) (aB ag (bo.m bI) (aB ag (bo.m bI) .ad (ae (i:=5))) ai)) (fx (aF ag (bo.m (fy Y.units)) .aj (aK af)))))))) (ao (cM (i:=4) (λ_=>(bQ (aa (xU (i:=3)) (aa (ae (i:=5)) af)))))) (ao (cn (aF ag (bo.m cg) (ae (i:=6)) ai) (ao (cM (i:=3) (λ_=>(ae (i:=5))))) bx))))))
    (ao (aS (aV aC fc B.sorted fh (aa (ae (i:=4)) af)))))))),λds R h=>?_⟩
 let {n,rfl,n0,n1,q}:=h;refine{tv,tv,tv,O8,tv,rfl,tv,rfl,tv,3,rfl,.a,.a,λr r0 r1=>pick r0 (by simpa using r1) λd hd=>?_}
 obtain⟨m,rfl,m0,m1⟩:∃m:Int,d=.int m/\0<=m/\m<=4:=by
  simp only[aat,aaQ,or_false]at hd;rcases hd with rfl|rfl|rfl
  ·exact{0,rfl,.a,.a}
  ·exact{1,rfl,.a,.a}
  ·exact{4,rfl,.a,.a}
 refine{aaJ _,tv,aaJ _,tv,_,rfl,tv,n,rfl,.a,.a,tv,?_}
 refine{λi β=>∃(ps:List Int) (fs:List .ae) (x5 x6:Option Q.B),β=[M (.hand kR),M (.val η (.int n)),M (.val G (.int m)),M (.own (.lst (ps.map D.int))),M (.own (.lst (fs.map kD))),x5,x6]/\fs.length<=i/\ps.length<=i/\i<=n.toNat/\cj n fs/\(∀p∈ps,0<=p/\p<i),{[],[],_,_,rfl,aaq _,aaq _,aaJ _,cj.nil,λ_ z=>.au},?_,?_}
 ·rintro i d β hd ⟨ps,fs,x5,x6,rfl,h1,h2,h3,O,h5⟩;let {hi,rfl}:=c5 hd;refine{rfl,tv,_,rfl,_,rfl,tv,rfl,tv,_,rfl,.a,.a,λr r0 r1=>?_}
  refine(λ(pop:ps≠[]->_) (Hi:_)=>(λsecond=>{_,rfl,tv,_,b8 _ _,_,rfl,lL (λ_=>{_,rfl,tv,aaJ _,_,qc ps [],_,rfl,Jn (λL=>ur rfl (pop L)) (λL=>second)}) (λ_=>jW rfl second)})
   {_,rfl,tv,_,rfl,tv,_,rfl,tv,_,rfl,_,rfl,tv,_,rfl,_,rfl,_,rfl,lL (λ_=>{_,rfl,tv,aaJ _,_,qc ps [],_,rfl,Jn (λL=>pop L) (λL=>Hi)}) (λ_=>jW rfl Hi)}) ?_ ?_
  ·intro L;obtain⟨qs,p,rfl⟩:∃qs p,ps=qs++[p]:={ps.dropLast,ps.getLast L,(ac1 L).symm};have hpp:=h5 p .c
   rw[aax,abd]at h2;refine{{_,rfl},qs.map D.int,.int p,by simp,tv,_,rfl,tv,nG,tv,fs.map kD,rfl,by rw[aan,aa7];lia,?_}
   refine{qs,fs++[[p,0+(i:Int)]],_,_,by rw[sZ];rfl,by simp;lia,.a,.a,O.app (cj.one .a .a .a),λx hx=>?_}
   have:=h5 x (by simp[hx])
   lia
  ·refine{_,rfl,tv,_,rfl,_,rfl,lL (λ_=>?_) (λ_=>{ps,fs,_,_,rfl,.a,.a,.a,O,λp L=>by have:=h5 p L;lia})}
   refine{{_,rfl},_,rfl,tv,_,rfl,by rw[aan,aa7];lia,?_}
   refine{ps++[0+(i:Int)],fs,_,_,by rw[uN];rfl,.a,by simp;lia,.a,O,λp L=>?_}
   rcases aaT.mp L with z|z
   ·have:=h5 p z;lia
   ·rw[aaE.mp z];lia
 ·rintro β ⟨ps,fs,x5,x6,rfl,h1,h2,h3,O,h5⟩;rw[cZ]at h1;refine{_,rfl,tv,_,gN O.ne .a,.inl {aE _,tv,rfl,q _ ?_ (Dj O)}}
  rw[(cz fs).length_eq];exact h1
def cC:aH ["pot","many","found","tie","reach","k","a","b"] ["pot"] (ak jf):=mkS
def MF {Tv JO}(dR:D2 K mg Tv JO){B6 mz}(dT:D1 K mg B6 mz){B7 sj}(K_:D0 K mg B7 sj)(B:Bs mg):aG P w K mg base bP 3 Tv JO ["pot"] (fJ P w kR G wb):=by
 have GT:aG P w K mg base bP 1 _ _ _ (fJ P w kR G bu):=gZ dT.F;have GPl:aG P w K mg base bP 2 _ _ _ (fJ P w kR G iZ):=xZ K_ dT B;refine BB dR.F cC (λds R NS=> by obtain⟨e,_⟩ := NS;subst e;rfl) λbD A outer s H E IO Y=>⟨_,(ah (aJ (i:=1) (aP (ih:=0) bu.mono GT (Y.mono .b) dT.m dT.F.kp dT.b (aa (aO ag bj (aK (aa ai (aa ai (aa ai af)))) .ao) af)) cC.nd)
    (ah (cm (i:=2) (λ_=>(Ik G)) cC.nd)
    (nQ (cn (aF ag (bo.m (dC Y.units)) .ao ai) (ao (cf abo rfl (bK (aP (ih:=0) iZ.mono GPl (Y.mono .b) K_.m K_.F.kp K_.b (aa .ad af))) (aq (i:=3) cC.nd) (ao (zJ (i:=2) Y.C3 .aj)))) bx)
    (ah (aJ (i:=4) (aO ag bj (aK (aa ai (aa ai af))) .ao) cC.nd)
    (ah (cf abo rfl (aU B.range (aa (aB ag (bo.m tN) (aP (ih:=0) bu.mono GT (Y.mono .b) dT.m dT.F.kp dT.b (aa (aO ag bj (aK (aa ai (aa ai (aa ai af)))) .ao) af)) (d3 ag (bH.m mH) B.int yR (aa (f9 ag (bo.m l8) .ad ai) af))) af)) (aq (i:=5) cC.nd) (ah (aJ (i:=6) (aP (ih:=0) bu.mono GT (Y.mono .b) dT.m dT.F.kp dT.b (aa (aB ag (bo.m bI) .ad ai) af)) cC.nd)
    (ah (aJ (i:=7) (aB aC ar (aB aC ar (ae (i:=6)) ai) (aP (ih:=0) bu.mono GT (Y.mono .b) dT.m dT.F.kp dT.b (aa (aV ag (bH.m (yO rfl)) B.min ON (aa (ae (i:=4)) (aa (aB ag (bo.m bI) (aB ag (bo.m bI) .ad ai) (ae (i:=6))) af))) af))) cC.nd)
    (ao (cn (aF ag (bo.m cg) (aV ag (bH.m yQ) B.len dJ (aa .ag af)) ai) (ao (zJ (i:=2) Y.C3 (bQ (aa (ae (i:=6)) (aa (ae (i:=7)) af))))) bx)))))
    (ao (aS (bQ (aa .ad (aa (DM rfl B.sorted fh (aa .ag af)) af)))))))))),λds R h=>?_⟩
 let {rfl,q}:=h;refine{rfl,tv,tv,tv,O8,tv,rfl,tv,rfl,tv,3,rfl,.a,.a,λr r0 r1=>pick r0 (by simpa using r1) λd hd=>?_}
 obtain⟨m,rfl,m0,m1⟩:∃m:Int,d=.int m/\0<m/\m<=41:=by
  simp only[aat,aaQ,or_false]at hd;rcases hd with rfl|rfl|rfl
  ·exact{9,rfl,.a,.a}
  ·exact{17,rfl,.a,.a}
  ·exact{41,rfl,.a,.a}
 refine{tv,rfl,tv,m,rfl,m0,.a,λn n0 n1=>{tv,?_}}
 have add:∀{ts:List .ae} {t:List Int},ts.Nodup->cj n ts->Pw n t->(wV ts t).Nodup/\cj n (wV ts t)/\(wV ts t).length<=ts.length+1:=λ{ts t} O L h3=>by
  unfold wV
  split
  ·exact{O,L,.a}
  ·next hn =>
   refine{abm.mpr {O,by simp,λx hx y hy z=>?_},λu hu=>?_,by simp}
   ·rw[aaE.mp hy]at z;exact hn (by rw[<- z];exact hx)
   ·rcases aaT.mp hu with z|z
    ·exact L u z
    ·rw[aaE.mp z];exact h3
 refine{λβ=>∃(ts:List .ae) (x3:Option Q.B),β=[M (.hand kR),M (.val G (.int n)),M (.own (dP ts G)),x3,ξ,ξ,ξ,ξ]/\ts.Nodup/\cj n ts/\ts.length<=40,?_,?_}
 ·refine{rfl,tv,rfl,tv,2,rfl,.a,.a,λr r0 r1=>{tv,_,b8 _ _,_,rfl,lL (λ_=>?_) (λ_=>{[],_,rfl,abg,cj.nil,by simp})}}
  refine{rfl,_,rfl,tv,rfl,tv,n,rfl,n0,.a,λus ul ut=>{_,rfl,tv,?_}}
  refine{λi β=>∃(ts:List .ae) (x3:Option Q.B),β=[M (.hand kR),M (.val G (.int n)),M (.own (dP ts G)),x3,ξ,ξ,ξ,ξ]/\ts.Nodup/\cj n ts/\ts.length<=i,{[],_,rfl,abg,cj.nil,by simp},?_,?_}
  ·rintro i d β hd ⟨ts,x3,rfl,O,L,h3⟩;rw[aaB]at hd;let {t,et,rfl}:=aaK.mp hd;have hi:i<us.length:=(aay.mp et).1;let {g1,g2,g3}:=add O L (ut t (aaY et));exact{{_,rfl},_,rfl,ts,t,rfl,rfl,by rw[aa7];lia,_,_,rfl,g1,g2,.a}
  ·rintro β ⟨ts,x3,rfl,O,L,h3⟩;rw[aan]at h3;exact{ts,_,rfl,O,L,.a}
 rintro β ⟨ts,x3,rfl,O,L,h3⟩;refine{tv,tv,nG,tv,rfl,tv,rfl,tv,2,rfl,.a,.a,λr r0 r1=>pick r0 (by simpa using r1) λd hd=>?_}
 obtain⟨rc,rfl,rc0,rc1⟩:∃m:Int,d=.int m/\0<m/\m<=41:=by
  simp only[aat,aaQ,or_false]at hd;rcases hd with rfl|rfl
  ·exact{4,rfl,.a,.a}
  ·exact{41,rfl,.a,.a}
 refine{rfl,tv,tv,tv,O8,tv,rfl,tv,rfl,tv,3,rfl,.a,.a,λr r0 r1=>pick r0 (by simpa using r1) λd hd=>?_}
 obtain⟨mm,rfl,mm0,mm1⟩:∃m:Int,d=.int m/\0<m/\m<=301:=by
  simp only[aat,aaQ,or_false]at hd;rcases hd with rfl|rfl|rfl
  ·exact{9,rfl,.a,.a}
  ·exact{40,rfl,.a,.a}
  ·exact{301,rfl,.a,.a}
 refine{tv,rfl,tv,mm,rfl,mm0,.a,λc c0 c1=>?_}
 have R6:J8 (.int c) (.int (if decide (n>1)=G then 1 else 0))=M (.int (c*(if decide (n>1)=G then 1 else 0))):=by
  show (if mP c _ then M _ else ξ)=_
  rw[ω (show mP c (if decide (n>1)=G then 1 else 0) from .inl {.a,.a})]
 have hj:0<=c*(if decide (n>1)=G then 1 else 0)/\c*(if decide (n>1)=G then 1 else 0)<=300/\(¬ n>1->c*(if decide (n>1)=G then 1 else 0)=0):=by
  by_cases hn:n>1
  ·simp[hn];lia
  ·simp[hn]
 generalize c*(if decide (n>1)=G then 1 else 0)=j at R6 hj
 refine{tv,_,rfl,tv,_,rfl,tv,_,rfl,_,R6,tv,j,rfl,.a,.a,tv,?_}
 refine{λi β=>∃(ts:List .ae) (x3 x5 x6 x7:Option Q.B),β=[M (.hand kR),M (.val G (.int n)),M (.own (dP ts G)),x3,M (.val G (.int rc)),x5,x6,x7]/\ts.Nodup/\cj n ts/\ts.length<=40+i,{ts,_,_,_,_,rfl,O,L,.a},?_,?_}
 ·rintro i d β hd ⟨ts,x3,x5,x6,x7,rfl,O,L,h3⟩;let {hi,rfl}:=c5 hd;have hn:n>1:=abA λz=>by have:=hj.2.2 z;lia
  refine{rfl,_,rfl,tv,_,rfl,tv,rfl,tv,_,rfl,.a,.a,λa a0 a1=>?_}
  refine{_,rfl,tv,_,rfl,tv,rfl,_,rfl,tv,_,rfl,tv,_,rfl,tv,_,rfl,_,rfl,tv,_,rfl,tv,rfl,tv,_,rfl,by split <;> lia,by split <;> lia,λr r0 r1=>{_,rfl,?_}}
  have hb:a+1+r<n:=by split at r1 <;> lia
  refine{_,rfl,tv,_,rfl,tv,_,rfl,_,rfl,lL (λ_=>?_) (λ_=>{ts,_,_,_,_,rfl,O,L,.a})}
  let {g1,g2,g3}:=add O L (t:=[a,a+1+r]) {_,_,rfl,.a,.a,.a}
  exact{{_,rfl},_,rfl,tv,_,rfl,tv,nG,ts,[a,a+1+r],rfl,rfl,by rw[aa7];lia,_,_,_,_,_,rfl,g1,g2,.a}
 ·rintro β ⟨ts,x3,x5,x6,x7,rfl,O,L,h3⟩;rw[cZ]at h3;refine{_,rfl,tv,_,rfl,tv,ts,_,rfl,.a,L.ne,λus pm=>{tv,nG,tv,rfl,q n us n0 .a (by rw[pm.length_eq];lia) (λt ht=>L t (pm.mem_iff.mp ht)) (pm.nodup_iff.mpr O)}}
end gK
namespace TK
open PySem
def tu {M:aeG}{Γ:Ctx}{p:Pos}{t:Sem Fin}{fs:List Frame}{s s':aao}{e:End}(h:Runs M Γ p t fs s e s'):s.toks<=s'.toks:=by
 induction h with
 |fresh _ ih=>exact aa3 (adz _) ih
 |call _ _ a b=>exact aa3 a b
 |resumeFresh _ _ _ _ a b=>exact aa3 a b
 |resumeSuspended _ _ _ _ a b=>exact aa3 a b
 |segRet _ _ a b=>exact aa3 a b
 |segGen _ _ a b=>exact aa3 a b
 |segSuspGen _ _ _ _ a b=>exact aa3 a b
 |_=>first|exact aaq _|assumption
def C0 {M:aeG}{Γ:Ctx}{p:Pos}{g:Nat}{r:Resume}{s s':aao}{res:GenResult}(h:Wakes M Γ p g r s res s'):s.toks<=s'.toks:=by
 unfold Wakes at h
 split at h
 ·exact h.elim
 ·split at h
  ·let {e,s1,L,O,O,rfl}:=h;exact(show s.toks<=s1.toks from tu (s:=s.setGen g .running) L)
  ·rw[h.2];exact aaq _
  ·rw[h.2];exact aaq _
 ·let {e,s1,L,O,O,rfl}:=h;exact(show s.toks<=s1.toks from tu (s:=s.setGen g .running) L)
 ·rw[h.2];exact aaq _
 ·rw[h.2];exact aaq _
def PJ {α:Type}(t:Sem α):∀{Q:α->Pos->aao->Prop} {E:aam->Pos->aao->Prop} {p:Pos} {s:aao},n<=s.toks->Sem.wp L Γ t Q E p s->Sem.wp L Γ t (λa Y s'=>n<=s'.toks/\Q a Y s') (λe Y s'=>n<=s'.toks/\E e Y s') p s:=by
 induction t with
 |pure a=>exact λh q=>{(h),q}
 |raise e=>exact λh q=>{(h),q}
 |unsupported _=>exact λ_ q=>q
 |finish _=>exact λ_ q=>q
 |rule _ k ih=>exact λh q=>ih () h q
 | «at» _ k ih=>exact λh q=>ih () h q
 |load _ _ k ih=>exact λh q=>by let {o,e,q}:=q;exact{o,e,ih o h q}
 |update _ _ _ k ih=>exact λh q=>{q.1,ih () (by exact h) q.2}
 |alloc _ k ih=>exact λh q=>ih _ (by exact h) q
 |loadIfAlive _ k ih=>exact λh q=>ih _ h q
 |point _ k ih=>exact λh q=>ih () h q
 |register _ _ _=>exact λ_ q=>q
 |fresh k ih=>exact λh q=>ih _ (Nat.le_succ_of_le h) q
 |ask k ih=>exact λh q=>ih _ h q
 |choose _ _ k ih=>exact λh q=>{q.1,ih _ (by exact h) q.2}
 |os _ _ k ih=>exact λh q=>ih _ (by exact h) q
 |call _ _ _ _ k ih =>
  intro Q E p s h q;let {r,s1,O,q}:=q;exact{r,s1,O,ih r (aa3 h (tu O)) q}
 |handled _ k ih=>exact λh q=>ih _ h q
 |newGen _ k ih=>exact λh q=>ih _ (by exact h) q
 |genState _ k ih=>exact λh q=>by let {st,e,q}:=q;exact{st,e,ih _ h q}
 |resume _ _ _ k ih =>
  intro Q E p s h q;let {r,s1,O,q}:=q;exact{r,s1,O,ih r (aa3 h (C0 O)) q}
 |yield _ _ _ _ _=>exact λ_ q=>q
 |stack k ih=>exact λh q=>ih _ h q
 |fork _ _ _=>exact λ_ q=>q
 |thread k ih=>exact λh q=>ih _ h q
 |await _ _ _ _ _ _=>exact λ_ q=>q
def OT {α:Type}{M:aeG}{A:abf}{t:Sem α}{Q:α->aao->Prop}{E:aam->aao->Prop}{s:aao}{n:Nat}(h:n<=s.toks)(q:aaD M A t Q E s):aaD M A t (λa s'=>n<=s'.toks/\Q a s') (λe s'=>n<=s'.toks/\E e s') s:=λΓ p hΓ=>PJ t h (q Γ p hΓ)
end TK
namespace L2
open PySem PySem.Spec PySem.SeqAt PyProof.Rows
def OL:abt "sum" = M (.builtin "sum"):=by decide +kernel
def D.int?:D->Option Int
 |.int i=>M i
 |_=>ξ
def D.yd:D->Option (List D)
 |.lst ds=>M ds
 |_=>ξ
def D.tZ {d:D}{i:Int}(h:d.int?=M i):d=.int i:=by
 cases d <;> first|(cases h;rfl)|cases h
def D.kY {d:D}{ds:List D}(h:d.yd=M ds):d=.lst ds:=by
 cases d <;> first|(cases h;rfl)|cases h
def sG:List D->Option .ae
 |[]=>M []
 |d::ds=>d.int?.bind λi=>(sG ds).map (i::·)
theorem wz:∀{ds:List D} {ns:List Int},sG ds=M ns->ds=ns.map D.int
 |[],_,h=>by cases h;rfl
 |d::ds,ns,h=>by
  let {i,Y,O}:=aba.mp h;let {ms,L,rfl}:=aaK.mp O;rw[D.tZ Y,wz L];rfl
theorem sF:∀ns:List Int,sG (ns.map D.int)=M ns
 |[]=>rfl
 |n::ns=>by
  show (M n).bind (λi=>(sG (ns.map D.int)).map (i::·))=_;rw[sF ns];rfl
def ju (f:List Int->Option Int):List D->Option D
 |[d]=>d.yd.bind λds=>(sG ds).bind λns=>(f ns).map D.int
 |_=>ξ
def qa {ds:List D}(h:ju f ds=M d):∃ns i,ds=[.lst (ns.map D.int)]/\f ns=M i/\d=.int i:=by
 cases ds with
 |nil=>cases h
 |cons x r =>
  cases r with
  |cons _ _=>cases h
  |nil =>
   let {es,h1,h2}:=aba.mp h;let {ns,Y,O}:=aba.mp h2;let {i,L,rfl}:=aaK.mp O;exact{ns,i,by rw[D.kY h1,wz Y],L,rfl}
def p_ {f:List Int->Option Int}{i:Int}(h:f ns=M i):ju f [.lst (ns.map D.int)]=M (.int i):=by
 show (M (ns.map D.int)).bind (λds=>(sG ds).bind λns=>(f ns).map D.int)=_;rw[Option.bind_some,sF,Option.bind_some,h];rfl
theorem jP:∀{ns:List Int} {us:List aam},Vals (ns.map V.int) us->∃xs:Array (Int×Tok),us.toArray=adE xs/\xs.toList.map (·.1)=ns
 |[],_,h=>by cases h;exact{#[],by simp[adE],rfl}
 |n::ns,_,h=>by
  cases h with
  |cons O L =>
   let {t,rfl}:=O;let {xs,e1,Y}:=jP L;refine{{(n,t)::xs.toList},?_,by simp[Y]}
   have:=Μ Array.toList e1;simp[adE]at this ⊢
   exact this
def Cm (hc:X.calm=G):bH X (.builtin "sum") (ju λns=>M ns.sum):=by
 intro χ s σ H xs us Q I r h;let {W,ds,d,hd,r1,e,q}:=h;let {ns,i,rfl,L,rfl}:=qa e;cases L;let {x,rfl,p,vs,rfl,O,n1,q1}:=gH r1;let {u,rfl,ru}:=vals1 r;cases ru;rw[cL q1]at O;let {its,Y,ht,hz}:=I.list (dw.of O);let {ys,L,e2}:=jP Y;refine sum_intListG (I.ok.hd hc) (xs:=ys) (by rw[<- L];exact ht.isList) λh' tk t' k=>{.int ns.sum,H,I.kept k,{t',?_},q _ _ .aG rfl}
 rw[preSum_eq,abP .c,e2]
def TU (lo:Int)(n:Nat):It:={λi _=>i<n,λi H x H'=>H'=H/\x=.int (lo-i),λi _=>n<=i}
def uJ (it:μ)(lo:Int)(n:Nat):Turn P w K tg (TU lo n) [it] it (λi h=>IsRangeIter h it (lo+(i:Nat)*(-1)) ((n:Int)-(i:Nat)) (-1)) where
 mem:=by simp
 obj:=λi h st b L=>by
  have e:b=it:=by simpa using L
  subst e;exact⟨_,st,λv z=>by
   have z':Data.fields _=aeM v:=z;cases z'⟩
 keep:=λi h h' st k=>k it .c _ st
 item:=by
  intro X hP hw hK hc i χ s σ H E I O st Y;subst hP hw hK;let {f0,f1,f2,f3,f4,f5}:=O it .c
  have W:=Walks.range (prog:=X.prog) (w:=X.w) (I.ok.hd hc) it lo (-1) n;refine W.item i s _ _ Y st λv h' tk hv aI kk=>?_;let {t,rfl}:=hv;have I1:Inv X χ σ H {s with heap:=h',toks:=tk}:=I.turned (λb o L e=>kk b o (by simpa using L) e) f0 f1 f3 f4 f5
  refine{_,rfl,Ad (s:={s with heap:=h',toks:=tk}) (n:="range_iterator") aI rfl rfl .b {.int (lo-i),H,I1,{t,?_},{(rfl),rfl},aI,λb L=>(O b L).1}}
  rw[Int.mul_neg,Int.mul_one];rfl
 done:=by
  intro X hP hw hK hc i χ s σ H E I O st Y;subst hP hw hK;let {f0,f1,f2,f3,f4,f5}:=O it .c
  exact wpAny_pyNext_range_end (I.ok.hd hc) st (by have:n<=i:=Y;lia) λh' eb=>{rfl,I.turned (t':=s.toks) (λb o L e=>eb b o L e) f0 f1 f3 f4 f5}
 self:=λ_ _ _ _ _ st h=>wpAny_pyIter_rangeiter st h
def jI (a b:Int):adC a b (-1)=if b<a then a-b else 0:=by
 unfold adC;rw[Δ .b]
 by_cases h:b<a
 ·rw[ω h,ω h,show -(-1:Int)=1 by decide,Int.ediv_one];lia
 ·rw[Δ h,Δ h]
def A7 {a b:Int}(O:-(2 ^ 62)<=a)(Tr:a<2 ^ 62)(L:-(2 ^ 62)<=b)(lq:b<2 ^ 62):Builtin.Range.small a b (-1)=G:=by
 unfold Builtin.Range.small;rw[jI];simp only[Builtin.Range.rangeFitsLong,aa1,ad0,decide_eq_true_eq,beq_iff_eq,show ¬ ((-1:Int)>0) by decide,if_false]
 split <;> lia
def Bm {χ:List (μ×Obj)}{σ:St}{H:Hp}{s:aao}{R:It->Hp->Prop}{E:aam->aao->Prop}{lo hi:Int}{t u v:Tok}{L:Nat}(I:Inv X χ σ H s)(h1:-(2 ^ 62)<=lo)(h2:lo<2 ^ 62)(h3:-(2 ^ 62)<=hi)(h4:hi<2 ^ 62)
  (q:R (TU lo (lo-hi).toNat) H):aaD .aa X.A (pyIter (.ref .e)) (SF X χ σ tg R) E {s with heap:=s.heap.push {cls:=.type "range",data:=.fields #[.int lo t,.int hi u,.int (-1) v]},toks:=L}:=by
 refine wpAny_pyIter_range (IsRange.new ..) (A7 h1 h2 h3 h4) ?_;have O:Inv X χ σ H {s with heap:=s.heap.push {cls:=.type "range",data:=.fields #[.int lo t,.int hi u,.int (-1) v]},toks:=L}:=I.kept λb o e=>aar _ e
 refine⟨(s.heap.push {cls:=.type "range",data:=.fields #[.int lo t,.int hi u,.int (-1) v]}).objs.size,[(s.heap.push {cls:=.type "range",data:=.fields #[.int lo t,.int hi u,.int (-1) v]}).objs.size],_,_,H,rfl,
  O.kept (t':=L) λb o e=>aar _ e,uJ _ lo (lo-hi).toNat,?_,λb Y=>?_,q⟩
 ·have e1:lo+((0:Nat):Int)*(-1)=lo:=by simp
  have e2:(((lo-hi).toNat:Nat):Int)-((0:Nat):Int)=adC lo hi (-1):=by rw[jI];split <;> lia
  show IsRangeIter _ _ (lo+((0:Nat):Int)*(-1)) ((((lo-hi).toNat:Nat):Int)-((0:Nat):Int)) (-1);rw[e1,e2];exact aaU _ rfl
 ·have e:b=(s.heap.push {cls:=.type "range",data:=.fields #[.int lo t,.int hi u,.int (-1) v]}).objs.size:=by simpa using Y
  subst e;exact O.t_ (aaq _) (O.bh.fresh (aaq _))
def Q_ (ta:TA):TI:=λσ H R=>ta σ H λvs H1=>∃i j:Int,vs=[.int i,.int j,.int (-1)]/\(-(2 ^ 62)<=i/\i<2 ^ 62/\-(2 ^ 62)<=j/\j<2 ^ 62)/\R (TU i (i-j).toNat) H1
def Bt {a b c:Expr}{ta:TA}{p pos:Pos}(hg:Gl X "range")(hm:X.mg "range" = ξ)(ha:PA X [a,b,c] ta)(hs:aaz [a,b,c] .f=[(η,eval a .f),(η,eval b .f),(η,eval c .f)]:=by rfl)(vD:aaz [b,c] .f=[(η,eval b .f),(η,eval c .f)]:=by rfl) :
  PI X tg (.Call (.Name "range" p) [a,b,c] [] pos) (Q_ ta):=by
 intro χ s σ H R I h;refine Call_ (eS I hg hm boot_range (abB (bz (ha pos χ s σ H _ I h) λus s1 gC=>?_) (by rw[hs,vD]) (by rw[vD];rfl)))
 let {vs,H1,I1,Y,O}:=gC;obtain⟨i,j,e,⟨O,q2,q3,q4⟩,q⟩:=O;subst e;cases Y with
 |cons r L =>
  cases L with
  |cons r' L =>
   cases L with
   |cons YQ L =>
    cases L;let {t,rfl}:=r;let {t',rfl}:=r';let {t'',rfl}:=YQ;exact call_range_3 .b (Bm I1 O q2 q3 q4 q) (.inl (PyProof.noPylong_of_log2 .g))
def Bj (hi:Int)(n:Nat):List D:=(aaA n).map λ(k:Nat)=>D.int (hi-(k:Int))
def uS (h:(Bj hi n)[i]?=M d):i<n/\d=.int (hi-i):=by
 unfold Bj at h;rw[aaB]at h
 by_cases hi:i<n
 ·rw[acj hi]at h;cases h;exact{(hi),rfl}
 ·rw[abq (by simpa using hi)]at h;cases h
def uR :(Bj hi n).length=n:=by unfold Bj;simp
def yn {W:μ->Prop}{H:Hp}{lo:Int}{n:Nat}:uo X W (TU lo n) (Bj lo n) H:=λ_ _ i H' k=>by
 constructor
 ·intro d hd;let {hi,rfl}:=uS hd;refine{hi,λx H1 y=>?_};let {rfl,rfl}:=y;exact{ay.refl _,rfl}
 ·intro L;rw[uR]at L;exact L
end L2
namespace L2.Q
open PySem PySem.Spec PySem.SeqAt PyProof.Rows
section
variable {c:Expr}
def Jo (φs:bf):cT:=λβ R=>φs β λds _ β'=>∃i j:Int,ds=[.int i,.int j,.int (-1)]/\(-(2 ^ 62)<=i/\i<2 ^ 62/\-(2 ^ 62)<=j/\j<2 ^ 62)/\R (Bj i (i-j).toNat) .dM β'
def Sr {W:μ->Prop}{H:Hp}{a b c:D}{xs:List V}(h:jO X W H [a,b,c] xs):∃x y z,xs=[x,y,z]/\Rp X W H a x/\Rp X W H b y/\Rp X W H c z:=by
 let {x,r,rfl,O,y,r',rfl,L,z,YQ,rfl,hz,Y}:=h;cases Y;exact{(x),y,z,rfl,O,L,hz}
def xR (hm:X.mg "range" = ξ)(L:nh X C p [a,b,c] φs)(hg:Gl X "range" := by rfl)(hs:aaz [a,b,c] .f=[(η,eval a .f),(η,eval b .f),(η,eval c .f)]:=by rfl)(vD:aaz [b,c] .f=[(η,eval b .f),(η,eval c .f)]:=by rfl) :
  xi X C p tg (.Call (.Name "range" pp) [a,b,c] [] pos) (Jo φs) :=
 ⟨λβ R R' k q=>L.mono β _ _ (λd kd β' h=>by let {i,j,e,O,q}:=h;exact{i,j,e,O,k _ _ _ q}) q,(Bt hg hm L.pa hs vD).pre λσ H R h=>by
  let {β,own,s,q}:=h;refine oA.of L s q λds ks β' vs H1 aw h o1 Y=>?_;let {i,j,e,O,q1}:=h;subst e;let {x,y,z,rfl,hx,hy,hz}:=Sr Y.jE;cases hx;cases hy;cases hz;exact{i,j,rfl,O,q1 _ _ aw o1 yn}⟩
end
structure ZP (X:Cx)(C:Cfg)(tg iter:Expr)(ι:cT):Prop where
 mono:∀β R R',.aC->ι β R->ι β R'
 pi:PI X tg iter λσ H R=>∃β own,SQ X C σ H β own/\ι β λds k β'=>∀J H',ay H H'->SQ X C σ H' β' own->uo X (jx C (Wn own) k) J ds H'->R J H'
section
variable {x:Str}
def xQ (hm:X.mg "range" = ξ)(L:nh X C G [a,b] φs)(hg:Gl X "range" := by rfl)(hs:aaz [a,b] .f=[(η,eval a .f),(η,eval b .f)]:=by rfl)(vD:aaz [b] .f=[(η,eval b .f)]:=by rfl) :
  ZP X C tg (.Call (.Name "range" pp) [a,b] [] pos) (z9 φs) :=
 ⟨λβ R R' k q=>L.mono β _ _ (λd kd β' h=>by let {i,j,e,O,q}:=h;exact{i,j,e,O,k _ _ _ q}) q,(rK hg hm L.pa hs vD).pre λσ H R h=>by
  let {β,own,s,q}:=h;refine oA.of L s q λds ks β' vs H1 aw h o1 Y=>?_;let {i,j,e,O,q1}:=h;subst e;let {s1,rfl}:=o1.pu rfl;let {x,y,rfl,hx,hy}:=wR Y.jE;cases hx;cases hy;exact{i,j,rfl,O,q1 _ _ s1 o1.sq ml}⟩
end
structure SC (X:Cx)(C:Cfg)(W0:μ->Prop)(T:List Nat)(σ0:St)(H1:Hp)(a:μ)(Hb:Hp)(Wb:μ->Prop)(Ac:Hp->Prop)(β:a8)(σ':St)(H':Hp)(own:Nat->List μ):Prop where
 sq:SQ X .ak σ' H' β own
 sn:Sn (H1,W0) H' (Wn own)
 le:∀c,Wn own c->Wb c
 ac:Ac H'
 pu:ay H1 H'
 bs:∀b ob,b≠a->Hb b=M ob->H' b=M ob
 st:∀j,j∉T->σ'[j]?=σ0[j]?
abbrev yX {α:Type}(X:Cx)(C:Cfg)(W0:μ->Prop)(T:List Nat)(σ0:St)(H1:Hp)(a:μ)(Hb:Hp)(Wb:μ->Prop)(Ac:α->Hp->Prop)(β:a8)(o:α)(σ':St)(H':Hp):Prop:=∃own,SC X C W0 T σ0 H1 a Hb Wb (Ac o) β σ' H' own
structure G4 {α:Type}(a:μ)(Ac:α->Hp->Prop):Prop where
 same:∀o H H',ay H H'->Ac o H->Ac o H'
 QH:∀o H xs,Ac o H->H a≠M (.tup xs)
abbrev HD (X:Cx)(C:Cfg)(a:μ)(T:List Nat)(γ:eU):TG:=λv σ H Q=>∃own β d k,SQ X .ak σ H β own/\Rp X (jx .ak (Wn own) k) H d v/\γ d k β λβ'=>∀σ' aZ,SQ X .ak σ' H β' aZ->(∀a,Wn aZ a->Wn own a)->(∀j,j∉T->σ'[j]?=σ[j]?)->Q σ' H
abbrev O6 (X:Cx)(C:Cfg)(a:μ)(φ:aM):mL:=λN σ H=>tQ X .ak G φ σ H λv H1=>∃xs,H1 a=M (.lst xs)/\xs.length<aaC/\N σ (upd H1 a (.lst (xs++[v])))
section
variable {α:Type}{W0:μ->Prop}{Tg:List Nat}{σ0:St}{H1:Hp}{a:μ}{Hb:Hp}{Wb:μ->Prop}{γ:eU}{τ:bg}{Ac:α->Hp->Prop}
def SC.next (L:G4 a Ac){σ σ':St}{H H':Hp}(s:SC X C W0 T σ0 H1 a Hb Wb (Ac o) β σ H own)(sq:SQ X .ak σ' H' β' aZ)(w:∀c,Wn aZ c->Wn own c)(sm:ay H H')(t:∀j,j∉T->σ'[j]?=σ[j]?):
  SC X C W0 T σ0 H1 a Hb Wb (Ac o) β' σ' H' aZ :=
 {sq,nJ (s.sn.same sm) w,λc z=>s.le c (w c z),L.same o _ _ sm s.ac,s.pu.trans sm,λb ob n e=>sm _ _ (s.bs b ob n e),λj hj=>(t j hj).trans (s.st j hj)}
def SC.put {A:Hp->Prop}{A':Hp->Prop}(h0:C.H0 a=ξ)(O:H1 a=ξ){σ:St}{H:Hp}{own:Nat->List μ}(s:SC X C W0 T σ0 H1 a Hb Wb A β σ H own)(e:H a=M oa)(nt:∀xs,oa≠.tup xs)(q:A' (upd H a ob)):
  SC X C W0 T σ0 H1 a Hb Wb A' β σ (upd H a ob) own:=by
 refine{s.sq.P8 e nt h0,{s.sn.w,s.sn.k.trans ((pE e nt).mono λb z=>.inr (by rw[z];exact O)),λb z e=>?_},s.le,q,λb o e=>?_,λb o n e=>?_,s.st}
 ·by_cases L:b=a
  ·rw[L,az]at e;cases e
  ·rw[au L]at e;exact s.sn.d b z e
 ·rw[au (λY=>by rw[Y,O]at e;cases e)]
  exact s.pu b o e
 ·rw[au n];exact s.bs b o n e
def T4 (P:aas)(w:aaG)(H1:Hp)(a:μ)(o:List D)(H:Hp):Prop:=∃vs A,H a=M (.lst vs)/\aR P w H o vs A/\A.Nodup/\∀c∈A,H1 c=ξ/\c≠a
def qm :G4 a (T4 P w H1 a):=⟨λo H H' s h=>by
  let {vs,A,L,h2,Y,O}:=h;exact{vs,A,s _ _ L,h2.keep (λb xs e=>s _ _ e) λc _ oc e=>s _ _ e,Y,O},λo H xs h z=>by
  let {vs,A,L,_x}:=h;rw[L]at z;cases z⟩
def F0 (φ:aM)(o:List D)(β:a8)(N:a8->List D->Prop):Prop:=φ β λx kx L=>Ha kx x/\o.length<aaC/\N L (o++[x])
def tq (h0:C.H0 a=ξ)(ha:H1 a=ξ)(φm:∀β R R',.aC->φ β R->φ β R'){σ:St}{H:Hp}(s:yX X C W0 T σ0 H1 a Hb Wb (T4 X.prog X.w H1 a) β o σ H)(q:F0 φ o β N):
  O6 X C a φ (λσ' H'=>∃β' o',yX X C W0 T σ0 H1 a Hb Wb (T4 X.prog X.w H1 a) β' o' σ' H'/\N β' o') σ H:=by
 let {own,s}:=s;refine{β,own,s.sq,φm _ _ _ (λxd kx L gC v Y UW o6 r6=>?_) q};let {f,hz,q}:=gC;let {sm,rfl}:=o6.pu rfl;have s6:=s.next qm (o6.sq) (λ_ z=>z) sm (λ_ _=>rfl)
 let {B',r1,r2,O}:=r6.fl f;let {vs,A,at',os,nd,nw}:=s.ac;have Ob:Y a=M (.lst vs):=sm _ _ at';have Y2:∀c∈B',c≠a:=λc hc z=>by rw[z]at hc;exact Κ (at'.symm.trans (O a hc).1) (λz=>.au)
 have kt:∀b xs,Y b=M (.tup xs)->upd Y a (.lst (vs++[v])) b=M (.tup xs):=λb xs z=>by rw[au (λz'=>by rw[z',Ob]at z;cases z)];exact z
 refine{vs,Ob,by rw[os.length];exact hz,L,o++[xd],{UW,s6.put h0 ha Ob (λxs z=>by cases z) {vs++[v],A++B',az,?_,?_,λc hc=>?_}},q}
 ·exact(os.keep (λb xs e=>kt b xs (sm _ _ e)) λc hc oc e=>by rw[au (nw c hc).2];exact sm _ _ e).append (aR.one (r1.keep kt λc hc oc e=>by rw[au (Y2 c hc)];exact e))
 ·refine abm.mpr {nd,r2,λx hx y hy e=>?_};subst e;exact(os.rd x hx).1 (O x hy).1
 ·rcases aaT.mp hc with hc|hc
  ·exact nw c hc
  ·exact{s.sn.free (O c hc).1,Y2 c hc}
def kZ {α:Type}(γ:eU)(τ:bg)(Af:α->a8->(a8->α->Prop)->Prop)(ds:List D)(k:Kd)(Y:a8)(o0:α)(F:a8->α->Prop):Prop:=∃I:Nat->a8->α->Prop,I 0 Y o0 /\
 (∀i d β o,ds[i]?=M d->I i β o->γ d (sk k d) β λO=>τ O λt L=>if t=G then Af o L (I (i+1)) else I (i+1) L o)/\∀β o,I ds.length β o->F β o
def kZ.mono {ds:List D}(h:∀β o,F β o->F' β o)(q:kZ γ τ Af ds k L O F):kZ γ τ Af ds k L O F':=by
 let {I,h0,h1,Y}:=q;exact{I,h0,h1,λβ o z=>h _ _ (Y β o z)}
def zq (hA:G4 a Ac)(hT:∀j∈Tg,j∈T)(γm:∀d k β R R',(∀r,R r->R' r)->γ d k β R->γ d k β R')(τm:∀β R R',(∀d β,R d β->R' d β)->τ β R->τ β R'){ds:List D}{Af:α->a8->(a8->α->Prop)->Prop}{F:a8->α->Prop}{End:St->Hp->Prop}
  (it:∀i β o σ' H',yX X C W0 T σ0 H1 a Hb Wb Ac β o σ' H'->(∀d,ds[i]?=M d->J.go i H'/\∀x H3,J.PD i H' x H3->ay H' H3/\∀own,(∀c,Wn own c->Wb c)->aA X.prog X.w (jx .ak (Wn own) k) H3 d x)/\(ds.length<=i->J.stop i H'))
  (Rq:∀β o σ' H' N,yX X C W0 T σ0 H1 a Hb Wb Ac β o σ' H'->Af o β N->ta (λCL GZ=>∃β' o',yX X C W0 T σ0 H1 a Hb Wb Ac β' o' CL GZ/\N β' o') σ' H')
  (s0:yX X C W0 T σ0 H1 a Hb Wb Ac Y o0 σ1 Hs) (q:kZ γ τ Af ds k Y o0 F) (fin:∀β o σ' H',yX X C W0 T σ0 H1 a Hb Wb Ac β o σ' H'->F β o->End σ' H') :
  fm J (HD X C a Tg γ) (nk X .ak G τ) ta End σ1 Hs:=by
 let {I,i0,i1,i2}:=q;refine{λi m σ' H'=>i<=ds.length/\m=ds.length-i/\∃β o,yX X C W0 T σ0 H1 a Hb Wb Ac β o σ' H'/\I i β o,{_,aaJ _,rfl,Y,o0,s0,i0},?_};rintro i m L H2 ⟨hi,rfl,β,o,sE,hl⟩;let {du,tY}:=it i β o L H2 sE
 by_cases lM:i<ds.length
 ·right
  have hd:ds[i]?=M ds[i]:=aav lM;let {go,yl}:=du _ hd;refine{go,λσ' H'=>∃β' o',yX X C W0 T σ0 H1 a Hb Wb Ac β' o' σ' H'/\I (i+1) β' o',λσ' H' h=>{_,by omega,lM,rfl,h},λx H3 y=>?_}
  let {s3,r3}:=yl x H3 y;let {own,s}:=sE;refine{own,β,_,_,s.sq.same s3,xG (r3 own s.le),γm _ _ _ _ _ (λβ4 q σ4 Eg s4 w4 t4=>?_) (i1 i _ β o hd hl)};have sc4:=s.next hA s4 w4 s3 λj hj=>t4 j λz=>hj (hT j z)
  refine{β4,Eg,s4,τm _ _ _ (λt O q H5 IE o5=>?_) q};let {O9,rfl}:=o5.pu rfl;have YJ:=sc4.next hA o5.sq (λ_ z=>z) O9 λ_ _=>rfl
  cases t with
  |false=>exact{O,o,{_,YJ},q}
  |true=>exact Rq O o σ4 H5 _ {_,YJ} q
 ·left
  have e:i=ds.length:=by omega
  subst e;exact{tY (aaq _),fin β o L H2 sE (i2 β o hl)}
def KG {α:Type}(ι:cT)(γ:eU)(τ:bg)(Af:α->a8->(a8->α->Prop)->Prop)(o:α)(β:a8)(N:a8->α->Prop):Prop:=ι β λds k L=>kZ γ τ Af ds k L o N
def HU (L:G4 a Ac)(hT:∀j∈Tg,j∈T)(γm:∀d k β R R',(∀r,R r->R' r)->γ d k β R->γ d k β R')(τm:∀β R R',(∀d β,R d β->R' d β)->τ β R->τ β R')
  (Rq:∀Hb Wb β o σ' H' N,yX X C W0 T σ0 H1 a Hb Wb Ac β o σ' H'->Af o β N->ta (λCL GZ=>∃β' o',yX X C W0 T σ0 H1 a Hb Wb Ac β' o' CL GZ/\N β' o') σ' H')
  (ιm:∀β R R',.aC->ι β R->ι β R') {β:a8} {o:α} {σ:St} {H:Hp} {N:a8->α->Prop} (s:yX X C W0 T σ0 H1 a Hb Wb Ac β o σ H) (q:KG ι γ τ Af o β N) :
  ∃β own,SQ X .ak σ H β own/\ι β λds k β'=>∀J H',ay H H'->SQ X .ak σ H' β' own->uo X (jx .ak (Wn own) k) J ds H' ->
   fm J (HD X C a Tg γ) (nk X .ak G τ) ta (λσ' H'=>∃β' o',yX X C W0 T σ0 H1 a Hb Wb Ac β' o' σ' H'/\N β' o') σ H':=by
 let {own,s}:=s;refine{β,own,s.sq,ιm _ _ _ (λds k O q J H' sm sq itd=>?_) q};have s1:=s.next L sq (λ_ z=>z) sm λ_ _=>rfl
 have hu:jx .ak (Wn own) k a:=.inr rfl;refine zq (Hb:=H') (Wb:=Wn own) L hT γm τm (λi βx ox σx Hx sx=>?_) (λβx ox σx Hx Nx sx qx=>Rq _ _ _ _ _ _ _ sx qx) {own,{s1.sq,s1.sn,λ_ z=>z,s1.ac,s1.pu,λ_ _ _ e=>e,s1.st}} q λβx ox σx Hx sx hx=>?_
 ·let {ID,sx}:=sx;have kp:Kp (λb=>jx .ak (Wn own) k b\/H' b=ξ) H' Hx:={λb ob e n=>sx.bs b ob (λz=>n (.inl (by rw[z];exact hu))) e,λb xs e=>sx.bs b _ (λz=>L.QH _ _ _ s1.ac (by rw[<- z];exact e)) e}
  let {g1,g2}:=itd (λb=>jx .ak (Wn own) k b\/H' b=ξ) (λb z=>z) i Hx kp;refine{λd hd=>?_,g2};let {go,yl}:=g1 d hd;refine{go,λx H3 y=>?_};let {Y,r3}:=yl x H3 y;exact{Y,λaZ Vc=>aA.aW (λb z=>.inl (lJ Vc k b z)) r3}
 ·let {ID,sx}:=sx;exact{βx,ox,{ID,{sx.sq,sx.sn,λc z=>s.le c (sx.le c z),sx.ac,sx.pu,λb ob n e=>sx.bs b ob n (s1.bs b ob n e),sx.st}},hx}
def oP {σ:St}{own:Nat->List μ}(hA:G4 a Ac){Af:α->a8->(a8->α->Prop)->Prop}{ds:List D}{K:α->Prop}{End:Hp->Prop}
  (γm:∀d k β R R',(∀r,R r->R' r)->γ d k β R->γ d k β R') (τm:∀β R R',(∀d β,R d β->R' d β)->τ β R->τ β R') (hTg:∀j∈Tg,j∈T)
  (inj:∀(i L j:Nat),lk[i]?=M (M j)->lk[L]?=M (M j)->i=L) (hT:∀i∈T,∀j,lk[i]?≠M (M j))
  (s1:SQ X C σ H1 β own) (O:H1 a=ξ) (it:uo X (av C (Wn own) k) J ds H1) (a0:Ac o0 (upd H1 a oa)) (ent:SQ X .ak (cV lk σ) (upd H1 a oa) (cS lk β) (cF lk β own))
  (Rq:∀Hb Wb β' o σ' H' N,C.H0 a=ξ->yX X C (Wn (cF lk β own)) T (cV lk σ) H1 a Hb Wb Ac β' o σ' H'->Af o β' N->ta (λCL GZ=>∃β' o',yX X C (Wn (cF lk β own)) T (cV lk σ) H1 a Hb Wb Ac β' o' CL GZ/\N β' o') σ' H')
  (q:kZ γ τ Af ds k (cS lk β) o0 λβf o=>fD (cS lk β) βf/\K o)
  (fin:∀o H',K o->Out X C σ H1 own G β H' own->Ac o H'->End H') :
  fm J (HD X C a Tg γ) (nk X .ak G τ) ta (λ_ H'=>End H') (cV lk σ) (upd H1 a oa):=by
 have h0:C.H0 a=ξ:=abA λz=>s1.iE a z O;have sm:ay H1 (upd H1 a oa):=ay.new O;refine zq (W0:=Wn (cF lk β own)) (T:=T) (σ0:=cV lk σ) (H1:=H1) (Hb:=H1) (Wb:=Wn (cF lk β own)) hA hTg γm τm (λi βx ox σx Hx sx=>?_) (λβx ox σx Hx Nx sx qx=>Rq _ _ _ _ _ _ _ h0 sx qx)
  {cF lk β own,{ent,{λb z=>.inl z,sm.kp,λb z e=>z (sm.free e)},λ_ z=>z,a0,sm,λb ob n e=>sm _ _ e,λ_ _=>rfl}} q λβx ox σx Hx sx hx=>?_
 ·let {ID,sx}:=sx;have kI:Kp (λb=>av C (Wn own) k b\/H1 b=ξ) H1 Hx:=sx.pu.kp;let {g1,g2}:=it (λb=>av C (Wn own) k b\/H1 b=ξ) (λb z=>z) i Hx kI;refine{λd hd=>?_,g2};let {go,yl}:=g1 d hd;refine{go,λx H3 y=>?_};let {Y,r3}:=yl x H3 y;exact{Y,λaZ Vc=>aA.aW (λc z=>z.elim (λz=>.inl (og (λc z=>fB c (Vc c z)) k c z)) λz=>.inr (by rw[z];exact O)) r3}
 ·let {ID,sx}:=sx;let {hh,hK}:=hx;have lv:SQ X C σ Hx β own:=s1.leave sx.sq sx.sn sx.le hh λj ok L e1 e2=>sx.st L λz=>hT L z j e2;exact fin ox Hx hK {lv,{λb z=>.inl z,sx.sn.k.mono λb z=>z.imp (fB b) id,sx.sn.d},λz=>{(sx.pu),rfl},λ_ z=>z} sx.ac
end
def yU {X:Cx}{C:Cfg}{σ:St}{H1 H':Hp}{β:a8}{own:Nat->List μ}{a:μ}{o:List D}(s1:SQ X C σ H1 β own)(L:H1 a=ξ)(h:T4 X.prog X.w H1 a o H'):KV X.prog X.w C (H1,Wn own) own H' .own (.lst o) (.ref a):=by
 let {vs,A,at',os,nd,nw}:=h;refine{a::A,{(a),vs,A,rfl,at',rfl,os},aaX.mpr {λz=>(nw a z).2 rfl,nd},λc hc=>?_};have nY:H1 c=ξ:=by
  rcases aat.mp hc with rfl|hc
  ·exact L
  ·exact(nw c hc).1
 exact{nY,λh=>by let {j,hj}:=h;exact(s1.dm j c hj).1 nY,abA λz=>s1.iE c z nY}
def L8 (lk:List .aB)(ι:cT)(γ:eU)(τ:bg)(ι2:cT)(γ2:eU)(τ2:bg)(φ:aM):aM:=λβ R=>ι β λds k L=>hold k η/\kZ γ τ (KG ι2 γ2 τ2 (F0 φ)) ds k (cS lk L) [] λβf o=>fD (cS lk L) βf/\R (.lst o) .own L
section
variable {γ γ2:eU}{τ τ2:bg}{T2:List Nat}
variable {C9 tY:Expr}{qS:List Expr}{ι ι2:cT}
def lcB (N':List Str)(lk:List .aB)(L:md X.env.scope.names X.N scope N' lk=G)(vI:N'.Nodup)(hc:X.calm=G)(hi:xi X C pi tg du ι)
  (BY:∀a cl c s H ex,GY .am .ak tg T γ) (BX:∀a cl c s H ex,w9 .am .ak G ifs τ)
  (Zt:∀a cl c s H ex,ZP .am .ak C9 tY ι2)
  (Ro:∀a cl c s H ex,GY .am .ak C9 T2 γ2) (Rn:∀a cl c s H ex,w9 .am .ak G qS τ2)
  (r_:∀a cl c s H ex,PQ .am .ak G elt φ) (hT:(T++T2).all (λi=>match lk[i]? with|some (M _)=>η|_=>G)=G:=by rfl)
  (hs:∀x,abu du .f x=pure x:=by intro _;rfl) (vD:∀cl c s H ex x,abu tY (aQ X scope N' cl c s H ex).env x=pure x:=by intro _ _ _ _ _ _;rfl):PQ X C pi (.ListComp elt [{tg,du,ifs,0},{C9,tY,qS,0}] scope pos) (L8 lk ι γ τ ι2 γ2 τ2 φ):=by
 have L:=Links.of L;have RX:∀i∈T++T2,∀j,lk[i]?≠M (M j):=λi hi j e=>by
  have:=acS.mp hT i hi;rw[e]at this;cases this
 have ax:μ:=0;have cl0:List (Str×μ):=[];have γm:=(BY 0 [] 0 X.s₀ X.H₀ []).mono;have τm:=(BX 0 [] 0 X.s₀ X.H₀ []).mono;have T6:=(Ro 0 [] 0 X.s₀ X.H₀ []).mono;have T5:=(Rn 0 [] 0 X.s₀ X.H₀ []).mono;have φm:=(r_ 0 [] 0 X.s₀ X.H₀ []).mono;have ιm:=(Zt 0 [] 0 X.s₀ X.H₀ []).mono;refine{λβ R R' k h=>hi.mono β _ _ (λds kd Y q=>{q.1,q.2.mono λ_ _ z=>{z.1,k _ _ _ z.2}}) h,?_};refine(u6 (g:={tg,du,ifs,0}) (gs:=[{C9,tY,qS,0}]) (tg:=λa=>HD X C a T γ) (tt:=λa=>nk X .ak G τ)
  (ta:=λa N σ H=>∃β own,SQ X .ak σ H β own/\ι2 β λds k β'=>∀J H',ay H H'->SQ X .ak σ H' β' own->uo X (jx .ak (Wn own) k) J ds H' ->
   fm J (HD X C a T2 γ2) (nk X .ak G τ2) (O6 X C a φ) N σ H')
  L hc iR rfl rfl (λ_ _=>OI) hi.pi (λa cl c s H ex=>{(BY a cl c s H ex).pg,(BX a cl c s H ex).pt,IC (X:=aQ X scope N' cl c s H ex) (g':={C9,tY,qS,0}) rfl hc OH (Zt a cl c s H ex).pi (Ro a cl c s H ex).pg (Rn a cl c s H ex).pt (iQ (X:=aQ X scope N' cl c s H ex) rfl (r_ a cl c s H ex).pe) (vD cl c s H ex)}) hs).pre λσ H Q h=>?_
 let {β,own,s,h}:=h;refine{β,own,s,hi.mono β _ _ (λds k Y h J H1 aw o1 it a O=>?_) h};let {hk,q}:=h;refine oP (T:=T++T2) (qm (P:=X.prog) (w:=X.w) (H1:=H1)) γm τm (λj hj=>abW _ hj) (gy L vI) RX o1.sq O it {[],[],az,(show aR _ _ _ [] [] [] from {(rfl),rfl}),abg,λc hc=>(nomatch hc)} (o1.sq.enter O (gy L vI))
  (λHb Wb βx ox σx Hx Nx h0 sx qx=>HU qm (λj hj=>aa_ _ hj) T6 T5 (λHb Wb βy oy σy Hy Ny sy qy=>tq h0 O φm sy qy) ιm sx qx) q λo H' q o2 r=>?_
 refine q _ _ aw {o2.sq,o1.sn.trans o2.sn,λz=>{(o1.pu z).1.trans (o2.pu rfl).1,(o1.pu z).2},o1.le} ((yU o1.sq O r).later o1.sn)
end
end L2.Q
namespace L2
open PySem PySem.Spec PyProof.Rows
def bA (X:Cx)(x0:Str)(scope:acF)(N':List Str)(cl:List (Str×μ))(C:μ)(s:aao)(H:Hp)(ex:List μ):Cx :=
 {X with N:=N',s₀:=s,H₀:=H,env:=compEnvC scope ((x0,C+1)::cl) C .f,outer:=X.stack,stack:=X.stack,ex:=ex,fn:=λx=>x==x0,pn:=[],xe:=λ_ _=>False}
structure j9 (X:Cx)(x0:Str)(scope:acF)(N':List Str)(lk:List .aB):Prop where
 kind:scope.kind=.function
 one:scope.names.filter (λx=>x.2==abC)=[(x0,.cell)]
 names:∀x∈scope.names,x.2=.local->scope.names.lookup x.1=M .local
 free:∀x,(x,abc)∈scope.names->x≠x0/\(X.env.kindOf x=M .cell\/X.env.kindOf x=M .free)
 len:lk.length=N'.length
 link:∀(i j:Nat),lk[i]?=M (M j)->∃x,N'[i]?=M x/\X.N[j]?=M x/\(x,abc)∈scope.names/\scope.names.lookup x=M .free
def tX (outer:List (Str×acQ))(N:List Str)(x0:Str)(scope:acF)(N':List Str)(lk:List .aB):Bool :=
 (scope.kind==.function)&&(scope.names.filter (λx=>x.2==abC)==[(x0,.cell)])&&scope.names.all (λx=>(x.2 != .local || scope.names.lookup x.1==M .local)&&(x.2 != .free || x.1 != x0&&(outer.lookup x.1==M .cell || outer.lookup x.1==M .free))) &&
 lk.length==N'.length&&(aaA lk.length).all λi=>match lk[i]? with
  |some (M j)=>match N'[i]? with
   |some x=>N[j]?==M x&&scope.names.contains (x,.free)&&scope.names.lookup x==M .free
   |none=>η
  |_=>G
def j9.of {X:Cx}(h:tX X.env.scope.names X.N x0 scope N' lk=G):j9 X x0 scope N' lk:=by
 simp only[tX,aa1]at h;obtain⟨⟨⟨⟨h1,h0⟩,Y⟩,h3⟩,h4⟩:=h;rw[acS]at Y h4;refine{by simpa using h1,by simpa using h0,λx O hl=>?_,λx O=>?_,by simpa using h3,λi j aN=>?_}
 ·have:=Y x O;simp only[aa1]at this;have q:=this.1;rw[hl]at q;simpa using q
 ·have:=Y _ O;simp only[aa1]at this;have q:=this.2;simp only[ad0,aa1]at q;rcases q with q|⟨L,q⟩
  ·simp at q
  ·refine{by simpa using L,?_}
   rcases q with q|q
   ·exact .inl (show X.env.scope.names.lookup x=M .cell by simpa using q)
   ·exact .inr (show X.env.scope.names.lookup x=M .free by simpa using q)
 ·have hi:i<lk.length:=(aay.mp aN).1;have q:=h4 i (aa2.mpr hi);rw[aN]at q;simp only at q;cases e:N'[i]? with
  |none=>rw[e]at q;simp at q
  |some x =>
   rw[e]at q;simp only[aa1]at q;obtain⟨⟨L,q2⟩,q3⟩:=q;exact{x,rfl,by simpa using L,by simpa using q2,by simpa using q3}
theorem gc {env:Env}{k:acQ}(hk:k=.cell\/k=.free):∀{names:List (Str×acQ)} {x:Str},
  (names.map λ(n,k)=>if .al then (n,abC) else (n,k)).lookup x=M k->(x,abc)∈names\/(x,abC)∈names
 |[],_,h=>by simp at h
 | (n,k')::r,x,h=>by
  have ih:=@gc env k hk r x;rw[aa8]at h
  by_cases hc:(k'==abc&&env.scope.kind==.function&&env.kindOf n==M .cell)=G
  ·simp only[hc,if_true]at h;rw[abw]at h;cases q:x==n with
   |true =>
    rw[eq_of_beq q];simp only[aa1]at hc;have:k'=.free:=by simpa using hc.1.1
    rw[this];simp
   |false =>
    rw[q]at h;exact(ih h).imp (λz=>aaL _ z) λz=>aaL _ z
  ·simp only[hc]at h;simp only[abQ,if_false]at h;rw[abw]at h;cases q:x==n with
   |true =>
    rw[q]at h;cases h;rw[eq_of_beq q];rcases hk with rfl|rfl
    ·exact .inr .c
    ·exact .inl .c
   |false =>
    rw[q]at h;exact(ih h).imp (λz=>aaL _ z) λz=>aaL _ z
theorem Gu :∀{names:List (Str×acQ)} {n:Nat} {cl:List (Str×μ)} {h:Heap},names.filter (λx=>x.2==abC)=[(x0,.cell)]->ad7 n names cl=(x0,n)::cl/\pushCells h names=h.push {cls:=.type "cell",data:=.cell ξ}
 |[],_,_,_,e=>by cases e
 | (y,k)::r,n,cl,h,e=>by
  have no:∀{r:List (Str×acQ)} {n:Nat} {cl:List (Str×μ)} {h:Heap},r.filter (λx=>x.2==abC)=[]->ad7 n r cl=cl/\pushCells h r=h:=λ{r}=>by
   induction r with
   |nil=>intro n cl h _;exact{(rfl),rfl}
   |cons p r ih =>
    intro n cl h e;let {y,k}:=p;rw[acR]at e
    by_cases hk:(k==abC)=G
    ·rw[ω hk]at e;cases e
    ·rw[Δ hk]at e;unfold ad7 pushCells;rw[Δ hk,Δ hk];exact ih e
  rw[acR]at e;unfold ad7 pushCells
  by_cases hk:(k==abC)=G
  ·rw[ω hk]at e;rw[ω hk,ω hk];injection e with L O
   injection L with L _
   subst L;exact no O
  ·rw[Δ hk]at e;rw[Δ hk,Δ hk];exact Gu e
section
variable {x0:Str}{cl:List (Str×μ)}{ex:List μ}
def BU (I:Inv X χ σ H s)(L:j9 X x0 scope N' lk)(hex:∀b∈ex,eV X χ H b)(JA:∀b∈ex,∃o,s.heap.get? b=M o)
  (nY:∀x,(x,abc)∈scope.names->∃c,cl.lookup x=M c) (nB:∀x c,cl.lookup x=M c->X.env.cells.lookup x=M c)
  (hn:h'.Ns .e (λ_=>ξ)) (hk:∀b o,s.heap.get? b=M o->h'.get? b=M o) (h0:h'.IsCell (.e+1) ξ) :
  Inv (bA X x0 scope N' cl .e s H ex) [] (cV lk σ) H {s with heap:=h',toks:=t'}:=by
 let {m,hm,hl}:=I.loc;have Tw:∀b∈ex,b<.e:=λb hb=>by
  let {o,e}:=JA b hb;exact aaw e
 have two:∀x c,(((x0,.e+1)::cl).lookup x=M c)->(x=x0/\c=.e+1)\/(x≠x0/\X.env.cells.lookup x=M c):=λx c e=>by
  rw[abw]at e;cases q:x==x0 with
  |true=>rw[q]at e;cases e;exact .inl {eq_of_beq q,rfl}
  |false=>rw[q]at e;exact .inr {λz=>by rw[z]at q;simp at q,nB _ _ e}
 have old:∀x c,X.env.cells.lookup x=M c->c<.e:=λx c e=>by
  let {v,o,ho,_x}:=I.cell x c e;exact aaw ho
 have skip:∀x c,x≠x0->cl.lookup x=M c->((x0,.e+1)::cl).lookup x=M c:=λx c n e=>by
  rw[abw];have:(x==x0)=η:=beq_eq_false_iff_ne.mpr n;rw[this];exact e
 refine⟨⟨I.ok.mod,L.kind,I.ok.glob,I.ok.blt,aaq _,λx y c h1 h2=>?_,λx hx=>?_,λx c z e=>?_,I.ok.hd,I.ok.frames,.inl rfl,
  λb hb=>{aaN (Tw b hb),λx c e=>?_},I.bs,aa3 I.ok.yS I.sz,λb o e z=>?_,λb hb z=>?_,I.stack,I.nH⟩,
  rfl,I.bare,Un.kept hk,{_,hn,λi x v h1 h2 h3=>?_},λx c e=>?_,I.bh.fresh (aaq _),λx c e=>?_,λp hp=>Κ (show p∈([]:List (μ×Obj)) from hp) .c,I.bh.kept hk,?_⟩
 ·rcases two x c h1 with⟨rfl,O⟩|⟨n1,O⟩ <;> rcases two y c h2 with⟨rfl,Y⟩|⟨n2,Y⟩
  ·rfl
  ·exact Κ (show .e+1<.e from O▸old _ _ Y) (Nat.not_lt.mpr (adz _))
  ·exact Κ (show .e+1<.e from Y▸old _ _ O) (Nat.not_lt.mpr (adz _))
  ·exact I.ok.inj x y c O Y
 ·have yt:(relabel scope .f).names.lookup x=M .cell\/(relabel scope .f).names.lookup x=M .free:=hx;have key:(x,abc)∈scope.names\/(x,abC)∈scope.names:=yt.elim (λq=>gc (.inl rfl) q) λq=>gc (.inr rfl) q;rcases key with q|q
  ·let {c,hc}:=nY x q;exact{c,skip x c (L.free x q).1 hc}
  ·have:(x,abC)∈scope.names.filter (λx=>x.2==abC):=ab8.mpr {(q),rfl};rw[L.one]at this;have e:=Μ Prod.fst (aaE.mp this);exact{.e+1,by show ((x0,_)::cl).lookup x=_;rw[show x=x0 from e,abw];simp}
 ·rcases two x c e with⟨_,O⟩|⟨n1,_⟩
  ·show .e<=c;lia
  ·exact Κ (eq_of_beq z) n1
 ·rcases two x c e with⟨_,O⟩|⟨_,O⟩
  ·intro q;exact Κ (show .e+1<.e from (O▸q:.e+1=b)▸Tw b hb) (Nat.not_lt.mpr (adz _))
  ·exact(hex b hb).2.2.2.2.1 x c O
 ·let {f0,f1,f2,f3,_x}:=hex b z;rcases f3 with q|q
  ·exact I.ok.qP b o e q
  ·have h1:=aaw e;have h2:=I.ok.yS;exact Κ (aaV h1 (aa3 h2 q)) (ab7 _)
 ·let {f0,f1,f2,f3,_x}:=hex b hb;rcases aat.mp (I.sY b z)with q|q
  ·exact f1 q
  ·exact f2 q
 ·have hi:∃j,lk[i]?=M (M j)/\σ[j]?=M (M v):=by
   have qA:(cV lk σ)[i]?=M (M v):=h2;unfold cV at qA;rw[aaB]at qA;cases e:lk[i]? with
   |none=>rw[e]at qA;cases qA
   |some l =>
    cases l with
    |none=>rw[e]at qA;cases qA
    |some j =>
     rw[e]at qA;cases Y:σ[j]? with
     |none=>simp[Y]at qA
     |some w' =>
      simp only[adY,Y,aeq]at qA;subst qA;exact{(j),rfl,Y}
  let {j,hj,hσ}:=hi;let {y,O,Y,e3,e4}:=L.link i j hj;have X_:x=y:=by
   have yC:N'[i]?=M x:=h1;rw[O]at yC;exact(aaZ yC).symm
  subst X_;have Nh:Lf X.env.scope x:=by
   rcases (L.free x e3).2 with q|q
   ·exact .inr (.inl q)
   ·exact .inr (.inr q)
  let {u,ru,lu}:=hl j x v Y hσ Nh;refine{u,ru,.inr {?_,?_}}
  ·exact cU e4
  ·rcases lu with⟨k,_⟩|⟨_,c,hc,z⟩
   ·rcases (L.free x e3).2 with q|q <;> (rw[k]at q;cases q)
   ·let {c',qw}:=nY x e3;have:=nB x c' qw;rw[hc]at this;cases this;let {o,ho,hd}:=z;exact{c,skip x c (L.free x e3).1 qw,o,hk _ _ ho,hd}
 ·rcases two x c e with⟨_,O⟩|⟨_,O⟩
  ·exact{ξ,by rw[O];exact h0}
  ·let {v,o,ho,hd}:=I.cell x c O;exact{v,o,hk _ _ ho,hd}
 ·rcases two x c e with⟨_,O⟩|⟨_,O⟩
  ·rw[O];exact I.bh.fresh .a
  ·exact I.dQ x c O
 ·show (cV lk σ).length=N'.length;unfold cV;rw[aan,L.len]
def BV {H':Hp}(I:Inv X χ σ H s)(hex:∀b∈ex,eV X χ H b)
  (J:Inv (bA X x0 scope N' cl .e s H ex) pl σ' H' s') (hs:ach .e s'.heap h''):Inv X χ σ H' {s' with heap:=h''}:=by
 have Y:H' .e=ξ:=J.free;have u:=J.base;refine I.Gy (ch:=ex) (s':={s' with heap:=h''}) J.os ?_ ?_ J.bare (λb L=>?_)
 ·have kk:∀b o,b≠.e->s'.heap.get? b=M o->h''.get? b=M o:=λb o L e=>(hs.2 b L).trans e;have ne:∀b o,s.heap.get? b=M o->b≠.e:=λb o e=>aaN (aaw e);refine{λb o e n L O=>kk b _ (ne b o e) (u.keep b o e n L O),λb o e n L O=>?_,u.free,λb o e O=>?_,u.jA,u.iW,u.jB}
  ·let {sl,q}:=u.slot b o e n L O;exact{sl,kk b _ (ne b o e) q}
  ·let {o',q}:=u.there b o e O;exact{o',kk b _ (ne b o e) q}
 ·intro b o e;have L:b≠.e:=λz=>by rw[z]at e;rw[Y]at e;cases e
  refine(J.bh b o e).nr (λc v hc q=>(hs.2 c ?_).trans q) (λ_ q=>q) λ_ _ q=>q;rcases hc with z|z
  ·rw[z];exact L
  ·intro z';rw[z']at z;rw[Y]at z;cases z
 ·let {f0,f1,f2,f3,f4,f5}:=hex b L;exact{(f3),f1,f4,f5}
end
section
variable {x0:Str}{g:acN}{gs:List acN}{tg:μ->TG}{tt:μ->TT}{wi:TI}
def wJ {after:aam->Env->Sem Fin->Sem Fin}{ta:μ->mL}(L:j9 X x0 scope N' lk)(hc:X.calm=G)(hA:qq X b7 o)
  (F:∀acc env,ir e 0 g acc env (after acc env))
  (r9:∀a cl C s H ex,PG (bA X x0 scope N' cl C s H ex) g.target (tg a)/\w6 (bA X x0 scope N' cl C s H ex) g.ifs (tt a)/\qp (bA X x0 scope N' cl C s H ex) (after (.ref a) (bA X x0 scope N' cl C s H ex).env) (ta a))
  {cl:List (Str×μ)} (nY:∀x,(x,abc)∈scope.names->∃c,cl.lookup x=M c) (nB:∀x c,cl.lookup x=M c->X.env.cells.lookup x=M c)
  {χ:List (μ×Obj)} {σ:St} {s:aao} {Q:V->Hp->Prop} {CF:aam} {E:aam->aao->Prop} {RR:aam->μ->Result->aao->Prop}
  (h:SF X χ σ g.target (λJ H1=>∀a,H1 a=ξ->fm J (tg a) (tt a) (ta a) (λ_ H'=>Q (.ref a) H') (cV lk σ) (upd H1 a o)) CF s)
  (hR:∀a H' C s',Inv X χ σ H' s'->eV X χ H' C->(∃m,s'.heap.Ns C m)->Q (.ref a) H'->RR (.ref a) C (.ok .next) s') :
  aaD .aa X.A b7 (λacc s₃=>aaD .aa X.A (newFunctionEnv scope X.env.globals cl [] X.env.qual ξ .none (M .f)) (λGs s₄ =>
   adg .aa X.A (.compStart e 0 CF acc {Gs with scope:=relabel scope .f}) (RR acc Gs.locals) s₄) E s₃) E s:=by
 let {it,fp,tn,J,H2,e1,I2,T,iu,f2,hl}:=h;subst e1;refine hA.ok χ s σ H2 _ E I2 λa O ha hn hk I3=>?_;simp only[newFunctionEnv,Option.isSome_some,if_true];refine aal (wpAny_alloc ?_);refine aal (wpAny_layCells _ (λname kind cells=>by cases hkc:kind==abC <;> simp[hkc]) _ _ _ _ ?_)
 let {c1,c2}:=Gu (n:=O.heap.objs.size+1) (cl:=cl) (h:=O.heap.push {cls:=.type "dict",data:=.dict #[]}) L.one;have hsz:(O.heap.push {cls:=.type "dict",data:=.dict #[]}).objs.size=O.heap.objs.size+1:=aed ..
 dsimp only;rw[hsz,c1,c2];refine aal ?_;rw[aeb];refine aap (aap ?_);generalize Fy:(O.heap.push {cls:=.type "dict",data:=.dict #[]}).push {cls:=.type "cell",data:=.cell ξ}=h₁;have JA:∀b∈fp,∃o,O.heap.get? b=M o:=λb Y=>by
  let {ob,q,_x}:=T.obj _ _ iu b Y;exact{ob,hk b ob q}
 have XW:∀b∈fp,b≠a:=λb Y=>by
  let {ob,q,_x}:=T.obj _ _ iu b Y;exact aaN (aaV (aaw q) ha)
 have f3:∀b∈fp,eV X χ (upd H2 a o) b:=λb Y=>{by rw[au (XW b Y)];exact(f2 b Y).1,(f2 b Y).2}
 have KW:∀b ob,O.heap.get? b=M ob->h₁.get? b=M ob:=λb ob q=>by rw[<- Fy];exact aar _ (aar _ q)
 have Pf:h₁.Ns O.heap.objs.size (λ_=>ξ):=by rw[<- Fy];exact(Heap.Ns.new O.heap (.type "dict")).keeps λb ob q=>aar _ q
 have mY:h₁.IsCell (O.heap.objs.size+1) ξ:=by rw[<- Fy,<- hsz];exact{_,aaU _ rfl,rfl}
 have I4:=BU (t':=O.toks) I3 L f3 JA nY nB Pf KW mY;let {g1,g2,g3}:=r9 a cl O.heap.objs.size O (upd H2 a o) fp;have f4:∀b∈fp,eV (bA X x0 scope N' cl O.heap.objs.size O (upd H2 a o) fp) [] (upd H2 a o) b:=λb Y =>
  {(f3 b Y).1,(I4.ok.Hh b Y).1,I4.ok.q_ b Y,.inl Y,(I4.ok.Hh b Y).2,λp hp=>Κ (show p∈([]:List (μ×Obj)) from hp) .c}
 have SY:tn 0 h₁:=T.keep 0 _ _ iu λb Y ob q=>KW b ob (hk b ob q);refine acy (j5 (X:=bA X x0 scope N' cl O.heap.objs.size O (upd H2 a o) fp) rfl hc (F (.ref a) _) g1 g2 g3 T I4 SY f4 (hl a hn)) λr s' hr=>?_;let {rfl,σ',H',J',q}:=hr;have I5:Inv X χ σ H' s':=BV (h'':=s'.heap) I3 f3 J' (.refl ..);refine hR a H' O.heap.objs.size s' I5 (I3.t_ (aaq _) J'.free) ?_ q;let {m,hm,_x}:=J'.loc;exact{(m),hm}
def Eb {after:aam->Env->Sem Fin->Sem Fin}{ta:μ->mL}(L:j9 X x0 scope N' lk)(hc:X.calm=G)(hA:qq X b7 o)
  (yB:eval e .f=comprehension e scope .f pos b7 η (eval g.iter .f)) (Hf:clausesOf e=g::gs)
  (F:∀acc env,ir e 0 g acc env (after acc env)) (hi:PI X g.target g.iter wi)
  (Y:∀a cl C s H ex,PG (bA X x0 scope N' cl C s H ex) g.target (tg a)/\w6 (bA X x0 scope N' cl C s H ex) g.ifs (tt a)/\qp (bA X x0 scope N' cl C s H ex) (after (.ref a) (bA X x0 scope N' cl C s H ex).env) (ta a))
  (hs:∀x,abu g.iter .f x=pure x) :
  PE X e (λσ H Q=>wi σ H λJ H1=>∀a,H1 a=ξ->fm J (tg a) (tt a) (ta a) (λ_ H'=>Q (.ref a) H') (cV lk σ) (upd H1 a o)):=by
 intro χ s σ H Q I h;rw[yB];let {cl,vH,nY,nB}:=gg (env:=.f) (scope:=scope) λx hx=>I.ok.has x (L.free x hx).2;refine aeu (use:=ξ) Hf hs vH L.kind L.names (bz (hi χ s σ H _ I h) λv s1 h1=>bz h1 λCF s2 h2=>?_);refine wJ (RR:=λacc C=>compPost .aa X.A X.xe ξ (EP X χ σ Q) acc C) L hc hA F Y nY nB h2 λa H' C s' I' f O q=>?_;let {m,O}:=O;exact{m,O,λh' yv=>{.ref a,H',I'.sameBut f yv,rfl,q}}
end
end L2
namespace L2.Q
open PySem PySem.Spec PySem.SeqAt PyProof.Rows
def DA (lk:List .aB)(ι:cT)(γ:eU)(τ:bg)(φ:aM):aM:=λβ R=>ι β λds k L=>hold k η/\kZ γ τ (F0 φ) ds k (cS lk L) [] λβf o=>fD (cS lk L) βf/\R (.lst o) .own L
section
variable {y:Str}
def pD (L:j9 X x0 scope N' lk)(hN:N'.Nodup):∀(i O j:Nat),lk[i]?=M (M j)->lk[O]?=M (M j)->i=O:=λi O j h1 h2=>by
 let {x,a1,a2,_x}:=L.link i j h1;let {y,b1,Y,_x}:=L.link O j h2;rw[a2]at Y;cases Y;exact(List.getElem?_inj (aay.mp a1).1 hN).mp (a1.trans b1.symm)
end
def UI (φ:aM):bg:=λβ R=>φ β λd _ β'=>∃ds,d=.lst ds/\R (!ds.isEmpty) β'
def nO (L:PQ X C p a φ)(he:∀whole,isTrue a .f whole=(do let v <- whole;aep a.pos;holding [v] (truthy v)):=by intro _;rfl):w_ X C p a (UI φ) :=
 ⟨λβ R R' k h=>L.mono β _ _ (λd kd β' h=>by let {b,e,q}:=h;exact{b,e,k _ _ q}) h,(DH L.pe he).pre λσ H Q h=>by
  let {β,own,s,h}:=h;refine tQ.of L s h λd k β' v H1 aw h o1 Y=>?_;let {ds,e,q}:=h;subst e;let {c,vs,rfl,h1,n1,O}:=Y.rep;refine{!ds.isEmpty,.inl {vs,dw.of h1,?_},q H1 aw o1};have:=O.length;cases ds <;> cases vs <;> first|rfl|cases this⟩
def Dp:Option μ->Sk
 |none=>.one
 |some h=>.at h
def RZ:V->D
 |.cI=>.cI
 |.bl b=>.bl b
 |.int i=>.int i
 |.str x=>.str x
 |.ref a=>.obj a
 |_=>.cI
def YF:D->List V->D
 |.lst _,vs=>.lst (vs.map RZ)
 |.dT ks _,vs=>.dT ks (vs.map RZ)
 |.dK ks _,vs=>.dK ks (vs.map RZ)
 |d,_=>d
section
variable {β:a8}{own:Nat->List μ}
def Mv {H':Hp}(r:aA P w W H' d v):Own P w H (RZ v) v []:=by
 cases d with
 |tup ds=>let {a,vs,rfl,L}:=r;exact{(rfl),rfl}
 |lst ds=>let {a,vs,rfl,L}:=r;exact{(rfl),rfl}
 |dT ks ds=>let {a,vs,rfl,L}:=r;exact{(rfl),rfl}
 |dK ks ds=>let {a,vs,rfl,L}:=r;exact{(rfl),rfl}
 |sT ts=>let {a,rfl,L}:=r;exact{(rfl),rfl}
 |ob φ=>let {a,rfl,L}:=r;exact{(rfl),rfl}
 |cI=>cases (show v=_ from r);exact{(rfl),rfl}
 |bl b=>cases (show v=_ from r);exact{(rfl),rfl}
 |int b=>cases (show v=_ from r);exact{(rfl),rfl}
 |str b=>cases (show v=_ from r);exact{(rfl),rfl}
 |obj b=>cases (show v=_ from r);exact{(rfl),rfl}
theorem nR {H':Hp}:∀{ds:List D} {vs:List V},aj P w W H' ds vs->aR P w H (vs.map RZ) vs []
 |[],_,e=>by cases e;exact{(rfl),rfl}
 |_::_,_,⟨v,vs,rfl,O,L⟩=>{v,vs,[],[],rfl,rfl,Mv O,nR L}
def tK {W:μ->Prop}{H':Hp}{d:D}{o:HO}{vs:List V}{a:μ}(r:aj P w W H' (S4 d) vs)(sh:P7 d o vs)(h:H a=M o):Own P w H (YF d vs) (.ref a) [a]:=by
 cases d with
 |lst ds=>cases sh;exact{a,vs,[],rfl,h,rfl,nR r}
 |dT ks ds=>let {rfl,l}:=sh;exact{a,vs,[],rfl,h,l,rfl,nR r}
 |dK ks ds=>let {rfl,l}:=sh;exact{a,vs,[],rfl,h,l,rfl,nR r}
 |_=>exact sh.elim
def P6 (sh:P7 d o vs):∀xs,o≠.tup xs:=λxs z=>by
 cases d with
 |lst ds=>cases sh;cases z
 |dT ks ds=>let {rfl,l}:=sh;cases z
 |dK ks ds=>let {rfl,l}:=sh;cases z
 |_=>exact sh.elim
def cy.toShl (s:cy P w C σ H β own)(e:β[i]?=M (M (.own d0)))(hσ:σ[i]?=M (M v))(r:CK P w (jx C (Wn own) (yk G)) H y d v (own i)):cy P w C σ H (β.set i (M (.shl y d))) own:=by
 refine{by simp[s.len],λj Y d' q=>?_,λj d' q=>?_,λj ok q=>?_,s.dm,s.nC,s.ph,s.kp,s.iE,λj Y d' q=>?_}
 ·by_cases aN:i=j
  ·subst aN;let {L,O}:=ba q;cases L
  ·rw[a6 aN]at q;exact s.val j Y d' q
 ·by_cases aN:i=j
  ·subst aN;let {L,O}:=ba q;cases L
  ·rw[a6 aN]at q;exact s.ow j d' q
 ·by_cases aN:i=j
  ·subst aN;let {L,O}:=ba q;cases L
  ·rw[a6 aN]at q;exact s.pM j ok q
 ·by_cases aN:i=j
  ·subst aN;let {L,O}:=ba q;cases L;let {O,O,O,h0}:=s.ow i d0 e;exact{(v),hσ,r,h0}
  ·rw[a6 aN]at q;exact s.shl j Y d' q
def CK.at {W:μ->Prop}{t:Option μ}{d:D}{v:V}{A:List μ}(h:CK P w W H (Dp t) d v A):mO P w W H d v A/\∀b,t=M b->v=.ref b:=by
 cases t with
 |none=>exact{h,λ_ z=>.au}
 |some b=>exact{h.1,λ_ z=>by cases z;exact h.2}
def CK.to {W:μ->Prop}{t:Option μ}{d:D}{v:V}{A:List μ}(h:mO P w W H d v A)(e:∀b,t=M b->v=.ref b):CK P w W H (Dp t) d v A:=by
 cases t with
 |none=>exact h
 |some b=>exact{h,e b rfl}
def cy.om (t:Option μ)(s:cy P w C σ H β own)(e:β[i]?=M (M (.shl (Dp t) d))):∃a o vs,(σ[i]?=M (M (.ref a))/\∀b,t=M b->a=b)/\own i=[a]/\H a=M o/\P7 d o vs/\aj P w (jx C (Wn own) (yk G)) H (S4 d) vs/\C.H0 a=ξ/\cy P w C σ H (β.set i (M (.own (YF d vs)))) own:=by
 let {v,h1,hs,h6}:=s.shl i _ d e;obtain⟨⟨a,o,vs,rfl,Y,h3,h4,h5⟩,ht⟩:=hs.at
 refine{a,o,vs,{h1,λb z=>by cases ht b z;rfl},Y,h3,h4,h5,h6 a (by rw[Y];simp),by simp[s.len],λj O d' q=>?_,λj d' q=>?_,λj ok q=>?_,s.dm,s.nC,s.ph,s.kp,s.iE,λj O d' q=>?_}
 ·by_cases aN:i=j
  ·subst aN;let {L,_x}:=ba q;cases L
  ·rw[a6 aN]at q;exact s.val j O d' q
 ·by_cases aN:i=j
  ·subst aN;let {L,_x}:=ba q;cases L;exact{.ref a,h1,by rw[Y];exact tK h5 h4 h3,h6}
  ·rw[a6 aN]at q;exact s.ow j d' q
 ·by_cases aN:i=j
  ·subst aN;let {L,_x}:=ba q;cases L
  ·rw[a6 aN]at q;exact s.pM j ok q
 ·by_cases aN:i=j
  ·subst aN;let {L,_x}:=ba q;cases L
  ·rw[a6 aN]at q;exact s.shl j O d' q
end
abbrev Y8 (k:Kd)(d:D):Prop:=match k with
 |.own=>True
 |.dM=>True
 |_=>d.flat=G
def KV.yg {C:Cfg}{H:Hp}(f:Y8 k d)(r:KV P w C Z own H k d v):aA P w (av C (Wn own) .dM) H d v:=by
 cases k with
 |own=>exact r.dM
 |dM=>exact r
 |old=>exact aA.flat f r
 |bor=>exact aA.flat f r
theorem aj.snoc {H:Hp}(h:aA P w W H d v):∀{ds:List D} {vs:List V},aj P w W H ds vs->aj P w W H (ds++[d]) (vs++[v])
 |[],_,e=>by cases e;exact{v,[],rfl,h,rfl}
 |_::_,_,⟨u,r,rfl,O,L⟩=>{u,r++[v],rfl,O,aj.snoc h L}
def LM {own:Nat->List μ}{i:Nat}{a:μ}(h:own i=[a]):∀c,Wn (aY own i [a]) c->Wn own c:=λc qU=>by
 let {j,hj}:=qU
 by_cases aN:i=j
 ·rw[<- aN,os_eq]at hj;exact{i,by rw[h];exact hj}
 ·rw[bM aN]at hj;exact{(j),hj}
def cy.Qx {P:aas}{w:aaG}{U:μ->Prop}{σ:St}{H:Hp}{β:a8}{own:Nat->List μ}{d d':D}{a:μ}{o:HO}{vs':List V}(t:Option μ)(b:cy P w (C.u U) σ H β own)(e:β[i]?=M (M (.shl (Dp t) d)))(hσ:σ[i]?=M (M (.ref a)))
  (sh:P7 d' o vs') (r:aj P w (av (C.u U) (Wn own) .dM) (upd H a o) (S4 d') vs'):cy P w C.z σ (upd H a o) (β.set i (M (.shl (Dp t) d'))) (aY own i [a])/\(∀c∈[a],c∈own i\/(C.H0 c=ξ/\¬ Wn own c/\U c))/\Wn own a/\∃oc,H a=M oc/\∀xs,oc≠.tup xs:=by
 let {a',o1,vs,O,L,h3,h4,h5,h6,s'}:=b.om t e;rw[hσ]at O;have ea:a=a':=by cases O.1;rfl
 subst ea;have hl:i<β.length:=(aay.mp e).1;have ha:a∈own i:=by rw[L];simp
 have hA:∀c∈[a],c∈own i\/(C.H0 c=ξ/\¬ Wn own c/\U c):=λc hc=>.inl (by rw[L];exact hc)
 have q:=s'.putIn (get_set hl) hσ ha (tK r sh az) .c hA
 rw[List.set_set]at q;have Y:=q.toShl (d:=d') (y:=Dp t) (get_set (by simpa using hl)) hσ (CK.to {a,o,vs',rfl,by rw[os_eq],az,sh,aj.aW (λc z=>?_) r} λb z=>by rw[O.2 b z])
 ·rw[List.set_set]at Y;exact{Y,hA,{(i),ha},o1,h3,P6 h4}
 ·rcases z with z|z
  ·exact og (C:=C) (LM L) .dM c z
  ·exact z.elim
def E4 {H:Hp}{a:μ}{o oc:HO}{W:μ->Prop}(h:H a=M oc)(L:∀xs,oc≠.tup xs)(hw:W a):Kp W H (upd H a o):=(pE h L).mono λc z=>by rw[z];exact hw
end L2.Q
namespace L2
open PySem PySem.Spec PySem.SeqAt PyProof.Rows
section
variable {te ta to:TE}{t:TA}{p1:Pos}{i:Int}
abbrev TQ (X:Cx)(e:Expr)(t:TE):Prop:=∀(χ:List (μ×Obj)) (s:aao) (σ:St) (H:Hp) (Q:VK),Inv X χ σ H s->t σ H Q->aaD .aa X.A (eval e .f) (λv s'=>1<=s'.toks/\EP X χ σ Q v s') X.xe s
def tR {α:Type}{M:aeG}{A:abf}{u:Sem α}{Q:α->aao->Prop}{E:aam->aao->Prop}{s:aao}(h:1<=s.toks)(q:aaD M A u Q E s):aaD M A u (λa s'=>1<=s'.toks/\Q a s') E s:=acL (TK.OT h q) (λ_ _ z=>z) λ_ _ z=>z.2
def Iq {r:R2}(Y:Hq X r)(ha:PE X a ta)(hs:jz (.Constant (.int i) j p1)):TQ X (.Subscript a (.Constant (.int i) j p1) pos) (O7 r ta (tC (.int i))):=λχ s σ H Q I h =>
 Subscript_ (bz (ha χ s σ H _ I h) λv s1 hq=>by
  let {x,H1,I1,L,O}:=hq;refine wpAny_Constant_int ?_;exact tR (Nat.succ_pos _) (Y a (.Constant (.int i) j p1) χ {s1 with toks:=s1.toks+1} σ H1 x (.int i) v (.int i s1.toks) Q (I1.tok _) L {_,rfl} O (hs _ _)))
def DV {CX:Cv}{k:Nat}{f:μ}{fd:aa6}{ps:List Str}{sp:Sp}{E:XK}{x:Str}(F:aG X.prog X.w X.K X.mg X.base CX k f fd ps sp)(hr:ck k X.A)(hg:Gl X x)(hm:X.mg x=M (.ref f))(hk:Β X.K (.ref f)=G)(hb:Binds X.K fd ps [])(hx:Passes CX X E)
  (ha:TQ X e te) (RM:PA X es t) (hdb:.ai=η:=by decide) (he:aaz (e::es) .f=.aE::aaz es .f:=by rfl) (hpl:(abN pos (aaz es .f)).any (·.1)=η:=by rfl) :
  TQ X (.Call (.Name x p1) (e::es) [] pos) (Dd sp [] E (Dc te t)):=by
 intro χ s σ H Q I h;refine ab_ (hZ I hg hm ?_ hdb);refine PySem.W.callWith_K (h₀:=X.base) I.ok.mod.M5 hk ?_ he hpl;rw[he];show aaD _ _ (spliced (.aE::abN pos (aaz es .f))) _ _ s;refine acX (bz (ha χ s σ H _ I h) λu s1 L=>?_);let {z,y,H1,I1,r1,q1}:=L;refine bz (tR z (RM pos χ s1 σ H1 _ I1 q1)) λus s2 L=>?_;let {Y,xs,H2,O,r2,q2}:=L;exact{O.zV,tR Y (Dw F hr hb .nil hx O (.cons r1 r2) q2)}
def Iu (ho:TQ X o to)(Vl:(y==z)=η)(hz:z.length<=14)
  (c8:aco o "replace" .f (eval o .f)=eval o .f:=by rfl)
  (iV:((abN cpos (aaz [.Constant (.str y) O p1,.Constant (.str z) L p2] .f)).all (λx=>!x.1)&&(ad9 cpos (ada [] .f)).all (λx=>x.1.isSome)&&decide ([Expr.Constant (.str y) O p1,.Constant (.str z) L p2].length+([]:List acO).length+.az<30))=G:=by rfl)
  (c7:(apos.endLine==cpos.line)=G:=by rfl) :
  PE X (.Call (.Attribute o "replace" apos) [.Constant (.str y) O p1,.Constant (.str z) L p2] [] cpos) (λσ H Q=>to σ H λx H1=>∃u,x=.str u/\u.length<=1048576/\Q (.str (adT u y z)) H1):=by
 intro χ s σ H Q I h;refine wpAny_Call_method_late c8 iV c7 rfl (bz (ho χ s σ H _ I h) λv s1 hx=>?_);let {Y,x,H1,I1,r1,u,rfl,hu,q}:=hx;let {t,rfl}:=r1;refine{"str","str.replace",PySem.F.plainAttrs_str,PySem.F.slot_str_replace,PySem.F.type_str_replace,typeIs_str _ _ _,(λa e=>nomatch e),?_};refine adJ rfl (adV (acX (aee (k:=O) (pos:=p1) (acX (aee (k:=L) (pos:=p2) (aes ?_))))));exact SC.replaceW (u:=s1.toks) (v:=s1.toks+1) (acp Y) (Nat.succ_ne_zero _) (aaN (aeF _)) Vl hu hz λt' k=>{.str (adT u y z),H1,I1.tok _,{(t'),rfl},q}
def eK (c:Nat):Str:={#[c]}
def bS (cs:List Nat):Str:={(cs.toArray)}
theorem Ae:∀(cs:List Nat) (acc:Array Nat),(cs.map eK).foldl (λacc p=>acc++(#[]:Array Nat)++p.cps) acc=acc++cs.toArray
 |[],acc=>by simp
 |c::cs,acc=>by
  rw[aa8,abZ,Ae cs];simp[eK]
def FE (cs:List Nat):Builtin.Str.glued {#[]} (cs.map eK)=bS cs:=by
 unfold Builtin.Str.glued bS;cases cs with
 |nil=>rfl
 |cons c cs =>
  show ({((cs.map eK).foldl (λacc p=>acc++(#[]:Array Nat)++p.cps) (eK c).cps)}:Str)=_;rw[Ae];simp[eK]
theorem rm:∀{xs:List Str} {us:List aam},Vals (xs.map V.str) us->∃l:List (Str×Tok),us=strValues l/\l.map (·.1)=xs
 |[],_,h=>by cases h;exact{[],rfl,rfl}
 |x::xs,_,h=>by
  cases h with
  |cons O L =>
   let {t,rfl}:=O;let {l,rfl,rfl}:=rm L;exact{(x,t)::l,rfl,rfl}
theorem zR:∀(xs:List Str) (n:Nat),(∀x∈xs,x.length=1)->xs.foldl (λa x=>a+x.length+({#[]}:Str).length) n=n+xs.length
 |[],_,_=>rfl
 |x::xs,n,h=>by
  rw[abZ,zR xs _ λy L=>h y (aaL _ L),h x aaO,aaS];show n+1+0+xs.length=_;lia
def Jc:Yt X "str.join" (λx xs H Q=>∃a cs,x=.str {#[]}/\xs=[.ref a]/\dw X.K H a (cs.map λc=>V.str (eK c))/\cs.length<=1000/\Q (.str (bS cs)) H):=by
 intro χ s σ H x xs v us Q I O Y h;let {a,cs,rfl,rfl,hl,hc,q}:=h;let {t,rfl}:=O;let {u,rfl,ru}:=vals1 Y;cases ru;let {its,r,ht,hz}:=I.list hl;rw[show (cs.map λc=>V.str (eK c))=(cs.map eK).map V.str by rw[abH];rfl]at r
 let {l,rfl,el}:=rm r;have hlen:l.length=cs.length:=by have:=Μ List.length el;rwa [aan,aan]at this
 have V6:Builtin.Str.tooLong ((l.map (·.1)).toArray.foldl (·+·.length+({#[]}:Str).length) 0)=η:=by
  rw[el,List.foldl_toArray,zR _ _ (λx hx=>by let {c,_x,rfl}:=abe.mp hx;rfl),aan]
  exact Φ (by rw[aa7];lia)
 refine call_meets PySem.F.slot_str_join (typeIs_str _ _ _) PySem.F.entry_str_join (PySem.F.args_str_join_2 _ _) (meets_str_join_list {#[]} t a l V6) {ht.isList,?_};have eg:Builtin.Str.glued {#[]} (l.map (·.1))=bS cs:=by rw[el];exact FE cs
 have yA:(bS cs).length<=aaC:=by
  show cs.toArray.size<=_;rw[aaH,aa7];lia
 have fin:∀L,EP X χ σ Q (.str (bS cs) L) {s with toks:=s.toks+1}:=λL=>{.str (bS cs),H,I.tok _,{(L),rfl},q}
 cases l with
 |nil =>
  refine{by rw[eg];exact yA,?_}
  rw[eg];exact fin _
 |cons p l =>
  cases l with
  |nil =>
   have e1:p.1=bS cs:=by
    cases cs with
    |nil=>cases el
    |cons c cs =>
     cases cs with
     |nil=>exact(List.cons.inj el).1
     |cons _ _=>cases (List.cons.inj el).2
   show EP X χ σ Q (.str p.1 p.2) s;rw[e1];exact{.str (bS cs),H,I,{_,rfl},q}
  |cons p2 l =>
   refine{by rw[eg];exact yA,?_}
   rw[eg];exact fin _
end
end L2
namespace L2.Q
open PySem PySem.Spec PySem.SeqAt PyProof.Rows
theorem Gr:("(" : Str)=eK 40:=by decide +kernel
theorem Gq:(")" : Str)=eK 41:=by decide +kernel
def Kh:("." : Str)=eK 46:=by decide +kernel
def PL:("" : Str)={#[]}:=by decide +kernel
def E3 {C:Cfg}{H:Hp}:KV P w C Z own H .own (.str x) (.str x):={[],{(rfl),rfl},abg,λc hc=>(nomatch hc)}
theorem rF {W:μ->Prop}{H:Hp}{f:Nat->Str}:∀{cs:List Nat} {vs:List V},aj P w W H (cs.map λc=>D.str (f c)) vs->vs=cs.map λc=>V.str (f c)
 |[],_,h=>h
 |c::cs,_,mx=>by let {v,r,e,O,L}:=mx;rw[e,rF L,show v=V.str (f c) from O];rfl
section
variable {φa:aM}{p':Bool}{p1 p3 p4:Pos}{j1 j2:Nat}
def Qs (φ:aM):aM:=λβ R=>φ β λd _ L=>∃cs,d=.lst (cs.map λc=>D.str (eK c))/\cs.length<=1000/\R (.str (bS cs)) .own L
def Ij (he:PQ X C p e φ)(c8:aco (.Constant (.str "") j p1) "join" .f (eval (.Constant (.str "") j p1) .f)=eval (.Constant (.str "") j p1) .f:=by rfl)
  (iV:((abN cpos (aaz [e] .f)).all (λx=>!x.1)&&(ad9 cpos (ada [] .f)).all (λx=>x.1.isSome)&&decide ([e].length+([]:List acO).length+.az<30))=G:=by rfl)
  (c7:(apos.endLine==cpos.line)=G:=by rfl) (hs:aaz [e] .f=.aE::aaz [] .f:=by rfl) (hpl:(abN cpos (aaz [] .f)).any (·.1)=η:=by rfl) :
  PQ X C p (.Call (.Attribute (.Constant (.str "") j p1) "join" apos) [e] [] cpos) (Qs φ) :=
 ⟨λβ R R' k h=>he.mono β _ _ (λd kd L h=>by let {cs,h1,h2,q}:=h;exact{cs,h1,h2,k _ _ _ q}) h,
  (zI (apos:=apos) (cpos:=cpos) PySem.F.plainAttrs_str PySem.F.slot_str_join PySem.F.type_str_join Jc DY (b6 he.pe f_ hs) c8 iV c7 hs hpl).pre λσ H Q cO=>by
  let {β,own,s,h}:=cO;exact⟨rfl,tQ.of he s h λd k L v H1 aw Y o1 O=>by
   let {cs,rfl,hc,q}:=Y;let {b,us,rfl,Zx,_x,rb}:=O.rep;rw[rF rb]at Zx;exact{b,cs,by rw[PL],rfl,dw.of Zx,hc,q _ _ aw o1 E3}⟩⟩
def UP (i:Int)(φa:aM):aM:=λβ R=>φa β λO _ L=>∃n,qD O (.int i)=M (.int n)/\R (.int n) .own L
def Qm (ro:Bool)(F:FD)(i:Int)(y z:Str)(φa:aM)(φs:bf):aM:=λβ R=>UP i φa β λY _ O=>φs O λds _ L=>F (Y::ds) λd=>∃u,d=.str u/\u.length<=1048576/\R (.str (adT u y z)) .own L
def Ii {i:Int}(mF:cH F)(L:aG X.prog X.w X.K X.mg X.base bP k f fd ps (dz X.prog X.w ro F))(hr:ck k X.A)(hm:X.mg x=M (.ref f))(hk:Β X.K (.ref f)=G)(hb:Binds X.K fd ps [])
  (ha:PQ X C p a φa) (RM:nh X C p' es φs) (Vl:(y==z)=η) (hz:z.length<=14) (Xy:jz (.Constant (.int i) j p3):=by exact λ_ _=>rfl) (hg:Gl X x:=by rfl) (hdb:.ai=η:=by decide)
  (iy:aaz (.Subscript a (.Constant (.int i) j p3) pos::es) .f=(η,eval (.Subscript a (.Constant (.int i) j p3) pos) .f)::aaz es .f:=by rfl) (hpl:(abN pp (aaz es .f)).any (·.1)=η:=by rfl)
  (c8:aco (.Call (.Name x p4) (.Subscript a (.Constant (.int i) j p3) pos::es) [] pp) "replace" .f (eval (.Call (.Name x p4) (.Subscript a (.Constant (.int i) j p3) pos::es) [] pp) .f)=eval (.Call (.Name x p4) (.Subscript a (.Constant (.int i) j p3) pos::es) [] pp) .f:=by rfl)
  (iV:((abN cpos (aaz [.Constant (.str y) j1 p1,.Constant (.str z) j2 p2] .f)).all (λx=>!x.1)&&(ad9 cpos (ada [] .f)).all (λx=>x.1.isSome)&&decide ([Expr.Constant (.str y) j1 p1,.Constant (.str z) j2 p2].length+([]:List acO).length+.az<30))=G:=by rfl)
  (c7:(apos.endLine==cpos.line)=G:=by rfl) :
  PQ X C (p&&p') (.Call (.Attribute (.Call (.Name x p4) (.Subscript a (.Constant (.int i) j p3) pos::es) [] pp) "replace" apos) [.Constant (.str y) j1 p1,.Constant (.str z) j2 p2] [] cpos) (Qm ro F i y z φa φs) :=
 ⟨λβ R R' k h=>ha.mono β _ _ (λd kd O h=>by
   let {n,e,q}:=h;exact{n,e,RM.mono O _ _ (λds ks Y q=>mF _ _ _ (λd q=>by let {u,e,hu,q}:=q;exact{u,e,hu,k _ _ _ q}) q) q}) h,
  (Iu (apos:=apos) (cpos:=cpos) (DV L hr hg hm hk hb zK (Iq bj ha.pe Xy) RM.pa hdb iy hpl) Vl hz c8 iV c7).pre λσ H Q lh=>by
  let {β,own,s,h}:=lh;exact tQ.of ha s h λd1 k1 O v1 H1 aw hq o1 r1=>by
   let {n,e,q}:=hq;refine{λ_=>False,d1,.int i,.int n,(λ_ z=>z.elim),aA.aW (λ_ z=>z.elim) r1.rep,rfl,e,λv H2 sm rv _=>?_};cases (show v=V.int n from rv)
   have o2:=o1.same sm;refine oA.of RM o2.sq q λds ks Y vs H3 UX q o3 r3=>?_;show dz X.prog X.w ro F ((V.int n::vs)++[]) H3 _ E0;rw[abR];exact⟨.int n::ds,{V.int n,vs,rfl,rfl,r3.bor},mF _ _ _ (λd q v H' s2 r2=>by
    let {u,rfl,hu,q}:=q;have ev:v=.str u:=by
     cases ro with
     |true=>let {A,h,_x}:=r2;exact h.1
     |false=>exact r2
    exact{u,ev,hu,q _ H' UX ((o2.trans o3).same s2) E3}) q⟩⟩
end
def D.A5:D->Option Str
 |.str x=>M x
 |_=>ξ
def D.kz (h:D.A5 d=M x):d=.str x:=by
 cases d <;> first|(cases h;rfl)|cases h
def wC (a b:D):Option D:=(D.A5 a).bind λx=>(D.A5 b).bind λy=>if x.length+y.length<=1000000 then M (.str (x++y)) else ξ
def qg {a b:List Nat}(h:a.length+b.length<=1000000):wC (.str (bS a)) (.str (bS b))=M (.str (bS (a++b))):=by
 show (if (bS a).length+(bS b).length<=1000000 then M (D.str (bS a++bS b)) else ξ)=_
 rw[ω (show (bS a).length+(bS b).length<=1000000 from h)]
 have:bS a++bS b=bS (a++b):=by
  show ({a.toArray++b.toArray}:Str)={(a++b).toArray};rw[List.append_toArray]
 rw[this]
def eI:bo X (acz .Add) wC:=by
 intro χ s σ H x y v u Q I rx ry h;let {W,d1,d2,d,hd,O,L,e,q}:=h;let {a,h1,e}:=aba.mp e;let {b,h2,e}:=aba.mp e;rw[D.kz h1]at O;rw[D.kz h2]at L;cases (show x=.str a from O)
 cases (show y=.str b from L)
 let {t,rfl}:=rx;let {t2,rfl}:=ry
 by_cases Y:a.length+b.length<=1000000
 ·rw[ω Y]at e;cases e;exact PyProof.Rows.add_str (λt' tk=>{.str (a++b),H,I.tok _,{(t'),rfl},q _ _ .aG rfl}) (by rw[aa7];lia)
 ·rw[Δ Y]at e;cases e
end L2.Q
namespace L2
open PySem PySem.Spec PySem.SeqAt PyProof.Rows
def k_ (x:Str):Prop:=x.cps.all (·<128)=G
def GH (h:k_ x):strIterType x="str_ascii_iterator" := by unfold strIterType;exact ω h
def SJ (x:Str):It:={λi H=>i<x.cps.size,λi H v H'=>∃T c,H T=ξ/\v=.ref T/\x.cps[i]?=M c/\H'=upd H T (.tup [.int i,.str {#[c]}]),λi H=>x.cps.size<=i}
def Yv (x:Str):It:={λi H=>i<x.cps.size,λi H v H'=>H'=H/\∃c,x.cps[i]?=M c/\v=.str {#[c]},λi H=>x.cps.size<=i}
def C6 :
  Turn P w K tg (Yv x) [it] it (λi h=>h.IsStrIter it "str_ascii_iterator" x t i) where
 mem:=by simp
 obj:=λi h st b O=>by
  have e:b=it:=by simpa using O
  subst e;let {o,e,c,d}:=st;exact{o,e,λv z=>by rw[d]at z;cases z}
 keep:=λi h h' st k=>let ⟨o,ho,r⟩:=st;{o,k it .c o ho,r}
 item:=by
  intro X hP hw hK hc i χ s σ H E I Y st L;subst hP hw hK;let {f0,f1,f2,f3,f4,f5}:=Y it .c
  have L:i<x.cps.size:=L;refine wpAny_pyNext_ascii_item st (c:=x.cps[i]) (by simp[L]) λh' aI sb=>?_
  have I1:Inv X χ σ H {s with heap:=h',toks:=s.toks+1}:=I.turned (t':=s.toks+1) (λb o O e=>(sb.2 b O).trans e) f0 f1 f3 f4 f5
  let {o,e,c,dd}:=id aI;exact{_,rfl,Ad (s:={s with heap:=h',toks:=s.toks+1}) e c dd .b {.str {#[x.cps[i]]},H,I1,{_,rfl},{rfl,_,by simp[L],rfl},aI,λb O=>(Y b O).1}}
 done:=by
  intro X hP hw hK hc i χ s σ H E I Y st L;subst hP hw hK;let {f0,f1,f2,f3,f4,f5}:=Y it .c
  have L:x.cps.size<=i:=L;exact wpAny_pyNext_ascii_end (I.ok.hd hc) st (by simp[L]) λh' eb=>{rfl,I.turned (t':=s.toks) (λb o O e=>eb b o O e) f0 f1 f3 f4 f5}
 self:=λ_ _ _ _ _ st h=>wpAny_pyIter_striter_ascii st h
def xr {P:aas}{w:aaG}{K:Ψ}{elts:List Expr}{kk:Nat}{pos:Pos}{e it:μ}{x:Str}{t:Tok}(ne:e≠it):
  Turn P w K (.Tuple elts kk pos) (SJ x) [e,it] e (λk h=>k<=x.cps.size/\(∃old,IsEnum h e it (k:Int) old)/\h.IsStrIter it "str_ascii_iterator" x t k) where
 mem:=by simp
 obj:=λk h lj c hc=>by
  obtain⟨_,⟨old,h1⟩,h2⟩:=lj;simp only[aat,aaQ,or_false]at hc;rcases hc with rfl|rfl
  ·exact{_,h1,λv z=>by cases (show Data.fields _=aeM v from z)}
  ·let {o,a,_x,d}:=h2;exact{o,a,λv z=>by rw[d]at z;cases z}
 keep:=λk h h' cO kp=>by obtain⟨le,⟨old,h1⟩,h2⟩:=cO;exact{le,{old,kp e .c _ h1},let ⟨o,ho,r⟩:=h2;{o,kp it .c o ho,r}}
 item:=by
  intro X hP hw hK hc i χ s σ H E I O st L;subst hP hw hK;obtain⟨le,⟨old,g1⟩,g2⟩:=st;have L:i<x.cps.size:=L;refine wpAny_pyNext_enum_itemD (Draws.strAscii (A:=X.A.in1) (I.ok.hd hc) it x t) g1 g2 L ne (by simpa using ne) λy h' tk hP y1 y2 y3 y4 y5=>?_
  let {c,u,hcx,rfl}:=hP;have I1:=(I.nF (fp:=[e,it]) (x:=.int i) (u:=.int i tk) (y:=.str {#[c]}) (v:=.str {#[c]} u) O (λc o qv q=>y5 c o (λz=>qv (by simp[z])) (λz=>qv (by simp[z])) q) {_,rfl} {_,rfl} y3).tok (tk+1)
  have nT:∀b∈[e,it],upd H .e (.tup [.int i,.str {#[c]}]) b=ξ:=λb Y=>by
   have:b≠.e:=by
    simp only[aat,aaQ,or_false]at Y;rcases Y with rfl|rfl
    ·exact aaN (aaw g1)
    ·let {o,a,_x}:=g2;exact aaN (aaw a)
   rw[au this];exact(O b Y).1
  refine{_,rfl,wpAny_letOwnedTupleGo_enum y1 λh'' z' sb=>?_};have I2:Inv X χ σ (upd H .e (.tup [.int i,.str {#[c]}])) {s with heap:=h'',toks:=tk+1}:=by
   refine I1.gM (fp:=[e]) (λb Y=>?_) λc o qv q=>sb.extBut _ _ (by simpa using qv) q
   have q:b=e:=by simpa using Y
   subst q;exact{nT b .c,(O b .c).2}
  exact{.ref .e,_,I2,rfl,{.e,c,I.bh.fresh (aaq _),rfl,hcx,rfl},{L,{_,z'},y2.extBut sb.extBut (abn ne)},nT}
 done:=by
  intro X hP hw hK hc i χ s σ H E I O st L;subst hP hw hK;obtain⟨le,⟨old,g1⟩,g2⟩:=st;have L:i=x.cps.size:=Nat.le_antisymm le L;subst L;refine wpAny_pyNext_enum_endD (Draws.strAscii (A:=X.A.in1) (I.ok.hd hc) it x t) g1 g2 λh' y=>?_;exact{rfl,I.gM (fp:=[e,it]) O λc o qv q=>y c o (λz=>qv (by simp[z])) q}
 self:=λA i s Q E lh q=>by obtain⟨_,⟨old,h1⟩,_⟩:=lh;exact aem h1 q
end L2
namespace Zp
open PySem PySem.Spec PyProof.Rows
variable {z TI TO i1 i2 l1 l2:μ}{vs us:List aam}{S1 S2:Nat->Heap->Prop}{C1 C2:Heap->Prop}
def BJ {a:μ}{Q:Option Obj->aao->Prop}(h:Q (s.heap.get? a) s):aaD .ab A (loadIfAlive a) Q E s:=λΓ p hΓ=>by
 show Sem.wp _ Γ (.loadIfAlive a .pure) _ _ p s;rw[Sem.wp_loadIfAlive];exact h
abbrev j7 (h:Heap)(z TI TO a:μ)(b:Bool):Prop:=h.get? z=M {cls:=.type "zip",dict:=ξ,data:=.fields #[rawInt a,.bool b,.bool η,.ref TI,.ref TO],slots:=#[]}
def vg {a:μ}{b:Bool}{o:Obj}{Q:Bool->aao->Prop}(hz:j7 s.heap z TI TO a b)(ho:s.heap.get? a=M o)(q:∀h',j7 h' z TI TO a G->ach z s.heap h'->Q η {s with heap:=h'}):
  aaD .ab A (abp (.ref z)) Q E s:=by
 unfold abp;apply aal;apply abU hz rfl (x:=rawInt a) rfl;show aaD _ _ (loadIfAlive ((a:Int).toNat) >>= _) _ _ _;rw[aby];apply aal;apply BJ;rw[ho];show aaD _ _ (field (.ref z) 1 >>= _) _ _ _;apply aal;apply abU hz rfl (x:=.bool b) rfl;cases b with
 |true=>exact aap (q s.heap hz (Heap.SameBut.refl ..))
 |false =>
  show aaD _ _ (setField (.ref z) 1 (.bool G) >>= _) _ _ _;apply aal;exact ab9 hz .c λh' y e=>aap (q h' y e)
def Ei (P:Apart z TI TO i1 i2 l1 l2)(D1:AQ prog w i1 l1 vs S1 C1)(D2:AQ prog w i2 l2 us S2 C2){k:Nat}{x y:aam}{a:μ}{b:Bool}{o:Obj}{Q:Option aam->aao->Prop}(hz:j7 s.heap z TI TO a b)(qz:ack s.heap TI (.ref i1) (.ref i2))(ho:s.heap.get? a=M o)
  (h1:S1 k s.heap) (h2:S2 k s.heap) (c1:C1 s.heap) (c2:C2 s.heap) (hx:vs[k]?=M x) (hy:us[k]?=M y)
  (q:∀h',j7 h' z TI TO a G->S1 (k+1) h'->S2 (k+1) h'->ack h' .e x y->(∀c o,c∉[z,i1,i2]->s.heap.get? c=M o->h'.get? c=M o)->Q (M (.ref .e)) {s with heap:=h'}) :
  aaD .ab A (acv (.ref z)) Q E s:=by
 have hT:s.TypeIs (.ref z) "zip" := {_,hz,rfl};let {nd,o1,o2}:=P;simp only[aaX,aat,aaQ,or_false,not_or,abg,not_false_eq_true,and_true]at nd;obtain⟨⟨T7,Hu,Cy,CN⟩,⟨TITO,TIi1,TIi2⟩,⟨TOi1,TOi2⟩,Y⟩:=nd;have a1:=o1 z (by simp);have b1:=o2 z (by simp);have b3:=o2 i1 .c
 unfold acv;apply aal;apply acn;apply abD (name:=abO "__next__") hT F.slot_zip_next;refine abF F.slot_zip_next hT F.entry_zip_next ?_ (F.args_zip_next_1 _)
 change aaD .ab _ (field (.ref z) 2 >>= _) _ _ _
 apply aal;apply abU hz rfl (x:=.bool η) rfl
 change aaD .ab _ (field (.ref z) 3 >>= _) _ _ _
 apply aal;apply abU hz rfl (x:=.ref TI) rfl;apply aal;apply abT qz rfl
 change aaD .ab _ (abp (.ref z) >>= _) _ _ _
 apply aal;refine vg hz ho λg1 z1 O=>?_;simp only[abQ,if_false];apply aal;rw[<- aef];simp only[ac0,aeb];apply aal;apply aal;refine abl ?_
 change aaD .ab _ (abz (.ref i1) >>= _) _ _ _
 apply aal;refine D1.item _ _ _ k x _ (D1.keep k _ _ h1 (λo e=>O.extBut _ _ (abn Cy) e)) (D1.kept _ _ c1 λo e=>O.extBut _ _ a1 e) hx λg2 s2 e2=>aap (aap ?_);show aaD _ _ _ _ _ _;apply aal;apply aal;refine abl ?_
 change aaD .ab _ (abz (.ref i2) >>= _) _ _ _
 apply aal;have k2:S2 k g2:=D2.keep k _ _ h2 λo e=>e2.extBut _ _ (abn Y) (O.extBut _ _ (abn CN) e);have k3:C2 g2:=D2.kept _ _ c2 λo e=>e2.extBut _ _ b3 (O.extBut _ _ b1 e);refine D2.item _ _ _ k y _ k2 k3 hy λL s3 e3=>aap (aap (aap ?_));apply aal;refine wpAny_newTuple (hsz:=by show (2:Nat)<=aaC;decide) ?_
 have hsz:L.objs.size=.e:=by rw[e3.1,e2.1,O.1]
 have up:∀c o,c∉[z,i1,i2]->s.heap.get? c=M o->L.get? c=M o:=λc o hc e=>by
  simp only[aat,aaQ,or_false,not_or]at hc;let {c1,c3,c4}:=hc;exact e3.extBut _ _ c4 (e2.extBut _ _ c3 (O.extBut _ _ c1 e))
 have z3:j7 L z TI TO a G:=e3.extBut _ _ CN (e2.extBut _ _ Cy z1);have n1:S1 (k+1) L:=D1.keep _ _ _ s2 λo e=>e3.extBut _ _ Y e;refine aap {_,rfl,aap ?_};have t3:ack (L.push {cls:=.type "tuple",data:=.seq #[x,y]}) L.objs.size x y:=aaU _ rfl;rw[hsz]at t3;show Q (M (.ref L.objs.size)) _;rw[hsz];exact q _ (aar _ z3) (D1.keep _ _ _ n1 λo e=>aar _ e) (D2.keep _ _ _ s3 λo e=>aar _ e) t3 λc o hc e=>aar _ (up c o hc e)
def IG (P:Apart z TI TO i1 i2 l1 l2)(D1:AQ prog w i1 l1 vs S1 C1)(D2:AQ prog w i2 l2 us S2 C2)(hh:A.handled=ξ){k:Nat}{a:μ}{b:Bool}{o:Obj}{Q:Option aam->aao->Prop}(hz:j7 s.heap z TI TO a b)(qz:ack s.heap TI (.ref i1) (.ref i2))(ho:s.heap.get? a=M o)
  (h1:S1 k s.heap) (h2:S2 k s.heap) (c1:C1 s.heap) (c2:C2 s.heap) (hx:vs[k]?=ξ\/us[k]?=ξ)
  (q:∀h',.ar->Q ξ {s with heap:=h'}) :
  aaD .ab A (acv (.ref z)) Q E s:=by
 have hT:s.TypeIs (.ref z) "zip" := {_,hz,rfl};let {nd,o1,o2}:=P;simp only[aaX,aat,aaQ,or_false,not_or,abg,not_false_eq_true,and_true]at nd;obtain⟨⟨T7,Hu,Cy,CN⟩,⟨TITO,TIi1,TIi2⟩,⟨TOi1,TOi2⟩,i12⟩:=nd;have a1:=o1 z (by simp);have b1:=o2 z (by simp);have b3:=o2 i1 .c
 have oc:∀{c:μ},c∉[z,TO,i1,i2]->c≠z/\c≠TO/\c≠i1/\c≠i2:=λhc=>by simpa[not_or] using hc
 have Fy:A.in1.handled=ξ:=hh;unfold acv;apply aal;apply acn;apply abD (name:=abO "__next__") hT F.slot_zip_next;refine abF F.slot_zip_next hT F.entry_zip_next ?_ (F.args_zip_next_1 _);have fin:∀(h':Heap) (e:μ),.ar->(∃o,h'.get? e=M o/\o.cls=.type "StopIteration") ->
   aaD .ab A (do if <- isInstance (.ref e) (.type "StopIteration") then pure ξ else throw (.ref e)) Q E {s with heap:=h'}:=λh' e hk lj=>by
  let {o,ho,hc}:=lj;apply aal;refine adO (T:="StopIteration") (b:=G) {(o),ho,hc} isSubtype_stop ?_;exact aap (q h' hk)
 change aaD .ab _ (field (.ref z) 2 >>= _) _ _ _
 apply aal;apply abU hz rfl (x:=.bool η) rfl
 change aaD .ab _ (field (.ref z) 3 >>= _) _ _ _
 apply aal;apply abU hz rfl (x:=.ref TI) rfl;apply aal;apply abT qz rfl
 change aaD .ab _ (abp (.ref z) >>= _) _ _ _
 apply aal;refine vg hz ho λg1 z1 L=>?_;simp only[abQ,if_false];apply aal;rw[<- aef];simp only[ac0,aeb];apply aal;apply aal;refine abl ?_
 change aaD .ab _ (abz (.ref i1) >>= _) _ _ _
 apply aal;have f1:S1 k g1:=D1.keep k _ _ h1 λo e=>L.extBut _ _ (abn Cy) e;have f2:C1 g1:=D1.kept _ _ c1 λo e=>L.extBut _ _ a1 e;cases ex:vs[k]? with
 |none =>
  refine D1.done _ _ _ k _ Fy f1 f2 ex λY e O he=>?_;refine fin Y e (λc o hc x=>?_) he;let {q1,q2,q3,q4}:=oc hc;exact O _ _ q3 (L.extBut _ _ q1 x)
 |some x =>
  have ey:us[k]?=ξ:=hx.resolve_left (by rw[ex];intro z;cases z)
  refine D1.item _ _ _ k x _ f1 f2 ex λY s2 O=>aap (aap ?_);show aaD _ _ _ _ _ _;apply aal;apply aal;refine abl ?_
  change aaD .ab _ (abz (.ref i2) >>= _) _ _ _
  apply aal;have k2:S2 k Y:=D2.keep k _ _ h2 λo e=>O.extBut _ _ (abn i12) (L.extBut _ _ (abn CN) e);have k3:C2 Y:=D2.kept _ _ c2 λo e=>O.extBut _ _ b3 (L.extBut _ _ b1 e);refine D2.done _ _ _ k _ Fy k2 k3 ey λg3 e e3 he=>?_;refine fin g3 e (λc o hc x=>?_) he;let {q1,q2,q3,q4}:=oc hc;exact e3 _ _ q4 (O.extBut _ _ q3 (L.extBut _ _ q1 x))
section
variable {z TI TO i1 i2 l1 l2:μ}{vs us:List aam}{S1 S2:Nat->Heap->Prop}{C1 C2:Heap->Prop}
def ZF (z TI TO i1 i2:μ)(h:Heap):Prop:=(∃a b,aeL h z TI TO .none/\ack h TO a b)\/∃a bb o,j7 h z TI TO a bb/\h.get? a=M o/\o.cls=.type "tuple" /\ a∉[z,TO,i1,i2]
def ZF.obj :ZF z TI TO i1 i2 h->∃Y b,h.get? z=M {cls:=.type "zip",dict:=ξ,data:=.fields #[Y,.bool b,.bool η,.ref TI,.ref TO],slots:=#[]}:=λO=>by
 rcases O with⟨a,b,L,_⟩|⟨a,b,o,L,_⟩
 ·exact{_,_,L}
 ·exact{_,_,L}
def ZF.Q5 (k:∀c o,c≠S->h.get? c=M o->h'.get? c=M o)(nz:z≠S)(nT:TO≠S)(hS:∀o,h.get? S=M o->o.cls≠.type "tuple"):ZF z TI TO i1 i2 h->ZF z TI TO i1 i2 h':=λhq=>by
 rcases hq with⟨a,b,O,L⟩|⟨a,b,o,O,L,Y,h3⟩
 ·exact .inl {a,b,k z _ nz O,k TO _ nT L}
 ·exact .inr {a,b,o,k z _ nz O,k a o (λe=>hS o (by rw[<- e];exact L) Y) L,Y,h3}
def Ht (P:Apart z TI TO i1 i2 l1 l2)(D1:AQ prog w i1 l1 vs S1 C1)(D2:AQ prog w i2 l2 us S2 C2)(hz:ZF z TI TO i1 i2 s.heap)(qz:ack s.heap TI (.ref i1) (.ref i2))(CH:∃o,s.heap.get? TO=M o)
  (h1:S1 k s.heap) (h2:S2 k s.heap) (c1:C1 s.heap) (c2:C2 s.heap) (hx:vs[k]?=M x) (hy:us[k]?=M y)
  (q:∀h',ZF z TI TO i1 i2 h'->(∃o,h'.get? TO=M o)->S1 (k+1) h'->S2 (k+1) h'->ack h' .e x y->.ar->Q (M (.ref .e)) {s with heap:=h'}) :
  aaD .ab A (acv (.ref z)) Q E s:=by
 let {oT,gT}:=CH;have CI:.e∉[z,TO,i1,i2]:=λhm=>by
  let {f0,b,gz}:=hz.obj;let {oa,ga,_x}:=D1.obj k _ h1;let {ob,gb,_x}:=D2.obj k _ h2;simp only[aat,aaQ,or_false]at hm;rcases hm with e|e|e|e
  ·exact Κ (aaw gz) (by rw[e];exact ab7 _)
  ·exact Κ (aaw gT) (by rw[e];exact ab7 _)
  ·exact Κ (aaw ga) (by rw[e];exact ab7 _)
  ·exact Κ (aaw gb) (by rw[e];exact ab7 _)
 rcases hz with⟨a,b,g1,Y⟩|⟨a,b,o,g1,Y,g4,g3⟩
 ·exact uA P D1 D2 g1 qz Y h1 h2 c1 c2 hx hy λh' y1 y2 y3 y4 O L=>q h' (.inr {_,η,_,y1,O,rfl,CI}) {_,y2} y3 y4 O L
 ·refine Ei P D1 D2 g1 qz Y h1 h2 c1 c2 hx hy λh' y1 y3 y4 O L=>q h' (.inr {a,G,o,y1,L a o (λz=>g3 (by simp at z ⊢;rcases z with z|z|z <;> simp[z])) Y,g4,g3}) {oT,L TO oT ?_ gT} y3 y4 O λc o hc e=>L c o (λz=>hc (by simp at z ⊢;rcases z with z|z|z <;> simp[z])) e
  have:=P.nd;simp only[aaX,aat,aaQ,or_false,not_or]at this ⊢
  exact{λe=>this.1.2.1 e.symm,this.2.2.1.1,this.2.2.1.2}
def Ln (P:Apart z TI TO i1 i2 l1 l2)(D1:AQ prog w i1 l1 vs S1 C1)(D2:AQ prog w i2 l2 us S2 C2)(hh:A.handled=ξ)(hz:ZF z TI TO i1 i2 s.heap)(qz:ack s.heap TI (.ref i1) (.ref i2))
  (h1:S1 k s.heap) (h2:S2 k s.heap) (c1:C1 s.heap) (c2:C2 s.heap) (Y:vs[k]?=ξ\/us[k]?=ξ)
  (q:∀h',.ar->Q ξ {s with heap:=h'}):aaD .ab A (acv (.ref z)) Q E s:=by
 rcases hz with⟨a,b,O,L⟩|⟨a,b,o,O,L,g4,g3⟩
 ·exact zb P D1 D2 hh O qz L h1 h2 c1 c2 Y q
 ·exact IG P D1 D2 hh O qz L h1 h2 c1 c2 Y q
def xk:typeLookup (.type "zip") "__len__" = pure ξ:=by rw[typeLookup_type,adM];kernel_rfl
def uy:typeLookup (.type "zip") "__length_hint__" = pure ξ:=by rw[typeLookup_type,adM];kernel_rfl
end
end Zp
namespace L2
open PySem PySem.Spec PySem.SeqAt PyProof.Rows Zp
def Got (H:Hp)(xs ys acc:List V):Prop:=∀(j:Nat) (v:V),acc[j]?=M v->∃T a b,v=.ref T/\xs[j]?=M a/\ys[j]?=M b/\H T=M (.tup [a,b])
def CM {A:abf}(hh:A.handled=ξ){R:Result->aao->Prop}{z TI TO i1 i2 l1 l2 S:μ}{S1 S2:Nat->Heap->Prop}{xs ys:List V}{χ:List (μ×Obj)}{σ:St}{H0:Hp}(Ap:Zp.Apart z TI TO i1 i2 l1 l2)
  (s1:Src X.prog X.w X.K i1 l1 (AF η l1) S1) (s2:Src X.prog X.w X.K i2 l2 (AF η l2) S2) (h1:H0 l1=M (.lst xs)) (h2:H0 l2=M (.lst ys)) (hS0:H0 S=ξ) (hlen:xs.length<=aaC) :
  ∀(r k:Nat) (s:aao) (H:Hp) (acc:List V),min xs.length ys.length=k+r->Inv X χ σ H s->(∀b∈[z,TI,TO,i1,i2],eV X χ H b)->ZF z TI TO i1 i2 s.heap->(∃o,s.heap.get? TO=M o)->ack s.heap TI (.ref i1) (.ref i2)->S1 k s.heap->S2 k s.heap ->
   (∀a o,H0 a=M o->H a=M o)->H S=M (.lst acc)->acc.length=k->Got H xs ys acc ->
   (∀s' H' GN,Inv X χ σ H' s'->(∀a o,H0 a=M o->H' a=M o)->H' S=M (.lst GN)->GN.length=min xs.length ys.length->Got H' xs ys GN->R (.ok (.ret .none)) s') ->
   adg .aa A (.builtin "list.extend.loop" {[.ref S,.ref z,.none],[]}) R s:=by
 have dec:∀{c:μ},c∈[z,TO,i1,i2]->c∈[z,TI,TO,i1,i2]:=λhc=>by simp at hc ⊢;rcases hc with h|h|h|h <;> simp[h]
 have sub:∀{c:μ},c∉[z,TI,TO,i1,i2]->c∉[z,TO,i1,i2]:=λhc q=>hc (dec q);have Fy:A.in1.handled=ξ:=hh;intro r
 induction r with
 |zero =>
  intro k s H acc ek I hf hz CH qz g1 g2 sm L ha hG fin;let {vs,C1,r1,D1,k1}:=s1.at X χ σ H s xs rfl rfl rfl I (sm _ _ h1);let {us,C2,r2,D2,k2}:=s2.at X χ σ H s ys rfl rfl rfl I (sm _ _ h2);have ex:xs[k]?=ξ\/ys[k]?=ξ:=by
   by_cases h:xs.length<=k
   ·exact .inl (abq h)
   ·exact .inr (abq .a)
  refine acw F.entry_extend_loop ?_;rw[acr F.plain_extend_loop _];show aaD _ _ (acv (.ref z) >>= _) _ _ s;refine aal (Ln Ap D1 D2 Fy hz qz g1 g2 k1 k2 (ex.imp (λq=>r1.none_of q) λq=>r2.none_of q) λh' kp=>aap ?_);exact fin _ H acc (I.gM (fp:=[z,TI,TO,i1,i2]) hf λc o hc e=>kp c o (sub hc) e) sm L .a hG
 |succ r ih =>
  intro k s H acc ek I hf hz CH qz g1 g2 sm L ha hG fin;let {vs,C1,r1,D1,k1}:=s1.at X χ σ H s xs rfl rfl rfl I (sm _ _ h1);let {us,C2,r2,D2,k2}:=s2.at X χ σ H s ys rfl rfl rfl I (sm _ _ h2);obtain⟨x,ex⟩:∃x,xs[k]?=M x:={xs[k]' .a,aav .a}
  obtain⟨y,ey⟩:∃y,ys[k]?=M y:={ys[k]' .a,aav .a}
  let {u,eu,ru}:=r1.get ex;let {v,ev,rv}:=r2.get ey;refine acw F.entry_extend_loop ?_;rw[acr F.plain_extend_loop _];show aaD _ _ (acv (.ref z) >>= _) _ _ s;refine aal (Ht Ap D1 D2 hz qz CH g1 g2 k1 k2 eu ev λh' y1 y2 y3 y4 y5 y6=>?_);have hT:H .e=ξ:=I.bh.fresh (aaq _);have I1:=I.nF (fp:=[z,TI,TO,i1,i2]) hf (λc o hc e=>y6 c o (sub hc) e) ru rv y5;have Y4:S≠.e:=λe=>by rw[e,hT]at L;cases L
  have Zz:upd H .e (.tup [x,y]) S=M (.lst acc):=by rw[au Y4];exact L
  let {zz,its,n,rI,hl,e}:=I1.yc Zz;have hk:acc.length<aaC:=by lia
  show aaD _ _ (updateSeq S (·.push (Ω .e)) >>= _) _ _ _;refine aal ?_;refine acY e rfl (aap {ac3 F.plain_extend_loop _,?_}) (by rw[aaH];lia) (by show (its.toArray.push _).size<=aaC+1;rw[Array.size_push,aaH];lia)
  have I2:=I1.Jd (t':=s.toks) (f:=(·.push (.ref .e))) (its':=its++[.ref .e]) (ys:=acc++[.ref .e]) Zz e .c (rI.append (.cons (show RelV (.ref .e) (.ref .e) from rfl) .nil)) (by rw[aax,abd];lia)
  have CI:∀{c:μ} {o:Obj},s.heap.get? c=M o->c≠.e:=λe=>aaN (aaw e);have Pj:∀b∈[z,TI,TO,i1,i2],b≠S/\b≠.e:=λb O=>by
   refine{(λe=>by have:=(hf b O).1;rw[e,L]at this;cases this),?_}
   simp only[aat,aaQ,or_false]at O;rcases O with rfl|rfl|rfl|rfl|rfl
   ·let {Y,Y,g}:=hz.obj;exact CI g
   ·exact CI qz
   ·let {Y,g}:=CH;exact CI g
   ·let {Y,g,Y}:=D1.obj k _ g1;exact CI g
   ·let {Y,g,Y}:=D2.obj k _ g2;exact CI g
  have kp:∀c o,c≠S->h'.get? c=M o->(h'.update S (abL (·.push (Ω .e)))).get? c=M o:=λc o hc e=>(ab0 _ _ (abn hc)).trans e;have kf:∀c∈[z,TI,TO,i1,i2],∀o,h'.get? c=M o->(h'.update S (abL (·.push (Ω .e)))).get? c=M o:=λc hc o e=>kp c o (Pj c hc).1 e;have XX:ack h' TI (.ref i1) (.ref i2):=y6 TI _ (by
   have:=Ap.nd;simp only[aaX,aat,aaQ,or_false,not_or]at this ⊢
   obtain⟨⟨q1,_⟩,⟨q2,q3,q4⟩,_⟩:=this;exact{abn q1,q2,q3,q4}) qz
  refine ih (k+1) _ _ (acc++[.ref .e]) .a I2 (λb O=>?_) (y1.Q5 (S:=S) (λc o hc e=>kp c o hc e) (Pj z .c).1 (Pj TO .c).1 ?_) ?_ (kf TI .c _ XX) (s1.keep _ _ _ y3 λo e=>kf i1 .c o e) (s2.keep _ _ _ y4 λo e=>kf i2 .c o e) (λa o e=>?_) az (by simp[ha]) ?_ fin
  ·let {f0,f1}:=hf b O;let {n1,n2}:=Pj b O;exact{by rw[au n1,au n2];exact f0,f1}
  ·intro o' eo q;rw[e]at eo;cases eo;simp at q
  ·let {o',g}:=y2;exact{o',kf TO .c o' g}
  ·have na:a≠S:=λz=>by rw[z,hS0]at e;cases e
   have nb:a≠.e:=λz=>by have:=sm a o e;rw[z,hT]at this;cases this
   rw[au na,au nb];exact sm a o e
  ·intro j v ej;have st:∀{T:μ} {a b:V},H T=M (.tup [a,b])->upd (upd H .e (.tup [x,y])) S (.lst (acc++[.ref .e])) T=M (.tup [a,b]):=λ{T a b} q=>by
    rw[au (λz=>by rw[z,L]at q;cases q),au (λz=>by rw[z,hT]at q;cases q)]
    exact q
   by_cases hj:j<acc.length
   ·rw[abE hj]at ej;let {T,a,b,q1,q2,q3,q4}:=hG j v ej;exact{T,a,b,q1,q2,q3,st q4}
   ·have hj2:j=k:=by
     have:=(aay.mp ej).1;rw[aax,abd]at this;lia
    subst hj2;rw[abi .a,ha,adF]at ej
    cases ej;exact{_,x,y,rfl,ex,ey,by rw[au (abn Y4)];exact az}
def EO {A:abf}(hh:A.handled=ξ){E:aam->aao->Prop}{Q:aam->aao->Prop}{z TI TO i1 i2 l1 l2:μ}{S1 S2:Nat->Heap->Prop}{xs ys:List V}{χ:List (μ×Obj)}{σ:St}{H:Hp}{s:aao}(Ap:Zp.Apart z TI TO i1 i2 l1 l2)
  (s1:Src X.prog X.w X.K i1 l1 (AF η l1) S1) (s2:Src X.prog X.w X.K i2 l2 (AF η l2) S2) (h1:H l1=M (.lst xs)) (h2:H l2=M (.lst ys)) (hlen:xs.length<=aaC) (I:Inv X χ σ H s) (hf:∀b∈[z,TI,TO,i1,i2],eV X χ H b)
  (hz:aeL s.heap z TI TO .none) (CH:∃a b,ack s.heap TO a b) (qz:ack s.heap TI (.ref i1) (.ref i2)) (g1:S1 0 s.heap) (g2:S2 0 s.heap)
  (fin:∀s' H' acc S,Inv X χ σ H' s'->H S=ξ->(∀a o,H a=M o->H' a=M o)->H' S=M (.lst acc)->acc.length=min xs.length ys.length->Got H' xs ys acc->Q (.ref S) s') :
  aaD .aa A (call (.type "list") [.ref z]) Q E s:=by
 refine callType_codes (Q₁:=λobj s₁=>obj=.ref .e/\s₁={s with heap:=s.heap.push {cls:=.type "list",data:=.seq #[]}}) PySem.F.called_list (PySem.F.typeCall_list_1 _) PySem.F.entry_list_init (code_list_new _ {(rfl),rfl}) λobj s₁ hq=>?_
 let {rfl,rfl}:=hq;have Y:(s.heap.push {cls:=.type "list",data:=.seq #[]}).get? .e=M {cls:=.type "list",data:=.seq #[]}:=aaU _ rfl;refine{{_,Y,rfl},PySem.F.args_list_init_2 _ _,?_};show aaD _ _ (do let old <- Builtin.List.listItems (.ref .e);Builtin.List.listUpdate (.ref .e) (λ_=>#[]);letGo old.toList.reverse;ad6 (.ref .e) (.ref z) .none) _ _ _
 refine aal ?_;unfold Builtin.List.listItems;refine aal (abT Y rfl (aap ?_));show aaD _ _ (updateSeq .e (λ_=>#[]) >>= λ_=>letGo (#[]:Array aam).toList.reverse >>= λ_=>ad6 (.ref .e) (.ref z) .none) _ _ _;refine aal (acY Y rfl (aal (ac_ ?_)));have oa:=ab5 (abL (λ_=>(#[]:Array aam))) Y rfl;have k1:∀b o,s.heap.get? b=M o->((s.heap.push {cls:=.type "list",data:=.seq #[]}).update .e (abL (λ_=>(#[]:Array aam)))).get? b=M o:=λb o e =>
  (ab0 _ _ (acp (aaw e))).trans (aar _ e)
 generalize (s.heap.push {cls:=.type "list",data:=.seq #[]}).update .e (abL (λ_=>(#[]:Array aam)))=ha at oa k1 ⊢
 have zT:({s with heap:=ha}:aao).TypeIs (.ref z) "zip" := {_,k1 _ _ hz,rfl}
 have nz:.e≠z:=acp (aaw hz);unfold ad6;refine aal (wpAny_typeOf zT ?_);have q1:Builtin.List.listSameRef (.ref .e) (.ref z)=η:=by simp[Builtin.List.listSameRef,nz]
 have q2:(ad_ "zip" == ad_ "list")=η:=by decide
 have q3:(ad_ "zip" == ad_ "tuple")=η:=by decide
 simp only[q1,q2,q3,Bool.or_false,abQ,if_false];refine aal (wpAny_pyIter_zip (k1 _ _ hz) ?_);refine aal (abl ?_);unfold ad5;refine aal (wpAny_specialOf zT xk ?_);show aaD _ _ (specialOf (Ω z) (abO "__length_hint__") >>= _) _ _ _;refine aal (wpAny_specialOf zT uy (aap ?_));show aaD _ _ (rule "list.extend.makes-room" >>= λ_=>Builtin.List.listTouch (.ref .e) >>= λ_=>again (.builtin "list.extend.loop" {[.ref .e,.ref z,.none],[]})) _ _ _;refine aal (acK (aal ?_));show aaD _ _ (updateSeq .e (·.push .none) >>= λ_=>updateSeq .e (·.pop)) _ _ _;refine aal (acY oa rfl ?_);have ob:=ab5 (abL (·.push Value.none)) oa rfl;refine acY (hz:=by seq_fits) ob rfl ?_
 have oc:=ab5 (abL (·.pop)) ob rfl;have k2:∀b o,s.heap.get? b=M o->((ha.update .e (abL (·.push Value.none))).update .e (abL (·.pop))).get? b=M o:=λb o e =>
  (ab0 _ _ (acp (aaw e))).trans ((ab0 _ _ (acp (aaw e))).trans (k1 b o e))
 generalize (ha.update .e (abL (·.push Value.none))).update .e (abL (·.pop))=L at oc k2 ⊢
 have hS:H .e=ξ:=I.bh.fresh (aaq _);have I2:Inv X χ σ (upd H .e (.lst [])) {s with heap:=L}:=I.laid (t':=s.toks) k2 (aaq _) (show bY X.prog X.w _ L _ (.lst []) from {aaJ _,[],_,.nil,oc})
 have Pj:∀b∈[z,TI,TO,i1,i2],b≠.e:=λb L=>by
  simp only[aat,aaQ,or_false]at L;rcases L with rfl|rfl|rfl|rfl|rfl
  ·exact aaN (aaw hz)
  ·exact aaN (aaw qz)
  ·let {O,O,g}:=CH;exact aaN (aaw g)
  ·let {O,g,O}:=s1.obj 0 _ g1;exact aaN (aaw g)
  ·let {O,g,O}:=s2.obj 0 _ g2;exact aaN (aaw g)
 let {ta,tb,gT}:=CH;refine aap ⟨ac3 PySem.F.plain_extend_loop _,CM (A:=A.in1) (H0:=H) hh Ap s1 s2 h1 h2 hS hlen (min xs.length ys.length) 0 _ _ [] .a I2 (λb L=>?_) (.inl {ta,tb,k2 _ _ hz,k2 _ _ gT}) {_,k2 _ _ gT} (k2 _ _ qz) (s1.keep _ _ _ g1 λo e=>k2 _ o e) (s2.keep _ _ _ g2 λo e=>k2 _ o e)
  (λa o e=>by rw[au (λz=>by rw[z,hS]at e;cases e)];exact e) az rfl (λj v e=>by simp at e) λs' H' GN I' sm Ts hl hG=>{rfl,fin s' H' GN _ I' hS sm Ts hl hG}⟩
 let {f0,f1}:=hf b L;exact{by rw[au (Pj b L)];exact f0,f1}
def uz {σ:St}(L:Inv X χ σ H1 s1)(rv:Vals [.ref l1,.ref l2] us)(g1:H1 l1=M (.lst xs))(g2:H1 l2=M (.lst ys))
  (q:∀h' z TI TO i1 i2,Zp.Apart z TI TO i1 i2 l1 l2->aeL h' z TI TO .none->ack h' TI (.ref i1) (.ref i2)->ack h' TO .none .none->h'.IsListIter i1 l1 0->h'.IsListIter i2 l2 0->Inv X χ σ H1 {s1 with heap:=h'}->(∀b∈[z,TI,TO,i1,i2],eV X χ H1 b)->Q (.ref z) {s1 with heap:=h'}) :
  aaD .aa A (call (.type "zip") us) Q E s1:=by
 obtain⟨Y,O,rfl,e1,e2⟩:∃Y O,us=[Y,O]/\RelV (.ref l1) Y/\RelV (.ref l2) O:=by
  cases rv with
  |cons a rr=>cases rr with
   |cons b rr=>cases rr;exact{_,_,rfl,a,b}
 cases e1;cases e2;have U8:l1<s1.heap.objs.size:=L.bh.lt g1;have U7:l2<s1.heap.objs.size:=L.bh.lt g2;let {aae,_x,p1,_x}:=L.list (dw.of g1);let {Jj,_x,p2,_x}:=L.list (dw.of g2);refine call_zip_2 p1.isList p2.isList λh' y1 y2 y3 y4 y5 y6 y7=>?_;have I2:Inv X χ σ H1 {s1 with heap:=h'}:=L.kept (t':=s1.toks) y7
 refine q h' _ _ _ _ _ ?_ y1 y2 y3 y4 y5 I2 λb hb=>?_
 ·generalize s1.heap.objs.size=n at U8 U7
  change (l1:Nat)<n at U8
  change (l2:Nat)<n at U7
  refine{?_,λc hc=>?_,λc hc=>?_}
  ·have q:∀(i j:Nat),i≠j->(n+i:Nat)≠n+j:=λi j h z=>h (Nat.add_left_cancel z);simp only[aaX,aat,aaQ,or_false,not_or,abg,not_false_eq_true,and_true];exact{{q 4 2 .b,q 4 3 .b,q 4 0 .b,q 4 1 .b},{q 2 3 .b,q 2 0 .b,q 2 1 .b},{q 3 0 .b,q 3 1 .b},q 0 1 .b}
  ·simp only[aat,aaQ,or_false]at hc;rcases hc with rfl|rfl|rfl|rfl <;> exact aaN (aaV U8 (by first|exact adh _ _|exact aaq _))
  ·simp only[aat,aaQ,or_false]at hc;rcases hc with rfl|rfl|rfl|rfl <;> exact aaN (aaV U7 (by first|exact adh _ _|exact aaq _))
 ·have lq:s1.heap.objs.size<=b:=by
   simp only[aat,aaQ,or_false]at hb;rcases hb with rfl|rfl|rfl|rfl|rfl <;> first|exact adh _ _|exact aaq _
  exact L.t_ lq (L.bh.fresh lq)
theorem vJ {H':Hp}:∀{ds es:List D} {xs ys acc:List V},jO X W H' ds xs->jO X W H' es ys->Got H' xs ys acc->acc.length=min xs.length ys.length->jO X W H' (gh ds es) acc
 |[],es,xs,ys,acc,Y,O,hG,L=>by
  cases Y;cases acc with
  |nil=>rfl
  |cons a l=>simp at L
 |d::ds,[],xs,ys,acc,Y,O,hG,L=>by
  cases O;cases acc with
  |nil=>rfl
  |cons a l=>simp at L
 |d::ds,e::es,xs,ys,acc,Y,O,hG,L=>by
  let {x,CO,rfl,rx,Y}:=Y;let {y,YD,rfl,ry,O}:=O;cases acc with
  |nil=>simp at L
  |cons v acc =>
   let {T,a,b,e1,e2,e3,e4}:=hG 0 v rfl;cases e2;cases e3;refine{v,acc,rfl,{T,[x,y],e1,e4,x,[y],rfl,rx,y,[],rfl,ry,rfl},vJ Y O (λj u ej=>hG (j+1) u (by simpa using ej)) (by simp at L;lia)}
namespace Q
section
variable {DR:Pos}{elts:List Expr}{kk:Nat}{C7:Pos}
def Q9 (φs:bf):cT:=λβ R=>φs β λl ks L=>∃as bs,l=[.lst as,.lst bs]/\R (gh as bs) (gB ks) L
def zA (hm:X.mg "zip" = ξ)(O:nh X C p [a,b] φs)(hg:Gl X "zip" := by rfl)(hs:aaz [a,b] .f=(η,eval a .f)::aaz [b] .f:=by rfl)(vD:(abN pos (aaz [b] .f)).any (·.1)=η:=by rfl) :
  xi X C p (.Tuple elts kk C7) (.Call (.Name "zip" pp) [a,b] [] pos) (Q9 φs):=by
 refine{λβ R R' k q=>O.mono β _ _ (λl ks β1 lj=>by let {as,bs,e,q}:=lj;exact{as,bs,e,k _ _ _ q}) q,λχ s σ H R I h=>?_}
 let {β,own,sq,h}:=h;refine Call_ (eS I hg hm GA (abB (bz (O.pa pos χ s σ H _ I (oA.of O sq h λds ks β' vs H1 aw h o1 L=>({(ds),ks,β',aw,h,o1,L.jE}:∃ds ks β' aw,(∃as bs,ds=[.lst as,.lst bs]/\∀J H' aZ,Out X C σ H own p β' H' aZ->uo X (av C (Wn aZ) (gB ks)) J (gh as bs) H'->R J H')/\Out X C σ H own p β' H1 aw/\aj X.prog X.w (av C (Wn aw) (gB ks)) H1 ds vs)))
  λus s1 ⟨vs,H1,I1,rv,h⟩=>?_) hs vD))
 obtain⟨ds,ks,β',aw,⟨as,bs,rfl,q⟩,o1,L⟩:=h;obtain⟨x,y,rfl,⟨l1,xs,rfl,g1,n1,w1⟩,⟨l2,ys,rfl,g2,n2,w2⟩⟩:=wR L;refine uz I1 rv g1 g2 λh' z TI TO i1 i2 Ap Y y2 y3 y4 y5 I2 fp=>?_;refine wpAny_pyIter_zip Y {_,_,_,_,H1,rfl,I2,C5 Ap src_list src_list,{Y,y2,{_,_,y3},y4,y5},fp,?_};exact q _ _ aw o1 (Jk η g1 g2 (λ_=>n1) (λ_=>n2) w1 w2)
def K8:List D->Option D
 |[d,e]=>d.yd.bind λas=>e.yd.bind λbs=>M (.lst (gh as bs))
 |_=>ξ
def F5 {ds:List D}(h:K8 ds=M d):∃as bs,ds=[.lst as,.lst bs]/\d=.lst (gh as bs):=by
 cases ds with
 |nil=>cases h
 |cons x r =>
  cases r with
  |nil=>cases h
  |cons y r =>
   cases r with
   |cons _ _=>cases h
   |nil =>
    let {as,h1,Y}:=aba.mp h;let {bs,O,L}:=aba.mp Y;cases L;exact{as,bs,by rw[D.kY h1,D.kY O],rfl}
def xW (hc:X.calm=G)(Xl:X.mg "list" = ξ)(hm:X.mg "zip" = ξ)(L:nh X C p [a,b] φs)(XH:Gl X "list" := by rfl)(hg:Gl X "zip" := by rfl)(hs:aaz [a,b] .f=(η,eval a .f)::aaz [b] .f:=by rfl)(vD:(abN DR (aaz [b] .f)).any (·.1)=η:=by rfl)
  (he:aaz [Expr.Call (.Name "zip" p2) [a,b] [] DR] .f=[(η,eval (Expr.Call (.Name "zip" p2) [a,b] [] DR) .f)]:=by rfl) :
  PQ X C p (.Call (.Name "list" pp) [.Call (.Name "zip" p2) [a,b] [] DR] [] pos) (ie K8 NL φs):=by
 refine{ie.mono L,λχ s σ H Q I h=>?_};have h:=kK aC L σ H Q h;refine ab_ (eS I XH Xl n_ ?_);refine abB ?_ he rfl;rw[he];show aaD _ _ (spliced ((η,eval _ .f)::[])) _ _ s;refine acX ?_;refine ab_ (eS I hg hm GA (abB (bz (L.pa DR χ s σ H _ I h) λus s1 hq=>?_) hs vD));let {vs,H1,Y,rv,W,ds,d,hd,r1,e,q}:=hq;let {as,bs,rfl,rfl}:=F5 e;obtain⟨x,y,rfl,⟨l1,xs,rfl,O,n1,w1⟩,⟨l2,ys,rfl,g2,n2,w2⟩⟩:=wR r1;refine uz Y rv O g2 λh' z TI TO i1 i2 Ap y1 y2 y3 y4 y5 I2 fp=>?_;refine aes ?_;let {_x,_x,_x,hz}:=Y.list (dw.of O);refine EO (Y.ok.hd hc) Ap src_list src_list O g2 hz I2 fp y1 {_,_,y3} y2 y4 y5 λs' H' acc S I' hS sm Ts hl hG=>?_;have Ut:ay H1 H':=λa o e=>sm a o e;have rr:aj X.prog X.w W H' (gh as bs) acc:=vJ (w1.same Ut) (w2.same Ut) hG hl;refine{.ref S,H',I',rfl,q _ _ Ut {S,acc,rfl,Ts,λz=>hd S z hS,rr} λf=>{S,acc,rfl,Ts,λz=>z hS,aj.flat f rr}}
end
end Q
end L2
namespace L2.Q
open PySem PySem.Spec PySem.SeqAt PyProof.Rows
def G6 (x:Str):List D:=x.cps.toList.map λc=>.str {#[c]}
def zj (x:Str):(G6 x).length=x.cps.size:=by simp[G6]
def zm (h:(G6 x)[i]?=M d):∃c,x.cps[i]?=M c/\d=.str {#[c]}:=by
 rw[G6,aaB]at h;let {c,e,rfl}:=aaK.mp h;exact{c,by simpa using e,rfl}
section
variable {elts:List Expr}{kk:Nat}{C7:Pos}
def BQ {H:Hp}:uo X W (SJ x) (lF (G6 x)) H:=λW' hW i H' k=>by
 constructor
 ·intro d hd;let {b,hb,rfl}:=jt hd;let {c,ec,rfl}:=zm hb;have hi:i<x.cps.size:=(Array.getElem?_eq_some_iff.mp ec).1;refine{hi,λv H1 gC=>?_};let {T,c',O,e,Y,eH}:=gC;rw[ec]at Y;cases Y;subst e eH;exact{ay.new O,Rp.xt O (.cons rfl (.cons rfl .nil))}
 ·intro L;rw[js,zj]at L;exact L
def Jl {H:Hp}:uo X W (Yv x) (G6 x) H:=λW' Y i H' k=>by
 constructor
 ·intro d hd;let {c,ec,rfl}:=zm hd;have hi:i<x.cps.size:=(Array.getElem?_eq_some_iff.mp ec).1;refine{hi,λv H1 gC=>?_};let {eH,c',O,rfl}:=gC;rw[ec]at O;cases O;subst eH;exact{ay.refl _,rfl}
 ·intro L;rw[zj]at L;exact L
def Jq (φs:bf):cT:=λβ R=>φs β λl ks L=>∃x,l=[.str x]/\k_ x/\R (lF (G6 x)) .old L
def Bo (hm:X.mg "enumerate" = ξ)(O:nh X C p [a] φs)(hg:Gl X "enumerate" := by rfl)(hs:aaz [a] .f=[(η,eval a .f)]:=by rfl) :
  xi X C p (.Tuple elts kk C7) (.Call (.Name "enumerate" pp) [a] [] pos) (Jq φs):=by
 refine{λβ R R' k q=>O.mono β _ _ (λl ks β1 lj=>by let {x,e,ex,q}:=lj;exact{x,e,ex,k _ _ _ q}) q,λχ s σ H R I h=>?_}
 let {β,own,sq,h}:=h;refine Call_ (eS I hg hm AG (abB (bz (O.pa pos χ s σ H _ I (oA.of O sq h λds ks β' vs H1 aw h o1 L=>({(ds),ks,β',aw,h,o1,L.jE}:∃ds ks β' aw,(∃x,ds=[.str x]/\k_ x/\∀J H' aZ,Out X C σ H own p β' H' aZ->uo X (av C (Wn aZ) .old) J (lF (G6 x)) H'->R J H')/\Out X C σ H own p β' H1 aw/\aj X.prog X.w (av C (Wn aw) (gB ks)) H1 ds vs)))
  λus s1 ⟨vs,H1,Y,rv,h⟩=>?_) hs rfl))
 obtain⟨ds,ks,β',aw,⟨x,rfl,ex,q⟩,o1,L⟩:=h;let {y,rfl,ry}:=gH L;cases (show y=.str x from ry)
 let {v1,rfl,e1}:=vals1 rv;let {t,rfl}:=e1;refine call_enumerate_str λh' y1 y2 y3 y4=>aem y1 ?_;have I2:Inv X χ σ H1 {s1 with heap:=h'}:=Y.kept (t':=s1.toks) y4
 rw[GH ex]at y2;refine{_,_,_,_,H1,rfl,I2,xr (Nat.succ_ne_self _),{aaJ _,{_,y1},y2},λb hb=>?_,q _ _ aw o1 BQ};have lq:s1.heap.objs.size<=b:=by
  simp only[aat,aaQ,or_false]at hb;rcases hb with rfl|rfl <;> first|exact adh _ _|exact aaq _
 exact Y.t_ lq (Y.bh.fresh lq)
def Vj (φ:aM):cT:=λβ R=>φ β λd k L=>∃x,d=.str x/\k_ x/\R (G6 x) .old L
def Mk (h:PE X e te):PI X tg e (λσ H R=>te σ H λv H1=>∃x,v=.str x/\k_ x/\R (Yv x) H1):=by
 intro χ s σ H R I q;refine bz (h χ s σ H _ I q) λu s1 h=>?_;let {v,H1,L,rv,x,rfl,ex,q}:=h;let {t,rfl}:=rv;refine wpAny_pyIter_strU ?_;rw[GH ex];refine{s1.heap.objs.size,[s1.heap.objs.size],_,_,H1,rfl,L.kept (t':=s1.toks) λb o e=>aar _ e,C6,{_,aaU _ rfl,rfl,rfl},λb O=>?_,q};have e:b=s1.heap.objs.size:=by simpa using O
 subst e;exact L.t_ (aaq _) (L.bh.fresh (aaq _))
def Ie {φ:aM}(h:PQ X C p e φ):xi X C p tg e (Vj φ) :=
 ⟨λβ R R' k q=>h.mono β _ _ (λd kd β' Fs=>by let {x,e,ex,q}:=Fs;exact{x,e,ex,k _ _ _ q}) q,λχ s σ H R I ⟨β,own,sq,q⟩=>Mk h.pe χ s σ H R I (tQ.of h sq q λd k β' v H1 aw yw o1 L=>by
  let {x,e,ex,O}:=yw;subst e;cases (show v=.str x from L.rep)
  exact{x,rfl,ex,O _ _ aw o1 Jl})⟩
end
end L2.Q
namespace L2
open PySem PySem.Spec PySem.SeqAt PyProof.Rows
def yL:List D->Option (List Bool)
 |[]=>M []
 |.bl b::ds=>(yL ds).map (b::·)
 |_::_=>ξ
theorem AA:∀{ds:List D} {bs:List Bool},yL ds=M bs->ds=bs.map D.bl
 |[],_,h=>by cases h;rfl
 |d::ds,bs,h=>by
  cases d with
  |bl b =>
   let {r,L,rfl}:=aaK.mp (show (yL ds).map (b::·)=M bs from h)
   rw[AA L];rfl
  |_=>cases h
theorem wB:∀bs:List Bool,yL (bs.map D.bl)=M bs
 |[]=>rfl
 |b::bs=>by show (yL (bs.map D.bl)).map (b::·)=_;rw[wB bs];rfl
def OE:List D->Option D
 |[d]=>d.yd.bind λds=>(yL ds).map λbs=>.bl (bs.any id)
 |_=>ξ
def Ke (bs:List Bool):OE [.lst (bs.map D.bl)]=M (.bl (bs.any id)):=by
 show (yL (bs.map D.bl)).map _=_;rw[wB];rfl
theorem uT:∀{bs:List Bool} {vs:List V},aj P w W H (bs.map D.bl) vs->vs=bs.map V.bl
 |[],_,h=>h
 |b::bs,_,mx=>by let {v,r,e,O,L}:=mx;rw[e,show v=.bl b from O,uT L];rfl
theorem uF:∀{bs:List Bool} {us:List aam},Vals (bs.map V.bl) us->us=bs.map Value.bool
 |[],_,.nil=>rfl
 |b::bs,_,.cons r q=>by rw[aa8,<- uF q,show _=Value.bool b from r]
def Co (hc:X.calm=G):bH X (.builtin "any") OE:=by
 intro χ s σ H xs us Q I r h;let {W,ds,d,hd,r1,e,q}:=h
 match ds,e with
 |[x],e =>
  let {es,e1,e2}:=aba.mp (show x.yd.bind _=M d from e)
  let {bs,e3,rfl}:=aaK.mp e2;rw[D.kY e1,AA e3]at r1;let {x,rfl,p,vs,rfl,h1,n1,q1}:=gH r1;let {u,rfl,ru}:=vals1 r;cases ru;rw[uT q1]at h1;let {its,r2,O,hz}:=I.list (dw.of h1);obtain rfl:=uF r2;let {ol,gl,_x}:=id O.isList;have lt:p<.e:=aaw gl;have Wk:=Walks.list (prog:=X.prog) (w:=X.w) (A:=X.A.in1) (I.ok.hd hc) .e p (aaN lt) (bs.map Value.bool).toArray;refine call_any_walk (ael O.isList {.e,_,_,_,_,_,λj=>bs.getD j η,rfl,Wk,{{_,aaU _ rfl,rfl,rfl},O.isList.push _},λj v s' Q' E' Y hq=>?_,λh' tk k=>?_})
  ·have Y:((bs.map Value.bool).toArray)[j]?=M v:=Y;rw[adN,aaB]at Y;let {b,L,rfl}:=aaK.mp Y;have hq:Q' (bs.getD j η) s':=hq;rw[acA,L]at hq;exact ab4 hq
  ·have ea:((aaA (bs.map Value.bool).toArray.size).any λj=>bs.getD j η)=bs.any id:=by
    rw[ac2,aeK,aeK];constructor
    ·rintro⟨j,hj,L⟩;rw[acA]at L;cases hg:bs[j]? with
     |none=>rw[hg]at L;cases L
     |some b=>rw[hg]at L;exact{b,aaY hg,L}
    ·rintro⟨b,L,O⟩;let {j,hj}:=adU L;refine{j,?_,by rw[acA,hj];exact O}
     rw[aa2];have:=(aay.mp hj).1;simpa using this
   rw[ea];exact⟨.bl (bs.any id),H,I.kept (t':=tk) λb o e=>k b o (by
    have:=aaw e;simp only[aaE];exact aaN this) (aar _ e),rfl,q _ _ .aG rfl⟩
namespace Q
end Q
end L2
namespace L2.Q
open PySem PySem.Spec PySem.SeqAt PyProof.Rows
def J5 (a b:Str)(O:(D.str a).oN=G:=by decide +kernel)(L:(D.str b).oN=G:=by decide +kernel):d_ (.str a) (.str b)=M (.bl (!decide (a=b))):=by
 unfold d_;rw[ω {(O),L}];show M (D.bl (!(a==b)))=_;rw[show (a==b)=decide (a=b) from ac2.mpr (by rw[beq_iff_eq,decide_eq_true_iff])]
def Kb (a b:Str)(O:(D.str a).oN=G:=by decide +kernel)(L:(D.str b).oN=G:=by decide +kernel):Gh (.str a) (.str b)=M (.bl (decide (a=b))):=by
 unfold Gh;rw[ω {(O),L}];show M (D.bl (a==b))=_;rw[show (a==b)=decide (a=b) from ac2.mpr (by rw[beq_iff_eq,decide_eq_true_iff])]
def cG:List Nat->Int->List Int->List .ae->Option (List Int×List .ae)
 |[],_,L,fs=>M (L,fs)
 |c::cs,at_,L,fs =>
  if c=40 then cG cs (at_+1) (L++[at_]) fs
  else if c=41/\L≠[] then cG cs (at_+1) L.dropLast (fs++[[L.getLastD 0,at_]])
  else if c≠46 then ξ
  else cG cs (at_+1) L fs
def Hn (cs:List Nat):D :=
 match cG cs 0 [] []with
 |none=>.cI
 |some (L,fs)=>if L=[] then .lst ((jC fs).map kD) else .cI
def Dt (cs:List Nat):G6 (bS cs)=cs.map λc=>D.str (eK c):=by
 show (cs.toArray.toList.map _)=_;rw[List.toList_toArray];rfl
def vC (h:∀c∈cs,c<128):k_ (bS cs):=by
 show (cs.toArray.all λx=>decide (x<128))=G;simpa using h
def xv (a b:Nat):(eK a=eK b)↔a=b:=by
 constructor
 ·intro h;have:(#[a]:Array Nat)=#[b]:=Μ Str.cps h;simpa using this
 ·rintro rfl;rfl
def Dh (h:∀c∈cs,c<128):PyData.strOk (bS cs)=G:=by
 unfold PyData.strOk bS;rw[Array.all_eq_true'];intro x L;have:=h x (List.mem_toArray.mp L);exact Ξ .a
def LU (h:∀c∈cs,c<128):(D.str (bS cs)).oN=G :=
 bZ (n:=3) {Dh h,by show acG (.str _)<=3;simp[acG]}
def tj {c:Nat}(h:c<128):(D.str (eK c)).oN=G:=LU (cs:=[c]) λx z=>by rw[aaE.mp z];exact h
def Gg {a b:Nat}(O:a<128)(L:b<128):Gh (.str (eK a)) (.str (eK b))=M (.bl (decide (a=b))):=by
 rw[Kb _ _ (tj O) (tj L),decide_eq_decide.mpr (xv a b)]
def Ox {a b:Nat}(O:a<128)(L:b<128):d_ (.str (eK a)) (.str (eK b))=M (.bl (!decide (a=b))):=by
 rw[J5 _ _ (tj O) (tj L),decide_eq_decide.mpr (xv a b)]
theorem OD {c:Nat}(h:c<128):Gh (.str (eK c)) (.str "(")=M (.bl (decide (c=40))):=by rw[Gr];exact Gg h .b
theorem OC {c:Nat}(h:c<128):Gh (.str (eK c)) (.str ")")=M (.bl (decide (c=41))):=by rw[Gq];exact Gg h .b
def F7 {c:Nat}(h:c<128):d_ (.str (eK c)) (.str ".")=M (.bl (!decide (c=46))):=by rw[Kh];exact Ox h .b
end L2.Q
namespace L2
open PySem PySem.Spec PySem.SeqAt PyProof.Rows
def Apart (t u:List Int):Prop:=dA t u=η/\eT t u=η
def Good (rows ts:List .ae):Prop:=(∀t∈ts,t∈rows)/\ts.Pairwise (λa b=>HT.lexLt a b=G)/\ts.Pairwise Apart
def dY :dA t u=G↔∃i∈t,i∈u:=by
 unfold dA;rw[aeK];simp
def uO (t u:List Int):dA t u=dA u t:=by
 rw[ac2,dY,dY];exact{λlj=>by let {i,a,b}:=lj;exact{(i),b,a},λqU=>by let {i,a,b}:=qU;exact{(i),b,a}}
def qh {a b c d:Int}:ue a b c d=G↔(a<c/\c<b/\b<d)\/(c<a/\a<d/\d<b):=by
 unfold ue;simp[ad0,aa1]
def wH (t u:List Int):eT t u=eT u t:=by
 match t,u with
 |[a,b],[c,d] =>
  exact Bool.or_comm _ _
 |[],[]=>rfl
 |[],[_]=>rfl
 |[],[_,_]=>rfl
 |[],_::_::_::_=>rfl
 |[_],[]=>rfl
 |[_],[_]=>rfl
 |[_],[_,_]=>rfl
 |[_],_::_::_::_=>rfl
 |[_,_],[]=>rfl
 |[_,_],[_]=>rfl
 |[_,_],_::_::_::_=>rfl
 |_::_::_::_,[]=>rfl
 |_::_::_::_,[_]=>rfl
 |_::_::_::_,[_,_]=>rfl
 |_::_::_::_,_::_::_::_=>rfl
def Apart.symm (h:Apart t u):Apart u t:={(uO u t).trans h.1,(wH u t).trans h.2}
def Apart.ne (p:Pair t)(h:Apart t u):t≠u:=λe=>by
 let {a,b,rfl}:=p;have:=h.1;rw[<- e,acJ]at this;exact this (dY.mpr {a,by simp,by simp})
def vO (hk:k<ts.length):lE rows ts k t=ξ↔t∈rows/\(∀u,0<k->ts[k-1]?=M u->HT.lexLt u t=G)/\∀j u,j<k->ts[j]?=M u->Apart u t:=by
 have TF:∀(p:List Int->Bool) (j:Nat) (u:List Int),ts[j]?=M u->uv ts p j=p u:=λp j u e=>by unfold uv;rw[e]
 unfold lE
 by_cases Y:t∈rows
 ·rw[ω Y]
  by_cases L:(decide (0<k)&&uv ts (λu=>!HT.lexLt u t) (k-1))=G
  ·rw[ω L];refine{λz=>.au,λgC=>?_};let {O,z,O}:=gC;rw[aa1]at L;have h0:0<k:=by simpa using L.1
   have e:ts[k-1]?=M ts[k-1]:=aav .a
   have:=L.2;rw[TF _ _ _ e,z _ h0 e]at this;exact Κ this .c
  ·rw[Δ L];have o:∀u,0<k->ts[k-1]?=M u->HT.lexLt u t=G:=λu h0 e=>by
    rw[TF _ _ _ e]at L;cases q:HT.lexLt u t with
    |true=>rfl
    |false=>exact Κ (by rw[q];simp[h0]) L
   have sh:∀p:List Int->Bool,(aaA k).find? (uv ts p)=ξ↔∀j u,j<k->ts[j]?=M u->p u=η:=λp=>by
    rw[List.find?_eq_none];refine{λz j u hj e=>?_,λz j hj=>?_}
    ·have:=z j (aa2.mpr hj);rw[TF p j u e]at this;simpa using this
    ·have t7:=aa2.mp hj;have e:ts[j]?=M ts[j]:=aav .a
     rw[TF p j _ e,z j _ t7 e];simp
   cases q1:(aaA k).find? (uv ts λu=>dA u t)with
   |some j =>
    refine{λz=>.au,λmw=>?_};let {O,O,z}:=mw;rw[(sh _).mpr λj u hj e=>(z j u hj e).1]at q1;cases q1
   |none =>
    cases q2:(aaA k).find? (uv ts λu=>eT u t)with
    |some j =>
     refine{λz=>.au,λBW=>?_};let {O,O,z}:=BW;rw[(sh _).mpr λj u hj e=>(z j u hj e).2]at q2;cases q2
    |none=>exact{λ_=>{Y,o,λj u hj e=>{(sh _).mp q1 j u hj e,(sh _).mp q2 j u hj e}},λ_=>rfl}
 ·rw[Δ Y];exact{λz=>.au,λz=>Κ z.1 Y}
def pw_iff {R:List Int->List Int->Prop}{ts:List .ae}:ts.Pairwise R↔∀(i j:Nat) (u t:List Int),i<j->ts[i]?=M u->ts[j]?=M t->R u t:=by
 rw[aeg];refine{λh i j u t aN O L=>?_,λh i j hi hj aN=>h i j _ _ aN (aav hi) (aav hj)};let {hi,rfl}:=aay.mp O;let {hj,rfl}:=aay.mp L;exact h i j hi hj aN
def yG :jX rows ts=ξ↔∀k<ts.length,jZ rows ts k=ξ:=by
 unfold jX;rw[aec];exact{λh k hk=>h k (aa2.mpr hk),λh k hk=>h k (aa2.mp hk)}
def pO :jX rows ts=ξ↔Good rows ts:=by
 rw[yG];constructor
 ·intro h;have h':∀k t,ts[k]?=M t->_:=λk t e=>(vO (aay.mp e).1).mp ((mC e).symm.trans (h k (aay.mp e).1));refine{λt ht=>?_,pw_iff.mpr ?_,pw_iff.mpr λi j u t aN Y O=>(h' j t O).2.2 i u aN Y}
  ·let {k,e}:=List.mem_iff_getElem?.mp ht;exact(h' k t e).1
  ·intro i j
   induction j with
   |zero=>intro u t aN;lia
   |succ j ih =>
    intro u t aN Y O;have hj:j<ts.length:=by have:=(aay.mp O).1;lia
    have L:ts[j]?=M ts[j]:=aav hj;have l:=(h' (j+1) t O).2.1 ts[j] .a L
    by_cases XB:i<j
    ·exact iT (ih u ts[j] XB Y L) l
    ·have:i=j:=by lia
     subst this;rw[Y]at L;cases L;exact l
 ·rintro⟨h1,h2,h3⟩ k hk;have e:ts[k]?=M ts[k]:=aav hk;rw[mC e];exact(vO hk).mpr {h1 _ (acd hk),λu h0 eu=>pw_iff.mp h2 (k-1) k u _ .a eu e,λj u hj eu=>pw_iff.mp h3 j k u _ hj eu e}
def FC (p:Pairs l):Good rows (jC l)↔(∀t∈l,t∈rows)/\l.Pairwise Apart:=by
 have pm:=cz l;have ps:Pairs (jC l):=λt L=>p t (pm.mem_iff.mp L);constructor
 ·rintro⟨Y,_,O⟩;exact{λt L=>Y t (pm.mem_iff.mpr L),(pm.pairwise_iff λh=>Apart.symm h).mp O}
 ·rintro⟨Y,O⟩;have ZH:(jC l).Pairwise Apart:=(pm.pairwise_iff λh=>Apart.symm h).mpr O;refine{λt L=>Y t (pm.mem_iff.mp L),?_,ZH};have nd:(jC l).Pairwise (λa b=>a≠b):=ZH.imp_of_mem λha _ h=>h.ne (ps _ ha);refine((oF l).and nd).imp λ{a b} ⟨h,n⟩=>?_;cases q:HT.lexLt a b with
  |true=>rfl
  |false=>exact Κ (g9 q h) n
def Dl (hs:yW ts)(L:ts.Nodup)(h:∀x,x∈ts↔x∈ks):jC (pZ ks)=ts :=
 (xC ((List.perm_ext_iff_of_nodup L (fH ks).1).mpr λx=>(h x).trans ((fH ks).2 x).symm) hs).symm
def nZ (t:List Int):(kD t).flat=G:=by
 have:=aE [t];show D.bO (t.map D.int)=G;have h:(D.bO (t.map D.int)&&G)=G:=this
 rwa [Bool.and_true]at h
end L2
namespace L2.Q
open PySem PySem.Spec PySem.SeqAt PyProof.Rows
structure Bs3 (mg:Str->Option aam):Prop extends Bs2 mg where
 sum:mg "sum" = ξ
def tI (p:Nat×Nat):List Int:=[(p.1:Int),(p.2:Int)]
def SW (ps:List (Nat×Nat)):D:=.lst (ps.map λp=>kD (tI p))
def Bh (n:Nat)(ps:List (Nat×Nat)):D:=.tup [.int n,SW ps]
structure Lj (n:Nat)(ps:List (Nat×Nat)):Prop where
 lt:∀p∈ps,p.1<p.2/\p.2<n
 nd:ps.Nodup
 le:n<=80
 sm:ps.length<=400
def C8 (n0:0<=n)(h:cj n ts):∃ps:List (Nat×Nat),ts=ps.map tI/\∀p∈ps,p.1<p.2/\p.2<n.toNat:=by
 induction ts with
 |nil=>exact{[],rfl,λ_ z=>.au}
 |cons t ts ih =>
  let {ps,e,q}:=ih λu O=>h u (by simp[O])
  let {a,b,rfl,Y,h2,h3}:=h t .c
  refine{(a.toNat,b.toNat)::ps,?_,λp L=>?_}
  ·rw[aa8,<- e]
   congr 1
   show [a,b]=[((a.toNat:Nat):Int),((b.toNat:Nat):Int)];rw[Int.toNat_of_nonneg Y,Int.toNat_of_nonneg .a]
  ·rcases aat.mp L with rfl|L
   ·exact{by show a.toNat<b.toNat;lia,by show b.toNat<n.toNat;lia}
   ·exact q p L
def HV (L:0<=n)(O:n<=80)(l:ts.length<=400)(h:cj n ts)(nd:ts.Nodup):∃(m:Nat) (ps:List (Nat×Nat)),Lj m ps/\n=m/\ts=ps.map tI/\D.tup [.int n,.lst .ah]=Bh m ps:=by
 let {ps,e,q}:=C8 L h;refine{n.toNat,ps,{q,?_,.a,by rw[e,aan]at l;exact l},.a,e,?_}
 ·rw[e]at nd;exact(acu.mp nd).imp λz e=>z (Μ tI e)
 ·unfold Bh SW;rw[e,abH,Int.toNat_of_nonneg L];rfl
def cu (l:List Nat):List D:=l.map λ(k:Nat)=>D.int (k:Int)
def qM (ps:List (Nat×Nat))(i:Nat):List Nat:=(ps.filter λp=>decide (p.1=i)).map (·.2)
def tW {ps:List (Nat×Nat)}{i k:Nat}:k∈qM ps i↔(i,k)∈ps:=by
 unfold qM;rw[abe];constructor
 ·rintro⟨p,L,rfl⟩;let {Y,O}:=ab8.mp L;rw[<- of_decide_eq_true O];exact Y
 ·intro h;exact{(i,k),ab8.mpr {h,by simp},rfl}
def Md (n:Nat)(ps:List (Nat×Nat)):D:=.lst ((aaA n).map λi=>.lst (cu (qM ps i)))
def dB {α:Type}{n i:Nat}{f:Nat->α}(h:i<n):((aaA n).map f)[i]?=M (f i):=by
 rw[aaB,acj h];rfl
def rS {ds:List D}(L:x=(i:Int))(h:ds[i]?=M d):qD (.lst ds) (.int x)=M d:=by rw[L];exact ud h
def Vg {n:Nat}{ps:List (Nat×Nat)}{x:Int}{i:Nat}(L:x=(i:Int))(h:i<n):qD (Md n ps) (.int x)=M (.lst (cu (qM ps i))):=rS L (dB h)
def sW (L:Nat)(T:Nat->Int):List D:=(aaA L).map λl=>.int (T l)
def sV (n:Nat)(L:Nat->Nat)(T:Nat->Nat->Int):D:=.lst ((aaA (n+1)).map λi=>.lst (sW (L i) λl=>T l i))
def zX {L:Nat}{T:Nat->Int}{x:Int}{l:Nat}(O:x=(l:Int))(h:l<L):qD (.lst (sW L T)) (.int x)=M (.int (T l)):=rS O (dB h)
def zW {n:Nat}{L:Nat->Nat}{T:Nat->Nat->Int}{x:Int}{i:Nat}(O:x=(i:Int))(h:i<=n):qD (sV n L T) (.int x)=M (.lst (sW (L i) λl=>T l i)):=rS O (dB .a)
def fK (n a:Nat):List (Nat×Nat):=(aaA (a+1)).map λb=>(n-1-a,n-a+b)
def sX (n:Nat):List (Nat×Nat):=(aaA n).flatMap (fK n)
def UT (p:Nat×Nat):D:=.tup [.int (p.1:Int),.int (p.2:Int)]
def fT (n a b:Nat):List (Nat×Nat):=(fK n a).drop b++((aaA n).drop (a+1)).flatMap (fK n)
def jR {n a b:Nat}(h:b<=a):fT n a b=(n-1-a,n-a+b)::fT n a (b+1):=by
 unfold fT fK;rw[abh (by rw[aan,aa5];lia)]
 simp
def sA {n a:Nat}(h:a<n):((aaA n).drop a).flatMap (fK n)=fT n a 0:=by
 unfold fT;rw[abh (by rw[aa5];exact h)]
 simp
def rE {n a:Nat}(h:a+1<n):fT n a (a+1)=fT n (a+1) 0:=by
 rw[<- sA h];unfold fT fK;simp
def xN {n a:Nat}(h:n<=a+1):fT n a (a+1)=[]:=by
 unfold fT fK;rw[List.drop_eq_nil_of_le .c,List.drop_eq_nil_of_le (by simpa using h)]
 rfl
def A4 (h:0<n):sX n=fT n 0 0:=by rw[<- sA h];rfl
def fA {α:Type}{γ:eU}{τ:bg}{φ:aM}{l:List α}{f:α->D}{k:Kd}{qk:a8}{K:List D->Prop}(t:α->Bool)(g:α->D)(h0:fD qk qk)(hl:l.length<=aaC)
  (h:∀x∈l,∀(x0:Option B) (o:List D) (J:a8->List D->Prop),o.length<aaC->(t x=G->∀x0,J (x0::qk) (o++[g x]))->(t x=η->∀x0,J (x0::qk) o)->γ (f x) (sk k (f x)) (x0::qk) λY=>τ Y λt L=>if t=G then φ L λx kx O=>Ha kx x/\o.length<aaC/\J O (o++[x]) else J L o)
  (q:K ((l.filter t).map g)):pA γ τ φ (l.map f) k (ξ::qk) K:=by
 refine{λi β o=>i<=l.length/\(∃x0,β=x0::qk)/\o=((l.take i).filter t).map g,{aaJ _,{_,rfl},rfl},?_,?_}
 ·rintro i d β o hd ⟨hi,⟨x0,rfl⟩,rfl⟩;rw[aaB]at hd;let {x,hx,rfl}:=aaK.mp hd;have lM:i<l.length:=(aay.mp hx).1;have hle:(((l.take i).filter t).map g).length<aaC:=by
   rw[aan];have:=acC t (l.take i);rw[aa4]at this;lia
  have e:l.take (i+1)=l.take i++[x]:=by rw[acI,hx];rfl
  refine h x (aaY hx) x0 _ (λβ o=>i+1<=l.length/\(∃x0,β=x0::qk)/\o=((l.take (i+1)).filter t).map g) hle (λht x0=>?_) λht x0=>?_
  ·exact{lM,{_,rfl},by rw[e,acB,abb,acR,ω ht];rfl}
  ·exact{lM,{_,rfl},by rw[e,acB,abb,acR,Δ (by rw[ht];simp)];simp}
 ·rintro β o ⟨_,⟨x0,rfl⟩,rfl⟩;rw[aan,aeH];exact{(h0),q}
def pB {α:Type}{γ:eU}{τ:bg}{φ:aM}{l:List α}{f:α->D}{k:Kd}{qk:a8}{K:List D->Prop}(t:α->Bool)(g:α->D)(h0:fD qk qk)(hl:l.length<=aaC)
  (h:∀x∈l,∀(x0 L:Option B) (o:List D) (J:a8->List D->Prop),o.length<aaC->(t x=G->∀x0 L,J (x0::L::qk) (o++[g x]))->(t x=η->∀x0 L,J (x0::L::qk) o)->γ (f x) (sk k (f x)) (x0::L::qk) λβ1=>τ β1 λt O=>if t=G then φ O λx kx Y=>Ha kx x/\o.length<aaC/\J Y (o++[x]) else J O o)
  (q:K ((l.filter t).map g)):pA γ τ φ (l.map f) k (ξ::ξ::qk) K:=by
 refine{λi β o=>i<=l.length/\(∃x0 L,β=x0::L::qk)/\o=((l.take i).filter t).map g,{aaJ _,{_,_,rfl},rfl},?_,?_}
 ·rintro i d β o hd ⟨hi,⟨x0,L,rfl⟩,rfl⟩;rw[aaB]at hd;let {x,hx,rfl}:=aaK.mp hd;have lM:i<l.length:=(aay.mp hx).1;have hle:(((l.take i).filter t).map g).length<aaC:=by
   rw[aan];have:=acC t (l.take i);rw[aa4]at this;lia
  have e:l.take (i+1)=l.take i++[x]:=by rw[acI,hx];rfl
  refine h x (aaY hx) x0 L _ (λβ o=>i+1<=l.length/\(∃x0 L,β=x0::L::qk)/\o=((l.take (i+1)).filter t).map g) hle (λht x0 L=>?_) λht x0 L=>?_
  ·exact{lM,{_,_,rfl},by rw[e,acB,abb,acR,ω ht];rfl}
  ·exact{lM,{_,_,rfl},by rw[e,acB,abb,acR,Δ (by rw[ht];simp)];simp}
 ·rintro β o ⟨_,⟨x0,L,rfl⟩,rfl⟩;rw[aan,aeH];exact{(h0),q}
def fX {α:Type}{l:List α}:l.filter (λ_=>G)=l:=ad1.mpr λ_ _=>rfl
def eJ {a b:List D}(h:a.length+b.length<=1000000):Cc (.lst a) (.lst b)=M (.lst (a++b)):=by
 show (if a.length+b.length<=aaC then _ else _)=_
 rw[ω (aa3 h .b)]
theorem gE:∀{a b:List D},D.bO a=G->D.bO b=G->D.bO (a++b)=G
 |[],_,_,h=>h
 |d::a,b,h,h'=>by
  have L:(d.flat&&D.bO a)=G:=h;rw[aa1]at L;show (d.flat&&D.bO (a++b))=G;rw[L.1,gE L.2 h'];rfl
def FQ:FD:=λds R=>∃n:Nat,ds=[.int n]/\n<=80/\R (.lst ((sX n).map UT))
def FQ.mono:cH FQ:=λds R R' k h=>by let {n,e,L,q}:=h;exact{n,e,L,k _ q}
def wd:FD:=λds R=>∃n ps,ds=[Bh n ps]/\Lj n ps/\R (Md n ps)
def wd.mono:cH wd:=λds R R' k h=>by let {n,ps,e,L,q}:=h;exact{n,ps,e,L,k _ q}
abbrev fE (n:Nat)(T:Nat->Nat->Int):D:=sV n (λi=>n+1-i) T
def oB (h:n<=1000):n<=aaC:=aa3 h .b
def Ku (h:n<=1000):n<aaC:=Nat.lt_of_le_of_lt h .b
def yj (L:x=(i:Int))(h:i<n):qQ n x=M i:=by
 subst L;unfold qQ;rw[ω .a,ω .a]
 simp
def kB {α:Type}{f:Nat->α}{y:α}(h:i<n):((aaA n).map f).set i y=(aaA n).map λk=>if k=i then y else f k:=by
 refine ac7 λk=>?_;rw[adH]
 by_cases hk:k<n
 ·rw[dB hk,dB hk,aan,aa5]
  by_cases e:i=k
  ·rw[ω e,ω (e▸hk),ω e.symm]
  ·rw[Δ e,Δ (abn e)]
 ·rw[abq (l:=(aaA n).map f) (by simpa using hk),abq (l:=(aaA n).map λk=>if k=i then y else f k) (by simpa using hk),Δ .a]
def LV {n i k:Nat}{ps:List (Nat×Nat)}(h:i<n):((aaA n).map λj=>D.lst (cu (qM ps j))).set i (.lst (cu (qM ps i)++[D.int k]))=(aaA n).map λj=>D.lst (cu (qM (ps++[(i,k)]) j)):=by
 rw[kB h];refine abK λj _=>?_;unfold qM cu;rw[acB,abb,abb]
 by_cases e:j=i
 ·rw[ω e,e];simp
 ·rw[Δ e,acR,Δ (by simpa using abn e)];simp
def Ic {ps:List (Nat×Nat)}{i:Nat}:(qM ps i).length<=ps.length:=by
 unfold qM;rw[aan];exact acC _ _
def g_ (n a b:Nat)(i:Nat):Nat:=if n-1-a<i then n+1-i else if i=n-1-a then b+1 else 1
def HQ {n a b:Nat}{T:Nat->Nat->Int}(O:a<n)(L:b<=a):
  ((aaA (n+1)).map λi=>D.lst (sW (g_ n a b i) λl=>T l i)).set (n-1-a) (.lst (sW (b+1) (λl=>T l (n-1-a))++[D.int (T (b+1) (n-1-a))]))=(aaA (n+1)).map λi=>D.lst (sW (g_ n a (b+1) i) λl=>T l i):=by
 rw[kB .a]
 refine abK λi _=>?_;unfold g_
 by_cases e:i=n-1-a
 ·rw[ω e,e,Δ .a,ω rfl]
  unfold sW;rw[acE (n:=b+1),abb];rfl
 ·rw[Δ e,Δ e,Δ e]
def BK {n a:Nat}(h:a+1<n)(i:Nat)(hi:i<=n):g_ n a (a+1) i=g_ n (a+1) 0 i:=by
 unfold g_
 by_cases O:n-1-a<i
 ·rw[ω O,ω .h]
 ·rw[Δ O]
  by_cases L:i=n-1-a
  ·rw[ω L,ω .h];omega
  ·rw[Δ L,Δ .h]
   split <;> rfl
def EY {n a:Nat}(h:n=a+1)(i:Nat)(hi:i<=n):g_ n a (a+1) i=n+1-i:=by
 unfold g_
 split
 ·rfl
 ·split <;> lia
def yf (h:0<n)(i:Nat)(hi:i<=n):g_ n 0 0 i=1:=by
 unfold g_
 split
 ·lia
 ·split <;> rfl
def rp {L O:Nat->Nat}{T:Nat->Nat->Int}(h:∀i,i<=n->L i=O i):sV n L T=sV n O T:=by
 unfold sV
 congr 1
 refine abK λi hi=>?_;rw[h i (by have:=aa2.mp hi;lia)]
def AR (n idx:Nat)(L:Nat->Nat):Prop:=(n=0/\L 0=1)\/∃a b,a<n/\b<=a+1/\(∀i,i<=n->L i=g_ n a b i)/\(sX n).drop idx=fT n a b
def wx :AR n 0 λ_=>1:=by
 rcases Nat.eq_zero_or_pos n with h|h
 ·exact .inl {(h),rfl}
 ·exact .inr {0,0,h,aaJ _,λi hi=>(yf h i hi).symm,A4 h}
def B_ (h:AR n (sX n).length L):∀i,i<=n->L i=n+1-i:=by
 rcases h with⟨rfl,h⟩|⟨a,b,h1,h2,h3,O⟩
 ·intro i hi;rw[show i=0 by lia,h]
 ·intro i hi;rw[List.drop_length]at O;have Y:b=a+1:=by
   rcases abG a b with q|q
   ·lia
   ·rw[jR q]at O;cases O
  have ha:n=a+1:=by
   rcases abG (a+1) n with q|q
   ·rw[Y,rE q,jR (aaJ _)]at O;cases O
   ·lia
  rw[h3 i hi,Y];exact EY ha i hi
def yI {n idx:Nat}{L:Nat->Nat}{p:Nat×Nat}(h:AR n idx L)(hp:(sX n)[idx]?=M p):∃a b,a<n/\b<=a/\p=(n-1-a,n-a+b)/\(∀i,i<=n->L i=g_ n a b i)/\(sX n).drop (idx+1)=fT n a (b+1):=by
 have hd:(sX n).drop idx=p::(sX n).drop (idx+1):=by
  let {h1,h2}:=aay.mp hp;rw[abh h1,h2]
 rcases h with⟨rfl,h⟩|⟨a,b,h1,h2,h3,Y⟩
 ·cases hp
 ·have key:∃a b,a<n/\b<=a/\(∀i,i<=n->L i=g_ n a b i)/\(sX n).drop idx=fT n a b:=by
   rcases abG a b with q|q
   ·have e:b=a+1:=by lia
    rcases abG (a+1) n with O|O
    ·exact{a+1,0,O,aaJ _,λi hi=>by rw[h3 i hi,e,BK O i hi],by rw[Y,e,rE O]}
    ·rw[Y,e,xN O]at hd;cases hd
   ·exact{(a),b,h1,q,h3,Y}
  let {a,b,h1,h2,h3,Y}:=key;rw[Y,jR h2]at hd;injection hd with e1 e2
  exact{(a),b,h1,h2,e1.symm,h3,e2.symm}
def uQ {n a:Nat}:(fK n a).length=a+1:=by unfold fK;simp
def Bi {n a b:Nat}(h:b<a+1):(fK n a).take (b+1)=(fK n a).take b++[(n-1-a,n-a+b)]:=by
 rw[acI];unfold fK;rw[dB h];rfl
def Dx {n a:Nat}:(fK n a).take (a+1)=fK n a:=abP (by rw[uQ];exact aaq _)
theorem vQ :∀a:Nat,a<=n->(((aaA n).take a).flatMap (fK n)).length<=a*a
 |0,_=>by simp
 |a+1,h=>by
  have:=vQ (n:=n) a .a
  rw[acI,acj (show a<n by lia),List.flatMap_append,aax]
  have e:((M a).toList.flatMap (fK n)).length=a+1:=by simp[uQ]
  rw[e,Nat.mul_add,Nat.add_mul];lia
def Dg {n a b:Nat}(L:n<=80)(Y:a<n)(O:b<a+1):(((aaA n).take a).flatMap (fK n)).length+((fK n a).take b).length<aaC:=by
 have h1:=vQ (n:=n) a .a
 have h2:((fK n a).take b).length<=b:=by rw[aa4];exact adt _ _
 have h3:a*a<=80*80:=Nat.mul_le_mul .a .a
 have h4:80*80+80<aaC:=by decide
 lia
def su:Nat->Nat
 |0=>1
 |n+1=>(n+1)*su n
theorem As (a:Nat):∀b,su a*su b<=su (a+b)
 |0=>by show su a*1<=su a;lia
 |b+1=>by
  show su a*((b+1)*su b)<=(a+b+1)*su (a+b);rw[Nat.mul_left_comm];exact Nat.mul_le_mul .a (As a b)
def v9 {a b:Nat}(h:a<=b):su a<=su b:=by
 induction b with
 |zero=>rw[show a=0 by lia];exact aaq _
 |succ b ih =>
  rcases abG b a with q|q
  ·rw[show a=b+1 by lia];exact aaq _
  ·exact aa3 (ih q) (Nat.le_mul_of_pos_left _ .a)
def Oz {a b:Int}(h:mP a b):J8 (.int a) (.int b)=M (.int (a*b)):=by
 show (if mP a b then _ else _)=_
 rw[ω h]
def sum_ints {α:Type}{f:α->Int}{l:List α}:ju (λns=>M ns.sum) [.lst (l.map λk=>D.int (f k))]=M (.int (l.map f).sum):=by
 have e:(l.map λk=>D.int (f k))=(l.map f).map D.int:=by simp
 rw[e];exact p_ rfl
end L2.Q
namespace L2
open PySem PySem.Spec PySem.SeqAt PyProof.Rows
def J7 {a b:Int}(h:mP a b):J8 (.int a) (.int b)=M (.int (a*b)):=by
 show (if mP a b then M (D.int (a*b)) else ξ)=_
 rw[ω h]
def wD {ts:List .ae}{k:Nat}:cutD .ah ξ (M (k:Int))=(ts.take k).map kD:=by
 unfold cutD;rw[HT.uP,HT.nM,List.drop_zero,aex];simp
def fI {ts:List .ae}{k:Nat}:cutD .ah (M (k:Int)) ξ=(ts.drop k).map kD:=by
 unfold cutD;rw[HT.uP,HT.nM,aey]
 by_cases h:k<=(ts.map kD).length
 ·rw[Nat.min_eq_left h,abP (by rw[abM];lia)]
 ·rw[Nat.min_eq_right .a,acV (aaq _),acV .a]
  exact List.take_nil
end L2
namespace L2.Q
open PySem PySem.Spec PySem.SeqAt PyProof.Rows
def oD:Option Nat->D
 |none=>.cI
 |some k=>.int (k:Int)
def gx (a b c d:Int):Bool:=decide (a∈[c,d]) || decide (b∈[c,d]) || !decide ((decide (a<c)&&decide (c<b))=(decide (a<d)&&decide (d<b)))
def mW:List Int->List Int->Bool
 |[a,b],[c,d]=>gx a b c d
 |_,_=>η
def pq {a b c d:Int}(ab:a<b)(cd:c<d)(h:mW [a,b] [c,d]=η):Apart [a,b] [c,d]:=by
 have h:gx a b c d=η:=h;unfold gx at h;simp only[Bool.or_eq_false_iff,decide_eq_false_iff_not,Bool.not_eq_false',decide_eq_true_eq]at h;obtain⟨⟨O,L⟩,h3⟩:=h;have h4:(a<c/\c<b)↔(a<d/\d<b):=by
  have:=Μ (·=G) h3;simpa using this
 have m1:=O;have Y:=L;simp only[aat,aaQ,or_false,not_or]at m1 Y;refine{acJ.mpr λz=>?_,acJ.mpr λz=>?_}
 ·let {i,hi,hj}:=dY.mp z;simp only[aat,aaQ,or_false]at hi;rcases hi with rfl|rfl
  ·exact O hj
  ·exact L hj
 ·have:=qh.mp (show ue a b c d=G from z)
  lia
def AD {β:a8}{i j k:Nat}{y1 Y O:Bool}{a b c:Int}{R:D->Kd->a8->Prop}(h1:β[i]?=M (M (.val y1 (.int a))))(h2:β[j]?=M (M (.val Y (.int b))))(h3:β[k]?=M (M (.val O (.int c))))
  (q:R (.bl (decide (a<b)&&decide (b<c))) .own β):xP (uV i) (HZ Pn (uV j) (L9 Pn (uV k))) β R:=by
 refine{_,h1,_,h2,_,rfl,lL (λL=>{_,h3,_,rfl,?_}) (λL=>?_)}
 ·simpa[L] using q
 ·simpa[L] using q
def Oj (i j:Bool):abI (D.bl i).pd (D.bl j).pd=decide (i=j):=by
 cases i <;> cases j <;> rfl
def Oy (i j:Bool):d_ (.bl i) (.bl j)=M (.bl (!decide (i=j))):=uc (bZ (kA i)) (bZ (kA j)) (Oj i j)
def xF (n:Int)(rows ts:List .ae):(D.lst [f7 n rows,.lst .ah]).pd.canLay0=G/\(D.lst [f7 n rows,.lst .ah]).pd.depth<=5:=gk λd hd=>by
 rcases aat.mp hd with rfl|hd
 ·exact rB n rows
 ·rw[aaE.mp hd];exact{(cB ts).1,aa3 (cB ts).2 .b}
def pR:FD:=λds R=>∃a b c d:Int,ds=[kD [a,b],kD [c,d]]/\R (.bl (gx a b c d))
def pR.mono:cH pR:=λds R R' k cO=>by let {a,b,c,d,e,q}:=cO;exact{a,b,c,d,e,k _ q}
def pW:FD:=λds R=>∃(n:Int) (rows:List .ae),ds=[f7 n rows]/\R (f7 n rows)
def pW.mono:cH pW:=λds R R' k lh=>by let {n,rows,e,q}:=lh;exact{n,rows,e,k _ q}
theorem kU {α β:Type}{f:α->β}:∀(l:List α) (m:Nat),(l.eraseIdx m).map f=(l.map f).eraseIdx m
 |[],_=>rfl
 |_::_,0=>rfl
 |x::l,m+1=>by
  show f x::(l.eraseIdx m).map f=f x::(l.map f).eraseIdx m;rw[kU l m]
theorem KI:∀{i:Nat} {l:List Nat},l.Nodup->(∀x∈l,x<i)->l.length<=i
 |0,l,_,h=>by
  cases l with
  |nil=>exact aaq _
  |cons x l=>exact Κ (h x .c) (Nat.not_lt_zero _)
 |i+1,l,nd,h=>by
  have q:=KI (i:=i) (nd.erase i) λx L=>by
   have:=nd.mem_erase_iff.mp L;have:=h x this.2;lia
  have:=List.length_erase (a:=i) (l:=l)
  split at this <;> lia
abbrev ED (l:List Nat):List D:=l.map λp:Nat=>D.int (p:Int)
def Ga {ds:List D}:qD (.lst (ds++[d])) (.int (-1))=M d:=by
 show mI (ds++[d]) (-1)=M d;unfold mI qQ;rw[Δ .b,ω (by rw[aax,abd];lia),Option.bind_some,aax,abd,show (-1+((ds.length+1:Nat):Int)).toNat=ds.length by lia,abi (aaq _),adF]
 rfl
def vf :ED (l++[x])=ED l++[.int (x:Int)]:=by
 unfold ED;rw[abb];rfl
end L2.Q
namespace L2
open PySem
def Ou:Sa (.int 10) (.int 29)=M (.int (10 ^ 29)):=by
 show (if Cw 10 29 then _ else ξ)=_
 rw[ω .b]
 rfl
end L2
namespace L2.Q
open PySem
open PySem.Spec PySem.SeqAt PyProof.Rows
structure Ll (mg:Str->Option aam):Prop extends Bs3 mg where
 any:mg "any" = ξ
def OP:abt "any" = M (.builtin "any"):=by decide +kernel
def F8 {ds:List D}(h:ds.length=n):OA [.lst ds]=M (.int (n:Int)):=by subst h;rfl
section
variable {k:Expr}{φk:aM}{x:Str}{pk:Bool}
def Qu (i:Nat)(φk:aM)(O:Option μ:=ξ):aM:=λβ R=>(∃d,β[i]?=M (M (.shl (Dp O) d)))/\φk β λjd _ L=>∃ds t m d,jd=.int t/\L[i]?=M (M (.shl (Dp O) (.lst ds)))/\qQ ds.length t=M m/\ds[m]?=M d/\R d .dM L
def tE (hk:PQ X C pk k φk)(hn:Nm X i x:=by exact CC)(hs:jz k:=by exact λ_ _=>rfl)(O:Option μ:=ξ):
  PQ X C pk (.Subscript .ay k pos) (Qu i φk O) :=
 ⟨λβ R R' kk h=>{h.1,hk.mono _ _ _ (λjd _ L qU=>by let {ds,t,m,d,h1,h2,h3,h4,q}:=qU;exact{ds,t,m,d,h1,h2,h3,h4,kk _ _ _ q}) h.2},(kO fb (ij (pos:=px) hn) hk.pe hs).pre λσ H Q t6=>by
  obtain⟨β,own,sq,⟨d0,JF⟩,q⟩:=t6;obtain⟨a0,_,_,⟨yu,_⟩,_⟩:=sq.om O JF;refine{_,yu,tQ.of hk sq q λjd kj L jv H1 aw gC o r=>?_};let {ds,t,m,d,e1,hb,hm,hg,q}:=gC;subst e1;obtain⟨a,o1,vs,⟨g1,_⟩,g2,g3,g4,g5,_,_⟩:=o.sq.om O hb;rw[yu]at g1;cases g1;cases g4;cases (show jv=.int t from r.rep)
  let {Y,hw,LX}:=aj.get g5 hg;have TH:mI vs t=M Y:=by unfold mI;rw[show vs.length=ds.length from g5.length,hm];exact hw
  exact{a0,vs,t,Y,rfl,rfl,dw.of g3,TH,q _ _ aw o (aA.aW (λc z=>.inl z) LX)}⟩
def Iz (he:∀U,PQ X (C.u U) p e φ)(hk:∀U,PQ X (C.u U) pk k φk)(hn:Nm X i x:=by exact CC)
  (hs:swapsWithSole [.Subscript .ay k pos'] e pos.line .f=pure η:=by rfl) (qT:swappedStores [.Subscript .ay k pos'] e .f=pure ξ:=by rfl)
  (ha:∀v,assign (.Subscript .ay k pos') .f v=(do
   let ov <- holding [v] (eval .ay .f)
   let iv <- holding [v,ov] (eval k .f)
   aep pos'
   holding [v,ov,iv] (setItem ov iv v)
   release [v,ov,iv] []):=by intro _;rfl) (Y:Option μ:=ξ) :
  PB X C (.Assign [.Subscript .ay k pos'] e pos) (λE β=>φ β λd kd O=>(Y8 kd d/\kd≠.bor)/\(∃ds,O[i]?=M (M (.shl (Dp Y) (.lst ds))))/\φk O λjd _ L=>∃ds t m,jd=.int t/\L[i]?=M (M (.shl (Dp Y) (.lst ds)))/\qQ ds.length t=M m/\E.nx (L.set i (M (.shl (Dp Y) (.lst (ds.set m d)))))):=by
 refine{λE E' β l q=>(he λ_=>False).mono _ _ _ (λd kd O Fl=>by let {f,h0,q}:=Fl;exact{f,h0,(hk λ_=>False).mono _ _ _ (λjd _ L Jv=>by let {ds,t,m,h1,h2,h3,q}:=Jv;exact{ds,t,m,h1,h2,h3,l.nx _ q}) q}) q,λχ s σ H De I mw=>?_}
 obtain⟨Z,E,β,⟨own,sq,n⟩,q,ok⟩:=mw;refine oU (he λa=>H a=ξ).pe (tH (ij (pos:=px) hn) (hk λa=>H a=ξ).pe set_list ha) hs qT rfl χ s σ H De I ?_;refine tQ.of (he λa=>H a=ξ) (sq.oj (C:=C.z) (U:=λa=>H a=ξ) λa z=>z) q λd kd O v H1 aw BW o r=>?_;obtain⟨⟨f,nb⟩,⟨Ye,JF⟩,q⟩:=BW;obtain⟨a0,_,_,⟨yu,_⟩,_⟩:=o.sq.om Y JF;refine{_,yu,tQ.of (hk λa=>H a=ξ) o.sq q λjd kj L jv H2 a7 Ri o2 r2=>?_};let {ds,t,m,e1,hb,hm,q}:=Ri;subst e1;have rv:=(KV.held (Z:=(H,Wn own)) nb r o2.sn).yg f;obtain⟨a,o1,vs,⟨g1,_⟩,g2,g3,g4,g5,_,_⟩:=o2.sq.om Y hb;rw[yu]at g1;cases g1;cases g4;cases (show jv=.int t from r2.rep)
 refine{a0,vs,t,m,rfl,rfl,g3,by rw[show vs.length=ds.length from g5.length];exact hm,?_}
 have wa:av (C.u λa=>H a=ξ) (Wn a7) .dM a0:=.inl {i,by rw[g2];simp}
 have kp:Kp (av (C.u λa=>H a=ξ) (Wn a7) .dM) H2 (upd H2 a0 (.lst (vs.set m v))):=E4 g3 (λxs z=>by cases z) wa
 let {s2,hA,hw,Jz}:=o2.sq.Qx Y (d':=.lst (ds.set m d)) (o:=.lst (vs.set m v)) (vs':=vs.set m v) hb yu rfl (aj.set (rv.keep kp) m ((aj.aW (λc z=>.inl z) g5).keep kp));exact ok.nx _ _ _ {_,s2,oI (C:=C) ((n.trans o.sn).trans o2.sn) (λb z=>n.free z) hw Jz hA} q
end
def Me {ps:List (Nat×Nat)}{i:Nat}(h:ps.Nodup):(qM ps i).Nodup:=by
 unfold qM;refine acu.mpr (List.Pairwise.imp_of_mem ?_ (List.Pairwise.filter _ h));intro a b ha Y Od e;have O:=(ab8.mp ha).2;have L:=(ab8.mp Y).2;simp only[decide_eq_true_eq]at O L;exact Od (Prod.ext (by rw[O,L]) e)
theorem EF:∀{n i:Nat} {l:List Nat},l.Nodup->(∀x∈l,i<=x/\x<i+n)->l.length<=n
 |0,i,l,_,h=>by
  cases l with
  |nil=>exact aaq _
  |cons x l=>have:=h x (by simp);lia
 |n+1,i,l,nd,h=>by
  have q:=EF (n:=n) (i:=i) (nd.erase (i+n)) λx L=>by
   have:=nd.mem_erase_iff.mp L;have:=h x this.2;lia
  have:=List.length_erase (a:=i+n) (l:=l)
  split at this <;> lia
def OV (ps:List (Nat×Nat))(i j:Nat):List .aB:=((qM ps i).filter λk=>decide (k<j)).map M++[ξ]
def GK {ps:List (Nat×Nat)}(O:∀p∈ps,p.1<p.2)(nd:ps.Nodup){l i:Nat}:(OV ps i (i+l+1)).length<=l+1:=by
 unfold OV;rw[aax,aan];have h:=EF (n:=l) (i:=i+1) ((Me nd).sublist (List.filter_sublist (p:=λk=>decide (k<i+l+1)))) λx L=>by
  let {h1,Y}:=ab8.mp L;have:=O (i,x) (tW.mp h1);have:=of_decide_eq_true Y;dsimp only at *
  lia
 show _+1<=_;lia
def JY (n:Nat):1<=su n:=by
 induction n with
 |zero=>exact aaq _
 |succ n ih=>exact aa3 ih (Nat.le_mul_of_pos_left _ .a)
end L2.Q
namespace L2
open PySem PySem.Spec PySem.SeqAt PyProof.Rows L2.Q
def gW {n:Nat}{ps:List (Nat×Nat)}:Bh n ps=.tup [.int (n:Int),.lst ((ps.map tI).map kD)]:=by
 unfold Bh SW;rw[abH];rfl
end L2
namespace L2.Q
open PySem
def FK {γ:eU}{ψ:Cu}{E:dq}{ds:List D}{k:Kd}{β:a8}(I:Nat->a8->Prop)(h0:I 0 β)(Y:∀E':dq,(∀d β,E.rt d β->E'.rt d β)->∀i:Nat,(∀β,I (i+1) β->E'.nx β)->∀d β,ds[i]?=M d->I i β->γ d (sk k d) β λL=>ψ E' L)
  (O:∀β,I ds.length β->E.nx β):FJ γ ψ E ds k β:={I,h0,λi d β e q=>Y (E.lp (I (i+1))) (λ_ _ q=>q) i (λ_ q=>q) d β e q,O}
def Ub {E:dq}{ψ:Cu}{E':dq}{β:a8}(h:ψ E' β):(E.up (ap ψ E')).nx β:=h
end L2.Q
namespace gK
open PySem L2 L2.Q
def wj:FD:=λds R=>∃cs:List Nat,ds=[.str (bS cs)]/\(∀c∈cs,c<128)/\cs.length<60/\R (Hn cs)
def wj.mono:cH wj:=λds R R' k cO=>by let {cs,e,O,L,q}:=cO;exact{cs,e,O,L,k _ q}
def ft:aH ["text","waiting","arcs","at","sign"] ["text"] (ak jg):=mkS
def IX {v8 m9}(Hm:D3 K mg v8 m9)(B:Ll mg):aG P w K mg base bP 2 v8 m9 ["text"] (dz P w G wj):=by
 refine qt Hm.F ft (λds R WT=> by obtain⟨cs,e,_⟩ := WT;subst e;rfl) λbD A outer s H E hr=>⟨_,(ah (cm (i:=1) (λ_=>(aK af)) ft.nd)
    (ah (cm (i:=2) (λ_=>(aK af)) ft.nd)
    (ah (cf abo rfl (Bo B.enumerate (aa .af af)) (bL (n:=2) rfl (aD (aq (i:=3) ft.nd) (aD (aq (i:=4) ft.nd) bt))) (ao (cn (aF ag (bo.m (dC hr.units)) (ae (i:=4)) cE) (ao (cM (i:=1) (λ_=>.aj))) (ao (cn (rh.t (gX (aF ag (bo.m (dC hr.units)) (ae (i:=4)) cE) (fx (nO .ad)))) (ao (cM (i:=2) (λ_=>(bQ (aa (xU (i:=1)) (aa .aj af)))))) (ao (cn (aF ag (bo.m (fy hr.units)) (ae (i:=4)) cE) (ao (aS eP)) bx)))))))
    (ao (aS (zD (nO .ad) eP (aV aC fc B.sorted fh (aa .ag af)))))))),λds R h=>?_⟩
 let {cs,rfl,asc,hl,q}:=h;refine{aaJ _,tv,aaJ _,tv,_,rfl,tv,_,rfl,vC asc,tv,?_};rw[Dt];refine FK (λi β=>∃(L:List Int) (fs:List .ae) (x3 x4:Option Q.B),β=[M (.val η (.str (bS cs))),M (.own (.lst (L.map D.int))),M (.own (.lst (fs.map kD))),x3,x4]/\cG (cs.drop i) (i:Int) L fs=cG cs 0 [] []/\L.length<=i/\fs.length<=i/\i<=cs.length/\∀f∈fs,f≠[]) {[],[],_,_,rfl,rfl,aaJ _,aaJ _,aaJ _,λ_ z=>nomatch z} (λE1 r1 i n1 d β hd hv=>?_) λβ hv=>?_
 ·let {L,fs,x3,x4,rfl,O,h2,h3,h4,h5}:=hv;let {b,hb,rfl}:=jt hd;rw[aaB]at hb;let {c,hc,rfl}:=aaK.mp hb;let {hi,ec}:=aay.mp hc;have JG:c<128:=asc c (aaY hc);rw[abh hi,ec,cG]at O;refine{_,rfl,rfl,_,_,rfl,_,_,rfl,rfl,_,rfl,tv,_,OD JG,_,rfl,lL (λq1=>?_) λq1=>?_}
  ·rw[ω q1]at O;refine{{_,rfl},_,rfl,tv,_,rfl,by rw[aan,aa7];omega,n1 _ {L++[(i:Int)],fs,_,_,by rw[uN];rfl,O,by simp;omega,by omega,by omega,h5}}
  rw[Δ q1]at O;have rest:¬ (c=41/\L≠[])->(¬ c=46->E1.rt .cI [M (.val η (.str (bS cs))),M (.own (.lst (L.map D.int))),M (.own (.lst (fs.map kD))),M (.val G (.int i)),M (.val G (.str (eK c)))])/\(c=46->E1.nx [M (.val η (.str (bS cs))),M (.own (.lst (L.map D.int))),M (.own (.lst (fs.map kD))),M (.val G (.int i)),M (.val G (.str (eK c)))]):=λt=>by
   rw[Δ t]at O;refine{λY=>?_,λY=>?_}
   ·rw[ω Y]at O;refine r1 _ _ ?_;show R .cI
    rwa [Hn,<- O]at q
   ·rw[Δ (λz=>z Y)]at O;exact n1 _ {L,fs,_,_,rfl,O,by omega,by omega,by omega,h5}
  refine{_,rfl,tv,_,OC JG,_,rfl,lL (λq2=>?_) λq2=>?_}
  ·by_cases hw:L=[]
   ·subst hw;refine{_,rfl,_,rfl,jW rfl ?_};let {hA,hB}:=rest (λz=>z.2 rfl);exact{_,rfl,tv,_,F7 JG,_,rfl,Jn (λY=>{tv,hA Y}) λY=>hB Y}
   ·rw[ω {(q2),hw}]at O;obtain⟨qs,p,rfl⟩:∃qs p,L=qs++[p]:={L.dropLast,L.getLast hw,(ac1 hw).symm};rw[List.dropLast_concat,List.getLastD_concat]at O;rw[aax,abd]at h2;refine{_,rfl,_,rfl,ur .c ?_}
    refine{{_,rfl},qs.map D.int,.int p,by simp,tv,_,rfl,tv,nG,tv,fs.map kD,rfl,by rw[aan,aa7];omega,n1 _ {qs,fs++[[p,(i:Int)]],_,_,by rw[sZ];rfl,O,by omega,by simp;omega,by omega,λf hf=>?_}}
    rcases aaT.mp hf with z|z
    ·exact h5 f z
    ·rw[aaE.mp z];exact λz=>nomatch z
  ·let {hA,hB}:=rest (λz=>q2 z.1);exact jW rfl {_,rfl,tv,_,F7 JG,_,rfl,Jn (λY=>{tv,hA Y}) λY=>hB Y}
 ·let {L,fs,x3,x4,rfl,O,h2,h3,h4,h5}:=hv;rw[js,aan]at O h3 h2;rw[List.drop_length,cG]at O;unfold Hn at q;rw[<- O]at q
  by_cases hw:L=[]
  ·subst hw;refine{_,rfl,_,rfl,jW rfl {_,rfl,tv,_,gN h5 .h,.inl {aE _,tv,q}}}
  ·refine{_,rfl,_,rfl,ur (by cases L <;> first|exact Κ rfl hw|rfl) {tv,?_}}
   show R .cI;have q:R (if L=[] then .lst ((jC fs).map kD) else .cI):=q
   rwa [Δ hw]at q
end gK
namespace L2.Q
open PySem PySem.Spec PySem.SeqAt PyProof.Rows
section
variable {γ:eU}{τ:bg}{pc pe:Bool}{ι:cT}{uM:Pos}{y:Str}
def DB (O:Bool)(lk:List .aB)(ι:cT)(γ:eU)(τ:bg)(φ:aM):aM:=λβ R=>ι β λds k L=>hold k O/\pA γ τ φ ds k (cS lk L) λo=>R (.lst o) .own L
def Lc {σ:St}{H1:Hp}{β:a8}{own:Nat->List μ}{a:μ}{J:It}{ds:List D}{k:Kd}{K:List D->Prop}{End:Hp->Prop}(L:Links X scope N' lk)(vI:N'.Nodup)(Y:T.all (λi=>match lk[i]? with|some (M _)=>η|_=>G)=G)
  (γm:∀d k β R R',(∀r,R r->R' r)->γ d k β R->γ d k β R') (τm:∀β R R',(∀d β,R d β->R' d β)->τ β R->τ β R') (φm:∀β R R',.aC->φ β R->φ β R')
  (s1:SQ X C σ H1 β own) (O:H1 a=ξ) (it:uo X (av C (Wn own) k) J ds H1) (q:pA γ τ φ ds k (cS lk β) K)
  (fin:∀o H',K o->Out X C σ H1 own G β H' own->KV X.prog X.w C (H1,Wn own) own H' .own (.lst o) (.ref a)->End H') :
  fm J (HD X C a T γ) (nk X .ak G τ) (O6 X C a φ) (λ_ H'=>End H') (cV lk σ) (upd H1 a (.lst [])):=by
 have RX:∀i∈T,∀j,lk[i]?≠M (M j):=λi hi j e=>by
  have:=acS.mp Y i hi;rw[e]at this;cases this
 exact oP (T:=T) (qm (P:=X.prog) (w:=X.w) (H1:=H1)) γm τm (λj hj=>hj) (gy L vI) RX s1 O it {[],[],az,(show aR _ _ _ [] [] [] from {(rfl),rfl}),abg,λc hc=>(nomatch hc)} (s1.enter O (gy L vI))
  (λHb Wb βx ox σx Hx Nx h0 sx qx=>tq h0 O φm sx qx) q λo H' q o2 r=>fin o H' q o2 (yU s1 O r)
def G_ (hp:Bool)(N':List Str)(lk:List .aB)(L:md X.env.scope.names X.N scope N' lk=G)(vI:N'.Nodup)(hc:X.calm=G)(hi:xi X C pi tg du ι)
  (BY:∀U cl c s H ex,GY .am (C.u U) tg T γ) (BX:∀U cl c s H ex,w9 .am (C.u U) pc ifs τ) (r_:∀U cl c s H ex,PQ .am (C.u U) pe elt φ) (h1:pc=G:=by rfl) (h2:pe=G:=by rfl)
  (hT:T.all (λi=>match lk[i]? with|some (M _)=>η|_=>G)=G:=by rfl) (hs:∀x,abu du .f x=pure x:=by intro _;rfl):PQ X C pi .an (DB hp lk ι γ τ φ):=by
 subst h1 h2;have Y:=Links.of L;have γm:=(BY (λ_=>False) [] 0 X.s₀ X.H₀ []).mono;have τm:=(BX (λ_=>False) [] 0 X.s₀ X.H₀ []).mono;have φm:=(r_ (λ_=>False) [] 0 X.s₀ X.H₀ []).mono;refine{λβ R R' k h=>hi.mono β _ _ (λds kd O q=>{q.1,q.2.mono λo z=>k _ _ _ z}) h,?_};refine(u6 (g:={tg,du,ifs,0}) (gs:=[]) (tg:=λa=>HD X C a T γ) (tt:=λa=>nk X .ak G τ) (ta:=λa=>O6 X C a φ)
  Y hc iR rfl rfl (λ_ _=>AE) hi.pi (λa cl c s H ex=>{(BY _ cl c s H ex).pg,(BX _ cl c s H ex).pt,iQ rfl (r_ _ cl c s H ex).pe}) hs).pre λσ H Q h=>?_
 let {β,own,s,h}:=h;refine{β,own,s,hi.mono β _ _ (λds k O h J H1 aw o1 it a ha=>?_) h};let {hk,q}:=h;exact Lc Y vI hT γm τm φm o1.sq ha it q λo H' q o2 r=>q _ _ aw (o1.xu o2 λz=>{(z),rfl}) (r.later o1.sn)
def xM (o:Bool)(N':List Str)(lk:List .aB)(L:md X.env.scope.names X.N scope N' lk=G)(vI:N'.Nodup)(hc:X.calm=G)(hi:∀U,xi X (C.u U) pi tg du ι)
  (BY:∀U cl c s H ex,GY .am (C.u U) tg T γ) (BX:∀U cl c s H ex,w9 .am (C.u U) pc ifs τ) (r_:∀U cl c s H ex,PQ .am (C.u U) pe elt φ)
  (hN:X.N.Nodup) (h1:pc=G:=by rfl) (h2:pe=G:=by rfl) (hT:T.all (λi=>match lk[i]? with|some (M _)=>η|_=>G)=G:=by rfl) (hy:X.N[i]?=M y:=by rfl) (hx:Loc X.env.scope y:=by first|exact .inl rfl|exact .inr rfl) (hf:X.fn y=G\/X.env.scope.names.lookup y=M .local:=by first|exact .inl rfl|exact .inr rfl|assumption)
  (xg:acD .an (M (.Name y pos')) uM.line .f=pure G:=by rfl)
  (yB:evalThenUse .an .f (assign (.Name y pos') .f)=(do let _ <- comprehension .an scope .f (firstIterPos [{tg,du,ifs,0}] pos) (newList []) η (eval du .f) (M (assign (.Name y pos') .f));pure ()):=by first|rfl|exact arm_evalThenUse_ListComp ..)
  (hs:∀x,abu du .f x=pure x:=by intro _;rfl) :
  PB X C (.Assign [.Name y pos'] .an uM) (λE β=>DB η lk ι γ τ φ β λd _ β'=>E.nx (β'.set i (M (match o with|true=>.own d|false=>.val G d)))):=by
 subst h1 h2;have L':=Links.of L;have γm:=(BY (λ_=>False) [] 0 X.s₀ X.H₀ []).mono;have τm:=(BX (λ_=>False) [] 0 X.s₀ X.H₀ []).mono;have φm:=(r_ (λ_=>False) [] 0 X.s₀ X.H₀ []).mono;refine{λE E' β l h=>(hi λ_=>False).mono β _ _ (λds kd Y q=>{q.1,q.2.mono λo z=>l.nx _ z}) h,λχ s σ H D I0 hh=>?_};obtain⟨Z,E,β,⟨own,sq,n⟩,h,ok⟩:=hh;refine uY (g:={tg,du,ifs,0}) (gs:=[]) (tg:=λa=>HD X C a T γ) (tt:=λa=>nk X .ak G τ) (ta:=λa=>O6 X C a φ)
  L' hc iR xg yB rfl hN hy hx hf (λ_ _=>AE) (hi λa=>H a=ξ).pi (λa cl c s H ex=>{(BY _ cl c s H ex).pg,(BX _ cl c s H ex).pt,iQ rfl (r_ _ cl c s H ex).pe}) hs χ s σ H D I0 ?_
 refine{β,own,sq.oj (C:=C.z) (U:=λa=>H a=ξ) λa z=>z,(hi λ_=>False).mono β _ _ (λds k Y h J H1 aw o1 it a ha=>?_) h};let {hk,q}:=h;refine Lc (C:=C.u λa=>H a=ξ) L' vI hT γm τm φm o1.sq ha it q λol H' q o2 r=>?_;have r':=r.later o1.sn;have m:=n.trans (o1.sn.trans o2.sn);cases o with
 |false=>exact ok.nx _ _ _ {_,(cy.noU o2.sq).iG (aA.aW (λa z=>z.elim id λz=>z.elim) (KV.rep r')),s9 m} q
 |true =>
  let {A,h1,h2,O}:=r';refine ok.nx _ _ _ {_,o2.sq.xI h1 h2 λc hc=>{(O c hc).2.2,(O c hc).2.1,(O c hc).1},?_} q;exact⟨λb hq=>by
   let {j,hj}:=hq
   by_cases aN:i=j
   ·rw[<- aN,os_eq]at hj;exact .inr (n.free (O b hj).1)
   ·rw[bM aN]at hj;exact m.w b {(j),hj},m.k,m.d⟩
end
end L2.Q
namespace gK
open PySem L2 L2.Q
def jD:aH ["many"] ["many"] (ak b5):=mkS
def IS {iY eW}(sD:D4 K mg iY eW)(B:Bs3 mg):aG P w K mg base bP 1 iY eW ["many"] (dz P w G FQ):=by
 refine qt sD.F jD (λds R WS=> by obtain⟨n,e,_⟩ := WS;subst e;rfl) λbD A outer s H E hr=>{_,(ao (aS (lcB ["i","j","many"] [ξ,ξ,M 0] .i (by decide:(["i","j","many"]:List Str).Nodup) rfl (xR B.range (aa (aB ag (bo.m bI) .af ai) (aa (rJ i8 ai) (aa (rJ i8 ai) af)))) (λ_ _ _ _ _ _=>(aq (i:=0) (by decide:(["i","j","many"]:List Str).Nodup))) (λ_ _ _ _ _ _=>dU) (λ_ _ _ _ _ _=>(xQ B.range (aa (aB aC ar .af ai) (aa (aB aC ar .ag ai) af)))) (λ_ _ _ _ _ _=>(aq (i:=1) (by decide:(["i","j","many"]:List Str).Nodup))) (λ_ _ _ _ _ _=>dU) (λ_ _ _ _ _ _=>(bQ (aa .af (aa .ad af))))))),λds R h=>?_}
 let {n,rfl,O,q}:=h;refine{_,rfl,tv,_,rfl,tv,_,rfl,rfl,tv,_,rfl,rfl,tv,(n:Int)-1,-1,rfl,{.a,.a,.a,.a},tv,?_}
 have en:((n:Int)-1 - -1).toNat=n:=by lia
 rw[en];refine{λa β o=>a<=n/\(∃x0 L,β=[x0,L,M (.val η (.int n))])/\o=(((aaA n).take a).flatMap (fK n)).map UT,{aaJ _,{_,_,rfl},rfl},?_,?_}
 ·rintro a d β o hd ⟨ha,⟨x0,L,rfl⟩,rfl⟩;let {Tr,rfl}:=uS hd;have e1:(n:Int)-1-a=((n-1-a:Nat):Int):=by lia
  rw[e1];refine{_,rfl,tv,_,rfl,tv,_,rfl,tv,_,rfl,tv,((n-1-a:Nat):Int)+1,(n:Int)+1,rfl,{.a,.a,.a,.a},?_}
  have Y:((n:Int)+1-(((n-1-a:Nat):Int)+1)).toNat=a+1:=by lia
  rw[Y];refine{λb β o=>b<=a+1/\(∃L,β=[M (.val G (.int ((n-1-a:Nat):Int))),L,M (.val η (.int n))])/\o=(((aaA n).take a).flatMap (fK n)++(fK n a).take b).map UT,{aaJ _,{_,rfl},by simp},?_,?_}
  ·rintro b d β o hd ⟨hb,⟨L,rfl⟩,rfl⟩;let {lq,rfl}:=c5 hd;refine{_,rfl,tv,_,rfl,tv,nG,tv,?_,lq,{_,rfl},?_}
   ·rw[aan,aax];exact Dg O Tr lq
   ·rw[show ((n-1-a:Nat):Int)+1+(b:Int)=((n-a+b:Nat):Int) by lia,Bi lq,<- abx,abb,abb,abb]
    rfl
  ·rintro β o ⟨_,⟨L,rfl⟩,rfl⟩;refine{Tr,{_,_,rfl},?_};rw[cZ,Dx,acI,acj Tr,List.flatMap_append];simp
 ·rintro β o ⟨_,⟨x0,L,rfl⟩,rfl⟩;rw[uR,abP .c]
  exact{(tv),tv,q}
def bU:aH ["row","many","ties","partners","a","b"] ["row"] (ak d7):=mkS
def IU {vY mZ}(Hk:D5 K mg vY mZ)(B:Bs3 mg):aG P w K mg base bP 1 vY mZ ["row"] (dz P w G wd):=by
 refine qt Hk.F bU (λds R WR=> by obtain⟨n,ps,e,_⟩ := WR;subst e;rfl) λbD A outer s H E hr=>⟨_,(ah (oX .af (bL (n:=2) rfl (aD (aq (i:=1) bU.nd) (aD (aq (i:=2) bU.nd) bt))))
    (ah (xM (i:=3) G ["point"] [ξ] .i (by decide:(["point"]:List Str).Nodup) rfl (λ_=>(aU B.range (aa .ad af))) (λ_ _ _ _ _ _=>(aq (i:=0) (by decide:(["point"]:List Str).Nodup))) (λ_ _ _ _ _ _=>dU) (λ_ _ _ _ _ _=>(aK af)) bU.nd)
    (ah (cf abo rfl (bK .ag) (bL (n:=2) rfl (aD (aq (i:=4) bU.nd) (aD (aq (i:=5) bU.nd) bt))) (ao (mU (i:=3) G (λ_=>(ae (i:=5))) (λ_=>(ae (i:=4))))))
    (ao (kQ (i:=3)))))),λds R h=>?_⟩
 let {n,ps,rfl,ok,q}:=h;have hn:=ok.le;refine{_,rfl,_,rfl,rfl,_,_,rfl,_,_,rfl,rfl,_,rfl,tv,n,rfl,.a,.a,tv,?_}
 rw[aby];refine fA (λ_=>G) (λ_=>.lst []) tv (by rw[aa5];exact oB .a) (λx hx x0 o J ho h1 _=>{aaJ _,tv,ho,h1 rfl _}) ?_
 rw[fX];refine{_,rfl,_,rfl,tv,?_};refine{λm β=>∃O L,β=[M (.val η (Bh n ps)),M (.val G (.int n)),M (.val η (SW ps)),M (.own (Md n (ps.take m))),O,L],{_,_,rfl},?_,?_}
 ·rintro m d β hd ⟨O,L,rfl⟩;rw[aaB]at hd;let {p,Y,rfl}:=aaK.mp hd;let {h1,h2}:=ok.lt p (aaY Y);refine{_,rfl,rfl,_,_,rfl,_,_,rfl,rfl,{_,rfl},_,rfl,_,_,_,_,rfl,rfl,by rw[aan,aa5];exact yj rfl (show p.1<n by lia),dB (show p.1<n by lia),_,rfl,tv,rfl,?_,?_}
  ·unfold Q.cu;rw[aan];have:=Ic (ps:=ps.take m) (i:=p.1);rw[aa4]at this;have:=ok.sm;exact Ku .a
  ·refine{M (.val G (.int p.1)),M (.val G (.int p.2)),?_};have e:ps.take (m+1)=ps.take m++[(p.1,p.2)]:=by rw[acI,Y];rfl
   rw[LV (show p.1<n by lia),e]
   rfl
 ·rintro β ⟨O,L,rfl⟩;rw[aan,aeH];exact{_,rfl,q}
end gK
namespace L2.Q
open PySem
def Ym (ps:List (Nat×Nat))(F G:Nat->Nat->Int)(i j:Nat):Int:=(((qM ps i).filter λk=>decide (k<j)).map λk=>F (k-i-1) (i+1)*G (j-k-1) (k+1)).sum
def yM (ps:List (Nat×Nat))(F G:Nat->Nat->Int):Nat->Nat->Int
 |0,_=>0
 |l+1,i=>yM ps F G l (i+1)+Ym ps F G i (i+(l+1))
def Bd (T:Nat->Nat->Int):Prop:=∀l i,0<=T l i/\T l i<=(su (l+1):Nat)
def Bd.mul (Y:Bd F)(O:Bd L)(h:l+m<=38):mP (F l i) (L m j):=by
 have h3:su 20<2 ^ 64:=by decide
 let {a0,a1}:=Y l i;let {b0,b1}:=O m j;rcases abG 19 l with q|q
 ·have:=v9 (show m+1<=20 by lia)
  exact .inr {.a,.a}
 ·have:=v9 (show l+1<=20 by lia)
  exact .inl {.a,.a}
def HF {l:List Nat}{f:Nat->Int}{c:Int}(h:∀k∈l,0<=f k/\f k<=c):0<=(l.map f).sum/\(l.map f).sum<=(l.length:Int)*c:=by
 induction l with
 |nil=>exact{Int.le_refl _,by simp}
 |cons x l ih =>
  let {O,i1}:=ih λk hk=>h k (aaL _ hk);let {x0,L}:=h x aaO;rw[aa8,List.sum_cons,aaS];refine{.a,?_}
  rw[Int.natCast_add,Int.add_mul];lia
def Sm {ps:List (Nat×Nat)}{F G:Nat->Nat->Int}(O:∀p∈ps,p.1<p.2)(nd:ps.Nodup)(hF:Bd F)(hG:Bd G):Bd (yM ps F G):=by
 intro l
 induction l with
 |zero=>exact λi=>{Int.le_refl _,by show (0:Int)<=_;lia}
 |succ l ih =>
  intro i;let {i0,i1}:=ih (i+1);have L:=GK O nd (l:=l) (i:=i);unfold OV at L;rw[aax,aan,abd]at L;let {s0,s1}:=HF (l:=(qM ps i).filter λk=>decide (k<i+(l+1))) (f:=λk=>F (k-i-1) (i+1)*G (i+(l+1)-k-1) (k+1)) (c:=(su (l+1):Nat)) λk hk=>by
   let {h1,Y}:=ab8.mp hk;have h1:i<k:=O _ (tW.mp h1);have Y:k<i+(l+1):=of_decide_eq_true Y;let {a0,a1}:=hF (k-i-1) (i+1);let {b0,b1}:=hG (i+(l+1)-k-1) (k+1);refine{Int.mul_nonneg a0 b0,?_};have h3:=As (k-i-1+1) (i+(l+1)-k-1+1);rw[show k-i-1+1+(i+(l+1)-k-1+1)=l+1 by lia]at h3
   exact Int.le_trans (Int.mul_le_mul a1 b1 b0 .a) (by rw[<- Int.natCast_mul];lia)
  have e:yM ps F G (l+1) i=yM ps F G l (i+1)+Ym ps F G i (i+(l+1)):=rfl;rw[e];unfold Ym;refine{.a,?_}
  have h4:((((qM ps i).filter λk=>decide (k<i+(l+1))).length:Nat):Int)*(su (l+1):Nat)<=(l:Int)*(su (l+1):Nat):=Int.mul_le_mul_of_nonneg_right (by have:(List.filter (λk=>decide (k<i+(l+1))) (qM ps i)).length+1<=l+1:=L;lia) .a
  have h5:((su (l+1+1):Nat):Int)=((l:Int)+2)*(su (l+1):Nat):=by
   show (((l+1+1)*su (l+1):Nat):Int)=_;rw[Int.natCast_mul]
   congr 1
  rw[h5,Int.add_mul];lia
def FW:FD:=λds R=>∃(n:Nat) (ps:List (Nat×Nat)) (F G:Nat->Nat->Int),ds=[Md n ps,fE n F,fE n G]/\Lj n ps/\n<=40/\Bd F/\Bd G/\R (fE n (yM ps F G))
def FW.mono:cH FW:=λds R R' k cO=>by let {n,ps,F,L,e,h1,h2,Y,O,q}:=cO;exact{n,ps,F,L,e,h1,h2,Y,O,k _ q}
end L2.Q
namespace gK
open PySem L2 L2.Q
def a5:aH ["partners","beneath","behind","many","counts","i","j","tied"] ["partners","beneath","behind"] (ak bR):=mkS
def ML {v7 m8}(Hl:D6 K mg v7 m8){iY eW}(sD:D4 K mg iY eW)(B:Bs3 mg):aG P w K mg base bP 2 v7 m8 ["partners","beneath","behind"] (dz P w G FW):=by
 have Yx:aG P w K mg base bP 1 _ _ _ (dz P w G FQ):=IS sD B;refine qt Hl.F a5 (λds R WQ=> by obtain⟨n,ps,F,O,e,_⟩ := WQ;subst e;rfl) λbD A outer s H E hr=>⟨_,(ah (aJ (i:=3) (aV ag (bH.m cR) B.len dJ (aa .af af)) a5.nd)
    (ah (xM (i:=4) G ["i"] [ξ] .i (by decide:(["i"]:List Str).Nodup) rfl (λ_=>(aU B.range (aa (aB aC ar .aj ai) af))) (λ_ _ _ _ _ _=>(aq (i:=0) (by decide:(["i"]:List Str).Nodup))) (λ_ _ _ _ _ _=>dU) (λ_ _ _ _ _ _=>(aK (aa ai af))) a5.nd)
    (ah (cf abo rfl (bK (aX FQ.mono Yx (hr.mono .b) sD.m sD.F.kp sD.b (aa .aj af))) (bL (n:=2) rfl (aD (aq (i:=5) a5.nd) (aD (aq (i:=6) a5.nd) bt))) (ah (xM (i:=7) η ["k","beneath","behind","i","j"] [ξ,M 1,M 2,M 5,M 6] .i (by decide:(["k","beneath","behind","i","j"]:List Str).Nodup) rfl (λ_=>(bK (aO ag bj .af (ae (i:=5))))) (λ_ _ _ _ _ _=>(aq (i:=0) (by decide:(["k","beneath","behind","i","j"]:List Str).Nodup))) (λ_ _ _ _ _ _=>(jQ (aF ag (bo.m cg) .af (ae (i:=4))))) (λ_ _ _ _ _ _=>(aB ag (bo.m tN) (aO ag bj (aO ag bj .ad (aB aC ar .aj ai)) (aB ag (bo.m bI) (aB ag (bo.m bI) .af .aj) ai)) (aO ag bj (aO ag bj .ag (aB aC ar .af ai)) (aB ag (bo.m bI) (aB ag (bo.m bI) (ae (i:=4)) .af) ai)))) a5.nd)
    (ao (mU (i:=4) G (λ_=>(aB aC ar (aO ag bj (aO ag bj (ae (i:=4)) (aB aC ar (ae (i:=5)) ai)) (aB ag (bo.m bI) (aB ag (bo.m bI) (ae (i:=6)) (ae (i:=5))) ai)) (aV ag (bH.m (Cm rfl)) B.sum OL (aa (ae (i:=7)) af)))) (λ_=>(ae (i:=5)))))))
    (ao (kQ (i:=4)))))),λds R h=>?_⟩
 let {n,ps,F,O,rfl,ok,aag,bF,bG,q}:=h;have hn:=ok.le;have hp:∀p∈ps,p.1<p.2:=λp hp=>(ok.lt p hp).1;have el:OA [Md n ps]=M (.int n):=by
  show M (D.int (((aaA n).map _).length:Nat))=_;rw[aan,aa5]
 refine{_,rfl,tv,_,el,_,rfl,tv,_,rfl,tv,(n:Int)+1,rfl,.a,.a,tv,?_}
 rw[show ((n:Int)+1).toNat=n+1 by lia]
 refine fA (λ_=>G) (λ_=>.lst [.int 0]) tv (by rw[aa5];exact oB .a) (λx hx x0 o J ho Y _=>{tv,AZ,tv,ho,Y rfl _}) ?_
 rw[fX];refine{_,rfl,tv,n,rfl,hn,_,rfl,tv,?_};refine{λidx β=>∃L x5 x6 x7,β=[M (.val η (Md n ps)),M (.val η (fE n F)),M (.val η (fE n O)),M (.val G (.int n)),M (.own (sV n L (yM ps F O))),x5,x6,x7]/\AR n idx L,{λ_=>1,_,_,_,rfl,wx},?_,?_}
 ·rintro idx d β hd ⟨L,x5,x6,x7,rfl,dn⟩;rw[aaB]at hd;let {p,Jy,rfl}:=aaK.mp hd;let {a,b,ha,hb,rfl,hL,Fi}:=yI dn Jy;have eL:sV n L (yM ps F O)=sV n (g_ n a b) (yM ps F O):=rp hL;have e0:g_ n a b (n-1-a)=b+1:=by unfold g_;rw[Δ .a,ω rfl]
  rw[eL];refine{_,rfl,rfl,_,_,rfl,_,_,rfl,rfl,?_};have hpl:(qM ps (n-1-a)).length<=400:=by unfold qM;rw[aan];exact aa3 (acC _ _) ok.sm
  refine{_,rfl,tv,_,rfl,_,Vg rfl .a,.inr {_,rfl,tv,?_}}
  refine fA (λk:Nat=>decide (k<n-a+b)) (λk=>.int (F (k-(n-1-a)-1) (n-1-a+1)*O (n-a+b-k-1) (k+1))) tv (oB (aa3 hpl .b)) (λk hk y0 o J ho j1 j2=>?_) ?_
  ·refine{_,rfl,tv,_,rfl,_,rfl,_,rfl,?_}
   by_cases Zo:(k:Int)<((n-a+b:Nat):Int)
   ·refine ur (Ξ Zo) ?_;have Xv:k<n-a+b:=by lia
    have yz:(n-1-a,k)∈ps:=tW.mp hk;let {Y,h2}:=ok.lt _ yz;have Y:n-1-a<k:=Y;have h2:k<n:=h2;refine{_,rfl,tv,_,rfl,tv,_,rfl,_,zW (i:=n-1-a+1) .a .a,.inr {tv,_,rfl,tv,_,rfl,_,rfl,tv,_,rfl,_,zX (l:=k-(n-1-a)-1) .a .a,tv,?_}}
    refine{_,rfl,tv,_,rfl,tv,_,rfl,_,zW (i:=k+1) .a .a,.inr {tv,_,rfl,tv,_,rfl,_,rfl,tv,_,rfl,_,zX (l:=n-a+b-k-1) .a .a,?_}}
    exact{.int (F (k-(n-1-a)-1) (n-1-a+1)*O (n-a+b-k-1) (k+1)),Oz (bF.mul bG .a),tv,ho,j1 (Ξ Xv) _}
   ·exact jW (Φ Zo) (j2 (Φ .a) _)
  refine{{_,rfl},_,rfl,_,_,_,_,rfl,rfl,by rw[aan,aa5];exact yj rfl (show n-1-a<n+1 by lia),dB (show n-1-a<n+1 by lia),?_}
  have el2:g_ n a b (n-1-a+1)=n+1-(n-1-a+1):=by unfold g_;rw[ω .a]
  refine{_,rfl,tv,_,rfl,tv,_,rfl,_,zW (i:=n-1-a+1) .a .a,.inr {tv,_,rfl,tv,_,rfl,_,rfl,tv,_,rfl,_,zX (l:=n-a+b-(n-1-a)-1) .a (by rw[el2];lia),tv,?_}}
  have ev:yM ps F O (n-a+b-(n-1-a)-1) (n-1-a+1)+(((qM ps (n-1-a)).filter λk=>decide (k<n-a+b)).map λk=>F (k-(n-1-a)-1) (n-1-a+1)*O (n-a+b-k-1) (k+1)).sum=yM ps F O (b+1) (n-1-a):=by
   rw[show n-a+b-(n-1-a)-1=b by lia,show n-a+b=n-1-a+(b+1) by lia]
   rfl
  refine{_,rfl,tv,_,sum_ints,_,rfl,tv,rfl,?_,?_}
  ·rw[e0];unfold sW;rw[aan,aa5];exact Ku .a
  ·refine{g_ n a (b+1),M (.val G (.int ((n-1-a:Nat):Int))),M (.val G (.int ((n-a+b:Nat):Int))),M (.val G (.lst (((qM ps (n-1-a)).filter λk=>decide (k<n-a+b)).map λk=>D.int (F (k-(n-1-a)-1) (n-1-a+1)*O (n-a+b-k-1) (k+1))))),?_,.inr {a,b+1,ha,.a,λ_ _=>rfl,Fi}}
   rw[ev,e0,HQ ha hb];rfl
 ·rintro β ⟨L,x5,x6,x7,rfl,dn⟩;rw[aan]at dn;have e:sV n L (yM ps F O)=fE n (yM ps F O):=rp (B_ dn);rw[e];exact{_,rfl,q}
def fY:FD:=λds R=>∃(n:Int) (rows ts:List .ae),ds=[f7 n rows,.lst .ah]/\ts.length<=600/\cj n rows/\Good rows ts/\R .cI
def fY.mono:cH fY:=λds R R' k cO=>by let {n,rows,ts,e,Y,O,L,q}:=cO;exact{n,rows,ts,e,Y,O,L,k _ q}
def cW:aH ["one","other","a","b","c","d"] ["one","other"] (ak e9):=mkS
def qO {il L}(dX:D7 K mg il L):aG P w K mg base bP 1 il L ["one","other"] (dz P w G pV):=by
 refine qt dX.F cW (λds R WO=> by obtain⟨t,u,e,_⟩ := WO;subst e;rfl) λbD A outer s H E O=>⟨_,(ah (oX .af (bL (n:=2) rfl (aD (aq (i:=2) cW.nd) (aD (aq (i:=3) cW.nd) bt))))
    (ah (oX .ad (bL (n:=2) rfl (aD (aq (i:=4) cW.nd) (aD (aq (i:=5) cW.nd) bt))))
    (ao (aS (zB (iM .ag (eG cg (ae (i:=4)) (eG cg .aj (kL cg (ae (i:=5)))))) (xV (iM (ae (i:=4)) (eG cg .ag (eG cg (ae (i:=5)) (kL cg .aj)))))))))),λds R h=>?_⟩
 obtain⟨t,u,rfl,⟨a,b,rfl⟩,⟨c,d,rfl⟩,q⟩:=h;refine{_,rfl,_,rfl,rfl,_,_,rfl,_,_,rfl,rfl,?_};refine{_,rfl,_,rfl,rfl,_,_,rfl,_,_,rfl,rfl,?_};refine Gp (a:=a) (b:=c) (c:=b) (d:=d) rfl rfl rfl rfl {_,rfl,Pd (λh=>{tv,?_}) (λh=>Gp (a:=c) (b:=a) (c:=d) (d:=b) rfl rfl rfl rfl {tv,?_})}
 ·have:eT [a,b] [c,d]=G:=by show (_ || _)=G;rw[h];rfl
  rw[<- this];exact q
 ·have:eT [a,b] [c,d]=(decide (c<a)&&(decide (a<d)&&decide (d<b))):=by show (_ || _)=_;rw[h];rfl
  rw[<- this];exact q
def lT:aH ["one","other"] ["one","other"] (ak de):=mkS
def Eu {ip b_}(dS:D8 K mg ip b_):aG P w K mg base bP 1 ip b_ ["one","other"] (dz P w G pQ):=by
 refine qt dS.F lT (λds R WN=> by obtain⟨t,u,e,_⟩ := WN;subst e;rfl) λbD A outer s H E L=>{_,(ao (aS (zB (f9 ag (bo.m (o7 L.gL)) (aO ag bj .af ai) .ad) (xV (f9 ag (bo.m (o7 L.gL)) (aO ag bj .af ai) .ad))))),λds R h=>?_}
 obtain⟨t,u,rfl,⟨a,b,rfl⟩,q⟩:=h;refine{_,rfl,tv,_,rfl,tv,_,rfl,_,qe a u,_,rfl,lL (λh=>{tv,?_}) (λh=>{_,rfl,tv,_,rfl,tv,_,rfl,_,qe b u,tv,?_})}
 ·show R _;simpa[dA,h] using q
 ·show R _;simpa[dA,h] using q
def iH:aH ["row","ties","k","j"] ["row","ties","k"] (ak gU):=mkS
def Ez {iD cw}(dF:D9 K mg iD cw){ip b_}(dS:D8 K mg ip b_){il b9}(dX:D7 K mg il b9)(B:Bs mg):aG P w K mg base bP 2 iD cw ["row","ties","k"] (dz P w G pU):=by
 have GS:aG P w K mg base bP 1 _ _ _ (dz P w G pQ):=Eu dS;have GX:aG P w K mg base bP 1 _ _ _ (dz P w G pV):=qO dX;refine qt dF.F iH (λds R WM=> by obtain⟨n,rows,ts,k,e,_⟩ := WM;subst e;rfl) λbD A outer s H E hr=>⟨_,(nQ (cn (aF ag (bo.m (rM hr.gL)) (aO ag bj .ad .ag) (aO ag bj .af ai)) (ao (aS (bQ (aa cE (aa .ag af))))) bx)
    (nQ (cn (rh.t (gX (aF ag (bo.m l8) .ag ai) (fx (aF ag (bo.m (IP hr.LB)) (aO ag bj .ad .ag) (aO ag bj .ad (aB ag (bo.m bI) .ag ai)))))) (ao (aS (bQ (aa cE (aa .ag af))))) bx)
    (ah (cf abo rfl (aU B.range (aa .ag af)) (aq (i:=3) iH.nd) (ao (cn (gY (aX pQ.mono GS (hr.mono .b) dS.m dS.F.kp dS.b (aa (aO ag bj .ad .aj) (aa (aO ag bj .ad .ag) af)))) (ao (aS (bQ (aa cE (aa .aj (aa .ag af)))))) bx)))
    (ah (cf abo rfl (aU B.range (aa .ag af)) (aq (i:=3) iH.nd) (ao (cn (gY (aX pV.mono GX (hr.mono .b) dX.m dX.F.kp dX.b (aa (aO ag bj .ad .aj) (aa (aO ag bj .ad .ag) af)))) (ao (aS (bQ (aa cE (aa .aj (aa .ag af)))))) bx)))
    (ao (aS eP)))))),λds R h=>?_⟩
 let {n,rows,ts,k,rfl,hk,hp,hb,q}:=h;obtain⟨t,et⟩:∃t,ts[k]?=M t:={ts[k],aav hk};have pt:Pair t:=hp t (aaY et);rw[mC et]at q;unfold lE at q;refine{λβ=>β=[M (.val η (.tup [.int n,.lst (rows.map kD)])),M (.val η (.lst .ah)),M (.val η (.int (k:Int))),ξ]/\t∈rows,?_,?_}
 ·refine{_,rfl,tv,_,rfl,_,i5 et,tv,_,rfl,tv,_,rfl,.inr {_,qb t rows,_,rfl,Jn (λh=>?_) (λh=>{(rfl),h})}};exact{tv,_,rfl,tv,nG,tv,by rw[Δ h]at q;exact q}
 ·rintro β ⟨rfl,ht⟩;rw[ω ht]at q;refine{λβ=>β=[M (.val η (.tup [.int n,.lst (rows.map kD)])),M (.val η (.lst .ah)),M (.val η (.int (k:Int))),ξ]/\(decide (0<k)&&uv ts (λu=>!HT.lexLt u t) (k-1))=η,?_,?_}
  ·refine{_,rfl,tv,_,rfl,_,rfl,lL (λyz=>?_) (λyz=>jW rfl {rfl,?_})}
   ·have KW:0<k:=by lia
    obtain⟨u,L⟩:∃u,ts[k-1]?=M u:={ts[k-1],aav .a}
    have ei:qD (.lst .ah) (.int ((k:Int)-1))=M (kD u):=by
     rw[show (k:Int)-1=((k-1:Nat):Int) by lia];exact i5 L
    have O:uv ts (λu=>!HT.lexLt u t) (k-1)=!HT.lexLt u t:=by unfold uv;rw[L]
    refine{_,rfl,tv,_,rfl,_,i5 et,tv,_,rfl,tv,_,rfl,tv,_,rfl,_,ei,_,J9 t u,_,rfl,Pd (λh=>?_) (λh=>{rfl,?_})}
    ·exact{tv,_,rfl,tv,nG,tv,by rw[ω (by rw[O,h];simp[KW])]at q;exact q}
    ·rw[O,h];simp
   ·have:¬ 0<k:=by lia
    simp[this]
  ·rintro β ⟨rfl,ho⟩;rw[Δ (by rw[ho];simp)]at q
   refine{_,rfl,tv,k,rfl,.a,.a,tv,?_}
   refine{λi β=>(∃Y,β=[M (.val η (.tup [.int n,.lst (rows.map kD)])),M (.val η (.lst .ah)),M (.val η (.int (k:Int))),Y])/\∀j<i,uv ts (λu=>dA u t) j=η,{{_,rfl},λj hj=>.a},?_,?_}
   ·rintro i d β hd ⟨⟨Y,rfl⟩,qV⟩;let {hi,rfl}:=c5 hd;rw[aby]at hi;obtain⟨u,L⟩:∃u,ts[i]?=M u:={ts[i],aav .a}
    have ei:qD (.lst .ah) (.int (0+(i:Int)))=M (kD u):=by
     rw[show 0+(i:Int)=(i:Int) by lia];exact i5 L
    have O:uv ts (λu=>dA u t) i=dA u t:=by unfold uv;rw[L]
    refine{_,rfl,tv,_,rfl,_,ei,tv,_,rfl,tv,_,rfl,_,i5 et,tv,u,t,rfl,hp u (aaY L),_,rfl,Pd (λh=>?_) (λh=>{{_,rfl},λj hj=>?_})}
    ·rw[jY hi (by rw[O];exact h) qV]at q
     exact{tv,_,rfl,tv,_,rfl,tv,O8,tv,by rw[show (0+(i:Int))=(i:Int) by lia];exact q}
    ·by_cases t7:j<i
     ·exact qV j t7
     ·rw[show j=i by lia,O];exact h
   ·rintro β ⟨⟨Y,rfl⟩,qV⟩;rw[cZ,aby]at qV;rw[find_none qV]at q;refine{_,rfl,tv,k,rfl,.a,.a,tv,?_}
    refine{λi β=>(∃Y,β=[M (.val η (.tup [.int n,.lst (rows.map kD)])),M (.val η (.lst .ah)),M (.val η (.int (k:Int))),Y])/\∀j<i,uv ts (λu=>eT u t) j=η,{{_,rfl},λj hj=>.a},?_,?_}
    ·rintro i d β hd ⟨⟨Y,rfl⟩,qV⟩;let {hi,rfl}:=c5 hd;rw[aby]at hi;obtain⟨u,L⟩:∃u,ts[i]?=M u:={ts[i],aav .a}
     have ei:qD (.lst .ah) (.int (0+(i:Int)))=M (kD u):=by
      rw[show 0+(i:Int)=(i:Int) by lia];exact i5 L
     have O:uv ts (λu=>eT u t) i=eT u t:=by unfold uv;rw[L]
     refine{_,rfl,tv,_,rfl,_,ei,tv,_,rfl,tv,_,rfl,_,i5 et,tv,u,t,rfl,hp u (aaY L),pt,_,rfl,Pd (λh=>?_) (λh=>{{_,rfl},λj hj=>?_})}
     ·rw[jY hi (by rw[O];exact h) qV]at q
      exact{tv,_,rfl,tv,_,rfl,tv,O8,tv,by rw[show (0+(i:Int))=(i:Int) by lia];exact q}
     ·by_cases t7:j<i
      ·exact qV j t7
      ·rw[show j=i by lia,O];exact h
    ·rintro β ⟨⟨Y,rfl⟩,qV⟩;rw[cZ,aby]at qV;rw[find_none qV]at q;exact{(tv),q}
def fq:aH ["row","ties","k","fault"] ["row","ties"] (ak d9):=mkS
def Ey {jr cP}(dO:xb K mg jr cP){iD cw}(dF:D9 K mg iD cw){ip b_}(dS:D8 K mg ip b_){il b9}(dX:D7 K mg il b9)(B:Bs mg):aG P w K mg base bP 3 jr cP ["row","ties"] (dz P w G pS):=by
 have GF:aG P w K mg base bP 2 _ _ _ (dz P w G pU):=Ez dF dS dX B;refine qt dO.F fq (λds R WL=> by obtain⟨n,rows,ts,e,_⟩ := WL;subst e;rfl) λbD A outer s H E hr=>⟨_,(ah (cf abo rfl (aU B.range (aa (aV ag (bH.m cR) B.len dJ (aa .ad af)) af)) (aq (i:=2) fq.nd) (ah (aJ (i:=3) (aX pU.mono GF (hr.mono .b) dF.m dF.F.kp dF.b (aa .af (aa .ad (aa .ag af)))) fq.nd)
    (ao (cn (aF ag (bo.m Em) .aj eP) (ao (aS .aj)) bx))))
    (ao (aS eP))),λds R h=>?_⟩
 let {n,rows,ts,rfl,hl,hp,q}:=h;refine{_,rfl,tv,_,rfl,tv,_,rfl,by rw[aan];lia,by rw[aan];lia,tv,?_}
 rw[aan];refine{λi β=>(∃O L,β=[M (.val η (.tup [.int n,.lst (rows.map kD)])),M (.val η (.lst .ah)),O,L])/\∀j<i,jZ rows ts j=ξ,{{_,_,rfl},λj hj=>.a},?_,?_}
 ·rintro i d β hd ⟨⟨O,L,rfl⟩,qV⟩;let {hi,rfl}:=c5 hd;rw[aby]at hi;refine{_,rfl,tv,_,rfl,tv,_,rfl,tv,n,rows,ts,i,by rw[Int.zero_add],hi,hp,.a,?_}
  cases Y:jZ rows ts i with
  |none =>
   refine{_,rfl,tv,_,rfl,_,rfl,jW rfl {{_,_,rfl},λj hj=>?_}}
   by_cases t7:j<i
   ·exact qV j t7
   ·rw[show j=i by lia];exact Y
  |some x =>
   refine{_,rfl,tv,_,rfl,_,rfl,ur rfl {_,rfl,FL (M x),?_}};rw[<- vK hi Y qV];exact q
 ·rintro β ⟨⟨O,L,rfl⟩,qV⟩;rw[cZ,aby]at qV;refine{tv,?_};have:jX rows ts=ξ:=JM qV;rw[this]at q;exact q
def Be:aH ["row","ties"] ["row","ties"] (ak kJ):=mkS
def vd {jL c_}(dE:xj K mg jL c_){jr cP}(dO:xb K mg jr cP){iD cw}(dF:D9 K mg iD cw){ip b_}(dS:D8 K mg ip b_){il b9}(dX:D7 K mg il b9)(B:Bs mg):aG P w K mg base bP 4 jL c_ ["row","ties"] (dz P w G j4):=by
 have GO:aG P w K mg base bP 3 _ _ _ (dz P w G pS):=Ey dO dF dS dX B;refine qt dE.F Be (λds R NR=> by obtain⟨n,rows,ts,e,_⟩ := NR;subst e;rfl) λbD A outer s H E O=>{_,(ao (aS (f9 ag (bo.m jm) (aX pS.mono GO (O.mono .b) dO.m dO.F.kp dO.b (aa .af (aa .ad af))) eP))),λds R h=>?_}
 let {n,rows,ts,rfl,hl,Y,q}:=h;refine{_,rfl,tv,_,rfl,tv,n,rows,ts,rfl,hl,Y,tv,?_};cases L:jX rows ts with
 |none=>rw[L]at q;exact{_,rfl,tv,q}
 |some x=>rw[L]at q;exact{_,rfl,tv,q}
def kG:aH ["row","ties"] ["row","ties"] (ak eF):=mkS
def fV {da bE}(d6:y_ K mg da bE){jL c_}(dE:xj K mg jL c_){jr cP}(dO:xb K mg jr cP){iD cw}(dF:D9 K mg iD cw){ip b_}(dS:D8 K mg ip b_){il b9}(dX:D7 K mg il b9)(B:Bs mg):aG P w K mg base bP 5 da bE ["row","ties"] (dz P w G fY):=by
 have GE:aG P w K mg base bP 4 _ _ _ (dz P w G j4):=vd dE dO dF dS dX B;refine qt d6.F kG (λds R WK=> by obtain⟨n,rows,ts,e,_⟩ := WK;subst e;rfl) λbD A outer s H E hr=>{_,(ao (cn (zw (gY (aX j4.mono GE (hr.mono .b) dE.m dE.F.kp dE.b (aa .af (aa .ad af))))) dk bx)),λds R h=>?_}
 let {n,rows,ts,rfl,hl,Y,L,q}:=h;refine{_,rfl,tv,_,rfl,tv,n,rows,ts,rfl,.a,λu O=>(Y u (L.1 u O)).pair,_,rfl,jW (by rw[pO.mpr L];rfl) q}
end gK
namespace L2.Q
open PySem PySem.Spec PySem.SeqAt PyProof.Rows
theorem uB:∀{as bs:List D},D.bO as=G->D.bO bs=G->D.bO (gh as bs)=G
 |[],_,_,_=>rfl
 |_::_,[],_,_=>rfl
 |a::as,b::bs,O,L=>by
  let {a1,a2}:=ace.mp O;let {b1,Y}:=ace.mp L;refine ace.mpr {ace.mpr {a1,ace.mpr {(b1),rfl}},uB a2 Y}
def filter_all {α:Type}(l:List α):l.filter (λ_=>G)=l:=by rw[ad1];exact λ_ _=>rfl
end L2.Q
namespace Pz
open PySem PySem.Spec PyProof.Rows
def mT:Option (Int×Tok)->Int×Tok->Option (Int×Tok)
 |none,x=>M x
 |some m,x=>if x.1>m.1 then M x else M m
def Yn:Option (Int×Tok)->Array aam
 |none=>#[]
 |some m=>#[.int m.1 m.2,.int m.1 m.2]
def R1 (d:aam):Option (Int×Tok)->aam
 |none=>d
 |some m=>.int m.1 m.2
def uk (a v:aam):argsOk "max" {[a],[(abO "default",v)]}:=by unfold argsOk;kernel_rfl
variable {R:Result->aao->Prop}{I l S:μ}{d:aam}{xs:Array (Int×Tok)}
def JH {a b:Int}{t u:Tok}{s:aao}{Q:aam->aao->Prop}{E:aam->aao->Prop}(h:Q (.bool (decide (a>b))) s):aaD .ab A (richCompare .Gt (.int a t) (.int b u)) Q E s :=
 CmpOf.ints_gt (P:=λi v=>∃t,v=.int (if i=0 then a else b) t) (λi=>if i=0 then a else b) (λ_ _ h=>h) 0 1 _ _ s Q E {(t),rfl} {(u),rfl} h
def loop (hh:A.handled=ξ)(nI:l≠I)(nS:S≠I)(nl:S≠l):∀(r j:Nat) (s:aao) (st:Option (Int×Tok)) (c:Nat),xs.size=j+r->s.heap.IsListIter I l j->s.heap.IsList l (adE xs) ->
  s.heap.get? S=M {cls:=.type "list",dict:=ξ,data:=.seq (Yn st) c,slots:=#[]} ->
  (∀h' tk,(∀b o,b≠I->b≠S->s.heap.get? b=M o->h'.get? b=M o)->R (.ok (.ret (R1 d ((xs.toList.drop j).foldl mT st)))) {s with heap:=h',toks:=tk}) ->
  adg .ab A (.builtin "max.loop" {[.ref I,.none,.ref S],[("default",d)]}) R s:=by
 have W:=Walks.list (prog:=prog) (w:=w) (A:=A.in1) hh I l nI (adE xs);have nm:(toString "max" ++ toString ".loop" : String)="max.loop" := by decide
 intro r
 induction r with
 |zero =>
  intro j s st c e1 e2 e3 e4 k;have ej:j=(adE xs).size:=by simp[adE];lia
  rw[acV (by simp;lia)]at k
  refine acw PySem.F.entry_max_loop ?_;rw[acr PySem.F.plain_max_loop _];show aaD _ _ (seqItems? (.ref S) >>= _) _ _ s;refine aal (abT e4 rfl ?_);show aaD _ _ (tryCatch (acv (.ref I)) _ >>= _) _ _ s;refine aal (wpAny_tryCatch (W.done s _ _ (by rw[<- ej];exact{(e2),e3}) λh' tk g=>?_))
  have L:=g S _ (by simpa using nS) e4
  cases st with
  |none =>
   refine aal (acK (aap ?_));exact k h' tk λb o O Y e=>g b o (by simpa using O) e
  |some m =>
   show aaD _ _ (updateSeq S (λ_=>#[]) >>= _) _ _ _;refine aal (acY (hz:=by show (2:Nat)<=aaC;decide) L rfl (aal (ac_ (aap ?_))))
   exact k _ tk λb o O Y e=>(ab0 _ _ (abn Y)).trans (g b o (by simpa using O) e)
 |succ r ih =>
  intro j s st c e1 e2 e3 e4 k;have hj:j<xs.size:=by lia
  have hd:xs.toList.drop j=xs[j]::xs.toList.drop (j+1):=by
   rw[abh (by simpa using hj)]
   rfl
  rw[hd,abZ]at k;refine acw PySem.F.entry_max_loop ?_;rw[acr PySem.F.plain_max_loop _];show aaD _ _ (seqItems? (.ref S) >>= _) _ _ s;refine aal (abT e4 rfl ?_);show aaD _ _ (tryCatch (acv (.ref I)) _ >>= _) _ _ s;refine aal (wpAny_tryCatch (W.item j s _ _ (by simpa[adE] using hj) {(e2),e3} λv h' tk hv g2 g=>?_))
  have ev:v=.int xs[j].1 xs[j].2:=by
   rw[show (adE xs)[j]?=M (.int xs[j].1 xs[j].2) by simp[adE,hj]]at hv
   exact(aaZ hv).symm
  subst ev;have L:=g S _ (by simpa using nS) e4
  have on:∀(f:Array aam->Array aam) (o:Obj),h'.get? S=M o->∀b ob,b≠S->h'.get? b=M ob->(h'.update S (abL f)).get? b=M ob:=λf o _ b ob hb e=>(ab0 _ _ (abn hb)).trans e;cases st with
  |none =>
   show aaD _ _ (updateSeq S (λ_=>#[.int xs[j].1 xs[j].2,.int xs[j].1 xs[j].2]) >>= _) _ _ _;refine aal (acY L rfl ?_);rw[nm];refine aap {ac3 PySem.F.plain_max_loop _,ih (j+1) _ (M xs[j]) _ .a (g2.1.at λo e=>on _ _ L _ o (abn nS) e) (g2.2.at λo e=>on _ _ L _ o (abn nl) e) (ab5 _ L rfl) λh'' LG q=>?_}
   exact k h'' LG λb o O Y e=>q b o O Y (on _ _ L b o Y (g b o (by simpa using O) e))
  |some m =>
   show aaD _ _ (tryCatch (holding [.int xs[j].1 xs[j].2,.int xs[j].1 xs[j].2] (richCompare .Gt (.int xs[j].1 xs[j].2) (.int m.1 m.2) >>= _)) _ >>= _) _ _ _;refine aal (wpAny_tryCatch (abl (aal (JH ?_))));refine aal (abl (ab4 (aal (ac_ (aap ?_)))))
   by_cases hb:xs[j].1>m.1
   ·have ep:mT (M m) xs[j]=M xs[j]:=ω hb;rw[ep]at k;simp only[hb,decide_true,if_true];refine aal (acY (hz:=by show (2:Nat)<=aaC;decide) L rfl (aal (ac_ ?_)))
    rw[nm];refine aap {ac3 PySem.F.plain_max_loop _,ih (j+1) _ (M xs[j]) _ .a (g2.1.at λo e=>on _ _ L _ o (abn nS) e) (g2.2.at λo e=>on _ _ L _ o (abn nl) e) (ab5 _ L rfl) λh'' LG q=>?_}
    exact k h'' LG λb o O Y e=>q b o O Y (on _ _ L b o Y (g b o (by simpa using O) e))
   ·have ep:mT (M m) xs[j]=M m:=Δ hb;rw[ep]at k;simp only[hb,decide_false,abQ,if_false];refine aal (ac_ ?_);rw[nm];refine aap {ac3 PySem.F.plain_max_loop _,ih (j+1) _ (M m) _ .a g2.1 g2.2 L λh'' LG q=>?_}
    exact k h'' LG λb o O Y e=>q b o O Y (g b o (by simpa using O) e)
def Gv (Y:A.handled=ξ)(O:s.heap.IsList l (adE xs))
  (k:∀h' L,(∀b o,s.heap.get? b=M o->h'.get? b=M o)->Q (R1 d (xs.toList.foldl mT ξ)) {s with heap:=h',toks:=L}):aaD .ab A (call (.builtin "max") [.ref l] [(abO "default",d)]) Q E s:=by
 have nm:(toString "max" ++ toString ".loop" : String)="max.loop" := by decide
 let {ol,gl,_x}:=id O;have lt:l<.e:=aaw gl;refine kmk_tree PySem.F.kind_max PySem.F.plain_max PySem.F.entry_max (uk _ _) ?_;show aaD _ _ (Builtin.Builtins.bindParams "max" ["key","default"] 0 {[],[(abO "default",d)]} >>= _) _ _ s;refine aal (aen (show Builtin.Builtins.bindParams "max" ["key","default"] 0 {[],[(abO "default",d)]}=pure [ξ,M d] from rfl) (aal (aap ?_)))
 refine aal (ael O (aal (wpAny_newList ?_ (aaJ _))));rw[nm];have sz:(s.heap.push {cls:=.type "list_iterator",data:=.fields #[.ref l,.int 0 0]}).objs.size=.e+1:=aed ..
 refine aap {ac3 PySem.F.plain_max_loop _,?_};refine loop (I:=.e) (S:=(s.heap.push {cls:=.type "list_iterator",data:=.fields #[.ref l,.int 0 0]}).objs.size) Y (aaN lt) (by rw[sz];exact Nat.succ_ne_self _) (by rw[sz];exact acp (acH lt)) xs.size 0 _ ξ 0 .a
  {_,aar _ (aaU _ rfl),rfl,rfl} ((O.push _).push _) (aaU _ rfl) λh' L q=>?_
 refine k h' L λb o e=>q b o (aaN (aaw e)) (by rw[sz];exact aaN (acH (aaw e))) ?_
 exact aar _ (aar _ e)
end Pz
namespace L2
open PySem PySem.Spec PySem.SeqAt PyProof.Rows
def maxD (c:Int):List Int->Option Int
 |[]=>M c
 |n::ns=>M (ns.foldl max n)
theorem jS:∀(xs:List (Int×Tok)) (m:Int×Tok),∃t,xs.foldl Pz.mT (M m)=M ((xs.map (·.1)).foldl max m.1,t)
 |[],m=>{(m.2),rfl}
 |x::xs,m=>by
  rw[abZ,aa8,abZ]
  by_cases h:x.1>m.1
  ·let {t,e}:=jS xs x;exact{t,by rw[show Pz.mT (M m) x=M x from ω h,e,show max m.1 x.1=x.1 by lia]}
  ·let {t,e}:=jS xs m;exact{t,by rw[show Pz.mT (M m) x=M m from Δ h,e,show max m.1 x.1=m.1 by lia]}
def yP (hc:X.calm=G)(c:Int)(tok:Tok){σ:St}{H:Hp}(I:Inv X χ σ H s)(r:Vals xs us)(h:YM X (ju (maxD c)) xs H Q):
  aaD .aa X.A (call (.builtin "max") us [(abO "default",.int c tok)]) (EP X χ σ Q) X.xe s:=by
 let {W,ds,d,hd,r1,e,q}:=h;let {ns,i,rfl,e1,rfl}:=qa e;let {x,rfl,p,vs,rfl,h1,n1,q1}:=gH r1;let {u,rfl,ru}:=vals1 r;cases ru;rw[cL q1]at h1;let {its,r2,ht,hz}:=I.list (dw.of h1);let {ys,O,L}:=jP r2;refine Pz.Gv (I.ok.hd hc) (xs:=ys) (by rw[<- O];exact ht.isList) λh' tk k=>{.int i,H,I.kept k,?_,q _ _ .aG rfl}
 cases Y:ys.toList with
 |nil =>
  rw[Y]at L;subst L;cases e1;exact{(tok),rfl}
 |cons y l =>
  rw[Y]at L;subst L;cases e1;let {t,e}:=jS l y;rw[abZ,show Pz.mT ξ y=M y from rfl,e]
  exact{(t),rfl}
namespace Q
variable {kp:Pos}{c:Int}
def zC {j}(hc:X.calm=G)(hm:X.mg "max" = ξ)(L:nh X C p [e] φs)(hg:Gl X "max" := by rfl)
  (he:aaz [e] .f=.aE::aaz [] .f:=by rfl) :
  PQ X C p (.Call (.Name "max" pp) [e] [{M "default",.Constant (.int c) j cp,kp}] pos) (ie (ju (maxD c)) NF φs):=by
 refine{ie.mono L,λχ s σ H Q I h=>?_};have h:=kK ag L σ H Q h;refine ab_ (eS I hg hm GB ?_);refine callWith_kw (bz (L.pa pos χ s σ H _ I h) λus s1 hq=>?_) (by rw[he];rfl) (by rw[he];rfl)
 let {vs,H1,I1,Y,q1}:=hq;refine kws_cons (wpAny_Constant_int (kws_nil ?_));let {W,ds,d,hd,O,e2,q}:=q1;exact yP hc c _ (I1.tok _) Y {W,ds,d,hd,O,e2,λv H' s r=>q v H' s r λf=>aA.flat f r}
end Q
end L2
namespace L2.Q
open PySem PySem.Spec PySem.SeqAt PyProof.Rows
def Down (os:List .aB):Prop:=∀k a:Nat,os[k]?=M (M a)->a<k
def dH:FD:=λds R=>∃(n:Int) (rows ts:List .ae),ds=[f7 n rows,.lst .ah]/\ts.length<=600/\cj n rows/\Good rows ts/\∀os:List .aB,os.length=ts.length->Down os->R (.lst (os.map oD))
def dH.mono:cH dH:=λds R R' k cO=>by let {n,rows,ts,e,Y,O,L,q}:=cO;exact{n,rows,ts,e,Y,O,L,λos a b=>k _ (q os a b)}
def gf:FD:=λds R=>∃(n:Int) (rows ts:List .ae),ds=[f7 n rows,.lst .ah]/\ts.length<=600/\cj n rows/\Good rows ts/\∀is:List Int,R (.lst (is.map D.int))
def gf.mono:cH gf:=λds R R' k lh=>by let {n,rows,ts,e,Y,O,L,q}:=lh;exact{n,rows,ts,e,Y,O,L,λis=>k _ (q is)}
def jM:FD:=λds R=>∃(n:Int) (rows ts:List .ae),ds=[f7 n rows,.lst .ah]/\ts.length<=600/\cj n rows/\Good rows ts/\∀d,R d
def jM.mono:cH jM:=λds R R' k Rk=>by let {n,rows,ts,e,Y,O,L,q}:=Rk;exact{n,rows,ts,e,Y,O,L,λd=>k _ (q d)}
def Down.snoc {os:List .aB}(h:Down os){o:Option Nat}(g:∀a,o=M a->a<os.length):Down (os++[o]):=λk a e=>by
 rcases abG k os.length with z|z
 ·rw[abE z]at e;exact h k a e
 ·rw[abi z]at e;cases hk:k-os.length with
  |zero =>
   rw[hk]at e;exact aaV (g a (aaZ e)) z
  |succ m =>
   rw[hk]at e;cases e
def Lm {os:List .aB}:∀{ts:List .ae},gh .ah (os.map oD)=(ts.zip os).map λp=>D.tup [kD p.1,oD p.2]:=by
 induction os with
 |nil=>intro ts;cases ts <;> rfl
 |cons o os ih =>
  intro ts;cases ts with
  |nil=>rfl
  |cons t ts=>exact Μ (D.tup [kD t,oD o]::·) ih
def Mw (os:List .aB)(Y:Pairs ts):∃us:List .ae,((ts.zip os).filter λp=>p.2.isNone).map (λp=>kD p.1)=us.map kD/\us.length<=ts.length/\Pairs us :=
 ⟨((ts.zip os).filter λp=>p.2.isNone).map Prod.fst,by rw[abH];rfl,by
  rw[aan];exact aa3 (acC _ _) (by rw[List.length_zip];exact adt _ _),λu L=>by
  let {p,O,rfl}:=abe.mp L;exact Y _ (adu (ab8.mp O).1).1⟩
def xA (u:List Int):Int:=u.getD 0 0
def xB (u:List Int):Int:=u.getD 1 0
end L2.Q
namespace gK
open PySem L2 L2.Q
def qL:aH ["row"] ["row"] (ak eZ):=mkS
def BA {JW Aq}(Pr:Z3 K mg JW Aq)(B:Bs mg):aG P w K mg base bP 1 JW Aq ["row"] (dz P w G pW):=by
 refine qt Pr.F qL (λds R WJ=> by obtain⟨n,ps,e,_⟩ := WJ;subst e;rfl) λbD A outer s H E L=>{_,(ao (aS (bQ (aa (aO ag bj .af ai) (aa (d3 aC i6 B.list n_ (aa (aO ag bj .af ai) af)) af))))),λds R h=>?_}
 let {n,ps,rfl,q}:=h;exact{_,rfl,tv,_,rfl,tv,_,rfl,tv,_,rfl,.inr {tv,_,rfl,.inl {aE _,tv,nG,tv,q}}}
def eD:aH ["one","other","a","b","c","d"] ["one","other"] (ak gQ):=mkS
def zM {vZ O}(Ay:T3 K mg vZ O):aG P w K mg base bP 1 vZ O ["one","other"] (dz P w G pR):=by
 refine qt Ay.F eD (λds R WI=> by obtain⟨a,b,c,d,e,_⟩ := WI;subst e;rfl) λbD A outer s H E L=>⟨_,(ah (oX .af (bL (n:=2) rfl (aD (aq (i:=2) eD.nd) (aD (aq (i:=3) eD.nd) bt))))
    (ah (oX .ad (bL (n:=2) rfl (aD (aq (i:=4) eD.nd) (aD (aq (i:=5) eD.nd) bt))))
    (ao (aS (zB (f9 ag (bo.m (o7 L.gL)) .ag .ad) (zB (f9 ag (bo.m (o7 L.gL)) .aj .ad) (xV (f9 ag (bo.m (fy L.units)) (iM .ag (eG cg (ae (i:=4)) (kL cg .aj))) (iM .ag (eG cg (ae (i:=5)) (kL cg .aj))))))))))),λds R h=>?_⟩
 let {a,b,c,d,rfl,q}:=h;refine{_,rfl,_,rfl,rfl,_,_,rfl,_,_,rfl,rfl,?_};refine{_,rfl,_,rfl,rfl,_,_,rfl,_,_,rfl,rfl,?_};refine{_,rfl,tv,_,rfl,_,qe a [c,d],_,rfl,lL (λh=>{tv,?_}) (λh1=>{_,rfl,tv,_,rfl,_,qe b [c,d],_,rfl,lL (λh=>{tv,?_}) (λY=>?_)})}
 ·rw[show gx a b c d=G by unfold gx;rw[Ξ h];rfl]at q
  exact q
 ·rw[show gx a b c d=G by unfold gx;rw[Ξ h,Bool.or_true];rfl]at q
  exact q
 ·rw[show gx a b c d=!decide ((decide (a<c)&&decide (c<b))=(decide (a<d)&&decide (d<b))) by unfold gx;rw[Φ h1,Φ Y];rfl]at q
  exact AD (a:=a) (b:=c) (c:=b) rfl rfl rfl {tv,AD (a:=a) (b:=d) (c:=b) rfl rfl rfl {_,Oy _ _,tv,q}}
def v_:FD:=λds R=>∃(n:Int) (rows:List .ae),ds=[f7 n rows]/\cj n rows/\n<=40/\rows.length<=400/\∀ts:List .ae,(∀t∈ts,t∈rows)->ts.length<=40->R (.lst .ah)
def v_.mono:cH v_:=λds R R' k h=>by let {n,rows,e,O,Y,L,q}:=h;exact{n,rows,e,O,Y,L,λts a b=>k _ (q ts a b)}
def sO {n:Int}{rows fs:List .ae}(O:cj n rows)(Y:∀u∈fs,u∈rows)(h6:fs.Pairwise Apart):fs.length<=n.toNat:=by
 have:=KI (i:=n.toNat) (l:=fs.map λt=>(t.headD 0).toNat) (acu.mpr (h6.imp_of_mem λ{u v} hu hv ap e=>?_)) λx hx=>?_
 ·rwa [aan]at this
 ·let {a,b,rfl,a0,L,L}:=O u (Y u hu);let {c,d,rfl,c0,L,L}:=O v (Y v hv);have e:a.toNat=c.toNat:=e;have:dA [a,b] [c,d]=G:=dY.mpr {a,aaO,by rw[show a=c by lia];exact aaO}
  rw[ap.1]at this;cases this
 ·let {t,ht,rfl}:=abe.mp hx;let {a,b,rfl,a0,L,L}:=O t (Y t ht);show a.toNat<_;lia
def fo:aH ["pot","row","left","found","k","tie"] ["pot","row"] (ak je):=mkS
def ME {JP Ai}(Pl:Z2 K mg JP Ai){B6 mz}(dT:D1 K mg B6 mz){vZ m7}(Ay:T3 K mg vZ m7)(B:Bs mg):aG P w K mg base bP 2 JP Ai ["pot","row"] (fJ P w kR G v_):=by
 have GT:aG P w K mg base bP 1 _ _ _ (fJ P w kR G bu):=gZ dT.F;have Yy:aG P w K mg base bP 1 _ _ _ (dz P w G pR):=zM Ay;refine BB Pl.F fo (λds R WH=> by obtain⟨n,rows,e,_⟩ := WH;subst e;rfl) λbD A outer s H E IO hr=>⟨_,(ah (cm (i:=2) (λ_=>(d3 aC i6 B.list n_ (aa (aO ag bj .ad ai) af))) fo.nd)
    (ah (cm (i:=3) (λ_=>(aK af)) fo.nd)
    (ah (cf abo rfl (aU B.range (aa (aV ag (bH.m cR) B.len dJ (aa .ag af)) af)) (aq (i:=4) fo.nd) (ah (aJ (i:=5) (DO (i:=2) (aP (ih:=0) bu.mono GT (hr.mono .b) dT.m dT.F.kp dT.b (aa (aV ag (bH.m cR) B.len dJ (aa .ag af)) af))) fo.nd)
    (ao (cn (rh.t (gX (aF ag (bo.m (dC hr.units)) (G_ G ["other","tie"] [ξ,M 5] .i (by decide:(["other","tie"]:List Str).Nodup) rfl (bK .aj) (λ_ _ _ _ _ _=>(aq (i:=0) (by decide:(["other","tie"]:List Str).Nodup))) (λ_ _ _ _ _ _=>(jQ (gY (aX pR.mono Yy (hr.mono .b) Ay.m Ay.F.kp Ay.b (aa .ad (aa .af af)))))) (λ_ _ _ _ _ _=>.af)) (aK af)) (fx (aF ag (bo.m l8) (aP (ih:=0) bu.mono GT (hr.mono .b) dT.m dT.F.kp dT.b (aa ai af)) ai)))) (ao (cM (i:=3) (λ_=>(ae (i:=5))))) bx))))
    (ao (aS (aV aC fc B.sorted fh (aa .aj af))))))),λds R h=>?_⟩
 let {n,rows,rfl,Y,n40,lr,q}:=h;refine{_,rfl,tv,_,rfl,.inr {tv,_,rfl,.inl {aE _,tv,?_}}};refine{aaJ _,tv,_,rfl,tv,_,rfl,tv,_,rfl,by rw[aan];lia,by rw[aan];lia,tv,?_}
 rw[aan,aby];refine{λi β=>∃(us fs:List .ae) (x4 x5:Option Q.B),β=[M (.hand kR),M (.val η (f7 n rows)),M (.own (.lst (us.map kD))),M (.own (.lst (fs.map kD))),x4,x5]/\us.length=rows.length-i/\fs.length<=i/\i<=rows.length/\(∀u∈us,u∈rows)/\(∀u∈fs,u∈rows)/\fs.Pairwise Apart,{rows,[],_,_,rfl,rfl,aaq _,aaJ _,λ_ z=>z,λ_ z=>.au,List.Pairwise.nil},?_,?_}
 ·rintro i d β hd ⟨us,fs,x4,x5,rfl,h1,h2,h3,h4,O,h6⟩;let {hi,rfl}:=c5 hd;refine{{_,rfl},rfl,_,rfl,tv,_,rfl,tv,rfl,tv,_,rfl,by rw[aan];lia,by rw[aan];lia,λr r0 r1=>?_}
  rw[aan]at r1;obtain⟨m,rfl⟩:∃m:Nat,r=m:={r.toNat,.a}
  have hm:m<us.length:=by lia
  obtain⟨t,et⟩:∃t,us[m]?=M t:={us[m],aav hm};have Zc:t∈rows:=h4 t (aaY et);let {a,b,rfl,a0,ab,bn}:=Y t Zc;refine{us.map kD,m,m,kD [a,b],rfl,rfl,.a,.a,by rw[aan];exact yj rfl hm,by rw[aaB,et];rfl,?_}
  have ee:(us.map kD).eraseIdx m=(us.eraseIdx m).map kD:=(kU us m).symm;rw[ee];have XQ:(us.eraseIdx m).length=rows.length-(i+1):=by rw[List.length_eraseIdx,ω hm];lia
  have XO:∀u∈us.eraseIdx m,u∈rows:=λu L=>h4 u (List.mem_of_mem_eraseIdx L);refine{_,rfl,_,rfl,tv,?_};refine fA (λu=>mW [a,b] u) (λu=>kD u) tv (by rw[aa7];lia) (λu L x0 o J ho j1 j2=>?_) ?_
  ·let {c,d,rfl,c0,cd,dn}:=Y u (O u L);exact{rfl,_,rfl,tv,_,rfl,tv,a,b,c,d,rfl,_,rfl,Pd (λh=>{_,rfl,nZ _,ho,j1 h _}) (λh=>j2 h _)}
  ·refine{tv,aaJ _,_,Ge _ [],_,rfl,lL (λh=>?_) (λ_=>jW rfl {us.eraseIdx m,fs,_,_,rfl,XQ,.a,.a,XO,O,h6})}
   refine{rfl,tv,rfl,tv,5,rfl,.a,.a,λr r0 r1=>{tv,_,rfl,_,rfl,lL (λ_=>?_) (λ_=>{us.eraseIdx m,fs,_,_,rfl,XQ,.a,.a,XO,O,h6})}}
   refine{{_,rfl},_,rfl,nZ _,fs.map kD,rfl,by rw[aan,aa7];lia,?_}
   refine{us.eraseIdx m,fs++[[a,b]],_,_,by rw[sZ];rfl,XQ,by simp;lia,.a,XO,λu L=>(aaT.mp L).elim (O u) λz=>by rw[aaE.mp z];exact Zc,?_}
   rw[List.pairwise_append];refine{h6,by simp,λu L x hx=>?_}
   rw[aaE.mp hx];let {c,d,rfl,c0,cd,dn}:=Y u (O u L);have:=acg.mp h _ L;exact(pq ab cd (acJ.mpr this)).symm
 ·rintro β ⟨us,fs,x4,x5,rfl,h1,h2,h3,h4,O,h6⟩;rw[cZ]at h2;have hp:Pairs fs:=λu L=>(Y u (O u L)).pair;exact{_,rfl,tv,_,gN hp.ne (by have:=sO Y O h6;lia),.inl {aE _,tv,rfl,q _ (λt ht=>O t ((cz fs).mem_iff.mp ht)) (by rw[(cz fs).length_eq];have:=sO Y O h6;lia)}}
def dZ:aH ["row","ties","nest","around","at","tie"] ["row","ties"] (ak gm):=mkS
def tS {fM c9}(d_:Hr K mg fM c9){da bE}(Y:y_ K mg da bE){jL c_}(dE:xj K mg jL c_){jr cP}(dO:xb K mg jr cP){iD cw}(dF:D9 K mg iD cw){ip b_}(dS:D8 K mg ip b_){il b9}(dX:D7 K mg il b9)(B:Bs2 mg):aG P w K mg base bP 6 fM c9 ["row","ties"] (dz P w G dH):=by
 have Ks:aG P w K mg base bP 5 _ _ _ (dz P w G fY):=fV Y dE dO dF dS dX B.toBs;refine qt d_.F dZ (λds R WG=> by obtain⟨n,rows,ts,e,_⟩ := WG;subst e;rfl) λbD A outer s H E hr=>⟨_,(ah (jl (aX fY.mono Ks (hr.mono .b) Y.m Y.F.kp Y.b (aa .af (aa .ad af))))
    (ah (cm (i:=2) (λ_=>(aK af)) dZ.nd)
    (ah (cm (i:=3) (λ_=>(aK af)) dZ.nd)
    (ah (cf abo rfl (Ig (DC B.enumerate (DD (L_ (i:=1)) H9))) (bL (n:=2) rfl (aD (aq (i:=4) dZ.nd) (aD (aq (i:=5) dZ.nd) bt))) (ah (Ee abo (rh.t (gX (nO .aj) (fx (aF ag (bo.m cg) (aO ag bj (aO ag bj .ad (aO ag bj .aj (rJ i8 ai))) ai) (aO ag bj (ae (i:=5)) ai))))) (ao (jl (xU (i:=3)))))
    (ah (cM (i:=2) (λ_=>(zD (nO .aj) (aO ag bj .aj (rJ i8 ai)) eP)))
    (ao (cM (i:=3) (λ_=>(ae (i:=4))))))))
    (ao (kQ (i:=2))))))),λds R h=>?_⟩
 let {n,rows,ts,rfl,hl,ht,hg,q}:=h;have hp:Pairs ts:=λu hu=>(ht u (hg.1 u hu)).pair;refine{_,rfl,tv,_,rfl,tv,n,rows,ts,rfl,hl,ht,hg,?_};refine{aaJ _,tv,aaJ _,tv,_,rfl,_,rfl,tv,?_};refine{λi β=>∃(os:List .aB) (l:List Nat) (x4 x5:Option Q.B),β=[M (.val η (f7 n rows)),M (.val η (.lst .ah)),M (.own (.lst (os.map oD))),M (.own (.lst (ED l))),x4,x5]/\os.length=i/\Down os/\(∀x∈l,x<i)/\l.length<=i,{[],[],_,_,rfl,rfl,λ_ _ z=>.au,λ_ z=>.au,aaq _},?_,?_}
 ·rintro i d β hd ⟨os,l,x4,x5,rfl,ol,oo,lx,ll⟩;let {b,hb,rfl}:=jt hd;rw[aaB]at hb;let {t,et,rfl}:=aaK.mp hb;have lM:i<ts.length:=(aay.mp et).1;let {a,b,rfl}:=hp t (aaY et);have nl:(os.map oD).length<aaC:=by rw[aan,aa7];lia
  refine{_,rfl,rfl,_,_,rfl,_,_,rfl,rfl,?_};refine{λm β=>∃l:List Nat,β=[M (.val η (f7 n rows)),M (.val η (.lst .ah)),M (.own (.lst (os.map oD))),M (.own (.lst (ED l))),M (.val G (.int i)),M (.val η (kD [a,b]))]/\l.length=m/\(∀x∈l,x<i)/\l.length<=i,{_,l,rfl,rfl,lx,ll},?_};rintro m β ⟨l,rfl,hm,lx,ll⟩;have ln:(ED l).length<aaC:=by rw[aan,aa7];lia
  have lz:∀x∈l++[i],x<i+1:=λx O=>(aaT.mp O).elim (λz=>acH (lx x z)) λz=>by rw[aaE.mp z];exact aeF _
  rcases List.eq_nil_or_concat l with rfl|⟨L,x,el⟩
  ·refine{_,rfl,_,rfl,jW rfl (jW rfl {{_,rfl},_,rfl,_,rfl,jW rfl {tv,_,rfl,nl,{_,rfl},_,rfl,tv,_,rfl,ln,?_}})};exact{os++[ξ],[i],_,_,by rw[abb];rfl,by rw[aax,ol];rfl,oo.snoc (λ_ z=>.au),lz,Nat.succ_le_succ (aaJ _)}
  ·rw[List.concat_eq_append]at el;subst el;have O:x<i:=lx x .c
   have e1:(ED (L++[x]))=ED L++[.int (x:Int)]:=vf;obtain⟨c,d,e2⟩:∃c d,ts[x]?=M [c,d]:=by
    let {c,d,e}:=hp _ (acd (Nat.lt_trans O lM));exact{c,d,by rw[aav (Nat.lt_trans O lM),e]}
   have ei:qD (.lst (ED (L++[x]))) (.int (-1))=M (.int (x:Int)):=by rw[e1];exact Ga
   have em:(!(ED (L++[x])).isEmpty)=G:=by rw[e1];simp
   rw[aax,abd]at hm ll;refine{_,rfl,_,rfl,ur em {_,rfl,tv,_,rfl,tv,_,rfl,rfl,_,ei,_,i5 e2,tv,_,rfl,tv,_,rfl,tv,_,rfl,_,rfl,_,rfl,lL (λh=>?_) (λh=>?_)}}
   ·exact{ED L,.int x,by rw[e1];rfl,L.length,.a,L,rfl,rfl,λy hy=>lx y (abW _ hy),.a}
   ·refine{{_,rfl},_,rfl,_,rfl,ur em {_,rfl,tv,_,rfl,rfl,_,ei,tv,_,rfl,nl,{_,rfl},_,rfl,tv,_,rfl,ln,?_}};exact{os++[M x],L++[x]++[i],_,_,by rw[abb,vf (x:=i)];rfl,by rw[aax,ol];rfl,oo.snoc (λa z=>by cases z;lia),lz,by rw[aax,aax];exact Nat.succ_le_succ ll}
 ·rintro β ⟨os,l,x4,x5,rfl,ol,oo,_⟩;rw[js,aan]at ol;exact{_,rfl,q os ol oo}
def cJ:aH ["row","ties","depths","above"] ["row","ties"] (ak eE):=mkS
def rN {lD gG}(qf:PC K mg lD gG){fM c9}(d_:Hr K mg fM c9){da bE}(d6:y_ K mg da bE){jL c_}(dE:xj K mg jL c_){jr cP}(dO:xb K mg jr cP){iD cw}(dF:D9 K mg iD cw){ip b_}(dS:D8 K mg ip b_){il b9}(dX:D7 K mg il b9)(B:Bs2 mg):aG P w K mg base bP 7 lD gG ["row","ties"] (dz P w G gf):=by
 have Kr:aG P w K mg base bP 6 _ _ _ (dz P w G dH):=tS d_ d6 dE dO dF dS dX B;refine qt qf.F cJ (λds R WE=> by obtain⟨n,rows,ts,e,_⟩ := WE;subst e;rfl) λbD A outer s H E Y=>⟨_,(ah (cm (i:=2) (λ_=>(aK af)) cJ.nd)
    (ah (cf abo rfl (bK (aX dH.mono Kr (Y.mono .b) d_.m d_.F.kp d_.b (aa .af (aa .ad af)))) (aq (i:=3) cJ.nd) (ao (cM (i:=2) (λ_=>(zD (aF ag (bo.m jm) .aj eP) ai (aB aC ar (aO ag bj .ag .aj) ai))))))
    (ao (kQ (i:=2))))),λds R h=>?_⟩
 let {n,rows,ts,rfl,hl,O,hg,q}:=h;refine{aaJ _,tv,_,rfl,tv,_,rfl,tv,n,rows,ts,rfl,hl,O,hg,λos ol oo=>{_,rfl,tv,?_}};refine{λi β=>∃(is:List Int) (L:Option Q.B),β=[M (.val η (f7 n rows)),M (.val η (.lst .ah)),M (.own (.lst (is.map D.int))),L]/\is.length=i,{[],_,rfl,rfl},?_,?_}
 ·rintro i d β hd ⟨is,L,rfl,hi⟩;rw[aaB]at hd;let {o,eo,rfl}:=aaK.mp hd;have lM:i<ts.length:=by rw[<- ol];exact(aay.mp eo).1
  have dl:(is.map D.int).length<aaC:=by rw[aan,aa7];lia
  cases o with
  |none=>exact{{_,rfl},_,rfl,tv,_,rfl,_,rfl,ur rfl {tv,_,rfl,dl,is++[1],_,by rw[abb];rfl,by rw[aax,hi];rfl}}
  |some p =>
   have hq:p<is.length:=by rw[hi];exact oo i p eo
   have ix:qD (.lst (is.map D.int)) (.int (p:Int))=M (.int is[p]):=ud (by rw[aaB,aav hq];rfl)
   exact{{_,rfl},_,rfl,tv,_,rfl,_,rfl,jW rfl {_,rfl,tv,_,rfl,_,ix,tv,_,rfl,tv,_,rfl,dl,is++[is[p]+1],_,by rw[abb];rfl,by rw[aax,hi];rfl}}
 ·rintro β ⟨is,L,rfl,_⟩;exact{_,rfl,q is}
def mS:aH ["row","ties"] ["row","ties"] (ak fw):=mkS
def EA {qY lC}(Gi:T1 K mg qY lC){lD gG}(qf:PC K mg lD gG){fM c9}(d_:Hr K mg fM c9){da bE}(d6:y_ K mg da bE){jL c_}(dE:xj K mg jL c_){jr cP}(dO:xb K mg jr cP){iD cw}(dF:D9 K mg iD cw){ip b_}(dS:D8 K mg ip b_){il b9}(dX:D7 K mg il b9)(B:Bs2 mg):aG P w K mg base bP 8 qY lC ["row","ties"] (dz P w G jM):=by
 have SK:aG P w K mg base bP 7 _ _ _ (dz P w G gf):=rN qf d_ d6 dE dO dF dS dX B;refine qt Gi.F mS (λds R WD=> by obtain⟨n,rows,ts,e,_⟩ := WD;subst e;rfl) λbD A outer s H E O=>{_,(ao (aS (zC rfl B.max (aa (aX gf.mono SK (O.mono .b) qf.m qf.F.kp qf.b (aa .af (aa .ad af))) af)))),λds R h=>?_}
 let {n,rows,ts,rfl,hl,L,hg,q}:=h;refine{_,rfl,tv,_,rfl,tv,n,rows,ts,rfl,hl,L,hg,λis=>?_};obtain⟨m,Y⟩:∃m,maxD 0 is=M m:=by cases is <;> exact{_,rfl}
 exact{tv,_,p_ Y,tv,q _}
end gK
namespace L2
open PySem PySem.Spec PySem.SeqAt PyProof.Rows
def R_ (a b:D):Option D:=a.yd.bind λds=>b.int?.bind λk=>if 0<=k/\k<2 ^ 62/\ds.length*k.toNat<=aaC then M (.lst (aaR k.toNat ds).flatten) else ξ
theorem lV {H:Hp}{ds:List D}(h:aj P w W H ds vs):∀k:Nat,aj P w W H (aaR k ds).flatten (aaR k vs).flatten
 |0=>rfl
 |k+1=>by
  rw[aci,ac6,aci,ac6];exact h.append (lV h k)
def El {X:Cx}:SG X (acz .Mult) R_:=by
 intro χ s σ H x y v u Q I rx ry h;let {W,d1,d2,d,hd,Y,O,e,q}:=h;let {ds,h1,e}:=aba.mp e;let {k,h2,e}:=aba.mp e;obtain⟨⟨k0,k1,hl⟩,rfl⟩:=dG e;rw[D.kY h1]at Y;rw[D.tZ h2]at O;let {p,vs,rfl,g1,n1,L}:=Y;exact Mx χ s σ H _ _ v u Q I rx ry {p,k,vs,rfl,O,g1,.a,.a,by rw[L.length];exact hl,λl vE=>q _ _ (ay.new vE) (Rp.iS hd vE (lV L _)) λf=>vi vE f (lV L _)}
namespace Q
theorem gF {α:Type}{f:α->D}(h:∀x,(f x).flat=G):∀l:List α,D.bO (l.map f)=G
 |[]=>rfl
 |x::l=>by
  show ((f x).flat&&D.bO (l.map f))=G;rw[h x,gF h l];rfl
end Q
end L2
namespace gK
open PySem L2 L2.Q
def bJ:aH ["row","ties","outermost","begins","ends"] ["row","ties"] (ak cD):=mkS
def IQ {iY eW}(sD:TZ K mg iY eW){fM c9}(d_:Hr K mg fM c9){da bE}(d6:y_ K mg da bE){jL c_}(dE:xj K mg jL c_){jr cP}(dO:xb K mg jr cP){iD cw}(dF:D9 K mg iD cw){ip b_}(dS:D8 K mg ip b_){il b9}(dX:D7 K mg il b9)(B:Bs2 mg):aG P w K mg base bP 7 iY eW ["row","ties"] (dz P w G jM):=by
 have Kr:aG P w K mg base bP 6 _ _ _ (dz P w G dH):=tS d_ d6 dE dO dF dS dX B;refine qt sD.F bJ (λds R WC=> by obtain⟨n,rows,ts,e,_⟩ := WC;subst e;rfl) λbD A outer s H E hr=>⟨_,(ah (xM (i:=2) η ["tie","above"] [ξ,ξ] .i (by decide:(["tie","above"]:List Str).Nodup) rfl (λ_=>(zA B.zip (aa .ad (aa (aX dH.mono Kr (hr.mono .b) d_.m d_.F.kp d_.b (aa .af (aa .ad af))) af)))) (λ_ _ _ _ _ _=>(bL (n:=2) rfl (aD (aq (i:=0) (by decide:(["tie","above"]:List Str).Nodup)) (aD (aq (i:=1) (by decide:(["tie","above"]:List Str).Nodup)) bt)))) (λ_ _ _ _ _ _=>(jQ (aF ag (bo.m jm) .ad eP))) (λ_ _ _ _ _ _=>.af) bJ.nd)
    (ah (aJ (i:=3) (aB aC ar (aK (aa ai af)) (G_ η ["a","b"] [ξ,ξ] .i (by decide:(["a","b"]:List Str).Nodup) rfl (bK .ag) .aA (λ_ _ _ _ _ _=>dU) (λ_ _ _ _ _ _=>(aB aC ar .ad ai)))) bJ.nd)
    (ah (aJ (i:=4) (aB aC ar (G_ η ["a","b"] [ξ,ξ] .i (by decide:(["a","b"]:List Str).Nodup) rfl (bK .ag) .aA (λ_ _ _ _ _ _=>dU) (λ_ _ _ _ _ _=>.af)) (aK (aa (aO ag bj .af ai) af))) bJ.nd)
    (ao (aS (aB aC ar (xW rfl B.list B.zip (aa .aj (aa (ae (i:=4)) af))) (G_ η ["a","b"] [ξ,ξ] .i (by decide:(["a","b"]:List Str).Nodup) rfl (bK .ag) .aA (λ_ _ _ _ _ _=>dU) (λ_ _ _ _ _ _=>(bQ (aa (aB aC ar .af ai) (aa .ad af))))))))))),λds R h=>?_⟩
 let {n,rows,ts,rfl,hl,ht,hg,q}:=h;have hp:Pairs ts:=λu O=>(ht u (hg.1 u O)).pair;refine{_,rfl,tv,_,rfl,tv,_,rfl,tv,n,rows,ts,rfl,hl,ht,hg,λos ol _=>{tv,_,_,rfl,tv,?_}};rw[Lm];refine pB (λp:List Int×Option Nat=>p.2.isNone) (λp=>kD p.1) tv (by rw[List.length_zip,aa7];lia) (λp hp y0 y1 o J ho L Y=>?_) ?_
 ·let {u,x}:=p;cases x with
  |none=>exact{_,rfl,rfl,_,_,rfl,_,_,rfl,rfl,_,rfl,tv,_,rfl,_,rfl,ur rfl {_,rfl,nZ _,ho,L rfl _ _}}
  |some x=>exact{_,rfl,rfl,_,_,rfl,_,_,rfl,rfl,_,rfl,tv,_,rfl,_,rfl,jW rfl (Y rfl _ _)}
 ·let {us,eu,lu,pu}:=Mw os hp;rw[eu];have sl:us.length<=aaC:=by rw[aa7];lia
  refine{tv,AZ,tv,_,rfl,_,rfl,tv,?_};refine pB (λ_=>G) (λu=>.int (xB u+1)) tv sl (λu O y0 y1 o J ho L Y=>by let {a,b,rfl}:=pu u O;exact{_,rfl,rfl,_,_,rfl,_,_,rfl,rfl,_,rfl,tv,_,rfl,tv,ho,L rfl _ _}) ?_
  rw[filter_all];refine{_,eJ (by rw[aan,abd];lia),.inl {gE rfl (gF (λ_=>rfl) _),?_}}
  refine{_,rfl,_,rfl,tv,?_};refine pB (λ_=>G) (λu=>.int (xA u)) tv sl (λu O y0 y1 o J ho L Y=>by let {a,b,rfl}:=pu u O;exact{_,rfl,rfl,_,_,rfl,_,_,rfl,rfl,_,rfl,tv,ho,L rfl _ _}) ?_
  rw[filter_all];have fe:D.bO (us.map (λu=>D.int (xA u))++[.int n])=G:=gE (gF (λ_=>rfl) _) rfl;refine{tv,_,rfl,tv,_,rfl,tv,AZ,_,eJ (by rw[aan,abd];lia),.inl {fe,?_}}
  have fz:=uB (as:=[.int 0]++us.map λu=>D.int (xB u+1)) (gE rfl (gF (λ_=>rfl) _)) fe;refine{_,rfl,tv,_,rfl,tv,_,rfl,.inl {fz,tv,_,rfl,_,rfl,tv,?_}};refine pB (λ_=>G) (λu=>.tup [.int (xA u+1),.int (xB u)]) tv sl (λu O y0 y1 o J ho L Y=>by let {a,b,rfl}:=pu u O;exact{_,rfl,rfl,_,_,rfl,_,_,rfl,rfl,_,rfl,tv,_,rfl,tv,_,rfl,tv,nG,tv,ho,L rfl _ _}) ?_
  rw[filter_all];exact{_,eJ (by rw[kc];simp only[aax,aan,abd];lia),.inl {gE fz (gF (λ_=>rfl) _),tv,q _}}
end gK
namespace L2.Q
open PySem
def p0 (t:List Int):Int:=t.getD 0 0
def p1 (t:List Int):Int:=t.getD 1 0
def S5:List .ae->Int->Nat
 |[],_=>46
 |t::us,k=>if k=p1 t then 41 else if k=p0 t then 40 else S5 us k
def xH (us:List .ae)(n:Nat):List Nat:=(aaA n).map λ(k:Nat)=>S5 us (k:Int)
def shL (us:List .ae)(n:Nat):List Nat:=(xH us n).filter λc=>c != 46
def HN {us:List .ae}{a b:Int}{n:Nat}{F:Nat->D}(a0:0<=a)(ab:a<b)(bn:b<n):(((xH us n).map F).set a.toNat (F 40)).set b.toNat (F 41)=(xH ([a,b]::us) n).map F:=by
 unfold xH;rw[abH,kB .a,kB .a,abH]
 refine abK λk _=>?_;show (if k=b.toNat then F 41 else if k=a.toNat then F 40 else F (S5 us (k:Int)))=F (if (k:Int)=b then 41 else if (k:Int)=a then 40 else S5 us (k:Int))
 by_cases O:(k:Int)=b
 ·rw[ω O,ω .a]
 ·rw[Δ O,Δ .a]
  by_cases L:(k:Int)=a
  ·rw[ω L,ω .a]
  ·rw[Δ L,Δ .a]
def tm :(xH us n).length=n:=by unfold xH;rw[aan,aa5]
def HP :(xH [] n).map F=(aaA n).map λ_=>F 46:=by unfold xH;rw[abH];rfl
def HX:(("." : Str)==("" : Str))=η:=by decide +kernel
def HW (cs:List Nat):adT (bS cs) ("." : Str) ("" : Str)=bS (cs.filter λc=>c != 46):=by
 rw[Kh,PL];have h:=PyProof.Rows.replace_strikes (bS cs) 46;have e:(adT (bS cs) (eK 46) {#[]}).cps=(cs.filter λc=>c != 46).toArray:=by
  rw[<- Array.toArray_toList (xs:=(adT (bS cs) (eK 46) {#[]}).cps)];exact Μ List.toArray h
 show adT (bS cs) (eK 46) {#[]}={(cs.filter λc=>c != 46).toArray};rw[<- e]
end L2.Q
namespace gK
open PySem L2 L2.Q
def fQ:aH ["many","ties","signs","a","b"] ["many","ties"] (ak gV):=mkS
def FX:FD:=λds R=>∃(n:Nat) (ts:List .ae),ds=[.int (n:Int),.lst .ah]/\n<=60/\ts.length<=600/\cj n ts/\Good ts ts/\R (.str (bS (xH ts.reverse n)))
def FX.mono:cH FX:=λds R R' k cO=>by let {n,ts,e,h1,Y,O,L,q}:=cO;exact{n,ts,e,h1,Y,O,L,k _ q}
def MN {qZ jK}(CJ:SO K mg qZ jK){da bE}(L:y_ K mg da bE){jL c_}(dE:xj K mg jL c_){jr cP}(dO:xb K mg jr cP){iD cw}(dF:D9 K mg iD cw){ip b_}(dS:D8 K mg ip b_){il b9}(dX:D7 K mg il b9)(B:Ll mg):aG P w K mg base bP 6 qZ jK ["many","ties"] (dz P w G FX):=by
 have Ks:aG P w K mg base bP 5 _ _ _ (dz P w G fY):=fV L dE dO dF dS dX B.toBs;refine qt CJ.F fQ (λds R WB=> by obtain⟨n,ts,e,_⟩ := WB;subst e;rfl) λbD A outer s H E hr=>⟨_,(ah (cn (aF ag (bo.m cg) .af ai) dk bx)
    (ah (cn (gY (aV ag (bH.m (Co rfl)) B.any OP (aa (G_ η ["a","b","many"] [ξ,ξ,M 0] .i (by decide:(["a","b","many"]:List Str).Nodup) rfl (bK .ad) (λ_ _ _ _ _ _=>(bL (n:=2) rfl (aD (aq (i:=0) (by decide:(["a","b","many"]:List Str).Nodup)) (aD (aq (i:=1) (by decide:(["a","b","many"]:List Str).Nodup)) bt)))) (λ_ _ _ _ _ _=>dU) (λ_ _ _ _ _ _=>(Mi (iM ai (eG Mz .af (eG cg .ad (kL cg .ag))))))) af))) dk bx)
    (ah (jl (aX fY.mono Ks (hr.mono .b) L.m L.F.kp L.b (aa (bQ (aa .af (aa .ad af))) (aa .ad af))))
    (ah (xM (i:=2) G ["point"] [ξ] .i (by decide:(["point"]:List Str).Nodup) rfl (λ_=>(aU B.range (aa .af af))) (λ_ _ _ _ _ _=>(aq (i:=0) (by decide:(["point"]:List Str).Nodup))) (λ_ _ _ _ _ _=>dU) (λ_ _ _ _ _ _=>cE) fQ.nd)
    (ah (cf abo rfl (bK .ad) (bL (n:=2) rfl (aD (aq (i:=3) fQ.nd) (aD (aq (i:=4) fQ.nd) bt))) (ah (oW (i:=2) (λ_=>cE) (λ_=>.aj))
    (ao (oW (i:=2) (λ_=>cE) (λ_=>(ae (i:=4)))))))
    (ao (aS (Ij .ag)))))))),λds R h=>?_⟩
 let {n,ts,rfl,hn,hl,ht,hg,q}:=h;refine{_,rfl,tv,_,rfl,_,rfl,jW (Φ .a) ?_}
 refine{_,rfl,_,rfl,tv,pB (λ_=>G) (λ_=>.bl η) tv (oB .a) (λt V5 x0 x1 o J ho j1 j2=>?_) ?_}
 ·let {a,b,rfl,a0,ab,bn}:=ht t V5;refine{_,rfl,rfl,_,_,rfl,_,_,rfl,rfl,_,rfl,_,rfl,ur (Ξ a0) {_,rfl,_,rfl,ur (Ξ ab) {_,rfl,_,rfl,?_}}};exact{decide (b<(n:Int)),rfl,tv,ho,by rw[Ξ bn];exact j1 rfl _ _}
 have ea:OE [.lst ((ts.filter λ_=>G).map λ_=>D.bl η)]=M (.bl η):=by
  have h:=Ke ((ts.filter λ_=>G).map λ_=>η);rw[abH,show (((ts.filter λ_=>G).map λ_=>η).any id)=η by rw[List.any_map];exact List.any_eq_false.mpr λ_ _=>acb]at h
  exact h
 refine{tv,_,ea,_,rfl,jW rfl ?_};refine{_,rfl,tv,_,rfl,tv,nG,.inr {tv,_,rfl,tv,(n:Int),ts,ts,rfl,hl,ht,hg,?_}};refine{_,rfl,tv,(n:Int),rfl,.a,.a,tv,fA (l:=aaA n) (f:=λk:Nat=>D.int (0+(k:Int))) (λ_=>G) (λ_=>.str (eK 46)) tv (oB (by rw[aa5];lia)) (λk hk x0 o J ho j1 j2=>{tv,ho,by rw[Kh];exact j1 rfl _}) ?_}
 rw[ad1.mpr λ_ _=>rfl];refine{_,rfl,_,rfl,tv,?_};refine FK (λi β=>i<=ts.length/\∃Y O:Option Q.B,β=[M (.val η (.int (n:Int))),M (.val η (.lst .ah)),M (.own (.lst ((xH (ts.take i).reverse n).map λc=>D.str (eK c)))),Y,O]) {aaJ _,_,_,by rw[show (ts.take 0).reverse=[] from rfl,HP];rfl} (λE1 r1 i n1 d β hd hv=>?_) λβ hv=>?_
 ·let {_x,Y,O,rfl}:=hv;rw[aaB]at hd;let {t,hx,rfl}:=aaK.mp hd;have hi:i<ts.length:=(aay.mp hx).1;let {a,b,rfl,a0,ab,bn}:=ht t (aaY hx);have e1:ts.take (i+1)=ts.take i++[[a,b]]:=by rw[acI,hx];rfl
  refine{_,rfl,rfl,_,_,rfl,_,_,rfl,rfl,?_};have Fh:((xH (ts.take i).reverse n).map λc=>D.str (eK c)).length=n:=by rw[aan,tm]
  have es:(xH (ts.take (i+1)).reverse n).map (λc=>D.str (eK c))=(((xH (ts.take i).reverse n).map λc=>D.str (eK c)).set a.toNat (.str "(")).set b.toNat (.str ")"):=by
   rw[e1,List.reverse_append,List.reverse_singleton,List.singleton_append,Gr,Gq];exact(HN (us:=(ts.take i).reverse) (F:=λc=>D.str (eK c)) a0 ab bn).symm
  refine{tv,{_,rfl},_,rfl,_,a,a.toNat,rfl,rfl,yj (i:=a.toNat) .a .a,?_}
  exact{tv,{_,rfl},_,rfl,_,b,b.toNat,rfl,rfl,yj (i:=b.toNat) .a (by rw[List.length_set];lia),n1 _ {hi,_,_,by rw[es];rfl}}
 ·let {_x,Y,O,rfl}:=hv;rw[aan,aeH];exact{_,rfl,_,rfl,by rw[tm];lia,tv,q}
def mR:aH ["row","ties"] ["row","ties"] (ak fu):=mkS
def mD:FD:=λds R=>∃(n:Nat) (rows ts:List .ae),ds=[f7 n rows,.lst .ah]/\n<=60/\ts.length<=600/\cj n rows/\Good rows ts/\R (.str (bS (shL ts.reverse n)))
def mD.mono:cH mD:=λds R R' k lh=>by let {n,rows,ts,e,h1,Y,O,L,q}:=lh;exact{n,rows,ts,e,h1,Y,O,L,k _ q}
def Ew {qX lB}(F6:TY K mg qX lB){qZ jK}(CJ:SO K mg qZ jK){da bE}(L:y_ K mg da bE){jL c_}(dE:xj K mg jL c_){jr cP}(dO:xb K mg jr cP){iD cw}(dF:D9 K mg iD cw){ip b_}(dS:D8 K mg ip b_){il b9}(dX:D7 K mg il b9)(B:Ll mg):aG P w K mg base bP 7 qX lB ["row","ties"] (dz P w G mD):=by
 have Ks:aG P w K mg base bP 5 _ _ _ (dz P w G fY):=fV L dE dO dF dS dX B.toBs;have GBr:aG P w K mg base bP 6 _ _ _ (dz P w G FX):=MN CJ L dE dO dF dS dX B;refine qt F6.F mR (λds R WA=> by obtain⟨n,rows,ts,e,_⟩ := WA;subst e;rfl) λbD A outer s H E hr=>⟨_,(ah (jl (aX fY.mono Ks (hr.mono .b) L.m L.F.kp L.b (aa .af (aa .ad af))))
    (ao (aS (Ii FX.mono GBr (hr.mono .b) CJ.m CJ.F.kp CJ.b .af (aa .ad af) HX .b)))),λds R h=>?_⟩
 let {n,rows,ts,rfl,hn,hl,Y,O,q}:=h;refine{_,rfl,tv,_,rfl,tv,(n:Int),rows,ts,rfl,hl,Y,O,?_};have hg':Good ts ts:={λt h=>h,O.2};refine{_,rfl,(n:Int),rfl,_,rfl,tv,n,ts,rfl,hn,hl,λt h=>Y t (O.1 t h),hg',bS (xH ts.reverse n),rfl,?_,tv,?_}
 ·show (xH ts.reverse n).toArray.size<=_;rw[aaH,tm];lia
 ·rw[HW];exact q
end gK
namespace L2.EX
open PySem PySem.W PySem.Spec PySem.Calls PyProof.Rows Builtin Builtin.ObjectAttr Builtin.Getset_descriptor
def ExcAt (a C:μ)(h:Heap):Prop:=∃o vs,h.get? a=M o/\o.cls=.ref C/\o.data=.fields vs
def ExcAt.ty {a C:μ}{h:Heap}{M:aeG}(p:ExcAt a C h):Looks M h (typeOf (.ref a)) (.ref C):=by
 let {o,vs,O,L,Y}:=p;exact L▸(Looks.ld O).andThen .now
section
variable {K:Frag}{x C:μ}{R:Result->aao->Prop}
def class_get (X:K.In s.heap)(I:ExcAt x C s.heap)(O:mroIn K C (.type "object")=M G)
  (h:R (.ok (.ret (.ref C))) s):adg .ab A (.call (.builtin "getset_descriptor.__get__") {[.builtin "object.__class__",.ref x,tp],[]}) R s:=by
 let {Y,g,dr,t,os}:=s;have L0:=I.ty (M:=δ prog w);have L1:=looks_mroIn (M:=δ prog w) X O;refine codeAny_call_builtin KF.slot_gs.plain KF.entry_gs (KF.slot_gs.check _ _ _ _ _ _ _ _ KF.type_class (KF.args_gs _ _ _) ?_);unfold acf.«getset_descriptor.__get__» descrGet;rw[dga_obj];refine aal (aap ?_);unfold descrGetter descrCheckInstance descrNameAndClass isInstance;simp only[KF.owner_class]
 repeat lk
 refine{Code.quiet_builtin _ .g,acw KF.entry_class ?_}
 unfold acf.«object.__class__» shownTypeOf
 repeat lk
 exact h
structure XC (K:Frag)(C:μ):Prop where
 obj:mroIn K C (.type "object")=M G
 base:mroIn K C (.type "BaseException")=M G
 ga:findIn K (.ref C) "__getattribute__" = M (M (.builtin "BaseException.__getattribute__"))
 hook:findIn K (.ref C) "__getattr__" = M ξ
 cls:findIn K (.ref C) "__class__" = M (M (.builtin "object.__class__"))
def Gn (X:K.In s.heap)(I:ExcAt x C s.heap)(Z:XC K C)(O:Q () s):aaD L A (aeE "BaseException.__getattribute__" {[.ref x,KJ],[]}) Q E s:=by
 let {Y,g,dr,t,os}:=s;have hk:builtinKind "BaseException.__getattribute__" = M .slot:=by decide +kernel
 have NM:splitId "BaseException.__getattribute__" = M ("BaseException","__getattribute__"):=by decide +kernel
 have ha:=F.args_bexc_ga (.ref x) KJ;have L0:=I.ty (M:=L);have L1:=looks_mroIn (M:=L) X Z.base;simp only[aeE,hk,NM];refine aal ?_;unfold isInstance
 repeat lk
 exact O
def wL (X:K.In s.heap)(I:ExcAt x C s.heap)(Z:XC K C)(Y:Q (.done (.ret (.ref C))) s):
  aaD .ab A (acf.«object.__getattribute__» {[.ref x,.str "__class__" tk],[]}) Q E s:=by
 let {O,g,dr,t,os}:=s;have L0:=I.ty (M:=δ prog w);have L1:=looks_findIn (M:=δ prog w) X Z.cls;have L2:=looks_specialIn (M:=δ prog w) (K:=K) X (v:=.builtin "object.__class__") (name:="__get__") (r:=M (.builtin "getset_descriptor.__get__")) .d
 have L3:=looks_takesIn (M:=δ prog w) (K:=K) X (a:=.builtin "object.__class__") (r:=G) .d
 unfold acf.«object.__getattribute__»
 repeat (first|(with_reducible refine aal (ad8 (class_get (s:=⟨O,g,dr,t,os⟩) X I Z.obj ?_)))|(with_reducible refine ad8 (class_get (s:=⟨O,g,dr,t,os⟩) X I Z.obj ?_))|lk)
 exact Y
def yN (X:K.In s.heap)(I:ExcAt x C s.heap)(Z:XC K C)(h:Q (M (.ref C)) {s with toks:=s.toks+1}):aaD .ab A (getAttr? (.ref x) "__class__") Q E s:=by
 let {O,g,dr,t,os}:=s;have L0:=I.ty (M:=δ prog w);have L1:=looks_findIn (M:=δ prog w) X Z.ga;have L2:=looks_findIn (M:=δ prog w) X Z.hook;have Y:=F.attr_ValueError.ga.bind (.ref x);have Rh:(Value.builtin "BaseException.__getattribute__" == Value.builtin "object.__getattribute__")=η:=by decide +kernel
 have He:(onTheHeap (Ω C)&&Value.builtin "BaseException.__getattribute__" == Value.builtin "object.__getattribute__")=η:=by rw[Rh];rfl
 unfold getAttr? getAttrBy? getAttrBy;refine aal (wpAny_mkText (aal (acn (abl (aal (L0.at (aal (L1.at ?_))))))));dsimp only;rw[Δ (λq=>by rw[He]at q;cases q)]
 unfold getAttrByItsOwn hookBefore onTheHeap callGetattribute boundAndCalled;dsimp only;rw[ω rfl];refine aal (L2.at (aal (acn (abl ?_))));simp only[Bool.false_and,abQ,if_false];refine aal (aen Y ?_);refine ad8 (codeAny_call_builtin F.attr_ValueError.ga.plain F.entry_bexc_ga (Gn (s:={O,g,dr,t+1,os}) X I Z (wL (s:={O,g,dr,t+1,os}) X I Z ?_)));exact handed_on rfl (aap h)
def E5 (Z:XC K C):KitX K (.ref x) (.ref C) (ExcAt x C) where
 ty:=λ_ _ _ I=>I.ty
 it:=λ_ _ X _=>by
  let {cd,hc,O}:=aba.mp Z.obj;unfold clsIn at hc
  split at hc
  ·rename_i L d' cd' zi ho
   intro A' Y E' s' k q;unfold isType loadHead;exact aal (wpAny_loadPart (k _ _ (X _ _ ho)) (aap q))
  ·cases hc
 ne:=λh tp dd its n sl X htp=>by
  let {cd,hc,O}:=aba.mp Z.obj;refine acJ.mpr λq=>?_;have e:C=tp:=Value.ref.inj (beq_iff_eq.mp q);subst e;unfold clsIn at hc
  split at hc
  ·rename_i L d' cd' zi ho
   have z:=(X _ _ ho).symm.trans htp;cases z
  ·cases hc
 ca:=λX I k=>yN X I Z k
end
end L2.EX
namespace L2
open PySem PySem.W PySem.Spec PyProof.Rows
abbrev nD (C a:μ):HO:=.ext (EX.ExcAt a C)
def D.exc (C:μ):D:=.ob (nD C)
structure O2 (P:aas)(w:aaG)(outer:List Env)(H:Hp)(s:aao)(a C:μ)(H':Hp)(s':aao):Prop where
 os:s'.os=s.os
 bare:aet s'.gens
 un:Un (iC outer) [] H H' s.heap s'.heap
 bh:iq P w H' s'.heap
 fl:∃(B:Heap) (a0:aam),adI B outer a (.ref C) a0 s'.heap/\(∀b,H' b≠ξ->∃o,B.get? b=M o) /\
  ∀b o,s.heap.get? b=M o->b∉iC outer->∃o',B.get? b=M o'/\(H b=ξ->o'=o)
 nt:H' a=ξ
 nw:s.heap.get? a=ξ
def ux (P:aas)(w:aaG):Cv:=λouter H s E e s'=>∃(a C:μ) (H':Hp),e=.ref a/\O2 P w outer H s a C H' s'/\E (.ref C) ξ H'
section
variable {B:Heap}
def rZ (x:iq P w H h){b:μ}(e:H b≠ξ):∃o,h.get? b=M o:=by
 cases q:H b with
 |none=>exact Κ q e
 |some u =>
  have z:=x b u q;cases u with
  |lst xs=>let {L,L,L,L,e}:=z;exact{_,e}
  |tup xs=>let {L,L,L,o,e,L}:=z;exact{_,e}
  |dK bc=>let {L,L,L,L,o,L,L,e,L}:=z;exact{_,e}
  |dT bc=>let {L,L,L,L,o,L,L,e,L}:=z;exact{_,e}
  |set S n=>let {o,L,L,L,e,L}:=z;exact{_,e}
  |ins C dx fs=>let {L,L,L,e,L}:=z;exact{_,e}
  |own y=>let {L,e}:=z;exact{_,e}
  |xd fs=>obtain⟨_,⟨_,_,_,e,_⟩,_⟩:=z;exact{_,e}
  |S6 lo hi=>let {L,L,L,e}:=z;exact{_,e}
  |FH ob u=>let {e,L}:=z;exact{_,e}
  |Kt ps=>exact{_,(show h.get? b=M _ from z)}
  |met f y=>exact{_,(show h.get? b=M _ from z)}
  |ext φ=>let {L,e,L}:=z;exact e
def my (x:iq P w H h)(st:B.StaysIn h)(aI:B.StaysIn h')(L:∀b,H b≠ξ->∃o,B.get? b=M o):iq P w H h':=λb u e =>
 (x b u e).nr (λc v hc q=>by
  have nc:H c≠ξ:=by
   rcases hc with rfl|z
   ·rw[e];exact λz=>.au
   ·rw[z];exact λz=>.au
  let {o,ho}:=L c nc;rw[st c o ho]at q;cases q;exact aI c _ ho) (λ_ q=>q) λ_ _ q=>q
end
section
variable {s':aao}{e C:μ}
def yF (u:Un (iC outer) [] H0 H h0 h1)(ff:h1.FunFrames B outer)(st:B.StaysIn h2)(up:h1.UpToSlots h2)
  (tr:∀b o,h0.get? b=M o->b∉iC outer->∃o',B.get? b=M o'/\(H0 b=ξ->o'=o)):Un (iC outer) [] H0 H h0 h2 where
 keep:=λb o e n L _=>by
  let {o',Y,O}:=tr b o e L;rw[<- O n];exact st b _ Y
 slot:=λb o e n L hx=>by
  let {sl,Y}:=u.slot b o e n L hx;let {_x,o',O,nf}:=ff.mem L;rw[Y]at O;cases O;let {zi,e3}:=up b _ Y nf;exact{(zi),e3}
 free:=u.free
 there:=λb o e hx=>by
  by_cases L:b∈iC outer
  ·let {_x,o',O,nf}:=ff.mem L;let {zi,e3}:=up b _ O nf;exact{_,e3}
  ·let {o',Y,_x}:=tr b o e L;exact{o',st b _ Y}
 jA:=u.jA
 iW:=u.iW
 jB:=u.jB
def yh (I:Inv X χ σ H s)(hx:X.ex=[])(qT:X.stack=.f::X.outer)(hf:X.env.frame=M X.env.locals)(m:Heap.MadeExcOf s.heap hs e (.ref C) vs)
  (k:∀Dv,O2 X.prog X.w X.outer X.H₀ X.s₀ e C H Dv->Q () Dv):aaD L X.A (leaving .f (.ref e)) Q E {s with heap:=hs}:=by
 have fr:X.A.frames=M (.f::X.outer):=by rw[<- qT];exact I.ok.frames
 have ff:s.heap.FunFrames X.base (.f::X.outer):=by rw[<- qT];exact I.stack
 have r9:∀env∈(.f::X.outer),∀b,env.frame=M b->b∈iC (.f::X.outer):=λenv he b hb=>adw.mpr {(env),he,hb};have nl:∀b o,X.s₀.heap.get? b=M o->b∉X.fs->b∉iC (.f::X.outer):=λb o Y nb z=>by
  unfold iC at z;rw[abj,hf]at z;rcases aat.mp z with z|z
  ·exact Κ (aaV (aaw Y) I.ok.above) (by rw[z];exact ab7 _)
  ·exact nb z
 have I0:∀b,b∉X.ex:=λb z=>by rw[hx]at z;cases z
 have YH:(hideAll s.heap (iC (.f::X.outer))).StaysIn s.heap:=λb o q=>of_hideAll _ q;refine wpAny_leaves_madeW (h:=s.heap) (base:=hideAll s.heap (iC (.f::X.outer))) fr hf YH (funFrames_hide ff r9) m λh' t f1 f2 f3 f4=>k _ ?_;have tr:∀b,H b≠ξ->∃o,(hideAll s.heap (iC (.f::X.outer))).get? b=M o:=λb nb=>by
  let {o,ho}:=rZ I.bh nb;exact{o,hideAll_get _ ho λz=>nb (I.nH b (by rw[qT];exact z))}
 have xu:∀b o,X.s₀.heap.get? b=M o->b∉iC X.outer->∃o',(hideAll s.heap (iC (.f::X.outer))).get? b=M o'/\(X.H₀ b=ξ->o'=o):=λb o Y nb=>by
  let {o1,O}:=I.base.there b o Y (I0 b);refine{o1,hideAll_get _ O (nl b o Y nb),λn=>?_};rw[I.base.keep b o Y n nb (I0 b)]at O;exact(aaZ O).symm
 have u0:Un (iC X.outer) [] X.H₀ H X.s₀.heap s.heap:=by
  have z:=I.base;rw[hx]at z;exact z
 have ff2:s.heap.FunFrames (hideAll s.heap (iC (.f::X.outer))) X.outer:=(funFrames_hide ff r9).2.2;refine{I.os,I.bare,yF u0 ff2 f1.1 ((Heap.UpToSlots.of_keeps m.keeps).trans f4) xu,my I.bh YH f1.1 tr,{_,_,f1,tr,xu},?_,?_}
 ·cases q:H e with
  |none=>rfl
  |some u =>
   let {o,ho}:=rZ I.bh (b:=e) (by rw[q];exact λz=>.au)
   rw[m.new]at ho;cases ho
 ·cases q:X.s₀.heap.get? e with
  |none=>rfl
  |some o =>
   let {o',O}:=I.base.there e o q (I0 e);rw[m.new]at O;cases O
def EZ (I:Inv X χ σ H s)(hx:X.ex=[])(qT:X.stack=.f::X.outer)(hf:X.env.frame=M X.env.locals)(f:O2 X.prog X.w X.stack H s e C H' s')
  (k:∀Dv,O2 X.prog X.w X.outer X.H₀ X.s₀ e C H' Dv->Q () Dv):aaD L X.A (leaving .f (.ref e)) Q E s':=by
 have fr:X.A.frames=M (.f::X.outer):=by rw[<- qT];exact I.ok.frames
 have I0:∀b,b∉X.ex:=λb z=>by rw[hx]at z;cases z
 obtain⟨os,bare,un,bh,⟨B,a0,fl,tr,xu⟩,nt,nw⟩:=f;rw[qT]at fl un xu;have nl:∀b o,X.s₀.heap.get? b=M o->b∉X.fs->b∉iC (.f::X.outer):=λb o O nb z=>by
  unfold iC at z;rw[abj,hf]at z;rcases aat.mp z with z|z
  ·exact Κ (aaV (aaw O) I.ok.above) (by rw[z];exact ab7 _)
  ·exact nb z
 refine wpAny_leaves_onW fr hf fl λh' f1 f4=>k _ ?_;have u0:Un (iC X.outer) [] X.H₀ H X.s₀.heap s.heap:=by
  have z:=I.base;rw[hx]at z;exact z
 have Uc:∀b o,X.s₀.heap.get? b=M o->b∉iC X.outer->∃o',B.get? b=M o'/\(X.H₀ b=ξ->o'=o):=λb o O nb=>by
  let {o1,Y}:=I.base.there b o O (I0 b);let {o',e2,e3}:=xu b o1 Y (nl b o O nb);refine{o',e2,λn=>?_};rw[I.base.keep b o O n nb (I0 b)]at Y;cases Y;exact e3 (I.base.free b o O n (I0 b))
 have u1:Un (iC X.outer) [] X.H₀ H' X.s₀.heap s'.heap:=by
  refine{λb o O n nb _=>?_,λb o O n hb hx=>?_,λb o O n hx=>?_,λb o O hx=>?_,λb xs q=>un.jA b xs (u0.jA b xs q),λb o q z=>un.iW b o q (u0.iW b o q z),λb ps q=>?_}
  ·let {o',Y,e2}:=Uc b o O nb;rw[<- e2 n];exact fl.1 b _ Y
  ·let {sl,Y}:=u0.slot b o O n hb hx;have lq:b∈iC (.f::X.outer):=by unfold iC;rw[abj,hf];exact aaL _ hb
   let {zi,e2}:=un.slot b _ Y (u0.free b o O n hx) lq .c
   exact{(zi),e2}
  ·let {o',Y}:=u0.there b o O hx;exact un.free b o' Y (u0.free b o O n hx) .c
  ·let {o',Y}:=u0.there b o O hx;exact un.there b o' Y .c
  ·let {m1,Y}:=u0.jB b ps q;let {m2,e2}:=un.jB b _ Y;exact{m1++m2,by rw[e2,Array.append_assoc]}
 refine{os.trans I.os,bare,yF u1 fl.2.2.1.2.2 f1.1 f4 Uc,my bh fl.1 f1.1 tr,{(B),a0,f1,tr,Uc},nt,?_};cases q:X.s₀.heap.get? e with
 |none=>rfl
 |some o =>
  let {o',Y}:=I.base.there e o q (I0 e);rw[nw]at Y;cases Y
end
abbrev Cx.CG (X:Cx)(e:μ):Cx:={X with A:=X.A.mark (M (.ref e)),calm:=η,xe:=λ_ _=>False}
section
variable {s':aao}{e C:μ}
def Inv.CG (I:Inv X χ σ H s):Inv (X.CG e) χ σ H s :=
 {{I.ok.mod,I.ok.kind,I.ok.glob,I.ok.blt,I.ok.above,I.ok.inj,I.ok.has,I.ok.Ki,(λz=>by cases z),I.ok.frames,I.ok.Kw,I.ok.Hh,I.ok.bs,I.ok.yS,I.ok.qP,I.ok.q_,I.ok.jF,I.ok.FI},I.os,I.bare,I.base,I.loc,I.cell,I.free,I.dQ,I.pin,I.bh,I.len}
def Inv.PK (ok:X.Ok)(I:Inv (X.CG e) χ σ H s):Inv X χ σ H s:={(ok),I.os,I.bare,I.base,I.loc,I.cell,I.free,I.dQ,I.pin,I.bh,I.len}
def JJ (I:Inv X χ σ H s)(hN:X.N.Nodup)(hj:X.N[j]?=M n)(hl:X.env.scope.names.lookup n=M .local)
  (h:∀s',Inv X χ (σ.set j ξ) H s'->Q () s'):aaD L A (do bindName .f n .none;unbindBehindTheSuite .f n pos) Q E s:=by
 let {m,hn,vE}:=id I.loc;have N_:(X.env.scope.kind==.class || (X.env.scope.kind==.module&&X.env.locals != X.env.globals))=η:=by rw[I.ok.kind];rfl
 have Gk:=I.Gk;let {oL,_x,_x,Zi,_x}:=id hn;refine wpAny_nameGoes_keeps hl hn N_ λh' v JB hs=>h _ ?_;have O5:iq X.prog X.w H h':=λb ob O=>by
  refine(I.bh b ob O).nr (λc w' hc q=>(hs.2 c ?_).trans q) (λ_ q=>q) λ_ _ q=>q;rintro rfl;rcases hc with rfl|hc
  ·rw[I.free]at O;cases O
  ·rw[I.free]at hc;cases hc
 have nL:∀b o,X.s₀.heap.get? b=M o->b≠X.env.locals:=λb o O=>aaN (aaV (aaw O) I.ok.above);refine{I.ok,I.os,I.bare,{λb o O nb hb hx=>(hs.2 b (nL b o O)).trans (I.base.keep b o O nb hb hx),λb o O nb hb hx=>?_,I.base.free,λb o O hx=>?_,I.base.jA,I.base.iW,I.base.jB},{_,JB,λi y v' Y e2 e3=>?_},λy c ec=>?_,I.free,I.dQ,λp hp=>?_,O5,by simpa using I.len}
 ·let {sl,Y}:=I.base.slot b o O nb hb hx;exact{sl,(hs.2 b (nL b o O)).trans Y}
 ·let {o',Y}:=I.base.there b o O hx;exact{o',(hs.2 b (nL b o O)).trans Y}
 ·by_cases aN:i=j
  ·subst aN;rw[adH]at e2;rw[ω rfl]at e2
   split at e2 <;> cases e2
  ·rw[List.getElem?_set_ne (abn aN)]at e2;let {u',r',q}:=vE i y v' Y e2 e3;refine{u',r',?_};rcases q with⟨k,z⟩|⟨k,c,z,z'⟩
   ·refine .inl {k,?_};have ne:y≠n:=λz=>aN (o_ hN Y (z▸hj));simp[ne,z]
   ·exact .inr {k,c,z,z'.sameBut hs (Gk y c z)}
 ·let {w',z}:=I.cell y c ec;exact{w',z.sameBut hs (Gk y c ec)}
 ·let {Y,n1,ne,nf,d}:=I.pin p hp;exact{(hs.2 p.1 ne).trans Y,n1,ne,nf,d}
def O2.land (I:Inv X χ σ H s)(f:O2 X.prog X.w X.stack H s e C H' s')(fl:adI B X.stack e (.ref C) a0 s'.heap)(tr:∀b,H' b≠ξ->∃o,B.get? b=M o)
  (xu:∀b o,s.heap.get? b=M o->b∉iC X.stack->∃o',B.get? b=M o'/\(H b=ξ->o'=o)) (O:adI B X.stack e (.ref C) a0 L) (up:s'.heap.UpToSlots L) :
  Inv X χ σ (upd H' e (nD C e)) {s' with heap:=L,toks:=t}:=by
 have u:=yF f.un fl.2.2.1 O.1 up xu;let {oe,vs,g1,g2,g3,_x}:=O.first
 have ex:EX.ExcAt e C L:={(oe),vs,g1,g2,g3};have bh:iq X.prog X.w H' L:=my f.bh fl.1 O.1 tr;have ne:∀b u,H' b=M u->b≠e:=λb u q z=>by rw[z,f.nt]at q;cases q
 have Xd:iq X.prog X.w (upd H' e (nD C e)) L:=λb u q=>by
  by_cases hb:b=e
  ·subst hb;rw[az]at q;cases q;exact{ex,{(oe),g1},λh1 h2 Wy k=> by obtain⟨o,vs,z1,z2⟩ := Wy;exact{o,vs,k o z1,z2}}
  ·rw[au hb]at q;exact(bh b u q).nr (λc v _ q=>q) (λc q=>by rw[au (ne c _ q)];exact q) λc xs q=>by rw[au (ne c _ q)];exact q
 have u2:Un (iC X.stack) [] H (upd H' e (nD C e)) s.heap L:=by
  refine{u.keep,u.slot,λb o Y nb hx=>?_,u.there,λb xs q=>?_,λb o q z=>?_,λb ps q=>?_}
  ·rw[au (λz=>by rw[z,f.nw]at Y;cases Y)]
   exact u.free b o Y nb hx
  ·have z:=u.jA b xs q;rw[au (ne b _ z)];exact z
  ·have z':=u.iW b o q z;rw[au (ne b _ z')];exact z'
  ·let {more,z}:=u.jB b ps q;exact{more,by rw[au (ne b _ z)];exact z}
 exact I.Gy (s':={s' with heap:=L,toks:=t}) f.os u2 Xd f.bare (λb z=>nomatch z)
def ExcAt.stays (f:adI B l e (.ref C) a0 h):EX.ExcAt e C h:=by
 let {oe,vs,Y,O,L,_x}:=f.first
 exact{(oe),vs,Y,O,L}
def OJ (I:Inv X χ σ H s)(qT:X.stack=.f::X.outer)(hf:X.env.frame=M X.env.locals)
  (f:O2 X.prog X.w X.stack H s e C H' s') (hm:X.mg xA=M (.ref CA)) (hg:Gl X xA) (hx:exmOne X.K (.ref C) (.ref CA)=M G) (hN:X.N.Nodup) (hj:X.N[j]?=M n) (Y:X.env.scope.names.lookup n=M .local)
  (k:∀s1,Inv (X.CG e) χ (σ.set j (M (.ref e))) (upd H' e (nD C e)) s1->aaD .aa (X.CG e).A (execs (b₀::uL) .f)
   (λf s4=>aaD .aa X.A (do bindName .f n .none;unbindBehindTheSuite .f n Jx) (λ_ s5=>Q f s5) E s4) (λ_ _=>False) s1) (hd:(xA==("__debug__" : Str))=η:=by decide) :
  aaD .aa X.A (noteFrame (.ref e) .f) (λ_ s₂=>aaD .aa X.A (setFlight (.ref e) ξ) (λ_ s₃ =>
   aaD .aa X.A (handleBy (.ref e) .f [.ExceptHandler (M (.Name xA np)) (M n) (b₀::uL) Jx]) Q E s₃) E s₂) E s':=by
 have fr:X.A.frames=M (.f::X.outer):=by rw[<- qT];exact I.ok.frames
 let {B,a0,fl,O,xu}:=f.fl;have fl':adI B (.f::X.outer) e (.ref C) a0 s'.heap:=by rw[<- qT];exact fl
 refine wpAny_looks_onW fr hf fl' λh4 RQ YI=>?_;refine wpAny_landsW RQ λh5 RL O9=>?_;have KZ:adI B X.stack e (.ref C) a0 h5:=by rw[qT];exact RL
 have I5:Inv X χ σ (upd H' e (nD C e)) {s' with heap:=h5}:=f.land (t:=s'.toks) I fl O xu KZ (YI.trans O9)
 refine wpAny_handleBy_cons (codeAny_handlers_test ?_) (by intro q;cases q)
 refine hZ (X:=X.CG e) (Inv.CG I5) hg hm ?_ hd;refine(exm_one (M:=δ X.prog X.w) I5.zV (ExcAt.stays KZ).ty hx).here ?_;rw[ω rfl];refine codeAny_handlers_suite_as ?_;refine lands_againW RL λh6 XM sm6=>?_;have RK:adI B X.stack e (.ref C) a0 h6:=by rw[qT];exact XM
 have I6:Inv X χ σ (upd H' e (nD C e)) {s' with heap:=h6}:=f.land (t:=s'.toks) I fl O xu RK ((YI.trans O9).trans sm6)
 refine oE (X:=X.CG e) (Inv.CG I6) hN hj (.inl Y) (v:=.ref e) rfl (λs7 I7=>?_) (.inr Y);exact acL (k s7 I7) (λf s8 z=>z) λ_ _ z=>z.elim
end
end L2
namespace L2.Q
open PySem PySem.W PySem.Spec PySem.SeqAt PyProof.Rows
abbrev O3:=List D->(D->Prop)->(μ->Prop)->Prop
def AL (F:O3):Prop:=∀ds R R' T T',(∀d,R d->R' d)->(∀c,T c->T' c)->F ds R T->F ds R' T'
def lR (P:aas)(w:aaG)(ro:Bool)(F:O3):Sp:=λvs H Q E=>∃ds,aj P w (λ_=>False) H ds vs/\F ds (λd=>∀v H',ay H H'->rj P w ro H H' d v->Q v H') (λcl=>∀H',ay H H'->E (.ref cl) ξ H')
structure Yq (X:Cx)(H0:Hp)(IO:μ->Prop)(T:μ->Prop):Prop where
 made:∀χ σ H s e cl hs vs,Inv X χ σ H s->Kp IO H0 H->Heap.MadeExcOf s.heap hs e (.ref cl) vs->T cl->X.xe (.ref e) {s with heap:=hs}
 pass:Passes (ux X.prog X.w) X (λcv _ H'=>∃cl,cv=.ref cl/\T cl/\Kp IO H0 H')
 own:PassesOwn .aa X.A .f X.xe
abbrev XR (H:Hp)(E:XK)(cl:μ):Prop:=∀H',ay H H'->E (.ref cl) ξ H'
def fk {P:aas}{w:aaG}{K:Frag}{mg:Str->Option aam}{base:Heap}{N:List Str}{qual:Str}{scope:acF}{f:μ}{cd:aam}{A:abf}{outer:List Env}{s:aao}{H:Hp}{E:XK}:
  Yq (mG (ux P w) P w K mg base N qual scope f cd A outer s H E) H (λ_=>False) (XR H E) where
 made:=λχ σ H1 s1 e cl hs vs I k m t=>yh I rfl rfl rfl m λDv fl=>{e,cl,H1,rfl,fl,t H1 λb o z=>k.out b o z λz=>z}
 pass:=λχ σ H1 s1 e s' I cO=>by
  let {a,cl,H',L,fl,cl',Yd,t,k}:=cO;cases L;cases Yd;exact EZ I rfl rfl rfl fl λDv fl=>{a,cl,H',rfl,fl,t H' λb o z=>k.out b o z λz=>z}
 own:=PassesOwn.leaving
abbrev TC:List aam:=[.type "ValueError",.type "Exception",.type "BaseException",.type "object"]
structure Xc (K:Frag)(mg:Str->Option aam)(x:Str)(C:μ):Prop where
 m:mg x=M (.ref C)
 exc:excIn K C TC "ValueError.__new__" = G
def Xc.own {K:Frag}{mg:Str->Option aam}{x:Str}{C:μ}{h:Heap}(z:Xc K mg x C)(X:K.In h):OwnCls x C TC "ValueError.__new__" mg h:=by
 refine{z.m,?_};have q:=z.exc;unfold excIn at q
 split at q
 ·rename_i dd cd sl ho
  split at q
  ·rename_i Y bm k0 k1 k2 k3 n k5 L hs
   simp only[aa1,beq_iff_eq,Bool.not_eq_true']at q;obtain⟨⟨⟨⟨⟨rfl,rfl⟩,RS⟩,O⟩,bh⟩,Th⟩:=q;let {nm,bs,mro,ns,qn,hd,sn,sub,ab,col,del}:=cd;dsimp only at L RS bh Th;subst L RS;have Fh:sl=#[k0,k1,k2,k3,M (.builtin "ValueError.__new__"),k5]:=by
    obtain⟨l⟩:=sl;simp only at hs;rw[hs]
   subst Fh;exact{bm,ns,nm,qn,bs,hd,sn,sub,ab,col,dd,k0,k1,k2,k3,k5,_,X _ _ ho,.of_isNs (isNs_of_in X bh),nsMap_none_of_in X bh Th,tail_of_in X O}
  ·cases q
 ·cases q
section
variable {T:μ->Prop}{x:Str}{cl:μ}{np Si:Pos}{m:Str}
def u7 {j}(Z:Yq X C.H0 C.IO T)(hc:X.calm=G)(L:Xc X.K X.mg x cl)(Y:Gl X x:=by rfl)(hd:.ai=η:=by decide)
  (he:aaz [.Constant (.str m) j Si] .f=[(η,eval (.Constant (.str m) j Si) .f)]:=by rfl) (O:(abN cpos (aaz [.Constant (.str m) j Si] .f)).any (·.1)=η:=by rfl) :
  PB X C (.Raise (M (.Call (.Name x np) [.Constant (.str m) j Si] [] cpos)) ξ pos) (λ_ _=>T cl) :=
 ⟨λ_ _ _ _ h=>h,λχ s σ H D I lh=>by
  obtain⟨_,E,β,⟨own,sq,n⟩,t,_⟩:=lh;let {tl,N,nm,q,bs,hdct,sn,sub,ab,col,dd,k0,k1,k2,k3,k5,mN,hC,hN,Th,TL}:=(L.own I.zV).obj;have FB:=PySem.F.excBase_ValueError;refine wpAny_Raise_call_subT (C:=cl) (nm:=nm) (q:=q) (N:=N) (bs:=bs) (bm:=tl) (hdct:=hdct) (sn:=sn) (sub:=sub) (ab:=ab) (col:=col) (dd:=dd) (k0:=k0) (k1:=k1) (k2:=k2) (k3:=k3) (k5:=k5)
   FB (mN:=mN) (TL.hasType FB.hasBase) (I.ok.hd hc) O Th (hZ I Y L.m {rfl,?_} hd)
  rw[he];refine adV ?_;show aaD _ _ (spliced ((η,eval (.Constant (.str m) j Si) .f)::abN cpos [])) _ _ _;refine acX (aee (aes {rfl,(by show 1<=aaC;decide),hC,hN,TL,λh' e mk=>?_}))
  exact Z.made χ σ H {s with toks:=s.toks+1} e cl h' _ (I.tok _) sq.kp mk t⟩
end
section
variable {k:Nat}{f:μ}{F:O3}{ro:Bool}{x:Str}{T:μ->Prop}
def Qn (ro:Bool)(F:O3)(T:μ->Prop)(φs:bf):aM:=λβ R=>φs β λds _ L=>F ds (λd=>R d (rk ro) L) T
def iN (Z:Yq X C.H0 C.IO T)(mF:AL F)(L:aG X.prog X.w X.K X.mg X.base (ux X.prog X.w) k f fd ps (lR X.prog X.w ro F))(hr:ck k X.A)(hm:X.mg x=M (.ref f))(hk:Β X.K (.ref f)=G)(hb:Binds X.K fd ps [])(Y:nh X C p (e::es) φs)(hg:Gl X x:=by rfl)
  (hdb:.ai=η:=by decide)
  (iy:aaz (e::es) .f=.aE::aaz es .f:=by rfl) (hpl:(abN pos (aaz es .f)).any (·.1)=η:=by rfl) :
  PQ X C p (.Call (.Name x pp) (e::es) [] pos) (Qn ro F T φs) :=
 ⟨λβ R R' k h=>Y.mono β _ _ (λds ks O q=>mF ds _ _ _ _ (λd q=>k _ _ _ q) (λ_ z=>z) q) h,(tJ L hr hg hm hk hb .nil Z.pass Y.pa (hdb:=hdb) (he:=iy) (hpl:=hpl)).pre λσ H Q ⟨β,own,s,h⟩=>oA.of Y s h λds ks O vs H1 aw q o1 r1=>by
  rw[abR];exact{ds,r1.bor,mF ds _ _ _ _ (λd q2 v H' s2 r2=>q2 v H' aw (o1.same s2) (r2.kv o1.sq.sC o1.sq.iE λa z=>o1.sn.d a z)) (λc t H' s2=>{c,rfl,t,o1.sq.kp.trans s2.kp}) q}⟩
end
def qE.qu {X:Cx}{C:Cfg}{st:List Stmt}{ψ:Cu}(h:qE X.qu C st ψ):qE X C st ψ:={h.mono,sQ.qu (h.ps.pre λD σ H L=>by let {Z,E,β,sb,q,ok}:=L;exact{Z,E,β,sb,q,{(ok.nx),ok.rt,ok.bk,ok.ct}})}
section
variable {K:Frag}
def x_ {x qual:Str}{st:Stmt}{f:μ}{fd:aa6}{N ps:List Str}{k:Nat}{F:O3}{ro:Bool}(G:AO K x qual st f fd)(S:aH N ps (ak st))(len:∀ds R T,F ds R T->ds.length=ps.length)
  (gD:∀(bD:aam) (A:abf) (outer:List Env) (s:aao) (H:Hp) (E:XK),ck k (A.deeper (adX qual (ak st) .e f bD)) ->
   ∃ψ,qE (mG (ux P w) P w K mg base N qual (ak st) f bD A outer s H E) {H,λ_=>False,ro,λ_=>False} (dI st) ψ/\∀ds R,F ds R (XR H E)->ψ {nx:=λ_=>R .cI,rt:=λd _=>R d} (startB N ds)) :
  aG P w K mg base (ux P w) (k+1) f fd ps (lR P w ro F):=by
 let {oc,od,kV,doc,pm,an,bD,ct,II,rfl,lk,uu}:=G.ex;refine K3 lk uu S (λvs H Q E h=>?_) (λA outer s H vs Q E Y h=>?_)
 ·let {ds,r,h}:=h;rw[r.length];exact len ds _ _ h
 ·let {ds,r,h}:=h;let {ψ,hb,hF}:=gD bD A outer s H E Y;refine{_,hb.ps,(H,Wn λ_=>[]),_,startB N ds,{λ_=>[],oG r,Sn.refl},hF ds _ h,λσ H' β sb q=>?_,λσ H' β d v sb L q=>?_,λ_ _ _ _ z=>z.elim,λ_ _ _ _ z=>z.elim}
  ·let {own,s',O}:=sb;exact q _ H' (λb o e=>s'.kp.out b o e (λz=>z)) (d4 (W:=λ_=>False) rfl rfl)
  ·let {own,s',O}:=sb;exact q _ H' (λb o e=>s'.kp.out b o e (λz=>z)) L
def aG.toX (G:aG P w K mg base bP k f fd ps (dz P w ro F)):aG P w K mg base (ux P w) k f fd ps (lR P w ro λds R _=>F ds R) :=
 ⟨λvs H Q E h=>G.len vs H Q E0 h,λA outer s H args us vs Q E L Y O r hs=>acy (G.run A outer s H args us vs Q E0 L Y O r hs) λres s' q=>by
  cases res with
  |error e=>exact q.elim
  |ok fl=>cases fl <;> exact q⟩
end
abbrev _root_.L2.Cx.Io (X:Cx)(χ:List (μ×Obj))(Eh:aam->aao->Prop):Cx:={X with pn:=X.pn++χ,xe:=Eh}
section
variable {iP:List (μ×Obj)}{Eh:aam->aao->Prop}
def MH (ok:X.Ok):(X.Io χ Eh).Ok:={(ok.mod),ok.kind,ok.glob,ok.blt,ok.above,ok.inj,ok.has,ok.Ki,ok.hd,ok.frames,ok.Kw,ok.Hh,ok.bs,ok.yS,ok.qP,ok.q_,ok.jF,ok.FI}
def zZ (I:Inv X (χ++iP) σ H s):Inv (X.Io χ Eh) iP σ H s:={MH I.ok,I.os,I.bare,I.base,I.loc,I.cell,I.free,I.dQ,λp L=>I.pin p (by rw[<- abx];exact L),I.bh,I.len}
def DT (ok:(X.Io χ Eh).Ok):X.Ok:={(ok.mod),ok.kind,ok.glob,ok.blt,ok.above,ok.inj,ok.has,ok.Ki,ok.hd,ok.frames,ok.Kw,ok.Hh,ok.bs,ok.yS,ok.qP,ok.q_,ok.jF,ok.FI}
def Im (I:Inv (X.Io χ Eh) iP σ H s):Inv X (χ++iP) σ H s:={DT I.ok,I.os,I.bare,I.base,I.loc,I.cell,I.free,I.dQ,λp L=>I.pin p (by rw[<- abx]at L;exact L),I.bh,I.len}
def iO (I:Inv (X.Io χ Eh) iP σ H s):Inv X χ σ H s:={DT I.ok,I.os,I.bare,I.base,I.loc,I.cell,I.free,I.dQ,λp L=>I.pin p (abW _ L),I.bh,I.len}
def Mt (h:PA X.qu es t):PA (X.Io χ Eh) es t:=λpos iP s σ H Q I q =>
 acL (h pos (χ++iP) s σ H Q ((Im I).ki _) q) (λ_ _ Wx=> by obtain⟨vs,H',L,r,q⟩ := Wx;exact{vs,H',zZ L.eM,r,q}) λ_ _ z=>z.elim
def LS {D:Ends}{f:Flow}{s':aao}(h:SP (X.Io χ Eh) [] D f s'):SP X χ D f s':=by
 cases f with
 |next=>let {σ',H',I,q}:=h;exact{σ',H',iO I,q}
 |brk=>let {σ',H',I,q}:=h;exact{σ',H',iO I,q}
 |cont=>let {σ',H',I,q}:=h;exact{σ',H',iO I,q}
 |ret u=>let {v,σ',H',I,r,q}:=h;exact{v,σ',H',iO I,r,q}
end
def Ec {X:Cx}{CX:Cv}{k:Nat}{f:μ}{fd:aa6}{ps:List Str}{sp:Sp}{x:Str}{p pos:Pos}{e:Expr}{es:List Expr}{t:TA}(F:aG X.prog X.w X.K X.mg X.base CX k f fd ps sp)(hr:ck k X.A)(hg:Gl X x)(hm:X.mg x=M (.ref f))
  (hk:Β X.K (.ref f)=G) (hb:Binds X.K fd ps []) (ha:PA X (e::es) t) (hdb:.ai=η:=by decide) (he:aaz (e::es) .f=.aE::aaz es .f:=by rfl)
  (hpl:(abN pos (aaz es .f)).any (·.1)=η:=by rfl) :
  PE X (.Call (.Name x p) (e::es) [] pos) (λσ H Q=>t σ H λvs H1=>∃E:XK,sp vs H1 Q E/\∀χ s e s',Inv X χ σ H1 s->CX X.stack H1 s E e s'->X.xe e s'):=by
 intro χ s σ H Q I h;refine ab_ (hZ I hg hm ?_ hdb);refine PySem.W.callWith_K (h₀:=X.base) I.ok.mod.M5 hk (bz (ha pos χ s σ H _ I h) λus s1 ⟨vs,H1,O,r,q⟩=>{O.zV,?_}) he hpl;let {E,q,hx}:=q;have Y:Vals (vs++[]) (us++[]):=r.append .nil;have hl:(us++[]).length=ps.length:=by rw[<- Y.length,abR];exact F.len _ _ _ _ q
 refine ad8 (acy (F.run X.A X.stack s1 H1 {us,[]} (us++[]) (vs++[]) Q E hr O.Ol (hb s1 us O.zV hl) Y (by rw[abR];exact q)) λr s' L=>?_)
 cases r with
 |error e=>exact hx χ s1 e s' O L
 |ok fl =>
  cases fl with
  |ret u=>exact O.after L
  |next=>exact abX L
  |brk=>exact abX L
  |cont=>exact abX L
abbrev GU:=dq->(μ->Prop)->a8->Prop
structure TB (X:Cx)(C:Cfg)(body:List Stmt)(θ:GU):Prop where
 mono:∀E E' T T' β,Le E E'->(∀c,T c->T' c)->θ E T β->θ E' T' β
 run:∀(χ:List (μ×Obj)) (s:aao) (σ:St) (H:Hp) (D:Ends) (Eh:aam->aao->Prop) (Z:Hp×(μ->Prop)) (E:dq) (β:a8) (own:Nat->List μ) (T:μ->Prop),Inv X χ σ H s->SQ X C.z σ H β own->Sn Z H (Wn own)->ZU X C Z E D->θ E T β ->
  (∀s1 H1 e s',Inv X χ σ H1 s1->ay H H1->ux X.prog X.w X.stack H1 s1 (λcv _ H'=>∃cl,cv=.ref cl/\ay H1 H'/\T cl) e s'->Eh e s')->aaD .aa X.A (execs body .f) (SP X χ D) Eh s
section
variable {k:Nat}{f:μ}{F:O3}{ro:Bool}{x:Str}{c:Expr}{a b:List Stmt}{θa θb:GU}{τ:bg}
def uK (hc:w_ X.qu C.z G c τ)(ha:TB X C a θa)(Y:TB X C b θb):TB X C [.If c a b pos] (λE T β=>τ β λt β'=>if t=G then θa E T β' else θb E T β') where
 mono:=λE E' T T' β l m h=>hc.mono _ _ _ (λt β' q=>by
  cases t
  ·exact Y.mono E E' T T' β' l m q
  ·exact ha.mono E E' T T' β' l m q) h
 run:=λχ s σ H D Eh Z E β own T I sq n ok h hE=>by
  refine wpAny_execs_cons (bz (Q:=SP X χ D) (wpAny_If (bz (hc.pt.qu (X:=X.ki Eh) χ s σ H _ (I.ki Eh) (nk.of (X:=X.qu) hc sq h λt β' H1 aw q o1=>({(β'),aw,q,o1}:∃β' aw,(if t=G then θa E T β' else θb E T β')/\Out X C.z σ H own G β' H1 aw))) λd s1 ⟨H1,I1,β',aw,O,o1⟩=>?_)) λfl s1 q=>?_)
  ·let {sm,rfl}:=o1.pu rfl;have ZE:∀s2 L e s',Inv X χ σ L s2->ay H1 L->ux X.prog X.w X.stack L s2 (λcv _ H'=>∃cl,cv=.ref cl/\ay L H'/\T cl) e s'->Eh e s':=λs2 L e s' I2 S3 q=>hE s2 L e s' I2 (sm.trans S3) q;cases d with
   |true=>exact ha.run χ s1 σ H1 D Eh Z E β' aw T I1.eM o1.sq (n.same sm) ok O ZE
   |false=>exact Y.run χ s1 σ H1 D Eh Z E β' aw T I1.eM o1.sq (n.same sm) ok O ZE
  ·cases fl with
   |next=>exact ads q
   |ret v=>exact q
   |brk=>exact q
   |cont=>exact q
def i9 (mF:AL F)(L:aG X.prog X.w X.K X.mg X.base (ux X.prog X.w) k f fd ps (lR X.prog X.w ro F))(hr:ck k X.A)(hm:X.mg x=M (.ref f))(hk:Β X.K (.ref f)=G)(hb:Binds X.K fd ps [])(Y:nh X.qu C.z G (e::es) φs)(hg:Gl X x:=by rfl)
  (hdb:.ai=η:=by decide) (iy:aaz (e::es) .f=.aE::aaz es .f:=by rfl) (hpl:(abN cp (aaz es .f)).any (·.1)=η:=by rfl)
  (xg:acD (.Call (.Name x pp) (e::es) [] cp) ξ pos.line .f=pure η:=by rfl) :
  TB X C [.Expr (.Call (.Name x pp) (e::es) [] cp) pos] (λE T β=>φs β λds _ O=>F ds (λ_=>E.nx O) T) where
 mono:=λE E' T T' β l m h=>Y.mono _ _ _ (λds ks O q=>mF ds _ _ _ _ (λ_ q=>l.nx _ q) m q) h
 run:=λχ s σ H D Eh Z E β own T I sq n ok h hE=>by
  have P:=jj (nN (X:=X.Io χ Eh) (pos:=pos) (Ec (X:=X.Io χ Eh) (p:=pp) (pos:=cp) L hr hg hm hk hb (Mt Y.pa) hdb iy hpl) xg);refine bz (P [] s σ H D (zZ (by rw[abR];exact I)) ?_) λfl s' q=>LS q
  refine oA.of (X:=X.qu) Y sq h λds ks O vs H1 aw q o1 r1=>?_;let {sm,rfl}:=o1.pu rfl;refine{λcv _ H'=>∃cl,cv=.ref cl/\ay H1 H'/\T cl,{ds,r1.bor,mF ds _ _ _ _ (λd q2 v H' s2 r2=>?_) (λcl t H' s2=>{(cl),rfl,s2,t}) q},λiP s1 e s' I1 q=>hE s1 H1 e s' (iO I1) sm q};exact ok.nx _ _ _ {aw,o1.sq.same s2,(n.same sm).same s2} q2
end
section
variable {β:a8}{own:Nat->List μ}
def cy.HS (b:cy P w C σ H β own):cy P w C (σ.set i ξ) H (β.set i ξ) (aY own i []):=by
 have sub:∀y a,jx C (Wn (aY own i [])) (yk y) a->jx C (Wn own) (yk y) a:=λy=>lJ (λa h=>iF h) _;refine{by simp[b.len],λj y' d' e=>?_,λj d' e=>?_,λj ok e=>?_,λj a h=>b.dm j a (di h).1,λj k a Y O=>b.nC j k a (di Y).1 (di O).1,λj=>?_,b.kp,b.iE,λj y' d' e=>?_}
 ·by_cases aN:i=j
  ·subst aN;let {L,hl}:=ba e;cases L
  ·rw[a6 aN]at e ⊢
   let {u,Y,O}:=b.val j y' d' e;exact{u,Y,O.aW (sub _)}
 ·by_cases aN:i=j
  ·subst aN;let {L,hl}:=ba e;cases L
  ·rw[a6 aN]at e ⊢
   rw[bM aN];exact b.ow j d' e
 ·by_cases aN:i=j
  ·subst aN;let {L,hl}:=ba e;cases L
  ·rw[a6 aN]at e ⊢
   rw[bM aN];exact b.pM j ok e
 ·by_cases aN:i=j
  ·rw[aN,os_eq];exact abg
  ·rw[bM aN];exact b.ph j
 ·by_cases aN:i=j
  ·subst aN;let {L,hl}:=ba e;cases L
  ·rw[a6 aN]at e ⊢
   rw[bM aN];let {u,Y,O,h3}:=b.shl j y' d' e;exact{u,Y,O.map (λ_ _ _ z=>z) (λ_ _ r=>aj.aW (sub _) r),h3}
end
section
variable {body uL:List Stmt}{b₀:Stmt}{θ:GU}{ψ:Cu}{xA n:Str}{CA:μ}{np Jx:Pos}
def HY {P:aas}{w:aaG}{σ:St}{H H':Hp}{β:a8}{own:Nat->List μ}{e cl:μ}(b:cy P w C.z σ H β own)(sm:ay H H')(nt:H' e=ξ):aA P w (jx C.z (Wn own) .dM) (upd H' e (nD cl e)) (.exc cl) (.ref e) :=
 ⟨e,rfl,{az,λxs z=>(by cases z)},λz=>by
  have L:=b.same sm;rcases z with (z|z)|z
  ·exact L.sC e z nt
  ·exact L.iE e z nt
  ·exact z⟩
def Ms (qT:X.stack=.f::X.outer)(hf:X.env.frame=M X.env.locals)(hb:TB X C body θ)(hs:∀e,qE (X.CG e) C (b₀::uL) ψ)(hm:X.mg xA=M (.ref CA))(hN:X.N.Nodup)(hj:X.N[j]?=M n:=by rfl)(hl:X.env.scope.names.lookup n=M .local:=by rfl)(hg:Gl X xA:=by rfl)
  (hd:(xA==("__debug__" : Str))=η:=by decide) :
  PB X C (.Try body [.ExceptHandler (M (.Name xA np)) (M n) (b₀::uL) Jx] [] [] pos)
   (λE β=>∃T:μ->Prop,θ E T β/\∀cl,T cl->exmOne X.K (.ref cl) (.ref CA)=M G/\ψ {nx:=λβ'=>E.nx (β'.set j ξ),rt:=λ_ _=>False} (β.set j (M (.val G (.exc cl))))) :=
 ⟨λE E' β l Ww=> by obtain⟨T,h,k⟩ := Ww;exact{T,hb.mono E E' T T β l (λ_ z=>z) h,λcl t=>{(k cl t).1,(hs 0).mono {nx:=λβ'=>E.nx (β'.set j ξ),rt:=λ_ _=>False} {nx:=λβ'=>E'.nx (β'.set j ξ),rt:=λ_ _=>False} _ {λβ' q=>l.nx _ q,λ_ _ z=>z,λ_ z=>z,λ_ z=>z} (k cl t).2}},λχ s σ H D I cO=>by
  obtain⟨Z,E,β,⟨own,sq,sn⟩,⟨T,h,k⟩,ok⟩:=cO;refine wpAny_Try_except (bz (hb.run χ s σ H D _ Z E β own T I sq sn ok h λs1 H1 e s' I1 sm cx=>?_) λfl s1 q=>?_)
  ·let {a,cl,H',rfl,O,cl',Yd,S3,t}:=cx;cases Yd;let {hx,hk}:=k cl t;refine OJ (X:=X) I1 qT hf O hm hg hx hN hj hl (λs2 I2=>?_) hd;have Y:ay H (upd H' a (nD cl a)):=(sm.trans S3).trans (ay.new O.nt);have P5:SQ X C.z (σ.set j (M (.ref a))) (upd H' a (nD cl a)) (β.set j (M (.val G (.exc cl)))) (aY own j []):=(sq.same Y).iG (HY sq (sm.trans S3) O.nt);refine bz ((hs a).ps χ s2 _ _ {nx:=λσ' H'=>D.nx (σ'.set j ξ) H',rt:=λ_ _=>False} I2 {Z,_,_,{_,P5,s9 (sn.same Y)},hk,{λσ' H' β' sb q=>?_,λ_ _ _ _ _ _ _ z=>z.elim,λ_ _ _ _ z=>z.elim,λ_ _ _ _ z=>z.elim}}) λfl s4 q=>?_
   ·let {aZ,sq',sn'}:=sb;exact ok.nx _ _ _ {_,sq'.HS,s9 sn'} q
   ·cases fl with
    |next =>
     let {σ4,H4,I4,q4}:=q;exact JJ (X:=X) (I4.PK I1.ok) hN hj hl λs5 I5=>{_,H4,I5,q4}
    |brk=>let {L,L,L,z}:=q;exact z.elim
    |cont=>let {L,L,L,z}:=q;exact z.elim
    |ret u=>let {L,L,L,L,L,z}:=q;exact z.elim
  ·cases fl with
   |next=>exact ads q
   |ret v=>exact q
   |brk=>exact q
   |cont=>exact q⟩
variable {T:Str}{pT:Pos}
structure Xk (K:Frag)(cl:μ)(c:aam)(b:Bool):Prop where
 xc:EX.XC K cl
 is:kitOne K (.ref cl) c=M b
def L7 (K:Frag)(c:aam)(φ:aM):aM:=λβ R=>φ β λd _ L=>∃cl b,d=.exc cl/\Xk K cl c b/\R (.bl b) .own L
inductive CV:V->aam->Prop where
 |own (a:μ):CV (.ref a) (.ref a)
 |ty (n:String):CV (.ty n) (.type n)
def CV.rel {v:V}{c u:aam}(h:CV v c)(r:RelV v u):u=c:=by
 cases h with
 |own a=>exact r
 |ty n=>exact r
def Gx {c:aam}{vc:V}(hc:CV vc c):gJ X (.builtin "isinstance") (λxs H Q=>∃a cl b,xs=[.ref a,vc]/\H a=M (nD cl a)/\Xk X.K cl c b/\Q (.bl b) H):=by
 intro χ s σ H xs us Q I r h;let {a,cl,b,rfl,ha,z,q}:=h;obtain⟨O,L,rfl,r1,Y⟩:∃O L,us=[O,L]/\RelV (.ref a) O/\RelV vc L:=by
  cases r with
  |cons r1 r =>
   cases r with
   |cons Y r=>cases r;exact{_,_,rfl,r1,Y}
 cases r1;let {ex,_x,_x}:=I.bh a _ ha;have e2:=hc.rel Y;subst e2;exact kia_one (EX.E5 z.xc) I.zV ex z.is (λz=>by cases z) λtk=>{.bl b,H,I.tok _,rfl,q}
def Oi {H:Hp}(h:aA P w W H (.exc cl) v):∃a,v=.ref a/\H a=M (nD cl a):=by
 obtain⟨a,rfl,⟨L,_⟩,_⟩:=h;exact{(a),rfl,L}
def DP {c:aam}{vc:V}{ce:Expr}(hm:X.mg "isinstance" = ξ)(he:PQ X C p e φ)(hc:CV vc c)(hce:PE X ce (tC vc))(hg:Gl X "isinstance" := by rfl)
  (iy:aaz [e,ce] .f=.aE::aaz [ce] .f:=by rfl) (Fg:aaz [ce] .f=(η,eval ce .f)::aaz [] .f:=by rfl) (hpl:(abN pos (aaz [ce] .f)).any (·.1)=η:=by rfl) :
  PQ X C p (.Call (.Name "isinstance" pp) [e,ce] [] pos) (L7 X.K c φ) :=
 ⟨λβ R R' k h=>he.mono β _ _ (λd kd L Wv=> by obtain⟨cl,b,O,z,q⟩ := Wv;exact{cl,b,O,z,k _ _ _ q}) h,
  (kP (Gx hc) hg hm OO (b6 he.pe (b6 hce f_ Fg) iy) .b .b (he:=iy) (hpl:=hpl)).pre λσ H Q lh=>by
  let {β,own,s,h}:=lh;exact tQ.of he s h λd kd L v H1 aw hq o1 Y=>by
   let {cl,b,O,z,q}:=hq;subst O;let {a,rfl,ha}:=Oi Y.rep;exact{a,cl,b,rfl,ha,z,q _ H1 aw o1 zS}⟩
def eQ (L:X.mg "isinstance" = ξ)(he:PQ X C p e φ)(Y:X.mg T=M (.ref cA))(O:Gl X "isinstance" := by rfl)(XI:Gl X T:=by rfl)(XT:(T==("__debug__" : Str))=η:=by decide)
  (iy:aaz [e,.Name T pT] .f=.aE::aaz [.Name T pT] .f:=by rfl) (Fg:aaz [.Name T pT] .f=(η,eval (.Name T pT) .f)::aaz [] .f:=by rfl) (hpl:(abN pos (aaz [.Name T pT] .f)).any (·.1)=η:=by rfl) :
  PQ X C p (.Call (.Name "isinstance" pp) [e,.Name T pT] [] pos) (L7 X.K (.ref cA) φ):=DP L he (.own cA) (Iv XI Y rfl XT) O iy Fg hpl
def Mj {n:String}(L:X.mg "isinstance" = ξ)(he:PQ X C p e φ)(Y:X.mg T=ξ)(bT:abt T=M (.type n))(O:Gl X "isinstance" := by rfl)(XI:Gl X T:=by rfl)(hnT:T≠"__name__" := by decide)(XT:(T==("__debug__" : Str))=η:=by decide)
  (iy:aaz [e,.Name T pT] .f=.aE::aaz [.Name T pT] .f:=by rfl) (Fg:aaz [.Name T pT] .f=(η,eval (.Name T pT) .f)::aaz [] .f:=by rfl) (hpl:(abN pos (aaz [.Name T pT] .f)).any (·.1)=η:=by rfl) :
  PQ X C p (.Call (.Name "isinstance" pp) [e,.Name T pT] [] pos) (L7 X.K (.type n) φ):=DP L he (.ty n) (Iy XI Y bT rfl hnT XT) O iy Fg hpl
end
def T8:List Str:=["NoRow","NoTie","NoStretch","NoWeights","NoNumber","NoSet","NoGap","NoPlace","NoShape","NoText","NoForm","NoneYet"]
structure XA (K:Frag)(mg:Str->Option aam)(cA:μ)(c:Nat->μ):Prop where
 Yo:mg "ArchError" = M (.ref cA)
 nm:∀i x,T8[i]?=M x->mg x=M (.ref (c i))
 exc:∀i,i<12->excIn K (c i) TC "ValueError.__new__" = G
 xc:∀i,i<12->EX.XC K (c i)
 is:∀i,i<12->∀j,j<12->kitOne K (.ref (c i)) (.ref (c j))=M (decide (i=j))
 val:∀i,i<12->kitOne K (.ref (c i)) (.type "ValueError")=M G
 ZJ:∀i,i<12->exmOne K (.ref (c i)) (.ref cA)=M G
def T9 (K:Frag)(cA:μ)(c:Nat->μ):Bool:=(aaA 12).all λi=>excIn K (c i) TC "ValueError.__new__" && (mroIn K (c i) (.type "object")==M G&&(mroIn K (c i) (.type "BaseException")==M G &&
 (findIn K (.ref (c i)) "__getattribute__" == M (M (.builtin "BaseException.__getattribute__"))&&(findIn K (.ref (c i)) "__getattr__" == M ξ&&(findIn K (.ref (c i)) "__class__" == M (M (.builtin "object.__class__")) &&
 (kitOne K (.ref (c i)) (.type "ValueError")==M G&&(exmOne K (.ref (c i)) (.ref cA)==M G&&(aaA 12).all λj=>kitOne K (.ref (c i)) (.ref (c j))==M (decide (i=j)))))))))
def PF {K:Frag}{mg:Str->Option aam}{c:Nat->μ}(h:T9 K cA c=G)(a:mg "ArchError" = M (.ref cA))(n:∀i x,T8[i]?=M x->mg x=M (.ref (c i))):XA K mg cA c:=by
 have q:∀i,i<12->_:=λi hi=>acS.mp h i (aa2.mpr hi);simp only[aa1,beq_iff_eq,acS,aa2]at q;exact{a,n,λi hi=>(q i hi).1,λi hi=>{(q i hi).2.1,(q i hi).2.2.1,(q i hi).2.2.2.1,(q i hi).2.2.2.2.1,(q i hi).2.2.2.2.2.1},λi hi j hj=>(q i hi).2.2.2.2.2.2.2.2 j hj,λi hi=>(q i hi).2.2.2.2.2.2.1,λi hi=>(q i hi).2.2.2.2.2.2.2.1}
section
variable {K:Frag}{c:Nat->μ}
def XA.x (Z:XA K mg cA c)(i:Nat){x:Str}(h:T8[i]?=M x:=by rfl)(hi:i<12:=by decide):Xc K mg x (c i):={Z.nm i x h,Z.exc i hi}
def XA.k (Z:XA K mg cA c)(hi:i<12)(hj:j<12):Xk K (c i) (.ref (c j)) (decide (i=j)):={Z.xc i hi,Z.is i hi j hj}
def XA.kv (Z:XA K mg cA c)(hi:i<12):Xk K (c i) (.type "ValueError") G:={Z.xc i hi,Z.val i hi}
end
def OK:abt "ValueError" = M (.type "ValueError"):=by decide +kernel
end L2.Q
namespace L2
open PySem PySem.Spec PyProof.Rows
structure wX (k:Nat)(A:abf):Prop where
 dp:A.depth+3*k+5<recursionLimit
 un:A.units+16*k+200<adx
def ck.CG {j k:Nat}{A:abf}{e:Option aam}(r:ck k A)(h:j<=k):wX j (A.mark e):={(r.mono h).dp,(r.mono h).un}
abbrev Tz (P:aas)(w:aaG)(K:Ψ)(mg:Str->Option aam)(base:Heap)(N:List Str)(qual:Str)(scope:acF)(f:μ)(cd:aam)(A:abf)(outer:List Env)(s:aao)(H:Hp)(E:XK):Cx:={(mG bP P w K mg base N qual scope f cd A outer s H E).qu with calm:=η}
structure SM (P:aas)(w:aaG)(K:Ψ)(mg:Str->Option aam)(base:Heap)(k:Nat)(f:μ)(fd:aa6)(ps:List Str)(sp:Sp):Prop where
 len:∀vs H Q E,sp vs H Q E->vs.length=ps.length
 run:∀(A:abf) (outer:List Env) (s:aao) (H:Hp) (args:Args) (us:List aam) (vs:List V) (Q:VK) (E:XK),wX k A->G0 P w K mg base A outer s H->BindsTo s fd args (ps.zip us)->Vals vs us->sp vs H Q E ->
  adg (δ P w) A (.call (.ref f) args) (CR bP outer P w H s Q E) s
def AO.okC {x qual:Str}{st:Stmt}{f:μ}{fd:aa6}{N ps:List Str}{k:Nat}{sp:Sp}(F:AO K x qual st f fd)(S:aH N ps (ak st))(len:∀vs H Q E,sp vs H Q E->vs.length=ps.length)
  (gD:∀(bD:aam) (A:abf) (outer:List Env) (s:aao) (H:Hp) (vs:List V) (Q:VK) (E:XK),wX k (A.deeper (adX qual (ak st) .e f bD))->sp vs H Q E ->
   ∃t,sQ (Tz P w K mg base N qual (ak st) f bD A outer s H E) (dI st) t/\t {nx:=λ_ H'=>Q .cI H',rt:=Q} (start N vs) H):SM P w K mg base (k+1) f fd ps sp:=by
 let {oc,od,kV,doc,pm,an,bD,ct,II,rfl,lk,uu}:=F.ex;refine{len,λA outer s H args us vs Q E Y L hb r iy=>?_};have hl:=len _ _ _ _ iy;have KX:K.In s.heap:=L.mod.M5.keeps λb o e=>(L.bs b o e).1;have lim:s.heap.NoLimit:=L.mod.nolimit.keeps λb o e=>(L.bs b o e).1;have Fv:∀y∈ps.zip us,(ak st).names.lookup y.1=M .local\/((ak st).names.lookup y.1=M .cell/\((ad7 (.e+1) (ak st).names []).lookup y.1).isSome=G):=λy hy =>
  (S.par y.1 (adu hy).1).imp id λq=>{q,PySem.W.cellsFrom_some _ _ _ (.inl q)}
 refine codeAny_call_function (by have:=Y.dp;lia) (KX _ _ lk) rfl S.co S.gen rfl (PySem.W.codeRec_of KX uu) (hb _ _ _ _ ?_)
 refine wpAny_newFunctionEnv_cells S.kind Fv λenv he s1 x=>?_;subst he;refine{lim.keeps x.toInCall.keep,codeAny_func ?_};let {t,ht,hq}:=gD bD A outer s H vs Q E {by have:=Y.dp;show A.depth+1+3*k+5<_;lia,by have:=Y.un;show A.units+3+16*k+200<_;lia} iy
 have J:=rV (CX:=bP) (N:=N) (scope:=ak st) (A:={A with handled:=ξ}) (E:=E) (f:=f) (cd:=bD) (qual:=qual) S rfl {(L.frames),L.mod,L.bs,L.yS,L.jF,L.FI,L.bh,L.bare} hl r x
 have I:Inv (Tz P w K mg base N qual (ak st) f bD A outer s H E) [] (start N vs) H s1 :=
  {{J.ok.mod,J.ok.kind,J.ok.glob,J.ok.blt,J.ok.above,J.ok.inj,J.ok.has,J.ok.Ki,(λz=>by cases z),J.ok.frames,J.ok.Kw,J.ok.Hh,J.ok.bs,J.ok.yS,J.ok.qP,J.ok.q_,J.ok.jF,J.ok.FI},J.os,J.bare,J.base,J.loc,J.cell,J.free,J.dQ,J.pin,J.bh,J.len}
 refine acL (ht [] s1 (start N vs) H _ I hq) (λfl s' hs=>?_) λe s' hs=>hs.elim;have fin:∀{σ':St} {H':Hp} {v:V} {u:aam},Inv (Tz P w K mg base N qual (ak st) f bD A outer s H E) [] σ' H' s'->RelV v u->Q v H'->CE outer P w H s Q u s' :=
  λ{σ' H' v u} J rv q=>{(v),H',J.os,J.bare,J.base,J.bh,rv,q}
 cases fl with
 |ret u =>
  let {v,σ',H',J,rv,q}:=hs;exact fin J rv q
 |next =>
  let {σ',H',J,q}:=hs;exact fin (v:=V.cI) (u:=Value.none) J rfl q
 |brk =>
  let {O,O,O,q}:=hs;exact abX q
 |cont =>
  let {O,O,O,q}:=hs;exact abX q
namespace Q
open PySem.W
def UZ {x qual:Str}{st:Stmt}{f:μ}{fd:aa6}{N ps:List Str}{k:Nat}{F:FD}{ro:Bool}(G:AO K x qual st f fd)(S:aH N ps (ak st))(len:∀ds R,F ds R->ds.length=ps.length)
  (gD:∀(bD:aam) (A:abf) (outer:List Env) (s:aao) (H:Hp) (E:XK),wX k (A.deeper (adX qual (ak st) .e f bD)) ->
   ∃ψ,qE (Tz P w K mg base N qual (ak st) f bD A outer s H E) {H,λ_=>False,ro,λ_=>False} (dI st) ψ/\∀ds R,F ds R->ψ (eN R) (startB N ds)) :
  SM P w K mg base (k+1) f fd ps (dz P w ro F):=by
 refine G.okC S (λvs H Q E h=>?_) (λbD A outer s H vs Q E Y h=>?_)
 ·let {ds,r,h}:=h;rw[r.length];exact len ds _ h
 ·let {ds,r,h}:=h;let {ψ,hb,hF}:=gD bD A outer s H E Y;refine{_,hb.ps,(H,Wn λ_=>[]),_,startB N ds,{λ_=>[],oG r,Sn.refl},hF ds _ h,λσ H' β sb q=>?_,λσ H' β d v sb L q=>?_,λ_ _ _ _ z=>z.elim,λ_ _ _ _ z=>z.elim}
  ·let {own,s',O}:=sb;exact q _ H' (λb o e=>s'.kp.out b o e (λz=>z)) (d4 (W:=λ_=>False) rfl rfl)
  ·let {own,s',O}:=sb;exact q _ H' (λb o e=>s'.kp.out b o e (λz=>z)) L
def aG.sI {F2:List D->(μ->Prop)->Prop}(L:aG P w K mg base bP k f fd ps (dz P w ro F))(G2:aG P w K mg base (ux P w) k f fd ps (lR P w ro λds _ T=>F2 ds T)):aG P w K mg base (ux P w) k f fd ps (lR P w ro λds R T=>F ds R\/F2 ds T):=by
 have L:=aG.toX L;refine{λvs H Q E h=>?_,λA outer s H args us vs Q E Y e0 hb r h=>?_}
 ·obtain⟨ds,r,h|h⟩:=h
  ·exact L.len vs H Q E {(ds),r,h}
  ·exact G2.len vs H Q E {(ds),r,h}
 ·obtain⟨ds,O,h|h⟩:=h
  ·exact L.run A outer s H args us vs Q E Y e0 hb r {(ds),O,h}
  ·exact G2.run A outer s H args us vs Q E Y e0 hb r {(ds),O,h}
variable {k:Nat}{f:μ}{F:FD}{ro:Bool}{x:Str}
def DQ (mF:cH F)(L:SM X.prog X.w X.K X.mg X.base k f fd ps (dz X.prog X.w ro F))(hr:wX k X.A)(hm:X.mg x=M (.ref f))(hk:Β X.K (.ref f)=G)(hb:Binds X.K fd ps [])(ha:nh X C p (e::es) φs)(hg:Gl X x:=by rfl)
  (hdb:.ai=η:=by decide)
  (iy:aaz (e::es) .f=.aE::aaz es .f:=by rfl) (hpl:(abN pos (aaz es .f)).any (·.1)=η:=by rfl) :
  PQ X C p (.Call (.Name x pp) (e::es) [] pos) (Qo ro F φs):=by
 have call:PE X (.Call (.Name x pp) (e::es) [] pos) (Dd (dz X.prog X.w ro F) [] E0 (oA X C p φs)):=by
  intro χ s σ H Q I h;refine ab_ (hZ I hg hm ?_ hdb);refine PySem.W.callWith_K (h₀:=X.base) I.ok.mod.M5 hk (bz (ha.pa pos χ s σ H _ I h) λus s1 O=>?_) iy hpl;let {vs,H1,Y,r,q}:=O;have r2:Vals (vs++[]) (us++[]):=r.append .nil;have hl:(us++[]).length=ps.length:=by rw[<- r2.length];exact L.len _ _ _ _ q
  refine{Y.zV,ad8 (acy (L.run X.A X.stack s1 H1 {us,[]} (us++[]) (vs++[]) Q E0 hr Y.Ol (hb s1 us Y.zV hl) r2 q) λr s' O=>?_)};cases r with
  |error e=>exact(zK (X:=X) χ σ H1 s1 e s' Y O)
  |ok fl =>
   cases fl with
   |ret u=>exact Y.after O
   |next=>exact abX O
   |brk=>exact abX O
   |cont=>exact abX O
 exact⟨λβ R R' k h=>ha.mono β _ _ (λds ks β1 q=>mF ds _ _ (λd q=>k _ _ _ q) q) h,call.pre λσ H Q ⟨β,own,s,h⟩=>oA.of ha s h λds ks β1 vs H1 aw q o1 r1=>by
  rw[abR];exact{ds,r1.bor,mF ds _ _ (λd q2 v H' s2 r2=>q2 v H' aw (o1.same s2) (r2.kv o1.sq.sC o1.sq.iE λa z=>o1.sn.d a z)) q}⟩
end Q
end L2
namespace gK
open PySem L2 L2.Q
def iz (c:Nat->μ):List D->(μ->Prop)->Prop:=λds T=>∃(n:Int) (rows ts:List .ae),ds=[f7 n rows,.lst .ah]/\ts.length<=600/\Pairs ts/\¬ Good rows ts/\T (c 5)
def iz.mono {c:Nat->μ}(F:FD)(mF:cH F):AL λds R T=>F ds R\/iz c ds T:=λds R R' T T' k l h=>by
 rcases h with h|⟨n,rows,ts,e,Y,O,L,q⟩
 ·exact .inl (mF ds R R' k h)
 ·exact .inr {n,rows,ts,e,Y,O,L,l _ q}
section
variable {c:Nat->μ}
def ve {da bE}(L:y_ K mg da bE){jL c_}(dE:xj K mg jL c_){jr cP}(dO:xb K mg jr cP){iD cw}(dF:D9 K mg iD cw){ip b_}(dS:D8 K mg ip b_){il b9}(dX:D7 K mg il b9)(B:Bs mg)(ZA:XA K mg cA c):aG P w K mg base (ux P w) 5 da bE ["row","ties"] (lR P w G λds R T=>fY ds R\/iz c ds T):=by
 have GE:aG P w K mg base bP 4 _ _ _ (dz P w G j4):=vd dE dO dF dS dX B;refine aG.sI (fV L dE dO dF dS dX B) ?_;refine x_ L.F kG (λds R T Wu=> by obtain⟨n,rows,ts,e,_⟩ := Wu;subst e;rfl) λbD A outer s H E hr=>?_
 have Z:=fk (P:=P) (w:=w) (K:=K) (mg:=mg) (base:=base) (N:=["row","ties"]) (qual:="check_set") (scope:=ak eF) (f:=da) (cd:=bD) (A:=A) (outer:=outer) (s:=s) (H:=H) (E:=E);refine{_,(ao (cn (zw (gY (aX j4.mono GE (hr.mono .b) dE.m dE.F.kp dE.b (aa .af (aa .ad af))))) (ao (u7 Z rfl (XA.x ZA 5))) bx)),λds R h=>?_}
 let {n,rows,ts,rfl,hl,Y,O,q}:=h;refine{_,rfl,tv,_,rfl,tv,n,rows,ts,rfl,.a,Y,_,rfl,?_}
 exact ur (by rw[Φ λz=>O (pO.mp z)];rfl) q
def o8 {fM O}(d_:Hr K mg fM O){da bE}(L:y_ K mg da bE){jL c_}(dE:xj K mg jL c_){jr cP}(dO:xb K mg jr cP){iD cw}(dF:D9 K mg iD cw){ip b_}(dS:D8 K mg ip b_){il b9}(dX:D7 K mg il b9)(B:Bs2 mg)(ZA:XA K mg cA c):aG P w K mg base (ux P w) 6 fM O ["row","ties"] (lR P w G λds R T=>dH ds R\/iz c ds T):=by
 have Ks:=ve (P:=P) (w:=w) (base:=base) L dE dO dF dS dX B.toBs ZA;refine aG.sI (tS d_ L dE dO dF dS dX B) ?_;refine x_ d_.F dZ (λds R T Wt=> by obtain⟨n,rows,ts,e,_⟩ := Wt;subst e;rfl) λbD A outer s H E hr=>?_
 have Z:=fk (P:=P) (w:=w) (K:=K) (mg:=mg) (base:=base) (N:=["row","ties","nest","around","at","tie"]) (qual:="nest_of") (scope:=ak gm) (f:=fM) (cd:=bD) (A:=A) (outer:=outer) (s:=s) (H:=H) (E:=E);refine{_,(ah (jl (iN Z (iz.mono fY fY.mono) Ks (hr.mono .b) L.m L.F.kp L.b (aa .af (aa .ad af)))) dk),λds R h=>?_}
 let {n,rows,ts,rfl,hl,ht,Y,q}:=h;exact{_,rfl,tv,_,rfl,tv,.inr {(n),rows,ts,rfl,hl,ht,Y,q}}
def o9 {lD gG}(qf:PC K mg lD gG){fM c9}(d_:Hr K mg fM c9){da bE}(L:y_ K mg da bE){jL c_}(dE:xj K mg jL c_){jr cP}(dO:xb K mg jr cP){iD cw}(dF:D9 K mg iD cw){ip b_}(dS:D8 K mg ip b_){il b9}(dX:D7 K mg il b9)(B:Bs2 mg)(ZA:XA K mg cA c):aG P w K mg base (ux P w) 7 lD gG ["row","ties"] (lR P w G λds R T=>gf ds R\/iz c ds T):=by
 have Kr:=o8 (P:=P) (w:=w) (base:=base) d_ L dE dO dF dS dX B ZA;refine aG.sI (rN qf d_ L dE dO dF dS dX B) ?_;refine x_ qf.F cJ (λds R T Ws=> by obtain⟨n,rows,ts,e,_⟩ := Ws;subst e;rfl) λbD A outer s H E hr=>?_
 have Z:=fk (P:=P) (w:=w) (K:=K) (mg:=mg) (base:=base) (N:=["row","ties","depths","above"]) (qual:="depths_of") (scope:=ak eE) (f:=lD) (cd:=bD) (A:=A) (outer:=outer) (s:=s) (H:=H) (E:=E);refine{_,(ah (cm (i:=2) (λ_=>(aK af)) cJ.nd) (ah (cf Z.own rfl (bK (iN Z (iz.mono dH dH.mono) Kr (hr.mono .b) d_.m d_.F.kp d_.b (aa .af (aa .ad af)))) (aq (i:=3) cJ.nd) (qE.qu (ao (cM (i:=2) (λ_=>(zD (aF ag (bo.m jm) .aj eP) ai (aB aC ar (aO ag bj .ag .aj) ai))))))) dk)),λds R h=>?_}
 let {n,rows,ts,rfl,hl,Y,O,q}:=h;exact{aaJ _,tv,_,rfl,tv,_,rfl,tv,.inr {(n),rows,ts,rfl,hl,Y,O,q}}
def Bz {qY lC}(Gi:T1 K mg qY lC){lD gG}(qf:PC K mg lD gG){fM c9}(d_:Hr K mg fM c9){da bE}(L:y_ K mg da bE){jL c_}(dE:xj K mg jL c_){jr cP}(dO:xb K mg jr cP){iD cw}(dF:D9 K mg iD cw){ip b_}(dS:D8 K mg ip b_){il b9}(dX:D7 K mg il b9)(B:Bs2 mg)(ZA:XA K mg cA c):aG P w K mg base (ux P w) 8 qY lC ["row","ties"] (lR P w G λds R T=>jM ds R\/iz c ds T):=by
 have SK:=o9 (P:=P) (w:=w) (base:=base) qf d_ L dE dO dF dS dX B ZA;refine aG.sI (EA Gi qf d_ L dE dO dF dS dX B) ?_;refine x_ Gi.F mS (λds R T NQ=> by obtain⟨n,rows,ts,e,_⟩ := NQ;subst e;rfl) λbD A outer s H E hr=>?_
 have Z:=fk (P:=P) (w:=w) (K:=K) (mg:=mg) (base:=base) (N:=["row","ties"]) (qual:="depth_of") (scope:=ak fw) (f:=qY) (cd:=bD) (A:=A) (outer:=outer) (s:=s) (H:=H) (E:=E);refine{_,(ah (aS (zC rfl B.max (aa (iN Z (iz.mono gf gf.mono) SK (hr.mono .b) qf.m qf.F.kp qf.b (aa .af (aa .ad af))) af))) dk),λds R h=>?_}
 let {n,rows,ts,rfl,hl,Y,O,q}:=h;exact{_,rfl,tv,_,rfl,tv,.inr {(n),rows,ts,rfl,hl,Y,O,q}}
def Et {iY eW}(sD:TZ K mg iY eW){fM c9}(d_:Hr K mg fM c9){da bE}(L:y_ K mg da bE){jL c_}(dE:xj K mg jL c_){jr cP}(dO:xb K mg jr cP){iD cw}(dF:D9 K mg iD cw){ip b_}(dS:D8 K mg ip b_){il b9}(dX:D7 K mg il b9)(B:Bs2 mg)(ZA:XA K mg cA c):aG P w K mg base (ux P w) 7 iY eW ["row","ties"] (lR P w G λds R T=>jM ds R\/iz c ds T):=by
 have Kr:=o8 (P:=P) (w:=w) (base:=base) d_ L dE dO dF dS dX B ZA;refine aG.sI (IQ sD d_ L dE dO dF dS dX B) ?_;refine x_ sD.F bJ (λds R T NP=> by obtain⟨n,rows,ts,e,_⟩ := NP;subst e;rfl) λbD A outer s H E hr=>?_
 have Z:=fk (P:=P) (w:=w) (K:=K) (mg:=mg) (base:=base) (N:=["row","ties","outermost","begins","ends"]) (qual:="stretches_of") (scope:=ak cD) (f:=iY) (cd:=bD) (A:=A) (outer:=outer) (s:=s) (H:=H) (E:=E);refine{_,(ah (xM (i:=2) η ["tie","above"] [ξ,ξ] .i (by decide:(["tie","above"]:List Str).Nodup) rfl (λ_=>(zA B.zip (aa .ad (aa (iN Z (iz.mono dH dH.mono) Kr (hr.mono .b) d_.m d_.F.kp d_.b (aa .af (aa .ad af))) af)))) (λ_ _ _ _ _ _=>(bL (n:=2) rfl (aD (aq (i:=0) (by decide:(["tie","above"]:List Str).Nodup)) (aD (aq (i:=1) (by decide:(["tie","above"]:List Str).Nodup)) bt)))) (λ_ _ _ _ _ _=>(jQ (aF ag (bo.m jm) .ad eP))) (λ_ _ _ _ _ _=>.af) bJ.nd) dk),λds R h=>?_}
 let {n,rows,ts,rfl,hl,Y,O,q}:=h;exact{_,rfl,tv,_,rfl,tv,_,rfl,tv,.inr {(n),rows,ts,rfl,hl,Y,O,q}}
def By {qX lB}(O:TY K mg qX lB){qZ jK}(CJ:SO K mg qZ jK){da bE}(L:y_ K mg da bE){jL c_}(dE:xj K mg jL c_){jr cP}(dO:xb K mg jr cP){iD cw}(dF:D9 K mg iD cw){ip b_}(dS:D8 K mg ip b_){il b9}(dX:D7 K mg il b9)(B:Ll mg)(ZA:XA K mg cA c):aG P w K mg base (ux P w) 7 qX lB ["row","ties"] (lR P w G λds R T=>mD ds R\/iz c ds T):=by
 have Ks:=ve (P:=P) (w:=w) (base:=base) L dE dO dF dS dX B.toBs ZA;refine aG.sI (Ew O CJ L dE dO dF dS dX B) ?_;refine x_ O.F mR (λds R T NO=> by obtain⟨n,rows,ts,e,_⟩ := NO;subst e;rfl) λbD A outer s H E hr=>?_
 have Z:=fk (P:=P) (w:=w) (K:=K) (mg:=mg) (base:=base) (N:=["row","ties"]) (qual:="shape_of") (scope:=ak fu) (f:=qX) (cd:=bD) (A:=A) (outer:=outer) (s:=s) (H:=H) (E:=E);refine{_,(ah (jl (iN Z (iz.mono fY fY.mono) Ks (hr.mono .b) L.m L.F.kp L.b (aa .af (aa .ad af)))) dk),λds R h=>?_}
 let {n,rows,ts,rfl,hl,ht,Y,q}:=h;exact{_,rfl,tv,_,rfl,tv,.inr {(n),rows,ts,rfl,hl,ht,Y,q}}
end
end gK
namespace L2.Q
open PySem PySem.Spec PySem.SeqAt PyProof.Rows
section
variable {nv:List .aB}
def Bg {σ:St}{H1:Hp}{β:a8}{own:Nat->List μ}{a:μ}{J:It}{ds:List D}{O:D}{jv V:Nat}{End:Hp->Prop}
  (inj:∀(i i' j:Nat),(ξ::nv)[i]?=M (M j)->(ξ::nv)[i']?=M (M j)->i=i') (hV:nv[V]?=M (M jv))
  (s1:SQ X C σ H1 β own) (hb:β[jv]?=M (M (.val G O))) (L:H1 a=ξ) (it:uo X (av C (Wn own) .dM) J ds H1) (hl:ds.length<aaC) (hh:fD (cS nv β) (cS nv β))
  (fin:∀H' vs,Out X C σ H1 own G β H' own->H' a=M (.lst vs)->aj X.prog X.w (λb=>av C (Wn own) .dM b\/H1 b=ξ) H' (aaR ds.length O) vs->End H') :
  fm J (Ah 0) C_ (λN σ H=>(∃v,σ[V+1]?=M (M v)/\∃xs,H a=M (.lst xs)/\xs.length<aaC/\N σ (upd H a (.lst (xs++[v])))))
   (λ_ H'=>End H') (cV (ξ::nv) σ) (upd H1 a (.lst [])):=by
 have h0:C.H0 a=ξ:=abA λz=>s1.iE a z L;have sm:ay H1 (upd H1 a (.lst [])):=ay.new L;have nav:¬ av C (Wn own) .dM a:=λz=>z.elim (λz=>s1.sC a z L) λz=>z h0;let {v,hv,rv}:=s1.val jv G O hb;have r9:(cV (ξ::nv) σ)[V+1]?=M (M v):=by simp[cV,hV,hv]
 let W:μ->Prop:=λb=>av C (Wn own) .dM b\/H1 b=ξ
 have rW:aA X.prog X.w W H1 O v:=aA.grow (λb z=>z) (aA.aW (λc z=>Or.inl z) rv:aA X.prog X.w (av C (Wn own) .dM) H1 O v);let S:Nat->St->Hp->Prop:=λi σ' H'=>∃βi qN vs,SQ X .ak σ' H' βi qN/\(∀c,Wn qN c->Wn (cF (ξ::nv) β own) c)/\H' a=M (.lst vs)/\aj X.prog X.w W H' (aaR i O) vs /\
  ay H1 H'/\σ'.length=(ξ::nv).length/\(∀j,j≠0->σ'[j]?=(cV (ξ::nv) σ)[j]?)/\∃x0,βi=x0::cS nv β
 have Pc:=it (λb=>av C (Wn own) .dM b\/H1 b=ξ) λb z=>z;refine{λi m σ' H'=>i<=ds.length/\m=ds.length-i/\S i σ' H',{_,aaJ _,rfl,cS (ξ::nv) β,cF (ξ::nv) β own,[],s1.enter L inj,λ_ z=>z,az,rfl,sm,by unfold cV;simp,λ_ _=>rfl,_,rfl},?_}
 rintro i m σ2 H2 ⟨hi,rfl,βi,qN,vs,sq,le,RW,os,pu,hlen,st,x0,rfl⟩;let {du,tY}:=Pc i H2 (pu.kp.mono λb z=>.inr z)
 by_cases lM:i<ds.length
 ·right
  have hd:ds[i]?=M ds[i]:=aav lM;let {go,yl}:=du _ hd;refine{go,λσ' H'=>S (i+1) σ' H',λσ' H' h=>{_,.a,lM,rfl,h},λx Y y=>?_}
  let {s3,r3}:=yl x Y y;have r3':aA X.prog X.w W Y ds[i] x:=r3;have sub:∀c,jx .ak (Wn qN) .dM c->W c:=λc z=>z.elim (λz=>.inl (z.imp (λz=>fB c (le c z)) id)) λz=>.inr (by rw[z];exact L)
  have s4:=(sq.same s3).iG (i:=0) (y:=G) (aA.aW sub r3');have le4:∀c,Wn (aY qN 0 []) c->Wn (cF (ξ::nv) β own) c:=λc z=>le c (iF z);have ee:ay H1 Y:=pu.trans s3;have YV:aj X.prog X.w W Y (aaR i O) vs:=os.same s3;have Oc:Y a=M (.lst vs):=s3 _ _ RW;have G5:∀j,j≠0->(σ2.set 0 (M x))[j]?=(cV (ξ::nv) σ)[j]?:=λj hj=>(a6 (abn hj)).trans (st j hj);have kp:Kp W Y (upd Y a (.lst (vs++[v]))):=E4 Oc (λxs z=>by cases z) (.inr L)
  have vl:vs.length=i:=by rw[YV.length,List.length_replicate]
  refine{v,(G5 (V+1) .a).trans r9,vs,Oc,.a,_,_,vs++[v],s4.P8 Oc (λxs z=>by cases z) h0,le4,az,?_,λb ob e=>?_,by simpa using hlen,G5,_,rfl}
  ·rw[List.replicate_succ'];exact aj.snoc ((rW.same ee).keep kp) (YV.keep kp)
  ·rw[au (λz'=>by rw[z',L]at e;cases e)]
   exact ee b ob e
 ·left
  have e:i=ds.length:=by lia
  subst e;have sn:Sn (H1,Wn (cF (ξ::nv) β own)) H2 (Wn qN):={λb z=>.inl (le b z),pu.kp.mono λb z=>.inr z,λb z e=>z (pu.free e)};have lv:SQ X C σ H2 β own:=s1.leave sq sn le hh λj ok i' e1 e2=>st i' λz=>by rw[z]at e2;cases e2
  exact{tY (aaq _),fin H2 vs {lv,{λb z=>.inl z,pu.kp.mono λb z=>.inr z,λb z e=>z (pu.free e)},λz=>{(pu),rfl},λ_ z=>z} RW os}
variable {ι:cT}{x y z:Str}{py uM:Pos}
def uW (nv:List .aB)(jv:Nat)(ι:cT):aM:=λβ R=>ι β λds k L=>k=.dM/\∃O,L[jv]?=M (M (.val G O))/\ds.length<aaC/\fD (cS nv L) (cS nv L)/\R (.lst (aaR ds.length O)) .dM L
def uW.mono {C:Cfg}(hi:xi X C p tg du ι):∀β R R',.aC->uW nv jv ι β R->uW nv jv ι β R':=λβ R R' k h=>hi.mono β _ _ (λds kd L q=>by let {h1,dv,h2,Y,O,q}:=q;exact{h1,dv,h2,Y,O,k _ _ _ q}) h
def Ux (V jv:Nat)(N':List Str)(nv:List .aB)(L:md X.env.scope.names X.N scope N' (ξ::nv)=G)(vI:N'.Nodup)(hc:X.calm=G)(hi:∀U,xi X (C.u U) pi .ay du ι)
  (hN:X.N.Nodup) (hxx:N'[0]?=M x:=by rfl) (hzz:N'[V+1]?=M z:=by rfl) (hV:nv[V]?=M (M jv):=by rfl)
  (Xq:∀cl c s H ex,Loc (aQ X scope N' cl c s H ex).env.scope x:=by intro _ _ _ _ _;first|exact .inl rfl|exact .inr rfl)
  (hv:∀cl c s H ex,Lf (aQ X scope N' cl c s H ex).env.scope z:=by intro _ _ _ _ _;first|exact .inl rfl|exact .inr (.inl rfl)|exact .inr (.inr rfl))
  (hff:∀cl c s H ex,(aQ X scope N' cl c s H ex).fn x=G\/(aQ X scope N' cl c s H ex).env.scope.names.lookup x=M .local:=by intro _ _ _ _ _;first|exact .inl rfl|exact .inr rfl)
  (hd:(z==("__debug__" : Str))=η:=by decide) (uu:(z==("__classdict__" : Str))=η:=by decide)
  (hy:X.N[i]?=M y:=by rfl) (hx:Loc X.env.scope y:=by first|exact .inl rfl|exact .inr rfl) (hf:X.fn y=G\/X.env.scope.names.lookup y=M .local:=by first|exact .inl rfl|exact .inr rfl|assumption)
  (xg:acD (.ListComp (.Name z py) [{.Name x px,du,[],0}] scope pos) (M (.Name y pos')) uM.line .f=pure G:=by rfl)
  (yB:evalThenUse (.ListComp (.Name z py) [{.Name x px,du,[],0}] scope pos) .f (assign (.Name y pos') .f)=(do let _ <- comprehension (.ListComp (.Name z py) [{.Name x px,du,[],0}] scope pos) scope .f (firstIterPos [{.Name x px,du,[],0}] pos) (newList []) η (eval du .f) (M (assign (.Name y pos') .f));pure ()):=by first|rfl|exact arm_evalThenUse_ListComp ..)
  (hs:∀x,abu du .f x=pure x:=by intro _;rfl) :
  PB X C (.Assign [.Name y pos'] (.ListComp (.Name z py) [{.Name x px,du,[],0}] scope pos) uM) (λE β=>uW nv jv ι β λd _ β'=>i<β'.length/\E.nx (β'.set i (M (.shl .one d)))):=by
 have L':=Links.of L;refine{λE E' β l h=>uW.mono (hi λ_=>False) β _ _ (λd k Y q=>{q.1,l.nx _ q.2}) h,λχ s σ H D I0 gC=>?_};obtain⟨Z,E,β,⟨own,sq,n⟩,h,ok⟩:=gC;refine uY (g:={.Name x px,du,[],0}) (gs:=[]) (tg:=λ_=>Ah 0) (tt:=λa=>C_) (ta:=λa N σ H=>∃v,σ[V+1]?=M (M v)/\∃xs,H a=M (.lst xs)/\xs.length<aaC/\N σ (upd H a (.lst (xs++[v]))))
  L' hc iR xg yB rfl hN hy hx hf (λ_ _=>AE) (hi λa=>H a=ξ).pi (λa cl c s H ex=>{zH vI hxx (Xq cl c s H ex) (hff cl c s H ex),zt,iQ rfl (xX hzz (hv cl c s H ex) hd uu)}) hs χ s σ H D I0 ?_
 refine{β,own,sq.oj (C:=C.z) (U:=λa=>H a=ξ) λa z=>z,(hi λ_=>False).mono β _ _ (λds k Y mw J H1 aw o1 it a O=>?_) h};let {hk,dv,h1,h2,h3,Fw,q}:=mw;subst hk;refine Bg (C:=C.u λa=>H a=ξ) (gy L' vI) hV o1.sq h1 O it h2 h3 λH' vs o2 RW rr=>?_;have oo:=o1.xu o2 λz=>{(z),rfl};have m:=n.trans oo.sn;have ZD:H a=ξ:=o1.sn.free O;have h0:C.H0 a=ξ:=abA λz=>o1.sq.iE a z O;have nw:¬ Wn aw a:=λz=>o1.sq.sC a z O;have s2:=oo.sq.xI (i:=i) (tK (d:=.lst (aaR ds.length dv)) (vs:=vs) (aj.aW (λc z=>.inl z) rr) rfl RW) .c λc hc=>{by rw[aaE.mp hc];exact h0,by rw[aaE.mp hc];exact nw,by rw[aaE.mp hc];exact ZD}
 have s3:=s2.toShl (d:=.lst (aaR ds.length dv)) (y:=.one) (get_set Fw) (get_set (by rw[<- oo.sq.len];exact Fw)) {a,.lst vs,vs,rfl,by rw[os_eq],RW,rfl,aj.aW (λc z=>?_) rr}
 ·rw[List.set_set]at s3;refine ok.nx _ _ _ {_,s3,?_} q;exact⟨λb Wz=>by
   let {j,hj}:=Wz
   by_cases aN:i=j
   ·rw[<- aN,os_eq]at hj;rw[aaE.mp hj];exact .inr (n.free ZD)
   ·rw[bM aN]at hj;exact m.w b {(j),hj},m.k,m.d⟩
 ·rcases z with z|z
  ·rcases z with⟨j,hj⟩|z
   ·by_cases aN:i=j
    ·rw[<- aN,os_eq]at hj;rw[aaE.mp hj];exact .inr O
    ·rw[bM aN]at hj;exact .inl (.inl {(j),hj})
   ·exact .inl (.inr z)
  ·exact z.elim
end
def nj (m:Int)(f:List Int):Prop:=∃a b:Int,f=[a,b]/\0<=a/\a<b/\b<m
def nj.le (h:nj m f)(l:m<=L):nj L f:=let ⟨a,b,e,Y,O,h3⟩:=h;{a,b,e,Y,O,.a}
theorem lK:∀{cs:List Nat} {t:Int} {L:List Int} {fs:List .ae} {T_:List Int} {Hg:List .ae},0<=t->cG cs t L fs=M (T_,Hg)->(∀x∈L,0<=x/\x<t)->(∀f∈fs,nj t f)->∀f∈Hg,nj (t+cs.length) f
 |[],t,L,fs,T_,Hg,_,h,_,Y=>by
  cases h;intro f z;exact(Y f z).le .c
 |c::cs,t,L,fs,T_,Hg,h0,h,hw,Y=>by
  rw[cG]at h;have e:t+((c::cs).length:Int)=t+1+cs.length:=by rw[aaS];lia
  rw[e];have gC:∀x∈L,0<=x/\x<t+1:=λx z=>by have:=hw x z;lia
  have XN:∀f∈fs,nj (t+1) f:=λf z=>(Y f z).le .a
  by_cases q1:c=40
  ·rw[ω q1]at h;refine lK .a h (λx z=>?_) XN
   rcases aaT.mp z with z|z
   ·exact gC x z
   ·rw[aaE.mp z];lia
  rw[Δ q1]at h
  by_cases O:c=41/\L≠[]
  ·rw[ω O]at h;refine lK .a h (λx z=>gC x (List.dropLast_subset _ z)) λf z=>?_
   rcases aaT.mp z with z|z
   ·exact XN f z
   ·rw[aaE.mp z];obtain⟨qs,p,rfl⟩:∃qs p,L=qs++[p]:={L.dropLast,L.getLast O.2,(ac1 O.2).symm};rw[List.getLastD_concat];have:=hw p .c
    exact{p,t,rfl,.a,.a,.a}
  rw[Δ O]at h
  by_cases q3:c≠46
  ·rw[ω q3]at h;cases h
  ·rw[Δ q3]at h;exact lK .a h gC XN
def OS (cs:List Nat):Hn cs=.cI\/∃fs:List .ae,Hn cs=.lst ((jC fs).map kD)/\∀f∈jC fs,nj cs.length f:=by
 unfold Hn;cases h:cG cs 0 [] []with
 |none=>exact .inl rfl
 |some r =>
  let {L,fs}:=r
  by_cases hw:L=[]
  ·right
   refine{fs,ω hw,λf z=>?_};have:=lK (Int.le_refl 0) h (λ_ z=>nomatch z) (λ_ z=>nomatch z) f ((cz fs).mem_iff.mp z)
   rwa [Int.zero_add]at this
  ·exact .inl (Δ hw)
def La (a b:D):Option D:=(D.A5 a).bind λx=>(D.A5 b).bind λy=>M (.bl (Txt.contains y x))
def F9:List D->Option D
 |[.str x]=>if x.length<1000000 then M (.int x.length) else ξ
 |_=>ξ
def En:bo X (abv .In) La:=by
 intro χ s σ H x y v u Q I rx Y h;let {W,d1,d2,d,hd,O,L,e,q}:=h;let {a,h1,e}:=aba.mp e;let {b,h2,e}:=aba.mp e;rw[D.kz h1]at O;rw[D.kz h2]at L;cases e;cases (show x=.str a from O)
 cases (show y=.str b from L)
 let {t,rfl}:=rx;let {t2,rfl}:=Y;exact SB.contains {.bl _,H,I,rfl,q _ _ .aG rfl}
def h_:bH X (.builtin "len") F9:=by
 intro χ s σ H xs us Q I r h;let {W,ds,d,hd,O,e,q}:=h
 match ds,e with
 |[.str x],e =>
  have e:(if x.length<1000000 then M (D.int x.length) else ξ)=M d:=e
  by_cases L:x.length<1000000
  ·rw[ω L]at e;cases e;let {v,r',rfl,h1,Y}:=O;cases Y;cases (show v=.str x from h1)
   let {v1,rfl,e1}:=vals1 r;let {t,rfl}:=e1;exact len_str .a {.int _,H,I.tok _,{_,rfl},q _ _ .aG rfl}
  ·rw[Δ L]at e;cases e
def Sh (a b:D):Option D:=(D.A5 a).bind λx=>b.int?.bind λi=>if x.length<=aaC then (mI x.cps.toList i).map λc=>.str (eK c) else ξ
def Jh:Hq X (Dz X Sh NF):=λvalue slice χ s σ H x y v u Q I rx ry h hs=>by
 let {W,d1,d2,d,hd,Y,O,e,q}:=h;let {a,h1,e}:=aba.mp e;let {i,h2,e}:=aba.mp e;rw[D.kz h1]at Y;rw[D.tZ h2]at O;cases (show x=.str a from Y)
 cases (show y=.int i from O)
 by_cases L:a.length<=aaC
 ·rw[ω L]at e;let {c,hc,rfl}:=aaK.mp e;exact M_ value slice χ s σ H _ _ v u Q I rx ry {a,i,c,rfl,rfl,L,hc,q _ _ .aG rfl λ_=>rfl} hs
 ·rw[Δ L]at e;cases e
def jG (xs:List Nat)(lo hi:Option Int):List Nat:=(xs.drop (HT.iw xs.length 0 lo)).take (HT.iw xs.length xs.length hi-HT.iw xs.length 0 lo)
def wK (n:Nat)(d:Nat)(v:Option Int):(match v with|none=>(d:Int)|some i=>let i:=if i<0 then i+(n:Int) else i;max 0 (min i (n:Int)))=((HT.iw n d v:Nat):Int):=by
 cases v with
 |none=>rfl
 |some i =>
  show max 0 (min (if i<0 then i+(n:Int) else i) (n:Int))=(((if i<0 then (i+(n:Int)).toNat else min i.toNat n):Nat):Int)
  by_cases h:i<0
  ·rw[ω h,ω h];lia
  ·rw[Δ h,Δ h];lia
def Kv (lo hi:Option Int)(n:Nat):ad4 lo hi 1 n=sliceRange ((HT.iw n 0 lo:Nat):Int) ((HT.iw n n hi:Nat):Int) 1:=by
 rw[<- wK n 0 lo,<- wK n n hi];rfl
def EL :(sliceMade x t l u ξ)=.val (.str x t)/\jG x.cps.toList (l.map (·.1)) (u.map (·.1))=x.cps.toList\/sliceMade x t l u ξ=.str {(jG x.cps.toList (l.map (·.1)) (u.map (·.1))).toArray}:=by
 have Y:(adR x l u ξ).filterMap (λi=>x.cps[i]?)=jG x.cps.toList (l.map (·.1)) (u.map (·.1)):=by
  unfold adR;show (ad4 _ _ 1 x.length).filterMap _=_;rw[Kv,sliceRange_one,pick_run];unfold jG;rw[aau];rfl
 have O:(adR x l u ξ).length=(HT.iw x.length x.length (u.map (·.1))-HT.iw x.length 0 (l.map (·.1))):=by
  unfold adR;show (ad4 _ _ 1 x.length).length=_;rw[Kv,sliceRange_one,aan,aa5]
 unfold sliceMade
 by_cases h:(((ξ:Option (Int×Tok)).map (·.1)).getD 1==1&&(adR x l u ξ).length==x.length)=G
 ·left
  rw[ω h];refine{rfl,?_};have h:(adR x l u ξ).length=x.length:=by
   have:=(ace.mp h).2;exact eq_of_beq this
  rw[O]at h;unfold jG;rw[aau];have h0:HT.iw x.length x.length (u.map (·.1))<=x.length:=by
   unfold HT.iw
   split
   ·exact aaq _
   ·split
    ·lia
    ·exact Nat.min_le_right _ _
  show List.take (HT.iw x.length x.length (u.map (·.1))-HT.iw x.length 0 (l.map (·.1))) (x.cps.toList.drop (HT.iw x.length 0 (l.map (·.1))))=_;have L:x.length=0\/HT.iw x.length 0 (l.map (·.1))=0:=by lia
  rcases L with L|L
  ·have:x.cps.toList=[]:=aeJ.mp (by rw[aau];exact L)
   rw[this];simp
  ·rw[h,L,List.drop_zero];exact abP (by rw[aau];exact aaq _)
 ·right
  rw[Δ h,Y]
def J3:D->Option Int->Option Int->Option D
 |.str x,lo,hi=>if x.length<=aaC then M (.str {(jG x.cps.toList lo hi).toArray}) else ξ
 |_,_,_=>ξ
def AB {xs:List Nat}{lo hi:Option Int}:(jG xs lo hi).length<=xs.length:=by
 unfold jG;rw[aa4,abM];lia
def J1 {cs:List Nat}{lo hi:Option Int}(h:cs.length<=1000000):J3 (.str (bS cs)) lo hi=M (.str (bS (jG cs lo hi))):=by
 show (if (bS cs).length<=aaC then M (D.str {(jG (bS cs).cps.toList lo hi).toArray}) else ξ)=_
 rw[ω (show (bS cs).length<=aaC by rw[aa7];show cs.toArray.size<=_;rw[aaH];lia)]
 rfl
def Qh (X:Cx):V->Option Int->Option Int->Hp->VK->Prop:=λx lo hi H Q=>∃W L d,Dm W H/\Rp X W H L x/\J3 L lo hi=M d/\∀v H',ay H H'->Rp X W H' d v->(NF d->Rp X (λa=>H a≠ξ) H' d v)->Q v H'
def HL:TM X (Qh X):=by
 intro χ s σ H x v Y O lo hi sl Q I rx hs pl pu h;let {W,d1,d,hd,r1,e,q}:=h;cases d1 with
 |str z =>
  have e:(if z.length<=aaC then M (D.str {(jG z.cps.toList lo hi).toArray}) else ξ)=M d:=e
  by_cases L:z.length<=aaC
  ·rw[ω L]at e;cases e;cases (show x=.str z from r1)
   let {t,rfl}:=rx;obtain⟨l,rfl,rfl⟩:∃l:Option (Int×Tok),Y=partValue l/\lo=l.map (·.1):=by
    cases pl with
    |none=>exact{(ξ),rfl,rfl}
    |int i t=>exact{M (i,t),rfl,rfl}
   obtain⟨u,rfl,rfl⟩:∃l:Option (Int×Tok),O=partValue l/\hi=l.map (·.1):=by
    cases pu with
    |none=>exact{(ξ),rfl,rfl}
    |int i t=>exact{M (i,t),rfl,rfl}
   refine{"str",_,slot_str_getitem.lookup,rfl,wpAny_getItem_str_slice (st:=ξ) hs rfl ?_};rcases EL (x:=z) (t:=t) (l:=l) (u:=u)with⟨e,ec⟩|e
   ·rw[e];rw[ec]at q;simp only[Made.post];exact{.str z,H,I,{(t),rfl},q _ _ .aG rfl λ_=>rfl}
   ·rw[e];simp only[Made.post];refine{?_,.str _,H,I.tok _,{_,rfl},q _ _ .aG rfl λ_=>rfl};have:=AB (xs:=z.cps.toList) (lo:=l.map (·.1)) (hi:=u.map (·.1));rw[aau]at this;show (jG _ _ _).toArray.size<=_;rw[aaH];exact aa3 this L
  ·rw[Δ L]at e;cases e
 |_=>cases e
def UK (φ:aM)(φl φh:wZ):aM:=λβ R=>φ β λx k Y=>φl Y λl O=>φh O λh L=>∃d,J3 x l h=M d/\kN NF d k.wk λk'=>R d k' L
def iL {lo hi:Option Expr}{φl φh:wZ}{p2:Pos}(ha:PQ X C p a φ)(hl:Py X C lo φl)(hh:Py X C hi φh):PQ X C p (.Subscript a (.Slice lo hi ξ p2) pos) (UK φ φl φh) :=
 ⟨λβ R R' k h=>ha.mono β _ _ (λx kx O q=>hl.mono O _ _ (λl L q=>hh.mono L _ _ (λu β3 Fn=>by let {d,e,q}:=Fn;exact{d,e,q.mono λ_ z=>k _ _ _ z}) q) q) h,
  (kM HL ha.pe hl.po hh.po).pre λσ H Q ⟨β,own,s,h⟩=>tQ.of ha s h λd k O v H1 aw q o1 r1 =>
    ⟨O,aw,o1.sq,hl.mono O _ _ (λl L q H2 s2 P5=>⟨L,aw,P5,hh.mono L _ _ (λu β3 Fm H3 Y HI=>by
      let {d',e,q}:=Fm;refine{av C (Wn aw) k.wk,d,d',HI.Av _,((aA.aW wO r1.rep).same s2).same Y,e,λv H' s4 r4 n4=>?_};let {k',q,r}:=KV.kN (Z:=(H,Wn own)) zd r4 (λn=>fU (H:=H3) HI.sC HI.iE (λa z e=>o1.sn.d a z (s2.free (Y.free e))) (ag.nl _ n) (n4 n)) q;exact q v H' aw {HI.same s4,o1.sn.same ((s2.trans Y).trans s4),λz=>{(o1.pu z).1.trans ((s2.trans Y).trans s4),(o1.pu z).2},o1.le} r) q⟩) q⟩⟩
def oC (s sub:Str)(hi:Nat)(st:Array Nat×Nat)(i:Nat):Array Nat×Nat:=if (decide (st.1.size<1)&&decide (st.2<=i)&&decide (i+sub.length<=hi)&&adK s sub i)=G then (st.1.push i,i+sub.length) else st
theorem vL {σ:Type}{f:σ->Nat->σ}{g:Nat->σ->Id (ForInStep σ)}(h:∀i s,g i s=pure (.yield (f s i))):∀(l:List Nat) (st:σ),forIn l st g=(pure (l.foldl f st):Id σ)
 |[],st=>rfl
 |i::l,st=>by
  rw[ac0,h];exact vL h l _
def EC (s sub:Str)(hi:Nat):Builtin.Str.occurrences s sub 0 hi 1=((List.range' 0 (hi+1)).foldl (oC s sub hi) (#[],0)).1.toList:=by
 unfold Builtin.Str.occurrences;simp only[Std.Legacy.Range.forIn_eq_forIn_range',Std.Legacy.Range.size];rw[show (hi+1-0+1-1) / 1=hi+1 by lia]
 rw[vL (f:=oC s sub hi) (λi st=>by
  unfold oC
  split <;> rfl)]
 rfl
theorem si {s sub:Str}{hi:Nat}:∀{l:List Nat},(∀i∈l,¬ (i+sub.length<=hi/\adK s sub i=G))->l.foldl (oC s sub hi) (#[],0)=(#[],0)
 |[],_=>rfl
 |i::l,h=>by
  rw[abZ,show oC s sub hi (#[],0) i=(#[],0) from Δ λz=>?_]
  ·exact si λj z=>h j (aaL _ z)
  ·simp only[aa1,decide_eq_true_eq]at z;exact h i aaO {(z.1.2),z.2}
theorem vN {s sub:Str}{hi:Nat}:∀{l:List Nat} {st:Array Nat×Nat},0<st.1.size->0<(l.foldl (oC s sub hi) st).1.size
 |[],_,h=>h
 |i::l,st,h=>by
  rw[abZ,show oC s sub hi st i=st from Δ λz=>by simp only[aa1,decide_eq_true_eq]at z;lia]
  exact vN h
theorem sg {s sub:Str}{hi:Nat}:∀{l:List Nat},(∃i∈l,i+sub.length<=hi/\adK s sub i=G)->0<(l.foldl (oC s sub hi) (#[],0)).1.size
 |[],h=>by let {i,z,L}:=h;cases z
 |i::l,h=>by
  rw[abZ]
  by_cases hc:i+sub.length<=hi/\adK s sub i=G
  ·rw[show oC s sub hi (#[],0) i=(#[i],i+sub.length) from ω (by simp[hc.1,hc.2])]
   exact vN .c
  ·rw[show oC s sub hi (#[],0) i=(#[],0) from Δ λz=>?_]
   ·refine sg ?_;let {j,z,q}:=h;rcases aat.mp z with rfl|z
    ·exact Κ q hc
    ·exact{(j),z,q}
   ·simp only[aa1,decide_eq_true_eq]at z;exact hc {(z.1.2),z.2}
def wI (cs:List Nat)(c:Nat):Txt.contains (bS cs) (eK c)=decide (c∈cs):=by
 have hs:∀i,i+(eK c).length<=(bS cs).length/\adK (bS cs) (eK c) i=G↔cs[i]?=M c:=λi=>by
  show i+1<=cs.toArray.size/\(cs.toArray.extract i (i+1)==#[c])=G↔_;rw[aaH,beq_iff_eq];have e:∀h:i<cs.length,cs.toArray.extract i (i+1)=#[cs[i]]:=λh=>by
   apply Array.ext
   ·simp;lia
   ·intro j O L;have:j=0:=by simp at L;lia
    subst this;simp
  constructor
  ·rintro⟨O,L⟩;rw[e .a]at L
   rw[aav .a]
   exact Μ M (by simpa using L)
  ·intro h;let {O,L}:=aay.mp h;exact{.a,by rw[e O,L]}
 unfold Txt.contains;rw[EC]
 by_cases h:c∈cs
 ·let {i,hi}:=List.mem_iff_getElem?.mp h;have:=sg (s:=bS cs) (sub:=eK c) (hi:=(bS cs).length) (l:=List.range' 0 ((bS cs).length+1)) ⟨i,by
   have:=(aay.mp hi).1;rw[List.mem_range'_1];show 0<=i/\i<0+(cs.toArray.size+1);rw[aaH];lia,(hs i).mpr hi⟩
  rw[Ξ h];cases e:((List.range' 0 ((bS cs).length+1)).foldl (oC (bS cs) (eK c) (bS cs).length) (#[],0)).1.toList with
  |nil=>rw[<- aau,e]at this;cases this
  |cons _ _=>rfl
 ·rw[Φ h,si λi _ z=>h (aaY ((hs i).mp z))];rfl
def oK (n:Nat):sliceRange ((n:Int)-1) (-1) (-1)=(aaA n).map λk=>n-1-k:=by
 unfold sliceRange;have c:(if (-1:Int)>0 then (if (n:Int)-1 < -1 then ((-1)-((n:Int)-1)+-1-1) / -1 else 0) else (if (n:Int)-1 > -1 then ((n:Int)-1-(-1)-(-1)-1) / (-(-1)) else 0)).toNat=n:=by
  rw[Δ .a]
  split
  ·rw[show (-(-1):Int)=1 by rfl,Int.ediv_one];lia
  ·lia
 simp only[c];refine abK λk hk=>?_;have:=aa2.mp hk;lia
def EK :sliceMade x t ξ ξ (M (-1,L))=.str {(x.cps.toList.reverse.toArray)}:=by
 have e:adR x ξ ξ (M (-1,L))=(aaA x.length).map λk=>x.length-1-k:=oK x.length;unfold sliceMade;rw[Δ (by show ¬ ((-1:Int)==1&&_)=G;simp),e,List.filterMap_map]
 have:=HT.oS x.cps.toList;rw[aau]at this;rw[<- this]
 congr 3
 refine HT.iX λk hk=>?_;show x.cps[x.length-1-k]?=_;rw[aaP];rfl
section
variable {p3 p4:Pos}
def Ir (he:PE X e te):PE X (.Subscript e .av pos) (λσ H Q=>te σ H λx H1=>∃z,x=.str z/\z.length<=aaC/\Q (.str {(z.cps.toList.reverse.toArray)}) H1):=by
 intro χ s σ H Q I h;refine Subscript_ (bz (he χ s σ H _ I h) λv s1 gC=>?_);let {x,H1,I1,r1,q1}:=gC;refine wpAny_Slice ?_;rw[evalPart_none];refine aap (aap ?_);rw[evalPart_some];refine bz (DX (X:=X) (pos:=p4) xp (br (i:=1) (j:=j) (pos:=p3)) χ s1 σ H1 (λv H'=>v=.int (-1)/\H'=H1) I1 {1,rfl,rfl,rfl}) λu L mw=>?_;let {y,H3,I3,r3,ey,eH}:=mw;subst ey eH;let {O,rfl}:=(show ∃t,u=Value.int (-1) t from r3)
 have I4:Inv X χ σ H3 {L with heap:=L.heap.push {cls:=.type "slice",data:=.fields #[.none,.none,.int (-1) O]}}:=I3.kept (t':=L.toks) λb ob q=>aar _ q
 have Fh:(L.heap.push {cls:=.type "slice",data:=.fields #[.none,.none,.int (-1) O]}).IsSliceOf L.heap.objs.size .none .none (.int (-1) O):=Heap.IsSliceOf.new ..
 generalize V9:({L with heap:=L.heap.push {cls:=.type "slice",data:=.fields #[.none,.none,.int (-1) O]}}:aao)=Y at I4 ⊢
 have Jt:Y.heap.IsSliceOf L.heap.objs.size .none .none (.int (-1) O):=by rw[<- V9];exact Fh
 have main:∃T id,typeLookup (.type T) "__getitem__" = pure (M (.builtin id))/\Y.TypeIs v T/\aaD .aa X.A (getItem v (.ref L.heap.objs.size)) (EP X χ σ Q) X.xe Y:=by
  let {z,rfl,hz,q}:=q1;let {t,rfl}:=r1;refine{"str",_,slot_str_getitem.lookup,rfl,wpAny_getItem_str_slice (l:=ξ) (u:=ξ) (st:=M (-1,O)) Jt rfl ?_};rw[EK];simp only[Made.post];refine{?_,.str _,H3,I4.tok _,{_,rfl},q};show z.cps.toList.reverse.toArray.size<=_;rw[aaH,ab2,aau];exact hz
 let {T,id,hT,ht,hg}:=main;show aaD .aa X.A (subscriptTail e .av v (.ref L.heap.objs.size)) (EP X χ σ Q) X.xe Y;exact tail_any (ops:=[v,.ref L.heap.objs.size]) ht hT hg (by with_unfolding_all rfl)
def Ql (φ:aM):aM:=λβ R=>φ β λd k L=>∃cs:List Nat,d=.str (bS cs)/\cs.length<=1000000/\R (.str (bS cs.reverse)) .own L
def Ih (O:PQ X C p a φ):PQ X C p (.Subscript a .av pos) (Ql φ) :=
 ⟨λβ R R' k h=>O.mono β _ _ (λx kx L h=>by let {cs,e,h1,q}:=h;exact{cs,e,h1,k _ _ _ q}) h,
  (Ir O.pe).pre λσ H Q h=>by
    let {β,own,s,h}:=h;refine tQ.of O s h λd k L v H1 aw h o1 Y=>?_;let {cs,e,hl,q}:=h;subst e;cases (show v=.str (bS cs) from Y.rep)
    refine{_,rfl,by rw[aa7];show cs.toArray.size<=_;rw[aaH];lia,?_}
    exact q _ _ aw o1 {[],{(rfl),rfl},abg,λc z=>nomatch z}⟩
end
def Ji (h:k_ x)(Y:x.length<=1000000)(O:0<=r)(h1:r<(x.length:Int)):∃c,c<128/\Sh (.str x) (.int r)=M (.str (eK c)):=by
 have L:r.toNat<x.cps.size:=by have:x.length=x.cps.size:=rfl;lia
 refine{x.cps[r.toNat],?_,?_}
 ·have h:x.cps.all (·<128)=G:=h;have:=Array.all_eq_true.mp h r.toNat L;simpa using this
 ·show (if x.length<=aaC then (mI x.cps.toList r).map λc=>D.str (eK c) else ξ)=_
  rw[ω (by rw[aa7];lia)]
  have e:mI x.cps.toList r=M x.cps[r.toNat]:=by
   unfold mI qQ;rw[aau];rw[ω O,ω (by have:x.length=x.cps.size:=rfl;lia)]
   show x.cps.toList[r.toNat]?=_;rw[aaP,Array.getElem?_eq_getElem L]
  rw[e];rfl
def qd (h:cs.length<1000000):F9 [.str (bS cs)]=M (.int cs.length):=by
 show (if (bS cs).length<1000000 then M (D.int (bS cs).length) else ξ)=_
 have e:(bS cs).length=cs.length:=by show cs.toArray.size=_;rw[aaH]
 rw[e,ω h]
def Gj {xs:List Nat}{lo hi:Option Int}:∀c∈jG xs lo hi,c∈xs:=λc h=>ade (List.mem_of_mem_take h)
end L2.Q
namespace gK
open PySem L2 L2.Q
def JZ (c:Nat->μ):O3:=λds R T=>∃(n:Nat) (ps:List (Nat×Nat)) (cs:List Nat),ds=[Bh n ps,.str (bS cs)]/\Lj n ps/\n<=40/\(∀c∈cs,c<128)/\cs.length<60/\(Hn cs=.cI\/46∈cs->T (c 8))/\(Hn cs≠.cI->46∉cs->∀m:Int,R (.int m))
def JZ.mono {c:Nat->μ}:AL (JZ c):=λds R R' T T' k l cO=>by let {n,ps,cs,e,h1,h2,Y,O,L,q}:=cO;exact{n,ps,cs,e,h1,h2,Y,O,λz=>l _ (L z),λa b m=>k _ (q a b m)}
section
variable {c:Nat->μ}
def bp:aH ["row","shape","many","arcs","partners","only_empty","tables","a","b"] ["row","shape"] (ak cY):=mkS
def MM {pP mB}(wA:YB K mg pP mB){v8 m9}(Hm:D3 K mg v8 m9){vY mZ}(Hk:D5 K mg vY mZ){v7 m8}(Hl:D6 K mg v7 m8){iY eW}(sD:D4 K mg iY eW)(B:Ll mg)(ZA:XA K mg cA c):aG P w K mg base (ux P w) 3 pP mB ["row","shape"] (lR P w G (JZ c)):=by
 have GAr:aG P w K mg base bP 2 _ _ _ (dz P w G wj):=IX Hm B;have GPt:aG P w K mg base bP 1 _ _ _ (dz P w G wd):=IU Hk B.toBs3;have GCw:aG P w K mg base bP 2 _ _ _ (dz P w G FW):=ML Hl sD B.toBs3;refine x_ wA.F bp (λds R T Wr=> by obtain⟨n,ps,cs,e,_⟩ := Wr;subst e;rfl) λbD A outer s H E hr=>?_
 have Z:=fk (P:=P) (w:=w) (K:=K) (mg:=mg) (base:=base) (N:=["row","shape","many","arcs","partners","only_empty","tables","a","b"]) (qual:="count_shape") (scope:=ak cY) (f:=pP) (cd:=bD) (A:=A) (outer:=outer) (s:=s) (H:=H) (E:=E);refine⟨_,(ah (aJ (i:=2) (aO ag bj .af ai) bp.nd)
    (ah (aJ (i:=3) (aX wj.mono GAr (hr.mono .b) Hm.m Hm.F.kp Hm.b (aa .ad af)) bp.nd)
    (ah (cn (rh.t (lZ (aF ag (bo.m jm) .aj eP) (jk (aF ag (bo.m En) cE .ad)))) (ao (u7 Z rfl (XA.x ZA 8))) bx)
    (qE.qu (ah (cn (aF ag (bo.m l8) (aV ag (bH.m h_) B.len dJ (aa .ad af)) .ag) (ao (aS ai)) bx)
    (ah (aJ (i:=4) (aX wd.mono GPt (hr.mono .b) Hk.m Hk.F.kp Hk.b (aa .af af)) bp.nd)
    (ah (aJ (i:=5) (G_ η ["i","many"] [ξ,M 2] .i (by decide:(["i","many"]:List Str).Nodup) rfl (aU B.range (aa (aB aC ar .ag ai) af)) (λ_ _ _ _ _ _=>(aq (i:=0) (by decide:(["i","many"]:List Str).Nodup))) (λ_ _ _ _ _ _=>dU) (λ_ _ _ _ _ _=>(G_ η ["j"] [ξ] .i (by decide:(["j"]:List Str).Nodup) rfl (xS B.range (aa .af (aa (aB aC ar .ad ai) af))) (λ_ _ _ _ _ _=>(aq (i:=0) (by decide:(["j"]:List Str).Nodup))) (λ_ _ _ _ _ _=>dU) (λ_ _ _ _ _ _=>ai)))) bp.nd)
    (ah (Ux (i:=6) 0 5 ["place","only_empty"] [M 5] .i (by decide:(["place","only_empty"]:List Str).Nodup) rfl (λ_=>(aU B.range (aa (aB aC ar (aV ag (bH.m h_) B.len dJ (aa .ad af)) ai) af))) bp.nd)
    (ah (cf abo rfl (bK (xT .aj)) (bL (n:=2) rfl (aD (aq (i:=7) bp.nd) (aD (aq (i:=8) bp.nd) bt))) (ao (Iz (i:=6) (λ_=>(aX FW.mono GCw (hr.mono .b) Hl.m Hl.F.kp Hl.b (aa (ae (i:=4)) (aa (tE (i:=6) (aB aC ar (ae (i:=7)) ai)) (aa (tE (i:=6) (aB aC ar (ae (i:=8)) ai)) af))))) (λ_=>(ae (i:=7))))))
    (ao (aS (aO ag bj (aO ag bj (tE (i:=6) ai) ai) .ag)))))))))))),λds R h=>?_⟩
 let {n,ps,cs,rfl,ok,hn,asc,hl,hx,q}:=h;have ei:La (.str ".") (.str (bS cs))=M (.bl (decide (46∈cs))):=by
  rw[Kh];show M (D.bl (Txt.contains (bS cs) (eK 46)))=_;rw[wI]
 refine{_,rfl,tv,_,rfl,_,rfl,tv,cs,rfl,asc,.a,?_}
 rcases OS cs with e|⟨fs,e,hf⟩
 ·rw[e];exact{_,rfl,tv,_,rfl,_,rfl,ur rfl (ur rfl (hx (.inl e)))}
 rw[e];refine{_,rfl,tv,_,rfl,_,rfl,jW rfl {tv,_,rfl,_,ei,_,rfl,lL (λX1=>hx (.inr X1)) λX1=>?_}};have q:=q (by rw[e];exact λz=>nomatch z) X1
 refine{_,rfl,tv,_,qd .a,tv,_,rfl,_,rfl,_,rfl,lL (λ_=>{tv,q 0}) λhlen=>?_}
 refine{_,rfl,tv,n,ps,rfl,ok,?_};refine{_,rfl,tv,_,rfl,tv,(n:Int)+1,rfl,.a,.a,tv,?_}
 rw[show ((n:Int)+1).toNat=n+1 by lia]
 refine fA (l:=aaA (n+1)) (f:=λk:Nat=>D.int (0+(k:Int))) (λ_=>G) (λk=>.lst (sW (n+1-k) λ_=>1)) tv (by rw[aa5];exact oB .a) (λk hk x0 o J ho j1 j2=>?_) ?_
 ·have hk:=aa2.mp hk;refine{_,rfl,tv,_,rfl,tv,_,rfl,tv,0+(k:Int),(n:Int)+1,rfl,{.a,.a,.a,.a},tv,?_}
  rw[show ((n:Int)+1-(0+(k:Int))).toNat=n+1-k by lia]
  refine fA (l:=aaA (n+1-k)) (f:=λj:Nat=>D.int (0+(k:Int)+(j:Int))) (λ_=>G) (λ_=>.int 1) tv (by rw[aa5];exact oB .a) (λj hj y0 o' J' BZ j1' j2'=>{tv,BZ,j1' rfl _}) ?_
  rw[fX];exact{tv,ho,j1 rfl _}
 rw[fX];have hL:(oR 0 ((cs.length:Int)+1).toNat).length=cs.length+1:=by rw[cZ];lia
 refine{_,rfl,tv,_,qd .a,tv,_,rfl,tv,(cs.length:Int)+1,rfl,.a,.a,rfl,fE n (λ_ _=>1),rfl,by rw[hL,aa7];lia,tv,by show 6<9;decide,?_}
 rw[hL];have fge:∀f∈(jC fs).reverse,nj cs.length f:=λf z=>hf f (aeI.mp z);refine{_,rfl,_,rfl,.inr {_,rfl,tv,?_}};rw[<- List.map_reverse];have er:aaR (cs.length+1) (fE n λ_ _=>1)=(aaA (cs.length+1)).map λ_=>fE n λ_ _=>(1:Int):=by rw[List.map_const',aa5]
 rw[er];have b1:Bd λ_ _=>(1:Int):=λl i=>{Int.zero_le_ofNat 1,by have:=JY (l+1);show (1:Int)<=_;lia}
 refine FK (λi β=>∃(T:Nat->Nat->Nat->Int) (Y O:Option Q.B),β=[M (.val η (Bh n ps)),M (.val η (.str (bS cs))),M (.val G (.int n)),M (.val G (.lst ((jC fs).map kD))),M (.val G (Md n ps)),M (.val G (fE n λ_ _=>1)),M (.shl .one (.lst ((aaA (cs.length+1)).map λp=>fE n (T p)))),Y,O]/\∀p,Bd (T p)) {λ_ _ _=>1,_,_,rfl,λ_=>b1} (λE1 r1 i n1 d β hd hv=>?_) λβ hv=>?_
 ·let {T,Y,O,rfl,L}:=hv;rw[aaB]at hd;let {f,hfi,rfl}:=aaK.mp hd;let {a,b,rfl,a0,ab,bn}:=fge f (aaY hfi);refine{_,rfl,rfl,_,_,rfl,_,_,rfl,rfl,?_};have gt:∀{x:Int} {k:Nat},x=(k:Int)->k<cs.length+1->qQ ((aaA (cs.length+1)).map λp=>fE n (T p)).length x=M k:=λh1 h2=>by rw[aan,aa5];exact yj h1 h2
  let {p,rfl}:=adB a0;let {r,rfl}:=adB (show 0<=b by lia)
  have es:((aaA (cs.length+1)).map λp=>fE n (T p)).set p (fE n (yM ps (T (p+1)) (T (r+1))))=(aaA (cs.length+1)).map λk=>fE n (if k=p then yM ps (T (p+1)) (T (r+1)) else T k):=by
   rw[kB .a]
   refine abK λk _=>?_
   split <;> rfl
  refine{_,rfl,tv,{_,rfl},_,rfl,tv,_,rfl,_,_,_,_,rfl,rfl,gt (k:=p+1) .a .a,dB .a,tv,{_,rfl},_,rfl,tv,_,rfl,_,_,_,_,rfl,rfl,gt (k:=r+1) .a .a,dB .a,tv,n,ps,T (p+1),T (r+1),rfl,ok,hn,L _,L _,{tv,λz=>nomatch z},{_,rfl},_,rfl,_,_,_,rfl,rfl,gt (k:=p) rfl .a,n1 _ {λk=>if k=p then yM ps (T (p+1)) (T (r+1)) else T k,M (.val G (.int (p:Int))),M (.val G (.int (r:Int))),by rw[<- es];rfl,λk=>?_}}
  show Bd (if k=p then _ else _)
  split
  ·exact Sm (λz hz=>(ok.lt z hz).1) ok.nd (L _) (L _)
  ·exact L k
 ·let {T,Y,O,rfl,L}:=hv;refine{{_,rfl},_,_,_,_,rfl,rfl,by rw[aan,aa5];exact yj (i:=0) rfl .a,dB .a,tv,_,zW (i:=0) rfl .a,.inr {tv,_,rfl,_,zX (l:=n) rfl .a,tv,q _}}
end
end gK
namespace L2.Q
def Ev (φ:aM)(β:a8)(d:D)(k:Kd):Prop:=∀R:D->Kd->a8->Prop,R d k β->φ β R
def TX (φs:bf)(β:a8)(ds:List D)(ks:List Kd):Prop:=∀R:List D->List Kd->a8->Prop,R ds ks β->φs β R
def fZ :TX Qq β [] []:=λ_ h=>h
def aL {φ:aM}{φs:bf}{ds:List D}(h:Ev φ β d k)(hk:hold k pr)(hs:TX φs β ds ks):TX (Kz pr φ φs) β (d::ds) (k::ks):=λ_ r=>h _ {hk,hs _ r}
def i3 {φs:bf}{ds:List D}(h:TX φs β ds ks)(L:ds.length<=1000000)(m:∀K:Kd->Prop,K k->CD ks ds K):Ev (Qr φs) β (.lst ds) k:=λ_ r=>h _ {aa3 L .b,m _ r}
open PySem
def MY {α Acc:Type}{γ:eU}{τ:bg}{Af:Acc->a8->(a8->Acc->Prop)->Prop}{l:List α}{f:α->D}{k:Kd}{qk:a8}{Y:Acc}{F:a8->Acc->Prop}{ds:List D}(S:Nat->Acc->Prop)(K0:ds=l.map f)(h0:S 0 Y)
  (h:∀i x,l[i]?=M x->∀(x0:Option B) (o:Acc) (J:a8->Acc->Prop),S i o->(∀x0 o',S (i+1) o'->J (x0::qk) o')->γ (f x) (sk k (f x)) (x0::qk) λO=>τ O λt L=>if t=G then Af o L J else J L o)
  (q:∀x0 o,S l.length o->F (x0::qk) o) {y0:Option B}:kZ γ τ Af ds k (y0::qk) Y F:=by
 subst K0;refine{λi β o=>(∃x0,β=x0::qk)/\S i o,{{_,rfl},h0},?_,?_}
 ·rintro i d β o hd ⟨⟨x0,rfl⟩,hs⟩;rw[aaB]at hd;let {x,hx,rfl}:=aaK.mp hd;exact h i x hx x0 o _ hs λx0 o' z=>{{_,rfl},z}
 ·rintro β o ⟨⟨x0,rfl⟩,hs⟩;rw[aan]at hs;exact q x0 o hs
def flJ:List Nat:=[6,7,5,8,0,1,2,3,4,9,10,11]
def JN (i:Nat):List Bool:=(flJ.map λj=>decide (i=j))++[G]
def fFlags (c:Nat->μ):FD:=λds R=>∃i,i<12/\ds=[.exc (c i)]/\R (.lst ((JN i).map D.bl))
def fFlags.mono {c:Nat->μ}:cH (fFlags c):=λds R R' k cO=>by let {i,hi,e,q}:=cO;exact{i,hi,e,k _ q}
def Oq (a:Nat):List Bool:=(aaA 13).map λk=>decide (k=a) || decide (k=12)
def B9:FD:=λds R=>∃i:Nat,ds=[.int i]/\R (.lst ((Oq i).map D.bl))
def B9.mono:cH B9:=λds R R' k lh=>by let {i,e,q}:=lh;exact{i,e,k _ q}
def rC (l:List Bool):(D.lst (l.map D.bl)).pd.canLay0=G/\(D.lst (l.map D.bl)).pd.depth<=4:=gk λd hd=>by
 let {b,L,rfl}:=abe.mp hd;exact{(kA b).1,aa3 (kA b).2 .b}
end L2.Q
namespace gK
open PySem L2 L2.Q
section
variable {c:Nat->μ}
def eX:aH ["e","found"] ["e"] (ak fS):=mkS
def Ex {L sr}(Lb:YA K mg L sr)(B:Bs3 mg)(bV:mg "ValueError" = ξ)(ZA:XA K mg cA c):SM P w K mg base 1 L sr ["e"] (dz P w G (fFlags c)):=by
 refine UZ Lb.F eX (λds R h=>by let {i,O,e,O}:=h;subst e;rfl) λbD A outer s H E Y=>⟨_,(ah (aJ (i:=1) (aK (aa (eQ B.BR .af (XA.x ZA 6).m) (aa (eQ B.BR .af (XA.x ZA 7).m) (aa (eQ B.BR .af (XA.x ZA 5).m) (aa (eQ B.BR .af (XA.x ZA 8).m) af))))) eX.nd)
    (ah (aJ (i:=1) (aB aC ar .ad (aK (aa (eQ B.BR .af (XA.x ZA 0).m) (aa (eQ B.BR .af (XA.x ZA 1).m) (aa (eQ B.BR .af (XA.x ZA 2).m) (aa (eQ B.BR .af (XA.x ZA 3).m) af)))))) eX.nd)
    (ah (aJ (i:=1) (aB aC ar .ad (aK (aa (eQ B.BR .af (XA.x ZA 4).m) (aa (eQ B.BR .af (XA.x ZA 9).m) (aa (eQ B.BR .af (XA.x ZA 10).m) (aa (eQ B.BR .af (XA.x ZA 11).m) af)))))) eX.nd)
    (ao (aS (aB aC ar .ad (aK (aa (Mj B.BR .af bV OK) af)))))))),λds R h=>?_⟩
 let {i,hi,rfl,q}:=h;refine(i3 (aL (λ_ r=>{_,rfl,c i,_,rfl,ZA.k hi (j:=6) .b,r}) tv (aL (λ_ r=>{_,rfl,c i,_,rfl,ZA.k hi (j:=7) .b,r}) tv (aL (λ_ r=>{_,rfl,c i,_,rfl,ZA.k hi (j:=5) .b,r}) tv (aL (λ_ r=>{_,rfl,c i,_,rfl,ZA.k hi (j:=8) .b,r}) tv fZ)))) (by show 4<=1000000;decide) (by intro _ z;exact z)) _ ?_
 refine{_,rfl,tv,(i3 (aL (λ_ r=>{_,rfl,c i,_,rfl,ZA.k hi (j:=0) .b,r}) tv (aL (λ_ r=>{_,rfl,c i,_,rfl,ZA.k hi (j:=1) .b,r}) tv (aL (λ_ r=>{_,rfl,c i,_,rfl,ZA.k hi (j:=2) .b,r}) tv (aL (λ_ r=>{_,rfl,c i,_,rfl,ZA.k hi (j:=3) .b,r}) tv fZ)))) (by show 4<=1000000;decide) (by intro _ z;exact z)) _ {_,eJ (by show 4+4<=_;decide),.inl {rfl,?_}}}
 refine{_,rfl,tv,(i3 (aL (λ_ r=>{_,rfl,c i,_,rfl,ZA.k hi (j:=4) .b,r}) tv (aL (λ_ r=>{_,rfl,c i,_,rfl,ZA.k hi (j:=9) .b,r}) tv (aL (λ_ r=>{_,rfl,c i,_,rfl,ZA.k hi (j:=10) .b,r}) tv (aL (λ_ r=>{_,rfl,c i,_,rfl,ZA.k hi (j:=11) .b,r}) tv fZ)))) (by show 4<=1000000;decide) (by intro _ z;exact z)) _ {_,eJ (by show 8+4<=_;decide),.inl {rfl,?_}}}
 exact{_,rfl,tv,_,rfl,c i,_,rfl,ZA.kv hi,tv,AZ,_,eJ (by show 12+1<=_;decide),.inl {(rfl),tv,q}}
def lU:aH ["at"] ["at"] (ak df):=mkS
def MK {JV Ao}(Kc:Z1 K mg JV Ao)(B:Bs3 mg):aG P w K mg base bP 1 JV Ao ["at"] (dz P w G B9):=by
 refine qt Kc.F lU (λds R h=>by let {i,e,_x}:=h;subst e;rfl) λbD A outer s H E O=>{_,(ao (aS (G_ η ["k","at"] [ξ,M 0] .i (by decide:(["k","at"]:List Str).Nodup) rfl (aU B.range (aa ai af)) (λ_ _ _ _ _ _=>(aq (i:=0) (by decide:(["k","at"]:List Str).Nodup))) (λ_ _ _ _ _ _=>dU) (λ_ _ _ _ _ _=>(f9 ag (bo.m (o7 O.gL)) .af (bQ (aa .ad (aa ai af)))))))),λds R h=>?_}
 let {i,rfl,q}:=h;refine{tv,13,rfl,.b,.b,tv,fA (l:=aaA 13) (f:=λk:Nat=>D.int (0+(k:Int))) (λ_=>G) (λk=>.bl (decide (k=i) || decide (k=12))) tv .b (λk hk x0 o J ho L Y=>?_) ?_}
 ·have e:decide (0+(k:Int)∈[(i:Int),12])=(decide (k=i) || decide (k=12)):=by
   rw[ac2,ad0,decide_eq_true_eq,decide_eq_true_eq,decide_eq_true_eq,aat,aaE];lia
  have h:=qe (0+(k:Int)) [(i:Int),12];rw[e]at h;exact{_,rfl,tv,_,rfl,tv,tv,nG,_,h,tv,ho,L rfl _}
 ·rw[ad1.mpr λ_ _=>rfl];have e:((aaA 13).map λk=>D.bl (decide (k=i) || decide (k=12)))=(Oq i).map D.bl:=by unfold Oq;rw[abH];rfl
  rw[e];exact{(tv),q}
end
end gK
namespace L2
open PySem PySem.Spec PySem.SeqAt PyProof.Rows PyProof.V
section
variable {t:TA}{dp:Pos}{keys:List (Option Expr)}{values:List Expr}{D:List (aew×aew)}
def Bv (hD:litPairs keys values=M D)(V8:strKeyed D=G)(hn:(strKeysOf D).Nodup)(ly:keys.all (·.isSome)=G)(hl:keys.length=values.length)(h0:keys≠[])(hlen:keys.length<=15)(ha:PA X (e::es) t)
  (c8:aco (.Dict keys values dp) "get" .f (eval (.Dict keys values dp) .f)=eval (.Dict keys values dp) .f:=by rfl)
  (iV:((abN cpos (aaz (e::es) .f)).all (λx=>!x.1)&&(ad9 cpos (ada [] .f)).all (λx=>x.1.isSome)&&decide ((e::es).length+([]:List acO).length+.az<30))=G:=by rfl)
  (c7:(apos.endLine==cpos.line)=G:=by rfl) (hs:aaz (e::es) .f=.aE::aaz es .f:=by rfl) (fC:(abN cpos (aaz es .f)).any (·.1)=η:=by rfl) :
  PE X (.Call (.Attribute (.Dict keys values dp) "get" apos) (e::es) [] cpos) (λσ H Q=>t σ H λxs O=>∃x i j,xs=[.str x,.int i]/\(lookup (.str x) D).getD (.int i)=.int j/\Q (.int j) O):=by
 intro χ s σ H Q I h;refine wpAny_Call_method_late c8 iV c7 rfl (Dict_lits_str hD V8 hn ly hl h0 hlen λa o h₁ tk Tq ho JA hk=>?_);let {bc,XS,hfl}:=JA;have hm:h₁.DictOf (strKind X.prog X.w) a bc:=Heap.dictOf_iff.mpr {(o),ho,XS};refine{"dict","dict.get",PySem.F.plainAttrs_dict,PySem.F.slot_dict_get,PySem.F.type_dict_get,hm.typeIs,hm.mapOf.noDict,?_};have I1:Inv X χ σ H {s with heap:=h₁,toks:=tk}:=I.kept hk
 have Zk:a≠X.env.locals:=acp (aaV I.lt Tq);have I2:Inv X ((a,o)::χ) σ H {s with heap:=h₁,toks:=tk}:=I1.nP λp L=>by
  rcases aat.mp L with rfl|L
  ·refine{ho,I.bh.fresh Tq,Zk,I.QI Tq,λv z=>?_};let {_x,es,ep,dd,_x}:=XS;rw[dd]at z;cases z
  ·exact I1.pin p (aa_ _ L)
 have hA:=ha cpos ((a,o)::χ) _ σ H _ I2 h;rw[hs]at hA ⊢
 refine adJ (by show (η || (abN cpos (aaz es .f)).any (·.1))=η;rw[fC] <;> rfl) (adV (bz hA λus s2 hx=>?_))
 let {vs,O,Y,r2,x,i,j,rfl,hj,q}:=hx;have Pe:=(Y.pin (a,o) (aa_ _ aaO)).1;have I4:Inv X χ σ O s2:=Y.nP λp L=>Y.pin p (aa_ _ (aaL _ L));have T:StrTab X.prog X.w s2.heap a D:={beq_eq_false_iff_ne.mpr (acp (aaV I.big Tq)),bc,Heap.dictOf_iff.mpr {(o),Pe,XS},hfl};cases r2 with
  |cons r3 r4 =>
   cases r4 with
   |cons r5 r6 =>
    cases r6;let {t1,rfl}:=r3;let {t2,rfl}:=r5;refine call_get2_strTab T (Flat.int i t2) λv hv=>?_;rw[hj]at hv;let {t3,rfl}:=hv.int_inv;exact{.int j,O,I4.tok _,{(t3),rfl},q}
end
namespace Q
section
variable {dp:Pos}{keys:List (Option Expr)}{values:List Expr}{D:List (aew×aew)}
def UJ (D:List (aew×aew))(φs:bf):aM:=λβ R=>φs β λds ks L=>∃x i j,ds=[.str x,.int i]/\(lookup (.str x) D).getD (.int i)=.int j/\R (.int j) .own L
def Bp (hD:litPairs keys values=M D)(V8:strKeyed D=G)(hn:(strKeysOf D).Nodup)(ly:keys.all (·.isSome)=G)(hl:keys.length=values.length)(h0:keys≠[])(hlen:keys.length<=15)(O:nh X C p (e::es) φs)
  (c8:aco (.Dict keys values dp) "get" .f (eval (.Dict keys values dp) .f)=eval (.Dict keys values dp) .f:=by rfl)
  (iV:((abN cpos (aaz (e::es) .f)).all (λx=>!x.1)&&(ad9 cpos (ada [] .f)).all (λx=>x.1.isSome)&&decide ((e::es).length+([]:List acO).length+.az<30))=G:=by rfl)
  (c7:(apos.endLine==cpos.line)=G:=by rfl) (hs:aaz (e::es) .f=.aE::aaz es .f:=by rfl) (fC:(abN cpos (aaz es .f)).any (·.1)=η:=by rfl) :
  PQ X C p (.Call (.Attribute (.Dict keys values dp) "get" apos) (e::es) [] cpos) (UJ D φs) :=
 ⟨λβ R R' k h=>O.mono β _ _ (λds ks L q=>by let {x,i,j,e1,Y,q}:=q;exact{x,i,j,e1,Y,k _ _ _ q}) h,
  (Bv hD V8 hn ly hl h0 hlen O.pa c8 iV c7 hs fC).pre λσ H Q cO=>by
  let {β,own,s,h}:=cO;exact oA.of O s h λds ks L vs H1 aw q o1 r1=>by
   let {x,i,j,rfl,Y,q}:=q;let {v1,r,rfl,h1,v2,r',rfl,h2,h3}:=r1.bor;cases h3;cases (show v1=.str x from h1)
   cases (show v2=.int i from h2)
   exact{x,i,j,rfl,Y,q _ H1 aw o1 {[],{(rfl),rfl},abg,λc hc=>(nomatch hc)}}⟩
end
end Q
end L2
namespace L2.Q
open PySem
def A_ (c:Nat):Int:=if c=40 then 1 else if c=41 then -1 else -1000
def fL:Int->List Nat->Bool
 |w,[]=>decide (w=0)
 |w,c::cs=>if w+A_ c<0 then η else fL (w+A_ c) cs
def vT {w:Int}{c:Nat}{cs:List Nat}(h:w+A_ c<0):fL w (c::cs)=η:=by rw[fL];exact ω h
def vR {w v:Int}{c:Nat}{cs:List Nat}(h:w+A_ c=v)(L:0<=v):fL w (c::cs)=fL v cs:=by rw[fL,h];exact Δ .a
def GJ :cG (40::cs) t L fs=cG cs (t+1) (L++[t]) fs:=by rw[cG];exact ω rfl
def GI {cs:List Nat}{t p:Int}{L:List Int}{fs:List .ae}:cG (41::cs) t (L++[p]) fs=cG cs (t+1) L (fs++[[p,t]]):=by
 rw[cG,Δ .b,ω {rfl,by simp},List.dropLast_concat,List.getLastD_concat]
def wU {c:Nat}{cs:List Nat}{t:Int}{L:List Int}{fs:List .ae}(h1:c≠40)(Y:¬ (c=41/\L≠[]))(O:c≠46):cG (c::cs) t L fs=ξ:=by
 rw[cG,Δ h1,Δ Y,ω O]
theorem pN:∀(cs:List Nat) (t:Int) (L:List Int) (fs:List .ae),L.length+cs.length<1000->(fL L.length cs=G↔46∉cs/\∃Hg,cG cs t L fs=M ([],Hg))
 |[],t,L,fs,h=>by
  show decide ((L.length:Int)=0)=G↔_;rw[decide_eq_true_eq];constructor
  ·intro z;have:L=[]:=aeJ.mp .a
   subst this;exact{λz=>.au,fs,rfl}
  ·rintro⟨_,Hg,z⟩;cases z;rfl
 |c::cs,t,L,fs,h=>by
  rw[aaS]at h;have no:fL L.length (c::cs)=η->(c=46\/cG (c::cs) t L fs=ξ)->(fL L.length (c::cs)=G↔46∉(c::cs)/\∃Hg,cG (c::cs) t L fs=M ([],Hg)):=λa b=>by
   rw[a];refine{λz=>.au,λz=>?_};let {z1,Hg,z2}:=z;rcases b with rfl|b
   ·exact Κ aaO z1
   ·rw[b]at z2;cases z2
  by_cases Y:c=40
  ·subst Y;have e:=pN cs (t+1) (L++[t]) fs (by rw[aax,abd];lia)
   rw[vR (v:=((L++[t]).length:Int)) (by rw[aax,A_,ω rfl];rfl) .a,GJ,aat,e]
   exact{λWq=> by obtain⟨a,b⟩ := Wq;exact{λz=>z.elim .a a,b},λWo=> by obtain⟨a,b⟩ := Wo;exact{λz=>a (.inr z),b}}
  by_cases q2:c=41
  ·subst q2;have es:A_ 41=-1:=by rfl
   by_cases hw:L=[]
   ·subst hw;exact no (vT (by rw[es];show (0:Int)+-1<0;lia)) (.inr (wU Y (λz=>z.2 rfl) .b))
   ·obtain⟨O,p,rfl⟩:∃O p,L=O++[p]:={L.dropLast,L.getLast hw,(ac1 hw).symm};rw[aax,abd]at h;rw[vR (v:=(O.length:Int)) (by rw[es,aax,abd];lia) .a,GI,aat,pN cs (t+1) O (fs++[[p,t]]) .a]
    exact{λWm=> by obtain⟨a,b⟩ := Wm;exact{λz=>z.elim .a a,b},λWl=> by obtain⟨a,b⟩ := Wl;exact{λz=>a (.inr z),b}}
  ·refine no (vT (by rw[A_,Δ Y,Δ q2];lia)) ?_
   by_cases q3:c=46
   ·exact .inl q3
   ·exact .inr (wU Y (λz=>q2 z.1) q3)
def FN (h:cs.length<1000):(fL 0 cs=G↔46∉cs/\Hn cs≠.cI):=by
 have e:=pN cs 0 [] [] (by simpa using h)
 rw[show (([]:List Int).length:Int)=0 from rfl]at e
 rw[e];refine and_congr Iff.rfl ?_;unfold Hn;constructor
 ·rintro⟨fs,z⟩;rw[z];exact λz=>nomatch z
 ·intro z;cases h:cG cs 0 [] []with
  |none=>rw[h]at z;exact Κ rfl z
  |some r =>
   let {L,fs}:=r;rw[h]at z
   by_cases hw:L=[]
   ·subst hw;exact{(fs),rfl}
   ·exact Κ (Δ hw) z
def we:FD:=λds R=>∃cs:List Nat,ds=[.str (bS cs)]/\(∀c∈cs,c<128)/\cs.length<=300/\R (.bl (fL 0 cs))
def we.mono:cH we:=λds R R' k cO=>by let {cs,e,O,L,q}:=cO;exact{cs,e,O,L,k _ q}
def LH (c:Nat):(PySem.Spec.lookup (.str (eK c)) [(.str "(",.int 1),(.str ")",.int (-1))]).getD (.int (-1000))=PyData.int (A_ c):=by
 rw[Gr,Gq];have e:∀d,PySem.Spec.same (.str (eK d)) (.str (eK c))=decide (c=d):=λd=>(PyProof.V.same_str _ _).trans (decide_eq_decide.mpr ((xv d c).trans eq_comm));have l2:∀a:aew,PySem.Spec.lookup a [(.str (eK 40),.int 1),(.str (eK 41),.int (-1))]=if PySem.Spec.same (.str (eK 40)) a then M (.int 1) else if PySem.Spec.same (.str (eK 41)) a then M (.int (-1)) else ξ:=λa=>rfl
 rw[l2,e,e];unfold A_
 by_cases O:c=40
 ·rw[Ξ O,ω O];rfl
 ·rw[Φ O,Δ O]
  by_cases L:c=41
  ·rw[Ξ L,ω L];rfl
  ·rw[Φ L,Δ L];rfl
end L2.Q
namespace gK
open PySem L2 L2.Q
def sv:FD:=λds R=>(∃(w:Int) (n:Nat) (ps:List (Nat×Nat)) (ts:List .ae),ds=[.int w,Bh n ps,.lst .ah]/\0<=w/\w<5/\Lj n ps/\n<=40/\ts.length<=502/\Pairs ts/\∀fl:List Bool,(Good (ps.map tI) ts->fl=[])->(¬ Good (ps.map tI) ts->fl=JN 5)->R (.lst (fl.map D.bl))) \/
 ∃(n:Nat) (ps:List (Nat×Nat)) (cs:List Nat),ds=[.int 5,Bh n ps,.str (bS cs)]/\Lj n ps/\n<=40/\(∀c∈cs,c<128)/\cs.length<60/\∀fl:List Bool,fl=(match fL 0 cs with|true=>[]|false=>JN 8)->R (.lst (fl.map D.bl))
def sv.mono:cH sv:=λds R R' k h=>h.imp (λWj=> by obtain⟨w,n,ps,ts,e,h1,Y,O,L,h5,h6,q⟩ := Wj;exact{w,n,ps,ts,e,h1,Y,O,L,h5,h6,λfl a b=>k _ (q fl a b)}) λcO=>by let {n,ps,cs,e,h1,Y,O,L,q}:=cO;exact{n,ps,cs,e,h1,Y,O,L,λfl a=>k _ (q fl a)}
section
variable {c:Nat->μ}
def fO:aH ["way","row","thing","found","e"] ["way","row","thing"] (ak gP):=mkS
def IT {JR Ak}(J4:Z0 K mg JR Ak){B8 sr}(Lb:YA K mg B8 sr){qY lC}(Gi:T1 K mg qY lC){lD gG}(qf:PC K mg lD gG){iY eW}(sD:TZ K mg iY eW){fM c9}(d_:Hr K mg fM c9){qX lB}(F6:TY K mg qX lB){qZ jK}(CJ:SO K mg qZ jK){da bE}(d6:y_ K mg da bE){jL c_}(dE:xj K mg jL c_){jr cP}(dO:xb K mg jr cP){iD cw}(dF:D9 K mg iD cw){ip b_}(dS:D8 K mg ip b_){il b9}(dX:D7 K mg il b9){pP mB}(wA:YB K mg pP mB){v8 m9}(Hm:D3 K mg v8 m9){vY mZ}(Hk:D5 K mg vY mZ){v7 m8}(Hl:D6 K mg v7 m8){Oh FP}(Yi:D4 K mg Oh FP)(B:Ll mg)(bV:mg "ValueError" = ξ)(ZA:XA K mg cA c):aG P w K mg base bP 9 JR Ak ["way","row","thing"] (dz P w G sv):=by
 have GFl:SM P w K mg base 1 _ _ _ (dz P w G (fFlags c)):=Ex Lb B.toBs3 bV ZA;have Kr:=o8 (P:=P) (w:=w) (base:=base) d_ d6 dE dO dF dS dX B.toBs2 ZA;have SK:=o9 (P:=P) (w:=w) (base:=base) qf d_ d6 dE dO dF dS dX B.toBs2 ZA;have GDp:=Bz (P:=P) (w:=w) (base:=base) Gi qf d_ d6 dE dO dF dS dX B.toBs2 ZA;have Yx:=Et (P:=P) (w:=w) (base:=base) sD d_ d6 dE dO dF dS dX B.toBs2 ZA;have GSh:=By (P:=P) (w:=w) (base:=base) F6 CJ d6 dE dO dF dS dX B ZA;have Yz:=MM (P:=P) (w:=w) (base:=base) wA Hm Hk Hl Yi B ZA;refine qt J4.F fO (λds R h=>by rcases h with⟨_,_,_,_,e,_⟩|⟨_,_,_,e,_⟩ <;> subst e <;> rfl) λbD A outer s H E L=>⟨_,(ah (cm (i:=3) (λ_=>(aK af)) fO.nd)
    (nQ (Ms (j:=4) rfl rfl (uK (aF ag (bo.m (dC L.units)) .af ai) (i9 (iz.mono dH dH.mono) Kr (L.mono .b) d_.m d_.F.kp d_.b (aa .ad (aa .ag af))) (uK (aF ag (bo.m (dC L.units)) .af ai) (i9 (iz.mono gf gf.mono) SK (L.mono .b) qf.m qf.F.kp qf.b (aa .ad (aa .ag af))) (uK (aF ag (bo.m (dC L.units)) .af ai) (i9 (iz.mono jM jM.mono) GDp (L.mono .b) Gi.m Gi.F.kp Gi.b (aa .ad (aa .ag af))) (uK (aF ag (bo.m (dC L.units)) .af ai) (i9 (iz.mono mD mD.mono) GSh (L.mono .b) F6.m F6.F.kp F6.b (aa .ad (aa .ag af))) (uK (aF ag (bo.m (dC L.units)) .af ai) (i9 (iz.mono jM jM.mono) Yx (L.mono .b) sD.m sD.F.kp sD.b (aa .ad (aa .ag af))) (i9 (JZ.mono (c:=c)) Yz (L.mono .b) wA.m wA.F.kp wA.b (aa .ad (aa .ag af)))))))) (λ_=>(ao (cm (i:=3) (λ_=>(DQ (fFlags.mono (c:=c)) GFl (L.CG .b) Lb.m Lb.F.kp Lb.b (aa (ae (i:=4)) af))) fO.nd))) ZA.Yo fO.nd)
    (ao (kQ (i:=3))))),λds R h=>?_⟩
 rcases h with⟨w,n,ps,ts,rfl,w0,w5,ok,hn,hl,O,q⟩|⟨n,ps,cs,rfl,ok,hn,asc,hl,q⟩
 ·obtain⟨fl,g1,g2⟩:∃fl:List Bool,(Good (ps.map tI) ts->fl=[])/\(¬ Good (ps.map tI) ts->fl=JN 5):=by
   by_cases g:Good (ps.map tI) ts
   ·exact{[],λ_=>rfl,λz=>Κ g z}
   ·exact{JN 5,λz=>Κ z g,λ_=>rfl}
  have Y:cj (n:Int) (ps.map tI):=λt ht=>by
   let {p,O,rfl}:=abe.mp ht;have:=ok.lt p O;exact{p.1,p.2,rfl,.a,.a,.a}
  rw[gW];have em:=Classical.em (Good (ps.map tI) ts);have nn:(n:Int)<=100:=by lia
  have ll:ts.length<=502:=hl;refine⟨aaJ _,tv,λβ=>β=[M (.val η (.int w)),M (.val η (f7 (n:Int) (ps.map tI))),M (.val η (.lst .ah)),M (.own (.lst (fl.map D.bl))),ξ],⟨λcl=>cl=c 5/\¬ Good (ps.map tI) ts,?_,λcl h=>by
    let {rfl,g}:=h;exact{ZA.ZJ 5 .b,_,rfl,tv,5,.b,rfl,tv,by rw[g2 g];rfl}⟩,λβ h=>?_⟩
  ·have bd:∀{β:Q.a8},β=[M (.val η (.int w)),M (.val η (f7 (n:Int) (ps.map tI))),M (.val η (.lst .ah)),M (.own (.lst [])),ξ]->Good (ps.map tI) ts->β=[M (.val η (.int w)),M (.val η (f7 (n:Int) (ps.map tI))),M (.val η (.lst .ah)),M (.own (.lst (fl.map D.bl))),ξ]:=λe g=>by rw[g1 g];exact e
   refine{_,rfl,tv,_,b8 _ _,_,rfl,lL (λ_=>{_,rfl,tv,_,rfl,tv,em.imp (λg=>{(n:Int),ps.map tI,ts,rfl,.a,Y,g,λ_ _ _=>bd rfl g}) λg=>{(n:Int),ps.map tI,ts,rfl,.a,O,g,rfl,g}}) λk0=>?_}
   refine{_,rfl,tv,_,b8 _ _,_,rfl,lL .aF λk1=>?_}
   refine{_,rfl,tv,_,b8 _ _,_,rfl,lL .aF λk2=>?_}
   refine{_,rfl,tv,_,b8 _ _,_,rfl,lL (λ_=>{_,rfl,tv,_,rfl,tv,em.imp (λg=>{n,ps.map tI,ts,rfl,.a,.a,Y,g,bd rfl g}) λg=>{(n:Int),ps.map tI,ts,rfl,.a,O,g,rfl,g}}) λk3=>?_}
   refine{_,rfl,tv,_,b8 _ _,_,rfl,lL .aF λk4=>?_}
   lia
  ·subst h;exact{_,rfl,q fl g1 g2}
 ·have fa:=FN (cs:=cs) .a
  obtain⟨fl,g0⟩:∃fl:List Bool,fl=(match fL 0 cs with|true=>[]|false=>JN 8):={_,rfl}
  have g1:fL 0 cs=G->fl=[]:=λg=>by rw[g0,g]
  have g2:fL 0 cs=η->fl=JN 8:=λg=>by rw[g0,g]
  refine⟨aaJ _,tv,λβ=>β=[M (.val η (.int 5)),M (.val η (Bh n ps)),M (.val η (.str (bS cs))),M (.own (.lst (fl.map D.bl))),ξ],⟨λcl=>cl=c 8/\fL 0 cs=η,{_,rfl,tv,_,b8 _ _,_,rfl,jW rfl {_,rfl,tv,_,b8 _ _,_,rfl,jW rfl {_,rfl,tv,_,b8 _ _,_,rfl,jW rfl {_,rfl,tv,_,b8 _ _,_,rfl,jW rfl {_,rfl,tv,_,b8 _ _,_,rfl,jW rfl {_,rfl,tv,_,rfl,tv,n,ps,cs,rfl,ok,hn,asc,hl,(λz=>{rfl,acJ.mpr λg=>Κ (fa.mp g) λy=>z.elim y.2 y.1}),λy z _=>by rw[g1 (fa.mpr {(z),y})];rfl}}}}}},λcl h=>by
    let {rfl,g}:=h;exact{ZA.ZJ 8 .b,_,rfl,tv,8,.b,rfl,tv,by rw[g2 g];rfl}⟩,λβ h=>?_⟩
  subst h;exact{_,rfl,q fl g0}
end
end gK
namespace L2.Q
open PySem PySem.Spec PySem.SeqAt PyProof.Rows
section
variable {γ:eU}{τ:bg}{ι:cT}
def lcC (x0:Str)(N':List Str)(lk:List .aB)(L:tX X.env.scope.names X.N x0 scope N' lk=G)(vI:N'.Nodup)(hc:X.calm=G)(hi:xi X C pi tg du ι)
  (BY:∀U cl c s H ex,GY (bA X x0 scope N' cl c s H ex) (C.u U) tg T γ) (BX:∀U cl c s H ex,w9 (bA X x0 scope N' cl c s H ex) (C.u U) G ifs τ)
  (r_:∀U cl c s H ex,PQ (bA X x0 scope N' cl c s H ex) (C.u U) G elt φ)
  (hT:T.all (λi=>match lk[i]? with|some (M _)=>η|_=>G)=G:=by rfl)
  (yB:eval .an .f=comprehension .an scope .f (firstIterPos [{tg,du,ifs,0}] pos) (newList []) η (eval du .f):=by first|rfl|exact arm_eval_ListComp ..)
  (hs:∀x,abu du .f x=pure x:=by intro _;rfl) :
  PQ X C η .an (DA lk ι γ τ φ):=by
 have L:=j9.of L;have RX:∀i∈T,∀j,lk[i]?≠M (M j):=λi hi j e=>by
  have:=acS.mp hT i hi;rw[e]at this;cases this
 have γm:=(BY (λ_=>False) [] 0 X.s₀ X.H₀ []).mono;have τm:=(BX (λ_=>False) [] 0 X.s₀ X.H₀ []).mono;have φm:=(r_ (λ_=>False) [] 0 X.s₀ X.H₀ []).mono;refine⟨λβ R R' l h=>hi.mono β _ _ (λds kd Y q=>{q.1,q.2.mono λ_ _ z=>{z.1,l _ _ _ z.2}}) h,(Eb (g:={tg,du,ifs,0}) (gs:=[]) (tg:=λa=>HD X C a T γ) (tt:=λa=>nk X .ak G τ) (ta:=λa=>O6 X C a φ)
  L hc iR yB rfl (λ_ _=>AE) hi.pi (λa cl c s H ex=>{(BY _ cl c s H ex).pg,(BX _ cl c s H ex).pt,iQ (X:=bA X x0 scope N' cl c s H ex) rfl (r_ _ cl c s H ex).pe}) hs).pre λσ H Q ⟨β,own,sq,h⟩=>?_⟩
 refine{β,own,sq,hi.mono β _ _ (λds k Y h J H1 aw o1 it a O=>?_) h};let {hk,q}:=h;refine oP (C:=C) (T:=T) (qm (P:=X.prog) (w:=X.w) (H1:=H1)) γm τm (λj hj=>hj) (pD L vI) RX o1.sq O it {[],[],az,(show aR _ _ _ [] [] [] from {(rfl),rfl}),abg,λc hc=>(nomatch hc)} (o1.sq.enter O (pD L vI))
  (λHb Wb βx ox σx Hx Nx h0 sx qx=>tq h0 O φm sx qx) q λol H' q o2 r=>?_
 have r':=(yU o1.sq O r).later o1.sn;exact q _ _ _ ((o1.trans o2).wk λz=>.au) r'
end
section
variable {γ:eU}{τ:bg}{pc pe:Bool}{ι:cT}
def Vd (x0:Str)(N':List Str)(lk:List .aB)(L:tX X.env.scope.names X.N x0 scope N' lk=G)(vI:N'.Nodup)(hc:X.calm=G)(hi:xi X C pi tg du ι)
  (BY:∀U cl c s H ex,GY (bA X x0 scope N' cl c s H ex) (C.u U) tg T γ) (BX:∀U cl c s H ex,w9 (bA X x0 scope N' cl c s H ex) (C.u U) pc ifs τ)
  (r_:∀U cl c s H ex,PQ (bA X x0 scope N' cl c s H ex) (C.u U) pe elt φ) (h1:pc=G:=by rfl) (Y:pe=G:=by rfl)
  (O:T.all (λi=>match lk[i]? with|some (M _)=>η|_=>G)=G:=by rfl)
  (yB:eval .an .f=comprehension .an scope .f (firstIterPos [{tg,du,ifs,0}] pos) (newList []) η (eval du .f):=by first|rfl|exact arm_eval_ListComp ..)
  (hs:∀x,abu du .f x=pure x:=by intro _;rfl) :
  PQ X C η .an (DA lk ι γ τ φ):=by
 subst h1 Y;exact lcC x0 N' lk L vI hc hi BY BX r_ O yB hs
end
section
variable {φa φb:aM}{p':Bool}
def UL (pb:Bool)(φa φb:aM):aM:=λβ R=>φa β λx ka O=>hold ka pb/\φb O λy _ L=>∃i,y=.int i/\∃d,Hj x (M i) ξ=M d/\kN NL d ka.wk λk=>R d k L
def Mf (ha:PQ X C p a φa)(Y:PQ X C p' b φb):PQ X C (p&&p') (.Subscript a (.Slice (M b) ξ ξ p2) pos) (UL p' φa φb) :=
 ⟨λβ R R' k h=>ha.mono β _ _ (λx ka L hx=>{hx.1,Y.mono L _ _ (λy kb O z=>by let {i,e1,d,e,q}:=z;exact{i,e1,d,e,q.mono λ_ z=>k _ _ _ z}) hx.2}) h,
  (kM zh ha.pe (tF Y.pe) tG).pre λσ H Q cO=>by
  let {β,own,s,h}:=cO;exact tQ.of ha s h λd1 k1 L v1 H1 aw lh o1 r1=>by
   let {hh,h1}:=lh;exact tQ.of Y o1.sq h1 λd2 k2 O v2 H2 a7 z o2 r2=>by
    let {i,e1,d,e,q}:=z;subst e1;cases r2.rep;have Qj:=r1.ho o2 hh;refine{i,rfl,av C (Wn a7) k1.wk,d1,d,o2.sq.Av _,aA.aW wO Qj.rep,e,λv H' s4 r4 n4=>?_};have o:=(o1.trans o2).same s4;let {k',q,r}:=KV.kN (Z:=(H,Wn own)) zd r4 (λn=>fU (H:=H2) o2.sq.sC o2.sq.iE (λa z=>o2.sn.d a (o1.sn.d a z)) n (n4 n)) q;exact q v H' a7 o r⟩
end
def yT {a b c d:Int}(ab:a<b)(cd:c<d)(h:Apart [a,b] [c,d]):mW [a,b] [c,d]=η:=by
 show gx a b c d=η;have s:¬ ∃i∈[a,b],i∈[c,d]:=λz=>by
  have:=h.1;rw[dY.mpr z]at this;cases this
 have x:¬ ((a<c/\c<b/\b<d)\/(c<a/\a<d/\d<b)):=λz=>by
  have e:eT [a,b] [c,d]=G:=qh.mpr z;have:=h.2;rw[e]at this;cases this
 have s1:a∉[c,d]:=λz=>s {a,by simp,z}
 have s2:b∉[c,d]:=λz=>s {b,by simp,z}
 unfold gx;rw[Φ s1,Φ s2];simp only[aat,aaQ,or_false,not_or]at s1 s2;have:(decide (a<c)&&decide (c<b))=(decide (a<d)&&decide (d<b)):=by
  rw[ac2,aa1,aa1,decide_eq_true_eq,decide_eq_true_eq,decide_eq_true_eq,decide_eq_true_eq];lia
 rw[Ξ this];rfl
def JI (ht:cj n rows)(hp:Pairs ts):Good rows ts↔(∀t∈ts,t∈rows)/\ts=jC (pZ ts)/\∀(k:Nat) (t:List Int),ts[k]?=M t->∀(j:Nat) (u:List Int),j<k->ts[j]?=M u->mW u t=η:=by
 constructor
 ·rintro⟨L,h2,h3⟩;refine{L,(Dl (h2.imp λ{a b} z=>jV z) (h3.imp_of_mem λ{a b} ha _ z=>z.ne (hp a ha)) λ_=>Iff.rfl).symm,λk t ek j u hj Y=>?_};have ap:=pw_iff.mp h3 j k u t hj Y ek;let {a,b,rfl,O,ab,O}:=ht _ (L _ (aaY Y));let {c,d,rfl,O,cd,O}:=ht _ (L _ (aaY ek));exact yT ab cd ap
 ·rintro⟨L,h2,h3⟩;have pd:Pairs (pZ ts):=λt z=>hp t (((fH ts).2 t).mp z);have pm:ts.Perm (pZ ts):=by
   have:=cz (pZ ts)
   rwa [<- h2]at this
  rw[h2];refine(FC pd).mpr {λt z=>L t (((fH ts).2 t).mp z),(pm.pairwise_iff λh=>Apart.symm h).mp (pw_iff.mpr λj k u t hj Y ek=>?_)};let {a,b,rfl,O,ab,O}:=ht _ (L _ (aaY Y));let {c,d,rfl,O,cd,O}:=ht _ (L _ (aaY ek));exact pq ab cd (h3 k _ ek j _ hj Y)
end L2.Q
namespace gK
open PySem L2 L2.Q
def J6 (l:List Nat):d_ (.lst (l.map λj:Nat=>D.int (0+(j:Int)))) (.lst [])=M (.bl (!decide (l=[]))):=by
 have:=qc (l.map λj:Nat=>0+(j:Int)) [];rw[abH]at this;refine this.trans ?_;cases l <;> rfl
def FV:FD:=λds R=>∃(n:Nat) (ps:List (Nat×Nat)) (ts:List .ae),ds=[Bh n ps,.lst .ah]/\Lj n ps/\ts.length<60/\Pairs ts/\∀b:Bool,(b=G↔Good (ps.map tI) ts)->R (.bl b)
def FV.mono:cH FV:=λds R R' k h=>by let {n,ps,ts,e,Y,O,L,q}:=h;exact{n,ps,ts,e,Y,O,L,λb z=>k _ (q b z)}
def wg:FD:=λds R=>∃(n:Nat) (ps:List (Nat×Nat)) (ts:List .ae),ds=[Bh n ps,.lst .ah]/\Lj n ps/\n<=40/\ts.length<=40/\Pairs ts/\∀us,Pairs us->us.length<=42->R (.lst (us.map kD))
def wg.mono:cH wg:=λds R R' k cO=>by let {n,ps,ts,e,h1,Y,O,L,q}:=cO;exact{n,ps,ts,e,h1,Y,O,L,λus a b=>k _ (q us a b)}
def qK:aH ["row","ties"] ["row","ties"] (ak eY):=mkS
def MJ {JT Am}(Pp:ZZ K mg JT Am){vZ m7}(Ay:T3 K mg vZ m7)(B:Bs2 mg):aG P w K mg base bP 2 JT Am ["row","ties"] (dz P w G FV):=by
 have Yy:aG P w K mg base bP 1 _ _ _ (dz P w G pR):=zM Ay;refine qt Pp.F qK (λds R Wi=> by obtain⟨n,ps,ts,e,_⟩ := Wi;subst e;rfl) λbD A outer s H E L=>⟨_,(ah (cn (rh.t (lZ (aF ag (bo.m (fy L.units)) (G_ η ["tie","row"] [ξ,M 0] .i (by decide:(["tie","row"]:List Str).Nodup) rfl (bK .ad) (λ_ _ _ _ _ _=>(aq (i:=0) (by decide:(["tie","row"]:List Str).Nodup))) (λ_ _ _ _ _ _=>(jQ (aF ag (bo.m (rM L.gL)) .af (aO ag bj .ad ai)))) (λ_ _ _ _ _ _=>.af)) (aK af)) (jk (aF ag (bo.m (fy L.units)) .ad (aV aC (uh rfl) B.sorted fh (aa (d3 ag (bH.m (Cn rfl L.HC)) B.set OM (aa .ad af)) af)))))) (ao (aS zE)) bx)
    (ao (aS (f9 ag (bo.m (dC L.units)) (Vd "k" ["k","ties"] [ξ,M 1] .i (by decide:(["k","ties"]:List Str).Nodup) rfl (aU B.range (aa (aV ag (bH.m cR) B.len dJ (aa .ad af)) af)) (λ_ _ _ _ _ _=>(aq (i:=0) (by decide:(["k","ties"]:List Str).Nodup))) (λ_ _ _ _ _ _=>(jQ (aF ag (bo.m (fy L.units)) (G_ η ["j","ties","k"] [ξ,M 1,M 0] .i (by decide:(["j","ties","k"]:List Str).Nodup) rfl (aU B.range (aa .af af)) (λ_ _ _ _ _ _=>(aq (i:=0) (by decide:(["j","ties","k"]:List Str).Nodup))) (λ_ _ _ _ _ _=>(jQ (gY (aX pR.mono Yy (L.mono .b) Ay.m Ay.F.kp Ay.b (aa (aO ag bj .ad .af) (aa (aO ag bj .ad .ag) af)))))) (λ_ _ _ _ _ _=>.af)) (aK af)))) (λ_ _ _ _ _ _=>.af)) (aK af))))),λds R h=>?_⟩
 let {n,ps,ts,rfl,ok,hl,hp,q}:=h;have q1:Good (ps.map tI) ts->R (.bl G):=λg=>q G {λ_=>g,λ_=>rfl};have q2:¬ Good (ps.map tI) ts->R (.bl η):=λg=>q η {λz=>.au,λz=>Κ z g};rw[gW];have tr:cj (n:Int) (ps.map tI):=λt ht=>by
  let {p,hp,rfl}:=abe.mp ht;have:=ok.lt p hp;exact{p.1,p.2,rfl,.a,.a,.a}
 have gi:=JI tr hp;refine{_,rfl,_,rfl,tv,fA (l:=ts) (f:=kD) (λt=>!decide (t∈ps.map tI)) kD tv (by rw[aa7];lia) (λt ht x0 o J ho j1 j2=>?_) ?_}
 ·refine{_,rfl,tv,_,rfl,tv,_,rfl,.inr {_,qb t _,_,rfl,Jn (λz=>{_,rfl,nZ _,ho,j1 (by rw[Φ z];rfl) _}) λz=>j2 (by rw[Ξ z];rfl) _}}
 refine{tv,aaJ _,_,wy _ [],_,rfl,Jn (λz=>{tv,q2 λg=>z ?_}) λz=>?_}
 ·rw[acg];intro t ht;rw[Ξ (g.1 t ht)];exact acb
 have all:∀t∈ts,t∈ps.map tI:=λt ht=>by
  have:=acg.mp z t ht
  by_cases h:t∈ps.map tI
  ·exact h
  ·rw[Φ h]at this;exact Κ rfl this
 have ne:∀k∈ts,k≠[]:=λk hk=>by let {x,y,rfl}:=hp k hk;exact λz=>.au
 refine{_,rfl,tv,_,rfl,tv,_,Du ne .a,.inr {tv,_,xE ne .a,.inl {aE _,_,wy _ _,_,rfl,Jn (λz2=>{tv,q2 λg=>z2 (gi.mp g).2.1}) λz2=>?_}}}
 have KU:∀j k:Nat,k<ts.length->j<k->∃a b c d:Int,ts[j]?=M [a,b]/\ts[k]?=M [c,d]:=λj k hk hj=>by
  let {a,b,Y}:=hp _ (acd (show j<ts.length by lia))
  let {c,d,O}:=hp _ (acd hk);exact{a,b,c,d,by rw[<- Y];exact aav _,by rw[<- O];exact aav _}
 generalize Xj:(λj k:Nat=>mW ((ts[j]?).getD []) ((ts[k]?).getD []))=mt;refine{_,rfl,tv,_,rfl,tv,_,rfl,by rw[aan];lia,by rw[aan];lia,tv,?_}
 rw[aan,aby];refine MY (l:=aaA ts.length) (λi o=>o=(((aaA i).filter λk=>!decide ((aaA k).filter (λj=>mt j k)=[])).map λk:Nat=>(k:Int)).map D.int) rfl rfl (λk x hx x0 o J hs j=>?_) λx0 o hs=>?_
 ·have hk:k<ts.length:=by
   have:=(aay.mp hx).1
   rwa [aa5]at this
  have ex:x=k:=by rw[acj hk]at hx;exact(aaZ hx).symm
  subst ex;rw[Int.zero_add];refine{_,rfl,tv,_,rfl,.a,.a,tv,?_}
  rw[aby];refine fA (l:=aaA x) (f:=λj:Nat=>D.int (0+(j:Int))) (λj=>mt j x) (λj=>.int (0+(j:Int))) tv (by rw[aa5,aa7];lia) (λy hy y0 ou J2 hou j1 j2=>?_) ?_
  ·have hy:=aa2.mp hy;let {a,b,c,d,Y,O}:=KU y x hk hy;have em:mt y x=gx a b c d:=by rw[<- Xj];show mW ((ts[y]?).getD []) ((ts[x]?).getD [])=_;rw[Y,O];rfl
   refine{_,rfl,tv,_,rfl,_,rS (d:=kD [a,b]) (i:=y) .a (by rw[aaB,Y];rfl),tv,_,rfl,tv,_,rfl,_,rS (d:=kD [c,d]) (i:=x) rfl (by rw[aaB,O];rfl),tv,a,b,c,d,rfl,_,rfl,?_}
   rw[<- em];exact Pd (λh=>{_,rfl,tv,hou,j1 h _}) λh=>j2 h _
  ·refine{tv,aaJ _,_,J6 _,_,rfl,?_};have ho:o.length<=x:=by
    rw[hs,aan,aan];exact aa3 (acC _ _) (by rw[aa5];exact aaq _)
   refine Jn (λz=>{_,rfl,tv,by rw[aa7];lia,j _ _ ?_}) λz=>j _ _ ?_
   ·rw[hs,acE,acB,abb,abb];refine Μ _ ?_;show _=List.map D.int (List.map _ (List.filter _ [x]));rw[List.filter_cons_of_pos (by rw[Φ z];rfl)]
    rfl
   ·rw[hs,acE,acB,abb,abb];show _=_++List.map D.int (List.map _ (List.filter _ [x]));rw[List.filter_cons_of_neg (by rw[Ξ z];decide)]
    exact(abR _).symm
 ·rw[aa5]at hs;subst hs;refine{tv,tv,aaJ _,_,Gf _ [],tv,?_}
  by_cases h:∀k,k<ts.length->∀j,j<k->mt j k=η
  ·rw[Ξ (by
    rw[List.map_eq_nil_iff,acg];intro k hk;have:(aaA k).filter (λj=>mt j k)=[]:=acg.mpr λj hj=>by rw[h k (aa2.mp hk) j (aa2.mp hj)];decide
    rw[Ξ this]
    decide)]
   refine q1 (gi.mpr {all,z2,λk t ek j u hj eu=>?_});have:=h k (aay.mp ek).1 j hj;rw[<- Xj]at this;have this:mW ((ts[j]?).getD []) ((ts[k]?).getD [])=η:=this;rw[eu,ek]at this;exact this
  ·rw[Φ λz=>h λk hk j hj=>?_]
   ·refine q2 λg=>h λk hk j hj=>?_;let {a,b,c,d,Y,O}:=KU j k hk hj;have:=(gi.mp g).2.2 k _ O j _ hj Y;rw[<- Xj];show mW ((ts[j]?).getD []) ((ts[k]?).getD [])=η;rw[Y,O];exact this
   ·rw[List.map_eq_nil_iff,acg]at z;have:=z k (aa2.mpr hk)
    by_cases e:(aaA k).filter (λj=>mt j k)=[]
    ·have:=acg.mp e j (aa2.mpr hj);exact acJ.mpr this
    ·rw[Φ e]at this;exact Κ rfl this
def bB:aH ["pot","row","ties","at","a","b","far","odd","more","some"] ["pot","row","ties"] (ak gS):=mkS
def IW {JX Ar}(Pt:ZY K mg JX Ar){B6 mz}(dT:D1 K mg B6 mz)(B:Bs2 mg):aG P w K mg base bP 2 JX Ar ["pot","row","ties"] (fJ P w kR η wg):=by
 have GT:aG P w K mg base bP 1 _ _ _ (fJ P w kR G bu):=gZ dT.F;refine BB Pt.F bB (λds R Wh=> by obtain⟨n,ps,ts,e,_⟩ := Wh;subst e;rfl) λbD A outer s H E IO Y=>⟨_,(ah (aJ (i:=3) (aP (ih:=0) bu.mono GT (Y.mono .b) dT.m dT.F.kp dT.b (aa (aB aC ar (aV ag (bH.m cR) B.len dJ (aa .ag af)) ai) af)) bB.nd)
    (ah (aJ (i:=4) (aB ag (bo.m bI) (aP (ih:=0) bu.mono GT (Y.mono .b) dT.m dT.F.kp dT.b (aa (aB aC ar (aO ag bj .ad ai) ai) af)) ai) bB.nd)
    (ah (aJ (i:=5) (aB ag (bo.m bI) (aP (ih:=0) bu.mono GT (Y.mono .b) dT.m dT.F.kp dT.b (aa (aB aC ar (aO ag bj .ad ai) ai) af)) ai) bB.nd)
    (ah (aJ (i:=6) (aP (ih:=0) bu.mono GT (Y.mono .b) dT.m dT.F.kp dT.b (aa (aB ag (bo.m IL) ai ai) af)) bB.nd)
    (ah (aJ (i:=7) (aK (aa (bQ (aa (ae (i:=4)) (aa (ae (i:=5)) af))) (aa (bQ (aa (ae (i:=5)) (aa (ae (i:=4)) af))) (aa (bQ (aa (ae (i:=4)) (aa (ae (i:=4)) af))) (aa (bQ (aa (ae (i:=4)) (aa (ae (i:=6)) af))) (aa (bQ (aa (aB ag (bo.m bI) (rJ i8 ai) (ae (i:=6))) (aa (ae (i:=5)) af))) (aa (aO ag bj (aB aC ar .ag (aK (aa (bQ (aa ai (aa ai af))) af))) (aB ag (bo.m IM) .aj (aV ag (bH.m cR) B.len dJ (aa (aB aC ar .ag (aK (aa (bQ (aa ai (aa ai af))) af))) af)))) af))))))) bB.nd)
    (ah (aJ (i:=7) (aO ag bj (aB aC ar (ae (i:=7)) (jJ (Mf (aB aC ar (aO ag bj .ad ai) (aK (aa (bQ (aa ai (aa ai af))) af))) (aP (ih:=0) bu.mono GT (Y.mono .b) dT.m dT.F.kp dT.b (aa (aB aC ar (aV ag (bH.m cR) B.len dJ (aa (aO ag bj .ad ai) af)) ai) af))) bq (a_ ai))) .ao) bB.nd)
    (ah (aJ (i:=8) (aV aC fc B.sorted fh (aa (aB aC ar .ag (aK (aa (ae (i:=7)) af))) af)) bB.nd)
    (ah (aJ (i:=9) (aK (aa (aB aC ar (aB aC ar (jJ .ag bq (a_ .aj)) (aK (aa (ae (i:=7)) af))) (jJ .ag (a_ .aj) bq)) (aa (aB aC ar (aB aC ar (jJ .ag bq (a_ .aj)) (aK (aa (ae (i:=7)) af))) (jJ .ag (a_ (aB aC ar .aj ai)) bq)) (aa (ae (i:=8)) (aa (ae (i:=8)) af))))) bB.nd)
    (ah (aJ (i:=9) (aB aC ar (ae (i:=9)) (aK (aa (xT .ag) (aa (aB aC ar (jJ .ag bq (a_ .aj)) (jJ .ag (a_ (aB aC ar .aj ai)) bq)) (aa (aB aC ar (aB aC ar (jJ .ag bq (a_ .aj)) (xT (jJ .ag (a_ .aj) (a_ (aB aC ar .aj ai))))) (jJ .ag (a_ (aB aC ar .aj ai)) bq)) af))))) bB.nd)
    (ao (aS (aO ag bj (ae (i:=9)) .ao)))))))))))),λds R h=>?_⟩
 let {n,ps,ts,rfl,ok,hn,hl,O,q}:=h;refine{rfl,_,rfl,tv,_,rfl,tv,_,rfl,tv,rfl,tv,(ts.length:Int)+1,by rw[aan],.a,.a,λjy t0 t1=>?_}
 let {jy,rfl}:=adB t0;refine{rfl,_,rfl,tv,_,rfl,tv,_,rfl,tv,rfl,tv,(n:Int)+2,rfl,.a,.a,λa a0 a1=>{tv,_,rfl,?_}}
 refine{rfl,_,rfl,tv,_,rfl,tv,_,rfl,tv,rfl,tv,(n:Int)+2,rfl,.a,.a,λb b0 b1=>{tv,_,rfl,?_}}
 refine{rfl,tv,_,Ou,tv,rfl,tv,10 ^ 29,rfl,.a,.a,λCI f0 f1=>?_}
 generalize a-1=x;generalize b-1=y;have ed:∀(us:List .ae),us.length<=500->Cc (.lst (us.map kD)) (.lst [kD [0,1]])=M (.lst ((us++[[0,1]]).map kD)):=λus h=>jw (vs:=[[0,1]]) (by show _+1<=_;lia)
 have RC:(ts++[[0,1]]).length=ts.length+1:=by rw[aax];rfl
 obtain⟨o1,o2,eo⟩:∃o1 o2:Int,(ts++[[0,1]])[jy % (ts.length+1)]?=M [o1,o2]:=by
  have hm:jy % (ts.length+1)<(ts++[[0,1]]).length:=by rw[RC];exact adQ _ .a
  have p2:Pairs (ts++[[0,1]]):=λu L=>(aaT.mp L).elim (O u) λh=>{0,1,aaE.mp h};let {a,b,e}:=p2 _ (acd hm);exact{a,b,by rw[<- e];exact aav _}
 have em:Se (.int (jy:Int)) (.int ((ts.length+1:Nat):Int))=M (.int ((jy % (ts.length+1):Nat):Int)):=ω .a
 refine Ub ?_;refine(i3 (aL (λ_ r=>{_,rfl,tv,_,rfl,tv,nG,r}) tv (aL (λ_ r=>{_,rfl,tv,_,rfl,tv,nG,r}) tv (aL (λ_ r=>{_,rfl,tv,_,rfl,tv,nG,r}) tv (aL (λ_ r=>{_,rfl,tv,_,rfl,tv,nG,r}) tv (aL (λ_ r=>{_,rfl,rfl,tv,_,rfl,_,rfl,tv,_,rfl,tv,nG,r}) tv (aL (λ_ r=>{_,rfl,tv,tv,tv,nG,tv,AZ,_,ed ts .a,.inl {aE _,tv,_,rfl,tv,_,rfl,tv,tv,tv,nG,tv,AZ,_,ed ts .a,.inl {aE _,tv,_,F8 (by rw[aan,RC]),_,em,_,rS (d:=kD [o1,o2]) (i:=jy % (ts.length+1)) rfl (by rw[aaB,eo];rfl),r}}}) tv fZ)))))) (by show 6<=1000000;decide) (by intro _ z;exact .inr z)) _ ?_
 have hl2:((ps.map tI)++[[0,1]]).length=ps.length+1:=by rw[aax,aan];rfl
 rw[gW];refine{_,rfl,tv,_,rfl,tv,_,rfl,.inr {tv,tv,tv,nG,tv,AZ,_,ed _ (by rw[aan];have:=ok.sm;lia),.inl {aE _,tv,?_}}}
 refine{rfl,_,rfl,tv,_,rfl,.inr {tv,_,rfl,tv,_,rfl,tv,rfl,tv,(ps.length:Int)+1,by rw[aan,aan],.a,by have:=ok.sm;lia,λk k0 k1=>?_}}
 let {k,rfl}:=adB k0;have hk:k<((ps.map tI)++[[0,1]]).length:=by lia
 obtain⟨u,v,euv⟩:∃u v:Int,((ps.map tI)++[[0,1]])[k]'hk=[u,v]:=by
  have p2:Pairs ((ps.map tI)++[[0,1]]):=λu L=>(aaT.mp L).elim (λz=>by let {p,_x,rfl}:=abe.mp z;exact{_,_,rfl}) λh=>{0,1,aaE.mp h}
  exact p2 _ (acd hk)
 have es1:Hj (.lst (((ps.map tI)++[[0,1]]).map kD)) (M (k:Int)) ξ=M (.lst ((((ps.map tI)++[[0,1]]).drop k).map kD)):=by show M (D.lst (cutD _ _ _))=_;rw[fI]
 have Yc:Hj (.lst ((((ps.map tI)++[[0,1]]).drop k).map kD)) ξ (M 1)=M (.lst ([[u,v]].map kD)):=by
  rw[abh hk,euv];show M (D.lst (cutD _ _ (M ((1:Nat):Int))))=_;rw[wD];rfl
 refine{(k:Int),rfl,_,es1,.inl {aE _,_,rfl,_,Yc,.inl {aE _,_,jw (us:=[[x,y],[y,x],[x,x],[x,CI],[-1-CI,y],[o1,o2]]) (vs:=[[u,v]]) (by show 6+1<=_;decide),.inl {aE _,tv,?_}}}}
 refine{rfl,tv,rfl,tv,7,rfl,.b,.b,λr r0 r1=>?_}
 obtain⟨tx,ty,et⟩:∃p q:Int,qD (.lst (([[x,y],[y,x],[x,x],[x,CI],[-1-CI,y],[o1,o2]]++[[u,v]]).map kD)) (.int r)=M (kD [p,q]):=by
  rcases (show r=0\/r=1\/r=2\/r=3\/r=4\/r=5\/r=6 by lia)with rfl|rfl|rfl|rfl|rfl|rfl|rfl
  ·exact{_,_,rfl}
  ·exact{_,_,rfl}
  ·exact{_,_,rfl}
  ·exact{_,_,rfl}
  ·exact{_,_,rfl}
  ·exact{_,_,rfl}
  ·exact{_,_,rfl}
 refine{_,et,?_};have e1:Cc (.lst .ah) (.lst [kD [tx,ty]])=M (.lst ((ts++[[tx,ty]]).map kD)):=jw (vs:=[[tx,ty]]) (by show _+1<=_;lia)
 have hat:jy<=ts.length:=by lia
 have p2:Pairs (ts++[[tx,ty]]):=λu L=>(aaT.mp L).elim (O u) λh=>{tx,ty,aaE.mp h};refine{_,rfl,tv,_,rfl,tv,AZ,.inl {{(rfl),tv},_,e1,.inl {aE _,tv,_,gN (λk hk=>by let {x,y,rfl}:=p2 k hk;exact λz=>(by cases z)) (by rw[aax];show _+1<_;lia),.inl {aE _,?_}}}}
 have R5:Hj (.lst .ah) ξ (M (jy:Int))=M (.lst ((ts.take jy).map kD)):=by show M (D.lst (cutD _ _ _))=_;rw[wD]
 have Yb:Hj (.lst .ah) (M ((jy:Int)+1)) ξ=M (.lst ((ts.drop (jy+1)).map kD)):=by show M (D.lst (cutD _ _ _))=_;rw[show (jy:Int)+1=((jy+1:Nat):Int) by lia,fI]
 have ZL:Hj (.lst .ah) (M (jy:Int)) ξ=M (.lst ((ts.drop jy).map kD)):=by show M (D.lst (cutD _ _ _))=_;rw[fI]
 have ZK:Hj (.lst .ah) (M ((jy:Int)+2)) ξ=M (.lst ((ts.drop (jy+2)).map kD)):=by show M (D.lst (cutD _ _ _))=_;rw[show (jy:Int)+2=((jy+2:Nat):Int) by lia,fI]
 obtain⟨mv,esM,lm,pm,lm2⟩:∃mv,Hj (.lst (ts.map kD)) (M (jy:Int)) (M ((jy:Int)+2))=M (.lst (mv.map kD))/\mv.length<=2/\Pairs mv/\mv.length<=ts.length:=by
  refine{(ts.drop (min jy ts.length)).take (min (jy+2) ts.length-min jy ts.length),?_,?_,λu L=>O u (ade (List.mem_of_mem_take L)),?_}
  ·show M (D.lst (cutD _ _ _))=_;unfold cutD;rw[show (jy:Int)+2=((jy+2:Nat):Int) by lia,HT.nM,HT.nM,aan,aex,aey]
  ·rw[aa4,abM];lia
  ·rw[aa4,abM];lia
 have er:Ot (.lst .ah)=M (.lst (ts.reverse.map kD)):=by show M (D.lst _)=_;rw[List.map_reverse]
 have erM:Ot (.lst (mv.map kD))=M (.lst (mv.reverse.map kD)):=by show M (D.lst _)=_;rw[List.map_reverse]
 generalize hA:ts.take jy=av at R5;generalize hB:ts.drop (jy+1)=bv at Yb;generalize hC:ts.drop jy=cv at ZL;generalize hD:ts.drop (jy+2)=dv at ZK;have la:av.length=jy:=by rw[<- hA,aa4];lia
 have lb:bv.length=ts.length-(jy+1):=by rw[<- hB,abM]
 have lc:cv.length=ts.length-jy:=by rw[<- hC,abM]
 have ld:dv.length=ts.length-(jy+2):=by rw[<- hD,abM]
 have pa:Pairs av:=λu L=>O u (by rw[<- hA]at L;exact List.mem_of_mem_take L)
 have pb:Pairs bv:=λu L=>O u (by rw[<- hB]at L;exact ade L)
 have pc:Pairs cv:=λu L=>O u (by rw[<- hC]at L;exact ade L)
 have pd:Pairs dv:=λu L=>O u (by rw[<- hD]at L;exact ade L)
 have p1:∀x y,Pairs [[x,y]]:=λx y u L=>{x,y,aaE.mp L};have ap:∀{u v:List .ae},Pairs u->Pairs v->Pairs (u++v):=λa b w hw=>(aaT.mp hw).elim (a w) (b w);have ad:∀(u v:List .ae),u.length<=1000->v.length<=1000->Cc (.lst (u.map kD)) (.lst (v.map kD))=M (.lst ((u++v).map kD)):=λu v a b=>jw .a
 have l1:∀u:List .ae,u.length<=500->∀x,(u++[x]).length<=1000:=λu h x=>by rw[aax];show _+1<=_;lia
 refine Ub ?_;refine(i3 (aL (λ_ r=>{_,rfl,_,rfl,_,rfl,_,R5,.inl {aE _,tv,_,rfl,tv,AZ,.inl {{(rfl),tv},_,ad av [[tx,ty]] .a (by show 1<=_;decide),.inl {aE _,tv,_,rfl,_,rfl,_,rfl,_,ZL,.inl {aE _,_,ad _ cv (l1 av .a _) .a,.inl {aE _,r}}}}}}) tv (aL (λ_ r=>{_,rfl,_,rfl,_,rfl,_,R5,.inl {aE _,tv,_,rfl,tv,AZ,.inl {{(rfl),tv},_,ad av [[tx,ty]] .a (by show 1<=_;decide),.inl {aE _,tv,_,rfl,_,rfl,tv,_,rfl,_,rfl,_,Yb,.inl {aE _,_,ad _ bv (l1 av .a _) .a,.inl {aE _,r}}}}}}) tv (aL (λ_ r=>{_,rfl,r}) tv (aL (λ_ r=>{_,rfl,r}) tv fZ)))) (by show 4<=1000000;decide) (by intro _ z;exact .inr z)) _ ?_
 refine{_,rfl,tv,(i3 (aL (λ_ r=>{_,rfl,_,er,.inl {aE _,r}}) tv (aL (λ_ r=>{_,rfl,_,rfl,_,rfl,_,R5,.inl {aE _,tv,_,rfl,_,rfl,tv,_,rfl,_,rfl,_,Yb,.inl {aE _,_,ad av bv .a .a,.inl {aE _,r}}}}) tv (aL (λ_ r=>{_,rfl,_,rfl,_,rfl,_,R5,.inl {aE _,tv,_,rfl,_,rfl,_,rfl,_,rfl,tv,_,rfl,_,rfl,_,esM,.inl {aE _,_,erM,.inl {aE _,_,ad av _ .a (by rw[ab2];lia),.inl {aE _,tv,_,rfl,_,rfl,tv,_,rfl,_,rfl,_,ZK,.inl {aE _,_,ad _ dv (by rw[aax,ab2];lia) .a,.inl {aE _,r}}}}}}}) tv fZ))) (by show 3<=1000000;decide) (by intro _ z;exact z)) _ {_,eJ (by show 4+3<=_;decide),.inr ?_}}
 refine{_,rfl,tv,rfl,tv,rfl,tv,7,rfl,.b,.b,λr r0 r1=>?_}
 have fin:∃us,Pairs us/\us.length<=42/\qD (.lst ([.lst ((av++[[tx,ty]]++cv).map kD),.lst ((av++[[tx,ty]]++bv).map kD),.lst ((jC (ts++[[tx,ty]])).map kD),.lst ((jC (ts++[[tx,ty]])).map kD)]++[.lst (ts.reverse.map kD),.lst ((av++bv).map kD),.lst ((av++mv.reverse++dv).map kD)])) (.int r)=M (.lst (us.map kD)):=by
  have es:(jC (ts++[[tx,ty]])).length<=42:=by rw[(cz _).length_eq,aax];show _+1<=_;lia
  have YS:Pairs (jC (ts++[[tx,ty]])):=λu L=>p2 u ((cz _).mem_iff.mp L);rcases (show r=0\/r=1\/r=2\/r=3\/r=4\/r=5\/r=6 by lia)with rfl|rfl|rfl|rfl|rfl|rfl|rfl
  ·exact{_,ap (ap pa (p1 _ _)) pc,by rw[aax,aax];show _+1+_<=_;lia,rfl}
  ·exact{_,ap (ap pa (p1 _ _)) pb,by rw[aax,aax];show _+1+_<=_;lia,rfl}
  ·exact{_,YS,es,rfl}
  ·exact{_,YS,es,rfl}
  ·exact{_,λu L=>O u (aeI.mp L),by rw[ab2];lia,rfl}
  ·exact{_,ap pa pb,by rw[aax];lia,rfl}
  ·exact{_,ap (ap pa λu L=>pm u (aeI.mp L)) pd,by rw[aax,aax,ab2];lia,rfl}
 let {us,pu,lu,eu}:=fin;exact{_,eu,.inr {tv,rfl,q us pu lu}}
def fP:aH ["text","waiting","sign"] ["text"] (ak gR):=mkS
def IV {JU An}(Pq:ZX K mg JU An)(B:Bs3 mg):aG P w K mg base bP 1 JU An ["text"] (dz P w G we):=by
 refine qt Pq.F fP (λds R Wg=> by obtain⟨cs,e,_⟩ := Wg;subst e;rfl) λbD A outer s H E hr=>⟨_,(ah (aJ (i:=1) ai fP.nd)
    (ah (cf abo rfl (Ie .af) (aq (i:=2) fP.nd) (ah (aJ (i:=1) (aB aC ar .ad (Bp rfl rfl .g rfl rfl (λz=>nomatch z) .b (aa .ag (aa (rJ i8 ai) af)))) fP.nd)
    (ao (cn (aF ag (bo.m cg) .ad ai) (ao (aS zE)) bx))))
    (ao (aS (f9 ag (bo.m (dC hr.units)) .ad ai))))),λds R h=>?_⟩
 let {cs,rfl,asc,hl,q}:=h;refine{_,rfl,_,rfl,vC asc,tv,?_};rw[Dt];refine FK (λi β=>∃(O:Option Q.B) (v:Int),β=[M (.val η (.str (bS cs))),M (.val G (.int v)),O]/\fL v (cs.drop i)=fL 0 cs/\-2000<=v/\v<=i/\i<=cs.length) {_,0,rfl,rfl,.a,.a,aaJ _} (λE1 r1 i n1 d β hd Y=>?_) λβ Y=>?_
 ·let {O,v,rfl,L,h2,h3,h4}:=Y;rw[aaB]at hd;let {c,hc,rfl}:=aaK.mp hd;let {hi,ec}:=aay.mp hc;rw[abh hi,ec,fL]at L;have hs:-1000<=A_ c/\A_ c<=1:=by
   unfold A_
   split
   ·lia
   ·split <;> lia
  refine{_,rfl,tv,_,rfl,tv,_,rfl,rfl,tv,eK c,-1000,A_ c,rfl,LH c,_,rfl,?_};refine{_,rfl,tv,_,rfl,_,rfl,lL (λz=>{tv,r1 _ _ ?_}) λz=>?_}
  ·rw[ω z]at L;show R (.bl η);rw[L];exact q
  ·rw[Δ z]at L;exact n1 _ {_,_,rfl,L,.a,.a,.a}
 ·let {O,v,rfl,L,h2,h3,h4}:=Y;rw[aan]at L h3 h4;rw[List.drop_length]at L;rw[<- L]at q;exact{_,rfl,tv,_,b8 _ _,tv,q}
abbrev Pa:Str:=" !\"#$&'*+,-./0123456789:;<=>?@ABCDEFGHIJKLMNOPQRSTUVWXYZ[\\]^_`abcdefghijklmnopqrstuvwxyz{|}~\n"
def tL:Pa.length=93:=by decide +kernel
def IH:k_ Pa:=by unfold k_;decide +kernel
def QB:F9 [.str Pa]=M (.int 93):=by
 show (if Pa.length<1000000 then M (D.int Pa.length) else ξ)=_
 rw[tL];rfl
def FT:FD:=λds R=>∃cs:List Nat,ds=[.str (bS cs)]/\(∀c∈cs,c<128)/\cs.length<=20/\∀us:List Nat,(∀c∈us,c<128)->us.length<60->R (.str (bS us))
def FT.mono:cH FT:=λds R R' k cO=>by let {m,e,O,L,q}:=cO;exact{m,e,O,L,λcs a b=>k _ (q cs a b)}
def FR:FD:=λds R=>∃m:Int,ds=[.int m]/\0<=m/\m<=20/\∀cs:List Nat,(∀c∈cs,c=40\/c=41)->(cs.length:Int)<=2*m->R (.str (bS cs))
def FR.mono:cH FR:=λds R R' k lh=>by let {m,e,O,L,q}:=lh;exact{m,e,O,L,λcs a b=>k _ (q cs a b)}
def a9:aH ["pot","most","many","text","waiting","left","k"] ["pot","most"] (ak fR):=mkS
def MC {JS Al}(Po:ZW K mg JS Al){B6 mz}(dT:D1 K mg B6 mz)(B:Bs mg):aG P w K mg base bP 2 JS Al ["pot","most"] (fJ P w kR G FR):=by
 have GT:aG P w K mg base bP 1 _ _ _ (fJ P w kR G bu):=gZ dT.F;refine BB Po.F a9 (λds R Wf=> by obtain⟨n,e,_⟩ := Wf;subst e;rfl) λbD A outer s H E IO L=>⟨_,(ah (aJ (i:=2) (aP (ih:=0) bu.mono GT (L.mono .b) dT.m dT.F.kp dT.b (aa (aB aC ar .ad ai) af)) a9.nd)
    (ah (aJ (i:=3) cE a9.nd)
    (ah (aJ (i:=4) ai a9.nd)
    (ah (aJ (i:=5) .ag a9.nd)
    (ah (cf abo rfl (aU B.range (aa (aB ag (bo.m tN) ai .ag) af)) (aq (i:=6) a9.nd) (ao (cn (rh.t (lZ (aF ag (bo.m (dC L.units)) (ae (i:=4)) ai) (jk (rh.t (gX (aF ag (bo.m l8) (ae (i:=5)) ai) (fx (aF ag (bo.m (dC L.units)) (aP (ih:=0) bu.mono GT (L.mono .b) dT.m dT.F.kp dT.b (aa ai af)) ai))))))) (ah (aJ (i:=3) (aB ag (bo.m eI) .aj cE) a9.nd)
    (ah (aJ (i:=4) (aB aC ar (ae (i:=4)) ai) a9.nd)
    (ao (aJ (i:=5) (aB ag (bo.m bI) (ae (i:=5)) ai) a9.nd)))) (ah (aJ (i:=3) (aB ag (bo.m eI) .aj cE) a9.nd)
    (ao (aJ (i:=4) (aB ag (bo.m bI) (ae (i:=4)) ai) a9.nd))))))
    (ao (aS .aj))))))),λds R h=>?_⟩
 let {m,rfl,m0,m1,q}:=h;refine{rfl,_,rfl,tv,_,rfl,tv,rfl,tv,m+1,rfl,.a,.a,λn n0 n1=>?_}
 refine{_,rfl,tv,_,rfl,_,J7 (.inl {.a,.a}),tv,2*n,rfl,.a,.a,tv,?_}
 refine{λi β=>∃(cs:List Nat) (wt lf:Int) (Y:Option Q.B),β=[M (.hand kR),M (.val η (.int m)),M (.val G (.int n)),M (.val G (.str (bS cs))),M (.val G (.int wt)),M (.val G (.int lf)),Y]/\(∀c∈cs,c=40\/c=41)/\cs.length=i,{[],_,_,_,rfl,λ_ z=>.au,rfl},?_,?_}
 ·rintro i d β hd ⟨cs,wt,lf,Y,rfl,h1,O⟩;let {hi,rfl}:=c5 hd;have e40:wC (.str (bS cs)) (.str "(")=M (.str (bS (cs++[40]))):=by rw[Gr];exact qg (b:=[40]) (by simp;lia)
  have e41:wC (.str (bS cs)) (.str ")")=M (.str (bS (cs++[41]))):=by rw[Gq];exact qg (b:=[41]) (by simp;lia)
  have in1:∀x:Nat,x=40\/x=41->∀c∈cs++[x],c=40\/c=41:=λx hx c hc=>by
   rcases aaT.mp hc with z|z
   ·exact h1 c z
   ·rw[aaE.mp z];exact hx
  refine(λ(YW:_) (cls:_)=>{_,rfl,tv,_,b8 _ _,_,rfl,lL (λ_=>ur rfl YW) (λ_=>{_,rfl,tv,_,rfl,_,rfl,lL (λ_=>{rfl,tv,rfl,tv,2,rfl,.a,.a,λr r0 r1=>{tv,_,b8 _ _,_,rfl,lL (λ_=>YW) (λ_=>cls)}}) (λ_=>jW rfl cls)})}) ?_ ?_
  ·exact{_,rfl,tv,_,e40,_,rfl,tv,_,rfl,_,rfl,tv,_,rfl,cs++[40],wt+1,lf-1,_,rfl,in1 40 (.inl rfl),by simp[O]}
  ·exact{_,rfl,tv,_,e41,_,rfl,tv,_,rfl,cs++[41],wt-1,lf,_,rfl,in1 41 (.inr rfl),by simp[O]}
 ·rintro β ⟨cs,wt,lf,Y,rfl,h1,O⟩;rw[cZ]at O;exact{_,rfl,tv,rfl,q cs h1 .a}
def bw:aH ["pot","shape","at","other","sign","less","some"] ["pot","shape"] (ak cK):=mkS
def MD {JQ Aj}(Pm:ZV K mg JQ Aj){B6 mz}(dT:D1 K mg B6 mz)(B:Bs mg):aG P w K mg base bP 2 JQ Aj ["pot","shape"] (fJ P w kR G FT):=by
 have GT:aG P w K mg base bP 1 _ _ _ (fJ P w kR G bu):=gZ dT.F;refine BB Pm.F bw (λds R We=> by obtain⟨n,e,_⟩ := We;subst e;rfl) λbD A outer s H E IO L=>⟨_,(ah (aJ (i:=2) (aP (ih:=0) bu.mono GT (L.mono .b) dT.m dT.F.kp dT.b (aa (aB aC ar (aV ag (bH.m h_) B.len dJ (aa .ad af)) ai) af)) bw.nd)
    (ah (aJ (i:=3) cE bw.nd)
    (ah (aJ (i:=4) (aO ag bj (aK (aa cE (aa cE (aa (aO ag Jh .aj (aP (ih:=0) bu.mono GT (L.mono .b) dT.m dT.F.kp dT.b (aa (aV ag (bH.m h_) B.len dJ (aa .aj af)) af))) af)))) (aP (ih:=0) bu.mono GT (L.mono .b) dT.m dT.F.kp dT.b (aa ai af))) bw.nd)
    (ah (aJ (i:=5) (aB ag (bo.m eI) (iL .ad bq (a_ .ag)) (iL .ad (a_ (aB aC ar .ag ai)) bq)) bw.nd)
    (ah (aJ (i:=6) (aK (aa (aB ag (bo.m eI) (aB ag (bo.m eI) (iL .ad bq (a_ .ag)) (ae (i:=4))) (iL .ad (a_ .ag) bq)) (aa (aB ag (bo.m eI) (aB ag (bo.m eI) (iL .ad bq (a_ .ag)) (ae (i:=4))) (iL .ad (a_ (aB aC ar .ag ai)) bq)) (aa (ae (i:=5)) (aa (Ih .ad) af))))) bw.nd)
    (ao (aS (aO ag bj (aB aC ar (ae (i:=6)) (aK (aa .ad (aa (aB ag (bo.m eI) (iL .ad (a_ ai) bq) (iL .ad bq (a_ ai))) af)))) (aP (ih:=0) bu.mono GT (L.mono .b) dT.m dT.F.kp dT.b (aa ai af)))))))))),λds R h=>?_⟩
 let {cs,rfl,asc,hl,q}:=h;refine{rfl,_,rfl,tv,_,qd .a,tv,_,rfl,tv,rfl,tv,(cs.length:Int)+1,rfl,.a,.a,λi i0 i1=>?_}
 refine{tv,tv,_,rfl,tv,rfl,_,rfl,tv,_,QB,tv,rfl,tv,93,rfl,.a,.a,λr r0 r1=>?_}
 let {c,hc,ec}:=Ji (x:=Pa) (r:=r) IH (by rw[tL];decide) r0 (by rw[tL];exact r1)
 refine{_,ec,tv,O8,tv,rfl,tv,rfl,tv,3,rfl,.a,.a,λj j0 j1=>pick j0 (by simpa using j1) λd hd=>?_}
 obtain⟨k,hk,rfl⟩:∃k,k<128/\d=.str (eK k):=by
  simp only[aat,aaQ,or_false]at hd;rcases hd with rfl|rfl|rfl
  ·exact{40,.b,by rw[Gr]}
  ·exact{41,.b,by rw[Gq]}
  ·exact{(c),hc,rfl}
 have le:∀lo hi,(jG cs lo hi).length<=20:=λlo hi=>aa3 AB hl;have sb:∀lo hi,∀c∈jG cs lo hi,c<128:=λlo hi c hc=>asc c (Gj c hc);have sl:∀lo hi,J3 (.str (bS cs)) lo hi=M (.str (bS (jG cs lo hi))):=λlo hi=>J1 .a
 have ad:∀a b:List Nat,a.length<=200->b.length<=20->wC (.str (bS a)) (.str (bS b))=M (.str (bS (a++b))):=λa b h1 h2=>qg .a
 refine{_,rfl,_,rfl,i,rfl,_,sl _ _,tv,_,rfl,_,rfl,tv,_,rfl,_,rfl,_,sl _ _,_,ad _ _ (by have:=le ξ (M i);lia) (le _ _),?_}
 refine Ub ?_;refine(i3 (aL (λ_ r=>{_,rfl,_,rfl,i,rfl,_,sl _ _,tv,_,rfl,_,ad _ [k] (by have:=le ξ (M i);lia) .c,tv,_,rfl,_,rfl,i,rfl,_,sl _ _,_,ad _ _ (by have:=le ξ (M i);simp;lia) (le _ _),r}) tv (aL (λ_ r=>{_,rfl,_,rfl,i,rfl,_,sl _ _,tv,_,rfl,_,ad _ [k] (by have:=le ξ (M i);lia) .c,tv,_,rfl,_,rfl,tv,_,rfl,_,rfl,_,sl _ _,_,ad _ _ (by have:=le ξ (M i);simp;lia) (le _ _),r}) tv (aL (λ_ r=>{_,rfl,r}) tv (aL (λ_ r=>{_,rfl,cs,rfl,.a,r}) tv fZ)))) (by show 4<=1000000;decide) (by intro _ z;exact z)) _ ?_
 refine{_,rfl,tv,(i3 (aL (λ_ r=>{_,rfl,r}) tv (aL (λ_ r=>{_,rfl,1,rfl,_,sl _ _,tv,_,rfl,1,rfl,_,sl _ _,_,ad _ _ (by have:=le (M 1) ξ;lia) (le _ _),r}) tv fZ)) (by show 2<=1000000;decide) (by intro _ z;exact z)) _ ?_}
 refine{_,eJ .c,.inl {rfl,tv,rfl,tv,rfl,tv,6,rfl,.a,.a,λy Y O=>pick Y (by simpa using O) λd hd=>?_}}
 have ap:∀a b:List Nat,(∀c∈a,c<128)->(∀c∈b,c<128)->∀c∈a++b,c<128:=λa b ha hb c hc=>(aaT.mp hc).elim (ha c) (hb c);have k1:∀c∈[k],c<128:=λc hc=>by rw[aaE.mp hc];exact hk
 have ln:∀a b:List Nat,(a++b).length=a.length+b.length:=λa b=>aax;have kl:[k].length=1:=rfl;obtain⟨us,hu,hlen,rfl⟩:∃us:List Nat,(∀c∈us,c<128)/\us.length<60/\d=.str (bS us):=by
  simp only[List.cons_append,List.nil_append,aat,aaQ,or_false]at hd;have l1:=le ξ (M i);have l2:=le (M i) ξ;have l3:=le (M (i+1)) ξ;have l4:=le (M 1) ξ;have l5:=le ξ (M 1);rcases hd with rfl|rfl|rfl|rfl|rfl|rfl
  ·exact{_,ap _ _ (ap _ _ (sb _ _) k1) (sb _ _),by rw[ln,ln,kl];lia,rfl}
  ·exact{_,ap _ _ (ap _ _ (sb _ _) k1) (sb _ _),by rw[ln,ln,kl];lia,rfl}
  ·exact{_,ap _ _ (sb _ _) (sb _ _),by rw[ln];lia,rfl}
  ·exact{_,λc hc=>asc c (aeI.mp hc),by rw[ab2];lia,rfl}
  ·exact{cs,asc,.a,rfl}
  ·exact{_,ap _ _ (sb _ _) (sb _ _),by rw[ln];lia,rfl}
 exact{tv,rfl,q us hu hlen}
section
variable {c0:Nat->μ}
def eO:aH ["script","cell","pot","row","ties","again","some","due","handed","told","shape"] ["script"] (ak oQ):=mkS
def Dn (K:Ψ):Sp:=λvs H Q _=>∃(a:μ) (ns:List Int),vs=[.ref a]/\dw K H a (ns.map V.int)/\ns.length<=63/\∀H',Q (.bl G) H'
def JL (β:Q.a8):Prop:=∃y0 y1 y2 y3 y4 y5 y6 Y O L Lo:Option Q.B,β=[y0,y1,y2,y3,y4,y5,y6,Y,O,L,Lo]
def MI (F:AO K "law" "law" oQ f fd)(B4:Ll mg)(bV:mg "ValueError" = ξ)(ZA:XA K mg cA c0){JR Ak}(J4:Z0 K mg JR Ak){B8 sr}(Lb:YA K mg B8 sr){qY lC}(Gi:T1 K mg qY lC){lD gG}(qf:PC K mg lD gG){iY eW}(sD:TZ K mg iY eW){fM c9}(d_:Hr K mg fM c9){qX lB}(F6:TY K mg qX lB){qZ jK}(CJ:SO K mg qZ jK){da bE}(d6:y_ K mg da bE){jL c_}(dE:xj K mg jL c_){jr cP}(dO:xb K mg jr cP){iD cw}(dF:D9 K mg iD cw){ip b_}(dS:D8 K mg ip b_){il b9}(dX:D7 K mg il b9){pP mB}(wA:YB K mg pP mB){v8 m9}(Hm:D3 K mg v8 m9){vY mZ}(Hk:D5 K mg vY mZ){v7 m8}(Hl:D6 K mg v7 m8){Oh FP}(Yi:D4 K mg Oh FP){fdP X7}(dP:D31 K mg fdP X7){B6 mz}(dT:D1 K mg B6 mz){B7 sj}(K_:D0 K mg B7 sj){Tv JO}(dR:D2 K mg Tv JO){JW Aq}(Pr:Z3 K mg JW Aq){vZ m7}(Ay:T3 K mg vZ m7){JP Ai}(Pl:Z2 K mg JP Ai){JV Ao}(Kc:Z1 K mg JV Ao){JU An}(Pq:ZX K mg JU An){JT Am}(Pp:ZZ K mg JT Am){JX Ar}(Pt:ZY K mg JX Ar){JS Al}(Po:ZW K mg JS Al){JQ Aj}(Pm:ZV K mg JQ Aj):aG P w K mg base bP 12 f fd ["script"] (Dn K):=by
 have B:=B4.toBs2;have GP:aG P w K mg base bP 1 _ _ _ (dz P w G FU):=MG dP.F B.toBs;have GT:aG P w K mg base bP 1 _ _ _ (fJ P w kR G bu):=gZ dT.F;have GR:aG P w K mg base bP 3 _ _ _ (fJ P w kR G wb):=MF dR dT K_ B.toBs;have GSe:aG P w K mg base bP 2 _ _ _ (fJ P w kR G v_):=ME Pl dT Ay B.toBs;have GCo:aG P w K mg base bP 1 _ _ _ (dz P w G pW):=BA Pr B.toBs;have ZT:aG P w K mg base bP 1 _ _ _ (dz P w G B9):=MK Kc B4.toBs3;have GFi:aG P w K mg base bP 1 _ _ _ (dz P w G we):=IV Pq B4.toBs3;have GIs:aG P w K mg base bP 2 _ _ _ (dz P w G FV):=MJ Pp Ay B;have GBe:aG P w K mg base bP 2 _ _ _ (fJ P w kR η wg):=IW Pt dT B;have GLs:aG P w K mg base bP 2 _ _ _ (fJ P w kR G FR):=MC Po dT B.toBs;have GSb:aG P w K mg base bP 2 _ _ _ (fJ P w kR G FT):=MD Pm dT B.toBs;have ZS:aG P w K mg base bP 9 _ _ _ (dz P w G sv):=IT J4 Lb Gi qf sD d_ F6 CJ d6 dE dO dF dS dX wA Hm Hk Hl Yi B4 bV ZA;refine F.ok eO (λvs H Q E h=>?_) (λbD A outer s H vs Qk E L h=>?_)
 ·let {a,ns,rfl,_x}:=h;rfl
 ·let {a,ns,rfl,hS,hlen,k}:=h;have Xz:∀b:μ,¬ (λ_=>False) b:=λb z=>z;obtain⟨ψ,hb,hψ⟩:∃ψ,Q.qE (mG bP P w K mg base _ "law" (ak oQ) f bD A outer s H E).qu {H,λ_=>False,G,λ_=>False} (match (dI oQ)with | .For _ _ b _ _::_=>b|_=>[]) ψ /\
    ∀(c:Int) (x0 x2 x3 x4 x5 x6 x7 x8 x9 YE:Option Q.B),ψ {nx:=JL,rt:=λd _=>d=.bl G,bk:=JL,ct:=JL} [x0,M (.val G (.int c)),x2,x3,x4,x5,x6,x7,x8,x9,YE]:=by
   refine⟨_,(ah (IA (i:=2) kR Xz (λ_=>(aX FU.mono GP (L.mono .b) dP.m dP.F.kp dP.b (aa .ad af))) eO.nd)
    (ah (aJ (i:=3) (aP (ih:=2) wb.mono GR (L.mono .b) dR.m dR.F.kp dR.b af) eO.nd)
    (ah (aJ (i:=4) (aP (ih:=2) v_.mono GSe (L.mono .b) Pl.m Pl.F.kp Pl.b (aa .aj af)) eO.nd)
    (ao (cf abo rfl (aU B.range (aa ai af)) (aq (i:=5) eO.nd) (ah (aJ (i:=6) (aP (ih:=2) wg.mono GBe (L.mono .b) Pt.m Pt.F.kp Pt.b (aa .aj (aa (ae (i:=4)) af))) eO.nd)
    (ah (aJ (i:=7) (aO ag bj (aK (aa (aX B9.mono ZT (L.mono .b) Kc.m Kc.F.kp Kc.b (aa ai af)) (aa (aK af) af))) (d3 ag (bH.m mH) B.int yR (aa (aX FV.mono GIs (L.mono .b) Pp.m Pp.F.kp Pp.b (aa .aj (aa (ae (i:=6)) af))) af))) eO.nd)
    (ah (aJ (i:=8) (aK (aa (aX pW.mono GCo (L.mono .b) Pr.m Pr.F.kp Pr.b (aa .aj af)) (aa (d3 aC i6 B.list n_ (aa (ae (i:=6)) af)) af))) eO.nd)
    (ah (xM (i:=9) η ["way","handed"] [ξ,M 8] .i (by decide:(["way","handed"]:List Str).Nodup) rfl (λ_=>(aU B.range (aa ai af))) (λ_ _ _ _ _ _=>(aq (i:=0) (by decide:(["way","handed"]:List Str).Nodup))) (λ_ _ _ _ _ _=>dU) (λ_ _ _ _ _ _=>(aX sv.mono ZS (L.mono .b) J4.m J4.F.kp J4.b (aa .af (aa (aO ag bj .ad ai) (aa (aO ag bj .ad ai) af))))) eO.nd)
    (ah (cn (rh.t (lZ (aF ag (bo.m (fy L.units)) (ae (i:=9)) (aB aC El (aK (aa (ae (i:=7)) af)) ai)) (jk (aF ag (bo.m (fy L.units)) (ae (i:=8)) (aK (aa .aj (aa (ae (i:=6)) af))))))) (ao (aS zE)) bx)
    (ah (aJ (i:=10) (aP (ih:=2) FT.mono GSb (L.mono .b) Pm.m Pm.F.kp Pm.b (aa (aP (ih:=2) FR.mono GLs (L.mono .b) Po.m Po.F.kp Po.b (aa ai af)) af)) eO.nd)
    (ah (aJ (i:=7) (aO ag bj (aK (aa (aX B9.mono ZT (L.mono .b) Kc.m Kc.F.kp Kc.b (aa ai af)) (aa (aK af) af))) (d3 ag (bH.m mH) B.int yR (aa (aX we.mono GFi (L.mono .b) Pq.m Pq.F.kp Pq.b (aa (ae (i:=10)) af)) af))) eO.nd)
    (ao (cn (rh.t (lZ (aF ag (bo.m (fy L.units)) (aX sv.mono ZS (L.mono .b) J4.m J4.F.kp J4.b (aa ai (aa (aO ag bj (ae (i:=8)) ai) (aa (ae (i:=10)) af)))) (ae (i:=7))) (jk (aF ag (bo.m (fy L.units)) (aO ag bj (ae (i:=8)) ai) .aj)))) (ao (aS zE)) bx)))))))))))))),λc x0 x2 x3 x4 x5 x6 x7 x8 x9 YE=>?_⟩
   refine{_,rfl,tv,c,rfl,λns hk=>{tv,(by show 2<11;decide),ns,rfl,hk,?_}}
   refine{rfl,rfl,tv,rfl,λm rows m0 m1 hl tr nd=>?_};refine{rfl,_,rfl,tv,rfl,tv,m,rows,rfl,tr,m1,hl,λts hg lt=>?_};let {n,ps,ok,em,er,erw}:=HV m0 .a hl tr nd
   subst em er;have hn:n<=40:=by lia
   have pt:Pairs ts:=λt ht=>by
    let {a,b,e,_x}:=tr t (hg t ht);exact{(a),b,e}
   refine{tv,6,rfl,.b,.b,tv,?_}
   refine FK (λ_ β=>∃y5 y6 y7 y8 y9 Lo:Option Q.B,β=[x0,M (.val G (.int c)),M (.hand kR),M (.val G (f7 (n:Int) (ps.map tI))),M (.val G (.lst .ah)),y5,y6,y7,y8,y9,Lo]) {_,_,_,_,_,_,rfl} (λE1 r1 i n1 d β hd hv=>?_) λβ hv=>?_
   ·let {y5,y6,y7,y8,y9,Lo,rfl}:=hv;let {_x,rfl}:=c5 hd;refine{rfl,_,rfl,tv,_,rfl,tv,rfl,tv,n,ps,ts,by rw[gW],ok,hn,lt,pt,λus pu lu=>?_}
    refine{tv,2,rfl,tv,aaJ _,tv,nG,tv,_,rfl,tv,_,rfl,tv,n,ps,us,by rw[gW],ok,.a,pu,λb hb=>?_}
    obtain⟨j,ej,dl,e1,g1,g2⟩:∃j,OB [.bl b]=M (.int j)/\∃dl:List Bool,qD (.lst [.lst ((Oq 2).map D.bl),.lst []]) (.int j)=M (.lst (dl.map D.bl))/\(Good (ps.map tI) us->dl=[])/\(¬ Good (ps.map tI) us->dl=JN 5):=by
     cases b with
     |false=>exact{0,rfl,Oq 2,rfl,λz=>Κ (hb.mpr z) .b,λ_=>.b}
     |true=>exact{1,rfl,[],rfl,λ_=>rfl,λz=>Κ (hb.mp rfl) z}
    refine{tv,_,ej,_,e1,.inr ?_};refine{_,rfl,tv,(n:Int),ps.map tI,rfl,tv,_,rfl,tv,_,rfl,.inl {aE _,tv,nG,?_}};refine{tv,5,rfl,.b,.b,tv,fA (l:=aaA 5) (f:=λk:Nat=>D.int (0+(k:Int))) (λ_=>G) (λ_=>.lst (dl.map D.bl)) tv .b (λk hk z0 o J ho j1 _=>?_) ?_}
    ·have hk:=aa2.mp hk;refine{_,rfl,tv,_,rfl,tv,_,rfl,tv,_,rfl,tv,_,rfl,.inr {tv,.inl {0+(k:Int),n,ps,us,by rw[gW],.a,.a,ok,hn,.a,pu,λfl f1 f2=>?_}}}
     have e:fl=dl:=by
      by_cases z:Good (ps.map tI) us
      ·rw[f1 z,g1 z]
      ·rw[f2 z,g2 z]
     subst e;exact{tv,ho,j1 rfl _}
    have er:R_ (.lst [.lst (dl.map D.bl)]) (.int 5)=M (.lst (aaR 5 [D.lst (dl.map D.bl)]).flatten):=rfl;have O9:(D.lst (aaR 5 [D.lst (dl.map D.bl)]).flatten).pd.canLay0=G/\(D.lst (aaR 5 [D.lst (dl.map D.bl)]).flatten).pd.depth<=5:=gk λd hd=>by
     let {l,hl,hd}:=List.mem_flatten.mp hd;rw[(List.mem_replicate.mp hl).2]at hd;rw[aaE.mp hd];exact rC _
    refine{_,rfl,tv,_,rfl,tv,AZ,.inr {tv,_,er,.inr {_,lG O9,_,rfl,jW rfl ?_}}};refine{_,rfl,tv,_,rfl,tv,_,rfl,tv,nG,.inr {_,lG (xF (n:Int) (ps.map tI) us),_,rfl,jW rfl ?_}};refine{rfl,rfl,tv,rfl,tv,6,rfl,.b,.b,λcs0 c0s l0=>?_}
    refine{tv,rfl,tv,cs0,rfl,(λx hx=>by rcases c0s x hx with h|h <;> lia),.a,λcs ca cl=>?_}
    obtain⟨j2,ej2,dl2,e2,g3⟩:∃j,OB [.bl (fL 0 cs)]=M (.int j)/\∃dl:List Bool,qD (.lst [.lst ((Oq 3).map D.bl),.lst []]) (.int j)=M (.lst (dl.map D.bl))/\dl=(match fL 0 cs with|true=>[]|false=>JN 8):=by
     cases fL 0 cs with
     |false=>exact{0,rfl,Oq 3,rfl,.b}
     |true=>exact{1,rfl,[],rfl,rfl}
    refine{tv,3,rfl,tv,aaJ _,tv,nG,tv,_,rfl,tv,cs,rfl,ca,.a,tv,_,ej2,_,e2,.inr ?_}
    refine{tv,_,rfl,tv,_,rfl,tv,_,rfl,tv,.inr {n,ps,cs,by rw[gW],ok,hn,ca,cl,λfl f=>?_}}
    have e:fl=dl2:=f.trans g3.symm;subst e;refine{tv,_,rfl,_,lG (rC _),_,rfl,jW rfl ?_};exact{_,rfl,tv,_,rfl,tv,_,rfl,_,lG (rB (n:Int) (ps.map tI)),_,rfl,jW rfl (n1 _ {_,_,_,_,_,_,rfl})}
   ·let {y5,y6,y7,y8,y9,Lo,rfl}:=hv;exact{_,_,_,_,_,_,_,_,_,_,_,rfl}
  refine{_,c6 (DJ abo rfl (zG (dN Es (xY (b6 br f_)) (kM zg (pv 0) tG (tF br)))) (Q.aq (C:={H,λ_=>False,G,λ_=>False}) (i:=1) eO.nd).pg hb.ps) (jj (lY Ed)),?_};let {Y,em,hm}:=Cd ns ξ (M 8);refine{(by show 1<=aaC;decide),λp1 Rv=>{_,rfl,_,rfl,a,_,rfl,(ay.new Rv).seq hS,λp2 Zh=>?_}}
  have n12:p1≠p2:=dj az Zh;refine{p1,p2,_,_,rfl,rfl,(by rw[au n12];exact az),az,(by rw[em,aan,aa7,abd];lia),λl hl=>{l,rfl,{_,dw.of az},?_}}
  rw[em];rw[em]at hl;have sm:ay H (upd (upd (upd H p1 (.lst [V.int 0])) p2 (.lst (Y.map V.int))) l (.lst ([V.int 0]++Y.map V.int))):=((ay.new Rv).trans (ay.new (by rw[em]at *;exact Zh))).trans (ay.new hl)
  have mY:(upd (upd (upd H p1 (.lst [V.int 0])) p2 (.lst (Y.map V.int))) l (.lst ([V.int 0]++Y.map V.int))) l=M (.lst ((0::Y).map V.int)):=az;generalize (upd (upd (upd H p1 (.lst [V.int 0])) p2 (.lst (Y.map V.int))) l (.lst ([V.int 0]++Y.map V.int)))=H1 at sm mY ⊢
  generalize (0::Y)=cs at mY;let X:Cx:=(mG bP P w K mg base ["script","cell","pot","row","ties","again","some","due","handed","told","shape"] "law" (ak oQ) f bD A outer s H E).qu
  let C:Q.Cfg:={H,λ_=>False,G,λ_=>False}
  have it:uo X (λ_=>False) (TV K l) (cs.map D.int) H1:=vz mY (λz=>z) (cL cs);have Pc:=it (λb=>(λ_=>False) b\/H1 b=ξ) λb z=>z;have s':Q.cy P w C.z (L2.start ["script","cell","pot","row","ties","again","some","due","handed","told","shape"] [.ref a]) H1 (aaR 11 ξ) (λ_=>[]):=HH .i sm
  generalize K0:cs.map D.int=ds at Pc;have hint:∀d∈ds,∃c:Int,d=.int c:=λd hd=>by
   rw[<- K0]at hd;let {c,_x,rfl}:=abe.mp hd;exact{(c),rfl}
  refine{λi m σ H'=>i<=ds.length/\m=ds.length-i/\∃β,Q.SB X C (H1,Q.Wn λ_=>[]) σ H' β/\JL β,{_,aaJ _,rfl,_,{_,s',Sn.refl},{_,_,_,_,_,_,_,_,_,_,_,rfl}},?_};rintro i m σ2 H2 ⟨hi,rfl,β2,⟨a7,s2,n2⟩,⟨y0,y1,y2,y3,y4,y5,y6,y7,y8,y9,Lo,rfl⟩⟩;let {du,tY}:=Pc i H2 (n2.k.mono λb z=>z.imp (λWd=> by obtain⟨_,q⟩ := Wd;exact(nomatch q)) id)
  by_cases lM:i<ds.length
  ·right
   have hd:ds[i]?=M ds[i]:=aav lM;let {go,yl}:=du _ hd;let {c,hc}:=hint ds[i] (acd lM);refine{go,λσ' H'=>∃β,Q.SB X C (H1,Q.Wn λ_=>[]) σ' H' β/\JL β,λσ' H' Wc=> by obtain⟨β',xK,vE⟩ := Wc;exact{_,.a,lM,rfl,β',xK,vE},λx H3 y=>?_}
   let {s3,r3}:=yl x H3 y;rw[hc]at r3;refine{a7,_,.int c,.own,s2.same s3,aA.flat rfl r3,λσ4 Eg s4 w4 _=>?_};exact⟨(H1,Q.Wn λ_=>[]),{nx:=JL,rt:=λd _=>d=.bl G,bk:=JL,ct:=JL},_,{Eg,s4,Q.nJ (n2.same s3) w4},hψ c y0 y2 y3 y4 y5 y6 y7 y8 y9 Lo,⟨λσ5 H5 O Bf q5=>{(O),Bf,q5},λσ5 H5 O d5 v5 Bf r5 q5=>by
    subst q5;cases (show v5=V.bl G from Qb r5)
    exact k _,λσ5 H5 O Bf q5=>k _,λσ5 H5 O Bf q5=>{(O),Bf,q5}⟩⟩
  ·left
   have e:i=ds.length:=by lia
   subst e;exact{tY (aaq _),k _}
end
def k7 {α:Type}{P:List α->Prop}(h:∀a,P [a]):∀us:List α,us.length=1->P us:=λus e=>by
 let {a,rfl}:=List.length_eq_one_iff.mp e;exact h a
def gA {α:Type}{P:List α->Prop}(h:∀a b,P [a,b]):∀us:List α,us.length=2->P us:=λus e=>by
 cases us with
 |nil=>cases e
 |cons a us=>exact k7 (P:=λus=>P (a::us)) (h a) us (Nat.succ.inj e)
def Jf {α:Type}{P:List α->Prop}(h:∀a b c,P [a,b,c]):∀us:List α,us.length=3->P us:=λus e=>by
 cases us with
 |nil=>cases e
 |cons a us=>exact gA (P:=λus=>P (a::us)) (h a) us (Nat.succ.inj e)
def FG {K:Ψ}{x m:Str}{st:Stmt}{t c f:Nat}(l:K.lookup f=M (kF st x m t c))(cd:PySem.W.codeIn K (.ref c) x=G)(k:Β K (.ref f)=G):AO K x x st f (Tb st x m t c):=Of l cd k
def bC {K:Ψ}{h:Heap}{mg:Str->Option aam}{x m:Str}{st:Stmt}{t c f:Nat}{ps:List Str}(X:K.In h)(L:h.Ns acq mg)(l:K.lookup f=M (kF st x m t c))(cd:PySem.W.codeIn K (.ref c) x=G)(k:Β K (.ref f)=G)
  (a:PySem.W.nsIn K acq x=M (M (.ref f))) (b:∀us:List aam,us.length=ps.length->bindArgs (Tb st x m t c) {us,[]}=pure (ps.zip us)):Df K mg x st ps f (Tb st x m t c):={FG l cd k,.all b,PySem.W.mg_of X L a}
abbrev cX (i:Nat):μ:=[37,49,61,73,85,97,109,121,133,145,157,169].getD i 0
def all_mk {l:PySem.W.OpenLaw}(w:aaG)(mg:Str->Option aam)(fa:μ)(h:Heap)(X:(KK w.params).In h)(G:h.Ns acq mg)(hfa:mg "law" = M (.ref fa))   :∃fd:aa6,(∀(s:aao) (v:aam),BindsTo s fd {[v],[]} [("script",v)])/\∀base:Heap,(KK w.params).In base->base.Ns acq mg->aG l.prog w (KK w.params) mg base bP 12 fa fd ["script"] (Dn (KK w.params)):=by
 have e:=hfa.symm.trans (PySem.W.mg_of X G (v:=.ref 382) .d)
 cases e;have QT:=ε X G (n:="max") .d
 have QS:=ε X G (n:="min") .d
 have QV:=ε X G (n:="int") .d
 have Jb:=ε X G (n:="range") .d
 have EH:=ε X G (n:="sorted") .d
 have QR:=ε X G (n:="set") .d
 have QU:=ε X G (n:="len") .d
 have MS:=ε X G (n:="list") .d
 have tU:=ε X G (n:="isinstance") .d
 have Ja:=ε X G (n:="tuple") .d
 have QQ:=ε X G (n:="str") .d
 have MT:=ε X G (n:="bool") .d
 have QO:=ε X G (n:="zip") .d
 have vj:=ε X G (n:="enumerate") .d
 have QP:=ε X G (n:="sum") .d
 have QW:=ε X G (n:="any") .d
 have tV:=ε X G (n:="ValueError") .d
 have B:=({({{{(QT),QS,QV,Jb,EH,QR,QU,MS},tU,Ja,QQ,MT,QO,vj},QP}:Bs3 mg),QW}:Ll mg);have ZA:XA (KK w.params) mg 24 cX:=PF .d (PySem.W.mg_of X G (v:=.ref 24) .d) λi x h=>by
  match i,h with
  |0,h=>cases h;exact PySem.W.mg_of X G (v:=.ref 37) .d
  |1,h=>cases h;exact PySem.W.mg_of X G (v:=.ref 49) .d
  |2,h=>cases h;exact PySem.W.mg_of X G (v:=.ref 61) .d
  |3,h=>cases h;exact PySem.W.mg_of X G (v:=.ref 73) .d
  |4,h=>cases h;exact PySem.W.mg_of X G (v:=.ref 85) .d
  |5,h=>cases h;exact PySem.W.mg_of X G (v:=.ref 97) .d
  |6,h=>cases h;exact PySem.W.mg_of X G (v:=.ref 109) .d
  |7,h=>cases h;exact PySem.W.mg_of X G (v:=.ref 121) .d
  |8,h=>cases h;exact PySem.W.mg_of X G (v:=.ref 133) .d
  |9,h=>cases h;exact PySem.W.mg_of X G (v:=.ref 145) .d
  |10,h=>cases h;exact PySem.W.mg_of X G (v:=.ref 157) .d
  |11,h=>cases h;exact PySem.W.mg_of X G (v:=.ref 169) .d
  |n+12,h=>cases h
 exact⟨_,λs v=>.of_eq rfl,λbase _ _=>MI (FG (x:="law") (m:=Ν) (st:=oQ) (t:=548) (c:=381) (f:=382) .d .d .d) B tV ZA (bC X G (x:="_law_said") (m:=Ν) (st:=gP) (t:=548) (c:=369) (f:=370) (ps:=["way","row","thing"]) .d .d .d .d (Jf λ_ _ _=>rfl))
  (bC X G (x:="_law_flags") (m:=Ν) (st:=fS) (t:=548) (c:=338) (f:=339) (ps:=["e"]) .d .d .d .d (k7 λ_=>rfl))
  (bC X G (x:="depth_of") (m:="archrow.shapes") (st:=fw) (t:=490) (c:=255) (f:=256) (ps:=["row","ties"]) .d .d .d .d (gA λ_ _=>rfl))
  (bC X G (x:="depths_of") (m:="archrow.shapes") (st:=eE) (t:=490) (c:=248) (f:=249) (ps:=["row","ties"]) .d .d .d .d (gA λ_ _=>rfl))
  (bC X G (x:="stretches_of") (m:="archrow.shapes") (st:=cD) (t:=490) (c:=277) (f:=278) (ps:=["row","ties"]) .d .d .d .d (gA λ_ _=>rfl))
  (bC X G (x:="nest_of") (m:="archrow.shapes") (st:=gm) (t:=490) (c:=241) (f:=242) (ps:=["row","ties"]) .d .d .d .d (gA λ_ _=>rfl))
  (bC X G (x:="shape_of") (m:="archrow.shapes") (st:=fu) (t:=490) (c:=262) (f:=263) (ps:=["row","ties"]) .d .d .d .d (gA λ_ _=>rfl))
  (bC X G (x:="brackets") (m:="archrow.texts") (st:=gV) (t:=471) (c:=227) (f:=228) (ps:=["many","ties"]) .d .d .d .d (gA λ_ _=>rfl))
  (bC X G (x:="check_set") (m:="archrow.arcs") (st:=eF) (t:=399) (c:=212) (f:=213) (ps:=["row","ties"]) .d .d .d .d (gA λ_ _=>rfl))
  (bC X G (x:="is_set") (m:="archrow.arcs") (st:=kJ) (t:=399) (c:=184) (f:=185) (ps:=["row","ties"]) .d .d .d .d (gA λ_ _=>rfl))
  (bC X G (x:="first_fault") (m:="archrow.arcs") (st:=d9) (t:=399) (c:=191) (f:=192) (ps:=["row","ties"]) .d .d .d .d (gA λ_ _=>rfl))
  (bC X G (x:="fault_at") (m:="archrow.arcs") (st:=gU) (t:=399) (c:=198) (f:=199) (ps:=["row","ties","k"]) .d .d .d .d (Jf λ_ _ _=>rfl))
  (bC X G (x:="share_a_point") (m:="archrow.arcs") (st:=de) (t:=399) (c:=205) (f:=206) (ps:=["one","other"]) .d .d .d .d (gA λ_ _=>rfl))
  (bC X G (x:="arcs_cross") (m:="archrow.arcs") (st:=e9) (t:=399) (c:=177) (f:=178) (ps:=["one","other"]) .d .d .d .d (gA λ_ _=>rfl))
  (bC X G (x:="count_shape") (m:="archrow.shapes") (st:=cY) (t:=490) (c:=267) (f:=268) (ps:=["row","shape"]) .d .d .d .d (gA λ_ _=>rfl))
  (bC X G (x:="arcs_in") (m:="archrow.texts") (st:=jg) (t:=471) (c:=234) (f:=235) (ps:=["text"]) .d .d .d .d (k7 λ_=>rfl))
  (bC X G (x:="partners_of") (m:="archrow.stretches") (st:=d7) (t:=457) (c:=222) (f:=223) (ps:=["row"]) .d .d .d .d (k7 λ_=>rfl))
  (bC X G (x:="counts_with_first") (m:="archrow.shapes") (st:=bR) (t:=490) (c:=272) (f:=273) (ps:=["partners","beneath","behind"]) .d .d .d .d (Jf λ_ _ _=>rfl))
  (bC X G (x:="stretches_rising") (m:="archrow.stretches") (st:=b5) (t:=457) (c:=217) (f:=218) (ps:=["many"]) .d .d .d .d (k7 λ_=>rfl))
  (bC X G (x:="_law_pot") (m:=Ν) (st:=gn) (t:=548) (c:=284) (f:=285) (ps:=["cell"]) .d .d .d .d (k7 λ_=>rfl))
  (bC X G (x:="_law_take") (m:=Ν) (st:=fv) (t:=548) (c:=291) (f:=292) (ps:=["pot","many"]) .d .d .d .d (gA λ_ _=>rfl))
  (bC X G (x:="_law_planted") (m:=Ν) (st:=d8) (t:=548) (c:=298) (f:=299) (ps:=["pot","many"]) .d .d .d .d (gA λ_ _=>rfl))
  (bC X G (x:="_law_row") (m:=Ν) (st:=jf) (t:=548) (c:=305) (f:=306) (ps:=["pot"]) .d .d .d .d (k7 λ_=>rfl))
  (bC X G (x:="_law_copied") (m:=Ν) (st:=eZ) (t:=548) (c:=312) (f:=313) (ps:=["row"]) .d .d .d .d (k7 λ_=>rfl))
  (bC X G (x:="_law_meet") (m:=Ν) (st:=gQ) (t:=548) (c:=319) (f:=320) (ps:=["one","other"]) .d .d .d .d (gA λ_ _=>rfl))
  (bC X G (x:="_law_set") (m:=Ν) (st:=je) (t:=548) (c:=324) (f:=325) (ps:=["pot","row"]) .d .d .d .d (gA λ_ _=>rfl))
  (bC X G (x:="_law_due_flags") (m:=Ν) (st:=df) (t:=548) (c:=343) (f:=344) (ps:=["at"]) .d .d .d .d (k7 λ_=>rfl))
  (bC X G (x:="_law_fits") (m:=Ν) (st:=gR) (t:=548) (c:=362) (f:=363) (ps:=["text"]) .d .d .d .d (k7 λ_=>rfl))
  (bC X G (x:="_law_is_set") (m:=Ν) (st:=eY) (t:=548) (c:=348) (f:=349) (ps:=["row","ties"]) .d .d .d .d (gA λ_ _=>rfl))
  (bC X G (x:="_law_bent") (m:=Ν) (st:=gS) (t:=548) (c:=355) (f:=356) (ps:=["pot","row","ties"]) .d .d .d .d (Jf λ_ _ _=>rfl))
  (bC X G (x:="_law_shape") (m:=Ν) (st:=fR) (t:=548) (c:=331) (f:=332) (ps:=["pot","most"]) .d .d .d .d (gA λ_ _=>rfl))
  (bC X G (x:="_law_shape_bent") (m:=Ν) (st:=cK) (t:=548) (c:=376) (f:=377) (ps:=["pot","shape"]) .d .d .d .d (gA λ_ _=>rfl))⟩
end gK
abbrev PySem.W.Fast.tw15691834551970511054:PySem.Program:=PySem.Challenge.pw_archrow_k43_no_sets_and_no_shapes
def PySem.W.Fast.te15691834551970511054:PySem.Challenge.pw_archrow_k43_no_sets_and_no_shapes=PySem.W.Fast.tw15691834551970511054:=rfl
open PySem PySem.W PyProof.Rows
set_option maxRecDepth 100000 in
set_option maxHeartbeats 0 in
theorem PySem.Challenge.cw_archrow_k43_no_sets_and_no_shapes_holds : PySem.Challenge.rw_archrow_k43_no_sets_and_no_shapes.Holds := by
 w_on;o_law
 refine holds_open (q:=gK.view) (loose:=[]) (Xt:=λs=>xlAt gK.view [] s&&recOk (RowW.records PySem.Challenge.rw_archrow_k43_no_sets_and_no_shapes.row.toRowW) s) (XP:=XL gK.view []) (Yf:=gK.HK.obs) (Ya:=gK.HK.val) (YP:=λw h=>(gK.KK w.params).In h) (N:=7726) gK.left gK.HK.of gK.HK.keeps (λs e=>xl_of s (ace.mp e).1) XL.keeps .i .i .i (λs e=>recFacts_of (ace.mp e).2) .i (by first|assumption|decide +kernel) .g {rfl,rfl,rfl,rfl,rfl,by decide +kernel} ?hw ?hc
 (case hw=>w_witness2)
 case hc =>
  exact L2.HB (l:=PySem.Challenge.rw_archrow_k43_no_sets_and_no_shapes) (K:=gK.KK) (n:=63) (k:=12) (x:="script") (CX:=λ_=>L2.bP) (sp:=λw=>gK.Dn (gK.KK w.params)) rfl .b rfl {rfl,.b,.b} (λw h Y=>Y) gK.all_mk (λ_ _ a ns L _ O=>{a,ns,rfl,O,L,λ_=>rfl}) λ_ _ _ _ _ z=>z
#print axioms PySem.Challenge.cw_archrow_k43_no_sets_and_no_shapes_holds
