import PyProof.Rows.All
import Wide.All
import OpenK.AllK
import Wide.FinOn
import Lean
import PySem.Challenge.RW_archrow_k09_points_always_tied
set_option Elab.async false
set_option linter.all false
set_option maxRecDepth 100000
open Option renaming some->ν,none->ξ
open Bool renaming true->ζ,false->η
open PySem renaming Addr->θ,model->Ψ
open PySem.W renaming Frag->Ξ,mg_none_of->Ω
open PySem.Value renaming ref->Φ
open PySem.F renaming plain_min_loop->δ
theorem χ {c:Prop}{h:Decidable c}(w:c){α:Sort _}{t e:α}:(if c then t else e)=t:=if_pos w
theorem ω {c:Prop}{h:Decidable c}(w:¬c){α:Sort _}{t e:α}:(if c then t else e)=e:=if_neg w
theorem Γ {p:Prop}[h:Decidable p](w:p):decide p=Bool.true:=decide_eq_true w
theorem Δ {p:Prop}[h:Decidable p](w:¬p):decide p=Bool.false:=decide_eq_false w
open PySem.W renaming kia_one->ε,kia_tup->ς,keepIn->υ,kitOne->Α,kitAny->Β,fnOf->Ε
open PySem.F renaming plainAttrs_list->Ζ
theorem Ι {a b:Sort _}{x y:a}(f:a->b)(h:x=y):f x=f y:=congrArg f h
def Η {a:Prop}{b:Sort _}(x:a)(y:¬a):b:=absurd x y
local macro_rules
 |`({$x:term})=>`(⟨$x⟩)
 |`({$x:term,$y:term,*})=>`(⟨$x,$y,*⟩)
theorem tv:True:=.intro
set_option maxHeartbeats 4000000
set_option compiler.extract_closed false
open PySem renaming wpAny_bind->ZD,Value->ZF,Shared->ZH,wpAny_pure->ZL,Program->ZN,starEach->Z2,sizeLine->Z3,World->Z4,wpAny->aab,foldedSetIterable->aay,wpAny_loadPart'->aaB,FuncData->aaD,bootBuiltins->aaF,Around->aaJ,sizeLine_eq->aaQ,compareOp->aaV,wpAny_call_entry->aa3,wpAny_holding->aa6,wpAny_truthy_bool->abf,wpAny_setState_of->abi,wpAny_setField_rec->abp,wpAny_seqItems->abu,wpAny_callSpecial?_slot->abw,cLine->abx,wpAny_field->abG,backTo->abI,assignEach->abJ,Builtin->abM,wpAny_newObj_type->abN,mainGlobals->abO,wpAny_standAt->abR,binaryOp->abT,sliceBounds->abX,wpAny_rule->abY,codeAny_mono->abZ,codeAny_builtin->ab3,swapsWith->ab4,behindInMarks->ab5,attributeBase->ab6,IsPair->ab7,Scope->acj,Comprehension->acp,wpAny_attempt->acz,Keyword->acA,NameKind->acC,wpAny_passesOwn->acF,wpAny_mono->acP,wpAny_Call_Name_kw->acQ,sysModules->acR,pyNext->acS,CmpOp->acW,standAt->ac0,keywordEach->ac1,codeAny->ac2,wpAny_forIn_list->ac_,wpAny_askSetting->ada,tupleKind->adb
open List renaming length_map->ZE,mem_cons->ZI,mem_singleton->ZJ,range->ZK,mem_cons_self->ZO,mem_cons_of_mem->ZP,getElem?_map->ZS,mem_append->ZT,getElem?_eq_getElem->ZU,mem_filter->ZY,length_cons->ZZ,mem_map->Z0,getElem?_eq_some_iff->Z1,length_range->Z7,mem_append_right->aaa,nodup_cons->aac,length_append->aad,map_cons->aae,size_toArray->aaf,map_append->aag,length_take->aai,map_congr_left->aal,filter_cons->aam,mem_of_getElem?->aap,mem_range->aas,length_filter_le->aat,replicate->aau,append_nil->aaw,nodup_append->aaz,mem_append_left->aaA,getElem?_eq_none->aaE,pairwise_cons->aaG,nodup_nil->aaH,filter_append->aaI,drop_eq_getElem_cons->aaL,take_add_one->aaM,map_map->aaR,append_assoc->aaS,filterMap_cons->aaU,take_length->aaW,not_mem_nil->aaX,getElem?_append_right->aaY,mem_flatMap->aa5,pairwise_map->aa7,getD_eq_getElem?_getD->aa_,lookup_cons->abc,getElem?_append_left->abd,find?_cons->abg,set_eq_take_append_cons_drop->abh,take_of_length_le->abk,replicate_succ->abm,length_singleton->abo,all_eq_true->abq,flatten_cons->aby,ext_getElem?->abz,getElem?_range->abB,drop_of_length_le->abE,take_append_drop->abL,filter_congr->abP,sum_cons->abS,getElem_mem->abV,zip_cons_cons->ab1,filter_eq_nil_iff->ab2,getElem?_set->ab_,mem_of_mem_take->acd,length_drop->aci,getElem?_take_of_lt->aco,foldl_cons->acr,pairwise_singleton->acs,getElem?_cons_succ->acu,pairwise_append->acD,range_succ->acH,of_mem_zip->acI,length_nil->acJ,mem_filterMap->acU,getElem?_drop->acV,pairwise_iff_getElem->acX,extract_eq_take_drop->acY,zip_nil_left->ac4,reverse_cons->ac5,perm_middle->adg,cons_append->adh
open Nat renaming le_refl->ZG,zero_le->ZW,le_trans->aaj,ne_of_lt->aak,lt_of_lt_of_le->aaq,lt_or_ge->aa2,zero_add->abj,pow_le_pow_right->abv,lt_of_le_of_lt->ab0,lt_succ_of_lt->ab9,lt_irrefl->acm,min_le_left->acG,sub_self->acN,pow_succ->acO,mod_lt->acT,one_mul->ac3,lt_succ_self->ade,le_add_right->adf
open PySem.Heap renaming get?_push_of_some->ZM,lt_size->Z6,get?_push_size->Z8,SameBut->abr,size_push->abW
open PyProof.Rows renaming Keyed->ZQ,wpS_bind->ZV,wpS_pure->Z5,pendingOf->aah,SortSt->aan,arrOf->aar,wpS_forRange->aaZ,setArr->aa8,IntsAre->abl,wpS_mono->abt,seqObj->abC,callWith_type1->abD,SortKind->abU,wpS_modify->aca,failedOf->acw,setPending->acy,wpS_get->acM,wpS_lift->ac9
open Option renaming map_eq_some_iff->ZR,bind_eq_some_iff->aaC,bind_some->abb
open Array renaming length_toList->ZX,getElem?_toList->Z9,getD_eq_getD_getElem?->Z_,toList_append->abe,toList_push->abA,getElem?_eq_none->abF,perm_iff_toList_perm->acf,size_setIfInBounds->ac8,toList_zip->adi
open Option.some renaming inj->aao
open PySem.PassesOwn renaming never->aav
open Decidable renaming by_contra->aax
open Bool renaming and_eq_true->aaK,false_ne_true->aaO,not_eq_true'->abQ,and_eq_true_iff->acE,eq_iff_iff->acL
open PySem.SeqAt renaming canLay_of_shaped->aaN
open PySem.NameKind renaming free->aaP,cell->acn
open PySem.Builtin.SmallTypes renaming nextOf->aaT,ownedTupleIsFree->abH
open Int renaming toNat_natCast->aa0
open Ne renaming symm->aa1
open PySem.PyData renaming eqv->aa4,canLay0->aa9,depthAll->aba,canLayAll0->ab8,depth->ach,eqvAll->ac6
open Classical renaming byContradiction->abn
open True renaming intro->abK
open PySem.Obj renaming mapSeq->acb
open False renaming elim->ace
open PySem.Around renaming under_plainId->acg
open PySem.Heap.SameBut renaming update->ack
open PySem.Builtin.List renaming listTooLong->acq
open PySem.Builtin.Range renaming rangeSize->acv
open PySem.Str renaming ofString->acx
open Int.ofNat renaming inj->acB
open List.Perm renaming of_eq->acK
open PySem.Calls renaming call_function_entry->acZ
open PySem.Code renaming compLoop->ac7
noncomputable section
namespace L2
open PySem PySem.Spec PyProof.Rows
def mK (s:Stmt):Arguments:=match s with
 |.FunctionDef _ a _ _ _ _ _ _ _ _=>a
 |_=>{posonlyargs:=[],args:=[],vararg:=ξ,kwonlyargs:=[],kw_defaults:=[],kwarg:=ξ,defaults:=[]}
def e_ (s:Stmt):List Stmt:=match s with
 |.FunctionDef _ _ b _ _ _ _ _ _ _=>b
 |_=>[]
def ay (s:Stmt):acj:=match s with
 |.FunctionDef _ _ _ _ _ _ sc _ _ _=>sc
 |_=>{kind:=.function,names:=[],isGenerator:=η,isCoroutine:=η}
abbrev Key:=Sum Int Str
def qu:Key->ZF->Bool
 |.inl k,v=>Value.isInt k v
 |.inr x,v=>Value.isStrOf x v
def SM (w:Z4):Key->Int
 |.inl k=>hashInt k
 |.inr x=>hashStr w x
theorem bz:∀{k:Key} {v:ZF},qu k v=ζ->(∃i t,k=Sum.inl i/\v=Value.int i t)\/(∃x t,k=Sum.inr x/\v=Value.str x t)
 |.inl i,v,h=>by
  obtain⟨t,e⟩:=Value.isInt_shape (k:=i) (v:=v) h;exact .inl {(i),t,rfl,e}
 |.inr x,v,h=>by
  obtain⟨t,e⟩:=Value.isStrOf_shape (x:=x) (v:=v) h;exact .inr {(x),t,rfl,e}
def Ar (i:Int)(t:Tok):qu (.inl i) (.int i t)=ζ:=by simp[qu,Value.isInt]
def Aq (x:Str)(t:Tok):qu (.inr x) (.str x t)=ζ:=by simp[qu,Value.isStrOf]
def K7 (a b:Int):decide ((Sum.inl a:Key)=Sum.inl b)=(a==b):=by
 by_cases e:a=b
 ·subst e;simp
 ·have h:¬ (Sum.inl a:Key)=Sum.inl b:=λq=>e (Sum.inl.inj q);rw[Δ h];exact(beq_eq_false_iff_ne.mpr e).symm
def K4 (a b:Str):decide ((Sum.inr a:Key)=Sum.inr b)=decide (a=b):=by
 by_cases e:a=b
 ·subst e;simp
 ·have h:¬ (Sum.inr a:Key)=Sum.inr b:=λq=>e (Sum.inr.inj q);rw[Δ h,Δ e]
def K6 (a:Int)(b:Str):decide ((Sum.inl a:Key)=Sum.inr b)=η:=Δ (λq=>nomatch q)
def K5 (a:Str)(b:Int):decide ((Sum.inr a:Key)=Sum.inl b)=η:=Δ (λq=>nomatch q)
def cC (prog:ZN)(w:Z4):PySem.KeyKind prog w Key where
 is:=qu
 hash:=SM w
 inj:=λv a b ha hb=>by
  rcases bz ha with⟨i,t,rfl,rfl⟩|⟨x,t,rfl,rfl⟩
  ·rcases bz hb with⟨j,u,rfl,e⟩|⟨y,u,rfl,e⟩
   ·injection e with e1 _;rw[e1]
   ·exact nomatch e
  ·rcases bz hb with⟨j,u,rfl,e⟩|⟨y,u,rfl,e⟩
   ·exact nomatch e
   ·injection e with e1 _;rw[e1]
 byValue:=λk v h=>by
  rcases bz h with⟨i,t,rfl,rfl⟩|⟨x,t,rfl,rfl⟩ <;> rfl
 pyHash:=λhv h=>by
  rcases bz hv with⟨i,t,rfl,rfl⟩|⟨x,t,rfl,rfl⟩
  ·exact wpAny_pyHash_int h
  ·exact wpAny_pyHash_str h
 eqBool:=λhu hv h=>by
  rcases bz hu with⟨i,t,rfl,rfl⟩|⟨x,t,rfl,rfl⟩
  ·rcases bz hv with⟨j,u,rfl,rfl⟩|⟨y,u,rfl,rfl⟩
   ·rw[K7]at h;exact wpAny_eqBool_int h
   ·rw[K6]at h;exact SeqAt.EqAt.int_str i t y u _ _ _ _ h
  ·rcases bz hv with⟨j,u,rfl,rfl⟩|⟨y,u,rfl,rfl⟩
   ·rw[K5]at h;exact SeqAt.EqAt.str_int x t j u _ _ _ _ h
   ·rw[K4]at h;exact wpAny_eqBool_str h
 «strs»:=λk x t v h=>by
  rcases bz h with⟨i,u,rfl,e⟩|⟨y,u,rfl,e⟩
  ·exact nomatch e
  ·injection e with e1 _
   subst e1;cases v <;> rfl
def ub (prog:ZN)(w:Z4)(i:Int)(t:Tok):(cC prog w).is (.inl i) (.int i t)=ζ:=Ar i t
def ua (prog:ZN)(w:Z4)(x:Str)(t:Tok):(cC prog w).is (.inr x) (.str x t)=ζ:=Aq x t
inductive V where
 |cf|bl (b:Bool)|int (i:Int)|str (x:Str)|HM (b:Array UInt8)|LX (b:UInt64)|ref (a:θ)|ty (n:String)
 deriving DecidableEq
def RelV:V->ZF->Prop
 |.cf,u=>u=Value.none
 |.bl b,u=>u=Value.bool b
 |.int i,u=>∃t,u=Value.int i t
 |.str x,u=>∃t,u=Value.str x t
 |.HM b,u=>∃t,u=Value.bytes b t
 |.LX b,u=>∃t,u=Value.float b t
 |.ref a,u=>u=Φ a
 |.ty n,u=>u=Value.type n
abbrev Vals:List V->List ZF->Prop:=Paired RelV
def Vals.length {xs:List V}{us:List ZF}(r:Vals xs us):xs.length=us.length:=Paired.length r
theorem Vals.get:∀{xs:List V} {us:List ZF} {i:Nat} {x:V},Vals xs us->xs[i]?=ν x->∃u,us[i]?=ν u/\RelV x u
 |_,_,_,_,.nil,e=>by simp at e
 |_,_,0,_,.cons r _,e=>by simp at e;subst e;exact{_,rfl,r}
 |_,_,i+1,x,.cons _ t,e=>by
  obtain⟨u,h1,h2⟩:=Vals.get (i:=i) (x:=x) t (by simpa using e)
  exact{u,by simpa using h1,h2}
theorem Vals.set {x:V}{u:ZF}(r:RelV x u):∀{xs:List V} {us:List ZF} (i:Nat),Vals xs us->Vals (xs.set i x) (us.set i u)
 |_,_,_,.nil=>.nil
 |_,_,0,.cons _ t=>.cons r t
 |_,_,i+1,.cons q t=>.cons q (Vals.set r i t)
theorem Vals.append:∀{xs ys:List V} {us ws:List ZF},Vals xs us->Vals ys ws->Vals (xs++ys) (us++ws)
 |_,_,_,_,.nil,s=>s
 |_,_,_,_,.cons r t,s=>.cons r (Vals.append t s)
theorem Vals.take:∀{xs:List V} {us:List ZF} (n:Nat),Vals xs us->Vals (xs.take n) (us.take n)
 |_,_,0,_=>.nil
 |_,_,_+1,.nil=>.nil
 |_,_,n+1,.cons r t=>.cons r (Vals.take n t)
theorem Vals.drop:∀{xs:List V} {us:List ZF} (n:Nat),Vals xs us->Vals (xs.drop n) (us.drop n)
 |_,_,0,r=>r
 |_,_,_+1,.nil=>.nil
 |_,_,n+1,.cons _ t=>Vals.drop n t
def Vals.none_of:∀{xs:List V} {us:List ZF} {i:Nat},Vals xs us->xs[i]?=ξ->us[i]?=ξ:=λ{xs us i} r e=>by
 have h1:=r.length;have h2:xs.length<=i:=List.getElem?_eq_none_iff.mp e;exact List.getElem?_eq_none_iff.mpr (by lia)
def oW:Option V->Option ZF->Prop
 |some v,ν u=>RelV v u
 |none,ξ=>True
 |_,_=>False
def KV {κ:Type}:List (κ×V)->List (κ×ZF)->Prop:=Paired λ(p:κ×V) (q:κ×ZF)=>p.1=q.1/\RelV p.2 q.2
def kV:Key->V
 |.inl i=>.int i
 |.inr x=>.str x
inductive HO where
 |lst (xs:List V)
 |tup (xs:List V)
 |dK (kvs:List (Key×V))|dT (kvs:List (List Key×V))
 |set (S:Int->Bool) (n:Nat)
 |ins (C dx:θ) (fs:List (Str×V))
 |own (x:θ)
 |xd (fs:List (Str×V))
 |met (f x:θ)
 |RM (lo hi:Int)
 |vJ (o:Obj) (u:HO)
 |JE (ps:Array ZF)
 |ext (φ:Heap->Prop)
abbrev Hp:=θ->Option HO
def upd (H:Hp)(a:θ)(o:HO):Hp:=λb=>if b=a then ν o else H b
def ao {H:Hp}{a:θ}{o:HO}:upd H a o a=ν o:=by unfold upd;rw[χ rfl]
def aw {H:Hp}{a b:θ}{o:HO}(h:b≠a):upd H a o b=H b:=by unfold upd;rw[ω h]
def Im {H:Hp}{a b:θ}{o u:HO}(h:H a=ν o)(h':H b=ν u)(d:o≠u):a≠b:=by
 intro e;subst e;rw[h]at h';exact d (aao h')
def cI {H:Hp}{a b:θ}{o:HO}(h:H a=ν o)(h':H b=ξ):a≠b:=by
 intro e;subst e;rw[h]at h';cases h'
section
variable (P:ZN)(w:Z4)
def a9 (H:Hp)(h:Heap)(a:θ):HO->Prop
 |.lst xs=>xs.length<=Z3/\∃(its:List ZF) (n:Nat),Vals xs its/\h.get? a=ν {cls:=.type "list",data:=.seq its.toArray n}
 |.tup xs=>xs.length<=Z3/\∃its:List ZF,Vals xs its/\IsTup h a its.toArray
 |.dK kvs=>kvs.length<=Z3/\(a==acR)=η/\∃vs,KV kvs vs/\h.DictOf (cC P w) a vs
 |.dT kvs=>kvs.length<=Z3/\(a==acR)=η/\∃xs:List (List Key×θ×ZF),
   Paired (λ(p:List Key×V) (q:List Key×θ×ZF)=>p.1=q.1/\H q.2.1=ν (.tup (p.1.map kV))/\RelV p.2 q.2.2) kvs xs /\
   ∃o es ep,h.get? a=ν o/\o.ExactDict/\o.data=.dict es ep/\es.toList=xs.map (entryOfKey (adb (cC P w)))/\(xs.map (·.1)).Nodup
 |.set S n=>h.SetOf (intKind P w) a S n
 |.ins C dx fs=>H dx=ν (.own a)/\fs.length<=1000/\dx≠a/\h.get? a=ν (PySem.W.instObj C dx) /\
   ∃mA,h.Ns1 dx mA/\(∀f,oW (fs.lookup f) (mA f))/\PySem.Within mA (fs.map (·.1))
 |.own _=>∃o,h.get? a=ν o
 |.xd fs=>∃mA,h.Ns1 a mA/\∀f,oW (fs.lookup f) (mA f)
 |.RM lo hi=>∃t u v,h.get? a=ν {cls:=.type "range",data:=.fields #[.int lo t,.int hi u,.int 1 v]}
 |.vJ o u=>h.get? a=ν o/\a9 H h a u
 |.JE ps=>h.get? a=ν {cls:=.none,data:=.fields ps}
 |.met f x=>h.get? a=ν (PySem.W.methodObj (.ref f) (.ref x))
 |.ext φ=>φ h/\(∃o,h.get? a=ν o)/\∀h1 h2:Heap,φ h1->(∀o,h1.get? a=ν o->h2.get? a=ν o)->φ h2
def i8 (H:Hp)(h:Heap):Prop:=∀a o,H a=ν o->a9 P w H h a o
end
section
variable {P:ZN}{w:Z4}{H H':Hp}{h h':Heap}{a:θ}{o:HO}
def a9.lt (x:a9 P w H h a o):a<h.objs.size:=by
 cases o with
 |lst xs=>obtain⟨_,_,_,_,e⟩:=x;exact Z6 e
 |tup xs=>obtain⟨_,_,_,p⟩:=x;exact p.lt
 |dK kvs=>obtain⟨_,_,_,_,o,_,_,e,_⟩:=x;exact Z6 e
 |dT kvs=>obtain⟨_,_,_,_,o,_,_,e,_⟩:=x;exact Z6 e
 |set S n=>obtain⟨o,_,_,_,e,_⟩:=x;exact Z6 e
 |ins C dx fs=>obtain⟨_,_,_,e,_⟩:=x;exact Z6 e
 |own y=>obtain⟨_,e⟩:=x;exact Z6 e
 |xd fs=>obtain⟨_,⟨_,_,_,e,_⟩,_⟩:=x;exact Z6 e
 |RM lo hi=>obtain⟨_,_,_,e⟩:=x;exact Z6 e
 |vJ ob u=>obtain⟨e,_⟩:=x;exact Z6 e
 |JE ps=>exact Z6 (show h.get? a=ν _ from x)
 |met f y=>exact Z6 (show h.get? a=ν _ from x)
 |ext φ=>obtain⟨_,⟨_,e⟩,_⟩:=x;exact Z6 e
theorem Paired.KL {α β:Type}{F G:α->β->Prop}:∀{l₁:List α} {l₂:List β},Paired F l₁ l₂->(∀a b,F a b->G a b)->Paired G l₁ l₂
 |_,_,.nil,_=>.nil
 |_,_,.cons r t,f=>.cons (f _ _ r) (Paired.KL t f)
def a9.s_ (x:a9 P w H h a o)(k:∀b u,(b=a\/H b=ν (.own a))->h.get? b=ν u->h'.get? b=ν u)
  (ho:∀b,H b=ν (.own a)->H' b=ν (.own a)) (ht:∀b xs,H b=ν (.tup xs)->H' b=ν (.tup xs)):a9 P w H' h' a o:=by
 induction o with
 |lst xs=>obtain⟨z,its,n,r,e⟩:=x;exact{z,its,n,r,k _ _ (.inl rfl) e}
 |tup xs=>obtain⟨z,its,r,ob,e,c⟩:=x;exact{z,its,r,ob,k _ _ (.inl rfl) e,c}
 |dK kvs=>obtain⟨z,y,vs,r,ob,es,ep,e,c⟩:=x;exact{z,y,vs,r,ob,es,ep,k _ _ (.inl rfl) e,c}
 |dT kvs =>
  obtain⟨z,y,xs,r,ob,es,ep,e,c⟩:=x;exact{z,y,xs,Paired.KL r λp q z=>{z.1,ht _ _ z.2.1,z.2.2},ob,es,ep,k _ _ (.inl rfl) e,c}
 |set S n=>obtain⟨ob,es,ep,t,e,c⟩:=x;exact{ob,es,ep,t,k _ _ (.inl rfl) e,c}
 |ins C dx fs =>
  obtain⟨d,z,ne,e,mA,⟨od,es,ep,e2,c⟩,r⟩:=x;exact{ho _ d,z,ne,k _ _ (.inl rfl) e,mA,{od,es,ep,k _ _ (.inr d) e2,c},r}
 |own y=>obtain⟨ob,e⟩:=x;exact{ob,k _ _ (.inl rfl) e}
 |xd fs=>obtain⟨mA,⟨od,es,ep,e,c⟩,r⟩:=x;exact{mA,{od,es,ep,k _ _ (.inl rfl) e,c},r}
 |RM lo hi=>obtain⟨t,u,v,e⟩:=x;exact{t,u,v,k _ _ (.inl rfl) e}
 |vJ ob u ih=>obtain⟨e,q⟩:=x;exact{k _ _ (.inl rfl) e,ih q}
 |JE ps =>
  have e:h.get? a=ν {cls:=.none,data:=.fields ps}:=x;show h'.get? a=ν {cls:=.none,data:=.fields ps};exact k a _ (.inl rfl) e
 |met f y =>
  have e:h.get? a=ν (PySem.W.methodObj (.ref f) (.ref y)):=x;show h'.get? a=ν (PySem.W.methodObj (.ref f) (.ref y));exact k a _ (.inl rfl) e
 |ext φ=>obtain⟨p,⟨o,e⟩,st⟩:=x;exact{st _ _ p λo q=>k _ _ (.inl rfl) q,{o,k _ _ (.inl rfl) e},st}
def i8.lt (x:i8 P w H h)(e:H a=ν o):a<h.objs.size:=(x a o e).lt
def i8.fresh (x:i8 P w H h)(e:h.objs.size<=a):H a=ξ:=by
 cases q:H a with
 |none=>rfl
 |some u=>exact Η (aaq (x.lt q) e) (acm _)
def i8.kept (x:i8 P w H h)(k:∀b u,h.get? b=ν u->h'.get? b=ν u):i8 P w H h':=λa o e =>
 (x a o e).s_ (λb u _ q=>k b u q) (λ_ q=>q) λ_ _ q=>q
def i8.laid (x:i8 P w H h)(k:∀b u,h.get? b=ν u->h'.get? b=ν u)(hp:h.objs.size<=a)(new:a9 P w (upd H a o) h' a o):i8 P w (upd H a o) h':=λb u e=>by
 have hn:=x.fresh hp
 by_cases hb:b=a
 ·subst hb;rw[ao]at e;cases e;exact new
 ·rw[aw hb]at e;exact(x b u e).s_ (λc v _ q=>k c v q) (λc q=>by rw[aw (cI q hn)];exact q) λc xs q=>by rw[aw (cI q hn)];exact q
end
def Rd (H:Hp)(a:θ)(u:HO):Prop:=H a=ν u\/∃o,H a=ν (.vJ o u)
def Rd.ok {P:ZN}{w:Z4}{H:Hp}{h:Heap}{a:θ}{u:HO}(r:Rd H a u)(x:i8 P w H h):a9 P w H h a u:=by
 rcases r with r|⟨o,r⟩
 ·exact x a u r
 ·obtain⟨_,q⟩:=x a _ r;exact q
def Qb:Option HO->Prop
 |some (.lst _)=>True
 |some (.dK _)=>True
 |some (.dT _)=>True
 |some (.set _ _)=>True
 |some (.ins _ _ _)=>True
 |some (.ext _)=>True
 |_=>False
section
variable {P:ZN}{w:Z4}{H:Hp}{h h':Heap}{x e:θ}{o':HO}
def i8.write (ok:i8 P w H h)(mu:Qb (H x))(he:e=x\/H e=ν (.own x))(k:∀b u,b≠e->h.get? b=ν u->h'.get? b=ν u)(MH:∃u,h'.get? e=ν u)
  (new:a9 P w (upd H x o') h' x o'):i8 P w (upd H x o') h':=λb u q=>by
 have NW:∀c y,H c=ν (.own y)->c≠x:=λc y r z=>by subst z;rw[r]at mu;exact mu
 have Si:∀c xs,H c=ν (.tup xs)->c≠x:=λc xs r z=>by subst z;rw[r]at mu;exact mu
 by_cases hb:b=x
 ·subst hb;rw[ao]at q;cases q;exact new
 ·rw[aw hb]at q
  by_cases LO:b=e
  ·have q':H b=ν (.own x):=by
    rcases he with z|z
    ·exact Η (LO.trans z) hb
    ·rw[LO];exact z
   rw[q]at q';cases q';obtain⟨v,hv⟩:=MH;exact{v,by rw[LO];exact hv}
  ·refine(ok b u q).s_ (λc v hc r=>k c v ?_ r) (λc r=>by rw[aw (NW c b r)];exact r) λc xs r=>by rw[aw (Si c xs r)];exact r
   rcases hc with rfl|hc
   ·exact LO
   ·rintro rfl;rcases he with z|z
    ·exact NW c b hc z
    ·rw[hc]at z;cases z;exact hb rfl
end
structure Un (fs ex:List θ)(H H':Hp)(h h':Heap):Prop where
 keep:∀b o,h.get? b=ν o->H b=ξ->b∉fs->b∉ex->h'.get? b=ν o
 slot:∀b o,h.get? b=ν o->H b=ξ->b∈fs->b∉ex->∃sl,h'.get? b=ν {o with slots:=sl}
 free:∀b o,h.get? b=ν o->H b=ξ->b∉ex->H' b=ξ
 there:∀b o,h.get? b=ν o->b∉ex->∃o',h'.get? b=ν o'
 rg:∀b xs,H b=ν (.tup xs)->H' b=ν (.tup xs)
 pH:∀b o u,H b=ν (.vJ o u)->H' b=ν (.vJ o u)
 rh:∀b ps,H b=ν (.JE ps)->∃more,H' b=ν (.JE (ps++more))
section
variable {fs ex:List θ}{H H1:Hp}{h h1 h':Heap}{a x e:θ}{o:HO}
def Un.any (u:Un fs ex H H1 h h1){b:θ}{ob:Obj}(q:h.get? b=ν ob)(n:H b=ξ)(hx:b∉ex):∃sl,h1.get? b=ν {ob with slots:=sl}:=by
 by_cases hb:b∈fs
 ·exact u.slot b ob q n hb hx
 ·exact{ob.slots,u.keep b ob q n hb hx}
def Un.kept (k:∀b u,h.get? b=ν u->h'.get? b=ν u):Un fs ex H H h h' :=
 {λb ob q _ _ _=>k b ob q,λb ob q _ _ _=>{ob.slots,k b ob q},λ_ _ _ n _=>n,λb ob q _=>{ob,k b ob q},λ_ _ q=>q,λ_ _ _ q=>q,λ_ ps q=>{#[],by rw[q];simp}}
def Un.refl:Un fs ex H H h h:=Un.kept λ_ _ q=>q
def Un.laid (k:∀b u,h.get? b=ν u->h'.get? b=ν u)(hp:h.objs.size<=a)(hn:H a=ξ):Un fs ex H (upd H a o) h h' where
 keep:=λb u q _ _ _=>k b u q
 slot:=λb u q _ _ _=>{u.slots,k b u q}
 free:=λb u q n _=>by rw[aw (aak (aaq (Z6 q) hp))];exact n
 there:=λb u q _=>{u,k b u q}
 rg:=λb xs q=>by rw[aw (cI q hn)];exact q
 pH:=λb u xs q=>by rw[aw (cI q hn)];exact q
 rh:=λb ps q=>{#[],by rw[aw (cI q hn),q];simp}
def Un.write (mu:Qb (H x))(he:e=x\/H e=ν (.own x))(k:∀b u,b≠e->h.get? b=ν u->h'.get? b=ν u)(MH:∃u,h'.get? e=ν u):Un fs ex H (upd H x o) h h':=by
 have hx:∀b,H b=ξ->b≠x:=λb n z=>by subst z;rw[n]at mu;exact mu
 have hb:∀b,H b=ξ->b≠e:=λb n z=>by
  subst z;rcases he with r|r
  ·exact hx b n r
  ·rw[n]at r;cases r
 have hm:∀b u,H b=ν u->¬ Qb (ν u)->b≠x:=λb u q nm z=>by subst z;rw[q]at mu;exact nm mu
 refine⟨λb u q n _ _=>k b u (hb b n) q,λb u q n _ _=>{u.slots,k b u (hb b n) q},λb u q n _=>by rw[aw (hx b n)];exact n,λb u q _=>?_,
  λb xs q=>by rw[aw (hm b _ q λz=>z)];exact q,λb u xs q=>by rw[aw (hm b _ q λz=>z)];exact q,λb ps q=>{#[],by rw[aw (hm b _ q λz=>z),q];simp}⟩
 by_cases LO:b=e
 ·subst LO;exact MH
 ·exact{u,k b u LO q}
end
def Qi (h:Heap)(H:Hp):List θ:=(ZK h.objs.size).filter λa=>(H a).isSome
def sf (h:Heap)(H:Hp):Heap:=PySem.W.hideAll h (Qi h H)
def Ay (h:Heap)(H:Hp):(sf h H).objs.size=h.objs.size:=PySem.W.hideAll_size _ _
def DQ {h:Heap}{H:Hp}{b:θ}{o:Obj}(e:h.get? b=ν o)(n:H b=ξ):(sf h H).get? b=ν o :=
 PySem.W.hideAll_get _ e λhm=>by
  have q:(H b).isSome=ζ:=(ZY.mp hm).2;rw[n]at q;simp at q
def GB {h:Heap}{H:Hp}{b:θ}{o:Obj}(e:(sf h H).get? b=ν o):h.get? b=ν o/\H b=ξ:=by
 have e':h.get? b=ν o:=PySem.W.of_hideAll (Qi h H) e;refine{e',?_};cases q:H b with
 |none=>rfl
 |some x =>
  have hm:b∈Qi h H:=ZY.mpr {aas.mpr (Z6 e'),by simp[q]}
  have z:(sf h H).get? b=ξ:=PySem.W.hideAll_none (Qi h H) hm;rw[z]at e;cases e
structure Mod (K:Ξ)(mg:Str->Option ZF)(base:Heap):Prop where
 SK:K.In base
 glob:base.Ns abO mg
 blt:∃mb,base.Ns builtinsNs mb/\∀x:Str,x≠"__name__" -> mb x=aaF x
 nolimit:base.NoLimit
structure Cx where
 prog:ZN
 w:Z4
 K:Ξ
 mg:Str->Option ZF
 base:Heap
 A:aaJ
 N:List Str
 s₀:ZH
 H₀:Hp
 env:Env
 outer:List Env
 stack:List Env
 ex:List θ
 fn:Str->Bool
 calm:Bool
 pn:List (θ×Obj)
 xe:ZF->ZH->Prop
def DV (l:List Env):List θ:=l.filterMap (·.frame)
abbrev Cx.fs (X:Cx):List θ:=DV X.outer
def Mp (sc:acj)(x:Str):Prop:=sc.names.lookup x=ν .local\/sc.names.lookup x=ν .cell\/sc.names.lookup x=ν .free
def Loc (sc:acj)(x:Str):Prop:=sc.names.lookup x=ν .local\/sc.names.lookup x=ν .cell
def Look (env:Env)(h:Heap)(m:Str->Option ZF)(x:Str)(u:ZF):Prop :=
 (env.kindOf x=ν .local/\m x=ν u)\/((env.kindOf x=ν .cell\/env.kindOf x=ν .free)/\∃c,env.cells.lookup x=ν c/\h.IsCell c (ν u))
structure Cx.Ok (X:Cx):Prop where
 mod:Mod X.K X.mg X.base
 kind:X.env.scope.kind=.function
 glob:X.env.globals=abO
 blt:X.env.builtins=builtinsNs
 above:X.s₀.heap.objs.size<=X.env.locals
 inj:∀x y c,X.env.cells.lookup x=ν c->X.env.cells.lookup y=ν c->x=y
 has:∀x,(X.env.kindOf x=ν .cell\/X.env.kindOf x=ν .free)->∃c,X.env.cells.lookup x=ν c
 P4:∀x c,X.fn x=ζ->X.env.cells.lookup x=ν c->X.s₀.heap.objs.size<=c
 hd:X.calm=ζ->X.A.handled=ξ
 frames:X.A.frames=ν X.stack
 Qq:X.stack=X.outer\/(X.stack=X.env::X.outer/\X.env.frame=ν X.env.locals)
 QP:∀b∈X.ex,b≠X.env.locals/\∀x c,X.env.cells.lookup x=ν c->c≠b
 bs:∀b o,X.base.get? b=ν o->X.s₀.heap.get? b=ν o/\X.H₀ b=ξ
 Ja:X.base.objs.size<=X.s₀.heap.objs.size
 CZ:∀b o,X.base.get? b=ν o->b∉X.ex
 Ed:∀b∈X.ex,b∉X.fs
 om:X.s₀.heap.FunFrames X.base X.outer
 MK:∀b∈X.fs,X.H₀ b=ξ
structure Inv (X:Cx)(μ:List (θ×Obj))(σ:List (Option V))(H:Hp)(s:ZH):Prop where
 ok:X.Ok
 os:s.os=X.s₀.os
 bare:AllBare s.gens
 base:Un X.fs X.ex X.H₀ H X.s₀.heap s.heap
 loc:∃m,s.heap.Ns X.env.locals m/\∀(i:Nat) (x:Str) (v:V),X.N[i]?=ν x->σ[i]?=ν (ν v)->Mp X.env.scope x->∃u,RelV v u/\Look X.env s.heap m x u
 cell:∀x c,X.env.cells.lookup x=ν c->∃v,s.heap.IsCell c v
 free:H X.env.locals=ξ
 iE:∀x c,X.env.cells.lookup x=ν c->H c=ξ
 pin:∀p∈X.pn++μ,s.heap.get? p.1=ν p.2/\H p.1=ξ/\p.1≠X.env.locals/\p.1∉X.fs/\∀v,p.2.data≠.cell v
 bp:i8 X.prog X.w H s.heap
 len:σ.length=X.N.length
section
variable {X:Cx}{μ:List (θ×Obj)}{σ:List (Option V)}{H H':Hp}{s:ZH}{h':Heap}
def Cx.Ok.Kz (ok:X.Ok){b:θ}{o:Obj}(e:X.base.get? b=ν o):b∉X.fs:=λhb=>by
 have:=(ok.om.mem hb).1;rw[e]at this;cases this
def Inv.bs (I:Inv X μ σ H s):∀b o,X.base.get? b=ν o->s.heap.get? b=ν o/\H b=ξ:=λb o e =>
 {I.base.keep b o (I.ok.bs b o e).1 (I.ok.bs b o e).2 (I.ok.Kz e) (I.ok.CZ b o e),I.base.free b o (I.ok.bs b o e).1 (I.ok.bs b o e).2 (I.ok.CZ b o e)}
def Inv.bk (I:Inv X μ σ H s):∀b o,X.base.get? b=ν o->s.heap.get? b=ν o:=λb o e=>(I.bs b o e).1
def Inv.mod (I:Inv X μ σ H s):Mod X.K X.mg X.base:=I.ok.mod
def Inv.kL (I:Inv X μ σ H s):X.K.In s.heap:=I.ok.mod.SK.keeps I.bk
def Inv.lt (I:Inv X μ σ H s):X.env.locals<s.heap.objs.size:=let ⟨_,hn,_⟩:=I.loc;hn.lt
def Inv.sz (I:Inv X μ σ H s):X.s₀.heap.objs.size<=s.heap.objs.size:=aaj I.ok.above (Nat.le_of_lt I.lt)
def Inv.Sj (I:Inv X μ σ H s){a:θ}(h:s.heap.objs.size<=a):a∉X.fs:=λhb=>by
 obtain⟨_,o,ho,_⟩:=I.ok.om.mem hb;exact Η (aaq (Z6 ho) (aaj I.sz h)) (acm _)
def Inv.L_ (I:Inv X μ σ H s):∀x c,X.env.cells.lookup x=ν c->c≠X.env.locals:=λx c e z=>by
 obtain⟨v,o,ho,hd⟩:=I.cell x c e;obtain⟨m,⟨o',es,ep,w_,QK,_⟩,_⟩:=I.loc;rw[z,w_]at ho;cases ho;rw[QK]at hd;cases hd
def Inv.om (I:Inv X μ σ H s):s.heap.FunFrames X.base X.outer:=by
 have all:∀(l:List Env),(∀b∈DV l,b∈X.fs)->X.s₀.heap.FunFrames X.base l->s.heap.FunFrames X.base l:=by
  intro l
  induction l with
  |nil=>intro _ _;trivial
  |cons env r ih =>
   intro hs hl;obtain⟨hk,⟨L,o,hf,hn,ho,hd⟩,hr⟩:=hl;have hL:L∈X.fs:=hs L (by unfold DV;rw[aaU,hf];exact ZO)
   obtain⟨sl,e⟩:=I.base.slot L o ho (I.ok.MK L hL) hL λz=>I.ok.Ed L z hL;exact{hk,{L,_,hf,hn,e,hd},ih (λb hb=>hs b (by unfold DV;rw[aaU,hf];exact ZP _ hb)) hr}
 exact all X.outer (λ_ hb=>hb) I.ok.om
def Inv.stack (I:Inv X μ σ H s):s.heap.FunFrames X.base X.stack:=by
 rcases I.ok.Qq with e|⟨e,hf⟩
 ·rw[e];exact I.om
 ·rw[e];obtain⟨m,hn,_⟩:=I.loc;refine .cons (by rw[I.ok.kind];decide) hf hn ?_ I.om
  exact Heap.get?_none_of_le (aaj I.ok.Ja I.ok.above)
def Inv.vY (I:Inv X μ σ H s):∀b∈DV X.stack,b∈X.env.locals::X.fs:=λb hb=>by
 rcases I.ok.Qq with e|⟨e,hf⟩
 ·rw[e]at hb;exact ZP _ hb
 ·rw[e]at hb;unfold DV at hb;rw[aaU,hf]at hb;exact hb
def Inv.xQ (I:Inv X μ σ H s):∀b∈DV X.stack,H b=ξ:=λb hb=>by
 rcases ZI.mp (I.vY b hb)with e|hb
 ·rw[e];exact I.free
 ·obtain⟨_,o,ho,_⟩:=I.ok.om.mem hb;exact I.base.free b o ho (I.ok.MK b hb) λz=>I.ok.Ed b z hb
def Inv.step {g':Array GenState}{t':Nat}{d':Drawn}{ch:List θ}(I:Inv X μ σ H s)
  (uH:∀b∈ch,(b∈X.ex\/X.s₀.heap.objs.size<=b)/\b≠X.env.locals/\(∀x c,X.env.cells.lookup x=ν c->c≠b)/\∀p∈X.pn++μ,p.1≠b)
  (keep:∀b o,b≠X.env.locals->b∉X.fs->b∉ch->s.heap.get? b=ν o->H b=ξ->h'.get? b=ν o)
  (slot:∀b o,b≠X.env.locals->b∈X.fs->b∉ch->s.heap.get? b=ν o->H b=ξ->∃sl,h'.get? b=ν {o with slots:=sl}) (free:∀b o,b∉ch->s.heap.get? b=ν o->H b=ξ->H' b=ξ)
  (there:∀b o,b∉ch->s.heap.get? b=ν o->∃o',h'.get? b=ν o')
  (rg:∀b xs,H b=ν (.tup xs)->H' b=ν (.tup xs)) (pH:∀b o u,H b=ν (.vJ o u)->H' b=ν (.vJ o u)) (rh:∀b ps,H b=ν (.JE ps)->∃more,H' b=ν (.JE (ps++more)))
  (ns:∀m,s.heap.Ns X.env.locals m->h'.Ns X.env.locals m) (bp:i8 X.prog X.w H' h') (hg:AllBare g') :
  Inv X μ σ H' {s with heap:=h',gens:=g',drawn:=d',toks:=t'}:=by
 have VN:∀b o,X.s₀.heap.get? b=ν o->b≠X.env.locals:=λb o e=>aak (aaq (Z6 e) I.ok.above);have Qy:∀b o,X.s₀.heap.get? b=ν o->b∉X.ex->b∉ch:=λb o e hx hb=>by
  rcases (uH b hb).1 with z|z
  ·exact hx z
  ·exact Η (aaq (Z6 e) z) (acm _)
 have cellK:∀x c,X.env.cells.lookup x=ν c->∀v,s.heap.IsCell c v->h'.IsCell c v:=λx c e v jO=>by
  obtain⟨o,ho,hd⟩:=jO;have N2:c∉ch:=λz=>(uH c z).2.2.1 x c e rfl
  by_cases hc:c∈X.fs
  ·obtain⟨sl,q⟩:=slot c o (I.L_ x c e) hc N2 ho (I.iE x c e);exact{_,q,hd}
  ·exact{o,keep c o (I.L_ x c e) hc N2 ho (I.iE x c e),hd}
 refine{I.ok,I.os,hg,{λb o e n hb hx=>?_,λb o e n hb hx=>?_,λb o e n hx=>?_,λb o e hx=>?_,λb xs e=>rg b xs (I.base.rg b xs e),λb o xs e=>pH b o xs (I.base.pH b o xs e),λb ps e=>?_},?_,λx c e=>?_,?_,λx c e=>?_,λp hp=>?_,bp,I.len}
 ·exact keep b o (VN b o e) hb (Qy b o e hx) (I.base.keep b o e n hb hx) (I.base.free b o e n hx)
 ·obtain⟨sl,e1⟩:=I.base.slot b o e n hb hx;obtain⟨JP,e2⟩:=slot b _ (VN b o e) hb (Qy b o e hx) e1 (I.base.free b o e n hx);exact{(JP),e2}
 ·obtain⟨o',e1⟩:=I.base.there b o e hx;exact free b o' (Qy b o e hx) e1 (I.base.free b o e n hx)
 ·obtain⟨o',e1⟩:=I.base.there b o e hx;exact there b o' (Qy b o e hx) e1
 ·obtain⟨m1,e1⟩:=I.base.rh b ps e;obtain⟨m2,e2⟩:=rh b _ e1;exact{m1++m2,by rw[e2,Array.append_assoc]}
 ·obtain⟨m,hn,hl⟩:=I.loc;refine{m,ns m hn,λi x v e1 e2 e3=>?_};obtain⟨u,r,l⟩:=hl i x v e1 e2 e3;refine{u,r,?_};rcases l with l|⟨k,c,e,z⟩
  ·exact .inl l
  ·exact .inr {k,c,e,cellK x c e _ z}
 ·obtain⟨v,z⟩:=I.cell x c e;exact{v,cellK x c e v z}
 ·obtain⟨m,⟨o,_,_,ho,_⟩,_⟩:=I.loc;exact free _ o (λz=>(uH _ z).2.1 rfl) ho I.free
 ·obtain⟨v,o,ho,hd⟩:=I.cell x c e;exact free c o (λz=>(uH c z).2.2.1 x c e rfl) ho (I.iE x c e)
 ·obtain⟨e,n,ne,nf,d⟩:=I.pin p hp;have N2:p.1∉ch:=λz=>(uH p.1 z).2.2.2 p hp rfl;exact{keep p.1 p.2 ne nf N2 e n,free p.1 p.2 N2 e n,ne,nf,d}
def Inv.un {t':Nat}(I:Inv X μ σ H s)(u:Un X.fs [] H H' s.heap h')(bp:i8 X.prog X.w H' h'):Inv X μ σ H' {s with heap:=h',toks:=t'}:=by
 obtain⟨m,⟨o,es,ep,ho,r⟩,_⟩:=id I.loc;obtain⟨sl,hL⟩:=u.any ho I.free (by simp)
 exact I.step (g':=s.gens) (d':=s.drawn) (ch:=[]) (λ_ z=>nomatch z) (λb o _ hb _ e n=>u.keep b o e n hb (by simp)) (λb o _ hb _ e n=>u.slot b o e n hb (by simp)) (λb o _ e n=>u.free b o e n (by simp)) (λb o _ e=>u.there b o e (by simp)) u.rg u.pH u.rh (λm' hm=>by
  obtain⟨o',eU,pM,w_,r'⟩:=hm;rw[ho]at w_;cases w_;exact{_,eU,pM,hL,r'}) bp I.bare
def Inv.call {g':Array GenState}{t':Nat}{d':Drawn}{ch:List θ}(I:Inv X μ σ H s)(u:Un (DV X.stack) ch H H' s.heap h')(bp:i8 X.prog X.w H' h')(hg:AllBare g')
  (uH:∀b∈ch,(b∈X.ex\/X.s₀.heap.objs.size<=b)/\b≠X.env.locals/\(∀x c,X.env.cells.lookup x=ν c->c≠b)/\∀p∈X.pn++μ,p.1≠b) :
  Inv X μ σ H' {s with heap:=h',gens:=g',drawn:=d',toks:=t'}:=by
 obtain⟨m,⟨o,es,ep,ho,r⟩,_⟩:=id I.loc;obtain⟨sl,hL⟩:=u.any ho I.free λz=>(uH _ z).2.1 rfl;exact I.step (ch:=ch) uH (λb o hL hb hc e n=>u.keep b o e n (λz=>(ZI.mp (I.vY b z)).elim hL hb) hc) (λb o _ _ hc e n=>u.any e n hc) (λb o hc e n=>u.free b o e n hc) (λb o hc e=>u.there b o e hc) u.rg u.pH u.rh (λm' hm=>by
  obtain⟨o',eU,pM,w_,r'⟩:=hm;rw[ho]at w_;cases w_;exact{_,eU,pM,hL,r'}) bp hg
def Inv.turned {t':Nat}{it:θ}(I:Inv X μ σ H s)(k:∀b o,b≠it->s.heap.get? b=ν o->h'.get? b=ν o)(hn:H it=ξ)(hL:it≠X.env.locals)
  (h1:it∈X.ex\/X.s₀.heap.objs.size<=it) (h2:∀x c,X.env.cells.lookup x=ν c->c≠it) (h3:∀p∈X.pn++μ,p.1≠it):Inv X μ σ H {s with heap:=h',toks:=t'}:=by
 have VM:∀b u,H b=ν u->b≠it:=λb u e z=>by rw[z,hn]at e;cases e
 refine I.step (g':=s.gens) (d':=s.drawn) (ch:=[it]) (λb hb=>?_) (λb o _ _ hc e _=>k b o (λz=>hc (by simp[z])) e) (λb o _ _ hc e _=>{o.slots,k b o (λz=>hc (by simp[z])) e}) (λ_ _ _ _ n=>n)
  (λb o hc e=>{o,k b o (λz=>hc (by simp[z])) e}) (λ_ _ e=>e) (λ_ _ _ e=>e) (λb ps e=>{#[],by rw[e];simp}) (λm hm=>?_) (λb u e=>?_) I.bare
 ·have e:b=it:=by simpa using hb
  subst e;exact{(h1),hL,h2,h3}
 ·obtain⟨o,es,ep,ho,r⟩:=hm;exact{o,es,ep,k _ o (aa1 hL) ho,r}
 ·refine(I.bp b u e).s_ (λc v hc q=>k c v ?_ q) (λ_ q=>q) λ_ _ q=>q;rcases hc with z|z
  ·rw[z];exact VM b u e
  ·exact VM c _ z
def Inv.tok (I:Inv X μ σ H s)(t:Nat):Inv X μ σ H {s with toks:=t}:=I.un (h':=s.heap) (t':=t) Un.refl I.bp
def Inv.kept {t':Nat}(I:Inv X μ σ H s)(k:∀b u,s.heap.get? b=ν u->h'.get? b=ν u):Inv X μ σ H {s with heap:=h',toks:=t'}:=I.un (Un.kept k) (I.bp.kept k)
def Inv.laid {a:θ}{o:HO}{t':Nat}(I:Inv X μ σ H s)(k:∀b u,s.heap.get? b=ν u->h'.get? b=ν u)(hp:s.heap.objs.size<=a)(new:a9 X.prog X.w (upd H a o) h' a o):
  Inv X μ σ (upd H a o) {s with heap:=h',toks:=t'}:=I.un (Un.laid k hp (I.bp.fresh hp)) (I.bp.laid k hp new)
def Inv.write {x e:θ}{o:HO}{t':Nat}(I:Inv X μ σ H s)(mu:Qb (H x))(he:e=x\/H e=ν (.own x))(k:∀b u,b≠e->s.heap.get? b=ν u->h'.get? b=ν u)(MH:∃u,h'.get? e=ν u)
  (new:a9 X.prog X.w (upd H x o) h' x o):Inv X μ σ (upd H x o) {s with heap:=h',toks:=t'}:=I.un (Un.write mu he k MH) (I.bp.write mu he k MH new)
def Inv.yj {Ie:List (θ×Obj)}(I:Inv X μ σ H s)(h:∀p∈Ie,s.heap.get? p.1=ν p.2/\H p.1=ξ/\p.1≠X.env.locals/\p.1∉X.fs/\∀v,p.2.data≠.cell v):Inv X Ie σ H s :=
 {I.ok,I.os,I.bare,I.base,I.loc,I.cell,I.free,I.iE,λp hp=>(ZT.mp hp).elim (λz=>I.pin p (aaA _ z)) (h p),I.bp,I.len}
def t6 {N:List Str}(hN:N.Nodup){i j:Nat}{x:Str}(a:N[i]?=ν x)(b:N[j]?=ν x):i=j:=by
 obtain⟨h1,e1⟩:=Z1.mp a;obtain⟨h2,e2⟩:=Z1.mp b;exact(List.getElem_inj hN).mp (e1.trans e2.symm)
def p0 {M:Model}{A:aaJ}{E:ZF->ZH->Prop}{i:Nat}{x:Str}{v:V}{u:ZF}{Q:Unit->ZH->Prop}(I:Inv X μ σ H s)(hN:X.N.Nodup)(hi:X.N[i]?=ν x)(hx:Loc X.env.scope x)(r:RelV v u)
  (h:∀s',Inv X μ (σ.set i (ν v)) H s'->(∃a,abr a s.heap s'.heap/\(a=X.env.locals\/X.env.cells.lookup x=ν a))->Q () s') (hf:X.fn x=ζ\/X.env.scope.names.lookup x=ν .local:=by first|exact .inl rfl|exact .inr rfl|assumption):aab M A (storeName X.env x u) Q E s:=by
 obtain⟨m,hn,hl⟩:=id I.loc;have Uw:(X.env.scope.kind==.class || (X.env.scope.kind==.module&&X.env.locals != X.env.globals))=η:=by rw[I.ok.kind];rfl
 have Pl:i<σ.length:=by rw[I.len];exact(Z1.mp hi).1
 have L_:=I.L_;have tracked:∀{a:θ} {h':Heap},(∃o,s.heap.get? a=ν o/\H a=ξ)->abr a s.heap h'->i8 X.prog X.w H h':=λ{a h'} ha hs b ob e=>by
  obtain⟨_,_,IL⟩:=ha;refine(I.bp b ob e).s_ (λc w' hc q=>(hs.2 c ?_).trans q) (λ_ q=>q) λ_ _ q=>q;rintro rfl;rcases hc with rfl|hc
  ·rw[IL]at e;cases e
  ·rw[IL]at hc;cases hc
 rcases hx with hk|hk
 ·refine wpAny_storeName_local hk hn (λh' Hd hs=>?_) Uw;obtain⟨oL,_,_,X7,_⟩:=id hn;refine h _ {I.ok,I.os,I.bare,{λb o e n hb hx=>?_,λb o e n hb hx=>?_,I.base.free,λb o e hx=>?_,I.base.rg,I.base.pH,I.base.rh},{_,Hd,λj y v' e1 e2 e3=>?_},λy c e=>?_,I.free,I.iE,λp hp=>?_,tracked {(oL),X7,I.free} hs,by simpa using I.len} {_,hs,.inl rfl}
  ·exact(hs.2 b (aak (aaq (Z6 e) I.ok.above))).trans (I.base.keep b o e n hb hx)
  ·obtain⟨sl,e1⟩:=I.base.slot b o e n hb hx;exact{sl,(hs.2 b (aak (aaq (Z6 e) I.ok.above))).trans e1}
  ·obtain⟨o',e1⟩:=I.base.there b o e hx;exact{o',(hs.2 b (aak (aaq (Z6 e) I.ok.above))).trans e1}
  ·by_cases hj:j=i
   ·subst hj;rw[hi]at e1;cases e1;rw[List.getElem?_set_self Pl]at e2;cases e2;exact{u,r,.inl {hk,by simp}}
   ·rw[List.getElem?_set_ne (aa1 hj)]at e2;obtain⟨u',r',q⟩:=hl j y v' e1 e2 e3;refine{u',r',?_};rcases q with⟨k,e⟩|⟨k,c,e,z⟩
    ·refine .inl {k,?_};have:y≠x:=λe=>hj (t6 hN e1 (e▸hi));simp[this,e]
    ·exact .inr {k,c,e,z.sameBut hs (L_ y c e)}
  ·obtain⟨w',z⟩:=I.cell y c e;exact{w',z.sameBut hs (L_ y c e)}
  ·obtain⟨e,n,ne,nf,d⟩:=I.pin p hp;exact{(hs.2 p.1 ne).trans e,n,ne,nf,d}
 ·have Ur:X.fn x=ζ:=by
   rcases hf with z|z
   ·exact z
   ·rw[z]at hk;cases hk
  obtain⟨c,hc⟩:=I.ok.has x (.inl hk);obtain⟨w',z⟩:=I.cell x c hc;refine wpAny_storeName_cell I.ok.kind hk hc z (λh' lY hs=>?_);obtain⟨oc,LA,TQ⟩:=id z;refine h {s with heap:=h'} {I.ok,I.os,I.bare,{λb o e n hb hx=>?_,λb o e n hb hx=>?_,I.base.free,λb o e hx=>?_,I.base.rg,I.base.pH,I.base.rh},{m,hn.sameBut hs (aa1 (L_ x c hc)),λj y v' e1 e2 e3=>?_},λy c' e=>?_,I.free,I.iE,λp hp=>?_,tracked {oc,LA,I.iE x c hc} hs,by simpa using I.len} {c,hs,.inr hc}
  ·exact(hs.2 b (aak (aaq (Z6 e) (I.ok.P4 x c Ur hc)))).trans (I.base.keep b o e n hb hx)
  ·obtain⟨sl,e1⟩:=I.base.slot b o e n hb hx;exact{sl,(hs.2 b (aak (aaq (Z6 e) (I.ok.P4 x c Ur hc)))).trans e1}
  ·obtain⟨o',e1⟩:=I.base.there b o e hx;exact{o',(hs.2 b (aak (aaq (Z6 e) (I.ok.P4 x c Ur hc)))).trans e1}
  ·by_cases hj:j=i
   ·subst hj;rw[hi]at e1;cases e1;rw[List.getElem?_set_self Pl]at e2;cases e2;exact{u,r,.inr {.inl hk,c,hc,lY}}
   ·rw[List.getElem?_set_ne (aa1 hj)]at e2;obtain⟨u',r',q⟩:=hl j y v' e1 e2 e3;refine{u',r',?_};rcases q with q|⟨k,c',e,z'⟩
    ·exact .inl q
    ·refine .inr {k,c',e,z'.sameBut hs ?_};rintro rfl;exact hj (t6 hN e1 (I.ok.inj _ _ _ e hc▸hi))
  ·by_cases IM:c'=c
   ·subst IM;exact{_,lY}
   ·obtain⟨w2,z2⟩:=I.cell y c' e;exact{w2,z2.sameBut hs IM}
  ·obtain⟨e,n,ne,nf,d⟩:=I.pin p hp;refine{(hs.2 p.1 ?_).trans e,n,ne,nf,d};intro q;rw[q,LA]at e;have q':oc=p.2:=aao e;exact d w' (by rw[<- q'];exact TQ)
def s9 {M:Model}{A:aaJ}{E:ZF->ZH->Prop}{i:Nat}{x:Str}{v:V}{u:ZF}{Q:Unit->ZH->Prop}(I:Inv X μ σ H s)(hN:X.N.Nodup)(hi:X.N[i]?=ν x)(hx:Loc X.env.scope x)(r:RelV v u)
  (h:∀s',Inv X μ (σ.set i (ν v)) H s'->Q () s') (hf:X.fn x=ζ\/X.env.scope.names.lookup x=ν .local:=by first|exact .inl rfl|exact .inr rfl|assumption):aab M A (storeName X.env x u) Q E s :=
 p0 I hN hi hx r (λs' I' _=>h s' I') hf
def Inv.P2 {s':ZH}{ch:List θ}(I:Inv X μ σ H s)(ho:s'.os=s.os)(u:Un (DV X.stack) ch H H' s.heap s'.heap)(bp:i8 X.prog X.w H' s'.heap)(hg:AllBare s'.gens)
  (uH:∀b∈ch,(b∈X.ex\/X.s₀.heap.objs.size<=b)/\b≠X.env.locals/\(∀x c,X.env.cells.lookup x=ν c->c≠b)/\∀p∈X.pn++μ,p.1≠b):Inv X μ σ H' s':=by
 obtain⟨h',g',d',t',o'⟩:=s';have e:o'=s.os:=ho;subst e;exact I.call (g':=g') (t':=t') (d':=d') u bp hg uH
end
abbrev XK:=ZF->Option θ->Hp->Prop
abbrev St:=List (Option V)
abbrev VK:=V->Hp->Prop
abbrev TE:=St->Hp->VK->Prop
abbrev TT:=St->Hp->(Bool->Hp->Prop)->Prop
abbrev TA:=St->Hp->(List V->Hp->Prop)->Prop
structure Ends where
 nx:St->Hp->Prop
 rt:VK
 bk:St->Hp->Prop:=λ_ _=>False
 ct:St->Hp->Prop:=λ_ _=>False
abbrev TS:=Ends->St->Hp->Prop
def EP (X:Cx)(μ:List (θ×Obj))(σ:St)(Q:VK)(u:ZF)(s':ZH):Prop:=∃v H',Inv X μ σ H' s'/\RelV v u/\Q v H'
def TP (X:Cx)(μ:List (θ×Obj))(σ:St)(Q:Bool->Hp->Prop)(b:Bool)(s':ZH):Prop:=∃H',Inv X μ σ H' s'/\Q b H'
def AP (X:Cx)(μ:List (θ×Obj))(σ:St)(Q:List V->Hp->Prop)(us:List ZF)(s':ZH):Prop:=∃vs H',Inv X μ σ H' s'/\Vals vs us/\Q vs H'
def SP (X:Cx)(μ:List (θ×Obj))(D:Ends)(f:Flow)(s':ZH):Prop :=
 match f with
 |.next=>∃σ' H',Inv X μ σ' H' s'/\D.nx σ' H'
 |.brk=>∃σ' H',Inv X μ σ' H' s'/\D.bk σ' H'
 |.cont=>∃σ' H',Inv X μ σ' H' s'/\D.ct σ' H'
 |.ret u=>∃v σ' H',Inv X μ σ' H' s'/\RelV v u/\D.rt v H'
def PE (X:Cx)(e:Expr)(t:TE):Prop :=
 ∀(μ:List (θ×Obj)) (s:ZH) (σ:St) (H:Hp) (Q:VK),Inv X μ σ H s->t σ H Q->aab (Ψ X.prog X.w) X.A (eval e X.env) (EP X μ σ Q) X.xe s
def PT (X:Cx)(e:Expr)(t:TT):Prop :=
 ∀(μ:List (θ×Obj)) (s:ZH) (σ:St) (H:Hp) (Q:Bool->Hp->Prop),Inv X μ σ H s->t σ H Q->aab (Ψ X.prog X.w) X.A (isTrue e X.env (eval e X.env)) (TP X μ σ Q) X.xe s
def PW (X:Cx)(e:Expr)(t:TT):Prop :=
 ∀(whole:Sem ZF) (μ:List (θ×Obj)) (s:ZH) (σ:St) (H:Hp) (Q:Bool->Hp->Prop),Inv X μ σ H s->t σ H Q->aab (Ψ X.prog X.w) X.A (isTrue e X.env whole) (TP X μ σ Q) X.xe s
def PW.pt {X:Cx}{e:Expr}{t:TT}(h:PW X e t):PT X e t:=h _
def PA (X:Cx)(es:List Expr)(t:TA):Prop :=
 ∀(pos:Pos) (μ:List (θ×Obj)) (s:ZH) (σ:St) (H:Hp) (Q:List V->Hp->Prop),Inv X μ σ H s->t σ H Q->aab (Ψ X.prog X.w) X.A (spliced (abI pos (Z2 es X.env))) (AP X μ σ Q) X.xe s
def PS (X:Cx)(st:Stmt)(t:TS):Prop :=
 ∀(μ:List (θ×Obj)) (s:ZH) (σ:St) (H:Hp) (D:Ends),Inv X μ σ H s->t D σ H->aab (Ψ X.prog X.w) X.A (exec st X.env) (SP X μ D) X.xe s
def vL (X:Cx)(st:List Stmt)(t:TS):Prop :=
 ∀(μ:List (θ×Obj)) (s:ZH) (σ:St) (H:Hp) (D:Ends),Inv X μ σ H s->t D σ H->aab (Ψ X.prog X.w) X.A (execs st X.env) (SP X μ D) X.xe s
def bP {α:Type}{t:Sem α}{Q Q':α->ZH->Prop}{M:Model}{A:aaJ}{E:ZF->ZH->Prop}{s:ZH}(h:aab M A t Q E s)(hQ:∀a s,Q a s->Q' a s):aab M A t Q' E s:=acP h hQ λ_ _ x=>x
section
variable {X:Cx}
def JG (i:Nat):TE:=λσ H Q=>∃v,σ[i]?=ν (ν v)/\Q v H
def tC (v:V):TE:=λ_ H Q=>Q v H
def wu {i:Nat}{x:Str}{pos:Pos}(hN:X.N[i]?=ν x)(hv:Mp X.env.scope x)(hd:(x==("__debug__" : Str))=η:=by decide)(Bm:(x==("__classdict__" : Str))=η:=by decide):PE X (.Name x pos) (JG i):=by
 intro μ s σ H Q I h;obtain⟨v,e,h⟩:=h;obtain⟨m,hn,hl⟩:=I.loc;obtain⟨u,r,l⟩:=hl i x v hN e hv;have fin:EP X μ σ Q u s:={(v),H,I,r,h};rcases l with⟨hk,hm⟩|⟨hk,c,hc,qE⟩
 ·exact wpAny_Name (wpAny_loadName_local I.ok.kind hk hn hm fin) hd
 ·rcases hk with hk|hk
  ·exact wpAny_Name (wpAny_loadName_cell I.ok.kind hk hc qE fin) hd
  ·exact wpAny_Name (wpAny_loadName_free I.ok.kind hk hc qE fin Bm) hd
def bj {i j pos}:PE X (.Constant (.int i) j pos) (tC (.int i)):=λ_ _ _ H _ I h=>wpAny_Constant_int {.int i,H,I.tok _,{_,rfl},h}
def Ih {b j pos}:PE X (.Constant (.bool b) j pos) (tC (.bl b)):=λ_ _ _ H _ I h=>Constant_bool {.bl b,H,I,rfl,h}
def Kb {j pos}:PE X (.Constant .none j pos) (tC .cf):=λ_ _ _ H _ I h=>Constant_none {.cf,H,I,rfl,h}
def Gl (X:Cx)(x:Str):Prop:=X.env.kindOf x=ν .globalImplicit
def GX {E:ZF->ZH->Prop}{μ:List (θ×Obj)}{s:ZH}{σ:St}{H:Hp}{x:Str}{u:ZF}{pos:Pos}{Q:ZF->ZH->Prop}(I:Inv X μ σ H s)(hg:Gl X x)(hm:X.mg x=ν u)(h:Q u s)
  (hd:(x==("__debug__" : Str))=η:=by decide):aab (Ψ X.prog X.w) X.A (eval (.Name x pos) X.env) Q E s :=
 Calls.Name_function_global I.ok.kind hg (Calls.loadGlobal_global (by rw[I.ok.glob];exact I.mod.glob.keeps I.bk) hm h) hd
def gI {E:ZF->ZH->Prop}{μ:List (θ×Obj)}{s:ZH}{σ:St}{H:Hp}{x:Str}{u:ZF}{pos:Pos}{Q:ZF->ZH->Prop}(I:Inv X μ σ H s)(hg:Gl X x)(hm:X.mg x=ξ)(hv:aaF x=ν u)(h:Q u s)
  (hn:x≠"__name__" := by decide) (hd:(x==("__debug__" : Str))=η:=by decide):aab (Ψ X.prog X.w) X.A (eval (.Name x pos) X.env) Q E s:=by
 obtain⟨mb,h1,h2⟩:=I.mod.blt;exact Calls.Name_function_global I.ok.kind hg (Calls.loadGlobal_builtin (by rw[I.ok.glob];exact I.mod.glob.keeps I.bk) hm (by rw[I.ok.blt];exact h1.keeps I.bk) ((h2 x hn).trans hv) h) hd
def rN {x:Str}{v:V}{u:ZF}{pos:Pos}(hg:Gl X x)(hm:X.mg x=ξ)(hv:aaF x=ν u)(r:RelV v u)(hn:x≠"__name__" := by decide)(hd:(x==("__debug__" : Str))=η:=by decide):PE X (.Name x pos) (tC v) :=
 λ_ _ _ H _ I h=>gI I hg hm hv {(v),H,I,r,h} hn hd
variable {a b:Expr}{ta tb:TE}{pos:Pos}
def t7 (b:Expr){op:acW}(h:op≠.In)(h2:op≠.NotIn):ab5 op b=η:=by
 have e1:(op==CmpOp.In)=η:=by cases op <;> first|rfl|exact Η rfl h
 have e2:(op==CmpOp.NotIn)=η:=by cases op <;> first|rfl|exact Η rfl h2
 cases b <;> simp[ab5,e1,e2]
def tB (t:TE):TT:=λσ H Q=>t σ H λx H1=>∃c,x=.bl c/\Q c H1
def J0 {e:Expr}{t:TE}(h:PE X e t)(he:∀whole,isTrue e X.env whole=(do let v <- whole;ac0 e.pos;holding [v] (truthy v)):=by intro _;rfl):PT X e (tB t):=by
 intro μ s σ H Q I hw;refine isTrue_plain (bP (h μ s σ H _ I hw) λv s1 ⟨x,H1,I1,r1,q1⟩=>?_) (he _);obtain⟨d,rfl,q⟩:=q1;cases r1;exact abf {(H1),I1,q}
variable {tA Qp:TT}{rest:List Expr}
def Rq (t u:TT):TT:=λσ H Q=>t σ H λc H1=>if c=ζ then u σ H1 Q else Q η H1
def W4 (t u:TT):TT:=λσ H Q=>t σ H λc H1=>if c=ζ then Q ζ H1 else u σ H1 Q
def Rk (t:TT):TT:=λσ H Q=>t σ H λc H1=>Q (!c) H1
def pw_and1 (ha:PT X a tA):PW X (.BoolOp .And [a] pos) tA:=by
 intro wh μ s σ H Q I h;refine isTrue_and (bP (ha μ s σ H Q I h) λc s1 e=>?_);cases c with
 |true=>exact isTrue_and_nil e
 |false=>exact e
def pw_or1 (ha:PT X a tA):PW X (.BoolOp .Or [a] pos) tA:=by
 intro wh μ s σ H Q I h;refine isTrue_or (bP (ha μ s σ H Q I h) λc s1 e=>?_);cases c with
 |false=>exact isTrue_or_nil e
 |true=>exact e
def pw_and (ha:PT X a tA)(hb:PW X (.BoolOp .And (b::rest) pos) Qp):PW X (.BoolOp .And (a::b::rest) pos) (Rq tA Qp):=by
 intro wh μ s σ H Q I h;refine isTrue_and (bP (ha μ s σ H _ I h) λc s1 ⟨H1,I1,q1⟩=>?_);cases c with
 |true=>exact hb wh μ s1 σ H1 Q I1 q1
 |false=>exact{(H1),I1,q1}
def pw_or (ha:PT X a tA)(hb:PW X (.BoolOp .Or (b::rest) pos) Qp):PW X (.BoolOp .Or (a::b::rest) pos) (W4 tA Qp):=by
 intro wh μ s σ H Q I h;refine isTrue_or (bP (ha μ s σ H _ I h) λc s1 ⟨H1,I1,q1⟩=>?_);cases c with
 |true=>exact{(H1),I1,q1}
 |false=>exact hb wh μ s1 σ H1 Q I1 q1
def J1 (ha:PT X a tA):PT X (.UnaryOp .Not a pos) (Rk tA):=by
 intro μ s σ H Q I h;exact isTrue_not (ha μ s σ H (λc H1=>Q (!c) H1) I h)
def Na (ta tb:TE):TE:=λσ H Q=>ta σ H λx H1=>∃c,x=.bl c/\if c=ζ then tb σ H1 Q else Q (.bl η) H1
def Rj (ta tb:TE):TE:=λσ H Q=>ta σ H λx H1=>∃c,x=.bl c/\if c=ζ then Q (.bl ζ) H1 else tb σ H1 Q
def M5 (ta:TE):TE:=λσ H Q=>ta σ H λx H1=>∃c,x=.bl c/\Q (.bl (!c)) H1
def J_ {op}{t:TE}(h:PE X a t):PE X (.BoolOp op [a] pos) t:=λμ s σ H Q I hw=>BoolOp_one (h μ s σ H Q I hw)
def Kf (ha:PE X a ta)(hb:PE X (.BoolOp .And (b::rest) pos) tb):PE X (.BoolOp .And (a::b::rest) pos) (Na ta tb):=by
 intro μ s σ H Q I h;refine BoolOp_and (bP (ha μ s σ H _ I h) λv s1 ⟨x,H1,I1,r1,q1⟩=>?_);obtain⟨c,rfl,q1⟩:=q1;cases r1;refine abf ?_;cases c with
 |true=>exact hb μ s1 σ H1 Q I1 q1
 |false=>exact{.bl η,H1,I1,rfl,q1}
def NJ (ha:PE X a ta)(hb:PE X (.BoolOp .Or (b::rest) pos) tb):PE X (.BoolOp .Or (a::b::rest) pos) (Rj ta tb):=by
 intro μ s σ H Q I h;refine BoolOp_or (bP (ha μ s σ H _ I h) λv s1 ⟨x,H1,I1,r1,q1⟩=>?_);obtain⟨c,rfl,q1⟩:=q1;cases r1;refine abf ?_;cases c with
 |false=>exact hb μ s1 σ H1 Q I1 q1
 |true=>exact{.bl ζ,H1,I1,rfl,q1}
def Ka (ha:PE X a ta):PE X (.UnaryOp .Not a pos) (M5 ta):=by
 intro μ s σ H Q I h;refine UnaryOp_ (bP (ha μ s σ H _ I h) λv s1 ⟨x,H1,I1,r1,q1⟩=>?_);obtain⟨c,rfl,q1⟩:=q1;cases r1;exact not_of (abf {.bl (!c),H1,I1,rfl,q1})
end
def dJ (K:Ξ)(H:Hp)(a:θ)(xs:List V):Prop :=
 Rd H a (.lst xs) \/
  ∃(o:Obj) (its:Array ZF) (n:Nat),K.lookup a=ν o/\o.cls=.type "list" /\ o.dict=ξ/\o.data=.seq its n/\its.size<=Z3/\Vals xs its.toList
def lh (K:Ξ)(H:Hp)(a:θ)(xs:List V):Prop :=
 Rd H a (.tup xs) \/
  ∃(o:Obj) (its:Array ZF) (n:Nat),K.lookup a=ν o/\o.cls=.type "tuple" /\ o.data=.seq its n/\its.size<=Z3/\Vals xs its.toList
noncomputable def U5:ZF->Option V
 |.none=>ν .cf
 |.bool b=>ν (.bl b)
 |.int i _=>ν (.int i)
 |.str x _=>ν (.str x)
 |.bytes b _=>ν (.HM b)
 |.float b _=>ν (.LX b)
 |.ref a=>ν (.ref a)
 |.type n=>ν (.ty n)
 |_=>ξ
def RelV.abs {x:V}{u:ZF}(r:RelV x u):U5 u=ν x:=by
 cases x with
 |cf=>cases r;rfl
 |bl _=>cases r;rfl
 |int _=>obtain⟨t,rfl⟩:=r;rfl
 |str _=>obtain⟨t,rfl⟩:=r;rfl
 |HM _=>obtain⟨t,rfl⟩:=r;rfl
 |LX _=>obtain⟨t,rfl⟩:=r;rfl
 |ref _=>cases r;rfl
 |ty _=>cases r;rfl
def RelV.inj {x y:V}{u:ZF}(r:RelV x u)(q:RelV y u):x=y:=aao (r.abs.symm.trans q.abs)
theorem Vals.inj:∀{xs ys:List V} {us:List ZF},Vals xs us->Vals ys us->xs=ys
 |_,_,_,.nil,.nil=>rfl
 |_,_,_,.cons r t,.cons r' t'=>by rw[r.inj r',Vals.inj t t']
section
variable {X:Cx}{μ:List (θ×Obj)}{σ:St}{H:Hp}{s:ZH}{a:θ}{xs ys:List V}
def dJ.of {K:Ξ}(h:H a=ν (.lst xs)):dJ K H a xs:=.inl (.inl h)
def lh.of {K:Ξ}(h:H a=ν (.tup xs)):lh K H a xs:=.inl (.inl h)
def Inv.list (I:Inv X μ σ H s)(h:dJ X.K H a xs):∃its:List ZF,Vals xs its/\PlainL s.heap a its.toArray/\xs.length<=Z3:=by
 rcases h with h|⟨o,its,n,hk,hc,hd,hs,hz,r⟩
 ·obtain⟨z,its,n,r,e⟩:=h.ok I.bp;exact{its,r,{_,n,e,rfl,rfl,rfl},z}
 ·refine{its.toList,r,{o,n,I.kL a o hk,hc,hd,by simpa using hs},?_}
  have e:=r.length;simp only[ZX]at e;lia
def Inv.tuple (I:Inv X μ σ H s)(h:lh X.K H a xs):∃its:List ZF,Vals xs its/\IsTup s.heap a its.toArray/\xs.length<=Z3:=by
 rcases h with h|⟨o,its,n,hk,hc,hs,hz,r⟩
 ·obtain⟨z,its,r,p⟩:=h.ok I.bp;exact{(its),r,p,z}
 ·refine{its.toList,r,{o,I.kL a o hk,hc,n,by simpa using hs},?_}
  have e:=r.length;simp only[ZX]at e;lia
def Inv.Dh (I:Inv X μ σ H s)(h:dJ X.K H a xs)(h':dJ X.K H a ys):xs=ys:=by
 obtain⟨its,r,⟨o,n,e,_,_,d⟩,_⟩:=I.list h;obtain⟨its',r',⟨o',n',e',_,_,d'⟩,_⟩:=I.list h';rw[e]at e';cases e';rw[d]at d';injection d' with d1 _
 have:its=its':=by simpa using Ι Array.toList d1
 subst this;exact r.inj r'
def Inv.zB (I:Inv X μ σ H s)(h:lh X.K H a xs)(h':lh X.K H a ys):xs=ys:=by
 obtain⟨its,r,⟨o,e,_,n,d⟩,_⟩:=I.tuple h;obtain⟨its',r',⟨o',e',_,n',d'⟩,_⟩:=I.tuple h';rw[e]at e';cases e';rw[d]at d';injection d' with d1 _
 have:its=its':=by simpa using Ι Array.toList d1
 subst this;exact r.inj r'
end
noncomputable abbrev Cx.o_ (X:Cx)(E:ZF->ZH->Prop):Cx:={X with xe:=E}
abbrev Cx.Il (X:Cx):Cx:=X.o_ λ_ _=>False
noncomputable def Cx.Ok.o_ {X:Cx}(ok:X.Ok)(E:ZF->ZH->Prop):(X.o_ E).Ok :=
 {(ok.mod),ok.kind,ok.glob,ok.blt,ok.above,ok.inj,ok.has,ok.P4,ok.hd,ok.frames,ok.Qq,ok.QP,ok.bs,ok.Ja,ok.CZ,ok.Ed,ok.om,ok.MK}
def Cx.Ok.gu {X:Cx}{E:ZF->ZH->Prop}(ok:(X.o_ E).Ok):X.Ok :=
 {(ok.mod),ok.kind,ok.glob,ok.blt,ok.above,ok.inj,ok.has,ok.P4,ok.hd,ok.frames,ok.Qq,ok.QP,ok.bs,ok.Ja,ok.CZ,ok.Ed,ok.om,ok.MK}
section
variable {X:Cx}{μ:List (θ×Obj)}{σ:St}{H:Hp}{s:ZH}{E:ZF->ZH->Prop}
noncomputable def Inv.o_ (I:Inv X μ σ H s)(E:ZF->ZH->Prop):Inv (X.o_ E) μ σ H s:={I.ok.o_ E,I.os,I.bare,I.base,I.loc,I.cell,I.free,I.iE,I.pin,I.bp,I.len}
def Inv.gu (I:Inv (X.o_ E) μ σ H s):Inv X μ σ H s:={(I.ok.gu),I.os,I.bare,I.base,I.loc,I.cell,I.free,I.iE,I.pin,I.bp,I.len}
def SP.gu {D:Ends}{f:Flow}{s':ZH}(h:SP (X.o_ E) μ D f s'):SP X μ D f s':=by
 cases f with
 |next=>obtain⟨σ',H',I,q⟩:=h;exact{(σ'),H',I.gu,q}
 |brk=>obtain⟨σ',H',I,q⟩:=h;exact{(σ'),H',I.gu,q}
 |cont=>obtain⟨σ',H',I,q⟩:=h;exact{(σ'),H',I.gu,q}
 |ret u=>obtain⟨v,σ',H',I,r,q⟩:=h;exact{(v),σ',H',I.gu,r,q}
def vL.Il {st:List Stmt}{t:TS}(h:vL X.Il st t):vL X st t:=λμ s σ H D I hw =>
 acP (h μ s σ H D (I.o_ _) hw) (λ_ _ q=>q.gu) λ_ _ z=>ace z
end
section
variable {X:Cx}{st:Stmt}{rest:List Stmt}{t u:TS}{e:Expr}{te:TE}{pos:Pos}
def M6:TS:=λD σ H=>D.nx σ H
def Rh (t u:TS):TS:=λD σ H=>t {D with nx:=u D} σ H
def ye:vL X [] M6:=λ_ _ σ H _ I h=>wpAny_execs_nil {(σ),H,I,h}
def eD (h1:PS X st t)(h2:vL X rest u):vL X (st::rest) (Rh t u):=by
 intro μ s σ H D I h;refine wpAny_execs_cons (bP (h1 μ s σ H {D with nx:=u D} I h) λf s1 q=>?_)
 cases f with
 |next =>
  obtain⟨σ',H',I',q⟩:=q;exact h2 μ s1 σ' H' D I' q
 |ret v=>exact q
 |brk=>exact q
 |cont=>exact q
def js (h1:PS X st t):vL X [st] t:=by
 intro μ s σ H D I h;refine wpAny_execs_cons (bP (h1 μ s σ H D I h) λf s1 q=>?_);cases f with
 |next=>exact wpAny_execs_nil q
 |ret v=>exact q
 |brk=>exact q
 |cont=>exact q
def Inv.quiet {μ:List (θ×Obj)}{σ:St}{H:Hp}{s:ZH}(I:Inv X μ σ H s):interactive X.env=η:=by simp[interactive,I.ok.kind]
def M8 (te:TE):TS:=λD σ H=>te σ H λ_ H1=>D.nx σ H1
def mn (he:PE X e te)(hs:ab4 e ξ pos.line X.env=pure η:=by rfl):PS X (.Expr e pos) (M8 te):=by
 intro μ s σ H D I h;exact wpAny_Expr_any (bP (he μ s σ H _ I h) λv s1 DF=>by obtain⟨x,H1,I1,r1,q1⟩:=DF;exact{(σ),H1,I1,q1}) I.quiet hs
def Ri (te:TE):TS:=λD σ H=>te σ H D.rt
def iR (he:PE X e te):PS X (.Return (ν e) pos) (Ri te):=by
 intro μ s σ H D I h;exact wpAny_Return_some (bP (he μ s σ H _ I h) λv s1 DE=>by obtain⟨x,H1,I1,r1,q1⟩:=DE;exact{(x),σ,H1,I1,r1,q1})
def Rm (c:TT)(t u:TS):TS:=λD σ H=>c σ H λb H1=>if b=ζ then t D σ H1 else u D σ H1
def Ic {c:Expr}{a b:List Stmt}{tc:TT}(hc:PT X c tc)(ha:vL X a t)(hb:vL X b u):PS X (.If c a b pos) (Rm tc t u):=by
 intro μ s σ H D I h;refine wpAny_If (bP (hc μ s σ H _ I h) λd s1 ⟨H1,I1,q1⟩=>?_);cases d with
 |true=>exact ha μ s1 σ H1 D I1 q1
 |false=>exact hb μ s1 σ H1 D I1 q1
end
abbrev TG:=V->St->Hp->(St->Hp->Prop)->Prop
abbrev Jb:=List V->St->Hp->(St->Hp->Prop)->Prop
def PG (X:Cx)(target:Expr)(t:TG):Prop :=
 ∀(μ:List (θ×Obj)) (s:ZH) (σ:St) (H:Hp) (v:V) (u:ZF) (Q:St->Hp->Prop),Inv X μ σ H s->RelV v u->t v σ H Q ->
  aab (Ψ X.prog X.w) X.A (assign target X.env u) (λ_ s'=>∃σ' H',Inv X μ σ' H' s'/\Q σ' H') X.xe s
def Je (X:Cx)(ts:List Expr)(t:Jb):Prop :=
 ∀(μ:List (θ×Obj)) (s:ZH) (σ:St) (H:Hp) (vs:List V) (us:List ZF) (Q:St->Hp->Prop),Inv X μ σ H s->Vals vs us->t vs σ H Q ->
  aab (Ψ X.prog X.w) X.A (assignInOrder ((abJ ts X.env).map (·.2)) us) (λ_ s'=>∃σ' H',Inv X μ σ' H' s'/\Q σ' H') X.xe s
abbrev Mq:=V->V->V->Hp->(Hp->Prop)->Prop
def P_ (X:Cx)(t:Mq):Prop :=
 ∀(μ:List (θ×Obj)) (s:ZH) (σ:St) (H:Hp) (o i v:V) (ov iv u:ZF) (Q:Hp->Prop),Inv X μ σ H s->RelV o ov->RelV i iv->RelV v u->t o i v H Q ->
  aab (Ψ X.prog X.w) X.A (setItem ov iv u) (λ_ s'=>∃H',Inv X μ σ H' s'/\Q H') X.xe s
section
variable {X:Cx}{pos:Pos}
def yK (i:Nat):TG:=λv σ H Q=>Q (σ.set i (ν v)) H
def yo {i:Nat}{x:Str}(hN:X.N.Nodup)(hi:X.N[i]?=ν x)(hx:Loc X.env.scope x)(hf:X.fn x=ζ\/X.env.scope.names.lookup x=ν .local:=by first|exact .inl rfl|exact .inr rfl|assumption):PG X (.Name x pos) (yK i):=by
 intro μ s σ H v u Q I r h;exact wpAny_assign_Name (s9 I hN hi hx r (λs' I'=>{_,H,I',h}) hf)
def LS:Jb:=λvs σ H Q=>vs=[]/\Q σ H
def DT (t:TG)(u:Jb):Jb:=λvs σ H Q=>∃v r,vs=v::r/\t v σ H λσ' H'=>u r σ' H' Q
def F_:Je X [] LS:=by
 intro μ s σ H vs us Q I r h;obtain⟨e,h⟩:=h;subst e;cases r;exact assignInOrder_nil {(σ),H,I,h}
def CD {e:Expr}{es:List Expr}{t:TG}{u:Jb}(h1:PG X e t)(h2:Je X es u)
  (hs:(abJ (e::es) X.env).map (·.2)=assign e X.env::(abJ es X.env).map (·.2):=by rfl):Je X (e::es) (DT t u):=by
 intro μ s σ H vs us Q I r h;obtain⟨v,vr,e1,h⟩:=h;subst e1;cases r with
 |cons r rr =>
  rw[hs];refine assignInOrder_cons (bP (h1 μ s σ H _ _ _ I r h) λ_ s1 ⟨σ1,H1,I1,q1⟩=>?_);exact h2 μ s1 σ1 H1 _ _ Q I1 rr q1
def UG (K:Ξ)(n:Nat)(t:Jb):TG:=λv σ H Q=>∃a xs,v=.ref a/\lh K H a xs/\xs.length=n/\t xs σ H Q
def J9 {es:List Expr}{k:Nat}{t:Jb}{n:Nat}(hc:X.calm=ζ)(h:Je X es t)
  (hn:(abJ es X.env).length=n:=by rfl) (OH:(abJ es X.env).findIdx? (·.1)=ξ:=by rfl):PG X (.Tuple es k pos) (UG X.K n t):=by
 intro μ s σ H v u Q I r hw;obtain⟨a,xs,e1,hq,hl,hw⟩:=hw;subst e1;cases r;obtain⟨its,rv,ht,hz⟩:=I.tuple hq;refine assign_Tuple_tuple (I.ok.hd hc) ht (by simp[hn,<- hl,rv.length]) OH λh' hx=>?_
 have I1:Inv X μ σ H {s with heap:=h'}:=I.kept (t':=s.toks) λb o e=>hx b o (aak (Z6 e)) e
 exact h μ _ σ H xs _ Q I1 (by simpa using rv) hw
def UH (to ti:TE)(t:Mq):TG:=λv σ H Q=>to σ H λo H1=>ti σ H1 λi H2=>t o i v H2 λH3=>Q σ H3
def rM {o i:Expr}{to ti:TE}{t:Mq}(ho:PE X o to)(hi:PE X i ti)(hs:P_ X t)
  (ha:∀v,assign (.Subscript o i pos) X.env v=(do
   let ov <- holding [v] (eval o X.env)
   let iv <- holding [v,ov] (eval i X.env)
   ac0 pos
   holding [v,ov,iv] (setItem ov iv v)
   release [v,ov,iv] []):=by intro _;rfl):PG X (.Subscript o i pos) (UH to ti t):=by
 intro μ s σ H v u Q I r h;rw[ha];refine ZD (aa6 (bP (ho μ s σ H _ I h) λov s1 ⟨x,H1,I1,r1,q1⟩=>?_));refine ZD (aa6 (bP (hi μ s1 σ H1 _ I1 q1) λiv s2 ⟨y,H2,I2,r2,q2⟩=>?_));refine ZD (abR (ZD (aa6 (bP (hs μ s2 σ H2 x y v ov iv u _ I2 r1 r2 r q2) λ_ s3 ⟨H3,I3,q3⟩=>?_))));exact wpAny_release {(σ),H3,I3,q3}
def M_ (te:TE)(g:TG):TS:=λD σ H=>te σ H λx H1=>g x σ H1 D.nx
def nv {tg e:Expr}{te:TE}{g:TG}(he:PE X e te)(hg:PG X tg g)(hs:swapsWithSole [tg] e pos.line X.env=pure η:=by rfl)(hw:swappedStores [tg] e X.env=pure ξ:=by rfl)
  (h1:(abJ [tg] X.env).map (·.2)=[assign tg X.env]:=by rfl):PS X (.Assign [tg] e pos) (M_ te g):=by
 intro μ s σ H D I h;refine wpAny_Assign_stores (bP (he μ s σ H _ I h) λv s1 ⟨x,H1,I1,r1,q1⟩=>?_) hs hw;rw[h1];exact bP (hg μ s1 σ H1 x v _ I1 r1 q1) λ_ s2 q=>q
def wm {i:Nat}{x:Str}{e:Expr}{te:TE}{pos':Pos}(hN:X.N.Nodup)(hi:X.N[i]?=ν x)(hx:Loc X.env.scope x)(he:PE X e te)(hs:ab4 e (ν (.Name x pos')) pos.line X.env=pure η:=by rfl)(hf:X.fn x=ζ\/X.env.scope.names.lookup x=ν .local:=by first|exact .inl rfl|exact .inr rfl|assumption):
  PS X (.Assign [.Name x pos'] e pos) (M_ te (yK i)):=by
 intro μ s σ H D I h;refine wpAny_Assign_Name (bP (he μ s σ H _ I h) λv s1 ⟨y,H1,I1,r1,q1⟩=>?_) hs;exact s9 I1 hN hi hx r1 (λs2 I2=>{_,H1,I2,q1}) hf
end
structure It where
 go:Nat->Hp->Prop
 MX:Nat->Hp->V->Hp->Prop
 stop:Nat->Hp->Prop
def gS (X:Cx)(μ:List (θ×Obj))(H:Hp)(b:θ):Prop :=
 H b=ξ/\b≠X.env.locals/\b∉X.fs/\(b∈X.ex\/X.s₀.heap.objs.size<=b)/\(∀x c,X.env.cells.lookup x=ν c->c≠b)/\∀p∈X.pn++μ,p.1≠b
def Inv.AE {X:Cx}{μ:List (θ×Obj)}{σ:St}{H H':Hp}{s:ZH}{b:θ}(I:Inv X μ σ H s)(hb:s.heap.objs.size<=b)(hn:H' b=ξ):gS X μ H' b:=by
 refine{hn,Nat.ne_of_gt (aaq I.lt hb),I.Sj hb,.inr (aaj I.sz hb),λx c e z=>?_,λp hp z=>?_}
 ·obtain⟨v,q⟩:=I.cell x c e;exact Η (aaq q.lt (by rw[z];exact hb)) (acm _)
 ·exact Η (aaq (Z6 (I.pin p hp).1) (by rw[z];exact hb)) (acm _)
structure Turn (P:ZN)(w:Z4)(K:Ξ)(tg:Expr)(J:It)(fp:List θ)(it:θ)(tn:Nat->Heap->Prop):Prop where
 mem:it∈fp
 obj:∀i h,tn i h->∀b∈fp,∃o,h.get? b=ν o/\∀v,o.data≠.cell v
 keep:∀i h h',tn i h->(∀b∈fp,∀o,h.get? b=ν o->h'.get? b=ν o)->tn i h'
 item:∀(X:Cx),X.prog=P->X.w=w->X.K=K->X.calm=ζ->∀(i:Nat) (μ:List (θ×Obj)) (s:ZH) (σ:St) (H:Hp) (E:ZF->ZH->Prop),Inv X μ σ H s->(∀b∈fp,gS X μ H b)->tn i s.heap->J.go i H ->
  aab (Ψ P w) X.A (acS (.ref it)) (λr s1=>∃u,r=ν u /\
   aab (Ψ P w) X.A (letOwnedTupleGo tg (.ref it) u) (λ_ s2=>∃x H',Inv X μ σ H' s2/\RelV x u/\J.MX i H x H'/\tn (i+1) s2.heap/\∀b∈fp,H' b=ξ) E s1) E s
 done:∀(X:Cx),X.prog=P->X.w=w->X.K=K->X.calm=ζ->∀(i:Nat) (μ:List (θ×Obj)) (s:ZH) (σ:St) (H:Hp) (E:ZF->ZH->Prop),Inv X μ σ H s->(∀b∈fp,gS X μ H b)->tn i s.heap->J.stop i H ->
  aab (Ψ P w) X.A (acS (.ref it)) (λr s1=>r=ξ/\Inv X μ σ H s1) E s
 self:∀(A:aaJ) (i:Nat) (s:ZH) (Q:ZF->ZH->Prop) (E:ZF->ZH->Prop),tn i s.heap->Q (.ref it) s->aab (Ψ P w) A (pyIter (.ref it)) Q E s
abbrev TI:=St->Hp->(It->Hp->Prop)->Prop
def MW (X:Cx)(μ:List (θ×Obj))(σ:St)(tg:Expr)(R:It->Hp->Prop)(IA:ZF)(s2:ZH):Prop :=
 ∃(it:θ) (fp:List θ) (tn:Nat->Heap->Prop) (J:It) (H':Hp),IA=.ref it/\Inv X μ σ H' s2/\Turn X.prog X.w X.K tg J fp it tn/\tn 0 s2.heap/\(∀b∈fp,gS X μ H' b)/\R J H'
def PI (X:Cx)(tg iter:Expr)(wi:TI):Prop :=
 ∀(μ:List (θ×Obj)) (s:ZH) (σ:St) (H:Hp) (R:It->Hp->Prop),Inv X μ σ H s->wi σ H R ->
  aab (Ψ X.prog X.w) X.A (eval iter X.env) (λv s1=>aab (Ψ X.prog X.w) X.A (pyIter v) (MW X μ σ tg R) X.xe s1) X.xe s
def yI {M:Model}{A:aaJ}{E:ZF->ZH->Prop}{s:ZH}{tg:Expr}{it:θ}{u:ZF}{o:Obj}{n:String}{vs:Array ZF}{Q:Unit->ZH->Prop}(ho:s.heap.get? it=ν o)(hc:o.cls=.type n)(hd:o.data=.fields vs)
  (hn:["enumerate","zip","dict_itemiterator","dict_reverseitemiterator","odict_iterator","itertools.zip_longest","itertools.pairwise"].contains n=η) (hQ:Q () s):aab M A (letOwnedTupleGo tg (.ref it) u) Q E s:=by
 unfold letOwnedTupleGo;cases tg <;> first
  |exact ZL hQ
  | (cases u <;> first
    |exact ZL hQ
    | (refine ZD (wpAny_load ho ?_)
       rw[hc,hd];show aab M A (if (["enumerate","zip","dict_itemiterator","dict_reverseitemiterator","odict_iterator","itertools.zip_longest","itertools.pairwise"].contains n&&vs[0]?==ν (rawInt _))=ζ then _ else _) Q E s
       rw[ω (by intro h;rw[hn,Bool.false_and]at h;cases h)]
       exact ZL hQ))
def Q4 (K:Ξ)(a:θ):It :=
 {λi H=>∃xs x,dJ K H a xs/\xs[i]?=ν x,λi H x H'=>H'=H/\∀xs,dJ K H a xs->xs[i]?=ν x,λi H=>∃xs,dJ K H a xs/\xs.length<=i}
def U_ (K:Ξ)(a:θ):It :=
 {λi H=>∃xs x,lh K H a xs/\xs[i]?=ν x,λi H x H'=>H'=H/\∀xs,lh K H a xs->xs[i]?=ν x,λi H=>∃xs,lh K H a xs/\xs.length<=i}
def Qc (lo:Int)(n:Nat):It:={λi _=>i<n,λi H x H'=>H'=H/\x=.int (lo+i),λi _=>n<=i}
def zA {P:ZN}{w:Z4}{K:Ξ}{tg:Expr}(a it:θ):Turn P w K tg (Q4 K a) [it] it (λi h=>h.IsListIter it a i) where
 mem:=by simp
 obj:=λi h st b hb=>by
  have e:b=it:=by simpa using hb
  subst e;obtain⟨o,e,c,d⟩:=st;exact{o,e,λv z=>by rw[d]at z;cases z}
 keep:=λi h h' st k=>st.at λo e=>k it (by simp) o e
 item:=by
  intro X hP hw hK hc i μ s σ H E I hf st hg;subst hP hw hK;obtain⟨xs,x,hq,hx⟩:=hg;obtain⟨its,rv,p,hz⟩:=I.list hq;obtain⟨u,hu,ru⟩:=rv.get hx;obtain⟨f0,f1,f2,f3,f4,f5⟩:=hf it (by simp)
  refine wpAny_pyNext_list_item st p.isList (x:=u) (by simpa using hu) λh' aA sb=>?_
  have I1:Inv X μ σ H {s with heap:=h'}:=I.turned (t':=s.toks) (λb o hb e=>(sb.2 b hb).trans e) f0 f1 f3 f4 f5
  obtain⟨o,e,c,d⟩:=id aA;exact{u,rfl,yI (s:={s with heap:=h'}) e c d (by decide) {x,H,I1,ru,{rfl,λys hy=>by rw[I.Dh hy hq];exact hx},aA,λb hb=>(hf b hb).1}}
 done:=by
  intro X hP hw hK hc i μ s σ H E I hf st hg;subst hP hw hK;obtain⟨xs,hq,hx⟩:=hg;obtain⟨its,rv,p,hz⟩:=I.list hq;obtain⟨f0,f1,f2,f3,f4,f5⟩:=hf it (by simp)
  have hl:=rv.length;exact wpAny_pyNext_list_end (I.ok.hd hc) st p.isList (by simp;lia) λh' eb=>{rfl,I.turned (t':=s.toks) (λb o hb e=>eb b o hb e) f0 f1 f3 f4 f5}
 self:=λ_ _ _ _ _ st h=>wpAny_pyIter_listiter st h
def vW {P:ZN}{w:Z4}{K:Ξ}{tg:Expr}(a it:θ):Turn P w K tg (U_ K a) [it] it (λi h=>h.IsTupleIter it a i) where
 mem:=by simp
 obj:=λi h st b hb=>by
  have e:b=it:=by simpa using hb
  subst e;obtain⟨o,e,c,d⟩:=st;exact{o,e,λv z=>by rw[d]at z;cases z}
 keep:=λi h h' st k=>st.at λo e=>k it (by simp) o e
 item:=by
  intro X hP hw hK hc i μ s σ H E I hf st hg;subst hP hw hK;obtain⟨xs,x,hq,hx⟩:=hg;obtain⟨its,rv,p,hz⟩:=I.tuple hq;obtain⟨u,hu,ru⟩:=rv.get hx;obtain⟨f0,f1,f2,f3,f4,f5⟩:=hf it (by simp)
  refine wpAny_pyNext_tuple_item st (show s.heap.IsTuple a its.toArray from p) (x:=u) (by simpa using hu) λh' aA sb=>?_
  have I1:Inv X μ σ H {s with heap:=h'}:=I.turned (t':=s.toks) (λb o hb e=>(sb.2 b hb).trans e) f0 f1 f3 f4 f5
  obtain⟨o,e,c,d⟩:=id aA;exact{u,rfl,yI (s:={s with heap:=h'}) e c d (by decide) {x,H,I1,ru,{rfl,λys hy=>by rw[I.zB hy hq];exact hx},aA,λb hb=>(hf b hb).1}}
 done:=by
  intro X hP hw hK hc i μ s σ H E I hf st hg;subst hP hw hK;obtain⟨xs,hq,hx⟩:=hg;obtain⟨its,rv,p,hz⟩:=I.tuple hq;obtain⟨f0,f1,f2,f3,f4,f5⟩:=hf it (by simp)
  have hl:=rv.length;exact wpAny_pyNext_tuple_end (I.ok.hd hc) st (show s.heap.IsTuple a its.toArray from p) (by simp;lia) λh' eb=>{rfl,I.turned (t':=s.toks) (λb o hb e=>eb b o hb e) f0 f1 f3 f4 f5}
 self:=λ_ _ _ _ _ st h=>wpAny_pyIter_tupleiter st h
def vX {P:ZN}{w:Z4}{K:Ξ}{tg:Expr}(it:θ)(lo:Int)(n:Nat):Turn P w K tg (Qc lo n) [it] it (λi h=>IsRangeIter h it (lo+(i:Nat)*1) ((n:Int)-(i:Nat)) 1) where
 mem:=by simp
 obj:=λi h st b hb=>by
  have e:b=it:=by simpa using hb
  subst e;exact⟨_,st,λv z=>by
   have z':Data.fields _=Data.cell v:=z;cases z'⟩
 keep:=λi h h' st k=>k it (by simp) _ st
 item:=by
  intro X hP hw hK hc i μ s σ H E I hf st hg;subst hP hw hK;obtain⟨f0,f1,f2,f3,f4,f5⟩:=hf it (by simp)
  have W:=Walks.range (prog:=X.prog) (w:=X.w) (I.ok.hd hc) it lo 1 n;refine W.item i s _ _ hg st λv h' tk hv aA kk=>?_;obtain⟨t,rfl⟩:=hv;have I1:Inv X μ σ H {s with heap:=h',toks:=tk}:=I.turned (λb o hb e=>kk b o (by simpa using hb) e) f0 f1 f3 f4 f5
  refine{_,rfl,yI (s:={s with heap:=h',toks:=tk}) (n:="range_iterator") aA rfl rfl (by decide) {.int (lo+i),H,I1,{t,?_},{(rfl),rfl},aA,λb hb=>(hf b hb).1}}
  rw[Int.mul_one]
 done:=by
  intro X hP hw hK hc i μ s σ H E I hf st hg;subst hP hw hK;obtain⟨f0,f1,f2,f3,f4,f5⟩:=hf it (by simp)
  exact wpAny_pyNext_range_end (I.ok.hd hc) st (by have:n<=i:=hg;lia) λh' eb=>{rfl,I.turned (t':=s.toks) (λb o hb e=>eb b o hb e) f0 f1 f3 f4 f5}
 self:=λ_ _ _ _ _ st h=>wpAny_pyIter_rangeiter st h
section
variable {X:Cx}{tg:Expr}
def Ox (K:Ξ)(tl:TE):TI:=λσ H R=>tl σ H λx H1=>∃a,x=.ref a/\(∃xs,dJ K H1 a xs)/\R (Q4 K a) H1
def SV (K:Ξ)(tl:TE):TI:=λσ H R=>tl σ H λx H1=>∃a,x=.ref a/\(∃xs,lh K H1 a xs)/\R (U_ K a) H1
def yn {l:Expr}{tl:TE}(hl:PE X l tl):PI X tg l (Ox X.K tl):=by
 intro μ s σ H R I h;refine bP (hl μ s σ H _ I h) λv s1 ⟨x,H1,I1,r1,q1⟩=>?_;obtain⟨a,e,⟨xs,hq⟩,q⟩:=q1;subst e;cases r1;obtain⟨its,rv,p,hz⟩:=I1.list hq;refine wpAny_pyIter_list p.isList ?_;refine{s1.heap.objs.size,[s1.heap.objs.size],_,_,H1,rfl,I1.kept (t':=s1.toks) λb o e=>ZM _ e,zA a _,{_,Z8 _ rfl,rfl,rfl},λb hb=>?_,q};have e:b=s1.heap.objs.size:=by simpa using hb
 subst e;exact I1.AE (ZG _) (I1.bp.fresh (ZG _))
def J8 {l:Expr}{tl:TE}(hl:PE X l tl):PI X tg l (SV X.K tl):=by
 intro μ s σ H R I h;refine bP (hl μ s σ H _ I h) λv s1 ⟨x,H1,I1,r1,q1⟩=>?_;obtain⟨a,e,⟨xs,hq⟩,q⟩:=q1;subst e;cases r1;obtain⟨its,rv,p,hz⟩:=I1.tuple hq;refine wpAny_pyIter_tuple (show s1.heap.IsTuple a its.toArray from p) ?_
 refine{s1.heap.objs.size,[s1.heap.objs.size],_,_,H1,rfl,I1.kept (t':=s1.toks) λb o e=>ZM _ e,vW a _,{_,Z8 _ rfl,rfl,rfl},λb hb=>?_,q};have e:b=s1.heap.objs.size:=by simpa using hb
 subst e;exact I1.AE (ZG _) (I1.bp.fresh (ZG _))
def tJ {μ:List (θ×Obj)}{σ:St}{H:Hp}{s:ZH}{R:It->Hp->Prop}{E:ZF->ZH->Prop}{lo hi:Int}{t u v:Tok}{tk:Nat}(I:Inv X μ σ H s)(h1:-(2 ^ 62)<=lo)(h2:lo<2 ^ 62)(h3:-(2 ^ 62)<=hi)(h4:hi<2 ^ 62)
  (q:R (Qc lo (hi-lo).toNat) H):aab (Ψ X.prog X.w) X.A (pyIter (.ref s.heap.objs.size)) (MW X μ σ tg R) E {s with heap:=s.heap.push {cls:=.type "range",data:=.fields #[.int lo t,.int hi u,.int 1 v]},toks:=tk}:=by
 refine wpAny_pyIter_range (IsRange.new ..) (small_one h1 h2 h3 h4) ?_;have I1:Inv X μ σ H {s with heap:=s.heap.push {cls:=.type "range",data:=.fields #[.int lo t,.int hi u,.int 1 v]},toks:=tk}:=I.kept λb o e=>ZM _ e
 refine⟨(s.heap.push {cls:=.type "range",data:=.fields #[.int lo t,.int hi u,.int 1 v]}).objs.size,[(s.heap.push {cls:=.type "range",data:=.fields #[.int lo t,.int hi u,.int 1 v]}).objs.size],_,_,H,rfl,
  I1.kept (t':=tk) λb o e=>ZM _ e,vX _ lo (hi-lo).toNat,?_,λb hb=>?_,q⟩
 ·have e1:lo+((0:Nat):Int)*1=lo:=by simp
  have e2:(((hi-lo).toNat:Nat):Int)-((0:Nat):Int)=acv lo hi 1:=by rw[rangeSize_one];split <;> lia
  show IsRangeIter _ _ (lo+((0:Nat):Int)*1) ((((hi-lo).toNat:Nat):Int)-((0:Nat):Int)) 1;rw[e1,e2];exact Z8 _ rfl
 ·have e:b=(s.heap.push {cls:=.type "range",data:=.fields #[.int lo t,.int hi u,.int 1 v]}).objs.size:=by simpa using hb
  subst e;exact I1.AE (ZG _) (I1.bp.fresh (ZG _))
def Ov (ta:TA):TI:=λσ H R=>ta σ H λvs H1=>∃j:Int,vs=[.int j]/\-(2 ^ 62)<=j/\j<2 ^ 62/\R (Qc 0 j.toNat) H1
def Ou (ta:TA):TI:=λσ H R=>ta σ H λvs H1=>∃i j:Int,vs=[.int i,.int j]/\(-(2 ^ 62)<=i/\i<2 ^ 62/\-(2 ^ 62)<=j/\j<2 ^ 62)/\R (Qc i (j-i).toNat) H1
def zY {a:Expr}{ta:TA}{p pos:Pos}(hg:Gl X "range")(hm:X.mg "range" = ξ)(ha:PA X [a] ta)(hs:Z2 [a] X.env=[(η,eval a X.env)]:=by rfl):PI X tg (.Call (.Name "range" p) [a] [] pos) (Ov ta):=by
 intro μ s σ H R I h;refine Call_ (gI I hg hm boot_range (abD (bP (ha pos μ s σ H _ I h) λus s1 ⟨vs,H1,I1,r1,q1⟩=>?_) hs rfl));obtain⟨j,e,q1,q2,q⟩:=q1;subst e;cases r1 with
 |cons r rr =>
  cases rr;obtain⟨t,rfl⟩:=r;exact call_range_1 (tJ I1 (by lia) (by lia) q1 q2 (by simpa using q))
def qc {a b:Expr}{ta:TA}{p pos:Pos}(hg:Gl X "range")(hm:X.mg "range" = ξ)(ha:PA X [a,b] ta)(hs:Z2 [a,b] X.env=[(η,eval a X.env),(η,eval b X.env)]:=by rfl)(qD:Z2 [b] X.env=[(η,eval b X.env)]:=by rfl) :
  PI X tg (.Call (.Name "range" p) [a,b] [] pos) (Ou ta):=by
 intro μ s σ H R I h;refine Call_ (gI I hg hm boot_range (abD (bP (ha pos μ s σ H _ I h) λus s1 ⟨vs,H1,I1,r1,q1⟩=>?_) (by rw[hs,qD]) (by rw[qD];rfl)))
 obtain⟨i,j,e,⟨q1,q2,q3,q4⟩,q⟩:=q1;subst e;cases r1 with
 |cons r rr =>
  cases rr with
  |cons r' rr =>
   cases rr;obtain⟨t,rfl⟩:=r;obtain⟨t',rfl⟩:=r';exact call_range_2 (tJ I1 q1 q2 q3 q4 q)
def Rn (wi:TI)(g:TG)(tb:TS):TS:=λD σ H=>wi σ H λJ H1=>∃W:Nat->Nat->St->Hp->Prop,(∃m,W 0 m σ H1)/\∀i m σ H,W i m σ H ->
 (J.stop i H/\D.nx σ H)\/(J.go i H/\∃N:St->Hp->Prop,(∀σ' H',N σ' H'->∃m',m'<m/\W (i+1) m' σ' H')/\∀x H',J.MX i H x H'->g x σ H' λσ2 H2=>tb {D with nx:=N,ct:=N,bk:=D.nx} σ2 H2)
def nz (fp:List θ)(h:Heap):List (θ×Obj):=fp.filterMap λb=>(h.get? b).map λo=>(b,o)
def fQ {fp:List θ}{h:Heap}{b:θ}{o:Obj}(hb:b∈fp)(e:h.get? b=ν o):(b,o)∈nz fp h:=acU.mpr {b,hb,by rw[e];rfl}
def Ab {fp:List θ}{h:Heap}{p:θ×Obj}(hp:p∈nz fp h):p.1∈fp/\h.get? p.1=ν p.2:=by
 obtain⟨b,hb,e⟩:=acU.mp hp;cases q:h.get? b with
 |none=>rw[q]at e;cases e
 |some o =>
  rw[q]at e;have e':(b,o)=p:=aao e;subst e';exact{(hb),q}
def Inv.pinned {μ:List (θ×Obj)}{σ:St}{H:Hp}{s:ZH}{fp:List θ}(I:Inv X μ σ H s)(hf:∀b∈fp,gS X μ H b)(ho:∀b∈fp,∃o,s.heap.get? b=ν o/\∀v,o.data≠.cell v):Inv X (μ++nz fp s.heap) σ H s :=
 I.yj λp hp=>(ZT.mp hp).elim (λz=>I.pin p (aaa _ z)) λz=>by
  obtain⟨hb,e⟩:=Ab z;obtain⟨f0,f1,f2,_⟩:=hf p.1 hb;obtain⟨o,e',d⟩:=ho p.1 hb;rw[e]at e';cases e';exact{(e),f0,f1,f2,d}
def Inv.ji {μ pl:List (θ×Obj)}{σ:St}{H:Hp}{s:ZH}(I:Inv X (μ++pl) σ H s):Inv X μ σ H s:=I.yj λp hp=>I.pin p (aaa _ (aaA _ hp))
def Cr {iter:Expr}{body:List Stmt}{wi:TI}{g:TG}{tb:TS}{pos:Pos}(hp:PassesOwn (Ψ X.prog X.w) X.A X.env X.xe)(hc:X.calm=ζ)(hi:PI X tg iter wi)(hg:PG X tg g)(hb:vL X body tb)
  (hs:∀x,aay iter X.env x=pure x:=by intro _;rfl):PS X (.For tg iter body [] pos) (Rn wi g tb):=by
 intro μ s σ H D I h;refine wpAny_For (bP (hi μ s σ H _ I h) λv s1 h1=>bP h1 λIA s2 h2=>?_) hs;obtain⟨it,fp,tn,J,H2,e,I2,T,fZ,f2,W,⟨m0,w0⟩,turn⟩:=h2;subst e;have vZ:∀{H':Hp},(∀b∈fp,H' b=ξ)->∀b∈fp,gS X μ H' b:=λhn b hb=>{hn b hb,(f2 b hb).2};refine codeAny_forLoop_any (λn s'=>∃i σ' H',Inv X μ σ' H' s'/\tn i s'.heap/\(∀b∈fp,H' b=ξ)/\W i n σ' H') ?_ m0 {0,σ,H2,I2,fZ,λb hb=>(f2 b hb).1,w0};rintro n s3 ⟨i,σ3,H3,I3,m8,Pz,w3⟩;rcases turn i n σ3 H3 w3 with⟨stop,qn⟩|⟨go,N,hN,step⟩
 ·refine acF hp (bP (T.done X rfl rfl rfl hc i μ s3 σ3 H3 X.xe I3 (vZ Pz) m8 stop) λr s4 ⟨hr,I4⟩=>?_);subst hr;exact wpAny_execs_nil {(σ3),H3,I4,qn}
 ·refine acF hp (bP (T.item X rfl rfl rfl hc i μ s3 σ3 H3 X.xe I3 (vZ Pz) m8 go) λr s4 ⟨u,hr,h4⟩=>?_);subst hr;refine acF hp (bP h4 λ_ s5 ⟨x,H5,I5,r5,y5,E8,UI⟩=>?_);have Va:=I5.pinned (vZ UI) (T.obj _ _ E8);refine acF hp (bP (hg _ s5 σ3 H5 x u _ Va r5 (step x H5 y5)) λ_ s6 ⟨σ6,H6,I6,q6⟩=>?_);refine acF hp (bP (hb _ s6 σ6 H6 _ I6 q6) λf s7 q7=>?_);have again:∀{σ7:St} {H7:Hp},Inv X (μ++nz fp s5.heap) σ7 H7 s7->N σ7 H7->∃m,m<n/\∃i σ' H',Inv X μ σ' H' s7/\tn i s7.heap/\(∀b∈fp,H' b=ξ)/\W i m σ' H':=λ{σ7 H7} I7 n7=>by
   obtain⟨m',hm,w7⟩:=hN σ7 H7 n7;refine{m',hm,i+1,σ7,H7,I7.ji,T.keep _ _ _ E8 λb hb o e=>(I7.pin (b,o) (aaa _ (aaa _ (fQ hb e)))).1,λb hb=>?_,w7};obtain⟨o,e,d⟩:=T.obj _ _ E8 b hb;exact(I7.pin (b,o) (aaa _ (aaa _ (fQ hb e)))).2.1
  cases f with
  |next=>obtain⟨σ7,H7,I7,n7⟩:=q7;exact again I7 n7
  |cont=>obtain⟨σ7,H7,I7,n7⟩:=q7;exact again I7 n7
  |brk=>obtain⟨σ7,H7,I7,q7⟩:=q7;exact{(σ7),H7,I7.ji,q7}
  |ret v=>obtain⟨x7,σ7,H7,I7,r7,q7⟩:=q7;exact{(x7),σ7,H7,I7.ji,r7,q7}
end
abbrev R2:=V->V->Hp->VK->Prop
def i_ (X:Cx)(f:ZF->ZF->Sem ZF)(r:R2):Prop :=
 ∀(μ:List (θ×Obj)) (s:ZH) (σ:St) (H:Hp) (x y:V) (v u:ZF) (Q:VK),Inv X μ σ H s->RelV x v->RelV y u->r x y H Q ->
  aab (Ψ X.prog X.w) X.A (f v u) (EP X μ σ Q) X.xe s
def P7 (X:Cx)(f:ZF->Sem ZF)(r:V->Hp->VK->Prop):Prop :=
 ∀(μ:List (θ×Obj)) (s:ZH) (σ:St) (H:Hp) (x:V) (v:ZF) (Q:VK),Inv X μ σ H s->RelV x v->r x H Q ->
  aab (Ψ X.prog X.w) X.A (f v) (EP X μ σ Q) X.xe s
def eS (X:Cx)(f:ZF)(r:List V->Hp->VK->Prop):Prop :=
 ∀(μ:List (θ×Obj)) (s:ZH) (σ:St) (H:Hp) (xs:List V) (us:List ZF) (Q:VK),Inv X μ σ H s->Vals xs us->r xs H Q ->
  aab (Ψ X.prog X.w) X.A (call f us) (EP X μ σ Q) X.xe s
def M4 (r:R2)(ta tb:TE):TE:=λσ H Q=>ta σ H λx H1=>tb σ H1 λy H2=>r x y H2 Q
def WZ (r:V->Hp->VK->Prop)(ta:TE):TE:=λσ H Q=>ta σ H λx H1=>r x H1 Q
def rI (C:Int->Int->Prop)(g:Int->Int->V):R2:=λx y H Q=>∃i j,x=.int i/\y=.int j/\C i j/\Q (g i j) H
def FZ (g:Int->Int->V):R2:=λx y H Q=>∃i j,x=.int i/\y=.int j/\Q (g i j) H
def rU (g:Int->V):V->Hp->VK->Prop:=λx H Q=>∃i,x=.int i/\Q (g i) H
section
variable {X:Cx}{a b:Expr}{ta tb:TE}{pos:Pos}
def Ml (ha:PE X a ta)(hb:PE X b tb){μ:List (θ×Obj)}{s:ZH}{σ:St}{H:Hp}{R:V->V->Hp->Prop}(I:Inv X μ σ H s)
  (h:ta σ H λx H1=>tb σ H1 λy H2=>R x y H2) {Q:ZF->ZH->Prop} {f:ZF->ZF->Sem ZF}
  (hf:∀v u s2 x y H2,Inv X μ σ H2 s2->RelV x v->RelV y u->R x y H2->aab (Ψ X.prog X.w) X.A (f v u) Q X.xe s2) :
  aab (Ψ X.prog X.w) X.A (eval a X.env) (λv s₁=>aab (Ψ X.prog X.w) X.A (eval b X.env) (λu s₂=>aab (Ψ X.prog X.w) X.A (f v u) Q X.xe s₂) X.xe s₁) X.xe s:=by
 refine bP (ha μ s σ H _ I h) λv s1 ⟨x,H1,I1,r1,q1⟩=>?_;refine bP (hb μ s1 σ H1 _ I1 q1) λu s2 ⟨y,H2,I2,r2,q2⟩=>?_;exact hf v u s2 x y H2 I2 r1 r2 q2
def dj {op:Operator}{r:R2}(ho:i_ X (abT op) r)(ha:PE X a ta)(hb:PE X b tb):PE X (.BinOp a op b pos) (M4 r ta tb):=by
 intro μ s σ H Q I h;exact wpAny_BinOp (Ml ha hb I h λv u s2 x y H2 I2 rx ry q=>ho μ s2 σ H2 x y v u Q I2 rx ry q)
def Ig {op:UnaryOp}{r:V->Hp->VK->Prop}(ho:P7 X (unaryOp op) r)(ha:PE X a ta):PE X (.UnaryOp op a pos) (WZ r ta):=by
 intro μ s σ H Q I h;exact UnaryOp_ (bP (ha μ s σ H _ I h) λv s1 Tp=>by obtain⟨x,H1,I1,r1,q1⟩:=Tp;exact ho μ s1 σ H1 x v Q I1 r1 q1)
def Qv {f:ZF->ZF->Sem ZF}{C:Int->Int->Prop}{g:Int->Int->Int}
  (rule:∀(i j:Int) (t u:Tok) (s:ZH) (Q:ZF->ZH->Prop) (E:ZF->ZH->Prop),C i j->Q (.int (g i j) s.toks) {s with toks:=s.toks+1}->aab (Ψ X.prog X.w) X.A (f (.int i t) (.int j u)) Q E s) :
  i_ X f (rI C λi j=>.int (g i j)):=by
 intro μ s σ H x y v u Q I rx ry h;obtain⟨i,j,rfl,rfl,hc,q⟩:=h;obtain⟨t,rfl⟩:=rx;obtain⟨t',rfl⟩:=ry;exact rule i j t t' s _ _ hc {.int (g i j),H,I.tok _,{_,rfl},q}
def NR {f:ZF->ZF->Sem ZF}{g:Int->Int->Int}
  (rule:∀(i j:Int) (t u:Tok) (s:ZH) (Q:ZF->ZH->Prop) (E:ZF->ZH->Prop),Q (.int (g i j) s.toks) {s with toks:=s.toks+1}->aab (Ψ X.prog X.w) X.A (f (.int i t) (.int j u)) Q E s) :
  i_ X f (FZ λi j=>.int (g i j)):=by
 intro μ s σ H x y v u Q I rx ry h;obtain⟨i,j,rfl,rfl,q⟩:=h;obtain⟨t,rfl⟩:=rx;obtain⟨t',rfl⟩:=ry;exact rule i j t t' s _ _ {.int (g i j),H,I.tok _,{_,rfl},q}
def Kn {f:ZF->ZF->Sem ZF}{g:Int->Int->Bool}
  (rule:∀(i j:Int) (t u:Tok) (s:ZH) (Q:ZF->ZH->Prop) (E:ZF->ZH->Prop),Q (.bool (g i j)) s->aab (Ψ X.prog X.w) X.A (f (.int i t) (.int j u)) Q E s) :
  i_ X f (FZ λi j=>.bl (g i j)):=by
 intro μ s σ H x y v u Q I rx ry h;obtain⟨i,j,rfl,rfl,q⟩:=h;obtain⟨t,rfl⟩:=rx;obtain⟨t',rfl⟩:=ry;exact rule i j t t' s _ _ {.bl (g i j),H,I,rfl,q}
def E6 (i j:Int):Prop:=0<=j/\j<=1000000/\i.natAbs<2 ^ 64
def sI (i j:Int):Prop:=(-(2 ^ 64)<i/\i<2 ^ 64)\/(-(2 ^ 64)<j/\j<2 ^ 64)
def sI.ok {i j:Int}(h:sI i j):IntMulOk i j:=by
 rcases h with⟨h1,h2⟩|⟨h1,h2⟩
 ·exact .of_left (intBits_le_64 h1 h2)
 ·exact .of_right (intBits_le_64 h1 h2)
def wC:i_ X (abT .Add) (FZ λi j=>.int (i+j)):=NR λ_ _ _ _ _ _ _ q=>add_int q
def CL:i_ X (abT .Sub) (FZ λi j=>.int (i-j)):=NR λ_ _ _ _ _ _ _ q=>sub_int q
def wA:i_ X (abT .Mult) (rI sI λi j=>.int (i*j)):=Qv λ_ _ _ _ _ _ _ hc q=>mul_int q hc.ok
def nH:i_ X (abT .Mod) (rI (λ_ j=>0<j) λi j=>.int (i % j)):=Qv λi j _ _ _ _ _ hc q=>by
 have h1:(0:Int)<j:=hc;exact mod_int' (by lia) (by rw[Int.fmod_eq_emod_of_nonneg i (by lia)];exact q)
def rO:i_ X (abT .Pow) (rI E6 λi j=>.int (i ^ j.toNat)):=Qv λ_ _ _ _ _ _ _ hc q=>pow_int_small hc.1 hc.2.1 hc.2.2 q
def WS {f:ZF->Sem ZF}{g:Int->Int}
  (rule:∀(i:Int) (t:Tok) (s:ZH) (Q:ZF->ZH->Prop) (E:ZF->ZH->Prop),Q (.int (g i) s.toks) {s with toks:=s.toks+1}->aab (Ψ X.prog X.w) X.A (f (.int i t)) Q E s) :
  P7 X f (rU λi=>.int (g i)):=by
 intro μ s σ H x v Q I rx h;obtain⟨i,rfl,q⟩:=h;obtain⟨t,rfl⟩:=rx;exact rule i t s _ _ {.int (g i),H,I.tok _,{_,rfl},q}
def BF:P7 X (unaryOp .USub) (rU λi=>.int (-i)):=WS λ_ _ _ _ _ q=>neg_int q
end
def RE:V->V->Bool
 |.cf,.cf=>ζ | .cf,.int _=>ζ | .int _,.cf=>ζ | .cf,.bl _=>ζ | .bl _,.cf=>ζ | .cf,.str _=>ζ | .str _,.cf=>ζ
 |.int _,.int _=>ζ | .bl _,.bl _=>ζ | .str _,.str _=>ζ | .HM _,.HM _=>ζ
 |.int _,.str _=>ζ | .str _,.int _=>ζ | .bl _,.str _=>ζ | .str _,.bl _=>ζ
 |_,_=>η
def Xh:R2:=λx y H Q=>RE x y=ζ/\Q (.bl (!decide (x=y))) H
def Hv {i j:Int}:decide (V.int i=V.int j)=(i==j):=by
 rw[acL];simp
def L5 {i j:Bool}:decide (V.bl i=V.bl j)=(i==j):=by
 rw[acL];simp
def Hu {i j:Str}:decide (V.str i=V.str j)=(i==j):=by
 rw[acL];simp
def Hw {i j:Array UInt8}:decide (V.HM i=V.HM j)=(i.toList==j.toList):=by
 rw[acL];cases i;cases j;simp
section
variable {X:Cx}{a b c:Expr}{ta tb:TE}{pos:Pos}
def cq {μ:List (θ×Obj)}{σ:St}{H:Hp}{s:ZH}{Q:VK}{k k':Bool}(I:Inv X μ σ H s)(q:Q (.bl k) H)(e:k=k'):EP X μ σ Q (.bool k') s:=by
 subst e;exact{.bl k,H,I,rfl,q}
def NO:i_ X (aaV .NotEq) Xh:=by
 intro μ s σ H x y v u Q I rx ry h;obtain⟨hs,q⟩:=h;cases x with
 |cf =>
  cases rx;cases y with
  |cf=>cases ry;exact PySem.EqNone.ne_none_none (cq I q (by simp))
  |bl j=>cases ry;exact PySem.EqNone.ne_none_bool (cq I q (by simp))
  |int j=>obtain⟨t',rfl⟩:=ry;exact PySem.EqNone.ne_none_int (cq I q (by simp))
  |str j=>obtain⟨t',rfl⟩:=ry;exact PySem.EqNone.ne_none_str (cq I q (by simp))
  |_=>exact Η (show η=ζ from hs) aaO
 |bl i =>
  cases rx;cases y with
  |cf=>cases ry;exact PySem.EqNone.ne_bool_none (cq I q (by simp))
  |bl j=>cases ry;exact ne_bool (cq I q (Ι not L5))
  |str j=>obtain⟨t',rfl⟩:=ry;exact PySem.EqMixed.ne_bool_str (cq I q (by simp))
  |_=>exact Η (show η=ζ from hs) aaO
 |int i =>
  obtain⟨t,rfl⟩:=rx;cases y with
  |cf=>cases ry;exact PySem.EqNone.ne_int_none (cq I q (by simp))
  |int j=>obtain⟨t',rfl⟩:=ry;exact ne_int (cq I q (Ι not Hv))
  |str j=>obtain⟨t',rfl⟩:=ry;exact PySem.EqMixed.ne_int_str (cq I q (by simp))
  |_=>exact Η (show η=ζ from hs) aaO
 |str i =>
  obtain⟨t,rfl⟩:=rx;cases y with
  |cf=>cases ry;exact PySem.EqNone.ne_str_none (cq I q (by simp))
  |bl j=>cases ry;exact PySem.EqMixed.ne_str_bool (cq I q (by simp))
  |int j=>obtain⟨t',rfl⟩:=ry;exact PySem.EqMixed.ne_str_int (cq I q (by simp))
  |str j=>obtain⟨t',rfl⟩:=ry;exact ne_str (cq I q (Ι not Hu))
  |_=>exact Η (show η=ζ from hs) aaO
 |HM i =>
  obtain⟨t,rfl⟩:=rx;cases y with
  |HM j=>obtain⟨t',rfl⟩:=ry;exact PySem.W.ne_bytes (cq I q (Ι not Hw))
  |_=>exact Η (show η=ζ from hs) aaO
 |_=>cases y <;> exact Η (show η=ζ from hs) aaO
def NP:i_ X (aaV .Lt) (FZ λi j=>.bl (decide (i<j))):=Kn λ_ _ _ _ _ _ _ q=>lt_int q
def Ij:i_ X (aaV .Gt) (FZ λi j=>.bl (decide (j<i))):=Kn λ_ _ _ _ _ _ _ q=>gt_int q
def NQ:i_ X (aaV .GtE) (FZ λi j=>.bl (decide (j<=i))):=Kn λ_ _ _ _ _ _ _ q=>ge_int q
def Kl:i_ X (aaV .Is) (λx y H Q=>y=.cf/\Q (.bl (decide (x=.cf))) H):=by
 intro μ s σ H x y v u Q I rx ry h;obtain⟨rfl,q⟩:=h;cases ry;refine is_none_gen (cq I q ?_);cases x <;> first
  | (cases rx;rfl)
  | (obtain⟨t,rfl⟩:=rx;rfl)
def Gk:i_ X (aaV .IsNot) (λx y H Q=>y=.cf/\Q (.bl (!decide (x=.cf))) H):=by
 intro μ s σ H x y v u Q I rx ry h;obtain⟨rfl,q⟩:=h;cases ry;refine isnot_none_gen (cq I q ?_);cases x <;> first
  | (cases rx;rfl)
  | (obtain⟨t,rfl⟩:=rx;rfl)
def CY (b:Expr){op:acW}(h:op≠.In:=by decide)(h2:op≠.NotIn:=by decide):ab5 op b=η:=by
 have e1:(op==CmpOp.In)=η:=by cases op <;> first|rfl|exact Η rfl h
 have e2:(op==CmpOp.NotIn)=η:=by cases op <;> first|rfl|exact Η rfl h2
 cases b <;> simp[ab5,e1,e2]
def yp {op:acW}{r:R2}(ho:i_ X (aaV op) r)(ha:PE X a ta)(hb:PE X b tb)(hm:ab5 op b=η):PE X (.Compare a [op] [b] pos) (M4 r ta tb):=by
 intro μ s σ H Q I h;exact wpAny_Compare1 (Ml ha hb I h λv u s2 x y H2 I2 rx ry q=>ho μ s2 σ H2 x y v u Q I2 rx ry q) hm
def M1 (t:TE):TT:=λσ H Q=>t σ H λx H'=>∃k,x=.bl k/\Q k H'
def yd {op:acW}{r:R2}(ho:i_ X (aaV op) r)(ha:PE X a ta)(hb:PE X b tb)(hm:ab5 op b=η):PT X (.Compare a [op] [b] pos) (M1 (M4 r ta tb)):=by
 intro μ s σ H Q I h;refine wpAny_isTrue_Compare1 (bP (ha μ s σ H _ I h) λv s1 ⟨x,H1,I1,r1,q1⟩=>bP (hb μ s1 σ H1 _ I1 q1) λu s2 ⟨y,H2,I2,r2,q2⟩ =>
  bP (ho μ s2 σ H2 x y v u _ I2 r1 r2 q2) λc s3 ⟨z,H3,I3,r3,k,e,q3⟩=>?_) hm
 subst e;cases r3;exact abf {(H3),I3,q3}
def rV:(Z3:Nat)<2 ^ 63:=by rw[aaQ];decide
def vals1 {x:V}{us:List ZF}(r:Vals [x] us):∃u,us=[u]/\RelV x u:=by
 cases r with
 |cons r1 r2=>cases r2;exact{_,rfl,r1}
def vals2 {x y:V}{us:List ZF}(r:Vals [x,y] us):∃u w',us=[u,w']/\RelV x u/\RelV y w':=by
 cases r with
 |cons r1 r2 =>
  cases r2 with
  |cons r3 r4=>cases r4;exact{_,_,rfl,r1,r3}
def qR (hc:X.calm=ζ):eS X (.builtin "max") (λxs H Q=>∃i j,xs=[.int i,.int j]/\Q (.int (if j>i then j else i)) H):=by
 intro μ s σ H xs us Q I r h;obtain⟨i,j,rfl,q⟩:=h;obtain⟨u,w',rfl,⟨t,rfl⟩,⟨t',rfl⟩⟩:=vals2 r;refine max_two_ints (I.ok.hd hc) λh' tk k=>{_,H,I.kept k,?_,q}
 by_cases hj:j>i
 ·rw[χ hj,χ hj];exact{_,rfl}
 ·rw[ω hj,ω hj];exact{_,rfl}
def AZ (hc:X.calm=ζ):eS X (.builtin "min") (λxs H Q=>∃i j,xs=[.int i,.int j]/\Q (.int (if j<i then j else i)) H):=by
 intro μ s σ H xs us Q I r h;obtain⟨i,j,rfl,q⟩:=h;obtain⟨u,w',rfl,⟨t,rfl⟩,⟨t',rfl⟩⟩:=vals2 r;refine min_two_ints (I.ok.hd hc) λh' tk k=>{_,H,I.kept k,?_,q}
 by_cases hj:j<i
 ·rw[χ hj,χ hj];exact{_,rfl}
 ·rw[ω hj,ω hj];exact{_,rfl}
def k6:eS X (.type "int") (λxs H Q=>(∃i,xs=[.int i]/\Q (.int i) H)\/∃k,xs=[.bl k]/\Q (.int (if k then 1 else 0)) H):=by
 intro μ s σ H xs us Q I r h;rcases h with⟨i,rfl,q⟩|⟨k,rfl,q⟩
 ·obtain⟨u,rfl,t,rfl⟩:=vals1 r;exact call_int_int {.int i,H,I,{_,rfl},q}
 ·obtain⟨u,rfl,r1⟩:=vals1 r;cases r1;exact call_int_bool {.int (if k then 1 else 0),H,I.tok _,{_,rfl},q}
end
structure Mv (h:Heap)(x dx C:θ)(mA:Str->Option ZF):Prop where
 obj:h.get? x=ν (PySem.W.instObj C dx)
 ns:h.Ns1 dx mA
 ne:dx≠x
def Am {h:Heap}{dx:θ}{mA:Str->Option ZF}(n:h.Ns1 dx mA):∃od,h.get? dx=ν od/\∀name,PySem.W.lookIn name od=ν (mA name):=by
 obtain⟨o,es,ep,ho,hd,hk,_,hm⟩:=n;refine{o,ho,λname=>?_};have e:=hm name;unfold nsFind findBy at e;rw[<- Array.find?_toList]at e;unfold PySem.W.lookIn;rw[hd];dsimp only
 split
 ·rename_i y q
  rw[q]at e;exact Ι ν e
 ·rename_i q
  rw[q]at e;have a:es.toList.any (·.refKey)=η:=by
   rw[List.any_eq_false];intro y hy;obtain⟨z,t,DM⟩:=hk y (Array.mem_toList_iff.mp hy);simp[DictEntry.refKey,DM]
  have a':¬ es.toList.any (·.refKey)=ζ:=by rw[a];exact aaO
  rw[ω a'];exact Ι ν e
def Mv.look {h:Heap}{x dx C:θ}{mA:Str->Option ZF}(I:Mv h x dx C mA):∃od,PySem.W.InstAt h x (PySem.W.instObj C dx) C (ν od)/\∀name,PySem.W.lookIn name od=ν (mA name) :=
 let ⟨od,ho,hl⟩:=Am I.ns
 {od,{(I.obj),rfl,rfl,ho},hl}
def oW.some_of {v:V}{o:Option ZF}(r:oW (ν v) o):∃u,o=ν u/\RelV v u:=by
 cases o with
 |none=>exact(show False from r).elim
 |some u=>exact{(u),rfl,r}
section
variable {P:ZN}{w:Z4}{H:Hp}{h:Heap}{a C dx:θ}{fs:List (Str×V)}
def dZ (bp:i8 P w H h)(e:H a=ν (.ins C dx fs)):∃mA,Mv h a dx C mA/\(∀f,oW (fs.lookup f) (mA f))/\PySem.Within mA (fs.map (·.1))/\fs.length<=1000/\H dx=ν (.own a):=by
 obtain⟨d,z,ne,ob,mA,n,r,q⟩:=(show a9 P w H h a (.ins C dx fs) from bp a _ e)
 exact{mA,{(ob),n,ne},r,q,z,d}
end
structure Vj (K:Ξ)(C:θ):Prop where
 pg:PySem.W.plainGet K C Str.empty=ζ
 hd:PySem.W.hasDictIn K C=ζ
 po:PySem.W.plainOver K C=ζ
 sa:PySem.W.findIn K (.ref C) "__setattr__" = ν (ν (.builtin "object.__setattr__"))
def Vj.get {K:Ξ}{C:θ}(c:Vj K C)(f:Str):PySem.W.plainGet K C f=ζ:=c.pg
section
variable {X:Cx}{μ:List (θ×Obj)}{σ:St}{H:Hp}{s:ZH}{A:aaJ}{E:ZF->ZH->Prop}{Q:ZF->ZH->Prop}{c:ZF}{b:Bool}
inductive i7 (K:Ξ)(H:Hp):V->ZF->Prop where
 |cf:i7 K H .cf (.type "NoneType")
 |bl (x:Bool):i7 K H (.bl x) (.type "bool")
 |int (i:Int):i7 K H (.int i) (.type "int")
 |str (x:Str):i7 K H (.str x) (.type "str")
 |LX (x:UInt64):i7 K H (.LX x) (.type "float")
 |lst {a:θ} {xs:List V} (e:H a=ν (.lst xs)):i7 K H (.ref a) (.type "list")
 |vJ {a:θ} {o:Obj} {xs:List V} (e:H a=ν (.vJ o (.lst xs))):i7 K H (.ref a) (.type "list")
 |tup {a:θ} {xs:List V} (e:H a=ν (.tup xs)):i7 K H (.ref a) (.type "tuple")
 |dK {a:θ} {kvs:List (Key×V)} (e:H a=ν (.dK kvs)):i7 K H (.ref a) (.type "dict")
 |dT {a:θ} {kvs:List (List Key×V)} (e:H a=ν (.dT kvs)):i7 K H (.ref a) (.type "dict")
 |ins {a C dx:θ} {fs:List (Str×V)} (e:H a=ν (.ins C dx fs)) (cl:Vj K C) (ha:PySem.W.findIn K (.ref C) "__class__" = ν (ν (.builtin "object.__class__")))
   (hn:PySem.W.specialIn K (.builtin "object.__class__") "__get__" = ν (ν (.builtin "getset_descriptor.__get__"))) (Tb:PySem.W.takesIn K (.builtin "object.__class__")=ν ζ)
   (hm:PySem.W.mroIn K C (.type "object")=ν ζ):i7 K H (.ref a) (.ref C)
def As {x:V}{u t:ZF}(I:Inv X μ σ H s)(rx:RelV x u)(ty:i7 X.K H x t)(e:Α X.K t c=ν b)(h:∀tk,Q (.bool b) {s with toks:=tk}):
  aab (Ψ X.prog X.w) A (call (.builtin "isinstance") [u,c]) Q E s:=by
 cases ty with
 |cf=>cases (show u=Value.none from rx);exact ε PySem.W.kitx_none I.kL abK e (λz=>nomatch z) h
 |bl y=>cases (show u=Value.bool y from rx);exact ε PySem.W.kitx_bool I.kL abK e (λz=>nomatch z) h
 |int i=>obtain⟨t,q⟩:=(show ∃t,u=Value.int i t from rx);cases q;exact ε PySem.W.kitx_int I.kL abK e (λz=>nomatch z) h
 |str y=>obtain⟨t,q⟩:=(show ∃t,u=Value.str y t from rx);cases q;exact ε PySem.W.kitx_str I.kL abK e (λz=>nomatch z) h
 |LX y=>obtain⟨t,q⟩:=(show ∃t,u=Value.float y t from rx);cases q;exact ε PySem.W.kitx_float I.kL abK e (λz=>nomatch z) h
 | @lst a xs ea =>
  cases (show u=Φ a from rx)
  obtain⟨_,_,n,_,h1⟩:=(show a9 X.prog X.w H s.heap a (.lst xs) from I.bp a _ ea)
  exact ε PySem.W.kitx_list I.kL {_,h1,rfl} e (λz=>nomatch z) h
 | @vJ a ob xs ea =>
  cases (show u=Φ a from rx)
  obtain⟨_,_,_,n,_,h1⟩:=(show a9 X.prog X.w H s.heap a (.vJ ob (.lst xs)) from I.bp a _ ea)
  exact ε PySem.W.kitx_list I.kL {_,h1,rfl} e (λz=>nomatch z) h
 | @tup a xs ea =>
  cases (show u=Φ a from rx)
  obtain⟨_,_,_,p⟩:=(show a9 X.prog X.w H s.heap a (.tup xs) from I.bp a _ ea)
  obtain⟨o,h1,h2,_⟩:=p;exact ε PySem.W.kitx_tuple I.kL {(o),h1,h2} e (λz=>nomatch z) h
 | @dK a kvs ea =>
  cases (show u=Φ a from rx)
  obtain⟨_,_,vs,_,p⟩:=(show a9 X.prog X.w H s.heap a (.dK kvs) from I.bp a _ ea)
  obtain⟨o,es,ep,h1,h2,_⟩:=p;exact ε PySem.W.kitx_dict I.kL {(o),h1,h2.1} e (λz=>nomatch z) h
 | @dT a kvs ea =>
  cases (show u=Φ a from rx)
  obtain⟨_,_,xs,_,o,es,ep,h1,h2,_⟩:=(show a9 X.prog X.w H s.heap a (.dT kvs) from I.bp a _ ea)
  exact ε PySem.W.kitx_dict I.kL {(o),h1,h2.1} e (λz=>nomatch z) h
 | @ins a C dx fs ea cl ha hn Tb hm =>
  cases (show u=Φ a from rx)
  obtain⟨mA,O,_⟩:=dZ I.bp ea;obtain⟨od,J,_⟩:=O.look;exact ε (PySem.W.kitx_own (cl.get _) cl.hd ha hn Tb hm) I.kL J e (λz=>nomatch z) h
end
structure c6 (k:Nat)(A:aaJ):Prop where
 hd:A.handled=ξ
 dp:A.depth+3*k+5<recursionLimit
 un:A.units+16*k+200<abx
def c6.mono {j k:Nat}{A:aaJ}(r:c6 k A)(h:j<=k):c6 j A:={r.hd,by have:=r.dp;lia,by have:=r.un;lia}
def c6.deeper {k:Nat}{A:aaJ}(r:c6 (k+1) A)(env:Env):c6 k (A.deeper env) :=
 {r.hd,by have:=r.dp;show A.depth+1+3*k+5<_;lia,by have:=r.un;show A.units+3+16*k+200<_;lia}
def c6.depth {k:Nat}{A:aaJ}(r:c6 k A):A.depth<recursionLimit:=by have:=r.dp;lia
def c6.units {k:Nat}{A:aaJ}(r:c6 k A):A.units+64<abx:=by have:=r.un;lia
def JH:TA:=λ_ H Q=>Q [] H
def H_ (ta:TE)(tr:TA):TA:=λσ H Q=>ta σ H λx H1=>tr σ H1 λxs H2=>Q (x::xs) H2
section
variable {X:Cx}{e:Expr}{es:List Expr}{te:TE}{t:TA}{pos:Pos}
def cR:PA X [] JH:=λ_ _ _ _ H Q I h=>Calls.spliced_nil {[],H,I,.nil,h}
def a_ (ha:PE X e te)(hr:PA X es t)(hs:Z2 (e::es) X.env=(η,eval e X.env)::Z2 es X.env:=by rfl):PA X (e::es) (H_ te t):=by
 intro pos μ s σ H Q I h;rw[hs];show aab _ _ (spliced ((η,eval e X.env)::abI pos (Z2 es X.env))) _ _ s;refine Calls.spliced_cons (bP (ha μ s σ H _ I h) λu s1 ⟨x,H1,I1,r1,q1⟩=>?_);exact bP (hr pos μ s1 σ H1 _ I1 q1) λus s2 ⟨xs,H2,I2,r2,q2⟩=>{x::xs,H2,I2,.cons r1 r2,q2}
def Rf (t:TA):TE:=λσ H Q=>t σ H λxs H1=>xs.length<=Z3/\∀p,H1 p=ξ->Q (.ref p) (upd H1 p (.tup xs))
def Rl (t:TA):TE:=λσ H Q=>t σ H λxs H1=>xs.length<=Z3/\∀p,H1 p=ξ->Q (.ref p) (upd H1 p (.lst xs))
def wx {x1}(h:PA X es t):PE X (.Tuple es x1 pos) (Rf t):=by
 intro μ s σ H Q I hq;refine wpAny_Tuple_spliced (bP (h pos μ s σ H _ I hq) λus s1 ⟨xs,H1,I1,r,z,q⟩=>{by rw[<- r.length];exact z,?_})
 have hf:H1 s1.heap.objs.size=ξ:=I1.bp.fresh (ZG _);refine{.ref s1.heap.objs.size,upd H1 s1.heap.objs.size (.tup xs),I1.laid (t':=s1.toks) (λb u e=>ZM _ e) (ZG _) ?_,rfl,q _ hf};exact{z,us,r,{_,Z8 _ rfl,rfl,_,rfl}}
def wy (h:PA X es t):PE X (.List es pos) (Rl t):=by
 intro μ s σ H Q I hq;refine wpAny_List_spliced (bP (h pos μ s σ H _ I hq) λus s1 ⟨xs,H1,I1,r,z,q⟩=>{by rw[<- r.length];exact z,?_})
 have hf:H1 s1.heap.objs.size=ξ:=I1.bp.fresh (ZG _);refine{.ref s1.heap.objs.size,upd H1 s1.heap.objs.size (.lst xs),I1.laid (t':=s1.toks) (λb u e=>ZM _ e) (ZG _) ?_,rfl,q _ hf};exact{z,us,0,r,Z8 _ rfl}
end
abbrev Sp:=List V->Hp->VK->XK->Prop
abbrev E5:=List Env->Hp->ZH->XK->ZF->ZH->Prop
structure HZ (P:ZN)(w:Z4)(K:Ξ)(mg:Str->Option ZF)(base:Heap)(A:aaJ)(outer:List Env)(s:ZH)(H:Hp):Prop where
 frames:A.frames=ν outer
 mod:Mod K mg base
 bs:∀b o,base.get? b=ν o->s.heap.get? b=ν o/\H b=ξ
 Ja:base.objs.size<=s.heap.objs.size
 om:s.heap.FunFrames base outer
 MK:∀b∈DV outer,H b=ξ
 bp:i8 P w H s.heap
 bare:AllBare s.gens
def CE (outer:List Env)(P:ZN)(w:Z4)(H:Hp)(s:ZH)(Q:VK)(u:ZF)(s':ZH):Prop :=
 ∃v H',s'.os=s.os/\AllBare s'.gens/\Un (DV outer) [] H H' s.heap s'.heap/\i8 P w H' s'.heap/\RelV v u/\Q v H'
def CR (CX:E5)(outer:List Env)(P:ZN)(w:Z4)(H:Hp)(s:ZH)(Q:VK)(E:XK)(r:Result)(s':ZH):Prop :=
 match r with
 |.ok (.ret u)=>CE outer P w H s Q u s'
 |.ok _=>False
 |.error e=>CX outer H s E e s'
structure aO (P:ZN)(w:Z4)(K:Ξ)(mg:Str->Option ZF)(base:Heap)(CX:E5)(k:Nat)(f:θ)(fd:aaD)(ps:List Str)(sp:Sp):Prop where
 len:∀vs H Q E,sp vs H Q E->vs.length=ps.length
 run:∀(A:aaJ) (outer:List Env) (s:ZH) (H:Hp) (args:Args) (us:List ZF) (vs:List V) (Q:VK) (E:XK),c6 k A->HZ P w K mg base A outer s H->BindsTo s fd args (ps.zip us)->Vals vs us->sp vs H Q E ->
  ac2 (Ψ P w) A (.call (.ref f) args) (CR CX outer P w H s Q E) s
def aO.imp {P:ZN}{w:Z4}{K:Ξ}{mg:Str->Option ZF}{base:Heap}{CX:E5}{k:Nat}{f:θ}{fd:aaD}{ps:List Str}{sp Vu:Sp}(F:aO P w K mg base CX k f fd ps sp)
  (h:∀vs H Q E,Vu vs H Q E->sp vs H Q E):aO P w K mg base CX k f fd ps Vu :=
 {λvs H Q E q=>F.len vs H Q E (h _ _ _ _ q),λA outer s H args us vs Q E hr he hb hv hs=>F.run A outer s H args us vs Q E hr he hb hv (h _ _ _ _ hs)}
section
variable {X:Cx}{μ:List (θ×Obj)}{σ:St}{H:Hp}{s s':ZH}
def Inv.UQ (I:Inv X μ σ H s):HZ X.prog X.w X.K X.mg X.base X.A X.stack s H :=
 {I.ok.frames,I.ok.mod,I.bs,aaj I.ok.Ja I.sz,I.stack,I.xQ,I.bp,I.bare}
def Inv.after {Q:VK}{u:ZF}(I:Inv X μ σ H s)(h:CE X.stack X.prog X.w H s Q u s'):EP X μ σ Q u s':=by
 obtain⟨v,H',os,bare,un,bp,r,q⟩:=h;obtain⟨hh,g,d,t,Sg⟩:=s';obtain rfl:Sg=s.os:=os;exact{v,H',I.call (h':=hh) (g':=g) (d':=d) (t':=t) (ch:=[]) un bp bare (λb z=>Η z (by simp)),r,q}
end
def M9 (sp:Sp)(IW:List V)(E:XK)(t:TA):TE:=λσ H Q=>t σ H λvs H1=>sp (vs++IW) H1 Q E
def Binds (K:Ξ)(fd:aaD)(ps:List Str)(ds:List ZF):Prop :=
 ∀(s:ZH) (us:List ZF),K.In s.heap->(us++ds).length=ps.length->BindsTo s fd {us,[]} (ps.zip (us++ds))
def Binds.all {K:Ξ}{fd:aaD}{ps:List Str}(h:∀us:List ZF,us.length=ps.length->bindArgs fd {us,[]}=pure (ps.zip us)):Binds K fd ps []:=λs us _ hl=>by
 rw[aaw]at hl ⊢
 exact .of_eq (h us hl)
def Passes (CX:E5)(X:Cx)(E:XK):Prop:=∀(μ:List (θ×Obj)) (σ:St) (H:Hp) (s:ZH) (e:ZF) (s':ZH),Inv X μ σ H s->CX X.stack H s E e s'->X.xe e s'
section
variable {X:Cx}{CX:E5}{k:Nat}{f:θ}{fd:aaD}{ps:List Str}{sp:Sp}{IW:List V}{ds:List ZF}{E:XK}{x:Str}{p pos:Pos}{e:Expr}{es:List Expr}{t:TA}
def JT {μ:List (θ×Obj)}{σ:St}{H:Hp}{s:ZH}{Q:VK}{us:List ZF}{vs:List V}(F:aO X.prog X.w X.K X.mg X.base CX k f fd ps sp)(hr:c6 k X.A)(hb:Binds X.K fd ps ds)(hd:Vals IW ds)(hx:Passes CX X E)
  (I:Inv X μ σ H s) (r:Vals vs us) (h:sp (vs++IW) H Q E):aab (Ψ X.prog X.w) X.A (call (.ref f) us) (EP X μ σ Q) X.xe s:=by
 have r2:Vals (vs++IW) (us++ds):=r.append hd;have hl:(us++ds).length=ps.length:=by rw[<- r2.length];exact F.len _ _ _ _ h
 refine wpAny_call (abZ (F.run X.A X.stack s H {us,[]} (us++ds) (vs++IW) Q E hr I.UQ (hb s us I.kL hl) r2 h) λr s' hq=>?_);cases r with
 |error e=>exact hx μ σ H s e s' I hq
 |ok fl =>
  cases fl with
  |ret u=>exact I.after hq
  |next=>exact ace hq
  |brk=>exact ace hq
  |cont=>exact ace hq
def yq (F:aO X.prog X.w X.K X.mg X.base CX k f fd ps sp)(hr:c6 k X.A)(hg:Gl X x)(hm:X.mg x=ν (.ref f))(hk:υ X.K (.ref f)=ζ)(hb:Binds X.K fd ps ds)(hd:Vals IW ds)(hx:Passes CX X E)
  (ha:PA X (e::es) t) (hdb:(x==("__debug__" : Str))=η:=by decide) (he:Z2 (e::es) X.env=(η,eval e X.env)::Z2 es X.env:=by rfl) (hpl:(abI pos (Z2 es X.env)).any (·.1)=η:=by rfl) :
  PE X (.Call (.Name x p) (e::es) [] pos) (M9 sp IW E t):=by
 intro μ s σ H Q I h;refine acQ (GX I hg hm ?_ hdb);refine PySem.W.callWith_K (h₀:=X.base) I.ok.mod.SK hk (bP (ha pos μ s σ H _ I h) λus s1 ⟨vs,H1,I1,r,q⟩=>{I1.kL,?_}) he hpl;exact JT F hr hb hd hx I1 r q
end
structure aL (N P:List Str)(sc:acj):Prop where
 kind:sc.kind=.function
 co:sc.isCoroutine=η
 gen:sc.isGenerator=η
 nd:N.Nodup
 pre:N.take P.length=P
 par:∀x∈P,sc.names.lookup x=ν .local\/sc.names.lookup x=ν .cell
 Ky:∀y∈sc.names,y.2≠.free
def mkS{N P:List Str}{sc:acj}(h0:sc.kind=.function:=by rfl)(h1:sc.isCoroutine=η:=by rfl)(h2:sc.isGenerator=η:=by rfl)(h3:N.Nodup:=by decide +kernel)(h4:N.take P.length=P:=by rfl)(h5:∀x∈P,sc.names.lookup x=ν .local\/sc.names.lookup x=ν .cell:=by decide +kernel)(h6:∀y∈sc.names,y.2≠.free:=by decide +kernel):aL N P sc:={(h0),h1,h2,h3,h4,h5,h6}
theorem qS {kindOf:Str->Option acC}{x:Str}:∀{binds:List (Str×ZF)} {m:Str->Option ZF},(∀v,(x,v)∉binds)->bindL kindOf binds m x=m x
 |[],_,_=>rfl
 | (n,v)::r,m,h=>by
  unfold bindL;rw[qS λw hw=>h w (ZP _ hw)]
  split
  ·have:x≠n:=by rintro rfl;exact h v ZO
   simp[this]
  ·rfl
theorem qU {kindOf:Str->Option acC}{x:Str}:∀{binds:List (Str×ZF)} {m:Str->Option ZF},(∀v,(x,v)∉binds)->bindC kindOf binds m x=m x
 |[],_,_=>rfl
 | (n,v)::r,m,h=>by
  unfold bindC;rw[qU λw hw=>h w (ZP _ hw)]
  split
  ·rfl
  ·have:x≠n:=by rintro rfl;exact h v ZO
   simp[this]
theorem qT {kindOf:Str->Option acC}{x:Str}{v:ZF}:∀{P:List Str} {vs:List ZF} {i:Nat} {m:Str->Option ZF},P.Nodup->P[i]?=ν x->vs[i]?=ν v->kindOf x=ν .local ->
  bindL kindOf (P.zip vs) m x=ν v
 |[],_,_,_,_,h,_,_=>by simp at h
 |_::_,[],_,_,_,_,h,_=>by simp at h
 |p::P,w::vs,0,m,nd,h1,h2,hk=>by
  simp at h1 h2;subst h1;subst h2;show bindL kindOf ((p,w)::P.zip vs) m p=_;unfold bindL;rw[qS λv hv=>(aac.mp nd).1 (acI hv).1,χ hk];simp
 |p::P,w::vs,i+1,m,nd,h1,h2,hk=>by
  show bindL kindOf ((p,w)::P.zip vs) m x=_;unfold bindL;exact qT (i:=i) (aac.mp nd).2 (by simpa using h1) (by simpa using h2) hk
theorem qV {kindOf:Str->Option acC}{x:Str}{v:ZF}:∀{P:List Str} {vs:List ZF} {i:Nat} {m:Str->Option ZF},P.Nodup->P[i]?=ν x->vs[i]?=ν v->kindOf x≠ν .local ->
  bindC kindOf (P.zip vs) m x=ν v
 |[],_,_,_,_,h,_,_=>by simp at h
 |_::_,[],_,_,_,_,h,_=>by simp at h
 |p::P,w::vs,0,m,nd,h1,h2,hk=>by
  simp at h1 h2;subst h1;subst h2;show bindC kindOf ((p,w)::P.zip vs) m p=_;unfold bindC;rw[qU λv hv=>(aac.mp nd).1 (acI hv).1,ω hk];simp
 |p::P,w::vs,i+1,m,nd,h1,h2,hk=>by
  show bindC kindOf ((p,w)::P.zip vs) m x=_;unfold bindC;exact qV (i:=i) (aac.mp nd).2 (by simpa using h1) (by simpa using h2) hk
def start (N:List Str)(vs:List V):St:=vs.map ν++aau (N.length-vs.length) ξ
noncomputable def pO (CX:E5)(P:ZN)(w:Z4)(K:Ξ)(mg:Str->Option ZF)(base:Heap)(N:List Str)(qual:Str)(scope:acj)(f:θ)(cd:ZF)(A:aaJ)(outer:List Env)(s:ZH)(H:Hp)(E:XK):Cx where
 prog:=P
 w:=w
 K:=K
 mg:=mg
 base:=base
 A:=A.deeper (envOfC qual scope s.heap.objs.size f cd)
 N:=N
 s₀:=s
 H₀:=H
 env:=envOfC qual scope s.heap.objs.size f cd
 outer:=outer
 stack:=envOfC qual scope s.heap.objs.size f cd::outer
 ex:=[]
 calm:=ζ
 fn:=λ_=>ζ
 pn:=[]
 xe:=λe s'=>aab (Ψ P w) (A.deeper (envOfC qual scope s.heap.objs.size f cd)) (leaving (envOfC qual scope s.heap.objs.size f cd) e) (λ_ RK=>CX outer H s E e RK) (λe' RK=>CX outer H s E e' RK) s'
def vh {sc:acj}{n:Nat}{x:Str}(h:sc.names.lookup x=ν .cell):∃c,(cellsFrom n sc.names []).lookup x=ν c:=by
 have q:=PySem.W.cellsFrom_some sc.names n [] (.inl h);exact Option.isSome_iff_exists.mp q
def Av {CX:E5}{P:ZN}{w:Z4}{K:Ξ}{mg:Str->Option ZF}{base:Heap}{N ps:List Str}{qual:Str}{scope:acj}{f:θ}{cd:ZF}{A:aaJ}{outer:List Env}{s s1:ZH}{H:Hp}{E:XK}{us:List ZF}{vs:List V}
  (S:aL N ps scope) (hd:A.handled=ξ) (e0:HZ P w K mg base A outer s H) (hl:vs.length=ps.length) (r:Vals vs us)
  (x:InCallC s s.heap.objs.size (bindL (envOfC qual scope s.heap.objs.size f cd).kindOf (ps.zip us) λ_=>ξ) (cellsFrom (s.heap.objs.size+1) scope.names []) (bindC (envOfC qual scope s.heap.objs.size f cd).kindOf (ps.zip us) λ_=>ξ) s1) :
  Inv (pO CX P w K mg base N qual scope f cd A outer s H E) [] (start N vs) H s1:=by
 have hpl:ps.length<=N.length:=by have:=Ι List.length S.pre;rw[aai]at this;lia
 obtain⟨h1,tk,rfl,hk⟩:=x.done;have NZ:∀b:θ,b∉(pO CX P w K mg base N qual scope f cd A outer s H E).ex:=λb z=>Η (show b∈([]:List θ) from z) (by simp)
 refine⟨{e0.mod,S.kind,rfl,rfl,ZG _,λy z c h1 h2=>?_,λy hy=>?_,λy c _ h=>?_,λ_=>hd,Around.frames_deeper e0.frames,.inr {(rfl),rfl},λb z=>Η z (NZ b),e0.bs,e0.Ja,λb _ _=>NZ b,λb z=>Η z (NZ b),e0.om,e0.MK},
  rfl,e0.bare,Un.kept hk,{_,x.toInCall.ns,λi y v h1 h2 h3=>?_},λy c h=>{_,x.cell y c h},e0.bp.fresh (ZG _),λy c h=>?_,λp hp=>Η (show p∈([]:List (θ×Obj)) from hp) (by simp),e0.bp.kept hk,?_⟩
 ·exact name_of_addr x.apart (PySem.mem_of_lookup h1) (PySem.mem_of_lookup h2)
 ·have hy:scope.names.lookup y=ν .cell\/scope.names.lookup y=ν .free:=hy;rcases hy with hy|hy
  ·exact vh hy
  ·exact Η rfl (S.Ky _ (PySem.mem_of_lookup hy))
 ·exact Nat.le_of_lt (x.above y c (PySem.mem_of_lookup h))
 ·have hi:i<vs.length:=by
   unfold start at h2
   by_cases hi:i<vs.length
   ·exact hi
   ·rw[aaY (by simpa using hi)]at h2
    rw[List.getElem?_replicate]at h2
    split at h2 <;> cases h2
  have ha:vs[i]?=ν v:=by
   unfold start at h2;rw[abd (by simpa using hi),ZS]at h2
   cases e:vs[i]? with
   |none=>rw[e]at h2;cases h2
   |some a=>rw[e]at h2;cases h2;rfl
  obtain⟨u,hu,rv⟩:=r.get ha;have hp:ps[i]?=ν y:=by
   rw[<- S.pre,aco (by lia)];exact h1
  have VO:ps.Nodup:=by rw[<- S.pre];exact S.nd.sublist (List.take_sublist _ _)
  refine{u,rv,?_};rcases S.par y (aap hp)with k|k
  ·exact .inl {k,qT VO hp hu k}
  ·obtain⟨c,e⟩:=vh (n:=s.heap.objs.size+1) k;refine .inr {.inl k,c,e,?_};have q:=x.cell y c e;rw[qV VO hp hu (by show scope.names.lookup y≠_;rw[k];decide)]at q
   exact q
 ·exact e0.bp.fresh (Nat.le_of_lt (x.above y c (PySem.mem_of_lookup h)))
 ·unfold start;show _=N.length;rw[aad,ZE,List.length_replicate];lia
def PC {CX:E5}{P:ZN}{w:Z4}{K:Ξ}{mg:Str->Option ZF}{base:Heap}{k:Nat}{f:θ}{name qual:Str}{params:Arguments}{body:List Stmt}{scope:acj}{dV kV doc pm cY ct oc:ZF}{an od:Option θ}
  {Ki:Array (Option ZF)} {N ps:List Str} {sp:Sp} (lk:K.lookup f=ν {oc,od,.func (Ε name qual params body scope dV kV doc pm an cY ct),Ki}) (Bm:PySem.W.codeIn K cY qual=ζ) (S:aL N ps scope)
  (len:∀vs H Q E,sp vs H Q E->vs.length=ps.length)
  (oj:∀(A:aaJ) (outer:List Env) (s:ZH) (H:Hp) (vs:List V) (Q:VK) (E:XK),c6 k (A.deeper (envOfC qual scope s.heap.objs.size f cY))->sp vs H Q E ->
   ∃t,vL (pO CX P w K mg base N qual scope f cY A outer s H E) body t/\t {nx:=λ_ H'=>Q .cf H',rt:=Q} (start N vs) H) :
  aO P w K mg base CX (k+1) f (Ε name qual params body scope dV kV doc pm an cY ct) ps sp:=by
 refine{len,λA outer s H args us vs Q E hr e0 hb r n_=>?_};have hl:=len _ _ _ _ n_;have KX:K.In s.heap:=e0.mod.SK.keeps λb o e=>(e0.bs b o e).1;have lim:s.heap.NoLimit:=e0.mod.nolimit.keeps λb o e=>(e0.bs b o e).1;have Pk:∀y∈ps.zip us,scope.names.lookup y.1=ν .local\/(scope.names.lookup y.1=ν .cell/\((cellsFrom (s.heap.objs.size+1) scope.names []).lookup y.1).isSome=ζ):=λTn hy=>by
  obtain⟨n,v⟩:=Tn;rcases S.par n (acI hy).1 with q|q
  ·exact .inl q
  ·exact .inr {q,PySem.W.cellsFrom_some _ _ _ (.inl q)}
 refine codeAny_call_function hr.depth (KX _ _ lk) rfl S.co S.gen rfl (PySem.W.codeRec_of KX Bm) (hb _ _ _ _ ?_);refine wpAny_newFunctionEnv_cells S.kind Pk λenv he s1 x=>?_;subst he;refine{lim.keeps x.toInCall.keep,codeAny_func ?_};obtain⟨t,ht,hq⟩:=oj A outer s H vs Q E (hr.deeper _) n_;have I:Inv (pO CX P w K mg base N qual scope f cY A outer s H E) [] (start N vs) H s1:=Av S hr.hd e0 hl r x;refine acP (ht [] s1 (start N vs) H _ I hq) (λfl s' hs=>?_) λe s' hs=>hs;have fin:∀{σ':St} {H':Hp} {v:V} {u:ZF},Inv (pO CX P w K mg base N qual scope f cY A outer s H E) [] σ' H' s'->RelV v u->Q v H'->CE outer P w H s Q u s' :=
  λ{σ' H' v u} J rv q=>{(v),H',J.os,J.bare,J.base,J.bp,rv,q}
 cases fl with
 |ret u =>
  obtain⟨v,σ',H',J,rv,q⟩:=hs;exact fin J rv q
 |next =>
  obtain⟨σ',H',J,q⟩:=hs;exact fin (v:=V.cf) (u:=Value.none) J rfl q
 |brk =>
  obtain⟨_,_,_,q⟩:=hs;exact ace q
 |cont =>
  obtain⟨_,_,_,q⟩:=hs;exact ace q
section
variable {X:Cx}{x:Str}{p pos:Pos}{e:Expr}{es:List Expr}{t:TA}{id T:String}{r:List V->Hp->VK->Prop}
def Qo (r:List V->Hp->VK->Prop)(t:TA):TE:=λσ H Q=>t σ H λvs H1=>r vs H1 Q
def jy (hc:eS X (.builtin id) r)(hg:Gl X x)(hm:X.mg x=ξ)(hv:aaF x=ν (.builtin id))(ha:PA X (e::es) t)(hn:x≠"__name__" := by decide)(hdb:(x==("__debug__" : Str))=η:=by decide)
  (he:Z2 (e::es) X.env=(η,eval e X.env)::Z2 es X.env:=by rfl) (hpl:(abI pos (Z2 es X.env)).any (·.1)=η:=by rfl):PE X (.Call (.Name x p) (e::es) [] pos) (Qo r t):=by
 intro μ s σ H Q I h;refine acQ (gI I hg hm hv ?_ hn hdb);exact PyProof.Rows.callWith_builtin1 (bP (ha pos μ s σ H _ I h) λus s1 Tj=>by obtain⟨vs,H1,I1,r1,q1⟩:=Tj;exact hc μ s1 σ H1 vs us Q I1 r1 q1) he hpl
def qe (hc:eS X (.type T) r)(hg:Gl X x)(hm:X.mg x=ξ)(hv:aaF x=ν (.type T))(ha:PA X (e::es) t)(hn:x≠"__name__" := by decide)(hdb:(x==("__debug__" : Str))=η:=by decide)
  (he:Z2 (e::es) X.env=(η,eval e X.env)::Z2 es X.env:=by rfl) (hpl:(abI pos (Z2 es X.env)).any (·.1)=η:=by rfl):PE X (.Call (.Name x p) (e::es) [] pos) (Qo r t):=by
 intro μ s σ H Q I h;refine acQ (gI I hg hm hv ?_ hn hdb);exact abD (bP (ha pos μ s σ H _ I h) λus s1 Ti=>by obtain⟨vs,H1,I1,r1,q1⟩:=Ti;exact hc μ s1 σ H1 vs us Q I1 r1 q1) he hpl
def wz (hc:eS X (.type T) r)(hg:Gl X x)(hm:X.mg x=ξ)(hv:aaF x=ν (.type T))(hn:x≠"__name__" := by decide)(hdb:(x==("__debug__" : Str))=η:=by decide) :
  PE X (.Call (.Name x p) [] [] pos) (Qo r JH):=by
 intro μ s σ H Q I h;refine acQ (gI I hg hm hv ?_ hn hdb);exact PyProof.Rows.callWith_type0 (hc μ s σ H [] [] Q I .nil h)
end
end L2
namespace HT
open PySem PyProof.Rows
def lexLt:List Int->List Int->Bool
 |[],[]=>η
 |[],_::_=>ζ
 |_::_,[]=>η
 |x::xs,y::ys=>if x=y then lexLt xs ys else decide (x<y)
def fT (x y:Int)(xs ys:List Int):lexLt (x::xs) (y::ys)=if x=y then lexLt xs ys else decide (x<y):=rfl
def pB:lexLt [] []=η:=rfl
def nU (y:Int)(ys:List Int):lexLt [] (y::ys)=ζ:=rfl
def nV (x:Int)(xs:List Int):lexLt (x::xs) []=η:=rfl
def Eh (A:aaJ)(s:ZH)(a:Int)(t:Tok)(c:Int)(u:Tok):∃e,SeqAt.EqAt A s (.int a t) (.int c u) e/\(e=ζ↔a=c) :=
 {(a==c),SeqAt.EqAt.int_int a t c u,by simp}
def Cg (A:aaJ)(s:ZH)(a:Int)(t:Tok)(c:Int)(u:Tok)(prog:ZN)(w:Z4)(E:ZF->ZH->Prop)(Q:ZF->ZH->Prop)(h:Q (.bool (decide (a<c))) s):
  aab (Ψ prog w) A (richCompare .Lt (.int a t) (.int c u)) Q E s :=
 (PyProof.Rows.lt_int h:aab (Ψ prog w) A (aaV .Lt (.int a t) (.int c u)) Q E s)
section
open PySem.SeqAt
open PySem.AutoSeq1 (wpAny_loadPart')
open PySem.MeetsSeq PySem.MeetsSeq2 PySem.MeetsSeq3
def ph (l b:θ)(items aF:Array ZF)(n n2:Nat)(dd Fg:Option θ)(sl E9:Array (Option ZF))(ns ms:List Int)(hi:abl items.toList ns)(hj:abl aF.toList ms):
  Meets (abM.«tuple.__lt__» {[.ref l,.ref b],[]})
   (λ_ R s=>s.heap.get? l=ν {cls:=.type "tuple",dict:=dd,data:=.seq items n,slots:=sl}/\s.heap.get? b=ν {cls:=.type "tuple",dict:=Fg,data:=.seq aF n2,slots:=E9} /\
    R (.ok (.ret (.bool (lexLt ns ms)))) s) :=
 .of_wp λprog w A R s h=>by
  obtain⟨hp,g,d,tk,os⟩:=s;obtain⟨hl,hb,h⟩:=h;have f2:=AutoSeq1.sub_tuple_tuple;have z1:items.size=ns.length:=by rw[<- hi.length];simp
  have z2:aF.size=ms.length:=by rw[<- hj.length];simp
  wp_walk using aaB hl,aaB hb,ac_ _ (λrest b s'=>b.1=ξ/\s'={(hp),g,d,tk,os}/\∃(vs ws:List ZF) (qg MD:List Int),rest=vs.zip ws /\
   abl vs qg/\abl ws MD/\qg.length+aF.size=MD.length+items.size/\R (.ok (.ret (.bool (lexLt qg MD)))) {(hp),g,d,tk,os}) _
  case turn =>
   rintro⟨y,x⟩ rest b s' ⟨lZ,rfl,vs,ws,qg,MD,hz,S_,QD,hlen,hR⟩;cases S_ with
   |nil=>rw[ac4]at hz;cases hz
   |cons a t S9 =>
    cases QD with
    |nil=>rw[List.zip_nil_right]at hz;cases hz
    |cons c u S5 =>
     rw[ab1]at hz;injection hz with XU DC
     injection XU with hy hx
     subst hy hx;rw[fT]at hR;simp only[ZZ]at hlen;obtain⟨e,he,Pm⟩:=Eh A.in1 {(hp),g,d,tk,os} a t c u;refine ZD (he prog w _ _ ?_);cases e with
     |true =>
      rw[χ (Pm.mp rfl)]at hR
      wp_walk
      exact{rfl,rfl,_,_,_,_,DC,S9,S5,by lia,hR}
     |false =>
      rw[ω (λq=>Η (Pm.mpr q) aaO)]at hR;have Th:=Cg A.in1 {(hp),g,d,tk,os} a t c u prog w
      wp_walk using Th
      exact{_,rfl,by simpa using hR}
  case fin =>
   rintro⟨b1,b2⟩ s' ⟨lZ,rfl,vs,ws,qg,MD,hz,S_,QD,hlen,hR⟩;simp only at lZ;subst lZ;have hv:lexLt qg MD=decide (items.size<aF.size):=by
    cases S_ with
    |nil =>
     cases QD with
     |nil =>
      simp only[acJ]at hlen;rw[pB];exact(Δ (by lia)).symm
     |cons c u hw =>
      simp only[acJ,ZZ]at hlen;rw[nU];exact(Γ (by lia)).symm
    |cons a t hv =>
     cases QD with
     |nil =>
      simp only[acJ,ZZ]at hlen;rw[nV];exact(Δ (by lia)).symm
     |cons c u hw =>
      rw[ab1]at hz;cases hz
   rw[hv]at hR
   wp_walk
   exact{_,rfl,by simpa[Builtin.Tuple.tupleCompareSizes] using hR}
  case h =>
   exact{rfl,rfl,items.toList,aF.toList,ns,ms,rfl,hi,hj,by lia,h}
end
section
variable {prog:ZN}{w:Z4}{A:aaJ}{E:ZF->ZH->Prop}{s:ZH}
def wM {l b:θ}{items aF:Array ZF}{ns ms:List Int}{Q:ZF->ZH->Prop}(hl:IsTup s.heap l items)(hb:IsTup s.heap b aF)(hi:abl items.toList ns)(hj:abl aF.toList ms)
  (hu:A.units<abx) (h:Q (.bool (lexLt ns ms)) s):aab (Ψ prog w) A (aaV .Lt (.ref l) (.ref b)) Q E s:=by
 obtain⟨⟨cls,dd,data,sl⟩,ho,hc,n,hd⟩:=id hl;obtain⟨⟨U0,Fg,data2,E9⟩,IF,pE,n2,hd2⟩:=id hb;simp only at hc hd pE hd2;subst hc hd pE hd2;exact richCompare_meets_room (op:=.Lt) {_,ho,rfl} {_,IF,rfl} PySem.F.slot_tuple_lt PySem.F.entry_tuple_lt (PySem.F.args_tuple_lt_2 _ _) (ph l b items aF n n2 dd Fg sl E9 ns ms hi hj)
  {ho,IF,show Value.bool (lexLt ns ms)≠Value.notImplemented/\Q (.bool (lexLt ns ms)) s from {(λx=>nomatch x),h}} hu
def nj (n d:Nat):Option Int->Nat
 |none=>d
 |some v=>if v<0 then (v+(n:Int)).toNat else min v.toNat n
def Cc (n d:Nat):nj n d ξ=d:=rfl
def FV (n d k:Nat):nj n d (ν (k:Int))=min k n:=by
 show (if (k:Int)<0 then ((k:Int)+(n:Int)).toNat else min (k:Int).toNat n)=min k n
 rw[ω (by lia),aa0]
end
end HT
namespace L2
open PySem PySem.Spec PyProof.Rows
abbrev TO:=St->Hp->(Option Int->Hp->Prop)->Prop
def PO (X:Cx)(e:Option Expr)(t:TO):Prop :=
 ∀(μ:List (θ×Obj)) (s:ZH) (σ:St) (H:Hp) (Q:Option Int->Hp->Prop),Inv X μ σ H s->t σ H Q ->
  aab (Ψ X.prog X.w) X.A (evalPart e X.env) (λu s'=>∃o H',Inv X μ σ H' s'/\IsPart u o/\Q o H') X.xe s
def FF:TO:=λ_ H Q=>Q ξ H
def M3 (t:TE):TO:=λσ H Q=>t σ H λx H1=>∃i,x=.int i/\Q (ν i) H1
def intsAre_of {ns:List Int}:∀{us:List ZF},Vals (ns.map V.int) us->abl us ns:=by
 induction ns with
 |nil=>intro us r;rw[List.map_nil]at r;cases r;exact .nil
 |cons n ns ih =>
  intro us r;rw[aae]at r;cases r with
  |cons r1 r2 =>
   obtain⟨t,e⟩:=r1;subst e;exact .cons n t (ih r2)
section
variable {X:Cx}{e:Expr}{te:TE}{lo hi:Option Expr}{tl th:TO}{pos p2:Pos}
def yi:PO X ξ FF:=by
 intro μ s σ H Q I h;rw[evalPart_none];exact ZL {ξ,H,I,.none,h}
def yh (h:PE X e te):PO X (ν e) (M3 te):=by
 intro μ s σ H Q I hw;rw[evalPart_some];refine bP (h μ s σ H _ I hw) λu s1 ⟨x,H1,I1,r1,q1⟩=>?_;obtain⟨i,rfl,q⟩:=q1;obtain⟨t,rfl⟩:=r1;exact{ν i,H1,I1,.int i t,q}
def U7 (X:Cx)(r:V->Option Int->Option Int->Hp->VK->Prop):Prop :=
 ∀(μ:List (θ×Obj)) (s:ZH) (σ:St) (H:Hp) (x:V) (v vl vu:ZF) (lo hi:Option Int) (sl:θ) (Q:VK),Inv X μ σ H s->RelV x v->s.heap.IsSliceOf sl vl vu .none->IsPart vl lo->IsPart vu hi->r x lo hi H Q ->
  ∃T id,typeLookup (.type T) "__getitem__" = pure (ν (.builtin id))/\s.TypeIs v T/\aab (Ψ X.prog X.w) X.A (getItem v (.ref sl)) (EP X μ σ Q) X.xe s
def W3 (r:V->Option Int->Option Int->Hp->VK->Prop)(te:TE)(tl th:TO):TE:=λσ H Q=>te σ H λx H1=>tl σ H1 λl H2=>th σ H2 λu H3=>r x l u H3 Q
def tR {r:V->Option Int->Option Int->Hp->VK->Prop}(hr:U7 X r)(he:PE X e te)(hl:PO X lo tl)(hu:PO X hi th):PE X (.Subscript e (.Slice lo hi ξ p2) pos) (W3 r te tl th):=by
 intro μ s σ H Q I h;refine Subscript_ (bP (he μ s σ H _ I h) λv s1 ⟨x,H1,I1,r1,q1⟩=>?_);refine wpAny_Slice (bP (hl μ s1 σ H1 _ I1 q1) λvl s2 ⟨l,H2,I2,pl,q2⟩=>bP (hu μ s2 σ H2 _ I2 q2) λvu s3 ⟨u,H3,I3,pu,q3⟩=>?_);rw[evalPart_none];refine ZL ?_;have I4:Inv X μ σ H3 {s3 with heap:=s3.heap.push {cls:=.type "slice",data:=.fields #[vl,vu,.none]}}:=I3.kept (t':=s3.toks) λb ob q=>ZM _ q
 obtain⟨T,id,hT,ht,hg⟩:=hr μ {s3 with heap:=s3.heap.push {cls:=.type "slice",data:=.fields #[vl,vu,.none]}} σ H3 x v vl vu l u s3.heap.objs.size Q I4 r1 (Heap.IsSliceOf.new ..) pl pu q3
 show aab (Ψ X.prog X.w) X.A (subscriptTail e (.Slice lo hi ξ p2) v (.ref s3.heap.objs.size)) (EP X μ σ Q) X.xe {s3 with heap:=s3.heap.push {cls:=.type "slice",data:=.fields #[vl,vu,.none]}}
 exact tail_any (ops:=[.ref s3.heap.objs.size,v]) ht hT hg (by with_unfolding_all rfl)
def vd (xs:List V)(lo hi:Option Int):List V:=(xs.drop (HT.nj xs.length 0 lo)).take (HT.nj xs.length xs.length hi-HT.nj xs.length 0 lo)
def vc (xs:List V)(lo hi:Option Int):(vd xs lo hi).length<=xs.length:=by
 unfold vd;rw[aai,aci];lia
end
def wU (n:Nat)(i:Int):Option Nat:=if 0<=i then (if i<n then ν i.toNat else ξ) else if -(n:Int)<=i then ν (i+n).toNat else ξ
def pP {α:Type}(xs:List α)(i:Int):Option α:=(wU xs.length i).bind λj=>xs[j]?
def yF {n:Nat}{i:Int}{j:Nat}(h:wU n i=ν j):seqIndex? i n=ν j/\j<n/\-(n:Int)<=i/\i<n:=by
 unfold wU at h
 by_cases h0:0<=i
 ·rw[χ h0]at h
  by_cases h1:i<n
  ·rw[χ h1]at h;have e:i.toNat=j:=aao h;exact{by rw[seqIndex_of h0 h1,e],by lia,by lia,h1}
  ·rw[ω h1]at h;cases h
 ·rw[ω h0]at h
  by_cases h1:-(n:Int)<=i
  ·rw[χ h1]at h;have e:(i+n).toNat=j:=aao h;exact{by rw[seqIndex_neg (by lia) h1,e],by lia,h1,by lia}
  ·rw[ω h1]at h;cases h
def zk {α:Type}{xs:List α}{i:Int}{v:α}(h:pP xs i=ν v):∃j,seqIndex? i xs.length=ν j/\xs[j]?=ν v/\j<xs.length/\-(xs.length:Int)<=i/\i<xs.length:=by
 unfold pP at h;cases e:wU xs.length i with
 |none=>rw[e]at h;cases h
 |some j =>
  rw[e]at h;obtain⟨h1,h2,h3,h4⟩:=yF e;exact{(j),h1,h,h2,h3,h4}
def mN (b:Expr):Prop:=∀o i,subscripted b η o i=operate [o,i] (getItem o i)
def Jg (X:Cx)(r:R2):Prop :=
 ∀(value slice:Expr) (μ:List (θ×Obj)) (s:ZH) (σ:St) (H:Hp) (x y:V) (v u:ZF) (Q:VK),Inv X μ σ H s->RelV x v->RelV y u->r x y H Q ->
  subscripted slice η v u=operate [v,u] (getItem v u)->aab (Ψ X.prog X.w) X.A (subscriptTail value slice v u) (EP X μ σ Q) X.xe s
def Q0 (X:Cx)(id:String)(r:V->List V->Hp->VK->Prop):Prop :=
 ∀(μ:List (θ×Obj)) (s:ZH) (σ:St) (H:Hp) (x:V) (xs:List V) (v:ZF) (us:List ZF) (Q:VK),Inv X μ σ H s->RelV x v->Vals xs us->r x xs H Q ->
  aab (Ψ X.prog X.w) X.A (call (.builtin id) (v::us)) (EP X μ σ Q) X.xe s
section
variable {X:Cx}{a b:Expr}{ta tb:TE}{pos:Pos}
def lG {r:R2}(hr:Jg X r)(ha:PE X a ta)(hb:PE X b tb)(hs:mN b):PE X (.Subscript a b pos) (M4 r ta tb):=by
 intro μ s σ H Q I h;exact Subscript_ (Ml ha hb I h λv u s2 x y H2 I2 rx ry q=>hr a b μ s2 σ H2 x y v u Q I2 rx ry q (hs _ _))
def Nk (K:Ξ):R2:=λx y H Q=>∃p xs i v,x=.ref p/\y=.int i/\dJ K H p xs/\pP xs i=ν v/\Q v H
def Nj (K:Ξ):R2:=λx y H Q=>∃p xs i v,x=.ref p/\y=.int i/\lh K H p xs/\pP xs i=ν v/\Q v H
def e9:Jg X (Nk X.K):=by
 intro value slice μ s σ H x y v u Q I rx ry h hs;obtain⟨p,xs,i,z,rfl,rfl,hq,he,q⟩:=h;cases rx;obtain⟨t,rfl⟩:=ry;obtain⟨its,r,pl,hz⟩:=I.list hq;obtain⟨j,h1,h2,h3,h4,h5⟩:=zk he;obtain⟨w,ew,E_⟩:=r.get h2;have hl:=r.length;have hn:=rV;have fin:EP X μ σ Q w s:={(z),H,I,E_,q}
 by_cases h0:0<=i
 ·have hj:i.toNat=j:=by
   rw[seqIndex_of h0 h5]at h1;exact aao h1
  exact item_listR pl.isList h0 (by lia) (by rw[hj];simpa using ew) fin hs
 ·have hj:(i+(its.toArray.size:Int)).toNat=j:=by
   rw[seqIndex_neg (by lia) h4]at h1
   rw[aaf,<- hl];exact aao h1
  exact subscriptTail_builtinR (x:=w) pl.isList.typeIs slot_list_getitem.lookup
   (wpAny_getItem_list_neg (Q:=λr s'=>r=w/\EP X μ σ Q r s') pl.isList (by lia) (by rw[aaf] <;> lia) (by lia) (by rw[hj];simpa using ew) {(rfl),fin}) hs
def Dr:Jg X (Nj X.K):=by
 intro value slice μ s σ H x y v u Q I rx ry h hs;obtain⟨p,xs,i,z,rfl,rfl,hq,he,q⟩:=h;cases rx;obtain⟨t,rfl⟩:=ry;obtain⟨its,r,pl,hz⟩:=I.tuple hq;obtain⟨j,h1,h2,h3,h4,h5⟩:=zk he;obtain⟨w,ew,E_⟩:=r.get h2;have hl:=r.length;have hn:=rV;have fin:EP X μ σ Q w s:={(z),H,I,E_,q};exact subscriptTail_builtinR (x:=w) pl.typeIs slot_tuple_getitem.lookup
  (getItem_tuple (j:=j) (Q:=λr s'=>r=w/\EP X μ σ Q r s') pl (by lia) (by lia) (by rw[aaf,<- hl];exact h1) (by simpa using ew) {(rfl),fin}) hs
def wK (its:List ZF)(n j:Nat)(u:ZF):acb (·.setIfInBounds j u) {cls:=.type "list",data:=.seq its.toArray n}={cls:=.type "list",data:=.seq (its.set j u).toArray n}:=by
 simp[acb]
def Inv.lst {μ:List (θ×Obj)}{σ:St}{H:Hp}{s:ZH}{p:θ}{xs:List V}(I:Inv X μ σ H s)(h:H p=ν (.lst xs)):
  ∃(its:List ZF) (n:Nat),Vals xs its/\s.heap.get? p=ν {cls:=.type "list",data:=.seq its.toArray n}/\xs.length<=Z3:=by
 obtain⟨z,its,n,r,e⟩:=I.bp p _ h;exact{(its),n,r,e,z}
def Inv.KN {μ:List (θ×Obj)}{σ:St}{H:Hp}{s:ZH}{p:θ}{xs ys:List V}{its its':List ZF}{n n':Nat}{f:Obj->Obj}(I:Inv X μ σ H s)(h:H p=ν (.lst xs))
  (ho:s.heap.get? p=ν {cls:=.type "list",data:=.seq its.toArray n}) (hf:f {cls:=.type "list",data:=.seq its.toArray n}={cls:=.type "list",data:=.seq its'.toArray n'}) (r:Vals ys its') (hz:ys.length<=Z3) (t:Nat) :
  Inv X μ σ (upd H p (.lst ys)) {s with heap:=s.heap.update p f,toks:=t}:=by
 have e:(s.heap.update p f).get? p=ν {cls:=.type "list",data:=.seq its'.toArray n'}:=by
  rw[Heap.get?_update_self f ho (by rw[hf] <;> rfl),hf]
 refine I.write (x:=p) (e:=p) (by rw[h];trivial) (.inl rfl) (λb u hb q=>(Heap.get?_update_other _ _ (aa1 hb)).trans q) {_,e} ?_
 exact{(hz),its',n',r,e}
def Ni:V->V->V->Hp->(Hp->Prop)->Prop:=λo i v H Q=>∃p xs k j,o=.ref p/\i=.int k/\H p=ν (.lst xs)/\wU xs.length k=ν j/\Q (upd H p (.lst (xs.set j v)))
def set_list:P_ X Ni:=by
 intro μ s σ H o i v ov iv u Q I ro ri rv h;obtain⟨p,xs,k,j,rfl,rfl,hp,hj,q⟩:=h;cases ro;obtain⟨t,rfl⟩:=ri;obtain⟨its,n,r,ho,hz⟩:=I.lst hp;obtain⟨h1,h2,h3,h4⟩:=yF hj;have hl:=r.length;have hn:=rV;have I':Inv X μ σ (upd H p (.lst (xs.set j v))) {s with heap:=s.heap.update p (acb (·.setIfInBounds j u))} :=
  I.KN hp ho (wK its n j u) (r.set rv j) (by rw[List.length_set];exact hz) s.toks
 by_cases h0:0<=k
 ·have hk:k.toNat=j:=by
   rw[seqIndex_of h0 h4]at h1;exact aao h1
  exact PySem.W.ki_setAt ho h0 (by lia) (by rw[aaf,<- hl];exact h4) (by rw[hk];exact{_,I',q})
 ·have hk:(k+(its.toArray.size:Int)).toNat=j:=by
   rw[seqIndex_neg (by lia) h3]at h1
   rw[aaf,<- hl];exact aao h1
  exact PySem.W.ki_setBack ho (by lia) (by rw[aaf,<- hl];exact h3) (by lia) (by rw[hk];exact{_,I',q})
def rC (lo hi:Option Int)(n:Nat):(abX lo hi ξ n).1=((HT.nj n 0 lo:Nat):Int)/\(abX lo hi ξ n).2.1=((HT.nj n n hi:Nat):Int)/\(abX lo hi ξ n).2.2=1:=by
 refine{?_,?_,rfl}
 ·cases lo with
  |none=>simp[abX,HT.nj]
  |some i =>
   simp only[abX,HT.nj,Option.getD_none,show (1:Int)>0 by decide,if_true]
   by_cases h:i<0
   ·simp only[h,if_true] <;> lia
   ·simp only[h,if_false] <;> lia
 ·cases hi with
  |none=>simp[abX,HT.nj]
  |some i =>
   simp only[abX,HT.nj,Option.getD_none,show (1:Int)>0 by decide,if_true]
   by_cases h:i<0
   ·simp only[h,if_true] <;> lia
   ·simp only[h,if_false] <;> lia
def pq (its:List ZF)(lo hi:Option Int):slicePick its.toArray lo hi ξ=((its.drop (HT.nj its.length 0 lo)).take (HT.nj its.length its.length hi-HT.nj its.length 0 lo)).toArray:=by
 obtain⟨h1,h2,h3⟩:=rC lo hi its.toArray.size;unfold slicePick;rw[h1,h2,h3];simp only[sliceRange_one,pick_run,aaf] <;> rfl
def RQ (K:Ξ):V->Option Int->Option Int->Hp->VK->Prop:=λx lo hi H Q=>∃a xs,x=.ref a/\dJ K H a xs/\∀p,H p=ξ->Q (.ref p) (upd H p (.lst (vd xs lo hi)))
def xT:U7 X (RQ X.K):=by
 intro μ s σ H x v vl vu lo hi sl Q I rx hs pl pu h;obtain⟨a,xs,rfl,hx,q⟩:=h;cases rx;obtain⟨its,r,ht,hz⟩:=I.list hx;have hlen:=r.length;refine{"list",_,slot_list_getitem.lookup,ht.isList.typeIs,?_};refine wpAny_getItem_list_slice ht.isList hs pl pu .none (by simp) ?_ (by rw[aaf] <;> lia)
 rw[pq,<- hlen];refine{.ref s.heap.objs.size,_,I.laid (t':=s.toks) (o:=.lst (vd xs lo hi)) (λb ob q=>ZM _ q) (ZG _) ?_,rfl,q _ (I.bp.fresh (ZG _))};exact{aaj (vc xs lo hi) hz,_,0,(r.drop (HT.nj xs.length 0 lo)).take (HT.nj xs.length xs.length hi-HT.nj xs.length 0 lo),Z8 _ rfl}
def jV:eS X (.builtin "len") (λxs H Q=>∃p ys,xs=[.ref p]/\(dJ X.K H p ys\/lh X.K H p ys)/\Q (.int ys.length) H):=by
 intro μ s σ H xs us Q I r h;obtain⟨p,ys,rfl,hq,q⟩:=h;obtain⟨u,rfl,rx⟩:=vals1 r;cases rx;have hn:=rV;rcases hq with hq|hq
 ·obtain⟨its,r',pl,hz⟩:=I.list hq;have hlen:=r'.length;exact Calls.call_len_list pl.isList (by simp only[aaf] <;> lia) {.int ys.length,H,I.tok _,{s.toks+1,by rw[aaf,hlen]},q}
 ·obtain⟨its,r',pl,hz⟩:=I.tuple hq;have hlen:=r'.length;exact len_tuple pl (by simp only[aaf] <;> lia) {.int ys.length,H,I.tok _,{s.toks+1,by rw[aaf,hlen]},q}
def jU:eS X (.type "list") (λxs H Q=>∃p ys,xs=[.ref p]/\(dJ X.K H p ys\/lh X.K H p ys)/\∀l,H l=ξ->Q (.ref l) (upd H l (.lst ys))):=by
 intro μ s σ H xs us Q I r h;obtain⟨p,ys,rfl,hq,q⟩:=h;obtain⟨u,rfl,rx⟩:=vals1 r;cases rx;have fin:∀(its:List ZF),Vals ys its->ys.length<=Z3->∀(h':Heap) (c':Nat),(∀b o',s.heap.get? b=ν o'->h'.get? b=ν o') ->
   h'.get? s.heap.objs.size=ν {cls:=.type "list",dict:=ξ,data:=.seq its.toArray c',slots:=#[]}->EP X μ σ Q (.ref s.heap.objs.size) {s with heap:=h'}:=λits r' hz h' c' kp e =>
  {.ref s.heap.objs.size,_,I.laid (t':=s.toks) kp (ZG _) (show a9 X.prog X.w _ h' _ (.lst ys) from {(hz),its,c',r',e}),rfl,q _ (I.bp.fresh (ZG _))}
 rcases hq with hq|hq
 ·obtain⟨its,r',pl,hz⟩:=I.list hq;have hlen:=r'.length;obtain⟨o,ho,hc,n,hd⟩:=pl.isList;exact call_list_seq p (.inl rfl) ho hc hd (λh' c' kp e=>fin its r' hz h' c' kp e) (by simp only[aaf] <;> lia)
 ·obtain⟨its,r',pl,hz⟩:=I.tuple hq;have hlen:=r'.length;obtain⟨o,ho,hc,n,hd⟩:=pl;exact call_list_seq p (.inr rfl) ho hc hd (λh' c' kp e=>fin its r' hz h' c' kp e) (by simp only[aaf] <;> lia)
def Qh (K:Ξ)(T:String)(x:V)(H:Hp):Prop:=match x with
 |.str _=>T="str"
 |.int _=>T="int"
 |.ref p=>(T="list" /\ ∃xs,dJ K H p xs)\/(T="tuple" /\ ∃o,K.lookup p=ν o/\o.cls=.type "tuple" /\ o.dict=ξ) \/
   (T="dict" /\ ((∃kvs,H p=ν (.dK kvs))\/∃kvs,H p=ν (.dT kvs)))\/(T="set" /\ ∃S n,H p=ν (.set S n))
 |_=>False
def BG {μ:List (θ×Obj)}{σ:St}{H:Hp}{s:ZH}{T:String}{x:V}{v:ZF}(I:Inv X μ σ H s)(r:RelV x v)(ty:Qh X.K T x H):
  s.TypeIs v T/\∀a,v=.ref a->∃ob,s.heap.get? a=ν ob/\ob.dict=ξ:=by
 cases x with
 |str z =>
  obtain⟨t,rfl⟩:=r;cases (show T="str" from ty)
  exact{typeIs_str s z t,λ_ e=>nomatch e}
 |int i =>
  obtain⟨t,rfl⟩:=r;cases (show T="int" from ty)
  exact{typeIs_int s i t,λ_ e=>nomatch e}
 |ref p =>
  cases r;rcases ty with⟨rfl,xs,hq⟩|⟨rfl,o,hk,hc,hd⟩|⟨rfl,hk⟩|⟨rfl,S,n,hk⟩
  ·obtain⟨its,_,pl,_⟩:=I.list hq;refine{pl.isList.typeIs,λa e=>?_};cases e;obtain⟨o,n,e,c,hd,_⟩:=pl;exact{(o),e,hd}
  ·refine{{o,I.kL p o hk,hc},λa e=>?_};cases e;exact{o,I.kL _ o hk,hd}
  ·have z:∃o,s.heap.get? p=ν o/\o.ExactDict:=by
    rcases hk with⟨kvs,hk⟩|⟨kvs,hk⟩
    ·obtain⟨_,_,_,_,o,_,_,e,ex,_⟩:=I.bp p _ hk;exact{(o),e,ex}
    ·obtain⟨_,_,_,_,o,_,_,e,ex,_⟩:=I.bp p _ hk;exact{(o),e,ex}
   obtain⟨o,e,ex⟩:=z;refine{{(o),e,ex.1},λa e2=>?_};cases e2;exact{(o),e,ex.2.1}
  ·obtain⟨o,_,_,_,e,ex,_⟩:=I.bp p _ hk;refine{{(o),e,ex.1},λa e2=>?_};cases e2;exact{(o),e,ex.2.1}
 |_=>exact ace ty
def Ro (K:Ξ)(T:String)(r:V->List V->Hp->VK->Prop)(to:TE):TE:=λσ H Q=>to σ H λx H1=>Qh K T x H1/\r x [] H1 Q
def W5 (K:Ξ)(T:String)(r:V->List V->Hp->VK->Prop)(to:TE)(t:TA):TE:=λσ H Q=>to σ H λx H1=>Qh K T x H1/\t σ H1 λxs H2=>r x xs H2 Q
variable {o e:Expr}{es:List Expr}{to:TE}{t:TA}{name:Str}{apos cpos:Pos}{T id:String}{r:V->List V->Hp->VK->Prop}
def Ke (pa:PlainAttrs T)(slot:Slot T name id)(OE:typeOf (.builtin id)=pure (.type "method_descriptor"))(hm:Q0 X id r)(ho:PE X o to)
  (eM:ab6 o name X.env (eval o X.env)=eval o X.env:=by rfl) (eK:(apos.endLine==cpos.line)=ζ:=by rfl):PE X (.Call (.Attribute o name apos) [] [] cpos) (Ro X.K T r to):=by
 intro μ s σ H Q I h;refine wpAny_Call_method0_late eM eK (bP (ho μ s σ H _ I h) λv s1 ⟨x,H1,I1,r1,ty,q1⟩=>?_);obtain⟨h1,h2⟩:=BG I1 r1 ty;exact{T,id,pa,slot,OE,h1,h2,Calls.callWith_builtin rfl (PySem.evalArgs_none (hm μ s1 σ H1 x [] v [] Q I1 r1 .nil q1))}
def CG (pa:PlainAttrs T)(slot:Slot T name id)(OE:typeOf (.builtin id)=pure (.type "method_descriptor"))(hm:Q0 X id r)(ho:PE X o to)(ha:PA X (e::es) t)
  (eM:ab6 o name X.env (eval o X.env)=eval o X.env:=by rfl)
  (oh:((abI cpos (Z2 (e::es) X.env)).all (λx=>!x.1)&&(backToKw cpos (ac1 [] X.env)).all (λx=>x.1.isSome)
   && decide ((e::es).length+([]:List acA).length+(if ([]:List acA).isEmpty then 0 else 1)<30))=ζ:=by rfl)
  (eK:(apos.endLine==cpos.line)=ζ:=by rfl) (hs:Z2 (e::es) X.env=(η,eval e X.env)::Z2 es X.env:=by rfl) (eI:(abI cpos (Z2 es X.env)).any (·.1)=η:=by rfl) :
  PE X (.Call (.Attribute o name apos) (e::es) [] cpos) (W5 X.K T r to t):=by
 intro μ s σ H Q I h;refine wpAny_Call_method_late eM oh eK rfl (bP (ho μ s σ H _ I h) λv s1 ⟨x,H1,I1,r1,ty,q1⟩=>?_);obtain⟨h1,h2⟩:=BG I1 r1 ty;refine{T,id,pa,slot,OE,h1,h2,?_};have hA:=ha cpos μ s1 σ H1 _ I1 q1;rw[hs]at hA ⊢
 refine Calls.callWith_builtin (by show (η || (abI cpos (Z2 es X.env)).any (·.1))=η;rw[eI] <;> rfl) (Calls.evalArgs_plain ?_)
 exact bP hA λus s2 ⟨vs,H2,I2,r2,q2⟩=>hm μ s2 σ H2 x vs v us Q I2 r1 r2 q2
end
def U9 (X:Cx)(id:String)(r:V->List V->Hp->VK->Prop):Prop :=
 ∀(μ:List (θ×Obj)) (s:ZH) (σ:St) (H:Hp) (x:V) (xs:List V) (v:ZF) (us:List ZF) (Q:VK),Inv X μ σ H s->RelV x v->Vals xs us->r x xs H Q ->
  aab (Ψ X.prog X.w) X.A (call (.builtin id) (v::us)) (EP X μ σ Q) X.xe s
theorem Vals.one:∀{x:V} {us:List ZF},Vals [x] us->∃u,us=[u]/\RelV x u
 |_,_,.cons r .nil=>{_,rfl,r}
theorem Vals.zero:∀{us:List ZF},Vals [] us->us=[]
 |_,.nil=>rfl
def Vals.dropLast {xs:List V}{us:List ZF}(h:Vals xs us):Vals xs.dropLast us.dropLast:=by
 induction h with
 |nil=>exact .nil
 |cons r t ih =>
  cases t with
  |nil=>exact .nil
  |cons q t'=>exact .cons r ih
theorem Vals.rep {xs:List V}{us:List ZF}(h:Vals xs us):∀k:Nat,Vals (aau k xs).flatten (aau k us).flatten
 |0=>.nil
 |k+1=>by
  rw[abm,abm,aby,aby];exact Vals.append h (Vals.rep h k)
def xk {α:Type}(l:List α):l.eraseIdx (l.length-1)=l.dropLast:=by
 induction l with
 |nil=>rfl
 |cons a r ih =>
  cases r with
  |nil=>rfl
  |cons b r =>
   have e:(a::b::r).length-1=((b::r).length-1)+1:=by
    have h1:(a::b::r).length=r.length+2:=rfl;have h2:(b::r).length=r.length+1:=rfl;lia
   rw[e,List.eraseIdx_cons_succ,ih]
   all_goals rfl
theorem foldl_rep (its:List ZF):∀(k:Nat) (acc:List ZF),
  List.foldl (λx1 x2=>x1++x2) acc.toArray (aau k its.toArray)=(acc++(aau k its).flatten).toArray
 |0,acc=>by simp
 |k+1,acc=>by
  have e:acc.toArray++its.toArray=(acc++its).toArray:=by simp
  have e2:(acc++its)++(aau k its).flatten=acc++(aau (k+1) its).flatten:=by
   rw[abm,aby,aaS]
  rw[<- e2,<- foldl_rep its k (acc++its),<- e,abm,acr]
section
variable {X:Cx}{μ:List (θ×Obj)}{σ:St}{H:Hp}{s:ZH}{l:θ}{xs ys:List V}
def Inv.KP {its its':List ZF}{n:Nat}{f:Array ZF->Array ZF}{t':Nat}(I:Inv X μ σ H s)(hH:H l=ν (.lst xs))
  (e:s.heap.get? l=ν {cls:=.type "list",data:=.seq its.toArray n}) (hf:f its.toArray=its'.toArray) (hv:Vals ys its') (hz:ys.length<=Z3) :
  Inv X μ σ (upd H l (.lst ys)) {s with heap:=s.heap.update l (acb f),toks:=t'}:=by
 have q:=PySem.IsL.update e f;rw[hf]at q;refine I.write (x:=l) (e:=l) (by rw[hH];exact tv) (.inl rfl) (λb' u hb hu=>(Heap.get?_update_other s.heap (acb f) (aa1 hb)).trans hu) {_,q} ?_
 exact{hz,its',_,hv,q}
def Inv.KS {its:List ZF}{t':Nat}(I:Inv X μ σ H s)(hv:Vals ys its)(hz:ys.length<=Z3):
  Inv X μ σ (upd H s.heap.objs.size (.lst ys)) {s with heap:=s.heap.push {cls:=.type "list",data:=.seq its.toArray},toks:=t'} :=
 I.laid (λ_ _ q=>ZM _ q) (ZG _) {hz,its,0,hv,Z8 _ rfl}
def Inv.fresh (I:Inv X μ σ H s):H s.heap.objs.size=ξ:=I.bp.fresh (ZG _)
def Inv.wN (I:Inv X μ σ H s)(hH:H l=ν (.lst xs)):xs.length<=Z3/\∃(its:List ZF) (n:Nat),Vals xs its/\xs.length=its.length/\s.heap.get? l=ν {cls:=.type "list",data:=.seq its.toArray n}:=by
 obtain⟨z,its,n,r,e⟩:=I.bp l _ hH;exact{(z),its,n,r,r.length,e}
def tZ {n:Nat}(h:n<=Z3):acq n=η:=by
 unfold acq;exact Δ (by lia)
end
section
variable {X:Cx}
def ya:V->List V->Hp->VK->Prop:=λx vs H Q=>∃l xs y,x=.ref l/\vs=[y]/\H l=ν (.lst xs)/\xs.length<Z3/\Q .cf (upd H l (.lst (xs++[y])))
def kz:U9 X "list.append" ya:=by
 intro μ s σ H x vs v us Q I rx rv h;obtain⟨l,xs,y,rfl,rfl,hH,hz,q⟩:=h;cases rx;obtain⟨u,rfl,ru⟩:=rv.one;obtain⟨z,its,n,r,hl,e⟩:=I.wN hH;refine call_meets F.slot_list_append {_,e,rfl} F.entry_list_append (F.args_list_append_2 _ _) (PySem.list_append l its.toArray n u (by rw[aaf];lia)) {e,?_}
 refine{.cf,_,I.KP (its':=its++[u]) hH e (by simp) (r.append (.cons ru .nil)) ?_,rfl,q}
 rw[aad,abo];lia
def F0:V->List V->Hp->VK->Prop:=λx vs H Q=>∃l b xs zs,x=.ref l/\vs=[.ref b]/\H l=ν (.lst xs)/\H b=ν (.lst zs)/\xs.length+zs.length<=Z3/\Q .cf (upd H l (.lst (xs++zs)))
def Ah:U9 X "list.extend" F0:=by
 intro μ s σ H x vs v us Q I rx rv h;obtain⟨l,b,xs,zs,rfl,rfl,hH,hB,hz,q⟩:=h;cases rx;obtain⟨u,rfl,ru⟩:=rv.one;cases ru;obtain⟨z,its,n,r,hl,e⟩:=I.wN hH;obtain⟨z2,pC,n2,r2,Yj,e2⟩:=I.wN hB;have hsz:its.toArray.size+pC.toArray.size<=Z3:=by rw[aaf,aaf];lia
 have DK:¬ (!its.toArray.isEmpty&&acq (its.toArray.size+pC.toArray.size))=ζ:=by
  rw[tZ hsz,Bool.and_false];exact aaO
 refine call_meets F.slot_list_extend {_,e,rfl} F.entry_list_extend (F.args_list_extend_2 _ _)
  (AutoSeq1.list_extend_list_list_0 l its.toArray n b pC.toArray n2 DK (by rw[aaf];lia) (by lia)) {e,e2,?_}
 refine{.cf,_,I.KP (its':=its++pC) hH e (by simp) (r.append r2) ?_,rfl,q}
 rw[aad];lia
def RT:V->List V->Hp->VK->Prop:=λx vs H Q=>∃l xs y,x=.ref l/\vs=[]/\H l=ν (.lst xs)/\xs[xs.length-1]?=ν y/\Q y (upd H l (.lst xs.dropLast))
def KJ:U9 X "list.pop" RT:=by
 intro μ s σ H x vs v us Q I rx rv h;obtain⟨l,xs,y,rfl,rfl,hH,hy,q⟩:=h;cases rx;have Dy:=rv.zero;subst Dy;obtain⟨z,its,n,r,hl,e⟩:=I.wN hH;obtain⟨u,hu,ru⟩:=r.get hy;have S3:its.toArray[its.toArray.size-1]?=ν u:=by
  show its.toArray[its.length-1]?=ν u;rw[<- Z9,<- hl];exact hu
 refine call_meets F.slot_list_pop {_,e,rfl} F.entry_list_pop (F.args_list_pop_1 _) (MeetsSeq.list_pop_last l its.toArray n u S3 (by rw[aaf];lia)) {e,?_}
 refine{y,_,I.KP (its':=its.dropLast) hH e ?_ r.dropLast ?_,ru,q}
 ·show its.toArray.eraseIdxIfInBounds (its.toArray.size-1)=its.dropLast.toArray;rw[aaf,List.eraseIdxIfInBounds_toArray,xk]
 ·rw[List.length_dropLast];lia
def RW:R2:=λx y H Q=>∃l b xs zs,x=.ref l/\y=.ref b/\H l=ν (.lst xs)/\H b=ν (.lst zs)/\xs.length+zs.length<=Z3/\∀p,H p=ξ->Q (.ref p) (upd H p (.lst (xs++zs)))
def CP:i_ X (abT .Add) RW:=by
 intro μ s σ H x y v u Q I rx ry h;obtain⟨l,b,xs,zs,rfl,rfl,hH,hB,hz,q⟩:=h;cases rx;cases ry;obtain⟨z,its,n,r,hl,e⟩:=I.wN hH;obtain⟨z2,pC,n2,r2,Yj,e2⟩:=I.wN hB;refine PySem.P.add_list e e2 ?_ (by rw[aaf,aaf];lia)
 have ea:its.toArray++pC.toArray=(its++pC).toArray:=by simp
 rw[ea];exact{.ref _,_,I.KS (t':=s.toks) (r.append r2) (by rw[aad];lia),rfl,q _ I.fresh}
def RS:R2:=λx y H Q=>∃l k xs,x=.ref l/\y=.int k/\H l=ν (.lst xs)/\-(2 ^ 63)<=k/\k<2 ^ 63/\xs.length*k.toNat<=Z3 /\
 ∀p,H p=ξ->Q (.ref p) (upd H p (.lst (aau k.toNat xs).flatten))
def len_rep {α:Type}(xs:List α)(k:Nat):(aau k xs).flatten.length=k*xs.length:=by
 induction k with
 |zero=>simp
 |succ k ih=>rw[abm,aby,aad,ih,Nat.succ_mul,Nat.add_comm]
def Kk:i_ X (abT .Mult) RS:=by
 intro μ s σ H x y v u Q I rx ry h;obtain⟨l,k,xs,rfl,rfl,hH,h1,h2,hz,q⟩:=h;cases rx;obtain⟨t,rfl⟩:=ry;obtain⟨z,its,n,r,hl,e⟩:=I.wN hH;have hlen:its.toArray.size*k.toNat<=Z3:=by rw[aaf,<- hl];exact hz
 have Ux:¬ its.toArray.size*k.toNat>(2 ^ 63-1) / 8:=by
  have:(Z3:Nat)<=(2 ^ 63-1) / 8:=by decide
  lia
 have Us:¬ (!Builtin.List.listFitsIndex k)=ζ:=by
  rw[fitsIndex_both h1 h2];exact aaO
 have DK:¬ acq (its.toArray.size*k.toNat)=ζ:=by
  rw[tZ hlen];exact aaO
 have LD:List.foldl (λx1 x2=>x1++x2) #[] (aau (if its.toArray.isEmpty=ζ then 0 else k.toNat) its.toArray)=(aau k.toNat its).flatten.toArray:=by
  have f0:∀m:Nat,List.foldl (λx1 x2=>x1++x2) #[] (aau m its.toArray)=(aau m its).flatten.toArray:=λm=>by
   have:=foldl_rep its m [];rw[List.nil_append]at this;exact this
  rw[f0];cases its with
  |nil=>simp
  |cons a r'=>rw[ω (by simp)]
 refine wpAny_binaryOp_repeat_ref (T:="list") (U:="int") (by decide) {_,e,rfl} (λs'=>typeIs_int s' k t) noFill_list_mul F.fills_int_mul F.slot_int_rmul repeat_list F.slot_int_index.lookup
  (call_meets F.slot_int_rmul (typeIs_int s k t) F.entry_int_rmul (F.args_int_rmul_2 _ _) (int___rmul___int_list k t l its.toArray n)
   {e,rfl,{_,e,rfl},call_meets F.slot_list_mul {_,e,rfl} F.entry_list_mul (F.args_list_mul_2 _ _) (AutoListH.list___mul___list_int_3 l its.toArray n k t Us Ux DK) {e,?_}})
 rw[LD];exact{.ref _,_,I.KS (t':=s.toks) (r.rep k.toNat) (by rw[len_rep,Nat.mul_comm];exact hz),rfl,q _ I.fresh}
end
end L2
namespace WK
open PySem PySem.W PySem.Calls PyProof.Rows
def lX {P:Params}{h:Heap}:∀(ns:List Int) (vs:List ZF),WellAll P h vs (ns.map WData.int)->abl vs ns:=by
 intro ns
 induction ns with
 |nil =>
  intro vs w;rw[List.map_nil]at w;cases w;exact .nil
 |cons n ns ih =>
  intro vs w;rw[aae]at w;cases w with
  |cons a b =>
   cases a;exact .cons _ _ (ih _ b)
def zO {l:OpenLaw}{n:Nat}(hn:l.most=ν n){P:Params}{h:Heap}{args:List WData}{vals:List ZF}
  (Hc:l.row.toRowW.claim.pre args=ζ) (S4:WellAll P h vals args) :
  ∃a vs ns,vals=[Φ a]/\args=[WData.list (ns.map WData.int)]/\h.get? a=ν {cls:=.type "list",data:=.seq vs.toArray}/\abl vs ns/\ns.length<=n:=by
 have XY:WShape.hasAll [] args [.list .int]=ζ:=(pre_splitW Hc).1;have hc:l.pre.holds [] {args:=args}=ζ:=(pre_splitW Hc).2;obtain⟨d,r,rfl,h1,h2⟩:=hasAllW_cons XY;obtain rfl:=hasAllW_nil h2;obtain⟨xs,rfl,h3⟩:=hasW_list h1;obtain⟨ns,rfl⟩:=items_int h3;have hlen:ns.length<=n:=by
  unfold OpenLaw.pre at hc;have h4:(WTm.not (.lt (.lit (.int (n:Int))) (.len (.arg 0)))).holds [] {args:=[.list (ns.map .int)]}=ζ:=by
   have h4:=(holds_andW hc).1;rw[hn]at h4;exact h4
  have h5:=condW_of h4 (w_not (w_lt w_lit (w_len_list (w_arg rfl))));rw[ZE]at h5;refine Nat.le_of_not_lt λq=>?_;have q':(n:Int)<((ns.length:Nat):Int):=by lia
  first
   | (rw[Γ q']at h5;exact Η h5 (by decide))
   | (simp at h5;lia)
 cases S4 with
 |cons w1 w2 =>
  cases w2;cases w1 with
  |list ho kS=>exact{_,_,ns,rfl,rfl,ho,lX ns _ kS,hlen}
def zV (l:OpenLaw)(args:List WData):l.row.toRowW.claim.post args (.bool ζ) args=ζ :=
 postW_of (r:=l.row.toRowW) (X:=(ζ==ζ))
  (show WShape.has [] (.bool ζ) .bool=ζ by first|rfl|decide|simp[WShape.has,WShape.arms,WShape.armsAll])
  (show (WTm.eq .res (.lit (.bool ζ))).value [] {args:=args,res:=ν (.bool ζ),after:=args}=ν (.bool (ζ==ζ)) from w_eq_bool (w_res rfl) w_lit) rfl
def vo {l:OpenLaw}{n:Nat}{q:ZN}{loose:List Str}{XP:(Str->Option ZF)->Heap->Prop}{YP:Z4->Heap->Prop}{d:DefRec}
  (hn:l.most=ν n) (QJ:d.params.defaults=[])
  (call:∀(w:Z4) (s₀ s₁:ZH) (mg mb:Str->Option ZF) (fa:θ) (o:Obj) (pm cd doc:ZF) (a:θ) (vs:List ZF) (ns:List Int),
   Ground q loose [] XP w s₀ mg mb s₁.heap->YP w s₁.heap ->
   s₁.heap.get? fa=ν o->o.data=.func (docDef d.name d.params d.body d.scope pm cd doc)->s₁.heap.CodeRec cd d.name->mg d.name=ν (.ref fa) ->
   s₁.heap.get? a=ν {cls:=.type "list",data:=.seq vs.toArray}->abl vs ns->ns.length<=n->s₁.gens=#[] ->
   ac2 (Ψ l.prog w) callerA (.call (.ref fa) {[.ref a],[]}) (λr s'=>r=.ok (.ret (.bool ζ))/\OldK s₁.heap s'.heap/\s'.os=s₁.os/\AllBare s'.gens) s₁) :
  WalkO q loose XP YP l.row.toRowW d [] (λf vs=>PySem.call f vs):=by
 intro w s₀ s₁ mg mb G Y fa o pm cd doc dV kV ho hd Bm hD T4 hg args vals as Hc Yh Zm S4 QG;obtain rfl:dV=.none:=Dflts.none hD QJ;obtain rfl:kV=.none:=Dflts.noKw hD;obtain⟨a,vs,ns,rfl,rfl,LB,hints,hlen⟩:=zO hn Hc S4;refine enter_call (abZ (call w s₀ s₁ mg mb fa o pm cd doc a vs ns G Y ho (fd_plain hd) Bm T4 LB hints hlen hg) λr s' hq=>?_);obtain⟨rfl,h2,h3,h4⟩:=hq;exact{.inl {.bool ζ,.bool ζ,[],rfl,λ_=>rfl,.bool ζ,zV l _,λ_=>{List.Pairwise.nil,λ_ hm=>(nomatch hm)}},h2,h3,h4}
end WK
namespace L2
open PySem PySem.Spec PyProof.Rows
theorem pW:∀{vs:List ZF} {ns:List Int},abl vs ns->Vals (ns.map V.int) vs
 |_,_,.nil=>.nil
 |_,_,.cons n t h=>.cons {(t),rfl} (pW h)
def Mu (H:Hp):Prop:=∀b,H b=ξ\/∃o xs,H b=ν (.vJ o (.lst xs))
def Dj {P:ZN}{w:Z4}{K:Ξ}{mg mb:Str->Option ZF}{CX:E5}{k:Nat}{fa a:θ}{fd:aaD}{x:Str}{sp:Sp}{s₁:ZH}{vs:List ZF}{ns:List Int}
  (KX:K.In s₁.heap) (QF:s₁.heap.Ns abO mg) (hb:s₁.heap.Ns builtinsNs mb) (Ys:∀x:Str,x≠"__name__" -> mb x=aaF x) (T8:s₁.heap.NoLimit) (hg:s₁.gens=#[])
  (ha:s₁.heap.get? a=ν {cls:=.type "list",data:=.seq vs.toArray}) (hi:abl vs ns) (hl:ns.length<=Z3) (hr:c6 k callerA)
  (F:∀base:Heap,K.In base->base.Ns abO mg->aO P w K mg base CX k fa fd [x] sp) (Pt:∀(s:ZH) (u:ZF),BindsTo s fd {[u],[]} [(x,u)])
  (n_:∀H:Hp,Mu H->dJ K H a (ns.map V.int)->sp [.ref a] H (λv _=>v=.bl ζ) λ_ _ _=>False)
  (UC:∀H e s',CX [] H s₁ (λ_ _ _=>False) e s'->False) :
  ac2 (Ψ P w) callerA (.call (.ref fa) {[.ref a],[]}) (λr s'=>r=.ok (.ret (.bool ζ))/\OldK s₁.heap s'.heap/\s'.os=s₁.os/\AllBare s'.gens) s₁:=by
 have rv:=pW hi;have SG:=hi.length;have core:∀H:Hp,Mu H->dJ K H a (ns.map V.int)->i8 P w H s₁.heap->(∀b,H b≠ξ->b=a)->(H a≠ξ->K.lookup a=ξ) ->
   ac2 (Ψ P w) callerA (.call (.ref fa) {[.ref a],[]}) (λr s'=>r=.ok (.ret (.bool ζ))/\OldK s₁.heap s'.heap/\s'.os=s₁.os/\AllBare s'.gens) s₁:=by
  intro H hO hS bp hA hK;have zj:∀{b:θ} {o:Obj},s₁.heap.get? b=ν o->H b=ξ->(sf s₁.heap H).get? b=ν o:=λe n=>DQ e n;have NZ:∀{b:θ} {o:Obj} {es:Array DictEntry} {ep:Nat},s₁.heap.get? b=ν o->o.data=.dict es ep->H b=ξ:=λ{b o es ep} e d=>by
   cases q:H b with
   |none=>rfl
   |some u =>
    have e':b=a:=hA b (by rw[q];simp)
    subst e';rw[ha]at e;cases e;have d':Data.seq vs.toArray _=Data.dict es ep:=d;cases d'
  have Qw:∀{b:θ} {m:Str->Option ZF},s₁.heap.Ns b m->(sf s₁.heap H).Ns b m:=λ{b m} ⟨o,es,ep,e,d,r⟩=>{o,es,ep,zj e (NZ e d),d,r};have Ws:K.In (sf s₁.heap H):=λb o e=>zj (KX b o e) (by
   cases q:H b with
   |none=>rfl
   |some u =>
    have e':b=a:=hA b (by rw[q];simp)
    subst e';rw[hK (by rw[q];simp)]at e;cases e)
  have hM:Mod K mg (sf s₁.heap H):={Ws,Qw QF,{mb,Qw hb,Ys},let ⟨mc,h1,h2⟩:=T8;{mc,Qw h1,h2}}
  have e0:HZ P w K mg (sf s₁.heap H) callerA [] s₁ H:={rfl,hM,λb o e=>GB e,Nat.le_of_eq (Ay _ _),tv,λb hb=>Η (show b∈([]:List θ) from hb) (by simp),bp,.of_eq hg}
  refine abZ ((F _ Ws (Qw QF)).run callerA [] s₁ H {[.ref a],[]} [.ref a] [.ref a] _ _ hr e0 (Pt s₁ (.ref a)) (.cons rfl .nil) (n_ H hO hS)) λr s' h=>?_;cases r with
  |error e=>exact(UC H e s' h).elim
  |ok fl =>
   cases fl with
   |next=>exact ace h
   |brk=>exact ace h
   |cont=>exact ace h
   |ret u =>
    obtain⟨v,H',os,bare,un,TN,r',q⟩:=h;have q':v=.bl ζ:=q;subst q';obtain rfl:u=Value.bool ζ:=r';refine{rfl,OldK.of_keep λb o e=>?_,os,bare};cases q:H b with
    |none=>exact un.keep b o e q (by intro z;exact Η (show b∈([]:List θ) from z) (by simp)) (by simp)
    |some u =>
     rcases hO b with z|⟨ob,xs,z⟩
     ·rw[q]at z;cases z
     ·have z2:=un.pH b ob _ z;obtain⟨e1,_⟩:=bp b _ z;obtain⟨e2,_⟩:=TN b _ z2;rw[e]at e1;cases e1;exact e2
 cases hk:K.lookup a with
 |some o =>
  have e:=KX a o hk;rw[ha]at e;cases e;refine core (λ_=>ξ) (λ_=>.inl rfl) (.inr {_,vs.toArray,_,hk,rfl,rfl,rfl,by rw[aaf,SG];exact hl,by simpa using rv}) (λb u z=>by have z':(ξ:Option HO)=ν u:=z;cases z') (λb z=>Η rfl z) λz=>Η rfl z
 |none =>
  refine core (λb=>if b=a then ν (.vJ {cls:=.type "list",data:=.seq vs.toArray} (.lst (ns.map V.int))) else ξ) (λb=>?_) (.inl (.inr {{cls:=.type "list",data:=.seq vs.toArray},χ rfl})) (λb u z=>?_) (λb z=>?_) λ_=>hk
  ·by_cases hb:b=a
   ·exact .inr {_,_,χ hb}
   ·exact .inl (ω hb)
  ·by_cases hb:b=a
   ·have z':=(χ hb).symm.trans z;cases z';subst hb;exact{ha,by rw[ZE];exact hl,vs,_,rv,ha}
   ·have z':=(ω hb).symm.trans z;cases z'
  ·by_cases hb:b=a
   ·exact hb
   ·exact Η (ω hb) z
def Fz {l:PySem.W.OpenLaw}{n k:Nat}{q:ZN}{loose:List Str}{XP:(Str->Option ZF)->Heap->Prop}{YP:Z4->Heap->Prop}{d:DefRec}{K:Params->Ξ}{CX:Z4->E5}{sp:Z4->Sp}{x:Str}
  (hn:l.most=ν n) (IG:n<=Z3) (QJ:d.params.defaults=[]) (hr:c6 k callerA)
  (hY:∀(w:Z4) (h:Heap),YP w h->(K w.params).In h)
  (F:∀(w:Z4) (mg:Str->Option ZF) (fa:θ) (h:Heap),(K w.params).In h->h.Ns abO mg->mg d.name=ν (.ref fa) ->
   ∃fd:aaD,(∀(s:ZH) (u:ZF),BindsTo s fd {[u],[]} [(x,u)]) /\
    ∀base:Heap,(K w.params).In base->base.Ns abO mg->aO l.prog w (K w.params) mg base (CX w) k fa fd [x] (sp w))
  (n_:∀(w:Z4) (H:Hp) (a:θ) (ns:List Int),ns.length<=n->Mu H->dJ (K w.params) H a (ns.map V.int)->sp w [.ref a] H (λv _=>v=.bl ζ) λ_ _ _=>False)
  (UC:∀(w:Z4) (H:Hp) (s:ZH) (e:ZF) (s':ZH),CX w [] H s (λ_ _ _=>False) e s'->False) :
  PySem.W.WalkO q loose XP YP l.row.toRowW d [] (λf vs=>PySem.call f vs):=by
 refine WK.vo hn QJ λw s₀ s₁ mg mb fa o pm cd doc a vs ns G Y ho hd Bm T4 LB hints hlen hg=>?_;have KX:=hY w _ Y;obtain⟨fd,hb,hF⟩:=F w mg fa _ KX G.T.g T4;exact Dj KX G.T.g G.T.b G.T.builtins G.T.nolimit hg LB hints (aaj hlen IG) hr hF hb (λH hO hS=>n_ w H a ns hlen hO hS) λH e s'=>UC w H s₁ e s'
abbrev cg:E5:=λ_ _ _ _ _ _=>False
abbrev E0:XK:=λ_ _ _=>False
def Ii {X:Cx}:Passes cg X E0:=λ_ _ _ _ _ _ _ h=>h.elim
structure Fs (K:Ξ)(x qual:Str)(st:Stmt)(f:θ)(fd:aaD):Prop where
 ex:∃(oc:ZF) (od:Option θ) (kV doc pm:ZF) (an:Option θ) (cY ct:ZF) (Ki:Array (Option ZF)),
  fd=Ε x qual (mK st) (e_ st) (ay st) .none kV doc pm an cY ct/\K.lookup f=ν {oc,od,.func fd,Ki}/\PySem.W.codeIn K cY qual=ζ
 kp:υ K (.ref f)=ζ
section
variable {P:ZN}{w:Z4}{K:Ξ}{mg:Str->Option ZF}{base:Heap}
def Fs.ok {x qual:Str}{st:Stmt}{f:θ}{fd:aaD}{N ps:List Str}{k:Nat}{sp:Sp}(F:Fs K x qual st f fd)(S:aL N ps (ay st))(len:∀vs H Q E,sp vs H Q E->vs.length=ps.length)
  (oj:∀(cY:ZF) (A:aaJ) (outer:List Env) (s:ZH) (H:Hp) (vs:List V) (Q:VK) (E:XK),c6 k (A.deeper (envOfC qual (ay st) s.heap.objs.size f cY))->sp vs H Q E ->
   ∃t,vL (pO cg P w K mg base N qual (ay st) f cY A outer s H E).Il (e_ st) t/\t {nx:=λ_ H'=>Q .cf H',rt:=Q} (start N vs) H):aO P w K mg base cg (k+1) f fd ps sp:=by
 obtain⟨oc,od,kV,doc,pm,an,cY,ct,Ki,rfl,lk,Bm⟩:=F.ex;refine PC lk Bm S len λA outer s H vs Q E hr n_=>?_;obtain⟨t,h,q⟩:=oj cY A outer s H vs Q E hr n_;exact{(t),h.Il,q}
def LU {x qual:Str}{st:Stmt}{f:θ}{oc:ZF}{od an:Option θ}{Ki:Array (Option ZF)}{kV doc pm cY ct:ZF}(l:K.lookup f=ν {oc,od,.func (Ε x qual (mK st) (e_ st) (ay st) .none kV doc pm an cY ct),Ki})
  (c:PySem.W.codeIn K cY qual=ζ) (k:υ K (.ref f)=ζ):Fs K x qual st f (Ε x qual (mK st) (e_ st) (ay st) .none kV doc pm an cY ct):={{(oc),od,kV,doc,pm,an,cY,ct,Ki,rfl,l,c},k}
end
section
variable {X:Cx}
def pv (i:Nat){x:Str}{pos:Pos}(hN:X.N[i]?=ν x:=by rfl)(hv:Mp X.env.scope x:=by first|exact Or.inl rfl|exact Or.inr (Or.inl rfl)|exact Or.inr (Or.inr rfl))(hd:(x==("__debug__" : Str))=η:=by decide)
  (Bm:(x==("__classdict__" : Str))=η:=by decide):PE X (.Name x pos) (JG i):=wu hN hv hd Bm
end
def au (H H':Hp):Prop:=∀b o,H b=ν o->H' b=ν o
def au.refl (H:Hp):au H H:=λ_ _ h=>h
def au.trans {H H1 H2:Hp}(a:au H H1)(b:au H1 H2):au H H2:=λc o h=>b c o (a c o h)
def au.free {H H':Hp}(e:au H H'){l:θ}(h:H' l=Option.none):H l=Option.none:=by
 cases q:H l with
 |none=>rfl
 |some o =>
  rw[e l o q]at h;cases h
def au.seq {K:Ξ}{H H':Hp}{a:θ}{xs:List V}(e:au H H')(h:dJ K H a xs):dJ K H' a xs:=by
 rcases h with (h|⟨o,h⟩)|h
 ·exact .inl (.inl (e _ _ h))
 ·exact .inl (.inr {o,e _ _ h})
 ·exact .inr h
structure Nm (X:Cx)(i:Nat)(x:Str):Prop where
 a:X.N[i]?=ν x
 b:Mp X.env.scope x
 c:(x==("__debug__" : Str))=η
 d:(x==("__classdict__" : Str))=η
def wG {X:Cx}{i:Nat}{x:Str}(a:X.N[i]?=ν x:=by rfl)(b:Mp X.env.scope x:=by first|exact .inl rfl|exact .inr (.inl rfl)|exact .inr (.inr rfl))(c:(x==("__debug__" : Str))=η:=by decide)(d:(x==("__classdict__" : Str))=η:=by decide):Nm X i x:={(a),b,c,d}
def eE {X:Cx}{i:Nat}{x:Str}{pos:Pos}(h:Nm X i x):PE X (.Name x pos) (JG i):=wu h.a h.b h.c h.d
section
variable {X:Cx}{a b c:Expr}{ta tb:TE}{pos:Pos}
def vE (i j:Int):Prop:=0<j/\j.natAbs.log2<9000
def vE.of {i j:Int}(h0:0<j)(h:j<2 ^ 200):vE i j:=by
 refine{h0,?_};have h2:j.natAbs<2 ^ 200:=by lia
 have:=(Nat.log2_lt (n:=j.natAbs) (k:=200) (by lia)).mpr h2
 lia
def tX:i_ X (abT .FloorDiv) (rI vE λi j=>.int (i / j)):=Qv λi j _ _ _ _ _ hc q=>by
 have h1:(0:Int)<j:=hc.1;exact floordiv_int (by lia) (by rw[Int.fdiv_eq_ediv_of_nonneg i (by lia)];exact q) (.inl (PyProof.noPylong_of_log2 hc.2))
def Jf (X:Cx)(ops:List acW)(rs:List Expr)(t:V->TE):Prop :=
 ∀(pos:Pos) (μ:List (θ×Obj)) (s:ZH) (σ:St) (H:Hp) (x:V) (v:ZF) (Q:VK),Inv X μ σ H s->RelV x v->t x σ H Q ->
  aab (Ψ X.prog X.w) X.A (compareChain pos v ops (evalEach rs X.env)) (EP X μ σ Q) X.xe s
def xD (X:Cx)(ops:List acW)(rs:List Expr)(t:V->TT):Prop :=
 ∀(pos:Pos) (μ:List (θ×Obj)) (s:ZH) (σ:St) (H:Hp) (x:V) (v:ZF) (Q:Bool->Hp->Prop),Inv X μ σ H s->RelV x v->t x σ H Q ->
  aab (Ψ X.prog X.w) X.A (testChain pos v ops (evalEach rs X.env)) (TP X μ σ Q) X.xe s
variable {op Ko:acW}{ops:List acW}{rs:List Expr}{r:R2}{t:V->TE}{tt:V->TT}
def Mb (ho:i_ X (aaV op) r)(hb:PE X b tb):Jf X [op] [b] (λx σ H Q=>tb σ H λy H2=>r x y H2 Q):=by
 intro pos μ s σ H x v Q I rx h;exact chain_last (bP (hb μ s σ H _ I h) λu s1 jO=>by obtain⟨y,H1,I1,r1,q1⟩:=jO;exact ho μ s1 σ H1 x y v u Q I1 rx r1 q1)
def HL (ho:i_ X (aaV op) r)(hb:PE X b tb)(hc:Jf X (Ko::ops) (c::rs) t):
  Jf X (op::Ko::ops) (b::c::rs) (λx σ H Q=>tb σ H λy H2=>r x y H2 λz H3=>∃k,z=.bl k/\(if k=ζ then t y σ H3 Q else Q (.bl η) H3)):=by
 intro pos μ s σ H x v Q I rx h;refine chain_link (bP (hb μ s σ H _ I h) λu s1 ⟨y,H1,I1,r1,q1⟩=>bP (ho μ s1 σ H1 x y v u _ I1 rx r1 q1) λd s3 fA=>?_);obtain⟨z,H3,I3,r3,k,e,q3⟩:=fA;subst e;cases r3;refine abf ?_;cases k with
 |false=>exact ite_ff {.bl η,H3,I3,rfl,q3}
 |true=>exact ite_tt (hc pos μ s3 σ H3 y u Q I3 r1 q3)
def zZ {nF nE:acW}(ha:PE X a ta)(hc:Jf X (nF::nE::ops) (b::c::rs) t)(hm:lastMarks (nF::nE::ops) (b::c::rs)=η:=by with_unfolding_all rfl):
  PE X (.Compare a (nF::nE::ops) (b::c::rs) pos) (λσ H Q=>ta σ H λx H1=>t x σ H1 Q):=by
 intro μ s σ H Q I h;exact Compare_chain (bP (ha μ s σ H _ I h) λv s1 DD=>by obtain⟨x,H1,I1,r1,q1⟩:=DD;exact hc pos μ s1 σ H1 x v Q I1 r1 q1) hm
def HJ (ho:i_ X (aaV op) r)(hb:PE X b tb):xD X [op] [b] (λx σ H Q=>tb σ H λy H2=>r x y H2 λz H3=>∃k,z=.bl k/\Q k H3):=by
 intro pos μ s σ H x v Q I rx h;refine test_last (bP (hb μ s σ H _ I h) λu s1 ⟨y,H1,I1,r1,q1⟩=>bP (ho μ s1 σ H1 x y v u _ I1 rx r1 q1) λd s3 n9=>?_);obtain⟨z,H3,I3,r3,k,e,q3⟩:=n9;subst e;cases r3;exact abf {(H3),I3,q3}
def EF (ho:i_ X (aaV op) r)(hb:PE X b tb)(hc:xD X (Ko::ops) (c::rs) tt):
  xD X (op::Ko::ops) (b::c::rs) (λx σ H Q=>tb σ H λy H2=>r x y H2 λz H3=>∃k,z=.bl k/\(if k=ζ then tt y σ H3 Q else Q η H3)):=by
 intro pos μ s σ H x v Q I rx h;refine test_link (bP (hb μ s σ H _ I h) λu s1 ⟨y,H1,I1,r1,q1⟩=>bP (ho μ s1 σ H1 x y v u _ I1 rx r1 q1) λd s3 wZ=>?_);obtain⟨z,H3,I3,r3,k,e,q3⟩:=wZ;subst e;cases r3;refine abf ?_;cases k with
 |false=>exact ite_ff {(H3),I3,q3}
 |true=>exact ite_tt (hc pos μ s3 σ H3 y u Q I3 r1 q3)
def EH:eS X (.builtin "isinstance") (λxs H Q=>∃x n t k,xs=[x,.ty n]/\i7 X.K H x t/\Α X.K t (.type n)=ν k/\Q (.bl k) H):=by
 intro μ s σ H xs us Q I r h;obtain⟨x,n,t,k,rfl,ty,e,q⟩:=h;obtain⟨u,w',rfl,r1,r2⟩:=vals2 r;cases r2;exact As I r1 ty e λtk=>{.bl k,H,I.tok _,rfl,q}
end
def oS:aaF "max" = ν (.builtin "max"):=by decide +kernel
def xv:aaF "min" = ν (.builtin "min"):=by decide +kernel
def xw:aaF "int" = ν (.type "int"):=by decide +kernel
def HP:aaF "bool" = ν (.type "bool"):=by decide +kernel
def vj:aaF "tuple" = ν (.type "tuple"):=by decide +kernel
def jX:aaF "list" = ν (.type "list"):=by decide +kernel
def k8:aaF "sorted" = ν (.builtin "sorted"):=by decide +kernel
def EL:aaF "isinstance" = ν (.builtin "isinstance"):=by decide +kernel
def k9:aaF "len" = ν (.builtin "len"):=by decide +kernel
def Om {c A B:Prop}[Decidable c](hc:c)(h:A):if decide c=ζ then A else B:=by
 rw[χ (Γ hc)];exact h
def Oo {c A B:Prop}[Decidable c](hc:¬ c)(h:B):if decide c=ζ then A else B:=by
 rw[ω (by simp[hc])]
 exact h
def SO {c A B:Prop}[Decidable c](h1:c->A)(h2:¬ c->B):if decide c=ζ then A else B:=by
 by_cases h:c
 ·exact Om h (h1 h)
 ·exact Oo h (h2 h)
def Fm (h:θ)(H H':Hp):Prop:=∀b o,H b=ν o->b≠h->H' b=ν o
def Fm.upd {h:θ}{H:Hp}{o:HO}:Fm h H (upd H h o):=λb u e n=>by rw[aw n];exact e
def au.new {H:Hp}{p:θ}{o:HO}(n:H p=ξ):au H (L2.upd H p o):=λb u e=>by rw[aw (cI e n)];exact e
def Hand (H:Hp)(h:θ):Prop:=∃x y:Int,H h=ν (.lst [.int x,.int y])/\0<=x/\0<=y/\y<2147483647
def BY:Sp:=λvs H Q _=>∃c:Int,vs=[.int c]/\∀p H',H p=ξ->Hand H' p->au H H'->Q (.ref p) H'
def BW:Sp:=λvs H Q _=>∃(h:θ) (n:Int),vs=[.ref h,.int n]/\Hand H h/\0<n/\n<2 ^ 200 /\
 ∀(r:Int) (H':Hp),0<=r->r<n->Hand H' h->Fm h H H'->Q (.int r) H'
structure Zc (mg:Str->Option ZF):Prop where
 max:mg "max" = ξ
 min:mg "min" = ξ
 int:mg "int" = ξ
def CC:E6 10 18:={by decide,by decide,by decide}
section
def mz {a:Int}{b:Int}(h:0<b):0<=a % b/\a % b<b:={Int.emod_nonneg a (by lia),Int.emod_lt_of_pos a h}
end
noncomputable def ar (X:Cx)(scope:acj)(N':List Str)(cl:List (Str×θ))(C:θ)(s:ZH)(H:Hp)(ex:List θ):Cx :=
 {X with N:=N',s₀:=s,H₀:=H,env:=compEnvC scope cl C X.env,outer:=X.stack,stack:=X.stack,ex:=ex,fn:=λ_=>η,pn:=[],xe:=λ_ _=>False}
theorem i3 {env:Env}:∀(names:List (Str×acC)) (cs:List (Str×θ)),(∀x,(x,aaP)∈names->∃c,env.cells.lookup x=ν c) ->
  (∀x c,cs.lookup x=ν c->env.cells.lookup x=ν c) ->
  ∃cl,(forIn names cs λ(p:Str×acC) (cs:List (Str×θ))=>do
   if p.2==.free then do
    let a <- cellOf env p.1
    pure (ForInStep.yield ((p.1,a)::cs))
   else pure (ForInStep.yield cs):Sem (List (Str×θ)))=pure cl /\
   (∀x,((x,aaP)∈names\/(∃c,cs.lookup x=ν c))->∃c,cl.lookup x=ν c)/\∀x c,cl.lookup x=ν c->env.cells.lookup x=ν c
 |[],cs,_,QL=>{cs,rfl,λx h=>h.elim (λz=>nomatch z) id,QL}
 | (n,k)::names,cs,hf,QL=>by
  by_cases hk:k=.free
  ·subst hk;obtain⟨c,hc⟩:=hf n (ZO ..);obtain⟨cl,e,h1,h2⟩:=i3 names ((n,c)::cs) (λx hx=>hf x (ZP _ hx)) (λx c' hx=>by
    rw[abc]at hx;cases q:x==n with
    |true=>rw[q]at hx;cases hx;rw[eq_of_beq q];exact hc
    |false=>rw[q]at hx;exact QL x c' hx)
   refine{cl,?_,λx hx=>h1 x ?_,h2}
   ·rw[List.forIn_cons];have ec:cellOf env n=pure c:=by unfold cellOf;rw[hc]
    simp only[beq_self_eq_true,if_true,ec];exact e
   ·rcases hx with hx|⟨c',hx⟩
    ·rcases ZI.mp hx with z|z
     ·cases z;exact .inr {c,by simp}
     ·exact .inl z
    ·right
     rw[abc];cases q:x==n with
     |true=>exact{(c),rfl}
     |false=>exact{(c'),hx}
  ·obtain⟨cl,e,h1,h2⟩:=i3 names cs (λx hx=>hf x (ZP _ hx)) QL;refine{cl,?_,λx hx=>h1 x ?_,h2}
   ·rw[List.forIn_cons];have hb:(k==aaP)=η:=by simpa using hk
    simp only[hb,Bool.false_eq_true,if_false];exact e
   ·rcases hx with hx|hx
    ·rcases ZI.mp hx with z|z
     ·cases z;exact Η rfl hk
     ·exact .inl z
    ·exact .inr hx
def iL {env:Env}{scope:acj}(h:∀x,(x,aaP)∈scope.names->∃c,env.cells.lookup x=ν c):
  ∃cl,closureFor scope env=pure cl/\(∀x,(x,aaP)∈scope.names->∃c,cl.lookup x=ν c)/\∀x c,cl.lookup x=ν c->env.cells.lookup x=ν c:=by
 obtain⟨cl,e,h1,h2⟩:=i3 scope.names [] h (λx c z=>by simp at z)
 refine{cl,?_,λx hx=>h1 x (.inl hx),h2};unfold closureFor;refine Eq.trans ?_ (Ι (· >>= pure) e);rfl
structure Links (X:Cx)(scope:acj)(N':List Str)(lk:List (Option Nat)):Prop where
 kind:scope.kind=.function
 wF:∀x∈scope.names,x.2≠.cell
 names:∀x∈scope.names,x.2=.local->scope.names.lookup x.1=ν .local
 free:∀x,(x,aaP)∈scope.names->X.env.kindOf x=ν .cell\/X.env.kindOf x=ν .free
 len:lk.length=N'.length
 link:∀(i j:Nat),lk[i]?=ν (ν j)->∃x,N'[i]?=ν x/\X.N[j]?=ν x/\(x,aaP)∈scope.names/\scope.names.lookup x=ν .free
noncomputable def fg (outer:List (Str×acC))(N:List Str)(scope:acj)(N':List Str)(lk:List (Option Nat)):Bool :=
 (scope.kind==.function)&&scope.names.all (λx=>x.2 != .cell&&(x.2 != .local || scope.names.lookup x.1==ν .local)&&(x.2 != .free || outer.lookup x.1==ν .cell || outer.lookup x.1==ν .free)) &&
 lk.length==N'.length&&(ZK lk.length).all λi=>match lk[i]? with
  |some (ν j)=>match N'[i]? with
   |some x=>N[j]?==ν x&&scope.names.contains (x,.free)&&scope.names.lookup x==ν .free
   |none=>η
  |_=>ζ
def Links.of {X:Cx}{scope:acj}{N':List Str}{lk:List (Option Nat)}(h:fg X.env.scope.names X.N scope N' lk=ζ):Links X scope N' lk:=by
 simp only[fg,aaK]at h;obtain⟨⟨⟨h1,h2⟩,h3⟩,h4⟩:=h;rw[abq]at h2 h4;refine{by simpa using h1,λx hx=>?_,λx hx hl=>?_,λx hx=>?_,by simpa using h3,λi j aG=>?_}
 ·have:=h2 x hx;simp only[aaK]at this;simpa using this.1.1
 ·have:=h2 x hx;simp only[aaK]at this;have q:=this.1.2;rw[hl]at q;simpa using q
 ·have:=h2 _ hx;simp only[aaK]at this;have q:=this.2;simp only[Bool.or_eq_true]at q;rcases q with (q|q)|q
  ·simp at q
  ·exact .inl (show X.env.scope.names.lookup x=ν .cell by simpa using q)
  ·exact .inr (show X.env.scope.names.lookup x=ν .free by simpa using q)
 ·have hi:i<lk.length:=(Z1.mp aG).1;have q:=h4 i (aas.mpr hi);rw[aG]at q;simp only at q;cases e:N'[i]? with
  |none=>rw[e]at q;simp at q
  |some x =>
   rw[e]at q;simp only[aaK]at q;obtain⟨⟨q1,q2⟩,q3⟩:=q;exact{x,rfl,by simpa using q1,by simpa using q2,by simpa using q3}
noncomputable def dv (lk:List (Option Nat))(σ:St):St:=lk.map λl=>match l with|some j=>(match σ[j]? with|some v=>v|none=>ξ)|none=>ξ
theorem dN {env:Env}:∀{names:List (Str×acC)} {x:Str},names.lookup x=ν .free ->
  (names.map λ(n,k)=>if (k==aaP&&env.scope.kind==.function&&env.kindOf n==ν .cell) then (n,acn) else (n,k)).lookup x=ν .cell \/
  (names.map λ(n,k)=>if (k==aaP&&env.scope.kind==.function&&env.kindOf n==ν .cell) then (n,acn) else (n,k)).lookup x=ν .free
 |[],_,h=>by simp at h
 | (n,k)::r,x,h=>by
  have ih:=@dN env r x;show List.lookup x ((if (k==aaP&&env.scope.kind==.function&&env.kindOf n==ν .cell)=ζ then (n,acn) else (n,k))::_)=_ \/
   List.lookup x ((if (k==aaP&&env.scope.kind==.function&&env.kindOf n==ν .cell)=ζ then (n,acn) else (n,k))::_)=_
  cases hx:x==n with
  |true =>
   simp only[abc,hx]at h;cases h
   by_cases hc:(aaP==aaP&&env.scope.kind==.function&&env.kindOf n==ν .cell)=ζ
   ·rw[χ hc];left;simp[abc,hx]
   ·rw[ω hc];right;simp[abc,hx]
  |false =>
   simp only[abc,hx]at h
   by_cases hc:(k==aaP&&env.scope.kind==.function&&env.kindOf n==ν .cell)=ζ
   ·rw[χ hc];simp only[abc,hx];exact ih h
   ·rw[ω hc];simp only[abc,hx];exact ih h
theorem dG {env:Env}:∀{names:List (Str×acC)} {x:Str} {k:acC},(k=.cell\/k=.free)->(∀y∈names,y.2≠.cell) ->
  (names.map λ(n,k)=>if (k==aaP&&env.scope.kind==.function&&env.kindOf n==ν .cell) then (n,acn) else (n,k)).lookup x=ν k->(x,aaP)∈names
 |[],_,_,_,_,h=>by simp at h
 | (n,k')::r,x,k,hk,hc,h=>by
  have ih:=@dG env r x k hk (λy hy=>hc y (ZP _ hy));have h':List.lookup x ((if (k'==aaP&&env.scope.kind==.function&&env.kindOf n==ν .cell)=ζ then (n,acn) else (n,k'))::(r.map λ(n,k)=>if (k==aaP&&env.scope.kind==.function&&env.kindOf n==ν .cell) then (n,acn) else (n,k)))=ν k:=h
  have IJ:=hc (n,k') (ZO ..)
  by_cases Hg:(k'==aaP&&env.scope.kind==.function&&env.kindOf n==ν .cell)=ζ
  ·rw[χ Hg]at h';simp only[aaK,beq_iff_eq]at Hg;cases hx:x==n with
   |true=>rw[eq_of_beq hx,Hg.1.1];exact ZO ..
   |false=>rw[abc,hx]at h';exact ZP _ (ih h')
  ·rw[ω Hg]at h';cases hx:x==n with
   |true =>
    rw[abc,hx]at h';have e:k'=k:=by simpa using h'
    subst e;rcases hk with hk|hk
    ·exact Η hk IJ
    ·rw[eq_of_beq hx,hk];exact ZO ..
   |false=>rw[abc,hx]at h';exact ZP _ (ih h')
section
variable {X:Cx}{μ:List (θ×Obj)}{σ:St}{H:Hp}{s:ZH}{scope:acj}{N':List Str}{lk:List (Option Nat)}{cl:List (Str×θ)}{ex:List θ}
def Du {h':Heap}{t':Nat}(I:Inv X μ σ H s)(L:Links X scope N' lk)(hex:∀b∈ex,gS X μ H b)(TR:∀b∈ex,∃o,s.heap.get? b=ν o)
  (pF:∀x,(x,aaP)∈scope.names->∃c,cl.lookup x=ν c) (pE:∀x c,cl.lookup x=ν c->X.env.cells.lookup x=ν c)
  (hn:h'.Ns s.heap.objs.size (λ_=>ξ)) (hk:∀b o,s.heap.get? b=ν o->h'.get? b=ν o) :
  Inv (ar X scope N' cl s.heap.objs.size s H ex) [] (dv lk σ) H {s with heap:=h',toks:=t'}:=by
 obtain⟨m,hm,hl⟩:=I.loc;have YG:∀b∈ex,b≠s.heap.objs.size:=λb hb=>by
  obtain⟨o,e⟩:=TR b hb;exact aak (Z6 e)
 refine⟨⟨I.ok.mod,L.kind,I.ok.glob,I.ok.blt,ZG _,λx y c h1 h2=>I.ok.inj x y c (pE _ _ h1) (pE _ _ h2),λx hx=>?_,λx c z=>(nomatch z),I.ok.hd,I.ok.frames,.inl rfl,
  λb hb=>{YG b hb,λx c e=>(hex b hb).2.2.2.2.1 x c (pE _ _ e)},I.bs,aaj I.ok.Ja I.sz,λb o e z=>?_,λb hb z=>?_,I.stack,I.xQ⟩,
  rfl,I.bare,Un.kept hk,{_,hn,λi x v h1 h2 h3=>?_},λx c e=>?_,I.bp.fresh (ZG _),λx c e=>I.iE x c (pE _ _ e),λp hp=>Η (show p∈([]:List (θ×Obj)) from hp) (by simp),I.bp.kept hk,?_⟩
 ·have Dx:(relabel scope X.env).names.lookup x=ν .cell\/(relabel scope X.env).names.lookup x=ν .free:=hx;rcases Dx with q|q
  ·exact pF x (dG (.inl rfl) L.wF q)
  ·exact pF x (dG (.inr rfl) L.wF q)
 ·obtain⟨f0,f1,f2,f3,_⟩:=hex b z;rcases f3 with q|q
  ·exact I.ok.CZ b o e q
  ·have h1:=Z6 e;have h2:=I.ok.Ja;exact Η (aaq h1 (aaj h2 q)) (acm _)
 ·obtain⟨f0,f1,f2,f3,_⟩:=hex b hb;rcases ZI.mp (I.vY b z)with q|q
  ·exact f1 q
  ·exact f2 q
 ·have hi:∃j,lk[i]?=ν (ν j)/\σ[j]?=ν (ν v):=by
   have DS:(dv lk σ)[i]?=ν (ν v):=h2;unfold dv at DS;rw[ZS]at DS;cases e:lk[i]? with
   |none=>rw[e]at DS;cases DS
   |some l =>
    cases l with
    |none=>rw[e]at DS;cases DS
    |some j =>
     rw[e]at DS;cases e2:σ[j]? with
     |none=>simp[e2]at DS
     |some w' =>
      simp only[Option.map_some,e2,Option.some.injEq]at DS;subst DS;exact{(j),rfl,e2}
  obtain⟨j,hj,hσ⟩:=hi;obtain⟨y,e1,e2,e3,e4⟩:=L.link i j hj;have YF:x=y:=by
   have Hi:N'[i]?=ν x:=h1;rw[e1]at Hi;exact(aao Hi).symm
  subst YF;have S8:Mp X.env.scope x:=by
   rcases L.free x e3 with q|q
   ·exact .inr (.inl q)
   ·exact .inr (.inr q)
  obtain⟨u,ru,lu⟩:=hl j x v e2 hσ S8;refine{u,ru,.inr {?_,?_}}
  ·exact dN e4
  ·rcases lu with⟨k,_⟩|⟨_,c,hc,z⟩
   ·rcases L.free x e3 with q|q <;> (rw[k]at q;cases q)
   ·obtain⟨c',lY⟩:=pF x e3;have:=pE x c' lY;rw[hc]at this;cases this;obtain⟨o,ho,hd⟩:=z;exact{c,lY,o,hk _ _ ho,hd}
 ·obtain⟨v,o,ho,hd⟩:=I.cell x c (pE _ _ e);exact{v,o,hk _ _ ho,hd}
 ·show (dv lk σ).length=N'.length;unfold dv;rw[ZE,L.len]
def Dv {s':ZH}{σ':St}{H':Hp}{pl:List (θ×Obj)}{C:θ}{h'':Heap}(I:Inv X μ σ H s)(hex:∀b∈ex,gS X μ H b)
  (J:Inv (ar X scope N' cl s.heap.objs.size s H ex) pl σ' H' s') (hs:abr s.heap.objs.size s'.heap h''):Inv X μ σ H' {s' with heap:=h''}:=by
 have hC:H' s.heap.objs.size=ξ:=J.free;have u:=J.base;refine I.P2 (ch:=ex) (s':={s' with heap:=h''}) J.os ?_ ?_ J.bare (λb hb=>?_)
 ·have kk:∀b o,b≠s.heap.objs.size->s'.heap.get? b=ν o->h''.get? b=ν o:=λb o hb e=>(hs.2 b hb).trans e;have ne:∀b o,s.heap.get? b=ν o->b≠s.heap.objs.size:=λb o e=>aak (Z6 e);refine{λb o e n hb hx=>kk b _ (ne b o e) (u.keep b o e n hb hx),λb o e n hb hx=>?_,u.free,λb o e hx=>?_,u.rg,u.pH,u.rh}
  ·obtain⟨sl,q⟩:=u.slot b o e n hb hx;exact{sl,kk b _ (ne b o e) q}
  ·obtain⟨o',q⟩:=u.there b o e hx;exact{o',kk b _ (ne b o e) q}
 ·intro b o e;have hb:b≠s.heap.objs.size:=λz=>by rw[z]at e;rw[hC]at e;cases e
  refine(J.bp b o e).s_ (λc v hc q=>(hs.2 c ?_).trans q) (λ_ q=>q) λ_ _ q=>q;rcases hc with z|z
  ·rw[z];exact hb
  ·intro z';rw[z']at z;rw[hC]at z;cases z
 ·obtain⟨f0,f1,f2,f3,f4,f5⟩:=hex b hb;exact{(f3),f1,f4,f5}
end
noncomputable def mV (g:acp)(after:Sem Fin->Sem Fin)(e:Expr)(d:Nat)(it acc:ZF)(env:Env):Sem Fin:=do
 ac0 g.iter.pos
 match <- acS it with
 |none=>pure (.done .next)
 |some v =>
  letOwnedTupleGo g.target it v
  assign g.target env v
  let mut ok:=ζ
  for c in g.ifs do
   if ok then ok <- isTrue c env (eval c env)
  if ok then after (again (.compLoop e d it acc env)) else again (.compLoop e d it acc env)
noncomputable def my (e:Expr)(d:Nat)(g':acp)(acc:ZF)(env:Env)(k:Sem Fin):Sem Fin:=do
 let x <- eval g'.iter env
 ac0 g'.iter.pos
 let x <- aay g'.iter env x
 let _ <- runOwn (.compStart e (d+1) (<- holding [x] (pyIter x)) acc env) env
 k
def gv (t:Sem Unit)(k:Sem Fin):Sem Fin:=do
 t
 k
def yW (elt:Expr)(acc:ZF)(env:Env):Sem Unit:=do let _ <- call (.builtin "list.append") [acc,<- eval elt env]
def yV (elt:Expr)(acc:ZF)(env:Env):Sem Unit:=do let v <- eval elt env;ac0 elt.pos;let _ <- call (.builtin "set.add") [acc,v]
noncomputable def Ej (k v:Expr)(acc:ZF)(env:Env):Sem Unit:=do
    let kv <- eval k env
    let vv <- holding [kv] (eval v env)
    match acc with
    |.ref d=>do
     ac0 {k.pos with endLine:=v.pos.endLine,endCol:=v.pos.endCol}
     holding [kv,vv] (dictSet d kv vv)
    |_=>unsupported "internal:dictcomp"
structure fD (e:Expr)(d:Nat)(g:acp)(acc:ZF)(env:Env)(after:Sem Fin->Sem Fin):Prop where
 turn:∀it,compTurn e d it acc env=mV g after e d it acc env
 cl:(clausesOf e)[d]?=ν g
 sync:g.is_async=0
 quiet:∀it,(ac7 e d it acc env).quiet=ζ
 under:∀(A:aaJ) it,A.under (ac7 e d it acc env)=A
 Jy:∀(A:aaJ) it,A.under (Code.compStart e d it acc env)=A
 Kz:∀it,(ac7 e d it acc env).isFrame=η
 NY:∀it,(Code.compStart e d it acc env).isFrame=η
section
variable {elt tg oX bQ iD k v:Expr}{ifs fz:List Expr}{sc:acj}{pos:Pos}{acc:ZF}{env:Env}
def zg:fD (.ListComp elt [{tg,bQ,ifs,0}] sc pos) 0 {tg,bQ,ifs,0} acc env (gv (yW elt acc env)) :=
 {λ_=>rfl,rfl,rfl,λ_=>rfl,λ_ _=>rfl,λ_ _=>rfl,λ_=>rfl,λ_=>rfl}
def PZ:fD (.SetComp elt [{tg,bQ,ifs,0}] sc pos) 0 {tg,bQ,ifs,0} acc env (gv (yV elt acc env)) :=
 {λ_=>rfl,rfl,rfl,λ_=>rfl,λ_ _=>rfl,λ_ _=>rfl,λ_=>rfl,λ_=>rfl}
def P0:fD (.DictComp k v [{tg,bQ,ifs,0}] sc pos) 0 {tg,bQ,ifs,0} acc env (gv (Ej k v acc env)) :=
 {λ_=>rfl,rfl,rfl,λ_=>rfl,λ_ _=>rfl,λ_ _=>rfl,λ_=>rfl,λ_=>rfl}
def Mf:fD (.ListComp elt [{tg,bQ,ifs,0},{oX,iD,fz,0}] sc pos) 0 {tg,bQ,ifs,0} acc env (my (.ListComp elt [{tg,bQ,ifs,0},{oX,iD,fz,0}] sc pos) 0 {oX,iD,fz,0} acc env) :=
 {λ_=>rfl,rfl,rfl,λ_=>rfl,λ_ _=>rfl,λ_ _=>rfl,λ_=>rfl,λ_=>rfl}
def Me:fD (.ListComp elt [{tg,bQ,ifs,0},{oX,iD,fz,0}] sc pos) 1 {oX,iD,fz,0} acc env (gv (yW elt acc env)) :=
 {λ_=>rfl,rfl,rfl,λ_=>rfl,λ_ _=>rfl,λ_ _=>rfl,λ_=>rfl,λ_=>rfl}
def Md:fD (.SetComp elt [{tg,bQ,ifs,0},{oX,iD,fz,0}] sc pos) 0 {tg,bQ,ifs,0} acc env (my (.SetComp elt [{tg,bQ,ifs,0},{oX,iD,fz,0}] sc pos) 0 {oX,iD,fz,0} acc env) :=
 {λ_=>rfl,rfl,rfl,λ_=>rfl,λ_ _=>rfl,λ_ _=>rfl,λ_=>rfl,λ_=>rfl}
def Mc:fD (.SetComp elt [{tg,bQ,ifs,0},{oX,iD,fz,0}] sc pos) 1 {oX,iD,fz,0} acc env (gv (yV elt acc env)) :=
 {λ_=>rfl,rfl,rfl,λ_=>rfl,λ_ _=>rfl,λ_ _=>rfl,λ_=>rfl,λ_=>rfl}
end
def M0:TT:=λ_ H Q=>Q ζ H
def vz (X:Cx)(ifs:List Expr)(t:TT):Prop :=
 ∀(μ:List (θ×Obj)) (s:ZH) (σ:St) (H:Hp) (Q:Bool->Hp->Prop),Inv X μ σ H s->t σ H Q ->
  aab (Ψ X.prog X.w) X.A (forIn ifs ζ λc r=>if r=ζ then do let ok <- isTrue c X.env (eval c X.env);pure (ForInStep.yield ok) else pure (ForInStep.yield r)) (TP X μ σ Q) X.xe s
def F5 {X:Cx}:vz X [] M0:=λ_ _ _ H _ I h=>wpAny_tests_nil {(H),I,h}
def F4 {X:Cx}{c:Expr}{t:TT}(h:PT X c t):vz X [c] t:=λμ s σ H Q I q=>wpAny_tests_one (h μ s σ H Q I q)
abbrev l8:=(St->Hp->Prop)->St->Hp->Prop
def pS (X:Cx)(after:Sem Fin->Sem Fin)(t:l8):Prop :=
 ∀(μ:List (θ×Obj)) (s:ZH) (σ:St) (H:Hp) (N:St->Hp->Prop) (k:Sem Fin) (Q:Fin->ZH->Prop) (E:ZF->ZH->Prop),Inv X μ σ H s->t N σ H ->
  (∀σ' H' s',Inv X μ σ' H' s'->N σ' H'->aab (Ψ X.prog X.w) X.A k Q E s')->aab (Ψ X.prog X.w) X.A (after k) Q E s
def dY {X:Cx}(hx:X.xe=λ_ _=>False){α:Type}{t:Sem α}{Q:α->ZH->Prop}{E:ZF->ZH->Prop}{s:ZH}(h:aab (Ψ X.prog X.w) X.A t Q X.xe s):aab (Ψ X.prog X.w) X.A t Q E s :=
 acP h (λ_ _ q=>q) λe s q=>by rw[hx]at q;exact q.elim
def fo (J:It)(g:TG)(tt:TT)(ta:l8)(End:St->Hp->Prop):St->Hp->Prop:=λσ H =>
 ∃W:Nat->Nat->St->Hp->Prop,(∃m,W 0 m σ H)/\∀i m σ H,W i m σ H->(J.stop i H/\End σ H) \/
  (J.go i H/\∃N:St->Hp->Prop,(∀σ' H',N σ' H'->∃m',m'<m/\W (i+1) m' σ' H')/\∀x H',J.MX i H x H'->g x σ H' λσ2 H2=>tt σ2 H2 λb H3=>if b=ζ then ta N σ2 H3 else N σ2 H3)
section
variable {X:Cx}{e:Expr}{d:Nat}{g:acp}{acc:ZF}{after:Sem Fin->Sem Fin}{tg:TG}{tt:TT}{ta:l8}
def AV (hx:X.xe=λ_ _=>False)(hc:X.calm=ζ)(F:fD e d g acc X.env after)(hg:PG X g.target tg)(ht:vz X g.ifs tt)(ha:pS X after ta)
  {it:θ} {fp:List θ} {tn:Nat->Heap->Prop} {J:It} (T:Turn X.prog X.w X.K g.target J fp it tn) {μ:List (θ×Obj)} {σ:St} {H:Hp} {s:ZH} {End:St->Hp->Prop}
  (I:Inv X μ σ H s) (st:tn 0 s.heap) (hf:∀b∈fp,gS X μ H b) (h:fo J tg tt ta End σ H) :
  ac2 (Ψ X.prog X.w) X.A (.compLoop e d (.ref it) acc X.env) (λr s'=>r=.ok .next/\∃σ' H',Inv X μ σ' H' s'/\End σ' H') s:=by
 obtain⟨W,⟨m0,w0⟩,turn⟩:=h;have vZ:∀{H':Hp},(∀b∈fp,H' b=ξ)->∀b∈fp,gS X μ H' b:=λhn b hb=>{hn b hb,(hf b hb).2};refine codeAny_loop (F.quiet _) (λn s'=>∃i σ' H',Inv X μ σ' H' s'/\tn i s'.heap/\(∀b∈fp,H' b=ξ)/\W i n σ' H') (λn s3 hI=>?_) m0 {0,σ,H,I,st,λb hb=>(hf b hb).1,w0};obtain⟨i,σ3,H3,I3,m8,Pz,w3⟩:=hI;rw[F.under];have LN:(Ψ X.prog X.w).den (.compLoop e d (.ref it) acc X.env)=(mV g after e d (.ref it) acc X.env).onRaise (λx=>do noteFrame x X.env;theTreesLotGoes x):=by
  rw[<- F.turn];show (if (ac7 e d (.ref it) acc X.env).isFrame then _ else _)=_
  rw[F.Kz];rfl
 rw[LN];refine wpAny_noted ?_;unfold mV;rcases turn i n σ3 H3 w3 with⟨stop,qn⟩|⟨go,N,hN,step⟩
 ·refine ZD (abR (ZD (bP (T.done X rfl rfl rfl hc i μ s3 σ3 H3 _ I3 (vZ Pz) m8 stop) λr s4 fA=>?_)));obtain⟨hr,I4⟩:=fA;subst hr;exact ZL {(rfl),σ3,H3,I4,qn}
 ·refine ZD (abR (ZD (bP (T.item X rfl rfl rfl hc i μ s3 σ3 H3 _ I3 (vZ Pz) m8 go) λr s4 n9=>?_)));obtain⟨u,hr,h4⟩:=n9;subst hr;refine ZD (bP h4 λ_ s5 wZ=>?_);obtain⟨x,H5,I5,r5,y5,E8,UI⟩:=wZ;have Va:=I5.pinned (vZ UI) (T.obj _ _ E8);refine ZD (bP (dY hx (hg _ s5 σ3 H5 x u _ Va r5 (step x H5 y5))) λ_ s6 OB=>?_);obtain⟨σ6,H6,I6,q6⟩:=OB;refine ZD (bP (dY hx (ht _ s6 σ6 H6 _ I6 q6)) λok s7 S7=>?_);obtain⟨H7,I7,q7⟩:=S7;have ET:∀{σ8:St} {H8:Hp} {s8:ZH},Inv X (μ++nz fp s5.heap) σ8 H8 s8->N σ8 H8->∃m,m<n/\∃i σ' H',Inv X μ σ' H' s8/\tn i s8.heap/\(∀b∈fp,H' b=ξ)/\W i m σ' H':=λ{σ8 H8 s8} I8 n8=>by
   obtain⟨m',hm,w8⟩:=hN σ8 H8 n8;refine{m',hm,i+1,σ8,H8,I8.ji,T.keep _ _ _ E8 λb hb o e=>(I8.pin (b,o) (aaa _ (aaa _ (fQ hb e)))).1,λb hb=>?_,w8};obtain⟨o,e,d⟩:=T.obj _ _ E8 b hb;exact(I8.pin (b,o) (aaa _ (aaa _ (fQ hb e)))).2.1
  cases ok with
  |false=>exact ZL {rfl,ET I7 (by simpa using q7)}
  |true =>
   exact ha _ s7 σ6 H7 N _ _ _ I7 (by simpa using q7) λσ8 H8 s8 I8 n8=>ZL {rfl,ET I8 n8}
def oO (hx:X.xe=λ_ _=>False)(hc:X.calm=ζ)(F:fD e d g acc X.env after)(hg:PG X g.target tg)(ht:vz X g.ifs tt)(ha:pS X after ta)
  {it:θ} {fp:List θ} {tn:Nat->Heap->Prop} {J:It} (T:Turn X.prog X.w X.K g.target J fp it tn) {μ:List (θ×Obj)} {σ:St} {H:Hp} {s:ZH} {End:St->Hp->Prop}
  (I:Inv X μ σ H s) (st:tn 0 s.heap) (hf:∀b∈fp,gS X μ H b) (h:fo J tg tt ta End σ H) :
  ac2 (Ψ X.prog X.w) X.A (.compStart e d (.ref it) acc X.env) (λr s'=>r=.ok .next/\∃σ' H',Inv X μ σ' H' s'/\End σ' H') s:=by
 have lp:=AV hx hc F hg ht ha T I st hf h;refine codeAny_of_tree ?_;rw[F.Jy];have LN:(Ψ X.prog X.w).den (.compStart e d (.ref it) acc X.env)=(compStart e d (.ref it) acc X.env).onRaise (λx=>do noteFrame x X.env;ac0 theWindowsPlace):=by
  show (if (Code.compStart e d (.ref it) acc X.env).isFrame then _ else _)=_
  rw[F.NY];rfl
 rw[LN];refine wpAny_notedAt ?_;unfold compStart;rw[F.cl];simp only[Option.elim_some,F.sync];show aab _ _ (ask >>= _) _ _ s;refine ZD (ada (wpAny_ite ?_))
 split
 ·first
   |exact ZD (ZL (ZL (And.intro (F.quiet _) lp)))
   |exact ZL (And.intro (F.quiet _) lp)
 ·have h2:∀(E:ZF->ZH->Prop),aab (Ψ X.prog X.w) X.A (pyIter (.ref it)) (λQB s'=>(ac7 e d QB acc X.env).quiet=ζ/\ac2 (Ψ X.prog X.w) X.A (.compLoop e d QB acc X.env) (λr s'=>r=.ok .next/\∃σ' H',Inv X μ σ' H' s'/\End σ' H') s') E s :=
   λE=>T.self X.A 0 s _ E st {F.quiet _,lp}
  first
   |exact ZD (abY (ZD (abR (ZD (acP (h2 _) (λQB s' h'=>ZL h') λ_ _ x=>x)))))
   | (refine ZD (abY ?_);exact ZD (abR (ZD (acP (h2 _) (λQB s' h'=>ZL h') λ_ _ x=>x))))
def yt {g':acp}{wi:TI}(hx:X.xe=λ_ _=>False)(hc:X.calm=ζ)(F:fD e (d+1) g' acc X.env after)(hi:PI X g'.target g'.iter wi)(hg:PG X g'.target tg)(ht:vz X g'.ifs tt)(ha:pS X after ta)
  (hs:∀x,aay g'.iter X.env x=pure x:=by intro _;rfl) :
  pS X (my e d g' acc X.env) (λN σ H=>wi σ H λJ H1=>fo J tg tt ta N σ H1):=by
 intro μ s σ H N k Q E I h hk;unfold my;refine ZD (bP (dY hx (hi μ s σ H _ I h)) λx s1 h1=>?_);refine ZD (abR (ZD (wpAny_of_eq (hs x) ?_)));refine ZD (aa6 (bP (dY hx h1) λIA s2 h2=>?_));obtain⟨it,fp,tn,J,H2,e1,I2,T,fZ,f2,hl⟩:=h2;subst e1;refine ZD (wpAny_runOwn (abZ (oO hx hc F hg ht ha T I2 fZ f2 hl) λr s' hr=>?_));obtain⟨rfl,σ',H',I',q⟩:=hr;exact hk σ' H' s' I' q
def gB {elt:Expr}{te:TE}{a:θ}(hx:X.xe=λ_ _=>False)(he:PE X elt te):
  pS X (gv (yW elt (.ref a) X.env)) (λN σ H=>te σ H λv H1=>∃xs,H1 a=ν (.lst xs)/\xs.length<Z3/\N σ (upd H1 a (.lst (xs++[v])))):=by
 intro μ s σ H N k Q E I h hk;unfold gv yW;refine ZD (ZD (bP (dY hx (he μ s σ H _ I h)) λu s1 S6=>?_));obtain⟨v,H1,I1,r1,xs,hH,hz,q⟩:=S6;refine ZD (bP (dY hx <| kz (X:=X) μ s1 σ H1 (.ref a) [v] (.ref a) [u] (λw' H'=>N σ H') I1 rfl (.cons r1 .nil) ⟨a,xs,v,rfl,rfl,hH,hz,q⟩) λ_ s2 XX=>?_)
 obtain⟨_,H2,I2,_,q2⟩:=XX;exact ZL (hk σ H2 s2 I2 q2)
end
section
variable {X:Cx}{e:Expr}
structure ll (X:Cx)(ff:Sem ZF)(o:HO):Prop where
 ok:∀(μ:List (θ×Obj)) (s:ZH) (σ:St) (H:Hp) (Q:ZF->ZH->Prop) (E:ZF->ZH->Prop),Inv X μ σ H s ->
  (∀a s',s.heap.objs.size<=a->H a=ξ->(∀b o,s.heap.get? b=ν o->s'.heap.get? b=ν o)->Inv X μ σ (upd H a o) s'->Q (.ref a) s')->aab (Ψ X.prog X.w) X.A ff Q E s
def gC:ll X (newList []) (.lst []) :=
 {λμ s σ H Q E I h=>abN (h _ _ (ZG _) I.fresh (λb o e=>ZM _ e) (I.KS (its:=[]) (t':=s.toks) .nil (ZW _)))}
def Inv.sameBut {μ:List (θ×Obj)}{σ:St}{H:Hp}{s:ZH}{C:θ}{h':Heap}(I:Inv X μ σ H s)(f:gS X μ H C)(hs:abr C s.heap h'):Inv X μ σ H {s with heap:=h'}:=by
 obtain⟨f0,f1,f2,f3,f4,f5⟩:=f;exact I.turned (t':=s.toks) (λb o hb e=>(hs.2 b hb).trans e) f0 f1 f3 f4 f5
end
end L2
namespace ST
open PySem PySem.SetTable
def it:Nat->Nat->Nat
 |0,x=>x
 |n+1,x=>5*it n x+1
theorem wW (a:Nat):∀(b x:Nat),it (a+b) x=it b (it a x)
 |0,x=>rfl
 |b+1,x=>by
  show 5*it (a+b) x+1=5*it b (it a x)+1;rw[wW a b x]
theorem Ds:∀j:Nat,∃a b:Nat,∀x,it (2 ^ j) x=(1+4*2 ^ j*a)*x+2 ^ j*(1+2*b)
 |0=>{1,0,λx=>by show 5*x+1=_;simp}
 |j+1=>by
  obtain⟨a,b,h⟩:=Ds j;refine{a+2*2 ^ j*a*a,b+2 ^ j*a*(1+2*b),λx=>?_};rw[show 2 ^ (j+1)=2 ^ j+2 ^ j by rw[acO];lia,wW,h,h]
  generalize 2 ^ j=P
  grind
theorem lift:∀(j x t:Nat),∃k,k<2 ^ j/\it k x % 2 ^ j=t % 2 ^ j
 |0,x,t=>{0,by decide,by rw[Nat.pow_zero,Nat.mod_one,Nat.mod_one]}
 |j+1,x,t=>by
  obtain⟨k,hk,e⟩:=lift j x t;obtain⟨a,b,h⟩:=Ds j;have hP:0<2 ^ j:=Nat.pow_pos (by decide)
  rw[acO]
  by_cases q:it k x % (2 ^ j*2)=t % (2 ^ j*2)
  ·exact{k,by lia,q}
  ·refine{k+2 ^ j,by lia,?_}
   rw[wW,h];generalize it k x=y at *
   generalize 2 ^ j=P at *
   have e1:((1+4*P*a)*y+P*(1+2*b))=(y+P)+(P*2)*(2*a*y+b):=by grind
   rw[e1,Nat.add_mul_mod_self_left,Nat.mod_mul,Nat.mod_mul];rw[Nat.mod_mul,Nat.mod_mul,e]at q;rw[Nat.add_mod_right,Nat.add_div_right _ hP,e];have u1:y / P % 2<2:=acT _ (by decide)
   have u2:t / P % 2<2:=acT _ (by decide)
   have u3:y / P % 2≠t / P % 2:=λz=>q (by rw[z])
   have u4:(y / P).succ % 2=t / P % 2:=by lia
   rw[u4]
def dC (m:Nat)(p:Probe):Probe:=advance {mask:=m,place:=#[],dummies:=#[],finger:=0,led:=ζ,moves:=0,plain:=ζ} p
def Rv (m:Nat)(h:Int):Probe:=probeStart {mask:=m,place:=#[],dummies:=#[],finger:=0,led:=ζ,moves:=0,plain:=ζ} h
def JI (t:SetTable)(h:Int):probeStart t h=Rv t.mask h:=rfl
noncomputable def gn (m:Nat)(h:Int):Nat->Probe
 |0=>Rv m h
 |n+1=>dC m (gn m h n)
def cN (m:Nat)(h:Int)(n:Nat):Nat:=(gn m h n).j
def lp (m:Nat)(h:Int):Nat->Nat×Nat
 |0=>(bits h % (m+1),bits h)
 |k+1=>leap m (lp m h k).1 (lp m h k).2
def MR (m:Nat)(x:Nat×Nat):Probe:={j:=x.1,more:=runEnd m x.1-x.1,i:=x.1,perturb:=x.2,dummy:=ξ}
def JS (m i:Nat):runEnd m i-i<=9:=by
 unfold runEnd
 split <;> lia
theorem wY (m:Nat)(h:Int)(x:Nat×Nat)(n:Nat)(e:gn m h n=MR m x):∀d,d<=runEnd m x.1-x.1->gn m h (n+d)={MR m x with j:=x.1+d,more:=runEnd m x.1-x.1-d}
 |0,_=>by rw[Nat.add_zero,e];rfl
 |d+1,hd=>by
  show dC m (gn m h (n+d))=_;rw[wY m h x n e d (by lia)]
  unfold dC advance;rw[χ (by show runEnd m x.1-x.1-d>0;lia)]
  rfl
def vm (m:Nat)(h:Int)(x:Nat×Nat)(n:Nat)(e:gn m h n=MR m x):gn m h (n+(runEnd m x.1-x.1)+1)=MR m (leap m x.1 x.2):=by
 show dC m (gn m h (n+(runEnd m x.1-x.1)))=_;rw[wY m h x n e _ (ZG _)];unfold dC advance;rw[ω (by show ¬ runEnd m x.1-x.1-(runEnd m x.1-x.1)>0;lia)]
 rfl
theorem EM (m:Nat)(h:Int):∀k,∃n,n<=10*k/\gn m h n=MR m (lp m h k)
 |0=>{0,ZG _,rfl}
 |k+1=>by
  obtain⟨n,h1,h2⟩:=EM m h k;refine{n+(runEnd m (lp m h k).1-(lp m h k).1)+1,?_,vm m h _ n h2};have:=JS m (lp m h k).1;lia
theorem Dc (m:Nat)(h:Int):∀k,(lp m h k).2=bits h / 32 ^ k
 |0=>by rw[Nat.pow_zero,Nat.div_one];rfl
 |k+1=>by
  show (lp m h k).2 / 32=_;rw[Dc m h k,Nat.div_div_eq_div_mul,acO]
def HQ (h:Int):bits h<2 ^ 64:=by
 unfold bits;have h1:=Int.emod_lt_of_pos h (show (0:Int)<2 ^ 64 by decide)
 have h2:=Int.emod_nonneg h (show (2 ^ 64:Int)≠0 by decide)
 lia
def GV (m:Nat)(h:Int){k:Nat}(hk:13<=k):(lp m h k).2=0:=by
 rw[Dc];refine Nat.div_eq_of_lt (aaq (HQ h) ?_);have:32 ^ 13<=32 ^ k:=abv (by decide) hk
 exact aaj (by decide) this
def Iq {j:Nat}(h:Int):∀d,(lp (2 ^ j-1) h (13+d)).1=it d (lp (2 ^ j-1) h 13).1 % 2 ^ j:=by
 have hP:2 ^ j-1+1=2 ^ j:=by have:0<2 ^ j:=Nat.pow_pos (by decide);lia
 have lt:∀k,(lp (2 ^ j-1) h k).1<2 ^ j:=λk=>by
  cases k with
  |zero=>show bits h % (2 ^ j-1+1)<_;rw[hP];exact acT _ (by lia)
  |succ k=>show (_*5+1+_ / 32) % (2 ^ j-1+1)<_;rw[hP];exact acT _ (by lia)
 intro d
 induction d with
 |zero=>exact(Nat.mod_eq_of_lt (lt 13)).symm
 |succ d ih =>
  show ((lp (2 ^ j-1) h (13+d)).1*5+1+(lp (2 ^ j-1) h (13+d)).2 / 32) % (2 ^ j-1+1)=(5*it d _+1) % 2 ^ j;rw[hP,GV _ h (by lia),ih,Nat.zero_div,Nat.add_zero,Nat.mul_comm]
  conv=>rhs;rw[Nat.add_mod,Nat.mul_mod]
  rw[Nat.add_mod,Nat.mul_mod,Nat.mod_mod]
def YO (j:Nat)(h:Int){t:Nat}(ht:t<2 ^ j):∃n,n<10*turns (2 ^ j-1)/\cN (2 ^ j-1) h n=t:=by
 obtain⟨k,hk,e⟩:=lift j (lp (2 ^ j-1) h 13).1 t;obtain⟨n,h1,h2⟩:=EM (2 ^ j-1) h (13+k);refine{n,by unfold turns;lia,?_}
 unfold cN;rw[h2];show (lp (2 ^ j-1) h (13+k)).1=t;rw[Iq,e,Nat.mod_eq_of_lt ht]
abbrev g (xs:Array Nat)(i:Nat):Nat:=xs.getD i 0
def xg {xs:Array Nat}{i:Nat}(h:i<xs.size):xs[i]?=ν (g xs i):=by
 rw[getElem?_pos xs i h,g,Z_,getElem?_pos xs i h];rfl
def Jd (xs:Array Nat):Prop:=∀i j,i<j->j<xs.size->g xs i<g xs j
def Jd.inj {xs:Array Nat}(r:Jd xs){i j:Nat}(hi:i<xs.size)(hj:j<xs.size)(e:g xs i=g xs j):i=j:=by
 rcases Nat.lt_trichotomy i j with h|h|h
 ·have:=r i j h hj;lia
 ·exact h
 ·have:=r j i h hi;lia
theorem oT {xs:Array Nat}{j:Nat}(r:Jd xs):∀(f lo hi:Nat),hi<=xs.size->lo<=hi->hi-lo<=f->(∀k,k<lo->g xs k<j)->(∀k,hi<=k->k<xs.size->j<=g xs k) ->
  below.go xs j f lo hi<=xs.size/\(∀k,k<below.go xs j f lo hi->g xs k<j)/\(∀k,below.go xs j f lo hi<=k->k<xs.size->j<=g xs k)
 |0,lo,hi,h1,h2,h3,h4,h5=>by
  obtain rfl:lo=hi:=by omega
  exact{(h1),h4,h5}
 |f+1,lo,hi,h1,h2,h3,h4,h5=>by
  unfold below.go
  by_cases hl:lo<hi
  ·rw[χ hl];dsimp only;have hm:(lo+hi) / 2<xs.size:=by omega
   have e:xs.getD ((lo+hi) / 2) j=g xs ((lo+hi) / 2):=by
    rw[g,Z_,Z_,getElem?_pos xs _ hm];rfl
   rw[e]
   by_cases hc:g xs ((lo+hi) / 2)<j
   ·rw[χ hc];refine oT r f _ _ h1 (by omega) (by omega) (λk hk=>?_) h5
    by_cases Fd:k=(lo+hi) / 2
    ·rw[Fd];exact hc
    ·have:=r k ((lo+hi) / 2) (by omega) hm;omega
   ·rw[ω hc];refine oT r f _ _ (by omega) (by omega) (by omega) h4 (λk hk IJ=>?_)
    by_cases Fd:k=(lo+hi) / 2
    ·rw[Fd];omega
    ·have:=r ((lo+hi) / 2) k (by omega) IJ;omega
  ·rw[ω hl];obtain rfl:lo=hi:=by omega
   exact{(h1),h4,h5}
def fX {xs:Array Nat}(r:Jd xs)(j:Nat):below xs j<=xs.size/\(∀k,k<below xs j->g xs k<j)/\(∀k,below xs j<=k->k<xs.size->j<=g xs k) :=
 oT r xs.size 0 xs.size (ZG _) (ZW _) (ZG _) (λk hk=>by lia) (λk h1 h2=>by lia)
def below_at {xs:Array Nat}(r:Jd xs){i:Nat}(hi:i<xs.size):below xs (g xs i)=i:=by
 obtain⟨h1,h2,h3⟩:=fX r (g xs i);rcases Nat.lt_trichotomy (below xs (g xs i)) i with h|h|h
 ·have:=h3 (below xs (g xs i)) (ZG _) (by omega)
  have:=r _ _ h hi;omega
 ·exact h
 ·have:=h2 i h;omega
def sH (t:SetTable)(x:Nat):Prop:=∃i,i<t.place.size/\g t.place i=x
def p_ {t:SetTable}(r:Jd t.place){i:Nat}(hi:i<t.place.size):t.slot (g t.place i)=.live i:=by
 unfold slot;dsimp only;rw[below_at r hi,χ (by rw[xg hi];exact beq_self_eq_true _)]
def zL {t:SetTable}(r:Jd t.place)(d:t.dummies=#[]){x:Nat}(h:¬ sH t x):t.slot x=.empty:=by
 unfold slot;dsimp only;rw[ω ?_,ω ?_]
 ·rw[d];unfold has;simp
 ·intro q;have q:=eq_of_beq q;have hl:below t.place x<t.place.size:=by
   rcases aa2 (below t.place x) t.place.size with z|z
   ·exact z
   ·rw[abF z]at q;cases q
  rw[xg hl]at q;exact h {_,hl,aao q}
structure WF (t:SetTable)(hs:List Int):Prop where
 MM:t.dummies=#[]
 sz:t.place.size=hs.length
 zS:Jd t.place
 WB:∀i,i<t.place.size->g t.place i<=t.mask
 Ip:∃j,3<=j/\t.mask=2 ^ j-1
 room:t.place.size<=t.mask
 Vx:∀i h,hs[i]?=ν h->∃n,cN t.mask h n=g t.place i/\∀k,k<n->sH t (cN t.mask h k)
def least {p:Nat->Prop}[DecidablePred p]:∀n,p n->∃m,m<=n/\p m/\∀k,k<m->¬ p k:=by
 intro n
 induction n using Nat.strongRecOn with
 |_ n ih =>
  intro hn
  by_cases h:∃k,k<n/\p k
  ·obtain⟨k,hk,hp⟩:=h;obtain⟨m,h1,h2,h3⟩:=ih k hk hp;exact{m,by lia,h2,h3}
  ·exact{n,ZG _,hn,λk hk hp=>h {(k),hk,hp}}
instance (t:SetTable):DecidablePred (sH t):=λx=>decidable_of_iff (∃i,i<t.place.size/\g t.place i=x) Iff.rfl
def WF.hole {t:SetTable}{hs:List Int}(w:WF t hs):∃x,x<=t.mask/\¬ sH t x:=by
 refine abn λTU=>?_;have all:∀x,x<=t.mask->sH t x:=λx hx=>abn λq=>TU {(x),hx,q};have up:∀x,x<=t.mask->∃i,i<t.place.size/\g t.place i=x/\x<=i:=by
  intro x
  induction x with
  |zero =>
   intro hx;obtain⟨i,h1,h2⟩:=all 0 hx;exact{i,h1,h2,ZW _}
  |succ x ih =>
   intro hx;obtain⟨i,h1,h2,h3⟩:=ih (by lia)
   obtain⟨i',h4,h5⟩:=all (x+1) hx;refine{i',h4,h5,?_};rcases aa2 i i' with q|q
   ·lia
   ·rcases aa2 i' i with q2|q2
    ·have:=w.zS i' i q2 h1;lia
    ·obtain rfl:i=i':=by lia
     lia
 obtain⟨i,h1,h2,h3⟩:=up t.mask (ZG _);have:=w.room;lia
def WF.first {t:SetTable}{hs:List Int}(w:WF t hs)(h:Int):∃n,n<10*turns t.mask/\¬ sH t (cN t.mask h n)/\∀k,k<n->sH t (cN t.mask h k):=by
 obtain⟨x,hx,hf⟩:=w.hole;obtain⟨j,_,hj⟩:=w.Ip;have Dx:x<2 ^ j:=by have:0<2 ^ j:=Nat.pow_pos (by decide);lia
 obtain⟨n,h1,h2⟩:=YO j h Dx;rw[<- hj]at h1 h2;obtain⟨m,g1,g2,g3⟩:=least (p:=λn=>¬ sH t (cN t.mask h n)) n (by rw[h2];exact hf)
 exact{m,by lia,g2,λk hk=>abn λq=>g3 k hk q}
theorem ki (m:Nat)(h:Int):∀n,(gn m h n).dummy=ξ
 |0=>rfl
 |n+1=>by
  show (dC m (gn m h n)).dummy=ξ;unfold dC advance
  split
  ·exact ki m h n
  ·exact ki m h n
theorem tM {t:SetTable}{hs:List Int}(w:WF t hs)(ha:Nat->Int)(h:Int){N:Nat}(hN:¬ sH t (cN t.mask h N))(hO:∀k,k<N->sH t (cN t.mask h k)):∀(d n f:Nat),n+d=N->d<f ->
  (probe.go t ha h f (gn t.mask h n)=ν (.empty (cN t.mask h N) ξ)/\∀k,n<=k->k<N->∀i,i<t.place.size->g t.place i=cN t.mask h k->ha i≠h) \/
  ∃m i,n<=m/\m<N/\i<t.place.size/\g t.place i=cN t.mask h m/\ha i=h/\probe.go t ha h f (gn t.mask h n)=ν (.candidate (cN t.mask h m) i (gn t.mask h (m+1)))/\∀k,n<=k->k<m->∀i,i<t.place.size->g t.place i=cN t.mask h k->ha i≠h
 |0,n,f,e,hf=>by
  obtain rfl:n=N:=by lia
  obtain⟨f,rfl⟩:∃f',f=f'+1:={f-1,by lia}
  refine .inl {?_,λk h1 h2=>by lia}
  unfold probe.go;rw[show t.slot (gn t.mask h n).j=.empty from zL w.zS w.MM hN]
  dsimp only;rw[ki];rfl
 |d+1,n,f,e,hf=>by
  obtain⟨f,rfl⟩:∃f',f=f'+1:={f-1,by lia}
  obtain⟨i,hi,hg⟩:=hO n (by lia)
  have ME:t.slot (gn t.mask h n).j=.live i:=by
   show t.slot (cN t.mask h n)=.live i;rw[<- hg];exact p_ w.zS hi
  by_cases hh:ha i=h
  ·refine .inr {n,i,ZG _,by lia,hi,hg,hh,?_,λk h1 h2=>by lia}
   unfold probe.go;rw[ME];dsimp only;rw[χ (by rw[hh];exact beq_self_eq_true _)]
   rfl
  ·have st:probe.go t ha h (f+1) (gn t.mask h n)=probe.go t ha h f (gn t.mask h (n+1)):=by
    conv=>lhs;unfold probe.go
    rw[ME];dsimp only;rw[ω (by simpa using hh)]
    rfl
   rw[st];have here:∀i',i'<t.place.size->g t.place i'=cN t.mask h n->ha i'≠h:=λi' h1 h2=>by
    rw[w.zS.inj h1 hi (h2.trans hg.symm)];exact hh
   rcases tM w ha h hN hO d (n+1) f (by lia) (by lia)with⟨q1,q2⟩|⟨m,i',q1,q2,q3,q4,q5,q6,q7⟩
   ·refine .inl {q1,λk h1 h2=>?_}
    by_cases hk:k=n
    ·subst hk;exact here
    ·exact q2 k (by lia) h2
   ·refine .inr {m,i',by lia,q2,q3,q4,q5,q6,λk h1 h2=>?_}
    by_cases hk:k=n
    ·subst hk;exact here
    ·exact q7 k (by lia) h2
def nZ {α:Type}(xs:Array α)(p:Nat)(x:α):(insertAt xs p x).toList=xs.toList.take p++x::xs.toList.drop p:=by
 unfold insertAt;rw[abe,abA,Array.toList_extract,Array.toList_extract,acY,acY,aaS];simp[abk]
def Dw {α:Type}{xs:Array α}{p:Nat}{x:α}(h:p<=xs.size):(insertAt xs p x).size=xs.size+1:=by
 rw[<- ZX,nZ,aad,ZZ,aai,aci,ZX];lia
def dZ {xs:Array Nat}{p x:Nat}(h:p<=xs.size)(k:Nat):g (insertAt xs p x) k=if k<p then g xs k else if k=p then x else g xs (k-1):=by
 have e:∀(ys:Array Nat) (k:Nat),g ys k=(ys.toList[k]?).getD 0:=λys k=>by rw[g,Z_,Z9]
 rw[e,e,e,nZ]
 by_cases h1:k<p
 ·rw[χ h1,abd (by rw[aai,ZX];lia),aco h1]
 ·rw[ω h1,aaY (by rw[aai];lia),aai,ZX,show min p xs.size=p by lia]
  by_cases h2:k=p
  ·rw[χ h2,h2,acN];rfl
  ·rw[ω h2,show k-p=k-p-1+1 by lia,acu,acV,show p+(k-p-1)=k-1 by lia]
def WF.put {t:SetTable}{hs:List Int}(w:WF t hs){h:Int}{N:Nat}(hb:cN t.mask h N<=t.mask)(hN:¬ sH t (cN t.mask h N))(hO:∀k,k<N->sH t (cN t.mask h k))(hr:t.place.size+1<=t.mask):
  WF (t.put (cN t.mask h N)).1 (hs.take (t.put (cN t.mask h N)).2++h::hs.drop (t.put (cN t.mask h N)).2)/\(t.put (cN t.mask h N)).2<=t.place.size:=by
 obtain⟨b1,b2,b3⟩:=fX w.zS (cN t.mask h N);have hp:(t.put (cN t.mask h N)).2=below t.place (cN t.mask h N):=rfl;rw[hp];generalize hx:cN t.mask h N=x at *
 generalize hq:below t.place x=p at *
 have e:(t.put x).1={t with place:=insertAt t.place p x}:=by
  unfold SetTable.put;dsimp only;rw[w.MM,hq];unfold has;simp
 have ne:∀k,p<=k->k<t.place.size->x<g t.place k:=λk h1 h2=>by
  have:=b3 k h1 h2;rcases aa2 x (g t.place k)with q|q
  ·exact q
  ·exact Η {k,h2,by lia} hN
 have Rr:(insertAt t.place p x).size=t.place.size+1:=Dw b1;have VI:∀y,sH t y->sH {t with place:=insertAt t.place p x} y:=by
  rintro y ⟨i,h1,h2⟩
  by_cases hi:i<p
  ·exact{i,by show i<(insertAt t.place p x).size;lia,by show g (insertAt t.place p x) i=y;rw[dZ b1,χ hi];exact h2}
  ·exact{i+1,by show i+1<(insertAt t.place p x).size;lia,by show g (insertAt t.place p x) (i+1)=y;rw[dZ b1,ω (by lia),ω (by lia)];exact h2}
 rw[e];refine{{w.MM,?_,?_,?_,w.Ip,?_,?_},b1}
 ·show (insertAt t.place p x).size=_;rw[Rr,aad,ZZ,aai,aci,<- w.sz];lia
 ·intro i j aG hj;have hj:j<t.place.size+1:=by rw[<- Rr];exact hj
  show g (insertAt t.place p x) i<g (insertAt t.place p x) j;rw[dZ b1,dZ b1]
  by_cases h1:i<p
  ·rw[χ h1]
   by_cases h2:j<p
   ·rw[χ h2];exact w.zS i j aG (by lia)
   ·rw[ω h2]
    by_cases h3:j=p
    ·rw[χ h3];exact b2 i h1
    ·rw[ω h3];exact w.zS i (j-1) (by lia) (by lia)
  ·rw[ω h1,ω (show ¬ j<p by lia)]
   by_cases h3:i=p
   ·rw[χ h3,ω (show ¬ j=p by lia)];exact ne _ (by lia) (by lia)
   ·rw[ω h3,ω (show ¬ j=p by lia)];exact w.zS (i-1) (j-1) (by lia) (by lia)
 ·intro i hi;have hi:i<t.place.size+1:=by rw[<- Rr];exact hi
  show g (insertAt t.place p x) i<=t.mask;rw[dZ b1]
  split
  ·exact w.WB i (by lia)
  ·split
   ·exact hb
   ·exact w.WB _ (by lia)
 ·show (insertAt t.place p x).size<=t.mask;lia
 ·intro i h' gj;show ∃n,cN t.mask h' n=g (insertAt t.place p x) i/\_;have old:∀i h',hs[i]?=ν h'->∃n,cN t.mask h' n=g t.place i/\∀k,k<n->sH {t with place:=insertAt t.place p x} (cN t.mask h' k):=λi h' q=>by
   obtain⟨n,h1,h2⟩:=w.Vx i h' q;exact{n,h1,λk hk=>VI _ (h2 k hk)}
  have hpl:p<=hs.length:=by rw[<- w.sz];exact b1
  by_cases h1:i<p
  ·rw[abd (by rw[aai];lia),aco h1]at gj
   rw[dZ b1,χ h1];exact old i h' gj
  ·rw[aaY (by rw[aai];lia),aai,show min p hs.length=p by lia]at gj
   rw[dZ b1,ω h1]
   by_cases h2:i=p
   ·rw[h2,acN]at gj;rw[χ h2];obtain rfl:h=h':=aao gj;exact{N,hx,λk hk=>VI _ (hO k hk)}
   ·rw[show i-p=i-p-1+1 by lia,acu,acV,show p+(i-p-1)=i-1 by lia]at gj
    rw[ω h2];exact old (i-1) h' gj
def g9 {m i:Nat}(h:i<=m):i<=runEnd m i/\runEnd m i<=m:=by
 unfold runEnd
 split <;> lia
theorem Co (m:Nat)(h:Int):∀n,(gn m h n).j+(gn m h n).more<=m
 |0=>by
  show bits h % (m+1)+(runEnd m (bits h % (m+1))-bits h % (m+1))<=m;have hl:bits h % (m+1)<=m:=Nat.le_of_lt_succ (acT _ (Nat.succ_pos _));have:=g9 hl;lia
 |n+1=>by
  have ih:=Co m h n;show (dC m (gn m h n)).j+(dC m (gn m h n)).more<=m;unfold dC advance
  split
  ·show (gn m h n).j+1+((gn m h n).more-1)<=m;lia
  ·show (leap m (gn m h n).i (gn m h n).perturb).1+(runEnd m (leap m (gn m h n).i (gn m h n).perturb).1-(leap m (gn m h n).i (gn m h n).perturb).1)<=m;have hl:(leap m (gn m h n).i (gn m h n).perturb).1<=m:=Nat.le_of_lt_succ (acT _ (Nat.succ_pos _));have:=g9 hl;lia
def l_ (m:Nat)(h:Int)(n:Nat):cN m h n<=m:=by
 have:=Co m h n;unfold cN;lia
abbrev Ow:=Array (Option Nat)
def f7 (o:Ow)(j:Nat):Bool:=(o.getD j (ν 0)).isNone
theorem qG {m:Nat}{o:Ow}(h:Int):∀(f b n:Nat) (j:Nat),gn m h n=MR m (lp m h b)->layClean.free m o f (lp m h b).1 (lp m h b).2=ν j->∃N,n<=N/\cN m h N=j/\f7 o j=ζ/\∀k,n<=k->k<N->f7 o (cN m h k)=η
 |0,b,n,j,_,e=>by cases e
 |f+1,b,n,j,hb,e=>by
  unfold layClean.free at e;have SS:∀d,d<=runEnd m (lp m h b).1-(lp m h b).1->cN m h (n+d)=(lp m h b).1+d:=λd hd=>by
   unfold cN;rw[wY m h _ n hb d hd]
  have hl:(lp m h b).1<=m:=by
   have:=l_ m h n;unfold cN at this;rw[hb]at this;exact this
  have hr:=g9 hl;cases hf:(ZK (runEnd m (lp m h b).1+1-(lp m h b).1)).find? (λk=>(o.getD ((lp m h b).1+k) (ν 0)).isNone)with
  |some k =>
   rw[hf]at e;dsimp only at e;obtain⟨h1,h2,h3⟩:=List.find?_range_eq_some.mp hf;have h2:=aas.mp h2;refine{n+k,by lia,?_,?_,λx g1 g2=>?_}
   ·rw[SS k (by lia)]
    exact aao e
   ·rw[<- aao e];exact h1
   ·have:=h3 (x-n) (by lia)
    rw[show x=n+(x-n) by lia,SS (x-n) (by lia)]
    unfold f7;simpa using this
  |none =>
   rw[hf]at e;dsimp only at e;have h3:=List.find?_range_eq_none.mp hf;obtain⟨N,q1,q2,q3,q4⟩:=qG h f (b+1) (n+(runEnd m (lp m h b).1-(lp m h b).1)+1) j (vm m h _ n hb) e;refine{N,by lia,q2,q3,λx g1 g2=>?_}
   by_cases hx:n+(runEnd m (lp m h b).1-(lp m h b).1)+1<=x
   ·exact q4 x hx g2
   ·have:=h3 (x-n) (by lia)
    rw[show x=n+(x-n) by lia,SS (x-n) (by lia)]
    unfold f7;simpa using this
theorem qH {m:Nat}{o:Ow}(h:Int):∀(f b:Nat),layClean.free m o f (lp m h b).1 (lp m h b).2=ξ->∀d,d<f->(lp m h (b+d)).1<=m->f7 o (lp m h (b+d)).1=η
 |0,b,_,d,hd,_=>by lia
 |f+1,b,e,d,hd,hl=>by
  unfold layClean.free at e;cases hf:(ZK (runEnd m (lp m h b).1+1-(lp m h b).1)).find? (λk=>(o.getD ((lp m h b).1+k) (ν 0)).isNone)with
  |some k =>
   rw[hf]at e;cases e
  |none =>
   rw[hf]at e;dsimp only at e;cases d with
   |zero =>
    have:=List.find?_range_eq_none.mp hf 0 (by have:=g9 hl;rw[Nat.add_zero]at this;lia)
    unfold f7;simpa using this
   |succ d =>
    have:=qH h f (b+1) e d (by lia) (by rw[show b+1+d=b+(d+1) by lia];exact hl)
    rw[show b+1+d=b+(d+1) by lia]at this
    exact this
def KQ (j:Nat)(h:Int){t:Nat}(ht:t<2 ^ j):∃k,k<turns (2 ^ j-1)/\(lp (2 ^ j-1) h k).1=t:=by
 obtain⟨k,hk,e⟩:=lift j (lp (2 ^ j-1) h 13).1 t;refine{13+k,by unfold turns;lia,?_}
 rw[Iq,e,Nat.mod_eq_of_lt ht]
def ow (o:Ow)(j:Nat):Option Nat:=o.getD j ξ
theorem eP {α:Type}{f f':Nat->Option α}:∀(l:List Nat),(∀k∈l,f' k=f k)->l.filterMap f'=l.filterMap f
 |[],_=>rfl
 |x::l,h=>by
  rw[aaU,aaU,h x ZO,eP l λk hk=>h k (ZP _ hk)]
def uO {α:Type}{f f':Nat->Option α}(l:List Nat)(h:∀k∈l,f' k=f k):l.filterMap f'=l.filterMap f:=eP l h
theorem uM {α:Type}(f f':Nat->Option α)(j:Nat)(v:α)(h1:f j=ξ)(h2:f' j=ν v)(h3:∀k,k≠j->f' k=f k):∀N,j<N->((ZK N).filterMap f').Perm (v::(ZK N).filterMap f)
 |0,h=>by lia
 |N+1,h=>by
  rw[acH,List.filterMap_append,List.filterMap_append]
  by_cases e:j=N
  ·subst e;have e1:(ZK j).filterMap f'=(ZK j).filterMap f:=by
    exact eP _ λk hk=>h3 k (aak (aas.mp hk))
   rw[e1,aaU,h2,aaU,h1,List.filterMap_nil,List.filterMap_nil];show ((ZK j).filterMap f++[v]).Perm (v::((ZK j).filterMap f++[]));rw[aaw];exact List.perm_append_comm
  ·have ih:=uM f f' j v h1 h2 h3 N (by lia)
   have e2:[N].filterMap f'=[N].filterMap f:=eP _ λk hk=>by
    rw[ZJ.mp hk];exact h3 N (λz=>e z.symm)
   rw[e2];exact ih.append_right _
theorem uP {α:Type}(f:Nat->Option α):∀N,(∀k,k<N->(f k).isSome=ζ)->((ZK N).filterMap f).length=N
 |0,_=>rfl
 |N+1,h=>by
  rw[acH,List.filterMap_append,aad,uP f N λk hk=>h k (by lia)]
  have:=h N (by lia)
  cases e:f N with
  |none=>rw[e]at this;cases this
  |some x=>rw[aaU,e];rfl
structure Ld (m:Nat)(hs:Array Int)(o:Ow)(k:Nat):Prop where
 sz:o.size=m+1
 Sa:((ZK (m+1)).filterMap (ow o)).Perm (ZK k)
 way:∀j a,ow o j=ν a->a<k/\∃n,cN m (hs.getD a 0) n=j/\∀x,x<n->f7 o (cN m (hs.getD a 0) x)=η
def nG {o:Ow}{j:Nat}(h:j<o.size):f7 o j=ζ↔ow o j=ξ:=by
 unfold f7 ow;rw[Z_,Z_,getElem?_pos o j h];show (o[j]).isNone=ζ↔o[j]=ξ;exact Option.isNone_iff_eq_none
def Ld.next {j0:Nat}{hs:Array Int}{o:Ow}{k:Nat}(L:Ld (2 ^ j0-1) hs o k)(hk:k<=2 ^ j0-1)(h:Int)(hh:hs.getD k 0=h):
  ∃j,layClean.free (2 ^ j0-1) o (turns (2 ^ j0-1)) (bits h % (2 ^ j0-1+1)) (bits h)=ν j/\Ld (2 ^ j0-1) hs (o.setIfInBounds j (ν k)) (k+1):=by
 have hP:0<2 ^ j0:=Nat.pow_pos (by decide)
 generalize hm:2 ^ j0-1=m at *
 obtain⟨x,hx,X6⟩:∃x,x<=m/\ow o x=ξ:=by
  refine abn λTU=>?_;have:=uP (ow o) (m+1) λx hx=>by
   cases e:ow o x with
   |none=>exact Η {x,by lia,e} TU
   |some _=>rfl
  rw[L.Sa.length_eq,Z7]at this;lia
 cases hf:layClean.free m o (turns m) (bits h % (m+1)) (bits h)with
 |none =>
  exfalso
  obtain⟨c,hc,he⟩:=KQ j0 h (t:=x) (by lia)
  rw[hm]at hc he;have:=qH (m:=m) (o:=o) h (turns m) 0 hf c hc (by rw[abj,he];exact hx)
  rw[abj,he]at this;have q:=(nG (o:=o) (j:=x) (by rw[L.sz];lia)).mpr X6
  rw[q]at this;cases this
 |some j =>
  refine{j,rfl,?_};obtain⟨N,_,q2,q3,q4⟩:=qG (m:=m) (o:=o) h (turns m) 0 0 j rfl hf;have hj:j<=m:=by rw[<- q2];exact l_ m h N
  have Ud:j<o.size:=by rw[L.sz];lia
  have Pg:ow o j=ξ:=(nG Ud).mp q3;have same:∀i,i≠j->ow (o.setIfInBounds j (ν k)) i=ow o i:=λi hi=>by
   unfold ow;rw[Z_,Z_,Array.getElem?_setIfInBounds_ne (λz=>hi z.symm)]
  have here:ow (o.setIfInBounds j (ν k)) j=ν k:=by
   unfold ow;rw[Z_,Array.getElem?_setIfInBounds_self_of_lt Ud];rfl
  have shut:∀i,f7 o i=η->f7 (o.setIfInBounds j (ν k)) i=η:=λi hi=>by
   unfold f7 at *
   rw[Z_]at *
   by_cases e:i=j
   ·subst e;rw[Array.getElem?_setIfInBounds_self_of_lt Ud];rfl
   ·rw[Array.getElem?_setIfInBounds_ne (λz=>e z.symm)];exact hi
  refine{by rw[ac8];exact L.sz,?_,λi a QH=>?_}
  ·refine(uM (ow o) _ j k Pg here same (m+1) (by lia)).trans ?_
   refine(L.Sa.cons k).trans ?_;rw[acH];exact(List.perm_append_singleton k _).symm
  ·by_cases e:i=j
   ·subst e;rw[here]at QH;obtain rfl:=aao QH;refine{ade _,N,by rw[hh];exact q2,λx hx=>shut _ ?_}
    rw[hh];exact q4 x (ZW _) hx
   ·rw[same i e]at QH;obtain⟨g1,n,g2,g3⟩:=L.way i a QH;exact{by lia,n,g2,λx hx=>shut _ (g3 x hx)}
theorem oR {j0:Nat}{hs:Array Int}(hk:hs.size<=2 ^ j0-1):∀(l:List Int) (k:Nat) (o:Ow),hs.toList.drop k=l->k+l.length=hs.size->Ld (2 ^ j0-1) hs o k ->
  ∃o',(l.foldl (λ(acc:Option (Ow×Nat)) h=>do
   let (owner,k) <- acc
   let j <- layClean.free (2 ^ j0-1) owner (turns (2 ^ j0-1)) (bits h % (2 ^ j0-1+1)) (bits h)
   pure (owner.setIfInBounds j (ν k),k+1)) (ν (o,k)))=ν (o',hs.size)/\Ld (2 ^ j0-1) hs o' hs.size
 |[],k,o,e,z,L=>by
  obtain rfl:k=hs.size:=z;exact{(o),rfl,L}
 |h::l,k,o,e,z,L=>by
  rw[ZZ]at z;have d3:k<hs.toList.length:=by rw[ZX];lia
  rw[aaL d3]at e;injection e with e1 e2
  have hh:hs.getD k 0=h:=by
   rw[Z_,<- Z9,ZU d3,e1];rfl
  obtain⟨j,q1,q2⟩:=L.next (by lia) h hh
  rw[acr];show ∃o',(l.foldl _ (do
   let j <- layClean.free (2 ^ j0-1) o (turns (2 ^ j0-1)) (bits h % (2 ^ j0-1+1)) (bits h)
   pure (o.setIfInBounds j (ν k),k+1)))=_/\_
  rw[q1];exact oR hk l (k+1) _ e2 (by lia) q2
def Ld.start (m:Nat)(hs:Array Int):Ld m hs (Array.replicate (m+1) ξ) 0:=by
 have e:∀j,ow (Array.replicate (m+1) ξ) j=ξ:=λj=>by
  unfold ow;rw[Z_,Array.getElem?_replicate]
  split <;> rfl
 refine{Array.size_replicate,?_,λj a h=>by rw[e]at h;cases h}
 rw[eP (f:=λ_=>(ξ:Option Nat)) _ λk _=>e k];have:∀l:List Nat,l.filterMap (λ_=>(ξ:Option Nat))=[]:=λl=>by
  induction l with
  |nil=>rfl
  |cons x l ih=>rw[aaU];exact ih
 rw[this];exact .refl _
def GY {j0:Nat}{hs:Array Int}(h3:3<=j0)(hk:hs.size<=2 ^ j0-1)(finger moves:Nat)(led plain:Bool):
  ∃t order,laid (2 ^ j0-1) finger moves led plain hs=ν (t,order)/\t.mask=2 ^ j0-1/\t.led=led/\t.plain=plain/\t.moves=moves/\order.toList.Perm (ZK hs.size)/\WF t (order.toList.map λa=>hs.getD a 0)/\t.place.size=hs.size:=by
 obtain⟨o,e1,L⟩:=oR hk hs.toList 0 _ rfl (by rw[abj,ZX]) (Ld.start _ hs)
 have e2:layClean (2 ^ j0-1) hs=ν o:=by
  unfold layClean;rw[<- Array.foldl_toList];exact Ι (Option.map (·.1)) e1
 generalize hm:2 ^ j0-1=m at *
 have Of:∀(l:List Nat),((l.filterMap λj=>(o.getD j ξ).map (j,·)).map (·.2))=l.filterMap (ow o):=λl=>by
  rw[List.map_filterMap];refine uO l λj _=>?_;rw[Option.map_map];show ((o.getD j ξ).map λa=>a)=_;rw[Option.map_id'];rfl
 generalize Pj:((ZK (m+1)).filterMap λj=>(o.getD j ξ).map (j,·))=live at *
 have pw:live.Pairwise (λx y=>x.1<y.1):=by
  rw[<- Pj,List.pairwise_filterMap];refine List.pairwise_lt_range.imp λ{a b} LQ x hx y hy=>?_;obtain⟨_,_,rfl⟩:=ZR.mp hx;obtain⟨_,_,rfl⟩:=ZR.mp hy;exact LQ
 have mem:∀x∈live,x.1<m+1/\ow o x.1=ν x.2:=λx hx=>by
  rw[<- Pj]at hx;obtain⟨j,hj,e⟩:=acU.mp hx;obtain⟨a,ha,rfl⟩:=ZR.mp e;exact{aas.mp hj,ha}
 have ord:(live.map (·.2)).Perm (ZK hs.size):=by
  rw[<- Pj,Of];exact L.Sa
 have len:live.length=hs.size:=by
  have:=ord.length_eq;rw[ZE,Z7]at this;exact this
 have gp:∀i (hi:i<live.length),g (live.map (·.1)).toArray i=(live[i]).1:=λi hi=>by
  rw[g,Z_,List.getElem?_toArray,ZS,ZU hi];rfl
 refine{{mask:=m,place:=(live.map (·.1)).toArray,dummies:=#[],finger,led,moves,plain},(live.map (·.2)).toArray,?_,rfl,rfl,rfl,rfl,ord,?_,?_}
 ·unfold laid;rw[e2,<- Pj];rfl
 ·have R9:(live.map (·.1)).toArray.size=live.length:=by rw[aaf,ZE]
  refine{rfl,?_,?_,?_,{(j0),h3,hm.symm},?_,?_}
  ·show (live.map (·.1)).toArray.size=_;rw[R9,ZE,ZE]
  ·intro i j aG hj;have hj:j<live.length:=by rw[<- R9];exact hj
   show g (live.map (·.1)).toArray i<g (live.map (·.1)).toArray j;rw[gp i (by lia),gp j hj]
   exact acX.mp pw i j (by lia) hj aG
  ·intro i hi;have hi:i<live.length:=by rw[<- R9];exact hi
   show g (live.map (·.1)).toArray i<=m;rw[gp i hi];have:=(mem _ (abV hi)).1;lia
  ·show (live.map (·.1)).toArray.size<=m;lia
  ·intro i h hi;show ∃n,cN m h n=g (live.map (·.1)).toArray i/\_;rw[ZS,ZS]at hi;have He:i<live.length:=by
    rcases aa2 i live.length with q|q
    ·exact q
    ·rw[aaE q]at hi;cases hi
   rw[ZU He]at hi;have hi:hs.getD (live[i]).2 0=h:=aao hi;obtain⟨_,n,g2,g3⟩:=L.way _ _ (mem _ (abV He)).2;rw[hi]at g2 g3;refine{n,by rw[gp i He];exact g2,λk hk=>?_}
   have hv:=l_ m h k;have X1:cN m h k<o.size:=by rw[L.sz];lia
   have:=g3 k hk;cases eo:ow o (cN m h k)with
   |none =>
    rw[(nG X1).mpr eo]at this;cases this
   |some a =>
    have DJ:(cN m h k,a)∈live:=by
     rw[<- Pj];exact acU.mpr {cN m h k,aas.mpr (by lia),by show (ow o (cN m h k)).map _=_;rw[eo];rfl}
    obtain⟨i',gj,e'⟩:=List.getElem_of_mem DJ;exact{i',by show i'<(live.map (·.1)).toArray.size;lia,by show g (live.map (·.1)).toArray i'=_;rw[gp i' gj,e']}
 ·show (live.map (·.1)).toArray.size=hs.size;rw[aaf,ZE];exact len
end ST
namespace TS
open PySem PyProof.Rows
def cF:Bool->ZQ->Array ZQ->Nat->Nat->Nat->StateT aan Sem (Option Nat):=sortPriv% PySem.Builtin.gallop
def jD:Array ZQ->Array ZQ->StateT aan Sem (Array ZQ):=sortPriv% PySem.Builtin.mergeLo
def jE:Array ZQ->Array ZQ->StateT aan Sem (Array ZQ):=sortPriv% PySem.Builtin.mergeHi
abbrev cH (st:aan)(g:Nat):aan:=SortSt.mk' (kindOf st) (aar st) (aah st) g (acw st)
def xf (left:Bool)(key:ZQ)(arr:Array ZQ)(base n hint:Nat):cF left key arr base n hint=(do
  let ask:=λ(at_:Nat)=>(do
   let z <- elem' arr (base+at_)
   if left then lt' z key else return (<- lt' key z).map (!·):StateT aan Sem (Option Bool))
  let mut before:=0
  let mut step:=1
  let mut u:=0
  let mut v:=0
  let ν up <- ask hint|return ξ
  if up then
   let room:=n-hint
   for _ in [0:n] do
    if step >= room then break
    let ν on <- ask (hint+step)|return ξ
    if !on then break
    before:=step
    step:=2*step+1
   u:=hint+before+1
   v:=hint+min step room
  else
   let room:=hint+1
   for _ in [0:n] do
    if step >= room then break
    let ν hit <- ask (hint-step)|return ξ
    if hit then break
    before:=step
    step:=2*step+1
   u:=hint+1-min step room
   v:=hint-before
  for _ in [0:n] do
   if u >= v then break
   let mid:=u+(v-u) / 2
   let ν on <- ask mid|return ξ
   if on then u:=mid+1 else v:=mid
  return ν v):=rfl
def ud (p q:Array ZQ):jD p q=(do
  rule "list.sort.merge-lo"
  let all:=p.size+q.size
  let rest:=λ(to:Array ZQ) (i j:Nat)=>to++p.extract i p.size++q.extract j q.size
  let tail:=λ(to:Array ZQ) (i j:Nat)=>to++q.extract j q.size++p.extract i p.size
  let mut to:Array ZQ:=#[<- elem' q 0]
  let mut i:=0
  let mut j:=1
  if j==q.size then return rest to i j
  if i+1==p.size then return tail to i j
  let mut mg:=gallopOf (<- get)
  for _ in [0:all] do
   let mut m:=0
   let mut n:=0
   for _ in [0:all] do
    let ν Ju <- lt' (<- elem' q j) (<- elem' p i)|return rest to i j
    if Ju then
     to:=to.push (<- elem' q j);j:=j+1;n:=n+1;m:=0
     if j==q.size then return rest to i j
     if n >= mg then break
    else
     to:=to.push (<- elem' p i);i:=i+1;m:=m+1;n:=0
     if i+1==p.size then return tail to i j
     if m >= mg then break
   rule "list.sort.gallop"
   mg:=mg+1
   for _ in [0:all] do
    if mg>1 then mg:=mg-1
    modify λst=>cH st mg
    let ν k <- cF η (<- elem' q j) p i (p.size-i) 0|return rest to i j
    m:=k
    if k>0 then
     to:=to++p.extract i (i+k);i:=i+k
     if i+1==p.size then return tail to i j
     if i==p.size then return rest to i j
    to:=to.push (<- elem' q j);j:=j+1
    if j==q.size then return rest to i j
    let ν k <- cF ζ (<- elem' p i) q j (q.size-j) 0|return rest to i j
    n:=k
    if k>0 then
     to:=to++q.extract j (j+k);j:=j+k
     if j==q.size then return rest to i j
    to:=to.push (<- elem' p i);i:=i+1
    if i+1==p.size then return tail to i j
    if m<7&&n<7 then break
   mg:=mg+1
   modify λst=>cH st mg
  unsupported "internal:list.sort.merge-bound"):=rfl
def uf (p q:Array ZQ):jE p q=(do
  rule "list.sort.merge-hi"
  let all:=p.size+q.size
  let rest:=λ(to:Array ZQ) (i j:Nat)=>p.extract 0 i++q.extract 0 j++to.reverse
  let tail:=λ(to:Array ZQ) (i j:Nat)=>q.extract 0 j++p.extract 0 i++to.reverse
  let mut i:=p.size-1
  let mut j:=q.size
  let mut to:Array ZQ:=#[<- elem' p i]
  if i==0 then return rest to i j
  if j==1 then return tail to i j
  let mut mg:=gallopOf (<- get)
  for _ in [0:all] do
   let mut m:=0
   let mut n:=0
   for _ in [0:all] do
    let ν Ju <- lt' (<- elem' q (j-1)) (<- elem' p (i-1))|return rest to i j
    if Ju then
     i:=i-1;to:=to.push (<- elem' p i);m:=m+1;n:=0
     if i==0 then return rest to i j
     if m >= mg then break
    else
     j:=j-1;to:=to.push (<- elem' q j);n:=n+1;m:=0
     if j==1 then return tail to i j
     if n >= mg then break
   rule "list.sort.gallop"
   mg:=mg+1
   for _ in [0:all] do
    if mg>1 then mg:=mg-1
    modify λst=>cH st mg
    let ν h <- cF η (<- elem' q (j-1)) p 0 i (i-1)|return rest to i j
    let k:=i-h
    m:=k
    if k>0 then
     to:=to++(p.extract h i).reverse;i:=h
     if i==0 then return rest to i j
    j:=j-1;to:=to.push (<- elem' q j)
    if j==1 then return tail to i j
    let ν h <- cF ζ (<- elem' p (i-1)) q 0 j (j-1)|return rest to i j
    let k:=j-h
    n:=k
    if k>0 then
     to:=to++(q.extract h j).reverse;j:=h
     if j==1 then return tail to i j
     if j==0 then return rest to i j
    i:=i-1;to:=to.push (<- elem' p i)
    if i==0 then return rest to i j
    if m<7&&n<7 then break
   mg:=mg+1
   modify λst=>cH st mg
  unsupported "internal:list.sort.merge-bound"):=rfl
def uh (i:Nat):mergeAt' i=(do
  let st <- get
  let (ν (sa,na,pw),ν (sb,nb,_)):=((aah st)[i]?,(aah st)[i+1]?)|unsupported "internal:list.sort.pending"
  set (acy st (((aah st).setIfInBounds i (sa,na+nb,pw)).eraseIdxIfInBounds (i+1)))
  let ν k <- cF η (<- elem' (aar st) sb) (aar st) sa na 0|return η
  let (sa,na):=(sa+k,na-k)
  if na==0 then return ζ
  let ν nb <- cF ζ (<- elem' (aar st) (sa+na-1)) (aar st) sb nb (nb-1)|return η
  if nb==0 then return ζ
  let x:=(aar st).extract sa sb
  let y:=(aar st).extract sb (sb+nb)
  let got <- if na<=nb then jD x y else jE x y
  modify λs2=>aa8 s2 (got.toList.zipIdx.foldl (λa (p,j)=>a.setIfInBounds (sa+j) p) (aar s2))
  return (acw (<- get)).isNone):=rfl
structure cz (c:ZQ->ZQ->Bool):Prop where
 P5:∀x y,c x y=ζ->c y x=η
 VL:∀x y z,c x z=ζ->c x y=ζ\/c y z=ζ
def le (c:ZQ->ZQ->Bool)(x y:ZQ):Prop:=c y x=η
section
variable {c:ZQ->ZQ->Bool}
def cz.refl (O:cz c)(x:ZQ):le c x x:=by
 cases h:c x x
 ·exact h
 ·exact O.P5 _ _ h
def cz.trans (O:cz c){x y z:ZQ}(h1:le c x y)(h2:le c y z):le c x z:=by
 cases h:c z x
 ·exact h
 ·rcases O.VL _ y _ h with q|q
  ·exact Η (q.symm.trans h2) (by simp)
  ·exact Η (q.symm.trans h1) (by simp)
def cz.of_lt (O:cz c){x y:ZQ}(h:c x y=ζ):le c x y:=O.P5 _ _ h
def el (a:Array ZQ)(i:Nat):ZQ:=a.getD i (Value.none,Value.none)
def jS {a:Array ZQ}{i:Nat}(h:i<a.size):a[i]?=ν (el a i):=by
 rw[getElem?_pos a i h,el,Z_,getElem?_pos a i h];rfl
def yX {a:Array ZQ}{i:Nat}{x:ZQ}(h:a[i]?=ν x):el a i=x:=by
 rw[el,Z_,h];rfl
def eQ {a b:Array ZQ}{i j:Nat}(h:a[i]?=b[j]?):el a i=el b j:=by
 rw[el,el,Z_,Z_,h]
def SR (c:ZQ->ZQ->Bool)(a:Array ZQ)(lo hi:Nat):Prop:=∀i j,lo<=i->i<=j->j<hi->le c (el a i) (el a j)
def fk (prog:ZN)(w:Z4)(A:aaJ)(E:ZF->ZH->Prop)(s:ZH)(κ:abU)(c:ZQ->ZQ->Bool)(S:ZQ->Prop):Prop :=
 ∀(x y:ZQ) (st:aan) (Q:Option Bool->aan->Prop),S x->S y->kindOf st=κ->Q (ν (c x y)) st->wpS (Ψ prog w) A E s (lt' x y) Q st
end
section
variable {prog:ZN}{w:Z4}{A:aaJ}{E:ZF->ZH->Prop}{s:ZH}{κ:abU}{c:ZQ->ZQ->Bool}{S:ZQ->Prop}
def aP {a:Array ZQ}{i:Nat}{Q:ZQ->aan->Prop}{st:aan}(h:i<a.size)(q:Q (el a i) st):wpS (Ψ prog w) A E s (elem' a i) Q st:=by
 rw[elem'_eq,jS h];exact Z5 q
def eV (c:ZQ->ZQ->Bool)(left:Bool)(key:ZQ)(a:Array ZQ)(base i:Nat):Bool:=if left=ζ then c (el a (base+i)) key else !c key (el a (base+i))
def HN (O:cz c){left:Bool}{key:ZQ}{a:Array ZQ}{base n i j:Nat}(hs:SR c a base (base+n))(aG:i<=j)(hj:j<n)(h:eV c left key a base j=ζ):eV c left key a base i=ζ:=by
 have hl:=hs (base+i) (base+j) (by lia) (by lia) (by lia)
 unfold eV at *
 cases left with
 |true =>
  rw[χ rfl]at *
  rcases O.VL _ (el a (base+i)) _ h with q|q
  ·exact Η (q.symm.trans hl) (by simp)
  ·exact q
 |false =>
  rw[ω (by simp)]at *
  rw[abQ]at *
  exact O.trans hl h
def jh (L:fk prog w A E s κ c S){left:Bool}{key:ZQ}{a:Array ZQ}{base n i:Nat}{Q:Option Bool->aan->Prop}{st:aan}(hk:kindOf st=κ)(hK:S key)(hA:∀i,i<n->S (el a (base+i)))(hn:base+n<=a.size)(hi:i<n)
  (h:Q (ν (eV c left key a base i)) st):wpS (Ψ prog w) A E s (do
   let z <- elem' a (base+i)
   if left then lt' z key else return (<- lt' key z).map (!·):StateT aan Sem (Option Bool)) Q st:=by
 refine ZV (aP (by lia) ?_)
 unfold eV at h;cases left with
 |true =>
  rw[χ rfl]at *
  exact L _ _ st Q (hA i hi) hK hk h
 |false =>
  rw[ω (by simp)]at *
  exact ZV (L _ _ st _ hK (hA i hi) hk (Z5 h))
def d4 (O:cz c)(L:fk prog w A E s κ c S){left:Bool}{key:ZQ}{a:Array ZQ}{base n hint:Nat}{Q:Option Nat->aan->Prop}{st:aan}(hk:kindOf st=κ)(hK:S key)(hA:∀i,i<n->S (el a (base+i)))(hn:base+n<=a.size)
  (hs:SR c a base (base+n)) (hh:hint<n) (h:∀k,k<=n->(∀i,i<k->eV c left key a base i=ζ)->(∀i,k<=i->i<n->eV c left key a base i=η)->Q (ν k) st) :
  wpS (Ψ prog w) A E s (cF left key a base n hint) Q st:=by
 rw[xf];dsimp only;have up:∀{i j},i<=j->j<n->eV c left key a base j=ζ->eV c left key a base i=ζ:=λh1 h2 h3=>HN O hs h1 h2 h3;refine ZV (jh L hk hK hA hn hh ?_);dsimp only;have dn:∀{i j},i<=j->j<n->eV c left key a base i=η->eV c left key a base j=η:=λ{i j} h1 h2 h3=>by
  cases q:eV c left key a base j
  ·rfl
  ·rw[up h1 h2 q]at h3;exact Η h3 (by simp)
 cases Ff:eV c left key a base hint with
 |true =>
  rw[χ rfl];refine ZV (abt (aaZ (I:=λx r aA=>aA=st/\∃be dC,r=(ξ,be,dC)/\hint+be<n/\be<dC/\x+1<=dC/\eV c left key a base (hint+be)=ζ)
   (Q:=λr aA=>aA=st/\∃be dC,r=(ξ,be,dC)/\hint+be<n/\be<dC/\eV c left key a base (hint+be)=ζ/\(n-hint<=dC\/(hint+dC<n/\eV c left key a base (hint+dC)=η))) ?_ ?_ ?_) ?_)
  ·rintro x r aA _ hx ⟨rfl,be,dC,rfl,h1,h2,h3,h4⟩;dsimp only
   by_cases hr:dC >= n-hint
   ·rw[χ hr];exact Z5 {rfl,be,dC,rfl,h1,h2,h4,.inl hr}
   ·rw[ω hr];refine ZV (jh L hk hK hA hn (by omega) ?_)
    dsimp only;cases hb:eV c left key a base (hint+dC)with
    |true =>
     rw[ω (by simp)]
     exact Z5 {rfl,dC,_,rfl,by omega,by omega,by omega,hb}
    |false =>
     rw[χ (by simp)]
     exact Z5 {rfl,be,dC,rfl,h1,h2,h4,.inr {by omega,hb}}
  ·rintro r aA ⟨rfl,be,dC,rfl,h1,h2,h3,h4⟩;exact{rfl,be,dC,rfl,h1,h2,h4,.inl (by omega)}
  ·exact{rfl,0,1,rfl,by omega,by omega,by omega,Ff}
  rintro r aA ⟨e0,be,dC,rfl,h1,h2,h4,h5⟩;rw[e0];dsimp only;have g1:∀i,i<hint+be+1->eV c left key a base i=ζ:=λi hi=>up (j:=hint+be) (by omega) h1 h4
  have g2:∀i,hint+min dC (n-hint)<=i->i<n->eV c left key a base i=η:=λi hi gj=>by
   rcases h5 with q|⟨q1,q2⟩
   ·omega
   ·exact dn (i:=hint+dC) (by omega) gj q2
  refine ZV (abt (aaZ (I:=λx r aA=>aA=st/\∃u v,r=(ξ,u,v)/\u<=v/\v<=n/\v-u<=n-x/\(∀i,i<u->eV c left key a base i=ζ)/\(∀i,v<=i->i<n->eV c left key a base i=η))
   (Q:=λr aA=>aA=st/\∃v,r=(ξ,v,v)/\v<=n/\(∀i,i<v->eV c left key a base i=ζ)/\(∀i,v<=i->i<n->eV c left key a base i=η)) ?_ ?_ ?_) ?_)
  ·rintro x r aA _ hx ⟨rfl,u,v,rfl,h1,h2,h3,h4,h5⟩;dsimp only
   by_cases OD:u >= v
   ·rw[χ OD];obtain rfl:u=v:=by omega
    exact Z5 {(rfl),u,rfl,h2,h4,h5}
   ·rw[ω OD];refine ZV (jh L hk hK hA hn (by omega) ?_)
    dsimp only;cases hb:eV c left key a base (u+(v-u) / 2)with
    |true =>
     rw[χ rfl];exact Z5 {rfl,_,v,rfl,by omega,h2,by omega,λi hi=>up (j:=u+(v-u) / 2) (by omega) (by omega) hb,h5}
    |false =>
     rw[ω (by simp)]
     exact Z5 {rfl,u,_,rfl,by omega,by omega,by omega,h4,λi hi gj=>dn (i:=u+(v-u) / 2) (by omega) (by omega) hb}
  ·rintro r aA ⟨rfl,u,v,rfl,h1,h2,h3,h4,h5⟩;obtain rfl:u=v:=by omega
   exact{(rfl),u,rfl,h2,h4,h5}
  ·exact{rfl,_,_,rfl,by omega,by omega,by omega,by assumption,by assumption}
  ·rintro r aA ⟨rfl,v,rfl,h2,h4,h5⟩;exact Z5 (h v h2 h4 h5)
 |false =>
  rw[ω (by simp)]
  refine ZV (abt (aaZ (I:=λx r aA=>aA=st/\∃be dC,r=(ξ,be,dC)/\be<=hint/\be<dC/\x+1<=dC/\eV c left key a base (hint-be)=η)
   (Q:=λr aA=>aA=st/\∃be dC,r=(ξ,be,dC)/\be<=hint/\be<dC/\eV c left key a base (hint-be)=η/\(hint+1<=dC\/(dC<=hint/\eV c left key a base (hint-dC)=ζ))) ?_ ?_ ?_) ?_)
  ·rintro x r aA _ hx ⟨rfl,be,dC,rfl,h1,h2,h3,h4⟩;dsimp only
   by_cases hr:dC >= hint+1
   ·rw[χ hr];exact Z5 {rfl,be,dC,rfl,h1,h2,h4,.inl hr}
   ·rw[ω hr];refine ZV (jh L hk hK hA hn (by omega) ?_)
    dsimp only;cases hb:eV c left key a base (hint-dC)with
    |true =>
     rw[χ rfl];exact Z5 {rfl,be,dC,rfl,h1,h2,h4,.inr {by omega,hb}}
    |false =>
     rw[ω (by simp)]
     exact Z5 {rfl,dC,_,rfl,by omega,by omega,by omega,hb}
  ·rintro r aA ⟨rfl,be,dC,rfl,h1,h2,h3,h4⟩;exact{rfl,be,dC,rfl,h1,h2,h4,.inl (by omega)}
  ·exact{rfl,0,1,rfl,by omega,by omega,by omega,Ff}
  rintro r aA ⟨e0,be,dC,rfl,h1,h2,h4,h5⟩;rw[e0];dsimp only;have g1:∀i,i<hint+1-min dC (hint+1)->eV c left key a base i=ζ:=λi hi=>by
   rcases h5 with q|⟨q1,q2⟩
   ·omega
   ·exact up (j:=hint-dC) (by omega) (by omega) q2
  have g2:∀i,hint-be<=i->i<n->eV c left key a base i=η:=λi hi gj=>dn (i:=hint-be) hi gj h4;refine ZV (abt (aaZ (I:=λx r aA=>aA=st/\∃u v,r=(ξ,u,v)/\u<=v/\v<=n/\v-u<=n-x/\(∀i,i<u->eV c left key a base i=ζ)/\(∀i,v<=i->i<n->eV c left key a base i=η))
   (Q:=λr aA=>aA=st/\∃v,r=(ξ,v,v)/\v<=n/\(∀i,i<v->eV c left key a base i=ζ)/\(∀i,v<=i->i<n->eV c left key a base i=η)) ?_ ?_ ?_) ?_)
  ·rintro x r aA _ hx ⟨rfl,u,v,rfl,h1,h2,h3,h4,h5⟩;dsimp only
   by_cases OD:u >= v
   ·rw[χ OD];obtain rfl:u=v:=by omega
    exact Z5 {(rfl),u,rfl,h2,h4,h5}
   ·rw[ω OD];refine ZV (jh L hk hK hA hn (by omega) ?_)
    dsimp only;cases hb:eV c left key a base (u+(v-u) / 2)with
    |true =>
     rw[χ rfl];exact Z5 {rfl,_,v,rfl,by omega,h2,by omega,λi hi=>up (j:=u+(v-u) / 2) (by omega) (by omega) hb,h5}
    |false =>
     rw[ω (by simp)]
     exact Z5 {rfl,u,_,rfl,by omega,by omega,by omega,h4,λi hi gj=>dn (i:=u+(v-u) / 2) (by omega) (by omega) hb}
  ·rintro r aA ⟨rfl,u,v,rfl,h1,h2,h3,h4,h5⟩;obtain rfl:u=v:=by omega
   exact{(rfl),u,rfl,h2,h4,h5}
  ·exact{rfl,_,_,rfl,by omega,by omega,by omega,by assumption,by assumption}
  ·rintro r aA ⟨rfl,v,rfl,h2,h4,h5⟩;exact Z5 (h v h2 h4 h5)
end
section
variable {c:ZQ->ZQ->Bool}{p q:Array ZQ}{t:List ZQ}{i j:Nat}
def xM {a:Array ZQ}{i:Nat}(h:i<a.size):a.toList.take (i+1)=a.toList.take i++[el a i]:=by
 have e:a.toList[i]?=ν (el a i):=by rw[Z9];exact jS h
 rw[List.take_succ,e];rfl
def yY {a:Array ZQ}{i:Nat}(h:i<a.size):a.toList.drop i=el a i::a.toList.drop (i+1):=by
 have hl:i<a.toList.length:=by rw[ZX];exact h
 have e:a.toList[i]=el a i:=by
  have h1:=ZU hl;rw[Z9,jS h]at h1;exact(aao h1).symm
 rw[aaL hl,e]
structure Mg (c:ZQ->ZQ->Bool)(p q:Array ZQ)(t:List ZQ)(i j:Nat):Prop where
 hi:i<=p.size
 hj:j<=q.size
 perm:t.Perm (p.toList.take i++q.toList.take j)
 ir:t.Pairwise (le c)
 ap:∀x∈t,∀k,i<=k->k<p.size->le c x (el p k)
 aq:∀x∈t,∀k,j<=k->k<q.size->le c x (el q k)
def Gd (c:ZQ->ZQ->Bool)(p q:Array ZQ)(t:List ZQ):Prop:=t.Perm (p.toList++q.toList)/\t.Pairwise (le c)
def tj {x:ZQ}(h:t.Pairwise (le c))(hx:∀y∈t,le c y x):(t++[x]).Pairwise (le c):=by
 rw[acD];exact{h,acs _ _,λy hy z hz=>by rw[ZJ.mp hz];exact hx y hy}
def Mg.lE (m:Mg c p q t i j)(hj:j<q.size)(sq:SR c q 0 q.size)(hle:∀k,i<=k->k<p.size->le c (el q j) (el p k)):Mg c p q (t++[el q j]) i (j+1) where
 hi:=m.hi
 hj:=hj
 perm:=by
  rw[xM hj,<- aaS];exact m.perm.append_right _
 ir:=tj m.ir λy hy=>m.aq y hy j (ZG _) hj
 ap:=λx hx k h1 h2=>by
  rcases ZT.mp hx with h|h
  ·exact m.ap x h k h1 h2
  ·rw[ZJ.mp h];exact hle k h1 h2
 aq:=λx hx k h1 h2=>by
  rcases ZT.mp hx with h|h
  ·exact m.aq x h k (by lia) h2
  ·rw[ZJ.mp h];exact sq j k (by lia) (by lia) h2
def Mg.lF (m:Mg c p q t i j)(hi:i<p.size)(sp:SR c p 0 p.size)(hle:∀k,j<=k->k<q.size->le c (el p i) (el q k)):Mg c p q (t++[el p i]) (i+1) j where
 hi:=hi
 hj:=m.hj
 perm:=by
  rw[xM hi];refine(m.perm.append_right _).trans ?_;rw[aaS,aaS];exact List.Perm.append_left _ List.perm_append_comm
 ir:=tj m.ir λy hy=>m.ap y hy i (ZG _) hi
 ap:=λx hx k h1 h2=>by
  rcases ZT.mp hx with h|h
  ·exact m.ap x h k (by lia) h2
  ·rw[ZJ.mp h];exact sp i k (by lia) (by lia) h2
 aq:=λx hx k h1 h2=>by
  rcases ZT.mp hx with h|h
  ·exact m.aq x h k h1 h2
  ·rw[ZJ.mp h];exact hle k h1 h2
def gN {a:Array ZQ}{i k:Nat}(h:i+k<a.size):(a.toList.drop i).take (k+1)=(a.toList.drop i).take k++[el a (i+k)]:=by
 have e:(a.toList.drop i)[k]?=ν (el a (i+k)):=by rw[acV,Z9];exact jS h
 rw[List.take_succ,e];rfl
theorem Mg.jm (m:Mg c p q t i j)(sp:SR c p 0 p.size):∀(k:Nat),i+k<=p.size->(∀x,x<k->∀y,j<=y->y<q.size->le c (el p (i+x)) (el q y))->Mg c p q (t++(p.toList.drop i).take k) (i+k) j
 |0,_,_=>by simpa using m
 |k+1,h,hle=>by
  have m':=Mg.jm m sp k (by lia) λx hx=>hle x (by lia)
  rw[gN (by lia),<- aaS,<- Nat.add_assoc]
  exact m'.lF (by lia) sp (hle k (by lia))
theorem Mg.jl (m:Mg c p q t i j)(sq:SR c q 0 q.size):∀(k:Nat),j+k<=q.size->(∀x,x<k->∀y,i<=y->y<p.size->le c (el q (j+x)) (el p y))->Mg c p q (t++(q.toList.drop j).take k) i (j+k)
 |0,_,_=>by simpa using m
 |k+1,h,hle=>by
  have m':=Mg.jl m sq k (by lia) λx hx=>hle x (by lia)
  rw[gN (by lia),<- aaS,<- Nat.add_assoc]
  exact m'.lE (by lia) sq (hle k (by lia))
def Mg.full (m:Mg c p q t p.size q.size):Gd c p q t:=by
 refine{?_,m.ir};have h:=m.perm;rw[abk (by rw[ZX];lia),abk (by rw[ZX];lia)]at h
 exact h
def cA (a:Array ZQ)(i j:Nat):(a.extract i j).toList=(a.toList.drop i).take (j-i):=by
 rw[Array.toList_extract,acY]
def u5 {a:Array ZQ}{i j:Nat}(h:a.size<=i):(a.toList.drop i).take (j-i)=[]:=by
 rw[abE (by rw[ZX];exact h)]
 simp
def Mg.done {to:Array ZQ}(m:Mg c p q to.toList i j)(sp:SR c p 0 p.size)(sq:SR c q 0 q.size)(h:i=p.size\/j=q.size):Gd c p q (to++p.extract i p.size++q.extract j q.size).toList:=by
 rw[abe,abe,cA,cA];rcases h with rfl|rfl
 ·rw[u5 (ZG _),aaw];have m':=m.jl sq (q.size-j) (by have:=m.hj;lia) λx hx y h1 h2=>by lia
  rw[show j+(q.size-j)=q.size by have:=m.hj;lia]at m'
  exact m'.full
 ·rw[u5 (a:=q) (ZG _),aaw];have m':=m.jm sp (p.size-i) (by have:=m.hi;lia) λx hx y h1 h2=>by lia
  rw[show i+(p.size-i)=p.size by have:=m.hi;lia]at m'
  exact m'.full
def Mg.tail {to:Array ZQ}(O:cz c)(m:Mg c p q to.toList i j)(sp:SR c p 0 p.size)(sq:SR c q 0 q.size)(h:i+1=p.size)(hl:∀y,y<q.size->c (el q y) (el p (p.size-1))=ζ):Gd c p q (to++q.extract j q.size++p.extract i p.size).toList:=by
 rw[abe,abe,cA,cA];have m':=m.jl sq (q.size-j) (by have:=m.hj;lia) λx hx y h1 h2=>by
  rw[show y=p.size-1 by lia]
  exact O.of_lt (hl _ (by lia))
 rw[show j+(q.size-j)=q.size by have:=m.hj;lia]at m'
 have m2:=m'.jm sp (p.size-i) (by have:=m.hi;lia) λx hx y h1 h2=>by lia
 rw[show i+(p.size-i)=p.size by have:=m.hi;lia]at m2
 exact m2.full
def zq (to a:Array ZQ)(i k:Nat):(to++a.extract i (i+k)).toList=to.toList++(a.toList.drop i).take k:=by
 rw[abe,cA,show i+k-i=k by lia]
def Mg.start (O:cz c)(sp:SR c p 0 p.size)(sq:SR c q 0 q.size)(hq:0<q.size)(hp:0<p.size)(h:c (el q 0) (el p 0)=ζ):Mg c p q [el q 0] 0 1:=by
 have m:Mg c p q [] 0 0:={ZW _,ZW _,(by simp),.nil,(λx hx=>by cases hx),(λx hx=>by cases hx)}
 exact m.lE hq sq λk _ hk=>O.trans (O.of_lt h) (sp 0 k (by lia) (by lia) hk)
end
structure lq (st aA:aan):Prop where
 kind:kindOf aA=kindOf st
 arr:aar aA=aar st
 pend:aah aA=aah st
 fail:acw aA=acw st
def lq.refl (st:aan):lq st st:={(rfl),rfl,rfl,rfl}
def lq.IQ {st aA:aan}(e:lq st aA)(g:Nat):lq st (cH aA g):={(e.kind),e.arr,e.pend,e.fail}
abbrev RI:=Array ZQ×Nat×Nat×Nat×Nat
abbrev RG:=Array ZQ×Nat×Nat×Nat×Nat×Nat
abbrev RO:=Array ZQ×Nat×Nat×Nat
noncomputable def SD (p q t:Array ZQ)(i j mg m n:Nat):StateT aan Sem (ForInStep (Option (Array ZQ)×RG)):=do
 let z <- elem' p i
 if (i+1+1==p.size)=ζ then pure (.done (ν (t.push z++q.extract j++p.extract (i+1)),t.push z,i+1,j,mg,m,n))
 else if (decide (m<7)&&decide (n<7))=ζ then pure (.done (ξ,t.push z,i+1,j,mg,m,n)) else pure (.yield (ξ,t.push z,i+1,j,mg,m,n))
noncomputable def SF (p q t:Array ZQ)(i j mg m n:Nat):StateT aan Sem (ForInStep (Option (Array ZQ)×RG)):=do
 let y <- elem' q j
 if (j+1==q.size)=ζ then pure (.done (ν (t.push y++p.extract i++q.extract (j+1)),t.push y,i,j+1,mg,m,n))
 else do
  let x <- elem' p i
  let r <- cF ζ x q (j+1) (q.size-(j+1)) 0
  match r with
  |some k=>if k>0 then (if (j+1+k==q.size)=ζ then pure (.done (ν (t.push y++q.extract (j+1) (j+1+k)++p.extract i++q.extract (j+1+k)),t.push y++q.extract (j+1) (j+1+k),i,j+1+k,mg,m,k))
    else SD p q (t.push y++q.extract (j+1) (j+1+k)) i (j+1+k) mg m k) else SD p q (t.push y) i (j+1) mg m k
  |_=>pure (.done (ν (t.push y++p.extract i++q.extract (j+1)),t.push y,i,j+1,mg,m,n))
noncomputable def Oe (p q t:Array ZQ)(i j mg m n:Nat):StateT aan Sem (ForInStep (Option (Array ZQ)×RG)):=do
 modify λst=>cH st mg
 let y <- elem' q j
 let r <- cF η y p i (p.size-i) 0
 match r with
 |some k=>if k>0 then (if (i+k+1==p.size)=ζ then pure (.done (ν (t++p.extract i (i+k)++q.extract j++p.extract (i+k)),t++p.extract i (i+k),i+k,j,mg,k,n))
   else if (i+k==p.size)=ζ then pure (.done (ν (t++p.extract i (i+k)++p.extract (i+k)++q.extract j),t++p.extract i (i+k),i+k,j,mg,k,n))
   else SF p q (t++p.extract i (i+k)) (i+k) j mg k n) else SF p q t i j mg k n
 |_=>pure (.done (ν (t++p.extract i++q.extract j),t,i,j,mg,m,n))
def XH (p q:Array ZQ)(s:Option (Array ZQ)×RG):StateT aan Sem (ForInStep (Option (Array ZQ)×RG)):=if s.2.2.2.2.1>1 then Oe p q s.2.1 s.2.2.1 s.2.2.2.1 (s.2.2.2.2.1-1) s.2.2.2.2.2.1 s.2.2.2.2.2.2 else Oe p q s.2.1 s.2.2.1 s.2.2.2.1 s.2.2.2.2.1 s.2.2.2.2.2.1 s.2.2.2.2.2.2
noncomputable def Od (p q:Array ZQ)(mg:Nat)(s:Option (Array ZQ)×RI):StateT aan Sem (ForInStep (Option (Array ZQ)×RI)):=do
 let y <- elem' q s.2.2.2.1
 if (s.2.2.2.1+1==q.size)=ζ then pure (.done (ν (s.2.1.push y++p.extract s.2.2.1++q.extract (s.2.2.2.1+1)),s.2.1.push y,s.2.2.1,s.2.2.2.1+1,0,s.2.2.2.2.2+1))
 else if s.2.2.2.2.2+1 >= mg then pure (.done (ξ,s.2.1.push y,s.2.2.1,s.2.2.2.1+1,0,s.2.2.2.2.2+1)) else pure (.yield (ξ,s.2.1.push y,s.2.2.1,s.2.2.2.1+1,0,s.2.2.2.2.2+1))
noncomputable def Oc (p q:Array ZQ)(mg:Nat)(s:Option (Array ZQ)×RI):StateT aan Sem (ForInStep (Option (Array ZQ)×RI)):=do
 let x <- elem' p s.2.2.1
 if (s.2.2.1+1+1==p.size)=ζ then pure (.done (ν (s.2.1.push x++q.extract s.2.2.2.1++p.extract (s.2.2.1+1)),s.2.1.push x,s.2.2.1+1,s.2.2.2.1,s.2.2.2.2.1+1,0))
 else if s.2.2.2.2.1+1 >= mg then pure (.done (ξ,s.2.1.push x,s.2.2.1+1,s.2.2.2.1,s.2.2.2.2.1+1,0)) else pure (.yield (ξ,s.2.1.push x,s.2.2.1+1,s.2.2.2.1,s.2.2.2.2.1+1,0))
noncomputable def SA (p q:Array ZQ)(mg:Nat)(s:Option (Array ZQ)×RI):StateT aan Sem (ForInStep (Option (Array ZQ)×RI)):=do
 let y <- elem' q s.2.2.2.1
 let x <- elem' p s.2.2.1
 let r <- lt' y x
 match r with
 |some Ju=>if Ju=ζ then Od p q mg s else Oc p q mg s
 |_=>pure (.done (ν (s.2.1++p.extract s.2.2.1++q.extract s.2.2.2.1),s.2.1,s.2.2.1,s.2.2.2.1,s.2.2.2.2.1,s.2.2.2.2.2))
noncomputable def VR (p q:Array ZQ)(s:Option (Array ZQ)×RO):StateT aan Sem (ForInStep (Option (Array ZQ)×RO)):=do
 let s1 <- forIn [:p.size+q.size] ((ξ,s.2.1,s.2.2.1,s.2.2.2.1,0,0):Option (Array ZQ)×RI) λ_ r=>SA p q s.2.2.2.2 r
 match s1.1 with
 |some r=>pure (.done (ν r,s1.2.1,s1.2.2.1,s1.2.2.2.1,s.2.2.2.2))
 |none=>do
  liftM (rule "list.sort.gallop")
  let s2 <- forIn [:p.size+q.size] ((ξ,s1.2.1,s1.2.2.1,s1.2.2.2.1,s.2.2.2.2+1,s1.2.2.2.2.1,s1.2.2.2.2.2):Option (Array ZQ)×RG) λ_ r=>XH p q r
  match s2.1 with
  |some r=>pure (.done (ν r,s2.2.1,s2.2.2.1,s2.2.2.2.1,s2.2.2.2.2.1))
  |none=>do
   modify λst=>cH st (s2.2.2.2.2.1+1)
   pure (.yield (ξ,s2.2.1,s2.2.2.1,s2.2.2.2.1,s2.2.2.2.2.1+1))
theorem ue (p q:Array ZQ):jD p q=(do
  liftM (rule "list.sort.merge-lo")
  let y <- elem' q 0
  if (1==q.size)=ζ then pure (#[y]++p.extract 0++q.extract 1)
  else if (0+1==p.size)=ζ then pure (#[y]++q.extract 1++p.extract 0)
  else do
   let st <- get
   let s <- forIn [:p.size+q.size] ((ξ,#[y],0,1,gallopOf st):Option (Array ZQ)×RO) λ_ s=>VR p q s
   match s.1 with
   |some r=>pure r
   |none=>liftM (unsupported "internal:list.sort.merge-bound" : Sem (Array ZQ))):=by
 rw[ud];dsimp only;refine Ι (bind _) (funext λ_=>?_);refine Ι (bind _) (funext λy=>?_);refine Ι (ite _ _) (Ι (ite _ _) ?_);refine Ι (bind _) (funext λy=>?_);refine congr (Ι bind (Ι _ (funext λ_=>funext λs=>?_))) (funext λs=>?_)
 ·refine congr (Ι bind (Ι _ (funext λ_=>funext λs=>?_))) (funext λs=>?_)
  ·rfl
  ·cases s.1
   ·refine Ι (bind _) (funext λ_=>?_);refine congr (Ι bind (Ι _ (funext λ_=>funext λs=>?_))) (funext λs=>?_)
    ·rfl
    ·cases s.1 <;> rfl
   ·rfl
 ·cases s.1 <;> rfl
section
variable {prog:ZN}{w:Z4}{A:aaJ}{E:ZF->ZH->Prop}{s:ZH}{κ:abU}{c:ZQ->ZQ->Bool}{S:ZQ->Prop}{p q:Array ZQ}
def Bw {st:aan}{Q:ForInStep (Option (Array ZQ)×RG)->aan->Prop}{t:Array ZQ}{i j mg m n:Nat}(O:cz c)(sp:SR c p 0 p.size)(sq:SR c q 0 q.size)(hl:∀y,y<q.size->c (el q y) (el p (p.size-1))=ζ)(m3:Mg c p q t.toList i j)(hi:i+1<p.size)(g3:∀y,j<=y->y<q.size->le c (el p i) (el q y))
  (hd:∀out r,Gd c p q out.toList->Q (.done (ν out,r)) st) (hn:∀t' m n,Mg c p q t'.toList (i+1) j->i+1+1<p.size->Q (.done (ξ,t',i+1,j,mg,m,n)) st/\Q (.yield (ξ,t',i+1,j,mg,m,n)) st):wpS (Ψ prog w) A E s (SD p q t i j mg m n) Q st:=by
 refine ZV (aP (by lia) ?_)
 have m4:Mg c p q (t.push (el p i)).toList (i+1) j:=by
  rw[abA];exact m3.lF (by lia) sp g3
 by_cases e5:(i+1+1==p.size)=ζ
 ·rw[χ e5];exact Z5 (hd _ _ (m4.tail O sp sq (by simpa using e5) hl))
 rw[ω e5];have h5:i+1+1≠p.size:=by simpa using e5
 obtain⟨h6,h7⟩:=hn (t.push (el p i)) m n m4 (by lia)
 split
 ·exact Z5 h6
 ·exact Z5 h7
def Bx {st:aan}{Q:ForInStep (Option (Array ZQ)×RG)->aan->Prop}{t:Array ZQ}{i j mg m n:Nat}(O:cz c)(L:fk prog w A E s κ c S)(hk:kindOf st=κ)(Sp:∀i,i<p.size->S (el p i))(Sq:∀i,i<q.size->S (el q i))(sp:SR c p 0 p.size)(sq:SR c q 0 q.size)(hl:∀y,y<q.size->c (el q y) (el p (p.size-1))=ζ)(m1:Mg c p q t.toList i j)(hi:i+1<p.size)(hj:j<q.size)(g1:∀y,i<=y->y<p.size->le c (el q j) (el p y))
  (hd:∀out r,Gd c p q out.toList->Q (.done (ν out,r)) st) (hn:∀t' j' m n,Mg c p q t'.toList (i+1) j'->i+1+1<p.size->j<j'->j'<q.size->Q (.done (ξ,t',i+1,j',mg,m,n)) st/\Q (.yield (ξ,t',i+1,j',mg,m,n)) st):wpS (Ψ prog w) A E s (SF p q t i j mg m n) Q st:=by
 refine ZV (aP hj ?_);have m2:Mg c p q (t.push (el q j)).toList i (j+1):=by
  rw[abA];exact m1.lE hj sq g1
 by_cases e3:(j+1==q.size)=ζ
 ·rw[χ e3];exact Z5 (hd _ _ (m2.done sp sq (.inr (by simpa using e3))))
 rw[ω e3];have h3:j+1≠q.size:=by simpa using e3
 refine ZV (aP (by lia) (ZV (d4 O L hk (Sp _ (by lia)) (λx hx=>Sq _ (by lia)) (by lia) (λa b h1 h2 h3=>sq a b (by lia) h2 (by lia)) (by lia) λk k1 k2 k3=>?_)))
 have g3:∀y,j+1+k<=y->y<q.size->le c (el p i) (el q y):=λy h1 h2=>by
  have:=k3 (y-(j+1)) (by lia) (by lia)
  unfold eV at this;rw[χ rfl,show j+1+(y-(j+1))=y by lia]at this
  exact this
 dsimp only
 by_cases DO:k>0
 ·rw[χ DO];have m3:Mg c p q (t.push (el q j)++q.extract (j+1) (j+1+k)).toList i (j+1+k):=by
   rw[zq];exact m2.jl sq k (by lia) λx hx y h1 h2=>O.trans (O.of_lt (show c (el q (j+1+x)) (el p i)=ζ from k2 x hx)) (sp _ y (by lia) h1 h2)
  by_cases e4:(j+1+k==q.size)=ζ
  ·rw[χ e4];exact Z5 (hd _ _ (m3.done sp sq (.inr (by simpa using e4))))
  rw[ω e4];have h4:j+1+k≠q.size:=by simpa using e4
  exact Bw O sp sq hl m3 hi g3 hd λt' m n h1 h2=>hn t' _ m n h1 h2 (by lia) (by lia)
 ·rw[ω DO];exact Bw O sp sq hl m2 hi (λy h1 h2=>g3 y (by lia) h2) hd λt' m n h1 h2=>hn t' _ m n h1 h2 (by lia) (by lia)
def Jp {st:aan}{Q:ForInStep (Option (Array ZQ)×RG)->aan->Prop}{t:Array ZQ}{i j mg m n:Nat}(O:cz c)(L:fk prog w A E s κ c S)(hk:kindOf st=κ)(Sp:∀i,i<p.size->S (el p i))(Sq:∀i,i<q.size->S (el q i))(sp:SR c p 0 p.size)(sq:SR c q 0 q.size)(hl:∀y,y<q.size->c (el q y) (el p (p.size-1))=ζ)(m0:Mg c p q t.toList i j)(hi:i+1<p.size)(hj:j<q.size)
  (hd:∀out r,Gd c p q out.toList->Q (.done (ν out,r)) (cH st mg)) (hn:∀t' i' j' m n,Mg c p q t'.toList i' j'->i'+1<p.size->j'<q.size->i+j<i'+j'->Q (.done (ξ,t',i',j',mg,m,n)) (cH st mg)/\Q (.yield (ξ,t',i',j',mg,m,n)) (cH st mg)):wpS (Ψ prog w) A E s (Oe p q t i j mg m n) Q st:=by
 refine ZV (aca (ZV (aP hj (ZV (d4 O L hk (Sq _ hj) (λx hx=>Sp _ (by lia)) (by lia) (λa b h1 h2 h3=>sp a b (by lia) h2 (by lia)) (by lia) λk k1 k2 k3=>?_)))))
 have g0:∀x,x<k->le c (el p (i+x)) (el q j):=λx hx=>by
  have:=k2 x hx;unfold eV at this;rw[ω (by simp),abQ]at this
  exact this
 have g1:∀y,i+k<=y->y<p.size->le c (el q j) (el p y):=λy h1 h2=>by
  have:=k3 (y-i) (by lia) (by lia)
  unfold eV at this;rw[ω (by simp),Bool.not_eq_false',show i+(y-i)=y by lia]at this
  exact O.of_lt this
 have Ub:i+k<p.size:=by
  rcases aa2 (i+k) p.size with d3|Zt
  ·exact d3
  ·have h1:=g0 (p.size-1-i) (by lia)
   rw[show i+(p.size-1-i)=p.size-1 by lia]at h1
   exact Η ((hl j hj).symm.trans h1) (by simp)
 dsimp only
 by_cases DO:k>0
 ·rw[χ DO];have m1:Mg c p q (t++p.extract i (i+k)).toList (i+k) j:=by
   rw[zq];exact m0.jm sp k (by lia) λx hx y h1 h2=>O.trans (g0 x hx) (sq j y (by lia) h1 h2)
  by_cases e1:(i+k+1==p.size)=ζ
  ·rw[χ e1];exact Z5 (hd _ _ (m1.tail O sp sq (by simpa using e1) hl))
  rw[ω e1];have Hi:i+k+1≠p.size:=by simpa using e1
  rw[ω (by simp;lia)]
  exact Bx O L hk Sp Sq sp sq hl m1 (by lia) hj g1 hd λt' j' m n h1 h2 h3 h4=>hn t' _ j' m n h1 h2 h4 (by lia)
 ·rw[ω DO];exact Bx O L hk Sp Sq sp sq hl m0 hi hj (λy h1 h2=>g1 y (by lia) h2) hd λt' j' m n h1 h2 h3 h4=>hn t' _ j' m n h1 h2 h4 (by lia)
def Jo {st:aan}{Q:ForInStep (Option (Array ZQ)×RI)->aan->Prop}{t:Array ZQ}{i j mg ma na:Nat}(O:cz c)(L:fk prog w A E s κ c S)(hk:kindOf st=κ)(Sp:∀i,i<p.size->S (el p i))(Sq:∀i,i<q.size->S (el q i))(sp:SR c p 0 p.size)(sq:SR c q 0 q.size)(hl:∀y,y<q.size->c (el q y) (el p (p.size-1))=ζ)(m:Mg c p q t.toList i j)(hi:i+1<p.size)(hj:j<q.size)
  (hd:∀out r,Gd c p q out.toList->Q (.done (ν out,r)) st) (hn:∀t' i' j' m n,Mg c p q t'.toList i' j'->i'+1<p.size->j'<q.size->i+j<i'+j'->Q (.done (ξ,t',i',j',m,n)) st/\Q (.yield (ξ,t',i',j',m,n)) st):wpS (Ψ prog w) A E s (SA p q mg (ξ,t,i,j,ma,na)) Q st:=by
 unfold SA Od Oc;dsimp only;refine ZV (aP hj (ZV (aP (by lia) (ZV (L _ _ st _ (Sq _ hj) (Sp _ (by lia)) hk ?_)))))
 dsimp only;cases hc:c (el q j) (el p i)with
 |true =>
  rw[χ rfl];refine ZV (aP hj ?_);have m1:Mg c p q (t.push (el q j)).toList i (j+1):=by
   rw[abA];exact m.lE hj sq λk h1 h2=>O.trans (O.of_lt hc) (sp i k (by lia) h1 h2)
  by_cases e3:(j+1==q.size)=ζ
  ·rw[χ e3];exact Z5 (hd _ _ (m1.done sp sq (.inr (by simpa using e3))))
  rw[ω e3];have h3:j+1≠q.size:=by simpa using e3
  obtain⟨h6,h7⟩:=hn _ _ _ 0 (na+1) m1 hi (by lia) (by lia)
  split
  ·exact Z5 h6
  ·exact Z5 h7
 |false =>
  rw[ω (by simp)]
  refine ZV (aP (by lia) ?_)
  have m1:Mg c p q (t.push (el p i)).toList (i+1) j:=by
   rw[abA];exact m.lF (by lia) sp λk h1 h2=>O.trans (show le c (el p i) (el q j) from hc) (sq j k (by lia) h1 h2)
  by_cases e3:(i+1+1==p.size)=ζ
  ·rw[χ e3];exact Z5 (hd _ _ (m1.tail O sp sq (by simpa using e3) hl))
  rw[ω e3];have h3:i+1+1≠p.size:=by simpa using e3
  obtain⟨h6,h7⟩:=hn _ _ _ (ma+1) 0 m1 (by lia) hj (by lia)
  split
  ·exact Z5 h6
  ·exact Z5 h7
def vQ (O:cz c)(L:fk prog w A E s κ c S){Q:Array ZQ->aan->Prop}{st:aan}(hk:kindOf st=κ)(Sp:∀i,i<p.size->S (el p i))(Sq:∀i,i<q.size->S (el q i))(sp:SR c p 0 p.size)(sq:SR c q 0 q.size)
  (hp:0<p.size) (hq:0<q.size) (hf:c (el q 0) (el p 0)=ζ) (hl:∀y,y<q.size->c (el q y) (el p (p.size-1))=ζ) (h:∀to aA,lq st aA->Gd c p q to.toList->Q to aA) :
  wpS (Ψ prog w) A E s (jD p q) Q st:=by
 rw[ue];refine ZV (ac9 (abY {rfl,?_}));refine ZV (aP hq ?_);have m0:Mg c p q (#[el q 0]:Array ZQ).toList 0 1:=Mg.start O sp sq hq hp hf
 by_cases h1:(1==q.size)=ζ
 ·rw[χ h1];exact Z5 (h _ st (lq.refl st) (m0.done sp sq (.inr (by simpa using h1))))
 rw[ω h1]
 by_cases h2:(0+1==p.size)=ζ
 ·rw[χ h2];exact Z5 (h _ st (lq.refl st) (m0.tail O sp sq (by simpa using h2) hl))
 rw[ω h2];refine ZV (acM ?_);refine ZV (abt (aaZ
  (I:=λx r aA=>lq st aA/\∃to i j mg,r=(ξ,to,i,j,mg)/\Mg c p q to.toList i j/\i+1<p.size/\j<q.size/\x<i+j)
  (Q:=λr aA=>lq st aA/\∃out r',r=(ν out,r')/\Gd c p q out.toList) ?_ ?_ ?_) ?_)
 ·rintro x r aA _ hx ⟨e,to,i,j,mg,rfl,m,hi,hj,hb⟩;unfold VR;dsimp only;refine ZV (abt (aaZ
   (I:=λy r aA=>lq st aA/\∃to i j m n,r=(ξ,to,i,j,m,n)/\Mg c p q to.toList i j/\i+1<p.size/\j<q.size/\x+min y 1<i+j)
   (Q:=λr aA=>lq st aA/\((∃out r',r=(ν out,r')/\Gd c p q out.toList)\/∃to i j m n,r=(ξ,to,i,j,m,n)/\Mg c p q to.toList i j/\i+1<p.size/\j<q.size/\x+1<i+j)) ?_ ?_ ?_) ?_)
  ·rintro y r fZ _ hy ⟨e2,to,i,j,ma,na,rfl,m,hi,hj,hb⟩;exact Jo O L (e2.kind.trans hk) Sp Sq sp sq hl m hi hj (λout r h=>{e2,.inl {_,_,rfl,h}}) λt' i' j' m n h1 h2 h3 h4=>{{e2,.inr {_,_,_,_,_,rfl,h1,h2,h3,by lia}},{e2,_,_,_,_,_,rfl,h1,h2,h3,by lia}}
  ·rintro r fZ ⟨e2,to,i,j,ma,na,rfl,m,hi,hj,hb⟩;exact{e2,.inr {_,_,_,_,_,rfl,m,hi,hj,by lia}}
  ·exact{e,_,_,_,_,_,rfl,m,hi,hj,by lia}
  rintro r fZ ⟨e2,⟨out,r',rfl,g⟩|⟨to,i,j,ma,na,rfl,m,hi,hj,hb⟩⟩
  ·exact Z5 {e2,_,_,rfl,g}
  dsimp only;refine ZV (ac9 (abY {rfl,?_}));refine ZV (abt (aaZ
   (I:=λy r aA=>lq st aA/\∃to i j mg m n,r=(ξ,to,i,j,mg,m,n)/\Mg c p q to.toList i j/\i+1<p.size/\j<q.size/\x+1<i+j)
   (Q:=λr aA=>lq st aA/\((∃out r',r=(ν out,r')/\Gd c p q out.toList)\/∃to i j mg m n,r=(ξ,to,i,j,mg,m,n)/\Mg c p q to.toList i j/\i+1<p.size/\j<q.size/\x+1<i+j)) ?_ ?_ ?_) ?_)
  ·rintro y r fZ _ hy ⟨e2,to,i,j,mg,ma,na,rfl,m,hi,hj,hb⟩;show wpS (Ψ prog w) A E s (if mg>1 then Oe p q to i j (mg-1) ma na else Oe p q to i j mg ma na) _ fZ
   split <;> exact Jp O L (e2.kind.trans hk) Sp Sq sp sq hl m hi hj (λout r h=>{e2.IQ _,.inl {_,_,rfl,h}}) λt' i' j' m n h1 h2 h3 h4=>{{e2.IQ _,.inr {_,_,_,_,_,_,rfl,h1,h2,h3,by lia}},{e2.IQ _,_,_,_,_,_,_,rfl,h1,h2,h3,by lia}}
  ·rintro r fZ ⟨e2,to,i,j,mg,ma,na,rfl,m,hi,hj,hb⟩;exact{e2,.inr {_,_,_,_,_,_,rfl,m,hi,hj,hb}}
  ·exact{e2,_,_,_,_,_,_,rfl,m,hi,hj,hb}
  rintro r fZ ⟨e2,⟨out,r',rfl,g⟩|⟨to,i,j,mg,ma,na,rfl,m,hi,hj,hb⟩⟩
  ·exact Z5 {e2,_,_,rfl,g}
  dsimp only;refine ZV (aca (Z5 {e2.IQ _,_,_,_,_,rfl,m,hi,hj,by lia}))
 ·rintro r aA ⟨e,to,i,j,mg,rfl,m,hi,hj,hb⟩
  exfalso
  rw[show max 0 (p.size+q.size)=p.size+q.size by lia]at hb
  lia
 ·exact{lq.refl st,_,_,_,_,rfl,m0,by simp at h2;lia,by simp at h1;lia,by lia}
 ·rintro r aA ⟨e,out,r',rfl,g⟩;exact Z5 (h _ aA e g)
end
section
variable {c:ZQ->ZQ->Bool}{p q:Array ZQ}{t:List ZQ}{i j:Nat}
structure Mh (c:ZQ->ZQ->Bool)(p q:Array ZQ)(t:List ZQ)(i j:Nat):Prop where
 hi:i<=p.size
 hj:j<=q.size
 perm:t.Perm (p.toList.drop i++q.toList.drop j)
 ir:t.Pairwise (le c)
 ap:∀x∈t,∀k,k<i->le c (el p k) x
 aq:∀x∈t,∀k,k<j->le c (el q k) x
def qO {a:Array ZQ}{i:Nat}(h0:0<i)(h:i<=a.size):a.toList.drop (i-1)=el a (i-1)::a.toList.drop i:=by
 rw[yY (by lia),show i-1+1=i by lia]
def Mh.lF (m:Mh c p q t i j)(h0:0<i)(sp:SR c p 0 p.size)(hle:∀k,k<j->le c (el q k) (el p (i-1))):Mh c p q (el p (i-1)::t) (i-1) j where
 hi:=by have:=m.hi;lia
 hj:=m.hj
 perm:=by
  rw[qO h0 m.hi];exact m.perm.cons _
 ir:=aaG.mpr {λx hx=>m.ap x hx _ (by lia),m.ir}
 ap:=λx hx k hk=>by
  rcases ZI.mp hx with rfl|h
  ·exact sp k (i-1) (by lia) (by lia) (by have:=m.hi;lia)
  ·exact m.ap x h k (by lia)
 aq:=λx hx k hk=>by
  rcases ZI.mp hx with rfl|h
  ·exact hle k hk
  ·exact m.aq x h k hk
def Mh.lE (m:Mh c p q t i j)(h0:0<j)(sq:SR c q 0 q.size)(hle:∀k,k<i->le c (el p k) (el q (j-1))):Mh c p q (el q (j-1)::t) i (j-1) where
 hi:=m.hi
 hj:=by have:=m.hj;lia
 perm:=by
  rw[qO h0 m.hj];exact(m.perm.cons _).trans adg.symm
 ir:=aaG.mpr {λx hx=>m.aq x hx _ (by lia),m.ir}
 ap:=λx hx k hk=>by
  rcases ZI.mp hx with rfl|h
  ·exact hle k hk
  ·exact m.ap x h k hk
 aq:=λx hx k hk=>by
  rcases ZI.mp hx with rfl|h
  ·exact sq k (j-1) (by lia) (by lia) (by have:=m.hj;lia)
  ·exact m.aq x h k (by lia)
def pX {a:Array ZQ}{i k:Nat}(h0:k<i)(h:i<=a.size):(a.toList.drop (i-(k+1))).take (k+1)=el a (i-(k+1))::(a.toList.drop (i-k)).take k:=by
 rw[yY (by lia),show i-(k+1)+1=i-k by lia,List.take_succ_cons]
theorem Mh.BL (m:Mh c p q t i j)(sp:SR c p 0 p.size):∀(k:Nat),k<=i->(∀x,i-k<=x->x<i->∀y,y<j->le c (el q y) (el p x))->Mh c p q ((p.toList.drop (i-k)).take k++t) (i-k) j
 |0,_,_=>by simpa using m
 |k+1,h,hle=>by
  have m':=Mh.BL m sp k (by lia) λx h1 h2=>hle x (by lia) h2
  rw[pX (by lia) m.hi,adh]
  exact m'.lF (by lia) sp λy hy=>hle _ (by lia) (by lia) y hy
theorem Mh.BK (m:Mh c p q t i j)(sq:SR c q 0 q.size):∀(k:Nat),k<=j->(∀x,j-k<=x->x<j->∀y,y<i->le c (el p y) (el q x))->Mh c p q ((q.toList.drop (j-k)).take k++t) i (j-k)
 |0,_,_=>by simpa using m
 |k+1,h,hle=>by
  have m':=Mh.BK m sq k (by lia) λx h1 h2=>hle x (by lia) h2
  rw[pX (by lia) m.hj,adh]
  exact m'.lE (by lia) sq λy hy=>hle _ (by lia) (by lia) y hy
def Mh.jm (m:Mh c p q t i j)(sp:SR c p 0 p.size){h:Nat}(hh:h<=i)(hle:∀x,h<=x->x<i->∀y,y<j->le c (el q y) (el p x)):Mh c p q ((p.toList.drop h).take (i-h)++t) h j:=by
 have m':=m.BL sp (i-h) (by lia) λx h1 h2=>hle x (by lia) h2
 rw[show i-(i-h)=h by lia]at m'
 exact m'
def Mh.jl (m:Mh c p q t i j)(sq:SR c q 0 q.size){h:Nat}(hh:h<=j)(hle:∀x,h<=x->x<j->∀y,y<i->le c (el p y) (el q x)):Mh c p q ((q.toList.drop h).take (j-h)++t) i h:=by
 have m':=m.BK sq (j-h) (by lia) λx h1 h2=>hle x (by lia) h2
 rw[show j-(j-h)=h by lia]at m'
 exact m'
def Mh.full (m:Mh c p q t 0 0):Gd c p q t:={(m.perm),m.ir}
def NM (a b to:Array ZQ)(i j:Nat):(a.extract 0 i++b.extract 0 j++to.reverse).toList=(a.toList.drop 0).take (i-0)++((b.toList.drop 0).take (j-0)++to.toList.reverse):=by
 rw[abe,abe,cA,cA,Array.toList_reverse,aaS]
def Mh.done {to:Array ZQ}(m:Mh c p q to.toList.reverse i j)(sp:SR c p 0 p.size)(sq:SR c q 0 q.size)(h:i=0\/j=0):Gd c p q (p.extract 0 i++q.extract 0 j++to.reverse).toList:=by
 rw[NM];rcases h with rfl|rfl
 ·have m':=m.jl sq (h:=0) (ZW _) λx _ _ y hy=>by lia
  exact(m'.jm sp (h:=0) (ZW _) λx _ hx=>by lia).full
 ·have m':=m.jl sq (h:=0) (ZW _) λx _ hx=>by lia
  exact(m'.jm sp (h:=0) (ZW _) λx _ hx y hy=>by lia).full
def Mh.tail {to:Array ZQ}(O:cz c)(m:Mh c p q to.toList.reverse i j)(sp:SR c p 0 p.size)(sq:SR c q 0 q.size)(h:j=1)(hf:c (el q 0) (el p 0)=ζ):Gd c p q (q.extract 0 j++p.extract 0 i++to.reverse).toList:=by
 rw[NM];subst h;have m':=m.jm sp (h:=0) (ZW _) λx _ hx y hy=>by
  obtain rfl:y=0:=by lia
  exact O.trans (O.of_lt hf) (sp 0 x (by lia) (by lia) (by have:=m.hi;lia))
 exact(m'.jl sq (h:=0) (ZW _) λx _ _ y hy=>by lia).full
def jr (to:Array ZQ)(x:ZQ):(to.push x).toList.reverse=x::to.toList.reverse:=by
 rw[abA,List.reverse_append];rfl
def zm (to a:Array ZQ)(h i:Nat):(to++(a.extract h i).reverse).toList.reverse=(a.toList.drop h).take (i-h)++to.toList.reverse:=by
 rw[abe,List.reverse_append,Array.toList_reverse,List.reverse_reverse,cA]
def Mh.start (sp:SR c p 0 p.size)(O:cz c)(hp:0<p.size)(hl:∀y,y<q.size->c (el q y) (el p (p.size-1))=ζ):Mh c p q [el p (p.size-1)] (p.size-1) q.size:=by
 have m:Mh c p q [] p.size q.size:={ZG _,ZG _,by rw[abE (by simp),abE (by simp)];exact .refl _,.nil,(λx hx=>by cases hx),(λx hx=>by cases hx)}
 exact m.lF hp sp λk hk=>O.of_lt (hl k hk)
end
abbrev RJ:=Nat×Nat×Array ZQ×Nat×Nat
abbrev RH:=Nat×Nat×Array ZQ×Nat×Nat×Nat
abbrev RP:=Nat×Nat×Array ZQ×Nat
noncomputable def Uk (p q t:Array ZQ)(i j mg m n:Nat):StateT aan Sem (ForInStep (Option (Array ZQ)×RH)):=do
 let z <- elem' p (i-1)
 if (i-1==0)=ζ then pure (.done (ν (p.extract 0 (i-1)++q.extract 0 j++(t.push z).reverse),i-1,j,t.push z,mg,m,n))
 else if (decide (m<7)&&decide (n<7))=ζ then pure (.done (ξ,i-1,j,t.push z,mg,m,n)) else pure (.yield (ξ,i-1,j,t.push z,mg,m,n))
noncomputable def Ul (p q t:Array ZQ)(i j mg m n:Nat):StateT aan Sem (ForInStep (Option (Array ZQ)×RH)):=do
 let y <- elem' q (j-1)
 if (j-1==1)=ζ then pure (.done (ν (q.extract 0 (j-1)++p.extract 0 i++(t.push y).reverse),i,j-1,t.push y,mg,m,n))
 else do
  let x <- elem' p (i-1)
  let r <- cF ζ x q 0 (j-1) (j-1-1)
  match r with
  |some h=>if j-1-h>0 then (if (h==1)=ζ then pure (.done (ν (q.extract 0 h++p.extract 0 i++(t.push y++(q.extract h (j-1)).reverse).reverse),i,h,t.push y++(q.extract h (j-1)).reverse,mg,m,j-1-h))
    else if (h==0)=ζ then pure (.done (ν (p.extract 0 i++q.extract 0 h++(t.push y++(q.extract h (j-1)).reverse).reverse),i,h,t.push y++(q.extract h (j-1)).reverse,mg,m,j-1-h))
    else Uk p q (t.push y++(q.extract h (j-1)).reverse) i h mg m (j-1-h)) else Uk p q (t.push y) i (j-1) mg m (j-1-h)
  |_=>pure (.done (ν (p.extract 0 i++q.extract 0 (j-1)++(t.push y).reverse),i,j-1,t.push y,mg,m,n))
noncomputable def Pn (p q t:Array ZQ)(i j mg m n:Nat):StateT aan Sem (ForInStep (Option (Array ZQ)×RH)):=do
 modify λst=>cH st mg
 let y <- elem' q (j-1)
 let r <- cF η y p 0 i (i-1)
 match r with
 |some h=>if i-h>0 then (if (h==0)=ζ then pure (.done (ν (p.extract 0 h++q.extract 0 j++(t++(p.extract h i).reverse).reverse),h,j,t++(p.extract h i).reverse,mg,i-h,n))
   else Ul p q (t++(p.extract h i).reverse) h j mg (i-h) n) else Ul p q t i j mg (i-h) n
 |_=>pure (.done (ν (p.extract 0 i++q.extract 0 j++t.reverse),i,j,t,mg,m,n))
def Yl (p q:Array ZQ)(s:Option (Array ZQ)×RH):StateT aan Sem (ForInStep (Option (Array ZQ)×RH)):=if s.2.2.2.2.1>1 then Pn p q s.2.2.2.1 s.2.1 s.2.2.1 (s.2.2.2.2.1-1) s.2.2.2.2.2.1 s.2.2.2.2.2.2 else Pn p q s.2.2.2.1 s.2.1 s.2.2.1 s.2.2.2.2.1 s.2.2.2.2.2.1 s.2.2.2.2.2.2
noncomputable def Uj (p q t:Array ZQ)(mg i j m:Nat):StateT aan Sem (ForInStep (Option (Array ZQ)×RJ)):=do
 let x <- elem' p (i-1)
 if (i-1==0)=ζ then pure (.done (ν (p.extract 0 (i-1)++q.extract 0 j++(t.push x).reverse),i-1,j,t.push x,m+1,0))
 else if m+1 >= mg then pure (.done (ξ,i-1,j,t.push x,m+1,0)) else pure (.yield (ξ,i-1,j,t.push x,m+1,0))
noncomputable def Ui (p q t:Array ZQ)(mg i j n:Nat):StateT aan Sem (ForInStep (Option (Array ZQ)×RJ)):=do
 let y <- elem' q (j-1)
 if (j-1==1)=ζ then pure (.done (ν (q.extract 0 (j-1)++p.extract 0 i++(t.push y).reverse),i,j-1,t.push y,0,n+1))
 else if n+1 >= mg then pure (.done (ξ,i,j-1,t.push y,0,n+1)) else pure (.yield (ξ,i,j-1,t.push y,0,n+1))
noncomputable def Wi (p q t:Array ZQ)(mg i j m n:Nat):StateT aan Sem (ForInStep (Option (Array ZQ)×RJ)):=do
 let y <- elem' q (j-1)
 let x <- elem' p (i-1)
 let r <- lt' y x
 match r with
 |some Ju=>if Ju=ζ then Uj p q t mg i j m else Ui p q t mg i j n
 |_=>pure (.done (ν (p.extract 0 i++q.extract 0 j++t.reverse),i,j,t,m,n))
noncomputable def Wh (p q:Array ZQ)(s:Option (Array ZQ)×RP):StateT aan Sem (ForInStep (Option (Array ZQ)×RP)):=do
 let s1 <- forIn [:p.size+q.size] ((ξ,s.2.1,s.2.2.1,s.2.2.2.1,0,0):Option (Array ZQ)×RJ) λ_ r=>Wi p q r.2.2.2.1 s.2.2.2.2 r.2.1 r.2.2.1 r.2.2.2.2.1 r.2.2.2.2.2
 match s1.1 with
 |some r=>pure (.done (ν r,s1.2.1,s1.2.2.1,s1.2.2.2.1,s.2.2.2.2))
 |none=>do
  liftM (rule "list.sort.gallop")
  let s2 <- forIn [:p.size+q.size] ((ξ,s1.2.1,s1.2.2.1,s1.2.2.2.1,s.2.2.2.2+1,s1.2.2.2.2.1,s1.2.2.2.2.2):Option (Array ZQ)×RH) λ_ r=>Yl p q r
  match s2.1 with
  |some r=>pure (.done (ν r,s2.2.1,s2.2.2.1,s2.2.2.2.1,s2.2.2.2.2.1))
  |none=>do
   modify λst=>cH st (s2.2.2.2.2.1+1)
   pure (.yield (ξ,s2.2.1,s2.2.2.1,s2.2.2.2.1,s2.2.2.2.2.1+1))
theorem ug (p q:Array ZQ):jE p q=(do
  liftM (rule "list.sort.merge-hi")
  let y <- elem' p (p.size-1)
  if (p.size-1==0)=ζ then pure (p.extract 0 (p.size-1)++q.extract 0++#[y].reverse)
  else if (q.size==1)=ζ then pure (q.extract 0++p.extract 0 (p.size-1)++#[y].reverse)
  else do
   let st <- get
   let s <- forIn [:p.size+q.size] ((ξ,p.size-1,q.size,#[y],gallopOf st):Option (Array ZQ)×RP) λ_ s=>Wh p q s
   match s.1 with
   |some r=>pure r
   |none=>liftM (unsupported "internal:list.sort.merge-bound" : Sem (Array ZQ))):=by
 rw[uf];dsimp only;refine Ι (bind _) (funext λ_=>?_);refine Ι (bind _) (funext λy=>?_);refine Ι (ite _ _) (Ι (ite _ _) ?_);refine Ι (bind _) (funext λy=>?_);refine congr (Ι bind (Ι _ (funext λ_=>funext λs=>?_))) (funext λs=>?_)
 ·refine congr (Ι bind (Ι _ (funext λ_=>funext λs=>?_))) (funext λs=>?_)
  ·rfl
  ·cases s.1
   ·refine Ι (bind _) (funext λ_=>?_);refine congr (Ι bind (Ι _ (funext λ_=>funext λs=>?_))) (funext λs=>?_)
    ·rfl
    ·cases s.1 <;> rfl
   ·rfl
 ·cases s.1 <;> rfl
section
variable {prog:ZN}{w:Z4}{A:aaJ}{E:ZF->ZH->Prop}{s:ZH}{κ:abU}{c:ZQ->ZQ->Bool}{S:ZQ->Prop}{p q:Array ZQ}
def By {st:aan}{Q:ForInStep (Option (Array ZQ)×RH)->aan->Prop}{t:Array ZQ}{i j mg m n:Nat}(sp:SR c p 0 p.size)(sq:SR c q 0 q.size)(m3:Mh c p q t.toList.reverse i j)(hi:0<i)(g3:∀k,k<j->le c (el q k) (el p (i-1)))
  (hd:∀out r,Gd c p q out.toList->Q (.done (ν out,r)) st) (hn:∀t' m n,Mh c p q t'.toList.reverse (i-1) j->0<i-1->Q (.done (ξ,i-1,j,t',mg,m,n)) st/\Q (.yield (ξ,i-1,j,t',mg,m,n)) st):wpS (Ψ prog w) A E s (Uk p q t i j mg m n) Q st:=by
 have gj:=m3.hi;refine ZV (aP (by lia) ?_)
 have m4:Mh c p q (t.push (el p (i-1))).toList.reverse (i-1) j:=by
  rw[jr];exact m3.lF hi sp g3
 by_cases e5:(i-1==0)=ζ
 ·rw[χ e5];exact Z5 (hd _ _ (m4.done sp sq (.inl (by simpa using e5))))
 rw[ω e5];have h5:i-1≠0:=by simpa using e5
 obtain⟨h6,h7⟩:=hn (t.push (el p (i-1))) m n m4 (by lia)
 split
 ·exact Z5 h6
 ·exact Z5 h7
def Bz {st:aan}{Q:ForInStep (Option (Array ZQ)×RH)->aan->Prop}{t:Array ZQ}{i j mg m n:Nat}(O:cz c)(L:fk prog w A E s κ c S)(hk:kindOf st=κ)(Sp:∀i,i<p.size->S (el p i))(Sq:∀i,i<q.size->S (el q i))(sp:SR c p 0 p.size)(sq:SR c q 0 q.size)(hf:c (el q 0) (el p 0)=ζ)(m1:Mh c p q t.toList.reverse i j)(hi:0<i)(hj:1<j)(g1:∀x,x<i->le c (el p x) (el q (j-1)))
  (hd:∀out r,Gd c p q out.toList->Q (.done (ν out,r)) st) (hn:∀t' j' m n,Mh c p q t'.toList.reverse (i-1) j'->0<i-1->1<j'->j'<j->Q (.done (ξ,i-1,j',t',mg,m,n)) st/\Q (.yield (ξ,i-1,j',t',mg,m,n)) st):wpS (Ψ prog w) A E s (Ul p q t i j mg m n) Q st:=by
 have mi:=m1.hi;have mj:=m1.hj;refine ZV (aP (by lia) ?_)
 have m2:Mh c p q (t.push (el q (j-1))).toList.reverse i (j-1):=by
  rw[jr];exact m1.lE (by lia) sq g1
 by_cases e3:(j-1==1)=ζ
 ·rw[χ e3];exact Z5 (hd _ _ (m2.tail O sp sq (by simpa using e3) hf))
 rw[ω e3];have h3:j-1≠1:=by simpa using e3
 refine ZV (aP (by lia) (ZV (d4 O L hk (Sp _ (by lia)) (λx hx=>Sq _ (by lia)) (by lia) (λa b h1 h2 h3=>sq a b (by lia) h2 (by lia)) (by lia) λh k1 k2 k3=>?_)))
 have g2:∀x,x<h->c (el q x) (el p (i-1))=ζ:=λx hx=>by
  have:=k2 x hx;unfold eV at this;rw[χ rfl,abj]at this;exact this
 have g4:∀x,h<=x->x<j-1->le c (el p (i-1)) (el q x):=λx h1 h2=>by
  have:=k3 x h1 h2;unfold eV at this;rw[χ rfl,abj]at this;exact this
 have hh:0<h:=by
  rcases Nat.eq_zero_or_pos h with z|z
  ·subst z;have h2:=O.trans (sp 0 (i-1) (by lia) (by lia) (by lia)) (g4 0 (ZG _) (by lia))
   exact Η (hf.symm.trans h2) (by simp)
  ·exact z
 dsimp only
 by_cases DO:j-1-h>0
 ·rw[χ DO];have m3:Mh c p q (t.push (el q (j-1))++(q.extract h (j-1)).reverse).toList.reverse i h:=by
   rw[zm];exact m2.jl sq k1 λx h1 h2 y hy=>O.trans (sp y (i-1) (by lia) (by lia) (by lia)) (g4 x h1 h2)
  by_cases e4:(h==1)=ζ
  ·rw[χ e4];exact Z5 (hd _ _ (m3.tail O sp sq (by simpa using e4) hf))
  rw[ω e4];have h4:h≠1:=by simpa using e4
  rw[ω (by simp;lia)]
  exact By sp sq m3 hi (λk hk=>O.of_lt (g2 k hk)) hd λt' m n h1 h2=>hn t' _ m n h1 h2 (by lia) (by lia)
 ·rw[ω DO];exact By sp sq m2 hi (λk hk=>O.of_lt (g2 k (by lia))) hd λt' m n h1 h2=>hn t' _ m n h1 h2 (by lia) (by lia)
def Jr {st:aan}{Q:ForInStep (Option (Array ZQ)×RH)->aan->Prop}{t:Array ZQ}{i j mg m n:Nat}(O:cz c)(L:fk prog w A E s κ c S)(hk:kindOf st=κ)(Sp:∀i,i<p.size->S (el p i))(Sq:∀i,i<q.size->S (el q i))(sp:SR c p 0 p.size)(sq:SR c q 0 q.size)(hf:c (el q 0) (el p 0)=ζ)(m0:Mh c p q t.toList.reverse i j)(hi:0<i)(hj:1<j)
  (hd:∀out r,Gd c p q out.toList->Q (.done (ν out,r)) (cH st mg)) (hn:∀t' i' j' m n,Mh c p q t'.toList.reverse i' j'->0<i'->1<j'->i'+j'<i+j->Q (.done (ξ,i',j',t',mg,m,n)) (cH st mg)/\Q (.yield (ξ,i',j',t',mg,m,n)) (cH st mg)):wpS (Ψ prog w) A E s (Pn p q t i j mg m n) Q st:=by
 have mi:=m0.hi;have mj:=m0.hj;refine ZV (aca (ZV (aP (by lia) (ZV (d4 O L hk (Sq _ (by lia)) (λx hx=>Sp _ (by lia)) (by lia) (λa b h1 h2 h3=>sp a b (by lia) h2 (by lia)) (by lia) λh k1 k2 k3=>?_)))))
 have g0:∀x,x<h->le c (el p x) (el q (j-1)):=λx hx=>by
  have:=k2 x hx;unfold eV at this;rw[ω (by simp),abQ,abj]at this
  exact this
 have g5:∀x,h<=x->x<i->le c (el q (j-1)) (el p x):=λx h1 h2=>by
  have:=k3 x h1 h2;unfold eV at this;rw[ω (by simp),Bool.not_eq_false',abj]at this
  exact O.of_lt this
 dsimp only
 by_cases DO:i-h>0
 ·rw[χ DO];have m1:Mh c p q (t++(p.extract h i).reverse).toList.reverse h j:=by
   rw[zm];exact m0.jm sp k1 λx h1 h2 y hy=>O.trans (sq y (j-1) (by lia) (by lia) (by lia)) (g5 x h1 h2)
  by_cases e1:(h==0)=ζ
  ·rw[χ e1];exact Z5 (hd _ _ (m1.done sp sq (.inl (by simpa using e1))))
  rw[ω e1];have Hi:h≠0:=by simpa using e1
  exact Bz O L hk Sp Sq sp sq hf m1 (by lia) hj g0 hd λt' j' m n h1 h2 h3 h4=>hn t' _ j' m n h1 h2 h3 (by lia)
 ·rw[ω DO];exact Bz O L hk Sp Sq sp sq hf m0 hi hj (λx hx=>g0 x (by lia)) hd λt' j' m n h1 h2 h3 h4=>hn t' _ j' m n h1 h2 h3 (by lia)
def Jq {st:aan}{Q:ForInStep (Option (Array ZQ)×RJ)->aan->Prop}{t:Array ZQ}{i j mg ma na:Nat}(O:cz c)(L:fk prog w A E s κ c S)(hk:kindOf st=κ)(Sp:∀i,i<p.size->S (el p i))(Sq:∀i,i<q.size->S (el q i))(sp:SR c p 0 p.size)(sq:SR c q 0 q.size)(hf:c (el q 0) (el p 0)=ζ)(m:Mh c p q t.toList.reverse i j)(hi:0<i)(hj:1<j)
  (hd:∀out r,Gd c p q out.toList->Q (.done (ν out,r)) st) (hn:∀t' i' j' m n,Mh c p q t'.toList.reverse i' j'->0<i'->1<j'->i'+j'<i+j->Q (.done (ξ,i',j',t',m,n)) st/\Q (.yield (ξ,i',j',t',m,n)) st):wpS (Ψ prog w) A E s (Wi p q t mg i j ma na) Q st:=by
 have gj:=m.hi;have Fe:=m.hj;refine ZV (aP (by lia) (ZV (aP (by lia) (ZV (L _ _ st _ (Sq _ (by lia)) (Sp _ (by lia)) hk ?_)))))
 dsimp only;cases hc:c (el q (j-1)) (el p (i-1))with
 |true =>
  rw[χ rfl];refine ZV (aP (by lia) ?_)
  have m1:Mh c p q (t.push (el p (i-1))).toList.reverse (i-1) j:=by
   rw[jr];exact m.lF hi sp λk hk=>O.trans (sq k (j-1) (by lia) (by lia) (by lia)) (O.of_lt hc)
  by_cases e3:(i-1==0)=ζ
  ·rw[χ e3];exact Z5 (hd _ _ (m1.done sp sq (.inl (by simpa using e3))))
  rw[ω e3];have h3:i-1≠0:=by simpa using e3
  obtain⟨h6,h7⟩:=hn _ _ _ (ma+1) 0 m1 (by lia) hj (by lia)
  split
  ·exact Z5 h6
  ·exact Z5 h7
 |false =>
  rw[ω (by simp)]
  refine ZV (aP (by lia) ?_)
  have m1:Mh c p q (t.push (el q (j-1))).toList.reverse i (j-1):=by
   rw[jr];exact m.lE (by lia) sq λk hk=>O.trans (sp k (i-1) (by lia) (by lia) (by lia)) (show le c (el p (i-1)) (el q (j-1)) from hc)
  by_cases e3:(j-1==1)=ζ
  ·rw[χ e3];exact Z5 (hd _ _ (m1.tail O sp sq (by simpa using e3) hf))
  rw[ω e3];have h3:j-1≠1:=by simpa using e3
  obtain⟨h6,h7⟩:=hn _ _ _ 0 (na+1) m1 hi (by lia) (by lia)
  split
  ·exact Z5 h6
  ·exact Z5 h7
def vR (O:cz c)(L:fk prog w A E s κ c S){Q:Array ZQ->aan->Prop}{st:aan}(hk:kindOf st=κ)(Sp:∀i,i<p.size->S (el p i))(Sq:∀i,i<q.size->S (el q i))(sp:SR c p 0 p.size)(sq:SR c q 0 q.size)
  (hp:0<p.size) (hq:0<q.size) (hf:c (el q 0) (el p 0)=ζ) (hl:∀y,y<q.size->c (el q y) (el p (p.size-1))=ζ) (h:∀to aA,lq st aA->Gd c p q to.toList->Q to aA) :
  wpS (Ψ prog w) A E s (jE p q) Q st:=by
 rw[ug];refine ZV (ac9 (abY {rfl,?_}));refine ZV (aP (by lia) ?_)
 have m0:Mh c p q (#[el p (p.size-1)]:Array ZQ).toList.reverse (p.size-1) q.size:=Mh.start sp O hp hl
 by_cases h1:(p.size-1==0)=ζ
 ·rw[χ h1];exact Z5 (h _ st (lq.refl st) (m0.done sp sq (.inl (by simpa using h1))))
 rw[ω h1];have Hi:p.size-1≠0:=by simpa using h1
 by_cases h2:(q.size==1)=ζ
 ·rw[χ h2];exact Z5 (h _ st (lq.refl st) (m0.tail O sp sq (by simpa using h2) hf))
 rw[ω h2];have DS:q.size≠1:=by simpa using h2
 refine ZV (acM ?_);refine ZV (abt (aaZ
  (I:=λx r aA=>lq st aA/\∃i j to mg,r=(ξ,i,j,to,mg)/\Mh c p q to.toList.reverse i j/\0<i/\1<j/\i+j+x<p.size+q.size)
  (Q:=λr aA=>lq st aA/\∃out r',r=(ν out,r')/\Gd c p q out.toList) ?_ ?_ ?_) ?_)
 ·rintro x r aA _ hx ⟨e,i,j,to,mg,rfl,m,hi,hj,hb⟩;unfold Wh;dsimp only;refine ZV (abt (aaZ
   (I:=λy r aA=>lq st aA/\∃i j to m n,r=(ξ,i,j,to,m,n)/\Mh c p q to.toList.reverse i j/\0<i/\1<j/\i+j+x+min y 1<p.size+q.size)
   (Q:=λr aA=>lq st aA/\((∃out r',r=(ν out,r')/\Gd c p q out.toList)\/∃i j to m n,r=(ξ,i,j,to,m,n)/\Mh c p q to.toList.reverse i j/\0<i/\1<j/\i+j+x+1<p.size+q.size)) ?_ ?_ ?_) ?_)
  ·rintro y r fZ _ hy ⟨e2,i,j,to,ma,na,rfl,m,hi,hj,hb⟩;exact Jq O L (e2.kind.trans hk) Sp Sq sp sq hf m hi hj (λout r h=>{e2,.inl {_,_,rfl,h}}) λt' i' j' m n h1 h2 h3 h4=>{{e2,.inr {_,_,_,_,_,rfl,h1,h2,h3,by lia}},{e2,_,_,_,_,_,rfl,h1,h2,h3,by lia}}
  ·rintro r fZ ⟨e2,i,j,to,ma,na,rfl,m,hi,hj,hb⟩;exact{e2,.inr {_,_,_,_,_,rfl,m,hi,hj,by lia}}
  ·exact{e,_,_,_,_,_,rfl,m,hi,hj,by lia}
  rintro r fZ ⟨e2,⟨out,r',rfl,g⟩|⟨i,j,to,ma,na,rfl,m,hi,hj,hb⟩⟩
  ·exact Z5 {e2,_,_,rfl,g}
  dsimp only;refine ZV (ac9 (abY {rfl,?_}));refine ZV (abt (aaZ
   (I:=λy r aA=>lq st aA/\∃i j to mg m n,r=(ξ,i,j,to,mg,m,n)/\Mh c p q to.toList.reverse i j/\0<i/\1<j/\i+j+x+1<p.size+q.size)
   (Q:=λr aA=>lq st aA/\((∃out r',r=(ν out,r')/\Gd c p q out.toList)\/∃i j to mg m n,r=(ξ,i,j,to,mg,m,n)/\Mh c p q to.toList.reverse i j/\0<i/\1<j/\i+j+x+1<p.size+q.size)) ?_ ?_ ?_) ?_)
  ·rintro y r fZ _ hy ⟨e2,i,j,to,mg,ma,na,rfl,m,hi,hj,hb⟩;show wpS (Ψ prog w) A E s (if mg>1 then Pn p q to i j (mg-1) ma na else Pn p q to i j mg ma na) _ fZ
   split <;> exact Jr O L (e2.kind.trans hk) Sp Sq sp sq hf m hi hj (λout r h=>{e2.IQ _,.inl {_,_,rfl,h}}) λt' i' j' m n h1 h2 h3 h4=>{{e2.IQ _,.inr {_,_,_,_,_,_,rfl,h1,h2,h3,by lia}},{e2.IQ _,_,_,_,_,_,_,rfl,h1,h2,h3,by lia}}
  ·rintro r fZ ⟨e2,i,j,to,mg,ma,na,rfl,m,hi,hj,hb⟩;exact{e2,.inr {_,_,_,_,_,_,rfl,m,hi,hj,hb}}
  ·exact{e2,_,_,_,_,_,_,rfl,m,hi,hj,hb}
  rintro r fZ ⟨e2,⟨out,r',rfl,g⟩|⟨i,j,to,mg,ma,na,rfl,m,hi,hj,hb⟩⟩
  ·exact Z5 {e2,_,_,rfl,g}
  dsimp only;refine ZV (aca (Z5 {e2.IQ _,_,_,_,_,rfl,m,hi,hj,by lia}))
 ·rintro r aA ⟨e,i,j,to,mg,rfl,m,hi,hj,hb⟩
  exfalso
  rw[show max 0 (p.size+q.size)=p.size+q.size by lia]at hb
  lia
 ·exact{lq.refl st,_,_,_,_,rfl,m0,by lia,by lia,by lia}
 ·rintro r aA ⟨e,out,r',rfl,g⟩;exact Z5 (h _ aA e g)
end
section
variable {c:ZQ->ZQ->Bool}{a b:Array ZQ}
structure Rg (a b:Array ZQ)(lo hi:Nat):Prop where
 perm:b.Perm a
 out:∀k,(k<lo\/hi<=k)->el b k=el a k
def Rg.refl {lo hi:Nat}:Rg a a lo hi:={Array.Perm.refl _,λ_ _=>rfl}
def Rg.trans {d:Array ZQ}{lo hi:Nat}(x:Rg a b lo hi)(y:Rg b d lo hi):Rg a d lo hi:={y.perm.trans x.perm,λk h=>(y.out k h).trans (x.out k h)}
def Rg.mono {lo hi Ir gj:Nat}(x:Rg a b lo hi)(h1:Ir<=lo)(h2:hi<=gj):Rg a b Ir gj:={x.perm,λk h=>x.out k (by lia)}
def Rg.size {lo hi:Nat}(x:Rg a b lo hi):b.size=a.size:=x.perm.size_eq
def SR.congr {lo hi:Nat}(h:SR c a lo hi)(e:∀k,lo<=k->k<hi->el b k=el a k):SR c b lo hi:=λi j h1 h2 h3=>by
 rw[e i h1 (by lia),e j (by lia) h3]
 exact h i j h1 h2 h3
def NI (c:ZQ->ZQ->Bool)(a:Array ZQ)(lo hi:Nat):Prop:=∀i j,lo<=i->i<=j->j<hi->le c (el a j) (el a i)
def cy {i j:Nat}(hj:j<=a.size)(k:Nat):el (mirror a i j ((j-i) / 2)) k=if i<=k/\k<j then el a (i+j-1-k) else el a k:=by
 have e:=getElem?_mirror_all (i:=i) hj k
 by_cases h:i<=k/\k<j
 ·rw[χ h]at e ⊢
  exact eQ e
 ·rw[ω h]at e ⊢
  exact eQ e
def fy {i j:Nat}(hj:j<=a.size):Rg a (mirror a i j ((j-i) / 2)) i j:={mirror_perm _ _ _ _,λk h=>by rw[cy hj,ω (by lia)]}
def qi {i j:Nat}(hj:j<=a.size)(h:NI c a i j):SR c (mirror a i j ((j-i) / 2)) i j:=λx y h1 h2 h3=>by
 rw[cy hj,cy hj,χ (by lia),χ (by lia)]
 exact h _ _ (by lia) (by lia) (by lia)
def kA {lo i j:Nat}(QG:lo<=i)(hj:j<=a.size)(h:NI c a lo j)(he:∀x y,i<=x->x<j->i<=y->y<j->le c (el a x) (el a y)):NI c (mirror a i j ((j-i) / 2)) lo j:=λx y h1 h2 h3=>by
 rw[cy hj,cy hj]
 by_cases hx:i<=x/\x<j
 ·rw[χ hx,χ (by lia)]
  exact he _ _ (by lia) (by lia) (by lia) (by lia)
 ·rw[ω hx]
  by_cases hy:i<=y/\y<j
  ·rw[χ hy];exact h _ _ (by lia) (by lia) (by lia)
  ·rw[ω hy];exact h _ _ h1 h2 h3
def SR.snoc {lo n:Nat}(O:cz c)(h:SR c a lo (lo+n))(h1:0<n)(hn:le c (el a (lo+n-1)) (el a (lo+n))):SR c a lo (lo+(n+1)):=λi j h2 h3 h4=>by
 by_cases hj:j<lo+n
 ·exact h i j h2 h3 hj
 ·obtain rfl:j=lo+n:=by lia
  by_cases hi:i<lo+n
  ·exact O.trans (h i (lo+n-1) h2 (by lia) (by lia)) hn
  ·obtain rfl:i=lo+n:=by lia
   exact O.refl _
def NI.snoc {lo n:Nat}(O:cz c)(h:NI c a lo (lo+n))(h1:0<n)(hn:le c (el a (lo+n)) (el a (lo+n-1))):NI c a lo (lo+(n+1)):=λi j h2 h3 h4=>by
 by_cases hj:j<lo+n
 ·exact h i j h2 h3 hj
 ·obtain rfl:j=lo+n:=by lia
  by_cases hi:i<lo+n
  ·exact O.trans hn (h i (lo+n-1) h2 (by lia) (by lia))
  ·obtain rfl:i=lo+n:=by lia
   exact O.refl _
def SR.one {lo:Nat}(O:cz c):SR c a lo (lo+1):=λi j h1 h2 h3=>by
 obtain rfl:i=j:=by lia
 exact O.refl _
end
structure lg (κ:abU)(a₀:Array ZQ)(st:aan):Prop where
 kind:kindOf st=κ
 fail:acw st=ξ
 perm:(aar st).Perm a₀
section
variable {prog:ZN}{w:Z4}{A:aaJ}{E:ZF->ZH->Prop}{s:ZH}{κ:abU}{c:ZQ->ZQ->Bool}{a₀:Array ZQ}
def lg.size {st:aan}(h:lg κ a₀ st):(aar st).size=a₀.size:=h.perm.size_eq
def lg.mem {st:aan}(h:lg κ a₀ st){i:Nat}(hi:i<a₀.size):el (aar st) i∈a₀.toList:=by
 have h1:i<(aar st).size:=by rw[h.size];exact hi
 refine(acf.mp h.perm).mem_iff.mp ?_;have:=jS h1;rw[<- Z9]at this;exact aap this
def lg.set {st:aan}{b:Array ZQ}{lo hi:Nat}(h:lg κ a₀ st)(r:Rg (aar st) b lo hi):lg κ a₀ (aa8 st b):={h.kind,h.fail,r.perm.trans h.perm}
def q_ (L:fk prog w A E s κ c (·∈a₀.toList)){st:aan}{i j:Nat}{Q:Option Bool->aan->Prop}(h:lg κ a₀ st)(hi:i<a₀.size)(hj:j<a₀.size)(q:Q (ν (c (el (aar st) i) (el (aar st) j))) st):
  wpS (Ψ prog w) A E s (ltAt' i j) Q st:=by
 rw[ltAt'_eq];refine ZV (acM ?_);exact ZV (aP (by rw[h.size];exact hi) (ZV (aP (by rw[h.size];exact hj) (L _ _ st Q (h.mem hi) (h.mem hj) h.kind q))))
def jg (L:fk prog w A E s κ c (·∈a₀.toList)){st:aan}{b:Array ZQ}{i j lo hi:Nat}{Q:Option Bool->aan->Prop}(h:lg κ a₀ st)(R:Rg (aar st) b lo hi)(hi:i<a₀.size)(hj:j<a₀.size)(q:Q (ν (c (el b i) (el b j))) (aa8 st b)):
  wpS (Ψ prog w) A E s (ltAt' i j) Q (aa8 st b):=q_ L (h.set R) hi hj q
def jf {st:aan}{i j:Nat}{Q:Unit->aan->Prop}(q:Q () (aa8 st (mirror (aar st) i j ((j-i) / 2)))):wpS (Ψ prog w) A E s (reverseSlice' i j) Q st:=by
 rw[reverseSlice'_eq];exact aca q
def BA (O:cz c)(L:fk prog w A E s κ c (·∈a₀.toList)){st:aan}{lo fw:Nat}{Q:Option Nat->aan->Prop}(h0:lg κ a₀ st)(h1:1<=fw)(hn:lo+fw<=a₀.size)
  (h:∀n b,1<=n->n<=fw->Rg (aar st) b lo (lo+fw)->SR c b lo (lo+n)->Q (ν n) (aa8 st b)):wpS (Ψ prog w) A E s (countRun' lo fw) Q st:=by
 rw[countRun'_eq];dsimp only;refine ZV (abt (aaZ (I:=λx r aA=>aA=st/\∃n,r=(ξ,n)/\n=x/\SR c (aar st) lo (lo+n))
  (Q:=λr aA=>aA=st/\∃n,r=(ξ,n)/\1<=n/\n<=fw/\SR c (aar st) lo (lo+n)/\(n=fw\/(n<fw/\c (el (aar st) (lo+n)) (el (aar st) (lo+n-1))=ζ))) ?_ ?_ ?_) ?_)
 ·rintro x r aA ID hx ⟨rfl,n,rfl,rfl,hs⟩;dsimp only;refine ZV (q_ L h0 (by lia) (by lia) ?_)
  dsimp only;cases hc:c (el (aar aA) (lo+n)) (el (aar aA) (lo+n-1))with
  |true =>
   rw[χ rfl];exact Z5 {rfl,n,rfl,ID,by lia,hs,.inr {by lia,hc}}
  |false =>
   rw[ω (by simp)]
   exact Z5 {rfl,n+1,rfl,rfl,hs.snoc O ID hc}
 ·rintro r aA ⟨rfl,n,rfl,hx,hs⟩;exact{rfl,n,rfl,by lia,by lia,hs,.inl (by lia)}
 ·exact{rfl,1,rfl,rfl,SR.one O}
 rintro r aA ⟨e0,n,rfl,V9,IG,hs,hc⟩;rw[e0];dsimp only
 by_cases TV:(n==fw)=ζ
 ·rw[χ TV];exact Z5 (h n (aar st) V9 IG Rg.refl hs)
 rw[ω TV];have X8:n≠fw:=by simpa using TV
 have hc:c (el (aar st) (lo+n)) (el (aar st) (lo+n-1))=ζ:=by
  rcases hc with q|q
  ·lia
  ·exact q.2
 refine(λ(key:∀b,Rg (aar st) b lo (lo+fw)->NI c b lo (lo+(n+1))->wpS (Ψ prog w) A E s ?cont Q (aa8 st b))=>?main) ?key
 case main =>
  by_cases h2:n>1
  ·rw[χ h2];refine ZV (q_ L h0 (by lia) (by lia) ?_)
   dsimp only;cases hr:c (el (aar st) lo) (el (aar st) (lo+n-1))with
   |true =>
    rw[χ rfl];exact Z5 (h n (aar st) V9 IG Rg.refl hs)
   |false =>
    rw[ω (by simp)]
    refine ZV (jf ?_);have hz:lo+n<=(aar st).size:=by have:=h0.size;lia
    have R0:Rg (aar st) (mirror (aar st) lo (lo+n) ((lo+n-lo) / 2)) lo (lo+fw):=(fy hz).mono (ZG _) (by lia)
    have all:∀u v,lo<=u->u<lo+n->lo<=v->v<lo+n->le c (el (aar st) u) (el (aar st) v):=λu v h1 h2 h3 h4 =>
     O.trans (hs u (lo+n-1) h1 (by lia) (by lia)) (O.trans hr (hs lo v (ZG _) h3 h4))
    have N0:NI c (mirror (aar st) lo (lo+n) ((lo+n-lo) / 2)) lo (lo+(n+1)):=by
     refine NI.snoc O (kA (ZG _) hz (λu v h1 h2 h3=>all v u (by lia) (by lia) h1 (by lia)) λu v h1 h2 h3 h4=>all u v h1 h2 h3 h4) (by lia) ?_
     rw[cy hz,cy hz,ω (by lia),χ (by lia)]
     exact O.trans (O.of_lt hc) (all _ _ (by lia) (by lia) (by lia) (by lia))
    exact key _ R0 N0
  ·rw[ω h2];have N0:NI c (aar st) lo (lo+(n+1)):=NI.snoc O (λu v h1 h2 h3=>by
    obtain rfl:u=v:=by lia
    exact O.refl _) (by lia) (O.of_lt hc)
   show wpS _ _ _ _ _ Q (aa8 st (aar st));exact key _ Rg.refl N0
 case key =>
  intro b0 R0 N0;refine ZV (ac9 (abY {rfl,?_}));refine ZV (abt (aaZ (I:=λx r aA=>∃b n lH,aA=aa8 st b/\r=(ξ,n,lH)/\n=x/\Rg (aar st) b lo (lo+fw)/\NI c b lo (lo+n)/\lH<n/\(∀u v,lo+n-1-lH<=u->u<lo+n->lo+n-1-lH<=v->v<lo+n->le c (el b u) (el b v)))
   (Q:=λr aA=>∃b n lH,aA=aa8 st b/\r=(ξ,n,lH)/\1<=n/\n<=fw/\Rg (aar st) b lo (lo+fw)/\NI c b lo (lo+n)/\lH<n/\(∀u v,lo+n-1-lH<=u->u<lo+n->lo+n-1-lH<=v->v<lo+n->le c (el b u) (el b v))) ?_ ?_ ?_) ?_)
  ·rintro x r aA ID hx ⟨b,n',lH,rfl,rfl,rfl,R,N,hq,he⟩;dsimp only;refine ZV (jg L h0 R (by lia) (by lia) ?_)
   dsimp only;cases pF:c (el b (lo+n')) (el b (lo+n' - 1))with
   |true =>
    rw[χ rfl]
    by_cases DI:lH>0
    ·rw[χ DI];refine ZV (jf (Z5 ?_));have hz:lo+n'<=b.size:=by have:=R.size;have:=h0.size;lia
     refine{mirror b (lo+n' - (lH+1)) (lo+n') ((lo+n' - (lo+n' - (lH+1))) / 2),n'+1,0,rfl,rfl,rfl,R.trans ((fy hz).mono (by lia) (by lia)),?_,by lia,?_}
     ·refine NI.snoc O (kA (by lia) hz N λu v h1 h2 h3 h4=>he u v (by lia) h2 (by lia) h4) (by lia) ?_
      rw[cy hz,cy hz,ω (by lia),χ (by lia)]
      exact O.trans (O.of_lt pF) (he _ _ (by lia) (by lia) (by lia) (by lia))
     ·intro u v h1 h2 h3 h4;obtain rfl:u=v:=by lia
      exact O.refl _
    ·rw[ω DI];refine Z5 {b,n'+1,0,rfl,rfl,rfl,R,N.snoc O (by lia) (O.of_lt pF),by lia,?_}
     intro u v h1 h2 h3 h4;obtain rfl:u=v:=by lia
     exact O.refl _
   |false =>
    rw[ω (by simp)]
    refine ZV (jg L h0 R (by lia) (by lia) ?_)
    dsimp only;cases pE:c (el b (lo+n' - 1)) (el b (lo+n'))with
    |true =>
     rw[χ rfl];exact Z5 {b,n',lH,rfl,rfl,by lia,by lia,R,N,hq,he}
    |false =>
     rw[ω (by simp)]
     refine Z5 {b,n'+1,lH+1,rfl,rfl,rfl,R,N.snoc O (by lia) pE,by lia,?_}
     have hl:∀u,lo+n' - 1-lH<=u->u<lo+(n'+1)->le c (el b u) (el b (lo+n'))/\le c (el b (lo+n')) (el b u):=λu h1 h2=>by
      by_cases hu:u<lo+n'
      ·exact{O.trans (he u (lo+n' - 1) h1 hu (by lia) (by lia)) pF,O.trans pE (he (lo+n' - 1) u (by lia) (by lia) h1 hu)}
      ·obtain rfl:u=lo+n':=by lia
       exact{O.refl _,O.refl _}
     intro u v h1 h2 h3 h4;exact O.trans (hl u (by lia) h2).1 (hl v (by lia) h4).2
  ·rintro r aA ⟨b,n',lH,rfl,rfl,hx,R,N,hq,he⟩;exact{b,n',lH,rfl,rfl,by lia,by lia,R,N,hq,he}
  ·refine{_,n+1,0,rfl,rfl,rfl,R0,N0,by lia,?_}
   intro u v h1 h2 h3 h4;obtain rfl:u=v:=by lia
   exact O.refl _
  rintro r aA ⟨b,n',lH,rfl,rfl,X_,X9,RB,NB,hq,he⟩;dsimp only
  by_cases DI:lH>0
  ·rw[χ DI];refine ZV (jf ?_);have hz:lo+n'<=b.size:=by have:=RB.size;have:=h0.size;lia
   have NB:=kA (c:=c) (i:=lo+n' - (lH+1)) (by lia) hz NB λu v h1 h2 h3 h4=>he u v (by lia) h2 (by lia) h4
   have RB:=RB.trans ((fy (i:=lo+n' - (lH+1)) hz).mono (by lia) (by lia:lo+n'<=lo+fw))
   show wpS _ _ _ _ _ Q (aa8 st (mirror b (lo+n' - (lH+1)) (lo+n') ((lo+n' - (lo+n' - (lH+1))) / 2)));generalize mirror b (lo+n' - (lH+1)) (lo+n') ((lo+n' - (lo+n' - (lH+1))) / 2)=b1 at NB RB;refine ZV (jf ?_);have R2:Rg (aar st) (mirror b1 lo (lo+n') ((lo+n' - lo) / 2)) lo (lo+fw):=RB.trans ((fy (by have:=RB.size;have:=h0.size;lia)).mono (ZG _) (by lia))
   have S2:SR c (mirror b1 lo (lo+n') ((lo+n' - lo) / 2)) lo (lo+n'):=qi (by have:=RB.size;have:=h0.size;lia) NB
   show wpS _ _ _ _ _ Q (aa8 st (mirror b1 lo (lo+n') ((lo+n' - lo) / 2)));generalize mirror b1 lo (lo+n') ((lo+n' - lo) / 2)=b2 at R2 S2;refine ZV (abt (aaZ (I:=λx r aA=>aA=aa8 st b2/\∃m,r=(ξ,m)/\m=x/\SR c b2 lo (lo+m))
    (Q:=λr aA=>aA=aa8 st b2/\∃m,r=(ξ,m)/\1<=m/\m<=fw/\SR c b2 lo (lo+m)) ?_ ?_ ?_) ?_)
   ·rintro x r aA ID hx ⟨rfl,m,rfl,rfl,hs⟩;dsimp only;refine ZV (jg L h0 R2 (by lia) (by lia) ?_)
    dsimp only;cases hc:c (el b2 (lo+m)) (el b2 (lo+m-1))with
    |true =>
     rw[χ rfl];exact Z5 {rfl,m,rfl,by lia,by lia,hs}
    |false =>
     rw[ω (by simp)]
     exact Z5 {rfl,m+1,rfl,rfl,hs.snoc O (by lia) hc}
   ·rintro r aA ⟨rfl,m,rfl,hx,hs⟩;exact{rfl,m,rfl,by lia,by lia,hs}
   ·exact{(rfl),n',rfl,rfl,S2}
   rintro r aA ⟨rfl,m,rfl,T6,LG,hs⟩;exact Z5 (h m b2 T6 LG R2 hs)
  ·rw[ω DI];refine ZV (jf ?_);have R2:Rg (aar st) (mirror b lo (lo+n') ((lo+n' - lo) / 2)) lo (lo+fw):=RB.trans ((fy (by have:=RB.size;have:=h0.size;lia)).mono (ZG _) (by lia))
   have S2:SR c (mirror b lo (lo+n') ((lo+n' - lo) / 2)) lo (lo+n'):=qi (by have:=RB.size;have:=h0.size;lia) NB
   show wpS _ _ _ _ _ Q (aa8 st (mirror b lo (lo+n') ((lo+n' - lo) / 2)));generalize mirror b lo (lo+n') ((lo+n' - lo) / 2)=b2 at R2 S2;refine ZV (abt (aaZ (I:=λx r aA=>aA=aa8 st b2/\∃m,r=(ξ,m)/\m=x/\SR c b2 lo (lo+m))
    (Q:=λr aA=>aA=aa8 st b2/\∃m,r=(ξ,m)/\1<=m/\m<=fw/\SR c b2 lo (lo+m)) ?_ ?_ ?_) ?_)
   ·rintro x r aA ID hx ⟨rfl,m,rfl,rfl,hs⟩;dsimp only;refine ZV (jg L h0 R2 (by lia) (by lia) ?_)
    dsimp only;cases hc:c (el b2 (lo+m)) (el b2 (lo+m-1))with
    |true =>
     rw[χ rfl];exact Z5 {rfl,m,rfl,by lia,by lia,hs}
    |false =>
     rw[ω (by simp)]
     exact Z5 {rfl,m+1,rfl,rfl,hs.snoc O (by lia) hc}
   ·rintro r aA ⟨rfl,m,rfl,hx,hs⟩;exact{rfl,m,rfl,by lia,by lia,hs}
   ·exact{(rfl),n',rfl,rfl,S2}
   rintro r aA ⟨rfl,m,rfl,T6,LG,hs⟩;exact Z5 (h m b2 T6 LG R2 hs)
end
section
variable {c:ZQ->ZQ->Bool}{a:Array ZQ}
def kX {src d:Nat}(hs:src<a.size)(hd:d<=src)(k:Nat):el (bubble a src d) k=if k=src-d then el a src else if src-d<k/\k<=src then el a (k-1) else el a k:=by
 have e:=getElem?_bubble hs d hd k
 by_cases h1:k=src-d
 ·rw[χ h1]at e ⊢
  exact eQ e
 ·rw[ω h1]at e ⊢
  by_cases h2:src-d<k/\k<=src
  ·rw[χ h2]at e ⊢
   exact eQ e
  ·rw[ω h2]at e ⊢
   exact eQ e
def A8 {lo k l:Nat}(O:cz c)(hk:lo+k<a.size)(hl:l<=k)(h:SR c a lo (lo+k))(h1:∀i,i<l->le c (el a (lo+i)) (el a (lo+k)))(h2:∀i,l<=i->i<k->le c (el a (lo+k)) (el a (lo+i))):
  SR c (bubble a (lo+k) (lo+k-(lo+l))) lo (lo+(k+1)):=λi j g1 g2 g3=>by
 rw[kX hk (by lia),kX hk (by lia),show lo+k-(lo+k-(lo+l))=lo+l by lia]
 have q1:∀i,lo<=i->i<lo+l->le c (el a i) (el a (lo+k)):=λi x y=>by
  have:=h1 (i-lo) (by lia)
  rwa [show lo+(i-lo)=i by lia]at this
 have q2:∀i,lo+l<=i->i<lo+k->le c (el a (lo+k)) (el a i):=λi x y=>by
  have:=h2 (i-lo) (by lia) (by lia)
  rwa [show lo+(i-lo)=i by lia]at this
 by_cases ei:i=lo+l
 ·rw[χ ei]
  by_cases ej:j=lo+l
  ·rw[χ ej];exact O.refl _
  ·rw[ω ej,χ (by lia)]
   exact q2 _ (by lia) (by lia)
 ·rw[ω ei]
  by_cases ej:j=lo+l
  ·rw[χ ej,ω (by lia)]
   exact q1 _ (by lia) (by lia)
  ·rw[ω ej]
   by_cases fi:lo+l<i/\i<=lo+k
   ·rw[χ fi,χ (by lia)]
    exact h _ _ (by lia) (by lia) (by lia)
   ·rw[ω fi]
    by_cases fj:lo+l<j/\j<=lo+k
    ·rw[χ fj];exact h _ _ (by lia) (by lia) (by lia)
    ·rw[ω fj];exact h _ _ (by lia) (by lia) (by lia)
def A9 {src d:Nat}(hs:src<a.size)(hd:d<=src):Rg a (bubble a src d) (src-d) (src+1):=⟨bubble_perm _ _ _,λk h=>by
 rw[kX hs hd,ω (by lia),ω (by lia)]⟩
end
section
variable {prog:ZN}{w:Z4}{A:aaJ}{E:ZF->ZH->Prop}{s:ZH}{κ:abU}{c:ZQ->ZQ->Bool}{a₀:Array ZQ}
def Jt (O:cz c)(L:fk prog w A E s κ c (·∈a₀.toList)){st:aan}{lo n ok:Nat}{Q:Bool->aan->Prop}(h0:lg κ a₀ st)(bp:ok<=n)(h1:1<=n)(hn:lo+n<=a₀.size)(hs:SR c (aar st) lo (lo+ok))
  (h:∀b,Rg (aar st) b lo (lo+n)->SR c b lo (lo+n)->Q ζ (aa8 st b)):wpS (Ψ prog w) A E s (binarySort' lo n ok) Q st:=by
 rw[binarySort'_eq];refine ZV (abt (aaZ (I:=λk r aA=>r=(ξ,())/\k<=n/\∃b,aA=aa8 st b/\Rg (aar st) b lo (lo+n)/\SR c b lo (lo+k))
  (Q:=λr aA=>r=(ξ,())/\∃b,aA=aa8 st b/\Rg (aar st) b lo (lo+n)/\SR c b lo (lo+n)) ?_ ?_ ?_) ?_)
 ·rintro k r aA II hk ⟨rfl,_,b,rfl,R,Aw⟩;dsimp only;have hz:b.size=a₀.size:=R.size.trans h0.size;refine ZV (abt (aaZ (I:=λx r aA=>aA=aa8 st b/\∃l u,r=(ξ,l,u)/\l<=u/\u<=k/\u-l<=k-x/\(∀i,i<l->le c (el b (lo+i)) (el b (lo+k)))/\(∀i,u<=i->i<k->le c (el b (lo+k)) (el b (lo+i))))
   (Q:=λr aA=>aA=aa8 st b/\∃l,r=(ξ,l,l)/\l<=k/\(∀i,i<l->le c (el b (lo+i)) (el b (lo+k)))/\(∀i,l<=i->i<k->le c (el b (lo+k)) (el b (lo+i)))) ?_ ?_ ?_) ?_)
  ·rintro x r aA _ hx ⟨rfl,l,u,rfl,g1,g2,g3,g4,g5⟩;dsimp only
   by_cases Wa:l >= u
   ·rw[χ Wa];obtain rfl:l=u:=by lia
    exact Z5 {(rfl),l,rfl,g2,g4,g5}
   ·rw[ω Wa];refine ZV (jg L h0 R (by lia) (by lia) ?_)
    dsimp only;cases hc:c (el b (lo+k)) (el b (lo+(l+u) / 2))with
    |true =>
     rw[χ rfl];exact Z5 {rfl,l,_,rfl,by lia,by lia,by lia,g4,λi h1 h2=>O.trans (O.of_lt hc) (Aw _ _ (by lia) (by lia) (by lia))}
    |false =>
     rw[ω (by simp)]
     exact Z5 {rfl,_,u,rfl,by lia,by lia,by lia,λi h1=>O.trans (Aw _ _ (by lia) (by lia) (by lia)) (show le c (el b (lo+(l+u) / 2)) (el b (lo+k)) from hc),g5}
  ·rintro r aA ⟨rfl,l,u,rfl,g1,g2,g3,g4,g5⟩;obtain rfl:l=u:=by lia
   exact{(rfl),l,rfl,g2,g4,g5}
  ·exact{rfl,0,k,rfl,ZW _,ZG _,by lia,λi hi=>by lia,λi h1 h2=>by lia}
  rintro r aA ⟨rfl,l,rfl,g2,g4,g5⟩;dsimp only;rw[moveDown'_eq];refine ZV (aca (Z5 {rfl,by lia,_,rfl,R.trans ((A9 (a:=b) (by lia) (by lia)).mono (by lia) (by lia)),A8 (a:=b) O (by lia) g2 Aw g4 g5}))
 ·rintro r aA ⟨rfl,hx,b,rfl,R,Aw⟩;rw[show max (max ok 1) n=n by lia]at Aw
  exact{(rfl),b,rfl,R,Aw}
 ·refine{rfl,by lia,aar st,rfl,Rg.refl,?_}
  by_cases h2:ok=0
  ·subst h2;exact SR.one O
  ·rw[show max ok 1=ok by lia]
   exact hs
 ·rintro r aA ⟨rfl,b,rfl,R,Aw⟩;exact Z5 (h b R Aw)
theorem uJ (base:Nat):∀(l:List ZQ) (off:Nat) (a:Array ZQ),base+off+l.length<=a.size->∀k:Nat,
  ((l.zipIdx off).foldl (λx (z:ZQ×Nat)=>x.setIfInBounds (base+z.2) z.1) a)[k]?=if base+off<=k/\k<base+off+l.length then l[k-(base+off)]? else a[k]?
 |[],off,a,_,k=>by
  rw[ω (by rw[acJ];lia)]
  rfl
 |x::l,off,a,h,k=>by
  rw[ZZ]at h;rw[List.zipIdx_cons,acr,uJ base l (off+1) _ (by rw[ac8];lia)]
  by_cases h1:base+(off+1)<=k/\k<base+(off+1)+l.length
  ·rw[χ h1,χ (by rw[ZZ];lia),show k-(base+off)=k-(base+(off+1))+1 by lia,acu]
  ·rw[ω h1,Array.getElem?_setIfInBounds]
   by_cases h2:base+off=k
   ·subst h2;rw[χ rfl,χ (by lia),χ (by rw[ZZ];lia),acN]
    rfl
   ·rw[ω h2,ω (by rw[ZZ];lia)]
def Fu (a:Array ZQ)(base:Nat)(l:List ZQ):Array ZQ:=l.zipIdx.foldl (λx (z:ZQ×Nat)=>x.setIfInBounds (base+z.2) z.1) a
def qZ {a:Array ZQ}{base:Nat}{l:List ZQ}(h:base+l.length<=a.size)(k:Nat):(Fu a base l)[k]?=if base<=k/\k<base+l.length then l[k-base]? else a[k]?:=uJ base l 0 a h k
def Bu {a:Array ZQ}{base:Nat}{l:List ZQ}(h:base+l.length<=a.size):(Fu a base l).toList=a.toList.take base++(l++a.toList.drop (base+l.length)):=by
 apply abz;intro k;rw[Z9,qZ h];have hz:a.toList.length=a.size:=ZX
 by_cases h1:base<=k/\k<base+l.length
 ·rw[χ h1,aaY (by rw[aai];lia),aai,abd (by lia)]
  congr 1
  lia
 ·rw[ω h1]
  by_cases h2:k<base
  ·rw[abd (by rw[aai];lia),aco h2,Z9]
  ·rw[aaY (by rw[aai];lia),aai,aaY (by lia),acV,Z9]
   congr 1
   lia
def JN (a:Array ZQ)(base m:Nat):a.toList=a.toList.take base++((a.toList.drop base).take m++a.toList.drop (base+m)):=by
 have h1:=(abL base a.toList).symm;have h2:=(abL m (a.toList.drop base)).symm;rw[List.drop_drop]at h2;rw[<- h2];exact h1
def Jn {a:Array ZQ}{base:Nat}{l:List ZQ}(h:base+l.length<=a.size)(hp:l.Perm ((a.toList.drop base).take l.length)):Rg a (Fu a base l) base (base+l.length) where
 perm:=by
  rw[acf,Bu h];refine List.Perm.trans ?_ (acK (JN a base l.length).symm);exact List.Perm.append_left _ (hp.append_right _)
 out:=λk hk=>eQ (by rw[qZ h,ω (by lia)])
end
section
variable {prog:ZN}{w:Z4}{A:aaJ}{E:ZF->ZH->Prop}{s:ZH}{κ:abU}{c:ZQ->ZQ->Bool}{a₀:Array ZQ}
def Fy {σ:Type}{M:Model}{Q:PUnit->σ->Prop}{st aA:σ}(h:Q ⟨⟩ aA):wpS M A E s (set aA:StateT σ Sem PUnit) Q st:=by
 unfold wpS;rw[StateT.run_set];exact ZL {(rfl),h}
def xn {a:Array ZQ}{lo hi i:Nat}(h:i<hi-lo)(hh:hi<=a.size):el (a.extract lo hi) i=el a (lo+i) :=
 eQ (by rw[Array.getElem?_extract,χ (by lia)])
def oG {a:Array ZQ}{lo hi:Nat}(hh:hi<=a.size):(a.extract lo hi).size=hi-lo:=by
 rw[Array.size_extract];lia
def yA {a:Array ZQ}{lo hi:Nat}(hh:hi<=a.size){z:ZQ}(h:z∈(a.extract lo hi).toList):∃u,lo<=u/\u<hi/\z=el a u:=by
 obtain⟨i,gj⟩:=List.getElem?_of_mem h;rw[Z9]at gj;have d3:i<(a.extract lo hi).size:=by
  rcases aa2 i (a.extract lo hi).size with q|q
  ·exact q
  ·rw[abF q]at gj;cases gj
 rw[oG hh]at d3;exact{lo+i,by lia,by lia,by rw[<- xn d3 hh,yX gj]}
def vT (O:cz c)(L:fk prog w A E s κ c (·∈a₀.toList)){st:aan}{i sa na pw sb nb R8:Nat}{Q:Bool->aan->Prop}(h0:lg κ a₀ st)(p1:(aah st)[i]?=ν (sa,na,pw))(p2:(aah st)[i+1]?=ν (sb,nb,R8))
  (Aw:sb=sa+na) (Zo:1<=na) (Zn:1<=nb) (hz:sb+nb<=a₀.size) (s1:SR c (aar st) sa sb) (s2:SR c (aar st) sb (sb+nb))
  (h:∀aA,kindOf aA=κ->acw aA=ξ->aah aA=((aah st).setIfInBounds i (sa,na+nb,pw)).eraseIdxIfInBounds (i+1)->Rg (aar st) (aar aA) sa (sb+nb)->SR c (aar aA) sa (sb+nb)->Q ζ aA) :
  wpS (Ψ prog w) A E s (mergeAt' i) Q st:=by
 rw[uh];refine ZV (acM ?_);rw[p1,p2];dsimp only;refine ZV (Fy ?_);have hsz:=h0.size;have hm:∀{j},j<a₀.size->el (aar st) j∈a₀.toList:=λhj=>h0.mem hj;generalize ha:aar st=a at *
 have zF:kindOf (acy st (((aah st).setIfInBounds i (sa,na+nb,pw)).eraseIdxIfInBounds (i+1)))=κ:=h0.kind;have JJ:acw (acy st (((aah st).setIfInBounds i (sa,na+nb,pw)).eraseIdxIfInBounds (i+1)))=ξ:=h0.fail;have JK:aar (acy st (((aah st).setIfInBounds i (sa,na+nb,pw)).eraseIdxIfInBounds (i+1)))=a:=ha;have Nc:aah (acy st (((aah st).setIfInBounds i (sa,na+nb,pw)).eraseIdxIfInBounds (i+1)))=((aah st).setIfInBounds i (sa,na+nb,pw)).eraseIdxIfInBounds (i+1):=rfl;generalize hP:((aah st).setIfInBounds i (sa,na+nb,pw)).eraseIdxIfInBounds (i+1)=P at *
 generalize acy st P=Nd at *
 refine ZV (aP (by lia) ?_)
 refine ZV (d4 O L zF (hm (by lia)) (λx hx=>hm (by lia)) (by lia) (λx y h1 h2 h3=>s1 x y h1 h2 (by lia)) (by lia) λk k1 k2 k3=>?_)
 dsimp only;have g0:∀x,sa<=x->x<sa+k->le c (el a x) (el a sb):=λx h1 h2=>by
  have:=k2 (x-sa) (by lia)
  unfold eV at this;rw[ω (by simp),abQ,show sa+(x-sa)=x by lia]at this
  exact this
 by_cases e1:(na-k==0)=ζ
 ·rw[χ e1];have e1:na-k=0:=by simpa using e1
  refine Z5 (h Nd zF JJ Nc (by rw[JK];exact Rg.refl) ?_)
  rw[JK];intro x y h1 h2 h3
  by_cases hx:x<sb
  ·by_cases hy:y<sb
   ·exact s1 x y h1 h2 hy
   ·exact O.trans (g0 x h1 (by lia)) (s2 sb y (ZG _) (by lia) h3)
  ·exact s2 x y (by lia) h2 h3
 rw[ω e1];have e1:na-k≠0:=by simpa using e1
 have g1:c (el a sb) (el a (sa+k))=ζ:=by
  have:=k3 k (ZG _) (by lia)
  unfold eV at this;rw[ω (by simp),Bool.not_eq_false']at this
  exact this
 refine ZV (aP (by lia) ?_)
 refine ZV (d4 O L zF (hm (by lia)) (λx hx=>hm (by lia)) (by lia) (λx y h1 h2 h3=>s2 x y h1 h2 (by lia)) (by lia) λm m1 m2 m3=>?_)
 dsimp only;rw[show sa+k+(na-k)-1=sb-1 by lia]at m2 m3
 have g2:∀x,sb<=x->x<sb+m->c (el a x) (el a (sb-1))=ζ:=λx h1 h2=>by
  have:=m2 (x-sb) (by lia)
  unfold eV at this;rw[χ rfl,show sb+(x-sb)=x by lia]at this
  exact this
 have g3:∀x,sb+m<=x->x<sb+nb->le c (el a (sb-1)) (el a x):=λx h1 h2=>by
  have:=m3 (x-sb) (by lia) (by lia)
  unfold eV at this;rw[χ rfl,show sb+(x-sb)=x by lia]at this
  exact this
 by_cases e2:(m==0)=ζ
 ·exfalso
  have e2:m=0:=by simpa using e2
  have:=O.trans (s1 (sa+k) (sb-1) (by lia) (by lia) (by lia)) (g3 sb (by lia) (by lia))
  exact Η (g1.symm.trans this) (by simp)
 rw[ω e2];have e2:m≠0:=by simpa using e2
 have zx:(a.extract (sa+k) sb).size=sb-(sa+k):=oG (by lia)
 have zy:(a.extract sb (sb+m)).size=m:=by rw[oG (by lia)];lia
 have ex:∀{t},t<sb-(sa+k)->el (a.extract (sa+k) sb) t=el a (sa+k+t):=λht=>xn ht (by lia)
 have ey:∀{t},t<m->el (a.extract sb (sb+m)) t=el a (sb+t):=λht=>xn (by lia) (by lia)
 have fin:∀(out:Array ZQ) (fZ:aan),lq Nd fZ->Gd c (a.extract (sa+k) sb) (a.extract sb (sb+m)) out.toList ->
   wpS (Ψ prog w) A E s (do
    modify λs2=>aa8 s2 (out.toList.zipIdx.foldl (λx z=>match z with|(p,j)=>x.setIfInBounds (sa+k+j) p) (aar s2))
    let y <- get
    pure (acw y).isNone:StateT aan Sem Bool) Q fZ:=by
  rintro out fZ e ⟨gp,gs⟩;refine ZV (aca (ZV (acM (Z5 ?_))));show Q (acw fZ).isNone (aa8 fZ (Fu (aar fZ) (sa+k) out.toList));rw[e.fail,JJ,e.arr,JK];have zo:out.toList.length=sb-(sa+k)+m:=by
   rw[gp.length_eq,aad,ZX,ZX,zx,zy]
  have hb:sa+k+out.toList.length<=a.size:=by lia
  have xy:(a.toList.drop (sa+k)).take out.toList.length=(a.extract (sa+k) sb).toList++(a.extract sb (sb+m)).toList:=by
   rw[cA,cA,zo,show sb+m-sb=m by lia,List.take_add,List.drop_drop,show sa+k+(sb-(sa+k))=sb by lia]
  have R:Rg a (Fu a (sa+k) out.toList) (sa+k) (sa+k+out.toList.length):=Jn hb (by rw[xy];exact gp)
  refine h _ (e.kind.trans zF) (e.fail.trans JJ) (e.pend.trans Nc) (R.mono (by lia) (by lia)) ?_
  show SR c (Fu a (sa+k) out.toList) sa (sb+nb);have LF:∀t,sa+k<=t->t<sb+m->∃z,out.toList[t-(sa+k)]?=ν z/\el (Fu a (sa+k) out.toList) t=z/\((∃u,sa+k<=u/\u<sb/\z=el a u)\/∃u,sb<=u/\u<sb+m/\z=el a u):=by
   intro t h1 h2;have hl:t-(sa+k)<out.toList.length:=by lia
   refine{out.toList[t-(sa+k)],ZU hl,yX (by rw[qZ hb,χ (by lia)];exact ZU hl),?_}
   have DJ:=gp.mem_iff.mp (abV hl);rcases ZT.mp DJ with q|q
   ·exact .inl (yA (by lia) q)
   ·exact .inr (yA (by lia) q)
  have Wy:∀t,t<sa+k->el (Fu a (sa+k) out.toList) t=el a t:=λt ht=>R.out t (.inl ht);have QQ:∀t,sb+m<=t->el (Fu a (sa+k) out.toList) t=el a t:=λt ht=>R.out t (.inr (by lia))
  intro x y h1 h2 h3
  by_cases hx:x<sa+k
  ·rw[Wy x hx]
   by_cases hy:y<sa+k
   ·rw[Wy y hy];exact s1 x y h1 h2 (by lia)
   ·by_cases SY:y<sb+m
    ·obtain⟨z,_,ez,SX⟩:=LF y (by lia) SY
     rw[ez];rcases SX with⟨u,u1,u2,rfl⟩|⟨u,u1,u2,rfl⟩
     ·exact s1 x u h1 (by lia) u2
     ·exact O.trans (g0 x h1 hx) (s2 sb u (ZG _) u1 (by lia))
    ·rw[QQ y (by lia)]
     exact O.trans (g0 x h1 hx) (s2 sb y (ZG _) (by lia) h3)
  ·by_cases OA:x<sb+m
   ·obtain⟨z,iz,ez,SX⟩:=LF x (by lia) OA
    rw[ez]
    by_cases SY:y<sb+m
    ·obtain⟨z',XR,UN,_⟩:=LF y (by lia) SY
     rw[UN]
     by_cases Oy:x=y
     ·subst Oy;rw[ez]at UN;rw[UN];exact O.refl _
     ·obtain⟨q1,q2⟩:=Z1.mp iz;obtain⟨q3,q4⟩:=Z1.mp XR;have:=acX.mp gs _ _ q1 q3 (by lia)
      rw[q2,q4]at this;exact this
    ·rw[QQ y (by lia)]
     rcases SX with⟨u,u1,u2,rfl⟩|⟨u,u1,u2,rfl⟩
     ·exact O.trans (s1 u (sb-1) (by lia) (by lia) (by lia)) (g3 y (by lia) h3)
     ·exact s2 u y (by lia) (by lia) h3
   ·rw[QQ x (by lia),QQ y (by lia)]
    exact s2 x y (by lia) h2 h3
 have go:∀(out:Array ZQ) (fZ:aan),lq Nd fZ->Gd c (a.extract (sa+k) sb) (a.extract sb (sb+m)) out.toList->wpS (Ψ prog w) A E s (do
    modify λs2=>aa8 s2 (out.toList.zipIdx.foldl (λx z=>match z with|(p,j)=>x.setIfInBounds (sa+k+j) p) (aar s2))
    let y <- get
    pure (acw y).isNone:StateT aan Sem Bool) Q fZ:=fin
 have VY:0<(a.extract (sa+k) sb).size:=by lia
 have VX:0<(a.extract sb (sb+m)).size:=by lia
 have Sx:∀t,t<(a.extract (sa+k) sb).size->el (a.extract (sa+k) sb) t∈a₀.toList:=λt ht=>by rw[ex (by lia)];exact hm (by lia)
 have Sy:∀t,t<(a.extract sb (sb+m)).size->el (a.extract sb (sb+m)) t∈a₀.toList:=λt ht=>by rw[ey (by lia)];exact hm (by lia)
 have Vt:SR c (a.extract (sa+k) sb) 0 (a.extract (sa+k) sb).size:=λx y h1 h2 h3=>by
  rw[ex (by lia),ex (by lia)]
  exact s1 _ _ (by lia) (by lia) (by lia)
 have Vs:SR c (a.extract sb (sb+m)) 0 (a.extract sb (sb+m)).size:=λx y h1 h2 h3=>by
  rw[ey (by lia),ey (by lia)]
  exact s2 _ _ (by lia) (by lia) (by lia)
 have hf:c (el (a.extract sb (sb+m)) 0) (el (a.extract (sa+k) sb) 0)=ζ:=by
  rw[ex (by lia),ey (by lia)]
  exact g1
 have hl:∀y,y<(a.extract sb (sb+m)).size->c (el (a.extract sb (sb+m)) y) (el (a.extract (sa+k) sb) ((a.extract (sa+k) sb).size-1))=ζ:=λy hy=>by
  rw[ey (by lia),ex (by lia),show sa+k+((a.extract (sa+k) sb).size-1)=sb-1 by lia]
  exact g2 _ (by lia) (by lia)
 by_cases e3:na-k<=m
 ·rw[χ e3];exact ZV (vQ O L zF Sx Sy Vt Vs VY VX hf hl go)
 ·rw[ω e3];exact ZV (vR O L zF Sx Sy Vt Vs VY VX hf hl go)
end
section
variable {c:ZQ->ZQ->Bool}{a b:Array ZQ}
def Runs (c:ZQ->ZQ->Bool)(a:Array ZQ):List (Nat×Nat×Nat)->Nat->Nat->Prop
 |[],lo,hi=>lo=hi
 |z::r,lo,hi=>z.1=lo/\1<=z.2.1/\SR c a lo (lo+z.2.1)/\Runs c a r (lo+z.2.1) hi
theorem Runs.app:∀{l r:List (Nat×Nat×Nat)} {lo hi:Nat},Runs c a (l++r) lo hi->∃m,Runs c a l lo m/\Runs c a r m hi
 |[],r,lo,hi,h=>{(lo),rfl,h}
 |z::l,r,lo,hi,⟨h1,h2,h3,h4⟩=>by
  obtain⟨m,g1,g2⟩:=Runs.app h4;exact{m,{(h1),h2,h3,g1},g2}
theorem Runs.join:∀{l r:List (Nat×Nat×Nat)} {lo m hi:Nat},Runs c a l lo m->Runs c a r m hi->Runs c a (l++r) lo hi
 |[],r,lo,m,hi,h,g=>by
  obtain rfl:lo=m:=h;exact g
 |z::l,r,lo,m,hi,⟨h1,h2,h3,h4⟩,g=>{h1,h2,h3,Runs.join h4 g}
theorem Runs.len:∀{l:List (Nat×Nat×Nat)} {lo hi:Nat},Runs c a l lo hi->lo+l.length<=hi
 |[],lo,hi,h=>Nat.le_of_eq h
 |z::l,lo,hi,⟨h1,h2,h3,h4⟩=>by
  have:=Runs.len h4;rw[ZZ];lia
theorem Runs.congr:∀{l:List (Nat×Nat×Nat)} {lo hi:Nat},Runs c a l lo hi->(∀k,lo<=k->k<hi->el b k=el a k)->Runs c b l lo hi
 |[],lo,hi,h,_=>h
 |z::l,lo,hi,⟨h1,h2,h3,h4⟩,e=>by
  have hl:=Runs.len h4;exact{h1,h2,h3.congr λk g1 g2=>e k g1 (by lia),Runs.congr h4 λk g1 g2=>e k (by lia) g2}
theorem Runs.pow:∀{l l':List (Nat×Nat×Nat)} {lo hi:Nat},Runs c a l lo hi->l'.map (λz=>(z.1,z.2.1))=l.map (λz=>(z.1,z.2.1))->Runs c a l' lo hi
 |[],[],_,_,h,_=>h
 |[],z::l',_,_,_,e=>by cases e
 |z::l,[],_,_,_,e=>by cases e
 |z::l,z'::l',lo,hi,⟨h1,h2,h3,h4⟩,e=>by
  rw[aae,aae]at e;injection e with e1 e2
  injection e1 with e3 e4
  exact{e3.trans h1,by rw[e4];exact h2,by rw[e4];exact h3,by rw[e4];exact Runs.pow h4 e2}
end
section
variable {prog:ZN}{w:Z4}{A:aaJ}{E:ZF->ZH->Prop}{s:ZH}{κ:abU}{c:ZQ->ZQ->Bool}{a₀:Array ZQ}
def JO {α:Type}{l:List α}{i:Nat}(h:i+1<l.length):∃l1 x y l2,l=l1++x::y::l2/\l1.length=i:=by
 refine{l.take i,l[i],l[i+1],l.drop (i+2),?_,by rw[aai];lia}
 rw[<- aaL h,<- aaL (by lia),abL]
def pV (O:cz c)(L:fk prog w A E s κ c (·∈a₀.toList)){st:aan}{i hi:Nat}{Q:Bool->aan->Prop}(h0:lg κ a₀ st)(hr:Runs c (aar st) (aah st).toList 0 hi)(hh:hi<=a₀.size)(IK:i+1<(aah st).size)
  (h:∀aA,lg κ a₀ aA->Rg (aar st) (aar aA) 0 hi->Runs c (aar aA) (aah aA).toList 0 hi->(aah aA).size+1=(aah st).size->Q ζ aA) :
  wpS (Ψ prog w) A E s (mergeAt' i) Q st:=by
 obtain⟨l1,⟨sa,na,pw⟩,⟨sb,nb,R8⟩,l2,el,hl⟩:=JO (l:=(aah st).toList) (i:=i) (by rw[ZX];exact IK)
 rw[el]at hr;obtain⟨m,r1,r2⟩:=hr.app;obtain⟨x1,x2,x3,y1,y2,y3,r3⟩:=r2;dsimp only at x1 x2 x3 y1 y2 y3 r3;have hlen:=r3.len;have Wc:=r1.len;have p1:(aah st)[i]?=ν (sa,na,pw):=by
  rw[<- Z9,el,aaY (by lia),hl,acN]
  rfl
 have p2:(aah st)[i+1]?=ν (sb,nb,R8):=by
  rw[<- Z9,el,aaY (by lia),hl,show i+1-i=1 by lia]
  rfl
 subst x1;refine vT O L h0 p1 p2 y1 x2 y2 (by lia) (by rw[y1];exact x3) (by rw[y1];exact y3) λaA k1 k2 k3 R S=>?_
 have ep:(aah aA).toList=l1++(sa,na+nb,pw)::l2:=by
  rw[k3];have hz:i+1<((aah st).setIfInBounds i (sa,na+nb,pw)).size:=by rw[ac8];exact IK
  have e1:(((aah st).setIfInBounds i (sa,na+nb,pw)).eraseIdxIfInBounds (i+1)).toList=((aah st).toList.set i (sa,na+nb,pw)).eraseIdx (i+1):=by
   unfold Array.eraseIdxIfInBounds;rw[dif_pos hz,Array.toList_eraseIdx,Array.toList_setIfInBounds]
  rw[e1,el,<- hl,List.set_append_right _ _ (ZG _),acN,List.set_cons_zero,List.eraseIdx_append_of_length_le (by lia),show l1.length+1-l1.length=1 by lia]
  rfl
 have out:∀k,(k<sa\/sb+nb<=k)->TS.el (aar aA) k=TS.el (aar st) k:=R.out;refine h aA {k1,k2,R.perm.trans h0.perm} (R.mono (ZW _) (by lia)) ?_ ?_
 ·rw[ep];refine Runs.join (r1.congr λk g1 g2=>out k (.inl (by lia))) {rfl,by show 1<=na+nb;lia,?_,?_}
  ·show SR c (aar aA) sa (sa+(na+nb));rw[show sa+(na+nb)=sb+nb by lia]
   exact S
  ·show Runs c (aar aA) l2 (sa+(na+nb)) hi;rw[show sa+(na+nb)=sa+na+nb by lia]
   exact r3.congr λk g1 g2=>out k (.inr (by lia))
 ·have e2:(aah aA).size=l1.length+(l2.length+1):=by rw[<- ZX,ep,aad,ZZ]
  have e3:(aah st).size=l1.length+(l2.length+1+1):=by rw[<- ZX,el,aad,ZZ,ZZ]
  lia
theorem nL:∀(f n r:Nat),1<=n->1<=minRun' f n r
 |0,n,r,h=>by show 1<=n+r;lia
 |f+1,n,r,h=>by
  rw[minRun'_succ]
  split
  ·lia
  ·exact nL f _ _ (by lia)
def F9 (p:Array (Nat×Nat×Nat))(i w:Nat):(p.modify i λx=>(x.1,x.2.1,w)).toList.map (λz=>(z.1,z.2.1))=p.toList.map (λz=>(z.1,z.2.1)):=by
 apply abz;intro k;rw[ZS,ZS,Z9,Z9,Array.getElem?_modify]
 split
 ·rw[Option.map_map];rfl
 ·rfl
def sO (O:cz c)(L:fk prog w A E s κ c (·∈a₀.toList)){st:aan}{Q:Unit->aan->Prop}(h0:lg κ a₀ st)(hp:aah st=#[])(h2:2<=a₀.size)
  (h:∀aA,lg κ a₀ aA->SR c (aar aA) 0 a₀.size->Q () aA):wpS (Ψ prog w) A E s sortRuns' Q st:=by
 rw[sortRuns'_eq];refine ZV (acM ?_);dsimp only;rw[h0.size];have Yb:=nL a₀.size a₀.size 0 (by lia)
 generalize minRun' a₀.size a₀.size 0=mr at Yb;refine ZV (abt (aaZ (I:=λx r aA=>lg κ a₀ aA/\∃lo,r=(ξ,lo)/\lo<=a₀.size/\(a₀.size<=lo\/x<=lo)/\Runs c (aar aA) (aah aA).toList 0 lo)
  (Q:=λr aA=>lg κ a₀ aA/\r=(ξ,a₀.size)/\Runs c (aar aA) (aah aA).toList 0 a₀.size) ?_ ?_ ?_) ?_)
 ·rintro x r aA _ hx ⟨hS,lo,rfl,QG,Ye,hr⟩;dsimp only
  by_cases hl:lo >= a₀.size
  ·rw[χ hl];obtain rfl:lo=a₀.size:=by lia
   exact Z5 {(hS),rfl,hr}
  rw[ω hl];refine ZV (BA O L hS (by lia) (by lia) λn b n1 n2 R Sb=>?_)
  dsimp only;have vI:lg κ a₀ (aa8 aA b):=hS.set R;have og:Runs c (aar (aa8 aA b)) (aah (aa8 aA b)).toList 0 lo:=Runs.congr (b:=b) hr λk q1 q2=>R.out k (.inl q2);refine(λ(key:∀(N:Nat) (stx:aan),1<=N->lo+N<=a₀.size->Runs c (aar stx) (aah stx).toList 0 lo->lg κ a₀ stx->SR c (aar stx) lo (lo+N)->(?G:Nat->aan->Prop) N stx)=>?main) ?key
  case main =>
   by_cases V8:n<mr
   ·rw[χ V8];refine ZV (ac9 (abY {rfl,?_}));refine ZV (Jt O L vI (by lia) (by lia) (by lia) Sb λb' R' YU=>?_)
    rw[ω (by simp)]
    have QM:1<=min (a₀.size-lo) mr:=by lia
    have UB:lo+min (a₀.size-lo) mr<=a₀.size:=by lia
    have og:Runs c (aar (aa8 (aa8 aA b) b')) (aah (aa8 (aa8 aA b) b')).toList 0 lo:=Runs.congr (b:=b') og λk q1 q2=>R'.out k (.inl q2);have vI:lg κ a₀ (aa8 (aa8 aA b) b'):=vI.set R';have Jc:SR c (aar (aa8 (aa8 aA b) b')) lo (lo+(min (a₀.size-lo) mr)):=YU;generalize aa8 (aa8 aA b) b'=stx at og vI Jc ⊢
    generalize min (a₀.size-lo) mr=N at QM UB Jc ⊢
    exact key N stx QM UB og vI Jc
   ·rw[ω V8];have Jc:SR c (aar (aa8 aA b)) lo (lo+n):=Sb;exact key n _ n1 (by lia) og vI Jc
  case key =>
   intro N stx QM UB og vI Jc;refine ZV (acM ?_);have P9:∀(m8:aan),lg κ a₀ m8->SR c (aar m8) lo (lo+N)->Runs c (aar m8) (aah m8).toList 0 lo->lg κ a₀ (acy m8 ((aah m8).push (lo,N,0)))/\∃Ir,((ξ,lo+N):Option Unit×Nat)=(ξ,Ir)/\Ir<=a₀.size/\(a₀.size<=Ir\/x+1<=Ir)/\Runs c (aar m8) ((aah m8).push (lo,N,0)).toList 0 Ir:=λm8 g1 g2 g3 =>
    {{(g1.kind),g1.fail,g1.perm},_,rfl,by lia,by lia,by rw[abA];exact g3.join {(rfl),QM,g2,rfl}}
   cases hb:(aah stx).back? with
   |none =>
    dsimp only;exact ZV (aca (Z5 (P9 stx vI Jc og)))
   |some z =>
    obtain⟨s1,n1,p1⟩:=z;dsimp only;refine ZV (abt (aaZ (I:=λx r aA=>r=(ξ,())/\lg κ a₀ aA/\SR c (aar aA) lo (lo+N)/\Runs c (aar aA) (aah aA).toList 0 lo)
     (Q:=λr aA=>r=(ξ,())/\lg κ a₀ aA/\SR c (aar aA) lo (lo+N)/\Runs c (aar aA) (aah aA).toList 0 lo) ?_ ?_ ?_) ?_)
    ·rintro y r m8 _ _ ⟨rfl,g1,g2,g3⟩;refine ZV (acM ?_)
     by_cases Pe:(aah m8).size>1
     ·rw[χ Pe];cases hq:(aah m8)[(aah m8).size-2]? with
      |none =>
       dsimp only;exact Z5 {(rfl),g1,g2,g3}
      |some z =>
       obtain⟨u,v,VH⟩:=z;dsimp only
       split
       ·exact Z5 {(rfl),g1,g2,g3}
       ·refine ZV (pV O L g1 g3 (by lia) (by lia) λNb f1 f2 f3 f4=>?_)
        exact Z5 {rfl,f1,g2.congr λk q1 q2=>f2.out k (.inr q1),f3}
     ·rw[ω Pe];dsimp only;exact Z5 {(rfl),g1,g2,g3}
    ·rintro r m8 ⟨rfl,g1,g2,g3⟩;exact{(rfl),g1,g2,g3}
    ·exact{(rfl),vI,Jc,og}
    rintro r m8 ⟨rfl,g1,g2,g3⟩;dsimp only;refine ZV (aca (ZV (aca (Z5 ?_))));exact P9 (acy m8 _) {(g1.kind),g1.fail,g1.perm} g2 (g3.pow (F9 _ _ _))
 ·rintro r aA ⟨hS,lo,rfl,QG,Ye,hr⟩;obtain rfl:lo=a₀.size:=by lia
  exact{(hS),rfl,hr}
 ·exact{h0,0,rfl,ZW _,.inr (ZG _),by rw[hp];rfl}
 rintro r aA ⟨hS,rfl,hr⟩;dsimp only;refine ZV (abt (aaZ (I:=λx r aA=>r=(ξ,())/\lg κ a₀ aA/\Runs c (aar aA) (aah aA).toList 0 a₀.size/\((aah aA).size<=1\/(aah aA).size+x<=a₀.size))
  (Q:=λr aA=>r=(ξ,())/\lg κ a₀ aA/\Runs c (aar aA) (aah aA).toList 0 a₀.size/\(aah aA).size<=1) ?_ ?_ ?_) ?_)
 ·rintro x r fZ _ hx ⟨rfl,vI,og,hz⟩;refine ZV (acM ?_)
  by_cases h1:(aah fZ).size<=1
  ·rw[χ h1];exact Z5 {(rfl),vI,og,h1}
  rw[ω h1];refine ZV (pV O L vI og (ZG _) ?_ λm8 Yy R3 X3 Zl=>?_)
  ·split
   ·split <;> lia
   ·rw[ω (by simp)]
    lia
  ·exact Z5 {rfl,Yy,X3,.inr (by lia)}
 ·rintro r fZ ⟨rfl,vI,og,hz⟩;exact{rfl,vI,og,by lia}
 ·refine{rfl,hS,hr,.inr ?_};have:=hr.len;rw[ZX]at this;lia
 ·rintro r fZ ⟨rfl,vI,og,hz⟩;refine Z5 (h fZ vI ?_)
  match hq:(aah fZ).toList,og with
  |[],e=>
   have:(0:Nat)=a₀.size:=e;lia
  |[z],e =>
   obtain⟨e1,e2,e3,e4⟩:=e;have e4:0+z.2.1=a₀.size:=e4;rw[e4]at e3;exact e3
  |z::y::l,e =>
   have:(aah fZ).toList.length<=1:=by rw[ZX];exact hz
   rw[hq]at this;simp at this
end
def lex_nil {y:List Int}:HT.lexLt [] y=decide (0<y.length):=by cases y <;> rfl
def gG {a b:Int}{x y:List Int}:HT.lexLt (a::x) (b::y)=if a=b then HT.lexLt x y else decide (a<b):=rfl
theorem nS:∀{x y:List Int},HT.lexLt x y=ζ->HT.lexLt y x=η
 |[],[],_=>rfl
 |[],_::_,_=>rfl
 |_::_,[],h=>by cases h
 |a::x,b::y,h=>by
  rw[gG]at h ⊢
  by_cases e:a=b
  ·rw[χ e]at h;rw[χ e.symm];exact nS h
  ·rw[ω e]at h;rw[ω λz=>e z.symm];have:=of_decide_eq_true h;exact Δ (by lia)
theorem rW:∀{x z:List Int} (y:List Int),HT.lexLt x z=ζ->HT.lexLt x y=ζ\/HT.lexLt y z=ζ
 |[],[],_,h=>by cases h
 |[],_::_,[],h=>.inr rfl
 |[],_::_,_::_,h=>.inl rfl
 |_::_,[],_,h=>by cases h
 |a::x,b::z,[],h=>.inr rfl
 |a::x,b::z,d::y,h=>by
  rw[gG]at h ⊢
  rw[gG]
  by_cases e:a=b
  ·subst e;rw[χ rfl]at h
   by_cases e2:a=d
   ·subst e2;rw[χ rfl,χ rfl];exact rW y h
   ·rw[ω e2,ω λq=>e2 q.symm]
    by_cases e3:a<d
    ·exact .inl (Γ e3)
    ·exact .inr (Γ (by lia))
  ·rw[ω e]at h;have h:=of_decide_eq_true h
   by_cases e2:a=d
   ·subst e2;rw[ω e];exact .inr (Γ h)
   ·rw[ω e2]
    by_cases e3:a<d
    ·exact .inl (Γ e3)
    ·rw[ω (by lia)]
     exact .inr (Γ (by lia))
theorem kJ:∀{x y:List Int},HT.lexLt x y=η->HT.lexLt y x=η->x=y
 |[],[],_,_=>rfl
 |[],_::_,h,_=>by cases h
 |_::_,[],_,h=>by cases h
 |a::x,b::y,h1,h2=>by
  rw[gG]at h1 h2
  by_cases e:a=b
  ·subst e;rw[χ rfl]at h1 h2;rw[kJ h1 h2]
  ·rw[ω e]at h1;rw[ω λq=>e q.symm]at h2;have h1:=of_decide_eq_false h1;have h2:=of_decide_eq_false h2;lia
def byKey (kf:ZF->List Int)(x y:ZQ):Bool:=HT.lexLt (kf x.1) (kf y.1)
def Gj (kf:ZF->List Int):cz (byKey kf):={λ_ _ h=>nS h,λ_ y _ h=>rW (kf y.1) h}
section
variable {prog:ZN}{w:Z4}{A:aaJ}{E:ZF->ZH->Prop}{s:ZH}
theorem ur {b:Bool}{Q:Bool->ZH->Prop}:∀{ns ms:List Int} {us vs:List ZF} (i:Nat),abl us ns->abl vs ms->Q (HT.lexLt ns ms) s->PySem.W.KatLex prog w A b (decide (ns.length<ms.length)) Q (us.zip vs) i s
 |[],ms,us,vs,i,hu,hv,q=>by
  cases hu;rw[ac4];rw[lex_nil]at q;exact PySem.W.kat_nil q
 |n::ns,[],us,vs,i,hu,hv,q=>by
  cases hv;rw[List.zip_nil_right];exact PySem.W.kat_nil q
 |n::ns,m::ms,us,vs,i,hu,hv,q=>by
  cases hu with
  |cons _ t hu =>
   cases hv with
   |cons _ t' hv =>
    rw[ab1];refine PySem.W.kat_cons (wpAny_eqBool_int ?_);rw[gG]at q
    by_cases e:n=m
    ·subst e;rw[χ rfl]at q;rw[beq_self_eq_true];have:=ur (b:=b) (Q:=Q) (i+1) hu hv q;rw[show decide ((n::ns).length<(n::ms).length)=decide (ns.length<ms.length) by rw[ZZ,ZZ];congr 1;simp]
     exact PySem.W.kat_yes this
    ·rw[ω e]at q;rw[show (n==m)=η from beq_eq_false_iff_ne.mpr e]
     refine PySem.W.kat_no ?_;cases b&&i==0 with
     |true=>exact oneLt_int q
     |false=>exact PySem.W.kat_one _ _ (lt_int q)
def pR (h:Heap)(kf:ZF->List Int)(a:θ)(vs:List ZF):Prop :=
 ∀v∈vs,∃t o xs k,v=.ref t/\t≠a/\h.get? t=ν o/\o.cls=.type "tuple" /\ o.data=.seq xs k/\abl xs.toList (kf v)/\kf v≠[]
def Aj {kf:ZF->List Int}{a:θ}{vs:List ZF}{b:Bool}{a₀:Array ZQ}(T:pR s.heap kf a vs)(hm:∀z∈a₀.toList,z.1∈vs):fk prog w A E s (tuples' b) (byKey kf) (·∈a₀.toList):=by
 intro x y st Q hx hy hk q;obtain⟨t,o,xs,n,e1,_,e2,_,e3,e4,_⟩:=T _ (hm _ hx);obtain⟨t',o',Qg,n',f1,_,f2,_,f3,f4,_⟩:=T _ (hm _ hy);rw[lt'_eq];refine ZV (acM ?_);rw[hk,e1,f1];have z1:xs.size=(kf x.1).length:=by rw[<- ZX];exact e4.length
 have z2:Qg.size=(kf y.1).length:=by rw[<- ZX];exact f4.length
 refine ZV (ac9 (acz (PySem.W.kat_lt e2 e3 f2 f3 ?_)));rw[z1,z2];exact ur 0 e4 f4 {rfl,Z5 q}
theorem mW {kf:ZF->List Int}{a:θ}{h:Heap}:∀{vs:List ZF},pR h kf a vs->∃fs:List ZF,PySem.W.KatTups h vs fs/\fs.length=vs.length/\∀f∈fs,∃n t,f=Value.int n t
 |[],_=>{[],tv,rfl,λf hf=>by cases hf}
 |v::vs,T=>by
  obtain⟨fs,h1,h2,h3⟩:=mW (vs:=vs) λu hu=>T u (ZP _ hu);obtain⟨t,o,xs,k,rfl,_,e2,e3,e4,e5,e6⟩:=T v ZO;obtain⟨f,r,ef,n,tk,hn⟩:∃f r,xs.toList=f::r/\∃n tk,f=Value.int n tk:=by
   generalize kf (.ref t)=ks at e5 e6;generalize xs.toList=us at e5;cases e5 with
   |nil=>exact Η rfl e6
   |cons n tk r=>exact{_,_,rfl,_,_,rfl}
  have e:xs[0]?=ν f:=by rw[<- Z9,ef];rfl
  exact⟨f::fs,PySem.W.KatTups.cons e2 e3 e4 e h1,by rw[ZZ,ZZ,h2],λg hg=>by
   rcases ZI.mp hg with rfl|hg
   ·exact{_,_,hn}
   ·exact h3 g hg⟩
def Ao {kf:ZF->List Int}{a:θ}{vs:List ZF}{Q:abU->ZH->Prop}(T:pR s.heap kf a vs)(h0:0<vs.length)(q:Q (tuples' ζ) s):aab (Ψ prog w) A (keyKind' vs.toArray) Q E s:=by
 obtain⟨fs,h1,h2,h3⟩:=mW T;refine PySem.W.kat_kind (T:=.type "int") h1 (by lia) (λv hv=>?_) (by decide) q
 obtain⟨n,t,rfl⟩:=h3 v hv;exact .now
theorem B8 {α:Type}{R:α->α->Prop}:∀{l:List α},l.length<2->l.Pairwise R
 |[],_=>.nil
 |[x],_=>acs _ _
 |_::_::_,h=>by
  rw[ZZ,ZZ]at h;lia
def nR {a:θ}{vs:List ZF}{n:Nat}{κ:abU}{c:ZF->ZF->Bool}{P:PySem.Fin->ZH->Prop}(ho:s.heap.get? a=ν (abC "list" vs.toArray n))(hz:vs.length<=1000000)(O:cz λx y=>c x.1 y.1)
  (T:∀s':ZH,(∀t o,t≠a->s.heap.get? t=ν o->s'.heap.get? t=ν o)->(2<=vs.length->∀(Q:abU->ZH->Prop),Q κ s'->aab (Ψ prog w) A (keyKind' vs.toArray) Q E s')/\fk prog w A E s' κ (λx y=>c x.1 y.1) (·∈(vs.toArray.zip vs.toArray).toList))
  (h:∀out:List ZF,out.Perm vs->out.Pairwise (λx y=>c y x=η)->P (.done (.ret .none)) {s with heap:=sortedHeap s.heap a vs out.toArray}) :
  aab (Ψ prog w) A (abM.«list.sort» {[.ref a],[]}) P E s:=by
 have la:a<s.heap.objs.size:=Z6 ho;obtain⟨ep,hc⟩:∃ep,(s.heap.update a (acb λ_=>#[])).get? a=ν (abC "list" #[] ep):={_,get?_update_seq ho (λ_=>#[])};have old:∀t o,t≠a->s.heap.get? t=ν o->(((s.heap.update a (acb λ_=>#[])).push (abC "tuple" vs.toArray 0)).push (abC "list" #[] 0)).get? t=ν o:=λt o ht e =>
  ZM _ (ZM _ (by rw[Heap.get?_update_ne _ _ _ _ ht];exact e))
 have lY:(((s.heap.update a (acb λ_=>#[])).push (abC "tuple" vs.toArray 0)).push (abC "list" #[] 0)).get? a=ν (abC "list" #[] ep):=ZM _ (ZM _ hc);have big:∀m:Nat,m<=vs.length->m<=Z3:=λm hm=>by rw[aaQ];lia
 have zz:vs.toArray.size=vs.length:=by simp
 rw[list_sort_plain];refine ZD (listItems_at ho rfl ?_);refine ZD (listUpdate_at ho rfl ?_ (big _ (Nat.le_of_eq zz)) (ZW _));refine ZD (seqEpoch_at hc rfl ?_);refine ZD (wpAny_newTuple ?_ (big _ (ZG _)));refine ZD (wpAny_newList ?_ (ZW _));refine aa6 ?_;show aab (Ψ prog w) A _ P E {s with heap:=((s.heap.update a (acb λ_=>#[])).push (abC "tuple" vs.toArray 0)).push (abC "list" #[] 0)}
 dsimp only;have done:∀aA:aan,(aar aA).Perm (vs.toArray.zip vs.toArray)->(aar aA).toList.Pairwise (le λx y=>c x.1 y.1)->P (.done (.ret .none)) {s with heap:=sortedHeap s.heap a vs ((aar aA).map (·.2))}:=λaA hp hs=>by
  have h1:∀z∈(aar aA).toList,z.1=z.2:=λz hz=>by
   have:=(acf.mp hp).mem_iff.mp hz;rw[adi]at this;obtain⟨i,hi⟩:=List.getElem?_of_mem this;rw[List.getElem?_zip_eq_some]at hi;exact aao (hi.1.symm.trans hi.2)
  have e2:(aar aA).map (·.2)=((aar aA).toList.map (·.2)).toArray:=by
   apply Array.toList_inj.mp;rw[Array.toList_map]
  rw[e2];refine h _ ?_ ?_
  ·have:=(acf.mp hp).map (λz:ZQ=>z.2);rw[adi]at this;refine this.trans (acK ?_);exact List.map_snd_zip (by simp)
  ·rw[aa7];refine hs.imp_of_mem λ{x y} hx hy hl=>?_;rw[<- h1 x hx,<- h1 y hy];exact hl
 by_cases h2:vs.toArray.size<2
 ·rw[χ h2,χ h2];refine ZD (ZL ?_);rw[StateT.run_pure];refine ZD (ZL ?_);dsimp only;refine ZD (seqEpoch_at lY rfl ?_);refine ZD (listUpdate_at lY rfl ?_ (ZW _) (by rw[Array.size_map,Array.size_zip];exact aaj (big _ (by lia)) (Nat.le_succ _)))
  simp only[bne_self_eq_false,Bool.false_eq_true,if_false];refine ZL (done (SortSt.mk' general' (vs.toArray.zip vs.toArray) #[] 7 ξ) (Array.Perm.refl _) ?_);refine B8 ?_;show (vs.toArray.zip vs.toArray).toList.length<2;rw[ZX,Array.size_zip];lia
 ·rw[ω h2,ω h2];obtain⟨hK,L⟩:=T {s with heap:=((s.heap.update a (acb λ_=>#[])).push (abC "tuple" vs.toArray 0)).push (abC "list" #[] 0)} old
  refine ZD (hK (by lia) _ ?_)
  have zp:(vs.toArray.zip vs.toArray).size=vs.length:=by rw[Array.size_zip];lia
  refine ZD (acP (sO (Q:=λ_ aA=>(aar aA).Perm (vs.toArray.zip vs.toArray)/\acw aA=ξ/\SR (λx y=>c x.1 y.1) (aar aA) 0 vs.length) O L
   (st:=SortSt.mk' κ (vs.toArray.zip vs.toArray) #[] 7 ξ) {rfl,rfl,Array.Perm.refl _} rfl (by lia) λaA g1 g2=>{g1.perm,g1.fail,by rw[zp]at g2;exact g2}) ?_ λ_ _ e=>e)
  rintro⟨⟨⟩,aA⟩ s' ⟨rfl,hp,hf,hs⟩;dsimp only;have zs:(aar aA).size=vs.length:=hp.size_eq.trans zp;refine ZD (seqEpoch_at lY rfl ?_);refine ZD (listUpdate_at lY rfl ?_ (ZW _) (by rw[Array.size_map,zs];exact aaj (big _ (ZG _)) (Nat.le_succ _)))
  rw[hf];simp only[bne_self_eq_false,Bool.false_eq_true,if_false];refine ZL (done aA hp ?_);rw[acX];intro i j hi hj aG;rw[ZX]at hi hj;have:=hs i j (ZW _) (by lia) (by lia)
  have ei:el (aar aA) i=(aar aA).toList[i]:=yX (by rw[<- Z9];exact ZU _)
  have ej:el (aar aA) j=(aar aA).toList[j]:=yX (by rw[<- Z9];exact ZU _)
  rw[ei,ej]at this;exact this
def nQ {a:θ}{vs:List ZF}{n:Nat}{kf:ZF->List Int}{P:PySem.Fin->ZH->Prop}(ho:s.heap.get? a=ν (abC "list" vs.toArray n))(hz:vs.length<=1000000)(T:pR s.heap kf a vs)
  (h:∀out:List ZF,out.Perm vs->out.Pairwise (λx y=>HT.lexLt (kf y) (kf x)=η)->P (.done (.ret .none)) {s with heap:=sortedHeap s.heap a vs out.toArray}) :
  aab (Ψ prog w) A (abM.«list.sort» {[.ref a],[]}) P E s:=by
 refine nR (κ:=tuples' ζ) (c:=λx y=>HT.lexLt (kf x) (kf y)) ho hz (Gj kf) (λs' kp=>?_) h;have T':pR s'.heap kf a vs:=λv hv=>by
  obtain⟨t,o,xs,k,e1,e2,e3,r⟩:=T v hv;exact{t,o,xs,k,e1,e2,kp t o e2 e3,r}
 exact⟨λh2 Q q=>Ao T' (by lia) q,Aj T' λz hz=>by
  rw[adi]at hz;exact(acI hz).1⟩
end
end TS
namespace ST
open PySem PyProof.Rows
section
variable {prog:ZN}{w:Z4}{A:aaJ}{E:ZF->ZH->Prop}{s:ZH}
abbrev TK (prog:ZN)(w:Z4):=adb (intKind prog w)
abbrev kH (prog:ZN)(w:Z4)(k:List Int):Int:=(TK prog w).hash k
abbrev ent (prog:ZN)(w:Z4)(x:θ×List Int):Int×ZF:=(kH prog w x.2,.ref x.1)
structure cW (prog:ZN)(w:Z4)(o:Obj)(ts:List (θ×List Int))(es:Array (Int×ZF))(ep:Nat)(t:SetTable):Prop where
 ex:o.ExactSet
 dat:o.data=.set es ep t
 L4:es.toList=ts.map (ent prog w)
 wf:WF t (ts.map λx=>kH prog w x.2)
 RL:t.place.size*5<t.mask*3
 Ip:t.mask<=8191
 led:t.led=!w.params.followText "set-order"
 MB:t.plain=ζ
 Sl:(ts.map (·.2)).Nodup
def Fo (prog:ZN)(w:Z4)(h:Heap)(ts:List (θ×List Int)):Prop:=∀x∈ts,(TK prog w).is h x.2 x.1
def cW.fits {o:Obj}{ts:List (θ×List Int)}{es:Array (Int×ZF)}{ep:Nat}{t:SetTable}(S:cW prog w o ts es ep t):t.fits es.size=ζ:=by
 have h1:=S.wf.sz;have h2:es.size=ts.length:=by rw[<- ZX,S.L4,ZE]
 rw[ZE]at h1;unfold SetTable.fits SetTable.fill;rw[S.wf.MM,h2,h1];have:=S.RL;simp;lia
def cW.size {o:Obj}{ts:List (θ×List Int)}{es:Array (Int×ZF)}{ep:Nat}{t:SetTable}(S:cW prog w o ts es ep t):es.size=ts.length/\t.place.size=ts.length:=by
 have h1:=S.wf.sz;rw[ZE]at h1;exact{by rw[<- ZX,S.L4,ZE],h1}
def AW (d:Nat)(n:Int)(tk:Tok):ofAClassStatement d (.int n tk)=pure η:=by
 cases d <;> rfl
def sR {k:List Int}{b:θ}{Q:Bool->ZH->Prop}(hk:(TK prog w).is s.heap k b)(q:Q η s):aab (Ψ prog w) A (ofAClassStatement 8 (.ref b)) Q E s:=by
 obtain⟨o,items,n,ho,hc,hd,hi⟩:=hk;have hT:s.TypeIs (.ref b) "tuple" := {(o),ho,hc};unfold ofAClassStatement;refine ZD (wpAny_typeOf hT ?_);dsimp only;rw[χ (by rfl)]
 refine ZD (ZL ?_);rw[ω (by simp)]
 refine ZD (abu ho hd ?_);dsimp only;rw[<- Array.forIn_toList];refine ZD (ac_ _ (λrest r s'=>r=(ξ,())/\s'=s/\∀v∈rest,∃n tk,v=Value.int n tk) _ ?_ ?_ _ _ {rfl,rfl,?_})
 ·rintro v rest r s' ⟨rfl,rfl,kS⟩;obtain⟨n,tk,rfl⟩:=kS v ZO;rw[AW];refine ZD (ZL ?_);rw[ω (by simp)]
  exact ZL {rfl,rfl,λu hu=>kS u (ZP _ hu)}
 ·rintro r s' ⟨rfl,rfl,_⟩;exact ZL q
 ·generalize items.toList=vs at hi
  induction hi with
  |nil=>intro v hv;cases hv
  | @cons k v ks vs h1 h2 ih =>
   intro u hu;rcases ZI.mp hu with rfl|hu
   ·obtain⟨t,rfl⟩:=Value.isInt_shape h1;exact{_,_,rfl}
   ·exact ih u hu
def Fv {k:List Int}{b:θ}(hk:(TK prog w).is s.heap k b)(l:List (θ×List Int)){Q:Bool->ZH->Prop}(T:Fo prog w s.heap l)(q:Q η s):aab (Ψ prog w) A (searchCouldBeSeen (.ref b) (l.map λx=>Φ x.1)) Q E s:=by
 unfold searchCouldBeSeen;refine ZD (ac_ _ (λrest r s'=>r=(ξ,())/\s'=s/\∀v∈rest,∃x∈l,v=Φ x.1) _ ?_ ?_ _ _ {rfl,rfl,?_})
 ·rintro v rest r s' ⟨rfl,rfl,kS⟩;obtain⟨x,hx,rfl⟩:=kS v ZO;have IP:∀v∈rest,∃x∈l,v=Φ x.1:=λu hu=>kS u (ZP _ hu);dsimp only
  split
  ·exact ZL {(rfl),rfl,IP}
  ·refine ZD ((TK prog w).quiet hk ?_);rw[ω (by simp)]
   refine ZD ((TK prog w).quiet (T x hx) ?_);rw[ω (by simp)]
   refine ZD (sR hk ?_);rw[ω (by simp)]
   refine ZD (sR (T x hx) ?_);rw[ω (by simp)]
   exact ZL {(rfl),rfl,IP}
 ·rintro r s' ⟨rfl,rfl,_⟩;exact ZL q
 ·intro v hv;obtain⟨x,hx,rfl⟩:=Z0.mp hv;exact{(x),hx,rfl}
end
end ST
namespace L2
open PySem PySem.Spec PyProof.Rows
inductive D where
 |cf|bl (b:Bool)|int (i:Int)|str (x:Str)|obj (a:θ)
 |tup (ds:List D)|lst (ds:List D)
 |dT (ks:List (List Key)) (ds:List D)|dK (ks:List Key) (ds:List D)
 |sT (ts:List (List Int))
 |ob (φ:θ->HO)
def JR (P:ZN)(w:Z4)(a:θ)(ts:List (θ×List Int))(h:Heap):Prop:=∃o es ep t,h.get? a=ν o/\ST.cW P w o ts es ep t
abbrev lj (P:ZN)(w:Z4)(a:θ)(ts:List (θ×List Int)):HO:=.ext (JR P w a ts)
def HV (P:ZN)(w:Z4)(H:Hp)(a:θ)(ts:List (List Int)):Prop :=
 ∃bF:List (θ×List Int),H a=ν (lj P w a bF)/\(∀x∈bF,H x.1=ν (.tup (x.2.map V.int)))/\(bF.map (·.2)).Perm ts
section
variable (P:ZN)(w:Z4)(W:θ->Prop)(H:Hp)
mutual
def az:D->V->Prop
 |.cf,v=>v=.cf
 |.bl b,v=>v=.bl b
 |.int i,v=>v=.int i
 |.str x,v=>v=.str x
 |.obj a,v=>v=.ref a
 |.tup ds,v=>∃a vs,v=.ref a/\H a=ν (.tup vs)/\ai ds vs
 |.lst ds,v=>∃a vs,v=.ref a/\H a=ν (.lst vs)/\¬ W a/\ai ds vs
 |.dT ks ds,v=>∃a vs,v=.ref a/\H a=ν (.dT (ks.zip vs))/\ks.length=vs.length/\¬ W a/\ai ds vs
 |.dK ks ds,v=>∃a vs,v=.ref a/\H a=ν (.dK (ks.zip vs))/\ks.length=vs.length/\¬ W a/\ai ds vs
 |.sT ts,v=>∃a,v=.ref a/\HV P w H a ts/\¬ W a
 |.ob φ,v=>∃a,v=.ref a/\(H a=ν (φ a)/\∀xs,φ a≠.tup xs)/\¬ W a
def ai:List D->List V->Prop
 |[],vs=>vs=[]
 |d::ds,vs=>∃v r,vs=v::r/\az d v/\ai ds r
end
end
mutual
def D.flat:D->Bool
 |.tup ds=>D.cb ds
 |.lst _=>η
 |.dT _ _=>η
 |.dK _ _=>η
 |.sT _=>η
 |.ob _=>η
 |_=>ζ
def D.cb:List D->Bool
 |[]=>ζ
 |d::ds=>D.flat d&&D.cb ds
end
structure Kp (W:θ->Prop)(H H':Hp):Prop where
 out:∀b o,H b=ν o->¬ W b->H' b=ν o
 tup:∀b xs,H b=ν (.tup xs)->H' b=ν (.tup xs)
def Kp.refl {W:θ->Prop}{H:Hp}:Kp W H H:={λ_ _ e _=>e,λ_ _ e=>e}
def Kp.trans {W:θ->Prop}{H H1 H2:Hp}(a:Kp W H H1)(b:Kp W H1 H2):Kp W H H2:={λc o e n=>b.out c o (a.out c o e n) n,λc xs e=>b.tup c xs (a.tup c xs e)}
def au.kp {W:θ->Prop}{H H':Hp}(h:au H H'):Kp W H H':={λb o e _=>h b o e,λb xs e=>h b _ e}
def Kp.mono {W W':θ->Prop}{H H':Hp}(h:Kp W H H')(s:∀a,W a->W' a):Kp W' H H':={λb o e n=>h.out b o e λz=>n (s b z),h.tup}
section
variable {P:ZN}{w:Z4}{W W':θ->Prop}{H H':Hp}
mutual
theorem az.keep (k:Kp W H H'):∀{d:D} {v:V},az P w W H d v->az P w W H' d v
 |.cf,_,h=>h
 |.bl _,_,h=>h
 |.int _,_,h=>h
 |.str _,_,h=>h
 |.obj _,_,h=>h
 |.tup ds,_,⟨a,vs,e,t,r⟩=>{a,vs,e,k.tup a vs t,ai.keep k r}
 |.lst ds,_,⟨a,vs,e,t,n,r⟩=>{a,vs,e,k.out a _ t n,n,ai.keep k r}
 |.dT ks ds,_,⟨a,vs,e,t,l,n,r⟩=>{a,vs,e,k.out a _ t n,l,n,ai.keep k r}
 |.dK ks ds,_,⟨a,vs,e,t,l,n,r⟩=>{a,vs,e,k.out a _ t n,l,n,ai.keep k r}
 |.sT ts,_,⟨a,e,⟨bF,t,r,z⟩,n⟩=>{a,e,{bF,k.out a _ t n,λx hx=>k.tup _ _ (r x hx),z},n}
 |.ob φ,_,⟨a,e,⟨t,z⟩,n⟩=>{a,e,{k.out a _ t n,z},n}
theorem ai.keep (k:Kp W H H'):∀{ds:List D} {vs:List V},ai P w W H ds vs->ai P w W H' ds vs
 |[],_,h=>h
 |d::ds,_,⟨v,r,e,h1,h2⟩=>{v,r,e,az.keep k h1,ai.keep k h2}
end
mutual
theorem az.aZ (s:∀a,W' a->W a):∀{d:D} {v:V},az P w W H d v->az P w W' H d v
 |.cf,_,h=>h
 |.bl _,_,h=>h
 |.int _,_,h=>h
 |.str _,_,h=>h
 |.obj _,_,h=>h
 |.tup ds,_,⟨a,vs,e,t,r⟩=>{a,vs,e,t,ai.aZ s r}
 |.lst ds,_,⟨a,vs,e,t,n,r⟩=>{a,vs,e,t,λz=>n (s a z),ai.aZ s r}
 |.dT ks ds,_,⟨a,vs,e,t,l,n,r⟩=>{a,vs,e,t,l,λz=>n (s a z),ai.aZ s r}
 |.dK ks ds,_,⟨a,vs,e,t,l,n,r⟩=>{a,vs,e,t,l,λz=>n (s a z),ai.aZ s r}
 |.sT ts,_,⟨a,e,t,n⟩=>{a,e,t,λz=>n (s a z)}
 |.ob φ,_,⟨a,e,t,n⟩=>{a,e,t,λz=>n (s a z)}
theorem ai.aZ (s:∀a,W' a->W a):∀{ds:List D} {vs:List V},ai P w W H ds vs->ai P w W' H ds vs
 |[],_,h=>h
 |d::ds,_,⟨v,r,e,h1,h2⟩=>{v,r,e,az.aZ s h1,ai.aZ s h2}
end
mutual
theorem az.flat:∀{d:D} {v:V},d.flat=ζ->az P w W H d v->az P w W' H d v
 |.cf,_,_,h=>h
 |.bl _,_,_,h=>h
 |.int _,_,_,h=>h
 |.str _,_,_,h=>h
 |.obj _,_,_,h=>h
 |.tup ds,_,f,⟨a,vs,e,t,r⟩=>{a,vs,e,t,ai.flat (by simpa[D.flat] using f) r}
 |.lst ds,_,f,_=>by simp[D.flat]at f
 |.dT ks ds,_,f,_=>by simp[D.flat]at f
 |.dK ks ds,_,f,_=>by simp[D.flat]at f
 |.sT ts,_,f,_=>by simp[D.flat]at f
 |.ob φ,_,f,_=>by simp[D.flat]at f
theorem ai.flat:∀{ds:List D} {vs:List V},D.cb ds=ζ->ai P w W H ds vs->ai P w W' H ds vs
 |[],_,_,h=>h
 |d::ds,_,f,⟨v,r,e,h1,h2⟩=>by
  have f':(d.flat&&D.cb ds)=ζ:=f;rw[aaK]at f';exact{v,r,e,az.flat f'.1 h1,ai.flat f'.2 h2}
end
def az.same (s:au H H'){d:D}{v:V}(h:az P w W H d v):az P w W H' d v:=h.keep s.kp
def ai.same (s:au H H'){ds:List D}{vs:List V}(h:ai P w W H ds vs):ai P w W H' ds vs:=h.keep s.kp
theorem ai.length:∀{ds:List D} {vs:List V},ai P w W H ds vs->vs.length=ds.length
 |[],_,h=>by rw[show _=[] from h];rfl
 |d::ds,_,⟨v,r,e,h1,h2⟩=>by rw[e,ZZ,ZZ,ai.length h2]
theorem ai.get:∀{ds:List D} {vs:List V} {i:Nat} {d:D},ai P w W H ds vs->ds[i]?=ν d->∃v,vs[i]?=ν v/\az P w W H d v
 |[],_,_,_,_,e=>by simp at e
 |d::ds,_,0,_,⟨v,r,e,h1,h2⟩,e'=>by simp at e';subst e' e;exact{v,by simp,h1}
 |d::ds,_,i+1,_,⟨v,r,e,h1,h2⟩,e'=>by
  subst e;obtain⟨u,e1,e2⟩:=ai.get (i:=i) h2 (by simpa using e')
  exact{u,by simpa using e1,e2}
theorem ai.append:∀{ds ds':List D} {vs vs':List V},ai P w W H ds vs->ai P w W H ds' vs'->ai P w W H (ds++ds') (vs++vs')
 |[],_,_,_,h,h'=>by rw[show _=[] from h];exact h'
 |d::ds,_,_,_,⟨v,r,e,h1,h2⟩,h'=>by subst e;exact{v,_,rfl,h1,ai.append h2 h'}
def ai.one {d:D}{v:V}(h:az P w W H d v):ai P w W H [d] [v]:={v,[],rfl,h,rfl}
theorem ai.take:∀{ds:List D} {vs:List V} (n:Nat),ai P w W H ds vs->ai P w W H (ds.take n) (vs.take n)
 |[],_,n,h=>by rw[show _=[] from h];simp[ai]
 |d::ds,_,0,_=>by simp[ai]
 |d::ds,_,n+1,⟨v,r,e,h1,h2⟩=>by subst e;exact{v,_,rfl,h1,ai.take n h2}
theorem ai.drop:∀{ds:List D} {vs:List V} (n:Nat),ai P w W H ds vs->ai P w W H (ds.drop n) (vs.drop n)
 |[],_,n,h=>by rw[show _=[] from h];simp[ai]
 |d::ds,_,0,h=>h
 |d::ds,_,n+1,⟨v,r,e,h1,h2⟩=>by subst e;exact ai.drop n h2
end
open PySem.SeqAt
abbrev Dm (W:θ->Prop)(H:Hp):Prop:=∀a,W a->H a≠ξ
def Dm.same {W:θ->Prop}{H H':Hp}(d:Dm W H)(s:au H H'):Dm W H':=λa h e=>d a h (s.free e)
abbrev Rp (X:Cx)(W:θ->Prop)(H:Hp)(d:D)(v:V):Prop:=az X.prog X.w W H d v
abbrev i9 (X:Cx)(W:θ->Prop)(H:Hp)(ds:List D)(vs:List V):Prop:=ai X.prog X.w W H ds vs
def Vz (X:Cx)(f:D->Option D):V->Hp->VK->Prop:=λx H Q=>∃W d1 d,Dm W H/\Rp X W H d1 x/\f d1=ν d/\∀v H',au H H'->Rp X W H' d v->Q v H'
def Vy (X:Cx)(f:D->D->Option D):R2:=λx y H Q=>∃W d1 d2 d,Dm W H/\Rp X W H d1 x/\Rp X W H d2 y/\f d1 d2=ν d/\∀v H',au H H'->Rp X W H' d v->Q v H'
def Xi (X:Cx)(f:List D->Option D):List V->Hp->VK->Prop:=λxs H Q=>∃W ds d,Dm W H/\i9 X W H ds xs/\f ds=ν d/\∀v H',au H H'->Rp X W H' d v->Q v H'
abbrev bE (X:Cx)(f:ZF->ZF->Sem ZF)(g:D->D->Option D):Prop:=i_ X f (Vy X g)
abbrev bO (X:Cx)(f:ZF)(g:List D->Option D):Prop:=eS X f (Xi X g)
section
variable {X:Cx}{W:θ->Prop}{H:Hp}
def yx {p:θ}(d:Dm W H)(n:H p=ξ):¬ W p:=λz=>d p z n
def Rp.gE {p:θ}{vs:List V}{ds:List D}(d:Dm W H)(n:H p=ξ)(r:i9 X W H ds vs):Rp X W (upd H p (.lst vs)) (.lst ds) (.ref p) :=
 {p,vs,rfl,ao,yx d n,r.same (au.new n)}
def Rp.Jz {p:θ}{vs:List V}{ds:List D}(n:H p=ξ)(r:i9 X W H ds vs):Rp X W (upd H p (.tup vs)) (.tup ds) (.ref p) :=
 {p,vs,rfl,ao,r.same (au.new n)}
def i9.nil:i9 X W H [] []:=rfl
def i9.cons {d:D}{ds:List D}{v:V}{vs:List V}(h:Rp X W H d v)(r:i9 X W H ds vs):i9 X W H (d::ds) (v::vs):={(v),vs,rfl,h,r}
end
def D.Lb:D->Option Int
 |.int i=>ν i
 |_=>ξ
def D.La:D->Option (List D)
 |.lst a=>ν a
 |_=>ξ
def D.K_:D->Option (List D)
 |.tup a=>ν a
 |_=>ξ
def D.Fc:D->Bool
 |.cf=>ζ
 |_=>η
def D.jN {d:D}{i:Int}(h:d.Lb=ν i):d=.int i:=by cases d <;> first|(cases h;rfl)|cases h
def D.nY {d:D}{i:List D}(h:d.La=ν i):d=.lst i:=by cases d <;> first|(cases h;rfl)|cases h
def D.uC {d:D}{i:List D}(h:d.K_=ν i):d=.tup i:=by cases d <;> first|(cases h;rfl)|cases h
def D.uD {d:D}(h:d.Fc=ζ):d=.cf:=by cases d <;> first|rfl|cases h
def D.G3 {d:D}:d=.cf↔d.Fc=ζ:={λe=>by rw[e];rfl,D.uD}
def r9 (f:Int->Int->Option D)(a b:D):Option D:=match a.Lb,b.Lb with
 |some i,ν j=>f i j
 |_,_=>ξ
def kO {f:Int->Int->Option D}{a b d:D}(h:r9 f a b=ν d):∃i j,a=.int i/\b=.int j/\f i j=ν d:=by
 unfold r9 at h;cases ha:a.Lb with
 |none=>rw[ha]at h;cases h
 |some i =>
  cases hb:b.Lb with
  |none=>rw[ha,hb]at h;cases h
  |some j=>rw[ha,hb]at h;exact{i,j,D.jN ha,D.jN hb,h}
def KO (f:D->D->Option D)(g:List D->List D->Option D)(a b:D):Option D:=match a.La,b.La with
 |some i,ν j=>g i j
 |_,_=>f a b
def Ak {f:D->D->Option D}{g:List D->List D->Option D}{a b d:D}(h:KO f g a b=ν d):(∃i j,a=.lst i/\b=.lst j/\g i j=ν d)\/f a b=ν d:=by
 unfold KO at h;cases ha:a.La with
 |none=>rw[ha]at h;exact .inr h
 |some i =>
  cases hb:b.La with
  |none=>rw[ha,hb]at h;exact .inr h
  |some j=>rw[ha,hb]at h;exact .inl {i,j,D.nY ha,D.nY hb,h}
def EC:D->D->Option D:=KO (r9 λi j=>ν (.int (i+j))) λa b=>if a.length+b.length<=Z3 then ν (.lst (a++b)) else ξ
def UU:D->D->Option D:=r9 λi j=>ν (.int (i-j))
instance (i j:Int):Decidable (sI i j):=by unfold sI;infer_instance
instance (i j:Int):Decidable (E6 i j):=by unfold E6;infer_instance
def PN:D->D->Option D:=r9 λi j=>if sI i j then ν (.int (i*j)) else ξ
def PR:D->D->Option D:=r9 λi j=>if 0<j then ν (.int (i % j)) else ξ
def UW:D->Option D
 |.int i=>ν (.int (-i))
 |_=>ξ
section
variable {X:Cx}
def cU {c:Prop}[Decidable c]{α:Type}{a b:α}(h:(if c then ν a else ξ)=ν b):c/\b=a:=by
 by_cases hc:c
 ·rw[χ hc]at h;cases h;exact{(hc),rfl}
 ·rw[ω hc]at h;cases h
def Ik {f:ZF->ZF->Sem ZF}{C:Int->Int->Prop}{g:Int->Int->V}{h:Int->Int->D}{F:Int->Int->Option D}(ho:i_ X f (rI C g))(hF:∀i j d,F i j=ν d->C i j/\d=h i j)
  (hg:∀(W:θ->Prop) (H:Hp) i j,Rp X W H (h i j) (g i j)):bE X f (r9 F):=by
 intro μ s σ H x y v u Q I rx ry hh;obtain⟨W,d1,d2,d,hd,r1,r2,e,q⟩:=hh;obtain⟨i,j,rfl,rfl,e⟩:=kO e;obtain⟨c,rfl⟩:=hF _ _ _ e;cases r1;cases r2;exact ho μ s σ H _ _ v u Q I rx ry {i,j,rfl,rfl,c,q _ _ (au.refl _) (hg W H i j)}
def CO {f:ZF->ZF->Sem ZF}{g:Int->Int->V}{h:Int->Int->D}(ho:i_ X f (FZ g))
  (hg:∀(W:θ->Prop) (H:Hp) i j,Rp X W H (h i j) (g i j)):bE X f (r9 λi j=>ν (h i j)):=by
 intro μ s σ H x y v u Q I rx ry hh;obtain⟨W,d1,d2,d,hd,r1,r2,e,q⟩:=hh;obtain⟨i,j,rfl,rfl,e⟩:=kO e;cases e;cases r1;cases r2;exact ho μ s σ H _ _ v u Q I rx ry {i,j,rfl,rfl,q _ _ (au.refl _) (hg W H i j)}
def bX:bE X (abT .Sub) UU:=CO (h:=λi j=>.int (i-j)) CL λ_ _ _ _=>rfl
def Gm:bE X (abT .Mult) PN:=Ik (h:=λi j=>.int (i*j)) wA (λ_ _ _ e=>cU e) λ_ _ _ _=>rfl
def Gn:bE X (abT .Mod) PR:=Ik (h:=λi j=>.int (i % j)) nH (λ_ _ _ e=>cU e) λ_ _ _ _=>rfl
def md:P7 X (unaryOp .USub) (Vz X UW):=by
 intro μ s σ H x v Q I rx h;obtain⟨W,d1,d,hd,r1,e,q⟩:=h;cases d1 with
 |int i=>cases e;cases r1;exact BF μ s σ H _ v Q I rx {i,rfl,q _ _ (au.refl _) rfl}
 |_=>cases e
end
def HG (p:Int->Int->Bool):D->D->Option D:=r9 λi j=>ν (.bl (p i j))
abbrev QS:D->D->Option D:=HG λi j=>decide (i<j)
abbrev zc:D->D->Option D:=HG λi j=>decide (j<i)
abbrev YN:D->D->Option D:=HG λi j=>decide (j<=i)
section
variable {X:Cx}
def rP {p:Int->Int->Bool}{f:ZF->ZF->Sem ZF}(ho:i_ X f (FZ λi j=>.bl (p i j))):bE X f (HG p):=CO (h:=λi j=>.bl (p i j)) ho λ_ _ _ _=>rfl
def dF:bE X (aaV .Lt) QS:=rP NP
def wB:bE X (aaV .Gt) zc:=rP Ij
def Km:bE X (aaV .GtE) YN:=rP NQ
end
mutual
def D.pd:D->PyData
 |.cf=>.none
 |.bl b=>.bool b
 |.int i=>.int i
 |.str x=>.str x
 |.tup ds=>.tuple (D.gq ds)
 |.lst ds=>.list (D.gq ds)
 |_=>.dict []
def D.gq:List D->List PyData
 |[]=>[]
 |d::ds=>d.pd::D.gq ds
end
abbrev D.we (d:D):Bool:=shaped d.pd
mutual
theorem bL {X:Cx}{μ:List (θ×Obj)}{σ:St}{H:Hp}{s:ZH}(I:Inv X μ σ H s){W:θ->Prop}:∀{d:D} {v:V} {u:ZF},Rp X W H d v->RelV v u->d.pd.canLay0=ζ->∃as,Reads s.heap u d.pd as
 |.cf,_,_,h,r,_=>by cases h;cases r;exact{_,.none}
 |.bl b,_,_,h,r,_=>by cases h;cases r;exact{_,.bool b}
 |.int i,_,_,h,r,_=>by cases h;obtain⟨t,rfl⟩:=r;exact{_,.int i t}
 |.str x,_,_,h,r,_=>by cases h;obtain⟨t,rfl⟩:=r;exact{_,.str x t}
 |.tup ds,_,_,h,r,c=>by
  obtain⟨a,vs,rfl,e,q⟩:=h;cases r;obtain⟨its,rv,⟨o,ho,hc,n,hd⟩,hz⟩:=I.tuple (lh.of e);obtain⟨as,ha⟩:=gz I q rv (by simpa[D.pd,aa9] using c)
  exact{_,.tuple ho hc hd (by simpa using ha)}
 |.lst ds,_,_,h,r,c=>by
  obtain⟨a,vs,rfl,e,_,q⟩:=h;cases r;obtain⟨z,its,n,rv,e'⟩:=I.bp a _ e;obtain⟨as,ha⟩:=gz I q rv (by simpa[D.pd,aa9] using c)
  exact{_,.list e' rfl rfl (by simpa using ha)}
 |.obj _,_,_,_,_,c=>by simp[D.pd,aa9]at c
 |.dT _ _,_,_,_,_,c=>by simp[D.pd,aa9]at c
 |.dK _ _,_,_,_,_,c=>by simp[D.pd,aa9]at c
 |.sT _,_,_,_,_,c=>by simp[D.pd,aa9]at c
 |.ob _,_,_,_,_,c=>by simp[D.pd,aa9]at c
theorem gz {X:Cx}{μ:List (θ×Obj)}{σ:St}{H:Hp}{s:ZH}(I:Inv X μ σ H s){W:θ->Prop}:∀{ds:List D} {vs:List V} {us:List ZF},i9 X W H ds vs->Vals vs us->ab8 (D.gq ds)=ζ->∃as,ReadsAll s.heap us (D.gq ds) as
 |[],_,_,h,r,_=>by
  rw[show _=[] from h]at r
  cases r;exact{_,.nil}
 |d::ds,_,_,⟨v,vr,e,h1,h2⟩,r,c=>by
  subst e;have c':(d.pd.canLay0&&ab8 (D.gq ds))=ζ:=c;rw[aaK]at c';cases r with
  |cons r1 r2 =>
   obtain⟨as,ha⟩:=bL I h1 r1 c'.1;obtain⟨bs,hb⟩:=gz I h2 r2 c'.2;exact{_,.cons ha hb}
end
def L9 (a b:D):Option D:=if a.we=ζ/\b.we=ζ then ν (.bl (aa4 a.pd b.pd)) else ξ
def PM (a b:D):Option D:=if a.we=ζ/\b.we=ζ then ν (.bl (!aa4 a.pd b.pd)) else ξ
section
variable {X:Cx}
def bN (hu:X.A.units+64<abx):bE X (aaV .Eq) L9:=by
 intro μ s σ H x y v u Q I rx ry h;obtain⟨W,d1,d2,d,hd,r1,r2,e,q⟩:=h;obtain⟨⟨s1,s2⟩,rfl⟩:=cU e;obtain⟨as,ra⟩:=bL I r1 rx (aaN s1);obtain⟨bs,rb⟩:=bL I r2 ry (aaN s2);exact compareEq_shaped ra rb s1 s2 hu {.bl _,H,I,rfl,q _ _ (au.refl _) rfl}
def kq (hu:X.A.units+64<abx):bE X (aaV .NotEq) PM:=by
 intro μ s σ H x y v u Q I rx ry h;obtain⟨W,d1,d2,d,hd,r1,r2,e,q⟩:=h;obtain⟨⟨s1,s2⟩,rfl⟩:=cU e;obtain⟨as,ra⟩:=bL I r1 rx (aaN s1);obtain⟨bs,rb⟩:=bL I r2 ry (aaN s2);exact compareNe_shaped ra rb s1 s2 hu {.bl _,H,I,rfl,q _ _ (au.refl _) rfl}
def UX (a b:D):Option D:=match b.Fc with
 |true=>ν (.bl a.Fc)
 |false=>ξ
def PL (a b:D):Option D:=match b.Fc with
 |true=>ν (.bl (!a.Fc))
 |false=>ξ
def Rp.GD {W:θ->Prop}{H:Hp}{d:D}{v:V}(h:Rp X W H d v):v=.cf↔d=.cf:=by
 cases d with
 |cf=>cases h;simp
 |bl b=>cases h;simp
 |int i=>cases h;simp
 |str x=>cases h;simp
 |obj a=>cases h;simp
 |tup ds=>obtain⟨a,vs,rfl,_⟩:=h;simp
 |lst ds=>obtain⟨a,vs,rfl,_⟩:=h;simp
 |dT ks ds=>obtain⟨a,vs,rfl,_⟩:=h;simp
 |dK ks ds=>obtain⟨a,vs,rfl,_⟩:=h;simp
 |sT ts=>obtain⟨a,rfl,_⟩:=h;simp
 |ob φ=>obtain⟨a,rfl,_⟩:=h;simp
def uE {b d e:D}(h:(match b.Fc with|true=>ν d|false=>ξ)=ν e):b=.cf/\e=d:=by
 cases q:b.Fc with
 |true=>rw[q]at h;cases h;exact{D.uD q,rfl}
 |false=>rw[q]at h;cases h
def Rp.yw {W:θ->Prop}{H:Hp}{d:D}{v:V}(h:Rp X W H d v):decide (v=.cf)=d.Fc:=by
 have q:=h.GD.trans D.G3;cases e:d.Fc with
 |true=>exact Γ (q.mpr e)
 |false=>exact Δ λz=>by rw[q.mp z]at e;cases e
def mw:bE X (aaV .Is) UX:=by
 intro μ s σ H x y v u Q I rx ry h;obtain⟨W,d1,d2,d,hd,r1,r2,e,q⟩:=h;obtain⟨rfl,rfl⟩:=uE e;cases r2;exact Kl μ s σ H _ _ v u Q I rx ry {rfl,q _ _ (au.refl _) (Ι V.bl r1.yw)}
def CM:bE X (aaV .IsNot) PL:=by
 intro μ s σ H x y v u Q I rx ry h;obtain⟨W,d1,d2,d,hd,r1,r2,e,q⟩:=h;obtain⟨rfl,rfl⟩:=uE e;cases r2;exact Gk μ s σ H _ _ v u Q I rx ry {rfl,q _ _ (au.refl _) (Ι (λb=>V.bl (!b)) r1.yw)}
end
noncomputable def L8:D->D->Option Bool
 |a,.lst ds=>if a.we=ζ/\(D.lst ds).we=ζ then ν ((D.gq ds).any λy=>aa4 y a.pd) else ξ
 |a,.tup ds=>if a.we=ζ/\(D.tup ds).we=ζ then ν ((D.gq ds).any λy=>aa4 y a.pd) else ξ
 |_,_=>ξ
def UZ (a b:D):Option D:=(L8 a b).map .bl
def xp (a b:D):Option D:=(L8 a b).map λc=>.bl (!c)
def mm {ds:List D}{n:PyData}(hn:n=.list (D.gq ds)\/n=.tuple (D.gq ds))(h:shaped n=ζ):ab8 (D.gq ds)=ζ/\aba (D.gq ds)<=64:=by
 have h1:=aaN h;have h2:=depth_of_shaped h;rcases hn with rfl|rfl
 ·refine{by simpa[aa9] using h1,?_}
  have:ach (.list (D.gq ds))=aba (D.gq ds)+1:=by simp[ach]
  lia
 ·refine{by simpa[aa9] using h1,?_}
  have:ach (.tuple (D.gq ds))=aba (D.gq ds)+1:=by simp[ach]
  lia
section
variable {X:Cx}
def CN (hu:X.A.units+64+1<abx):bE X (aaV .In) UZ:=by
 intro μ s σ H x y v u Q I rx ry h;obtain⟨W,d1,d2,d,hd,r1,r2,e,q⟩:=h;cases d2 with
 |lst ds =>
  obtain⟨b,e1,rfl⟩:=ZR.mp e;obtain⟨⟨s1,s2⟩,rfl⟩:=cU e1;obtain⟨as,ra⟩:=bL I r1 rx (aaN s1);obtain⟨bs,rb⟩:=bL I r2 ry (aaN s2);obtain⟨c1,c2⟩:=mm (.inl rfl) s2;exact in_list_reads rb ra c1 (aaN s1) (by have:=acG (aba (D.gq ds)) d1.pd.depth;lia) {.bl _,H,I,rfl,q _ _ (au.refl _) rfl}
 |tup ds =>
  obtain⟨b,e1,rfl⟩:=ZR.mp e;obtain⟨⟨s1,s2⟩,rfl⟩:=cU e1;obtain⟨as,ra⟩:=bL I r1 rx (aaN s1);obtain⟨bs,rb⟩:=bL I r2 ry (aaN s2);obtain⟨c1,c2⟩:=mm (.inr rfl) s2;exact in_tuple_reads rb ra c1 (aaN s1) (by have:=acG (aba (D.gq ds)) d1.pd.depth;lia) {.bl _,H,I,rfl,q _ _ (au.refl _) rfl}
 |_=>cases e
def z_ (hu:X.A.units+64+1<abx):bE X (aaV .NotIn) xp:=by
 intro μ s σ H x y v u Q I rx ry h;obtain⟨W,d1,d2,d,hd,r1,r2,e,q⟩:=h;cases d2 with
 |lst ds =>
  obtain⟨b,e1,rfl⟩:=ZR.mp e;obtain⟨⟨s1,s2⟩,rfl⟩:=cU e1;obtain⟨as,ra⟩:=bL I r1 rx (aaN s1);obtain⟨bs,rb⟩:=bL I r2 ry (aaN s2);obtain⟨c1,c2⟩:=mm (.inl rfl) s2;exact notIn_list_reads rb ra c1 (aaN s1) (by have:=acG (aba (D.gq ds)) d1.pd.depth;lia) {.bl _,H,I,rfl,q _ _ (au.refl _) rfl}
 |tup ds =>
  obtain⟨b,e1,rfl⟩:=ZR.mp e;obtain⟨⟨s1,s2⟩,rfl⟩:=cU e1;obtain⟨as,ra⟩:=bL I r1 rx (aaN s1);obtain⟨bs,rb⟩:=bL I r2 ry (aaN s2);obtain⟨c1,c2⟩:=mm (.inr rfl) s2;exact notIn_tuple_reads rb ra c1 (aaN s1) (by have:=acG (aba (D.gq ds)) d1.pd.depth;lia) {.bl _,H,I,rfl,q _ _ (au.refl _) rfl}
 |_=>cases e
def vb (a b:D):Option D:=match b.Lb with
 |some i=>match a.La with
  |some ds=>pP ds i
  |none=>match a.K_ with
   |some ds=>pP ds i
   |none=>ξ
 |none=>ξ
def Ez {a b d:D}(h:vb a b=ν d):∃ds i,(a=.lst ds\/a=.tup ds)/\b=.int i/\pP ds i=ν d:=by
 unfold vb at h;cases hb:b.Lb with
 |none=>rw[hb]at h;cases h
 |some i =>
  rw[hb]at h;cases ha:a.La with
  |some ds=>rw[ha]at h;exact{ds,i,.inl (D.nY ha),D.jN hb,h}
  |none =>
   rw[ha]at h;cases ht:a.K_ with
   |some ds=>rw[ht]at h;exact{ds,i,.inr (D.uC ht),D.jN hb,h}
   |none=>rw[ht]at h;cases h
def i9.pP {W:θ->Prop}{H:Hp}{ds:List D}{vs:List V}{i:Int}{d:D}(h:i9 X W H ds vs)(e:L2.pP ds i=ν d):∃v,L2.pP vs i=ν v/\Rp X W H d v:=by
 unfold L2.pP at *
 rw[h.length];cases q:wU ds.length i with
 |none=>rw[q]at e;cases e
 |some j =>
  rw[q]at e;exact ai.get h e
def K9:Jg X (Vy X vb):=by
 intro value slice μ s σ H x y v u Q I rx ry h hs;obtain⟨W,d1,d2,d,hd,r1,r2,e,q⟩:=h;obtain⟨ds,i,h,rfl,e⟩:=Ez e;cases r2;rcases h with rfl|rfl
 ·obtain⟨p,vs,rfl,h1,n1,q1⟩:=r1;obtain⟨z,hz,rz⟩:=i9.pP (X:=X) q1 e;exact e9 value slice μ s σ H _ _ v u Q I rx ry {p,vs,i,z,rfl,rfl,dJ.of h1,hz,q _ _ (au.refl _) rz} hs
 ·obtain⟨p,vs,rfl,h1,q1⟩:=r1;obtain⟨z,hz,rz⟩:=i9.pP (X:=X) q1 e;exact Dr value slice μ s σ H _ _ v u Q I rx ry {p,vs,i,z,rfl,rfl,lh.of h1,hz,q _ _ (au.refl _) rz} hs
def cutD (xs:List D)(lo hi:Option Int):List D:=(xs.drop (HT.nj xs.length 0 lo)).take (HT.nj xs.length xs.length hi-HT.nj xs.length 0 lo)
def WA:D->Option Int->Option Int->Option D
 |.lst ds,lo,hi=>ν (.lst (cutD ds lo hi))
 |_,_,_=>ξ
def L7:List D->Option D
 |[.lst ds]=>ν (.int ds.length)
 |[.tup ds]=>ν (.int ds.length)
 |_=>ξ
def d8:bO X (.builtin "len") L7:=by
 intro μ s σ H xs us Q I r h;obtain⟨W,ds,d,hd,r1,e,q⟩:=h
 match ds,e with
 |[.lst es],e =>
  cases e;obtain⟨v,r',rfl,⟨p,vs,rfl,h1,n1,q1⟩,hr⟩:=r1;cases hr;refine jV μ s σ H _ us Q I r {p,vs,rfl,.inl (dJ.of h1),?_};rw[q1.length];exact q _ _ (au.refl _) rfl
 |[.tup es],e =>
  cases e;obtain⟨v,r',rfl,⟨p,vs,rfl,h1,q1⟩,hr⟩:=r1;cases hr;refine jV μ s σ H _ us Q I r {p,vs,rfl,.inr (lh.of h1),?_};rw[q1.length];exact q _ _ (au.refl _) rfl
def dList:List D->Option D
 |[.lst ds]=>ν (.lst ds)
 |[.tup ds]=>ν (.lst ds)
 |_=>ξ
def PX:List D->Option D
 |[.int i,.int j]=>ν (.int (if j>i then j else i))
 |_=>ξ
def PU:List D->Option D
 |[.int i,.int j]=>ν (.int (if j<i then j else i))
 |_=>ξ
def qW {W:θ->Prop}{H:Hp}{a b:D}{xs:List V}(h:i9 X W H [a,b] xs):∃x y,xs=[x,y]/\Rp X W H a x/\Rp X W H b y:=by
 obtain⟨x,r,rfl,hx,y,r',rfl,hy,hr⟩:=h;cases hr;exact{(x),y,rfl,hx,hy}
def j4 {W:θ->Prop}{H:Hp}{a:D}{xs:List V}(h:i9 X W H [a] xs):∃x,xs=[x]/\Rp X W H a x:=by
 obtain⟨x,r,rfl,hx,hr⟩:=h;cases hr;exact{(x),rfl,hx}
def xt (hc:X.calm=ζ):bO X (.builtin "max") PX:=by
 intro μ s σ H xs us Q I r h;obtain⟨W,ds,d,hd,r1,e,q⟩:=h
 match ds,e with
 |[.int i,.int j],e =>
  cases e;obtain⟨x,y,rfl,hx,hy⟩:=qW r1;cases hx;cases hy;exact qR hc μ s σ H _ us Q I r {i,j,rfl,q _ _ (au.refl _) rfl}
def i4 (hc:X.calm=ζ):bO X (.builtin "min") PU:=by
 intro μ s σ H xs us Q I r h;obtain⟨W,ds,d,hd,r1,e,q⟩:=h
 match ds,e with
 |[.int i,.int j],e =>
  cases e;obtain⟨x,y,rfl,hx,hy⟩:=qW r1;cases hx;cases hy;exact AZ hc μ s σ H _ us Q I r {i,j,rfl,q _ _ (au.refl _) rfl}
def UY:List D->Option D
 |[.int i]=>ν (.int i)
 |[.bl k]=>ν (.int (if k then 1 else 0))
 |_=>ξ
def A7:bO X (.type "int") UY:=by
 intro μ s σ H xs us Q I r h;obtain⟨W,ds,d,hd,r1,e,q⟩:=h
 match ds,e with
 |[.int i],e =>
  cases e;obtain⟨x,rfl,hx⟩:=j4 r1;cases hx;exact k6 μ s σ H _ us Q I r (.inl {i,rfl,q _ _ (au.refl _) rfl})
 |[.bl k],e =>
  cases e;obtain⟨x,rfl,hx⟩:=j4 r1;cases hx;exact k6 μ s σ H _ us Q I r (.inr {k,rfl,q _ _ (au.refl _) rfl})
end
abbrev Bp:=List (Option D)
abbrev Ms:=Bp->(D->Prop)->Prop
abbrev vy:=Bp->(List D->Prop)->Prop
def xF (P:ZN)(w:Z4)(W:θ->Prop)(H:Hp)(σ:St)(ρ:Bp):Prop:=∀(i:Nat) (d:D),ρ[i]?=ν (ν d)->∃v,σ[i]?=ν (ν v)/\az P w W H d v
def xF.keep {P:ZN}{w:Z4}{W:θ->Prop}{H H':Hp}{σ:St}{ρ:Bp}(e:xF P w W H σ ρ)(k:Kp W H H'):xF P w W H' σ ρ:=λi d h=>by
 obtain⟨v,h1,h2⟩:=e i d h;exact{v,h1,h2.keep k}
def xF.same {P:ZN}{w:Z4}{W:θ->Prop}{H H':Hp}{σ:St}{ρ:Bp}(e:xF P w W H σ ρ)(s:au H H'):xF P w W H' σ ρ:=e.keep s.kp
def PE.pre {X:Cx}{e:Expr}{t t':TE}(h:PE X e t)(k:∀σ H Q,t' σ H Q->t σ H Q):PE X e t':=λμ s σ H Q I q=>h μ s σ H Q I (k σ H Q q)
def PT.pre {X:Cx}{e:Expr}{t t':TT}(h:PT X e t)(k:∀σ H Q,t' σ H Q->t σ H Q):PT X e t':=λμ s σ H Q I q=>h μ s σ H Q I (k σ H Q q)
def PA.pre {X:Cx}{es:List Expr}{t t':TA}(h:PA X es t)(k:∀σ H Q,t' σ H Q->t σ H Q):PA X es t':=λpos μ s σ H Q I q=>h pos μ s σ H Q I (k σ H Q q)
structure MV (P:ZN)(w:Z4)(W:θ->Prop)(σ:St)(H:Hp)(ρ:Bp):Prop where
 dm:Dm W H
 env:xF P w W H σ ρ
abbrev SE (X:Cx):(θ->Prop)->St->Hp->Bp->Prop:=MV X.prog X.w
def MV.same {P:ZN}{w:Z4}{W:θ->Prop}{σ:St}{H H':Hp}{ρ:Bp}(e:MV P w W σ H ρ)(s:au H H'):MV P w W σ H' ρ:={e.dm.same s,e.env.same s}
def tD (X:Cx)(φ:Ms):TE:=λσ H Q=>∃W ρ,SE X W σ H ρ/\φ ρ λd=>∀v H',au H H'->Rp X W H' d v->Q v H'
def M7 (X:Cx)(φ:vy):TA:=λσ H Q=>∃W ρ,SE X W σ H ρ/\φ ρ λds=>∀vs H',au H H'->i9 X W H' ds vs->Q vs H'
structure PV (X:Cx)(e:Expr)(φ:Ms):Prop where
 mono:∀ρ R R',(∀d,R d->R' d)->φ ρ R->φ ρ R'
 pe:PE X e (tD X φ)
structure P8 (X:Cx)(es:List Expr)(φ:vy):Prop where
 mono:∀ρ R R',(∀d,R d->R' d)->φ ρ R->φ ρ R'
 pa:PA X es (M7 X φ)
section
variable {X:Cx}{a e:Expr}{es:List Expr}{φ:Ms}{φs:vy}{pos:Pos}{W:θ->Prop}{σ:St}{H:Hp}{ρ:Bp}
def tD.of (h:PV X e φ)(se:SE X W σ H ρ){R:D->Prop}{Q:VK}(hr:φ ρ R)(k:∀d v H',R d->au H H'->Rp X W H' d v->Q v H'):tD X φ σ H Q :=
 {W,ρ,se,h.mono ρ _ _ (λd hd v H' s r=>k d v H' hd s r) hr}
def M7.of (h:P8 X es φs)(se:SE X W σ H ρ){R:List D->Prop}{Q:List V->Hp->Prop}(hr:φs ρ R)(k:∀ds vs H',R ds->au H H'->i9 X W H' ds vs->Q vs H'):M7 X φs σ H Q :=
 {W,ρ,se,h.mono ρ _ _ (λd hd v H' s r=>k d v H' hd s r) hr}
def UL (i:Nat):Ms:=λρ R=>∃d,ρ[i]?=ν (ν d)/\R d
def fc {i:Nat}{x:Str}(hn:Nm X i x:=by exact wG):
  PV X (.Name x pos) (UL i):=⟨λρ R R' k jO=>by obtain⟨d,e,h⟩:=jO;exact{d,e,k d h},(eE hn).pre λσ H Q r_=>by
 obtain⟨W,ρ,se,d,e,q⟩:=r_;obtain⟨v,h1,h2⟩:=se.env i d e;exact{v,h1,q v H (au.refl _) h2}⟩
def PW.pre {t t':TT}(h:PW X e t)(k:∀σ H Q,t' σ H Q->t σ H Q):PW X e t':=λw μ s σ H Q I q=>h w μ s σ H Q I (k σ H Q q)
def UM:vy:=λ_ R=>R []
def PD (φ:Ms)(φs:vy):vy:=λρ R=>φ ρ λd=>φs ρ λds=>R (d::ds)
def F3:P8 X [] UM:={λρ R R' k h=>k _ h,cR.pre λσ H Q Lo=>by obtain⟨W,ρ,se,q⟩:=Lo;exact q [] H (au.refl _) rfl}
def tL (ha:PV X a φ)(hr:P8 X es φs)(hs:Z2 (a::es) X.env=(η,eval a X.env)::Z2 es X.env:=by rfl):P8 X (a::es) (PD φ φs) :=
 ⟨λρ R R' k h=>ha.mono ρ _ _ (λd q=>hr.mono ρ _ _ (λds q2=>k _ q2) q) h,(a_ ha.pe hr.pa hs).pre λσ H Q ⟨W,ρ,se,h⟩ =>
  tD.of ha se h λd1 v1 H1 h1 s1 r1=>M7.of hr (se.same s1) h1 λds vs H2 q s2 r2=>q (v1::vs) H2 (s1.trans s2) (.cons (r1.same s2) r2)⟩
end
abbrev FD:=List D->(D->Prop)->Prop
def dy (F:FD):Prop:=∀ds R R',(∀d,R d->R' d)->F ds R->F ds R'
section
variable {X:Cx}{e:Expr}{pos:Pos}{σ:St}{H:Hp}
def Jf.pre {ops:List acW}{rs:List Expr}{t t':V->TE}(h:Jf X ops rs t)(k:∀x σ H Q,t' x σ H Q->t x σ H Q):Jf X ops rs t':=λpos μ s σ H x v Q I r q=>h pos μ s σ H x v Q I r (k x σ H Q q)
def xD.pre {ops:List acW}{rs:List Expr}{t t':V->TT}(h:xD X ops rs t)(k:∀x σ H Q,t' x σ H Q->t x σ H Q):xD X ops rs t':=λpos μ s σ H x v Q I r q=>h pos μ s σ H x v Q I r (k x σ H Q q)
def PO.pre {e:Option Expr}{t t':TO}(h:PO X e t)(k:∀σ H Q,t' σ H Q->t σ H Q):PO X e t':=λμ s σ H Q I q=>h μ s σ H Q I (k σ H Q q)
end
abbrev NF:D->Prop:=λd=>d.flat=ζ
section
abbrev NL:D->Prop:=λd=>match d with | .lst ds=>D.cb ds=ζ|d=>d.flat=ζ
end
section
variable {P:ZN}{w:Z4}{W W':θ->Prop}{H:Hp}
mutual
theorem az.grow (s:∀a,W' a->W a\/H a=ξ):∀{d:D} {v:V},az P w W H d v->az P w W' H d v
 |.cf,_,h=>h
 |.bl _,_,h=>h
 |.int _,_,h=>h
 |.str _,_,h=>h
 |.obj _,_,h=>h
 |.tup ds,_,⟨a,vs,e,t,r⟩=>{a,vs,e,t,ai.grow s r}
 |.lst ds,_,⟨a,vs,e,t,n,r⟩=>{a,vs,e,t,λz=>(s a z).elim n λq=>(by rw[t]at q;cases q),ai.grow s r}
 |.dT ks ds,_,⟨a,vs,e,t,l,n,r⟩=>{a,vs,e,t,l,λz=>(s a z).elim n λq=>(by rw[t]at q;cases q),ai.grow s r}
 |.dK ks ds,_,⟨a,vs,e,t,l,n,r⟩=>{a,vs,e,t,l,λz=>(s a z).elim n λq=>(by rw[t]at q;cases q),ai.grow s r}
 |.sT ts,_,⟨a,e,⟨bF,t,r,z⟩,n⟩=>{a,e,{(bF),t,r,z},λz=>(s a z).elim n λq=>(by rw[t]at q;cases q)}
 |.ob φ,_,⟨a,e,⟨t,z⟩,n⟩=>{a,e,{(t),z},λz=>(s a z).elim n λq=>(by rw[t]at q;cases q)}
theorem ai.grow (s:∀a,W' a->W a\/H a=ξ):∀{ds:List D} {vs:List V},ai P w W H ds vs->ai P w W' H ds vs
 |[],_,h=>h
 |d::ds,_,⟨v,r,e,h1,h2⟩=>{v,r,e,az.grow s h1,ai.grow s h2}
end
end
def YV (X:Cx)(W:θ->Prop)(J:It)(ds:List D)(H0:Hp):Prop:=∀(i:Nat) (H:Hp),Kp W H0 H ->
 (∀d,ds[i]?=ν d->J.go i H/\∀x H1,J.MX i H x H1->au H H1/\Rp X W H1 d x)/\(ds.length<=i->J.stop i H)
def vN (X:Cx)(W:θ->Prop)(J:It)(ds:List D)(H0:Hp):Prop:=∀W':θ->Prop,(∀b,W' b->W b\/H0 b=ξ)->YV X W' J ds H0
abbrev Mr:=Bp->(List D->Prop)->Prop
structure WC (X:Cx)(tg iter:Expr)(ι:Mr):Prop where
 mono:∀ρ R R',(∀d,R d->R' d)->ι ρ R->ι ρ R'
 pi:PI X tg iter λσ H R=>∃W ρ,SE X W σ H ρ/\ι ρ λds=>∀J H',au H H'->vN X W J ds H'->R J H'
section
variable {X:Cx}{tg e:Expr}
def PI.pre {iter:Expr}{t t':TI}(h:PI X tg iter t)(k:∀σ H R,t' σ H R->t σ H R):PI X tg iter t':=λμ s σ H R I q=>h μ s σ H R I (k σ H R q)
def uB {W:θ->Prop}{H:Hp}{p:θ}{vs:List V}{ds:List D}(h1:H p=ν (.lst vs))(n1:¬ W p)(q1:i9 X W H ds vs):vN X W (Q4 X.K p) ds H:=λW' hW i H' k=>by
 have h2:=k.out p _ h1 λz=>(hW p z).elim n1 λq=>by rw[h1]at q;cases q
 replace q1:=ai.grow hW q1;constructor
 ·intro d hd;obtain⟨v,hv,rv⟩:=ai.get q1 hd;refine{{vs,v,dJ.of h2,hv},λx H1 y=>?_};obtain⟨rfl,y⟩:=y;have e:=y vs (dJ.of h2);rw[hv]at e;cases e;exact{au.refl _,rv.keep k}
 ·intro hl;exact{vs,dJ.of h2,by rw[q1.length];exact hl}
def lT (lo:Int)(n:Nat):List D:=(ZK n).map λ(k:Nat)=>D.int (lo+(k:Int))
def kM {W:θ->Prop}{H:Hp}{lo:Int}{n:Nat}:vN X W (Qc lo n) (lT lo n) H:=λ_ _ i H' k=>by
 constructor
 ·intro d hd;unfold lT at hd;rw[ZS]at hd;have hi:i<n:=by
   by_cases h:i<n
   ·exact h
   ·rw[aaE (by simpa using h)]at hd;cases hd
  rw[abB hi]at hd;cases hd;refine{hi,λx H1 y=>?_};obtain⟨rfl,rfl⟩:=y;exact{au.refl _,rfl}
 ·intro hl;unfold lT at hl;rw[ZE,Z7]at hl;exact hl
end
section
variable {X:Cx}{tg:Expr}{zC:List Expr}
def PG.pre {t t':TG}(h:PG X tg t)(k:∀v σ H Q,t' v σ H Q->t v σ H Q):PG X tg t':=λμ s σ H v u Q I r q=>h μ s σ H v u Q I r (k v σ H Q q)
def Je.pre {t t':Jb}(h:Je X zC t)(k:∀v σ H Q,t' v σ H Q->t v σ H Q):Je X zC t':=λμ s σ H v u Q I r q=>h μ s σ H v u Q I r (k v σ H Q q)
end
def kK {H:Hp}{a:θ}{o o':HO}(h:H a=ν o)(ht:∀xs,o≠.tup xs):Kp (·=a) H (upd H a o') :=
 {λb u e n=>by rw[aw n];exact e,λb xs e=>by rw[aw (Im e h (λz=>ht xs z.symm))];exact e}
section
variable {σ:St}{β:a6}{own:Nat->List θ}
def aU (own:Nat->List θ)(i:Nat)(as:List θ):Nat->List θ:=λj=>if j=i then as else own j
def ck {own:Nat->List θ}{i j:Nat}{a:θ}(h:a∈aU own i [] j):a∈own j/\j≠i:=by
 unfold aU at h
 by_cases e:j=i
 ·rw[χ e]at h;cases h
 ·rw[ω e]at h;exact{(h),e}
def bu {α:Type}{β:List α}{i j:Nat}{x:α}(h:i≠j):(β.set i x)[j]?=β[j]?:=by rw[ab_,ω h]
def bH {α:Type}{β:List α}{i:Nat}{x y:α}(h:(β.set i x)[i]?=ν y):y=x/\i<β.length:=by
 rw[ab_,χ rfl]at h
 by_cases hi:i<β.length
 ·rw[χ hi]at h;cases h;exact{(rfl),hi}
 ·rw[ω hi]at h;cases h
def get_set {α:Type}{σ:List α}{i:Nat}{x:α}(h:i<σ.length):(σ.set i x)[i]?=ν x:=by rw[ab_,χ rfl,χ h]
end
structure Sn (Z:Hp×(θ->Prop))(H:Hp)(W:θ->Prop):Prop where
 w:∀b,W b->Z.2 b\/Z.1 b=ξ
 k:Kp (λb=>Z.2 b\/Z.1 b=ξ) Z.1 H
 d:∀b,Z.1 b≠ξ->H b≠ξ
def Sn.refl {H:Hp}{W:θ->Prop}:Sn (H,W) H W:={λ_ z=>.inl z,Kp.refl,λ_ z=>z}
def Sn.same {Z:Hp×(θ->Prop)}{H H':Hp}{W:θ->Prop}(n:Sn Z H W)(s:au H H'):Sn Z H' W:={n.w,n.k.trans s.kp,λb z e=>n.d b z (s.free e)}
def Sn.free {Z:Hp×(θ->Prop)}{H:Hp}{W:θ->Prop}(n:Sn Z H W){a:θ}(h:H a=ξ):Z.1 a=ξ:=by
 cases q:Z.1 a with
 |none=>rfl
 |some o=>exact Η h (n.d a (by rw[q];intro z;cases z))
def Sn.upd {Z:Hp×(θ->Prop)}{H:Hp}{W:θ->Prop}(n:Sn Z H W){a:θ}{o o':HO}(h:H a=ν o)(ht:∀xs,o≠.tup xs)(wa:W a):Sn Z (L2.upd H a o') W :=
 ⟨n.w,n.k.trans ((kK h ht).mono λb z=>by rw[z];exact n.w a wa),λb z e=>by
  by_cases hb:b=a
  ·subst hb;rw[ao]at e;cases e
  ·rw[aw hb]at e;exact n.d b z e⟩
def Sn.trans {Z:Hp×(θ->Prop)}{H1 H:Hp}{W1 W:θ->Prop}(n1:Sn Z H1 W1)(n:Sn (H1,W1) H W):Sn Z H W:=by
 have big:∀b,W1 b\/H1 b=ξ->Z.2 b\/Z.1 b=ξ:=λb z=>z.elim (n1.w b) λq=>.inr (n1.free q);exact{λb z=>big b (n.w b z),n1.k.trans (n.k.mono big),λb z=>n.d b (n1.d b z)}
section
variable {X:Cx}{st:Stmt}{rest:List Stmt}{σ:St}{H:Hp}
def PS.pre {t t':TS}(h:PS X st t)(k:∀D σ H,t' D σ H->t D σ H):PS X st t':=λμ s σ H D I q=>h μ s σ H D I (k D σ H q)
def vL.pre {t t':TS}(h:vL X rest t)(k:∀D σ H,t' D σ H->t D σ H):vL X rest t':=λμ s σ H D I q=>h μ s σ H D I (k D σ H q)
end
section
variable {b:Expr}{H:Hp}
def held {P:ZN}{w:Z4}{W W2:θ->Prop}{H2:Hp}{d:D}{v:V}(r:az P w W H d v)(n:Sn (H,W) H2 W2):az P w W2 H2 d v :=
 az.aZ n.w (az.keep n.k (az.grow (λb z=>z) r))
end
def Sn.kp {Z:Hp×(θ->Prop)}{H H':Hp}{W:θ->Prop}(n:Sn Z H W)(k:Kp W H H')(dn:∀c,H c≠ξ->H' c≠ξ):Sn Z H' W:={n.w,n.k.trans (k.mono n.w),λb z=>dn b (n.d b z)}
end L2
namespace YW
open PySem PySem.Spec PyProof.Rows
end YW
namespace L2
open PySem PySem.Spec PySem.SeqAt PyProof.Rows
noncomputable def br:List D->Option (List Int)
 |[]=>ν []
 |.int i::ds=>(br ds).map (i::·)
 |_::_=>ξ
theorem uF:∀{ds:List D} {ns:List Int},br ds=ν ns->ds=ns.map D.int
 |[],_,h=>by cases h;rfl
 |.int i::ds,_,h=>by
  obtain⟨ns,h1,rfl⟩:=ZR.mp h;rw[aae,<- uF h1]
 |.cf::_,_,h=>by cases h
 |.bl _::_,_,h=>by cases h
 |.str _::_,_,h=>by cases h
 |.obj _::_,_,h=>by cases h
 |.tup _::_,_,h=>by cases h
 |.lst _::_,_,h=>by cases h
 |.dT _ _::_,_,h=>by cases h
 |.dK _ _::_,_,h=>by cases h
 |.sT _::_,_,h=>by cases h
 |.ob _::_,_,h=>by cases h
theorem qz:∀(ns:List Int),br (ns.map D.int)=ν ns
 |[]=>rfl
 |n::ns=>by rw[aae];show (br (ns.map D.int)).map _=_;rw[qz ns];rfl
theorem bK {P:ZN}{w:Z4}{W:θ->Prop}{H:Hp}:∀{ns:List Int} {vs:List V},ai P w W H (ns.map D.int) vs->vs=ns.map V.int
 |[],_,h=>h
 |n::ns,_,⟨v,r,e,h1,h2⟩=>by rw[e,bK h2,show v=V.int n from h1];rfl
theorem qw {P:ZN}{w:Z4}{W:θ->Prop}{H:Hp}:∀(ns:List Int),ai P w W H (ns.map D.int) (ns.map V.int)
 |[]=>rfl
 |n::ns=>{_,_,rfl,rfl,qw ns}
end L2
namespace TS
open PySem PyProof.Rows
section
variable {prog:ZN}{w:Z4}{A:aaJ}{E:ZF->ZH->Prop}{s:ZH}
def v8 {x:ZF}{vs:List ZF}{kf:ZF->List Int}{Q:ZF->ZH->Prop}(hz:vs.length<=1000000)
  (col:∀(B:aaJ) (R:List ZF->ZH->Prop),B.units<=A.units+1->(∀(h':Heap) (tk:Nat),(∀b o,s.heap.get? b=ν o->h'.get? b=ν o)->s.heap.objs.size<=h'.objs.size->R vs {s with heap:=h',toks:=tk})->aab (Ψ prog w) B (collect x) R E s)
  (T:pR s.heap kf s.heap.objs.size vs)
  (h:∀(out:List ZF) (l:θ) (h':Heap) (tk:Nat) (n:Nat),out.Perm vs->out.Pairwise (λx y=>HT.lexLt (kf y) (kf x)=η)->s.heap.objs.size<=l->(∀b o,s.heap.get? b=ν o->h'.get? b=ν o)->h'.get? l=ν (abC "list" out.toArray n)->Q (.ref l) {s with heap:=h',toks:=tk}) :
  aab (Ψ prog w) A (call (.builtin "sorted") [x]) Q E s:=by
 refine acZ kind_sorted plain_sorted entry_sorted (args_sorted1 _) ?_;unfold abM.«sorted»
 refine ZD (m:=checkCount "sorted" 1 1 _) (ZL ?_);refine ZD (col A.in1 _ (ZG _) λh' tk kp SI=>?_);have nl:vs.length<=Z3:=by rw[aaQ];lia
 refine ZD (wpAny_newList ?_ nl);have hl:(h'.push (abC "list" vs.toArray 0)).get? h'.objs.size=ν (abC "list" vs.toArray 0):=Z8 _ rfl;have T':pR (h'.push (abC "list" vs.toArray 0)) kf h'.objs.size vs:=λv hv=>by
  obtain⟨t,o,xs,k,e1,_,e3,r⟩:=T v hv;exact{t,o,xs,k,e1,aak (Z6 (kp _ _ e3)),ZM _ (kp _ _ e3),r}
 refine ZD (aa6 (aa3 slot_list_sort {_,hl,rfl} entry_list_sort (nQ (s:={s with heap:=h'.push (abC "list" vs.toArray 0),toks:=tk}) hl hz T' λout hp hs=>{_,rfl,?_}) (args_list_sort _)))
 obtain⟨n,hn⟩:=sortedHeap_at (out:=out.toArray) hl;refine ZL {_,rfl,h out h'.objs.size _ tk n hp hs SI (λb o e=>?_) hn};have hb:=Z6 (kp _ _ e);rw[sortedHeap_old (aak hb) (by rw[size_push'];exact ab9 hb)]
 exact ZM _ (kp _ _ e)
end
end TS
namespace L2
open PySem PySem.Spec PyProof.Rows
def uy (H:Hp):ZF->List Int
 |.ref t=>match H t with
  |some (.tup xs)=>xs.filterMap fun
   |.int i=>ν i
   |_=>ξ
  |_=>[]
 |_=>[]
theorem uN:∀ns:List Int,((ns.map V.int).filterMap fun
   |.int i=>ν i
   |_=>ξ)=ns
 |[]=>rfl
 |n::ns=>by
  rw[aae,aaU];dsimp only;rw[uN ns]
def jK {H:Hp}{t:θ}{ns:List Int}(h:H t=ν (.tup (ns.map V.int))):uy H (.ref t)=ns:=by
 unfold uy;dsimp only;rw[h];exact uN ns
def IS (H:Hp):ZF->θ×List Int
 |.ref t=>(t,uy H (.ref t))
 |_=>(0,[])
abbrev xA (H:Hp)(ts:List (θ×List Int)):Prop:=∀t∈ts,H t.1=ν (.tup (t.2.map V.int))/\t.2≠[]
abbrev rl (t:θ×List Int):V:=.ref t.1
theorem gV:∀{ts:List (θ×List Int)} {us:List ZF},Vals (ts.map rl) us->us=ts.map λt=>Φ t.1
 |[],_,.nil=>rfl
 |t::ts,_,.cons r q=>by
  rw[aae,<- gV q];cases r;rfl
theorem kh:∀(ts:List (θ×List Int)),Vals (ts.map rl) (ts.map λt=>Φ t.1)
 |[]=>.nil
 |t::ts=>.cons rfl (kh ts)
def qd {H:Hp}{ts:List (θ×List Int)}(T:xA H ts){out:List ZF}(hp:out.Perm (ts.map λt=>Φ t.1)):out=(out.map (IS H)).map (λt=>Φ t.1)/\(out.map (IS H)).Perm ts:=by
 constructor
 ·rw[aaR];refine(aal (g:=id) λv hv=>?_).trans (List.map_id _) |>.symm
  obtain⟨t,ht,rfl⟩:=Z0.mp (hp.mem_iff.mp hv);rfl
 ·refine(hp.map (IS H)).trans (acK ?_);rw[aaR];refine(aal (g:=id) λt ht=>?_).trans (List.map_id _);show (t.1,uy H (.ref t.1))=t;rw[jK (T t ht).1]
def xJ {P:ZN}{w:Z4}{H:Hp}{h:Heap}{ts:List (θ×List Int)}(ok:i8 P w H h)(T:xA H ts){a:θ}(ha:h.objs.size<=a):TS.pR h (uy H) a (ts.map λt=>Φ t.1):=λv hv=>by
 obtain⟨t,ht,rfl⟩:=Z0.mp hv;obtain⟨h1,h2⟩:=T t ht;obtain⟨_,its,r,o,ho,hc,n,hd⟩:=(show a9 P w H h t.1 (.tup (t.2.map V.int)) from ok _ _ h1)
 exact{t.1,o,_,n,rfl,aak (aaq (Z6 ho) ha),ho,hc,hd,by rw[jK h1];exact intsAre_of (by simpa using r),by rw[jK h1];exact h2}
section
variable {X:Cx}
def si:eS X (.builtin "sorted") (λxs H Q=>∃(p:θ) (ts:List (θ×List Int)),xs=[.ref p]/\dJ X.K H p (ts.map rl)/\xA H ts/\ts.length<=1000000 /\
  ∀(l:θ) (bF:List (θ×List Int)),H l=ξ->bF.Perm ts->bF.Pairwise (λx y=>HT.lexLt y.2 x.2=η)->Q (.ref l) (upd H l (.lst (bF.map rl)))):=by
 intro μ s σ H xs us Q I r h;obtain⟨p,ts,rfl,hq,T,hz,q⟩:=h;obtain⟨u,rfl,rx⟩:=vals1 r;cases rx;obtain⟨its,r',pl,hl⟩:=I.list hq;obtain rfl:=gV r';have nl:(ts.map λt=>Φ t.1).length<=Z3:=by rw[ZE,aaQ];lia
 refine TS.v8 (kf:=uy H) (by rw[ZE];exact hz) (λB R _ hR=>?_) (xJ I.bp T (ZG _)) λout l h' tk n hp hs hle kp ho=>?_
 ·refine collect_list pl.isList (hR _ s.toks (λb o e=>?_) ?_) nl
  ·have hb:=Z6 e;rw[Heap.get?_update_ne _ _ _ _ (aak hb)];exact ZM _ e
  ·rw[Heap.size_update,size_push'];exact Nat.le_succ _
 ·obtain⟨e1,e2⟩:=qd T hp;have zl:out.length=ts.length:=by rw[hp.length_eq,ZE]
  refine{.ref l,_,I.laid (t':=tk) (o:=.lst ((out.map (IS H)).map rl)) kp hle ?_,rfl,q l _ (I.bp.fresh hle) e2 ?_}
  ·refine{by rw[ZE,ZE,zl,aaQ];lia,out,n,?_,ho}
   have:=kh (out.map (IS H));rw[<- e1]at this;exact this
  ·rw[aa7];refine hs.imp_of_mem λ{x y} hx hy hh=>?_;obtain⟨t,ht,rfl⟩:=Z0.mp (hp.mem_iff.mp hx);obtain⟨t',V1,rfl⟩:=Z0.mp (hp.mem_iff.mp hy);exact hh
end
end L2
namespace ST
open PySem PyProof.Rows
section
variable {prog:ZN}{w:Z4}{A:aaJ}{E:ZF->ZH->Prop}{s:ZH}
variable {a b:θ}{o:Obj}{ts:List (θ×List Int)}{es:Array (Int×ZF)}{ep:Nat}{t:SetTable}{k:List Int}
def cW.at (S:cW prog w o ts es ep t){i:Nat}(hi:i<t.place.size):∃x,ts[i]?=ν x/\es[i]?=ν (ent prog w x):=by
 have hl:i<ts.length:=by rw[<- S.size.2];exact hi
 exact{ts[i],ZU hl,by rw[<- Z9,S.L4,ZS,ZU hl];rfl}
def CW (S:cW prog w o ts es ep t):t.gaveWay=η:=by
 obtain⟨j,hj,e⟩:=S.wf.Ip;unfold SetTable.gaveWay;rw[e];obtain⟨i,rfl⟩:∃i,j=i+1:={j-1,by lia}
 have:0<2 ^ i:=Nat.pow_pos (by decide)
 rw[acO];have:(2 ^ i*2-1) % 2=1:=by lia
 rw[this];rfl
def o9 (ho:s.heap.get? a=ν o)(S:cW prog w o ts es ep t)(T:Fo prog w s.heap ts)(hk:(TK prog w).is s.heap k b)(hu:A.units<abx){lb:Bool}{N:Nat}{Q:SetFound->ZH->Prop}
  (hN:¬ sH t (cN t.mask (kH prog w k) N)) (hO:∀x,x<N->sH t (cN t.mask (kH prog w k) x)) (Zw:N<10*SetTable.turns t.mask)
  (Qf:(∀x∈ts,x.2≠k)->Q (.free (cN t.mask (kH prog w k) N) η) s) (Qt:∀i:Option Nat,(∃x∈ts,x.2=k)->(lb=η->i.isSome=ζ)->Q (.there i) s) :
  ∀(d n f:Nat) (BP:Option SetTable.Probe),BP.getD (Rv t.mask (kH prog w k))=gn t.mask (kH prog w k) n->n+d=N->d<f ->
   (∀m,m<n->∀i x,i<t.place.size->g t.place i=cN t.mask (kH prog w k) m->ts[i]?=ν x->x.2≠k) ->
   aab (Ψ prog w) A (setSearchFrom a (.ref b) (kH prog w k) lb f BP) Q E s:=by
 intro d
 induction d using Nat.strongRecOn with
 |_ d ih =>
  intro n f BP OH pD QJ Pu;obtain⟨f,rfl⟩:∃f',f=f'+1:={f-1,by lia}
  unfold setSearchFrom;refine ZD (abi ho S.dat S.fits ?_);dsimp only;rw[CW S,ω (by simp)]
  rw[JI,OH];generalize V6:SetTable.probe t _ (kH prog w k) (gn t.mask (kH prog w k) n)=pr;have hash:∀i x,i<t.place.size->ts[i]?=ν x->(es[i]?.map (·.1)).getD 0=kH prog w x.2:=λi x hi hx=>by
   obtain⟨y,h1,h2⟩:=S.at hi;rw[hx]at h1;obtain rfl:=aao h1;rw[h2];rfl
  rcases tM S.wf (λi=>(es[i]?.map (·.1)).getD 0) (kH prog w k) hN hO d n (10*SetTable.turns t.mask) pD (by lia)with⟨q1,q2⟩|⟨m,i,q1,q2,q3,q4,q5,q6,q7⟩
  ·have e:pr=ν (.empty (cN t.mask (kH prog w k) N) ξ):=V6.symm.trans q1;rw[e];dsimp only;refine ZL (Qf λx hx G9=>?_);obtain⟨i,hi⟩:=List.getElem?_of_mem hx;have He:i<t.place.size:=by
    rw[S.size.2];exact(Z1.mp hi).1
   obtain⟨n',g1,g2⟩:=S.wf.Vx i (kH prog w x.2) (by rw[ZS,hi];rfl)
   rw[G9]at g1 g2;have Hd:n'<N:=by
    rcases aa2 n' N with z|z
    ·exact z
    ·rcases aa2 N n' with z2|z2
     ·exact Η (g2 N z2) hN
     ·obtain rfl:N=n':=by lia
      exact Η {(i),He,g1.symm} hN
   rcases aa2 n' n with z|z
   ·exact Pu n' z i x He g1.symm hi G9
   ·exact q2 n' z Hd i He g1.symm (by rw[hash i x He hi,G9])
  ·have e:pr=ν (.candidate (cN t.mask (kH prog w k) m) i (gn t.mask (kH prog w k) (m+1))):=V6.symm.trans q6;rw[e];dsimp only;obtain⟨x,ID,OA⟩:=S.at q3;have Oz:x∈ts:=aap ID;have IE:t.slot (cN t.mask (kH prog w k) m)=.live i:=by rw[<- q4];exact p_ S.wf.zS q3
   refine(λ(key:?G)=>?main) ?key
   case main =>
    cases hl:t.led with
    |true =>
     rw[ω (by simp)]
     exact key
    |false =>
     rw[χ (by simp)]
     have Td:(es.filter (·.1==kH prog w k)).toList.map (·.2)=(ts.filter λx=>kH prog w x.2==kH prog w k).map λx=>Φ x.1:=by
      rw[Array.toList_filter,S.L4,List.filter_map,aaR];rfl
     rw[Td];refine ZD (Fv hk _ (λy hy=>T y (ZY.mp hy).1) ?_);rw[ω (by simp)]
     exact key
   case key =>
    rw[OA];dsimp only;refine ZD (aa6 ((TK prog w).eqBool hu (T x Oz) hk ?_));refine ZD (abi ho S.dat S.fits ?_);dsimp only;have DB:t.sameMemory t.moves t.mask=ν ζ:=by
     unfold SetTable.sameMemory;rw[χ (beq_self_eq_true _)]
    by_cases G9:x.2=k
    ·rw[Γ G9];cases lb with
     |true =>
      rw[χ (by rfl)]
      exact ZL (Qt ξ {(x),Oz,G9} (λz=>by cases z))
     |false =>
      rw[ω (by simp),DB]
      dsimp only;rw[χ rfl,IE];dsimp only;rw[OA];dsimp only;refine ZD (wpAny_isSame_ref_self ?_);rw[χ rfl];refine ZD (ZL ?_);exact ZL (Qt (ν i) {(x),Oz,G9} (λ_=>rfl))
    ·rw[Δ G9,ω (by simp),DB]
     dsimp only;rw[χ rfl,IE];dsimp only;rw[OA];dsimp only;refine ZD (wpAny_isSame_ref_self ?_);rw[χ rfl];refine ZD (ZL ?_);dsimp only;rw[ω (by simp)]
     refine ih (N-(m+1)) (by lia) (m+1) f _ rfl (by lia) (by lia) λm' Ph i' x' h1 h2 h3=>?_
     rcases aa2 m' n with z|z
     ·exact Pu m' z i' x' h1 h2 h3
     ·by_cases e2:m'=m
      ·subst e2;obtain rfl:=S.wf.zS.inj h1 q3 (h2.trans q4.symm);rw[ID]at h3;obtain rfl:=aao h3;exact G9
      ·intro z2;exact q7 m' z (by lia) i' h1 h2 (by rw[hash i' x' h1 h3,z2])
end
theorem vt (n:Nat):∀(f j:Nat),n<2 ^ (j+f)->∃j',j<=j'/\SetTable.sizeAbove.go n f (2 ^ j)=2 ^ j'/\n<2 ^ j'/\(j'=j\/2 ^ (j' - 1)<=n)
 |0,j,h=>{j,ZG _,rfl,h,.inl rfl}
 |f+1,j,h=>by
  unfold SetTable.sizeAbove.go
  by_cases hc:2 ^ j<=n
  ·rw[χ hc,<- acO];obtain⟨j',h1,h2,h3,h4⟩:=vt n f (j+1) (by rw[show j+1+f=j+(f+1) by lia];exact h)
   refine{j',by lia,h2,h3,.inr ?_}
   rcases h4 with rfl|h4
   ·exact hc
   ·exact h4
  ·rw[ω hc];exact{j,ZG _,rfl,by lia,.inl rfl}
def EW {n:Nat}(h:n<=4000):∃j,3<=j/\SetTable.sizeAbove n=2 ^ j/\n<2 ^ j/\2 ^ j<=8192:=by
 obtain⟨j,h1,h2,h3,h4⟩:=vt n 64 3 (ab0 h (by decide))
 refine{j,h1,h2,h3,?_};rcases h4 with rfl|h4
 ·decide
 ·have:j-1<12:=by
   rcases aa2 (j-1) 12 with z|z
   ·exact z
   ·have:2 ^ 12<=2 ^ (j-1):=abv (by decide) z
    lia
  have:2 ^ j<=2 ^ 12:=abv (by decide) (by lia)
  lia
def Hh (d:Nat)(n:Int)(tk:Tok):hashByValue d (.int n tk)=pure ζ:=by
 cases d <;> rfl
section
variable {prog:ZN}{w:Z4}{A:aaJ}{E:ZF->ZH->Prop}{s:ZH}
variable {a b:θ}{o:Obj}{ts:List (θ×List Int)}{es:Array (Int×ZF)}{ep:Nat}{t:SetTable}{k:List Int}
def Js {Q:Bool->ZH->Prop}(hk:(TK prog w).is s.heap k b)(q:Q ζ s):aab (Ψ prog w) A (hashByValue 8 (.ref b)) Q E s:=by
 obtain⟨o,items,n,ho,hc,hd,hi⟩:=hk;have hT:s.TypeIs (.ref b) "tuple" := {(o),ho,hc};unfold hashByValue;refine ZD (wpAny_specialOf hT F.slot_tuple_hash.lookup ?_);dsimp only;refine ZD (abu ho hd ?_);dsimp only[Option.getD_some];rw[<- Array.forIn_toList];refine ZD (ac_ _ (λrest r s'=>r=(ξ,())/\s'=s/\∀v∈rest,∃n tk,v=Value.int n tk) _ ?_ ?_ _ _ {rfl,rfl,?_})
 ·rintro v rest r s' ⟨rfl,rfl,kS⟩;obtain⟨n,tk,rfl⟩:=kS v ZO;rw[Hh];refine ZD (ZL ?_);rw[ω (by simp)]
  exact ZL {rfl,rfl,λu hu=>kS u (ZP _ hu)}
 ·rintro r s' ⟨rfl,rfl,_⟩;exact ZL q
 ·generalize items.toList=vs at hi
  induction hi with
  |nil=>intro v hv;cases hv
  | @cons k v ks vs h1 h2 ih =>
   intro u hu;rcases ZI.mp hu with rfl|hu
   ·obtain⟨t,rfl⟩:=Value.isInt_shape h1;exact{_,_,rfl}
   ·exact ih u hu
def pU (ho:s.heap.get? a=ν o)(S:cW prog w o ts es ep t)(T:Fo prog w s.heap ts)(hk:(TK prog w).is s.heap k b)(hu:A.units<abx){lb:Bool}{Q:SetFound->ZH->Prop}
  (Qf:∀N,(∀x∈ts,x.2≠k)->¬ sH t (cN t.mask (kH prog w k) N)->(∀x,x<N->sH t (cN t.mask (kH prog w k) x))->Q (.free (cN t.mask (kH prog w k) N) η) s)
  (Qt:∀i:Option Nat,(∃x∈ts,x.2=k)->(lb=η->i.isSome=ζ)->Q (.there i) s) :
  aab (Ψ prog w) A (setSearch a (.ref b) (kH prog w k) lb) Q E s:=by
 obtain⟨N,h1,h2,h3⟩:=S.wf.first (kH prog w k)
 have hm:=S.Ip;unfold setSearch;exact o9 ho S T hk hu h2 h3 h1 (λq=>Qf N q h2 h3) Qt N 0 100000 ξ rfl (abj N) (by unfold SetTable.turns at h1;lia) λm hm=>by lia
def sP (ho:s.heap.get? a=ν o)(S:cW prog w o ts es ep t)(T:Fo prog w s.heap ts)(hk:(TK prog w).is s.heap k b)(hu:A.units<abx){Q:Bool->ZH->Prop}
  (q:Q (decide (∃x∈ts,x.2=k)) {s with toks:=s.toks+(k.length+1)}):aab (Ψ prog w) A (setContains a (.ref b)) Q E s:=by
 unfold setContains;refine aa6 ?_;refine ZD ((TK prog w).pyHash hu hk ?_);unfold setFind setFindIn;refine ZD (ZD (abi (s:={s with toks:=s.toks+(TK prog w).draws k}) ho S.dat S.fits ?_))
 dsimp only;rw[ω (by simp[byScan,Value.scannable])]
 refine ZD (pU (s:={s with toks:=s.toks+(TK prog w).draws k}) ho S T hk hu (λN g1 g2 g3=>?_) λi g1 g2=>?_)
 ·dsimp only;refine ZL (ZL ?_);rw[Δ (λjO=>by obtain⟨x,hx,e⟩:=jO;exact g1 x hx e)]at q
  exact q
 ·dsimp only;refine ZL (ZL ?_);rw[Γ g1]at q;rw[g2 rfl];exact q
def yJ {h:Heap}(ho:h.get? a=ν o)(hd:o.data=.set es ep t)(eU:Array (Int×ZF))(t':SetTable):(h.update a (Obj.putSet eU t')).get? a=ν {o with data:=.set eU (ep+1) t'}:=by
 have e:=Heap.get?_update_self (Obj.putSet eU t') ho (by rw[putSet_of eU t' hd];rfl)
 rw[e,putSet_of eU t' hd]
def CF {α:Type}(l:List α)(p:Nat)(x:α):(l.take p++x::l.drop p).Perm (x::l):=by
 refine adg.trans (List.Perm.cons x ?_);rw[abL]
def Bv (ho:s.heap.get? a=ν o)(hx:o.ExactSet)(hd:o.data=.set es ep t)(he:es.toList=ts.map (ent prog w))(hw:WF t (ts.map λx=>kH prog w x.2))(Zq:0<ts.length)(hn:ts.length<=1000)
  (T_:t.led=!w.params.followText "set-order") (hpl:t.plain=ζ) (pD:(ts.map (·.2)).Nodup) {Q:Unit->ZH->Prop}
  (q:∀(bF:List (θ×List Int)) (eU:Array (Int×ZF)) (t':SetTable),bF.Perm ts->cW prog w {o with data:=.set eU (ep+1) t'} bF eU (ep+1) t'->Q () {s with heap:=s.heap.update a (Obj.putSet eU t')}) :
  aab (Ψ prog w) A (setRelay a (SetTable.grown ts.length)) Q E s:=by
 have hz:es.size=ts.length:=by rw[<- ZX,he,ZE]
 have hp:t.place.size=ts.length:=by have:=hw.sz;rw[ZE]at this;exact this
 have hf:t.fits es.size=ζ:=by
  unfold SetTable.fits SetTable.fill;rw[hw.MM,hz,hp];have:=hw.room;simp;lia
 unfold setRelay;refine ZD (abi ho hd hf ?_);dsimp only;have hg:SetTable.grown ts.length=ts.length*4:=by unfold SetTable.grown;rw[ω (by lia)]
 rw[hg];obtain⟨j,j3,ja,jb,jc⟩:=EW (n:=ts.length*4) (by lia)
 rw[ja,ω (by rw[aaQ];lia)]
 have hs:(es.map (·.1)).size=ts.length:=by rw[Array.size_map,hz]
 obtain⟨t',order,e1,e2,e3,e4,e5,e6,e7,e8⟩:=GY (hs:=es.map (·.1)) j3 (by lia) t.finger (t.movedTo (2 ^ j-1)) t.led t.plain
 rw[hs]at e6 e8;have er:t.relaid (es.map (·.1)) (ts.length*4)=ν (t',order):=by
  unfold SetTable.relaid;rw[ja];exact e1
 rw[er];have gd:∀i,i<ts.length->es[i]?=ν (ent prog w (ts.getD i (0,[]))):=λi hi=>by
  rw[<- Z9,he,ZS,ZU hi,aa_,ZU hi];rfl
 have jP:(order.filterMap (es[·]?)).toList=(order.toList.map λi=>ts.getD i (0,[])).map (ent prog w):=by
  rw[Array.toList_filterMap,aaR];have:∀l:List Nat,(∀i∈l,i<ts.length)->l.filterMap (es[·]?)=l.map (ent prog w ∘ λi=>ts.getD i (0,[])):=λl=>by
   induction l with
   |nil=>intro _;rfl
   |cons i l ih =>
    intro h;rw[aaU,gd i (h i ZO),aae,ih λy hy=>h y (ZP _ hy)];rfl
  exact this _ λi hi=>aas.mp (e6.mem_iff.mp hi)
 have DH:(order.toList.map λi=>ts.getD i (0,[])).Perm ts:=by
  refine(e6.map _).trans (acK ?_);apply abz;intro i;rw[ZS]
  by_cases hi:i<ts.length
  ·rw[abB hi,ZU hi];show ν (ts.getD i (0,[]))=_;rw[aa_,ZU hi];rfl
  ·rw[aaE (by rw[Z7];lia),aaE (by lia)]
   rfl
 have hsz:(order.filterMap (es[·]?)).size=es.size:=by
  rw[<- ZX,jP,ZE,DH.length_eq,hz]
 refine ZD ?_;show aab _ _ (if (order.filterMap (es[·]?)).size != es.size then _ else _) _ _ _
 rw[hsz,ω (by simp)]
 refine ZL ?_;dsimp only;refine wpAny_storeSet_of ho hd (q _ _ t' DH {hx,rfl,jP,?_,?_,by lia,e3.trans T_,e4.trans hpl,?_}) (by rw[hsz,hz,aaQ];lia)
 ·rw[aaR];have:(order.toList.map λi=>(es.map (·.1)).getD i 0)=order.toList.map ((λx=>kH prog w x.2) ∘ λi=>ts.getD i (0,[])):=by
   refine aal λi hi=>?_;have hi:=aas.mp (e6.mem_iff.mp hi);rw[Z_,Array.getElem?_map,gd i hi];rfl
  rw[<- this];exact e7
 ·rw[e8,e2];lia
 ·exact((DH.map (·.2)).nodup_iff).mpr pD
def BB (ho:s.heap.get? a=ν o)(S:cW prog w o ts es ep t)(T:Fo prog w s.heap ts)(hk:(TK prog w).is s.heap k b)(hu:A.units<abx)(hn:ts.length<1000)(f:Nat){Q:Bool->ZH->Prop}
  (q:∀(h':Heap) (o':Obj) (bF:List (θ×List Int)) (eU:Array (Int×ZF)) (pM:Nat) (t':SetTable) (added:Bool),abr a s.heap h'->h'.get? a=ν o'->cW prog w o' bF eU pM t' ->
   ((∃x∈ts,x.2=k)->bF=ts)->((∀x∈ts,x.2≠k)->bF.Perm ((b,k)::ts))->Q added {s with heap:=h'}) :
  aab (Ψ prog w) A (setAddHashedIn a (.ref b) (kH prog w k) (f+1)) Q E s:=by
 unfold setAddHashedIn;refine ZD (abi ho S.dat S.fits ?_);dsimp only;rw[ω (by simp[byScan,Value.scannable])]
 refine ZD (pU ho S T hk hu (λN g1 g2 g3=>?_) λi g1 g2=>?_)
 ·dsimp only;refine ZD (abi ho S.dat S.fits ?_);dsimp only;have hr:t.place.size+1<=t.mask:=by
   have:=S.RL;obtain⟨j,hj,e⟩:=S.wf.Ip;have:2 ^ 3<=2 ^ j:=abv (by decide) hj
   lia
  obtain⟨W,hp⟩:=S.wf.put (l_ _ _ _) g2 g3 hr;have pe:(t.put (cN t.mask (kH prog w k) N)).1.plain=t.plain/\(t.put (cN t.mask (kH prog w k) N)).1.led=t.led/\(t.put (cN t.mask (kH prog w k) N)).1.mask=t.mask:={(rfl),rfl,rfl};have pf:(t.put (cN t.mask (kH prog w k) N)).1.dummies=#[]:=W.MM;generalize (t.put (cN t.mask (kH prog w k) N)).1=t1 at *
  generalize (t.put (cN t.mask (kH prog w k) N)).2=p at *
  obtain⟨Se,VF,Xr⟩:=pe;rw[Se,S.MB,χ rfl];refine ZD (Js hk ?_);rw[χ rfl];have hz:=S.size;have L3:(SetTable.insertAt es p (kH prog w k,Φ b)).toList=(ts.take p++(b,k)::ts.drop p).map (ent prog w):=by
   rw[nZ,S.L4,aag,aae,List.map_take,List.map_drop]
  have W1:WF t1 ((ts.take p++(b,k)::ts.drop p).map λx=>kH prog w x.2):=by
   rw[aag,aae,List.map_take,List.map_drop];exact W
  have pm:(ts.take p++(b,k)::ts.drop p).Perm ((b,k)::ts):=CF ts p (b,k);have gh:(ts.take p++(b,k)::ts.drop p).length=ts.length+1:=pm.length_eq;have C6:((ts.take p++(b,k)::ts.drop p).map (·.2)).Nodup:=by
   refine((pm.map (·.2)).nodup_iff).mpr ?_;rw[aae,aac];exact⟨λhm=>by
    obtain⟨x,hx,e⟩:=Z0.mp hm;exact g1 x hx e,S.Sl⟩
  have E7:(SetTable.insertAt es p (kH prog w k,Φ b)).size=ts.length+1:=by rw[<- ZX,L3,ZE,gh]
  have Zj:t1.place.size=ts.length+1:=by have:=W1.sz;rw[ZE,gh]at this;exact this
  refine ZD (wpAny_storeSet_of ho S.dat ?_ (by rw[E7,aaQ];lia))
  have Pf:=yJ ho S.dat (SetTable.insertAt es p (kH prog w k,Φ b)) t1;have Nf:abr a s.heap (s.heap.update a (Obj.putSet (SetTable.insertAt es p (kH prog w k,Φ b)) t1)):=ack _ _ _;have fin:∀(h':Heap) (o':Obj) (bF:List (θ×List Int)) (eU:Array (Int×ZF)) (pM:Nat) (t':SetTable),abr a s.heap h'->h'.get? a=ν o'->cW prog w o' bF eU pM t'->bF.Perm (ts.take p++(b,k)::ts.drop p)->Q ζ {s with heap:=h'} :=
   λh' o' bF eU pM t' q1 q2 q3 q4=>q h' o' bF eU pM t' ζ q1 q2 q3 (λr_=>by obtain⟨x,hx,e⟩:=r_;exact Η e (g1 x hx)) λ_=>q4.trans pm
  by_cases uG:t1.tooFull=ζ
  ·rw[uG,χ (by rfl)]
   have Ym:SetTable.grown (es.size+1)=SetTable.grown (ts.take p++(b,k)::ts.drop p).length:=by rw[gh,hz.1]
   rw[Ym];refine ZD (Bv (s:={s with heap:=s.heap.update a (Obj.putSet (SetTable.insertAt es p (kH prog w k,Φ b)) t1)}) Pf S.ex rfl L3 W1 (by lia) (by lia) (VF.trans S.led) (Se.trans S.MB) C6 λbF eU t' r1 r2=>ZL ?_)
   have IF:=yJ Pf rfl eU t';exact fin _ _ bF eU _ t' (Nf.trans (ack _ _ _)) IF r2 r1
  ·rw[ω (by simpa using uG)]
   refine ZL (fin _ _ _ _ _ _ Nf Pf {S.ex,rfl,L3,W1,?_,by rw[Xr];exact S.Ip,VF.trans S.led,Se.trans S.MB,C6} (.refl _))
   unfold SetTable.tooFull SetTable.fill at uG;rw[pf]at uG;simp at uG;lia
 ·dsimp only;exact ZL (q s.heap o ts es ep t η (Heap.SameBut.refl _ _) ho S (λ_=>rfl) λg=>Η g1 λw6=>by obtain⟨x,hx,e⟩:=w6;exact g x hx e)
def BD (ho:s.heap.get? a=ν o)(S:cW prog w o ts es ep t)(T:Fo prog w s.heap ts)(hk:(TK prog w).is s.heap k b)(hu:A.units<abx)(hn:ts.length<1000){Q:Bool->ZH->Prop}
  (q:∀(h':Heap) (o':Obj) (bF:List (θ×List Int)) (eU:Array (Int×ZF)) (pM:Nat) (t':SetTable) (added:Bool) (tk:Nat),s.toks<=tk->abr a s.heap h'->h'.get? a=ν o'->cW prog w o' bF eU pM t' ->
   ((∃x∈ts,x.2=k)->bF=ts)->((∀x∈ts,x.2≠k)->bF.Perm ((b,k)::ts))->Q added {s with heap:=h',toks:=tk}) :
  aab (Ψ prog w) A (setAdd a (.ref b)) Q E s:=by
 unfold setAdd;refine aa6 ?_;refine ZD ((TK prog w).pyHash hu hk ?_);unfold setAddHashed;refine aa6 ?_;exact BB (s:={s with toks:=s.toks+(TK prog w).draws k}) ho S T hk hu hn 99999 λh' o' bF eU pM t' added r1 r2 r3 r4 r5=>q h' o' bF eU pM t' added _ (adf _ _) r1 r2 r3 r4 r5
end
theorem oN {α:Type}:∀{l:List α} {i:Nat} (h:i<l.length),(l[i]::l.eraseIdx i).Perm l
 |[],_,h=>Η h (Nat.not_lt_zero _)
 |x::l,0,_=>.refl _
 |x::l,i+1,h=>by
  have h':i<l.length:=by rw[ZZ]at h;lia
  show (l[i]::x::l.eraseIdx i).Perm (x::l);exact(List.Perm.swap _ _ _).trans ((oN h').cons x)
theorem ym {α:Type}(next:Nat->Nat):∀(f k:Nat) (left:List α) (out:Array α),f=left.length->(pickOrder.go next f k left out).toList.Perm (out.toList++left)
 |0,k,left,out,e=>by
  obtain rfl:left=[]:=List.length_eq_zero_iff.mp e.symm;unfold pickOrder.go;rw[aaw]
 |f+1,k,left,out,e=>by
  unfold pickOrder.go;have hi:next k % left.length<left.length:=acT _ (by lia)
  rw[ZU hi];dsimp only;refine(ym next f (k+1) _ _ (by rw[List.length_eraseIdx_of_lt hi];lia)).trans ?_
  rw[abA,aaS];exact List.Perm.append_left _ (oN hi)
def zW {α:Type}(next:Nat->Nat)(xs:Array α):(pickOrder next xs).toList.Perm xs.toList:=by
 have:=ym next xs.size 0 xs.toList #[] (by rw[ZX])
 exact this
def b5:Slot "set_iterator" "__next__" "set_iterator.__next__" :=
 .of (owner:="set_iterator") (n:="__next__") (by rw[typeLookup_type,builtinLookup_eq_fast];kernel_rfl) (by decide +kernel) (by decide +kernel) (by decide +kernel)
  (by first|exact .inl (by decide +kernel)|exact .inr (by decide +kernel)) (by rw[isSubtype_type];kernel_rfl)
def iu:Slot "set_iterator" "__iter__" "set_iterator.__iter__" :=
 .of (owner:="set_iterator") (n:="__iter__") (by rw[typeLookup_type,builtinLookup_eq_fast];kernel_rfl) (by decide +kernel) (by decide +kernel) (by decide +kernel)
  (by first|exact .inl (by decide +kernel)|exact .inr (by decide +kernel)) (by rw[isSubtype_type];kernel_rfl)
def gM:entryFor table "set_iterator.__next__" = ν abM.«set_iterator.__next__»:=entryFor_of_tree (by kernel_rfl)
def oH:entryFor table "set_iterator.__iter__" = ν abM.«dict_keyiterator.__iter__» :=
 entryFor_alias (id':="dict_keyiterator.__iter__") (by kernel_rfl) rfl (by decide +kernel) (by kernel_rfl)
def oI:entryFor table "set.__iter__" = ν abM.«frozenset.__iter__» :=
 entryFor_alias (id':="frozenset.__iter__") (by kernel_rfl) rfl (by decide +kernel) (by kernel_rfl)
def iM (a:ZF):argsOk "set_iterator.__next__" ⟨[a],[]⟩:=by unfold argsOk;kernel_rfl
def pQ (a:ZF):argsOk "set_iterator.__iter__" ⟨[a],[]⟩:=by unfold argsOk;kernel_rfl
section
variable {prog:ZN}{w:Z4}{A:aaJ}{E:ZF->ZH->Prop}{s:ZH}
variable {a:θ}{o:Obj}{ts:List (θ×List Int)}{es:Array (Int×ZF)}{ep:Nat}{t:SetTable}
abbrev EI (w:Z4):Bool:=w.params.followText "set-order"
def j5 {Q:Bool->ZH->Prop}(q:Q (EI w) s):aab (Ψ prog w) A setsByText Q E s:=by
 unfold setsByText;exact ZD (ada (ZL q))
def b7 (w:Z4)(a:θ)(ep:Nat)(es:Array (Int×ZF)):Array (Int×ZF):=if EI w=ζ then pickOrder (w.params.setOrder a ep) es else es
def gU (w:Z4)(a:θ)(ep:Nat)(es:Array (Int×ZF)):(b7 w a ep es).toList.Perm es.toList:=by
 unfold b7
 split
 ·exact zW _ _
 ·exact .refl _
def Ad (S:cW prog w o ts es ep t){Q:Bool->ZH->Prop}(ho:s.heap.get? a=ν o)(q:Q η s):aab (Ψ prog w) A (setDrawn a) Q E s:=by
 unfold setDrawn;refine ZD (abi ho S.dat S.fits ?_);dsimp only;refine ZD (j5 (ZL ?_));have:(!EI w&&(!t.plain&&decide (es.size>1)))=η:=by rw[S.MB];simp
 show Q (!EI w&&(!t.plain&&decide (es.size>1))) s;rw[this];exact q
def mP (ho:s.heap.get? a=ν o)(S:cW prog w o ts es ep t){sl i:Nat}{Q:Option (ZF×Nat)->ZH->Prop}(ME:EI w=η->SetTable.below t.place sl=i)
  (q1:∀e,(b7 w a ep es)[i]?=ν e->∀JP:Nat,(EI w=η->SetTable.below t.place JP=i+1)->Q (ν (e.2,JP)) s) (q2:(b7 w a ep es)[i]?=ξ->Q ξ s) :
  aab (Ψ prog w) A (setNext a sl i ep) Q E s:=by
 unfold setNext;refine ZD (abi ho S.dat S.fits ?_);dsimp only;refine ZD (j5 ?_);cases hb:EI w with
 |true =>
  rw[χ rfl,ω (by simp)]
  unfold setWalk;refine ZD (ZD (abi ho S.dat S.fits ?_));dsimp only;refine ZD (j5 ?_);rw[hb,χ rfl];refine ZD (ada (ZL (ZL ?_)));have e:b7 w a ep es=pickOrder (w.params.setOrder a ep) es:=by unfold b7;rw[hb,χ rfl]
  rw[e]at q1 q2;show Q (((pickOrder (w.params.setOrder a ep) es)[i]?).map λe=>(e.2,sl)) s;cases hx:(pickOrder (w.params.setOrder a ep) es)[i]? with
  |none=>exact q2 hx
  |some x=>exact q1 x hx sl (λz=>by rw[hb]at z;cases z)
 |false =>
  rw[ω (by simp)]
  have e:b7 w a ep es=es:=by unfold b7;rw[hb,ω (by simp)]
  rw[e]at q1 q2;have hd:(!t.plain&&decide (es.size>1))=η:=by rw[S.MB];rfl
  show aab _ _ (if (!t.plain&&decide (es.size>1))=ζ then _ else _) _ _ _
  rw[hd,ω (by simp)]
  have hl:t.led=ζ:=by
   rw[S.led];show (!EI w)=ζ;rw[hb];rfl
  refine ZD ?_;show aab _ _ (if (!t.led&&!es.isEmpty)=ζ then _ else _) _ _ _
  rw[hl,ω (by simp)]
  refine ZL (ZL ?_);rw[ME hb];have hz:=S.size
  by_cases hi:i<t.place.size
  ·have h1:es[i]?=ν es[i]:=getElem?_pos es i (by omega)
   rw[h1,xg hi];refine q1 _ h1 _ λ_=>?_;obtain⟨b1,b2,b3⟩:=fX S.wf.zS (g t.place i+1);rcases Nat.lt_trichotomy (SetTable.below t.place (g t.place i+1)) (i+1)with z|z|z
   ·have:=b3 i (by omega) hi
    omega
   ·exact z
   ·have:=b2 (i+1) z;have:=S.wf.zS i (i+1) (by omega) (by omega)
    omega
  ·have h1:es[i]?=ξ:=abF (by omega)
   rw[h1];exact q2 h1
end
section
variable {prog:ZN}{w:Z4}{A:aaJ}{E:ZF->ZH->Prop}{s:ZH}
variable {a b it:θ}{o:Obj}{ts:List (θ×List Int)}{es:Array (Int×ZF)}{ep:Nat}{t:SetTable}
def rE (sl i:Nat)(a:θ)(n ep:Nat):Obj:={cls:=.type "set_iterator",dict:=ξ,data:=.fields #[.int sl 0,.int i 0,.ref a,.int n 0,.int ep 0],slots:=#[]}
def nc {sl i n:Nat}(h:s.heap.get? it=ν (rE sl i a n ep)):s.TypeIs (.ref it) "set_iterator" := {_,h,rfl}
def MT (prog:ZN)(w:Z4)(it a:θ)(ts:List (θ×List Int))(es:Array (Int×ZF))(ep:Nat)(i:Nat)(h:Heap):Prop :=
 ∃sl o t,h.get? it=ν (rE sl i a es.size ep)/\h.get? a=ν o/\cW prog w o ts es ep t/\(EI w=η->SetTable.below t.place sl=i)
def B7 (xa:a≠it){i:Nat}{e:Int×ZF}{Q:Option ZF->ZH->Prop}(st:MT prog w it a ts es ep i s.heap)(he:(b7 w a ep es)[i]?=ν e)
  (q:∀h',MT prog w it a ts es ep (i+1) h'->abr it s.heap h'->Q (ν e.2) {s with heap:=h'}):aab (Ψ prog w) A (acS (.ref it)) Q E s:=by
 obtain⟨sl,o,t,hi,ho,S,hb⟩:=st;have hT:=nc hi;unfold acS;refine ZD (acz (abw (name:=acx "__next__") hT b5 (aa3 b5 hT gM ?_ (iM _))));unfold abM.«set_iterator.__next__»
 refine ZD (ZL ?_);refine ZD (wpAny_fieldsOf hi rfl ?_);dsimp only;refine ZD (wpAny_setEntries_of ho S.dat S.fits ?_);rw[ω (by simp)]
 refine ZD (mP (i:=i) ho S (λz=>by simpa using hb z) (λe' Pp JP OI=>?_) λhn=>?_)
 ·rw[he]at Pp;obtain rfl:=aao Pp;dsimp only;refine ZD (abp hi (by simp) λh1 g1 Nf=>?_)
  refine ZD (abp (s:={s with heap:=h1}) g1 (by simp) λh2 g2 Vw=>?_)
  refine ZL {_,rfl,ZL (q h2 {JP,o,t,?_,?_,S,OI} (Nf.trans Vw))}
  ·rw[g2];rfl
  ·rw[(Nf.trans Vw).2 a xa];exact ho
 ·rw[he]at hn;cases hn
def FO (hh:A.handled=ξ)(xa:a≠it){i:Nat}{Q:Option ZF->ZH->Prop}(st:MT prog w it a ts es ep i s.heap)(he:(b7 w a ep es)[i]?=ξ)
  (q:∀h',Heap.ExtBut it s.heap h'->Q ξ {s with heap:=h'}):aab (Ψ prog w) A (acS (.ref it)) Q E s:=by
 obtain⟨sl,o,t,hi,ho,S,hb⟩:=st;have hT:=nc hi;unfold acS;refine ZD (acz (abw (name:=acx "__next__") hT b5 (aa3 b5 hT gM ?_ (iM _))));unfold abM.«set_iterator.__next__»
 refine ZD (ZL ?_);refine ZD (wpAny_fieldsOf hi rfl ?_);dsimp only;refine ZD (wpAny_setEntries_of ho S.dat S.fits ?_);rw[ω (by simp)]
 refine ZD (mP (i:=i) ho S (λz=>by simpa using hb z) (λe' Pp JP OI=>?_) λhn=>?_)
 ·rw[he]at Pp;cases Pp
 ·dsimp only;refine ZD (wpAny_setField hi rfl (by simp) ?_)
  refine ZD ?_;simp only[newExc,newTuple];refine ZD (abN ?_ (by size_fits))
  refine ZD (m:=firstArgMember _ _) (wpAny_of_eq (a:=Value.none) (by first|rfl|(simp only[firstArgMember];rfl)) ?_)
  refine abN ?_ (by size_fits)
  simp only[raiseNew];refine ZD (wpAny_handled ?_);rw[show A.in1.handled=ξ from hh]
  refine ZD (ZL (wpAny_throw ?_));refine ZD (wpAny_isInstance (T:="StopIteration") (b:=ζ) {_,Z8 _ rfl,rfl} isSubtype_stop ?_);exact ZL (q _ (((ack ..).extBut.push _).push _))
def B6 {i:Nat}{Q:ZF->ZH->Prop}(st:MT prog w it a ts es ep i s.heap)(q:Q (.ref it) s):aab (Ψ prog w) A (pyIter (.ref it)) Q E s:=by
 obtain⟨sl,o,t,hi,ho,S,hb⟩:=st;have hT:=nc hi;refine wpAny_pyIter_slot hT iu (aa3 iu hT oH ?_ (pQ _));show aab _ _ (ret (.ref it)) _ _ s;exact ZL {_,rfl,"set_iterator",_,hT,b5.lookup,q}
def zM (hh:A.handled=ξ)(xa:a≠it):Walks prog w A it [it,a] [it] es.size (λi v=>∃e,(b7 w a ep es)[i]?=ν e/\v=e.2) (MT prog w it a ts es ep) where
 sub:=λb hb=>by rw[ZJ.mp hb];exact ZO
 frame:=λi h h' ⟨sl,o,t,h1,h2,h3⟩ hk=>{sl,o,t,hk it ZO _ h1,hk a (ZP _ ZO) _ h2,h3}
 item:=λi s Q E hi st hQ=>by
  have hz:(b7 w a ep es).size=es.size:=by
   have:=(gU w a ep es).length_eq;rw[ZX,ZX]at this;exact this
  have he:(b7 w a ep es)[i]?=ν (b7 w a ep es)[i]:=getElem?_pos _ i (by lia)
  exact B7 xa st he λh' aA sb=>hQ _ h' s.toks {_,he,rfl} aA λb o hb e=>sb.extBut b o (λz=>hb (by rw[z];exact ZJ.mpr rfl)) e
 done:=λs Q E st hQ=>by
  have hz:(b7 w a ep es).size=es.size:=by
   have:=(gU w a ep es).length_eq;rw[ZX,ZX]at this;exact this
  exact FO hh xa st (abF (by lia)) λh' eb=>hQ h' s.toks λb o hb e=>eb b o (λz=>hb (by rw[z];exact ZJ.mpr rfl)) e
 self:=λi s Q E st hQ=>B6 st hQ
def fv (ho:s.heap.get? a=ν o)(S:cW prog w o ts es ep t):s.TypeIs (.ref a) "set" := {(o),ho,S.ex.1}
def Fw (ho:s.heap.get? a=ν o)(S:cW prog w o ts es ep t){Q:ZF->ZH->Prop}(q:Q (.ref s.heap.objs.size) {s with heap:=s.heap.push (rE 0 0 a es.size ep)}):
  aab (Ψ prog w) A (pyIter (.ref a)) Q E s:=by
 have hT:=fv ho S;refine wpAny_pyIter_slot hT F.slot_set_iter (aa3 F.slot_set_iter hT oI ?_ (F.args_set_iter_1 _));unfold abM.«frozenset.__iter__» Builtin.Frozenset.slot0 Builtin.Frozenset.sizeOf;refine ZD (ZD (ZL (ZL ?_)));refine ZD (ZD (wpAny_setEntries_of ho S.dat S.fits (ZL ?_)));refine ZD (Ad S ho ?_);rw[ω (by simp)]
 refine ZD (ZL ?_);refine ZD (wpAny_setEpoch_of ho S.dat S.fits ?_);unfold newFields;refine ZD (abN (ZL {_,rfl,"set_iterator",_,{_,Z8 _ rfl,rfl},b5.lookup,?_}) (by size_fits))
 exact q
def Fx (ho:s.heap.get? a=ν o)(S:cW prog w o ts es ep t){Q:Bool->ZH->Prop}(q:Q η s):aab (Ψ prog w) A (Builtin.List.listLengthHint (.ref a)) Q E s:=by
 have hT:=fv ho S;unfold Builtin.List.listLengthHint;refine ZD (wpAny_specialOf hT PySem.F.slot_set_len.lookup ?_);generalize Wg:("set.__len__" : String)=XT
 wp_delta
 rw[show splitId XT=ν ("set","__len__") from by subst Wg;decide +kernel]
 subst Wg;refine ZD (wpAny_isInstance (T:="set") (b:=ζ) hT (by rw[isSubtype_type];kernel_rfl) ?_)
 refine wpAny_ite_split (λLQ=>Η LQ (by decide)) (λ_=>?_)
 refine wpAny_ite_split (λ_=>?_) (λLQ=>Η (by decide +kernel) LQ)
 refine ZD (wpAny_typeOf hT ?_);exact ZL q
def FQ (prog:ZN)(w:Z4)(a:θ)(o:Obj)(ts:List (θ×List Int))(es:Array (Int×ZF))(ep:Nat)(t:SetTable)(S:cW prog w o ts es ep t):
  PySem.W.KdlSrc prog w "set" a a es.size (λi v=>∃e,(b7 w a ep es)[i]?=ν e/\v=e.2) (λh=>h.get? a=ν o) where
 type:=λs ho=>fv ho S
 there:=λh ho=>{Z6 ho,Z6 ho}
 keep:=λh h' ho hk=>hk a (.inl rfl) _ ho
 notList:=by decide
 notTuple:=by decide
 hint:=λA E s Q ho q=>Fx ho S q
 iter:=λA s hh ho=>⟨rE 0 0 a es.size ep,MT prog w s.heap.objs.size a ts es ep,λE Q q=>Fw ho S q,zM hh (aak (Z6 ho)),
  0,o,t,Z8 _ rfl,ZM _ ho,S,λ_=>by
   obtain⟨b1,b2,b3⟩:=fX S.wf.zS 0;rcases Nat.eq_zero_or_pos (SetTable.below t.place 0)with z|z
   ·exact z
   ·have:=b2 0 z;lia⟩
theorem nB {α β:Type}{f:α->β}:∀{ts:List α} {l:List β},l.Perm (ts.map f)->∃us:List α,us.Perm ts/\l=us.map f
 |[],l,h=>{[],.refl _,List.perm_nil.mp h}
 |x::ts,l,h=>by
  obtain⟨l1,l2,rfl⟩:=List.append_of_mem (h.mem_iff.mpr (show f x∈(x::ts).map f from ZO))
  have h':(l1++l2).Perm (ts.map f):=(adg.symm.trans h).cons_inv;obtain⟨us,h1,h2⟩:=nB h';obtain⟨u1,u2,rfl,e1,e2⟩:=List.map_eq_append_iff.mp h2.symm;refine{u1++x::u2,adg.trans (h1.cons x),?_};rw[aag,aae,e1,e2]
end
section
variable {prog:ZN}{w:Z4}{A:aaJ}{E:ZF->ZH->Prop}{s:ZH}
variable {o:Obj}{ts:List (θ×List Int)}{es:Array (Int×ZF)}{ep:Nat}{t:SetTable}
def il (w:Z4):Obj:={cls:=.type "set",dict:=ξ,data:=.set #[] 0 (.fresh 0 0 (!EI w))}
def yy (prog:ZN)(w:Z4):cW prog w (il w) [] #[] 0 (.fresh 0 0 (!EI w)) where
 ex:={(rfl),rfl,rfl}
 dat:=rfl
 L4:=rfl
 wf:={rfl,rfl,λi j _ hj=>Η hj (Nat.not_lt_zero _),λi hi=>Η hi (Nat.not_lt_zero _),{3,ZG _,rfl},ZW _,λi h hi=>by simp at hi}
 RL:=by show 0*5<7*3;decide
 Ip:=by show 7<=8191;decide
 led:=rfl
 MB:=rfl
 Sl:=aaH
def uk {xs:List ZF}{R:ZF->ZH->Prop}(hc:checkBuiltinCall "set.__new__" {.type "set" :: xs,[]}=pure ())(hx:xs=[]\/∃v,xs=[v])(q:R (.ref s.heap.objs.size) {s with heap:=s.heap.push (il w)}) :
  ac2 (Ψ prog w) A (.call (.builtin "set.__new__") {.type "set" :: xs,[]}) (wants R E) s:=by
 refine codeAny_of_tree ?_;show aab _ A.in1 (checkBuiltinCall "set.__new__" {.type "set" :: xs,[]} >>= λ_=>again (.builtin "set.__new__" {.type "set" :: xs,[]})) _ _ s;refine ZD (wpAny_of_eq hc (ZL {plainId_quiet F.plain_set_new _,ab3 F.entry_set_new ?_}));rw[acg F.plain_set_new _];unfold abM.«set.__new__» Builtin.Frozenset.newClass;have W8:=sub_set_self;obtain⟨hp,gs,dr,tk,os⟩:=s;rcases hx with rfl|⟨v,rfl⟩
 all_goals
  dsimp only
  wp_walk
  refine ada (ZL ?_);dsimp only;simp only[newObj];exact ZD (wpAny_alloc (ZL (ZL q)))
def Al {I:θ}{fp wr:List θ}{G:Array GenState->Array GenState->Prop}{vs:List (θ×List Int)}{St:Nat->ZH->Prop}{R:Result->ZH->Prop}(hu:A.in1.units<abx)
  {n:Nat} {P:Nat->ZF->Prop} (W:WalksS prog w A.in1 I fp wr G n P St) (TX:n=vs.length) (Yz:∀(i:Nat) (v:ZF),P i v->∃x,vs[i]?=ν x/\v=.ref x.1) (sa:θ) (V2:sa∉fp) (hn:vs.length<1000) (hv:∀x∈vs,x.1∉wr/\x.1≠sa) :
  ∀(d i:Nat) (s:ZH) (o:Obj) (ts:List (θ×List Int)) (es:Array (Int×ZF)) (ep:Nat) (t:SetTable),vs.length-i=d->i<=vs.length->St i s->Fo prog w s.heap vs->s.heap.get? sa=ν o->cW prog w o ts es ep t ->
   (∀x∈ts,x∈vs.take i)->(∀x∈vs.take i,∃y∈ts,y.2=x.2)->ts.length<=i ->
   (∀s' o' bF eU pM t',Moved (sa::wr) G s s'->s'.heap.get? sa=ν o'->cW prog w o' bF eU pM t'->(∀x∈bF,x∈vs)->(∀x∈vs,∃y∈bF,y.2=x.2)->R (.ok (.ret .none)) s') ->
   ac2 (Ψ prog w) A (.builtin "set.update.loop" {[.ref sa,.ref I],[]}) R s:=by
 subst TX;have vH:sa∉wr:=λz=>V2 (W.sub _ z);have up:∀x∈wr,x∈sa::wr:=λx hx=>ZP _ hx;intro d
 induction d with
 |zero =>
  intro i s o ts es ep t hd hi st T ho S k1 k2 k3 hR;obtain rfl:i=vs.length:=by lia
  refine ab3 F.entry_set_update_loop ?_;rw[acg F.plain_set_update_loop _];show aab _ A.in1 (acS (.ref I) >>= _) _ _ s;refine ZD (W.done s _ _ st λs' mv=>?_);rw[aaW]at k1 k2;exact ZL (hR s' o ts es ep t (mv.mono up) (mv.heap sa _ vH ho) S k1 k2)
 |succ d ih =>
  intro i s o ts es ep t hd hi st T ho S k1 k2 k3 hR;have lt:i<vs.length:=by lia
  refine ab3 F.entry_set_update_loop ?_;rw[acg F.plain_set_update_loop _];show aab _ A.in1 (acS (.ref I) >>= _) _ _ s;refine ZD (W.item i s _ _ lt st λv s1 hP Nd mv=>?_);obtain⟨x,hx,rfl⟩:=Yz i v hP;have Oz:x∈vs:=aap hx;have T1:Fo prog w s1.heap vs:=λy hy=>by
   obtain⟨oy,its,n,g1,g2⟩:=T y hy;exact{oy,its,n,mv.heap _ _ (hv y hy).1 g1,g2}
  have Pf:=mv.heap sa _ vH ho;refine ZD (aa6 (BD Pf S (λy hy=>T1 y (acd (k1 y hy))) (T1 x Oz) hu (by lia) λh' o' bF eU pM t' added tk r0 r1 r2 r3 r4 r5=>?_))
  have WW:vs.take (i+1)=vs.take i++[x]:=by rw[List.take_succ,hx];rfl
  have keep:∀c oc,c≠sa->s1.heap.get? c=ν oc->h'.get? c=ν oc:=λc oc hc e=>by rw[r1.2 c hc];exact e
  have step:(∀y∈bF,y∈vs.take (i+1))/\(∀y∈vs.take (i+1),∃z∈bF,z.2=y.2)/\bF.length<=i+1:=by
   rw[WW]
   by_cases sL:∃y∈ts,y.2=x.2
   ·rw[r4 sL];refine{λy hy=>aaA _ (k1 y hy),λy hy=>?_,by lia}
    rcases ZT.mp hy with z|z
    ·exact k2 y z
    ·rw[ZJ.mp z];exact sL
   ·have pm:=r5 λy hy e=>sL {(y),hy,e};refine{λy hy=>?_,λy hy=>?_,by rw[pm.length_eq,ZZ];lia}
    ·rcases ZI.mp (pm.mem_iff.mp hy)with rfl|z
     ·exact aaa _ (ZJ.mpr rfl)
     ·exact aaA _ (k1 y z)
    ·rcases ZT.mp hy with z|z
     ·obtain⟨u,hu,e⟩:=k2 y z;exact{u,pm.mem_iff.mpr (ZP _ hu),e}
     ·rw[ZJ.mp z];exact{x,pm.mem_iff.mpr ZO,rfl}
  have XG:Moved (sa::wr) G s {s1 with heap:=h',toks:=tk} :=
   (mv.mono up).then_heap r0 λc oc hc e=>keep c oc (λz=>hc (by rw[z];exact ZO)) e
  refine ZL {plainId_quiet F.plain_set_update_loop _,ih (i+1) _ o' bF eU pM t' (by lia) lt (W.frame _ s1 _ _ Nd r0 λc hc oc e=>keep c oc (λz=>V2 (by rw[<- z];exact hc)) e) (λy hy=>?_) r2 r3 step.1 step.2.1 step.2.2 λs' o2 WT YJ YK t2 m1 m2 m3 m4 m5=>hR s' o2 WT YJ YK t2 (Moved.trans W.gtrans XG m1) m2 m3 m4 m5}
  obtain⟨oy,its,n,g1,g2⟩:=T1 y hy;exact{oy,its,n,keep _ _ (hv y hy).2 g1,g2}
end
section
variable {prog:ZN}{w:Z4}{A:aaJ}{E:ZF->ZH->Prop}{s:ZH}
def AX {l:θ}{vs:List (θ×List Int)}{Q:ZF->ZH->Prop}(hh:A.handled=ξ)(hu:A.units+16<abx)(hl:s.heap.IsList l (vs.map λx=>Φ x.1).toArray)(hn:vs.length<1000)(T:Fo prog w s.heap vs)
  (q:∀(h':Heap) (tk:Nat) (o':Obj) (ts:List (θ×List Int)) (es:Array (Int×ZF)) (ep:Nat) (t:SetTable),(∀c oc,s.heap.get? c=ν oc->h'.get? c=ν oc)->h'.get? s.heap.objs.size=ν o'->cW prog w o' ts es ep t ->
   (∀x∈ts,x∈vs)->(∀x∈vs,∃y∈ts,y.2=x.2)->Q (.ref s.heap.objs.size) {s with heap:=h',toks:=tk}) :
  aab (Ψ prog w) A (call (.type "set") [.ref l]) Q E s:=by
 obtain⟨cx,WV,Sv⟩:=F.called_set.mro;have Ob:=F.called_set.made;have Rt:=F.called_set.sub;refine wpAny_call (codeAny_of_tree ?_);show aab _ _ (callAny (.type "set") _) _ _ _;refine ZL {Code.quiet_builtin _ (by decide +kernel),ab3 F.entry_type_call ?_}
 rw[Around.under_plain (weight_type_call_type "set" [.ref l] []) rfl];have t1:=F.called_set.notType;have t2:=F.called_set.canCreate;have t3:=F.typeCall_set_1 (.ref l)
 repeat (any_goals (first|assumption|wp_step))
 have ls:l<s.heap.objs.size:=by obtain⟨ol,TM,_⟩:=hl;exact Z6 TM
 refine abZ (uk (w:=w) (E:=E) (xs:=[.ref l]) (R:=λob sx=>ob=.ref s.heap.objs.size/\sx={s with heap:=s.heap.push (il w)}) (F.newCall_set_1 _) (.inr {_,rfl}) {(rfl),rfl}) λr sx hr=>?_
 cases r with
 |error e=>exact hr
 |ok fl =>
  cases fl with
  |ret ob =>
   obtain⟨rfl,rfl⟩:=hr;have hS:(s.heap.push (il w)).get? s.heap.objs.size=ν (il w):=Z8 _ rfl;have hT:Shared.TypeIs {s with heap:=s.heap.push (il w)} (.ref s.heap.objs.size) "set" := {_,hS,rfl}
   have i1:=F.called_set.init.lookup;have i2:=F.called_set.init.bind (.ref s.heap.objs.size)
   repeat (any_goals (first|assumption|wp_step))
   refine abZ (codeAny_call_builtin (R:=wants (λr s2=>r=.none/\Q (.ref s.heap.objs.size) s2) E) F.called_set.init.plain F.entry_set_init (check_set_init_1 hT ?_)) λr2 s2 og=>?_
   ·obtain⟨ol,TM,Az,nl,Wj⟩:=hl;obtain⟨c1,c2,c3,c4⟩:=ol;simp only at Az Wj;subst Az Wj;have TL:(s.heap.push (il w)).get? l=ν {cls:=.type "list",dict:=c2,data:=.seq (vs.map λx=>Φ x.1).toArray nl,slots:=c4}:=ZM _ TM;have u1:=F.sub_list_set;have u2:=F.sub_list_frozenset;have u3:(Value.type "list" == Value.type "dict")=η:=by decide
    have Wd:(s.heap.push (il w)).IsList l (vs.map λx=>Φ x.1).toArray:={_,TL,rfl,nl,rfl};unfold abM.«set.__init__» noKeywords Builtin.Frozenset.updateFrom;generalize YA:pyIter=PI
    wp_walk
    subst YA;refine wpAny_pyIter_list Wd ?_;refine ZD (wpAny_runValue ?_);have XW:A.in1.in1.in1.handled=ξ:=by simp[hh]
    have uu:A.in1.in1.in1.units<abx:=by
     have e1:∀B:aaJ,B.in1.units=B.units+1:=λB=>rfl;rw[e1,e1,e1];lia
    have nI:l≠(s.heap.push (il w)).objs.size:=by rw[abW];exact aak (ab9 ls)
    have hf:s.heap.objs.size∉[(s.heap.push (il w)).objs.size,l]:=by
     rw[abW];simp only[ZI,aaX,or_false,not_or];exact{aak (ade _),Nat.ne_of_gt ls}
    have old:∀x∈vs,x.1<s.heap.objs.size:=λx hx=>by
     obtain⟨oy,its,n,g1,g2⟩:=T x hx;exact Z6 g1
    refine Al (vs:=vs) uu ((Walks.list XW _ l nI _).toS) (by simp) (λi v hv=>?_) s.heap.objs.size hf hn (λx hx=>?_) vs.length 0 _ (il w) [] #[] 0 _ (by lia) (ZW _) {{_,Z8 _ rfl,rfl,rfl},Wd.push _} (λx hx=>?_) (ZM _ hS) (yy prog w) (λx hx=>by cases hx) (λx hx=>by simp at hx) (ZW _) λs' o' bF eU pM t' m1 m2 m3 m4 m5=>?_
    ·have hv:(vs.map λx=>Φ x.1).toArray[i]?=ν v:=hv;rw[List.getElem?_toArray,ZS]at hv;obtain⟨x,e1,e2⟩:=ZR.mp hv;exact{(x),e1,e2.symm}
    ·have:=old x hx;refine{λz=>?_,aak this};have z:=ZJ.mp z;rw[abW]at z;exact Η z (aak (ab9 this))
    ·obtain⟨oy,its,n,g1,g2⟩:=T x hx;exact{oy,its,n,ZM _ (ZM _ g1),g2}
    ·obtain⟨h',g',d',WX,Sg⟩:=s';have eg:g'=s.gens:=m1.gens;have ed:d'=s.drawn:=m1.drawn;have eo:Sg=s.os:=m1.os;subst eg ed eo;refine ZL (ZL {rfl,q h' WX o' bF eU pM t' (λc oc e=>?_) m2 m3 m4 m5});have hc:=Z6 e;refine m1.heap c oc (λz=>?_) (ZM _ (ZM _ e));rcases ZI.mp z with z|z
     ·exact Η z (aak hc)
     ·have z:=ZJ.mp z;rw[abW]at z;exact Η z (aak (ab9 hc))
   ·cases r2 with
    |error e=>exact og
    |ok UJ =>
     cases UJ with
     |ret r =>
      obtain⟨rfl,hq⟩:=og
      repeat (any_goals (first|assumption|wp_step))
     |_=>exact og.elim
  |_=>exact hr.elim
end
end ST
namespace TS
open PySem PyProof.Rows
section
variable {prog:ZN}{w:Z4}{A:aaJ}{E:ZF->ZH->Prop}{s:ZH}
def v7 {x:ZF}{vs:List ZF}{kf:ZF->List Int}{Q:ZF->ZH->Prop}(hz:vs.length<=1000000)
  (col:∀(R:List ZF->ZH->Prop),(∀(h':Heap) (tk:Nat),(∀b o,s.heap.get? b=ν o->h'.get? b=ν o)->R vs {s with heap:=h',toks:=tk})->aab (Ψ prog w) A.in1 (collect x) R E s)
  (T:pR s.heap kf s.heap.objs.size vs)
  (h:∀(out:List ZF) (h1 h':Heap) (tk:Nat) (n:Nat),out.Perm vs->out.Pairwise (λx y=>HT.lexLt (kf y) (kf x)=η)->(∀b o,s.heap.get? b=ν o->h1.get? b=ν o)->(∀b o,h1.get? b=ν o->h'.get? b=ν o)->h'.get? h1.objs.size=ν (abC "list" out.toArray n)->Q (.ref h1.objs.size) {s with heap:=h',toks:=tk}) :
  aab (Ψ prog w) A (call (.builtin "sorted") [x]) Q E s:=by
 refine acZ kind_sorted plain_sorted entry_sorted (args_sorted1 _) ?_;unfold abM.«sorted»
 refine ZD (m:=checkCount "sorted" 1 1 _) (ZL ?_);refine ZD (col _ λh' tk kp=>?_);have nl:vs.length<=Z3:=by rw[aaQ];lia
 refine ZD (wpAny_newList ?_ nl);have hl:(h'.push (abC "list" vs.toArray 0)).get? h'.objs.size=ν (abC "list" vs.toArray 0):=Z8 _ rfl;have T':pR (h'.push (abC "list" vs.toArray 0)) kf h'.objs.size vs:=λv hv=>by
  obtain⟨t,o,xs,k,e1,_,e3,r⟩:=T v hv;exact{t,o,xs,k,e1,aak (Z6 (kp _ _ e3)),ZM _ (kp _ _ e3),r}
 refine ZD (aa6 (aa3 slot_list_sort {_,hl,rfl} entry_list_sort (nQ (s:={s with heap:=h'.push (abC "list" vs.toArray 0),toks:=tk}) hl hz T' λout hp hs=>{_,rfl,?_}) (args_list_sort _)))
 obtain⟨n,hn⟩:=sortedHeap_at (out:=out.toArray) hl;refine ZL {_,rfl,h out h' _ tk n hp hs kp (λb o e=>?_) hn};have hb:=Z6 e;rw[sortedHeap_old (aak hb) (by rw[size_push'];exact ab9 hb)]
 exact ZM _ e
end
end TS
namespace ST
open PySem PyProof.Rows
section
variable {prog:ZN}{w:Z4}{s:ZH}
def sQ {a:θ}{o:Obj}{ts:List (θ×List Int)}{es:Array (Int×ZF)}{ep:Nat}{t:SetTable}(ho:s.heap.get? a=ν o)(S:cW prog w o ts es ep t)(hn:ts.length<=1000):
  ∃us:List (θ×List Int),us.Perm ts/\∀(A:aaJ) (E:ZF->ZH->Prop) (R:List ZF->ZH->Prop),A.handled=ξ->(∀(h':Heap) (tk:Nat),(∀b o,s.heap.get? b=ν o->h'.get? b=ν o)->R (us.map λx=>Φ x.1) {s with heap:=h',toks:=tk}) ->
  aab (Ψ prog w) A (collect (.ref a)) R E s:=by
 have hw:=gU w a ep es;rw[S.L4]at hw;obtain⟨us,h1,h2⟩:=nB hw;refine{us,h1,λA E R hh q=>?_};refine PySem.W.kdu_collect (FQ prog w a o ts es ep t S) hh ho (by rw[S.size.1,aaQ];lia) λh' tk acc hk Py=>?_
 have e:acc.toList=us.map λx=>Φ x.1:=by
  have hz:(b7 w a ep es).size=es.size:=by
   have:=(gU w a ep es).length_eq;rw[ZX,ZX]at this;exact this
  have e2:us.map (λx=>Φ x.1)=(b7 w a ep es).toList.map (·.2):=by
   rw[h2,aaR];rfl
  rw[e2];apply abz;intro i;rw[ZS,Z9,Z9]
  by_cases hi:i<acc.size
  ·obtain⟨x,g1,g2⟩:=Py.2 i acc[i] (getElem?_pos acc i hi);rw[getElem?_pos acc i hi,g1,g2];rfl
  ·have:=Py.1;rw[abF (by lia),abF (by lia)]
   rfl
 rw[e];exact q h' tk hk
end
end ST
namespace L2
open PySem PySem.Spec PySem.SeqAt PyProof.Rows HT
theorem iV:∀{a b:List Int},lexLt a b=η->lexLt b a=η->a=b
 |[],[],_,_=>rfl
 |[],_::_,h,_=>by cases h
 |_::_,[],_,h=>by cases h
 |x::xs,y::ys,h1,h2=>by
  rw[fT]at h1 h2
  by_cases e:x=y
  ·subst e;rw[χ rfl]at h1 h2;rw[iV h1 h2]
  ·rw[ω e]at h1;rw[ω (λz=>e z.symm)]at h2;have:=of_decide_eq_false h1;have:=of_decide_eq_false h2;omega
theorem nX:∀{a b:List Int},lexLt a b=ζ->lexLt b a=η
 |[],[],h=>by cases h
 |[],_::_,_=>rfl
 |_::_,[],h=>by cases h
 |x::xs,y::ys,h=>by
  rw[fT]at h ⊢
  by_cases e:x=y
  ·subst e;rw[χ rfl]at h ⊢
   exact nX h
  ·rw[ω e]at h;rw[ω (λz=>e z.symm)];have:=of_decide_eq_true h;exact Δ (by lia)
theorem lI:∀{a b c:List Int},lexLt a b=ζ->lexLt b c=ζ->lexLt a c=ζ
 |[],[],_,h,_=>by cases h
 |[],_::_,[],_,h=>by cases h
 |[],_::_,_::_,_,_=>rfl
 |_::_,[],_,h,_=>by cases h
 |x::xs,y::ys,[],_,h=>by cases h
 |x::xs,y::ys,z::zs,h1,h2=>by
  rw[fT]at h1 h2 ⊢
  by_cases e:x=y
  ·subst e;rw[χ rfl]at h1
   by_cases e2:x=z
   ·subst e2;rw[χ rfl]at h2 ⊢
    exact lI h1 h2
   ·rw[ω e2]at h2 ⊢
    exact h2
  ·rw[ω e]at h1;have q1:=of_decide_eq_true h1
   by_cases e2:y=z
   ·subst e2;rw[ω e];exact h1
   ·rw[ω e2]at h2;have q2:=of_decide_eq_true h2;rw[ω (by omega)]
    exact Γ (by omega)
noncomputable def wX (k:List Int):List (List Int)->List (List Int)
 |[]=>[k]
 |x::xs=>if lexLt x k=ζ then x::wX k xs else k::x::xs
def ir:List (List Int)->List (List Int)
 |[]=>[]
 |k::ks=>wX k (ir ks)
theorem kP (k:List Int):∀xs,(wX k xs).Perm (k::xs)
 |[]=>.refl _
 |x::xs=>by
  unfold wX
  split
  ·exact((kP k xs).cons x).trans (List.Perm.swap _ _ _)
  ·exact .refl _
theorem ft:∀ks,(ir ks).Perm ks
 |[]=>.refl _
 |k::ks=>(kP k (ir ks)).trans ((ft ks).cons k)
abbrev vw (ks:List (List Int)):Prop:=ks.Pairwise λx y=>HT.lexLt y x=η
def le_trans' {a b c:List Int}(h1:lexLt b a=η)(h2:lexLt c b=η):lexLt c a=η:=by
 cases h:lexLt c a with
 |false=>rfl
 |true =>
  cases hb:lexLt a b with
  |true=>rw[lI h hb]at h2;cases h2
  |false =>
   have:=iV hb h1;subst this;rw[h]at h2;cases h2
theorem qA (k:List Int):∀xs,vw xs->vw (wX k xs)
 |[],_=>by simp[wX]
 |x::xs,h=>by
  obtain⟨h1,h2⟩:=aaG.mp h;unfold wX
  split
  ·rename_i hx
   refine aaG.mpr {λy hy=>?_,qA k xs h2};rcases ZI.mp ((kP k xs).mem_iff.mp hy)with rfl|hy
   ·exact nX hx
   ·exact h1 y hy
  ·rename_i hx
   have Dx:lexLt x k=η:=by cases q:lexLt x k <;> simp_all
   refine aaG.mpr {λy hy=>?_,h};rcases ZI.mp hy with rfl|hy
   ·exact Dx
   ·exact le_trans' Dx (h1 y hy)
theorem m9:∀ks,vw (ir ks)
 |[]=>.nil
 |k::ks=>qA k _ (m9 ks)
theorem ly:∀{a b:List (List Int)},a.Perm b->vw a->vw b->a=b
 |[],b,p,_,_=>by rw[List.nil_perm.mp p]
 |x::a,[],p,_,_=>by have:=p.length_eq;simp at this
 |x::a,y::b,p,ha,hb=>by
  obtain⟨a1,a2⟩:=aaG.mp ha;obtain⟨b1,b2⟩:=aaG.mp hb;have Oy:x=y:=by
   rcases ZI.mp (p.mem_iff.mp (ZO (a:=x) (l:=a)))with h|h
   ·exact h
   ·rcases ZI.mp (p.mem_iff.mpr (ZO (a:=y) (l:=b)))with h' | h'
    ·exact h'.symm
    ·exact iV (b1 x h) (a1 y h')
  subst Oy;rw[ly (List.perm_cons x |>.mp p) a2 b2]
def BS {a b:List (List Int)}(p:a.Perm b)(h:vw a):a=ir b:=ly (p.trans (ft b).symm) h (m9 b)
def pN:List (List Int)->List (List Int)
 |[]=>[]
 |k::ks=>if k∈pN ks then pN ks else k::pN ks
theorem gO:∀l:List (List Int),(pN l).Nodup/\∀x,x∈pN l↔x∈l
 |[]=>{aaH,λ_=>Iff.rfl}
 |k::ks=>by
  obtain⟨h1,h2⟩:=gO ks;unfold pN
  split
  ·rename_i h
   refine{h1,λx=>?_};rw[h2 x,ZI];exact{.inr,λz=>z.elim (λe=>by rw[e];exact(h2 k).mp h) id}
  ·rename_i h
   refine{aac.mpr {(h),h1},λx=>?_};rw[ZI,ZI,h2 x]
theorem yZ:∀l:List (List Int),(pN l).length<=l.length
 |[]=>ZG _
 |k::ks=>by
  have:=yZ ks;unfold pN
  split
  ·exact Nat.le_succ_of_le this
  ·simpa using this
abbrev kD (k:List Int):D:=.tup (k.map D.int)
noncomputable def dO:List D->Option (List (List Int))
 |[]=>ν []
 |.tup a::ds=>match br a,dO ds with
  |some k,ν ks=>if k=[] then ξ else ν (k::ks)
  |_,_=>ξ
 |_::_=>ξ
theorem jL:∀{ds:List D} {ks:List (List Int)},dO ds=ν ks->ds=ks.map kD/\∀k∈ks,k≠[]
 |[],_,h=>by cases h;exact{rfl,λ_ z=>nomatch z}
 |.tup a::ds,ks,h=>by
  have h':(match br a,dO ds with|some k,ν ks=>if k=[] then ξ else ν (k::ks)|_,_=>ξ)=ν ks:=h
  cases ea:br a with
  |none=>rw[ea]at h';cases h'
  |some k =>
   cases eb:dO ds with
   |none=>rw[ea,eb]at h';cases h'
   |some kr =>
    rw[ea,eb]at h'
    by_cases hk:k=[]
    ·simp[hk]at h'
    ·simp only[hk,if_false,Option.some.injEq]at h';subst h';obtain⟨h1,h2⟩:=jL eb;rw[aae,<- h1,uF ea];refine{rfl,λx hx=>?_};rcases ZI.mp hx with rfl|hx
     ·exact hk
     ·exact h2 x hx
 |.cf::_,_,h=>by cases h
 |.bl _::_,_,h=>by cases h
 |.str _::_,_,h=>by cases h
 |.obj _::_,_,h=>by cases h
 |.int _::_,_,h=>by cases h
 |.lst _::_,_,h=>by cases h
 |.dT _ _::_,_,h=>by cases h
 |.dK _ _::_,_,h=>by cases h
 |.sT _::_,_,h=>by cases h
 |.ob _::_,_,h=>by cases h
theorem ia:∀{ks:List (List Int)},(∀k∈ks,k≠[])->dO (ks.map kD)=ν ks
 |[],_=>rfl
 |k::ks,h=>by
  show (match br (k.map D.int),dO (ks.map kD)with|some k,ν ks=>if k=[] then ξ else ν (k::ks)|_,_=>ξ)=_
  rw[qz,ia λx hx=>h x (ZP _ hx)];simp[h k (ZO ..)]
section
variable {P:ZN}{w:Z4}{W:θ->Prop}{H:Hp}
theorem h_:∀{ks:List (List Int)} {vs:List V},(∀k∈ks,k≠[])->ai P w W H (ks.map kD) vs->∃ts:List (θ×List Int),vs=ts.map rl/\xA H ts/\ts.map (·.2)=ks
 |[],_,_,h=>{[],h,(λ_ z=>nomatch z),rfl}
 |k::ks,_,hk,⟨v,r,e,⟨a,us,e1,e2,e3⟩,h2⟩=>by
  obtain⟨ts,q1,q2,q3⟩:=h_ (λx hx=>hk x (ZP _ hx)) h2;refine{(a,k)::ts,by rw[e,e1,q1];rfl,λt ht=>?_,by rw[aae,q3]}
  rcases ZI.mp ht with rfl|ht
  ·rw[bK e3]at e2;exact{e2,hk k (ZO ..)}
  ·exact q2 t ht
theorem g_:∀{ts:List (θ×List Int)},(∀t∈ts,H t.1=ν (.tup (t.2.map V.int)))->ai P w W H ((ts.map (·.2)).map kD) (ts.map rl)
 |[],_=>rfl
 |t::ts,h=>{_,_,rfl,{t.1,_,rfl,h t (ZO ..),qw t.2},g_ λx hx=>h x (ZP _ hx)}
noncomputable def sg:List D->Option D
 |[.lst ds]=>match dO ds with
  |some ks=>if ks.length<=1000000 then ν (.lst ((ir ks).map kD)) else ξ
  |none=>ξ
 |[.sT ts]=>if ts.length<=1000/\(∀k∈ts,k≠[]) then ν (.lst ((ir ts).map kD)) else ξ
 |_=>ξ
theorem Dt:∀{ns:List Int} {its:List ZF},Vals (ns.map V.int) its->ItemsAre (intKind P w) ns its
 |[],_,.nil=>.nil
 |n::ns,_,.cons r t=>by
  obtain⟨tk,rfl⟩:=r;exact .cons (by show Value.isInt n (.int n tk)=ζ;simp[Value.isInt]) (Dt t)
def mY {h:Heap}{ts:List (θ×List Int)}(ok:i8 P w H h)(T:∀t∈ts,H t.1=ν (.tup (t.2.map V.int))):ST.Fo P w h ts:=λt ht=>by
 obtain⟨_,its,r,o,ho,hc,n,hd⟩:=(show a9 P w H h t.1 (.tup (t.2.map V.int)) from ok _ _ (T t ht))
 refine{o,its.toArray,n,ho,hc,hd,?_};exact Dt r
def IY:List D->Option D
 |[.lst ds]=>match dO ds with
  |some ks=>if ks.length<1000 then ν (.sT (pN ks)) else ξ
  |none=>ξ
 |_=>ξ
end
def A6 {X:Cx}(hc:X.calm=ζ)(hu:X.A.units+16<abx):bO X (.type "set") IY:=by
 intro μ s σ H xs us Q I r h;obtain⟨W,ds,d,hd,r1,e,q⟩:=h
 match ds,e with
 |[.lst es],e =>
  have e':(match dO es with|some ks=>if ks.length<1000 then ν (D.sT (pN ks)) else ξ|none=>ξ)=ν d:=e
  cases ek:dO es with
  |none=>rw[ek]at e';cases e'
  |some ks =>
   rw[ek]at e';obtain⟨hl,rfl⟩:=cU e';obtain⟨rfl,hk⟩:=jL ek;obtain⟨x,rfl,p,vs,rfl,hp,n1,q1⟩:=j4 r1;obtain⟨ts,rfl,T,rfl⟩:=h_ hk q1;obtain⟨u,rfl,rx⟩:=vals1 r;cases rx;obtain⟨its,r',pl,hz⟩:=I.list (dJ.of hp);obtain rfl:=gV r';refine ST.AX (w:=X.w) (I.ok.hd hc) hu pl.isList (by simpa using hl) (mY I.bp λt ht=>(T t ht).1) λh' tk o' bF es ep t kp ho S m1 m2=>?_
   have LK:H s.heap.objs.size=ξ:=I.bp.fresh (ZG _);have nd:=gO (ts.map (·.2));refine{.ref s.heap.objs.size,_,I.laid (t':=tk) (o:=lj X.prog X.w s.heap.objs.size bF) kp (ZG _) ?_,rfl,q _ _ (au.new LK) {_,rfl,{bF,ao,λx hx=>?_,?_},yx hd LK}}
   ·refine{{(o'),es,ep,t,ho,S},{(o'),ho},λh1 h2 jO k=>by obtain⟨o1,e1,PH,t1,g1,g2⟩:=jO;exact{o1,e1,PH,t1,k _ g1,g2}}
   ·exact(au.new LK) _ _ (T x (m1 x hx)).1
   ·refine(List.perm_ext_iff_of_nodup S.Sl nd.1).mpr λk=>?_;rw[nd.2 k,Z0,Z0];constructor
    ·rintro⟨x,hx,rfl⟩;exact{x,m1 x hx,rfl}
    ·rintro⟨x,hx,rfl⟩;obtain⟨y,hy,e⟩:=m2 x hx;exact{(y),hy,e}
def iy (ns:List Int):Prop:=∃x y:Int,ns=[x,y]/\0<=x/\0<=y/\y<2147483647
def Hand.ok {H:Hp}{h:θ}(d:Hand H h):∃ns,H h=ν (.lst (ns.map V.int))/\iy ns:=by
 obtain⟨x,y,e,h1,h2,h3⟩:=d;exact{[x,y],e,x,y,rfl,h1,h2,h3}
def iy.hand {H:Hp}{h:θ}{ns:List Int}(e:H h=ν (.lst (ns.map V.int)))(o:iy ns):Hand H h:=by
 obtain⟨x,y,rfl,h1,h2,h3⟩:=o;exact{(x),y,e,h1,h2,h3}
def cV:FD:=λds R=>∃n:Int,ds=[.int n]/\0<n/\n<2 ^ 200/\∀r:Int,0<=r->r<n->R (.int r)
def cV.mono:dy cV:=λds R R' k ⟨n,e,h1,h2,q⟩=>{n,e,h1,h2,λr a b=>k _ (q r a b)}
section
variable {X:Cx}{W:θ->Prop}{H:Hp}
def wH {p:θ}{vs:List V}{ds:List D}(n:H p=ξ)(f:NL (.lst ds))(r:i9 X W H ds vs):Rp X (λa=>H a≠ξ) (upd H p (.lst vs)) (.lst ds) (.ref p) :=
 {p,vs,rfl,ao,λz=>z n,ai.flat f (r.same (au.new n))}
def RV (X:Cx)(f:D->D->Option D):R2:=λx y H Q=>∃W d1 d2 d,Dm W H/\Rp X W H d1 x/\Rp X W H d2 y/\f d1 d2=ν d/\∀v H',au H H'->Rp X W H' d v->(NL d->Rp X (λa=>H a≠ξ) H' d v)->Q v H'
def RU (X:Cx)(f:List D->Option D):List V->Hp->VK->Prop:=λxs H Q=>∃W ds d,Dm W H/\i9 X W H ds xs/\f ds=ν d/\∀v H',au H H'->Rp X W H' d v->(NL d->Rp X (λa=>H a≠ξ) H' d v)->Q v H'
def Nn (X:Cx)(f:D->Option Int->Option Int->Option D):V->Option Int->Option Int->Hp->VK->Prop:=λx lo hi H Q=>∃W d1 d,Dm W H/\Rp X W H d1 x/\f d1 lo hi=ν d/\∀v H',au H H'->Rp X W H' d v->(NL d->Rp X (λa=>H a≠ξ) H' d v)->Q v H'
abbrev Qa (X:Cx)(f:ZF->ZF->Sem ZF)(g:D->D->Option D):Prop:=i_ X f (RV X g)
abbrev xG (X:Cx)(f:ZF)(g:List D->Option D):Prop:=eS X f (RU X g)
def aB:Qa X (abT .Add) EC:=by
 intro μ s σ H x y v u Q I rx ry h;obtain⟨W,d1,d2,d,hd,r1,r2,e,q⟩:=h;rcases Ak e with⟨a,b,rfl,rfl,e⟩|e
 ·obtain⟨hl,rfl⟩:=cU e;obtain⟨p,vs,rfl,h1,n1,q1⟩:=r1;obtain⟨p',vs',rfl,h2,n2,q2⟩:=r2;exact CP μ s σ H _ _ v u Q I rx ry {p,p',vs,vs',rfl,rfl,h1,h2,by rw[q1.length,q2.length];exact hl,λl xb=>q _ _ (au.new xb) (Rp.gE hd xb (q1.append q2)) λf=>wH xb f (q1.append q2)}
 ·obtain⟨i,j,rfl,rfl,e⟩:=kO e;cases e;cases r1;cases r2;exact wC μ s σ H _ _ v u Q I rx ry {i,j,rfl,rfl,q _ _ (au.refl _) rfl λ_=>rfl}
def FN:U7 X (Nn X WA):=by
 intro μ s σ H x v vl vu lo hi sl Q I rx hs pl pu h;obtain⟨W,d1,d,hd,r1,e,q⟩:=h;cases d1 with
 |lst ds =>
  cases e;obtain⟨p,vs,rfl,h1,n1,q1⟩:=r1;have rr:i9 X W H (cutD ds lo hi) (vd vs lo hi):=by
   unfold vd cutD;rw[q1.length];exact(ai.drop _ q1).take _
  exact xT μ s σ H _ v vl vu lo hi sl Q I rx hs pl pu {p,vs,rfl,dJ.of h1,λl hl=>q _ _ (au.new hl) (Rp.gE hd hl rr) λf=>wH hl f rr}
 |_=>cases e
def vi:xG X (.type "list") dList:=by
 intro μ s σ H xs us Q I r h;obtain⟨W,ds,d,hd,r1,e,q⟩:=h
 match ds,e with
 |[.lst es],e =>
  cases e;obtain⟨v,r',rfl,⟨p,vs,rfl,h1,n1,q1⟩,hr⟩:=r1;cases hr;exact jU μ s σ H _ us Q I r {p,vs,rfl,.inl (dJ.of h1),λl hl=>q _ _ (au.new hl) (Rp.gE hd hl q1) λf=>wH hl f q1}
 |[.tup es],e =>
  cases e;obtain⟨v,r',rfl,⟨p,vs,rfl,h1,q1⟩,hr⟩:=r1;cases hr;exact jU μ s σ H _ us Q I r {p,vs,rfl,.inr (lh.of h1),λl hl=>q _ _ (au.new hl) (Rp.gE hd hl q1) λf=>wH hl f q1}
def su:xG X (.builtin "sorted") (λds=>match ds with | [.lst ds]=>sg [.lst ds]|_=>ξ):=by
 intro μ s σ H xs us Q I r h;obtain⟨W,ds,d,hd,r1,e,q⟩:=h
 match ds,e with
 |[.lst es],e =>
  have e':(match dO es with|some ks=>if ks.length<=1000000 then ν (D.lst ((ir ks).map kD)) else ξ|none=>ξ)=ν d:=e
  cases ek:dO es with
  |none=>rw[ek]at e';cases e'
  |some ks =>
   rw[ek]at e';obtain⟨hl,rfl⟩:=cU e';obtain⟨rfl,hk⟩:=jL ek;obtain⟨x,rfl,p,vs,rfl,hp,n1,q1⟩:=j4 r1;obtain⟨ts,rfl,T,rfl⟩:=h_ hk q1;refine si μ s σ H _ us Q I r {p,ts,rfl,dJ.of hp,T,by simpa using hl,λl bF xb Lz X4=>?_}
   have eq:bF.map (·.2)=ir (ts.map (·.2)):=BS (Lz.map _) (aa7.mpr X4);rw[<- eq]at q;have rk:=g_ (P:=X.prog) (w:=X.w) (W:=W) (H:=H) (ts:=bF) λt ht=>(T t (Lz.mem_iff.mp ht)).1;exact q _ _ (au.new xb) (Rp.gE hd xb rk) λf=>wH xb f rk
def sj (hc:X.calm=ζ):xG X (.builtin "sorted") (λds=>match ds with | [.sT ts]=>sg [.sT ts]|_=>ξ):=by
 intro μ s σ H xs us Q I r h;obtain⟨W,ds,d,hd,r1,e,q⟩:=h
 match ds,e with
 |[.sT ks],e =>
  obtain⟨⟨hl,hk⟩,rfl⟩:=cU (show (if ks.length<=1000/\(∀k∈ks,k≠[]) then ν (D.lst ((ir ks).map kD)) else ξ)=ν d from e)
  obtain⟨x,rfl,p,rfl,⟨ts,hp,T,pm⟩,nW⟩:=j4 r1;obtain⟨u,rfl,rx⟩:=vals1 r;cases rx;obtain⟨⟨o,es,ep,t,ho,S⟩,_,_⟩:=(show a9 X.prog X.w H s.heap p (lj X.prog X.w p ts) from I.bp p _ hp)
  have tl:ts.length=ks.length:=by rw[<- pm.length_eq,ZE]
  have T':xA H ts:=λt ht=>{T t ht,hk _ (pm.mem_iff.mp (Z0.mpr {(t),ht,rfl}))};obtain⟨us,Dy,col⟩:=ST.sQ (s:=s) ho S (by omega)
  have T2:xA H us:=λt ht=>T' t (Dy.mem_iff.mp ht);refine TS.v7 (vs:=us.map λx=>Φ x.1) (kf:=uy H) (by rw[ZE,Dy.length_eq];omega) (λR hR=>col _ _ R (by simp[I.ok.hd hc]) λh' tk kp=>hR h' tk kp) (xJ I.bp T2 (ZG _)) λout h1 h' tk n mG hs k1 kp w_=>?_
  ·obtain⟨e1,e2⟩:=qd T2 mG;have zl:out.length=us.length:=by rw[mG.length_eq,ZE]
   have eq:(out.map (IS H)).map (·.2)=ir ks:=by
    refine BS ((e2.trans Dy).map _ |>.trans pm) ?_
    refine aa7.mpr (aa7.mpr ?_);refine hs.imp_of_mem λ{x y} hx hy hh=>?_;obtain⟨t,ht,rfl⟩:=Z0.mp (mG.mem_iff.mp hx);obtain⟨t',V1,rfl⟩:=Z0.mp (mG.mem_iff.mp hy);exact hh
   have I1:Inv X μ σ H {s with heap:=h1,toks:=s.toks}:=I.kept k1
   have LK:H h1.objs.size=ξ:=I1.bp.fresh (ZG _);refine{.ref h1.objs.size,_,I1.laid (t':=tk) (o:=.lst ((out.map (IS H)).map rl)) kp (ZG _) ?_,rfl,q _ _ (au.new LK) ?_ ?_}
   ·refine{by rw[ZE,ZE,zl,Dy.length_eq,aaQ];omega,out,n,?_,w_}
    have:=kh (out.map (IS H));rw[<- e1]at this;exact this
   ·rw[<- eq];exact Rp.gE hd LK (g_ λt ht=>(T2 t (e2.mem_iff.mp ht)).1)
   ·rw[<- eq];exact λf=>wH (W:=W) LK f (g_ λt ht=>(T2 t (e2.mem_iff.mp ht)).1)
end
end L2
section
open PySem PySem.Spec PySem.SeqAt PyProof.Rows
namespace L2.Q
section
variable (P:ZN)(w:Z4)(H:Hp)
mutual
def Own:D->V->List θ->Prop
 |.tup ds,v,A=>∃a vs,v=.ref a/\H a=ν (.tup vs)/\aK ds vs A
 |.lst ds,v,A=>∃a vs A',v=.ref a/\H a=ν (.lst vs)/\A=a::A'/\aK ds vs A'
 |.dT ks ds,v,A=>∃a vs A',v=.ref a/\H a=ν (.dT (ks.zip vs))/\ks.length=vs.length/\A=a::A'/\aK ds vs A'
 |.dK ks ds,v,A=>∃a vs A',v=.ref a/\H a=ν (.dK (ks.zip vs))/\ks.length=vs.length/\A=a::A'/\aK ds vs A'
 |.sT ts,v,A=>∃a,v=.ref a/\HV P w H a ts/\A=[a]
 |.ob φ,v,A=>∃a,v=.ref a/\(H a=ν (φ a)/\∀xs,φ a≠.tup xs)/\A=[a]
 |.cf,v,A=>v=.cf/\A=[]
 |.bl b,v,A=>v=.bl b/\A=[]
 |.int i,v,A=>v=.int i/\A=[]
 |.str x,v,A=>v=.str x/\A=[]
 |.obj a,v,A=>v=.ref a/\A=[]
def aK:List D->List V->List θ->Prop
 |[],vs,A=>vs=[]/\A=[]
 |d::ds,vs,A=>∃v r A1 A2,vs=v::r/\A=A1++A2/\Own d v A1/\aK ds r A2
end
end
section
variable {P:ZN}{w:Z4}{W:θ->Prop}{H H':Hp}
def zN {a:θ}{ts:List (List Int)}(k:∀b xs,H b=ν (.tup xs)->H' b=ν (.tup xs))(ha:∀o,H a=ν o->H' a=ν o)(h:HV P w H a ts):HV P w H' a ts :=
 let ⟨bF,e,r,z⟩:=h;{bF,ha _ e,λx hx=>k _ _ (r x hx),z}
mutual
theorem Own.keep (k:∀b xs,H b=ν (.tup xs)->H' b=ν (.tup xs)):∀{d:D} {v:V} {A:List θ},(∀c∈A,∀o,H c=ν o->H' c=ν o)->Own P w H d v A->Own P w H' d v A
 |.tup ds,_,_,ha,⟨a,vs,e,t,r⟩=>{a,vs,e,k a vs t,aK.keep k ha r}
 |.lst ds,_,_,ha,⟨a,vs,A',e,t,eA,r⟩=>{a,vs,A',e,ha a (by rw[eA];simp) _ t,eA,aK.keep k (λc hc=>ha c (by rw[eA];simp[hc])) r}
 |.dT ks ds,_,_,ha,⟨a,vs,A',e,t,l,eA,r⟩=>{a,vs,A',e,ha a (by rw[eA];simp) _ t,l,eA,aK.keep k (λc hc=>ha c (by rw[eA];simp[hc])) r}
 |.dK ks ds,_,_,ha,⟨a,vs,A',e,t,l,eA,r⟩=>{a,vs,A',e,ha a (by rw[eA];simp) _ t,l,eA,aK.keep k (λc hc=>ha c (by rw[eA];simp[hc])) r}
 |.sT ts,_,_,ha,⟨a,e,r,eA⟩=>{a,e,zN k (λo ho=>ha a (by rw[eA];simp) o ho) r,eA}
 |.ob φ,_,_,ha,⟨a,e,r,eA⟩=>{a,e,{ha a (by rw[eA];simp) _ r.1,r.2},eA}
 |.cf,_,_,_,h=>h
 |.bl _,_,_,_,h=>h
 |.int _,_,_,_,h=>h
 |.str _,_,_,_,h=>h
 |.obj _,_,_,_,h=>h
theorem aK.keep (k:∀b xs,H b=ν (.tup xs)->H' b=ν (.tup xs)):∀{ds:List D} {vs:List V} {A:List θ},(∀c∈A,∀o,H c=ν o->H' c=ν o)->aK P w H ds vs A->aK P w H' ds vs A
 |[],_,_,_,h=>h
 |d::ds,_,_,ha,⟨v,r,A1,A2,e,eA,h1,h2⟩=>{v,r,A1,A2,e,eA,Own.keep k (λc hc=>ha c (by rw[eA];simp[hc])) h1,aK.keep k (λc hc=>ha c (by rw[eA];simp[hc])) h2}
end
mutual
theorem Own.rep:∀{d:D} {v:V} {A:List θ},(∀c∈A,¬ W c)->Own P w H d v A->az P w W H d v
 |.tup ds,_,_,ha,⟨a,vs,e,t,r⟩=>{a,vs,e,t,aK.rep ha r}
 |.lst ds,_,_,ha,⟨a,vs,A',e,t,eA,r⟩=>{a,vs,e,t,ha a (by rw[eA];simp),aK.rep (λc hc=>ha c (by rw[eA];simp[hc])) r}
 |.dT ks ds,_,_,ha,⟨a,vs,A',e,t,l,eA,r⟩=>{a,vs,e,t,l,ha a (by rw[eA];simp),aK.rep (λc hc=>ha c (by rw[eA];simp[hc])) r}
 |.dK ks ds,_,_,ha,⟨a,vs,A',e,t,l,eA,r⟩=>{a,vs,e,t,l,ha a (by rw[eA];simp),aK.rep (λc hc=>ha c (by rw[eA];simp[hc])) r}
 |.sT ts,_,_,ha,⟨a,e,r,eA⟩=>{a,e,r,ha a (by rw[eA];simp)}
 |.ob φ,_,_,ha,⟨a,e,r,eA⟩=>{a,e,r,ha a (by rw[eA];simp)}
 |.cf,_,_,_,h=>h.1
 |.bl _,_,_,_,h=>h.1
 |.int _,_,_,_,h=>h.1
 |.str _,_,_,_,h=>h.1
 |.obj _,_,_,_,h=>h.1
theorem aK.rep:∀{ds:List D} {vs:List V} {A:List θ},(∀c∈A,¬ W c)->aK P w H ds vs A->ai P w W H ds vs
 |[],_,_,_,h=>h.1
 |d::ds,_,_,ha,⟨v,r,A1,A2,e,eA,h1,h2⟩=>{v,r,e,Own.rep (λc hc=>ha c (by rw[eA];simp[hc])) h1,aK.rep (λc hc=>ha c (by rw[eA];simp[hc])) h2}
end
mutual
theorem Own.oZ:∀{d:D} {v:V} {A:List θ},Own P w H d v A->∀c∈A,H c≠ξ/\∀xs,H c≠ν (.tup xs)
 |.tup ds,_,_,⟨a,vs,e,t,r⟩,c,hc=>aK.oZ r c hc
 |.lst ds,_,_,⟨a,vs,A',e,t,eA,r⟩,c,hc=>by
  rw[eA]at hc;rcases ZI.mp hc with rfl|hc
  ·rw[t];exact{λz=>(nomatch z),λxs z=>by cases z}
  ·exact aK.oZ r c hc
 |.dT ks ds,_,_,⟨a,vs,A',e,t,l,eA,r⟩,c,hc=>by
  rw[eA]at hc;rcases ZI.mp hc with rfl|hc
  ·rw[t];exact{λz=>(nomatch z),λxs z=>by cases z}
  ·exact aK.oZ r c hc
 |.dK ks ds,_,_,⟨a,vs,A',e,t,l,eA,r⟩,c,hc=>by
  rw[eA]at hc;rcases ZI.mp hc with rfl|hc
  ·rw[t];exact{λz=>(nomatch z),λxs z=>by cases z}
  ·exact aK.oZ r c hc
 |.sT ts,_,_,⟨a,e,⟨bF,t,r,z⟩,eA⟩,c,hc=>by
  rw[eA]at hc;rw[ZJ.mp hc,t];exact{λz=>(nomatch z),λxs z=>by cases z}
 |.ob φ,_,_,⟨a,e,⟨t,z⟩,eA⟩,c,hc=>by
  rw[eA]at hc;rw[ZJ.mp hc,t];exact{λz=>(nomatch z),λxs q=>z xs (aao q)}
 |.cf,_,_,h,c,hc=>by rw[h.2]at hc;cases hc
 |.bl _,_,_,h,c,hc=>by rw[h.2]at hc;cases hc
 |.int _,_,_,h,c,hc=>by rw[h.2]at hc;cases hc
 |.str _,_,_,h,c,hc=>by rw[h.2]at hc;cases hc
 |.obj _,_,_,h,c,hc=>by rw[h.2]at hc;cases hc
theorem aK.oZ:∀{ds:List D} {vs:List V} {A:List θ},aK P w H ds vs A->∀c∈A,H c≠ξ/\∀xs,H c≠ν (.tup xs)
 |[],_,_,h,c,hc=>by rw[h.2]at hc;cases hc
 |d::ds,_,_,⟨v,r,A1,A2,e,eA,h1,h2⟩,c,hc=>by
  rw[eA]at hc;rcases ZT.mp hc with hc|hc
  ·exact Own.oZ h1 c hc
  ·exact aK.oZ h2 c hc
end
mutual
theorem dq:∀{d:D} {v:V},d.flat=ζ->az P w W H d v->Own P w H d v []
 |.tup ds,_,f,⟨a,vs,e,t,r⟩=>{a,vs,e,t,hV (by simpa[D.flat] using f) r}
 |.lst ds,_,f,_=>by simp[D.flat]at f
 |.dT ks ds,_,f,_=>by simp[D.flat]at f
 |.dK ks ds,_,f,_=>by simp[D.flat]at f
 |.sT ts,_,f,_=>by simp[D.flat]at f
 |.ob φ,_,f,_=>by simp[D.flat]at f
 |.cf,_,_,h=>{(h),rfl}
 |.bl _,_,_,h=>{(h),rfl}
 |.int _,_,_,h=>{(h),rfl}
 |.str _,_,_,h=>{(h),rfl}
 |.obj _,_,_,h=>{(h),rfl}
theorem hV:∀{ds:List D} {vs:List V},D.cb ds=ζ->ai P w W H ds vs->aK P w H ds vs []
 |[],_,_,h=>{(h),rfl}
 |d::ds,_,f,⟨v,r,e,h1,h2⟩=>by
  have f':(d.flat&&D.cb ds)=ζ:=f;rw[aaK]at f';exact{v,r,[],[],e,rfl,dq f'.1 h1,hV f'.2 h2}
end
theorem aK.length:∀{ds:List D} {vs:List V} {A:List θ},aK P w H ds vs A->vs.length=ds.length
 |[],_,_,h=>by rw[h.1];rfl
 |d::ds,_,_,⟨v,r,A1,A2,e,eA,h1,h2⟩=>by rw[e,ZZ,ZZ,aK.length h2]
theorem aK.append:∀{ds ds':List D} {vs vs':List V} {A A':List θ},aK P w H ds vs A->aK P w H ds' vs' A'->aK P w H (ds++ds') (vs++vs') (A++A')
 |[],_,_,_,_,_,h,h'=>by rw[h.1,h.2];exact h'
 |d::ds,_,_,_,_,_,⟨v,r,A1,A2,e,eA,h1,h2⟩,h'=>by
  subst e eA;exact{v,_,A1,_,rfl,by rw[aaS],h1,aK.append h2 h'}
def aK.one {d:D}{v:V}{A:List θ}(h:Own P w H d v A):aK P w H [d] [v] A:={v,[],A,[],rfl,by simp,h,rfl,rfl}
theorem aK.split:∀{ds:List D} {vs:List V} {A:List θ} {i:Nat} {d:D},aK P w H ds vs A->ds[i]?=ν d->∃v A1 A2 A3,vs[i]?=ν v/\A=A1++(A2++A3)/\aK P w H (ds.take i) (vs.take i) A1/\Own P w H d v A2/\aK P w H (ds.drop (i+1)) (vs.drop (i+1)) A3
 |[],_,_,_,_,_,e=>by simp at e
 |d::ds,_,_,0,_,⟨v,r,A1,A2,e,eA,h1,h2⟩,e'=>by
  simp at e';subst e' e eA;exact{v,[],A1,A2,by simp,by simp,{(rfl),rfl},h1,by simpa using h2}
 |d::ds,_,_,i+1,_,⟨v,r,A1,A2,e,eA,h1,h2⟩,e'=>by
  subst e eA;obtain⟨u,B1,B2,B3,g1,g2,g3,g4,g5⟩:=aK.split (i:=i) h2 (by simpa using e')
  exact{u,A1++B1,B2,B3,by simpa using g1,by rw[g2];simp[aaS],by simpa using {v,_,A1,B1,rfl,rfl,h1,g3},g4,by simpa using g5}
end
inductive Kd where
 |own|d9|old|bor
inductive Sk where
 |one|two|at (h:θ)
inductive B where
 |val (y:Bool) (d:D)|own (d:D)|hand (ok:List Int->Prop)|shl (y:Sk) (d:D)
abbrev a6:=List (Option B)
structure Cfg where
 H0:Hp
 IO:θ->Prop
 ro:Bool
 U:θ->Prop:=λ_=>False
abbrev Wn (own:Nat->List θ):θ->Prop:=λa=>∃i,a∈own i
def av (C:Cfg)(W:θ->Prop):Kd->θ->Prop
 |.own,a=>W a\/C.H0 a≠ξ
 |.d9,a=>W a\/C.H0 a≠ξ
 |.old,a=>W a
 |.bor,_=>False
def gk (C:Cfg)(W:θ->Prop)(k:Kd)(a:θ):Prop:=av C W k a\/C.U a
abbrev yk (y:Bool):Kd:=match y with|true=>.d9|false=>.old
def Xb:D->HO->List V->Prop
 |.lst _,o,vs=>o=.lst vs
 |.dT ks _,o,vs=>o=.dT (ks.zip vs)/\ks.length=vs.length
 |.dK ks _,o,vs=>o=.dK (ks.zip vs)/\ks.length=vs.length
 |_,_,_=>False
def Xc:D->List D
 |.lst ds=>ds
 |.dT _ ds=>ds
 |.dK _ ds=>ds
 |_=>[]
def HW (P:ZN)(w:Z4)(W:θ->Prop)(H:Hp):List D->List V->List θ->Prop
 |[],vs,A=>vs=[]/\A=[]
 |d::ds,vs,A=>∃b us r A',vs=.ref b::r/\A=b::A'/\H b=ν (.lst us)/\(∃es,d=.lst es/\ai P w W H es us)/\HW P w W H ds r A'
def oV (P:ZN)(w:Z4)(W:θ->Prop)(H:Hp)(d:D)(v:V)(A:List θ):Prop:=∃a o vs,v=.ref a/\A=[a]/\H a=ν o/\Xb d o vs/\ai P w W H (Xc d) vs
def MU (P:ZN)(w:Z4)(W:θ->Prop)(H:Hp)(y:Sk)(d:D)(v:V)(A:List θ):Prop:=match y with
 |.one=>oV P w W H d v A
 |.at h=>oV P w W H d v A/\v=.ref h
 |.two=>∃a vs A' ds,v=.ref a/\A=a::A'/\H a=ν (.lst vs)/\d=.lst ds/\HW P w W H ds vs A'
theorem HW.map {P:ZN}{w:Z4}{W W':θ->Prop}{H H':Hp}(hr:∀ds vs,ai P w W H ds vs->ai P w W' H' ds vs):∀{ds:List D} {vs:List V} {A:List θ},(∀c∈A,∀o,H c=ν o->H' c=ν o)->HW P w W H ds vs A->HW P w W' H' ds vs A
 |[],_,_,_,h=>h
 |_::_,_,_,ha,⟨b,us,r,A',e1,e2,e3,⟨es,e4,e5⟩,h⟩=>{b,us,r,A',e1,e2,ha b (by rw[e2];simp) _ e3,{es,e4,hr _ _ e5},HW.map hr (λc hc=>ha c (by rw[e2];simp[hc])) h}
theorem HW.rep {P:ZN}{w:Z4}{W W':θ->Prop}{H:Hp}(hs:∀ds vs,ai P w W H ds vs->ai P w W' H ds vs):∀{ds:List D} {vs:List V} {A:List θ},(∀c∈A,¬ W' c)->HW P w W H ds vs A->ai P w W' H ds vs
 |[],_,_,_,h=>h.1
 |_::_,_,_,ha,⟨b,us,r,A',e1,e2,e3,⟨es,e4,e5⟩,h⟩=>by
  subst e1 e2 e4;exact{.ref b,r,rfl,{b,us,rfl,e3,ha b (by simp),hs _ _ e5},HW.rep hs (λc hc=>ha c (by simp[hc])) h}
def oV.map {P:ZN}{w:Z4}{W W':θ->Prop}{H H':Hp}{d:D}{v:V}{A:List θ}(h:oV P w W H d v A)(ha:∀c∈A,∀o,H c=ν o->H' c=ν o)(hr:∀ds vs,ai P w W H ds vs->ai P w W' H' ds vs):oV P w W' H' d v A :=
 let ⟨a,o,vs,e1,e2,e3,e4,r⟩:=h;{a,o,vs,e1,e2,ha a (by rw[e2];simp) o e3,e4,hr _ _ r}
def MU.map {P:ZN}{w:Z4}{W W':θ->Prop}{H H':Hp}{y:Sk}{d:D}{v:V}{A:List θ}(h:MU P w W H y d v A)(ha:∀c∈A,∀o,H c=ν o->H' c=ν o)(hr:∀ds vs,ai P w W H ds vs->ai P w W' H' ds vs):MU P w W' H' y d v A:=by
 cases y with
 |one=>exact oV.map h ha hr
 | «at» b=>exact{oV.map h.1 ha hr,h.2}
 |two =>
  obtain⟨a,vs,A',ds,e1,e2,e3,e4,r⟩:=h;exact{a,vs,A',ds,e1,e2,ha a (by rw[e2];simp) _ e3,e4,r.map hr λc hc=>ha c (by rw[e2];simp[hc])}
def oV.rep {P:ZN}{w:Z4}{W W':θ->Prop}{H:Hp}{d:D}{v:V}{A:List θ}(h:oV P w W H d v A)(ha:∀c∈A,¬ W' c)(hs:∀ds vs,ai P w W H ds vs->ai P w W' H ds vs):az P w W' H d v:=by
 obtain⟨a,o,vs,rfl,rfl,e,sh,r⟩:=h;have na:=ha a (by simp)
 replace r:=hs _ _ r;cases d with
 |lst ds=>cases sh;exact{(a),vs,rfl,e,na,r}
 |dT ks ds=>obtain⟨rfl,l⟩:=sh;exact{(a),vs,rfl,e,l,na,r}
 |dK ks ds=>obtain⟨rfl,l⟩:=sh;exact{(a),vs,rfl,e,l,na,r}
 |_=>exact sh.elim
def MU.rep {P:ZN}{w:Z4}{W W':θ->Prop}{H:Hp}{y:Sk}{d:D}{v:V}{A:List θ}(h:MU P w W H y d v A)(ha:∀c∈A,¬ W' c)(hs:∀ds vs,ai P w W H ds vs->ai P w W' H ds vs):az P w W' H d v:=by
 cases y with
 |one=>exact oV.rep h ha hs
 | «at» b=>exact oV.rep h.1 ha hs
 |two =>
  obtain⟨a,vs,A',ds,rfl,rfl,e3,rfl,r⟩:=h;exact{a,vs,rfl,e3,ha a (by simp),r.rep hs λc hc=>ha c (by simp[hc])}
structure cu (P:ZN)(w:Z4)(C:Cfg)(σ:St)(H:Hp)(β:a6)(own:Nat->List θ):Prop where
 len:β.length=σ.length
 val:∀(i:Nat) (y:Bool) (d:D),β[i]?=ν (ν (.val y d))->∃v,σ[i]?=ν (ν v)/\az P w (gk C (Wn own) (yk y)) H d v
 ow:∀(i:Nat) (d:D),β[i]?=ν (ν (.own d))->∃v,σ[i]?=ν (ν v)/\Own P w H d v (own i)/\∀c∈own i,C.H0 c=ξ
 pD:∀(i:Nat) (ok:List Int->Prop),β[i]?=ν (ν (.hand ok))->∃a ns,σ[i]?=ν (ν (.ref a))/\H a=ν (.lst (ns.map V.int))/\ok ns/\own i=[a]/\((∀b,¬ C.IO b)\/C.IO a)
 dm:∀(i:Nat) (a:θ),a∈own i->H a≠ξ/\(∀xs,H a≠ν (.tup xs))/\(C.H0 a=ξ\/C.IO a)/\¬ C.U a
 mJ:∀(i j:Nat) (a:θ),a∈own i->a∈own j->i=j
 lV:∀i,(own i).Nodup
 kp:Kp C.IO C.H0 H
 iI:∀a,C.H0 a≠ξ->H a≠ξ
 shl:∀(i:Nat) (y:Sk) (d:D),β[i]?=ν (ν (.shl y d))->∃v,σ[i]?=ν (ν v)/\MU P w (gk C (Wn own) (yk ζ)) H y d v (own i)/\∀c∈own i,C.H0 c=ξ
abbrev SQ (X:Cx):=cu X.prog X.w
section
variable {P:ZN}{w:Z4}{C:Cfg}{σ:St}{H H':Hp}{β:a6}{own:Nat->List θ}{W W':θ->Prop}
def cu.AQ (b:cu P w C σ H β own):Dm (Wn own) H:=λa ⟨i,h⟩=>(b.dm i a h).1
def cu.Er (b:cu P w C σ H β own)(k:Kd):Dm (av C (Wn own) k) H:=λa h=>by
 cases k with
 |own=>exact h.elim (b.AQ a) (b.iI a)
 |d9=>exact h.elim (b.AQ a) (b.iI a)
 |old=>exact b.AQ a h
 |bor=>exact h.elim
def mM (s:∀a,W' a->W a)(k:Kd):∀a,av C W' k a->av C W k a:=λa h=>by
 cases k with
 |own=>exact h.imp (s a) id
 |d9=>exact h.imp (s a) id
 |old=>exact s a h
 |bor=>exact h
def jZ (s:∀a,W' a->W a)(k:Kd):∀a,gk C W' k a->gk C W k a:=λa h=>h.imp (mM s k a) id
def cu.keep (b:cu P w C σ H β own)(k:Kp (λa=>H a=ξ) H H')(kp:Kp C.IO H H')(dn:∀a,H a≠ξ->H' a≠ξ):cu P w C σ H' β own:=by
 have ko:∀c o,H c=ν o->H' c=ν o:=λc o e=>k.out c o e (by rw[e];exact λz=>(nomatch z))
 have same:au H H':=ko;exact⟨b.len,λi y d e=>let ⟨v,h1,h2⟩:=b.val i y d e;{v,h1,h2.same same},λi d e=>let ⟨v,h1,h2,h3⟩:=b.ow i d e;{v,h1,h2.keep (λ_ _ e=>same _ _ e) (λc _ o e=>same c o e),h3},
  λi ok e=>let ⟨a,ns,h1,h2,h3⟩:=b.pD i ok e;{a,ns,h1,same _ _ h2,h3},λi a h=>by
   obtain⟨h1,h2,h3⟩:=b.dm i a h;cases q:H a with
   |none=>exact Η q h1
   |some o=>rw[same a o q];exact{λz=>(nomatch z),λxs z=>h2 xs (by rw[q];exact z),h3},b.mJ,b.lV,b.kp.trans kp,λa z=>dn a (b.iI a z),λi y d e=>let ⟨v,h1,h2,h3⟩:=b.shl i y d e;{v,h1,h2.map (λc _ o e=>same c o e) (λ_ _ r=>r.same same),h3}⟩
def cu.same (b:cu P w C σ H β own)(s:au H H'):cu P w C σ H' β own:=b.keep s.kp s.kp λa z e=>z (s.free e)
def fb {own:Nat->List θ}{i:Nat}{a:θ}(h:Wn (aU own i []) a):Wn own a:=let ⟨j,q⟩:=h;{j,(ck q).1}
def bM {own:Nat->List θ}{i j:Nat}{A:List θ}(h:i≠j):aU own i A j=own j:=by unfold aU;rw[ω (aa1 h)]
def os_eq {own:Nat->List θ}{i:Nat}{A:List θ}:aU own i A i=A:=by unfold aU;rw[χ rfl]
def cu.fG {i:Nat}{d:D}{v:V}{y:Bool}(b:cu P w C σ H β own)(r:az P w (gk C (Wn own) (yk y)) H d v):cu P w C (σ.set i (ν v)) H (β.set i (ν (.val y d))) (aU own i []):=by
 have sub:∀y a,gk C (Wn (aU own i [])) (yk y) a->gk C (Wn own) (yk y) a:=λy=>jZ (λa h=>fb h) _;refine{by simp[b.len],λj y' d' e=>?_,λj d' e=>?_,λj ok e=>?_,λj a h=>b.dm j a (ck h).1,λj k a h1 h2=>b.mJ j k a (ck h1).1 (ck h2).1,λj=>?_,b.kp,b.iI,λj y' d' e=>?_}
 ·by_cases aG:i=j
  ·subst aG;obtain⟨e',hl⟩:=bH e;cases e';exact{v,get_set (by rw[<- b.len];exact hl),r.aZ (sub _)}
  ·rw[bu aG]at e ⊢
   obtain⟨u,h1,h2⟩:=b.val j y' d' e;exact{u,h1,h2.aZ (sub _)}
 ·by_cases aG:i=j
  ·subst aG;obtain⟨e',hl⟩:=bH e;cases e'
  ·rw[bu aG]at e ⊢
   rw[bM aG];exact b.ow j d' e
 ·by_cases aG:i=j
  ·subst aG;obtain⟨e',hl⟩:=bH e;cases e'
  ·rw[bu aG]at e ⊢
   rw[bM aG];exact b.pD j ok e
 ·by_cases aG:i=j
  ·rw[aG,os_eq];exact aaH
  ·rw[bM aG];exact b.lV j
 ·by_cases aG:i=j
  ·subst aG;obtain⟨e',hl⟩:=bH e;cases e'
  ·rw[bu aG]at e ⊢
   rw[bM aG];obtain⟨u,h1,h2,h3⟩:=b.shl j y' d' e;exact{u,h1,h2.map (λ_ _ _ z=>z) (λ_ _ r=>ai.aZ (sub _) r),h3}
def cu.Ca {i:Nat}{d:D}{v:V}{A:List θ}(b:cu P w C σ H β own)(r:Own P w H d v A)(nd:A.Nodup)(nw:∀c∈A,C.H0 c=ξ/\¬ Wn own c/\C.U c):
  cu P w {C with U:=λ_=>False} (σ.set i (ν v)) H (β.set i (ν (.own d))) (aU own i A):=by
 have sub:∀y a,gk {C with U:=λ_=>False} (Wn (aU own i A)) (yk y) a->gk C (Wn own) (yk y) a:=λy a h=>by
  have q:∀a,Wn (aU own i A) a->Wn own a\/a∈A:=λa r_=>by
   obtain⟨j,q⟩:=r_
   by_cases aG:i=j
   ·rw[aG,os_eq]at q;exact .inr q
   ·rw[bM aG]at q;exact .inl {(j),q}
  have q':∀a,Wn (aU own i A) a->Wn own a\/C.U a:=λa z=>(q a z).imp id λz=>(nw a z).2.2;rcases h with h|h
  ·cases y with
   |true=>exact h.elim (λz=>(q' a z).imp .inl id) λz=>.inl (.inr z)
   |false=>exact q' a h
  ·exact h.elim
 have mem:∀{j c},c∈aU own i A j->(i=j/\c∈A)\/(i≠j/\c∈own j):=λ{j c} h=>by
  by_cases aG:i=j
  ·subst aG;rw[os_eq]at h;exact .inl {(rfl),h}
  ·rw[bM aG]at h;exact .inr {(aG),h}
 refine{by simp[b.len],λj y' d' e=>?_,λj d' e=>?_,λj ok e=>?_,λj a h=>?_,λj k a h1 h2=>?_,λj=>?_,b.kp,b.iI,λj y' d' e=>?_}
 ·by_cases aG:i=j
  ·subst aG;obtain⟨e',hl⟩:=bH e;cases e'
  ·rw[bu aG]at e ⊢
   obtain⟨u,h1,h2⟩:=b.val j y' d' e;exact{u,h1,h2.aZ (sub _)}
 ·by_cases aG:i=j
  ·subst aG;obtain⟨e',hl⟩:=bH e;cases e';rw[os_eq];exact{v,get_set (by rw[<- b.len];exact hl),r,λc hc=>(nw c hc).1}
  ·rw[bu aG]at e ⊢
   rw[bM aG];exact b.ow j d' e
 ·by_cases aG:i=j
  ·subst aG;obtain⟨e',hl⟩:=bH e;cases e'
  ·rw[bu aG]at e ⊢
   rw[bM aG];exact b.pD j ok e
 ·rcases mem h with⟨_,h⟩|⟨_,h⟩
  ·exact{(r.oZ a h).1,(r.oZ a h).2,.inl (nw a h).1,λz=>z}
  ·exact{(b.dm j a h).1,(b.dm j a h).2.1,(b.dm j a h).2.2.1,λz=>z}
 ·rcases mem h1 with⟨e1,h1⟩|⟨n1,h1⟩
  ·rcases mem h2 with⟨e2,h2⟩|⟨n2,h2⟩
   ·rw[<- e1,<- e2]
   ·exact Η {(k),h2} (nw a h1).2.1
  ·rcases mem h2 with⟨e2,h2⟩|⟨n2,h2⟩
   ·exact Η {(j),h1} (nw a h2).2.1
   ·exact b.mJ j k a h1 h2
 ·by_cases aG:i=j
  ·rw[<- aG,os_eq];exact nd
  ·rw[bM aG];exact b.lV j
 ·by_cases aG:i=j
  ·subst aG;obtain⟨e',hl⟩:=bH e;cases e'
  ·rw[bu aG]at e ⊢
   rw[bM aG];obtain⟨u,h1,h2,h3⟩:=b.shl j y' d' e;exact{u,h1,h2.map (λ_ _ _ z=>z) (λ_ _ r=>ai.aZ (sub _) r),h3}
def cu.freeze {i:Nat}{d:D}(b:cu P w C σ H β own)(h:β[i]?=ν (ν (.own d))):cu P w C σ H (β.set i (ν (.val ζ d))) (aU own i []):=by
 obtain⟨v,h1,h2,h3⟩:=b.ow i d h;have e:σ.set i (ν v)=σ:=by
  apply abz;intro j;rw[ab_]
  by_cases aG:i=j
  ·subst aG;rw[χ rfl,h1];have:i<σ.length:=(Z1.mp h1).1;rw[χ this]
  ·rw[ω aG]
 have q:=cu.fG (i:=i) (d:=d) (v:=v) (y:=ζ) (own:=aU own i []) (C:=C) (P:=P) (w:=w) (σ:=σ) (H:=H) (β:=β.set i ξ);have b':cu P w C σ H (β.set i ξ) (aU own i []):=by
  have sub:∀y a,gk C (Wn (aU own i [])) (yk y) a->gk C (Wn own) (yk y) a:=λy=>jZ (λa h=>fb h) _;refine{by simp[b.len],λj y' d' e=>?_,λj d' e=>?_,λj ok e=>?_,λj a h=>b.dm j a (ck h).1,λj k a h1 h2=>b.mJ j k a (ck h1).1 (ck h2).1,λj=>?_,b.kp,b.iI,λj y' d' e=>?_}
  ·by_cases aG:i=j
   ·subst aG;obtain⟨e',hl⟩:=bH e;cases e'
   ·rw[bu aG]at e;obtain⟨u,h1,h2⟩:=b.val j y' d' e;exact{u,h1,h2.aZ (sub _)}
  ·by_cases aG:i=j
   ·subst aG;obtain⟨e',hl⟩:=bH e;cases e'
   ·rw[bu aG]at e;rw[bM aG];exact b.ow j d' e
  ·by_cases aG:i=j
   ·subst aG;obtain⟨e',hl⟩:=bH e;cases e'
   ·rw[bu aG]at e;rw[bM aG];exact b.pD j ok e
  ·by_cases aG:i=j
   ·rw[aG,os_eq];exact aaH
   ·rw[bM aG];exact b.lV j
  ·by_cases aG:i=j
   ·subst aG;obtain⟨e',hl⟩:=bH e;cases e'
   ·rw[bu aG]at e;rw[bM aG];obtain⟨u,h1,h2,h3⟩:=b.shl j y' d' e;exact{u,h1,h2.map (λ_ _ _ z=>z) (λ_ _ r=>ai.aZ (sub _) r),h3}
 have q:=cu.fG (i:=i) (d:=d) (v:=v) (y:=ζ) b' (h2.rep λc hc z=>by
  rcases z with (z|z)|z
  ·obtain⟨j,hj⟩:=z;obtain⟨hj,ne⟩:=ck hj;exact ne (b.mJ j i c hj hc)
  ·exact z (h3 c hc)
  ·exact(b.dm i c hc).2.2.2 z)
 rw[e,List.set_set]at q;have eo:aU (aU own i []) i []=aU own i []:=by
  funext j
  by_cases aG:i=j
  ·rw[<- aG,os_eq,os_eq]
  ·rw[bM aG,bM aG]
 rwa [eo]at q
abbrev Cfg.u (C:Cfg)(U:θ->Prop):Cfg:={C with U:=U}
def cu.mQ {U:θ->Prop}(b:cu P w C σ H β own)(hU:∀a,U a->H a=ξ):cu P w (C.u U) σ H β own :=
 {b.len,λi y d e=>let ⟨v,h1,h2⟩:=b.val i y d e;{v,h1,az.grow (λa z=>z.elim (λz=>.inl (.inl z)) λz=>.inr (hU a z)) h2},b.ow,b.pD,λi a h=>let ⟨h1,h2,h3,_⟩:=b.dm i a h;{h1,h2,h3,λz=>h1 (hU a z)},b.mJ,b.lV,b.kp,b.iI,λi y d e=>let ⟨v,h1,h2,h3⟩:=b.shl i y d e;{v,h1,h2.map (λ_ _ _ z=>z) (λ_ _ r=>ai.grow (λa z=>z.elim (λz=>.inl (.inl z)) λz=>.inr (hU a z)) r),h3}}
def cu.Xx {U:θ->Prop}(b:cu P w (C.u U) σ H β own):cu P w (C.u λ_=>False) σ H β own :=
 {b.len,λi y d e=>let ⟨v,h1,h2⟩:=b.val i y d e;{v,h1,az.aZ (λa z=>z.elim .inl λz=>z.elim) h2},b.ow,b.pD,λi a h=>let ⟨h1,h2,h3,_⟩:=b.dm i a h;{h1,h2,h3,λz=>z},b.mJ,b.lV,b.kp,b.iI,λi y d e=>let ⟨v,h1,h2,h3⟩:=b.shl i y d e;{v,h1,h2.map (λ_ _ _ z=>z) (λ_ _ r=>ai.aZ (λa z=>z.elim .inl λz=>z.elim) r),h3}}
def cu.lR {i:Nat}{y:Bool}{d:D}(b:cu P w C σ H β own)(e:β[i]?=ν (ν (.val y d))):∃v,σ[i]?=ν (ν v)/\az P w (av C (Wn own) (yk y)) H d v:=let ⟨v,h1,h2⟩:=b.val i y d e;{v,h1,az.aZ (λa z=>.inl z) h2}
end
def KV (P:ZN)(w:Z4)(C:Cfg)(Z:Hp×(θ->Prop))(own:Nat->List θ)(H:Hp):Kd->D->V->Prop
 |.own,d,v=>∃A,Own P w H d v A/\A.Nodup/\∀c∈A,Z.1 c=ξ/\¬ Wn own c/\C.H0 c=ξ
 |.d9,d,v=>az P w (av C (Wn own) .d9) H d v
 |.old,d,v=>az P w (av C (Wn own) .old) H d v
 |.bor,d,v=>az P w (av C (Wn own) .bor) H d v
structure U8 (P:ZN)(w:Z4)(C:Cfg)(σ:St)(H:Hp)(own:Nat->List θ)(p:Bool)(β':a6)(H':Hp)(aR:Nat->List θ):Prop where
 sq:cu P w C σ H' β' aR
 sn:Sn (H,Wn own) H' (Wn aR)
 pu:p=ζ->au H H'/\aR=own
 le:∀a,Wn aR a->Wn own a
abbrev Out (X:Cx):=U8 X.prog X.w
section
variable {X:Cx}{C:Cfg}{σ:St}{H H1 H2 H':Hp}{own aC ba:Nat->List θ}{p p':Bool}{β β1 β2 β':a6}{Z:Hp×(θ->Prop)}{d:D}{v:V}{k:Kd}{P:ZN}{w:Z4}
def Out.refl (s:SQ X C σ H β own)(p:Bool):Out X C σ H own p β H own:={s,Sn.refl,λ_=>{au.refl _,rfl},λ_ z=>z}
def Out.trans (a:Out X C σ H own p β1 H1 aC)(b:Out X C σ H1 aC p' β2 H2 ba):Out X C σ H own (p&&p') β2 H2 ba:=⟨b.sq,a.sn.trans b.sn,λh=>by
 rw[aaK]at h;obtain⟨s1,e1⟩:=a.pu h.1;obtain⟨s2,e2⟩:=b.pu h.2;exact{s1.trans s2,e2.trans e1},λc z=>a.le c (b.le c z)⟩
def Out.same (a:Out X C σ H own p β1 H1 aC)(s:au H1 H2):Out X C σ H own p β1 H2 aC:={a.sq.same s,a.sn.same s,λh=>let ⟨s1,e1⟩:=a.pu h;{s1.trans s,e1},a.le}
noncomputable def Out.wk (a:Out X C σ H own p β1 H1 aC)(h:p'=ζ->p=ζ):Out X C σ H own p' β1 H1 aC:={a.sq,a.sn,λz=>a.pu (h z),a.le}
def Out.WU {q:Bool}(a:Out X C σ H own p β1 H1 aC)(b:Out X C σ H1 aC p' β2 H2 ba)(h:q=ζ->p=ζ/\p'=ζ):Out X C σ H own q β2 H2 ba:=(a.trans b).wk λz=>by rw[(h z).1,(h z).2];rfl
def KV.rep (h:KV P w C Z own H k d v):az P w (av C (Wn own) k) H d v:=by
 cases k with
 |own=>obtain⟨A,h1,h2,h3⟩:=h;exact h1.rep λc hc z=>z.elim (h3 c hc).2.1 λz=>z (h3 c hc).2.2
 |_=>exact h
def KV.d9 (h:KV P w C Z own H .own d v):KV P w C Z own H .d9 d v:=KV.rep (k:=.own) h
def KV.flat {W:θ->Prop}(f:d.flat=ζ)(h:az P w W H d v):KV P w C Z own H .own d v:={[],dq f h,aaH,λc hc=>(nomatch hc)}
noncomputable abbrev Kd.wk:Kd->Kd
 |.own=>.d9
 |.d9=>.d9
 |.old=>.old
 |.bor=>.bor
abbrev Kd.max:Kd->Kd->Kd
 |.bor,_=>.bor
 |_,.bor=>.bor
 |.old,_=>.old
 |_,.old=>.old
 |_,_=>.d9
def df {W:θ->Prop}{a b:Kd}:∀c,av C W (a.max b) c->av C W a c:=λc h=>by
 cases a <;> cases b <;> first|exact h|exact h.elim|exact .inl h
def fY {W:θ->Prop}{a b:Kd}:∀c,av C W (a.max b) c->av C W b c:=λc h=>by
 cases a <;> cases b <;> first|exact h|exact h.elim|exact .inl h
def KV.of (h:az P w (av C (Wn own) k.wk) H d v):KV P w C Z own H k.wk d v:=by
 cases k <;> exact h
def KV.Ng (h:KV P w C Z own H k d v)(s:au H H'):KV P w C Z own H' k d v:=by
 cases k with
 |own=>obtain⟨A,h1,h2⟩:=h;exact{A,h1.keep (λb xs e=>s _ _ e) (λc _ o e=>s c o e),h2}
 |d9=>exact az.same s h
 |old=>exact az.same s h
 |bor=>exact az.same s h
def KV.held (hk:k≠.bor)(h:KV P w C Z own H k d v)(n:Sn (H,Wn own) H2 (Wn ba)):KV P w C Z ba H2 k d v:=by
 cases k with
 |own =>
  obtain⟨A,h1,h2,h3⟩:=h;refine{A,h1.keep n.k.tup (λc hc o e=>n.k.out c o e λz=>z.elim (h3 c hc).2.1 λz=>(h1.oZ c hc).1 z),h2,λc hc=>{(h3 c hc).1,λz=>(n.w c z).elim (h3 c hc).2.1 λz=>(h1.oZ c hc).1 z,(h3 c hc).2.2}}
 |d9 =>
  have g:az P w (λa=>av C (Wn own) .d9 a\/H a=ξ) H d v:=az.grow (λb z=>z) h;exact az.aZ (λb z=>z.elim (λz=>(n.w b z).imp .inl id) λz=>.inl (.inr z)) (az.keep (n.k.mono λb z=>z.imp .inl id) g)
 |old=>exact held (W:=Wn own) h n
 |bor=>exact Η rfl hk
def KV.Po (h:KV P w C Z own H k d v)(s:au H H2)(e:ba=own):KV P w C Z ba H2 k d v:=by rw[e];exact h.Ng s
abbrev hold (k:Kd)(p:Bool):Prop:=match k,p with
 |.bor,η=>False
 |_,_=>True
def KV.ho (h:KV P w C Z own H k d v)(o:Out X C σ H own p β' H2 ba)(hh:hold k p):KV P w C Z ba H2 k d v:=by
 cases p with
 |true=>obtain⟨s,e⟩:=o.pu rfl;exact h.Po s e
 |false=>exact h.held (by rintro rfl;exact hh) o.sn
def KV.later (h:KV P w C (H1,Wn aC) own H k d v)(n:Sn Z H1 (Wn aC)):KV P w C Z own H k d v:=by
 cases k with
 |own=>obtain⟨A,h1,h2,h3⟩:=h;exact{A,h1,h2,λc hc=>{n.free (h3 c hc).1,(h3 c hc).2}}
 |_=>exact h
end
abbrev aM:=a6->(D->Kd->a6->Prop)->Prop
abbrev aV:=a6->(Bool->a6->Prop)->Prop
abbrev cX:=a6->(List D->List Kd->a6->Prop)->Prop
def tQ (X:Cx)(C:Cfg)(p:Bool)(φ:aM):TE:=λσ H Q=>∃β own,SQ X C σ H β own/\φ β λd k β'=>∀v H' aR,Out X C σ H own p β' H' aR->KV X.prog X.w C (H,Wn own) aR H' k d v->Q v H'
def iO (X:Cx)(C:Cfg)(p:Bool)(φ:aV):TT:=λσ H Q=>∃β own,SQ X C σ H β own/\φ β λb β'=>∀H' aR,Out X C σ H own p β' H' aR->Q b H'
def KF (P:ZN)(w:Z4)(C:Cfg)(own:Nat->List θ)(H:Hp):List Kd->List D->List V->List θ->Prop
 |[],ds,vs,A=>ds=[]/\vs=[]/\A=[]
 |k::ks,ds,vs,A=>∃d dr v vr A1 A2,ds=d::dr/\vs=v::vr/\A=A1++A2/\(match k with | .own=>Own P w H d v A1|k=>A1=[]/\az P w (av C (Wn own) k) H d v)/\KF P w C own H ks dr vr A2
def vD (P:ZN)(w:Z4)(C:Cfg)(Z:Hp×(θ->Prop))(own:Nat->List θ)(H:Hp)(ks:List Kd)(ds:List D)(vs:List V):Prop :=
 ∃A,KF P w C own H ks ds vs A/\A.Nodup/\∀c∈A,Z.1 c=ξ/\¬ Wn own c/\C.H0 c=ξ
def xN (X:Cx)(C:Cfg)(p:Bool)(φ:cX):TA:=λσ H Q=>∃β own,SQ X C σ H β own/\φ β λds ks β'=>∀vs H' aR,Out X C σ H own p β' H' aR->vD X.prog X.w C (H,Wn own) aR H' ks ds vs->Q vs H'
section
variable {C:Cfg}{H H1:Hp}{own aC:Nat->List θ}{Z:Hp×(θ->Prop)}{d:D}{v:V}{k:Kd}{P:ZN}{w:Z4}{ks:List Kd}{ds:List D}{vs:List V}
def vD.nil:vD P w C Z own H [] [] []:={[],{(rfl),rfl,rfl},aaH,λc hc=>(nomatch hc)}
theorem KF.oZ:∀{ks:List Kd} {ds:List D} {vs:List V} {A:List θ},KF P w C own H ks ds vs A->∀c∈A,H c≠ξ
 |[],_,_,_,⟨_,_,e⟩,c,hc=>by rw[e]at hc;cases hc
 |k::ks,_,_,_,⟨d,dr,v,vr,A1,A2,rfl,rfl,rfl,h1,h2⟩,c,hc=>by
  rcases ZT.mp hc with hc|hc
  ·cases k with
   |own=>exact(Own.oZ h1 c hc).1
   |_=>rw[h1.1]at hc;cases hc
  ·exact KF.oZ h2 c hc
def vD.cons (h1:KV P w C Z aC H1 k d v)(n:Sn (H1,Wn aC) H (Wn own))(Hi:KV P w C Z own H k d v)(h2:vD P w C (H1,Wn aC) own H ks ds vs)(n0:Sn Z H1 (Wn aC)):vD P w C Z own H (k::ks) (d::ds) (v::vs):=by
 obtain⟨A2,f2,Bl,q2⟩:=h2;have z2:∀c∈A2,Z.1 c=ξ/\¬ Wn own c/\C.H0 c=ξ:=λc hc=>{n0.free (q2 c hc).1,(q2 c hc).2};cases k with
 |own =>
  obtain⟨A1,o1,C6,q1⟩:=h1;obtain⟨ZC,Zk,XB,VC⟩:=(show KV P w C Z own H .own d v from KV.held (k:=.own) (λz=>(nomatch z)) ({(A1),o1,C6,q1}:KV P w C Z aC H1 .own d v) n)
  have Sh:Own P w H d v A1:=o1.keep n.k.tup (λc hc o e=>n.k.out c o e λz=>z.elim (q1 c hc).2.1 λz=>(o1.oZ c hc).1 z);refine{A1++A2,{(d),ds,v,vs,A1,A2,rfl,rfl,rfl,Sh,f2},aaz.mpr {C6,Bl,λa ha b hb e=>?_},λc hc=>?_}
  ·subst e;exact(o1.oZ a ha).1 (q2 a hb).1
  ·rcases ZT.mp hc with hc|hc
   ·exact{(q1 c hc).1,λz=>(n.w c z).elim (q1 c hc).2.1 λz=>(o1.oZ c hc).1 z,(q1 c hc).2.2}
   ·exact z2 c hc
 |d9=>exact{A2,{d,ds,v,vs,[],A2,rfl,rfl,rfl,{(rfl),Hi},f2},Bl,z2}
 |old=>exact{A2,{d,ds,v,vs,[],A2,rfl,rfl,rfl,{(rfl),Hi},f2},Bl,z2}
 |bor=>exact{A2,{d,ds,v,vs,[],A2,rfl,rfl,rfl,{(rfl),Hi},f2},Bl,z2}
abbrev iW:List Kd->Kd
 |[]=>.d9
 |k::ks=>Kd.max k (iW ks)
theorem KF.kg:∀{ks:List Kd} {ds:List D} {vs:List V} {A:List θ},KF P w C own H ks ds vs A->(∀c∈A,¬ Wn own c/\C.H0 c=ξ)->ai P w (av C (Wn own) (iW ks)) H ds vs
 |[],_,_,_,⟨e1,e2,e⟩,_=>by rw[e1,e2];rfl
 |k::ks,_,_,_,⟨d,dr,v,vr,A1,A2,rfl,rfl,rfl,h1,h2⟩,hA=>by
  refine{v,vr,rfl,?_,ai.aZ fY (KF.kg h2 λc hc=>hA c (aaa _ hc))};cases k with
  |own=>exact az.aZ df (Own.rep (W:=av C (Wn own) .own) (λc hc z=>z.elim (hA c (aaA _ hc)).1 λz=>z (hA c (aaA _ hc)).2) h1)
  |d9=>exact az.aZ (df (a:=.d9)) h1.2
  |old=>exact az.aZ (df (a:=.old)) h1.2
  |bor=>exact az.aZ (df (a:=.bor)) h1.2
def vD.kg (h:vD P w C Z own H ks ds vs):ai P w (av C (Wn own) (iW ks)) H ds vs:=let ⟨A,h1,_,h3⟩:=h;h1.kg λc hc=>(h3 c hc).2
def vD.bor (h:vD P w C Z own H ks ds vs):ai P w (λ_=>False) H ds vs:=ai.aZ (λ_ z=>z.elim) h.kg
def zt:List Kd->List D->Prop
 |k::ks,d::ds=>(match k with | .own=>True|_=>d.flat=ζ)/\zt ks ds
 |_,_=>True
theorem KF.Kg:∀{ks:List Kd} {ds:List D} {vs:List V} {A:List θ},KF P w C own H ks ds vs A->zt ks ds->aK P w H ds vs A
 |[],_,_,_,⟨e1,e2,e⟩,_=>by rw[e1,e2,e];exact{(rfl),rfl}
 |k::ks,_,_,_,⟨d,dr,v,vr,A1,A2,rfl,rfl,rfl,h1,h2⟩,⟨f1,f2⟩=>by
  refine{v,vr,A1,A2,rfl,rfl,?_,KF.Kg h2 f2};cases k with
  |own=>exact h1
  |d9=>rw[h1.1];exact dq f1 h1.2
  |old=>rw[h1.1];exact dq f1 h1.2
  |bor=>rw[h1.1];exact dq f1 h1.2
theorem jM:∀{ks:List Kd},(iW ks).wk=iW ks
 |[]=>rfl
 |k::ks=>by cases k <;> cases h:iW ks <;> simp[iW,Kd.max,h]
def Dq (ks:List Kd)(ds:List D)(K:Kd->Prop):Prop:=match ks.all (λk=>match k with | .own=>ζ|_=>η)with
 |true=>K .own
 |false=>(zt ks ds/\K .own)\/K (iW ks)
def Dq.mono {ks:List Kd}{ds:List D}{K K':Kd->Prop}(k:∀x,K x->K' x)(h:Dq ks ds K):Dq ks ds K':=by
 unfold Dq at *
 split
 ·next e=>rw[e]at h;exact k _ h
 ·next e=>rw[e]at h;exact h.imp (λz=>{z.1,k _ z.2}) (k _)
def Dq.of {ks:List Kd}{ds:List D}{K:Kd->Prop}(h:Dq ks ds K):(zt ks ds/\K .own)\/K (iW ks):=by
 unfold Dq at h
 split at h
 ·next e =>
  refine .inl {?_,h}
  clear h
  induction ks generalizing ds with
  |nil=>cases ds <;> trivial
  |cons k ks ih =>
   cases ds with
   |nil=>trivial
   |cons d ds =>
    rw[List.all_cons,aaK]at e;refine{?_,ih e.2};have e1:=e.1;cases k <;> first|trivial|cases e1
 ·exact h
end
structure PQ (X:Cx)(C:Cfg)(p:Bool)(e:Expr)(φ:aM):Prop where
 mono:∀β R R',(∀d k β,R d k β->R' d k β)->φ β R->φ β R'
 pe:PE X e (tQ X C p φ)
structure Be (X:Cx)(C:Cfg)(p:Bool)(e:Expr)(φ:aV):Prop where
 mono:∀β R R',(∀d β,R d β->R' d β)->φ β R->φ β R'
 pt:PT X e (iO X C p φ)
structure xB (X:Cx)(C:Cfg)(p:Bool)(e:Expr)(φ:aV):Prop where
 mono:∀β R R',(∀d β,R d β->R' d β)->φ β R->φ β R'
 pw:PW X e (iO X C p φ)
structure vM (X:Cx)(C:Cfg)(p:Bool)(es:List Expr)(φ:cX):Prop where
 mono:∀β R R',(∀d k β,R d k β->R' d k β)->φ β R->φ β R'
 pa:PA X es (xN X C p φ)
section
variable {X:Cx}{C:Cfg}{a b c e:Expr}{es:List Expr}{φ φa φb:aM}{τ τa τb:aV}{φs:cX}{pos:Pos}{σ:St}{H H':Hp}{β:a6}{own:Nat->List θ}{p p':Bool}
def tQ.of (h:PQ X C p e φ)(s:SQ X C σ H β own){R:D->Kd->a6->Prop}{Q:VK}(hr:φ β R)(k:∀d kd β' v H' aR,R d kd β'->Out X C σ H own p β' H' aR->KV X.prog X.w C (H,Wn own) aR H' kd d v->Q v H'):tQ X C p φ σ H Q :=
 {β,own,s,h.mono β _ _ (λd kd β' hd v H' aR o r=>k d kd β' v H' aR hd o r) hr}
def iO.of (h:Be X C p e τ)(s:SQ X C σ H β own){R:Bool->a6->Prop}{Q:Bool->Hp->Prop}(hr:τ β R)(k:∀t β' H' aR,R t β'->Out X C σ H own p β' H' aR->Q t H'):iO X C p τ σ H Q :=
 {β,own,s,h.mono β _ _ (λt β' hd H' aR o=>k t β' H' aR hd o) hr}
def xN.of (h:vM X C p es φs)(s:SQ X C σ H β own){R:List D->List Kd->a6->Prop}{Q:List V->Hp->Prop}(hr:φs β R)(k:∀ds ks β' vs H' aR,R ds ks β'->Out X C σ H own p β' H' aR->vD X.prog X.w C (H,Wn own) aR H' ks ds vs->Q vs H'):xN X C p φs σ H Q :=
 {β,own,s,h.mono β _ _ (λd kd β' hd v H' aR o r=>k d kd β' v H' aR hd o r) hr}
def xB.t (h:xB X C p e τ):Be X C p e τ:={(h.mono),h.pw.pt}
noncomputable abbrev vk (y:Bool):D->Kd
 |.int _=>.own
 |.bl _=>.own
 |.cf=>.own
 |.str _=>.own
 |_=>yk y
def qB:B->(D->Kd->Prop)->Prop
 |.val y d,K=>K d (vk y d)
 |.own d,K=>K d .bor
 |.hand _,_=>False
 |.shl _ _,_=>False
def Cj (i:Nat):aM:=λβ R=>∃b,β[i]?=ν (ν b)/\qB b λd k=>R d k β
def KY {P:ZN}{w:Z4}{Z:Hp×(θ->Prop)}{y:Bool}{d:D}{v:V}(h:az P w (av C (Wn own) (yk y)) H d v):KV P w C Z own H (vk y d) d v:=by
 cases d with
 |int i=>exact KV.flat rfl h
 |bl i=>exact KV.flat rfl h
 |cf=>exact KV.flat rfl h
 |str i=>exact KV.flat rfl h
 |_=>cases y <;> exact h
def aa {i:Nat}{x:Str}(hn:Nm X i x:=by exact wG):
  PQ X C ζ (.Name x pos) (Cj i):=⟨λβ R R' k r_=>by obtain⟨b,e,h⟩:=r_;exact{b,e,by cases b <;> first|exact k _ _ _ h|exact h},(eE hn).pre λσ H Q w6=>by
 obtain⟨β,own,s,b,e,q⟩:=w6;cases b with
 |val y d=>obtain⟨v,h1,h2⟩:=s.lR e;exact{v,h1,q v H own (Out.refl s _) (KY h2)}
 |own d=>obtain⟨v,h1,h2,h3⟩:=s.ow i d e;exact{v,h1,q v H own (Out.refl s _) (h2.rep λ_ _ z=>z)}
 |hand ok=>exact q.elim
 |shl _ _=>exact q.elim⟩
def R6 (i:Nat):aM:=λβ R=>∃d,β[i]?=ν (ν (.own d))/\R d .d9 (β.set i (ν (.val ζ d)))
def CB {i:Nat}{x:Str}(hn:Nm X i x:=by exact wG):
  PQ X C η (.Name x pos) (R6 i):=⟨λβ R R' k DD=>by obtain⟨b,e,h⟩:=DD;exact{b,e,k _ _ _ h},(eE hn).pre λσ H Q Ha=>by
 obtain⟨β,own,s,d,e,q⟩:=Ha;have f:=s.freeze e;obtain⟨v,h1,h2⟩:=f.lR (y:=ζ) (get_set (by rw[s.len];obtain⟨v,h1,_⟩:=s.ow i d e;exact(Z1.mp h1).1))
 exact{v,h1,q v H _ {f,{λb z=>.inl (fb z),Kp.refl,λ_ z=>z},λz=>(nomatch z),λ_ z=>fb z} h2}⟩
def qC (d:D):aM:=λβ R=>R d .own β
def ag {i j}:PQ X C ζ (.Constant (.int i) j pos) (qC (.int i)):={λρ R R' k h=>k _ _ _ h,bj.pre λσ H Q Lm=>by obtain⟨β,own,s,q⟩:=Lm;exact q _ H own (Out.refl s _) (KV.flat (W:=λ_=>False) rfl rfl)}
def tP {b j}:PQ X C ζ (.Constant (.bool b) j pos) (qC (.bl b)):={λρ R R' k h=>k _ _ _ h,Ih.pre λσ H Q To=>by obtain⟨β,own,s,q⟩:=To;exact q _ H own (Out.refl s _) (KV.flat (W:=λ_=>False) rfl rfl)}
def km {j}:PQ X C ζ (.Constant .none j pos) (qC .cf):={λρ R R' k h=>k _ _ _ h,Kb.pre λσ H Q Ll=>by obtain⟨β,own,s,q⟩:=Ll;exact q _ H own (Out.refl s _) (KV.flat (W:=λ_=>False) rfl rfl)}
def Ci (X:Cx)(f:D->D->Option D)(N:D->Prop):R2:=λx y H Q=>∃W d1 d2 d,Dm W H/\Rp X W H d1 x/\Rp X W H d2 y/\f d1 d2=ν d/\∀v H',au H H'->Rp X W H' d v->(N d->Rp X (λa=>H a≠ξ) H' d v)->Q v H'
abbrev QZ (X:Cx)(f:ZF->ZF->Sem ZF)(g:D->D->Option D)(N:D->Prop):Prop:=i_ X f (Ci X g N)
def bE.m {f:ZF->ZF->Sem ZF}{g:D->D->Option D}(h:bE X f g):QZ X f g NF:=λμ s σ H x y v u Q I rx ry ⟨W,d1,d2,d,hd,r1,r2,e,q⟩ =>
 h μ s σ H x y v u Q I rx ry {W,d1,d2,d,hd,r1,r2,e,λv H' s r=>q v H' s r λf=>az.flat f r}
noncomputable def kN (N:D->Prop)(d:D)(k:Kd)(K:Kd->Prop):Prop:=match d with
 |.int _=>K .own
 |.bl _=>K .own
 |.cf=>K .own
 |.str _=>K .own
 |.tup _=>K k
 |_=>(N d/\K .own)\/K k
def kN.mono {N:D->Prop}{d:D}{k:Kd}{K K':Kd->Prop}(h:∀x,K x->K' x)(q:kN N d k K):kN N d k K':=by
 cases d <;> first|exact h _ q|exact q.imp (λz=>⟨z.1,h _ z.2⟩) (h _)
def jA {P:ZN}{w:Z4}{Z:Hp×(θ->Prop)}{d:D}{v:V}(hd:Dm (Wn own) H)(h0:∀a,C.H0 a≠ξ->H a≠ξ)(hz:∀a,Z.1 a≠ξ->H a≠ξ)(f:NL d)(r:az P w (λa=>H a≠ξ) H' d v):KV P w C Z own H' .own d v:=by
 have nn:∀{a:θ},¬ (H a≠ξ)->H a=ξ:=λ{a} h=>aax λz=>h z;have cl:∀{a:θ},H a=ξ->Z.1 a=ξ/\¬ Wn own a/\C.H0 a=ξ:=λ{a} h=>{aax λz=>hz a z h,λz=>hd a z h,aax λz=>h0 a z h};cases d with
 |lst ds =>
  obtain⟨a,vs,rfl,e,n,q⟩:=r;exact{[a],{a,vs,[],rfl,e,rfl,hV f q},by simp,λc hc=>by rw[ZJ.mp hc];exact cl (nn n)}
 |_=>exact KV.flat f r
noncomputable def KV.kN {N:D->Prop}{P:ZN}{w:Z4}{Z:Hp×(θ->Prop)}{d:D}{v:V}{k:Kd}{K:Kd->Prop}(hk:k.wk=k)(r:az P w (av C (Wn own) k) H' d v)(ro:N d->KV P w C Z own H' .own d v)(q:kN N d k K):∃k',K k'/\KV P w C Z own H' k' d v:=by
 have rk:KV P w C Z own H' k d v:=by rw[<- hk];exact KV.of (by rw[hk];exact r)
 cases d with
 |int i=>exact{_,q,KV.flat rfl r}
 |bl i=>exact{_,q,KV.flat rfl r}
 |cf=>exact{_,q,KV.flat rfl r}
 |str i=>exact{_,q,KV.flat rfl r}
 |tup ds=>exact{_,q,rk}
 |_=>exact q.elim (λz=>{_,z.2,ro z.1}) λz=>{_,z,rk}
structure Fq (N:D->Prop):Prop where
 nl:∀d,N d->NL d
def aJ:Fq NL:={λ_ h=>h}
def af:Fq NF:={λd h=>by cases d <;> first|exact h|cases h}
def Io {a b:Kd}:(a.max b).wk=a.max b:=by cases a <;> cases b <;> rfl
def Bj (g:D->D->Option D)(N:D->Prop)(pb:Bool)(φa φb:aM):aM:=λβ R=>φa β λx ka β1=>hold ka pb/\φb β1 λy kb β2=>∃d,g x y=ν d/\kN N d (ka.max kb) λk=>R d k β2
variable {g:D->D->Option D}{N:D->Prop}
def Bj.mono (ha:PQ X C p a φa)(hb:PQ X C p' b φb):∀β R R',(∀d k β,R d k β->R' d k β)->Bj g N p' φa φb β R->Bj g N p' φa φb β R':=λβ R R' k h =>
 ha.mono β _ _ (λx ka β1 hx=>{hx.1,hb.mono β1 _ _ (λy kb β2 w9=>by obtain⟨d,e,q⟩:=w9;exact{d,e,q.mono λ_ z=>k _ _ _ z}) hx.2}) h
def wj (hn:Fq N)(ha:PQ X C p a φa)(hb:PQ X C p' b φb):∀σ H Q,tQ X C (p&&p') (Bj g N p' φa φb) σ H Q->M4 (Ci X g N) (tQ X C p φa) (tQ X C p' φb) σ H Q:=λσ H Q ⟨β,own,s,h⟩ =>
 tQ.of ha s h λd1 k1 β1 v1 H1 aC ⟨hh,h1⟩ o1 r1=>tQ.of hb o1.sq h1 λd2 k2 β2 v2 H2 ba DG o2 r2=>by
  obtain⟨d,e,q⟩:=DG;have JV:=r1.ho o2 hh;refine{av C (Wn ba) (k1.max k2),d1,d2,d,o2.sq.Er _,az.aZ df JV.rep,az.aZ fY r2.rep,e,λv H' s3 r3 n3=>?_};have o:=(o1.trans o2).same s3;obtain⟨k,q,r⟩:=KV.kN (Z:=(H,Wn own)) Io r3 (λn=>jA (H:=H2) o2.sq.AQ o2.sq.iI (λa z=>o2.sn.d a (o1.sn.d a z)) (hn.nl _ n) (n3 n)) q;exact q v H' ba o r
def aI {op:Operator}(hn:Fq N)(ho:QZ X (abT op) g N)(ha:PQ X C p a φa)(hb:PQ X C p' b φb):PQ X C (p&&p') (.BinOp a op b pos) (Bj g N p' φa φb):={Bj.mono ha hb,(dj ho ha.pe hb.pe).pre (wj hn ha hb)}
def iT {op:acW}(hn:Fq N)(ho:QZ X (aaV op) g N)(ha:PQ X C p a φa)(hb:PQ X C p' b φb)(hm:ab5 op b=η:=by first|exact t7 _ (by decide) (by decide)|rfl):PQ X C (p&&p') (.Compare a [op] [b] pos) (Bj g N p' φa φb) :=
 {Bj.mono ha hb,(yp ho ha.pe hb.pe hm).pre (wj hn ha hb)}
def aE (hn:Fq N)(ho:Jg X (Ci X g N))(ha:PQ X C p a φa)(hb:PQ X C p' b φb)(hs:mN b:=by exact λ_ _=>rfl):PQ X C (p&&p') (.Subscript a b pos) (Bj g N p' φa φb):={Bj.mono ha hb,(lG ho ha.pe hb.pe hs).pre (wj hn ha hb)}
def Ib (φ:aM):aV:=λβ R=>φ β λd k β'=>∃b,d=.bl b/\R b β'
def aD {op:acW}(hn:Fq N)(ho:QZ X (aaV op) g N)(ha:PQ X C p a φa)(hb:PQ X C p' b φb)(hm:ab5 op b=η:=by first|exact t7 _ (by decide) (by decide)|rfl):Be X C (p&&p') (.Compare a [op] [b] pos) (Ib (Bj g N p' φa φb)) :=
 ⟨λβ R R' k h=>Bj.mono ha hb β _ _ (λd kd β Lx=>by obtain⟨t,e,q⟩:=Lx;exact{t,e,k _ _ q}) h,(yd ho ha.pe hb.pe hm).pre λσ H Q ⟨β,own,s,h⟩ =>
  tQ.of ha s h λd1 k1 β1 v1 H1 aC ⟨hh,h1⟩ o1 r1=>tQ.of hb o1.sq h1 λd2 k2 β2 v2 H2 ba Lw o2 r2=>by
   obtain⟨d,e,q⟩:=Lw;have JV:=r1.ho o2 hh;refine{av C (Wn ba) (k1.max k2),d1,d2,d,o2.sq.Er _,az.aZ df JV.rep,az.aZ fY r2.rep,e,λv H' s3 r3 n3=>?_};obtain⟨k,⟨t,et,q'⟩,r⟩:=KV.kN (Z:=(H,Wn own)) Io r3 (λn=>jA (H:=H2) o2.sq.AQ o2.sq.iI (λa z=>o2.sn.d a (o1.sn.d a z)) (hn.nl _ n) (n3 n)) q;subst et;cases r3;exact{t,rfl,q' H' ba ((o1.trans o2).same s3)}⟩
def hG (ha:PQ X C p a φa)(he:∀whole,isTrue a X.env whole=(do let v <- whole;ac0 a.pos;holding [v] (truthy v)):=by intro _;rfl):Be X C p a (Ib φa) :=
 ⟨λβ R R' k h=>ha.mono β _ _ (λd kd β' Lv=>by obtain⟨b,e,q⟩:=Lv;exact{b,e,k _ _ q}) h,(J0 ha.pe he).pre λσ H Q ⟨β,own,s,h⟩=>tQ.of ha s h λd k β' v H1 aC Ls o1 r1=>by
  obtain⟨b,e,q⟩:=Ls;subst e;cases r1.rep;exact{b,rfl,q H1 aC o1}⟩
def Nr (τ:aV):aV:=λβ R=>τ β λb β'=>R (!b) β'
def rK (ha:Be X C p a τ):Be X C p (.UnaryOp .Not a pos) (Nr τ) :=
 {λβ R R' k h=>ha.mono β _ _ (λb β' q=>k _ _ q) h,(J1 ha.pt).pre λσ H Q Lr=>by obtain⟨β,own,s,h⟩:=Lr;exact iO.of ha s h λb β' H1 aC q o=>q H1 aC o}
variable {rest:List Expr}
def Nz (τa τb:aV):aV:=λβ R=>τa β λt β1=>if t=ζ then τb β1 R else R η β1
def RZ (τa τb:aV):aV:=λβ R=>τa β λt β1=>if t=ζ then R ζ β1 else τb β1 R
def jw (ha:Be X C p a τ):xB X C p (.BoolOp .And [a] pos) τ:={ha.mono,pw_and1 ha.pt}
def rJ (ha:Be X C p a τ):xB X C p (.BoolOp .Or [a] pos) τ:={ha.mono,pw_or1 ha.pt}
def ES {p q:Bool}(z:(p&&q)=ζ):p=ζ:=by cases p <;> first|rfl|cases z
def U3 {p q:Bool}(z:(p&&q)=ζ):q=ζ:=by cases p <;> first|exact z|cases z
def mq (ha:Be X C p a τa)(hb:xB X C p' (.BoolOp .And (b::rest) pos) τb):xB X C (p&&p') (.BoolOp .And (a::b::rest) pos) (Nz τa τb) :=
 ⟨λβ R R' k h=>ha.mono β _ _ (λt β1 q=>by
   cases t
   ·exact k _ _ q
   ·exact hb.mono β1 _ _ k q) h,(pw_and ha.pt hb.pw).pre λσ H Q ⟨β,own,s,h⟩=>iO.of ha s h λt β1 H1 aC q o1=>by
  cases t
  ·exact q H1 aC (o1.wk ES)
  ·exact iO.of hb.t o1.sq q λt' β2 H2 ba q2 o2=>q2 H2 ba (o1.trans o2)⟩
def wo (ha:Be X C p a τa)(hb:xB X C p' (.BoolOp .Or (b::rest) pos) τb):xB X C (p&&p') (.BoolOp .Or (a::b::rest) pos) (RZ τa τb) :=
 ⟨λβ R R' k h=>ha.mono β _ _ (λt β1 q=>by
   cases t
   ·exact hb.mono β1 _ _ k q
   ·exact k _ _ q) h,(pw_or ha.pt hb.pw).pre λσ H Q ⟨β,own,s,h⟩=>iO.of ha s h λt β1 H1 aC q o1=>by
  cases t
  ·exact iO.of hb.t o1.sq q λt' β2 H2 ba q2 o2=>q2 H2 ba (o1.trans o2)
  ·exact q H1 aC (o1.wk ES)⟩
def R7 (φa φb:aM):aM:=λβ R=>φa β λx _ β1=>∃c,x=.bl c/\if c=ζ then φb β1 R else R (.bl η) .own β1
def Xo (φa φb:aM):aM:=λβ R=>φa β λx _ β1=>∃c,x=.bl c/\if c=ζ then R (.bl ζ) .own β1 else φb β1 R
def R1 (φa:aM):aM:=λβ R=>φa β λx _ β1=>∃c,x=.bl c/\R (.bl (!c)) .own β1
def rL {op}(h:PQ X C p a φ):PQ X C p (.BoolOp op [a] pos) φ:={h.mono,J_ h.pe}
def yC {P:ZN}{w:Z4}{Z:Hp×(θ->Prop)}{b:Bool}:KV P w C Z own H .own (.bl b) (.bl b):=KV.flat (W:=λ_=>False) rfl rfl
def wt (ha:PQ X C p a φa)(hb:PQ X C p' (.BoolOp .And (b::rest) pos) φb):PQ X C (p&&p') (.BoolOp .And (a::b::rest) pos) (R7 φa φb) :=
 ⟨λβ R R' k h=>ha.mono β _ _ (λd kd β1 ⟨c,e,q⟩=>⟨c,e,by
   cases c
   ·exact k _ _ _ q
   ·exact hb.mono β1 _ _ k q⟩) h,(Kf ha.pe hb.pe).pre λσ H Q ⟨β,own,s,h⟩=>tQ.of ha s h λd kd β1 v H1 aC Lq o1 r1=>by
  obtain⟨c,e,q⟩:=Lq;subst e;cases r1.rep;refine{c,rfl,?_};cases c
  ·exact q _ H1 aC (o1.wk ES) yC
  ·exact tQ.of hb o1.sq q λd2 k2 β2 v2 H2 ba q2 o2 r2=>q2 v2 H2 ba (o1.trans o2) (r2.later o1.sn)⟩
def CA (ha:PQ X C p a φa)(hb:PQ X C p' (.BoolOp .Or (b::rest) pos) φb):PQ X C (p&&p') (.BoolOp .Or (a::b::rest) pos) (Xo φa φb) :=
 ⟨λβ R R' k h=>ha.mono β _ _ (λd kd β1 ⟨c,e,q⟩=>⟨c,e,by
   cases c
   ·exact hb.mono β1 _ _ k q
   ·exact k _ _ _ q⟩) h,(NJ ha.pe hb.pe).pre λσ H Q ⟨β,own,s,h⟩=>tQ.of ha s h λd kd β1 v H1 aC Lp o1 r1=>by
  obtain⟨c,e,q⟩:=Lp;subst e;cases r1.rep;refine{c,rfl,?_};cases c
  ·exact tQ.of hb o1.sq q λd2 k2 β2 v2 H2 ba q2 o2 r2=>q2 v2 H2 ba (o1.trans o2) (r2.later o1.sn)
  ·exact q _ H1 aC (o1.wk ES) yC⟩
def J5 (ha:PQ X C p a φa):PQ X C p (.UnaryOp .Not a pos) (R1 φa) :=
 ⟨λβ R R' k h=>ha.mono β _ _ (λd kd β1 Tw=>by obtain⟨c,e,q⟩:=Tw;exact{c,e,k _ _ _ q}) h,(Ka ha.pe).pre λσ H Q ⟨β,own,s,h⟩=>tQ.of ha s h λd kd β1 v H1 aC Ln o1 r1=>by
  obtain⟨c,e,q⟩:=Ln;subst e;cases r1.rep;exact{c,rfl,q _ H1 aC o1 yC}⟩
def Xm (g:D->Option D)(φa:aM):aM:=λβ R=>φa β λx _ β1=>∃d,g x=ν d/\d.flat=ζ/\R d .own β1
def yg {op:UnaryOp}{g:D->Option D}(ho:P7 X (unaryOp op) (Vz X g))(ha:PQ X C p a φa):PQ X C p (.UnaryOp op a pos) (Xm g φa) :=
 ⟨λβ R R' k h=>ha.mono β _ _ (λx _ β1 Tv=>by obtain⟨d,e,f,q⟩:=Tv;exact{d,e,f,k _ _ _ q}) h,(Ig ho ha.pe).pre λσ H Q ⟨β,own,s,h⟩ =>
  tQ.of ha s h λd1 k1 β1 v1 H1 aC Tu o1 r1=>by obtain⟨d,e,f,q⟩:=Tu;exact{_,d1,d,o1.sq.Er _,r1.rep,e,λv H' s2 r2=>q v H' aC (o1.same s2) (KV.flat f r2)}⟩
def R4:cX:=λβ R=>R [] [] β
def Nv (pr:Bool)(φ:aM)(φs:cX):cX:=λβ R=>φ β λd k β1=>hold k pr/\φs β1 λds ks β2=>R (d::ds) (k::ks) β2
def ae:vM X C ζ [] R4:={λβ R R' k h=>k _ _ _ h,cR.pre λσ H Q Tt=>by obtain⟨β,own,s,q⟩:=Tt;exact q [] H own (Out.refl s _) vD.nil}
def ab (ha:PQ X C p a φ)(hr:vM X C p' es φs)(hs:Z2 (a::es) X.env=(η,eval a X.env)::Z2 es X.env:=by rfl):vM X C (p&&p') (a::es) (Nv p' φ φs) :=
 ⟨λβ R R' k h=>ha.mono β _ _ (λd kd β1 q=>{q.1,hr.mono β1 _ _ (λds ks β2 q2=>k _ _ _ q2) q.2}) h,(a_ ha.pe hr.pa hs).pre λσ H Q ⟨β,own,s,h⟩ =>
  tQ.of ha s h λd1 k1 β1 v1 H1 aC Ts o1 r1=>by obtain⟨hh,h1⟩:=Ts;exact xN.of hr o1.sq h1 λds ks β2 vs H2 ba q o2 r2=>q (v1::vs) H2 ba (o1.trans o2) (vD.cons r1 o2.sn (r1.ho o2 hh) r2 o1.sn)⟩
def RX (φs:cX):aM:=λβ R=>φs β λds ks β1=>ds.length<=Z3/\Dq ks ds λk=>R (.tup ds) k β1
def R5 (φs:cX):aM:=λβ R=>φs β λds ks β1=>ds.length<=Z3/\Dq ks ds λk=>R (.lst ds) k β1
def aK.same {P:ZN}{w:Z4}{ds:List D}{vs:List V}{A:List θ}(s:au H H')(h:aK P w H ds vs A):aK P w H' ds vs A:=h.keep (λb xs e=>s _ _ e) λc _ o e=>s c o e
def KZ {P:ZN}{w:Z4}{Z:Hp×(θ->Prop)}{ks:List Kd}{ds:List D}{vs:List V}{K:Kd->Prop}{q:θ}(hq:H q=ξ)(h:vD P w C Z own H ks ds vs)(m:Dq ks ds K):∃k,K k/\KV P w C Z own (upd H q (.tup vs)) k (.tup ds) (.ref q):=by
 rcases m.of with⟨f,k⟩|k
 ·obtain⟨A,h1,h2,h3⟩:=h;exact{_,k,A,{q,vs,rfl,ao,(h1.Kg f).same (au.new hq)},h2,h3}
 ·refine{_,k,?_};rw[<- jM];exact KV.of (by rw[jM];exact{q,vs,rfl,ao,h.kg.same (au.new hq)})
def K0 {P:ZN}{w:Z4}{Z:Hp×(θ->Prop)}{ks:List Kd}{ds:List D}{vs:List V}{K:Kd->Prop}{q:θ}(hq:H q=ξ)(hd:Dm (Wn own) H)(h0:∀a,C.H0 a≠ξ->H a≠ξ)(hz:∀a,Z.1 a≠ξ->H a≠ξ)(h:vD P w C Z own H ks ds vs)(m:Dq ks ds K):∃k,K k/\KV P w C Z own (upd H q (.lst vs)) k (.lst ds) (.ref q):=by
 rcases m.of with⟨f,k⟩|k
 ·obtain⟨A,h1,h2,h3⟩:=h;refine{_,k,q::A,{q,vs,A,rfl,ao,rfl,(h1.Kg f).same (au.new hq)},aac.mpr {λz=>h1.oZ q z hq,h2},λc hc=>?_};rcases ZI.mp hc with rfl|hc
  ·exact{aax λz=>hz c z hq,λz=>hd c z hq,aax λz=>h0 c z hq}
  ·exact h3 c hc
 ·refine{_,k,?_};have nq:¬ av C (Wn own) (iW ks) q:=λz=>by
   cases e:iW ks <;> rw[e]at z <;> first|exact z.elim (λz=>hd q z hq) λz=>h0 q z hq|exact hd q z hq|exact z
  rw[<- jM];exact KV.of (by rw[jM];exact{q,vs,rfl,ao,nq,h.kg.same (au.new hq)})
def vD.length {P:ZN}{w:Z4}{Z:Hp×(θ->Prop)}{ks:List Kd}{ds:List D}{vs:List V}(h:vD P w C Z own H ks ds vs):vs.length=ds.length:=h.kg.length
def bB {x1}(h:vM X C p es φs):PQ X C p (.Tuple es x1 pos) (RX φs) :=
 ⟨λβ R R' k q=>h.mono β _ _ (λds ks β1 Tr=>by obtain⟨l,q⟩:=Tr;exact{l,q.mono λ_ z=>k _ _ _ z}) q,(wx h.pa).pre λσ H Q ⟨β,own,s,q⟩=>xN.of h s q λds ks β1 vs H1 aC ⟨l,q1⟩ o1 r1 =>
  {by rw[r1.length];exact l,λq hq=>let ⟨k,q1,r⟩:=KZ hq r1 q1;q1 _ _ aC (o1.same (au.new hq)) r}⟩
def bc (h:vM X C p es φs):PQ X C p (.List es pos) (R5 φs) :=
 ⟨λβ R R' k q=>h.mono β _ _ (λds ks β1 Tq=>by obtain⟨l,q⟩:=Tq;exact{l,q.mono λ_ z=>k _ _ _ z}) q,(wy h.pa).pre λσ H Q ⟨β,own,s,q⟩=>xN.of h s q λds ks β1 vs H1 aC ⟨l,q1⟩ o1 r1 =>
  {by rw[r1.length];exact l,λq hq=>let ⟨k,q1,r⟩:=K0 hq o1.sq.AQ o1.sq.iI (λa z=>o1.sn.d a z) r1 q1;q1 _ _ aC (o1.same (au.new hq)) r}⟩
end
section
variable {X:Cx}{C:Cfg}{a b c e:Expr}{es:List Expr}{φ φa φb:aM}{φs:cX}{pos:Pos}{σ:St}{H H':Hp}{β:a6}{own:Nat->List θ}{p:Bool}{g:D->D->Option D}{N:D->Prop}
abbrev qX:=D->Kd->aM
structure QY (X:Cx)(C:Cfg)(ops:List acW)(es:List Expr)(φ:qX):Prop where
 mono:∀x k β R R',(∀d k β,R d k β->R' d k β)->φ x k β R->φ x k β R'
 ch:Jf X ops es λx σ H Q=>∃β own d k,SQ X C σ H β own/\Rp X (av C (Wn own) k) H d x/\φ d k β λd' k' β'=>∀v H',au H H'->SQ X C σ H' β' own->KV X.prog X.w C (H,Wn own) own H' k' d' v->Q v H'
 YQ:xD X ops es λx σ H Q=>∃β own d k,SQ X C σ H β own/\Rp X (av C (Wn own) k) H d x/\φ d k β λd' k' β'=>∃b,d'=.bl b/\∀H',au H H'->SQ X C σ H' β' own->Q b H'
def Nw (g:D->D->Option D)(φb:aM):qX:=λx _ β R=>φb β λy _ β1=>∃b,g x y=ν (.bl b)/\R (.bl b) .own β1
def JZ (g:D->D->Option D)(φb:aM)(φr:qX):qX:=λx _ β R=>φb β λy ky β1=>∃k,g x y=ν (.bl k)/\if k=ζ then φr y ky β1 R else R (.bl η) .own β1
variable {op Ko:acW}{ops:List acW}{rs:List Expr}{φr:qX}
def yf (ho:bE X (aaV op) g)(hb:PQ X C ζ b φb):QY X C [op] [b] (Nw g φb) :=
 ⟨λx k β R R' h q=>hb.mono β _ _ (λy _ β1 jO=>by obtain⟨d,e,q⟩:=jO;exact{d,e,h _ _ _ q}) q,
  (Mb ho hb.pe).pre λx σ H Q ⟨β,own,d,k,s,r,h⟩=>tQ.of hb s h λd2 k2 β2 v2 H2 ba w6 o2 r2=>by
    obtain⟨d',e,q⟩:=w6;obtain⟨s2,rfl⟩:=o2.pu rfl;exact{av C (Wn ba) (k.max k2),d,d2,.bl d',o2.sq.Er _,az.aZ df (r.same s2),az.aZ fY r2.rep,e,λv H' s3 r3=>q v H' (s2.trans s3) (o2.sq.same s3) (KV.flat rfl r3)},
  (HJ ho hb.pe).pre λx σ H Q ⟨β,own,d,k,s,r,h⟩=>tQ.of hb s h λd2 k2 β2 v2 H2 ba Ha o2 r2=>by
    obtain⟨d',e,b,eb,q⟩:=Ha;obtain⟨s2,rfl⟩:=o2.pu rfl;cases eb;exact⟨av C (Wn ba) (k.max k2),d,d2,.bl d',o2.sq.Er _,az.aZ df (r.same s2),az.aZ fY r2.rep,e,λv H' s3 r3=>by
      cases r3;exact{_,rfl,q H' (s2.trans s3) (o2.sq.same s3)}⟩⟩
def jx (ho:bE X (aaV op) g)(hb:PQ X C ζ b φb)(hc:QY X C (Ko::ops) (c::rs) φr):QY X C (op::Ko::ops) (b::c::rs) (JZ g φb φr) :=
 ⟨λx k β R R' h q=>hb.mono β _ _ (λy ky β1 ⟨d,e,q⟩=>⟨d,e,by
   cases d
   ·exact h _ _ _ q
   ·exact hc.mono y ky β1 _ _ h q⟩) q,
  (HL ho hb.pe hc.ch).pre λx σ H Q ⟨β,own,d,k,s,r,h⟩=>tQ.of hb s h λd2 k2 β2 v2 H2 ba Ll o2 r2=>by
    obtain⟨t,e,q⟩:=Ll;obtain⟨s2,rfl⟩:=o2.pu rfl;refine{av C (Wn ba) (k.max k2),d,d2,.bl t,o2.sq.Er _,az.aZ df (r.same s2),az.aZ fY r2.rep,e,λv H' s3 r3=>?_};cases r3;refine{t,rfl,?_};cases t
    · exact q _ H' (s2.trans s3) (o2.sq.same s3) yC
    · exact{β2,ba,d2,k2,o2.sq.same s3,r2.rep.same s3,hc.mono d2 k2 β2 _ _ (λd' k' β' q' v EY s4 sq r4=>q' v EY ((s2.trans s3).trans s4) sq (r4.later ((o2.same s3).sn))) q},
  (EF ho hb.pe hc.YQ).pre λx σ H Q ⟨β,own,d,k,s,r,h⟩=>tQ.of hb s h λd2 k2 β2 v2 H2 ba sd o2 r2=>by
    obtain⟨t,e,q⟩:=sd;obtain⟨s2,rfl⟩:=o2.pu rfl;refine{av C (Wn ba) (k.max k2),d,d2,.bl t,o2.sq.Er _,az.aZ df (r.same s2),az.aZ fY r2.rep,e,λv H' s3 r3=>?_};cases r3;refine{t,rfl,?_};cases t
    · obtain⟨b,eb,q⟩:=q;cases eb;exact q H' (s2.trans s3) (o2.sq.same s3)
    · exact{β2,ba,d2,k2,o2.sq.same s3,r2.rep.same s3,hc.mono d2 k2 β2 _ _ (λd' k' β' w9=>by obtain⟨b,eb,q'⟩:=w9;exact{b,eb,λEY s4 sq=>q' EY ((s2.trans s3).trans s4) sq}) q}⟩
def Cm (φa:aM)(φr:qX):aM:=λβ R=>φa β λx k β1=>φr x k β1 R
def tO {nF nE:acW}(ha:PQ X C ζ a φa)(hc:QY X C (nF::nE::ops) (b::c::rs) φr)(hm:lastMarks (nF::nE::ops) (b::c::rs)=η:=by with_unfolding_all rfl):
  PQ X C ζ (.Compare a (nF::nE::ops) (b::c::rs) pos) (Cm φa φr) :=
 ⟨λβ R R' k h=>ha.mono β _ _ (λx kx β1 q=>hc.mono x kx β1 _ _ k q) h,(zZ ha.pe hc.ch hm).pre λσ H Q ⟨β,own,s,h⟩=>tQ.of ha s h λd k β1 v H1 aC q o1 r1=>by
  obtain⟨s1,rfl⟩:=o1.pu rfl;exact{β1,aC,d,k,o1.sq,r1.rep,hc.mono d k β1 _ _ (λd' k' β' q' v EY s4 sq r4=>q' v EY aC {sq,o1.sn.same s4,λ_=>{s1.trans s4,rfl},o1.le} (r4.later o1.sn)) q}⟩
abbrev EX:=a6->(Option Int->a6->Prop)->Prop
structure QW (X:Cx)(C:Cfg)(e:Option Expr)(φ:EX):Prop where
 mono:∀β R R',(∀d β,R d β->R' d β)->φ β R->φ β R'
 po:PO X e λσ H Q=>∃β own,SQ X C σ H β own/\φ β λo β'=>∀H',au H H'->SQ X C σ H' β' own->Q o H'
def Cz:QW X C ξ (λβ R=>R ξ β):={λβ R R' k h=>k _ _ h,yi.pre λσ H Q DF=>by obtain⟨β,own,s,q⟩:=DF;exact q H (au.refl _) s}
def Cy (ha:PQ X C ζ a φ):QW X C (ν a) (λβ R=>φ β λd _ β1=>∃i,d=.int i/\R (ν i) β1) :=
 ⟨λβ R R' k h=>ha.mono β _ _ (λd _ β1 DE=>by obtain⟨i,e,q⟩:=DE;exact{i,e,k _ _ q}) h,(yh ha.pe).pre λσ H Q ⟨β,own,s,h⟩=>tQ.of ha s h λd k β1 v H1 aC Lv o1 r1=>by
  obtain⟨i,e,q⟩:=Lv;subst e;cases r1.rep;obtain⟨s1,rfl⟩:=o1.pu rfl;exact{i,rfl,q H1 s1 o1.sq}⟩
def Xn (φ:aM)(φl φh:EX):aM:=λβ R=>φ β λx k β1=>φl β1 λl β2=>φh β2 λh β3=>∃d,WA x l h=ν d/\kN NL d k.wk λk'=>R d k' β3
def H4 {k:Kd}:k.wk.wk=k.wk:=by cases k <;> rfl
def EO {W:θ->Prop}{k:Kd}:∀c,av C W k.wk c->av C W k c:=λc h=>by cases k <;> exact h
def NG {lo hi:Option Expr}{φl φh:EX}{p2:Pos}(ha:PQ X C p a φ)(hl:QW X C lo φl)(hh:QW X C hi φh):PQ X C p (.Subscript a (.Slice lo hi ξ p2) pos) (Xn φ φl φh) :=
 ⟨λβ R R' k h=>ha.mono β _ _ (λx kx β1 q=>hl.mono β1 _ _ (λl β2 q=>hh.mono β2 _ _ (λu β3 Lu=>by obtain⟨d,e,q⟩:=Lu;exact{d,e,q.mono λ_ z=>k _ _ _ z}) q) q) h,
  (tR FN ha.pe hl.po hh.po).pre λσ H Q ⟨β,own,s,h⟩=>tQ.of ha s h λd k β1 v H1 aC q o1 r1 =>
    ⟨β1,aC,o1.sq,hl.mono β1 _ _ (λl β2 q H2 s2 Xa=>⟨β2,aC,Xa,hh.mono β2 _ _ (λu β3 Lr H3 s3 Qr=>by
      obtain⟨d',e,q⟩:=Lr;refine{av C (Wn aC) k.wk,d,d',Qr.Er _,((az.aZ EO r1.rep).same s2).same s3,e,λv H' s4 r4 n4=>?_};obtain⟨k',q,r⟩:=KV.kN (Z:=(H,Wn own)) H4 r4 (λn=>jA (H:=H3) Qr.AQ Qr.iI (λa z e=>o1.sn.d a z (s2.free (s3.free e))) n (n4 n)) q;exact q v H' aC {Qr.same s4,o1.sn.same ((s2.trans s3).trans s4),λz=>{(o1.pu z).1.trans ((s2.trans s3).trans s4),(o1.pu z).2},o1.le} r) q⟩) q⟩⟩
def Nl (X:Cx)(f:List D->Option D)(N:D->Prop):List V->Hp->VK->Prop:=λxs H Q=>∃W ds d,Dm W H/\i9 X W H ds xs/\f ds=ν d/\∀v H',au H H'->Rp X W H' d v->(N d->Rp X (λa=>H a≠ξ) H' d v)->Q v H'
abbrev EZ (X:Cx)(f:ZF)(g:List D->Option D)(N:D->Prop):Prop:=eS X f (Nl X g N)
def bO.m {f:ZF}{g:List D->Option D}(h:bO X f g):EZ X f g NF:=λμ s σ H xs us Q I r ⟨W,ds,d,hd,r1,e,q⟩ =>
 h μ s σ H xs us Q I r {W,ds,d,hd,r1,e,λv H' s r=>q v H' s r λf=>az.flat f r}
def lC (g:List D->Option D)(N:D->Prop)(φs:cX):aM:=λβ R=>φs β λds ks β1=>∃d,g ds=ν d/\kN N d (iW ks) λk=>R d k β1
variable {x:Str}{pp:Pos}{id T:String}{gs:List D->Option D}
def lC.mono (h:vM X C p es φs):∀β R R',(∀d k β,R d k β->R' d k β)->lC gs N φs β R->lC gs N φs β R':=λβ R R' k q=>h.mono β _ _ (λds ks β1 TF=>by obtain⟨d,e,q⟩:=TF;exact{d,e,q.mono λ_ z=>k _ _ _ z}) q
def tK (hn:Fq N)(h:vM X C p es φs):∀σ H Q,tQ X C p (lC gs N φs) σ H Q->Qo (Nl X gs N) (xN X C p φs) σ H Q:=λσ H Q ⟨β,own,s,q⟩=>xN.of h s q λds ks β1 vs H1 aC TB o1 r1=>by
 obtain⟨d,e,q1⟩:=TB;refine{av C (Wn aC) (iW ks),ds,d,o1.sq.Er _,r1.kg,e,λv H' s2 r2 n2=>?_};obtain⟨k',q,r⟩:=KV.kN (Z:=(H,Wn own)) jM r2 (λn=>jA (H:=H1) o1.sq.AQ o1.sq.iI (λa z=>o1.sn.d a z) (hn.nl _ n) (n2 n)) q1;exact q v H' aC (o1.same s2) r
def bf (Hd:Fq N)(hc:EZ X (.builtin id) gs N)(hm:X.mg x=ξ)(hv:aaF x=ν (.builtin id))(ha:vM X C p (e::es) φs)(hg:Gl X x:=by rfl)(hn:x≠"__name__" := by decide)(hdb:(x==("__debug__" : Str))=η:=by decide)
  (n_:Z2 (e::es) X.env=(η,eval e X.env)::Z2 es X.env:=by rfl) (hpl:(abI pos (Z2 es X.env)).any (·.1)=η:=by rfl) :
  PQ X C p (.Call (.Name x pp) (e::es) [] pos) (lC gs N φs):={lC.mono ha,(jy hc hg hm hv ha.pa hn hdb (he:=n_) (hpl:=hpl)).pre (tK Hd ha)}
def kn (Hd:Fq N)(hc:EZ X (.type T) gs N)(hm:X.mg x=ξ)(hv:aaF x=ν (.type T))(ha:vM X C p (e::es) φs)(hg:Gl X x:=by rfl)(hn:x≠"__name__" := by decide)(hdb:(x==("__debug__" : Str))=η:=by decide)
  (n_:Z2 (e::es) X.env=(η,eval e X.env)::Z2 es X.env:=by rfl) (hpl:(abI pos (Z2 es X.env)).any (·.1)=η:=by rfl) :
  PQ X C p (.Call (.Name x pp) (e::es) [] pos) (lC gs N φs):={lC.mono ha,(qe hc hg hm hv ha.pa hn hdb (he:=n_) (hpl:=hpl)).pre (tK Hd ha)}
end
def vC (P:ZN)(w:Z4)(ro:Bool)(H H':Hp)(d:D)(v:V):Prop:=match ro with
 |true=>∃A,Own P w H' d v A/\A.Nodup/\∀c∈A,H c=ξ
 |false=>az P w (λa=>H a≠ξ) H' d v
abbrev rk (ro:Bool):Kd:=match ro with|true=>.own|false=>.d9
def eT (P:ZN)(w:Z4)(ro:Bool)(F:FD):Sp:=λvs H Q _=>∃ds,ai P w (λ_=>False) H ds vs/\F ds λd=>∀v H',au H H'->vC P w ro H H' d v->Q v H'
def j8 (P:ZN)(w:Z4)(ok:List Int->Prop)(ro:Bool)(F:FD):Sp:=λvs H Q _=>∃h vs' ds ns,vs=.ref h::vs'/\H h=ν (.lst (ns.map V.int))/\ok ns/\ai P w (λa=>a=h) H ds vs' /\
 F ds λd=>∀v H' qg,Kp (·=h) H H'->(∀c,H c≠ξ->H' c≠ξ)->H' h=ν (.lst (qg.map V.int))->ok qg->vC P w ro H H' d v->Q v H'
section
variable {X:Cx}{C:Cfg}{k ih:Nat}{f:θ}{fd:aaD}{ps:List Str}{F:FD}{ro p:Bool}{x hx:Str}{pp pos px:Pos}{e:Expr}{es:List Expr}{φs:cX}{ok:List Int->Prop}{σ:St}{H H':Hp}{β:a6}{own:Nat->List θ}{P:ZN}{w:Z4}
def vC.kv {Z:Hp×(θ->Prop)}{d:D}{v:V}(hd:Dm (Wn own) H)(h0:∀a,C.H0 a≠ξ->H a≠ξ)(hz:∀a,Z.1 a≠ξ->H a≠ξ)(h:vC P w ro H H' d v):KV P w C Z own H' (rk ro) d v:=by
 cases ro with
 |true =>
  obtain⟨A,h1,h2,h3⟩:=h;exact{A,h1,h2,λc hc=>{aax λz=>hz c z (h3 c hc),λz=>hd c z (h3 c hc),aax λz=>h0 c z (h3 c hc)}}
 |false=>exact az.aZ (λa z=>z.elim (hd a) (h0 a)) h
def RY (ro:Bool)(F:FD)(φs:cX):aM:=λβ R=>φs β λds _ β1=>F ds λd=>R d (rk ro) β1
def aW (mF:dy F)(G:aO X.prog X.w X.K X.mg X.base cg k f fd ps (eT X.prog X.w ro F))(hr:c6 k X.A)(hm:X.mg x=ν (.ref f))(hk:υ X.K (.ref f)=ζ)(hb:Binds X.K fd ps [])(ha:vM X C p (e::es) φs)(hg:Gl X x:=by rfl)
  (hdb:(x==("__debug__" : Str))=η:=by decide)
  (n_:Z2 (e::es) X.env=(η,eval e X.env)::Z2 es X.env:=by rfl) (hpl:(abI pos (Z2 es X.env)).any (·.1)=η:=by rfl) :
  PQ X C p (.Call (.Name x pp) (e::es) [] pos) (RY ro F φs) :=
 ⟨λβ R R' k h=>ha.mono β _ _ (λds ks β1 q=>mF ds _ _ (λd q=>k _ _ _ q) q) h,(yq G hr hg hm hk hb .nil Ii ha.pa (hdb:=hdb) (he:=n_) (hpl:=hpl)).pre λσ H Q ⟨β,own,s,h⟩=>xN.of ha s h λds ks β1 vs H1 aC q o1 r1=>by
  rw[aaw];exact{ds,r1.bor,mF ds _ _ (λd q2 v H' s2 r2=>q2 v H' aC (o1.same s2) (r2.kv o1.sq.AQ o1.sq.iI λa z=>o1.sn.d a z)) q}⟩
def cu.drawn {i:Nat}{h:θ}{qg:List Int}(b:cu P w C σ H β own)(e:β[i]?=ν (ν (.hand ok)))(hσ:σ[i]?=ν (ν (.ref h)))(k:Kp (·=h) H H')(e':H' h=ν (.lst (qg.map V.int)))(o':ok qg)(dn:∀c,H c≠ξ->H' c≠ξ):cu P w C σ H' β own:=by
 obtain⟨a,ns,h1,h2,h3,h4,h5⟩:=b.pD i ok e;rw[hσ]at h1;cases h1;have wh:Wn own h:={i,by rw[h4];simp}
 have kW:∀y,Kp (gk C (Wn own) (yk y)) H H':=λy=>k.mono λc z=>by rw[z];cases y <;> first|exact .inl wh|exact .inl (.inl wh)
 have ne:∀j,j≠i->∀c∈own j,c≠h:=λj hj c hc z=>hj (b.mJ j i c hc (by rw[h4,z];simp))
 refine⟨b.len,λj y d e=>let ⟨v,g1,g2⟩:=b.val j y d e;{v,g1,g2.keep (kW y)},λj d ej=>?_,λj Bk ej=>?_,λj c hc=>?_,b.mJ,b.lV,{λc o z n=>?_,λc xs z=>k.tup c xs (b.kp.tup c xs z)},λc z=>dn c (b.iI c z),λj y d ej=>by
  obtain⟨v,g1,g2,g3⟩:=b.shl j y d ej;have hj:j≠i:=λz=>by rw[z,e]at ej;cases ej
  exact{v,g1,g2.map (λc hc o eo=>k.out c o eo (ne j hj c hc)) (λ_ _ r=>r.keep (kW ζ)),g3}⟩
 ·obtain⟨v,g1,g2,g3⟩:=b.ow j d ej;have hj:j≠i:=λz=>by rw[z,e]at ej;cases ej
  exact{v,g1,g2.keep k.tup (λc hc o eo=>k.out c o eo (ne j hj c hc)),g3}
 ·by_cases hj:j=i
  ·subst hj;rw[e]at ej;cases ej;exact{(h),qg,hσ,e',o',h4,h5}
  ·obtain⟨a,ms,g1,g2,g3,g4,g5⟩:=b.pD j Bk ej;exact{a,ms,g1,k.out a _ g2 (ne j hj a (by rw[g4];simp)),g3,g4,g5}
 ·obtain⟨g1,g2,g3⟩:=b.dm j c hc
  by_cases uH:c=h
  ·rw[uH,e'];rw[uH]at g3;exact{λz=>(nomatch z),λxs z=>(by cases z),g3}
  ·cases q:H c with
   |none=>exact Η q g1
   |some o=>rw[k.out c o q uH];exact{λz=>(nomatch z),λxs z=>g2 xs (by rw[q];exact z),g3}
 ·refine k.out c o (b.kp.out c o z n) λq=>?_;subst q;rcases (b.dm i c (by rw[h4];simp)).2.2.1 with z0|z0
  ·rw[z0]at z;cases z
  ·exact n z0
def Nu (ih:Nat)(ok:List Int->Prop)(ro:Bool)(F:FD)(φs:cX):aM:=λβ R=>β[ih]?=ν (ν (.hand ok))/\φs β λds ks β1=>β1[ih]?=ν (ν (.hand ok))/\hold (iW ks) η/\F ds λd=>R d (rk ro) β1
def bV (mF:dy F)(G:aO X.prog X.w X.K X.mg X.base cg k f fd ps (j8 X.prog X.w ok ro F))(hr:c6 k X.A)(hm:X.mg x=ν (.ref f))(hk:υ X.K (.ref f)=ζ)(hb:Binds X.K fd ps [])(ha:vM X C p es φs)(hn:Nm X ih hx:=by exact wG)(hg:Gl X x:=by rfl)(hdb:(x==("__debug__" : Str))=η:=by decide)
  (n_:Z2 (.Name hx px::es) X.env=(η,eval (.Name hx px) X.env)::Z2 es X.env:=by rfl) (hpl:(abI pos (Z2 es X.env)).any (·.1)=η:=by rfl) :
  PQ X C η (.Call (.Name x pp) (.Name hx px::es) [] pos) (Nu ih ok ro F φs) :=
 ⟨λβ R R' k Tz=>by obtain⟨e,h⟩:=Tz;exact{e,ha.mono β _ _ (λds ks β1 Tx=>by obtain⟨e,hh,q⟩:=Tx;exact{e,hh,mF ds _ _ (λd q=>k _ _ _ q) q}) h},
  (yq G hr hg hm hk hb .nil Ii (a_ (eE (pos:=px) hn) ha.pa n_) (hdb:=hdb) (he:=n_) (hpl:=hpl)).pre λσ H Q Lp=>by
  obtain⟨β,own,s,e,h⟩:=Lp;obtain⟨hh,ns,h1,h2,h3,h4⟩:=s.pD ih ok e;refine{.ref hh,h1,xN.of ha s h λds ks β1 vs H1 aC fA o1 r1=>?_};obtain⟨e1,ho,q⟩:=fA;obtain⟨Zs,Xw,g1,g2,g3,g4,g5⟩:=o1.sq.pD ih ok e1;rw[h1]at g1;cases g1;have wh:Wn aC hh:={ih,by rw[g4];simp}
  rw[aaw];refine{hh,vs,ds,Xw,rfl,g2,g3,ai.aZ (λa z=>?_) r1.kg,mF ds _ _ (λd q v H' qg kp dn e' Bk r=>?_) q}
  ·subst z;cases hk:iW ks with
   |own=>exact .inl wh
   |d9=>exact .inl wh
   |old=>exact wh
   |bor=>rw[hk]at ho;exact ho.elim
  ·exact q v H' aC {o1.sq.drawn e1 h1 kp e' Bk dn,o1.sn.kp (kp.mono λb z=>by rw[z];exact wh) dn,λz=>(nomatch z),o1.le} (r.kv o1.sq.AQ o1.sq.iI λa z=>o1.sn.d a z)⟩
end
abbrev Cfg.z (C:Cfg):Cfg:=C.u λ_=>False
def SB (X:Cx)(C:Cfg)(Z:Hp×(θ->Prop))(σ:St)(H:Hp)(β:a6):Prop:=∃own,SQ X C.z σ H β own/\Sn Z H (Wn own)
structure dB where
 nx:a6->Prop
 rt:D->a6->Prop
 bk:a6->Prop:=λ_=>False
 ct:a6->Prop:=λ_=>False
def dB.up (E:dB)(n:a6->Prop):dB:={(n),E.rt,E.bk,E.ct}
def dB.lp (E:dB)(n:a6->Prop):dB:={(n),E.rt,E.nx,n}
structure Za (X:Cx)(C:Cfg)(Z:Hp×(θ->Prop))(E:dB)(D:Ends):Prop where
 nx:∀σ H β,SB X C Z σ H β->E.nx β->D.nx σ H
 rt:∀σ H β d v,SB X C Z σ H β->vC X.prog X.w C.ro C.H0 H d v->E.rt d β->D.rt v H
 bk:∀σ H β,SB X C Z σ H β->E.bk β->D.bk σ H
 ct:∀σ H β,SB X C Z σ H β->E.ct β->D.ct σ H
structure Le (E E':dB):Prop where
 nx:∀β,E.nx β->E'.nx β
 rt:∀d β,E.rt d β->E'.rt d β
 bk:∀β,E.bk β->E'.bk β
 ct:∀β,E.ct β->E'.ct β
abbrev HX:=dB->a6->Prop
def ap (ψ:HX)(E:dB)(β:a6):Prop:=ψ E β
def eN (R:D->Prop):dB:={nx:=λ_=>R .cf,rt:=λd _=>R d}
def eH (ok:List Int->Prop)(R:D->Prop):dB:={nx:=λ_=>False,rt:=λd β=>β[0]?=ν (ν (.hand ok))/\R d}
def Vp (X:Cx)(C:Cfg)(ψ:HX):TS:=λD σ H=>∃Z E β,SB X C Z σ H β/\ψ E β/\Za X C Z E D
structure PB (X:Cx)(C:Cfg)(st:Stmt)(ψ:HX):Prop where
 mono:∀E E' β,Le E E'->ψ E β->ψ E' β
 ps:PS X st (Vp X C ψ)
structure zr (X:Cx)(C:Cfg)(st:List Stmt)(ψ:HX):Prop where
 mono:∀E E' β,Le E E'->ψ E β->ψ E' β
 ps:vL X st (Vp X C ψ)
section
variable {X:Cx}{C:Cfg}{st:Stmt}{rest a b:List Stmt}{ψ ψ1 ψ2:HX}{Z:Hp×(θ->Prop)}{σ:St}{H H':Hp}{β β':a6}{pos pos':Pos}{e c:Expr}{φ:aM}{τ:aV}{p:Bool}{own aR:Nat->List θ}{i:Nat}{x:Str}
def Out.sb (n:Sn Z H (Wn own))(o:Out X C.z σ H own p β' H' aR):SB X C Z σ H' β':={aR,o.sq,n.trans o.sn}
def a7:zr X C [] (λE β=>E.nx β):={λE E' β l h=>l.nx β h,ye.pre λD σ H jO=>by obtain⟨Z,E,β,sb,h,ok⟩:=jO;exact ok.nx σ H β sb h}
def ah (h1:PB X C st ψ1)(h2:zr X C rest ψ2):zr X C (st::rest) (λE β=>ψ1 (E.up (ap ψ2 E)) β) :=
 ⟨λE E' β l h=>h1.mono {E with nx:=ψ2 E} {E' with nx:=ψ2 E'} β {λβ' q=>h2.mono E E' β' l q,l.rt,l.bk,l.ct} h,(eD h1.ps h2.ps).pre λD σ H ⟨Z,E,β,sb,h,ok⟩ =>
  {Z,{E with nx:=ψ2 E},β,sb,h,{λσ' H' β' FU h'=>{(Z),E,β',FU,h',ok},ok.rt,ok.bk,ok.ct}}⟩
def ak (h1:PB X C st ψ):zr X C [st] ψ:={h1.mono,js h1.ps}
def dc (h1:PB X C st ψ1)(h2:zr X C rest ψ2):zr X C (st::rest) (λE β=>∃J:a6->Prop,ψ1 (E.up J) β/\∀β',J β'->ap ψ2 E β') :=
 ⟨λE E' β l w6=>by obtain⟨J,h,k⟩:=w6;exact{J,h1.mono {E with nx:=J} {E' with nx:=J} β {λ_ q=>q,l.rt,l.bk,l.ct} h,λβ' q=>h2.mono E E' β' l (k β' q)},(eD h1.ps h2.ps).pre λD σ H ⟨Z,E,β,sb,⟨J,h,k⟩,ok⟩ =>
  {Z,{E with nx:=J},β,sb,h,{λσ' H' β' FU h'=>{Z,E,β',FU,k β' h',ok},ok.rt,ok.bk,ok.ct}}⟩
def b9 (hc:Be X C.z p c τ)(ha:zr X C a ψ1)(hb:zr X C b ψ2):PB X C (.If c a b pos) (λE β=>τ β λt β'=>if t=ζ then ap ψ1 E β' else ap ψ2 E β') :=
 ⟨λE E' β l h=>hc.mono _ _ _ (λt β' q=>by
   cases t
   ·exact hb.mono E E' β' l q
   ·exact ha.mono E E' β' l q) h,(Ic hc.pt ha.ps hb.ps).pre λD σ H Lk=>by
  obtain⟨Z,E,β,⟨own,s,n⟩,h,ok⟩:=Lk;refine iO.of hc s h λt β' H1 aC q o1=>?_;cases t
  ·exact{Z,E,β',o1.sb n,q,ok}
  ·exact{Z,E,β',o1.sb n,q,ok}⟩
abbrev Iy (d:D)(k:Kd)(K:B->Prop):Prop:=match k with
 |.own=>K (.val ζ d)
 |.d9=>K (.val ζ d)
 |.old=>K (.val η d)
 |.bor=>d.flat=ζ/\K (.val ζ d)
def Iy.mono {d:D}{k:Kd}{K K':B->Prop}(h:∀b,K b->K' b)(q:Iy d k K):Iy d k K':=by
 cases k <;> first|exact h _ q|exact⟨q.1,h _ q.2⟩
def Iy.of {P:ZN}{w:Z4}{d:D}{v:V}{k:Kd}{K:B->Prop}(r:KV P w C Z own H k d v)(q:Iy d k K):∃y,K (.val y d)/\az P w (av C (Wn own) (yk y)) H d v:=by
 cases k with
 |own=>exact{(ζ),q,r.d9}
 |d9=>exact{(ζ),q,r}
 |old=>exact{(η),q,r}
 |bor=>exact{ζ,q.2,az.flat q.1 r}
def wb {own:Nat->List θ}{i:Nat}(n:Sn Z H (Wn own)):Sn Z H (Wn (aU own i [])):={λb z=>n.w b (fb z),n.k,n.d}
def a5 (he:PQ X C.z p e φ)(hN:X.N.Nodup)(hi:X.N[i]?=ν x:=by rfl)(hx:Loc X.env.scope x:=by first|exact .inl rfl|exact .inr rfl)
  (hs:ab4 e (ν (.Name x pos')) pos.line X.env=pure η:=by rfl) (hf:X.fn x=ζ\/X.env.scope.names.lookup x=ν .local:=by first|exact .inl rfl|exact .inr rfl|assumption) :
  PB X C (.Assign [.Name x pos'] e pos) (λE β=>φ β λd k β'=>Iy d k λb=>E.nx (β'.set i (ν b))) :=
 ⟨λE E' β l q=>he.mono _ _ _ (λd k β' q=>q.mono λ_=>l.nx _) q,(wm hN hi hx he.pe hs hf).pre λD σ H ⟨Z,E,β,⟨own,s,n⟩,q,ok⟩=>tQ.of he s q λd k β' v H' aR q o r=>by
  obtain⟨y,q,r⟩:=q.of r;exact ok.nx _ _ _ {_,o.sq.fG (az.aZ (λa z=>z.elim id λz=>z.elim) r),wb (n.trans o.sn)} q⟩
abbrev Fb (k:Kd)(d:D):Prop:=match k with
 |.own=>True
 |_=>d.flat=ζ
def KV.fl {P:ZN}{w:Z4}{d:D}{v:V}{k:Kd}(f:Fb k d)(r:KV P w C Z own H k d v):KV P w C Z own H .own d v:=by
 cases k with
 |own=>exact r
 |d9=>exact KV.flat f r.rep
 |old=>exact KV.flat f r.rep
 |bor=>exact KV.flat f r.rep
def bW (he:∀U,PQ X (C.u U) p e φ)(hN:X.N.Nodup)(hi:X.N[i]?=ν x:=by rfl)(hx:Loc X.env.scope x:=by first|exact .inl rfl|exact .inr rfl)
  (hs:ab4 e (ν (.Name x pos')) pos.line X.env=pure η:=by rfl) (hf:X.fn x=ζ\/X.env.scope.names.lookup x=ν .local:=by first|exact .inl rfl|exact .inr rfl|assumption) :
  PB X C (.Assign [.Name x pos'] e pos) (λE β=>φ β λd k β'=>Fb k d/\E.nx (β'.set i (ν (.own d)))) :=
 ⟨λE E' β l q=>(he λ_=>False).mono _ _ _ (λd k β' q=>{q.1,l.nx _ q.2}) q,λμ s σ H D I ⟨Z,E,β,⟨own,sq,n⟩,q,ok⟩ =>
  wm hN hi hx (he λa=>H a=ξ).pe hs hf μ s σ H D I (tQ.of (he λa=>H a=ξ) (sq.mQ (C:=C.z) (U:=λa=>H a=ξ) λa z=>z) q λd k β' v H' aR Ly o r=>by
   obtain⟨f,q⟩:=Ly;obtain⟨A,h1,h2,h3⟩:=r.fl f;refine ok.nx _ _ _ {_,o.sq.Ca h1 h2 λc hc=>{(h3 c hc).2.2,(h3 c hc).2.1,(h3 c hc).1},?_} q;have m:=n.trans o.sn;exact⟨λb TJ=>by
    obtain⟨j,hj⟩:=TJ
    by_cases aG:i=j
    ·rw[<- aG,os_eq]at hj;exact .inr (n.free (h3 b hj).1)
    ·rw[bM aG]at hj;exact m.w b {(j),hj},m.k,m.d⟩)⟩
def cu.NA {P:ZN}{w:Z4}{U U2:θ->Prop}{d d':D}{v:V}{A':List θ}{c:θ}{o:HO}(b:cu P w (C.u U) σ H β own)(e:β[i]?=ν (ν (.own d)))(hσ:σ[i]?=ν (ν v))(hc:c∈own i)
  (r:Own P w (upd H c o) d' v A') (nd:A'.Nodup) (hA:∀a∈A',a∈own i\/(C.H0 a=ξ/\¬ Wn own a/\U a)) (hU:∀a,U2 a->U a) (UD:∀a∈A',¬ U2 a):cu P w (C.u U2) σ (upd H c o) (β.set i (ν (.own d'))) (aU own i A'):=by
 obtain⟨g1,g2,g3,g4⟩:=b.dm i c hc;obtain⟨oc,LA⟩:∃oc,H c=ν oc:=by
  cases q:H c with
  |none=>exact Η q g1
  |some oc=>exact{(oc),rfl}
 have ht:∀xs,oc≠.tup xs:=λxs z=>g2 xs (by rw[LA,z])
 have k:Kp (·=c) H (upd H c o):=kK LA ht;have h0:∀a∈own i,C.H0 a=ξ:=by obtain⟨_,_,_,h⟩:=b.ow i d e;exact h
 have wc:Wn own c:={(i),hc};have sub:∀y a,gk (C.u U2) (Wn (aU own i A')) (yk y) a->gk (C.u U) (Wn own) (yk y) a:=λy a h=>by
  have q:∀a,Wn (aU own i A') a->Wn own a\/U a:=λa DG=>by
   obtain⟨j,q⟩:=DG
   by_cases aG:i=j
   ·rw[aG,os_eq]at q;rcases hA a q with z|z
    ·exact .inl {(i),z}
    ·exact .inr z.2.2
   ·rw[bM aG]at q;exact .inl {(j),q}
  rcases h with h|h
  ·cases y with
   |true=>exact h.elim (λz=>(q a z).imp .inl id) λz=>.inl (.inr z)
   |false=>exact q a h
  ·exact .inr (hU a h)
 have mem:∀{j c},c∈aU own i A' j->(i=j/\c∈A')\/(i≠j/\c∈own j):=λ{j c} h=>by
  by_cases aG:i=j
  ·subst aG;rw[os_eq]at h;exact .inl {(rfl),h}
  ·rw[bM aG]at h;exact .inr {(aG),h}
 have Qx:∀j,i≠j->∀a∈own j,a≠c:=λj aG a ha z=>aG (b.mJ i j c hc (by rw[<- z];exact ha))
 refine⟨by simp[b.len],λj y' d2 e2=>?_,λj d2 e2=>?_,λj ok e2=>?_,λj a h=>?_,λj k2 a h1 h2=>?_,λj=>?_,{λa oa z n=>?_,λa xs z=>k.tup a xs (b.kp.tup a xs z)},λa z=>?_,λj y' d2 e2=>by
  by_cases aG:i=j
  ·subst aG;obtain⟨e',hl⟩:=bH e2;cases e'
  ·rw[bu aG]at e2;rw[bM aG];obtain⟨u,h1,h2,h3⟩:=b.shl j y' d2 e2;exact{u,h1,h2.map (λa ha oa ea=>k.out a oa ea (Qx j aG a ha)) (λ_ _ r=>ai.aZ (sub _) (r.keep (k.mono λa z=>by rw[z];cases y' <;> first|exact .inl wc|exact .inl (.inl wc)))),h3}⟩
 ·by_cases aG:i=j
  ·subst aG;obtain⟨e',hl⟩:=bH e2;cases e'
  ·rw[bu aG]at e2;obtain⟨u,h1,h2⟩:=b.val j y' d2 e2;exact{u,h1,(h2.keep (k.mono λa z=>by rw[z];cases y' <;> first|exact .inl wc|exact .inl (.inl wc))).aZ (sub _)}
 ·by_cases aG:i=j
  ·subst aG;obtain⟨e',hl⟩:=bH e2;cases e';rw[os_eq];exact{v,hσ,r,λa ha=>(hA a ha).elim (h0 a) λz=>z.1}
  ·rw[bu aG]at e2;rw[bM aG];obtain⟨u,h1,h2,h3⟩:=b.ow j d2 e2;exact{u,h1,h2.keep k.tup (λa ha oa ea=>k.out a oa ea (Qx j aG a ha)),h3}
 ·by_cases aG:i=j
  ·subst aG;obtain⟨e',hl⟩:=bH e2;cases e'
  ·rw[bu aG]at e2;rw[bM aG];obtain⟨a,ns,h1,h2,h3,h4,h5⟩:=b.pD j ok e2;exact{a,ns,h1,k.out a _ h2 (Qx j aG a (by rw[h4];simp)),h3,h4,h5}
 ·rcases mem h with⟨_,h⟩|⟨aG,h⟩
  ·exact{(r.oZ a h).1,(r.oZ a h).2,.inl ((hA a h).elim (h0 a) λz=>z.1),UD a h}
  ·obtain⟨q1,q2,q3,q4⟩:=b.dm j a h;rw[aw (Qx j aG a h)];exact{q1,q2,q3,λz=>q4 (hU a z)}
 ·rcases mem h1 with⟨e1,h1⟩|⟨n1,h1⟩
  ·rcases mem h2 with⟨e2,h2⟩|⟨n2,h2⟩
   ·rw[<- e1,<- e2]
   ·rcases hA a h1 with z|z
    ·exact Η (b.mJ i k2 a z h2) n2
    ·exact Η {(k2),h2} z.2.1
  ·rcases mem h2 with⟨e2,h2⟩|⟨n2,h2⟩
   ·rcases hA a h2 with z|z
    ·exact Η (b.mJ i j a z h1) n1
    ·exact Η {(j),h1} z.2.1
   ·exact b.mJ j k2 a h1 h2
 ·by_cases aG:i=j
  ·rw[<- aG,os_eq];exact nd
  ·rw[bM aG];exact b.lV j
 ·refine k.out a oa (b.kp.out a oa z n) λq=>?_;subst q;rw[h0 a hc]at z;cases z
 ·by_cases Wm:a=c
  ·rw[Wm,ao];exact λz=>(nomatch z)
  ·rw[aw Wm];exact b.iI a z
def cu.putIn {P:ZN}{w:Z4}{U:θ->Prop}{d d':D}{v:V}{A':List θ}{c:θ}{o:HO}(b:cu P w (C.u U) σ H β own)(e:β[i]?=ν (ν (.own d)))(hσ:σ[i]?=ν (ν v))(hc:c∈own i)
  (r:Own P w (upd H c o) d' v A') (nd:A'.Nodup) (hA:∀a∈A',a∈own i\/(C.H0 a=ξ/\¬ Wn own a/\U a)):cu P w C.z σ (upd H c o) (β.set i (ν (.own d'))) (aU own i A') :=
 b.NA (U2:=λ_=>False) e hσ hc r nd hA (λ_ z=>z.elim) λ_ _ z=>z
def m_ {A':List θ}{c:θ}{o:HO}{U:θ->Prop}(n:Sn Z H (Wn own))(m:∀a,U a->Z.1 a=ξ)(hc:Wn own c)(LA:∃oc,H c=ν oc/\∀xs,oc≠.tup xs)(hA:∀a∈A',a∈own i\/(C.H0 a=ξ/\¬ Wn own a/\U a)):Sn Z (upd H c o) (Wn (aU own i A')):=by
 obtain⟨oc,h1,h2⟩:=LA;have u:=Sn.upd (o':=o) n h1 h2 hc;exact⟨λb Lx=>by
  obtain⟨j,hj⟩:=Lx
  by_cases aG:i=j
  ·rw[<- aG,os_eq]at hj;rcases hA b hj with z|z
   ·exact n.w b {(i),z}
   ·exact .inr (m b z.2.2)
  ·rw[bM aG]at hj;exact n.w b {(j),hj},u.k,u.d⟩
def cu.nN {P:ZN}{w:Z4}{ds:List D}(b:cu P w C σ H β own)(e:β[i]?=ν (ν (.own (.lst ds)))):∃a vs A',σ[i]?=ν (ν (.ref a))/\H a=ν (.lst vs)/\own i=a::A'/\aK P w H ds vs A':=by
 obtain⟨v,h1,⟨a,vs,A',rfl,h2,h3,h4⟩,_⟩:=b.ow i _ e;exact{(a),vs,A',h1,h2,h3,h4}
variable {px ap cp:Pos}
def b6 (he:∀U,PQ X (C.u U) p e φ)(hn:Nm X i x:=by exact wG)
  (eM:ab6 (.Name x px) "append" X.env (eval (.Name x px) X.env)=eval (.Name x px) X.env:=by rfl)
  (oh:((abI cp (Z2 [e] X.env)).all (λx=>!x.1)&&(backToKw cp (ac1 [] X.env)).all (λx=>x.1.isSome)&&decide ([e].length+([]:List acA).length+(if ([]:List acA).isEmpty then 0 else 1)<30))=ζ:=by rfl)
  (eK:(ap.endLine==cp.line)=ζ:=by rfl) (hs:Z2 [e] X.env=(η,eval e X.env)::Z2 [] X.env:=by rfl) (eI:(abI cp (Z2 [] X.env)).any (·.1)=η:=by rfl)
  (vH:ab4 (.Call (.Attribute (.Name x px) "append" ap) [e] [] cp) ξ pos.line X.env=pure η:=by rfl) :
  PB X C (.Expr (.Call (.Attribute (.Name x px) "append" ap) [e] [] cp) pos) (λE β=>(∃ds,β[i]?=ν (ν (.own (.lst ds))))/\φ β λd k β'=>Fb k d/\∃ds,β'[i]?=ν (ν (.own (.lst ds)))/\ds.length<Z3/\E.nx (β'.set i (ν (.own (.lst (ds++[d])))))):=by
 refine{λE E' β l DF=>by obtain⟨h1,q⟩:=DF;exact{h1,(he λ_=>False).mono _ _ _ (λd k β' DE=>by obtain⟨f,ds,h1,h2,q⟩:=DE;exact{f,ds,h1,h2,l.nx _ q}) q},λμ s σ H D I fA=>?_}
 obtain⟨Z,E,β,⟨own,sq,n⟩,⟨⟨Wz,hb⟩,q⟩,ok⟩:=fA;refine mn (pos:=pos) (CG (apos:=ap) (cpos:=cp) Ζ PySem.F.slot_list_append PySem.F.type_list_append kz (eE (pos:=px) hn) (a_ (he λa=>H a=ξ).pe cR hs) eM oh eK hs eI) vH μ s σ H D I ?_;obtain⟨a,vs,A',h1,h2,h3,h4⟩:=sq.nN hb;refine{.ref a,h1,.inl {rfl,vs,dJ.of h2},tQ.of (he λa=>H a=ξ) (sq.mQ (C:=C.z) (U:=λa=>H a=ξ) λa z=>z) q λd k β' v H1 aC n9 o r=>?_};obtain⟨f,ds,lZ,hl,q⟩:=n9;obtain⟨a',vs',A1,g1,g2,g3,g4⟩:=o.sq.nN lZ;rw[h1]at g1;cases g1;obtain⟨A,r1,r2,r3⟩:=r.fl f;have ha:a∈aC i:=by rw[g3];simp
 have nd:(a::(A1++A)).Nodup:=by
  have q:=o.sq.lV i;rw[g3]at q;refine aac.mpr {λz=>?_,aaz.mpr {(aac.mp q).2,r2,λx hx y hy e=>?_}}
  ·rcases ZT.mp z with z|z
   ·exact(aac.mp q).1 z
   ·exact(r3 a z).2.1 {(i),ha}
  ·subst e;exact(r3 x hy).2.1 {i,by rw[g3];simp[hx]}
 have hA:∀b∈a::(A1++A),b∈aC i\/(C.H0 b=ξ/\¬ Wn aC b/\H b=ξ):=λb hb=>by
  rcases ZI.mp hb with rfl|hb
  ·exact .inl ha
  ·rcases ZT.mp hb with hb|hb
   ·exact .inl (by rw[g3];simp[hb])
   ·exact .inr {(r3 b hb).2.2,(r3 b hb).2.1,(r3 b hb).1}
 have kt:∀b xs,H1 b=ν (.tup xs)->upd H1 a (.lst (vs'++[v])) b=ν (.tup xs):=λb xs z=>by
  rw[aw (λz'=>by rw[z',g2]at z;cases z)];exact z
 have ne1:∀c∈A1,c≠a:=λc hc z=>by
  have q:=o.sq.lV i;rw[g3]at q;exact(aac.mp q).1 (by rw[<- z];exact hc)
 have ne2:∀c∈A,c≠a:=λc hc z=>(r3 c hc).2.1 {i,by rw[z];exact ha}
 have r':Own X.prog X.w (upd H1 a (.lst (vs'++[v]))) (.lst (ds++[d])) (.ref a) (a::(A1++A)) :=
  {a,vs'++[v],A1++A,rfl,ao,rfl,(g4.keep kt λc hc oc ec=>by rw[aw (ne1 c hc)];exact ec).append (aK.one (r1.keep kt λc hc oc ec=>by rw[aw (ne2 c hc)];exact ec))}
 exact{a,vs',v,rfl,rfl,g2,by rw[g4.length];exact hl,ok.nx _ _ _ {_,o.sq.putIn lZ h1 ha r' nd hA,m_ (n.trans o.sn) (λb z=>n.free z) {(i),ha} {_,g2,λxs z=>by cases z} hA} q}
end
abbrev cJ:=D->Kd->a6->(a6->Prop)->Prop
abbrev qY:=List D->Kd->a6->(a6->Prop)->Prop
structure vB (X:Cx)(C:Cfg)(tg:Expr)(T:List Nat)(γ:cJ):Prop where
 mono:∀d k β R R',(∀r,R r->R' r)->γ d k β R->γ d k β R'
 pg:PG X tg λv σ H Q=>∃own β d k,SQ X C σ H β own/\Rp X (gk C (Wn own) k) H d v/\γ d k β λβ'=>∀σ' aR,SQ X C σ' H β' aR->(∀a,Wn aR a->Wn own a)->(∀j,j∉T->σ'[j]?=σ[j]?)->Q σ' H
structure HY (X:Cx)(C:Cfg)(zC:List Expr)(T:List Nat)(γ:qY):Prop where
 mono:∀d k β R R',(∀r,R r->R' r)->γ d k β R->γ d k β R'
 VE:Je X zC λvs σ H Q=>∃own β ds k,SQ X C σ H β own/\i9 X (gk C (Wn own) k) H ds vs/\γ ds k β λβ'=>∀σ' aR,SQ X C σ' H β' aR->(∀a,Wn aR a->Wn own a)->(∀j,j∉T->σ'[j]?=σ[j]?)->Q σ' H
section
variable {X:Cx}{C:Cfg}{tg:Expr}{zC:List Expr}{γ:cJ}{γs:qY}{T T':List Nat}{pos:Pos}{e:Expr}{φ:aM}{p:Bool}
def YD (i:Nat):cJ:=λd k β R=>Iy d k λb=>R (β.set i (ν b))
def aj {i:Nat}{x:Str}(hN:X.N.Nodup)(hi:X.N[i]?=ν x:=by rfl)(hx:Loc X.env.scope x:=by first|exact .inl rfl|exact .inr rfl)
  (hf:X.fn x=ζ\/X.env.scope.names.lookup x=ν .local:=by first|exact .inl rfl|exact .inr rfl|assumption):vB X C (.Name x pos) [i] (YD i) :=
 ⟨λd k β R R' h q=>Iy.mono (d:=d) (k:=k) (K:=λb=>R (β.set i (ν b))) (K':=λb=>R' (β.set i (ν b))) (λ_=>h _) q,(yo hN hi hx hf).pre λv σ H Q jO=>by
  obtain⟨own,β,d,k,s,r,q⟩:=jO;have Qs:∀(v:V) (j:Nat),j∉[i]->(σ.set i (ν v))[j]?=σ[j]?:=λv j hj=>bu (aa1 (by simpa using hj))
  cases k with
  |own=>exact q _ _ (s.fG (y:=ζ) r) (λa h=>fb h) (Qs v)
  |d9=>exact q _ _ (s.fG (y:=ζ) r) (λa h=>fb h) (Qs v)
  |old=>exact q _ _ (s.fG (y:=η) r) (λa h=>fb h) (Qs v)
  |bor=>exact q.2 _ _ (s.fG (y:=ζ) (az.flat q.1 r)) (λa h=>fb h) (Qs v)⟩
abbrev sk (k:Kd):D->Kd
 |.int _=>.own
 |.bl _=>.own
 |.cf=>.own
 |.str _=>.own
 |_=>k.wk
def rD {P:ZN}{w:Z4}{W:θ->Prop}{H:Hp}{k:Kd}{d:D}{v:V}(r:az P w (gk C W k) H d v):az P w (gk C W (sk k d)) H d v:=by
 cases d with
 |int i=>exact az.flat rfl r
 |bl i=>exact az.flat rfl r
 |cf=>exact az.flat rfl r
 |str i=>exact az.flat rfl r
 |_=>exact az.aZ (λa z=>z.imp (EO a) id) r
def LS:qY:=λds _ β R=>ds=[]/\R β
def DT (γ:cJ)(γs:qY):qY:=λds k β R=>∃d r,ds=d::r/\γ d (sk k d) β λβ'=>γs r k β' R
def bZ:HY X C [] [] LS:=⟨λd k β R R' h q=>{q.1,h _ q.2},F_.pre λvs σ H Q r_=>by
 obtain⟨own,β,ds,k,s,r,e,q⟩:=r_;subst e;exact{r,q σ own s (λ_ z=>z) λ_ _=>rfl}⟩
def aH (h1:vB X C tg T γ)(h2:HY X C zC T' γs)(hs:(abJ (tg::zC) X.env).map (·.2)=assign tg X.env::(abJ zC X.env).map (·.2):=by rfl):HY X C (tg::zC) (T++T') (DT γ γs) :=
 ⟨λds k β R R' h w6=>by obtain⟨d,r,e,q⟩:=w6;exact{d,r,e,h1.mono _ _ β _ _ (λβ' q=>h2.mono r k β' _ _ h q) q},
  (CD h1.pg h2.VE hs).pre λvs σ H Q DD=>by
    obtain⟨own,β,ds,k,s,rr,d,r,e,q⟩:=DD;subst e;obtain⟨v,vr,rfl,rv,Xg⟩:=rr;exact{v,vr,rfl,own,β,d,_,s,rD rv,h1.mono _ _ β _ _ (λβ' q σ' aR s' w' t'=>{aR,β',r,k,s',ai.aZ (jZ w' k) Xg,h2.mono r k β' _ _ (λβ2 q2 σ2 ba s2 w2 t2=>q2 σ2 ba s2 (λa z=>w' a (w2 a z)) λj hj=>(t2 j λz=>hj (aaa _ z)).trans (t' j λz=>hj (aaA _ z))) q}) q}⟩
def YC (n:Nat)(γs:qY):cJ:=λd k β R=>∃ds,d=.tup ds/\ds.length=n/\γs ds k β R
def cB {k:Nat}{n:Nat}(hc:X.calm=ζ)(h:HY X C zC T γs)(hn:(abJ zC X.env).length=n:=by rfl)(OH:(abJ zC X.env).findIdx? (·.1)=ξ:=by rfl):vB X C (.Tuple zC k pos) T (YC n γs) :=
 ⟨λd k β R R' hh Ha=>by obtain⟨ds,e,l,q⟩:=Ha;exact{ds,e,l,h.mono ds k β _ _ hh q},(J9 hc h.VE hn OH).pre λv σ H Q Lm=>by
  obtain⟨own,β,d,k,s,r,ds,e,l,q⟩:=Lm;subst e;obtain⟨a,vs,rfl,ha,rs⟩:=r;exact{a,vs,rfl,lh.of ha,by rw[rs.length];exact l,own,β,ds,k,s,rs,q}⟩
def jo {Z:Hp×(θ->Prop)}{H:Hp}{own aR:Nat->List θ}(n:Sn Z H (Wn own))(h:∀a,Wn aR a->Wn own a):Sn Z H (Wn aR):={λb z=>n.w b (h b z),n.k,n.d}
def nD (he:PQ X C.z p e φ)(hg:vB X C.z tg T γ)(hs:swapsWithSole [tg] e pos.line X.env=pure η:=by rfl)(hw:swappedStores [tg] e X.env=pure ξ:=by rfl)
  (h1:(abJ [tg] X.env).map (·.2)=[assign tg X.env]:=by rfl):PB X C (.Assign [tg] e pos) (λE β=>φ β λd k β'=>γ d k β' E.nx) :=
 ⟨λE E' β l q=>he.mono _ _ _ (λd k β' q=>hg.mono _ _ _ _ _ l.nx q) q,(nv he.pe hg.pg hs hw h1).pre λD σ H ⟨Z,E,β,⟨own,s,n⟩,q,ok⟩=>tQ.of he s q λd k β' v H' aR q o r =>
  {aR,β',d,k,o.sq,az.aZ (λa z=>z.elim id λz=>z.elim) r.rep,hg.mono _ _ _ _ _ (λβ2 q σ2 ba s2 w2 _=>ok.nx _ _ _ {ba,s2,jo (n.trans o.sn) w2} q) q}⟩
abbrev SN (ro:Bool)(k:Kd)(d:D):Prop:=match k,ro with
 |.own,_=>True
 |.d9,η=>True
 |_,_=>d.flat=ζ
def fx {P:ZN}{w:Z4}{W:θ->Prop}{ro:Bool}{H H':Hp}{d:D}{v:V}(f:d.flat=ζ)(r:az P w W H' d v):vC P w ro H H' d v:=by
 cases ro with
 |true=>exact{[],dq f r,aaH,λc hc=>(nomatch hc)}
 |false=>exact az.flat f r
def GF {P:ZN}{w:Z4}{Z:Hp×(θ->Prop)}{own:Nat->List θ}{ro:Bool}{H':Hp}{k:Kd}{d:D}{v:V}(f:SN ro k d)(r:KV P w C Z own H' k d v):vC P w ro C.H0 H' d v:=by
 cases k with
 |own =>
  cases ro with
  |true=>obtain⟨A,h1,h2,h3⟩:=r;exact{A,h1,h2,λc hc=>(h3 c hc).2.2}
  |false=>exact az.aZ (λa z=>.inr z) r.rep
 |d9 =>
  cases ro with
  |true=>exact fx f r.rep
  |false=>exact az.aZ (λa z=>.inr z) r.rep
 |old=>cases ro <;> exact fx f r.rep
 |bor=>cases ro <;> exact fx f r.rep
def Gf (he:PQ X C.z p e φ):PB X C (.Return (ν e) pos) (λE β=>φ β λd k β'=>SN C.ro k d/\E.rt d β') :=
 {λE E' β l q=>he.mono _ _ _ (λd k β' q=>{q.1,l.rt _ _ q.2}) q,(iR he.pe).pre λD σ H Lk=>by obtain⟨Z,E,β,⟨own,s,n⟩,q,ok⟩:=Lk;exact tQ.of he s q λd k β' v H' aR q o r=>ok.rt _ _ _ _ _ (o.sb n) (GF (C:=C.z) q.1 r) q.2}
def bo {ro:Bool}(he:PQ X C.z p e φ)(X2:C.ro=ro:=by first|exact(rfl:_=ζ)|exact(rfl:_=η)):PB X C (.Return (ν e) pos) (λE β=>φ β λd k β'=>SN ro k d/\E.rt d β'):=by
 subst X2;exact Gf he
def jz {i:Nat}{x:Str}{px:Pos}(hn:Nm X i x:=by exact wG):
  PB X C (.Return (ν (.Name x px)) pos) (λE β=>∃d,β[i]?=ν (ν (.own d))/\E.rt d β) :=
 ⟨λE E' β l sd=>by obtain⟨d,h1,q⟩:=sd;exact{d,h1,l.rt _ _ q},(iR (eE (pos:=px) hn)).pre λD σ H w9=>by
  obtain⟨Z,E,β,⟨own,s,n⟩,⟨d,h1,q⟩,ok⟩:=w9;obtain⟨v,e1,r,h0⟩:=s.ow i d h1;refine{_,e1,ok.rt _ _ _ _ _ {(own),s,n} ?_ q};cases hr:C.ro with
  |true=>exact{_,r,s.lV i,h0}
  |false=>exact r.rep λc hc z=>z (h0 c hc)⟩
end
abbrev bS:=a6->(List D->Kd->a6->Prop)->Prop
structure vA (X:Cx)(C:Cfg)(p:Bool)(tg iter:Expr)(ι:bS):Prop where
 mono:∀β R R',(∀d k β,R d k β->R' d k β)->ι β R->ι β R'
 pi:PI X tg iter λσ H R=>∃β own,SQ X C σ H β own/\ι β λds k β'=>∀J H' aR,Out X C σ H own p β' H' aR->vN X (av C (Wn aR) k) J ds H'->R J H'
section
variable {X:Cx}{C:Cfg}{tg e a b:Expr}{φ:aM}{φs:cX}{p:Bool}{pp pos:Pos}
def SW (φ:aM):bS:=λβ R=>φ β λd k β'=>∃ds,d=.lst ds/\R ds k β'
def aS (h:PQ X C p e φ):vA X C p tg e (SW φ) :=
 ⟨λβ R R' k q=>h.mono β _ _ (λd kd β' Ly=>by obtain⟨ds,e,q⟩:=Ly;exact{ds,e,k _ _ _ q}) q,(yn h.pe).pre λσ H R ⟨β,own,s,q⟩=>tQ.of h s q λd k β' v H1 aC DG o1 r1=>by
  obtain⟨ds,e,q1⟩:=DG;subst e;obtain⟨a,vs,rfl,h1,n1,q2⟩:=r1.rep;exact{a,rfl,{vs,dJ.of h1},q1 _ _ aC o1 (uB h1 n1 q2)}⟩
def G1 {W:θ->Prop}{H:Hp}{a:θ}{vs:List V}{ds:List D}(h1:H a=ν (.tup vs))(q2:i9 X W H ds vs):vN X W (U_ X.K a) ds H:=λW' hW i H' k=>by
 have h2:=k.tup a _ h1;replace q2:=ai.grow hW q2;constructor
 ·intro d hd;obtain⟨v,hv,rv⟩:=ai.get q2 hd;refine{{vs,v,lh.of h2,hv},λx H1 y=>?_};obtain⟨rfl,y⟩:=y;have e:=y vs (lh.of h2);rw[hv]at e;cases e;exact{au.refl _,rv.keep k}
 ·intro hl;exact{vs,lh.of h2,by rw[q2.length];exact hl}
def G7 (φs:cX):bS:=λβ R=>φs β λds _ β'=>∃j:Int,ds=[.int j]/\-(2 ^ 62)<=j/\j<2 ^ 62/\R (lT 0 j.toNat) .d9 β'
def yG (φs:cX):bS:=λβ R=>φs β λds _ β'=>∃i j:Int,ds=[.int i,.int j]/\(-(2 ^ 62)<=i/\i<2 ^ 62/\-(2 ^ 62)<=j/\j<2 ^ 62)/\R (lT i (j-i).toNat) .d9 β'
def aT (hm:X.mg "range" = ξ)(ha:vM X C p [a] φs)(hg:Gl X "range" := by rfl)(hs:Z2 [a] X.env=[(η,eval a X.env)]:=by rfl):vA X C p tg (.Call (.Name "range" pp) [a] [] pos) (G7 φs) :=
 ⟨λβ R R' k q=>ha.mono β _ _ (λd kd β' Lw=>by obtain⟨j,e,h1,h2,q⟩:=Lw;exact{j,e,h1,h2,k _ _ _ q}) q,(zY hg hm ha.pa hs).pre λσ H R ⟨β,own,s,q⟩=>xN.of ha s q λds ks β' vs H1 aC Lu o1 r1=>by
  obtain⟨j,e,h1,h2,q1⟩:=Lu;subst e;obtain⟨x,rfl,hx⟩:=j4 r1.kg;cases hx;exact{j,rfl,h1,h2,q1 _ _ aC o1 kM}⟩
def fP (hm:X.mg "range" = ξ)(ha:vM X C p [a,b] φs)(hg:Gl X "range" := by rfl)(hs:Z2 [a,b] X.env=[(η,eval a X.env),(η,eval b X.env)]:=by rfl)(qD:Z2 [b] X.env=[(η,eval b X.env)]:=by rfl) :
  vA X C p tg (.Call (.Name "range" pp) [a,b] [] pos) (yG φs) :=
 ⟨λβ R R' k q=>ha.mono β _ _ (λd kd β' Ls=>by obtain⟨i,j,e,h1,q⟩:=Ls;exact{i,j,e,h1,k _ _ _ q}) q,(qc hg hm ha.pa hs qD).pre λσ H R ⟨β,own,s,q⟩=>xN.of ha s q λds ks β' vs H1 aC TH o1 r1=>by
  obtain⟨i,j,e,h1,q1⟩:=TH;subst e;obtain⟨x,y,rfl,hx,hy⟩:=qW r1.kg;cases hx;cases hy;exact{i,j,rfl,h1,q1 _ _ aC o1 kM}⟩
end
def DX (γ:cJ)(ψ:HX)(E:dB)(ds:List D)(k:Kd)(β:a6):Prop:=∃I:Nat->a6->Prop,I 0 β/\(∀i d β,ds[i]?=ν d->I i β->γ d (sk k d) β λβ1=>ψ (E.lp (I (i+1))) β1)/\∀β,I ds.length β->E.nx β
section
variable {X:Cx}{C:Cfg}{tg iter:Expr}{γ:cJ}{T:List Nat}{ψ:HX}{ι:bS}{body:List Stmt}{pos:Pos}{p:Bool}
def DX.mono {E E':dB}{ds:List D}{k:Kd}{β:a6}(hγ:∀d k β R R',(∀r,R r->R' r)->γ d k β R->γ d k β R')(hψ:∀E E' β,Le E E'->ψ E β->ψ E' β)(l:Le E E'):DX γ ψ E ds k β->DX γ ψ E' ds k β:=λ⟨I,h0,h1,h2⟩ =>
 {I,h0,λi d β e q=>hγ d _ β _ _ (λβ1 q=>hψ {nx:=I (i+1),rt:=E.rt,bk:=E.nx,ct:=I (i+1)} {nx:=I (i+1),rt:=E'.rt,bk:=E'.nx,ct:=I (i+1)} β1 {λ_ q=>q,l.rt,l.nx,λ_ q=>q} q) (h1 i d β e q),λβ q=>l.nx _ (h2 β q)}
def HR {own ba:Nat->List θ}{H H2:Hp}{k:Kd}(n:Sn (H,Wn own) H2 (Wn ba)):∀b,av C (Wn ba) k b->av C (Wn own) k b\/H b=ξ:=λb z=>by
 cases k with
 |own=>exact z.elim (λz=>(n.w b z).imp .inl id) λz=>.inl (.inr z)
 |d9=>exact z.elim (λz=>(n.w b z).imp .inl id) λz=>.inl (.inr z)
 |old=>exact n.w b z
 |bor=>exact z.elim
def bC (hp:PassesOwn (Ψ X.prog X.w) X.A X.env X.xe)(hc:X.calm=ζ)(hi:vA X C.z p tg iter ι)(hg:vB X C.z tg T γ)(hb:zr X C body ψ)(hs:∀x,aay iter X.env x=pure x:=by intro _;rfl):
  PB X C (.For tg iter body [] pos) (λE β=>ι β λds k β1=>hold k η/\DX γ ψ E ds k β1) :=
 ⟨λE E' β l q=>hi.mono _ _ _ (λds k β1 q=>{q.1,q.2.mono hg.mono hb.mono l}) q,(Cr hp hc hi.pi hg.pg hb.ps hs).pre λD σ H TC=>by
  obtain⟨Z,E,β,⟨own,s,n⟩,q,ok⟩:=TC;refine{β,own,s,hi.mono _ _ _ (λds k β1 fA J H1 aC o1 it=>?_) q};obtain⟨hk,I,i0,i1,i2⟩:=fA;have n':=n.trans o1.sn;have ig:∀b,Wn aC b\/H1 b=ξ->av C.z (Wn aC) k b\/H1 b=ξ:=λb z=>by
   cases k with
   |own=>exact z.imp .inl id
   |d9=>exact z.imp .inl id
   |old=>exact z
   |bor=>exact hk.elim
  have Iz:=it (λb=>av C.z (Wn aC) k b\/H1 b=ξ) λb z=>z;refine{λi m σ H=>i<=ds.length/\m=ds.length-i/\∃β,SB X C (H1,Wn aC) σ H β/\I i β,{_,ZW _,rfl,β1,{(aC),o1.sq,Sn.refl},i0},?_};rintro i m σ2 H2 ⟨hi,rfl,β2,⟨ba,s2,n2⟩,hl⟩;obtain⟨bQ,iD⟩:=Iz i H2 (n2.k.mono ig)
  by_cases d3:i<ds.length
  ·right
   have hd:ds[i]?=ν ds[i]:=ZU d3;obtain⟨go,yl⟩:=bQ _ hd;refine{go,λσ' H'=>∃β,SB X C (H1,Wn aC) σ' H' β/\I (i+1) β,λσ' H' Lq=>by obtain⟨β',FU,xb⟩:=Lq;exact{_,by lia,d3,rfl,β',FU,xb},λx H3 y=>?_}
   obtain⟨s3,r3⟩:=yl x H3 y;refine{ba,β2,_,_,s2.same s3,rD (C:=C.z) (az.aZ (λb z=>HR (C:=C) n2 b (z.elim id λz=>z.elim)) r3),hg.mono _ _ _ _ _ (λβ4 q σ4 tV s4 w4 _=>?_) (i1 i _ β2 hd hl)};refine{(H1,Wn aC),_,β4,{tV,s4,jo (n2.same s3) w4},q,{λσ5 H5 β5 zP q5=>{(β5),zP,q5},λσ5 H5 β5 d5 v5 zP r5 q5=>?_,λσ5 H5 β5 zP q5=>?_,λσ5 H5 β5 zP q5=>{(β5),zP,q5}}}
   ·obtain⟨jC,s5,n5⟩:=zP;exact ok.rt _ _ _ _ _ {jC,s5,n'.trans n5} r5 q5
   ·obtain⟨jC,s5,n5⟩:=zP;exact ok.nx _ _ _ {jC,s5,n'.trans n5} q5
  ·left
   have e:i=ds.length:=by lia
   subst e;exact{iD (ZG _),ok.nx _ _ _ {ba,s2,n'.trans n2} (i2 β2 hl)}⟩
end
def startB (N:List Str)(ds:List D):a6:=ds.map (λd=>ν (.val η d))++aau (N.length-ds.length) ξ
def j7 (N:List Str)(ok:List Int->Prop)(ds:List D):a6:=ν (.hand ok)::(ds.map (λd=>ν (.val η d))++aau (N.length-(ds.length+1)) ξ)
section
variable {P:ZN}{w:Z4}{K:Ξ}{mg:Str->Option ZF}{base:Heap}
def gy {i n:Nat}{b:B}(h:(aau n (ξ:Option B))[i]?=ν (ν b)):False:=by
 rw[List.getElem?_replicate]at h
 split at h <;> cases h
def fq {ds:List D}{n i:Nat}{b:B}(h:(ds.map (λd=>ν (B.val η d))++aau n ξ)[i]?=ν (ν b)):∃d,ds[i]?=ν d/\b=.val η d:=by
 by_cases hi:i<ds.length
 ·rw[abd (by simpa using hi),ZS]at h
  cases q:ds[i]? with
  |none=>rw[q]at h;cases h
  |some d=>rw[q]at h;cases h;exact{(d),rfl,rfl}
 ·rw[aaY (by simpa using hi)]at h
  exact(gy h).elim
def j6 {N:List Str}{vs:List V}{i:Nat}{v:V}(h:vs[i]?=ν v):(start N vs)[i]?=ν (ν v):=by
 unfold start;rw[abd (by simpa using (Z1.mp h).1),ZS,h]
 rfl
def BV {N:List Str}{vs:List V}{ds:List D}{H:Hp}{ro:Bool}(r:ai P w (λ_=>False) H ds vs):cu P w {H,λ_=>False,ro,λ_=>False} (start N vs) H (startB N ds) (λ_=>[]):=by
 refine{?_,λi y d h=>?_,λi d h=>?_,λi ok h=>?_,λi a h=>(nomatch h),λi j a h=>(nomatch h),λi=>aaH,Kp.refl,λ_ z=>z,λi y d h=>by obtain⟨d',e,e'⟩:=fq h;cases e'}
 ·unfold startB start;simp[r.length]
 ·obtain⟨d',e,e'⟩:=fq h;cases e';obtain⟨v,e1,e2⟩:=ai.get r e;exact{v,j6 e1,az.aZ (λa z=>z.elim (λLo=>by obtain⟨_,q⟩:=Lo;exact(nomatch q)) λz=>z) e2}
 ·obtain⟨d',e,e'⟩:=fq h;cases e'
 ·obtain⟨d',e,e'⟩:=fq h;cases e'
def rQ {x qual:Str}{st:Stmt}{f:θ}{fd:aaD}{N ps:List Str}{k:Nat}{F:FD}{ro:Bool}(G:Fs K x qual st f fd)(S:aL N ps (ay st))(len:∀ds R,F ds R->ds.length=ps.length)
  (oj:∀(cY:ZF) (A:aaJ) (outer:List Env) (s:ZH) (H:Hp) (E:XK),c6 k (A.deeper (envOfC qual (ay st) s.heap.objs.size f cY)) ->
   ∃ψ,zr (pO cg P w K mg base N qual (ay st) f cY A outer s H E).Il {H,λ_=>False,ro,λ_=>False} (e_ st) ψ/\∀ds R,F ds R->ψ (eN R) (startB N ds)) :
  aO P w K mg base cg (k+1) f fd ps (eT P w ro F):=by
 refine G.ok S (λvs H Q E h=>?_) (λcY A outer s H vs Q E hr h=>?_)
 ·obtain⟨ds,r,h⟩:=h;rw[r.length];exact len ds _ h
 ·obtain⟨ds,r,h⟩:=h;obtain⟨ψ,hb,hF⟩:=oj cY A outer s H E hr;refine{_,hb.ps,(H,Wn λ_=>[]),_,startB N ds,{λ_=>[],BV r,Sn.refl},hF ds _ h,λσ H' β sb q=>?_,λσ H' β d v sb rr q=>?_,λ_ _ _ _ z=>z.elim,λ_ _ _ _ z=>z.elim}
  ·obtain⟨own,s',n'⟩:=sb;exact q _ H' (λb o e=>s'.kp.out b o e (λz=>z)) (fx (W:=λ_=>False) rfl rfl)
  ·obtain⟨own,s',n'⟩:=sb;exact q _ H' (λb o e=>s'.kp.out b o e (λz=>z)) rr
def zI {N:List Str}{ok:List Int->Prop}{h:θ}{ns:List Int}{vs:List V}{ds:List D}{H:Hp}{ro:Bool}(hh:H h=ν (.lst (ns.map V.int)))(ho:ok ns)(r:ai P w (λa=>a=h) H ds vs):
  cu P w {H,(·=h),ro,λ_=>False} (start N (.ref h::vs)) H (j7 N ok ds) (λi=>if i=0 then [h] else []):=by
 have Gh:∀{i:Nat} {a:θ},a∈(if i=0 then [h] else ([]:List θ))->i=0/\a=h:=λ{i a} q=>by
  by_cases e:i=0
  ·rw[χ e]at q;exact{e,by simpa using q}
  ·rw[ω e]at q;cases q
 have Hj:∀{i:Nat} {b:B},(j7 N ok ds)[i]?=ν (ν b)->(i=0/\b=.hand ok)\/∃j d,i=j+1/\ds[j]?=ν d/\b=.val η d:=λ{i b} q=>by
  unfold j7 at q;cases i with
  |zero=>simp at q;exact .inl {(rfl),q.symm}
  |succ i =>
   rw[acu]at q;obtain⟨d,e,e'⟩:=fq q;exact .inr {(i),d,rfl,e,e'}
 refine{?_,λi y d q=>?_,λi d q=>?_,λi Bk q=>?_,λi a q=>?_,λi j a h1 h2=>?_,λi=>?_,Kp.refl,λ_ z=>z,λi y d q=>(Hj q).elim (λLl=>by obtain⟨_,e⟩:=Ll;cases e) (λLk=>by obtain⟨j,d',_,_,e'⟩:=Lk;cases e')}
 ·unfold j7 start;simp[r.length]
 ·rcases Hj q with⟨_,e⟩|⟨j,d',rfl,e,e'⟩
  ·cases e
  ·cases e';obtain⟨v,e1,e2⟩:=ai.get r e;exact{v,j6 (by simpa using e1),az.aZ (λa z=>z.elim (λLn=>by obtain⟨j,q⟩:=Ln;exact(Gh q).2) λz=>z.elim) e2}
 ·rcases Hj q with⟨_,e⟩|⟨j,d',_,_,e'⟩
  ·cases e
  ·cases e'
 ·rcases Hj q with⟨e0,e⟩|⟨j,d',_,_,e'⟩
  ·cases e;subst e0;exact{h,ns,j6 rfl,hh,ho,rfl,.inr rfl}
  ·cases e'
 ·obtain⟨_,rfl⟩:=Gh q;exact{by rw[hh];exact λz=>(nomatch z),λxs z=>(by rw[hh]at z;cases z),.inr rfl,λz=>z}
 ·rw[(Gh h1).1,(Gh h2).1]
 ·by_cases e:i=0
  ·simp[e]
  ·simp[e]
def Kw {x qual:Str}{st:Stmt}{f:θ}{fd:aaD}{N ps:List Str}{k:Nat}{F:FD}{ok:List Int->Prop}{ro:Bool}(G:Fs K x qual st f fd)(S:aL N ps (ay st))(len:∀ds R,F ds R->ds.length+1=ps.length)
  (oj:∀(cY:ZF) (A:aaJ) (outer:List Env) (s:ZH) (H:Hp) (E:XK) (IO:θ->Prop),c6 k (A.deeper (envOfC qual (ay st) s.heap.objs.size f cY)) ->
   ∃ψ,zr (pO cg P w K mg base N qual (ay st) f cY A outer s H E).Il {H,IO,ro,λ_=>False} (e_ st) ψ/\∀ds R,F ds R->ψ (eH ok R) (j7 N ok ds)) :
  aO P w K mg base cg (k+1) f fd ps (j8 P w ok ro F):=by
 refine G.ok S (λvs H Q E h=>?_) (λcY A outer s H vs Q E hr h=>?_)
 ·obtain⟨h,vs',ds,ns,rfl,hh,ho,r,q⟩:=h;rw[ZZ,r.length];exact len ds _ q
 ·obtain⟨h,vs',ds,ns,rfl,hh,ho,r,q⟩:=h;obtain⟨ψ,hb,hF⟩:=oj cY A outer s H E (·=h) hr;refine{_,hb.ps,(H,_),_,j7 N ok ds,{_,zI hh ho r,Sn.refl},hF ds _ q,λσ H' β sb z=>z.elim,λσ H' β d v sb rr wZ=>?_,λ_ _ _ _ z=>z.elim,λ_ _ _ _ z=>z.elim};obtain⟨b0,q⟩:=wZ;obtain⟨own,s',n'⟩:=sb;obtain⟨a,qg,g1,g2,g3,g4,g5⟩:=s'.pD 0 ok b0;have ea:a=h:=g5.elim (λz=>(z h rfl).elim) λz=>z;subst ea;exact q v H' qg s'.kp s'.iI g2 g3 rr
end
end L2.Q
namespace L2
def vz.pre {X:Cx}{ifs:List Expr}{t t':TT}(h:vz X ifs t)(k:∀σ H Q,t' σ H Q->t σ H Q):vz X ifs t':=λμ s σ H Q I q=>h μ s σ H Q I (k σ H Q q)
section
variable {X:Cx}{e:Expr}{g:acp}{gs:List acp}{scope:acj}{N':List Str}{lk:List (Option Nat)}{tg:θ->TG}{tt:θ->TT}{wi:TI}
def lQ {ff:Sem ZF}{o:HO}{after:ZF->Env->Sem Fin->Sem Fin}{ta:θ->l8}(L:Links X scope N' lk)(hc:X.calm=ζ)(hA:ll X ff o)
  (F:∀acc env,fD e 0 g acc env (after acc env))
  (sL:∀a cl C s H ex,PG (ar X scope N' cl C s H ex) g.target (tg a)/\vz (ar X scope N' cl C s H ex) g.ifs (tt a)/\pS (ar X scope N' cl C s H ex) (after (.ref a) (ar X scope N' cl C s H ex).env) (ta a))
  {cl:List (Str×θ)} (pF:∀x,(x,aaP)∈scope.names->∃c,cl.lookup x=ν c) (pE:∀x c,cl.lookup x=ν c->X.env.cells.lookup x=ν c)
  {μ:List (θ×Obj)} {σ:St} {s:ZH} {Q:V->Hp->Prop} {IA:ZF} {E:ZF->ZH->Prop} {RR:ZF->θ->Result->ZH->Prop}
  (h:MW X μ σ g.target (λJ H1=>∀a,H1 a=ξ->fo J (tg a) (tt a) (ta a) (λ_ H'=>Q (.ref a) H') (dv lk σ) (upd H1 a o)) IA s)
  (hR:∀a H' C s',Inv X μ σ H' s'->gS X μ H' C->(∃m,s'.heap.Ns C m)->Q (.ref a) H'->RR (.ref a) C (.ok .next) s') :
  aab (Ψ X.prog X.w) X.A ff (λacc s₃=>aab (Ψ X.prog X.w) X.A (newFunctionEnv scope X.env.globals cl [] X.env.qual ξ .none (ν X.env)) (λP1 s₄ =>
   ac2 (Ψ X.prog X.w) X.A (.compStart e 0 IA acc {P1 with scope:=relabel scope X.env}) (RR acc P1.locals) s₄) E s₃) E s:=by
 obtain⟨it,fp,tn,J,H2,e1,I2,T,fZ,f2,hl⟩:=h;subst e1;refine hA.ok μ s σ H2 _ E I2 λa s3 ha hn hk I3=>?_;refine wpAny_newFunctionEnv L.wF (by intro y hy;simp at hy) (λh₁ LC Lj=>?_) L.kind
 have TR:∀b∈fp,∃o,s3.heap.get? b=ν o:=λb hb=>by
  obtain⟨ob,q,_⟩:=T.obj _ _ fZ b hb;exact{ob,hk b ob q}
 have Uy:∀b∈fp,b≠a:=λb hb=>by
  obtain⟨ob,q,_⟩:=T.obj _ _ fZ b hb;exact aak (aaq (Z6 q) ha)
 have f3:∀b∈fp,gS X μ (upd H2 a o) b:=λb hb=>{by rw[aw (Uy b hb)];exact(f2 b hb).1,(f2 b hb).2}
 have II:∀b ob,s3.heap.get? b=ν ob->h₁.get? b=ν ob:=λb ob q=>Lj.extBut b ob (aak (Z6 q)) (ZM _ q);have QF:h₁.Ns s3.heap.objs.size (λ_=>ξ):=LC;have I4:=Du (t':=s3.toks+([]:List (Str×ZF)).length) I3 L f3 TR pF pE QF II;obtain⟨g1,g2,g3⟩:=sL a cl s3.heap.objs.size s3 (upd H2 a o) fp;have f4:∀b∈fp,gS (ar X scope N' cl s3.heap.objs.size s3 (upd H2 a o) fp) [] (upd H2 a o) b:=λb hb =>
  {(f3 b hb).1,(I4.ok.QP b hb).1,I4.ok.Ed b hb,.inl hb,(I4.ok.QP b hb).2,λp hp=>Η (show p∈([]:List (θ×Obj)) from hp) (by simp)}
 have Nb:tn 0 h₁:=T.keep 0 _ _ fZ λb hb ob q=>II b ob (hk b ob q);refine abZ (oO (X:=ar X scope N' cl s3.heap.objs.size s3 (upd H2 a o) fp) rfl hc (F (.ref a) _) g1 g2 g3 T I4 Nb f4 (hl a hn)) λr s' hr=>?_;obtain⟨rfl,σ',H',J',q⟩:=hr;have I5:Inv X μ σ H' s':=Dv (C:=s3.heap.objs.size) (h'':=s'.heap) I3 f3 J' (.refl ..);refine hR a H' s3.heap.objs.size s' I5 (I3.AE (ZG _) J'.free) ?_ q;obtain⟨m,hm,_⟩:=J'.loc;exact{(m),hm}
def eF {ff:Sem ZF}{o:HO}{after:ZF->Env->Sem Fin->Sem Fin}{ta:θ->l8}{pos:Pos}(L:Links X scope N' lk)(hc:X.calm=ζ)(hA:ll X ff o)
  (LM:eval e X.env=comprehension e scope X.env pos ff η (eval g.iter X.env)) (Az:clausesOf e=g::gs)
  (F:∀acc env,fD e 0 g acc env (after acc env)) (hi:PI X g.target g.iter wi)
  (sL:∀a cl C s H ex,PG (ar X scope N' cl C s H ex) g.target (tg a)/\vz (ar X scope N' cl C s H ex) g.ifs (tt a)/\pS (ar X scope N' cl C s H ex) (after (.ref a) (ar X scope N' cl C s H ex).env) (ta a))
  (hs:∀x,aay g.iter X.env x=pure x) :
  PE X e (λσ H Q=>wi σ H λJ H1=>∀a,H1 a=ξ->fo J (tg a) (tt a) (ta a) (λ_ H'=>Q (.ref a) H') (dv lk σ) (upd H1 a o)):=by
 intro μ s σ H Q I h;rw[LM];obtain⟨cl,DR,pF,pE⟩:=iL (env:=X.env) (scope:=scope) λx hx=>I.ok.has x (L.free x hx);refine wpAny_comprehension_free (use:=ξ) Az hs DR L.kind L.names (bP (hi μ s σ H _ I h) λv s1 h1=>bP h1 λIA s2 h2=>?_);refine lQ (RR:=λacc C=>compPost (Ψ X.prog X.w) X.A X.xe ξ (EP X μ σ Q) acc C) L hc hA F sL pF pE h2 λa H' C s' I' f fA q=>?_;obtain⟨m,hm⟩:=fA;exact{m,hm,λh' Aw=>{.ref a,H',I'.sameBut f Aw,rfl,q}}
def Cs {ff:Sem ZF}{o:HO}{after:ZF->Env->Sem Fin->Sem Fin}{ta:θ->l8}{pos pos' td:Pos}{y:Str}{i:Nat}(L:Links X scope N' lk)(hc:X.calm=ζ)(hA:ll X ff o)
  (vH:ab4 e (ν (.Name y pos')) td.line X.env=pure ζ)
  (LM:evalThenUse e X.env (assign (.Name y pos') X.env)=(do let _ <- comprehension e scope X.env pos ff η (eval g.iter X.env) (ν (assign (.Name y pos') X.env));pure ())) (Az:clausesOf e=g::gs)
  (hN:X.N.Nodup) (hy:X.N[i]?=ν y) (hx:Loc X.env.scope y) (hf:X.fn y=ζ\/X.env.scope.names.lookup y=ν .local)
  (F:∀acc env,fD e 0 g acc env (after acc env)) (hi:PI X g.target g.iter wi)
  (sL:∀a cl C s H ex,PG (ar X scope N' cl C s H ex) g.target (tg a)/\vz (ar X scope N' cl C s H ex) g.ifs (tt a)/\pS (ar X scope N' cl C s H ex) (after (.ref a) (ar X scope N' cl C s H ex).env) (ta a))
  (hs:∀x,aay g.iter X.env x=pure x) :
  PS X (.Assign [.Name y pos'] e td) (λD σ H=>wi σ H λJ H1=>∀a,H1 a=ξ->fo J (tg a) (tt a) (ta a) (λ_ H'=>D.nx (σ.set i (ν (.ref a))) H') (dv lk σ) (upd H1 a o)):=by
 intro μ s σ H D I h;rw[exec_Assign_Name_used _ _ _ _ vH,LM];refine ZD (abR (ZD (ZD ?_)));obtain⟨cl,DR,pF,pE⟩:=iL (env:=X.env) (scope:=scope) λx hx=>I.ok.has x (L.free x hx);refine bP (wpAny_comprehension_free (use:=ν (assign (.Name y pos') X.env)) (Q:=λ_ s'=>SP X μ D .next s') Az hs DR L.kind L.names (bP (hi μ s σ H _ I h) λv s1 h1=>bP h1 λIA s2 h2=>?_)) λ_ s' q=>ZL (ZL q)
 refine lQ (Q:=λv H'=>D.nx (σ.set i (ν v)) H') (RR:=λacc C=>compPost (Ψ X.prog X.w) X.A X.xe (ν (assign (.Name y pos') X.env)) (λ_ s'=>SP X μ D .next s') acc C) L hc hA F sL pF pE h2 λa H' C s' I' f n9 q=>?_
 obtain⟨m,hm⟩:=n9;show aab _ _ (assign (.Name y pos') X.env (.ref a)) _ _ s';have Zx:∃o,s'.heap.get? C=ν o:=by obtain⟨o,_,_,ho,_⟩:=hm;exact{(o),ho}
 refine wpAny_assign_Name (p0 I' hN hy hx (v:=.ref a) (u:=.ref a) rfl (λs4 I4 k4=>?_) hf);obtain⟨a4,Xf,Wo⟩:=k4;have xa:C≠a4:=by
  rcases Wo with z|z
  ·rw[z];exact f.2.1
  ·exact(f.2.2.2.2.1 y a4 z).symm
 exact{m,hm.at' (λo e=>(Xf.2 C xa).trans e),λh' Aw=>{_,H',I4.sameBut f Aw,q}}
end
end L2
namespace L2.Q
noncomputable def VU:Option B->Option B
 |some (.own d)=>ν (.val η d)
 |some (.shl _ d)=>ν (.val η d)
 |b=>b
def bR (lk:List (Option Nat))(β:a6):a6:=lk.map λl=>match l with|some j=>(match β[j]? with|some b=>VU b|none=>ξ)|none=>ξ
def QC:Option (Option B)->Bool
 |some (ν (.hand _))=>ζ
 |_=>η
def bh (lk:List (Option Nat))(β:a6)(own:Nat->List θ)(i:Nat):List θ:=match lk[i]? with
 |some (ν j)=>if QC β[j]?=ζ then own j else []
 |_=>[]
def dw:a6->a6->Prop
 |[],_=>True
 |some (.hand ok)::a,c=>c.head?=ν (ν (.hand ok))/\dw a c.tail
 |_::a,c=>dw a c.tail
theorem dw.get:∀{a c:a6} {i:Nat} {ok:List Int->Prop},dw a c->a[i]?=ν (ν (.hand ok))->c[i]?=ν (ν (.hand ok))
 |[],_,_,_,_,e=>by simp at e
 |x::a,c,0,ok,h,e=>by
  simp at e;subst e;rw[<- List.head?_eq_getElem?];exact h.1
 |x::a,c,i+1,ok,h,e=>by
  have h':dw a c.tail:=by
   cases x with
   |none=>exact h
   |some x=>cases x <;> first|exact h|exact h.2
  have:=dw.get (i:=i) h' (by simpa using e)
  rwa [List.getElem?_tail]at this
section
variable {P:ZN}{w:Z4}{C:Cfg}{σ σ':St}{H H' H1:Hp}{β βi:a6}{own fe:Nat->List θ}{lk:List (Option Nat)}{a:θ}
def cw {i:Nat}{c:θ}(h:c∈bh lk β own i):∃j,lk[i]?=ν (ν j)/\QC β[j]?=ζ/\c∈own j:=by
 unfold bh at h
 split at h
 ·next j e =>
  by_cases q:QC β[j]?=ζ
  ·rw[χ q]at h;exact{(j),e,q,h}
  ·rw[ω q]at h;cases h
 ·cases h
def bt:∀c,Wn (bh lk β own) c->Wn own c:=λc ⟨i,h⟩=>let ⟨j,_,_,h⟩:=cw h;{(j),h}
def gJ {i j:Nat}{v:V}(h:lk[i]?=ν (ν j))(e:σ[j]?=ν (ν v)):(dv lk σ)[i]?=ν (ν v):=by
 unfold dv;rw[ZS,h];simp only[Option.map_some];rw[e]
def ib {i:Nat}{b:B}(h:(bR lk β)[i]?=ν (ν b)):∃j b',lk[i]?=ν (ν j)/\β[j]?=ν (ν b')/\VU (ν b')=ν b:=by
 unfold bR at h;rw[ZS]at h;cases q:lk[i]? with
 |none=>rw[q]at h;cases h
 |some l =>
  rw[q]at h;cases l with
  |none=>cases h
  |some j =>
   simp only[Option.map_some]at h;cases q2:β[j]? with
   |none=>rw[q2]at h;cases h
   |some b2 =>
    rw[q2]at h;simp only[Option.some.injEq]at h;cases b2 with
    |none=>cases h
    |some b'=>exact{(j),b',rfl,q2,h}
def cu.enter (s:cu P w C σ H β own)(ha:H a=ξ)(inj:∀(i i' j:Nat),lk[i]?=ν (ν j)->lk[i']?=ν (ν j)->i=i'):
  cu P w (C.u λc=>c=a) (dv lk σ) (upd H a (.lst [])) (bR lk β) (bh lk β own):=by
 have sm:au H (upd H a (.lst [])):=au.new ha;have na:∀{i c},c∈own i->c≠a:=λ{i c} hc z=>(s.dm i c hc).1 (by rw[z];exact ha)
 have gr:∀k,∀c,gk (C.u λc=>c=a) (Wn (bh lk β own)) k c->gk C (Wn own) k c\/H c=ξ:=λk c z=>by
  rcases z with z|z
  ·exact .inl (.inl (mM bt k c z))
  ·exact .inr (by rw[z];exact ha)
 refine⟨by unfold bR dv;simp,λi y d e=>?_,λi d e=>?_,λi ok e=>?_,λi c h=>?_,λi i' c h1 h2=>?_,λi=>?_,s.kp.trans sm.kp,λc z e=>s.iI c z (sm.free e),λi y d e=>by
  obtain⟨j,b',e1,e2,e3⟩:=ib e;cases b' <;> cases e3⟩
 ·obtain⟨j,b',e1,e2,e3⟩:=ib e;cases b' with
  |val y' d' =>
   cases e3;obtain⟨v,h1,h2⟩:=s.val j y d e2;exact{v,gJ e1 h1,(az.grow (gr _) h2).same sm}
  |own d' =>
   cases e3;obtain⟨v,h1,h2,h3⟩:=s.ow j d e2;refine{v,gJ e1 h1,az.same sm (h2.rep λc hc z=>?_)};rcases z with z|z
   ·obtain⟨i',gj⟩:=z;obtain⟨j',q1,q2,q3⟩:=cw gj;have:=s.mJ j j' c hc q3;subst this;rw[e2]at q2;cases q2
   ·exact na hc z
  |hand ok=>cases e3
  |shl y' d' =>
   cases e3;obtain⟨v,h1,h2,h3⟩:=s.shl j y' d e2;refine{v,gJ e1 h1,az.same sm (h2.rep (λc hc z=>?_) λds vs r=>ai.grow (λc z=>?_) r)}
   ·rcases z with z|z
    ·obtain⟨i',gj⟩:=z;obtain⟨j',q1,q2,q3⟩:=cw gj;have:=s.mJ j j' c hc q3;subst this;rw[e2]at q2;cases q2
    ·exact na hc z
   ·rcases gr _ c z with z|z
    ·refine .inl ?_;rcases z with z|z
     ·exact .inl (.inl z)
     ·exact .inr z
    ·exact .inr z
 ·obtain⟨j,b',e1,e2,e3⟩:=ib e;cases b' <;> cases e3
 ·obtain⟨j,b',e1,e2,e3⟩:=ib e;cases b' with
  |val y' d'=>cases e3
  |own d'=>cases e3
  |shl y d=>cases e3
  |hand Bk =>
   cases e3;obtain⟨h,ns,h1,h2,h3,h4,h5⟩:=s.pD j ok e2;refine{h,ns,gJ e1 h1,sm _ _ h2,h3,?_,h5};unfold bh;rw[e1];simp only;rw[e2];exact(χ rfl).trans h4
 ·obtain⟨j,q1,q2,q3⟩:=cw h;obtain⟨g1,g2,g3,g4⟩:=s.dm j c q3;rw[aw (na q3)];exact{g1,g2,g3,na q3}
 ·obtain⟨j,q1,q2,q3⟩:=cw h1;obtain⟨j',VC,Zi,Xp⟩:=cw h2;have:=s.mJ j j' c q3 Xp;subst this;exact inj _ _ _ q1 VC
 ·unfold bh
  split
  ·next j e =>
   split
   ·exact s.lV j
   ·exact aaH
  ·exact aaH
def cu.FR {o:HO}(s:cu P w (C.u λc=>c=a) σ H β own){oa:HO}(ha:H a=ν oa)(ht:∀xs,oa≠.tup xs)(h0:C.H0 a=ξ):cu P w (C.u λc=>c=a) σ (upd H a o) β own:=by
 have k:Kp (·=a) H (upd H a o):=kK ha ht;have na:∀{i c},c∈own i->c≠a:=λ{i c} hc=>(s.dm i c hc).2.2.2;refine⟨s.len,λi y d e=>let ⟨v,h1,h2⟩:=s.val i y d e;{v,h1,h2.keep (k.mono λc z=>.inr z)},λi d e=>let ⟨v,h1,h2,h3⟩:=s.ow i d e;{v,h1,h2.keep k.tup (λc hc oc ec=>k.out c oc ec (na hc)),h3},
  λi ok e=>?_,λi c h=>?_,s.mJ,s.lV,{λc oc z n=>k.out c oc (s.kp.out c oc z n) λq=>?_,λc xs z=>k.tup c xs (s.kp.tup c xs z)},λc z=>?_,λi y d e=>let ⟨v,h1,h2,h3⟩:=s.shl i y d e;{v,h1,h2.map (λc hc oc ec=>k.out c oc ec (na hc)) (λ_ _ r=>r.keep (k.mono λc z=>.inr z)),h3}⟩
 ·obtain⟨h,ns,h1,h2,h3,h4,h5⟩:=s.pD i ok e;exact{h,ns,h1,k.out h _ h2 (na (by rw[h4];simp)),h3,h4,h5}
 ·rw[aw (na h)];exact s.dm i c h
 ·rw[q,h0]at z;cases z
 ·by_cases q:c=a
  ·rw[q,ao];exact λz=>(nomatch z)
  ·rw[aw q];exact s.iI c z
def cu.leave (s:cu P w C σ H1 β own)(i:cu P w (C.u λc=>c=a) σ' H' βi fe)(n:Sn (H1,Wn (bh lk β own)) H' (Wn fe))(le:∀c,Wn fe c->Wn (bh lk β own) c)
  (hh:dw (bR lk β) βi) (hσ:∀(j:Nat) (ok:List Int->Prop) (i:Nat),β[j]?=ν (ν (B.hand ok))->lk[i]?=ν (ν j)->σ'[i]?=(dv lk σ)[i]?):cu P w C σ H' β own:=by
 have off:∀{j c},c∈own j->¬ Wn (bh lk β own) c->∀o,H1 c=ν o->H' c=ν o:=λ{j c} hc nw o e=>n.k.out c o e λz=>z.elim nw λz=>(s.dm j c hc).1 z;have OJ:∀{j c},c∈own j->QC β[j]?=η->¬ Wn (bh lk β own) c:=λ{j c} hc q r_=>by
  obtain⟨i',gj⟩:=r_;obtain⟨j',q1,q2,q3⟩:=cw gj;have:=s.mJ j j' c hc q3;subst this;rw[q]at q2;cases q2
 have hN:∀(j:Nat) (ok:List Int->Prop),β[j]?=ν (ν (B.hand ok))->∃a ns,σ[j]?=ν (ν (V.ref a))/\H' a=ν (.lst (ns.map V.int))/\ok ns/\own j=[a]/\((∀b,¬ C.IO b)\/C.IO a):=λj ok e=>by
  obtain⟨h,ns,h1,h2,h3,h4,h5⟩:=s.pD j ok e
  by_cases q:Wn (bh lk β own) h
  ·obtain⟨i',gj⟩:=q;obtain⟨j',q1,q2,q3⟩:=cw gj;have:=s.mJ j j' h (by rw[h4];simp) q3
   subst this;have eB:(bR lk β)[i']?=ν (ν (.hand ok)):=by
    unfold bR;rw[ZS,q1];simp only[Option.map_some];rw[e];rfl
   obtain⟨h',qg,g1,g2,g3,g4,g5⟩:=i.pD i' ok (hh.get eB);rw[hσ j ok i' e q1,gJ q1 h1]at g1;cases g1;exact{(h),qg,h1,g2,g3,h4,h5}
  ·exact{h,ns,h1,off (by rw[h4];simp) q _ h2,h3,h4,h5}
 refine⟨s.len,λj y d e=>?_,λj d e=>?_,hN,λj c hc=>?_,s.mJ,s.lV,i.kp,i.iI,λj y d e=>by
  obtain⟨v,h1,h2,h3⟩:=s.shl j y d e;refine{v,h1,h2.map (λc hc o eo=>off hc (OJ hc (by rw[e];rfl)) o eo) (λds vs r=>?_),h3}
  have g:ai P w (λc=>gk C (Wn own) (yk ζ) c\/H1 c=ξ) H1 ds vs:=ai.grow (λc z=>z) r;refine ai.aZ (λc z=>.inl z) (g.keep (n.k.mono λc z=>z.imp (λz=>?_) id));exact .inl (.inl (bt c z))⟩
 ·obtain⟨v,h1,h2⟩:=s.val j y d e;have g:az P w (λc=>gk C (Wn own) (yk y) c\/H1 c=ξ) H1 d v:=az.grow (λc z=>z) h2;refine{v,h1,az.aZ (λc z=>.inl z) (g.keep (n.k.mono λc z=>z.imp (λz=>?_) id))};cases y with
  |true=>exact .inl (.inl (bt c z))
  |false=>exact .inl (bt c z)
 ·obtain⟨v,h1,h2,h3⟩:=s.ow j d e;exact{v,h1,h2.keep n.k.tup (λc hc o eo=>off hc (OJ hc (by rw[e];rfl)) o eo),h3}
 ·obtain⟨g1,g2,g3,g4⟩:=s.dm j c hc
  by_cases q:Wn (bh lk β own) c
  ·obtain⟨i',gj⟩:=q;obtain⟨j',q1,q2,q3⟩:=cw gj;have:=s.mJ j j' c hc q3;subst this;cases e:β[j]? with
   |none=>rw[e]at q2;cases q2
   |some b =>
    rw[e]at q2;cases b with
    |none=>cases q2
    |some b =>
     cases b with
     |val y d=>cases q2
     |own d=>cases q2
     |shl y d=>cases q2
     |hand ok =>
      obtain⟨h,ns,k1,k2,k3,k4,k5⟩:=hN j ok e;rw[k4]at hc;rw[ZJ.mp hc]at g3 g4 ⊢
      rw[k2];exact{λz=>(nomatch z),λxs z=>(by cases z),g3,g4}
  ·cases e:H1 c with
   |none=>exact Η e g1
   |some o=>rw[off hc q o e];exact{λz=>(nomatch z),λxs z=>g2 xs (by rw[e];exact z),g3,g4}
end
def MZ:aV:=λβ R=>R ζ β
def Cw {X:Cx}{C:Cfg}:vz X [] (iO X C ζ MZ):=F5.pre λσ H Q ⟨β,own,s,q⟩=>q H own (Out.refl s _)
def Cv {X:Cx}{C:Cfg}{p:Bool}{c:Expr}{τ:aV}(h:Be X C p c τ):vz X [c] (iO X C p τ):=F4 h.pt
def iB (γ:cJ)(τ:aV)(φ:aM)(ds:List D)(k:Kd)(β0:a6)(K:List D->Prop):Prop:=∃I:Nat->a6->List D->Prop,I 0 β0 [] /\
 (∀i d β o,ds[i]?=ν d->I i β o->γ d (sk k d) β λβ1=>τ β1 λt β2=>if t=ζ then φ β2 λx kx β3=>Fb kx x/\o.length<Z3/\I (i+1) β3 (o++[x]) else I (i+1) β2 o)/\∀β o,I ds.length β o->dw β0 β/\K o
def iB.mono {γ:cJ}{τ:aV}{φ:aM}{ds:List D}{k:Kd}{β0:a6}{K K':List D->Prop}(h:∀o,K o->K' o)(q:iB γ τ φ ds k β0 K):iB γ τ φ ds k β0 K':=let ⟨I,h0,h1,h2⟩:=q;{I,h0,h1,λβ o z=>{(h2 β o z).1,h _ (h2 β o z).2}}
section
variable {X:Cx}{C:Cfg}{lk:List (Option Nat)}{γ:cJ}{τ:aV}{φ:aM}{T:List Nat}{pc pe:Bool}
def kY {σ:St}{H1:Hp}{β:a6}{own:Nat->List θ}{a:θ}{J:It}{ds:List D}{k:Kd}{K:List D->Prop}{End:Hp->Prop}
  (γm:∀d k β R R',(∀r,R r->R' r)->γ d k β R->γ d k β R') (τm:∀β R R',(∀d β,R d β->R' d β)->τ β R->τ β R') (φm:∀β R R',(∀d k β,R d k β->R' d k β)->φ β R->φ β R')
  (inj:∀(i i' j:Nat),lk[i]?=ν (ν j)->lk[i']?=ν (ν j)->i=i') (hT:∀i∈T,∀j,lk[i]?≠ν (ν j))
  (s1:SQ X C σ H1 β own) (ha:H1 a=ξ) {hp:Bool} (V7:hp=ζ->(pc&&pe)=ζ) (hk:hold k hp) (it:vN X (av C (Wn own) k) J ds H1) (q:iB γ τ φ ds k (bR lk β) K)
  (fin:∀o H',K o->Out X C σ H1 own (pc&&pe) β H' own->KV X.prog X.w C (H1,Wn own) own H' .own (.lst o) (.ref a)->End H') :
  fo J (λv σ H Q=>∃own β d k,SQ X (C.u λc=>c=a) σ H β own/\Rp X (gk (C.u λc=>c=a) (Wn own) k) H d v/\γ d k β λβ'=>∀σ' aR,SQ X (C.u λc=>c=a) σ' H β' aR->(∀a,Wn aR a->Wn own a)->(∀j,j∉T->σ'[j]?=σ[j]?)->Q σ' H)
   (iO X (C.u λc=>c=a) pc τ) (λN σ H=>tQ X (C.u λc=>c=a) pe φ σ H λv H1=>∃xs,H1 a=ν (.lst xs)/\xs.length<Z3/\N σ (upd H1 a (.lst (xs++[v]))))
   (λ_ H'=>End H') (dv lk σ) (upd H1 a (.lst [])):=by
 obtain⟨I,i0,i1,i2⟩:=q;have h0:C.H0 a=ξ:=aax λz=>s1.iI a z ha;have sm:au H1 (upd H1 a (.lst [])):=au.new ha;have VP:∀c,Wn (bh lk β own) c->c≠a:=λc z e=>by
  obtain⟨j,hj⟩:=bt c z;exact(s1.dm j c hj).1 (by rw[e];exact ha)
 let S:Nat->St->Hp->Prop:=λi σ' H'=>∃βi fe vs o A,SQ X (C.u λc=>c=a) σ' H' βi fe/\Sn (H1,Wn (bh lk β own)) H' (Wn fe)/\(∀c,Wn fe c->Wn (bh lk β own) c)/\H' a=ν (.lst vs)/\aK X.prog X.w H' o vs A/\A.Nodup/\(∀c∈A,H1 c=ξ/\c≠a) /\
  ((pc&&pe)=ζ->au H1 H')/\(∀j,j∉T->σ'[j]?=(dv lk σ)[j]?)/\I i βi o
 have W':θ->Prop:=λb=>av C (Wn own) k b\/H1 b=ξ;have Iz:=it (λb=>av C (Wn own) k b\/H1 b=ξ) λb z=>z;have kI:∀{H':Hp} {fe:Nat->List θ},Sn (H1,Wn (bh lk β own)) H' (Wn fe)->((pc&&pe)=ζ->au H1 H')->Kp (λb=>av C (Wn own) k b\/H1 b=ξ) H1 H':=λn pu=>by
  cases k with
  |own=>exact n.k.mono λb z=>z.imp (λz=>.inl (bt b z)) id
  |d9=>exact n.k.mono λb z=>z.imp (λz=>.inl (bt b z)) id
  |old=>exact n.k.mono λb z=>z.imp (bt b) id
  |bor =>
   cases hp with
   |false=>exact hk.elim
   |true=>exact(pu (V7 rfl)).kp.mono λb z=>.inr z
 refine{λi m σ' H'=>i<=ds.length/\m=ds.length-i/\S i σ' H',{_,ZW _,rfl,bR lk β,bh lk β own,[],[],[],s1.enter ha inj,{λb z=>.inl z,sm.kp,λb z e=>z (sm.free e)},λ_ z=>z,ao,{(rfl),rfl},aaH,λc hc=>(nomatch hc),λ_=>sm,λ_ _=>rfl,i0},?_};rintro i m σ2 H2 ⟨hi,rfl,βi,fe,vs,o,A,sq,sn,le,MJ,os,nd,nw,pu,st,hl⟩;obtain⟨bQ,iD⟩:=Iz i H2 (kI sn pu)
 by_cases d3:i<ds.length
 ·right
  have hd:ds[i]?=ν ds[i]:=ZU d3;obtain⟨go,yl⟩:=bQ _ hd;refine{go,λσ' H'=>S (i+1) σ' H',λσ' H' h=>{_,by omega,d3,rfl,h},λx H3 y=>?_}
  obtain⟨s3,r3⟩:=yl x H3 y;have YS:∀{fe:Nat->List θ},(∀c,Wn fe c->Wn (bh lk β own) c)->∀c,gk (C.u λc=>c=a) (Wn fe) k c->av C (Wn own) k c\/H1 c=ξ:=λle c z=>z.elim (λz=>.inl (mM (λc z=>bt c (le c z)) k c z)) λz=>.inr (by rw[z];exact ha)
  refine{fe,βi,_,_,sq.same s3,rD (az.aZ (YS le) r3),γm _ _ _ _ _ (λβ4 q σ4 tV s4 w4 t4=>?_) (i1 i _ βi o hd hl)};have Oh:∀c,Wn tV c->Wn (bh lk β own) c:=λc z=>le c (w4 c z);refine{β4,tV,s4,τm _ _ _ (λt β5 q H5 jC o5=>?_) q};have Qz:∀c,Wn jC c->Wn (bh lk β own) c:=λc z=>Oh c (o5.le c z);have Dp:∀c,c∈a::A->∀oc,H2 c=ν oc->H5 c=ν oc:=λc hc oc e=>by
   refine o5.sn.k.out c oc (s3 c oc e) λz=>?_;rcases z with z|z
   ·rcases ZI.mp hc with rfl|hc
    ·exact VP _ (Oh _ z) rfl
    ·obtain⟨j,hj⟩:=bt c (Oh c z);exact(s1.dm j c hj).1 (nw c hc).1
   ·exact Η ((s3 c oc e).symm.trans z) (λz=>(nomatch z))
  have XN:∀b xs,H2 b=ν (.tup xs)->H5 b=ν (.tup xs):=λb xs e=>o5.sn.k.tup b xs (s3 b _ e);have Kj:aK X.prog X.w H5 o vs A:=os.keep XN λc hc oc e=>Dp c (by simp[hc]) oc e
  have Ry:Sn (H1,Wn (bh lk β own)) H5 (Wn jC):=(jo (sn.same s3) w4).trans o5.sn;have VD:(pc&&pe)=ζ->au H1 H5:=λz=>((pu z).trans s3).trans (o5.pu (ES z)).1;have Nb:∀j,j∉T->σ4[j]?=(dv lk σ)[j]?:=λj hj=>(t4 j hj).trans (st j hj);cases t with
  |false=>exact{β5,jC,vs,o,A,o5.sq,Ry,Qz,Dp a (by simp) _ MJ,Kj,nd,nw,VD,Nb,q}
  |true =>
   refine{β5,jC,o5.sq,φm _ _ _ (λxd kx β6 fA v H6 CK o6 r6=>?_) q};obtain⟨f,hz,q⟩:=fA;obtain⟨B',r1,r2,MA⟩:=r6.fl f;have xc:H5 a=ν (.lst vs):=Dp a (by simp) _ MJ
   have Iv:∀c,c∈a::A->∀oc,H5 c=ν oc->H6 c=ν oc:=λc hc oc e=>by
    refine o6.sn.k.out c oc e λz=>?_;rcases z with z|z
    ·rcases ZI.mp hc with rfl|hc
     ·exact VP _ (Qz _ z) rfl
     ·obtain⟨j,hj⟩:=bt c (Qz c z);exact(s1.dm j c hj).1 (nw c hc).1
    ·exact Η (e.symm.trans z) (λz=>(nomatch z))
   have uI:H6 a=ν (.lst vs):=Iv a (by simp) _ xc
   have VG:aK X.prog X.w H6 o vs A:=Kj.keep o6.sn.k.tup λc hc oc e=>Iv c (by simp[hc]) oc e
   have Xz:∀c∈A,c≠a:=λc hc=>(nw c hc).2;have N1:∀c∈B',c≠a:=λc hc z=>by rw[z]at hc;exact Η (xc.symm.trans (MA a hc).1) (λz=>(nomatch z))
   have kt:∀b xs,H6 b=ν (.tup xs)->upd H6 a (.lst (vs++[v])) b=ν (.tup xs):=λb xs z=>by rw[aw (λz'=>by rw[z',uI]at z;cases z)];exact z
   refine{vs,uI,by rw[VG.length];exact hz,β6,CK,vs++[v],o++[xd],A++B',o6.sq.FR uI (λxs z=>by cases z) h0,?_,λc z=>Qz c (o6.le c z),ao,?_,?_,λc hc=>?_,λz=>?_,Nb,q}
   ·have m:=Ry.trans o6.sn;refine{m.w,m.k.trans ((kK uI (λxs z=>by cases z)).mono λb z=>.inr (by rw[z];exact ha)),λb z e=>?_}
    by_cases hb:b=a
    ·rw[hb,ao]at e;cases e
    ·rw[aw hb]at e;exact m.d b z e
   ·exact(VG.keep kt λc hc oc e=>by rw[aw (Xz c hc)];exact e).append (aK.one (r1.keep kt λc hc oc e=>by rw[aw (N1 c hc)];exact e))
   ·refine aaz.mpr {nd,r2,λx hx y hy e=>?_};subst e;have:=(MA x hy).1;exact(Kj.oZ x hx).1 this
   ·rcases ZT.mp hc with hc|hc
    ·exact nw c hc
    ·exact{Ry.free (MA c hc).1,N1 c hc}
   ·refine λb ob e=>?_;rw[aw (λz'=>by rw[z',ha]at e;cases e)]
    exact(o6.pu (U3 z)).1 b ob (VD z b ob e)
 ·left
  have e:i=ds.length:=by omega
  subst e;obtain⟨hh,q⟩:=i2 βi o hl;have lv:SQ X C σ H2 β own:=s1.leave sq sn le hh λj ok i' e1 e2=>st i' λz=>hT i' z j e2;refine{iD (ZG _),fin o H2 q {lv,{λb z=>.inl z,sn.k.mono λb z=>z.imp (bt b) id,sn.d},λz=>{pu z,rfl},λ_ z=>z} {a::A,{(a),vs,A,rfl,MJ,rfl,os},aac.mpr {λz=>(nw a z).2 rfl,nd},λc hc=>?_}};have pF:H1 c=ξ:=by
   rcases ZI.mp hc with rfl|hc
   ·exact ha
   ·exact(nw c hc).1
  exact{pF,λHa=>by obtain⟨j,hj⟩:=Ha;exact(s1.dm j c hj).1 pF,aax λz=>s1.iI c z pF}
def bw {scope:acj}{N':List Str}(L:Links X scope N' lk)(hN:N'.Nodup):∀(i i' j:Nat),lk[i]?=ν (ν j)->lk[i']?=ν (ν j)->i=i':=λi i' j h1 h2=>by
 obtain⟨x,a1,a2,_⟩:=L.link i j h1;obtain⟨y,b1,b2,_⟩:=L.link i' j h2;rw[a2]at b2;cases b2;exact(List.getElem?_inj (Z1.mp a1).1 hN).mp (a1.trans b1.symm)
def yb (lk:List (Option Nat))(ι:bS)(γ:cJ)(τ:aV)(φ:aM):aM:=λβ R=>ι β λds k β1=>hold k η/\iB γ τ φ ds k (bR lk β1) λo=>R (.lst o) .own β1
variable {scope:acj}{N':List Str}{tg bQ elt:Expr}{ifs:List Expr}{ι:bS}{pi:Bool}{pos pos' td:Pos}{y:Str}{i:Nat}
def NH (L:Links X scope N' lk)(lL:N'.Nodup)(hT:T.all (λi=>match lk[i]? with|some (ν _)=>η|_=>ζ)=ζ)(hc:X.calm=ζ)(hi:vA X C pi tg bQ ι)
  (lK:∀a cl c s H ex,vB (ar X scope N' cl c s H ex) (C.u λc=>c=a) tg T γ) (f_:∀a cl c s H ex,vz (ar X scope N' cl c s H ex) ifs (iO (ar X scope N' cl c s H ex) (C.u λc=>c=a) pc τ)) (τm:∀β R R',(∀d β,R d β->R' d β)->τ β R->τ β R')
  (jP:∀a cl c s H ex,PQ (ar X scope N' cl c s H ex) (C.u λc=>c=a) pe elt φ) (γm:∀d k β R R',(∀r,R r->R' r)->γ d k β R->γ d k β R') (φm:∀β R R',(∀d k β,R d k β->R' d k β)->φ β R->φ β R')
  (hs:∀x,aay bQ X.env x=pure x:=by intro _;rfl):PQ X C (pi&&(pc&&pe)) (.ListComp elt [{tg,bQ,ifs,0}] scope pos) (yb lk ι γ τ φ):=by
 have AB:∀i∈T,∀j,lk[i]?≠ν (ν j):=λi hi j e=>by
  have:=abq.mp hT i hi;rw[e]at this;cases this
 refine{λβ R R' k h=>hi.mono β _ _ (λds kd β1 q=>{q.1,q.2.mono λo z=>k _ _ _ z}) h,?_};refine(eF (g:={tg,bQ,ifs,0}) (gs:=[]) (tg:=λa v σ H Q=>∃own β d k,SQ X (C.u λc=>c=a) σ H β own/\Rp X (gk (C.u λc=>c=a) (Wn own) k) H d v/\γ d k β λβ'=>∀σ' aR,SQ X (C.u λc=>c=a) σ' H β' aR->(∀a,Wn aR a->Wn own a)->(∀j,j∉T->σ'[j]?=σ[j]?)->Q σ' H)
  (tt:=λa=>iO X (C.u λc=>c=a) pc τ) (ta:=λa N σ H=>tQ X (C.u λc=>c=a) pe φ σ H λv H1=>∃xs,H1 a=ν (.lst xs)/\xs.length<Z3/\N σ (upd H1 a (.lst (xs++[v]))))
  L hc gC rfl rfl (λ_ _=>zg) hi.pi (λa cl c s H ex=>{(lK a cl c s H ex).pg,f_ a cl c s H ex,gB rfl (jP a cl c s H ex).pe}) hs).pre λσ H Q ⟨β,own,s,h⟩=>?_
 refine{β,own,s,hi.mono β _ _ (λds k β1 n9 J H1 aC o1 it a ha=>?_) h};obtain⟨hk,q⟩:=n9;exact kY γm τm φm (bw L lL) AB o1.sq ha (hp:=η) (λz=>by cases z) hk it q λo H' q o2 r=>q _ _ aC (o1.trans o2) (r.later o1.sn)
def NC {K:D->a6->dB->Prop}(L:Links X scope N' lk)(lL:N'.Nodup)(hT:T.all (λi=>match lk[i]? with|some (ν _)=>η|_=>ζ)=ζ)(hc:X.calm=ζ)(hi:∀U,vA X (C.u U) pi tg bQ ι)
  (lK:∀U cl c s H ex,vB (ar X scope N' cl c s H ex) (C.u U) tg T γ) (f_:∀U cl c s H ex,vz (ar X scope N' cl c s H ex) ifs (iO (ar X scope N' cl c s H ex) (C.u U) pc τ)) (τm:∀β R R',(∀d β,R d β->R' d β)->τ β R->τ β R')
  (jP:∀U cl c s H ex,PQ (ar X scope N' cl c s H ex) (C.u U) pe elt φ) (γm:∀d k β R R',(∀r,R r->R' r)->γ d k β R->γ d k β R') (φm:∀β R R',(∀d k β,R d k β->R' d k β)->φ β R->φ β R') (o:Bool)
  (hN:X.N.Nodup) (hy:X.N[i]?=ν y:=by rfl) (hx:Loc X.env.scope y:=by first|exact .inl rfl|exact .inr rfl) (hf:X.fn y=ζ\/X.env.scope.names.lookup y=ν .local:=by first|exact .inl rfl|exact .inr rfl|assumption)
  (vH:ab4 (.ListComp elt [{tg,bQ,ifs,0}] scope pos) (ν (.Name y pos')) td.line X.env=pure ζ:=by rfl)
  (LM:evalThenUse (.ListComp elt [{tg,bQ,ifs,0}] scope pos) X.env (assign (.Name y pos') X.env)=(do let _ <- comprehension (.ListComp elt [{tg,bQ,ifs,0}] scope pos) scope X.env (firstIterPos [{tg,bQ,ifs,0}] pos) (newList []) η (eval bQ X.env) (ν (assign (.Name y pos') X.env));pure ()):=by first|rfl|exact arm_evalThenUse_ListComp ..)
  (hs:∀x,aay bQ X.env x=pure x:=by intro _;rfl) :
  PB X C (.Assign [.Name y pos'] (.ListComp elt [{tg,bQ,ifs,0}] scope pos) td) (λE β=>yb lk ι γ τ φ β λd _ β'=>E.nx (β'.set i (ν (match o with|true=>.own d|false=>.val ζ d)))):=by
 have AB:∀i∈T,∀j,lk[i]?≠ν (ν j):=λi hi j e=>by
  have:=abq.mp hT i hi;rw[e]at this;cases this
 refine{λE E' β l h=>(hi λ_=>False).mono β _ _ (λds kd β1 q=>{q.1,q.2.mono λo z=>l.nx _ z}) h,λμ s σ H D I0 wZ=>?_};obtain⟨Z,E,β,⟨own,sq,n⟩,h,ok⟩:=wZ;refine Cs (g:={tg,bQ,ifs,0}) (gs:=[]) (tg:=λa v σ H Q=>∃own β d k,SQ X (C.u λc=>c=a) σ H β own/\Rp X (gk (C.u λc=>c=a) (Wn own) k) H d v/\γ d k β λβ'=>∀σ' aR,SQ X (C.u λc=>c=a) σ' H β' aR->(∀a,Wn aR a->Wn own a)->(∀j,j∉T->σ'[j]?=σ[j]?)->Q σ' H)
  (tt:=λa=>iO X (C.u λc=>c=a) pc τ) (ta:=λa N σ H=>tQ X (C.u λc=>c=a) pe φ σ H λv H1=>∃xs,H1 a=ν (.lst xs)/\xs.length<Z3/\N σ (upd H1 a (.lst (xs++[v]))))
  L hc gC vH LM rfl hN hy hx hf (λ_ _=>zg) (hi λa=>H a=ξ).pi (λa cl c s H ex=>{(lK _ cl c s H ex).pg,f_ _ cl c s H ex,gB rfl (jP _ cl c s H ex).pe}) hs μ s σ H D I0 ?_
 refine{β,own,sq.mQ (C:=C.z) (U:=λa=>H a=ξ) λa z=>z,(hi λ_=>False).mono β _ _ (λds k β1 OB J H1 aC o1 it a ha=>?_) h};obtain⟨hk,q⟩:=OB;refine kY (C:=C.u λa=>H a=ξ) γm τm φm (bw L lL) AB o1.sq ha (hp:=η) (λz=>by cases z) hk it q λol H' q o2 r=>?_
 have r':=r.later o1.sn;have oo:=o1.trans o2;have m:=n.trans oo.sn;cases o with
 |false=>exact ok.nx _ _ _ {_,(cu.Xx oo.sq).fG (az.aZ (λa z=>z.elim id λz=>z.elim) (KV.rep r')),wb m} q
 |true =>
  obtain⟨A,h1,h2,h3⟩:=r';refine ok.nx _ _ _ {_,oo.sq.Ca h1 h2 λc hc=>{(h3 c hc).2.2,(h3 c hc).2.1,(h3 c hc).1},?_} q;exact⟨λb sd=>by
   obtain⟨j,hj⟩:=sd
   by_cases aG:i=j
   ·rw[<- aG,os_eq]at hj;exact .inr (n.free (h3 b hj).1)
   ·rw[bM aG]at hj;exact m.w b {(j),hj},m.k,m.d⟩
end
end L2.Q
namespace Zp
structure Mw (prog:ZN)(w:Z4)(i l:θ)(vs:List ZF)(St:Nat->Heap->Prop)(Ct:Heap->Prop):Prop where
 obj:∀k h,St k h->∃o,h.get? i=ν o/\∀v,o.data≠.cell v
 keep:∀k h h',St k h->(∀o,h.get? i=ν o->h'.get? i=ν o)->St k h'
 kept:∀h h',Ct h->(∀o,h.get? l=ν o->h'.get? l=ν o)->Ct h'
 item:∀(A:aaJ) (E:ZF->ZH->Prop) (s:ZH) (k:Nat) (x:ZF) (Q:ZF->ZH->Prop),St k s.heap->Ct s.heap->vs[k]?=ν x ->
  (∀h',St (k+1) h'->abr i s.heap h'->Q x {s with heap:=h'})->aab (Ψ prog w) A (aaT (.ref i)) Q E s
 done:∀(A:aaJ) (E:ZF->ZH->Prop) (s:ZH) (k:Nat) (Q:ZF->ZH->Prop),A.handled=ξ->St k s.heap->Ct s.heap->vs[k]?=ξ ->
  (∀h' e,Heap.ExtBut i s.heap h'->(∃o,h'.get? e=ν o/\o.cls=.type "StopIteration")->E (.ref e) {s with heap:=h'})->aab (Ψ prog w) A (aaT (.ref i)) Q E s
variable {prog:ZN}{w:Z4}
def Eo {i l:θ}{vs:List ZF}:Mw prog w i l vs (λk h=>h.IsListIter i l k) (λh=>h.IsList l vs.toArray) where
 obj:=λk h ⟨o,a,_,d⟩=>{o,a,λv z=>by rw[d]at z;cases z}
 keep:=λk h h' a k1=>a.at k1
 kept:=λh h' b k2=>b.at k2
 item:=λA E s k x Q a b hx q=>wpAny_nextOf_list_item a b (by simpa using hx) λh' a' sb=>q h' a' sb
 done:=λA E s k Q hh a b hx q=>wpAny_nextOf_list_end hh a b (by simpa using hx) q
def C0 {A:aaJ}{E:ZF->ZH->Prop}{s:ZH}{i l:θ}{k:Nat}{its:Array ZF}{x:ZF}{Q:ZF->ZH->Prop}(a:s.heap.IsTupleIter i l k)(b:s.heap.IsTuple l its)(hx:its[k]?=ν x)
  (q:∀h',h'.IsTupleIter i l (k+1)->abr i s.heap h'->Q x {s with heap:=h'}):aab (Ψ prog w) A (aaT (.ref i)) Q E s:=by
 have hT:=a.typeIs;obtain⟨oi,gi,ci,di⟩:=a;obtain⟨ol,gl,cl,nl,dl⟩:=b;unfold aaT;apply ZD;apply abw (name:=acx "__next__") hT F.slot_tuple_iterator_next;apply aa3 F.slot_tuple_iterator_next hT F.entry_tuple_iterator_next _ (F.args_tuple_iterator_next_1 _)
 change aab (Ψ prog w) _ (field (.ref i) 0 >>= _) _ _ s
 apply ZD;apply abG gi di (x:=.ref l) rfl;rw[ω (by intro z;cases z)]
 change aab (Ψ prog w) _ (field (.ref i) 1 >>= _) _ _ s
 apply ZD;apply abG gi di (x:=.int k 0) rfl
 change aab (Ψ prog w) _ (seqItems? (.ref l) >>= _) _ _ s
 apply ZD;apply abu gl dl;simp only[aa0,hx];apply ZD;apply wpAny_setField gi di (by simp)
 refine ZL {x,rfl,?_};refine ZL (q _ {_,Heap.get?_update_self _ gi (Obj.isFreed_of_fields (Obj.data_mapFields di _)),?_,?_} (ack ..))
 ·rw[Obj.cls_mapFields];exact ci
 ·rw[Obj.data_mapFields di];simp[rawInt]
def Hq {A:aaJ}{E:ZF->ZH->Prop}{s:ZH}{i l:θ}{k:Nat}{its:Array ZF}{Q:ZF->ZH->Prop}(hh:A.handled=ξ)(a:s.heap.IsTupleIter i l k)(b:s.heap.IsTuple l its)(hx:its[k]?=ξ)
  (q:∀h' e,Heap.ExtBut i s.heap h'->(∃o,h'.get? e=ν o/\o.cls=.type "StopIteration")->E (.ref e) {s with heap:=h'}):aab (Ψ prog w) A (aaT (.ref i)) Q E s:=by
 have hT:=a.typeIs;obtain⟨oi,gi,ci,di⟩:=a;obtain⟨ol,gl,cl,nl,dl⟩:=b;unfold aaT;apply ZD;apply abw (name:=acx "__next__") hT F.slot_tuple_iterator_next;apply aa3 F.slot_tuple_iterator_next hT F.entry_tuple_iterator_next _ (F.args_tuple_iterator_next_1 _)
 change aab (Ψ prog w) _ (field (.ref i) 0 >>= _) _ _ s
 apply ZD;apply abG gi di (x:=.ref l) rfl;rw[ω (by intro z;cases z)]
 change aab (Ψ prog w) _ (field (.ref i) 1 >>= _) _ _ s
 apply ZD;apply abG gi di (x:=.int k 0) rfl
 change aab (Ψ prog w) _ (seqItems? (.ref l) >>= _) _ _ s
 apply ZD;apply abu gl dl;simp only[aa0,hx];apply ZD;apply abY;apply ZD;apply wpAny_setField gi di (by simp)
 change aab (Ψ prog w) _ (newExc (.type "StopIteration") [] >>= _) _ _ _
 apply ZD;simp only[newExc,newTuple];apply ZD;refine abN ?_ (by size_fits)
 apply ZD (m:=firstArgMember _ _);apply wpAny_of_eq (a:=Value.none)
 ·first|rfl|(simp only[firstArgMember];rfl)
 refine abN ?_ (by size_fits);simp only[raiseNew]
 apply ZD;apply wpAny_handled;have QI:A.in1.handled=ξ:=hh
 first|rw[QI]|rw[hh]
 refine ZD (ZL (wpAny_throw (q _ _ (((ack ..).extBut.push _).push _) {_,Z8 _ rfl,rfl})))
def Ht {i l:θ}{vs:List ZF}:Mw prog w i l vs (λk h=>h.IsTupleIter i l k) (λh=>h.IsTuple l vs.toArray) where
 obj:=λk h ⟨o,a,_,d⟩=>{o,a,λv z=>by rw[d]at z;cases z}
 keep:=λk h h' ⟨o,a1,a2⟩ k1=>{o,k1 o a1,a2}
 kept:=λh h' ⟨o',b1,b2⟩ k2=>{o',k2 o' b1,b2}
 item:=λA E s k x Q a b hx q=>C0 a b (by simpa using hx) λh' a' sb=>q h' a' sb
 done:=λA E s k Q hh a b hx q=>Hq hh a b (by simpa using hx) q
structure Apart (z TI TO i1 i2 l1 l2:θ):Prop where
 nd:[z,TI,TO,i1,i2].Nodup
 o1:∀c∈[z,TO,i1,i2],l1≠c
 o2:∀c∈[z,TO,i1,i2],l2≠c
section
variable {A:aaJ}{E:ZF->ZH->Prop}{s:ZH}{z TI TO i1 i2 l1 l2:θ}{vs us:List ZF}{S1 S2:Nat->Heap->Prop}{C1 C2:Heap->Prop}
def Bt (P:Apart z TI TO i1 i2 l1 l2)(D1:Mw prog w i1 l1 vs S1 C1)(D2:Mw prog w i2 l2 us S2 C2){k:Nat}{x y a b:ZF}{Q:Option ZF->ZH->Prop}(hz:IsZip s.heap z TI TO .none)(UA:ab7 s.heap TI (.ref i1) (.ref i2))(Uz:ab7 s.heap TO a b)
  (h1:S1 k s.heap) (h2:S2 k s.heap) (c1:C1 s.heap) (c2:C2 s.heap) (hx:vs[k]?=ν x) (hy:us[k]?=ν y)
  (q:∀h',IsZip h' z TI TO (rawInt s.heap.objs.size)->ab7 h' TO x y->S1 (k+1) h'->S2 (k+1) h'->ab7 h' s.heap.objs.size x y->(∀c o,c∉[z,TO,i1,i2]->s.heap.get? c=ν o->h'.get? c=ν o)->Q (ν (.ref s.heap.objs.size)) {s with heap:=h'}) :
  aab (Ψ prog w) A (acS (.ref z)) Q E s:=by
 have hT:s.TypeIs (.ref z) "zip" := {_,hz,rfl};obtain⟨nd,o1,o2⟩:=P;simp only[aac,ZI,aaX,or_false,not_or,aaH,not_false_eq_true,and_true]at nd;obtain⟨⟨WL,Jm,Jl,My⟩,⟨TITO,TIi1,TIi2⟩,⟨TOi1,TOi2⟩,i12⟩:=nd;have a1:=o1 z (by simp);have a2:=o1 TO (by simp);have a3:=o1 i1 (by simp);have a4:=o1 i2 (by simp)
 have b1:=o2 z (by simp);have b2:=o2 TO (by simp);have b3:=o2 i1 (by simp);have b4:=o2 i2 (by simp)
 unfold acS;apply ZD;apply acz;apply abw (name:=acx "__next__") hT F.slot_zip_next;refine aa3 F.slot_zip_next hT F.entry_zip_next ?_ (F.args_zip_next_1 _)
 change aab (Ψ prog w) _ (field (.ref z) 2 >>= _) _ _ _
 apply ZD;apply abG hz rfl (x:=.bool η) rfl
 change aab (Ψ prog w) _ (field (.ref z) 3 >>= _) _ _ _
 apply ZD;apply abG hz rfl (x:=.ref TI) rfl;apply ZD;apply abu UA rfl
 change aab (Ψ prog w) _ (abH (.ref z) >>= _) _ _ _
 apply ZD;unfold abH;apply ZD;apply abG hz rfl (x:=.none) rfl;apply ZL;simp only[if_true];apply ZD;apply abY;apply ZD;apply abG hz rfl (x:=.ref TO) rfl;apply ZD;refine abp hz (by simp) λg1 y1 e1=>?_
 have z1:IsZip g1 z TI TO .ellipsis:=y1;apply ZD;simp only[List.zipIdx_cons,List.zipIdx_nil,List.forIn_cons,List.forIn_nil];apply ZD;apply ZD;apply wpAny_onRaise
 change aab (Ψ prog w) _ (aaT (.ref i1) >>= _) _ _ _
 apply ZD;refine D1.item _ _ _ k x _ (D1.keep k _ _ h1 (λo e=>e1.extBut _ _ (aa1 Jl) e)) (D1.kept _ _ c1 λo e=>e1.extBut _ _ a1 e) hx λg2 s2 e2=>ZL ?_;have t2:ab7 g2 TO a b:=e2.extBut _ _ TOi1 (e1.extBut _ _ (aa1 Jm) Uz);apply ZD;apply abu t2 rfl;apply ZD;refine wpAny_updateSeq_pair t2 λg3 y3 e3=>?_;have t3:ab7 g3 TO x b:=y3;apply ZD;refine wpAny_letGo (ZL ?_);apply ZD;apply ZD;apply wpAny_onRaise
 change aab (Ψ prog w) _ (aaT (.ref i2) >>= _) _ _ _
 apply ZD;have k2:S2 k g3:=D2.keep k _ _ h2 λo e=>e3.extBut _ _ (aa1 TOi2) (e2.extBut _ _ (aa1 i12) (e1.extBut _ _ (aa1 My) e));have k3:C2 g3:=D2.kept _ _ c2 λo e=>e3.extBut _ _ b2 (e2.extBut _ _ b3 (e1.extBut _ _ b1 e));refine D2.item _ _ _ k y _ k2 k3 hy λg4 s4 e4=>ZL ?_;have t4:ab7 g4 TO x b:=e4.extBut _ _ TOi2 t3;apply ZD;apply abu t4 rfl;apply ZD;refine wpAny_updateSeq_pair t4 λg5 y5 e5=>?_;have t5:ab7 g5 TO x y:=y5;apply ZD;refine wpAny_letGo (ZL (ZL ?_));apply ZD;apply abu t5 rfl;apply ZD;refine wpAny_newTuple ?_;have hsz:g5.objs.size=s.heap.objs.size:=by rw[e5.1,e4.1,e3.1,e2.1,e1.1]
 have z5:IsZip g5 z TI TO .ellipsis:=e5.extBut _ _ Jm (e4.extBut _ _ My (e3.extBut _ _ Jm (e2.extBut _ _ Jl z1)));have old:∀c o,c∉[z,TO,i1,i2]->s.heap.get? c=ν o->g5.get? c=ν o:=λc o hc e=>by
  simp only[ZI,aaX,or_false,not_or]at hc;obtain⟨c1,c2,c3,c4⟩:=hc;exact e5.extBut _ _ c2 (e4.extBut _ _ c4 (e3.extBut _ _ c2 (e2.extBut _ _ c3 (e1.extBut _ _ c1 e))))
 have n1:S1 (k+1) g5:=D1.keep _ _ _ s2 λo e=>e5.extBut _ _ (aa1 TOi1) (e4.extBut _ _ i12 (e3.extBut _ _ (aa1 TOi1) e));have n2:S2 (k+1) g5:=D2.keep _ _ _ s4 λo e=>e5.extBut _ _ (aa1 TOi2) e;have Vm:=Z6 z5
 change aab (Ψ prog w) _ (Builtin.SmallTypes.ownedTupleHandOut (.ref z) (.ref g5.objs.size) >>= _) _ _ _
 apply ZD;unfold Builtin.SmallTypes.ownedTupleHandOut;have z6:IsZip (g5.push {cls:=.type "tuple",data:=.seq #[x,y]}) z TI TO .ellipsis:=ZM _ z5;apply ZD;refine abp z6 (by simp) λg7 y7 e7=>?_
 have z7:IsZip g7 z TI TO (rawInt g5.objs.size):=y7;refine abp z7 (by simp) λg8 y8 e8=>?_
 have z8:IsZip g8 z TI TO (rawInt g5.objs.size):=y8;have up:∀c o,c≠z->g5.get? c=ν o->g8.get? c=ν o:=λc o c1 e=>e8.extBut _ _ c1 (e7.extBut _ _ c1 (ZM _ e));have t8:ab7 g8 g5.objs.size x y:=e8.extBut _ _ (Nat.ne_of_gt Vm) (e7.extBut _ _ (Nat.ne_of_gt Vm) (Z8 _ rfl));rw[hsz]at z8 t8;refine ZL {_,rfl,ZL ?_};show Q (ν (.ref g5.objs.size)) _;rw[hsz];exact q g8 z8 (up _ _ (aa1 Jm) t5) (D1.keep _ _ _ n1 λo e=>up _ _ (aa1 Jl) e) (D2.keep _ _ _ n2 λo e=>up _ _ (aa1 My) e) t8 λc o hc e=>up c o (λw=>hc (by simp[w])) (old c o hc e)
def Ft (P:Apart z TI TO i1 i2 l1 l2)(D1:Mw prog w i1 l1 vs S1 C1)(D2:Mw prog w i2 l2 us S2 C2)(hh:A.handled=ξ){k:Nat}{a b:ZF}{Q:Option ZF->ZH->Prop}(hz:IsZip s.heap z TI TO .none)(UA:ab7 s.heap TI (.ref i1) (.ref i2))(Uz:ab7 s.heap TO a b)
  (h1:S1 k s.heap) (h2:S2 k s.heap) (c1:C1 s.heap) (c2:C2 s.heap) (hx:vs[k]?=ξ\/us[k]?=ξ)
  (q:∀h',(∀c o,c∉[z,TO,i1,i2]->s.heap.get? c=ν o->h'.get? c=ν o)->Q ξ {s with heap:=h'}) :
  aab (Ψ prog w) A (acS (.ref z)) Q E s:=by
 have hT:s.TypeIs (.ref z) "zip" := {_,hz,rfl};obtain⟨nd,o1,o2⟩:=P;simp only[aac,ZI,aaX,or_false,not_or,aaH,not_false_eq_true,and_true]at nd;obtain⟨⟨WL,Jm,Jl,My⟩,⟨TITO,TIi1,TIi2⟩,⟨TOi1,TOi2⟩,i12⟩:=nd;have a1:=o1 z (by simp);have b1:=o2 z (by simp);have b2:=o2 TO (by simp);have b3:=o2 i1 (by simp)
 have oc:∀{c:θ},c∉[z,TO,i1,i2]->c≠z/\c≠TO/\c≠i1/\c≠i2:=λhc=>by simpa[not_or] using hc
 have QI:A.in1.handled=ξ:=hh;unfold acS;apply ZD;apply acz;apply abw (name:=acx "__next__") hT F.slot_zip_next;refine aa3 F.slot_zip_next hT F.entry_zip_next ?_ (F.args_zip_next_1 _);have fin:∀(h':Heap) (e:θ),(∀c o,c∉[z,TO,i1,i2]->s.heap.get? c=ν o->h'.get? c=ν o)->(∃o,h'.get? e=ν o/\o.cls=.type "StopIteration") ->
   aab (Ψ prog w) A (do if <- isInstance (.ref e) (.type "StopIteration") then pure ξ else throw (.ref e)) Q E {s with heap:=h'}:=λh' e hk Ha=>by
  obtain⟨o,ho,hc⟩:=Ha;apply ZD;refine wpAny_isInstance (T:="StopIteration") (b:=ζ) {(o),ho,hc} isSubtype_stop ?_;exact ZL (q h' hk)
 change aab (Ψ prog w) _ (field (.ref z) 2 >>= _) _ _ _
 apply ZD;apply abG hz rfl (x:=.bool η) rfl
 change aab (Ψ prog w) _ (field (.ref z) 3 >>= _) _ _ _
 apply ZD;apply abG hz rfl (x:=.ref TI) rfl;apply ZD;apply abu UA rfl
 change aab (Ψ prog w) _ (abH (.ref z) >>= _) _ _ _
 apply ZD;unfold abH;apply ZD;apply abG hz rfl (x:=.none) rfl;apply ZL;simp only[if_true];apply ZD;apply abY;apply ZD;apply abG hz rfl (x:=.ref TO) rfl;apply ZD;refine abp hz (by simp) λg1 y1 e1=>?_
 have z1:IsZip g1 z TI TO .ellipsis:=y1;apply ZD;simp only[List.zipIdx_cons,List.zipIdx_nil,List.forIn_cons,List.forIn_nil];apply ZD;apply ZD;apply wpAny_onRaise
 change aab (Ψ prog w) _ (aaT (.ref i1) >>= _) _ _ _
 apply ZD;have f1:S1 k g1:=D1.keep k _ _ h1 λo e=>e1.extBut _ _ (aa1 Jl) e;have f2:C1 g1:=D1.kept _ _ c1 λo e=>e1.extBut _ _ a1 e;cases ex:vs[k]? with
 |none =>
  refine D1.done _ _ _ k _ QI f1 f2 ex λg2 e e2 he=>?_;obtain⟨oe,ge,ce⟩:=he;have z2:IsZip g2 z TI TO .ellipsis:=e2 _ _ Jl z1;have ez:e≠z:=λw=>by subst w;rw[z2]at ge;cases ge;simp at ce
  refine abp z2 (by simp) λg3 _ e3=>fin g3 e (λc o hc x=>?_) {oe,e3.extBut _ _ ez ge,ce}
  obtain⟨q1,q2,q3,q4⟩:=oc hc;exact e3.extBut _ _ q1 (e2 _ _ q3 (e1.extBut _ _ q1 x))
 |some x =>
  have ey:us[k]?=ξ:=hx.resolve_left (by rw[ex];intro z;cases z)
  refine D1.item _ _ _ k x _ f1 f2 ex λg2 s2 e2=>ZL ?_;have t2:ab7 g2 TO a b:=e2.extBut _ _ TOi1 (e1.extBut _ _ (aa1 Jm) Uz);apply ZD;apply abu t2 rfl;apply ZD;refine wpAny_updateSeq_pair t2 λg3 y3 e3=>?_;apply ZD;refine wpAny_letGo (ZL ?_);apply ZD;apply ZD;apply wpAny_onRaise
  change aab (Ψ prog w) _ (aaT (.ref i2) >>= _) _ _ _
  apply ZD;have k2:S2 k g3:=D2.keep k _ _ h2 λo e=>e3.extBut _ _ (aa1 TOi2) (e2.extBut _ _ (aa1 i12) (e1.extBut _ _ (aa1 My) e));have k3:C2 g3:=D2.kept _ _ c2 λo e=>e3.extBut _ _ b2 (e2.extBut _ _ b3 (e1.extBut _ _ b1 e));refine D2.done _ _ _ k _ QI k2 k3 ey λg4 e e4 he=>?_;obtain⟨oe,ge,ce⟩:=he;have z4:IsZip g4 z TI TO .ellipsis:=e4 _ _ My (e3.extBut _ _ Jm (e2.extBut _ _ Jl z1));have ez:e≠z:=λw=>by subst w;rw[z4]at ge;cases ge;simp at ce
  refine abp z4 (by simp) λg5 _ e5=>fin g5 e (λc o hc x=>?_) {oe,e5.extBut _ _ ez ge,ce}
  obtain⟨q1,q2,q3,q4⟩:=oc hc;exact e5.extBut _ _ q1 (e4 _ _ q4 (e3.extBut _ _ q2 (e2.extBut _ _ q3 (e1.extBut _ _ q1 x))))
end
section
variable {prog:ZN}{w:Z4}{A:aaJ}{E:ZF->ZH->Prop}{s:ZH}
abbrev Qn (h:Heap)(l1:θ):Heap:=h.push {cls:=.type "tuple_iterator",data:=.fields #[.ref l1,.int 0 0]}
abbrev Qm (h:Heap)(l1 l2:θ):Heap:=(Qn h l1).push {cls:=.type "tuple_iterator",data:=.fields #[.ref l2,.int 0 0]}
abbrev Ql (h:Heap)(l1 l2:θ):Heap:=(Qm h l1 l2).push {cls:=.type "tuple",data:=.seq #[.ref h.objs.size,.ref (Qn h l1).objs.size]}
abbrev Qj (h:Heap)(l1 l2:θ):Heap:=(Ql h l1 l2).push {cls:=.type "tuple",data:=.seq #[.none,.none]}
noncomputable abbrev Mz (h:Heap)(l1 l2:θ):Heap:=(Qj h l1 l2).push {cls:=.type "zip",data:=.fields #[.none,.bool η,.bool η,.ref (Qm h l1 l2).objs.size,.ref (Ql h l1 l2).objs.size]}
def zw (l1 l2:θ)(xs ys:Array ZF):
  Meets (abM.«zip.__new__» {[.type "zip",.ref l1,.ref l2],[]}) (λ_ R s=>s.heap.IsTuple l1 xs/\s.heap.IsTuple l2 ys/\R (.ok (.ret (.ref (Qj s.heap l1 l2).objs.size))) {s with heap:=Mz s.heap l1 l2}) :=
 .of_wp λprog w A R s h=>by
  obtain⟨hp,g,d,tk,os⟩:=s;obtain⟨u1,u2,h⟩:=h;have W9:=sub_zip;have m1:Heap.IsTuple (Shared.heap {(hp),g,d,tk,os}) l1 xs:=u1;have m2:Heap.IsTuple (Shared.heap {hp.push {cls:=.type "tuple_iterator",data:=.fields #[.ref l1,.int 0 0]},g,d,tk,os}) l2 ys:=Heap.IsTuple.push u2 _
  wp_walk using wpAny_pyIter_tuple m1,wpAny_pyIter_tuple m2
  exact{_,rfl,h}
def Br {l1 l2:θ}{xs ys:Array ZF}{Q:ZF->ZH->Prop}(u1:s.heap.IsTuple l1 xs)(u2:s.heap.IsTuple l2 ys)
  (q:∀h',IsZip h' (s.heap.objs.size+4) (s.heap.objs.size+2) (s.heap.objs.size+3) .none->ab7 h' (s.heap.objs.size+2) (.ref s.heap.objs.size) (.ref (s.heap.objs.size+1))->ab7 h' (s.heap.objs.size+3) .none .none ->
   h'.IsTupleIter s.heap.objs.size l1 0->h'.IsTupleIter (s.heap.objs.size+1) l2 0->(∀c o,s.heap.get? c=ν o->h'.get? c=ν o)->Q (.ref (s.heap.objs.size+4)) {s with heap:=h'}) :
  aab (Ψ prog w) A (call (.type "zip") [.ref l1,.ref l2]) Q E s:=by
 refine callType_new F.called_zip (by decide) (F.typeCall_zip_2 _ _) (F.newCall_zip_2 _ _) (λobj=>F.args_object_init_3 obj _ _) F.entry_zip_new (zw l1 l2 xs ys) {u1,u2,?_}
 have n1:(Qn s.heap l1).objs.size=s.heap.objs.size+1:=abW ..
 have n2:(Qm s.heap l1 l2).objs.size=s.heap.objs.size+2:=by rw[abW,n1]
 have n3:(Ql s.heap l1 l2).objs.size=s.heap.objs.size+3:=by rw[abW,n2]
 have n4:(Qj s.heap l1 l2).objs.size=s.heap.objs.size+4:=by rw[abW,n3]
 have up:∀{h:Heap} {o:Obj} {c:θ} {u:Obj},h.get? c=ν u->(h.push o).get? c=ν u:=λe=>ZM _ e;have w5:(Mz s.heap l1 l2).get? (Qj s.heap l1 l2).objs.size=ν _:=Z8 _ rfl;have w4:(Mz s.heap l1 l2).get? (Ql s.heap l1 l2).objs.size=ν _:=up (Z8 _ rfl);have w3:(Mz s.heap l1 l2).get? (Qm s.heap l1 l2).objs.size=ν _:=up (up (Z8 _ rfl));have w2:(Mz s.heap l1 l2).get? (Qn s.heap l1).objs.size=ν _:=up (up (up (Z8 _ rfl)));have w1:(Mz s.heap l1 l2).get? s.heap.objs.size=ν _:=up (up (up (up (Z8 _ rfl))));show _/\_;rw[n2,n3,n4]at w5;rw[n1,n2]at w3;rw[n3]at w4;rw[n1]at w2;rw[n4];exact{{_,w5,rfl},q _ w5 w3 w4 {_,w1,rfl,rfl} {_,w2,rfl,rfl} λc o e=>up (up (up (up (up e))))}
end
end Zp
namespace L2
open Zp
abbrev QV:=Hp->List V->Prop
def WD (c1 c2:QV):It :=
 ⟨λi H=>∃xs ys x y,c1 H xs/\c2 H ys/\xs[i]?=ν x/\ys[i]?=ν y,
  λi H x H'=>∃T,H T=ξ/\x=.ref T/\∀xs ys,c1 H xs->c2 H ys->∃a b,xs[i]?=ν a/\ys[i]?=ν b/\H'=upd H T (.tup [a,b]),
  λi H=>∃xs ys,c1 H xs/\c2 H ys/\(xs[i]?=ξ\/ys[i]?=ξ)⟩
structure Src (P:ZN)(w:Z4)(K:Ξ)(i l:θ)(c:QV)(S:Nat->Heap->Prop):Prop where
 «at»:∀(X:Cx) (μ:List (θ×Obj)) (σ:St) (H:Hp) (s:ZH) (xs:List V),X.prog=P->X.w=w->X.K=K->Inv X μ σ H s->c H xs->∃vs Ct,Vals xs vs/\Mw P w i l vs S Ct/\Ct s.heap
 obj:∀k h,S k h->∃o,h.get? i=ν o/\∀v,o.data≠.cell v
 keep:∀k h h',S k h->(∀o,h.get? i=ν o->h'.get? i=ν o)->S k h'
 inj:∀(H:Hp) (xs ys:List V),c H xs->c H ys->xs=ys
 old:∀(H:Hp) (xs:List V),c H xs->H l≠ξ
def src_list {P:ZN}{w:Z4}{K:Ξ}{i l:θ}:Src P w K i l (λH xs=>H l=ν (.lst xs)) (λk h=>h.IsListIter i l k) where
 «at»:=λX μ σ H s xs hp hw hk I h=>by
  obtain⟨its,r',pl,_⟩:=I.list (dJ.of h);exact{its,_,r',Eo,pl.isList}
 obj:=λk h ⟨o,a,_,d⟩=>{o,a,λv z=>by rw[d]at z;cases z}
 keep:=λk h h' a k1=>a.at k1
 inj:=λH xs ys h h'=>by rw[h]at h';cases h';rfl
 old:=λH xs h z=>by rw[h]at z;cases z
def FK {P:ZN}{w:Z4}{K:Ξ}{i l:θ}:Src P w K i l (λH xs=>H l=ν (.tup xs)) (λk h=>h.IsTupleIter i l k) where
 «at»:=λX μ σ H s xs hp hw hk I h=>by
  obtain⟨its,r',pl,_⟩:=I.tuple (lh.of h);exact{its,_,r',Ht,(show s.heap.IsTuple l its.toArray from pl)}
 obj:=λk h ⟨o,a,_,d⟩=>{o,a,λv z=>by rw[d]at z;cases z}
 keep:=λk h h' ⟨o,a1,a2⟩ k1=>{o,k1 o a1,a2}
 inj:=λH xs ys h h'=>by rw[h]at h';cases h';rfl
 old:=λH xs h z=>by rw[h]at z;cases z
def Inv.FA {X:Cx}{μ:List (θ×Obj)}{σ:St}{H:Hp}{s:ZH}{fp:List θ}{h':Heap}{x y:V}{u v:ZF}(I:Inv X μ σ H s)(hf:∀b∈fp,gS X μ H b)(k:∀c o,c∉fp->s.heap.get? c=ν o->h'.get? c=ν o)
  (rx:RelV x u) (ry:RelV y v) (hT:ab7 h' s.heap.objs.size u v):Inv X μ σ (upd H s.heap.objs.size (.tup [x,y])) {s with heap:=h'}:=by
 have hn:H s.heap.objs.size=ξ:=I.bp.fresh (ZG _);have ne:∀{b:θ} {o:Obj},s.heap.get? b=ν o->b≠s.heap.objs.size:=λe=>aak (Z6 e);have nt:∀{b:θ} {o:HO},H b=ν o->b≠s.heap.objs.size:=λe z=>by rw[z,hn]at e;cases e
 have nf:∀{b:θ} {o:HO},H b=ν o->b∉fp:=λe z=>by rw[(hf _ z).1]at e;cases e
 refine I.call (g':=s.gens) (t':=s.toks) (d':=s.drawn) (ch:=fp) ⟨λb o e n _ hc=>k b o hc e,λb o e n _ hc=>{o.slots,k b o hc e},λb o e n _=>by rw[aw (ne e)];exact n,λb o e hc=>{o,k b o hc e},
  λb xs e=>by rw[aw (nt e)];exact e,λb o u e=>by rw[aw (nt e)];exact e,λb ps e=>{#[],by rw[aw (nt e),e];simp}⟩ (λb u e=>?_) I.bare λb hb=>?_
 ·by_cases hb:b=s.heap.objs.size
  ·subst hb;rw[ao]at e;cases e;exact{by show 2<=Z3;decide,[_,_],.cons rx (.cons ry .nil),{_,hT,rfl,_,rfl}}
  ·rw[aw hb]at e;refine(I.bp b u e).s_ (λc v hc q=>k c v ?_ q) (λc q=>by rw[aw (nt q)];exact q) λc xs q=>by rw[aw (nt q)];exact q
   rcases hc with z|z
   ·rw[z];exact nf e
   ·exact nf z
 ·obtain⟨f0,f1,f2,f3,f4,f5⟩:=hf b hb;exact{(f3),f1,f4,f5}
def Inv.xI {X:Cx}{μ:List (θ×Obj)}{σ:St}{H:Hp}{s:ZH}{fp:List θ}{h':Heap}(I:Inv X μ σ H s)(hf:∀b∈fp,gS X μ H b)(k:∀c o,c∉fp->s.heap.get? c=ν o->h'.get? c=ν o):Inv X μ σ H {s with heap:=h'}:=by
 have nf:∀{b:θ} {o:HO},H b=ν o->b∉fp:=λe z=>by rw[(hf _ z).1]at e;cases e
 refine I.call (g':=s.gens) (t':=s.toks) (d':=s.drawn) (ch:=fp) {λb o e n _ hc=>k b o hc e,λb o e n _ hc=>{o.slots,k b o hc e},λb o e n _=>n,λb o e hc=>{o,k b o hc e},λb xs e=>e,λb o u e=>e,λb ps e=>{#[],by rw[e];simp}} (λb u e=>?_) I.bare λb hb=>?_
 ·refine(I.bp b u e).s_ (λc v hc q=>k c v ?_ q) (λc q=>q) λc xs q=>q;rcases hc with z|z
  ·rw[z];exact nf e
  ·exact nf z
 ·obtain⟨f0,f1,f2,f3,f4,f5⟩:=hf b hb;exact{(f3),f1,f4,f5}
def BH {P:ZN}{w:Z4}{K:Ξ}{elts:List Expr}{kk:Nat}{pos:Pos}{z TI TO i1 i2 l1 l2:θ}{c1 c2:QV}{S1 S2:Nat->Heap->Prop}(Ap:Apart z TI TO i1 i2 l1 l2)(s1:Src P w K i1 l1 c1 S1)(s2:Src P w K i2 l2 c2 S2):
  Turn P w K (.Tuple elts kk pos) (WD c1 c2) [z,TI,TO,i1,i2] z (λk h=>IsZip h z TI TO .none/\ab7 h TI (.ref i1) (.ref i2)/\(∃a b,ab7 h TO a b)/\S1 k h/\S2 k h) where
 mem:=by simp
 obj:=λk h DD c hc=>by
  obtain⟨h1,h2,⟨a,b,h3⟩,h4,h5⟩:=DD;simp only[ZI,aaX,or_false]at hc;rcases hc with rfl|rfl|rfl|rfl|rfl
  ·exact{_,h1,λv z=>by cases (show Data.fields _=Data.cell v from z)}
  ·exact{_,h2,λv z=>by cases (show Data.seq _ _=Data.cell v from z)}
  ·exact{_,h3,λv z=>by cases (show Data.seq _ _=Data.cell v from z)}
  ·exact s1.obj k h h4
  ·exact s2.obj k h h5
 keep:=λk h h' ⟨h1,h2,⟨a,b,h3⟩,h4,h5⟩ kp=>{kp z (by simp) _ h1,kp TI (by simp) _ h2,{a,b,kp TO (by simp) _ h3},s1.keep k h h' h4 (λo e=>kp i1 (by simp) o e),s2.keep k h h' h5 λo e=>kp i2 (by simp) o e}
 item:=by
  intro X hP hw hK hc i μ s σ H E I hf st hg;obtain⟨g1,g2,⟨a,b,g3⟩,g4,g5⟩:=st;obtain⟨xs,ys,x,y,hx,hy,ex,ey⟩:=hg;obtain⟨vs,C1,r1,D1,k1⟩:=s1.at X μ σ H s xs hP hw hK I hx;obtain⟨us,C2,r2,D2,k2⟩:=s2.at X μ σ H s ys hP hw hK I hy;obtain⟨u,eu,ru⟩:=r1.get ex;obtain⟨v,ev,rv⟩:=r2.get ey;have sub:∀c∈[z,TO,i1,i2],c∈[z,TI,TO,i1,i2]:=λc hc=>by simp at hc ⊢;rcases hc with h|h|h|h <;> simp[h]
  refine Bt Ap D1 D2 g1 g2 g3 g4 g5 k1 k2 eu ev λh' y1 y2 y3 y4 y5 y6=>?_;have I1:=I.FA (fp:=[z,TI,TO,i1,i2]) hf (λc o IM e=>y6 c o (λq=>IM (sub c q)) e) ru rv y5;have nT:∀b∈[z,TI,TO,i1,i2],upd H s.heap.objs.size (.tup [x,y]) b=ξ:=λb hb=>by
   have:b≠s.heap.objs.size:=by
    have:=(show (∃o,s.heap.get? b=ν o) from by
     simp only[ZI,aaX,or_false]at hb;rcases hb with rfl|rfl|rfl|rfl|rfl
     ·exact{_,g1}
     ·exact{_,g2}
     ·exact{_,g3}
     ·exact{_,(s1.obj i _ g4).choose_spec.1}
     ·exact{_,(s2.obj i _ g5).choose_spec.1})
    obtain⟨o,e⟩:=this;exact aak (Z6 e)
   rw[aw this];exact(hf b hb).1
  have YT:ab7 h' TI (.ref i1) (.ref i2):=y6 TI _ (by
   have:=Ap.nd;simp only[aac,ZI,aaX,or_false,not_or]at this ⊢
   obtain⟨⟨q1,_⟩,⟨q2,q3,q4⟩,_⟩:=this;exact{aa1 q1,q2,q3,q4}) g2
  refine{_,rfl,wpAny_letOwnedTupleGo_zip y1 λh'' z' sb=>?_};have I2:Inv X μ σ (upd H s.heap.objs.size (.tup [x,y])) {s with heap:=h''}:=by
   refine I1.xI (fp:=[z]) (λb hb=>?_) λc o IM e=>sb.extBut _ _ (by simpa using IM) e
   have e:b=z:=by simpa using hb
   subst e;exact{nT b (by simp),(hf b (by simp)).2}
  have Qe:∀c∈[TI,TO,i1,i2],c≠z:=λc hc q=>by
   have:=Ap.nd;rw[aac]at this;exact this.1 (by rw[<- q];exact hc)
  refine{.ref s.heap.objs.size,_,I2,rfl,{s.heap.objs.size,I.bp.fresh (ZG _),rfl,λQg WM Dx S3=>?_},{z',sb.extBut _ _ (Qe TI (by simp)) YT,{_,_,sb.extBut _ _ (Qe TO (by simp)) y2},s1.keep _ _ _ y3 (λo e=>sb.extBut _ _ (Qe i1 (by simp)) e),s2.keep _ _ _ y4 λo e=>sb.extBut _ _ (Qe i2 (by simp)) e},nT}
  rw[s1.inj H Qg xs Dx hx,s2.inj H WM ys S3 hy];exact{(x),y,ex,ey,rfl}
 done:=by
  intro X hP hw hK hc i μ s σ H E I hf st hg;obtain⟨g1,g2,⟨a,b,g3⟩,g4,g5⟩:=st;obtain⟨xs,ys,hx,hy,ex⟩:=hg;obtain⟨vs,C1,r1,D1,k1⟩:=s1.at X μ σ H s xs hP hw hK I hx;obtain⟨us,C2,r2,D2,k2⟩:=s2.at X μ σ H s ys hP hw hK I hy;have sub:∀c∈[z,TO,i1,i2],c∈[z,TI,TO,i1,i2]:=λc hc=>by simp at hc ⊢;rcases hc with h|h|h|h <;> simp[h]
  refine Ft Ap D1 D2 (I.ok.hd hc) g1 g2 g3 g4 g5 k1 k2 (ex.imp (λq=>r1.none_of q) λq=>r2.none_of q) λh' y6=>?_;exact{rfl,I.xI (fp:=[z,TI,TO,i1,i2]) hf λc o IM e=>y6 c o (λq=>IM (sub c q)) e}
 self:=λA i s Q E ⟨h1,_⟩ q=>wpAny_pyIter_zip h1 q
def Mj:aaF "zip" = ν (.type "zip"):=by decide +kernel
noncomputable def je:List D->List D->List D
 |a::as,b::bs=>.tup [a,b]::je as bs
 |_,_=>[]
theorem mO:∀{as bs:List D} {i:Nat} {d:D},(je as bs)[i]?=ν d->∃a b,as[i]?=ν a/\bs[i]?=ν b/\d=.tup [a,b]
 |[],_,_,_,h=>by simp[je]at h
 |_::_,[],_,_,h=>by simp[je]at h
 |a::as,b::bs,0,_,h=>by simp[je]at h;exact{(a),b,rfl,rfl,h.symm}
 |a::as,b::bs,i+1,_,h=>by
  obtain⟨x,y,h1,h2,h3⟩:=mO (as:=as) (bs:=bs) (i:=i) (by simpa[je] using h)
  exact{x,y,by simpa using h1,by simpa using h2,h3}
theorem sN:∀(as bs:List D),(je as bs).length=min as.length bs.length
 |[],_=>by simp[je]
 |_::_,[]=>by simp[je]
 |a::as,b::bs=>by simp[je,sN as bs]
section
variable {X:Cx}{W:θ->Prop}{H:Hp}{l1 l2:θ}{xs ys:List V}{ds es:List D}
def xu (t:Bool)(l:θ):QV:=λH xs=>if t=ζ then H l=ν (.tup xs) else H l=ν (.lst xs)
def G0 (t:Bool)(h1:xu t l1 H xs)(h2:xu t l2 H ys)(n1:t=η->¬ W l1)(n2:t=η->¬ W l2)(r1:i9 X W H ds xs)(r2:i9 X W H es ys):vN X W (WD (xu t l1) (xu t l2)) (je ds es) H:=λW' hW i H' k=>by
 have st:∀{l:θ} {xs:List V},xu t l H xs->(t=η->¬ W l)->xu t l H' xs:=λ{l xs} h n=>by
  unfold xu at h ⊢
  cases t with
  |true=>exact k.tup l xs h
  |false=>exact k.out l _ h λz=>(hW l z).elim (n rfl) λq=>by rw[show H l=ν (HO.lst xs) from h]at q;cases q
 have inj:∀{l:θ} {xs ys:List V},xu t l H' xs->xu t l H' ys->xs=ys:=λ{l xs ys} a b=>by
  unfold xu at a b;cases t with
  |true=>rw[show H' l=ν (HO.tup xs) from a]at b;cases b;rfl
  |false=>rw[show H' l=ν (HO.lst xs) from a]at b;cases b;rfl
 have q1:=(ai.grow hW r1).keep k;have q2:=(ai.grow hW r2).keep k;constructor
 ·intro d hd;obtain⟨a,b,ha,hb,rfl⟩:=mO hd;obtain⟨x,ex,rx⟩:=ai.get q1 ha;obtain⟨y,ey,ry⟩:=ai.get q2 hb;refine{{xs,ys,x,y,st h1 n1,st h2 n2,ex,ey},λv H1 fA=>?_};obtain⟨T,hT,e,yl⟩:=fA;obtain⟨x',y',Wx,Ww,eH⟩:=yl xs ys (st h1 n1) (st h2 n2);rw[ex]at Wx;rw[ey]at Ww;cases Wx;cases Ww;subst e eH;exact{au.new hT,Rp.Jz hT (.cons rx (.cons ry .nil))}
 ·intro hl;rw[sN]at hl;have z1:=q1.length;have z2:=q2.length;refine{xs,ys,st h1 n1,st h2 n2,?_}
  by_cases h:ds.length<=i
  ·exact .inl (aaE (by lia))
  ·exact .inr (aaE (by lia))
variable {φs:vy}{elts:List Expr}{kk:Nat}{JB:Pos}
def SU (φs:vy):Mr:=λρ R=>φs ρ λl=>∃as bs,(l=[.lst as,.lst bs]\/l=[.tup as,.tup bs])/\R (je as bs)
def BU {P:ZN}{w:Z4}{K:Ξ}{i l:θ}(t:Bool):∃S:Nat->Heap->Prop,Src P w K i l (xu t l) S/\∀h,(t=ζ->h.IsTupleIter i l 0)->(t=η->h.IsListIter i l 0)->S 0 h:=by
 cases t with
 |true=>exact{_,FK,λh a b=>a rfl}
 |false=>exact{_,src_list,λh a b=>b rfl}
def F2 {a b:Expr}{p pos:Pos}(hm:X.mg "zip" = ξ)(ha:P8 X [a,b] φs)(hg:Gl X "zip" := by rfl)(hs:Z2 [a,b] X.env=[(η,eval a X.env),(η,eval b X.env)]:=by rfl)(qD:Z2 [b] X.env=[(η,eval b X.env)]:=by rfl) :
  WC X (.Tuple elts kk JB) (.Call (.Name "zip" p) [a,b] [] pos) (SU φs):=by
 refine{λρ R R' k q=>ha.mono ρ _ _ (λl jO=>by obtain⟨as,bs,e,q⟩:=jO;exact{as,bs,e,k _ q}) q,λμ s σ H R I n9=>?_}
 obtain⟨W,ρ,se,q⟩:=n9;refine Call_ (gI I hg hm Mj (abD (bP (ha.pa pos μ s σ H _ I (M7.of ha se q λds vs H1 h s1 r1=>({(ds),h,s1,r1}:∃ds,(∃as bs,(ds=[.lst as,.lst bs]\/ds=[.tup as,.tup bs])/\∀J H',au H H'->vN X W J (je as bs) H'->R J H')/\au H H1/\i9 X W H1 ds vs)))
  λus s1 ⟨vs,H1,I1,rv,h⟩=>?_) (by rw[hs,qD]) (by rw[qD];rfl)))
 obtain⟨ds,⟨as,bs,e,q⟩,sm,r1⟩:=h;have main:∀(t:Bool) (l1 l2:θ) (xs ys:List V),vs=[.ref l1,.ref l2]->xu t l1 H1 xs->xu t l2 H1 ys->(t=η->¬ W l1)->(t=η->¬ W l2)->i9 X W H1 as xs->i9 X W H1 bs ys ->
   aab (Ψ X.prog X.w) X.A (call (.type "zip") us) (λv s1=>aab (Ψ X.prog X.w) X.A (pyIter v) (MW X μ σ (.Tuple elts kk JB) R) X.xe s1) X.xe s1:=by
  intro t l1 l2 xs ys ev g1 g2 n1 n2 w1 w2;subst ev;have it:=G0 t g1 g2 n1 n2 w1 w2;obtain⟨v1,v2,rfl,e1,e2⟩:∃v1 v2,us=[v1,v2]/\RelV (.ref l1) v1/\RelV (.ref l2) v2:=by
   cases rv with
   |cons a rr=>cases rr with
    |cons b rr=>cases rr;exact{_,_,rfl,a,b}
  cases e1;cases e2;have Sz:l1<s1.heap.objs.size:=I1.bp.lt (o:=if t=ζ then .tup xs else .lst xs) (by unfold xu at g1;cases t <;> exact g1)
  have Sw:l2<s1.heap.objs.size:=I1.bp.lt (o:=if t=ζ then .tup ys else .lst ys) (by unfold xu at g2;cases t <;> exact g2)
  have Ap:Apart (s1.heap.objs.size+4) (s1.heap.objs.size+2) (s1.heap.objs.size+3) s1.heap.objs.size (s1.heap.objs.size+1) l1 l2:=by
   generalize s1.heap.objs.size=n at Sz Sw
   change (l1:Nat)<n at Sz
   change (l2:Nat)<n at Sw
   refine{?_,λc hc=>?_,λc hc=>?_}
   ·have q:∀(i j:Nat),i≠j->(n+i:Nat)≠n+j:=λi j h z=>h (Nat.add_left_cancel z);simp only[aac,ZI,aaX,or_false,not_or,aaH,not_false_eq_true,and_true];exact{{q 4 2 (by decide),q 4 3 (by decide),q 4 0 (by decide),q 4 1 (by decide)},{q 2 3 (by decide),q 2 0 (by decide),q 2 1 (by decide)},{q 3 0 (by decide),q 3 1 (by decide)},q 0 1 (by decide)}
   ·simp only[ZI,aaX,or_false]at hc;rcases hc with rfl|rfl|rfl|rfl <;> exact aak (aaq Sz (by first|exact adf _ _|exact ZG _))
   ·simp only[ZI,aaX,or_false]at hc;rcases hc with rfl|rfl|rfl|rfl <;> exact aak (aaq Sw (by first|exact adf _ _|exact ZG _))
  obtain⟨S1,Rx,z1⟩:=BU (P:=X.prog) (w:=X.w) (K:=X.K) (i:=s1.heap.objs.size) (l:=l1) t;obtain⟨S2,Rw,z2⟩:=BU (P:=X.prog) (w:=X.w) (K:=X.K) (i:=s1.heap.objs.size+1) (l:=l2) t;have fin:∀h',IsZip h' (s1.heap.objs.size+4) (s1.heap.objs.size+2) (s1.heap.objs.size+3) .none->ab7 h' (s1.heap.objs.size+2) (.ref s1.heap.objs.size) (.ref (s1.heap.objs.size+1))->ab7 h' (s1.heap.objs.size+3) .none .none ->
    S1 0 h'->S2 0 h'->(∀c o,s1.heap.get? c=ν o->h'.get? c=ν o)->aab (Ψ X.prog X.w) X.A (pyIter (.ref (s1.heap.objs.size+4))) (MW X μ σ (.Tuple elts kk JB) R) X.xe {s1 with heap:=h'}:=λh' y1 y2 y3 y4 y5 y6=>by
   refine wpAny_pyIter_zip y1 ?_;have I2:Inv X μ σ H1 {s1 with heap:=h'}:=I1.kept (t':=s1.toks) y6
   refine{_,_,_,_,H1,rfl,I2,BH Ap Rx Rw,{y1,y2,{_,_,y3},y4,y5},λb hb=>?_,q _ _ sm it};have lZ:s1.heap.objs.size<=b:=by
    simp only[ZI,aaX,or_false]at hb;rcases hb with rfl|rfl|rfl|rfl|rfl <;> first|exact adf _ _|exact ZG _
   exact I1.AE lZ (I1.bp.fresh lZ)
  cases t with
  |true =>
   obtain⟨Ol,_,p1,_⟩:=I1.tuple (lh.of (show H1 l1=ν (.tup xs) from g1))
   obtain⟨pC,_,p2,_⟩:=I1.tuple (lh.of (show H1 l2=ν (.tup ys) from g2))
   exact Br (show s1.heap.IsTuple l1 Ol.toArray from p1) (show s1.heap.IsTuple l2 pC.toArray from p2) λh' y1 y2 y3 y4 y5 y6=>fin h' y1 y2 y3 (z1 h' (λ_=>y4) λz=>by cases z) (z2 h' (λ_=>y5) λz=>by cases z) y6
  |false =>
   obtain⟨Ol,_,p1,_⟩:=I1.list (dJ.of (show H1 l1=ν (.lst xs) from g1))
   obtain⟨pC,_,p2,_⟩:=I1.list (dJ.of (show H1 l2=ν (.lst ys) from g2))
   exact call_zip_2 p1.isList p2.isList λh' y1 y2 y3 y4 y5 y6 y7=>fin h' y1 y2 y3 (z1 h' (λz=>by cases z) λ_=>y4) (z2 h' (λz=>by cases z) λ_=>y5) y7
 rcases e with rfl|rfl
 ·obtain⟨x,y,rfl,⟨l1,xs,rfl,g1,n1,w1⟩,⟨l2,ys,rfl,g2,n2,w2⟩⟩:=qW r1;exact main η l1 l2 xs ys rfl g1 g2 (λ_=>n1) (λ_=>n2) w1 w2
 ·obtain⟨x,y,rfl,⟨l1,xs,rfl,g1,w1⟩,⟨l2,ys,rfl,g2,w2⟩⟩:=qW r1;exact main ζ l1 l2 xs ys rfl g1 g2 (λz=>by cases z) (λz=>by cases z) w1 w2
end
def bx {lo:Int}{n i:Nat}{d:D}(h:(lT lo n)[i]?=ν d):i<n/\d=.int (lo+i):=by
 unfold lT at h;rw[ZS]at h;have hi:i<n:=by
  by_cases hi:i<n
  ·exact hi
  ·rw[aaE (by simpa using hi)]at h;cases h
 rw[abB hi]at h;cases h;exact{(hi),rfl}
def bY {lo:Int}{n:Nat}:(lT lo n).length=n:=by unfold lT;simp
structure Df (K:Ξ)(mg:Str->Option ZF)(x:Str)(st:Stmt)(ps:List Str)(f:θ)(fd:aaD):Prop where
 F:Fs K x x st f fd
 b:Binds K fd ps []
 m:mg x=ν (.ref f)
structure Bs (mg:Str->Option ZF):Prop where
 max:mg "max" = ξ
 min:mg "min" = ξ
 int:mg "int" = ξ
 range:mg "range" = ξ
 sorted:mg "sorted" = ξ
 set:mg "set" = ξ
 len:mg "len" = ξ
 list:mg "list" = ξ
def EK:aaF "set" = ν (.type "set"):=by decide +kernel
def c6.rd {k:Nat}{A:aaJ}(r:c6 k A):A.units+64+1<abx:=by have:=r.un;lia
def c6.jj {k:Nat}{A:aaJ}(r:c6 k A):A.units+16<abx:=by have:=r.un;lia
def U6 (n:Int)(t:List Int):Prop:=∃a b,t=[a,b]/\0<=a/\a<b/\b<n
def U6.ne {n:Int}{t:List Int}(h:U6 n t):t≠[]:=by
 obtain⟨a,b,rfl,_⟩:=h;intro z;cases z
def bD (n:Int)(ts:List (List Int)):Prop:=∀t∈ts,U6 n t
def bD.ne {n:Int}{ts:List (List Int)}(h:bD n ts):∀k∈ts,k≠[]:=λk hk=>(h k hk).ne
def bD.nil {n:Int}:bD n []:=λ_ z=>(nomatch z)
def bD.app {n:Int}{ts us:List (List Int)}(h:bD n ts)(h':bD n us):bD n (ts++us):=λt ht=>(ZT.mp ht).elim (h t) (h' t)
def bD.one {n:Int}{a b:Int}(h1:0<=a)(h2:a<b)(h3:b<n):bD n [[a,b]]:=λt ht=>by
 rw[ZJ.mp ht];exact{(a),b,rfl,h1,h2,h3}
def eO (ts:List (List Int)):D.cb (ts.map kD)=ζ:=by
 have fi:∀k:List Int,D.cb (k.map D.int)=ζ:=λk=>by
  induction k with
  |nil=>rfl
  |cons i k ih=>show (D.flat (.int i)&&D.cb (k.map D.int))=ζ;rw[ih];rfl
 induction ts with
 |nil=>rfl
 |cons t ts ih =>
  show (D.flat (kD t)&&D.cb (ts.map kD))=ζ;rw[ih];show (D.cb (t.map D.int)&&ζ)=ζ;rw[fi];rfl
def v_ {ts:List (List Int)}(h:∀k∈ts,k≠[])(l:ts.length<=1000000):(match [D.lst (ts.map kD)]with | [.lst ds]=>sg [.lst ds]|_=>ξ)=ν (.lst ((ir ts).map kD)):=by
 show (match dO (ts.map kD)with|some ks=>if ks.length<=1000000 then ν (D.lst ((ir ks).map kD)) else ξ|none=>ξ)=_
 rw[ia h];show (if ts.length<=1000000 then ν (D.lst ((ir ts).map kD)) else ξ)=_
 rw[χ l]
def BR {n:Int}{ts:List (List Int)}(h:bD n ts):bD n (ir ts):=λt ht=>h t ((ft ts).mem_iff.mp ht)
def B9 {ts:List (List Int)}(h:∀k∈ts,k≠[])(l:ts.length<1000):IY [.lst (ts.map kD)]=ν (.sT (pN ts)):=by
 show (match dO (ts.map kD)with|some ks=>if ks.length<1000 then ν (D.sT (pN ks)) else ξ|none=>ξ)=_
 rw[ia h];show (if ts.length<1000 then ν (D.sT (pN ts)) else ξ)=_
 rw[χ l]
def v9 {ts:List (List Int)}(h:∀k∈ts,k≠[])(l:ts.length<1000):(match [D.sT (pN ts)]with | [.sT ts]=>sg [.sT ts]|_=>ξ)=ν (.lst ((ir (pN ts)).map kD)):=by
 show (if (pN ts).length<=1000/\(∀k∈pN ts,k≠[]) then ν (D.lst ((ir (pN ts)).map kD)) else ξ)=_
 rw[χ {by have:=yZ ts;lia,λk hk=>h k (((gO ts).2 k).mp hk)}]
def uZ:FD:=λds R=>∃n:Int,ds=[.int n]/\0<=n/\n<=1000/\∀ts:List (List Int),ts.length<=n.toNat->bD n ts->R (.lst (ts.map kD))
def uZ.mono:dy uZ:=λds R R' k ⟨n,e,h1,h2,q⟩=>{n,e,h1,h2,λts a b=>k _ (q ts a b)}
def Drawn (n:Int)(ts:List (List Int)):Prop:=ts.length<=300/\bD n ts/\vw ts/\ts.Nodup
def uV:FD:=λds R=>∃n:Int,ds=[.int n]/\2<=n/\n<=40/\∀ts,Drawn n ts->R (.lst (ts.map kD))
def uV.mono:dy uV:=λds R R' k ⟨n,e,h1,h2,q⟩=>{n,e,h1,h2,λts a=>k _ (q ts a)}
def D_:FD:=λds R=>ds=[]/\∀(n:Int) ts,0<=n->n<=40->Drawn n ts->R (.tup [.int n,.lst (ts.map kD)])
def D_.mono:dy D_:=λds R R' k ⟨e,q⟩=>{e,λn ts a b c=>k _ (q n ts a b c)}
def Ep {n:Int}{ks:List (List Int)}(h:bD n ks):∃ts,cutD ((ir (pN ks)).map kD) ξ (ν 300)=ts.map kD/\Drawn n ts:=by
 refine{(ir (pN ks)).take (min 300 (ir (pN ks)).length),?_,?_,?_,?_,?_}
 ·unfold cutD;rw[HT.Cc,show (ν (300:Int))=ν ((300:Nat):Int) from rfl,HT.FV,List.drop_zero,<- List.map_take]
  simp
 ·rw[aai];lia
 ·exact λt ht=>h t (((gO ks).2 t).mp ((ft _).mem_iff.mp (acd ht)))
 ·exact List.Pairwise.take (m9 _)
 ·exact List.Nodup.sublist (List.take_sublist _ _) ((ft _).nodup_iff.mpr (gO ks).1)
def ml {fs:List (List Int)}{t:List Int}:(fs++[t]).map kD=fs.map kD++[kD t]:=by simp
def B4 {fs:List Int}{t:Int}:(fs++[t]).map D.int=fs.map D.int++[D.int t]:=by simp
def mf {a b:D}:[a,b].length<=Z3:=by show 2<=Z3;decide
def W7 {a b c:D}:[a,b,c].length<=Z3:=by show 3<=Z3;decide
def E7 {a:D}:[a].length<=Z3:=by show 1<=Z3;decide
def vG {b:Bool}{p q:Prop}(hb:b=ζ)(h:p):(if b=ζ then p else q):=by rw[χ hb];exact h
def ic {b:Bool}{p q:Prop}(hb:b=η)(h:q):(if b=ζ then p else q):=by rw[hb,ω (by simp)];exact h
def kQ {c:Prop}[Decidable c]{p q:Prop}(h1:c->p)(h2:¬ c->q):(if decide c=ζ then p else q):=by
 by_cases h:c
 ·exact vG (by simp[h]) (h1 h)
 ·exact ic (by simp[h]) (h2 h)
def VV {c:Prop}[Decidable c]{p q:Prop}(h1:¬ c->p)(h2:c->q):(if (!decide c)=ζ then p else q):=by
 by_cases h:c
 ·exact ic (by simp[h]) (h2 h)
 ·exact vG (by simp[h]) (h1 h)
theorem dX {α:Type}(f:α->D):∀l:List α,D.gq (l.map f)=l.map λa=>(f a).pd
 |[]=>rfl
 |a::l=>by
  show (f a).pd::D.gq (l.map f)=_;rw[dX f l];rfl
theorem k_ {n:Nat}:∀{xs:List PyData},(∀x∈xs,x.canLay0=ζ/\x.depth<=n)->ab8 xs=ζ/\aba xs<=n
 |[],_=>{by simp[ab8],by simp[aba]}
 |x::xs,h=>by
  obtain⟨h1,h2⟩:=k_ (n:=n) (xs:=xs) λy hy=>h y (by simp[hy])
  obtain⟨g1,g2⟩:=h x (by simp)
  refine{by simp[ab8,h1,g1],?_}
  simp only[aba];lia
def j9 {n:Nat}{ds:List D}(h:∀d∈ds,d.pd.canLay0=ζ/\d.pd.depth<=n):(D.tup ds).pd.canLay0=ζ/\(D.tup ds).pd.depth<=n+1:=by
 have e:D.gq ds=ds.map λd=>d.pd:=by
  have:=dX (λd:D=>d) ds;simpa using this
 obtain⟨h1,h2⟩:=k_ (n:=n) (xs:=D.gq ds) λx hx=>by
  rw[e]at hx;obtain⟨d,hd,rfl⟩:=Z0.mp hx;exact h d hd
 refine{by simpa[D.pd,aa9] using h1,?_}
 have:(D.tup ds).pd.depth=aba (D.gq ds)+1:=by simp[D.pd,ach]
 lia
def j_ {n:Nat}{ds:List D}(h:∀d∈ds,d.pd.canLay0=ζ/\d.pd.depth<=n):(D.lst ds).pd.canLay0=ζ/\(D.lst ds).pd.depth<=n+1:=by
 have e:D.gq ds=ds.map λd=>d.pd:=by
  have:=dX (λd:D=>d) ds;simpa using this
 obtain⟨h1,h2⟩:=k_ (n:=n) (xs:=D.gq ds) λx hx=>by
  rw[e]at hx;obtain⟨d,hd,rfl⟩:=Z0.mp hx;exact h d hd
 refine{by simpa[D.pd,aa9] using h1,?_}
 have:(D.lst ds).pd.depth=aba (D.gq ds)+1:=by simp[D.pd,ach]
 lia
def bG (i:Int):(D.int i).pd.canLay0=ζ/\(D.int i).pd.depth<=1:={by simp[D.pd,aa9],by simp[D.pd,ach]}
def tq (b:Bool):(D.bl b).pd.canLay0=ζ/\(D.bl b).pd.depth<=1:={by simp[D.pd,aa9],by simp[D.pd,ach]}
def tm (t:List Int):(kD t).pd.canLay0=ζ/\(kD t).pd.depth<=2:=j9 λd hd=>by
 obtain⟨i,_,rfl⟩:=Z0.mp hd;exact bG i
def iP (ts:List (List Int)):(D.lst (ts.map kD)).pd.canLay0=ζ/\(D.lst (ts.map kD)).pd.depth<=3:=j_ λd hd=>by
 obtain⟨i,_,rfl⟩:=Z0.mp hd;exact tm i
def fF (ts:List Int):(D.lst (ts.map D.int)).pd.canLay0=ζ/\(D.lst (ts.map D.int)).pd.depth<=2:=j_ λd hd=>by
 obtain⟨i,_,rfl⟩:=Z0.mp hd;exact bG i
def dD {d:D}{n:Nat}(h:d.pd.canLay0=ζ/\d.pd.depth<=n)(hn:n<=64:=by decide):d.we=ζ:=by
 show (d.pd.canLay0&&decide (d.pd.depth<=64))=ζ;rw[h.1,Γ (by lia)]
 rfl
theorem fW {α:Type}[DecidableEq α]{f:α->PyData}(hf:∀a b,aa4 (f a) (f b)=decide (a=b)):∀xs ys:List α,ac6 (xs.map f) (ys.map f)=decide (xs=ys)
 |[],[]=>by simp[ac6]
 |[],_::_=>by simp[ac6]
 |_::_,[]=>by simp[ac6]
 |x::xs,y::ys=>by
  simp only[aae,ac6];rw[hf,fW hf xs ys]
  by_cases h1:x=y
  ·by_cases h2:xs=ys <;> simp[h1,h2]
  ·simp[h1]
def mI (i j:Int):aa4 (D.int i).pd (D.int j).pd=decide (i=j):=by
 simp only[D.pd,aa4]
 by_cases h:i=j <;> simp[h]
def L1 (t u:List Int):aa4 (kD t).pd (kD u).pd=decide (t=u):=by
 show aa4 (.tuple (D.gq (t.map D.int))) (.tuple (D.gq (u.map D.int)))=_;rw[dX,dX];simp only[aa4];exact fW mI t u
def Ee (ts us:List (List Int)):aa4 (D.lst (ts.map kD)).pd (D.lst (us.map kD)).pd=decide (ts=us):=by
 show aa4 (.list (D.gq (ts.map kD))) (.list (D.gq (us.map kD)))=_;rw[dX,dX];simp only[aa4];exact fW L1 ts us
def Ef (ts us:List Int):aa4 (D.lst (ts.map D.int)).pd (D.lst (us.map D.int)).pd=decide (ts=us):=by
 show aa4 (.list (D.gq (ts.map D.int))) (.list (D.gq (us.map D.int)))=_;rw[dX,dX];simp only[aa4];exact fW mI ts us
def xq {a b:D}{c:Bool}(h1:a.we=ζ)(h2:b.we=ζ)(e:aa4 a.pd b.pd=c):L9 a b=ν (.bl c):=by
 unfold L9;rw[χ {(h1),h2},e]
def Ew {a b:D}{c:Bool}(h1:a.we=ζ)(h2:b.we=ζ)(e:aa4 a.pd b.pd=c):PM a b=ν (.bl (!c)):=by
 unfold PM;rw[χ {(h1),h2},e]
def bA (i j:Int):L9 (.int i) (.int j)=ν (.bl (decide (i=j))):=xq (dD (bG i)) (dD (bG j)) (mI i j)
def EB (ts us:List (List Int)):L9 (.lst (ts.map kD)) (.lst (us.map kD))=ν (.bl (decide (ts=us))):=xq (dD (iP ts)) (dD (iP us)) (Ee ts us)
def Ex (ts us:List Int):PM (.lst (ts.map D.int)) (.lst (us.map D.int))=ν (.bl (!decide (ts=us))):=Ew (dD (fF ts)) (dD (fF us)) (Ef ts us)
theorem any_map {α:Type}[DecidableEq α]{f:α->D}(hf:∀a b,aa4 (f a).pd (f b).pd=decide (a=b))(t:α):∀xs:List α,((D.gq (xs.map f)).any λy=>aa4 y (f t).pd)=decide (t∈xs)
 |[]=>rfl
 |x::xs=>by
  show (aa4 (f x).pd (f t).pd || (D.gq (xs.map f)).any λy=>aa4 y (f t).pd)=_
  rw[any_map hf t xs,hf]
  by_cases h:x=t
  ·simp[h]
  ·have h':¬ t=x:=λz=>h z.symm;simp[h,h']
def zb (i:Int)(t:List Int):L8 (.int i) (kD t)=ν (decide (i∈t)):=by
 show (if (D.int i).we=ζ/\(D.tup (t.map D.int)).we=ζ then ν _ else ξ)=_
 rw[χ {dD (bG i),dD (tm t)},any_map mI]
def EA (i:Int)(t:List Int):UZ (.int i) (kD t)=ν (.bl (decide (i∈t))):=by unfold UZ;rw[zb];rfl
def AS (i:Int)(t:List Int):xp (.int i) (kD t)=ν (.bl (!decide (i∈t))):=by unfold xp;rw[zb];rfl
def U1 {α:Type}{ds:List α}{i:Nat}{d:α}(h:ds[i]?=ν d):pP ds (i:Int)=ν d:=by
 have hl:i<ds.length:=(Z1.mp h).1;unfold pP wU;rw[χ (by lia),χ (by lia),aa0]
 exact h
def ER {α:Type}{ds:List α}{i:Int}(h0:0<=i)(h1:i<ds.length):∃d∈ds,pP ds i=ν d/\ds[i.toNat]?=ν d:=by
 have hl:i.toNat<ds.length:=by lia
 refine{ds[i.toNat],abV hl,?_,ZU hl};have:=U1 (ds:=ds) (i:=i.toNat) (ZU hl)
 rwa [show ((i.toNat:Nat):Int)=i by lia]at this
def HD {ds:List D}{i:Nat}{d:D}(h:ds[i]?=ν d):vb (.lst ds) (.int (i:Int))=ν d:=U1 h
def pick {ds:List D}{r:Int}{p:D->Prop}(h0:0<=r)(h1:r<ds.length)(h:∀d∈ds,p d):∃d,vb (.lst ds) (.int r)=ν d/\p d:=by
 obtain⟨d,hd,e,_⟩:=ER h0 h1;exact{d,e,h d hd}
def va {ks:List Int}{i:Int}(h0:0<=i)(h1:i<ks.length):∃r∈ks,vb (.lst (ks.map D.int)) (.int i)=ν (.int r):=by
 obtain⟨r,hr,e,e'⟩:=ER h0 h1;refine{r,hr,?_};show pP (ks.map D.int) i=_;have:=U1 (ds:=ks.map D.int) (i:=i.toNat) (d:=.int r) (by rw[ZS,e'];rfl)
 rwa [show ((i.toNat:Nat):Int)=i by lia]at this
def Ra:D->Option String
 |.cf=>ν "NoneType"
 |.bl _=>ν "bool"
 |.int _=>ν "int"
 |.str _=>ν "str"
 |.tup _=>ν "tuple"
 |.lst _=>ν "list"
 |_=>ξ
section
variable {X:Cx}{W:θ->Prop}{H:Hp}{μ:List (θ×Obj)}{σ:St}{s:ZH}
def Rp.ty {d:D}{v:V}{T:String}(h:Rp X W H d v)(e:Ra d=ν T):i7 X.K H v (.type T):=by
 cases d with
 |cf=>cases h;cases e;exact .cf
 |bl b=>cases h;cases e;exact .bl _
 |int b=>cases h;cases e;exact .int _
 |str b=>cases h;cases e;exact .str _
 |tup ds=>obtain⟨a,vs,rfl,h1,_⟩:=h;cases e;exact .tup h1
 |lst ds=>obtain⟨a,vs,rfl,h1,_⟩:=h;cases e;exact .lst h1
 |_=>cases e
def A4:eS X (.builtin "isinstance") (λxs H Q=>∃x p n1 n2 T k,xs=[x,.ref p]/\H p=ν (.tup [.ty n1,.ty n2])/\i7 X.K H x (.type T)/\Β X.K (.type T) [.type n1,.type n2]=ν k/\Q (.bl k) H):=by
 intro μ s σ H xs us Q I r h;obtain⟨x,p,n1,n2,T,k,rfl,hp,ty,e,q⟩:=h;obtain⟨u,w',rfl,r1,r2⟩:=vals2 r;cases (show w'=Φ p from r2)
 obtain⟨_,its,rv,o,ho,hc,n,hd⟩:=(show a9 X.prog X.w H s.heap p (.tup [.ty n1,.ty n2]) from I.bp p _ hp)
 obtain⟨u1,u2,rfl,e1,e2⟩:∃u1 u2,its=[u1,u2]/\RelV (.ty n1) u1/\RelV (.ty n2) u2:=by
  cases rv with
  |cons a rr=>cases rr with
   |cons b rr=>cases rr;exact{_,_,rfl,a,b}
 cases (show u1=Value.type n1 from e1)
 cases (show u2=Value.type n2 from e2)
 obtain⟨c,dd,dt,sl⟩:=o;simp only at hc hd;subst hc hd;have fin:∀tk,EP X μ σ Q (.bool k) {s with toks:=tk}:=λtk=>{.bl k,H,I.tok _,rfl,q}
 cases ty with
 |cf=>cases (show u=Value.none from r1);exact ς PySem.W.kitx_none I.kL abK ho e (λz=>nomatch z) fin
 |bl y=>cases (show u=Value.bool y from r1);exact ς PySem.W.kitx_bool I.kL abK ho e (λz=>nomatch z) fin
 |int i=>obtain⟨t,q⟩:=(show ∃t,u=Value.int i t from r1);cases q;exact ς PySem.W.kitx_int I.kL abK ho e (λz=>nomatch z) fin
 |str y=>obtain⟨t,q⟩:=(show ∃t,u=Value.str y t from r1);cases q;exact ς PySem.W.kitx_str I.kL abK ho e (λz=>nomatch z) fin
 |LX y=>obtain⟨t,q⟩:=(show ∃t,u=Value.float y t from r1);cases q;exact ς PySem.W.kitx_float I.kL abK ho e (λz=>nomatch z) fin
 | @lst a xs ea =>
  cases (show u=Φ a from r1)
  obtain⟨_,_,n,_,h1⟩:=(show a9 X.prog X.w H s.heap a (.lst xs) from I.bp a _ ea)
  exact ς PySem.W.kitx_list I.kL {_,h1,rfl} ho e (λz=>nomatch z) fin
 | @vJ a ob xs ea =>
  cases (show u=Φ a from r1)
  obtain⟨_,_,_,n,_,h1⟩:=(show a9 X.prog X.w H s.heap a (.vJ ob (.lst xs)) from I.bp a _ ea)
  exact ς PySem.W.kitx_list I.kL {_,h1,rfl} ho e (λz=>nomatch z) fin
 | @tup a xs ea =>
  cases (show u=Φ a from r1)
  obtain⟨_,_,_,p⟩:=(show a9 X.prog X.w H s.heap a (.tup xs) from I.bp a _ ea)
  obtain⟨o,h1,h2,_⟩:=p;exact ς PySem.W.kitx_tuple I.kL {(o),h1,h2} ho e (λz=>nomatch z) fin
 | @dK a kvs ea =>
  cases (show u=Φ a from r1)
  obtain⟨_,_,vs,_,p⟩:=(show a9 X.prog X.w H s.heap a (.dK kvs) from I.bp a _ ea)
  obtain⟨o,es,ep,h1,h2,_⟩:=p;exact ς PySem.W.kitx_dict I.kL {(o),h1,h2.1} ho e (λz=>nomatch z) fin
 | @dT a kvs ea =>
  cases (show u=Φ a from r1)
  obtain⟨_,_,xs,_,o,es,ep,h1,h2,_⟩:=(show a9 X.prog X.w H s.heap a (.dT kvs) from I.bp a _ ea)
  exact ς PySem.W.kitx_dict I.kL {(o),h1,h2.1} ho e (λz=>nomatch z) fin
end
section
variable {X:Cx}{a:Expr}{φ:Ms}{T T2:Str}{n n2:String}{p p2 p3 tp pos:Pos}{x1:Nat}
def hE (hm:X.mg "isinstance" = ξ)(ha:PV X a φ)(hT:X.mg T=ξ)(bT:aaF T=ν (.type n))(hg:Gl X "isinstance" := by rfl)(Uq:Gl X T:=by rfl)(TZ:T≠"__name__" := by decide)(Uu:(T==("__debug__" : Str))=η:=by decide)
  (n_:Z2 [a,.Name T p2] X.env=(η,eval a X.env)::Z2 [.Name T p2] X.env:=by rfl) (Li:Z2 [.Name T p2] X.env=(η,eval (.Name T p2) X.env)::Z2 [] X.env:=by rfl) (hpl:(abI pos (Z2 [.Name T p2] X.env)).any (·.1)=η:=by rfl) :
  PV X (.Call (.Name "isinstance" p) [a,.Name T p2] [] pos) (λρ R=>φ ρ λd=>∃t k,Ra d=ν t/\Α X.K (.type t) (.type n)=ν k/\R (.bl k)) :=
 ⟨λρ R R' k h=>ha.mono ρ _ _ (λd jO=>by obtain⟨t,b,h1,h2,q⟩:=jO;exact{t,b,h1,h2,k _ q}) h,
  (jy EH hg hm EL (a_ ha.pe (a_ (rN (v:=.ty n) Uq hT bT rfl TZ Uu) cR Li) n_) (he:=n_) (hpl:=hpl)).pre λσ H Q ⟨W,ρ,se,h⟩=>tD.of ha se h λd v H1 ⟨t,k,h1,h2,q⟩ s1 r1 =>
    {v,n,_,k,rfl,r1.ty h1,h2,q _ H1 s1 rfl}⟩
def yc (hm:X.mg "isinstance" = ξ)(ha:PV X a φ)(hT:X.mg T=ξ)(bT:aaF T=ν (.type n))(Yx:X.mg T2=ξ)(YR:aaF T2=ν (.type n2))(hg:Gl X "isinstance" := by rfl)(Uq:Gl X T:=by rfl)(TZ:T≠"__name__" := by decide)(Uu:(T==("__debug__" : Str))=η:=by decide)(Up:Gl X T2:=by rfl)(TY:T2≠"__name__" := by decide)(Ut:(T2==("__debug__" : Str))=η:=by decide)
  (n_:Z2 [a,.Tuple [.Name T p2,.Name T2 p3] x1 tp] X.env=(η,eval a X.env)::Z2 [.Tuple [.Name T p2,.Name T2 p3] x1 tp] X.env:=by rfl) (Li:Z2 [.Tuple [.Name T p2,.Name T2 p3] x1 tp] X.env=(η,eval (.Tuple [.Name T p2,.Name T2 p3] x1 tp) X.env)::Z2 [] X.env:=by rfl) (hpl:(abI pos (Z2 [.Tuple [.Name T p2,.Name T2 p3] x1 tp] X.env)).any (·.1)=η:=by rfl)
  (jO:Z2 [.Name T p2,.Name T2 p3] X.env=(η,eval (.Name T p2) X.env)::Z2 [.Name T2 p3] X.env:=by rfl) (r_:Z2 [.Name T2 p3] X.env=(η,eval (.Name T2 p3) X.env)::Z2 [] X.env:=by rfl) :
  PV X (.Call (.Name "isinstance" p) [a,.Tuple [.Name T p2,.Name T2 p3] x1 tp] [] pos) (λρ R=>φ ρ λd=>∃t k,Ra d=ν t/\Β X.K (.type t) [.type n,.type n2]=ν k/\R (.bl k)) :=
 ⟨λρ R R' k h=>ha.mono ρ _ _ (λd DD=>by obtain⟨t,b,h1,h2,q⟩:=DD;exact{t,b,h1,h2,k _ q}) h,
  (jy A4 hg hm EL (a_ ha.pe (a_ (wx (a_ (rN (v:=.ty n) Uq hT bT rfl TZ Uu) (a_ (rN (v:=.ty n2) Up Yx YR rfl TY Ut) cR r_) jO)) cR Li) n_) (he:=n_) (hpl:=hpl)).pre λσ H Q ⟨W,ρ,se,h⟩=>tD.of ha se h λd v H1 ⟨t,k,h1,h2,q⟩ s1 r1 =>
    {by show 2<=Z3;decide,λp hp=>{v,p,n,n2,t,k,rfl,ao,Rp.ty (X:=X) (r1.same (au.new hp)) h1,h2,q _ _ (s1.trans (au.new hp)) rfl}}⟩
end
def Dn {K:Ξ}:Α K (.type "list") (.type "list")=ν ζ:=rfl
def Dl {K:Ξ}:Α K (.type "tuple") (.type "list")=ν η:=rfl
def kit_is {K:Ξ}:Α K (.type "int") (.type "str")=ν η:=rfl
def K2 {K:Ξ}:Α K (.type "int") (.type "int")=ν ζ:=rfl
def K3 {K:Ξ}:Α K (.type "int") (.type "bool")=ν η:=rfl
def GZ {K:Ξ}:Β K (.type "int") [.type "list",.type "tuple"]=ν η:=rfl
def yD {K:Ξ}:Β K (.type "tuple") [.type "list",.type "tuple"]=ν ζ:=rfl
def yE {K:Ξ}:Β K (.type "list") [.type "list",.type "tuple"]=ν ζ:=rfl
end L2
namespace HT
theorem ou {α β:Type}{f g:α->Option β}:∀{l:List α},(∀x∈l,f x=g x)->l.filterMap f=l.filterMap g
 |[],_=>rfl
 |x::l,h=>by
  rw[aaU,aaU,h x (by simp),ou λy hy=>h y (by simp[hy])]
def Cf {α:Type}(xs:List α):((ZK xs.length).filterMap λk=>xs[xs.length-1-k]?)=xs.reverse:=by
 have h:=pick_run xs.reverse.toArray 0 xs.length;rw[List.filterMap_map]at h;have e:((ZK xs.length).filterMap λk=>xs[xs.length-1-k]?)=(ZK xs.length).filterMap ((λx=>xs.reverse.toArray[x]?) ∘ λx=>0+x):=by
  refine ou λk hk=>?_;have IJ:=aas.mp hk;show _=xs.reverse.toArray[0+k]?;rw[List.getElem?_toArray,abj,List.getElem?_reverse IJ]
 rw[e,h];simp only[List.drop_zero];exact abk (by simp)
def pj (items:Array ZF):slicePick items ξ ξ (ν (-1))=items.toList.reverse.toArray:=by
 have e:(sliceRange (abX ξ ξ (ν (-1)) items.size).1 (abX ξ ξ (ν (-1)) items.size).2.1 (abX ξ ξ (ν (-1)) items.size).2.2)=(ZK items.size).map λk=>items.size-1-k:=by
  show sliceRange ((items.size:Int)-1) (-1) (-1)=_;unfold sliceRange;have c:(if (-1:Int)>0 then (if (items.size:Int)-1 < -1 then ((-1)-((items.size:Int)-1)+-1-1) / -1 else 0) else (if (items.size:Int)-1 > -1 then ((items.size:Int)-1-(-1)-(-1)-1) / (-(-1)) else 0)).toNat=items.size:=by
   rw[ω (by lia)]
   split
   ·rw[show (-(-1):Int)=1 by rfl,Int.ediv_one];lia
   ·lia
  simp only[c];refine aal λk hk=>?_;have:=aas.mp hk;lia
 unfold slicePick;rw[e,List.filterMap_map]
 congr 1
 have:=Cf items.toList;rw[ZX]at this;rw[<- this];refine ou λk hk=>?_;show items[items.size-1-k]?=_;rw[Z9]
end HT
namespace L2
theorem ai.rev {P:ZN}{w:Z4}{W:θ->Prop}{H:Hp}:∀{ds:List D} {vs:List V},ai P w W H ds vs->ai P w W H ds.reverse vs.reverse
 |[],_,h=>by rw[show _=[] from h];rfl
 |d::ds,_,⟨v,r,e,h1,h2⟩=>by
  subst e;rw[ac5,ac5];exact(ai.rev h2).append (.one h1)
theorem Vals.rev:∀{xs:List V} {us:List ZF},Vals xs us->Vals xs.reverse us.reverse
 |_,_,.nil=>.nil
 |_,_,.cons r t=>by
  rw[ac5,ac5];exact(Vals.rev t).append (.cons r .nil)
end L2
namespace L2.Q
def allB (β:a6):Bp:=β.map λb=>match b with|some (.val _ d)=>ν d|some (.own d)=>ν d|_=>ξ
def Jx (β:a6):Bp:=β.map λb=>match b with|some (.val _ d)=>ν d|_=>ξ
section
variable {P:ZN}{w:Z4}{C:Cfg}{σ:St}{H:Hp}{β:a6}{own:Nat->List θ}{i:Nat}
def cu.RC (s:cu P w C σ H β own):MV P w (λ_=>False) σ H (allB β):=⟨λa z=>z.elim,λi d e=>by
 unfold allB at e;rw[ZS]at e;cases q:β[i]? with
 |none=>rw[q]at e;cases e
 |some x =>
  rw[q]at e;cases x with
  |none=>cases e
  |some x =>
   cases x with
   |val y d'=>cases e;obtain⟨v,h1,h2⟩:=s.val i y d q;exact{v,h1,h2.aZ λ_ z=>z.elim}
   |own d'=>cases e;obtain⟨v,h1,h2,_⟩:=s.ow i d q;exact{v,h1,h2.rep λ_ _ z=>z}
   |hand ok=>cases e
   |shl y d=>cases e⟩
def cu.RA (s:cu P w C σ H β own):MV P w (av C (Wn own) .old) σ H (Jx β):=⟨s.Er .old,λi d e=>by
 unfold Jx at e;rw[ZS]at e;cases q:β[i]? with
 |none=>rw[q]at e;cases e
 |some x =>
  rw[q]at e;cases x with
  |none=>cases e
  |some x =>
   cases x with
   |val y d'=>cases e;obtain⟨v,h1,h2⟩:=s.val i y d q;exact{v,h1,h2.aZ λa z=>by cases y <;> first|exact .inl z|exact .inl (.inl z)}
   |own d'=>cases e
   |hand ok=>cases e
   |shl y d=>cases e⟩
end
section
variable {X:Cx}{C:Cfg}{e tg it:Expr}{φ:Ms}{ι:Mr}
def gA (h:PV X e φ):PQ X C ζ e (λβ R=>φ (allB β) λd=>d.flat=ζ/\R d .own β) :=
 {λβ R R' k q=>h.mono _ _ _ (λd q=>{q.1,k _ _ _ q.2}) q,h.pe.pre λσ H Q jO=>by obtain⟨β,own,s,q⟩:=jO;exact tD.of h s.RC q λd v H1 r_ s1 r1=>by obtain⟨f,q⟩:=r_;exact q v H1 own ((Out.refl s ζ).same s1) (KV.flat f r1)}
def F6 (h:WC X tg it ι):vA X C ζ tg it (λβ R=>ι (Jx β) λds=>R ds .old β) :=
 {λβ R R' k q=>h.mono _ _ _ (λd q=>k _ _ _ q) q,h.pi.pre λσ H R w6=>by obtain⟨β,own,s,q⟩:=w6;exact{_,_,s.RA,h.mono _ _ _ (λds q J H' s1 it=>q J H' own ((Out.refl s ζ).same s1) it) q}}
end
section
variable {P:ZN}{w:Z4}{C:Cfg}{σ:St}{H:Hp}{β:a6}{own:Nat->List θ}{i:Nat}{ok:List Int->Prop}{ns:List Int}
theorem qf:∀{ns:List Int} {vs:List V} {A:List θ},aK P w H (ns.map D.int) vs A->vs=ns.map V.int/\A=[]
 |[],_,_,h=>h
 |n::ns,_,_,⟨v,r,A1,A2,e,eA,h1,h2⟩=>by
  obtain⟨rfl,rfl⟩:=qf h2;obtain⟨rfl,rfl⟩:=h1;exact{e,by rw[eA];rfl}
def cu.toHand (s:cu P w C σ H β own)(e:β[i]?=ν (ν (.own (.lst (ns.map D.int)))))(ho:ok ns)(io:∀b,¬ C.IO b):cu P w C σ H (β.set i (ν (.hand ok))) own:=by
 obtain⟨v,h1,⟨a,vs,A',rfl,h2,h3,h4⟩,h5⟩:=s.ow i _ e;obtain⟨rfl,rfl⟩:=qf h4;refine⟨by simp[s.len],λj y d q=>?_,λj d q=>?_,λj Bk q=>?_,s.dm,s.mJ,s.lV,s.kp,s.iI,λj y d q=>by
  by_cases aG:i=j
  ·subst aG;obtain⟨e',_⟩:=bH q;cases e'
  ·rw[bu aG]at q;exact s.shl j y d q⟩
 ·by_cases aG:i=j
  ·subst aG;obtain⟨e',_⟩:=bH q;cases e'
  ·rw[bu aG]at q;exact s.val j y d q
 ·by_cases aG:i=j
  ·subst aG;obtain⟨e',_⟩:=bH q;cases e'
  ·rw[bu aG]at q;exact s.ow j d q
 ·by_cases aG:i=j
  ·subst aG;obtain⟨e',_⟩:=bH q;cases e';exact{a,ns,h1,h2,ho,h3,.inl io}
  ·rw[bu aG]at q;exact s.pD j Bk q
end
section
variable {X:Cx}{C:Cfg}{e:Expr}{φ:aM}{p:Bool}{i:Nat}{x:Str}{pos pos' px ap cp:Pos}{ok:List Int->Prop}
def Ge (ok:List Int->Prop)(Ug:∀b,¬ C.IO b)(he:∀U,PQ X (C.u U) p e φ)(hN:X.N.Nodup)(hi:X.N[i]?=ν x:=by rfl)(hx:Loc X.env.scope x:=by first|exact .inl rfl|exact .inr rfl)
  (hs:ab4 e (ν (.Name x pos')) pos.line X.env=pure η:=by rfl) (hf:X.fn x=ζ\/X.env.scope.names.lookup x=ν .local:=by first|exact .inl rfl|exact .inr rfl|assumption) :
  PB X C (.Assign [.Name x pos'] e pos) (λE β=>φ β λd k β'=>Fb k d/\i<β'.length/\∃ns:List Int,d=.lst (ns.map D.int)/\ok ns/\E.nx (β'.set i (ν (.hand ok)))):=by
 have B:=bW (C:=C) (i:=i) (pos:=pos) (pos':=pos') he hN hi hx hs hf;refine{λE E' β l q=>(he λ_=>False).mono _ _ _ (λd k β' DD=>by obtain⟨f,h,ns,e,o,q⟩:=DD;exact{f,h,ns,e,o,l.nx _ q}) q,B.ps.pre λDe σ H fA=>?_}
 obtain⟨Z,E,β,sb,q,Bk⟩:=fA;refine{Z,{E with nx:=λβ'=>∃(ns:List Int) (β2:a6),i<β2.length/\β'=β2.set i (ν (.own (.lst (ns.map D.int))))/\ok ns/\E.nx (β2.set i (ν (.hand ok)))},β,sb,(he λ_=>False).mono _ _ _ (λd k β' Lm=>by obtain⟨f,h,ns,e,o,q⟩:=Lm;exact{f,ns,β',h,by rw[e],o,q}) q,{λσ' H' β' FU n9=>?_,Bk.rt,Bk.bk,Bk.ct}}
 obtain⟨ns,β2,hl,e,o,q⟩:=n9;subst e;obtain⟨own,s,n⟩:=FU;have:=s.toHand (i:=i) (ok:=ok) (get_set hl) o Ug;rw[List.set_set]at this;exact Bk.nx _ _ _ {(own),this,n} q
def cu.putL {P:ZN}{w:Z4}{σ:St}{H:Hp}{β:a6}{own:Nat->List θ}{U U2:θ->Prop}{ds ds':List D}{vs':List V}{a:θ}{vs:List V}{A A':List θ}(s:cu P w (C.u U) σ H β own)(e:β[i]?=ν (ν (.own (.lst ds))))(h1:σ[i]?=ν (ν (.ref a)))(h2:H a=ν (.lst vs))(h3:own i=a::A)
  (r:aK P w H ds' vs' A') (nd:A'.Nodup) (hA:∀c∈A',c∈A\/(C.H0 c=ξ/\¬ Wn own c/\U c)) (hU:∀a,U2 a->U a) (UD:∀c∈A',c∉A->¬ U2 c) :
  cu P w (C.u U2) σ (upd H a (.lst vs')) (β.set i (ν (.own (.lst ds')))) (aU own i (a::A'))/\∀c∈a::A',c∈own i\/(C.H0 c=ξ/\¬ Wn own c/\U c):=by
 have ha:a∈own i:=by rw[h3];simp
 have nA:a∉A:=by have:=s.lV i;rw[h3]at this;exact(aac.mp this).1
 have na:∀c∈A',c≠a:=λc hc z=>by
  subst z;rcases hA c hc with z|z
  ·exact nA z
  ·exact z.2.1 {(i),ha}
 have kt:∀b xs,H b=ν (.tup xs)->upd H a (.lst vs') b=ν (.tup xs):=λb xs z=>by rw[aw (λz'=>by rw[z',h2]at z;cases z)];exact z
 have QN:∀c∈a::A',c∈own i\/(C.H0 c=ξ/\¬ Wn own c/\U c):=λc hc=>by
  rcases ZI.mp hc with rfl|hc
  ·exact .inl ha
  ·exact(hA c hc).imp (λz=>by rw[h3];simp[z]) id
 refine{s.NA e h1 ha {a,vs',A',rfl,ao,rfl,r.keep kt λc hc oc ec=>by rw[aw (na c hc)];exact ec} (aac.mpr {λz=>na a z rfl,nd}) QN hU (λc hc z=>?_),QN}
 rcases ZI.mp hc with rfl|hc
 ·exact(s.dm i c ha).2.2.2 (hU c z)
 ·by_cases q:c∈A
  ·exact(s.dm i c (by rw[h3];simp[q])).2.2.2 (hU c z)
  ·exact UD c hc q z
def CJ {own:Nat->List θ}{i:Nat}{A':List θ}(h:∀c∈A',c∈own i):∀c,Wn (aU own i A') c->Wn own c:=λc Ll=>by
 obtain⟨j,hj⟩:=Ll
 by_cases aG:i=j
 ·rw[<- aG,os_eq]at hj;exact{i,h c hj}
 ·rw[bM aG]at hj;exact{(j),hj}
def J7 {P:ZN}{w:Z4}{H:Hp}{own:Nat->List θ}{Z:Hp×(θ->Prop)}{d:D}{v:V}{A:List θ}(r:Own P w H d v A)(h:∀c∈A,¬ Wn own c/\C.H0 c=ξ):KV P w C Z own H (sk .d9 d) d v:=by
 have q:az P w (av C (Wn own) .d9) H d v:=r.rep λc hc z=>z.elim (h c hc).1 λz=>z (h c hc).2;cases d with
 |int i=>exact KV.flat rfl q
 |bl i=>exact KV.flat rfl q
 |cf=>exact KV.flat rfl q
 |str i=>exact KV.flat rfl q
 |_=>exact q
def aK.concat {P:ZN}{w:Z4}{H:Hp}{ds:List D}{d:D}{vs:List V}{A:List θ}(h:aK P w H (ds++[d]) vs A):∃us v A1 A2,vs=us++[v]/\A=A1++A2/\aK P w H ds us A1/\Own P w H d v A2:=by
 obtain⟨v,A1,A2,A3,g1,g2,g3,g4,g5⟩:=h.split (i:=ds.length) (d:=d) (by simp)
 rw[List.take_left]at g3;have e3:aK P w H [] (vs.drop (ds.length+1)) A3:=by simpa using g5
 have hl:=h.length;rw[aad,abo]at hl;refine{vs.take ds.length,v,A1,A2,?_,by rw[g2,e3.2,aaw],g3,g4}
 have d3:ds.length<vs.length:=by lia
 have e1:vs=vs.take ds.length++vs.drop ds.length:=(abL _ _).symm;rw[aaL d3,e3.1]at e1;have:vs[ds.length]=v:=by
  have:=ZU d3;rw[g1]at this;exact(aao this).symm
 rw[this]at e1;exact e1
def J4 (hn:Nm X i x:=by exact wG)
  (eM:ab6 (.Name x px) "pop" X.env (eval (.Name x px) X.env)=eval (.Name x px) X.env:=by rfl) (eK:(ap.endLine==cp.line)=ζ:=by rfl) :
  PQ X C η (.Call (.Attribute (.Name x px) "pop" ap) [] [] cp) (λβ R=>∃ds d,β[i]?=ν (ν (.own (.lst (ds++[d]))))/\R d (sk .d9 d) (β.set i (ν (.own (.lst ds))))) :=
 ⟨λβ R R' k Lk=>by obtain⟨ds,d,h1,q⟩:=Lk;exact{ds,d,h1,k _ _ _ q},(Ke (apos:=ap) (cpos:=cp) Ζ PySem.F.slot_list_pop PySem.F.type_list_pop KJ (eE (pos:=px) hn) eM eK).pre λσ H Q sd=>by
  obtain⟨β,own,s,ds,d,hb,q⟩:=sd;obtain⟨a,vs,A,h1,h2,h3,h4⟩:=s.nN hb;obtain⟨us,v,A1,A2,rfl,rfl,g3,g4⟩:=h4.concat;have nd:=s.lV i;rw[h3]at nd;obtain⟨C6,Bl,KD⟩:=aaz.mp (aac.mp nd).2;obtain⟨s2,hA⟩:=s.putL (C:=C) (U:=C.U) (U2:=C.U) (ds':=ds) (vs':=us) (A':=A1) hb h1 h2 h3 g3 C6 (λc hc=>.inl (by simp[hc])) (λ_ z=>z) (λc hc n=>Η (by simp[hc]) n)
  have h0:∀c∈own i,C.H0 c=ξ:=by obtain⟨_,_,_,h⟩:=s.ow i _ hb;exact h
  have kt:∀b xs,H b=ν (.tup xs)->upd H a (.lst us) b=ν (.tup xs):=λb xs z=>by rw[aw (λz'=>by rw[z',h2]at z;cases z)];exact z
  have na:∀c∈A2,c≠a:=λc hc z=>(aac.mp nd).1 (by rw[<- z];simp[hc])
  have le:∀c,Wn (aU own i (a::A1)) c->Wn own c:=CJ λc hc=>by rw[h3];rcases ZI.mp hc with rfl|hc <;> simp[*]
  refine{.ref a,h1,.inl {rfl,_,dJ.of h2},a,_,v,rfl,rfl,h2,by simp,?_}
  rw[List.dropLast_concat];refine q v _ _ {s2,?_,λz=>(nomatch z),le} (J7 (C:=C) (g4.keep kt λc hc oc ec=>by rw[aw (na c hc)];exact ec) λc hc=>{λ⟨j,hj⟩=>?_,h0 c (by rw[h3];simp[hc])})
  ·have u:=Sn.upd (Z:=(H,Wn own)) (o':=.lst us) (Sn.refl (H:=H) (W:=Wn own)) h2 (λxs z=>by cases z) {i,by rw[h3];simp}
   exact{λb z=>.inl (le b z),u.k,u.d}
  ·by_cases aG:i=j
   ·rw[<- aG,os_eq]at hj;rcases ZI.mp hj with rfl|hj
    ·exact na _ hc rfl
    ·exact KD _ hj _ hc rfl
   ·rw[bM aG]at hj;exact aG (s.mJ i j c (by rw[h3];simp[hc]) hj)⟩
end
section
variable {X:Cx}{C:Cfg}{e k:Expr}{φ φk:aM}{p pk:Bool}{i:Nat}{x:Str}{pos pos' px ap cp:Pos}
def rY {n:Nat}{j:Int}{k:Nat}(h:wU n j=ν k):k<n:=by
 unfold wU at h
 by_cases h0:0<=j
 ·rw[χ h0]at h
  by_cases h1:j<n
  ·rw[χ h1]at h;cases h;lia
  ·rw[ω h1]at h;cases h
 ·rw[ω h0]at h
  by_cases h1:-(n:Int)<=j
  ·rw[χ h1]at h;cases h;lia
  ·rw[ω h1]at h;cases h
def xS {Z:Hp×(θ->Prop)}{H:Hp}{own:Nat->List θ}{a:θ}{o oa:HO}{A':List θ}{U:θ->Prop}(n:Sn Z H (Wn own))(m:∀a,U a->Z.1 a=ξ)(h2:H a=ν oa)(ht:∀xs,oa≠.tup xs)(ha:Wn own a)(hA:∀c∈A',c∈own i\/(C.H0 c=ξ/\¬ Wn own c/\U c)):Sn Z (upd H a o) (Wn (aU own i A')) :=
 m_ n m ha {(oa),h2,ht} hA
def z9 (he:PQ X C.z p e φ)(hn:Nm X i x:=by exact wG)
  (eM:ab6 (.Name x px) "extend" X.env (eval (.Name x px) X.env)=eval (.Name x px) X.env:=by rfl)
  (oh:((abI cp (Z2 [e] X.env)).all (λx=>!x.1)&&(backToKw cp (ac1 [] X.env)).all (λx=>x.1.isSome)&&decide ([e].length+([]:List acA).length+(if ([]:List acA).isEmpty then 0 else 1)<30))=ζ:=by rfl)
  (eK:(ap.endLine==cp.line)=ζ:=by rfl) (hs:Z2 [e] X.env=(η,eval e X.env)::Z2 [] X.env:=by rfl) (eI:(abI cp (Z2 [] X.env)).any (·.1)=η:=by rfl)
  (vH:ab4 (.Call (.Attribute (.Name x px) "extend" ap) [e] [] cp) ξ pos.line X.env=pure η:=by rfl) :
  PB X C (.Expr (.Call (.Attribute (.Name x px) "extend" ap) [e] [] cp) pos) (λE β=>(∃ds,β[i]?=ν (ν (.own (.lst ds))))/\φ β λd _ β'=>∃ds es,d=.lst es/\D.cb es=ζ/\β'[i]?=ν (ν (.own (.lst ds)))/\ds.length+es.length<=Z3/\E.nx (β'.set i (ν (.own (.lst (ds++es)))))):=by
 refine⟨λE E' β l Lm=>by obtain⟨h1,q⟩:=Lm;exact{h1,he.mono _ _ _ (λd k β' To=>by obtain⟨ds,es,h1,h2,h3,h4,q⟩:=To;exact{ds,es,h1,h2,h3,h4,l.nx _ q}) q},
  (mn (pos:=pos) (CG (apos:=ap) (cpos:=cp) Ζ PySem.F.slot_list_extend PySem.F.type_list_extend Ah (eE (pos:=px) hn) (a_ he.pe cR hs) eM oh eK hs eI) vH).pre λD σ H ⟨Z,E,β,⟨own,s0,n⟩,⟨⟨Wz,Ff⟩,q⟩,ok⟩=>?_⟩
 obtain⟨a0,WN,A0,z1,z2,z3,z4⟩:=s0.nN Ff;refine{.ref a0,z1,.inl {rfl,_,dJ.of z2},tQ.of he s0 q λd kk β' v H1 aC wZ o r=>?_};obtain⟨ds,es,e1,f,hb,hl,q⟩:=wZ;subst e1;obtain⟨b,us,rfl,MI,_,rb⟩:=r.rep;obtain⟨a,vs,A,h1,h2,h3,h4⟩:=o.sq.nN hb;rw[z1]at h1;cases h1;have nd:=o.sq.lV i;rw[h3]at nd;obtain⟨s2,hA⟩:=o.sq.putL (C:=C) (U:=λ_=>False) (U2:=λ_=>False) (ds':=ds++es) (vs':=vs++us) (A':=A) hb z1 h2 h3 (by simpa using h4.append (hV f rb)) (aac.mp nd).2 (λc hc=>.inl hc) (λ_ z=>z) (λc hc n=>Η hc n)
 exact{a0,b,vs,us,rfl,rfl,h2,MI,by rw[h4.length,rb.length];exact hl,ok.nx _ _ _ {_,s2,xS (n.trans o.sn) (λ_ z=>z.elim) h2 (λxs z=>by cases z) {i,by rw[h3];simp} hA} q}
def nC (he:∀U,PQ X (C.u U) p e φ)(hk:∀U,PQ X (C.u U) pk k φk)(hn:Nm X i x:=by exact wG)
  (ha:∀v,assign (.Subscript (.Name x px) k pos') X.env v=(do
   let ov <- holding [v] (eval (.Name x px) X.env)
   let iv <- holding [v,ov] (eval k X.env)
   ac0 pos'
   holding [v,ov,iv] (setItem ov iv v)
   release [v,ov,iv] []):=by intro _;rfl) (hs:swapsWithSole [.Subscript (.Name x px) k pos'] e pos.line X.env=pure η:=by rfl) (hw:swappedStores [.Subscript (.Name x px) k pos'] e X.env=pure ξ:=by rfl)
  (h1:(abJ [.Subscript (.Name x px) k pos'] X.env).map (·.2)=[assign (.Subscript (.Name x px) k pos') X.env]:=by rfl) :
  PB X C (.Assign [.Subscript (.Name x px) k pos'] e pos) (λE β=>φ β λd kd β1=>Fb kd d/\(∃ds,β1[i]?=ν (ν (.own (.lst ds))))/\φk β1 λjd _ β2=>∃ds j m,jd=.int j/\β2[i]?=ν (ν (.own (.lst ds)))/\wU ds.length j=ν m/\E.nx (β2.set i (ν (.own (.lst (ds.set m d)))))):=by
 refine{λE E' β l q=>(he λ_=>False).mono _ _ _ (λd kd β1 sd=>by obtain⟨f,h0,q⟩:=sd;exact{f,h0,(hk λ_=>False).mono _ _ _ (λjd _ β2 w9=>by obtain⟨ds,j,m,h1,h2,h3,q⟩:=w9;exact{ds,j,m,h1,h2,h3,l.nx _ q}) q}) q,λμ s σ H De I OB=>?_}
 obtain⟨Z,E,β,⟨own,sq,n⟩,q,ok⟩:=OB;refine nv (he λa=>H a=ξ).pe (rM (eE (pos:=px) hn) (hk λa=>H a=ξ).pe set_list ha) hs hw h1 μ s σ H De I ?_;refine tQ.of (he λa=>H a=ξ) (sq.mQ (C:=C.z) (U:=λa=>H a=ξ) λa z=>z) q λd kd β1 v H1 aC S7 o r=>?_;obtain⟨f,⟨Wz,Ff⟩,q⟩:=S7;obtain⟨a0,WN,A0,z1,z2,z3,z4⟩:=o.sq.nN Ff;refine{.ref a0,z1,tQ.of (hk λa=>H a=ξ) o.sq q λjd kj β2 jv H2 ba S6 o2 r2=>?_};obtain⟨ds,j,m,e1,hb,hj,q⟩:=S6;subst e1;cases r2.rep;obtain⟨A,r1,rn,r3⟩:=(r.fl f).held (by intro z;cases z) o2.sn
 obtain⟨a,vs,A',g1,g2,g3,g4⟩:=o2.sq.nN hb;rw[z1]at g1;cases g1;have V_:m<ds.length:=rY hj;have hm:ds[m]?=ν ds[m]:=ZU V_;obtain⟨v0,B1,B2,B3,k1,rfl,k3,k4,k5⟩:=g4.split hm;have nd:=o2.sq.lV i;rw[g3]at nd;obtain⟨C6,Bl,KD⟩:=aaz.mp (aac.mp nd).2;obtain⟨Ss,So,Sm⟩:=aaz.mp Bl;have MG:m<vs.length:=by rw[g4.length];exact rY hj
 have ow:aK X.prog X.w H2 (ds.set m d) (vs.set m v) (B1++(A++B3)):=by
  rw[abh,χ (rY hj),abh,χ MG];exact k3.append {v,_,A,B3,rfl,rfl,r1,k5}
 have off:∀c∈A,∀c'∈B1++(B2++B3),c≠c':=λc hc c' lY z=>(r3 c hc).2.1 {i,by rw[g3,z];simp only[ZI];exact .inr lY}
 have XA:(B1++(A++B3)).Nodup:=aaz.mpr ⟨C6,aaz.mpr {rn,So,λx hx y hy=>off x hx y (by simp[hy])},λx hx y hy z=>by
  rcases ZT.mp hy with hy|hy
  ·exact off y hy x (by simp[hx]) z.symm
  ·exact KD x hx y (aaa _ hy) z⟩
 obtain⟨s2,hA⟩:=o2.sq.putL (C:=C) (U:=λa=>H a=ξ) (U2:=λ_=>False) (ds':=ds.set m d) (vs':=vs.set m v) (A':=B1++(A++B3)) hb z1 g2 g3 ow XA (λc hc=>by
  rcases ZT.mp hc with hc|hc
  ·exact .inl (by simp[hc])
  ·rcases ZT.mp hc with hc|hc
   ·exact .inr {(r3 c hc).2.2,(r3 c hc).2.1,(r3 c hc).1}
   ·exact .inl (by simp[hc])) (λ_ z=>z.elim) (λc hc n z=>z)
 exact{a0,vs,j,m,rfl,rfl,g2,by rw[g4.length];exact hj,ok.nx _ _ _ {_,s2,xS ((n.trans o.sn).trans o2.sn) (λb z=>n.free z) g2 (λxs z=>by cases z) {i,by rw[g3];simp} hA} q}
end
end L2.Q
namespace L2
namespace Q
section
variable {P:ZN}{w:Z4}{C:Cfg}{σ:St}{H:Hp}{β:a6}{own:Nat->List θ}{lk:List (Option Nat)}{a:θ}
def cu.xl {o:HO}(ho:∀xs,o≠.tup xs)(s:cu P w C σ H β own)(ha:H a=ξ)(inj:∀(i i' j:Nat),lk[i]?=ν (ν j)->lk[i']?=ν (ν j)->i=i'):
  cu P w (C.u λc=>c=a) (dv lk σ) (upd H a o) (bR lk β) (bh lk β own):=by
 have h0:C.H0 a=ξ:=aax λz=>s.iI a z ha;have q:=(s.enter ha inj).FR (o:=o) ao (λxs z=>by cases z) h0
 have e:upd (upd H a (.lst [])) a o=upd H a o:=by
  funext b
  by_cases hb:b=a
  ·rw[hb,ao,ao]
  ·rw[aw hb,aw hb,aw hb]
 rwa [e]at q
end
end Q
end L2
namespace L2.Q
abbrev Oa (l:Bool)(ds:List D):D:=match l with|true=>.lst ds|false=>.tup ds
section
variable {P:ZN}{w:Z4}{H:Hp}{A:List θ}{v:V}{ds:List D}{l:Bool}
def jB {m:Nat}{es:List D}(r:Own P w H (Oa l ds) v A)(nd:A.Nodup)(hm:ds[m]?=ν (.lst es)):∃a vs c us B,v=.ref a/\H a=ν (match l with|true=>.lst vs|false=>.tup vs)/\vs.length=ds.length/\vs[m]?=ν (.ref c)/\H c=ν (.lst us)/\c∈A/\aK P w H es us B/\(∀x∈B,x∈A/\x≠c)/\B.Nodup /\
  ∀eU sJ B',aK P w H eU sJ B'->B'.Nodup->(∀x∈B',x∈B\/x∉A)->(∀x∈B',x≠c)->∃A',Own P w (upd H c (.lst sJ)) (Oa l (ds.set m (.lst eU))) v A'/\A'.Nodup/\∀x∈A',x∈A\/x∈B':=by
 have core:∀{vs:List V} {A:List θ},A.Nodup->aK P w H ds vs A->∃c us B,vs[m]?=ν (.ref c)/\H c=ν (.lst us)/\c∈A/\aK P w H es us B/\(∀x∈B,x∈A/\x≠c)/\B.Nodup /\
   ∀eU sJ B',aK P w H eU sJ B'->B'.Nodup->(∀x∈B',x∈B\/x∉A)->(∀x∈B',x≠c)->∃A',aK P w (upd H c (.lst sJ)) (ds.set m (.lst eU)) vs A'/\A'.Nodup/\(∀x∈A',x∈A\/x∈B'):=λ{vs A} nd os=>by
  have hl:=os.length;have Yd:m<ds.length:=(Z1.mp hm).1;obtain⟨u,A1,A2,A3,g1,rfl,g3,⟨c,us,B,rfl,h2,rfl,h4⟩,g5⟩:=os.split hm;obtain⟨C6,Bl,KD⟩:=aaz.mp nd;obtain⟨Ss,So,Sm⟩:=aaz.mp Bl;have XD:=(aac.mp Ss).1;refine{c,us,B,g1,h2,by simp,h4,λx hx=>{by simp[hx],λz=>XD (by rw[<- z];exact hx)},(aac.mp Ss).2,λeU sJ B' o' n' lZ lY=>?_}
  have kt:∀b xs,H b=ν (.tup xs)->upd H c (.lst sJ) b=ν (.tup xs):=λb xs z=>by rw[aw (λz'=>by rw[z',h2]at z;cases z)];exact z
  have n1:∀x∈A1,x≠c:=λx hx z=>KD x hx c (by simp) z
  have n3:∀x∈A3,x≠c:=λx hx z=>Sm c (by simp) x hx z.symm
  have off:∀x∈B',x∉A1/\x∉A3:=λx hx=>by
   rcases lZ x hx with z|z
   ·exact{λq=>KD x q x (by simp[z]) rfl,λq=>Sm x (by simp[z]) x q rfl}
   ·exact{λq=>z (by simp[q]),λq=>z (by simp[q])}
  have MG:m<vs.length:=by lia
  have ev:vs=vs.take m++V.ref c::vs.drop (m+1):=by
   have e1:vs=vs.take m++vs.drop m:=(abL _ _).symm;rw[aaL MG]at e1;have:vs[m]=V.ref c:=by
    have:=ZU MG;rw[g1]at this;exact(aao this).symm
   rwa [this]at e1
  refine{A1++((c::B')++A3),?_,aaz.mpr {C6,aaz.mpr {aac.mpr {λz=>lY c z rfl,n'},So,λx hx y hy=>?_},λx hx y hy z=>?_},λx hx=>?_}
  ·rw[abh,χ Yd];have q:aK P w (upd H c (.lst sJ)) (ds.take m++.lst eU::ds.drop (m+1)) (vs.take m++.ref c::vs.drop (m+1)) (A1++((c::B')++A3)) :=
    (g3.keep kt λx hx oc ec=>by rw[aw (n1 x hx)];exact ec).append {.ref c,_,c::B',A3,rfl,rfl,{c,sJ,B',rfl,ao,rfl,o'.keep kt λx hx oc ec=>by rw[aw (lY x hx)];exact ec},g5.keep kt λx hx oc ec=>by rw[aw (n3 x hx)];exact ec}
   rw[<- ev]at q;exact q
  ·intro z;subst z;rcases ZI.mp hx with rfl|hx
   ·exact n3 _ hy rfl
   ·exact(off x hx).2 hy
  ·subst z;rcases ZT.mp hy with hy|hy
   ·rcases ZI.mp hy with rfl|hy
    ·exact n1 _ hx rfl
    ·exact(off x hy).1 hx
   ·exact KD x hx x (by simp[hy]) rfl
  ·rcases ZT.mp hx with hx|hx
   ·exact .inl (by simp[hx])
   ·rcases ZT.mp hx with hx|hx
    ·rcases ZI.mp hx with rfl|hx
     ·exact .inl (by simp)
     ·exact .inr hx
    ·exact .inl (by simp[hx])
 cases l with
 |true =>
  obtain⟨a,vs,A',rfl,h2,rfl,h4⟩:=r;obtain⟨na,XC⟩:=aac.mp nd;obtain⟨c,us,B,q1,q2,q3,q4,q5,q6,q7⟩:=core XC h4;have ca:c≠a:=λz=>na (by rw[<- z];exact q3)
  refine{a,vs,c,us,B,rfl,h2,h4.length,q1,q2,by simp[q3],q4,λx hx=>{by simp[(q5 x hx).1],(q5 x hx).2},q6,λeU sJ B' o' n' lZ lY=>?_}
  obtain⟨A2,g1,g2,g3⟩:=q7 eU sJ B' o' n' (λx hx=>(lZ x hx).imp id λz q=>z (by simp[q])) lY
  refine{a::A2,{a,vs,A2,rfl,by rw[aw ca.symm];exact h2,rfl,g1},aac.mpr {λz=>?_,g2},λx hx=>?_}
  ·rcases g3 a z with z|z
   ·exact na z
   ·rcases lZ a z with z|z
    ·exact na (q5 a z).1
    ·exact z (by simp)
  ·rcases ZI.mp hx with rfl|hx
   ·exact .inl (by simp)
   ·exact(g3 x hx).imp (λz=>by simp[z]) id
 |false =>
  obtain⟨a,vs,rfl,h2,h4⟩:=r;obtain⟨c,us,B,q1,q2,q3,q4,q5,q6,q7⟩:=core nd h4;have ca:a≠c:=λz=>by rw[z,q2]at h2;cases h2
  refine{a,vs,c,us,B,rfl,h2,h4.length,q1,q2,q3,q4,q5,q6,λeU sJ B' o' n' lZ lY=>?_};obtain⟨A2,g1,g2,g3⟩:=q7 eU sJ B' o' n' lZ lY;exact{A2,{a,vs,rfl,by rw[aw ca];exact h2,g1},g2,g3}
end
section
variable {X:Cx}{C:Cfg}{e k:Expr}{φ φk:aM}{i:Nat}{x:Str}{pos px kp ap cp:Pos}
def dk (l:Bool)(he:∀U,PQ X (C.u U) ζ e φ)(hk:∀U,PQ X (C.u U) ζ k φk)(hn:Nm X i x:=by exact wG)
  (Ue:mN k:=by exact λ_ _=>rfl)
  (eM:ab6 (.Subscript (.Name x px) k kp) "append" X.env (eval (.Subscript (.Name x px) k kp) X.env)=eval (.Subscript (.Name x px) k kp) X.env:=by rfl)
  (oh:((abI cp (Z2 [e] X.env)).all (λx=>!x.1)&&(backToKw cp (ac1 [] X.env)).all (λx=>x.1.isSome)&&decide ([e].length+([]:List acA).length+(if ([]:List acA).isEmpty then 0 else 1)<30))=ζ:=by rfl)
  (eK:(ap.endLine==cp.line)=ζ:=by rfl) (hs:Z2 [e] X.env=(η,eval e X.env)::Z2 [] X.env:=by rfl) (eI:(abI cp (Z2 [] X.env)).any (·.1)=η:=by rfl)
  (vH:ab4 (.Call (.Attribute (.Subscript (.Name x px) k kp) "append" ap) [e] [] cp) ξ pos.line X.env=pure η:=by rfl) :
  PB X C (.Expr (.Call (.Attribute (.Subscript (.Name x px) k kp) "append" ap) [e] [] cp) pos) (λE β=>(∃d0,β[i]?=ν (ν (.own d0)))/\φk β λjd _ β1=>∃ds j m es,jd=.int j/\β1[i]?=ν (ν (.own (Oa l ds)))/\wU ds.length j=ν m/\ds[m]?=ν (.lst es)/\φ β1 λd kd β2=>Fb kd d/\β2[i]?=ν (ν (.own (Oa l ds)))/\es.length<Z3/\E.nx (β2.set i (ν (.own (Oa l (ds.set m (.lst (es++[d]))))))) ):=by
 refine{λE E' β l jO=>by obtain⟨q0,q⟩:=jO;exact{q0,(hk λ_=>False).mono _ _ _ (λjd _ β1 r_=>by obtain⟨ds,j,m,es,h1,h2,h3,h4,q⟩:=r_;exact{ds,j,m,es,h1,h2,h3,h4,(he λ_=>False).mono _ _ _ (λd kd β2 w6=>by obtain⟨g1,g2,g3,q⟩:=w6;exact{g1,g2,g3,l.nx _ q}) q}) q},λμ s σ H De I fA=>?_}
 obtain⟨Z,E,β,⟨own,sq,n⟩,⟨⟨d0,Yr⟩,q⟩,ok⟩:=fA;have ix:Jg X (λx y H Q=>Nk X.K x y H Q\/Nj X.K x y H Q):=λvalue slice μ s σ H x y v u Q I rx ry h hs=>h.elim (λh=>e9 value slice μ s σ H x y v u Q I rx ry h hs) λh=>Dr value slice μ s σ H x y v u Q I rx ry h hs;refine mn (pos:=pos) (CG (apos:=ap) (cpos:=cp) Ζ PySem.F.slot_list_append PySem.F.type_list_append kz (lG (pos:=kp) ix (eE (pos:=px) hn) (hk λa=>H a=ξ).pe Ue) (a_ (he λa=>H a=ξ).pe cR hs) eM oh eK hs eI) vH μ s σ H De I ?_;have W_:=sq.mQ (C:=C.z) (U:=λa=>H a=ξ) λa z=>z;obtain⟨v0,G_,_,_⟩:=sq.ow i d0 Yr;refine{v0,G_,tQ.of (hk λa=>H a=ξ) W_ q λjd kk β1 kv H1 aC n9 o r=>?_};obtain⟨ds,j,m,es,e1,hb,hj,hm,q⟩:=n9;subst e1;cases r.rep;obtain⟨v,OC,ow,h0⟩:=o.sq.ow i _ hb;rw[G_]at OC;cases OC;obtain⟨a,vs,c,us,B,rfl,q1,q2,q3,q4,q5,q6,q7,q8,q9⟩:=jB ow (o.sq.lV i) hm;have QT:pP vs j=ν (.ref c):=by unfold pP;rw[q2,hj];exact q3
 have VJ:Qh X.K "list" (.ref c) H1/\H_ (tQ X (C.u λa=>H a=ξ) ζ φ) JH σ H1 λxs H2=>ya (.ref c) xs H2 λ_ H1=>De.nx σ H1:=by
  refine{.inl {rfl,us,dJ.of q4},tQ.of (he λa=>H a=ξ) o.sq q λd kd β2 v2 H2 ba wZ o2 r2=>?_};obtain⟨f,Wl,hl,q⟩:=wZ;obtain⟨s2,e2⟩:=o2.pu rfl;obtain⟨v',V0,Sf,Zz⟩:=o2.sq.ow i _ Wl;rw[G_]at V0;cases V0;obtain⟨a',vs',c',sJ,B',ea,p1,p2,p3,p4,p5,p6,p7,p8,p9⟩:=jB Sf (o2.sq.lV i) hm;cases ea;have e3:=s2 _ _ q1;rw[p1]at e3;have ev:vs'=vs:=by cases l <;> (cases e3;rfl)
  subst ev;rw[q3]at p3;cases p3;have e4:=s2 _ _ q4;rw[p4]at e4;cases e4;obtain⟨A,r1,rn,r3⟩:=r2.fl f;have Kx:∀x∈A,x∉ba i:=λx hx z=>(r3 x hx).2.1 {(i),z};obtain⟨A',g1,g2,g3⟩:=p9 (es++[d]) (us++[v2]) (B'++A) (p6.append (aK.one r1)) (aaz.mpr {p8,rn,λx hx y hy z=>Kx y hy (by rw[<- z];exact(p7 x hx).1)})
   (λx hx=>(ZT.mp hx).imp id (Kx x)) (λx hx z=>by
    rcases ZT.mp hx with hx|hx
    ·exact(p7 x hx).2 z
    ·exact Kx x hx (by rw[z];exact p5))
  have hA:∀x∈A',x∈ba i\/(C.H0 x=ξ/\¬ Wn ba x/\H x=ξ):=λx hx=>by
   rcases g3 x hx with z|z
   ·exact .inl z
   ·rcases ZT.mp z with z|z
    ·exact .inl (p7 x z).1
    ·exact .inr {(r3 x z).2.2,(r3 x z).2.1,o.sn.free (r3 x z).1}
  exact{c,us,v2,rfl,rfl,p4,by rw[p6.length];exact hl,ok.nx _ _ _ {_,o2.sq.putIn (C:=C) (U:=λa=>H a=ξ) Wl G_ p5 g1 g2 hA,m_ ((n.trans o.sn).trans o2.sn) (λb z=>n.free z) {(i),p5} {_,p4,λxs z=>by cases z} hA} q}
 cases l with
 |true=>exact .inl {a,vs,j,.ref c,rfl,rfl,dJ.of q1,QT,VJ}
 |false=>exact .inr {a,vs,j,.ref c,rfl,rfl,lh.of q1,QT,VJ}
end
end L2.Q
namespace L2
def VW {b:Bool}{p q:Prop}(h1:b=ζ->p)(h2:b=η->q):(if b=ζ then p else q):=by
 cases b
 ·exact ic rfl (h2 rfl)
 ·exact vG rfl (h1 rfl)
def gP (a b c d:Int):Bool:=(decide (a<c)&&(decide (c<b)&&decide (b<d))) || (decide (c<a)&&(decide (a<d)&&decide (d<b)))
structure Bs2 (mg:Str->Option ZF):Prop extends Bs mg where
 IB:mg "isinstance" = ξ
 tuple:mg "tuple" = ξ
 str:mg "str" = ξ
 bool:mg "bool" = ξ
 zip:mg "zip" = ξ
 enumerate:mg "enumerate" = ξ
def EJ:aaF "str" = ν (.type "str"):=by decide +kernel
def pT {ds:List D}{d:D}(h:d∈je ds ds):∃a∈ds,d=.tup [a,a]:=by
 obtain⟨i,hi⟩:=List.mem_iff_getElem?.mp h;obtain⟨a,b,h1,h2,rfl⟩:=mO hi;rw[h1]at h2;cases h2;exact{a,aap h1,rfl}
def oK {d:D}{n:Nat}(h:d.pd.canLay0=ζ/\d.pd.depth<=n)(hn:n<=64:=by decide):L9 d d=ν (.bl ζ):=xq (dD h hn) (dD h hn) (eqv_refl _ h.1)
def eR {d:D}{n:Nat}(h:d.pd.canLay0=ζ/\d.pd.depth<=n)(hn:n<=64:=by decide):PM d d=ν (.bl η):=Ew (dD h hn) (dD h hn) (eqv_refl _ h.1)
end L2
namespace L2.Q
structure l9 (X:Cx)(C:Cfg)(p:Bool)(ifs:List Expr)(τ:aV):Prop where
 mono:∀β R R',(∀d β,R d β->R' d β)->τ β R->τ β R'
 pt:vz X ifs (iO X C p τ)
def d_ {X:Cx}{C:Cfg}:l9 X C ζ [] MZ:={λ_ _ _ k h=>k _ _ h,Cw}
def cG {X:Cx}{C:Cfg}{p:Bool}{c:Expr}{τ:aV}(h:Be X C p c τ):l9 X C p [c] τ:={h.mono,Cv h}
section
variable {X:Cx}{C:Cfg}{lk:List (Option Nat)}{γ:cJ}{τ:aV}{φ:aM}{T:List Nat}{pc pe pi:Bool}{scope:acj}{N':List Str}{tg bQ elt:Expr}{ifs:List Expr}{ι:bS}{pos pos' td:Pos}{y:Str}{i:Nat}
def Iu (N':List Str)(lk:List (Option Nat))(L:fg X.env.scope.names X.N scope N' lk=ζ)(lL:N'.Nodup)(hc:X.calm=ζ)(hi:vA X C pi tg bQ ι)
  (lK:∀U cl c s H ex,vB (ar X scope N' cl c s H ex) (C.u U) tg T γ) (f_:∀U cl c s H ex,l9 (ar X scope N' cl c s H ex) (C.u U) pc ifs τ) (jP:∀U cl c s H ex,PQ (ar X scope N' cl c s H ex) (C.u U) pe elt φ)
  (hT:T.all (λi=>match lk[i]? with|some (ν _)=>η|_=>ζ)=ζ:=by rfl) (hs:∀x,aay bQ X.env x=pure x:=by intro _;rfl):PQ X C (pi&&(pc&&pe)) (.ListComp elt [{tg,bQ,ifs,0}] scope pos) (yb lk ι γ τ φ) :=
 NH (Links.of L) lL hT hc hi (λa=>lK _) (λa cl c s H ex=>(f_ _ cl c s H ex).pt) (f_ (λ_=>False) [] 0 X.s₀ X.H₀ []).mono (λa=>jP _) (lK (λ_=>False) [] 0 X.s₀ X.H₀ []).mono (jP (λ_=>False) [] 0 X.s₀ X.H₀ []).mono hs
def rF (o:Bool)(N':List Str)(lk:List (Option Nat))(L:fg X.env.scope.names X.N scope N' lk=ζ)(lL:N'.Nodup)(hc:X.calm=ζ)(hi:∀U,vA X (C.u U) pi tg bQ ι)
  (lK:∀U cl c s H ex,vB (ar X scope N' cl c s H ex) (C.u U) tg T γ) (f_:∀U cl c s H ex,l9 (ar X scope N' cl c s H ex) (C.u U) pc ifs τ) (jP:∀U cl c s H ex,PQ (ar X scope N' cl c s H ex) (C.u U) pe elt φ)
  (hN:X.N.Nodup) (hT:T.all (λi=>match lk[i]? with|some (ν _)=>η|_=>ζ)=ζ:=by rfl) (hy:X.N[i]?=ν y:=by rfl) (hx:Loc X.env.scope y:=by first|exact .inl rfl|exact .inr rfl) (hf:X.fn y=ζ\/X.env.scope.names.lookup y=ν .local:=by first|exact .inl rfl|exact .inr rfl|assumption)
  (vH:ab4 (.ListComp elt [{tg,bQ,ifs,0}] scope pos) (ν (.Name y pos')) td.line X.env=pure ζ:=by rfl)
  (LM:evalThenUse (.ListComp elt [{tg,bQ,ifs,0}] scope pos) X.env (assign (.Name y pos') X.env)=(do let _ <- comprehension (.ListComp elt [{tg,bQ,ifs,0}] scope pos) scope X.env (firstIterPos [{tg,bQ,ifs,0}] pos) (newList []) η (eval bQ X.env) (ν (assign (.Name y pos') X.env));pure ()):=by first|rfl|exact arm_evalThenUse_ListComp ..)
  (hs:∀x,aay bQ X.env x=pure x:=by intro _;rfl) :
  PB X C (.Assign [.Name y pos'] (.ListComp elt [{tg,bQ,ifs,0}] scope pos) td) (λE β=>yb lk ι γ τ φ β λd _ β'=>E.nx (β'.set i (ν (match o with|true=>.own d|false=>.val ζ d)))) :=
 NC (K:=λ_ _ _=>True) (Links.of L) lL hT hc hi lK (λU cl c s H ex=>(f_ U cl c s H ex).pt) (f_ (λ_=>False) [] 0 X.s₀ X.H₀ []).mono jP (lK (λ_=>False) [] 0 X.s₀ X.H₀ []).mono (jP (λ_=>False) [] 0 X.s₀ X.H₀ []).mono o hN hy hx hf vH LM hs
def aX:Jg X (Ci X vb NF):=λvalue slice μ s σ H x y v u Q I rx ry ⟨W,d1,d2,d,hd,r1,r2,e,q⟩ hs =>
 K9 value slice μ s σ H x y v u Q I rx ry {W,d1,d2,d,hd,r1,r2,e,λv H' s r=>q v H' s r λf=>az.flat f r} hs
end
section
variable {P:ZN}{w:Z4}{K:Ξ}{mg:Str->Option ZF}{base:Heap}{k:Nat}{f:θ}{fd:aaD}{ps:List Str}
def uW:FD:=λds R=>∃c:Int,ds=[.int c]/\∀ns,iy ns->R (.lst (ns.map D.int))
def uW.mono:dy uW:=λds R R' k ⟨c,e,q⟩=>{c,e,λns o=>k _ (q ns o)}
def LP (G:aO P w K mg base cg k f fd ps BY):aO P w K mg base cg k f fd ps (eT P w ζ uW):=G.imp λvs H Q E h=>by
 obtain⟨ds,r,c,rfl,q⟩:=h;obtain⟨x,rr,rfl,hx,hr⟩:=r;cases (show rr=[] from hr)
 cases (show x=V.int c from hx)
 refine{c,rfl,λp H' hp hd sm=>?_};obtain⟨ns,e,o⟩:=hd.ok;have rep:∀ns:List Int,aK P w H' (ns.map D.int) (ns.map V.int) []:=λns=>by
  induction ns with
  |nil=>exact{(rfl),rfl}
  |cons n ns ih=>exact{_,_,[],[],rfl,rfl,{(rfl),rfl},ih}
 exact q ns o _ H' sm {[p],{p,_,[],rfl,e,rfl,rep ns},by simp,λc hc=>by rw[ZJ.mp hc];exact hp}
def rj {ro:Bool}(G:aO P w K mg base cg k f fd ps BW):aO P w K mg base cg k f fd ps (j8 P w iy ro cV):=G.imp λvs H Q E h=>by
 obtain⟨h,vs',ds,ns,rfl,e,o,r,n,rfl,n1,n2,q⟩:=h;obtain⟨x,rr,rfl,hx,hr⟩:=r;cases (show rr=[] from hr)
 cases (show x=V.int n from hx)
 refine{h,n,rfl,o.hand e,n1,n2,λr H' r0 r1 hd fm=>?_};obtain⟨qg,e',o'⟩:=hd.ok;refine q r r0 r1 _ H' qg {λb u hb nb=>fm b u hb nb,λb xs hb=>fm b _ hb λz=>by rw[z,e]at hb;cases hb} (λc hc z=>?_) e' o' (fx (W:=λ_=>False) rfl rfl)
 by_cases uH:c=h
 ·rw[uH,e']at z;cases z
 ·cases q:H c with
  |none=>exact hc q
  |some u=>rw[fm c u q uH]at z;cases z
end
end L2.Q
end
namespace o8
open PySem L2 L2.Q
def top (i:Nat):Stmt:=PySem.Challenge.pw_archrow_k09_points_always_tied.main.body.getD i (.Pass {0,0,0,0})
abbrev bU:Stmt:=top 1
abbrev c7:Stmt:=top 2
abbrev dU:Stmt:=top 3
abbrev cv:Stmt:=top 4
abbrev c8:Stmt:=top 5
abbrev cP:Stmt:=top 6
abbrev cQ:Stmt:=top 7
abbrev fI:Stmt:=top 9
abbrev da:Stmt:=top 10
abbrev fJ:Stmt:=top 11
abbrev c_:Stmt:=top 12
abbrev eC:Stmt:=top 14
abbrev eh:Stmt:=top 15
abbrev fN:Stmt:=top 16
abbrev fK:Stmt:=top 17
abbrev gX:Stmt:=top 18
abbrev eY:Stmt:=top 19
abbrev fL:Stmt:=top 20
abbrev eX:Stmt:=top 21
abbrev fM:Stmt:=top 22
abbrev gZ:Stmt:=top 23
abbrev dW:Stmt:=top 24
abbrev gY:Stmt:=top 25
abbrev c9:Stmt:=top 26
abbrev ni:Stmt:=top 27
section
variable (K:Ξ)(mg:Str->Option ZF)(f:θ)(fd:aaD)
abbrev D0:Prop:=Df K mg "_law_arcs" fN ["hand","many"] f fd
abbrev D1:Prop:=Df K mg "_law_take" eh ["hand","many"] f fd
abbrev D2:Prop:=Df K mg "_law_ties" fK ["hand","many"] f fd
abbrev D3:Prop:=Df K mg "_law_row" gX ["hand"] f fd
abbrev D4:Prop:=Df K mg "stretches_rising" bU ["many"] f fd
abbrev D5:Prop:=Df K mg "partners_of" c7 ["row"] f fd
abbrev D6:Prop:=Df K mg "number_with" c8 ["worth","table","i","k","j"] f fd
abbrev D7:Prop:=Df K mg "least_number" cP ["partners","worth","table","i","j"] f fd
abbrev D8:Prop:=Df K mg "greatest_table" cv ["row","worth"] f fd
abbrev D9:Prop:=Df K mg "one_each" fJ ["row"] f fd
abbrev Q9:Prop:=Df K mg "table_of" fI ["row"] f fd
abbrev Q8:Prop:=Df K mg "parts_left" dU ["i","k","j"] f fd
abbrev Q6:Prop:=Df K mg "best_choices" cQ ["partners","worth","table","i","j"] f fd
abbrev Vh:Prop:=Df K mg "_law_table" eX ["row"] f fd
abbrev Qd:Prop:=Df K mg "_law_cross" eY ["one","other"] f fd
abbrev Q5:Prop:=Df K mg "_law_meet" fM ["one","other"] f fd
abbrev Vg:Prop:=Df K mg "_law_all" gZ ["row"] f fd
abbrev Vf:Prop:=Df K mg "choices_met" c_ ["row"] f fd
abbrev WJ:Prop:=Df K mg "always_tied" da ["row"] f fd
abbrev WI:Prop:=Df K mg "_law_due" gY ["row"] f fd
abbrev WH:Prop:=Df K mg "_law_by_sets" c9 ["row"] f fd
abbrev Ve:Prop:=Df K mg "_law_same" fL ["found","due"] f fd
abbrev WG:Prop:=Df K mg "_law_copied" dW ["row"] f fd
abbrev Zb:Prop:=Df K mg "_law_hand" eC ["cell"] f fd
end
section
variable {P:ZN}{w:Z4}{K:Ξ}{mg:Str->Option ZF}{base:Heap}
def tF:aL ["cell"] ["cell"] (ay eC):=mkS
def Gw {f:θ}{fd:aaD}(F:Fs K "_law_hand" "_law_hand" eC f fd)(B:Zc mg):aO P w K mg base cg 1 f fd ["cell"] BY:=by
 refine F.ok tF (λvs H Q E h=>?_) (λcY A outer s H vs Q E hr h=>?_)
 ·obtain⟨c,rfl,_⟩:=h;rfl
 ·obtain⟨c,rfl,k⟩:=h;refine⟨_,js (iR (wy (a_ (jy (qR rfl) (by rfl) B.max oS (a_ bj (a_ (dj CL (pv 0) (dj rO bj bj)) cR)))
   (a_ (dj wA (dj wC (dj nH (pv 0) bj) bj) (qe k6 (by rfl) B.int xw (a_ (yp NO (pv 0) (dj rO bj bj) (CY _)) cR))) cR)))),?_⟩
  refine{_,rfl,_,_,rfl,rfl,CC,_,_,rfl,rfl,_,_,rfl,?_};have m1:=mz (a:=c) (b:=2147483629) (by decide)
  refine{_,rfl,_,_,rfl,rfl,(by show (0:Int)<2147483629;decide),_,_,rfl,rfl,_,rfl,_,_,rfl,rfl,CC,rfl,.inr {_,rfl,_,_,rfl,rfl,.inl {by lia,by lia},?_}}
  refine{(by show 2<=Z3;decide),λp hp=>k p _ hp {_,_,ao,?_,?_} (au.new hp)}
  ·split <;> lia
  ·split <;> constructor <;> lia
def lz:aL ["hand","many","taken"] ["hand","many"] (ay eh):=mkS
def Sd {y:Int}(h:0<=y)(h':y<2147483647):E6 (y+1) 7:={by decide,by decide,by lia}
def mx {f:θ}{fd:aaD}(F:Fs K "_law_take" "_law_take" eh f fd):aO P w K mg base cg 1 f fd ["hand","many"] BW:=by
 refine F.ok lz (λvs H Q E h=>?_) (λcY A outer s H vs Q E hr h=>?_)
 ·obtain⟨h,n,rfl,_⟩:=h;rfl
 ·obtain⟨h,n,rfl,⟨x,y,hx,x0,y0,y1⟩,n0,n1,k⟩:=h;refine⟨_,eD (Ic (yd Ij (lG e9 (pv 0) bj (λ_ _=>rfl)) bj (CY _))
    (eD (wm (i:=2) lz.nd rfl (Or.inl rfl) (dj nH (lG e9 (pv 0) bj (λ_ _=>rfl)) (pv 1)))
    (eD (nv (dj tX (lG e9 (pv 0) bj (λ_ _=>rfl)) (pv 1)) (rM (pv 0) bj set_list))
    (js (iR (pv 2))))) ye)
   (eD (nv (dj nH (dj wA (lG e9 (pv 0) bj (λ_ _=>rfl)) bj) bj) (rM (pv 0) bj set_list))
   (js (iR (dj nH (dj tX (dj rO (dj wC (lG e9 (pv 0) bj (λ_ _=>rfl)) bj) bj) bj) (pv 1))))),?_⟩
  refine{_,rfl,h,_,_,_,rfl,rfl,dJ.of hx,rfl,_,_,rfl,rfl,_,rfl,?_};refine SO (λhp=>?_) (λhp=>?_)
  ·refine{_,rfl,h,_,_,_,rfl,rfl,dJ.of hx,rfl,_,rfl,_,_,rfl,rfl,n0,?_};refine{_,rfl,h,_,_,_,rfl,rfl,dJ.of hx,rfl,_,rfl,_,_,rfl,rfl,vE.of n0 n1,?_};refine{_,rfl,h,_,_,0,rfl,rfl,hx,rfl,?_};have m:=mz (a:=x) n0;exact{_,rfl,k _ _ m.1 m.2 {_,_,ao,Int.ediv_nonneg x0 (Int.le_of_lt n0),y0,y1} Fm.upd}
  ·have m1:=mz (a:=y*48271) (b:=2147483647) (by decide)
   refine{_,rfl,h,_,_,_,rfl,rfl,dJ.of hx,rfl,_,_,rfl,rfl,.inr {by decide,by decide},_,_,rfl,rfl,(by show (0:Int)<2147483647;decide),?_}
   refine{_,rfl,h,_,_,1,rfl,rfl,hx,rfl,?_};refine{_,rfl,h,_,_,_,rfl,rfl,dJ.of ao,rfl,_,_,rfl,rfl,_,_,rfl,rfl,Sd m1.1 m1.2,_,_,rfl,rfl,vE.of (by decide) (by decide),_,rfl,_,_,rfl,rfl,n0,?_}
   have m:=mz (a:=(y*48271 % 2147483647+1) ^ (7:Int).toNat / 8) n0;exact k _ _ m.1 m.2 {_,_,ao,x0,m1.1,m1.2} Fm.upd
def dh:aL ["hand","many","found","piled","point","way"] ["hand","many"] (ay fN):=mkS
def Gy {IT uQ}(dA:D0 K mg IT uQ){LY xh}(dT:D1 K mg LY xh)(B:Bs mg):aO P w K mg base cg 2 IT uQ ["hand","many"] (j8 P w iy ζ uZ):=by
 have GT:aO P w K mg base cg 1 _ _ _ (j8 P w iy ζ cV):=rj (mx dT.F);refine Kw dA.F dh (λds R Pc=> by obtain⟨n,e,_⟩ := Pc;subst e;rfl) λcY A outer s H E IO hr=>⟨_,(ah (bW (i:=2) (λ_=>(bc ae)) dh.nd)
    (ah (bW (i:=3) (λ_=>(bc ae)) dh.nd)
    (ah (bC aav rfl (aT B.range (ab (aa (i:=1)) ae)) (aj (i:=4) dh.nd) (ah (a5 (i:=5) (bV (ih:=0) cV.mono GT (hr.mono (by decide)) dT.m dT.F.kp dT.b (ab ag ae)) dh.nd)
    (ah (b9 (aD af (bE.m (bN hr.units)) (aa (i:=5)) ag) (ak (b6 (i:=3) (λ_=>(aa (i:=4))))) a7)
    (ak (b9 (xB.t (mq (aD af (bE.m (bN hr.units)) (aa (i:=5)) ag) (jw (aD af (bE.m (kq hr.units)) (aa (i:=3)) (bc ae))))) (ak (b6 (i:=2) (λ_=>(bB (ab (J4 (i:=3)) (ab (aa (i:=4)) ae)))))) a7)))))
    (ak (bo (bf aJ su B.sorted k8 (ab (aa (i:=2)) ae))))))),λds R h=>?_⟩
 obtain⟨n,rfl,n0,n1,q⟩:=h;refine{ZW _,tv,ZW _,tv,_,rfl,tv,n,rfl,by omega,by omega,tv,?_}
 refine{λi β=>∃(fs:List (List Int)) (ps:List Int) (x4 x5:Option Q.B),β=[ν (.hand iy),ν (.val η (.int n)),ν (.own (.lst (fs.map kD))),ν (.own (.lst (ps.map D.int))),x4,x5]/\fs.length<=i/\ps.length<=i/\i<=n.toNat/\bD n fs/\(∀p∈ps,0<=p/\p<i),{[],[],_,_,rfl,ZG _,ZG _,ZW _,bD.nil,λ_ z=>(nomatch z)},?_,?_}
 ·rintro i d β hd ⟨fs,ps,x4,x5,rfl,h1,h2,h3,h4,h5⟩;obtain⟨hi,rfl⟩:=bx hd;refine{rfl,tv,rfl,tv,3,rfl,by omega,by omega,λr r0 r1=>?_}
  refine{_,rfl,tv,_,bA _ _,_,rfl,?_};have fin:∃(AD:List (List Int)) (R_:List Int) (x4 x5:Option Q.B),[ν (.hand iy),ν (.val η (.int n)),ν (.own (.lst (fs.map kD))),ν (.own (.lst (ps.map D.int))),ν (.val ζ (.int (0+(i:Int)))),ν (.val ζ (.int r))]=[ν (.hand iy),ν (.val η (.int n)),ν (.own (.lst (AD.map kD))),ν (.own (.lst (R_.map D.int))),x4,x5]/\AD.length<=i+1/\R_.length<=i+1/\i+1<=n.toNat/\bD n AD/\(∀p∈R_,0<=p/\p<((i+1:Nat):Int)) :=
    {fs,ps,_,_,rfl,by omega,by omega,by omega,h4,λp hp=>by have:=h5 p hp;omega}
  refine kQ (λJV=>?_) (λJV=>?_)
  ·refine{{_,rfl},_,rfl,tv,_,rfl,by rw[ZE,aaQ];omega,?_}
   refine{_,rfl,tv,_,bA _ _,_,rfl,ic (by simp[JV]) (ic rfl ?_)}
   refine{fs,ps++[0+(i:Int)],_,_,by rw[B4];rfl,by omega,by simp;omega,by omega,h4,λp hp=>?_}
   rcases ZT.mp hp with z|z
   ·have:=h5 p z;omega
   ·rw[ZJ.mp z];omega
  ·refine{_,rfl,tv,_,bA _ _,_,rfl,kQ (λr2=>?_) (λr2=>ic rfl fin)};refine{_,rfl,tv,ZW _,_,Ex ps [],_,rfl,VV (λhp=>?_) (λhp=>fin)};obtain⟨qs,p,rfl⟩:∃qs p,ps=qs++[p]:={ps.dropLast,ps.getLast hp,(List.dropLast_concat_getLast hp).symm};have V7:=h5 p (by simp)
   rw[aad,abo]at h2;refine{{_,rfl},qs.map D.int,.int p,by simp,tv,_,rfl,tv,mf,tv,fs.map kD,rfl,by rw[ZE,aaQ];omega,?_}
   refine{fs++[[p,0+(i:Int)]],qs,_,_,by rw[ml];rfl,by simp;omega,by omega,by omega,h4.app (bD.one (by omega) (by omega) (by omega)),λx hx=>?_}
   have:=h5 x (by simp[hx])
   omega
 ·rintro β ⟨fs,ps,x4,x5,rfl,h1,h2,h3,h4,h5⟩;rw[bY]at h1;refine{_,rfl,tv,_,v_ h4.ne (by omega),.inl {eO _,tv,rfl,q _ ?_ (BR h4)}}
  rw[(ft fs).length_eq];exact h1
end
section
variable {P:ZN}{w:Z4}{K:Ξ}{mg:Str->Option ZF}{base:Heap}
def aY:aL ["hand","many","way","found","k","one","other","reach","kinds","wide"] ["hand","many"] (ay fK):=mkS
def T9 (n way:Int)(f:Q.B)(β:Q.a6):Prop:=∃x4 x5 x6 x7 x8 x9:Option Q.B,β=[ν (.hand iy),ν (.val η (.int n)),ν (.val ζ (.int way)),ν f,x4,x5,x6,x7,x8,x9]
def Gq {ML AG}(dI:D2 K mg ML AG){LY xh}(dT:D1 K mg LY xh){IT uQ}(dA:D0 K mg IT uQ)(B:Bs mg):aO P w K mg base cg 3 ML AG ["hand","many"] (j8 P w iy ζ uV):=by
 have GT:aO P w K mg base cg 1 _ _ _ (j8 P w iy ζ cV):=rj (mx dT.F);have GA:aO P w K mg base cg 2 _ _ _ (j8 P w iy ζ uZ):=Gy dA dT B;refine Kw dI.F aY (λds R Pb=> by obtain⟨n,e,_⟩ := Pb;subst e;rfl) λcY A outer s H E IO hr=>⟨_,(ah (a5 (i:=2) (bV (ih:=0) cV.mono GT (hr.mono (by decide)) dT.m dT.F.kp dT.b (ab ag ae)) aY.nd)
    (ah (bW (i:=3) (λ_=>(bc ae)) aY.nd)
    (dc (b9 (xB.t (wo (aD af (bE.m (bN hr.units)) (aa (i:=2)) ag) (rJ (aD af (bE.m (bN hr.units)) (aa (i:=2)) ag)))) (ak (bC aav rfl (aT B.range (ab (bV (ih:=0) cV.mono GT (hr.mono (by decide)) dT.m dT.F.kp dT.b (ab (aE af aX (bc (ab ag (ab ag (ab ag ae)))) (bV (ih:=0) cV.mono GT (hr.mono (by decide)) dT.m dT.F.kp dT.b (ab ag ae))) ae)) ae)) (aj (i:=4) aY.nd) (ah (a5 (i:=5) (bV (ih:=0) cV.mono GT (hr.mono (by decide)) dT.m dT.F.kp dT.b (ab (aa (i:=1)) ae)) aY.nd)
    (ah (a5 (i:=6) (aI af (bE.m Gn) (aI aJ aB (aI aJ aB (aa (i:=5)) ag) (bV (ih:=0) cV.mono GT (hr.mono (by decide)) dT.m dT.F.kp dT.b (ab (aI af (bE.m bX) (aa (i:=1)) ag) ae))) (aa (i:=1))) aY.nd)
    (ak (b6 (i:=3) (λ_=>(bB (ab (bf af (bO.m (i4 rfl)) B.min xv (ab (aa (i:=5)) (ab (aa (i:=6)) ae))) (ab (bf af (bO.m (xt rfl)) B.max oS (ab (aa (i:=5)) (ab (aa (i:=6)) ae))) ae)))))))))) a7)
    (ah (a5 (i:=7) (aI aJ aB ag (bV (ih:=0) cV.mono GT (hr.mono (by decide)) dT.m dT.F.kp dT.b (ab ag ae))) aY.nd)
    (dc (b9 (aD af (bE.m (bN hr.units)) (aa (i:=2)) ag) (ak (bC aav rfl (aT B.range (ab (aa (i:=1)) ae)) (aj (i:=5) aY.nd) (ak (bC aav rfl (fP B.range (ab (aI aJ aB (aa (i:=5)) ag) (ab (bf af (bO.m (i4 rfl)) B.min xv (ab (aa (i:=1)) (ab (aI aJ aB (aI aJ aB (aa (i:=5)) ag) (aa (i:=7))) ae))) ae))) (aj (i:=6) aY.nd) (ak (b9 (aD af (bE.m wB) (bV (ih:=0) cV.mono GT (hr.mono (by decide)) dT.m dT.F.kp dT.b (ab ag ae)) ag) (ak (b6 (i:=3) (λ_=>(bB (ab (aa (i:=5)) (ab (aa (i:=6)) ae)))))) a7)))))) a7)
    (dc (b9 (aD af (bE.m (bN hr.units)) (aa (i:=2)) ag) (ah (a5 (i:=8) (Iu ["point","hand"] [ξ,ν 0] (by rfl) (by decide:(["point","hand"]:List Str).Nodup) rfl (aT B.range (ab (aa (i:=1)) ae)) (λ_ _ _ _ _ _=>(aj (i:=0) (by decide:(["point","hand"]:List Str).Nodup))) (λ_ _ _ _ _ _=>d_) (λ_ _ _ _ _ _=>(bV (ih:=1) cV.mono GT (hr.mono (by decide)) dT.m dT.F.kp dT.b (ab ag ae)))) aY.nd)
    (ah (a5 (i:=9) (aE af aX (bc (ab (aa (i:=1)) (ab ag ae))) (kn af (bO.m A7) B.int xw (ab (iT af (bE.m wB) (aa (i:=1)) ag) ae))) aY.nd)
    (ak (bC aav rfl (aT B.range (ab (aa (i:=1)) ae)) (aj (i:=5) aY.nd) (ak (z9 (i:=3) (Iu ["k","one","kinds"] [ξ,ν 5,ν 8] (by rfl) (by decide:(["k","one","kinds"]:List Str).Nodup) rfl (fP B.range (ab (aI aJ aB (aa (i:=5)) ag) (ab (bf af (bO.m (i4 rfl)) B.min xv (ab (aa (i:=1)) (ab (aI aJ aB (aa (i:=5)) (aa (i:=9))) ae))) ae))) (λ_ _ _ _ _ _=>(aj (i:=0) (by decide:(["k","one","kinds"]:List Str).Nodup))) (λ_ _ _ _ _ _=>(cG (aD af (bE.m (bN hr.units)) (aI aJ aB (aE af aX (aa (i:=2)) (aa (i:=1))) (aE af aX (aa (i:=2)) (aa (i:=0)))) ag))) (λ_ _ _ _ _ _=>(bB (ab (aa (i:=1)) (ab (aa (i:=0)) ae))))))))))) a7)
    (dc (b9 (aD af (bE.m (bN hr.units)) (aa (i:=2)) ag) (ak (bW (i:=3) (λ_=>(aI aJ aB (CB (i:=3)) (bV (ih:=0) uZ.mono GA (hr.mono (by decide)) dA.m dA.F.kp dA.b (ab (aa (i:=1)) ae)))) aY.nd)) a7)
    (ak (bo (NG (bf aJ (sj rfl) B.sorted k8 (ab (kn af (bO.m (A6 rfl hr.jj)) B.set EK (ab (aa (i:=3)) ae)) ae)) Cz (Cy ag))))))))))),λds R h=>?_⟩
 obtain⟨n,rfl,n0,n1,q⟩:=h;refine{rfl,tv,rfl,tv,5,rfl,by lia,by lia,λway w0 w1=>?_}
 refine{ZW _,tv,?_};refine{λβ=>∃fs:List (List Int),T9 n way (.own (.lst (fs.map kD))) β/\bD n fs/\fs.length<=300/\(way≠1->way≠4->fs=[]),?_,?_}
 ·-- drawn WY
  have no:∃fs:List (List Int),T9 n way (.own (.lst (fs.map kD))) [ν (.hand iy),ν (.val η (.int n)),ν (.val ζ (.int way)),ν (.own (.lst [])),ξ,ξ,ξ,ξ,ξ,ξ]/\bD n fs/\fs.length<=300/\(way≠1->way≠4->fs=[]) :=
   {[],{_,_,_,_,_,_,rfl},bD.nil,by simp,λ_ _=>rfl}
  refine(λ(key:way=1\/way=4->_)=>{_,rfl,tv,_,bA _ _,_,rfl,kQ (λh1=>vG rfl (key (.inl h1))) (λh1=>{_,rfl,tv,_,bA _ _,_,rfl,kQ (λh4=>key (.inr h4)) (λh4=>no)})}) ?_
  ·intro Zf;refine{rfl,tv,tv,tv,W7,tv,rfl,tv,rfl,tv,3,rfl,by lia,by lia,λr r0 r1=>pick r0 (by simpa using r1) λd hd=>?_}
   obtain⟨m,rfl,m0,m1⟩:∃m:Int,d=.int m/\0<m/\m<=301:=by
    simp only[ZI,aaX,or_false]at hd;rcases hd with rfl|rfl|rfl
    ·exact{5,rfl,by lia,by lia}
    ·exact{12,rfl,by lia,by lia}
    ·exact{301,rfl,by lia,by lia}
   refine{tv,rfl,tv,m,rfl,m0,by lia,λj j0 j1=>{tv,j,rfl,by lia,by lia,tv,?_}}
   refine{λi β=>∃fs:List (List Int),T9 n way (.own (.lst (fs.map kD))) β/\bD n fs/\fs.length<=i,{[],{_,_,_,_,_,_,rfl},bD.nil,by simp},?_,?_}
   ·rintro i d β hd ⟨fs,⟨x4,x5,x6,x7,x8,x9,rfl⟩,ht,hl⟩;obtain⟨hi,rfl⟩:=bx hd;refine{rfl,_,rfl,tv,rfl,tv,n,rfl,by lia,by lia,λone o0 o1=>?_}
    refine{_,rfl,tv,_,rfl,tv,rfl,_,rfl,tv,_,rfl,tv,rfl,tv,n-1,rfl,by lia,by lia,λr' VA JV=>?_}
    have T3:PR (.int (one+1+r')) (.int n)=ν (.int ((one+1+r') % n)):=χ (by lia)
    refine{_,rfl,tv,_,rfl,_,T3,?_};refine{{_,rfl},_,rfl,tv,_,rfl,tv,_,rfl,tv,_,rfl,tv,_,rfl,tv,_,rfl,tv,mf,tv,_,rfl,by rw[ZE,aaQ];lia,?_}
    have Hd:(one+1+r') % n≠one/\0<=(one+1+r') % n/\(one+1+r') % n<n:=by
     by_cases d3:one+1+r'<n
     ·rw[Int.emod_eq_of_lt (by lia) d3];lia
     ·rw[show one+1+r'=(one+1+r' - n)+n by lia,Int.add_emod_right,Int.emod_eq_of_lt (by lia) (by lia)];lia
    generalize (one+1+r') % n=Qu at Hd;refine{fs++[[if Qu<one then Qu else one,if Qu>one then Qu else one]],{_,_,_,_,_,_,by rw[ml];rfl},ht.app (bD.one ?_ ?_ ?_),by simp;lia}
    all_goals (split <;> (try split) <;> lia)
   ·rintro β ⟨fs,h9,ht,hl⟩;rw[bY]at hl;exact{fs,h9,ht,by lia,λa b=>by lia}
 ·rintro β ⟨fs,⟨x4,x5,x6,x7,x8,x9,rfl⟩,ht,hl,hz⟩;refine{tv,rfl,tv,rfl,tv,6,rfl,by lia,by lia,λreach e0 e1=>{_,rfl,?_}}
  refine{λβ=>∃fs:List (List Int),T9 n way (.own (.lst (fs.map kD))) β/\bD n fs/\fs.length<=300/\(way=3->fs=[]),?_,?_}
  ·have no:∃AD:List (List Int),T9 n way (.own (.lst (AD.map kD))) [ν (.hand iy),ν (.val η (.int n)),ν (.val ζ (.int way)),ν (.own (.lst (fs.map kD))),x4,x5,x6,ν (.val ζ (.int (1+reach))),x8,x9]/\bD n AD/\AD.length<=300/\(way=3->AD=[]) :=
    {fs,{_,_,_,_,_,_,rfl},ht,hl,λh=>hz (by lia) (by lia)}
   refine{_,rfl,tv,_,bA _ _,_,rfl,kQ (λw2=>?_) (λw2=>no)};have Lh:fs=[]:=hz (by lia) (by lia)
   subst Lh;refine{_,rfl,tv,n,rfl,by lia,by lia,tv,?_}
   refine{λi β=>∃(fs:List (List Int)) (y4 y5 y6 y8 y9:Option Q.B),β=[ν (.hand iy),ν (.val η (.int n)),ν (.val ζ (.int way)),ν (.own (.lst (fs.map kD))),y4,y5,y6,ν (.val ζ (.int (1+reach))),y8,y9]/\bD n fs/\fs.length<=i*6,{[],_,_,_,_,_,rfl,bD.nil,by simp},?_,?_}
   ·rintro i d β hd ⟨fs,y4,y5,y6,y8,y9,rfl,ht,hl⟩;obtain⟨hi,rfl⟩:=bx hd;refine{_,rfl,tv,_,rfl,tv,_,rfl,tv,_,rfl,tv,_,rfl,tv,_,rfl,_,rfl,tv,_,rfl,tv,_,_,rfl,{by lia,by lia,by split <;> lia,by split <;> lia},tv,?_}
    generalize QG:(0:Int)+(i:Int)+1=lo;have Uo:((if lo+(1+reach)<n then lo+(1+reach) else n)-lo).toNat<=6/\(if lo+(1+reach)<n then lo+(1+reach) else n)<=n:=by split <;> lia
    generalize (if lo+(1+reach)<n then lo+(1+reach) else n)=gj at Uo
    refine{λk β=>∃(fs:List (List Int)) (y4 y6 y8 y9:Option Q.B),β=[ν (.hand iy),ν (.val η (.int n)),ν (.val ζ (.int way)),ν (.own (.lst (fs.map kD))),y4,ν (.val ζ (.int (0+(i:Int)))),y6,ν (.val ζ (.int (1+reach))),y8,y9]/\bD n fs/\fs.length<=i*6+k,{fs,_,_,_,_,rfl,ht,by lia},?_,?_}
    ·rintro k d β hd ⟨fs,y4,y6,y8,y9,rfl,ht,hl⟩;obtain⟨hk,rfl⟩:=bx hd;refine{rfl,tv,rfl,tv,3,rfl,by lia,by lia,λr r0 r1=>{tv,_,rfl,_,rfl,kQ (λhp=>?_) (λhp=>?_)}}
     ·refine{{_,rfl},_,rfl,tv,_,rfl,tv,mf,tv,_,rfl,by rw[ZE,aaQ];lia,?_}
      exact{fs++[[0+(i:Int),lo+(k:Int)]],_,_,_,_,by rw[ml];rfl,ht.app (bD.one (by lia) (by lia) (by lia)),by simp;lia}
     ·exact{fs,_,_,_,_,rfl,ht,by lia}
    ·rintro β ⟨fs,y4,y6,y8,y9,rfl,ht,hl⟩;rw[bY]at hl;exact{fs,_,_,_,_,_,rfl,ht,by lia}
   ·rintro β ⟨fs,y4,y5,y6,y8,y9,rfl,ht,hl⟩;rw[bY]at hl;exact{fs,{_,_,_,_,_,_,rfl},ht,by lia,λh=>by lia}
  ·rintro β ⟨fs,⟨x4,x5,x6,x7,x8,x9,rfl⟩,ht,hl,hz⟩;refine{λβ=>∃fs:List (List Int),T9 n way (.own (.lst (fs.map kD))) β/\bD n fs/\fs.length<=960/\(way=4->fs.length<=300),?_,?_}
   ·have no:∃AD:List (List Int),T9 n way (.own (.lst (AD.map kD))) [ν (.hand iy),ν (.val η (.int n)),ν (.val ζ (.int way)),ν (.own (.lst (fs.map kD))),x4,x5,x6,x7,x8,x9]/\bD n AD/\AD.length<=960/\(way=4->AD.length<=300) :=
     {fs,{_,_,_,_,_,_,rfl},ht,by lia,λh=>hl}
    refine{_,rfl,tv,_,bA _ _,_,rfl,kQ (λw3=>?_) (λw3=>no)};have Lh:fs=[]:=hz w3;subst Lh;refine{_,rfl,tv,n,rfl,by lia,by lia,tv,?_}
    refine{λi β o=>(∃x0,β=[x0,ν (.hand iy)])/\∃ks:List Int,o=ks.map D.int/\ks.length=i/\∀k∈ks,0<=k/\k<3,{{_,rfl},[],rfl,rfl,λ_ z=>(nomatch z)},?_,?_}
    ·rintro i d β o hd ⟨⟨x0,rfl⟩,ks,rfl,hk,We⟩;obtain⟨hi,rfl⟩:=bx hd;refine{rfl,tv,rfl,tv,3,rfl,by lia,by lia,λr r0 r1=>{tv,by rw[ZE,aaQ];lia,{_,rfl},ks++[r],by simp,by simp[hk],λk hk=>?_}}
     rcases ZT.mp hk with z|z
     ·exact We k z
     ·rw[ZJ.mp z];exact{(r0),r1}
    rintro β o ⟨⟨x0,rfl⟩,ks,rfl,ho,We⟩;rw[bY]at ho;refine{{(rfl),tv},?_};obtain⟨wd,YH,Ze,Zd⟩:∃wd:Int,vb (.lst [.int n,.int 14]) (.int (if decide (n>24)=ζ then 1 else 0))=ν (.int wd)/\0<=wd/\wd<=24:=by
     by_cases hn:n>24
     ·exact{14,by rw[χ (by simpa using hn)];rfl,by lia,by lia}
     ·exact{n,by rw[ω (by simpa using hn)];rfl,by lia,by lia}
    refine{_,rfl,tv,tv,mf,tv,_,rfl,tv,_,rfl,tv,_,rfl,_,YH,?_};refine{_,rfl,tv,n,rfl,by lia,by lia,tv,?_}
    refine{λi β=>∃(fs:List (List Int)) (y4 y5 y6 y7:Option Q.B),β=[ν (.hand iy),ν (.val η (.int n)),ν (.val ζ (.int way)),ν (.own (.lst (fs.map kD))),y4,y5,y6,y7,ν (.val ζ (.lst (ks.map D.int))),ν (.val ζ (.int wd))]/\bD n fs/\fs.length<=i*24,{[],_,_,_,_,rfl,bD.nil,by simp},?_,?_}
    ·rintro i d β hd ⟨fs,y4,y5,y6,y7,rfl,ht,hl⟩;obtain⟨hi,rfl⟩:=bx hd;refine{{_,rfl},_,rfl,tv,_,rfl,tv,_,rfl,tv,_,rfl,tv,_,rfl,_,rfl,tv,_,rfl,tv,_,_,rfl,{by lia,by lia,by split <;> lia,by split <;> lia},tv,?_}
     have Uo:((if 0+(i:Int)+wd<n then 0+(i:Int)+wd else n)-(0+(i:Int)+1)).toNat<=24/\(if 0+(i:Int)+wd<n then 0+(i:Int)+wd else n)<=n:=by split <;> lia
     generalize (if 0+(i:Int)+wd<n then 0+(i:Int)+wd else n)=gj at Uo
     refine{λj β o=>(∃x0,β=[x0,ν (.val ζ (.int (0+(i:Int)))),ν (.val ζ (.lst (ks.map D.int)))])/\∃us:List (List Int),o=us.map kD/\us.length<=j/\bD n us,{{_,rfl},[],rfl,ZG _,bD.nil},?_,?_}
     ·rintro j d β o hd ⟨⟨x0,rfl⟩,us,rfl,hj,Dy⟩;obtain⟨IJ,rfl⟩:=bx hd;obtain⟨r1,_,e1⟩:=va (ks:=ks) (i:=0+(i:Int)) (by lia) (by lia)
      obtain⟨r2,_,e2⟩:=va (ks:=ks) (i:=0+(i:Int)+1+(j:Int)) (by lia) (by lia)
      refine{_,rfl,tv,_,rfl,_,e1,tv,_,rfl,tv,_,rfl,_,e2,_,rfl,tv,_,bA _ _,_,rfl,kQ (λh=>?_) (λh=>{{_,rfl},us,rfl,by lia,Dy})}
      refine{_,rfl,tv,_,rfl,tv,mf,tv,by rw[ZE,aaQ];lia,{_,rfl},us++[[0+(i:Int),0+(i:Int)+1+(j:Int)]],by rw[ml];rfl,by simp;lia,Dy.app (bD.one (by lia) (by lia) (by lia))}
     ·rintro β o ⟨⟨x0,rfl⟩,us,rfl,hlen,Dy⟩;rw[bY]at hlen;refine{tv,_,us.map kD,rfl,eO us,rfl,by rw[ZE,ZE,aaQ];lia,?_}
      exact{fs++us,_,_,_,_,by rw[aag];rfl,ht.app Dy,by simp;lia}
    ·rintro β ⟨fs,y4,y5,y6,y7,rfl,ht,hl⟩;rw[bY]at hl;exact{fs,{_,_,_,_,_,_,rfl},ht,by lia,λh=>by lia}
   ·rintro β ⟨fs,⟨x4,x5,x6,x7,x8,x9,rfl⟩,ht,hl,hz⟩;refine{λβ=>∃fs:List (List Int),T9 n way (.own (.lst (fs.map kD))) β/\bD n fs/\fs.length<1000,?_,?_}
    ·refine{_,rfl,tv,_,bA _ _,_,rfl,kQ (λw4=>?_) (λw4=>{fs,{_,_,_,_,_,_,rfl},ht,by lia})}
     have:=hz w4;refine{_,rfl,tv,rfl,_,rfl,tv,rfl,tv,n,rfl,by lia,by lia,λts tl tt=>?_}
     have ea:EC (.lst (fs.map kD)) (.lst (ts.map kD))=ν (.lst ((fs++ts).map kD)):=by
      rw[aag];exact χ (by rw[ZE,ZE,aaQ];lia)
     exact{_,ea,.inl {eO _,tv,fs++ts,{_,_,_,_,_,_,rfl},ht.app tt,by simp;lia}}
    ·rintro β ⟨fs,⟨x4,x5,x6,x7,x8,x9,rfl⟩,ht,hl⟩;obtain⟨ts,e,f_⟩:=Ep ht;refine{_,rfl,tv,_,B9 ht.ne hl,.inr {tv,_,v9 ht.ne hl,.inl {eO _,300,rfl,_,rfl,?_}}};rw[e];exact .inl {eO _,tv,rfl,q _ f_}
def nh:aL ["hand","many"] ["hand"] (ay gX):=mkS
def Kq {QO Hk}(dR:D3 K mg QO Hk){LY xh}(dT:D1 K mg LY xh){IT uQ}(dA:D0 K mg IT uQ){ML AG}(dI:D2 K mg ML AG)(B:Bs mg):aO P w K mg base cg 4 QO Hk ["hand"] (j8 P w iy ζ D_):=by
 have GT:aO P w K mg base cg 1 _ _ _ (j8 P w iy ζ cV):=rj (mx dT.F);have GI:aO P w K mg base cg 3 _ _ _ (j8 P w iy ζ uV):=Gq dI dT dA B;refine Kw dR.F nh (λds R Pa=> by obtain⟨e,_⟩ := Pa;subst e;rfl) λcY A outer s H E IO hr=>⟨_,(ah (a5 (i:=1) (bV (ih:=0) cV.mono GT (hr.mono (by decide)) dT.m dT.F.kp dT.b (ab (aE af aX (bc (ab ag (ab ag (ab ag (ab ag ae))))) (bV (ih:=0) cV.mono GT (hr.mono (by decide)) dT.m dT.F.kp dT.b (ab ag ae))) ae)) nh.nd)
    (ah (b9 (aD af (bE.m dF) (aa (i:=1)) ag) (ak (bo (bB (ab (aa (i:=1)) (ab (bc ae) ae))))) a7)
    (ak (bo (bB (ab (aa (i:=1)) (ab (bV (ih:=0) uV.mono GI (hr.mono (by decide)) dI.m dI.F.kp dI.b (ab (aa (i:=1)) ae)) ae))))))),λds R h=>?_⟩
 obtain⟨rfl,q⟩:=h;refine{rfl,tv,tv,tv,tv,(by show 4<=Z3;decide),tv,rfl,tv,rfl,tv,4,rfl,by lia,by lia,λr r0 r1=>pick r0 (by simpa using r1) λd hd=>?_}
 obtain⟨m,rfl,m0,m1⟩:∃m:Int,d=.int m/\0<m/\m<=41:=by
  simp only[ZI,aaX,or_false]at hd;rcases hd with rfl|rfl|rfl|rfl
  ·exact{7,rfl,by lia,by lia}
  ·exact{7,rfl,by lia,by lia}
  ·exact{11,rfl,by lia,by lia}
  ·exact{41,rfl,by lia,by lia}
 refine{tv,rfl,tv,m,rfl,m0,by lia,λn j0 j1=>?_}
 refine{_,rfl,tv,_,rfl,_,rfl,kQ (λh=>?_) (λh=>?_)}
 ·exact{_,rfl,tv,ZW _,tv,mf,tv,rfl,q n [] j0 (by lia) {by simp,bD.nil,List.Pairwise.nil,aaH}}
 ·exact{_,rfl,tv,rfl,_,rfl,tv,rfl,tv,n,rfl,by lia,by lia,λts f_=>{tv,mf,tv,rfl,q n ts j0 (by lia) f_}}
end
end o8
namespace L2.Q
open PySem PySem.Spec PySem.SeqAt PyProof.Rows
def AU (ns:List Int)(lo hi:Option Int):∃ms:List Int,vd (ns.map V.int) lo hi=ms.map V.int/\ms.length<=ns.length:=by
 refine{(ns.drop (HT.nj (ns.map V.int).length 0 lo)).take (HT.nj (ns.map V.int).length (ns.map V.int).length hi-HT.nj (ns.map V.int).length 0 lo),?_,?_}
 ·unfold vd;rw[List.map_take,List.map_drop]
 ·rw[aai,aci];lia
section
variable {P:ZN}{w:Z4}
theorem bK {W:θ->Prop}{H:Hp}:∀ns:List Int,ai P w W H (ns.map D.int) (ns.map V.int)
 |[]=>rfl
 |n::ns=>{_,_,rfl,rfl,bK ns}
def FL {N:List Str}{vs:List V}{H H':Hp}{n:Nat}{ro:Bool}{U:θ->Prop}(hl:(L2.start N vs).length=n)(sm:au H H'):cu P w {H,λ_=>False,ro,U} (L2.start N vs) H' (aau n ξ) (λ_=>[]) :=
 {by rw[hl,List.length_replicate],λi y d h=>(gy h).elim,λi d h=>(gy h).elim,λi ok h=>(gy h).elim,λi a h=>(nomatch h),λi j a h=>(nomatch h),λi=>aaH,sm.kp,λa z e=>z (sm.free e),λi y d h=>(gy h).elim}
def Nh {ro:Bool}{H H':Hp}{b:Bool}{v:V}(h:vC P w ro H H' (.bl b) v):v=.bl b:=by
 cases ro with
 |true=>obtain⟨A,h1,_⟩:=h;exact h1.1
 |false=>exact h
end
end L2.Q
namespace L2
open PySem PySem.Spec PySem.SeqAt PyProof.Rows
abbrev JU (n:Int)(rows:List (List Int)):D:=.tup [.int n,.lst (rows.map kD)]
def zJ (n:Int)(rows:List (List Int)):(JU n rows).pd.canLay0=ζ/\(JU n rows).pd.depth<=4:=j9 λd hd=>by
 rcases ZI.mp hd with rfl|hd
 ·exact{(bG n).1,aaj (bG n).2 (by decide)}
 ·rw[ZJ.mp hd];exact iP rows
end L2
namespace L2.Q
open PySem PySem.Spec PySem.SeqAt PyProof.Rows
def EG {β:a6}{i j k l:Nat}{y1 y2 y3 y4:Bool}{a b c d:Int}{R:D->Kd->a6->Prop}(h1:β[i]?=ν (ν (.val y1 (.int a))))(h2:β[j]?=ν (ν (.val y2 (.int b))))(h3:β[k]?=ν (ν (.val y3 (.int c))))(h4:β[l]?=ν (ν (.val y4 (.int d))))
  (q:R (.bl (decide (a<b)&&(decide (b<c)&&decide (c<d)))) .own β):Cm (Cj i) (JZ QS (Cj j) (JZ QS (Cj k) (Nw QS (Cj l)))) β R:=by
 refine{_,h1,_,h2,_,rfl,kQ (λz1=>{_,h3,_,rfl,kQ (λz2=>{_,h4,_,rfl,?_}) (λz2=>?_)}) (λz1=>?_)}
 ·simpa[z1,z2] using q
 ·simpa[z1,z2] using q
 ·simpa[z1] using q
end L2.Q
namespace L2
open PySem PySem.Spec PyProof.Rows
section
variable {κ:Type}[DecidableEq κ]
def gg (kvs:List (κ×V))(k:κ):Option V:=(kvs.find? λkv=>decide (kv.1=k)).map (·.2)
def putK (kvs:List (κ×V))(k:κ)(v:V):List (κ×V) :=
 if (kvs.any λkv=>decide (kv.1=k))=ζ then kvs.map (λkv=>if kv.1=k then (kv.1,v) else kv) else kvs++[(k,v)]
def mR {p:κ×V}{r:List (κ×V)}{k:κ}(e:p.1=k):gg (p::r) k=ν p.2:=by simp[gg,abg,e]
def mT {p:κ×V}{r:List (κ×V)}{k:κ}(e:¬ p.1=k):gg (p::r) k=gg r k:=by simp[gg,abg,e]
theorem mU (k:κ):∀kvs:List (κ×V),(kvs.any λkv=>decide (kv.1=k))=(gg kvs k).isSome
 |[]=>rfl
 |p::r=>by
  rw[List.any_cons]
  by_cases e:p.1=k
  ·simp only[mR e,Γ e,Bool.true_or,Option.isSome_some]
  ·rw[mT e,Δ e,Bool.false_or];exact mU k r
def uv (kvs:List (κ×V))(k:κ)(v:V):(putK kvs k v).length<=kvs.length+1:=by
 unfold putK
 split
 ·rw[ZE];lia
 ·rw[aad,ZZ,acJ];lia
def Cn {kvs:List (κ×V)}{k:κ}(v:V)(h:gg kvs k=ξ):putK kvs k v=kvs++[(k,v)]:=by
 unfold putK;rw[mU,h];exact ω (by decide)
def oW.Au {o:Option V}{u:Option ZF}(r:oW o u):o.isSome=u.isSome:=by
 cases o with
 |none=>cases u with
  |none=>rfl
  |some _=>exact(show False from r).elim
 |some _=>cases u with
  |none=>exact(show False from r).elim
  |some _=>rfl
def KV.val {kvs:List (κ×V)}{vs:List (κ×ZF)}(r:KV kvs vs)(k:κ):oW (gg kvs k) (valueAt vs k):=by
 unfold KV at r
 induction r with
 |nil=>exact abK
 | @cons p q ps qs h t ih =>
  obtain⟨h1,h2⟩:=h
  by_cases e:p.1=k
  ·have e':q.1=k:=h1.symm.trans e;have b:valueAt (q::qs) k=ν q.2:=by simp[valueAt,abg,e']
   rw[mR e,b];exact h2
  ·have e':¬ q.1=k:=λz=>e (h1.trans z);have b:valueAt (q::qs) k=valueAt qs k:=by simp[valueAt,abg,e']
   rw[mT e,b];exact ih
end
def Iw {P:ZN}{w:Z4}{k:Key}{u:ZF}(r:RelV (kV k) u):(cC P w).is k u=ζ:=by
 cases k with
 |inl i=>obtain⟨t,e⟩:=(show ∃t,u=Value.int i t from r);subst e;exact ub P w i t
 |inr x=>obtain⟨t,e⟩:=(show ∃t,u=Value.str x t from r);subst e;exact ua P w x t
theorem qv {P:ZN}{w:Z4}:∀{ks:List Key} {us:List ZF},Vals (ks.map kV) us->ItemsAre (cC P w) ks us
 |[],_,r=>by rw[List.map_nil]at r;cases r;exact .nil
 |k::ks,_,r=>by
  rw[aae]at r;cases r with
  |cons h t=>exact .cons (Iw h) (qv t)
abbrev KT (H:Hp):List (List Key×V)->List (List Key×θ×ZF)->Prop:=Paired λp q=>p.1=q.1/\H q.2.1=ν (.tup (p.1.map kV))/\RelV p.2 q.2.2
def KT.val {H:Hp}{kvs:List (List Key×V)}{xs:List (List Key×θ×ZF)}(r:KT H kvs xs)(k:List Key):oW (gg kvs k) ((atKey xs k).map (·.2)):=by
 induction r with
 |nil=>exact abK
 | @cons p q ps qs h t ih =>
  obtain⟨h1,_,h2⟩:=h
  by_cases e:p.1=k
  ·have e':q.1=k:=h1.symm.trans e;have b:atKey (q::qs) k=ν q.2:=by simp[atKey,abg,e']
   rw[mR e,b];exact h2
  ·have e':¬ q.1=k:=λz=>e (h1.trans z);have b:atKey (q::qs) k=atKey qs k:=by simp[atKey,abg,e']
   rw[mT e,b];exact ih
def KT.RN {H:Hp}{kvs:List (List Key×V)}{xs:List (List Key×θ×ZF)}(r:KT H kvs xs)(k:List Key){y:V}{u:ZF}(ry:RelV y u):
  KT H (kvs.map λkv=>if kv.1=k then (kv.1,y) else kv) (xs.map (putAt k u)):=by
 induction r with
 |nil=>exact .nil
 | @cons p q ps qs h t ih =>
  rw[aae,aae];refine .cons ?_ ih;obtain⟨h1,h2,h3⟩:=h;unfold putAt
  by_cases e:p.1=k
  ·rw[χ e,χ (h1.symm.trans e)];exact{(h1),h2,ry}
  ·rw[ω e,ω (λz=>e (h1.trans z))];exact{(h1),h2,h3}
def KT.put {H:Hp}{kvs:List (List Key×V)}{xs:List (List Key×θ×ZF)}(r:KT H kvs xs)(k:List Key){b:θ}{y:V}{u:ZF}(hb:H b=ν (.tup (k.map kV)))(ry:RelV y u):
  KT H (putK kvs k y) (storedH xs k b u):=by
 have e:(kvs.any λkv=>decide (kv.1=k))=(atKey xs k).isSome:=by
  rw[mU,(r.val k).Au,Option.isSome_map]
 unfold putK storedH;rw[e]
 by_cases q:(atKey xs k).isSome=ζ
 ·rw[χ q,χ q];exact r.RN k ry
 ·rw[ω q,ω q];exact Paired.snoc r {(rfl),hb,ry}
def KT.keeps {H H':Hp}{kvs:List (List Key×V)}{xs:List (List Key×θ×ZF)}(r:KT H kvs xs)(ht:∀b ys,H b=ν (.tup ys)->H' b=ν (.tup ys)):KT H' kvs xs :=
 Paired.KL r λ_ _ z=>{z.1,ht _ _ z.2.1,z.2.2}
section
variable {P:ZN}{w:Z4}{H:Hp}{h:Heap}{a:θ}
def Ia {u:HO}(ok:i8 P w H h)(e:Rd H a u):a9 P w H h a u:=e.ok ok
def IX {kvs:List (Key×V)}(ok:i8 P w H h)(e:Rd H a (.dK kvs)):kvs.length<=Z3/\(a==acR)=η/\∃vs,KV kvs vs/\h.DictOf (cC P w) a vs :=
 show a9 P w H h a (.dK kvs) from Ia ok e
def wR {ks:List Key}(ok:i8 P w H h)(e:H a=ν (.tup (ks.map kV))):(adb (cC P w)).is h ks a:=by
 obtain⟨_,its,r,o,h1,h2,n,h3⟩:=(show a9 P w H h a (.tup (ks.map kV)) from ok a _ e)
 exact{o,its.toArray,n,h1,h2,h3,by simpa using qv r}
def Em {kvs:List (List Key×V)}(ok:i8 P w H h)(e:Rd H a (.dT kvs)):kvs.length<=Z3/\(a==acR)=η /\
  ∃xs,KT H kvs xs/\h.DictOfH (adb (cC P w)) a xs:=by
 obtain⟨z,y,xs,r,o,es,ep,h1,h2,h3,h4,h5⟩:=(show a9 P w H h a (.dT kvs) from Ia ok e)
 refine{z,y,xs,r,o,es,ep,h1,h2,h3,h4,λx hx=>?_,h5};have all:∀{l:List (List Key×V)} {m:List (List Key×θ×ZF)},KT H l m->∀x∈m,(adb (cC P w)).is h x.1 x.2.1:=by
  intro l m q
  induction q with
  |nil=>intro x hx;exact nomatch hx
  | @cons p q ps qs hq t ih =>
   intro x hx;rcases ZI.mp hx with e|hx
   ·subst e;exact wR ok (by rw[<- hq.1];exact hq.2.1)
   ·exact ih x hx
 exact all r x hx
def PJ {kvs:List (List Key×V)}(ok:i8 P w H h)(e:H a=ν (.dT kvs)):kvs.length<=Z3/\(a==acR)=η /\
  ∃xs,KT H kvs xs/\h.DictOfH (adb (cC P w)) a xs:=Em ok (.inl e)
end
def Bh (H:Hp)(a:θ)(y:V)(r:Option V):Prop :=
 (∃kvs k,Rd H a (.dK kvs)/\y=kV k/\r=gg kvs k)\/∃kvs k b,Rd H a (.dT kvs)/\y=.ref b/\H b=ν (.tup (k.map kV))/\r=gg kvs k
def Bh.t {H:Hp}{a b:θ}{kvs:List (List Key×V)}{k:List Key}(e:H a=ν (.dT kvs))(eb:H b=ν (.tup (k.map kV))):Bh H a (.ref b) (gg kvs k):=.inr {kvs,k,b,.inl e,rfl,eb,rfl}
section
variable {X:Cx}{μ:List (θ×Obj)}{σ:St}{H:Hp}{s:ZH}{a:θ}{y v:V}{u:ZF}{o:Option V}{A:aaJ}{E:ZF->ZH->Prop}
def Inv.big (I:Inv X μ σ H s):acR<s.heap.objs.size:=by
 have h:abO<s.heap.objs.size:=(I.mod.glob.keeps I.bk).lt;exact Nat.lt_trans (by decide) h
def AR {Q:ZF->ZH->Prop}(hu:A.units+1<abx)(I:Inv X μ σ H s)(g:Bh H a y (ν v))(ry:RelV y u)(h:∀w' s',Inv X μ σ H s'->RelV v w'->Q w' s'):
  aab (Ψ X.prog X.w) A (getItem (.ref a) u) Q E s:=by
 rcases g with⟨kvs,k,e,ey,l⟩|⟨kvs,k,b,e,ey,eb,l⟩
 ·subst ey;obtain⟨z,hd,vs,rel,dd⟩:=IX I.bp e;obtain⟨w',hw,E_⟩:=oW.some_of (v:=v) (o:=valueAt vs k) (by rw[l];exact rel.val k)
  exact wpAny_getItem_of (Iw ry) dd.mapOf hw (h w' _ (I.tok _) E_)
 ·subst ey;cases (show u=Φ b from ry)
  obtain⟨z,hd,xs,rel,dd⟩:=Em I.bp e;obtain⟨w',hw,E_⟩:=oW.some_of (v:=v) (o:=(atKey xs k).map (·.2)) (by rw[l];exact rel.val k)
  obtain⟨p,hp,QE⟩:=ZR.mp hw;refine wpAny_getItem_heap (tupleKind_room_in1 hu) (wR I.bp eb) dd hp ?_;rw[QE];exact h w' _ (I.tok _) E_
def Hz {h':Heap}{t':Nat}{ob:HO}(I:Inv X μ σ H s)(mu:Qb (H a))(hs:abr a s.heap h')(he:∃q,h'.get? a=ν q)(new:a9 X.prog X.w (upd H a ob) h' a ob):
  Inv X μ σ (upd H a ob) {s with heap:=h',toks:=t'} :=
 I.write (x:=a) (e:=a) mu (.inl rfl) (λb q hb z=>(hs.2 b hb).trans z) he new
end
def u7 {X:Cx}{μ:List (θ×Obj)}{σ:St}{H:Hp}{s:ZH}{a:θ}{y:V}{o:Option V}(I:Inv X μ σ H s)(g:Bh H a y o):s.TypeIs (.ref a) "dict" := by
 rcases g with⟨kvs,k,e,_,_⟩|⟨kvs,k,b,e,_,_,_⟩
 ·obtain⟨_,_,vs,_,dd⟩:=IX I.bp e;exact dd.typeIs
 ·obtain⟨_,_,xs,_,dd⟩:=Em I.bp e;exact dd.typeIs
def En {P:ZN}{w:Z4}{H:Hp}(h:Heap)(hb:acR<h.objs.size):a9 P w H (h.push {cls:=.type "dict",data:=.dict #[]}) h.objs.size (.dT []) :=
 {ZW _,beq_eq_false_iff_ne.mpr (aa1 (aak hb)),[],.nil,_,#[],0,Z8 _ rfl,{(rfl),rfl,rfl},rfl,rfl,aaH}
end L2
namespace L2.Q
open PySem PySem.Spec PySem.SeqAt PyProof.Rows
def _root_.L2.c6.BE {k:Nat}{A:aaJ}(r:c6 k A):A.units+1<abx:=by have:=r.un;lia
def iK (t:List Int):List Key:=t.map Sum.inl
def Lg {t u:List Int}(h:iK t=iK u):t=u:=by
 unfold iK at h
 induction t generalizing u with
 |nil=>cases u with|nil=>rfl|cons _ _=>cases h
 |cons a t ih =>
  cases u with
  |nil=>cases h
  |cons b u =>
   rw[aae,aae]at h;injection h with h1 h2
   injection h1 with h1
   rw[h1,ih h2]
def IC (t:List Int):(iK t).map kV=t.map V.int:=by
 unfold iK;rw[aaR];rfl
end L2.Q
namespace L2
open PySem PySem.Spec PySem.SeqAt PyProof.Rows
def Mk:aaF "sum" = ν (.builtin "sum"):=by decide +kernel
def D.int?:D->Option Int
 |.int i=>ν i
 |_=>ξ
def D.uq:D->Option (List D)
 |.lst ds=>ν ds
 |_=>ξ
def D.rZ {d:D}{i:Int}(h:d.int?=ν i):d=.int i:=by
 cases d <;> first|(cases h;rfl)|cases h
def D.mD {d:D}{ds:List D}(h:d.uq=ν ds):d=.lst ds:=by
 cases d <;> first|(cases h;rfl)|cases h
noncomputable def iJ:List D->Option (List Int)
 |[]=>ν []
 |d::ds=>d.int?.bind λi=>(iJ ds).map (i::·)
theorem jT:∀{ds:List D} {ns:List Int},iJ ds=ν ns->ds=ns.map D.int
 |[],_,h=>by cases h;rfl
 |d::ds,ns,h=>by
  obtain⟨i,h1,h2⟩:=aaC.mp h;obtain⟨ms,h3,rfl⟩:=ZR.mp h2;rw[D.rZ h1,jT h3];rfl
theorem ij:∀ns:List Int,iJ (ns.map D.int)=ν ns
 |[]=>rfl
 |n::ns=>by
  show (ν n).bind (λi=>(iJ (ns.map D.int)).map (i::·))=_;rw[ij ns];rfl
noncomputable def de (f:List Int->Option Int):List D->Option D
 |[d]=>d.uq.bind λds=>(iJ ds).bind λns=>(f ns).map D.int
 |_=>ξ
def oJ {f:List Int->Option Int}{ds:List D}{d:D}(h:de f ds=ν d):∃ns i,ds=[.lst (ns.map D.int)]/\f ns=ν i/\d=.int i:=by
 cases ds with
 |nil=>cases h
 |cons x r =>
  cases r with
  |cons _ _=>cases h
  |nil =>
   obtain⟨es,h1,h2⟩:=aaC.mp h;obtain⟨ns,h3,h4⟩:=aaC.mp h2;obtain⟨i,h5,rfl⟩:=ZR.mp h4;exact{ns,i,by rw[D.mD h1,jT h3],h5,rfl}
def iZ {f:List Int->Option Int}{ns:List Int}{i:Int}(h:f ns=ν i):de f [.lst (ns.map D.int)]=ν (.int i):=by
 show (ν (ns.map D.int)).bind (λds=>(iJ ds).bind λns=>(f ns).map D.int)=_;rw[abb,ij,abb,h];rfl
def fR:List Int->Option Int
 |[]=>ξ
 |n::ns=>ν (ns.foldl max n)
theorem cn:∀(ns:List Int) (n:Int),(ns.foldl max n∈n::ns)/\∀x∈n::ns,x<=ns.foldl max n
 |[],n=>{by simp,λx hx=>by simp at hx;rw[hx];exact Int.le_refl _}
 |m::ns,n=>by
  obtain⟨h1,h2⟩:=cn ns (max n m);have hm:max n m<=ns.foldl max (max n m):=h2 _ (by simp)
  refine{?_,λx hx=>?_}
  ·rw[acr];rcases ZI.mp h1 with h|h
   ·rw[h]
    by_cases q:n<=m
    ·rw[show max n m=m by lia];simp
    ·rw[show max n m=n by lia];simp
   ·simp[h]
  ·rw[acr];rcases ZI.mp hx with rfl|hx
   ·lia
   ·rcases ZI.mp hx with rfl|hx
    ·lia
    ·exact h2 x (by simp[hx])
section
variable {X:Cx}
theorem iN:∀{ns:List Int} {us:List ZF},Vals (ns.map V.int) us->∃xs:Array (Int×Tok),us.toArray=intItems xs/\xs.toList.map (·.1)=ns
 |[],_,h=>by cases h;exact{#[],by simp[intItems],rfl}
 |n::ns,_,h=>by
  cases h with
  |cons h1 h2 =>
   obtain⟨t,rfl⟩:=h1;obtain⟨xs,e1,e2⟩:=iN h2;refine{{(n,t)::xs.toList},?_,by simp[e2]}
   have:=Ι Array.toList e1;simp[intItems]at this ⊢
   exact this
def ku {xs:Array (Int×Tok)}{ns:List Int}(e:xs.toList.map (·.1)=ns)(i:Nat):numAt xs i=ns.getD i 0:=by
 subst e;unfold numAt;rw[aa_,ZS,Z9]
def HS {xs:Array (Int×Tok)}{ns:List Int}(e:xs.toList.map (·.1)=ns){i:Nat}{v:ZF}(h:(intItems xs)[i]?=ν v):RelV (.int (ns.getD i 0)) v:=by
 obtain⟨t,rfl⟩:=intItems_at h;exact{t,by rw[ku e]}
def ints_size {xs:Array (Int×Tok)}{ns:List Int}(e:xs.toList.map (·.1)=ns):xs.size=ns.length:=by rw[<- e];simp
def A5 (hc:X.calm=ζ):bO X (.builtin "sum") (de λns=>ν ns.sum):=by
 intro μ s σ H xs us Q I r h;obtain⟨W,ds,d,hd,r1,e,q⟩:=h;obtain⟨ns,i,rfl,e1,rfl⟩:=oJ e;cases e1;obtain⟨x,rfl,p,vs,rfl,h1,n1,q1⟩:=j4 r1;obtain⟨u,rfl,ru⟩:=vals1 r;cases ru;rw[bK q1]at h1;obtain⟨its,r2,ht,hz⟩:=I.list (dJ.of h1);obtain⟨ys,e1,e2⟩:=iN r2;refine sum_intListG (I.ok.hd hc) (xs:=ys) (by rw[<- e1];exact ht.isList) λh' tk t' k=>{.int ns.sum,H,I.kept k,{t',?_},q _ _ (au.refl _) rfl}
 rw[preSum_eq,abk (by simp),e2]
def k7 (hc:X.calm=ζ):bO X (.builtin "max") (de fR):=by
 intro μ s σ H xs us Q I r h;obtain⟨W,ds,d,hd,r1,e,q⟩:=h;obtain⟨ns,i,rfl,e1,rfl⟩:=oJ e;obtain⟨x,rfl,p,vs,rfl,h1,n1,q1⟩:=j4 r1;obtain⟨u,rfl,ru⟩:=vals1 r;cases ru;rw[bK q1]at h1;obtain⟨its,r2,ht,hz⟩:=I.list (dJ.of h1);obtain⟨ys,UT,e2⟩:=iN r2;have hs:=ints_size e2;cases ns with
 |nil=>cases e1
 |cons n ns =>
  rw[ZZ]at hs;refine max_intList (I.ok.hd hc) (xs:=ys) (by rw[<- UT];exact ht.isList) (by lia) λv h' tk hv k=>{.int i,H,I.kept k,?_,q _ _ (au.refl _) rfl}
  have hr:=HS e2 hv;obtain⟨g1,g2⟩:=argBest_gt (numAt ys) (ys.size-1);generalize argBest (λi j=>decide (numAt ys i>numAt ys j)) (ys.size-1)=b at *
  have hb:b<(n::ns).length:=by rw[ZZ];lia
  have:(n::ns).getD b 0=i:=by
   cases e1;obtain⟨f1,f2⟩:=cn ns n;have hle:∀x∈n::ns,x<=(n::ns).getD b 0:=λx hx=>by
    obtain⟨j,hj,rfl⟩:=List.getElem_of_mem hx;have:=g2 j (by rw[ZZ]at hj;lia)
    rw[ku e2,ku e2]at this;rw[aa_,ZU hj]at this;exact this
   have DJ:(n::ns).getD b 0∈n::ns:=by
    rw[aa_,ZU hb];exact abV hb
   have:=hle _ f1;have:=f2 _ DJ;lia
  rw[<- this];exact hr
end
end L2
namespace L2.Q
open PySem PySem.Spec PySem.SeqAt PyProof.Rows
def dA (kvs:List (List Int×D)):D:=.dT (kvs.map λp=>iK p.1) (kvs.map (·.2))
def lR (kvs:List (List Int×D))(t:List Int):Option D:=(kvs.find? λp=>decide (p.1=t)).map (·.2)
def _root_.L2.D.Oq:D->Option (List (List Key)×List D)
 |.dT ks ds=>ν (ks,ds)
 |_=>ξ
def G5 {d:D}{ks:List (List Key)}{ds:List D}(h:d.Oq=ν (ks,ds)):d=.dT ks ds:=by
 cases d <;> first|(cases h;rfl)|cases h
def vV (ks:List (List Key))(ds:List D)(k:List Key):Option D:=((ks.zip ds).find? λp=>decide (p.1=k)).map (·.2)
def G2 {d:D}{es:List D}(h:d.K_=ν es):d=.tup es:=by
 cases d <;> first|(cases h;rfl)|cases h
def HC (a b:D):Option ((List (List Key)×List D)×List Int):=a.Oq.bind λp=>b.K_.bind λes=>(iJ es).map λt=>(p,t)
def HB {a b:D}{ks:List (List Key)}{ds:List D}{t:List Int}(h:HC a b=ν ((ks,ds),t)):a=.dT ks ds/\b=.tup (t.map D.int):=by
 obtain⟨p,h1,h2⟩:=aaC.mp h;obtain⟨es,h3,h4⟩:=aaC.mp h2;obtain⟨t',h5,h6⟩:=ZR.mp h4;cases h6;exact{G5 h1,by rw[G2 h3,jT h5]}
def HA {kvs:List (List Int×D)}{t:List Int}:HC (dA kvs) (.tup (t.map D.int))=ν ((kvs.map λp=>iK p.1,kvs.map (·.2)),t):=by
 show (ν _).bind (λp=>(ν (t.map D.int)).bind λes=>(iJ es).map λt=>(p,t))=_;rw[abb,abb,ij];rfl
theorem vU {t:List Int}:∀{kvs:List (List Int×D)},vV (kvs.map λp=>iK p.1) (kvs.map (·.2)) (iK t)=lR kvs t
 |[]=>rfl
 |p::kvs=>by
  have ih:=vU (t:=t) (kvs:=kvs);unfold vV lR at *
  rw[aae,aae,ab1,abg,abg]
  by_cases h:p.1=t
  ·rw[Γ (Ι iK h),Γ h];rfl
  ·rw[Δ (λz=>h (Lg z)),Δ h];exact ih
def zd (a b:D):Option D:=(HC a b).bind λz=>vV z.1.1 z.1.2 (iK z.2)
def HF {kvs:List (List Int×D)}{t:List Int}:zd (dA kvs) (.tup (t.map D.int))=lR kvs t:=by
 unfold zd;rw[HA,abb];exact vU
section
variable {P:ZN}{w:Z4}{W:θ->Prop}{H:Hp}
theorem rG {k:List Key}:∀{ks:List (List Key)} {ds:List D} {vs:List V},ks.length=vs.length->ai P w W H ds vs->(gg (ks.zip vs) k).isSome=(vV ks ds k).isSome/\∀d,vV ks ds k=ν d->∃v,gg (ks.zip vs) k=ν v/\az P w W H d v
 |[],ds,vs,_,_=>by
  unfold gg vV;rw[ac4,ac4];exact{rfl,λd h=>by cases h}
 |k'::ks,[],_,l,h=>by rw[show _=([]:List V) from h]at l;cases l
 |k'::ks,d::ds,_,l,⟨v,r,e,h1,h2⟩=>by
  subst e;obtain⟨i1,i2⟩:=rG (k:=k) (ks:=ks) (Nat.succ.inj l) h2;unfold gg vV at *
  rw[ab1,ab1,abg,abg]
  by_cases hk:k'=k
  ·rw[Γ hk];exact{rfl,λd' e=>by cases e;exact{(v),rfl,h1}}
  ·rw[Δ hk];exact{(i1),i2}
end
section
variable {X:Cx}
def K8 {W:θ->Prop}{H:Hp}{a b:D}{x y:V}{ks:List (List Key)}{ds:List D}{t:List Int}(h:HC a b=ν ((ks,ds),t))(r1:Rp X W H a x)(r2:Rp X W H b y):∃p vs,x=.ref p/\Bh H p y (gg (ks.zip vs) (iK t))/\ks.length=vs.length/\ai X.prog X.w W H ds vs:=by
 obtain⟨rfl,rfl⟩:=HB h;obtain⟨p,vs,rfl,e1,l,n,rs⟩:=r1;obtain⟨q,us,rfl,e2,rt⟩:=r2;rw[L2.bK rt]at e2;exact{p,vs,rfl,Bh.t e1 (by rw[IC];exact e2),l,rs}
def Oi (hu:X.A.units+1<abx):Jg X (Ci X zd NF):=by
 intro value slice μ s σ H x y v u Q I rx ry h hs;obtain⟨W,d1,d2,d,hd,r1,r2,e,q⟩:=h;obtain⟨⟨⟨ks,ds⟩,t⟩,h1,h2⟩:=aaC.mp e;obtain⟨p,vs,rfl,g,l,rs⟩:=K8 h1 r1 r2;obtain⟨w',hw,E_⟩:=(rG l rs).2 d h2;rw[hw]at g;cases (show v=Φ p from rx)
 exact tail_any (u7 I g) PySem.F.slot_dict_getitem.lookup (AR hu I g ry λu' s' I' r'=>{w',H,I',r',q w' H (au.refl _) E_ λf=>az.flat f E_}) hs
end
def Kh {P:ZN}{w:Z4}{H:Hp}{kvs:List (List Int×D)}{a:θ}{vs:List V}{A:List θ}(h:H a=ν (.dT ((kvs.map λp=>iK p.1).zip vs)))(o:aK P w H (kvs.map (·.2)) vs A):Own P w H (dA kvs) (.ref a) (a::A) :=
 {a,vs,A,rfl,h,by rw[ZE,o.length,ZE],rfl,o}
def Jw {P:ZN}{w:Z4}{H:Hp}{kvs:List (List Int×D)}{vs:List V}{A:List θ}{t:List Int}(o:aK P w H (kvs.map (·.2)) vs A)(h:lR kvs t=ξ):gg ((kvs.map λp=>iK p.1).zip vs) (iK t)=ξ:=by
 have:=(rG (k:=iK t) (ks:=kvs.map λp=>iK p.1) (W:=λ_=>False) (by rw[ZE,o.length,ZE]) (o.rep λc _ z=>z)).1
 rw[vU,h]at this;exact Option.isNone_iff_eq_none.mp (by rw[<- Option.not_isSome,this];rfl)
end L2.Q
namespace L2
open PySem PySem.Spec PySem.SeqAt PyProof.Rows
def Q3 (lo:Int)(n:Nat):It:={λi _=>i<n,λi H x H'=>H'=H/\x=.int (lo-i),λi _=>n<=i}
def sV {P:ZN}{w:Z4}{K:Ξ}{tg:Expr}(it:θ)(lo:Int)(n:Nat):Turn P w K tg (Q3 lo n) [it] it (λi h=>IsRangeIter h it (lo+(i:Nat)*(-1)) ((n:Int)-(i:Nat)) (-1)) where
 mem:=by simp
 obj:=λi h st b hb=>by
  have e:b=it:=by simpa using hb
  subst e;exact⟨_,st,λv z=>by
   have z':Data.fields _=Data.cell v:=z;cases z'⟩
 keep:=λi h h' st k=>k it (by simp) _ st
 item:=by
  intro X hP hw hK hc i μ s σ H E I hf st hg;subst hP hw hK;obtain⟨f0,f1,f2,f3,f4,f5⟩:=hf it (by simp)
  have W:=Walks.range (prog:=X.prog) (w:=X.w) (I.ok.hd hc) it lo (-1) n;refine W.item i s _ _ hg st λv h' tk hv aA kk=>?_;obtain⟨t,rfl⟩:=hv;have I1:Inv X μ σ H {s with heap:=h',toks:=tk}:=I.turned (λb o hb e=>kk b o (by simpa using hb) e) f0 f1 f3 f4 f5
  refine{_,rfl,yI (s:={s with heap:=h',toks:=tk}) (n:="range_iterator") aA rfl rfl (by decide) {.int (lo-i),H,I1,{t,?_},{(rfl),rfl},aA,λb hb=>(hf b hb).1}}
  rw[Int.mul_neg,Int.mul_one];rfl
 done:=by
  intro X hP hw hK hc i μ s σ H E I hf st hg;subst hP hw hK;obtain⟨f0,f1,f2,f3,f4,f5⟩:=hf it (by simp)
  exact wpAny_pyNext_range_end (I.ok.hd hc) st (by have:n<=i:=hg;lia) λh' eb=>{rfl,I.turned (t':=s.toks) (λb o hb e=>eb b o hb e) f0 f1 f3 f4 f5}
 self:=λ_ _ _ _ _ st h=>wpAny_pyIter_rangeiter st h
def iw (a b:Int):acv a b (-1)=if b<a then a-b else 0:=by
 unfold acv;rw[ω (by decide)]
 by_cases h:b<a
 ·rw[χ h,χ h,show -(-1:Int)=1 by decide,Int.ediv_one];lia
 ·rw[ω h,ω h]
def zK {a b:Int}(ha:-(2 ^ 62)<=a)(yH:a<2 ^ 62)(hb:-(2 ^ 62)<=b)(lZ:b<2 ^ 62):Builtin.Range.small a b (-1)=ζ:=by
 unfold Builtin.Range.small;rw[iw];simp only[Builtin.Range.rangeFitsLong,aaK,Bool.or_eq_true,decide_eq_true_eq,beq_iff_eq,show ¬ ((-1:Int)>0) by decide,if_false]
 split <;> lia
section
variable {X:Cx}{tg:Expr}
def zT {μ:List (θ×Obj)}{σ:St}{H:Hp}{s:ZH}{R:It->Hp->Prop}{E:ZF->ZH->Prop}{lo hi:Int}{t u v:Tok}{tk:Nat}(I:Inv X μ σ H s)(h1:-(2 ^ 62)<=lo)(h2:lo<2 ^ 62)(h3:-(2 ^ 62)<=hi)(h4:hi<2 ^ 62)
  (q:R (Q3 lo (lo-hi).toNat) H):aab (Ψ X.prog X.w) X.A (pyIter (.ref s.heap.objs.size)) (MW X μ σ tg R) E {s with heap:=s.heap.push {cls:=.type "range",data:=.fields #[.int lo t,.int hi u,.int (-1) v]},toks:=tk}:=by
 refine wpAny_pyIter_range (IsRange.new ..) (zK h1 h2 h3 h4) ?_;have I1:Inv X μ σ H {s with heap:=s.heap.push {cls:=.type "range",data:=.fields #[.int lo t,.int hi u,.int (-1) v]},toks:=tk}:=I.kept λb o e=>ZM _ e
 refine⟨(s.heap.push {cls:=.type "range",data:=.fields #[.int lo t,.int hi u,.int (-1) v]}).objs.size,[(s.heap.push {cls:=.type "range",data:=.fields #[.int lo t,.int hi u,.int (-1) v]}).objs.size],_,_,H,rfl,
  I1.kept (t':=tk) λb o e=>ZM _ e,sV _ lo (lo-hi).toNat,?_,λb hb=>?_,q⟩
 ·have e1:lo+((0:Nat):Int)*(-1)=lo:=by simp
  have e2:(((lo-hi).toNat:Nat):Int)-((0:Nat):Int)=acv lo hi (-1):=by rw[iw];split <;> lia
  show IsRangeIter _ _ (lo+((0:Nat):Int)*(-1)) ((((lo-hi).toNat:Nat):Int)-((0:Nat):Int)) (-1);rw[e1,e2];exact Z8 _ rfl
 ·have e:b=(s.heap.push {cls:=.type "range",data:=.fields #[.int lo t,.int hi u,.int (-1) v]}).objs.size:=by simpa using hb
  subst e;exact I1.AE (ZG _) (I1.bp.fresh (ZG _))
def Ot (ta:TA):TI:=λσ H R=>ta σ H λvs H1=>∃i j:Int,vs=[.int i,.int j,.int (-1)]/\(-(2 ^ 62)<=i/\i<2 ^ 62/\-(2 ^ 62)<=j/\j<2 ^ 62)/\R (Q3 i (i-j).toNat) H1
def zX {a b c:Expr}{ta:TA}{p pos:Pos}(hg:Gl X "range")(hm:X.mg "range" = ξ)(ha:PA X [a,b,c] ta)(hs:Z2 [a,b,c] X.env=[(η,eval a X.env),(η,eval b X.env),(η,eval c X.env)]:=by rfl)(qD:Z2 [b,c] X.env=[(η,eval b X.env),(η,eval c X.env)]:=by rfl) :
  PI X tg (.Call (.Name "range" p) [a,b,c] [] pos) (Ot ta):=by
 intro μ s σ H R I h;refine Call_ (gI I hg hm boot_range (abD (bP (ha pos μ s σ H _ I h) λus s1 fA=>?_) (by rw[hs,qD]) (by rw[qD];rfl)))
 obtain⟨vs,H1,I1,r1,q1⟩:=fA;obtain⟨i,j,e,⟨q1,q2,q3,q4⟩,q⟩:=q1;subst e;cases r1 with
 |cons r rr =>
  cases rr with
  |cons r' rr =>
   cases rr with
   |cons VB rr =>
    cases rr;obtain⟨t,rfl⟩:=r;obtain⟨t',rfl⟩:=r';obtain⟨Zh,rfl⟩:=VB;exact call_range_3 (by decide) (zT I1 q1 q2 q3 q4 q) (.inl (PyProof.noPylong_of_log2 (by decide +kernel)))
def zR (hi:Int)(n:Nat):List D:=(ZK n).map λ(k:Nat)=>D.int (hi-(k:Int))
def nr {hi:Int}{n i:Nat}{d:D}(h:(zR hi n)[i]?=ν d):i<n/\d=.int (hi-i):=by
 unfold zR at h;rw[ZS]at h
 by_cases hi:i<n
 ·rw[abB hi]at h;cases h;exact{(hi),rfl}
 ·rw[aaE (by simpa using hi)]at h;cases h
def nk {hi:Int}{n:Nat}:(zR hi n).length=n:=by unfold zR;simp
def wV {W:θ->Prop}{H:Hp}{lo:Int}{n:Nat}:vN X W (Q3 lo n) (zR lo n) H:=λ_ _ i H' k=>by
 constructor
 ·intro d hd;obtain⟨hi,rfl⟩:=nr hd;refine{hi,λx H1 y=>?_};obtain⟨rfl,rfl⟩:=y;exact{au.refl _,rfl}
 ·intro hl;rw[nk]at hl;exact hl
end
end L2
namespace L2.Q
open PySem PySem.Spec PySem.SeqAt PyProof.Rows
section
variable {X:Cx}{C:Cfg}{tg a b c:Expr}{φs:cX}{p:Bool}{pp pos:Pos}
def G6 (φs:cX):bS:=λβ R=>φs β λds _ β'=>∃i j:Int,ds=[.int i,.int j,.int (-1)]/\(-(2 ^ 62)<=i/\i<2 ^ 62/\-(2 ^ 62)<=j/\j<2 ^ 62)/\R (zR i (i-j).toNat) .d9 β'
def P6 {W:θ->Prop}{H:Hp}{a b c:D}{xs:List V}(h:i9 X W H [a,b,c] xs):∃x y z,xs=[x,y,z]/\Rp X W H a x/\Rp X W H b y/\Rp X W H c z:=by
 obtain⟨x,r,rfl,hx,y,r',rfl,hy,z,VB,rfl,hz,hr⟩:=h;cases hr;exact{(x),y,z,rfl,hx,hy,hz}
def ny (hm:X.mg "range" = ξ)(ha:vM X C p [a,b,c] φs)(hg:Gl X "range" := by rfl)(hs:Z2 [a,b,c] X.env=[(η,eval a X.env),(η,eval b X.env),(η,eval c X.env)]:=by rfl)(qD:Z2 [b,c] X.env=[(η,eval b X.env),(η,eval c X.env)]:=by rfl) :
  vA X C p tg (.Call (.Name "range" pp) [a,b,c] [] pos) (G6 φs) :=
 ⟨λβ R R' k q=>ha.mono β _ _ (λd kd β' h=>by obtain⟨i,j,e,h1,q⟩:=h;exact{i,j,e,h1,k _ _ _ q}) q,(zX hg hm ha.pa hs qD).pre λσ H R h=>by
  obtain⟨β,own,s,q⟩:=h;refine xN.of ha s q λds ks β' vs H1 aC h o1 r1=>?_;obtain⟨i,j,e,h1,q1⟩:=h;subst e;obtain⟨x,y,z,rfl,hx,hy,hz⟩:=P6 r1.kg;cases hx;cases hy;cases hz;exact{i,j,rfl,h1,q1 _ _ aC o1 wV}⟩
end
structure QX (X:Cx)(C:Cfg)(tg iter:Expr)(ι:bS):Prop where
 mono:∀β R R',(∀d k β,R d k β->R' d k β)->ι β R->ι β R'
 pi:PI X tg iter λσ H R=>∃β own,SQ X C σ H β own/\ι β λds k β'=>∀J H',au H H'->SQ X C σ H' β' own->vN X (gk C (Wn own) k) J ds H'->R J H'
section
variable {X:Cx}{C:Cfg}{tg a b:Expr}{φs:cX}{pp pos:Pos}{i:Nat}{x:Str}
def wq (hm:X.mg "range" = ξ)(ha:vM X C ζ [a,b] φs)(hg:Gl X "range" := by rfl)(hs:Z2 [a,b] X.env=[(η,eval a X.env),(η,eval b X.env)]:=by rfl)(qD:Z2 [b] X.env=[(η,eval b X.env)]:=by rfl) :
  QX X C tg (.Call (.Name "range" pp) [a,b] [] pos) (yG φs) :=
 ⟨λβ R R' k q=>ha.mono β _ _ (λd kd β' h=>by obtain⟨i,j,e,h1,q⟩:=h;exact{i,j,e,h1,k _ _ _ q}) q,(qc hg hm ha.pa hs qD).pre λσ H R h=>by
  obtain⟨β,own,s,q⟩:=h;refine xN.of ha s q λds ks β' vs H1 aC h o1 r1=>?_;obtain⟨i,j,e,h1,q1⟩:=h;subst e;obtain⟨s1,rfl⟩:=o1.pu rfl;obtain⟨x,y,rfl,hx,hy⟩:=qW r1.kg;cases hx;cases hy;exact{i,j,rfl,h1,q1 _ _ s1 o1.sq kM}⟩
def Lf (i:Nat):bS:=λβ R=>∃y ds,β[i]?=ν (ν (.val y (.tup ds)))/\R ds (yk y) β
def zU (hn:Nm X i x:=by exact wG):QX X C tg (.Name x pos) (Lf i) :=
 ⟨λβ R R' k h=>by obtain⟨y,ds,e,q⟩:=h;exact{y,ds,e,k _ _ _ q},(J8 (eE (pos:=pos) hn)).pre λσ H R h=>by
  obtain⟨β,own,s,y,ds,e,q⟩:=h;obtain⟨v,hv,p,vs,rfl,h1,rs⟩:=s.val i y _ e;exact{_,hv,p,rfl,{vs,lh.of h1},q _ _ (au.refl _) s (G1 h1 rs)}⟩
end
structure SC (X:Cx)(C:Cfg)(W0:θ->Prop)(T:List Nat)(σ0:St)(H1:Hp)(a:θ)(Hb:Hp)(Wb:θ->Prop)(Ac:Hp->Prop)(β:a6)(σ':St)(H':Hp)(own:Nat->List θ):Prop where
 sq:SQ X (C.u λc=>c=a) σ' H' β own
 sn:Sn (H1,W0) H' (Wn own)
 le:∀c,Wn own c->Wb c
 ac:Ac H'
 pu:au H1 H'
 bs:∀b ob,b≠a->Hb b=ν ob->H' b=ν ob
 st:∀j,j∉T->σ'[j]?=σ0[j]?
abbrev sG {α:Type}(X:Cx)(C:Cfg)(W0:θ->Prop)(T:List Nat)(σ0:St)(H1:Hp)(a:θ)(Hb:Hp)(Wb:θ->Prop)(Ac:α->Hp->Prop)(β:a6)(o:α)(σ':St)(H':Hp):Prop:=∃own,SC X C W0 T σ0 H1 a Hb Wb (Ac o) β σ' H' own
structure xH {α:Type}(a:θ)(Ac:α->Hp->Prop):Prop where
 same:∀o H H',au H H'->Ac o H->Ac o H'
 NX:∀o H xs,Ac o H->H a≠ν (.tup xs)
abbrev FE (X:Cx)(C:Cfg)(a:θ)(T:List Nat)(γ:cJ):TG:=λv σ H Q=>∃own β d k,SQ X (C.u λc=>c=a) σ H β own/\Rp X (gk (C.u λc=>c=a) (Wn own) k) H d v/\γ d k β λβ'=>∀σ' aR,SQ X (C.u λc=>c=a) σ' H β' aR->(∀a,Wn aR a->Wn own a)->(∀j,j∉T->σ'[j]?=σ[j]?)->Q σ' H
abbrev Vn (X:Cx)(C:Cfg)(a:θ)(φ:aM):l8:=λN σ H=>tQ X (C.u λc=>c=a) ζ φ σ H λv H1=>∃xs,H1 a=ν (.lst xs)/\xs.length<Z3/\N σ (upd H1 a (.lst (xs++[v])))
section
variable {α:Type}{X:Cx}{C:Cfg}{W0:θ->Prop}{T Tg:List Nat}{σ0:St}{H1:Hp}{a:θ}{Hb:Hp}{Wb:θ->Prop}{γ:cJ}{τ:aV}{φ:aM}{Ac:α->Hp->Prop}
def SC.next {o:α}(hA:xH a Ac){β β':a6}{σ σ':St}{H H':Hp}{own aR:Nat->List θ}(s:SC X C W0 T σ0 H1 a Hb Wb (Ac o) β σ H own)(sq:SQ X (C.u λc=>c=a) σ' H' β' aR)(w:∀c,Wn aR c->Wn own c)(sm:au H H')(t:∀j,j∉T->σ'[j]?=σ[j]?):
  SC X C W0 T σ0 H1 a Hb Wb (Ac o) β' σ' H' aR :=
 {sq,jo (s.sn.same sm) w,λc z=>s.le c (w c z),hA.same o _ _ sm s.ac,s.pu.trans sm,λb ob n e=>sm _ _ (s.bs b ob n e),λj hj=>(t j hj).trans (s.st j hj)}
def SC.put {A:Hp->Prop}{A':Hp->Prop}(h0:C.H0 a=ξ)(ha:H1 a=ξ){β:a6}{σ:St}{H:Hp}{own:Nat->List θ}{oa ob:HO}(s:SC X C W0 T σ0 H1 a Hb Wb A β σ H own)(e:H a=ν oa)(nt:∀xs,oa≠.tup xs)(q:A' (upd H a ob)):
  SC X C W0 T σ0 H1 a Hb Wb A' β σ (upd H a ob) own:=by
 refine{s.sq.FR e nt h0,{s.sn.w,s.sn.k.trans ((kK e nt).mono λb z=>.inr (by rw[z];exact ha)),λb z e=>?_},s.le,q,λb o e=>?_,λb o n e=>?_,s.st}
 ·by_cases hb:b=a
  ·rw[hb,ao]at e;cases e
  ·rw[aw hb]at e;exact s.sn.d b z e
 ·rw[aw (λz'=>by rw[z',ha]at e;cases e)]
  exact s.pu b o e
 ·rw[aw n];exact s.bs b o n e
def Q_ (P:ZN)(w:Z4)(H1:Hp)(a:θ)(o:List D)(H:Hp):Prop:=∃vs A,H a=ν (.lst vs)/\aK P w H o vs A/\A.Nodup/\∀c∈A,H1 c=ξ/\c≠a
def xx {P:ZN}{w:Z4}:xH a (Q_ P w H1 a):=⟨λo H H' s h=>by
  obtain⟨vs,A,h1,h2,h3,h4⟩:=h;exact{vs,A,s _ _ h1,h2.keep (λb xs e=>s _ _ e) λc _ oc e=>s _ _ e,h3,h4},λo H xs h z=>by
  obtain⟨vs,A,h1,_⟩:=h;rw[h1]at z;cases z⟩
def IV (φ:aM)(o:List D)(β:a6)(N:a6->List D->Prop):Prop:=φ β λx kx β3=>Fb kx x/\o.length<Z3/\N β3 (o++[x])
def FT (h0:C.H0 a=ξ)(ha:H1 a=ξ)(φm:∀β R R',(∀d k β,R d k β->R' d k β)->φ β R->φ β R'){β:a6}{o:List D}{σ:St}{H:Hp}{N:a6->List D->Prop}(s:sG X C W0 T σ0 H1 a Hb Wb (Q_ X.prog X.w H1 a) β o σ H)(q:IV φ o β N):
  Vn X C a φ (λσ' H'=>∃β' o',sG X C W0 T σ0 H1 a Hb Wb (Q_ X.prog X.w H1 a) β' o' σ' H'/\N β' o') σ H:=by
 obtain⟨own,s⟩:=s;refine{β,own,s.sq,φm _ _ _ (λxd kx β6 fA v H6 CK o6 r6=>?_) q};obtain⟨f,hz,q⟩:=fA;obtain⟨sm,rfl⟩:=o6.pu rfl;have s6:=s.next xx (o6.sq) (λ_ z=>z) sm (λ_ _=>rfl)
 obtain⟨B',r1,r2,r3⟩:=r6.fl f;obtain⟨vs,A,at',os,nd,nw⟩:=s.ac;have uI:H6 a=ν (.lst vs):=sm _ _ at';have N1:∀c∈B',c≠a:=λc hc z=>by rw[z]at hc;exact Η (at'.symm.trans (r3 a hc).1) (λz=>(nomatch z))
 have kt:∀b xs,H6 b=ν (.tup xs)->upd H6 a (.lst (vs++[v])) b=ν (.tup xs):=λb xs z=>by rw[aw (λz'=>by rw[z',uI]at z;cases z)];exact z
 refine{vs,uI,by rw[os.length];exact hz,β6,o++[xd],{CK,s6.put h0 ha uI (λxs z=>by cases z) {vs++[v],A++B',ao,?_,?_,λc hc=>?_}},q}
 ·exact(os.keep (λb xs e=>kt b xs (sm _ _ e)) λc hc oc e=>by rw[aw (nw c hc).2];exact sm _ _ e).append (aK.one (r1.keep kt λc hc oc e=>by rw[aw (N1 c hc)];exact e))
 ·refine aaz.mpr {nd,r2,λx hx y hy e=>?_};subst e;exact(os.oZ x hx).1 (r3 x hy).1
 ·rcases ZT.mp hc with hc|hc
  ·exact nw c hc
  ·exact{s.sn.free (r3 c hc).1,N1 c hc}
def iC {α:Type}(γ:cJ)(τ:aV)(Af:α->a6->(a6->α->Prop)->Prop)(ds:List D)(k:Kd)(β0:a6)(o0:α)(F:a6->α->Prop):Prop:=∃I:Nat->a6->α->Prop,I 0 β0 o0 /\
 (∀i d β o,ds[i]?=ν d->I i β o->γ d (sk k d) β λβ1=>τ β1 λt β2=>if t=ζ then Af o β2 (I (i+1)) else I (i+1) β2 o)/\∀β o,I ds.length β o->F β o
def iC.mono {Af:α->a6->(a6->α->Prop)->Prop}{ds:List D}{k:Kd}{β0:a6}{o0:α}{F F':a6->α->Prop}(h:∀β o,F β o->F' β o)(q:iC γ τ Af ds k β0 o0 F):iC γ τ Af ds k β0 o0 F':=by
 obtain⟨I,h0,h1,h2⟩:=q;exact{I,h0,h1,λβ o z=>h _ _ (h2 β o z)}
def xX (hA:xH a Ac)(hT:∀j∈Tg,j∈T)(γm:∀d k β R R',(∀r,R r->R' r)->γ d k β R->γ d k β R')(τm:∀β R R',(∀d β,R d β->R' d β)->τ β R->τ β R'){J:It}{ds:List D}{k:Kd}{Af:α->a6->(a6->α->Prop)->Prop}{ta:l8}{F:a6->α->Prop}{End:St->Hp->Prop}{β0:a6}{o0:α}{σ1:St}{Hs:Hp}
  (it:∀i β o σ' H',sG X C W0 T σ0 H1 a Hb Wb Ac β o σ' H'->(∀d,ds[i]?=ν d->J.go i H'/\∀x H3,J.MX i H' x H3->au H' H3/\∀own,(∀c,Wn own c->Wb c)->az X.prog X.w (gk (C.u λc=>c=a) (Wn own) k) H3 d x)/\(ds.length<=i->J.stop i H'))
  (OG:∀β o σ' H' N,sG X C W0 T σ0 H1 a Hb Wb Ac β o σ' H'->Af o β N->ta (λBq EY=>∃β' o',sG X C W0 T σ0 H1 a Hb Wb Ac β' o' Bq EY/\N β' o') σ' H')
  (s0:sG X C W0 T σ0 H1 a Hb Wb Ac β0 o0 σ1 Hs) (q:iC γ τ Af ds k β0 o0 F) (fin:∀β o σ' H',sG X C W0 T σ0 H1 a Hb Wb Ac β o σ' H'->F β o->End σ' H') :
  fo J (FE X C a Tg γ) (iO X (C.u λc=>c=a) ζ τ) ta End σ1 Hs:=by
 obtain⟨I,i0,i1,i2⟩:=q;refine{λi m σ' H'=>i<=ds.length/\m=ds.length-i/\∃β o,sG X C W0 T σ0 H1 a Hb Wb Ac β o σ' H'/\I i β o,{_,ZW _,rfl,β0,o0,s0,i0},?_};rintro i m σ2 H2 ⟨hi,rfl,β,o,sE,hl⟩;obtain⟨bQ,iD⟩:=it i β o σ2 H2 sE
 by_cases d3:i<ds.length
 ·right
  have hd:ds[i]?=ν ds[i]:=ZU d3;obtain⟨go,yl⟩:=bQ _ hd;refine{go,λσ' H'=>∃β' o',sG X C W0 T σ0 H1 a Hb Wb Ac β' o' σ' H'/\I (i+1) β' o',λσ' H' h=>{_,by omega,d3,rfl,h},λx H3 y=>?_}
  obtain⟨s3,r3⟩:=yl x H3 y;obtain⟨own,s⟩:=sE;refine{own,β,_,_,s.sq.same s3,rD (r3 own s.le),γm _ _ _ _ _ (λβ4 q σ4 tV s4 w4 t4=>?_) (i1 i _ β o hd hl)};have Xe:=s.next hA s4 w4 s3 λj hj=>t4 j λz=>hj (hT j z)
  refine{β4,tV,s4,τm _ _ _ (λt β5 q H5 jC o5=>?_) q};obtain⟨Rz,rfl⟩:=o5.pu rfl;have Vv:=Xe.next hA o5.sq (λ_ z=>z) Rz λ_ _=>rfl
  cases t with
  |false=>exact{β5,o,{_,Vv},q}
  |true=>exact OG β5 o σ4 H5 _ {_,Vv} q
 ·left
  have e:i=ds.length:=by omega
  subst e;exact{iD (ZG _),fin β o σ2 H2 sE (i2 β o hl)}
def C3 {α:Type}(ι:bS)(γ:cJ)(τ:aV)(Af:α->a6->(a6->α->Prop)->Prop)(o:α)(β:a6)(N:a6->α->Prop):Prop:=ι β λds k β1=>iC γ τ Af ds k β1 o N
def xW (hA:xH a Ac){ι:bS}(hT:∀j∈Tg,j∈T)(γm:∀d k β R R',(∀r,R r->R' r)->γ d k β R->γ d k β R')(τm:∀β R R',(∀d β,R d β->R' d β)->τ β R->τ β R'){Af:α->a6->(a6->α->Prop)->Prop}{ta:l8}
  (OG:∀Hb Wb β o σ' H' N,sG X C W0 T σ0 H1 a Hb Wb Ac β o σ' H'->Af o β N->ta (λBq EY=>∃β' o',sG X C W0 T σ0 H1 a Hb Wb Ac β' o' Bq EY/\N β' o') σ' H')
  (ιm:∀β R R',(∀d k β,R d k β->R' d k β)->ι β R->ι β R') {β:a6} {o:α} {σ:St} {H:Hp} {N:a6->α->Prop} (s:sG X C W0 T σ0 H1 a Hb Wb Ac β o σ H) (q:C3 ι γ τ Af o β N) :
  ∃β own,SQ X (C.u λc=>c=a) σ H β own/\ι β λds k β'=>∀J H',au H H'->SQ X (C.u λc=>c=a) σ H' β' own->vN X (gk (C.u λc=>c=a) (Wn own) k) J ds H' ->
   fo J (FE X C a Tg γ) (iO X (C.u λc=>c=a) ζ τ) ta (λσ' H'=>∃β' o',sG X C W0 T σ0 H1 a Hb Wb Ac β' o' σ' H'/\N β' o') σ H':=by
 obtain⟨own,s⟩:=s;refine{β,own,s.sq,ιm _ _ _ (λds k β1 q J H' sm sq XS=>?_) q};have s1:=s.next hA sq (λ_ z=>z) sm λ_ _=>rfl
 have hu:gk (C.u λc=>c=a) (Wn own) k a:=.inr rfl;refine xX (Hb:=H') (Wb:=Wn own) hA hT γm τm (λi βx ox σx Hx sx=>?_) (λβx ox σx Hx Nx sx qx=>OG _ _ _ _ _ _ _ sx qx) {own,{s1.sq,s1.sn,λ_ z=>z,s1.ac,s1.pu,λ_ _ _ e=>e,s1.st}} q λβx ox σx Hx sx hx=>?_
 ·obtain⟨Gg,sx⟩:=sx;have kp:Kp (λb=>gk (C.u λc=>c=a) (Wn own) k b\/H' b=ξ) H' Hx:={λb ob e n=>sx.bs b ob (λz=>n (.inl (by rw[z];exact hu))) e,λb xs e=>sx.bs b _ (λz=>hA.NX _ _ _ s1.ac (by rw[<- z];exact e)) e}
  obtain⟨g1,g2⟩:=XS (λb=>gk (C.u λc=>c=a) (Wn own) k b\/H' b=ξ) (λb z=>z) i Hx kp;refine{λd hd=>?_,g2};obtain⟨go,yl⟩:=g1 d hd;refine{go,λx H3 y=>?_};obtain⟨s3,r3⟩:=yl x H3 y;exact{s3,λaR SJ=>az.aZ (λb z=>.inl (jZ SJ k b z)) r3}
 ·obtain⟨Gg,sx⟩:=sx;exact{βx,ox,{Gg,{sx.sq,sx.sn,λc z=>s.le c (sx.le c z),sx.ac,sx.pu,λb ob n e=>sx.bs b ob n (s1.bs b ob n e),sx.st}},hx}
def jq {lk:List (Option Nat)}{σ:St}{β:a6}{own:Nat->List θ}{oa:HO}(hA:xH a Ac){Af:α->a6->(a6->α->Prop)->Prop}{ta:l8}{J:It}{ds:List D}{k:Kd}{o0:α}{K:α->Prop}{End:Hp->Prop}
  (γm:∀d k β R R',(∀r,R r->R' r)->γ d k β R->γ d k β R') (τm:∀β R R',(∀d β,R d β->R' d β)->τ β R->τ β R') (Yw:∀j∈Tg,j∈T)
  (inj:∀(i i' j:Nat),lk[i]?=ν (ν j)->lk[i']?=ν (ν j)->i=i') (hT:∀i∈T,∀j,lk[i]?≠ν (ν j))
  (s1:SQ X C σ H1 β own) (ha:H1 a=ξ) (hk:hold k η) (it:vN X (av C (Wn own) k) J ds H1) (a0:Ac o0 (upd H1 a oa)) (ent:SQ X (C.u λc=>c=a) (dv lk σ) (upd H1 a oa) (bR lk β) (bh lk β own))
  (OG:∀Hb Wb β' o σ' H' N,C.H0 a=ξ->sG X C (Wn (bh lk β own)) T (dv lk σ) H1 a Hb Wb Ac β' o σ' H'->Af o β' N->ta (λBq EY=>∃β' o',sG X C (Wn (bh lk β own)) T (dv lk σ) H1 a Hb Wb Ac β' o' Bq EY/\N β' o') σ' H')
  (q:iC γ τ Af ds k (bR lk β) o0 λβf o=>dw (bR lk β) βf/\K o)
  (fin:∀o H',K o->Out X C σ H1 own ζ β H' own->Ac o H'->End H') :
  fo J (FE X C a Tg γ) (iO X (C.u λc=>c=a) ζ τ) ta (λ_ H'=>End H') (dv lk σ) (upd H1 a oa):=by
 have h0:C.H0 a=ξ:=aax λz=>s1.iI a z ha;have sm:au H1 (upd H1 a oa):=au.new ha;refine xX (W0:=Wn (bh lk β own)) (T:=T) (σ0:=dv lk σ) (H1:=H1) (Hb:=H1) (Wb:=Wn (bh lk β own)) hA Yw γm τm (λi βx ox σx Hx sx=>?_) (λβx ox σx Hx Nx sx qx=>OG _ _ _ _ _ _ _ h0 sx qx)
  {bh lk β own,{ent,{λb z=>.inl z,sm.kp,λb z e=>z (sm.free e)},λ_ z=>z,a0,sm,λb ob n e=>sm _ _ e,λ_ _=>rfl}} q λβx ox σx Hx sx hx=>?_
 ·obtain⟨Gg,sx⟩:=sx;have kI:Kp (λb=>av C (Wn own) k b\/H1 b=ξ) H1 Hx:=sx.pu.kp;obtain⟨g1,g2⟩:=it (λb=>av C (Wn own) k b\/H1 b=ξ) (λb z=>z) i Hx kI;refine{λd hd=>?_,g2};obtain⟨go,yl⟩:=g1 d hd;refine{go,λx H3 y=>?_};obtain⟨s3,r3⟩:=yl x H3 y;exact{s3,λaR SJ=>az.aZ (λc z=>z.elim (λz=>.inl (mM (λc z=>bt c (SJ c z)) k c z)) λz=>.inr (by rw[z];exact ha)) r3}
 ·obtain⟨Gg,sx⟩:=sx;obtain⟨hh,hK⟩:=hx;have lv:SQ X C σ Hx β own:=s1.leave sx.sq sx.sn sx.le hh λj ok i' e1 e2=>sx.st i' λz=>hT i' z j e2;exact fin ox Hx hK {lv,{λb z=>.inl z,sx.sn.k.mono λb z=>z.imp (bt b) id,sx.sn.d},λz=>{(sx.pu),rfl},λ_ z=>z} sx.ac
end
def Mo {X:Cx}{C:Cfg}{σ:St}{H1 H':Hp}{β:a6}{own:Nat->List θ}{a:θ}{o:List D}(s1:SQ X C σ H1 β own)(ha:H1 a=ξ)(h:Q_ X.prog X.w H1 a o H'):KV X.prog X.w C (H1,Wn own) own H' .own (.lst o) (.ref a):=by
 obtain⟨vs,A,at',os,nd,nw⟩:=h;refine{a::A,{(a),vs,A,rfl,at',rfl,os},aac.mpr {λz=>(nw a z).2 rfl,nd},λc hc=>?_};have pF:H1 c=ξ:=by
  rcases ZI.mp hc with rfl|hc
  ·exact ha
  ·exact(nw c hc).1
 exact{pF,λh=>by obtain⟨j,hj⟩:=h;exact(s1.dm j c hj).1 pF,aax λz=>s1.iI c z pF}
def JY (lk:List (Option Nat))(ι:bS)(γ:cJ)(τ:aV)(ι2:bS)(γ2:cJ)(τ2:aV)(φ:aM):aM:=λβ R=>ι β λds k β1=>hold k η/\iC γ τ (C3 ι2 γ2 τ2 (IV φ)) ds k (bR lk β1) [] λβf o=>dw (bR lk β1) βf/\R (.lst o) .own β1
section
variable {X:Cx}{C:Cfg}{lk:List (Option Nat)}{γ γ2:cJ}{τ τ2:aV}{φ:aM}{T T2:List Nat}
variable {scope:acj}{tg bQ oX iD elt:Expr}{ifs fz:List Expr}{ι ι2:bS}{pi:Bool}{pos:Pos}{i:Nat}
def XJ (N':List Str)(lk:List (Option Nat))(L:fg X.env.scope.names X.N scope N' lk=ζ)(lL:N'.Nodup)(hc:X.calm=ζ)(hi:vA X C pi tg bQ ι)
  (lK:∀a cl c s H ex,vB (ar X scope N' cl c s H ex) (C.u λc=>c=a) tg T γ) (f_:∀a cl c s H ex,l9 (ar X scope N' cl c s H ex) (C.u λc=>c=a) ζ ifs τ)
  (Hf:∀a cl c s H ex,QX (ar X scope N' cl c s H ex) (C.u λc=>c=a) oX iD ι2)
  (DA:∀a cl c s H ex,vB (ar X scope N' cl c s H ex) (C.u λc=>c=a) oX T2 γ2) (Dz:∀a cl c s H ex,l9 (ar X scope N' cl c s H ex) (C.u λc=>c=a) ζ fz τ2)
  (jP:∀a cl c s H ex,PQ (ar X scope N' cl c s H ex) (C.u λc=>c=a) ζ elt φ) (hT:(T++T2).all (λi=>match lk[i]? with|some (ν _)=>η|_=>ζ)=ζ:=by rfl)
  (hs:∀x,aay bQ X.env x=pure x:=by intro _;rfl) (qD:∀cl c s H ex x,aay iD (ar X scope N' cl c s H ex).env x=pure x:=by intro _ _ _ _ _ _;rfl):PQ X C pi (.ListComp elt [{tg,bQ,ifs,0},{oX,iD,fz,0}] scope pos) (JY lk ι γ τ ι2 γ2 τ2 φ):=by
 have L:=Links.of L;have AB:∀i∈T++T2,∀j,lk[i]?≠ν (ν j):=λi hi j e=>by
  have:=abq.mp hT i hi;rw[e]at this;cases this
 have ax:θ:=0;have ZA:List (Str×θ):=[];have γm:=(lK 0 [] 0 X.s₀ X.H₀ []).mono;have τm:=(f_ 0 [] 0 X.s₀ X.H₀ []).mono;have Jk:=(DA 0 [] 0 X.s₀ X.H₀ []).mono;have Jj:=(Dz 0 [] 0 X.s₀ X.H₀ []).mono;have φm:=(jP 0 [] 0 X.s₀ X.H₀ []).mono;have ιm:=(Hf 0 [] 0 X.s₀ X.H₀ []).mono;refine{λβ R R' k h=>hi.mono β _ _ (λds kd β1 q=>{q.1,q.2.mono λ_ _ z=>{z.1,k _ _ _ z.2}}) h,?_};refine(eF (g:={tg,bQ,ifs,0}) (gs:=[{oX,iD,fz,0}]) (tg:=λa=>FE X C a T γ) (tt:=λa=>iO X (C.u λc=>c=a) ζ τ)
  (ta:=λa N σ H=>∃β own,SQ X (C.u λc=>c=a) σ H β own/\ι2 β λds k β'=>∀J H',au H H'->SQ X (C.u λc=>c=a) σ H' β' own->vN X (gk (C.u λc=>c=a) (Wn own) k) J ds H' ->
   fo J (FE X C a T2 γ2) (iO X (C.u λc=>c=a) ζ τ2) (Vn X C a φ) N σ H')
  L hc gC rfl rfl (λ_ _=>Mf) hi.pi (λa cl c s H ex=>{(lK a cl c s H ex).pg,(f_ a cl c s H ex).pt,yt (X:=ar X scope N' cl c s H ex) (g':={oX,iD,fz,0}) rfl hc Me (Hf a cl c s H ex).pi (DA a cl c s H ex).pg (Dz a cl c s H ex).pt (gB (X:=ar X scope N' cl c s H ex) rfl (jP a cl c s H ex).pe) (qD cl c s H ex)}) hs).pre λσ H Q h=>?_
 obtain⟨β,own,s,h⟩:=h;refine{β,own,s,hi.mono β _ _ (λds k β1 h J H1 aC o1 it a ha=>?_) h};obtain⟨hk,q⟩:=h;refine jq (T:=T++T2) (xx (P:=X.prog) (w:=X.w) (H1:=H1)) γm τm (λj hj=>aaA _ hj) (bw L lL) AB o1.sq ha hk it {[],[],ao,(show aK _ _ _ [] [] [] from {(rfl),rfl}),aaH,λc hc=>(nomatch hc)} (o1.sq.enter ha (bw L lL))
  (λHb Wb βx ox σx Hx Nx h0 sx qx=>xW xx (λj hj=>aaa _ hj) Jk Jj (λHb Wb βy oy σy Hy Ny sy qy=>FT h0 ha φm sy qy) ιm sx qx) q λo H' q o2 r=>?_
 refine q _ _ aC {o2.sq,o1.sn.trans o2.sn,λz=>{(o1.pu z).1.trans (o2.pu rfl).1,(o1.pu z).2},o1.le} ((Mo o1.sq ha r).later o1.sn)
end
end L2.Q
namespace L2
open PySem PySem.Spec PySem.SeqAt PyProof.Rows
section
variable {X:Cx}
def Ae:ll X newDict (.dT []) :=
 {λμ s σ H Q E I h=>abN (h _ _ (ZG _) I.fresh (λb o e=>ZM _ e) (I.laid (t':=s.toks) (λ_ _ q=>ZM _ q) (ZG _) (En _ I.big)))}
def CI {k v:Expr}{tk tv:TE}{a:θ}(hx:X.xe=λ_ _=>False)(hu:X.A.units<abx)(hk:PE X k tk)(hv:PE X v tv):
  pS X (gv (Ej k v (.ref a) X.env)) (λN σ H=>tk σ H λy H1=>tv σ H1 λv H2=>∃kvs key b,H2 a=ν (.dT kvs)/\y=.ref b/\H2 b=ν (.tup (key.map kV))/\kvs.length<Z3/\N σ (upd H2 a (.dT (putK kvs key v)))):=by
 intro μ s σ H N kk Q E I h hN;unfold gv Ej;refine ZD (ZD (bP (dY hx (hk μ s σ H _ I h)) λu s1 fA=>?_));obtain⟨y,H1,I1,r1,q⟩:=fA;refine ZD (aa6 (bP (dY hx (hv μ s1 σ H1 _ I1 q)) λw' s2 n9=>?_));obtain⟨v,H2,I2,r2,kvs,key,b,e,ey,eb,l,q2⟩:=n9;subst ey;cases (show u=Φ b from r1)
 refine ZD (abR (aa6 ?_));obtain⟨z,hd,xs,rel,dd⟩:=PJ I2.bp e;have hz:xs.length<=Z3:=by rw[<- Paired.length rel];exact z
 have hl:(putK kvs key v).length<=Z3:=by have:=uv kvs key v;lia
 refine wpAny_dictSet_heap (hsz:=hz) (knd:=adb (cC X.prog X.w)) hu (wR I2.bp eb) dd λh' YL hs=>hN σ _ _ ?_ q2;obtain⟨q,es,ep,hq,h2,h3,h4,_,h5⟩:=YL;refine Hz I2 (by rw[e];exact abK) hs {(q),hq} {hl,hd,_,(rel.put key eb r2).keeps λc ys ec=>?_,q,es,ep,hq,h2,h3,h4,h5}
 rw[aw (Im ec e (λz=>nomatch z))];exact ec
end
end L2
namespace L2.Q
open PySem PySem.Spec PySem.SeqAt PyProof.Rows
def Vl (P:ZN)(w:Z4)(a:θ)(o:List (List Int×D))(H:Hp):Prop:=∃vs,H a=ν (.dT ((o.map λp=>iK p.1).zip vs))/\aK P w H (o.map (·.2)) vs []
def EV {P:ZN}{w:Z4}{a:θ}:xH a (Vl P w a):=⟨λo H H' s h=>by
  obtain⟨vs,h1,h2⟩:=h;exact{vs,s _ _ h1,h2.keep (λb xs e=>s _ _ e) λc hc=>(nomatch hc)},λo H xs h z=>by
  obtain⟨vs,h1,_⟩:=h;rw[h1]at z;cases z⟩
abbrev Vo (X:Cx)(C:Cfg)(a:θ)(φk φ:aM):l8:=λN σ H=>tQ X (C.u λc=>c=a) ζ φk σ H λy H1=>tQ X (C.u λc=>c=a) ζ φ σ H1 λv H2=>∃kvs key b,H2 a=ν (.dT kvs)/\y=.ref b/\H2 b=ν (.tup (key.map kV))/\kvs.length<Z3/\N σ (upd H2 a (.dT (putK kvs key v)))
def Ei (φk φ:aM)(o:List (List Int×D))(β:a6)(N:a6->List (List Int×D)->Prop):Prop:=φk β λkd _ β2=>φ β2 λx _ β3=>∃t,kd=.tup (t.map D.int)/\x.flat=ζ/\lR o t=ξ/\o.length<Z3/\N β3 (o++[(t,x)])
section
variable {X:Cx}{C:Cfg}{W0:θ->Prop}{T:List Nat}{σ0:St}{H1:Hp}{a:θ}{Hb:Hp}{Wb:θ->Prop}{φ φk:aM}
def Cb (h0:C.H0 a=ξ)(ha:H1 a=ξ)(Ji:∀β R R',(∀d k β,R d k β->R' d k β)->φk β R->φk β R')(φm:∀β R R',(∀d k β,R d k β->R' d k β)->φ β R->φ β R'){β:a6}{o:List (List Int×D)}{σ:St}{H:Hp}{N:a6->List (List Int×D)->Prop}(s:sG X C W0 T σ0 H1 a Hb Wb (Vl X.prog X.w a) β o σ H)(q:Ei φk φ o β N):
  Vo X C a φk φ (λσ' H'=>∃β' o',sG X C W0 T σ0 H1 a Hb Wb (Vl X.prog X.w a) β' o' σ' H'/\N β' o') σ H:=by
 obtain⟨own,s⟩:=s;refine{β,own,s.sq,Ji _ _ _ (λkd kk β5 q v5 H5 jC o5 r5=>?_) q};obtain⟨Rz,rfl⟩:=o5.pu rfl;refine{β5,_,o5.sq,φm _ _ _ (λxd kx β6 wZ v H6 CK o6 r6=>?_) q};obtain⟨t,e1,f,hn,hz,q2⟩:=wZ;obtain⟨sm,rfl⟩:=o6.pu rfl;have s6:=s.next EV o6.sq (λ_ z=>z) (Rz.trans sm) (λ_ _=>rfl)
 subst e1;obtain⟨b,us,rfl,hb,rt⟩:=r5.rep;rw[L2.bK rt]at hb;obtain⟨vs,at',os⟩:=s6.ac;have Xj:Own X.prog X.w H6 xd v []:=dq f r6.rep;have l:(o.map λp=>iK p.1).length=vs.length:=by rw[ZE,os.length,ZE]
 have LD:putK ((o.map λp=>iK p.1).zip vs) (iK t) v=((o++[(t,xd)]).map λp=>iK p.1).zip (vs++[v]):=by
  rw[Cn v (Jw os hn),aag,List.zip_append l];rfl
 have kt:∀c xs,H6 c=ν (.tup xs)->upd H6 a (.dT (putK ((o.map λp=>iK p.1).zip vs) (iK t) v)) c=ν (.tup xs):=λc xs z=>by rw[aw (λz'=>by rw[z',at']at z;cases z)];exact z
 refine{_,iK t,b,at',rfl,by rw[IC];exact sm _ _ hb,by rw[List.length_zip,<- l,Nat.min_self,ZE];exact hz,β6,o++[(t,xd)],{_,s6.put h0 ha at' (λxs z=>by cases z) {vs++[v],by rw[ao,LD],?_}},q2}
 rw[aag];exact(os.keep kt (A:=[]) λc hc=>by cases hc).append (aK.one (Xj.keep kt (A:=[]) λc hc=>by cases hc))
end
def JX (lk:List (Option Nat))(ι:bS)(γ:cJ)(τ:aV)(φk φ:aM):aM:=λβ R=>ι β λds k β1=>hold k η/\iC γ τ (Ei φk φ) ds k (bR lk β1) [] λβf o=>dw (bR lk β1) βf/\R (dA o) .own β1
section
variable {X:Cx}{C:Cfg}{lk:List (Option Nat)}{γ:cJ}{τ:aV}{φ φk:aM}{T:List Nat}
variable {scope:acj}{tg bQ ke elt:Expr}{ifs:List Expr}{ι:bS}{pi:Bool}{pos:Pos}{i:Nat}
def YM (hu:X.A.units<abx)(N':List Str)(lk:List (Option Nat))(L:fg X.env.scope.names X.N scope N' lk=ζ)(lL:N'.Nodup)(hc:X.calm=ζ)(hi:vA X C pi tg bQ ι)
  (lK:∀a cl c s H ex,vB (ar X scope N' cl c s H ex) (C.u λc=>c=a) tg T γ) (f_:∀a cl c s H ex,l9 (ar X scope N' cl c s H ex) (C.u λc=>c=a) ζ ifs τ)
  (Wf:∀a cl c s H ex,PQ (ar X scope N' cl c s H ex) (C.u λc=>c=a) ζ ke φk) (jP:∀a cl c s H ex,PQ (ar X scope N' cl c s H ex) (C.u λc=>c=a) ζ elt φ) (hT:T.all (λi=>match lk[i]? with|some (ν _)=>η|_=>ζ)=ζ:=by rfl)
  (hs:∀x,aay bQ X.env x=pure x:=by intro _;rfl):PQ X C pi (.DictComp ke elt [{tg,bQ,ifs,0}] scope pos) (JX lk ι γ τ φk φ):=by
 have L:=Links.of L;have AB:∀i∈T,∀j,lk[i]?≠ν (ν j):=λi hi j e=>by
  have:=abq.mp hT i hi;rw[e]at this;cases this
 have γm:=(lK 0 [] 0 X.s₀ X.H₀ []).mono;have τm:=(f_ 0 [] 0 X.s₀ X.H₀ []).mono;have φm:=(jP 0 [] 0 X.s₀ X.H₀ []).mono;have Ji:=(Wf 0 [] 0 X.s₀ X.H₀ []).mono;refine{λβ R R' k h=>hi.mono β _ _ (λds kd β1 q=>{q.1,q.2.mono λ_ _ z=>{z.1,k _ _ _ z.2}}) h,?_};refine(eF (g:={tg,bQ,ifs,0}) (gs:=[]) (tg:=λa=>FE X C a T γ) (tt:=λa=>iO X (C.u λc=>c=a) ζ τ) (ta:=λa=>Vo X C a φk φ)
  L hc Ae rfl rfl (λ_ _=>P0) hi.pi (λa cl c s H ex=>{(lK a cl c s H ex).pg,(f_ a cl c s H ex).pt,CI (X:=ar X scope N' cl c s H ex) rfl hu (Wf a cl c s H ex).pe (jP a cl c s H ex).pe}) hs).pre λσ H Q h=>?_
 obtain⟨β,own,s,h⟩:=h;refine{β,own,s,hi.mono β _ _ (λds k β1 h J H1 aC o1 it a ha=>?_) h};obtain⟨hk,q⟩:=h;refine jq (T:=T) (EV (P:=X.prog) (w:=X.w)) γm τm (λj hj=>hj) (bw L lL) AB o1.sq ha hk it {[],ao,(show aK _ _ _ [] [] [] from {(rfl),rfl})} (o1.sq.xl (λxs z=>by cases z) ha (bw L lL))
  (λHb Wb βx ox σx Hx Nx h0 sx qx=>Cb h0 ha Ji φm sx qx) q λo H' q o2 r=>?_
 refine q _ _ aC {o2.sq,o1.sn.trans o2.sn,λz=>{(o1.pu z).1.trans (o2.pu rfl).1,(o1.pu z).2},o1.le} ?_;obtain⟨vs,at',os⟩:=r;refine{[a],Kh at' os,by simp,λc hc=>?_}
 rw[ZJ.mp hc];exact{aax λz=>o1.sn.d a z ha,λh=>by obtain⟨j,hj⟩:=h;exact(o1.sq.dm j a hj).1 ha,aax λz=>o1.sq.iI a z ha}
end
section
variable {X:Cx}{C:Cfg}{e a:Expr}{φ:aM}{p:Bool}{pos p2 p3 p4:Pos}{j:Nat}
def Ga {te:TE}(he:PE X e te):PE X (.Subscript e (.Slice ξ ξ (ν (.UnaryOp .USub (.Constant (.int 1) j p3) p4)) p2) pos) (λσ H Q=>te σ H λx H1=>∃a xs,x=.ref a/\H1 a=ν (.lst xs)/\∀p,H1 p=ξ->Q (.ref p) (upd H1 p (.lst xs.reverse))):=by
 intro μ s σ H Q I h;refine Subscript_ (bP (he μ s σ H _ I h) λv s1 fA=>?_);obtain⟨x,H1,I1,r1,q1⟩:=fA;refine wpAny_Slice ?_;rw[evalPart_none];refine ZL (ZL ?_);rw[evalPart_some];refine bP (Ig (X:=X) (pos:=p4) BF (bj (i:=1) (j:=j) (pos:=p3)) μ s1 σ H1 (λv H'=>v=.int (-1)/\H'=H1) I1 {1,rfl,rfl,rfl}) λu s3 n9=>?_;obtain⟨y,H3,I3,r3,ey,eH⟩:=n9;subst ey eH;obtain⟨tk,rfl⟩:=(show ∃t,u=Value.int (-1) t from r3)
 have I4:Inv X μ σ H3 {s3 with heap:=s3.heap.push {cls:=.type "slice",data:=.fields #[.none,.none,.int (-1) tk]}}:=I3.kept (t':=s3.toks) λb ob q=>ZM _ q
 have ME:(s3.heap.push {cls:=.type "slice",data:=.fields #[.none,.none,.int (-1) tk]}).IsSliceOf s3.heap.objs.size .none .none (.int (-1) tk):=Heap.IsSliceOf.new ..
 generalize XZ:({s3 with heap:=s3.heap.push {cls:=.type "slice",data:=.fields #[.none,.none,.int (-1) tk]}}:ZH)=s4 at I4 ⊢
 have Te:s4.heap.IsSliceOf s3.heap.objs.size .none .none (.int (-1) tk):=by rw[<- XZ];exact ME
 have main:∃T id,typeLookup (.type T) "__getitem__" = pure (ν (.builtin id))/\s4.TypeIs v T/\aab (Ψ X.prog X.w) X.A (getItem v (.ref s3.heap.objs.size)) (EP X μ σ Q) X.xe s4:=by
  obtain⟨a,xs,rfl,hx,q⟩:=q1;cases (show v=Φ a from r1)
  obtain⟨its,r,ht,hz⟩:=I4.list (dJ.of hx);have hlen:=r.length;refine{"list",_,slot_list_getitem.lookup,ht.isList.typeIs,?_};refine wpAny_getItem_list_slice ht.isList Te .none .none (.int (-1) tk) (by simp) ?_ (by rw[aaf] <;> lia)
  rw[HT.pj];refine{.ref s4.heap.objs.size,_,I4.laid (t':=s4.toks) (o:=.lst xs.reverse) (λb ob q=>ZM _ q) (ZG _) ?_,rfl,q _ (I4.bp.fresh (ZG _))};exact{by rw[List.length_reverse];lia,_,0,by simpa using Vals.rev r,Z8 _ rfl}
 obtain⟨T,id,hT,ht,hg⟩:=main;show aab (Ψ X.prog X.w) X.A (subscriptTail e (.Slice ξ ξ (ν (.UnaryOp .USub (.Constant (.int 1) j p3) p4)) p2) v (.ref s3.heap.objs.size)) (EP X μ σ Q) X.xe s4;exact tail_any (ops:=[v,.ref s3.heap.objs.size]) ht hT hg (by with_unfolding_all rfl)
def PK:D->Option D
 |.lst ds=>ν (.lst ds.reverse)
 |_=>ξ
def Nq (φ:aM):aM:=λβ R=>φ β λx k β1=>∃d,PK x=ν d/\kN NL d k.wk λk'=>R d k' β1
def F8 {j:Nat}(ha:PQ X C p a φ):PQ X C p (.Subscript a (.Slice ξ ξ (ν (.UnaryOp .USub (.Constant (.int 1) j p3) p4)) p2) pos) (Nq φ) :=
 ⟨λβ R R' k h=>ha.mono β _ _ (λx kx β1 h=>by obtain⟨d,e,q⟩:=h;exact{d,e,q.mono λ_ z=>k _ _ _ z}) h,
  (Ga ha.pe).pre λσ H Q h=>by
    obtain⟨β,own,s,h⟩:=h;refine tQ.of ha s h λd k β1 v H1 aC h o1 r1=>?_;obtain⟨d',e,q⟩:=h;have rr:=az.aZ EO r1.rep;cases d with
    |lst ds =>
      cases e;obtain⟨c,vs,rfl,h1,n1,rs⟩:=rr;refine{c,vs,rfl,h1,λp hp=>?_};have sm:au H1 (upd H1 p (.lst vs.reverse)):=au.new hp;have hw:¬ av C (Wn aC) k.wk p:=λz=>o1.sq.Er _ p z hp;have r2:az X.prog X.w (av C (Wn aC) k.wk) (upd H1 p (.lst vs.reverse)) (.lst ds.reverse) (.ref p):={p,_,rfl,ao,hw,(ai.rev rs).same sm};obtain⟨k',q,r⟩:=KV.kN (Z:=(H,Wn own)) H4 r2 (λn=>jA (H:=H1) o1.sq.AQ o1.sq.iI (λa z e=>o1.sn.d a z e) n {p,_,rfl,ao,λz=>z hp,ai.flat n ((ai.rev rs).same sm)}) q;exact q _ _ aC (o1.same sm) r
    |_=>cases e⟩
end
section
variable {X:Cx}{C:Cfg}{lk:List (Option Nat)}{γ:cJ}{τ:aV}{φ:aM}{T:List Nat}{scope:acj}{N':List Str}{tg bQ elt:Expr}{ifs:List Expr}{ι:bS}{pos:Pos}
def Ck (lk:List (Option Nat))(ι:bS)(γ:cJ)(τ:aV)(φ:aM):aM:=λβ R=>ι β λds k β1=>hold k ζ/\iB γ τ φ ds k (bR lk β1) λo=>R (.lst o) .own β1
def J6 (L:Links X scope N' lk)(lL:N'.Nodup)(hT:T.all (λi=>match lk[i]? with|some (ν _)=>η|_=>ζ)=ζ)(hc:X.calm=ζ)(hi:vA X C ζ tg bQ ι)
  (lK:∀a cl c s H ex,vB (ar X scope N' cl c s H ex) (C.u λc=>c=a) tg T γ) (f_:∀a cl c s H ex,vz (ar X scope N' cl c s H ex) ifs (iO (ar X scope N' cl c s H ex) (C.u λc=>c=a) ζ τ)) (τm:∀β R R',(∀d β,R d β->R' d β)->τ β R->τ β R')
  (jP:∀a cl c s H ex,PQ (ar X scope N' cl c s H ex) (C.u λc=>c=a) ζ elt φ) (γm:∀d k β R R',(∀r,R r->R' r)->γ d k β R->γ d k β R') (φm:∀β R R',(∀d k β,R d k β->R' d k β)->φ β R->φ β R')
  (hs:∀x,aay bQ X.env x=pure x:=by intro _;rfl):PQ X C ζ (.ListComp elt [{tg,bQ,ifs,0}] scope pos) (Ck lk ι γ τ φ):=by
 have AB:∀i∈T,∀j,lk[i]?≠ν (ν j):=λi hi j e=>by
  have:=abq.mp hT i hi;rw[e]at this;cases this
 refine{λβ R R' k h=>hi.mono β _ _ (λds kd β1 q=>{q.1,q.2.mono λo z=>k _ _ _ z}) h,?_};refine(eF (g:={tg,bQ,ifs,0}) (gs:=[]) (tg:=λa v σ H Q=>∃own β d k,SQ X (C.u λc=>c=a) σ H β own/\Rp X (gk (C.u λc=>c=a) (Wn own) k) H d v/\γ d k β λβ'=>∀σ' aR,SQ X (C.u λc=>c=a) σ' H β' aR->(∀a,Wn aR a->Wn own a)->(∀j,j∉T->σ'[j]?=σ[j]?)->Q σ' H)
  (tt:=λa=>iO X (C.u λc=>c=a) ζ τ) (ta:=λa N σ H=>tQ X (C.u λc=>c=a) ζ φ σ H λv H1=>∃xs,H1 a=ν (.lst xs)/\xs.length<Z3/\N σ (upd H1 a (.lst (xs++[v]))))
  L hc gC rfl rfl (λ_ _=>zg) hi.pi (λa cl c s H ex=>{(lK a cl c s H ex).pg,f_ a cl c s H ex,gB rfl (jP a cl c s H ex).pe}) hs).pre λσ H Q ⟨β,own,s,h⟩=>?_
 refine{β,own,s,hi.mono β _ _ (λds k β1 fA J H1 aC o1 it a ha=>?_) h};obtain⟨hk,q⟩:=fA;exact kY γm τm φm (bw L lL) AB o1.sq ha (hp:=ζ) (λ_=>rfl) hk it q λo H' q o2 r=>q _ _ aC (o1.trans o2) (r.later o1.sn)
def VT (N':List Str)(lk:List (Option Nat))(L:fg X.env.scope.names X.N scope N' lk=ζ)(lL:N'.Nodup)(hc:X.calm=ζ)(hi:vA X C ζ tg bQ ι)
  (lK:∀U cl c s H ex,vB (ar X scope N' cl c s H ex) (C.u U) tg T γ) (f_:∀U cl c s H ex,l9 (ar X scope N' cl c s H ex) (C.u U) ζ ifs τ) (jP:∀U cl c s H ex,PQ (ar X scope N' cl c s H ex) (C.u U) ζ elt φ)
  (hT:T.all (λi=>match lk[i]? with|some (ν _)=>η|_=>ζ)=ζ:=by rfl) (hs:∀x,aay bQ X.env x=pure x:=by intro _;rfl):PQ X C ζ (.ListComp elt [{tg,bQ,ifs,0}] scope pos) (Ck lk ι γ τ φ) :=
 J6 (Links.of L) lL hT hc hi (λa=>lK _) (λa cl c s H ex=>(f_ _ cl c s H ex).pt) (f_ (λ_=>False) [] 0 X.s₀ X.H₀ []).mono (λa=>jP _) (lK (λ_=>False) [] 0 X.s₀ X.H₀ []).mono (jP (λ_=>False) [] 0 X.s₀ X.H₀ []).mono hs
end
theorem ai.snoc {P:ZN}{w:Z4}{W:θ->Prop}{H:Hp}{d:D}{v:V}(h:az P w W H d v):∀{ds:List D} {vs:List V},ai P w W H ds vs->ai P w W H (ds++[d]) (vs++[v])
 |[],_,e=>by cases e;exact{v,[],rfl,h,rfl}
 |_::_,_,⟨u,r,rfl,h1,h2⟩=>{u,r++[v],rfl,h1,ai.snoc h h2}
section
def K1 {H:Hp}{a:θ}{o oc:HO}{W:θ->Prop}(h:H a=ν oc)(ht:∀xs,oc≠.tup xs)(hw:W a):Kp W H (upd H a o):=(kK h ht).mono λc z=>by rw[z];exact hw
end
def qp (τ:aV)(T:Nat)(ds:List D)(β0:a6)(K:List D->Prop):Prop:=∃I:Nat->a6->List D->Prop,I 0 β0 [] /\
 (∀i d β o,ds[i]?=ν d->I i β o->τ (β.set T (ν (.val ζ d))) λt β2=>if t=ζ then o.length<Z3/\I (i+1) β2 (o++[d]) else I (i+1) β2 o)/\∀β o,I ds.length β o->dw β0 β/\K o
def qp.mono {τ:aV}{T:Nat}{ds:List D}{β0:a6}{K K':List D->Prop}(h:∀o,K o->K' o)(q:qp τ T ds β0 K):qp τ T ds β0 K':=let ⟨I,h0,h1,h2⟩:=q;{I,h0,h1,λβ o z=>{(h2 β o z).1,h _ (h2 β o z).2}}
section
variable {X:Cx}{C:Cfg}{lk:List (Option Nat)}{τ:aV}{T:Nat}
def AF {σ:St}{H1:Hp}{β:a6}{own:Nat->List θ}{a:θ}{J:It}{ds:List D}{K:List D->Prop}{End:Hp->Prop}
  (τm:∀β R R',(∀d β,R d β->R' d β)->τ β R->τ β R')
  (inj:∀(i i' j:Nat),lk[i]?=ν (ν j)->lk[i']?=ν (ν j)->i=i') (hT:∀j,lk[T]?≠ν (ν j)) (Yv:T<lk.length)
  (s1:SQ X C σ H1 β own) (ha:H1 a=ξ) (it:vN X (av C (Wn own) .d9) J ds H1) (q:qp τ T ds (bR lk β) K)
  (fin:∀o H',K o->Out X C σ H1 own ζ β H' own->KV X.prog X.w C (H1,Wn own) own H' .d9 (.lst o) (.ref a)->End H') :
  fo J (yK T) (iO X (C.u λc=>c=a) ζ τ) (λN σ H=>(∃v,σ[T]?=ν (ν v)/\∃xs,H a=ν (.lst xs)/\xs.length<Z3/\N σ (upd H a (.lst (xs++[v])))))
   (λ_ H'=>End H') (dv lk σ) (upd H1 a (.lst [])):=by
 obtain⟨I,i0,i1,i2⟩:=q;have h0:C.H0 a=ξ:=aax λz=>s1.iI a z ha;have sm:au H1 (upd H1 a (.lst [])):=au.new ha;have XE:¬ av C (Wn own) .d9 a:=λz=>z.elim (λz=>s1.AQ a z ha) λz=>z h0;let W:θ->Prop:=λb=>av C (Wn own) .d9 b\/H1 b=ξ
 let S:Nat->St->Hp->Prop:=λi σ' H'=>∃βi fe vs o,SQ X (C.u λc=>c=a) σ' H' βi fe/\(∀c,Wn fe c->Wn (bh lk β own) c)/\H' a=ν (.lst vs)/\ai X.prog X.w W H' o vs /\
  au H1 H'/\σ'.length=lk.length/\(∀j,j≠T->σ'[j]?=(dv lk σ)[j]?)/\I i βi o
 have Iz:=it (λb=>av C (Wn own) .d9 b\/H1 b=ξ) λb z=>z;refine{λi m σ' H'=>i<=ds.length/\m=ds.length-i/\S i σ' H',{_,ZW _,rfl,bR lk β,bh lk β own,[],[],s1.enter ha inj,λ_ z=>z,ao,rfl,sm,by unfold dv;simp,λ_ _=>rfl,i0},?_}
 rintro i m σ2 H2 ⟨hi,rfl,βi,fe,vs,o,sq,le,MJ,os,pu,hlen,st,hl⟩;obtain⟨bQ,iD⟩:=Iz i H2 (pu.kp.mono λb z=>.inr z)
 by_cases d3:i<ds.length
 ·right
  have hd:ds[i]?=ν ds[i]:=ZU d3;obtain⟨go,yl⟩:=bQ _ hd;refine{go,λσ' H'=>S (i+1) σ' H',λσ' H' h=>{_,by lia,d3,rfl,h},λx H3 y=>?_}
  obtain⟨s3,r3⟩:=yl x H3 y;have MA:az X.prog X.w W H3 ds[i] x:=r3;have sub:∀c,gk (C.u λc=>c=a) (Wn fe) .d9 c->W c:=λc z=>z.elim (λz=>.inl (z.imp (λz=>bt c (le c z)) id)) λz=>.inr (by rw[z];exact ha)
  have s4:=(sq.same s3).fG (i:=T) (y:=ζ) (az.aZ sub MA);have Oh:∀c,Wn (aU fe T []) c->Wn (bh lk β own) c:=λc z=>le c (fb z);refine{_,_,s4,τm _ _ _ (λt β5 q H5 jC o5=>?_) (i1 i _ βi o hd hl)};obtain⟨s5,e5⟩:=o5.pu rfl;have ee:au H1 H5:=(pu.trans s3).trans s5;have Kj:ai X.prog X.w W H5 o vs:=(os.same s3).same s5;have xc:H5 a=ν (.lst vs):=s5 _ _ (s3 _ _ MJ);have VS:∀c,Wn jC c->Wn (bh lk β own) c:=λc z=>Oh c (o5.le c z);have E8:∀j,j≠T->(σ2.set T (ν x))[j]?=(dv lk σ)[j]?:=λj hj=>(bu (aa1 hj)).trans (st j hj);cases t with
  |false=>exact{β5,jC,vs,o,o5.sq,VS,xc,Kj,ee,by simpa using hlen,E8,q}
  |true =>
   obtain⟨hz,q⟩:=q;have kp:Kp W H5 (upd H5 a (.lst (vs++[x]))):=K1 xc (λxs z=>by cases z) (.inr ha)
   refine{x,get_set (by rw[hlen];exact Yv),vs,xc,by rw[Kj.length];exact hz,β5,jC,vs++[x],o++[ds[i]],o5.sq.FR xc (λxs z=>by cases z) h0,VS,ao,ai.snoc ((MA.same s5).keep kp) (Kj.keep kp),λb ob e=>?_,by simpa using hlen,E8,q}
   rw[aw (λz'=>by rw[z',ha]at e;cases e)]
   exact ee b ob e
 ·left
  have e:i=ds.length:=by lia
  subst e;obtain⟨hh,q⟩:=i2 βi o hl;have sn:Sn (H1,Wn (bh lk β own)) H2 (Wn fe):={λb z=>.inl (le b z),pu.kp.mono λb z=>.inr z,λb z e=>z (pu.free e)};have lv:SQ X C σ H2 β own:=s1.leave sq sn le hh λj ok i' e1 e2=>st i' λz=>hT j (z▸e2);exact{iD (ZG _),fin o H2 q {lv,{λb z=>.inl z,pu.kp.mono λb z=>.inr z,λb z e=>z (pu.free e)},λz=>{(pu),rfl},λ_ z=>z} {a,vs,rfl,MJ,XE,ai.aZ (λc z=>.inl z) os}}
variable {scope:acj}{N':List Str}{bQ:Expr}{ifs:List Expr}{ι:bS}{pos px py:Pos}{x:Str}{pi:Bool}
def Nt (lk:List (Option Nat))(ι:bS)(τ:aV)(T:Nat):aM:=λβ R=>ι β λds k β1=>k=.d9/\qp τ T ds (bR lk β1) λo=>R (.lst o) .d9 β1
def XI (T:Nat)(N':List Str)(lk:List (Option Nat))(L:fg X.env.scope.names X.N scope N' lk=ζ)(lL:N'.Nodup)(hc:X.calm=ζ)(hi:vA X C pi (.Name x px) bQ ι)
  (f_:∀U cl c s H ex,l9 (ar X scope N' cl c s H ex) (C.u U) ζ ifs τ) (hx:N'[T]?=ν x:=by rfl) (hT:lk[T]?=ν ξ:=by rfl)
  (T7:∀cl c s H ex,Loc (ar X scope N' cl c s H ex).env.scope x:=by intro _ _ _ _ _;first|exact .inl rfl|exact .inr rfl)
  (hv:∀cl c s H ex,Mp (ar X scope N' cl c s H ex).env.scope x:=by intro _ _ _ _ _;first|exact .inl rfl|exact .inr (.inl rfl)|exact .inr (.inr rfl))
  (hf:∀cl c s H ex,(ar X scope N' cl c s H ex).fn x=ζ\/(ar X scope N' cl c s H ex).env.scope.names.lookup x=ν .local:=by intro _ _ _ _ _;first|exact .inl rfl|exact .inr rfl)
  (hd:(x==("__debug__" : Str))=η:=by decide) (Bm:(x==("__classdict__" : Str))=η:=by decide)
  (hs:∀x,aay bQ X.env x=pure x:=by intro _;rfl):PQ X C pi (.ListComp (.Name x py) [{.Name x px,bQ,ifs,0}] scope pos) (Nt lk ι τ T):=by
 have L':=Links.of L;refine{λβ R R' k h=>hi.mono β _ _ (λds kd β1 q=>{q.1,q.2.mono λo z=>k _ _ _ z}) h,?_};refine(eF (g:={.Name x px,bQ,ifs,0}) (gs:=[]) (tg:=λ_=>yK T) (tt:=λa=>iO X (C.u λc=>c=a) ζ τ) (ta:=λa N σ H=>∃v,σ[T]?=ν (ν v)/\∃xs,H a=ν (.lst xs)/\xs.length<Z3/\N σ (upd H a (.lst (xs++[v]))))
  L' hc gC rfl rfl (λ_ _=>zg) hi.pi (λa cl c s H ex=>{yo lL hx (T7 cl c s H ex) (hf cl c s H ex),(f_ _ cl c s H ex).pt,gB rfl (wu hx (hv cl c s H ex) hd Bm)}) hs).pre λσ H Q ⟨β,own,s,h⟩=>?_
 refine{β,own,s,hi.mono β _ _ (λds k β1 fA J H1 aC o1 it a ha=>?_) h};obtain⟨hk,q⟩:=fA;subst hk;exact AF (f_ (λ_=>False) [] 0 X.s₀ X.H₀ []).mono (bw L' lL) (λj e=>by rw[hT]at e;cases e) (Z1.mp hT).1 o1.sq ha it q λo H' q o2 r=>q _ _ aC (o1.WU o2 λz=>{(z),rfl}) (r.later o1.sn)
end
def KR {α:Type}{τ:aV}{l:List α}{f:α->D}{mL:a6}{K:List D->Prop}(t:α->Bool)(h0:dw mL mL)(hl:l.length<=Z3)(h:∀x∈l,∀R:Bool->a6->Prop,R (t x) (ν (.val ζ (f x))::mL)->τ (ν (.val ζ (f x))::mL) R)(q:K ((l.filter t).map f)):qp τ 0 (l.map f) (ξ::mL) K:=by
 refine{λi β o=>i<=l.length/\(∃x0,β=x0::mL)/\o=((l.take i).filter t).map f,{ZW _,{_,rfl},rfl},?_,?_}
 ·rintro i d β o hd ⟨hi,⟨x0,rfl⟩,rfl⟩;rw[ZS]at hd;obtain⟨x,hx,rfl⟩:=ZR.mp hd;have He:=(Z1.mp hx).1;have hlen:(((l.take i).filter t).map f).length<=i:=by
   rw[ZE];exact aaj (aat _ _) (by rw[aai];lia)
  have et:(l.take (i+1)).filter t=(l.take i).filter t++if t x=ζ then [x] else []:=by
   rw[aaM,hx,aaI];cases ee:t x <;> simp[ee]
  refine h x (aap hx) _ ?_;cases e:t x with
  |true =>
   rw[χ rfl];exact{by lia,by lia,{_,rfl},by rw[et,e,χ rfl,aag];rfl}
  |false =>
   rw[ω (by simp)]
   exact{by lia,{_,rfl},by rw[et,e,ω (by simp),aaw]}
 ·rintro β o ⟨_,⟨x0,rfl⟩,rfl⟩;rw[ZE,aaW];exact{(h0),q}
end L2.Q
namespace Q1
open PySem PySem.Spec PyProof.Rows
section
variable {A:aaJ}{s:ZH}
theorem du:∀{vs:List ZF} {ns:List Int} {j:Nat},abl vs ns->∀(h:j<vs.length),∃n t,ns[j]?=ν n/\vs[j]=.int n t
 |_,_,_,.nil,h=>by cases h
 |_,_,0,.cons a t _,_=>{(a),t,rfl,rfl}
 |_,_,j+1,.cons a t r,h=>by
  obtain⟨n,t',h1,h2⟩:=du (j:=j) r (Nat.lt_of_succ_lt_succ h);exact{(n),t',h1,h2}
theorem lJ:∀{vs:List ZF} {ns ms:List Int},abl vs ns->abl vs ms->ns=ms
 |_,_,_,.nil,.nil=>rfl
 |_,_,_,.cons a t r,.cons _ _ r'=>by rw[lJ r r']
def AK {l b:θ}{items aF:Array ZF}{ns ms:List Int}(hl:IsTup s.heap l items)(hb:IsTup s.heap b aF)(hi:abl items.toList ns)(hj:abl aF.toList ms)(ne:ns≠ms)(hu:A.units<abx):SeqAt.EqAt A s (.ref l) (.ref b) η:=by
 have Xy:l≠b:=λz=>by
  subst z;obtain⟨o,g1,_,_,g2⟩:=id hl;obtain⟨o',Wv,_,_,Wu⟩:=id hb;rw[g1]at Wv;cases Wv;rw[g2]at Wu;injection Wu with e
  subst e;exact ne (lJ hi hj)
 have q:=SeqAt.RcAt.tuples (e:=λj=>ns[j]?==ms[j]?) hl hb hu λj h1 h2=>by
  obtain⟨n,t,e1,e2⟩:=du hi (j:=j) (by simpa using h1)
  obtain⟨m,t',e3,e4⟩:=du hj (j:=j) (by simpa using h2)
  have US:items[j]=.int n t:=by simpa using e2
  have UR:aF[j]=.int m t':=by simpa using e4
  rw[e1,e3,US,UR];have:=SeqAt.EqAt.int_int (A:=A.in1) (s:=s) n t m t';simpa using this
 have z1:items.size=ns.length:=by rw[<- hi.length];simp
 have z2:aF.size=ms.length:=by rw[<- hj.length];simp
 have ef:((ZK (min items.size aF.size)).all (λj=>ns[j]?==ms[j]?)&&items.size==aF.size)=η:=by
  cases h:((ZK (min items.size aF.size)).all (λj=>ns[j]?==ms[j]?)&&items.size==aF.size)with
  |false=>rfl
  |true =>
   refine Η ?_ ne;rw[aaK,abq,beq_iff_eq]at h;apply abz;intro j
   by_cases Fe:j<ns.length
   ·exact beq_iff_eq.mp (h.1 j (aas.mpr (by lia)))
   ·rw[aaE (by lia),aaE (by lia)]
 rw[ef]at q;exact SeqAt.EqAt.of_refs Xy q
end
end Q1
namespace L2
open PySem PySem.Spec PySem.SeqAt PyProof.Rows
end L2
namespace Mx
structure Sr (α:Type) where
 zero:α
 one:α
 add:α->α->α
 mul:α->α->α
section
variable {α:Type}(S:Sr α)
def FG (n:Nat)(f:Nat->α):α:=match n with
 |0=>S.zero
 |n+1=>S.add (FG n f) (f n)
end
end Mx
namespace L2
open PySem PySem.Spec PySem.SeqAt PyProof.Rows
def yO (t:List Int):(kD t).flat=ζ:=by
 have:=eO [t];show D.cb (t.map D.int)=ζ;have h:(D.cb (t.map D.int)&&ζ)=ζ:=this
 rwa [Bool.and_true]at h
end L2
namespace L2.Q
open PySem PySem.Spec PySem.SeqAt PyProof.Rows
structure zv (mg:Str->Option ZF):Prop extends Bs2 mg where
 sum:mg "sum" = ξ
def tI (p:Nat×Nat):List Int:=[(p.1:Int),(p.2:Int)]
def rm {p q:Nat×Nat}(h:tI p=tI q):p=q:=by
 unfold tI at h;injection h with h1 h2
 injection h2 with h2 _
 exact Prod.ext (acB h1) (acB h2)
def lr (ps:List (Nat×Nat)):D:=.lst (ps.map λp=>kD (tI p))
def fO (n:Nat)(ps:List (Nat×Nat)):D:=.tup [.int n,lr ps]
structure Bf (n:Nat)(ps:List (Nat×Nat)):Prop where
 lt:∀p∈ps,p.1<p.2/\p.2<n
 nd:ps.Nodup
 le:n<=80
 sm:ps.length<=400
def BI {n:Int}{ts:List (List Int)}(n0:0<=n)(h:bD n ts):∃ps:List (Nat×Nat),ts=ps.map tI/\∀p∈ps,p.1<p.2/\p.2<n.toNat:=by
 induction ts with
 |nil=>exact{[],rfl,λ_ z=>(nomatch z)}
 |cons t ts ih =>
  obtain⟨ps,e,q⟩:=ih λu hu=>h u (by simp[hu])
  obtain⟨a,b,rfl,h1,h2,h3⟩:=h t (by simp)
  refine{(a.toNat,b.toNat)::ps,?_,λp hp=>?_}
  ·rw[aae,<- e]
   congr 1
   show [a,b]=[((a.toNat:Nat):Int),((b.toNat:Nat):Int)];rw[Int.toNat_of_nonneg h1,Int.toNat_of_nonneg (by lia)]
  ·rcases ZI.mp hp with rfl|hp
   ·exact{by show a.toNat<b.toNat;lia,by show b.toNat<n.toNat;lia}
   ·exact q p hp
def FW {n:Int}{ts:List (List Int)}(n0:0<=n)(n1:n<=80)(l:ts.length<=400)(h:bD n ts)(nd:ts.Nodup):∃(m:Nat) (ps:List (Nat×Nat)),Bf m ps/\n=m/\ts=ps.map tI/\D.tup [.int n,.lst (ts.map kD)]=fO m ps:=by
 obtain⟨ps,e,q⟩:=BI n0 h;refine{n.toNat,ps,{q,?_,by lia,by rw[e,ZE]at l;exact l},by lia,e,?_}
 ·rw[e]at nd;exact(aa7.mp nd).imp λz e=>z (Ι tI e)
 ·unfold fO lr;rw[e,aaR,Int.toNat_of_nonneg n0];rfl
noncomputable def br (l:List Nat):List D:=l.map λ(k:Nat)=>D.int (k:Int)
def ju (ps:List (Nat×Nat))(i:Nat):List Nat:=(ps.filter λp=>decide (p.1=i)).map (·.2)
def cD {ps:List (Nat×Nat)}{i k:Nat}:k∈ju ps i↔(i,k)∈ps:=by
 unfold ju;rw[Z0];constructor
 ·rintro⟨p,hp,rfl⟩;obtain⟨h1,h2⟩:=ZY.mp hp;rw[<- of_decide_eq_true h2];exact h1
 ·intro h;exact{(i,k),ZY.mpr {h,by simp},rfl}
def Cp (n:Nat)(ps:List (Nat×Nat)):D:=.lst ((ZK n).map λi=>.lst (br (ju ps i)))
def wD (ps:List (Nat×Nat))(w:Nat×Nat->Int):D:=dA (ps.map λp=>(tI p,.int (w p)))
def Jv {ps:List (Nat×Nat)}{w:Nat×Nat->Int}{p:Nat×Nat}(h:p∈ps):lR (ps.map λp=>(tI p,.int (w p))) (tI p)=ν (.int (w p)):=by
 unfold lR
 induction ps with
 |nil=>cases h
 |cons q ps ih =>
  rw[aae,abg]
  by_cases e:q=p
  ·rw[e,Γ rfl];rfl
  ·rw[Δ λz=>e (rm z)];exact ih ((ZI.mp h).resolve_left λz=>e z.symm)
def GC {ps:List (Nat×Nat)}{w:Nat×Nat->Int}{p:Nat×Nat}(h:p∉ps):lR (ps.map λp=>(tI p,.int (w p))) (tI p)=ξ:=by
 unfold lR;rw[Option.map_eq_none_iff,List.find?_eq_none];intro x hx;obtain⟨q,hq,rfl⟩:=Z0.mp hx;simp only[decide_eq_true_eq];intro e;exact h (rm e▸hq)
def LR {ps:List (Nat×Nat)}{w:Nat×Nat->Int}{i k:Nat}(h:(i,k)∈ps):zd (wD ps w) (.tup [.int (i:Int),.int (k:Int)])=ν (.int (w (i,k))):=by
 have:=HF (kvs:=ps.map λp=>(tI p,D.int (w p))) (t:=tI (i,k));rw[Jv h]at this;exact this
def a8 {α:Type}{n i:Nat}{f:Nat->α}(h:i<n):((ZK n).map f)[i]?=ν (f i):=by
 rw[ZS,abB h];rfl
def f9 {ds:List D}{x:Int}{i:Nat}{d:D}(hx:x=(i:Int))(h:ds[i]?=ν d):vb (.lst ds) (.int x)=ν d:=by rw[hx];exact HD h
def Oj {n:Nat}{ps:List (Nat×Nat)}{x:Int}{i:Nat}(hx:x=(i:Int))(h:i<n):vb (Cp n ps) (.int x)=ν (.lst (br (ju ps i))):=f9 hx (a8 h)
def sY (L:Nat)(T:Nat->Int):List D:=(ZK L).map λl=>.int (T l)
def m6 (n:Nat)(L:Nat->Nat)(T:Nat->Nat->Int):D:=.lst ((ZK (n+1)).map λi=>.lst (sY (L i) λl=>T l i))
def uA {L:Nat}{T:Nat->Int}{x:Int}{l:Nat}(hx:x=(l:Int))(h:l<L):vb (.lst (sY L T)) (.int x)=ν (.int (T l)):=f9 hx (a8 h)
def uz {n:Nat}{L:Nat->Nat}{T:Nat->Nat->Int}{x:Int}{i:Nat}(hx:x=(i:Int))(h:i<=n):vb (m6 n L T) (.int x)=ν (.lst (sY (L i) λl=>T l i)):=f9 hx (a8 (by lia))
def jI (ps:List (Nat×Nat))(w:Nat×Nat->Int)(T:Nat->Nat->Int)(i j:Nat):Int:=(fR ((((ju ps i).filter λk=>decide (k<j)).map λk=>w (i,k)+T (k-i-1) (i+1)+T (j-k-1) (k+1))++[T (j-i-1) (i+1)])).getD 0
def ql {l:List Int}{x:Int}:fR (l++[x])=ν ((fR (l++[x])).getD 0):=by
 cases l with
 |nil=>rfl
 |cons a l=>rfl
def nO {ps:List (Nat×Nat)}{w:Nat×Nat->Int}{T T':Nat->Nat->Int}{i j:Nat}(hp:∀p∈ps,p.1<p.2)(hj:i<j)(h:∀l,l<j-i->∀a,T l a=T' l a):jI ps w T i j=jI ps w T' i j:=by
 unfold jI;have e:((ju ps i).filter λk=>decide (k<j)).map (λk=>w (i,k)+T (k-i-1) (i+1)+T (j-k-1) (k+1))=((ju ps i).filter λk=>decide (k<j)).map λk=>w (i,k)+T' (k-i-1) (i+1)+T' (j-k-1) (k+1):=by
  refine aal λk hk=>?_;obtain⟨h1,h2⟩:=ZY.mp hk;have h3:=hp _ (cD.mp h1);have h4:=of_decide_eq_true h2;dsimp only at h3;rw[h _ (by lia),h _ (by lia)]
 rw[e,h (j-i-1) (by lia)]
def JF (ps:List (Nat×Nat))(w:Nat×Nat->Int):Nat->Nat->Nat->Int
 |0,_,_=>0
 |_+1,0,_=>0
 |n+1,l+1,i=>jI ps w (JF ps w n) i (i+l+1)
theorem sX {ps:List (Nat×Nat)}{w:Nat×Nat->Int}(hp:∀p∈ps,p.1<p.2):∀{n m l i:Nat},l<=n->l<=m->JF ps w n l i=JF ps w m l i
 |0,0,_,_,_,_=>rfl
 |0,m+1,0,_,_,_=>rfl
 |0,m+1,l+1,_,h,_=>by lia
 |n+1,0,0,_,_,_=>rfl
 |n+1,0,l+1,_,_,h=>by lia
 |n+1,m+1,0,_,_,_=>rfl
 |n+1,m+1,l+1,i,h1,h2=>by
  unfold JF;exact nO hp (by lia) λl' hl a=>sX hp (by lia) (by lia)
def tW (ps:List (Nat×Nat))(w:Nat×Nat->Int)(l i:Nat):Int:=JF ps w l l i
def me {ps:List (Nat×Nat)}{w:Nat×Nat->Int}(hp:∀p∈ps,p.1<p.2){l i:Nat}:tW ps w (l+1) i=jI ps w (tW ps w) i (i+l+1):=by
 show JF ps w (l+1) (l+1) i=_;unfold JF;exact nO hp (by lia) λl' hl a=>sX hp (by lia) (by lia)
def eW (n a:Nat):List (Nat×Nat):=(ZK (a+1)).map λb=>(n-1-a,n-a+b)
def rq (n:Nat):List (Nat×Nat):=(ZK n).flatMap (eW n)
def ND (p:Nat×Nat):D:=.tup [.int (p.1:Int),.int (p.2:Int)]
def eZ (n a b:Nat):List (Nat×Nat):=(eW n a).drop b++((ZK n).drop (a+1)).flatMap (eW n)
def iQ {n a b:Nat}(h:b<=a):eZ n a b=(n-1-a,n-a+b)::eZ n a (b+1):=by
 unfold eZ eW;rw[aaL (by rw[ZE,Z7];lia)]
 simp
def qP {n a:Nat}(h:a<n):((ZK n).drop a).flatMap (eW n)=eZ n a 0:=by
 unfold eZ;rw[aaL (by rw[Z7];exact h)]
 simp
def qa {n a:Nat}(h:a+1<n):eZ n a (a+1)=eZ n (a+1) 0:=by
 rw[<- qP h];unfold eZ eW;simp
def wg {n a:Nat}(h:n<=a+1):eZ n a (a+1)=[]:=by
 unfold eZ eW;rw[List.drop_eq_nil_of_le (by simp),List.drop_eq_nil_of_le (by simpa using h)]
 rfl
def zD {n:Nat}(h:0<n):rq n=eZ n 0 0:=by rw[<- qP h];rfl
def cT {α:Type}{γ:cJ}{τ:aV}{φ:aM}{l:List α}{f:α->D}{k:Kd}{mL:a6}{K:List D->Prop}(t:α->Bool)(g:α->D)(h0:dw mL mL)(hl:l.length<=Z3)
  (h:∀x∈l,∀(x0:Option B) (o:List D) (J:a6->List D->Prop),o.length<Z3->(t x=ζ->∀x0,J (x0::mL) (o++[g x]))->(t x=η->∀x0,J (x0::mL) o)->γ (f x) (sk k (f x)) (x0::mL) λβ1=>τ β1 λt β2=>if t=ζ then φ β2 λx kx β3=>Fb kx x/\o.length<Z3/\J β3 (o++[x]) else J β2 o)
  (q:K ((l.filter t).map g)):iB γ τ φ (l.map f) k (ξ::mL) K:=by
 refine{λi β o=>i<=l.length/\(∃x0,β=x0::mL)/\o=((l.take i).filter t).map g,{ZW _,{_,rfl},rfl},?_,?_}
 ·rintro i d β o hd ⟨hi,⟨x0,rfl⟩,rfl⟩;rw[ZS]at hd;obtain⟨x,hx,rfl⟩:=ZR.mp hd;have d3:i<l.length:=(Z1.mp hx).1;have hle:(((l.take i).filter t).map g).length<Z3:=by
   rw[ZE];have:=aat t (l.take i);rw[aai]at this;lia
  have e:l.take (i+1)=l.take i++[x]:=by rw[aaM,hx];rfl
  refine h x (aap hx) x0 _ (λβ o=>i+1<=l.length/\(∃x0,β=x0::mL)/\o=((l.take (i+1)).filter t).map g) hle (λht x0=>?_) λht x0=>?_
  ·exact{d3,{_,rfl},by rw[e,aaI,aag,aam,χ ht];rfl}
  ·exact{d3,{_,rfl},by rw[e,aaI,aag,aam,ω (by rw[ht];simp)];simp}
 ·rintro β o ⟨_,⟨x0,rfl⟩,rfl⟩;rw[ZE,aaW];exact{(h0),q}
def Dd {α:Type}{γ:cJ}{τ:aV}{φ:aM}{l:List α}{f:α->D}{k:Kd}{mL:a6}{K:List D->Prop}(t:α->Bool)(g:α->D)(h0:dw mL mL)(hl:l.length<=Z3)
  (h:∀x∈l,∀(x0 x1:Option B) (o:List D) (J:a6->List D->Prop),o.length<Z3->(t x=ζ->∀x0 x1,J (x0::x1::mL) (o++[g x]))->(t x=η->∀x0 x1,J (x0::x1::mL) o)->γ (f x) (sk k (f x)) (x0::x1::mL) λβ1=>τ β1 λt β2=>if t=ζ then φ β2 λx kx β3=>Fb kx x/\o.length<Z3/\J β3 (o++[x]) else J β2 o)
  (q:K ((l.filter t).map g)):iB γ τ φ (l.map f) k (ξ::ξ::mL) K:=by
 refine{λi β o=>i<=l.length/\(∃x0 x1,β=x0::x1::mL)/\o=((l.take i).filter t).map g,{ZW _,{_,_,rfl},rfl},?_,?_}
 ·rintro i d β o hd ⟨hi,⟨x0,x1,rfl⟩,rfl⟩;rw[ZS]at hd;obtain⟨x,hx,rfl⟩:=ZR.mp hd;have d3:i<l.length:=(Z1.mp hx).1;have hle:(((l.take i).filter t).map g).length<Z3:=by
   rw[ZE];have:=aat t (l.take i);rw[aai]at this;lia
  have e:l.take (i+1)=l.take i++[x]:=by rw[aaM,hx];rfl
  refine h x (aap hx) x0 x1 _ (λβ o=>i+1<=l.length/\(∃x0 x1,β=x0::x1::mL)/\o=((l.take (i+1)).filter t).map g) hle (λht x0 x1=>?_) λht x0 x1=>?_
  ·exact{d3,{_,_,rfl},by rw[e,aaI,aag,aam,χ ht];rfl}
  ·exact{d3,{_,_,rfl},by rw[e,aaI,aag,aam,ω (by rw[ht];simp)];simp}
 ·rintro β o ⟨_,⟨x0,x1,rfl⟩,rfl⟩;rw[ZE,aaW];exact{(h0),q}
def cM {α:Type}{l:List α}:l.filter (λ_=>ζ)=l:=List.filter_eq_self.mpr λ_ _=>rfl
def oM {a b:List D}(h:a.length+b.length<=1000000):EC (.lst a) (.lst b)=ν (.lst (a++b)):=by
 show (if a.length+b.length<=Z3 then _ else _)=_
 rw[χ (aaj h (by decide))]
theorem kT {α:Type}{f:α->Int}:∀{l:List α},D.cb (l.map λx=>D.int (f x))=ζ
 |[]=>rfl
 |_::l=>kT (l:=l)
theorem qI:∀{a b:List D},D.cb a=ζ->D.cb b=ζ->D.cb (a++b)=ζ
 |[],_,_,h=>h
 |d::a,b,h,h'=>by
  have f':(d.flat&&D.cb a)=ζ:=h;rw[aaK]at f';show (d.flat&&D.cb (a++b))=ζ;rw[f'.1,qI f'.2 h'];rfl
def C8 {α:Type}{f:α->Int}{l:List α}{x:Int}:de fR [.lst ((l.map λk=>D.int (f k))++[D.int x])]=ν (.int ((fR (l.map f++[x])).getD 0)):=by
 have e:(l.map λk=>D.int (f k))++[D.int x]=(l.map f++[x]).map D.int:=by simp
 rw[e];exact iZ ql
def GJ {α:Type}{l:List α}{m:Nat}{x:α}(h:l.Nodup)(hx:l[m]?=ν x):x∉l.take m:=λz=>by
 obtain⟨i,hi⟩:=List.mem_iff_getElem?.mp z;rw[List.getElem?_take]at hi
 split at hi
 ·next d3 =>
  have:=(List.getElem?_inj (Z1.mp hi).1 h).mp (hi.trans hx.symm);lia
 ·cases hi
def DZ:FD:=λds R=>∃n:Nat,ds=[.int n]/\n<=80/\R (.lst ((rq n).map ND))
def DZ.mono:dy DZ:=λds R R' k h=>by obtain⟨n,e,h1,q⟩:=h;exact{n,e,h1,k _ q}
def oB:FD:=λds R=>∃n ps,ds=[fO n ps]/\Bf n ps/\R (Cp n ps)
def oB.mono:dy oB:=λds R R' k h=>by obtain⟨n,ps,e,h1,q⟩:=h;exact{n,ps,e,h1,k _ q}
def oC:FD:=λds R=>∃(n:Nat) (ps:List (Nat×Nat)) (w:Nat×Nat->Int) (L:Nat->Nat) (T:Nat->Nat->Int) (i k j:Nat),ds=[wD ps w,m6 n L T,.int i,.int k,.int j]/\(i,k)∈ps/\i<k/\k<j/\j<=n/\k-i-1<L (i+1)/\j-k-1<L (k+1) /\
 R (.int (w (i,k)+T (k-i-1) (i+1)+T (j-k-1) (k+1)))
def oC.mono:dy oC:=λds R R' k h=>by obtain⟨n,ps,w,L,T,i,k',j,e,h1,h2,h3,h4,h5,h6,q⟩:=h;exact{n,ps,w,L,T,i,k',j,e,h1,h2,h3,h4,h5,h6,k _ q}
def oE:FD:=λds R=>∃(n:Nat) (ps:List (Nat×Nat)) (w:Nat×Nat->Int) (L:Nat->Nat) (T:Nat->Nat->Int) (i j:Nat),ds=[Cp n ps,wD ps w,m6 n L T,.int i,.int j]/\Bf n ps/\i<j/\j<=n/\(∀a,i<a->a<=n->n+1-a<=L a)/\R (.int (jI ps w T i j))
def oE.mono:dy oE:=λds R R' k h=>by obtain⟨n,ps,w,L,T,i,j,e,h1,h2,h3,h4,q⟩:=h;exact{n,ps,w,L,T,i,j,e,h1,h2,h3,h4,k _ q}
abbrev jQ (n:Nat)(T:Nat->Nat->Int):D:=m6 n (λi=>n+1-i) T
def oF:FD:=λds R=>∃(n:Nat) (ps:List (Nat×Nat)) (w:Nat×Nat->Int),ds=[fO n ps,wD ps w]/\Bf n ps/\R (jQ n (tW ps w))
def oF.mono:dy oF:=λds R R' k h=>by obtain⟨n,ps,w,e,h1,q⟩:=h;exact{n,ps,w,e,h1,k _ q}
def w1:Nat×Nat->Int:=λ_=>1
def xj:FD:=λds R=>∃(n:Nat) (ps:List (Nat×Nat)),ds=[fO n ps]/\Bf n ps/\R (wD ps w1)
def xj.mono:dy xj:=λds R R' k h=>by obtain⟨n,ps,e,h1,q⟩:=h;exact{n,ps,e,h1,k _ q}
def oz:FD:=λds R=>∃(n:Nat) (ps:List (Nat×Nat)),ds=[fO n ps]/\Bf n ps/\R (jQ n (tW ps w1))
def oz.mono:dy oz:=λds R R' k h=>by obtain⟨n,ps,e,h1,q⟩:=h;exact{n,ps,e,h1,k _ q}
def cZ {n:Nat}(h:n<=1000):n<=Z3:=aaj h (by decide)
def iq {n:Nat}(h:n<=1000):n<Z3:=ab0 h (by decide)
def rX {n i:Nat}{x:Int}(hx:x=(i:Int))(h:i<n):wU n x=ν i:=by
 subst hx;unfold wU;rw[χ (by lia),χ (by lia)]
 simp
def xV {α:Type}{n i:Nat}{f:Nat->α}{y:α}(h:i<n):((ZK n).map f).set i y=(ZK n).map λk=>if k=i then y else f k:=by
 refine abz λk=>?_;rw[ab_]
 by_cases hk:k<n
 ·rw[a8 hk,a8 hk,ZE,Z7]
  by_cases e:i=k
  ·rw[χ e,χ (e▸hk),χ e.symm]
  ·rw[ω e,ω (aa1 e)]
 ·rw[aaE (l:=(ZK n).map f) (by simpa using hk),aaE (l:=(ZK n).map λk=>if k=i then y else f k) (by simpa using hk),ω (by lia)]
def JQ {n i k:Nat}{ps:List (Nat×Nat)}(h:i<n):((ZK n).map λj=>D.lst (br (ju ps j))).set i (.lst (br (ju ps i)++[D.int k]))=(ZK n).map λj=>D.lst (br (ju (ps++[(i,k)]) j)):=by
 rw[xV h];refine aal λj _=>?_;unfold ju br;rw[aaI,aag,aag]
 by_cases e:j=i
 ·rw[χ e,e];simp
 ·rw[ω e,aam,ω (by simpa using aa1 e)];simp
def jt {ps:List (Nat×Nat)}{i:Nat}:(ju ps i).length<=ps.length:=by
 unfold ju;rw[ZE];exact aat _ _
def fU (n a b:Nat)(i:Nat):Nat:=if n-1-a<i then n+1-i else if i=n-1-a then b+1 else 1
def FP {n a b:Nat}{T:Nat->Nat->Int}(ha:a<n)(hb:b<=a):
  ((ZK (n+1)).map λi=>D.lst (sY (fU n a b i) λl=>T l i)).set (n-1-a) (.lst (sY (b+1) (λl=>T l (n-1-a))++[D.int (T (b+1) (n-1-a))]))=(ZK (n+1)).map λi=>D.lst (sY (fU n a (b+1) i) λl=>T l i):=by
 rw[xV (by lia)]
 refine aal λi _=>?_;unfold fU
 by_cases e:i=n-1-a
 ·rw[χ e,e,ω (by lia),χ rfl]
  unfold sY;rw[acH (n:=b+1),aag];rfl
 ·rw[ω e,ω e,ω e]
def An {n a:Nat}(h:a+1<n)(i:Nat)(hi:i<=n):fU n a (a+1) i=fU n (a+1) 0 i:=by
 unfold fU
 by_cases h1:n-1-a<i
 ·rw[χ h1,χ (by omega)]
 ·rw[ω h1]
  by_cases h2:i=n-1-a
  ·rw[χ h2,χ (by omega)];omega
  ·rw[ω h2,ω (by omega)]
   split <;> rfl
def Di {n a:Nat}(h:n=a+1)(i:Nat)(hi:i<=n):fU n a (a+1) i=n+1-i:=by
 unfold fU
 split
 ·rfl
 ·split <;> lia
def wO {n:Nat}(h:0<n)(i:Nat)(hi:i<=n):fU n 0 0 i=1:=by
 unfold fU
 split
 ·lia
 ·split <;> rfl
def pY {n:Nat}{L L':Nat->Nat}{T:Nat->Nat->Int}(h:∀i,i<=n->L i=L' i):m6 n L T=m6 n L' T:=by
 unfold m6
 congr 1
 refine aal λi hi=>?_;rw[h i (by have:=aas.mp hi;lia)]
def zu (n idx:Nat)(L:Nat->Nat):Prop:=(n=0/\L 0=1)\/∃a b,a<n/\b<=a+1/\(∀i,i<=n->L i=fU n a b i)/\(rq n).drop idx=eZ n a b
def u6 {n:Nat}:zu n 0 λ_=>1:=by
 rcases Nat.eq_zero_or_pos n with h|h
 ·exact .inl {(h),rfl}
 ·exact .inr {0,0,h,ZW _,λi hi=>(wO h i hi).symm,zD h}
def AO {n:Nat}{L:Nat->Nat}(h:zu n (rq n).length L):∀i,i<=n->L i=n+1-i:=by
 rcases h with⟨rfl,h⟩|⟨a,b,h1,h2,h3,h4⟩
 ·intro i hi;rw[show i=0 by lia,h]
 ·intro i hi;rw[List.drop_length]at h4;have hb:b=a+1:=by
   rcases aa2 a b with q|q
   ·lia
   ·rw[iQ q]at h4;cases h4
  have ha:n=a+1:=by
   rcases aa2 (a+1) n with q|q
   ·rw[hb,qa q,iQ (ZW _)]at h4;cases h4
   ·lia
  rw[h3 i hi,hb];exact Di ha i hi
def xo {n idx:Nat}{L:Nat->Nat}{p:Nat×Nat}(h:zu n idx L)(hp:(rq n)[idx]?=ν p):∃a b,a<n/\b<=a/\p=(n-1-a,n-a+b)/\(∀i,i<=n->L i=fU n a b i)/\(rq n).drop (idx+1)=eZ n a (b+1):=by
 have hd:(rq n).drop idx=p::(rq n).drop (idx+1):=by
  obtain⟨h1,h2⟩:=Z1.mp hp;rw[aaL h1,h2]
 rcases h with⟨rfl,h⟩|⟨a,b,h1,h2,h3,h4⟩
 ·cases hp
 ·have key:∃a b,a<n/\b<=a/\(∀i,i<=n->L i=fU n a b i)/\(rq n).drop idx=eZ n a b:=by
   rcases aa2 a b with q|q
   ·have e:b=a+1:=by lia
    rcases aa2 (a+1) n with q2|q2
    ·exact{a+1,0,q2,ZW _,λi hi=>by rw[h3 i hi,e,An q2 i hi],by rw[h4,e,qa q2]}
    ·rw[h4,e,wg q2]at hd;cases hd
   ·exact{(a),b,h1,q,h3,h4}
  obtain⟨a,b,h1,h2,h3,h4⟩:=key;rw[h4,iQ h2]at hd;injection hd with e1 e2
  exact{(a),b,h1,h2,e1.symm,h3,e2.symm}
def tH {n a:Nat}:(eW n a).length=a+1:=by unfold eW;simp
def zQ {n a b:Nat}(h:b<a+1):(eW n a).take (b+1)=(eW n a).take b++[(n-1-a,n-a+b)]:=by
 rw[aaM];unfold eW;rw[a8 h];rfl
def Cd {n a:Nat}:(eW n a).take (a+1)=eW n a:=abk (by rw[tH];exact ZG _)
theorem uL {n:Nat}:∀a:Nat,a<=n->(((ZK n).take a).flatMap (eW n)).length<=a*a
 |0,_=>by simp
 |a+1,h=>by
  have:=uL (n:=n) a (by lia)
  rw[aaM,abB (show a<n by lia),List.flatMap_append,aad]
  have e:((ν a).toList.flatMap (eW n)).length=a+1:=by simp[tH]
  rw[e,Nat.mul_add,Nat.add_mul];lia
def BO {n a b:Nat}(hn:n<=80)(ha:a<n)(hb:b<a+1):(((ZK n).take a).flatMap (eW n)).length+((eW n a).take b).length<Z3:=by
 have h1:=uL (n:=n) a (by lia)
 have h2:((eW n a).take b).length<=b:=by rw[aai];exact acG _ _
 have h3:a*a<=80*80:=Nat.mul_le_mul (by lia) (by lia)
 have h4:80*80+80<Z3:=by decide
 lia
open Mx
def KG:Sr Nat:={0,1,(·+·),(· * ·)}
def Ai {l:List Int}{x:Int}:(fR (l++[x])).getD 0∈l++[x]/\∀y∈l++[x],y<=(fR (l++[x])).getD 0:=by
 cases l with
 |nil=>exact cn [] x
 |cons a l=>exact cn (l++[x]) a
def qq {ps:List (Nat×Nat)}{w:Nat×Nat->Int}{T:Nat->Nat->Int}{i j:Nat}:
  (jI ps w T i j=T (j-i-1) (i+1)\/∃k,(i,k)∈ps/\k<j/\jI ps w T i j=w (i,k)+T (k-i-1) (i+1)+T (j-k-1) (k+1)) /\
  T (j-i-1) (i+1)<=jI ps w T i j/\∀k,(i,k)∈ps->k<j->w (i,k)+T (k-i-1) (i+1)+T (j-k-1) (k+1)<=jI ps w T i j:=by
 obtain⟨h1,h2⟩:=Ai (l:=((ju ps i).filter λk=>decide (k<j)).map λk=>w (i,k)+T (k-i-1) (i+1)+T (j-k-1) (k+1)) (x:=T (j-i-1) (i+1));refine{?_,h2 _ (by simp),λk hk hj=>h2 _ (aaA _ (Z0.mpr {k,ZY.mpr {cD.mpr hk,Γ hj},rfl}))}
 rcases ZT.mp h1 with h|h
 ·obtain⟨k,hk,e⟩:=Z0.mp h;obtain⟨q1,q2⟩:=ZY.mp hk;exact .inr {k,cD.mp q1,of_decide_eq_true q2,e.symm}
 ·exact .inl (ZJ.mp h)
def uK {ps:List (Nat×Nat)}:D.cb (ps.map λp=>kD (tI p))=ζ:=by
 have:=eO (ps.map tI);rw[aaR]at this;exact this
def uX:FD:=λds R=>∃n ps,ds=[fO n ps]/\R (fO n ps)
def uX.mono:dy uX:=λds R R' k h=>by obtain⟨n,ps,e,q⟩:=h;exact{n,ps,e,k _ q}
def near (ps:List (Nat×Nat))(b:Nat):List Nat:=(ps.filter λp=>decide (p.2=b)).map (·.1)
def bq {ps:List (Nat×Nat)}{a b:Nat}:a∈near ps b↔(a,b)∈ps:=by
 unfold near;rw[Z0];constructor
 ·rintro⟨p,hp,rfl⟩;obtain⟨h1,h2⟩:=ZY.mp hp;rw[<- of_decide_eq_true h2];exact h1
 ·intro h;exact{(a,b),ZY.mpr {h,by simp},rfl}
def GG {ps:List (Nat×Nat)}{b:Nat}(h:ps.Nodup):(near ps b).Nodup:=by
 unfold near;refine aa7.mpr ((h.filter _).imp_of_mem λ{p q} hp hq n e=>n ?_);have h1:=of_decide_eq_true (ZY.mp hp).2;have h2:=of_decide_eq_true (ZY.mp hq).2;exact Prod.ext e (h1.trans h2.symm)
def nK {ps:List (Nat×Nat)}{b:Nat}:(near ps b).length<=ps.length:=by
 unfold near;rw[ZE];exact aat _ _
theorem xO {f:Nat->Nat}{p:Nat->Bool}{x:Nat}(hx:p x=η):∀{l:List Nat},l.Nodup->((l.filter λa=>p a || decide (a=x)).map f).sum=((l.filter p).map f).sum+if x∈l then f x else 0
 |[],_=>by simp
 |a::l,h=>by
  obtain⟨h1,h2⟩:=aac.mp h;have ih:=xO (f:=f) hx h2
  by_cases e:a=x
  ·subst e;rw[aam,χ (by simp),aam,ω (by rw[hx];simp),aae,abS,ih,ω h1,χ (by simp)]
   lia
  ·have e':(if x∈a::l then f x else 0)=if x∈l then f x else 0:=by
    by_cases q:x∈l
    ·rw[χ q,χ (by simp[q])]
    ·rw[ω q,ω (by simp[q];exact λz=>e z.symm)]
   rw[e',aam,aam];cases q:p a
   ·rw[ω (by simp[e]),ω (by simp)];exact ih
   ·rw[χ (by simp),χ rfl,aae,abS,aae,abS,ih];lia
theorem pZ {f:Nat->Nat}{l:List Nat}(h:l.Nodup){i:Nat}:∀len:Nat,((l.filter λa=>decide (i<=a)&&decide (a<i+len)).map f).sum=Mx.FG KG len λr=>(if i+r∈l then 1 else 0)*f (i+r)
 |0=>by
  have:(l.filter λa=>decide (i<=a)&&decide (a<i+0))=[]:=ab2.mpr λa _=>by simp
  rw[this];rfl
 |len+1=>by
  have e:(λa=>decide (i<=a)&&decide (a<i+(len+1)))=λa=>(decide (i<=a)&&decide (a<i+len)) || decide (a=i+len):=by
   funext a
   rw[acL];simp;lia
  rw[e,xO (by simp) h,pZ h len]
  show _+_=_+(if i+len∈l then 1 else 0)*f (i+len)
  congr 1
  split
  ·rw[ac3]
  ·rw[Nat.zero_mul]
theorem sZ {α:Type}{f:α->Nat}:∀{l:List α},(l.map λa=>((f a:Nat):Int)).sum=((l.map f).sum:Nat)
 |[]=>rfl
 |a::l=>by rw[aae,abS,aae,abS,sZ];lia
def mH:Nat->Nat
 |0=>1
 |n+1=>(n+1)*mH n
theorem yU (a:Nat):∀b,mH a*mH b<=mH (a+b)
 |0=>by show mH a*1<=mH a;lia
 |b+1=>by
  show mH a*((b+1)*mH b)<=(a+b+1)*mH (a+b);rw[Nat.mul_left_comm];exact Nat.mul_le_mul (by lia) (yU a b)
def DY {a b:Nat}(h:a<=b):mH a<=mH b:=by
 induction b with
 |zero=>rw[show a=0 by lia];exact ZG _
 |succ b ih =>
  rcases aa2 b a with q|q
  ·rw[show a=b+1 by lia];exact ZG _
  ·exact aaj (ih q) (Nat.le_mul_of_pos_left _ (by lia))
theorem xP {f:Nat->Nat}{c:Nat}:∀{n:Nat},(∀r,r<n->f r<=c)->Mx.FG KG n f<=n*c
 |0,_=>ZW _
 |n+1,h=>by
  show Mx.FG KG n f+f n<=_;have:=xP (f:=f) (n:=n) λr hr=>h r (by lia)
  have:=h n (by lia)
  rw[Nat.add_mul,ac3];lia
def L6 {a b:Int}(h:sI a b):PN (.int a) (.int b)=ν (.int (a*b)):=by
 show (if sI a b then _ else _)=_
 rw[χ h]
def sum_ints {α:Type}{f:α->Int}{l:List α}:de (λns=>ν ns.sum) [.lst (l.map λk=>D.int (f k))]=ν (.int (l.map f).sum):=by
 have e:(l.map λk=>D.int (f k))=(l.map f).map D.int:=by simp
 rw[e];exact iZ rfl
def B5 (n:Nat)(ps:List (Nat×Nat)):(fO n ps).pd.canLay0=ζ/\(fO n ps).pd.depth<=4:=by
 have:=zJ (n:Int) (ps.map tI);unfold JU at this;rw[aaR]at this;exact this
def oD:Option Nat->D
 |none=>.cf
 |some k=>.int (k:Int)
def parts (i:Nat)(k:Option Nat)(j:Nat):List (Nat×Nat):=match k with
 |none=>[(i+1,j)]
 |some k=>[(i+1,k),(k+1,j)]
def dS (ps:List (Nat×Nat))(w:Nat×Nat->Int)(T:Nat->Nat->Int)(i j:Nat):List (Option Nat) :=
 ((ju ps i).filter λk=>decide (k<j)&&decide (w (i,k)+T (k-i-1) (i+1)+T (j-k-1) (k+1)=T (j-i) i)).map ν++(if T (j-i-1) (i+1)=T (j-i) i then [ξ] else [])
def Xv (ps:List (Nat×Nat))(w:Nat×Nat->Int)(T:Nat->Nat->Int)(i j:Nat):Option Nat->Prop
 |none=>T (j-i-1) (i+1)=T (j-i) i
 |some k=>(i,k)∈ps/\k<j/\w (i,k)+T (k-i-1) (i+1)+T (j-k-1) (k+1)=T (j-i) i
def c5 {ps:List (Nat×Nat)}{w:Nat×Nat->Int}{T:Nat->Nat->Int}{i j:Nat}{c:Option Nat}(h:c∈dS ps w T i j):Xv ps w T i j c:=by
 unfold dS at h;rcases ZT.mp h with h|h
 ·obtain⟨k,hk,rfl⟩:=Z0.mp h;obtain⟨h1,h2⟩:=ZY.mp hk;rw[aaK,decide_eq_true_eq,decide_eq_true_eq]at h2;exact{cD.mp h1,h2.1,h2.2}
 ·split at h
  ·next e=>rw[ZJ.mp h];exact e
  ·cases h
def EN {ps:List (Nat×Nat)}{w:Nat×Nat->Int}(hp:∀p∈ps,p.1<p.2){i j:Nat}(h:i<j):dS ps w (tW ps w) i j≠[]:=by
 have e:tW ps w (j-i) i=jI ps w (tW ps w) i j:=by rw[show j-i=(j-i-1)+1 by lia,me hp,show i+(j-i-1)+1=j by lia]
 obtain⟨h1,_,_⟩:=qq (ps:=ps) (w:=w) (T:=tW ps w) (i:=i) (j:=j);rw[<- e]at h1;unfold dS;intro z;obtain⟨z1,z2⟩:=List.append_eq_nil_iff.mp z;rcases h1 with q|⟨k,hk,hj,q⟩
 ·rw[χ q.symm]at z2;cases z2
 ·have:k∈(ju ps i).filter λk=>decide (k<j)&&decide (w (i,k)+tW ps w (k-i-1) (i+1)+tW ps w (j-k-1) (k+1)=tW ps w (j-i) i):=ZY.mpr {cD.mpr hk,by rw[aaK,decide_eq_true_eq,decide_eq_true_eq];exact{(hj),q.symm}}
  rw[List.map_eq_nil_iff.mp z1]at this;cases this
def gK (ps:List (Nat×Nat))(w:Nat×Nat->Int)(i j:Nat):Option Nat:=(dS ps w (tW ps w) i j).headD ξ
def fV {ps:List (Nat×Nat)}{w:Nat×Nat->Int}(hp:∀p∈ps,p.1<p.2){i j:Nat}(h:i<j):gK ps w i j∈dS ps w (tW ps w) i j:=by
 have:=EN (w:=w) hp h;unfold gK;cases q:dS ps w (tW ps w) i j with
 |nil=>exact Η q this
 |cons a l=>simp
noncomputable def pG (ps:List (Nat×Nat))(w:Nat×Nat->Int):Nat->Nat->Nat->List (Nat×Nat)
 |0,_,_=>[]
 |n+1,i,j=>if i<j then match gK ps w i j with
   |none=>pG ps w n (i+1) j
   |some k=>(i,k)::(pG ps w n (i+1) k++pG ps w n (k+1) j)
  else []
theorem d7 {ps:List (Nat×Nat)}{w:Nat×Nat->Int}(hp:∀p∈ps,p.1<p.2):∀{n m i j:Nat},j-i<=n->j-i<=m->pG ps w n i j=pG ps w m i j
 |0,0,_,_,_,_=>rfl
 |0,m+1,i,j,h,_=>by unfold pG;rw[ω (by omega)]
 |n+1,0,i,j,_,h=>by unfold pG;rw[ω (by omega)]
 |n+1,m+1,i,j,h1,h2=>by
  unfold pG
  by_cases h:i<j
  ·rw[χ h,χ h];have hm:=c5 (fV (w:=w) hp h);cases q:gK ps w i j with
   |none=>exact d7 hp (by omega) (by omega)
   |some k =>
    rw[q]at hm;have:=hp _ hm.1;dsimp only at this;have h3:=hm.2.1;dsimp only;rw[d7 hp (n:=n) (m:=m) (i:=i+1) (j:=k) (by omega) (by omega),d7 hp (n:=n) (m:=m) (i:=k+1) (j:=j) (by omega) (by omega)]
  ·rw[ω h,ω h]
def l0 (ps:List (Nat×Nat))(w:Nat×Nat->Int)(i j:Nat):List (Nat×Nat):=pG ps w (j-i) i j
def jR {ps:List (Nat×Nat)}{w:Nat×Nat->Int}{i j:Nat}(h:¬ i<j):l0 ps w i j=[]:=by
 unfold l0;rw[show j-i=0 by lia]
 rfl
theorem qF {ps:List (Nat×Nat)}{w:Nat×Nat->Int}(hp:∀p∈ps,p.1<p.2){i j:Nat}(h:i<j):l0 ps w i j=match gK ps w i j with
  |none=>l0 ps w (i+1) j
  |some k=>(i,k)::(l0 ps w (i+1) k++l0 ps w (k+1) j):=by
 unfold l0;rw[show j-i=(j-i-1)+1 by lia]
 conv=>lhs;unfold pG
 rw[χ h];have hm:=c5 (fV (w:=w) hp h);cases q:gK ps w i j with
 |none=>exact d7 hp (by lia) (by lia)
 |some k =>
  rw[q]at hm;have:=hp _ hm.1;dsimp only at this;have h3:=hm.2.1;dsimp only;rw[d7 hp (n:=j-i-1) (m:=k-(i+1)) (i:=i+1) (j:=k) (by lia) (by lia),d7 hp (n:=j-i-1) (m:=j-(k+1)) (i:=k+1) (j:=j) (by lia) (by lia)]
def oA:FD:=λds R=>∃(i:Nat) (k:Option Nat) (j:Nat),ds=[.int i,oD k,.int j]/\R (.lst ((parts i k j).map ND))
def oA.mono:dy oA:=λds R R' k h=>by obtain⟨i,c,j,e,q⟩:=h;exact{i,c,j,e,k _ q}
def uY:FD:=λds R=>∃(n:Nat) (ps:List (Nat×Nat)) (w:Nat×Nat->Int) (T:Nat->Nat->Int) (i j:Nat),ds=[Cp n ps,wD ps w,jQ n T,.int i,.int j]/\Bf n ps/\i<j/\j<=n/\R (.lst ((dS ps w T i j).map oD))
def uY.mono:dy uY:=λds R R' k h=>by obtain⟨n,ps,w,T,i,j,e,h1,h2,h3,q⟩:=h;exact{n,ps,w,T,i,j,e,h1,h2,h3,k _ q}
abbrev vF (l:List Nat):List D:=l.map λp:Nat=>D.int (p:Int)
section
variable {ps:List (Nat×Nat)}
def mX (ps:List (Nat×Nat))(i j:Nat):Int:=tW ps w1 (j-i) i
def cE {i j:Nat}(h:j<=i):mX ps i j=0:=by unfold mX;rw[show j-i=0 by lia];rfl
def mC {l:List Int}{m:Int}(h:fR l=ν m):m∈l/\∀x∈l,x<=m:=by
 cases l with
 |nil=>cases h
 |cons a l=>cases h;exact cn l a
def yB {l:List Int}{m:Int}(h1:m∈l)(h2:∀x∈l,x<=m):fR l=ν m:=by
 cases h:fR l with
 |none=>cases l with|nil=>cases h1|cons a l=>cases h
 |some k =>
  obtain⟨g1,g2⟩:=mC h;have:=h2 _ g1;have:=g2 _ h1;rw[show k=m by lia]
def rS (hp:∀p∈ps,p.1<p.2){i j:Nat}(h:i<j):fR ((((ju ps i).filter λk=>decide (k<j)).map λk=>1+mX ps (i+1) k+mX ps (k+1) j)++[mX ps (i+1) j])=ν (mX ps i j):=by
 have e:mX ps i j=jI ps w1 (tW ps w1) i j:=by
  unfold mX;rw[show j-i=(j-i-1)+1 by lia,me hp,show i+(j-i-1)+1=j by lia]
 rw[e];unfold jI;rw[<- ql];have e2:(((ju ps i).filter λk=>decide (k<j)).map λk=>1+mX ps (i+1) k+mX ps (k+1) j)=((ju ps i).filter λk=>decide (k<j)).map λk=>w1 (i,k)+tW ps w1 (k-i-1) (i+1)+tW ps w1 (j-k-1) (k+1):=by
  refine aal λk _=>?_;unfold mX;rw[show k-(i+1)=k-i-1 by lia,show j-(k+1)=j-k-1 by lia]
  rfl
 rw[e2];unfold mX;rw[show j-(i+1)=j-i-1 by lia]
def jG (hp:∀p∈ps,p.1<p.2){i j:Nat}(h:i<j):mX ps (i+1) j<=mX ps i j:=(mC (rS hp h)).2 _ (by simp)
def kB (hp:∀p∈ps,p.1<p.2){i j k:Nat}(h:(i,k)∈ps)(hk:k<j):1+mX ps (i+1) k+mX ps (k+1) j<=mX ps i j:=by
 have DP:=hp _ h;dsimp only at DP;refine(mC (rS hp (show i<j by lia))).2 _ (aaA _ (Z0.mpr {k,ZY.mpr {cD.mpr h,Γ hk},rfl}))
def nM (hp:∀p∈ps,p.1<p.2){i j:Nat}(h:i<j):mX ps i j=mX ps (i+1) j\/∃k,(i,k)∈ps/\k<j/\mX ps i j=1+mX ps (i+1) k+mX ps (k+1) j:=by
 rcases ZT.mp (mC (rS hp h)).1 with z|z
 ·obtain⟨k,hk,e⟩:=Z0.mp z;obtain⟨h1,h2⟩:=ZY.mp hk;exact .inr {k,cD.mp h1,of_decide_eq_true h2,e.symm}
 ·exact .inl (ZJ.mp z)
theorem H9 (hp:∀p∈ps,p.1<p.2):∀len i,0<=tW ps w1 len i
 |0,_=>Int.le_refl 0
 |l+1,i=>by
  rw[me hp];have h:=(qq (ps:=ps) (w:=w1) (T:=tW ps w1) (i:=i) (j:=i+l+1)).2.1;rw[show i+l+1-i-1=l by lia]at h
  exact Int.le_trans (H9 hp l (i+1)) h
def C_ (hp:∀p∈ps,p.1<p.2){i j:Nat}:0<=mX ps i j:=H9 hp (j-i) i
theorem gD (hp:∀p∈ps,p.1<p.2):∀(n i j:Nat),j-i<=n->i<j->mX ps i (j-1)<=mX ps i j
 |0,i,j,h,aG=>by lia
 |n+1,i,j,h,aG=>by
  by_cases e:i=j-1
  ·rw[cE (by lia)];exact C_ hp
  ·have s:=jG hp aG;rcases nM hp (show i<j-1 by lia)with z|⟨k,h1,h2,z⟩
   ·have:=gD hp n (i+1) j (by lia) (by lia)
    lia
   ·have DP:=hp _ h1;dsimp only at DP;have:=gD hp n (k+1) j (by lia) (by lia)
    have:=kB hp h1 (show k<j by lia)
    lia
theorem hX (hp:∀p∈ps,p.1<p.2){a j:Nat}(ha:(a,j-1)∈ps)(hj:0<j):∀(n i:Nat),j-i<=n->i<=a->mX ps i a+1+mX ps (a+1) (j-1)<=mX ps i j
 |0,i,h,hi=>by have:=hp _ ha;dsimp only at this;lia
 |n+1,i,h,hi=>by
  have Yt:=hp _ ha;dsimp only at Yt
  by_cases e:i=a
  ·subst e;have t:=kB hp ha (show j-1<j by lia)
   rw[cE (ZG i)];rw[cE (i:=j-1+1) (by lia)]at t
   lia
  ·have s:=jG hp (show i<j by lia)
   rcases nM hp (show i<a by lia)with z|⟨k,h1,h2,z⟩
   ·have:=hX hp ha hj n (i+1) (by lia) (by lia)
    lia
   ·have DP:=hp _ h1;dsimp only at DP;have:=hX hp ha hj n (k+1) (by lia) (by lia)
    have:=kB hp h1 (show k<j by lia)
    lia
theorem kG (hp:∀p∈ps,p.1<p.2):∀(n i j:Nat),j-i<=n->i<j->mX ps i j=mX ps i (j-1)\/∃a,(a,j-1)∈ps/\i<=a/\mX ps i j=mX ps i a+1+mX ps (a+1) (j-1)
 |0,i,j,h,aG=>by lia
 |n+1,i,j,h,aG=>by
  have rs:=gD hp (j-i) i j (ZG _) aG;rcases nM hp aG with z|⟨k,h1,h2,z⟩
  ·by_cases e:i+1=j
   ·left
    rw[cE (i:=i+1) (by lia)]at z
    rw[cE (i:=i) (j:=j-1) (by lia)]
    exact z
   ·have s:=jG hp (show i<j-1 by lia)
    rcases kG hp n (i+1) j (by lia) (by lia)with y|⟨a,h1,h2,y⟩
    ·left;lia
    ·right
     have s2:=jG hp (show i<a by lia)
     have t:=hX hp h1 (by lia) (j-i) i (ZG _) (by lia)
     exact{a,h1,by lia,by lia}
  ·have DP:=hp _ h1;dsimp only at DP
   by_cases e:k=j-1
   ·right
    subst e;refine{i,h1,ZG _,?_};rw[cE (i:=j-1+1) (by lia)]at z
    rw[cE (ZG i)];lia
   ·rcases kG hp n (k+1) j (by lia) (by lia)with y|⟨a,g1,g2,y⟩
    ·left
     have:=kB hp h1 (show k<j-1 by lia)
     lia
    ·right
     have:=kB hp h1 (show k<a by lia)
     have t:=hX hp g1 (by lia) (j-i) i (ZG _) (by lia)
     exact{a,g1,by lia,by lia}
def C9 (hp:∀p∈ps,p.1<p.2){i j:Nat}(h:i<j):fR ([mX ps i (j-1)]++(((near ps (j-1)).filter λa=>decide (i<=a)).map λa=>mX ps i a+1+mX ps (a+1) (j-1)))=ν (mX ps i j):=by
 refine yB ?_ λx hx=>?_
 ·rcases kG hp (j-i) i j (ZG _) h with z|⟨a,h1,h2,z⟩
  ·rw[z];simp
  ·exact aaa _ (Z0.mpr {a,ZY.mpr {bq.mpr h1,Γ h2},z.symm})
 ·rcases ZT.mp hx with z|z
  ·rw[ZJ.mp z];exact gD hp (j-i) i j (ZG _) h
  ·obtain⟨a,ha,rfl⟩:=Z0.mp z;obtain⟨h1,h2⟩:=ZY.mp ha;exact hX hp (bq.mp h1) (by lia) (j-i) i (ZG _) (of_decide_eq_true h2)
end
def qk {l:List Int}{m:Int}(h:fR l=ν m):de fR [.lst (l.map D.int)]=ν (.int m):=iZ h
end L2.Q
namespace QU
open PySem PySem.Spec PyProof.Rows TS
def mE:List (List Int)->List (List Int)->Bool
 |[],y=>decide (0<y.length)
 |_::_,[]=>η
 |a::x,b::y=>if a=b then mE x y else HT.lexLt a b
def hZ {b:List Int}{y:List (List Int)}:mE [] (b::y)=ζ:=Γ (Nat.succ_pos _)
def gF {a b:List Int}{x y:List (List Int)}:mE (a::x) (b::y)=if a=b then mE x y else HT.lexLt a b:=rfl
theorem nP:∀{x y:List (List Int)},mE x y=ζ->mE y x=η
 |[],[],h=>by cases h
 |[],_::_,_=>rfl
 |_::_,[],h=>by cases h
 |a::x,b::y,h=>by
  rw[gF]at h ⊢
  by_cases e:a=b
  ·subst e;rw[χ rfl]at h ⊢;exact nP h
  ·rw[ω e]at h;rw[ω (aa1 e)];exact nS h
theorem rT:∀{x z:List (List Int)} (y:List (List Int)),mE x z=ζ->mE x y=ζ\/mE y z=ζ
 |[],[],_,h=>by cases h
 |_::_,[],_,h=>by cases h
 |[],_::_,[],_=>.inr hZ
 |[],_::_,_::_,_=>.inl hZ
 |_::_,_::_,[],_=>.inr hZ
 |a::x,c::z,b::y,h=>by
  rw[gF]at h ⊢
  rw[gF]
  by_cases e:a=c
  ·subst e;rw[χ rfl]at h
   by_cases e2:a=b
   ·subst e2;rw[χ rfl,χ rfl];exact rT y h
   ·rw[ω e2,ω (aa1 e2)];cases h1:HT.lexLt a b with
    |true=>exact .inl rfl
    |false =>
     cases h2:HT.lexLt b a with
     |true=>exact .inr rfl
     |false=>exact Η (kJ h1 h2) e2
  ·rw[ω e]at h
   by_cases e2:a=b
   ·subst e2;rw[ω e];exact .inr h
   ·by_cases e3:b=c
    ·subst e3;rw[ω e2];exact .inl h
    ·rw[ω e2,ω e3];exact rW b h
theorem qr:∀{x y:List (List Int)},mE x y=η->mE y x=η->x=y
 |[],[],_,_=>rfl
 |[],_::_,h,_=>by rw[hZ]at h;cases h
 |_::_,[],_,h=>by rw[hZ]at h;cases h
 |a::x,b::y,h1,h2=>by
  rw[gF]at h1 h2
  by_cases e:a=b
  ·subst e;rw[χ rfl]at h1 h2;rw[qr h1 h2]
  ·rw[ω e]at h1;rw[ω (aa1 e)]at h2;exact Η (kJ h1 h2) e
section
variable {A:aaJ}{s:ZH}
def Eg {l b:θ}{items aF:Array ZF}{ns ms:List Int}(hl:IsTup s.heap l items)(hb:IsTup s.heap b aF)(hi:abl items.toList ns)(hj:abl aF.toList ms)(hu:A.units<abx):SeqAt.EqAt A s (.ref l) (.ref b) (decide (ns=ms)):=by
 by_cases e:ns=ms
 ·rw[Γ e]
  by_cases z:l=b
  ·subst z;exact SeqAt.EqAt.same _
  subst e;have q:=SeqAt.RcAt.tuples (e:=λj=>ζ) hl hb hu λj h1 h2=>by
   obtain⟨n,t,e1,e2⟩:=Q1.du hi (j:=j) (by simpa using h1)
   obtain⟨m,t',e3,e4⟩:=Q1.du hj (j:=j) (by simpa using h2)
   have US:items[j]=.int n t:=by simpa using e2
   have UR:aF[j]=.int m t':=by simpa using e4
   rw[e1]at e3;cases e3;rw[US,UR];have:=SeqAt.EqAt.int_int (A:=A.in1) (s:=s) n t n t';simpa using this
  have z1:items.size=ns.length:=by rw[<- hi.length];simp
  have z2:aF.size=ns.length:=by rw[<- hj.length];simp
  have ef:((ZK (min items.size aF.size)).all (λj=>ζ)&&items.size==aF.size)=ζ:=by
   rw[z1,z2];simp
  rw[ef]at q;exact SeqAt.EqAt.of_refs z q
 ·rw[Δ e];exact Q1.AK hl hb hi hj e hu
end
section
open PySem.SeqAt
open PySem.AutoSeq1 (wpAny_loadPart')
open PySem.MeetsSeq PySem.MeetsSeq2 PySem.MeetsSeq3
def Vi (A:aaJ)(s:ZH)(items aF:Array ZF)(ks ms:List (List Int)):Prop :=
 items.size=ks.length/\aF.size=ms.length/\∀(j:Nat) (h1:j<items.size) (h2:j<aF.size),EqAt A.in1 s items[j] aF[j] (decide (ks.getD j []=ms.getD j []))/\∀(prog:ZN) (w:Z4) (E:ZF->ZH->Prop) (Q:ZF->ZH->Prop),Q (.bool (HT.lexLt (ks.getD j []) (ms.getD j []))) s->aab (Ψ prog w) A.in1 (richCompare .Lt items[j] aF[j]) Q E s
def drop_getD {ks:List (List Int)}{i:Nat}(h:i<ks.length):ks.drop i=ks.getD i []::ks.drop (i+1):=by
 rw[aaL h,aa_,ZU h];rfl
def Dg (l b:θ)(items aF:Array ZF)(n n2:Nat)(dd Fg:Option θ)(sl E9:Array (Option ZF))(ks ms:List (List Int))(k:Nat):
  ∀i:Nat,items.size-i=k->i<=items.size->Meets (abM.«list.__eq__.loop» {[.ref l,.ref b,rawInt i,rawInt 0],[]})
   (λA R s=>s.heap.get? l=ν {cls:=.type "list",dict:=dd,data:=.seq items n,slots:=sl}/\s.heap.get? b=ν {cls:=.type "list",dict:=Fg,data:=.seq aF n2,slots:=E9} /\
    i<=aF.size/\Vi A s items aF ks ms/\R (.ok (.ret (.bool (mE (ks.drop i) (ms.drop i))))) s):=by
 have fin:∀i:Nat,i<=items.size->i<=aF.size->(i=items.size\/i=aF.size)->items.size=ks.length->aF.size=ms.length->mE (ks.drop i) (ms.drop i)=decide (items.size<aF.size):=λi h1 h2 h z1 z2=>by
  rcases h with h|h
  ·rw[abE (l:=ks) (by lia)]
   by_cases q:i<ms.length
   ·rw[drop_getD q,hZ,Γ (by lia)]
   ·rw[abE (l:=ms) (by lia),Δ (by lia)];rfl
  ·rw[abE (l:=ms) (by lia),Δ (by lia)]
   cases ks.drop i <;> rfl
 induction k with
 |zero =>
  intro i hk Um prog w A R s h;obtain⟨hp,g,d,tk,os⟩:=s;obtain⟨hl,hb,Hf,⟨z1,z2,he⟩,h⟩:=h;rw[fin i Um Hf (.inl (by lia)) z1 z2]at h
  wp_walk using aaB hl,aaB hb
  have IK:items[((i:Nat):Int).toNat]?=ξ:=by simp;lia
  rw[IK]
  wp_walk using aaB hl,aaB hb
  exact h
 |succ k ih =>
  intro i hk Um prog w A R s h;obtain⟨hp,g,d,tk,os⟩:=s;obtain⟨hl,hb,Hf,⟨z1,z2,he⟩,h⟩:=h;have d3:i<items.size:=by lia
  have IK:items[((i:Nat):Int).toNat]?=ν items[i]:=by simp[d3]
  by_cases LH:i<aF.size
  ·have LJ:aF[((i:Nat):Int).toNat]?=ν aF[i]:=by simp[LH]
   have hc:((i:Int)+1)=((i+1:Nat):Int):=by push_cast;rfl
   wp_walk using aaB hl,aaB hb
   rw[IK,LJ];obtain⟨e1,e2⟩:=he i d3 LH;refine ZD (e1 prog w _ _ ?_);rw[drop_getD (ks:=ks) (z1▸d3),drop_getD (ks:=ms) (z2▸LH),gF]at h
   by_cases q:ks.getD i []=ms.getD i []
   ·rw[χ q]at h;rw[Γ q]
    wp_walk
    rw[hc];exact⟨plainId_quiet plain_eq_loop _,ab3 entry_eq_loop (by
     rw[acg plain_eq_loop _];exact ih (i+1) (by lia) (by lia) prog w A R _ {hl,hb,by lia,{(z1),z2,he},h})⟩
   ·rw[ω q]at h;rw[Δ q]
    wp_walk using aaB hl,aaB hb
    rw[IK,LJ];have Th:=e2 prog w
    wp_walk using Th
    exact h
  ·rw[fin i Um Hf (.inr (by lia)) z1 z2]at h
   have LJ:aF[((i:Nat):Int).toNat]?=ξ:=by simp;lia
   wp_walk using aaB hl,aaB hb
   rw[IK,LJ]
   wp_walk using aaB hl,aaB hb
   exact h
def GW (l b:θ)(items aF:Array ZF)(n n2:Nat)(dd Fg:Option θ)(sl E9:Array (Option ZF))(ks ms:List (List Int)):
  Meets (abM.«list.__lt__» {[.ref l,.ref b],[]})
   (λA R s=>s.heap.get? l=ν {cls:=.type "list",dict:=dd,data:=.seq items n,slots:=sl}/\s.heap.get? b=ν {cls:=.type "list",dict:=Fg,data:=.seq aF n2,slots:=E9} /\
    Vi A s items aF ks ms/\R (.ok (.ret (.bool (mE ks ms)))) s):=by
 intro prog w A R s h;obtain⟨hp,g,d,tk,os⟩:=s;obtain⟨hl,hb,he,h⟩:=h;have f3:=AutoSeq1.sub_list_list
 wp_walk using aaB hl,aaB hb
 exact⟨plainId_quiet plain_eq_loop _,ab3 entry_eq_loop (by
  rw[acg plain_eq_loop _];exact Dg l b items aF n n2 dd Fg sl E9 ks ms _ 0 rfl (ZW _) prog w A R _ {hl,hb,ZW _,he,h})⟩
end
section
variable {prog:ZN}{w:Z4}{A:aaJ}{E:ZF->ZH->Prop}{s:ZH}
def BZ {x:ZF}{vs:List ZF}{κ:abU}{c:ZF->ZF->Bool}{Q:ZF->ZH->Prop}(hz:vs.length<=1000000)
  (col:∀(R:List ZF->ZH->Prop),(∀(h':Heap) (tk:Nat),(∀b o,s.heap.get? b=ν o->h'.get? b=ν o)->s.heap.objs.size<=h'.objs.size->R vs {s with heap:=h',toks:=tk})->aab (Ψ prog w) A.in1 (collect x) R E s)
  (O:cz λx y=>c x.1 y.1)
  (T:∀s':ZH,(∀t o,s.heap.get? t=ν o->s'.heap.get? t=ν o)->(2<=vs.length->∀(Q:abU->ZH->Prop),Q κ s'->aab (Ψ prog w) A.in1.in1 (keyKind' vs.toArray) Q E s')/\fk prog w A.in1.in1 E s' κ (λx y=>c x.1 y.1) (·∈(vs.toArray.zip vs.toArray).toList))
  (h:∀(out:List ZF) (l:θ) (h':Heap) (tk:Nat) (n:Nat),out.Perm vs->out.Pairwise (λx y=>c y x=η)->s.heap.objs.size<=l->(∀b o,s.heap.get? b=ν o->h'.get? b=ν o)->h'.get? l=ν (abC "list" out.toArray n)->Q (.ref l) {s with heap:=h',toks:=tk}) :
  aab (Ψ prog w) A (call (.builtin "sorted") [x]) Q E s:=by
 refine acZ kind_sorted plain_sorted entry_sorted (args_sorted1 _) ?_;unfold abM.«sorted»
 refine ZD (m:=checkCount "sorted" 1 1 _) (ZL ?_);refine ZD (col _ λh' tk kp SI=>?_);have nl:vs.length<=Z3:=by rw[aaQ];lia
 refine ZD (wpAny_newList ?_ nl);have hl:(h'.push (abC "list" vs.toArray 0)).get? h'.objs.size=ν (abC "list" vs.toArray 0):=Z8 _ rfl;refine ZD (aa6 (aa3 slot_list_sort {_,hl,rfl} entry_list_sort (nR (κ:=κ) (c:=c) (s:={s with heap:=h'.push (abC "list" vs.toArray 0),toks:=tk}) hl hz O (λs' k=>T s' λt o e=>k t o (aak (Z6 (kp _ _ e))) (ZM _ (kp _ _ e))) λout hp hs=>{_,rfl,?_}) (args_list_sort _)))
 obtain⟨n,hn⟩:=sortedHeap_at (out:=out.toArray) hl;refine ZL {_,rfl,h out h'.objs.size _ tk n hp hs SI (λb o e=>?_) hn};have hb:=Z6 (kp _ _ e);rw[sortedHeap_old (aak hb) (by rw[size_push'];exact ab9 hb)]
 exact ZM _ (kp _ _ e)
def Bg (h:Heap)(kl:ZF->List (List Int))(vs:List ZF):Prop :=
 ∀v∈vs,∃t its,v=.ref t/\h.IsList t its/\its.size=(kl v).length/\∀j (hj:j<its.size),∃q xs,its[j]=.ref q/\IsTup h q xs/\abl xs.toList ((kl v).getD j [])
def Bg.keep {h h':Heap}{kl:ZF->List (List Int)}{vs:List ZF}(L:Bg h kl vs)(k:∀t o,h.get? t=ν o->h'.get? t=ν o):Bg h' kl vs:=λv hv=>by
 obtain⟨t,its,e,⟨o,ho,r⟩,hz,hj⟩:=L v hv;refine{t,its,e,{o,k _ _ ho,r},hz,λj Fe=>?_};obtain⟨q,xs,e1,⟨o2,IF,r2⟩,e3⟩:=hj j Fe;exact{q,xs,e1,{o2,k _ _ IF,r2},e3}
def Ma {h:ZH}{kl:ZF->List (List Int)}{v v':ZF}{its its':Array ZF}(hu:A.units+1<abx)(hz:its.size=(kl v).length)(Lh:its'.size=(kl v').length)
  (hj:∀j (hj:j<its.size),∃q xs,its[j]=.ref q/\IsTup h.heap q xs/\abl xs.toList ((kl v).getD j [])) (Fe:∀j (hj:j<its'.size),∃q xs,its'[j]=.ref q/\IsTup h.heap q xs/\abl xs.toList ((kl v').getD j [])):Vi A h its its' (kl v) (kl v'):=by
 refine{hz,Lh,λj h1 h2=>?_};obtain⟨q,xs,e1,t1,n1⟩:=hj j h1;obtain⟨q',Qg,UT,Vq,VQ⟩:=Fe j h2;rw[e1,UT];exact{Eg t1 Vq n1 VQ hu,λprog w E Q hQ=>HT.wM t1 Vq n1 VQ hu hQ}
def wL {kl:ZF->List (List Int)}{vs:List ZF}{a₀:Array ZQ}(hu:A.units+1<abx)(T:Bg s.heap kl vs)(hm:∀z∈a₀.toList,z.1∈vs):fk prog w A E s oneType' (λx y=>mE (kl x.1) (kl y.1)) (·∈a₀.toList):=by
 intro x y st Q hx hy hk q;obtain⟨t,its,e,l1,hz,hj⟩:=T _ (hm _ hx);obtain⟨t',its',e',XM,Lh,Fe⟩:=T _ (hm _ hy);have cm:=Ma (A:=A) hu hz Lh hj Fe;rw[lt'_eq];refine ZV (acM ?_);rw[hk,keyLt'_oneType,oneLt'_eq,χ rfl,e,e'];have q:Q (ν (mE (kl x.1) (kl y.1))) st:=q;rw[e,e']at cm q;obtain⟨⟨cls,dd,data,sl⟩,ho,lY,n,QK⟩:=id l1;obtain⟨⟨U0,Fg,data2,E9⟩,IF,pE,n',hd2⟩:=id XM;simp only at lY QK pE hd2;subst lY QK pE hd2;refine ZV (ac9 (acz (ZD (wpAny_cRoomFor (Nat.lt_of_succ_lt hu) (ZD (wpAny_callSpecialIfBound?_slot (T:="list") {_,ho,rfl} PySem.F.slot_list_lt
  (call_meets PySem.F.slot_list_lt {_,ho,rfl} PySem.F.entry_list_lt (PySem.F.args_list_lt_2 _ _) (GW _ _ its its' n n' dd Fg sl E9 (kl (.ref t)) (kl (.ref t'))) {ho,IF,cm,?_})))))))
 exact abf {rfl,Z5 q}
def wQ {kl:ZF->List (List Int)}{vs:List ZF}{Q:abU->ZH->Prop}(T:Bg s.heap kl vs)(h2:2<=vs.length)(q:Q oneType' s):aab (Ψ prog w) A (keyKind' vs.toArray) Q E s :=
 PySem.W.kas_kind (T:=.type "list") h2 (λv hv=>by
  obtain⟨t,its,rfl,⟨o,ho,hc,_⟩,_⟩:=T v hv;exact hc▸(PySem.W.Looks.ld ho).andThen .now) (by decide) (by decide) q
end
def Gi (kl:ZF->List (List Int)):cz λ(x y:ZQ)=>mE (kl x.1) (kl y.1):={λ_ _ h=>nP h,λ_ y _ h=>rT (kl y.1) h}
end QU
namespace L2
open PySem PySem.Spec PyProof.Rows QU
abbrev lD (ks:List (List Int)):D:=.lst (ks.map kD)
def uo:List D->Option (List (List (List Int)))
 |[]=>ν []
 |d::ds=>(d.uq.bind dO).bind λk=>(uo ds).map (k::·)
theorem um:∀{ds:List D} {lW:List (List (List Int))},uo ds=ν lW->ds=lW.map lD/\∀ks∈lW,∀k∈ks,k≠[]
 |[],_,h=>by cases h;exact{rfl,λ_ z=>nomatch z}
 |d::ds,lW,h=>by
  obtain⟨k,h1,h2⟩:=aaC.mp h;obtain⟨es,h3,h4⟩:=aaC.mp h1;obtain⟨r,h5,rfl⟩:=ZR.mp h2;obtain⟨e1,e2⟩:=um h5;obtain⟨f1,f2⟩:=jL h4;rw[D.mD h3,e1,f1];refine{rfl,λks hk=>?_};rcases ZI.mp hk with rfl|hk
  ·exact f2
  ·exact e2 ks hk
theorem qo:∀{lW:List (List (List Int))},(∀ks∈lW,∀k∈ks,k≠[])->uo (lW.map lD)=ν lW
 |[],_=>rfl
 |ks::lW,h=>by
  show (dO (ks.map kD)).bind _=_;rw[ia (h ks (ZO ..)),abb,qo λx hx=>h x (ZP _ hx)];rfl
def zH (lW:List (List (List Int))):List (List (List Int)):=lW.mergeSort λa b=>!mE b a
def fu (lW:List (List (List Int))):(zH lW).Perm lW:=List.mergeSort_perm _ _
def zG (lW:List (List (List Int))):(zH lW).Pairwise λa b=>mE b a=η:=by
 refine(List.pairwise_mergeSort (le:=λa b=>!mE b a) (λa b c h1 h2=>?_) (λa b=>?_) lW).imp λ{a b} h=>by simpa using h
 ·simp only[abQ]at h1 h2 ⊢
  cases q:mE c a with
  |false=>rfl
  |true =>
   rcases rT b q with z|z
   ·rw[z]at h2;cases h2
   ·rw[z]at h1;cases h1
 ·cases q:mE b a with
  |false=>rfl
  |true=>rw[nP q];rfl
def FJ {a b:List (List (List Int))}(p:a.Perm b)(h:a.Pairwise λx y=>mE y x=η):a=zH b :=
 List.Perm.eq_of_pairwise (λx y _ _ h1 h2=>qr h2 h1) h (zG b) (p.trans (fu b).symm)
def Et:List D->Option D
 |[d]=>d.uq.bind λds=>(uo ds).bind λlW=>if lW.length<=1000000 then ν (.lst ((zH lW).map lD)) else ξ
 |_=>ξ
abbrev AL:=θ×List (List Int)
def ux (H:Hp):ZF->List (List Int)
 |.ref t=>match H t with
  |some (.lst xs)=>xs.map fun
   |.ref q=>uy H (.ref q)
   |_=>[]
  |_=>[]
 |_=>[]
def gL (H:Hp):ZF->AL
 |.ref t=>(t,ux H (.ref t))
 |_=>(0,[])
section
variable {P:ZN}{w:Z4}{W:θ->Prop}{H:Hp}
def Dk {t:θ}{ks:List (List Int)}(hk:∀k∈ks,k≠[])(r:az P w W H (lD ks) (.ref t)):ux H (.ref t)=ks/\∃ts:List (θ×List Int),H t=ν (.lst (ts.map rl))/\xA H ts/\ts.map (·.2)=ks:=by
 obtain⟨p,vs,e,hp,_,rs⟩:=r;cases e;obtain⟨ts,rfl,T,rfl⟩:=h_ hk rs;refine{?_,ts,hp,T,rfl};unfold ux;dsimp only;rw[hp];dsimp only;rw[aaR];exact aal λx hx=>jK (T x hx).1
theorem qm:∀{lW:List (List (List Int))} {vs:List V},ai P w W H (lW.map lD) vs->∃ts:List AL,vs=ts.map (λt=>V.ref t.1)/\ts.map (·.2)=lW/\∀t∈ts,az P w W H (lD t.2) (.ref t.1)
 |[],_,h=>{[],h,rfl,λ_ z=>nomatch z}
 |ks::lW,_,⟨v,r,e,h1,h2⟩=>by
  obtain⟨ts,q1,q2,q3⟩:=qm h2;obtain⟨a,us,rfl,_⟩:=id h1;refine{(a,ks)::ts,by rw[e,q1];rfl,by rw[aae,q2],λt ht=>?_}
  rcases ZI.mp ht with rfl|ht
  ·exact h1
  ·exact q3 t ht
theorem qb:∀{ts:List AL},(∀t∈ts,az P w W H (lD t.2) (.ref t.1))->ai P w W H ((ts.map (·.2)).map lD) (ts.map λt=>V.ref t.1)
 |[],_=>rfl
 |t::ts,h=>{_,_,rfl,h t (ZO ..),qb λx hx=>h x (ZP _ hx)}
end
theorem sU:∀{ts:List AL} {us:List ZF},Vals (ts.map λt=>V.ref t.1) us->us=ts.map λt=>Φ t.1
 |[],_,.nil=>rfl
 |t::ts,_,.cons r q=>by
  rw[aae,<- sU q];cases r;rfl
theorem vp:∀(ts:List AL),Vals (ts.map λt=>V.ref t.1) (ts.map λt=>Φ t.1)
 |[]=>.nil
 |t::ts=>.cons rfl (vp ts)
section
variable {X:Cx}
def sv (hu:X.A.units+16<abx):bO X (.builtin "sorted") Et:=by
 intro μ s σ H xs us Q I r h;obtain⟨W,ds,d,hd,r1,e,q⟩:=h
 match ds,e with
 |[x],e =>
  obtain⟨es,e1,e2⟩:=aaC.mp (show x.uq.bind _=ν d from e)
  obtain⟨lW,e3,e4⟩:=aaC.mp e2;obtain⟨hz,rfl⟩:=cU e4;obtain⟨rfl,hk⟩:=um e3;rw[D.mD e1]at r1;obtain⟨x,rfl,p,vs,rfl,hp,n1,q1⟩:=j4 r1;obtain⟨ts,rfl,rfl,T⟩:=qm q1;obtain⟨u,rfl,rx⟩:=vals1 r;cases rx;obtain⟨its,r',pl,hl⟩:=I.list (dJ.of hp);obtain rfl:=sU r';rw[ZE]at hz;have nl:(ts.map λt=>Φ t.1).length<=Z3:=by rw[ZE,aaQ];lia
  have kt:∀t∈ts,∀k∈t.2,k≠[]:=λt ht=>hk t.2 (Z0.mpr {(t),ht,rfl});have kl:∀t∈ts,ux H (.ref t.1)=t.2:=λt ht=>(Dk (kt t ht) (T t ht)).1;have LL:Bg s.heap (ux H) (ts.map λt=>Φ t.1):=λv hv=>by
   obtain⟨t,ht,rfl⟩:=Z0.mp hv;obtain⟨e5,tt,h5,T5,e6⟩:=Dk (kt t ht) (T t ht);obtain⟨i5,r5,l5,_⟩:=I.list (dJ.of h5);obtain rfl:=gV r5;refine{t.1,_,rfl,l5.isList,by rw[e5,<- e6];simp,λj hj=>?_}
   have Fe:j<tt.length:=by simpa using hj
   obtain⟨h6,_⟩:=T5 tt[j] (abV Fe);obtain⟨i6,r6,l6,_⟩:=I.tuple (lh.of h6);refine{tt[j].1,_,by simp,l6,?_}
   rw[e5,<- e6,show (tt.map (·.2)).getD j []=tt[j].2 by simp[aa_,Fe]]
   exact intsAre_of (by simpa using r6)
  refine BZ (κ:=oneType') (c:=λx y=>mE (ux H x) (ux H y)) (by rw[ZE];exact hz) (λR hR=>?_) (Gi _) (λs' k=>⟨λh2 Q q=>wQ (LL.keep k) h2 q,wL (by
   show X.A.units+1+1+1<abx;exact ab0 (by lia) hu) (LL.keep k) λz hz=>by
   rw[adi]at hz;exact(acI hz).1⟩) λout l h' tk n hp hs hle kp ho=>?_
  ·refine collect_list pl.isList (hR _ s.toks (λb o e=>?_) ?_) nl
   ·have hb:=Z6 e;rw[Heap.get?_update_ne _ _ _ _ (aak hb)];exact ZM _ e
   ·rw[Heap.size_update,size_push'];exact Nat.le_succ _
  ·have o1:out=(out.map (gL H)).map (λt=>Φ t.1):=by
    rw[aaR];refine(aal (g:=id) λv hv=>?_).trans (List.map_id _) |>.symm
    obtain⟨t,ht,rfl⟩:=Z0.mp (hp.mem_iff.mp hv);rfl
   have o2:(out.map (gL H)).Perm ts:=by
    refine(hp.map (gL H)).trans (acK ?_);rw[aaR];refine(aal (g:=id) λt ht=>?_).trans (List.map_id _);show (t.1,ux H (.ref t.1))=t;rw[kl t ht]
   have zl:out.length=ts.length:=by rw[hp.length_eq,ZE]
   have hf:H l=ξ:=I.bp.fresh hle;have eq:(out.map (gL H)).map (·.2)=zH (ts.map (·.2)):=FJ (o2.map _) (by
    rw[aaR,aa7];refine hs.imp_of_mem λ{x y} hx hy hh=>?_;obtain⟨t,ht,rfl⟩:=Z0.mp (hp.mem_iff.mp hx);obtain⟨t',V1,rfl⟩:=Z0.mp (hp.mem_iff.mp hy);exact hh)
   rw[<- eq]at q;refine{.ref l,_,I.laid (t':=tk) (o:=.lst ((out.map (gL H)).map λt=>V.ref t.1)) kp hle ?_,rfl,q _ _ (au.new hf) (Rp.gE hd hf (qb λt ht=>T t (o2.mem_iff.mp ht)))};refine{by rw[ZE,ZE,zl,aaQ];lia,out,n,?_,ho}
   have:=vp (out.map (gL H));rw[<- o1]at this;exact this
end
end L2
namespace L2.Q
open PySem PySem.Spec PySem.SeqAt PyProof.Rows
section
variable {X:Cx}{C:Cfg}{e k k2:Expr}{φ φk φj:aM}{i:Nat}{x:Str}{pos pos' px kp:Pos}{p:Bool}
def tS (he:∀U,PQ X (C.u U) p e φ)(hk:∀U,PQ X (C.u U) ζ k φk)(hj:∀U,PQ X (C.u U) ζ k2 φj)(hn:Nm X i x:=by exact wG)
  (Ue:mN k:=by exact λ_ _=>rfl)
  (ha:∀v,assign (.Subscript (.Subscript (.Name x px) k kp) k2 pos') X.env v=(do
   let ov <- holding [v] (eval (.Subscript (.Name x px) k kp) X.env)
   let iv <- holding [v,ov] (eval k2 X.env)
   ac0 pos'
   holding [v,ov,iv] (setItem ov iv v)
   release [v,ov,iv] []):=by intro _;rfl) (hs:swapsWithSole [.Subscript (.Subscript (.Name x px) k kp) k2 pos'] e pos.line X.env=pure η:=by rfl) (hw:swappedStores [.Subscript (.Subscript (.Name x px) k kp) k2 pos'] e X.env=pure ξ:=by rfl)
  (h1:(abJ [.Subscript (.Subscript (.Name x px) k kp) k2 pos'] X.env).map (·.2)=[assign (.Subscript (.Subscript (.Name x px) k kp) k2 pos') X.env]:=by rfl) :
  PB X C (.Assign [.Subscript (.Subscript (.Name x px) k kp) k2 pos'] e pos) (λE β=>φ β λd kd β1=>d.flat=ζ/\(∃d0,β1[i]?=ν (ν (.own d0)))/\φk β1 λjd _ β2=>∃ds j m es,jd=.int j/\β2[i]?=ν (ν (.own (.lst ds)))/\wU ds.length j=ν m/\ds[m]?=ν (.lst es) /\
   φj β2 λid _ β3=>∃j2 m2,id=.int j2/\β3[i]?=ν (ν (.own (.lst ds)))/\wU es.length j2=ν m2/\E.nx (β3.set i (ν (.own (.lst (ds.set m (.lst (es.set m2 d)))))))):=by
 refine⟨λE E' β l q=>(he λ_=>False).mono _ _ _ (λd kd β1 h=>by
  obtain⟨f,h0,q⟩:=h;exact⟨f,h0,(hk λ_=>False).mono _ _ _ (λjd _ β2 h=>by
   obtain⟨ds,j,m,es,g1,g2,g3,g4,q⟩:=h;exact{ds,j,m,es,g1,g2,g3,g4,(hj λ_=>False).mono _ _ _ (λid _ β3 h=>by obtain⟨j2,m2,g5,g6,g7,q⟩:=h;exact{j2,m2,g5,g6,g7,l.nx _ q}) q}) q⟩) q,λμ s σ H De I ⟨Z,E,β,⟨own,sq,n⟩,q,ok⟩=>?_⟩
 refine nv (he λa=>H a=ξ).pe (rM (lG (pos:=kp) e9 (eE (pos:=px) hn) (hk λa=>H a=ξ).pe Ue) (hj λa=>H a=ξ).pe set_list ha) hs hw h1 μ s σ H De I ?_;refine tQ.of (he λa=>H a=ξ) (sq.mQ (C:=C.z) (U:=λa=>H a=ξ) λa z=>z) q λd kd β1 v H1 aC fA o r=>?_;obtain⟨f,⟨d0,Ff⟩,q⟩:=fA;obtain⟨v0,G_,_,_⟩:=o.sq.ow i d0 Ff;refine{v0,G_,tQ.of (hk λa=>H a=ξ) o.sq q λjd kk β2 kv H2 ba n9 o2 r2=>?_};obtain⟨ds,j,m,es,e1,hb,Yk,hm,q⟩:=n9;subst e1;cases r2.rep;obtain⟨v1,OC,ow,h0⟩:=o2.sq.ow i _ hb;rw[G_]at OC;cases OC;obtain⟨a,vs,c,us,B,rfl,q1,q2,q3,q4,q5,q6,q7,q8,q9⟩:=jB (l:=ζ) ow (o2.sq.lV i) hm;have QT:pP vs j=ν (.ref c):=by unfold pP;rw[q2,Yk];exact q3
 refine{a,vs,j,.ref c,rfl,rfl,dJ.of q1,QT,tQ.of (hj λa=>H a=ξ) o2.sq q λid kj β3 iv H3 NK wZ o3 r3=>?_};obtain⟨j2,m2,e2,Pw,LJ,q⟩:=wZ;subst e2;cases r3.rep;obtain⟨s3,e3⟩:=o3.pu rfl;subst e3;obtain⟨v2,VZ,Xs,Zy⟩:=o3.sq.ow i _ Pw;rw[G_]at VZ;cases VZ;obtain⟨a',vs',c',sJ,B',ea,p1,p2,p3,p4,p5,p6,p7,p8,p9⟩:=jB (l:=ζ) Xs (o3.sq.lV i) hm;cases ea;have e4:=s3 _ _ q1;rw[p1]at e4;cases e4;rw[q3]at p3;cases p3;have e5:=s3 _ _ q4;rw[p4]at e5;cases e5;have LG:m2<es.length:=rY LJ;have Yc:es[m2]?=ν es[m2]:=ZU LG;obtain⟨w0,B1,B2,B3,k1,rfl,k3,k4,k5⟩:=p6.split Yc;have MG:m2<us.length:=by rw[p6.length];exact LG
 have rf:Own X.prog X.w H3 d v []:=dq f (((az.flat (W':=λ_=>True) f r.rep).keep (o2.sn.k.mono λ_ _=>tv)).same s3);have Sf:aK X.prog X.w H3 (es.set m2 d) (us.set m2 v) (B1++([]++B3)):=by
  rw[abh,χ LG,abh,χ MG];exact k3.append {v,_,[],B3,rfl,rfl,rf,k5}
 have nd:=p8;obtain⟨n1,n2,n3⟩:=aaz.mp nd;obtain⟨n4,n5,n6⟩:=aaz.mp n2;obtain⟨A',g1,g2,g3⟩:=p9 (es.set m2 d) (us.set m2 v) (B1++([]++B3)) Sf (aaz.mpr {n1,n5,λx hx y hy=>n3 x hx y (aaa _ hy)})
  (λx hx=>.inl ((ZT.mp hx).elim (λz=>by simp[z]) λz=>by simp[show x∈B3 from z])) (λx hx=>(p7 x ((ZT.mp hx).elim (λz=>by simp[z]) λz=>by simp[show x∈B3 from z])).2)
 have hA:∀x∈A',x∈NK i\/(C.H0 x=ξ/\¬ Wn NK x/\H x=ξ):=λx hx=>by
  rcases g3 x hx with z|z
  ·exact .inl z
  ·exact .inl (p7 x ((ZT.mp z).elim (λz=>by simp[z]) λz=>by simp[show x∈B3 from z])).1
 exact{c,us,j2,m2,rfl,rfl,p4,by rw[p6.length];exact LJ,ok.nx _ _ _ {_,o3.sq.putIn (C:=C) (U:=λa=>H a=ξ) Pw G_ p5 g1 g2 hA,m_ (((n.trans o.sn).trans o2.sn).trans o3.sn) (λb z=>n.free z) {(i),p5} {_,p4,λxs z=>by cases z} hA} q}
end
def Gb {X:Cx}{C:Cfg}{a:List Stmt}{ψ:HX}(i:Nat)(h:zr X C a ψ):zr X C a (λE β=>∃d,β[i]?=ν (ν (.own d))/\ap ψ E (β.set i (ν (.val ζ d)))) :=
 ⟨λE E' β l q=>by obtain⟨d,e,q⟩:=q;exact{d,e,h.mono E E' _ l q},h.ps.pre λD σ H z=>by
  obtain⟨Z,E,β,⟨own,s,n⟩,⟨d,e,q⟩,ok⟩:=z;exact{Z,E,_,{_,s.freeze e,wb n},q,ok}⟩
inductive Jh:Nat->D->Prop
 |int {n:Nat} {i:Int}:Jh n (.int i)
 |tup {n:Nat} {es:List D} (l:es.length<=1000) (h:∀x∈es,Jh n x):Jh (n+1) (.tup es)
 |lst {n:Nat} {es:List D} (l:es.length<=1000) (h:∀x∈es,Jh n x):Jh (n+1) (.lst es)
def iY (n:Nat):FD:=λds R=>∃d,ds=[d,d]/\Jh n d/\R (.bl ζ)
def iY.mono {n:Nat}:dy (iY n):=λds R R' k h=>by obtain⟨d,e,h,q⟩:=h;exact{d,e,h,k _ q}
open Mx
def J3 {ps:List (Nat×Nat)}{i:Nat}(h:ps.Nodup):(ju ps i).Nodup:=by
 unfold ju;refine aa7.mpr (List.Pairwise.imp_of_mem ?_ (List.Pairwise.filter _ h));intro a b ha hb LQ e;have h1:=(ZY.mp ha).2;have h2:=(ZY.mp hb).2;simp only[decide_eq_true_eq]at h1 h2;exact LQ (Prod.ext (by rw[h1,h2]) e)
theorem C4:∀{n i:Nat} {l:List Nat},l.Nodup->(∀x∈l,i<=x/\x<i+n)->l.length<=n
 |0,i,l,_,h=>by
  cases l with
  |nil=>exact ZG _
  |cons x l=>have:=h x (by simp);lia
 |n+1,i,l,nd,h=>by
  have q:=C4 (n:=n) (i:=i) (nd.erase (i+n)) λx hx=>by
   have:=nd.mem_erase_iff.mp hx;have:=h x this.2;lia
  have:=List.length_erase (a:=i+n) (l:=l)
  split at this <;> lia
def vn {ps:List (Nat×Nat)}(hp:∀p∈ps,p.1<p.2)(nd:ps.Nodup){l i:Nat}:(dS ps w1 (tW ps w1) i (i+l+1)).length<=l+1:=by
 have h:((ju ps i).filter λk=>decide (k<i+l+1)&&decide (w1 (i,k)+tW ps w1 (k-i-1) (i+1)+tW ps w1 (i+l+1-k-1) (k+1)=tW ps w1 (i+l+1-i) i)).length<=l:=by
  have q:=C4 (i:=i+1) (n:=l) ((J3 (i:=i) nd).filter _) (l:=(ju ps i).filter λk=>decide (k<i+l+1)&&decide (w1 (i,k)+tW ps w1 (k-i-1) (i+1)+tW ps w1 (i+l+1-k-1) (k+1)=tW ps w1 (i+l+1-i) i)) λx hx=>by
   obtain⟨h1,h2⟩:=ZY.mp hx;have:=hp _ (cD.mp h1);dsimp only at this;rw[aaK,decide_eq_true_eq]at h2;lia
  exact q
 unfold dS;rw[aad,ZE]
 split <;> simp <;> lia
def Ce {a:Nat}{lo:Int}{c k:Nat}{d:D}(h:(lT lo c)[k]?=ν d)(hl:lo=(a:Int)):∃j:Nat,j=a+k/\d=.int (j:Int):=by
 obtain⟨_,rfl⟩:=bx h;exact{a+k,rfl,Ι D.int (by lia)}
def jH {γ:cJ}{τ:aV}{φ:aM}{ds ds':List D}{k:Kd}{β:a6}{K:List D->Prop}(e:ds=ds')(q:iB γ τ φ ds' k β K):iB γ τ φ ds k β K:=by rw[e];exact q
def pI {γ:cJ}{ψ:HX}{E:dB}{ds:List D}{k:Kd}{β:a6}(I:Nat->a6->Prop)(h0:I 0 β)(h1:∀E':dB,(∀d β,E.rt d β->E'.rt d β)->∀i:Nat,(∀β,I (i+1) β->E'.nx β)->∀d β,ds[i]?=ν d->I i β->γ d (sk k d) β λβ1=>ψ E' β1)
  (h2:∀β,I ds.length β->E.nx β):DX γ ψ E ds k β:={I,h0,λi d β e q=>h1 (E.lp (I (i+1))) (λ_ _ q=>q) i (λ_ q=>q) d β e q,h2}
end L2.Q
namespace o8
open PySem L2 L2.Q
section
variable {P:ZN}{w:Z4}{K:Ξ}{mg:Str->Option ZF}{base:Heap}
def ik:aL ["many"] ["many"] (ay bU):=mkS
def Gu {l3 gb}(y_:D4 K mg l3 gb)(B:zv mg):aO P w K mg base cg 1 l3 gb ["many"] (eT P w ζ DZ):=by
 refine rQ y_.F ik (λds R O_=> by obtain⟨n,e,_⟩ := O_;subst e;rfl) λcY A outer s H E hr=>{_,(ak (bo (XJ ["i","j","many"] [ξ,ξ,ν 0] (by rfl) (by decide:(["i","j","many"]:List Str).Nodup) rfl (ny B.range (ab (aI af (bE.m bX) (aa (i:=0)) ag) (ab (yg md ag) (ab (yg md ag) ae)))) (λ_ _ _ _ _ _=>(aj (i:=0) (by decide:(["i","j","many"]:List Str).Nodup))) (λ_ _ _ _ _ _=>d_) (λ_ _ _ _ _ _=>(wq B.range (ab (aI aJ aB (aa (i:=0)) ag) (ab (aI aJ aB (aa (i:=2)) ag) ae)))) (λ_ _ _ _ _ _=>(aj (i:=1) (by decide:(["i","j","many"]:List Str).Nodup))) (λ_ _ _ _ _ _=>d_) (λ_ _ _ _ _ _=>(bB (ab (aa (i:=0)) (ab (aa (i:=1)) ae))))))),λds R h=>?_}
 obtain⟨n,rfl,hn,q⟩:=h;refine{_,rfl,tv,_,rfl,tv,_,rfl,rfl,tv,_,rfl,rfl,tv,(n:Int)-1,-1,rfl,{by lia,by lia,by lia,by lia},tv,?_}
 have en:((n:Int)-1 - -1).toNat=n:=by lia
 rw[en];refine{λa β o=>a<=n/\(∃x0 x1,β=[x0,x1,ν (.val η (.int n))])/\o=(((ZK n).take a).flatMap (eW n)).map ND,{ZW _,{_,_,rfl},rfl},?_,?_}
 ·rintro a d β o hd ⟨ha,⟨x0,x1,rfl⟩,rfl⟩;obtain⟨yH,rfl⟩:=nr hd;have e1:(n:Int)-1-a=((n-1-a:Nat):Int):=by lia
  rw[e1];refine{_,rfl,tv,_,rfl,tv,_,rfl,tv,_,rfl,tv,((n-1-a:Nat):Int)+1,(n:Int)+1,rfl,{by lia,by lia,by lia,by lia},?_}
  have e2:((n:Int)+1-(((n-1-a:Nat):Int)+1)).toNat=a+1:=by lia
  rw[e2];refine{λb β o=>b<=a+1/\(∃x1,β=[ν (.val ζ (.int ((n-1-a:Nat):Int))),x1,ν (.val η (.int n))])/\o=(((ZK n).take a).flatMap (eW n)++(eW n a).take b).map ND,{ZW _,{_,rfl},by simp},?_,?_}
  ·rintro b d β o hd ⟨hb,⟨x1,rfl⟩,rfl⟩;obtain⟨lZ,rfl⟩:=bx hd;refine{_,rfl,tv,_,rfl,tv,mf,tv,?_,lZ,{_,rfl},?_}
   ·rw[ZE,aad];exact BO hn yH lZ
   ·rw[show ((n-1-a:Nat):Int)+1+(b:Int)=((n-a+b:Nat):Int) by lia,zQ lZ,<- aaS,aag,aag,aag]
    rfl
  ·rintro β o ⟨_,⟨x1,rfl⟩,rfl⟩;refine{yH,{_,_,rfl},?_};rw[bY,Cd,aaM,abB yH,List.flatMap_append];simp
 ·rintro β o ⟨_,⟨x0,x1,rfl⟩,rfl⟩;rw[nk,abk (by simp)]
  exact{(tv),tv,q}
def bI:aL ["row","many","ties","partners","a","b"] ["row"] (ay c7):=mkS
def yu {l4 gc}(sM:D5 K mg l4 gc)(B:zv mg):aO P w K mg base cg 1 l4 gc ["row"] (eT P w ζ oB):=by
 refine rQ sM.F bI (λds R O9=> by obtain⟨n,ps,e,_⟩ := O9;subst e;rfl) λcY A outer s H E hr=>⟨_,(ah (nD (aa (i:=0)) (cB (n:=2) rfl (aH (aj (i:=1) bI.nd) (aH (aj (i:=2) bI.nd) bZ))))
    (ah (rF (i:=3) ζ ["point"] [ξ] (by rfl) (by decide:(["point"]:List Str).Nodup) rfl (λ_=>(aT B.range (ab (aa (i:=1)) ae))) (λ_ _ _ _ _ _=>(aj (i:=0) (by decide:(["point"]:List Str).Nodup))) (λ_ _ _ _ _ _=>d_) (λ_ _ _ _ _ _=>(bc ae)) bI.nd)
    (ah (bC aav rfl (aS (aa (i:=2))) (cB (n:=2) rfl (aH (aj (i:=4) bI.nd) (aH (aj (i:=5) bI.nd) bZ))) (ak (dk (i:=3) ζ (λ_=>(aa (i:=5))) (λ_=>(aa (i:=4))))))
    (ak (jz (i:=3)))))),λds R h=>?_⟩
 obtain⟨n,ps,rfl,ok,q⟩:=h;have hn:=ok.le;refine{_,rfl,_,rfl,rfl,_,_,rfl,_,_,rfl,rfl,_,rfl,tv,n,rfl,by lia,by lia,tv,?_}
 rw[aa0];refine cT (λ_=>ζ) (λ_=>.lst []) tv (by rw[Z7];exact cZ (by lia)) (λx hx x0 o J ho h1 _=>{ZW _,tv,ho,h1 rfl _}) ?_
 rw[cM];refine{_,rfl,_,rfl,tv,?_};refine{λm β=>∃x4 x5,β=[ν (.val η (fO n ps)),ν (.val ζ (.int n)),ν (.val η (lr ps)),ν (.own (Cp n (ps.take m))),x4,x5],{_,_,rfl},?_,?_}
 ·rintro m d β hd ⟨x4,x5,rfl⟩;rw[ZS]at hd;obtain⟨p,hp,rfl⟩:=ZR.mp hd;obtain⟨h1,h2⟩:=ok.lt p (aap hp);refine{_,rfl,rfl,_,_,rfl,_,_,rfl,rfl,{_,rfl},_,rfl,_,_,_,_,rfl,rfl,by rw[ZE,Z7];exact rX rfl (show p.1<n by lia),a8 (show p.1<n by lia),_,rfl,tv,rfl,?_,?_}
  ·unfold Q.br;rw[ZE];have:=jt (ps:=ps.take m) (i:=p.1);rw[aai]at this;have:=ok.sm;exact iq (by lia)
  ·refine{ν (.val ζ (.int p.1)),ν (.val ζ (.int p.2)),?_};have e:ps.take (m+1)=ps.take m++[(p.1,p.2)]:=by rw[aaM,hp];rfl
   rw[JQ (show p.1<n by lia),e]
   rfl
 ·rintro β ⟨x4,x5,rfl⟩;rw[ZE,aaW];exact{_,rfl,q}
def ng:aL ["worth","table","i","k","j"] ["worth","table","i","k","j"] (ay c8):=mkS
def yv {ip dQ}(o4:D6 K mg ip dQ):aO P w K mg base cg 1 ip dQ ["worth","table","i","k","j"] (eT P w ζ oC):=by
 refine rQ o4.F ng (λds R O8=> by obtain⟨n,ps,w,L,T,i,k,j,e,_⟩ := O8;subst e;rfl) λcY A outer s H E hr=>{_,(ak (bo (aI aJ aB (aI aJ aB (aE af (Oi hr.BE) (aa (i:=0)) (bB (ab (aa (i:=2)) (ab (aa (i:=3)) ae)))) (aE af aX (aE af aX (aa (i:=1)) (aI aJ aB (aa (i:=2)) ag)) (aI af (bE.m bX) (aI af (bE.m bX) (aa (i:=3)) (aa (i:=2))) ag))) (aE af aX (aE af aX (aa (i:=1)) (aI aJ aB (aa (i:=3)) ag)) (aI af (bE.m bX) (aI af (bE.m bX) (aa (i:=4)) (aa (i:=3))) ag))))),λds R h=>?_}
 obtain⟨n,ps,w,L,T,i,k,j,rfl,hm,h1,h2,h3,h4,h5,q⟩:=h;exact⟨_,rfl,tv,_,rfl,tv,_,rfl,tv,mf,_,LR hm,tv,_,rfl,tv,_,rfl,tv,_,rfl,_,uz (i:=i+1) (by lia) (by lia),.inr ⟨tv,_,rfl,tv,_,rfl,_,rfl,tv,_,rfl,_,uA (l:=k-i-1) (by lia) h4,_,rfl,tv,
  _,rfl,tv,_,rfl,tv,_,rfl,_,uz (i:=k+1) (by lia) (by lia),.inr {tv,_,rfl,tv,_,rfl,_,rfl,tv,_,rfl,_,uA (l:=j-k-1) (by lia) h5,_,rfl,tv,q}⟩⟩
def f6:aL ["partners","worth","table","i","j","numbers"] ["partners","worth","table","i","j"] (ay cP):=mkS
def CU {l7 gf}(za:D7 K mg l7 gf){ip dQ}(o4:D6 K mg ip dQ)(B:zv mg):aO P w K mg base cg 2 l7 gf ["partners","worth","table","i","j"] (eT P w ζ oE):=by
 have Vd:aO P w K mg base cg 1 _ _ _ (eT P w ζ oC):= yv o4;refine rQ za.F f6 (λds R O7=> by obtain⟨n,ps,w,L,T,i,j,e,_⟩ := O7;subst e;rfl) λcY A outer s H E hr=>⟨_,(ah (rF (i:=5) η ["k","worth","table","i","j"] [ξ,ν 1,ν 2,ν 3,ν 4] (by rfl) (by decide:(["k","worth","table","i","j"]:List Str).Nodup) rfl (λ_=>(aS (aE af aX (aa (i:=0)) (aa (i:=3))))) (λ_ _ _ _ _ _=>(aj (i:=0) (by decide:(["k","worth","table","i","j"]:List Str).Nodup))) (λ_ _ _ _ _ _=>(cG (aD af (bE.m dF) (aa (i:=0)) (aa (i:=4))))) (λ_ _ _ _ _ _=>(aW oC.mono Vd (hr.mono (by decide)) o4.m o4.F.kp o4.b (ab (aa (i:=1)) (ab (aa (i:=2)) (ab (aa (i:=3)) (ab (aa (i:=0)) (ab (aa (i:=4)) ae))))))) f6.nd)
    (ak (bo (bf af (bO.m (k7 rfl)) B.max oS (ab (aI aJ aB (aa (i:=5)) (bc (ab (aE af aX (aE af aX (aa (i:=2)) (aI aJ aB (aa (i:=3)) ag)) (aI af (bE.m bX) (aI af (bE.m bX) (aa (i:=4)) (aa (i:=3))) ag)) ae))) ae))))),λds R h=>?_⟩
 obtain⟨n,ps,w,L,T,i,j,rfl,ok,h1,h2,h3,q⟩:=h;have DB:=ok.sm;have hle:=ok.le;have hl:((ju ps i).filter λk=>decide (k<j)).length<=400:=aaj (aat _ _) (aaj jt DB);refine{_,rfl,tv,_,rfl,_,Oj rfl (by lia),.inr {_,rfl,tv,?_}}
 refine cT (λk=>decide (k<j)) (λk=>.int (w (i,k)+T (k-i-1) (i+1)+T (j-k-1) (k+1))) tv (cZ (aaj jt (by lia))) (λk hk x0 o J ho j1 j2=>?_) ?_
 ·have hm:=cD.mp hk;obtain⟨g1,g2⟩:=ok.lt _ hm;dsimp only at g1 g2;refine{_,rfl,tv,_,rfl,_,rfl,_,rfl,kQ (λUc=>?_) (λUc=>j2 (by simp;lia) _)}
  have DL:k<j:=by lia
  have a1:=h3 (i+1) (by lia) (by lia)
  have a2:=h3 (k+1) (by lia) (by lia)
  exact{_,rfl,tv,_,rfl,tv,_,rfl,tv,_,rfl,tv,_,rfl,tv,n,ps,w,L,T,i,k,j,rfl,hm,g1,DL,h2,by lia,by lia,tv,ho,j1 (by simpa using DL) _}
 ·have a1:=h3 (i+1) (by lia) (by lia)
  refine{_,rfl,tv,_,rfl,tv,_,rfl,tv,_,rfl,_,uz (i:=i+1) (by lia) (by lia),.inr {tv,_,rfl,tv,_,rfl,_,rfl,tv,_,rfl,_,uA (l:=j-i-1) (by lia) (by lia),tv,E7,_,oM (by rw[ZE];show _+1<=_;lia),.inl {qI kT rfl,tv,_,C8,tv,q}}}
def bg:aL ["row","worth","many","partners","table","i","j"] ["row","worth"] (ay cv):=mkS
def CV {pK iG}(zc:D8 K mg pK iG){l4 gc}(sM:D5 K mg l4 gc){l3 gb}(y_:D4 K mg l3 gb){l7 gf}(za:D7 K mg l7 gf){ip dQ}(o4:D6 K mg ip dQ)(B:zv mg):aO P w K mg base cg 3 pK iG ["row","worth"] (eT P w ζ oF):=by
 have Vb:aO P w K mg base cg 1 _ _ _ (eT P w ζ oB):= yu sM B;have YY:aO P w K mg base cg 1 _ _ _ (eT P w ζ DZ):= Gu y_ B;have Y1:aO P w K mg base cg 2 _ _ _ (eT P w ζ oE):= CU za o4 B;refine rQ zc.F bg (λds R O6=> by obtain⟨n,ps,w,e,_⟩ := O6;subst e;rfl) λcY A outer s H E hr=>⟨_,(ah (a5 (i:=2) (aE af aX (aa (i:=0)) ag) bg.nd)
    (ah (a5 (i:=3) (aW oB.mono Vb (hr.mono (by decide)) sM.m sM.F.kp sM.b (ab (aa (i:=0)) ae)) bg.nd)
    (ah (rF (i:=4) ζ ["i"] [ξ] (by rfl) (by decide:(["i"]:List Str).Nodup) rfl (λ_=>(aT B.range (ab (aI aJ aB (aa (i:=2)) ag) ae))) (λ_ _ _ _ _ _=>(aj (i:=0) (by decide:(["i"]:List Str).Nodup))) (λ_ _ _ _ _ _=>d_) (λ_ _ _ _ _ _=>(bc (ab ag ae))) bg.nd)
    (ah (bC aav rfl (aS (aW DZ.mono YY (hr.mono (by decide)) y_.m y_.F.kp y_.b (ab (aa (i:=2)) ae))) (cB (n:=2) rfl (aH (aj (i:=5) bg.nd) (aH (aj (i:=6) bg.nd) bZ))) (ak (dk (i:=4) ζ (λ_=>(aW oE.mono Y1 (hr.mono (by decide)) za.m za.F.kp za.b (ab (aa (i:=3)) (ab (aa (i:=1)) (ab (aa (i:=4)) (ab (aa (i:=5)) (ab (aa (i:=6)) ae))))))) (λ_=>(aa (i:=5))))))
    (ak (jz (i:=4))))))),λds R h=>?_⟩
 obtain⟨n,ps,w,rfl,ok,q⟩:=h;have hn:=ok.le;have hp:∀p∈ps,p.1<p.2:=λp hp=>(ok.lt p hp).1;refine{_,rfl,tv,_,rfl,_,rfl,tv,n,ps,rfl,ok,_,rfl,tv,_,rfl,tv,(n:Int)+1,rfl,by lia,by lia,tv,?_}
 rw[show ((n:Int)+1).toNat=n+1 by lia]
 refine cT (λ_=>ζ) (λ_=>.lst [.int 0]) tv (by rw[Z7];exact cZ (by lia)) (λx hx x0 o J ho h1 _=>{tv,E7,tv,ho,h1 rfl _}) ?_
 rw[cM];refine{_,rfl,tv,n,rfl,hn,_,rfl,tv,?_};refine pI (λidx β=>∃L x5 x6,β=[ν (.val η (fO n ps)),ν (.val η (wD ps w)),ν (.val ζ (.int n)),ν (.val ζ (Cp n ps)),ν (.own (m6 n L (tW ps w))),x5,x6]/\zu n idx L) {λ_=>1,_,_,rfl,u6} (λE1 r1 idx n1 d β hd h=>?_) ?_
 ·obtain⟨L,x5,x6,rfl,dn⟩:=h;rw[ZS]at hd;obtain⟨p,mG,rfl⟩:=ZR.mp hd;obtain⟨a,b,ha,hb,rfl,hL,DC⟩:=xo dn mG;have eL:m6 n L (tW ps w)=m6 n (fU n a b) (tW ps w):=pY hL;have e0:fU n a b (n-1-a)=b+1:=by unfold fU;rw[ω (by lia),χ rfl]
  rw[eL];refine⟨_,rfl,rfl,_,_,rfl,_,_,rfl,rfl,{_,rfl},_,rfl,_,_,_,_,rfl,rfl,by rw[ZE,Z7];exact rX rfl (show n-1-a<n+1 by lia),a8 (show n-1-a<n+1 by lia),
   _,rfl,tv,_,rfl,tv,_,rfl,tv,_,rfl,tv,_,rfl,tv,n,ps,w,fU n a b,tW ps w,n-1-a,n-a+b,rfl,ok,by lia,by lia,λa' h1 h2=>by unfold fU;rw[χ h1];exact ZG _,tv,rfl,?_,?_⟩
  ·rw[e0];unfold sY;rw[ZE,Z7];exact iq (by lia)
  ·refine n1 _ {fU n a (b+1),ν (.val ζ (.int ((n-1-a:Nat):Int))),ν (.val ζ (.int ((n-a+b:Nat):Int))),?_,.inr {a,b+1,ha,by lia,λ_ _=>rfl,DC}}
   have ev:jI ps w (tW ps w) (n-1-a) (n-a+b)=tW ps w (b+1) (n-1-a):=by rw[me hp,show n-1-a+b+1=n-a+b by lia]
   rw[ev,e0,FP ha hb];rfl
 ·rintro β ⟨L,x5,x6,rfl,dn⟩;rw[ZE]at dn;have e:m6 n L (tW ps w)=jQ n (tW ps w):=pY (AO dn);rw[e];exact{_,rfl,q}
def tw:aL ["row"] ["row"] (ay fJ):=mkS
def CT {pJ iF}(vK:D9 K mg pJ iF):aO P w K mg base cg 1 pJ iF ["row"] (eT P w ζ xj):=by
 refine rQ vK.F tw (λds R O5=> by obtain⟨n,ps,e,_⟩ := O5;subst e;rfl) λcY A outer s H E hr=>{_,(ak (bo (YM (Nat.lt_of_succ_lt hr.BE) ["tie"] [ξ] (by rfl) (by decide:(["tie"]:List Str).Nodup) rfl (aS (aE af aX (aa (i:=0)) ag)) (λ_ _ _ _ _ _=>(aj (i:=0) (by decide:(["tie"]:List Str).Nodup))) (λ_ _ _ _ _ _=>d_) (λ_ _ _ _ _ _=>(aa (i:=0))) (λ_ _ _ _ _ _=>ag)))),λds R h=>?_}
 obtain⟨n,ps,rfl,ok,q⟩:=h;have DB:=ok.sm;refine{_,rfl,tv,_,rfl,.inr {_,rfl,tv,?_}};refine{λm β o=>m<=ps.length/\(∃x0,β=[x0])/\o=(ps.take m).map λp=>(tI p,D.int (w1 p)),{ZW _,{_,rfl},rfl},?_,?_}
 ·rintro m d β o hd ⟨hm,⟨x0,rfl⟩,rfl⟩;rw[ZS]at hd;obtain⟨p,hp,rfl⟩:=ZR.mp hd;have d3:=(Z1.mp hp).1;refine{_,rfl,tI p,rfl,rfl,GC (GJ ok.nd hp),?_,d3,{_,rfl},?_}
  ·rw[ZE,aai];exact iq (by lia)
  ·rw[aaM,hp,aag];rfl
 ·rintro β o ⟨_,⟨x0,rfl⟩,rfl⟩;rw[ZE,aaW];exact{(tv),tv,q}
def tu:aL ["row"] ["row"] (ay fI):=mkS
def CQ {uR lM}(Fh:Q9 K mg uR lM){pK iG}(zc:D8 K mg pK iG){l4 gc}(sM:D5 K mg l4 gc){l3 gb}(y_:D4 K mg l3 gb){l7 gf}(za:D7 K mg l7 gf){ip dQ}(o4:D6 K mg ip dQ){pJ iF}(vK:D9 K mg pJ iF)(B:zv mg):aO P w K mg base cg 4 uR lM ["row"] (eT P w ζ oz):=by
 have Y2:aO P w K mg base cg 3 _ _ _ (eT P w ζ oF):= CV zc sM y_ za o4 B;have Vc:aO P w K mg base cg 1 _ _ _ (eT P w ζ xj):= CT vK;refine rQ Fh.F tu (λds R O4=> by obtain⟨n,ps,e,_⟩ := O4;subst e;rfl) λcY A outer s H E hr=>{_,(ak (bo (aW oF.mono Y2 (hr.mono (by decide)) zc.m zc.F.kp zc.b (ab (aa (i:=0)) (ab (aW xj.mono Vc (hr.mono (by decide)) vK.m vK.F.kp vK.b (ab (aa (i:=0)) ae)) ae))))),λds R h=>?_}
 obtain⟨n,ps,rfl,ok,q⟩:=h;exact{_,rfl,tv,_,rfl,tv,n,ps,rfl,ok,tv,n,ps,w1,rfl,ok,tv,q}
end
section
variable {P:ZN}{w:Z4}{K:Ξ}{mg:Str->Option ZF}{base:Heap}
def pz:aL ["i","k","j"] ["i","k","j"] (ay dU):=mkS
def CS {uS lN}(Fi:Q8 K mg uS lN):aO P w K mg base cg 1 uS lN ["i","k","j"] (eT P w ζ oA):=by
 refine rQ Fi.F pz (λds R O3=> by obtain⟨i,k,j,e,_⟩ := O3;subst e;rfl) λcY A outer s H E hr=>⟨_,(dc (b9 (aD af (bE.m mw) (aa (i:=1)) km) (ak (bo (bc (ab (bB (ab (aI aJ aB (aa (i:=0)) ag) (ab (aa (i:=2)) ae))) ae)))) a7)
    (ak (bo (bc (ab (bB (ab (aI aJ aB (aa (i:=0)) ag) (ab (aa (i:=1)) ae))) (ab (bB (ab (aI aJ aB (aa (i:=1)) ag) (ab (aa (i:=2)) ae))) ae)))))),λds R h=>?_⟩
 obtain⟨i,k,j,rfl,q⟩:=h;cases k with
 |none=>exact{λ_=>False,{_,rfl,tv,_,rfl,_,rfl,vG rfl {_,rfl,tv,_,rfl,tv,_,rfl,tv,mf,tv,E7,tv,q}},λ_ z=>z.elim}
 |some k =>
  refine{λβ=>β=[ν (.val η (.int i)),ν (.val η (.int k)),ν (.val η (.int j))],{_,rfl,tv,_,rfl,_,rfl,ic rfl rfl},?_};rintro β rfl;exact{_,rfl,tv,_,rfl,tv,_,rfl,tv,mf,tv,_,rfl,tv,_,rfl,tv,_,rfl,tv,mf,tv,mf,tv,q}
def dE:aL ["partners","worth","table","i","j","best","choices"] ["partners","worth","table","i","j"] (ay cQ):=mkS
def Gx {uU lP}(Fl:Q6 K mg uU lP){ip dQ}(o4:D6 K mg ip dQ)(B:zv mg):aO P w K mg base cg 2 uU lP ["partners","worth","table","i","j"] (eT P w ζ uY):=by
 have Vd:aO P w K mg base cg 1 _ _ _ (eT P w ζ oC):= yv o4;refine rQ Fl.F dE (λds R O2=> by obtain⟨n,ps,w,T,i,j,e,_⟩ := O2;subst e;rfl) λcY A outer s H E hr=>⟨_,(ah (a5 (i:=5) (aE af aX (aE af aX (aa (i:=2)) (aa (i:=3))) (aI af (bE.m bX) (aa (i:=4)) (aa (i:=3)))) dE.nd)
    (ah (rF (i:=6) ζ ["k","j","best","worth","table","i"] [ξ,ν 4,ν 5,ν 1,ν 2,ν 3] (by rfl) (by decide:(["k","j","best","worth","table","i"]:List Str).Nodup) rfl (λ_=>(aS (aE af aX (aa (i:=0)) (aa (i:=3))))) (λ_ _ _ _ _ _=>(aj (i:=0) (by decide:(["k","j","best","worth","table","i"]:List Str).Nodup))) (λ_ _ _ _ _ _=>(cG (xB.t (mq (aD af (bE.m dF) (aa (i:=0)) (aa (i:=1))) (jw (aD af (bE.m (bN hr.units)) (aW oC.mono Vd (hr.mono (by decide)) o4.m o4.F.kp o4.b (ab (aa (i:=3)) (ab (aa (i:=4)) (ab (aa (i:=5)) (ab (aa (i:=0)) (ab (aa (i:=1)) ae)))))) (aa (i:=2)))))))) (λ_ _ _ _ _ _=>(aa (i:=0))) dE.nd)
    (dc (b9 (aD af (bE.m (bN hr.units)) (aE af aX (aE af aX (aa (i:=2)) (aI aJ aB (aa (i:=3)) ag)) (aI af (bE.m bX) (aI af (bE.m bX) (aa (i:=4)) (aa (i:=3))) ag)) (aa (i:=5))) (ak (b6 (i:=6) (λ_=>km))) a7)
    (ak (jz (i:=6)))))),λds R h=>?_⟩
 obtain⟨n,ps,w,T,i,j,rfl,ok,h1,h2,q⟩:=h;have DB:=ok.sm;have hle:=ok.le;refine{_,rfl,tv,_,rfl,_,uz rfl (by lia),.inr {tv,_,rfl,tv,_,rfl,_,rfl,_,uA (l:=j-i) (by lia) (by lia),?_}}
 refine{_,rfl,tv,_,rfl,_,Oj rfl (by lia),.inr {_,rfl,tv,?_}}
 refine cT (λk=>decide (k<j)&&decide (w (i,k)+T (k-i-1) (i+1)+T (j-k-1) (k+1)=T (j-i) i)) (λk=>.int (k:Int)) tv (cZ (aaj jt (by lia))) (λk hk x0 o J ho j1 j2=>?_) ?_
 ·have hm:=cD.mp hk;obtain⟨g1,g2⟩:=ok.lt _ hm;dsimp only at g1 g2;refine{_,rfl,tv,_,rfl,_,rfl,_,rfl,kQ (λUc=>?_) (λUc=>ic rfl (j2 ?_ _))}
  ·have DL:k<j:=by lia
   refine{_,rfl,tv,_,rfl,tv,_,rfl,tv,_,rfl,tv,_,rfl,tv,n,ps,w,(λi=>n+1-i),T,i,k,j,rfl,hm,g1,DL,h2,by show _<n+1-(i+1);lia,by show _<n+1-(k+1);lia,tv,_,rfl,_,bA _ _,_,rfl,kQ (λe=>?_) (λe=>j2 ?_ _)}
   ·exact{_,rfl,tv,ho,j1 (by rw[aaK,decide_eq_true_eq,decide_eq_true_eq];exact{(DL),e}) _}
   ·rw[Bool.and_eq_false_iff];exact .inr (Δ e)
  ·rw[Bool.and_eq_false_iff];exact .inl (Δ (by lia))
 ·have eb:dS ps w T i j=((ju ps i).filter λk=>decide (k<j)&&decide (w (i,k)+T (k-i-1) (i+1)+T (j-k-1) (k+1)=T (j-i) i)).map ν++(if T (j-i-1) (i+1)=T (j-i) i then [ξ] else []):=rfl
  have em:(((ju ps i).filter λk=>decide (k<j)&&decide (w (i,k)+T (k-i-1) (i+1)+T (j-k-1) (k+1)=T (j-i) i)).map λ(k:Nat)=>D.int (k:Int))=(((ju ps i).filter λk=>decide (k<j)&&decide (w (i,k)+T (k-i-1) (i+1)+T (j-k-1) (k+1)=T (j-i) i)).map ν).map oD:=by rw[aaR];rfl
  have hl:(((ju ps i).filter λk=>decide (k<j)&&decide (w (i,k)+T (k-i-1) (i+1)+T (j-k-1) (k+1)=T (j-i) i)).map ν).length<=400:=by rw[ZE];exact aaj (aat _ _) (aaj jt DB)
  rw[em];generalize ((ju ps i).filter λk=>decide (k<j)&&decide (w (i,k)+T (k-i-1) (i+1)+T (j-k-1) (k+1)=T (j-i) i)).map ν=cs at eb hl ⊢
  refine{λβ=>β[6]?=ν (ν (.own (.lst ((dS ps w T i j).map oD)))),?_,λβ hβ=>{_,hβ,q}};refine{_,rfl,tv,_,rfl,tv,_,rfl,_,uz (i:=i+1) (by lia) (by lia),.inr {tv,_,rfl,tv,_,rfl,_,rfl,tv,_,rfl,_,uA (l:=j-i-1) (by lia) (by lia),tv,_,rfl,_,bA _ _,_,rfl,kQ (λe=>?_) (λe=>?_)}}
  ·rw[χ e]at eb;refine{{_,rfl},tv,_,rfl,by rw[ZE];exact iq (by lia),?_}
   rw[eb,aag];rfl
  ·rw[ω e,aaw]at eb;rw[eb];rfl
end
end o8
namespace L2
open PySem PySem.Spec PySem.SeqAt PyProof.Rows
def Eu (a b:D):Option D:=a.uq.bind λds=>b.int?.bind λk=>if 0<=k/\k<2 ^ 62/\ds.length*k.toNat<=Z3 then ν (.lst (aau k.toNat ds).flatten) else ξ
theorem kc {P:ZN}{w:Z4}{W:θ->Prop}{H:Hp}{ds:List D}{vs:List V}(h:ai P w W H ds vs):∀k:Nat,ai P w W H (aau k ds).flatten (aau k vs).flatten
 |0=>rfl
 |k+1=>by
  rw[abm,aby,abm,aby];exact h.append (kc h k)
def tY {X:Cx}:Qa X (abT .Mult) Eu:=by
 intro μ s σ H x y v u Q I rx ry h;obtain⟨W,d1,d2,d,hd,r1,r2,e,q⟩:=h;obtain⟨ds,h1,e⟩:=aaC.mp e;obtain⟨k,h2,e⟩:=aaC.mp e;obtain⟨⟨k0,k1,hl⟩,rfl⟩:=cU e;rw[D.mD h1]at r1;rw[D.rZ h2]at r2;obtain⟨p,vs,rfl,g1,n1,q1⟩:=r1;exact Kk μ s σ H _ _ v u Q I rx ry {p,k,vs,rfl,r2,g1,by lia,by lia,by rw[q1.length];exact hl,λl xb=>q _ _ (au.new xb) (Rp.gE hd xb (kc q1 _)) λf=>wH xb f (kc q1 _)}
namespace Q
def dP (n:Nat)(f:Nat->Nat->D):D:=.lst ((ZK (n+1)).map λb=>.lst ((ZK (n+1)).map λe=>f b e))
def gx {α:Type}{n m:Nat}{f g:Nat->α}(h:∀k,k<n->k≠m->f k=g k):((ZK n).map f).set m (g m)=(ZK n).map g:=by
 apply abz;intro k;rw[ab_]
 by_cases hk:k<n
 ·rw[a8 hk]
  by_cases e:m=k
  ·subst e;rw[χ rfl,χ (by rw[ZE,Z7];exact hk),a8 hk]
  ·rw[ω e,a8 hk,h k hk (aa1 e)]
 ·have hn:((ZK n).map g)[k]?=ξ:=aaE (by rw[ZE,Z7];lia)
  have IG:((ZK n).map f)[k]?=ξ:=aaE (by rw[ZE,Z7];lia)
  rw[hn,IG]
  split
  ·rw[ω (by rw[ZE,Z7];lia)]
  ·rfl
def B_ {n b e:Nat}{f g:Nat->Nat->D}(h:∀x y,¬ (x=b/\y=e)->f x y=g x y):((ZK (n+1)).map λx=>D.lst ((ZK (n+1)).map λy=>f x y)).set b (.lst (((ZK (n+1)).map λy=>f b y).set e (g b e)))=(ZK (n+1)).map λx=>D.lst ((ZK (n+1)).map λy=>g x y):=by
 have e1:((ZK (n+1)).map λy=>f b y).set e (g b e)=(ZK (n+1)).map λy=>g b y:=gx λk _ hk=>h b k λz=>hk z.2;rw[e1];exact gx (g:=λx=>D.lst ((ZK (n+1)).map λy=>g x y)) λk _ hk=>by
  rw[show (λy=>f k y)=λy=>g k y from funext λy=>h k y λz=>hk z.1]
theorem qJ {α:Type}{f:α->D}(h:∀x,(f x).flat=ζ):∀l:List α,D.cb (l.map f)=ζ
 |[]=>rfl
 |x::l=>by
  show ((f x).flat&&D.cb (l.map f))=ζ;rw[h x,qJ h l];rfl
def xY {d:D}{k:Nat}:(aau k [d]).flatten=aau k d:=by
 induction k with
 |zero=>rfl
 |succ k ih=>rw[abm,aby,ih];rfl
def qh {l:List (Nat×Nat)}{p:Nat×Nat}{b:Nat}:near (l++[p]) b=near l b++if p.2=b then [p.1] else []:=by
 unfold near;rw[aaI,aag,aam,List.filter_nil]
 by_cases h:p.2=b <;> simp[h]
section
variable {ps:List (Nat×Nat)}
def Fn (ps:List (Nat×Nat)):Nat->Nat->Nat->Nat
 |0,_,_=>1
 |f+1,b,e=>if e<=b then 1 else (if mX ps b (e-1)=mX ps b e then Fn ps f b (e-1) else 0)+(((near ps (e-1)).filter λa=>decide (b<=a)).map λa=>if 1+mX ps b a+mX ps (a+1) (e-1)=mX ps b e then Fn ps f b a*Fn ps f (a+1) (e-1) else 0).sum
theorem gQ (hp:∀p∈ps,p.1<p.2):∀{f g b e:Nat},e-b<=f->e-b<=g->Fn ps f b e=Fn ps g b e
 |0,0,_,_,_,_=>rfl
 |0,g+1,b,e,h,_=>by unfold Fn;rw[χ (by lia)]
 |f+1,0,b,e,_,h=>by unfold Fn;rw[χ (by lia)]
 |f+1,g+1,b,e,h1,h2=>by
  unfold Fn
  by_cases hb:e<=b
  ·rw[χ hb,χ hb]
  ·rw[ω hb,ω hb,gQ hp (f:=f) (g:=g) (b:=b) (e:=e-1) (by lia) (by lia)]
   congr 2
   refine aal λa ha=>?_;obtain⟨h3,h4⟩:=ZY.mp ha;have h5:=of_decide_eq_true h4;have h6:=hp _ (bq.mp h3);dsimp only at h6;rw[gQ hp (f:=f) (g:=g) (b:=b) (e:=a) (by lia) (by lia),gQ hp (f:=f) (g:=g) (b:=a+1) (e:=e-1) (by lia) (by lia)]
def cL (ps:List (Nat×Nat))(b e:Nat):Nat:=Fn ps (e-b) b e
def jW {b e:Nat}(h:e<=b):cL ps b e=1:=by
 unfold cL;rw[show e-b=0 by lia]
 rfl
def sC (hp:∀p∈ps,p.1<p.2){b e:Nat}(h:b<e):cL ps b e=(if mX ps b (e-1)=mX ps b e then cL ps b (e-1) else 0)+(((near ps (e-1)).filter λa=>decide (b<=a)).map λa=>if 1+mX ps b a+mX ps (a+1) (e-1)=mX ps b e then cL ps b a*cL ps (a+1) (e-1) else 0).sum:=by
 unfold cL;rw[show e-b=(e-1-b)+1 by lia]
 conv=>lhs;unfold Fn
 rw[ω (by lia)]
 congr 2
 refine aal λa ha=>?_;obtain⟨h3,h4⟩:=ZY.mp ha;have h5:=of_decide_eq_true h4;have h6:=hp _ (bq.mp h3);dsimp only at h6;rw[gQ hp (f:=e-1-b) (g:=a-b) (b:=b) (e:=a) (by lia) (by lia),gQ hp (f:=e-1-b) (g:=e-1-(a+1)) (b:=a+1) (e:=e-1) (by lia) (by lia)]
theorem zh (hp:∀p∈ps,p.1<p.2)(nd:ps.Nodup):∀(l b e:Nat),e-b<=l->cL ps b e<=mH (e-b)
 |0,b,e,h=>by rw[jW (by lia),show e-b=0 by lia];decide
 |l+1,b,e,h=>by
  by_cases hb:e<=b
  ·rw[jW hb,show e-b=0 by lia];decide
  ·obtain⟨m,hm⟩:∃m,e-b=m+1:={e-b-1,by lia}
   rw[sC hp (by lia),hm]
   have h1:(if mX ps b (e-1)=mX ps b e then cL ps b (e-1) else 0)<=mH m:=by
    have:=zh hp nd l b (e-1) (by lia)
    rw[show e-1-b=m by lia]at this
    split <;> lia
   cases m with
   |zero =>
    have en:(near ps (e-1)).filter (λa=>decide (b<=a))=[]:=by
     rw[ab2];intro a ha z;have h5:=of_decide_eq_true z;have h6:=hp _ (bq.mp ha);dsimp only at h6;lia
    rw[en];show _+0<=_;have:mH 0=1:=rfl;have:mH (0+1)=1:=rfl;lia
   |succ m =>
    have ef:(near ps (e-1)).filter (λa=>decide (b<=a))=(near ps (e-1)).filter λa=>decide (b<=a)&&decide (a<b+(m+1)):=abP λa ha=>by
     have h6:=hp _ (bq.mp ha);dsimp only at h6;rw[Γ (show a<b+(m+1) by lia),Bool.and_true]
    rw[ef,pZ (GG nd)];have h2:=xP (n:=m+1) (c:=mH m) (f:=λr=>(if b+r∈near ps (e-1) then 1 else 0)*(if 1+mX ps b (b+r)+mX ps (b+r+1) (e-1)=mX ps b e then cL ps b (b+r)*cL ps (b+r+1) (e-1) else 0)) (λr hr=>by
     have k1:=zh hp nd l b (b+r) (by lia)
     have k2:=zh hp nd l (b+r+1) (e-1) (by lia)
     rw[show b+r-b=r by lia]at k1
     rw[show e-1-(b+r+1)=m-r by lia]at k2
     have k3:=Nat.mul_le_mul k1 k2;have k4:=yU r (m-r);rw[show r+(m-r)=m by lia]at k4
     have k5:(if 1+mX ps b (b+r)+mX ps (b+r+1) (e-1)=mX ps b e then cL ps b (b+r)*cL ps (b+r+1) (e-1) else 0)<=mH m:=by split <;> lia
     split
     ·rw[ac3];exact k5
     ·rw[Nat.zero_mul];exact ZW _)
    have e1:mH (m+1)=(m+1)*mH m:=rfl;have e2:mH (m+1+1)=(m+1+1)*mH (m+1):=rfl;rw[e2,Nat.succ_mul];have e3:mH (m+1)<=(m+1)*mH (m+1):=Nat.le_mul_of_pos_left _ (by lia)
    lia
end
def FY {n:Nat}(hn:n<=40){d:D}:Eu (.lst [d]) (.int ((n:Int)+1))=ν (.lst ((ZK (n+1)).map λ_=>d)):=by
 unfold Eu D.uq D.int?;rw[abb,abb,χ {by lia,by lia,by rw[abo,ac3,show ((n:Int)+1).toNat=n+1 by lia];exact cZ (by lia)},xY,show ((n:Int)+1).toNat=n+1 by lia,List.map_const',Z7]
def Cu (ps:List (Nat×Nat))(b e:Nat):D:=.tup [.int (mX ps b e),.int (cL ps b e:Int)]
def tN {ps:List (Nat×Nat)}{b e:Nat}(h:e<=b):Cu ps b e=.tup [.int 0,.int 1]:=by
 unfold Cu;rw[cE h,jW h];rfl
def lS (ps:List (Nat×Nat))(J m b e:Nat):D:=if e<J\/(e=J/\J<=b+m) then Cu ps b e else .tup [.int 0,.int 1]
def v3 {ps:List (Nat×Nat)}{J m b e:Nat}(h:e<J\/(e=J/\J<=b+m)):lS ps J m b e=Cu ps b e:=χ h
def iX {n:Nat}{f g:Nat->Nat->D}(h:∀b e,b<=n->e<=n->f b e=g b e):dP n f=dP n g:=by
 unfold dP
 congr 1
 refine aal λb hb=>?_
 congr 1
 exact aal λe he=>h b e (by have:=aas.mp hb;lia) (by have:=aas.mp he;lia)
def zE {ps:List (Nat×Nat)}{n:Nat}:dP n (λ_ _=>.tup [.int 0,.int 1])=dP n (lS ps 1 0):=iX λb e _ _=>by
 unfold lS
 split
 ·rw[tN (by lia)]
 ·rfl
def BQ {ps:List (Nat×Nat)}{n J:Nat}:dP n (lS ps J J)=dP n (lS ps (J+1) 0):=iX λb e _ _=>by
 unfold lS
 by_cases h1:e<J\/(e=J/\J<=b+J)
 ·rw[χ h1,χ (by lia)]
 ·rw[ω h1]
  split
  ·rw[tN (by lia)]
  ·rfl
def FI {ps:List (Nat×Nat)}{n:Nat}:dP n (lS ps (n+1) 0)=dP n (Cu ps):=iX λb e _ he=>v3 (.inl (by lia))
def FH {ps:List (Nat×Nat)}{n J m b:Nat}(h:b+m+1=J):((ZK (n+1)).map λx=>D.lst ((ZK (n+1)).map λy=>lS ps J m x y)).set b (.lst (((ZK (n+1)).map λy=>lS ps J m b y).set J (Cu ps b J)))=(ZK (n+1)).map λx=>D.lst ((ZK (n+1)).map λy=>lS ps J (m+1) x y):=by
 have:=B_ (n:=n) (b:=b) (e:=J) (f:=lS ps J m) (g:=lS ps J (m+1)) λx y Oy=>by
  unfold lS
  by_cases h1:y<J\/(y=J/\J<=x+m)
  ·rw[χ h1,χ (by lia)]
  ·rw[ω h1]
   split
   ·next h2=>exact Η (show x=b/\y=J by lia) Oy
   ·rfl
 rw[show lS ps J (m+1) b J=Cu ps b J from v3 (.inr {rfl,by lia})]at this
 exact this
def zf (ps:List (Nat×Nat))(b J:Nat)(l:List Nat):List (Int×Int):=(mX ps b (J-1),(cL ps b (J-1):Int))::(l.filter λa=>decide (b<=a)).map λa=>(1+mX ps b a+mX ps (a+1) (J-1),(cL ps b a:Int)*(cL ps (a+1) (J-1):Int))
def Xq (p:Int×Int):D:=.tup [.int p.1,.int p.2]
def EE {ps:List (Nat×Nat)}{b J:Nat}{l:List Nat}{a:Nat}:zf ps b J (l++[a])=zf ps b J l++if b<=a then [(1+mX ps b a+mX ps (a+1) (J-1),(cL ps b a:Int)*(cL ps (a+1) (J-1):Int))] else []:=by
 unfold zf;rw[aaI,aag,aam,List.filter_nil,adh]
 by_cases h:b<=a <;> simp[h]
def HI {ps:List (Nat×Nat)}(hp:∀p∈ps,p.1<p.2){b J:Nat}(h:b<J):fR ((zf ps b J (near ps (J-1))).map (·.1))=ν (mX ps b J):=by
 have:=C9 hp h;unfold zf;rw[aae,aaR];rw[show (((near ps (J-1)).filter λa=>decide (b<=a)).map λa=>mX ps b a+1+mX ps (a+1) (J-1))=((near ps (J-1)).filter λa=>decide (b<=a)).map ((λx:Int×Int=>x.1) ∘ λa=>(1+mX ps b a+mX ps (a+1) (J-1),(cL ps b a:Int)*(cL ps (a+1) (J-1):Int))) from aal λa _=>by show _=1+mX ps b a+mX ps (a+1) (J-1);lia]at this
 exact this
theorem BM {α:Type}{q:α->Bool}{f:α->Int}:∀l:List α,((l.filter q).map f).sum=(l.map λx=>if q x=ζ then f x else 0).sum
 |[]=>rfl
 |x::l=>by
  rw[aam,aae,abS,<- BM l]
  split
  ·rw[aae,abS]
  ·rw[Int.zero_add]
def HH {ps:List (Nat×Nat)}(hp:∀p∈ps,p.1<p.2){b J:Nat}(h:b<J):(((zf ps b J (near ps (J-1))).filter λp=>decide (p.1=mX ps b J)).map (·.2)).sum=(cL ps b J:Int):=by
 rw[BM,sC hp h];unfold zf;rw[aae,abS,aaR,Int.natCast_add,<- sZ]
 congr 1
 ·by_cases h1:mX ps b (J-1)=mX ps b J
  ·rw[χ (Γ h1),χ h1]
  ·rw[ω (by rw[Δ h1];simp),ω h1];rfl
 ·congr 1
  refine aal λa _=>?_;show (if decide (1+mX ps b a+mX ps (a+1) (J-1)=mX ps b J)=ζ then _ else _)=_
  by_cases h1:1+mX ps b a+mX ps (a+1) (J-1)=mX ps b J
  ·rw[χ (Γ h1),χ h1,Int.natCast_mul]
  ·rw[ω (by rw[Δ h1];simp),ω h1];rfl
def qN:FD:=λds R=>∃(n:Nat) (ps:List (Nat×Nat)),ds=[fO n ps]/\Bf n ps/\n<=40/\R (dP n (Cu ps))
def qN.mono:dy qN:=λds R R' k h=>by obtain⟨n,ps,e,h1,h2,q⟩:=h;exact{n,ps,e,h1,h2,k _ q}
def Mi {ps:List (Nat×Nat)}(hp:∀p∈ps,p.1<p.2)(nd:ps.Nodup){a b c d:Nat}(h:(b-a)+(d-c)<=40):sI (cL ps a b:Int) (cL ps c d:Int):=by
 have big:∀x y,y-x<=20->((cL ps x y:Nat):Int)<2 ^ 64:=λx y hl=>by
  have h1:=zh hp nd (y-x) x y (ZG _);have h2:=DY hl;have h3:mH 20<2 ^ 64:=by decide
  lia
 rcases aa2 20 (b-a)with q|q
 ·exact .inr {by lia,big c d (by lia)}
 ·exact .inl {by lia,big a b q}
end Q
end L2
namespace o8
open PySem L2 L2.Q
section
variable {P:ZN}{w:Z4}{K:Ξ}{mg:Str->Option ZF}{base:Heap}
def aN:aL ["row","many","ties","lesser","one","other","found","end","begin","some","point","left","right","best"] ["row"] (ay eX):=mkS
def Gs {AH qK}(Es:Vh K mg AH qK)(B:zv mg):aO P w K mg base cg 1 AH qK ["row"] (eT P w ζ qN):=by
 refine rQ Es.F aN (λds R O1=> by obtain⟨n,ps,e,_⟩ := O1;subst e;rfl) λcY A outer s H E hr=>⟨_,(ah (nD (aa (i:=0)) (cB (n:=2) rfl (aH (aj (i:=1) aN.nd) (aH (aj (i:=2) aN.nd) bZ))))
    (ah (rF (i:=3) ζ ["point"] [ξ] (by rfl) (by decide:(["point"]:List Str).Nodup) rfl (λ_=>(aT B.range (ab (aa (i:=1)) ae))) (λ_ _ _ _ _ _=>(aj (i:=0) (by decide:(["point"]:List Str).Nodup))) (λ_ _ _ _ _ _=>d_) (λ_ _ _ _ _ _=>(bc ae)) aN.nd)
    (ah (bC aav rfl (aS (aa (i:=2))) (cB (n:=2) rfl (aH (aj (i:=4) aN.nd) (aH (aj (i:=5) aN.nd) bZ))) (ak (dk (i:=3) ζ (λ_=>(aa (i:=4))) (λ_=>(aa (i:=5))))))
    (Gb 3 (ah (rF (i:=6) ζ ["begin","many"] [ξ,ν 1] (by rfl) (by decide:(["begin","many"]:List Str).Nodup) rfl (λ_=>(aT B.range (ab (aI aJ aB (aa (i:=1)) ag) ae))) (λ_ _ _ _ _ _=>(aj (i:=0) (by decide:(["begin","many"]:List Str).Nodup))) (λ_ _ _ _ _ _=>d_) (λ_ _ _ _ _ _=>(aI aJ tY (bc (ab (bB (ab ag (ab ag ae))) ae)) (aI aJ aB (aa (i:=1)) ag))) aN.nd)
    (ah (bC aav rfl (fP B.range (ab ag (ab (aI aJ aB (aa (i:=1)) ag) ae))) (aj (i:=7) aN.nd) (ak (bC aav rfl (ny B.range (ab (aI af (bE.m bX) (aa (i:=7)) ag) (ab (yg md ag) (ab (yg md ag) ae)))) (aj (i:=8) aN.nd) (ah (bW (i:=9) (λ_=>(bc (ab (aE af aX (aE af aX (aa (i:=6)) (aa (i:=8))) (aI af (bE.m bX) (aa (i:=7)) ag)) ae))) aN.nd)
    (ah (bC aav rfl (aS (aE af aX (aa (i:=3)) (aI af (bE.m bX) (aa (i:=7)) ag))) (aj (i:=10) aN.nd) (ak (b9 (aD af (bE.m Km) (aa (i:=10)) (aa (i:=8))) (ah (a5 (i:=11) (aE af aX (aE af aX (aa (i:=6)) (aa (i:=8))) (aa (i:=10))) aN.nd)
    (ah (a5 (i:=12) (aE af aX (aE af aX (aa (i:=6)) (aI aJ aB (aa (i:=10)) ag)) (aI af (bE.m bX) (aa (i:=7)) ag)) aN.nd)
    (ak (b6 (i:=9) (λ_=>(bB (ab (aI aJ aB (aI aJ aB ag (aE af aX (aa (i:=11)) ag)) (aE af aX (aa (i:=12)) ag)) (ab (aI af (bE.m Gm) (aE af aX (aa (i:=11)) ag) (aE af aX (aa (i:=12)) ag)) ae)))))))) a7)))
    (ah (a5 (i:=13) (bf af (bO.m (k7 rfl)) B.max oS (ab (VT ["most","sets"] [ξ,ξ] (by rfl) (by decide:(["most","sets"]:List Str).Nodup) rfl (aS (aa (i:=9))) (λ_ _ _ _ _ _=>(cB (n:=2) rfl (aH (aj (i:=0) (by decide:(["most","sets"]:List Str).Nodup)) (aH (aj (i:=1) (by decide:(["most","sets"]:List Str).Nodup)) bZ)))) (λ_ _ _ _ _ _=>d_) (λ_ _ _ _ _ _=>(aa (i:=0)))) ae)) aN.nd)
    (ak (tS (i:=6) (λ_=>(bB (ab (aa (i:=13)) (ab (bf af (bO.m (A5 rfl)) B.sum Mk (ab (VT ["most","sets","best"] [ξ,ξ,ν 13] (by rfl) (by decide:(["most","sets","best"]:List Str).Nodup) rfl (aS (aa (i:=9))) (λ_ _ _ _ _ _=>(cB (n:=2) rfl (aH (aj (i:=0) (by decide:(["most","sets","best"]:List Str).Nodup)) (aH (aj (i:=1) (by decide:(["most","sets","best"]:List Str).Nodup)) bZ)))) (λ_ _ _ _ _ _=>(cG (aD af (bE.m (bN hr.units)) (aa (i:=0)) (aa (i:=2))))) (λ_ _ _ _ _ _=>(aa (i:=1)))) ae)) ae)))) (λ_=>(aa (i:=8))) (λ_=>(aa (i:=7)))))))))))
    (ak (jz (i:=6))))))))),λds R h=>?_⟩
 obtain⟨n,ps,rfl,ok,hn,q⟩:=h;have DB:=ok.sm;have hp:∀p∈ps,p.1<p.2:=λp hp=>(ok.lt p hp).1;refine{_,rfl,_,rfl,rfl,_,_,rfl,_,_,rfl,rfl,_,rfl,tv,n,rfl,by lia,by lia,tv,?_}
 rw[aa0];refine cT (λ_=>ζ) (λ_=>.lst []) tv (by rw[Z7];exact cZ (by lia)) (λx hx x0 o J ho h1 _=>{ZW _,tv,ho,h1 rfl _}) ?_
 rw[cM];refine{_,rfl,_,rfl,tv,?_};refine{λm β=>∃x4 x5 x6 x7 x8 x9 gT vP vO Bi,β=[ν (.val η (fO n ps)),ν (.val ζ (.int n)),ν (.val η (lr ps)),ν (.own (.lst ((ZK n).map λi=>D.lst (Q.br (near (ps.take m) i))))),x4,x5,x6,x7,x8,x9,gT,vP,vO,Bi],{_,_,_,_,_,_,_,_,_,_,rfl},?_,?_}
 ·rintro m d β hd ⟨x4,x5,x6,x7,x8,x9,gT,vP,vO,Bi,rfl⟩;rw[ZS]at hd;obtain⟨p,Lz,rfl⟩:=ZR.mp hd;obtain⟨h1,h2⟩:=ok.lt p (aap Lz);have et:ps.take (m+1)=ps.take m++[p]:=by rw[aaM,Lz];rfl
  have es:((ZK n).map λi=>D.lst (Q.br (near (ps.take m) i))).set p.2 (.lst (Q.br (near (ps.take m) p.2)++[.int (p.1:Int)]))=(ZK n).map λi=>D.lst (Q.br (near (ps.take (m+1)) i)):=by
   rw[et];have e1:D.lst (Q.br (near (ps.take m) p.2)++[.int (p.1:Int)])=D.lst (Q.br (near (ps.take m++[p]) p.2)):=by
    rw[qh,χ rfl];unfold Q.br;rw[aag];rfl
   rw[e1];exact gx (g:=λi=>D.lst (Q.br (near (ps.take m++[p]) i))) λk _ hk=>by rw[qh,ω (aa1 hk),aaw]
  refine{_,rfl,rfl,_,_,rfl,_,_,rfl,rfl,{_,rfl},_,rfl,_,_,_,_,rfl,rfl,by rw[ZE,Z7];exact rX rfl (show p.2<n by lia),a8 (show p.2<n by lia),_,rfl,tv,rfl,?_,?_}
  ·unfold Q.br;rw[ZE];have:=nK (ps:=ps.take m) (b:=p.2);rw[aai]at this;exact iq (by lia)
  ·exact{_,_,_,_,_,_,_,_,_,_,by rw[es];rfl}
 ·rintro β ⟨x4,x5,x6,x7,x8,x9,gT,vP,vO,Bi,rfl⟩;rw[ZE,aaW];have L0:=FY hn (d:=.tup [.int 0,.int 1]);refine{_,rfl,_,rfl,tv,_,rfl,tv,(n:Int)+1,rfl,by lia,by lia,tv,?_}
  rw[show ((n:Int)+1).toNat=n+1 by lia]
  refine cT (λ_=>ζ) (λ_=>.lst ((ZK (n+1)).map λ_=>D.tup [.int 0,.int 1])) tv (by rw[Z7];exact cZ (by lia)) (λx hx x0 o J ho h1 _=>?_) ?_
  ·exact{tv,tv,mf,tv,E7,tv,_,rfl,tv,_,rfl,_,L0,.inl {qJ (λ_=>rfl) _,tv,ho,h1 rfl _}}
  rw[cM];have e0:D.lst ((ZK (n+1)).map λ_=>D.lst ((ZK (n+1)).map λ_=>D.tup [.int 0,.int 1]))=dP n (lS ps 1 0):=zE;rw[e0];refine{tv,_,rfl,tv,_,rfl,tv,1,(n:Int)+1,rfl,{by lia,by lia,by lia,by lia},tv,?_}
  rw[show ((n:Int)+1-1).toNat=n by lia]
  refine{λj β=>j<=n/\∃x7 x8 x9 gT vP vO Bi,β=[ν (.val η (fO n ps)),ν (.val ζ (.int n)),ν (.val η (lr ps)),ν (.val ζ (.lst ((ZK n).map λi=>D.lst (Q.br (near ps i))))),x4,x5,ν (.own (dP n (lS ps (j+1) 0))),x7,x8,x9,gT,vP,vO,Bi],{ZW _,_,_,_,_,_,_,_,rfl},?_,?_}
  ·rintro j d β hd ⟨_,x7,x8,x9,gT,vP,vO,Bi,rfl⟩;obtain⟨hj,rfl⟩:=bx hd;obtain⟨J,hJ⟩:∃J,J=j+1:={_,rfl};rw[show (1:Int)+(j:Int)=(J:Int) by lia,<- hJ]
   refine{_,rfl,tv,_,rfl,tv,_,rfl,rfl,tv,_,rfl,rfl,tv,(J:Int)-1,-1,rfl,{by lia,by lia,by lia,by lia},tv,?_}
   rw[show ((J:Int)-1 - -1).toNat=J by lia]
   refine{λm β=>m<=J/\∃x8 x9 gT vP vO Bi,β=[ν (.val η (fO n ps)),ν (.val ζ (.int n)),ν (.val η (lr ps)),ν (.val ζ (.lst ((ZK n).map λi=>D.lst (Q.br (near ps i))))),x4,x5,ν (.own (dP n (lS ps J m))),ν (.val ζ (.int J)),x8,x9,gT,vP,vO,Bi],{ZW _,_,_,_,_,_,_,rfl},?_,?_}
   ·rintro m d β hd ⟨_,x8,x9,gT,vP,vO,Bi,rfl⟩;obtain⟨hm,rfl⟩:=nr hd;obtain⟨b,hb⟩:∃b,b+m+1=J:={J-1-m,by lia}
    rw[show (J:Int)-1-(m:Int)=(b:Int) by lia]
    have Ax:∀x:Nat,x<=n->vb (dP n (lS ps J m)) (.int (x:Int))=ν (.lst ((ZK (n+1)).map λy=>lS ps J m x y)):=λx hx=>f9 rfl (a8 (by lia))
    have Px:∀x y:Nat,y<=n->(y<J\/(y=J/\J<=x+m))->vb (.lst ((ZK (n+1)).map λy=>lS ps J m x y)) (.int (y:Int))=ν (.tup [.int (mX ps x y),.int (cL ps x y:Int)]):=λx y hy h=>f9 rfl (by rw[a8 (by lia),v3 h];rfl)
    have eJ:(J:Int)-1=((J-1:Nat):Int):=by lia
    have IH:∀x:Nat,vb (.lst ((ZK (n+1)).map λy=>lS ps J m x y)) (.int ((J:Int)-1))=ν (.tup [.int (mX ps x (J-1)),.int (cL ps x (J-1):Int)]):=λx=>by rw[eJ];exact Px x (J-1) (by lia) (.inl (by lia))
    refine{_,rfl,tv,_,rfl,_,Ax b (by lia),.inr {tv,_,rfl,tv,_,rfl,_,IH b,tv,E7,.inl {{(rfl),tv},tv,?_}}}
    refine{_,rfl,tv,_,rfl,tv,_,rfl,_,f9 (i:=J-1) eJ (a8 (by lia)),.inr {_,rfl,tv,?_}}
    refine{λk β=>k<=(near ps (J-1)).length/\∃gT vP vO,β=[ν (.val η (fO n ps)),ν (.val ζ (.int n)),ν (.val η (lr ps)),ν (.val ζ (.lst ((ZK n).map λi=>D.lst (Q.br (near ps i))))),x4,x5,ν (.own (dP n (lS ps J m))),ν (.val ζ (.int J)),ν (.val ζ (.int b)),ν (.own (.lst ((zf ps b J ((near ps (J-1)).take k)).map Xq))),gT,vP,vO,Bi],{ZW _,_,_,_,rfl},?_,?_}
    ·rintro k d β hd ⟨_,gT,vP,vO,rfl⟩;have TX:=nK (ps:=ps) (b:=J-1);unfold Q.br at hd;rw[ZS]at hd;obtain⟨a,ha,rfl⟩:=ZR.mp hd;have Ub:=(Z1.mp ha).1;have X5:=ok.lt _ (bq.mp (aap ha));dsimp only at X5;have et:(near ps (J-1)).take (k+1)=(near ps (J-1)).take k++[a]:=by rw[aaM,ha];rfl
     have QR:=EE (ps:=ps) (b:=b) (J:=J) (l:=(near ps (J-1)).take k) (a:=a);refine{_,rfl,tv,_,rfl,_,rfl,_,rfl,kQ (λh=>?_) (λh=>?_)}
     ·have Uy:b<=a:=by lia
      rw[χ Uy]at QR;refine{_,rfl,tv,_,rfl,_,Ax b (by lia),.inr {tv,_,rfl,_,Px b a (by lia) (.inl (by lia)),rfl,?_}}
      refine{_,rfl,tv,_,rfl,tv,_,rfl,_,Ax (a+1) (by lia),.inr {tv,_,rfl,tv,_,rfl,_,IH (a+1),rfl,?_}}
      refine{{_,rfl},tv,_,rfl,tv,_,rfl,_,rfl,tv,_,rfl,tv,_,rfl,_,rfl,tv,_,rfl,tv,_,rfl,tv,_,rfl,tv,_,rfl,_,L6 (Mi hp ok.nd (by lia)),tv,mf,tv,_,rfl,?_,Ub,_,_,_,by rw[et,QR,aag];rfl}
      rw[ZE];have e1:=aat (λa=>decide (b<=a)) ((near ps (J-1)).take k);have e2:((near ps (J-1)).take k).length<=400:=by rw[aai];lia
      unfold zf;rw[ZZ,ZE];exact iq (by lia)
     ·rw[ω (by lia),aaw]at QR
      exact{Ub,_,_,_,by rw[et,QR];rfl}
    ·rintro β ⟨_,gT,vP,vO,rfl⟩;rw[show (Q.br (near ps (J-1))).length=(near ps (J-1)).length by unfold Q.br;rw[ZE],aaW]
     have Az:(zf ps b J (near ps (J-1))).length<=1000:=by
      have e1:=aat (λa=>decide (b<=a)) (near ps (J-1));have TX:=nK (ps:=ps) (b:=J-1);unfold zf;rw[ZZ,ZE];lia
     have em:de fR [.lst ((zf ps b J (near ps (J-1))).map λp=>D.int p.1)]=ν (.int (mX ps b J)):=by
      have:=qk (HI hp (show b<J by lia))
      rw[aaR]at this;exact this
     refine{_,rfl,_,rfl,tv,?_};refine Dd (λ_=>ζ) (λp=>.int p.1) tv (cZ Az) (λp mG y0 y1 o J' ho j1 j2=>?_) ?_
     ·exact{_,rfl,rfl,_,_,rfl,_,_,rfl,rfl,_,rfl,tv,ho,j1 rfl _ _}
     rw[cM];refine{tv,_,em,?_};have UO:de (λns=>ν ns.sum) [.lst (((zf ps b J (near ps (J-1))).filter λp=>decide (p.1=mX ps b J)).map λp=>D.int p.2)]=ν (.int (cL ps b J:Int)):=by
      have:=sum_ints (f:=λp:Int×Int=>p.2) (l:=(zf ps b J (near ps (J-1))).filter λp=>decide (p.1=mX ps b J));rw[HH hp (show b<J by lia)]at this
      exact this
     refine{_,rfl,tv,_,rfl,_,rfl,tv,?_};refine Dd (λp=>decide (p.1=mX ps b J)) (λp=>.int p.2) tv (cZ Az) (λp mG y0 y1 o J' ho j1 j2=>?_) ?_
     ·exact{_,rfl,rfl,_,_,rfl,_,_,rfl,rfl,_,rfl,tv,_,rfl,_,bA _ _,_,rfl,kQ (λh=>{_,rfl,tv,ho,j1 (Γ h) _ _}) (λh=>j2 (Δ h) _ _)}
     have UP:((ZK (n+1)).map λx=>D.lst ((ZK (n+1)).map λy=>lS ps J m x y)).set b (.lst (((ZK (n+1)).map λy=>lS ps J m b y).set J (.tup [.int (mX ps b J),.int (cL ps b J:Int)])))=(ZK (n+1)).map λx=>D.lst ((ZK (n+1)).map λy=>lS ps J (m+1) x y):=FH hb;refine{tv,_,UO,tv,mf,rfl,{_,rfl},_,rfl,_,(b:Int),b,_,rfl,rfl,by rw[ZE,Z7];exact rX rfl (by lia),a8 (show b<n+1 by lia),_,rfl,(J:Int),J,rfl,rfl,by rw[ZE,Z7];exact rX rfl (by lia),hm,_,_,_,_,_,_,by rw[UP];rfl}
   ·rintro β ⟨_,x8,x9,gT,vP,vO,Bi,rfl⟩;rw[nk,BQ];exact{by lia,_,_,_,_,_,_,_,rfl}
  ·rintro β ⟨_,x7,x8,x9,gT,vP,vO,Bi,rfl⟩;rw[bY,FI];exact{_,rfl,q}
end
end o8
namespace L2.Q
open PySem
section
variable {ps:List (Nat×Nat)}(hp:∀p∈ps,p.1<p.2)
include hp
theorem ie:∀(l i j:Nat),j-i<=l->((l0 ps w1 i j).length:Int)=mX ps i j
 |0,i,j,h=>by rw[jR (by lia),cE (by lia)];rfl
 |l+1,i,j,h=>by
  by_cases aG:i<j
  ·rw[qF hp aG];have hm:=c5 (fV (w:=w1) hp aG);cases q:gK ps w1 i j with
   |none =>
    rw[q]at hm;dsimp only;rw[ie l (i+1) j (by lia)]
    unfold mX;rw[show j-(i+1)=j-i-1 by lia]
    exact hm
   |some k =>
    rw[q]at hm;obtain⟨h1,h2,h3⟩:=hm;have DP:=hp _ h1;dsimp only at DP ⊢
    rw[ZZ,aad];have e1:=ie l (i+1) k (by lia)
    have e2:=ie l (k+1) j (by lia)
    unfold mX at e1 e2 ⊢
    rw[show k-(i+1)=k-i-1 by lia]at e1
    rw[show j-(k+1)=j-k-1 by lia]at e2
    rw[<- h3,<- e1,<- e2];show _=(1:Int)+_+_;lia
  ·rw[jR aG,cE (by lia)];rfl
theorem yM {i j:Nat}:((l0 ps w1 i j).length:Int)=mX ps i j:=ie hp (j-i) i j (ZG _)
end
section
variable {ps:List (Nat×Nat)}
variable (hp:∀p∈ps,p.1<p.2)
include hp
end
abbrev NN:=Nat×Nat
def Fp (p q:NN):Prop:=p.1<q.1/\(p.2<q.1\/q.2<p.2)
structure o7 (ps:List NN)(i j:Nat)(S:List NN):Prop where
 pw:S.Pairwise Fp
 of:∀p∈S,p∈ps/\i<=p.1/\p.2<j
section
variable {ps:List NN}(hp:∀p∈ps,p.1<p.2){i j:Nat}{S A B:List NN}
def o7.nil:o7 ps i j []:={List.Pairwise.nil,λ_ z=>nomatch z}
include hp in
theorem jn (h:¬ i<j)(s:o7 ps i j S):S=[]:=by
 cases S with
 |nil=>rfl
 |cons p S=>obtain⟨h1,h2,h3⟩:=s.of p ZO;have:=hp p h1;lia
theorem ze {k:Nat}:∀{T:List NN},T.Pairwise Fp->(∀q∈T,q.1<q.2/\(q.2<k\/k<q.1))->T=T.filter (λq=>decide (q.2<k))++T.filter (λq=>decide (k<q.1))
 |[],_,_=>rfl
 |q::T,hw,h=>by
  obtain⟨w1,w2⟩:=aaG.mp hw;obtain⟨a1,a2⟩:=h q ZO;have ih:=ze w2 λx hx=>h x (ZP _ hx);rcases a2 with a2|a2
  ·rw[aam,aam,χ (Γ a2),ω (by rw[decide_eq_true_eq];lia),adh,<- ih]
  ·have e1:(q::T).filter (λq=>decide (q.2<k))=[]:=by
    rw[ab2];intro x hx;rw[decide_eq_true_eq];rcases ZI.mp hx with rfl|hx
    ·lia
    ·have:=(w1 x hx).1;have:=(h x (ZP _ hx)).1;lia
   have e2:(q::T).filter (λq=>decide (k<q.1))=q::T:=by
    rw[List.filter_eq_self];intro x hx;rw[decide_eq_true_eq];rcases ZI.mp hx with rfl|hx
    ·lia
    ·have:=(w1 x hx).1;lia
   rw[e1,e2,List.nil_append]
include hp in
theorem cK (h:i<j):o7 ps i j S↔o7 ps (i+1) j S\/∃k A B,(i,k)∈ps/\k<j/\S=(i,k)::(A++B)/\o7 ps (i+1) k A/\o7 ps (k+1) j B:=by
 constructor
 ·intro s;cases S with
  |nil=>exact .inl .nil
  |cons p T =>
   obtain⟨w1,w2⟩:=aaG.mp s.pw;obtain⟨h1,h2,h3⟩:=s.of p ZO;have ot:∀q∈T,q∈ps/\i<=q.1/\q.2<j:=λq hq=>s.of q (ZP _ hq)
   by_cases e:p.1=i
   ·right
    obtain⟨a,k⟩:=p;dsimp only at e h2 h3;subst e;refine{k,T.filter (λq=>decide (q.2<k)),T.filter (λq=>decide (k<q.1)),h1,h3,?_,{w2.filter _,λq hq=>?_},{w2.filter _,λq hq=>?_}}
    ·rw[<- ze w2 λq hq=>{hp q (ot q hq).1,(w1 q hq).2.symm}]
    ·obtain⟨g1,g2⟩:=ZY.mp hq;have:=(w1 q g1).1;dsimp only at this;exact{(ot q g1).1,by lia,of_decide_eq_true g2}
    ·obtain⟨g1,g2⟩:=ZY.mp hq;exact{(ot q g1).1,of_decide_eq_true g2,(ot q g1).2.2}
   ·left
    refine{s.pw,λq hq=>?_};rcases ZI.mp hq with rfl|hq
    ·exact{h1,by lia,h3}
    ·have:=(w1 q hq).1;exact{(ot q hq).1,by lia,(ot q hq).2.2}
 ·rintro (s|⟨k,A,B,h1,h2,rfl,a,b⟩)
  ·exact{s.pw,λp hp=>let ⟨a,b,c⟩:=s.of p hp;{a,by lia,c}}
  ·have hk:=hp _ h1;dsimp only at hk;refine{aaG.mpr {λq hq=>?_,acD.mpr {a.pw,b.pw,λx hx y hy=>?_}},λq hq=>?_}
   ·rcases ZT.mp hq with z|z
    ·obtain⟨g1,g2,g3⟩:=a.of q z;exact{by dsimp only;lia,.inr g3}
    ·obtain⟨g1,g2,g3⟩:=b.of q z;exact{by dsimp only;lia,.inl g2}
   ·obtain⟨g1,g2,g3⟩:=a.of x hx;obtain⟨f1,f2,f3⟩:=b.of y hy;have:=hp x g1;exact{by lia,.inl (by lia)}
   ·rcases ZI.mp hq with rfl|hq
    ·exact{h1,ZG _,h2}
    ·rcases ZT.mp hq with z|z
     ·obtain⟨g1,g2,g3⟩:=a.of q z;exact{g1,by lia,by lia}
     ·obtain⟨g1,g2,g3⟩:=b.of q z;exact{g1,by lia,g3}
include hp in
theorem BN (h:i<j):o7 ps i j S↔o7 ps i (j-1) S\/∃a A B,(a,j-1)∈ps/\i<=a/\S=A++(a,j-1)::B/\o7 ps i a A/\o7 ps (a+1) (j-1) B:=by
 constructor
 ·intro s
  by_cases hx:∃p∈S,p.2=j-1
  ·right
   obtain⟨⟨a,b⟩,MF,e⟩:=hx;dsimp only at e;subst e;obtain⟨A,B,rfl⟩:=List.append_of_mem MF;obtain⟨w1,w2,w3⟩:=acD.mp s.pw;obtain⟨v1,v2⟩:=aaG.mp w2;obtain⟨h1,h2,h3⟩:=s.of _ MF;refine{a,A,B,h1,h2,rfl,{w1,λq hq=>?_},{v2,λq hq=>?_}}
   ·obtain⟨g1,g2,g3⟩:=s.of q (aaA _ hq);have:=w3 q hq _ ZO;obtain⟨f1,f2⟩:=this;dsimp only at f1 f2;exact{g1,g2,by lia}
   ·obtain⟨g1,g2,g3⟩:=s.of q (aaa _ (ZP _ hq));obtain⟨f1,f2⟩:=v1 q hq;dsimp only at f1 f2;have:=hp q g1;exact{g1,by lia,by lia}
  ·left
   refine{s.pw,λp mG=>?_};obtain⟨g1,g2,g3⟩:=s.of p mG;have:p.2≠j-1:=λz=>hx {(p),mG,z};exact{g1,g2,by lia}
 ·rintro (s|⟨a,A,B,h1,h2,rfl,sa,sb⟩)
  ·exact{s.pw,λp hp=>let ⟨a,b,c⟩:=s.of p hp;{a,b,by lia}}
  ·have hk:=hp _ h1;dsimp only at hk;refine{acD.mpr {sa.pw,aaG.mpr {λq hq=>?_,sb.pw},λx hx y hy=>?_},λq hq=>?_}
   ·obtain⟨g1,g2,g3⟩:=sb.of q hq;exact{by dsimp only;lia,.inr g3}
   ·obtain⟨g1,g2,g3⟩:=sa.of x hx;have:=hp x g1;rcases ZI.mp hy with rfl|hy
    ·exact{by dsimp only;lia,.inl g3}
    ·obtain⟨f1,f2,f3⟩:=sb.of y hy;exact{by lia,.inl (by lia)}
   ·rcases ZT.mp hq with z|z
    ·obtain⟨g1,g2,g3⟩:=sa.of q z;exact{g1,g2,by lia}
    ·rcases ZI.mp z with rfl|z
     ·exact{h1,h2,by dsimp only;lia}
     ·obtain⟨g1,g2,g3⟩:=sb.of q z;exact{g1,by lia,by lia}
include hp in
theorem m7:∀(l i j:Nat) (S:List NN),j-i<=l->o7 ps i j S->(S.length:Int)<=mX ps i j:=by
 intro l
 induction l with
 |zero=>intro i j S hl s;rw[jn hp (by lia) s];exact C_ hp
 |succ l ih =>
  intro i j S hl s
  by_cases h:i<j
  ·rcases (cK hp h).mp s with s|⟨k,A,B,h1,h2,rfl,a,b⟩
   ·exact Int.le_trans (ih (i+1) j S (by lia) s) (jG hp h)
   ·have hk:=hp _ h1;dsimp only at hk;have g1:=ih (i+1) k A (by lia) a
    have g2:=ih (k+1) j B (by lia) b
    have g3:=kB hp h1 h2;rw[ZZ,aad];lia
  ·rw[jn hp h s];exact C_ hp
def AM (ps:List NN):Nat->Nat->Nat->List (List NN)
 |0,_,_=>[[]]
 |f+1,i,j=>if i<j then AM ps f i (j-1)++(((near ps (j-1)).filter λa=>decide (i<=a)).flatMap λa=>(AM ps f i a).flatMap λA=>(AM ps f (a+1) (j-1)).map λB=>A++(a,j-1)::B) else [[]]
include hp in
theorem b_:∀(f i j:Nat) (S:List NN),j-i<=f->(S∈AM ps f i j↔o7 ps i j S):=by
 intro f
 induction f with
 |zero=>intro i j S h;exact{λz=>by rw[ZJ.mp z];exact .nil,λs=>by rw[jn hp (by lia) s];exact ZJ.mpr rfl}
 |succ f ih =>
  intro i j S h;unfold AM
  by_cases aG:i<j
  ·rw[χ aG,BN hp aG,ZT,ih i (j-1) S (by lia)]
   refine{λz=>z.elim .inl λz=>?_,λz=>z.elim .inl λz=>.inr ?_}
   ·obtain⟨a,Yu,z⟩:=aa5.mp z;obtain⟨II,Fd⟩:=ZY.mp Yu;have Fd:=of_decide_eq_true Fd;have LI:=hp _ (bq.mp II);dsimp only at LI;obtain⟨A,ha,z⟩:=aa5.mp z;obtain⟨B,hb,rfl⟩:=Z0.mp z;exact .inr {a,A,B,bq.mp II,Fd,rfl,(ih _ _ _ (by lia)).mp ha,(ih _ _ _ (by lia)).mp hb}
   ·obtain⟨a,A,B,h1,h2,rfl,sa,sb⟩:=z;have LI:=hp _ h1;dsimp only at LI;exact aa5.mpr {a,ZY.mpr {bq.mpr h1,Γ h2},aa5.mpr {A,(ih _ _ _ (by lia)).mpr sa,Z0.mpr {B,(ih _ _ _ (by lia)).mpr sb,rfl}}}
  ·rw[ω aG];exact{λz=>by rw[ZJ.mp z];exact .nil,λs=>by rw[jn hp aG s];exact ZJ.mpr rfl}
end
section
variable {ps:List NN}(hp:∀p∈ps,p.1<p.2){i j:Nat}{S A B:List NN}
def yP {α:Type}{q:α->Bool}{l:List α}(h:∀x∈l,q x=ζ):l.filter q=l:=List.filter_eq_self.mpr h
def kU {α:Type}{q:α->Bool}{l:List α}(h:∀x∈l,q x=η):l.filter q=[]:=ab2.mpr λx hx=>by rw[h x hx];simp
def GK {e:Nat}(h:ps.Nodup):(near ps e).Nodup:=by
 unfold near;rw[List.nodup_iff_pairwise_ne,aa7];refine(h.filter _).imp_of_mem λ{x y} hx hy xa e=>xa ?_;have h1:=of_decide_eq_true (ZY.mp hx).2;have h2:=of_decide_eq_true (ZY.mp hy).2;exact Prod.ext e (by lia)
include hp in
theorem C5 (nd:ps.Nodup):∀(f i j:Nat),j-i<=f->(AM ps f i j).Nodup:=by
 intro f
 induction f with
 |zero=>intro i j _;exact(acs _ _)
 |succ f ih =>
  intro i j h;unfold AM
  by_cases aG:i<j
  ·rw[χ aG,aaz];have key:∀{a:Nat} {A B:List NN},a<j-1->o7 ps i a A->o7 ps (a+1) (j-1) B->(A++(a,j-1)::B).filter (λq:NN=>decide (q.2=j-1))=[(a,j-1)]/\(A++(a,j-1)::B).filter (λq:NN=>decide (q.1<a))=A/\(A++(a,j-1)::B).filter (λq:NN=>decide (a<q.1))=B:=λ{a A B} ha sa sb=>by
    refine{?_,?_,?_}
    ·rw[aaI,aam,χ (Γ rfl),kU λq hq=>Δ (by have:=(sa.of q hq).2.2;lia),kU λq hq=>Δ (by have:=(sb.of q hq).2.2;lia),List.nil_append]
    ·rw[aaI,aam,ω (by rw[decide_eq_true_eq];dsimp only;lia),yP λq hq=>Γ (by have:=sa.of q hq;have:=hp q this.1;lia),kU λq hq=>Δ (by have:=(sb.of q hq).2.1;lia),aaw]
    ·rw[aaI,aam,ω (by rw[decide_eq_true_eq];dsimp only;lia),kU λq hq=>Δ (by have:=sa.of q hq;have:=hp q this.1;lia),yP λq hq=>Γ (by have:=(sb.of q hq).2.1;lia),List.nil_append]
   refine{ih _ _ (by lia),?_,λx hx y hy e=>?_}
   ·rw[List.nodup_iff_pairwise_ne,List.pairwise_flatMap];refine{λk hk=>?_,?_}
    ·obtain⟨II,Fd⟩:=ZY.mp hk;have Fd:=of_decide_eq_true Fd;have LI:=hp _ (bq.mp II);dsimp only at LI;rw[List.pairwise_flatMap];refine{λA ha=>?_,?_}
     ·rw[aa7];refine(ih (k+1) (j-1) (by lia)).imp λ{x y} xa e=>xa ?_
      have:=List.append_cancel_left e;injection this
     ·refine(ih i k (by lia)).imp_of_mem λ{x y} hx hy xa u hu v hv e=>xa ?_
      obtain⟨b,hb,rfl⟩:=Z0.mp hu;obtain⟨c,hc,rfl⟩:=Z0.mp hv;have sx:=(b_ hp _ _ _ _ (by lia)).mp hx
      have sy:=(b_ hp _ _ _ _ (by lia)).mp hy
      have sb:=(b_ hp _ _ _ _ (by lia)).mp hb
      have sc:=(b_ hp _ _ _ _ (by lia)).mp hc
      have e2:=Ι (List.filter λq:NN=>decide (q.1<k)) e;rw[(key LI sx sb).2.1,(key LI sy sc).2.1]at e2;exact e2
    ·refine((GK nd).filter _).imp_of_mem λ{a b} ha hb xa x hx y hy e=>xa ?_;have Wq:=hp _ (bq.mp (ZY.mp ha).1);have Pw:=hp _ (bq.mp (ZY.mp hb).1);have Wo:=of_decide_eq_true (ZY.mp ha).2;have Zu:=of_decide_eq_true (ZY.mp hb).2;dsimp only at Wq Pw;obtain⟨A,hA,hx⟩:=aa5.mp hx;obtain⟨A',QN,hy⟩:=aa5.mp hy;obtain⟨B,hB,rfl⟩:=Z0.mp hx;obtain⟨B',YB,rfl⟩:=Z0.mp hy;have e2:=Ι (List.filter λq:NN=>decide (q.2=j-1)) e;rw[(key Wq ((b_ hp _ _ _ _ (by lia)).mp hA) ((b_ hp _ _ _ _ (by lia)).mp hB)).1,(key Pw ((b_ hp _ _ _ _ (by lia)).mp QN) ((b_ hp _ _ _ _ (by lia)).mp YB)).1]at e2
     injection e2 with e3 _
     exact(Prod.mk.inj e3).1
   ·subst e;have s:=(b_ hp _ _ _ _ (by lia)).mp hx
    obtain⟨k,_,hy⟩:=aa5.mp hy;obtain⟨A,_,hy⟩:=aa5.mp hy;obtain⟨B,_,rfl⟩:=Z0.mp hy;have:=(s.of _ (aaa _ ZO)).2.2;dsimp only at this;lia
  ·rw[ω aG];exact(acs _ _)
def fC (m:Int)(L:List (List NN)):Nat:=(L.filter λS=>decide ((S.length:Int)=m)).length
theorem oQ {m:Int}{L L':List (List NN)}:fC m (L++L')=fC m L+fC m L':=by unfold fC;rw[aaI,aad]
theorem kZ {m:Int}{L:List (List NN)}(h:∀S∈L,(S.length:Int)≠m):fC m L=0:=by unfold fC;rw[kU λS hS=>Δ (h S hS)];rfl
theorem qQ {α:Type}{m:Int}{f:α->List (List NN)}:∀{l:List α},fC m (l.flatMap f)=(l.map λa=>fC m (f a)).sum
 |[]=>rfl
 |a::l=>by rw[List.flatMap_cons,oQ,qQ,aae,abS]
theorem ED {m m':Int}{f:List NN->List NN}{L:List (List NN)}(h:∀S∈L,((f S).length:Int)=m↔(S.length:Int)=m'):fC m (L.map f)=fC m' L:=by
 unfold fC;rw[List.filter_map,ZE]
 congr 1
 exact abP λS hS=>by simp only[Function.comp];exact decide_eq_decide.mpr (h S hS)
theorem vg {x y m:Int}{f:List NN->List NN->List NN}(hf:∀A B,(f A B).length=1+A.length+B.length)(hm:1+x+y<=m){Y:List (List NN)}(hy:∀B∈Y,(B.length:Int)<=y):
  ∀{X:List (List NN)},(∀A∈X,(A.length:Int)<=x)->fC m (X.flatMap λA=>Y.map (f A))=if 1+x+y=m then fC x X*fC y Y else 0
 |[],_=>by rw[show fC x []=0 from rfl,Nat.zero_mul];split <;> rfl
 |A::X,hx=>by
  have ih:=vg hf hm hy (X:=X) λB hB=>hx B (ZP _ hB);have ha:=hx A ZO;rw[List.flatMap_cons,oQ,ih];have e1:fC x (A::X)=(if (A.length:Int)=x then 1 else 0)+fC x X:=by
   unfold fC;rw[aam]
   by_cases q:(A.length:Int)=x
   ·rw[χ (Γ q),χ q,ZZ,Nat.add_comm]
   ·rw[ω (by rw[decide_eq_true_eq];exact q),ω q,abj]
  rw[e1]
  by_cases Ph:1+x+y=m
  ·rw[χ Ph,χ Ph]
   by_cases q:(A.length:Int)=x
   ·rw[χ q,Nat.add_mul,ac3,ED (m':=y) λB hB=>by rw[hf];lia]
   ·rw[ω q,abj,kZ λS hS=>?_,abj];obtain⟨B,hB,rfl⟩:=Z0.mp hS;have:=hy B hB;rw[hf];lia
  ·rw[ω Ph,ω Ph,Nat.add_zero];refine kZ λS hS=>?_;obtain⟨B,hB,rfl⟩:=Z0.mp hS;have:=hy B hB;rw[hf];lia
include hp in
theorem I_ (nd:ps.Nodup):∀(f i j:Nat),j-i<=f->fC (mX ps i j) (AM ps f i j)=cL ps i j:=by
 intro f
 induction f with
 |zero=>intro i j h;rw[jW (by lia),cE (by lia)];rfl
 |succ f ih =>
  intro i j h;unfold AM
  by_cases aG:i<j
  ·rw[χ aG,oQ,sC hp aG,qQ]
   congr 1
   ·by_cases e:mX ps i (j-1)=mX ps i j
    ·rw[χ e,<- e,ih i (j-1) (by lia)]
    ·rw[ω e];refine kZ λS hS=>?_;have:=m7 hp _ _ _ _ (ZG _) ((b_ hp _ _ _ _ (by lia)).mp hS)
     have:=gD hp _ _ _ (ZG _) aG;lia
   ·congr 1
    refine aal λa ha=>?_;obtain⟨h1,h2⟩:=ZY.mp ha;have h2:=of_decide_eq_true h2;have h3:=hp _ (bq.mp h1);dsimp only at h3;have h4:=hX hp (bq.mp h1) (by lia) _ i (ZG _) h2
    rw[vg (x:=mX ps i a) (y:=mX ps (a+1) (j-1)) (f:=λA B=>A++(a,j-1)::B) (λA B=>by rw[aad,ZZ];lia) (by lia) (λB hB=>m7 hp _ _ _ _ (ZG _) ((b_ hp _ _ _ _ (by lia)).mp hB)) (λA hA=>m7 hp _ _ _ _ (ZG _) ((b_ hp _ _ _ _ (by lia)).mp hA)),ih _ _ (by lia),ih _ _ (by lia)]
  ·rw[ω aG,jW (by lia),cE (by lia)];rfl
end
open QU
section
variable {ps:List NN}(hp:∀p∈ps,p.1<p.2){i j:Nat}{S:List NN}
def iU (p q:NN):Bool:=decide (p.1=q.1) || decide (p.1=q.2) || decide (p.2=q.1) || decide (p.2=q.2) || gP p.1 p.2 q.1 q.2
def xR (L:List (List NN))(p:NN):List (List NN):=L++(L.filter λS=>decide (S.filter (λq=>iU q p)=[])).map (p::·)
def fh:List NN->List (List NN)
 |[]=>[[]]
 |p::ps=>xR (fh ps) p
def uc {p q:NN}(h1:p.1<p.2)(h2:q.1<q.2)(h:p.1<q.1\/(p.1=q.1/\p.2<q.2)):iU q p=η↔Fp p q:=by
 unfold iU gP Fp;simp only[Bool.or_eq_false_iff,decide_eq_false_iff_not,Bool.and_eq_false_iff];lia
def qj {L:List (List NN)}{p:NN}:S∈xR L p↔S∈L\/∃T∈L,(∀q∈T,iU q p=η)/\S=p::T:=by
 unfold xR;rw[ZT,Z0];refine or_congr Iff.rfl {λfA=>?_,λjO=>by obtain⟨T,h1,h2,e⟩:=jO;exact{T,ZY.mpr {h1,Γ (kU h2)},e.symm}}
 obtain⟨T,hT,e⟩:=fA;obtain⟨g1,g2⟩:=ZY.mp hT;exact⟨T,g1,λq hq=>by
  have:=ab2.mp (of_decide_eq_true g2) q hq;simpa using this,e.symm⟩
theorem uj:∀{ps:List NN},(∀p∈ps,p.1<p.2)->(ps.Pairwise λp q=>p.1<q.1\/(p.1=q.1/\p.2<q.2))->∀{S:List NN},S∈fh ps↔S.Pairwise Fp/\∀p∈S,p∈ps
 |[],_,_,S=>by
  unfold fh;rw[ZJ];refine{λe=>by rw[e];exact{.nil,λ_ z=>z},λh=>?_}
  cases S with
  |nil=>rfl
  |cons p S=>exact Η (h.2 p ZO) aaX
 |p::ps,hp,hs,S=>by
  obtain⟨s1,s2⟩:=aaG.mp hs;have mG:∀q∈ps,q.1<q.2:=λq hq=>hp q (ZP _ hq);have pp:=hp p ZO;have ih:∀{S:List NN},S∈fh ps↔S.Pairwise Fp/\∀p∈S,p∈ps:=uj mG s2;unfold fh;rw[qj,ih];constructor
  ·rintro (⟨h1,h2⟩|⟨T,hT,h1,rfl⟩)
   ·exact{h1,λq hq=>ZP _ (h2 q hq)}
   ·obtain⟨g1,g2⟩:=ih.mp hT;refine{aaG.mpr {λq hq=>(uc pp (mG q (g2 q hq)) (s1 q (g2 q hq))).mp (h1 q hq),g1},λq hq=>?_};rcases ZI.mp hq with rfl|hq
    ·exact ZO
    ·exact ZP _ (g2 q hq)
  ·rintro⟨h1,h2⟩
   by_cases MF:p∈S
   ·right
    cases S with
    |nil=>cases MF
    |cons x T =>
     obtain⟨w1,w2⟩:=aaG.mp h1;have ex:x=p:=by
      rcases ZI.mp MF with z|z
      ·exact z.symm
      ·have g:=(w1 p z).1;rcases ZI.mp (h2 x ZO)with q|q
       ·exact q
       ·have:=s1 x q;lia
     subst ex;have hT:∀q∈T,q∈ps:=λq hq=>by
      rcases ZI.mp (h2 q (ZP _ hq))with z|z
      ·have:=(w1 q hq).1;rw[z]at this;lia
      ·exact z
     exact{T,ih.mpr {(w2),hT},λq hq=>(uc pp (mG q (hT q hq)) (s1 q (hT q hq))).mpr (w1 q hq),rfl}
   ·left
    exact⟨h1,λq hq=>by
     rcases ZI.mp (h2 q hq)with z|z
     ·rw[z]at hq;exact Η hq MF
     ·exact z⟩
theorem jJ:∀{ps:List NN},(fh ps).length<=2 ^ ps.length
 |[]=>ZG _
 |p::ps=>by
  have ih:=jJ (ps:=ps);have:=aat (λS=>decide (S.filter (λq=>iU q p)=[])) (fh ps);unfold fh xR;rw[aad,ZE,ZZ,acO];lia
def sD {n:Nat}(hp:∀p∈ps,p.1<p.2/\p.2<n)(hs:ps.Pairwise λp q=>p.1<q.1\/(p.1=q.1/\p.2<q.2)):S∈fh ps↔o7 ps 0 n S:=by
 rw[uj (λp h=>(hp p h).1) hs];exact{λr_=>by obtain⟨a,b⟩:=r_;exact{a,λp h=>{b p h,ZW _,(hp p (b p h)).2}},λs=>{s.pw,λp h=>(s.of p h).1}}
include hp in
theorem yL:∀(l i j:Nat),j-i<=l->o7 ps i j (l0 ps w1 i j):=by
 intro l
 induction l with
 |zero=>intro i j h;rw[jR (by lia)];exact .nil
 |succ l ih =>
  intro i j h
  by_cases aG:i<j
  ·rw[qF hp aG];have hm:=c5 (fV (w:=w1) hp aG);cases hc:gK ps w1 i j with
   |none=>exact(cK hp aG).mpr (.inl (ih _ _ (by lia)))
   |some k =>
    rw[hc]at hm;obtain⟨h1,h2,_⟩:=hm;have h3:=hp _ h1;dsimp only at h3;exact(cK hp aG).mpr (.inr {k,_,_,h1,h2,rfl,ih _ _ (by lia),ih _ _ (by lia)})
  ·rw[jR aG];exact .nil
end
def JA (S:List NN):lr S=lD (S.map tI):=by unfold lr lD;rw[aaR];rfl
def xK (L:List (List NN)):L.map lr=(L.map λS=>S.map tI).map lD:=by
 rw[aaR];exact aal λS _=>JA S
def Ec:FD:=λds R=>∃p q:NN,ds=[kD (tI p),kD (tI q)]/\R (.bl (gP p.1 p.2 q.1 q.2))
def Ec.mono:dy Ec:=λds R R' k h=>by obtain⟨p,q,e,h⟩:=h;exact{p,q,e,k _ h}
def Ea:FD:=λds R=>∃p q:NN,ds=[kD (tI p),kD (tI q)]/\R (.bl (iU p q))
def Ea.mono:dy Ea:=λds R R' k h=>by obtain⟨p,q,e,h⟩:=h;exact{p,q,e,k _ h}
def gw (ps:List NN):List (List (List Int)):=zH ((fh ps).map λS=>S.map tI)
def u0:FD:=λds R=>∃n ps,ds=[fO n ps]/\ps.length<=8/\R (.lst ((gw ps).map lD))
def u0.mono:dy u0:=λds R R' k h=>by obtain⟨n,ps,e,h1,h⟩:=h;exact{n,ps,e,h1,k _ h}
def GO (p q:NN):iU p q=(decide ((p.1:Int)∈[(q.1:Int),(q.2:Int)]) || (decide ((p.2:Int)∈[(q.1:Int),(q.2:Int)]) || gP p.1 p.2 q.1 q.2)):=by
 have e:∀a b c:Nat,decide ((a:Int)∈[(b:Int),(c:Int)])=(decide (a=b) || decide (a=c)):=λa b c=>by
  rw[<- Bool.decide_or];refine decide_eq_decide.mpr ?_;simp only[ZI,aaX,or_false];lia
 rw[e,e];unfold iU;simp only[Bool.or_assoc]
def tf {ps:List NN}:Et [.lst ((fh ps).map lr)]=(if (fh ps).length<=1000000 then ν (.lst ((gw ps).map lD)) else ξ):=by
 rw[xK];show (uo _).bind _=_;rw[qo λks hk k IJ=>?_,abb,ZE]
 ·rfl
 ·obtain⟨S,_,rfl⟩:=Z0.mp hk;obtain⟨p,_,rfl⟩:=Z0.mp IJ;exact List.cons_ne_nil _ _
def iA (p:NN)(L:List (List NN)):List (List NN):=(L.filter λS=>decide (S.filter (λq=>iU q p)=[])).map (p::·)
def Bb {ps:List NN}{m:Nat}{p:NN}(h:ps.reverse[m]?=ν p):fh (ps.drop (ps.length-(m+1)))=fh (ps.drop (ps.length-m))++iA p (fh (ps.drop (ps.length-m))):=by
 have hm:=(Z1.mp h).1;rw[List.length_reverse]at hm;rw[List.getElem?_reverse hm]at h;have hd:ps.drop (ps.length-(m+1))=p::ps.drop (ps.length-m):=by
  rw[aaL (by lia),show ps.length-(m+1)+1=ps.length-m by lia]
  have e2:ps.length-1-m=ps.length-(m+1):=by lia
  rw[e2]at h;rw[(Z1.mp h).2]
 rw[hd];rfl
def wI {p:NN}{L:List (List NN)}{S:List NN}:iA p (L++[S])=iA p L++if S.filter (λq=>iU q p)=[] then [p::S] else []:=by
 unfold iA;rw[aaI,aag]
 congr 1
 by_cases h:S.filter (λq=>iU q p)=[]
 ·rw[χ h,aam,χ (Γ h)];rfl
 ·rw[ω h,aam,ω (by rw[decide_eq_true_eq];exact h)];rfl
def qt {p:NN}{L:List (List NN)}:(iA p L).length<=L.length:=by unfold iA;rw[ZE];exact aat _ _
def KU {ps:List NN}{S:List NN}:S∈fh ps->S.length<=ps.length:=by
 induction ps generalizing S with
 |nil=>intro h;rw[ZJ.mp h];exact ZG _
 |cons p ps ih =>
  intro h;rcases qj.mp h with h|⟨T,hT,_,rfl⟩
  ·exact Nat.le_succ_of_le (ih h)
  ·exact Nat.succ_le_succ (ih hT)
end L2.Q
namespace o8
open PySem L2 L2.Q
section
variable {P:ZN}{w:Z4}{K:Ξ}{mg:Str->Option ZF}{base:Heap}
def cO:aL ["one","other","a","b","c","d"] ["one","other"] (ay eY):=mkS
def Kv {pL iH}(Bn:Qd K mg pL iH):aO P w K mg base cg 1 pL iH ["one","other"] (eT P w ζ Ec):=by
 refine rQ Bn.F cO (λds R O0=> by obtain⟨t,u,e,_⟩ := O0;subst e;rfl) λcY A outer s H E hr=>⟨_,(ah (nD (aa (i:=0)) (cB (n:=2) rfl (aH (aj (i:=2) cO.nd) (aH (aj (i:=3) cO.nd) bZ))))
    (ah (nD (aa (i:=1)) (cB (n:=2) rfl (aH (aj (i:=4) cO.nd) (aH (aj (i:=5) cO.nd) bZ))))
    (ak (bo (CA (tO (aa (i:=2)) (jx dF (aa (i:=4)) (jx dF (aa (i:=3)) (yf dF (aa (i:=5)))))) (rL (tO (aa (i:=4)) (jx dF (aa (i:=2)) (jx dF (aa (i:=5)) (yf dF (aa (i:=3)))))))))))),λds R h=>?_⟩
 obtain⟨⟨a,b⟩,⟨c,d⟩,rfl,q⟩:=h;refine{_,rfl,_,rfl,rfl,_,_,rfl,_,_,rfl,rfl,?_};refine{_,rfl,_,rfl,rfl,_,_,rfl,_,_,rfl,rfl,?_};refine EG (a:=a) (b:=c) (c:=b) (d:=d) rfl rfl rfl rfl {_,rfl,VW (λh=>{tv,?_}) (λh=>EG (a:=c) (b:=a) (c:=d) (d:=b) rfl rfl rfl rfl {tv,?_})}
 ·have:gP a b c d=ζ:=by unfold gP;rw[h];rfl
  rw[<- this];exact q
 ·have:gP a b c d=(decide ((c:Int)<a)&&(decide ((a:Int)<d)&&decide ((d:Int)<b))):=by unfold gP;rw[h];rfl
  rw[<- this];exact q
def tE:aL ["one","other"] ["one","other"] (ay fM):=mkS
def Kr {uT lO}(Fj:Q5 K mg uT lO){pL iH}(Bn:Qd K mg pL iH):aO P w K mg base cg 2 uT lO ["one","other"] (eT P w ζ Ea):=by
 have Y4:aO P w K mg base cg 1 _ _ _ (eT P w ζ Ec):=Kv Bn;refine rQ Fj.F tE (λds R OZ=> by obtain⟨t,u,e,_⟩ := OZ;subst e;rfl) λcY A outer s H E hr=>{_,(ak (bo (CA (iT af (bE.m (CN hr.rd)) (aE af aX (aa (i:=0)) ag) (aa (i:=1))) (CA (iT af (bE.m (CN hr.rd)) (aE af aX (aa (i:=0)) ag) (aa (i:=1))) (rL (aW Ec.mono Y4 (hr.mono (by decide)) Bn.m Bn.F.kp Bn.b (ab (aa (i:=0)) (ab (aa (i:=1)) ae)))))))),λds R h=>?_}
 obtain⟨p,q,rfl,h⟩:=h;rw[GO]at h;refine{_,rfl,tv,_,rfl,tv,_,rfl,_,EA p.1 (tI q),_,rfl,kQ (λz=>{tv,?_}) (λz=>{_,rfl,tv,_,rfl,tv,_,rfl,_,EA p.2 (tI q),_,rfl,kQ (λz2=>{tv,?_}) (λz2=>{_,rfl,tv,_,rfl,tv,p,q,rfl,tv,?_})})}
 ·rw[Γ (show (p.1:Int)∈[(q.1:Int),(q.2:Int)] from z)]at h
  exact h
 ·rw[Γ (show (p.2:Int)∈[(q.1:Int),(q.2:Int)] from z2),Bool.true_or,Bool.or_true]at h
  exact h
 ·rw[Δ (show ¬ (p.1:Int)∈[(q.1:Int),(q.2:Int)] from z),Δ (show ¬ (p.2:Int)∈[(q.1:Int),(q.2:Int)] from z2)]at h
  exact h
def c0:aL ["row","found","tie","more","some"] ["row"] (ay gZ):=mkS
def Gz {AJ qM}(I9:Vg K mg AJ qM){uT lO}(Fj:Q5 K mg uT lO){pL iH}(Bn:Qd K mg pL iH)(B:zv mg):aO P w K mg base cg 3 AJ qM ["row"] (eT P w η u0):=by
 have Y0:aO P w K mg base cg 2 _ _ _ (eT P w ζ Ea):=Kr Fj Bn;refine rQ I9.F c0 (λds R OY=> by obtain⟨n,ps,e,_⟩ := OY;subst e;rfl) λcY A outer s H E hr=>⟨_,(ah (a5 (i:=1) (bc (ab (bc ae) ae)) c0.nd)
    (ah (bC aav rfl (aS (F8 (aE af aX (aa (i:=0)) ag))) (aj (i:=2) c0.nd) (ah (bW (i:=3) (λ_=>(bc ae)) c0.nd)
    (ah (bC aav rfl (aS (aa (i:=1))) (aj (i:=4) c0.nd) (ak (b9 (aD af (bE.m (bN hr.units)) (Iu ["one","tie"] [ξ,ν 2] (by rfl) (by decide:(["one","tie"]:List Str).Nodup) rfl (aS (aa (i:=4))) (λ_ _ _ _ _ _=>(aj (i:=0) (by decide:(["one","tie"]:List Str).Nodup))) (λ_ _ _ _ _ _=>(cG (hG (aW Ea.mono Y0 (hr.mono (by decide)) Fj.m Fj.F.kp Fj.b (ab (aa (i:=0)) (ab (aa (i:=1)) ae)))))) (λ_ _ _ _ _ _=>(aa (i:=0)))) (bc ae)) (ak (b6 (i:=3) (λ_=>(aI aJ aB (bc (ab (aa (i:=2)) ae)) (aa (i:=4)))))) a7)))
    (ak (a5 (i:=1) (aI aJ aB (aa (i:=1)) (CB (i:=3))) c0.nd)))))
    (ak (bo (bf af (bO.m (sv hr.jj)) B.sorted k8 (ab (aa (i:=1)) ae)))))),λds R h=>?_⟩
 obtain⟨n,ps,rfl,hl,q⟩:=h;refine{ZW _,tv,E7,?_};refine{_,rfl,tv,_,rfl,.inr {_,rfl,.inr {_,rfl,tv,?_}}};have kS:∀m,(fh (ps.drop m)).length<=256:=λm=>aaj jJ (aaj (abv (by decide) (show (ps.drop m).length<=8 by rw[aci];lia)) (by decide))
 refine{λm β=>∃x2 x3 x4,β=[ν (.val η (fO n ps)),ν (.val ζ (.lst ((fh (ps.drop (ps.length-m))).map lr))),x2,x3,x4],{_,_,_,by rw[Nat.sub_zero,List.drop_length];rfl},?_,?_}
 ·rintro m d β hd ⟨x2,x3,x4,rfl⟩;rw[<- List.map_reverse,ZS]at hd;obtain⟨p,Lz,rfl⟩:=ZR.mp hd;have ea:=Bb Lz;have hL:=kS (ps.length-m);generalize Yn:fh (ps.drop (ps.length-m))=L at ea hL ⊢
  refine{ZW _,tv,?_};refine{_,rfl,_,rfl,tv,?_};refine{λk β=>k<=L.length/\∃x4,β=[ν (.val η (fO n ps)),ν (.val ζ (.lst (L.map lr))),ν (.val η (kD (tI p))),ν (.own (.lst ((iA p (L.take k)).map lr))),x4],{ZW _,_,rfl},?_,?_}
  ·rintro k d β hd ⟨_,x4,rfl⟩;rw[ZS]at hd;obtain⟨S,hS,rfl⟩:=ZR.mp hd;have hk:=(Z1.mp hS).1;have Zv:S.length<=8:=by
    have:=KU (S:=S) (ps:=ps.drop (ps.length-m)) (by rw[Yn];exact aap hS)
    rw[aci]at this;lia
   have et:L.take (k+1)=L.take k++[S]:=by rw[aaM,hS];rfl
   have es:=wI (p:=p) (L:=L.take k) (S:=S);rw[<- et]at es;have V_:(iA p (L.take k)).length<=256:=aaj qt (by rw[aai];lia)
   refine{_,rfl,_,rfl,tv,?_};refine cT (λq=>iU q p) (λq=>kD (tI q)) tv (by rw[aaQ];lia) (λq hq x0 o J ho j1 j2=>?_) ?_
   ·exact{_,rfl,tv,_,rfl,tv,q,p,rfl,_,rfl,VW (λh=>{_,rfl,yO _,ho,j1 h _}) (λh=>j2 h _)}
   ·have e0:L9 (.lst ((S.filter λq=>iU q p).map λq=>kD (tI q))) (.lst [])=ν (.bl (decide ((S.filter λq=>iU q p)=[]))):=by
     have:=EB ((S.filter λq=>iU q p).map tI) [];rw[aaR]at this;rw[show (λq:NN=>kD (tI q))=kD ∘ tI from rfl]
     rw[show (D.lst [])=D.lst (([]:List (List Int)).map kD) from rfl,this]
     congr 2
     exact decide_eq_decide.mpr List.map_eq_nil_iff
    refine{tv,ZW _,_,e0,_,rfl,kQ (λh=>?_) (λh=>?_)}
    ·rw[χ h]at es;have a1:EC (.lst [kD (tI p)]) (lr S)=ν (lr (p::S)):=oM (by rw[ZE];show 1+_<=_;lia)
     refine{{_,rfl},_,rfl,tv,E7,.inl {{yO _,tv},tv,_,rfl,_,a1,.inl {uK,tv,_,rfl,by rw[ZE];exact iq (by lia),hk,_,by rw[es,aag];rfl}}}
    ·rw[ω h,aaw]at es;exact{hk,_,by rw[es];rfl}
  ·rintro β ⟨_,x4,rfl⟩;rw[ZE,aaW];have a2:EC (.lst (L.map lr)) (.lst ((iA p L).map lr))=ν (.lst ((L++iA p L).map lr)):=by
    rw[aag];exact oM (by rw[ZE,ZE];have:=qt (p:=p) (L:=L);lia)
   exact{_,rfl,tv,_,rfl,_,a2,.inr {_,_,_,by rw[ea];rfl}}
 ·rintro β ⟨x2,x3,x4,rfl⟩;rw[List.length_reverse,ZE,acN,List.drop_zero];exact{_,rfl,tv,_,tf.trans (χ (by have:=kS 0;rw[List.drop_zero]at this;lia)),.inr {(tv),q}}
end
end o8
namespace L2.Q
open PySem QU
section
variable {ps:List NN}{n:Nat}(hp:∀p∈ps,p.1<p.2/\p.2<n)(hs:ps.Pairwise λp q=>p.1<q.1\/(p.1=q.1/\p.2<q.2))
def ui {ks:List (List Int)}:ks∈gw ps↔∃S∈fh ps,S.map tI=ks:=by
 unfold gw;rw[(fu _).mem_iff,Z0]
include hp hs in
theorem LV:(l0 ps w1 0 n).map tI∈gw ps:=ui.mpr {_,(sD hp hs).mpr (yL (λp h=>(hp p h).1) _ _ _ (ZG _)),rfl}
include hp hs in
theorem HU:fR ((gw ps).map λks=>(ks.length:Int))=ν (mX ps 0 n):=by
 have mG:=λp h=>(hp p h).1;refine yB (Z0.mpr {_,LV hp hs,by rw[ZE];exact yM mG}) λx hx=>?_
 obtain⟨ks,hk,rfl⟩:=Z0.mp hx;obtain⟨S,hS,rfl⟩:=ui.mp hk;rw[ZE];exact m7 mG _ _ _ _ (ZG _) ((sD hp hs).mp hS)
end
abbrev BC (ps:List NN)(i j:Nat):List (Option Nat):=dS ps w1 (tW ps w1) i j
def xC (ps:List NN)(i j:Nat)(S:List NN):Prop:=o7 ps i j S/\(S.length:Int)=mX ps i j
def oY (p:Nat)(S:List NN):Prop:=∃t∈S,t.1=p\/t.2=p
section
variable {ps:List NN}{i j n p k:Nat}{S A B:List NN}
def zi:ξ∈BC ps i j↔mX ps (i+1) j=mX ps i j:=by
 unfold BC dS mX;rw[ZT,Nat.sub_sub];constructor
 ·intro h;rcases h with h|h
  ·obtain⟨k,_,e⟩:=Z0.mp h;cases e
  ·by_cases e:tW ps w1 (j-(i+1)) (i+1)=tW ps w1 (j-i) i
   ·exact e
   ·rw[ω e]at h;cases h
 ·intro e;rw[χ e];exact .inr (ZJ.mpr rfl)
def jY:ν k∈BC ps i j↔(i,k)∈ps/\k<j/\1+mX ps (i+1) k+mX ps (k+1) j=mX ps i j:=by
 have e0:∀k,(w1 (i,k)+tW ps w1 (k-i-1) (i+1)+tW ps w1 (j-k-1) (k+1)=tW ps w1 (j-i) i)↔1+mX ps (i+1) k+mX ps (k+1) j=mX ps i j:=λk=>by
  unfold mX;rw[Nat.sub_sub,Nat.sub_sub];exact Iff.rfl
 unfold BC dS;rw[ZT];constructor
 ·intro h;rcases h with h|h
  ·obtain⟨k',hk,e⟩:=Z0.mp h;cases e;obtain⟨h1,h2⟩:=ZY.mp hk;obtain⟨h3,h4⟩:=acE.mp h2;exact{cD.mp h1,of_decide_eq_true h3,(e0 k).mp (of_decide_eq_true h4)}
  ·split at h
   ·cases ZJ.mp h
   ·cases h
 ·intro h;obtain⟨h1,h2,h3⟩:=h;exact .inl (Z0.mpr {k,ZY.mpr {cD.mpr h1,acE.mpr {Γ h2,Γ ((e0 k).mpr h3)}},rfl})
variable (hp:∀p∈ps,p.1<p.2)
include hp
theorem fE (s:o7 ps i j S):(S.length:Int)<=mX ps i j:=m7 hp (j-i) i j S (ZG _) s
theorem eG:∃S,xC ps i j S:={l0 ps w1 i j,yL hp _ _ _ (ZG _),yM hp}
theorem d6 (h:i<j):xC ps i j S↔(ξ∈BC ps i j/\xC ps (i+1) j S)\/∃k A B,ν k∈BC ps i j/\S=(i,k)::(A++B)/\xC ps (i+1) k A/\xC ps (k+1) j B:=by
 constructor
 ·intro m;obtain⟨s,e⟩:=m;rcases (cK hp h).mp s with s1|⟨k,A,B,h1,h2,rfl,sA,sB⟩
  ·have l1:=fE hp s1;obtain⟨S0,s0,e0⟩:=eG (i:=i+1) (j:=j) hp;have l2:=fE hp ((cK hp h).mpr (.inl s0));exact .inl {zi.mpr (by lia),s1,by lia}
  ·have lA:=fE hp sA;have lB:=fE hp sB;obtain⟨A0,a0,ea⟩:=eG (i:=i+1) (j:=k) hp;obtain⟨B0,b0,eb⟩:=eG (i:=k+1) (j:=j) hp;have l2:=fE hp ((cK hp h).mpr (.inr {(k),A0,B0,h1,h2,rfl,a0,b0}));simp only[ZZ,aad]at e l2;exact .inr {k,A,B,jY.mpr {h1,h2,by lia},rfl,{sA,by lia},{sB,by lia}}
 ·intro m;rcases m with⟨h1,s,e⟩|⟨k,A,B,h1,rfl,⟨sA,eA⟩,sB,eB⟩
  ·exact{(cK hp h).mpr (.inl s),by rw[e];exact zi.mp h1}
  ·obtain⟨h1,h2,h3⟩:=jY.mp h1;refine{(cK hp h).mpr (.inr {(k),A,B,h1,h2,rfl,sA,sB}),?_};simp only[ZZ,aad];lia
theorem gW (s:o7 ps i j S)(t:oY p S):i<=p/\p<j:=by
 obtain⟨q,hq,e⟩:=t;obtain⟨h1,h2,h3⟩:=s.of q hq;have:=hp q h1;lia
omit hp
theorem dg:oY p ((i,k)::(A++B))↔p=i\/p=k\/oY p A\/oY p B:=by
 constructor
 ·intro h;obtain⟨q,hq,e⟩:=h;rcases ZI.mp hq with rfl|hq
  ·exact e.elim (λe=>.inl e.symm) λe=>.inr (.inl e.symm)
  ·rcases ZT.mp hq with hq|hq
   ·exact .inr (.inr (.inl {(q),hq,e}))
   ·exact .inr (.inr (.inr {(q),hq,e}))
 ·intro h;rcases h with h|h|⟨q,hq,e⟩|⟨q,hq,e⟩
  ·exact{_,ZO,.inl h.symm}
  ·exact{_,ZO,.inr h.symm}
  ·exact{q,ZP _ (aaA _ hq),e}
  ·exact{q,ZP _ (aaa _ hq),e}
inductive vx (ps:List NN)(n:Nat):Nat->Nat->Prop
 |start:vx ps n 0 n
 |step {i j a b:Nat} {c:Option Nat} (r:vx ps n i j) (h:i<j) (hc:c∈BC ps i j) (hq:(a,b)∈parts i c j):vx ps n a b
include hp
theorem xZ (r:vx ps n i j):∀S',xC ps i j S'->∃S,xC ps 0 n S/\∀p,i<=p->p<j->(oY p S↔oY p S'):=by
 induction r with
 |start=>exact λS' m=>{S',m,λ_ _ _=>Iff.rfl}
 |step r h hc hq ih =>
  rename_i i j a b c
  intro S' m;cases c with
  |none =>
   have e:(a,b)=(i+1,j):=ZJ.mp hq;cases e;obtain⟨S,mS,k⟩:=ih S' ((d6 hp h).mpr (.inl {(hc),m}));exact{S,mS,λp h1 h2=>k p (by lia) h2}
  |some c =>
   have hq:(a,b)∈[(i+1,c),(c+1,j)]:=hq;have Pr:=jY.mp hc;have Uh:=hp _ Pr.1;dsimp only at Uh;rcases ZI.mp hq with e|hq
   ·cases e;obtain⟨B,mB⟩:=eG (i:=b+1) (j:=j) hp;obtain⟨S,mS,k⟩:=ih _ ((d6 hp h).mpr (.inr {(b),S',B,hc,rfl,m,mB}));refine{S,mS,λp h1 h2=>(k p (by lia) (by lia)).trans (dg.trans {λz=>?_,λz=>.inr (.inr (.inl z))})}
    rcases z with z|z|z|z
    ·lia
    ·lia
    ·exact z
    ·have:=gW hp mB.1 z;lia
   ·have e:=ZJ.mp hq;cases e;obtain⟨A,mA⟩:=eG (i:=i+1) (j:=c) hp;obtain⟨S,mS,k⟩:=ih _ ((d6 hp h).mpr (.inr {(c),A,S',hc,rfl,mA,m}));refine{S,mS,λp h1 h2=>(k p (by lia) (by lia)).trans (dg.trans {λz=>?_,λz=>.inr (.inr (.inr z))})}
    rcases z with z|z|z|z
    ·lia
    ·lia
    ·have:=gW hp mA.1 z;lia
    ·exact z
omit hp
def xE (ps:List NN)(n p:Nat):Prop:=∃j,vx ps n p j/\p<j/\ξ∈BC ps p j
def Bd (ps:List NN)(n p:Nat):Prop:=∃i j k,vx ps n i j/\i<j/\ν k∈BC ps i j/\(p=i\/p=k)
include hp
theorem x_:∀(l i j:Nat),j-i<=l->vx ps n i j->∀S,xC ps i j S->∀p,i<=p->p<j->(¬ oY p S->xE ps n p)/\(oY p S->Bd ps n p):=by
 intro l
 induction l with
 |zero=>intro i j h r S m p h1 h2;lia
 |succ l ih =>
  intro i j h r S m p h1 h2;have aG:i<j:=by lia
  rcases (d6 hp aG).mp m with⟨hc,m1⟩|⟨k,A,B,hc,rfl,mA,mB⟩
  ·by_cases e:p=i
   ·subst e;exact{λ_=>{(j),r,aG,hc},λz=>by have:=gW hp m1.1 z;lia}
   ·exact ih (i+1) j (by lia) (.step r aG hc (ZJ.mpr rfl)) S m1 p (by lia) h2
  ·have Pr:=jY.mp hc;have DP:=hp _ Pr.1;dsimp only at DP;have rA:vx ps n (i+1) k:=.step r aG hc ZO;have rB:vx ps n (k+1) j:=.step r aG hc (ZP _ ZO)
   by_cases e:p=i\/p=k
   ·exact{λz=>Η (dg.mpr (e.elim .inl λe=>.inr (.inl e))) z,λ_=>{(i),j,k,r,aG,hc,e}}
   ·by_cases e2:p<k
    ·have q:=ih (i+1) k (by lia) rA A mA p (by lia) e2
     refine{λz=>q.1 λz'=>z (dg.mpr (.inr (.inr (.inl z')))),λz=>q.2 ?_};rcases dg.mp z with z|z|z|z
     ·lia
     ·lia
     ·exact z
     ·have:=gW hp mB.1 z;lia
    ·have q:=ih (k+1) j (by lia) rB B mB p (by lia) h2
     refine{λz=>q.1 λz'=>z (dg.mpr (.inr (.inr (.inr z')))),λz=>q.2 ?_};rcases dg.mp z with z|z|z|z
     ·lia
     ·lia
     ·have:=gW hp mA.1 z;lia
     ·exact z
theorem oq (h:p<n):xE ps n p↔∃S,xC ps 0 n S/\¬ oY p S:=by
 constructor
 ·intro f;obtain⟨j,r,hj,hc⟩:=f;obtain⟨S',m⟩:=eG (i:=p+1) (j:=j) hp;obtain⟨S,mS,k⟩:=xZ hp r S' ((d6 hp hj).mpr (.inl {(hc),m}));exact{S,mS,λz=>by have:=gW hp m.1 ((k p (ZG _) hj).mp z);lia}
 ·intro f;obtain⟨S,m,z⟩:=f;exact(x_ hp n 0 n (by lia) .start S m p (ZW _) h).1 z
theorem mZ (h:p<n):Bd ps n p↔∃S,xC ps 0 n S/\oY p S:=by
 constructor
 ·intro f;obtain⟨i,j,c,r,aG,hc,e⟩:=f;have Pr:=jY.mp hc;have Uh:=hp _ Pr.1;dsimp only at Uh;obtain⟨A,mA⟩:=eG (i:=i+1) (j:=c) hp;obtain⟨B,mB⟩:=eG (i:=c+1) (j:=j) hp;obtain⟨S,mS,k⟩:=xZ hp r _ ((d6 hp aG).mpr (.inr {(c),A,B,hc,rfl,mA,mB}));exact{S,mS,(k p (by lia) (by lia)).mpr (dg.mpr (e.elim .inl λe=>.inr (.inl e)))}
 ·intro f;obtain⟨S,m,z⟩:=f;exact(x_ hp n 0 n (by lia) .start S m p (ZW _) h).2 z
end
def lU (ps:List NN)(p:Nat):List NN:=ps.filter λt=>!(decide (t.1=p) || decide (t.2=p))
def JC (p:Nat)(S:List NN):Bool:=S.any λt=>decide (t.1=p) || decide (t.2=p)
section
variable {ps:List NN}{i j n p:Nat}{S:List NN}
def jF {t:NN}:t∈lU ps p↔t∈ps/\¬ (t.1=p\/t.2=p):=by
 unfold lU;rw[ZY];simp
def jk:JC p S=ζ↔oY p S:=by
 unfold JC oY;rw[List.any_eq_true];simp
def mh:o7 (lU ps p) i j S↔o7 ps i j S/\¬ oY p S:=by
 constructor
 ·intro s;refine{{s.pw,λt ht=>?_},λz=>?_}
  ·obtain⟨h1,h2⟩:=s.of t ht;exact{(jF.mp h1).1,h2}
  ·obtain⟨t,ht,e⟩:=z;exact(jF.mp (s.of t ht).1).2 e
 ·intro s;exact{s.1.pw,λt ht=>{jF.mpr {(s.1.of t ht).1,λe=>s.2 {(t),ht,e}},(s.1.of t ht).2}}
variable (hp:∀p∈ps,p.1<p.2)
include hp
theorem kR:∀t∈lU ps p,t.1<t.2:=λt ht=>hp t (jF.mp ht).1
theorem Cq:mX (lU ps p) i j<=mX ps i j:=by
 obtain⟨S,s,e⟩:=eG (i:=i) (j:=j) (kR (p:=p) hp);have:=fE hp (mh.mp s).1;lia
theorem rH (h:p<n):mX (lU ps p) 0 n<mX ps 0 n↔¬ xE ps n p:=by
 rw[oq hp h];constructor
 ·intro l f;obtain⟨S,⟨s,e⟩,z⟩:=f;have:=fE (kR (p:=p) hp) (mh.mpr {(s),z});lia
 ·intro f;refine Int.lt_of_not_ge λl=>f ?_;have le:=Cq (p:=p) (i:=0) (j:=n) hp;obtain⟨S,s,e⟩:=eG (i:=0) (j:=n) (kR (p:=p) hp);obtain⟨s1,s2⟩:=mh.mp s;exact{S,{s1,by lia},s2}
theorem FC (h:p<n)(f:¬ xE ps n p):Bd ps n p:=by
 rw[oq hp h]at f;obtain⟨S,m⟩:=eG (i:=0) (j:=n) hp;exact(mZ hp h).mpr {S,m,abn λz=>f {(S),m,z}}
theorem J2 (nd:ps.Nodup)(h:p<n)(f:xE ps n p):cL (lU ps p) 0 n=cL ps 0 n↔¬ Bd ps n p:=by
 have em:mX (lU ps p) 0 n=mX ps 0 n:=by
  have:=Cq (p:=p) (i:=0) (j:=n) hp;have:=mt (rH hp h).mp (λz=>z f);lia
 have Bl:(lU ps p).Nodup:=nd.filter _;rw[<- I_ hp nd n 0 n (by lia),<- I_ (kR (p:=p) hp) Bl n 0 n (by lia),em]
 unfold fC;have n1:=(C5 hp nd n 0 n (by lia)).filter λS=>decide ((S.length:Int)=mX ps 0 n)
 have n2:=(C5 (kR (p:=p) hp) Bl n 0 n (by lia)).filter λS=>decide ((S.length:Int)=mX ps 0 n)
 have m1:∀S,S∈(AM ps n 0 n).filter (λS=>decide ((S.length:Int)=mX ps 0 n))↔xC ps 0 n S:=λS=>by
  rw[ZY,b_ hp _ _ _ _ (by lia)]
  exact{λz=>{z.1,of_decide_eq_true z.2},λz=>{z.1,Γ z.2}}
 have pm:((AM (lU ps p) n 0 n).filter λS=>decide ((S.length:Int)=mX ps 0 n)).Perm (((AM ps n 0 n).filter λS=>decide ((S.length:Int)=mX ps 0 n)).filter λS=>!JC p S):=by
  refine(List.perm_ext_iff_of_nodup n2 (n1.filter _)).mpr λS=>?_;rw[ZY,b_ (kR (p:=p) hp) _ _ _ _ (by lia),mh,ZY,m1]
  constructor
  ·intro z;exact{{z.1.1,of_decide_eq_true z.2},by rw[abQ];exact Bool.eq_false_iff.mpr λe=>z.1.2 (jk.mp e)}
  ·intro z;exact{{z.1.1,λe=>by have:=z.2;rw[jk.mpr e]at this;cases this},Γ z.1.2}
 rw[pm.length_eq,mZ hp h];generalize (AM ps n 0 n).filter (λS=>decide ((S.length:Int)=mX ps 0 n))=L at m1;constructor
 ·intro e z;obtain⟨S,m,t⟩:=z;have:=List.length_filter_eq_length_iff.mp e S ((m1 S).mpr m);rw[jk.mpr t]at this;cases this
 ·intro z;refine List.length_filter_eq_length_iff.mpr λS hS=>?_;rw[abQ];exact Bool.eq_false_iff.mpr λe=>z {S,(m1 S).mp hS,jk.mp e}
end
end L2.Q
namespace ST
open PySem PyProof.Rows
section
variable {prog:ZN}{w:Z4}{A:aaJ}{E:ZF->ZH->Prop}{s:ZH}
def AY {Q:ZF->ZH->Prop}(q:Q (.ref s.heap.objs.size) {s with heap:=s.heap.push (il w)}):aab (Ψ prog w) A (call (.type "set") []) Q E s:=by
 obtain⟨cx,WV,Sv⟩:=F.called_set.mro;have Ob:=F.called_set.made;have Rt:=F.called_set.sub;refine wpAny_call (codeAny_of_tree ?_);show aab _ _ (callAny (.type "set") _) _ _ _;refine ZL {Code.quiet_builtin _ (by decide +kernel),ab3 F.entry_type_call ?_}
 rw[Around.under_plain (weight_type_call_type "set" [] []) rfl];have t1:=F.called_set.notType;have t2:=F.called_set.canCreate;have t3:=F.typeCall_set_0
 repeat (any_goals (first|assumption|wp_step))
 refine abZ (uk (w:=w) (E:=E) (xs:=[]) (R:=λob sx=>ob=.ref s.heap.objs.size/\sx={s with heap:=s.heap.push (il w)}) F.newCall_set_0 (.inl rfl) {(rfl),rfl}) λr sx hr=>?_
 cases r with
 |error e=>exact hr
 |ok fl =>
  cases fl with
  |ret ob =>
   obtain⟨rfl,rfl⟩:=hr;have hT:Shared.TypeIs {s with heap:=s.heap.push (il w)} (.ref s.heap.objs.size) "set" := {_,Z8 _ rfl,rfl}
   have i1:=F.called_set.init.lookup;have i2:=F.called_set.init.bind (.ref s.heap.objs.size)
   repeat (any_goals (first|assumption|wp_step))
   refine abZ (codeAny_call_builtin (R:=wants (λr s2=>r=.none/\Q (.ref s.heap.objs.size) s2) E) F.called_set.init.plain F.entry_set_init (check_set_init hT ?_)) λr2 s2 og=>?_
   ·unfold abM.«set.__init__» noKeywords
    wp_walk
    exact{(rfl),q}
   ·cases r2 with
    |error e=>exact og
    |ok UJ =>
     cases UJ with
     |ret r =>
      obtain⟨rfl,hq⟩:=og
      repeat (any_goals (first|assumption|wp_step))
     |_=>exact og.elim
  |_=>exact hr.elim
end
end ST
namespace L2
open PySem PySem.Spec PySem.SeqAt PyProof.Rows
def gR (k:List Int)(ts:List (List Int)):List (List Int):=if k∈ts then ts else k::ts
def cS {k t:List Int}{ts:List (List Int)}:t∈gR k ts↔t=k\/t∈ts:=by
 unfold gR
 split
 ·rename_i h
  exact{.inr,λz=>z.elim (λz=>z▸h) id}
 ·exact ZI
def oU {k:List Int}{ts:List (List Int)}(h:ts.Nodup):(gR k ts).Nodup:=by
 unfold gR
 split
 ·exact h
 ·exact aac.mpr {by assumption,h}
def Bc {k:List Int}{ts us:List (List Int)}(h:ts.Perm us):(gR k ts).Perm (gR k us):=by
 unfold gR
 by_cases z:k∈ts
 ·rw[χ z,χ (h.mem_iff.mp z)];exact h
 ·rw[ω z,ω λz'=>z (h.mem_iff.mpr z')];exact h.cons k
section
variable {X:Cx}{o e:Expr}{es:List Expr}{to:TE}{t:TA}{T id:String}{name:Str}{r:V->List V->Hp->VK->Prop}{apos cpos:Pos}
def Kc (pa:PlainAttrs T)(slot:Slot T name id)(OE:typeOf (.builtin id)=pure (.type "method_descriptor"))(hm:Q0 X id r)(ho:PE X o to)(ha:PA X (e::es) t)
  (eM:ab6 o name X.env (eval o X.env)=eval o X.env:=by rfl)
  (oh:((abI cpos (Z2 (e::es) X.env)).all (λx=>!x.1)&&(backToKw cpos (ac1 [] X.env)).all (λx=>x.1.isSome)&&decide ((e::es).length+([]:List acA).length+(if ([]:List acA).isEmpty then 0 else 1)<30))=ζ:=by rfl)
  (eK:(apos.endLine==cpos.line)=ζ:=by rfl) (hs:Z2 (e::es) X.env=(η,eval e X.env)::Z2 es X.env:=by rfl) (eI:(abI cpos (Z2 es X.env)).any (·.1)=η:=by rfl) :
  PE X (.Call (.Attribute o name apos) (e::es) [] cpos) (λσ H Q=>to σ H λx H1=>(∀μ s v,Inv X μ σ H1 s->RelV x v->s.TypeIs v T/\∀a,v=.ref a->∃ob,s.heap.get? a=ν ob/\ob.dict=ξ)/\t σ H1 λxs H2=>r x xs H2 Q):=by
 intro μ s σ H Q I h;refine wpAny_Call_method_late eM oh eK rfl (bP (ho μ s σ H _ I h) λv s1 hx=>?_);obtain⟨x,H1,I1,r1,ty,q1⟩:=hx;obtain⟨h1,h2⟩:=ty _ _ _ I1 r1;refine{T,id,pa,slot,OE,h1,h2,?_};have hA:=ha cpos μ s1 σ H1 _ I1 q1;rw[hs]at hA ⊢
 refine Calls.callWith_builtin (by show (η || (abI cpos (Z2 es X.env)).any (·.1))=η;rw[eI] <;> rfl) (Calls.evalArgs_plain (bP hA λus s2 hx=>?_))
 obtain⟨vs,H2,I2,r2,q2⟩:=hx;exact hm μ s2 σ H2 x vs v us Q I2 r1 r2 q2
end
section
variable {X:Cx}
def xr:eS X (.type "set") (λxs H Q=>xs=[]/\∀a,H a=ξ->Q (.ref a) (upd H a (lj X.prog X.w a []))):=by
 intro μ s σ H xs us Q I r h;obtain⟨rfl,q⟩:=h;cases r;have hS:(s.heap.push (ST.il X.w)).get? s.heap.objs.size=ν (ST.il X.w):=Z8 _ rfl;refine ST.AY (w:=X.w) {.ref s.heap.objs.size,_,I.laid (t':=s.toks) (o:=lj X.prog X.w s.heap.objs.size []) (λ_ _ q=>ZM _ q) (ZG _) ?_,rfl,q _ (I.bp.fresh (ZG _))};exact{{_,_,_,_,hS,ST.yy _ _},{_,hS},λh1 h2 jO k=>by obtain⟨o1,e1,PH,t1,g1,g2⟩:=jO;exact{o1,e1,PH,t1,k _ g1,g2}}
def Np (X:Cx):V->List V->Hp->VK->Prop:=λx xs H Q=>∃a ts t key,x=.ref a/\xs=[.ref t]/\H a=ν (lj X.prog X.w a ts)/\H t=ν (.tup (key.map V.int))/\(∀x∈ts,H x.1=ν (.tup (x.2.map V.int)))/\ts.length<1000 /\
 ∀bF,(∀x∈bF,x∈ts\/x=(t,key))->(bF.map (·.2)).Perm (gR key (ts.map (·.2)))->Q .cf (upd H a (lj X.prog X.w a bF))
def Ag (hu:X.A.units+16<abx):Q0 X "set.add" (Np X):=by
 intro μ s σ H x xs v us Q I rx rs h;obtain⟨a,ts,t,key,rfl,rfl,hH,ht,f_,hn,q⟩:=h;cases rx;obtain⟨u,rfl,ru⟩:=vals1 rs;cases ru;obtain⟨⟨o,es,ep,tb,ho,S⟩,_,_⟩:=(show a9 X.prog X.w H s.heap a (lj X.prog X.w a ts) from I.bp a _ hH)
 have T:=mY I.bp f_;have DM:(ST.TK X.prog X.w).is s.heap key t:=(mY (ts:=[(t,key)]) I.bp λx hx=>by rw[ZJ.mp hx];exact ht) (t,key) (ZJ.mpr rfl)
 refine aa3 PySem.F.slot_set_add (ST.fv ho S) PySem.F.entry_set_add ?_ (PySem.F.args_set_add_2 _ _);unfold abM.«set.add» Builtin.Frozenset.oneOther;simp only[List.isEmpty_nil,bind_assoc];unfold Builtin.Frozenset.addrOf;refine ZD (ZL ?_)
 try dsimp only
 refine ZD (ZL ?_)
 try dsimp only
 have Ta:X.A.in1.units<abx:=by show X.A.units+1<abx;lia
 refine ZD (ST.BD ho S T DM Ta hn λh' o' bF eU pM t' added tk Tb sb w_ S' m1 m2=>?_);show aab _ _ (ret Value.none) _ _ _;have I2:Inv X μ σ (upd H a (lj X.prog X.w a bF)) {s with heap:=h',toks:=tk}:=I.write (x:=a) (e:=a) (by rw[hH];exact tv) (.inl rfl) (λb u hb hu=>(sb.2 b hb).trans hu) {_,w_}
  {{(o'),eU,pM,t',w_,S'},{_,w_},λh1 h2 w6 k=>by obtain⟨o1,e1,PH,t1,g1,g2⟩:=w6;exact{o1,e1,PH,t1,k _ g1,g2}}
 refine ZL {_,rfl,.cf,_,I2,rfl,?_}
 by_cases sL:∃x∈ts,x.2=key
 ·obtain rfl:=m1 sL;refine q bF (λx hx=>.inl hx) ?_;unfold gR;obtain⟨y,hy,e⟩:=sL;rw[χ (by rw[<- e];exact List.mem_map_of_mem hy)]
 ·have pm:=m2 λx hx e=>sL {(x),hx,e};refine q bF (λx hx=>(ZI.mp (pm.mem_iff.mp hx)).symm) ?_;unfold gR;rw[ω (λz=>sL (by obtain⟨y,hy,e⟩:=Z0.mp z;exact{(y),hy,e}))]
  exact pm.map _
def PY (b a:D):Option D:=match a with
 |.sT ts=>b.K_.bind λes=>(iJ es).map λt=>.bl (decide (t∈ts))
 |_=>ξ
def HE {t:List Int}{ts:List (List Int)}:PY (.tup (t.map D.int)) (.sT ts)=ν (.bl (decide (t∈ts))):=by
 show (iJ (t.map D.int)).map _=_;rw[ij];rfl
def Gp (hu:X.A.units+16<abx):bE X (aaV .In) PY:=by
 intro μ s σ H x y v u Q I rx ry h;obtain⟨W,d1,d2,d,hd,r1,r2,e,q⟩:=h;cases d2 with
 |sT ts =>
  obtain⟨es,h1,h2⟩:=aaC.mp (show d1.K_.bind _=ν d from e)
  obtain⟨t,h3,rfl⟩:=ZR.mp h2;rw[D.uC h1,jT h3]at r1;obtain⟨p,us,rfl,hp,rp⟩:=r1;rw[bK rp]at hp;obtain⟨a,rfl,⟨bF,hH,f_,pm⟩,_⟩:=r2;cases rx;cases ry;obtain⟨⟨o,eo,ep,tb,ho,S⟩,_,_⟩:=(show a9 X.prog X.w H s.heap a (lj X.prog X.w a bF) from I.bp a _ hH)
  have T:=mY I.bp f_;have DM:(ST.TK X.prog X.w).is s.heap t p:=(mY (ts:=[(p,t)]) I.bp λx hx=>by rw[ZJ.mp hx];exact hp) (p,t) (ZJ.mpr rfl)
  have hT:=ST.fv ho S;have ed:decide (t∈ts)=decide (∃x∈bF,x.2=t):=by
   rw[decide_eq_decide,<- pm.mem_iff,Z0]
  show aab _ _ (contains (.ref a) (.ref p) >>= λb=>pure (Value.bool b)) _ _ s;refine ZD ?_;unfold contains;refine aa6 (ZD (wpAny_specialOf hT PySem.F.slot_set_contains.lookup ?_));show aab _ _ (if (ν (Value.builtin "set.__contains__")==ν Value.none)=ζ then _ else _) _ _ s
  rw[ω (by rw[beq_builtin_none];exact aaO)]
  refine ZD (wpAny_callSpecialUnlessNone?_slot (name:=acx "__contains__") hT PySem.F.slot_set_contains (aa3 PySem.F.slot_set_contains hT entry_set_contains ?_ (PySem.F.args_set_contains_2 _ _)));unfold abM.«frozenset.__contains__» Builtin.Frozenset.oneOther;simp only[List.isEmpty_nil,bind_assoc];unfold Builtin.Frozenset.addrOf Builtin.Frozenset.withSetAsKey;refine ZD (ZL ?_)
  try dsimp only
  refine ZD (ZL ?_)
  try dsimp only
  have Ta:X.A.in1.units<abx:=by show X.A.units+1<abx;lia
  refine ZD (wpAny_tryCatch (ST.sP ho S T DM Ta ?_));refine ZL {_,rfl,abf (ZL {.bl (decide (t∈ts)),H,I.tok _,?_,q _ _ (au.refl _) rfl})};rw[ed];rfl
 |_=>cases e
end
end L2
namespace L2.Q
open PySem PySem.Spec PySem.SeqAt PyProof.Rows
section
variable {X:Cx}{C:Cfg}{e:Expr}{φ:aM}{p:Bool}{i j:Nat}{x y:Str}{pos px py ap cp tp:Pos}
def F7 (hm:X.mg "set" = ξ)(hg:Gl X "set" := by rfl):PQ X C ζ (.Call (.Name "set" px) [] [] pos) (λβ R=>R (.sT []) .own β) :=
 ⟨λβ R R' k h=>k _ _ _ h,(wz xr hg hm EK).pre λσ H Q h=>by
  obtain⟨β,own,s,q⟩:=h;refine{rfl,λa ha=>q _ _ own ((Out.refl s _).same (au.new ha)) {[a],{a,rfl,{[],ao,λx hx=>(nomatch hx),.nil},rfl},by simp,λc hc=>?_}}
  rw[ZJ.mp hc];exact{ha,λz=>s.AQ a z ha,aax λz=>s.iI a z ha}⟩
def yr (hu:X.A.units+16<abx)(he:∀U,PQ X (C.u U) p e φ)(hn:Nm X i x:=by exact wG)
  (eM:ab6 (.Name x px) "add" X.env (eval (.Name x px) X.env)=eval (.Name x px) X.env:=by rfl)
  (oh:((abI cp (Z2 [e] X.env)).all (λx=>!x.1)&&(backToKw cp (ac1 [] X.env)).all (λx=>x.1.isSome)&&decide ([e].length+([]:List acA).length+(if ([]:List acA).isEmpty then 0 else 1)<30))=ζ:=by rfl)
  (eK:(ap.endLine==cp.line)=ζ:=by rfl) (hs:Z2 [e] X.env=(η,eval e X.env)::Z2 [] X.env:=by rfl) (eI:(abI cp (Z2 [] X.env)).any (·.1)=η:=by rfl)
  (vH:ab4 (.Call (.Attribute (.Name x px) "add" ap) [e] [] cp) ξ pos.line X.env=pure η:=by rfl) :
  PB X C (.Expr (.Call (.Attribute (.Name x px) "add" ap) [e] [] cp) pos) (λE β=>(∃ts,β[i]?=ν (ν (.own (.sT ts))))/\φ β λd _ β'=>∃t ts,d=kD t/\β'[i]?=ν (ν (.own (.sT ts)))/\ts.length<1000/\E.nx (β'.set i (ν (.own (.sT (gR t ts)))))):=by
 refine{λE E' β l h=>by obtain⟨h1,q⟩:=h;exact{h1,(he λ_=>False).mono _ _ _ (λd k β' h=>by obtain⟨t,ts,h1,h2,h3,q⟩:=h;exact{t,ts,h1,h2,h3,l.nx _ q}) q},λμ s σ H D I fA=>?_}
 obtain⟨Z,E,β,⟨own,sq,n⟩,⟨⟨Zg,hb⟩,q⟩,ok⟩:=fA;refine mn (pos:=pos) (Kc (apos:=ap) (cpos:=cp) PySem.F.plainAttrs_set PySem.F.slot_set_add PySem.F.type_set_add (Ag hu) (eE (pos:=px) hn) (a_ (he λa=>H a=ξ).pe cR hs) eM oh eK hs eI) vH μ s σ H D I ?_;obtain⟨v0,h1,⟨a,rfl,⟨bF,hH,f_,pm⟩,h3⟩,_⟩:=sq.ow i _ hb;refine{.ref a,h1,λμ s v I r=>?_,tQ.of (he λa=>H a=ξ) (sq.mQ (C:=C.z) (U:=λa=>H a=ξ) λa z=>z) q λd k β' v H1 aC n9 o r=>?_}
 ·cases r;obtain⟨⟨ob,es,ep,tb,ho,S⟩,_,_⟩:=(show a9 X.prog X.w H s.heap a (lj X.prog X.w a bF) from I.bp a _ hH)
  exact{ST.fv ho S,λb e=>by cases e;exact{(ob),ho,S.ex.2.1}}
 obtain⟨t,ts,rfl,lZ,hl,q⟩:=n9;obtain⟨v1,g1,⟨a',rfl,⟨us,gH,UE,gm⟩,g3⟩,_⟩:=o.sq.ow i _ lZ;rw[h1]at g1;cases g1;obtain⟨b,vs,rfl,MI,rb⟩:=r.rep;rw[_root_.L2.bK rb]at MI;have ha:a∈aC i:=by rw[g3];simp
 have nt:∀{c:θ} {xs:List V},H1 c=ν (.tup xs)->c≠a:=λe z=>by rw[z,gH]at e;cases e
 have hA:∀c∈[a],c∈aC i\/(C.H0 c=ξ/\¬ Wn aC c/\H c=ξ):=λc hc=>.inl (by rw[g3];exact hc)
 refine{a,us,b,t,rfl,rfl,gH,MI,UE,by rw[<- gm.length_eq,ZE]at hl;exact hl,λsJ m1 m2=>ok.nx _ _ _ {_,o.sq.putIn lZ h1 ha (show Own X.prog X.w (upd H1 a (lj X.prog X.w a sJ)) (.sT (gR t ts)) (.ref a) [a] from {a,rfl,{sJ,ao,λx hx=>?_,m2.trans (Bc gm)},rfl}) (by simp) hA,m_ (n.trans o.sn) (λb z=>n.free z) {(i),ha} {_,gH,λxs z=>by cases z} hA} q}
 rcases m1 x hx with z|rfl
 ·rw[aw (nt (UE x z))];exact UE x z
 ·rw[aw (nt MI)];exact MI
def tT {k}(aG:i≠j)(hn:Nm X i x:=by exact wG)(IG:Nm X j y:=by exact wG)
  (X0:Z2 [.Name x px,.Name y py] X.env=(η,eval (.Name x px) X.env)::Z2 [.Name y py] X.env:=by rfl) (qD:Z2 [.Name y py] X.env=(η,eval (.Name y py) X.env)::Z2 [] X.env:=by rfl) :
  PB X C (.Return (ν (.Tuple [.Name x px,.Name y py] k tp)) pos) (λE β=>∃d0 d,β[i]?=ν (ν (.own d0))/\β[j]?=ν (ν (.own d))/\E.rt (.tup [d0,d]) β) :=
 ⟨λE E' β l h=>by obtain⟨d0,d,h1,h2,q⟩:=h;exact{d0,d,h1,h2,l.rt _ _ q},(iR (wx (a_ (eE (pos:=px) hn) (a_ (eE (pos:=py) IG) cR qD) X0))).pre λD σ H hq=>by
  obtain⟨Z,E,β,⟨own,s,n⟩,⟨d0,d,Ff,hb,q⟩,ok⟩:=hq;obtain⟨v0,e0,r0,z0⟩:=s.ow i d0 Ff;obtain⟨v,e1,r,z1⟩:=s.ow j d hb;have hz:∀c∈own i++own j,C.H0 c=ξ:=λc hc=>(ZT.mp hc).elim (z0 c) (z1 c);refine{v0,e0,v,e1,(by show 2<=Z3;decide),λp hp=>ok.rt _ _ _ _ _ (((Out.refl s ζ).same (au.new hp)).sb n) ?_ q}
  have sm:au H (upd H p (.tup [v0,v])):=au.new hp;have VA:Own X.prog X.w (upd H p (.tup [v0,v])) d0 v0 (own i):=r0.keep (λb xs e=>sm _ _ e) (λc _ o e=>sm c o e);have r':Own X.prog X.w (upd H p (.tup [v0,v])) d v (own j):=r.keep (λb xs e=>sm _ _ e) (λc _ o e=>sm c o e);have oo:Own X.prog X.w (upd H p (.tup [v0,v])) (.tup [d0,d]) (.ref p) (own i++own j):={p,_,rfl,ao,v0,[v],own i,own j,rfl,rfl,VA,v,[],own j,[],rfl,by simp,r',rfl,rfl}
  cases hr:C.ro with
  |true=>exact{_,oo,aaz.mpr {s.lV i,s.lV j,λa ha b hb e=>aG (s.mJ i j a ha (e▸hb))},hz}
  |false=>exact oo.rep λc hc z=>z (hz c hc)⟩
end
end L2.Q
namespace L2
open PySem PySem.Spec PySem.SeqAt PyProof.Rows
def mem (o:List Int):Int->Bool:=λk=>decide (k∈o)
def iS (S:Int->Bool)(n:Nat):D:=.ob λ_=>.set S n
def Lc {S S':Int->Bool}{n n':Nat}(h:iS S n=iS S' n'):S=S':=by
 injection h with h
 have:=congrFun h 0;injection this
section
open Classical
noncomputable def u_ (f:Bool->Bool)(b a:D):Option D:=if h:∃S n,a=iS S n then b.int?.map λk=>.bl (f (Classical.choose h k)) else ξ
def u9 {f:Bool->Bool}{k:Int}{S:Int->Bool}{n:Nat}:u_ f (.int k) (iS S n)=ν (.bl (f (S k))):=by
 have h:∃S' n',iS S n=iS S' n':={(S),n,rfl};unfold u_;rw[dif_pos h];obtain⟨n',e⟩:=Classical.choose_spec h;rw[<- Lc e];rfl
def Ey {f:Bool->Bool}{a b d:D}(h:u_ f b a=ν d):∃S n k,a=iS S n/\b=.int k/\d=.bl (f (S k)):=by
 unfold u_ at h
 split at h
 ·rename_i z
  obtain⟨n',e⟩:=Classical.choose_spec z;obtain⟨k,e1,rfl⟩:=ZR.mp h;exact{_,n',k,e,D.rZ e1,rfl}
 ·cases h
end
section
variable {X:Cx}
def nJ:bE X (aaV .NotIn) (u_ λb=>!b):=by
 intro μ s σ H x y v u Q I rx ry h;obtain⟨W,d1,d2,d,hd,r1,r2,e,q⟩:=h;obtain⟨S,n,k,rfl,rfl,rfl⟩:=Ey e;obtain⟨a,rfl,⟨hH,_⟩,_⟩:=r2;cases (show x=.int k from r1)
 obtain⟨tk,rfl⟩:=rx;cases ry;have hS:s.heap.SetOf (intKind X.prog X.w) a S n:=I.bp a _ hH;exact wpAny_notInSet_of (intKind_is _ _ _ _) rfl hS {.bl (!S k),H,I.tok _,rfl,q _ _ (au.refl _) rfl}
def t9:ll X (newSet (.type "set")) (.set (mem []) 0) :=
 ⟨λμ s σ H Q E I h=>wpAny_newSet_of (knd:=intKind X.prog X.w) λled hS=>h _ _ (ZG _) I.fresh (λb o e=>ZM _ e) (I.laid (t':=s.toks) (λ_ _ q=>ZM _ q) (ZG _) (by
  have e:mem []=λ_=>η:=by funext k;rfl
  rw[e];exact hS))⟩
def tU {elt:Expr}{te:TE}{a:θ}(hx:X.xe=λ_ _=>False)(he:PE X elt te):
  pS X (gv (yV elt (.ref a) X.env)) (λN σ H=>te σ H λv H1=>∃S n t,v=.int t/\H1 a=ν (.set S n)/\n+1<scanBound/\N σ (upd H1 a (.set (λk=>S k || decide (k=t)) (if S t then n else n+1)))):=by
 intro μ s σ H N k Q E I h hk;unfold gv yV;refine ZD (ZD (bP (dY hx (he μ s σ H _ I h)) λu s1 fA=>?_));obtain⟨v,H1,I1,r1,S,n,t,rfl,hH,hn,q⟩:=fA;obtain⟨tk,rfl⟩:=r1;have hS:s1.heap.SetOf (intKind X.prog X.w) a S n:=I1.bp a _ hH;refine ZD (abR (ZD (call_set_add (intKind_is _ _ _ _) rfl hS hn λh' sb Wr=>?_)));refine ZL (hk σ _ _ ?_ q);have w_:∃o,h'.get? a=ν o:=by
  obtain⟨o,_,_,_,ho,_⟩:=Wr;exact{(o),ho}
 exact I1.write (x:=a) (e:=a) (t':=s1.toks+1) (by rw[hH];exact tv) (.inl rfl) (λb u hb hu=>(sb.2 b hb).trans hu) w_ Wr
end
end L2
namespace L2.Q
open PySem PySem.Spec PySem.SeqAt PyProof.Rows
def vq (t:Int)(o:List Int):List Int:=if t∈o then o else t::o
def dz (o:List Int):List Int:=o.foldl (λa t=>vq t a) []
def Hr {o:List Int}{t:Int}:dz (o++[t])=vq t (dz o):=by unfold dz;rw[List.foldl_append];rfl
theorem El:∀(o a:List Int),a.Nodup->(o.foldl (λa t=>vq t a) a).Nodup/\∀x,x∈o.foldl (λa t=>vq t a) a↔x∈a\/x∈o
 |[],a,h=>{h,λx=>by simp}
 |t::o,a,h=>by
  have h1:(vq t a).Nodup/\∀x,x∈vq t a↔x∈a\/x=t:=by
   unfold vq
   split
   ·rename_i z
    exact{h,λx=>{.inl,λq=>q.elim id λq=>q▸z}}
   ·rename_i z
    exact{aac.mpr {(z),h},λx=>by rw[ZI];exact Or.comm}
  obtain⟨g1,g2⟩:=El o _ h1.1;refine{g1,λx=>?_};rw[acr,g2,h1.2,ZI,or_assoc]
def wJ {o:List Int}{x:Int}:x∈dz o↔x∈o:=((El o [] aaH).2 x).trans (by simp)
def Vk (a:θ)(o:List Int)(H:Hp):Prop:=H a=ν (.set (mem o) (dz o).length)
def sF {a:θ}:xH a (Vk a):=⟨λo H H' s h=>s _ _ h,λo H xs h z=>by
  rw[show H a=_ from h]at z;cases z⟩
def GU {o:List Int}{t:Int}:(λk=>mem o k || decide (k=t))=mem (o++[t]):=by
 funext k
 unfold mem;rw[<- Bool.decide_or];exact decide_eq_decide.mpr (by rw[ZT,ZJ])
abbrev Rc (X:Cx)(C:Cfg)(a:θ)(φ:aM):l8:=λN σ H=>tQ X (C.u λc=>c=a) ζ φ σ H λv H1=>∃S n t,v=.int t/\H1 a=ν (.set S n)/\n+1<scanBound/\N σ (upd H1 a (.set (λk=>S k || decide (k=t)) (if S t then n else n+1)))
def xm (φ:aM)(o:List Int)(β:a6)(N:a6->List Int->Prop):Prop:=φ β λx _ β3=>∃t,x=.int t/\(dz o).length+1<scanBound/\N β3 (o++[t])
section
variable {X:Cx}{C:Cfg}{W0:θ->Prop}{T:List Nat}{σ0:St}{H1:Hp}{a:θ}{Hb:Hp}{Wb:θ->Prop}{φ:aM}
def tG (h0:C.H0 a=ξ)(ha:H1 a=ξ)(φm:∀β R R',(∀d k β,R d k β->R' d k β)->φ β R->φ β R'){β:a6}{o:List Int}{σ:St}{H:Hp}{N:a6->List Int->Prop}(s:sG X C W0 T σ0 H1 a Hb Wb (Vk a) β o σ H)(q:xm φ o β N):
  Rc X C a φ (λσ' H'=>∃β' o',sG X C W0 T σ0 H1 a Hb Wb (Vk a) β' o' σ' H'/\N β' o') σ H:=by
 obtain⟨own,s⟩:=s;refine{β,own,s.sq,φm _ _ _ (λxd kx β6 fA v H6 CK o6 r6=>?_) q};obtain⟨t,e,hz,q⟩:=fA;subst e;obtain⟨sm,rfl⟩:=o6.pu rfl;have s6:=s.next sF o6.sq (λ_ z=>z) sm (λ_ _=>rfl)
 cases (show v=.int t from r6.rep)
 have at':H6 a=ν (.set (mem o) (dz o).length):=s6.ac;refine{_,_,t,rfl,at',hz,β6,o++[t],{_,s6.put h0 ha at' (λxs z=>by cases z) ?_},q}
 have e:(if mem o t=ζ then (dz o).length else (dz o).length+1)=(dz (o++[t])).length:=by
  rw[Hr];unfold vq mem
  by_cases z:t∈o
  ·rw[Γ z,χ rfl,χ (wJ.mpr z)]
  ·rw[Δ z,ω (λz=>Bool.noConfusion z),ω (λq=>z (wJ.mp q))];rfl
 show upd H6 a _ a=_;rw[ao,GU,e]
end
def EU {X:Cx}{C:Cfg}{σ:St}{H1 H':Hp}{β:a6}{own:Nat->List θ}{a:θ}{S:Int->Bool}{n:Nat}(s1:SQ X C σ H1 β own)(ha:H1 a=ξ)(h:H' a=ν (.set S n)):KV X.prog X.w C (H1,Wn own) own H' .own (iS S n) (.ref a):=by
 refine{[a],{a,rfl,{h,λxs z=>by cases z},rfl},by simp,λc hc=>?_}
 rw[ZJ.mp hc];exact{ha,λh=>by obtain⟨j,hj⟩:=h;exact(s1.dm j a hj).1 ha,aax λz=>s1.iI a z ha}
def JW (lk:List (Option Nat))(ι:bS)(γ:cJ)(τ:aV)(φ:aM):aM:=λβ R=>ι β λds k β1=>hold k η/\iC γ τ (xm φ) ds k (bR lk β1) [] λβf o=>dw (bR lk β1) βf/\R (iS (mem o) (dz o).length) .own β1
def F1 (lk:List (Option Nat))(ι:bS)(γ:cJ)(τ:aV)(ι2:bS)(γ2:cJ)(τ2:aV)(φ:aM):aM:=λβ R=>ι β λds k β1=>hold k η/\iC γ τ (C3 ι2 γ2 τ2 (xm φ)) ds k (bR lk β1) [] λβf o=>dw (bR lk β1) βf/\R (iS (mem o) (dz o).length) .own β1
section
variable {X:Cx}{C:Cfg}{lk:List (Option Nat)}{γ γ2:cJ}{τ τ2:aV}{φ:aM}{T T2:List Nat}
variable {scope:acj}{tg bQ oX iD elt:Expr}{ifs fz:List Expr}{ι ι2:bS}{pi:Bool}{pos:Pos}
def Xd (N':List Str)(lk:List (Option Nat))(L:fg X.env.scope.names X.N scope N' lk=ζ)(lL:N'.Nodup)(hc:X.calm=ζ)(hi:vA X C pi tg bQ ι)
  (lK:∀a cl c s H ex,vB (ar X scope N' cl c s H ex) (C.u λc=>c=a) tg T γ) (f_:∀a cl c s H ex,l9 (ar X scope N' cl c s H ex) (C.u λc=>c=a) ζ ifs τ)
  (jP:∀a cl c s H ex,PQ (ar X scope N' cl c s H ex) (C.u λc=>c=a) ζ elt φ) (hT:T.all (λi=>match lk[i]? with|some (ν _)=>η|_=>ζ)=ζ:=by rfl)
  (hs:∀x,aay bQ X.env x=pure x:=by intro _;rfl):PQ X C pi (.SetComp elt [{tg,bQ,ifs,0}] scope pos) (JW lk ι γ τ φ):=by
 have L:=Links.of L;have AB:∀i∈T,∀j,lk[i]?≠ν (ν j):=λi hi j e=>by
  have:=abq.mp hT i hi;rw[e]at this;cases this
 have γm:=(lK 0 [] 0 X.s₀ X.H₀ []).mono;have τm:=(f_ 0 [] 0 X.s₀ X.H₀ []).mono;have φm:=(jP 0 [] 0 X.s₀ X.H₀ []).mono;refine{λβ R R' k h=>hi.mono β _ _ (λds kd β1 q=>{q.1,q.2.mono λ_ _ z=>{z.1,k _ _ _ z.2}}) h,?_};refine(eF (g:={tg,bQ,ifs,0}) (gs:=[]) (tg:=λa=>FE X C a T γ) (tt:=λa=>iO X (C.u λc=>c=a) ζ τ) (ta:=λa=>Rc X C a φ)
  L hc t9 rfl rfl (λ_ _=>PZ) hi.pi (λa cl c s H ex=>{(lK a cl c s H ex).pg,(f_ a cl c s H ex).pt,tU (X:=ar X scope N' cl c s H ex) rfl (jP a cl c s H ex).pe}) hs).pre λσ H Q h=>?_
 obtain⟨β,own,s,h⟩:=h;refine{β,own,s,hi.mono β _ _ (λds k β1 h J H1 aC o1 it a ha=>?_) h};obtain⟨hk,q⟩:=h;refine jq (T:=T) sF γm τm (λj hj=>hj) (bw L lL) AB o1.sq ha hk it ao (o1.sq.xl (λxs z=>by cases z) ha (bw L lL))
  (λHb Wb βx ox σx Hx Nx h0 sx qx=>tG h0 ha φm sx qx) q λo H' q o2 r=>?_
 exact q _ _ aC {o2.sq,o1.sn.trans o2.sn,λz=>{(o1.pu z).1.trans (o2.pu rfl).1,(o1.pu z).2},o1.le} ((EU o1.sq ha r).later o1.sn)
def RF (N':List Str)(lk:List (Option Nat))(L:fg X.env.scope.names X.N scope N' lk=ζ)(lL:N'.Nodup)(hc:X.calm=ζ)(hi:vA X C pi tg bQ ι)
  (lK:∀a cl c s H ex,vB (ar X scope N' cl c s H ex) (C.u λc=>c=a) tg T γ) (f_:∀a cl c s H ex,l9 (ar X scope N' cl c s H ex) (C.u λc=>c=a) ζ ifs τ)
  (Hf:∀a cl c s H ex,QX (ar X scope N' cl c s H ex) (C.u λc=>c=a) oX iD ι2)
  (DA:∀a cl c s H ex,vB (ar X scope N' cl c s H ex) (C.u λc=>c=a) oX T2 γ2) (Dz:∀a cl c s H ex,l9 (ar X scope N' cl c s H ex) (C.u λc=>c=a) ζ fz τ2)
  (jP:∀a cl c s H ex,PQ (ar X scope N' cl c s H ex) (C.u λc=>c=a) ζ elt φ) (hT:(T++T2).all (λi=>match lk[i]? with|some (ν _)=>η|_=>ζ)=ζ:=by rfl)
  (hs:∀x,aay bQ X.env x=pure x:=by intro _;rfl) (qD:∀cl c s H ex x,aay iD (ar X scope N' cl c s H ex).env x=pure x:=by intro _ _ _ _ _ _;rfl):PQ X C pi (.SetComp elt [{tg,bQ,ifs,0},{oX,iD,fz,0}] scope pos) (F1 lk ι γ τ ι2 γ2 τ2 φ):=by
 have L:=Links.of L;have AB:∀i∈T++T2,∀j,lk[i]?≠ν (ν j):=λi hi j e=>by
  have:=abq.mp hT i hi;rw[e]at this;cases this
 have γm:=(lK 0 [] 0 X.s₀ X.H₀ []).mono;have τm:=(f_ 0 [] 0 X.s₀ X.H₀ []).mono;have Jk:=(DA 0 [] 0 X.s₀ X.H₀ []).mono;have Jj:=(Dz 0 [] 0 X.s₀ X.H₀ []).mono;have φm:=(jP 0 [] 0 X.s₀ X.H₀ []).mono;have ιm:=(Hf 0 [] 0 X.s₀ X.H₀ []).mono;refine{λβ R R' k h=>hi.mono β _ _ (λds kd β1 q=>{q.1,q.2.mono λ_ _ z=>{z.1,k _ _ _ z.2}}) h,?_};refine(eF (g:={tg,bQ,ifs,0}) (gs:=[{oX,iD,fz,0}]) (tg:=λa=>FE X C a T γ) (tt:=λa=>iO X (C.u λc=>c=a) ζ τ)
  (ta:=λa N σ H=>∃β own,SQ X (C.u λc=>c=a) σ H β own/\ι2 β λds k β'=>∀J H',au H H'->SQ X (C.u λc=>c=a) σ H' β' own->vN X (gk (C.u λc=>c=a) (Wn own) k) J ds H' ->
   fo J (FE X C a T2 γ2) (iO X (C.u λc=>c=a) ζ τ2) (Rc X C a φ) N σ H')
  L hc t9 rfl rfl (λ_ _=>Md) hi.pi (λa cl c s H ex=>{(lK a cl c s H ex).pg,(f_ a cl c s H ex).pt,yt (X:=ar X scope N' cl c s H ex) (g':={oX,iD,fz,0}) rfl hc Mc (Hf a cl c s H ex).pi (DA a cl c s H ex).pg (Dz a cl c s H ex).pt (tU (X:=ar X scope N' cl c s H ex) rfl (jP a cl c s H ex).pe) (qD cl c s H ex)}) hs).pre λσ H Q h=>?_
 obtain⟨β,own,s,h⟩:=h;refine{β,own,s,hi.mono β _ _ (λds k β1 h J H1 aC o1 it a ha=>?_) h};obtain⟨hk,q⟩:=h;refine jq (T:=T++T2) sF γm τm (λj hj=>aaA _ hj) (bw L lL) AB o1.sq ha hk it ao (o1.sq.xl (λxs z=>by cases z) ha (bw L lL))
  (λHb Wb βx ox σx Hx Nx h0 sx qx=>xW sF (λj hj=>aaa _ hj) Jk Jj (λHb Wb βy oy σy Hy Ny sy qy=>tG h0 ha φm sy qy) ιm sx qx) q λo H' q o2 r=>?_
 exact q _ _ aC {o2.sq,o1.sn.trans o2.sn,λz=>{(o1.pu z).1.trans (o2.pu rfl).1,(o1.pu z).2},o1.le} ((EU o1.sq ha r).later o1.sn)
end
theorem len_sub {α:Type}[DecidableEq α]:∀{l m:List α},l.Nodup->(∀x∈l,x∈m)->l.length<=m.length
 |[],m,_,_=>ZW _
 |x::l,m,nd,h=>by
  obtain⟨h1,h2⟩:=aac.mp nd;have q:=len_sub (l:=l) (m:=m.erase x) h2 λy hy=>(List.mem_erase_of_ne λz:y=x=>h1 (by rw[<- z];exact hy)).mpr (h y (ZP _ hy))
  have hx:=h x ZO;rw[List.length_erase_of_mem hx]at q;have:=List.length_pos_of_mem hx;rw[ZZ];lia
def Ek {o:List Int}{m:Nat}(h:∀x∈o,0<=x/\x<(m:Int)):(dz o).length<=m:=by
 have q:=len_sub (l:=dz o) (m:=(ZK m).map λi:Nat=>(i:Int)) (El o [] aaH).1 λx hx=>by
  have:=h x (wJ.mp hx);exact Z0.mpr {x.toNat,aas.mpr (by lia),by lia}
 rw[ZE,Z7]at q;exact q
section
variable {ps:List NN}{n:Nat}
def nu (hp:∀t∈ps,t.1<t.2){i j:Nat}(r:vx ps n i j):i<=j/\j<=n:=by
 induction r with
 |start=>exact{ZW _,ZG _}
 | @step i j a b c r h hc hq ih =>
  cases c with
  |none =>
   have e:(a,b)=(i+1,j):=ZJ.mp hq;cases e;exact{(h),ih.2}
  |some k =>
   have hk:=c5 hc;have h1:=hp _ hk.1;have h2:k<j:=hk.2.1;dsimp only at h1;have e:(a,b)=(i+1,k)\/(a,b)=(k+1,j):=by
    rcases ZI.mp hq with e|e
    ·exact .inl e
    ·exact .inr (ZJ.mp e)
   rcases e with e|e <;> cases e <;> lia
def CH (hp:∀t∈ps,t.1<t.2){i j:Nat}{c:Option Nat}(hc:c∈BC ps i j){q:NN}(hq:q∈parts i c j):i<q.1:=by
 cases c with
 |none=>rw[ZJ.mp hq];exact ade _
 |some k =>
  have h1:=hp _ (c5 hc).1;dsimp only at h1;rcases ZI.mp hq with e|e
  ·rw[e];exact ade _
  ·rw[ZJ.mp e];dsimp only;lia
structure Mt (ps:List NN)(n:Nat)(P:Nat->Nat->Prop)(ts:List (List Int))(cs:List (Nat×Option Nat)):Prop where
 s0:tI (0,n)∈ts
 s1:∀t∈ts,∃a b,t=tI (a,b)/\vx ps n a b
 s2:∀a b,P a b->a<b->tI (a,b)∈ts->∀c∈BC ps a b,(a,c)∈cs/\∀q∈parts a c b,tI q∈ts
 c1:∀x∈cs,∃b,vx ps n x.1 b/\x.1<b/\x.2∈BC ps x.1 b
 nd:ts.Nodup
def Mt.start:Mt ps n (λ_ _=>False) (gR (tI (0,n)) []) [] :=
 {cS.mpr (.inl rfl),λt h=>(cS.mp h).elim (λe=>{0,n,e,.start}) λz=>(nomatch z),λ_ _ z=>z.elim,λ_ z=>(nomatch z),oU aaH}
variable {P:Nat->Nat->Prop}{ts:List (List Int)}{cs:List (Nat×Option Nat)}
def Mt.reach (m:Mt ps n P ts cs){a b:Nat}(h:tI (a,b)∈ts):vx ps n a b:=by
 obtain⟨a',b',e,r⟩:=m.s1 _ h;cases rm e;exact r
def Mt.app (m:Mt ps n P ts cs){i j:Nat}{c:Option Nat}(hr:vx ps n i j)(h:i<j)(hc:c∈BC ps i j):Mt ps n P ts (cs++[(i,c)]) :=
 {m.s0,m.s1,λa b z l t c hc=>{aaA _ (m.s2 a b z l t c hc).1,(m.s2 a b z l t c hc).2},λx hx=>(ZT.mp hx).elim (m.c1 x) λz=>by rw[ZJ.mp z];exact{(j),hr,h,hc},m.nd}
def Mt.add (m:Mt ps n P ts cs){q:NN}(hP:∀a b,P a b->a<q.1)(hr:vx ps n q.1 q.2):Mt ps n P (gR (tI q) ts) cs :=
 ⟨cS.mpr (.inr m.s0),λt h=>(cS.mp h).elim (λe=>{(q.1),q.2,e,hr}) (m.s1 t),λa b z l t c hc=>by
  have ht:=(cS.mp t).resolve_left λe=>acm a (by have:=hP a b z;rw[<- Ι Prod.fst (rm e)]at this;exact this)
  exact{(m.s2 a b z l ht c hc).1,λq' hq=>cS.mpr (.inr ((m.s2 a b z l ht c hc).2 q' hq))},m.c1,oU m.nd⟩
def Mt.done (m:Mt ps n P ts cs){P':Nat->Nat->Prop}{i j:Nat}(hP:∀a b,P' a b->a<b->P a b\/(a=i/\b=j))(h:tI (i,j)∈ts->∀c∈BC ps i j,(i,c)∈cs/\∀q∈parts i c j,tI q∈ts):Mt ps n P' ts cs :=
 ⟨m.s0,m.s1,λa b z l t=>by
  rcases hP a b z l with z|⟨rfl,rfl⟩
  ·exact m.s2 a b z l t
  ·exact h t,m.c1,m.nd⟩
def Mt.weak (m:Mt ps n P ts cs){P':Nat->Nat->Prop}(hP:∀a b,P' a b->P a b):Mt ps n P' ts cs:={m.s0,m.s1,λa b z=>m.s2 a b (hP a b z),m.c1,m.nd}
def U4:List (List Int):=(ZK 41).flatMap λb=>(ZK (b+1)).map λa=>tI (a,b)
def Mt.len (m:Mt ps n P ts cs)(hp:∀t∈ps,t.1<t.2)(hn:n<=40):ts.length<1000:=by
 have q:=len_sub (m:=U4) m.nd λt ht=>by
  obtain⟨a,b,rfl,r⟩:=m.s1 t ht;have:=nu hp r;exact aa5.mpr {b,aas.mpr (by lia),Z0.mpr {a,aas.mpr (by lia),rfl}}
 exact ab0 q (by decide)
def Met (ps:List NN)(n:Nat)(cs:List (Nat×Option Nat)):Prop:=∀i c,(i,c)∈cs↔∃j,vx ps n i j/\i<j/\c∈BC ps i j
def Mt.met (m:Mt ps n P ts cs)(hp:∀t∈ps,t.1<t.2)(hP:∀a b,a<b->b<=n->P a b):Met ps n cs:=by
 have all:∀{a b},vx ps n a b->tI (a,b)∈ts:=λr=>by
  induction r with
  |start=>exact m.s0
  | @step i j a b c r h hc hq ih=>exact(m.s2 i j (hP i j h (nu hp r).2) h ih c hc).2 _ hq
 exact λi c=>{λh=>m.c1 _ h,λOX=> by obtain⟨j,r,h,hc⟩ := OX;exact(m.s2 i j (hP i j h (nu hp r).2) h (all r) c hc).1}
def Met.free (m:Met ps n cs){p:Nat}:xE ps n p↔(p,ξ)∈cs:=(m p ξ).symm
def Met.Rb (m:Met ps n cs){p:Nat}:Bd ps n p↔∃i k,(i,ν k)∈cs/\(p=i\/p=k):=by
 constructor
 ·rintro⟨i,j,k,r,h,hc,e⟩;exact{i,k,(m i (ν k)).mpr {(j),r,h,hc},e}
 ·rintro⟨i,k,h,e⟩;obtain⟨j,r,hj,hc⟩:=(m i (ν k)).mp h;exact{(i),j,k,r,hj,hc,e}
def Met.lt (m:Met ps n cs){i:Nat}{c:Option Nat}(hp:∀t∈ps,t.1<t.2)(h:(i,c)∈cs):i<n/\∀k,c=ν k->k<n:=by
 obtain⟨j,r,hj,hc⟩:=(m i c).mp h;have:=nu hp r;refine{by lia,λk e=>?_}
 subst e;have:=(c5 hc).2.1;lia
def Bo (x:Nat×Option Nat):D:=.tup [.int (x.1:Int),oD x.2]
def yN (cs:List (Nat×Option Nat)):List Int:=(cs.filter λx=>decide (x.2=ξ)).map λx=>(x.1:Int)
def sW (x:Nat×Option Nat):List Int:=match x.2 with
 |none=>[]
 |some k=>[(x.1:Int),(k:Int)]
def GS {p:Nat}:(p:Int)∈yN cs↔(p,ξ)∈cs:=by
 unfold yN;rw[Z0];constructor
 ·rintro⟨⟨i,c⟩,h,e⟩;obtain⟨h1,h2⟩:=ZY.mp h;have e1:i=p:=acB e;have e2:c=ξ:=of_decide_eq_true h2;subst e1 e2;exact h1
 ·exact λh=>{(p,ξ),ZY.mpr {(h),rfl},rfl}
def GQ {p:Nat}:(p:Int)∈cs.flatMap sW↔∃i k,(i,ν k)∈cs/\(p=i\/p=k):=by
 rw[aa5];constructor
 ·rintro⟨⟨i,c⟩,h,e⟩;cases c with
  |none=>cases e
  |some k =>
   refine{i,k,h,?_};rcases ZI.mp e with e|e
   ·exact .inl (acB e)
   ·exact .inr (acB (ZJ.mp e))
 ·rintro⟨i,k,h,e⟩;refine{_,h,?_};rcases e with rfl|rfl
  ·exact ZO
  ·exact ZP _ ZO
def DW {x:Nat×Option Nat}:yN (cs++[x])=yN cs++if x.2=ξ then [(x.1:Int)] else []:=by
 unfold yN;rw[aaI,aag]
 by_cases h:x.2=ξ
 ·rw[χ h,aam,χ (Γ h)];rfl
 ·rw[ω h,aam,ω (by rw[Δ h];simp)];rfl
def LW (m:Met ps n cs)(hp:∀t∈ps,t.1<t.2)(hn:n<=40){cs':List (Nat×Option Nat)}(h:∀x∈cs',x∈cs):(dz (yN cs')).length+1<scanBound:=by
 have q:=Ek (o:=yN cs') (m:=40) λx hx=>by
  obtain⟨y,hy,rfl⟩:=Z0.mp hx;have:=(m.lt hp (h y (ZY.mp hy).1)).1;lia
 exact ab0 (Nat.succ_le_succ q) (by decide)
def JD (m:Met ps n cs)(hp:∀t∈ps,t.1<t.2)(hn:n<=40){o:List Int}(h:∀x∈o,x∈cs.flatMap sW):(dz o).length+1<scanBound:=by
 have q:=Ek (o:=o) (m:=40) λx hx=>by
  obtain⟨⟨i,c⟩,hy,hx⟩:=aa5.mp (h x hx);obtain⟨h1,h2⟩:=m.lt hp hy;cases c with
  |none=>cases hx
  |some k =>
   have:=h2 k rfl;rcases ZI.mp hx with rfl|hx
   ·lia
   ·rw[ZJ.mp hx];lia
 exact ab0 (Nat.succ_le_succ q) (by decide)
def MS (ps:List NN)(n:Nat):List Nat:=(ZK n).filter λp=>decide (mX (lU ps p) 0 n<mX ps 0 n)
def MC (ps:List NN)(n:Nat):List Nat:=(ZK n).filter λp=>!decide (mX (lU ps p) 0 n<mX ps 0 n)&&decide (cL (lU ps p) 0 n=cL ps 0 n)
def BJ (ps:List NN)(n:Nat):D:=.tup [.lst (vF (MS ps n)),.lst (vF (MC ps n))]
def Mm (hp:∀t∈ps,t.1<t.2)(m:Met ps n cs):MS ps n=(ZK n).filter λp:Nat=>!mem (yN cs) (p:Int):=by
 refine abP λp h=>?_;have h:=aas.mp h;unfold mem;rw[<- decide_not];exact decide_eq_decide.mpr ((rH hp h).trans (not_congr (m.free.trans GS.symm)))
def yz (hp:∀t∈ps,t.1<t.2)(nd:ps.Nodup){p:Nat}(h:p<n):(¬ mX (lU ps p) 0 n<mX ps 0 n/\cL (lU ps p) 0 n=cL ps 0 n)↔¬ Bd ps n p:=by
 rw[rH hp h]
 by_cases f:xE ps n p
 ·rw[J2 hp nd h f];exact{λz=>z.2,λz=>{λq=>q f,z}}
 ·exact{λz=>Η f z.1,λz=>Η (FC hp h f) z}
def KA (hp:∀t∈ps,t.1<t.2)(nd:ps.Nodup)(m:Met ps n cs):MC ps n=(ZK n).filter λp:Nat=>!mem (cs.flatMap sW) (p:Int):=by
 refine abP λp h=>?_;unfold mem;rw[<- decide_not,<- decide_not,<- Bool.decide_and];exact decide_eq_decide.mpr ((yz hp nd (aas.mp h)).trans (not_congr (m.Rb.trans GQ.symm)))
def AA (p:Nat)(t:NN):Bool:=decide (t.1=p) || decide (t.2=p)
def b8 (p:Nat)(T:List NN):Nat:=(T.filter (AA p)).length
def fB {p:Nat}{t:NN}:AA p t=ζ↔t.1=p\/t.2=p:=by unfold AA;rw[Bool.or_eq_true,decide_eq_true_eq,decide_eq_true_eq]
def vf {p:Nat}{S T:List NN}:b8 p (S++T)=b8 p S+b8 p T:=by unfold b8;rw[aaI,aad]
theorem ve {p:Nat}:∀{S:List NN},S.Pairwise Fp->(∀t∈S,t.1<t.2)->b8 p S<=1/\(b8 p S=1↔oY p S)/\(b8 p S=0↔¬ oY p S)
 |[],_,_=>{ZW _,{λz=>(nomatch z),λOW=> by obtain⟨t,h,_⟩ := OW;exact(nomatch h)},{λ_ OV=> by obtain⟨t,h,_⟩ := OV;exact(nomatch h),λ_=>rfl}}
 |x::S,h,l=>by
  obtain⟨h1,h2⟩:=aaG.mp h;obtain⟨g1,g2,g3⟩:=ve (p:=p) h2 λt ht=>l t (ZP _ ht);have lx:=l x ZO;have e:b8 p (x::S)=(if AA p x=ζ then 1 else 0)+b8 p S:=by
   unfold b8;rw[aam]
   split
   ·rw[ZZ];lia
   ·lia
  have et:oY p (x::S)↔AA p x=ζ\/oY p S:=by
   constructor
   ·rintro⟨t,ht,et⟩;rcases ZI.mp ht with rfl|ht
    ·exact .inl (fB.mpr et)
    ·exact .inr {(t),ht,et}
   ·rintro (z|⟨t,ht,e⟩)
    ·exact{x,ZO,fB.mp z}
    ·exact{t,ZP _ ht,e}
  by_cases hx:AA p x=ζ
  ·have:¬ oY p S:=λOU=> by
    obtain⟨t,ht,e⟩ := OU;have:=h1 t ht;have:=l t (ZP _ ht);have:=fB.mp hx;unfold Fp at *
    lia
   rw[e,χ hx,g3.mpr this];exact{ZG _,{λ_=>et.mpr (.inl hx),λ_=>rfl},{λz=>(nomatch z),λz=>Η (et.mpr (.inl hx)) z}}
  ·rw[e,ω hx,abj];have e2:oY p (x::S)↔oY p S:=et.trans {λz=>z.resolve_left hx,.inr};exact{g1,g2.trans e2.symm,g3.trans (not_congr e2.symm)}
theorem oP {p:Nat}:∀{L:List (List NN)},(∀S∈L,S.Pairwise Fp/\∀t∈S,t.1<t.2)->b8 p L.flatten<=L.length/\(b8 p L.flatten=L.length↔∀S∈L,oY p S)/\(b8 p L.flatten=0↔∀S∈L,¬ oY p S)
 |[],_=>{ZG _,{λ_ S h=>(nomatch h),λ_=>rfl},{λ_ S h=>(nomatch h),λ_=>rfl}}
 |S::L,h=>by
  obtain⟨g1,g2,g3⟩:=oP (p:=p) (L:=L) λT hT=>h T (ZP _ hT);obtain⟨k1,k2,k3⟩:=ve (p:=p) (h S ZO).1 (h S ZO).2;rw[aby,vf,ZZ];refine{by lia,{λz T hT=>?_,λz=>?_},{λz T hT=>?_,λz=>?_}}
  ·rcases ZI.mp hT with rfl|hT
   ·exact k2.mp (by lia)
   ·exact g2.mp (by lia) T hT
  ·have:=k2.mpr (z S ZO);have:=g2.mpr λT hT=>z T (ZP _ hT);lia
  ·rcases ZI.mp hT with rfl|hT
   ·exact k3.mp (by lia)
   ·exact g3.mp (by lia) T hT
  ·have:=k3.mpr (z S ZO);have:=g3.mpr λT hT=>z T (ZP _ hT);lia
def A_ (hp:∀p∈ps,p.1<p.2/\p.2<n)(hs:ps.Pairwise λp q=>p.1<q.1\/(p.1=q.1/\p.2<q.2)):∃L:List (List NN),(gw ps).filter (λks=>decide ((ks.length:Int)=mX ps 0 n))=L.map (λS=>S.map tI)/\∀S,S∈L↔xC ps 0 n S:=by
 obtain⟨M,pm,e⟩:=ST.nB (fu ((fh ps).map λS=>S.map tI));refine{M.filter λS=>decide ((S.length:Int)=mX ps 0 n),?_,λS=>?_}
 ·unfold gw;rw[e,List.filter_map];refine Ι _ (abP λS _=>?_);show decide (((S.map tI).length:Int)=_)=_;rw[ZE]
 ·rw[ZY,pm.mem_iff,sD hp hs,decide_eq_true_eq];exact Iff.rfl
def Ba {L:List (List NN)}(e:(gw ps).filter (λks=>decide ((ks.length:Int)=mX ps 0 n))=L.map (λS=>S.map tI)):L.length<=2 ^ ps.length:=by
 have h:=aat (λks=>decide ((ks.length:Int)=mX ps 0 n)) (gw ps);rw[e,ZE]at h;unfold gw at h;rw[(fu _).length_eq,ZE]at h;exact aaj h jJ
def xU {L:List (List NN)}(hp:∀p∈ps,p.1<p.2)(hL:∀S,S∈L↔xC ps 0 n S):∀S∈L,S.Pairwise Fp/\∀t∈S,t.1<t.2:=λS h=>by
 have s:=((hL S).mp h).1;exact{s.pw,λt ht=>hp t (s.of t ht).1}
def Mn {L:List (List NN)}(hp:∀p∈ps,p.1<p.2)(hL:∀S,S∈L↔xC ps 0 n S):MS ps n=(ZK n).filter λp=>decide ((b8 p L.flatten:Int)=(L.length:Int)):=by
 refine abP λp h=>decide_eq_decide.mpr ?_;rw[Int.ofNat_inj,(oP (xU hp hL)).2.1,rH hp (aas.mp h),oq hp (aas.mp h)];exact{λz S hS=>abn λq=>z {S,(hL S).mp hS,q},λz OT=> by obtain⟨S,hS,q⟩ := OT;exact q (z S ((hL S).mpr hS))}
def KC {L:List (List NN)}(hp:∀p∈ps,p.1<p.2)(nd:ps.Nodup)(hL:∀S,S∈L↔xC ps 0 n S):MC ps n=(ZK n).filter λp=>decide ((b8 p L.flatten:Int)=0):=by
 refine abP λp h=>?_;rw[<- decide_not,<- Bool.decide_and];refine decide_eq_decide.mpr ((yz hp nd (aas.mp h)).trans ?_);rw[show ((b8 p L.flatten:Int)=0)=((b8 p L.flatten:Int)=((0:Nat):Int)) from rfl,Int.ofNat_inj,(oP (xU hp hL)).2.2,mZ hp (aas.mp h)]
 exact{λz S hS q=>z {S,(hL S).mp hS,q},λz OS=> by obtain⟨S,hS,q⟩ := OS;exact z S ((hL S).mpr hS) q}
end
def FX {n:Nat}:lT 0 n=(ZK n).map λp:Nat=>D.int (p:Int):=by
 unfold lT;exact aal λp _=>by rw[Int.zero_add]
def Eb:FD:=λds R=>∃n ps,ds=[fO n ps]/\Bf n ps/\n<=40/\∀cs:List (Nat×Option Nat),Met ps n cs->cs.length<100000->R (.lst (cs.map Bo))
def Eb.mono:dy Eb:=λds R R' k h=>by obtain⟨n,ps,e,h1,h2,q⟩:=h;exact{n,ps,e,h1,h2,λcs a b=>k _ (q cs a b)}
def IU:FD:=λds R=>∃n ps,ds=[fO n ps]/\Bf n ps/\n<=40/\R (BJ ps n)
def IU.mono:dy IU:=λds R R' k h=>by obtain⟨n,ps,e,h1,h2,q⟩:=h;exact{n,ps,e,h1,h2,k _ q}
def PF:FD:=λds R=>∃n ps,ds=[fO n ps]/\Bf n ps/\n<=40/\ps.length<=8/\(ps.Pairwise λp q=>p.1<q.1\/(p.1=q.1/\p.2<q.2))/\R (BJ ps n)
def PF.mono:dy PF:=λds R R' k h=>by obtain⟨n,ps,e,h1,h2,h3,h4,q⟩:=h;exact{n,ps,e,h1,h2,h3,h4,k _ q}
end L2.Q
namespace o8
open PySem L2 L2.Q
section
variable {P:ZN}{w:Z4}{K:Ξ}{mg:Str->Option ZF}{base:Heap}
def aQ:aL ["row","many","partners","worth","table","choices","reached","i","j","k","part"] ["row"] (ay c_):=mkS
def Ks {AI qL}(IZ:Vf K mg AI qL){uR lM}(Fh:Q9 K mg uR lM){pK iG}(zc:D8 K mg pK iG){l4 gc}(sM:D5 K mg l4 gc){l3 gb}(y_:D4 K mg l3 gb){l7 gf}(za:D7 K mg l7 gf){ip dQ}(o4:D6 K mg ip dQ){pJ iF}(vK:D9 K mg pJ iF){uU lP}(Fl:Q6 K mg uU lP){uS lN}(Fi:Q8 K mg uS lN)(B:zv mg):aO P w K mg base cg 5 AI qL ["row"] (eT P w ζ Eb):=by
 have YX:aO P w K mg base cg 4 _ _ _ (eT P w ζ oz):=CQ Fh zc sM y_ za o4 vK B;have Vb:aO P w K mg base cg 1 _ _ _ (eT P w ζ oB):=yu sM B;have Vc:aO P w K mg base cg 1 _ _ _ (eT P w ζ xj):=CT vK;have Y8:aO P w K mg base cg 2 _ _ _ (eT P w ζ uY):=Gx Fl o4 B;have YZ:aO P w K mg base cg 1 _ _ _ (eT P w ζ oA):=CS Fi;refine rQ IZ.F aQ (λds R OR=> by obtain⟨n,ps,e,_⟩ := OR;subst e;rfl) λcY A outer s H E hr=>⟨_,(ah (a5 (i:=1) (aE af aX (aa (i:=0)) ag) aQ.nd)
    (ah (a5 (i:=2) (aW oB.mono Vb (hr.mono (by decide)) sM.m sM.F.kp sM.b (ab (aa (i:=0)) ae)) aQ.nd)
    (ah (a5 (i:=3) (aW xj.mono Vc (hr.mono (by decide)) vK.m vK.F.kp vK.b (ab (aa (i:=0)) ae)) aQ.nd)
    (ah (a5 (i:=4) (aW oz.mono YX (hr.mono (by decide)) Fh.m Fh.F.kp Fh.b (ab (aa (i:=0)) ae)) aQ.nd)
    (ah (bW (i:=5) (λ_=>(bc ae)) aQ.nd)
    (ah (bW (i:=6) (λ_=>(F7 B.set)) aQ.nd)
    (ah (yr (i:=6) hr.jj (λ_=>(bB (ab ag (ab (aa (i:=1)) ae)))))
    (ah (bC aav rfl (aT B.range (ab (aa (i:=1)) ae)) (aj (i:=7) aQ.nd) (ak (bC aav rfl (fP B.range (ab (aI aJ aB (aa (i:=7)) ag) (ab (aI aJ aB (aa (i:=1)) ag) ae))) (aj (i:=8) aQ.nd) (ak (b9 (aD af (bE.m (Gp hr.jj)) (bB (ab (aa (i:=7)) (ab (aa (i:=8)) ae))) (aa (i:=6))) (ak (bC aav rfl (aS (aW uY.mono Y8 (hr.mono (by decide)) Fl.m Fl.F.kp Fl.b (ab (aa (i:=2)) (ab (aa (i:=3)) (ab (aa (i:=4)) (ab (aa (i:=7)) (ab (aa (i:=8)) ae))))))) (aj (i:=9) aQ.nd) (ah (b6 (i:=5) (λ_=>(bB (ab (aa (i:=7)) (ab (aa (i:=9)) ae)))))
    (ak (bC aav rfl (aS (aW oA.mono YZ (hr.mono (by decide)) Fi.m Fi.F.kp Fi.b (ab (aa (i:=7)) (ab (aa (i:=9)) (ab (aa (i:=8)) ae))))) (aj (i:=10) aQ.nd) (ak (yr (i:=6) hr.jj (λ_=>(aa (i:=10)))))))))) a7)))))
    (ak (jz (i:=5))))))))))),λds R h=>?_⟩
 obtain⟨n,ps,rfl,ok,hn,q⟩:=h;have hp:∀p∈ps,p.1<p.2:=λp hp=>(ok.lt p hp).1;refine{_,rfl,tv,_,rfl,_,rfl,tv,n,ps,rfl,ok,_,rfl,tv,n,ps,rfl,ok,_,rfl,tv,n,ps,rfl,ok,?_};refine{ZW _,tv,tv,{_,rfl},tv,_,rfl,tv,mf,tI (0,n),[],rfl,rfl,(by decide),?_}
 refine{_,rfl,tv,n,rfl,by lia,by lia,tv,?_}
 rw[aa0];refine pI (λi β=>∃(ts:List (List Int)) (cs:List (Nat×Option Nat)) (x7 x8 x9 gT:Option Q.B),β=[ν (.val η (fO n ps)),ν (.val ζ (.int n)),ν (.val ζ (Cp n ps)),ν (.val ζ (wD ps w1)),ν (.val ζ (jQ n (tW ps w1))),ν (.own (.lst (cs.map Bo))),ν (.own (.sT ts)),x7,x8,x9,gT]/\Mt ps n (λa _=>a<i) ts cs/\cs.length<=1700*i) {_,[],_,_,_,_,rfl,Mt.start.weak λa b z=>Η z (Nat.not_lt_zero _),ZW _} (λE1 r1 i n1 d β hd h=>?_) ?_
 ·obtain⟨ts,cs,x7,x8,x9,gT,rfl,m,hc⟩:=h;obtain⟨hi,rfl⟩:=bx hd;rw[Int.zero_add];refine{_,rfl,tv,_,rfl,tv,_,rfl,tv,_,rfl,tv,(i:Int)+1,(n:Int)+1,rfl,{by lia,by lia,by lia,by lia},tv,?_}
  rw[show ((n:Int)+1-((i:Int)+1)).toNat=n-i by lia]
  refine pI (λk β=>∃(ts:List (List Int)) (cs:List (Nat×Option Nat)) (x8 x9 gT:Option Q.B),β=[ν (.val η (fO n ps)),ν (.val ζ (.int n)),ν (.val ζ (Cp n ps)),ν (.val ζ (wD ps w1)),ν (.val ζ (jQ n (tW ps w1))),ν (.own (.lst (cs.map Bo))),ν (.own (.sT ts)),ν (.val ζ (.int (i:Int))),x8,x9,gT]/\Mt ps n (λa b=>a<i\/(a=i/\b<i+1+k)) ts cs/\cs.length<=1700*i+42*k) {_,cs,_,_,_,rfl,{m.s0,m.s1,λa b z l ht=>m.s2 a b (by lia) l ht,m.c1,m.nd},by lia} (λE2 r2 k n2 d β hd h=>?_) ?_
  ·obtain⟨ts,cs,x8,x9,gT,rfl,m,hc⟩:=h;have hk:=(bx hd).1;obtain⟨j,hj,rfl⟩:=Ce (a:=i+1) hd (by lia)
   refine{_,rfl,tv,_,rfl,tv,mf,tv,_,rfl,_,HE (t:=tI (i,j)),_,rfl,kQ (λsL=>?_) (λsL=>n2 _ {ts,cs,_,_,_,rfl,m.done (i:=i) (j:=j) (λa b z l=>?_) (λh=>Η h sL),by lia})}
   ·have hr:=m.reach sL;have aG:i<j:=by lia
    refine{_,rfl,tv,_,rfl,tv,_,rfl,tv,_,rfl,tv,_,rfl,tv,n,ps,w1,tW ps w1,i,j,rfl,ok,aG,by lia,_,rfl,tv,?_}
    refine pI (λl β=>∃(ts:List (List Int)) (cs:List (Nat×Option Nat)) (x9 gT:Option Q.B),β=[ν (.val η (fO n ps)),ν (.val ζ (.int n)),ν (.val ζ (Cp n ps)),ν (.val ζ (wD ps w1)),ν (.val ζ (jQ n (tW ps w1))),ν (.own (.lst (cs.map Bo))),ν (.own (.sT ts)),ν (.val ζ (.int (i:Int))),ν (.val ζ (.int (j:Int))),x9,gT]/\Mt ps n (λa b=>a<i\/(a=i/\b<i+1+k)) ts cs/\(∀c∈(BC ps i j).take l,(i,c)∈cs/\∀q∈parts i c j,tI q∈ts)/\cs.length<=1700*i+42*k+l) {ts,cs,_,_,rfl,m,λc h=>by (rw[List.take_zero]at h;cases h),hc} (λE3 r3 l n3 d β hd h=>?_) ?_
    ·obtain⟨ts,cs,x9,gT,rfl,m,Pq,hc⟩:=h;rw[ZS]at hd;obtain⟨c,Az,rfl⟩:=ZR.mp hd;have Uv:c∈BC ps i j:=aap Az;have hl:l<(BC ps i j).length:=(Z1.mp Az).1;have hb:=vn hp ok.nd (l:=j-i-1) (i:=i);rw[show i+(j-i-1)+1=j by lia]at hb
     have lZ:(BC ps i j).length<=40:=by show (dS ps w1 (tW ps w1) i j).length<=40;lia
     have et:(BC ps i j).take (l+1)=(BC ps i j).take l++[c]:=by rw[aaM,Az];rfl
     have m':=m.app hr aG Uv;have hsz:(cs.map Bo).length<Z3:=by rw[ZE,aaQ];lia
     have em:cs.map Bo++[Bo (i,c)]=(cs++[(i,c)]).map Bo:=by rw[aag];rfl
     let J:Nat->Q.a6->Prop:=λu β=>∃(bF:List (List Int)) (gT:Option Q.B),β=[ν (.val η (fO n ps)),ν (.val ζ (.int n)),ν (.val ζ (Cp n ps)),ν (.val ζ (wD ps w1)),ν (.val ζ (jQ n (tW ps w1))),ν (.own (.lst (cs.map Bo++[Bo (i,c)]))),ν (.own (.sT bF)),ν (.val ζ (.int (i:Int))),ν (.val ζ (.int (j:Int))),ν (.val ζ (oD c)),gT]/\Mt ps n (λa b=>a<i\/(a=i/\b<i+1+k)) bF (cs++[(i,c)])/\(∀t∈ts,t∈bF)/\∀q∈(parts i c j).take u,tI q∈bF
     have rest:∀β,J ((parts i c j).map ND).length β->E3.nx β:=by
      rintro β ⟨bF,gT,rfl,m2,h1,h2⟩;rw[ZE,aaW]at h2;rw[em];refine n3 _ {bF,cs++[(i,c)],_,_,rfl,m2,λc' lY=>?_,by rw[aad,abo];lia}
      rw[et]at lY;rcases ZT.mp lY with z|z
      ·exact{aaA _ (Pq c' z).1,λq hq=>h1 _ ((Pq c' z).2 q hq)}
      ·rw[ZJ.mp z];exact{aaa _ (ZJ.mpr rfl),h2}
     have Vr:J 0 [ν (.val η (fO n ps)),ν (.val ζ (.int n)),ν (.val ζ (Cp n ps)),ν (.val ζ (wD ps w1)),ν (.val ζ (jQ n (tW ps w1))),ν (.own (.lst (cs.map Bo++[Bo (i,c)]))),ν (.own (.sT ts)),ν (.val ζ (.int (i:Int))),ν (.val ζ (.int (j:Int))),ν (.val ζ (oD c)),gT]:={ts,gT,rfl,m',λ_ z=>z,λq z=>by (rw[List.take_zero]at z;cases z)}
     have add:∀{bF:List (List Int)} {u:Nat} {q:NN},(parts i c j)[u]?=ν q->Mt ps n (λa b=>a<i\/(a=i/\b<i+1+k)) bF (cs++[(i,c)])->(∀t∈ts,t∈bF)->(∀q∈(parts i c j).take u,tI q∈bF)->Mt ps n (λa b=>a<i\/(a=i/\b<i+1+k)) (gR (tI q) bF) (cs++[(i,c)])/\(∀t∈ts,t∈gR (tI q) bF)/\∀q'∈(parts i c j).take (u+1),tI q'∈gR (tI q) bF:=by
      intro bF u q hq m2 h1 h2;have V4:=aap hq;refine{m2.add (λa b z=>?_) (.step hr aG Uv V4),λt ht=>cS.mpr (.inr (h1 t ht)),λq' V5=>?_}
      ·have:=CH hp Uv V4;lia
      ·rw[aaM,hq]at V5;rcases ZT.mp V5 with z|z
       ·exact cS.mpr (.inr (h2 q' z))
       ·rw[ZJ.mp z];exact cS.mpr (.inl rfl)
     cases c with
     |none =>
      refine{{_,rfl},_,rfl,tv,_,rfl,tv,mf,tv,_,rfl,hsz,?_};refine{_,rfl,tv,_,rfl,tv,_,rfl,tv,i,ξ,j,rfl,_,rfl,tv,?_};refine pI J Vr (λE4 r4 u n4 d β hd h=>?_) rest;obtain⟨bF,gT,rfl,m2,h1,h2⟩:=h;rw[ZS]at hd;obtain⟨q,hq,rfl⟩:=ZR.mp hd;obtain⟨a1,a2,a3⟩:=add hq m2 h1 h2;exact{{_,rfl},_,rfl,tI q,bF,rfl,rfl,m2.len hp hn,n4 _ {_,_,rfl,a1,a2,a3}}
     |some kk =>
      refine{{_,rfl},_,rfl,tv,_,rfl,tv,mf,tv,_,rfl,hsz,?_};refine{_,rfl,tv,_,rfl,tv,_,rfl,tv,i,ν kk,j,rfl,_,rfl,tv,?_};refine pI J Vr (λE4 r4 u n4 d β hd h=>?_) rest;obtain⟨bF,gT,rfl,m2,h1,h2⟩:=h;rw[ZS]at hd;obtain⟨q,hq,rfl⟩:=ZR.mp hd;obtain⟨a1,a2,a3⟩:=add hq m2 h1 h2;exact{{_,rfl},_,rfl,tI q,bF,rfl,rfl,m2.len hp hn,n4 _ {_,_,rfl,a1,a2,a3}}
    ·rintro β ⟨ts,cs,x9,gT,rfl,m,Pq,hc⟩;rw[ZE,aaW]at Pq;rw[ZE]at hc;have hb:=vn hp ok.nd (l:=j-i-1) (i:=i);rw[show i+(j-i-1)+1=j by lia]at hb
     exact n2 _ {ts,cs,_,_,_,rfl,m.done (i:=i) (j:=j) (λa b z l=>by lia) (λ_=>Pq),by lia}
   ·lia
  ·rintro β ⟨ts,cs,x8,x9,gT,rfl,m,hc⟩;rw[bY]at m hc;exact n1 _ {ts,cs,_,_,_,_,rfl,{m.s0,m.s1,λa b z l ht=>m.s2 a b (by have:=(nu hp (m.reach ht)).2;lia) l ht,m.c1,m.nd},by lia}
 ·rintro β ⟨ts,cs,x7,x8,x9,gT,rfl,m,hc⟩;rw[bY]at m hc;exact{_,rfl,q cs (m.met hp λa b l hb=>by lia) (by lia)}
def bJ:aL ["row","choices","free","tied","always","never"] ["row"] (ay da):=mkS
def Gr {Ho yT}(MQ:WJ K mg Ho yT){AI qL}(IZ:Vf K mg AI qL){uR lM}(Fh:Q9 K mg uR lM){pK iG}(zc:D8 K mg pK iG){l4 gc}(sM:D5 K mg l4 gc){l3 gb}(y_:D4 K mg l3 gb){l7 gf}(za:D7 K mg l7 gf){ip dQ}(o4:D6 K mg ip dQ){pJ iF}(vK:D9 K mg pJ iF){uU lP}(Fl:Q6 K mg uU lP){uS lN}(Fi:Q8 K mg uS lN)(B:zv mg):aO P w K mg base cg 6 Ho yT ["row"] (eT P w ζ IU):=by
 have Y6:aO P w K mg base cg 5 _ _ _ (eT P w ζ Eb):=Ks IZ Fh zc sM y_ za o4 vK Fl Fi B;refine rQ MQ.F bJ (λds R OQ=> by obtain⟨n,ps,e,_⟩ := OQ;subst e;rfl) λcY A outer s H E hr=>⟨_,(ah (a5 (i:=1) (aW Eb.mono Y6 (hr.mono (by decide)) IZ.m IZ.F.kp IZ.b (ab (aa (i:=0)) ae)) bJ.nd)
    (ah (bW (i:=2) (λ_=>(Xd ["i","k"] [ξ,ξ] (by rfl) (by decide:(["i","k"]:List Str).Nodup) rfl (aS (aa (i:=1))) (λ_ _ _ _ _ _=>(cB (n:=2) rfl (aH (aj (i:=0) (by decide:(["i","k"]:List Str).Nodup)) (aH (aj (i:=1) (by decide:(["i","k"]:List Str).Nodup)) bZ)))) (λ_ _ _ _ _ _=>(cG (aD af (bE.m mw) (aa (i:=1)) km))) (λ_ _ _ _ _ _=>(aa (i:=0))))) bJ.nd)
    (ah (bW (i:=3) (λ_=>(RF ["choice","point"] [ξ,ξ] (by rfl) (by decide:(["choice","point"]:List Str).Nodup) rfl (aS (aa (i:=1))) (λ_ _ _ _ _ _=>(aj (i:=0) (by decide:(["choice","point"]:List Str).Nodup))) (λ_ _ _ _ _ _=>(cG (aD af (bE.m CM) (aE af aX (aa (i:=0)) ag) km))) (λ_ _ _ _ _ _=>(zU (i:=0))) (λ_ _ _ _ _ _=>(aj (i:=1) (by decide:(["choice","point"]:List Str).Nodup))) (λ_ _ _ _ _ _=>d_) (λ_ _ _ _ _ _=>(aa (i:=1))))) bJ.nd)
    (ah (rF (i:=4) ζ ["point","free"] [ξ,ν 2] (by rfl) (by decide:(["point","free"]:List Str).Nodup) rfl (λ_=>(aT B.range (ab (aE af aX (aa (i:=0)) ag) ae))) (λ_ _ _ _ _ _=>(aj (i:=0) (by decide:(["point","free"]:List Str).Nodup))) (λ_ _ _ _ _ _=>(cG (aD af (bE.m nJ) (aa (i:=0)) (aa (i:=1))))) (λ_ _ _ _ _ _=>(aa (i:=0))) bJ.nd)
    (ah (rF (i:=5) ζ ["point","tied"] [ξ,ν 3] (by rfl) (by decide:(["point","tied"]:List Str).Nodup) rfl (λ_=>(aT B.range (ab (aE af aX (aa (i:=0)) ag) ae))) (λ_ _ _ _ _ _=>(aj (i:=0) (by decide:(["point","tied"]:List Str).Nodup))) (λ_ _ _ _ _ _=>(cG (aD af (bE.m nJ) (aa (i:=0)) (aa (i:=1))))) (λ_ _ _ _ _ _=>(aa (i:=0))) bJ.nd)
    (ak (tT (i:=4) (j:=5) (by decide)))))))),λds R h=>?_⟩
 obtain⟨n,ps,rfl,ok,hn,q⟩:=h;have hp:∀p∈ps,p.1<p.2:=λp hp=>(ok.lt p hp).1;refine{_,rfl,tv,n,ps,rfl,ok,hn,λcs mt hl=>?_};have q':R (.tup [.lst (((ZK n).filter λp:Nat=>!mem (yN cs) (p:Int)).map λp:Nat=>.int (p:Int)),.lst (((ZK n).filter λp:Nat=>!mem (cs.flatMap sW) (p:Int)).map λp:Nat=>.int (p:Int))]):=by
  rw[<- Mm hp mt,<- KA hp ok.nd mt];exact q
 have tk:∀{i:Nat} {x:Nat×Option Nat},cs[i]?=ν x->cs.take (i+1)=cs.take i++[x]:=λh=>by rw[aaM,h];rfl
 refine{_,rfl,_,rfl,tv,?_};refine{λi β o=>o=yN (cs.take i)/\∃x0 x1:Option Q.B,β=[x0,x1],{rfl,_,_,rfl},?_,?_}
 ·rintro i d β o hd ⟨rfl,x0,x1,rfl⟩;rw[ZS]at hd;obtain⟨⟨a,c⟩,hx,rfl⟩:=ZR.mp hd;have es:yN (cs.take (i+1))=yN (cs.take i)++if c=ξ then [(a:Int)] else []:=by rw[tk hx,DW]
  have hz:=LW mt hp hn (cs':=cs.take i) λx hx=>acd hx;cases c with
  |none=>exact{_,rfl,rfl,_,_,rfl,_,_,rfl,rfl,_,rfl,tv,_,rfl,_,rfl,vG rfl {_,rfl,a,rfl,hz,by rw[es];rfl,_,_,rfl}}
  |some k=>exact{_,rfl,rfl,_,_,rfl,_,_,rfl,rfl,_,rfl,tv,_,rfl,_,rfl,ic rfl {by rw[es];simp,_,_,rfl}}
 ·rintro β o ⟨rfl,x0,x1,rfl⟩;rw[ZE,aaW];refine{tv,tv,_,rfl,_,rfl,tv,?_};refine{λi β o=>o=(cs.take i).flatMap sW/\∃x0 x1:Option Q.B,β=[x0,x1],{rfl,_,_,rfl},?_,?_}
  ·rintro i d β o hd ⟨rfl,x0,x1,rfl⟩;rw[ZS]at hd;obtain⟨⟨a,c⟩,hx,rfl⟩:=ZR.mp hd;have es:(cs.take (i+1)).flatMap sW=(cs.take i).flatMap sW++sW (a,c):=by rw[tk hx,List.flatMap_append,List.flatMap_cons,List.flatMap_nil,aaw]
   have Tc:∀x∈(cs.take i).flatMap sW++sW (a,c),x∈cs.flatMap sW:=λx Dx=>by
    rw[<- es]at Dx;obtain⟨y,hy,h⟩:=aa5.mp Dx;exact aa5.mpr {y,acd hy,h}
   cases c with
   |none=>exact{_,rfl,tv,_,rfl,tv,_,rfl,_,rfl,ic rfl {by rw[es];exact(aaw _).symm,_,_,rfl}}
   |some k =>
    refine{_,rfl,tv,_,rfl,tv,_,rfl,_,rfl,vG rfl {_,_,rfl,?_}};refine{λu β o=>o=(cs.take i).flatMap sW++(sW (a,ν k)).take u/\∃x0 x1:Option Q.B,β=[x0,x1],{(aaw _).symm,_,_,rfl},?_,?_}
    ·rintro u d β o hd ⟨rfl,x0,x1,rfl⟩;have hz:=JD mt hp hn (o:=(cs.take i).flatMap sW++(sW (a,ν k)).take u) λx hx=>Tc x ((ZT.mp hx).elim (λz=>aaA _ z) λz=>aaa _ (acd z))
     match u,hd with
     |0,rfl=>exact{_,rfl,a,rfl,hz,by rw[aaS];rfl,_,_,rfl}
     |1,rfl=>exact{_,rfl,k,rfl,hz,by rw[aaS];rfl,_,_,rfl}
    ·rintro β o ⟨rfl,x0,x1,rfl⟩;exact{es.symm,_,_,rfl}
  ·rintro β o ⟨rfl,x0,x1,rfl⟩;rw[ZE,aaW];refine{tv,tv,_,rfl,tv,_,rfl,tv,n,rfl,by lia,by lia,tv,?_}
   rw[aa0];refine jH FX (cT (λp:Nat=>!mem (yN cs) (p:Int)) (λp=>.int (p:Int)) tv (by rw[Z7];exact cZ (by lia)) (λp mG y0 o J ho j1 j2=>{_,rfl,tv,_,rfl,_,u9,_,rfl,?_}) ?_)
   ·by_cases hb:(!mem (yN cs) (p:Int))=ζ
    ·exact vG hb {_,rfl,tv,ho,j1 hb _}
    ·exact ic (by simpa using hb) (j2 (by simpa using hb) _)
   refine{_,rfl,tv,_,rfl,tv,n,rfl,by lia,by lia,tv,?_}
   rw[aa0];refine jH FX (cT (λp:Nat=>!mem (cs.flatMap sW) (p:Int)) (λp=>.int (p:Int)) tv (by rw[Z7];exact cZ (by lia)) (λp mG y0 o J ho j1 j2=>{_,rfl,tv,_,rfl,_,u9,_,rfl,?_}) ?_)
   ·by_cases hb:(!mem (cs.flatMap sW) (p:Int))=ζ
    ·exact vG hb {_,rfl,tv,ho,j1 hb _}
    ·exact ic (by simpa using hb) (j2 (by simpa using hb) _)
   exact{_,_,rfl,rfl,q'}
end
section
variable {P:ZN}{w:Z4}{K:Ξ}{mg:Str->Option ZF}{base:Heap}
def cj:aL ["row","many","ties","whole","every","none","point","left"] ["row"] (ay gY):=mkS
def Ku {Hl yQ}(MN:WI K mg Hl yQ){AH qK}(Es:Vh K mg AH qK)(B:zv mg):aO P w K mg base cg 2 Hl yQ ["row"] (eT P w ζ IU):=by
 have WE:aO P w K mg base cg 1 _ _ _ (eT P w ζ qN):=Gs Es B;refine rQ MN.F cj (λds R OP=> by obtain⟨n,ps,e,_⟩ := OP;subst e;rfl) λcY A outer s H E hr=>⟨_,(ah (nD (aa (i:=0)) (cB (n:=2) rfl (aH (aj (i:=1) cj.nd) (aH (aj (i:=2) cj.nd) bZ))))
    (ah (a5 (i:=3) (aE af aX (aE af aX (aW qN.mono WE (hr.mono (by decide)) Es.m Es.F.kp Es.b (ab (aa (i:=0)) ae)) ag) (aa (i:=1))) cj.nd)
    (ah (bW (i:=4) (λ_=>(bc ae)) cj.nd)
    (ah (bW (i:=5) (λ_=>(bc ae)) cj.nd)
    (ah (bC aav rfl (aT B.range (ab (aa (i:=1)) ae)) (aj (i:=6) cj.nd) (ah (a5 (i:=7) (aE af aX (aE af aX (aW qN.mono WE (hr.mono (by decide)) Es.m Es.F.kp Es.b (ab (bB (ab (aa (i:=1)) (ab (Iu ["tie","point"] [ξ,ν 6] (by rfl) (by decide:(["tie","point"]:List Str).Nodup) rfl (aS (aa (i:=2))) (λ_ _ _ _ _ _=>(aj (i:=0) (by decide:(["tie","point"]:List Str).Nodup))) (λ_ _ _ _ _ _=>(cG (aD af (bE.m (z_ hr.rd)) (aa (i:=1)) (aa (i:=0))))) (λ_ _ _ _ _ _=>(aa (i:=0)))) ae))) ae)) ag) (aa (i:=1))) cj.nd)
    (ak (b9 (aD af (bE.m dF) (aE af aX (aa (i:=7)) ag) (aE af aX (aa (i:=3)) ag)) (ak (b6 (i:=4) (λ_=>(aa (i:=6))))) (ak (b9 (aD af (bE.m (bN hr.units)) (aE af aX (aa (i:=7)) ag) (aE af aX (aa (i:=3)) ag)) (ak (b6 (i:=5) (λ_=>(aa (i:=6))))) a7))))))
    (ak (tT (i:=4) (j:=5) (by decide)))))))),λds R h=>?_⟩
 obtain⟨n,ps,rfl,ok,hn,q⟩:=h;have DB:=ok.sm;have Ax:∀qs,vb (dP n (Cu qs)) (.int (0:Nat))=ν (.lst ((ZK (n+1)).map λy=>Cu qs 0 y)):=λqs=>f9 rfl (a8 (by lia))
 have Px:∀qs,vb (.lst ((ZK (n+1)).map λy=>Cu qs 0 y)) (.int (n:Int))=ν (.tup [.int (mX qs 0 n),.int (cL qs 0 n:Int)]):=λqs=>f9 rfl (by rw[a8 (by lia)];rfl)
 refine{_,rfl,_,rfl,rfl,_,_,rfl,_,_,rfl,rfl,_,rfl,tv,n,ps,rfl,ok,hn,tv,_,Ax ps,.inr {tv,_,rfl,_,Px ps,?_}};refine{ZW _,tv,ZW _,tv,_,rfl,tv,n,rfl,by lia,by lia,tv,?_}
 rw[aa0];refine pI (λi β=>∃x6 x7:Option Q.B,β=[ν (.val η (fO n ps)),ν (.val ζ (.int n)),ν (.val η (lr ps)),ν (.val ζ (.tup [.int (mX ps 0 n),.int (cL ps 0 n:Int)])),ν (.own (.lst (vF ((ZK i).filter λp=>decide (mX (lU ps p) 0 n<mX ps 0 n))))),ν (.own (.lst (vF ((ZK i).filter λp=>!decide (mX (lU ps p) 0 n<mX ps 0 n)&&decide (cL (lU ps p) 0 n=cL ps 0 n))))),x6,x7]) {_,_,rfl} (λE1 r1 i n1 d β hd h=>?_) ?_
 ·obtain⟨x6,x7,rfl⟩:=h;obtain⟨hi,rfl⟩:=bx hd;rw[Int.zero_add];have Xu:Bf n (lU ps i):={λp h=>ok.lt p (jF.mp h).1,ok.nd.filter _,ok.le,aaj (aat _ _) ok.sm};have hsz:∀f:Nat->Bool,(vF ((ZK i).filter f)).length<Z3:=λf=>by
   have:=aat f (ZK i);rw[Z7]at this;rw[ZE];exact iq (by lia)
  refine{_,rfl,tv,_,rfl,_,rfl,tv,?_};refine cT (λt:NN=>!(decide (t.1=i) || decide (t.2=i))) (λp=>kD (tI p)) tv (cZ (by lia)) (λp hp y0 o J ho j1 j2=>?_) ?_
  ·have e:(i:Int)∈tI p↔p.1=i\/p.2=i:=by
    unfold tI;rw[ZI,ZJ];lia
   refine{_,rfl,tv,_,rfl,_,AS i (tI p),_,rfl,VV (λz=>{_,rfl,rfl,ho,j1 ?_ _}) (λz=>j2 ?_ _)}
   ·rw[<- Bool.decide_or,<- decide_not];exact Γ λq=>z (e.mpr q)
   ·rw[<- Bool.decide_or,<- decide_not];exact Δ λq=>q (e.mp z)
  ·refine{tv,mf,tv,n,lU ps i,rfl,Xu,hn,tv,_,Ax (lU ps i),.inr {tv,_,rfl,_,Px (lU ps i),?_}};have ea:∀f:Nat->Bool,vF ((ZK (i+1)).filter f)=vF ((ZK i).filter f)++if f i=ζ then [D.int (i:Int)] else []:=λf=>by
    rw[acH,aaI,aam];show List.map _ _=_;rw[aag];cases f i <;> rfl
   have e1:=ea λp=>decide (mX (lU ps p) 0 n<mX ps 0 n);have e2:=ea λp=>!decide (mX (lU ps p) 0 n<mX ps 0 n)&&decide (cL (lU ps p) 0 n=cL ps 0 n);refine{_,rfl,tv,_,rfl,tv,_,rfl,tv,_,rfl,_,rfl,_,rfl,kQ (λd3=>?_) (λd3=>?_)}
   ·rw[Γ d3,χ rfl]at e1;rw[Γ d3,Bool.not_true,Bool.false_and,ω aaO,aaw]at e2;exact{{_,rfl},_,rfl,tv,_,rfl,hsz _,n1 _ {_,_,by rw[e1,e2];rfl}}
   ·rw[Δ d3,ω aaO,aaw]at e1;rw[Δ d3,Bool.not_false,Bool.true_and]at e2;refine{_,rfl,tv,_,rfl,tv,_,rfl,tv,_,rfl,_,bA _ _,_,rfl,kQ (λheq=>?_) (λheq=>?_)}
    ·rw[Γ (acB heq),χ rfl]at e2;exact{{_,rfl},_,rfl,tv,_,rfl,hsz _,n1 _ {_,_,by rw[e1,e2];rfl}}
    ·rw[Δ (λz=>heq (Ι Nat.cast z)),ω aaO,aaw]at e2;exact n1 _ {_,_,by rw[e1,e2];rfl}
 ·rintro β ⟨x6,x7,rfl⟩;rw[bY];exact{_,_,rfl,rfl,q}
def bb:aL ["row","found","most","counts","best","some","tie","every"] ["row"] (ay c9):=mkS
def NU {Hn yS}(MP:WH K mg Hn yS){AJ qM}(I9:Vg K mg AJ qM){uT lO}(Fj:Q5 K mg uT lO){pL iH}(Bn:Qd K mg pL iH)(B:zv mg):aO P w K mg base cg 4 Hn yS ["row"] (eT P w η PF):=by
 have Y_:aO P w K mg base cg 3 _ _ _ (eT P w η u0):=Gz I9 Fj Bn B;refine rQ MP.F bb (λds R OO=> by obtain⟨n,ps,e,_⟩ := OO;subst e;rfl) λcY A outer s H E hr=>⟨_,(ah (a5 (i:=1) (aW u0.mono Y_ (hr.mono (by decide)) I9.m I9.F.kp I9.b (ab (aa (i:=0)) ae)) bb.nd)
    (ah (a5 (i:=2) (bf af (bO.m (k7 rfl)) B.max oS (ab (Iu ["some"] [ξ] (by rfl) (by decide:(["some"]:List Str).Nodup) rfl (aS (aa (i:=1))) (λ_ _ _ _ _ _=>(aj (i:=0) (by decide:(["some"]:List Str).Nodup))) (λ_ _ _ _ _ _=>d_) (λ_ _ _ _ _ _=>(bf af (bO.m d8) B.len k9 (ab (aa (i:=0)) ae)))) ae)) bb.nd)
    (ah (bW (i:=3) (λ_=>(aI aJ tY (bc (ab ag ae)) (aE af aX (aa (i:=0)) ag))) bb.nd)
    (ah (a5 (i:=4) (XI 0 ["some","most"] [ξ,ν 2] (by rfl) (by decide:(["some","most"]:List Str).Nodup) rfl (aS (aa (i:=1))) (λ_ _ _ _ _ _=>(cG (aD af (bE.m (bN hr.units)) (bf af (bO.m d8) B.len k9 (ab (aa (i:=0)) ae)) (aa (i:=1)))))) bb.nd)
    (ah (bC aav rfl (aS (aa (i:=4))) (aj (i:=5) bb.nd) (ak (bC aav rfl (aS (aa (i:=5))) (aj (i:=6) bb.nd) (ah (nC (i:=3) (λ_=>(aI aJ aB (aE af aX (aa (i:=3)) (aE af aX (aa (i:=6)) ag)) ag)) (λ_=>(aE af aX (aa (i:=6)) ag)))
    (ak (nC (i:=3) (λ_=>(aI aJ aB (aE af aX (aa (i:=3)) (aE af aX (aa (i:=6)) ag)) ag)) (λ_=>(aE af aX (aa (i:=6)) ag))))))))
    (ah (rF (i:=7) η ["point","counts","best"] [ξ,ν 3,ν 4] (by rfl) (by decide:(["point","counts","best"]:List Str).Nodup) rfl (λ_=>(aT B.range (ab (aE af aX (aa (i:=0)) ag) ae))) (λ_ _ _ _ _ _=>(aj (i:=0) (by decide:(["point","counts","best"]:List Str).Nodup))) (λ_ _ _ _ _ _=>(cG (aD af (bE.m (bN hr.units)) (aE af aX (aa (i:=1)) (aa (i:=0))) (bf af (bO.m d8) B.len k9 (ab (aa (i:=2)) ae))))) (λ_ _ _ _ _ _=>(aa (i:=0))) bb.nd)
    (ak (bo (bB (ab (aa (i:=7)) (ab (Iu ["point","counts"] [ξ,ν 3] (by rfl) (by decide:(["point","counts"]:List Str).Nodup) rfl (aT B.range (ab (aE af aX (aa (i:=0)) ag) ae)) (λ_ _ _ _ _ _=>(aj (i:=0) (by decide:(["point","counts"]:List Str).Nodup))) (λ_ _ _ _ _ _=>(cG (aD af (bE.m (bN hr.units)) (aE af aX (aa (i:=1)) (aa (i:=0))) ag))) (λ_ _ _ _ _ _=>(aa (i:=0)))) ae))))))))))),λds R h=>?_⟩
 obtain⟨n,ps,rfl,ok,hn,h8,hs,q⟩:=h;have hp:∀p∈ps,p.1<p.2:=λp hp=>(ok.lt p hp).1;obtain⟨L,eL,hL⟩:=A_ ok.lt hs;have Zr:L.length<=256:=aaj (Ba eL) (aaj (abv (by decide) h8) (by decide))
 have hA:(gw ps).length<=256:=by
  unfold gw;rw[(fu _).length_eq,ZE];exact aaj jJ (aaj (abv (by decide) h8) (by decide))
 have hlen:∀ks:List (List Int),L7 [lD ks]=ν (.int (ks.length:Int)):=λks=>by show ν (D.int (((ks.map kD).length:Nat):Int))=_;rw[ZE]
 refine{_,rfl,tv,n,ps,rfl,h8,_,rfl,_,rfl,tv,?_};refine cT (λ_=>ζ) (λks=>.int (ks.length:Int)) tv (cZ (by lia)) (λks hk y0 o J ho h1 _=>?_) ?_
 ·exact{_,rfl,tv,_,hlen ks,tv,ho,h1 rfl _}
 rw[cM];have em:de fR [.lst ((gw ps).map λks=>D.int (ks.length:Int))]=ν (.int (mX ps 0 n)):=by
  have:=qk (HU ok.lt hs);rw[aaR]at this;exact this
 have L0:Eu (.lst [.int 0]) (.int (n:Int))=ν (.lst ((ZK n).map λp:Nat=>D.int (b8 p []:Int))):=by
  unfold Eu D.uq D.int?;rw[abb,abb,χ {by lia,by lia,by rw[abo,ac3];exact cZ (by lia)},xY,aa0]
  show ν (D.lst _)=ν (D.lst ((ZK n).map λ_=>D.int 0));rw[List.map_const',Z7]
 have eb:((gw ps).filter λks=>decide ((ks.length:Int)=mX ps 0 n)).map lD=L.map lr:=by rw[eL,<- xK]
 refine{tv,_,em,tv,E7,tv,_,rfl,tv,_,rfl,_,L0,.inl {kT,tv,?_}};refine{_,rfl,_,rfl,rfl,?_};refine KR (λks=>decide ((ks.length:Int)=mX ps 0 n)) tv (cZ (by lia)) (λks hk Q h=>{_,rfl,tv,_,hlen ks,tv,_,rfl,_,bA _ _,_,rfl,h}) ?_
 rw[eb];refine{_,rfl,_,rfl,tv,?_};refine pI (λm β=>∃x5 x6 x7:Option Q.B,β=[ν (.val η (fO n ps)),ν (.val ζ (.lst ((gw ps).map lD))),ν (.val ζ (.int (mX ps 0 n))),ν (.own (.lst ((ZK n).map λp:Nat=>D.int (b8 p (L.take m).flatten:Int)))),ν (.val ζ (.lst (L.map lr))),x5,x6,x7]) {_,_,_,rfl} (λE1 r1 m n1 d β hd h=>?_) ?_
 ·obtain⟨x5,x6,x7,rfl⟩:=h;rw[ZS]at hd;obtain⟨S,hS,rfl⟩:=ZR.mp hd;have et:(L.take (m+1)).flatten=(L.take m).flatten++S:=by rw[aaM,hS,List.flatten_append];exact Ι _ (aaw _)
  have sS:=((hL S).mp (aap hS)).1;refine{_,rfl,_,rfl,tv,?_};refine pI (λu β=>∃x6 x7:Option Q.B,β=[ν (.val η (fO n ps)),ν (.val ζ (.lst ((gw ps).map lD))),ν (.val ζ (.int (mX ps 0 n))),ν (.own (.lst ((ZK n).map λp:Nat=>D.int (b8 p ((L.take m).flatten++S.take u):Int)))),ν (.val ζ (.lst (L.map lr))),ν (.val ζ (lr S)),x6,x7]) {_,_,by rw[List.take_zero,aaw];rfl} (λE2 r2 u n2 d β hd h=>?_) ?_
  ·obtain⟨x6,x7,rfl⟩:=h;rw[ZS]at hd;obtain⟨t,ht,rfl⟩:=ZR.mp hd;obtain⟨h1,h2,h3⟩:=sS.of t (aap ht);have h4:=hp t h1;have eu:(L.take m).flatten++S.take (u+1)=((L.take m).flatten++S.take u)++[t]:=by rw[aaM,ht,aaS];rfl
   have c1:∀p,b8 p (((L.take m).flatten++S.take u)++[t])=b8 p ((L.take m).flatten++S.take u)+(if t.1=p then 1 else 0)+(if t.2=p then 1 else 0):=λp=>by
    rw[vf];unfold b8;rw[aam]
    by_cases z:t.1=p
    ·rw[χ (fB.mpr (.inl z)),χ z,ω (by lia)];rfl
    ·by_cases z2:t.2=p
     ·rw[χ (fB.mpr (.inr z2)),ω z,χ z2];rfl
     ·rw[ω (λq=>(fB.mp q).elim z z2),ω z,ω z2];rfl
   rw[eu]at n2;generalize (L.take m).flatten++S.take u=T at c1 n2 ⊢
   have s1:((ZK n).map λp:Nat=>D.int (b8 p T:Int)).set t.1 (.int ((b8 t.1 T:Int)+1))=(ZK n).map λp:Nat=>D.int ((b8 p T:Int)+(if t.1=p then 1 else 0)):=by
    have:=gx (n:=n) (m:=t.1) (f:=λp:Nat=>D.int (b8 p T:Int)) (g:=λp:Nat=>D.int ((b8 p T:Int)+(if t.1=p then 1 else 0))) λk _ hk=>by rw[ω (aa1 hk)];exact Ι D.int (Int.add_zero _).symm
    rw[χ rfl]at this;exact this
   have s2:((ZK n).map λp:Nat=>D.int ((b8 p T:Int)+(if t.1=p then 1 else 0))).set t.2 (.int ((b8 t.2 T:Int)+(if t.1=t.2 then 1 else 0)+1))=(ZK n).map λp:Nat=>D.int (b8 p (T++[t]):Int):=by
    have:=gx (n:=n) (m:=t.2) (f:=λp:Nat=>D.int ((b8 p T:Int)+(if t.1=p then 1 else 0))) (g:=λp:Nat=>D.int (b8 p (T++[t]):Int)) λk _ hk=>Ι D.int (by rw[c1,ω (aa1 hk)];split <;> lia)
    rw[<- this];exact Ι _ (Ι D.int (by rw[c1,χ rfl];split <;> lia))
   refine{_,rfl,tv,_,rfl,tv,_,rfl,_,f9 rfl (a8 (show t.1<n by lia)),tv,_,rfl,tv,{_,rfl},_,rfl,tv,_,rfl,_,_,_,rfl,rfl,by rw[ZE,Z7];exact rX rfl (show t.1<n by lia),?_}
   rw[s1];exact{_,rfl,tv,_,rfl,tv,_,rfl,_,f9 rfl (a8 (show t.2<n by lia)),tv,_,rfl,tv,{_,rfl},_,rfl,tv,_,rfl,_,_,_,rfl,rfl,by rw[ZE,Z7];exact rX rfl (show t.2<n by lia),n2 _ {_,_,by rw[s2];rfl}}
  ·rintro β ⟨x6,x7,rfl⟩;rw[ZE,aaW,<- et];exact n1 _ {_,_,_,rfl}
 ·rintro β ⟨x5,x6,x7,rfl⟩;rw[ZE,aaW];have Yg:L7 [.lst (L.map lr)]=ν (.int (L.length:Int)):=by show ν (D.int (((L.map lr).length:Nat):Int))=_;rw[ZE]
  have q':R (.tup [.lst (((ZK n).filter λp=>decide ((b8 p L.flatten:Int)=(L.length:Int))).map λp:Nat=>.int (p:Int)),.lst (((ZK n).filter λp=>decide ((b8 p L.flatten:Int)=0)).map λp:Nat=>.int (p:Int))]):=by
   rw[<- Mn hp hL,<- KC hp ok.nd hL];exact q
  refine{_,rfl,tv,_,rfl,tv,n,rfl,by lia,by lia,tv,?_}
  rw[aa0];refine jH FX (cT (λp=>decide ((b8 p L.flatten:Int)=(L.length:Int))) (λp=>.int (p:Int)) tv (by rw[Z7];exact cZ (by lia)) (λp mG y0 o J ho j1 j2=>{_,rfl,tv,_,rfl,_,f9 rfl (a8 (aas.mp mG)),tv,_,rfl,tv,_,Yg,_,bA _ _,_,rfl,kQ (λz=>{_,rfl,tv,ho,j1 (Γ z) _}) (λz=>j2 (Δ z) _)}) ?_)
  refine{_,rfl,tv,_,rfl,tv,_,rfl,tv,n,rfl,by lia,by lia,tv,?_}
  rw[aa0];refine jH FX (cT (λp=>decide ((b8 p L.flatten:Int)=0)) (λp=>.int (p:Int)) tv (by rw[Z7];exact cZ (by lia)) (λp mG y0 o J ho j1 j2=>{_,rfl,tv,_,rfl,_,f9 rfl (a8 (aas.mp mG)),tv,_,bA _ _,_,rfl,kQ (λz=>{_,rfl,tv,ho,j1 (Γ z) _}) (λz=>j2 (Δ z) _)}) ?_)
  exact{tv,mf,.inr {(tv),q'}}
end
section
variable {P:ZN}{w:Z4}{K:Ξ}{mg:Str->Option ZF}{base:Heap}
def tx:aL ["found","due"] ["found","due"] (ay fL):=mkS
def fS:Nat->FD
 |0=>λ_ _=>False
 |n+1=>iY n
theorem fS.mono:∀{n:Nat},dy (fS n)
 |0=>λ_ _ _ _ h=>h
 |_+1=>iY.mono
def NT {LZ xi}(dM:Ve K mg LZ xi)(B:Bs2 mg):∀n:Nat,aO P w K mg base cg n LZ xi ["found","due"] (eT P w ζ (fS n)):=by
 intro n
 induction n with
 |zero=>exact{λ_ _ _ _ h=>by obtain⟨_,_,h⟩:=h;exact h.elim,λ_ _ _ _ _ _ _ _ _ _ _ _ _ h=>by obtain⟨_,_,h⟩:=h;exact h.elim}
 |succ n GM =>
  refine rQ dM.F tx (λds R ON=> by obtain⟨d,e,_⟩ := ON;subst e;rfl) λcY A outer s H E hr=>⟨_,(ah (b9 (hG (gA (yc B.IB (fc (i:=1)) B.list jX B.tuple vj))) (ah (b9 (xB.t (wo (rK (hG (gA (yc B.IB (fc (i:=0)) B.list jX B.tuple vj)))) (rJ (aD af (bE.m (kq hr.units)) (gA (hE B.IB (fc (i:=0)) B.list jX)) (gA (hE B.IB (fc (i:=1)) B.list jX)))))) (ak (bo tP)) a7)
    (ah (b9 (aD af (bE.m (kq hr.units)) (bf af (bO.m d8) B.len k9 (ab (aa (i:=0)) ae)) (bf af (bO.m d8) B.len k9 (ab (aa (i:=1)) ae))) (ak (bo tP)) a7)
    (ak (bo (iT af (bE.m (bN hr.units)) (Iu ["one","other"] [ξ,ξ] (by rfl) (by decide:(["one","other"]:List Str).Nodup) rfl (F6 (F2 B.zip (tL (fc (i:=0)) (tL (fc (i:=1)) F3)))) (λ_ _ _ _ _ _=>(cB (n:=2) rfl (aH (aj (i:=0) (by decide:(["one","other"]:List Str).Nodup)) (aH (aj (i:=1) (by decide:(["one","other"]:List Str).Nodup)) bZ)))) (λ_ _ _ _ _ _=>(cG (rK (hG (aW fS.mono GM (hr.mono (by lia)) dM.m dM.F.kp dM.b (ab (aa (i:=0)) (ab (aa (i:=1)) ae))))))) (λ_ _ _ _ _ _=>ag)) (bc ae)))))) a7)
    (ah (b9 (hG (gA (hE B.IB (fc (i:=1)) B.str EJ))) (ak (bo (wt (gA (hE B.IB (fc (i:=0)) B.str EJ)) (rL (iT af (bE.m (bN hr.units)) (aa (i:=0)) (aa (i:=1))))))) a7)
    (ah (b9 (aD af (bE.m mw) (aa (i:=1)) km) (ak (bo (iT af (bE.m mw) (aa (i:=0)) km))) a7)
    (ak (bo (wt (gA (hE B.IB (fc (i:=0)) B.int xw)) (wt (J5 (gA (hE B.IB (fc (i:=0)) B.bool HP))) (rL (iT af (bE.m (bN hr.units)) (aa (i:=0)) (aa (i:=1))))))))))),λds R h=>?_⟩
  obtain⟨d,rfl,hl,q⟩:=h;cases hl with
  | @int _ i =>
   refine{_,rfl,_,_,rfl,GZ,rfl,_,rfl,ic rfl {_,rfl,_,_,rfl,kit_is,rfl,_,rfl,ic rfl {_,rfl,tv,_,rfl,_,rfl,ic rfl ?_}}};exact{_,rfl,_,_,rfl,K2,rfl,_,rfl,vG rfl {_,rfl,_,_,rfl,K3,rfl,_,rfl,_,rfl,vG rfl {_,rfl,tv,_,rfl,_,oK (bG i),tv,q}}}
  | @tup _ es l hl =>
   refine{_,rfl,_,_,rfl,yD,rfl,_,rfl,vG rfl ?_};refine{_,rfl,_,_,rfl,yD,rfl,_,rfl,ic rfl {_,rfl,_,_,rfl,Dl,rfl,tv,_,rfl,_,_,rfl,Dl,rfl,_,eR (tq η),_,rfl,ic rfl ?_}};refine{_,rfl,tv,_,rfl,tv,_,rfl,tv,_,rfl,_,eR (bG _),_,rfl,ic rfl ?_};refine{_,rfl,_,rfl,es,es,.inr rfl,tv,?_};refine{λi β o=>o=[]/\∃x0 x1,β=[x0,x1],{rfl,_,_,rfl},?_,?_}
   ·rintro i d β o hd ⟨rfl,x0,x1,rfl⟩;obtain⟨a,ha,rfl⟩:=pT (aap hd);have yH:=hl a ha;have hb:=yH
    clear ha hd
    cases hb with
    |int=>exact{_,rfl,rfl,_,_,rfl,_,_,rfl,rfl,_,rfl,tv,_,rfl,tv,_,rfl,yH,_,rfl,ic rfl {rfl,_,_,rfl}}
    |tup=>exact{_,rfl,rfl,_,_,rfl,_,_,rfl,rfl,_,rfl,tv,_,rfl,tv,_,rfl,yH,_,rfl,ic rfl {rfl,_,_,rfl}}
    |lst=>exact{_,rfl,rfl,_,_,rfl,_,_,rfl,rfl,_,rfl,tv,_,rfl,tv,_,rfl,yH,_,rfl,ic rfl {rfl,_,_,rfl}}
   ·rintro β o ⟨rfl,x0,x1,rfl⟩;exact{tv,tv,ZW _,_,oK (fF []),tv,q}
  | @lst _ es l hl =>
   refine{_,rfl,_,_,rfl,yE,rfl,_,rfl,vG rfl ?_};refine{_,rfl,_,_,rfl,yE,rfl,_,rfl,ic rfl {_,rfl,_,_,rfl,Dn,rfl,tv,_,rfl,_,_,rfl,Dn,rfl,_,eR (tq ζ),_,rfl,ic rfl ?_}};refine{_,rfl,tv,_,rfl,tv,_,rfl,tv,_,rfl,_,eR (bG _),_,rfl,ic rfl ?_};refine{_,rfl,_,rfl,es,es,.inl rfl,tv,?_};refine{λi β o=>o=[]/\∃x0 x1,β=[x0,x1],{rfl,_,_,rfl},?_,?_}
   ·rintro i d β o hd ⟨rfl,x0,x1,rfl⟩;obtain⟨a,ha,rfl⟩:=pT (aap hd);have yH:=hl a ha;have hb:=yH
    clear ha hd
    cases hb with
    |int=>exact{_,rfl,rfl,_,_,rfl,_,_,rfl,rfl,_,rfl,tv,_,rfl,tv,_,rfl,yH,_,rfl,ic rfl {rfl,_,_,rfl}}
    |tup=>exact{_,rfl,rfl,_,_,rfl,_,_,rfl,rfl,_,rfl,tv,_,rfl,tv,_,rfl,yH,_,rfl,ic rfl {rfl,_,_,rfl}}
    |lst=>exact{_,rfl,rfl,_,_,rfl,_,_,rfl,rfl,_,rfl,tv,_,rfl,tv,_,rfl,yH,_,rfl,ic rfl {rfl,_,_,rfl}}
   ·rintro β o ⟨rfl,x0,x1,rfl⟩;exact{tv,tv,ZW _,_,oK (fF []),tv,q}
def Gv {LZ xi}(dM:Ve K mg LZ xi)(B:Bs2 mg)(n:Nat):aO P w K mg base cg (n+1) LZ xi ["found","due"] (eT P w ζ (iY n)):=NT dM B (n+1)
def pA:aL ["row"] ["row"] (ay dW):=mkS
def Aa {Hm yR}(MO:WG K mg Hm yR)(B:Bs mg):aO P w K mg base cg 1 Hm yR ["row"] (eT P w ζ uX):=by
 refine rQ MO.F pA (λds R OM=> by obtain⟨n,ps,e,_⟩ := OM;subst e;rfl) λcY A outer s H E hr=>{_,(ak (bo (bB (ab (aE af aX (aa (i:=0)) ag) (ab (kn aJ vi B.list jX (ab (aE af aX (aa (i:=0)) ag) ae)) ae))))),λds R h=>?_}
 obtain⟨n,ps,rfl,q⟩:=h;exact{_,rfl,tv,_,rfl,tv,_,rfl,tv,_,rfl,.inr {tv,_,rfl,.inl {(uK),tv,mf,tv,q}}}
end
section
variable {P:ZN}{w:Z4}{K:Ξ}{mg:Str->Option ZF}{base:Heap}
def JM {ps:List (Nat×Nat)}(h:vw (ps.map tI))(nd:ps.Nodup):ps.Pairwise λp q=>p.1<q.1\/(p.1=q.1/\p.2<q.2):=by
 have h1:=aa7.mp h;refine(h1.and nd).imp λ{p q} hh=>?_;obtain⟨z,ne⟩:=hh;have z:(if (q.1:Int)=p.1 then (if (q.2:Int)=p.2 then HT.lexLt [] [] else decide ((q.2:Int)<p.2)) else decide ((q.1:Int)<p.1))=η:=z
 by_cases e1:(q.1:Int)=p.1
 ·rw[χ e1]at z
  by_cases e2:(q.2:Int)=p.2
  ·exact Η (Prod.ext (by lia) (by lia)) ne
  ·rw[ω e2]at z;have:=of_decide_eq_false z;lia
 ·rw[ω e1]at z;have:=of_decide_eq_false z;lia
def fH:aL ["script","cell","hand","row","due","handed","again","found"] ["script"] (ay ni):=mkS
def BX (K:Ξ):Sp:=λvs H Q _=>∃(a:θ) (ns:List Int),vs=[.ref a]/\dJ K H a (ns.map V.int)/\ns.length<=63/\∀H',Q (.bl ζ) H'
def JL (β:Q.a6):Prop:=∃y0 y1 y2 y3 y4 y5 y6 y7:Option Q.B,β=[y0,y1,y2,y3,y4,y5,y6,y7]
def Kt {f:θ}{fd:aaD}(F:Fs K "law" "law" ni f fd)(B:zv mg){Ho yT}(MQ:WJ K mg Ho yT){AI qL}(IZ:Vf K mg AI qL){uR lM}(Fh:Q9 K mg uR lM){pK iG}(zc:D8 K mg pK iG){l4 gc}(sM:D5 K mg l4 gc){l3 gb}(y_:D4 K mg l3 gb){l7 gf}(za:D7 K mg l7 gf){ip dQ}(o4:D6 K mg ip dQ){pJ iF}(vK:D9 K mg pJ iF){uU lP}(Fl:Q6 K mg uU lP){uS lN}(Fi:Q8 K mg uS lN){YE UK}(dH:Zb K mg YE UK){LY xh}(dT:D1 K mg LY xh){IT uQ}(dA:D0 K mg IT uQ){ML AG}(dI:D2 K mg ML AG){QO Hk}(dR:D3 K mg QO Hk){LZ xi}(dM:Ve K mg LZ xi){AH qK}(Es:Vh K mg AH qK){Hm yR}(MO:WG K mg Hm yR){AJ qM}(I9:Vg K mg AJ qM){uT lO}(Fj:Q5 K mg uT lO){pL iH}(Bn:Qd K mg pL iH){Hl yQ}(MN:WI K mg Hl yQ){Hn yS}(MP:WH K mg Hn yS):aO P w K mg base cg 45 f fd ["script"] (BX K):=by
 have GH:aO P w K mg base cg 1 _ _ _ (eT P w ζ uW):=LP (Gw dH.F {(B.max),B.min,B.int});have GT:aO P w K mg base cg 1 _ _ _ (j8 P w iy ζ cV):=rj (mx dT.F);have GR:aO P w K mg base cg 4 _ _ _ (j8 P w iy ζ D_):=Kq dR dT dA dI B.toBs;have Y3:aO P w K mg base cg 2 _ _ _ (eT P w ζ IU):=Ku MN Es B;have Y7:aO P w K mg base cg 4 _ _ _ (eT P w η PF):=NU MP I9 Fj Bn B;have Y5:aO P w K mg base cg 1 _ _ _ (eT P w ζ uX):=Aa MO B.toBs;have Y9:aO P w K mg base cg 6 _ _ _ (eT P w ζ IU):=Gr MQ IZ Fh zc sM y_ za o4 vK Fl Fi B;have GM:aO P w K mg base cg 3 _ _ _ (eT P w ζ (iY 2)):=Gv dM B.toBs2 2;refine F.ok fH (λvs H Q E h=>?_) (λcY A outer s H vs Qk E hr h=>?_)
 ·obtain⟨a,ns,rfl,_⟩:=h;rfl
 ·obtain⟨a,ns,rfl,hS,hlen,k⟩:=h;have Ug:∀b:θ,¬ (λ_=>False) b:=λb z=>z;obtain⟨ψ,hb,hψ⟩:∃ψ,Q.zr (pO cg P w K mg base _ "law" (ay ni) f cY A outer s H E).Il {H,λ_=>False,ζ,λ_=>False} (match (e_ ni)with | .For _ _ b _ _::_=>b|_=>[]) ψ /\
    ∀(c:Int) (x0 x2 x3 x4 x5 x6 x7:Option Q.B),ψ {nx:=JL,rt:=λd _=>d=.bl ζ,bk:=JL,ct:=JL} [x0,ν (.val ζ (.int c)),x2,x3,x4,x5,x6,x7]:=by
   refine⟨_,(ah (Ge (i:=2) iy Ug (λ_=>(aW uW.mono GH (hr.mono (by decide)) dH.m dH.F.kp dH.b (ab (aa (i:=1)) ae))) fH.nd)
    (ah (a5 (i:=3) (bV (ih:=2) D_.mono GR (hr.mono (by decide)) dR.m dR.F.kp dR.b ae) fH.nd)
    (dc (b9 (xB.t (mq (aD af (bE.m wB) (aE af aX (aa (i:=3)) ag) ag) (jw (aD af (bE.m (bN hr.units)) (bV (ih:=2) cV.mono GT (hr.mono (by decide)) dT.m dT.F.kp dT.b (ab ag ae)) ag)))) (ak (a5 (i:=3) (bB (ab ag (ab (Iu ["tie"] [ξ] (by rfl) (by decide:(["tie"]:List Str).Nodup) rfl (aS (aE af aX (aa (i:=3)) ag)) (λ_ _ _ _ _ _=>(aj (i:=0) (by decide:(["tie"]:List Str).Nodup))) (λ_ _ _ _ _ _=>(cG (aD af (bE.m dF) (aE af aX (aa (i:=0)) ag) ag))) (λ_ _ _ _ _ _=>(aa (i:=0)))) ae))) fH.nd)) a7)
    (ah (a5 (i:=4) (aW IU.mono Y3 (hr.mono (by decide)) MN.m MN.F.kp MN.b (ab (aa (i:=3)) ae)) fH.nd)
    (dc (b9 (xB.t (mq (aD af (bE.m dF) (bf af (bO.m d8) B.len k9 (ab (aE af aX (aa (i:=3)) ag) ae)) ag) (jw (aD af (bE.m (kq hr.units)) (aW PF.mono Y7 (hr.mono (by decide)) MP.m MP.F.kp MP.b (ab (aa (i:=3)) ae)) (aa (i:=4)))))) (ak (bo tP)) a7)
    (ah (a5 (i:=5) (aW uX.mono Y5 (hr.mono (by decide)) MO.m MO.F.kp MO.b (ab (aa (i:=3)) ae)) fH.nd)
    (ak (bC aav rfl (aT B.range (ab ag ae)) (aj (i:=6) fH.nd) (ah (bW (i:=7) (λ_=>(aW IU.mono Y9 (hr.mono (by decide)) MQ.m MQ.F.kp MQ.b (ab (aa (i:=5)) ae))) fH.nd)
    (dc (b9 (xB.t (wo (rK (hG (aW iY.mono GM (hr.mono (by decide)) dM.m dM.F.kp dM.b (ab (aa (i:=7)) (ab (aa (i:=4)) ae))))) (rJ (aD af (bE.m (kq hr.units)) (aa (i:=5)) (aa (i:=3)))))) (ak (bo tP)) a7)
    (ah (dk (i:=7) η (λ_=>ag) (λ_=>ag))
    (dc (b9 (aD af (bE.m (kq hr.units)) (aE af aX (aa (i:=7)) ag) (aE af aX (aa (i:=4)) ag)) (ak (bo tP)) a7)
    (ak (dk (i:=7) η (λ_=>ag) (λ_=>ag))))))))))))))),λc x0 x2 x3 x4 x5 x6 x7=>?_⟩
   refine{_,rfl,tv,c,rfl,λns hk=>{tv,(by show 2<8;decide),ns,rfl,hk,?_}}
   refine{rfl,rfl,tv,rfl,λn ts n0 n1 dr=>?_};obtain⟨hl,tr,sr,nd⟩:=dr;obtain⟨m,ps,ok,en,YI,er⟩:=FW n0 (by lia) (by lia) tr nd
   rw[er];rw[YI]at sr;have hs:=JM sr ok.nd;have hm:m<=40:=by lia
   refine{λβ=>∃(m:Nat) (ps:List (Nat×Nat)) (x4 x5 x6 x7:Option Q.B),β=[x0,ν (.val ζ (.int c)),ν (.hand iy),ν (.val ζ (fO m ps)),x4,x5,x6,x7]/\Bf m ps/\m<=40/\(ps.Pairwise λp q=>p.1<q.1\/(p.1=q.1/\p.2<q.2)),?_,?_}
   ·refine{_,rfl,tv,_,rfl,tv,_,rfl,_,rfl,?_}
    by_cases Wt:(14:Int)<(m:Int)
    ·refine vG (Γ Wt) {rfl,tv,rfl,tv,2,rfl,by decide,by decide,λr r0 r1=>{tv,_,bA r 0,_,rfl,?_}}
     by_cases V3:r=0
     ·refine vG (Γ V3) {tv,_,rfl,tv,_,rfl,.inr {_,rfl,tv,?_}};refine cT (λp:Nat×Nat=>decide (p.2<12)) (λp=>kD (tI p)) tv (cZ (by have:=ok.sm;lia)) (λp hp y0 o J ho j1 j2=>?_) ?_
      ·refine{_,rfl,tv,_,rfl,tv,_,rfl,_,rfl,?_}
       by_cases Pd:(p.2:Int)<12
       ·exact vG (Γ Pd) {_,rfl,rfl,ho,j1 (Γ (by lia)) _}
       ·exact ic (Δ Pd) (j2 (Δ (by lia)) _)
      refine{tv,mf,12,ps.filter λp=>decide (p.2<12),_,_,_,_,rfl,{λp hp=>?_,ok.nd.sublist List.filter_sublist,by lia,aaj (aat _ _) ok.sm},by lia,hs.filter _}
      obtain⟨h1,h2⟩:=ZY.mp hp;exact{(ok.lt p h1).1,of_decide_eq_true h2}
     ·exact ic (Δ V3) {m,ps,_,_,_,_,rfl,ok,hm,hs}
    ·exact ic (Δ Wt) {m,ps,_,_,_,_,rfl,ok,hm,hs}
   ·rintro β ⟨m,ps,x4,x5,x6,x7,rfl,ok,hm,hs⟩;have Ua:∀f:Nat->Bool,((ZK m).filter f).length<=40:=λf=>by
     have:=aat f (ZK m);rw[Z7]at this;lia
    have Tf:∀l:List Nat,(D.lst (vF l)).pd.canLay0=ζ/\(D.lst (vF l)).pd.depth<=2:=λl=>j_ λd hd=>by
     obtain⟨i,_,rfl⟩:=Z0.mp hd;exact bG _
    have DB:(BJ ps m).pd.canLay0=ζ/\(BJ ps m).pd.depth<=3:=j9 λd hd=>by
     rcases ZI.mp hd with rfl|hd
     ·exact Tf _
     ·rw[ZJ.mp hd];exact Tf _
    have Wk:∀f:Nat->Bool,Jh 1 (.lst (vF ((ZK m).filter f))):=λf=>.lst (by rw[ZE];exact aaj (Ua f) (by decide)) λx hx=>by
     obtain⟨i,_,rfl⟩:=Z0.mp hx;exact .int
    have Yq:Jh 2 (BJ ps m):=.tup (by show 2<=1000;decide) λx hx=>by
     rcases ZI.mp hx with rfl|hx
     ·exact Wk _
     ·rw[ZJ.mp hx];exact Wk _
    refine{_,rfl,tv,m,ps,rfl,ok,hm,?_};refine{λβ=>∃x5 x6 x7:Option Q.B,β=[x0,ν (.val ζ (.int c)),ν (.hand iy),ν (.val ζ (fO m ps)),ν (.val ζ (BJ ps m)),x5,x6,x7],?_,?_}
    ·refine{_,rfl,tv,_,rfl,.inr {tv,_,rfl,tv,_,rfl,_,rfl,kQ (λd3=>?_) (λ_=>{_,_,_,rfl})}};have Yi:ps.length<=8:=by
      rw[ZE]at d3;lia
     exact{_,rfl,tv,m,ps,rfl,ok,hm,Yi,hs,tv,_,rfl,_,eR DB,_,rfl,ic rfl {_,_,_,rfl}}
    ·rintro β ⟨x5,x6,x7,rfl⟩;refine{_,rfl,tv,m,ps,rfl,?_};refine{tv,2,rfl,by decide,by decide,tv,?_}
     refine pI (λ_ β=>∃x6 x7:Option Q.B,β=[x0,ν (.val ζ (.int c)),ν (.hand iy),ν (.val ζ (fO m ps)),ν (.val ζ (BJ ps m)),ν (.val ζ (fO m ps)),x6,x7]) {_,_,rfl} (λE1 r1 j n1 d β hd h=>?_) ?_
     ·obtain⟨x6,x7,rfl⟩:=h;obtain⟨_,rfl⟩:=bx hd;refine{_,rfl,tv,m,ps,rfl,ok,hm,tv,?_};refine{λβ=>∃x6:Option Q.B,β=[x0,ν (.val ζ (.int c)),ν (.hand iy),ν (.val ζ (fO m ps)),ν (.val ζ (BJ ps m)),ν (.val ζ (fO m ps)),x6,ν (.own (BJ ps m))],?_,?_}
      ·exact{_,rfl,tv,_,rfl,tv,BJ ps m,rfl,Yq,_,rfl,ic rfl {_,rfl,tv,_,rfl,_,eR (B5 m ps),_,rfl,ic rfl {_,rfl}}}
      ·rintro β ⟨x6,rfl⟩;refine{{_,rfl},[.lst (vF (MS ps m)),.lst (vF (MC ps m))],0,0,_,rfl,rfl,rX (i:=0) rfl (by show 0<2;decide),rfl,tv,rfl,by (rw[ZE];exact iq (aaj (Ua _) (by decide))),?_}
       refine{λβ=>∃x6:Option Q.B,β=[x0,ν (.val ζ (.int c)),ν (.hand iy),ν (.val ζ (fO m ps)),ν (.val ζ (BJ ps m)),ν (.val ζ (fO m ps)),x6,ν (.own (.tup [.lst (vF (MS ps m)++[.int 0]),.lst (vF (MC ps m))]))],?_,?_}
       ·exact{_,rfl,tv,_,rfl,.inr {tv,_,rfl,tv,_,rfl,.inr {_,eR (Tf _),_,rfl,ic rfl {_,rfl}}}}
       ·rintro β ⟨x6,rfl⟩;exact{{_,rfl},[.lst (vF (MS ps m)++[.int 0]),.lst (vF (MC ps m))],1,1,_,rfl,rfl,rX (i:=1) rfl (by show 1<2;decide),rfl,tv,rfl,by (rw[ZE];exact iq (aaj (Ua _) (by decide))),n1 _ {_,_,rfl}}
     ·rintro β ⟨x6,x7,rfl⟩;exact{_,_,_,_,_,_,_,_,rfl}
  refine{_,eD (Cr aav rfl (yn (dj CP (wy (a_ (dj rO bj bj) cR)) (tR xT (pv 0) yi (yh bj)))) (Q.aj (C:={H,λ_=>False,ζ,λ_=>False}) (i:=1) fH.nd).pg hb.ps) (js (iR Ih)),?_};obtain⟨ms,em,hm⟩:=AU ns ξ (ν 4);refine{_,_,rfl,rfl,CC,(by show 1<=Z3;decide),λp1 Pe=>{_,rfl,_,rfl,a,_,rfl,(au.new Pe).seq hS,λp2 QE=>?_}}
  have XF:p1≠p2:=cI ao QE;refine{p1,p2,_,_,rfl,rfl,(by rw[aw XF];exact ao),ao,(by rw[em,ZE,aaQ,abo];lia),λl hl=>{l,rfl,{_,dJ.of ao},?_}}
  rw[em];rw[em]at hl;have sm:au H (upd (upd (upd H p1 (.lst [V.int (10 ^ (18:Int).toNat)])) p2 (.lst (ms.map V.int))) l (.lst ([V.int (10 ^ (18:Int).toNat)]++ms.map V.int))):=((au.new Pe).trans (au.new (by rw[em]at *;exact QE))).trans (au.new hl)
  have qE:(upd (upd (upd H p1 (.lst [V.int (10 ^ (18:Int).toNat)])) p2 (.lst (ms.map V.int))) l (.lst ([V.int (10 ^ (18:Int).toNat)]++ms.map V.int))) l=ν (.lst (((10 ^ (18:Int).toNat)::ms).map V.int)):=ao;generalize (upd (upd (upd H p1 (.lst [V.int (10 ^ (18:Int).toNat)])) p2 (.lst (ms.map V.int))) l (.lst ([V.int (10 ^ (18:Int).toNat)]++ms.map V.int)))=H1 at sm qE ⊢
  generalize ((10 ^ (18:Int).toNat)::ms)=cs at qE;let X:Cx:=(pO cg P w K mg base ["script","cell","hand","row","due","handed","again","found"] "law" (ay ni) f cY A outer s H E).Il
  let C:Q.Cfg:={H,λ_=>False,ζ,λ_=>False}
  have it:vN X (λ_=>False) (Q4 K l) (cs.map D.int) H1:=uB qE (λz=>z) (bK cs);have Iz:=it (λb=>(λ_=>False) b\/H1 b=ξ) λb z=>z;have s':Q.cu P w C.z (L2.start ["script","cell","hand","row","due","handed","again","found"] [.ref a]) H1 (aau 8 ξ) (λ_=>[]):=FL (by rfl) sm
  generalize Yp:cs.map D.int=ds at Iz;have hint:∀d∈ds,∃c:Int,d=.int c:=λd hd=>by
   rw[<- Yp]at hd;obtain⟨c,_,rfl⟩:=Z0.mp hd;exact{(c),rfl}
  refine{λi m σ H'=>i<=ds.length/\m=ds.length-i/\∃β,Q.SB X C (H1,Q.Wn λ_=>[]) σ H' β/\JL β,{_,ZW _,rfl,_,{_,s',Sn.refl},{_,_,_,_,_,_,_,_,rfl}},?_};rintro i m σ2 H2 ⟨hi,rfl,β2,⟨ba,s2,n2⟩,⟨y0,y1,y2,y3,y4,y5,y6,y7,rfl⟩⟩;obtain⟨bQ,iD⟩:=Iz i H2 (n2.k.mono λb z=>z.imp (λOL=> by obtain⟨_,q⟩ := OL;exact(nomatch q)) id)
  by_cases d3:i<ds.length
  ·right
   have hd:ds[i]?=ν ds[i]:=ZU d3;obtain⟨go,yl⟩:=bQ _ hd;obtain⟨c,hc⟩:=hint ds[i] (abV d3);refine{go,λσ' H'=>∃β,Q.SB X C (H1,Q.Wn λ_=>[]) σ' H' β/\JL β,λσ' H' OK=> by obtain⟨β',FU,xb⟩ := OK;exact{_,by lia,d3,rfl,β',FU,xb},λx H3 y=>?_}
   obtain⟨s3,r3⟩:=yl x H3 y;rw[hc]at r3;refine{ba,_,.int c,.own,s2.same s3,az.flat rfl r3,λσ4 tV s4 w4 _=>?_};exact⟨(H1,Q.Wn λ_=>[]),{nx:=JL,rt:=λd _=>d=.bl ζ,bk:=JL,ct:=JL},_,{tV,s4,Q.jo (n2.same s3) w4},hψ c y0 y2 y3 y4 y5 y6 y7,⟨λσ5 H5 β5 zP q5=>{(β5),zP,q5},λσ5 H5 β5 d5 v5 zP r5 q5=>by
    subst q5;cases (show v5=V.bl ζ from Nh r5)
    exact k _,λσ5 H5 β5 zP q5=>k _,λσ5 H5 β5 zP q5=>{(β5),zP,q5}⟩⟩
  ·left
   have e:i=ds.length:=by lia
   subst e;exact{iD (ZG _),k _}
end
def gh {α:Type}{P:List α->Prop}(h:∀a,P [a]):∀us:List α,us.length=1->P us:=λus e=>by
 obtain⟨a,rfl⟩:=List.length_eq_one_iff.mp e;exact h a
def uw {α:Type}{P:List α->Prop}(h:∀a b,P [a,b]):∀us:List α,us.length=2->P us:=λus e=>by
 cases us with
 |nil=>cases e
 |cons a us=>exact gh (P:=λus=>P (a::us)) (h a) us (Nat.succ.inj e)
def Og {α:Type}{P:List α->Prop}(h:∀a b c,P [a,b,c]):∀us:List α,us.length=3->P us:=λus e=>by
 cases us with
 |nil=>cases e
 |cons a us=>exact uw (P:=λus=>P (a::us)) (h a) us (Nat.succ.inj e)
def SH {α:Type}{P:List α->Prop}(h:∀a b c d,P [a,b,c,d]):∀us:List α,us.length=4->P us:=λus e=>by
 cases us with
 |nil=>cases e
 |cons a us=>exact Og (P:=λus=>P (a::us)) (h a) us (Nat.succ.inj e)
def KW {α:Type}{P:List α->Prop}(h:∀a b c d e,P [a,b,c,d,e]):∀us:List α,us.length=5->P us:=λus e=>by
 cases us with
 |nil=>cases e
 |cons a us=>exact SH (P:=λus=>P (a::us)) (h a) us (Nat.succ.inj e)
noncomputable abbrev vS (x:Str)(t:Nat):ZF:=.str x t
noncomputable abbrev kE (P:Params)(x:Str)(t:Nat)(v:ZF):DictEntry:={PyData.keyHash P x,.str x t,v}
noncomputable abbrev kC (n:Str)(t l p r8 XQ Xl:Nat)(WR WQ WO:ZF)(Xk XO W6:Nat):Obj:={cls:=.type "code",data:=.fields #[vS n t,vS n (t+1),vS "/claim/cut.py" (t+2),.int l 0,.int p 0,.int 0 0,.int 0 0,.int 3 0,.ref r8,.bool ζ,.int XQ 0,.ref Xl,WR,WQ,WO,.ref Xk,.int XO 0,.int l 0,vS "/claim/cut.py" W6]}
noncomputable abbrev QA (st:Stmt)(x m:Str)(t c:Nat):aaD:=Ε x x (mK st) (e_ st) (ay st) .none .none .none (vS m t) ξ (.ref c) .none
abbrev Κ:Str:="law_archrow_k09_points_always_tied"
noncomputable abbrev kF (st:Stmt)(x m:Str)(t c:Nat):Obj:={cls:=.type "function",data:=.func (QA st x m t c)}
def DU {K:Ξ}{x m:Str}{st:Stmt}{t c f:Nat}(l:K.lookup f=ν (kF st x m t c))(cd:PySem.W.codeIn K (.ref c) x=ζ)(k:υ K (.ref f)=ζ):Fs K x x st f (QA st x m t c):=LU l cd k
def cc {K:Ξ}{h:Heap}{mg:Str->Option ZF}{x m:Str}{st:Stmt}{t c f:Nat}{ps:List Str}(X:K.In h)(G:h.Ns abO mg)(l:K.lookup f=ν (kF st x m t c))(cd:PySem.W.codeIn K (.ref c) x=ζ)(k:υ K (.ref f)=ζ)
  (a:PySem.W.nsIn K abO x=ν (ν (.ref f))) (b:∀us:List ZF,us.length=ps.length->bindArgs (QA st x m t c) {us,[]}=pure (ps.zip us)):Df K mg x st ps f (QA st x m t c):={DU l cd k,.all b,PySem.W.mg_of X G a}
noncomputable def KK:Params->Ξ:=λP=>[(3,{cls:=.type "dict",data:=.dict #[kE P "__name__" 165 (vS Κ 277),kE P "__doc__" 166 .none,kE P "__package__" 167 .none,kE P "__loader__" 168 (.builtin "__main__.__loader__#opaque"),kE P "__spec__" 169 .none,kE P "__annotations__" 170 (.ref 6),kE P "__builtins__" 171 (.ref 4),kE P "__file__" 173 (vS "/claim/cut.py" 172),kE P "__cached__" 174 .none,kE P "stretches_rising" 194 (.ref 19),kE P "partners_of" 200 (.ref 24),kE P "parts_left" 209 (.ref 31),kE P "greatest_table" 215 (.ref 36),kE P "number_with" 226 (.ref 43),kE P "least_number" 232 (.ref 48),kE P "best_choices" 238 (.ref 53),kE P "table_of" 247 (.ref 60),kE P "always_tied" 253 (.ref 65),kE P "one_each" 259 (.ref 70),kE P "choices_met" 276 (.ref 77),kE P "_law_hand" 285 (.ref 84),kE P "_law_take" 294 (.ref 91),kE P "_law_arcs" 306 (.ref 98),kE P "_law_ties" 312 (.ref 103),kE P "_law_row" 320 (.ref 110),kE P "_law_cross" 332 (.ref 117),kE P "_law_same" 338 (.ref 122),kE P "_law_table" 344 (.ref 127),kE P "_law_meet" 352 (.ref 134),kE P "_law_all" 358 (.ref 139),kE P "_law_copied" 365 (.ref 146),kE P "_law_due" 371 (.ref 151),kE P "_law_by_sets" 377 (.ref 156),kE P "law" 383 (.ref 161)] 34}),
 (18,kC "stretches_rising" 189 2 1 15 181 16 .none .none .none 17 192 193),
 (19,kF bU "stretches_rising" "archrow.stretches" 187 18),
 (23,kC "partners_of" 195 4 1 20 181 21 .none .none .none 22 198 199),
 (24,kF c7 "partners_of" "archrow.stretches" 187 23),
 (30,kC "parts_left" 201 10 3 25 181 26 .none (.ref 27) (.ref 28) 29 207 208),
 (31,kF dU "parts_left" "archrow.stretches" 187 30),
 (35,kC "greatest_table" 210 14 2 32 181 33 .none .none .none 34 213 214),
 (36,kF cv "greatest_table" "archrow.stretches" 187 35),
 (42,kC "number_with" 216 21 5 37 181 38 .none (.ref 39) (.ref 40) 41 224 225),
 (43,kF c8 "number_with" "archrow.stretches" 187 42),
 (47,kC "least_number" 227 23 5 44 181 45 .none .none .none 46 230 231),
 (48,kF cP "least_number" "archrow.stretches" 187 47),
 (52,kC "best_choices" 233 26 5 49 181 50 .none .none .none 51 236 237),
 (53,kF cQ "best_choices" "archrow.stretches" 187 52),
 (59,kC "table_of" 241 33 1 54 181 55 .none (.ref 56) (.ref 57) 58 245 246),
 (60,kF fI "table_of" "archrow.kept" 239 59),
 (64,kC "always_tied" 248 35 1 61 181 62 .none .none .none 63 251 252),
 (65,kF da "always_tied" "archrow.kept" 239 64),
 (69,kC "one_each" 254 42 1 66 181 67 .none .none .none 68 257 258),
 (70,kF fJ "one_each" "archrow.kept" 239 69),
 (76,kC "choices_met" 260 44 1 71 181 72 .none (.ref 73) (.ref 74) 75 274 275),
 (77,kF c_ "choices_met" "archrow.kept" 239 76),
 (83,kC "_law_hand" 279 61 1 78 181 79 .none (.ref 80) (.ref 81) 82 283 284),
 (84,kF eC "_law_hand" Κ 277 83),
 (90,kC "_law_take" 286 63 2 85 181 86 .none (.ref 87) (.ref 88) 89 292 293),
 (91,kF eh "_law_take" Κ 277 90),
 (97,kC "_law_arcs" 295 70 2 92 181 93 .none (.ref 94) (.ref 95) 96 304 305),
 (98,kF fN "_law_arcs" Κ 277 97),
 (102,kC "_law_ties" 307 80 2 99 181 100 .none .none .none 101 310 311),
 (103,kF fK "_law_ties" Κ 277 102),
 (109,kC "_law_row" 313 102 1 104 181 105 .none (.ref 106) (.ref 107) 108 318 319),
 (110,kF gX "_law_row" Κ 277 109),
 (116,kC "_law_cross" 321 107 2 111 181 112 .none (.ref 113) (.ref 114) 115 330 331),
 (117,kF eY "_law_cross" Κ 277 116),
 (121,kC "_law_same" 333 111 2 118 181 119 .none .none .none 120 336 337),
 (122,kF fL "_law_same" Κ 277 121),
 (126,kC "_law_table" 339 123 1 123 181 124 .none .none .none 125 342 343),
 (127,kF eX "_law_table" Κ 277 126),
 (133,kC "_law_meet" 345 140 2 128 181 129 .none (.ref 130) (.ref 131) 132 350 351),
 (134,kF fM "_law_meet" Κ 277 133),
 (138,kC "_law_all" 353 142 1 135 181 136 .none .none .none 137 356 357),
 (139,kF gZ "_law_all" Κ 277 138),
 (145,kC "_law_copied" 359 151 1 140 181 141 .none (.ref 142) (.ref 143) 144 363 364),
 (146,kF dW "_law_copied" Κ 277 145),
 (150,kC "_law_due" 366 153 1 147 181 148 .none .none .none 149 369 370),
 (151,kF gY "_law_due" Κ 277 150),
 (155,kC "_law_by_sets" 372 165 1 152 181 153 .none .none .none 154 375 376),
 (156,kF c9 "_law_by_sets" Κ 277 155),
 (160,kC "law" 378 176 1 157 181 158 .none .none .none 159 381 382),
 (161,kF ni "law" Κ 277 160)]
noncomputable abbrev HK:PySem.W.Hook:=PySem.W.kHook KK [3,18,19,23,24,30,31,35,36,42,43,47,48,52,53,59,60,64,65,69,70,76,77,83,84,90,91,97,98,102,103,109,110,116,117,121,122,126,127,133,134,138,139,145,146,150,151,155,156,160,161] (λ_=>by kernel_rfl)
noncomputable def view:ZN:={PySem.Challenge.pw_archrow_k09_points_always_tied with main:={PySem.Challenge.pw_archrow_k09_points_always_tied.main with body:=[top 1,top 2,top 3,top 4,top 5,top 6,top 7,top 9,top 10,top 11,top 12,top 14,top 15,top 16,top 17,top 18,top 19,top 20,top 21,top 22,top 23,top 24,top 25,top 26,top 27]}}
def left:PySem.W.LeftO PySem.Challenge.pw_archrow_k09_points_always_tied view [] (λs=>PySem.W.xlAt view [] s&&PySem.W.recOk (PySem.W.RowW.records PySem.Challenge.rw_archrow_k09_points_always_tied.row.toRowW) s) HK.obs HK.val 1606:=λw=>by kernel_rfl
def all_mk {l:PySem.W.OpenLaw}(w:Z4)(mg:Str->Option ZF)(fa:θ)(h:Heap)(X:(KK w.params).In h)(G:h.Ns abO mg)(Yo:mg "law" = ν (.ref fa))   :∃fd:aaD,(∀(s:ZH) (v:ZF),BindsTo s fd {[v],[]} [("script",v)])/\∀base:Heap,(KK w.params).In base->base.Ns abO mg->aO l.prog w (KK w.params) mg base cg 45 fa fd ["script"] (BX (KK w.params)):=by
 have e:=Yo.symm.trans (PySem.W.mg_of X G (v:=.ref 161) (by kernel_rfl))
 cases e;have N8:=Ω X G (n:="max") (by kernel_rfl)
 have N7:=Ω X G (n:="min") (by kernel_rfl)
 have N_:=Ω X G (n:="int") (by kernel_rfl)
 have GN:=Ω X G (n:="range") (by kernel_rfl)
 have C7:=Ω X G (n:="sorted") (by kernel_rfl)
 have N6:=Ω X G (n:="set") (by kernel_rfl)
 have N9:=Ω X G (n:="len") (by kernel_rfl)
 have KH:=Ω X G (n:="list") (by kernel_rfl)
 have rR:=Ω X G (n:="isinstance") (by kernel_rfl)
 have GL:=Ω X G (n:="tuple") (by kernel_rfl)
 have N5:=Ω X G (n:="str") (by kernel_rfl)
 have KI:=Ω X G (n:="bool") (by kernel_rfl)
 have N3:=Ω X G (n:="zip") (by kernel_rfl)
 have t_:=Ω X G (n:="enumerate") (by kernel_rfl)
 have N4:=Ω X G (n:="sum") (by kernel_rfl)
 have B:=({{{(N8),N7,N_,GN,C7,N6,N9,KH},rR,GL,N5,KI,N3,t_},N4}:zv mg);exact⟨_,λs v=>.of_eq rfl,λbase _ _=>Kt (DU (x:="law") (m:=Κ) (st:=ni) (t:=277) (c:=160) (f:=161) (by kernel_rfl) (by kernel_rfl) (by kernel_rfl)) B (cc X G (x:="always_tied") (m:="archrow.kept") (st:=da) (t:=239) (c:=64) (f:=65) (ps:=["row"]) (by kernel_rfl) (by kernel_rfl) (by kernel_rfl) (by kernel_rfl) (gh λ_=>rfl))
  (cc X G (x:="choices_met") (m:="archrow.kept") (st:=c_) (t:=239) (c:=76) (f:=77) (ps:=["row"]) (by kernel_rfl) (by kernel_rfl) (by kernel_rfl) (by kernel_rfl) (gh λ_=>rfl))
  (cc X G (x:="table_of") (m:="archrow.kept") (st:=fI) (t:=239) (c:=59) (f:=60) (ps:=["row"]) (by kernel_rfl) (by kernel_rfl) (by kernel_rfl) (by kernel_rfl) (gh λ_=>rfl))
  (cc X G (x:="greatest_table") (m:="archrow.stretches") (st:=cv) (t:=187) (c:=35) (f:=36) (ps:=["row","worth"]) (by kernel_rfl) (by kernel_rfl) (by kernel_rfl) (by kernel_rfl) (uw λ_ _=>rfl))
  (cc X G (x:="partners_of") (m:="archrow.stretches") (st:=c7) (t:=187) (c:=23) (f:=24) (ps:=["row"]) (by kernel_rfl) (by kernel_rfl) (by kernel_rfl) (by kernel_rfl) (gh λ_=>rfl))
  (cc X G (x:="stretches_rising") (m:="archrow.stretches") (st:=bU) (t:=187) (c:=18) (f:=19) (ps:=["many"]) (by kernel_rfl) (by kernel_rfl) (by kernel_rfl) (by kernel_rfl) (gh λ_=>rfl))
  (cc X G (x:="least_number") (m:="archrow.stretches") (st:=cP) (t:=187) (c:=47) (f:=48) (ps:=["partners","worth","table","i","j"]) (by kernel_rfl) (by kernel_rfl) (by kernel_rfl) (by kernel_rfl) (KW λ_ _ _ _ _=>rfl))
  (cc X G (x:="number_with") (m:="archrow.stretches") (st:=c8) (t:=187) (c:=42) (f:=43) (ps:=["worth","table","i","k","j"]) (by kernel_rfl) (by kernel_rfl) (by kernel_rfl) (by kernel_rfl) (KW λ_ _ _ _ _=>rfl))
  (cc X G (x:="one_each") (m:="archrow.kept") (st:=fJ) (t:=239) (c:=69) (f:=70) (ps:=["row"]) (by kernel_rfl) (by kernel_rfl) (by kernel_rfl) (by kernel_rfl) (gh λ_=>rfl))
  (cc X G (x:="best_choices") (m:="archrow.stretches") (st:=cQ) (t:=187) (c:=52) (f:=53) (ps:=["partners","worth","table","i","j"]) (by kernel_rfl) (by kernel_rfl) (by kernel_rfl) (by kernel_rfl) (KW λ_ _ _ _ _=>rfl))
  (cc X G (x:="parts_left") (m:="archrow.stretches") (st:=dU) (t:=187) (c:=30) (f:=31) (ps:=["i","k","j"]) (by kernel_rfl) (by kernel_rfl) (by kernel_rfl) (by kernel_rfl) (Og λ_ _ _=>rfl))
  (cc X G (x:="_law_hand") (m:=Κ) (st:=eC) (t:=277) (c:=83) (f:=84) (ps:=["cell"]) (by kernel_rfl) (by kernel_rfl) (by kernel_rfl) (by kernel_rfl) (gh λ_=>rfl))
  (cc X G (x:="_law_take") (m:=Κ) (st:=eh) (t:=277) (c:=90) (f:=91) (ps:=["hand","many"]) (by kernel_rfl) (by kernel_rfl) (by kernel_rfl) (by kernel_rfl) (uw λ_ _=>rfl))
  (cc X G (x:="_law_arcs") (m:=Κ) (st:=fN) (t:=277) (c:=97) (f:=98) (ps:=["hand","many"]) (by kernel_rfl) (by kernel_rfl) (by kernel_rfl) (by kernel_rfl) (uw λ_ _=>rfl))
  (cc X G (x:="_law_ties") (m:=Κ) (st:=fK) (t:=277) (c:=102) (f:=103) (ps:=["hand","many"]) (by kernel_rfl) (by kernel_rfl) (by kernel_rfl) (by kernel_rfl) (uw λ_ _=>rfl))
  (cc X G (x:="_law_row") (m:=Κ) (st:=gX) (t:=277) (c:=109) (f:=110) (ps:=["hand"]) (by kernel_rfl) (by kernel_rfl) (by kernel_rfl) (by kernel_rfl) (gh λ_=>rfl))
  (cc X G (x:="_law_same") (m:=Κ) (st:=fL) (t:=277) (c:=121) (f:=122) (ps:=["found","due"]) (by kernel_rfl) (by kernel_rfl) (by kernel_rfl) (by kernel_rfl) (uw λ_ _=>rfl))
  (cc X G (x:="_law_table") (m:=Κ) (st:=eX) (t:=277) (c:=126) (f:=127) (ps:=["row"]) (by kernel_rfl) (by kernel_rfl) (by kernel_rfl) (by kernel_rfl) (gh λ_=>rfl))
  (cc X G (x:="_law_copied") (m:=Κ) (st:=dW) (t:=277) (c:=145) (f:=146) (ps:=["row"]) (by kernel_rfl) (by kernel_rfl) (by kernel_rfl) (by kernel_rfl) (gh λ_=>rfl))
  (cc X G (x:="_law_all") (m:=Κ) (st:=gZ) (t:=277) (c:=138) (f:=139) (ps:=["row"]) (by kernel_rfl) (by kernel_rfl) (by kernel_rfl) (by kernel_rfl) (gh λ_=>rfl))
  (cc X G (x:="_law_meet") (m:=Κ) (st:=fM) (t:=277) (c:=133) (f:=134) (ps:=["one","other"]) (by kernel_rfl) (by kernel_rfl) (by kernel_rfl) (by kernel_rfl) (uw λ_ _=>rfl))
  (cc X G (x:="_law_cross") (m:=Κ) (st:=eY) (t:=277) (c:=116) (f:=117) (ps:=["one","other"]) (by kernel_rfl) (by kernel_rfl) (by kernel_rfl) (by kernel_rfl) (uw λ_ _=>rfl))
  (cc X G (x:="_law_due") (m:=Κ) (st:=gY) (t:=277) (c:=150) (f:=151) (ps:=["row"]) (by kernel_rfl) (by kernel_rfl) (by kernel_rfl) (by kernel_rfl) (gh λ_=>rfl))
  (cc X G (x:="_law_by_sets") (m:=Κ) (st:=c9) (t:=277) (c:=155) (f:=156) (ps:=["row"]) (by kernel_rfl) (by kernel_rfl) (by kernel_rfl) (by kernel_rfl) (gh λ_=>rfl))⟩
end o8
abbrev PySem.W.Fast.tw15802590915484278004:PySem.Program:=PySem.Challenge.pw_archrow_k09_points_always_tied
def PySem.W.Fast.te15802590915484278004:PySem.Challenge.pw_archrow_k09_points_always_tied=PySem.W.Fast.tw15802590915484278004:=rfl
open PySem PySem.W PyProof.Rows
set_option maxRecDepth 100000 in
set_option maxHeartbeats 0 in
theorem PySem.Challenge.cw_archrow_k09_points_always_tied_holds : PySem.Challenge.rw_archrow_k09_points_always_tied.Holds := by
 w_on;o_law
 refine holds_open (q:=o8.view) (loose:=[]) (Xt:=λs=>xlAt o8.view [] s&&recOk (RowW.records PySem.Challenge.rw_archrow_k09_points_always_tied.row.toRowW) s) (XP:=XL o8.view []) (Yf:=o8.HK.obs) (Ya:=o8.HK.val) (YP:=λw h=>(o8.KK w.params).In h) (N:=1606) o8.left o8.HK.of o8.HK.keeps (λs e=>xl_of s (acE.mp e).1) XL.keeps (by rfl) (by rfl) (by rfl) (λs e=>recFacts_of (acE.mp e).2) (by rfl) (by first|assumption|decide +kernel) (by decide +kernel) {rfl,rfl,rfl,rfl,rfl,by decide +kernel} ?hw ?hc
 (case hw=>w_witness2)
 case hc =>
  exact L2.Fz (l:=PySem.Challenge.rw_archrow_k09_points_always_tied) (K:=o8.KK) (n:=63) (k:=45) (x:="script") (CX:=λ_=>L2.cg) (sp:=λw=>o8.BX (o8.KK w.params)) rfl (by decide) rfl {rfl,by decide,by decide} (λw h Y=>Y) o8.all_mk (λ_ _ a ns hl _ hS=>{a,ns,rfl,hS,hl,λ_=>rfl}) λ_ _ _ _ _ z=>z
#print axioms PySem.Challenge.cw_archrow_k09_points_always_tied_holds
