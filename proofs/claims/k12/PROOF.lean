import PyProof.Rows.All
import Wide.All
import OpenK.AllK
import Wide.FinOn
import Lean
import PySem.Challenge.RW_archrow_k12_whole_the_most
set_option Elab.async false
set_option linter.all false
set_option maxRecDepth 100000
open Option renaming some->ν,none->ξ
open Bool renaming true->ζ,false->η
open PySem renaming Addr->θ,model->Ψ
open PySem.W renaming Frag->Ξ,mg_none_of->Ω
open PySem.Value renaming ref->Φ
open PySem.F renaming plain_min_loop->δ
theorem χ {c:Prop}{h:Decidable c}(w:c){α:Sort _}{t e:α}:(if c then t else e)=t:=if_pos w
theorem ω {c:Prop}{h:Decidable c}(w:¬c){α:Sort _}{t e:α}:(if c then t else e)=e:=if_neg w
theorem Γ {p:Prop}[h:Decidable p](w:p):decide p=Bool.true:=decide_eq_true w
theorem Δ {p:Prop}[h:Decidable p](w:¬p):decide p=Bool.false:=decide_eq_false w
open PySem.W renaming kia_one->ε,kia_tup->ς,keepIn->υ,kitOne->Α,kitAny->Β,fnOf->Ε
open PySem.F renaming plainAttrs_list->Ζ
theorem Ι {a b:Sort _}{x y:a}(f:a->b)(h:x=y):f x=f y:=congrArg f h
def Η {a:Prop}{b:Sort _}(x:a)(y:¬a):b:=absurd x y
local macro_rules
 |`({$x:term})=>`(⟨$x⟩)
 |`({$x:term,$y:term,*})=>`(⟨$x,$y,*⟩)
theorem tv:True:=.intro
set_option maxHeartbeats 4000000
set_option compiler.extract_closed false
open List renaming length_map->ZU,mem_singleton->ZY,mem_cons->Z1,mem_map->Z2,getElem?_eq_getElem->Z4,mem_cons_self->Z7,mem_append->Z9,range->Z_,length_cons->aaa,mem_cons_of_mem->aac,mem_filter->aae,getElem?_eq_some_iff->aaf,length_append->aag,getElem?_map->aah,map_append->aaj,map_cons->aap,size_toArray->aas,pairwise_map->aat,length_take->aaw,mem_range->aax,nodup_cons->aaA,mem_append_right->aaB,length_range->aaD,mem_of_getElem?->aaF,map_map->aaK,pairwise_cons->aaM,map_congr_left->aaN,mem_append_left->aaP,filter_cons->aaS,nodup_append->aaY,drop_eq_getElem_cons->aaZ,nodup_nil->aa0,filterMap_cons->aa1,append_assoc->aa3,getElem?_append_right->aa4,mem_flatMap->aa6,take_of_length_le->aa8,append_nil->aa9,take_add_one->aba,mem_of_mem_take->abf,lookup_cons->abk,getElem?_append_left->abl,length_singleton->abo,length_filter_le->abp,getElem?_eq_none->abq,find?_cons->abt,filter_append->abu,take_length->abx,getD_eq_getElem?_getD->aby,mem_map_of_mem->abz,take_append_drop->abC,getElem?_range->abI,getElem_mem->abO,all_eq_true->abP,length_reverse->abU,zip_cons_cons->abZ,filter_eq_nil_iff->ab0,foldl_cons->ab3,map_take->ab7,ext_getElem?->ab_,replicate->acf,getElem?_of_mem->acg,length_drop->ack,cons_append->acm,pairwise_iff_getElem->aco,filter_sublist->acq,sum_cons->acv,getElem?_take_of_lt->acw,range_succ->acC,length_nil->acD,pairwise_singleton->acF,getElem?_cons_succ->acG,take_sublist->acL,pairwise_lt_range->acM,getElem?_set->acN,flatMap_cons->acO,map_drop->acW,pairwise_append->acZ,reverse_append->ac3,flatMap_append->ac4,filter_eq_self->ac5,perm_ext_iff_of_nodup->ac_,mem_filterMap->ada,getElem?_drop->adb,findSome?_eq_none_iff->ade,find?_eq_none->adf,extract_eq_take_drop->adh,zip_nil_left->adt,reverse_cons->adu,perm_middle->adG
open PySem renaming wpAny_bind->ZV,Value->ZW,Shared->ZZ,wpAny_pure->Z0,Program->Z6,sizeLine->aak,World->aam,starEach->aao,wpAny->aau,FuncData->aaI,foldedSetIterable->aaO,compareOp->aaR,sizeLine_eq->aaT,Around->aaX,wpAny_holding->aa2,hashInt->abc,wpAny_newObj_type->abe,bootBuiltins->abi,wpAny_setState_of->abn,wpAny_call_entry->abv,wpAny_standAt->abE,wpAny_truthy_bool->abG,backTo->abK,cLine->abQ,mainGlobals->abR,sliceBounds->abV,codeAny_mono->abW,assignEach->abX,Builtin->ab1,wpAny_passesOwn->ab2,swapsWith->ab4,behindInMarks->ab5,attributeBase->ab6,wpAny_rule->acb,binaryOp->acd,Scope->acn,Comprehension->acx,wpAny_loadPart'->acz,intKind->acA,CmpOp->acQ,sysModules->acR,Keyword->acX,NameKind->acY,codeAny_builtin->ac1,wpAny_mono->ac7,wpAny_Call_Name_kw->ac8,wpAny_storeSet_of->adl,standAt->adm,slot_list_getitem->adn,keywordEach->ado,codeAny->adp,wpAny_getItem_list_slice->adw,wpAny_forIn_list->adC,wpAny_callSpecial?_slot->adD,wpAny_askSetting->adE,tupleKind->adF
open Nat renaming le_refl->ZX,zero_le->aab,lt_of_lt_of_le->aaG,le_trans->aaH,ne_of_lt->aaL,lt_or_ge->aa5,zero_add->abj,lt_irrefl->abN,pow_le_pow_right->abT,lt_of_le_of_lt->abY,lt_succ_self->acj,lt_succ_of_lt->acK,mod_lt->acU,mod_eq_of_lt->acV,min_le_left->ac2,sub_self->ac6,one_mul->ads
open PySem.Heap renaming get?_push_of_some->Z3,lt_size->aaq,get?_push_size->aay,SameBut->abL
open Array renaming length_toList->Z5,getElem?_toList->aan,getD_eq_getD_getElem?->aar,toList_append->abm,toList_push->abH,getElem?_eq_none->abM,perm_iff_toList_perm->aci,size_setIfInBounds->adB
open PyProof.Rows renaming Keyed->Z8,wpS_bind->aad,wpS_pure->aal,pendingOf->aav,SortSt->aaE,arrOf->aaJ,wpS_forRange->aa7,setArr->abd,IntsAre->abA,wpS_mono->abF,seqObj->abJ,callWith_type1->ab8,wpS_modify->aca,SortKind->acs,failedOf->acI,slot_tuple_getitem->acP,setPending->acS,wpS_get->adk
open Option renaming map_eq_some_iff->aai,bind_eq_some_iff->abw,bind_some->acT
open Decidable renaming by_contra->aaz
open Option.some renaming inj->aaC
open Bool renaming and_eq_true->aaQ,false_ne_true->abg,eq_iff_iff->acE,and_eq_true_iff->ac0,not_eq_false'->adg,not_eq_true'->adv
open PySem.PassesOwn renaming never->aaU
open PySem.SeqAt renaming canLay_of_shaped->aaV
open PySem.NameKind renaming free->aaW,cell->acu
open PySem.PyData renaming eqv->aa_,depthAll->abh,canLay0->abr,canLayAll0->ab9,depth->acJ,eqvAll->adx
open Int renaming toNat_natCast->abb
open Classical renaming byContradiction->abB
open List.Pairwise renaming and_mem->abD
open PySem.Value renaming isInt->abS,isInt_shape->adq
open PySem.Obj renaming mapSeq->ace,putSet->ac9
open False renaming elim->ach
open PySem.Builtin.Slice renaming slicePlaces->acp,sliceAdjust->adj
open PySem.Heap.SameBut renaming update->acr
open PySem.Builtin.Tuple renaming tupleExact->acy
open Ne renaming symm->acB
open PySem.Builtin.Range renaming rangeSize->acH
open PySem.Calls renaming call_function_entry->adi
open Int.ofNat renaming inj->ady
open PySem.Code renaming compLoop->adz
open PySem.Builtin.List renaming listTooLong->adA
noncomputable section
namespace L2
open PySem PySem.Spec PyProof.Rows
def oQ (s:Stmt):Arguments:=match s with
 |.FunctionDef _ a _ _ _ _ _ _ _ _=>a
 |_=>{posonlyargs:=[],args:=[],vararg:=ξ,kwonlyargs:=[],kw_defaults:=[],kwarg:=ξ,defaults:=[]}
def gw (s:Stmt):List Stmt:=match s with
 |.FunctionDef _ _ b _ _ _ _ _ _ _=>b
 |_=>[]
def aw (s:Stmt):acn:=match s with
 |.FunctionDef _ _ _ _ _ _ sc _ _ _=>sc
 |_=>{kind:=.function,names:=[],isGenerator:=η,isCoroutine:=η}
abbrev Key:=Sum Int Str
def sM:Key->ZW->Bool
 |.inl k,v=>abS k v
 |.inr x,v=>Value.isStrOf x v
def TX (w:aam):Key->Int
 |.inl k=>abc k
 |.inr x=>hashStr w x
theorem bN:∀{k:Key} {v:ZW},sM k v=ζ->(∃i t,k=Sum.inl i/\v=Value.int i t)\/(∃x t,k=Sum.inr x/\v=Value.str x t)
 |.inl i,v,h=>by
  obtain⟨t,e⟩:=adq (k:=i) (v:=v) h;exact .inl {(i),t,rfl,e}
 |.inr x,v,h=>by
  obtain⟨t,e⟩:=Value.isStrOf_shape (x:=x) (v:=v) h;exact .inr {(x),t,rfl,e}
def Bw (i:Int)(t:Tok):sM (.inl i) (.int i t)=ζ:=by simp[sM,abS]
def Bv (x:Str)(t:Tok):sM (.inr x) (.str x t)=ζ:=by simp[sM,Value.isStrOf]
def Mk (a b:Int):decide ((Sum.inl a:Key)=Sum.inl b)=(a==b):=by
 by_cases e:a=b
 ·subst e;simp
 ·have h:¬ (Sum.inl a:Key)=Sum.inl b:=λq=>e (Sum.inl.inj q);rw[Δ h];exact(beq_eq_false_iff_ne.mpr e).symm
def Mf (a b:Str):decide ((Sum.inr a:Key)=Sum.inr b)=decide (a=b):=by
 by_cases e:a=b
 ·subst e;simp
 ·have h:¬ (Sum.inr a:Key)=Sum.inr b:=λq=>e (Sum.inr.inj q);rw[Δ h,Δ e]
def Mj (a:Int)(b:Str):decide ((Sum.inl a:Key)=Sum.inr b)=η:=Δ (λq=>nomatch q)
def Mi (a:Str)(b:Int):decide ((Sum.inr a:Key)=Sum.inl b)=η:=Δ (λq=>nomatch q)
def cS (prog:Z6)(w:aam):PySem.KeyKind prog w Key where
 is:=sM
 hash:=TX w
 inj:=λv a b ha hb=>by
  rcases bN ha with⟨i,t,rfl,rfl⟩|⟨x,t,rfl,rfl⟩
  ·rcases bN hb with⟨j,u,rfl,e⟩|⟨y,u,rfl,e⟩
   ·injection e with e1 _;rw[e1]
   ·exact nomatch e
  ·rcases bN hb with⟨j,u,rfl,e⟩|⟨y,u,rfl,e⟩
   ·exact nomatch e
   ·injection e with e1 _;rw[e1]
 byValue:=λk v h=>by
  rcases bN h with⟨i,t,rfl,rfl⟩|⟨x,t,rfl,rfl⟩ <;> rfl
 pyHash:=λhv h=>by
  rcases bN hv with⟨i,t,rfl,rfl⟩|⟨x,t,rfl,rfl⟩
  ·exact wpAny_pyHash_int h
  ·exact wpAny_pyHash_str h
 eqBool:=λhu hv h=>by
  rcases bN hu with⟨i,t,rfl,rfl⟩|⟨x,t,rfl,rfl⟩
  ·rcases bN hv with⟨j,u,rfl,rfl⟩|⟨y,u,rfl,rfl⟩
   ·rw[Mk]at h;exact wpAny_eqBool_int h
   ·rw[Mj]at h;exact SeqAt.EqAt.int_str i t y u _ _ _ _ h
  ·rcases bN hv with⟨j,u,rfl,rfl⟩|⟨y,u,rfl,rfl⟩
   ·rw[Mi]at h;exact SeqAt.EqAt.str_int x t j u _ _ _ _ h
   ·rw[Mf]at h;exact wpAny_eqBool_str h
 «strs»:=λk x t v h=>by
  rcases bN h with⟨i,u,rfl,e⟩|⟨y,u,rfl,e⟩
  ·exact nomatch e
  ·injection e with e1 _
   subst e1;cases v <;> rfl
def vD (prog:Z6)(w:aam)(i:Int)(t:Tok):(cS prog w).is (.inl i) (.int i t)=ζ:=Bw i t
def vC (prog:Z6)(w:aam)(x:Str)(t:Tok):(cS prog w).is (.inr x) (.str x t)=ζ:=Bv x t
inductive V where
 |cN|bl (b:Bool)|int (i:Int)|str (x:Str)|F2 (b:Array UInt8)|Vh (b:UInt64)|ref (a:θ)|ty (n:String)
 deriving DecidableEq
def RelV:V->ZW->Prop
 |.cN,u=>u=Value.none
 |.bl b,u=>u=Value.bool b
 |.int i,u=>∃t,u=Value.int i t
 |.str x,u=>∃t,u=Value.str x t
 |.F2 b,u=>∃t,u=Value.bytes b t
 |.Vh b,u=>∃t,u=Value.float b t
 |.ref a,u=>u=Φ a
 |.ty n,u=>u=Value.type n
abbrev Vals:List V->List ZW->Prop:=Paired RelV
def Vals.length {xs:List V}{us:List ZW}(r:Vals xs us):xs.length=us.length:=Paired.length r
theorem Vals.get:∀{xs:List V} {us:List ZW} {i:Nat} {x:V},Vals xs us->xs[i]?=ν x->∃u,us[i]?=ν u/\RelV x u
 |_,_,_,_,.nil,e=>by simp at e
 |_,_,0,_,.cons r _,e=>by simp at e;subst e;exact{_,rfl,r}
 |_,_,i+1,x,.cons _ t,e=>by
  obtain⟨u,h1,h2⟩:=Vals.get (i:=i) (x:=x) t (by simpa using e)
  exact{u,by simpa using h1,h2}
theorem Vals.set {x:V}{u:ZW}(r:RelV x u):∀{xs:List V} {us:List ZW} (i:Nat),Vals xs us->Vals (xs.set i x) (us.set i u)
 |_,_,_,.nil=>.nil
 |_,_,0,.cons _ t=>.cons r t
 |_,_,i+1,.cons q t=>.cons q (Vals.set r i t)
theorem Vals.append:∀{xs ys:List V} {us ws:List ZW},Vals xs us->Vals ys ws->Vals (xs++ys) (us++ws)
 |_,_,_,_,.nil,s=>s
 |_,_,_,_,.cons r t,s=>.cons r (Vals.append t s)
theorem Vals.take:∀{xs:List V} {us:List ZW} (n:Nat),Vals xs us->Vals (xs.take n) (us.take n)
 |_,_,0,_=>.nil
 |_,_,_+1,.nil=>.nil
 |_,_,n+1,.cons r t=>.cons r (Vals.take n t)
theorem Vals.drop:∀{xs:List V} {us:List ZW} (n:Nat),Vals xs us->Vals (xs.drop n) (us.drop n)
 |_,_,0,r=>r
 |_,_,_+1,.nil=>.nil
 |_,_,n+1,.cons _ t=>Vals.drop n t
def rO:Option V->Option ZW->Prop
 |some v,ν u=>RelV v u
 |none,ξ=>True
 |_,_=>False
def KV {κ:Type}:List (κ×V)->List (κ×ZW)->Prop:=Paired λ(p:κ×V) (q:κ×ZW)=>p.1=q.1/\RelV p.2 q.2
def kV:Key->V
 |.inl i=>.int i
 |.inr x=>.str x
inductive HO where
 |lst (xs:List V)
 |tup (xs:List V)
 |dK (kvs:List (Key×V))|dT (kvs:List (List Key×V))
 |set (S:Int->Bool) (n:Nat)
 |ins (C dx:θ) (fs:List (Str×V))
 |own (x:θ)
 |xd (fs:List (Str×V))
 |met (f x:θ)
 |S8 (lo hi:Int)
 |Gv (o:Obj) (u:HO)
 |KQ (ps:Array ZW)
 |ext (φ:Heap->Prop)
abbrev Hp:=θ->Option HO
def upd (H:Hp)(a:θ)(o:HO):Hp:=λb=>if b=a then ν o else H b
def ar {H:Hp}{a:θ}{o:HO}:upd H a o a=ν o:=by unfold upd;rw[χ rfl]
def aD {H:Hp}{a b:θ}{o:HO}(h:b≠a):upd H a o b=H b:=by unfold upd;rw[ω h]
def JF {H:Hp}{a b:θ}{o u:HO}(h:H a=ν o)(h':H b=ν u)(d:o≠u):a≠b:=by
 intro e;subst e;rw[h]at h';exact d (aaC h')
def dk {H:Hp}{a b:θ}{o:HO}(h:H a=ν o)(h':H b=ξ):a≠b:=by
 intro e;subst e;rw[h]at h';cases h'
section
variable (P:Z6)(w:aam)
def cn (H:Hp)(h:Heap)(a:θ):HO->Prop
 |.lst xs=>xs.length<=aak/\∃(its:List ZW) (n:Nat),Vals xs its/\h.get? a=ν {cls:=.type "list",data:=.seq its.toArray n}
 |.tup xs=>xs.length<=aak/\∃its:List ZW,Vals xs its/\IsTup h a its.toArray
 |.dK kvs=>kvs.length<=aak/\(a==acR)=η/\∃vs,KV kvs vs/\h.DictOf (cS P w) a vs
 |.dT kvs=>kvs.length<=aak/\(a==acR)=η/\∃xs:List (List Key×θ×ZW),
   Paired (λ(p:List Key×V) (q:List Key×θ×ZW)=>p.1=q.1/\H q.2.1=ν (.tup (p.1.map kV))/\RelV p.2 q.2.2) kvs xs /\
   ∃o es ep,h.get? a=ν o/\o.ExactDict/\o.data=.dict es ep/\es.toList=xs.map (entryOfKey (adF (cS P w)))/\(xs.map (·.1)).Nodup
 |.set S n=>h.SetOf (acA P w) a S n
 |.ins C dx fs=>H dx=ν (.own a)/\fs.length<=1000/\dx≠a/\h.get? a=ν (PySem.W.instObj C dx) /\
   ∃mA,h.Ns1 dx mA/\(∀f,rO (fs.lookup f) (mA f))/\PySem.Within mA (fs.map (·.1))
 |.own _=>∃o,h.get? a=ν o
 |.xd fs=>∃mA,h.Ns1 a mA/\∀f,rO (fs.lookup f) (mA f)
 |.S8 lo hi=>∃t u v,h.get? a=ν {cls:=.type "range",data:=.fields #[.int lo t,.int hi u,.int 1 v]}
 |.Gv o u=>h.get? a=ν o/\cn H h a u
 |.KQ ps=>h.get? a=ν {cls:=.none,data:=.fields ps}
 |.met f x=>h.get? a=ν (PySem.W.methodObj (.ref f) (.ref x))
 |.ext φ=>φ h/\(∃o,h.get? a=ν o)/\∀h1 h2:Heap,φ h1->(∀o,h1.get? a=ν o->h2.get? a=ν o)->φ h2
def kZ (H:Hp)(h:Heap):Prop:=∀a o,H a=ν o->cn P w H h a o
end
section
variable {P:Z6}{w:aam}{H H':Hp}{h h':Heap}{a:θ}{o:HO}
def cn.lt (x:cn P w H h a o):a<h.objs.size:=by
 cases o with
 |lst xs=>obtain⟨_,_,_,_,e⟩:=x;exact aaq e
 |tup xs=>obtain⟨_,_,_,p⟩:=x;exact p.lt
 |dK kvs=>obtain⟨_,_,_,_,o,_,_,e,_⟩:=x;exact aaq e
 |dT kvs=>obtain⟨_,_,_,_,o,_,_,e,_⟩:=x;exact aaq e
 |set S n=>obtain⟨o,_,_,_,e,_⟩:=x;exact aaq e
 |ins C dx fs=>obtain⟨_,_,_,e,_⟩:=x;exact aaq e
 |own y=>obtain⟨_,e⟩:=x;exact aaq e
 |xd fs=>obtain⟨_,⟨_,_,_,e,_⟩,_⟩:=x;exact aaq e
 |S8 lo hi=>obtain⟨_,_,_,e⟩:=x;exact aaq e
 |Gv ob u=>obtain⟨e,_⟩:=x;exact aaq e
 |KQ ps=>exact aaq (show h.get? a=ν _ from x)
 |met f y=>exact aaq (show h.get? a=ν _ from x)
 |ext φ=>obtain⟨_,⟨_,e⟩,_⟩:=x;exact aaq e
theorem Paired.L6 {α β:Type}{F G:α->β->Prop}:∀{l₁:List α} {l₂:List β},Paired F l₁ l₂->(∀a b,F a b->G a b)->Paired G l₁ l₂
 |_,_,.nil,_=>.nil
 |_,_,.cons r t,f=>.cons (f _ _ r) (Paired.L6 t f)
def cn.AQ (x:cn P w H h a o)(k:∀b u,(b=a\/H b=ν (.own a))->h.get? b=ν u->h'.get? b=ν u)
  (ho:∀b,H b=ν (.own a)->H' b=ν (.own a)) (ht:∀b xs,H b=ν (.tup xs)->H' b=ν (.tup xs)):cn P w H' h' a o:=by
 induction o with
 |lst xs=>obtain⟨z,its,n,r,e⟩:=x;exact{z,its,n,r,k _ _ (.inl rfl) e}
 |tup xs=>obtain⟨z,its,r,ob,e,c⟩:=x;exact{z,its,r,ob,k _ _ (.inl rfl) e,c}
 |dK kvs=>obtain⟨z,y,vs,r,ob,es,ep,e,c⟩:=x;exact{z,y,vs,r,ob,es,ep,k _ _ (.inl rfl) e,c}
 |dT kvs =>
  obtain⟨z,y,xs,r,ob,es,ep,e,c⟩:=x;exact{z,y,xs,Paired.L6 r λp q z=>{z.1,ht _ _ z.2.1,z.2.2},ob,es,ep,k _ _ (.inl rfl) e,c}
 |set S n=>obtain⟨ob,es,ep,t,e,c⟩:=x;exact{ob,es,ep,t,k _ _ (.inl rfl) e,c}
 |ins C dx fs =>
  obtain⟨d,z,ne,e,mA,⟨od,es,ep,e2,c⟩,r⟩:=x;exact{ho _ d,z,ne,k _ _ (.inl rfl) e,mA,{od,es,ep,k _ _ (.inr d) e2,c},r}
 |own y=>obtain⟨ob,e⟩:=x;exact{ob,k _ _ (.inl rfl) e}
 |xd fs=>obtain⟨mA,⟨od,es,ep,e,c⟩,r⟩:=x;exact{mA,{od,es,ep,k _ _ (.inl rfl) e,c},r}
 |S8 lo hi=>obtain⟨t,u,v,e⟩:=x;exact{t,u,v,k _ _ (.inl rfl) e}
 |Gv ob u ih=>obtain⟨e,q⟩:=x;exact{k _ _ (.inl rfl) e,ih q}
 |KQ ps =>
  have e:h.get? a=ν {cls:=.none,data:=.fields ps}:=x;show h'.get? a=ν {cls:=.none,data:=.fields ps};exact k a _ (.inl rfl) e
 |met f y =>
  have e:h.get? a=ν (PySem.W.methodObj (.ref f) (.ref y)):=x;show h'.get? a=ν (PySem.W.methodObj (.ref f) (.ref y));exact k a _ (.inl rfl) e
 |ext φ=>obtain⟨p,⟨o,e⟩,st⟩:=x;exact{st _ _ p λo q=>k _ _ (.inl rfl) q,{o,k _ _ (.inl rfl) e},st}
def kZ.lt (x:kZ P w H h)(e:H a=ν o):a<h.objs.size:=(x a o e).lt
def kZ.fresh (x:kZ P w H h)(e:h.objs.size<=a):H a=ξ:=by
 cases q:H a with
 |none=>rfl
 |some u=>exact Η (aaG (x.lt q) e) (abN _)
def kZ.kept (x:kZ P w H h)(k:∀b u,h.get? b=ν u->h'.get? b=ν u):kZ P w H h':=λa o e =>
 (x a o e).AQ (λb u _ q=>k b u q) (λ_ q=>q) λ_ _ q=>q
def kZ.laid (x:kZ P w H h)(k:∀b u,h.get? b=ν u->h'.get? b=ν u)(hp:h.objs.size<=a)(new:cn P w (upd H a o) h' a o):kZ P w (upd H a o) h':=λb u e=>by
 have hn:=x.fresh hp
 by_cases hb:b=a
 ·subst hb;rw[ar]at e;cases e;exact new
 ·rw[aD hb]at e;exact(x b u e).AQ (λc v _ q=>k c v q) (λc q=>by rw[aD (dk q hn)];exact q) λc xs q=>by rw[aD (dk q hn)];exact q
end
def Rd (H:Hp)(a:θ)(u:HO):Prop:=H a=ν u\/∃o,H a=ν (.Gv o u)
def Rd.ok {P:Z6}{w:aam}{H:Hp}{h:Heap}{a:θ}{u:HO}(r:Rd H a u)(x:kZ P w H h):cn P w H h a u:=by
 rcases r with r|⟨o,r⟩
 ·exact x a u r
 ·obtain⟨_,q⟩:=x a _ r;exact q
def Rj:Option HO->Prop
 |some (.lst _)=>True
 |some (.dK _)=>True
 |some (.dT _)=>True
 |some (.set _ _)=>True
 |some (.ins _ _ _)=>True
 |some (.ext _)=>True
 |_=>False
section
variable {P:Z6}{w:aam}{H:Hp}{h h':Heap}{x e:θ}{o':HO}
def kZ.write (ok:kZ P w H h)(mu:Rj (H x))(he:e=x\/H e=ν (.own x))(k:∀b u,b≠e->h.get? b=ν u->h'.get? b=ν u)(ND:∃u,h'.get? e=ν u)
  (new:cn P w (upd H x o') h' x o'):kZ P w (upd H x o') h':=λb u q=>by
 have OP:∀c y,H c=ν (.own y)->c≠x:=λc y r z=>by subst z;rw[r]at mu;exact mu
 have TB:∀c xs,H c=ν (.tup xs)->c≠x:=λc xs r z=>by subst z;rw[r]at mu;exact mu
 by_cases hb:b=x
 ·subst hb;rw[ar]at q;cases q;exact new
 ·rw[aD hb]at q
  by_cases MS:b=e
  ·have q':H b=ν (.own x):=by
    rcases he with z|z
    ·exact Η (MS.trans z) hb
    ·rw[MS];exact z
   rw[q]at q';cases q';obtain⟨v,hv⟩:=ND;exact{v,by rw[MS];exact hv}
  ·refine(ok b u q).AQ (λc v hc r=>k c v ?_ r) (λc r=>by rw[aD (OP c b r)];exact r) λc xs r=>by rw[aD (TB c xs r)];exact r
   rcases hc with rfl|hc
   ·exact MS
   ·rintro rfl;rcases he with z|z
    ·exact OP c b hc z
    ·rw[hc]at z;cases z;exact hb rfl
end
structure Un (fs ex:List θ)(H H':Hp)(h h':Heap):Prop where
 keep:∀b o,h.get? b=ν o->H b=ξ->b∉fs->b∉ex->h'.get? b=ν o
 slot:∀b o,h.get? b=ν o->H b=ξ->b∈fs->b∉ex->∃sl,h'.get? b=ν {o with slots:=sl}
 free:∀b o,h.get? b=ν o->H b=ξ->b∉ex->H' b=ξ
 there:∀b o,h.get? b=ν o->b∉ex->∃o',h'.get? b=ν o'
 tK:∀b xs,H b=ν (.tup xs)->H' b=ν (.tup xs)
 rF:∀b o u,H b=ν (.Gv o u)->H' b=ν (.Gv o u)
 tO:∀b ps,H b=ν (.KQ ps)->∃more,H' b=ν (.KQ (ps++more))
section
variable {fs ex:List θ}{H H1:Hp}{h h1 h':Heap}{a x e:θ}{o:HO}
def Un.any (u:Un fs ex H H1 h h1){b:θ}{ob:Obj}(q:h.get? b=ν ob)(n:H b=ξ)(hx:b∉ex):∃sl,h1.get? b=ν {ob with slots:=sl}:=by
 by_cases hb:b∈fs
 ·exact u.slot b ob q n hb hx
 ·exact{ob.slots,u.keep b ob q n hb hx}
def Un.kept (k:∀b u,h.get? b=ν u->h'.get? b=ν u):Un fs ex H H h h' :=
 {λb ob q _ _ _=>k b ob q,λb ob q _ _ _=>{ob.slots,k b ob q},λ_ _ _ n _=>n,λb ob q _=>{ob,k b ob q},λ_ _ q=>q,λ_ _ _ q=>q,λ_ ps q=>{#[],by rw[q];simp}}
def Un.refl:Un fs ex H H h h:=Un.kept λ_ _ q=>q
def Un.laid (k:∀b u,h.get? b=ν u->h'.get? b=ν u)(hp:h.objs.size<=a)(hn:H a=ξ):Un fs ex H (upd H a o) h h' where
 keep:=λb u q _ _ _=>k b u q
 slot:=λb u q _ _ _=>{u.slots,k b u q}
 free:=λb u q n _=>by rw[aD (aaL (aaG (aaq q) hp))];exact n
 there:=λb u q _=>{u,k b u q}
 tK:=λb xs q=>by rw[aD (dk q hn)];exact q
 rF:=λb u xs q=>by rw[aD (dk q hn)];exact q
 tO:=λb ps q=>{#[],by rw[aD (dk q hn),q];simp}
def Un.write (mu:Rj (H x))(he:e=x\/H e=ν (.own x))(k:∀b u,b≠e->h.get? b=ν u->h'.get? b=ν u)(ND:∃u,h'.get? e=ν u):Un fs ex H (upd H x o) h h':=by
 have hx:∀b,H b=ξ->b≠x:=λb n z=>by subst z;rw[n]at mu;exact mu
 have hb:∀b,H b=ξ->b≠e:=λb n z=>by
  subst z;rcases he with r|r
  ·exact hx b n r
  ·rw[n]at r;cases r
 have hm:∀b u,H b=ν u->¬ Rj (ν u)->b≠x:=λb u q nm z=>by subst z;rw[q]at mu;exact nm mu
 refine⟨λb u q n _ _=>k b u (hb b n) q,λb u q n _ _=>{u.slots,k b u (hb b n) q},λb u q n _=>by rw[aD (hx b n)];exact n,λb u q _=>?_,
  λb xs q=>by rw[aD (hm b _ q λz=>z)];exact q,λb u xs q=>by rw[aD (hm b _ q λz=>z)];exact q,λb ps q=>{#[],by rw[aD (hm b _ q λz=>z),q];simp}⟩
 by_cases MS:b=e
 ·subst MS;exact ND
 ·exact{u,k b u MS q}
end
def Rt (h:Heap)(H:Hp):List θ:=(Z_ h.objs.size).filter λa=>(H a).isSome
def uv (h:Heap)(H:Hp):Heap:=PySem.W.hideAll h (Rt h H)
def BA (h:Heap)(H:Hp):(uv h H).objs.size=h.objs.size:=PySem.W.hideAll_size _ _
def Fb {h:Heap}{H:Hp}{b:θ}{o:Obj}(e:h.get? b=ν o)(n:H b=ξ):(uv h H).get? b=ν o :=
 PySem.W.hideAll_get _ e λhm=>by
  have q:(H b).isSome=ζ:=(aae.mp hm).2;rw[n]at q;simp at q
def HE {h:Heap}{H:Hp}{b:θ}{o:Obj}(e:(uv h H).get? b=ν o):h.get? b=ν o/\H b=ξ:=by
 have e':h.get? b=ν o:=PySem.W.of_hideAll (Rt h H) e;refine{e',?_};cases q:H b with
 |none=>rfl
 |some x =>
  have hm:b∈Rt h H:=aae.mpr {aax.mpr (aaq e'),by simp[q]}
  have z:(uv h H).get? b=ξ:=PySem.W.hideAll_none (Rt h H) hm;rw[z]at e;cases e
structure Mod (K:Ξ)(mg:Str->Option ZW)(base:Heap):Prop where
 TV:K.In base
 glob:base.Ns abR mg
 blt:∃mb,base.Ns builtinsNs mb/\∀x:Str,x≠"__name__" -> mb x=abi x
 nolimit:base.NoLimit
structure Cx where
 prog:Z6
 w:aam
 K:Ξ
 mg:Str->Option ZW
 base:Heap
 A:aaX
 N:List Str
 s₀:ZZ
 H₀:Hp
 env:Env
 outer:List Env
 stack:List Env
 ex:List θ
 fn:Str->Bool
 calm:Bool
 pn:List (θ×Obj)
 xe:ZW->ZZ->Prop
def Fi (l:List Env):List θ:=l.filterMap (·.frame)
abbrev Cx.fs (X:Cx):List θ:=Fi X.outer
def NU (sc:acn)(x:Str):Prop:=sc.names.lookup x=ν .local\/sc.names.lookup x=ν .cell\/sc.names.lookup x=ν .free
def Loc (sc:acn)(x:Str):Prop:=sc.names.lookup x=ν .local\/sc.names.lookup x=ν .cell
def Look (env:Env)(h:Heap)(m:Str->Option ZW)(x:Str)(u:ZW):Prop :=
 (env.kindOf x=ν .local/\m x=ν u)\/((env.kindOf x=ν .cell\/env.kindOf x=ν .free)/\∃c,env.cells.lookup x=ν c/\h.IsCell c (ν u))
structure Cx.Ok (X:Cx):Prop where
 mod:Mod X.K X.mg X.base
 kind:X.env.scope.kind=.function
 glob:X.env.globals=abR
 blt:X.env.builtins=builtinsNs
 above:X.s₀.heap.objs.size<=X.env.locals
 inj:∀x y c,X.env.cells.lookup x=ν c->X.env.cells.lookup y=ν c->x=y
 has:∀x,(X.env.kindOf x=ν .cell\/X.env.kindOf x=ν .free)->∃c,X.env.cells.lookup x=ν c
 Q8:∀x c,X.fn x=ζ->X.env.cells.lookup x=ν c->X.s₀.heap.objs.size<=c
 hd:X.calm=ζ->X.A.handled=ξ
 frames:X.A.frames=ν X.stack
 Rw:X.stack=X.outer\/(X.stack=X.env::X.outer/\X.env.frame=ν X.env.locals)
 Sa:∀b∈X.ex,b≠X.env.locals/\∀x c,X.env.cells.lookup x=ν c->c≠b
 bs:∀b o,X.base.get? b=ν o->X.s₀.heap.get? b=ν o/\X.H₀ b=ξ
 Kb:X.base.objs.size<=X.s₀.heap.objs.size
 El:∀b o,X.base.get? b=ν o->b∉X.ex
 Fw:∀b∈X.ex,b∉X.fs
 qi:X.s₀.heap.FunFrames X.base X.outer
 NJ:∀b∈X.fs,X.H₀ b=ξ
structure Inv (X:Cx)(μ:List (θ×Obj))(σ:List (Option V))(H:Hp)(s:ZZ):Prop where
 ok:X.Ok
 os:s.os=X.s₀.os
 bare:AllBare s.gens
 base:Un X.fs X.ex X.H₀ H X.s₀.heap s.heap
 loc:∃m,s.heap.Ns X.env.locals m/\∀(i:Nat) (x:Str) (v:V),X.N[i]?=ν x->σ[i]?=ν (ν v)->NU X.env.scope x->∃u,RelV v u/\Look X.env s.heap m x u
 cell:∀x c,X.env.cells.lookup x=ν c->∃v,s.heap.IsCell c v
 free:H X.env.locals=ξ
 j9:∀x c,X.env.cells.lookup x=ν c->H c=ξ
 pin:∀p∈X.pn++μ,s.heap.get? p.1=ν p.2/\H p.1=ξ/\p.1≠X.env.locals/\p.1∉X.fs/\∀v,p.2.data≠.cell v
 b9:kZ X.prog X.w H s.heap
 len:σ.length=X.N.length
section
variable {X:Cx}{μ:List (θ×Obj)}{σ:List (Option V)}{H H':Hp}{s:ZZ}{h':Heap}
def Cx.Ok.LW (ok:X.Ok){b:θ}{o:Obj}(e:X.base.get? b=ν o):b∉X.fs:=λhb=>by
 have:=(ok.qi.mem hb).1;rw[e]at this;cases this
def Inv.bs (I:Inv X μ σ H s):∀b o,X.base.get? b=ν o->s.heap.get? b=ν o/\H b=ξ:=λb o e =>
 {I.base.keep b o (I.ok.bs b o e).1 (I.ok.bs b o e).2 (I.ok.LW e) (I.ok.El b o e),I.base.free b o (I.ok.bs b o e).1 (I.ok.bs b o e).2 (I.ok.El b o e)}
def Inv.bk (I:Inv X μ σ H s):∀b o,X.base.get? b=ν o->s.heap.get? b=ν o:=λb o e=>(I.bs b o e).1
def Inv.mod (I:Inv X μ σ H s):Mod X.K X.mg X.base:=I.ok.mod
def Inv.Nv (I:Inv X μ σ H s):X.K.In s.heap:=I.ok.mod.TV.keeps I.bk
def Inv.lt (I:Inv X μ σ H s):X.env.locals<s.heap.objs.size:=let ⟨_,hn,_⟩:=I.loc;hn.lt
def Inv.sz (I:Inv X μ σ H s):X.s₀.heap.objs.size<=s.heap.objs.size:=aaH I.ok.above (Nat.le_of_lt I.lt)
def Inv.TC (I:Inv X μ σ H s){a:θ}(h:s.heap.objs.size<=a):a∉X.fs:=λhb=>by
 obtain⟨_,o,ho,_⟩:=I.ok.qi.mem hb;exact Η (aaG (aaq ho) (aaH I.sz h)) (abN _)
def Inv.M7 (I:Inv X μ σ H s):∀x c,X.env.cells.lookup x=ν c->c≠X.env.locals:=λx c e z=>by
 obtain⟨v,o,ho,hd⟩:=I.cell x c e;obtain⟨m,⟨o',es,ep,yw,YJ,_⟩,_⟩:=I.loc;rw[z,yw]at ho;cases ho;rw[YJ]at hd;cases hd
def Inv.qi (I:Inv X μ σ H s):s.heap.FunFrames X.base X.outer:=by
 have all:∀(l:List Env),(∀b∈Fi l,b∈X.fs)->X.s₀.heap.FunFrames X.base l->s.heap.FunFrames X.base l:=by
  intro l
  induction l with
  |nil=>intro _ _;trivial
  |cons env r ih =>
   intro hs hl;obtain⟨hk,⟨L,o,hf,hn,ho,hd⟩,hr⟩:=hl;have hL:L∈X.fs:=hs L (by unfold Fi;rw[aa1,hf];exact Z7)
   obtain⟨sl,e⟩:=I.base.slot L o ho (I.ok.NJ L hL) hL λz=>I.ok.Fw L z hL;exact{hk,{L,_,hf,hn,e,hd},ih (λb hb=>hs b (by unfold Fi;rw[aa1,hf];exact aac _ hb)) hr}
 exact all X.outer (λ_ hb=>hb) I.ok.qi
def Inv.stack (I:Inv X μ σ H s):s.heap.FunFrames X.base X.stack:=by
 rcases I.ok.Rw with e|⟨e,hf⟩
 ·rw[e];exact I.qi
 ·rw[e];obtain⟨m,hn,_⟩:=I.loc;refine .cons (by rw[I.ok.kind];decide) hf hn ?_ I.qi
  exact Heap.get?_none_of_le (aaH I.ok.Kb I.ok.above)
def Inv.xF (I:Inv X μ σ H s):∀b∈Fi X.stack,b∈X.env.locals::X.fs:=λb hb=>by
 rcases I.ok.Rw with e|⟨e,hf⟩
 ·rw[e]at hb;exact aac _ hb
 ·rw[e]at hb;unfold Fi at hb;rw[aa1,hf]at hb;exact hb
def Inv.y_ (I:Inv X μ σ H s):∀b∈Fi X.stack,H b=ξ:=λb hb=>by
 rcases Z1.mp (I.xF b hb)with e|hb
 ·rw[e];exact I.free
 ·obtain⟨_,o,ho,_⟩:=I.ok.qi.mem hb;exact I.base.free b o ho (I.ok.NJ b hb) λz=>I.ok.Fw b z hb
def Inv.step {g':Array GenState}{t':Nat}{d':Drawn}{ch:List θ}(I:Inv X μ σ H s)
  (v3:∀b∈ch,(b∈X.ex\/X.s₀.heap.objs.size<=b)/\b≠X.env.locals/\(∀x c,X.env.cells.lookup x=ν c->c≠b)/\∀p∈X.pn++μ,p.1≠b)
  (keep:∀b o,b≠X.env.locals->b∉X.fs->b∉ch->s.heap.get? b=ν o->H b=ξ->h'.get? b=ν o)
  (slot:∀b o,b≠X.env.locals->b∈X.fs->b∉ch->s.heap.get? b=ν o->H b=ξ->∃sl,h'.get? b=ν {o with slots:=sl}) (free:∀b o,b∉ch->s.heap.get? b=ν o->H b=ξ->H' b=ξ)
  (there:∀b o,b∉ch->s.heap.get? b=ν o->∃o',h'.get? b=ν o')
  (tK:∀b xs,H b=ν (.tup xs)->H' b=ν (.tup xs)) (rF:∀b o u,H b=ν (.Gv o u)->H' b=ν (.Gv o u)) (tO:∀b ps,H b=ν (.KQ ps)->∃more,H' b=ν (.KQ (ps++more)))
  (ns:∀m,s.heap.Ns X.env.locals m->h'.Ns X.env.locals m) (b9:kZ X.prog X.w H' h') (hg:AllBare g') :
  Inv X μ σ H' {s with heap:=h',gens:=g',drawn:=d',toks:=t'}:=by
 have We:∀b o,X.s₀.heap.get? b=ν o->b≠X.env.locals:=λb o e=>aaL (aaG (aaq e) I.ok.above);have RL:∀b o,X.s₀.heap.get? b=ν o->b∉X.ex->b∉ch:=λb o e hx hb=>by
  rcases (v3 b hb).1 with z|z
  ·exact hx z
  ·exact Η (aaG (aaq e) z) (abN _)
 have cellK:∀x c,X.env.cells.lookup x=ν c->∀v,s.heap.IsCell c v->h'.IsCell c v:=λx c e v rm=>by
  obtain⟨o,ho,hd⟩:=rm;have OV:c∉ch:=λz=>(v3 c z).2.2.1 x c e rfl
  by_cases hc:c∈X.fs
  ·obtain⟨sl,q⟩:=slot c o (I.M7 x c e) hc OV ho (I.j9 x c e);exact{_,q,hd}
  ·exact{o,keep c o (I.M7 x c e) hc OV ho (I.j9 x c e),hd}
 refine{I.ok,I.os,hg,{λb o e n hb hx=>?_,λb o e n hb hx=>?_,λb o e n hx=>?_,λb o e hx=>?_,λb xs e=>tK b xs (I.base.tK b xs e),λb o xs e=>rF b o xs (I.base.rF b o xs e),λb ps e=>?_},?_,λx c e=>?_,?_,λx c e=>?_,λp hp=>?_,b9,I.len}
 ·exact keep b o (We b o e) hb (RL b o e hx) (I.base.keep b o e n hb hx) (I.base.free b o e n hx)
 ·obtain⟨sl,e1⟩:=I.base.slot b o e n hb hx;obtain⟨K5,e2⟩:=slot b _ (We b o e) hb (RL b o e hx) e1 (I.base.free b o e n hx);exact{(K5),e2}
 ·obtain⟨o',e1⟩:=I.base.there b o e hx;exact free b o' (RL b o e hx) e1 (I.base.free b o e n hx)
 ·obtain⟨o',e1⟩:=I.base.there b o e hx;exact there b o' (RL b o e hx) e1
 ·obtain⟨m1,e1⟩:=I.base.tO b ps e;obtain⟨m2,e2⟩:=tO b _ e1;exact{m1++m2,by rw[e2,Array.append_assoc]}
 ·obtain⟨m,hn,hl⟩:=I.loc;refine{m,ns m hn,λi x v e1 e2 e3=>?_};obtain⟨u,r,l⟩:=hl i x v e1 e2 e3;refine{u,r,?_};rcases l with l|⟨k,c,e,z⟩
  ·exact .inl l
  ·exact .inr {k,c,e,cellK x c e _ z}
 ·obtain⟨v,z⟩:=I.cell x c e;exact{v,cellK x c e v z}
 ·obtain⟨m,⟨o,_,_,ho,_⟩,_⟩:=I.loc;exact free _ o (λz=>(v3 _ z).2.1 rfl) ho I.free
 ·obtain⟨v,o,ho,hd⟩:=I.cell x c e;exact free c o (λz=>(v3 c z).2.2.1 x c e rfl) ho (I.j9 x c e)
 ·obtain⟨e,n,ne,nf,d⟩:=I.pin p hp;have OV:p.1∉ch:=λz=>(v3 p.1 z).2.2.2 p hp rfl;exact{keep p.1 p.2 ne nf OV e n,free p.1 p.2 OV e n,ne,nf,d}
def Inv.un {t':Nat}(I:Inv X μ σ H s)(u:Un X.fs [] H H' s.heap h')(b9:kZ X.prog X.w H' h'):Inv X μ σ H' {s with heap:=h',toks:=t'}:=by
 obtain⟨m,⟨o,es,ep,ho,r⟩,_⟩:=id I.loc;obtain⟨sl,hL⟩:=u.any ho I.free (by simp)
 exact I.step (g':=s.gens) (d':=s.drawn) (ch:=[]) (λ_ z=>nomatch z) (λb o _ hb _ e n=>u.keep b o e n hb (by simp)) (λb o _ hb _ e n=>u.slot b o e n hb (by simp)) (λb o _ e n=>u.free b o e n (by simp)) (λb o _ e=>u.there b o e (by simp)) u.tK u.rF u.tO (λm' hm=>by
  obtain⟨o',fk,n_,yw,r'⟩:=hm;rw[ho]at yw;cases yw;exact{_,fk,n_,hL,r'}) b9 I.bare
def Inv.call {g':Array GenState}{t':Nat}{d':Drawn}{ch:List θ}(I:Inv X μ σ H s)(u:Un (Fi X.stack) ch H H' s.heap h')(b9:kZ X.prog X.w H' h')(hg:AllBare g')
  (v3:∀b∈ch,(b∈X.ex\/X.s₀.heap.objs.size<=b)/\b≠X.env.locals/\(∀x c,X.env.cells.lookup x=ν c->c≠b)/\∀p∈X.pn++μ,p.1≠b) :
  Inv X μ σ H' {s with heap:=h',gens:=g',drawn:=d',toks:=t'}:=by
 obtain⟨m,⟨o,es,ep,ho,r⟩,_⟩:=id I.loc;obtain⟨sl,hL⟩:=u.any ho I.free λz=>(v3 _ z).2.1 rfl;exact I.step (ch:=ch) v3 (λb o hL hb hc e n=>u.keep b o e n (λz=>(Z1.mp (I.xF b z)).elim hL hb) hc) (λb o _ _ hc e n=>u.any e n hc) (λb o hc e n=>u.free b o e n hc) (λb o hc e=>u.there b o e hc) u.tK u.rF u.tO (λm' hm=>by
  obtain⟨o',fk,n_,yw,r'⟩:=hm;rw[ho]at yw;cases yw;exact{_,fk,n_,hL,r'}) b9 hg
def Inv.turned {t':Nat}{it:θ}(I:Inv X μ σ H s)(k:∀b o,b≠it->s.heap.get? b=ν o->h'.get? b=ν o)(hn:H it=ξ)(hL:it≠X.env.locals)
  (h1:it∈X.ex\/X.s₀.heap.objs.size<=it) (h2:∀x c,X.env.cells.lookup x=ν c->c≠it) (h3:∀p∈X.pn++μ,p.1≠it):Inv X μ σ H {s with heap:=h',toks:=t'}:=by
 have Wd:∀b u,H b=ν u->b≠it:=λb u e z=>by rw[z,hn]at e;cases e
 refine I.step (g':=s.gens) (d':=s.drawn) (ch:=[it]) (λb hb=>?_) (λb o _ _ hc e _=>k b o (λz=>hc (by simp[z])) e) (λb o _ _ hc e _=>{o.slots,k b o (λz=>hc (by simp[z])) e}) (λ_ _ _ _ n=>n)
  (λb o hc e=>{o,k b o (λz=>hc (by simp[z])) e}) (λ_ _ e=>e) (λ_ _ _ e=>e) (λb ps e=>{#[],by rw[e];simp}) (λm hm=>?_) (λb u e=>?_) I.bare
 ·have e:b=it:=by simpa using hb
  subst e;exact{(h1),hL,h2,h3}
 ·obtain⟨o,es,ep,ho,r⟩:=hm;exact{o,es,ep,k _ o (acB hL) ho,r}
 ·refine(I.b9 b u e).AQ (λc v hc q=>k c v ?_ q) (λ_ q=>q) λ_ _ q=>q;rcases hc with z|z
  ·rw[z];exact Wd b u e
  ·exact Wd c _ z
def Inv.tok (I:Inv X μ σ H s)(t:Nat):Inv X μ σ H {s with toks:=t}:=I.un (h':=s.heap) (t':=t) Un.refl I.b9
def Inv.kept {t':Nat}(I:Inv X μ σ H s)(k:∀b u,s.heap.get? b=ν u->h'.get? b=ν u):Inv X μ σ H {s with heap:=h',toks:=t'}:=I.un (Un.kept k) (I.b9.kept k)
def Inv.laid {a:θ}{o:HO}{t':Nat}(I:Inv X μ σ H s)(k:∀b u,s.heap.get? b=ν u->h'.get? b=ν u)(hp:s.heap.objs.size<=a)(new:cn X.prog X.w (upd H a o) h' a o):
  Inv X μ σ (upd H a o) {s with heap:=h',toks:=t'}:=I.un (Un.laid k hp (I.b9.fresh hp)) (I.b9.laid k hp new)
def Inv.write {x e:θ}{o:HO}{t':Nat}(I:Inv X μ σ H s)(mu:Rj (H x))(he:e=x\/H e=ν (.own x))(k:∀b u,b≠e->s.heap.get? b=ν u->h'.get? b=ν u)(ND:∃u,h'.get? e=ν u)
  (new:cn X.prog X.w (upd H x o) h' x o):Inv X μ σ (upd H x o) {s with heap:=h',toks:=t'}:=I.un (Un.write mu he k ND) (I.b9.write mu he k ND new)
def Inv.zu {Jy:List (θ×Obj)}(I:Inv X μ σ H s)(h:∀p∈Jy,s.heap.get? p.1=ν p.2/\H p.1=ξ/\p.1≠X.env.locals/\p.1∉X.fs/\∀v,p.2.data≠.cell v):Inv X Jy σ H s :=
 {I.ok,I.os,I.bare,I.base,I.loc,I.cell,I.free,I.j9,λp hp=>(Z9.mp hp).elim (λz=>I.pin p (aaP _ z)) (h p),I.b9,I.len}
def vy {N:List Str}(hN:N.Nodup){i j:Nat}{x:Str}(a:N[i]?=ν x)(b:N[j]?=ν x):i=j:=by
 obtain⟨h1,e1⟩:=aaf.mp a;obtain⟨h2,e2⟩:=aaf.mp b;exact(List.getElem_inj hN).mp (e1.trans e2.symm)
def rX {M:Model}{A:aaX}{E:ZW->ZZ->Prop}{i:Nat}{x:Str}{v:V}{u:ZW}{Q:Unit->ZZ->Prop}(I:Inv X μ σ H s)(hN:X.N.Nodup)(hi:X.N[i]?=ν x)(hx:Loc X.env.scope x)(r:RelV v u)
  (h:∀s',Inv X μ (σ.set i (ν v)) H s'->(∃a,abL a s.heap s'.heap/\(a=X.env.locals\/X.env.cells.lookup x=ν a))->Q () s') (hf:X.fn x=ζ\/X.env.scope.names.lookup x=ν .local:=by first|exact .inl rfl|exact .inr rfl|assumption):aau M A (storeName X.env x u) Q E s:=by
 obtain⟨m,hn,hl⟩:=id I.loc;have U9:(X.env.scope.kind==.class || (X.env.scope.kind==.module&&X.env.locals != X.env.globals))=η:=by rw[I.ok.kind];rfl
 have QG:i<σ.length:=by rw[I.len];exact(aaf.mp hi).1
 have M7:=I.M7;have tracked:∀{a:θ} {h':Heap},(∃o,s.heap.get? a=ν o/\H a=ξ)->abL a s.heap h'->kZ X.prog X.w H h':=λ{a h'} ha hs b ob e=>by
  obtain⟨_,_,z8⟩:=ha;refine(I.b9 b ob e).AQ (λc w' hc q=>(hs.2 c ?_).trans q) (λ_ q=>q) λ_ _ q=>q;rintro rfl;rcases hc with rfl|hc
  ·rw[z8]at e;cases e
  ·rw[z8]at hc;cases hc
 rcases hx with hk|hk
 ·refine wpAny_storeName_local hk hn (λh' Im hs=>?_) U9;obtain⟨oL,_,_,Yr,_⟩:=id hn;refine h _ {I.ok,I.os,I.bare,{λb o e n hb hx=>?_,λb o e n hb hx=>?_,I.base.free,λb o e hx=>?_,I.base.tK,I.base.rF,I.base.tO},{_,Im,λj y v' e1 e2 e3=>?_},λy c e=>?_,I.free,I.j9,λp hp=>?_,tracked {(oL),Yr,I.free} hs,by simpa using I.len} {_,hs,.inl rfl}
  ·exact(hs.2 b (aaL (aaG (aaq e) I.ok.above))).trans (I.base.keep b o e n hb hx)
  ·obtain⟨sl,e1⟩:=I.base.slot b o e n hb hx;exact{sl,(hs.2 b (aaL (aaG (aaq e) I.ok.above))).trans e1}
  ·obtain⟨o',e1⟩:=I.base.there b o e hx;exact{o',(hs.2 b (aaL (aaG (aaq e) I.ok.above))).trans e1}
  ·by_cases hj:j=i
   ·subst hj;rw[hi]at e1;cases e1;rw[List.getElem?_set_self QG]at e2;cases e2;exact{u,r,.inl {hk,by simp}}
   ·rw[List.getElem?_set_ne (acB hj)]at e2;obtain⟨u',r',q⟩:=hl j y v' e1 e2 e3;refine{u',r',?_};rcases q with⟨k,e⟩|⟨k,c,e,z⟩
    ·refine .inl {k,?_};have:y≠x:=λe=>hj (vy hN e1 (e▸hi));simp[this,e]
    ·exact .inr {k,c,e,z.sameBut hs (M7 y c e)}
  ·obtain⟨w',z⟩:=I.cell y c e;exact{w',z.sameBut hs (M7 y c e)}
  ·obtain⟨e,n,ne,nf,d⟩:=I.pin p hp;exact{(hs.2 p.1 ne).trans e,n,ne,nf,d}
 ·have U7:X.fn x=ζ:=by
   rcases hf with z|z
   ·exact z
   ·rw[z]at hk;cases hk
  obtain⟨c,hc⟩:=I.ok.has x (.inl hk);obtain⟨w',z⟩:=I.cell x c hc;refine wpAny_storeName_cell I.ok.kind hk hc z (λh' sR hs=>?_);obtain⟨oc,MH,UL⟩:=id z;refine h {s with heap:=h'} {I.ok,I.os,I.bare,{λb o e n hb hx=>?_,λb o e n hb hx=>?_,I.base.free,λb o e hx=>?_,I.base.tK,I.base.rF,I.base.tO},{m,hn.sameBut hs (acB (M7 x c hc)),λj y v' e1 e2 e3=>?_},λy c' e=>?_,I.free,I.j9,λp hp=>?_,tracked {oc,MH,I.j9 x c hc} hs,by simpa using I.len} {c,hs,.inr hc}
  ·exact(hs.2 b (aaL (aaG (aaq e) (I.ok.Q8 x c U7 hc)))).trans (I.base.keep b o e n hb hx)
  ·obtain⟨sl,e1⟩:=I.base.slot b o e n hb hx;exact{sl,(hs.2 b (aaL (aaG (aaq e) (I.ok.Q8 x c U7 hc)))).trans e1}
  ·obtain⟨o',e1⟩:=I.base.there b o e hx;exact{o',(hs.2 b (aaL (aaG (aaq e) (I.ok.Q8 x c U7 hc)))).trans e1}
  ·by_cases hj:j=i
   ·subst hj;rw[hi]at e1;cases e1;rw[List.getElem?_set_self QG]at e2;cases e2;exact{u,r,.inr {.inl hk,c,hc,sR}}
   ·rw[List.getElem?_set_ne (acB hj)]at e2;obtain⟨u',r',q⟩:=hl j y v' e1 e2 e3;refine{u',r',?_};rcases q with q|⟨k,c',e,z'⟩
    ·exact .inl q
    ·refine .inr {k,c',e,z'.sameBut hs ?_};rintro rfl;exact hj (vy hN e1 (I.ok.inj _ _ _ e hc▸hi))
  ·by_cases WR:c'=c
   ·subst WR;exact{_,sR}
   ·obtain⟨w2,z2⟩:=I.cell y c' e;exact{w2,z2.sameBut hs WR}
  ·obtain⟨e,n,ne,nf,d⟩:=I.pin p hp;refine{(hs.2 p.1 ?_).trans e,n,ne,nf,d};intro q;rw[q,MH]at e;have q':oc=p.2:=aaC e;exact d w' (by rw[<- q'];exact UL)
def lr {M:Model}{A:aaX}{E:ZW->ZZ->Prop}{i:Nat}{x:Str}{v:V}{u:ZW}{Q:Unit->ZZ->Prop}(I:Inv X μ σ H s)(hN:X.N.Nodup)(hi:X.N[i]?=ν x)(hx:Loc X.env.scope x)(r:RelV v u)
  (h:∀s',Inv X μ (σ.set i (ν v)) H s'->Q () s') (hf:X.fn x=ζ\/X.env.scope.names.lookup x=ν .local:=by first|exact .inl rfl|exact .inr rfl|assumption):aau M A (storeName X.env x u) Q E s :=
 rX I hN hi hx r (λs' I' _=>h s' I') hf
def Inv.Q6 {s':ZZ}{ch:List θ}(I:Inv X μ σ H s)(ho:s'.os=s.os)(u:Un (Fi X.stack) ch H H' s.heap s'.heap)(b9:kZ X.prog X.w H' s'.heap)(hg:AllBare s'.gens)
  (v3:∀b∈ch,(b∈X.ex\/X.s₀.heap.objs.size<=b)/\b≠X.env.locals/\(∀x c,X.env.cells.lookup x=ν c->c≠b)/\∀p∈X.pn++μ,p.1≠b):Inv X μ σ H' s':=by
 obtain⟨h',g',d',t',o'⟩:=s';have e:o'=s.os:=ho;subst e;exact I.call (g':=g') (t':=t') (d':=d') u b9 hg v3
end
abbrev XK:=ZW->Option θ->Hp->Prop
abbrev St:=List (Option V)
abbrev VK:=V->Hp->Prop
abbrev TE:=St->Hp->VK->Prop
abbrev TT:=St->Hp->(Bool->Hp->Prop)->Prop
abbrev TA:=St->Hp->(List V->Hp->Prop)->Prop
structure Ends where
 nx:St->Hp->Prop
 rt:VK
 bk:St->Hp->Prop:=λ_ _=>False
 ct:St->Hp->Prop:=λ_ _=>False
abbrev TS:=Ends->St->Hp->Prop
def EP (X:Cx)(μ:List (θ×Obj))(σ:St)(Q:VK)(u:ZW)(s':ZZ):Prop:=∃v H',Inv X μ σ H' s'/\RelV v u/\Q v H'
def TP (X:Cx)(μ:List (θ×Obj))(σ:St)(Q:Bool->Hp->Prop)(b:Bool)(s':ZZ):Prop:=∃H',Inv X μ σ H' s'/\Q b H'
def AP (X:Cx)(μ:List (θ×Obj))(σ:St)(Q:List V->Hp->Prop)(us:List ZW)(s':ZZ):Prop:=∃vs H',Inv X μ σ H' s'/\Vals vs us/\Q vs H'
def SP (X:Cx)(μ:List (θ×Obj))(D:Ends)(f:Flow)(s':ZZ):Prop :=
 match f with
 |.next=>∃σ' H',Inv X μ σ' H' s'/\D.nx σ' H'
 |.brk=>∃σ' H',Inv X μ σ' H' s'/\D.bk σ' H'
 |.cont=>∃σ' H',Inv X μ σ' H' s'/\D.ct σ' H'
 |.ret u=>∃v σ' H',Inv X μ σ' H' s'/\RelV v u/\D.rt v H'
def PE (X:Cx)(e:Expr)(t:TE):Prop :=
 ∀(μ:List (θ×Obj)) (s:ZZ) (σ:St) (H:Hp) (Q:VK),Inv X μ σ H s->t σ H Q->aau (Ψ X.prog X.w) X.A (eval e X.env) (EP X μ σ Q) X.xe s
def PT (X:Cx)(e:Expr)(t:TT):Prop :=
 ∀(μ:List (θ×Obj)) (s:ZZ) (σ:St) (H:Hp) (Q:Bool->Hp->Prop),Inv X μ σ H s->t σ H Q->aau (Ψ X.prog X.w) X.A (isTrue e X.env (eval e X.env)) (TP X μ σ Q) X.xe s
def PW (X:Cx)(e:Expr)(t:TT):Prop :=
 ∀(whole:Sem ZW) (μ:List (θ×Obj)) (s:ZZ) (σ:St) (H:Hp) (Q:Bool->Hp->Prop),Inv X μ σ H s->t σ H Q->aau (Ψ X.prog X.w) X.A (isTrue e X.env whole) (TP X μ σ Q) X.xe s
def PW.pt {X:Cx}{e:Expr}{t:TT}(h:PW X e t):PT X e t:=h _
def PA (X:Cx)(es:List Expr)(t:TA):Prop :=
 ∀(pos:Pos) (μ:List (θ×Obj)) (s:ZZ) (σ:St) (H:Hp) (Q:List V->Hp->Prop),Inv X μ σ H s->t σ H Q->aau (Ψ X.prog X.w) X.A (spliced (abK pos (aao es X.env))) (AP X μ σ Q) X.xe s
def PS (X:Cx)(st:Stmt)(t:TS):Prop :=
 ∀(μ:List (θ×Obj)) (s:ZZ) (σ:St) (H:Hp) (D:Ends),Inv X μ σ H s->t D σ H->aau (Ψ X.prog X.w) X.A (exec st X.env) (SP X μ D) X.xe s
def uO (X:Cx)(st:List Stmt)(t:TS):Prop :=
 ∀(μ:List (θ×Obj)) (s:ZZ) (σ:St) (H:Hp) (D:Ends),Inv X μ σ H s->t D σ H->aau (Ψ X.prog X.w) X.A (execs st X.env) (SP X μ D) X.xe s
def bQ {α:Type}{t:Sem α}{Q Q':α->ZZ->Prop}{M:Model}{A:aaX}{E:ZW->ZZ->Prop}{s:ZZ}(h:aau M A t Q E s)(hQ:∀a s,Q a s->Q' a s):aau M A t Q' E s:=ac7 h hQ λ_ _ x=>x
section
variable {X:Cx}
def KU (i:Nat):TE:=λσ H Q=>∃v,σ[i]?=ν (ν v)/\Q v H
def tC (v:V):TE:=λ_ H Q=>Q v H
def DK {i:Nat}{x:Str}{pos:Pos}(hN:X.N[i]?=ν x)(hv:NU X.env.scope x)(hd:(x==("__debug__" : Str))=η:=by decide)(Gs:(x==("__classdict__" : Str))=η:=by decide):PE X (.Name x pos) (KU i):=by
 intro μ s σ H Q I h;obtain⟨v,e,h⟩:=h;obtain⟨m,hn,hl⟩:=I.loc;obtain⟨u,r,l⟩:=hl i x v hN e hv;have fin:EP X μ σ Q u s:={(v),H,I,r,h};rcases l with⟨hk,hm⟩|⟨hk,c,hc,sQ⟩
 ·exact wpAny_Name (wpAny_loadName_local I.ok.kind hk hn hm fin) hd
 ·rcases hk with hk|hk
  ·exact wpAny_Name (wpAny_loadName_cell I.ok.kind hk hc sQ fin) hd
  ·exact wpAny_Name (wpAny_loadName_free I.ok.kind hk hc sQ fin Gs) hd
def bu {i j pos}:PE X (.Constant (.int i) j pos) (tC (.int i)):=λ_ _ _ H _ I h=>wpAny_Constant_int {.int i,H,I.tok _,{_,rfl},h}
def Jz {b j pos}:PE X (.Constant (.bool b) j pos) (tC (.bl b)):=λ_ _ _ H _ I h=>Constant_bool {.bl b,H,I,rfl,h}
def Lx {j pos}:PE X (.Constant .none j pos) (tC .cN):=λ_ _ _ H _ I h=>Constant_none {.cN,H,I,rfl,h}
def Lu {x j pos}:PE X (.Constant (.str x) j pos) (tC (.str x)):=λ_ _ _ H _ I h=>Calls.Constant_str {.str x,H,I.tok _,{_,rfl},h}
def Gl (X:Cx)(x:Str):Prop:=X.env.kindOf x=ν .globalImplicit
def HZ {E:ZW->ZZ->Prop}{μ:List (θ×Obj)}{s:ZZ}{σ:St}{H:Hp}{x:Str}{u:ZW}{pos:Pos}{Q:ZW->ZZ->Prop}(I:Inv X μ σ H s)(hg:Gl X x)(hm:X.mg x=ν u)(h:Q u s)
  (hd:(x==("__debug__" : Str))=η:=by decide):aau (Ψ X.prog X.w) X.A (eval (.Name x pos) X.env) Q E s :=
 Calls.Name_function_global I.ok.kind hg (Calls.loadGlobal_global (by rw[I.ok.glob];exact I.mod.glob.keeps I.bk) hm h) hd
def mO {E:ZW->ZZ->Prop}{μ:List (θ×Obj)}{s:ZZ}{σ:St}{H:Hp}{x:Str}{u:ZW}{pos:Pos}{Q:ZW->ZZ->Prop}(I:Inv X μ σ H s)(hg:Gl X x)(hm:X.mg x=ξ)(hv:abi x=ν u)(h:Q u s)
  (hn:x≠"__name__" := by decide) (hd:(x==("__debug__" : Str))=η:=by decide):aau (Ψ X.prog X.w) X.A (eval (.Name x pos) X.env) Q E s:=by
 obtain⟨mb,h1,h2⟩:=I.mod.blt;exact Calls.Name_function_global I.ok.kind hg (Calls.loadGlobal_builtin (by rw[I.ok.glob];exact I.mod.glob.keeps I.bk) hm (by rw[I.ok.blt];exact h1.keeps I.bk) ((h2 x hn).trans hv) h) hd
variable {a b:Expr}{ta tb:TE}{pos:Pos}
def vz (b:Expr){op:acQ}(h:op≠.In)(h2:op≠.NotIn):ab5 op b=η:=by
 have e1:(op==CmpOp.In)=η:=by cases op <;> first|rfl|exact Η rfl h
 have e2:(op==CmpOp.NotIn)=η:=by cases op <;> first|rfl|exact Η rfl h2
 cases b <;> simp[ab5,e1,e2]
def tB (t:TE):TT:=λσ H Q=>t σ H λx H1=>∃c,x=.bl c/\Q c H1
def Ll {e:Expr}{t:TE}(h:PE X e t)(he:∀whole,isTrue e X.env whole=(do let v <- whole;adm e.pos;holding [v] (truthy v)):=by intro _;rfl):PT X e (tB t):=by
 intro μ s σ H Q I hw;refine isTrue_plain (bQ (h μ s σ H _ I hw) λv s1 ⟨x,H1,I1,r1,q1⟩=>?_) (he _);obtain⟨d,rfl,q⟩:=q1;cases r1;exact abG {(H1),I1,q}
variable {tA Rv:TT}{rest:List Expr}
def SO (t u:TT):TT:=λσ H Q=>t σ H λc H1=>if c=ζ then u σ H1 Q else Q η H1
def Xo (t u:TT):TT:=λσ H Q=>t σ H λc H1=>if c=ζ then Q ζ H1 else u σ H1 Q
def SH (t:TT):TT:=λσ H Q=>t σ H λc H1=>Q (!c) H1
def pw_and1 (ha:PT X a tA):PW X (.BoolOp .And [a] pos) tA:=by
 intro wh μ s σ H Q I h;refine isTrue_and (bQ (ha μ s σ H Q I h) λc s1 e=>?_);cases c with
 |true=>exact isTrue_and_nil e
 |false=>exact e
def pw_or1 (ha:PT X a tA):PW X (.BoolOp .Or [a] pos) tA:=by
 intro wh μ s σ H Q I h;refine isTrue_or (bQ (ha μ s σ H Q I h) λc s1 e=>?_);cases c with
 |false=>exact isTrue_or_nil e
 |true=>exact e
def pw_and (ha:PT X a tA)(hb:PW X (.BoolOp .And (b::rest) pos) Rv):PW X (.BoolOp .And (a::b::rest) pos) (SO tA Rv):=by
 intro wh μ s σ H Q I h;refine isTrue_and (bQ (ha μ s σ H _ I h) λc s1 ⟨H1,I1,q1⟩=>?_);cases c with
 |true=>exact hb wh μ s1 σ H1 Q I1 q1
 |false=>exact{(H1),I1,q1}
def pw_or (ha:PT X a tA)(hb:PW X (.BoolOp .Or (b::rest) pos) Rv):PW X (.BoolOp .Or (a::b::rest) pos) (Xo tA Rv):=by
 intro wh μ s σ H Q I h;refine isTrue_or (bQ (ha μ s σ H _ I h) λc s1 ⟨H1,I1,q1⟩=>?_);cases c with
 |true=>exact{(H1),I1,q1}
 |false=>exact hb wh μ s1 σ H1 Q I1 q1
def Lm (ha:PT X a tA):PT X (.UnaryOp .Not a pos) (SH tA):=by
 intro μ s σ H Q I h;exact isTrue_not (ha μ s σ H (λc H1=>Q (!c) H1) I h)
def SG (ta tb:TE):TE:=λσ H Q=>ta σ H λx H1=>∃c,x=.bl c/\if c=ζ then Q (.bl ζ) H1 else tb σ H1 Q
def Lw {op}{t:TE}(h:PE X a t):PE X (.BoolOp op [a] pos) t:=λμ s σ H Q I hw=>BoolOp_one (h μ s σ H Q I hw)
def OE (ha:PE X a ta)(hb:PE X (.BoolOp .Or (b::rest) pos) tb):PE X (.BoolOp .Or (a::b::rest) pos) (SG ta tb):=by
 intro μ s σ H Q I h;refine BoolOp_or (bQ (ha μ s σ H _ I h) λv s1 ⟨x,H1,I1,r1,q1⟩=>?_);obtain⟨c,rfl,q1⟩:=q1;cases r1;refine abG ?_;cases c with
 |false=>exact hb μ s1 σ H1 Q I1 q1
 |true=>exact{.bl ζ,H1,I1,rfl,q1}
end
def fb (K:Ξ)(H:Hp)(a:θ)(xs:List V):Prop :=
 Rd H a (.lst xs) \/
  ∃(o:Obj) (its:Array ZW) (n:Nat),K.lookup a=ν o/\o.cls=.type "list" /\ o.dict=ξ/\o.data=.seq its n/\its.size<=aak/\Vals xs its.toList
def nk (K:Ξ)(H:Hp)(a:θ)(xs:List V):Prop :=
 Rd H a (.tup xs) \/
  ∃(o:Obj) (its:Array ZW) (n:Nat),K.lookup a=ν o/\o.cls=.type "tuple" /\ o.data=.seq its n/\its.size<=aak/\Vals xs its.toList
noncomputable def VA:ZW->Option V
 |.none=>ν .cN
 |.bool b=>ν (.bl b)
 |.int i _=>ν (.int i)
 |.str x _=>ν (.str x)
 |.bytes b _=>ν (.F2 b)
 |.float b _=>ν (.Vh b)
 |.ref a=>ν (.ref a)
 |.type n=>ν (.ty n)
 |_=>ξ
def RelV.abs {x:V}{u:ZW}(r:RelV x u):VA u=ν x:=by
 cases x with
 |cN=>cases r;rfl
 |bl _=>cases r;rfl
 |int _=>obtain⟨t,rfl⟩:=r;rfl
 |str _=>obtain⟨t,rfl⟩:=r;rfl
 |F2 _=>obtain⟨t,rfl⟩:=r;rfl
 |Vh _=>obtain⟨t,rfl⟩:=r;rfl
 |ref _=>cases r;rfl
 |ty _=>cases r;rfl
def RelV.inj {x y:V}{u:ZW}(r:RelV x u)(q:RelV y u):x=y:=aaC (r.abs.symm.trans q.abs)
theorem Vals.inj:∀{xs ys:List V} {us:List ZW},Vals xs us->Vals ys us->xs=ys
 |_,_,_,.nil,.nil=>rfl
 |_,_,_,.cons r t,.cons r' t'=>by rw[r.inj r',Vals.inj t t']
section
variable {X:Cx}{μ:List (θ×Obj)}{σ:St}{H:Hp}{s:ZZ}{a:θ}{xs ys:List V}
def fb.of {K:Ξ}(h:H a=ν (.lst xs)):fb K H a xs:=.inl (.inl h)
def nk.of {K:Ξ}(h:H a=ν (.tup xs)):nk K H a xs:=.inl (.inl h)
def Inv.list (I:Inv X μ σ H s)(h:fb X.K H a xs):∃its:List ZW,Vals xs its/\PlainL s.heap a its.toArray/\xs.length<=aak:=by
 rcases h with h|⟨o,its,n,hk,hc,hd,hs,hz,r⟩
 ·obtain⟨z,its,n,r,e⟩:=h.ok I.b9;exact{its,r,{_,n,e,rfl,rfl,rfl},z}
 ·refine{its.toList,r,{o,n,I.Nv a o hk,hc,hd,by simpa using hs},?_}
  have e:=r.length;simp only[Z5]at e;lia
def Inv.tuple (I:Inv X μ σ H s)(h:nk X.K H a xs):∃its:List ZW,Vals xs its/\IsTup s.heap a its.toArray/\xs.length<=aak:=by
 rcases h with h|⟨o,its,n,hk,hc,hs,hz,r⟩
 ·obtain⟨z,its,r,p⟩:=h.ok I.b9;exact{(its),r,p,z}
 ·refine{its.toList,r,{o,I.Nv a o hk,hc,n,by simpa using hs},?_}
  have e:=r.length;simp only[Z5]at e;lia
def Inv.Ez (I:Inv X μ σ H s)(h:fb X.K H a xs)(h':fb X.K H a ys):xs=ys:=by
 obtain⟨its,r,⟨o,n,e,_,_,d⟩,_⟩:=I.list h;obtain⟨its',r',⟨o',n',e',_,_,d'⟩,_⟩:=I.list h';rw[e]at e';cases e';rw[d]at d';injection d' with d1 _
 have:its=its':=by simpa using Ι Array.toList d1
 subst this;exact r.inj r'
def Inv.AJ (I:Inv X μ σ H s)(h:nk X.K H a xs)(h':nk X.K H a ys):xs=ys:=by
 obtain⟨its,r,⟨o,e,_,n,d⟩,_⟩:=I.tuple h;obtain⟨its',r',⟨o',e',_,n',d'⟩,_⟩:=I.tuple h';rw[e]at e';cases e';rw[d]at d';injection d' with d1 _
 have:its=its':=by simpa using Ι Array.toList d1
 subst this;exact r.inj r'
end
noncomputable abbrev Cx.qY (X:Cx)(E:ZW->ZZ->Prop):Cx:={X with xe:=E}
abbrev Cx.JE (X:Cx):Cx:=X.qY λ_ _=>False
noncomputable def Cx.Ok.qY {X:Cx}(ok:X.Ok)(E:ZW->ZZ->Prop):(X.qY E).Ok :=
 {(ok.mod),ok.kind,ok.glob,ok.blt,ok.above,ok.inj,ok.has,ok.Q8,ok.hd,ok.frames,ok.Rw,ok.Sa,ok.bs,ok.Kb,ok.El,ok.Fw,ok.qi,ok.NJ}
def Cx.Ok.i6 {X:Cx}{E:ZW->ZZ->Prop}(ok:(X.qY E).Ok):X.Ok :=
 {(ok.mod),ok.kind,ok.glob,ok.blt,ok.above,ok.inj,ok.has,ok.Q8,ok.hd,ok.frames,ok.Rw,ok.Sa,ok.bs,ok.Kb,ok.El,ok.Fw,ok.qi,ok.NJ}
section
variable {X:Cx}{μ:List (θ×Obj)}{σ:St}{H:Hp}{s:ZZ}{E:ZW->ZZ->Prop}
noncomputable def Inv.qY (I:Inv X μ σ H s)(E:ZW->ZZ->Prop):Inv (X.qY E) μ σ H s:={I.ok.qY E,I.os,I.bare,I.base,I.loc,I.cell,I.free,I.j9,I.pin,I.b9,I.len}
def Inv.i6 (I:Inv (X.qY E) μ σ H s):Inv X μ σ H s:={(I.ok.i6),I.os,I.bare,I.base,I.loc,I.cell,I.free,I.j9,I.pin,I.b9,I.len}
def SP.i6 {D:Ends}{f:Flow}{s':ZZ}(h:SP (X.qY E) μ D f s'):SP X μ D f s':=by
 cases f with
 |next=>obtain⟨σ',H',I,q⟩:=h;exact{(σ'),H',I.i6,q}
 |brk=>obtain⟨σ',H',I,q⟩:=h;exact{(σ'),H',I.i6,q}
 |cont=>obtain⟨σ',H',I,q⟩:=h;exact{(σ'),H',I.i6,q}
 |ret u=>obtain⟨v,σ',H',I,r,q⟩:=h;exact{(v),σ',H',I.i6,r,q}
def uO.JE {st:List Stmt}{t:TS}(h:uO X.JE st t):uO X st t:=λμ s σ H D I hw =>
 ac7 (h μ s σ H D (I.qY _) hw) (λ_ _ q=>q.i6) λ_ _ z=>ach z
end
section
variable {X:Cx}{st:Stmt}{rest:List Stmt}{t u:TS}{e:Expr}{te:TE}{pos:Pos}
def Ob:TS:=λD σ H=>D.nx σ H
def SD (t u:TS):TS:=λD σ H=>t {D with nx:=u D} σ H
def zm:uO X [] Ob:=λ_ _ σ H _ I h=>wpAny_execs_nil {(σ),H,I,h}
def fP (h1:PS X st t)(h2:uO X rest u):uO X (st::rest) (SD t u):=by
 intro μ s σ H D I h;refine wpAny_execs_cons (bQ (h1 μ s σ H {D with nx:=u D} I h) λf s1 q=>?_)
 cases f with
 |next =>
  obtain⟨σ',H',I',q⟩:=q;exact h2 μ s1 σ' H' D I' q
 |ret v=>exact q
 |brk=>exact q
 |cont=>exact q
def lE (h1:PS X st t):uO X [st] t:=by
 intro μ s σ H D I h;refine wpAny_execs_cons (bQ (h1 μ s σ H D I h) λf s1 q=>?_);cases f with
 |next=>exact wpAny_execs_nil q
 |ret v=>exact q
 |brk=>exact q
 |cont=>exact q
def Inv.quiet {μ:List (θ×Obj)}{σ:St}{H:Hp}{s:ZZ}(I:Inv X μ σ H s):interactive X.env=η:=by simp[interactive,I.ok.kind]
def Oc (te:TE):TS:=λD σ H=>te σ H λ_ H1=>D.nx σ H1
def oB (he:PE X e te)(hs:ab4 e ξ pos.line X.env=pure η:=by rfl):PS X (.Expr e pos) (Oc te):=by
 intro μ s σ H D I h;exact wpAny_Expr_any (bQ (he μ s σ H _ I h) λv s1 EZ=>by obtain⟨x,H1,I1,r1,q1⟩:=EZ;exact{(σ),H1,I1,q1}) I.quiet hs
def SE (te:TE):TS:=λD σ H=>te σ H D.rt
def kq (he:PE X e te):PS X (.Return (ν e) pos) (SE te):=by
 intro μ s σ H D I h;exact wpAny_Return_some (bQ (he μ s σ H _ I h) λv s1 yt=>by obtain⟨x,H1,I1,r1,q1⟩:=yt;exact{(x),σ,H1,I1,r1,q1})
def SK (c:TT)(t u:TS):TS:=λD σ H=>c σ H λb H1=>if b=ζ then t D σ H1 else u D σ H1
def Ju {c:Expr}{a b:List Stmt}{tc:TT}(hc:PT X c tc)(ha:uO X a t)(hb:uO X b u):PS X (.If c a b pos) (SK tc t u):=by
 intro μ s σ H D I h;refine wpAny_If (bQ (hc μ s σ H _ I h) λd s1 ⟨H1,I1,q1⟩=>?_);cases d with
 |true=>exact ha μ s1 σ H1 D I1 q1
 |false=>exact hb μ s1 σ H1 D I1 q1
def KY:TS:=λ_ _ _=>False
def Ba {Xs:List Stmt}:uO X Xs KY:=λ_ _ _ _ _ _ h=>h.elim
end
abbrev TG:=V->St->Hp->(St->Hp->Prop)->Prop
abbrev Ke:=List V->St->Hp->(St->Hp->Prop)->Prop
def PG (X:Cx)(target:Expr)(t:TG):Prop :=
 ∀(μ:List (θ×Obj)) (s:ZZ) (σ:St) (H:Hp) (v:V) (u:ZW) (Q:St->Hp->Prop),Inv X μ σ H s->RelV v u->t v σ H Q ->
  aau (Ψ X.prog X.w) X.A (assign target X.env u) (λ_ s'=>∃σ' H',Inv X μ σ' H' s'/\Q σ' H') X.xe s
def Kh (X:Cx)(ts:List Expr)(t:Ke):Prop :=
 ∀(μ:List (θ×Obj)) (s:ZZ) (σ:St) (H:Hp) (vs:List V) (us:List ZW) (Q:St->Hp->Prop),Inv X μ σ H s->Vals vs us->t vs σ H Q ->
  aau (Ψ X.prog X.w) X.A (assignInOrder ((abX ts X.env).map (·.2)) us) (λ_ s'=>∃σ' H',Inv X μ σ' H' s'/\Q σ' H') X.xe s
abbrev Nj:=V->V->V->Hp->(Hp->Prop)->Prop
def Rh (X:Cx)(t:Nj):Prop :=
 ∀(μ:List (θ×Obj)) (s:ZZ) (σ:St) (H:Hp) (o i v:V) (ov iv u:ZW) (Q:Hp->Prop),Inv X μ σ H s->RelV o ov->RelV i iv->RelV v u->t o i v H Q ->
  aau (Ψ X.prog X.w) X.A (setItem ov iv u) (λ_ s'=>∃H',Inv X μ σ H' s'/\Q H') X.xe s
section
variable {X:Cx}{pos:Pos}
def JZ (i:Nat):TG:=λv σ H Q=>Q (σ.set i (ν v)) H
def Hi {i:Nat}{x:Str}(hN:X.N.Nodup)(hi:X.N[i]?=ν x)(hx:Loc X.env.scope x)(hf:X.fn x=ζ\/X.env.scope.names.lookup x=ν .local:=by first|exact .inl rfl|exact .inr rfl|assumption):PG X (.Name x pos) (JZ i):=by
 intro μ s σ H v u Q I r h;exact wpAny_assign_Name (lr I hN hi hx r (λs' I'=>{_,H,I',h}) hf)
def MW:Ke:=λvs σ H Q=>vs=[]/\Q σ H
def Ff (t:TG)(u:Ke):Ke:=λvs σ H Q=>∃v r,vs=v::r/\t v σ H λσ' H'=>u r σ' H' Q
def Hh:Kh X [] MW:=by
 intro μ s σ H vs us Q I r h;obtain⟨e,h⟩:=h;subst e;cases r;exact assignInOrder_nil {(σ),H,I,h}
def DI {e:Expr}{es:List Expr}{t:TG}{u:Ke}(h1:PG X e t)(h2:Kh X es u)
  (hs:(abX (e::es) X.env).map (·.2)=assign e X.env::(abX es X.env).map (·.2):=by rfl):Kh X (e::es) (Ff t u):=by
 intro μ s σ H vs us Q I r h;obtain⟨v,vr,e1,h⟩:=h;subst e1;cases r with
 |cons r rr =>
  rw[hs];refine assignInOrder_cons (bQ (h1 μ s σ H _ _ _ I r h) λ_ s1 ⟨σ1,H1,I1,q1⟩=>?_);exact h2 μ s1 σ1 H1 _ _ Q I1 rr q1
def Ve (K:Ξ)(n:Nat)(t:Ke):TG:=λv σ H Q=>∃a xs,v=.ref a/\nk K H a xs/\xs.length=n/\t xs σ H Q
def Ls {es:List Expr}{k:Nat}{t:Ke}{n:Nat}(hc:X.calm=ζ)(h:Kh X es t)
  (hn:(abX es X.env).length=n:=by rfl) (Ih:(abX es X.env).findIdx? (·.1)=ξ:=by rfl):PG X (.Tuple es k pos) (Ve X.K n t):=by
 intro μ s σ H v u Q I r hw;obtain⟨a,xs,e1,hq,hl,hw⟩:=hw;subst e1;cases r;obtain⟨its,rv,ht,hz⟩:=I.tuple hq;refine assign_Tuple_tuple (I.ok.hd hc) ht (by simp[hn,<- hl,rv.length]) Ih λh' hx=>?_
 have I1:Inv X μ σ H {s with heap:=h'}:=I.kept (t':=s.toks) λb o e=>hx b o (aaL (aaq e)) e
 exact h μ _ σ H xs _ Q I1 (by simpa using rv) hw
def Vf (to ti:TE)(t:Nj):TG:=λv σ H Q=>to σ H λo H1=>ti σ H1 λi H2=>t o i v H2 λH3=>Q σ H3
def DJ {o i:Expr}{to ti:TE}{t:Nj}(ho:PE X o to)(hi:PE X i ti)(hs:Rh X t)
  (ha:∀v,assign (.Subscript o i pos) X.env v=(do
   let ov <- holding [v] (eval o X.env)
   let iv <- holding [v,ov] (eval i X.env)
   adm pos
   holding [v,ov,iv] (setItem ov iv v)
   release [v,ov,iv] []):=by intro _;rfl):PG X (.Subscript o i pos) (Vf to ti t):=by
 intro μ s σ H v u Q I r h;rw[ha];refine ZV (aa2 (bQ (ho μ s σ H _ I h) λov s1 ⟨x,H1,I1,r1,q1⟩=>?_));refine ZV (aa2 (bQ (hi μ s1 σ H1 _ I1 q1) λiv s2 ⟨y,H2,I2,r2,q2⟩=>?_));refine ZV (abE (ZV (aa2 (bQ (hs μ s2 σ H2 x y v ov iv u _ I2 r1 r2 r q2) λ_ s3 ⟨H3,I3,q3⟩=>?_))));exact wpAny_release {(σ),H3,I3,q3}
def Oe (te:TE)(g:TG):TS:=λD σ H=>te σ H λx H1=>g x σ H1 D.nx
def xS {tg e:Expr}{te:TE}{g:TG}(he:PE X e te)(hg:PG X tg g)(hs:swapsWithSole [tg] e pos.line X.env=pure η:=by rfl)(hw:swappedStores [tg] e X.env=pure ξ:=by rfl)
  (h1:(abX [tg] X.env).map (·.2)=[assign tg X.env]:=by rfl):PS X (.Assign [tg] e pos) (Oe te g):=by
 intro μ s σ H D I h;refine wpAny_Assign_stores (bQ (he μ s σ H _ I h) λv s1 ⟨x,H1,I1,r1,q1⟩=>?_) hs hw;rw[h1];exact bQ (hg μ s1 σ H1 x v _ I1 r1 q1) λ_ s2 q=>q
def xR {i:Nat}{x:Str}{e:Expr}{te:TE}{pos':Pos}(hN:X.N.Nodup)(hi:X.N[i]?=ν x)(hx:Loc X.env.scope x)(he:PE X e te)(hs:ab4 e (ν (.Name x pos')) pos.line X.env=pure η:=by rfl)(hf:X.fn x=ζ\/X.env.scope.names.lookup x=ν .local:=by first|exact .inl rfl|exact .inr rfl|assumption):
  PS X (.Assign [.Name x pos'] e pos) (Oe te (JZ i)):=by
 intro μ s σ H D I h;refine wpAny_Assign_Name (bQ (he μ s σ H _ I h) λv s1 ⟨y,H1,I1,r1,q1⟩=>?_) hs;exact lr I1 hN hi hx r1 (λs2 I2=>{_,H1,I2,q1}) hf
def SF (i j:Nat)(ta:TA):TS:=λD σ H=>ta σ H λvs H1=>∃v w,vs=[v,w]/\D.nx ((σ.set i (ν v)).set j (ν w)) H1
def Lo {i j:Nat}{x y:Str}{a b:Expr}{ta:TA}{px py pt:Pos}{kt k2 Ln}(hc:X.calm=ζ)(hN:X.N.Nodup)(hi:X.N[i]?=ν x)(hj:X.N[j]?=ν y)(aL:i≠j)
  (hx:X.env.scope.names.lookup x=ν .local) (hy:X.env.scope.names.lookup y=ν .local) (ha:PA X [a,b] ta)
  (hw:swappedStores [.Tuple [.Name x px,.Name y py] kt pt] (.Tuple [a,b] k2 Ln) X.env=pure (ν [x,y]))
  (hs:swapsWithSole [.Tuple [.Name x px,.Name y py] kt pt] (.Tuple [a,b] k2 Ln) pos.line X.env=pure η:=by rfl) :
  PS X (.Assign [.Tuple [.Name x px,.Name y py] kt pt] (.Tuple [a,b] k2 Ln) pos) (SF i j ta):=by
 intro μ s σ H D I h;rw[exec_Assign_arm];refine ZV (abE ?_);rw[hs];refine ZV (Z0 ?_);rw[ω (by decide)]
 refine ZV (Tuple_ (bQ (ha _ μ s σ H _ I h) λus s1 ⟨vs,H1,I1,r1,q1⟩=>?_));obtain⟨v,w,e1,q1⟩:=q1;subst e1;obtain⟨u1,u2,rfl,rv,Ca⟩:∃u1 u2,us=[u1,u2]/\RelV v u1/\RelV w u2:=by
  cases r1 with
  |cons p q =>
   cases q with
   |cons p' q' =>
    cases q';exact{_,_,rfl,p,p'}
 refine abe ?_ (by show 2<=aak;decide)
 have I2:Inv X μ σ H1 {s1 with heap:=s1.heap.push {cls:=.type "tuple",data:=.seq [u1,u2].toArray}}:=I1.kept (t':=s1.toks) λb o e=>Z3 _ e
 rw[hw];refine ZV (Z0 ?_);show aau (Ψ X.prog X.w) X.A (do rule "assign.swapped-stores";let items <- unpackItems (.ref s1.heap.objs.size) 2 ξ;assignInOrder [λv=>bindName X.env y v,λv=>bindName X.env x v] items.reverse;pure Flow.next) _ _ _
 refine ZV (acb (ZV (unpackItems_tuple (items:=#[u1,u2]) (I.ok.hd hc) (IsTup.new s1.heap _) λh' ES=>?_)));have I3:=I2.kept (h':=h') (t':=s1.toks) λb o e=>ES b o (aaL (aaq e)) e;show aau _ _ (assignInOrder [λv=>bindName X.env y v,λv=>bindName X.env x v] [u2,u1] >>= λ_=>pure Flow.next) _ _ _
 refine ZV (assignInOrder_cons (wpAny_bindName (lr I3 hN hj (.inl hy) Ca (λs2 I4=>?_) (.inr hy))));refine assignInOrder_cons (wpAny_bindName (lr I4 hN hi (.inl hx) rv (λs3 I5=>assignInOrder_nil (Z0 ?_)) (.inr hx)));rw[List.set_comm _ _ (acB aL)]at I5;exact{_,H1,I5,q1}
end
section
variable {X:Cx}{pos:Pos}
def KR (c:TT)(tb:TS):TS:=λD σ H=>∃W:Nat->St->Hp->Prop,(∃m,W m σ H)/\∀m σ H,W m σ H ->
 c σ H λb H1=>if b=ζ then ∃N:St->Hp->Prop,(∀σ' H',N σ' H'->∃m',m'<m/\W m' σ' H')/\tb {D with nx:=N,ct:=N,bk:=D.nx} σ H1 else D.nx σ H1
def Dw {c:Expr}{body:List Stmt}{tc:TT}{tb:TS}(hp:PassesOwn (Ψ X.prog X.w) X.A X.env X.xe)(hc:PT X c tc)(hb:uO X body tb):PS X (.While c body [] pos) (KR tc tb):=by
 intro μ s σ H D I h;obtain⟨W,⟨m0,w0⟩,turn⟩:=h;refine wpAny_While (codeAny_whileLoop (λn s'=>∃σ' H',Inv X μ σ' H' s'/\W n σ' H') ?_ m0 {(σ),H,I,w0});rintro n s1 ⟨σ1,H1,I1,w1⟩;refine ab2 hp (bQ (hc μ s1 σ1 H1 _ I1 (turn n σ1 H1 w1)) λb s2 ⟨H2,I2,q2⟩=>?_);cases b with
 |true =>
  obtain⟨N,hN,q2⟩:=q2;rw[χ rfl];refine ab2 hp (bQ (hb μ s2 σ1 H2 _ I2 q2) λf s3 q3=>?_);cases f with
  |next =>
   obtain⟨σ3,H3,I3,n3⟩:=q3;obtain⟨m',hm,w3⟩:=hN σ3 H3 n3;exact{(m'),hm,σ3,H3,I3,w3}
  |cont =>
   obtain⟨σ3,H3,I3,n3⟩:=q3;obtain⟨m',hm,w3⟩:=hN σ3 H3 n3;exact{(m'),hm,σ3,H3,I3,w3}
  |brk=>exact q3
  |ret v=>exact q3
 |false =>
  rw[ω abg];exact wpAny_execs_nil {(σ1),H2,I2,q2}
end
structure It where
 go:Nat->Hp->Prop
 N4:Nat->Hp->V->Hp->Prop
 stop:Nat->Hp->Prop
def kU (X:Cx)(μ:List (θ×Obj))(H:Hp)(b:θ):Prop :=
 H b=ξ/\b≠X.env.locals/\b∉X.fs/\(b∈X.ex\/X.s₀.heap.objs.size<=b)/\(∀x c,X.env.cells.lookup x=ν c->c≠b)/\∀p∈X.pn++μ,p.1≠b
def Inv.Fl {X:Cx}{μ:List (θ×Obj)}{σ:St}{H H':Hp}{s:ZZ}{b:θ}(I:Inv X μ σ H s)(hb:s.heap.objs.size<=b)(hn:H' b=ξ):kU X μ H' b:=by
 refine{hn,Nat.ne_of_gt (aaG I.lt hb),I.TC hb,.inr (aaH I.sz hb),λx c e z=>?_,λp hp z=>?_}
 ·obtain⟨v,q⟩:=I.cell x c e;exact Η (aaG q.lt (by rw[z];exact hb)) (abN _)
 ·exact Η (aaG (aaq (I.pin p hp).1) (by rw[z];exact hb)) (abN _)
structure Turn (P:Z6)(w:aam)(K:Ξ)(tg:Expr)(J:It)(fp:List θ)(it:θ)(tn:Nat->Heap->Prop):Prop where
 mem:it∈fp
 obj:∀i h,tn i h->∀b∈fp,∃o,h.get? b=ν o/\∀v,o.data≠.cell v
 keep:∀i h h',tn i h->(∀b∈fp,∀o,h.get? b=ν o->h'.get? b=ν o)->tn i h'
 item:∀(X:Cx),X.prog=P->X.w=w->X.K=K->X.calm=ζ->∀(i:Nat) (μ:List (θ×Obj)) (s:ZZ) (σ:St) (H:Hp) (E:ZW->ZZ->Prop),Inv X μ σ H s->(∀b∈fp,kU X μ H b)->tn i s.heap->J.go i H ->
  aau (Ψ P w) X.A (pyNext (.ref it)) (λr s1=>∃u,r=ν u /\
   aau (Ψ P w) X.A (letOwnedTupleGo tg (.ref it) u) (λ_ s2=>∃x H',Inv X μ σ H' s2/\RelV x u/\J.N4 i H x H'/\tn (i+1) s2.heap/\∀b∈fp,H' b=ξ) E s1) E s
 done:∀(X:Cx),X.prog=P->X.w=w->X.K=K->X.calm=ζ->∀(i:Nat) (μ:List (θ×Obj)) (s:ZZ) (σ:St) (H:Hp) (E:ZW->ZZ->Prop),Inv X μ σ H s->(∀b∈fp,kU X μ H b)->tn i s.heap->J.stop i H ->
  aau (Ψ P w) X.A (pyNext (.ref it)) (λr s1=>r=ξ/\Inv X μ σ H s1) E s
 self:∀(A:aaX) (i:Nat) (s:ZZ) (Q:ZW->ZZ->Prop) (E:ZW->ZZ->Prop),tn i s.heap->Q (.ref it) s->aau (Ψ P w) A (pyIter (.ref it)) Q E s
abbrev TI:=St->Hp->(It->Hp->Prop)->Prop
def Si (X:Cx)(μ:List (θ×Obj))(σ:St)(tg:Expr)(R:It->Hp->Prop)(JN:ZW)(s2:ZZ):Prop :=
 ∃(it:θ) (fp:List θ) (tn:Nat->Heap->Prop) (J:It) (H':Hp),JN=.ref it/\Inv X μ σ H' s2/\Turn X.prog X.w X.K tg J fp it tn/\tn 0 s2.heap/\(∀b∈fp,kU X μ H' b)/\R J H'
def PI (X:Cx)(tg iter:Expr)(wi:TI):Prop :=
 ∀(μ:List (θ×Obj)) (s:ZZ) (σ:St) (H:Hp) (R:It->Hp->Prop),Inv X μ σ H s->wi σ H R ->
  aau (Ψ X.prog X.w) X.A (eval iter X.env) (λv s1=>aau (Ψ X.prog X.w) X.A (pyIter v) (Si X μ σ tg R) X.xe s1) X.xe s
def z_ {M:Model}{A:aaX}{E:ZW->ZZ->Prop}{s:ZZ}{tg:Expr}{it:θ}{u:ZW}{o:Obj}{n:String}{vs:Array ZW}{Q:Unit->ZZ->Prop}(ho:s.heap.get? it=ν o)(hc:o.cls=.type n)(hd:o.data=.fields vs)
  (hn:["enumerate","zip","dict_itemiterator","dict_reverseitemiterator","odict_iterator","itertools.zip_longest","itertools.pairwise"].contains n=η) (hQ:Q () s):aau M A (letOwnedTupleGo tg (.ref it) u) Q E s:=by
 unfold letOwnedTupleGo;cases tg <;> first
  |exact Z0 hQ
  | (cases u <;> first
    |exact Z0 hQ
    | (refine ZV (wpAny_load ho ?_)
       rw[hc,hd];show aau M A (if (["enumerate","zip","dict_itemiterator","dict_reverseitemiterator","odict_iterator","itertools.zip_longest","itertools.pairwise"].contains n&&vs[0]?==ν (rawInt _))=ζ then _ else _) Q E s
       rw[ω (by intro h;rw[hn,Bool.false_and]at h;cases h)]
       exact Z0 hQ))
def So (K:Ξ)(a:θ):It :=
 {λi H=>∃xs x,fb K H a xs/\xs[i]?=ν x,λi H x H'=>H'=H/\∀xs,fb K H a xs->xs[i]?=ν x,λi H=>∃xs,fb K H a xs/\xs.length<=i}
def VG (K:Ξ)(a:θ):It :=
 {λi H=>∃xs x,nk K H a xs/\xs[i]?=ν x,λi H x H'=>H'=H/\∀xs,nk K H a xs->xs[i]?=ν x,λi H=>∃xs,nk K H a xs/\xs.length<=i}
def Rk (lo:Int)(n:Nat):It:={λi _=>i<n,λi H x H'=>H'=H/\x=.int (lo+i),λi _=>n<=i}
def AI {P:Z6}{w:aam}{K:Ξ}{tg:Expr}(a it:θ):Turn P w K tg (So K a) [it] it (λi h=>h.IsListIter it a i) where
 mem:=by simp
 obj:=λi h st b hb=>by
  have e:b=it:=by simpa using hb
  subst e;obtain⟨o,e,c,d⟩:=st;exact{o,e,λv z=>by rw[d]at z;cases z}
 keep:=λi h h' st k=>st.at λo e=>k it (by simp) o e
 item:=by
  intro X hP hw hK hc i μ s σ H E I hf st hg;subst hP hw hK;obtain⟨xs,x,hq,hx⟩:=hg;obtain⟨its,rv,p,hz⟩:=I.list hq;obtain⟨u,hu,ru⟩:=rv.get hx;obtain⟨f0,f1,f2,f3,f4,f5⟩:=hf it (by simp)
  refine wpAny_pyNext_list_item st p.isList (x:=u) (by simpa using hu) λh' aI sb=>?_
  have I1:Inv X μ σ H {s with heap:=h'}:=I.turned (t':=s.toks) (λb o hb e=>(sb.2 b hb).trans e) f0 f1 f3 f4 f5
  obtain⟨o,e,c,d⟩:=id aI;exact{u,rfl,z_ (s:={s with heap:=h'}) e c d (by decide) {x,H,I1,ru,{rfl,λys hy=>by rw[I.Ez hy hq];exact hx},aI,λb hb=>(hf b hb).1}}
 done:=by
  intro X hP hw hK hc i μ s σ H E I hf st hg;subst hP hw hK;obtain⟨xs,hq,hx⟩:=hg;obtain⟨its,rv,p,hz⟩:=I.list hq;obtain⟨f0,f1,f2,f3,f4,f5⟩:=hf it (by simp)
  have hl:=rv.length;exact wpAny_pyNext_list_end (I.ok.hd hc) st p.isList (by simp;lia) λh' eb=>{rfl,I.turned (t':=s.toks) (λb o hb e=>eb b o hb e) f0 f1 f3 f4 f5}
 self:=λ_ _ _ _ _ st h=>wpAny_pyIter_listiter st h
def xC {P:Z6}{w:aam}{K:Ξ}{tg:Expr}(a it:θ):Turn P w K tg (VG K a) [it] it (λi h=>h.IsTupleIter it a i) where
 mem:=by simp
 obj:=λi h st b hb=>by
  have e:b=it:=by simpa using hb
  subst e;obtain⟨o,e,c,d⟩:=st;exact{o,e,λv z=>by rw[d]at z;cases z}
 keep:=λi h h' st k=>st.at λo e=>k it (by simp) o e
 item:=by
  intro X hP hw hK hc i μ s σ H E I hf st hg;subst hP hw hK;obtain⟨xs,x,hq,hx⟩:=hg;obtain⟨its,rv,p,hz⟩:=I.tuple hq;obtain⟨u,hu,ru⟩:=rv.get hx;obtain⟨f0,f1,f2,f3,f4,f5⟩:=hf it (by simp)
  refine wpAny_pyNext_tuple_item st (show s.heap.IsTuple a its.toArray from p) (x:=u) (by simpa using hu) λh' aI sb=>?_
  have I1:Inv X μ σ H {s with heap:=h'}:=I.turned (t':=s.toks) (λb o hb e=>(sb.2 b hb).trans e) f0 f1 f3 f4 f5
  obtain⟨o,e,c,d⟩:=id aI;exact{u,rfl,z_ (s:={s with heap:=h'}) e c d (by decide) {x,H,I1,ru,{rfl,λys hy=>by rw[I.AJ hy hq];exact hx},aI,λb hb=>(hf b hb).1}}
 done:=by
  intro X hP hw hK hc i μ s σ H E I hf st hg;subst hP hw hK;obtain⟨xs,hq,hx⟩:=hg;obtain⟨its,rv,p,hz⟩:=I.tuple hq;obtain⟨f0,f1,f2,f3,f4,f5⟩:=hf it (by simp)
  have hl:=rv.length;exact wpAny_pyNext_tuple_end (I.ok.hd hc) st (show s.heap.IsTuple a its.toArray from p) (by simp;lia) λh' eb=>{rfl,I.turned (t':=s.toks) (λb o hb e=>eb b o hb e) f0 f1 f3 f4 f5}
 self:=λ_ _ _ _ _ st h=>wpAny_pyIter_tupleiter st h
def xD {P:Z6}{w:aam}{K:Ξ}{tg:Expr}(it:θ)(lo:Int)(n:Nat):Turn P w K tg (Rk lo n) [it] it (λi h=>IsRangeIter h it (lo+(i:Nat)*1) ((n:Int)-(i:Nat)) 1) where
 mem:=by simp
 obj:=λi h st b hb=>by
  have e:b=it:=by simpa using hb
  subst e;exact⟨_,st,λv z=>by
   have z':Data.fields _=Data.cell v:=z;cases z'⟩
 keep:=λi h h' st k=>k it (by simp) _ st
 item:=by
  intro X hP hw hK hc i μ s σ H E I hf st hg;subst hP hw hK;obtain⟨f0,f1,f2,f3,f4,f5⟩:=hf it (by simp)
  have W:=Walks.range (prog:=X.prog) (w:=X.w) (I.ok.hd hc) it lo 1 n;refine W.item i s _ _ hg st λv h' tk hv aI kk=>?_;obtain⟨t,rfl⟩:=hv;have I1:Inv X μ σ H {s with heap:=h',toks:=tk}:=I.turned (λb o hb e=>kk b o (by simpa using hb) e) f0 f1 f3 f4 f5
  refine{_,rfl,z_ (s:={s with heap:=h',toks:=tk}) (n:="range_iterator") aI rfl rfl (by decide) {.int (lo+i),H,I1,{t,?_},{(rfl),rfl},aI,λb hb=>(hf b hb).1}}
  rw[Int.mul_one]
 done:=by
  intro X hP hw hK hc i μ s σ H E I hf st hg;subst hP hw hK;obtain⟨f0,f1,f2,f3,f4,f5⟩:=hf it (by simp)
  exact wpAny_pyNext_range_end (I.ok.hd hc) st (by have:n<=i:=hg;lia) λh' eb=>{rfl,I.turned (t':=s.toks) (λb o hb e=>eb b o hb e) f0 f1 f3 f4 f5}
 self:=λ_ _ _ _ _ st h=>wpAny_pyIter_rangeiter st h
section
variable {X:Cx}{tg:Expr}
def Pn (K:Ξ)(tl:TE):TI:=λσ H R=>tl σ H λx H1=>∃a,x=.ref a/\(∃xs,fb K H1 a xs)/\R (So K a) H1
def Mq (K:Ξ)(tl:TE):TI:=λσ H R=>tl σ H λx H1=>∃a,x=.ref a/\(∃xs,nk K H1 a xs)/\R (VG K a) H1
def zw {l:Expr}{tl:TE}(hl:PE X l tl):PI X tg l (Pn X.K tl):=by
 intro μ s σ H R I h;refine bQ (hl μ s σ H _ I h) λv s1 ⟨x,H1,I1,r1,q1⟩=>?_;obtain⟨a,e,⟨xs,hq⟩,q⟩:=q1;subst e;cases r1;obtain⟨its,rv,p,hz⟩:=I1.list hq;refine wpAny_pyIter_list p.isList ?_;refine{s1.heap.objs.size,[s1.heap.objs.size],_,_,H1,rfl,I1.kept (t':=s1.toks) λb o e=>Z3 _ e,AI a _,{_,aay _ rfl,rfl,rfl},λb hb=>?_,q};have e:b=s1.heap.objs.size:=by simpa using hb
 subst e;exact I1.Fl (ZX _) (I1.b9.fresh (ZX _))
def DH {l:Expr}{tl:TE}(hl:PE X l tl):PI X tg l (Mq X.K tl):=by
 intro μ s σ H R I h;refine bQ (hl μ s σ H _ I h) λv s1 ⟨x,H1,I1,r1,q1⟩=>?_;obtain⟨a,e,⟨xs,hq⟩,q⟩:=q1;subst e;cases r1;obtain⟨its,rv,p,hz⟩:=I1.tuple hq;refine wpAny_pyIter_tuple (show s1.heap.IsTuple a its.toArray from p) ?_
 refine{s1.heap.objs.size,[s1.heap.objs.size],_,_,H1,rfl,I1.kept (t':=s1.toks) λb o e=>Z3 _ e,xC a _,{_,aay _ rfl,rfl,rfl},λb hb=>?_,q};have e:b=s1.heap.objs.size:=by simpa using hb
 subst e;exact I1.Fl (ZX _) (I1.b9.fresh (ZX _))
def vh {μ:List (θ×Obj)}{σ:St}{H:Hp}{s:ZZ}{R:It->Hp->Prop}{E:ZW->ZZ->Prop}{lo hi:Int}{t u v:Tok}{tk:Nat}(I:Inv X μ σ H s)(h1:-(2 ^ 62)<=lo)(h2:lo<2 ^ 62)(h3:-(2 ^ 62)<=hi)(h4:hi<2 ^ 62)
  (q:R (Rk lo (hi-lo).toNat) H):aau (Ψ X.prog X.w) X.A (pyIter (.ref s.heap.objs.size)) (Si X μ σ tg R) E {s with heap:=s.heap.push {cls:=.type "range",data:=.fields #[.int lo t,.int hi u,.int 1 v]},toks:=tk}:=by
 refine wpAny_pyIter_range (IsRange.new ..) (small_one h1 h2 h3 h4) ?_;have I1:Inv X μ σ H {s with heap:=s.heap.push {cls:=.type "range",data:=.fields #[.int lo t,.int hi u,.int 1 v]},toks:=tk}:=I.kept λb o e=>Z3 _ e
 refine⟨(s.heap.push {cls:=.type "range",data:=.fields #[.int lo t,.int hi u,.int 1 v]}).objs.size,[(s.heap.push {cls:=.type "range",data:=.fields #[.int lo t,.int hi u,.int 1 v]}).objs.size],_,_,H,rfl,
  I1.kept (t':=tk) λb o e=>Z3 _ e,xD _ lo (hi-lo).toNat,?_,λb hb=>?_,q⟩
 ·have e1:lo+((0:Nat):Int)*1=lo:=by simp
  have e2:(((hi-lo).toNat:Nat):Int)-((0:Nat):Int)=acH lo hi 1:=by rw[rangeSize_one];split <;> lia
  show IsRangeIter _ _ (lo+((0:Nat):Int)*1) ((((hi-lo).toNat:Nat):Int)-((0:Nat):Int)) 1;rw[e1,e2];exact aay _ rfl
 ·have e:b=(s.heap.push {cls:=.type "range",data:=.fields #[.int lo t,.int hi u,.int 1 v]}).objs.size:=by simpa using hb
  subst e;exact I1.Fl (ZX _) (I1.b9.fresh (ZX _))
def Pm (ta:TA):TI:=λσ H R=>ta σ H λvs H1=>∃j:Int,vs=[.int j]/\-(2 ^ 62)<=j/\j<2 ^ 62/\R (Rk 0 j.toNat) H1
def Pl (ta:TA):TI:=λσ H R=>ta σ H λvs H1=>∃i j:Int,vs=[.int i,.int j]/\(-(2 ^ 62)<=i/\i<2 ^ 62/\-(2 ^ 62)<=j/\j<2 ^ 62)/\R (Rk i (j-i).toNat) H1
def Bf {a:Expr}{ta:TA}{p pos:Pos}(hg:Gl X "range")(hm:X.mg "range" = ξ)(ha:PA X [a] ta)(hs:aao [a] X.env=[(η,eval a X.env)]:=by rfl):PI X tg (.Call (.Name "range" p) [a] [] pos) (Pm ta):=by
 intro μ s σ H R I h;refine Call_ (mO I hg hm boot_range (ab8 (bQ (ha pos μ s σ H _ I h) λus s1 ⟨vs,H1,I1,r1,q1⟩=>?_) hs rfl));obtain⟨j,e,q1,q2,q⟩:=q1;subst e;cases r1 with
 |cons r rr =>
  cases rr;obtain⟨t,rfl⟩:=r;exact call_range_1 (vh I1 (by lia) (by lia) q1 q2 (by simpa using q))
def si {a b:Expr}{ta:TA}{p pos:Pos}(hg:Gl X "range")(hm:X.mg "range" = ξ)(ha:PA X [a,b] ta)(hs:aao [a,b] X.env=[(η,eval a X.env),(η,eval b X.env)]:=by rfl)(nK:aao [b] X.env=[(η,eval b X.env)]:=by rfl) :
  PI X tg (.Call (.Name "range" p) [a,b] [] pos) (Pl ta):=by
 intro μ s σ H R I h;refine Call_ (mO I hg hm boot_range (ab8 (bQ (ha pos μ s σ H _ I h) λus s1 ⟨vs,H1,I1,r1,q1⟩=>?_) (by rw[hs,nK]) (by rw[nK];rfl)))
 obtain⟨i,j,e,⟨q1,q2,q3,q4⟩,q⟩:=q1;subst e;cases r1 with
 |cons r rr =>
  cases rr with
  |cons r' rr =>
   cases rr;obtain⟨t,rfl⟩:=r;obtain⟨t',rfl⟩:=r';exact call_range_2 (vh I1 q1 q2 q3 q4 q)
def SM (wi:TI)(g:TG)(tb:TS):TS:=λD σ H=>wi σ H λJ H1=>∃W:Nat->Nat->St->Hp->Prop,(∃m,W 0 m σ H1)/\∀i m σ H,W i m σ H ->
 (J.stop i H/\D.nx σ H)\/(J.go i H/\∃N:St->Hp->Prop,(∀σ' H',N σ' H'->∃m',m'<m/\W (i+1) m' σ' H')/\∀x H',J.N4 i H x H'->g x σ H' λσ2 H2=>tb {D with nx:=N,ct:=N,bk:=D.nx} σ2 H2)
def pI (fp:List θ)(h:Heap):List (θ×Obj):=fp.filterMap λb=>(h.get? b).map λo=>(b,o)
def ik {fp:List θ}{h:Heap}{b:θ}{o:Obj}(hb:b∈fp)(e:h.get? b=ν o):(b,o)∈pI fp h:=ada.mpr {b,hb,by rw[e];rfl}
def Bj {fp:List θ}{h:Heap}{p:θ×Obj}(hp:p∈pI fp h):p.1∈fp/\h.get? p.1=ν p.2:=by
 obtain⟨b,hb,e⟩:=ada.mp hp;cases q:h.get? b with
 |none=>rw[q]at e;cases e
 |some o =>
  rw[q]at e;have e':(b,o)=p:=aaC e;subst e';exact{(hb),q}
def Inv.pinned {μ:List (θ×Obj)}{σ:St}{H:Hp}{s:ZZ}{fp:List θ}(I:Inv X μ σ H s)(hf:∀b∈fp,kU X μ H b)(ho:∀b∈fp,∃o,s.heap.get? b=ν o/\∀v,o.data≠.cell v):Inv X (μ++pI fp s.heap) σ H s :=
 I.zu λp hp=>(Z9.mp hp).elim (λz=>I.pin p (aaB _ z)) λz=>by
  obtain⟨hb,e⟩:=Bj z;obtain⟨f0,f1,f2,_⟩:=hf p.1 hb;obtain⟨o,e',d⟩:=ho p.1 hb;rw[e]at e';cases e';exact{(e),f0,f1,f2,d}
def Inv.k_ {μ pl:List (θ×Obj)}{σ:St}{H:Hp}{s:ZZ}(I:Inv X (μ++pl) σ H s):Inv X μ σ H s:=I.zu λp hp=>I.pin p (aaB _ (aaP _ hp))
def Dx {iter:Expr}{body:List Stmt}{wi:TI}{g:TG}{tb:TS}{pos:Pos}(hp:PassesOwn (Ψ X.prog X.w) X.A X.env X.xe)(hc:X.calm=ζ)(hi:PI X tg iter wi)(hg:PG X tg g)(hb:uO X body tb)
  (hs:∀x,aaO iter X.env x=pure x:=by intro _;rfl):PS X (.For tg iter body [] pos) (SM wi g tb):=by
 intro μ s σ H D I h;refine wpAny_For (bQ (hi μ s σ H _ I h) λv s1 h1=>bQ h1 λJN s2 h2=>?_) hs;obtain⟨it,fp,tn,J,H2,e,I2,T,iJ,f2,W,⟨m0,w0⟩,turn⟩:=h2;subst e;have xG:∀{H':Hp},(∀b∈fp,H' b=ξ)->∀b∈fp,kU X μ H' b:=λhn b hb=>{hn b hb,(f2 b hb).2};refine codeAny_forLoop_any (λn s'=>∃i σ' H',Inv X μ σ' H' s'/\tn i s'.heap/\(∀b∈fp,H' b=ξ)/\W i n σ' H') ?_ m0 {0,σ,H2,I2,iJ,λb hb=>(f2 b hb).1,w0};rintro n s3 ⟨i,σ3,H3,I3,o4,QS,w3⟩;rcases turn i n σ3 H3 w3 with⟨stop,qn⟩|⟨go,N,hN,step⟩
 ·refine ab2 hp (bQ (T.done X rfl rfl rfl hc i μ s3 σ3 H3 X.xe I3 (xG QS) o4 stop) λr s4 ⟨hr,I4⟩=>?_);subst hr;exact wpAny_execs_nil {(σ3),H3,I4,qn}
 ·refine ab2 hp (bQ (T.item X rfl rfl rfl hc i μ s3 σ3 H3 X.xe I3 (xG QS) o4 go) λr s4 ⟨u,hr,h4⟩=>?_);subst hr;refine ab2 hp (bQ h4 λ_ s5 ⟨x,H5,I5,r5,y5,K0,Vg⟩=>?_);have VH:=I5.pinned (xG Vg) (T.obj _ _ K0);refine ab2 hp (bQ (hg _ s5 σ3 H5 x u _ VH r5 (step x H5 y5)) λ_ s6 ⟨σ6,H6,I6,q6⟩=>?_);refine ab2 hp (bQ (hb _ s6 σ6 H6 _ I6 q6) λf s7 q7=>?_);have again:∀{σ7:St} {H7:Hp},Inv X (μ++pI fp s5.heap) σ7 H7 s7->N σ7 H7->∃m,m<n/\∃i σ' H',Inv X μ σ' H' s7/\tn i s7.heap/\(∀b∈fp,H' b=ξ)/\W i m σ' H':=λ{σ7 H7} I7 n7=>by
   obtain⟨m',hm,w7⟩:=hN σ7 H7 n7;refine{m',hm,i+1,σ7,H7,I7.k_,T.keep _ _ _ K0 λb hb o e=>(I7.pin (b,o) (aaB _ (aaB _ (ik hb e)))).1,λb hb=>?_,w7};obtain⟨o,e,d⟩:=T.obj _ _ K0 b hb;exact(I7.pin (b,o) (aaB _ (aaB _ (ik hb e)))).2.1
  cases f with
  |next=>obtain⟨σ7,H7,I7,n7⟩:=q7;exact again I7 n7
  |cont=>obtain⟨σ7,H7,I7,n7⟩:=q7;exact again I7 n7
  |brk=>obtain⟨σ7,H7,I7,q7⟩:=q7;exact{(σ7),H7,I7.k_,q7}
  |ret v=>obtain⟨x7,σ7,H7,I7,r7,q7⟩:=q7;exact{(x7),σ7,H7,I7.k_,r7,q7}
end
abbrev R2:=V->V->Hp->VK->Prop
def kS (X:Cx)(f:ZW->ZW->Sem ZW)(r:R2):Prop :=
 ∀(μ:List (θ×Obj)) (s:ZZ) (σ:St) (H:Hp) (x y:V) (v u:ZW) (Q:VK),Inv X μ σ H s->RelV x v->RelV y u->r x y H Q ->
  aau (Ψ X.prog X.w) X.A (f v u) (EP X μ σ Q) X.xe s
def Ra (X:Cx)(f:ZW->Sem ZW)(r:V->Hp->VK->Prop):Prop :=
 ∀(μ:List (θ×Obj)) (s:ZZ) (σ:St) (H:Hp) (x:V) (v:ZW) (Q:VK),Inv X μ σ H s->RelV x v->r x H Q ->
  aau (Ψ X.prog X.w) X.A (f v) (EP X μ σ Q) X.xe s
def f_ (X:Cx)(f:ZW)(r:List V->Hp->VK->Prop):Prop :=
 ∀(μ:List (θ×Obj)) (s:ZZ) (σ:St) (H:Hp) (xs:List V) (us:List ZW) (Q:VK),Inv X μ σ H s->Vals xs us->r xs H Q ->
  aau (Ψ X.prog X.w) X.A (call f us) (EP X μ σ Q) X.xe s
def VB (X:Cx)(r:V->Hp->(Bool->Hp->Prop)->Prop):Prop :=
 ∀(μ:List (θ×Obj)) (s:ZZ) (σ:St) (H:Hp) (x:V) (v:ZW) (Q:Bool->Hp->Prop),Inv X μ σ H s->RelV x v->r x H Q ->
  aau (Ψ X.prog X.w) X.A (truthy v) (TP X μ σ Q) X.xe s
def Oa (r:R2)(ta tb:TE):TE:=λσ H Q=>ta σ H λx H1=>tb σ H1 λy H2=>r x y H2 Q
def Xm (r:V->Hp->VK->Prop)(ta:TE):TE:=λσ H Q=>ta σ H λx H1=>r x H1 Q
def rI (C:Int->Int->Prop)(g:Int->Int->V):R2:=λx y H Q=>∃i j,x=.int i/\y=.int j/\C i j/\Q (g i j) H
def Dn (g:Int->Int->V):R2:=λx y H Q=>∃i j,x=.int i/\y=.int j/\Q (g i j) H
def rU (g:Int->V):V->Hp->VK->Prop:=λx H Q=>∃i,x=.int i/\Q (g i) H
section
variable {X:Cx}{a b:Expr}{ta tb:TE}{pos:Pos}
def Nf (ha:PE X a ta)(hb:PE X b tb){μ:List (θ×Obj)}{s:ZZ}{σ:St}{H:Hp}{R:V->V->Hp->Prop}(I:Inv X μ σ H s)
  (h:ta σ H λx H1=>tb σ H1 λy H2=>R x y H2) {Q:ZW->ZZ->Prop} {f:ZW->ZW->Sem ZW}
  (hf:∀v u s2 x y H2,Inv X μ σ H2 s2->RelV x v->RelV y u->R x y H2->aau (Ψ X.prog X.w) X.A (f v u) Q X.xe s2) :
  aau (Ψ X.prog X.w) X.A (eval a X.env) (λv s₁=>aau (Ψ X.prog X.w) X.A (eval b X.env) (λu s₂=>aau (Ψ X.prog X.w) X.A (f v u) Q X.xe s₂) X.xe s₁) X.xe s:=by
 refine bQ (ha μ s σ H _ I h) λv s1 ⟨x,H1,I1,r1,q1⟩=>?_;refine bQ (hb μ s1 σ H1 _ I1 q1) λu s2 ⟨y,H2,I2,r2,q2⟩=>?_;exact hf v u s2 x y H2 I2 r1 r2 q2
def eO {op:Operator}{r:R2}(ho:kS X (acd op) r)(ha:PE X a ta)(hb:PE X b tb):PE X (.BinOp a op b pos) (Oa r ta tb):=by
 intro μ s σ H Q I h;exact wpAny_BinOp (Nf ha hb I h λv u s2 x y H2 I2 rx ry q=>ho μ s2 σ H2 x y v u Q I2 rx ry q)
def DL {op:UnaryOp}{r:V->Hp->VK->Prop}(ho:Ra X (unaryOp op) r)(ha:PE X a ta):PE X (.UnaryOp op a pos) (Xm r ta):=by
 intro μ s σ H Q I h;exact UnaryOp_ (bQ (ha μ s σ H _ I h) λv s1 Uq=>by obtain⟨x,H1,I1,r1,q1⟩:=Uq;exact ho μ s1 σ H1 x v Q I1 r1 q1)
def RD {f:ZW->ZW->Sem ZW}{C:Int->Int->Prop}{g:Int->Int->Int}
  (rule:∀(i j:Int) (t u:Tok) (s:ZZ) (Q:ZW->ZZ->Prop) (E:ZW->ZZ->Prop),C i j->Q (.int (g i j) s.toks) {s with toks:=s.toks+1}->aau (Ψ X.prog X.w) X.A (f (.int i t) (.int j u)) Q E s) :
  kS X f (rI C λi j=>.int (g i j)):=by
 intro μ s σ H x y v u Q I rx ry h;obtain⟨i,j,rfl,rfl,hc,q⟩:=h;obtain⟨t,rfl⟩:=rx;obtain⟨t',rfl⟩:=ry;exact rule i j t t' s _ _ hc {.int (g i j),H,I.tok _,{_,rfl},q}
def OL {f:ZW->ZW->Sem ZW}{g:Int->Int->Int}
  (rule:∀(i j:Int) (t u:Tok) (s:ZZ) (Q:ZW->ZZ->Prop) (E:ZW->ZZ->Prop),Q (.int (g i j) s.toks) {s with toks:=s.toks+1}->aau (Ψ X.prog X.w) X.A (f (.int i t) (.int j u)) Q E s) :
  kS X f (Dn λi j=>.int (g i j)):=by
 intro μ s σ H x y v u Q I rx ry h;obtain⟨i,j,rfl,rfl,q⟩:=h;obtain⟨t,rfl⟩:=rx;obtain⟨t',rfl⟩:=ry;exact rule i j t t' s _ _ {.int (g i j),H,I.tok _,{_,rfl},q}
def Hu {f:ZW->ZW->Sem ZW}{g:Int->Int->Bool}
  (rule:∀(i j:Int) (t u:Tok) (s:ZZ) (Q:ZW->ZZ->Prop) (E:ZW->ZZ->Prop),Q (.bool (g i j)) s->aau (Ψ X.prog X.w) X.A (f (.int i t) (.int j u)) Q E s) :
  kS X f (Dn λi j=>.bl (g i j)):=by
 intro μ s σ H x y v u Q I rx ry h;obtain⟨i,j,rfl,rfl,q⟩:=h;obtain⟨t,rfl⟩:=rx;obtain⟨t',rfl⟩:=ry;exact rule i j t t' s _ _ {.bl (g i j),H,I,rfl,q}
def Gk (i j:Int):Prop:=0<=j/\j<=1000000/\i.natAbs<2 ^ 64
def qQ (i j:Int):Prop:=(-(2 ^ 64)<i/\i<2 ^ 64)\/(-(2 ^ 64)<j/\j<2 ^ 64)
def qQ.ok {i j:Int}(h:qQ i j):IntMulOk i j:=by
 rcases h with⟨h1,h2⟩|⟨h1,h2⟩
 ·exact .of_left (intBits_le_64 h1 h2)
 ·exact .of_right (intBits_le_64 h1 h2)
def xZ:kS X (acd .Add) (Dn λi j=>.int (i+j)):=OL λ_ _ _ _ _ _ _ q=>add_int q
def DW:kS X (acd .Sub) (Dn λi j=>.int (i-j)):=OL λ_ _ _ _ _ _ _ q=>sub_int q
def xX:kS X (acd .Mult) (rI qQ λi j=>.int (i*j)):=RD λ_ _ _ _ _ _ _ hc q=>mul_int q hc.ok
def pO:kS X (acd .Mod) (rI (λ_ j=>0<j) λi j=>.int (i % j)):=RD λi j _ _ _ _ _ hc q=>by
 have h1:(0:Int)<j:=hc;exact mod_int' (by lia) (by rw[Int.fmod_eq_emod_of_nonneg i (by lia)];exact q)
def t8:kS X (acd .Pow) (rI Gk λi j=>.int (i ^ j.toNat)):=RD λ_ _ _ _ _ _ _ hc q=>pow_int_small hc.1 hc.2.1 hc.2.2 q
def Xh {f:ZW->Sem ZW}{g:Int->Int}
  (rule:∀(i:Int) (t:Tok) (s:ZZ) (Q:ZW->ZZ->Prop) (E:ZW->ZZ->Prop),Q (.int (g i) s.toks) {s with toks:=s.toks+1}->aau (Ψ X.prog X.w) X.A (f (.int i t)) Q E s) :
  Ra X f (rU λi=>.int (g i)):=by
 intro μ s σ H x v Q I rx h;obtain⟨i,rfl,q⟩:=h;obtain⟨t,rfl⟩:=rx;exact rule i t s _ _ {.int (g i),H,I.tok _,{_,rfl},q}
def xB:Ra X (unaryOp .USub) (rU λi=>.int (-i)):=Xh λ_ _ _ _ _ q=>neg_int q
end
def S5:V->V->Bool
 |.cN,.cN=>ζ | .cN,.int _=>ζ | .int _,.cN=>ζ | .cN,.bl _=>ζ | .bl _,.cN=>ζ | .cN,.str _=>ζ | .str _,.cN=>ζ
 |.int _,.int _=>ζ | .bl _,.bl _=>ζ | .str _,.str _=>ζ | .F2 _,.F2 _=>ζ
 |.int _,.str _=>ζ | .str _,.int _=>ζ | .bl _,.str _=>ζ | .str _,.bl _=>ζ
 |_,_=>η
def XD:R2:=λx y H Q=>S5 x y=ζ/\Q (.bl (!decide (x=y))) H
def IL {i j:Int}:decide (V.int i=V.int j)=(i==j):=by
 rw[acE];simp
def M3 {i j:Bool}:decide (V.bl i=V.bl j)=(i==j):=by
 rw[acE];simp
def IK {i j:Str}:decide (V.str i=V.str j)=(i==j):=by
 rw[acE];simp
def IM {i j:Array UInt8}:decide (V.F2 i=V.F2 j)=(i.toList==j.toList):=by
 rw[acE];cases i;cases j;simp
section
variable {X:Cx}{a b c:Expr}{ta tb:TE}{pos:Pos}
def cM {μ:List (θ×Obj)}{σ:St}{H:Hp}{s:ZZ}{Q:VK}{k k':Bool}(I:Inv X μ σ H s)(q:Q (.bl k) H)(e:k=k'):EP X μ σ Q (.bool k') s:=by
 subst e;exact{.bl k,H,I,rfl,q}
def OI:kS X (aaR .NotEq) XD:=by
 intro μ s σ H x y v u Q I rx ry h;obtain⟨hs,q⟩:=h;cases x with
 |cN =>
  cases rx;cases y with
  |cN=>cases ry;exact PySem.EqNone.ne_none_none (cM I q (by simp))
  |bl j=>cases ry;exact PySem.EqNone.ne_none_bool (cM I q (by simp))
  |int j=>obtain⟨t',rfl⟩:=ry;exact PySem.EqNone.ne_none_int (cM I q (by simp))
  |str j=>obtain⟨t',rfl⟩:=ry;exact PySem.EqNone.ne_none_str (cM I q (by simp))
  |_=>exact Η (show η=ζ from hs) abg
 |bl i =>
  cases rx;cases y with
  |cN=>cases ry;exact PySem.EqNone.ne_bool_none (cM I q (by simp))
  |bl j=>cases ry;exact ne_bool (cM I q (Ι not M3))
  |str j=>obtain⟨t',rfl⟩:=ry;exact PySem.EqMixed.ne_bool_str (cM I q (by simp))
  |_=>exact Η (show η=ζ from hs) abg
 |int i =>
  obtain⟨t,rfl⟩:=rx;cases y with
  |cN=>cases ry;exact PySem.EqNone.ne_int_none (cM I q (by simp))
  |int j=>obtain⟨t',rfl⟩:=ry;exact ne_int (cM I q (Ι not IL))
  |str j=>obtain⟨t',rfl⟩:=ry;exact PySem.EqMixed.ne_int_str (cM I q (by simp))
  |_=>exact Η (show η=ζ from hs) abg
 |str i =>
  obtain⟨t,rfl⟩:=rx;cases y with
  |cN=>cases ry;exact PySem.EqNone.ne_str_none (cM I q (by simp))
  |bl j=>cases ry;exact PySem.EqMixed.ne_str_bool (cM I q (by simp))
  |int j=>obtain⟨t',rfl⟩:=ry;exact PySem.EqMixed.ne_str_int (cM I q (by simp))
  |str j=>obtain⟨t',rfl⟩:=ry;exact ne_str (cM I q (Ι not IK))
  |_=>exact Η (show η=ζ from hs) abg
 |F2 i =>
  obtain⟨t,rfl⟩:=rx;cases y with
  |F2 j=>obtain⟨t',rfl⟩:=ry;exact PySem.W.ne_bytes (cM I q (Ι not IM))
  |_=>exact Η (show η=ζ from hs) abg
 |_=>cases y <;> exact Η (show η=ζ from hs) abg
def OJ:kS X (aaR .Lt) (Dn λi j=>.bl (decide (i<j))):=Hu λ_ _ _ _ _ _ _ q=>lt_int q
def JB:kS X (aaR .LtE) (Dn λi j=>.bl (decide (i<=j))):=Hu λ_ _ _ _ _ _ _ q=>le_int q
def JC:kS X (aaR .Gt) (Dn λi j=>.bl (decide (j<i))):=Hu λ_ _ _ _ _ _ _ q=>gt_int q
def OK:kS X (aaR .GtE) (Dn λi j=>.bl (decide (j<=i))):=Hu λ_ _ _ _ _ _ _ q=>ge_int q
def LJ:kS X (aaR .Is) (λx y H Q=>y=.cN/\Q (.bl (decide (x=.cN))) H):=by
 intro μ s σ H x y v u Q I rx ry h;obtain⟨rfl,q⟩:=h;cases ry;refine is_none_gen (cM I q ?_);cases x <;> first
  | (cases rx;rfl)
  | (obtain⟨t,rfl⟩:=rx;rfl)
def Hq:kS X (aaR .IsNot) (λx y H Q=>y=.cN/\Q (.bl (!decide (x=.cN))) H):=by
 intro μ s σ H x y v u Q I rx ry h;obtain⟨rfl,q⟩:=h;cases ry;refine isnot_none_gen (cM I q ?_);cases x <;> first
  | (cases rx;rfl)
  | (obtain⟨t,rfl⟩:=rx;rfl)
def Ek (b:Expr){op:acQ}(h:op≠.In:=by decide)(h2:op≠.NotIn:=by decide):ab5 op b=η:=by
 have e1:(op==CmpOp.In)=η:=by cases op <;> first|rfl|exact Η rfl h
 have e2:(op==CmpOp.NotIn)=η:=by cases op <;> first|rfl|exact Η rfl h2
 cases b <;> simp[ab5,e1,e2]
def zA {op:acQ}{r:R2}(ho:kS X (aaR op) r)(ha:PE X a ta)(hb:PE X b tb)(hm:ab5 op b=η):PE X (.Compare a [op] [b] pos) (Oa r ta tb):=by
 intro μ s σ H Q I h;exact wpAny_Compare1 (Nf ha hb I h λv u s2 x y H2 I2 rx ry q=>ho μ s2 σ H2 x y v u Q I2 rx ry q) hm
def N9 (t:TE):TT:=λσ H Q=>t σ H λx H'=>∃k,x=.bl k/\Q k H'
def zj {op:acQ}{r:R2}(ho:kS X (aaR op) r)(ha:PE X a ta)(hb:PE X b tb)(hm:ab5 op b=η):PT X (.Compare a [op] [b] pos) (N9 (Oa r ta tb)):=by
 intro μ s σ H Q I h;refine wpAny_isTrue_Compare1 (bQ (ha μ s σ H _ I h) λv s1 ⟨x,H1,I1,r1,q1⟩=>bQ (hb μ s1 σ H1 _ I1 q1) λu s2 ⟨y,H2,I2,r2,q2⟩ =>
  bQ (ho μ s2 σ H2 x y v u _ I2 r1 r2 q2) λc s3 ⟨z,H3,I3,r3,k,e,q3⟩=>?_) hm
 subst e;cases r3;exact abG {(H3),I3,q3}
def Rb (K:Ξ)(x:V)(H:Hp)(k:Bool):Prop :=
 match x with
 |.cN=>k=η
 |.bl b=>k=b
 |.int i=>k=(i != 0)
 |.str y=>y.length<=aak/\k=((y.length:Int) != 0)
 |.F2 y=>y.size<=aak/\k=((y.size:Int) != 0)
 |.ref p=>(∃xs,fb K H p xs/\k=!xs.isEmpty)\/(∃xs,nk K H p xs/\k=!xs.isEmpty)\/∃kvs,H p=ν (.dK kvs)/\k=!kvs.isEmpty
 |_=>False
def yn {κ:Type}{kvs:List (κ×V)}{vs:List (κ×ZW)}(r:KV kvs vs):(!vs.isEmpty)=!kvs.isEmpty:=by
 cases r <;> rfl
def qb {xs:List V}{its:List ZW}(r:Vals xs its):(!its.toArray.isEmpty)=!xs.isEmpty:=by
 cases r <;> simp
def pX:(aak:Nat)<2 ^ 63:=by rw[aaT];decide
def KJ:VB X (λx H Q=>∃k,Rb X.K x H k/\Q k H):=by
 intro μ s σ H x v Q I rx h;obtain⟨k,e,q⟩:=h;have hl:=pX;have hs:aak=16777216:=aaT;cases x with
 |cN =>
  cases rx;have e':k=η:=e;subst e';exact truthy_none {(H),I,q}
 |bl b =>
  cases rx;have e':k=b:=e;subst e';exact abG {(H),I,q}
 |int i =>
  obtain⟨t,rfl⟩:=rx;have e':k=(i != 0):=e;subst e';exact PySem.P.truthy_int {(H),I,q}
 |str y =>
  obtain⟨t,rfl⟩:=rx;obtain⟨hy,e'⟩:y.length<=aak/\k=((y.length:Int) != 0):=e;subst e';exact PySem.P.truthy_str (by lia) {H,I.tok _,q}
 |F2 y =>
  obtain⟨t,rfl⟩:=rx;obtain⟨hy,e'⟩:y.size<=aak/\k=((y.size:Int) != 0):=e;subst e';exact PySem.W.truthy_bytes (by lia) {H,I.tok _,q}
 |ref p =>
  cases rx;have e':(∃xs,fb X.K H p xs/\k=!xs.isEmpty)\/(∃xs,nk X.K H p xs/\k=!xs.isEmpty)\/∃kvs,H p=ν (.dK kvs)/\k=!kvs.isEmpty:=e;rcases e' with⟨xs,hx,e'⟩|⟨xs,hx,e'⟩|⟨kvs,hx,e'⟩
  ·subst e';obtain⟨its,r,pl,hz⟩:=I.list hx;have hlen:=r.length;exact wpAny_truthy_list pl.isList (by simp only[aas];lia) {H,I.tok _,by rw[qb r];exact q}
  ·subst e';obtain⟨its,r,pl,hz⟩:=I.tuple hx;have hlen:=r.length;exact truthy_tuple pl (by simp only[aas];lia) {H,I.tok _,by rw[qb r];exact q}
  ·subst e';obtain⟨hz,hS,vs,r,m⟩:kvs.length<=aak/\(p==acR)=η/\∃vs,KV kvs vs/\s.heap.DictOf (cS X.prog X.w) p vs:=I.b9 p _ hx;have hlen:kvs.length=vs.length:=Paired.length r;exact wpAny_truthy_dict hS m (by lia) {H,I.tok _,by rw[yn r];exact q}
 |_=>exact(show False from e).elim
def Dv (ha:PE X a ta)(he:∀whole,isTrue a X.env whole=(do let v <- whole;adm a.pos;holding [v] (truthy v))):
  PT X a (λσ H Q=>ta σ H λx H'=>∃k,Rb X.K x H' k/\Q k H'):=by
 intro μ s σ H Q I h;exact isTrue_plain (bQ (ha μ s σ H _ I h) λv s1 Up=>by obtain⟨x,H1,I1,r1,q1⟩:=Up;exact KJ μ s1 σ H1 x v Q I1 r1 q1) (he _)
def vals1 {x:V}{us:List ZW}(r:Vals [x] us):∃u,us=[u]/\RelV x u:=by
 cases r with
 |cons r1 r2=>cases r2;exact{_,rfl,r1}
def vals2 {x y:V}{us:List ZW}(r:Vals [x,y] us):∃u w',us=[u,w']/\RelV x u/\RelV y w':=by
 cases r with
 |cons r1 r2 =>
  cases r2 with
  |cons r3 r4=>cases r4;exact{_,_,rfl,r1,r3}
def tm (hc:X.calm=ζ):f_ X (.builtin "max") (λxs H Q=>∃i j,xs=[.int i,.int j]/\Q (.int (if j>i then j else i)) H):=by
 intro μ s σ H xs us Q I r h;obtain⟨i,j,rfl,q⟩:=h;obtain⟨u,w',rfl,⟨t,rfl⟩,⟨t',rfl⟩⟩:=vals2 r;refine max_two_ints (I.ok.hd hc) λh' tk k=>{_,H,I.kept k,?_,q}
 by_cases hj:j>i
 ·rw[χ hj,χ hj];exact{_,rfl}
 ·rw[ω hj,ω hj];exact{_,rfl}
def BU (hc:X.calm=ζ):f_ X (.builtin "min") (λxs H Q=>∃i j,xs=[.int i,.int j]/\Q (.int (if j<i then j else i)) H):=by
 intro μ s σ H xs us Q I r h;obtain⟨i,j,rfl,q⟩:=h;obtain⟨u,w',rfl,⟨t,rfl⟩,⟨t',rfl⟩⟩:=vals2 r;refine min_two_ints (I.ok.hd hc) λh' tk k=>{_,H,I.kept k,?_,q}
 by_cases hj:j<i
 ·rw[χ hj,χ hj];exact{_,rfl}
 ·rw[ω hj,ω hj];exact{_,rfl}
def m_:f_ X (.type "int") (λxs H Q=>(∃i,xs=[.int i]/\Q (.int i) H)\/∃k,xs=[.bl k]/\Q (.int (if k then 1 else 0)) H):=by
 intro μ s σ H xs us Q I r h;rcases h with⟨i,rfl,q⟩|⟨k,rfl,q⟩
 ·obtain⟨u,rfl,t,rfl⟩:=vals1 r;exact call_int_int {.int i,H,I,{_,rfl},q}
 ·obtain⟨u,rfl,r1⟩:=vals1 r;cases r1;exact call_int_bool {.int (if k then 1 else 0),H,I.tok _,{_,rfl},q}
end
def rO.some_of {v:V}{o:Option ZW}(r:rO (ν v) o):∃u,o=ν u/\RelV v u:=by
 cases o with
 |none=>exact(show False from r).elim
 |some u=>exact{(u),rfl,r}
structure dU (k:Nat)(A:aaX):Prop where
 hd:A.handled=ξ
 dp:A.depth+3*k+5<recursionLimit
 un:A.units+16*k+200<abQ
def dU.mono {j k:Nat}{A:aaX}(r:dU k A)(h:j<=k):dU j A:={r.hd,by have:=r.dp;lia,by have:=r.un;lia}
def dU.deeper {k:Nat}{A:aaX}(r:dU (k+1) A)(env:Env):dU k (A.deeper env) :=
 {r.hd,by have:=r.dp;show A.depth+1+3*k+5<_;lia,by have:=r.un;show A.units+3+16*k+200<_;lia}
def dU.depth {k:Nat}{A:aaX}(r:dU k A):A.depth<recursionLimit:=by have:=r.dp;lia
def dU.units {k:Nat}{A:aaX}(r:dU k A):A.units+64<abQ:=by have:=r.un;lia
def dU.KD {k:Nat}{A:aaX}(r:dU k A):A.units<abQ:=by have:=r.un;lia
def KW:TA:=λ_ H Q=>Q [] H
def Jq (ta:TE)(tr:TA):TA:=λσ H Q=>ta σ H λx H1=>tr σ H1 λxs H2=>Q (x::xs) H2
section
variable {X:Cx}{e:Expr}{es:List Expr}{te:TE}{t:TA}{pos:Pos}
def d6:PA X [] KW:=λ_ _ _ _ H Q I h=>Calls.spliced_nil {[],H,I,.nil,h}
def bM (ha:PE X e te)(hr:PA X es t)(hs:aao (e::es) X.env=(η,eval e X.env)::aao es X.env:=by rfl):PA X (e::es) (Jq te t):=by
 intro pos μ s σ H Q I h;rw[hs];show aau _ _ (spliced ((η,eval e X.env)::abK pos (aao es X.env))) _ _ s;refine Calls.spliced_cons (bQ (ha μ s σ H _ I h) λu s1 ⟨x,H1,I1,r1,q1⟩=>?_);exact bQ (hr pos μ s1 σ H1 _ I1 q1) λus s2 ⟨xs,H2,I2,r2,q2⟩=>{x::xs,H2,I2,.cons r1 r2,q2}
def SA (t:TA):TE:=λσ H Q=>t σ H λxs H1=>xs.length<=aak/\∀p,H1 p=ξ->Q (.ref p) (upd H1 p (.tup xs))
def SJ (t:TA):TE:=λσ H Q=>t σ H λxs H1=>xs.length<=aak/\∀p,H1 p=ξ->Q (.ref p) (upd H1 p (.lst xs))
def DM {x1}(h:PA X es t):PE X (.Tuple es x1 pos) (SA t):=by
 intro μ s σ H Q I hq;refine wpAny_Tuple_spliced (bQ (h pos μ s σ H _ I hq) λus s1 ⟨xs,H1,I1,r,z,q⟩=>{by rw[<- r.length];exact z,?_})
 have hf:H1 s1.heap.objs.size=ξ:=I1.b9.fresh (ZX _);refine{.ref s1.heap.objs.size,upd H1 s1.heap.objs.size (.tup xs),I1.laid (t':=s1.toks) (λb u e=>Z3 _ e) (ZX _) ?_,rfl,q _ hf};exact{z,us,r,{_,aay _ rfl,rfl,_,rfl}}
def xV (h:PA X es t):PE X (.List es pos) (SJ t):=by
 intro μ s σ H Q I hq;refine wpAny_List_spliced (bQ (h pos μ s σ H _ I hq) λus s1 ⟨xs,H1,I1,r,z,q⟩=>{by rw[<- r.length];exact z,?_})
 have hf:H1 s1.heap.objs.size=ξ:=I1.b9.fresh (ZX _);refine{.ref s1.heap.objs.size,upd H1 s1.heap.objs.size (.lst xs),I1.laid (t':=s1.toks) (λb u e=>Z3 _ e) (ZX _) ?_,rfl,q _ hf};exact{z,us,0,r,aay _ rfl}
end
abbrev Sp:=List V->Hp->VK->XK->Prop
abbrev Gj:=List Env->Hp->ZZ->XK->ZW->ZZ->Prop
structure Jm (P:Z6)(w:aam)(K:Ξ)(mg:Str->Option ZW)(base:Heap)(A:aaX)(outer:List Env)(s:ZZ)(H:Hp):Prop where
 frames:A.frames=ν outer
 mod:Mod K mg base
 bs:∀b o,base.get? b=ν o->s.heap.get? b=ν o/\H b=ξ
 Kb:base.objs.size<=s.heap.objs.size
 qi:s.heap.FunFrames base outer
 NJ:∀b∈Fi outer,H b=ξ
 b9:kZ P w H s.heap
 bare:AllBare s.gens
def CE (outer:List Env)(P:Z6)(w:aam)(H:Hp)(s:ZZ)(Q:VK)(u:ZW)(s':ZZ):Prop :=
 ∃v H',s'.os=s.os/\AllBare s'.gens/\Un (Fi outer) [] H H' s.heap s'.heap/\kZ P w H' s'.heap/\RelV v u/\Q v H'
def CR (CX:Gj)(outer:List Env)(P:Z6)(w:aam)(H:Hp)(s:ZZ)(Q:VK)(E:XK)(r:Result)(s':ZZ):Prop :=
 match r with
 |.ok (.ret u)=>CE outer P w H s Q u s'
 |.ok _=>False
 |.error e=>CX outer H s E e s'
structure aG (P:Z6)(w:aam)(K:Ξ)(mg:Str->Option ZW)(base:Heap)(CX:Gj)(k:Nat)(f:θ)(fd:aaI)(ps:List Str)(sp:Sp):Prop where
 len:∀vs H Q E,sp vs H Q E->vs.length=ps.length
 run:∀(A:aaX) (outer:List Env) (s:ZZ) (H:Hp) (args:Args) (us:List ZW) (vs:List V) (Q:VK) (E:XK),dU k A->Jm P w K mg base A outer s H->BindsTo s fd args (ps.zip us)->Vals vs us->sp vs H Q E ->
  adp (Ψ P w) A (.call (.ref f) args) (CR CX outer P w H s Q E) s
def aG.imp {P:Z6}{w:aam}{K:Ξ}{mg:Str->Option ZW}{base:Heap}{CX:Gj}{k:Nat}{f:θ}{fd:aaI}{ps:List Str}{sp VW:Sp}(F:aG P w K mg base CX k f fd ps sp)
  (h:∀vs H Q E,VW vs H Q E->sp vs H Q E):aG P w K mg base CX k f fd ps VW :=
 {λvs H Q E q=>F.len vs H Q E (h _ _ _ _ q),λA outer s H args us vs Q E hr he hb hv hs=>F.run A outer s H args us vs Q E hr he hb hv (h _ _ _ _ hs)}
section
variable {X:Cx}{μ:List (θ×Obj)}{σ:St}{H:Hp}{s s':ZZ}
def Inv.Vn (I:Inv X μ σ H s):Jm X.prog X.w X.K X.mg X.base X.A X.stack s H :=
 {I.ok.frames,I.ok.mod,I.bs,aaH I.ok.Kb I.sz,I.stack,I.y_,I.b9,I.bare}
def Inv.after {Q:VK}{u:ZW}(I:Inv X μ σ H s)(h:CE X.stack X.prog X.w H s Q u s'):EP X μ σ Q u s':=by
 obtain⟨v,H',os,bare,un,b9,r,q⟩:=h;obtain⟨hh,g,d,t,Tx⟩:=s';obtain rfl:Tx=s.os:=os;exact{v,H',I.call (h':=hh) (g':=g) (d':=d) (t':=t) (ch:=[]) un b9 bare (λb z=>Η z (by simp)),r,q}
end
def Od (sp:Sp)(J4:List V)(E:XK)(t:TA):TE:=λσ H Q=>t σ H λvs H1=>sp (vs++J4) H1 Q E
def Binds (K:Ξ)(fd:aaI)(ps:List Str)(ds:List ZW):Prop :=
 ∀(s:ZZ) (us:List ZW),K.In s.heap->(us++ds).length=ps.length->BindsTo s fd {us,[]} (ps.zip (us++ds))
def Binds.all {K:Ξ}{fd:aaI}{ps:List Str}(h:∀us:List ZW,us.length=ps.length->bindArgs fd {us,[]}=pure (ps.zip us)):Binds K fd ps []:=λs us _ hl=>by
 rw[aa9]at hl ⊢
 exact .of_eq (h us hl)
def Passes (CX:Gj)(X:Cx)(E:XK):Prop:=∀(μ:List (θ×Obj)) (σ:St) (H:Hp) (s:ZZ) (e:ZW) (s':ZZ),Inv X μ σ H s->CX X.stack H s E e s'->X.xe e s'
section
variable {X:Cx}{CX:Gj}{k:Nat}{f:θ}{fd:aaI}{ps:List Str}{sp:Sp}{J4:List V}{ds:List ZW}{E:XK}{x:Str}{p pos:Pos}{e:Expr}{es:List Expr}{t:TA}
def K_ {μ:List (θ×Obj)}{σ:St}{H:Hp}{s:ZZ}{Q:VK}{us:List ZW}{vs:List V}(F:aG X.prog X.w X.K X.mg X.base CX k f fd ps sp)(hr:dU k X.A)(hb:Binds X.K fd ps ds)(hd:Vals J4 ds)(hx:Passes CX X E)
  (I:Inv X μ σ H s) (r:Vals vs us) (h:sp (vs++J4) H Q E):aau (Ψ X.prog X.w) X.A (call (.ref f) us) (EP X μ σ Q) X.xe s:=by
 have r2:Vals (vs++J4) (us++ds):=r.append hd;have hl:(us++ds).length=ps.length:=by rw[<- r2.length];exact F.len _ _ _ _ h
 refine wpAny_call (abW (F.run X.A X.stack s H {us,[]} (us++ds) (vs++J4) Q E hr I.Vn (hb s us I.Nv hl) r2 h) λr s' hq=>?_);cases r with
 |error e=>exact hx μ σ H s e s' I hq
 |ok fl =>
  cases fl with
  |ret u=>exact I.after hq
  |next=>exact ach hq
  |brk=>exact ach hq
  |cont=>exact ach hq
def zB (F:aG X.prog X.w X.K X.mg X.base CX k f fd ps sp)(hr:dU k X.A)(hg:Gl X x)(hm:X.mg x=ν (.ref f))(hk:υ X.K (.ref f)=ζ)(hb:Binds X.K fd ps ds)(hd:Vals J4 ds)(hx:Passes CX X E)
  (ha:PA X (e::es) t) (hdb:(x==("__debug__" : Str))=η:=by decide) (he:aao (e::es) X.env=(η,eval e X.env)::aao es X.env:=by rfl) (hpl:(abK pos (aao es X.env)).any (·.1)=η:=by rfl) :
  PE X (.Call (.Name x p) (e::es) [] pos) (Od sp J4 E t):=by
 intro μ s σ H Q I h;refine ac8 (HZ I hg hm ?_ hdb);refine PySem.W.callWith_K (h₀:=X.base) I.ok.mod.TV hk (bQ (ha pos μ s σ H _ I h) λus s1 ⟨vs,H1,I1,r,q⟩=>{I1.Nv,?_}) he hpl;exact K_ F hr hb hd hx I1 r q
end
structure aN (N P:List Str)(sc:acn):Prop where
 kind:sc.kind=.function
 co:sc.isCoroutine=η
 gen:sc.isGenerator=η
 nd:N.Nodup
 pre:N.take P.length=P
 par:∀x∈P,sc.names.lookup x=ν .local\/sc.names.lookup x=ν .cell
 LV:∀y∈sc.names,y.2≠.free
def mkS{N P:List Str}{sc:acn}(h0:sc.kind=.function:=by rfl)(h1:sc.isCoroutine=η:=by rfl)(h2:sc.isGenerator=η:=by rfl)(h3:N.Nodup:=by decide +kernel)(h4:N.take P.length=P:=by rfl)(h5:∀x∈P,sc.names.lookup x=ν .local\/sc.names.lookup x=ν .cell:=by decide +kernel)(h6:∀y∈sc.names,y.2≠.free:=by decide +kernel):aN N P sc:={(h0),h1,h2,h3,h4,h5,h6}
theorem tq {kindOf:Str->Option acY}{x:Str}:∀{binds:List (Str×ZW)} {m:Str->Option ZW},(∀v,(x,v)∉binds)->bindL kindOf binds m x=m x
 |[],_,_=>rfl
 | (n,v)::r,m,h=>by
  unfold bindL;rw[tq λw hw=>h w (aac _ hw)]
  split
  ·have:x≠n:=by rintro rfl;exact h v Z7
   simp[this]
  ·rfl
theorem tw {kindOf:Str->Option acY}{x:Str}:∀{binds:List (Str×ZW)} {m:Str->Option ZW},(∀v,(x,v)∉binds)->bindC kindOf binds m x=m x
 |[],_,_=>rfl
 | (n,v)::r,m,h=>by
  unfold bindC;rw[tw λw hw=>h w (aac _ hw)]
  split
  ·rfl
  ·have:x≠n:=by rintro rfl;exact h v Z7
   simp[this]
theorem tu {kindOf:Str->Option acY}{x:Str}{v:ZW}:∀{P:List Str} {vs:List ZW} {i:Nat} {m:Str->Option ZW},P.Nodup->P[i]?=ν x->vs[i]?=ν v->kindOf x=ν .local ->
  bindL kindOf (P.zip vs) m x=ν v
 |[],_,_,_,_,h,_,_=>by simp at h
 |_::_,[],_,_,_,_,h,_=>by simp at h
 |p::P,w::vs,0,m,nd,h1,h2,hk=>by
  simp at h1 h2;subst h1;subst h2;show bindL kindOf ((p,w)::P.zip vs) m p=_;unfold bindL;rw[tq λv hv=>(aaA.mp nd).1 (List.of_mem_zip hv).1,χ hk];simp
 |p::P,w::vs,i+1,m,nd,h1,h2,hk=>by
  show bindL kindOf ((p,w)::P.zip vs) m x=_;unfold bindL;exact tu (i:=i) (aaA.mp nd).2 (by simpa using h1) (by simpa using h2) hk
theorem tx {kindOf:Str->Option acY}{x:Str}{v:ZW}:∀{P:List Str} {vs:List ZW} {i:Nat} {m:Str->Option ZW},P.Nodup->P[i]?=ν x->vs[i]?=ν v->kindOf x≠ν .local ->
  bindC kindOf (P.zip vs) m x=ν v
 |[],_,_,_,_,h,_,_=>by simp at h
 |_::_,[],_,_,_,_,h,_=>by simp at h
 |p::P,w::vs,0,m,nd,h1,h2,hk=>by
  simp at h1 h2;subst h1;subst h2;show bindC kindOf ((p,w)::P.zip vs) m p=_;unfold bindC;rw[tw λv hv=>(aaA.mp nd).1 (List.of_mem_zip hv).1,ω hk];simp
 |p::P,w::vs,i+1,m,nd,h1,h2,hk=>by
  show bindC kindOf ((p,w)::P.zip vs) m x=_;unfold bindC;exact tx (i:=i) (aaA.mp nd).2 (by simpa using h1) (by simpa using h2) hk
def start (N:List Str)(vs:List V):St:=vs.map ν++acf (N.length-vs.length) ξ
noncomputable def rJ (CX:Gj)(P:Z6)(w:aam)(K:Ξ)(mg:Str->Option ZW)(base:Heap)(N:List Str)(qual:Str)(scope:acn)(f:θ)(cd:ZW)(A:aaX)(outer:List Env)(s:ZZ)(H:Hp)(E:XK):Cx where
 prog:=P
 w:=w
 K:=K
 mg:=mg
 base:=base
 A:=A.deeper (envOfC qual scope s.heap.objs.size f cd)
 N:=N
 s₀:=s
 H₀:=H
 env:=envOfC qual scope s.heap.objs.size f cd
 outer:=outer
 stack:=envOfC qual scope s.heap.objs.size f cd::outer
 ex:=[]
 calm:=ζ
 fn:=λ_=>ζ
 pn:=[]
 xe:=λe s'=>aau (Ψ P w) (A.deeper (envOfC qual scope s.heap.objs.size f cd)) (leaving (envOfC qual scope s.heap.objs.size f cd) e) (λ_ S7=>CX outer H s E e S7) (λe' S7=>CX outer H s E e' S7) s'
def wV {sc:acn}{n:Nat}{x:Str}(h:sc.names.lookup x=ν .cell):∃c,(cellsFrom n sc.names []).lookup x=ν c:=by
 have q:=PySem.W.cellsFrom_some sc.names n [] (.inl h);exact Option.isSome_iff_exists.mp q
def By {CX:Gj}{P:Z6}{w:aam}{K:Ξ}{mg:Str->Option ZW}{base:Heap}{N ps:List Str}{qual:Str}{scope:acn}{f:θ}{cd:ZW}{A:aaX}{outer:List Env}{s s1:ZZ}{H:Hp}{E:XK}{us:List ZW}{vs:List V}
  (S:aN N ps scope) (hd:A.handled=ξ) (e0:Jm P w K mg base A outer s H) (hl:vs.length=ps.length) (r:Vals vs us)
  (x:InCallC s s.heap.objs.size (bindL (envOfC qual scope s.heap.objs.size f cd).kindOf (ps.zip us) λ_=>ξ) (cellsFrom (s.heap.objs.size+1) scope.names []) (bindC (envOfC qual scope s.heap.objs.size f cd).kindOf (ps.zip us) λ_=>ξ) s1) :
  Inv (rJ CX P w K mg base N qual scope f cd A outer s H E) [] (start N vs) H s1:=by
 have hpl:ps.length<=N.length:=by have:=Ι List.length S.pre;rw[aaw]at this;lia
 obtain⟨h1,tk,rfl,hk⟩:=x.done;have OS:∀b:θ,b∉(rJ CX P w K mg base N qual scope f cd A outer s H E).ex:=λb z=>Η (show b∈([]:List θ) from z) (by simp)
 refine⟨{e0.mod,S.kind,rfl,rfl,ZX _,λy z c h1 h2=>?_,λy hy=>?_,λy c _ h=>?_,λ_=>hd,Around.frames_deeper e0.frames,.inr {(rfl),rfl},λb z=>Η z (OS b),e0.bs,e0.Kb,λb _ _=>OS b,λb z=>Η z (OS b),e0.qi,e0.NJ},
  rfl,e0.bare,Un.kept hk,{_,x.toInCall.ns,λi y v h1 h2 h3=>?_},λy c h=>{_,x.cell y c h},e0.b9.fresh (ZX _),λy c h=>?_,λp hp=>Η (show p∈([]:List (θ×Obj)) from hp) (by simp),e0.b9.kept hk,?_⟩
 ·exact name_of_addr x.apart (PySem.mem_of_lookup h1) (PySem.mem_of_lookup h2)
 ·have hy:scope.names.lookup y=ν .cell\/scope.names.lookup y=ν .free:=hy;rcases hy with hy|hy
  ·exact wV hy
  ·exact Η rfl (S.LV _ (PySem.mem_of_lookup hy))
 ·exact Nat.le_of_lt (x.above y c (PySem.mem_of_lookup h))
 ·have hi:i<vs.length:=by
   unfold start at h2
   by_cases hi:i<vs.length
   ·exact hi
   ·rw[aa4 (by simpa using hi)]at h2
    rw[List.getElem?_replicate]at h2
    split at h2 <;> cases h2
  have ha:vs[i]?=ν v:=by
   unfold start at h2;rw[abl (by simpa using hi),aah]at h2
   cases e:vs[i]? with
   |none=>rw[e]at h2;cases h2
   |some a=>rw[e]at h2;cases h2;rfl
  obtain⟨u,hu,rv⟩:=r.get ha;have hp:ps[i]?=ν y:=by
   rw[<- S.pre,acw (by lia)];exact h1
  have Wf:ps.Nodup:=by rw[<- S.pre];exact S.nd.sublist (acL _ _)
  refine{u,rv,?_};rcases S.par y (aaF hp)with k|k
  ·exact .inl {k,tu Wf hp hu k}
  ·obtain⟨c,e⟩:=wV (n:=s.heap.objs.size+1) k;refine .inr {.inl k,c,e,?_};have q:=x.cell y c e;rw[tx Wf hp hu (by show scope.names.lookup y≠_;rw[k];decide)]at q
   exact q
 ·exact e0.b9.fresh (Nat.le_of_lt (x.above y c (PySem.mem_of_lookup h)))
 ·unfold start;show _=N.length;rw[aag,ZU,List.length_replicate];lia
def QT {CX:Gj}{P:Z6}{w:aam}{K:Ξ}{mg:Str->Option ZW}{base:Heap}{k:Nat}{f:θ}{name qual:Str}{params:Arguments}{body:List Stmt}{scope:acn}{dV kV doc pm c_ ct oc:ZW}{an od:Option θ}
  {LI:Array (Option ZW)} {N ps:List Str} {sp:Sp} (lk:K.lookup f=ν {oc,od,.func (Ε name qual params body scope dV kV doc pm an c_ ct),LI}) (Gs:PySem.W.codeIn K c_ qual=ζ) (S:aN N ps scope)
  (len:∀vs H Q E,sp vs H Q E->vs.length=ps.length)
  (qh:∀(A:aaX) (outer:List Env) (s:ZZ) (H:Hp) (vs:List V) (Q:VK) (E:XK),dU k (A.deeper (envOfC qual scope s.heap.objs.size f c_))->sp vs H Q E ->
   ∃t,uO (rJ CX P w K mg base N qual scope f c_ A outer s H E) body t/\t {nx:=λ_ H'=>Q .cN H',rt:=Q} (start N vs) H) :
  aG P w K mg base CX (k+1) f (Ε name qual params body scope dV kV doc pm an c_ ct) ps sp:=by
 refine{len,λA outer s H args us vs Q E hr e0 hb r vW=>?_};have hl:=len _ _ _ _ vW;have KX:K.In s.heap:=e0.mod.TV.keeps λb o e=>(e0.bs b o e).1;have lim:s.heap.NoLimit:=e0.mod.nolimit.keeps λb o e=>(e0.bs b o e).1;have QE:∀y∈ps.zip us,scope.names.lookup y.1=ν .local\/(scope.names.lookup y.1=ν .cell/\((cellsFrom (s.heap.objs.size+1) scope.names []).lookup y.1).isSome=ζ):=λUo hy=>by
  obtain⟨n,v⟩:=Uo;rcases S.par n (List.of_mem_zip hy).1 with q|q
  ·exact .inl q
  ·exact .inr {q,PySem.W.cellsFrom_some _ _ _ (.inl q)}
 refine codeAny_call_function hr.depth (KX _ _ lk) rfl S.co S.gen rfl (PySem.W.codeRec_of KX Gs) (hb _ _ _ _ ?_);refine wpAny_newFunctionEnv_cells S.kind QE λenv he s1 x=>?_;subst he;refine{lim.keeps x.toInCall.keep,codeAny_func ?_};obtain⟨t,ht,hq⟩:=qh A outer s H vs Q E (hr.deeper _) vW;have I:Inv (rJ CX P w K mg base N qual scope f c_ A outer s H E) [] (start N vs) H s1:=By S hr.hd e0 hl r x;refine ac7 (ht [] s1 (start N vs) H _ I hq) (λfl s' hs=>?_) λe s' hs=>hs;have fin:∀{σ':St} {H':Hp} {v:V} {u:ZW},Inv (rJ CX P w K mg base N qual scope f c_ A outer s H E) [] σ' H' s'->RelV v u->Q v H'->CE outer P w H s Q u s' :=
  λ{σ' H' v u} J rv q=>{(v),H',J.os,J.bare,J.base,J.b9,rv,q}
 cases fl with
 |ret u =>
  obtain⟨v,σ',H',J,rv,q⟩:=hs;exact fin J rv q
 |next =>
  obtain⟨σ',H',J,q⟩:=hs;exact fin (v:=V.cN) (u:=Value.none) J rfl q
 |brk =>
  obtain⟨_,_,_,q⟩:=hs;exact ach q
 |cont =>
  obtain⟨_,_,_,q⟩:=hs;exact ach q
section
variable {X:Cx}{x:Str}{p pos:Pos}{e:Expr}{es:List Expr}{t:TA}{id T:String}{r:List V->Hp->VK->Prop}
def Ru (r:List V->Hp->VK->Prop)(t:TA):TE:=λσ H Q=>t σ H λvs H1=>r vs H1 Q
def lH (hc:f_ X (.builtin id) r)(hg:Gl X x)(hm:X.mg x=ξ)(hv:abi x=ν (.builtin id))(ha:PA X (e::es) t)(hn:x≠"__name__" := by decide)(hdb:(x==("__debug__" : Str))=η:=by decide)
  (he:aao (e::es) X.env=(η,eval e X.env)::aao es X.env:=by rfl) (hpl:(abK pos (aao es X.env)).any (·.1)=η:=by rfl):PE X (.Call (.Name x p) (e::es) [] pos) (Ru r t):=by
 intro μ s σ H Q I h;refine ac8 (mO I hg hm hv ?_ hn hdb);exact PyProof.Rows.callWith_builtin1 (bQ (ha pos μ s σ H _ I h) λus s1 Um=>by obtain⟨vs,H1,I1,r1,q1⟩:=Um;exact hc μ s1 σ H1 vs us Q I1 r1 q1) he hpl
def mG (hc:f_ X (.type T) r)(hg:Gl X x)(hm:X.mg x=ξ)(hv:abi x=ν (.type T))(ha:PA X (e::es) t)(hn:x≠"__name__" := by decide)(hdb:(x==("__debug__" : Str))=η:=by decide)
  (he:aao (e::es) X.env=(η,eval e X.env)::aao es X.env:=by rfl) (hpl:(abK pos (aao es X.env)).any (·.1)=η:=by rfl):PE X (.Call (.Name x p) (e::es) [] pos) (Ru r t):=by
 intro μ s σ H Q I h;refine ac8 (mO I hg hm hv ?_ hn hdb);exact ab8 (bQ (ha pos μ s σ H _ I h) λus s1 Ul=>by obtain⟨vs,H1,I1,r1,q1⟩:=Ul;exact hc μ s1 σ H1 vs us Q I1 r1 q1) he hpl
def xW (hc:f_ X (.type T) r)(hg:Gl X x)(hm:X.mg x=ξ)(hv:abi x=ν (.type T))(hn:x≠"__name__" := by decide)(hdb:(x==("__debug__" : Str))=η:=by decide) :
  PE X (.Call (.Name x p) [] [] pos) (Ru r KW):=by
 intro μ s σ H Q I h;refine ac8 (mO I hg hm hv ?_ hn hdb);exact PyProof.Rows.callWith_type0 (hc μ s σ H [] [] Q I .nil h)
end
end L2
namespace HT
open PySem PyProof.Rows
def lexLt:List Int->List Int->Bool
 |[],[]=>η
 |[],_::_=>ζ
 |_::_,[]=>η
 |x::xs,y::ys=>if x=y then lexLt xs ys else decide (x<y)
def kB (x y:Int)(xs ys:List Int):lexLt (x::xs) (y::ys)=if x=y then lexLt xs ys else decide (x<y):=rfl
def FA (A:aaX)(s:ZZ)(a:Int)(t:Tok)(c:Int)(u:Tok):∃e,SeqAt.EqAt A s (.int a t) (.int c u) e/\(e=ζ↔a=c) :=
 {(a==c),SeqAt.EqAt.int_int a t c u,by simp}
section
def pA (n d:Nat):Option Int->Nat
 |none=>d
 |some v=>if v<0 then (v+(n:Int)).toNat else min v.toNat n
def pz (n d:Nat):pA n d ξ=d:=rfl
def tZ (n d k:Nat):pA n d (ν (k:Int))=min k n:=by
 show (if (k:Int)<0 then ((k:Int)+(n:Int)).toNat else min (k:Int).toNat n)=min k n
 rw[ω (by lia),abb]
end
end HT
namespace L2
open PySem PySem.Spec PyProof.Rows
abbrev TO:=St->Hp->(Option Int->Hp->Prop)->Prop
def PO (X:Cx)(e:Option Expr)(t:TO):Prop :=
 ∀(μ:List (θ×Obj)) (s:ZZ) (σ:St) (H:Hp) (Q:Option Int->Hp->Prop),Inv X μ σ H s->t σ H Q ->
  aau (Ψ X.prog X.w) X.A (evalPart e X.env) (λu s'=>∃o H',Inv X μ σ H' s'/\IsPart u o/\Q o H') X.xe s
def GW:TO:=λ_ H Q=>Q ξ H
def N_ (t:TE):TO:=λσ H Q=>t σ H λx H1=>∃i,x=.int i/\Q (ν i) H1
def intsAre_of {ns:List Int}:∀{us:List ZW},Vals (ns.map V.int) us->abA us ns:=by
 induction ns with
 |nil=>intro us r;rw[List.map_nil]at r;cases r;exact .nil
 |cons n ns ih =>
  intro us r;rw[aap]at r;cases r with
  |cons r1 r2 =>
   obtain⟨t,e⟩:=r1;subst e;exact .cons n t (ih r2)
section
variable {X:Cx}{e:Expr}{te:TE}{lo hi:Option Expr}{tl th:TO}{pos p2:Pos}
def zt:PO X ξ GW:=by
 intro μ s σ H Q I h;rw[evalPart_none];exact Z0 {ξ,H,I,.none,h}
def zr (h:PE X e te):PO X (ν e) (N_ te):=by
 intro μ s σ H Q I hw;rw[evalPart_some];refine bQ (h μ s σ H _ I hw) λu s1 ⟨x,H1,I1,r1,q1⟩=>?_;obtain⟨i,rfl,q⟩:=q1;obtain⟨t,rfl⟩:=r1;exact{ν i,H1,I1,.int i t,q}
def VC (X:Cx)(r:V->Option Int->Option Int->Hp->VK->Prop):Prop :=
 ∀(μ:List (θ×Obj)) (s:ZZ) (σ:St) (H:Hp) (x:V) (v vl vu:ZW) (lo hi:Option Int) (sl:θ) (Q:VK),Inv X μ σ H s->RelV x v->s.heap.IsSliceOf sl vl vu .none->IsPart vl lo->IsPart vu hi->r x lo hi H Q ->
  ∃T id,typeLookup (.type T) "__getitem__" = pure (ν (.builtin id))/\s.TypeIs v T/\aau (Ψ X.prog X.w) X.A (getItem v (.ref sl)) (EP X μ σ Q) X.xe s
def Xn (r:V->Option Int->Option Int->Hp->VK->Prop)(te:TE)(tl th:TO):TE:=λσ H Q=>te σ H λx H1=>tl σ H1 λl H2=>th σ H2 λu H3=>r x l u H3 Q
def vo {r:V->Option Int->Option Int->Hp->VK->Prop}(hr:VC X r)(he:PE X e te)(hl:PO X lo tl)(hu:PO X hi th):PE X (.Subscript e (.Slice lo hi ξ p2) pos) (Xn r te tl th):=by
 intro μ s σ H Q I h;refine Subscript_ (bQ (he μ s σ H _ I h) λv s1 ⟨x,H1,I1,r1,q1⟩=>?_);refine wpAny_Slice (bQ (hl μ s1 σ H1 _ I1 q1) λvl s2 ⟨l,H2,I2,pl,q2⟩=>bQ (hu μ s2 σ H2 _ I2 q2) λvu s3 ⟨u,H3,I3,pu,q3⟩=>?_);rw[evalPart_none];refine Z0 ?_;have I4:Inv X μ σ H3 {s3 with heap:=s3.heap.push {cls:=.type "slice",data:=.fields #[vl,vu,.none]}}:=I3.kept (t':=s3.toks) λb ob q=>Z3 _ q
 obtain⟨T,id,hT,ht,hg⟩:=hr μ {s3 with heap:=s3.heap.push {cls:=.type "slice",data:=.fields #[vl,vu,.none]}} σ H3 x v vl vu l u s3.heap.objs.size Q I4 r1 (Heap.IsSliceOf.new ..) pl pu q3
 show aau (Ψ X.prog X.w) X.A (subscriptTail e (.Slice lo hi ξ p2) v (.ref s3.heap.objs.size)) (EP X μ σ Q) X.xe {s3 with heap:=s3.heap.push {cls:=.type "slice",data:=.fields #[vl,vu,.none]}}
 exact tail_any (ops:=[.ref s3.heap.objs.size,v]) ht hT hg (by with_unfolding_all rfl)
def wR (xs:List V)(lo hi:Option Int):List V:=(xs.drop (HT.pA xs.length 0 lo)).take (HT.pA xs.length xs.length hi-HT.pA xs.length 0 lo)
def wQ (xs:List V)(lo hi:Option Int):(wR xs lo hi).length<=xs.length:=by
 unfold wR;rw[aaw,ack];lia
end
def Gp (n:Nat)(i:Int):Option Nat:=if 0<=i then (if i<n then ν i.toNat else ξ) else if -(n:Int)<=i then ν (i+n).toNat else ξ
def uH {α:Type}(xs:List α)(i:Int):Option α:=(Gp xs.length i).bind λj=>xs[j]?
def zV {n:Nat}{i:Int}{j:Nat}(h:Gp n i=ν j):seqIndex? i n=ν j/\j<n/\-(n:Int)<=i/\i<n:=by
 unfold Gp at h
 by_cases h0:0<=i
 ·rw[χ h0]at h
  by_cases h1:i<n
  ·rw[χ h1]at h;have e:i.toNat=j:=aaC h;exact{by rw[seqIndex_of h0 h1,e],by lia,by lia,h1}
  ·rw[ω h1]at h;cases h
 ·rw[ω h0]at h
  by_cases h1:-(n:Int)<=i
  ·rw[χ h1]at h;have e:(i+n).toNat=j:=aaC h;exact{by rw[seqIndex_neg (by lia) h1,e],by lia,h1,by lia}
  ·rw[ω h1]at h;cases h
def AA {α:Type}{xs:List α}{i:Int}{v:α}(h:uH xs i=ν v):∃j,seqIndex? i xs.length=ν j/\xs[j]?=ν v/\j<xs.length/\-(xs.length:Int)<=i/\i<xs.length:=by
 unfold uH at h;cases e:Gp xs.length i with
 |none=>rw[e]at h;cases h
 |some j =>
  rw[e]at h;obtain⟨h1,h2,h3,h4⟩:=zV e;exact{(j),h1,h,h2,h3,h4}
def uJ (b:Expr):Prop:=∀o i,subscripted b η o i=operate [o,i] (getItem o i)
def Kj (X:Cx)(r:R2):Prop :=
 ∀(value slice:Expr) (μ:List (θ×Obj)) (s:ZZ) (σ:St) (H:Hp) (x y:V) (v u:ZW) (Q:VK),Inv X μ σ H s->RelV x v->RelV y u->r x y H Q ->
  subscripted slice η v u=operate [v,u] (getItem v u)->aau (Ψ X.prog X.w) X.A (subscriptTail value slice v u) (EP X μ σ Q) X.xe s
def Sl (X:Cx)(id:String)(r:V->List V->Hp->VK->Prop):Prop :=
 ∀(μ:List (θ×Obj)) (s:ZZ) (σ:St) (H:Hp) (x:V) (xs:List V) (v:ZW) (us:List ZW) (Q:VK),Inv X μ σ H s->RelV x v->Vals xs us->r x xs H Q ->
  aau (Ψ X.prog X.w) X.A (call (.builtin id) (v::us)) (EP X μ σ Q) X.xe s
section
variable {X:Cx}{a b:Expr}{ta tb:TE}{pos:Pos}
def pK {r:R2}(hr:Kj X r)(ha:PE X a ta)(hb:PE X b tb)(hs:uJ b):PE X (.Subscript a b pos) (Oa r ta tb):=by
 intro μ s σ H Q I h;exact Subscript_ (Nf ha hb I h λv u s2 x y H2 I2 rx ry q=>hr a b μ s2 σ H2 x y v u Q I2 rx ry q (hs _ _))
def Oq (K:Ξ):R2:=λx y H Q=>∃p xs i v,x=.ref p/\y=.int i/\fb K H p xs/\uH xs i=ν v/\Q v H
def Oo (K:Ξ):R2:=λx y H Q=>∃p xs i v,x=.ref p/\y=.int i/\nk K H p xs/\uH xs i=ν v/\Q v H
def ip:Kj X (Oq X.K):=by
 intro value slice μ s σ H x y v u Q I rx ry h hs;obtain⟨p,xs,i,z,rfl,rfl,hq,he,q⟩:=h;cases rx;obtain⟨t,rfl⟩:=ry;obtain⟨its,r,pl,hz⟩:=I.list hq;obtain⟨j,h1,h2,h3,h4,h5⟩:=AA he;obtain⟨w,ew,Ca⟩:=r.get h2;have hl:=r.length;have hn:=pX;have fin:EP X μ σ Q w s:={(z),H,I,Ca,q}
 by_cases h0:0<=i
 ·have hj:i.toNat=j:=by
   rw[seqIndex_of h0 h5]at h1;exact aaC h1
  exact item_listR pl.isList h0 (by lia) (by rw[hj];simpa using ew) fin hs
 ·have hj:(i+(its.toArray.size:Int)).toNat=j:=by
   rw[seqIndex_neg (by lia) h4]at h1
   rw[aas,<- hl];exact aaC h1
  exact subscriptTail_builtinR (x:=w) pl.isList.typeIs adn.lookup
   (wpAny_getItem_list_neg (Q:=λr s'=>r=w/\EP X μ σ Q r s') pl.isList (by lia) (by rw[aas] <;> lia) (by lia) (by rw[hj];simpa using ew) {(rfl),fin}) hs
def EJ:Kj X (Oo X.K):=by
 intro value slice μ s σ H x y v u Q I rx ry h hs;obtain⟨p,xs,i,z,rfl,rfl,hq,he,q⟩:=h;cases rx;obtain⟨t,rfl⟩:=ry;obtain⟨its,r,pl,hz⟩:=I.tuple hq;obtain⟨j,h1,h2,h3,h4,h5⟩:=AA he;obtain⟨w,ew,Ca⟩:=r.get h2;have hl:=r.length;have hn:=pX;have fin:EP X μ σ Q w s:={(z),H,I,Ca,q};exact subscriptTail_builtinR (x:=w) pl.typeIs slot_tuple_getitem.lookup
  (getItem_tuple (j:=j) (Q:=λr s'=>r=w/\EP X μ σ Q r s') pl (by lia) (by lia) (by rw[aas,<- hl];exact h1) (by simpa using ew) {(rfl),fin}) hs
def yc (its:List ZW)(n j:Nat)(u:ZW):ace (·.setIfInBounds j u) {cls:=.type "list",data:=.seq its.toArray n}={cls:=.type "list",data:=.seq (its.set j u).toArray n}:=by
 simp[ace]
def Inv.lst {μ:List (θ×Obj)}{σ:St}{H:Hp}{s:ZZ}{p:θ}{xs:List V}(I:Inv X μ σ H s)(h:H p=ν (.lst xs)):
  ∃(its:List ZW) (n:Nat),Vals xs its/\s.heap.get? p=ν {cls:=.type "list",data:=.seq its.toArray n}/\xs.length<=aak:=by
 obtain⟨z,its,n,r,e⟩:=I.b9 p _ h;exact{(its),n,r,e,z}
def Inv.L7 {μ:List (θ×Obj)}{σ:St}{H:Hp}{s:ZZ}{p:θ}{xs ys:List V}{its its':List ZW}{n n':Nat}{f:Obj->Obj}(I:Inv X μ σ H s)(h:H p=ν (.lst xs))
  (ho:s.heap.get? p=ν {cls:=.type "list",data:=.seq its.toArray n}) (hf:f {cls:=.type "list",data:=.seq its.toArray n}={cls:=.type "list",data:=.seq its'.toArray n'}) (r:Vals ys its') (hz:ys.length<=aak) (t:Nat) :
  Inv X μ σ (upd H p (.lst ys)) {s with heap:=s.heap.update p f,toks:=t}:=by
 have e:(s.heap.update p f).get? p=ν {cls:=.type "list",data:=.seq its'.toArray n'}:=by
  rw[Heap.get?_update_self f ho (by rw[hf] <;> rfl),hf]
 refine I.write (x:=p) (e:=p) (by rw[h];trivial) (.inl rfl) (λb u hb q=>(Heap.get?_update_other _ _ (acB hb)).trans q) {_,e} ?_
 exact{(hz),its',n',r,e}
def Om:V->V->V->Hp->(Hp->Prop)->Prop:=λo i v H Q=>∃p xs k j,o=.ref p/\i=.int k/\H p=ν (.lst xs)/\Gp xs.length k=ν j/\Q (upd H p (.lst (xs.set j v)))
def set_list:Rh X Om:=by
 intro μ s σ H o i v ov iv u Q I ro ri rv h;obtain⟨p,xs,k,j,rfl,rfl,hp,hj,q⟩:=h;cases ro;obtain⟨t,rfl⟩:=ri;obtain⟨its,n,r,ho,hz⟩:=I.lst hp;obtain⟨h1,h2,h3,h4⟩:=zV hj;have hl:=r.length;have hn:=pX;have I':Inv X μ σ (upd H p (.lst (xs.set j v))) {s with heap:=s.heap.update p (ace (·.setIfInBounds j u))} :=
  I.L7 hp ho (yc its n j u) (r.set rv j) (by rw[List.length_set];exact hz) s.toks
 by_cases h0:0<=k
 ·have hk:k.toNat=j:=by
   rw[seqIndex_of h0 h4]at h1;exact aaC h1
  exact PySem.W.ki_setAt ho h0 (by lia) (by rw[aas,<- hl];exact h4) (by rw[hk];exact{_,I',q})
 ·have hk:(k+(its.toArray.size:Int)).toNat=j:=by
   rw[seqIndex_neg (by lia) h3]at h1
   rw[aas,<- hl];exact aaC h1
  exact PySem.W.ki_setBack ho (by lia) (by rw[aas,<- hl];exact h3) (by lia) (by rw[hk];exact{_,I',q})
def tU (lo hi:Option Int)(n:Nat):(abV lo hi ξ n).1=((HT.pA n 0 lo:Nat):Int)/\(abV lo hi ξ n).2.1=((HT.pA n n hi:Nat):Int)/\(abV lo hi ξ n).2.2=1:=by
 refine{?_,?_,rfl}
 ·cases lo with
  |none=>simp[abV,HT.pA]
  |some i =>
   simp only[abV,HT.pA,Option.getD_none,show (1:Int)>0 by decide,if_true]
   by_cases h:i<0
   ·simp only[h,if_true] <;> lia
   ·simp only[h,if_false] <;> lia
 ·cases hi with
  |none=>simp[abV,HT.pA]
  |some i =>
   simp only[abV,HT.pA,Option.getD_none,show (1:Int)>0 by decide,if_true]
   by_cases h:i<0
   ·simp only[h,if_true] <;> lia
   ·simp only[h,if_false] <;> lia
def q_ (its:List ZW)(lo hi:Option Int):slicePick its.toArray lo hi ξ=((its.drop (HT.pA its.length 0 lo)).take (HT.pA its.length its.length hi-HT.pA its.length 0 lo)).toArray:=by
 obtain⟨h1,h2,h3⟩:=tU lo hi its.toArray.size;unfold slicePick;rw[h1,h2,h3];simp only[sliceRange_one,pick_run,aas] <;> rfl
def S_ (K:Ξ):V->Option Int->Option Int->Hp->VK->Prop:=λx lo hi H Q=>∃a xs,x=.ref a/\fb K H a xs/\∀p,H p=ξ->Q (.ref p) (upd H p (.lst (wR xs lo hi)))
def za:VC X (S_ X.K):=by
 intro μ s σ H x v vl vu lo hi sl Q I rx hs pl pu h;obtain⟨a,xs,rfl,hx,q⟩:=h;cases rx;obtain⟨its,r,ht,hz⟩:=I.list hx;have hlen:=r.length;refine{"list",_,adn.lookup,ht.isList.typeIs,?_};refine adw ht.isList hs pl pu .none (by simp) ?_ (by rw[aas] <;> lia)
 rw[q_,<- hlen];refine{.ref s.heap.objs.size,_,I.laid (t':=s.toks) (o:=.lst (wR xs lo hi)) (λb ob q=>Z3 _ q) (ZX _) ?_,rfl,q _ (I.b9.fresh (ZX _))};exact{aaH (wQ xs lo hi) hz,_,0,(r.drop (HT.pA xs.length 0 lo)).take (HT.pA xs.length xs.length hi-HT.pA xs.length 0 lo),aay _ rfl}
def l8:f_ X (.builtin "len") (λxs H Q=>∃p ys,xs=[.ref p]/\(fb X.K H p ys\/nk X.K H p ys)/\Q (.int ys.length) H):=by
 intro μ s σ H xs us Q I r h;obtain⟨p,ys,rfl,hq,q⟩:=h;obtain⟨u,rfl,rx⟩:=vals1 r;cases rx;have hn:=pX;rcases hq with hq|hq
 ·obtain⟨its,r',pl,hz⟩:=I.list hq;have hlen:=r'.length;exact Calls.call_len_list pl.isList (by simp only[aas] <;> lia) {.int ys.length,H,I.tok _,{s.toks+1,by rw[aas,hlen]},q}
 ·obtain⟨its,r',pl,hz⟩:=I.tuple hq;have hlen:=r'.length;exact len_tuple pl (by simp only[aas] <;> lia) {.int ys.length,H,I.tok _,{s.toks+1,by rw[aas,hlen]},q}
def Rr (K:Ξ)(T:String)(x:V)(H:Hp):Prop:=match x with
 |.str _=>T="str"
 |.int _=>T="int"
 |.ref p=>(T="list" /\ ∃xs,fb K H p xs)\/(T="tuple" /\ ∃o,K.lookup p=ν o/\o.cls=.type "tuple" /\ o.dict=ξ) \/
   (T="dict" /\ ((∃kvs,H p=ν (.dK kvs))\/∃kvs,H p=ν (.dT kvs)))\/(T="set" /\ ∃S n,H p=ν (.set S n))
 |_=>False
def CH {μ:List (θ×Obj)}{σ:St}{H:Hp}{s:ZZ}{T:String}{x:V}{v:ZW}(I:Inv X μ σ H s)(r:RelV x v)(ty:Rr X.K T x H):
  s.TypeIs v T/\∀a,v=.ref a->∃ob,s.heap.get? a=ν ob/\ob.dict=ξ:=by
 cases x with
 |str z =>
  obtain⟨t,rfl⟩:=r;cases (show T="str" from ty)
  exact{typeIs_str s z t,λ_ e=>nomatch e}
 |int i =>
  obtain⟨t,rfl⟩:=r;cases (show T="int" from ty)
  exact{typeIs_int s i t,λ_ e=>nomatch e}
 |ref p =>
  cases r;rcases ty with⟨rfl,xs,hq⟩|⟨rfl,o,hk,hc,hd⟩|⟨rfl,hk⟩|⟨rfl,S,n,hk⟩
  ·obtain⟨its,_,pl,_⟩:=I.list hq;refine{pl.isList.typeIs,λa e=>?_};cases e;obtain⟨o,n,e,c,hd,_⟩:=pl;exact{(o),e,hd}
  ·refine{{o,I.Nv p o hk,hc},λa e=>?_};cases e;exact{o,I.Nv _ o hk,hd}
  ·have z:∃o,s.heap.get? p=ν o/\o.ExactDict:=by
    rcases hk with⟨kvs,hk⟩|⟨kvs,hk⟩
    ·obtain⟨_,_,_,_,o,_,_,e,ex,_⟩:=I.b9 p _ hk;exact{(o),e,ex}
    ·obtain⟨_,_,_,_,o,_,_,e,ex,_⟩:=I.b9 p _ hk;exact{(o),e,ex}
   obtain⟨o,e,ex⟩:=z;refine{{(o),e,ex.1},λa e2=>?_};cases e2;exact{(o),e,ex.2.1}
  ·obtain⟨o,_,_,_,e,ex,_⟩:=I.b9 p _ hk;refine{{(o),e,ex.1},λa e2=>?_};cases e2;exact{(o),e,ex.2.1}
 |_=>exact ach ty
def SN (K:Ξ)(T:String)(r:V->List V->Hp->VK->Prop)(to:TE):TE:=λσ H Q=>to σ H λx H1=>Rr K T x H1/\r x [] H1 Q
def Xp (K:Ξ)(T:String)(r:V->List V->Hp->VK->Prop)(to:TE)(t:TA):TE:=λσ H Q=>to σ H λx H1=>Rr K T x H1/\t σ H1 λxs H2=>r x xs H2 Q
variable {o e:Expr}{es:List Expr}{to:TE}{t:TA}{name:Str}{apos cpos:Pos}{T id:String}{r:V->List V->Hp->VK->Prop}
def Lz (pa:PlainAttrs T)(slot:Slot T name id)(Pr:typeOf (.builtin id)=pure (.type "method_descriptor"))(hm:Sl X id r)(ho:PE X o to)
  (fX:ab6 o name X.env (eval o X.env)=eval o X.env:=by rfl) (fW:(apos.endLine==cpos.line)=ζ:=by rfl):PE X (.Call (.Attribute o name apos) [] [] cpos) (SN X.K T r to):=by
 intro μ s σ H Q I h;refine wpAny_Call_method0_late fX fW (bQ (ho μ s σ H _ I h) λv s1 ⟨x,H1,I1,r1,ty,q1⟩=>?_);obtain⟨h1,h2⟩:=CH I1 r1 ty;exact{T,id,pa,slot,Pr,h1,h2,Calls.callWith_builtin rfl (PySem.evalArgs_none (hm μ s1 σ H1 x [] v [] Q I1 r1 .nil q1))}
def DO (pa:PlainAttrs T)(slot:Slot T name id)(Pr:typeOf (.builtin id)=pure (.type "method_descriptor"))(hm:Sl X id r)(ho:PE X o to)(ha:PA X (e::es) t)
  (fX:ab6 o name X.env (eval o X.env)=eval o X.env:=by rfl)
  (qg:((abK cpos (aao (e::es) X.env)).all (λx=>!x.1)&&(backToKw cpos (ado [] X.env)).all (λx=>x.1.isSome)
   && decide ((e::es).length+([]:List acX).length+(if ([]:List acX).isEmpty then 0 else 1)<30))=ζ:=by rfl)
  (fW:(apos.endLine==cpos.line)=ζ:=by rfl) (hs:aao (e::es) X.env=(η,eval e X.env)::aao es X.env:=by rfl) (fV:(abK cpos (aao es X.env)).any (·.1)=η:=by rfl) :
  PE X (.Call (.Attribute o name apos) (e::es) [] cpos) (Xp X.K T r to t):=by
 intro μ s σ H Q I h;refine wpAny_Call_method_late fX qg fW rfl (bQ (ho μ s σ H _ I h) λv s1 ⟨x,H1,I1,r1,ty,q1⟩=>?_);obtain⟨h1,h2⟩:=CH I1 r1 ty;refine{T,id,pa,slot,Pr,h1,h2,?_};have hA:=ha cpos μ s1 σ H1 _ I1 q1;rw[hs]at hA ⊢
 refine Calls.callWith_builtin (by show (η || (abK cpos (aao es X.env)).any (·.1))=η;rw[fV] <;> rfl) (Calls.evalArgs_plain ?_)
 exact bQ hA λus s2 ⟨vs,H2,I2,r2,q2⟩=>hm μ s2 σ H2 x vs v us Q I2 r1 r2 q2
end
def VF (X:Cx)(id:String)(r:V->List V->Hp->VK->Prop):Prop :=
 ∀(μ:List (θ×Obj)) (s:ZZ) (σ:St) (H:Hp) (x:V) (xs:List V) (v:ZW) (us:List ZW) (Q:VK),Inv X μ σ H s->RelV x v->Vals xs us->r x xs H Q ->
  aau (Ψ X.prog X.w) X.A (call (.builtin id) (v::us)) (EP X μ σ Q) X.xe s
theorem Vals.one:∀{x:V} {us:List ZW},Vals [x] us->∃u,us=[u]/\RelV x u
 |_,_,.cons r .nil=>{_,rfl,r}
theorem Vals.zero:∀{us:List ZW},Vals [] us->us=[]
 |_,.nil=>rfl
def Vals.dropLast {xs:List V}{us:List ZW}(h:Vals xs us):Vals xs.dropLast us.dropLast:=by
 induction h with
 |nil=>exact .nil
 |cons r t ih =>
  cases t with
  |nil=>exact .nil
  |cons q t'=>exact .cons r ih
def yD {α:Type}(l:List α):l.eraseIdx (l.length-1)=l.dropLast:=by
 induction l with
 |nil=>rfl
 |cons a r ih =>
  cases r with
  |nil=>rfl
  |cons b r =>
   have e:(a::b::r).length-1=((b::r).length-1)+1:=by
    have h1:(a::b::r).length=r.length+2:=rfl;have h2:(b::r).length=r.length+1:=rfl;lia
   rw[e,List.eraseIdx_cons_succ,ih]
   all_goals rfl
section
variable {X:Cx}{μ:List (θ×Obj)}{σ:St}{H:Hp}{s:ZZ}{l:θ}{xs ys:List V}
def Inv.L9 {its its':List ZW}{n:Nat}{f:Array ZW->Array ZW}{t':Nat}(I:Inv X μ σ H s)(hH:H l=ν (.lst xs))
  (e:s.heap.get? l=ν {cls:=.type "list",data:=.seq its.toArray n}) (hf:f its.toArray=its'.toArray) (hv:Vals ys its') (hz:ys.length<=aak) :
  Inv X μ σ (upd H l (.lst ys)) {s with heap:=s.heap.update l (ace f),toks:=t'}:=by
 have q:=PySem.IsL.update e f;rw[hf]at q;refine I.write (x:=l) (e:=l) (by rw[hH];exact tv) (.inl rfl) (λb' u hb hu=>(Heap.get?_update_other s.heap (ace f) (acB hb)).trans hu) {_,q} ?_
 exact{hz,its',_,hv,q}
def Inv.Pb {its:List ZW}{t':Nat}(I:Inv X μ σ H s)(hv:Vals ys its)(hz:ys.length<=aak):
  Inv X μ σ (upd H s.heap.objs.size (.lst ys)) {s with heap:=s.heap.push {cls:=.type "list",data:=.seq its.toArray},toks:=t'} :=
 I.laid (λ_ _ q=>Z3 _ q) (ZX _) {hz,its,0,hv,aay _ rfl}
def Inv.fresh (I:Inv X μ σ H s):H s.heap.objs.size=ξ:=I.b9.fresh (ZX _)
def Inv.Bq (I:Inv X μ σ H s)(hH:H l=ν (.lst xs)):xs.length<=aak/\∃(its:List ZW) (n:Nat),Vals xs its/\xs.length=its.length/\s.heap.get? l=ν {cls:=.type "list",data:=.seq its.toArray n}:=by
 obtain⟨z,its,n,r,e⟩:=I.b9 l _ hH;exact{(z),its,n,r,r.length,e}
def Ej {n:Nat}(h:n<=aak):adA n=η:=by
 unfold adA;exact Δ (by lia)
end
section
variable {X:Cx}
def zi:V->List V->Hp->VK->Prop:=λx vs H Q=>∃l xs y,x=.ref l/\vs=[y]/\H l=ν (.lst xs)/\xs.length<aak/\Q .cN (upd H l (.lst (xs++[y])))
def mL:VF X "list.append" zi:=by
 intro μ s σ H x vs v us Q I rx rv h;obtain⟨l,xs,y,rfl,rfl,hH,hz,q⟩:=h;cases rx;obtain⟨u,rfl,ru⟩:=rv.one;obtain⟨z,its,n,r,hl,e⟩:=I.Bq hH;refine call_meets F.slot_list_append {_,e,rfl} F.entry_list_append (F.args_list_append_2 _ _) (PySem.list_append l its.toArray n u (by rw[aas];lia)) {e,?_}
 refine{.cN,_,I.L9 (its':=its++[u]) hH e (by simp) (r.append (.cons ru .nil)) ?_,rfl,q}
 rw[aag,abo];lia
def G6:V->List V->Hp->VK->Prop:=λx vs H Q=>∃l b xs zs,x=.ref l/\vs=[.ref b]/\H l=ν (.lst xs)/\H b=ν (.lst zs)/\xs.length+zs.length<=aak/\Q .cN (upd H l (.lst (xs++zs)))
def Bm:VF X "list.extend" G6:=by
 intro μ s σ H x vs v us Q I rx rv h;obtain⟨l,b,xs,zs,rfl,rfl,hH,hB,hz,q⟩:=h;cases rx;obtain⟨u,rfl,ru⟩:=rv.one;cases ru;obtain⟨z,its,n,r,hl,e⟩:=I.Bq hH;obtain⟨z2,vP,n2,r2,WG,e2⟩:=I.Bq hB;have hsz:its.toArray.size+vP.toArray.size<=aak:=by rw[aas,aas];lia
 have QD:¬ (!its.toArray.isEmpty&&adA (its.toArray.size+vP.toArray.size))=ζ:=by
  rw[Ej hsz,Bool.and_false];exact abg
 refine call_meets F.slot_list_extend {_,e,rfl} F.entry_list_extend (F.args_list_extend_2 _ _)
  (AutoSeq1.list_extend_list_list_0 l its.toArray n b vP.toArray n2 QD (by rw[aas];lia) (by lia)) {e,e2,?_}
 refine{.cN,_,I.L9 (its':=its++vP) hH e (by simp) (r.append r2) ?_,rfl,q}
 rw[aag];lia
def Ta:V->List V->Hp->VK->Prop:=λx vs H Q=>∃l xs y,x=.ref l/\vs=[]/\H l=ν (.lst xs)/\xs[xs.length-1]?=ν y/\Q y (upd H l (.lst xs.dropLast))
def L4:VF X "list.pop" Ta:=by
 intro μ s σ H x vs v us Q I rx rv h;obtain⟨l,xs,y,rfl,rfl,hH,hy,q⟩:=h;cases rx;have mW:=rv.zero;subst mW;obtain⟨z,its,n,r,hl,e⟩:=I.Bq hH;obtain⟨u,hu,ru⟩:=r.get hy;have Yc:its.toArray[its.toArray.size-1]?=ν u:=by
  show its.toArray[its.length-1]?=ν u;rw[<- aan,<- hl];exact hu
 refine call_meets F.slot_list_pop {_,e,rfl} F.entry_list_pop (F.args_list_pop_1 _) (MeetsSeq.list_pop_last l its.toArray n u Yc (by rw[aas];lia)) {e,?_}
 refine{y,_,I.L9 (its':=its.dropLast) hH e ?_ r.dropLast ?_,ru,q}
 ·show its.toArray.eraseIdxIfInBounds (its.toArray.size-1)=its.dropLast.toArray;rw[aas,List.eraseIdxIfInBounds_toArray,yD]
 ·rw[List.length_dropLast];lia
def Td:R2:=λx y H Q=>∃l b xs zs,x=.ref l/\y=.ref b/\H l=ν (.lst xs)/\H b=ν (.lst zs)/\xs.length+zs.length<=aak/\∀p,H p=ξ->Q (.ref p) (upd H p (.lst (xs++zs)))
def DZ:kS X (acd .Add) Td:=by
 intro μ s σ H x y v u Q I rx ry h;obtain⟨l,b,xs,zs,rfl,rfl,hH,hB,hz,q⟩:=h;cases rx;cases ry;obtain⟨z,its,n,r,hl,e⟩:=I.Bq hH;obtain⟨z2,vP,n2,r2,WG,e2⟩:=I.Bq hB;refine PySem.P.add_list e e2 ?_ (by rw[aas,aas];lia)
 have ea:its.toArray++vP.toArray=(its++vP).toArray:=by simp
 rw[ea];exact{.ref _,_,I.Pb (t':=s.toks) (r.append r2) (by rw[aag];lia),rfl,q _ I.fresh}
end
end L2
namespace Xa
open PySem PySem.W PySem.Calls PyProof.Rows
def nT {P:Params}{h:Heap}:∀(ns:List Int) (vs:List ZW),WellAll P h vs (ns.map WData.int)->abA vs ns:=by
 intro ns
 induction ns with
 |nil =>
  intro vs w;rw[List.map_nil]at w;cases w;exact .nil
 |cons n ns ih =>
  intro vs w;rw[aap]at w;cases w with
  |cons a b =>
   cases a;exact .cons _ _ (ih _ b)
def AZ {l:OpenLaw}{n:Nat}(hn:l.most=ν n){P:Params}{h:Heap}{args:List WData}{vals:List ZW}
  (Il:l.row.toRowW.claim.pre args=ζ) (T_:WellAll P h vals args) :
  ∃a vs ns,vals=[Φ a]/\args=[WData.list (ns.map WData.int)]/\h.get? a=ν {cls:=.type "list",data:=.seq vs.toArray}/\abA vs ns/\ns.length<=n:=by
 have Yj:WShape.hasAll [] args [.list .int]=ζ:=(pre_splitW Il).1;have hc:l.pre.holds [] {args:=args}=ζ:=(pre_splitW Il).2;obtain⟨d,r,rfl,h1,h2⟩:=hasAllW_cons Yj;obtain rfl:=hasAllW_nil h2;obtain⟨xs,rfl,h3⟩:=hasW_list h1;obtain⟨ns,rfl⟩:=items_int h3;have hlen:ns.length<=n:=by
  unfold OpenLaw.pre at hc;have h4:(WTm.not (.lt (.lit (.int (n:Int))) (.len (.arg 0)))).holds [] {args:=[.list (ns.map .int)]}=ζ:=by
   have h4:=(holds_andW hc).1;rw[hn]at h4;exact h4
  have h5:=condW_of h4 (w_not (w_lt w_lit (w_len_list (w_arg rfl))));rw[ZU]at h5;refine Nat.le_of_not_lt λq=>?_;have q':(n:Int)<((ns.length:Nat):Int):=by lia
  first
   | (rw[Γ q']at h5;exact Η h5 (by decide))
   | (simp at h5;lia)
 cases T_ with
 |cons w1 w2 =>
  cases w2;cases w1 with
  |list ho rD=>exact{_,_,ns,rfl,rfl,ho,nT ns _ rD,hlen}
def Bc (l:OpenLaw)(args:List WData):l.row.toRowW.claim.post args (.bool ζ) args=ζ :=
 postW_of (r:=l.row.toRowW) (X:=(ζ==ζ))
  (show WShape.has [] (.bool ζ) .bool=ζ by first|rfl|decide|simp[WShape.has,WShape.arms,WShape.armsAll])
  (show (WTm.eq .res (.lit (.bool ζ))).value [] {args:=args,res:=ν (.bool ζ),after:=args}=ν (.bool (ζ==ζ)) from w_eq_bool (w_res rfl) w_lit) rfl
def wZ {l:OpenLaw}{n:Nat}{q:Z6}{loose:List Str}{XP:(Str->Option ZW)->Heap->Prop}{YP:aam->Heap->Prop}{d:DefRec}
  (hn:l.most=ν n) (R7:d.params.defaults=[])
  (call:∀(w:aam) (s₀ s₁:ZZ) (mg mb:Str->Option ZW) (fa:θ) (o:Obj) (pm cd doc:ZW) (a:θ) (vs:List ZW) (ns:List Int),
   Ground q loose [] XP w s₀ mg mb s₁.heap->YP w s₁.heap ->
   s₁.heap.get? fa=ν o->o.data=.func (docDef d.name d.params d.body d.scope pm cd doc)->s₁.heap.CodeRec cd d.name->mg d.name=ν (.ref fa) ->
   s₁.heap.get? a=ν {cls:=.type "list",data:=.seq vs.toArray}->abA vs ns->ns.length<=n->s₁.gens=#[] ->
   adp (Ψ l.prog w) callerA (.call (.ref fa) {[.ref a],[]}) (λr s'=>r=.ok (.ret (.bool ζ))/\OldK s₁.heap s'.heap/\s'.os=s₁.os/\AllBare s'.gens) s₁) :
  WalkO q loose XP YP l.row.toRowW d [] (λf vs=>PySem.call f vs):=by
 intro w s₀ s₁ mg mb G Y fa o pm cd doc dV kV ho hd Gs hD UR hg args vals as Il YA ZE T_ R5;obtain rfl:dV=.none:=Dflts.none hD R7;obtain rfl:kV=.none:=Dflts.noKw hD;obtain⟨a,vs,ns,rfl,rfl,MI,hints,hlen⟩:=AZ hn Il T_;refine enter_call (abW (call w s₀ s₁ mg mb fa o pm cd doc a vs ns G Y ho (fd_plain hd) Gs UR MI hints hlen hg) λr s' hq=>?_);obtain⟨rfl,h2,h3,h4⟩:=hq;exact{.inl {.bool ζ,.bool ζ,[],rfl,λ_=>rfl,.bool ζ,Bc l _,λ_=>{List.Pairwise.nil,λ_ hm=>(nomatch hm)}},h2,h3,h4}
end Xa
namespace L2
open PySem PySem.Spec PyProof.Rows
theorem rS:∀{vs:List ZW} {ns:List Int},abA vs ns->Vals (ns.map V.int) vs
 |_,_,.nil=>.nil
 |_,_,.cons n t h=>.cons {(t),rfl} (rS h)
def Nk (H:Hp):Prop:=∀b,H b=ξ\/∃o xs,H b=ν (.Gv o (.lst xs))
def EG {P:Z6}{w:aam}{K:Ξ}{mg mb:Str->Option ZW}{CX:Gj}{k:Nat}{fa a:θ}{fd:aaI}{x:Str}{sp:Sp}{s₁:ZZ}{vs:List ZW}{ns:List Int}
  (KX:K.In s₁.heap) (RZ:s₁.heap.Ns abR mg) (hb:s₁.heap.Ns builtinsNs mb) (YK:∀x:Str,x≠"__name__" -> mb x=abi x) (US:s₁.heap.NoLimit) (hg:s₁.gens=#[])
  (ha:s₁.heap.get? a=ν {cls:=.type "list",data:=.seq vs.toArray}) (hi:abA vs ns) (hl:ns.length<=aak) (hr:dU k callerA)
  (F:∀base:Heap,K.In base->base.Ns abR mg->aG P w K mg base CX k fa fd [x] sp) (QO:∀(s:ZZ) (u:ZW),BindsTo s fd {[u],[]} [(x,u)])
  (vW:∀H:Hp,Nk H->fb K H a (ns.map V.int)->sp [.ref a] H (λv _=>v=.bl ζ) λ_ _ _=>False)
  (Vb:∀H e s',CX [] H s₁ (λ_ _ _=>False) e s'->False) :
  adp (Ψ P w) callerA (.call (.ref fa) {[.ref a],[]}) (λr s'=>r=.ok (.ret (.bool ζ))/\OldK s₁.heap s'.heap/\s'.os=s₁.os/\AllBare s'.gens) s₁:=by
 have rv:=rS hi;have TQ:=hi.length;have core:∀H:Hp,Nk H->fb K H a (ns.map V.int)->kZ P w H s₁.heap->(∀b,H b≠ξ->b=a)->(H a≠ξ->K.lookup a=ξ) ->
   adp (Ψ P w) callerA (.call (.ref fa) {[.ref a],[]}) (λr s'=>r=.ok (.ret (.bool ζ))/\OldK s₁.heap s'.heap/\s'.os=s₁.os/\AllBare s'.gens) s₁:=by
  intro H hO hS b9 hA hK;have Ay:∀{b:θ} {o:Obj},s₁.heap.get? b=ν o->H b=ξ->(uv s₁.heap H).get? b=ν o:=λe n=>Fb e n;have OS:∀{b:θ} {o:Obj} {es:Array DictEntry} {ep:Nat},s₁.heap.get? b=ν o->o.data=.dict es ep->H b=ξ:=λ{b o es ep} e d=>by
   cases q:H b with
   |none=>rfl
   |some u =>
    have e':b=a:=hA b (by rw[q];simp)
    subst e';rw[ha]at e;cases e;have d':Data.seq vs.toArray _=Data.dict es ep:=d;cases d'
  have RF:∀{b:θ} {m:Str->Option ZW},s₁.heap.Ns b m->(uv s₁.heap H).Ns b m:=λ{b m} ⟨o,es,ep,e,d,r⟩=>{o,es,ep,Ay e (OS e d),d,r};have WV:K.In (uv s₁.heap H):=λb o e=>Ay (KX b o e) (by
   cases q:H b with
   |none=>rfl
   |some u =>
    have e':b=a:=hA b (by rw[q];simp)
    subst e';rw[hK (by rw[q];simp)]at e;cases e)
  have hM:Mod K mg (uv s₁.heap H):={WV,RF RZ,{mb,RF hb,YK},let ⟨mc,h1,h2⟩:=US;{mc,RF h1,h2}}
  have e0:Jm P w K mg (uv s₁.heap H) callerA [] s₁ H:={rfl,hM,λb o e=>HE e,Nat.le_of_eq (BA _ _),tv,λb hb=>Η (show b∈([]:List θ) from hb) (by simp),b9,.of_eq hg}
  refine abW ((F _ WV (RF RZ)).run callerA [] s₁ H {[.ref a],[]} [.ref a] [.ref a] _ _ hr e0 (QO s₁ (.ref a)) (.cons rfl .nil) (vW H hO hS)) λr s' h=>?_;cases r with
  |error e=>exact(Vb H e s' h).elim
  |ok fl =>
   cases fl with
   |next=>exact ach h
   |brk=>exact ach h
   |cont=>exact ach h
   |ret u =>
    obtain⟨v,H',os,bare,un,UK,r',q⟩:=h;have q':v=.bl ζ:=q;subst q';obtain rfl:u=Value.bool ζ:=r';refine{rfl,OldK.of_keep λb o e=>?_,os,bare};cases q:H b with
    |none=>exact un.keep b o e q (by intro z;exact Η (show b∈([]:List θ) from z) (by simp)) (by simp)
    |some u =>
     rcases hO b with z|⟨ob,xs,z⟩
     ·rw[q]at z;cases z
     ·have z2:=un.rF b ob _ z;obtain⟨e1,_⟩:=b9 b _ z;obtain⟨e2,_⟩:=UK b _ z2;rw[e]at e1;cases e1;exact e2
 cases hk:K.lookup a with
 |some o =>
  have e:=KX a o hk;rw[ha]at e;cases e;refine core (λ_=>ξ) (λ_=>.inl rfl) (.inr {_,vs.toArray,_,hk,rfl,rfl,rfl,by rw[aas,TQ];exact hl,by simpa using rv}) (λb u z=>by have z':(ξ:Option HO)=ν u:=z;cases z') (λb z=>Η rfl z) λz=>Η rfl z
 |none =>
  refine core (λb=>if b=a then ν (.Gv {cls:=.type "list",data:=.seq vs.toArray} (.lst (ns.map V.int))) else ξ) (λb=>?_) (.inl (.inr {{cls:=.type "list",data:=.seq vs.toArray},χ rfl})) (λb u z=>?_) (λb z=>?_) λ_=>hk
  ·by_cases hb:b=a
   ·exact .inr {_,_,χ hb}
   ·exact .inl (ω hb)
  ·by_cases hb:b=a
   ·have z':=(χ hb).symm.trans z;cases z';subst hb;exact{ha,by rw[ZU];exact hl,vs,_,rv,ha}
   ·have z':=(ω hb).symm.trans z;cases z'
  ·by_cases hb:b=a
   ·exact hb
   ·exact Η (ω hb) z
def GQ {l:PySem.W.OpenLaw}{n k:Nat}{q:Z6}{loose:List Str}{XP:(Str->Option ZW)->Heap->Prop}{YP:aam->Heap->Prop}{d:DefRec}{K:Params->Ξ}{CX:aam->Gj}{sp:aam->Sp}{x:Str}
  (hn:l.most=ν n) (NC:n<=aak) (R7:d.params.defaults=[]) (hr:dU k callerA)
  (hY:∀(w:aam) (h:Heap),YP w h->(K w.params).In h)
  (F:∀(w:aam) (mg:Str->Option ZW) (fa:θ) (h:Heap),(K w.params).In h->h.Ns abR mg->mg d.name=ν (.ref fa) ->
   ∃fd:aaI,(∀(s:ZZ) (u:ZW),BindsTo s fd {[u],[]} [(x,u)]) /\
    ∀base:Heap,(K w.params).In base->base.Ns abR mg->aG l.prog w (K w.params) mg base (CX w) k fa fd [x] (sp w))
  (vW:∀(w:aam) (H:Hp) (a:θ) (ns:List Int),ns.length<=n->Nk H->fb (K w.params) H a (ns.map V.int)->sp w [.ref a] H (λv _=>v=.bl ζ) λ_ _ _=>False)
  (Vb:∀(w:aam) (H:Hp) (s:ZZ) (e:ZW) (s':ZZ),CX w [] H s (λ_ _ _=>False) e s'->False) :
  PySem.W.WalkO q loose XP YP l.row.toRowW d [] (λf vs=>PySem.call f vs):=by
 refine Xa.wZ hn R7 λw s₀ s₁ mg mb fa o pm cd doc a vs ns G Y ho hd Gs UR MI hints hlen hg=>?_;have KX:=hY w _ Y;obtain⟨fd,hb,hF⟩:=F w mg fa _ KX G.T.g UR;exact EG KX G.T.g G.T.b G.T.builtins G.T.nolimit hg MI hints (aaH hlen NC) hr hF hb (λH hO hS=>vW w H a ns hlen hO hS) λH e s'=>Vb w H s₁ e s'
abbrev bt:Gj:=λ_ _ _ _ _ _=>False
abbrev E0:XK:=λ_ _ _=>False
def JA {X:Cx}:Passes bt X E0:=λ_ _ _ _ _ _ _ h=>h.elim
structure GC (K:Ξ)(x qual:Str)(st:Stmt)(f:θ)(fd:aaI):Prop where
 ex:∃(oc:ZW) (od:Option θ) (kV doc pm:ZW) (an:Option θ) (c_ ct:ZW) (LI:Array (Option ZW)),
  fd=Ε x qual (oQ st) (gw st) (aw st) .none kV doc pm an c_ ct/\K.lookup f=ν {oc,od,.func fd,LI}/\PySem.W.codeIn K c_ qual=ζ
 kp:υ K (.ref f)=ζ
section
variable {P:Z6}{w:aam}{K:Ξ}{mg:Str->Option ZW}{base:Heap}
def GC.ok {x qual:Str}{st:Stmt}{f:θ}{fd:aaI}{N ps:List Str}{k:Nat}{sp:Sp}(F:GC K x qual st f fd)(S:aN N ps (aw st))(len:∀vs H Q E,sp vs H Q E->vs.length=ps.length)
  (qh:∀(c_:ZW) (A:aaX) (outer:List Env) (s:ZZ) (H:Hp) (vs:List V) (Q:VK) (E:XK),dU k (A.deeper (envOfC qual (aw st) s.heap.objs.size f c_))->sp vs H Q E ->
   ∃t,uO (rJ bt P w K mg base N qual (aw st) f c_ A outer s H E).JE (gw st) t/\t {nx:=λ_ H'=>Q .cN H',rt:=Q} (start N vs) H):aG P w K mg base bt (k+1) f fd ps sp:=by
 obtain⟨oc,od,kV,doc,pm,an,c_,ct,LI,rfl,lk,Gs⟩:=F.ex;refine QT lk Gs S len λA outer s H vs Q E hr vW=>?_;obtain⟨t,h,q⟩:=qh c_ A outer s H vs Q E hr vW;exact{(t),h.JE,q}
def MX {x qual:Str}{st:Stmt}{f:θ}{oc:ZW}{od an:Option θ}{LI:Array (Option ZW)}{kV doc pm c_ ct:ZW}(l:K.lookup f=ν {oc,od,.func (Ε x qual (oQ st) (gw st) (aw st) .none kV doc pm an c_ ct),LI})
  (c:PySem.W.codeIn K c_ qual=ζ) (k:υ K (.ref f)=ζ):GC K x qual st f (Ε x qual (oQ st) (gw st) (aw st) .none kV doc pm an c_ ct):={{(oc),od,kV,doc,pm,an,c_,ct,LI,rfl,l,c},k}
end
section
variable {X:Cx}
def pv (i:Nat){x:Str}{pos:Pos}(hN:X.N[i]?=ν x:=by rfl)(hv:NU X.env.scope x:=by first|exact Or.inl rfl|exact Or.inr (Or.inl rfl)|exact Or.inr (Or.inr rfl))(hd:(x==("__debug__" : Str))=η:=by decide)
  (Gs:(x==("__classdict__" : Str))=η:=by decide):PE X (.Name x pos) (KU i):=DK hN hv hd Gs
end
def aB (H H':Hp):Prop:=∀b o,H b=ν o->H' b=ν o
def aB.refl (H:Hp):aB H H:=λ_ _ h=>h
def aB.trans {H H1 H2:Hp}(a:aB H H1)(b:aB H1 H2):aB H H2:=λc o h=>b c o (a c o h)
def aB.free {H H':Hp}(e:aB H H'){l:θ}(h:H' l=Option.none):H l=Option.none:=by
 cases q:H l with
 |none=>rfl
 |some o =>
  rw[e l o q]at h;cases h
def aB.seq {K:Ξ}{H H':Hp}{a:θ}{xs:List V}(e:aB H H')(h:fb K H a xs):fb K H' a xs:=by
 rcases h with (h|⟨o,h⟩)|h
 ·exact .inl (.inl (e _ _ h))
 ·exact .inl (.inr {o,e _ _ h})
 ·exact .inr h
structure Nm (X:Cx)(i:Nat)(x:Str):Prop where
 a:X.N[i]?=ν x
 b:NU X.env.scope x
 c:(x==("__debug__" : Str))=η
 d:(x==("__classdict__" : Str))=η
def Ce {X:Cx}{i:Nat}{x:Str}(a:X.N[i]?=ν x:=by rfl)(b:NU X.env.scope x:=by first|exact .inl rfl|exact .inr (.inl rfl)|exact .inr (.inr rfl))(c:(x==("__debug__" : Str))=η:=by decide)(d:(x==("__classdict__" : Str))=η:=by decide):Nm X i x:={(a),b,c,d}
def iN {X:Cx}{i:Nat}{x:Str}{pos:Pos}(h:Nm X i x):PE X (.Name x pos) (KU i):=DK h.a h.b h.c h.d
section
variable {X:Cx}{a b c:Expr}{ta tb:TE}{pos:Pos}
def xk (i j:Int):Prop:=0<j/\j.natAbs.log2<9000
def xk.of {i j:Int}(h0:0<j)(h:j<2 ^ 200):xk i j:=by
 refine{h0,?_};have h2:j.natAbs<2 ^ 200:=by lia
 have:=(Nat.log2_lt (n:=j.natAbs) (k:=200) (by lia)).mpr h2
 lia
def vx:kS X (acd .FloorDiv) (rI xk λi j=>.int (i / j)):=RD λi j _ _ _ _ _ hc q=>by
 have h1:(0:Int)<j:=hc.1;exact floordiv_int (by lia) (by rw[Int.fdiv_eq_ediv_of_nonneg i (by lia)];exact q) (.inl (PyProof.noPylong_of_log2 hc.2))
def Ki (X:Cx)(ops:List acQ)(rs:List Expr)(t:V->TE):Prop :=
 ∀(pos:Pos) (μ:List (θ×Obj)) (s:ZZ) (σ:St) (H:Hp) (x:V) (v:ZW) (Q:VK),Inv X μ σ H s->RelV x v->t x σ H Q ->
  aau (Ψ X.prog X.w) X.A (compareChain pos v ops (evalEach rs X.env)) (EP X μ σ Q) X.xe s
def xh (X:Cx)(ops:List acQ)(rs:List Expr)(t:V->TT):Prop :=
 ∀(pos:Pos) (μ:List (θ×Obj)) (s:ZZ) (σ:St) (H:Hp) (x:V) (v:ZW) (Q:Bool->Hp->Prop),Inv X μ σ H s->RelV x v->t x σ H Q ->
  aau (Ψ X.prog X.w) X.A (testChain pos v ops (evalEach rs X.env)) (TP X μ σ Q) X.xe s
variable {op LL:acQ}{ops:List acQ}{rs:List Expr}{r:R2}{t:V->TE}{tt:V->TT}
def M8 (ho:kS X (aaR op) r)(hb:PE X b tb):Ki X [op] [b] (λx σ H Q=>tb σ H λy H2=>r x y H2 Q):=by
 intro pos μ s σ H x v Q I rx h;exact chain_last (bQ (hb μ s σ H _ I h) λu s1 rm=>by obtain⟨y,H1,I1,r1,q1⟩:=rm;exact ho μ s1 σ H1 x y v u Q I1 rx r1 q1)
def I9 (ho:kS X (aaR op) r)(hb:PE X b tb)(hc:Ki X (LL::ops) (c::rs) t):
  Ki X (op::LL::ops) (b::c::rs) (λx σ H Q=>tb σ H λy H2=>r x y H2 λz H3=>∃k,z=.bl k/\(if k=ζ then t y σ H3 Q else Q (.bl η) H3)):=by
 intro pos μ s σ H x v Q I rx h;refine chain_link (bQ (hb μ s σ H _ I h) λu s1 ⟨y,H1,I1,r1,q1⟩=>bQ (ho μ s1 σ H1 x y v u _ I1 rx r1 q1) λd s3 iX=>?_);obtain⟨z,H3,I3,r3,k,e,q3⟩:=iX;subst e;cases r3;refine abG ?_;cases k with
 |false=>exact ite_ff {.bl η,H3,I3,rfl,q3}
 |true=>exact ite_tt (hc pos μ s3 σ H3 y u Q I3 r1 q3)
def Bg {fS fR:acQ}(ha:PE X a ta)(hc:Ki X (fS::fR::ops) (b::c::rs) t)(hm:lastMarks (fS::fR::ops) (b::c::rs)=η:=by with_unfolding_all rfl):
  PE X (.Compare a (fS::fR::ops) (b::c::rs) pos) (λσ H Q=>ta σ H λx H1=>t x σ H1 Q):=by
 intro μ s σ H Q I h;exact Compare_chain (bQ (ha μ s σ H _ I h) λv s1 Ik=>by obtain⟨x,H1,I1,r1,q1⟩:=Ik;exact hc pos μ s1 σ H1 x v Q I1 r1 q1) hm
def IZ (ho:kS X (aaR op) r)(hb:PE X b tb):xh X [op] [b] (λx σ H Q=>tb σ H λy H2=>r x y H2 λz H3=>∃k,z=.bl k/\Q k H3):=by
 intro pos μ s σ H x v Q I rx h;refine test_last (bQ (hb μ s σ H _ I h) λu s1 ⟨y,H1,I1,r1,q1⟩=>bQ (ho μ s1 σ H1 x y v u _ I1 rx r1 q1) λd s3 mV=>?_);obtain⟨z,H3,I3,r3,k,e,q3⟩:=mV;subst e;cases r3;exact abG {(H3),I3,q3}
def FZ (ho:kS X (aaR op) r)(hb:PE X b tb)(hc:xh X (LL::ops) (c::rs) tt):
  xh X (op::LL::ops) (b::c::rs) (λx σ H Q=>tb σ H λy H2=>r x y H2 λz H3=>∃k,z=.bl k/\(if k=ζ then tt y σ H3 Q else Q η H3)):=by
 intro pos μ s σ H x v Q I rx h;refine test_link (bQ (hb μ s σ H _ I h) λu s1 ⟨y,H1,I1,r1,q1⟩=>bQ (ho μ s1 σ H1 x y v u _ I1 rx r1 q1) λd s3 vV=>?_);obtain⟨z,H3,I3,r3,k,e,q3⟩:=vV;subst e;cases r3;refine abG ?_;cases k with
 |false=>exact ite_ff {(H3),I3,q3}
 |true=>exact ite_tt (hc pos μ s3 σ H3 y u Q I3 r1 q3)
def A_ {fS fR:acQ}(ha:PE X a ta)(hc:xh X (fS::fR::ops) (b::c::rs) tt)(hm:lastMarks (fS::fR::ops) (b::c::rs)=η:=by with_unfolding_all rfl):
  PT X (.Compare a (fS::fR::ops) (b::c::rs) pos) (λσ H Q=>ta σ H λx H1=>tt x σ H1 Q):=by
 intro μ s σ H Q I h;exact isTrue_chain (bQ (ha μ s σ H _ I h) λv s1 EX=>by obtain⟨x,H1,I1,r1,q1⟩:=EX;exact hc pos μ s1 σ H1 x v Q I1 r1 q1) hm
end
def ng:abi "max" = ν (.builtin "max"):=by decide +kernel
def nc:abi "min" = ν (.builtin "min"):=by decide +kernel
def F3:abi "int" = ν (.type "int"):=by decide +kernel
def g6:abi "sorted" = ν (.builtin "sorted"):=by decide +kernel
def qJ:abi "len" = ν (.builtin "len"):=by decide +kernel
def Pg {c A B:Prop}[Decidable c](hc:c)(h:A):if decide c=ζ then A else B:=by
 rw[χ (Γ hc)];exact h
def Ph {c A B:Prop}[Decidable c](hc:¬ c)(h:B):if decide c=ζ then A else B:=by
 rw[ω (by simp[hc])]
 exact h
def TZ {c A B:Prop}[Decidable c](h1:c->A)(h2:¬ c->B):if decide c=ζ then A else B:=by
 by_cases h:c
 ·exact Pg h (h1 h)
 ·exact Ph h (h2 h)
def Fm (h:θ)(H H':Hp):Prop:=∀b o,H b=ν o->b≠h->H' b=ν o
def Fm.upd {h:θ}{H:Hp}{o:HO}:Fm h H (upd H h o):=λb u e n=>by rw[aD n];exact e
def aB.new {H:Hp}{p:θ}{o:HO}(n:H p=ξ):aB H (L2.upd H p o):=λb u e=>by rw[aD (dk e n)];exact e
def Hand (H:Hp)(h:θ):Prop:=∃x y:Int,H h=ν (.lst [.int x,.int y])/\0<=x/\0<=y/\y<2147483647
def C2:Sp:=λvs H Q _=>∃c:Int,vs=[.int c]/\∀p H',H p=ξ->Hand H' p->aB H H'->Q (.ref p) H'
def C0:Sp:=λvs H Q _=>∃(h:θ) (n:Int),vs=[.ref h,.int n]/\Hand H h/\0<n/\n<2 ^ 200 /\
 ∀(r:Int) (H':Hp),0<=r->r<n->Hand H' h->Fm h H H'->Q (.int r) H'
structure Zo (mg:Str->Option ZW):Prop where
 max:mg "max" = ξ
 min:mg "min" = ξ
 int:mg "int" = ξ
def DG:Gk 10 18:={by decide,by decide,by decide}
section
def oH {a:Int}{b:Int}(h:0<b):0<=a % b/\a % b<b:={Int.emod_nonneg a (by lia),Int.emod_lt_of_pos a h}
end
noncomputable def ay (X:Cx)(scope:acn)(N':List Str)(cl:List (Str×θ))(C:θ)(s:ZZ)(H:Hp)(ex:List θ):Cx :=
 {X with N:=N',s₀:=s,H₀:=H,env:=compEnvC scope cl C X.env,outer:=X.stack,stack:=X.stack,ex:=ex,fn:=λ_=>η,pn:=[],xe:=λ_ _=>False}
theorem kP {env:Env}:∀(names:List (Str×acY)) (cs:List (Str×θ)),(∀x,(x,aaW)∈names->∃c,env.cells.lookup x=ν c) ->
  (∀x c,cs.lookup x=ν c->env.cells.lookup x=ν c) ->
  ∃cl,(forIn names cs λ(p:Str×acY) (cs:List (Str×θ))=>do
   if p.2==.free then do
    let a <- cellOf env p.1
    pure (ForInStep.yield ((p.1,a)::cs))
   else pure (ForInStep.yield cs):Sem (List (Str×θ)))=pure cl /\
   (∀x,((x,aaW)∈names\/(∃c,cs.lookup x=ν c))->∃c,cl.lookup x=ν c)/\∀x c,cl.lookup x=ν c->env.cells.lookup x=ν c
 |[],cs,_,MR=>{cs,rfl,λx h=>h.elim (λz=>nomatch z) id,MR}
 | (n,k)::names,cs,hf,MR=>by
  by_cases hk:k=.free
  ·subst hk;obtain⟨c,hc⟩:=hf n (Z7 ..);obtain⟨cl,e,h1,h2⟩:=kP names ((n,c)::cs) (λx hx=>hf x (aac _ hx)) (λx c' hx=>by
    rw[abk]at hx;cases q:x==n with
    |true=>rw[q]at hx;cases hx;rw[eq_of_beq q];exact hc
    |false=>rw[q]at hx;exact MR x c' hx)
   refine{cl,?_,λx hx=>h1 x ?_,h2}
   ·rw[List.forIn_cons];have ec:cellOf env n=pure c:=by unfold cellOf;rw[hc]
    simp only[beq_self_eq_true,if_true,ec];exact e
   ·rcases hx with hx|⟨c',hx⟩
    ·rcases Z1.mp hx with z|z
     ·cases z;exact .inr {c,by simp}
     ·exact .inl z
    ·right
     rw[abk];cases q:x==n with
     |true=>exact{(c),rfl}
     |false=>exact{(c'),hx}
  ·obtain⟨cl,e,h1,h2⟩:=kP names cs (λx hx=>hf x (aac _ hx)) MR;refine{cl,?_,λx hx=>h1 x ?_,h2}
   ·rw[List.forIn_cons];have hb:(k==aaW)=η:=by simpa using hk
    simp only[hb,Bool.false_eq_true,if_false];exact e
   ·rcases hx with hx|hx
    ·rcases Z1.mp hx with z|z
     ·cases z;exact Η rfl hk
     ·exact .inl z
    ·exact .inr hx
def kg {env:Env}{scope:acn}(h:∀x,(x,aaW)∈scope.names->∃c,env.cells.lookup x=ν c):
  ∃cl,closureFor scope env=pure cl/\(∀x,(x,aaW)∈scope.names->∃c,cl.lookup x=ν c)/\∀x c,cl.lookup x=ν c->env.cells.lookup x=ν c:=by
 obtain⟨cl,e,h1,h2⟩:=kP scope.names [] h (λx c z=>by simp at z)
 refine{cl,?_,λx hx=>h1 x (.inl hx),h2};unfold closureFor;refine Eq.trans ?_ (Ι (· >>= pure) e);rfl
structure Links (X:Cx)(scope:acn)(N':List Str)(lk:List (Option Nat)):Prop where
 kind:scope.kind=.function
 x_:∀x∈scope.names,x.2≠.cell
 names:∀x∈scope.names,x.2=.local->scope.names.lookup x.1=ν .local
 free:∀x,(x,aaW)∈scope.names->X.env.kindOf x=ν .cell\/X.env.kindOf x=ν .free
 len:lk.length=N'.length
 link:∀(i j:Nat),lk[i]?=ν (ν j)->∃x,N'[i]?=ν x/\X.N[j]?=ν x/\(x,aaW)∈scope.names/\scope.names.lookup x=ν .free
noncomputable def gz (outer:List (Str×acY))(N:List Str)(scope:acn)(N':List Str)(lk:List (Option Nat)):Bool :=
 (scope.kind==.function)&&scope.names.all (λx=>x.2 != .cell&&(x.2 != .local || scope.names.lookup x.1==ν .local)&&(x.2 != .free || outer.lookup x.1==ν .cell || outer.lookup x.1==ν .free)) &&
 lk.length==N'.length&&(Z_ lk.length).all λi=>match lk[i]? with
  |some (ν j)=>match N'[i]? with
   |some x=>N[j]?==ν x&&scope.names.contains (x,.free)&&scope.names.lookup x==ν .free
   |none=>η
  |_=>ζ
def Links.of {X:Cx}{scope:acn}{N':List Str}{lk:List (Option Nat)}(h:gz X.env.scope.names X.N scope N' lk=ζ):Links X scope N' lk:=by
 simp only[gz,aaQ]at h;obtain⟨⟨⟨h1,h2⟩,h3⟩,h4⟩:=h;rw[abP]at h2 h4;refine{by simpa using h1,λx hx=>?_,λx hx hl=>?_,λx hx=>?_,by simpa using h3,λi j aL=>?_}
 ·have:=h2 x hx;simp only[aaQ]at this;simpa using this.1.1
 ·have:=h2 x hx;simp only[aaQ]at this;have q:=this.1.2;rw[hl]at q;simpa using q
 ·have:=h2 _ hx;simp only[aaQ]at this;have q:=this.2;simp only[Bool.or_eq_true]at q;rcases q with (q|q)|q
  ·simp at q
  ·exact .inl (show X.env.scope.names.lookup x=ν .cell by simpa using q)
  ·exact .inr (show X.env.scope.names.lookup x=ν .free by simpa using q)
 ·have hi:i<lk.length:=(aaf.mp aL).1;have q:=h4 i (aax.mpr hi);rw[aL]at q;simp only at q;cases e:N'[i]? with
  |none=>rw[e]at q;simp at q
  |some x =>
   rw[e]at q;simp only[aaQ]at q;obtain⟨⟨q1,q2⟩,q3⟩:=q;exact{x,rfl,by simpa using q1,by simpa using q2,by simpa using q3}
noncomputable def fU (lk:List (Option Nat))(σ:St):St:=lk.map λl=>match l with|some j=>(match σ[j]? with|some v=>v|none=>ξ)|none=>ξ
theorem fc {env:Env}:∀{names:List (Str×acY)} {x:Str},names.lookup x=ν .free ->
  (names.map λ(n,k)=>if (k==aaW&&env.scope.kind==.function&&env.kindOf n==ν .cell) then (n,acu) else (n,k)).lookup x=ν .cell \/
  (names.map λ(n,k)=>if (k==aaW&&env.scope.kind==.function&&env.kindOf n==ν .cell) then (n,acu) else (n,k)).lookup x=ν .free
 |[],_,h=>by simp at h
 | (n,k)::r,x,h=>by
  have ih:=@fc env r x;show List.lookup x ((if (k==aaW&&env.scope.kind==.function&&env.kindOf n==ν .cell)=ζ then (n,acu) else (n,k))::_)=_ \/
   List.lookup x ((if (k==aaW&&env.scope.kind==.function&&env.kindOf n==ν .cell)=ζ then (n,acu) else (n,k))::_)=_
  cases hx:x==n with
  |true =>
   simp only[abk,hx]at h;cases h
   by_cases hc:(aaW==aaW&&env.scope.kind==.function&&env.kindOf n==ν .cell)=ζ
   ·rw[χ hc];left;simp[abk,hx]
   ·rw[ω hc];right;simp[abk,hx]
  |false =>
   simp only[abk,hx]at h
   by_cases hc:(k==aaW&&env.scope.kind==.function&&env.kindOf n==ν .cell)=ζ
   ·rw[χ hc];simp only[abk,hx];exact ih h
   ·rw[ω hc];simp only[abk,hx];exact ih h
theorem eY {env:Env}:∀{names:List (Str×acY)} {x:Str} {k:acY},(k=.cell\/k=.free)->(∀y∈names,y.2≠.cell) ->
  (names.map λ(n,k)=>if (k==aaW&&env.scope.kind==.function&&env.kindOf n==ν .cell) then (n,acu) else (n,k)).lookup x=ν k->(x,aaW)∈names
 |[],_,_,_,_,h=>by simp at h
 | (n,k')::r,x,k,hk,hc,h=>by
  have ih:=@eY env r x k hk (λy hy=>hc y (aac _ hy));have h':List.lookup x ((if (k'==aaW&&env.scope.kind==.function&&env.kindOf n==ν .cell)=ζ then (n,acu) else (n,k'))::(r.map λ(n,k)=>if (k==aaW&&env.scope.kind==.function&&env.kindOf n==ν .cell) then (n,acu) else (n,k)))=ν k:=h
  have MP:=hc (n,k') (Z7 ..)
  by_cases Ir:(k'==aaW&&env.scope.kind==.function&&env.kindOf n==ν .cell)=ζ
  ·rw[χ Ir]at h';simp only[aaQ,beq_iff_eq]at Ir;cases hx:x==n with
   |true=>rw[eq_of_beq hx,Ir.1.1];exact Z7 ..
   |false=>rw[abk,hx]at h';exact aac _ (ih h')
  ·rw[ω Ir]at h';cases hx:x==n with
   |true =>
    rw[abk,hx]at h';have e:k'=k:=by simpa using h'
    subst e;rcases hk with hk|hk
    ·exact Η hk MP
    ·rw[eq_of_beq hx,hk];exact Z7 ..
   |false=>rw[abk,hx]at h';exact aac _ (ih h')
section
variable {X:Cx}{μ:List (θ×Obj)}{σ:St}{H:Hp}{s:ZZ}{scope:acn}{N':List Str}{lk:List (Option Nat)}{cl:List (Str×θ)}{ex:List θ}
def EN {h':Heap}{t':Nat}(I:Inv X μ σ H s)(L:Links X scope N' lk)(hex:∀b∈ex,kU X μ H b)(UM:∀b∈ex,∃o,s.heap.get? b=ν o)
  (oM:∀x,(x,aaW)∈scope.names->∃c,cl.lookup x=ν c) (uL:∀x c,cl.lookup x=ν c->X.env.cells.lookup x=ν c)
  (hn:h'.Ns s.heap.objs.size (λ_=>ξ)) (hk:∀b o,s.heap.get? b=ν o->h'.get? b=ν o) :
  Inv (ay X scope N' cl s.heap.objs.size s H ex) [] (fU lk σ) H {s with heap:=h',toks:=t'}:=by
 obtain⟨m,hm,hl⟩:=I.loc;have YW:∀b∈ex,b≠s.heap.objs.size:=λb hb=>by
  obtain⟨o,e⟩:=UM b hb;exact aaL (aaq e)
 refine⟨⟨I.ok.mod,L.kind,I.ok.glob,I.ok.blt,ZX _,λx y c h1 h2=>I.ok.inj x y c (uL _ _ h1) (uL _ _ h2),λx hx=>?_,λx c z=>(nomatch z),I.ok.hd,I.ok.frames,.inl rfl,
  λb hb=>{YW b hb,λx c e=>(hex b hb).2.2.2.2.1 x c (uL _ _ e)},I.bs,aaH I.ok.Kb I.sz,λb o e z=>?_,λb hb z=>?_,I.stack,I.y_⟩,
  rfl,I.bare,Un.kept hk,{_,hn,λi x v h1 h2 h3=>?_},λx c e=>?_,I.b9.fresh (ZX _),λx c e=>I.j9 x c (uL _ _ e),λp hp=>Η (show p∈([]:List (θ×Obj)) from hp) (by simp),I.b9.kept hk,?_⟩
 ·have ES:(relabel scope X.env).names.lookup x=ν .cell\/(relabel scope X.env).names.lookup x=ν .free:=hx;rcases ES with q|q
  ·exact oM x (eY (.inl rfl) L.x_ q)
  ·exact oM x (eY (.inr rfl) L.x_ q)
 ·obtain⟨f0,f1,f2,f3,_⟩:=hex b z;rcases f3 with q|q
  ·exact I.ok.El b o e q
  ·have h1:=aaq e;have h2:=I.ok.Kb;exact Η (aaG h1 (aaH h2 q)) (abN _)
 ·obtain⟨f0,f1,f2,f3,_⟩:=hex b hb;rcases Z1.mp (I.xF b z)with q|q
  ·exact f1 q
  ·exact f2 q
 ·have hi:∃j,lk[i]?=ν (ν j)/\σ[j]?=ν (ν v):=by
   have Fe:(fU lk σ)[i]?=ν (ν v):=h2;unfold fU at Fe;rw[aah]at Fe;cases e:lk[i]? with
   |none=>rw[e]at Fe;cases Fe
   |some l =>
    cases l with
    |none=>rw[e]at Fe;cases Fe
    |some j =>
     rw[e]at Fe;cases e2:σ[j]? with
     |none=>simp[e2]at Fe
     |some w' =>
      simp only[Option.map_some,e2,Option.some.injEq]at Fe;subst Fe;exact{(j),rfl,e2}
  obtain⟨j,hj,hσ⟩:=hi;obtain⟨y,e1,e2,e3,e4⟩:=L.link i j hj;have YV:x=y:=by
   have Iw:N'[i]?=ν x:=h1;rw[e1]at Iw;exact(aaC Iw).symm
  subst YV;have Uc:NU X.env.scope x:=by
   rcases L.free x e3 with q|q
   ·exact .inr (.inl q)
   ·exact .inr (.inr q)
  obtain⟨u,ru,lu⟩:=hl j x v e2 hσ Uc;refine{u,ru,.inr {?_,?_}}
  ·exact fc e4
  ·rcases lu with⟨k,_⟩|⟨_,c,hc,z⟩
   ·rcases L.free x e3 with q|q <;> (rw[k]at q;cases q)
   ·obtain⟨c',sR⟩:=oM x e3;have:=uL x c' sR;rw[hc]at this;cases this;obtain⟨o,ho,hd⟩:=z;exact{c,sR,o,hk _ _ ho,hd}
 ·obtain⟨v,o,ho,hd⟩:=I.cell x c (uL _ _ e);exact{v,o,hk _ _ ho,hd}
 ·show (fU lk σ).length=N'.length;unfold fU;rw[ZU,L.len]
def EO {s':ZZ}{σ':St}{H':Hp}{pl:List (θ×Obj)}{C:θ}{h'':Heap}(I:Inv X μ σ H s)(hex:∀b∈ex,kU X μ H b)
  (J:Inv (ay X scope N' cl s.heap.objs.size s H ex) pl σ' H' s') (hs:abL s.heap.objs.size s'.heap h''):Inv X μ σ H' {s' with heap:=h''}:=by
 have hC:H' s.heap.objs.size=ξ:=J.free;have u:=J.base;refine I.Q6 (ch:=ex) (s':={s' with heap:=h''}) J.os ?_ ?_ J.bare (λb hb=>?_)
 ·have kk:∀b o,b≠s.heap.objs.size->s'.heap.get? b=ν o->h''.get? b=ν o:=λb o hb e=>(hs.2 b hb).trans e;have ne:∀b o,s.heap.get? b=ν o->b≠s.heap.objs.size:=λb o e=>aaL (aaq e);refine{λb o e n hb hx=>kk b _ (ne b o e) (u.keep b o e n hb hx),λb o e n hb hx=>?_,u.free,λb o e hx=>?_,u.tK,u.rF,u.tO}
  ·obtain⟨sl,q⟩:=u.slot b o e n hb hx;exact{sl,kk b _ (ne b o e) q}
  ·obtain⟨o',q⟩:=u.there b o e hx;exact{o',kk b _ (ne b o e) q}
 ·intro b o e;have hb:b≠s.heap.objs.size:=λz=>by rw[z]at e;rw[hC]at e;cases e
  refine(J.b9 b o e).AQ (λc v hc q=>(hs.2 c ?_).trans q) (λ_ q=>q) λ_ _ q=>q;rcases hc with z|z
  ·rw[z];exact hb
  ·intro z';rw[z']at z;rw[hC]at z;cases z
 ·obtain⟨f0,f1,f2,f3,f4,f5⟩:=hex b hb;exact{(f3),f1,f4,f5}
end
noncomputable def oX (g:acx)(after:Sem Fin->Sem Fin)(e:Expr)(d:Nat)(it acc:ZW)(env:Env):Sem Fin:=do
 adm g.iter.pos
 match <- pyNext it with
 |none=>pure (.done .next)
 |some v =>
  letOwnedTupleGo g.target it v
  assign g.target env v
  let mut ok:=ζ
  for c in g.ifs do
   if ok then ok <- isTrue c env (eval c env)
  if ok then after (again (.compLoop e d it acc env)) else again (.compLoop e d it acc env)
noncomputable def oG (e:Expr)(d:Nat)(g':acx)(acc:ZW)(env:Env)(k:Sem Fin):Sem Fin:=do
 let x <- eval g'.iter env
 adm g'.iter.pos
 let x <- aaO g'.iter env x
 let _ <- runOwn (.compStart e (d+1) (<- holding [x] (pyIter x)) acc env) env
 k
def gG (t:Sem Unit)(k:Sem Fin):Sem Fin:=do
 t
 k
def Al (elt:Expr)(acc:ZW)(env:Env):Sem Unit:=do let _ <- call (.builtin "list.append") [acc,<- eval elt env]
def sX (elt:Expr)(acc:ZW)(env:Env):Sem Unit:=do let v <- eval elt env;adm elt.pos;let _ <- call (.builtin "set.add") [acc,v]
noncomputable def FG (k v:Expr)(acc:ZW)(env:Env):Sem Unit:=do
    let kv <- eval k env
    let vv <- holding [kv] (eval v env)
    match acc with
    |.ref d=>do
     adm {k.pos with endLine:=v.pos.endLine,endCol:=v.pos.endCol}
     holding [kv,vv] (dictSet d kv vv)
    |_=>unsupported "internal:dictcomp"
structure gx (e:Expr)(d:Nat)(g:acx)(acc:ZW)(env:Env)(after:Sem Fin->Sem Fin):Prop where
 turn:∀it,compTurn e d it acc env=oX g after e d it acc env
 cl:(clausesOf e)[d]?=ν g
 sync:g.is_async=0
 quiet:∀it,(adz e d it acc env).quiet=ζ
 under:∀(A:aaX) it,A.under (adz e d it acc env)=A
 KG:∀(A:aaX) it,A.under (Code.compStart e d it acc env)=A
 LW:∀it,(adz e d it acc env).isFrame=η
 OR:∀it,(Code.compStart e d it acc env).isFrame=η
section
variable {elt tg qR cw kX k v:Expr}{ifs gU:List Expr}{sc:acn}{pos:Pos}{acc:ZW}{env:Env}
def Ka:gx (.ListComp elt [{tg,cw,ifs,0}] sc pos) 0 {tg,cw,ifs,0} acc env (gG (Al elt acc env)) :=
 {λ_=>rfl,rfl,rfl,λ_=>rfl,λ_ _=>rfl,λ_ _=>rfl,λ_=>rfl,λ_=>rfl}
def J_:gx (.SetComp elt [{tg,cw,ifs,0}] sc pos) 0 {tg,cw,ifs,0} acc env (gG (sX elt acc env)) :=
 {λ_=>rfl,rfl,rfl,λ_=>rfl,λ_ _=>rfl,λ_ _=>rfl,λ_=>rfl,λ_=>rfl}
def Q4:gx (.DictComp k v [{tg,cw,ifs,0}] sc pos) 0 {tg,cw,ifs,0} acc env (gG (FG k v acc env)) :=
 {λ_=>rfl,rfl,rfl,λ_=>rfl,λ_ _=>rfl,λ_ _=>rfl,λ_=>rfl,λ_=>rfl}
def Nb:gx (.ListComp elt [{tg,cw,ifs,0},{qR,kX,gU,0}] sc pos) 0 {tg,cw,ifs,0} acc env (oG (.ListComp elt [{tg,cw,ifs,0},{qR,kX,gU,0}] sc pos) 0 {qR,kX,gU,0} acc env) :=
 {λ_=>rfl,rfl,rfl,λ_=>rfl,λ_ _=>rfl,λ_ _=>rfl,λ_=>rfl,λ_=>rfl}
def Na:gx (.ListComp elt [{tg,cw,ifs,0},{qR,kX,gU,0}] sc pos) 1 {qR,kX,gU,0} acc env (gG (Al elt acc env)) :=
 {λ_=>rfl,rfl,rfl,λ_=>rfl,λ_ _=>rfl,λ_ _=>rfl,λ_=>rfl,λ_=>rfl}
def M_:gx (.SetComp elt [{tg,cw,ifs,0},{qR,kX,gU,0}] sc pos) 0 {tg,cw,ifs,0} acc env (oG (.SetComp elt [{tg,cw,ifs,0},{qR,kX,gU,0}] sc pos) 0 {qR,kX,gU,0} acc env) :=
 {λ_=>rfl,rfl,rfl,λ_=>rfl,λ_ _=>rfl,λ_ _=>rfl,λ_=>rfl,λ_=>rfl}
def M9:gx (.SetComp elt [{tg,cw,ifs,0},{qR,kX,gU,0}] sc pos) 1 {qR,kX,gU,0} acc env (gG (sX elt acc env)) :=
 {λ_=>rfl,rfl,rfl,λ_=>rfl,λ_ _=>rfl,λ_ _=>rfl,λ_=>rfl,λ_=>rfl}
end
def N8:TT:=λ_ H Q=>Q ζ H
def xb (X:Cx)(ifs:List Expr)(t:TT):Prop :=
 ∀(μ:List (θ×Obj)) (s:ZZ) (σ:St) (H:Hp) (Q:Bool->Hp->Prop),Inv X μ σ H s->t σ H Q ->
  aau (Ψ X.prog X.w) X.A (forIn ifs ζ λc r=>if r=ζ then do let ok <- isTrue c X.env (eval c X.env);pure (ForInStep.yield ok) else pure (ForInStep.yield r)) (TP X μ σ Q) X.xe s
def G_ {X:Cx}:xb X [] N8:=λ_ _ _ H _ I h=>wpAny_tests_nil {(H),I,h}
def G9 {X:Cx}{c:Expr}{t:TT}(h:PT X c t):xb X [c] t:=λμ s σ H Q I q=>wpAny_tests_one (h μ s σ H Q I q)
abbrev ml:=(St->Hp->Prop)->St->Hp->Prop
def oh (X:Cx)(after:Sem Fin->Sem Fin)(t:ml):Prop :=
 ∀(μ:List (θ×Obj)) (s:ZZ) (σ:St) (H:Hp) (N:St->Hp->Prop) (k:Sem Fin) (Q:Fin->ZZ->Prop) (E:ZW->ZZ->Prop),Inv X μ σ H s->t N σ H ->
  (∀σ' H' s',Inv X μ σ' H' s'->N σ' H'->aau (Ψ X.prog X.w) X.A k Q E s')->aau (Ψ X.prog X.w) X.A (after k) Q E s
def dJ {X:Cx}(hx:X.xe=λ_ _=>False){α:Type}{t:Sem α}{Q:α->ZZ->Prop}{E:ZW->ZZ->Prop}{s:ZZ}(h:aau (Ψ X.prog X.w) X.A t Q X.xe s):aau (Ψ X.prog X.w) X.A t Q E s :=
 ac7 h (λ_ _ q=>q) λe s q=>by rw[hx]at q;exact q.elim
def gI (J:It)(g:TG)(tt:TT)(ta:ml)(End:St->Hp->Prop):St->Hp->Prop:=λσ H =>
 ∃W:Nat->Nat->St->Hp->Prop,(∃m,W 0 m σ H)/\∀i m σ H,W i m σ H->(J.stop i H/\End σ H) \/
  (J.go i H/\∃N:St->Hp->Prop,(∀σ' H',N σ' H'->∃m',m'<m/\W (i+1) m' σ' H')/\∀x H',J.N4 i H x H'->g x σ H' λσ2 H2=>tt σ2 H2 λb H3=>if b=ζ then ta N σ2 H3 else N σ2 H3)
section
variable {X:Cx}{e:Expr}{d:Nat}{g:acx}{acc:ZW}{after:Sem Fin->Sem Fin}{tg:TG}{tt:TT}{ta:ml}
def BN (hx:X.xe=λ_ _=>False)(hc:X.calm=ζ)(F:gx e d g acc X.env after)(hg:PG X g.target tg)(ht:xb X g.ifs tt)(ha:oh X after ta)
  {it:θ} {fp:List θ} {tn:Nat->Heap->Prop} {J:It} (T:Turn X.prog X.w X.K g.target J fp it tn) {μ:List (θ×Obj)} {σ:St} {H:Hp} {s:ZZ} {End:St->Hp->Prop}
  (I:Inv X μ σ H s) (st:tn 0 s.heap) (hf:∀b∈fp,kU X μ H b) (h:gI J tg tt ta End σ H) :
  adp (Ψ X.prog X.w) X.A (.compLoop e d (.ref it) acc X.env) (λr s'=>r=.ok .next/\∃σ' H',Inv X μ σ' H' s'/\End σ' H') s:=by
 obtain⟨W,⟨m0,w0⟩,turn⟩:=h;have xG:∀{H':Hp},(∀b∈fp,H' b=ξ)->∀b∈fp,kU X μ H' b:=λhn b hb=>{hn b hb,(hf b hb).2};refine codeAny_loop (F.quiet _) (λn s'=>∃i σ' H',Inv X μ σ' H' s'/\tn i s'.heap/\(∀b∈fp,H' b=ξ)/\W i n σ' H') (λn s3 hI=>?_) m0 {0,σ,H,I,st,λb hb=>(hf b hb).1,w0};obtain⟨i,σ3,H3,I3,o4,QS,w3⟩:=hI;rw[F.under];have MQ:(Ψ X.prog X.w).den (.compLoop e d (.ref it) acc X.env)=(oX g after e d (.ref it) acc X.env).onRaise (λx=>do noteFrame x X.env;theTreesLotGoes x):=by
  rw[<- F.turn];show (if (adz e d (.ref it) acc X.env).isFrame then _ else _)=_
  rw[F.LW];rfl
 rw[MQ];refine wpAny_noted ?_;unfold oX;rcases turn i n σ3 H3 w3 with⟨stop,qn⟩|⟨go,N,hN,step⟩
 ·refine ZV (abE (ZV (bQ (T.done X rfl rfl rfl hc i μ s3 σ3 H3 _ I3 (xG QS) o4 stop) λr s4 iX=>?_)));obtain⟨hr,I4⟩:=iX;subst hr;exact Z0 {(rfl),σ3,H3,I4,qn}
 ·refine ZV (abE (ZV (bQ (T.item X rfl rfl rfl hc i μ s3 σ3 H3 _ I3 (xG QS) o4 go) λr s4 mV=>?_)));obtain⟨u,hr,h4⟩:=mV;subst hr;refine ZV (bQ h4 λ_ s5 vV=>?_);obtain⟨x,H5,I5,r5,y5,K0,Vg⟩:=vV;have VH:=I5.pinned (xG Vg) (T.obj _ _ K0);refine ZV (bQ (dJ hx (hg _ s5 σ3 H5 x u _ VH r5 (step x H5 y5))) λ_ s6 Ub=>?_);obtain⟨σ6,H6,I6,q6⟩:=Ub;refine ZV (bQ (dJ hx (ht _ s6 σ6 H6 _ I6 q6)) λok s7 Yh=>?_);obtain⟨H7,I7,q7⟩:=Yh;have F8:∀{σ8:St} {H8:Hp} {s8:ZZ},Inv X (μ++pI fp s5.heap) σ8 H8 s8->N σ8 H8->∃m,m<n/\∃i σ' H',Inv X μ σ' H' s8/\tn i s8.heap/\(∀b∈fp,H' b=ξ)/\W i m σ' H':=λ{σ8 H8 s8} I8 n8=>by
   obtain⟨m',hm,w8⟩:=hN σ8 H8 n8;refine{m',hm,i+1,σ8,H8,I8.k_,T.keep _ _ _ K0 λb hb o e=>(I8.pin (b,o) (aaB _ (aaB _ (ik hb e)))).1,λb hb=>?_,w8};obtain⟨o,e,d⟩:=T.obj _ _ K0 b hb;exact(I8.pin (b,o) (aaB _ (aaB _ (ik hb e)))).2.1
  cases ok with
  |false=>exact Z0 {rfl,F8 I7 (by simpa using q7)}
  |true =>
   exact ha _ s7 σ6 H7 N _ _ _ I7 (by simpa using q7) λσ8 H8 s8 I8 n8=>Z0 {rfl,F8 I8 n8}
def qG (hx:X.xe=λ_ _=>False)(hc:X.calm=ζ)(F:gx e d g acc X.env after)(hg:PG X g.target tg)(ht:xb X g.ifs tt)(ha:oh X after ta)
  {it:θ} {fp:List θ} {tn:Nat->Heap->Prop} {J:It} (T:Turn X.prog X.w X.K g.target J fp it tn) {μ:List (θ×Obj)} {σ:St} {H:Hp} {s:ZZ} {End:St->Hp->Prop}
  (I:Inv X μ σ H s) (st:tn 0 s.heap) (hf:∀b∈fp,kU X μ H b) (h:gI J tg tt ta End σ H) :
  adp (Ψ X.prog X.w) X.A (.compStart e d (.ref it) acc X.env) (λr s'=>r=.ok .next/\∃σ' H',Inv X μ σ' H' s'/\End σ' H') s:=by
 have lp:=BN hx hc F hg ht ha T I st hf h;refine codeAny_of_tree ?_;rw[F.KG];have MQ:(Ψ X.prog X.w).den (.compStart e d (.ref it) acc X.env)=(compStart e d (.ref it) acc X.env).onRaise (λx=>do noteFrame x X.env;adm theWindowsPlace):=by
  show (if (Code.compStart e d (.ref it) acc X.env).isFrame then _ else _)=_
  rw[F.OR];rfl
 rw[MQ];refine wpAny_notedAt ?_;unfold compStart;rw[F.cl];simp only[Option.elim_some,F.sync];show aau _ _ (ask >>= _) _ _ s;refine ZV (adE (wpAny_ite ?_))
 split
 ·first
   |exact ZV (Z0 (Z0 (And.intro (F.quiet _) lp)))
   |exact Z0 (And.intro (F.quiet _) lp)
 ·have h2:∀(E:ZW->ZZ->Prop),aau (Ψ X.prog X.w) X.A (pyIter (.ref it)) (λRQ s'=>(adz e d RQ acc X.env).quiet=ζ/\adp (Ψ X.prog X.w) X.A (.compLoop e d RQ acc X.env) (λr s'=>r=.ok .next/\∃σ' H',Inv X μ σ' H' s'/\End σ' H') s') E s :=
   λE=>T.self X.A 0 s _ E st {F.quiet _,lp}
  first
   |exact ZV (acb (ZV (abE (ZV (ac7 (h2 _) (λRQ s' h'=>Z0 h') λ_ _ x=>x)))))
   | (refine ZV (acb ?_);exact ZV (abE (ZV (ac7 (h2 _) (λRQ s' h'=>Z0 h') λ_ _ x=>x))))
def zD {g':acx}{wi:TI}(hx:X.xe=λ_ _=>False)(hc:X.calm=ζ)(F:gx e (d+1) g' acc X.env after)(hi:PI X g'.target g'.iter wi)(hg:PG X g'.target tg)(ht:xb X g'.ifs tt)(ha:oh X after ta)
  (hs:∀x,aaO g'.iter X.env x=pure x:=by intro _;rfl) :
  oh X (oG e d g' acc X.env) (λN σ H=>wi σ H λJ H1=>gI J tg tt ta N σ H1):=by
 intro μ s σ H N k Q E I h hk;unfold oG;refine ZV (bQ (dJ hx (hi μ s σ H _ I h)) λx s1 h1=>?_);refine ZV (abE (ZV (wpAny_of_eq (hs x) ?_)));refine ZV (aa2 (bQ (dJ hx h1) λJN s2 h2=>?_));obtain⟨it,fp,tn,J,H2,e1,I2,T,iJ,f2,hl⟩:=h2;subst e1;refine ZV (wpAny_runOwn (abW (qG hx hc F hg ht ha T I2 iJ f2 hl) λr s' hr=>?_));obtain⟨rfl,σ',H',I',q⟩:=hr;exact hk σ' H' s' I' q
def pL {elt:Expr}{te:TE}{a:θ}(hx:X.xe=λ_ _=>False)(he:PE X elt te):
  oh X (gG (Al elt (.ref a) X.env)) (λN σ H=>te σ H λv H1=>∃xs,H1 a=ν (.lst xs)/\xs.length<aak/\N σ (upd H1 a (.lst (xs++[v])))):=by
 intro μ s σ H N k Q E I h hk;unfold gG Al;refine ZV (ZV (bQ (dJ hx (he μ s σ H _ I h)) λu s1 Yg=>?_));obtain⟨v,H1,I1,r1,xs,hH,hz,q⟩:=Yg;refine ZV (bQ (dJ hx <| mL (X:=X) μ s1 σ H1 (.ref a) [v] (.ref a) [u] (λw' H'=>N σ H') I1 rfl (.cons r1 .nil) ⟨a,xs,v,rfl,rfl,hH,hz,q⟩) λ_ s2 Ye=>?_)
 obtain⟨_,H2,I2,_,q2⟩:=Ye;exact Z0 (hk σ H2 s2 I2 q2)
end
section
variable {X:Cx}{e:Expr}
structure qP (X:Cx)(d8:Sem ZW)(o:HO):Prop where
 ok:∀(μ:List (θ×Obj)) (s:ZZ) (σ:St) (H:Hp) (Q:ZW->ZZ->Prop) (E:ZW->ZZ->Prop),Inv X μ σ H s ->
  (∀a s',s.heap.objs.size<=a->H a=ξ->(∀b o,s.heap.get? b=ν o->s'.heap.get? b=ν o)->Inv X μ σ (upd H a o) s'->Q (.ref a) s')->aau (Ψ X.prog X.w) X.A d8 Q E s
def pT:qP X (newList []) (.lst []) :=
 {λμ s σ H Q E I h=>abe (h _ _ (ZX _) I.fresh (λb o e=>Z3 _ e) (I.Pb (its:=[]) (t':=s.toks) .nil (aab _)))}
def Inv.sameBut {μ:List (θ×Obj)}{σ:St}{H:Hp}{s:ZZ}{C:θ}{h':Heap}(I:Inv X μ σ H s)(f:kU X μ H C)(hs:abL C s.heap h'):Inv X μ σ H {s with heap:=h'}:=by
 obtain⟨f0,f1,f2,f3,f4,f5⟩:=f;exact I.turned (t':=s.toks) (λb o hb e=>(hs.2 b hb).trans e) f0 f1 f3 f4 f5
end
end L2
namespace ST
open PySem PySem.SetTable
def it:Nat->Nat->Nat
 |0,x=>x
 |n+1,x=>5*it n x+1
theorem ym (a:Nat):∀(b x:Nat),it (a+b) x=it b (it a x)
 |0,x=>rfl
 |b+1,x=>by
  show 5*it (a+b) x+1=5*it b (it a x)+1;rw[ym a b x]
theorem EK:∀j:Nat,∃a b:Nat,∀x,it (2 ^ j) x=(1+4*2 ^ j*a)*x+2 ^ j*(1+2*b)
 |0=>{1,0,λx=>by show 5*x+1=_;simp}
 |j+1=>by
  obtain⟨a,b,h⟩:=EK j;refine{a+2*2 ^ j*a*a,b+2 ^ j*a*(1+2*b),λx=>?_};rw[show 2 ^ (j+1)=2 ^ j+2 ^ j by rw[Nat.pow_succ];lia,ym,h,h]
  generalize 2 ^ j=P
  grind
theorem lift:∀(j x t:Nat),∃k,k<2 ^ j/\it k x % 2 ^ j=t % 2 ^ j
 |0,x,t=>{0,by decide,by rw[Nat.pow_zero,Nat.mod_one,Nat.mod_one]}
 |j+1,x,t=>by
  obtain⟨k,hk,e⟩:=lift j x t;obtain⟨a,b,h⟩:=EK j;have hP:0<2 ^ j:=Nat.pow_pos (by decide)
  rw[Nat.pow_succ]
  by_cases q:it k x % (2 ^ j*2)=t % (2 ^ j*2)
  ·exact{k,by lia,q}
  ·refine{k+2 ^ j,by lia,?_}
   rw[ym,h];generalize it k x=y at *
   generalize 2 ^ j=P at *
   have e1:((1+4*P*a)*y+P*(1+2*b))=(y+P)+(P*2)*(2*a*y+b):=by grind
   rw[e1,Nat.add_mul_mod_self_left,Nat.mod_mul,Nat.mod_mul];rw[Nat.mod_mul,Nat.mod_mul,e]at q;rw[Nat.add_mod_right,Nat.add_div_right _ hP,e];have u1:y / P % 2<2:=acU _ (by decide)
   have u2:t / P % 2<2:=acU _ (by decide)
   have u3:y / P % 2≠t / P % 2:=λz=>q (by rw[z])
   have u4:(y / P).succ % 2=t / P % 2:=by lia
   rw[u4]
def eV (m:Nat)(p:Probe):Probe:=advance {mask:=m,place:=#[],dummies:=#[],finger:=0,led:=ζ,moves:=0,plain:=ζ} p
def SX (m:Nat)(h:Int):Probe:=probeStart {mask:=m,place:=#[],dummies:=#[],finger:=0,led:=ζ,moves:=0,plain:=ζ} h
def KZ (t:SetTable)(h:Int):probeStart t h=SX t.mask h:=rfl
noncomputable def iZ (m:Nat)(h:Int):Nat->Probe
 |0=>SX m h
 |n+1=>eV m (iZ m h n)
def cq (m:Nat)(h:Int)(n:Nat):Nat:=(iZ m h n).j
def lp (m:Nat)(h:Int):Nat->Nat×Nat
 |0=>(bits h % (m+1),bits h)
 |k+1=>leap m (lp m h k).1 (lp m h k).2
def NT (m:Nat)(x:Nat×Nat):Probe:={j:=x.1,more:=runEnd m x.1-x.1,i:=x.1,perturb:=x.2,dummy:=ξ}
def K9 (m i:Nat):runEnd m i-i<=9:=by
 unfold runEnd
 split <;> lia
theorem yp (m:Nat)(h:Int)(x:Nat×Nat)(n:Nat)(e:iZ m h n=NT m x):∀d,d<=runEnd m x.1-x.1->iZ m h (n+d)={NT m x with j:=x.1+d,more:=runEnd m x.1-x.1-d}
 |0,_=>by rw[Nat.add_zero,e];rfl
 |d+1,hd=>by
  show eV m (iZ m h (n+d))=_;rw[yp m h x n e d (by lia)]
  unfold eV advance;rw[χ (by show runEnd m x.1-x.1-d>0;lia)]
  rfl
def wX (m:Nat)(h:Int)(x:Nat×Nat)(n:Nat)(e:iZ m h n=NT m x):iZ m h (n+(runEnd m x.1-x.1)+1)=NT m (leap m x.1 x.2):=by
 show eV m (iZ m h (n+(runEnd m x.1-x.1)))=_;rw[yp m h x n e _ (ZX _)];unfold eV advance;rw[ω (by show ¬ runEnd m x.1-x.1-(runEnd m x.1-x.1)>0;lia)]
 rfl
theorem F6 (m:Nat)(h:Int):∀k,∃n,n<=10*k/\iZ m h n=NT m (lp m h k)
 |0=>{0,ZX _,rfl}
 |k+1=>by
  obtain⟨n,h1,h2⟩:=F6 m h k;refine{n+(runEnd m (lp m h k).1-(lp m h k).1)+1,?_,wX m h _ n h2};have:=K9 m (lp m h k).1;lia
theorem Ew (m:Nat)(h:Int):∀k,(lp m h k).2=bits h / 32 ^ k
 |0=>by rw[Nat.pow_zero,Nat.div_one];rfl
 |k+1=>by
  show (lp m h k).2 / 32=_;rw[Ew m h k,Nat.div_div_eq_div_mul,Nat.pow_succ]
def Jc (h:Int):bits h<2 ^ 64:=by
 unfold bits;have h1:=Int.emod_lt_of_pos h (show (0:Int)<2 ^ 64 by decide)
 have h2:=Int.emod_nonneg h (show (2 ^ 64:Int)≠0 by decide)
 lia
def HW (m:Nat)(h:Int){k:Nat}(hk:13<=k):(lp m h k).2=0:=by
 rw[Ew];refine Nat.div_eq_of_lt (aaG (Jc h) ?_);have:32 ^ 13<=32 ^ k:=abT (by decide) hk
 exact aaH (by decide) this
def JH {j:Nat}(h:Int):∀d,(lp (2 ^ j-1) h (13+d)).1=it d (lp (2 ^ j-1) h 13).1 % 2 ^ j:=by
 have hP:2 ^ j-1+1=2 ^ j:=by have:0<2 ^ j:=Nat.pow_pos (by decide);lia
 have lt:∀k,(lp (2 ^ j-1) h k).1<2 ^ j:=λk=>by
  cases k with
  |zero=>show bits h % (2 ^ j-1+1)<_;rw[hP];exact acU _ (by lia)
  |succ k=>show (_*5+1+_ / 32) % (2 ^ j-1+1)<_;rw[hP];exact acU _ (by lia)
 intro d
 induction d with
 |zero=>exact(acV (lt 13)).symm
 |succ d ih =>
  show ((lp (2 ^ j-1) h (13+d)).1*5+1+(lp (2 ^ j-1) h (13+d)).2 / 32) % (2 ^ j-1+1)=(5*it d _+1) % 2 ^ j;rw[hP,HW _ h (by lia),ih,Nat.zero_div,Nat.add_zero,Nat.mul_comm]
  conv=>rhs;rw[Nat.add_mod,Nat.mul_mod]
  rw[Nat.add_mod,Nat.mul_mod,Nat.mod_mod]
def Y7 (j:Nat)(h:Int){t:Nat}(ht:t<2 ^ j):∃n,n<10*turns (2 ^ j-1)/\cq (2 ^ j-1) h n=t:=by
 obtain⟨k,hk,e⟩:=lift j (lp (2 ^ j-1) h 13).1 t;obtain⟨n,h1,h2⟩:=F6 (2 ^ j-1) h (13+k);refine{n,by unfold turns;lia,?_}
 unfold cq;rw[h2];show (lp (2 ^ j-1) h (13+k)).1=t;rw[JH,e,acV ht]
abbrev g (xs:Array Nat)(i:Nat):Nat:=xs.getD i 0
def yy {xs:Array Nat}{i:Nat}(h:i<xs.size):xs[i]?=ν (g xs i):=by
 rw[getElem?_pos xs i h,g,aar,getElem?_pos xs i h];rfl
def Kg (xs:Array Nat):Prop:=∀i j,i<j->j<xs.size->g xs i<g xs j
def Kg.inj {xs:Array Nat}(r:Kg xs){i j:Nat}(hi:i<xs.size)(hj:j<xs.size)(e:g xs i=g xs j):i=j:=by
 rcases Nat.lt_trichotomy i j with h|h|h
 ·have:=r i j h hj;lia
 ·exact h
 ·have:=r j i h hi;lia
theorem qM {xs:Array Nat}{j:Nat}(r:Kg xs):∀(f lo hi:Nat),hi<=xs.size->lo<=hi->hi-lo<=f->(∀k,k<lo->g xs k<j)->(∀k,hi<=k->k<xs.size->j<=g xs k) ->
  below.go xs j f lo hi<=xs.size/\(∀k,k<below.go xs j f lo hi->g xs k<j)/\(∀k,below.go xs j f lo hi<=k->k<xs.size->j<=g xs k)
 |0,lo,hi,h1,h2,h3,h4,h5=>by
  obtain rfl:lo=hi:=by omega
  exact{(h1),h4,h5}
 |f+1,lo,hi,h1,h2,h3,h4,h5=>by
  unfold below.go
  by_cases hl:lo<hi
  ·rw[χ hl];dsimp only;have hm:(lo+hi) / 2<xs.size:=by omega
   have e:xs.getD ((lo+hi) / 2) j=g xs ((lo+hi) / 2):=by
    rw[g,aar,aar,getElem?_pos xs _ hm];rfl
   rw[e]
   by_cases hc:g xs ((lo+hi) / 2)<j
   ·rw[χ hc];refine qM r f _ _ h1 (by omega) (by omega) (λk hk=>?_) h5
    by_cases Cg:k=(lo+hi) / 2
    ·rw[Cg];exact hc
    ·have:=r k ((lo+hi) / 2) (by omega) hm;omega
   ·rw[ω hc];refine qM r f _ _ (by omega) (by omega) (by omega) h4 (λk hk MP=>?_)
    by_cases Cg:k=(lo+hi) / 2
    ·rw[Cg];omega
    ·have:=r ((lo+hi) / 2) k (by omega) MP;omega
  ·rw[ω hl];obtain rfl:lo=hi:=by omega
   exact{(h1),h4,h5}
def iE {xs:Array Nat}(r:Kg xs)(j:Nat):below xs j<=xs.size/\(∀k,k<below xs j->g xs k<j)/\(∀k,below xs j<=k->k<xs.size->j<=g xs k) :=
 qM r xs.size 0 xs.size (ZX _) (aab _) (ZX _) (λk hk=>by lia) (λk h1 h2=>by lia)
def below_at {xs:Array Nat}(r:Kg xs){i:Nat}(hi:i<xs.size):below xs (g xs i)=i:=by
 obtain⟨h1,h2,h3⟩:=iE r (g xs i);rcases Nat.lt_trichotomy (below xs (g xs i)) i with h|h|h
 ·have:=h3 (below xs (g xs i)) (ZX _) (by omega)
  have:=r _ _ h hi;omega
 ·exact h
 ·have:=h2 i h;omega
def rP (t:SetTable)(x:Nat):Prop:=∃i,i<t.place.size/\g t.place i=x
def rZ {t:SetTable}(r:Kg t.place){i:Nat}(hi:i<t.place.size):t.slot (g t.place i)=.live i:=by
 unfold slot;dsimp only;rw[below_at r hi,χ (by rw[yy hi];exact beq_self_eq_true _)]
def AW {t:SetTable}(r:Kg t.place)(d:t.dummies=#[]){x:Nat}(h:¬ rP t x):t.slot x=.empty:=by
 unfold slot;dsimp only;rw[ω ?_,ω ?_]
 ·rw[d];unfold has;simp
 ·intro q;have q:=eq_of_beq q;have hl:below t.place x<t.place.size:=by
   rcases aa5 (below t.place x) t.place.size with z|z
   ·exact z
   ·rw[abM z]at q;cases q
  rw[yy hl]at q;exact h {_,hl,aaC q}
structure WF (t:SetTable)(hs:List Int):Prop where
 J5:t.dummies=#[]
 sz:t.place.size=hs.length
 A8:Kg t.place
 W5:∀i,i<t.place.size->g t.place i<=t.mask
 Gn:∃j,3<=j/\t.mask=2 ^ j-1
 room:t.place.size<=t.mask
 VZ:∀i h,hs[i]?=ν h->∃n,cq t.mask h n=g t.place i/\∀k,k<n->rP t (cq t.mask h k)
def least {p:Nat->Prop}[DecidablePred p]:∀n,p n->∃m,m<=n/\p m/\∀k,k<m->¬ p k:=by
 intro n
 induction n using Nat.strongRecOn with
 |_ n ih =>
  intro hn
  by_cases h:∃k,k<n/\p k
  ·obtain⟨k,hk,hp⟩:=h;obtain⟨m,h1,h2,h3⟩:=ih k hk hp;exact{m,by lia,h2,h3}
  ·exact{n,ZX _,hn,λk hk hp=>h {(k),hk,hp}}
instance (t:SetTable):DecidablePred (rP t):=λx=>decidable_of_iff (∃i,i<t.place.size/\g t.place i=x) Iff.rfl
def WF.hole {t:SetTable}{hs:List Int}(w:WF t hs):∃x,x<=t.mask/\¬ rP t x:=by
 refine abB λrq=>?_;have all:∀x,x<=t.mask->rP t x:=λx hx=>abB λq=>rq {(x),hx,q};have up:∀x,x<=t.mask->∃i,i<t.place.size/\g t.place i=x/\x<=i:=by
  intro x
  induction x with
  |zero =>
   intro hx;obtain⟨i,h1,h2⟩:=all 0 hx;exact{i,h1,h2,aab _}
  |succ x ih =>
   intro hx;obtain⟨i,h1,h2,h3⟩:=ih (by lia)
   obtain⟨i',h4,h5⟩:=all (x+1) hx;refine{i',h4,h5,?_};rcases aa5 i i' with q|q
   ·lia
   ·rcases aa5 i' i with q2|q2
    ·have:=w.A8 i' i q2 h1;lia
    ·obtain rfl:i=i':=by lia
     lia
 obtain⟨i,h1,h2,h3⟩:=up t.mask (ZX _);have:=w.room;lia
def WF.first {t:SetTable}{hs:List Int}(w:WF t hs)(h:Int):∃n,n<10*turns t.mask/\¬ rP t (cq t.mask h n)/\∀k,k<n->rP t (cq t.mask h k):=by
 obtain⟨x,hx,hf⟩:=w.hole;obtain⟨j,_,hj⟩:=w.Gn;have ES:x<2 ^ j:=by have:0<2 ^ j:=Nat.pow_pos (by decide);lia
 obtain⟨n,h1,h2⟩:=Y7 j h ES;rw[<- hj]at h1 h2;obtain⟨m,g1,g2,g3⟩:=least (p:=λn=>¬ rP t (cq t.mask h n)) n (by rw[h2];exact hf)
 exact{m,by lia,g2,λk hk=>abB λq=>g3 k hk q}
theorem mD (m:Nat)(h:Int):∀n,(iZ m h n).dummy=ξ
 |0=>rfl
 |n+1=>by
  show (eV m (iZ m h n)).dummy=ξ;unfold eV advance
  split
  ·exact mD m h n
  ·exact mD m h n
theorem pG {t:SetTable}{hs:List Int}(w:WF t hs)(ha:Nat->Int)(h:Int){N:Nat}(hN:¬ rP t (cq t.mask h N))(hO:∀k,k<N->rP t (cq t.mask h k)):∀(d n f:Nat),n+d=N->d<f ->
  (probe.go t ha h f (iZ t.mask h n)=ν (.empty (cq t.mask h N) ξ)/\∀k,n<=k->k<N->∀i,i<t.place.size->g t.place i=cq t.mask h k->ha i≠h) \/
  ∃m i,n<=m/\m<N/\i<t.place.size/\g t.place i=cq t.mask h m/\ha i=h/\probe.go t ha h f (iZ t.mask h n)=ν (.candidate (cq t.mask h m) i (iZ t.mask h (m+1)))/\∀k,n<=k->k<m->∀i,i<t.place.size->g t.place i=cq t.mask h k->ha i≠h
 |0,n,f,e,hf=>by
  obtain rfl:n=N:=by lia
  obtain⟨f,rfl⟩:∃f',f=f'+1:={f-1,by lia}
  refine .inl {?_,λk h1 h2=>by lia}
  unfold probe.go;rw[show t.slot (iZ t.mask h n).j=.empty from AW w.A8 w.J5 hN]
  dsimp only;rw[mD];rfl
 |d+1,n,f,e,hf=>by
  obtain⟨f,rfl⟩:∃f',f=f'+1:={f-1,by lia}
  obtain⟨i,hi,hg⟩:=hO n (by lia)
  have z6:t.slot (iZ t.mask h n).j=.live i:=by
   show t.slot (cq t.mask h n)=.live i;rw[<- hg];exact rZ w.A8 hi
  by_cases hh:ha i=h
  ·refine .inr {n,i,ZX _,by lia,hi,hg,hh,?_,λk h1 h2=>by lia}
   unfold probe.go;rw[z6];dsimp only;rw[χ (by rw[hh];exact beq_self_eq_true _)]
   rfl
  ·have st:probe.go t ha h (f+1) (iZ t.mask h n)=probe.go t ha h f (iZ t.mask h (n+1)):=by
    conv=>lhs;unfold probe.go
    rw[z6];dsimp only;rw[ω (by simpa using hh)]
    rfl
   rw[st];have here:∀i',i'<t.place.size->g t.place i'=cq t.mask h n->ha i'≠h:=λi' h1 h2=>by
    rw[w.A8.inj h1 hi (h2.trans hg.symm)];exact hh
   rcases pG w ha h hN hO d (n+1) f (by lia) (by lia)with⟨q1,q2⟩|⟨m,i',q1,q2,q3,q4,q5,q6,q7⟩
   ·refine .inl {q1,λk h1 h2=>?_}
    by_cases hk:k=n
    ·subst hk;exact here
    ·exact q2 k (by lia) h2
   ·refine .inr {m,i',by lia,q2,q3,q4,q5,q6,λk h1 h2=>?_}
    by_cases hk:k=n
    ·subst hk;exact here
    ·exact q7 k (by lia) h2
def lU {α:Type}(xs:Array α)(p:Nat)(x:α):(insertAt xs p x).toList=xs.toList.take p++x::xs.toList.drop p:=by
 unfold insertAt;rw[abm,abH,Array.toList_extract,Array.toList_extract,adh,adh,aa3];simp[aa8]
def ER {α:Type}{xs:Array α}{p:Nat}{x:α}(h:p<=xs.size):(insertAt xs p x).size=xs.size+1:=by
 rw[<- Z5,lU,aag,aaa,aaw,ack,Z5];lia
def iq {xs:Array Nat}{p x:Nat}(h:p<=xs.size)(k:Nat):g (insertAt xs p x) k=if k<p then g xs k else if k=p then x else g xs (k-1):=by
 have e:∀(ys:Array Nat) (k:Nat),g ys k=(ys.toList[k]?).getD 0:=λys k=>by rw[g,aar,aan]
 rw[e,e,e,lU]
 by_cases h1:k<p
 ·rw[χ h1,abl (by rw[aaw,Z5];lia),acw h1]
 ·rw[ω h1,aa4 (by rw[aaw];lia),aaw,Z5,show min p xs.size=p by lia]
  by_cases h2:k=p
  ·rw[χ h2,h2,ac6];rfl
  ·rw[ω h2,show k-p=k-p-1+1 by lia,acG,adb,show p+(k-p-1)=k-1 by lia]
def WF.put {t:SetTable}{hs:List Int}(w:WF t hs){h:Int}{N:Nat}(hb:cq t.mask h N<=t.mask)(hN:¬ rP t (cq t.mask h N))(hO:∀k,k<N->rP t (cq t.mask h k))(hr:t.place.size+1<=t.mask):
  WF (t.put (cq t.mask h N)).1 (hs.take (t.put (cq t.mask h N)).2++h::hs.drop (t.put (cq t.mask h N)).2)/\(t.put (cq t.mask h N)).2<=t.place.size:=by
 obtain⟨b1,b2,b3⟩:=iE w.A8 (cq t.mask h N);have hp:(t.put (cq t.mask h N)).2=below t.place (cq t.mask h N):=rfl;rw[hp];generalize hx:cq t.mask h N=x at *
 generalize hq:below t.place x=p at *
 have e:(t.put x).1={t with place:=insertAt t.place p x}:=by
  unfold SetTable.put;dsimp only;rw[w.J5,hq];unfold has;simp
 have ne:∀k,p<=k->k<t.place.size->x<g t.place k:=λk h1 h2=>by
  have:=b3 k h1 h2;rcases aa5 x (g t.place k)with q|q
  ·exact q
  ·exact Η {k,h2,by lia} hN
 have SU:(insertAt t.place p x).size=t.place.size+1:=ER b1;have V_:∀y,rP t y->rP {t with place:=insertAt t.place p x} y:=by
  rintro y ⟨i,h1,h2⟩
  by_cases hi:i<p
  ·exact{i,by show i<(insertAt t.place p x).size;lia,by show g (insertAt t.place p x) i=y;rw[iq b1,χ hi];exact h2}
  ·exact{i+1,by show i+1<(insertAt t.place p x).size;lia,by show g (insertAt t.place p x) (i+1)=y;rw[iq b1,ω (by lia),ω (by lia)];exact h2}
 rw[e];refine{{w.J5,?_,?_,?_,w.Gn,?_,?_},b1}
 ·show (insertAt t.place p x).size=_;rw[SU,aag,aaa,aaw,ack,<- w.sz];lia
 ·intro i j aL hj;have hj:j<t.place.size+1:=by rw[<- SU];exact hj
  show g (insertAt t.place p x) i<g (insertAt t.place p x) j;rw[iq b1,iq b1]
  by_cases h1:i<p
  ·rw[χ h1]
   by_cases h2:j<p
   ·rw[χ h2];exact w.A8 i j aL (by lia)
   ·rw[ω h2]
    by_cases h3:j=p
    ·rw[χ h3];exact b2 i h1
    ·rw[ω h3];exact w.A8 i (j-1) (by lia) (by lia)
  ·rw[ω h1,ω (show ¬ j<p by lia)]
   by_cases h3:i=p
   ·rw[χ h3,ω (show ¬ j=p by lia)];exact ne _ (by lia) (by lia)
   ·rw[ω h3,ω (show ¬ j=p by lia)];exact w.A8 (i-1) (j-1) (by lia) (by lia)
 ·intro i hi;have hi:i<t.place.size+1:=by rw[<- SU];exact hi
  show g (insertAt t.place p x) i<=t.mask;rw[iq b1]
  split
  ·exact w.W5 i (by lia)
  ·split
   ·exact hb
   ·exact w.W5 _ (by lia)
 ·show (insertAt t.place p x).size<=t.mask;lia
 ·intro i h' iY;show ∃n,cq t.mask h' n=g (insertAt t.place p x) i/\_;have old:∀i h',hs[i]?=ν h'->∃n,cq t.mask h' n=g t.place i/\∀k,k<n->rP {t with place:=insertAt t.place p x} (cq t.mask h' k):=λi h' q=>by
   obtain⟨n,h1,h2⟩:=w.VZ i h' q;exact{n,h1,λk hk=>V_ _ (h2 k hk)}
  have hpl:p<=hs.length:=by rw[<- w.sz];exact b1
  by_cases h1:i<p
  ·rw[abl (by rw[aaw];lia),acw h1]at iY
   rw[iq b1,χ h1];exact old i h' iY
  ·rw[aa4 (by rw[aaw];lia),aaw,show min p hs.length=p by lia]at iY
   rw[iq b1,ω h1]
   by_cases h2:i=p
   ·rw[h2,ac6]at iY;rw[χ h2];obtain rfl:h=h':=aaC iY;exact{N,hx,λk hk=>V_ _ (hO k hk)}
   ·rw[show i-p=i-p-1+1 by lia,acG,adb,show p+(i-p-1)=i-1 by lia]at iY
    rw[ω h2];exact old (i-1) h' iY
def jH {m i:Nat}(h:i<=m):i<=runEnd m i/\runEnd m i<=m:=by
 unfold runEnd
 split <;> lia
theorem Du (m:Nat)(h:Int):∀n,(iZ m h n).j+(iZ m h n).more<=m
 |0=>by
  show bits h % (m+1)+(runEnd m (bits h % (m+1))-bits h % (m+1))<=m;have hl:bits h % (m+1)<=m:=Nat.le_of_lt_succ (acU _ (Nat.succ_pos _));have:=jH hl;lia
 |n+1=>by
  have ih:=Du m h n;show (eV m (iZ m h n)).j+(eV m (iZ m h n)).more<=m;unfold eV advance
  split
  ·show (iZ m h n).j+1+((iZ m h n).more-1)<=m;lia
  ·show (leap m (iZ m h n).i (iZ m h n).perturb).1+(runEnd m (leap m (iZ m h n).i (iZ m h n).perturb).1-(leap m (iZ m h n).i (iZ m h n).perturb).1)<=m;have hl:(leap m (iZ m h n).i (iZ m h n).perturb).1<=m:=Nat.le_of_lt_succ (acU _ (Nat.succ_pos _));have:=jH hl;lia
def k9 (m:Nat)(h:Int)(n:Nat):cq m h n<=m:=by
 have:=Du m h n;unfold cq;lia
abbrev Ow:=Array (Option Nat)
def iO (o:Ow)(j:Nat):Bool:=(o.getD j (ν 0)).isNone
theorem sS {m:Nat}{o:Ow}(h:Int):∀(f b n:Nat) (j:Nat),iZ m h n=NT m (lp m h b)->layClean.free m o f (lp m h b).1 (lp m h b).2=ν j->∃N,n<=N/\cq m h N=j/\iO o j=ζ/\∀k,n<=k->k<N->iO o (cq m h k)=η
 |0,b,n,j,_,e=>by cases e
 |f+1,b,n,j,hb,e=>by
  unfold layClean.free at e;have T1:∀d,d<=runEnd m (lp m h b).1-(lp m h b).1->cq m h (n+d)=(lp m h b).1+d:=λd hd=>by
   unfold cq;rw[yp m h _ n hb d hd]
  have hl:(lp m h b).1<=m:=by
   have:=k9 m h n;unfold cq at this;rw[hb]at this;exact this
  have hr:=jH hl;cases hf:(Z_ (runEnd m (lp m h b).1+1-(lp m h b).1)).find? (λk=>(o.getD ((lp m h b).1+k) (ν 0)).isNone)with
  |some k =>
   rw[hf]at e;dsimp only at e;obtain⟨h1,h2,h3⟩:=List.find?_range_eq_some.mp hf;have h2:=aax.mp h2;refine{n+k,by lia,?_,?_,λx g1 g2=>?_}
   ·rw[T1 k (by lia)]
    exact aaC e
   ·rw[<- aaC e];exact h1
   ·have:=h3 (x-n) (by lia)
    rw[show x=n+(x-n) by lia,T1 (x-n) (by lia)]
    unfold iO;simpa using this
  |none =>
   rw[hf]at e;dsimp only at e;have h3:=List.find?_range_eq_none.mp hf;obtain⟨N,q1,q2,q3,q4⟩:=sS h f (b+1) (n+(runEnd m (lp m h b).1-(lp m h b).1)+1) j (wX m h _ n hb) e;refine{N,by lia,q2,q3,λx g1 g2=>?_}
   by_cases hx:n+(runEnd m (lp m h b).1-(lp m h b).1)+1<=x
   ·exact q4 x hx g2
   ·have:=h3 (x-n) (by lia)
    rw[show x=n+(x-n) by lia,T1 (x-n) (by lia)]
    unfold iO;simpa using this
theorem sU {m:Nat}{o:Ow}(h:Int):∀(f b:Nat),layClean.free m o f (lp m h b).1 (lp m h b).2=ξ->∀d,d<f->(lp m h (b+d)).1<=m->iO o (lp m h (b+d)).1=η
 |0,b,_,d,hd,_=>by lia
 |f+1,b,e,d,hd,hl=>by
  unfold layClean.free at e;cases hf:(Z_ (runEnd m (lp m h b).1+1-(lp m h b).1)).find? (λk=>(o.getD ((lp m h b).1+k) (ν 0)).isNone)with
  |some k =>
   rw[hf]at e;cases e
  |none =>
   rw[hf]at e;dsimp only at e;cases d with
   |zero =>
    have:=List.find?_range_eq_none.mp hf 0 (by have:=jH hl;rw[Nat.add_zero]at this;lia)
    unfold iO;simpa using this
   |succ d =>
    have:=sU h f (b+1) e d (by lia) (by rw[show b+1+d=b+(d+1) by lia];exact hl)
    rw[show b+1+d=b+(d+1) by lia]at this
    exact this
def L_ (j:Nat)(h:Int){t:Nat}(ht:t<2 ^ j):∃k,k<turns (2 ^ j-1)/\(lp (2 ^ j-1) h k).1=t:=by
 obtain⟨k,hk,e⟩:=lift j (lp (2 ^ j-1) h 13).1 t;refine{13+k,by unfold turns;lia,?_}
 rw[JH,e,acV ht]
def ow (o:Ow)(j:Nat):Option Nat:=o.getD j ξ
theorem fZ {α:Type}{f f':Nat->Option α}:∀(l:List Nat),(∀k∈l,f' k=f k)->l.filterMap f'=l.filterMap f
 |[],_=>rfl
 |x::l,h=>by
  rw[aa1,aa1,h x Z7,fZ l λk hk=>h k (aac _ hk)]
def wo {α:Type}{f f':Nat->Option α}(l:List Nat)(h:∀k∈l,f' k=f k):l.filterMap f'=l.filterMap f:=fZ l h
theorem wj {α:Type}(f f':Nat->Option α)(j:Nat)(v:α)(h1:f j=ξ)(h2:f' j=ν v)(h3:∀k,k≠j->f' k=f k):∀N,j<N->((Z_ N).filterMap f').Perm (v::(Z_ N).filterMap f)
 |0,h=>by lia
 |N+1,h=>by
  rw[acC,List.filterMap_append,List.filterMap_append]
  by_cases e:j=N
  ·subst e;have e1:(Z_ j).filterMap f'=(Z_ j).filterMap f:=by
    exact fZ _ λk hk=>h3 k (aaL (aax.mp hk))
   rw[e1,aa1,h2,aa1,h1,List.filterMap_nil,List.filterMap_nil];show ((Z_ j).filterMap f++[v]).Perm (v::((Z_ j).filterMap f++[]));rw[aa9];exact List.perm_append_comm
  ·have ih:=wj f f' j v h1 h2 h3 N (by lia)
   have e2:[N].filterMap f'=[N].filterMap f:=fZ _ λk hk=>by
    rw[ZY.mp hk];exact h3 N (λz=>e z.symm)
   rw[e2];exact ih.append_right _
theorem wq {α:Type}(f:Nat->Option α):∀N,(∀k,k<N->(f k).isSome=ζ)->((Z_ N).filterMap f).length=N
 |0,_=>rfl
 |N+1,h=>by
  rw[acC,List.filterMap_append,aag,wq f N λk hk=>h k (by lia)]
  have:=h N (by lia)
  cases e:f N with
  |none=>rw[e]at this;cases this
  |some x=>rw[aa1,e];rfl
structure Ld (m:Nat)(hs:Array Int)(o:Ow)(k:Nat):Prop where
 sz:o.size=m+1
 Tu:((Z_ (m+1)).filterMap (ow o)).Perm (Z_ k)
 way:∀j a,ow o j=ν a->a<k/\∃n,cq m (hs.getD a 0) n=j/\∀x,x<n->iO o (cq m (hs.getD a 0) x)=η
def pN {o:Ow}{j:Nat}(h:j<o.size):iO o j=ζ↔ow o j=ξ:=by
 unfold iO ow;rw[aar,aar,getElem?_pos o j h];show (o[j]).isNone=ζ↔o[j]=ξ;exact Option.isNone_iff_eq_none
def Ld.next {j0:Nat}{hs:Array Int}{o:Ow}{k:Nat}(L:Ld (2 ^ j0-1) hs o k)(hk:k<=2 ^ j0-1)(h:Int)(hh:hs.getD k 0=h):
  ∃j,layClean.free (2 ^ j0-1) o (turns (2 ^ j0-1)) (bits h % (2 ^ j0-1+1)) (bits h)=ν j/\Ld (2 ^ j0-1) hs (o.setIfInBounds j (ν k)) (k+1):=by
 have hP:0<2 ^ j0:=Nat.pow_pos (by decide)
 generalize hm:2 ^ j0-1=m at *
 obtain⟨x,hx,Yq⟩:∃x,x<=m/\ow o x=ξ:=by
  refine abB λrq=>?_;have:=wq (ow o) (m+1) λx hx=>by
   cases e:ow o x with
   |none=>exact Η {x,by lia,e} rq
   |some _=>rfl
  rw[L.Tu.length_eq,aaD]at this;lia
 cases hf:layClean.free m o (turns m) (bits h % (m+1)) (bits h)with
 |none =>
  exfalso
  obtain⟨c,hc,he⟩:=L_ j0 h (t:=x) (by lia)
  rw[hm]at hc he;have:=sU (m:=m) (o:=o) h (turns m) 0 hf c hc (by rw[abj,he];exact hx)
  rw[abj,he]at this;have q:=(pN (o:=o) (j:=x) (by rw[L.sz];lia)).mpr Yq
  rw[q]at this;cases this
 |some j =>
  refine{j,rfl,?_};obtain⟨N,_,q2,q3,q4⟩:=sS (m:=m) (o:=o) h (turns m) 0 0 j rfl hf;have hj:j<=m:=by rw[<- q2];exact k9 m h N
  have UX:j<o.size:=by rw[L.sz];lia
  have Qy:ow o j=ξ:=(pN UX).mp q3;have same:∀i,i≠j->ow (o.setIfInBounds j (ν k)) i=ow o i:=λi hi=>by
   unfold ow;rw[aar,aar,Array.getElem?_setIfInBounds_ne (λz=>hi z.symm)]
  have here:ow (o.setIfInBounds j (ν k)) j=ν k:=by
   unfold ow;rw[aar,Array.getElem?_setIfInBounds_self_of_lt UX];rfl
  have shut:∀i,iO o i=η->iO (o.setIfInBounds j (ν k)) i=η:=λi hi=>by
   unfold iO at *
   rw[aar]at *
   by_cases e:i=j
   ·subst e;rw[Array.getElem?_setIfInBounds_self_of_lt UX];rfl
   ·rw[Array.getElem?_setIfInBounds_ne (λz=>e z.symm)];exact hi
  refine{by rw[adB];exact L.sz,?_,λi a R6=>?_}
  ·refine(wj (ow o) _ j k Qy here same (m+1) (by lia)).trans ?_
   refine(L.Tu.cons k).trans ?_;rw[acC];exact(List.perm_append_singleton k _).symm
  ·by_cases e:i=j
   ·subst e;rw[here]at R6;obtain rfl:=aaC R6;refine{acj _,N,by rw[hh];exact q2,λx hx=>shut _ ?_}
    rw[hh];exact q4 x (aab _) hx
   ·rw[same i e]at R6;obtain⟨g1,n,g2,g3⟩:=L.way i a R6;exact{by lia,n,g2,λx hx=>shut _ (g3 x hx)}
theorem qI {j0:Nat}{hs:Array Int}(hk:hs.size<=2 ^ j0-1):∀(l:List Int) (k:Nat) (o:Ow),hs.toList.drop k=l->k+l.length=hs.size->Ld (2 ^ j0-1) hs o k ->
  ∃o',(l.foldl (λ(acc:Option (Ow×Nat)) h=>do
   let (owner,k) <- acc
   let j <- layClean.free (2 ^ j0-1) owner (turns (2 ^ j0-1)) (bits h % (2 ^ j0-1+1)) (bits h)
   pure (owner.setIfInBounds j (ν k),k+1)) (ν (o,k)))=ν (o',hs.size)/\Ld (2 ^ j0-1) hs o' hs.size
 |[],k,o,e,z,L=>by
  obtain rfl:k=hs.size:=z;exact{(o),rfl,L}
 |h::l,k,o,e,z,L=>by
  rw[aaa]at z;have gV:k<hs.toList.length:=by rw[Z5];lia
  rw[aaZ gV]at e;injection e with e1 e2
  have hh:hs.getD k 0=h:=by
   rw[aar,<- aan,Z4 gV,e1];rfl
  obtain⟨j,q1,q2⟩:=L.next (by lia) h hh
  rw[ab3];show ∃o',(l.foldl _ (do
   let j <- layClean.free (2 ^ j0-1) o (turns (2 ^ j0-1)) (bits h % (2 ^ j0-1+1)) (bits h)
   pure (o.setIfInBounds j (ν k),k+1)))=_/\_
  rw[q1];exact qI hk l (k+1) _ e2 (by lia) q2
def Ld.start (m:Nat)(hs:Array Int):Ld m hs (Array.replicate (m+1) ξ) 0:=by
 have e:∀j,ow (Array.replicate (m+1) ξ) j=ξ:=λj=>by
  unfold ow;rw[aar,Array.getElem?_replicate]
  split <;> rfl
 refine{Array.size_replicate,?_,λj a h=>by rw[e]at h;cases h}
 rw[fZ (f:=λ_=>(ξ:Option Nat)) _ λk _=>e k];have:∀l:List Nat,l.filterMap (λ_=>(ξ:Option Nat))=[]:=λl=>by
  induction l with
  |nil=>rfl
  |cons x l ih=>rw[aa1];exact ih
 rw[this];exact .refl _
def H4 {j0:Nat}{hs:Array Int}(h3:3<=j0)(hk:hs.size<=2 ^ j0-1)(finger moves:Nat)(led plain:Bool):
  ∃t order,laid (2 ^ j0-1) finger moves led plain hs=ν (t,order)/\t.mask=2 ^ j0-1/\t.led=led/\t.plain=plain/\t.moves=moves/\order.toList.Perm (Z_ hs.size)/\WF t (order.toList.map λa=>hs.getD a 0)/\t.place.size=hs.size:=by
 obtain⟨o,e1,L⟩:=qI hk hs.toList 0 _ rfl (by rw[abj,Z5]) (Ld.start _ hs)
 have e2:layClean (2 ^ j0-1) hs=ν o:=by
  unfold layClean;rw[<- Array.foldl_toList];exact Ι (Option.map (·.1)) e1
 generalize hm:2 ^ j0-1=m at *
 have Pc:∀(l:List Nat),((l.filterMap λj=>(o.getD j ξ).map (j,·)).map (·.2))=l.filterMap (ow o):=λl=>by
  rw[List.map_filterMap];refine wo l λj _=>?_;rw[Option.map_map];show ((o.getD j ξ).map λa=>a)=_;rw[Option.map_id'];rfl
 generalize QC:((Z_ (m+1)).filterMap λj=>(o.getD j ξ).map (j,·))=live at *
 have pw:live.Pairwise (λx y=>x.1<y.1):=by
  rw[<- QC,List.pairwise_filterMap];refine acM.imp λ{a b} MU x hx y hy=>?_;obtain⟨_,_,rfl⟩:=aai.mp hx;obtain⟨_,_,rfl⟩:=aai.mp hy;exact MU
 have mem:∀x∈live,x.1<m+1/\ow o x.1=ν x.2:=λx hx=>by
  rw[<- QC]at hx;obtain⟨j,hj,e⟩:=ada.mp hx;obtain⟨a,ha,rfl⟩:=aai.mp e;exact{aax.mp hj,ha}
 have ord:(live.map (·.2)).Perm (Z_ hs.size):=by
  rw[<- QC,Pc];exact L.Tu
 have len:live.length=hs.size:=by
  have:=ord.length_eq;rw[ZU,aaD]at this;exact this
 have gp:∀i (hi:i<live.length),g (live.map (·.1)).toArray i=(live[i]).1:=λi hi=>by
  rw[g,aar,List.getElem?_toArray,aah,Z4 hi];rfl
 refine{{mask:=m,place:=(live.map (·.1)).toArray,dummies:=#[],finger,led,moves,plain},(live.map (·.2)).toArray,?_,rfl,rfl,rfl,rfl,ord,?_,?_}
 ·unfold laid;rw[e2,<- QC];rfl
 ·have Ts:(live.map (·.1)).toArray.size=live.length:=by rw[aas,ZU]
  refine{rfl,?_,?_,?_,{(j0),h3,hm.symm},?_,?_}
  ·show (live.map (·.1)).toArray.size=_;rw[Ts,ZU,ZU]
  ·intro i j aL hj;have hj:j<live.length:=by rw[<- Ts];exact hj
   show g (live.map (·.1)).toArray i<g (live.map (·.1)).toArray j;rw[gp i (by lia),gp j hj]
   exact aco.mp pw i j (by lia) hj aL
  ·intro i hi;have hi:i<live.length:=by rw[<- Ts];exact hi
   show g (live.map (·.1)).toArray i<=m;rw[gp i hi];have:=(mem _ (abO hi)).1;lia
  ·show (live.map (·.1)).toArray.size<=m;lia
  ·intro i h hi;show ∃n,cq m h n=g (live.map (·.1)).toArray i/\_;rw[aah,aah]at hi;have JV:i<live.length:=by
    rcases aa5 i live.length with q|q
    ·exact q
    ·rw[abq q]at hi;cases hi
   rw[Z4 JV]at hi;have hi:hs.getD (live[i]).2 0=h:=aaC hi;obtain⟨_,n,g2,g3⟩:=L.way _ _ (mem _ (abO JV)).2;rw[hi]at g2 g3;refine{n,by rw[gp i JV];exact g2,λk hk=>?_}
   have hv:=k9 m h k;have Yk:cq m h k<o.size:=by rw[L.sz];lia
   have:=g3 k hk;cases eo:ow o (cq m h k)with
   |none =>
    rw[(pN Yk).mpr eo]at this;cases this
   |some a =>
    have nU:(cq m h k,a)∈live:=by
     rw[<- QC];exact ada.mpr {cq m h k,aax.mpr (by lia),by show (ow o (cq m h k)).map _=_;rw[eo];rfl}
    obtain⟨i',iY,e'⟩:=List.getElem_of_mem nU;exact{i',by show i'<(live.map (·.1)).toArray.size;lia,by show g (live.map (·.1)).toArray i'=_;rw[gp i' iY,e']}
 ·show (live.map (·.1)).toArray.size=hs.size;rw[aas,ZU];exact len
end ST
namespace TS
open PySem PyProof.Rows
def dh:Bool->Z8->Array Z8->Nat->Nat->Nat->StateT aaE Sem (Option Nat):=sortPriv% PySem.Builtin.gallop
def lN:Array Z8->Array Z8->StateT aaE Sem (Array Z8):=sortPriv% PySem.Builtin.mergeLo
def lO:Array Z8->Array Z8->StateT aaE Sem (Array Z8):=sortPriv% PySem.Builtin.mergeHi
abbrev dj (st:aaE)(g:Nat):aaE:=SortSt.mk' (kindOf st) (aaJ st) (aav st) g (acI st)
def yx (left:Bool)(key:Z8)(arr:Array Z8)(base n hint:Nat):dh left key arr base n hint=(do
  let ask:=λ(at_:Nat)=>(do
   let z <- elem' arr (base+at_)
   if left then lt' z key else return (<- lt' key z).map (!·):StateT aaE Sem (Option Bool))
  let mut before:=0
  let mut step:=1
  let mut u:=0
  let mut v:=0
  let ν up <- ask hint|return ξ
  if up then
   let room:=n-hint
   for _ in [0:n] do
    if step >= room then break
    let ν on <- ask (hint+step)|return ξ
    if !on then break
    before:=step
    step:=2*step+1
   u:=hint+before+1
   v:=hint+min step room
  else
   let room:=hint+1
   for _ in [0:n] do
    if step >= room then break
    let ν hit <- ask (hint-step)|return ξ
    if hit then break
    before:=step
    step:=2*step+1
   u:=hint+1-min step room
   v:=hint-before
  for _ in [0:n] do
   if u >= v then break
   let mid:=u+(v-u) / 2
   let ν on <- ask mid|return ξ
   if on then u:=mid+1 else v:=mid
  return ν v):=rfl
def vE (p q:Array Z8):lN p q=(do
  rule "list.sort.merge-lo"
  let all:=p.size+q.size
  let rest:=λ(to:Array Z8) (i j:Nat)=>to++p.extract i p.size++q.extract j q.size
  let tail:=λ(to:Array Z8) (i j:Nat)=>to++q.extract j q.size++p.extract i p.size
  let mut to:Array Z8:=#[<- elem' q 0]
  let mut i:=0
  let mut j:=1
  if j==q.size then return rest to i j
  if i+1==p.size then return tail to i j
  let mut mg:=gallopOf (<- get)
  for _ in [0:all] do
   let mut m:=0
   let mut n:=0
   for _ in [0:all] do
    let ν Ky <- lt' (<- elem' q j) (<- elem' p i)|return rest to i j
    if Ky then
     to:=to.push (<- elem' q j);j:=j+1;n:=n+1;m:=0
     if j==q.size then return rest to i j
     if n >= mg then break
    else
     to:=to.push (<- elem' p i);i:=i+1;m:=m+1;n:=0
     if i+1==p.size then return tail to i j
     if m >= mg then break
   rule "list.sort.gallop"
   mg:=mg+1
   for _ in [0:all] do
    if mg>1 then mg:=mg-1
    modify λst=>dj st mg
    let ν k <- dh η (<- elem' q j) p i (p.size-i) 0|return rest to i j
    m:=k
    if k>0 then
     to:=to++p.extract i (i+k);i:=i+k
     if i+1==p.size then return tail to i j
     if i==p.size then return rest to i j
    to:=to.push (<- elem' q j);j:=j+1
    if j==q.size then return rest to i j
    let ν k <- dh ζ (<- elem' p i) q j (q.size-j) 0|return rest to i j
    n:=k
    if k>0 then
     to:=to++q.extract j (j+k);j:=j+k
     if j==q.size then return rest to i j
    to:=to.push (<- elem' p i);i:=i+1
    if i+1==p.size then return tail to i j
    if m<7&&n<7 then break
   mg:=mg+1
   modify λst=>dj st mg
  unsupported "internal:list.sort.merge-bound"):=rfl
def vG (p q:Array Z8):lO p q=(do
  rule "list.sort.merge-hi"
  let all:=p.size+q.size
  let rest:=λ(to:Array Z8) (i j:Nat)=>p.extract 0 i++q.extract 0 j++to.reverse
  let tail:=λ(to:Array Z8) (i j:Nat)=>q.extract 0 j++p.extract 0 i++to.reverse
  let mut i:=p.size-1
  let mut j:=q.size
  let mut to:Array Z8:=#[<- elem' p i]
  if i==0 then return rest to i j
  if j==1 then return tail to i j
  let mut mg:=gallopOf (<- get)
  for _ in [0:all] do
   let mut m:=0
   let mut n:=0
   for _ in [0:all] do
    let ν Ky <- lt' (<- elem' q (j-1)) (<- elem' p (i-1))|return rest to i j
    if Ky then
     i:=i-1;to:=to.push (<- elem' p i);m:=m+1;n:=0
     if i==0 then return rest to i j
     if m >= mg then break
    else
     j:=j-1;to:=to.push (<- elem' q j);n:=n+1;m:=0
     if j==1 then return tail to i j
     if n >= mg then break
   rule "list.sort.gallop"
   mg:=mg+1
   for _ in [0:all] do
    if mg>1 then mg:=mg-1
    modify λst=>dj st mg
    let ν h <- dh η (<- elem' q (j-1)) p 0 i (i-1)|return rest to i j
    let k:=i-h
    m:=k
    if k>0 then
     to:=to++(p.extract h i).reverse;i:=h
     if i==0 then return rest to i j
    j:=j-1;to:=to.push (<- elem' q j)
    if j==1 then return tail to i j
    let ν h <- dh ζ (<- elem' p (i-1)) q 0 j (j-1)|return rest to i j
    let k:=j-h
    n:=k
    if k>0 then
     to:=to++(q.extract h j).reverse;j:=h
     if j==1 then return tail to i j
     if j==0 then return rest to i j
    i:=i-1;to:=to.push (<- elem' p i)
    if i==0 then return rest to i j
    if m<7&&n<7 then break
   mg:=mg+1
   modify λst=>dj st mg
  unsupported "internal:list.sort.merge-bound"):=rfl
def vI (i:Nat):mergeAt' i=(do
  let st <- get
  let (ν (sa,na,pw),ν (sb,nb,_)):=((aav st)[i]?,(aav st)[i+1]?)|unsupported "internal:list.sort.pending"
  set (acS st (((aav st).setIfInBounds i (sa,na+nb,pw)).eraseIdxIfInBounds (i+1)))
  let ν k <- dh η (<- elem' (aaJ st) sb) (aaJ st) sa na 0|return η
  let (sa,na):=(sa+k,na-k)
  if na==0 then return ζ
  let ν nb <- dh ζ (<- elem' (aaJ st) (sa+na-1)) (aaJ st) sb nb (nb-1)|return η
  if nb==0 then return ζ
  let x:=(aaJ st).extract sa sb
  let y:=(aaJ st).extract sb (sb+nb)
  let got <- if na<=nb then lN x y else lO x y
  modify λs2=>abd s2 (got.toList.zipIdx.foldl (λa (p,j)=>a.setIfInBounds (sa+j) p) (aaJ s2))
  return (acI (<- get)).isNone):=rfl
structure da (c:Z8->Z8->Bool):Prop where
 Q9:∀x y,c x y=ζ->c y x=η
 Wc:∀x y z,c x z=ζ->c x y=ζ\/c y z=ζ
def le (c:Z8->Z8->Bool)(x y:Z8):Prop:=c y x=η
section
variable {c:Z8->Z8->Bool}
def da.refl (O:da c)(x:Z8):le c x x:=by
 cases h:c x x
 ·exact h
 ·exact O.Q9 _ _ h
def da.trans (O:da c){x y z:Z8}(h1:le c x y)(h2:le c y z):le c x z:=by
 cases h:c z x
 ·exact h
 ·rcases O.Wc _ y _ h with q|q
  ·exact Η (q.symm.trans h2) (by simp)
  ·exact Η (q.symm.trans h1) (by simp)
def da.of_lt (O:da c){x y:Z8}(h:c x y=ζ):le c x y:=O.Q9 _ _ h
def el (a:Array Z8)(i:Nat):Z8:=a.getD i (Value.none,Value.none)
def l6 {a:Array Z8}{i:Nat}(h:i<a.size):a[i]?=ν (el a i):=by
 rw[getElem?_pos a i h,el,aar,getElem?_pos a i h];rfl
def Am {a:Array Z8}{i:Nat}{x:Z8}(h:a[i]?=ν x):el a i=x:=by
 rw[el,aar,h];rfl
def f6 {a b:Array Z8}{i j:Nat}(h:a[i]?=b[j]?):el a i=el b j:=by
 rw[el,el,aar,aar,h]
def SR (c:Z8->Z8->Bool)(a:Array Z8)(lo hi:Nat):Prop:=∀i j,lo<=i->i<=j->j<hi->le c (el a i) (el a j)
def iI (prog:Z6)(w:aam)(A:aaX)(E:ZW->ZZ->Prop)(s:ZZ)(κ:acs)(c:Z8->Z8->Bool)(S:Z8->Prop):Prop :=
 ∀(x y:Z8) (st:aaE) (Q:Option Bool->aaE->Prop),S x->S y->kindOf st=κ->Q (ν (c x y)) st->wpS (Ψ prog w) A E s (lt' x y) Q st
end
section
variable {prog:Z6}{w:aam}{A:aaX}{E:ZW->ZZ->Prop}{s:ZZ}{κ:acs}{c:Z8->Z8->Bool}{S:Z8->Prop}
def aV {a:Array Z8}{i:Nat}{Q:Z8->aaE->Prop}{st:aaE}(h:i<a.size)(q:Q (el a i) st):wpS (Ψ prog w) A E s (elem' a i) Q st:=by
 rw[elem'_eq,l6 h];exact aal q
def gb (c:Z8->Z8->Bool)(left:Bool)(key:Z8)(a:Array Z8)(base i:Nat):Bool:=if left=ζ then c (el a (base+i)) key else !c key (el a (base+i))
def I_ (O:da c){left:Bool}{key:Z8}{a:Array Z8}{base n i j:Nat}(hs:SR c a base (base+n))(aL:i<=j)(hj:j<n)(h:gb c left key a base j=ζ):gb c left key a base i=ζ:=by
 have hl:=hs (base+i) (base+j) (by lia) (by lia) (by lia)
 unfold gb at *
 cases left with
 |true =>
  rw[χ rfl]at *
  rcases O.Wc _ (el a (base+i)) _ h with q|q
  ·exact Η (q.symm.trans hl) (by simp)
  ·exact q
 |false =>
  rw[ω (by simp)]at *
  rw[adv]at *
  exact O.trans hl h
def k8 (L:iI prog w A E s κ c S){left:Bool}{key:Z8}{a:Array Z8}{base n i:Nat}{Q:Option Bool->aaE->Prop}{st:aaE}(hk:kindOf st=κ)(hK:S key)(hA:∀i,i<n->S (el a (base+i)))(hn:base+n<=a.size)(hi:i<n)
  (h:Q (ν (gb c left key a base i)) st):wpS (Ψ prog w) A E s (do
   let z <- elem' a (base+i)
   if left then lt' z key else return (<- lt' key z).map (!·):StateT aaE Sem (Option Bool)) Q st:=by
 refine aad (aV (by lia) ?_)
 unfold gb at h;cases left with
 |true =>
  rw[χ rfl]at *
  exact L _ _ st Q (hA i hi) hK hk h
 |false =>
  rw[ω (by simp)]at *
  exact aad (L _ _ st _ hK (hA i hi) hk (aal h))
def fC (O:da c)(L:iI prog w A E s κ c S){left:Bool}{key:Z8}{a:Array Z8}{base n hint:Nat}{Q:Option Nat->aaE->Prop}{st:aaE}(hk:kindOf st=κ)(hK:S key)(hA:∀i,i<n->S (el a (base+i)))(hn:base+n<=a.size)
  (hs:SR c a base (base+n)) (hh:hint<n) (h:∀k,k<=n->(∀i,i<k->gb c left key a base i=ζ)->(∀i,k<=i->i<n->gb c left key a base i=η)->Q (ν k) st) :
  wpS (Ψ prog w) A E s (dh left key a base n hint) Q st:=by
 rw[yx];dsimp only;have up:∀{i j},i<=j->j<n->gb c left key a base j=ζ->gb c left key a base i=ζ:=λh1 h2 h3=>I_ O hs h1 h2 h3;refine aad (k8 L hk hK hA hn hh ?_);dsimp only;have dn:∀{i j},i<=j->j<n->gb c left key a base i=η->gb c left key a base j=η:=λ{i j} h1 h2 h3=>by
  cases q:gb c left key a base j
  ·rfl
  ·rw[up h1 h2 q]at h3;exact Η h3 (by simp)
 cases NH:gb c left key a base hint with
 |true =>
  rw[χ rfl];refine aad (abF (aa7 (I:=λx r aI=>aI=st/\∃be eV,r=(ξ,be,eV)/\hint+be<n/\be<eV/\x+1<=eV/\gb c left key a base (hint+be)=ζ)
   (Q:=λr aI=>aI=st/\∃be eV,r=(ξ,be,eV)/\hint+be<n/\be<eV/\gb c left key a base (hint+be)=ζ/\(n-hint<=eV\/(hint+eV<n/\gb c left key a base (hint+eV)=η))) ?_ ?_ ?_) ?_)
  ·rintro x r aI _ hx ⟨rfl,be,eV,rfl,h1,h2,h3,h4⟩;dsimp only
   by_cases hr:eV >= n-hint
   ·rw[χ hr];exact aal {rfl,be,eV,rfl,h1,h2,h4,.inl hr}
   ·rw[ω hr];refine aad (k8 L hk hK hA hn (by omega) ?_)
    dsimp only;cases hb:gb c left key a base (hint+eV)with
    |true =>
     rw[ω (by simp)]
     exact aal {rfl,eV,_,rfl,by omega,by omega,by omega,hb}
    |false =>
     rw[χ (by simp)]
     exact aal {rfl,be,eV,rfl,h1,h2,h4,.inr {by omega,hb}}
  ·rintro r aI ⟨rfl,be,eV,rfl,h1,h2,h3,h4⟩;exact{rfl,be,eV,rfl,h1,h2,h4,.inl (by omega)}
  ·exact{rfl,0,1,rfl,by omega,by omega,by omega,NH}
  rintro r aI ⟨e0,be,eV,rfl,h1,h2,h4,h5⟩;rw[e0];dsimp only;have g1:∀i,i<hint+be+1->gb c left key a base i=ζ:=λi hi=>up (j:=hint+be) (by omega) h1 h4
  have g2:∀i,hint+min eV (n-hint)<=i->i<n->gb c left key a base i=η:=λi hi iY=>by
   rcases h5 with q|⟨q1,q2⟩
   ·omega
   ·exact dn (i:=hint+eV) (by omega) iY q2
  refine aad (abF (aa7 (I:=λx r aI=>aI=st/\∃u v,r=(ξ,u,v)/\u<=v/\v<=n/\v-u<=n-x/\(∀i,i<u->gb c left key a base i=ζ)/\(∀i,v<=i->i<n->gb c left key a base i=η))
   (Q:=λr aI=>aI=st/\∃v,r=(ξ,v,v)/\v<=n/\(∀i,i<v->gb c left key a base i=ζ)/\(∀i,v<=i->i<n->gb c left key a base i=η)) ?_ ?_ ?_) ?_)
  ·rintro x r aI _ hx ⟨rfl,u,v,rfl,h1,h2,h3,h4,h5⟩;dsimp only
   by_cases Pp:u >= v
   ·rw[χ Pp];obtain rfl:u=v:=by omega
    exact aal {(rfl),u,rfl,h2,h4,h5}
   ·rw[ω Pp];refine aad (k8 L hk hK hA hn (by omega) ?_)
    dsimp only;cases hb:gb c left key a base (u+(v-u) / 2)with
    |true =>
     rw[χ rfl];exact aal {rfl,_,v,rfl,by omega,h2,by omega,λi hi=>up (j:=u+(v-u) / 2) (by omega) (by omega) hb,h5}
    |false =>
     rw[ω (by simp)]
     exact aal {rfl,u,_,rfl,by omega,by omega,by omega,h4,λi hi iY=>dn (i:=u+(v-u) / 2) (by omega) (by omega) hb}
  ·rintro r aI ⟨rfl,u,v,rfl,h1,h2,h3,h4,h5⟩;obtain rfl:u=v:=by omega
   exact{(rfl),u,rfl,h2,h4,h5}
  ·exact{rfl,_,_,rfl,by omega,by omega,by omega,by assumption,by assumption}
  ·rintro r aI ⟨rfl,v,rfl,h2,h4,h5⟩;exact aal (h v h2 h4 h5)
 |false =>
  rw[ω (by simp)]
  refine aad (abF (aa7 (I:=λx r aI=>aI=st/\∃be eV,r=(ξ,be,eV)/\be<=hint/\be<eV/\x+1<=eV/\gb c left key a base (hint-be)=η)
   (Q:=λr aI=>aI=st/\∃be eV,r=(ξ,be,eV)/\be<=hint/\be<eV/\gb c left key a base (hint-be)=η/\(hint+1<=eV\/(eV<=hint/\gb c left key a base (hint-eV)=ζ))) ?_ ?_ ?_) ?_)
  ·rintro x r aI _ hx ⟨rfl,be,eV,rfl,h1,h2,h3,h4⟩;dsimp only
   by_cases hr:eV >= hint+1
   ·rw[χ hr];exact aal {rfl,be,eV,rfl,h1,h2,h4,.inl hr}
   ·rw[ω hr];refine aad (k8 L hk hK hA hn (by omega) ?_)
    dsimp only;cases hb:gb c left key a base (hint-eV)with
    |true =>
     rw[χ rfl];exact aal {rfl,be,eV,rfl,h1,h2,h4,.inr {by omega,hb}}
    |false =>
     rw[ω (by simp)]
     exact aal {rfl,eV,_,rfl,by omega,by omega,by omega,hb}
  ·rintro r aI ⟨rfl,be,eV,rfl,h1,h2,h3,h4⟩;exact{rfl,be,eV,rfl,h1,h2,h4,.inl (by omega)}
  ·exact{rfl,0,1,rfl,by omega,by omega,by omega,NH}
  rintro r aI ⟨e0,be,eV,rfl,h1,h2,h4,h5⟩;rw[e0];dsimp only;have g1:∀i,i<hint+1-min eV (hint+1)->gb c left key a base i=ζ:=λi hi=>by
   rcases h5 with q|⟨q1,q2⟩
   ·omega
   ·exact up (j:=hint-eV) (by omega) (by omega) q2
  have g2:∀i,hint-be<=i->i<n->gb c left key a base i=η:=λi hi iY=>dn (i:=hint-be) hi iY h4;refine aad (abF (aa7 (I:=λx r aI=>aI=st/\∃u v,r=(ξ,u,v)/\u<=v/\v<=n/\v-u<=n-x/\(∀i,i<u->gb c left key a base i=ζ)/\(∀i,v<=i->i<n->gb c left key a base i=η))
   (Q:=λr aI=>aI=st/\∃v,r=(ξ,v,v)/\v<=n/\(∀i,i<v->gb c left key a base i=ζ)/\(∀i,v<=i->i<n->gb c left key a base i=η)) ?_ ?_ ?_) ?_)
  ·rintro x r aI _ hx ⟨rfl,u,v,rfl,h1,h2,h3,h4,h5⟩;dsimp only
   by_cases Pp:u >= v
   ·rw[χ Pp];obtain rfl:u=v:=by omega
    exact aal {(rfl),u,rfl,h2,h4,h5}
   ·rw[ω Pp];refine aad (k8 L hk hK hA hn (by omega) ?_)
    dsimp only;cases hb:gb c left key a base (u+(v-u) / 2)with
    |true =>
     rw[χ rfl];exact aal {rfl,_,v,rfl,by omega,h2,by omega,λi hi=>up (j:=u+(v-u) / 2) (by omega) (by omega) hb,h5}
    |false =>
     rw[ω (by simp)]
     exact aal {rfl,u,_,rfl,by omega,by omega,by omega,h4,λi hi iY=>dn (i:=u+(v-u) / 2) (by omega) (by omega) hb}
  ·rintro r aI ⟨rfl,u,v,rfl,h1,h2,h3,h4,h5⟩;obtain rfl:u=v:=by omega
   exact{(rfl),u,rfl,h2,h4,h5}
  ·exact{rfl,_,_,rfl,by omega,by omega,by omega,by assumption,by assumption}
  ·rintro r aI ⟨rfl,v,rfl,h2,h4,h5⟩;exact aal (h v h2 h4 h5)
end
section
variable {c:Z8->Z8->Bool}{p q:Array Z8}{t:List Z8}{i j:Nat}
def yY {a:Array Z8}{i:Nat}(h:i<a.size):a.toList.take (i+1)=a.toList.take i++[el a i]:=by
 have e:a.toList[i]?=ν (el a i):=by rw[aan];exact l6 h
 rw[List.take_succ,e];rfl
def An {a:Array Z8}{i:Nat}(h:i<a.size):a.toList.drop i=el a i::a.toList.drop (i+1):=by
 have hl:i<a.toList.length:=by rw[Z5];exact h
 have e:a.toList[i]=el a i:=by
  have h1:=Z4 hl;rw[aan,l6 h]at h1;exact(aaC h1).symm
 rw[aaZ hl,e]
structure Mg (c:Z8->Z8->Bool)(p q:Array Z8)(t:List Z8)(i j:Nat):Prop where
 hi:i<=p.size
 hj:j<=q.size
 perm:t.Perm (p.toList.take i++q.toList.take j)
 iL:t.Pairwise (le c)
 ap:∀x∈t,∀k,i<=k->k<p.size->le c x (el p k)
 aq:∀x∈t,∀k,j<=k->k<q.size->le c x (el q k)
def Gd (c:Z8->Z8->Bool)(p q:Array Z8)(t:List Z8):Prop:=t.Perm (p.toList++q.toList)/\t.Pairwise (le c)
def u7 {x:Z8}(h:t.Pairwise (le c))(hx:∀y∈t,le c y x):(t++[x]).Pairwise (le c):=by
 rw[acZ];exact{h,acF _ _,λy hy z hz=>by rw[ZY.mp hz];exact hx y hy}
def Mg.nC (m:Mg c p q t i j)(hj:j<q.size)(sq:SR c q 0 q.size)(hle:∀k,i<=k->k<p.size->le c (el q j) (el p k)):Mg c p q (t++[el q j]) i (j+1) where
 hi:=m.hi
 hj:=hj
 perm:=by
  rw[yY hj,<- aa3];exact m.perm.append_right _
 iL:=u7 m.iL λy hy=>m.aq y hy j (ZX _) hj
 ap:=λx hx k h1 h2=>by
  rcases Z9.mp hx with h|h
  ·exact m.ap x h k h1 h2
  ·rw[ZY.mp h];exact hle k h1 h2
 aq:=λx hx k h1 h2=>by
  rcases Z9.mp hx with h|h
  ·exact m.aq x h k (by lia) h2
  ·rw[ZY.mp h];exact sq j k (by lia) (by lia) h2
def Mg.nD (m:Mg c p q t i j)(hi:i<p.size)(sp:SR c p 0 p.size)(hle:∀k,j<=k->k<q.size->le c (el p i) (el q k)):Mg c p q (t++[el p i]) (i+1) j where
 hi:=hi
 hj:=m.hj
 perm:=by
  rw[yY hi];refine(m.perm.append_right _).trans ?_;rw[aa3,aa3];exact List.Perm.append_left _ List.perm_append_comm
 iL:=u7 m.iL λy hy=>m.ap y hy i (ZX _) hi
 ap:=λx hx k h1 h2=>by
  rcases Z9.mp hx with h|h
  ·exact m.ap x h k (by lia) h2
  ·rw[ZY.mp h];exact sp i k (by lia) (by lia) h2
 aq:=λx hx k h1 h2=>by
  rcases Z9.mp hx with h|h
  ·exact m.aq x h k h1 h2
  ·rw[ZY.mp h];exact hle k h1 h2
def jt {a:Array Z8}{i k:Nat}(h:i+k<a.size):(a.toList.drop i).take (k+1)=(a.toList.drop i).take k++[el a (i+k)]:=by
 have e:(a.toList.drop i)[k]?=ν (el a (i+k)):=by rw[adb,aan];exact l6 h
 rw[List.take_succ,e];rfl
theorem Mg.ll (m:Mg c p q t i j)(sp:SR c p 0 p.size):∀(k:Nat),i+k<=p.size->(∀x,x<k->∀y,j<=y->y<q.size->le c (el p (i+x)) (el q y))->Mg c p q (t++(p.toList.drop i).take k) (i+k) j
 |0,_,_=>by simpa using m
 |k+1,h,hle=>by
  have m':=Mg.ll m sp k (by lia) λx hx=>hle x (by lia)
  rw[jt (by lia),<- aa3,<- Nat.add_assoc]
  exact m'.nD (by lia) sp (hle k (by lia))
theorem Mg.lj (m:Mg c p q t i j)(sq:SR c q 0 q.size):∀(k:Nat),j+k<=q.size->(∀x,x<k->∀y,i<=y->y<p.size->le c (el q (j+x)) (el p y))->Mg c p q (t++(q.toList.drop j).take k) i (j+k)
 |0,_,_=>by simpa using m
 |k+1,h,hle=>by
  have m':=Mg.lj m sq k (by lia) λx hx=>hle x (by lia)
  rw[jt (by lia),<- aa3,<- Nat.add_assoc]
  exact m'.nC (by lia) sq (hle k (by lia))
def Mg.full (m:Mg c p q t p.size q.size):Gd c p q t:=by
 refine{?_,m.iL};have h:=m.perm;rw[aa8 (by rw[Z5];lia),aa8 (by rw[Z5];lia)]at h
 exact h
def c8 (a:Array Z8)(i j:Nat):(a.extract i j).toList=(a.toList.drop i).take (j-i):=by
 rw[Array.toList_extract,adh]
def wG {a:Array Z8}{i j:Nat}(h:a.size<=i):(a.toList.drop i).take (j-i)=[]:=by
 rw[List.drop_of_length_le (by rw[Z5];exact h)]
 simp
def Mg.done {to:Array Z8}(m:Mg c p q to.toList i j)(sp:SR c p 0 p.size)(sq:SR c q 0 q.size)(h:i=p.size\/j=q.size):Gd c p q (to++p.extract i p.size++q.extract j q.size).toList:=by
 rw[abm,abm,c8,c8];rcases h with rfl|rfl
 ·rw[wG (ZX _),aa9];have m':=m.lj sq (q.size-j) (by have:=m.hj;lia) λx hx y h1 h2=>by lia
  rw[show j+(q.size-j)=q.size by have:=m.hj;lia]at m'
  exact m'.full
 ·rw[wG (a:=q) (ZX _),aa9];have m':=m.ll sp (p.size-i) (by have:=m.hi;lia) λx hx y h1 h2=>by lia
  rw[show i+(p.size-i)=p.size by have:=m.hi;lia]at m'
  exact m'.full
def Mg.tail {to:Array Z8}(O:da c)(m:Mg c p q to.toList i j)(sp:SR c p 0 p.size)(sq:SR c q 0 q.size)(h:i+1=p.size)(hl:∀y,y<q.size->c (el q y) (el p (p.size-1))=ζ):Gd c p q (to++q.extract j q.size++p.extract i p.size).toList:=by
 rw[abm,abm,c8,c8];have m':=m.lj sq (q.size-j) (by have:=m.hj;lia) λx hx y h1 h2=>by
  rw[show y=p.size-1 by lia]
  exact O.of_lt (hl _ (by lia))
 rw[show j+(q.size-j)=q.size by have:=m.hj;lia]at m'
 have m2:=m'.ll sp (p.size-i) (by have:=m.hi;lia) λx hx y h1 h2=>by lia
 rw[show i+(p.size-i)=p.size by have:=m.hi;lia]at m2
 exact m2.full
def AE (to a:Array Z8)(i k:Nat):(to++a.extract i (i+k)).toList=to.toList++(a.toList.drop i).take k:=by
 rw[abm,c8,show i+k-i=k by lia]
def Mg.start (O:da c)(sp:SR c p 0 p.size)(sq:SR c q 0 q.size)(hq:0<q.size)(hp:0<p.size)(h:c (el q 0) (el p 0)=ζ):Mg c p q [el q 0] 0 1:=by
 have m:Mg c p q [] 0 0:={aab _,aab _,(by simp),.nil,(λx hx=>by cases hx),(λx hx=>by cases hx)}
 exact m.nC hq sq λk _ hk=>O.trans (O.of_lt h) (sp 0 k (by lia) (by lia) hk)
end
structure nu (st aI:aaE):Prop where
 kind:kindOf aI=kindOf st
 arr:aaJ aI=aaJ st
 pend:aav aI=aav st
 fail:acI aI=acI st
def nu.refl (st:aaE):nu st st:={(rfl),rfl,rfl,rfl}
def nu.JX {st aI:aaE}(e:nu st aI)(g:Nat):nu st (dj aI g):={(e.kind),e.arr,e.pend,e.fail}
abbrev RI:=Array Z8×Nat×Nat×Nat×Nat
abbrev RG:=Array Z8×Nat×Nat×Nat×Nat×Nat
abbrev RO:=Array Z8×Nat×Nat×Nat
noncomputable def TM (p q t:Array Z8)(i j mg m n:Nat):StateT aaE Sem (ForInStep (Option (Array Z8)×RG)):=do
 let z <- elem' p i
 if (i+1+1==p.size)=ζ then pure (.done (ν (t.push z++q.extract j++p.extract (i+1)),t.push z,i+1,j,mg,m,n))
 else if (decide (m<7)&&decide (n<7))=ζ then pure (.done (ξ,t.push z,i+1,j,mg,m,n)) else pure (.yield (ξ,t.push z,i+1,j,mg,m,n))
noncomputable def TN (p q t:Array Z8)(i j mg m n:Nat):StateT aaE Sem (ForInStep (Option (Array Z8)×RG)):=do
 let y <- elem' q j
 if (j+1==q.size)=ζ then pure (.done (ν (t.push y++p.extract i++q.extract (j+1)),t.push y,i,j+1,mg,m,n))
 else do
  let x <- elem' p i
  let r <- dh ζ x q (j+1) (q.size-(j+1)) 0
  match r with
  |some k=>if k>0 then (if (j+1+k==q.size)=ζ then pure (.done (ν (t.push y++q.extract (j+1) (j+1+k)++p.extract i++q.extract (j+1+k)),t.push y++q.extract (j+1) (j+1+k),i,j+1+k,mg,m,k))
    else TM p q (t.push y++q.extract (j+1) (j+1+k)) i (j+1+k) mg m k) else TM p q (t.push y) i (j+1) mg m k
  |_=>pure (.done (ν (t.push y++p.extract i++q.extract (j+1)),t.push y,i,j+1,mg,m,n))
noncomputable def Pa (p q t:Array Z8)(i j mg m n:Nat):StateT aaE Sem (ForInStep (Option (Array Z8)×RG)):=do
 modify λst=>dj st mg
 let y <- elem' q j
 let r <- dh η y p i (p.size-i) 0
 match r with
 |some k=>if k>0 then (if (i+k+1==p.size)=ζ then pure (.done (ν (t++p.extract i (i+k)++q.extract j++p.extract (i+k)),t++p.extract i (i+k),i+k,j,mg,k,n))
   else if (i+k==p.size)=ζ then pure (.done (ν (t++p.extract i (i+k)++p.extract (i+k)++q.extract j),t++p.extract i (i+k),i+k,j,mg,k,n))
   else TN p q (t++p.extract i (i+k)) (i+k) j mg k n) else TN p q t i j mg k n
 |_=>pure (.done (ν (t++p.extract i++q.extract j),t,i,j,mg,m,n))
def X1 (p q:Array Z8)(s:Option (Array Z8)×RG):StateT aaE Sem (ForInStep (Option (Array Z8)×RG)):=if s.2.2.2.2.1>1 then Pa p q s.2.1 s.2.2.1 s.2.2.2.1 (s.2.2.2.2.1-1) s.2.2.2.2.2.1 s.2.2.2.2.2.2 else Pa p q s.2.1 s.2.2.1 s.2.2.2.1 s.2.2.2.2.1 s.2.2.2.2.2.1 s.2.2.2.2.2.2
noncomputable def O_ (p q:Array Z8)(mg:Nat)(s:Option (Array Z8)×RI):StateT aaE Sem (ForInStep (Option (Array Z8)×RI)):=do
 let y <- elem' q s.2.2.2.1
 if (s.2.2.2.1+1==q.size)=ζ then pure (.done (ν (s.2.1.push y++p.extract s.2.2.1++q.extract (s.2.2.2.1+1)),s.2.1.push y,s.2.2.1,s.2.2.2.1+1,0,s.2.2.2.2.2+1))
 else if s.2.2.2.2.2+1 >= mg then pure (.done (ξ,s.2.1.push y,s.2.2.1,s.2.2.2.1+1,0,s.2.2.2.2.2+1)) else pure (.yield (ξ,s.2.1.push y,s.2.2.1,s.2.2.2.1+1,0,s.2.2.2.2.2+1))
noncomputable def O9 (p q:Array Z8)(mg:Nat)(s:Option (Array Z8)×RI):StateT aaE Sem (ForInStep (Option (Array Z8)×RI)):=do
 let x <- elem' p s.2.2.1
 if (s.2.2.1+1+1==p.size)=ζ then pure (.done (ν (s.2.1.push x++q.extract s.2.2.2.1++p.extract (s.2.2.1+1)),s.2.1.push x,s.2.2.1+1,s.2.2.2.1,s.2.2.2.2.1+1,0))
 else if s.2.2.2.2.1+1 >= mg then pure (.done (ξ,s.2.1.push x,s.2.2.1+1,s.2.2.2.1,s.2.2.2.2.1+1,0)) else pure (.yield (ξ,s.2.1.push x,s.2.2.1+1,s.2.2.2.1,s.2.2.2.2.1+1,0))
noncomputable def TL (p q:Array Z8)(mg:Nat)(s:Option (Array Z8)×RI):StateT aaE Sem (ForInStep (Option (Array Z8)×RI)):=do
 let y <- elem' q s.2.2.2.1
 let x <- elem' p s.2.2.1
 let r <- lt' y x
 match r with
 |some Ky=>if Ky=ζ then O_ p q mg s else O9 p q mg s
 |_=>pure (.done (ν (s.2.1++p.extract s.2.2.1++q.extract s.2.2.2.1),s.2.1,s.2.2.1,s.2.2.2.1,s.2.2.2.2.1,s.2.2.2.2.2))
noncomputable def Wk (p q:Array Z8)(s:Option (Array Z8)×RO):StateT aaE Sem (ForInStep (Option (Array Z8)×RO)):=do
 let s1 <- forIn [:p.size+q.size] ((ξ,s.2.1,s.2.2.1,s.2.2.2.1,0,0):Option (Array Z8)×RI) λ_ r=>TL p q s.2.2.2.2 r
 match s1.1 with
 |some r=>pure (.done (ν r,s1.2.1,s1.2.2.1,s1.2.2.2.1,s.2.2.2.2))
 |none=>do
  liftM (rule "list.sort.gallop")
  let s2 <- forIn [:p.size+q.size] ((ξ,s1.2.1,s1.2.2.1,s1.2.2.2.1,s.2.2.2.2+1,s1.2.2.2.2.1,s1.2.2.2.2.2):Option (Array Z8)×RG) λ_ r=>X1 p q r
  match s2.1 with
  |some r=>pure (.done (ν r,s2.2.1,s2.2.2.1,s2.2.2.2.1,s2.2.2.2.2.1))
  |none=>do
   modify λst=>dj st (s2.2.2.2.2.1+1)
   pure (.yield (ξ,s2.2.1,s2.2.2.1,s2.2.2.2.1,s2.2.2.2.2.1+1))
theorem vF (p q:Array Z8):lN p q=(do
  liftM (rule "list.sort.merge-lo")
  let y <- elem' q 0
  if (1==q.size)=ζ then pure (#[y]++p.extract 0++q.extract 1)
  else if (0+1==p.size)=ζ then pure (#[y]++q.extract 1++p.extract 0)
  else do
   let st <- get
   let s <- forIn [:p.size+q.size] ((ξ,#[y],0,1,gallopOf st):Option (Array Z8)×RO) λ_ s=>Wk p q s
   match s.1 with
   |some r=>pure r
   |none=>liftM (unsupported "internal:list.sort.merge-bound" : Sem (Array Z8))):=by
 rw[vE];dsimp only;refine Ι (bind _) (funext λ_=>?_);refine Ι (bind _) (funext λy=>?_);refine Ι (ite _ _) (Ι (ite _ _) ?_);refine Ι (bind _) (funext λy=>?_);refine congr (Ι bind (Ι _ (funext λ_=>funext λs=>?_))) (funext λs=>?_)
 ·refine congr (Ι bind (Ι _ (funext λ_=>funext λs=>?_))) (funext λs=>?_)
  ·rfl
  ·cases s.1
   ·refine Ι (bind _) (funext λ_=>?_);refine congr (Ι bind (Ι _ (funext λ_=>funext λs=>?_))) (funext λs=>?_)
    ·rfl
    ·cases s.1 <;> rfl
   ·rfl
 ·cases s.1 <;> rfl
section
variable {prog:Z6}{w:aam}{A:aaX}{E:ZW->ZZ->Prop}{s:ZZ}{κ:acs}{c:Z8->Z8->Bool}{S:Z8->Prop}{p q:Array Z8}
def Cv {st:aaE}{Q:ForInStep (Option (Array Z8)×RG)->aaE->Prop}{t:Array Z8}{i j mg m n:Nat}(O:da c)(sp:SR c p 0 p.size)(sq:SR c q 0 q.size)(hl:∀y,y<q.size->c (el q y) (el p (p.size-1))=ζ)(m3:Mg c p q t.toList i j)(hi:i+1<p.size)(g3:∀y,j<=y->y<q.size->le c (el p i) (el q y))
  (hd:∀out r,Gd c p q out.toList->Q (.done (ν out,r)) st) (hn:∀t' m n,Mg c p q t'.toList (i+1) j->i+1+1<p.size->Q (.done (ξ,t',i+1,j,mg,m,n)) st/\Q (.yield (ξ,t',i+1,j,mg,m,n)) st):wpS (Ψ prog w) A E s (TM p q t i j mg m n) Q st:=by
 refine aad (aV (by lia) ?_)
 have m4:Mg c p q (t.push (el p i)).toList (i+1) j:=by
  rw[abH];exact m3.nD (by lia) sp g3
 by_cases e5:(i+1+1==p.size)=ζ
 ·rw[χ e5];exact aal (hd _ _ (m4.tail O sp sq (by simpa using e5) hl))
 rw[ω e5];have h5:i+1+1≠p.size:=by simpa using e5
 obtain⟨h6,h7⟩:=hn (t.push (el p i)) m n m4 (by lia)
 split
 ·exact aal h6
 ·exact aal h7
def Cw {st:aaE}{Q:ForInStep (Option (Array Z8)×RG)->aaE->Prop}{t:Array Z8}{i j mg m n:Nat}(O:da c)(L:iI prog w A E s κ c S)(hk:kindOf st=κ)(Sp:∀i,i<p.size->S (el p i))(Sq:∀i,i<q.size->S (el q i))(sp:SR c p 0 p.size)(sq:SR c q 0 q.size)(hl:∀y,y<q.size->c (el q y) (el p (p.size-1))=ζ)(m1:Mg c p q t.toList i j)(hi:i+1<p.size)(hj:j<q.size)(g1:∀y,i<=y->y<p.size->le c (el q j) (el p y))
  (hd:∀out r,Gd c p q out.toList->Q (.done (ν out,r)) st) (hn:∀t' j' m n,Mg c p q t'.toList (i+1) j'->i+1+1<p.size->j<j'->j'<q.size->Q (.done (ξ,t',i+1,j',mg,m,n)) st/\Q (.yield (ξ,t',i+1,j',mg,m,n)) st):wpS (Ψ prog w) A E s (TN p q t i j mg m n) Q st:=by
 refine aad (aV hj ?_);have m2:Mg c p q (t.push (el q j)).toList i (j+1):=by
  rw[abH];exact m1.nC hj sq g1
 by_cases e3:(j+1==q.size)=ζ
 ·rw[χ e3];exact aal (hd _ _ (m2.done sp sq (.inr (by simpa using e3))))
 rw[ω e3];have h3:j+1≠q.size:=by simpa using e3
 refine aad (aV (by lia) (aad (fC O L hk (Sp _ (by lia)) (λx hx=>Sq _ (by lia)) (by lia) (λa b h1 h2 h3=>sq a b (by lia) h2 (by lia)) (by lia) λk k1 k2 k3=>?_)))
 have g3:∀y,j+1+k<=y->y<q.size->le c (el p i) (el q y):=λy h1 h2=>by
  have:=k3 (y-(j+1)) (by lia) (by lia)
  unfold gb at this;rw[χ rfl,show j+1+(y-(j+1))=y by lia]at this
  exact this
 dsimp only
 by_cases z7:k>0
 ·rw[χ z7];have m3:Mg c p q (t.push (el q j)++q.extract (j+1) (j+1+k)).toList i (j+1+k):=by
   rw[AE];exact m2.lj sq k (by lia) λx hx y h1 h2=>O.trans (O.of_lt (show c (el q (j+1+x)) (el p i)=ζ from k2 x hx)) (sp _ y (by lia) h1 h2)
  by_cases e4:(j+1+k==q.size)=ζ
  ·rw[χ e4];exact aal (hd _ _ (m3.done sp sq (.inr (by simpa using e4))))
  rw[ω e4];have h4:j+1+k≠q.size:=by simpa using e4
  exact Cv O sp sq hl m3 hi g3 hd λt' m n h1 h2=>hn t' _ m n h1 h2 (by lia) (by lia)
 ·rw[ω z7];exact Cv O sp sq hl m2 hi (λy h1 h2=>g3 y (by lia) h2) hd λt' m n h1 h2=>hn t' _ m n h1 h2 (by lia) (by lia)
def Kt {st:aaE}{Q:ForInStep (Option (Array Z8)×RG)->aaE->Prop}{t:Array Z8}{i j mg m n:Nat}(O:da c)(L:iI prog w A E s κ c S)(hk:kindOf st=κ)(Sp:∀i,i<p.size->S (el p i))(Sq:∀i,i<q.size->S (el q i))(sp:SR c p 0 p.size)(sq:SR c q 0 q.size)(hl:∀y,y<q.size->c (el q y) (el p (p.size-1))=ζ)(m0:Mg c p q t.toList i j)(hi:i+1<p.size)(hj:j<q.size)
  (hd:∀out r,Gd c p q out.toList->Q (.done (ν out,r)) (dj st mg)) (hn:∀t' i' j' m n,Mg c p q t'.toList i' j'->i'+1<p.size->j'<q.size->i+j<i'+j'->Q (.done (ξ,t',i',j',mg,m,n)) (dj st mg)/\Q (.yield (ξ,t',i',j',mg,m,n)) (dj st mg)):wpS (Ψ prog w) A E s (Pa p q t i j mg m n) Q st:=by
 refine aad (aca (aad (aV hj (aad (fC O L hk (Sq _ hj) (λx hx=>Sp _ (by lia)) (by lia) (λa b h1 h2 h3=>sp a b (by lia) h2 (by lia)) (by lia) λk k1 k2 k3=>?_)))))
 have g0:∀x,x<k->le c (el p (i+x)) (el q j):=λx hx=>by
  have:=k2 x hx;unfold gb at this;rw[ω (by simp),adv]at this
  exact this
 have g1:∀y,i+k<=y->y<p.size->le c (el q j) (el p y):=λy h1 h2=>by
  have:=k3 (y-i) (by lia) (by lia)
  unfold gb at this;rw[ω (by simp),adg,show i+(y-i)=y by lia]at this
  exact O.of_lt this
 have ZI:i+k<p.size:=by
  rcases aa5 (i+k) p.size with gV|ZK
  ·exact gV
  ·have h1:=g0 (p.size-1-i) (by lia)
   rw[show i+(p.size-1-i)=p.size-1 by lia]at h1
   exact Η ((hl j hj).symm.trans h1) (by simp)
 dsimp only
 by_cases z7:k>0
 ·rw[χ z7];have m1:Mg c p q (t++p.extract i (i+k)).toList (i+k) j:=by
   rw[AE];exact m0.ll sp k (by lia) λx hx y h1 h2=>O.trans (g0 x hx) (sq j y (by lia) h1 h2)
  by_cases e1:(i+k+1==p.size)=ζ
  ·rw[χ e1];exact aal (hd _ _ (m1.tail O sp sq (by simpa using e1) hl))
  rw[ω e1];have Iw:i+k+1≠p.size:=by simpa using e1
  rw[ω (by simp;lia)]
  exact Cw O L hk Sp Sq sp sq hl m1 (by lia) hj g1 hd λt' j' m n h1 h2 h3 h4=>hn t' _ j' m n h1 h2 h4 (by lia)
 ·rw[ω z7];exact Cw O L hk Sp Sq sp sq hl m0 hi hj (λy h1 h2=>g1 y (by lia) h2) hd λt' j' m n h1 h2 h3 h4=>hn t' _ j' m n h1 h2 h4 (by lia)
def Ks {st:aaE}{Q:ForInStep (Option (Array Z8)×RI)->aaE->Prop}{t:Array Z8}{i j mg ma na:Nat}(O:da c)(L:iI prog w A E s κ c S)(hk:kindOf st=κ)(Sp:∀i,i<p.size->S (el p i))(Sq:∀i,i<q.size->S (el q i))(sp:SR c p 0 p.size)(sq:SR c q 0 q.size)(hl:∀y,y<q.size->c (el q y) (el p (p.size-1))=ζ)(m:Mg c p q t.toList i j)(hi:i+1<p.size)(hj:j<q.size)
  (hd:∀out r,Gd c p q out.toList->Q (.done (ν out,r)) st) (hn:∀t' i' j' m n,Mg c p q t'.toList i' j'->i'+1<p.size->j'<q.size->i+j<i'+j'->Q (.done (ξ,t',i',j',m,n)) st/\Q (.yield (ξ,t',i',j',m,n)) st):wpS (Ψ prog w) A E s (TL p q mg (ξ,t,i,j,ma,na)) Q st:=by
 unfold TL O_ O9;dsimp only;refine aad (aV hj (aad (aV (by lia) (aad (L _ _ st _ (Sq _ hj) (Sp _ (by lia)) hk ?_)))))
 dsimp only;cases hc:c (el q j) (el p i)with
 |true =>
  rw[χ rfl];refine aad (aV hj ?_);have m1:Mg c p q (t.push (el q j)).toList i (j+1):=by
   rw[abH];exact m.nC hj sq λk h1 h2=>O.trans (O.of_lt hc) (sp i k (by lia) h1 h2)
  by_cases e3:(j+1==q.size)=ζ
  ·rw[χ e3];exact aal (hd _ _ (m1.done sp sq (.inr (by simpa using e3))))
  rw[ω e3];have h3:j+1≠q.size:=by simpa using e3
  obtain⟨h6,h7⟩:=hn _ _ _ 0 (na+1) m1 hi (by lia) (by lia)
  split
  ·exact aal h6
  ·exact aal h7
 |false =>
  rw[ω (by simp)]
  refine aad (aV (by lia) ?_)
  have m1:Mg c p q (t.push (el p i)).toList (i+1) j:=by
   rw[abH];exact m.nD (by lia) sp λk h1 h2=>O.trans (show le c (el p i) (el q j) from hc) (sq j k (by lia) h1 h2)
  by_cases e3:(i+1+1==p.size)=ζ
  ·rw[χ e3];exact aal (hd _ _ (m1.tail O sp sq (by simpa using e3) hl))
  rw[ω e3];have h3:i+1+1≠p.size:=by simpa using e3
  obtain⟨h6,h7⟩:=hn _ _ _ (ma+1) 0 m1 (by lia) hj (by lia)
  split
  ·exact aal h6
  ·exact aal h7
def xu (O:da c)(L:iI prog w A E s κ c S){Q:Array Z8->aaE->Prop}{st:aaE}(hk:kindOf st=κ)(Sp:∀i,i<p.size->S (el p i))(Sq:∀i,i<q.size->S (el q i))(sp:SR c p 0 p.size)(sq:SR c q 0 q.size)
  (hp:0<p.size) (hq:0<q.size) (hf:c (el q 0) (el p 0)=ζ) (hl:∀y,y<q.size->c (el q y) (el p (p.size-1))=ζ) (h:∀to aI,nu st aI->Gd c p q to.toList->Q to aI) :
  wpS (Ψ prog w) A E s (lN p q) Q st:=by
 rw[vF];refine aad (wpS_lift (acb {rfl,?_}));refine aad (aV hq ?_);have m0:Mg c p q (#[el q 0]:Array Z8).toList 0 1:=Mg.start O sp sq hq hp hf
 by_cases h1:(1==q.size)=ζ
 ·rw[χ h1];exact aal (h _ st (nu.refl st) (m0.done sp sq (.inr (by simpa using h1))))
 rw[ω h1]
 by_cases h2:(0+1==p.size)=ζ
 ·rw[χ h2];exact aal (h _ st (nu.refl st) (m0.tail O sp sq (by simpa using h2) hl))
 rw[ω h2];refine aad (adk ?_);refine aad (abF (aa7
  (I:=λx r aI=>nu st aI/\∃to i j mg,r=(ξ,to,i,j,mg)/\Mg c p q to.toList i j/\i+1<p.size/\j<q.size/\x<i+j)
  (Q:=λr aI=>nu st aI/\∃out r',r=(ν out,r')/\Gd c p q out.toList) ?_ ?_ ?_) ?_)
 ·rintro x r aI _ hx ⟨e,to,i,j,mg,rfl,m,hi,hj,hb⟩;unfold Wk;dsimp only;refine aad (abF (aa7
   (I:=λy r aI=>nu st aI/\∃to i j m n,r=(ξ,to,i,j,m,n)/\Mg c p q to.toList i j/\i+1<p.size/\j<q.size/\x+min y 1<i+j)
   (Q:=λr aI=>nu st aI/\((∃out r',r=(ν out,r')/\Gd c p q out.toList)\/∃to i j m n,r=(ξ,to,i,j,m,n)/\Mg c p q to.toList i j/\i+1<p.size/\j<q.size/\x+1<i+j)) ?_ ?_ ?_) ?_)
  ·rintro y r iJ _ hy ⟨e2,to,i,j,ma,na,rfl,m,hi,hj,hb⟩;exact Ks O L (e2.kind.trans hk) Sp Sq sp sq hl m hi hj (λout r h=>{e2,.inl {_,_,rfl,h}}) λt' i' j' m n h1 h2 h3 h4=>{{e2,.inr {_,_,_,_,_,rfl,h1,h2,h3,by lia}},{e2,_,_,_,_,_,rfl,h1,h2,h3,by lia}}
  ·rintro r iJ ⟨e2,to,i,j,ma,na,rfl,m,hi,hj,hb⟩;exact{e2,.inr {_,_,_,_,_,rfl,m,hi,hj,by lia}}
  ·exact{e,_,_,_,_,_,rfl,m,hi,hj,by lia}
  rintro r iJ ⟨e2,⟨out,r',rfl,g⟩|⟨to,i,j,ma,na,rfl,m,hi,hj,hb⟩⟩
  ·exact aal {e2,_,_,rfl,g}
  dsimp only;refine aad (wpS_lift (acb {rfl,?_}));refine aad (abF (aa7
   (I:=λy r aI=>nu st aI/\∃to i j mg m n,r=(ξ,to,i,j,mg,m,n)/\Mg c p q to.toList i j/\i+1<p.size/\j<q.size/\x+1<i+j)
   (Q:=λr aI=>nu st aI/\((∃out r',r=(ν out,r')/\Gd c p q out.toList)\/∃to i j mg m n,r=(ξ,to,i,j,mg,m,n)/\Mg c p q to.toList i j/\i+1<p.size/\j<q.size/\x+1<i+j)) ?_ ?_ ?_) ?_)
  ·rintro y r iJ _ hy ⟨e2,to,i,j,mg,ma,na,rfl,m,hi,hj,hb⟩;show wpS (Ψ prog w) A E s (if mg>1 then Pa p q to i j (mg-1) ma na else Pa p q to i j mg ma na) _ iJ
   split <;> exact Kt O L (e2.kind.trans hk) Sp Sq sp sq hl m hi hj (λout r h=>{e2.JX _,.inl {_,_,rfl,h}}) λt' i' j' m n h1 h2 h3 h4=>{{e2.JX _,.inr {_,_,_,_,_,_,rfl,h1,h2,h3,by lia}},{e2.JX _,_,_,_,_,_,_,rfl,h1,h2,h3,by lia}}
  ·rintro r iJ ⟨e2,to,i,j,mg,ma,na,rfl,m,hi,hj,hb⟩;exact{e2,.inr {_,_,_,_,_,_,rfl,m,hi,hj,hb}}
  ·exact{e2,_,_,_,_,_,_,rfl,m,hi,hj,hb}
  rintro r iJ ⟨e2,⟨out,r',rfl,g⟩|⟨to,i,j,mg,ma,na,rfl,m,hi,hj,hb⟩⟩
  ·exact aal {e2,_,_,rfl,g}
  dsimp only;refine aad (aca (aal {e2.JX _,_,_,_,_,rfl,m,hi,hj,by lia}))
 ·rintro r aI ⟨e,to,i,j,mg,rfl,m,hi,hj,hb⟩
  exfalso
  rw[show max 0 (p.size+q.size)=p.size+q.size by lia]at hb
  lia
 ·exact{nu.refl st,_,_,_,_,rfl,m0,by simp at h2;lia,by simp at h1;lia,by lia}
 ·rintro r aI ⟨e,out,r',rfl,g⟩;exact aal (h _ aI e g)
end
section
variable {c:Z8->Z8->Bool}{p q:Array Z8}{t:List Z8}{i j:Nat}
structure Mh (c:Z8->Z8->Bool)(p q:Array Z8)(t:List Z8)(i j:Nat):Prop where
 hi:i<=p.size
 hj:j<=q.size
 perm:t.Perm (p.toList.drop i++q.toList.drop j)
 iL:t.Pairwise (le c)
 ap:∀x∈t,∀k,k<i->le c (el p k) x
 aq:∀x∈t,∀k,k<j->le c (el q k) x
def sY {a:Array Z8}{i:Nat}(h0:0<i)(h:i<=a.size):a.toList.drop (i-1)=el a (i-1)::a.toList.drop i:=by
 rw[An (by lia),show i-1+1=i by lia]
def Mh.nD (m:Mh c p q t i j)(h0:0<i)(sp:SR c p 0 p.size)(hle:∀k,k<j->le c (el q k) (el p (i-1))):Mh c p q (el p (i-1)::t) (i-1) j where
 hi:=by have:=m.hi;lia
 hj:=m.hj
 perm:=by
  rw[sY h0 m.hi];exact m.perm.cons _
 iL:=aaM.mpr {λx hx=>m.ap x hx _ (by lia),m.iL}
 ap:=λx hx k hk=>by
  rcases Z1.mp hx with rfl|h
  ·exact sp k (i-1) (by lia) (by lia) (by have:=m.hi;lia)
  ·exact m.ap x h k (by lia)
 aq:=λx hx k hk=>by
  rcases Z1.mp hx with rfl|h
  ·exact hle k hk
  ·exact m.aq x h k hk
def Mh.nC (m:Mh c p q t i j)(h0:0<j)(sq:SR c q 0 q.size)(hle:∀k,k<i->le c (el p k) (el q (j-1))):Mh c p q (el q (j-1)::t) i (j-1) where
 hi:=m.hi
 hj:=by have:=m.hj;lia
 perm:=by
  rw[sY h0 m.hj];exact(m.perm.cons _).trans adG.symm
 iL:=aaM.mpr {λx hx=>m.aq x hx _ (by lia),m.iL}
 ap:=λx hx k hk=>by
  rcases Z1.mp hx with rfl|h
  ·exact hle k hk
  ·exact m.ap x h k hk
 aq:=λx hx k hk=>by
  rcases Z1.mp hx with rfl|h
  ·exact sq k (j-1) (by lia) (by lia) (by have:=m.hj;lia)
  ·exact m.aq x h k (by lia)
def rV {a:Array Z8}{i k:Nat}(h0:k<i)(h:i<=a.size):(a.toList.drop (i-(k+1))).take (k+1)=el a (i-(k+1))::(a.toList.drop (i-k)).take k:=by
 rw[An (by lia),show i-(k+1)+1=i-k by lia,List.take_succ_cons]
theorem Mh.CQ (m:Mh c p q t i j)(sp:SR c p 0 p.size):∀(k:Nat),k<=i->(∀x,i-k<=x->x<i->∀y,y<j->le c (el q y) (el p x))->Mh c p q ((p.toList.drop (i-k)).take k++t) (i-k) j
 |0,_,_=>by simpa using m
 |k+1,h,hle=>by
  have m':=Mh.CQ m sp k (by lia) λx h1 h2=>hle x (by lia) h2
  rw[rV (by lia) m.hi,acm]
  exact m'.nD (by lia) sp λy hy=>hle _ (by lia) (by lia) y hy
theorem Mh.CP (m:Mh c p q t i j)(sq:SR c q 0 q.size):∀(k:Nat),k<=j->(∀x,j-k<=x->x<j->∀y,y<i->le c (el p y) (el q x))->Mh c p q ((q.toList.drop (j-k)).take k++t) i (j-k)
 |0,_,_=>by simpa using m
 |k+1,h,hle=>by
  have m':=Mh.CP m sq k (by lia) λx h1 h2=>hle x (by lia) h2
  rw[rV (by lia) m.hj,acm]
  exact m'.nC (by lia) sq λy hy=>hle _ (by lia) (by lia) y hy
def Mh.ll (m:Mh c p q t i j)(sp:SR c p 0 p.size){h:Nat}(hh:h<=i)(hle:∀x,h<=x->x<i->∀y,y<j->le c (el q y) (el p x)):Mh c p q ((p.toList.drop h).take (i-h)++t) h j:=by
 have m':=m.CQ sp (i-h) (by lia) λx h1 h2=>hle x (by lia) h2
 rw[show i-(i-h)=h by lia]at m'
 exact m'
def Mh.lj (m:Mh c p q t i j)(sq:SR c q 0 q.size){h:Nat}(hh:h<=j)(hle:∀x,h<=x->x<j->∀y,y<i->le c (el p y) (el q x)):Mh c p q ((q.toList.drop h).take (j-h)++t) i h:=by
 have m':=m.CP sq (j-h) (by lia) λx h1 h2=>hle x (by lia) h2
 rw[show j-(j-h)=h by lia]at m'
 exact m'
def Mh.full (m:Mh c p q t 0 0):Gd c p q t:={(m.perm),m.iL}
def OH (a b to:Array Z8)(i j:Nat):(a.extract 0 i++b.extract 0 j++to.reverse).toList=(a.toList.drop 0).take (i-0)++((b.toList.drop 0).take (j-0)++to.toList.reverse):=by
 rw[abm,abm,c8,c8,Array.toList_reverse,aa3]
def Mh.done {to:Array Z8}(m:Mh c p q to.toList.reverse i j)(sp:SR c p 0 p.size)(sq:SR c q 0 q.size)(h:i=0\/j=0):Gd c p q (p.extract 0 i++q.extract 0 j++to.reverse).toList:=by
 rw[OH];rcases h with rfl|rfl
 ·have m':=m.lj sq (h:=0) (aab _) λx _ _ y hy=>by lia
  exact(m'.ll sp (h:=0) (aab _) λx _ hx=>by lia).full
 ·have m':=m.lj sq (h:=0) (aab _) λx _ hx=>by lia
  exact(m'.ll sp (h:=0) (aab _) λx _ hx y hy=>by lia).full
def Mh.tail {to:Array Z8}(O:da c)(m:Mh c p q to.toList.reverse i j)(sp:SR c p 0 p.size)(sq:SR c q 0 q.size)(h:j=1)(hf:c (el q 0) (el p 0)=ζ):Gd c p q (q.extract 0 j++p.extract 0 i++to.reverse).toList:=by
 rw[OH];subst h;have m':=m.ll sp (h:=0) (aab _) λx _ hx y hy=>by
  obtain rfl:y=0:=by lia
  exact O.trans (O.of_lt hf) (sp 0 x (by lia) (by lia) (by have:=m.hi;lia))
 exact(m'.lj sq (h:=0) (aab _) λx _ _ y hy=>by lia).full
def lD (to:Array Z8)(x:Z8):(to.push x).toList.reverse=x::to.toList.reverse:=by
 rw[abH,ac3];rfl
def AD (to a:Array Z8)(h i:Nat):(to++(a.extract h i).reverse).toList.reverse=(a.toList.drop h).take (i-h)++to.toList.reverse:=by
 rw[abm,ac3,Array.toList_reverse,List.reverse_reverse,c8]
def Mh.start (sp:SR c p 0 p.size)(O:da c)(hp:0<p.size)(hl:∀y,y<q.size->c (el q y) (el p (p.size-1))=ζ):Mh c p q [el p (p.size-1)] (p.size-1) q.size:=by
 have m:Mh c p q [] p.size q.size:={ZX _,ZX _,by rw[List.drop_of_length_le (by simp),List.drop_of_length_le (by simp)];exact .refl _,.nil,(λx hx=>by cases hx),(λx hx=>by cases hx)}
 exact m.nD hp sp λk hk=>O.of_lt (hl k hk)
end
abbrev RJ:=Nat×Nat×Array Z8×Nat×Nat
abbrev RH:=Nat×Nat×Array Z8×Nat×Nat×Nat
abbrev RP:=Nat×Nat×Array Z8×Nat
noncomputable def U4 (p q t:Array Z8)(i j mg m n:Nat):StateT aaE Sem (ForInStep (Option (Array Z8)×RH)):=do
 let z <- elem' p (i-1)
 if (i-1==0)=ζ then pure (.done (ν (p.extract 0 (i-1)++q.extract 0 j++(t.push z).reverse),i-1,j,t.push z,mg,m,n))
 else if (decide (m<7)&&decide (n<7))=ζ then pure (.done (ξ,i-1,j,t.push z,mg,m,n)) else pure (.yield (ξ,i-1,j,t.push z,mg,m,n))
noncomputable def U5 (p q t:Array Z8)(i j mg m n:Nat):StateT aaE Sem (ForInStep (Option (Array Z8)×RH)):=do
 let y <- elem' q (j-1)
 if (j-1==1)=ζ then pure (.done (ν (q.extract 0 (j-1)++p.extract 0 i++(t.push y).reverse),i,j-1,t.push y,mg,m,n))
 else do
  let x <- elem' p (i-1)
  let r <- dh ζ x q 0 (j-1) (j-1-1)
  match r with
  |some h=>if j-1-h>0 then (if (h==1)=ζ then pure (.done (ν (q.extract 0 h++p.extract 0 i++(t.push y++(q.extract h (j-1)).reverse).reverse),i,h,t.push y++(q.extract h (j-1)).reverse,mg,m,j-1-h))
    else if (h==0)=ζ then pure (.done (ν (p.extract 0 i++q.extract 0 h++(t.push y++(q.extract h (j-1)).reverse).reverse),i,h,t.push y++(q.extract h (j-1)).reverse,mg,m,j-1-h))
    else U4 p q (t.push y++(q.extract h (j-1)).reverse) i h mg m (j-1-h)) else U4 p q (t.push y) i (j-1) mg m (j-1-h)
  |_=>pure (.done (ν (p.extract 0 i++q.extract 0 (j-1)++(t.push y).reverse),i,j-1,t.push y,mg,m,n))
noncomputable def QI (p q t:Array Z8)(i j mg m n:Nat):StateT aaE Sem (ForInStep (Option (Array Z8)×RH)):=do
 modify λst=>dj st mg
 let y <- elem' q (j-1)
 let r <- dh η y p 0 i (i-1)
 match r with
 |some h=>if i-h>0 then (if (h==0)=ζ then pure (.done (ν (p.extract 0 h++q.extract 0 j++(t++(p.extract h i).reverse).reverse),h,j,t++(p.extract h i).reverse,mg,i-h,n))
   else U5 p q (t++(p.extract h i).reverse) h j mg (i-h) n) else U5 p q t i j mg (i-h) n
 |_=>pure (.done (ν (p.extract 0 i++q.extract 0 j++t.reverse),i,j,t,mg,m,n))
def YD (p q:Array Z8)(s:Option (Array Z8)×RH):StateT aaE Sem (ForInStep (Option (Array Z8)×RH)):=if s.2.2.2.2.1>1 then QI p q s.2.2.2.1 s.2.1 s.2.2.1 (s.2.2.2.2.1-1) s.2.2.2.2.2.1 s.2.2.2.2.2.2 else QI p q s.2.2.2.1 s.2.1 s.2.2.1 s.2.2.2.2.1 s.2.2.2.2.2.1 s.2.2.2.2.2.2
noncomputable def U3 (p q t:Array Z8)(mg i j m:Nat):StateT aaE Sem (ForInStep (Option (Array Z8)×RJ)):=do
 let x <- elem' p (i-1)
 if (i-1==0)=ζ then pure (.done (ν (p.extract 0 (i-1)++q.extract 0 j++(t.push x).reverse),i-1,j,t.push x,m+1,0))
 else if m+1 >= mg then pure (.done (ξ,i-1,j,t.push x,m+1,0)) else pure (.yield (ξ,i-1,j,t.push x,m+1,0))
noncomputable def U1 (p q t:Array Z8)(mg i j n:Nat):StateT aaE Sem (ForInStep (Option (Array Z8)×RJ)):=do
 let y <- elem' q (j-1)
 if (j-1==1)=ζ then pure (.done (ν (q.extract 0 (j-1)++p.extract 0 i++(t.push y).reverse),i,j-1,t.push y,0,n+1))
 else if n+1 >= mg then pure (.done (ξ,i,j-1,t.push y,0,n+1)) else pure (.yield (ξ,i,j-1,t.push y,0,n+1))
noncomputable def WL (p q t:Array Z8)(mg i j m n:Nat):StateT aaE Sem (ForInStep (Option (Array Z8)×RJ)):=do
 let y <- elem' q (j-1)
 let x <- elem' p (i-1)
 let r <- lt' y x
 match r with
 |some Ky=>if Ky=ζ then U3 p q t mg i j m else U1 p q t mg i j n
 |_=>pure (.done (ν (p.extract 0 i++q.extract 0 j++t.reverse),i,j,t,m,n))
noncomputable def WK (p q:Array Z8)(s:Option (Array Z8)×RP):StateT aaE Sem (ForInStep (Option (Array Z8)×RP)):=do
 let s1 <- forIn [:p.size+q.size] ((ξ,s.2.1,s.2.2.1,s.2.2.2.1,0,0):Option (Array Z8)×RJ) λ_ r=>WL p q r.2.2.2.1 s.2.2.2.2 r.2.1 r.2.2.1 r.2.2.2.2.1 r.2.2.2.2.2
 match s1.1 with
 |some r=>pure (.done (ν r,s1.2.1,s1.2.2.1,s1.2.2.2.1,s.2.2.2.2))
 |none=>do
  liftM (rule "list.sort.gallop")
  let s2 <- forIn [:p.size+q.size] ((ξ,s1.2.1,s1.2.2.1,s1.2.2.2.1,s.2.2.2.2+1,s1.2.2.2.2.1,s1.2.2.2.2.2):Option (Array Z8)×RH) λ_ r=>YD p q r
  match s2.1 with
  |some r=>pure (.done (ν r,s2.2.1,s2.2.2.1,s2.2.2.2.1,s2.2.2.2.2.1))
  |none=>do
   modify λst=>dj st (s2.2.2.2.2.1+1)
   pure (.yield (ξ,s2.2.1,s2.2.2.1,s2.2.2.2.1,s2.2.2.2.2.1+1))
theorem vH (p q:Array Z8):lO p q=(do
  liftM (rule "list.sort.merge-hi")
  let y <- elem' p (p.size-1)
  if (p.size-1==0)=ζ then pure (p.extract 0 (p.size-1)++q.extract 0++#[y].reverse)
  else if (q.size==1)=ζ then pure (q.extract 0++p.extract 0 (p.size-1)++#[y].reverse)
  else do
   let st <- get
   let s <- forIn [:p.size+q.size] ((ξ,p.size-1,q.size,#[y],gallopOf st):Option (Array Z8)×RP) λ_ s=>WK p q s
   match s.1 with
   |some r=>pure r
   |none=>liftM (unsupported "internal:list.sort.merge-bound" : Sem (Array Z8))):=by
 rw[vG];dsimp only;refine Ι (bind _) (funext λ_=>?_);refine Ι (bind _) (funext λy=>?_);refine Ι (ite _ _) (Ι (ite _ _) ?_);refine Ι (bind _) (funext λy=>?_);refine congr (Ι bind (Ι _ (funext λ_=>funext λs=>?_))) (funext λs=>?_)
 ·refine congr (Ι bind (Ι _ (funext λ_=>funext λs=>?_))) (funext λs=>?_)
  ·rfl
  ·cases s.1
   ·refine Ι (bind _) (funext λ_=>?_);refine congr (Ι bind (Ι _ (funext λ_=>funext λs=>?_))) (funext λs=>?_)
    ·rfl
    ·cases s.1 <;> rfl
   ·rfl
 ·cases s.1 <;> rfl
section
variable {prog:Z6}{w:aam}{A:aaX}{E:ZW->ZZ->Prop}{s:ZZ}{κ:acs}{c:Z8->Z8->Bool}{S:Z8->Prop}{p q:Array Z8}
def Cy {st:aaE}{Q:ForInStep (Option (Array Z8)×RH)->aaE->Prop}{t:Array Z8}{i j mg m n:Nat}(sp:SR c p 0 p.size)(sq:SR c q 0 q.size)(m3:Mh c p q t.toList.reverse i j)(hi:0<i)(g3:∀k,k<j->le c (el q k) (el p (i-1)))
  (hd:∀out r,Gd c p q out.toList->Q (.done (ν out,r)) st) (hn:∀t' m n,Mh c p q t'.toList.reverse (i-1) j->0<i-1->Q (.done (ξ,i-1,j,t',mg,m,n)) st/\Q (.yield (ξ,i-1,j,t',mg,m,n)) st):wpS (Ψ prog w) A E s (U4 p q t i j mg m n) Q st:=by
 have iY:=m3.hi;refine aad (aV (by lia) ?_)
 have m4:Mh c p q (t.push (el p (i-1))).toList.reverse (i-1) j:=by
  rw[lD];exact m3.nD hi sp g3
 by_cases e5:(i-1==0)=ζ
 ·rw[χ e5];exact aal (hd _ _ (m4.done sp sq (.inl (by simpa using e5))))
 rw[ω e5];have h5:i-1≠0:=by simpa using e5
 obtain⟨h6,h7⟩:=hn (t.push (el p (i-1))) m n m4 (by lia)
 split
 ·exact aal h6
 ·exact aal h7
def Cz {st:aaE}{Q:ForInStep (Option (Array Z8)×RH)->aaE->Prop}{t:Array Z8}{i j mg m n:Nat}(O:da c)(L:iI prog w A E s κ c S)(hk:kindOf st=κ)(Sp:∀i,i<p.size->S (el p i))(Sq:∀i,i<q.size->S (el q i))(sp:SR c p 0 p.size)(sq:SR c q 0 q.size)(hf:c (el q 0) (el p 0)=ζ)(m1:Mh c p q t.toList.reverse i j)(hi:0<i)(hj:1<j)(g1:∀x,x<i->le c (el p x) (el q (j-1)))
  (hd:∀out r,Gd c p q out.toList->Q (.done (ν out,r)) st) (hn:∀t' j' m n,Mh c p q t'.toList.reverse (i-1) j'->0<i-1->1<j'->j'<j->Q (.done (ξ,i-1,j',t',mg,m,n)) st/\Q (.yield (ξ,i-1,j',t',mg,m,n)) st):wpS (Ψ prog w) A E s (U5 p q t i j mg m n) Q st:=by
 have mi:=m1.hi;have mj:=m1.hj;refine aad (aV (by lia) ?_)
 have m2:Mh c p q (t.push (el q (j-1))).toList.reverse i (j-1):=by
  rw[lD];exact m1.nC (by lia) sq g1
 by_cases e3:(j-1==1)=ζ
 ·rw[χ e3];exact aal (hd _ _ (m2.tail O sp sq (by simpa using e3) hf))
 rw[ω e3];have h3:j-1≠1:=by simpa using e3
 refine aad (aV (by lia) (aad (fC O L hk (Sp _ (by lia)) (λx hx=>Sq _ (by lia)) (by lia) (λa b h1 h2 h3=>sq a b (by lia) h2 (by lia)) (by lia) λh k1 k2 k3=>?_)))
 have g2:∀x,x<h->c (el q x) (el p (i-1))=ζ:=λx hx=>by
  have:=k2 x hx;unfold gb at this;rw[χ rfl,abj]at this;exact this
 have g4:∀x,h<=x->x<j-1->le c (el p (i-1)) (el q x):=λx h1 h2=>by
  have:=k3 x h1 h2;unfold gb at this;rw[χ rfl,abj]at this;exact this
 have hh:0<h:=by
  rcases Nat.eq_zero_or_pos h with z|z
  ·subst z;have h2:=O.trans (sp 0 (i-1) (by lia) (by lia) (by lia)) (g4 0 (ZX _) (by lia))
   exact Η (hf.symm.trans h2) (by simp)
  ·exact z
 dsimp only
 by_cases z7:j-1-h>0
 ·rw[χ z7];have m3:Mh c p q (t.push (el q (j-1))++(q.extract h (j-1)).reverse).toList.reverse i h:=by
   rw[AD];exact m2.lj sq k1 λx h1 h2 y hy=>O.trans (sp y (i-1) (by lia) (by lia) (by lia)) (g4 x h1 h2)
  by_cases e4:(h==1)=ζ
  ·rw[χ e4];exact aal (hd _ _ (m3.tail O sp sq (by simpa using e4) hf))
  rw[ω e4];have h4:h≠1:=by simpa using e4
  rw[ω (by simp;lia)]
  exact Cy sp sq m3 hi (λk hk=>O.of_lt (g2 k hk)) hd λt' m n h1 h2=>hn t' _ m n h1 h2 (by lia) (by lia)
 ·rw[ω z7];exact Cy sp sq m2 hi (λk hk=>O.of_lt (g2 k (by lia))) hd λt' m n h1 h2=>hn t' _ m n h1 h2 (by lia) (by lia)
def Kv {st:aaE}{Q:ForInStep (Option (Array Z8)×RH)->aaE->Prop}{t:Array Z8}{i j mg m n:Nat}(O:da c)(L:iI prog w A E s κ c S)(hk:kindOf st=κ)(Sp:∀i,i<p.size->S (el p i))(Sq:∀i,i<q.size->S (el q i))(sp:SR c p 0 p.size)(sq:SR c q 0 q.size)(hf:c (el q 0) (el p 0)=ζ)(m0:Mh c p q t.toList.reverse i j)(hi:0<i)(hj:1<j)
  (hd:∀out r,Gd c p q out.toList->Q (.done (ν out,r)) (dj st mg)) (hn:∀t' i' j' m n,Mh c p q t'.toList.reverse i' j'->0<i'->1<j'->i'+j'<i+j->Q (.done (ξ,i',j',t',mg,m,n)) (dj st mg)/\Q (.yield (ξ,i',j',t',mg,m,n)) (dj st mg)):wpS (Ψ prog w) A E s (QI p q t i j mg m n) Q st:=by
 have mi:=m0.hi;have mj:=m0.hj;refine aad (aca (aad (aV (by lia) (aad (fC O L hk (Sq _ (by lia)) (λx hx=>Sp _ (by lia)) (by lia) (λa b h1 h2 h3=>sp a b (by lia) h2 (by lia)) (by lia) λh k1 k2 k3=>?_)))))
 have g0:∀x,x<h->le c (el p x) (el q (j-1)):=λx hx=>by
  have:=k2 x hx;unfold gb at this;rw[ω (by simp),adv,abj]at this
  exact this
 have g5:∀x,h<=x->x<i->le c (el q (j-1)) (el p x):=λx h1 h2=>by
  have:=k3 x h1 h2;unfold gb at this;rw[ω (by simp),adg,abj]at this
  exact O.of_lt this
 dsimp only
 by_cases z7:i-h>0
 ·rw[χ z7];have m1:Mh c p q (t++(p.extract h i).reverse).toList.reverse h j:=by
   rw[AD];exact m0.ll sp k1 λx h1 h2 y hy=>O.trans (sq y (j-1) (by lia) (by lia) (by lia)) (g5 x h1 h2)
  by_cases e1:(h==0)=ζ
  ·rw[χ e1];exact aal (hd _ _ (m1.done sp sq (.inl (by simpa using e1))))
  rw[ω e1];have Iw:h≠0:=by simpa using e1
  exact Cz O L hk Sp Sq sp sq hf m1 (by lia) hj g0 hd λt' j' m n h1 h2 h3 h4=>hn t' _ j' m n h1 h2 h3 (by lia)
 ·rw[ω z7];exact Cz O L hk Sp Sq sp sq hf m0 hi hj (λx hx=>g0 x (by lia)) hd λt' j' m n h1 h2 h3 h4=>hn t' _ j' m n h1 h2 h3 (by lia)
def Ku {st:aaE}{Q:ForInStep (Option (Array Z8)×RJ)->aaE->Prop}{t:Array Z8}{i j mg ma na:Nat}(O:da c)(L:iI prog w A E s κ c S)(hk:kindOf st=κ)(Sp:∀i,i<p.size->S (el p i))(Sq:∀i,i<q.size->S (el q i))(sp:SR c p 0 p.size)(sq:SR c q 0 q.size)(hf:c (el q 0) (el p 0)=ζ)(m:Mh c p q t.toList.reverse i j)(hi:0<i)(hj:1<j)
  (hd:∀out r,Gd c p q out.toList->Q (.done (ν out,r)) st) (hn:∀t' i' j' m n,Mh c p q t'.toList.reverse i' j'->0<i'->1<j'->i'+j'<i+j->Q (.done (ξ,i',j',t',m,n)) st/\Q (.yield (ξ,i',j',t',m,n)) st):wpS (Ψ prog w) A E s (WL p q t mg i j ma na) Q st:=by
 have iY:=m.hi;have JU:=m.hj;refine aad (aV (by lia) (aad (aV (by lia) (aad (L _ _ st _ (Sq _ (by lia)) (Sp _ (by lia)) hk ?_)))))
 dsimp only;cases hc:c (el q (j-1)) (el p (i-1))with
 |true =>
  rw[χ rfl];refine aad (aV (by lia) ?_)
  have m1:Mh c p q (t.push (el p (i-1))).toList.reverse (i-1) j:=by
   rw[lD];exact m.nD hi sp λk hk=>O.trans (sq k (j-1) (by lia) (by lia) (by lia)) (O.of_lt hc)
  by_cases e3:(i-1==0)=ζ
  ·rw[χ e3];exact aal (hd _ _ (m1.done sp sq (.inl (by simpa using e3))))
  rw[ω e3];have h3:i-1≠0:=by simpa using e3
  obtain⟨h6,h7⟩:=hn _ _ _ (ma+1) 0 m1 (by lia) hj (by lia)
  split
  ·exact aal h6
  ·exact aal h7
 |false =>
  rw[ω (by simp)]
  refine aad (aV (by lia) ?_)
  have m1:Mh c p q (t.push (el q (j-1))).toList.reverse i (j-1):=by
   rw[lD];exact m.nC (by lia) sq λk hk=>O.trans (sp k (i-1) (by lia) (by lia) (by lia)) (show le c (el p (i-1)) (el q (j-1)) from hc)
  by_cases e3:(j-1==1)=ζ
  ·rw[χ e3];exact aal (hd _ _ (m1.tail O sp sq (by simpa using e3) hf))
  rw[ω e3];have h3:j-1≠1:=by simpa using e3
  obtain⟨h6,h7⟩:=hn _ _ _ 0 (na+1) m1 hi (by lia) (by lia)
  split
  ·exact aal h6
  ·exact aal h7
def xv (O:da c)(L:iI prog w A E s κ c S){Q:Array Z8->aaE->Prop}{st:aaE}(hk:kindOf st=κ)(Sp:∀i,i<p.size->S (el p i))(Sq:∀i,i<q.size->S (el q i))(sp:SR c p 0 p.size)(sq:SR c q 0 q.size)
  (hp:0<p.size) (hq:0<q.size) (hf:c (el q 0) (el p 0)=ζ) (hl:∀y,y<q.size->c (el q y) (el p (p.size-1))=ζ) (h:∀to aI,nu st aI->Gd c p q to.toList->Q to aI) :
  wpS (Ψ prog w) A E s (lO p q) Q st:=by
 rw[vH];refine aad (wpS_lift (acb {rfl,?_}));refine aad (aV (by lia) ?_)
 have m0:Mh c p q (#[el p (p.size-1)]:Array Z8).toList.reverse (p.size-1) q.size:=Mh.start sp O hp hl
 by_cases h1:(p.size-1==0)=ζ
 ·rw[χ h1];exact aal (h _ st (nu.refl st) (m0.done sp sq (.inl (by simpa using h1))))
 rw[ω h1];have Iw:p.size-1≠0:=by simpa using h1
 by_cases h2:(q.size==1)=ζ
 ·rw[χ h2];exact aal (h _ st (nu.refl st) (m0.tail O sp sq (by simpa using h2) hf))
 rw[ω h2];have Fe:q.size≠1:=by simpa using h2
 refine aad (adk ?_);refine aad (abF (aa7
  (I:=λx r aI=>nu st aI/\∃i j to mg,r=(ξ,i,j,to,mg)/\Mh c p q to.toList.reverse i j/\0<i/\1<j/\i+j+x<p.size+q.size)
  (Q:=λr aI=>nu st aI/\∃out r',r=(ν out,r')/\Gd c p q out.toList) ?_ ?_ ?_) ?_)
 ·rintro x r aI _ hx ⟨e,i,j,to,mg,rfl,m,hi,hj,hb⟩;unfold WK;dsimp only;refine aad (abF (aa7
   (I:=λy r aI=>nu st aI/\∃i j to m n,r=(ξ,i,j,to,m,n)/\Mh c p q to.toList.reverse i j/\0<i/\1<j/\i+j+x+min y 1<p.size+q.size)
   (Q:=λr aI=>nu st aI/\((∃out r',r=(ν out,r')/\Gd c p q out.toList)\/∃i j to m n,r=(ξ,i,j,to,m,n)/\Mh c p q to.toList.reverse i j/\0<i/\1<j/\i+j+x+1<p.size+q.size)) ?_ ?_ ?_) ?_)
  ·rintro y r iJ _ hy ⟨e2,i,j,to,ma,na,rfl,m,hi,hj,hb⟩;exact Ku O L (e2.kind.trans hk) Sp Sq sp sq hf m hi hj (λout r h=>{e2,.inl {_,_,rfl,h}}) λt' i' j' m n h1 h2 h3 h4=>{{e2,.inr {_,_,_,_,_,rfl,h1,h2,h3,by lia}},{e2,_,_,_,_,_,rfl,h1,h2,h3,by lia}}
  ·rintro r iJ ⟨e2,i,j,to,ma,na,rfl,m,hi,hj,hb⟩;exact{e2,.inr {_,_,_,_,_,rfl,m,hi,hj,by lia}}
  ·exact{e,_,_,_,_,_,rfl,m,hi,hj,by lia}
  rintro r iJ ⟨e2,⟨out,r',rfl,g⟩|⟨i,j,to,ma,na,rfl,m,hi,hj,hb⟩⟩
  ·exact aal {e2,_,_,rfl,g}
  dsimp only;refine aad (wpS_lift (acb {rfl,?_}));refine aad (abF (aa7
   (I:=λy r aI=>nu st aI/\∃i j to mg m n,r=(ξ,i,j,to,mg,m,n)/\Mh c p q to.toList.reverse i j/\0<i/\1<j/\i+j+x+1<p.size+q.size)
   (Q:=λr aI=>nu st aI/\((∃out r',r=(ν out,r')/\Gd c p q out.toList)\/∃i j to mg m n,r=(ξ,i,j,to,mg,m,n)/\Mh c p q to.toList.reverse i j/\0<i/\1<j/\i+j+x+1<p.size+q.size)) ?_ ?_ ?_) ?_)
  ·rintro y r iJ _ hy ⟨e2,i,j,to,mg,ma,na,rfl,m,hi,hj,hb⟩;show wpS (Ψ prog w) A E s (if mg>1 then QI p q to i j (mg-1) ma na else QI p q to i j mg ma na) _ iJ
   split <;> exact Kv O L (e2.kind.trans hk) Sp Sq sp sq hf m hi hj (λout r h=>{e2.JX _,.inl {_,_,rfl,h}}) λt' i' j' m n h1 h2 h3 h4=>{{e2.JX _,.inr {_,_,_,_,_,_,rfl,h1,h2,h3,by lia}},{e2.JX _,_,_,_,_,_,_,rfl,h1,h2,h3,by lia}}
  ·rintro r iJ ⟨e2,i,j,to,mg,ma,na,rfl,m,hi,hj,hb⟩;exact{e2,.inr {_,_,_,_,_,_,rfl,m,hi,hj,hb}}
  ·exact{e2,_,_,_,_,_,_,rfl,m,hi,hj,hb}
  rintro r iJ ⟨e2,⟨out,r',rfl,g⟩|⟨i,j,to,mg,ma,na,rfl,m,hi,hj,hb⟩⟩
  ·exact aal {e2,_,_,rfl,g}
  dsimp only;refine aad (aca (aal {e2.JX _,_,_,_,_,rfl,m,hi,hj,by lia}))
 ·rintro r aI ⟨e,i,j,to,mg,rfl,m,hi,hj,hb⟩
  exfalso
  rw[show max 0 (p.size+q.size)=p.size+q.size by lia]at hb
  lia
 ·exact{nu.refl st,_,_,_,_,rfl,m0,by lia,by lia,by lia}
 ·rintro r aI ⟨e,out,r',rfl,g⟩;exact aal (h _ aI e g)
end
section
variable {c:Z8->Z8->Bool}{a b:Array Z8}
structure Rg (a b:Array Z8)(lo hi:Nat):Prop where
 perm:b.Perm a
 out:∀k,(k<lo\/hi<=k)->el b k=el a k
def Rg.refl {lo hi:Nat}:Rg a a lo hi:={Array.Perm.refl _,λ_ _=>rfl}
def Rg.trans {d:Array Z8}{lo hi:Nat}(x:Rg a b lo hi)(y:Rg b d lo hi):Rg a d lo hi:={y.perm.trans x.perm,λk h=>(y.out k h).trans (x.out k h)}
def Rg.mono {lo hi JI iY:Nat}(x:Rg a b lo hi)(h1:JI<=lo)(h2:hi<=iY):Rg a b JI iY:={x.perm,λk h=>x.out k (by lia)}
def Rg.size {lo hi:Nat}(x:Rg a b lo hi):b.size=a.size:=x.perm.size_eq
def SR.congr {lo hi:Nat}(h:SR c a lo hi)(e:∀k,lo<=k->k<hi->el b k=el a k):SR c b lo hi:=λi j h1 h2 h3=>by
 rw[e i h1 (by lia),e j (by lia) h3]
 exact h i j h1 h2 h3
def NI (c:Z8->Z8->Bool)(a:Array Z8)(lo hi:Nat):Prop:=∀i j,lo<=i->i<=j->j<hi->le c (el a j) (el a i)
def cV {i j:Nat}(hj:j<=a.size)(k:Nat):el (mirror a i j ((j-i) / 2)) k=if i<=k/\k<j then el a (i+j-1-k) else el a k:=by
 have e:=getElem?_mirror_all (i:=i) hj k
 by_cases h:i<=k/\k<j
 ·rw[χ h]at e ⊢
  exact f6 e
 ·rw[ω h]at e ⊢
  exact f6 e
def gT {i j:Nat}(hj:j<=a.size):Rg a (mirror a i j ((j-i) / 2)) i j:={mirror_perm _ _ _ _,λk h=>by rw[cV hj,ω (by lia)]}
def sF {i j:Nat}(hj:j<=a.size)(h:NI c a i j):SR c (mirror a i j ((j-i) / 2)) i j:=λx y h1 h2 h3=>by
 rw[cV hj,cV hj,χ (by lia),χ (by lia)]
 exact h _ _ (by lia) (by lia) (by lia)
def mM {lo i j:Nat}(R5:lo<=i)(hj:j<=a.size)(h:NI c a lo j)(he:∀x y,i<=x->x<j->i<=y->y<j->le c (el a x) (el a y)):NI c (mirror a i j ((j-i) / 2)) lo j:=λx y h1 h2 h3=>by
 rw[cV hj,cV hj]
 by_cases hx:i<=x/\x<j
 ·rw[χ hx,χ (by lia)]
  exact he _ _ (by lia) (by lia) (by lia) (by lia)
 ·rw[ω hx]
  by_cases hy:i<=y/\y<j
  ·rw[χ hy];exact h _ _ (by lia) (by lia) (by lia)
  ·rw[ω hy];exact h _ _ h1 h2 h3
def SR.snoc {lo n:Nat}(O:da c)(h:SR c a lo (lo+n))(h1:0<n)(hn:le c (el a (lo+n-1)) (el a (lo+n))):SR c a lo (lo+(n+1)):=λi j h2 h3 h4=>by
 by_cases hj:j<lo+n
 ·exact h i j h2 h3 hj
 ·obtain rfl:j=lo+n:=by lia
  by_cases hi:i<lo+n
  ·exact O.trans (h i (lo+n-1) h2 (by lia) (by lia)) hn
  ·obtain rfl:i=lo+n:=by lia
   exact O.refl _
def NI.snoc {lo n:Nat}(O:da c)(h:NI c a lo (lo+n))(h1:0<n)(hn:le c (el a (lo+n)) (el a (lo+n-1))):NI c a lo (lo+(n+1)):=λi j h2 h3 h4=>by
 by_cases hj:j<lo+n
 ·exact h i j h2 h3 hj
 ·obtain rfl:j=lo+n:=by lia
  by_cases hi:i<lo+n
  ·exact O.trans hn (h i (lo+n-1) h2 (by lia) (by lia))
  ·obtain rfl:i=lo+n:=by lia
   exact O.refl _
def SR.one {lo:Nat}(O:da c):SR c a lo (lo+1):=λi j h1 h2 h3=>by
 obtain rfl:i=j:=by lia
 exact O.refl _
end
structure nj (κ:acs)(a₀:Array Z8)(st:aaE):Prop where
 kind:kindOf st=κ
 fail:acI st=ξ
 perm:(aaJ st).Perm a₀
section
variable {prog:Z6}{w:aam}{A:aaX}{E:ZW->ZZ->Prop}{s:ZZ}{κ:acs}{c:Z8->Z8->Bool}{a₀:Array Z8}
def nj.size {st:aaE}(h:nj κ a₀ st):(aaJ st).size=a₀.size:=h.perm.size_eq
def nj.mem {st:aaE}(h:nj κ a₀ st){i:Nat}(hi:i<a₀.size):el (aaJ st) i∈a₀.toList:=by
 have h1:i<(aaJ st).size:=by rw[h.size];exact hi
 refine(aci.mp h.perm).mem_iff.mp ?_;have:=l6 h1;rw[<- aan]at this;exact aaF this
def nj.set {st:aaE}{b:Array Z8}{lo hi:Nat}(h:nj κ a₀ st)(r:Rg (aaJ st) b lo hi):nj κ a₀ (abd st b):={h.kind,h.fail,r.perm.trans h.perm}
def tH (L:iI prog w A E s κ c (·∈a₀.toList)){st:aaE}{i j:Nat}{Q:Option Bool->aaE->Prop}(h:nj κ a₀ st)(hi:i<a₀.size)(hj:j<a₀.size)(q:Q (ν (c (el (aaJ st) i) (el (aaJ st) j))) st):
  wpS (Ψ prog w) A E s (ltAt' i j) Q st:=by
 rw[ltAt'_eq];refine aad (adk ?_);exact aad (aV (by rw[h.size];exact hi) (aad (aV (by rw[h.size];exact hj) (L _ _ st Q (h.mem hi) (h.mem hj) h.kind q))))
def k7 (L:iI prog w A E s κ c (·∈a₀.toList)){st:aaE}{b:Array Z8}{i j lo hi:Nat}{Q:Option Bool->aaE->Prop}(h:nj κ a₀ st)(R:Rg (aaJ st) b lo hi)(hi:i<a₀.size)(hj:j<a₀.size)(q:Q (ν (c (el b i) (el b j))) (abd st b)):
  wpS (Ψ prog w) A E s (ltAt' i j) Q (abd st b):=tH L (h.set R) hi hj q
def k6 {st:aaE}{i j:Nat}{Q:Unit->aaE->Prop}(q:Q () (abd st (mirror (aaJ st) i j ((j-i) / 2)))):wpS (Ψ prog w) A E s (reverseSlice' i j) Q st:=by
 rw[reverseSlice'_eq];exact aca q
def CA (O:da c)(L:iI prog w A E s κ c (·∈a₀.toList)){st:aaE}{lo gQ:Nat}{Q:Option Nat->aaE->Prop}(h0:nj κ a₀ st)(h1:1<=gQ)(hn:lo+gQ<=a₀.size)
  (h:∀n b,1<=n->n<=gQ->Rg (aaJ st) b lo (lo+gQ)->SR c b lo (lo+n)->Q (ν n) (abd st b)):wpS (Ψ prog w) A E s (countRun' lo gQ) Q st:=by
 rw[countRun'_eq];dsimp only;refine aad (abF (aa7 (I:=λx r aI=>aI=st/\∃n,r=(ξ,n)/\n=x/\SR c (aaJ st) lo (lo+n))
  (Q:=λr aI=>aI=st/\∃n,r=(ξ,n)/\1<=n/\n<=gQ/\SR c (aaJ st) lo (lo+n)/\(n=gQ\/(n<gQ/\c (el (aaJ st) (lo+n)) (el (aaJ st) (lo+n-1))=ζ))) ?_ ?_ ?_) ?_)
 ·rintro x r aI JP hx ⟨rfl,n,rfl,rfl,hs⟩;dsimp only;refine aad (tH L h0 (by lia) (by lia) ?_)
  dsimp only;cases hc:c (el (aaJ aI) (lo+n)) (el (aaJ aI) (lo+n-1))with
  |true =>
   rw[χ rfl];exact aal {rfl,n,rfl,JP,by lia,hs,.inr {by lia,hc}}
  |false =>
   rw[ω (by simp)]
   exact aal {rfl,n+1,rfl,rfl,hs.snoc O JP hc}
 ·rintro r aI ⟨rfl,n,rfl,hx,hs⟩;exact{rfl,n,rfl,by lia,by lia,hs,.inl (by lia)}
 ·exact{rfl,1,rfl,rfl,SR.one O}
 rintro r aI ⟨e0,n,rfl,WB,NC,hs,hc⟩;rw[e0];dsimp only
 by_cases UN:(n==gQ)=ζ
 ·rw[χ UN];exact aal (h n (aaJ st) WB NC Rg.refl hs)
 rw[ω UN];have Ys:n≠gQ:=by simpa using UN
 have hc:c (el (aaJ st) (lo+n)) (el (aaJ st) (lo+n-1))=ζ:=by
  rcases hc with q|q
  ·lia
  ·exact q.2
 refine(λ(key:∀b,Rg (aaJ st) b lo (lo+gQ)->NI c b lo (lo+(n+1))->wpS (Ψ prog w) A E s ?cont Q (abd st b))=>?main) ?key
 case main =>
  by_cases h2:n>1
  ·rw[χ h2];refine aad (tH L h0 (by lia) (by lia) ?_)
   dsimp only;cases hr:c (el (aaJ st) lo) (el (aaJ st) (lo+n-1))with
   |true =>
    rw[χ rfl];exact aal (h n (aaJ st) WB NC Rg.refl hs)
   |false =>
    rw[ω (by simp)]
    refine aad (k6 ?_);have hz:lo+n<=(aaJ st).size:=by have:=h0.size;lia
    have R0:Rg (aaJ st) (mirror (aaJ st) lo (lo+n) ((lo+n-lo) / 2)) lo (lo+gQ):=(gT hz).mono (ZX _) (by lia)
    have all:∀u v,lo<=u->u<lo+n->lo<=v->v<lo+n->le c (el (aaJ st) u) (el (aaJ st) v):=λu v h1 h2 h3 h4 =>
     O.trans (hs u (lo+n-1) h1 (by lia) (by lia)) (O.trans hr (hs lo v (ZX _) h3 h4))
    have N0:NI c (mirror (aaJ st) lo (lo+n) ((lo+n-lo) / 2)) lo (lo+(n+1)):=by
     refine NI.snoc O (mM (ZX _) hz (λu v h1 h2 h3=>all v u (by lia) (by lia) h1 (by lia)) λu v h1 h2 h3 h4=>all u v h1 h2 h3 h4) (by lia) ?_
     rw[cV hz,cV hz,ω (by lia),χ (by lia)]
     exact O.trans (O.of_lt hc) (all _ _ (by lia) (by lia) (by lia) (by lia))
    exact key _ R0 N0
  ·rw[ω h2];have N0:NI c (aaJ st) lo (lo+(n+1)):=NI.snoc O (λu v h1 h2 h3=>by
    obtain rfl:u=v:=by lia
    exact O.refl _) (by lia) (O.of_lt hc)
   show wpS _ _ _ _ _ Q (abd st (aaJ st));exact key _ Rg.refl N0
 case key =>
  intro b0 R0 N0;refine aad (wpS_lift (acb {rfl,?_}));refine aad (abF (aa7 (I:=λx r aI=>∃b n nG,aI=abd st b/\r=(ξ,n,nG)/\n=x/\Rg (aaJ st) b lo (lo+gQ)/\NI c b lo (lo+n)/\nG<n/\(∀u v,lo+n-1-nG<=u->u<lo+n->lo+n-1-nG<=v->v<lo+n->le c (el b u) (el b v)))
   (Q:=λr aI=>∃b n nG,aI=abd st b/\r=(ξ,n,nG)/\1<=n/\n<=gQ/\Rg (aaJ st) b lo (lo+gQ)/\NI c b lo (lo+n)/\nG<n/\(∀u v,lo+n-1-nG<=u->u<lo+n->lo+n-1-nG<=v->v<lo+n->le c (el b u) (el b v))) ?_ ?_ ?_) ?_)
  ·rintro x r aI JP hx ⟨b,n',nG,rfl,rfl,rfl,R,N,hq,he⟩;dsimp only;refine aad (k7 L h0 R (by lia) (by lia) ?_)
   dsimp only;cases oM:c (el b (lo+n')) (el b (lo+n' - 1))with
   |true =>
    rw[χ rfl]
    by_cases E8:nG>0
    ·rw[χ E8];refine aad (k6 (aal ?_));have hz:lo+n'<=b.size:=by have:=R.size;have:=h0.size;lia
     refine{mirror b (lo+n' - (nG+1)) (lo+n') ((lo+n' - (lo+n' - (nG+1))) / 2),n'+1,0,rfl,rfl,rfl,R.trans ((gT hz).mono (by lia) (by lia)),?_,by lia,?_}
     ·refine NI.snoc O (mM (by lia) hz N λu v h1 h2 h3 h4=>he u v (by lia) h2 (by lia) h4) (by lia) ?_
      rw[cV hz,cV hz,ω (by lia),χ (by lia)]
      exact O.trans (O.of_lt oM) (he _ _ (by lia) (by lia) (by lia) (by lia))
     ·intro u v h1 h2 h3 h4;obtain rfl:u=v:=by lia
      exact O.refl _
    ·rw[ω E8];refine aal {b,n'+1,0,rfl,rfl,rfl,R,N.snoc O (by lia) (O.of_lt oM),by lia,?_}
     intro u v h1 h2 h3 h4;obtain rfl:u=v:=by lia
     exact O.refl _
   |false =>
    rw[ω (by simp)]
    refine aad (k7 L h0 R (by lia) (by lia) ?_)
    dsimp only;cases uL:c (el b (lo+n' - 1)) (el b (lo+n'))with
    |true =>
     rw[χ rfl];exact aal {b,n',nG,rfl,rfl,by lia,by lia,R,N,hq,he}
    |false =>
     rw[ω (by simp)]
     refine aal {b,n'+1,nG+1,rfl,rfl,rfl,R,N.snoc O (by lia) uL,by lia,?_}
     have hl:∀u,lo+n' - 1-nG<=u->u<lo+(n'+1)->le c (el b u) (el b (lo+n'))/\le c (el b (lo+n')) (el b u):=λu h1 h2=>by
      by_cases hu:u<lo+n'
      ·exact{O.trans (he u (lo+n' - 1) h1 hu (by lia) (by lia)) oM,O.trans uL (he (lo+n' - 1) u (by lia) (by lia) h1 hu)}
      ·obtain rfl:u=lo+n':=by lia
       exact{O.refl _,O.refl _}
     intro u v h1 h2 h3 h4;exact O.trans (hl u (by lia) h2).1 (hl v (by lia) h4).2
  ·rintro r aI ⟨b,n',nG,rfl,rfl,hx,R,N,hq,he⟩;exact{b,n',nG,rfl,rfl,by lia,by lia,R,N,hq,he}
  ·refine{_,n+1,0,rfl,rfl,rfl,R0,N0,by lia,?_}
   intro u v h1 h2 h3 h4;obtain rfl:u=v:=by lia
   exact O.refl _
  rintro r aI ⟨b,n',nG,rfl,rfl,Yu,Yt,RB,NB,hq,he⟩;dsimp only
  by_cases E8:nG>0
  ·rw[χ E8];refine aad (k6 ?_);have hz:lo+n'<=b.size:=by have:=RB.size;have:=h0.size;lia
   have NB:=mM (c:=c) (i:=lo+n' - (nG+1)) (by lia) hz NB λu v h1 h2 h3 h4=>he u v (by lia) h2 (by lia) h4
   have RB:=RB.trans ((gT (i:=lo+n' - (nG+1)) hz).mono (by lia) (by lia:lo+n'<=lo+gQ))
   show wpS _ _ _ _ _ Q (abd st (mirror b (lo+n' - (nG+1)) (lo+n') ((lo+n' - (lo+n' - (nG+1))) / 2)));generalize mirror b (lo+n' - (nG+1)) (lo+n') ((lo+n' - (lo+n' - (nG+1))) / 2)=b1 at NB RB;refine aad (k6 ?_);have R2:Rg (aaJ st) (mirror b1 lo (lo+n') ((lo+n' - lo) / 2)) lo (lo+gQ):=RB.trans ((gT (by have:=RB.size;have:=h0.size;lia)).mono (ZX _) (by lia))
   have S2:SR c (mirror b1 lo (lo+n') ((lo+n' - lo) / 2)) lo (lo+n'):=sF (by have:=RB.size;have:=h0.size;lia) NB
   show wpS _ _ _ _ _ Q (abd st (mirror b1 lo (lo+n') ((lo+n' - lo) / 2)));generalize mirror b1 lo (lo+n') ((lo+n' - lo) / 2)=b2 at R2 S2;refine aad (abF (aa7 (I:=λx r aI=>aI=abd st b2/\∃m,r=(ξ,m)/\m=x/\SR c b2 lo (lo+m))
    (Q:=λr aI=>aI=abd st b2/\∃m,r=(ξ,m)/\1<=m/\m<=gQ/\SR c b2 lo (lo+m)) ?_ ?_ ?_) ?_)
   ·rintro x r aI JP hx ⟨rfl,m,rfl,rfl,hs⟩;dsimp only;refine aad (k7 L h0 R2 (by lia) (by lia) ?_)
    dsimp only;cases hc:c (el b2 (lo+m)) (el b2 (lo+m-1))with
    |true =>
     rw[χ rfl];exact aal {rfl,m,rfl,by lia,by lia,hs}
    |false =>
     rw[ω (by simp)]
     exact aal {rfl,m+1,rfl,rfl,hs.snoc O (by lia) hc}
   ·rintro r aI ⟨rfl,m,rfl,hx,hs⟩;exact{rfl,m,rfl,by lia,by lia,hs}
   ·exact{(rfl),n',rfl,rfl,S2}
   rintro r aI ⟨rfl,m,rfl,R4,MO,hs⟩;exact aal (h m b2 R4 MO R2 hs)
  ·rw[ω E8];refine aad (k6 ?_);have R2:Rg (aaJ st) (mirror b lo (lo+n') ((lo+n' - lo) / 2)) lo (lo+gQ):=RB.trans ((gT (by have:=RB.size;have:=h0.size;lia)).mono (ZX _) (by lia))
   have S2:SR c (mirror b lo (lo+n') ((lo+n' - lo) / 2)) lo (lo+n'):=sF (by have:=RB.size;have:=h0.size;lia) NB
   show wpS _ _ _ _ _ Q (abd st (mirror b lo (lo+n') ((lo+n' - lo) / 2)));generalize mirror b lo (lo+n') ((lo+n' - lo) / 2)=b2 at R2 S2;refine aad (abF (aa7 (I:=λx r aI=>aI=abd st b2/\∃m,r=(ξ,m)/\m=x/\SR c b2 lo (lo+m))
    (Q:=λr aI=>aI=abd st b2/\∃m,r=(ξ,m)/\1<=m/\m<=gQ/\SR c b2 lo (lo+m)) ?_ ?_ ?_) ?_)
   ·rintro x r aI JP hx ⟨rfl,m,rfl,rfl,hs⟩;dsimp only;refine aad (k7 L h0 R2 (by lia) (by lia) ?_)
    dsimp only;cases hc:c (el b2 (lo+m)) (el b2 (lo+m-1))with
    |true =>
     rw[χ rfl];exact aal {rfl,m,rfl,by lia,by lia,hs}
    |false =>
     rw[ω (by simp)]
     exact aal {rfl,m+1,rfl,rfl,hs.snoc O (by lia) hc}
   ·rintro r aI ⟨rfl,m,rfl,hx,hs⟩;exact{rfl,m,rfl,by lia,by lia,hs}
   ·exact{(rfl),n',rfl,rfl,S2}
   rintro r aI ⟨rfl,m,rfl,R4,MO,hs⟩;exact aal (h m b2 R4 MO R2 hs)
end
section
variable {c:Z8->Z8->Bool}{a:Array Z8}
def m8 {src d:Nat}(hs:src<a.size)(hd:d<=src)(k:Nat):el (bubble a src d) k=if k=src-d then el a src else if src-d<k/\k<=src then el a (k-1) else el a k:=by
 have e:=getElem?_bubble hs d hd k
 by_cases h1:k=src-d
 ·rw[χ h1]at e ⊢
  exact f6 e
 ·rw[ω h1]at e ⊢
  by_cases h2:src-d<k/\k<=src
  ·rw[χ h2]at e ⊢
   exact f6 e
  ·rw[ω h2]at e ⊢
   exact f6 e
def BZ {lo k l:Nat}(O:da c)(hk:lo+k<a.size)(hl:l<=k)(h:SR c a lo (lo+k))(h1:∀i,i<l->le c (el a (lo+i)) (el a (lo+k)))(h2:∀i,l<=i->i<k->le c (el a (lo+k)) (el a (lo+i))):
  SR c (bubble a (lo+k) (lo+k-(lo+l))) lo (lo+(k+1)):=λi j g1 g2 g3=>by
 rw[m8 hk (by lia),m8 hk (by lia),show lo+k-(lo+k-(lo+l))=lo+l by lia]
 have q1:∀i,lo<=i->i<lo+l->le c (el a i) (el a (lo+k)):=λi x y=>by
  have:=h1 (i-lo) (by lia)
  rwa [show lo+(i-lo)=i by lia]at this
 have q2:∀i,lo+l<=i->i<lo+k->le c (el a (lo+k)) (el a i):=λi x y=>by
  have:=h2 (i-lo) (by lia) (by lia)
  rwa [show lo+(i-lo)=i by lia]at this
 by_cases ei:i=lo+l
 ·rw[χ ei]
  by_cases ej:j=lo+l
  ·rw[χ ej];exact O.refl _
  ·rw[ω ej,χ (by lia)]
   exact q2 _ (by lia) (by lia)
 ·rw[ω ei]
  by_cases ej:j=lo+l
  ·rw[χ ej,ω (by lia)]
   exact q1 _ (by lia) (by lia)
  ·rw[ω ej]
   by_cases fi:lo+l<i/\i<=lo+k
   ·rw[χ fi,χ (by lia)]
    exact h _ _ (by lia) (by lia) (by lia)
   ·rw[ω fi]
    by_cases fj:lo+l<j/\j<=lo+k
    ·rw[χ fj];exact h _ _ (by lia) (by lia) (by lia)
    ·rw[ω fj];exact h _ _ (by lia) (by lia) (by lia)
def B4 {src d:Nat}(hs:src<a.size)(hd:d<=src):Rg a (bubble a src d) (src-d) (src+1):=⟨bubble_perm _ _ _,λk h=>by
 rw[m8 hs hd,ω (by lia),ω (by lia)]⟩
end
section
variable {prog:Z6}{w:aam}{A:aaX}{E:ZW->ZZ->Prop}{s:ZZ}{κ:acs}{c:Z8->Z8->Bool}{a₀:Array Z8}
def Kx (O:da c)(L:iI prog w A E s κ c (·∈a₀.toList)){st:aaE}{lo n ok:Nat}{Q:Bool->aaE->Prop}(h0:nj κ a₀ st)(b9:ok<=n)(h1:1<=n)(hn:lo+n<=a₀.size)(hs:SR c (aaJ st) lo (lo+ok))
  (h:∀b,Rg (aaJ st) b lo (lo+n)->SR c b lo (lo+n)->Q ζ (abd st b)):wpS (Ψ prog w) A E s (binarySort' lo n ok) Q st:=by
 rw[binarySort'_eq];refine aad (abF (aa7 (I:=λk r aI=>r=(ξ,())/\k<=n/\∃b,aI=abd st b/\Rg (aaJ st) b lo (lo+n)/\SR c b lo (lo+k))
  (Q:=λr aI=>r=(ξ,())/\∃b,aI=abd st b/\Rg (aaJ st) b lo (lo+n)/\SR c b lo (lo+n)) ?_ ?_ ?_) ?_)
 ·rintro k r aI Ci hk ⟨rfl,_,b,rfl,R,Bz⟩;dsimp only;have hz:b.size=a₀.size:=R.size.trans h0.size;refine aad (abF (aa7 (I:=λx r aI=>aI=abd st b/\∃l u,r=(ξ,l,u)/\l<=u/\u<=k/\u-l<=k-x/\(∀i,i<l->le c (el b (lo+i)) (el b (lo+k)))/\(∀i,u<=i->i<k->le c (el b (lo+k)) (el b (lo+i))))
   (Q:=λr aI=>aI=abd st b/\∃l,r=(ξ,l,l)/\l<=k/\(∀i,i<l->le c (el b (lo+i)) (el b (lo+k)))/\(∀i,l<=i->i<k->le c (el b (lo+k)) (el b (lo+i)))) ?_ ?_ ?_) ?_)
  ·rintro x r aI _ hx ⟨rfl,l,u,rfl,g1,g2,g3,g4,g5⟩;dsimp only
   by_cases WD:l >= u
   ·rw[χ WD];obtain rfl:l=u:=by lia
    exact aal {(rfl),l,rfl,g2,g4,g5}
   ·rw[ω WD];refine aad (k7 L h0 R (by lia) (by lia) ?_)
    dsimp only;cases hc:c (el b (lo+k)) (el b (lo+(l+u) / 2))with
    |true =>
     rw[χ rfl];exact aal {rfl,l,_,rfl,by lia,by lia,by lia,g4,λi h1 h2=>O.trans (O.of_lt hc) (Bz _ _ (by lia) (by lia) (by lia))}
    |false =>
     rw[ω (by simp)]
     exact aal {rfl,_,u,rfl,by lia,by lia,by lia,λi h1=>O.trans (Bz _ _ (by lia) (by lia) (by lia)) (show le c (el b (lo+(l+u) / 2)) (el b (lo+k)) from hc),g5}
  ·rintro r aI ⟨rfl,l,u,rfl,g1,g2,g3,g4,g5⟩;obtain rfl:l=u:=by lia
   exact{(rfl),l,rfl,g2,g4,g5}
  ·exact{rfl,0,k,rfl,aab _,ZX _,by lia,λi hi=>by lia,λi h1 h2=>by lia}
  rintro r aI ⟨rfl,l,rfl,g2,g4,g5⟩;dsimp only;rw[moveDown'_eq];refine aad (aca (aal {rfl,by lia,_,rfl,R.trans ((B4 (a:=b) (by lia) (by lia)).mono (by lia) (by lia)),BZ (a:=b) O (by lia) g2 Bz g4 g5}))
 ·rintro r aI ⟨rfl,hx,b,rfl,R,Bz⟩;rw[show max (max ok 1) n=n by lia]at Bz
  exact{(rfl),b,rfl,R,Bz}
 ·refine{rfl,by lia,aaJ st,rfl,Rg.refl,?_}
  by_cases h2:ok=0
  ·subst h2;exact SR.one O
  ·rw[show max ok 1=ok by lia]
   exact hs
 ·rintro r aI ⟨rfl,b,rfl,R,Bz⟩;exact aal (h b R Bz)
theorem v_ (base:Nat):∀(l:List Z8) (off:Nat) (a:Array Z8),base+off+l.length<=a.size->∀k:Nat,
  ((l.zipIdx off).foldl (λx (z:Z8×Nat)=>x.setIfInBounds (base+z.2) z.1) a)[k]?=if base+off<=k/\k<base+off+l.length then l[k-(base+off)]? else a[k]?
 |[],off,a,_,k=>by
  rw[ω (by rw[acD];lia)]
  rfl
 |x::l,off,a,h,k=>by
  rw[aaa]at h;rw[List.zipIdx_cons,ab3,v_ base l (off+1) _ (by rw[adB];lia)]
  by_cases h1:base+(off+1)<=k/\k<base+(off+1)+l.length
  ·rw[χ h1,χ (by rw[aaa];lia),show k-(base+off)=k-(base+(off+1))+1 by lia,acG]
  ·rw[ω h1,Array.getElem?_setIfInBounds]
   by_cases h2:base+off=k
   ·subst h2;rw[χ rfl,χ (by lia),χ (by rw[aaa];lia),ac6]
    rfl
   ·rw[ω h2,ω (by rw[aaa];lia)]
def GD (a:Array Z8)(base:Nat)(l:List Z8):Array Z8:=l.zipIdx.foldl (λx (z:Z8×Nat)=>x.setIfInBounds (base+z.2) z.1) a
def tG {a:Array Z8}{base:Nat}{l:List Z8}(h:base+l.length<=a.size)(k:Nat):(GD a base l)[k]?=if base<=k/\k<base+l.length then l[k-base]? else a[k]?:=v_ base l 0 a h k
def Ct {a:Array Z8}{base:Nat}{l:List Z8}(h:base+l.length<=a.size):(GD a base l).toList=a.toList.take base++(l++a.toList.drop (base+l.length)):=by
 apply ab_;intro k;rw[aan,tG h];have hz:a.toList.length=a.size:=Z5
 by_cases h1:base<=k/\k<base+l.length
 ·rw[χ h1,aa4 (by rw[aaw];lia),aaw,abl (by lia)]
  congr 1
  lia
 ·rw[ω h1]
  by_cases h2:k<base
  ·rw[abl (by rw[aaw];lia),acw h2,aan]
  ·rw[aa4 (by rw[aaw];lia),aaw,aa4 (by lia),adb,aan]
   congr 1
   lia
def K3 (a:Array Z8)(base m:Nat):a.toList=a.toList.take base++((a.toList.drop base).take m++a.toList.drop (base+m)):=by
 have h1:=(abC base a.toList).symm;have h2:=(abC m (a.toList.drop base)).symm;rw[List.drop_drop]at h2;rw[<- h2];exact h1
def Kr {a:Array Z8}{base:Nat}{l:List Z8}(h:base+l.length<=a.size)(hp:l.Perm ((a.toList.drop base).take l.length)):Rg a (GD a base l) base (base+l.length) where
 perm:=by
  rw[aci,Ct h];refine List.Perm.trans ?_ (List.Perm.of_eq (K3 a base l.length).symm);exact List.Perm.append_left _ (hp.append_right _)
 out:=λk hk=>f6 (by rw[tG h,ω (by lia)])
end
section
variable {prog:Z6}{w:aam}{A:aaX}{E:ZW->ZZ->Prop}{s:ZZ}{κ:acs}{c:Z8->Z8->Bool}{a₀:Array Z8}
def GN {σ:Type}{M:Model}{Q:PUnit->σ->Prop}{st aI:σ}(h:Q ⟨⟩ aI):wpS M A E s (set aI:StateT σ Sem PUnit) Q st:=by
 unfold wpS;rw[StateT.run_set];exact Z0 {(rfl),h}
def yG {a:Array Z8}{lo hi i:Nat}(h:i<hi-lo)(hh:hi<=a.size):el (a.extract lo hi) i=el a (lo+i) :=
 f6 (by rw[Array.getElem?_extract,χ (by lia)])
def qu {a:Array Z8}{lo hi:Nat}(hh:hi<=a.size):(a.extract lo hi).size=hi-lo:=by
 rw[Array.size_extract];lia
def zO {a:Array Z8}{lo hi:Nat}(hh:hi<=a.size){z:Z8}(h:z∈(a.extract lo hi).toList):∃u,lo<=u/\u<hi/\z=el a u:=by
 obtain⟨i,iY⟩:=acg h;rw[aan]at iY;have gV:i<(a.extract lo hi).size:=by
  rcases aa5 i (a.extract lo hi).size with q|q
  ·exact q
  ·rw[abM q]at iY;cases iY
 rw[qu hh]at gV;exact{lo+i,by lia,by lia,by rw[<- yG gV hh,Am iY]}
def xw (O:da c)(L:iI prog w A E s κ c (·∈a₀.toList)){st:aaE}{i sa na pw sb nb Tr:Nat}{Q:Bool->aaE->Prop}(h0:nj κ a₀ st)(p1:(aav st)[i]?=ν (sa,na,pw))(p2:(aav st)[i+1]?=ν (sb,nb,Tr))
  (Bz:sb=sa+na) (ZG:1<=na) (ZF:1<=nb) (hz:sb+nb<=a₀.size) (s1:SR c (aaJ st) sa sb) (s2:SR c (aaJ st) sb (sb+nb))
  (h:∀aI,kindOf aI=κ->acI aI=ξ->aav aI=((aav st).setIfInBounds i (sa,na+nb,pw)).eraseIdxIfInBounds (i+1)->Rg (aaJ st) (aaJ aI) sa (sb+nb)->SR c (aaJ aI) sa (sb+nb)->Q ζ aI) :
  wpS (Ψ prog w) A E s (mergeAt' i) Q st:=by
 rw[vI];refine aad (adk ?_);rw[p1,p2];dsimp only;refine aad (GN ?_);have hsz:=h0.size;have hm:∀{j},j<a₀.size->el (aaJ st) j∈a₀.toList:=λhj=>h0.mem hj;generalize ha:aaJ st=a at *
 have AR:kindOf (acS st (((aav st).setIfInBounds i (sa,na+nb,pw)).eraseIdxIfInBounds (i+1)))=κ:=h0.kind;have K1:acI (acS st (((aav st).setIfInBounds i (sa,na+nb,pw)).eraseIdxIfInBounds (i+1)))=ξ:=h0.fail;have K2:aaJ (acS st (((aav st).setIfInBounds i (sa,na+nb,pw)).eraseIdxIfInBounds (i+1)))=a:=ha;have Og:aav (acS st (((aav st).setIfInBounds i (sa,na+nb,pw)).eraseIdxIfInBounds (i+1)))=((aav st).setIfInBounds i (sa,na+nb,pw)).eraseIdxIfInBounds (i+1):=rfl;generalize hP:((aav st).setIfInBounds i (sa,na+nb,pw)).eraseIdxIfInBounds (i+1)=P at *
 generalize acS st P=Oh at *
 refine aad (aV (by lia) ?_)
 refine aad (fC O L AR (hm (by lia)) (λx hx=>hm (by lia)) (by lia) (λx y h1 h2 h3=>s1 x y h1 h2 (by lia)) (by lia) λk k1 k2 k3=>?_)
 dsimp only;have g0:∀x,sa<=x->x<sa+k->le c (el a x) (el a sb):=λx h1 h2=>by
  have:=k2 (x-sa) (by lia)
  unfold gb at this;rw[ω (by simp),adv,show sa+(x-sa)=x by lia]at this
  exact this
 by_cases e1:(na-k==0)=ζ
 ·rw[χ e1];have e1:na-k=0:=by simpa using e1
  refine aal (h Oh AR K1 Og (by rw[K2];exact Rg.refl) ?_)
  rw[K2];intro x y h1 h2 h3
  by_cases hx:x<sb
  ·by_cases hy:y<sb
   ·exact s1 x y h1 h2 hy
   ·exact O.trans (g0 x h1 (by lia)) (s2 sb y (ZX _) (by lia) h3)
  ·exact s2 x y (by lia) h2 h3
 rw[ω e1];have e1:na-k≠0:=by simpa using e1
 have g1:c (el a sb) (el a (sa+k))=ζ:=by
  have:=k3 k (ZX _) (by lia)
  unfold gb at this;rw[ω (by simp),adg]at this
  exact this
 refine aad (aV (by lia) ?_)
 refine aad (fC O L AR (hm (by lia)) (λx hx=>hm (by lia)) (by lia) (λx y h1 h2 h3=>s2 x y h1 h2 (by lia)) (by lia) λm m1 m2 m3=>?_)
 dsimp only;rw[show sa+k+(na-k)-1=sb-1 by lia]at m2 m3
 have g2:∀x,sb<=x->x<sb+m->c (el a x) (el a (sb-1))=ζ:=λx h1 h2=>by
  have:=m2 (x-sb) (by lia)
  unfold gb at this;rw[χ rfl,show sb+(x-sb)=x by lia]at this
  exact this
 have g3:∀x,sb+m<=x->x<sb+nb->le c (el a (sb-1)) (el a x):=λx h1 h2=>by
  have:=m3 (x-sb) (by lia) (by lia)
  unfold gb at this;rw[χ rfl,show sb+(x-sb)=x by lia]at this
  exact this
 by_cases e2:(m==0)=ζ
 ·exfalso
  have e2:m=0:=by simpa using e2
  have:=O.trans (s1 (sa+k) (sb-1) (by lia) (by lia) (by lia)) (g3 sb (by lia) (by lia))
  exact Η (g1.symm.trans this) (by simp)
 rw[ω e2];have e2:m≠0:=by simpa using e2
 have zx:(a.extract (sa+k) sb).size=sb-(sa+k):=qu (by lia)
 have zy:(a.extract sb (sb+m)).size=m:=by rw[qu (by lia)];lia
 have ex:∀{t},t<sb-(sa+k)->el (a.extract (sa+k) sb) t=el a (sa+k+t):=λht=>yG ht (by lia)
 have ey:∀{t},t<m->el (a.extract sb (sb+m)) t=el a (sb+t):=λht=>yG (by lia) (by lia)
 have fin:∀(out:Array Z8) (iJ:aaE),nu Oh iJ->Gd c (a.extract (sa+k) sb) (a.extract sb (sb+m)) out.toList ->
   wpS (Ψ prog w) A E s (do
    modify λs2=>abd s2 (out.toList.zipIdx.foldl (λx z=>match z with|(p,j)=>x.setIfInBounds (sa+k+j) p) (aaJ s2))
    let y <- get
    pure (acI y).isNone:StateT aaE Sem Bool) Q iJ:=by
  rintro out iJ e ⟨gp,gs⟩;refine aad (aca (aad (adk (aal ?_))));show Q (acI iJ).isNone (abd iJ (GD (aaJ iJ) (sa+k) out.toList));rw[e.fail,K1,e.arr,K2];have zo:out.toList.length=sb-(sa+k)+m:=by
   rw[gp.length_eq,aag,Z5,Z5,zx,zy]
  have hb:sa+k+out.toList.length<=a.size:=by lia
  have xy:(a.toList.drop (sa+k)).take out.toList.length=(a.extract (sa+k) sb).toList++(a.extract sb (sb+m)).toList:=by
   rw[c8,c8,zo,show sb+m-sb=m by lia,List.take_add,List.drop_drop,show sa+k+(sb-(sa+k))=sb by lia]
  have R:Rg a (GD a (sa+k) out.toList) (sa+k) (sa+k+out.toList.length):=Kr hb (by rw[xy];exact gp)
  refine h _ (e.kind.trans AR) (e.fail.trans K1) (e.pend.trans Og) (R.mono (by lia) (by lia)) ?_
  show SR c (GD a (sa+k) out.toList) sa (sb+nb);have MM:∀t,sa+k<=t->t<sb+m->∃z,out.toList[t-(sa+k)]?=ν z/\el (GD a (sa+k) out.toList) t=z/\((∃u,sa+k<=u/\u<sb/\z=el a u)\/∃u,sb<=u/\u<sb+m/\z=el a u):=by
   intro t h1 h2;have hl:t-(sa+k)<out.toList.length:=by lia
   refine{out.toList[t-(sa+k)],Z4 hl,Am (by rw[tG hb,χ (by lia)];exact Z4 hl),?_}
   have nU:=gp.mem_iff.mp (abO hl);rcases Z9.mp nU with q|q
   ·exact .inl (zO (by lia) q)
   ·exact .inr (zO (by lia) q)
  have WZ:∀t,t<sa+k->el (GD a (sa+k) out.toList) t=el a t:=λt ht=>R.out t (.inl ht);have Sd:∀t,sb+m<=t->el (GD a (sa+k) out.toList) t=el a t:=λt ht=>R.out t (.inr (by lia))
  intro x y h1 h2 h3
  by_cases hx:x<sa+k
  ·rw[WZ x hx]
   by_cases hy:y<sa+k
   ·rw[WZ y hy];exact s1 x y h1 h2 (by lia)
   ·by_cases T6:y<sb+m
    ·obtain⟨z,_,ez,T4⟩:=MM y (by lia) T6
     rw[ez];rcases T4 with⟨u,u1,u2,rfl⟩|⟨u,u1,u2,rfl⟩
     ·exact s1 x u h1 (by lia) u2
     ·exact O.trans (g0 x h1 hx) (s2 sb u (ZX _) u1 (by lia))
    ·rw[Sd y (by lia)]
     exact O.trans (g0 x h1 hx) (s2 sb y (ZX _) (by lia) h3)
  ·by_cases Po:x<sb+m
   ·obtain⟨z,iz,ez,T4⟩:=MM x (by lia) Po
    rw[ez]
    by_cases T6:y<sb+m
    ·obtain⟨z',X8,Vl,_⟩:=MM y (by lia) T6
     rw[Vl]
     by_cases T7:x=y
     ·subst T7;rw[ez]at Vl;rw[Vl];exact O.refl _
     ·obtain⟨q1,q2⟩:=aaf.mp iz;obtain⟨q3,q4⟩:=aaf.mp X8;have:=aco.mp gs _ _ q1 q3 (by lia)
      rw[q2,q4]at this;exact this
    ·rw[Sd y (by lia)]
     rcases T4 with⟨u,u1,u2,rfl⟩|⟨u,u1,u2,rfl⟩
     ·exact O.trans (s1 u (sb-1) (by lia) (by lia) (by lia)) (g3 y (by lia) h3)
     ·exact s2 u y (by lia) (by lia) h3
   ·rw[Sd x (by lia),Sd y (by lia)]
    exact s2 x y (by lia) h2 h3
 have go:∀(out:Array Z8) (iJ:aaE),nu Oh iJ->Gd c (a.extract (sa+k) sb) (a.extract sb (sb+m)) out.toList->wpS (Ψ prog w) A E s (do
    modify λs2=>abd s2 (out.toList.zipIdx.foldl (λx z=>match z with|(p,j)=>x.setIfInBounds (sa+k+j) p) (aaJ s2))
    let y <- get
    pure (acI y).isNone:StateT aaE Sem Bool) Q iJ:=fin
 have Wq:0<(a.extract (sa+k) sb).size:=by lia
 have Wo:0<(a.extract sb (sb+m)).size:=by lia
 have Sx:∀t,t<(a.extract (sa+k) sb).size->el (a.extract (sa+k) sb) t∈a₀.toList:=λt ht=>by rw[ex (by lia)];exact hm (by lia)
 have Sy:∀t,t<(a.extract sb (sb+m)).size->el (a.extract sb (sb+m)) t∈a₀.toList:=λt ht=>by rw[ey (by lia)];exact hm (by lia)
 have VV:SR c (a.extract (sa+k) sb) 0 (a.extract (sa+k) sb).size:=λx y h1 h2 h3=>by
  rw[ex (by lia),ex (by lia)]
  exact s1 _ _ (by lia) (by lia) (by lia)
 have VU:SR c (a.extract sb (sb+m)) 0 (a.extract sb (sb+m)).size:=λx y h1 h2 h3=>by
  rw[ey (by lia),ey (by lia)]
  exact s2 _ _ (by lia) (by lia) (by lia)
 have hf:c (el (a.extract sb (sb+m)) 0) (el (a.extract (sa+k) sb) 0)=ζ:=by
  rw[ex (by lia),ey (by lia)]
  exact g1
 have hl:∀y,y<(a.extract sb (sb+m)).size->c (el (a.extract sb (sb+m)) y) (el (a.extract (sa+k) sb) ((a.extract (sa+k) sb).size-1))=ζ:=λy hy=>by
  rw[ey (by lia),ex (by lia),show sa+k+((a.extract (sa+k) sb).size-1)=sb-1 by lia]
  exact g2 _ (by lia) (by lia)
 by_cases e3:na-k<=m
 ·rw[χ e3];exact aad (xu O L AR Sx Sy VV VU Wq Wo hf hl go)
 ·rw[ω e3];exact aad (xv O L AR Sx Sy VV VU Wq Wo hf hl go)
end
section
variable {c:Z8->Z8->Bool}{a b:Array Z8}
def Runs (c:Z8->Z8->Bool)(a:Array Z8):List (Nat×Nat×Nat)->Nat->Nat->Prop
 |[],lo,hi=>lo=hi
 |z::r,lo,hi=>z.1=lo/\1<=z.2.1/\SR c a lo (lo+z.2.1)/\Runs c a r (lo+z.2.1) hi
theorem Runs.app:∀{l r:List (Nat×Nat×Nat)} {lo hi:Nat},Runs c a (l++r) lo hi->∃m,Runs c a l lo m/\Runs c a r m hi
 |[],r,lo,hi,h=>{(lo),rfl,h}
 |z::l,r,lo,hi,⟨h1,h2,h3,h4⟩=>by
  obtain⟨m,g1,g2⟩:=Runs.app h4;exact{m,{(h1),h2,h3,g1},g2}
theorem Runs.join:∀{l r:List (Nat×Nat×Nat)} {lo m hi:Nat},Runs c a l lo m->Runs c a r m hi->Runs c a (l++r) lo hi
 |[],r,lo,m,hi,h,g=>by
  obtain rfl:lo=m:=h;exact g
 |z::l,r,lo,m,hi,⟨h1,h2,h3,h4⟩,g=>{h1,h2,h3,Runs.join h4 g}
theorem Runs.len:∀{l:List (Nat×Nat×Nat)} {lo hi:Nat},Runs c a l lo hi->lo+l.length<=hi
 |[],lo,hi,h=>Nat.le_of_eq h
 |z::l,lo,hi,⟨h1,h2,h3,h4⟩=>by
  have:=Runs.len h4;rw[aaa];lia
theorem Runs.congr:∀{l:List (Nat×Nat×Nat)} {lo hi:Nat},Runs c a l lo hi->(∀k,lo<=k->k<hi->el b k=el a k)->Runs c b l lo hi
 |[],lo,hi,h,_=>h
 |z::l,lo,hi,⟨h1,h2,h3,h4⟩,e=>by
  have hl:=Runs.len h4;exact{h1,h2,h3.congr λk g1 g2=>e k g1 (by lia),Runs.congr h4 λk g1 g2=>e k (by lia) g2}
theorem Runs.pow:∀{l l':List (Nat×Nat×Nat)} {lo hi:Nat},Runs c a l lo hi->l'.map (λz=>(z.1,z.2.1))=l.map (λz=>(z.1,z.2.1))->Runs c a l' lo hi
 |[],[],_,_,h,_=>h
 |[],z::l',_,_,_,e=>by cases e
 |z::l,[],_,_,_,e=>by cases e
 |z::l,z'::l',lo,hi,⟨h1,h2,h3,h4⟩,e=>by
  rw[aap,aap]at e;injection e with e1 e2
  injection e1 with e3 e4
  exact{e3.trans h1,by rw[e4];exact h2,by rw[e4];exact h3,by rw[e4];exact Runs.pow h4 e2}
end
section
variable {prog:Z6}{w:aam}{A:aaX}{E:ZW->ZZ->Prop}{s:ZZ}{κ:acs}{c:Z8->Z8->Bool}{a₀:Array Z8}
def K4 {α:Type}{l:List α}{i:Nat}(h:i+1<l.length):∃l1 x y l2,l=l1++x::y::l2/\l1.length=i:=by
 refine{l.take i,l[i],l[i+1],l.drop (i+2),?_,by rw[aaw];lia}
 rw[<- aaZ h,<- aaZ (by lia),abC]
def rR (O:da c)(L:iI prog w A E s κ c (·∈a₀.toList)){st:aaE}{i hi:Nat}{Q:Bool->aaE->Prop}(h0:nj κ a₀ st)(hr:Runs c (aaJ st) (aav st).toList 0 hi)(hh:hi<=a₀.size)(WM:i+1<(aav st).size)
  (h:∀aI,nj κ a₀ aI->Rg (aaJ st) (aaJ aI) 0 hi->Runs c (aaJ aI) (aav aI).toList 0 hi->(aav aI).size+1=(aav st).size->Q ζ aI) :
  wpS (Ψ prog w) A E s (mergeAt' i) Q st:=by
 obtain⟨l1,⟨sa,na,pw⟩,⟨sb,nb,Tr⟩,l2,el,hl⟩:=K4 (l:=(aav st).toList) (i:=i) (by rw[Z5];exact WM)
 rw[el]at hr;obtain⟨m,r1,r2⟩:=hr.app;obtain⟨x1,x2,x3,y1,y2,y3,r3⟩:=r2;dsimp only at x1 x2 x3 y1 y2 y3 r3;have hlen:=r3.len;have WE:=r1.len;have p1:(aav st)[i]?=ν (sa,na,pw):=by
  rw[<- aan,el,aa4 (by lia),hl,ac6]
  rfl
 have p2:(aav st)[i+1]?=ν (sb,nb,Tr):=by
  rw[<- aan,el,aa4 (by lia),hl,show i+1-i=1 by lia]
  rfl
 subst x1;refine xw O L h0 p1 p2 y1 x2 y2 (by lia) (by rw[y1];exact x3) (by rw[y1];exact y3) λaI k1 k2 k3 R S=>?_
 have ep:(aav aI).toList=l1++(sa,na+nb,pw)::l2:=by
  rw[k3];have hz:i+1<((aav st).setIfInBounds i (sa,na+nb,pw)).size:=by rw[adB];exact WM
  have e1:(((aav st).setIfInBounds i (sa,na+nb,pw)).eraseIdxIfInBounds (i+1)).toList=((aav st).toList.set i (sa,na+nb,pw)).eraseIdx (i+1):=by
   unfold Array.eraseIdxIfInBounds;rw[dif_pos hz,Array.toList_eraseIdx,Array.toList_setIfInBounds]
  rw[e1,el,<- hl,List.set_append_right _ _ (ZX _),ac6,List.set_cons_zero,List.eraseIdx_append_of_length_le (by lia),show l1.length+1-l1.length=1 by lia]
  rfl
 have out:∀k,(k<sa\/sb+nb<=k)->TS.el (aaJ aI) k=TS.el (aaJ st) k:=R.out;refine h aI {k1,k2,R.perm.trans h0.perm} (R.mono (aab _) (by lia)) ?_ ?_
 ·rw[ep];refine Runs.join (r1.congr λk g1 g2=>out k (.inl (by lia))) {rfl,by show 1<=na+nb;lia,?_,?_}
  ·show SR c (aaJ aI) sa (sa+(na+nb));rw[show sa+(na+nb)=sb+nb by lia]
   exact S
  ·show Runs c (aaJ aI) l2 (sa+(na+nb)) hi;rw[show sa+(na+nb)=sa+na+nb by lia]
   exact r3.congr λk g1 g2=>out k (.inr (by lia))
 ·have e2:(aav aI).size=l1.length+(l2.length+1):=by rw[<- Z5,ep,aag,aaa]
  have e3:(aav st).size=l1.length+(l2.length+1+1):=by rw[<- Z5,el,aag,aaa,aaa]
  lia
theorem pU:∀(f n r:Nat),1<=n->1<=minRun' f n r
 |0,n,r,h=>by show 1<=n+r;lia
 |f+1,n,r,h=>by
  rw[minRun'_succ]
  split
  ·lia
  ·exact pU f _ _ (by lia)
def Hf (p:Array (Nat×Nat×Nat))(i w:Nat):(p.modify i λx=>(x.1,x.2.1,w)).toList.map (λz=>(z.1,z.2.1))=p.toList.map (λz=>(z.1,z.2.1)):=by
 apply ab_;intro k;rw[aah,aah,aan,aan,Array.getElem?_modify]
 split
 ·rw[Option.map_map];rfl
 ·rfl
def uP (O:da c)(L:iI prog w A E s κ c (·∈a₀.toList)){st:aaE}{Q:Unit->aaE->Prop}(h0:nj κ a₀ st)(hp:aav st=#[])(h2:2<=a₀.size)
  (h:∀aI,nj κ a₀ aI->SR c (aaJ aI) 0 a₀.size->Q () aI):wpS (Ψ prog w) A E s sortRuns' Q st:=by
 rw[sortRuns'_eq];refine aad (adk ?_);dsimp only;rw[h0.size];have Yw:=pU a₀.size a₀.size 0 (by lia)
 generalize minRun' a₀.size a₀.size 0=mr at Yw;refine aad (abF (aa7 (I:=λx r aI=>nj κ a₀ aI/\∃lo,r=(ξ,lo)/\lo<=a₀.size/\(a₀.size<=lo\/x<=lo)/\Runs c (aaJ aI) (aav aI).toList 0 lo)
  (Q:=λr aI=>nj κ a₀ aI/\r=(ξ,a₀.size)/\Runs c (aaJ aI) (aav aI).toList 0 a₀.size) ?_ ?_ ?_) ?_)
 ·rintro x r aI _ hx ⟨hS,lo,rfl,R5,Yy,hr⟩;dsimp only
  by_cases hl:lo >= a₀.size
  ·rw[χ hl];obtain rfl:lo=a₀.size:=by lia
   exact aal {(hS),rfl,hr}
  rw[ω hl];refine aad (CA O L hS (by lia) (by lia) λn b n1 n2 R Sb=>?_)
  dsimp only;have xo:nj κ a₀ (abd aI b):=hS.set R;have qd:Runs c (aaJ (abd aI b)) (aav (abd aI b)).toList 0 lo:=Runs.congr (b:=b) hr λk q1 q2=>R.out k (.inl q2);refine(λ(key:∀(N:Nat) (stx:aaE),1<=N->lo+N<=a₀.size->Runs c (aaJ stx) (aav stx).toList 0 lo->nj κ a₀ stx->SR c (aaJ stx) lo (lo+N)->(?G:Nat->aaE->Prop) N stx)=>?main) ?key
  case main =>
   by_cases WA:n<mr
   ·rw[χ WA];refine aad (wpS_lift (acb {rfl,?_}));refine aad (Kx O L xo (by lia) (by lia) (by lia) Sb λb' R' Y_=>?_)
    rw[ω (by simp)]
    have R9:1<=min (a₀.size-lo) mr:=by lia
    have Va:lo+min (a₀.size-lo) mr<=a₀.size:=by lia
    have qd:Runs c (aaJ (abd (abd aI b) b')) (aav (abd (abd aI b) b')).toList 0 lo:=Runs.congr (b:=b') qd λk q1 q2=>R'.out k (.inl q2);have xo:nj κ a₀ (abd (abd aI b) b'):=xo.set R';have Kf:SR c (aaJ (abd (abd aI b) b')) lo (lo+(min (a₀.size-lo) mr)):=Y_;generalize abd (abd aI b) b'=stx at qd xo Kf ⊢
    generalize min (a₀.size-lo) mr=N at R9 Va Kf ⊢
    exact key N stx R9 Va qd xo Kf
   ·rw[ω WA];have Kf:SR c (aaJ (abd aI b)) lo (lo+n):=Sb;exact key n _ n1 (by lia) qd xo Kf
  case key =>
   intro N stx R9 Va qd xo Kf;refine aad (adk ?_);have Rf:∀(o4:aaE),nj κ a₀ o4->SR c (aaJ o4) lo (lo+N)->Runs c (aaJ o4) (aav o4).toList 0 lo->nj κ a₀ (acS o4 ((aav o4).push (lo,N,0)))/\∃JI,((ξ,lo+N):Option Unit×Nat)=(ξ,JI)/\JI<=a₀.size/\(a₀.size<=JI\/x+1<=JI)/\Runs c (aaJ o4) ((aav o4).push (lo,N,0)).toList 0 JI:=λo4 g1 g2 g3 =>
    {{(g1.kind),g1.fail,g1.perm},_,rfl,by lia,by lia,by rw[abH];exact g3.join {(rfl),R9,g2,rfl}}
   cases hb:(aav stx).back? with
   |none =>
    dsimp only;exact aad (aca (aal (Rf stx xo Kf qd)))
   |some z =>
    obtain⟨s1,n1,p1⟩:=z;dsimp only;refine aad (abF (aa7 (I:=λx r aI=>r=(ξ,())/\nj κ a₀ aI/\SR c (aaJ aI) lo (lo+N)/\Runs c (aaJ aI) (aav aI).toList 0 lo)
     (Q:=λr aI=>r=(ξ,())/\nj κ a₀ aI/\SR c (aaJ aI) lo (lo+N)/\Runs c (aaJ aI) (aav aI).toList 0 lo) ?_ ?_ ?_) ?_)
    ·rintro y r o4 _ _ ⟨rfl,g1,g2,g3⟩;refine aad (adk ?_)
     by_cases Qw:(aav o4).size>1
     ·rw[χ Qw];cases hq:(aav o4)[(aav o4).size-2]? with
      |none =>
       dsimp only;exact aal {(rfl),g1,g2,g3}
      |some z =>
       obtain⟨u,v,V9⟩:=z;dsimp only
       split
       ·exact aal {(rfl),g1,g2,g3}
       ·refine aad (rR O L g1 g3 (by lia) (by lia) λOf f1 f2 f3 f4=>?_)
        exact aal {rfl,f1,g2.congr λk q1 q2=>f2.out k (.inr q1),f3}
     ·rw[ω Qw];dsimp only;exact aal {(rfl),g1,g2,g3}
    ·rintro r o4 ⟨rfl,g1,g2,g3⟩;exact{(rfl),g1,g2,g3}
    ·exact{(rfl),xo,Kf,qd}
    rintro r o4 ⟨rfl,g1,g2,g3⟩;dsimp only;refine aad (aca (aad (aca (aal ?_))));exact Rf (acS o4 _) {(g1.kind),g1.fail,g1.perm} g2 (g3.pow (Hf _ _ _))
 ·rintro r aI ⟨hS,lo,rfl,R5,Yy,hr⟩;obtain rfl:lo=a₀.size:=by lia
  exact{(hS),rfl,hr}
 ·exact{h0,0,rfl,aab _,.inr (ZX _),by rw[hp];rfl}
 rintro r aI ⟨hS,rfl,hr⟩;dsimp only;refine aad (abF (aa7 (I:=λx r aI=>r=(ξ,())/\nj κ a₀ aI/\Runs c (aaJ aI) (aav aI).toList 0 a₀.size/\((aav aI).size<=1\/(aav aI).size+x<=a₀.size))
  (Q:=λr aI=>r=(ξ,())/\nj κ a₀ aI/\Runs c (aaJ aI) (aav aI).toList 0 a₀.size/\(aav aI).size<=1) ?_ ?_ ?_) ?_)
 ·rintro x r iJ _ hx ⟨rfl,xo,qd,hz⟩;refine aad (adk ?_)
  by_cases h1:(aav iJ).size<=1
  ·rw[χ h1];exact aal {(rfl),xo,qd,h1}
  rw[ω h1];refine aad (rR O L xo qd (ZX _) ?_ λo4 YQ R3 Ym Zz=>?_)
  ·split
   ·split <;> lia
   ·rw[ω (by simp)]
    lia
  ·exact aal {rfl,YQ,Ym,.inr (by lia)}
 ·rintro r iJ ⟨rfl,xo,qd,hz⟩;exact{rfl,xo,qd,by lia}
 ·refine{rfl,hS,hr,.inr ?_};have:=hr.len;rw[Z5]at this;lia
 ·rintro r iJ ⟨rfl,xo,qd,hz⟩;refine aal (h iJ xo ?_)
  match hq:(aav iJ).toList,qd with
  |[],e=>
   have:(0:Nat)=a₀.size:=e;lia
  |[z],e =>
   obtain⟨e1,e2,e3,e4⟩:=e;have e4:0+z.2.1=a₀.size:=e4;rw[e4]at e3;exact e3
  |z::y::l,e =>
   have:(aav iJ).toList.length<=1:=by rw[Z5];exact hz
   rw[hq]at this;simp at this
end
def lex_nil {y:List Int}:HT.lexLt [] y=decide (0<y.length):=by cases y <;> rfl
def jm {a b:Int}{x y:List Int}:HT.lexLt (a::x) (b::y)=if a=b then HT.lexLt x y else decide (a<b):=rfl
theorem vN:∀{x y:List Int},HT.lexLt x y=ζ->HT.lexLt y x=η
 |[],[],_=>rfl
 |[],_::_,_=>rfl
 |_::_,[],h=>by cases h
 |a::x,b::y,h=>by
  rw[jm]at h ⊢
  by_cases e:a=b
  ·rw[χ e]at h;rw[χ e.symm];exact vN h
  ·rw[ω e]at h;rw[ω λz=>e z.symm];have:=of_decide_eq_true h;exact Δ (by lia)
theorem zT:∀{x z:List Int} (y:List Int),HT.lexLt x z=ζ->HT.lexLt x y=ζ\/HT.lexLt y z=ζ
 |[],[],_,h=>by cases h
 |[],_::_,[],h=>.inr rfl
 |[],_::_,_::_,h=>.inl rfl
 |_::_,[],_,h=>by cases h
 |a::x,b::z,[],h=>.inr rfl
 |a::x,b::z,d::y,h=>by
  rw[jm]at h ⊢
  rw[jm]
  by_cases e:a=b
  ·subst e;rw[χ rfl]at h
   by_cases e2:a=d
   ·subst e2;rw[χ rfl,χ rfl];exact zT y h
   ·rw[ω e2,ω λq=>e2 q.symm]
    by_cases e3:a<d
    ·exact .inl (Γ e3)
    ·exact .inr (Γ (by lia))
  ·rw[ω e]at h;have h:=of_decide_eq_true h
   by_cases e2:a=d
   ·subst e2;rw[ω e];exact .inr (Γ h)
   ·rw[ω e2]
    by_cases e3:a<d
    ·exact .inl (Γ e3)
    ·rw[ω (by lia)]
     exact .inr (Γ (by lia))
theorem sJ:∀{x y:List Int},HT.lexLt x y=η->HT.lexLt y x=η->x=y
 |[],[],_,_=>rfl
 |[],_::_,h,_=>by cases h
 |_::_,[],_,h=>by cases h
 |a::x,b::y,h1,h2=>by
  rw[jm]at h1 h2
  by_cases e:a=b
  ·subst e;rw[χ rfl]at h1 h2;rw[sJ h1 h2]
  ·rw[ω e]at h1;rw[ω λq=>e q.symm]at h2;have h1:=of_decide_eq_false h1;have h2:=of_decide_eq_false h2;lia
def byKey (kf:ZW->List Int)(x y:Z8):Bool:=HT.lexLt (kf x.1) (kf y.1)
def Ho (kf:ZW->List Int):da (byKey kf):={λ_ _ h=>vN h,λ_ y _ h=>zT (kf y.1) h}
section
variable {prog:Z6}{w:aam}{A:aaX}{E:ZW->ZZ->Prop}{s:ZZ}
theorem vM {b:Bool}{Q:Bool->ZZ->Prop}:∀{ns ms:List Int} {us vs:List ZW} (i:Nat),abA us ns->abA vs ms->Q (HT.lexLt ns ms) s->PySem.W.KatLex prog w A b (decide (ns.length<ms.length)) Q (us.zip vs) i s
 |[],ms,us,vs,i,hu,hv,q=>by
  cases hu;rw[adt];rw[lex_nil]at q;exact PySem.W.kat_nil q
 |n::ns,[],us,vs,i,hu,hv,q=>by
  cases hv;rw[List.zip_nil_right];exact PySem.W.kat_nil q
 |n::ns,m::ms,us,vs,i,hu,hv,q=>by
  cases hu with
  |cons _ t hu =>
   cases hv with
   |cons _ t' hv =>
    rw[abZ];refine PySem.W.kat_cons (wpAny_eqBool_int ?_);rw[jm]at q
    by_cases e:n=m
    ·subst e;rw[χ rfl]at q;rw[beq_self_eq_true];have:=vM (b:=b) (Q:=Q) (i+1) hu hv q;rw[show decide ((n::ns).length<(n::ms).length)=decide (ns.length<ms.length) by rw[aaa,aaa];congr 1;simp]
     exact PySem.W.kat_yes this
    ·rw[ω e]at q;rw[show (n==m)=η from beq_eq_false_iff_ne.mpr e]
     refine PySem.W.kat_no ?_;cases b&&i==0 with
     |true=>exact oneLt_int q
     |false=>exact PySem.W.kat_one _ _ (lt_int q)
def rM (h:Heap)(kf:ZW->List Int)(a:θ)(vs:List ZW):Prop :=
 ∀v∈vs,∃t o xs k,v=.ref t/\t≠a/\h.get? t=ν o/\o.cls=.type "tuple" /\ o.data=.seq xs k/\abA xs.toList (kf v)/\kf v≠[]
def Bp {kf:ZW->List Int}{a:θ}{vs:List ZW}{b:Bool}{a₀:Array Z8}(T:rM s.heap kf a vs)(hm:∀z∈a₀.toList,z.1∈vs):iI prog w A E s (tuples' b) (byKey kf) (·∈a₀.toList):=by
 intro x y st Q hx hy hk q;obtain⟨t,o,xs,n,e1,_,e2,_,e3,e4,_⟩:=T _ (hm _ hx);obtain⟨t',o',Xb,n',f1,_,f2,_,f3,f4,_⟩:=T _ (hm _ hy);rw[lt'_eq];refine aad (adk ?_);rw[hk,e1,f1];have z1:xs.size=(kf x.1).length:=by rw[<- Z5];exact e4.length
 have z2:Xb.size=(kf y.1).length:=by rw[<- Z5];exact f4.length
 refine aad (wpS_lift (wpAny_attempt (PySem.W.kat_lt e2 e3 f2 f3 ?_)));rw[z1,z2];exact vM 0 e4 f4 {rfl,aal q}
theorem oY {kf:ZW->List Int}{a:θ}{h:Heap}:∀{vs:List ZW},rM h kf a vs->∃fs:List ZW,PySem.W.KatTups h vs fs/\fs.length=vs.length/\∀f∈fs,∃n t,f=Value.int n t
 |[],_=>{[],tv,rfl,λf hf=>by cases hf}
 |v::vs,T=>by
  obtain⟨fs,h1,h2,h3⟩:=oY (vs:=vs) λu hu=>T u (aac _ hu);obtain⟨t,o,xs,k,rfl,_,e2,e3,e4,e5,e6⟩:=T v Z7;obtain⟨f,r,ef,n,tk,hn⟩:∃f r,xs.toList=f::r/\∃n tk,f=Value.int n tk:=by
   generalize kf (.ref t)=ks at e5 e6;generalize xs.toList=us at e5;cases e5 with
   |nil=>exact Η rfl e6
   |cons n tk r=>exact{_,_,rfl,_,_,rfl}
  have e:xs[0]?=ν f:=by rw[<- aan,ef];rfl
  exact⟨f::fs,PySem.W.KatTups.cons e2 e3 e4 e h1,by rw[aaa,aaa,h2],λg hg=>by
   rcases Z1.mp hg with rfl|hg
   ·exact{_,_,hn}
   ·exact h3 g hg⟩
def Bu {kf:ZW->List Int}{a:θ}{vs:List ZW}{Q:acs->ZZ->Prop}(T:rM s.heap kf a vs)(h0:0<vs.length)(q:Q (tuples' ζ) s):aau (Ψ prog w) A (keyKind' vs.toArray) Q E s:=by
 obtain⟨fs,h1,h2,h3⟩:=oY T;refine PySem.W.kat_kind (T:=.type "int") h1 (by lia) (λv hv=>?_) (by decide) q
 obtain⟨n,t,rfl⟩:=h3 v hv;exact .now
theorem C8 {α:Type}{R:α->α->Prop}:∀{l:List α},l.length<2->l.Pairwise R
 |[],_=>.nil
 |[x],_=>acF _ _
 |_::_::_,h=>by
  rw[aaa,aaa]at h;lia
def ye {a:θ}{vs:List ZW}{n:Nat}{κ:acs}{c:ZW->ZW->Bool}{P:PySem.Fin->ZZ->Prop}(ho:s.heap.get? a=ν (abJ "list" vs.toArray n))(hz:vs.length<=1000000)(O:da λx y=>c x.1 y.1)
  (T:∀s':ZZ,(∀t o,t≠a->s.heap.get? t=ν o->s'.heap.get? t=ν o)->(2<=vs.length->∀(Q:acs->ZZ->Prop),Q κ s'->aau (Ψ prog w) A (keyKind' vs.toArray) Q E s')/\iI prog w A E s' κ (λx y=>c x.1 y.1) (·∈(vs.toArray.zip vs.toArray).toList))
  (h:∀out:List ZW,out.Perm vs->out.Pairwise (λx y=>c y x=η)->P (.done (.ret .none)) {s with heap:=sortedHeap s.heap a vs out.toArray}) :
  aau (Ψ prog w) A (ab1.«list.sort» {[.ref a],[]}) P E s:=by
 have la:a<s.heap.objs.size:=aaq ho;obtain⟨ep,hc⟩:∃ep,(s.heap.update a (ace λ_=>#[])).get? a=ν (abJ "list" #[] ep):={_,get?_update_seq ho (λ_=>#[])};have old:∀t o,t≠a->s.heap.get? t=ν o->(((s.heap.update a (ace λ_=>#[])).push (abJ "tuple" vs.toArray 0)).push (abJ "list" #[] 0)).get? t=ν o:=λt o ht e =>
  Z3 _ (Z3 _ (by rw[Heap.get?_update_ne _ _ _ _ ht];exact e))
 have sR:(((s.heap.update a (ace λ_=>#[])).push (abJ "tuple" vs.toArray 0)).push (abJ "list" #[] 0)).get? a=ν (abJ "list" #[] ep):=Z3 _ (Z3 _ hc);have big:∀m:Nat,m<=vs.length->m<=aak:=λm hm=>by rw[aaT];lia
 have zz:vs.toArray.size=vs.length:=by simp
 rw[list_sort_plain];refine ZV (listItems_at ho rfl ?_);refine ZV (listUpdate_at ho rfl ?_ (big _ (Nat.le_of_eq zz)) (aab _));refine ZV (seqEpoch_at hc rfl ?_);refine ZV (wpAny_newTuple ?_ (big _ (ZX _)));refine ZV (wpAny_newList ?_ (aab _));refine aa2 ?_;show aau (Ψ prog w) A _ P E {s with heap:=((s.heap.update a (ace λ_=>#[])).push (abJ "tuple" vs.toArray 0)).push (abJ "list" #[] 0)}
 dsimp only;have done:∀aI:aaE,(aaJ aI).Perm (vs.toArray.zip vs.toArray)->(aaJ aI).toList.Pairwise (le λx y=>c x.1 y.1)->P (.done (.ret .none)) {s with heap:=sortedHeap s.heap a vs ((aaJ aI).map (·.2))}:=λaI hp hs=>by
  have h1:∀z∈(aaJ aI).toList,z.1=z.2:=λz hz=>by
   have:=(aci.mp hp).mem_iff.mp hz;rw[Array.toList_zip]at this;obtain⟨i,hi⟩:=acg this;rw[List.getElem?_zip_eq_some]at hi;exact aaC (hi.1.symm.trans hi.2)
  have e2:(aaJ aI).map (·.2)=((aaJ aI).toList.map (·.2)).toArray:=by
   apply Array.toList_inj.mp;rw[Array.toList_map]
  rw[e2];refine h _ ?_ ?_
  ·have:=(aci.mp hp).map (λz:Z8=>z.2);rw[Array.toList_zip]at this;refine this.trans (List.Perm.of_eq ?_);exact List.map_snd_zip (by simp)
  ·rw[aat];refine hs.imp_of_mem λ{x y} hx hy hl=>?_;rw[<- h1 x hx,<- h1 y hy];exact hl
 by_cases h2:vs.toArray.size<2
 ·rw[χ h2,χ h2];refine ZV (Z0 ?_);rw[StateT.run_pure];refine ZV (Z0 ?_);dsimp only;refine ZV (seqEpoch_at sR rfl ?_);refine ZV (listUpdate_at sR rfl ?_ (aab _) (by rw[Array.size_map,Array.size_zip];exact aaH (big _ (by lia)) (Nat.le_succ _)))
  simp only[bne_self_eq_false,Bool.false_eq_true,if_false];refine Z0 (done (SortSt.mk' general' (vs.toArray.zip vs.toArray) #[] 7 ξ) (Array.Perm.refl _) ?_);refine C8 ?_;show (vs.toArray.zip vs.toArray).toList.length<2;rw[Z5,Array.size_zip];lia
 ·rw[ω h2,ω h2];obtain⟨hK,L⟩:=T {s with heap:=((s.heap.update a (ace λ_=>#[])).push (abJ "tuple" vs.toArray 0)).push (abJ "list" #[] 0)} old
  refine ZV (hK (by lia) _ ?_)
  have zp:(vs.toArray.zip vs.toArray).size=vs.length:=by rw[Array.size_zip];lia
  refine ZV (ac7 (uP (Q:=λ_ aI=>(aaJ aI).Perm (vs.toArray.zip vs.toArray)/\acI aI=ξ/\SR (λx y=>c x.1 y.1) (aaJ aI) 0 vs.length) O L
   (st:=SortSt.mk' κ (vs.toArray.zip vs.toArray) #[] 7 ξ) {rfl,rfl,Array.Perm.refl _} rfl (by lia) λaI g1 g2=>{g1.perm,g1.fail,by rw[zp]at g2;exact g2}) ?_ λ_ _ e=>e)
  rintro⟨⟨⟩,aI⟩ s' ⟨rfl,hp,hf,hs⟩;dsimp only;have zs:(aaJ aI).size=vs.length:=hp.size_eq.trans zp;refine ZV (seqEpoch_at sR rfl ?_);refine ZV (listUpdate_at sR rfl ?_ (aab _) (by rw[Array.size_map,zs];exact aaH (big _ (ZX _)) (Nat.le_succ _)))
  rw[hf];simp only[bne_self_eq_false,Bool.false_eq_true,if_false];refine Z0 (done aI hp ?_);rw[aco];intro i j hi hj aL;rw[Z5]at hi hj;have:=hs i j (aab _) (by lia) (by lia)
  have ei:el (aaJ aI) i=(aaJ aI).toList[i]:=Am (by rw[<- aan];exact Z4 _)
  have ej:el (aaJ aI) j=(aaJ aI).toList[j]:=Am (by rw[<- aan];exact Z4 _)
  rw[ei,ej]at this;exact this
def pW {a:θ}{vs:List ZW}{n:Nat}{kf:ZW->List Int}{P:PySem.Fin->ZZ->Prop}(ho:s.heap.get? a=ν (abJ "list" vs.toArray n))(hz:vs.length<=1000000)(T:rM s.heap kf a vs)
  (h:∀out:List ZW,out.Perm vs->out.Pairwise (λx y=>HT.lexLt (kf y) (kf x)=η)->P (.done (.ret .none)) {s with heap:=sortedHeap s.heap a vs out.toArray}) :
  aau (Ψ prog w) A (ab1.«list.sort» {[.ref a],[]}) P E s:=by
 refine ye (κ:=tuples' ζ) (c:=λx y=>HT.lexLt (kf x) (kf y)) ho hz (Ho kf) (λs' kp=>?_) h;have T':rM s'.heap kf a vs:=λv hv=>by
  obtain⟨t,o,xs,k,e1,e2,e3,r⟩:=T v hv;exact{t,o,xs,k,e1,e2,kp t o e2 e3,r}
 exact⟨λh2 Q q=>Bu T' (by lia) q,Bp T' λz hz=>by
  rw[Array.toList_zip]at hz;exact(List.of_mem_zip hz).1⟩
end
end TS
namespace ST
open PySem PyProof.Rows
section
variable {prog:Z6}{w:aam}{A:aaX}{E:ZW->ZZ->Prop}{s:ZZ}
abbrev TK (prog:Z6)(w:aam):=adF (acA prog w)
abbrev kH (prog:Z6)(w:aam)(k:List Int):Int:=(TK prog w).hash k
abbrev ent (prog:Z6)(w:aam)(x:θ×List Int):Int×ZW:=(kH prog w x.2,.ref x.1)
structure gE {α β:Type}(w:aam)(en:α->Int×ZW)(hk:α->Int)(ky:α->β)(o:Obj)(ts:List α)(es:Array (Int×ZW))(ep:Nat)(t:SetTable):Prop where
 ex:o.ExactSet
 dat:o.data=.set es ep t
 FH:es.toList=ts.map en
 wf:WF t (ts.map hk)
 Rz:t.place.size*5<t.mask*3
 Gn:t.mask<=8191
 led:t.led=!w.params.followText "set-order"
 Hg:t.plain=ζ
 LZ:(ts.map ky).Nodup
abbrev nr (prog:Z6)(w:aam):=gE w (ent prog w) (λx=>kH prog w x.2) (λx=>x.2)
def Kc (prog:Z6)(w:aam)(h:Heap)(ts:List (θ×List Int)):Prop:=∀x∈ts,(TK prog w).is h x.2 x.1
section
variable {α β:Type}{en:α->Int×ZW}{hk:α->Int}{ky:α->β}{ts:List α}{o:Obj}{es:Array (Int×ZW)}{ep:Nat}{t:SetTable}
def gE.fits (S:gE w en hk ky o ts es ep t):t.fits es.size=ζ:=by
 have h1:=S.wf.sz;have h2:es.size=ts.length:=by rw[<- Z5,S.FH,ZU]
 rw[ZU]at h1;unfold SetTable.fits SetTable.fill;rw[S.wf.J5,h2,h1];have:=S.Rz;simp;lia
def gE.size (S:gE w en hk ky o ts es ep t):es.size=ts.length/\t.place.size=ts.length:=by
 have h1:=S.wf.sz;rw[ZU]at h1;exact{by rw[<- Z5,S.FH,ZU],h1}
end
def BO (d:Nat)(n:Int)(tk:Tok):ofAClassStatement d (.int n tk)=pure η:=by
 cases d <;> rfl
def uR {k:List Int}{b:θ}{Q:Bool->ZZ->Prop}(hk:(TK prog w).is s.heap k b)(q:Q η s):aau (Ψ prog w) A (ofAClassStatement 8 (.ref b)) Q E s:=by
 obtain⟨o,items,n,ho,hc,hd,hi⟩:=hk;have hT:s.TypeIs (.ref b) "tuple" := {(o),ho,hc};unfold ofAClassStatement;refine ZV (wpAny_typeOf hT ?_);dsimp only;rw[χ (by rfl)]
 refine ZV (Z0 ?_);rw[ω (by simp)]
 refine ZV (wpAny_seqItems ho hd ?_);dsimp only;rw[<- Array.forIn_toList];refine ZV (adC _ (λrest r s'=>r=(ξ,())/\s'=s/\∀v∈rest,∃n tk,v=Value.int n tk) _ ?_ ?_ _ _ {rfl,rfl,?_})
 ·rintro v rest r s' ⟨rfl,rfl,rD⟩;obtain⟨n,tk,rfl⟩:=rD v Z7;rw[BO];refine ZV (Z0 ?_);rw[ω (by simp)]
  exact Z0 {rfl,rfl,λu hu=>rD u (aac _ hu)}
 ·rintro r s' ⟨rfl,rfl,_⟩;exact Z0 q
 ·generalize items.toList=vs at hi
  induction hi with
  |nil=>intro v hv;cases hv
  | @cons k v ks vs h1 h2 ih =>
   intro u hu;rcases Z1.mp hu with rfl|hu
   ·obtain⟨t,rfl⟩:=adq h1;exact{_,_,rfl}
   ·exact ih u hu
def GG {k:List Int}{b:θ}(hk:(TK prog w).is s.heap k b)(l:List (θ×List Int)){Q:Bool->ZZ->Prop}(T:Kc prog w s.heap l)(q:Q η s):aau (Ψ prog w) A (searchCouldBeSeen (.ref b) (l.map λx=>Φ x.1)) Q E s:=by
 unfold searchCouldBeSeen;refine ZV (adC _ (λrest r s'=>r=(ξ,())/\s'=s/\∀v∈rest,∃x∈l,v=Φ x.1) _ ?_ ?_ _ _ {rfl,rfl,?_})
 ·rintro v rest r s' ⟨rfl,rfl,rD⟩;obtain⟨x,hx,rfl⟩:=rD v Z7;have JW:∀v∈rest,∃x∈l,v=Φ x.1:=λu hu=>rD u (aac _ hu);dsimp only
  split
  ·exact Z0 {(rfl),rfl,JW}
  ·refine ZV ((TK prog w).quiet hk ?_);rw[ω (by simp)]
   refine ZV ((TK prog w).quiet (T x hx) ?_);rw[ω (by simp)]
   refine ZV (uR hk ?_);rw[ω (by simp)]
   refine ZV (uR (T x hx) ?_);rw[ω (by simp)]
   exact Z0 {(rfl),rfl,JW}
 ·rintro r s' ⟨rfl,rfl,_⟩;exact Z0 q
 ·intro v hv;obtain⟨x,hx,rfl⟩:=Z2.mp hv;exact{(x),hx,rfl}
end
end ST
namespace L2
open PySem PySem.Spec PyProof.Rows
inductive D where
 |cN|bl (b:Bool)|int (i:Int)|str (x:Str)|obj (a:θ)
 |tup (ds:List D)|lst (ds:List D)
 |dT (ks:List (List Key)) (ds:List D)|dK (ks:List Key) (ds:List D)
 |sT (ts:List (List Int))
 |ob (φ:θ->HO)
def K8 (P:Z6)(w:aam)(a:θ)(ts:List (θ×List Int))(h:Heap):Prop:=∃o es ep t,h.get? a=ν o/\ST.nr P w o ts es ep t
abbrev kR (P:Z6)(w:aam)(a:θ)(ts:List (θ×List Int)):HO:=.ext (K8 P w a ts)
def Ji (P:Z6)(w:aam)(H:Hp)(a:θ)(ts:List (List Int)):Prop :=
 ∃bB:List (θ×List Int),H a=ν (kR P w a bB)/\(∀x∈bB,H x.1=ν (.tup (x.2.map V.int)))/\(bB.map (·.2)).Perm ts
section
variable (P:Z6)(w:aam)(W:θ->Prop)(H:Hp)
mutual
def aE:D->V->Prop
 |.cN,v=>v=.cN
 |.bl b,v=>v=.bl b
 |.int i,v=>v=.int i
 |.str x,v=>v=.str x
 |.obj a,v=>v=.ref a
 |.tup ds,v=>∃a vs,v=.ref a/\H a=ν (.tup vs)/\ak ds vs
 |.lst ds,v=>∃a vs,v=.ref a/\H a=ν (.lst vs)/\¬ W a/\ak ds vs
 |.dT ks ds,v=>∃a vs,v=.ref a/\H a=ν (.dT (ks.zip vs))/\ks.length=vs.length/\¬ W a/\ak ds vs
 |.dK ks ds,v=>∃a vs,v=.ref a/\H a=ν (.dK (ks.zip vs))/\ks.length=vs.length/\¬ W a/\ak ds vs
 |.sT ts,v=>∃a,v=.ref a/\Ji P w H a ts/\¬ W a
 |.ob φ,v=>∃a,v=.ref a/\(H a=ν (φ a)/\∀xs,φ a≠.tup xs)/\¬ W a
def ak:List D->List V->Prop
 |[],vs=>vs=[]
 |d::ds,vs=>∃v r,vs=v::r/\aE d v/\ak ds r
end
end
mutual
def D.flat:D->Bool
 |.tup ds=>D.ck ds
 |.lst _=>η
 |.dT _ _=>η
 |.dK _ _=>η
 |.sT _=>η
 |.ob _=>η
 |_=>ζ
def D.ck:List D->Bool
 |[]=>ζ
 |d::ds=>D.flat d&&D.ck ds
end
structure Kp (W:θ->Prop)(H H':Hp):Prop where
 out:∀b o,H b=ν o->¬ W b->H' b=ν o
 tup:∀b xs,H b=ν (.tup xs)->H' b=ν (.tup xs)
def Kp.refl {W:θ->Prop}{H:Hp}:Kp W H H:={λ_ _ e _=>e,λ_ _ e=>e}
def Kp.trans {W:θ->Prop}{H H1 H2:Hp}(a:Kp W H H1)(b:Kp W H1 H2):Kp W H H2:={λc o e n=>b.out c o (a.out c o e n) n,λc xs e=>b.tup c xs (a.tup c xs e)}
def aB.kp {W:θ->Prop}{H H':Hp}(h:aB H H'):Kp W H H':={λb o e _=>h b o e,λb xs e=>h b _ e}
def Kp.mono {W W':θ->Prop}{H H':Hp}(h:Kp W H H')(s:∀a,W a->W' a):Kp W' H H':={λb o e n=>h.out b o e λz=>n (s b z),h.tup}
section
variable {P:Z6}{w:aam}{W W':θ->Prop}{H H':Hp}
mutual
theorem aE.keep (k:Kp W H H'):∀{d:D} {v:V},aE P w W H d v->aE P w W H' d v
 |.cN,_,h=>h
 |.bl _,_,h=>h
 |.int _,_,h=>h
 |.str _,_,h=>h
 |.obj _,_,h=>h
 |.tup ds,_,⟨a,vs,e,t,r⟩=>{a,vs,e,k.tup a vs t,ak.keep k r}
 |.lst ds,_,⟨a,vs,e,t,n,r⟩=>{a,vs,e,k.out a _ t n,n,ak.keep k r}
 |.dT ks ds,_,⟨a,vs,e,t,l,n,r⟩=>{a,vs,e,k.out a _ t n,l,n,ak.keep k r}
 |.dK ks ds,_,⟨a,vs,e,t,l,n,r⟩=>{a,vs,e,k.out a _ t n,l,n,ak.keep k r}
 |.sT ts,_,⟨a,e,⟨bB,t,r,z⟩,n⟩=>{a,e,{bB,k.out a _ t n,λx hx=>k.tup _ _ (r x hx),z},n}
 |.ob φ,_,⟨a,e,⟨t,z⟩,n⟩=>{a,e,{k.out a _ t n,z},n}
theorem ak.keep (k:Kp W H H'):∀{ds:List D} {vs:List V},ak P w W H ds vs->ak P w W H' ds vs
 |[],_,h=>h
 |d::ds,_,⟨v,r,e,h1,h2⟩=>{v,r,e,aE.keep k h1,ak.keep k h2}
end
mutual
theorem aE.a_ (s:∀a,W' a->W a):∀{d:D} {v:V},aE P w W H d v->aE P w W' H d v
 |.cN,_,h=>h
 |.bl _,_,h=>h
 |.int _,_,h=>h
 |.str _,_,h=>h
 |.obj _,_,h=>h
 |.tup ds,_,⟨a,vs,e,t,r⟩=>{a,vs,e,t,ak.a_ s r}
 |.lst ds,_,⟨a,vs,e,t,n,r⟩=>{a,vs,e,t,λz=>n (s a z),ak.a_ s r}
 |.dT ks ds,_,⟨a,vs,e,t,l,n,r⟩=>{a,vs,e,t,l,λz=>n (s a z),ak.a_ s r}
 |.dK ks ds,_,⟨a,vs,e,t,l,n,r⟩=>{a,vs,e,t,l,λz=>n (s a z),ak.a_ s r}
 |.sT ts,_,⟨a,e,t,n⟩=>{a,e,t,λz=>n (s a z)}
 |.ob φ,_,⟨a,e,t,n⟩=>{a,e,t,λz=>n (s a z)}
theorem ak.a_ (s:∀a,W' a->W a):∀{ds:List D} {vs:List V},ak P w W H ds vs->ak P w W' H ds vs
 |[],_,h=>h
 |d::ds,_,⟨v,r,e,h1,h2⟩=>{v,r,e,aE.a_ s h1,ak.a_ s h2}
end
mutual
theorem aE.flat:∀{d:D} {v:V},d.flat=ζ->aE P w W H d v->aE P w W' H d v
 |.cN,_,_,h=>h
 |.bl _,_,_,h=>h
 |.int _,_,_,h=>h
 |.str _,_,_,h=>h
 |.obj _,_,_,h=>h
 |.tup ds,_,f,⟨a,vs,e,t,r⟩=>{a,vs,e,t,ak.flat (by simpa[D.flat] using f) r}
 |.lst ds,_,f,_=>by simp[D.flat]at f
 |.dT ks ds,_,f,_=>by simp[D.flat]at f
 |.dK ks ds,_,f,_=>by simp[D.flat]at f
 |.sT ts,_,f,_=>by simp[D.flat]at f
 |.ob φ,_,f,_=>by simp[D.flat]at f
theorem ak.flat:∀{ds:List D} {vs:List V},D.ck ds=ζ->ak P w W H ds vs->ak P w W' H ds vs
 |[],_,_,h=>h
 |d::ds,_,f,⟨v,r,e,h1,h2⟩=>by
  have f':(d.flat&&D.ck ds)=ζ:=f;rw[aaQ]at f';exact{v,r,e,aE.flat f'.1 h1,ak.flat f'.2 h2}
end
def aE.same (s:aB H H'){d:D}{v:V}(h:aE P w W H d v):aE P w W H' d v:=h.keep s.kp
def ak.same (s:aB H H'){ds:List D}{vs:List V}(h:ak P w W H ds vs):ak P w W H' ds vs:=h.keep s.kp
theorem ak.length:∀{ds:List D} {vs:List V},ak P w W H ds vs->vs.length=ds.length
 |[],_,h=>by rw[show _=[] from h];rfl
 |d::ds,_,⟨v,r,e,h1,h2⟩=>by rw[e,aaa,aaa,ak.length h2]
theorem ak.get:∀{ds:List D} {vs:List V} {i:Nat} {d:D},ak P w W H ds vs->ds[i]?=ν d->∃v,vs[i]?=ν v/\aE P w W H d v
 |[],_,_,_,_,e=>by simp at e
 |d::ds,_,0,_,⟨v,r,e,h1,h2⟩,e'=>by simp at e';subst e' e;exact{v,by simp,h1}
 |d::ds,_,i+1,_,⟨v,r,e,h1,h2⟩,e'=>by
  subst e;obtain⟨u,e1,e2⟩:=ak.get (i:=i) h2 (by simpa using e')
  exact{u,by simpa using e1,e2}
theorem ak.append:∀{ds ds':List D} {vs vs':List V},ak P w W H ds vs->ak P w W H ds' vs'->ak P w W H (ds++ds') (vs++vs')
 |[],_,_,_,h,h'=>by rw[show _=[] from h];exact h'
 |d::ds,_,_,_,⟨v,r,e,h1,h2⟩,h'=>by subst e;exact{v,_,rfl,h1,ak.append h2 h'}
def ak.one {d:D}{v:V}(h:aE P w W H d v):ak P w W H [d] [v]:={v,[],rfl,h,rfl}
theorem ak.take:∀{ds:List D} {vs:List V} (n:Nat),ak P w W H ds vs->ak P w W H (ds.take n) (vs.take n)
 |[],_,n,h=>by rw[show _=[] from h];simp[ak]
 |d::ds,_,0,_=>by simp[ak]
 |d::ds,_,n+1,⟨v,r,e,h1,h2⟩=>by subst e;exact{v,_,rfl,h1,ak.take n h2}
theorem ak.drop:∀{ds:List D} {vs:List V} (n:Nat),ak P w W H ds vs->ak P w W H (ds.drop n) (vs.drop n)
 |[],_,n,h=>by rw[show _=[] from h];simp[ak]
 |d::ds,_,0,h=>h
 |d::ds,_,n+1,⟨v,r,e,h1,h2⟩=>by subst e;exact ak.drop n h2
end
open PySem.SeqAt
abbrev Dm (W:θ->Prop)(H:Hp):Prop:=∀a,W a->H a≠ξ
abbrev Rp (X:Cx)(W:θ->Prop)(H:Hp)(d:D)(v:V):Prop:=aE X.prog X.w W H d v
abbrev w_ (X:Cx)(W:θ->Prop)(H:Hp)(ds:List D)(vs:List V):Prop:=ak X.prog X.w W H ds vs
def V1 (X:Cx)(f:D->Option D):V->Hp->VK->Prop:=λx H Q=>∃W d1 d,Dm W H/\Rp X W H d1 x/\f d1=ν d/\∀v H',aB H H'->Rp X W H' d v->Q v H'
def V0 (X:Cx)(f:D->D->Option D):R2:=λx y H Q=>∃W d1 d2 d,Dm W H/\Rp X W H d1 x/\Rp X W H d2 y/\f d1 d2=ν d/\∀v H',aB H H'->Rp X W H' d v->Q v H'
def XE (X:Cx)(f:List D->Option D):List V->Hp->VK->Prop:=λxs H Q=>∃W ds d,Dm W H/\w_ X W H ds xs/\f ds=ν d/\∀v H',aB H H'->Rp X W H' d v->Q v H'
abbrev bq (X:Cx)(f:ZW->ZW->Sem ZW)(g:D->D->Option D):Prop:=kS X f (V0 X g)
abbrev bU (X:Cx)(f:ZW)(g:List D->Option D):Prop:=f_ X f (XE X g)
section
variable {X:Cx}{W:θ->Prop}{H:Hp}
def zJ {p:θ}(d:Dm W H)(n:H p=ξ):¬ W p:=λz=>d p z n
def Rp.uj {p:θ}{vs:List V}{ds:List D}(d:Dm W H)(n:H p=ξ)(r:w_ X W H ds vs):Rp X W (upd H p (.lst vs)) (.lst ds) (.ref p) :=
 {p,vs,rfl,ar,zJ d n,r.same (aB.new n)}
end
def D.Mp:D->Option Int
 |.int i=>ν i
 |_=>ξ
def D.Mo:D->Option (List D)
 |.lst a=>ν a
 |_=>ξ
def D.EM:D->Option (List D)
 |.tup a=>ν a
 |_=>ξ
def D.Gq:D->Bool
 |.cN=>ζ
 |_=>η
def D.lS {d:D}{i:Int}(h:d.Mp=ν i):d=.int i:=by cases d <;> first|(cases h;rfl)|cases h
def D.qa {d:D}{i:List D}(h:d.Mo=ν i):d=.lst i:=by cases d <;> first|(cases h;rfl)|cases h
def D.lR {d:D}{i:List D}(h:d.EM=ν i):d=.tup i:=by cases d <;> first|(cases h;rfl)|cases h
def D.vR {d:D}(h:d.Gq=ζ):d=.cN:=by cases d <;> first|rfl|cases h
def D.Ia {d:D}:d=.cN↔d.Gq=ζ:={λe=>by rw[e];rfl,D.vR}
def um (f:Int->Int->Option D)(a b:D):Option D:=match a.Mp,b.Mp with
 |some i,ν j=>f i j
 |_,_=>ξ
def mT {f:Int->Int->Option D}{a b d:D}(h:um f a b=ν d):∃i j,a=.int i/\b=.int j/\f i j=ν d:=by
 unfold um at h;cases ha:a.Mp with
 |none=>rw[ha]at h;cases h
 |some i =>
  cases hb:b.Mp with
  |none=>rw[ha,hb]at h;cases h
  |some j=>rw[ha,hb]at h;exact{i,j,D.lS ha,D.lS hb,h}
def L8 (f:D->D->Option D)(g:List D->List D->Option D)(a b:D):Option D:=match a.Mo,b.Mo with
 |some i,ν j=>g i j
 |_,_=>f a b
def Br {f:D->D->Option D}{g:List D->List D->Option D}{a b d:D}(h:L8 f g a b=ν d):(∃i j,a=.lst i/\b=.lst j/\g i j=ν d)\/f a b=ν d:=by
 unfold L8 at h;cases ha:a.Mo with
 |none=>rw[ha]at h;exact .inr h
 |some i =>
  cases hb:b.Mo with
  |none=>rw[ha,hb]at h;exact .inr h
  |some j=>rw[ha,hb]at h;exact .inl {i,j,D.qa ha,D.qa hb,h}
def wO:D->D->Option D:=L8 (um λi j=>ν (.int (i+j))) λa b=>if a.length+b.length<=aak then ν (.lst (a++b)) else ξ
def Vs:D->D->Option D:=um λi j=>ν (.int (i-j))
instance (i j:Int):Decidable (qQ i j):=by unfold qQ;infer_instance
instance (i j:Int):Decidable (Gk i j):=by unfold Gk;infer_instance
def M5:D->D->Option D:=um λi j=>if qQ i j then ν (.int (i*j)) else ξ
def M6:D->D->Option D:=um λi j=>if 0<j then ν (.int (i % j)) else ξ
def Vu:D->Option D
 |.int i=>ν (.int (-i))
 |_=>ξ
section
variable {X:Cx}
def e_ {c:Prop}[Decidable c]{α:Type}{a b:α}(h:(if c then ν a else ξ)=ν b):c/\b=a:=by
 by_cases hc:c
 ·rw[χ hc]at h;cases h;exact{(hc),rfl}
 ·rw[ω hc]at h;cases h
def JD {f:ZW->ZW->Sem ZW}{C:Int->Int->Prop}{g:Int->Int->V}{h:Int->Int->D}{F:Int->Int->Option D}(ho:kS X f (rI C g))(hF:∀i j d,F i j=ν d->C i j/\d=h i j)
  (hg:∀(W:θ->Prop) (H:Hp) i j,Rp X W H (h i j) (g i j)):bq X f (um F):=by
 intro μ s σ H x y v u Q I rx ry hh;obtain⟨W,d1,d2,d,hd,r1,r2,e,q⟩:=hh;obtain⟨i,j,rfl,rfl,e⟩:=mT e;obtain⟨c,rfl⟩:=hF _ _ _ e;cases r1;cases r2;exact ho μ s σ H _ _ v u Q I rx ry {i,j,rfl,rfl,c,q _ _ (aB.refl _) (hg W H i j)}
def DX {f:ZW->ZW->Sem ZW}{g:Int->Int->V}{h:Int->Int->D}(ho:kS X f (Dn g))
  (hg:∀(W:θ->Prop) (H:Hp) i j,Rp X W H (h i j) (g i j)):bq X f (um λi j=>ν (h i j)):=by
 intro μ s σ H x y v u Q I rx ry hh;obtain⟨W,d1,d2,d,hd,r1,r2,e,q⟩:=hh;obtain⟨i,j,rfl,rfl,e⟩:=mT e;cases e;cases r1;cases r2;exact ho μ s σ H _ _ v u Q I rx ry {i,j,rfl,rfl,q _ _ (aB.refl _) (hg W H i j)}
def aY:bq X (acd .Sub) Vs:=DX (h:=λi j=>.int (i-j)) DW λ_ _ _ _=>rfl
def t9:bq X (acd .Mult) M5:=JD (h:=λi j=>.int (i*j)) xX (λ_ _ _ e=>e_ e) λ_ _ _ _=>rfl
def zF:bq X (acd .Mod) M6:=JD (h:=λi j=>.int (i % j)) pO (λ_ _ _ e=>e_ e) λ_ _ _ _=>rfl
def yU:Ra X (unaryOp .USub) (V1 X Vu):=by
 intro μ s σ H x v Q I rx h;obtain⟨W,d1,d,hd,r1,e,q⟩:=h;cases d1 with
 |int i=>cases e;cases r1;exact xB μ s σ H _ v Q I rx {i,rfl,q _ _ (aB.refl _) rfl}
 |_=>cases e
end
def yL (p:Int->Int->Bool):D->D->Option D:=um λi j=>ν (.bl (p i j))
abbrev Se:D->D->Option D:=yL λi j=>decide (i<j)
abbrev W3:D->D->Option D:=yL λi j=>decide (i<=j)
abbrev gD:D->D->Option D:=yL λi j=>decide (j<i)
abbrev Y6:D->D->Option D:=yL λi j=>decide (j<=i)
section
variable {X:Cx}
def lL {p:Int->Int->Bool}{f:ZW->ZW->Sem ZW}(ho:kS X f (Dn λi j=>.bl (p i j))):bq X f (yL p):=DX (h:=λi j=>.bl (p i j)) ho λ_ _ _ _=>rfl
def cY:bq X (aaR .Lt) Se:=lL OJ
def mI:bq X (aaR .LtE) W3:=lL JB
def mJ:bq X (aaR .Gt) gD:=lL JC
def LK:bq X (aaR .GtE) Y6:=lL OK
end
mutual
def D.pd:D->PyData
 |.cN=>.none
 |.bl b=>.bool b
 |.int i=>.int i
 |.str x=>.str x
 |.tup ds=>.tuple (D.i3 ds)
 |.lst ds=>.list (D.i3 ds)
 |_=>.dict []
def D.i3:List D->List PyData
 |[]=>[]
 |d::ds=>d.pd::D.i3 ds
end
abbrev D.rd (d:D):Bool:=shaped d.pd
mutual
theorem b6 {X:Cx}{μ:List (θ×Obj)}{σ:St}{H:Hp}{s:ZZ}(I:Inv X μ σ H s){W:θ->Prop}:∀{d:D} {v:V} {u:ZW},Rp X W H d v->RelV v u->d.pd.canLay0=ζ->∃as,Reads s.heap u d.pd as
 |.cN,_,_,h,r,_=>by cases h;cases r;exact{_,.none}
 |.bl b,_,_,h,r,_=>by cases h;cases r;exact{_,.bool b}
 |.int i,_,_,h,r,_=>by cases h;obtain⟨t,rfl⟩:=r;exact{_,.int i t}
 |.str x,_,_,h,r,_=>by cases h;obtain⟨t,rfl⟩:=r;exact{_,.str x t}
 |.tup ds,_,_,h,r,c=>by
  obtain⟨a,vs,rfl,e,q⟩:=h;cases r;obtain⟨its,rv,⟨o,ho,hc,n,hd⟩,hz⟩:=I.tuple (nk.of e);obtain⟨as,ha⟩:=jg I q rv (by simpa[D.pd,abr] using c)
  exact{_,.tuple ho hc hd (by simpa using ha)}
 |.lst ds,_,_,h,r,c=>by
  obtain⟨a,vs,rfl,e,_,q⟩:=h;cases r;obtain⟨z,its,n,rv,e'⟩:=I.b9 a _ e;obtain⟨as,ha⟩:=jg I q rv (by simpa[D.pd,abr] using c)
  exact{_,.list e' rfl rfl (by simpa using ha)}
 |.obj _,_,_,_,_,c=>by simp[D.pd,abr]at c
 |.dT _ _,_,_,_,_,c=>by simp[D.pd,abr]at c
 |.dK _ _,_,_,_,_,c=>by simp[D.pd,abr]at c
 |.sT _,_,_,_,_,c=>by simp[D.pd,abr]at c
 |.ob _,_,_,_,_,c=>by simp[D.pd,abr]at c
theorem jg {X:Cx}{μ:List (θ×Obj)}{σ:St}{H:Hp}{s:ZZ}(I:Inv X μ σ H s){W:θ->Prop}:∀{ds:List D} {vs:List V} {us:List ZW},w_ X W H ds vs->Vals vs us->ab9 (D.i3 ds)=ζ->∃as,ReadsAll s.heap us (D.i3 ds) as
 |[],_,_,h,r,_=>by
  rw[show _=[] from h]at r
  cases r;exact{_,.nil}
 |d::ds,_,_,⟨v,vr,e,h1,h2⟩,r,c=>by
  subst e;have c':(d.pd.canLay0&&ab9 (D.i3 ds))=ζ:=c;rw[aaQ]at c';cases r with
  |cons r1 r2 =>
   obtain⟨as,ha⟩:=b6 I h1 r1 c'.1;obtain⟨bs,hb⟩:=jg I h2 r2 c'.2;exact{_,.cons ha hb}
end
def NQ (a b:D):Option D:=if a.rd=ζ/\b.rd=ζ then ν (.bl (aa_ a.pd b.pd)) else ξ
def BK (a b:D):Option D:=if a.rd=ζ/\b.rd=ζ then ν (.bl (!aa_ a.pd b.pd)) else ξ
section
variable {X:Cx}
def dG (hu:X.A.units+64<abQ):bq X (aaR .Eq) NQ:=by
 intro μ s σ H x y v u Q I rx ry h;obtain⟨W,d1,d2,d,hd,r1,r2,e,q⟩:=h;obtain⟨⟨s1,s2⟩,rfl⟩:=e_ e;obtain⟨as,ra⟩:=b6 I r1 rx (aaV s1);obtain⟨bs,rb⟩:=b6 I r2 ry (aaV s2);exact compareEq_shaped ra rb s1 s2 hu {.bl _,H,I,rfl,q _ _ (aB.refl _) rfl}
def d7 (hu:X.A.units+64<abQ):bq X (aaR .NotEq) BK:=by
 intro μ s σ H x y v u Q I rx ry h;obtain⟨W,d1,d2,d,hd,r1,r2,e,q⟩:=h;obtain⟨⟨s1,s2⟩,rfl⟩:=e_ e;obtain⟨as,ra⟩:=b6 I r1 rx (aaV s1);obtain⟨bs,rb⟩:=b6 I r2 ry (aaV s2);exact compareNe_shaped ra rb s1 s2 hu {.bl _,H,I,rfl,q _ _ (aB.refl _) rfl}
def Vv (a b:D):Option D:=match b.Gq with
 |true=>ν (.bl a.Gq)
 |false=>ξ
def QX (a b:D):Option D:=match b.Gq with
 |true=>ν (.bl (!a.Gq))
 |false=>ξ
def Rp.HG {W:θ->Prop}{H:Hp}{d:D}{v:V}(h:Rp X W H d v):v=.cN↔d=.cN:=by
 cases d with
 |cN=>cases h;simp
 |bl b=>cases h;simp
 |int i=>cases h;simp
 |str x=>cases h;simp
 |obj a=>cases h;simp
 |tup ds=>obtain⟨a,vs,rfl,_⟩:=h;simp
 |lst ds=>obtain⟨a,vs,rfl,_⟩:=h;simp
 |dT ks ds=>obtain⟨a,vs,rfl,_⟩:=h;simp
 |dK ks ds=>obtain⟨a,vs,rfl,_⟩:=h;simp
 |sT ts=>obtain⟨a,rfl,_⟩:=h;simp
 |ob φ=>obtain⟨a,rfl,_⟩:=h;simp
def vT {b d e:D}(h:(match b.Gq with|true=>ν d|false=>ξ)=ν e):b=.cN/\e=d:=by
 cases q:b.Gq with
 |true=>rw[q]at h;cases h;exact{D.vR q,rfl}
 |false=>rw[q]at h;cases h
def Rp.zI {W:θ->Prop}{H:Hp}{d:D}{v:V}(h:Rp X W H d v):decide (v=.cN)=d.Gq:=by
 have q:=h.HG.trans D.Ia;cases e:d.Gq with
 |true=>exact Γ (q.mpr e)
 |false=>exact Δ λz=>by rw[q.mp z]at e;cases e
def t_:bq X (aaR .Is) Vv:=by
 intro μ s σ H x y v u Q I rx ry h;obtain⟨W,d1,d2,d,hd,r1,r2,e,q⟩:=h;obtain⟨rfl,rfl⟩:=vT e;cases r2;exact LJ μ s σ H _ _ v u Q I rx ry {rfl,q _ _ (aB.refl _) (Ι V.bl r1.zI)}
def pP:bq X (aaR .IsNot) QX:=by
 intro μ s σ H x y v u Q I rx ry h;obtain⟨W,d1,d2,d,hd,r1,r2,e,q⟩:=h;obtain⟨rfl,rfl⟩:=vT e;cases r2;exact Hq μ s σ H _ _ v u Q I rx ry {rfl,q _ _ (aB.refl _) (Ι (λb=>V.bl (!b)) r1.zI)}
end
noncomputable def BL:D->D->Option Bool
 |a,.lst ds=>if a.rd=ζ/\(D.lst ds).rd=ζ then ν ((D.i3 ds).any λy=>aa_ y a.pd) else ξ
 |a,.tup ds=>if a.rd=ζ/\(D.tup ds).rd=ζ then ν ((D.i3 ds).any λy=>aa_ y a.pd) else ξ
 |_,_=>ξ
def Q0 (a b:D):Option D:=(BL a b).map .bl
def iB (a b:D):Option D:=(BL a b).map λc=>.bl (!c)
def oA {ds:List D}{n:PyData}(hn:n=.list (D.i3 ds)\/n=.tuple (D.i3 ds))(h:shaped n=ζ):ab9 (D.i3 ds)=ζ/\abh (D.i3 ds)<=64:=by
 have h1:=aaV h;have h2:=depth_of_shaped h;rcases hn with rfl|rfl
 ·refine{by simpa[abr] using h1,?_}
  have:acJ (.list (D.i3 ds))=abh (D.i3 ds)+1:=by simp[acJ]
  lia
 ·refine{by simpa[abr] using h1,?_}
  have:acJ (.tuple (D.i3 ds))=abh (D.i3 ds)+1:=by simp[acJ]
  lia
section
variable {X:Cx}
def xY (hu:X.A.units+64+1<abQ):bq X (aaR .In) Q0:=by
 intro μ s σ H x y v u Q I rx ry h;obtain⟨W,d1,d2,d,hd,r1,r2,e,q⟩:=h;cases d2 with
 |lst ds =>
  obtain⟨b,e1,rfl⟩:=aai.mp e;obtain⟨⟨s1,s2⟩,rfl⟩:=e_ e1;obtain⟨as,ra⟩:=b6 I r1 rx (aaV s1);obtain⟨bs,rb⟩:=b6 I r2 ry (aaV s2);obtain⟨c1,c2⟩:=oA (.inl rfl) s2;exact in_list_reads rb ra c1 (aaV s1) (by have:=ac2 (abh (D.i3 ds)) d1.pd.depth;lia) {.bl _,H,I,rfl,q _ _ (aB.refl _) rfl}
 |tup ds =>
  obtain⟨b,e1,rfl⟩:=aai.mp e;obtain⟨⟨s1,s2⟩,rfl⟩:=e_ e1;obtain⟨as,ra⟩:=b6 I r1 rx (aaV s1);obtain⟨bs,rb⟩:=b6 I r2 ry (aaV s2);obtain⟨c1,c2⟩:=oA (.inr rfl) s2;exact in_tuple_reads rb ra c1 (aaV s1) (by have:=ac2 (abh (D.i3 ds)) d1.pd.depth;lia) {.bl _,H,I,rfl,q _ _ (aB.refl _) rfl}
 |_=>cases e
def jN (hu:X.A.units+64+1<abQ):bq X (aaR .NotIn) iB:=by
 intro μ s σ H x y v u Q I rx ry h;obtain⟨W,d1,d2,d,hd,r1,r2,e,q⟩:=h;cases d2 with
 |lst ds =>
  obtain⟨b,e1,rfl⟩:=aai.mp e;obtain⟨⟨s1,s2⟩,rfl⟩:=e_ e1;obtain⟨as,ra⟩:=b6 I r1 rx (aaV s1);obtain⟨bs,rb⟩:=b6 I r2 ry (aaV s2);obtain⟨c1,c2⟩:=oA (.inl rfl) s2;exact notIn_list_reads rb ra c1 (aaV s1) (by have:=ac2 (abh (D.i3 ds)) d1.pd.depth;lia) {.bl _,H,I,rfl,q _ _ (aB.refl _) rfl}
 |tup ds =>
  obtain⟨b,e1,rfl⟩:=aai.mp e;obtain⟨⟨s1,s2⟩,rfl⟩:=e_ e1;obtain⟨as,ra⟩:=b6 I r1 rx (aaV s1);obtain⟨bs,rb⟩:=b6 I r2 ry (aaV s2);obtain⟨c1,c2⟩:=oA (.inr rfl) s2;exact notIn_tuple_reads rb ra c1 (aaV s1) (by have:=ac2 (abh (D.i3 ds)) d1.pd.depth;lia) {.bl _,H,I,rfl,q _ _ (aB.refl _) rfl}
 |_=>cases e
def xp (a b:D):Option D:=match b.Mp with
 |some i=>match a.Mo with
  |some ds=>uH ds i
  |none=>match a.EM with
   |some ds=>uH ds i
   |none=>ξ
 |none=>ξ
def FT {a b d:D}(h:xp a b=ν d):∃ds i,(a=.lst ds\/a=.tup ds)/\b=.int i/\uH ds i=ν d:=by
 unfold xp at h;cases hb:b.Mp with
 |none=>rw[hb]at h;cases h
 |some i =>
  rw[hb]at h;cases ha:a.Mo with
  |some ds=>rw[ha]at h;exact{ds,i,.inl (D.qa ha),D.lS hb,h}
  |none =>
   rw[ha]at h;cases ht:a.EM with
   |some ds=>rw[ht]at h;exact{ds,i,.inr (D.lR ht),D.lS hb,h}
   |none=>rw[ht]at h;cases h
def w_.uH {W:θ->Prop}{H:Hp}{ds:List D}{vs:List V}{i:Int}{d:D}(h:w_ X W H ds vs)(e:L2.uH ds i=ν d):∃v,L2.uH vs i=ν v/\Rp X W H d v:=by
 unfold L2.uH at *
 rw[h.length];cases q:Gp ds.length i with
 |none=>rw[q]at e;cases e
 |some j =>
  rw[q]at e;exact ak.get h e
def Mm:Kj X (V0 X xp):=by
 intro value slice μ s σ H x y v u Q I rx ry h hs;obtain⟨W,d1,d2,d,hd,r1,r2,e,q⟩:=h;obtain⟨ds,i,h,rfl,e⟩:=FT e;cases r2;rcases h with rfl|rfl
 ·obtain⟨p,vs,rfl,h1,n1,q1⟩:=r1;obtain⟨z,hz,rz⟩:=w_.uH (X:=X) q1 e;exact ip value slice μ s σ H _ _ v u Q I rx ry {p,vs,i,z,rfl,rfl,fb.of h1,hz,q _ _ (aB.refl _) rz} hs
 ·obtain⟨p,vs,rfl,h1,q1⟩:=r1;obtain⟨z,hz,rz⟩:=w_.uH (X:=X) q1 e;exact EJ value slice μ s σ H _ _ v u Q I rx ry {p,vs,i,z,rfl,rfl,nk.of h1,hz,q _ _ (aB.refl _) rz} hs
def cutD (xs:List D)(lo hi:Option Int):List D:=(xs.drop (HT.pA xs.length 0 lo)).take (HT.pA xs.length xs.length hi-HT.pA xs.length 0 lo)
def M4:D->Option Int->Option Int->Option D
 |.lst ds,lo,hi=>ν (.lst (cutD ds lo hi))
 |_,_,_=>ξ
def IS:List D->Option D
 |[.lst ds]=>ν (.int ds.length)
 |[.tup ds]=>ν (.int ds.length)
 |_=>ξ
def gZ:bU X (.builtin "len") IS:=by
 intro μ s σ H xs us Q I r h;obtain⟨W,ds,d,hd,r1,e,q⟩:=h
 match ds,e with
 |[.lst es],e =>
  cases e;obtain⟨v,r',rfl,⟨p,vs,rfl,h1,n1,q1⟩,hr⟩:=r1;cases hr;refine l8 μ s σ H _ us Q I r {p,vs,rfl,.inl (fb.of h1),?_};rw[q1.length];exact q _ _ (aB.refl _) rfl
 |[.tup es],e =>
  cases e;obtain⟨v,r',rfl,⟨p,vs,rfl,h1,q1⟩,hr⟩:=r1;cases hr;refine l8 μ s σ H _ us Q I r {p,vs,rfl,.inr (nk.of h1),?_};rw[q1.length];exact q _ _ (aB.refl _) rfl
def J9:List D->Option D
 |[.int i,.int j]=>ν (.int (if j>i then j else i))
 |_=>ξ
def J8:List D->Option D
 |[.int i,.int j]=>ν (.int (if j<i then j else i))
 |_=>ξ
def AB {W:θ->Prop}{H:Hp}{a b:D}{xs:List V}(h:w_ X W H [a,b] xs):∃x y,xs=[x,y]/\Rp X W H a x/\Rp X W H b y:=by
 obtain⟨x,r,rfl,hx,y,r',rfl,hy,hr⟩:=h;cases hr;exact{(x),y,rfl,hx,hy}
def nQ {W:θ->Prop}{H:Hp}{a:D}{xs:List V}(h:w_ X W H [a] xs):∃x,xs=[x]/\Rp X W H a x:=by
 obtain⟨x,r,rfl,hx,hr⟩:=h;cases hr;exact{(x),rfl,hx}
def iD (hc:X.calm=ζ):bU X (.builtin "max") J9:=by
 intro μ s σ H xs us Q I r h;obtain⟨W,ds,d,hd,r1,e,q⟩:=h
 match ds,e with
 |[.int i,.int j],e =>
  cases e;obtain⟨x,y,rfl,hx,hy⟩:=AB r1;cases hx;cases hy;exact tm hc μ s σ H _ us Q I r {i,j,rfl,q _ _ (aB.refl _) rfl}
def d_ (hc:X.calm=ζ):bU X (.builtin "min") J8:=by
 intro μ s σ H xs us Q I r h;obtain⟨W,ds,d,hd,r1,e,q⟩:=h
 match ds,e with
 |[.int i,.int j],e =>
  cases e;obtain⟨x,y,rfl,hx,hy⟩:=AB r1;cases hx;cases hy;exact BU hc μ s σ H _ us Q I r {i,j,rfl,q _ _ (aB.refl _) rfl}
def Vw:List D->Option D
 |[.int i]=>ν (.int i)
 |[.bl k]=>ν (.int (if k then 1 else 0))
 |_=>ξ
def BY:bU X (.type "int") Vw:=by
 intro μ s σ H xs us Q I r h;obtain⟨W,ds,d,hd,r1,e,q⟩:=h
 match ds,e with
 |[.int i],e =>
  cases e;obtain⟨x,rfl,hx⟩:=nQ r1;cases hx;exact m_ μ s σ H _ us Q I r (.inl {i,rfl,q _ _ (aB.refl _) rfl})
 |[.bl k],e =>
  cases e;obtain⟨x,rfl,hx⟩:=nQ r1;cases hx;exact m_ μ s σ H _ us Q I r (.inr {k,rfl,q _ _ (aB.refl _) rfl})
end
def PE.pre {X:Cx}{e:Expr}{t t':TE}(h:PE X e t)(k:∀σ H Q,t' σ H Q->t σ H Q):PE X e t':=λμ s σ H Q I q=>h μ s σ H Q I (k σ H Q q)
def PT.pre {X:Cx}{e:Expr}{t t':TT}(h:PT X e t)(k:∀σ H Q,t' σ H Q->t σ H Q):PT X e t':=λμ s σ H Q I q=>h μ s σ H Q I (k σ H Q q)
def PA.pre {X:Cx}{es:List Expr}{t t':TA}(h:PA X es t)(k:∀σ H Q,t' σ H Q->t σ H Q):PA X es t':=λpos μ s σ H Q I q=>h pos μ s σ H Q I (k σ H Q q)
section
variable {X:Cx}{e:Expr}{σ:St}{H:Hp}
def PW.pre {t t':TT}(h:PW X e t)(k:∀σ H Q,t' σ H Q->t σ H Q):PW X e t':=λw μ s σ H Q I q=>h w μ s σ H Q I (k σ H Q q)
end
abbrev FD:=List D->(D->Prop)->Prop
def c0 (F:FD):Prop:=∀ds R R',(∀d,R d->R' d)->F ds R->F ds R'
section
variable {X:Cx}{e:Expr}{pos:Pos}{σ:St}{H:Hp}
def Ki.pre {ops:List acQ}{rs:List Expr}{t t':V->TE}(h:Ki X ops rs t)(k:∀x σ H Q,t' x σ H Q->t x σ H Q):Ki X ops rs t':=λpos μ s σ H x v Q I r q=>h pos μ s σ H x v Q I r (k x σ H Q q)
def xh.pre {ops:List acQ}{rs:List Expr}{t t':V->TT}(h:xh X ops rs t)(k:∀x σ H Q,t' x σ H Q->t x σ H Q):xh X ops rs t':=λpos μ s σ H x v Q I r q=>h pos μ s σ H x v Q I r (k x σ H Q q)
def PO.pre {e:Option Expr}{t t':TO}(h:PO X e t)(k:∀σ H Q,t' σ H Q->t σ H Q):PO X e t':=λμ s σ H Q I q=>h μ s σ H Q I (k σ H Q q)
end
abbrev NF:D->Prop:=λd=>d.flat=ζ
section
abbrev NL:D->Prop:=λd=>match d with | .lst ds=>D.ck ds=ζ|d=>d.flat=ζ
end
section
variable {P:Z6}{w:aam}{W W':θ->Prop}{H:Hp}
mutual
theorem aE.grow (s:∀a,W' a->W a\/H a=ξ):∀{d:D} {v:V},aE P w W H d v->aE P w W' H d v
 |.cN,_,h=>h
 |.bl _,_,h=>h
 |.int _,_,h=>h
 |.str _,_,h=>h
 |.obj _,_,h=>h
 |.tup ds,_,⟨a,vs,e,t,r⟩=>{a,vs,e,t,ak.grow s r}
 |.lst ds,_,⟨a,vs,e,t,n,r⟩=>{a,vs,e,t,λz=>(s a z).elim n λq=>(by rw[t]at q;cases q),ak.grow s r}
 |.dT ks ds,_,⟨a,vs,e,t,l,n,r⟩=>{a,vs,e,t,l,λz=>(s a z).elim n λq=>(by rw[t]at q;cases q),ak.grow s r}
 |.dK ks ds,_,⟨a,vs,e,t,l,n,r⟩=>{a,vs,e,t,l,λz=>(s a z).elim n λq=>(by rw[t]at q;cases q),ak.grow s r}
 |.sT ts,_,⟨a,e,⟨bB,t,r,z⟩,n⟩=>{a,e,{(bB),t,r,z},λz=>(s a z).elim n λq=>(by rw[t]at q;cases q)}
 |.ob φ,_,⟨a,e,⟨t,z⟩,n⟩=>{a,e,{(t),z},λz=>(s a z).elim n λq=>(by rw[t]at q;cases q)}
theorem ak.grow (s:∀a,W' a->W a\/H a=ξ):∀{ds:List D} {vs:List V},ak P w W H ds vs->ak P w W' H ds vs
 |[],_,h=>h
 |d::ds,_,⟨v,r,e,h1,h2⟩=>{v,r,e,aE.grow s h1,ak.grow s h2}
end
end
def Za (X:Cx)(W:θ->Prop)(J:It)(ds:List D)(H0:Hp):Prop:=∀(i:Nat) (H:Hp),Kp W H0 H ->
 (∀d,ds[i]?=ν d->J.go i H/\∀x H1,J.N4 i H x H1->aB H H1/\Rp X W H1 d x)/\(ds.length<=i->J.stop i H)
def Cq (X:Cx)(W:θ->Prop)(J:It)(ds:List D)(H0:Hp):Prop:=∀W':θ->Prop,(∀b,W' b->W b\/H0 b=ξ)->Za X W' J ds H0
section
variable {X:Cx}{tg e:Expr}
def PI.pre {iter:Expr}{t t':TI}(h:PI X tg iter t)(k:∀σ H R,t' σ H R->t σ H R):PI X tg iter t':=λμ s σ H R I q=>h μ s σ H R I (k σ H R q)
def vQ {W:θ->Prop}{H:Hp}{p:θ}{vs:List V}{ds:List D}(h1:H p=ν (.lst vs))(n1:¬ W p)(q1:w_ X W H ds vs):Cq X W (So X.K p) ds H:=λW' hW i H' k=>by
 have h2:=k.out p _ h1 λz=>(hW p z).elim n1 λq=>by rw[h1]at q;cases q
 replace q1:=ak.grow hW q1;constructor
 ·intro d hd;obtain⟨v,hv,rv⟩:=ak.get q1 hd;refine{{vs,v,fb.of h2,hv},λx H1 y=>?_};obtain⟨rfl,y⟩:=y;have e:=y vs (fb.of h2);rw[hv]at e;cases e;exact{aB.refl _,rv.keep k}
 ·intro hl;exact{vs,fb.of h2,by rw[q1.length];exact hl}
def nS (lo:Int)(n:Nat):List D:=(Z_ n).map λ(k:Nat)=>D.int (lo+(k:Int))
def mR {W:θ->Prop}{H:Hp}{lo:Int}{n:Nat}:Cq X W (Rk lo n) (nS lo n) H:=λ_ _ i H' k=>by
 constructor
 ·intro d hd;unfold nS at hd;rw[aah]at hd;have hi:i<n:=by
   by_cases h:i<n
   ·exact h
   ·rw[abq (by simpa using h)]at hd;cases hd
  rw[abI hi]at hd;cases hd;refine{hi,λx H1 y=>?_};obtain⟨rfl,rfl⟩:=y;exact{aB.refl _,rfl}
 ·intro hl;unfold nS at hl;rw[ZU,aaD]at hl;exact hl
end
section
variable {X:Cx}{tg:Expr}{AL:List Expr}
def PG.pre {t t':TG}(h:PG X tg t)(k:∀v σ H Q,t' v σ H Q->t v σ H Q):PG X tg t':=λμ s σ H v u Q I r q=>h μ s σ H v u Q I r (k v σ H Q q)
def Kh.pre {t t':Ke}(h:Kh X AL t)(k:∀v σ H Q,t' v σ H Q->t v σ H Q):Kh X AL t':=λμ s σ H v u Q I r q=>h μ s σ H v u Q I r (k v σ H Q q)
end
def pZ {H:Hp}{a:θ}{o o':HO}(h:H a=ν o)(ht:∀xs,o≠.tup xs):Kp (·=a) H (upd H a o') :=
 {λb u e n=>by rw[aD n];exact e,λb xs e=>by rw[aD (JF e h (λz=>ht xs z.symm))];exact e}
section
variable {σ:St}{β:ba}{own:Nat->List θ}
def a5 (own:Nat->List θ)(i:Nat)(as:List θ):Nat->List θ:=λj=>if j=i then as else own j
def cI {own:Nat->List θ}{i j:Nat}{a:θ}(h:a∈a5 own i [] j):a∈own j/\j≠i:=by
 unfold a5 at h
 by_cases e:j=i
 ·rw[χ e]at h;cases h
 ·rw[ω e]at h;exact{(h),e}
def bR {α:Type}{β:List α}{i j:Nat}{x:α}(h:i≠j):(β.set i x)[j]?=β[j]?:=by rw[acN,ω h]
def bY {α:Type}{β:List α}{i:Nat}{x y:α}(h:(β.set i x)[i]?=ν y):y=x/\i<β.length:=by
 rw[acN,χ rfl]at h
 by_cases hi:i<β.length
 ·rw[χ hi]at h;cases h;exact{(rfl),hi}
 ·rw[ω hi]at h;cases h
def get_set {α:Type}{σ:List α}{i:Nat}{x:α}(h:i<σ.length):(σ.set i x)[i]?=ν x:=by rw[acN,χ rfl,χ h]
end
structure Sn (Z:Hp×(θ->Prop))(H:Hp)(W:θ->Prop):Prop where
 w:∀b,W b->Z.2 b\/Z.1 b=ξ
 k:Kp (λb=>Z.2 b\/Z.1 b=ξ) Z.1 H
 d:∀b,Z.1 b≠ξ->H b≠ξ
def Sn.refl {H:Hp}{W:θ->Prop}:Sn (H,W) H W:={λ_ z=>.inl z,Kp.refl,λ_ z=>z}
def Sn.same {Z:Hp×(θ->Prop)}{H H':Hp}{W:θ->Prop}(n:Sn Z H W)(s:aB H H'):Sn Z H' W:={n.w,n.k.trans s.kp,λb z e=>n.d b z (s.free e)}
def Sn.free {Z:Hp×(θ->Prop)}{H:Hp}{W:θ->Prop}(n:Sn Z H W){a:θ}(h:H a=ξ):Z.1 a=ξ:=by
 cases q:Z.1 a with
 |none=>rfl
 |some o=>exact Η h (n.d a (by rw[q];intro z;cases z))
def Sn.upd {Z:Hp×(θ->Prop)}{H:Hp}{W:θ->Prop}(n:Sn Z H W){a:θ}{o o':HO}(h:H a=ν o)(ht:∀xs,o≠.tup xs)(wa:W a):Sn Z (L2.upd H a o') W :=
 ⟨n.w,n.k.trans ((pZ h ht).mono λb z=>by rw[z];exact n.w a wa),λb z e=>by
  by_cases hb:b=a
  ·subst hb;rw[ar]at e;cases e
  ·rw[aD hb]at e;exact n.d b z e⟩
def Sn.trans {Z:Hp×(θ->Prop)}{H1 H:Hp}{W1 W:θ->Prop}(n1:Sn Z H1 W1)(n:Sn (H1,W1) H W):Sn Z H W:=by
 have big:∀b,W1 b\/H1 b=ξ->Z.2 b\/Z.1 b=ξ:=λb z=>z.elim (n1.w b) λq=>.inr (n1.free q);exact{λb z=>big b (n.w b z),n1.k.trans (n.k.mono big),λb z=>n.d b (n1.d b z)}
section
variable {X:Cx}{st:Stmt}{rest:List Stmt}{σ:St}{H:Hp}
def PS.pre {t t':TS}(h:PS X st t)(k:∀D σ H,t' D σ H->t D σ H):PS X st t':=λμ s σ H D I q=>h μ s σ H D I (k D σ H q)
def uO.pre {t t':TS}(h:uO X rest t)(k:∀D σ H,t' D σ H->t D σ H):uO X rest t':=λμ s σ H D I q=>h μ s σ H D I (k D σ H q)
end
section
variable {b:Expr}{H:Hp}
def held {P:Z6}{w:aam}{W W2:θ->Prop}{H2:Hp}{d:D}{v:V}(r:aE P w W H d v)(n:Sn (H,W) H2 W2):aE P w W2 H2 d v :=
 aE.a_ n.w (aE.keep n.k (aE.grow (λb z=>z) r))
end
def Sn.kp {Z:Hp×(θ->Prop)}{H H':Hp}{W:θ->Prop}(n:Sn Z H W)(k:Kp W H H')(dn:∀c,H c≠ξ->H' c≠ξ):Sn Z H' W:={n.w,n.k.trans (k.mono n.w),λb z=>dn b (n.d b z)}
end L2
namespace Nl
open PySem PySem.Spec PyProof.Rows
def lexLe:List Int->List Int->Bool
 |[],_=>ζ
 |_::_,[]=>η
 |x::xs,y::ys=>if x=y then lexLe xs ys else decide (x<=y)
def ED (x y:Int)(xs ys:List Int):lexLe (x::xs) (y::ys)=if x=y then lexLe xs ys else decide (x<=y):=rfl
def EA:lexLe [] []=ζ:=rfl
def EB (y:Int)(ys:List Int):lexLe [] (y::ys)=ζ:=rfl
def EC (x:Int)(xs:List Int):lexLe (x::xs) []=η:=rfl
def Dl (A:aaX)(s:ZZ)(a:Int)(t:Tok)(c:Int)(u:Tok)(prog:Z6)(w:aam)(E:ZW->ZZ->Prop)(Q:ZW->ZZ->Prop)(h:Q (.bool (decide (a<=c))) s):
  aau (Ψ prog w) A (richCompare .LtE (.int a t) (.int c u)) Q E s :=
 (PyProof.Rows.le_int h:aau (Ψ prog w) A (aaR .LtE (.int a t) (.int c u)) Q E s)
section
open PySem.SeqAt
open PySem.AutoSeq1 (wpAny_loadPart')
open PySem.MeetsSeq PySem.MeetsSeq2 PySem.MeetsSeq3
def qZ (l b:θ)(items dM:Array ZW)(n n2:Nat)(dd Vr:Option θ)(sl S3:Array (Option ZW))(ns ms:List Int)(hi:abA items.toList ns)(hj:abA dM.toList ms):
  Meets (ab1.«tuple.__le__» {[.ref l,.ref b],[]})
   (λ_ R s=>s.heap.get? l=ν {cls:=.type "tuple",dict:=dd,data:=.seq items n,slots:=sl}/\s.heap.get? b=ν {cls:=.type "tuple",dict:=Vr,data:=.seq dM n2,slots:=S3} /\
    R (.ok (.ret (.bool (lexLe ns ms)))) s) :=
 .of_wp λprog w A R s h=>by
  obtain⟨hp,g,d,tk,os⟩:=s;obtain⟨hl,hb,h⟩:=h;have f2:=AutoSeq1.sub_tuple_tuple;have z1:items.size=ns.length:=by rw[<- hi.length];simp
  have z2:dM.size=ms.length:=by rw[<- hj.length];simp
  wp_walk using acz hl,acz hb,adC _ (λrest b s'=>b.1=ξ/\s'={(hp),g,d,tk,os}/\∃(vs ws:List ZW) (jO HP:List Int),rest=vs.zip ws /\
   abA vs jO/\abA ws HP/\jO.length+dM.size=HP.length+items.size/\R (.ok (.ret (.bool (lexLe jO HP)))) {(hp),g,d,tk,os}) _
  case turn =>
   rintro⟨y,x⟩ rest b s' ⟨qU,rfl,vs,ws,jO,HP,hz,Ue,RV,hlen,hR⟩;cases Ue with
   |nil=>rw[adt]at hz;cases hz
   |cons a t Ud =>
    cases RV with
    |nil=>rw[List.zip_nil_right]at hz;cases hz
    |cons c u Ua =>
     rw[abZ]at hz;injection hz with Yb vX
     injection Yb with hy hx
     subst hy hx;rw[ED]at hR;simp only[aaa]at hlen;obtain⟨e,he,QH⟩:=HT.FA A.in1 {(hp),g,d,tk,os} a t c u;refine ZV (he prog w _ _ ?_);cases e with
     |true =>
      rw[χ (QH.mp rfl)]at hR
      wp_walk
      exact{rfl,rfl,_,_,_,_,vX,Ud,Ua,by lia,hR}
     |false =>
      rw[ω (λq=>Η (QH.mpr q) abg)]at hR;have Yl:=Dl A.in1 {(hp),g,d,tk,os} a t c u prog w
      wp_walk using Yl
      exact{_,rfl,by simpa using hR}
  case fin =>
   rintro⟨b1,b2⟩ s' ⟨qU,rfl,vs,ws,jO,HP,hz,Ue,RV,hlen,hR⟩;simp only at qU;subst qU;have hv:lexLe jO HP=decide (items.size<=dM.size):=by
    cases Ue with
    |nil =>
     cases RV with
     |nil =>
      simp only[acD]at hlen;rw[EA];exact(Γ (by lia)).symm
     |cons c u hw =>
      simp only[acD,aaa]at hlen;rw[EB];exact(Γ (by lia)).symm
    |cons a t hv =>
     cases RV with
     |nil =>
      simp only[acD,aaa]at hlen;rw[EC];exact(Δ (by lia)).symm
     |cons c u hw =>
      rw[abZ]at hz;cases hz
   rw[hv]at hR
   wp_walk
   exact{_,rfl,by simpa[Builtin.Tuple.tupleCompareSizes] using hR}
  case h =>
   exact{rfl,rfl,items.toList,dM.toList,ns,ms,rfl,hi,hj,by lia,h}
end
section
variable {prog:Z6}{w:aam}{A:aaX}{E:ZW->ZZ->Prop}{s:ZZ}
def yg {l b:θ}{items dM:Array ZW}{ns ms:List Int}{Q:ZW->ZZ->Prop}(hl:IsTup s.heap l items)(hb:IsTup s.heap b dM)(hi:abA items.toList ns)(hj:abA dM.toList ms)
  (hu:A.units<abQ) (h:Q (.bool (lexLe ns ms)) s):aau (Ψ prog w) A (aaR .LtE (.ref l) (.ref b)) Q E s:=by
 obtain⟨⟨cls,dd,data,sl⟩,ho,hc,n,hd⟩:=id hl;obtain⟨⟨Y8,Vr,data2,S3⟩,NA,uL,n2,hd2⟩:=id hb;simp only at hc hd uL hd2;subst hc hd uL hd2;exact richCompare_meets_room (op:=.LtE) {_,ho,rfl} {_,NA,rfl} PySem.F.slot_tuple_le PySem.F.entry_tuple_le (PySem.F.args_tuple_le_2 _ _) (qZ l b items dM n n2 dd Vr sl S3 ns ms hi hj)
  {ho,NA,show Value.bool (lexLe ns ms)≠Value.notImplemented/\Q (.bool (lexLe ns ms)) s from {(λx=>nomatch x),h}} hu
end
end Nl
namespace L2
open PySem PySem.Spec PySem.SeqAt PyProof.Rows
noncomputable def cB:List D->Option (List Int)
 |[]=>ν []
 |.int i::ds=>(cB ds).map (i::·)
 |_::_=>ξ
theorem lT:∀{ds:List D} {ns:List Int},cB ds=ν ns->ds=ns.map D.int
 |[],_,h=>by cases h;rfl
 |.int i::ds,_,h=>by
  obtain⟨ns,h1,rfl⟩:=aai.mp h;rw[aap,<- lT h1]
 |.cN::_,_,h=>by cases h
 |.bl _::_,_,h=>by cases h
 |.str _::_,_,h=>by cases h
 |.obj _::_,_,h=>by cases h
 |.tup _::_,_,h=>by cases h
 |.lst _::_,_,h=>by cases h
 |.dT _ _::_,_,h=>by cases h
 |.dK _ _::_,_,h=>by cases h
 |.sT _::_,_,h=>by cases h
 |.ob _::_,_,h=>by cases h
theorem jP:∀(ns:List Int),cB (ns.map D.int)=ν ns
 |[]=>rfl
 |n::ns=>by rw[aap];show (cB (ns.map D.int)).map _=_;rw[jP ns];rfl
theorem bj {P:Z6}{w:aam}{W:θ->Prop}{H:Hp}:∀{ns:List Int} {vs:List V},ak P w W H (ns.map D.int) vs->vs=ns.map V.int
 |[],_,h=>h
 |n::ns,_,⟨v,r,e,h1,h2⟩=>by rw[e,bj h2,show v=V.int n from h1];rfl
theorem sO {P:Z6}{w:aam}{W:θ->Prop}{H:Hp}:∀(ns:List Int),ak P w W H (ns.map D.int) (ns.map V.int)
 |[]=>rfl
 |n::ns=>{_,_,rfl,rfl,sO ns}
noncomputable def Av (p:Int->Int->Bool)(lex:List Int->List Int->Bool)(a b:D):Option D:=match a.EM,b.EM with
 |some a,ν b=>match cB a,cB b with
  |some ns,ν ms=>ν (.bl (lex ns ms))
  |_,_=>ξ
 |_,_=>yL p a b
def AK {p:Int->Int->Bool}{lex:List Int->List Int->Bool}{a b d:D}(h:Av p lex a b=ν d):(∃i j ns ms,a=.tup i/\b=.tup j/\cB i=ν ns/\cB j=ν ms/\d=.bl (lex ns ms))\/yL p a b=ν d:=by
 unfold Av at h;cases ha:a.EM with
 |none=>rw[ha]at h;exact .inr h
 |some i =>
  cases hb:b.EM with
  |none=>rw[ha,hb]at h;exact .inr h
  |some j =>
   rw[ha,hb]at h;cases ea:cB i with
   |none=>simp only[ea]at h;cases h
   |some ns =>
    cases eb:cB j with
    |none=>simp only[ea,eb]at h;cases h
    |some ms=>simp only[ea,eb]at h;cases h;exact .inl {i,j,ns,ms,D.lR ha,D.lR hb,ea,eb,rfl}
abbrev QY:D->D->Option D:=Av (λi j=>decide (i<=j)) Nl.lexLe
section
variable {X:Cx}
def DY {p:Int->Int->Bool}{lex:List Int->List Int->Bool}{op:acQ}(ho:kS X (aaR op) (Dn λi j=>.bl (p i j)))
  (ht:∀(s:ZZ) (E:ZW->ZZ->Prop) (l b:θ) (items dM:Array ZW) (ns ms:List Int) (Q:ZW->ZZ->Prop),IsTup s.heap l items->IsTup s.heap b dM->abA items.toList ns->abA dM.toList ms->Q (.bool (lex ns ms)) s->aau (Ψ X.prog X.w) X.A (aaR op (.ref l) (.ref b)) Q E s) :
  bq X (aaR op) (Av p lex):=by
 intro μ s σ H x y v u Q I rx ry h;obtain⟨W,d1,d2,d,hd,r1,r2,e,q⟩:=h;rcases AK e with⟨a,b,ns,ms,rfl,rfl,ea,eb,rfl⟩|e
 ·rw[lT ea]at r1;rw[lT eb]at r2;obtain⟨pa,vs,rfl,ha,ra⟩:=r1;obtain⟨pb,us,rfl,hb,rb⟩:=r2;rw[bj ra]at ha;rw[bj rb]at hb;cases rx;cases ry;obtain⟨its,q1,p1,_⟩:=I.tuple (nk.of ha);obtain⟨vP,q2,p2,_⟩:=I.tuple (nk.of hb);exact ht s _ pa pb _ _ ns ms _ p1 p2 (by simpa using intsAre_of q1) (by simpa using intsAre_of q2) {.bl _,H,I,rfl,q _ _ (aB.refl _) rfl}
 ·exact lL ho μ s σ H x y v u Q I rx ry {W,_,_,d,hd,r1,r2,e,q}
def Hr (hu:X.A.units<abQ):bq X (aaR .LtE) QY:=DY JB λs E l b items dM ns ms Q h1 h2 h3 h4 h5=>Nl.yg h1 h2 h3 h4 hu h5
end
end L2
namespace TS
open PySem PyProof.Rows
section
variable {prog:Z6}{w:aam}{A:aaX}{E:ZW->ZZ->Prop}{s:ZZ}
def xI {x:ZW}{vs:List ZW}{kf:ZW->List Int}{Q:ZW->ZZ->Prop}(hz:vs.length<=1000000)
  (col:∀(B:aaX) (R:List ZW->ZZ->Prop),B.units<=A.units+1->(∀(h':Heap) (tk:Nat),(∀b o,s.heap.get? b=ν o->h'.get? b=ν o)->s.heap.objs.size<=h'.objs.size->R vs {s with heap:=h',toks:=tk})->aau (Ψ prog w) B (collect x) R E s)
  (T:rM s.heap kf s.heap.objs.size vs)
  (h:∀(out:List ZW) (l:θ) (h':Heap) (tk:Nat) (n:Nat),out.Perm vs->out.Pairwise (λx y=>HT.lexLt (kf y) (kf x)=η)->s.heap.objs.size<=l->(∀b o,s.heap.get? b=ν o->h'.get? b=ν o)->h'.get? l=ν (abJ "list" out.toArray n)->Q (.ref l) {s with heap:=h',toks:=tk}) :
  aau (Ψ prog w) A (call (.builtin "sorted") [x]) Q E s:=by
 refine adi kind_sorted plain_sorted entry_sorted (args_sorted1 _) ?_;unfold ab1.«sorted»
 refine ZV (m:=checkCount "sorted" 1 1 _) (Z0 ?_);refine ZV (col A.in1 _ (ZX _) λh' tk kp X2=>?_);have nl:vs.length<=aak:=by rw[aaT];lia
 refine ZV (wpAny_newList ?_ nl);have hl:(h'.push (abJ "list" vs.toArray 0)).get? h'.objs.size=ν (abJ "list" vs.toArray 0):=aay _ rfl;have T':rM (h'.push (abJ "list" vs.toArray 0)) kf h'.objs.size vs:=λv hv=>by
  obtain⟨t,o,xs,k,e1,_,e3,r⟩:=T v hv;exact{t,o,xs,k,e1,aaL (aaq (kp _ _ e3)),Z3 _ (kp _ _ e3),r}
 refine ZV (aa2 (abv slot_list_sort {_,hl,rfl} entry_list_sort (pW (s:={s with heap:=h'.push (abJ "list" vs.toArray 0),toks:=tk}) hl hz T' λout hp hs=>{_,rfl,?_}) (args_list_sort _)))
 obtain⟨n,hn⟩:=sortedHeap_at (out:=out.toArray) hl;refine Z0 {_,rfl,h out h'.objs.size _ tk n hp hs X2 (λb o e=>?_) hn};have hb:=aaq (kp _ _ e);rw[sortedHeap_old (aaL hb) (by rw[size_push'];exact acK hb)]
 exact Z3 _ (kp _ _ e)
end
end TS
namespace L2
open PySem PySem.Spec PyProof.Rows
def yh (H:Hp):ZW->List Int
 |.ref t=>match H t with
  |some (.tup xs)=>xs.filterMap fun
   |.int i=>ν i
   |_=>ξ
  |_=>[]
 |_=>[]
theorem wm:∀ns:List Int,((ns.map V.int).filterMap fun
   |.int i=>ν i
   |_=>ξ)=ns
 |[]=>rfl
 |n::ns=>by
  rw[aap,aa1];dsimp only;rw[wm ns]
def p0 {H:Hp}{t:θ}{ns:List Int}(h:H t=ν (.tup (ns.map V.int))):yh H (.ref t)=ns:=by
 unfold yh;dsimp only;rw[h];exact wm ns
def JY (H:Hp):ZW->θ×List Int
 |.ref t=>(t,yh H (.ref t))
 |_=>(0,[])
abbrev B7 (H:Hp)(ts:List (θ×List Int)):Prop:=∀t∈ts,H t.1=ν (.tup (t.2.map V.int))/\t.2≠[]
abbrev u0 (t:θ×List Int):V:=.ref t.1
theorem mm:∀{ts:List (θ×List Int)} {us:List ZW},Vals (ts.map u0) us->us=ts.map λt=>Φ t.1
 |[],_,.nil=>rfl
 |t::ts,_,.cons r q=>by
  rw[aap,<- mm q];cases r;rfl
theorem mC:∀(ts:List (θ×List Int)),Vals (ts.map u0) (ts.map λt=>Φ t.1)
 |[]=>.nil
 |t::ts=>.cons rfl (mC ts)
def sj {H:Hp}{ts:List (θ×List Int)}(T:B7 H ts){out:List ZW}(hp:out.Perm (ts.map λt=>Φ t.1)):out=(out.map (JY H)).map (λt=>Φ t.1)/\(out.map (JY H)).Perm ts:=by
 constructor
 ·rw[aaK];refine(aaN (g:=id) λv hv=>?_).trans (List.map_id _) |>.symm
  obtain⟨t,ht,rfl⟩:=Z2.mp (hp.mem_iff.mp hv);rfl
 ·refine(hp.map (JY H)).trans (List.Perm.of_eq ?_);rw[aaK];refine(aaN (g:=id) λt ht=>?_).trans (List.map_id _);show (t.1,yh H (.ref t.1))=t;rw[p0 (T t ht).1]
def yV {P:Z6}{w:aam}{H:Hp}{h:Heap}{ts:List (θ×List Int)}(ok:kZ P w H h)(T:B7 H ts){a:θ}(ha:h.objs.size<=a):TS.rM h (yh H) a (ts.map λt=>Φ t.1):=λv hv=>by
 obtain⟨t,ht,rfl⟩:=Z2.mp hv;obtain⟨h1,h2⟩:=T t ht;obtain⟨_,its,r,o,ho,hc,n,hd⟩:=(show cn P w H h t.1 (.tup (t.2.map V.int)) from ok _ _ h1)
 exact{t.1,o,_,n,rfl,aaL (aaG (aaq ho) ha),ho,hc,hd,by rw[p0 h1];exact intsAre_of (by simpa using r),by rw[p0 h1];exact h2}
section
variable {X:Cx}
def uF:f_ X (.builtin "sorted") (λxs H Q=>∃(p:θ) (ts:List (θ×List Int)),xs=[.ref p]/\fb X.K H p (ts.map u0)/\B7 H ts/\ts.length<=1000000 /\
  ∀(l:θ) (bB:List (θ×List Int)),H l=ξ->bB.Perm ts->bB.Pairwise (λx y=>HT.lexLt y.2 x.2=η)->Q (.ref l) (upd H l (.lst (bB.map u0)))):=by
 intro μ s σ H xs us Q I r h;obtain⟨p,ts,rfl,hq,T,hz,q⟩:=h;obtain⟨u,rfl,rx⟩:=vals1 r;cases rx;obtain⟨its,r',pl,hl⟩:=I.list hq;obtain rfl:=mm r';have nl:(ts.map λt=>Φ t.1).length<=aak:=by rw[ZU,aaT];lia
 refine TS.xI (kf:=yh H) (by rw[ZU];exact hz) (λB R _ hR=>?_) (yV I.b9 T (ZX _)) λout l h' tk n hp hs hle kp ho=>?_
 ·refine collect_list pl.isList (hR _ s.toks (λb o e=>?_) ?_) nl
  ·have hb:=aaq e;rw[Heap.get?_update_ne _ _ _ _ (aaL hb)];exact Z3 _ e
  ·rw[Heap.size_update,size_push'];exact Nat.le_succ _
 ·obtain⟨e1,e2⟩:=sj T hp;have zl:out.length=ts.length:=by rw[hp.length_eq,ZU]
  refine{.ref l,_,I.laid (t':=tk) (o:=.lst ((out.map (JY H)).map u0)) kp hle ?_,rfl,q l _ (I.b9.fresh hle) e2 ?_}
  ·refine{by rw[ZU,ZU,zl,aaT];lia,out,n,?_,ho}
   have:=mC (out.map (JY H));rw[<- e1]at this;exact this
  ·rw[aat];refine hs.imp_of_mem λ{x y} hx hy hh=>?_;obtain⟨t,ht,rfl⟩:=Z2.mp (hp.mem_iff.mp hx);obtain⟨t',RX,rfl⟩:=Z2.mp (hp.mem_iff.mp hy);exact hh
end
end L2
namespace ST
open PySem PyProof.Rows
section
variable {prog:Z6}{w:aam}{A:aaX}{E:ZW->ZZ->Prop}{s:ZZ}
variable {a b:θ}{o:Obj}{ts:List (θ×List Int)}{es:Array (Int×ZW)}{ep:Nat}{t:SetTable}{k:List Int}
def nr.at (S:nr prog w o ts es ep t){i:Nat}(hi:i<t.place.size):∃x,ts[i]?=ν x/\es[i]?=ν (ent prog w x):=by
 have hl:i<ts.length:=by rw[<- S.size.2];exact hi
 exact{ts[i],Z4 hl,by rw[<- aan,S.FH,aah,Z4 hl];rfl}
def Eh (S:nr prog w o ts es ep t):t.gaveWay=η:=by
 obtain⟨j,hj,e⟩:=S.wf.Gn;unfold SetTable.gaveWay;rw[e];obtain⟨i,rfl⟩:∃i,j=i+1:={j-1,by lia}
 have:0<2 ^ i:=Nat.pow_pos (by decide)
 rw[Nat.pow_succ];have:(2 ^ i*2-1) % 2=1:=by lia
 rw[this];rfl
def qX (ho:s.heap.get? a=ν o)(S:nr prog w o ts es ep t)(T:Kc prog w s.heap ts)(hk:(TK prog w).is s.heap k b)(hu:A.units<abQ){ni:Bool}{N:Nat}{Q:SetFound->ZZ->Prop}
  (hN:¬ rP t (cq t.mask (kH prog w k) N)) (hO:∀x,x<N->rP t (cq t.mask (kH prog w k) x)) (ZN:N<10*SetTable.turns t.mask)
  (Qf:(∀x∈ts,x.2≠k)->Q (.free (cq t.mask (kH prog w k) N) η) s) (Qt:∀i:Option Nat,(∃x∈ts,x.2=k)->(ni=η->i.isSome=ζ)->Q (.there i) s) :
  ∀(d n f:Nat) (CV:Option SetTable.Probe),CV.getD (SX t.mask (kH prog w k))=iZ t.mask (kH prog w k) n->n+d=N->d<f ->
   (∀m,m<n->∀i x,i<t.place.size->g t.place i=cq t.mask (kH prog w k) m->ts[i]?=ν x->x.2≠k) ->
   aau (Ψ prog w) A (setSearchFrom a (.ref b) (kH prog w k) ni f CV) Q E s:=by
 intro d
 induction d using Nat.strongRecOn with
 |_ d ih =>
  intro n f CV Ih rC R7 QP;obtain⟨f,rfl⟩:∃f',f=f'+1:={f-1,by lia}
  unfold setSearchFrom;refine ZV (abn ho S.dat S.fits ?_);dsimp only;rw[Eh S,ω (by simp)]
  rw[KZ,Ih];generalize Wx:SetTable.probe t _ (kH prog w k) (iZ t.mask (kH prog w k) n)=pr;have hash:∀i x,i<t.place.size->ts[i]?=ν x->(es[i]?.map (·.1)).getD 0=kH prog w x.2:=λi x hi hx=>by
   obtain⟨y,h1,h2⟩:=S.at hi;rw[hx]at h1;obtain rfl:=aaC h1;rw[h2];rfl
  rcases pG S.wf (λi=>(es[i]?.map (·.1)).getD 0) (kH prog w k) hN hO d n (10*SetTable.turns t.mask) rC (by lia)with⟨q1,q2⟩|⟨m,i,q1,q2,q3,q4,q5,q6,q7⟩
  ·have e:pr=ν (.empty (cq t.mask (kH prog w k) N) ξ):=Wx.symm.trans q1;rw[e];dsimp only;refine Z0 (Qf λx hx Ig=>?_);obtain⟨i,hi⟩:=acg hx;have JV:i<t.place.size:=by
    rw[S.size.2];exact(aaf.mp hi).1
   obtain⟨n',g1,g2⟩:=S.wf.VZ i (kH prog w x.2) (by rw[aah,hi];rfl)
   rw[Ig]at g1 g2;have Im:n'<N:=by
    rcases aa5 n' N with z|z
    ·exact z
    ·rcases aa5 N n' with z2|z2
     ·exact Η (g2 N z2) hN
     ·obtain rfl:N=n':=by lia
      exact Η {(i),JV,g1.symm} hN
   rcases aa5 n' n with z|z
   ·exact QP n' z i x JV g1.symm hi Ig
   ·exact q2 n' z Im i JV g1.symm (by rw[hash i x JV hi,Ig])
  ·have e:pr=ν (.candidate (cq t.mask (kH prog w k) m) i (iZ t.mask (kH prog w k) (m+1))):=Wx.symm.trans q6;rw[e];dsimp only;obtain⟨x,JP,Po⟩:=S.at q3;have T8:x∈ts:=aaF JP;have JQ:t.slot (cq t.mask (kH prog w k) m)=.live i:=by rw[<- q4];exact rZ S.wf.A8 q3
   refine(λ(key:?G)=>?main) ?key
   case main =>
    cases hl:t.led with
    |true =>
     rw[ω (by simp)]
     exact key
    |false =>
     rw[χ (by simp)]
     have Uh:(es.filter (·.1==kH prog w k)).toList.map (·.2)=(ts.filter λx=>kH prog w x.2==kH prog w k).map λx=>Φ x.1:=by
      rw[Array.toList_filter,S.FH,List.filter_map,aaK];rfl
     rw[Uh];refine ZV (GG hk _ (λy hy=>T y (aae.mp hy).1) ?_);rw[ω (by simp)]
     exact key
   case key =>
    rw[Po];dsimp only;refine ZV (aa2 ((TK prog w).eqBool hu (T x T8) hk ?_));refine ZV (abn ho S.dat S.fits ?_);dsimp only;have Gr:t.sameMemory t.moves t.mask=ν ζ:=by
     unfold SetTable.sameMemory;rw[χ (beq_self_eq_true _)]
    by_cases Ig:x.2=k
    ·rw[Γ Ig];cases ni with
     |true =>
      rw[χ (by rfl)]
      exact Z0 (Qt ξ {(x),T8,Ig} (λz=>by cases z))
     |false =>
      rw[ω (by simp),Gr]
      dsimp only;rw[χ rfl,JQ];dsimp only;rw[Po];dsimp only;refine ZV (wpAny_isSame_ref_self ?_);rw[χ rfl];refine ZV (Z0 ?_);exact Z0 (Qt (ν i) {(x),T8,Ig} (λ_=>rfl))
    ·rw[Δ Ig,ω (by simp),Gr]
     dsimp only;rw[χ rfl,JQ];dsimp only;rw[Po];dsimp only;refine ZV (wpAny_isSame_ref_self ?_);rw[χ rfl];refine ZV (Z0 ?_);dsimp only;rw[ω (by simp)]
     refine ih (N-(m+1)) (by lia) (m+1) f _ rfl (by lia) (by lia) λm' QB i' x' h1 h2 h3=>?_
     rcases aa5 m' n with z|z
     ·exact QP m' z i' x' h1 h2 h3
     ·by_cases e2:m'=m
      ·subst e2;obtain rfl:=S.wf.A8.inj h1 q3 (h2.trans q4.symm);rw[JP]at h3;obtain rfl:=aaC h3;exact Ig
      ·intro z2;exact q7 m' z (by lia) i' h1 h2 (by rw[hash i' x' h1 h3,z2])
end
theorem w6 (n:Nat):∀(f j:Nat),n<2 ^ (j+f)->∃j',j<=j'/\SetTable.sizeAbove.go n f (2 ^ j)=2 ^ j'/\n<2 ^ j'/\(j'=j\/2 ^ (j' - 1)<=n)
 |0,j,h=>{j,ZX _,rfl,h,.inl rfl}
 |f+1,j,h=>by
  unfold SetTable.sizeAbove.go
  by_cases hc:2 ^ j<=n
  ·rw[χ hc,<- Nat.pow_succ];obtain⟨j',h1,h2,h3,h4⟩:=w6 n f (j+1) (by rw[show j+1+f=j+(f+1) by lia];exact h)
   refine{j',by lia,h2,h3,.inr ?_}
   rcases h4 with rfl|h4
   ·exact hc
   ·exact h4
  ·rw[ω hc];exact{j,ZX _,rfl,by lia,.inl rfl}
def Gb {n:Nat}(h:n<=4000):∃j,3<=j/\SetTable.sizeAbove n=2 ^ j/\n<2 ^ j/\2 ^ j<=8192:=by
 obtain⟨j,h1,h2,h3,h4⟩:=w6 n 64 3 (abY h (by decide))
 refine{j,h1,h2,h3,?_};rcases h4 with rfl|h4
 ·decide
 ·have:j-1<12:=by
   rcases aa5 (j-1) 12 with z|z
   ·exact z
   ·have:2 ^ 12<=2 ^ (j-1):=abT (by decide) z
    lia
  have:2 ^ j<=2 ^ 12:=abT (by decide) (by lia)
  lia
def Iu (d:Nat)(n:Int)(tk:Tok):hashByValue d (.int n tk)=pure ζ:=by
 cases d <;> rfl
section
variable {prog:Z6}{w:aam}{A:aaX}{E:ZW->ZZ->Prop}{s:ZZ}
variable {a b:θ}{o:Obj}{ts:List (θ×List Int)}{es:Array (Int×ZW)}{ep:Nat}{t:SetTable}{k:List Int}
def Kw {Q:Bool->ZZ->Prop}(hk:(TK prog w).is s.heap k b)(q:Q ζ s):aau (Ψ prog w) A (hashByValue 8 (.ref b)) Q E s:=by
 obtain⟨o,items,n,ho,hc,hd,hi⟩:=hk;have hT:s.TypeIs (.ref b) "tuple" := {(o),ho,hc};unfold hashByValue;refine ZV (wpAny_specialOf hT F.slot_tuple_hash.lookup ?_);dsimp only;refine ZV (wpAny_seqItems ho hd ?_);dsimp only[Option.getD_some];rw[<- Array.forIn_toList];refine ZV (adC _ (λrest r s'=>r=(ξ,())/\s'=s/\∀v∈rest,∃n tk,v=Value.int n tk) _ ?_ ?_ _ _ {rfl,rfl,?_})
 ·rintro v rest r s' ⟨rfl,rfl,rD⟩;obtain⟨n,tk,rfl⟩:=rD v Z7;rw[Iu];refine ZV (Z0 ?_);rw[ω (by simp)]
  exact Z0 {rfl,rfl,λu hu=>rD u (aac _ hu)}
 ·rintro r s' ⟨rfl,rfl,_⟩;exact Z0 q
 ·generalize items.toList=vs at hi
  induction hi with
  |nil=>intro v hv;cases hv
  | @cons k v ks vs h1 h2 ih =>
   intro u hu;rcases Z1.mp hu with rfl|hu
   ·obtain⟨t,rfl⟩:=adq h1;exact{_,_,rfl}
   ·exact ih u hu
def rQ (ho:s.heap.get? a=ν o)(S:nr prog w o ts es ep t)(T:Kc prog w s.heap ts)(hk:(TK prog w).is s.heap k b)(hu:A.units<abQ){ni:Bool}{Q:SetFound->ZZ->Prop}
  (Qf:∀N,(∀x∈ts,x.2≠k)->¬ rP t (cq t.mask (kH prog w k) N)->(∀x,x<N->rP t (cq t.mask (kH prog w k) x))->Q (.free (cq t.mask (kH prog w k) N) η) s)
  (Qt:∀i:Option Nat,(∃x∈ts,x.2=k)->(ni=η->i.isSome=ζ)->Q (.there i) s) :
  aau (Ψ prog w) A (setSearch a (.ref b) (kH prog w k) ni) Q E s:=by
 obtain⟨N,h1,h2,h3⟩:=S.wf.first (kH prog w k)
 have hm:=S.Gn;unfold setSearch;exact qX ho S T hk hu h2 h3 h1 (λq=>Qf N q h2 h3) Qt N 0 100000 ξ rfl (abj N) (by unfold SetTable.turns at h1;lia) λm hm=>by lia
def uQ (ho:s.heap.get? a=ν o)(S:nr prog w o ts es ep t)(T:Kc prog w s.heap ts)(hk:(TK prog w).is s.heap k b)(hu:A.units<abQ){Q:Bool->ZZ->Prop}
  (q:Q (decide (∃x∈ts,x.2=k)) {s with toks:=s.toks+(k.length+1)}):aau (Ψ prog w) A (setContains a (.ref b)) Q E s:=by
 unfold setContains;refine aa2 ?_;refine ZV ((TK prog w).pyHash hu hk ?_);unfold setFind setFindIn;refine ZV (ZV (abn (s:={s with toks:=s.toks+(TK prog w).draws k}) ho S.dat S.fits ?_))
 dsimp only;rw[ω (by simp[byScan,Value.scannable])]
 refine ZV (rQ (s:={s with toks:=s.toks+(TK prog w).draws k}) ho S T hk hu (λN g1 g2 g3=>?_) λi g1 g2=>?_)
 ·dsimp only;refine Z0 (Z0 ?_);rw[Δ (λrm=>by obtain⟨x,hx,e⟩:=rm;exact g1 x hx e)]at q
  exact q
 ·dsimp only;refine Z0 (Z0 ?_);rw[Γ g1]at q;rw[g2 rfl];exact q
def oO {h:Heap}(ho:h.get? a=ν o)(hd:o.data=.set es ep t)(fk:Array (Int×ZW))(t':SetTable):(h.update a (ac9 fk t')).get? a=ν {o with data:=.set fk (ep+1) t'}:=by
 have e:=Heap.get?_update_self (ac9 fk t') ho (by rw[putSet_of fk t' hd];rfl)
 rw[e,putSet_of fk t' hd]
def vn {α:Type}(l:List α)(p:Nat)(x:α):(l.take p++x::l.drop p).Perm (x::l):=by
 refine adG.trans (List.Perm.cons x ?_);rw[abC]
def sd {α:Type}{en:α->Int×ZW}{hk:α->Int}(hh:∀x,(en x).1=hk x)(x0:α){ts:List α}(he:es.toList=ts.map en){m:Nat}(R4:ts.length*2<=m)(MO:m<=4000):
  ∃(j:Nat) (order:Array Nat) (t':SetTable) (bB:List α),SetTable.sizeAbove m=2 ^ j/\2 ^ j<=8192/\t.relaid (es.map (·.1)) m=ν (t',order)/\order.toList.Perm (Z_ ts.length)/\(order.filterMap (es[·]?)).toList=bB.map en/\bB.Perm ts /\
   WF t' (bB.map hk)/\(t'.place.size*5<t'.mask*3/\m<=t'.mask)/\t'.mask<=8191/\t'.led=t.led/\t'.plain=t.plain/\t'.place.size=ts.length:=by
 have hz:es.size=ts.length:=by rw[<- Z5,he,ZU]
 obtain⟨j,j3,ja,jb,jc⟩:=Gb (n:=m) MO;have:2 ^ 3<=2 ^ j:=abT (by decide) j3
 have hs:(es.map (·.1)).size=ts.length:=by rw[Array.size_map,hz]
 obtain⟨t',order,e1,e2,e3,e4,e5,e6,e7,e8⟩:=H4 (hs:=es.map (·.1)) j3 (by lia) t.finger (t.movedTo (2 ^ j-1)) t.led t.plain
 rw[hs]at e6 e8;have gd:∀i,i<ts.length->es[i]?=ν (en (ts.getD i x0)):=λi hi=>by
  rw[<- aan,he,aah,Z4 hi,aby,Z4 hi];rfl
 have iP:(order.filterMap (es[·]?)).toList=(order.toList.map λi=>ts.getD i x0).map en:=by
  rw[Array.toList_filterMap,aaK];have:∀l:List Nat,(∀i∈l,i<ts.length)->l.filterMap (es[·]?)=l.map (en ∘ λi=>ts.getD i x0):=λl=>by
   induction l with
   |nil=>intro _;rfl
   |cons i l ih =>
    intro h;rw[aa1,gd i (h i Z7),aap,ih λy hy=>h y (aac _ hy)];rfl
  exact this _ λi hi=>aax.mp (e6.mem_iff.mp hi)
 have nL:(order.toList.map λi=>ts.getD i x0).Perm ts:=by
  refine(e6.map _).trans (List.Perm.of_eq ?_);apply ab_;intro i;rw[aah]
  by_cases hi:i<ts.length
  ·rw[abI hi,Z4 hi];show ν (ts.getD i x0)=_;rw[aby,Z4 hi];rfl
  ·rw[abq (by rw[aaD];lia),abq (by lia)]
   rfl
 refine{j,order,t',_,ja,jc,by unfold SetTable.relaid;rw[ja];exact e1,e6,iP,nL,?_,{by rw[e8,e2];lia,by rw[e2];lia},by lia,e3,e4,e8}
 rw[aaK];have:(order.toList.map λi=>(es.map (·.1)).getD i 0)=order.toList.map (hk ∘ λi=>ts.getD i x0):=by
  refine aaN λi hi=>?_;rw[aar,Array.getElem?_map,gd i (aax.mp (e6.mem_iff.mp hi))];exact hh _
 rw[<- this];exact e7
def Cu (ho:s.heap.get? a=ν o)(hx:o.ExactSet)(hd:o.data=.set es ep t)(he:es.toList=ts.map (ent prog w))(hw:WF t (ts.map λx=>kH prog w x.2))(Yv:0<ts.length)(hn:ts.length<=1000)
  (UT:t.led=!w.params.followText "set-order") (hpl:t.plain=ζ) (rC:(ts.map (·.2)).Nodup) {Q:Unit->ZZ->Prop}
  (q:∀(bB:List (θ×List Int)) (fk:Array (Int×ZW)) (t':SetTable),bB.Perm ts->nr prog w {o with data:=.set fk (ep+1) t'} bB fk (ep+1) t'->Q () {s with heap:=s.heap.update a (ac9 fk t')}) :
  aau (Ψ prog w) A (setRelay a (SetTable.grown ts.length)) Q E s:=by
 have hz:es.size=ts.length:=by rw[<- Z5,he,ZU]
 have hp:t.place.size=ts.length:=by have:=hw.sz;rw[ZU]at this;exact this
 have hf:t.fits es.size=ζ:=by
  unfold SetTable.fits SetTable.fill;rw[hw.J5,hz,hp];have:=hw.room;simp;lia
 unfold setRelay;refine ZV (abn ho hd hf ?_);dsimp only;have hg:SetTable.grown ts.length=ts.length*4:=by unfold SetTable.grown;rw[ω (by lia)]
 rw[hg];obtain⟨j,order,t',bB,ja,jc,er,e6,iP,nL,hW,Py,UQ,e3,e4,e8⟩:=sd (t:=t) (hk:=λx=>kH prog w x.2) (λ_=>rfl) (0,[]) (m:=ts.length*4) he (by lia) (by lia)
 rw[ja,ω (by rw[aaT];lia)]
 rw[er];have hsz:(order.filterMap (es[·]?)).size=es.size:=by
  rw[<- Z5,iP,ZU,nL.length_eq,hz]
 refine ZV ?_;show aau _ _ (if (order.filterMap (es[·]?)).size != es.size then _ else _) _ _ _
 rw[hsz,ω (by simp)]
 refine Z0 ?_;dsimp only;exact adl ho hd (q _ _ t' nL {hx,rfl,iP,hW,Py.1,UQ,e3.trans UT,e4.trans hpl,((nL.map (·.2)).nodup_iff).mpr rC}) (by rw[hsz,hz,aaT];lia)
abbrev Jn {α β:Type}(w:aam)(en:α->Int×ZW)(hk:α->Int)(ky:α->β)(a:θ)(s:ZZ)(ts:List α)(x:α)(Q:Bool->ZZ->Prop):Prop :=
 ∀(h':Heap) (o':Obj) (bB:List α) (fk:Array (Int×ZW)) (n_:Nat) (t':SetTable) (added:Bool) (tk:Nat),s.toks<=tk->abL a s.heap h'->h'.get? a=ν o'->gE w en hk ky o' bB fk n_ t' ->
  ((∃y∈ts,ky y=ky x)->bB=ts)->((∀y∈ts,ky y≠ky x)->bB.Perm (x::ts))->Q added {s with heap:=h',toks:=tk}
abbrev Rq (prog:Z6)(w:aam):=Jn w (ent prog w) (λx=>kH prog w x.2) (λx=>x.2)
def CB (ho:s.heap.get? a=ν o)(S:nr prog w o ts es ep t)(T:Kc prog w s.heap ts)(hk:(TK prog w).is s.heap k b)(hu:A.units<abQ)(hn:ts.length<1000)(f:Nat){Q:Bool->ZZ->Prop}
  (q:Rq prog w a s ts (b,k) Q) :
  aau (Ψ prog w) A (setAddHashedIn a (.ref b) (kH prog w k) (f+1)) Q E s:=by
 unfold setAddHashedIn;refine ZV (abn ho S.dat S.fits ?_);dsimp only;rw[ω (by simp[byScan,Value.scannable])]
 refine ZV (rQ ho S T hk hu (λN g1 g2 g3=>?_) λi g1 g2=>?_)
 ·dsimp only;refine ZV (abn ho S.dat S.fits ?_);dsimp only;have hr:t.place.size+1<=t.mask:=by
   have:=S.Rz;obtain⟨j,hj,e⟩:=S.wf.Gn;have:2 ^ 3<=2 ^ j:=abT (by decide) hj
   lia
  obtain⟨W,hp⟩:=S.wf.put (k9 _ _ _) g2 g3 hr;have pe:(t.put (cq t.mask (kH prog w k) N)).1.plain=t.plain/\(t.put (cq t.mask (kH prog w k) N)).1.led=t.led/\(t.put (cq t.mask (kH prog w k) N)).1.mask=t.mask:={(rfl),rfl,rfl};have pf:(t.put (cq t.mask (kH prog w k) N)).1.dummies=#[]:=W.J5;generalize (t.put (cq t.mask (kH prog w k) N)).1=t1 at *
  generalize (t.put (cq t.mask (kH prog w k) N)).2=p at *
  obtain⟨LC,OG,RA⟩:=pe;rw[LC,S.Hg,χ rfl];refine ZV (Kw hk ?_);rw[χ rfl];have hz:=S.size;have yF:(SetTable.insertAt es p (kH prog w k,Φ b)).toList=(ts.take p++(b,k)::ts.drop p).map (ent prog w):=by
   rw[lU,S.FH,aaj,aap,ab7,acW]
  have W1:WF t1 ((ts.take p++(b,k)::ts.drop p).map λx=>kH prog w x.2):=by
   rw[aaj,aap,ab7,acW];exact W
  have pm:(ts.take p++(b,k)::ts.drop p).Perm ((b,k)::ts):=vn ts p (b,k);have gA:(ts.take p++(b,k)::ts.drop p).length=ts.length+1:=pm.length_eq;have Cf:((ts.take p++(b,k)::ts.drop p).map (·.2)).Nodup:=by
   refine((pm.map (·.2)).nodup_iff).mpr ?_;rw[aap,aaA];exact⟨λhm=>by
    obtain⟨x,hx,e⟩:=Z2.mp hm;exact g1 x hx e,S.LZ⟩
  have CS:(SetTable.insertAt es p (kH prog w k,Φ b)).size=ts.length+1:=by rw[<- Z5,yF,ZU,gA]
  have V6:t1.place.size=ts.length+1:=by have:=W1.sz;rw[ZU,gA]at this;exact this
  refine ZV (adl ho S.dat ?_ (by rw[CS,aaT];lia))
  have MJ:=oO ho S.dat (SetTable.insertAt es p (kH prog w k,Φ b)) t1;have Js:abL a s.heap (s.heap.update a (ac9 (SetTable.insertAt es p (kH prog w k,Φ b)) t1)):=acr _ _ _;have fin:∀(h':Heap) (o':Obj) (bB:List (θ×List Int)) (fk:Array (Int×ZW)) (n_:Nat) (t':SetTable),abL a s.heap h'->h'.get? a=ν o'->nr prog w o' bB fk n_ t'->bB.Perm (ts.take p++(b,k)::ts.drop p)->Q ζ {s with heap:=h'} :=
   λh' o' bB fk n_ t' q1 q2 q3 q4=>q h' o' bB fk n_ t' ζ _ (ZX _) q1 q2 q3 (λyr=>by obtain⟨x,hx,e⟩:=yr;exact Η e (g1 x hx)) λ_=>q4.trans pm
  by_cases jq:t1.tooFull=ζ
  ·rw[jq,χ (by rfl)]
   have YE:SetTable.grown (es.size+1)=SetTable.grown (ts.take p++(b,k)::ts.drop p).length:=by rw[gA,hz.1]
   rw[YE];refine ZV (Cu (s:={s with heap:=s.heap.update a (ac9 (SetTable.insertAt es p (kH prog w k,Φ b)) t1)}) MJ S.ex rfl yF W1 (by lia) (by lia) (OG.trans S.led) (LC.trans S.Hg) Cf λbB fk t' r1 r2=>Z0 ?_)
   have NA:=oO MJ rfl fk t';exact fin _ _ bB fk _ t' (Js.trans (acr _ _ _)) NA r2 r1
  ·rw[ω (by simpa using jq)]
   refine Z0 (fin _ _ _ _ _ _ Js MJ {S.ex,rfl,yF,W1,?_,by rw[RA];exact S.Gn,OG.trans S.led,LC.trans S.Hg,Cf} (.refl _))
   unfold SetTable.tooFull SetTable.fill at jq;rw[pf]at jq;simp at jq;lia
 ·dsimp only;exact Z0 (q s.heap o ts es ep t η _ (ZX _) (Heap.SameBut.refl _ _) ho S (λ_=>rfl) λg=>Η g1 λyq=>by obtain⟨x,hx,e⟩:=yq;exact g x hx e)
def CC (ho:s.heap.get? a=ν o)(S:nr prog w o ts es ep t)(T:Kc prog w s.heap ts)(hk:(TK prog w).is s.heap k b)(hu:A.units<abQ)(hn:ts.length<1000){Q:Bool->ZZ->Prop}
  (q:Rq prog w a s ts (b,k) Q) :
  aau (Ψ prog w) A (setAdd a (.ref b)) Q E s:=by
 unfold setAdd;refine aa2 ?_;refine ZV ((TK prog w).pyHash hu hk ?_);unfold setAddHashed;refine aa2 ?_;exact CB (s:={s with toks:=s.toks+(TK prog w).draws k}) ho S T hk hu hn 99999 λh' o' bB fk n_ t' added tk r0 r1 r2 r3 r4 r5=>q h' o' bB fk n_ t' added tk (aaH (Nat.le_add_right _ _) r0) r1 r2 r3 r4 r5
end
theorem qF {α:Type}:∀{l:List α} {i:Nat} (h:i<l.length),(l[i]::l.eraseIdx i).Perm l
 |[],_,h=>Η h (Nat.not_lt_zero _)
 |x::l,0,_=>.refl _
 |x::l,i+1,h=>by
  have h':i<l.length:=by rw[aaa]at h;lia
  show (l[i]::x::l.eraseIdx i).Perm (x::l);exact(List.Perm.swap _ _ _).trans ((qF h').cons x)
theorem zv {α:Type}(next:Nat->Nat):∀(f k:Nat) (left:List α) (out:Array α),f=left.length->(pickOrder.go next f k left out).toList.Perm (out.toList++left)
 |0,k,left,out,e=>by
  obtain rfl:left=[]:=List.length_eq_zero_iff.mp e.symm;unfold pickOrder.go;rw[aa9]
 |f+1,k,left,out,e=>by
  unfold pickOrder.go;have hi:next k % left.length<left.length:=acU _ (by lia)
  rw[Z4 hi];dsimp only;refine(zv next f (k+1) _ _ (by rw[List.length_eraseIdx_of_lt hi];lia)).trans ?_
  rw[abH,aa3];exact List.Perm.append_left _ (qF hi)
def Bd {α:Type}(next:Nat->Nat)(xs:Array α):(pickOrder next xs).toList.Perm xs.toList:=by
 have:=zv next xs.size 0 xs.toList #[] (by rw[Z5])
 exact this
def cv:Slot "set_iterator" "__next__" "set_iterator.__next__" :=
 .of (owner:="set_iterator") (n:="__next__") (by rw[typeLookup_type,builtinLookup_eq_fast];kernel_rfl) (by decide +kernel) (by decide +kernel) (by decide +kernel)
  (by first|exact .inl (by decide +kernel)|exact .inr (by decide +kernel)) (by rw[isSubtype_type];kernel_rfl)
def j6:Slot "set_iterator" "__iter__" "set_iterator.__iter__" :=
 .of (owner:="set_iterator") (n:="__iter__") (by rw[typeLookup_type,builtinLookup_eq_fast];kernel_rfl) (by decide +kernel) (by decide +kernel) (by decide +kernel)
  (by first|exact .inl (by decide +kernel)|exact .inr (by decide +kernel)) (by rw[isSubtype_type];kernel_rfl)
def js:entryFor table "set_iterator.__next__" = ν ab1.«set_iterator.__next__»:=entryFor_of_tree (by kernel_rfl)
def qv:entryFor table "set_iterator.__iter__" = ν ab1.«dict_keyiterator.__iter__» :=
 entryFor_alias (id':="dict_keyiterator.__iter__") (by kernel_rfl) rfl (by decide +kernel) (by kernel_rfl)
def qw:entryFor table "set.__iter__" = ν ab1.«frozenset.__iter__» :=
 entryFor_alias (id':="frozenset.__iter__") (by kernel_rfl) rfl (by decide +kernel) (by kernel_rfl)
def kh (a:ZW):argsOk "set_iterator.__next__" ⟨[a],[]⟩:=by unfold argsOk;kernel_rfl
def rL (a:ZW):argsOk "set_iterator.__iter__" ⟨[a],[]⟩:=by unfold argsOk;kernel_rfl
section
variable {prog:Z6}{w:aam}{A:aaX}{E:ZW->ZZ->Prop}{s:ZZ}
variable {a:θ}{o:Obj}{es:Array (Int×ZW)}{ep:Nat}{t:SetTable}
variable {α β:Type}{en:α->Int×ZW}{hk:α->Int}{ky:α->β}{ts:List α}
abbrev Co (w:aam):Bool:=w.params.followText "set-order"
def jx {Q:Bool->ZZ->Prop}(q:Q (Co w) s):aau (Ψ prog w) A setsByText Q E s:=by
 unfold setsByText;exact ZV (adE (Z0 q))
def cy (w:aam)(a:θ)(ep:Nat)(es:Array (Int×ZW)):Array (Int×ZW):=if Co w=ζ then pickOrder (w.params.setOrder a ep) es else es
def jy (w:aam)(a:θ)(ep:Nat)(es:Array (Int×ZW)):(cy w a ep es).toList.Perm es.toList:=by
 unfold cy
 split
 ·exact Bd _ _
 ·exact .refl _
def Bk (S:gE w en hk ky o ts es ep t){Q:Bool->ZZ->Prop}(ho:s.heap.get? a=ν o)(q:Q η s):aau (Ψ prog w) A (setDrawn a) Q E s:=by
 unfold setDrawn;refine ZV (abn ho S.dat S.fits ?_);dsimp only;refine ZV (jx (Z0 ?_));have:(!Co w&&(!t.plain&&decide (es.size>1)))=η:=by rw[S.Hg];simp
 show Q (!Co w&&(!t.plain&&decide (es.size>1))) s;rw[this];exact q
def oT (ho:s.heap.get? a=ν o)(S:gE w en hk ky o ts es ep t){sl i:Nat}{Q:Option (ZW×Nat)->ZZ->Prop}(z6:Co w=η->SetTable.below t.place sl=i)
  (q1:∀e,(cy w a ep es)[i]?=ν e->∀K5:Nat,(Co w=η->SetTable.below t.place K5=i+1)->Q (ν (e.2,K5)) s) (q2:(cy w a ep es)[i]?=ξ->Q ξ s) :
  aau (Ψ prog w) A (setNext a sl i ep) Q E s:=by
 unfold setNext;refine ZV (abn ho S.dat S.fits ?_);dsimp only;refine ZV (jx ?_);cases hb:Co w with
 |true =>
  rw[χ rfl,ω (by simp)]
  unfold setWalk;refine ZV (ZV (abn ho S.dat S.fits ?_));dsimp only;refine ZV (jx ?_);rw[hb,χ rfl];refine ZV (adE (Z0 (Z0 ?_)));have e:cy w a ep es=pickOrder (w.params.setOrder a ep) es:=by unfold cy;rw[hb,χ rfl]
  rw[e]at q1 q2;show Q (((pickOrder (w.params.setOrder a ep) es)[i]?).map λe=>(e.2,sl)) s;cases hx:(pickOrder (w.params.setOrder a ep) es)[i]? with
  |none=>exact q2 hx
  |some x=>exact q1 x hx sl (λz=>by rw[hb]at z;cases z)
 |false =>
  rw[ω (by simp)]
  have e:cy w a ep es=es:=by unfold cy;rw[hb,ω (by simp)]
  rw[e]at q1 q2;have hd:(!t.plain&&decide (es.size>1))=η:=by rw[S.Hg];rfl
  show aau _ _ (if (!t.plain&&decide (es.size>1))=ζ then _ else _) _ _ _
  rw[hd,ω (by simp)]
  have hl:t.led=ζ:=by
   rw[S.led];show (!Co w)=ζ;rw[hb];rfl
  refine ZV ?_;show aau _ _ (if (!t.led&&!es.isEmpty)=ζ then _ else _) _ _ _
  rw[hl,ω (by simp)]
  refine Z0 (Z0 ?_);rw[z6 hb];have hz:=S.size
  by_cases hi:i<t.place.size
  ·have h1:es[i]?=ν es[i]:=getElem?_pos es i (by omega)
   rw[h1,yy hi];refine q1 _ h1 _ λ_=>?_;obtain⟨b1,b2,b3⟩:=iE S.wf.A8 (g t.place i+1);rcases Nat.lt_trichotomy (SetTable.below t.place (g t.place i+1)) (i+1)with z|z|z
   ·have:=b3 i (by omega) hi
    omega
   ·exact z
   ·have:=b2 (i+1) z;have:=S.wf.A8 i (i+1) (by omega) (by omega)
    omega
  ·have h1:es[i]?=ξ:=abM (by omega)
   rw[h1];exact q2 h1
end
section
variable {prog:Z6}{w:aam}{A:aaX}{E:ZW->ZZ->Prop}{s:ZZ}
variable {a b it:θ}{o:Obj}{es:Array (Int×ZW)}{ep:Nat}{t:SetTable}
variable {α β:Type}{en:α->Int×ZW}{hk:α->Int}{ky:α->β}{ts:List α}
def tX (sl i:Nat)(a:θ)(n ep:Nat):Obj:={cls:=.type "set_iterator",dict:=ξ,data:=.fields #[.int sl 0,.int i 0,.ref a,.int n 0,.int ep 0],slots:=#[]}
def o_ {sl i n:Nat}(h:s.heap.get? it=ν (tX sl i a n ep)):s.TypeIs (.ref it) "set_iterator" := {_,h,rfl}
def NV (w:aam)(en:α->Int×ZW)(hk:α->Int)(ky:α->β)(it a:θ)(ts:List α)(es:Array (Int×ZW))(ep:Nat)(i:Nat)(h:Heap):Prop :=
 ∃sl o t,h.get? it=ν (tX sl i a es.size ep)/\h.get? a=ν o/\gE w en hk ky o ts es ep t/\(Co w=η->SetTable.below t.place sl=i)
def C7 (ur:a≠it){i:Nat}{e:Int×ZW}{Q:Option ZW->ZZ->Prop}(st:NV w en hk ky it a ts es ep i s.heap)(he:(cy w a ep es)[i]?=ν e)
  (q:∀h',NV w en hk ky it a ts es ep (i+1) h'->abL it s.heap h'->Q (ν e.2) {s with heap:=h'}):aau (Ψ prog w) A (pyNext (.ref it)) Q E s:=by
 obtain⟨sl,o,t,hi,ho,S,hb⟩:=st;have hT:=o_ hi;unfold pyNext;refine ZV (wpAny_attempt (adD (name:=Str.ofString "__next__") hT cv (abv cv hT js ?_ (kh _))));unfold ab1.«set_iterator.__next__»
 refine ZV (Z0 ?_);refine ZV (wpAny_fieldsOf hi rfl ?_);dsimp only;refine ZV (wpAny_setEntries_of ho S.dat S.fits ?_);rw[ω (by simp)]
 refine ZV (oT (i:=i) ho S (λz=>by simpa using hb z) (λe' QL K5 EW=>?_) λhn=>?_)
 ·rw[he]at QL;obtain rfl:=aaC QL;dsimp only;refine ZV (wpAny_setField_rec hi (by simp) λh1 g1 Js=>?_)
  refine ZV (wpAny_setField_rec (s:={s with heap:=h1}) g1 (by simp) λh2 g2 VY=>?_)
  refine Z0 {_,rfl,Z0 (q h2 {K5,o,t,?_,?_,S,EW} (Js.trans VY))}
  ·rw[g2];rfl
  ·rw[(Js.trans VY).2 a ur];exact ho
 ·rw[he]at hn;cases hn
def G2 (hh:A.handled=ξ)(ur:a≠it){i:Nat}{Q:Option ZW->ZZ->Prop}(st:NV w en hk ky it a ts es ep i s.heap)(he:(cy w a ep es)[i]?=ξ)
  (q:∀h',Heap.ExtBut it s.heap h'->Q ξ {s with heap:=h'}):aau (Ψ prog w) A (pyNext (.ref it)) Q E s:=by
 obtain⟨sl,o,t,hi,ho,S,hb⟩:=st;have hT:=o_ hi;unfold pyNext;refine ZV (wpAny_attempt (adD (name:=Str.ofString "__next__") hT cv (abv cv hT js ?_ (kh _))));unfold ab1.«set_iterator.__next__»
 refine ZV (Z0 ?_);refine ZV (wpAny_fieldsOf hi rfl ?_);dsimp only;refine ZV (wpAny_setEntries_of ho S.dat S.fits ?_);rw[ω (by simp)]
 refine ZV (oT (i:=i) ho S (λz=>by simpa using hb z) (λe' QL K5 EW=>?_) λhn=>?_)
 ·rw[he]at QL;cases QL
 ·dsimp only;refine ZV (wpAny_setField hi rfl (by simp) ?_)
  refine ZV ?_;simp only[newExc,newTuple];refine ZV (abe ?_ (by size_fits))
  refine ZV (m:=firstArgMember _ _) (wpAny_of_eq (a:=Value.none) (by first|rfl|(simp only[firstArgMember];rfl)) ?_)
  refine abe ?_ (by size_fits)
  simp only[raiseNew];refine ZV (wpAny_handled ?_);rw[show A.in1.handled=ξ from hh]
  refine ZV (Z0 (wpAny_throw ?_));refine ZV (wpAny_isInstance (T:="StopIteration") (b:=ζ) {_,aay _ rfl,rfl} isSubtype_stop ?_);exact Z0 (q _ (((acr ..).extBut.push _).push _))
def C6 {i:Nat}{Q:ZW->ZZ->Prop}(st:NV w en hk ky it a ts es ep i s.heap)(q:Q (.ref it) s):aau (Ψ prog w) A (pyIter (.ref it)) Q E s:=by
 obtain⟨sl,o,t,hi,ho,S,hb⟩:=st;have hT:=o_ hi;refine wpAny_pyIter_slot hT j6 (abv j6 hT qv ?_ (rL _));show aau _ _ (ret (.ref it)) _ _ s;exact Z0 {_,rfl,"set_iterator",_,hT,cv.lookup,q}
def AX (hh:A.handled=ξ)(ur:a≠it):Walks prog w A it [it,a] [it] es.size (λi v=>∃e,(cy w a ep es)[i]?=ν e/\v=e.2) (NV w en hk ky it a ts es ep) where
 sub:=λb hb=>by rw[ZY.mp hb];exact Z7
 frame:=λi h h' ⟨sl,o,t,h1,h2,h3⟩ hk=>{sl,o,t,hk it Z7 _ h1,hk a (aac _ Z7) _ h2,h3}
 item:=λi s Q E hi st hQ=>by
  have hz:(cy w a ep es).size=es.size:=by
   have:=(jy w a ep es).length_eq;rw[Z5,Z5]at this;exact this
  have he:(cy w a ep es)[i]?=ν (cy w a ep es)[i]:=getElem?_pos _ i (by lia)
  exact C7 ur st he λh' aI sb=>hQ _ h' s.toks {_,he,rfl} aI λb o hb e=>sb.extBut b o (λz=>hb (by rw[z];exact ZY.mpr rfl)) e
 done:=λs Q E st hQ=>by
  have hz:(cy w a ep es).size=es.size:=by
   have:=(jy w a ep es).length_eq;rw[Z5,Z5]at this;exact this
  exact G2 hh ur st (abM (by lia)) λh' eb=>hQ h' s.toks λb o hb e=>eb b o (λz=>hb (by rw[z];exact ZY.mpr rfl)) e
 self:=λi s Q E st hQ=>C6 st hQ
def gL (ho:s.heap.get? a=ν o)(S:gE w en hk ky o ts es ep t):s.TypeIs (.ref a) "set" := {(o),ho,S.ex.1}
def GJ (ho:s.heap.get? a=ν o)(S:gE w en hk ky o ts es ep t){Q:ZW->ZZ->Prop}(q:Q (.ref s.heap.objs.size) {s with heap:=s.heap.push (tX 0 0 a es.size ep)}):
  aau (Ψ prog w) A (pyIter (.ref a)) Q E s:=by
 have hT:=gL ho S;refine wpAny_pyIter_slot hT F.slot_set_iter (abv F.slot_set_iter hT qw ?_ (F.args_set_iter_1 _));unfold ab1.«frozenset.__iter__» Builtin.Frozenset.slot0 Builtin.Frozenset.sizeOf;refine ZV (ZV (Z0 (Z0 ?_)));refine ZV (ZV (wpAny_setEntries_of ho S.dat S.fits (Z0 ?_)));refine ZV (Bk S ho ?_);rw[ω (by simp)]
 refine ZV (Z0 ?_);refine ZV (wpAny_setEpoch_of ho S.dat S.fits ?_);unfold newFields;refine ZV (abe (Z0 {_,rfl,"set_iterator",_,{_,aay _ rfl,rfl},cv.lookup,?_}) (by size_fits))
 exact q
def GK (ho:s.heap.get? a=ν o)(S:gE w en hk ky o ts es ep t){Q:Bool->ZZ->Prop}(q:Q η s):aau (Ψ prog w) A (Builtin.List.listLengthHint (.ref a)) Q E s:=by
 have hT:=gL ho S;unfold Builtin.List.listLengthHint;refine ZV (wpAny_specialOf hT PySem.F.slot_set_len.lookup ?_);generalize WJ:("set.__len__" : String)=X_
 wp_delta
 rw[show splitId X_=ν ("set","__len__") from by subst WJ;decide +kernel]
 subst WJ;refine ZV (wpAny_isInstance (T:="set") (b:=ζ) hT (by rw[isSubtype_type];kernel_rfl) ?_)
 refine wpAny_ite_split (λMU=>Η MU (by decide)) (λ_=>?_)
 refine wpAny_ite_split (λ_=>?_) (λMU=>Η (by decide +kernel) MU)
 refine ZV (wpAny_typeOf hT ?_);exact Z0 q
def G3 (prog:Z6)(S:gE w en hk ky o ts es ep t):
  PySem.W.KdlSrc prog w "set" a a es.size (λi v=>∃e,(cy w a ep es)[i]?=ν e/\v=e.2) (λh=>h.get? a=ν o) where
 type:=λs ho=>gL ho S
 there:=λh ho=>{aaq ho,aaq ho}
 keep:=λh h' ho hk=>hk a (.inl rfl) _ ho
 notList:=by decide
 notTuple:=by decide
 hint:=λA E s Q ho q=>GK ho S q
 iter:=λA s hh ho=>⟨tX 0 0 a es.size ep,NV w en hk ky s.heap.objs.size a ts es ep,λE Q q=>GJ ho S q,AX hh (aaL (aaq ho)),
  0,o,t,aay _ rfl,Z3 _ ho,S,λ_=>by
   obtain⟨b1,b2,b3⟩:=iE S.wf.A8 0;rcases Nat.eq_zero_or_pos (SetTable.below t.place 0)with z|z
   ·exact z
   ·have:=b2 0 z;lia⟩
theorem pJ {α β:Type}{f:α->β}:∀{ts:List α} {l:List β},l.Perm (ts.map f)->∃us:List α,us.Perm ts/\l=us.map f
 |[],l,h=>{[],.refl _,List.perm_nil.mp h}
 |x::ts,l,h=>by
  obtain⟨l1,l2,rfl⟩:=List.append_of_mem (h.mem_iff.mpr (show f x∈(x::ts).map f from Z7))
  have h':(l1++l2).Perm (ts.map f):=(adG.symm.trans h).cons_inv;obtain⟨us,h1,h2⟩:=pJ h';obtain⟨u1,u2,rfl,e1,e2⟩:=List.map_eq_append_iff.mp h2.symm;refine{u1++x::u2,adG.trans (h1.cons x),?_};rw[aaj,aap,e1,e2]
def nv (ho:s.heap.get? a=ν o)(S:gE w en hk ky o ts es ep t)(hn:ts.length<=1000):
  ∃us:List α,us.Perm ts/\∀(A:aaX) (E:ZW->ZZ->Prop) (R:List ZW->ZZ->Prop),A.handled=ξ->(∀(h':Heap) (tk:Nat),(∀b o,s.heap.get? b=ν o->h'.get? b=ν o)->R (us.map λx=>(en x).2) {s with heap:=h',toks:=tk}) ->
  aau (Ψ prog w) A (collect (.ref a)) R E s:=by
 have hw:=jy w a ep es;rw[S.FH]at hw;obtain⟨us,h1,h2⟩:=pJ hw;refine{us,h1,λA E R hh q=>?_};refine PySem.W.kdu_collect (G3 prog S) hh ho (by rw[S.size.1,aaT];lia) λh' tk acc hk QR=>?_
 have e:acc.toList=us.map λx=>(en x).2:=by
  have hz:(cy w a ep es).size=es.size:=by
   have:=(jy w a ep es).length_eq;rw[Z5,Z5]at this;exact this
  have e2:us.map (λx=>(en x).2)=(cy w a ep es).toList.map (·.2):=by
   rw[h2,aaK];rfl
  rw[e2];apply ab_;intro i;rw[aah,aan,aan]
  by_cases hi:i<acc.size
  ·obtain⟨x,g1,g2⟩:=QR.2 i acc[i] (getElem?_pos acc i hi);rw[getElem?_pos acc i hi,g1,g2];rfl
  ·have:=QR.1;rw[abM (by lia),abM (by lia)]
   rfl
 rw[e];exact q h' tk hk
end
section
variable {prog:Z6}{w:aam}{A:aaX}{E:ZW->ZZ->Prop}{s:ZZ}
variable {o:Obj}{ts:List (θ×List Int)}{es:Array (Int×ZW)}{ep:Nat}{t:SetTable}
def gS (w:aam):Obj:={cls:=.type "set",dict:=ξ,data:=.set #[] 0 (.fresh 0 0 (!Co w))}
def zL {α β:Type}{en:α->Int×ZW}{hk:α->Int}{ky:α->β}(w:aam):gE w en hk ky (gS w) [] #[] 0 (.fresh 0 0 (!Co w)) where
 ex:={(rfl),rfl,rfl}
 dat:=rfl
 FH:=rfl
 wf:={rfl,rfl,λi j _ hj=>Η hj (Nat.not_lt_zero _),λi hi=>Η hi (Nat.not_lt_zero _),{3,ZX _,rfl},aab _,λi h hi=>by simp at hi}
 Rz:=by show 0*5<7*3;decide
 Gn:=by show 7<=8191;decide
 led:=rfl
 Hg:=rfl
 LZ:=aa0
def zK (prog:Z6)(w:aam):nr prog w (gS w) [] #[] 0 (.fresh 0 0 (!Co w)):=zL w
def vJ {xs:List ZW}{R:ZW->ZZ->Prop}(hc:checkBuiltinCall "set.__new__" {.type "set" :: xs,[]}=pure ())(hx:xs=[]\/∃v,xs=[v])(q:R (.ref s.heap.objs.size) {s with heap:=s.heap.push (gS w)}) :
  adp (Ψ prog w) A (.call (.builtin "set.__new__") {.type "set" :: xs,[]}) (wants R E) s:=by
 refine codeAny_of_tree ?_;show aau _ A.in1 (checkBuiltinCall "set.__new__" {.type "set" :: xs,[]} >>= λ_=>again (.builtin "set.__new__" {.type "set" :: xs,[]})) _ _ s;refine ZV (wpAny_of_eq hc (Z0 {plainId_quiet F.plain_set_new _,ac1 F.entry_set_new ?_}));rw[Around.under_plainId F.plain_set_new _];unfold ab1.«set.__new__» Builtin.Frozenset.newClass;have Xr:=sub_set_self;obtain⟨hp,gs,dr,tk,os⟩:=s;rcases hx with rfl|⟨v,rfl⟩
 all_goals
  dsimp only
  wp_walk
  refine adE (Z0 ?_);dsimp only;simp only[newObj];exact ZV (wpAny_alloc (Z0 (Z0 q)))
section
variable {α β:Type}{en:α->Int×ZW}{hk:α->Int}{ky:α->β}
def Ex {X:Nat->α->Prop}{J:Heap->Prop}{I:θ}{fp wr:List θ}{G:Array GenState->Array GenState->Prop}{St:Nat->ZZ->Prop}{R:Result->ZZ->Prop}
  {n:Nat} {P:Nat->ZW->Prop} (W:WalksS prog w A.in1 I fp wr G n P St) (hP:∀(i:Nat) (v:ZW),P i v->∃x,X i x/\v=(en x).2) (hX:∀i x y,X i x->X i y->ky x=ky y) (sa:θ) (Wu:sa∉fp)
  (hJ:∀h h':Heap,J h->(∀c oc,c∉sa::wr->h.get? c=ν oc->h'.get? c=ν oc)->J h')
  (add:∀(s:ZZ) (E:ZW->ZZ->Prop) (Q:Bool->ZZ->Prop) (o:Obj) (ts:List α) (es:Array (Int×ZW)) (ep:Nat) (t:SetTable) (x:α),J s.heap->s.heap.get? sa=ν o->gE w en hk ky o ts es ep t->(∀y∈ts,∃m,X m y)->(∃m,X m x)->ts.length<n ->
   Jn w en hk ky sa s ts x Q->aau (Ψ prog w) A.in1 (setAdd sa (en x).2) Q E s) :
  ∀(d i:Nat) (s:ZZ) (o:Obj) (ts:List α) (es:Array (Int×ZW)) (ep:Nat) (t:SetTable),n-i=d->i<=n->St i s->J s.heap->s.heap.get? sa=ν o->gE w en hk ky o ts es ep t ->
   (∀y∈ts,∃m,X m y)->(∀m x,m<i->X m x->∃y∈ts,ky y=ky x)->ts.length<=i ->
   (∀s' o' bB fk n_ t',Moved (sa::wr) G s s'->s'.heap.get? sa=ν o'->gE w en hk ky o' bB fk n_ t'->(∀y∈bB,∃m,X m y)->(∀m x,m<n->X m x->∃y∈bB,ky y=ky x)->bB.length<=n->R (.ok (.ret .none)) s') ->
   adp (Ψ prog w) A (.builtin "set.update.loop" {[.ref sa,.ref I],[]}) R s:=by
 have xn:sa∉wr:=λz=>Wu (W.sub _ z);have up:∀x∈wr,x∈sa::wr:=λx hx=>aac _ hx;intro d
 induction d with
 |zero =>
  intro i s o ts es ep t hd hi st T ho S k1 k2 k3 hR;obtain rfl:i=n:=by lia
  refine ac1 F.entry_set_update_loop ?_;rw[Around.under_plainId F.plain_set_update_loop _];show aau _ A.in1 (pyNext (.ref I) >>= _) _ _ s;refine ZV (W.done s _ _ st λs' mv=>?_);exact Z0 (hR s' o ts es ep t (mv.mono up) (mv.heap sa _ xn ho) S k1 k2 k3)
 |succ d ih =>
  intro i s o ts es ep t hd hi st T ho S k1 k2 k3 hR;refine ac1 F.entry_set_update_loop ?_;rw[Around.under_plainId F.plain_set_update_loop _];show aau _ A.in1 (pyNext (.ref I) >>= _) _ _ s;refine ZV (W.item i s _ _ (by lia) st λv s1 hv Oh mv=>?_)
  obtain⟨x,hx,rfl⟩:=hP i v hv;refine ZV (aa2 (add s1 _ _ o ts es ep t x (hJ _ _ T λc oc hc e=>mv.heap c oc (λz=>hc (up c z)) e) (mv.heap sa _ xn ho) S k1 {(i),hx} (by lia) λh' o' bB fk n_ t' added tk r0 r1 r2 r3 r4 r5=>?_))
  have keep:∀c oc,c≠sa->s1.heap.get? c=ν oc->h'.get? c=ν oc:=λc oc hc e=>by rw[r1.2 c hc];exact e
  have step:(∀y∈bB,∃m,X m y)/\(∀m z,m<i+1->X m z->∃y∈bB,ky y=ky z)/\bB.length<=i+1:=by
   by_cases nV:∃y∈ts,ky y=ky x
   ·rw[r4 nV];refine{k1,λm z hm hz=>?_,by lia}
    rcases aa5 m i with q|q
    ·exact k2 m z q hz
    ·obtain rfl:m=i:=by lia
     rw[hX m z x hz hx];exact nV
   ·have pm:=r5 λy hy e=>nV {(y),hy,e};refine{λy hy=>?_,λm z hm hz=>?_,by rw[pm.length_eq,aaa];lia}
    ·rcases Z1.mp (pm.mem_iff.mp hy)with rfl|q
     ·exact{(i),hx}
     ·exact k1 y q
    ·rcases aa5 m i with q|q
     ·obtain⟨u,hu,e⟩:=k2 m z q hz;exact{u,pm.mem_iff.mpr (aac _ hu),e}
     ·obtain rfl:m=i:=by lia
      exact{x,pm.mem_iff.mpr Z7,hX m x z hx hz}
  have Wj:Moved (sa::wr) G s {s1 with heap:=h',toks:=tk} :=
   (mv.mono up).then_heap r0 λc oc hc e=>keep c oc (λz=>hc (by rw[z];exact Z7)) e
  exact Z0 {plainId_quiet F.plain_set_update_loop _,ih (i+1) _ o' bB fk n_ t' (by lia) (by lia) (W.frame _ s1 _ _ Oh r0 λc hc oc e=>keep c oc (λz=>Wu (by rw[<- z];exact hc)) e) (hJ _ _ T λc oc hc e=>Wj.heap c oc hc e) r2 r3 step.1 step.2.1 step.2.2 λs' o2 KH J2 YY t2 m1=>hR s' o2 KH J2 YY t2 (Moved.trans W.gtrans Wj m1)}
end
end
section
variable {prog:Z6}{w:aam}{A:aaX}{E:ZW->ZZ->Prop}{s:ZZ}
def tj {α β:Type}{en:α->Int×ZW}{hk:α->Int}{ky:α->β}{X:Nat->α->Prop}{l:θ}{its:Array ZW}{Q:ZW->ZZ->Prop}(hh:A.handled=ξ)(hl:s.heap.IsList l its)
  (hP:∀(i:Nat) (v:ZW),its[i]?=ν v->∃x,X i x/\v=(en x).2) (hX:∀i x y,X i x->X i y->ky x=ky y)
  (add:∀(B:aaX) (s1:ZZ) (E:ZW->ZZ->Prop) (Q:Bool->ZZ->Prop) (a:θ) (o:Obj) (ts:List α) (es:Array (Int×ZW)) (ep:Nat) (t:SetTable) (x:α),B.units<=A.units+3->(∀c oc,s.heap.get? c=ν oc->s1.heap.get? c=ν oc)->s1.heap.get? a=ν o->gE w en hk ky o ts es ep t->(∀y∈ts,∃m,X m y)->(∃m,X m x)->ts.length<its.size ->
   Jn w en hk ky a s1 ts x Q->aau (Ψ prog w) B (setAdd a (en x).2) Q E s1)
  (q:∀(h':Heap) (tk:Nat) (o':Obj) (ts:List α) (es:Array (Int×ZW)) (ep:Nat) (t:SetTable),(∀c oc,s.heap.get? c=ν oc->h'.get? c=ν oc)->h'.get? s.heap.objs.size=ν o'->gE w en hk ky o' ts es ep t ->
   (∀y∈ts,∃m,X m y)->(∀m x,m<its.size->X m x->∃y∈ts,ky y=ky x)->ts.length<=its.size->Q (.ref s.heap.objs.size) {s with heap:=h',toks:=tk}) :
  aau (Ψ prog w) A (call (.type "set") [.ref l]) Q E s:=by
 obtain⟨cx,Xj,TJ⟩:=F.called_set.mro;have O5:=F.called_set.made;have SV:=F.called_set.sub;refine wpAny_call (codeAny_of_tree ?_);show aau _ _ (callAny (.type "set") _) _ _ _;refine Z0 {Code.quiet_builtin _ (by decide +kernel),ac1 F.entry_type_call ?_}
 rw[Around.under_plain (weight_type_call_type "set" [.ref l] []) rfl];have t1:=F.called_set.notType;have t2:=F.called_set.canCreate;have t3:=F.typeCall_set_1 (.ref l)
 repeat (any_goals (first|assumption|wp_step))
 have ls:l<s.heap.objs.size:=by obtain⟨ol,UJ,_⟩:=hl;exact aaq UJ
 refine abW (vJ (w:=w) (E:=E) (xs:=[.ref l]) (R:=λob sx=>ob=.ref s.heap.objs.size/\sx={s with heap:=s.heap.push (gS w)}) (F.newCall_set_1 _) (.inr {_,rfl}) {(rfl),rfl}) λr sx hr=>?_
 cases r with
 |error e=>exact hr
 |ok fl =>
  cases fl with
  |ret ob =>
   obtain⟨rfl,rfl⟩:=hr;have hS:(s.heap.push (gS w)).get? s.heap.objs.size=ν (gS w):=aay _ rfl;have hT:Shared.TypeIs {s with heap:=s.heap.push (gS w)} (.ref s.heap.objs.size) "set" := {_,hS,rfl}
   have i1:=F.called_set.init.lookup;have i2:=F.called_set.init.bind (.ref s.heap.objs.size)
   repeat (any_goals (first|assumption|wp_step))
   refine abW (codeAny_call_builtin (R:=wants (λr s2=>r=.none/\Q (.ref s.heap.objs.size) s2) E) F.called_set.init.plain F.entry_set_init (check_set_init_1 hT ?_)) λr2 s2 qd=>?_
   ·obtain⟨ol,UJ,Cj,nl,WQ⟩:=hl;obtain⟨c1,c2,c3,c4⟩:=ol;simp only at Cj WQ;subst Cj WQ;have UI:(s.heap.push (gS w)).get? l=ν {cls:=.type "list",dict:=c2,data:=.seq its nl,slots:=c4}:=Z3 _ UJ;have u1:=F.sub_list_set;have u2:=F.sub_list_frozenset;have u3:(Value.type "list" == Value.type "dict")=η:=by decide
    have UU:(s.heap.push (gS w)).IsList l its:={_,UI,rfl,nl,rfl};unfold ab1.«set.__init__» noKeywords Builtin.Frozenset.updateFrom;generalize YR:pyIter=PI
    wp_walk
    subst YR;refine wpAny_pyIter_list UU ?_;refine ZV (wpAny_runValue ?_);have Yd:A.in1.in1.in1.handled=ξ:=by simp[hh]
    have nI:l≠(s.heap.push (gS w)).objs.size:=by rw[Heap.size_push];exact aaL (acK ls)
    have hf:s.heap.objs.size∉[(s.heap.push (gS w)).objs.size,l]:=by
     rw[Heap.size_push];simp only[Z1,List.not_mem_nil,or_false,not_or];exact{aaL (acj _),Nat.ne_of_gt ls}
    have nw:∀c oc,s.heap.get? c=ν oc->c∉s.heap.objs.size::[(s.heap.push (gS w)).objs.size]:=λc oc e z=>by
     have hc:=aaq e;rcases Z1.mp z with z|z
     ·exact Η z (aaL hc)
     ·have z:=ZY.mp z;rw[Heap.size_push]at z;exact Η z (aaL (acK hc))
    refine Ex (J:=λh=>∀c oc,s.heap.get? c=ν oc->h.get? c=ν oc) ((Walks.list Yd _ l nI _).toS) hP hX s.heap.objs.size hf (λh h' k kp c oc e=>kp c oc (nw c oc e) (k c oc e)) (λs1 E Q o ts es ep t x=>add _ s1 E Q s.heap.objs.size o ts es ep t x (ZX _)) its.size 0 _ (gS w) [] #[] 0 _ rfl (aab _) {{_,aay _ rfl,rfl,rfl},UU.push _} (λc oc e=>Z3 _ (Z3 _ e)) (Z3 _ hS) (zL w) (λx hx=>by cases hx) (λm x hm=>by lia) (aab _) λs' o' bB fk n_ t' m1 m2 m3 m4 m5 m6=>?_
    obtain⟨h',g',d',Xk,Tx⟩:=s';have eg:g'=s.gens:=m1.gens;have ed:d'=s.drawn:=m1.drawn;have eo:Tx=s.os:=m1.os;subst eg ed eo;exact Z0 (Z0 {rfl,q h' Xk o' bB fk n_ t' (λc oc e=>m1.heap c oc (nw c oc e) (Z3 _ (Z3 _ e))) m2 m3 m4 m5 m6})
   ·cases r2 with
    |error e=>exact qd
    |ok Vi =>
     cases Vi with
     |ret r =>
      obtain⟨rfl,hq⟩:=qd
      repeat (any_goals (first|assumption|wp_step))
     |_=>exact qd.elim
  |_=>exact hr.elim
def BQ {l:θ}{vs:List (θ×List Int)}{Q:ZW->ZZ->Prop}(hh:A.handled=ξ)(hu:A.units+16<abQ)(hl:s.heap.IsList l (vs.map λx=>Φ x.1).toArray)(hn:vs.length<1000)(T:Kc prog w s.heap vs)
  (q:∀(h':Heap) (tk:Nat) (o':Obj) (ts:List (θ×List Int)) (es:Array (Int×ZW)) (ep:Nat) (t:SetTable),(∀c oc,s.heap.get? c=ν oc->h'.get? c=ν oc)->h'.get? s.heap.objs.size=ν o'->nr prog w o' ts es ep t ->
   (∀x∈ts,x∈vs)->(∀x∈vs,∃y∈ts,y.2=x.2)->Q (.ref s.heap.objs.size) {s with heap:=h',toks:=tk}) :
  aau (Ψ prog w) A (call (.type "set") [.ref l]) Q E s:=by
 refine tj (en:=ent prog w) (hk:=λx=>kH prog w x.2) (ky:=λx=>x.2) (X:=λi x=>vs[i]?=ν x) hh hl (λi v hv=>?_) (λi x y h1 h2=>by rw[aaC (h1.symm.trans h2)]) (λB s1 E Q a o ts es ep t x hB kp ho S h1 h2 h3 q=>?_) λh' tk o' ts es ep t k m2 m3 m4 m5 m6=>?_
 ·rw[List.getElem?_toArray,aah]at hv;obtain⟨x,e1,e2⟩:=aai.mp hv;exact{(x),e1,e2.symm}
 ·have old:∀y,(∃m:Nat,vs[m]?=ν y)->(TK prog w).is s1.heap y.2 y.1:=λy h=>by
   obtain⟨m,hm⟩:=h;obtain⟨oy,its,n,g1,g2⟩:=T y (aaF hm);exact{oy,its,n,kp _ _ g1,g2}
  exact CC ho S (λy hy=>old y (h1 y hy)) (old x h2) (by lia) (by simp at h3;lia) q
 ·refine q h' tk o' ts es ep t k m2 m3 (λx hx=>?_) λx hx=>?_
  ·obtain⟨m,hm⟩:=m4 x hx;exact aaF hm
  ·obtain⟨m,hm⟩:=acg hx;exact m5 m x (by simpa using (aaf.mp hm).1) hm
end
end ST
namespace TS
open PySem PyProof.Rows
section
variable {prog:Z6}{w:aam}{A:aaX}{E:ZW->ZZ->Prop}{s:ZZ}
def xH {x:ZW}{vs:List ZW}{kf:ZW->List Int}{Q:ZW->ZZ->Prop}(hz:vs.length<=1000000)
  (col:∀(R:List ZW->ZZ->Prop),(∀(h':Heap) (tk:Nat),(∀b o,s.heap.get? b=ν o->h'.get? b=ν o)->R vs {s with heap:=h',toks:=tk})->aau (Ψ prog w) A.in1 (collect x) R E s)
  (T:rM s.heap kf s.heap.objs.size vs)
  (h:∀(out:List ZW) (h1 h':Heap) (tk:Nat) (n:Nat),out.Perm vs->out.Pairwise (λx y=>HT.lexLt (kf y) (kf x)=η)->(∀b o,s.heap.get? b=ν o->h1.get? b=ν o)->(∀b o,h1.get? b=ν o->h'.get? b=ν o)->h'.get? h1.objs.size=ν (abJ "list" out.toArray n)->Q (.ref h1.objs.size) {s with heap:=h',toks:=tk}) :
  aau (Ψ prog w) A (call (.builtin "sorted") [x]) Q E s:=by
 refine adi kind_sorted plain_sorted entry_sorted (args_sorted1 _) ?_;unfold ab1.«sorted»
 refine ZV (m:=checkCount "sorted" 1 1 _) (Z0 ?_);refine ZV (col _ λh' tk kp=>?_);have nl:vs.length<=aak:=by rw[aaT];lia
 refine ZV (wpAny_newList ?_ nl);have hl:(h'.push (abJ "list" vs.toArray 0)).get? h'.objs.size=ν (abJ "list" vs.toArray 0):=aay _ rfl;have T':rM (h'.push (abJ "list" vs.toArray 0)) kf h'.objs.size vs:=λv hv=>by
  obtain⟨t,o,xs,k,e1,_,e3,r⟩:=T v hv;exact{t,o,xs,k,e1,aaL (aaq (kp _ _ e3)),Z3 _ (kp _ _ e3),r}
 refine ZV (aa2 (abv slot_list_sort {_,hl,rfl} entry_list_sort (pW (s:={s with heap:=h'.push (abJ "list" vs.toArray 0),toks:=tk}) hl hz T' λout hp hs=>{_,rfl,?_}) (args_list_sort _)))
 obtain⟨n,hn⟩:=sortedHeap_at (out:=out.toArray) hl;refine Z0 {_,rfl,h out h' _ tk n hp hs kp (λb o e=>?_) hn};have hb:=aaq e;rw[sortedHeap_old (aaL hb) (by rw[size_push'];exact acK hb)]
 exact Z3 _ e
end
end TS
namespace L2
open PySem PySem.Spec PySem.SeqAt PyProof.Rows HT
theorem kG:∀{a b:List Int},lexLt a b=η->lexLt b a=η->a=b
 |[],[],_,_=>rfl
 |[],_::_,h,_=>by cases h
 |_::_,[],_,h=>by cases h
 |x::xs,y::ys,h1,h2=>by
  rw[kB]at h1 h2
  by_cases e:x=y
  ·subst e;rw[χ rfl]at h1 h2;rw[kG h1 h2]
  ·rw[ω e]at h1;rw[ω (λz=>e z.symm)]at h2;have:=of_decide_eq_false h1;have:=of_decide_eq_false h2;omega
theorem pY:∀{a b:List Int},lexLt a b=ζ->lexLt b a=η
 |[],[],h=>by cases h
 |[],_::_,_=>rfl
 |_::_,[],h=>by cases h
 |x::xs,y::ys,h=>by
  rw[kB]at h ⊢
  by_cases e:x=y
  ·subst e;rw[χ rfl]at h ⊢
   exact pY h
  ·rw[ω e]at h;rw[ω (λz=>e z.symm)];have:=of_decide_eq_true h;exact Δ (by lia)
theorem jn:∀{a b c:List Int},lexLt a b=ζ->lexLt b c=ζ->lexLt a c=ζ
 |[],[],_,h,_=>by cases h
 |[],_::_,[],_,h=>by cases h
 |[],_::_,_::_,_,_=>rfl
 |_::_,[],_,h,_=>by cases h
 |x::xs,y::ys,[],_,h=>by cases h
 |x::xs,y::ys,z::zs,h1,h2=>by
  rw[kB]at h1 h2 ⊢
  by_cases e:x=y
  ·subst e;rw[χ rfl]at h1
   by_cases e2:x=z
   ·subst e2;rw[χ rfl]at h2 ⊢
    exact jn h1 h2
   ·rw[ω e2]at h2 ⊢
    exact h2
  ·rw[ω e]at h1;have q1:=of_decide_eq_true h1
   by_cases e2:y=z
   ·subst e2;rw[ω e];exact h1
   ·rw[ω e2]at h2;have q2:=of_decide_eq_true h2;rw[ω (by omega)]
    exact Γ (by omega)
noncomputable def yo (k:List Int):List (List Int)->List (List Int)
 |[]=>[k]
 |x::xs=>if lexLt x k=ζ then x::yo k xs else k::x::xs
def iL:List (List Int)->List (List Int)
 |[]=>[]
 |k::ks=>yo k (iL ks)
theorem mU (k:List Int):∀xs,(yo k xs).Perm (k::xs)
 |[]=>.refl _
 |x::xs=>by
  unfold yo
  split
  ·exact((mU k xs).cons x).trans (List.Perm.swap _ _ _)
  ·exact .refl _
theorem dw:∀ks,(iL ks).Perm ks
 |[]=>.refl _
 |k::ks=>(mU k (iL ks)).trans ((dw ks).cons k)
abbrev w9 (ks:List (List Int)):Prop:=ks.Pairwise λx y=>HT.lexLt y x=η
def le_trans' {a b c:List Int}(h1:lexLt b a=η)(h2:lexLt c b=η):lexLt c a=η:=by
 cases h:lexLt c a with
 |false=>rfl
 |true =>
  cases hb:lexLt a b with
  |true=>rw[jn h hb]at h2;cases h2
  |false =>
   have:=kG hb h1;subst this;rw[h]at h2;cases h2
theorem sP (k:List Int):∀xs,w9 xs->w9 (yo k xs)
 |[],_=>by simp[yo]
 |x::xs,h=>by
  obtain⟨h1,h2⟩:=aaM.mp h;unfold yo
  split
  ·rename_i hx
   refine aaM.mpr {λy hy=>?_,sP k xs h2};rcases Z1.mp ((mU k xs).mem_iff.mp hy)with rfl|hy
   ·exact pY hx
   ·exact h1 y hy
  ·rename_i hx
   have ES:lexLt x k=η:=by cases q:lexLt x k <;> simp_all
   refine aaM.mpr {λy hy=>?_,h};rcases Z1.mp hy with rfl|hy
   ·exact ES
   ·exact le_trans' ES (h1 y hy)
theorem i8:∀ks,w9 (iL ks)
 |[]=>.nil
 |k::ks=>sP k _ (i8 ks)
theorem ny:∀{a b:List (List Int)},a.Perm b->w9 a->w9 b->a=b
 |[],b,p,_,_=>by rw[List.nil_perm.mp p]
 |x::a,[],p,_,_=>by have:=p.length_eq;simp at this
 |x::a,y::b,p,ha,hb=>by
  obtain⟨a1,a2⟩:=aaM.mp ha;obtain⟨b1,b2⟩:=aaM.mp hb;have T7:x=y:=by
   rcases Z1.mp (p.mem_iff.mp (Z7 (a:=x) (l:=a)))with h|h
   ·exact h
   ·rcases Z1.mp (p.mem_iff.mpr (Z7 (a:=y) (l:=b)))with h' | h'
    ·exact h'.symm
    ·exact kG (b1 x h) (a1 y h')
  subst T7;rw[ny (List.perm_cons x |>.mp p) a2 b2]
def CY {a b:List (List Int)}(p:a.Perm b)(h:w9 a):a=iL b:=ny (p.trans (dw b).symm) h (i8 b)
def kY:List (List Int)->List (List Int)
 |[]=>[]
 |k::ks=>if k∈kY ks then kY ks else k::kY ks
theorem dQ:∀l:List (List Int),(kY l).Nodup/\∀x,x∈kY l↔x∈l
 |[]=>{aa0,λ_=>Iff.rfl}
 |k::ks=>by
  obtain⟨h1,h2⟩:=dQ ks;unfold kY
  split
  ·rename_i h
   refine{h1,λx=>?_};rw[h2 x,Z1];exact{.inr,λz=>z.elim (λe=>by rw[e];exact(h2 k).mp h) id}
  ·rename_i h
   refine{aaA.mpr {(h),h1},λx=>?_};rw[Z1,Z1,h2 x]
theorem Ao:∀l:List (List Int),(kY l).length<=l.length
 |[]=>ZX _
 |k::ks=>by
  have:=Ao ks;unfold kY
  split
  ·exact Nat.le_succ_of_le this
  ·simpa using this
abbrev kD (k:List Int):D:=.tup (k.map D.int)
noncomputable def gk:List D->Option (List (List Int))
 |[]=>ν []
 |.tup a::ds=>match cB a,gk ds with
  |some k,ν ks=>if k=[] then ξ else ν (k::ks)
  |_,_=>ξ
 |_::_=>ξ
theorem p_:∀{ds:List D} {ks:List (List Int)},gk ds=ν ks->ds=ks.map kD/\∀k∈ks,k≠[]
 |[],_,h=>by cases h;exact{rfl,λ_ z=>nomatch z}
 |.tup a::ds,ks,h=>by
  have h':(match cB a,gk ds with|some k,ν ks=>if k=[] then ξ else ν (k::ks)|_,_=>ξ)=ν ks:=h
  cases ea:cB a with
  |none=>rw[ea]at h';cases h'
  |some k =>
   cases eb:gk ds with
   |none=>rw[ea,eb]at h';cases h'
   |some kr =>
    rw[ea,eb]at h'
    by_cases hk:k=[]
    ·simp[hk]at h'
    ·simp only[hk,if_false,Option.some.injEq]at h';subst h';obtain⟨h1,h2⟩:=p_ eb;rw[aap,<- h1,lT ea];refine{rfl,λx hx=>?_};rcases Z1.mp hx with rfl|hx
     ·exact hk
     ·exact h2 x hx
 |.cN::_,_,h=>by cases h
 |.bl _::_,_,h=>by cases h
 |.str _::_,_,h=>by cases h
 |.obj _::_,_,h=>by cases h
 |.int _::_,_,h=>by cases h
 |.lst _::_,_,h=>by cases h
 |.dT _ _::_,_,h=>by cases h
 |.dK _ _::_,_,h=>by cases h
 |.sT _::_,_,h=>by cases h
 |.ob _::_,_,h=>by cases h
theorem mQ:∀{ks:List (List Int)},(∀k∈ks,k≠[])->gk (ks.map kD)=ν ks
 |[],_=>rfl
 |k::ks,h=>by
  show (match cB (k.map D.int),gk (ks.map kD)with|some k,ν ks=>if k=[] then ξ else ν (k::ks)|_,_=>ξ)=_
  rw[jP,mQ λx hx=>h x (aac _ hx)];simp[h k (Z7 ..)]
section
variable {P:Z6}{w:aam}{W:θ->Prop}{H:Hp}
theorem mP:∀{ks:List (List Int)} {vs:List V},(∀k∈ks,k≠[])->ak P w W H (ks.map kD) vs->∃ts:List (θ×List Int),vs=ts.map u0/\B7 H ts/\ts.map (·.2)=ks
 |[],_,_,h=>{[],h,(λ_ z=>nomatch z),rfl}
 |k::ks,_,hk,⟨v,r,e,⟨a,us,e1,e2,e3⟩,h2⟩=>by
  obtain⟨ts,q1,q2,q3⟩:=mP (λx hx=>hk x (aac _ hx)) h2;refine{(a,k)::ts,by rw[e,e1,q1];rfl,λt ht=>?_,by rw[aap,q3]}
  rcases Z1.mp ht with rfl|ht
  ·rw[bj e3]at e2;exact{e2,hk k (Z7 ..)}
  ·exact q2 t ht
theorem jI:∀{ts:List (θ×List Int)},(∀t∈ts,H t.1=ν (.tup (t.2.map V.int)))->ak P w W H ((ts.map (·.2)).map kD) (ts.map u0)
 |[],_=>rfl
 |t::ts,h=>{_,_,rfl,{t.1,_,rfl,h t (Z7 ..),sO t.2},jI λx hx=>h x (aac _ hx)}
noncomputable def uB:List D->Option D
 |[.lst ds]=>match gk ds with
  |some ks=>if ks.length<=1000000 then ν (.lst ((iL ks).map kD)) else ξ
  |none=>ξ
 |[.sT ts]=>if ts.length<=1000/\(∀k∈ts,k≠[]) then ν (.lst ((iL ts).map kD)) else ξ
 |_=>ξ
theorem EL:∀{ns:List Int} {its:List ZW},Vals (ns.map V.int) its->ItemsAre (acA P w) ns its
 |[],_,.nil=>.nil
 |n::ns,_,.cons r t=>by
  obtain⟨tk,rfl⟩:=r;exact .cons (by show abS n (.int n tk)=ζ;simp[abS]) (EL t)
def oZ {h:Heap}{ts:List (θ×List Int)}(ok:kZ P w H h)(T:∀t∈ts,H t.1=ν (.tup (t.2.map V.int))):ST.Kc P w h ts:=λt ht=>by
 obtain⟨_,its,r,o,ho,hc,n,hd⟩:=(show cn P w H h t.1 (.tup (t.2.map V.int)) from ok _ _ (T t ht))
 refine{o,its.toArray,n,ho,hc,hd,?_};exact EL r
def J7:List D->Option D
 |[.lst ds]=>match gk ds with
  |some ks=>if ks.length<1000 then ν (.sT (kY ks)) else ξ
  |none=>ξ
 |_=>ξ
end
def BW {X:Cx}(hc:X.calm=ζ)(hu:X.A.units+16<abQ):bU X (.type "set") J7:=by
 intro μ s σ H xs us Q I r h;obtain⟨W,ds,d,hd,r1,e,q⟩:=h
 match ds,e with
 |[.lst es],e =>
  have e':(match gk es with|some ks=>if ks.length<1000 then ν (D.sT (kY ks)) else ξ|none=>ξ)=ν d:=e
  cases ek:gk es with
  |none=>rw[ek]at e';cases e'
  |some ks =>
   rw[ek]at e';obtain⟨hl,rfl⟩:=e_ e';obtain⟨rfl,hk⟩:=p_ ek;obtain⟨x,rfl,p,vs,rfl,hp,n1,q1⟩:=nQ r1;obtain⟨ts,rfl,T,rfl⟩:=mP hk q1;obtain⟨u,rfl,rx⟩:=vals1 r;cases rx;obtain⟨its,r',pl,hz⟩:=I.list (fb.of hp);obtain rfl:=mm r';refine ST.BQ (w:=X.w) (I.ok.hd hc) hu pl.isList (by simpa using hl) (oZ I.b9 λt ht=>(T t ht).1) λh' tk o' bB es ep t kp ho S m1 m2=>?_
   have BB:H s.heap.objs.size=ξ:=I.b9.fresh (ZX _);have nd:=dQ (ts.map (·.2));refine{.ref s.heap.objs.size,_,I.laid (t':=tk) (o:=kR X.prog X.w s.heap.objs.size bB) kp (ZX _) ?_,rfl,q _ _ (aB.new BB) {_,rfl,{bB,ar,λx hx=>?_,?_},zJ hd BB}}
   ·refine{{(o'),es,ep,t,ho,S},{(o'),ho},λh1 h2 rm k=>by obtain⟨o1,e1,II,t1,g1,g2⟩:=rm;exact{o1,e1,II,t1,k _ g1,g2}}
   ·exact(aB.new BB) _ _ (T x (m1 x hx)).1
   ·refine(ac_ S.LZ nd.1).mpr λk=>?_;rw[nd.2 k,Z2,Z2];constructor
    ·rintro⟨x,hx,rfl⟩;exact{x,m1 x hx,rfl}
    ·rintro⟨x,hx,rfl⟩;obtain⟨y,hy,e⟩:=m2 x hx;exact{(y),hy,e}
def i4 (ns:List Int):Prop:=∃x y:Int,ns=[x,y]/\0<=x/\0<=y/\y<2147483647
def Hand.ok {H:Hp}{h:θ}(d:Hand H h):∃ns,H h=ν (.lst (ns.map V.int))/\i4 ns:=by
 obtain⟨x,y,e,h1,h2,h3⟩:=d;exact{[x,y],e,x,y,rfl,h1,h2,h3}
def i4.hand {H:Hp}{h:θ}{ns:List Int}(e:H h=ν (.lst (ns.map V.int)))(o:i4 ns):Hand H h:=by
 obtain⟨x,y,rfl,h1,h2,h3⟩:=o;exact{(x),y,e,h1,h2,h3}
def cm:FD:=λds R=>∃n:Int,ds=[.int n]/\0<n/\n<2 ^ 200/\∀r:Int,0<=r->r<n->R (.int r)
def cm.mono:c0 cm:=λds R R' k ⟨n,e,h1,h2,q⟩=>{n,e,h1,h2,λr a b=>k _ (q r a b)}
section
variable {X:Cx}{W:θ->Prop}{H:Hp}
def HJ {p:θ}{vs:List V}{ds:List D}(n:H p=ξ)(f:NL (.lst ds))(r:w_ X W H ds vs):Rp X (λa=>H a≠ξ) (upd H p (.lst vs)) (.lst ds) (.ref p) :=
 {p,vs,rfl,ar,λz=>z n,ak.flat f (r.same (aB.new n))}
def Tc (X:Cx)(f:D->D->Option D):R2:=λx y H Q=>∃W d1 d2 d,Dm W H/\Rp X W H d1 x/\Rp X W H d2 y/\f d1 d2=ν d/\∀v H',aB H H'->Rp X W H' d v->(NL d->Rp X (λa=>H a≠ξ) H' d v)->Q v H'
def Tb (X:Cx)(f:List D->Option D):List V->Hp->VK->Prop:=λxs H Q=>∃W ds d,Dm W H/\w_ X W H ds xs/\f ds=ν d/\∀v H',aB H H'->Rp X W H' d v->(NL d->Rp X (λa=>H a≠ξ) H' d v)->Q v H'
def Ou (X:Cx)(f:D->Option Int->Option Int->Option D):V->Option Int->Option Int->Hp->VK->Prop:=λx lo hi H Q=>∃W d1 d,Dm W H/\Rp X W H d1 x/\f d1 lo hi=ν d/\∀v H',aB H H'->Rp X W H' d v->(NL d->Rp X (λa=>H a≠ξ) H' d v)->Q v H'
abbrev VE (X:Cx)(f:ZW->ZW->Sem ZW)(g:D->D->Option D):Prop:=kS X f (Tc X g)
abbrev Gi (X:Cx)(f:ZW)(g:List D->Option D):Prop:=f_ X f (Tb X g)
def au:VE X (acd .Add) wO:=by
 intro μ s σ H x y v u Q I rx ry h;obtain⟨W,d1,d2,d,hd,r1,r2,e,q⟩:=h;rcases Br e with⟨a,b,rfl,rfl,e⟩|e
 ·obtain⟨hl,rfl⟩:=e_ e;obtain⟨p,vs,rfl,h1,n1,q1⟩:=r1;obtain⟨p',vs',rfl,h2,n2,q2⟩:=r2;exact DZ μ s σ H _ _ v u Q I rx ry {p,p',vs,vs',rfl,rfl,h1,h2,by rw[q1.length,q2.length];exact hl,λl qf=>q _ _ (aB.new qf) (Rp.uj hd qf (q1.append q2)) λf=>HJ qf f (q1.append q2)}
 ·obtain⟨i,j,rfl,rfl,e⟩:=mT e;cases e;cases r1;cases r2;exact xZ μ s σ H _ _ v u Q I rx ry {i,j,rfl,rfl,q _ _ (aB.refl _) rfl λ_=>rfl}
def G1:VC X (Ou X M4):=by
 intro μ s σ H x v vl vu lo hi sl Q I rx hs pl pu h;obtain⟨W,d1,d,hd,r1,e,q⟩:=h;cases d1 with
 |lst ds =>
  cases e;obtain⟨p,vs,rfl,h1,n1,q1⟩:=r1;have rr:w_ X W H (cutD ds lo hi) (wR vs lo hi):=by
   unfold wR cutD;rw[q1.length];exact(ak.drop _ q1).take _
  exact za μ s σ H _ v vl vu lo hi sl Q I rx hs pl pu {p,vs,rfl,fb.of h1,λl hl=>q _ _ (aB.new hl) (Rp.uj hd hl rr) λf=>HJ hl f rr}
 |_=>cases e
def uG:Gi X (.builtin "sorted") (λds=>match ds with | [.lst ds]=>uB [.lst ds]|_=>ξ):=by
 intro μ s σ H xs us Q I r h;obtain⟨W,ds,d,hd,r1,e,q⟩:=h
 match ds,e with
 |[.lst es],e =>
  have e':(match gk es with|some ks=>if ks.length<=1000000 then ν (D.lst ((iL ks).map kD)) else ξ|none=>ξ)=ν d:=e
  cases ek:gk es with
  |none=>rw[ek]at e';cases e'
  |some ks =>
   rw[ek]at e';obtain⟨hl,rfl⟩:=e_ e';obtain⟨rfl,hk⟩:=p_ ek;obtain⟨x,rfl,p,vs,rfl,hp,n1,q1⟩:=nQ r1;obtain⟨ts,rfl,T,rfl⟩:=mP hk q1;refine uF μ s σ H _ us Q I r {p,ts,rfl,fb.of hp,T,by simpa using hl,λl bB qf Wy JR=>?_}
   have eq:bB.map (·.2)=iL (ts.map (·.2)):=CY (Wy.map _) (aat.mpr JR);rw[<- eq]at q;have rk:=jI (P:=X.prog) (w:=X.w) (W:=W) (H:=H) (ts:=bB) λt ht=>(T t (Wy.mem_iff.mp ht)).1;exact q _ _ (aB.new qf) (Rp.uj hd qf rk) λf=>HJ qf f rk
def l9 (hc:X.calm=ζ):Gi X (.builtin "sorted") (λds=>match ds with | [.sT ts]=>uB [.sT ts]|_=>ξ):=by
 intro μ s σ H xs us Q I r h;obtain⟨W,ds,d,hd,r1,e,q⟩:=h
 match ds,e with
 |[.sT ks],e =>
  obtain⟨⟨hl,hk⟩,rfl⟩:=e_ (show (if ks.length<=1000/\(∀k∈ks,k≠[]) then ν (D.lst ((iL ks).map kD)) else ξ)=ν d from e)
  obtain⟨x,rfl,p,rfl,⟨ts,hp,T,pm⟩,nW⟩:=nQ r1;obtain⟨u,rfl,rx⟩:=vals1 r;cases rx;obtain⟨⟨o,es,ep,t,ho,S⟩,_,_⟩:=(show cn X.prog X.w H s.heap p (kR X.prog X.w p ts) from I.b9 p _ hp)
  have tl:ts.length=ks.length:=by rw[<- pm.length_eq,ZU]
  have T':B7 H ts:=λt ht=>{T t ht,hk _ (pm.mem_iff.mp (Z2.mpr {(t),ht,rfl}))};obtain⟨us,mW,col⟩:=ST.nv (s:=s) ho S (by omega)
  have T2:B7 H us:=λt ht=>T' t (mW.mem_iff.mp ht);refine TS.xH (vs:=us.map λx=>Φ x.1) (kf:=yh H) (by rw[ZU,mW.length_eq];omega) (λR hR=>col _ _ R (by simp[I.ok.hd hc]) λh' tk kp=>hR h' tk kp) (yV I.b9 T2 (ZX _)) λout h1 h' tk n kJ hs k1 kp yw=>?_
  ·obtain⟨e1,e2⟩:=sj T2 kJ;have zl:out.length=us.length:=by rw[kJ.length_eq,ZU]
   have eq:(out.map (JY H)).map (·.2)=iL ks:=by
    refine CY ((e2.trans mW).map _ |>.trans pm) ?_
    refine aat.mpr (aat.mpr ?_);refine hs.imp_of_mem λ{x y} hx hy hh=>?_;obtain⟨t,ht,rfl⟩:=Z2.mp (kJ.mem_iff.mp hx);obtain⟨t',RX,rfl⟩:=Z2.mp (kJ.mem_iff.mp hy);exact hh
   have I1:Inv X μ σ H {s with heap:=h1,toks:=s.toks}:=I.kept k1
   have BB:H h1.objs.size=ξ:=I1.b9.fresh (ZX _);refine{.ref h1.objs.size,_,I1.laid (t':=tk) (o:=.lst ((out.map (JY H)).map u0)) kp (ZX _) ?_,rfl,q _ _ (aB.new BB) ?_ ?_}
   ·refine{by rw[ZU,ZU,zl,mW.length_eq,aaT];omega,out,n,?_,yw}
    have:=mC (out.map (JY H));rw[<- e1]at this;exact this
   ·rw[<- eq];exact Rp.uj hd BB (jI λt ht=>(T2 t (e2.mem_iff.mp ht)).1)
   ·rw[<- eq];exact λf=>HJ (W:=W) BB f (jI λt ht=>(T2 t (e2.mem_iff.mp ht)).1)
end
end L2
section
open PySem PySem.Spec PySem.SeqAt PyProof.Rows
namespace L2.Q
section
variable (P:Z6)(w:aam)(H:Hp)
mutual
def Own:D->V->List θ->Prop
 |.tup ds,v,A=>∃a vs,v=.ref a/\H a=ν (.tup vs)/\aT ds vs A
 |.lst ds,v,A=>∃a vs A',v=.ref a/\H a=ν (.lst vs)/\A=a::A'/\aT ds vs A'
 |.dT ks ds,v,A=>∃a vs A',v=.ref a/\H a=ν (.dT (ks.zip vs))/\ks.length=vs.length/\A=a::A'/\aT ds vs A'
 |.dK ks ds,v,A=>∃a vs A',v=.ref a/\H a=ν (.dK (ks.zip vs))/\ks.length=vs.length/\A=a::A'/\aT ds vs A'
 |.sT ts,v,A=>∃a,v=.ref a/\Ji P w H a ts/\A=[a]
 |.ob φ,v,A=>∃a,v=.ref a/\(H a=ν (φ a)/\∀xs,φ a≠.tup xs)/\A=[a]
 |.cN,v,A=>v=.cN/\A=[]
 |.bl b,v,A=>v=.bl b/\A=[]
 |.int i,v,A=>v=.int i/\A=[]
 |.str x,v,A=>v=.str x/\A=[]
 |.obj a,v,A=>v=.ref a/\A=[]
def aT:List D->List V->List θ->Prop
 |[],vs,A=>vs=[]/\A=[]
 |d::ds,vs,A=>∃v r A1 A2,vs=v::r/\A=A1++A2/\Own d v A1/\aT ds r A2
end
end
section
variable {P:Z6}{w:aam}{W:θ->Prop}{H H':Hp}
def AY {a:θ}{ts:List (List Int)}(k:∀b xs,H b=ν (.tup xs)->H' b=ν (.tup xs))(ha:∀o,H a=ν o->H' a=ν o)(h:Ji P w H a ts):Ji P w H' a ts :=
 let ⟨bB,e,r,z⟩:=h;{bB,ha _ e,λx hx=>k _ _ (r x hx),z}
mutual
theorem Own.keep (k:∀b xs,H b=ν (.tup xs)->H' b=ν (.tup xs)):∀{d:D} {v:V} {A:List θ},(∀c∈A,∀o,H c=ν o->H' c=ν o)->Own P w H d v A->Own P w H' d v A
 |.tup ds,_,_,ha,⟨a,vs,e,t,r⟩=>{a,vs,e,k a vs t,aT.keep k ha r}
 |.lst ds,_,_,ha,⟨a,vs,A',e,t,eA,r⟩=>{a,vs,A',e,ha a (by rw[eA];simp) _ t,eA,aT.keep k (λc hc=>ha c (by rw[eA];simp[hc])) r}
 |.dT ks ds,_,_,ha,⟨a,vs,A',e,t,l,eA,r⟩=>{a,vs,A',e,ha a (by rw[eA];simp) _ t,l,eA,aT.keep k (λc hc=>ha c (by rw[eA];simp[hc])) r}
 |.dK ks ds,_,_,ha,⟨a,vs,A',e,t,l,eA,r⟩=>{a,vs,A',e,ha a (by rw[eA];simp) _ t,l,eA,aT.keep k (λc hc=>ha c (by rw[eA];simp[hc])) r}
 |.sT ts,_,_,ha,⟨a,e,r,eA⟩=>{a,e,AY k (λo ho=>ha a (by rw[eA];simp) o ho) r,eA}
 |.ob φ,_,_,ha,⟨a,e,r,eA⟩=>{a,e,{ha a (by rw[eA];simp) _ r.1,r.2},eA}
 |.cN,_,_,_,h=>h
 |.bl _,_,_,_,h=>h
 |.int _,_,_,_,h=>h
 |.str _,_,_,_,h=>h
 |.obj _,_,_,_,h=>h
theorem aT.keep (k:∀b xs,H b=ν (.tup xs)->H' b=ν (.tup xs)):∀{ds:List D} {vs:List V} {A:List θ},(∀c∈A,∀o,H c=ν o->H' c=ν o)->aT P w H ds vs A->aT P w H' ds vs A
 |[],_,_,_,h=>h
 |d::ds,_,_,ha,⟨v,r,A1,A2,e,eA,h1,h2⟩=>{v,r,A1,A2,e,eA,Own.keep k (λc hc=>ha c (by rw[eA];simp[hc])) h1,aT.keep k (λc hc=>ha c (by rw[eA];simp[hc])) h2}
end
mutual
theorem Own.rep:∀{d:D} {v:V} {A:List θ},(∀c∈A,¬ W c)->Own P w H d v A->aE P w W H d v
 |.tup ds,_,_,ha,⟨a,vs,e,t,r⟩=>{a,vs,e,t,aT.rep ha r}
 |.lst ds,_,_,ha,⟨a,vs,A',e,t,eA,r⟩=>{a,vs,e,t,ha a (by rw[eA];simp),aT.rep (λc hc=>ha c (by rw[eA];simp[hc])) r}
 |.dT ks ds,_,_,ha,⟨a,vs,A',e,t,l,eA,r⟩=>{a,vs,e,t,l,ha a (by rw[eA];simp),aT.rep (λc hc=>ha c (by rw[eA];simp[hc])) r}
 |.dK ks ds,_,_,ha,⟨a,vs,A',e,t,l,eA,r⟩=>{a,vs,e,t,l,ha a (by rw[eA];simp),aT.rep (λc hc=>ha c (by rw[eA];simp[hc])) r}
 |.sT ts,_,_,ha,⟨a,e,r,eA⟩=>{a,e,r,ha a (by rw[eA];simp)}
 |.ob φ,_,_,ha,⟨a,e,r,eA⟩=>{a,e,r,ha a (by rw[eA];simp)}
 |.cN,_,_,_,h=>h.1
 |.bl _,_,_,_,h=>h.1
 |.int _,_,_,_,h=>h.1
 |.str _,_,_,_,h=>h.1
 |.obj _,_,_,_,h=>h.1
theorem aT.rep:∀{ds:List D} {vs:List V} {A:List θ},(∀c∈A,¬ W c)->aT P w H ds vs A->ak P w W H ds vs
 |[],_,_,_,h=>h.1
 |d::ds,_,_,ha,⟨v,r,A1,A2,e,eA,h1,h2⟩=>{v,r,e,Own.rep (λc hc=>ha c (by rw[eA];simp[hc])) h1,aT.rep (λc hc=>ha c (by rw[eA];simp[hc])) h2}
end
mutual
theorem Own.qV:∀{d:D} {v:V} {A:List θ},Own P w H d v A->∀c∈A,H c≠ξ/\∀xs,H c≠ν (.tup xs)
 |.tup ds,_,_,⟨a,vs,e,t,r⟩,c,hc=>aT.qV r c hc
 |.lst ds,_,_,⟨a,vs,A',e,t,eA,r⟩,c,hc=>by
  rw[eA]at hc;rcases Z1.mp hc with rfl|hc
  ·rw[t];exact{λz=>(nomatch z),λxs z=>by cases z}
  ·exact aT.qV r c hc
 |.dT ks ds,_,_,⟨a,vs,A',e,t,l,eA,r⟩,c,hc=>by
  rw[eA]at hc;rcases Z1.mp hc with rfl|hc
  ·rw[t];exact{λz=>(nomatch z),λxs z=>by cases z}
  ·exact aT.qV r c hc
 |.dK ks ds,_,_,⟨a,vs,A',e,t,l,eA,r⟩,c,hc=>by
  rw[eA]at hc;rcases Z1.mp hc with rfl|hc
  ·rw[t];exact{λz=>(nomatch z),λxs z=>by cases z}
  ·exact aT.qV r c hc
 |.sT ts,_,_,⟨a,e,⟨bB,t,r,z⟩,eA⟩,c,hc=>by
  rw[eA]at hc;rw[ZY.mp hc,t];exact{λz=>(nomatch z),λxs z=>by cases z}
 |.ob φ,_,_,⟨a,e,⟨t,z⟩,eA⟩,c,hc=>by
  rw[eA]at hc;rw[ZY.mp hc,t];exact{λz=>(nomatch z),λxs q=>z xs (aaC q)}
 |.cN,_,_,h,c,hc=>by rw[h.2]at hc;cases hc
 |.bl _,_,_,h,c,hc=>by rw[h.2]at hc;cases hc
 |.int _,_,_,h,c,hc=>by rw[h.2]at hc;cases hc
 |.str _,_,_,h,c,hc=>by rw[h.2]at hc;cases hc
 |.obj _,_,_,h,c,hc=>by rw[h.2]at hc;cases hc
theorem aT.qV:∀{ds:List D} {vs:List V} {A:List θ},aT P w H ds vs A->∀c∈A,H c≠ξ/\∀xs,H c≠ν (.tup xs)
 |[],_,_,h,c,hc=>by rw[h.2]at hc;cases hc
 |d::ds,_,_,⟨v,r,A1,A2,e,eA,h1,h2⟩,c,hc=>by
  rw[eA]at hc;rcases Z9.mp hc with hc|hc
  ·exact Own.qV h1 c hc
  ·exact aT.qV h2 c hc
end
mutual
theorem fQ:∀{d:D} {v:V},d.flat=ζ->aE P w W H d v->Own P w H d v []
 |.tup ds,_,f,⟨a,vs,e,t,r⟩=>{a,vs,e,t,jL (by simpa[D.flat] using f) r}
 |.lst ds,_,f,_=>by simp[D.flat]at f
 |.dT ks ds,_,f,_=>by simp[D.flat]at f
 |.dK ks ds,_,f,_=>by simp[D.flat]at f
 |.sT ts,_,f,_=>by simp[D.flat]at f
 |.ob φ,_,f,_=>by simp[D.flat]at f
 |.cN,_,_,h=>{(h),rfl}
 |.bl _,_,_,h=>{(h),rfl}
 |.int _,_,_,h=>{(h),rfl}
 |.str _,_,_,h=>{(h),rfl}
 |.obj _,_,_,h=>{(h),rfl}
theorem jL:∀{ds:List D} {vs:List V},D.ck ds=ζ->ak P w W H ds vs->aT P w H ds vs []
 |[],_,_,h=>{(h),rfl}
 |d::ds,_,f,⟨v,r,e,h1,h2⟩=>by
  have f':(d.flat&&D.ck ds)=ζ:=f;rw[aaQ]at f';exact{v,r,[],[],e,rfl,fQ f'.1 h1,jL f'.2 h2}
end
theorem aT.length:∀{ds:List D} {vs:List V} {A:List θ},aT P w H ds vs A->vs.length=ds.length
 |[],_,_,h=>by rw[h.1];rfl
 |d::ds,_,_,⟨v,r,A1,A2,e,eA,h1,h2⟩=>by rw[e,aaa,aaa,aT.length h2]
theorem aT.append:∀{ds ds':List D} {vs vs':List V} {A A':List θ},aT P w H ds vs A->aT P w H ds' vs' A'->aT P w H (ds++ds') (vs++vs') (A++A')
 |[],_,_,_,_,_,h,h'=>by rw[h.1,h.2];exact h'
 |d::ds,_,_,_,_,_,⟨v,r,A1,A2,e,eA,h1,h2⟩,h'=>by
  subst e eA;exact{v,_,A1,_,rfl,by rw[aa3],h1,aT.append h2 h'}
def aT.one {d:D}{v:V}{A:List θ}(h:Own P w H d v A):aT P w H [d] [v] A:={v,[],A,[],rfl,by simp,h,rfl,rfl}
theorem aT.split:∀{ds:List D} {vs:List V} {A:List θ} {i:Nat} {d:D},aT P w H ds vs A->ds[i]?=ν d->∃v A1 A2 A3,vs[i]?=ν v/\A=A1++(A2++A3)/\aT P w H (ds.take i) (vs.take i) A1/\Own P w H d v A2/\aT P w H (ds.drop (i+1)) (vs.drop (i+1)) A3
 |[],_,_,_,_,_,e=>by simp at e
 |d::ds,_,_,0,_,⟨v,r,A1,A2,e,eA,h1,h2⟩,e'=>by
  simp at e';subst e' e eA;exact{v,[],A1,A2,by simp,by simp,{(rfl),rfl},h1,by simpa using h2}
 |d::ds,_,_,i+1,_,⟨v,r,A1,A2,e,eA,h1,h2⟩,e'=>by
  subst e eA;obtain⟨u,B1,B2,B3,g1,g2,g3,g4,g5⟩:=aT.split (i:=i) h2 (by simpa using e')
  exact{u,A1++B1,B2,B3,by simpa using g1,by rw[g2];simp[aa3],by simpa using {v,_,A1,B1,rfl,rfl,h1,g3},g4,by simpa using g5}
end
inductive Kd where
 |own|g9|old|bor
inductive Sk where
 |one|two|at (h:θ)
inductive B where
 |val (y:Bool) (d:D)|own (d:D)|hand (ok:List Int->Prop)|shl (y:Sk) (d:D)
abbrev ba:=List (Option B)
structure Cfg where
 H0:Hp
 IO:θ->Prop
 ro:Bool
 U:θ->Prop:=λ_=>False
abbrev Wn (own:Nat->List θ):θ->Prop:=λa=>∃i,a∈own i
def av (C:Cfg)(W:θ->Prop):Kd->θ->Prop
 |.own,a=>W a\/C.H0 a≠ξ
 |.g9,a=>W a\/C.H0 a≠ξ
 |.old,a=>W a
 |.bor,_=>False
def jw (C:Cfg)(W:θ->Prop)(k:Kd)(a:θ):Prop:=av C W k a\/C.U a
abbrev yk (y:Bool):Kd:=match y with|true=>.g9|false=>.old
def Xw:D->HO->List V->Prop
 |.lst _,o,vs=>o=.lst vs
 |.dT ks _,o,vs=>o=.dT (ks.zip vs)/\ks.length=vs.length
 |.dK ks _,o,vs=>o=.dK (ks.zip vs)/\ks.length=vs.length
 |_,_,_=>False
def Xx:D->List D
 |.lst ds=>ds
 |.dT _ ds=>ds
 |.dK _ ds=>ds
 |_=>[]
def Jj (P:Z6)(w:aam)(W:θ->Prop)(H:Hp):List D->List V->List θ->Prop
 |[],vs,A=>vs=[]/\A=[]
 |d::ds,vs,A=>∃b us r A',vs=.ref b::r/\A=b::A'/\H b=ν (.lst us)/\(∃es,d=.lst es/\ak P w W H es us)/\Jj P w W H ds r A'
def qN (P:Z6)(w:aam)(W:θ->Prop)(H:Hp)(d:D)(v:V)(A:List θ):Prop:=∃a o vs,v=.ref a/\A=[a]/\H a=ν o/\Xw d o vs/\ak P w W H (Xx d) vs
def NW (P:Z6)(w:aam)(W:θ->Prop)(H:Hp)(y:Sk)(d:D)(v:V)(A:List θ):Prop:=match y with
 |.one=>qN P w W H d v A
 |.at h=>qN P w W H d v A/\v=.ref h
 |.two=>∃a vs A' ds,v=.ref a/\A=a::A'/\H a=ν (.lst vs)/\d=.lst ds/\Jj P w W H ds vs A'
theorem Jj.map {P:Z6}{w:aam}{W W':θ->Prop}{H H':Hp}(hr:∀ds vs,ak P w W H ds vs->ak P w W' H' ds vs):∀{ds:List D} {vs:List V} {A:List θ},(∀c∈A,∀o,H c=ν o->H' c=ν o)->Jj P w W H ds vs A->Jj P w W' H' ds vs A
 |[],_,_,_,h=>h
 |_::_,_,_,ha,⟨b,us,r,A',e1,e2,e3,⟨es,e4,e5⟩,h⟩=>{b,us,r,A',e1,e2,ha b (by rw[e2];simp) _ e3,{es,e4,hr _ _ e5},Jj.map hr (λc hc=>ha c (by rw[e2];simp[hc])) h}
theorem Jj.rep {P:Z6}{w:aam}{W W':θ->Prop}{H:Hp}(hs:∀ds vs,ak P w W H ds vs->ak P w W' H ds vs):∀{ds:List D} {vs:List V} {A:List θ},(∀c∈A,¬ W' c)->Jj P w W H ds vs A->ak P w W' H ds vs
 |[],_,_,_,h=>h.1
 |_::_,_,_,ha,⟨b,us,r,A',e1,e2,e3,⟨es,e4,e5⟩,h⟩=>by
  subst e1 e2 e4;exact{.ref b,r,rfl,{b,us,rfl,e3,ha b (by simp),hs _ _ e5},Jj.rep hs (λc hc=>ha c (by simp[hc])) h}
def qN.map {P:Z6}{w:aam}{W W':θ->Prop}{H H':Hp}{d:D}{v:V}{A:List θ}(h:qN P w W H d v A)(ha:∀c∈A,∀o,H c=ν o->H' c=ν o)(hr:∀ds vs,ak P w W H ds vs->ak P w W' H' ds vs):qN P w W' H' d v A :=
 let ⟨a,o,vs,e1,e2,e3,e4,r⟩:=h;{a,o,vs,e1,e2,ha a (by rw[e2];simp) o e3,e4,hr _ _ r}
def NW.map {P:Z6}{w:aam}{W W':θ->Prop}{H H':Hp}{y:Sk}{d:D}{v:V}{A:List θ}(h:NW P w W H y d v A)(ha:∀c∈A,∀o,H c=ν o->H' c=ν o)(hr:∀ds vs,ak P w W H ds vs->ak P w W' H' ds vs):NW P w W' H' y d v A:=by
 cases y with
 |one=>exact qN.map h ha hr
 | «at» b=>exact{qN.map h.1 ha hr,h.2}
 |two =>
  obtain⟨a,vs,A',ds,e1,e2,e3,e4,r⟩:=h;exact{a,vs,A',ds,e1,e2,ha a (by rw[e2];simp) _ e3,e4,r.map hr λc hc=>ha c (by rw[e2];simp[hc])}
def qN.rep {P:Z6}{w:aam}{W W':θ->Prop}{H:Hp}{d:D}{v:V}{A:List θ}(h:qN P w W H d v A)(ha:∀c∈A,¬ W' c)(hs:∀ds vs,ak P w W H ds vs->ak P w W' H ds vs):aE P w W' H d v:=by
 obtain⟨a,o,vs,rfl,rfl,e,sh,r⟩:=h;have na:=ha a (by simp)
 replace r:=hs _ _ r;cases d with
 |lst ds=>cases sh;exact{(a),vs,rfl,e,na,r}
 |dT ks ds=>obtain⟨rfl,l⟩:=sh;exact{(a),vs,rfl,e,l,na,r}
 |dK ks ds=>obtain⟨rfl,l⟩:=sh;exact{(a),vs,rfl,e,l,na,r}
 |_=>exact sh.elim
def NW.rep {P:Z6}{w:aam}{W W':θ->Prop}{H:Hp}{y:Sk}{d:D}{v:V}{A:List θ}(h:NW P w W H y d v A)(ha:∀c∈A,¬ W' c)(hs:∀ds vs,ak P w W H ds vs->ak P w W' H ds vs):aE P w W' H d v:=by
 cases y with
 |one=>exact qN.rep h ha hs
 | «at» b=>exact qN.rep h.1 ha hs
 |two =>
  obtain⟨a,vs,A',ds,rfl,rfl,e3,rfl,r⟩:=h;exact{a,vs,rfl,e3,ha a (by simp),r.rep hs λc hc=>ha c (by simp[hc])}
structure cZ (P:Z6)(w:aam)(C:Cfg)(σ:St)(H:Hp)(β:ba)(own:Nat->List θ):Prop where
 len:β.length=σ.length
 val:∀(i:Nat) (y:Bool) (d:D),β[i]?=ν (ν (.val y d))->∃v,σ[i]?=ν (ν v)/\aE P w (jw C (Wn own) (yk y)) H d v
 ow:∀(i:Nat) (d:D),β[i]?=ν (ν (.own d))->∃v,σ[i]?=ν (ν v)/\Own P w H d v (own i)/\∀c∈own i,C.H0 c=ξ
 rC:∀(i:Nat) (ok:List Int->Prop),β[i]?=ν (ν (.hand ok))->∃a ns,σ[i]?=ν (ν (.ref a))/\H a=ν (.lst (ns.map V.int))/\ok ns/\own i=[a]/\((∀b,¬ C.IO b)\/C.IO a)
 dm:∀(i:Nat) (a:θ),a∈own i->H a≠ξ/\(∀xs,H a≠ν (.tup xs))/\(C.H0 a=ξ\/C.IO a)/\¬ C.U a
 oP:∀(i j:Nat) (a:θ),a∈own i->a∈own j->i=j
 qS:∀i,(own i).Nodup
 kp:Kp C.IO C.H0 H
 ju:∀a,C.H0 a≠ξ->H a≠ξ
 shl:∀(i:Nat) (y:Sk) (d:D),β[i]?=ν (ν (.shl y d))->∃v,σ[i]?=ν (ν v)/\NW P w (jw C (Wn own) (yk ζ)) H y d v (own i)/\∀c∈own i,C.H0 c=ξ
abbrev SQ (X:Cx):=cZ X.prog X.w
section
variable {P:Z6}{w:aam}{C:Cfg}{σ:St}{H H':Hp}{β:ba}{own:Nat->List θ}{W W':θ->Prop}
def cZ.yH (b:cZ P w C σ H β own):Dm (Wn own) H:=λa ⟨i,h⟩=>(b.dm i a h).1
def cZ.FO (b:cZ P w C σ H β own)(k:Kd):Dm (av C (Wn own) k) H:=λa h=>by
 cases k with
 |own=>exact h.elim (b.yH a) (b.ju a)
 |g9=>exact h.elim (b.yH a) (b.ju a)
 |old=>exact b.yH a h
 |bor=>exact h.elim
def oS (s:∀a,W' a->W a)(k:Kd):∀a,av C W' k a->av C W k a:=λa h=>by
 cases k with
 |own=>exact h.imp (s a) id
 |g9=>exact h.imp (s a) id
 |old=>exact s a h
 |bor=>exact h
def mf (s:∀a,W' a->W a)(k:Kd):∀a,jw C W' k a->jw C W k a:=λa h=>h.imp (oS s k a) id
def cZ.keep (b:cZ P w C σ H β own)(k:Kp (λa=>H a=ξ) H H')(kp:Kp C.IO H H')(dn:∀a,H a≠ξ->H' a≠ξ):cZ P w C σ H' β own:=by
 have ko:∀c o,H c=ν o->H' c=ν o:=λc o e=>k.out c o e (by rw[e];exact λz=>(nomatch z))
 have same:aB H H':=ko;exact⟨b.len,λi y d e=>let ⟨v,h1,h2⟩:=b.val i y d e;{v,h1,h2.same same},λi d e=>let ⟨v,h1,h2,h3⟩:=b.ow i d e;{v,h1,h2.keep (λ_ _ e=>same _ _ e) (λc _ o e=>same c o e),h3},
  λi ok e=>let ⟨a,ns,h1,h2,h3⟩:=b.rC i ok e;{a,ns,h1,same _ _ h2,h3},λi a h=>by
   obtain⟨h1,h2,h3⟩:=b.dm i a h;cases q:H a with
   |none=>exact Η q h1
   |some o=>rw[same a o q];exact{λz=>(nomatch z),λxs z=>h2 xs (by rw[q];exact z),h3},b.oP,b.qS,b.kp.trans kp,λa z=>dn a (b.ju a z),λi y d e=>let ⟨v,h1,h2,h3⟩:=b.shl i y d e;{v,h1,h2.map (λc _ o e=>same c o e) (λ_ _ r=>r.same same),h3}⟩
def cZ.same (b:cZ P w C σ H β own)(s:aB H H'):cZ P w C σ H' β own:=b.keep s.kp s.kp λa z e=>z (s.free e)
def fG {own:Nat->List θ}{i:Nat}{a:θ}(h:Wn (a5 own i []) a):Wn own a:=let ⟨j,q⟩:=h;{j,(cI q).1}
def b7 {own:Nat->List θ}{i j:Nat}{A:List θ}(h:i≠j):a5 own i A j=own j:=by unfold a5;rw[ω (acB h)]
def os_eq {own:Nat->List θ}{i:Nat}{A:List θ}:a5 own i A i=A:=by unfold a5;rw[χ rfl]
def cZ.gy {i:Nat}{d:D}{v:V}{y:Bool}(b:cZ P w C σ H β own)(r:aE P w (jw C (Wn own) (yk y)) H d v):cZ P w C (σ.set i (ν v)) H (β.set i (ν (.val y d))) (a5 own i []):=by
 have sub:∀y a,jw C (Wn (a5 own i [])) (yk y) a->jw C (Wn own) (yk y) a:=λy=>mf (λa h=>fG h) _;refine{by simp[b.len],λj y' d' e=>?_,λj d' e=>?_,λj ok e=>?_,λj a h=>b.dm j a (cI h).1,λj k a h1 h2=>b.oP j k a (cI h1).1 (cI h2).1,λj=>?_,b.kp,b.ju,λj y' d' e=>?_}
 ·by_cases aL:i=j
  ·subst aL;obtain⟨e',hl⟩:=bY e;cases e';exact{v,get_set (by rw[<- b.len];exact hl),r.a_ (sub _)}
  ·rw[bR aL]at e ⊢
   obtain⟨u,h1,h2⟩:=b.val j y' d' e;exact{u,h1,h2.a_ (sub _)}
 ·by_cases aL:i=j
  ·subst aL;obtain⟨e',hl⟩:=bY e;cases e'
  ·rw[bR aL]at e ⊢
   rw[b7 aL];exact b.ow j d' e
 ·by_cases aL:i=j
  ·subst aL;obtain⟨e',hl⟩:=bY e;cases e'
  ·rw[bR aL]at e ⊢
   rw[b7 aL];exact b.rC j ok e
 ·by_cases aL:i=j
  ·rw[aL,os_eq];exact aa0
  ·rw[b7 aL];exact b.qS j
 ·by_cases aL:i=j
  ·subst aL;obtain⟨e',hl⟩:=bY e;cases e'
  ·rw[bR aL]at e ⊢
   rw[b7 aL];obtain⟨u,h1,h2,h3⟩:=b.shl j y' d' e;exact{u,h1,h2.map (λ_ _ _ z=>z) (λ_ _ r=>ak.a_ (sub _) r),h3}
def cZ.Dd {i:Nat}{d:D}{v:V}{A:List θ}(b:cZ P w C σ H β own)(r:Own P w H d v A)(nd:A.Nodup)(nw:∀c∈A,C.H0 c=ξ/\¬ Wn own c/\C.U c):
  cZ P w {C with U:=λ_=>False} (σ.set i (ν v)) H (β.set i (ν (.own d))) (a5 own i A):=by
 have sub:∀y a,jw {C with U:=λ_=>False} (Wn (a5 own i A)) (yk y) a->jw C (Wn own) (yk y) a:=λy a h=>by
  have q:∀a,Wn (a5 own i A) a->Wn own a\/a∈A:=λa yr=>by
   obtain⟨j,q⟩:=yr
   by_cases aL:i=j
   ·rw[aL,os_eq]at q;exact .inr q
   ·rw[b7 aL]at q;exact .inl {(j),q}
  have q':∀a,Wn (a5 own i A) a->Wn own a\/C.U a:=λa z=>(q a z).imp id λz=>(nw a z).2.2;rcases h with h|h
  ·cases y with
   |true=>exact h.elim (λz=>(q' a z).imp .inl id) λz=>.inl (.inr z)
   |false=>exact q' a h
  ·exact h.elim
 have mem:∀{j c},c∈a5 own i A j->(i=j/\c∈A)\/(i≠j/\c∈own j):=λ{j c} h=>by
  by_cases aL:i=j
  ·subst aL;rw[os_eq]at h;exact .inl {(rfl),h}
  ·rw[b7 aL]at h;exact .inr {(aL),h}
 refine{by simp[b.len],λj y' d' e=>?_,λj d' e=>?_,λj ok e=>?_,λj a h=>?_,λj k a h1 h2=>?_,λj=>?_,b.kp,b.ju,λj y' d' e=>?_}
 ·by_cases aL:i=j
  ·subst aL;obtain⟨e',hl⟩:=bY e;cases e'
  ·rw[bR aL]at e ⊢
   obtain⟨u,h1,h2⟩:=b.val j y' d' e;exact{u,h1,h2.a_ (sub _)}
 ·by_cases aL:i=j
  ·subst aL;obtain⟨e',hl⟩:=bY e;cases e';rw[os_eq];exact{v,get_set (by rw[<- b.len];exact hl),r,λc hc=>(nw c hc).1}
  ·rw[bR aL]at e ⊢
   rw[b7 aL];exact b.ow j d' e
 ·by_cases aL:i=j
  ·subst aL;obtain⟨e',hl⟩:=bY e;cases e'
  ·rw[bR aL]at e ⊢
   rw[b7 aL];exact b.rC j ok e
 ·rcases mem h with⟨_,h⟩|⟨_,h⟩
  ·exact{(r.qV a h).1,(r.qV a h).2,.inl (nw a h).1,λz=>z}
  ·exact{(b.dm j a h).1,(b.dm j a h).2.1,(b.dm j a h).2.2.1,λz=>z}
 ·rcases mem h1 with⟨e1,h1⟩|⟨n1,h1⟩
  ·rcases mem h2 with⟨e2,h2⟩|⟨n2,h2⟩
   ·rw[<- e1,<- e2]
   ·exact Η {(k),h2} (nw a h1).2.1
  ·rcases mem h2 with⟨e2,h2⟩|⟨n2,h2⟩
   ·exact Η {(j),h1} (nw a h2).2.1
   ·exact b.oP j k a h1 h2
 ·by_cases aL:i=j
  ·rw[<- aL,os_eq];exact nd
  ·rw[b7 aL];exact b.qS j
 ·by_cases aL:i=j
  ·subst aL;obtain⟨e',hl⟩:=bY e;cases e'
  ·rw[bR aL]at e ⊢
   rw[b7 aL];obtain⟨u,h1,h2,h3⟩:=b.shl j y' d' e;exact{u,h1,h2.map (λ_ _ _ z=>z) (λ_ _ r=>ak.a_ (sub _) r),h3}
def cZ.freeze {i:Nat}{d:D}(b:cZ P w C σ H β own)(h:β[i]?=ν (ν (.own d))):cZ P w C σ H (β.set i (ν (.val ζ d))) (a5 own i []):=by
 obtain⟨v,h1,h2,h3⟩:=b.ow i d h;have e:σ.set i (ν v)=σ:=by
  apply ab_;intro j;rw[acN]
  by_cases aL:i=j
  ·subst aL;rw[χ rfl,h1];have:i<σ.length:=(aaf.mp h1).1;rw[χ this]
  ·rw[ω aL]
 have q:=cZ.gy (i:=i) (d:=d) (v:=v) (y:=ζ) (own:=a5 own i []) (C:=C) (P:=P) (w:=w) (σ:=σ) (H:=H) (β:=β.set i ξ);have b':cZ P w C σ H (β.set i ξ) (a5 own i []):=by
  have sub:∀y a,jw C (Wn (a5 own i [])) (yk y) a->jw C (Wn own) (yk y) a:=λy=>mf (λa h=>fG h) _;refine{by simp[b.len],λj y' d' e=>?_,λj d' e=>?_,λj ok e=>?_,λj a h=>b.dm j a (cI h).1,λj k a h1 h2=>b.oP j k a (cI h1).1 (cI h2).1,λj=>?_,b.kp,b.ju,λj y' d' e=>?_}
  ·by_cases aL:i=j
   ·subst aL;obtain⟨e',hl⟩:=bY e;cases e'
   ·rw[bR aL]at e;obtain⟨u,h1,h2⟩:=b.val j y' d' e;exact{u,h1,h2.a_ (sub _)}
  ·by_cases aL:i=j
   ·subst aL;obtain⟨e',hl⟩:=bY e;cases e'
   ·rw[bR aL]at e;rw[b7 aL];exact b.ow j d' e
  ·by_cases aL:i=j
   ·subst aL;obtain⟨e',hl⟩:=bY e;cases e'
   ·rw[bR aL]at e;rw[b7 aL];exact b.rC j ok e
  ·by_cases aL:i=j
   ·rw[aL,os_eq];exact aa0
   ·rw[b7 aL];exact b.qS j
  ·by_cases aL:i=j
   ·subst aL;obtain⟨e',hl⟩:=bY e;cases e'
   ·rw[bR aL]at e;rw[b7 aL];obtain⟨u,h1,h2,h3⟩:=b.shl j y' d' e;exact{u,h1,h2.map (λ_ _ _ z=>z) (λ_ _ r=>ak.a_ (sub _) r),h3}
 have q:=cZ.gy (i:=i) (d:=d) (v:=v) (y:=ζ) b' (h2.rep λc hc z=>by
  rcases z with (z|z)|z
  ·obtain⟨j,hj⟩:=z;obtain⟨hj,ne⟩:=cI hj;exact ne (b.oP j i c hj hc)
  ·exact z (h3 c hc)
  ·exact(b.dm i c hc).2.2.2 z)
 rw[e,List.set_set]at q;have eo:a5 (a5 own i []) i []=a5 own i []:=by
  funext j
  by_cases aL:i=j
  ·rw[<- aL,os_eq,os_eq]
  ·rw[b7 aL,b7 aL]
 rwa [eo]at q
abbrev Cfg.u (C:Cfg)(U:θ->Prop):Cfg:={C with U:=U}
def cZ.uS {U:θ->Prop}(b:cZ P w C σ H β own)(hU:∀a,U a->H a=ξ):cZ P w (C.u U) σ H β own :=
 {b.len,λi y d e=>let ⟨v,h1,h2⟩:=b.val i y d e;{v,h1,aE.grow (λa z=>z.elim (λz=>.inl (.inl z)) λz=>.inr (hU a z)) h2},b.ow,b.rC,λi a h=>let ⟨h1,h2,h3,_⟩:=b.dm i a h;{h1,h2,h3,λz=>h1 (hU a z)},b.oP,b.qS,b.kp,b.ju,λi y d e=>let ⟨v,h1,h2,h3⟩:=b.shl i y d e;{v,h1,h2.map (λ_ _ _ z=>z) (λ_ _ r=>ak.grow (λa z=>z.elim (λz=>.inl (.inl z)) λz=>.inr (hU a z)) r),h3}}
def cZ.XT {U:θ->Prop}(b:cZ P w (C.u U) σ H β own):cZ P w (C.u λ_=>False) σ H β own :=
 {b.len,λi y d e=>let ⟨v,h1,h2⟩:=b.val i y d e;{v,h1,aE.a_ (λa z=>z.elim .inl λz=>z.elim) h2},b.ow,b.rC,λi a h=>let ⟨h1,h2,h3,_⟩:=b.dm i a h;{h1,h2,h3,λz=>z},b.oP,b.qS,b.kp,b.ju,λi y d e=>let ⟨v,h1,h2,h3⟩:=b.shl i y d e;{v,h1,h2.map (λ_ _ _ z=>z) (λ_ _ r=>ak.a_ (λa z=>z.elim .inl λz=>z.elim) r),h3}}
def cZ.nR {i:Nat}{y:Bool}{d:D}(b:cZ P w C σ H β own)(e:β[i]?=ν (ν (.val y d))):∃v,σ[i]?=ν (ν v)/\aE P w (av C (Wn own) (yk y)) H d v:=let ⟨v,h1,h2⟩:=b.val i y d e;{v,h1,aE.a_ (λa z=>.inl z) h2}
end
def KV (P:Z6)(w:aam)(C:Cfg)(Z:Hp×(θ->Prop))(own:Nat->List θ)(H:Hp):Kd->D->V->Prop
 |.own,d,v=>∃A,Own P w H d v A/\A.Nodup/\∀c∈A,Z.1 c=ξ/\¬ Wn own c/\C.H0 c=ξ
 |.g9,d,v=>aE P w (av C (Wn own) .g9) H d v
 |.old,d,v=>aE P w (av C (Wn own) .old) H d v
 |.bor,d,v=>aE P w (av C (Wn own) .bor) H d v
structure VD (P:Z6)(w:aam)(C:Cfg)(σ:St)(H:Hp)(own:Nat->List θ)(p:Bool)(β':ba)(H':Hp)(aX:Nat->List θ):Prop where
 sq:cZ P w C σ H' β' aX
 sn:Sn (H,Wn own) H' (Wn aX)
 pu:p=ζ->aB H H'/\aX=own
 le:∀a,Wn aX a->Wn own a
abbrev Out (X:Cx):=VD X.prog X.w
section
variable {X:Cx}{C:Cfg}{σ:St}{H H1 H2 H':Hp}{own aH bE:Nat->List θ}{p p':Bool}{β β1 β2 β':ba}{Z:Hp×(θ->Prop)}{d:D}{v:V}{k:Kd}{P:Z6}{w:aam}
def Out.refl (s:SQ X C σ H β own)(p:Bool):Out X C σ H own p β H own:={s,Sn.refl,λ_=>{aB.refl _,rfl},λ_ z=>z}
def Out.trans (a:Out X C σ H own p β1 H1 aH)(b:Out X C σ H1 aH p' β2 H2 bE):Out X C σ H own (p&&p') β2 H2 bE:=⟨b.sq,a.sn.trans b.sn,λh=>by
 rw[aaQ]at h;obtain⟨s1,e1⟩:=a.pu h.1;obtain⟨s2,e2⟩:=b.pu h.2;exact{s1.trans s2,e2.trans e1},λc z=>a.le c (b.le c z)⟩
def Out.same (a:Out X C σ H own p β1 H1 aH)(s:aB H1 H2):Out X C σ H own p β1 H2 aH:={a.sq.same s,a.sn.same s,λh=>let ⟨s1,e1⟩:=a.pu h;{s1.trans s,e1},a.le}
noncomputable def Out.wk (a:Out X C σ H own p β1 H1 aH)(h:p'=ζ->p=ζ):Out X C σ H own p' β1 H1 aH:={a.sq,a.sn,λz=>a.pu (h z),a.le}
def KV.rep (h:KV P w C Z own H k d v):aE P w (av C (Wn own) k) H d v:=by
 cases k with
 |own=>obtain⟨A,h1,h2,h3⟩:=h;exact h1.rep λc hc z=>z.elim (h3 c hc).2.1 λz=>z (h3 c hc).2.2
 |_=>exact h
def KV.g9 (h:KV P w C Z own H .own d v):KV P w C Z own H .g9 d v:=KV.rep (k:=.own) h
def KV.flat {W:θ->Prop}(f:d.flat=ζ)(h:aE P w W H d v):KV P w C Z own H .own d v:={[],fQ f h,aa0,λc hc=>(nomatch hc)}
noncomputable abbrev Kd.wk:Kd->Kd
 |.own=>.g9
 |.g9=>.g9
 |.old=>.old
 |.bor=>.bor
abbrev Kd.max:Kd->Kd->Kd
 |.bor,_=>.bor
 |_,.bor=>.bor
 |.old,_=>.old
 |_,.old=>.old
 |_,_=>.g9
def eI {W:θ->Prop}{a b:Kd}:∀c,av C W (a.max b) c->av C W a c:=λc h=>by
 cases a <;> cases b <;> first|exact h|exact h.elim|exact .inl h
def iF {W:θ->Prop}{a b:Kd}:∀c,av C W (a.max b) c->av C W b c:=λc h=>by
 cases a <;> cases b <;> first|exact h|exact h.elim|exact .inl h
def KV.of (h:aE P w (av C (Wn own) k.wk) H d v):KV P w C Z own H k.wk d v:=by
 cases k <;> exact h
def KV.Oi (h:KV P w C Z own H k d v)(s:aB H H'):KV P w C Z own H' k d v:=by
 cases k with
 |own=>obtain⟨A,h1,h2⟩:=h;exact{A,h1.keep (λb xs e=>s _ _ e) (λc _ o e=>s c o e),h2}
 |g9=>exact aE.same s h
 |old=>exact aE.same s h
 |bor=>exact aE.same s h
def KV.held (hk:k≠.bor)(h:KV P w C Z own H k d v)(n:Sn (H,Wn own) H2 (Wn bE)):KV P w C Z bE H2 k d v:=by
 cases k with
 |own =>
  obtain⟨A,h1,h2,h3⟩:=h;refine{A,h1.keep n.k.tup (λc hc o e=>n.k.out c o e λz=>z.elim (h3 c hc).2.1 λz=>(h1.qV c hc).1 z),h2,λc hc=>{(h3 c hc).1,λz=>(n.w c z).elim (h3 c hc).2.1 λz=>(h1.qV c hc).1 z,(h3 c hc).2.2}}
 |g9 =>
  have g:aE P w (λa=>av C (Wn own) .g9 a\/H a=ξ) H d v:=aE.grow (λb z=>z) h;exact aE.a_ (λb z=>z.elim (λz=>(n.w b z).imp .inl id) λz=>.inl (.inr z)) (aE.keep (n.k.mono λb z=>z.imp .inl id) g)
 |old=>exact held (W:=Wn own) h n
 |bor=>exact Η rfl hk
def KV.QK (h:KV P w C Z own H k d v)(s:aB H H2)(e:bE=own):KV P w C Z bE H2 k d v:=by rw[e];exact h.Oi s
abbrev hold (k:Kd)(p:Bool):Prop:=match k,p with
 |.bor,η=>False
 |_,_=>True
def KV.ho (h:KV P w C Z own H k d v)(o:Out X C σ H own p β' H2 bE)(hh:hold k p):KV P w C Z bE H2 k d v:=by
 cases p with
 |true=>obtain⟨s,e⟩:=o.pu rfl;exact h.QK s e
 |false=>exact h.held (by rintro rfl;exact hh) o.sn
def KV.later (h:KV P w C (H1,Wn aH) own H k d v)(n:Sn Z H1 (Wn aH)):KV P w C Z own H k d v:=by
 cases k with
 |own=>obtain⟨A,h1,h2,h3⟩:=h;exact{A,h1,h2,λc hc=>{n.free (h3 c hc).1,(h3 c hc).2}}
 |_=>exact h
end
abbrev aP:=ba->(D->Kd->ba->Prop)->Prop
abbrev a6:=ba->(Bool->ba->Prop)->Prop
abbrev du:=ba->(List D->List Kd->ba->Prop)->Prop
def tQ (X:Cx)(C:Cfg)(p:Bool)(φ:aP):TE:=λσ H Q=>∃β own,SQ X C σ H β own/\φ β λd k β'=>∀v H' aX,Out X C σ H own p β' H' aX->KV X.prog X.w C (H,Wn own) aX H' k d v->Q v H'
def lq (X:Cx)(C:Cfg)(p:Bool)(φ:a6):TT:=λσ H Q=>∃β own,SQ X C σ H β own/\φ β λb β'=>∀H' aX,Out X C σ H own p β' H' aX->Q b H'
def KF (P:Z6)(w:aam)(C:Cfg)(own:Nat->List θ)(H:Hp):List Kd->List D->List V->List θ->Prop
 |[],ds,vs,A=>ds=[]/\vs=[]/\A=[]
 |k::ks,ds,vs,A=>∃d dr v vr A1 A2,ds=d::dr/\vs=v::vr/\A=A1++A2/\(match k with | .own=>Own P w H d v A1|k=>A1=[]/\aE P w (av C (Wn own) k) H d v)/\KF P w C own H ks dr vr A2
def xi (P:Z6)(w:aam)(C:Cfg)(Z:Hp×(θ->Prop))(own:Nat->List θ)(H:Hp)(ks:List Kd)(ds:List D)(vs:List V):Prop :=
 ∃A,KF P w C own H ks ds vs A/\A.Nodup/\∀c∈A,Z.1 c=ξ/\¬ Wn own c/\C.H0 c=ξ
def xE (X:Cx)(C:Cfg)(p:Bool)(φ:du):TA:=λσ H Q=>∃β own,SQ X C σ H β own/\φ β λds ks β'=>∀vs H' aX,Out X C σ H own p β' H' aX->xi X.prog X.w C (H,Wn own) aX H' ks ds vs->Q vs H'
section
variable {C:Cfg}{H H1:Hp}{own aH:Nat->List θ}{Z:Hp×(θ->Prop)}{d:D}{v:V}{k:Kd}{P:Z6}{w:aam}{ks:List Kd}{ds:List D}{vs:List V}
def xi.nil:xi P w C Z own H [] [] []:={[],{(rfl),rfl,rfl},aa0,λc hc=>(nomatch hc)}
theorem KF.qV:∀{ks:List Kd} {ds:List D} {vs:List V} {A:List θ},KF P w C own H ks ds vs A->∀c∈A,H c≠ξ
 |[],_,_,_,⟨_,_,e⟩,c,hc=>by rw[e]at hc;cases hc
 |k::ks,_,_,_,⟨d,dr,v,vr,A1,A2,rfl,rfl,rfl,h1,h2⟩,c,hc=>by
  rcases Z9.mp hc with hc|hc
  ·cases k with
   |own=>exact(Own.qV h1 c hc).1
   |_=>rw[h1.1]at hc;cases hc
  ·exact KF.qV h2 c hc
def xi.cons (h1:KV P w C Z aH H1 k d v)(n:Sn (H1,Wn aH) H (Wn own))(Iw:KV P w C Z own H k d v)(h2:xi P w C (H1,Wn aH) own H ks ds vs)(n0:Sn Z H1 (Wn aH)):xi P w C Z own H (k::ks) (d::ds) (v::vs):=by
 obtain⟨A2,f2,L0,q2⟩:=h2;have z2:∀c∈A2,Z.1 c=ξ/\¬ Wn own c/\C.H0 c=ξ:=λc hc=>{n0.free (q2 c hc).1,(q2 c hc).2};cases k with
 |own =>
  obtain⟨A1,o1,Cf,q1⟩:=h1;obtain⟨ZT,Zx,XX,V4⟩:=(show KV P w C Z own H .own d v from KV.held (k:=.own) (λz=>(nomatch z)) ({(A1),o1,Cf,q1}:KV P w C Z aH H1 .own d v) n)
  have Tz:Own P w H d v A1:=o1.keep n.k.tup (λc hc o e=>n.k.out c o e λz=>z.elim (q1 c hc).2.1 λz=>(o1.qV c hc).1 z);refine{A1++A2,{(d),ds,v,vs,A1,A2,rfl,rfl,rfl,Tz,f2},aaY.mpr {Cf,L0,λa ha b hb e=>?_},λc hc=>?_}
  ·subst e;exact(o1.qV a ha).1 (q2 a hb).1
  ·rcases Z9.mp hc with hc|hc
   ·exact{(q1 c hc).1,λz=>(n.w c z).elim (q1 c hc).2.1 λz=>(o1.qV c hc).1 z,(q1 c hc).2.2}
   ·exact z2 c hc
 |g9=>exact{A2,{d,ds,v,vs,[],A2,rfl,rfl,rfl,{(rfl),Iw},f2},L0,z2}
 |old=>exact{A2,{d,ds,v,vs,[],A2,rfl,rfl,rfl,{(rfl),Iw},f2},L0,z2}
 |bor=>exact{A2,{d,ds,v,vs,[],A2,rfl,rfl,rfl,{(rfl),Iw},f2},L0,z2}
abbrev il:List Kd->Kd
 |[]=>.g9
 |k::ks=>Kd.max k (il ks)
theorem KF.lC:∀{ks:List Kd} {ds:List D} {vs:List V} {A:List θ},KF P w C own H ks ds vs A->(∀c∈A,¬ Wn own c/\C.H0 c=ξ)->ak P w (av C (Wn own) (il ks)) H ds vs
 |[],_,_,_,⟨e1,e2,e⟩,_=>by rw[e1,e2];rfl
 |k::ks,_,_,_,⟨d,dr,v,vr,A1,A2,rfl,rfl,rfl,h1,h2⟩,hA=>by
  refine{v,vr,rfl,?_,ak.a_ iF (KF.lC h2 λc hc=>hA c (aaB _ hc))};cases k with
  |own=>exact aE.a_ eI (Own.rep (W:=av C (Wn own) .own) (λc hc z=>z.elim (hA c (aaP _ hc)).1 λz=>z (hA c (aaP _ hc)).2) h1)
  |g9=>exact aE.a_ (eI (a:=.g9)) h1.2
  |old=>exact aE.a_ (eI (a:=.old)) h1.2
  |bor=>exact aE.a_ (eI (a:=.bor)) h1.2
def xi.lC (h:xi P w C Z own H ks ds vs):ak P w (av C (Wn own) (il ks)) H ds vs:=let ⟨A,h1,_,h3⟩:=h;h1.lC λc hc=>(h3 c hc).2
def xi.bor (h:xi P w C Z own H ks ds vs):ak P w (λ_=>False) H ds vs:=ak.a_ (λ_ z=>z.elim) h.lC
def AH:List Kd->List D->Prop
 |k::ks,d::ds=>(match k with | .own=>True|_=>d.flat=ζ)/\AH ks ds
 |_,_=>True
theorem KF.LF:∀{ks:List Kd} {ds:List D} {vs:List V} {A:List θ},KF P w C own H ks ds vs A->AH ks ds->aT P w H ds vs A
 |[],_,_,_,⟨e1,e2,e⟩,_=>by rw[e1,e2,e];exact{(rfl),rfl}
 |k::ks,_,_,_,⟨d,dr,v,vr,A1,A2,rfl,rfl,rfl,h1,h2⟩,⟨f1,f2⟩=>by
  refine{v,vr,A1,A2,rfl,rfl,?_,KF.LF h2 f2};cases k with
  |own=>exact h1
  |g9=>rw[h1.1];exact fQ f1 h1.2
  |old=>rw[h1.1];exact fQ f1 h1.2
  |bor=>rw[h1.1];exact fQ f1 h1.2
theorem fx:∀{ks:List Kd},(il ks).wk=il ks
 |[]=>rfl
 |k::ks=>by cases k <;> cases h:il ks <;> simp[il,Kd.max,h]
def EI (ks:List Kd)(ds:List D)(K:Kd->Prop):Prop:=match ks.all (λk=>match k with | .own=>ζ|_=>η)with
 |true=>K .own
 |false=>(AH ks ds/\K .own)\/K (il ks)
def EI.mono {ks:List Kd}{ds:List D}{K K':Kd->Prop}(k:∀x,K x->K' x)(h:EI ks ds K):EI ks ds K':=by
 unfold EI at *
 split
 ·next e=>rw[e]at h;exact k _ h
 ·next e=>rw[e]at h;exact h.imp (λz=>{z.1,k _ z.2}) (k _)
def EI.of {ks:List Kd}{ds:List D}{K:Kd->Prop}(h:EI ks ds K):(AH ks ds/\K .own)\/K (il ks):=by
 unfold EI at h
 split at h
 ·next e =>
  refine .inl {?_,h}
  clear h
  induction ks generalizing ds with
  |nil=>cases ds <;> trivial
  |cons k ks ih =>
   cases ds with
   |nil=>trivial
   |cons d ds =>
    rw[List.all_cons,aaQ]at e;refine{?_,ih e.2};have e1:=e.1;cases k <;> first|trivial|cases e1
 ·exact h
end
structure PQ (X:Cx)(C:Cfg)(p:Bool)(e:Expr)(φ:aP):Prop where
 mono:∀β R R',(∀d k β,R d k β->R' d k β)->φ β R->φ β R'
 pe:PE X e (tQ X C p φ)
structure xq (X:Cx)(C:Cfg)(p:Bool)(e:Expr)(φ:a6):Prop where
 mono:∀β R R',(∀d β,R d β->R' d β)->φ β R->φ β R'
 pt:PT X e (lq X C p φ)
structure tE (X:Cx)(C:Cfg)(p:Bool)(e:Expr)(φ:a6):Prop where
 mono:∀β R R',(∀d β,R d β->R' d β)->φ β R->φ β R'
 pw:PW X e (lq X C p φ)
structure xc (X:Cx)(C:Cfg)(p:Bool)(es:List Expr)(φ:du):Prop where
 mono:∀β R R',(∀d k β,R d k β->R' d k β)->φ β R->φ β R'
 pa:PA X es (xE X C p φ)
section
variable {X:Cx}{C:Cfg}{a b c e:Expr}{es:List Expr}{φ φa φb:aP}{τ τa τb:a6}{φs:du}{pos:Pos}{σ:St}{H H':Hp}{β:ba}{own:Nat->List θ}{p p':Bool}
def tQ.of (h:PQ X C p e φ)(s:SQ X C σ H β own){R:D->Kd->ba->Prop}{Q:VK}(hr:φ β R)(k:∀d kd β' v H' aX,R d kd β'->Out X C σ H own p β' H' aX->KV X.prog X.w C (H,Wn own) aX H' kd d v->Q v H'):tQ X C p φ σ H Q :=
 {β,own,s,h.mono β _ _ (λd kd β' hd v H' aX o r=>k d kd β' v H' aX hd o r) hr}
def lq.of (h:xq X C p e τ)(s:SQ X C σ H β own){R:Bool->ba->Prop}{Q:Bool->Hp->Prop}(hr:τ β R)(k:∀t β' H' aX,R t β'->Out X C σ H own p β' H' aX->Q t H'):lq X C p τ σ H Q :=
 {β,own,s,h.mono β _ _ (λt β' hd H' aX o=>k t β' H' aX hd o) hr}
def xE.of (h:xc X C p es φs)(s:SQ X C σ H β own){R:List D->List Kd->ba->Prop}{Q:List V->Hp->Prop}(hr:φs β R)(k:∀ds ks β' vs H' aX,R ds ks β'->Out X C σ H own p β' H' aX->xi X.prog X.w C (H,Wn own) aX H' ks ds vs->Q vs H'):xE X C p φs σ H Q :=
 {β,own,s,h.mono β _ _ (λd kd β' hd v H' aX o r=>k d kd β' v H' aX hd o r) hr}
def tE.t (h:tE X C p e τ):xq X C p e τ:={(h.mono),h.pw.pt}
noncomputable abbrev vk (y:Bool):D->Kd
 |.int _=>.own
 |.bl _=>.own
 |.cN=>.own
 |.str _=>.own
 |_=>yk y
def qB:B->(D->Kd->Prop)->Prop
 |.val y d,K=>K d (vk y d)
 |.own d,K=>K d .bor
 |.hand _,_=>False
 |.shl _ _,_=>False
def Dr (i:Nat):aP:=λβ R=>∃b,β[i]?=ν (ν b)/\qB b λd k=>R d k β
def Mc {P:Z6}{w:aam}{Z:Hp×(θ->Prop)}{y:Bool}{d:D}{v:V}(h:aE P w (av C (Wn own) (yk y)) H d v):KV P w C Z own H (vk y d) d v:=by
 cases d with
 |int i=>exact KV.flat rfl h
 |bl i=>exact KV.flat rfl h
 |cN=>exact KV.flat rfl h
 |str i=>exact KV.flat rfl h
 |_=>cases y <;> exact h
def ab {i:Nat}{x:Str}(hn:Nm X i x:=by exact Ce):
  PQ X C ζ (.Name x pos) (Dr i):=⟨λβ R R' k yr=>by obtain⟨b,e,h⟩:=yr;exact{b,e,by cases b <;> first|exact k _ _ _ h|exact h},(iN hn).pre λσ H Q yq=>by
 obtain⟨β,own,s,b,e,q⟩:=yq;cases b with
 |val y d=>obtain⟨v,h1,h2⟩:=s.nR e;exact{v,h1,q v H own (Out.refl s _) (Mc h2)}
 |own d=>obtain⟨v,h1,h2,h3⟩:=s.ow i d e;exact{v,h1,q v H own (Out.refl s _) (h2.rep λ_ _ z=>z)}
 |hand ok=>exact q.elim
 |shl _ _=>exact q.elim⟩
def Tq (i:Nat):aP:=λβ R=>∃d,β[i]?=ν (ν (.own d))/\R d .g9 (β.set i (ν (.val ζ d)))
def Lq {i:Nat}{x:Str}(hn:Nm X i x:=by exact Ce):
  PQ X C η (.Name x pos) (Tq i):=⟨λβ R R' k Ik=>by obtain⟨b,e,h⟩:=Ik;exact{b,e,k _ _ _ h},(iN hn).pre λσ H Q EY=>by
 obtain⟨β,own,s,d,e,q⟩:=EY;have f:=s.freeze e;obtain⟨v,h1,h2⟩:=f.nR (y:=ζ) (get_set (by rw[s.len];obtain⟨v,h1,_⟩:=s.ow i d e;exact(aaf.mp h1).1))
 exact{v,h1,q v H _ {f,{λb z=>.inl (fG z),Kp.refl,λ_ z=>z},λz=>(nomatch z),λ_ z=>fG z} h2}⟩
def qC (d:D):aP:=λβ R=>R d .own β
def ag {i j}:PQ X C ζ (.Constant (.int i) j pos) (qC (.int i)):={λρ R R' k h=>k _ _ _ h,bu.pre λσ H Q Mw=>by obtain⟨β,own,s,q⟩:=Mw;exact q _ H own (Out.refl s _) (KV.flat (W:=λ_=>False) rfl rfl)}
def gj {b j}:PQ X C ζ (.Constant (.bool b) j pos) (qC (.bl b)):={λρ R R' k h=>k _ _ _ h,Jz.pre λσ H Q Pz=>by obtain⟨β,own,s,q⟩:=Pz;exact q _ H own (Out.refl s _) (KV.flat (W:=λ_=>False) rfl rfl)}
def ie {j}:PQ X C ζ (.Constant .none j pos) (qC .cN):={λρ R R' k h=>k _ _ _ h,Lx.pre λσ H Q Ij=>by obtain⟨β,own,s,q⟩:=Ij;exact q _ H own (Out.refl s _) (KV.flat (W:=λ_=>False) rfl rfl)}
def t6 {x j}:PQ X C ζ (.Constant (.str x) j pos) (qC (.str x)):={λρ R R' k h=>k _ _ _ h,Lu.pre λσ H Q EX=>by obtain⟨β,own,s,q⟩:=EX;exact q _ H own (Out.refl s _) (KV.flat (W:=λ_=>False) rfl rfl)}
def Dp (X:Cx)(f:D->D->Option D)(N:D->Prop):R2:=λx y H Q=>∃W d1 d2 d,Dm W H/\Rp X W H d1 x/\Rp X W H d2 y/\f d1 d2=ν d/\∀v H',aB H H'->Rp X W H' d v->(N d->Rp X (λa=>H a≠ξ) H' d v)->Q v H'
abbrev Sj (X:Cx)(f:ZW->ZW->Sem ZW)(g:D->D->Option D)(N:D->Prop):Prop:=kS X f (Dp X g N)
def bq.m {f:ZW->ZW->Sem ZW}{g:D->D->Option D}(h:bq X f g):Sj X f g NF:=λμ s σ H x y v u Q I rx ry ⟨W,d1,d2,d,hd,r1,r2,e,q⟩ =>
 h μ s σ H x y v u Q I rx ry {W,d1,d2,d,hd,r1,r2,e,λv H' s r=>q v H' s r λf=>aE.flat f r}
noncomputable def kN (N:D->Prop)(d:D)(k:Kd)(K:Kd->Prop):Prop:=match d with
 |.int _=>K .own
 |.bl _=>K .own
 |.cN=>K .own
 |.str _=>K .own
 |.tup _=>K k
 |_=>(N d/\K .own)\/K k
def kN.mono {N:D->Prop}{d:D}{k:Kd}{K K':Kd->Prop}(h:∀x,K x->K' x)(q:kN N d k K):kN N d k K':=by
 cases d <;> first|exact h _ q|exact q.imp (λz=>⟨z.1,h _ z.2⟩) (h _)
def jM {P:Z6}{w:aam}{Z:Hp×(θ->Prop)}{d:D}{v:V}(hd:Dm (Wn own) H)(h0:∀a,C.H0 a≠ξ->H a≠ξ)(hz:∀a,Z.1 a≠ξ->H a≠ξ)(f:NL d)(r:aE P w (λa=>H a≠ξ) H' d v):KV P w C Z own H' .own d v:=by
 have nn:∀{a:θ},¬ (H a≠ξ)->H a=ξ:=λ{a} h=>aaz λz=>h z;have cl:∀{a:θ},H a=ξ->Z.1 a=ξ/\¬ Wn own a/\C.H0 a=ξ:=λ{a} h=>{aaz λz=>hz a z h,λz=>hd a z h,aaz λz=>h0 a z h};cases d with
 |lst ds =>
  obtain⟨a,vs,rfl,e,n,q⟩:=r;exact{[a],{a,vs,[],rfl,e,rfl,jL f q},by simp,λc hc=>by rw[ZY.mp hc];exact cl (nn n)}
 |_=>exact KV.flat f r
noncomputable def KV.kN {N:D->Prop}{P:Z6}{w:aam}{Z:Hp×(θ->Prop)}{d:D}{v:V}{k:Kd}{K:Kd->Prop}(hk:k.wk=k)(r:aE P w (av C (Wn own) k) H' d v)(ro:N d->KV P w C Z own H' .own d v)(q:kN N d k K):∃k',K k'/\KV P w C Z own H' k' d v:=by
 have rk:KV P w C Z own H' k d v:=by rw[<- hk];exact KV.of (by rw[hk];exact r)
 cases d with
 |int i=>exact{_,q,KV.flat rfl r}
 |bl i=>exact{_,q,KV.flat rfl r}
 |cN=>exact{_,q,KV.flat rfl r}
 |str i=>exact{_,q,KV.flat rfl r}
 |tup ds=>exact{_,q,rk}
 |_=>exact q.elim (λz=>{_,z.2,ro z.1}) λz=>{_,z,rk}
structure Gz (N:D->Prop):Prop where
 nl:∀d,N d->NL d
def aK:Gz NL:={λ_ h=>h}
def af:Gz NF:={λd h=>by cases d <;> first|exact h|cases h}
def JG {a b:Kd}:(a.max b).wk=a.max b:=by cases a <;> cases b <;> rfl
def Cb (g:D->D->Option D)(N:D->Prop)(pb:Bool)(φa φb:aP):aP:=λβ R=>φa β λx ka β1=>hold ka pb/\φb β1 λy kb β2=>∃d,g x y=ν d/\kN N d (ka.max kb) λk=>R d k β2
variable {g:D->D->Option D}{N:D->Prop}
def Cb.mono (ha:PQ X C p a φa)(hb:PQ X C p' b φb):∀β R R',(∀d k β,R d k β->R' d k β)->Cb g N p' φa φb β R->Cb g N p' φa φb β R':=λβ R R' k h =>
 ha.mono β _ _ (λx ka β1 hx=>{hx.1,hb.mono β1 _ _ (λy kb β2 E6=>by obtain⟨d,e,q⟩:=E6;exact{d,e,q.mono λ_ z=>k _ _ _ z}) hx.2}) h
def xP (hn:Gz N)(ha:PQ X C p a φa)(hb:PQ X C p' b φb):∀σ H Q,tQ X C (p&&p') (Cb g N p' φa φb) σ H Q->Oa (Dp X g N) (tQ X C p φa) (tQ X C p' φb) σ H Q:=λσ H Q ⟨β,own,s,h⟩ =>
 tQ.of ha s h λd1 k1 β1 v1 H1 aH ⟨hh,h1⟩ o1 r1=>tQ.of hb o1.sq h1 λd2 k2 β2 v2 H2 bE E5 o2 r2=>by
  obtain⟨d,e,q⟩:=E5;have Lb:=r1.ho o2 hh;refine{av C (Wn bE) (k1.max k2),d1,d2,d,o2.sq.FO _,aE.a_ eI Lb.rep,aE.a_ iF r2.rep,e,λv H' s3 r3 n3=>?_};have o:=(o1.trans o2).same s3;obtain⟨k,q,r⟩:=KV.kN (Z:=(H,Wn own)) JG r3 (λn=>jM (H:=H2) o2.sq.yH o2.sq.ju (λa z=>o2.sn.d a (o1.sn.d a z)) (hn.nl _ n) (n3 n)) q;exact q v H' bE o r
def aC {op:Operator}(hn:Gz N)(ho:Sj X (acd op) g N)(ha:PQ X C p a φa)(hb:PQ X C p' b φb):PQ X C (p&&p') (.BinOp a op b pos) (Cb g N p' φa φb):={Cb.mono ha hb,(eO ho ha.pe hb.pe).pre (xP hn ha hb)}
def kz {op:acQ}(hn:Gz N)(ho:Sj X (aaR op) g N)(ha:PQ X C p a φa)(hb:PQ X C p' b φb)(hm:ab5 op b=η:=by first|exact vz _ (by decide) (by decide)|rfl):PQ X C (p&&p') (.Compare a [op] [b] pos) (Cb g N p' φa φb) :=
 {Cb.mono ha hb,(zA ho ha.pe hb.pe hm).pre (xP hn ha hb)}
def aF (hn:Gz N)(ho:Kj X (Dp X g N))(ha:PQ X C p a φa)(hb:PQ X C p' b φb)(hs:uJ b:=by exact λ_ _=>rfl):PQ X C (p&&p') (.Subscript a b pos) (Cb g N p' φa φb):={Cb.mono ha hb,(pK ho ha.pe hb.pe hs).pre (xP hn ha hb)}
def Ds (φ:aP):a6:=λβ R=>φ β λd k β'=>∃b,d=.bl b/\R b β'
def aA {op:acQ}(hn:Gz N)(ho:Sj X (aaR op) g N)(ha:PQ X C p a φa)(hb:PQ X C p' b φb)(hm:ab5 op b=η:=by first|exact vz _ (by decide) (by decide)|rfl):xq X C (p&&p') (.Compare a [op] [b] pos) (Ds (Cb g N p' φa φb)) :=
 ⟨λβ R R' k h=>Cb.mono ha hb β _ _ (λd kd β yu=>by obtain⟨t,e,q⟩:=yu;exact{t,e,k _ _ q}) h,(zj ho ha.pe hb.pe hm).pre λσ H Q ⟨β,own,s,h⟩ =>
  tQ.of ha s h λd1 k1 β1 v1 H1 aH ⟨hh,h1⟩ o1 r1=>tQ.of hb o1.sq h1 λd2 k2 β2 v2 H2 bE ME o2 r2=>by
   obtain⟨d,e,q⟩:=ME;have Lb:=r1.ho o2 hh;refine{av C (Wn bE) (k1.max k2),d1,d2,d,o2.sq.FO _,aE.a_ eI Lb.rep,aE.a_ iF r2.rep,e,λv H' s3 r3 n3=>?_};obtain⟨k,⟨t,et,q'⟩,r⟩:=KV.kN (Z:=(H,Wn own)) JG r3 (λn=>jM (H:=H2) o2.sq.yH o2.sq.ju (λa z=>o2.sn.d a (o1.sn.d a z)) (hn.nl _ n) (n3 n)) q;subst et;cases r3;exact{t,rfl,q' H' bE ((o1.trans o2).same s3)}⟩
def ib (ha:PQ X C p a φa)(he:∀whole,isTrue a X.env whole=(do let v <- whole;adm a.pos;holding [v] (truthy v)):=by intro _;rfl):xq X C p a (Ds φa) :=
 ⟨λβ R R' k h=>ha.mono β _ _ (λd kd β' MD=>by obtain⟨b,e,q⟩:=MD;exact{b,e,k _ _ q}) h,(Ll ha.pe he).pre λσ H Q ⟨β,own,s,h⟩=>tQ.of ha s h λd k β' v H1 aH MB o1 r1=>by
  obtain⟨b,e,q⟩:=MB;subst e;cases r1.rep;exact{b,rfl,q H1 aH o1}⟩
def Ox (τ:a6):a6:=λβ R=>τ β λb β'=>R (!b) β'
def ic (ha:xq X C p a τ):xq X C p (.UnaryOp .Not a pos) (Ox τ) :=
 {λβ R R' k h=>ha.mono β _ _ (λb β' q=>k _ _ q) h,(Lm ha.pt).pre λσ H Q MA=>by obtain⟨β,own,s,h⟩:=MA;exact lq.of ha s h λb β' H1 aH q o=>q H1 aH o}
variable {rest:List Expr}
def OB (τa τb:a6):a6:=λβ R=>τa β λt β1=>if t=ζ then τb β1 R else R η β1
def Tn (τa τb:a6):a6:=λβ R=>τa β λt β1=>if t=ζ then R ζ β1 else τb β1 R
def gM (ha:xq X C p a τ):tE X C p (.BoolOp .And [a] pos) τ:={ha.mono,pw_and1 ha.pt}
def jJ (ha:xq X C p a τ):tE X C p (.BoolOp .Or [a] pos) τ:={ha.mono,pw_or1 ha.pt}
def Jf {p q:Bool}(z:(p&&q)=ζ):p=ζ:=by cases p <;> first|rfl|cases z
def Vy {p q:Bool}(z:(p&&q)=ζ):q=ζ:=by cases p <;> first|exact z|cases z
def jK (ha:xq X C p a τa)(hb:tE X C p' (.BoolOp .And (b::rest) pos) τb):tE X C (p&&p') (.BoolOp .And (a::b::rest) pos) (OB τa τb) :=
 ⟨λβ R R' k h=>ha.mono β _ _ (λt β1 q=>by
   cases t
   ·exact k _ _ q
   ·exact hb.mono β1 _ _ k q) h,(pw_and ha.pt hb.pw).pre λσ H Q ⟨β,own,s,h⟩=>lq.of ha s h λt β1 H1 aH q o1=>by
  cases t
  ·exact q H1 aH (o1.wk Jf)
  ·exact lq.of hb.t o1.sq q λt' β2 H2 bE q2 o2=>q2 H2 bE (o1.trans o2)⟩
def mE (ha:xq X C p a τa)(hb:tE X C p' (.BoolOp .Or (b::rest) pos) τb):tE X C (p&&p') (.BoolOp .Or (a::b::rest) pos) (Tn τa τb) :=
 ⟨λβ R R' k h=>ha.mono β _ _ (λt β1 q=>by
   cases t
   ·exact hb.mono β1 _ _ k q
   ·exact k _ _ q) h,(pw_or ha.pt hb.pw).pre λσ H Q ⟨β,own,s,h⟩=>lq.of ha s h λt β1 H1 aH q o1=>by
  cases t
  ·exact lq.of hb.t o1.sq q λt' β2 H2 bE q2 o2=>q2 H2 bE (o1.trans o2)
  ·exact q H1 aH (o1.wk Jf)⟩
def XM (φa φb:aP):aP:=λβ R=>φa β λx _ β1=>∃c,x=.bl c/\if c=ζ then R (.bl ζ) .own β1 else φb β1 R
def DF {op}(h:PQ X C p a φ):PQ X C p (.BoolOp op [a] pos) φ:={h.mono,Lw h.pe}
def JJ {P:Z6}{w:aam}{Z:Hp×(θ->Prop)}{b:Bool}:KV P w C Z own H .own (.bl b) (.bl b):=KV.flat (W:=λ_=>False) rfl rfl
def Jw (ha:PQ X C p a φa)(hb:PQ X C p' (.BoolOp .Or (b::rest) pos) φb):PQ X C (p&&p') (.BoolOp .Or (a::b::rest) pos) (XM φa φb) :=
 ⟨λβ R R' k h=>ha.mono β _ _ (λd kd β1 ⟨c,e,q⟩=>⟨c,e,by
   cases c
   ·exact hb.mono β1 _ _ k q
   ·exact k _ _ _ q⟩) h,(OE ha.pe hb.pe).pre λσ H Q ⟨β,own,s,h⟩=>tQ.of ha s h λd kd β1 v H1 aH My o1 r1=>by
  obtain⟨c,e,q⟩:=My;subst e;cases r1.rep;refine{c,rfl,?_};cases c
  ·exact tQ.of hb o1.sq q λd2 k2 β2 v2 H2 bE q2 o2 r2=>q2 v2 H2 bE (o1.trans o2) (r2.later o1.sn)
  ·exact q _ H1 aH (o1.wk Jf) JJ⟩
def XI (g:D->Option D)(φa:aP):aP:=λβ R=>φa β λx _ β1=>∃d,g x=ν d/\d.flat=ζ/\R d .own β1
def Jv {op:UnaryOp}{g:D->Option D}(ho:Ra X (unaryOp op) (V1 X g))(ha:PQ X C p a φa):PQ X C p (.UnaryOp op a pos) (XI g φa) :=
 ⟨λβ R R' k h=>ha.mono β _ _ (λx _ β1 Uw=>by obtain⟨d,e,f,q⟩:=Uw;exact{d,e,f,k _ _ _ q}) h,(DL ho ha.pe).pre λσ H Q ⟨β,own,s,h⟩ =>
  tQ.of ha s h λd1 k1 β1 v1 H1 aH Uv o1 r1=>by obtain⟨d,e,f,q⟩:=Uv;exact{_,d1,d,o1.sq.FO _,r1.rep,e,λv H' s2 r2=>q v H' aH (o1.same s2) (KV.flat f r2)}⟩
def To:du:=λβ R=>R [] [] β
def Oz (pr:Bool)(φ:aP)(φs:du):du:=λβ R=>φ β λd k β1=>hold k pr/\φs β1 λds ks β2=>R (d::ds) (k::ks) β2
def ae:xc X C ζ [] To:={λβ R R' k h=>k _ _ _ h,d6.pre λσ H Q Uu=>by obtain⟨β,own,s,q⟩:=Uu;exact q [] H own (Out.refl s _) xi.nil}
def aa (ha:PQ X C p a φ)(hr:xc X C p' es φs)(hs:aao (a::es) X.env=(η,eval a X.env)::aao es X.env:=by rfl):xc X C (p&&p') (a::es) (Oz p' φ φs) :=
 ⟨λβ R R' k h=>ha.mono β _ _ (λd kd β1 q=>{q.1,hr.mono β1 _ _ (λds ks β2 q2=>k _ _ _ q2) q.2}) h,(bM ha.pe hr.pa hs).pre λσ H Q ⟨β,own,s,h⟩ =>
  tQ.of ha s h λd1 k1 β1 v1 H1 aH Ut o1 r1=>by obtain⟨hh,h1⟩:=Ut;exact xE.of hr o1.sq h1 λds ks β2 vs H2 bE q o2 r2=>q (v1::vs) H2 bE (o1.trans o2) (xi.cons r1 o2.sn (r1.ho o2 hh) r2 o1.sn)⟩
def Tf (φs:du):aP:=λβ R=>φs β λds ks β1=>ds.length<=aak/\EI ks ds λk=>R (.tup ds) k β1
def Tp (φs:du):aP:=λβ R=>φs β λds ks β1=>ds.length<=aak/\EI ks ds λk=>R (.lst ds) k β1
def aT.same {P:Z6}{w:aam}{ds:List D}{vs:List V}{A:List θ}(s:aB H H')(h:aT P w H ds vs A):aT P w H' ds vs A:=h.keep (λb xs e=>s _ _ e) λc _ o e=>s c o e
def Md {P:Z6}{w:aam}{Z:Hp×(θ->Prop)}{ks:List Kd}{ds:List D}{vs:List V}{K:Kd->Prop}{q:θ}(hq:H q=ξ)(h:xi P w C Z own H ks ds vs)(m:EI ks ds K):∃k,K k/\KV P w C Z own (upd H q (.tup vs)) k (.tup ds) (.ref q):=by
 rcases m.of with⟨f,k⟩|k
 ·obtain⟨A,h1,h2,h3⟩:=h;exact{_,k,A,{q,vs,rfl,ar,(h1.LF f).same (aB.new hq)},h2,h3}
 ·refine{_,k,?_};rw[<- fx];exact KV.of (by rw[fx];exact{q,vs,rfl,ar,h.lC.same (aB.new hq)})
def Me {P:Z6}{w:aam}{Z:Hp×(θ->Prop)}{ks:List Kd}{ds:List D}{vs:List V}{K:Kd->Prop}{q:θ}(hq:H q=ξ)(hd:Dm (Wn own) H)(h0:∀a,C.H0 a≠ξ->H a≠ξ)(hz:∀a,Z.1 a≠ξ->H a≠ξ)(h:xi P w C Z own H ks ds vs)(m:EI ks ds K):∃k,K k/\KV P w C Z own (upd H q (.lst vs)) k (.lst ds) (.ref q):=by
 rcases m.of with⟨f,k⟩|k
 ·obtain⟨A,h1,h2,h3⟩:=h;refine{_,k,q::A,{q,vs,A,rfl,ar,rfl,(h1.LF f).same (aB.new hq)},aaA.mpr {λz=>h1.qV q z hq,h2},λc hc=>?_};rcases Z1.mp hc with rfl|hc
  ·exact{aaz λz=>hz c z hq,λz=>hd c z hq,aaz λz=>h0 c z hq}
  ·exact h3 c hc
 ·refine{_,k,?_};have nq:¬ av C (Wn own) (il ks) q:=λz=>by
   cases e:il ks <;> rw[e]at z <;> first|exact z.elim (λz=>hd q z hq) λz=>h0 q z hq|exact hd q z hq|exact z
  rw[<- fx];exact KV.of (by rw[fx];exact{q,vs,rfl,ar,nq,h.lC.same (aB.new hq)})
def xi.length {P:Z6}{w:aam}{Z:Hp×(θ->Prop)}{ks:List Kd}{ds:List D}{vs:List V}(h:xi P w C Z own H ks ds vs):vs.length=ds.length:=h.lC.length
def aR {x1}(h:xc X C p es φs):PQ X C p (.Tuple es x1 pos) (Tf φs) :=
 ⟨λβ R R' k q=>h.mono β _ _ (λds ks β1 Us=>by obtain⟨l,q⟩:=Us;exact{l,q.mono λ_ z=>k _ _ _ z}) q,(DM h.pa).pre λσ H Q ⟨β,own,s,q⟩=>xE.of h s q λds ks β1 vs H1 aH ⟨l,q1⟩ o1 r1 =>
  {by rw[r1.length];exact l,λq hq=>let ⟨k,q1,r⟩:=Md hq r1 q1;q1 _ _ aH (o1.same (aB.new hq)) r}⟩
def bS (h:xc X C p es φs):PQ X C p (.List es pos) (Tp φs) :=
 ⟨λβ R R' k q=>h.mono β _ _ (λds ks β1 Ur=>by obtain⟨l,q⟩:=Ur;exact{l,q.mono λ_ z=>k _ _ _ z}) q,(xV h.pa).pre λσ H Q ⟨β,own,s,q⟩=>xE.of h s q λds ks β1 vs H1 aH ⟨l,q1⟩ o1 r1 =>
  {by rw[r1.length];exact l,λq hq=>let ⟨k,q1,r⟩:=Me hq o1.sq.yH o1.sq.ju (λa z=>o1.sn.d a z) r1 q1;q1 _ _ aH (o1.same (aB.new hq)) r}⟩
end
section
variable {X:Cx}{C:Cfg}{a b c e:Expr}{es:List Expr}{φ φa φb:aP}{φs:du}{pos:Pos}{σ:St}{H H':Hp}{β:ba}{own:Nat->List θ}{p:Bool}{g:D->D->Option D}{N:D->Prop}
abbrev tD:=D->Kd->aP
structure Ri (X:Cx)(C:Cfg)(ops:List acQ)(es:List Expr)(φ:tD):Prop where
 mono:∀x k β R R',(∀d k β,R d k β->R' d k β)->φ x k β R->φ x k β R'
 ch:Ki X ops es λx σ H Q=>∃β own d k,SQ X C σ H β own/\Rp X (av C (Wn own) k) H d x/\φ d k β λd' k' β'=>∀v H',aB H H'->SQ X C σ H' β' own->KV X.prog X.w C (H,Wn own) own H' k' d' v->Q v H'
 W4:xh X ops es λx σ H Q=>∃β own d k,SQ X C σ H β own/\Rp X (av C (Wn own) k) H d x/\φ d k β λd' k' β'=>∃b,d'=.bl b/\∀H',aB H H'->SQ X C σ H' β' own->Q b H'
def OA (g:D->D->Option D)(φb:aP):tD:=λx _ β R=>φb β λy _ β1=>∃b,g x y=ν (.bl b)/\R (.bl b) .own β1
def Lk (g:D->D->Option D)(φb:aP)(φr:tD):tD:=λx _ β R=>φb β λy ky β1=>∃k,g x y=ν (.bl k)/\if k=ζ then φr y ky β1 R else R (.bl η) .own β1
variable {op LL:acQ}{ops:List acQ}{rs:List Expr}{φr:tD}
def lG (ho:bq X (aaR op) g)(hb:PQ X C ζ b φb):Ri X C [op] [b] (OA g φb) :=
 ⟨λx k β R R' h q=>hb.mono β _ _ (λy _ β1 rm=>by obtain⟨d,e,q⟩:=rm;exact{d,e,h _ _ _ q}) q,
  (M8 ho hb.pe).pre λx σ H Q ⟨β,own,d,k,s,r,h⟩=>tQ.of hb s h λd2 k2 β2 v2 H2 bE yq o2 r2=>by
    obtain⟨d',e,q⟩:=yq;obtain⟨s2,rfl⟩:=o2.pu rfl;exact{av C (Wn bE) (k.max k2),d,d2,.bl d',o2.sq.FO _,aE.a_ eI (r.same s2),aE.a_ iF r2.rep,e,λv H' s3 r3=>q v H' (s2.trans s3) (o2.sq.same s3) (KV.flat rfl r3)},
  (IZ ho hb.pe).pre λx σ H Q ⟨β,own,d,k,s,r,h⟩=>tQ.of hb s h λd2 k2 β2 v2 H2 bE EY o2 r2=>by
    obtain⟨d',e,b,eb,q⟩:=EY;obtain⟨s2,rfl⟩:=o2.pu rfl;cases eb;exact⟨av C (Wn bE) (k.max k2),d,d2,.bl d',o2.sq.FO _,aE.a_ eI (r.same s2),aE.a_ iF r2.rep,e,λv H' s3 r3=>by
      cases r3;exact{_,rfl,q H' (s2.trans s3) (o2.sq.same s3)}⟩⟩
def dC (ho:bq X (aaR op) g)(hb:PQ X C ζ b φb)(hc:Ri X C (LL::ops) (c::rs) φr):Ri X C (op::LL::ops) (b::c::rs) (Lk g φb φr) :=
 ⟨λx k β R R' h q=>hb.mono β _ _ (λy ky β1 ⟨d,e,q⟩=>⟨d,e,by
   cases d
   ·exact h _ _ _ q
   ·exact hc.mono y ky β1 _ _ h q⟩) q,
  (I9 ho hb.pe hc.ch).pre λx σ H Q ⟨β,own,d,k,s,r,h⟩=>tQ.of hb s h λd2 k2 β2 v2 H2 bE Ij o2 r2=>by
    obtain⟨t,e,q⟩:=Ij;obtain⟨s2,rfl⟩:=o2.pu rfl;refine{av C (Wn bE) (k.max k2),d,d2,.bl t,o2.sq.FO _,aE.a_ eI (r.same s2),aE.a_ iF r2.rep,e,λv H' s3 r3=>?_};cases r3;refine{t,rfl,?_};cases t
    · exact q _ H' (s2.trans s3) (o2.sq.same s3) JJ
    · exact{β2,bE,d2,k2,o2.sq.same s3,r2.rep.same s3,hc.mono d2 k2 β2 _ _ (λd' k' β' q' v B8 s4 sq r4=>q' v B8 ((s2.trans s3).trans s4) sq (r4.later ((o2.same s3).sn))) q},
  (FZ ho hb.pe hc.W4).pre λx σ H Q ⟨β,own,d,k,s,r,h⟩=>tQ.of hb s h λd2 k2 β2 v2 H2 bE yv o2 r2=>by
    obtain⟨t,e,q⟩:=yv;obtain⟨s2,rfl⟩:=o2.pu rfl;refine{av C (Wn bE) (k.max k2),d,d2,.bl t,o2.sq.FO _,aE.a_ eI (r.same s2),aE.a_ iF r2.rep,e,λv H' s3 r3=>?_};cases r3;refine{t,rfl,?_};cases t
    · obtain⟨b,eb,q⟩:=q;cases eb;exact q H' (s2.trans s3) (o2.sq.same s3)
    · exact{β2,bE,d2,k2,o2.sq.same s3,r2.rep.same s3,hc.mono d2 k2 β2 _ _ (λd' k' β' E6=>by obtain⟨b,eb,q'⟩:=E6;exact{b,eb,λB8 s4 sq=>q' B8 ((s2.trans s3).trans s4) sq}) q}⟩
def xQ (φa:aP)(φr:tD):aP:=λβ R=>φa β λx k β1=>φr x k β1 R
def pH {fS fR:acQ}(ha:PQ X C ζ a φa)(hc:Ri X C (fS::fR::ops) (b::c::rs) φr)(hm:lastMarks (fS::fR::ops) (b::c::rs)=η:=by with_unfolding_all rfl):
  PQ X C ζ (.Compare a (fS::fR::ops) (b::c::rs) pos) (xQ φa φr) :=
 ⟨λβ R R' k h=>ha.mono β _ _ (λx kx β1 q=>hc.mono x kx β1 _ _ k q) h,(Bg ha.pe hc.ch hm).pre λσ H Q ⟨β,own,s,h⟩=>tQ.of ha s h λd k β1 v H1 aH q o1 r1=>by
  obtain⟨s1,rfl⟩:=o1.pu rfl;exact{β1,aH,d,k,o1.sq,r1.rep,hc.mono d k β1 _ _ (λd' k' β' q' v B8 s4 sq r4=>q' v B8 aH {sq,o1.sn.same s4,λ_=>{s1.trans s4,rfl},o1.le} (r4.later o1.sn)) q}⟩
def se {fS fR:acQ}(ha:PQ X C ζ a φa)(hc:Ri X C (fS::fR::ops) (b::c::rs) φr)(hm:lastMarks (fS::fR::ops) (b::c::rs)=η:=by with_unfolding_all rfl):
  xq X C ζ (.Compare a (fS::fR::ops) (b::c::rs) pos) (Ds (xQ φa φr)) :=
 ⟨λβ R R' k h=>ha.mono β _ _ (λx kx β1 q=>hc.mono x kx β1 _ _ (λd kd β' MF=>by obtain⟨b,e,q⟩:=MF;exact{b,e,k _ _ q}) q) h,(A_ ha.pe hc.W4 hm).pre λσ H Q ⟨β,own,s,h⟩=>tQ.of ha s h λd k β1 v H1 aH q o1 r1=>by
  obtain⟨s1,rfl⟩:=o1.pu rfl;exact{β1,aH,d,k,o1.sq,r1.rep,hc.mono d k β1 _ _ (λd' k' β' yu=>by obtain⟨b,e,q'⟩:=yu;exact{b,e,λB8 s4 sq=>q' B8 aH {sq,o1.sn.same s4,λ_=>{s1.trans s4,rfl},o1.le}}) q}⟩
abbrev Ge:=ba->(Option Int->ba->Prop)->Prop
structure Sg (X:Cx)(C:Cfg)(e:Option Expr)(φ:Ge):Prop where
 mono:∀β R R',(∀d β,R d β->R' d β)->φ β R->φ β R'
 po:PO X e λσ H Q=>∃β own,SQ X C σ H β own/\φ β λo β'=>∀H',aB H H'->SQ X C σ H' β' own->Q o H'
def gO:Sg X C ξ (λβ R=>R ξ β):={λβ R R' k h=>k _ _ h,zt.pre λσ H Q EZ=>by obtain⟨β,own,s,q⟩:=EZ;exact q H (aB.refl _) s}
def gN (ha:PQ X C ζ a φ):Sg X C (ν a) (λβ R=>φ β λd _ β1=>∃i,d=.int i/\R (ν i) β1) :=
 ⟨λβ R R' k h=>ha.mono β _ _ (λd _ β1 yt=>by obtain⟨i,e,q⟩:=yt;exact{i,e,k _ _ q}) h,(zr ha.pe).pre λσ H Q ⟨β,own,s,h⟩=>tQ.of ha s h λd k β1 v H1 aH MD o1 r1=>by
  obtain⟨i,e,q⟩:=MD;subst e;cases r1.rep;obtain⟨s1,rfl⟩:=o1.pu rfl;exact{i,rfl,q H1 s1 o1.sq}⟩
def XJ (φ:aP)(φl φh:Ge):aP:=λβ R=>φ β λx k β1=>φl β1 λl β2=>φh β2 λh β3=>∃d,M4 x l h=ν d/\kN NL d k.wk λk'=>R d k' β3
def CD {k:Kd}:k.wk.wk=k.wk:=by cases k <;> rfl
def Az {W:θ->Prop}{k:Kd}:∀c,av C W k.wk c->av C W k c:=λc h=>by cases k <;> exact h
def sf {lo hi:Option Expr}{φl φh:Ge}{p2:Pos}(ha:PQ X C p a φ)(hl:Sg X C lo φl)(hh:Sg X C hi φh):PQ X C p (.Subscript a (.Slice lo hi ξ p2) pos) (XJ φ φl φh) :=
 ⟨λβ R R' k h=>ha.mono β _ _ (λx kx β1 q=>hl.mono β1 _ _ (λl β2 q=>hh.mono β2 _ _ (λu β3 MC=>by obtain⟨d,e,q⟩:=MC;exact{d,e,q.mono λ_ z=>k _ _ _ z}) q) q) h,
  (vo G1 ha.pe hl.po hh.po).pre λσ H Q ⟨β,own,s,h⟩=>tQ.of ha s h λd k β1 v H1 aH q o1 r1 =>
    ⟨β1,aH,o1.sq,hl.mono β1 _ _ (λl β2 q H2 s2 Xv=>⟨β2,aH,Xv,hh.mono β2 _ _ (λu β3 MA H3 s3 Rx=>by
      obtain⟨d',e,q⟩:=MA;refine{av C (Wn aH) k.wk,d,d',Rx.FO _,((aE.a_ Az r1.rep).same s2).same s3,e,λv H' s4 r4 n4=>?_};obtain⟨k',q,r⟩:=KV.kN (Z:=(H,Wn own)) CD r4 (λn=>jM (H:=H3) Rx.yH Rx.ju (λa z e=>o1.sn.d a z (s2.free (s3.free e))) n (n4 n)) q;exact q v H' aH {Rx.same s4,o1.sn.same ((s2.trans s3).trans s4),λz=>{(o1.pu z).1.trans ((s2.trans s3).trans s4),(o1.pu z).2},o1.le} r) q⟩) q⟩⟩
def Ot (X:Cx)(f:List D->Option D)(N:D->Prop):List V->Hp->VK->Prop:=λxs H Q=>∃W ds d,Dm W H/\w_ X W H ds xs/\f ds=ν d/\∀v H',aB H H'->Rp X W H' d v->(N d->Rp X (λa=>H a≠ξ) H' d v)->Q v H'
abbrev Gh (X:Cx)(f:ZW)(g:List D->Option D)(N:D->Prop):Prop:=f_ X f (Ot X g N)
def bU.m {f:ZW}{g:List D->Option D}(h:bU X f g):Gh X f g NF:=λμ s σ H xs us Q I r ⟨W,ds,d,hd,r1,e,q⟩ =>
 h μ s σ H xs us Q I r {W,ds,d,hd,r1,e,λv H' s r=>q v H' s r λf=>aE.flat f r}
def nB (g:List D->Option D)(N:D->Prop)(φs:du):aP:=λβ R=>φs β λds ks β1=>∃d,g ds=ν d/\kN N d (il ks) λk=>R d k β1
variable {x:Str}{pp:Pos}{id T:String}{gs:List D->Option D}
def nB.mono (h:xc X C p es φs):∀β R R',(∀d k β,R d k β->R' d k β)->nB gs N φs β R->nB gs N φs β R':=λβ R R' k q=>h.mono β _ _ (λds ks β1 UE=>by obtain⟨d,e,q⟩:=UE;exact{d,e,q.mono λ_ z=>k _ _ _ z}) q
def vj (hn:Gz N)(h:xc X C p es φs):∀σ H Q,tQ X C p (nB gs N φs) σ H Q->Ru (Ot X gs N) (xE X C p φs) σ H Q:=λσ H Q ⟨β,own,s,q⟩=>xE.of h s q λds ks β1 vs H1 aH UC o1 r1=>by
 obtain⟨d,e,q1⟩:=UC;refine{av C (Wn aH) (il ks),ds,d,o1.sq.FO _,r1.lC,e,λv H' s2 r2 n2=>?_};obtain⟨k',q,r⟩:=KV.kN (Z:=(H,Wn own)) fx r2 (λn=>jM (H:=H1) o1.sq.yH o1.sq.ju (λa z=>o1.sn.d a z) (hn.nl _ n) (n2 n)) q1;exact q v H' aH (o1.same s2) r
def a9 (Im:Gz N)(hc:Gh X (.builtin id) gs N)(hm:X.mg x=ξ)(hv:abi x=ν (.builtin id))(ha:xc X C p (e::es) φs)(hg:Gl X x:=by rfl)(hn:x≠"__name__" := by decide)(hdb:(x==("__debug__" : Str))=η:=by decide)
  (vW:aao (e::es) X.env=(η,eval e X.env)::aao es X.env:=by rfl) (hpl:(abK pos (aao es X.env)).any (·.1)=η:=by rfl) :
  PQ X C p (.Call (.Name x pp) (e::es) [] pos) (nB gs N φs):={nB.mono ha,(lH hc hg hm hv ha.pa hn hdb (he:=vW) (hpl:=hpl)).pre (vj Im ha)}
def sg (Im:Gz N)(hc:Gh X (.type T) gs N)(hm:X.mg x=ξ)(hv:abi x=ν (.type T))(ha:xc X C p (e::es) φs)(hg:Gl X x:=by rfl)(hn:x≠"__name__" := by decide)(hdb:(x==("__debug__" : Str))=η:=by decide)
  (vW:aao (e::es) X.env=(η,eval e X.env)::aao es X.env:=by rfl) (hpl:(abK pos (aao es X.env)).any (·.1)=η:=by rfl) :
  PQ X C p (.Call (.Name x pp) (e::es) [] pos) (nB gs N φs):={nB.mono ha,(mG hc hg hm hv ha.pa hn hdb (he:=vW) (hpl:=hpl)).pre (vj Im ha)}
end
def xg (P:Z6)(w:aam)(ro:Bool)(H H':Hp)(d:D)(v:V):Prop:=match ro with
 |true=>∃A,Own P w H' d v A/\A.Nodup/\∀c∈A,H c=ξ
 |false=>aE P w (λa=>H a≠ξ) H' d v
abbrev rk (ro:Bool):Kd:=match ro with|true=>.own|false=>.g9
def bW (P:Z6)(w:aam)(ro:Bool)(F:FD):Sp:=λvs H Q _=>∃ds,ak P w (λ_=>False) H ds vs/\F ds λd=>∀v H',aB H H'->xg P w ro H H' d v->Q v H'
def jX (P:Z6)(w:aam)(ok:List Int->Prop)(ro:Bool)(F:FD):Sp:=λvs H Q _=>∃h vs' ds ns,vs=.ref h::vs'/\H h=ν (.lst (ns.map V.int))/\ok ns/\ak P w (λa=>a=h) H ds vs' /\
 F ds λd=>∀v H' jO,Kp (·=h) H H'->(∀c,H c≠ξ->H' c≠ξ)->H' h=ν (.lst (jO.map V.int))->ok jO->xg P w ro H H' d v->Q v H'
section
variable {X:Cx}{C:Cfg}{k ih:Nat}{f:θ}{fd:aaI}{ps:List Str}{F:FD}{ro p:Bool}{x hx:Str}{pp pos px:Pos}{e:Expr}{es:List Expr}{φs:du}{ok:List Int->Prop}{σ:St}{H H':Hp}{β:ba}{own:Nat->List θ}{P:Z6}{w:aam}
def xg.kv {Z:Hp×(θ->Prop)}{d:D}{v:V}(hd:Dm (Wn own) H)(h0:∀a,C.H0 a≠ξ->H a≠ξ)(hz:∀a,Z.1 a≠ξ->H a≠ξ)(h:xg P w ro H H' d v):KV P w C Z own H' (rk ro) d v:=by
 cases ro with
 |true =>
  obtain⟨A,h1,h2,h3⟩:=h;exact{A,h1,h2,λc hc=>{aaz λz=>hz c z (h3 c hc),λz=>hd c z (h3 c hc),aaz λz=>h0 c z (h3 c hc)}}
 |false=>exact aE.a_ (λa z=>z.elim (hd a) (h0 a)) h
def Tj (ro:Bool)(F:FD)(φs:du):aP:=λβ R=>φs β λds _ β1=>F ds λd=>R d (rk ro) β1
def ao (mF:c0 F)(G:aG X.prog X.w X.K X.mg X.base bt k f fd ps (bW X.prog X.w ro F))(hr:dU k X.A)(hm:X.mg x=ν (.ref f))(hk:υ X.K (.ref f)=ζ)(hb:Binds X.K fd ps [])(ha:xc X C p (e::es) φs)(hg:Gl X x:=by rfl)
  (hdb:(x==("__debug__" : Str))=η:=by decide)
  (vW:aao (e::es) X.env=(η,eval e X.env)::aao es X.env:=by rfl) (hpl:(abK pos (aao es X.env)).any (·.1)=η:=by rfl) :
  PQ X C p (.Call (.Name x pp) (e::es) [] pos) (Tj ro F φs) :=
 ⟨λβ R R' k h=>ha.mono β _ _ (λds ks β1 q=>mF ds _ _ (λd q=>k _ _ _ q) q) h,(zB G hr hg hm hk hb .nil JA ha.pa (hdb:=hdb) (he:=vW) (hpl:=hpl)).pre λσ H Q ⟨β,own,s,h⟩=>xE.of ha s h λds ks β1 vs H1 aH q o1 r1=>by
  rw[aa9];exact{ds,r1.bor,mF ds _ _ (λd q2 v H' s2 r2=>q2 v H' aH (o1.same s2) (r2.kv o1.sq.yH o1.sq.ju λa z=>o1.sn.d a z)) q}⟩
def cZ.drawn {i:Nat}{h:θ}{jO:List Int}(b:cZ P w C σ H β own)(e:β[i]?=ν (ν (.hand ok)))(hσ:σ[i]?=ν (ν (.ref h)))(k:Kp (·=h) H H')(e':H' h=ν (.lst (jO.map V.int)))(o':ok jO)(dn:∀c,H c≠ξ->H' c≠ξ):cZ P w C σ H' β own:=by
 obtain⟨a,ns,h1,h2,h3,h4,h5⟩:=b.rC i ok e;rw[hσ]at h1;cases h1;have wh:Wn own h:={i,by rw[h4];simp}
 have kW:∀y,Kp (jw C (Wn own) (yk y)) H H':=λy=>k.mono λc z=>by rw[z];cases y <;> first|exact .inl wh|exact .inl (.inl wh)
 have ne:∀j,j≠i->∀c∈own j,c≠h:=λj hj c hc z=>hj (b.oP j i c hc (by rw[h4,z];simp))
 refine⟨b.len,λj y d e=>let ⟨v,g1,g2⟩:=b.val j y d e;{v,g1,g2.keep (kW y)},λj d ej=>?_,λj Cd ej=>?_,λj c hc=>?_,b.oP,b.qS,{λc o z n=>?_,λc xs z=>k.tup c xs (b.kp.tup c xs z)},λc z=>dn c (b.ju c z),λj y d ej=>by
  obtain⟨v,g1,g2,g3⟩:=b.shl j y d ej;have hj:j≠i:=λz=>by rw[z,e]at ej;cases ej
  exact{v,g1,g2.map (λc hc o eo=>k.out c o eo (ne j hj c hc)) (λ_ _ r=>r.keep (kW ζ)),g3}⟩
 ·obtain⟨v,g1,g2,g3⟩:=b.ow j d ej;have hj:j≠i:=λz=>by rw[z,e]at ej;cases ej
  exact{v,g1,g2.keep k.tup (λc hc o eo=>k.out c o eo (ne j hj c hc)),g3}
 ·by_cases hj:j=i
  ·subst hj;rw[e]at ej;cases ej;exact{(h),jO,hσ,e',o',h4,h5}
  ·obtain⟨a,ms,g1,g2,g3,g4,g5⟩:=b.rC j Cd ej;exact{a,ms,g1,k.out a _ g2 (ne j hj a (by rw[g4];simp)),g3,g4,g5}
 ·obtain⟨g1,g2,g3⟩:=b.dm j c hc
  by_cases v3:c=h
  ·rw[v3,e'];rw[v3]at g3;exact{λz=>(nomatch z),λxs z=>(by cases z),g3}
  ·cases q:H c with
   |none=>exact Η q g1
   |some o=>rw[k.out c o q v3];exact{λz=>(nomatch z),λxs z=>g2 xs (by rw[q];exact z),g3}
 ·refine k.out c o (b.kp.out c o z n) λq=>?_;subst q;rcases (b.dm i c (by rw[h4];simp)).2.2.1 with z0|z0
  ·rw[z0]at z;cases z
  ·exact n z0
def Oy (ih:Nat)(ok:List Int->Prop)(ro:Bool)(F:FD)(φs:du):aP:=λβ R=>β[ih]?=ν (ν (.hand ok))/\φs β λds ks β1=>β1[ih]?=ν (ν (.hand ok))/\hold (il ks) η/\F ds λd=>R d (rk ro) β1
def br (mF:c0 F)(G:aG X.prog X.w X.K X.mg X.base bt k f fd ps (jX X.prog X.w ok ro F))(hr:dU k X.A)(hm:X.mg x=ν (.ref f))(hk:υ X.K (.ref f)=ζ)(hb:Binds X.K fd ps [])(ha:xc X C p es φs)(hn:Nm X ih hx:=by exact Ce)(hg:Gl X x:=by rfl)(hdb:(x==("__debug__" : Str))=η:=by decide)
  (vW:aao (.Name hx px::es) X.env=(η,eval (.Name hx px) X.env)::aao es X.env:=by rfl) (hpl:(abK pos (aao es X.env)).any (·.1)=η:=by rfl) :
  PQ X C η (.Call (.Name x pp) (.Name hx px::es) [] pos) (Oy ih ok ro F φs) :=
 ⟨λβ R R' k UA=>by obtain⟨e,h⟩:=UA;exact{e,ha.mono β _ _ (λds ks β1 Mz=>by obtain⟨e,hh,q⟩:=Mz;exact{e,hh,mF ds _ _ (λd q=>k _ _ _ q) q}) h},
  (zB G hr hg hm hk hb .nil JA (bM (iN (pos:=px) hn) ha.pa vW) (hdb:=hdb) (he:=vW) (hpl:=hpl)).pre λσ H Q My=>by
  obtain⟨β,own,s,e,h⟩:=My;obtain⟨hh,ns,h1,h2,h3,h4⟩:=s.rC ih ok e;refine{.ref hh,h1,xE.of ha s h λds ks β1 vs H1 aH iX o1 r1=>?_};obtain⟨e1,ho,q⟩:=iX;obtain⟨ZJ,XS,g1,g2,g3,g4,g5⟩:=o1.sq.rC ih ok e1;rw[h1]at g1;cases g1;have wh:Wn aH hh:={ih,by rw[g4];simp}
  rw[aa9];refine{hh,vs,ds,XS,rfl,g2,g3,ak.a_ (λa z=>?_) r1.lC,mF ds _ _ (λd q v H' jO kp dn e' Cd r=>?_) q}
  ·subst z;cases hk:il ks with
   |own=>exact .inl wh
   |g9=>exact .inl wh
   |old=>exact wh
   |bor=>rw[hk]at ho;exact ho.elim
  ·exact q v H' aH {o1.sq.drawn e1 h1 kp e' Cd dn,o1.sn.kp (kp.mono λb z=>by rw[z];exact wh) dn,λz=>(nomatch z),o1.le} (r.kv o1.sq.yH o1.sq.ju λa z=>o1.sn.d a z)⟩
end
abbrev Cfg.z (C:Cfg):Cfg:=C.u λ_=>False
def SB (X:Cx)(C:Cfg)(Z:Hp×(θ->Prop))(σ:St)(H:Hp)(β:ba):Prop:=∃own,SQ X C.z σ H β own/\Sn Z H (Wn own)
structure de where
 nx:ba->Prop
 rt:D->ba->Prop
 bk:ba->Prop:=λ_=>False
 ct:ba->Prop:=λ_=>False
def de.up (E:de)(n:ba->Prop):de:={(n),E.rt,E.bk,E.ct}
def de.lp (E:de)(n:ba->Prop):de:={(n),E.rt,E.nx,n}
structure Zm (X:Cx)(C:Cfg)(Z:Hp×(θ->Prop))(E:de)(D:Ends):Prop where
 nx:∀σ H β,SB X C Z σ H β->E.nx β->D.nx σ H
 rt:∀σ H β d v,SB X C Z σ H β->xg X.prog X.w C.ro C.H0 H d v->E.rt d β->D.rt v H
 bk:∀σ H β,SB X C Z σ H β->E.bk β->D.bk σ H
 ct:∀σ H β,SB X C Z σ H β->E.ct β->D.ct σ H
structure Le (E E':de):Prop where
 nx:∀β,E.nx β->E'.nx β
 rt:∀d β,E.rt d β->E'.rt d β
 bk:∀β,E.bk β->E'.bk β
 ct:∀β,E.ct β->E'.ct β
abbrev Cp:=de->ba->Prop
def ap (ψ:Cp)(E:de)(β:ba):Prop:=ψ E β
def eN (R:D->Prop):de:={nx:=λ_=>R .cN,rt:=λd _=>R d}
def eH (ok:List Int->Prop)(R:D->Prop):de:={nx:=λ_=>False,rt:=λd β=>β[0]?=ν (ν (.hand ok))/\R d}
def VS (X:Cx)(C:Cfg)(ψ:Cp):TS:=λD σ H=>∃Z E β,SB X C Z σ H β/\ψ E β/\Zm X C Z E D
structure PB (X:Cx)(C:Cfg)(st:Stmt)(ψ:Cp):Prop where
 mono:∀E E' β,Le E E'->ψ E β->ψ E' β
 ps:PS X st (VS X C ψ)
structure AG (X:Cx)(C:Cfg)(st:List Stmt)(ψ:Cp):Prop where
 mono:∀E E' β,Le E E'->ψ E β->ψ E' β
 ps:uO X st (VS X C ψ)
section
variable {X:Cx}{C:Cfg}{st:Stmt}{rest a b:List Stmt}{ψ ψ1 ψ2:Cp}{Z:Hp×(θ->Prop)}{σ:St}{H H':Hp}{β β':ba}{pos pos':Pos}{e c:Expr}{φ:aP}{τ:a6}{p:Bool}{own aX:Nat->List θ}{i:Nat}{x:Str}
def Out.sb (n:Sn Z H (Wn own))(o:Out X C.z σ H own p β' H' aX):SB X C Z σ H' β':={aX,o.sq,n.trans o.sn}
def aM:AG X C [] (λE β=>E.nx β):={λE E' β l h=>l.nx β h,zm.pre λD σ H rm=>by obtain⟨Z,E,β,sb,h,ok⟩:=rm;exact ok.nx σ H β sb h}
def ah (h1:PB X C st ψ1)(h2:AG X C rest ψ2):AG X C (st::rest) (λE β=>ψ1 (E.up (ap ψ2 E)) β) :=
 ⟨λE E' β l h=>h1.mono {E with nx:=ψ2 E} {E' with nx:=ψ2 E'} β {λβ' q=>h2.mono E E' β' l q,l.rt,l.bk,l.ct} h,(fP h1.ps h2.ps).pre λD σ H ⟨Z,E,β,sb,h,ok⟩ =>
  {Z,{E with nx:=ψ2 E},β,sb,h,{λσ' H' β' xN h'=>{(Z),E,β',xN,h',ok},ok.rt,ok.bk,ok.ct}}⟩
def aj (h1:PB X C st ψ):AG X C [st] ψ:={h1.mono,lE h1.ps}
def bf (h1:PB X C st ψ1)(h2:AG X C rest ψ2):AG X C (st::rest) (λE β=>∃J:ba->Prop,ψ1 (E.up J) β/\∀β',J β'->ap ψ2 E β') :=
 ⟨λE E' β l yq=>by obtain⟨J,h,k⟩:=yq;exact{J,h1.mono {E with nx:=J} {E' with nx:=J} β {λ_ q=>q,l.rt,l.bk,l.ct} h,λβ' q=>h2.mono E E' β' l (k β' q)},(fP h1.ps h2.ps).pre λD σ H ⟨Z,E,β,sb,⟨J,h,k⟩,ok⟩ =>
  {Z,{E with nx:=J},β,sb,h,{λσ' H' β' xN h'=>{Z,E,β',xN,k β' h',ok},ok.rt,ok.bk,ok.ct}}⟩
def mH:AG X C a (λ_ _=>False):={λ_ _ _ _ h=>h.elim,Ba.pre λD σ H Ij=>by obtain⟨Z,E,β,sb,h,ok⟩:=Ij;exact h.elim}
def bo (hc:xq X C.z p c τ)(ha:AG X C a ψ1)(hb:AG X C b ψ2):PB X C (.If c a b pos) (λE β=>τ β λt β'=>if t=ζ then ap ψ1 E β' else ap ψ2 E β') :=
 ⟨λE E' β l h=>hc.mono _ _ _ (λt β' q=>by
   cases t
   ·exact hb.mono E E' β' l q
   ·exact ha.mono E E' β' l q) h,(Ju hc.pt ha.ps hb.ps).pre λD σ H EX=>by
  obtain⟨Z,E,β,⟨own,s,n⟩,h,ok⟩:=EX;refine lq.of hc s h λt β' H1 aH q o1=>?_;cases t
  ·exact{Z,E,β',o1.sb n,q,ok}
  ·exact{Z,E,β',o1.sb n,q,ok}⟩
abbrev zU (d:D)(k:Kd)(K:B->Prop):Prop:=match k with
 |.own=>K (.val ζ d)
 |.g9=>K (.val ζ d)
 |.old=>K (.val η d)
 |.bor=>d.flat=ζ/\K (.val ζ d)
def zU.mono {d:D}{k:Kd}{K K':B->Prop}(h:∀b,K b->K' b)(q:zU d k K):zU d k K':=by
 cases k <;> first|exact h _ q|exact⟨q.1,h _ q.2⟩
def zU.of {P:Z6}{w:aam}{d:D}{v:V}{k:Kd}{K:B->Prop}(r:KV P w C Z own H k d v)(q:zU d k K):∃y,K (.val y d)/\aE P w (av C (Wn own) (yk y)) H d v:=by
 cases k with
 |own=>exact{(ζ),q,r.g9}
 |g9=>exact{(ζ),q,r}
 |old=>exact{(η),q,r}
 |bor=>exact{ζ,q.2,aE.flat q.1 r}
def tT {own:Nat->List θ}{i:Nat}(n:Sn Z H (Wn own)):Sn Z H (Wn (a5 own i [])):={λb z=>n.w b (fG z),n.k,n.d}
def aQ (he:PQ X C.z p e φ)(hN:X.N.Nodup)(hi:X.N[i]?=ν x:=by rfl)(hx:Loc X.env.scope x:=by first|exact .inl rfl|exact .inr rfl)
  (hs:ab4 e (ν (.Name x pos')) pos.line X.env=pure η:=by rfl) (hf:X.fn x=ζ\/X.env.scope.names.lookup x=ν .local:=by first|exact .inl rfl|exact .inr rfl|assumption) :
  PB X C (.Assign [.Name x pos'] e pos) (λE β=>φ β λd k β'=>zU d k λb=>E.nx (β'.set i (ν b))) :=
 ⟨λE E' β l q=>he.mono _ _ _ (λd k β' q=>q.mono λ_=>l.nx _) q,(xR hN hi hx he.pe hs hf).pre λD σ H ⟨Z,E,β,⟨own,s,n⟩,q,ok⟩=>tQ.of he s q λd k β' v H' aX q o r=>by
  obtain⟨y,q,r⟩:=q.of r;exact ok.nx _ _ _ {_,o.sq.gy (aE.a_ (λa z=>z.elim id λz=>z.elim) r),tT (n.trans o.sn)} q⟩
abbrev H9 (k:Kd)(d:D):Prop:=match k with
 |.own=>True
 |_=>d.flat=ζ
def KV.fl {P:Z6}{w:aam}{d:D}{v:V}{k:Kd}(f:H9 k d)(r:KV P w C Z own H k d v):KV P w C Z own H .own d v:=by
 cases k with
 |own=>exact r
 |g9=>exact KV.flat f r.rep
 |old=>exact KV.flat f r.rep
 |bor=>exact KV.flat f r.rep
def dD (he:∀U,PQ X (C.u U) p e φ)(hN:X.N.Nodup)(hi:X.N[i]?=ν x:=by rfl)(hx:Loc X.env.scope x:=by first|exact .inl rfl|exact .inr rfl)
  (hs:ab4 e (ν (.Name x pos')) pos.line X.env=pure η:=by rfl) (hf:X.fn x=ζ\/X.env.scope.names.lookup x=ν .local:=by first|exact .inl rfl|exact .inr rfl|assumption) :
  PB X C (.Assign [.Name x pos'] e pos) (λE β=>φ β λd k β'=>H9 k d/\E.nx (β'.set i (ν (.own d)))) :=
 ⟨λE E' β l q=>(he λ_=>False).mono _ _ _ (λd k β' q=>{q.1,l.nx _ q.2}) q,λμ s σ H D I ⟨Z,E,β,⟨own,sq,n⟩,q,ok⟩ =>
  xR hN hi hx (he λa=>H a=ξ).pe hs hf μ s σ H D I (tQ.of (he λa=>H a=ξ) (sq.uS (C:=C.z) (U:=λa=>H a=ξ) λa z=>z) q λd k β' v H' aX MG o r=>by
   obtain⟨f,q⟩:=MG;obtain⟨A,h1,h2,h3⟩:=r.fl f;refine ok.nx _ _ _ {_,o.sq.Dd h1 h2 λc hc=>{(h3 c hc).2.2,(h3 c hc).2.1,(h3 c hc).1},?_} q;have m:=n.trans o.sn;exact⟨λb MF=>by
    obtain⟨j,hj⟩:=MF
    by_cases aL:i=j
    ·rw[<- aL,os_eq]at hj;exact .inr (n.free (h3 b hj).1)
    ·rw[b7 aL]at hj;exact m.w b {(j),hj},m.k,m.d⟩)⟩
def cZ.OC {P:Z6}{w:aam}{U U2:θ->Prop}{d d':D}{v:V}{A':List θ}{c:θ}{o:HO}(b:cZ P w (C.u U) σ H β own)(e:β[i]?=ν (ν (.own d)))(hσ:σ[i]?=ν (ν v))(hc:c∈own i)
  (r:Own P w (upd H c o) d' v A') (nd:A'.Nodup) (hA:∀a∈A',a∈own i\/(C.H0 a=ξ/\¬ Wn own a/\U a)) (hU:∀a,U2 a->U a) (Vc:∀a∈A',¬ U2 a):cZ P w (C.u U2) σ (upd H c o) (β.set i (ν (.own d'))) (a5 own i A'):=by
 obtain⟨g1,g2,g3,g4⟩:=b.dm i c hc;obtain⟨oc,MH⟩:∃oc,H c=ν oc:=by
  cases q:H c with
  |none=>exact Η q g1
  |some oc=>exact{(oc),rfl}
 have ht:∀xs,oc≠.tup xs:=λxs z=>g2 xs (by rw[MH,z])
 have k:Kp (·=c) H (upd H c o):=pZ MH ht;have h0:∀a∈own i,C.H0 a=ξ:=by obtain⟨_,_,_,h⟩:=b.ow i d e;exact h
 have wc:Wn own c:={(i),hc};have sub:∀y a,jw (C.u U2) (Wn (a5 own i A')) (yk y) a->jw (C.u U) (Wn own) (yk y) a:=λy a h=>by
  have q:∀a,Wn (a5 own i A') a->Wn own a\/U a:=λa E5=>by
   obtain⟨j,q⟩:=E5
   by_cases aL:i=j
   ·rw[aL,os_eq]at q;rcases hA a q with z|z
    ·exact .inl {(i),z}
    ·exact .inr z.2.2
   ·rw[b7 aL]at q;exact .inl {(j),q}
  rcases h with h|h
  ·cases y with
   |true=>exact h.elim (λz=>(q a z).imp .inl id) λz=>.inl (.inr z)
   |false=>exact q a h
  ·exact .inr (hU a h)
 have mem:∀{j c},c∈a5 own i A' j->(i=j/\c∈A')\/(i≠j/\c∈own j):=λ{j c} h=>by
  by_cases aL:i=j
  ·subst aL;rw[os_eq]at h;exact .inl {(rfl),h}
  ·rw[b7 aL]at h;exact .inr {(aL),h}
 have RK:∀j,i≠j->∀a∈own j,a≠c:=λj aL a ha z=>aL (b.oP i j c hc (by rw[<- z];exact ha))
 refine⟨by simp[b.len],λj y' d2 e2=>?_,λj d2 e2=>?_,λj ok e2=>?_,λj a h=>?_,λj k2 a h1 h2=>?_,λj=>?_,{λa oa z n=>?_,λa xs z=>k.tup a xs (b.kp.tup a xs z)},λa z=>?_,λj y' d2 e2=>by
  by_cases aL:i=j
  ·subst aL;obtain⟨e',hl⟩:=bY e2;cases e'
  ·rw[bR aL]at e2;rw[b7 aL];obtain⟨u,h1,h2,h3⟩:=b.shl j y' d2 e2;exact{u,h1,h2.map (λa ha oa ea=>k.out a oa ea (RK j aL a ha)) (λ_ _ r=>ak.a_ (sub _) (r.keep (k.mono λa z=>by rw[z];cases y' <;> first|exact .inl wc|exact .inl (.inl wc)))),h3}⟩
 ·by_cases aL:i=j
  ·subst aL;obtain⟨e',hl⟩:=bY e2;cases e'
  ·rw[bR aL]at e2;obtain⟨u,h1,h2⟩:=b.val j y' d2 e2;exact{u,h1,(h2.keep (k.mono λa z=>by rw[z];cases y' <;> first|exact .inl wc|exact .inl (.inl wc))).a_ (sub _)}
 ·by_cases aL:i=j
  ·subst aL;obtain⟨e',hl⟩:=bY e2;cases e';rw[os_eq];exact{v,hσ,r,λa ha=>(hA a ha).elim (h0 a) λz=>z.1}
  ·rw[bR aL]at e2;rw[b7 aL];obtain⟨u,h1,h2,h3⟩:=b.ow j d2 e2;exact{u,h1,h2.keep k.tup (λa ha oa ea=>k.out a oa ea (RK j aL a ha)),h3}
 ·by_cases aL:i=j
  ·subst aL;obtain⟨e',hl⟩:=bY e2;cases e'
  ·rw[bR aL]at e2;rw[b7 aL];obtain⟨a,ns,h1,h2,h3,h4,h5⟩:=b.rC j ok e2;exact{a,ns,h1,k.out a _ h2 (RK j aL a (by rw[h4];simp)),h3,h4,h5}
 ·rcases mem h with⟨_,h⟩|⟨aL,h⟩
  ·exact{(r.qV a h).1,(r.qV a h).2,.inl ((hA a h).elim (h0 a) λz=>z.1),Vc a h}
  ·obtain⟨q1,q2,q3,q4⟩:=b.dm j a h;rw[aD (RK j aL a h)];exact{q1,q2,q3,λz=>q4 (hU a z)}
 ·rcases mem h1 with⟨e1,h1⟩|⟨n1,h1⟩
  ·rcases mem h2 with⟨e2,h2⟩|⟨n2,h2⟩
   ·rw[<- e1,<- e2]
   ·rcases hA a h1 with z|z
    ·exact Η (b.oP i k2 a z h2) n2
    ·exact Η {(k2),h2} z.2.1
  ·rcases mem h2 with⟨e2,h2⟩|⟨n2,h2⟩
   ·rcases hA a h2 with z|z
    ·exact Η (b.oP i j a z h1) n1
    ·exact Η {(j),h1} z.2.1
   ·exact b.oP j k2 a h1 h2
 ·by_cases aL:i=j
  ·rw[<- aL,os_eq];exact nd
  ·rw[b7 aL];exact b.qS j
 ·refine k.out a oa (b.kp.out a oa z n) λq=>?_;subst q;rw[h0 a hc]at z;cases z
 ·by_cases WT:a=c
  ·rw[WT,ar];exact λz=>(nomatch z)
  ·rw[aD WT];exact b.ju a z
def cZ.putIn {P:Z6}{w:aam}{U:θ->Prop}{d d':D}{v:V}{A':List θ}{c:θ}{o:HO}(b:cZ P w (C.u U) σ H β own)(e:β[i]?=ν (ν (.own d)))(hσ:σ[i]?=ν (ν v))(hc:c∈own i)
  (r:Own P w (upd H c o) d' v A') (nd:A'.Nodup) (hA:∀a∈A',a∈own i\/(C.H0 a=ξ/\¬ Wn own a/\U a)):cZ P w C.z σ (upd H c o) (β.set i (ν (.own d'))) (a5 own i A') :=
 b.OC (U2:=λ_=>False) e hσ hc r nd hA (λ_ z=>z.elim) λ_ _ z=>z
def tS {A':List θ}{c:θ}{o:HO}{U:θ->Prop}(n:Sn Z H (Wn own))(m:∀a,U a->Z.1 a=ξ)(hc:Wn own c)(MH:∃oc,H c=ν oc/\∀xs,oc≠.tup xs)(hA:∀a∈A',a∈own i\/(C.H0 a=ξ/\¬ Wn own a/\U a)):Sn Z (upd H c o) (Wn (a5 own i A')):=by
 obtain⟨oc,h1,h2⟩:=MH;have u:=Sn.upd (o':=o) n h1 h2 hc;exact⟨λb yu=>by
  obtain⟨j,hj⟩:=yu
  by_cases aL:i=j
  ·rw[<- aL,os_eq]at hj;rcases hA b hj with z|z
   ·exact n.w b {(i),z}
   ·exact .inr (m b z.2.2)
  ·rw[b7 aL]at hj;exact n.w b {(j),hj},u.k,u.d⟩
def cZ.vK {P:Z6}{w:aam}{ds:List D}(b:cZ P w C σ H β own)(e:β[i]?=ν (ν (.own (.lst ds)))):∃a vs A',σ[i]?=ν (ν (.ref a))/\H a=ν (.lst vs)/\own i=a::A'/\aT P w H ds vs A':=by
 obtain⟨v,h1,⟨a,vs,A',rfl,h2,h3,h4⟩,_⟩:=b.ow i _ e;exact{(a),vs,A',h1,h2,h3,h4}
variable {px ap cp:Pos}
def d4 (he:∀U,PQ X (C.u U) p e φ)(hn:Nm X i x:=by exact Ce)
  (fX:ab6 (.Name x px) "append" X.env (eval (.Name x px) X.env)=eval (.Name x px) X.env:=by rfl)
  (qg:((abK cp (aao [e] X.env)).all (λx=>!x.1)&&(backToKw cp (ado [] X.env)).all (λx=>x.1.isSome)&&decide ([e].length+([]:List acX).length+(if ([]:List acX).isEmpty then 0 else 1)<30))=ζ:=by rfl)
  (fW:(ap.endLine==cp.line)=ζ:=by rfl) (hs:aao [e] X.env=(η,eval e X.env)::aao [] X.env:=by rfl) (fV:(abK cp (aao [] X.env)).any (·.1)=η:=by rfl)
  (xn:ab4 (.Call (.Attribute (.Name x px) "append" ap) [e] [] cp) ξ pos.line X.env=pure η:=by rfl) :
  PB X C (.Expr (.Call (.Attribute (.Name x px) "append" ap) [e] [] cp) pos) (λE β=>(∃ds,β[i]?=ν (ν (.own (.lst ds))))/\φ β λd k β'=>H9 k d/\∃ds,β'[i]?=ν (ν (.own (.lst ds)))/\ds.length<aak/\E.nx (β'.set i (ν (.own (.lst (ds++[d])))))):=by
 refine{λE E' β l EZ=>by obtain⟨h1,q⟩:=EZ;exact{h1,(he λ_=>False).mono _ _ _ (λd k β' yt=>by obtain⟨f,ds,h1,h2,q⟩:=yt;exact{f,ds,h1,h2,l.nx _ q}) q},λμ s σ H D I iX=>?_}
 obtain⟨Z,E,β,⟨own,sq,n⟩,⟨⟨Y2,hb⟩,q⟩,ok⟩:=iX;refine oB (pos:=pos) (DO (apos:=ap) (cpos:=cp) Ζ PySem.F.slot_list_append PySem.F.type_list_append mL (iN (pos:=px) hn) (bM (he λa=>H a=ξ).pe d6 hs) fX qg fW hs fV) xn μ s σ H D I ?_;obtain⟨a,vs,A',h1,h2,h3,h4⟩:=sq.vK hb;refine{.ref a,h1,.inl {rfl,vs,fb.of h2},tQ.of (he λa=>H a=ξ) (sq.uS (C:=C.z) (U:=λa=>H a=ξ) λa z=>z) q λd k β' v H1 aH mV o r=>?_};obtain⟨f,ds,qU,hl,q⟩:=mV;obtain⟨a',vs',A1,g1,g2,g3,g4⟩:=o.sq.vK qU;rw[h1]at g1;cases g1;obtain⟨A,r1,r2,r3⟩:=r.fl f;have ha:a∈aH i:=by rw[g3];simp
 have nd:(a::(A1++A)).Nodup:=by
  have q:=o.sq.qS i;rw[g3]at q;refine aaA.mpr {λz=>?_,aaY.mpr {(aaA.mp q).2,r2,λx hx y hy e=>?_}}
  ·rcases Z9.mp z with z|z
   ·exact(aaA.mp q).1 z
   ·exact(r3 a z).2.1 {(i),ha}
  ·subst e;exact(r3 x hy).2.1 {i,by rw[g3];simp[hx]}
 have hA:∀b∈a::(A1++A),b∈aH i\/(C.H0 b=ξ/\¬ Wn aH b/\H b=ξ):=λb hb=>by
  rcases Z1.mp hb with rfl|hb
  ·exact .inl ha
  ·rcases Z9.mp hb with hb|hb
   ·exact .inl (by rw[g3];simp[hb])
   ·exact .inr {(r3 b hb).2.2,(r3 b hb).2.1,(r3 b hb).1}
 have kt:∀b xs,H1 b=ν (.tup xs)->upd H1 a (.lst (vs'++[v])) b=ν (.tup xs):=λb xs z=>by
  rw[aD (λz'=>by rw[z',g2]at z;cases z)];exact z
 have ne1:∀c∈A1,c≠a:=λc hc z=>by
  have q:=o.sq.qS i;rw[g3]at q;exact(aaA.mp q).1 (by rw[<- z];exact hc)
 have ne2:∀c∈A,c≠a:=λc hc z=>(r3 c hc).2.1 {i,by rw[z];exact ha}
 have r':Own X.prog X.w (upd H1 a (.lst (vs'++[v]))) (.lst (ds++[d])) (.ref a) (a::(A1++A)) :=
  {a,vs'++[v],A1++A,rfl,ar,rfl,(g4.keep kt λc hc oc ec=>by rw[aD (ne1 c hc)];exact ec).append (aT.one (r1.keep kt λc hc oc ec=>by rw[aD (ne2 c hc)];exact ec))}
 exact{a,vs',v,rfl,rfl,g2,by rw[g4.length];exact hl,ok.nx _ _ _ {_,o.sq.putIn qU h1 ha r' nd hA,tS (n.trans o.sn) (λb z=>n.free z) {(i),ha} {_,g2,λxs z=>by cases z} hA} q}
end
abbrev dc:=D->Kd->ba->(ba->Prop)->Prop
abbrev tF:=List D->Kd->ba->(ba->Prop)->Prop
structure xf (X:Cx)(C:Cfg)(tg:Expr)(T:List Nat)(γ:dc):Prop where
 mono:∀d k β R R',(∀r,R r->R' r)->γ d k β R->γ d k β R'
 pg:PG X tg λv σ H Q=>∃own β d k,SQ X C σ H β own/\Rp X (jw C (Wn own) k) H d v/\γ d k β λβ'=>∀σ' aX,SQ X C σ' H β' aX->(∀a,Wn aX a->Wn own a)->(∀j,j∉T->σ'[j]?=σ[j]?)->Q σ' H
structure Jk (X:Cx)(C:Cfg)(AL:List Expr)(T:List Nat)(γ:tF):Prop where
 mono:∀d k β R R',(∀r,R r->R' r)->γ d k β R->γ d k β R'
 V7:Kh X AL λvs σ H Q=>∃own β ds k,SQ X C σ H β own/\w_ X (jw C (Wn own) k) H ds vs/\γ ds k β λβ'=>∀σ' aX,SQ X C σ' H β' aX->(∀a,Wn aX a->Wn own a)->(∀j,j∉T->σ'[j]?=σ[j]?)->Q σ' H
section
variable {X:Cx}{C:Cfg}{tg:Expr}{AL:List Expr}{γ:dc}{γs:tF}{T T':List Nat}{pos:Pos}{e:Expr}{φ:aP}{p:Bool}
def YT (i:Nat):dc:=λd k β R=>zU d k λb=>R (β.set i (ν b))
def ai {i:Nat}{x:Str}(hN:X.N.Nodup)(hi:X.N[i]?=ν x:=by rfl)(hx:Loc X.env.scope x:=by first|exact .inl rfl|exact .inr rfl)
  (hf:X.fn x=ζ\/X.env.scope.names.lookup x=ν .local:=by first|exact .inl rfl|exact .inr rfl|assumption):xf X C (.Name x pos) [i] (YT i) :=
 ⟨λd k β R R' h q=>zU.mono (d:=d) (k:=k) (K:=λb=>R (β.set i (ν b))) (K':=λb=>R' (β.set i (ν b))) (λ_=>h _) q,(Hi hN hi hx hf).pre λv σ H Q rm=>by
  obtain⟨own,β,d,k,s,r,q⟩:=rm;have Ry:∀(v:V) (j:Nat),j∉[i]->(σ.set i (ν v))[j]?=σ[j]?:=λv j hj=>bR (acB (by simpa using hj))
  cases k with
  |own=>exact q _ _ (s.gy (y:=ζ) r) (λa h=>fG h) (Ry v)
  |g9=>exact q _ _ (s.gy (y:=ζ) r) (λa h=>fG h) (Ry v)
  |old=>exact q _ _ (s.gy (y:=η) r) (λa h=>fG h) (Ry v)
  |bor=>exact q.2 _ _ (s.gy (y:=ζ) (aE.flat q.1 r)) (λa h=>fG h) (Ry v)⟩
abbrev sk (k:Kd):D->Kd
 |.int _=>.own
 |.bl _=>.own
 |.cN=>.own
 |.str _=>.own
 |_=>k.wk
def tV {P:Z6}{w:aam}{W:θ->Prop}{H:Hp}{k:Kd}{d:D}{v:V}(r:aE P w (jw C W k) H d v):aE P w (jw C W (sk k d)) H d v:=by
 cases d with
 |int i=>exact aE.flat rfl r
 |bl i=>exact aE.flat rfl r
 |cN=>exact aE.flat rfl r
 |str i=>exact aE.flat rfl r
 |_=>exact aE.a_ (λa z=>z.imp (Az a) id) r
def MW:tF:=λds _ β R=>ds=[]/\R β
def Ff (γ:dc)(γs:tF):tF:=λds k β R=>∃d r,ds=d::r/\γ d (sk k d) β λβ'=>γs r k β' R
def bg:Jk X C [] [] MW:=⟨λd k β R R' h q=>{q.1,h _ q.2},Hh.pre λvs σ H Q yr=>by
 obtain⟨own,β,ds,k,s,r,e,q⟩:=yr;subst e;exact{r,q σ own s (λ_ z=>z) λ_ _=>rfl}⟩
def az (h1:xf X C tg T γ)(h2:Jk X C AL T' γs)(hs:(abX (tg::AL) X.env).map (·.2)=assign tg X.env::(abX AL X.env).map (·.2):=by rfl):Jk X C (tg::AL) (T++T') (Ff γ γs) :=
 ⟨λds k β R R' h yq=>by obtain⟨d,r,e,q⟩:=yq;exact{d,r,e,h1.mono _ _ β _ _ (λβ' q=>h2.mono r k β' _ _ h q) q},
  (DI h1.pg h2.V7 hs).pre λvs σ H Q Ik=>by
    obtain⟨own,β,ds,k,s,rr,d,r,e,q⟩:=Ik;subst e;obtain⟨v,vr,rfl,rv,XC⟩:=rr;exact{v,vr,rfl,own,β,d,_,s,tV rv,h1.mono _ _ β _ _ (λβ' q σ' aX s' w' t'=>{aX,β',r,k,s',ak.a_ (mf w' k) XC,h2.mono r k β' _ _ (λβ2 q2 σ2 bE s2 w2 t2=>q2 σ2 bE s2 (λa z=>w' a (w2 a z)) λj hj=>(t2 j λz=>hj (aaB _ z)).trans (t' j λz=>hj (aaP _ z))) q}) q}⟩
def YS (n:Nat)(γs:tF):dc:=λd k β R=>∃ds,d=.tup ds/\ds.length=n/\γs ds k β R
def bA {k:Nat}{n:Nat}(hc:X.calm=ζ)(h:Jk X C AL T γs)(hn:(abX AL X.env).length=n:=by rfl)(Ih:(abX AL X.env).findIdx? (·.1)=ξ:=by rfl):xf X C (.Tuple AL k pos) T (YS n γs) :=
 ⟨λd k β R R' hh EY=>by obtain⟨ds,e,l,q⟩:=EY;exact{ds,e,l,h.mono ds k β _ _ hh q},(Ls hc h.V7 hn Ih).pre λv σ H Q Mw=>by
  obtain⟨own,β,d,k,s,r,ds,e,l,q⟩:=Mw;subst e;obtain⟨a,vs,rfl,ha,rs⟩:=r;exact{a,vs,rfl,nk.of ha,by rw[rs.length];exact l,own,β,ds,k,s,rs,q}⟩
def lx {Z:Hp×(θ->Prop)}{H:Hp}{own aX:Nat->List θ}(n:Sn Z H (Wn own))(h:∀a,Wn aX a->Wn own a):Sn Z H (Wn aX):={λb z=>n.w b (h b z),n.k,n.d}
def ij (he:PQ X C.z p e φ)(hg:xf X C.z tg T γ)(hs:swapsWithSole [tg] e pos.line X.env=pure η:=by rfl)(hw:swappedStores [tg] e X.env=pure ξ:=by rfl)
  (h1:(abX [tg] X.env).map (·.2)=[assign tg X.env]:=by rfl):PB X C (.Assign [tg] e pos) (λE β=>φ β λd k β'=>γ d k β' E.nx) :=
 ⟨λE E' β l q=>he.mono _ _ _ (λd k β' q=>hg.mono _ _ _ _ _ l.nx q) q,(xS he.pe hg.pg hs hw h1).pre λD σ H ⟨Z,E,β,⟨own,s,n⟩,q,ok⟩=>tQ.of he s q λd k β' v H' aX q o r =>
  {aX,β',d,k,o.sq,aE.a_ (λa z=>z.elim id λz=>z.elim) r.rep,hg.mono _ _ _ _ _ (λβ2 q σ2 bE s2 w2 _=>ok.nx _ _ _ {bE,s2,lx (n.trans o.sn) w2} q) q}⟩
abbrev TY (ro:Bool)(k:Kd)(d:D):Prop:=match k,ro with
 |.own,_=>True
 |.g9,η=>True
 |_,_=>d.flat=ζ
def gR {P:Z6}{w:aam}{W:θ->Prop}{ro:Bool}{H H':Hp}{d:D}{v:V}(f:d.flat=ζ)(r:aE P w W H' d v):xg P w ro H H' d v:=by
 cases ro with
 |true=>exact{[],fQ f r,aa0,λc hc=>(nomatch hc)}
 |false=>exact aE.flat f r
def HI {P:Z6}{w:aam}{Z:Hp×(θ->Prop)}{own:Nat->List θ}{ro:Bool}{H':Hp}{k:Kd}{d:D}{v:V}(f:TY ro k d)(r:KV P w C Z own H' k d v):xg P w ro C.H0 H' d v:=by
 cases k with
 |own =>
  cases ro with
  |true=>obtain⟨A,h1,h2,h3⟩:=r;exact{A,h1,h2,λc hc=>(h3 c hc).2.2}
  |false=>exact aE.a_ (λa z=>.inr z) r.rep
 |g9 =>
  cases ro with
  |true=>exact gR f r.rep
  |false=>exact aE.a_ (λa z=>.inr z) r.rep
 |old=>cases ro <;> exact gR f r.rep
 |bor=>cases ro <;> exact gR f r.rep
def Hl (he:PQ X C.z p e φ):PB X C (.Return (ν e) pos) (λE β=>φ β λd k β'=>TY C.ro k d/\E.rt d β') :=
 {λE E' β l q=>he.mono _ _ _ (λd k β' q=>{q.1,l.rt _ _ q.2}) q,(kq he.pe).pre λD σ H EX=>by obtain⟨Z,E,β,⟨own,s,n⟩,q,ok⟩:=EX;exact tQ.of he s q λd k β' v H' aX q o r=>ok.rt _ _ _ _ _ (o.sb n) (HI (C:=C.z) q.1 r) q.2}
def aO {ro:Bool}(he:PQ X C.z p e φ)(Py:C.ro=ro:=by first|exact(rfl:_=ζ)|exact(rfl:_=η)):PB X C (.Return (ν e) pos) (λE β=>φ β λd k β'=>TY ro k d/\E.rt d β'):=by
 subst Py;exact Hl he
def lI {i:Nat}{x:Str}{px:Pos}(hn:Nm X i x:=by exact Ce):
  PB X C (.Return (ν (.Name x px)) pos) (λE β=>∃d,β[i]?=ν (ν (.own d))/\E.rt d β) :=
 ⟨λE E' β l yv=>by obtain⟨d,h1,q⟩:=yv;exact{d,h1,l.rt _ _ q},(kq (iN (pos:=px) hn)).pre λD σ H E6=>by
  obtain⟨Z,E,β,⟨own,s,n⟩,⟨d,h1,q⟩,ok⟩:=E6;obtain⟨v,e1,r,h0⟩:=s.ow i d h1;refine{_,e1,ok.rt _ _ _ _ _ {(own),s,n} ?_ q};cases hr:C.ro with
  |true=>exact{_,r,s.qS i,h0}
  |false=>exact r.rep λc hc z=>z (h0 c hc)⟩
end
abbrev cf:=ba->(List D->Kd->ba->Prop)->Prop
structure xr (X:Cx)(C:Cfg)(p:Bool)(tg iter:Expr)(ι:cf):Prop where
 mono:∀β R R',(∀d k β,R d k β->R' d k β)->ι β R->ι β R'
 pi:PI X tg iter λσ H R=>∃β own,SQ X C σ H β own/\ι β λds k β'=>∀J H' aX,Out X C σ H own p β' H' aX->Cq X (av C (Wn aX) k) J ds H'->R J H'
section
variable {X:Cx}{C:Cfg}{tg e a b:Expr}{φ:aP}{φs:du}{p:Bool}{pp pos:Pos}
def T3 (φ:aP):cf:=λβ R=>φ β λd k β'=>∃ds,d=.lst ds/\R ds k β'
def aS (h:PQ X C p e φ):xr X C p tg e (T3 φ) :=
 ⟨λβ R R' k q=>h.mono β _ _ (λd kd β' MG=>by obtain⟨ds,e,q⟩:=MG;exact{ds,e,k _ _ _ q}) q,(zw h.pe).pre λσ H R ⟨β,own,s,q⟩=>tQ.of h s q λd k β' v H1 aH E5 o1 r1=>by
  obtain⟨ds,e,q1⟩:=E5;subst e;obtain⟨a,vs,rfl,h1,n1,q2⟩:=r1.rep;exact{a,rfl,{vs,fb.of h1},q1 _ _ aH o1 (vQ h1 n1 q2)}⟩
def Mq (φ:aP):cf:=λβ R=>φ β λd k β'=>∃ds,d=.tup ds/\R ds k β'
def zX {W:θ->Prop}{H:Hp}{a:θ}{vs:List V}{ds:List D}(h1:H a=ν (.tup vs))(q2:w_ X W H ds vs):Cq X W (VG X.K a) ds H:=λW' hW i H' k=>by
 have h2:=k.tup a _ h1;replace q2:=ak.grow hW q2;constructor
 ·intro d hd;obtain⟨v,hv,rv⟩:=ak.get q2 hd;refine{{vs,v,nk.of h2,hv},λx H1 y=>?_};obtain⟨rfl,y⟩:=y;have e:=y vs (nk.of h2);rw[hv]at e;cases e;exact{aB.refl _,rv.keep k}
 ·intro hl;exact{vs,nk.of h2,by rw[q2.length];exact hl}
def Hc (h:PQ X C p e φ):xr X C p tg e (Mq φ) :=
 ⟨λβ R R' k q=>h.mono β _ _ (λd kd β' yu=>by obtain⟨ds,e,q⟩:=yu;exact{ds,e,k _ _ _ q}) q,(DH h.pe).pre λσ H R ⟨β,own,s,q⟩=>tQ.of h s q λd k β' v H1 aH yt o1 r1=>by
  obtain⟨ds,e,q1⟩:=yt;subst e;obtain⟨a,vs,rfl,h1,q2⟩:=r1.rep;exact{a,rfl,{vs,nk.of h1},q1 _ _ aH o1 (zX h1 q2)}⟩
def Ie (φs:du):cf:=λβ R=>φs β λds _ β'=>∃j:Int,ds=[.int j]/\-(2 ^ 62)<=j/\j<2 ^ 62/\R (nS 0 j.toNat) .g9 β'
def zZ (φs:du):cf:=λβ R=>φs β λds _ β'=>∃i j:Int,ds=[.int i,.int j]/\(-(2 ^ 62)<=i/\i<2 ^ 62/\-(2 ^ 62)<=j/\j<2 ^ 62)/\R (nS i (j-i).toNat) .g9 β'
def bc (hm:X.mg "range" = ξ)(ha:xc X C p [a] φs)(hg:Gl X "range" := by rfl)(hs:aao [a] X.env=[(η,eval a X.env)]:=by rfl):xr X C p tg (.Call (.Name "range" pp) [a] [] pos) (Ie φs) :=
 ⟨λβ R R' k q=>ha.mono β _ _ (λd kd β' ME=>by obtain⟨j,e,h1,h2,q⟩:=ME;exact{j,e,h1,h2,k _ _ _ q}) q,(Bf hg hm ha.pa hs).pre λσ H R ⟨β,own,s,q⟩=>xE.of ha s q λds ks β' vs H1 aH MC o1 r1=>by
  obtain⟨j,e,h1,h2,q1⟩:=MC;subst e;obtain⟨x,rfl,hx⟩:=nQ r1.lC;cases hx;exact{j,rfl,h1,h2,q1 _ _ aH o1 mR}⟩
def ku (hm:X.mg "range" = ξ)(ha:xc X C p [a,b] φs)(hg:Gl X "range" := by rfl)(hs:aao [a,b] X.env=[(η,eval a X.env),(η,eval b X.env)]:=by rfl)(nK:aao [b] X.env=[(η,eval b X.env)]:=by rfl) :
  xr X C p tg (.Call (.Name "range" pp) [a,b] [] pos) (zZ φs) :=
 ⟨λβ R R' k q=>ha.mono β _ _ (λd kd β' MB=>by obtain⟨i,j,e,h1,q⟩:=MB;exact{i,j,e,h1,k _ _ _ q}) q,(si hg hm ha.pa hs nK).pre λσ H R ⟨β,own,s,q⟩=>xE.of ha s q λds ks β' vs H1 aH UG o1 r1=>by
  obtain⟨i,j,e,h1,q1⟩:=UG;subst e;obtain⟨x,y,rfl,hx,hy⟩:=AB r1.lC;cases hx;cases hy;exact{i,j,rfl,h1,q1 _ _ aH o1 mR}⟩
end
def Fn (γ:dc)(ψ:Cp)(E:de)(ds:List D)(k:Kd)(β:ba):Prop:=∃I:Nat->ba->Prop,I 0 β/\(∀i d β,ds[i]?=ν d->I i β->γ d (sk k d) β λβ1=>ψ (E.lp (I (i+1))) β1)/\∀β,I ds.length β->E.nx β
section
variable {X:Cx}{C:Cfg}{tg iter c:Expr}{γ:dc}{T:List Nat}{ψ:Cp}{ι:cf}{τ:a6}{body:List Stmt}{pos:Pos}{p:Bool}
def Fn.mono {E E':de}{ds:List D}{k:Kd}{β:ba}(hγ:∀d k β R R',(∀r,R r->R' r)->γ d k β R->γ d k β R')(hψ:∀E E' β,Le E E'->ψ E β->ψ E' β)(l:Le E E'):Fn γ ψ E ds k β->Fn γ ψ E' ds k β:=λ⟨I,h0,h1,h2⟩ =>
 {I,h0,λi d β e q=>hγ d _ β _ _ (λβ1 q=>hψ {nx:=I (i+1),rt:=E.rt,bk:=E.nx,ct:=I (i+1)} {nx:=I (i+1),rt:=E'.rt,bk:=E'.nx,ct:=I (i+1)} β1 {λ_ q=>q,l.rt,l.nx,λ_ q=>q} q) (h1 i d β e q),λβ q=>l.nx _ (h2 β q)}
def Jd {own bE:Nat->List θ}{H H2:Hp}{k:Kd}(n:Sn (H,Wn own) H2 (Wn bE)):∀b,av C (Wn bE) k b->av C (Wn own) k b\/H b=ξ:=λb z=>by
 cases k with
 |own=>exact z.elim (λz=>(n.w b z).imp .inl id) λz=>.inl (.inr z)
 |g9=>exact z.elim (λz=>(n.w b z).imp .inl id) λz=>.inl (.inr z)
 |old=>exact n.w b z
 |bor=>exact z.elim
def cG (hp:PassesOwn (Ψ X.prog X.w) X.A X.env X.xe)(hc:X.calm=ζ)(hi:xr X C.z p tg iter ι)(hg:xf X C.z tg T γ)(hb:AG X C body ψ)(hs:∀x,aaO iter X.env x=pure x:=by intro _;rfl):
  PB X C (.For tg iter body [] pos) (λE β=>ι β λds k β1=>hold k η/\Fn γ ψ E ds k β1) :=
 ⟨λE E' β l q=>hi.mono _ _ _ (λds k β1 q=>{q.1,q.2.mono hg.mono hb.mono l}) q,(Dx hp hc hi.pi hg.pg hb.ps hs).pre λD σ H UD=>by
  obtain⟨Z,E,β,⟨own,s,n⟩,q,ok⟩:=UD;refine{β,own,s,hi.mono _ _ _ (λds k β1 iX J H1 aH o1 it=>?_) q};obtain⟨hk,I,i0,i1,i2⟩:=iX;have n':=n.trans o1.sn;have ig:∀b,Wn aH b\/H1 b=ξ->av C.z (Wn aH) k b\/H1 b=ξ:=λb z=>by
   cases k with
   |own=>exact z.imp .inl id
   |g9=>exact z.imp .inl id
   |old=>exact z
   |bor=>exact hk.elim
  have Nw:=it (λb=>av C.z (Wn aH) k b\/H1 b=ξ) λb z=>z;refine{λi m σ H=>i<=ds.length/\m=ds.length-i/\∃β,SB X C (H1,Wn aH) σ H β/\I i β,{_,aab _,rfl,β1,{(aH),o1.sq,Sn.refl},i0},?_};rintro i m σ2 H2 ⟨hi,rfl,β2,⟨bE,s2,n2⟩,hl⟩;obtain⟨cw,kX⟩:=Nw i H2 (n2.k.mono ig)
  by_cases gV:i<ds.length
  ·right
   have hd:ds[i]?=ν ds[i]:=Z4 gV;obtain⟨go,yl⟩:=cw _ hd;refine{go,λσ' H'=>∃β,SB X C (H1,Wn aH) σ' H' β/\I (i+1) β,λσ' H' UB=>by obtain⟨β',xN,qf⟩:=UB;exact{_,by lia,gV,rfl,β',xN,qf},λx H3 y=>?_}
   obtain⟨s3,r3⟩:=yl x H3 y;refine{bE,β2,_,_,s2.same s3,tV (C:=C.z) (aE.a_ (λb z=>Jd (C:=C) n2 b (z.elim id λz=>z.elim)) r3),hg.mono _ _ _ _ _ (λβ4 q σ4 vw s4 w4 _=>?_) (i1 i _ β2 hd hl)};refine{(H1,Wn aH),_,β4,{vw,s4,lx (n2.same s3) w4},q,{λσ5 H5 β5 A5 q5=>{(β5),A5,q5},λσ5 H5 β5 d5 v5 A5 r5 q5=>?_,λσ5 H5 β5 A5 q5=>?_,λσ5 H5 β5 A5 q5=>{(β5),A5,q5}}}
   ·obtain⟨rh,s5,n5⟩:=A5;exact ok.rt _ _ _ _ _ {rh,s5,n'.trans n5} r5 q5
   ·obtain⟨rh,s5,n5⟩:=A5;exact ok.nx _ _ _ {rh,s5,n'.trans n5} q5
  ·left
   have e:i=ds.length:=by lia
   subst e;exact{kX (ZX _),ok.nx _ _ _ {bE,s2,n'.trans n2} (i2 β2 hl)}⟩
def CF (τ:a6)(ψ:Cp):Cp:=λE β=>∃V:Nat->ba->Prop,(∃m,V m β)/\∀m β,V m β->τ β λt β1=>if t=ζ then ψ {nx:=λβ'=>∃m',m'<m/\V m' β',rt:=E.rt,bk:=E.nx,ct:=λβ'=>∃m',m'<m/\V m' β'} β1 else E.nx β1
def DP (hp:PassesOwn (Ψ X.prog X.w) X.A X.env X.xe)(hc:xq X C.z p c τ)(hb:AG X C body ψ):PB X C (.While c body [] pos) (CF τ ψ) :=
 ⟨λE E' β l ⟨V,h0,h⟩=>⟨V,h0,λm β v=>hc.mono _ _ _ (λt β1 q=>by
   cases t
   ·exact l.nx _ q
   ·exact hb.mono {nx:=λβ'=>∃m',m'<m/\V m' β',rt:=E.rt,bk:=E.nx,ct:=λβ'=>∃m',m'<m/\V m' β'} {nx:=λβ'=>∃m',m'<m/\V m' β',rt:=E'.rt,bk:=E'.nx,ct:=λβ'=>∃m',m'<m/\V m' β'} β1 {λ_ q=>q,l.rt,l.nx,λ_ q=>q} q) (h m β v)⟩,(Dw hp hc.pt hb.ps).pre λD σ H Mz=>by
  obtain⟨Z,E,β,sb,⟨V,⟨m0,v0⟩,h⟩,ok⟩:=Mz;refine{λm σ H=>∃β,SB X C Z σ H β/\V m β,{(m0),β,sb,v0},λm σ H mV=>?_};obtain⟨β,⟨own,s,n⟩,v⟩:=mV;refine lq.of hc s (h m β v) λt β1 H1 aH q o1=>?_;cases t
  ·exact ok.nx _ _ _ (o1.sb n) q
  ·exact{λσ' H'=>∃β',SB X C Z σ' H' β'/\∃m',m'<m/\V m' β',λσ' H' Uz=>by obtain⟨β',xN,m',hm,v'⟩:=Uz;exact{(m'),hm,β',xN,v'},Z,_,β1,o1.sb n,q,λσ' H' β' xN q'=>{(β'),xN,q'},ok.rt,ok.nx,λσ' H' β' xN q'=>{(β'),xN,q'}}⟩
end
def startB (N:List Str)(ds:List D):ba:=ds.map (λd=>ν (.val η d))++acf (N.length-ds.length) ξ
def mq (N:List Str)(ok:List Int->Prop)(ds:List D):ba:=ν (.hand ok)::(ds.map (λd=>ν (.val η d))++acf (N.length-(ds.length+1)) ξ)
section
variable {P:Z6}{w:aam}{K:Ξ}{mg:Str->Option ZW}{base:Heap}
def jf {i n:Nat}{b:B}(h:(acf n (ξ:Option B))[i]?=ν (ν b)):False:=by
 rw[List.getElem?_replicate]at h
 split at h <;> cases h
def gK {ds:List D}{n i:Nat}{b:B}(h:(ds.map (λd=>ν (B.val η d))++acf n ξ)[i]?=ν (ν b)):∃d,ds[i]?=ν d/\b=.val η d:=by
 by_cases hi:i<ds.length
 ·rw[abl (by simpa using hi),aah]at h
  cases q:ds[i]? with
  |none=>rw[q]at h;cases h
  |some d=>rw[q]at h;cases h;exact{(d),rfl,rfl}
 ·rw[aa4 (by simpa using hi)]at h
  exact(jf h).elim
def mn {N:List Str}{vs:List V}{i:Nat}{v:V}(h:vs[i]?=ν v):(start N vs)[i]?=ν (ν v):=by
 unfold start;rw[abl (by simpa using (aaf.mp h).1),aah,h]
 rfl
def CZ {N:List Str}{vs:List V}{ds:List D}{H:Hp}{ro:Bool}(r:ak P w (λ_=>False) H ds vs):cZ P w {H,λ_=>False,ro,λ_=>False} (start N vs) H (startB N ds) (λ_=>[]):=by
 refine{?_,λi y d h=>?_,λi d h=>?_,λi ok h=>?_,λi a h=>(nomatch h),λi j a h=>(nomatch h),λi=>aa0,Kp.refl,λ_ z=>z,λi y d h=>by obtain⟨d',e,e'⟩:=gK h;cases e'}
 ·unfold startB start;simp[r.length]
 ·obtain⟨d',e,e'⟩:=gK h;cases e';obtain⟨v,e1,e2⟩:=ak.get r e;exact{v,mn e1,aE.a_ (λa z=>z.elim (λUy=>by obtain⟨_,q⟩:=Uy;exact(nomatch q)) λz=>z) e2}
 ·obtain⟨d',e,e'⟩:=gK h;cases e'
 ·obtain⟨d',e,e'⟩:=gK h;cases e'
def nF {x qual:Str}{st:Stmt}{f:θ}{fd:aaI}{N ps:List Str}{k:Nat}{F:FD}{ro:Bool}(G:GC K x qual st f fd)(S:aN N ps (aw st))(len:∀ds R,F ds R->ds.length=ps.length)
  (qh:∀(c_:ZW) (A:aaX) (outer:List Env) (s:ZZ) (H:Hp) (E:XK),dU k (A.deeper (envOfC qual (aw st) s.heap.objs.size f c_)) ->
   ∃ψ,AG (rJ bt P w K mg base N qual (aw st) f c_ A outer s H E).JE {H,λ_=>False,ro,λ_=>False} (gw st) ψ/\∀ds R,F ds R->ψ (eN R) (startB N ds)) :
  aG P w K mg base bt (k+1) f fd ps (bW P w ro F):=by
 refine G.ok S (λvs H Q E h=>?_) (λc_ A outer s H vs Q E hr h=>?_)
 ·obtain⟨ds,r,h⟩:=h;rw[r.length];exact len ds _ h
 ·obtain⟨ds,r,h⟩:=h;obtain⟨ψ,hb,hF⟩:=qh c_ A outer s H E hr;refine{_,hb.ps,(H,Wn λ_=>[]),_,startB N ds,{λ_=>[],CZ r,Sn.refl},hF ds _ h,λσ H' β sb q=>?_,λσ H' β d v sb rr q=>?_,λ_ _ _ _ z=>z.elim,λ_ _ _ _ z=>z.elim}
  ·obtain⟨own,s',n'⟩:=sb;exact q _ H' (λb o e=>s'.kp.out b o e (λz=>z)) (gR (W:=λ_=>False) rfl rfl)
  ·obtain⟨own,s',n'⟩:=sb;exact q _ H' (λb o e=>s'.kp.out b o e (λz=>z)) rr
def AS {N:List Str}{ok:List Int->Prop}{h:θ}{ns:List Int}{vs:List V}{ds:List D}{H:Hp}{ro:Bool}(hh:H h=ν (.lst (ns.map V.int)))(ho:ok ns)(r:ak P w (λa=>a=h) H ds vs):
  cZ P w {H,(·=h),ro,λ_=>False} (start N (.ref h::vs)) H (mq N ok ds) (λi=>if i=0 then [h] else []):=by
 have Hn:∀{i:Nat} {a:θ},a∈(if i=0 then [h] else ([]:List θ))->i=0/\a=h:=λ{i a} q=>by
  by_cases e:i=0
  ·rw[χ e]at q;exact{e,by simpa using q}
  ·rw[ω e]at q;cases q
 have Iy:∀{i:Nat} {b:B},(mq N ok ds)[i]?=ν (ν b)->(i=0/\b=.hand ok)\/∃j d,i=j+1/\ds[j]?=ν d/\b=.val η d:=λ{i b} q=>by
  unfold mq at q;cases i with
  |zero=>simp at q;exact .inl {(rfl),q.symm}
  |succ i =>
   rw[acG]at q;obtain⟨d,e,e'⟩:=gK q;exact .inr {(i),d,rfl,e,e'}
 refine{?_,λi y d q=>?_,λi d q=>?_,λi Cd q=>?_,λi a q=>?_,λi j a h1 h2=>?_,λi=>?_,Kp.refl,λ_ z=>z,λi y d q=>(Iy q).elim (λIj=>by obtain⟨_,e⟩:=Ij;cases e) (λEX=>by obtain⟨j,d',_,_,e'⟩:=EX;cases e')}
 ·unfold mq start;simp[r.length]
 ·rcases Iy q with⟨_,e⟩|⟨j,d',rfl,e,e'⟩
  ·cases e
  ·cases e';obtain⟨v,e1,e2⟩:=ak.get r e;exact{v,mn (by simpa using e1),aE.a_ (λa z=>z.elim (λUx=>by obtain⟨j,q⟩:=Ux;exact(Hn q).2) λz=>z.elim) e2}
 ·rcases Iy q with⟨_,e⟩|⟨j,d',_,_,e'⟩
  ·cases e
  ·cases e'
 ·rcases Iy q with⟨e0,e⟩|⟨j,d',_,_,e'⟩
  ·cases e;subst e0;exact{h,ns,mn rfl,hh,ho,rfl,.inr rfl}
  ·cases e'
 ·obtain⟨_,rfl⟩:=Hn q;exact{by rw[hh];exact λz=>(nomatch z),λxs z=>(by rw[hh]at z;cases z),.inr rfl,λz=>z}
 ·rw[(Hn h1).1,(Hn h2).1]
 ·by_cases e:i=0
  ·simp[e]
  ·simp[e]
def HD {x qual:Str}{st:Stmt}{f:θ}{fd:aaI}{N ps:List Str}{k:Nat}{F:FD}{ok:List Int->Prop}{ro:Bool}(G:GC K x qual st f fd)(S:aN N ps (aw st))(len:∀ds R,F ds R->ds.length+1=ps.length)
  (qh:∀(c_:ZW) (A:aaX) (outer:List Env) (s:ZZ) (H:Hp) (E:XK) (IO:θ->Prop),dU k (A.deeper (envOfC qual (aw st) s.heap.objs.size f c_)) ->
   ∃ψ,AG (rJ bt P w K mg base N qual (aw st) f c_ A outer s H E).JE {H,IO,ro,λ_=>False} (gw st) ψ/\∀ds R,F ds R->ψ (eH ok R) (mq N ok ds)) :
  aG P w K mg base bt (k+1) f fd ps (jX P w ok ro F):=by
 refine G.ok S (λvs H Q E h=>?_) (λc_ A outer s H vs Q E hr h=>?_)
 ·obtain⟨h,vs',ds,ns,rfl,hh,ho,r,q⟩:=h;rw[aaa,r.length];exact len ds _ q
 ·obtain⟨h,vs',ds,ns,rfl,hh,ho,r,q⟩:=h;obtain⟨ψ,hb,hF⟩:=qh c_ A outer s H E (·=h) hr;refine{_,hb.ps,(H,_),_,mq N ok ds,{_,AS hh ho r,Sn.refl},hF ds _ q,λσ H' β sb z=>z.elim,λσ H' β d v sb rr vV=>?_,λ_ _ _ _ z=>z.elim,λ_ _ _ _ z=>z.elim};obtain⟨b0,q⟩:=vV;obtain⟨own,s',n'⟩:=sb;obtain⟨a,jO,g1,g2,g3,g4,g5⟩:=s'.rC 0 ok b0;have ea:a=h:=g5.elim (λz=>(z h rfl).elim) λz=>z;subst ea;exact q v H' jO s'.kp s'.ju g2 g3 rr
end
end L2.Q
namespace L2
def xb.pre {X:Cx}{ifs:List Expr}{t t':TT}(h:xb X ifs t)(k:∀σ H Q,t' σ H Q->t σ H Q):xb X ifs t':=λμ s σ H Q I q=>h μ s σ H Q I (k σ H Q q)
theorem we {T:D->Prop}:∀{outs:List D},(∀d∈outs,T d/\d.flat=ζ)->D.ck outs=ζ
 |[],_=>rfl
 |d::ds,h=>by
  rw[D.ck,(h d (by simp)).2,we λd' hd=>h d' (by simp[hd])]
  rfl
section
variable {X:Cx}{e:Expr}{g:acx}{gs:List acx}{scope:acn}{N':List Str}{lk:List (Option Nat)}{tg:θ->TG}{tt:θ->TT}{wi:TI}
def nP {d8:Sem ZW}{o:θ->HO}{after:ZW->Env->Sem Fin->Sem Fin}{ta:θ->ml}(L:Links X scope N' lk)(hc:X.calm=ζ)(hA:∀(μ:List (θ×Obj)) (s:ZZ) (σ:St) (H:Hp) (Q:ZW->ZZ->Prop) (E:ZW->ZZ->Prop),Inv X μ σ H s->(∀a s',s.heap.objs.size<=a->H a=ξ->(∀b o,s.heap.get? b=ν o->s'.heap.get? b=ν o)->Inv X μ σ (upd H a (o a)) s'->Q (.ref a) s')->aau (Ψ X.prog X.w) X.A d8 Q E s)
  (F:∀acc env,gx e 0 g acc env (after acc env))
  (nV:∀a cl C s H ex,PG (ay X scope N' cl C s H ex) g.target (tg a)/\xb (ay X scope N' cl C s H ex) g.ifs (tt a)/\oh (ay X scope N' cl C s H ex) (after (.ref a) (ay X scope N' cl C s H ex).env) (ta a))
  {cl:List (Str×θ)} (oM:∀x,(x,aaW)∈scope.names->∃c,cl.lookup x=ν c) (uL:∀x c,cl.lookup x=ν c->X.env.cells.lookup x=ν c)
  {μ:List (θ×Obj)} {σ:St} {s:ZZ} {Q:V->Hp->Prop} {JN:ZW} {E:ZW->ZZ->Prop} {RR:ZW->θ->Result->ZZ->Prop}
  (h:Si X μ σ g.target (λJ H1=>∀a,H1 a=ξ->gI J (tg a) (tt a) (ta a) (λ_ H'=>Q (.ref a) H') (fU lk σ) (upd H1 a (o a))) JN s)
  (hR:∀a H' C s',Inv X μ σ H' s'->kU X μ H' C->(∃m,s'.heap.Ns C m)->Q (.ref a) H'->RR (.ref a) C (.ok .next) s') :
  aau (Ψ X.prog X.w) X.A d8 (λacc s₃=>aau (Ψ X.prog X.w) X.A (newFunctionEnv scope X.env.globals cl [] X.env.qual ξ .none (ν X.env)) (λQ5 s₄ =>
   adp (Ψ X.prog X.w) X.A (.compStart e 0 JN acc {Q5 with scope:=relabel scope X.env}) (RR acc Q5.locals) s₄) E s₃) E s:=by
 obtain⟨it,fp,tn,J,H2,e1,I2,T,iJ,f2,hl⟩:=h;subst e1;refine hA μ s σ H2 _ E I2 λa s3 ha hn hk I3=>?_;refine wpAny_newFunctionEnv L.x_ (by intro y hy;simp at hy) (λh₁ MK Mv=>?_) L.kind
 have UM:∀b∈fp,∃o,s3.heap.get? b=ν o:=λb hb=>by
  obtain⟨ob,q,_⟩:=T.obj _ _ iJ b hb;exact{ob,hk b ob q}
 have YL:∀b∈fp,b≠a:=λb hb=>by
  obtain⟨ob,q,_⟩:=T.obj _ _ iJ b hb;exact aaL (aaG (aaq q) ha)
 have f3:∀b∈fp,kU X μ (upd H2 a (o a)) b:=λb hb=>{by rw[aD (YL b hb)];exact(f2 b hb).1,(f2 b hb).2}
 have Ci:∀b ob,s3.heap.get? b=ν ob->h₁.get? b=ν ob:=λb ob q=>Mv.extBut b ob (aaL (aaq q)) (Z3 _ q);have RZ:h₁.Ns s3.heap.objs.size (λ_=>ξ):=MK;have I4:=EN (t':=s3.toks+([]:List (Str×ZW)).length) I3 L f3 UM oM uL RZ Ci;obtain⟨g1,g2,g3⟩:=nV a cl s3.heap.objs.size s3 (upd H2 a (o a)) fp;have f4:∀b∈fp,kU (ay X scope N' cl s3.heap.objs.size s3 (upd H2 a (o a)) fp) [] (upd H2 a (o a)) b:=λb hb =>
  {(f3 b hb).1,(I4.ok.Sa b hb).1,I4.ok.Fw b hb,.inl hb,(I4.ok.Sa b hb).2,λp hp=>Η (show p∈([]:List (θ×Obj)) from hp) (by simp)}
 have Of:tn 0 h₁:=T.keep 0 _ _ iJ λb hb ob q=>Ci b ob (hk b ob q);refine abW (qG (X:=ay X scope N' cl s3.heap.objs.size s3 (upd H2 a (o a)) fp) rfl hc (F (.ref a) _) g1 g2 g3 T I4 Of f4 (hl a hn)) λr s' hr=>?_;obtain⟨rfl,σ',H',J',q⟩:=hr;have I5:Inv X μ σ H' s':=EO (C:=s3.heap.objs.size) (h'':=s'.heap) I3 f3 J' (.refl ..);refine hR a H' s3.heap.objs.size s' I5 (I3.Fl (ZX _) J'.free) ?_ q;obtain⟨m,hm,_⟩:=J'.loc;exact{(m),hm}
def vp {d8:Sem ZW}{o:θ->HO}{after:ZW->Env->Sem Fin->Sem Fin}{ta:θ->ml}{pos:Pos}(L:Links X scope N' lk)(hc:X.calm=ζ)(hA:∀(μ:List (θ×Obj)) (s:ZZ) (σ:St) (H:Hp) (Q:ZW->ZZ->Prop) (E:ZW->ZZ->Prop),Inv X μ σ H s->(∀a s',s.heap.objs.size<=a->H a=ξ->(∀b o,s.heap.get? b=ν o->s'.heap.get? b=ν o)->Inv X μ σ (upd H a (o a)) s'->Q (.ref a) s')->aau (Ψ X.prog X.w) X.A d8 Q E s)
  (Iq:eval e X.env=comprehension e scope X.env pos d8 η (eval g.iter X.env)) (Cj:clausesOf e=g::gs)
  (F:∀acc env,gx e 0 g acc env (after acc env)) (hi:PI X g.target g.iter wi)
  (nV:∀a cl C s H ex,PG (ay X scope N' cl C s H ex) g.target (tg a)/\xb (ay X scope N' cl C s H ex) g.ifs (tt a)/\oh (ay X scope N' cl C s H ex) (after (.ref a) (ay X scope N' cl C s H ex).env) (ta a))
  (hs:∀x,aaO g.iter X.env x=pure x) :
  PE X e (λσ H Q=>wi σ H λJ H1=>∀a,H1 a=ξ->gI J (tg a) (tt a) (ta a) (λ_ H'=>Q (.ref a) H') (fU lk σ) (upd H1 a (o a))):=by
 intro μ s σ H Q I h;rw[Iq];obtain⟨cl,Fd,oM,uL⟩:=kg (env:=X.env) (scope:=scope) λx hx=>I.ok.has x (L.free x hx);refine wpAny_comprehension_free (use:=ξ) Cj hs Fd L.kind L.names (bQ (hi μ s σ H _ I h) λv s1 h1=>bQ h1 λJN s2 h2=>?_);refine nP (RR:=λacc C=>compPost (Ψ X.prog X.w) X.A X.xe ξ (EP X μ σ Q) acc C) L hc hA F nV oM uL h2 λa H' C s' I' f vV q=>?_;obtain⟨m,hm⟩:=vV;exact{m,hm,λh' Bz=>{.ref a,H',I'.sameBut f Bz,rfl,q}}
def ji {d8:Sem ZW}{o:HO}{after:ZW->Env->Sem Fin->Sem Fin}{ta:θ->ml}{pos:Pos}(L:Links X scope N' lk)(hc:X.calm=ζ)(hA:qP X d8 o)
  (Iq:eval e X.env=comprehension e scope X.env pos d8 η (eval g.iter X.env)) (Cj:clausesOf e=g::gs)
  (F:∀acc env,gx e 0 g acc env (after acc env)) (hi:PI X g.target g.iter wi)
  (nV:∀a cl C s H ex,PG (ay X scope N' cl C s H ex) g.target (tg a)/\xb (ay X scope N' cl C s H ex) g.ifs (tt a)/\oh (ay X scope N' cl C s H ex) (after (.ref a) (ay X scope N' cl C s H ex).env) (ta a))
  (hs:∀x,aaO g.iter X.env x=pure x) :
  PE X e (λσ H Q=>wi σ H λJ H1=>∀a,H1 a=ξ->gI J (tg a) (tt a) (ta a) (λ_ H'=>Q (.ref a) H') (fU lk σ) (upd H1 a o)):=vp (o:=λ_=>o) L hc hA.ok Iq Cj F hi nV hs
def Dy {d8:Sem ZW}{o:HO}{after:ZW->Env->Sem Fin->Sem Fin}{ta:θ->ml}{pos pos' u6:Pos}{y:Str}{i:Nat}(L:Links X scope N' lk)(hc:X.calm=ζ)(hA:qP X d8 o)
  (xn:ab4 e (ν (.Name y pos')) u6.line X.env=pure ζ)
  (Iq:evalThenUse e X.env (assign (.Name y pos') X.env)=(do let _ <- comprehension e scope X.env pos d8 η (eval g.iter X.env) (ν (assign (.Name y pos') X.env));pure ())) (Cj:clausesOf e=g::gs)
  (hN:X.N.Nodup) (hy:X.N[i]?=ν y) (hx:Loc X.env.scope y) (hf:X.fn y=ζ\/X.env.scope.names.lookup y=ν .local)
  (F:∀acc env,gx e 0 g acc env (after acc env)) (hi:PI X g.target g.iter wi)
  (nV:∀a cl C s H ex,PG (ay X scope N' cl C s H ex) g.target (tg a)/\xb (ay X scope N' cl C s H ex) g.ifs (tt a)/\oh (ay X scope N' cl C s H ex) (after (.ref a) (ay X scope N' cl C s H ex).env) (ta a))
  (hs:∀x,aaO g.iter X.env x=pure x) :
  PS X (.Assign [.Name y pos'] e u6) (λD σ H=>wi σ H λJ H1=>∀a,H1 a=ξ->gI J (tg a) (tt a) (ta a) (λ_ H'=>D.nx (σ.set i (ν (.ref a))) H') (fU lk σ) (upd H1 a o)):=by
 intro μ s σ H D I h;rw[exec_Assign_Name_used _ _ _ _ xn,Iq];refine ZV (abE (ZV (ZV ?_)));obtain⟨cl,Fd,oM,uL⟩:=kg (env:=X.env) (scope:=scope) λx hx=>I.ok.has x (L.free x hx);refine bQ (wpAny_comprehension_free (use:=ν (assign (.Name y pos') X.env)) (Q:=λ_ s'=>SP X μ D .next s') Cj hs Fd L.kind L.names (bQ (hi μ s σ H _ I h) λv s1 h1=>bQ h1 λJN s2 h2=>?_)) λ_ s' q=>Z0 (Z0 q)
 refine nP (o:=λ_=>o) (Q:=λv H'=>D.nx (σ.set i (ν v)) H') (RR:=λacc C=>compPost (Ψ X.prog X.w) X.A X.xe (ν (assign (.Name y pos') X.env)) (λ_ s'=>SP X μ D .next s') acc C) L hc hA.ok F nV oM uL h2 λa H' C s' I' f mV q=>?_
 obtain⟨m,hm⟩:=mV;show aau _ _ (assign (.Name y pos') X.env (.ref a)) _ _ s';have ZP:∃o,s'.heap.get? C=ν o:=by obtain⟨o,_,_,ho,_⟩:=hm;exact{(o),ho}
 refine wpAny_assign_Name (rX I' hN hy hx (v:=.ref a) (u:=.ref a) rfl (λs4 I4 k4=>?_) hf);obtain⟨a4,XB,YM⟩:=k4;have ur:C≠a4:=by
  rcases YM with z|z
  ·rw[z];exact f.2.1
  ·exact(f.2.2.2.2.1 y a4 z).symm
 exact{m,hm.at' (λo e=>(XB.2 C ur).trans e),λh' Bz=>{_,H',I4.sameBut f Bz,q}}
end
end L2
namespace L2.Q
noncomputable def Wm:Option B->Option B
 |some (.own d)=>ν (.val η d)
 |some (.shl _ d)=>ν (.val η d)
 |b=>b
def cC (lk:List (Option Nat))(β:ba):ba:=lk.map λl=>match l with|some j=>(match β[j]? with|some b=>Wm b|none=>ξ)|none=>ξ
def RS:Option (Option B)->Bool
 |some (ν (.hand _))=>ζ
 |_=>η
def bP (lk:List (Option Nat))(β:ba)(own:Nat->List θ)(i:Nat):List θ:=match lk[i]? with
 |some (ν j)=>if RS β[j]?=ζ then own j else []
 |_=>[]
def fe:ba->ba->Prop
 |[],_=>True
 |some (.hand ok)::a,c=>c.head?=ν (ν (.hand ok))/\fe a c.tail
 |_::a,c=>fe a c.tail
theorem fe.get:∀{a c:ba} {i:Nat} {ok:List Int->Prop},fe a c->a[i]?=ν (ν (.hand ok))->c[i]?=ν (ν (.hand ok))
 |[],_,_,_,_,e=>by simp at e
 |x::a,c,0,ok,h,e=>by
  simp at e;subst e;rw[<- List.head?_eq_getElem?];exact h.1
 |x::a,c,i+1,ok,h,e=>by
  have h':fe a c.tail:=by
   cases x with
   |none=>exact h
   |some x=>cases x <;> first|exact h|exact h.2
  have:=fe.get (i:=i) h' (by simpa using e)
  rwa [List.getElem?_tail]at this
section
variable {P:Z6}{w:aam}{C:Cfg}{σ σ':St}{H H' H1:Hp}{β βi:ba}{own lJ:Nat->List θ}{lk:List (Option Nat)}{a:θ}
def cT {i:Nat}{c:θ}(h:c∈bP lk β own i):∃j,lk[i]?=ν (ν j)/\RS β[j]?=ζ/\c∈own j:=by
 unfold bP at h
 split at h
 ·next j e =>
  by_cases q:RS β[j]?=ζ
  ·rw[χ q]at h;exact{(j),e,q,h}
  ·rw[ω q]at h;cases h
 ·cases h
def bO:∀c,Wn (bP lk β own) c->Wn own c:=λc ⟨i,h⟩=>let ⟨j,_,_,h⟩:=cT h;{(j),h}
def jo {i j:Nat}{v:V}(h:lk[i]?=ν (ν j))(e:σ[j]?=ν (ν v)):(fU lk σ)[i]?=ν (ν v):=by
 unfold fU;rw[aah,h];simp only[Option.map_some];rw[e]
def jQ {i:Nat}{b:B}(h:(cC lk β)[i]?=ν (ν b)):∃j b',lk[i]?=ν (ν j)/\β[j]?=ν (ν b')/\Wm (ν b')=ν b:=by
 unfold cC at h;rw[aah]at h;cases q:lk[i]? with
 |none=>rw[q]at h;cases h
 |some l =>
  rw[q]at h;cases l with
  |none=>cases h
  |some j =>
   simp only[Option.map_some]at h;cases q2:β[j]? with
   |none=>rw[q2]at h;cases h
   |some b2 =>
    rw[q2]at h;simp only[Option.some.injEq]at h;cases b2 with
    |none=>cases h
    |some b'=>exact{(j),b',rfl,q2,h}
def cZ.enter (s:cZ P w C σ H β own)(ha:H a=ξ)(inj:∀(i i' j:Nat),lk[i]?=ν (ν j)->lk[i']?=ν (ν j)->i=i'):
  cZ P w (C.u λc=>c=a) (fU lk σ) (upd H a (.lst [])) (cC lk β) (bP lk β own):=by
 have sm:aB H (upd H a (.lst [])):=aB.new ha;have na:∀{i c},c∈own i->c≠a:=λ{i c} hc z=>(s.dm i c hc).1 (by rw[z];exact ha)
 have gr:∀k,∀c,jw (C.u λc=>c=a) (Wn (bP lk β own)) k c->jw C (Wn own) k c\/H c=ξ:=λk c z=>by
  rcases z with z|z
  ·exact .inl (.inl (oS bO k c z))
  ·exact .inr (by rw[z];exact ha)
 refine⟨by unfold cC fU;simp,λi y d e=>?_,λi d e=>?_,λi ok e=>?_,λi c h=>?_,λi i' c h1 h2=>?_,λi=>?_,s.kp.trans sm.kp,λc z e=>s.ju c z (sm.free e),λi y d e=>by
  obtain⟨j,b',e1,e2,e3⟩:=jQ e;cases b' <;> cases e3⟩
 ·obtain⟨j,b',e1,e2,e3⟩:=jQ e;cases b' with
  |val y' d' =>
   cases e3;obtain⟨v,h1,h2⟩:=s.val j y d e2;exact{v,jo e1 h1,(aE.grow (gr _) h2).same sm}
  |own d' =>
   cases e3;obtain⟨v,h1,h2,h3⟩:=s.ow j d e2;refine{v,jo e1 h1,aE.same sm (h2.rep λc hc z=>?_)};rcases z with z|z
   ·obtain⟨i',iY⟩:=z;obtain⟨j',q1,q2,q3⟩:=cT iY;have:=s.oP j j' c hc q3;subst this;rw[e2]at q2;cases q2
   ·exact na hc z
  |hand ok=>cases e3
  |shl y' d' =>
   cases e3;obtain⟨v,h1,h2,h3⟩:=s.shl j y' d e2;refine{v,jo e1 h1,aE.same sm (h2.rep (λc hc z=>?_) λds vs r=>ak.grow (λc z=>?_) r)}
   ·rcases z with z|z
    ·obtain⟨i',iY⟩:=z;obtain⟨j',q1,q2,q3⟩:=cT iY;have:=s.oP j j' c hc q3;subst this;rw[e2]at q2;cases q2
    ·exact na hc z
   ·rcases gr _ c z with z|z
    ·refine .inl ?_;rcases z with z|z
     ·exact .inl (.inl z)
     ·exact .inr z
    ·exact .inr z
 ·obtain⟨j,b',e1,e2,e3⟩:=jQ e;cases b' <;> cases e3
 ·obtain⟨j,b',e1,e2,e3⟩:=jQ e;cases b' with
  |val y' d'=>cases e3
  |own d'=>cases e3
  |shl y d=>cases e3
  |hand Cd =>
   cases e3;obtain⟨h,ns,h1,h2,h3,h4,h5⟩:=s.rC j ok e2;refine{h,ns,jo e1 h1,sm _ _ h2,h3,?_,h5};unfold bP;rw[e1];simp only;rw[e2];exact(χ rfl).trans h4
 ·obtain⟨j,q1,q2,q3⟩:=cT h;obtain⟨g1,g2,g3,g4⟩:=s.dm j c q3;rw[aD (na q3)];exact{g1,g2,g3,na q3}
 ·obtain⟨j,q1,q2,q3⟩:=cT h1;obtain⟨j',V4,Zw,XN⟩:=cT h2;have:=s.oP j j' c q3 XN;subst this;exact inj _ _ _ q1 V4
 ·unfold bP
  split
  ·next j e =>
   split
   ·exact s.qS j
   ·exact aa0
  ·exact aa0
def cZ.K7 {o:HO}(s:cZ P w (C.u λc=>c=a) σ H β own){oa:HO}(ha:H a=ν oa)(ht:∀xs,oa≠.tup xs)(h0:C.H0 a=ξ):cZ P w (C.u λc=>c=a) σ (upd H a o) β own:=by
 have k:Kp (·=a) H (upd H a o):=pZ ha ht;have na:∀{i c},c∈own i->c≠a:=λ{i c} hc=>(s.dm i c hc).2.2.2;refine⟨s.len,λi y d e=>let ⟨v,h1,h2⟩:=s.val i y d e;{v,h1,h2.keep (k.mono λc z=>.inr z)},λi d e=>let ⟨v,h1,h2,h3⟩:=s.ow i d e;{v,h1,h2.keep k.tup (λc hc oc ec=>k.out c oc ec (na hc)),h3},
  λi ok e=>?_,λi c h=>?_,s.oP,s.qS,{λc oc z n=>k.out c oc (s.kp.out c oc z n) λq=>?_,λc xs z=>k.tup c xs (s.kp.tup c xs z)},λc z=>?_,λi y d e=>let ⟨v,h1,h2,h3⟩:=s.shl i y d e;{v,h1,h2.map (λc hc oc ec=>k.out c oc ec (na hc)) (λ_ _ r=>r.keep (k.mono λc z=>.inr z)),h3}⟩
 ·obtain⟨h,ns,h1,h2,h3,h4,h5⟩:=s.rC i ok e;exact{h,ns,h1,k.out h _ h2 (na (by rw[h4];simp)),h3,h4,h5}
 ·rw[aD (na h)];exact s.dm i c h
 ·rw[q,h0]at z;cases z
 ·by_cases q:c=a
  ·rw[q,ar];exact λz=>(nomatch z)
  ·rw[aD q];exact s.ju c z
def cZ.leave (s:cZ P w C σ H1 β own)(i:cZ P w (C.u λc=>c=a) σ' H' βi lJ)(n:Sn (H1,Wn (bP lk β own)) H' (Wn lJ))(le:∀c,Wn lJ c->Wn (bP lk β own) c)
  (hh:fe (cC lk β) βi) (hσ:∀(j:Nat) (ok:List Int->Prop) (i:Nat),β[j]?=ν (ν (B.hand ok))->lk[i]?=ν (ν j)->σ'[i]?=(fU lk σ)[i]?):cZ P w C σ H' β own:=by
 have off:∀{j c},c∈own j->¬ Wn (bP lk β own) c->∀o,H1 c=ν o->H' c=ν o:=λ{j c} hc nw o e=>n.k.out c o e λz=>z.elim nw λz=>(s.dm j c hc).1 z;have Pw:∀{j c},c∈own j->RS β[j]?=η->¬ Wn (bP lk β own) c:=λ{j c} hc q yr=>by
  obtain⟨i',iY⟩:=yr;obtain⟨j',q1,q2,q3⟩:=cT iY;have:=s.oP j j' c hc q3;subst this;rw[q]at q2;cases q2
 have hN:∀(j:Nat) (ok:List Int->Prop),β[j]?=ν (ν (B.hand ok))->∃a ns,σ[j]?=ν (ν (V.ref a))/\H' a=ν (.lst (ns.map V.int))/\ok ns/\own j=[a]/\((∀b,¬ C.IO b)\/C.IO a):=λj ok e=>by
  obtain⟨h,ns,h1,h2,h3,h4,h5⟩:=s.rC j ok e
  by_cases q:Wn (bP lk β own) h
  ·obtain⟨i',iY⟩:=q;obtain⟨j',q1,q2,q3⟩:=cT iY;have:=s.oP j j' h (by rw[h4];simp) q3
   subst this;have eB:(cC lk β)[i']?=ν (ν (.hand ok)):=by
    unfold cC;rw[aah,q1];simp only[Option.map_some];rw[e];rfl
   obtain⟨h',jO,g1,g2,g3,g4,g5⟩:=i.rC i' ok (hh.get eB);rw[hσ j ok i' e q1,jo q1 h1]at g1;cases g1;exact{(h),jO,h1,g2,g3,h4,h5}
  ·exact{h,ns,h1,off (by rw[h4];simp) q _ h2,h3,h4,h5}
 refine⟨s.len,λj y d e=>?_,λj d e=>?_,hN,λj c hc=>?_,s.oP,s.qS,i.kp,i.ju,λj y d e=>by
  obtain⟨v,h1,h2,h3⟩:=s.shl j y d e;refine{v,h1,h2.map (λc hc o eo=>off hc (Pw hc (by rw[e];rfl)) o eo) (λds vs r=>?_),h3}
  have g:ak P w (λc=>jw C (Wn own) (yk ζ) c\/H1 c=ξ) H1 ds vs:=ak.grow (λc z=>z) r;refine ak.a_ (λc z=>.inl z) (g.keep (n.k.mono λc z=>z.imp (λz=>?_) id));exact .inl (.inl (bO c z))⟩
 ·obtain⟨v,h1,h2⟩:=s.val j y d e;have g:aE P w (λc=>jw C (Wn own) (yk y) c\/H1 c=ξ) H1 d v:=aE.grow (λc z=>z) h2;refine{v,h1,aE.a_ (λc z=>.inl z) (g.keep (n.k.mono λc z=>z.imp (λz=>?_) id))};cases y with
  |true=>exact .inl (.inl (bO c z))
  |false=>exact .inl (bO c z)
 ·obtain⟨v,h1,h2,h3⟩:=s.ow j d e;exact{v,h1,h2.keep n.k.tup (λc hc o eo=>off hc (Pw hc (by rw[e];rfl)) o eo),h3}
 ·obtain⟨g1,g2,g3,g4⟩:=s.dm j c hc
  by_cases q:Wn (bP lk β own) c
  ·obtain⟨i',iY⟩:=q;obtain⟨j',q1,q2,q3⟩:=cT iY;have:=s.oP j j' c hc q3;subst this;cases e:β[j]? with
   |none=>rw[e]at q2;cases q2
   |some b =>
    rw[e]at q2;cases b with
    |none=>cases q2
    |some b =>
     cases b with
     |val y d=>cases q2
     |own d=>cases q2
     |shl y d=>cases q2
     |hand ok =>
      obtain⟨h,ns,k1,k2,k3,k4,k5⟩:=hN j ok e;rw[k4]at hc;rw[ZY.mp hc]at g3 g4 ⊢
      rw[k2];exact{λz=>(nomatch z),λxs z=>(by cases z),g3,g4}
  ·cases e:H1 c with
   |none=>exact Η e g1
   |some o=>rw[off hc q o e];exact{λz=>(nomatch z),λxs z=>g2 xs (by rw[e];exact z),g3,g4}
end
def N7:a6:=λβ R=>R ζ β
def DB {X:Cx}{C:Cfg}:xb X [] (lq X C ζ N7):=G_.pre λσ H Q ⟨β,own,s,q⟩=>q H own (Out.refl s _)
def DA {X:Cx}{C:Cfg}{p:Bool}{c:Expr}{τ:a6}(h:xq X C p c τ):xb X [c] (lq X C p τ):=G9 h.pt
def lP (γ:dc)(τ:a6)(φ:aP)(ds:List D)(k:Kd)(β0:ba)(K:List D->Prop):Prop:=∃I:Nat->ba->List D->Prop,I 0 β0 [] /\
 (∀i d β o,ds[i]?=ν d->I i β o->γ d (sk k d) β λβ1=>τ β1 λt β2=>if t=ζ then φ β2 λx kx β3=>H9 kx x/\o.length<aak/\I (i+1) β3 (o++[x]) else I (i+1) β2 o)/\∀β o,I ds.length β o->fe β0 β/\K o
def lP.mono {γ:dc}{τ:a6}{φ:aP}{ds:List D}{k:Kd}{β0:ba}{K K':List D->Prop}(h:∀o,K o->K' o)(q:lP γ τ φ ds k β0 K):lP γ τ φ ds k β0 K':=let ⟨I,h0,h1,h2⟩:=q;{I,h0,h1,λβ o z=>{(h2 β o z).1,h _ (h2 β o z).2}}
section
variable {X:Cx}{C:Cfg}{lk:List (Option Nat)}{γ:dc}{τ:a6}{φ:aP}{T:List Nat}{pc pe:Bool}
def td {σ:St}{H1:Hp}{β:ba}{own:Nat->List θ}{a:θ}{J:It}{ds:List D}{k:Kd}{K:List D->Prop}{End:Hp->Prop}
  (γm:∀d k β R R',(∀r,R r->R' r)->γ d k β R->γ d k β R') (τm:∀β R R',(∀d β,R d β->R' d β)->τ β R->τ β R') (φm:∀β R R',(∀d k β,R d k β->R' d k β)->φ β R->φ β R')
  (inj:∀(i i' j:Nat),lk[i]?=ν (ν j)->lk[i']?=ν (ν j)->i=i') (hT:∀i∈T,∀j,lk[i]?≠ν (ν j))
  (s1:SQ X C σ H1 β own) (ha:H1 a=ξ) {hp:Bool} (Nz:hp=ζ->(pc&&pe)=ζ) (hk:hold k hp) (it:Cq X (av C (Wn own) k) J ds H1) (q:lP γ τ φ ds k (cC lk β) K)
  (fin:∀o H',K o->Out X C σ H1 own (pc&&pe) β H' own->KV X.prog X.w C (H1,Wn own) own H' .own (.lst o) (.ref a)->End H') :
  gI J (λv σ H Q=>∃own β d k,SQ X (C.u λc=>c=a) σ H β own/\Rp X (jw (C.u λc=>c=a) (Wn own) k) H d v/\γ d k β λβ'=>∀σ' aX,SQ X (C.u λc=>c=a) σ' H β' aX->(∀a,Wn aX a->Wn own a)->(∀j,j∉T->σ'[j]?=σ[j]?)->Q σ' H)
   (lq X (C.u λc=>c=a) pc τ) (λN σ H=>tQ X (C.u λc=>c=a) pe φ σ H λv H1=>∃xs,H1 a=ν (.lst xs)/\xs.length<aak/\N σ (upd H1 a (.lst (xs++[v]))))
   (λ_ H'=>End H') (fU lk σ) (upd H1 a (.lst [])):=by
 obtain⟨I,i0,i1,i2⟩:=q;have h0:C.H0 a=ξ:=aaz λz=>s1.ju a z ha;have sm:aB H1 (upd H1 a (.lst [])):=aB.new ha;have Wi:∀c,Wn (bP lk β own) c->c≠a:=λc z e=>by
  obtain⟨j,hj⟩:=bO c z;exact(s1.dm j c hj).1 (by rw[e];exact ha)
 let S:Nat->St->Hp->Prop:=λi σ' H'=>∃βi lJ vs o A,SQ X (C.u λc=>c=a) σ' H' βi lJ/\Sn (H1,Wn (bP lk β own)) H' (Wn lJ)/\(∀c,Wn lJ c->Wn (bP lk β own) c)/\H' a=ν (.lst vs)/\aT X.prog X.w H' o vs A/\A.Nodup/\(∀c∈A,H1 c=ξ/\c≠a) /\
  ((pc&&pe)=ζ->aB H1 H')/\(∀j,j∉T->σ'[j]?=(fU lk σ)[j]?)/\I i βi o
 have W':θ->Prop:=λb=>av C (Wn own) k b\/H1 b=ξ;have Nw:=it (λb=>av C (Wn own) k b\/H1 b=ξ) λb z=>z;have kI:∀{H':Hp} {lJ:Nat->List θ},Sn (H1,Wn (bP lk β own)) H' (Wn lJ)->((pc&&pe)=ζ->aB H1 H')->Kp (λb=>av C (Wn own) k b\/H1 b=ξ) H1 H':=λn pu=>by
  cases k with
  |own=>exact n.k.mono λb z=>z.imp (λz=>.inl (bO b z)) id
  |g9=>exact n.k.mono λb z=>z.imp (λz=>.inl (bO b z)) id
  |old=>exact n.k.mono λb z=>z.imp (bO b) id
  |bor =>
   cases hp with
   |false=>exact hk.elim
   |true=>exact(pu (Nz rfl)).kp.mono λb z=>.inr z
 refine{λi m σ' H'=>i<=ds.length/\m=ds.length-i/\S i σ' H',{_,aab _,rfl,cC lk β,bP lk β own,[],[],[],s1.enter ha inj,{λb z=>.inl z,sm.kp,λb z e=>z (sm.free e)},λ_ z=>z,ar,{(rfl),rfl},aa0,λc hc=>(nomatch hc),λ_=>sm,λ_ _=>rfl,i0},?_};rintro i m σ2 H2 ⟨hi,rfl,βi,lJ,vs,o,A,sq,sn,le,U_,os,nd,nw,pu,st,hl⟩;obtain⟨cw,kX⟩:=Nw i H2 (kI sn pu)
 by_cases gV:i<ds.length
 ·right
  have hd:ds[i]?=ν ds[i]:=Z4 gV;obtain⟨go,yl⟩:=cw _ hd;refine{go,λσ' H'=>S (i+1) σ' H',λσ' H' h=>{_,by omega,gV,rfl,h},λx H3 y=>?_}
  obtain⟨s3,r3⟩:=yl x H3 y;have Y9:∀{lJ:Nat->List θ},(∀c,Wn lJ c->Wn (bP lk β own) c)->∀c,jw (C.u λc=>c=a) (Wn lJ) k c->av C (Wn own) k c\/H1 c=ξ:=λle c z=>z.elim (λz=>.inl (oS (λc z=>bO c (le c z)) k c z)) λz=>.inr (by rw[z];exact ha)
  refine{lJ,βi,_,_,sq.same s3,tV (aE.a_ (Y9 le) r3),γm _ _ _ _ _ (λβ4 q σ4 vw s4 w4 t4=>?_) (i1 i _ βi o hd hl)};have TR:∀c,Wn vw c->Wn (bP lk β own) c:=λc z=>le c (w4 c z);refine{β4,vw,s4,τm _ _ _ (λt β5 q H5 rh o5=>?_) q};have RM:∀c,Wn rh c->Wn (bP lk β own) c:=λc z=>TR c (o5.le c z);have EH:∀c,c∈a::A->∀oc,H2 c=ν oc->H5 c=ν oc:=λc hc oc e=>by
   refine o5.sn.k.out c oc (s3 c oc e) λz=>?_;rcases z with z|z
   ·rcases Z1.mp hc with rfl|hc
    ·exact Wi _ (TR _ z) rfl
    ·obtain⟨j,hj⟩:=bO c (TR c z);exact(s1.dm j c hj).1 (nw c hc).1
   ·exact Η ((s3 c oc e).symm.trans z) (λz=>(nomatch z))
  have X5:∀b xs,H2 b=ν (.tup xs)->H5 b=ν (.tup xs):=λb xs e=>o5.sn.k.tup b xs (s3 b _ e);have Tw:aT X.prog X.w H5 o vs A:=os.keep X5 λc hc oc e=>EH c (by simp[hc]) oc e
  have SY:Sn (H1,Wn (bP lk β own)) H5 (Wn rh):=(lx (sn.same s3) w4).trans o5.sn;have V5:(pc&&pe)=ζ->aB H1 H5:=λz=>((pu z).trans s3).trans (o5.pu (Jf z)).1;have Of:∀j,j∉T->σ4[j]?=(fU lk σ)[j]?:=λj hj=>(t4 j hj).trans (st j hj);cases t with
  |false=>exact{β5,rh,vs,o,A,o5.sq,SY,RM,EH a (by simp) _ U_,Tw,nd,nw,V5,Of,q}
  |true =>
   refine{β5,rh,o5.sq,φm _ _ _ (λxd kx β6 iX v H6 Bh o6 r6=>?_) q};obtain⟨f,hz,q⟩:=iX;obtain⟨B',r1,r2,Te⟩:=r6.fl f;have QQ:H5 a=ν (.lst vs):=EH a (by simp) _ U_
   have JK:∀c,c∈a::A->∀oc,H5 c=ν oc->H6 c=ν oc:=λc hc oc e=>by
    refine o6.sn.k.out c oc e λz=>?_;rcases z with z|z
    ·rcases Z1.mp hc with rfl|hc
     ·exact Wi _ (RM _ z) rfl
     ·obtain⟨j,hj⟩:=bO c (RM c z);exact(s1.dm j c hj).1 (nw c hc).1
    ·exact Η (e.symm.trans z) (λz=>(nomatch z))
   have v7:H6 a=ν (.lst vs):=JK a (by simp) _ QQ
   have V8:aT X.prog X.w H6 o vs A:=Tw.keep o6.sn.k.tup λc hc oc e=>JK c (by simp[hc]) oc e
   have XU:∀c∈A,c≠a:=λc hc=>(nw c hc).2;have OT:∀c∈B',c≠a:=λc hc z=>by rw[z]at hc;exact Η (QQ.symm.trans (Te a hc).1) (λz=>(nomatch z))
   have kt:∀b xs,H6 b=ν (.tup xs)->upd H6 a (.lst (vs++[v])) b=ν (.tup xs):=λb xs z=>by rw[aD (λz'=>by rw[z',v7]at z;cases z)];exact z
   refine{vs,v7,by rw[V8.length];exact hz,β6,Bh,vs++[v],o++[xd],A++B',o6.sq.K7 v7 (λxs z=>by cases z) h0,?_,λc z=>RM c (o6.le c z),ar,?_,?_,λc hc=>?_,λz=>?_,Of,q}
   ·have m:=SY.trans o6.sn;refine{m.w,m.k.trans ((pZ v7 (λxs z=>by cases z)).mono λb z=>.inr (by rw[z];exact ha)),λb z e=>?_}
    by_cases hb:b=a
    ·rw[hb,ar]at e;cases e
    ·rw[aD hb]at e;exact m.d b z e
   ·exact(V8.keep kt λc hc oc e=>by rw[aD (XU c hc)];exact e).append (aT.one (r1.keep kt λc hc oc e=>by rw[aD (OT c hc)];exact e))
   ·refine aaY.mpr {nd,r2,λx hx y hy e=>?_};subst e;have:=(Te x hy).1;exact(Tw.qV x hx).1 this
   ·rcases Z9.mp hc with hc|hc
    ·exact nw c hc
    ·exact{SY.free (Te c hc).1,OT c hc}
   ·refine λb ob e=>?_;rw[aD (λz'=>by rw[z',ha]at e;cases e)]
    exact(o6.pu (Vy z)).1 b ob (V5 z b ob e)
 ·left
  have e:i=ds.length:=by omega
  subst e;obtain⟨hh,q⟩:=i2 βi o hl;have lv:SQ X C σ H2 β own:=s1.leave sq sn le hh λj ok i' e1 e2=>st i' λz=>hT i' z j e2;refine{kX (ZX _),fin o H2 q {lv,{λb z=>.inl z,sn.k.mono λb z=>z.imp (bO b) id,sn.d},λz=>{pu z,rfl},λ_ z=>z} {a::A,{(a),vs,A,rfl,U_,rfl,os},aaA.mpr {λz=>(nw a z).2 rfl,nd},λc hc=>?_}};have oM:H1 c=ξ:=by
   rcases Z1.mp hc with rfl|hc
   ·exact ha
   ·exact(nw c hc).1
  exact{oM,λEY=>by obtain⟨j,hj⟩:=EY;exact(s1.dm j c hj).1 oM,aaz λz=>s1.ju c z oM}
def bJ {scope:acn}{N':List Str}(L:Links X scope N' lk)(hN:N'.Nodup):∀(i i' j:Nat),lk[i]?=ν (ν j)->lk[i']?=ν (ν j)->i=i':=λi i' j h1 h2=>by
 obtain⟨x,a1,a2,_⟩:=L.link i j h1;obtain⟨y,b1,b2,_⟩:=L.link i' j h2;rw[a2]at b2;cases b2;exact(List.getElem?_inj (aaf.mp a1).1 hN).mp (a1.trans b1.symm)
def vi (lk:List (Option Nat))(ι:cf)(γ:dc)(τ:a6)(φ:aP):aP:=λβ R=>ι β λds k β1=>hold k η/\lP γ τ φ ds k (cC lk β1) λo=>R (.lst o) .own β1
variable {scope:acn}{N':List Str}{tg cw elt:Expr}{ifs:List Expr}{ι:cf}{pi:Bool}{pos pos' u6:Pos}{y:Str}{i:Nat}
def Jx (L:Links X scope N' lk)(oN:N'.Nodup)(hT:T.all (λi=>match lk[i]? with|some (ν _)=>η|_=>ζ)=ζ)(hc:X.calm=ζ)(hi:xr X C pi tg cw ι)
  (mY:∀a cl c s H ex,xf (ay X scope N' cl c s H ex) (C.u λc=>c=a) tg T γ) (i5:∀a cl c s H ex,xb (ay X scope N' cl c s H ex) ifs (lq (ay X scope N' cl c s H ex) (C.u λc=>c=a) pc τ)) (τm:∀β R R',(∀d β,R d β->R' d β)->τ β R->τ β R')
  (iP:∀a cl c s H ex,PQ (ay X scope N' cl c s H ex) (C.u λc=>c=a) pe elt φ) (γm:∀d k β R R',(∀r,R r->R' r)->γ d k β R->γ d k β R') (φm:∀β R R',(∀d k β,R d k β->R' d k β)->φ β R->φ β R')
  (hs:∀x,aaO cw X.env x=pure x:=by intro _;rfl):PQ X C (pi&&(pc&&pe)) (.ListComp elt [{tg,cw,ifs,0}] scope pos) (vi lk ι γ τ φ):=by
 have BD:∀i∈T,∀j,lk[i]?≠ν (ν j):=λi hi j e=>by
  have:=abP.mp hT i hi;rw[e]at this;cases this
 refine{λβ R R' k h=>hi.mono β _ _ (λds kd β1 q=>{q.1,q.2.mono λo z=>k _ _ _ z}) h,?_};refine(ji (g:={tg,cw,ifs,0}) (gs:=[]) (tg:=λa v σ H Q=>∃own β d k,SQ X (C.u λc=>c=a) σ H β own/\Rp X (jw (C.u λc=>c=a) (Wn own) k) H d v/\γ d k β λβ'=>∀σ' aX,SQ X (C.u λc=>c=a) σ' H β' aX->(∀a,Wn aX a->Wn own a)->(∀j,j∉T->σ'[j]?=σ[j]?)->Q σ' H)
  (tt:=λa=>lq X (C.u λc=>c=a) pc τ) (ta:=λa N σ H=>tQ X (C.u λc=>c=a) pe φ σ H λv H1=>∃xs,H1 a=ν (.lst xs)/\xs.length<aak/\N σ (upd H1 a (.lst (xs++[v]))))
  L hc pT rfl rfl (λ_ _=>Ka) hi.pi (λa cl c s H ex=>{(mY a cl c s H ex).pg,i5 a cl c s H ex,pL rfl (iP a cl c s H ex).pe}) hs).pre λσ H Q ⟨β,own,s,h⟩=>?_
 refine{β,own,s,hi.mono β _ _ (λds k β1 mV J H1 aH o1 it a ha=>?_) h};obtain⟨hk,q⟩:=mV;exact td γm τm φm (bJ L oN) BD o1.sq ha (hp:=η) (λz=>by cases z) hk it q λo H' q o2 r=>q _ _ aH (o1.trans o2) (r.later o1.sn)
def OD {K:D->ba->de->Prop}(L:Links X scope N' lk)(oN:N'.Nodup)(hT:T.all (λi=>match lk[i]? with|some (ν _)=>η|_=>ζ)=ζ)(hc:X.calm=ζ)(hi:∀U,xr X (C.u U) pi tg cw ι)
  (mY:∀U cl c s H ex,xf (ay X scope N' cl c s H ex) (C.u U) tg T γ) (i5:∀U cl c s H ex,xb (ay X scope N' cl c s H ex) ifs (lq (ay X scope N' cl c s H ex) (C.u U) pc τ)) (τm:∀β R R',(∀d β,R d β->R' d β)->τ β R->τ β R')
  (iP:∀U cl c s H ex,PQ (ay X scope N' cl c s H ex) (C.u U) pe elt φ) (γm:∀d k β R R',(∀r,R r->R' r)->γ d k β R->γ d k β R') (φm:∀β R R',(∀d k β,R d k β->R' d k β)->φ β R->φ β R') (o:Bool)
  (hN:X.N.Nodup) (hy:X.N[i]?=ν y:=by rfl) (hx:Loc X.env.scope y:=by first|exact .inl rfl|exact .inr rfl) (hf:X.fn y=ζ\/X.env.scope.names.lookup y=ν .local:=by first|exact .inl rfl|exact .inr rfl|assumption)
  (xn:ab4 (.ListComp elt [{tg,cw,ifs,0}] scope pos) (ν (.Name y pos')) u6.line X.env=pure ζ:=by rfl)
  (Iq:evalThenUse (.ListComp elt [{tg,cw,ifs,0}] scope pos) X.env (assign (.Name y pos') X.env)=(do let _ <- comprehension (.ListComp elt [{tg,cw,ifs,0}] scope pos) scope X.env (firstIterPos [{tg,cw,ifs,0}] pos) (newList []) η (eval cw X.env) (ν (assign (.Name y pos') X.env));pure ()):=by first|rfl|exact arm_evalThenUse_ListComp ..)
  (hs:∀x,aaO cw X.env x=pure x:=by intro _;rfl) :
  PB X C (.Assign [.Name y pos'] (.ListComp elt [{tg,cw,ifs,0}] scope pos) u6) (λE β=>vi lk ι γ τ φ β λd _ β'=>E.nx (β'.set i (ν (match o with|true=>.own d|false=>.val ζ d)))):=by
 have BD:∀i∈T,∀j,lk[i]?≠ν (ν j):=λi hi j e=>by
  have:=abP.mp hT i hi;rw[e]at this;cases this
 refine{λE E' β l h=>(hi λ_=>False).mono β _ _ (λds kd β1 q=>{q.1,q.2.mono λo z=>l.nx _ z}) h,λμ s σ H D I0 vV=>?_};obtain⟨Z,E,β,⟨own,sq,n⟩,h,ok⟩:=vV;refine Dy (g:={tg,cw,ifs,0}) (gs:=[]) (tg:=λa v σ H Q=>∃own β d k,SQ X (C.u λc=>c=a) σ H β own/\Rp X (jw (C.u λc=>c=a) (Wn own) k) H d v/\γ d k β λβ'=>∀σ' aX,SQ X (C.u λc=>c=a) σ' H β' aX->(∀a,Wn aX a->Wn own a)->(∀j,j∉T->σ'[j]?=σ[j]?)->Q σ' H)
  (tt:=λa=>lq X (C.u λc=>c=a) pc τ) (ta:=λa N σ H=>tQ X (C.u λc=>c=a) pe φ σ H λv H1=>∃xs,H1 a=ν (.lst xs)/\xs.length<aak/\N σ (upd H1 a (.lst (xs++[v]))))
  L hc pT xn Iq rfl hN hy hx hf (λ_ _=>Ka) (hi λa=>H a=ξ).pi (λa cl c s H ex=>{(mY _ cl c s H ex).pg,i5 _ cl c s H ex,pL rfl (iP _ cl c s H ex).pe}) hs μ s σ H D I0 ?_
 refine{β,own,sq.uS (C:=C.z) (U:=λa=>H a=ξ) λa z=>z,(hi λ_=>False).mono β _ _ (λds k β1 Ub J H1 aH o1 it a ha=>?_) h};obtain⟨hk,q⟩:=Ub;refine td (C:=C.u λa=>H a=ξ) γm τm φm (bJ L oN) BD o1.sq ha (hp:=η) (λz=>by cases z) hk it q λol H' q o2 r=>?_
 have r':=r.later o1.sn;have oo:=o1.trans o2;have m:=n.trans oo.sn;cases o with
 |false=>exact ok.nx _ _ _ {_,(cZ.XT oo.sq).gy (aE.a_ (λa z=>z.elim id λz=>z.elim) (KV.rep r')),tT m} q
 |true =>
  obtain⟨A,h1,h2,h3⟩:=r';refine ok.nx _ _ _ {_,oo.sq.Dd h1 h2 λc hc=>{(h3 c hc).2.2,(h3 c hc).2.1,(h3 c hc).1},?_} q;exact⟨λb yv=>by
   obtain⟨j,hj⟩:=yv
   by_cases aL:i=j
   ·rw[<- aL,os_eq]at hj;exact .inr (n.free (h3 b hj).1)
   ·rw[b7 aL]at hj;exact m.w b {(j),hj},m.k,m.d⟩
end
end L2.Q
namespace L2
def bL {lo:Int}{n i:Nat}{d:D}(h:(nS lo n)[i]?=ν d):i<n/\d=.int (lo+i):=by
 unfold nS at h;rw[aah]at h;have hi:i<n:=by
  by_cases hi:i<n
  ·exact hi
  ·rw[abq (by simpa using hi)]at h;cases h
 rw[abI hi]at h;cases h;exact{(hi),rfl}
def b5 {lo:Int}{n:Nat}:(nS lo n).length=n:=by unfold nS;simp
structure Df (K:Ξ)(mg:Str->Option ZW)(x:Str)(st:Stmt)(ps:List Str)(f:θ)(fd:aaI):Prop where
 F:GC K x x st f fd
 b:Binds K fd ps []
 m:mg x=ν (.ref f)
structure Bs (mg:Str->Option ZW):Prop where
 max:mg "max" = ξ
 min:mg "min" = ξ
 int:mg "int" = ξ
 range:mg "range" = ξ
 sorted:mg "sorted" = ξ
 set:mg "set" = ξ
 len:mg "len" = ξ
 list:mg "list" = ξ
def yP:abi "set" = ν (.type "set"):=by decide +kernel
def dU.g_ {k:Nat}{A:aaX}(r:dU k A):A.units+64+1<abQ:=by have:=r.un;lia
def dU.lb {k:Nat}{A:aaX}(r:dU k A):A.units+16<abQ:=by have:=r.un;lia
def Rc (n:Int)(t:List Int):Prop:=∃a b,t=[a,b]/\0<=a/\a<b/\b<n
def Rc.ne {n:Int}{t:List Int}(h:Rc n t):t≠[]:=by
 obtain⟨a,b,rfl,_⟩:=h;intro z;cases z
def bV (n:Int)(ts:List (List Int)):Prop:=∀t∈ts,Rc n t
def bV.ne {n:Int}{ts:List (List Int)}(h:bV n ts):∀k∈ts,k≠[]:=λk hk=>(h k hk).ne
def bV.nil {n:Int}:bV n []:=λ_ z=>(nomatch z)
def bV.app {n:Int}{ts us:List (List Int)}(h:bV n ts)(h':bV n us):bV n (ts++us):=λt ht=>(Z9.mp ht).elim (h t) (h' t)
def bV.one {n:Int}{a b:Int}(h1:0<=a)(h2:a<b)(h3:b<n):bV n [[a,b]]:=λt ht=>by
 rw[ZY.mp ht];exact{(a),b,rfl,h1,h2,h3}
def fY (ts:List (List Int)):D.ck (ts.map kD)=ζ:=by
 have fi:∀k:List Int,D.ck (k.map D.int)=ζ:=λk=>by
  induction k with
  |nil=>rfl
  |cons i k ih=>show (D.flat (.int i)&&D.ck (k.map D.int))=ζ;rw[ih];rfl
 induction ts with
 |nil=>rfl
 |cons t ts ih =>
  show (D.flat (kD t)&&D.ck (ts.map kD))=ζ;rw[ih];show (D.ck (t.map D.int)&&ζ)=ζ;rw[fi];rfl
def xJ {ts:List (List Int)}(h:∀k∈ts,k≠[])(l:ts.length<=1000000):(match [D.lst (ts.map kD)]with | [.lst ds]=>uB [.lst ds]|_=>ξ)=ν (.lst ((iL ts).map kD)):=by
 show (match gk (ts.map kD)with|some ks=>if ks.length<=1000000 then ν (D.lst ((iL ks).map kD)) else ξ|none=>ξ)=_
 rw[mQ h];show (if ts.length<=1000000 then ν (D.lst ((iL ts).map kD)) else ξ)=_
 rw[χ l]
def CW {n:Int}{ts:List (List Int)}(h:bV n ts):bV n (iL ts):=λt ht=>h t ((dw ts).mem_iff.mp ht)
def Dc {ts:List (List Int)}(h:∀k∈ts,k≠[])(l:ts.length<1000):J7 [.lst (ts.map kD)]=ν (.sT (kY ts)):=by
 show (match gk (ts.map kD)with|some ks=>if ks.length<1000 then ν (D.sT (kY ks)) else ξ|none=>ξ)=_
 rw[mQ h];show (if ts.length<1000 then ν (D.sT (kY ts)) else ξ)=_
 rw[χ l]
def o7 {ts:List (List Int)}(h:∀k∈ts,k≠[])(l:ts.length<1000):(match [D.sT (kY ts)]with | [.sT ts]=>uB [.sT ts]|_=>ξ)=ν (.lst ((iL (kY ts)).map kD)):=by
 show (if (kY ts).length<=1000/\(∀k∈kY ts,k≠[]) then ν (D.lst ((iL (kY ts)).map kD)) else ξ)=_
 rw[χ {by have:=Ao ts;lia,λk hk=>h k (((dQ ts).2 k).mp hk)}]
def wF:FD:=λds R=>∃n:Int,ds=[.int n]/\0<=n/\n<=1000/\∀ts:List (List Int),ts.length<=n.toNat->bV n ts->R (.lst (ts.map kD))
def wF.mono:c0 wF:=λds R R' k ⟨n,e,h1,h2,q⟩=>{n,e,h1,h2,λts a b=>k _ (q ts a b)}
def Drawn (n:Int)(ts:List (List Int)):Prop:=ts.length<=300/\bV n ts/\w9 ts/\ts.Nodup
def wz:FD:=λds R=>∃n:Int,ds=[.int n]/\2<=n/\n<=40/\∀ts,Drawn n ts->R (.lst (ts.map kD))
def wz.mono:c0 wz:=λds R R' k ⟨n,e,h1,h2,q⟩=>{n,e,h1,h2,λts a=>k _ (q ts a)}
def BI:FD:=λds R=>ds=[]/\∀(n:Int) ts,0<=n->n<=40->Drawn n ts->R (.tup [.int n,.lst (ts.map kD)])
def BI.mono:c0 BI:=λds R R' k ⟨e,q⟩=>{e,λn ts a b c=>k _ (q n ts a b c)}
def FN {n:Int}{ks:List (List Int)}(h:bV n ks):∃ts,cutD ((iL (kY ks)).map kD) ξ (ν 300)=ts.map kD/\Drawn n ts:=by
 refine{(iL (kY ks)).take (min 300 (iL (kY ks)).length),?_,?_,?_,?_,?_}
 ·unfold cutD;rw[HT.pz,show (ν (300:Int))=ν ((300:Nat):Int) from rfl,HT.tZ,List.drop_zero,<- ab7]
  simp
 ·rw[aaw];lia
 ·exact λt ht=>h t (((dQ ks).2 t).mp ((dw _).mem_iff.mp (abf ht)))
 ·exact List.Pairwise.take (i8 _)
 ·exact List.Nodup.sublist (acL _ _) ((dw _).nodup_iff.mpr (dQ ks).1)
def oz {fs:List (List Int)}{t:List Int}:(fs++[t]).map kD=fs.map kD++[kD t]:=by simp
def C4 {fs:List Int}{t:Int}:(fs++[t]).map D.int=fs.map D.int++[D.int t]:=by simp
def gF {a b:D}:[a,b].length<=aak:=by show 2<=aak;decide
def SS {a b c:D}:[a,b,c].length<=aak:=by show 3<=aak;decide
def CS {a:D}:[a].length<=aak:=by show 1<=aak;decide
def qT {b:Bool}{p q:Prop}(hb:b=ζ)(h:p):(if b=ζ then p else q):=by rw[χ hb];exact h
def gB {b:Bool}{p q:Prop}(hb:b=η)(h:q):(if b=ζ then p else q):=by rw[hb,ω (by simp)];exact h
def qc {c:Prop}[Decidable c]{p q:Prop}(h1:c->p)(h2:¬ c->q):(if decide c=ζ then p else q):=by
 by_cases h:c
 ·exact qT (by simp[h]) (h1 h)
 ·exact gB (by simp[h]) (h2 h)
def RT {c:Prop}[Decidable c]{p q:Prop}(h1:¬ c->p)(h2:c->q):(if (!decide c)=ζ then p else q):=by
 by_cases h:c
 ·exact gB (by simp[h]) (h2 h)
 ·exact qT (by simp[h]) (h1 h)
theorem fv {α:Type}(f:α->D):∀l:List α,D.i3 (l.map f)=l.map λa=>(f a).pd
 |[]=>rfl
 |a::l=>by
  show (f a).pd::D.i3 (l.map f)=_;rw[fv f l];rfl
theorem nh {n:Nat}:∀{xs:List PyData},(∀x∈xs,x.canLay0=ζ/\x.depth<=n)->ab9 xs=ζ/\abh xs<=n
 |[],_=>{by simp[ab9],by simp[abh]}
 |x::xs,h=>by
  obtain⟨h1,h2⟩:=nh (n:=n) (xs:=xs) λy hy=>h y (by simp[hy])
  obtain⟨g1,g2⟩:=h x (by simp)
  refine{by simp[ab9,h1,g1],?_}
  simp only[abh];lia
def mw {n:Nat}{ds:List D}(h:∀d∈ds,d.pd.canLay0=ζ/\d.pd.depth<=n):(D.tup ds).pd.canLay0=ζ/\(D.tup ds).pd.depth<=n+1:=by
 have e:D.i3 ds=ds.map λd=>d.pd:=by
  have:=fv (λd:D=>d) ds;simpa using this
 obtain⟨h1,h2⟩:=nh (n:=n) (xs:=D.i3 ds) λx hx=>by
  rw[e]at hx;obtain⟨d,hd,rfl⟩:=Z2.mp hx;exact h d hd
 refine{by simpa[D.pd,abr] using h1,?_}
 have:(D.tup ds).pd.depth=abh (D.i3 ds)+1:=by simp[D.pd,acJ]
 lia
def jC {n:Nat}{ds:List D}(h:∀d∈ds,d.pd.canLay0=ζ/\d.pd.depth<=n):(D.lst ds).pd.canLay0=ζ/\(D.lst ds).pd.depth<=n+1:=by
 have e:D.i3 ds=ds.map λd=>d.pd:=by
  have:=fv (λd:D=>d) ds;simpa using this
 obtain⟨h1,h2⟩:=nh (n:=n) (xs:=D.i3 ds) λx hx=>by
  rw[e]at hx;obtain⟨d,hd,rfl⟩:=Z2.mp hx;exact h d hd
 refine{by simpa[D.pd,abr] using h1,?_}
 have:(D.lst ds).pd.depth=abh (D.i3 ds)+1:=by simp[D.pd,acJ]
 lia
def bh (i:Int):(D.int i).pd.canLay0=ζ/\(D.int i).pd.depth<=1:={by simp[D.pd,abr],by simp[D.pd,acJ]}
def o9 (t:List Int):(kD t).pd.canLay0=ζ/\(kD t).pd.depth<=2:=mw λd hd=>by
 obtain⟨i,_,rfl⟩:=Z2.mp hd;exact bh i
def hE (ts:List (List Int)):(D.lst (ts.map kD)).pd.canLay0=ζ/\(D.lst (ts.map kD)).pd.depth<=3:=jC λd hd=>by
 obtain⟨i,_,rfl⟩:=Z2.mp hd;exact o9 i
def dZ (ts:List Int):(D.lst (ts.map D.int)).pd.canLay0=ζ/\(D.lst (ts.map D.int)).pd.depth<=2:=jC λd hd=>by
 obtain⟨i,_,rfl⟩:=Z2.mp hd;exact bh i
def cA {d:D}{n:Nat}(h:d.pd.canLay0=ζ/\d.pd.depth<=n)(hn:n<=64:=by decide):d.rd=ζ:=by
 show (d.pd.canLay0&&decide (d.pd.depth<=64))=ζ;rw[h.1,Γ (by lia)]
 rfl
theorem iA {α:Type}[DecidableEq α]{f:α->PyData}(hf:∀a b,aa_ (f a) (f b)=decide (a=b)):∀xs ys:List α,adx (xs.map f) (ys.map f)=decide (xs=ys)
 |[],[]=>by simp[adx]
 |[],_::_=>by simp[adx]
 |_::_,[]=>by simp[adx]
 |x::xs,y::ys=>by
  simp only[aap,adx];rw[hf,iA hf xs ys]
  by_cases h1:x=y
  ·by_cases h2:xs=ys <;> simp[h1,h2]
  ·simp[h1]
def jT (i j:Int):aa_ (D.int i).pd (D.int j).pd=decide (i=j):=by
 simp only[D.pd,aa_]
 by_cases h:i=j <;> simp[h]
def Fy (t u:List Int):aa_ (kD t).pd (kD u).pd=decide (t=u):=by
 show aa_ (.tuple (D.i3 (t.map D.int))) (.tuple (D.i3 (u.map D.int)))=_;rw[fv,fv];simp only[aa_];exact iA jT t u
def Fx (ts us:List (List Int)):aa_ (D.lst (ts.map kD)).pd (D.lst (us.map kD)).pd=decide (ts=us):=by
 show aa_ (.list (D.i3 (ts.map kD))) (.list (D.i3 (us.map kD)))=_;rw[fv,fv];simp only[aa_];exact iA Fy ts us
def Fz (ts us:List Int):aa_ (D.lst (ts.map D.int)).pd (D.lst (us.map D.int)).pd=decide (ts=us):=by
 show aa_ (.list (D.i3 (ts.map D.int))) (.list (D.i3 (us.map D.int)))=_;rw[fv,fv];simp only[aa_];exact iA jT ts us
def FX {a b:D}{c:Bool}(h1:a.rd=ζ)(h2:b.rd=ζ)(e:aa_ a.pd b.pd=c):NQ a b=ν (.bl c):=by
 unfold NQ;rw[χ {(h1),h2},e]
def yJ {a b:D}{c:Bool}(h1:a.rd=ζ)(h2:b.rd=ζ)(e:aa_ a.pd b.pd=c):BK a b=ν (.bl (!c)):=by
 unfold BK;rw[χ {(h1),h2},e]
def cW (i j:Int):NQ (.int i) (.int j)=ν (.bl (decide (i=j))):=FX (cA (bh i)) (cA (bh j)) (jT i j)
def FP (ts us:List (List Int)):BK (.lst (ts.map kD)) (.lst (us.map kD))=ν (.bl (!decide (ts=us))):=yJ (cA (hE ts)) (cA (hE us)) (Fx ts us)
def FQ (ts us:List Int):BK (.lst (ts.map D.int)) (.lst (us.map D.int))=ν (.bl (!decide (ts=us))):=yJ (cA (dZ ts)) (cA (dZ us)) (Fz ts us)
theorem any_map {α:Type}[DecidableEq α]{f:α->D}(hf:∀a b,aa_ (f a).pd (f b).pd=decide (a=b))(t:α):∀xs:List α,((D.i3 (xs.map f)).any λy=>aa_ y (f t).pd)=decide (t∈xs)
 |[]=>rfl
 |x::xs=>by
  show (aa_ (f x).pd (f t).pd || (D.i3 (xs.map f)).any λy=>aa_ y (f t).pd)=_
  rw[any_map hf t xs,hf]
  by_cases h:x=t
  ·simp[h]
  ·have h':¬ t=x:=λz=>h z.symm;simp[h,h']
def FW (t:List Int)(ts:List (List Int)):BL (kD t) (.lst (ts.map kD))=ν (decide (t∈ts)):=by
 show (if (kD t).rd=ζ/\(D.lst (ts.map kD)).rd=ζ then ν _ else ξ)=_
 rw[χ {cA (o9 t),cA (hE ts)},any_map Fy];exact Ι ν (decide_eq_decide.mpr Iff.rfl)
def As (i:Int)(t:List Int):BL (.int i) (kD t)=ν (decide (i∈t)):=by
 show (if (D.int i).rd=ζ/\(D.tup (t.map D.int)).rd=ζ then ν _ else ξ)=_
 rw[χ {cA (bh i),cA (o9 t)},any_map jT]
def yI (t:List Int)(ts:List (List Int)):iB (kD t) (.lst (ts.map kD))=ν (.bl (!decide (t∈ts))):=by unfold iB;rw[FW];rfl
def FU (i:Int)(t:List Int):Q0 (.int i) (kD t)=ν (.bl (decide (i∈t))):=by unfold Q0;rw[As];rfl
def s_ (i:Int)(t:List Int):iB (.int i) (kD t)=ν (.bl (!decide (i∈t))):=by unfold iB;rw[As];rfl
def Vx {α:Type}{ds:List α}{i:Nat}{d:α}(h:ds[i]?=ν d):uH ds (i:Int)=ν d:=by
 have hl:i<ds.length:=(aaf.mp h).1;unfold uH Gp;rw[χ (by lia),χ (by lia),abb]
 exact h
def F7 {α:Type}{ds:List α}{i:Int}(h0:0<=i)(h1:i<ds.length):∃d∈ds,uH ds i=ν d/\ds[i.toNat]?=ν d:=by
 have hl:i.toNat<ds.length:=by lia
 refine{ds[i.toNat],abO hl,?_,Z4 hl};have:=Vx (ds:=ds) (i:=i.toNat) (Z4 hl)
 rwa [show ((i.toNat:Nat):Int)=i by lia]at this
def Ar {ds:List D}{i:Nat}{d:D}(h:ds[i]?=ν d):xp (.lst ds) (.int (i:Int))=ν d:=Vx h
def pick {ds:List D}{r:Int}{p:D->Prop}(h0:0<=r)(h1:r<ds.length)(h:∀d∈ds,p d):∃d,xp (.lst ds) (.int r)=ν d/\p d:=by
 obtain⟨d,hd,e,_⟩:=F7 h0 h1;exact{d,e,h d hd}
def wM {ks:List Int}{i:Int}(h0:0<=i)(h1:i<ks.length):∃r∈ks,xp (.lst (ks.map D.int)) (.int i)=ν (.int r):=by
 obtain⟨r,hr,e,e'⟩:=F7 h0 h1;refine{r,hr,?_};show uH (ks.map D.int) i=_;have:=Vx (ds:=ks.map D.int) (i:=i.toNat) (d:=.int r) (by rw[aah,e'];rfl)
 rwa [show ((i.toNat:Nat):Int)=i by lia]at this
end L2
namespace HT
theorem lX {α β:Type}{f g:α->Option β}:∀{l:List α},(∀x∈l,f x=g x)->l.filterMap f=l.filterMap g
 |[],_=>rfl
 |x::l,h=>by
  rw[aa1,aa1,h x (by simp),lX λy hy=>h y (by simp[hy])]
def vg {α:Type}(xs:List α):((Z_ xs.length).filterMap λk=>xs[xs.length-1-k]?)=xs.reverse:=by
 have h:=pick_run xs.reverse.toArray 0 xs.length;rw[List.filterMap_map]at h;have e:((Z_ xs.length).filterMap λk=>xs[xs.length-1-k]?)=(Z_ xs.length).filterMap ((λx=>xs.reverse.toArray[x]?) ∘ λx=>0+x):=by
  refine lX λk hk=>?_;have MP:=aax.mp hk;show _=xs.reverse.toArray[0+k]?;rw[List.getElem?_toArray,abj,List.getElem?_reverse MP]
 rw[e,h];simp only[List.drop_zero];exact aa8 (by simp)
def j7 (items:Array ZW):slicePick items ξ ξ (ν (-1))=items.toList.reverse.toArray:=by
 have e:(sliceRange (abV ξ ξ (ν (-1)) items.size).1 (abV ξ ξ (ν (-1)) items.size).2.1 (abV ξ ξ (ν (-1)) items.size).2.2)=(Z_ items.size).map λk=>items.size-1-k:=by
  show sliceRange ((items.size:Int)-1) (-1) (-1)=_;unfold sliceRange;have c:(if (-1:Int)>0 then (if (items.size:Int)-1 < -1 then ((-1)-((items.size:Int)-1)+-1-1) / -1 else 0) else (if (items.size:Int)-1 > -1 then ((items.size:Int)-1-(-1)-(-1)-1) / (-(-1)) else 0)).toNat=items.size:=by
   rw[ω (by lia)]
   split
   ·rw[show (-(-1):Int)=1 by rfl,Int.ediv_one];lia
   ·lia
  simp only[c];refine aaN λk hk=>?_;have:=aax.mp hk;lia
 unfold slicePick;rw[e,List.filterMap_map]
 congr 1
 have:=vg items.toList;rw[Z5]at this;rw[<- this];refine lX λk hk=>?_;show items[items.size-1-k]?=_;rw[aan]
section
variable {prog:Z6}{w:aam}{A:aaX}{E:ZW->ZZ->Prop}{s:ZZ}
def mx {sl:θ}{n:Nat}{t:Tok}{Q:Int×Int×Nat->ZZ->Prop}(hs:s.heap.IsSliceOf sl .none .none (.int (-1) t))
  (h:Q ((n:Int)-1,-1,n) s):aau (Ψ prog w) A (Builtin.Slice.sliceApplied (.ref sl) (pure (n:Int))) Q E s:=by
 obtain⟨os,Qx,MR,NG⟩:=id hs;unfold Builtin.Slice.sliceApplied Builtin.Slice.sliceFields;refine ZV (ZV (wpAny_field Qx NG (x:=.none) rfl (ZV (wpAny_field Qx NG (x:=.none) rfl (ZV (wpAny_field Qx NG (x:=.int (-1) t) rfl (Z0 ?_)))))));refine ZV (slicePart_int ?_);show aau _ _ (if ((-1:Int)==0)=ζ then _ else _) _ _ s
 rw[ω (by decide)]
 refine ZV (slicePart_none (ZV (slicePart_none (ZV (Z0 ?_)))));show aau _ _ (match adj ξ ξ (-1) (n:Int)with|(lo,hi)=>pure (lo,(-1:Int),acp lo hi (-1))) _ _ s
 have e1:adj ξ ξ (-1) (n:Int)=((n:Int)-1,-1):=by
  unfold adj;simp
 rw[e1];show aau _ _ (pure ((n:Int)-1,(-1:Int),acp ((n:Int)-1) (-1) (-1))) _ _ s;have e2:acp ((n:Int)-1) (-1) (-1)=n:=by
  unfold acp;rw[ω (by lia)]
  split
  ·simp
  ·lia
 rw[e2];exact Z0 h
def lV {t sl:θ}{items:Array ZW}{tk:Tok}{Q:ZW->ZZ->Prop}(ht:IsTup s.heap t items)(hs:s.heap.IsSliceOf sl .none .none (.int (-1) tk))
  (h:Q (.ref s.heap.objs.size) {s with heap:=s.heap.push {cls:=.type "tuple",data:=.seq items.toList.reverse.toArray}})
  (hsz:items.size<=aak):aau (Ψ prog w) A (getItem (.ref t) (.ref sl)) Q E s:=by
 have z5:sizeOk (.seq items.toList.reverse.toArray):=by
  show items.toList.reverse.toArray.size<=aak;rw[aas,abU,Z5];exact hsz
 obtain⟨os,Qx,MR,NG⟩:=id hs;have YN:s.TypeIs (.ref sl) "slice" := {(os),Qx,MR};unfold getItem
 try with_reducible refine aa2 ?_
 first|refine ZV (Z0 ?_)|skip
 refine ZV (wpAny_sequenceKey ht.typeIs (by decide) ?_)
 refine ZV (adD (name:=Str.ofString "__getitem__") ht.typeIs acP
  (abv acP ht.typeIs entry_tuple_getitem ?_ (args_tuple_getitem _ _)))
 show aau _ _ (Builtin.Tuple.tupleItemsOf (.ref t) >>= _) _ _ s;refine ZV (tupleItemsOf_ ht ?_);refine ZV (wpAny_typeOf YN ?_);rw[χ (by decide)]
 refine ZV (mx hs ?_);show aau _ _ (if (((items.size:Int)-1)==0&&(-1:Int)==1&&items.size==items.size)=ζ then _ else _) _ _ s
 rw[ω (by simp)]
 have ep:((Z_ items.size).filterMap λ(m:Nat)=>items[(((items.size:Int)-1)+(m:Int)*(-1)).toNat]?).toArray=items.toList.reverse.toArray:=by
  congr 1
  have:=vg items.toList;rw[Z5]at this;rw[<- this];refine lX λk hk=>?_;have MP:=aax.mp hk;rw[aan,show (((items.size:Int)-1)+(k:Int)*(-1)).toNat=items.size-1-k by lia]
 rw[ep]
 first
  |exact ZV (m:=acy _) (abe (Z0 ⟨_,rfl,Z0 h⟩) z5)
  |exact ZV (m:=acy _) (abe (ZV (Z0 (Z0 ⟨_,rfl,Z0 h⟩))) z5)
  |exact ZV (ZV (m:=acy _) (abe (Z0 (Z0 ⟨_,rfl,Z0 h⟩)) z5))
  |exact ZV (ZV (m:=acy _) (abe (Z0 ⟨_,rfl,Z0 h⟩) z5))
end
end HT
namespace L2
def Vt:D->Option D
 |.lst ds=>ν (.lst ds.reverse)
 |.tup ds=>ν (.tup ds.reverse)
 |_=>ξ
theorem ak.rev {P:Z6}{w:aam}{W:θ->Prop}{H:Hp}:∀{ds:List D} {vs:List V},ak P w W H ds vs->ak P w W H ds.reverse vs.reverse
 |[],_,h=>by rw[show _=[] from h];rfl
 |d::ds,_,⟨v,r,e,h1,h2⟩=>by
  subst e;rw[adu,adu];exact(ak.rev h2).append (.one h1)
theorem Vals.rev:∀{xs:List V} {us:List ZW},Vals xs us->Vals xs.reverse us.reverse
 |_,_,.nil=>.nil
 |_,_,.cons r t=>by
  rw[adu,adu];exact(Vals.rev t).append (.cons r .nil)
section
variable {X:Cx}{e:Expr}{pos p2 p3 p4:Pos}{j:Nat}
def Lv {te:TE}(he:PE X e te):PE X (.Subscript e (.Slice ξ ξ (ν (.UnaryOp .USub (.Constant (.int 1) j p3) p4)) p2) pos) (λσ H Q=>te σ H λx H1=>(∃a xs,x=.ref a/\H1 a=ν (.lst xs)/\∀p,H1 p=ξ->Q (.ref p) (upd H1 p (.lst xs.reverse)))\/(∃a xs,x=.ref a/\H1 a=ν (.tup xs)/\∀p,H1 p=ξ->Q (.ref p) (upd H1 p (.tup xs.reverse)))):=by
 intro μ s σ H Q I h;refine Subscript_ (bQ (he μ s σ H _ I h) λv s1 iX=>?_);obtain⟨x,H1,I1,r1,q1⟩:=iX;refine wpAny_Slice ?_;rw[evalPart_none];refine Z0 (Z0 ?_);rw[evalPart_some];refine bQ (DL (X:=X) (pos:=p4) xB (bu (i:=1) (j:=j) (pos:=p3)) μ s1 σ H1 (λv H'=>v=.int (-1)/\H'=H1) I1 {1,rfl,rfl,rfl}) λu s3 mV=>?_;obtain⟨y,H3,I3,r3,ey,eH⟩:=mV;subst ey eH;obtain⟨tk,rfl⟩:=(show ∃t,u=Value.int (-1) t from r3)
 have I4:Inv X μ σ H3 {s3 with heap:=s3.heap.push {cls:=.type "slice",data:=.fields #[.none,.none,.int (-1) tk]}}:=I3.kept (t':=s3.toks) λb ob q=>Z3 _ q
 have z6:(s3.heap.push {cls:=.type "slice",data:=.fields #[.none,.none,.int (-1) tk]}).IsSliceOf s3.heap.objs.size .none .none (.int (-1) tk):=Heap.IsSliceOf.new ..
 generalize Uk:({s3 with heap:=s3.heap.push {cls:=.type "slice",data:=.fields #[.none,.none,.int (-1) tk]}}:ZZ)=s4 at I4 ⊢
 have Ii:s4.heap.IsSliceOf s3.heap.objs.size .none .none (.int (-1) tk):=by rw[<- Uk];exact z6
 have main:∃T id,typeLookup (.type T) "__getitem__" = pure (ν (.builtin id))/\s4.TypeIs v T/\aau (Ψ X.prog X.w) X.A (getItem v (.ref s3.heap.objs.size)) (EP X μ σ Q) X.xe s4:=by
  rcases q1 with⟨a,xs,rfl,hx,q⟩|⟨a,xs,rfl,hx,q⟩
  ·cases (show v=Φ a from r1)
   obtain⟨its,r,ht,hz⟩:=I4.list (fb.of hx);have hlen:=r.length;refine{"list",_,adn.lookup,ht.isList.typeIs,?_};refine adw ht.isList Ii .none .none (.int (-1) tk) (by simp) ?_ (by rw[aas] <;> lia)
   rw[HT.j7];refine{.ref s4.heap.objs.size,_,I4.laid (t':=s4.toks) (o:=.lst xs.reverse) (λb ob q=>Z3 _ q) (ZX _) ?_,rfl,q _ (I4.b9.fresh (ZX _))};exact{by rw[abU];lia,_,0,by simpa using Vals.rev r,aay _ rfl}
  ·cases (show v=Φ a from r1)
   obtain⟨its,r,ht,hz⟩:=I4.tuple (nk.of hx);have hlen:=r.length;refine{"tuple",_,acP.lookup,ht.typeIs,?_};refine HT.lV ht Ii ?_ (by rw[aas] <;> lia)
   refine{.ref s4.heap.objs.size,_,I4.laid (t':=s4.toks) (o:=.tup xs.reverse) (λb ob q=>Z3 _ q) (ZX _) ?_,rfl,q _ (I4.b9.fresh (ZX _))};exact{by rw[abU];lia,_,by simpa using Vals.rev r,IsTup.new _ _}
 obtain⟨T,id,hT,ht,hg⟩:=main;show aau (Ψ X.prog X.w) X.A (subscriptTail e (.Slice ξ ξ (ν (.UnaryOp .USub (.Constant (.int 1) j p3) p4)) p2) v (.ref s3.heap.objs.size)) (EP X μ σ Q) X.xe s4;exact tail_any (ops:=[v,.ref s3.heap.objs.size]) ht hT hg (by with_unfolding_all rfl)
end
end L2
namespace L2.Q
section
variable {P:Z6}{w:aam}{C:Cfg}{σ:St}{H:Hp}{β:ba}{own:Nat->List θ}{i:Nat}{ok:List Int->Prop}{ns:List Int}
theorem sv:∀{ns:List Int} {vs:List V} {A:List θ},aT P w H (ns.map D.int) vs A->vs=ns.map V.int/\A=[]
 |[],_,_,h=>h
 |n::ns,_,_,⟨v,r,A1,A2,e,eA,h1,h2⟩=>by
  obtain⟨rfl,rfl⟩:=sv h2;obtain⟨rfl,rfl⟩:=h1;exact{e,by rw[eA];rfl}
def cZ.toHand (s:cZ P w C σ H β own)(e:β[i]?=ν (ν (.own (.lst (ns.map D.int)))))(ho:ok ns)(io:∀b,¬ C.IO b):cZ P w C σ H (β.set i (ν (.hand ok))) own:=by
 obtain⟨v,h1,⟨a,vs,A',rfl,h2,h3,h4⟩,h5⟩:=s.ow i _ e;obtain⟨rfl,rfl⟩:=sv h4;refine⟨by simp[s.len],λj y d q=>?_,λj d q=>?_,λj Cd q=>?_,s.dm,s.oP,s.qS,s.kp,s.ju,λj y d q=>by
  by_cases aL:i=j
  ·subst aL;obtain⟨e',_⟩:=bY q;cases e'
  ·rw[bR aL]at q;exact s.shl j y d q⟩
 ·by_cases aL:i=j
  ·subst aL;obtain⟨e',_⟩:=bY q;cases e'
  ·rw[bR aL]at q;exact s.val j y d q
 ·by_cases aL:i=j
  ·subst aL;obtain⟨e',_⟩:=bY q;cases e'
  ·rw[bR aL]at q;exact s.ow j d q
 ·by_cases aL:i=j
  ·subst aL;obtain⟨e',_⟩:=bY q;cases e';exact{a,ns,h1,h2,ho,h3,.inl io}
  ·rw[bR aL]at q;exact s.rC j Cd q
end
section
variable {X:Cx}{C:Cfg}{e:Expr}{φ:aP}{p:Bool}{i:Nat}{x:Str}{pos pos' px ap cp:Pos}{ok:List Int->Prop}
def Hk (ok:List Int->Prop)(UY:∀b,¬ C.IO b)(he:∀U,PQ X (C.u U) p e φ)(hN:X.N.Nodup)(hi:X.N[i]?=ν x:=by rfl)(hx:Loc X.env.scope x:=by first|exact .inl rfl|exact .inr rfl)
  (hs:ab4 e (ν (.Name x pos')) pos.line X.env=pure η:=by rfl) (hf:X.fn x=ζ\/X.env.scope.names.lookup x=ν .local:=by first|exact .inl rfl|exact .inr rfl|assumption) :
  PB X C (.Assign [.Name x pos'] e pos) (λE β=>φ β λd k β'=>H9 k d/\i<β'.length/\∃ns:List Int,d=.lst (ns.map D.int)/\ok ns/\E.nx (β'.set i (ν (.hand ok)))):=by
 have B:=dD (C:=C) (i:=i) (pos:=pos) (pos':=pos') he hN hi hx hs hf;refine{λE E' β l q=>(he λ_=>False).mono _ _ _ (λd k β' Ik=>by obtain⟨f,h,ns,e,o,q⟩:=Ik;exact{f,h,ns,e,o,l.nx _ q}) q,B.ps.pre λDe σ H iX=>?_}
 obtain⟨Z,E,β,sb,q,Cd⟩:=iX;refine{Z,{E with nx:=λβ'=>∃(ns:List Int) (β2:ba),i<β2.length/\β'=β2.set i (ν (.own (.lst (ns.map D.int))))/\ok ns/\E.nx (β2.set i (ν (.hand ok)))},β,sb,(he λ_=>False).mono _ _ _ (λd k β' Mw=>by obtain⟨f,h,ns,e,o,q⟩:=Mw;exact{f,ns,β',h,by rw[e],o,q}) q,{λσ' H' β' xN mV=>?_,Cd.rt,Cd.bk,Cd.ct}}
 obtain⟨ns,β2,hl,e,o,q⟩:=mV;subst e;obtain⟨own,s,n⟩:=xN;have:=s.toHand (i:=i) (ok:=ok) (get_set hl) o UY;rw[List.set_set]at this;exact Cd.nx _ _ _ {(own),this,n} q
def cZ.putL {P:Z6}{w:aam}{σ:St}{H:Hp}{β:ba}{own:Nat->List θ}{U U2:θ->Prop}{ds ds':List D}{vs':List V}{a:θ}{vs:List V}{A A':List θ}(s:cZ P w (C.u U) σ H β own)(e:β[i]?=ν (ν (.own (.lst ds))))(h1:σ[i]?=ν (ν (.ref a)))(h2:H a=ν (.lst vs))(h3:own i=a::A)
  (r:aT P w H ds' vs' A') (nd:A'.Nodup) (hA:∀c∈A',c∈A\/(C.H0 c=ξ/\¬ Wn own c/\U c)) (hU:∀a,U2 a->U a) (Vc:∀c∈A',c∉A->¬ U2 c) :
  cZ P w (C.u U2) σ (upd H a (.lst vs')) (β.set i (ν (.own (.lst ds')))) (a5 own i (a::A'))/\∀c∈a::A',c∈own i\/(C.H0 c=ξ/\¬ Wn own c/\U c):=by
 have ha:a∈own i:=by rw[h3];simp
 have nA:a∉A:=by have:=s.qS i;rw[h3]at this;exact(aaA.mp this).1
 have na:∀c∈A',c≠a:=λc hc z=>by
  subst z;rcases hA c hc with z|z
  ·exact nA z
  ·exact z.2.1 {(i),ha}
 have kt:∀b xs,H b=ν (.tup xs)->upd H a (.lst vs') b=ν (.tup xs):=λb xs z=>by rw[aD (λz'=>by rw[z',h2]at z;cases z)];exact z
 have WW:∀c∈a::A',c∈own i\/(C.H0 c=ξ/\¬ Wn own c/\U c):=λc hc=>by
  rcases Z1.mp hc with rfl|hc
  ·exact .inl ha
  ·exact(hA c hc).imp (λz=>by rw[h3];simp[z]) id
 refine{s.OC e h1 ha {a,vs',A',rfl,ar,rfl,r.keep kt λc hc oc ec=>by rw[aD (na c hc)];exact ec} (aaA.mpr {λz=>na a z rfl,nd}) WW hU (λc hc z=>?_),WW}
 rcases Z1.mp hc with rfl|hc
 ·exact(s.dm i c ha).2.2.2 (hU c z)
 ·by_cases q:c∈A
  ·exact(s.dm i c (by rw[h3];simp[q])).2.2.2 (hU c z)
  ·exact Vc c hc q z
def DV {own:Nat->List θ}{i:Nat}{A':List θ}(h:∀c∈A',c∈own i):∀c,Wn (a5 own i A') c->Wn own c:=λc Ij=>by
 obtain⟨j,hj⟩:=Ij
 by_cases aL:i=j
 ·rw[<- aL,os_eq]at hj;exact{i,h c hj}
 ·rw[b7 aL]at hj;exact{(j),hj}
def Lr {P:Z6}{w:aam}{H:Hp}{own:Nat->List θ}{Z:Hp×(θ->Prop)}{d:D}{v:V}{A:List θ}(r:Own P w H d v A)(h:∀c∈A,¬ Wn own c/\C.H0 c=ξ):KV P w C Z own H (sk .g9 d) d v:=by
 have q:aE P w (av C (Wn own) .g9) H d v:=r.rep λc hc z=>z.elim (h c hc).1 λz=>z (h c hc).2;cases d with
 |int i=>exact KV.flat rfl q
 |bl i=>exact KV.flat rfl q
 |cN=>exact KV.flat rfl q
 |str i=>exact KV.flat rfl q
 |_=>exact q
def aT.concat {P:Z6}{w:aam}{H:Hp}{ds:List D}{d:D}{vs:List V}{A:List θ}(h:aT P w H (ds++[d]) vs A):∃us v A1 A2,vs=us++[v]/\A=A1++A2/\aT P w H ds us A1/\Own P w H d v A2:=by
 obtain⟨v,A1,A2,A3,g1,g2,g3,g4,g5⟩:=h.split (i:=ds.length) (d:=d) (by simp)
 rw[List.take_left]at g3;have e3:aT P w H [] (vs.drop (ds.length+1)) A3:=by simpa using g5
 have hl:=h.length;rw[aag,abo]at hl;refine{vs.take ds.length,v,A1,A2,?_,by rw[g2,e3.2,aa9],g3,g4}
 have gV:ds.length<vs.length:=by lia
 have e1:vs=vs.take ds.length++vs.drop ds.length:=(abC _ _).symm;rw[aaZ gV,e3.1]at e1;have:vs[ds.length]=v:=by
  have:=Z4 gV;rw[g1]at this;exact(aaC this).symm
 rw[this]at e1;exact e1
def DE (hn:Nm X i x:=by exact Ce)
  (fX:ab6 (.Name x px) "pop" X.env (eval (.Name x px) X.env)=eval (.Name x px) X.env:=by rfl) (fW:(ap.endLine==cp.line)=ζ:=by rfl) :
  PQ X C η (.Call (.Attribute (.Name x px) "pop" ap) [] [] cp) (λβ R=>∃ds d,β[i]?=ν (ν (.own (.lst (ds++[d]))))/\R d (sk .g9 d) (β.set i (ν (.own (.lst ds))))) :=
 ⟨λβ R R' k EX=>by obtain⟨ds,d,h1,q⟩:=EX;exact{ds,d,h1,k _ _ _ q},(Lz (apos:=ap) (cpos:=cp) Ζ PySem.F.slot_list_pop PySem.F.type_list_pop L4 (iN (pos:=px) hn) fX fW).pre λσ H Q yv=>by
  obtain⟨β,own,s,ds,d,hb,q⟩:=yv;obtain⟨a,vs,A,h1,h2,h3,h4⟩:=s.vK hb;obtain⟨us,v,A1,A2,rfl,rfl,g3,g4⟩:=h4.concat;have nd:=s.qS i;rw[h3]at nd;obtain⟨Cf,L0,OU⟩:=aaY.mp (aaA.mp nd).2;obtain⟨s2,hA⟩:=s.putL (C:=C) (U:=C.U) (U2:=C.U) (ds':=ds) (vs':=us) (A':=A1) hb h1 h2 h3 g3 Cf (λc hc=>.inl (by simp[hc])) (λ_ z=>z) (λc hc n=>Η (by simp[hc]) n)
  have h0:∀c∈own i,C.H0 c=ξ:=by obtain⟨_,_,_,h⟩:=s.ow i _ hb;exact h
  have kt:∀b xs,H b=ν (.tup xs)->upd H a (.lst us) b=ν (.tup xs):=λb xs z=>by rw[aD (λz'=>by rw[z',h2]at z;cases z)];exact z
  have na:∀c∈A2,c≠a:=λc hc z=>(aaA.mp nd).1 (by rw[<- z];simp[hc])
  have le:∀c,Wn (a5 own i (a::A1)) c->Wn own c:=DV λc hc=>by rw[h3];rcases Z1.mp hc with rfl|hc <;> simp[*]
  refine{.ref a,h1,.inl {rfl,_,fb.of h2},a,_,v,rfl,rfl,h2,by simp,?_}
  rw[List.dropLast_concat];refine q v _ _ {s2,?_,λz=>(nomatch z),le} (Lr (C:=C) (g4.keep kt λc hc oc ec=>by rw[aD (na c hc)];exact ec) λc hc=>{λ⟨j,hj⟩=>?_,h0 c (by rw[h3];simp[hc])})
  ·have u:=Sn.upd (Z:=(H,Wn own)) (o':=.lst us) (Sn.refl (H:=H) (W:=Wn own)) h2 (λxs z=>by cases z) {i,by rw[h3];simp}
   exact{λb z=>.inl (le b z),u.k,u.d}
  ·by_cases aL:i=j
   ·rw[<- aL,os_eq]at hj;rcases Z1.mp hj with rfl|hj
    ·exact na _ hc rfl
    ·exact OU _ hj _ hc rfl
   ·rw[b7 aL]at hj;exact aL (s.oP i j c (by rw[h3];simp[hc]) hj)⟩
end
section
variable {X:Cx}{C:Cfg}{e k:Expr}{φ:aP}{p:Bool}{i:Nat}{x:Str}{pos px ap cp:Pos}
def GZ {Z:Hp×(θ->Prop)}{H:Hp}{own:Nat->List θ}{a:θ}{o oa:HO}{A':List θ}{U:θ->Prop}(n:Sn Z H (Wn own))(m:∀a,U a->Z.1 a=ξ)(h2:H a=ν oa)(ht:∀xs,oa≠.tup xs)(ha:Wn own a)(hA:∀c∈A',c∈own i\/(C.H0 c=ξ/\¬ Wn own c/\U c)):Sn Z (upd H a o) (Wn (a5 own i A')) :=
 tS n m ha {(oa),h2,ht} hA
def su (he:PQ X C.z p e φ)(hn:Nm X i x:=by exact Ce)
  (fX:ab6 (.Name x px) "extend" X.env (eval (.Name x px) X.env)=eval (.Name x px) X.env:=by rfl)
  (qg:((abK cp (aao [e] X.env)).all (λx=>!x.1)&&(backToKw cp (ado [] X.env)).all (λx=>x.1.isSome)&&decide ([e].length+([]:List acX).length+(if ([]:List acX).isEmpty then 0 else 1)<30))=ζ:=by rfl)
  (fW:(ap.endLine==cp.line)=ζ:=by rfl) (hs:aao [e] X.env=(η,eval e X.env)::aao [] X.env:=by rfl) (fV:(abK cp (aao [] X.env)).any (·.1)=η:=by rfl)
  (xn:ab4 (.Call (.Attribute (.Name x px) "extend" ap) [e] [] cp) ξ pos.line X.env=pure η:=by rfl) :
  PB X C (.Expr (.Call (.Attribute (.Name x px) "extend" ap) [e] [] cp) pos) (λE β=>(∃ds,β[i]?=ν (ν (.own (.lst ds))))/\φ β λd _ β'=>∃ds es,d=.lst es/\D.ck es=ζ/\β'[i]?=ν (ν (.own (.lst ds)))/\ds.length+es.length<=aak/\E.nx (β'.set i (ν (.own (.lst (ds++es)))))):=by
 refine⟨λE E' β l Mw=>by obtain⟨h1,q⟩:=Mw;exact{h1,he.mono _ _ _ (λd k β' Pz=>by obtain⟨ds,es,h1,h2,h3,h4,q⟩:=Pz;exact{ds,es,h1,h2,h3,h4,l.nx _ q}) q},
  (oB (pos:=pos) (DO (apos:=ap) (cpos:=cp) Ζ PySem.F.slot_list_extend PySem.F.type_list_extend Bm (iN (pos:=px) hn) (bM he.pe d6 hs) fX qg fW hs fV) xn).pre λD σ H ⟨Z,E,β,⟨own,s0,n⟩,⟨⟨Y2,NH⟩,q⟩,ok⟩=>?_⟩
 obtain⟨a0,Zt,A0,z1,z2,z3,z4⟩:=s0.vK NH;refine{.ref a0,z1,.inl {rfl,_,fb.of z2},tQ.of he s0 q λd kk β' v H1 aH vV o r=>?_};obtain⟨ds,es,e1,f,hb,hl,q⟩:=vV;subst e1;obtain⟨b,us,rfl,Gu,_,rb⟩:=r.rep;obtain⟨a,vs,A,h1,h2,h3,h4⟩:=o.sq.vK hb;rw[z1]at h1;cases h1;have nd:=o.sq.qS i;rw[h3]at nd;obtain⟨s2,hA⟩:=o.sq.putL (C:=C) (U:=λ_=>False) (U2:=λ_=>False) (ds':=ds++es) (vs':=vs++us) (A':=A) hb z1 h2 h3 (by simpa using h4.append (jL f rb)) (aaA.mp nd).2 (λc hc=>.inl hc) (λ_ z=>z) (λc hc n=>Η hc n)
 exact{a0,b,vs,us,rfl,rfl,h2,Gu,by rw[h4.length,rb.length];exact hl,ok.nx _ _ _ {_,s2,GZ (n.trans o.sn) (λ_ z=>z.elim) h2 (λxs z=>by cases z) {i,by rw[h3];simp} hA} q}
end
end L2.Q
namespace L2
def HH {X:Cx}:∀(μ:List (θ×Obj)) (s:ZZ) (σ:St) (H:Hp) (Q:ZW->ZZ->Prop) (E:ZW->ZZ->Prop),Inv X μ σ H s ->
  (∀a s',s.heap.objs.size<=a->H a=ξ->(∀b o,s.heap.get? b=ν o->s'.heap.get? b=ν o)->Inv X μ σ (upd H a (kR X.prog X.w a [])) s'->Q (.ref a) s')->aau (Ψ X.prog X.w) X.A (newSet (.type "set")) Q E s:=λμ s σ H Q E I h=>by
 unfold newSet;refine ZV (ST.jx ?_);dsimp only;have hS:(s.heap.push (ST.gS X.w)).get? s.heap.objs.size=ν (ST.gS X.w):=aay _ rfl;refine abe (h _ _ (ZX _) I.fresh (λb o e=>Z3 _ e) (I.laid (t':=s.toks) (λ_ _ q=>Z3 _ q) (ZX _) ?_));exact{{_,_,_,_,hS,ST.zK _ _},{_,hS},λh1 h2 rm k=>by obtain⟨o1,e1,II,t1,g1,g2⟩:=rm;exact{o1,e1,II,t1,k _ g1,g2}}
namespace Q
section
variable {P:Z6}{w:aam}{C:Cfg}{σ:St}{H:Hp}{β:ba}{own:Nat->List θ}{lk:List (Option Nat)}{a:θ}
def cZ.uy {o:HO}(ho:∀xs,o≠.tup xs)(s:cZ P w C σ H β own)(ha:H a=ξ)(inj:∀(i i' j:Nat),lk[i]?=ν (ν j)->lk[i']?=ν (ν j)->i=i'):
  cZ P w (C.u λc=>c=a) (fU lk σ) (upd H a o) (cC lk β) (bP lk β own):=by
 have h0:C.H0 a=ξ:=aaz λz=>s.ju a z ha;have q:=(s.enter ha inj).K7 (o:=o) ar (λxs z=>by cases z) h0
 have e:upd (upd H a (.lst [])) a o=upd H a o:=by
  funext b
  by_cases hb:b=a
  ·rw[hb,ar,ar]
  ·rw[aD hb,aD hb,aD hb]
 rwa [e]at q
end
end Q
end L2
namespace L2.Q
abbrev O4 (l:Bool)(ds:List D):D:=match l with|true=>.lst ds|false=>.tup ds
section
variable {P:Z6}{w:aam}{H:Hp}{A:List θ}{v:V}{ds:List D}{l:Bool}
def vt {m:Nat}{es:List D}(r:Own P w H (O4 l ds) v A)(nd:A.Nodup)(hm:ds[m]?=ν (.lst es)):∃a vs c us B,v=.ref a/\H a=ν (match l with|true=>.lst vs|false=>.tup vs)/\vs.length=ds.length/\vs[m]?=ν (.ref c)/\H c=ν (.lst us)/\c∈A/\aT P w H es us B/\(∀x∈B,x∈A/\x≠c)/\B.Nodup /\
  ∀fk uT B',aT P w H fk uT B'->B'.Nodup->(∀x∈B',x∈B\/x∉A)->(∀x∈B',x≠c)->∃A',Own P w (upd H c (.lst uT)) (O4 l (ds.set m (.lst fk))) v A'/\A'.Nodup/\∀x∈A',x∈A\/x∈B':=by
 have core:∀{vs:List V} {A:List θ},A.Nodup->aT P w H ds vs A->∃c us B,vs[m]?=ν (.ref c)/\H c=ν (.lst us)/\c∈A/\aT P w H es us B/\(∀x∈B,x∈A/\x≠c)/\B.Nodup /\
   ∀fk uT B',aT P w H fk uT B'->B'.Nodup->(∀x∈B',x∈B\/x∉A)->(∀x∈B',x≠c)->∃A',aT P w (upd H c (.lst uT)) (ds.set m (.lst fk)) vs A'/\A'.Nodup/\(∀x∈A',x∈A\/x∈B'):=λ{vs A} nd os=>by
  have hl:=os.length;have Yx:m<ds.length:=(aaf.mp hm).1;obtain⟨u,A1,A2,A3,g1,rfl,g3,⟨c,us,B,rfl,h2,rfl,h4⟩,g5⟩:=os.split hm;obtain⟨Cf,L0,OU⟩:=aaY.mp nd;obtain⟨Wh,XW,Wg⟩:=aaY.mp L0;have XZ:=(aaA.mp Wh).1;refine{c,us,B,g1,h2,by simp,h4,λx hx=>{by simp[hx],λz=>XZ (by rw[<- z];exact hx)},(aaA.mp Wh).2,λfk uT B' o' n' qU sR=>?_}
  have kt:∀b xs,H b=ν (.tup xs)->upd H c (.lst uT) b=ν (.tup xs):=λb xs z=>by rw[aD (λz'=>by rw[z',h2]at z;cases z)];exact z
  have n1:∀x∈A1,x≠c:=λx hx z=>OU x hx c (by simp) z
  have n3:∀x∈A3,x≠c:=λx hx z=>Wg c (by simp) x hx z.symm
  have off:∀x∈B',x∉A1/\x∉A3:=λx hx=>by
   rcases qU x hx with z|z
   ·exact{λq=>OU x q x (by simp[z]) rfl,λq=>Wg x (by simp[z]) x q rfl}
   ·exact{λq=>z (by simp[q]),λq=>z (by simp[q])}
  have WC:m<vs.length:=by lia
  have ev:vs=vs.take m++V.ref c::vs.drop (m+1):=by
   have e1:vs=vs.take m++vs.drop m:=(abC _ _).symm;rw[aaZ WC]at e1;have:vs[m]=V.ref c:=by
    have:=Z4 WC;rw[g1]at this;exact(aaC this).symm
   rwa [this]at e1
  refine{A1++((c::B')++A3),?_,aaY.mpr {Cf,aaY.mpr {aaA.mpr {λz=>sR c z rfl,n'},XW,λx hx y hy=>?_},λx hx y hy z=>?_},λx hx=>?_}
  ·rw[List.set_eq_take_append_cons_drop,χ Yx];have q:aT P w (upd H c (.lst uT)) (ds.take m++.lst fk::ds.drop (m+1)) (vs.take m++.ref c::vs.drop (m+1)) (A1++((c::B')++A3)) :=
    (g3.keep kt λx hx oc ec=>by rw[aD (n1 x hx)];exact ec).append {.ref c,_,c::B',A3,rfl,rfl,{c,uT,B',rfl,ar,rfl,o'.keep kt λx hx oc ec=>by rw[aD (sR x hx)];exact ec},g5.keep kt λx hx oc ec=>by rw[aD (n3 x hx)];exact ec}
   rw[<- ev]at q;exact q
  ·intro z;subst z;rcases Z1.mp hx with rfl|hx
   ·exact n3 _ hy rfl
   ·exact(off x hx).2 hy
  ·subst z;rcases Z9.mp hy with hy|hy
   ·rcases Z1.mp hy with rfl|hy
    ·exact n1 _ hx rfl
    ·exact(off x hy).1 hx
   ·exact OU x hx x (by simp[hy]) rfl
  ·rcases Z9.mp hx with hx|hx
   ·exact .inl (by simp[hx])
   ·rcases Z9.mp hx with hx|hx
    ·rcases Z1.mp hx with rfl|hx
     ·exact .inl (by simp)
     ·exact .inr hx
    ·exact .inl (by simp[hx])
 cases l with
 |true =>
  obtain⟨a,vs,A',rfl,h2,rfl,h4⟩:=r;obtain⟨na,XY⟩:=aaA.mp nd;obtain⟨c,us,B,q1,q2,q3,q4,q5,q6,q7⟩:=core XY h4;have ca:c≠a:=λz=>na (by rw[<- z];exact q3)
  refine{a,vs,c,us,B,rfl,h2,h4.length,q1,q2,by simp[q3],q4,λx hx=>{by simp[(q5 x hx).1],(q5 x hx).2},q6,λfk uT B' o' n' qU sR=>?_}
  obtain⟨A2,g1,g2,g3⟩:=q7 fk uT B' o' n' (λx hx=>(qU x hx).imp id λz q=>z (by simp[q])) sR
  refine{a::A2,{a,vs,A2,rfl,by rw[aD ca.symm];exact h2,rfl,g1},aaA.mpr {λz=>?_,g2},λx hx=>?_}
  ·rcases g3 a z with z|z
   ·exact na z
   ·rcases qU a z with z|z
    ·exact na (q5 a z).1
    ·exact z (by simp)
  ·rcases Z1.mp hx with rfl|hx
   ·exact .inl (by simp)
   ·exact(g3 x hx).imp (λz=>by simp[z]) id
 |false =>
  obtain⟨a,vs,rfl,h2,h4⟩:=r;obtain⟨c,us,B,q1,q2,q3,q4,q5,q6,q7⟩:=core nd h4;have ca:a≠c:=λz=>by rw[z,q2]at h2;cases h2
  refine{a,vs,c,us,B,rfl,h2,h4.length,q1,q2,q3,q4,q5,q6,λfk uT B' o' n' qU sR=>?_};obtain⟨A2,g1,g2,g3⟩:=q7 fk uT B' o' n' qU sR;exact{A2,{a,vs,rfl,by rw[aD ca];exact h2,g1},g2,g3}
end
section
variable {X:Cx}{C:Cfg}{e k:Expr}{φ φk:aP}{i:Nat}{x:Str}{pos px kp ap cp:Pos}
def jj (l:Bool)(he:∀U,PQ X (C.u U) ζ e φ)(hk:∀U,PQ X (C.u U) ζ k φk)(hn:Nm X i x:=by exact Ce)
  (YC:uJ k:=by exact λ_ _=>rfl)
  (fX:ab6 (.Subscript (.Name x px) k kp) "append" X.env (eval (.Subscript (.Name x px) k kp) X.env)=eval (.Subscript (.Name x px) k kp) X.env:=by rfl)
  (qg:((abK cp (aao [e] X.env)).all (λx=>!x.1)&&(backToKw cp (ado [] X.env)).all (λx=>x.1.isSome)&&decide ([e].length+([]:List acX).length+(if ([]:List acX).isEmpty then 0 else 1)<30))=ζ:=by rfl)
  (fW:(ap.endLine==cp.line)=ζ:=by rfl) (hs:aao [e] X.env=(η,eval e X.env)::aao [] X.env:=by rfl) (fV:(abK cp (aao [] X.env)).any (·.1)=η:=by rfl)
  (xn:ab4 (.Call (.Attribute (.Subscript (.Name x px) k kp) "append" ap) [e] [] cp) ξ pos.line X.env=pure η:=by rfl) :
  PB X C (.Expr (.Call (.Attribute (.Subscript (.Name x px) k kp) "append" ap) [e] [] cp) pos) (λE β=>(∃d0,β[i]?=ν (ν (.own d0)))/\φk β λjd _ β1=>∃ds j m es,jd=.int j/\β1[i]?=ν (ν (.own (O4 l ds)))/\Gp ds.length j=ν m/\ds[m]?=ν (.lst es)/\φ β1 λd kd β2=>H9 kd d/\β2[i]?=ν (ν (.own (O4 l ds)))/\es.length<aak/\E.nx (β2.set i (ν (.own (O4 l (ds.set m (.lst (es++[d]))))))) ):=by
 refine{λE E' β l rm=>by obtain⟨q0,q⟩:=rm;exact{q0,(hk λ_=>False).mono _ _ _ (λjd _ β1 yr=>by obtain⟨ds,j,m,es,h1,h2,h3,h4,q⟩:=yr;exact{ds,j,m,es,h1,h2,h3,h4,(he λ_=>False).mono _ _ _ (λd kd β2 yq=>by obtain⟨g1,g2,g3,q⟩:=yq;exact{g1,g2,g3,l.nx _ q}) q}) q},λμ s σ H De I iX=>?_}
 obtain⟨Z,E,β,⟨own,sq,n⟩,⟨⟨d0,YI⟩,q⟩,ok⟩:=iX;have ix:Kj X (λx y H Q=>Oq X.K x y H Q\/Oo X.K x y H Q):=λvalue slice μ s σ H x y v u Q I rx ry h hs=>h.elim (λh=>ip value slice μ s σ H x y v u Q I rx ry h hs) λh=>EJ value slice μ s σ H x y v u Q I rx ry h hs;refine oB (pos:=pos) (DO (apos:=ap) (cpos:=cp) Ζ PySem.F.slot_list_append PySem.F.type_list_append mL (pK (pos:=kp) ix (iN (pos:=px) hn) (hk λa=>H a=ξ).pe YC) (bM (he λa=>H a=ξ).pe d6 hs) fX qg fW hs fV) xn μ s σ H De I ?_;have Xu:=sq.uS (C:=C.z) (U:=λa=>H a=ξ) λa z=>z;obtain⟨v0,RW,_,_⟩:=sq.ow i d0 YI;refine{v0,RW,tQ.of (hk λa=>H a=ξ) Xu q λjd kk β1 kv H1 aH mV o r=>?_};obtain⟨ds,j,m,es,e1,hb,hj,hm,q⟩:=mV;subst e1;cases r.rep;obtain⟨v,Wr,ow,h0⟩:=o.sq.ow i _ hb;rw[RW]at Wr;cases Wr;obtain⟨a,vs,c,us,B,rfl,q1,q2,q3,q4,q5,q6,q7,q8,q9⟩:=vt ow (o.sq.qS i) hm;have W6:uH vs j=ν (.ref c):=by unfold uH;rw[q2,hj];exact q3
 have Wa:Rr X.K "list" (.ref c) H1/\Jq (tQ X (C.u λa=>H a=ξ) ζ φ) KW σ H1 λxs H2=>zi (.ref c) xs H2 λ_ H1=>De.nx σ H1:=by
  refine{.inl {rfl,us,fb.of q4},tQ.of (he λa=>H a=ξ) o.sq q λd kd β2 v2 H2 bE vV o2 r2=>?_};obtain⟨f,WS,hl,q⟩:=vV;obtain⟨s2,e2⟩:=o2.pu rfl;obtain⟨v',Ws,XO,ZQ⟩:=o2.sq.ow i _ WS;rw[RW]at Ws;cases Ws;obtain⟨a',vs',c',uT,B',ea,p1,p2,p3,p4,p5,p6,p7,p8,p9⟩:=vt XO (o2.sq.qS i) hm;cases ea;have e3:=s2 _ _ q1;rw[p1]at e3;have ev:vs'=vs:=by cases l <;> (cases e3;rfl)
  subst ev;rw[q3]at p3;cases p3;have e4:=s2 _ _ q4;rw[p4]at e4;cases e4;obtain⟨A,r1,rn,r3⟩:=r2.fl f;have LS:∀x∈A,x∉bE i:=λx hx z=>(r3 x hx).2.1 {(i),z};obtain⟨A',g1,g2,g3⟩:=p9 (es++[d]) (us++[v2]) (B'++A) (p6.append (aT.one r1)) (aaY.mpr {p8,rn,λx hx y hy z=>LS y hy (by rw[<- z];exact(p7 x hx).1)})
   (λx hx=>(Z9.mp hx).imp id (LS x)) (λx hx z=>by
    rcases Z9.mp hx with hx|hx
    ·exact(p7 x hx).2 z
    ·exact LS x hx (by rw[z];exact p5))
  have hA:∀x∈A',x∈bE i\/(C.H0 x=ξ/\¬ Wn bE x/\H x=ξ):=λx hx=>by
   rcases g3 x hx with z|z
   ·exact .inl z
   ·rcases Z9.mp z with z|z
    ·exact .inl (p7 x z).1
    ·exact .inr {(r3 x z).2.2,(r3 x z).2.1,o.sn.free (r3 x z).1}
  exact{c,us,v2,rfl,rfl,p4,by rw[p6.length];exact hl,ok.nx _ _ _ {_,o2.sq.putIn (C:=C) (U:=λa=>H a=ξ) WS RW p5 g1 g2 hA,tS ((n.trans o.sn).trans o2.sn) (λb z=>n.free z) {(i),p5} {_,p4,λxs z=>by cases z} hA} q}
 cases l with
 |true=>exact .inl {a,vs,j,.ref c,rfl,rfl,fb.of q1,W6,Wa}
 |false=>exact .inr {a,vs,j,.ref c,rfl,rfl,nk.of q1,W6,Wa}
end
end L2.Q
namespace L2
def RU {b:Bool}{p q:Prop}(h1:b=ζ->p)(h2:b=η->q):(if b=ζ then p else q):=by
 cases b
 ·exact gB rfl (h2 rfl)
 ·exact qT rfl (h1 rfl)
def uE (a b c d:Int):Bool:=(decide (a<c)&&(decide (c<b)&&decide (b<d))) || (decide (c<a)&&(decide (a<d)&&decide (d<b)))
def iC:List Int->List Int->Bool
 |[a,b],[c,d]=>uE a b c d
 |_,_=>η
def Pair (t:List Int):Prop:=∃a b,t=[a,b]
def qt:FD:=λds R=>∃t u,ds=[kD t,kD u]/\Pair t/\Pair u/\R (.bl (iC t u))
def qt.mono:c0 qt:=λds R R' k ⟨t,u,e,h1,h2,q⟩=>{t,u,e,h1,h2,k _ q}
def fK (t u:List Int):Bool:=t.any λi=>decide (i∈u)
def qj:FD:=λds R=>∃t u,ds=[kD t,kD u]/\Pair t/\R (.bl (fK t u))
def qj.mono:c0 qj:=λds R R' k ⟨t,u,e,h1,q⟩=>{t,u,e,h1,k _ q}
abbrev Flt:=Option (Str×List Nat)
def MZ:Flt->D
 |none=>.cN
 |some (s,ks)=>.tup (.str s::ks.map λ(k:Nat)=>D.int (k:Int))
def uN (ts:List (List Int))(p:List Int->Bool)(j:Nat):Bool:=match ts[j]? with|some u=>p u|none=>η
noncomputable def l3 (rows ts:List (List Int))(k:Nat)(t:List Int):Flt:=if t∈rows then
   (if decide (0<k)&&uN ts (λu=>!HT.lexLt u t) (k-1) then ν ("order",[k]) else
    match (Z_ k).find? (uN ts λu=>fK u t)with
    |some j=>ν ("twice",[j,k])
    |none=>match (Z_ k).find? (uN ts λu=>iC u t)with
      |some j=>ν ("cross",[j,k])
      |none=>ξ)
  else ν ("none",[k])
def kL (rows ts:List (List Int))(k:Nat):Flt:=match ts[k]? with
 |none=>ξ
 |some t=>l3 rows ts k t
def m7 {rows ts:List (List Int)}{k:Nat}{t:List Int}(h:ts[k]?=ν t):kL rows ts k=l3 rows ts k t:=by unfold kL;rw[h]
def iu (rows ts:List (List Int)):Flt:=(Z_ ts.length).findSome? (kL rows ts)
theorem kK {p:Nat->Bool}{j:Nat}:∀{k:Nat},j<k->p j=ζ->(∀i<j,p i=η)->(Z_ k).find? p=ν j
 |0,h,_,_=>by lia
 |k+1,h,hp,hb=>by
  rw[acC,List.find?_append]
  by_cases hj:j<k
  ·rw[kK hj hp hb];rfl
  ·have e:j=k:=by lia
   subst e;have:(Z_ j).find? p=ξ:=adf.mpr λi hi=>by simp[hb i (aax.mp hi)]
   rw[this];simp[hp]
def find_none {p:Nat->Bool}{k:Nat}(h:∀i<k,p i=η):(Z_ k).find? p=ξ:=adf.mpr λi hi=>by simp[h i (aax.mp hi)]
theorem v9 {f:Nat->Flt}{j:Nat}{x:Str×List Nat}:∀{k:Nat},j<k->f j=ν x->(∀i<j,f i=ξ)->(Z_ k).findSome? f=ν x
 |0,h,_,_=>by lia
 |k+1,h,hp,hb=>by
  rw[acC,List.findSome?_append]
  by_cases hj:j<k
  ·rw[v9 hj hp hb];rfl
  ·have e:j=k:=by lia
   subst e;have:(Z_ j).findSome? f=ξ:=ade.mpr λi hi=>hb i (aax.mp hi);rw[this];simp[hp]
def Iz {f:Nat->Flt}{k:Nat}(h:∀i<k,f i=ξ):(Z_ k).findSome? f=ξ:=ade.mpr λi hi=>h i (aax.mp hi)
def Pairs (ts:List (List Int)):Prop:=∀t∈ts,Pair t
def qr:FD:=λds R=>∃(n:Int) (rows ts:List (List Int)) (k:Nat),ds=[.tup [.int n,.lst (rows.map kD)],.lst (ts.map kD),.int k]/\k<ts.length/\Pairs ts/\k<2 ^ 60/\R (MZ (kL rows ts k))
def qr.mono:c0 qr:=λds R R' k ⟨n,rows,ts,j,e,h1,h2,h3,q⟩=>{n,rows,ts,j,e,h1,h2,h3,k _ q}
def qq:FD:=λds R=>∃(n:Int) (rows ts:List (List Int)),ds=[.tup [.int n,.lst (rows.map kD)],.lst (ts.map kD)]/\ts.length<=100000/\Pairs ts/\R (MZ (iu rows ts))
def qq.mono:c0 qq:=λds R R' k ⟨n,rows,ts,e,h1,h2,q⟩=>{n,rows,ts,e,h1,h2,k _ q}
def qo:FD:=λds R=>∃(n:Int) (rows ts:List (List Int)),ds=[.tup [.int n,.lst (rows.map kD)],.lst (ts.map kD)]/\ts.length<=100000/\Pairs ts/\R (.bl (decide (iu rows ts=ξ)))
def qo.mono:c0 qo:=λds R R' k ⟨n,rows,ts,e,h1,h2,q⟩=>{n,rows,ts,e,h1,h2,k _ q}
theorem sL:∀t u:List Int,Nl.lexLe t u=!HT.lexLt u t
 |[],[]=>rfl
 |[],_::_=>rfl
 |_::_,[]=>rfl
 |x::xs,y::ys=>by
  show (if x=y then Nl.lexLe xs ys else decide (x<=y))=!(if y=x then HT.lexLt ys xs else decide (y<x))
  by_cases h:x=y
  ·rw[χ h,χ h.symm,sL xs ys]
  ·rw[ω h,ω (acB h)]
   by_cases h2:x<=y
   ·have:¬ y<x:=by lia
    simp[h2,this]
   ·have:y<x:=by lia
    simp[h2,this]
def IT (t u:List Int):QY (kD t) (kD u)=ν (.bl (!HT.lexLt u t)):=by
 show (match cB (t.map D.int),cB (u.map D.int)with|some ns,ν ms=>ν (D.bl (Nl.lexLe ns ms))|_,_=>ξ)=_
 rw[jP,jP];show ν (D.bl (Nl.lexLe t u))=_;rw[sL]
theorem Fo:∀f:Flt,(MZ f).flat=ζ
 |none=>rfl
 |some (s,ks)=>by
  show (D.flat (.str s)&&D.ck (ks.map λ(k:Nat)=>D.int (k:Int)))=ζ;have:D.ck (ks.map λ(k:Nat)=>D.int (k:Int))=ζ:=we (T:=λ_=>True) λd hd=>by
   obtain⟨k,_,rfl⟩:=Z2.mp hd;exact{(tv),rfl}
  rw[this];rfl
def kO {ts:List (List Int)}{k:Nat}{t:List Int}(h:ts[k]?=ν t):xp (.lst (ts.map kD)) (.int (k:Int))=ν (kD t):=Ar (by rw[aah,h];rfl)
structure Bs2 (mg:Str->Option ZW):Prop extends Bs mg where
 Zy:mg "isinstance" = ξ
 tuple:mg "tuple" = ξ
 str:mg "str" = ξ
 bool:mg "bool" = ξ
 zip:mg "zip" = ξ
 enumerate:mg "enumerate" = ξ
def wN {d:D}{n:Nat}(h:d.pd.canLay0=ζ/\d.pd.depth<=n)(hn:n<=64:=by decide):NQ d d=ν (.bl ζ):=FX (cA h hn) (cA h hn) (eqv_refl _ h.1)
def c9 {d:D}{n:Nat}(h:d.pd.canLay0=ζ/\d.pd.depth<=n)(hn:n<=64:=by decide):BK d d=ν (.bl η):=yJ (cA h hn) (cA h hn) (eqv_refl _ h.1)
end L2
namespace L2.Q
structure og (X:Cx)(C:Cfg)(p:Bool)(ifs:List Expr)(τ:a6):Prop where
 mono:∀β R R',(∀d β,R d β->R' d β)->τ β R->τ β R'
 pt:xb X ifs (lq X C p τ)
def cz {X:Cx}{C:Cfg}:og X C ζ [] N7:={λ_ _ _ k h=>k _ _ h,DB}
def fH {X:Cx}{C:Cfg}{p:Bool}{c:Expr}{τ:a6}(h:xq X C p c τ):og X C p [c] τ:={h.mono,DA h}
section
variable {X:Cx}{C:Cfg}{lk:List (Option Nat)}{γ:dc}{τ:a6}{φ:aP}{T:List Nat}{pc pe pi:Bool}{scope:acn}{N':List Str}{tg cw elt:Expr}{ifs:List Expr}{ι:cf}{pos pos' u6:Pos}{y:Str}{i:Nat}
def EF (N':List Str)(lk:List (Option Nat))(L:gz X.env.scope.names X.N scope N' lk=ζ)(oN:N'.Nodup)(hc:X.calm=ζ)(hi:xr X C pi tg cw ι)
  (mY:∀U cl c s H ex,xf (ay X scope N' cl c s H ex) (C.u U) tg T γ) (i5:∀U cl c s H ex,og (ay X scope N' cl c s H ex) (C.u U) pc ifs τ) (iP:∀U cl c s H ex,PQ (ay X scope N' cl c s H ex) (C.u U) pe elt φ)
  (hT:T.all (λi=>match lk[i]? with|some (ν _)=>η|_=>ζ)=ζ:=by rfl) (hs:∀x,aaO cw X.env x=pure x:=by intro _;rfl):PQ X C (pi&&(pc&&pe)) (.ListComp elt [{tg,cw,ifs,0}] scope pos) (vi lk ι γ τ φ) :=
 Jx (Links.of L) oN hT hc hi (λa=>mY _) (λa cl c s H ex=>(i5 _ cl c s H ex).pt) (i5 (λ_=>False) [] 0 X.s₀ X.H₀ []).mono (λa=>iP _) (mY (λ_=>False) [] 0 X.s₀ X.H₀ []).mono (iP (λ_=>False) [] 0 X.s₀ X.H₀ []).mono hs
def rg (o:Bool)(N':List Str)(lk:List (Option Nat))(L:gz X.env.scope.names X.N scope N' lk=ζ)(oN:N'.Nodup)(hc:X.calm=ζ)(hi:∀U,xr X (C.u U) pi tg cw ι)
  (mY:∀U cl c s H ex,xf (ay X scope N' cl c s H ex) (C.u U) tg T γ) (i5:∀U cl c s H ex,og (ay X scope N' cl c s H ex) (C.u U) pc ifs τ) (iP:∀U cl c s H ex,PQ (ay X scope N' cl c s H ex) (C.u U) pe elt φ)
  (hN:X.N.Nodup) (hT:T.all (λi=>match lk[i]? with|some (ν _)=>η|_=>ζ)=ζ:=by rfl) (hy:X.N[i]?=ν y:=by rfl) (hx:Loc X.env.scope y:=by first|exact .inl rfl|exact .inr rfl) (hf:X.fn y=ζ\/X.env.scope.names.lookup y=ν .local:=by first|exact .inl rfl|exact .inr rfl|assumption)
  (xn:ab4 (.ListComp elt [{tg,cw,ifs,0}] scope pos) (ν (.Name y pos')) u6.line X.env=pure ζ:=by rfl)
  (Iq:evalThenUse (.ListComp elt [{tg,cw,ifs,0}] scope pos) X.env (assign (.Name y pos') X.env)=(do let _ <- comprehension (.ListComp elt [{tg,cw,ifs,0}] scope pos) scope X.env (firstIterPos [{tg,cw,ifs,0}] pos) (newList []) η (eval cw X.env) (ν (assign (.Name y pos') X.env));pure ()):=by first|rfl|exact arm_evalThenUse_ListComp ..)
  (hs:∀x,aaO cw X.env x=pure x:=by intro _;rfl) :
  PB X C (.Assign [.Name y pos'] (.ListComp elt [{tg,cw,ifs,0}] scope pos) u6) (λE β=>vi lk ι γ τ φ β λd _ β'=>E.nx (β'.set i (ν (match o with|true=>.own d|false=>.val ζ d)))) :=
 OD (K:=λ_ _ _=>True) (Links.of L) oN hT hc hi mY (λU cl c s H ex=>(i5 U cl c s H ex).pt) (i5 (λ_=>False) [] 0 X.s₀ X.H₀ []).mono iP (mY (λ_=>False) [] 0 X.s₀ X.H₀ []).mono (iP (λ_=>False) [] 0 X.s₀ X.H₀ []).mono o hN hy hx hf xn Iq hs
def aU:Kj X (Dp X xp NF):=λvalue slice μ s σ H x y v u Q I rx ry ⟨W,d1,d2,d,hd,r1,r2,e,q⟩ hs =>
 Mm value slice μ s σ H x y v u Q I rx ry {W,d1,d2,d,hd,r1,r2,e,λv H' s r=>q v H' s r λf=>aE.flat f r} hs
end
section
variable {P:Z6}{w:aam}{K:Ξ}{mg:Str->Option ZW}{base:Heap}{k:Nat}{f:θ}{fd:aaI}{ps:List Str}
def wA:FD:=λds R=>∃c:Int,ds=[.int c]/\∀ns,i4 ns->R (.lst (ns.map D.int))
def wA.mono:c0 wA:=λds R R' k ⟨c,e,q⟩=>{c,e,λns o=>k _ (q ns o)}
def MT (G:aG P w K mg base bt k f fd ps C2):aG P w K mg base bt k f fd ps (bW P w ζ wA):=G.imp λvs H Q E h=>by
 obtain⟨ds,r,c,rfl,q⟩:=h;obtain⟨x,rr,rfl,hx,hr⟩:=r;cases (show rr=[] from hr)
 cases (show x=V.int c from hx)
 refine{c,rfl,λp H' hp hd sm=>?_};obtain⟨ns,e,o⟩:=hd.ok;have rep:∀ns:List Int,aT P w H' (ns.map D.int) (ns.map V.int) []:=λns=>by
  induction ns with
  |nil=>exact{(rfl),rfl}
  |cons n ns ih=>exact{_,_,[],[],rfl,rfl,{(rfl),rfl},ih}
 exact q ns o _ H' sm {[p],{p,_,[],rfl,e,rfl,rep ns},by simp,λc hc=>by rw[ZY.mp hc];exact hp}
def o3 {ro:Bool}(G:aG P w K mg base bt k f fd ps C0):aG P w K mg base bt k f fd ps (jX P w i4 ro cm):=G.imp λvs H Q E h=>by
 obtain⟨h,vs',ds,ns,rfl,e,o,r,n,rfl,n1,n2,q⟩:=h;obtain⟨x,rr,rfl,hx,hr⟩:=r;cases (show rr=[] from hr)
 cases (show x=V.int n from hx)
 refine{h,n,rfl,o.hand e,n1,n2,λr H' r0 r1 hd fm=>?_};obtain⟨jO,e',o'⟩:=hd.ok;refine q r r0 r1 _ H' jO {λb u hb nb=>fm b u hb nb,λb xs hb=>fm b _ hb λz=>by rw[z,e]at hb;cases hb} (λc hc z=>?_) e' o' (gR (W:=λ_=>False) rfl rfl)
 by_cases v3:c=h
 ·rw[v3,e']at z;cases z
 ·cases q:H c with
  |none=>exact hc q
  |some u=>rw[fm c u q v3]at z;cases z
end
end L2.Q
end
namespace qW
open PySem L2 L2.Q
def top (i:Nat):Stmt:=PySem.Challenge.pw_archrow_k12_whole_the_most.main.body.getD i (.Pass {0,0,0,0})
abbrev cg:Stmt:=top 5
abbrev ee:Stmt:=top 6
abbrev fq:Stmt:=top 7
abbrev cQ:Stmt:=top 8
abbrev eh:Stmt:=top 9
abbrev dy:Stmt:=top 10
abbrev dB:Stmt:=top 11
abbrev cR:Stmt:=top 12
abbrev jD:Stmt:=top 13
abbrev jE:Stmt:=top 14
abbrev gh:Stmt:=top 16
abbrev jF:Stmt:=top 17
abbrev hG:Stmt:=top 18
abbrev eF:Stmt:=top 19
abbrev dg:Stmt:=top 20
abbrev hV:Stmt:=top 21
abbrev eE:Stmt:=top 22
abbrev ly:Stmt:=top 24
abbrev ft:Stmt:=top 25
abbrev lz:Stmt:=top 26
abbrev eD:Stmt:=top 27
abbrev ia:Stmt:=top 28
abbrev df:Stmt:=top 29
abbrev fO:Stmt:=top 31
abbrev fN:Stmt:=top 32
abbrev h_:Stmt:=top 33
abbrev hZ:Stmt:=top 34
abbrev jG:Stmt:=top 35
abbrev cO:Stmt:=top 36
abbrev bX:Stmt:=top 37
abbrev cj:Stmt:=top 38
abbrev cP:Stmt:=top 39
abbrev pq:Stmt:=top 40
section
variable (K:Ξ)(mg:Str->Option ZW)(f:θ)(fd:aaI)
abbrev D0:Prop:=Df K mg "_law_arcs" h_ ["hand","many"] f fd
abbrev D1:Prop:=Df K mg "_law_take" fN ["hand","many"] f fd
abbrev D2:Prop:=Df K mg "_law_ties" hZ ["hand","many"] f fd
abbrev D3:Prop:=Df K mg "_law_row" jG ["hand"] f fd
abbrev D4:Prop:=Df K mg "stretches_rising" cg ["many"] f fd
abbrev D5:Prop:=Df K mg "partners_of" ee ["row"] f fd
abbrev D6:Prop:=Df K mg "number_with" eh ["worth","table","i","k","j"] f fd
abbrev D7:Prop:=Df K mg "least_number" dy ["partners","worth","table","i","j"] f fd
abbrev D8:Prop:=Df K mg "greatest_table" cQ ["row","worth"] f fd
abbrev D9:Prop:=Df K mg "one_each" hV ["row"] f fd
abbrev Gg:Prop:=Df K mg "table_of" hG ["row"] f fd
abbrev B_:Prop:=Df K mg "parts_left" fq ["i","k","j"] f fd
abbrev Cr:Prop:=Df K mg "best_choices" dB ["partners","worth","table","i","j"] f fd
abbrev Km:Prop:=Df K mg "first_greatest" cR ["row","worth","table","i","j"] f fd
abbrev Nt:Prop:=Df K mg "most_of" jF ["row","i","j"] f fd
abbrev N3:Prop:=Df K mg "most_ties" gh ["row"] f fd
abbrev Kl:Prop:=Df K mg "ways_in" jD ["counts","parts"] f fd
abbrev Nr:Prop:=Df K mg "ways_by" jE ["counts","choices","i","j"] f fd
abbrev N2:Prop:=Df K mg "how_many_most" dg ["row"] f fd
abbrev Nq:Prop:=Df K mg "choices_met" eE ["row"] f fd
abbrev N1:Prop:=Df K mg "always_tied" eF ["row"] f fd
abbrev NZ:Prop:=Df K mg "arcs_cross" ft ["one","other"] f fd
abbrev NY:Prop:=Df K mg "share_a_point" df ["one","other"] f fd
abbrev Ro:Prop:=Df K mg "fault_at" ia ["row","ties","k"] f fd
abbrev Ss:Prop:=Df K mg "first_fault" eD ["row","ties"] f fd
abbrev VM:Prop:=Df K mg "is_set" lz ["row","ties"] f fd
abbrev Sr:Prop:=Df K mg "row_of" ly ["many","ties"] f fd
abbrev W_:Prop:=Df K mg "_law_told_right" cO ["row"] f fd
abbrev W9:Prop:=Df K mg "_law_turned_right" cj ["row"] f fd
abbrev W8:Prop:=Df K mg "_law_changed_right" bX ["hand","row"] f fd
abbrev W7:Prop:=Df K mg "_law_both_right" cP ["one","other"] f fd
abbrev Zn:Prop:=Df K mg "_law_hand" fO ["cell"] f fd
end
section
variable {P:Z6}{w:aam}{K:Ξ}{mg:Str->Option ZW}{base:Heap}
def vb:aN ["cell"] ["cell"] (aw fO):=mkS
def Hz {f:θ}{fd:aaI}(F:GC K "_law_hand" "_law_hand" fO f fd)(B:Zo mg):aG P w K mg base bt 1 f fd ["cell"] C2:=by
 refine F.ok vb (λvs H Q E h=>?_) (λc_ A outer s H vs Q E hr h=>?_)
 ·obtain⟨c,rfl,_⟩:=h;rfl
 ·obtain⟨c,rfl,k⟩:=h;refine⟨_,lE (kq (xV (bM (lH (tm rfl) (by rfl) B.max ng (bM bu (bM (eO DW (pv 0) (eO t8 bu bu)) d6)))
   (bM (eO xX (eO xZ (eO pO (pv 0) bu) bu) (mG m_ (by rfl) B.int F3 (bM (zA OI (pv 0) (eO t8 bu bu) (Ek _)) d6))) d6)))),?_⟩
  refine{_,rfl,_,_,rfl,rfl,DG,_,_,rfl,rfl,_,_,rfl,?_};have m1:=oH (a:=c) (b:=2147483629) (by decide)
  refine{_,rfl,_,_,rfl,rfl,(by show (0:Int)<2147483629;decide),_,_,rfl,rfl,_,rfl,_,_,rfl,rfl,DG,rfl,.inr {_,rfl,_,_,rfl,rfl,.inl {by lia,by lia},?_}}
  refine{(by show 2<=aak;decide),λp hp=>k p _ hp {_,_,ar,?_,?_} (aB.new hp)}
  ·split <;> lia
  ·split <;> constructor <;> lia
def nz:aN ["hand","many","taken"] ["hand","many"] (aw fN):=mkS
def Tv {y:Int}(h:0<=y)(h':y<2147483647):Gk (y+1) 7:={by decide,by decide,by lia}
def lM {f:θ}{fd:aaI}(F:GC K "_law_take" "_law_take" fN f fd):aG P w K mg base bt 1 f fd ["hand","many"] C0:=by
 refine F.ok nz (λvs H Q E h=>?_) (λc_ A outer s H vs Q E hr h=>?_)
 ·obtain⟨h,n,rfl,_⟩:=h;rfl
 ·obtain⟨h,n,rfl,⟨x,y,hx,x0,y0,y1⟩,n0,n1,k⟩:=h;refine⟨_,fP (Ju (zj JC (pK ip (pv 0) bu (λ_ _=>rfl)) bu (Ek _))
    (fP (xR (i:=2) nz.nd rfl (Or.inl rfl) (eO pO (pK ip (pv 0) bu (λ_ _=>rfl)) (pv 1)))
    (fP (xS (eO vx (pK ip (pv 0) bu (λ_ _=>rfl)) (pv 1)) (DJ (pv 0) bu set_list))
    (lE (kq (pv 2))))) zm)
   (fP (xS (eO pO (eO xX (pK ip (pv 0) bu (λ_ _=>rfl)) bu) bu) (DJ (pv 0) bu set_list))
   (lE (kq (eO pO (eO vx (eO t8 (eO xZ (pK ip (pv 0) bu (λ_ _=>rfl)) bu) bu) bu) (pv 1))))),?_⟩
  refine{_,rfl,h,_,_,_,rfl,rfl,fb.of hx,rfl,_,_,rfl,rfl,_,rfl,?_};refine TZ (λhp=>?_) (λhp=>?_)
  ·refine{_,rfl,h,_,_,_,rfl,rfl,fb.of hx,rfl,_,rfl,_,_,rfl,rfl,n0,?_};refine{_,rfl,h,_,_,_,rfl,rfl,fb.of hx,rfl,_,rfl,_,_,rfl,rfl,xk.of n0 n1,?_};refine{_,rfl,h,_,_,0,rfl,rfl,hx,rfl,?_};have m:=oH (a:=x) n0;exact{_,rfl,k _ _ m.1 m.2 {_,_,ar,Int.ediv_nonneg x0 (Int.le_of_lt n0),y0,y1} Fm.upd}
  ·have m1:=oH (a:=y*48271) (b:=2147483647) (by decide)
   refine{_,rfl,h,_,_,_,rfl,rfl,fb.of hx,rfl,_,_,rfl,rfl,.inr {by decide,by decide},_,_,rfl,rfl,(by show (0:Int)<2147483647;decide),?_}
   refine{_,rfl,h,_,_,1,rfl,rfl,hx,rfl,?_};refine{_,rfl,h,_,_,_,rfl,rfl,fb.of ar,rfl,_,_,rfl,rfl,_,_,rfl,rfl,Tv m1.1 m1.2,_,_,rfl,rfl,xk.of (by decide) (by decide),_,rfl,_,_,rfl,rfl,n0,?_}
   have m:=oH (a:=(y*48271 % 2147483647+1) ^ (7:Int).toNat / 8) n0;exact k _ _ m.1 m.2 {_,_,ar,x0,m1.1,m1.2} Fm.upd
def eK:aN ["hand","many","found","piled","point","way"] ["hand","many"] (aw h_):=mkS
def HC {J1 wu}(dA:D0 K mg J1 wu){IF ux}(dT:D1 K mg IF ux)(B:Bs mg):aG P w K mg base bt 2 J1 wu ["hand","many"] (jX P w i4 ζ wF):=by
 have GT:aG P w K mg base bt 1 _ _ _ (jX P w i4 ζ cm):=o3 (lM dT.F);refine HD dA.F eK (λds R Qu=> by obtain⟨n,e,_⟩ := Qu;subst e;rfl) λc_ A outer s H E IO hr=>⟨_,(ah (dD (i:=2) (λ_=>(bS ae)) eK.nd)
    (ah (dD (i:=3) (λ_=>(bS ae)) eK.nd)
    (ah (cG aaU rfl (bc B.range (aa (ab (i:=1)) ae)) (ai (i:=4) eK.nd) (ah (aQ (i:=5) (br (ih:=0) cm.mono GT (hr.mono (by decide)) dT.m dT.F.kp dT.b (aa ag ae)) eK.nd)
    (ah (bo (aA af (bq.m (dG hr.units)) (ab (i:=5)) ag) (aj (d4 (i:=3) (λ_=>(ab (i:=4))))) aM)
    (aj (bo (tE.t (jK (aA af (bq.m (dG hr.units)) (ab (i:=5)) ag) (gM (aA af (bq.m (d7 hr.units)) (ab (i:=3)) (bS ae))))) (aj (d4 (i:=2) (λ_=>(aR (aa (DE (i:=3)) (aa (ab (i:=4)) ae)))))) aM)))))
    (aj (aO (a9 aK uG B.sorted g6 (aa (ab (i:=2)) ae))))))),λds R h=>?_⟩
 obtain⟨n,rfl,n0,n1,q⟩:=h;refine{aab _,tv,aab _,tv,_,rfl,tv,n,rfl,by omega,by omega,tv,?_}
 refine{λi β=>∃(fs:List (List Int)) (ps:List Int) (x4 x5:Option Q.B),β=[ν (.hand i4),ν (.val η (.int n)),ν (.own (.lst (fs.map kD))),ν (.own (.lst (ps.map D.int))),x4,x5]/\fs.length<=i/\ps.length<=i/\i<=n.toNat/\bV n fs/\(∀p∈ps,0<=p/\p<i),{[],[],_,_,rfl,ZX _,ZX _,aab _,bV.nil,λ_ z=>(nomatch z)},?_,?_}
 ·rintro i d β hd ⟨fs,ps,x4,x5,rfl,h1,h2,h3,h4,h5⟩;obtain⟨hi,rfl⟩:=bL hd;refine{rfl,tv,rfl,tv,3,rfl,by omega,by omega,λr r0 r1=>?_}
  refine{_,rfl,tv,_,cW _ _,_,rfl,?_};have fin:∃(uM:List (List Int)) (Tt:List Int) (x4 x5:Option Q.B),[ν (.hand i4),ν (.val η (.int n)),ν (.own (.lst (fs.map kD))),ν (.own (.lst (ps.map D.int))),ν (.val ζ (.int (0+(i:Int)))),ν (.val ζ (.int r))]=[ν (.hand i4),ν (.val η (.int n)),ν (.own (.lst (uM.map kD))),ν (.own (.lst (Tt.map D.int))),x4,x5]/\uM.length<=i+1/\Tt.length<=i+1/\i+1<=n.toNat/\bV n uM/\(∀p∈Tt,0<=p/\p<((i+1:Nat):Int)) :=
    {fs,ps,_,_,rfl,by omega,by omega,by omega,h4,λp hp=>by have:=h5 p hp;omega}
  refine qc (λLb=>?_) (λLb=>?_)
  ·refine{{_,rfl},_,rfl,tv,_,rfl,by rw[ZU,aaT];omega,?_}
   refine{_,rfl,tv,_,cW _ _,_,rfl,gB (by simp[Lb]) (gB rfl ?_)}
   refine{fs,ps++[0+(i:Int)],_,_,by rw[C4];rfl,by omega,by simp;omega,by omega,h4,λp hp=>?_}
   rcases Z9.mp hp with z|z
   ·have:=h5 p z;omega
   ·rw[ZY.mp z];omega
  ·refine{_,rfl,tv,_,cW _ _,_,rfl,qc (λr2=>?_) (λr2=>gB rfl fin)};refine{_,rfl,tv,aab _,_,FQ ps [],_,rfl,RT (λhp=>?_) (λhp=>fin)};obtain⟨qs,p,rfl⟩:∃qs p,ps=qs++[p]:={ps.dropLast,ps.getLast hp,(List.dropLast_concat_getLast hp).symm};have Nz:=h5 p (by simp)
   rw[aag,abo]at h2;refine{{_,rfl},qs.map D.int,.int p,by simp,tv,_,rfl,tv,gF,tv,fs.map kD,rfl,by rw[ZU,aaT];omega,?_}
   refine{fs++[[p,0+(i:Int)]],qs,_,_,by rw[oz];rfl,by simp;omega,by omega,by omega,h4.app (bV.one (by omega) (by omega) (by omega)),λx hx=>?_}
   have:=h5 x (by simp[hx])
   omega
 ·rintro β ⟨fs,ps,x4,x5,rfl,h1,h2,h3,h4,h5⟩;rw[b5]at h1;refine{_,rfl,tv,_,xJ h4.ne (by omega),.inl {fY _,tv,rfl,q _ ?_ (CW h4)}}
  rw[(dw fs).length_eq];exact h1
end
section
variable {P:Z6}{w:aam}{K:Ξ}{mg:Str->Option ZW}{base:Heap}
def a7:aN ["hand","many","way","found","k","one","other","reach","kinds","wide"] ["hand","many"] (aw hZ):=mkS
def T9 (n way:Int)(f:Q.B)(β:Q.ba):Prop:=∃x4 x5 x6 x7 x8 x9:Option Q.B,β=[ν (.hand i4),ν (.val η (.int n)),ν (.val ζ (.int way)),ν f,x4,x5,x6,x7,x8,x9]
def Hw {NK BG}(dI:D2 K mg NK BG){IF ux}(dT:D1 K mg IF ux){J1 wu}(dA:D0 K mg J1 wu)(B:Bs mg):aG P w K mg base bt 3 NK BG ["hand","many"] (jX P w i4 ζ wz):=by
 have GT:aG P w K mg base bt 1 _ _ _ (jX P w i4 ζ cm):=o3 (lM dT.F);have GA:aG P w K mg base bt 2 _ _ _ (jX P w i4 ζ wF):=HC dA dT B;refine HD dI.F a7 (λds R Qs=> by obtain⟨n,e,_⟩ := Qs;subst e;rfl) λc_ A outer s H E IO hr=>⟨_,(ah (aQ (i:=2) (br (ih:=0) cm.mono GT (hr.mono (by decide)) dT.m dT.F.kp dT.b (aa ag ae)) a7.nd)
    (ah (dD (i:=3) (λ_=>(bS ae)) a7.nd)
    (bf (bo (tE.t (mE (aA af (bq.m (dG hr.units)) (ab (i:=2)) ag) (jJ (aA af (bq.m (dG hr.units)) (ab (i:=2)) ag)))) (aj (cG aaU rfl (bc B.range (aa (br (ih:=0) cm.mono GT (hr.mono (by decide)) dT.m dT.F.kp dT.b (aa (aF af aU (bS (aa ag (aa ag (aa ag ae)))) (br (ih:=0) cm.mono GT (hr.mono (by decide)) dT.m dT.F.kp dT.b (aa ag ae))) ae)) ae)) (ai (i:=4) a7.nd) (ah (aQ (i:=5) (br (ih:=0) cm.mono GT (hr.mono (by decide)) dT.m dT.F.kp dT.b (aa (ab (i:=1)) ae)) a7.nd)
    (ah (aQ (i:=6) (aC af (bq.m zF) (aC aK au (aC aK au (ab (i:=5)) ag) (br (ih:=0) cm.mono GT (hr.mono (by decide)) dT.m dT.F.kp dT.b (aa (aC af (bq.m aY) (ab (i:=1)) ag) ae))) (ab (i:=1))) a7.nd)
    (aj (d4 (i:=3) (λ_=>(aR (aa (a9 af (bU.m (d_ rfl)) B.min nc (aa (ab (i:=5)) (aa (ab (i:=6)) ae))) (aa (a9 af (bU.m (iD rfl)) B.max ng (aa (ab (i:=5)) (aa (ab (i:=6)) ae))) ae)))))))))) aM)
    (ah (aQ (i:=7) (aC aK au ag (br (ih:=0) cm.mono GT (hr.mono (by decide)) dT.m dT.F.kp dT.b (aa ag ae))) a7.nd)
    (bf (bo (aA af (bq.m (dG hr.units)) (ab (i:=2)) ag) (aj (cG aaU rfl (bc B.range (aa (ab (i:=1)) ae)) (ai (i:=5) a7.nd) (aj (cG aaU rfl (ku B.range (aa (aC aK au (ab (i:=5)) ag) (aa (a9 af (bU.m (d_ rfl)) B.min nc (aa (ab (i:=1)) (aa (aC aK au (aC aK au (ab (i:=5)) ag) (ab (i:=7))) ae))) ae))) (ai (i:=6) a7.nd) (aj (bo (aA af (bq.m mJ) (br (ih:=0) cm.mono GT (hr.mono (by decide)) dT.m dT.F.kp dT.b (aa ag ae)) ag) (aj (d4 (i:=3) (λ_=>(aR (aa (ab (i:=5)) (aa (ab (i:=6)) ae)))))) aM)))))) aM)
    (bf (bo (aA af (bq.m (dG hr.units)) (ab (i:=2)) ag) (ah (aQ (i:=8) (EF ["point","hand"] [ξ,ν 0] (by rfl) (by decide:(["point","hand"]:List Str).Nodup) rfl (bc B.range (aa (ab (i:=1)) ae)) (λ_ _ _ _ _ _=>(ai (i:=0) (by decide:(["point","hand"]:List Str).Nodup))) (λ_ _ _ _ _ _=>cz) (λ_ _ _ _ _ _=>(br (ih:=1) cm.mono GT (hr.mono (by decide)) dT.m dT.F.kp dT.b (aa ag ae)))) a7.nd)
    (ah (aQ (i:=9) (aF af aU (bS (aa (ab (i:=1)) (aa ag ae))) (sg af (bU.m BY) B.int F3 (aa (kz af (bq.m mJ) (ab (i:=1)) ag) ae))) a7.nd)
    (aj (cG aaU rfl (bc B.range (aa (ab (i:=1)) ae)) (ai (i:=5) a7.nd) (aj (su (i:=3) (EF ["k","one","kinds"] [ξ,ν 5,ν 8] (by rfl) (by decide:(["k","one","kinds"]:List Str).Nodup) rfl (ku B.range (aa (aC aK au (ab (i:=5)) ag) (aa (a9 af (bU.m (d_ rfl)) B.min nc (aa (ab (i:=1)) (aa (aC aK au (ab (i:=5)) (ab (i:=9))) ae))) ae))) (λ_ _ _ _ _ _=>(ai (i:=0) (by decide:(["k","one","kinds"]:List Str).Nodup))) (λ_ _ _ _ _ _=>(fH (aA af (bq.m (dG hr.units)) (aC aK au (aF af aU (ab (i:=2)) (ab (i:=1))) (aF af aU (ab (i:=2)) (ab (i:=0)))) ag))) (λ_ _ _ _ _ _=>(aR (aa (ab (i:=1)) (aa (ab (i:=0)) ae))))))))))) aM)
    (bf (bo (aA af (bq.m (dG hr.units)) (ab (i:=2)) ag) (aj (dD (i:=3) (λ_=>(aC aK au (Lq (i:=3)) (br (ih:=0) wF.mono GA (hr.mono (by decide)) dA.m dA.F.kp dA.b (aa (ab (i:=1)) ae)))) a7.nd)) aM)
    (aj (aO (sf (a9 aK (l9 rfl) B.sorted g6 (aa (sg af (bU.m (BW rfl hr.lb)) B.set yP (aa (ab (i:=3)) ae)) ae)) gO (gN ag))))))))))),λds R h=>?_⟩
 obtain⟨n,rfl,n0,n1,q⟩:=h;refine{rfl,tv,rfl,tv,5,rfl,by lia,by lia,λway w0 w1=>?_}
 refine{aab _,tv,?_};refine{λβ=>∃fs:List (List Int),T9 n way (.own (.lst (fs.map kD))) β/\bV n fs/\fs.length<=300/\(way≠1->way≠4->fs=[]),?_,?_}
 ·-- drawn Xl
  have no:∃fs:List (List Int),T9 n way (.own (.lst (fs.map kD))) [ν (.hand i4),ν (.val η (.int n)),ν (.val ζ (.int way)),ν (.own (.lst [])),ξ,ξ,ξ,ξ,ξ,ξ]/\bV n fs/\fs.length<=300/\(way≠1->way≠4->fs=[]) :=
   {[],{_,_,_,_,_,_,rfl},bV.nil,by simp,λ_ _=>rfl}
  refine(λ(key:way=1\/way=4->_)=>{_,rfl,tv,_,cW _ _,_,rfl,qc (λh1=>qT rfl (key (.inl h1))) (λh1=>{_,rfl,tv,_,cW _ _,_,rfl,qc (λh4=>key (.inr h4)) (λh4=>no)})}) ?_
  ·intro Zs;refine{rfl,tv,tv,tv,SS,tv,rfl,tv,rfl,tv,3,rfl,by lia,by lia,λr r0 r1=>pick r0 (by simpa using r1) λd hd=>?_}
   obtain⟨m,rfl,m0,m1⟩:∃m:Int,d=.int m/\0<m/\m<=301:=by
    simp only[Z1,List.not_mem_nil,or_false]at hd;rcases hd with rfl|rfl|rfl
    ·exact{5,rfl,by lia,by lia}
    ·exact{12,rfl,by lia,by lia}
    ·exact{301,rfl,by lia,by lia}
   refine{tv,rfl,tv,m,rfl,m0,by lia,λj j0 j1=>{tv,j,rfl,by lia,by lia,tv,?_}}
   refine{λi β=>∃fs:List (List Int),T9 n way (.own (.lst (fs.map kD))) β/\bV n fs/\fs.length<=i,{[],{_,_,_,_,_,_,rfl},bV.nil,by simp},?_,?_}
   ·rintro i d β hd ⟨fs,⟨x4,x5,x6,x7,x8,x9,rfl⟩,ht,hl⟩;obtain⟨hi,rfl⟩:=bL hd;refine{rfl,_,rfl,tv,rfl,tv,n,rfl,by lia,by lia,λone o0 o1=>?_}
    refine{_,rfl,tv,_,rfl,tv,rfl,_,rfl,tv,_,rfl,tv,rfl,tv,n-1,rfl,by lia,by lia,λr' V2 Lb=>?_}
    have ML:M6 (.int (one+1+r')) (.int n)=ν (.int ((one+1+r') % n)):=χ (by lia)
    refine{_,rfl,tv,_,rfl,_,ML,?_};refine{{_,rfl},_,rfl,tv,_,rfl,tv,_,rfl,tv,_,rfl,tv,_,rfl,tv,_,rfl,tv,gF,tv,_,rfl,by rw[ZU,aaT];lia,?_}
    have Im:(one+1+r') % n≠one/\0<=(one+1+r') % n/\(one+1+r') % n<n:=by
     by_cases gV:one+1+r'<n
     ·rw[Int.emod_eq_of_lt (by lia) gV];lia
     ·rw[show one+1+r'=(one+1+r' - n)+n by lia,Int.add_emod_right,Int.emod_eq_of_lt (by lia) (by lia)];lia
    generalize (one+1+r') % n=RC at Im;refine{fs++[[if RC<one then RC else one,if RC>one then RC else one]],{_,_,_,_,_,_,by rw[oz];rfl},ht.app (bV.one ?_ ?_ ?_),by simp;lia}
    all_goals (split <;> (try split) <;> lia)
   ·rintro β ⟨fs,h9,ht,hl⟩;rw[b5]at hl;exact{fs,h9,ht,by lia,λa b=>by lia}
 ·rintro β ⟨fs,⟨x4,x5,x6,x7,x8,x9,rfl⟩,ht,hl,hz⟩;refine{tv,rfl,tv,rfl,tv,6,rfl,by lia,by lia,λreach e0 e1=>{_,rfl,?_}}
  refine{λβ=>∃fs:List (List Int),T9 n way (.own (.lst (fs.map kD))) β/\bV n fs/\fs.length<=300/\(way=3->fs=[]),?_,?_}
  ·have no:∃uM:List (List Int),T9 n way (.own (.lst (uM.map kD))) [ν (.hand i4),ν (.val η (.int n)),ν (.val ζ (.int way)),ν (.own (.lst (fs.map kD))),x4,x5,x6,ν (.val ζ (.int (1+reach))),x8,x9]/\bV n uM/\uM.length<=300/\(way=3->uM=[]) :=
    {fs,{_,_,_,_,_,_,rfl},ht,hl,λh=>hz (by lia) (by lia)}
   refine{_,rfl,tv,_,cW _ _,_,rfl,qc (λw2=>?_) (λw2=>no)};have T5:fs=[]:=hz (by lia) (by lia)
   subst T5;refine{_,rfl,tv,n,rfl,by lia,by lia,tv,?_}
   refine{λi β=>∃(fs:List (List Int)) (y4 y5 y6 y8 y9:Option Q.B),β=[ν (.hand i4),ν (.val η (.int n)),ν (.val ζ (.int way)),ν (.own (.lst (fs.map kD))),y4,y5,y6,ν (.val ζ (.int (1+reach))),y8,y9]/\bV n fs/\fs.length<=i*6,{[],_,_,_,_,_,rfl,bV.nil,by simp},?_,?_}
   ·rintro i d β hd ⟨fs,y4,y5,y6,y8,y9,rfl,ht,hl⟩;obtain⟨hi,rfl⟩:=bL hd;refine{_,rfl,tv,_,rfl,tv,_,rfl,tv,_,rfl,tv,_,rfl,tv,_,rfl,_,rfl,tv,_,rfl,tv,_,_,rfl,{by lia,by lia,by split <;> lia,by split <;> lia},tv,?_}
    generalize R5:(0:Int)+(i:Int)+1=lo;have U6:((if lo+(1+reach)<n then lo+(1+reach) else n)-lo).toNat<=6/\(if lo+(1+reach)<n then lo+(1+reach) else n)<=n:=by split <;> lia
    generalize (if lo+(1+reach)<n then lo+(1+reach) else n)=iY at U6
    refine{λk β=>∃(fs:List (List Int)) (y4 y6 y8 y9:Option Q.B),β=[ν (.hand i4),ν (.val η (.int n)),ν (.val ζ (.int way)),ν (.own (.lst (fs.map kD))),y4,ν (.val ζ (.int (0+(i:Int)))),y6,ν (.val ζ (.int (1+reach))),y8,y9]/\bV n fs/\fs.length<=i*6+k,{fs,_,_,_,_,rfl,ht,by lia},?_,?_}
    ·rintro k d β hd ⟨fs,y4,y6,y8,y9,rfl,ht,hl⟩;obtain⟨hk,rfl⟩:=bL hd;refine{rfl,tv,rfl,tv,3,rfl,by lia,by lia,λr r0 r1=>{tv,_,rfl,_,rfl,qc (λhp=>?_) (λhp=>?_)}}
     ·refine{{_,rfl},_,rfl,tv,_,rfl,tv,gF,tv,_,rfl,by rw[ZU,aaT];lia,?_}
      exact{fs++[[0+(i:Int),lo+(k:Int)]],_,_,_,_,by rw[oz];rfl,ht.app (bV.one (by lia) (by lia) (by lia)),by simp;lia}
     ·exact{fs,_,_,_,_,rfl,ht,by lia}
    ·rintro β ⟨fs,y4,y6,y8,y9,rfl,ht,hl⟩;rw[b5]at hl;exact{fs,_,_,_,_,_,rfl,ht,by lia}
   ·rintro β ⟨fs,y4,y5,y6,y8,y9,rfl,ht,hl⟩;rw[b5]at hl;exact{fs,{_,_,_,_,_,_,rfl},ht,by lia,λh=>by lia}
  ·rintro β ⟨fs,⟨x4,x5,x6,x7,x8,x9,rfl⟩,ht,hl,hz⟩;refine{λβ=>∃fs:List (List Int),T9 n way (.own (.lst (fs.map kD))) β/\bV n fs/\fs.length<=960/\(way=4->fs.length<=300),?_,?_}
   ·have no:∃uM:List (List Int),T9 n way (.own (.lst (uM.map kD))) [ν (.hand i4),ν (.val η (.int n)),ν (.val ζ (.int way)),ν (.own (.lst (fs.map kD))),x4,x5,x6,x7,x8,x9]/\bV n uM/\uM.length<=960/\(way=4->uM.length<=300) :=
     {fs,{_,_,_,_,_,_,rfl},ht,by lia,λh=>hl}
    refine{_,rfl,tv,_,cW _ _,_,rfl,qc (λw3=>?_) (λw3=>no)};have T5:fs=[]:=hz w3;subst T5;refine{_,rfl,tv,n,rfl,by lia,by lia,tv,?_}
    refine{λi β o=>(∃x0,β=[x0,ν (.hand i4)])/\∃ks:List Int,o=ks.map D.int/\ks.length=i/\∀k∈ks,0<=k/\k<3,{{_,rfl},[],rfl,rfl,λ_ z=>(nomatch z)},?_,?_}
    ·rintro i d β o hd ⟨⟨x0,rfl⟩,ks,rfl,hk,WH⟩;obtain⟨hi,rfl⟩:=bL hd;refine{rfl,tv,rfl,tv,3,rfl,by lia,by lia,λr r0 r1=>{tv,by rw[ZU,aaT];lia,{_,rfl},ks++[r],by simp,by simp[hk],λk hk=>?_}}
     rcases Z9.mp hk with z|z
     ·exact WH k z
     ·rw[ZY.mp z];exact{(r0),r1}
    rintro β o ⟨⟨x0,rfl⟩,ks,rfl,ho,WH⟩;rw[b5]at ho;refine{{(rfl),tv},?_};obtain⟨wd,YX,Zr,Zq⟩:∃wd:Int,xp (.lst [.int n,.int 14]) (.int (if decide (n>24)=ζ then 1 else 0))=ν (.int wd)/\0<=wd/\wd<=24:=by
     by_cases hn:n>24
     ·exact{14,by rw[χ (by simpa using hn)];rfl,by lia,by lia}
     ·exact{n,by rw[ω (by simpa using hn)];rfl,by lia,by lia}
    refine{_,rfl,tv,tv,gF,tv,_,rfl,tv,_,rfl,tv,_,rfl,_,YX,?_};refine{_,rfl,tv,n,rfl,by lia,by lia,tv,?_}
    refine{λi β=>∃(fs:List (List Int)) (y4 y5 y6 y7:Option Q.B),β=[ν (.hand i4),ν (.val η (.int n)),ν (.val ζ (.int way)),ν (.own (.lst (fs.map kD))),y4,y5,y6,y7,ν (.val ζ (.lst (ks.map D.int))),ν (.val ζ (.int wd))]/\bV n fs/\fs.length<=i*24,{[],_,_,_,_,rfl,bV.nil,by simp},?_,?_}
    ·rintro i d β hd ⟨fs,y4,y5,y6,y7,rfl,ht,hl⟩;obtain⟨hi,rfl⟩:=bL hd;refine{{_,rfl},_,rfl,tv,_,rfl,tv,_,rfl,tv,_,rfl,tv,_,rfl,_,rfl,tv,_,rfl,tv,_,_,rfl,{by lia,by lia,by split <;> lia,by split <;> lia},tv,?_}
     have U6:((if 0+(i:Int)+wd<n then 0+(i:Int)+wd else n)-(0+(i:Int)+1)).toNat<=24/\(if 0+(i:Int)+wd<n then 0+(i:Int)+wd else n)<=n:=by split <;> lia
     generalize (if 0+(i:Int)+wd<n then 0+(i:Int)+wd else n)=iY at U6
     refine{λj β o=>(∃x0,β=[x0,ν (.val ζ (.int (0+(i:Int)))),ν (.val ζ (.lst (ks.map D.int)))])/\∃us:List (List Int),o=us.map kD/\us.length<=j/\bV n us,{{_,rfl},[],rfl,ZX _,bV.nil},?_,?_}
     ·rintro j d β o hd ⟨⟨x0,rfl⟩,us,rfl,hj,mW⟩;obtain⟨MP,rfl⟩:=bL hd;obtain⟨r1,_,e1⟩:=wM (ks:=ks) (i:=0+(i:Int)) (by lia) (by lia)
      obtain⟨r2,_,e2⟩:=wM (ks:=ks) (i:=0+(i:Int)+1+(j:Int)) (by lia) (by lia)
      refine{_,rfl,tv,_,rfl,_,e1,tv,_,rfl,tv,_,rfl,_,e2,_,rfl,tv,_,cW _ _,_,rfl,qc (λh=>?_) (λh=>{{_,rfl},us,rfl,by lia,mW})}
      refine{_,rfl,tv,_,rfl,tv,gF,tv,by rw[ZU,aaT];lia,{_,rfl},us++[[0+(i:Int),0+(i:Int)+1+(j:Int)]],by rw[oz];rfl,by simp;lia,mW.app (bV.one (by lia) (by lia) (by lia))}
     ·rintro β o ⟨⟨x0,rfl⟩,us,rfl,hlen,mW⟩;rw[b5]at hlen;refine{tv,_,us.map kD,rfl,fY us,rfl,by rw[ZU,ZU,aaT];lia,?_}
      exact{fs++us,_,_,_,_,by rw[aaj];rfl,ht.app mW,by simp;lia}
    ·rintro β ⟨fs,y4,y5,y6,y7,rfl,ht,hl⟩;rw[b5]at hl;exact{fs,{_,_,_,_,_,_,rfl},ht,by lia,λh=>by lia}
   ·rintro β ⟨fs,⟨x4,x5,x6,x7,x8,x9,rfl⟩,ht,hl,hz⟩;refine{λβ=>∃fs:List (List Int),T9 n way (.own (.lst (fs.map kD))) β/\bV n fs/\fs.length<1000,?_,?_}
    ·refine{_,rfl,tv,_,cW _ _,_,rfl,qc (λw4=>?_) (λw4=>{fs,{_,_,_,_,_,_,rfl},ht,by lia})}
     have:=hz w4;refine{_,rfl,tv,rfl,_,rfl,tv,rfl,tv,n,rfl,by lia,by lia,λts tl tt=>?_}
     have ea:wO (.lst (fs.map kD)) (.lst (ts.map kD))=ν (.lst ((fs++ts).map kD)):=by
      rw[aaj];exact χ (by rw[ZU,ZU,aaT];lia)
     exact{_,ea,.inl {fY _,tv,fs++ts,{_,_,_,_,_,_,rfl},ht.app tt,by simp;lia}}
    ·rintro β ⟨fs,⟨x4,x5,x6,x7,x8,x9,rfl⟩,ht,hl⟩;obtain⟨ts,e,i5⟩:=FN ht;refine{_,rfl,tv,_,Dc ht.ne hl,.inr {tv,_,o7 ht.ne hl,.inl {fY _,300,rfl,_,rfl,?_}}};rw[e];exact .inl {fY _,tv,rfl,q _ i5}
def pk:aN ["hand","many"] ["hand"] (aw jG):=mkS
def LO {R_ IC}(dR:D3 K mg R_ IC){IF ux}(dT:D1 K mg IF ux){J1 wu}(dA:D0 K mg J1 wu){NK BG}(dI:D2 K mg NK BG)(B:Bs mg):aG P w K mg base bt 4 R_ IC ["hand"] (jX P w i4 ζ BI):=by
 have GT:aG P w K mg base bt 1 _ _ _ (jX P w i4 ζ cm):=o3 (lM dT.F);have GI:aG P w K mg base bt 3 _ _ _ (jX P w i4 ζ wz):=Hw dI dT dA B;refine HD dR.F pk (λds R Qr=> by obtain⟨e,_⟩ := Qr;subst e;rfl) λc_ A outer s H E IO hr=>⟨_,(ah (aQ (i:=1) (br (ih:=0) cm.mono GT (hr.mono (by decide)) dT.m dT.F.kp dT.b (aa (aF af aU (bS (aa ag (aa ag (aa ag (aa ag ae))))) (br (ih:=0) cm.mono GT (hr.mono (by decide)) dT.m dT.F.kp dT.b (aa ag ae))) ae)) pk.nd)
    (ah (bo (aA af (bq.m cY) (ab (i:=1)) ag) (aj (aO (aR (aa (ab (i:=1)) (aa (bS ae) ae))))) aM)
    (aj (aO (aR (aa (ab (i:=1)) (aa (br (ih:=0) wz.mono GI (hr.mono (by decide)) dI.m dI.F.kp dI.b (aa (ab (i:=1)) ae)) ae))))))),λds R h=>?_⟩
 obtain⟨rfl,q⟩:=h;refine{rfl,tv,tv,tv,tv,(by show 4<=aak;decide),tv,rfl,tv,rfl,tv,4,rfl,by lia,by lia,λr r0 r1=>pick r0 (by simpa using r1) λd hd=>?_}
 obtain⟨m,rfl,m0,m1⟩:∃m:Int,d=.int m/\0<m/\m<=41:=by
  simp only[Z1,List.not_mem_nil,or_false]at hd;rcases hd with rfl|rfl|rfl|rfl
  ·exact{7,rfl,by lia,by lia}
  ·exact{7,rfl,by lia,by lia}
  ·exact{11,rfl,by lia,by lia}
  ·exact{41,rfl,by lia,by lia}
 refine{tv,rfl,tv,m,rfl,m0,by lia,λn j0 j1=>?_}
 refine{_,rfl,tv,_,rfl,_,rfl,qc (λh=>?_) (λh=>?_)}
 ·exact{_,rfl,tv,aab _,tv,gF,tv,rfl,q n [] j0 (by lia) {by simp,bV.nil,List.Pairwise.nil,aa0}}
 ·exact{_,rfl,tv,rfl,_,rfl,tv,rfl,tv,n,rfl,by lia,by lia,λts i5=>{tv,gF,tv,rfl,q n ts j0 (by lia) i5}}
end
end qW
namespace L2.Q
open PySem PySem.Spec PySem.SeqAt PyProof.Rows
def BM (ns:List Int)(lo hi:Option Int):∃ms:List Int,wR (ns.map V.int) lo hi=ms.map V.int/\ms.length<=ns.length:=by
 refine{(ns.drop (HT.pA (ns.map V.int).length 0 lo)).take (HT.pA (ns.map V.int).length (ns.map V.int).length hi-HT.pA (ns.map V.int).length 0 lo),?_,?_}
 ·unfold wR;rw[ab7,acW]
 ·rw[aaw,ack];lia
section
variable {P:Z6}{w:aam}
theorem bj {W:θ->Prop}{H:Hp}:∀ns:List Int,ak P w W H (ns.map D.int) (ns.map V.int)
 |[]=>rfl
 |n::ns=>{_,_,rfl,rfl,bj ns}
def GY {N:List Str}{vs:List V}{H H':Hp}{n:Nat}{ro:Bool}{U:θ->Prop}(hl:(L2.start N vs).length=n)(sm:aB H H'):cZ P w {H,λ_=>False,ro,U} (L2.start N vs) H' (acf n ξ) (λ_=>[]) :=
 {by rw[hl,List.length_replicate],λi y d h=>(jf h).elim,λi d h=>(jf h).elim,λi ok h=>(jf h).elim,λi a h=>(nomatch h),λi j a h=>(nomatch h),λi=>aa0,sm.kp,λa z e=>z (sm.free e),λi y d h=>(jf h).elim}
def Oj {ro:Bool}{H H':Hp}{b:Bool}{v:V}(h:xg P w ro H H' (.bl b) v):v=.bl b:=by
 cases ro with
 |true=>obtain⟨A,h1,_⟩:=h;exact h1.1
 |false=>exact h
end
end L2.Q
namespace L2
open PySem PySem.Spec PySem.SeqAt PyProof.Rows
abbrev La (n:Int)(rows:List (List Int)):D:=.tup [.int n,.lst (rows.map kD)]
def AU (n:Int)(rows:List (List Int)):(La n rows).pd.canLay0=ζ/\(La n rows).pd.depth<=4:=mw λd hd=>by
 rcases Z1.mp hd with rfl|hd
 ·exact{(bh n).1,aaH (bh n).2 (by decide)}
 ·rw[ZY.mp hd];exact hE rows
end L2
namespace L2.Q
open PySem PySem.Spec PySem.SeqAt PyProof.Rows
def F0 {β:ba}{i j k l:Nat}{y1 y2 y3 y4:Bool}{a b c d:Int}{R:D->Kd->ba->Prop}(h1:β[i]?=ν (ν (.val y1 (.int a))))(h2:β[j]?=ν (ν (.val y2 (.int b))))(h3:β[k]?=ν (ν (.val y3 (.int c))))(h4:β[l]?=ν (ν (.val y4 (.int d))))
  (q:R (.bl (decide (a<b)&&(decide (b<c)&&decide (c<d)))) .own β):xQ (Dr i) (Lk Se (Dr j) (Lk Se (Dr k) (OA Se (Dr l)))) β R:=by
 refine{_,h1,_,h2,_,rfl,qc (λz1=>{_,h3,_,rfl,qc (λz2=>{_,h4,_,rfl,?_}) (λz2=>?_)}) (λz1=>?_)}
 ·simpa[z1,z2] using q
 ·simpa[z1,z2] using q
 ·simpa[z1] using q
section
variable {X:Cx}{C:Cfg}{pos p2 p3 p4:Pos}{e a:Expr}{φ:aP}{p:Bool}
def Ti (φ:aP):aP:=λβ R=>φ β λx k β1=>∃d,Vt x=ν d/\kN NL d k.wk λk'=>R d k' β1
def DD {j:Nat}(ha:PQ X C p a φ):PQ X C p (.Subscript a (.Slice ξ ξ (ν (.UnaryOp .USub (.Constant (.int 1) j p3) p4)) p2) pos) (Ti φ) :=
 ⟨λβ R R' k h=>ha.mono β _ _ (λx kx β1 yq=>by obtain⟨d,e,q⟩:=yq;exact{d,e,q.mono λ_ z=>k _ _ _ z}) h,
  (Lv ha.pe).pre λσ H Q ⟨β,own,s,h⟩=>tQ.of ha s h λd k β1 v H1 aH EY o1 r1=>by
    obtain⟨d',e,q⟩:=EY;have rr:=aE.a_ Az r1.rep
    match d,e with
    |.lst ds,e =>
      cases e;obtain⟨c,vs,rfl,h1,n1,rs⟩:=rr;refine .inl {c,vs,rfl,h1,λp hp=>?_};have sm:aB H1 (upd H1 p (.lst vs.reverse)):=aB.new hp;have hw:¬ av C (Wn aH) k.wk p:=λz=>o1.sq.FO _ p z hp;have r2:aE X.prog X.w (av C (Wn aH) k.wk) (upd H1 p (.lst vs.reverse)) (.lst ds.reverse) (.ref p):={p,_,rfl,ar,hw,(ak.rev rs).same sm};obtain⟨k',q,r⟩:=KV.kN (Z:=(H,Wn own)) CD r2 (λn=>jM (H:=H1) o1.sq.yH o1.sq.ju (λa z e=>o1.sn.d a z e) n {p,_,rfl,ar,λz=>z hp,ak.flat n ((ak.rev rs).same sm)}) q;exact q _ _ aH (o1.same sm) r
    |.tup ds,e =>
      cases e;obtain⟨c,vs,rfl,h1,rs⟩:=rr;refine .inr {c,vs,rfl,h1,λp hp=>?_};have sm:aB H1 (upd H1 p (.tup vs.reverse)):=aB.new hp;exact q _ _ aH (o1.same sm) (by
        have r2:aE X.prog X.w (av C (Wn aH) k.wk) (upd H1 p (.tup vs.reverse)) (.tup ds.reverse) (.ref p):={p,_,rfl,ar,(ak.rev rs).same sm};cases k <;> exact r2)⟩
end
end L2.Q
namespace L2
open PySem PySem.Spec PyProof.Rows
section
variable {κ:Type}[DecidableEq κ]
def iU (kvs:List (κ×V))(k:κ):Option V:=(kvs.find? λkv=>decide (kv.1=k)).map (·.2)
def putK (kvs:List (κ×V))(k:κ)(v:V):List (κ×V) :=
 if (kvs.any λkv=>decide (kv.1=k))=ζ then kvs.map (λkv=>if kv.1=k then (kv.1,v) else kv) else kvs++[(k,v)]
def oU {p:κ×V}{r:List (κ×V)}{k:κ}(e:p.1=k):iU (p::r) k=ν p.2:=by simp[iU,abt,e]
def oV {p:κ×V}{r:List (κ×V)}{k:κ}(e:¬ p.1=k):iU (p::r) k=iU r k:=by simp[iU,abt,e]
theorem oW (k:κ):∀kvs:List (κ×V),(kvs.any λkv=>decide (kv.1=k))=(iU kvs k).isSome
 |[]=>rfl
 |p::r=>by
  rw[List.any_cons]
  by_cases e:p.1=k
  ·simp only[oU e,Γ e,Bool.true_or,Option.isSome_some]
  ·rw[oV e,Δ e,Bool.false_or];exact oW k r
def vO (kvs:List (κ×V))(k:κ)(v:V):(putK kvs k v).length<=kvs.length+1:=by
 unfold putK
 split
 ·rw[ZU];lia
 ·rw[aag,aaa,acD];lia
def Dt {kvs:List (κ×V)}{k:κ}(v:V)(h:iU kvs k=ξ):putK kvs k v=kvs++[(k,v)]:=by
 unfold putK;rw[oW,h];exact ω (by decide)
def rO.Bx {o:Option V}{u:Option ZW}(r:rO o u):o.isSome=u.isSome:=by
 cases o with
 |none=>cases u with
  |none=>rfl
  |some _=>exact(show False from r).elim
 |some _=>cases u with
  |none=>exact(show False from r).elim
  |some _=>rfl
def KV.val {kvs:List (κ×V)}{vs:List (κ×ZW)}(r:KV kvs vs)(k:κ):rO (iU kvs k) (valueAt vs k):=by
 unfold KV at r
 induction r with
 |nil=>exact True.intro
 | @cons p q ps qs h t ih =>
  obtain⟨h1,h2⟩:=h
  by_cases e:p.1=k
  ·have e':q.1=k:=h1.symm.trans e;have b:valueAt (q::qs) k=ν q.2:=by simp[valueAt,abt,e']
   rw[oU e,b];exact h2
  ·have e':¬ q.1=k:=λz=>e (h1.trans z);have b:valueAt (q::qs) k=valueAt qs k:=by simp[valueAt,abt,e']
   rw[oV e,b];exact ih
end
def JM {P:Z6}{w:aam}{k:Key}{u:ZW}(r:RelV (kV k) u):(cS P w).is k u=ζ:=by
 cases k with
 |inl i=>obtain⟨t,e⟩:=(show ∃t,u=Value.int i t from r);subst e;exact vD P w i t
 |inr x=>obtain⟨t,e⟩:=(show ∃t,u=Value.str x t from r);subst e;exact vC P w x t
theorem sN {P:Z6}{w:aam}:∀{ks:List Key} {us:List ZW},Vals (ks.map kV) us->ItemsAre (cS P w) ks us
 |[],_,r=>by rw[List.map_nil]at r;cases r;exact .nil
 |k::ks,_,r=>by
  rw[aap]at r;cases r with
  |cons h t=>exact .cons (JM h) (sN t)
abbrev KT (H:Hp):List (List Key×V)->List (List Key×θ×ZW)->Prop:=Paired λp q=>p.1=q.1/\H q.2.1=ν (.tup (p.1.map kV))/\RelV p.2 q.2.2
def KT.val {H:Hp}{kvs:List (List Key×V)}{xs:List (List Key×θ×ZW)}(r:KT H kvs xs)(k:List Key):rO (iU kvs k) ((atKey xs k).map (·.2)):=by
 induction r with
 |nil=>exact True.intro
 | @cons p q ps qs h t ih =>
  obtain⟨h1,_,h2⟩:=h
  by_cases e:p.1=k
  ·have e':q.1=k:=h1.symm.trans e;have b:atKey (q::qs) k=ν q.2:=by simp[atKey,abt,e']
   rw[oU e,b];exact h2
  ·have e':¬ q.1=k:=λz=>e (h1.trans z);have b:atKey (q::qs) k=atKey qs k:=by simp[atKey,abt,e']
   rw[oV e,b];exact ih
def KT.S9 {H:Hp}{kvs:List (List Key×V)}{xs:List (List Key×θ×ZW)}(r:KT H kvs xs)(k:List Key){y:V}{u:ZW}(ry:RelV y u):
  KT H (kvs.map λkv=>if kv.1=k then (kv.1,y) else kv) (xs.map (putAt k u)):=by
 induction r with
 |nil=>exact .nil
 | @cons p q ps qs h t ih =>
  rw[aap,aap];refine .cons ?_ ih;obtain⟨h1,h2,h3⟩:=h;unfold putAt
  by_cases e:p.1=k
  ·rw[χ e,χ (h1.symm.trans e)];exact{(h1),h2,ry}
  ·rw[ω e,ω (λz=>e (h1.trans z))];exact{(h1),h2,h3}
def KT.put {H:Hp}{kvs:List (List Key×V)}{xs:List (List Key×θ×ZW)}(r:KT H kvs xs)(k:List Key){b:θ}{y:V}{u:ZW}(hb:H b=ν (.tup (k.map kV)))(ry:RelV y u):
  KT H (putK kvs k y) (storedH xs k b u):=by
 have e:(kvs.any λkv=>decide (kv.1=k))=(atKey xs k).isSome:=by
  rw[oW,(r.val k).Bx,Option.isSome_map]
 unfold putK storedH;rw[e]
 by_cases q:(atKey xs k).isSome=ζ
 ·rw[χ q,χ q];exact r.S9 k ry
 ·rw[ω q,ω q];exact Paired.snoc r {(rfl),hb,ry}
def KT.keeps {H H':Hp}{kvs:List (List Key×V)}{xs:List (List Key×θ×ZW)}(r:KT H kvs xs)(ht:∀b ys,H b=ν (.tup ys)->H' b=ν (.tup ys)):KT H' kvs xs :=
 Paired.L6 r λ_ _ z=>{z.1,ht _ _ z.2.1,z.2.2}
section
variable {P:Z6}{w:aam}{H:Hp}{h:Heap}{a:θ}
def Jt {u:HO}(ok:kZ P w H h)(e:Rd H a u):cn P w H h a u:=e.ok ok
def J6 {kvs:List (Key×V)}(ok:kZ P w H h)(e:Rd H a (.dK kvs)):kvs.length<=aak/\(a==acR)=η/\∃vs,KV kvs vs/\h.DictOf (cS P w) a vs :=
 show cn P w H h a (.dK kvs) from Jt ok e
def yi {ks:List Key}(ok:kZ P w H h)(e:H a=ν (.tup (ks.map kV))):(adF (cS P w)).is h ks a:=by
 obtain⟨_,its,r,o,h1,h2,n,h3⟩:=(show cn P w H h a (.tup (ks.map kV)) from ok a _ e)
 exact{o,its.toArray,n,h1,h2,h3,by simpa using sN r}
def FK {kvs:List (List Key×V)}(ok:kZ P w H h)(e:Rd H a (.dT kvs)):kvs.length<=aak/\(a==acR)=η /\
  ∃xs,KT H kvs xs/\h.DictOfH (adF (cS P w)) a xs:=by
 obtain⟨z,y,xs,r,o,es,ep,h1,h2,h3,h4,h5⟩:=(show cn P w H h a (.dT kvs) from Jt ok e)
 refine{z,y,xs,r,o,es,ep,h1,h2,h3,h4,λx hx=>?_,h5};have all:∀{l:List (List Key×V)} {m:List (List Key×θ×ZW)},KT H l m->∀x∈m,(adF (cS P w)).is h x.1 x.2.1:=by
  intro l m q
  induction q with
  |nil=>intro x hx;exact nomatch hx
  | @cons p q ps qs hq t ih =>
   intro x hx;rcases Z1.mp hx with e|hx
   ·subst e;exact yi ok (by rw[<- hq.1];exact hq.2.1)
   ·exact ih x hx
 exact all r x hx
def QV {kvs:List (List Key×V)}(ok:kZ P w H h)(e:H a=ν (.dT kvs)):kvs.length<=aak/\(a==acR)=η /\
  ∃xs,KT H kvs xs/\h.DictOfH (adF (cS P w)) a xs:=FK ok (.inl e)
end
def B9 (H:Hp)(a:θ)(y:V)(r:Option V):Prop :=
 (∃kvs k,Rd H a (.dK kvs)/\y=kV k/\r=iU kvs k)\/∃kvs k b,Rd H a (.dT kvs)/\y=.ref b/\H b=ν (.tup (k.map kV))/\r=iU kvs k
def B9.t {H:Hp}{a b:θ}{kvs:List (List Key×V)}{k:List Key}(e:H a=ν (.dT kvs))(eb:H b=ν (.tup (k.map kV))):B9 H a (.ref b) (iU kvs k):=.inr {kvs,k,b,.inl e,rfl,eb,rfl}
section
variable {X:Cx}{μ:List (θ×Obj)}{σ:St}{H:Hp}{s:ZZ}{a:θ}{y v:V}{u:ZW}{o:Option V}{A:aaX}{E:ZW->ZZ->Prop}
def Inv.big (I:Inv X μ σ H s):acR<s.heap.objs.size:=by
 have h:abR<s.heap.objs.size:=(I.mod.glob.keeps I.bk).lt;exact Nat.lt_trans (by decide) h
def BJ {Q:ZW->ZZ->Prop}(hu:A.units+1<abQ)(I:Inv X μ σ H s)(g:B9 H a y (ν v))(ry:RelV y u)(h:∀w' s',Inv X μ σ H s'->RelV v w'->Q w' s'):
  aau (Ψ X.prog X.w) A (getItem (.ref a) u) Q E s:=by
 rcases g with⟨kvs,k,e,ey,l⟩|⟨kvs,k,b,e,ey,eb,l⟩
 ·subst ey;obtain⟨z,hd,vs,rel,dd⟩:=J6 I.b9 e;obtain⟨w',hw,Ca⟩:=rO.some_of (v:=v) (o:=valueAt vs k) (by rw[l];exact rel.val k)
  exact wpAny_getItem_of (JM ry) dd.mapOf hw (h w' _ (I.tok _) Ca)
 ·subst ey;cases (show u=Φ b from ry)
  obtain⟨z,hd,xs,rel,dd⟩:=FK I.b9 e;obtain⟨w',hw,Ca⟩:=rO.some_of (v:=v) (o:=(atKey xs k).map (·.2)) (by rw[l];exact rel.val k)
  obtain⟨p,hp,RY⟩:=aai.mp hw;refine wpAny_getItem_heap (tupleKind_room_in1 hu) (yi I.b9 eb) dd hp ?_;rw[RY];exact h w' _ (I.tok _) Ca
def IP {h':Heap}{t':Nat}{ob:HO}(I:Inv X μ σ H s)(mu:Rj (H a))(hs:abL a s.heap h')(he:∃q,h'.get? a=ν q)(new:cn X.prog X.w (upd H a ob) h' a ob):
  Inv X μ σ (upd H a ob) {s with heap:=h',toks:=t'} :=
 I.write (x:=a) (e:=a) mu (.inl rfl) (λb q hb z=>(hs.2 b hb).trans z) he new
end
def wI {X:Cx}{μ:List (θ×Obj)}{σ:St}{H:Hp}{s:ZZ}{a:θ}{y:V}{o:Option V}(I:Inv X μ σ H s)(g:B9 H a y o):s.TypeIs (.ref a) "dict" := by
 rcases g with⟨kvs,k,e,_,_⟩|⟨kvs,k,b,e,_,_,_⟩
 ·obtain⟨_,_,vs,_,dd⟩:=J6 I.b9 e;exact dd.typeIs
 ·obtain⟨_,_,xs,_,dd⟩:=FK I.b9 e;exact dd.typeIs
def FL {P:Z6}{w:aam}{H:Hp}(h:Heap)(hb:acR<h.objs.size):cn P w H (h.push {cls:=.type "dict",data:=.dict #[]}) h.objs.size (.dT []) :=
 {aab _,beq_eq_false_iff_ne.mpr (acB (aaL hb)),[],.nil,_,#[],0,aay _ rfl,{(rfl),rfl,rfl},rfl,rfl,aa0}
end L2
namespace L2.Q
open PySem PySem.Spec PySem.SeqAt PyProof.Rows
def _root_.L2.dU.CG {k:Nat}{A:aaX}(r:dU k A):A.units+1<abQ:=by have:=r.un;lia
def iK (t:List Int):List Key:=t.map Sum.inl
def Mu {t u:List Int}(h:iK t=iK u):t=u:=by
 unfold iK at h
 induction t generalizing u with
 |nil=>cases u with|nil=>rfl|cons _ _=>cases h
 |cons a t ih =>
  cases u with
  |nil=>cases h
  |cons b u =>
   rw[aap,aap]at h;injection h with h1 h2
   injection h1 with h1
   rw[h1,ih h2]
def JO (t:List Int):(iK t).map kV=t.map V.int:=by
 unfold iK;rw[aaK];rfl
end L2.Q
namespace L2
open PySem PySem.Spec PySem.SeqAt PyProof.Rows
def Nd:abi "sum" = ν (.builtin "sum"):=by decide +kernel
def D.int?:D->Option Int
 |.int i=>ν i
 |_=>ξ
def D.O8:D->Option (List D)
 |.lst ds=>ν ds
 |_=>ξ
def D.zY {d:D}{i:Int}(h:d.int?=ν i):d=.int i:=by
 cases d <;> first|(cases h;rfl)|cases h
def D.HV {d:D}{ds:List D}(h:d.O8=ν ds):d=.lst ds:=by
 cases d <;> first|(cases h;rfl)|cases h
noncomputable def kc:List D->Option (List Int)
 |[]=>ν []
 |d::ds=>d.int?.bind λi=>(kc ds).map (i::·)
theorem l7:∀{ds:List D} {ns:List Int},kc ds=ν ns->ds=ns.map D.int
 |[],_,h=>by cases h;rfl
 |d::ds,ns,h=>by
  obtain⟨i,h1,h2⟩:=abw.mp h;obtain⟨ms,h3,rfl⟩:=aai.mp h2;rw[D.zY h1,l7 h3];rfl
theorem jV:∀ns:List Int,kc (ns.map D.int)=ν ns
 |[]=>rfl
 |n::ns=>by
  show (ν n).bind (λi=>(kc (ns.map D.int)).map (i::·))=_;rw[jV ns];rfl
noncomputable def jU (f:List Int->Option Int):List D->Option D
 |[d]=>d.O8.bind λds=>(kc ds).bind λns=>(f ns).map D.int
 |_=>ξ
def qD {f:List Int->Option Int}{ds:List D}{d:D}(h:jU f ds=ν d):∃ns i,ds=[.lst (ns.map D.int)]/\f ns=ν i/\d=.int i:=by
 cases ds with
 |nil=>cases h
 |cons x r =>
  cases r with
  |cons _ _=>cases h
  |nil =>
   obtain⟨es,h1,h2⟩:=abw.mp h;obtain⟨ns,h3,h4⟩:=abw.mp h2;obtain⟨i,h5,rfl⟩:=aai.mp h4;exact{ns,i,by rw[D.HV h1,l7 h3],h5,rfl}
def qA {f:List Int->Option Int}{ns:List Int}{i:Int}(h:f ns=ν i):jU f [.lst (ns.map D.int)]=ν (.int i):=by
 show (ν (ns.map D.int)).bind (λds=>(kc ds).bind λns=>(f ns).map D.int)=_;rw[acT,jV,acT,h];rfl
def rl:List Int->Option Int
 |[]=>ξ
 |n::ns=>ν (ns.foldl max n)
theorem cK:∀(ns:List Int) (n:Int),(ns.foldl max n∈n::ns)/\∀x∈n::ns,x<=ns.foldl max n
 |[],n=>{by simp,λx hx=>by simp at hx;rw[hx];exact Int.le_refl _}
 |m::ns,n=>by
  obtain⟨h1,h2⟩:=cK ns (max n m);have hm:max n m<=ns.foldl max (max n m):=h2 _ (by simp)
  refine{?_,λx hx=>?_}
  ·rw[ab3];rcases Z1.mp h1 with h|h
   ·rw[h]
    by_cases q:n<=m
    ·rw[show max n m=m by lia];simp
    ·rw[show max n m=n by lia];simp
   ·simp[h]
  ·rw[ab3];rcases Z1.mp hx with rfl|hx
   ·lia
   ·rcases Z1.mp hx with rfl|hx
    ·lia
    ·exact h2 x (by simp[hx])
section
variable {X:Cx}
theorem ki:∀{ns:List Int} {us:List ZW},Vals (ns.map V.int) us->∃xs:Array (Int×Tok),us.toArray=intItems xs/\xs.toList.map (·.1)=ns
 |[],_,h=>by cases h;exact{#[],by simp[intItems],rfl}
 |n::ns,_,h=>by
  cases h with
  |cons h1 h2 =>
   obtain⟨t,rfl⟩:=h1;obtain⟨xs,e1,e2⟩:=ki h2;refine{{(n,t)::xs.toList},?_,by simp[e2]}
   have:=Ι Array.toList e1;simp[intItems]at this ⊢
   exact this
def mK {xs:Array (Int×Tok)}{ns:List Int}(e:xs.toList.map (·.1)=ns)(i:Nat):numAt xs i=ns.getD i 0:=by
 subst e;unfold numAt;rw[aby,aah,aan]
def Je {xs:Array (Int×Tok)}{ns:List Int}(e:xs.toList.map (·.1)=ns){i:Nat}{v:ZW}(h:(intItems xs)[i]?=ν v):RelV (.int (ns.getD i 0)) v:=by
 obtain⟨t,rfl⟩:=intItems_at h;exact{t,by rw[mK e]}
def ints_size {xs:Array (Int×Tok)}{ns:List Int}(e:xs.toList.map (·.1)=ns):xs.size=ns.length:=by rw[<- e];simp
def BV (hc:X.calm=ζ):bU X (.builtin "sum") (jU λns=>ν ns.sum):=by
 intro μ s σ H xs us Q I r h;obtain⟨W,ds,d,hd,r1,e,q⟩:=h;obtain⟨ns,i,rfl,e1,rfl⟩:=qD e;cases e1;obtain⟨x,rfl,p,vs,rfl,h1,n1,q1⟩:=nQ r1;obtain⟨u,rfl,ru⟩:=vals1 r;cases ru;rw[bj q1]at h1;obtain⟨its,r2,ht,hz⟩:=I.list (fb.of h1);obtain⟨ys,e1,e2⟩:=ki r2;refine sum_intListG (I.ok.hd hc) (xs:=ys) (by rw[<- e1];exact ht.isList) λh' tk t' k=>{.int ns.sum,H,I.kept k,{t',?_},q _ _ (aB.refl _) rfl}
 rw[preSum_eq,aa8 (by simp),e2]
def BX (hc:X.calm=ζ):bU X (.builtin "max") (jU rl):=by
 intro μ s σ H xs us Q I r h;obtain⟨W,ds,d,hd,r1,e,q⟩:=h;obtain⟨ns,i,rfl,e1,rfl⟩:=qD e;obtain⟨x,rfl,p,vs,rfl,h1,n1,q1⟩:=nQ r1;obtain⟨u,rfl,ru⟩:=vals1 r;cases ru;rw[bj q1]at h1;obtain⟨its,r2,ht,hz⟩:=I.list (fb.of h1);obtain⟨ys,Vq,e2⟩:=ki r2;have hs:=ints_size e2;cases ns with
 |nil=>cases e1
 |cons n ns =>
  rw[aaa]at hs;refine max_intList (I.ok.hd hc) (xs:=ys) (by rw[<- Vq];exact ht.isList) (by lia) λv h' tk hv k=>{.int i,H,I.kept k,?_,q _ _ (aB.refl _) rfl}
  have hr:=Je e2 hv;obtain⟨g1,g2⟩:=argBest_gt (numAt ys) (ys.size-1);generalize argBest (λi j=>decide (numAt ys i>numAt ys j)) (ys.size-1)=b at *
  have hb:b<(n::ns).length:=by rw[aaa];lia
  have:(n::ns).getD b 0=i:=by
   cases e1;obtain⟨f1,f2⟩:=cK ns n;have hle:∀x∈n::ns,x<=(n::ns).getD b 0:=λx hx=>by
    obtain⟨j,hj,rfl⟩:=List.getElem_of_mem hx;have:=g2 j (by rw[aaa]at hj;lia)
    rw[mK e2,mK e2]at this;rw[aby,Z4 hj]at this;exact this
   have nU:(n::ns).getD b 0∈n::ns:=by
    rw[aby,Z4 hb];exact abO hb
   have:=hle _ f1;have:=f2 _ nU;lia
  rw[<- this];exact hr
end
end L2
namespace L2.Q
open PySem PySem.Spec PySem.SeqAt PyProof.Rows
def dA (kvs:List (List Int×D)):D:=.dT (kvs.map λp=>iK p.1) (kvs.map (·.2))
def nR (kvs:List (List Int×D))(t:List Int):Option D:=(kvs.find? λp=>decide (p.1=t)).map (·.2)
def _root_.L2.D.Pj:D->Option (List (List Key)×List D)
 |.dT ks ds=>ν (ks,ds)
 |_=>ξ
def Ib {d:D}{ks:List (List Key)}{ds:List D}(h:d.Pj=ν (ks,ds)):d=.dT ks ds:=by
 cases d <;> first|(cases h;rfl)|cases h
def xA (ks:List (List Key))(ds:List D)(k:List Key):Option D:=((ks.zip ds).find? λp=>decide (p.1=k)).map (·.2)
def H_ {d:D}{es:List D}(h:d.EM=ν es):d=.tup es:=by
 cases d <;> first|(cases h;rfl)|cases h
def IW (a b:D):Option ((List (List Key)×List D)×List Int):=a.Pj.bind λp=>b.EM.bind λes=>(kc es).map λt=>(p,t)
def IV {a b:D}{ks:List (List Key)}{ds:List D}{t:List Int}(h:IW a b=ν ((ks,ds),t)):a=.dT ks ds/\b=.tup (t.map D.int):=by
 obtain⟨p,h1,h2⟩:=abw.mp h;obtain⟨es,h3,h4⟩:=abw.mp h2;obtain⟨t',h5,h6⟩:=aai.mp h4;cases h6;exact{Ib h1,by rw[H_ h3,l7 h5]}
def IU {kvs:List (List Int×D)}{t:List Int}:IW (dA kvs) (.tup (t.map D.int))=ν ((kvs.map λp=>iK p.1,kvs.map (·.2)),t):=by
 show (ν _).bind (λp=>(ν (t.map D.int)).bind λes=>(kc es).map λt=>(p,t))=_;rw[acT,acT,jV];rfl
theorem xx {t:List Int}:∀{kvs:List (List Int×D)},xA (kvs.map λp=>iK p.1) (kvs.map (·.2)) (iK t)=nR kvs t
 |[]=>rfl
 |p::kvs=>by
  have ih:=xx (t:=t) (kvs:=kvs);unfold xA nR at *
  rw[aap,aap,abZ,abt,abt]
  by_cases h:p.1=t
  ·rw[Γ (Ι iK h),Γ h];rfl
  ·rw[Δ (λz=>h (Mu z)),Δ h];exact ih
def Au (a b:D):Option D:=(IW a b).bind λz=>xA z.1.1 z.1.2 (iK z.2)
def IY {kvs:List (List Int×D)}{t:List Int}:Au (dA kvs) (.tup (t.map D.int))=nR kvs t:=by
 unfold Au;rw[IU,acT];exact xx
section
variable {P:Z6}{w:aam}{W:θ->Prop}{H:Hp}
theorem t5 {k:List Key}:∀{ks:List (List Key)} {ds:List D} {vs:List V},ks.length=vs.length->ak P w W H ds vs->(iU (ks.zip vs) k).isSome=(xA ks ds k).isSome/\∀d,xA ks ds k=ν d->∃v,iU (ks.zip vs) k=ν v/\aE P w W H d v
 |[],ds,vs,_,_=>by
  unfold iU xA;rw[adt,adt];exact{rfl,λd h=>by cases h}
 |k'::ks,[],_,l,h=>by rw[show _=([]:List V) from h]at l;cases l
 |k'::ks,d::ds,_,l,⟨v,r,e,h1,h2⟩=>by
  subst e;obtain⟨i1,i2⟩:=t5 (k:=k) (ks:=ks) (Nat.succ.inj l) h2;unfold iU xA at *
  rw[abZ,abZ,abt,abt]
  by_cases hk:k'=k
  ·rw[Γ hk];exact{rfl,λd' e=>by cases e;exact{(v),rfl,h1}}
  ·rw[Δ hk];exact{(i1),i2}
end
section
variable {X:Cx}
def Ml {W:θ->Prop}{H:Hp}{a b:D}{x y:V}{ks:List (List Key)}{ds:List D}{t:List Int}(h:IW a b=ν ((ks,ds),t))(r1:Rp X W H a x)(r2:Rp X W H b y):∃p vs,x=.ref p/\B9 H p y (iU (ks.zip vs) (iK t))/\ks.length=vs.length/\ak X.prog X.w W H ds vs:=by
 obtain⟨rfl,rfl⟩:=IV h;obtain⟨p,vs,rfl,e1,l,n,rs⟩:=r1;obtain⟨q,us,rfl,e2,rt⟩:=r2;rw[L2.bj rt]at e2;exact{p,vs,rfl,B9.t e1 (by rw[JO];exact e2),l,rs}
def Pe (hu:X.A.units+1<abQ):Kj X (Dp X Au NF):=by
 intro value slice μ s σ H x y v u Q I rx ry h hs;obtain⟨W,d1,d2,d,hd,r1,r2,e,q⟩:=h;obtain⟨⟨⟨ks,ds⟩,t⟩,h1,h2⟩:=abw.mp e;obtain⟨p,vs,rfl,g,l,rs⟩:=Ml h1 r1 r2;obtain⟨w',hw,Ca⟩:=(t5 l rs).2 d h2;rw[hw]at g;cases (show v=Φ p from rx)
 exact tail_any (wI I g) PySem.F.slot_dict_getitem.lookup (BJ hu I g ry λu' s' I' r'=>{w',H,I',r',q w' H (aB.refl _) Ca λf=>aE.flat f Ca}) hs
end
def LH {P:Z6}{w:aam}{H:Hp}{kvs:List (List Int×D)}{a:θ}{vs:List V}{A:List θ}(h:H a=ν (.dT ((kvs.map λp=>iK p.1).zip vs)))(o:aT P w H (kvs.map (·.2)) vs A):Own P w H (dA kvs) (.ref a) (a::A) :=
 {a,vs,A,rfl,h,by rw[ZU,o.length,ZU],rfl,o}
def KC {P:Z6}{w:aam}{H:Hp}{kvs:List (List Int×D)}{vs:List V}{A:List θ}{t:List Int}(o:aT P w H (kvs.map (·.2)) vs A)(h:nR kvs t=ξ):iU ((kvs.map λp=>iK p.1).zip vs) (iK t)=ξ:=by
 have:=(t5 (k:=iK t) (ks:=kvs.map λp=>iK p.1) (W:=λ_=>False) (by rw[ZU,o.length,ZU]) (o.rep λc _ z=>z)).1
 rw[xx,h]at this;exact Option.isNone_iff_eq_none.mp (by rw[<- Option.not_isSome,this];rfl)
end L2.Q
namespace L2
open PySem PySem.Spec PySem.SeqAt PyProof.Rows
def Sm (lo:Int)(n:Nat):It:={λi _=>i<n,λi H x H'=>H'=H/\x=.int (lo-i),λi _=>n<=i}
def uU {P:Z6}{w:aam}{K:Ξ}{tg:Expr}(it:θ)(lo:Int)(n:Nat):Turn P w K tg (Sm lo n) [it] it (λi h=>IsRangeIter h it (lo+(i:Nat)*(-1)) ((n:Int)-(i:Nat)) (-1)) where
 mem:=by simp
 obj:=λi h st b hb=>by
  have e:b=it:=by simpa using hb
  subst e;exact⟨_,st,λv z=>by
   have z':Data.fields _=Data.cell v:=z;cases z'⟩
 keep:=λi h h' st k=>k it (by simp) _ st
 item:=by
  intro X hP hw hK hc i μ s σ H E I hf st hg;subst hP hw hK;obtain⟨f0,f1,f2,f3,f4,f5⟩:=hf it (by simp)
  have W:=Walks.range (prog:=X.prog) (w:=X.w) (I.ok.hd hc) it lo (-1) n;refine W.item i s _ _ hg st λv h' tk hv aI kk=>?_;obtain⟨t,rfl⟩:=hv;have I1:Inv X μ σ H {s with heap:=h',toks:=tk}:=I.turned (λb o hb e=>kk b o (by simpa using hb) e) f0 f1 f3 f4 f5
  refine{_,rfl,z_ (s:={s with heap:=h',toks:=tk}) (n:="range_iterator") aI rfl rfl (by decide) {.int (lo-i),H,I1,{t,?_},{(rfl),rfl},aI,λb hb=>(hf b hb).1}}
  rw[Int.mul_neg,Int.mul_one];rfl
 done:=by
  intro X hP hw hK hc i μ s σ H E I hf st hg;subst hP hw hK;obtain⟨f0,f1,f2,f3,f4,f5⟩:=hf it (by simp)
  exact wpAny_pyNext_range_end (I.ok.hd hc) st (by have:n<=i:=hg;lia) λh' eb=>{rfl,I.turned (t':=s.toks) (λb o hb e=>eb b o hb e) f0 f1 f3 f4 f5}
 self:=λ_ _ _ _ _ st h=>wpAny_pyIter_rangeiter st h
def j8 (a b:Int):acH a b (-1)=if b<a then a-b else 0:=by
 unfold acH;rw[ω (by decide)]
 by_cases h:b<a
 ·rw[χ h,χ h,show -(-1:Int)=1 by decide,Int.ediv_one];lia
 ·rw[ω h,ω h]
def AV {a b:Int}(ha:-(2 ^ 62)<=a)(R8:a<2 ^ 62)(hb:-(2 ^ 62)<=b)(qU:b<2 ^ 62):Builtin.Range.small a b (-1)=ζ:=by
 unfold Builtin.Range.small;rw[j8];simp only[Builtin.Range.rangeFitsLong,aaQ,Bool.or_eq_true,decide_eq_true_eq,beq_iff_eq,show ¬ ((-1:Int)>0) by decide,if_false]
 split <;> lia
section
variable {X:Cx}{tg:Expr}
def A9 {μ:List (θ×Obj)}{σ:St}{H:Hp}{s:ZZ}{R:It->Hp->Prop}{E:ZW->ZZ->Prop}{lo hi:Int}{t u v:Tok}{tk:Nat}(I:Inv X μ σ H s)(h1:-(2 ^ 62)<=lo)(h2:lo<2 ^ 62)(h3:-(2 ^ 62)<=hi)(h4:hi<2 ^ 62)
  (q:R (Sm lo (lo-hi).toNat) H):aau (Ψ X.prog X.w) X.A (pyIter (.ref s.heap.objs.size)) (Si X μ σ tg R) E {s with heap:=s.heap.push {cls:=.type "range",data:=.fields #[.int lo t,.int hi u,.int (-1) v]},toks:=tk}:=by
 refine wpAny_pyIter_range (IsRange.new ..) (AV h1 h2 h3 h4) ?_;have I1:Inv X μ σ H {s with heap:=s.heap.push {cls:=.type "range",data:=.fields #[.int lo t,.int hi u,.int (-1) v]},toks:=tk}:=I.kept λb o e=>Z3 _ e
 refine⟨(s.heap.push {cls:=.type "range",data:=.fields #[.int lo t,.int hi u,.int (-1) v]}).objs.size,[(s.heap.push {cls:=.type "range",data:=.fields #[.int lo t,.int hi u,.int (-1) v]}).objs.size],_,_,H,rfl,
  I1.kept (t':=tk) λb o e=>Z3 _ e,uU _ lo (lo-hi).toNat,?_,λb hb=>?_,q⟩
 ·have e1:lo+((0:Nat):Int)*(-1)=lo:=by simp
  have e2:(((lo-hi).toNat:Nat):Int)-((0:Nat):Int)=acH lo hi (-1):=by rw[j8];split <;> lia
  show IsRangeIter _ _ (lo+((0:Nat):Int)*(-1)) ((((lo-hi).toNat:Nat):Int)-((0:Nat):Int)) (-1);rw[e1,e2];exact aay _ rfl
 ·have e:b=(s.heap.push {cls:=.type "range",data:=.fields #[.int lo t,.int hi u,.int (-1) v]}).objs.size:=by simpa using hb
  subst e;exact I1.Fl (ZX _) (I1.b9.fresh (ZX _))
def Pk (ta:TA):TI:=λσ H R=>ta σ H λvs H1=>∃i j:Int,vs=[.int i,.int j,.int (-1)]/\(-(2 ^ 62)<=i/\i<2 ^ 62/\-(2 ^ 62)<=j/\j<2 ^ 62)/\R (Sm i (i-j).toNat) H1
def Be {a b c:Expr}{ta:TA}{p pos:Pos}(hg:Gl X "range")(hm:X.mg "range" = ξ)(ha:PA X [a,b,c] ta)(hs:aao [a,b,c] X.env=[(η,eval a X.env),(η,eval b X.env),(η,eval c X.env)]:=by rfl)(nK:aao [b,c] X.env=[(η,eval b X.env),(η,eval c X.env)]:=by rfl) :
  PI X tg (.Call (.Name "range" p) [a,b,c] [] pos) (Pk ta):=by
 intro μ s σ H R I h;refine Call_ (mO I hg hm boot_range (ab8 (bQ (ha pos μ s σ H _ I h) λus s1 iX=>?_) (by rw[hs,nK]) (by rw[nK];rfl)))
 obtain⟨vs,H1,I1,r1,q1⟩:=iX;obtain⟨i,j,e,⟨q1,q2,q3,q4⟩,q⟩:=q1;subst e;cases r1 with
 |cons r rr =>
  cases rr with
  |cons r' rr =>
   cases rr with
   |cons V3 rr =>
    cases rr;obtain⟨t,rfl⟩:=r;obtain⟨t',rfl⟩:=r';obtain⟨Zv,rfl⟩:=V3;exact call_range_3 (by decide) (A9 I1 q1 q2 q3 q4 q) (.inl (PyProof.noPylong_of_log2 (by decide +kernel)))
def A7 (hi:Int)(n:Nat):List D:=(Z_ n).map λ(k:Nat)=>D.int (hi-(k:Int))
def vf {hi:Int}{n i:Nat}{d:D}(h:(A7 hi n)[i]?=ν d):i<n/\d=.int (hi-i):=by
 unfold A7 at h;rw[aah]at h
 by_cases hi:i<n
 ·rw[abI hi]at h;cases h;exact{(hi),rfl}
 ·rw[abq (by simpa using hi)]at h;cases h
def ve {hi:Int}{n:Nat}:(A7 hi n).length=n:=by unfold A7;simp
def yj {W:θ->Prop}{H:Hp}{lo:Int}{n:Nat}:Cq X W (Sm lo n) (A7 lo n) H:=λ_ _ i H' k=>by
 constructor
 ·intro d hd;obtain⟨hi,rfl⟩:=vf hd;refine{hi,λx H1 y=>?_};obtain⟨rfl,rfl⟩:=y;exact{aB.refl _,rfl}
 ·intro hl;rw[ve]at hl;exact hl
end
end L2
namespace L2.Q
open PySem PySem.Spec PySem.SeqAt PyProof.Rows
section
variable {X:Cx}{C:Cfg}{tg a b c:Expr}{φs:du}{p:Bool}{pp pos:Pos}
def Ic (φs:du):cf:=λβ R=>φs β λds _ β'=>∃i j:Int,ds=[.int i,.int j,.int (-1)]/\(-(2 ^ 62)<=i/\i<2 ^ 62/\-(2 ^ 62)<=j/\j<2 ^ 62)/\R (A7 i (i-j).toNat) .g9 β'
def Q_ {W:θ->Prop}{H:Hp}{a b c:D}{xs:List V}(h:w_ X W H [a,b,c] xs):∃x y z,xs=[x,y,z]/\Rp X W H a x/\Rp X W H b y/\Rp X W H c z:=by
 obtain⟨x,r,rfl,hx,y,r',rfl,hy,z,V3,rfl,hz,hr⟩:=h;cases hr;exact{(x),y,z,rfl,hx,hy,hz}
def xU (hm:X.mg "range" = ξ)(ha:xc X C p [a,b,c] φs)(hg:Gl X "range" := by rfl)(hs:aao [a,b,c] X.env=[(η,eval a X.env),(η,eval b X.env),(η,eval c X.env)]:=by rfl)(nK:aao [b,c] X.env=[(η,eval b X.env),(η,eval c X.env)]:=by rfl) :
  xr X C p tg (.Call (.Name "range" pp) [a,b,c] [] pos) (Ic φs) :=
 ⟨λβ R R' k q=>ha.mono β _ _ (λd kd β' h=>by obtain⟨i,j,e,h1,q⟩:=h;exact{i,j,e,h1,k _ _ _ q}) q,(Be hg hm ha.pa hs nK).pre λσ H R h=>by
  obtain⟨β,own,s,q⟩:=h;refine xE.of ha s q λds ks β' vs H1 aH h o1 r1=>?_;obtain⟨i,j,e,h1,q1⟩:=h;subst e;obtain⟨x,y,z,rfl,hx,hy,hz⟩:=Q_ r1.lC;cases hx;cases hy;cases hz;exact{i,j,rfl,h1,q1 _ _ aH o1 yj}⟩
end
structure Sh (X:Cx)(C:Cfg)(tg iter:Expr)(ι:cf):Prop where
 mono:∀β R R',(∀d k β,R d k β->R' d k β)->ι β R->ι β R'
 pi:PI X tg iter λσ H R=>∃β own,SQ X C σ H β own/\ι β λds k β'=>∀J H',aB H H'->SQ X C σ H' β' own->Cq X (jw C (Wn own) k) J ds H'->R J H'
section
variable {X:Cx}{C:Cfg}{tg a b:Expr}{φs:du}{pp pos:Pos}{i:Nat}{x:Str}
def xT (hm:X.mg "range" = ξ)(ha:xc X C ζ [a,b] φs)(hg:Gl X "range" := by rfl)(hs:aao [a,b] X.env=[(η,eval a X.env),(η,eval b X.env)]:=by rfl)(nK:aao [b] X.env=[(η,eval b X.env)]:=by rfl) :
  Sh X C tg (.Call (.Name "range" pp) [a,b] [] pos) (zZ φs) :=
 ⟨λβ R R' k q=>ha.mono β _ _ (λd kd β' h=>by obtain⟨i,j,e,h1,q⟩:=h;exact{i,j,e,h1,k _ _ _ q}) q,(si hg hm ha.pa hs nK).pre λσ H R h=>by
  obtain⟨β,own,s,q⟩:=h;refine xE.of ha s q λds ks β' vs H1 aH h o1 r1=>?_;obtain⟨i,j,e,h1,q1⟩:=h;subst e;obtain⟨s1,rfl⟩:=o1.pu rfl;obtain⟨x,y,rfl,hx,hy⟩:=AB r1.lC;cases hx;cases hy;exact{i,j,rfl,h1,q1 _ _ s1 o1.sq mR}⟩
def Ms (i:Nat):cf:=λβ R=>∃y ds,β[i]?=ν (ν (.val y (.tup ds)))/\R ds (yk y) β
def Bb (hn:Nm X i x:=by exact Ce):Sh X C tg (.Name x pos) (Ms i) :=
 ⟨λβ R R' k h=>by obtain⟨y,ds,e,q⟩:=h;exact{y,ds,e,k _ _ _ q},(DH (iN (pos:=pos) hn)).pre λσ H R h=>by
  obtain⟨β,own,s,y,ds,e,q⟩:=h;obtain⟨v,hv,p,vs,rfl,h1,rs⟩:=s.val i y _ e;exact{_,hv,p,rfl,{vs,nk.of h1},q _ _ (aB.refl _) s (zX h1 rs)}⟩
end
structure SC (X:Cx)(C:Cfg)(W0:θ->Prop)(T:List Nat)(σ0:St)(H1:Hp)(a:θ)(Hb:Hp)(Wb:θ->Prop)(Ac:Hp->Prop)(β:ba)(σ':St)(H':Hp)(own:Nat->List θ):Prop where
 sq:SQ X (C.u λc=>c=a) σ' H' β own
 sn:Sn (H1,W0) H' (Wn own)
 le:∀c,Wn own c->Wb c
 ac:Ac H'
 pu:aB H1 H'
 bs:∀b ob,b≠a->Hb b=ν ob->H' b=ν ob
 st:∀j,j∉T->σ'[j]?=σ0[j]?
abbrev rN {α:Type}(X:Cx)(C:Cfg)(W0:θ->Prop)(T:List Nat)(σ0:St)(H1:Hp)(a:θ)(Hb:Hp)(Wb:θ->Prop)(Ac:α->Hp->Prop)(β:ba)(o:α)(σ':St)(H':Hp):Prop:=∃own,SC X C W0 T σ0 H1 a Hb Wb (Ac o) β σ' H' own
structure xl {α:Type}(a:θ)(Ac:α->Hp->Prop):Prop where
 same:∀o H H',aB H H'->Ac o H->Ac o H'
 OQ:∀o H xs,Ac o H->H a≠ν (.tup xs)
abbrev Gm (X:Cx)(C:Cfg)(a:θ)(T:List Nat)(γ:dc):TG:=λv σ H Q=>∃own β d k,SQ X (C.u λc=>c=a) σ H β own/\Rp X (jw (C.u λc=>c=a) (Wn own) k) H d v/\γ d k β λβ'=>∀σ' aX,SQ X (C.u λc=>c=a) σ' H β' aX->(∀a,Wn aX a->Wn own a)->(∀j,j∉T->σ'[j]?=σ[j]?)->Q σ' H
abbrev VQ (X:Cx)(C:Cfg)(a:θ)(φ:aP):ml:=λN σ H=>tQ X (C.u λc=>c=a) ζ φ σ H λv H1=>∃xs,H1 a=ν (.lst xs)/\xs.length<aak/\N σ (upd H1 a (.lst (xs++[v])))
section
variable {α:Type}{X:Cx}{C:Cfg}{W0:θ->Prop}{T Tg:List Nat}{σ0:St}{H1:Hp}{a:θ}{Hb:Hp}{Wb:θ->Prop}{γ:dc}{τ:a6}{φ:aP}{Ac:α->Hp->Prop}
def SC.next {o:α}(hA:xl a Ac){β β':ba}{σ σ':St}{H H':Hp}{own aX:Nat->List θ}(s:SC X C W0 T σ0 H1 a Hb Wb (Ac o) β σ H own)(sq:SQ X (C.u λc=>c=a) σ' H' β' aX)(w:∀c,Wn aX c->Wn own c)(sm:aB H H')(t:∀j,j∉T->σ'[j]?=σ[j]?):
  SC X C W0 T σ0 H1 a Hb Wb (Ac o) β' σ' H' aX :=
 {sq,lx (s.sn.same sm) w,λc z=>s.le c (w c z),hA.same o _ _ sm s.ac,s.pu.trans sm,λb ob n e=>sm _ _ (s.bs b ob n e),λj hj=>(t j hj).trans (s.st j hj)}
def SC.put {A:Hp->Prop}{A':Hp->Prop}(h0:C.H0 a=ξ)(ha:H1 a=ξ){β:ba}{σ:St}{H:Hp}{own:Nat->List θ}{oa ob:HO}(s:SC X C W0 T σ0 H1 a Hb Wb A β σ H own)(e:H a=ν oa)(nt:∀xs,oa≠.tup xs)(q:A' (upd H a ob)):
  SC X C W0 T σ0 H1 a Hb Wb A' β σ (upd H a ob) own:=by
 refine{s.sq.K7 e nt h0,{s.sn.w,s.sn.k.trans ((pZ e nt).mono λb z=>.inr (by rw[z];exact ha)),λb z e=>?_},s.le,q,λb o e=>?_,λb o n e=>?_,s.st}
 ·by_cases hb:b=a
  ·rw[hb,ar]at e;cases e
  ·rw[aD hb]at e;exact s.sn.d b z e
 ·rw[aD (λz'=>by rw[z',ha]at e;cases e)]
  exact s.pu b o e
 ·rw[aD n];exact s.bs b o n e
def Sv (P:Z6)(w:aam)(H1:Hp)(a:θ)(o:List D)(H:Hp):Prop:=∃vs A,H a=ν (.lst vs)/\aT P w H o vs A/\A.Nodup/\∀c∈A,H1 c=ξ/\c≠a
def yQ {P:Z6}{w:aam}:xl a (Sv P w H1 a):=⟨λo H H' s h=>by
  obtain⟨vs,A,h1,h2,h3,h4⟩:=h;exact{vs,A,s _ _ h1,h2.keep (λb xs e=>s _ _ e) λc _ oc e=>s _ _ e,h3,h4},λo H xs h z=>by
  obtain⟨vs,A,h1,_⟩:=h;rw[h1]at z;cases z⟩
def J3 (φ:aP)(o:List D)(β:ba)(N:ba->List D->Prop):Prop:=φ β λx kx β3=>H9 kx x/\o.length<aak/\N β3 (o++[x])
def G5 (h0:C.H0 a=ξ)(ha:H1 a=ξ)(φm:∀β R R',(∀d k β,R d k β->R' d k β)->φ β R->φ β R'){β:ba}{o:List D}{σ:St}{H:Hp}{N:ba->List D->Prop}(s:rN X C W0 T σ0 H1 a Hb Wb (Sv X.prog X.w H1 a) β o σ H)(q:J3 φ o β N):
  VQ X C a φ (λσ' H'=>∃β' o',rN X C W0 T σ0 H1 a Hb Wb (Sv X.prog X.w H1 a) β' o' σ' H'/\N β' o') σ H:=by
 obtain⟨own,s⟩:=s;refine{β,own,s.sq,φm _ _ _ (λxd kx β6 iX v H6 Bh o6 r6=>?_) q};obtain⟨f,hz,q⟩:=iX;obtain⟨sm,rfl⟩:=o6.pu rfl;have s6:=s.next yQ (o6.sq) (λ_ z=>z) sm (λ_ _=>rfl)
 obtain⟨B',r1,r2,r3⟩:=r6.fl f;obtain⟨vs,A,at',os,nd,nw⟩:=s.ac;have v7:H6 a=ν (.lst vs):=sm _ _ at';have OT:∀c∈B',c≠a:=λc hc z=>by rw[z]at hc;exact Η (at'.symm.trans (r3 a hc).1) (λz=>(nomatch z))
 have kt:∀b xs,H6 b=ν (.tup xs)->upd H6 a (.lst (vs++[v])) b=ν (.tup xs):=λb xs z=>by rw[aD (λz'=>by rw[z',v7]at z;cases z)];exact z
 refine{vs,v7,by rw[os.length];exact hz,β6,o++[xd],{Bh,s6.put h0 ha v7 (λxs z=>by cases z) {vs++[v],A++B',ar,?_,?_,λc hc=>?_}},q}
 ·exact(os.keep (λb xs e=>kt b xs (sm _ _ e)) λc hc oc e=>by rw[aD (nw c hc).2];exact sm _ _ e).append (aT.one (r1.keep kt λc hc oc e=>by rw[aD (OT c hc)];exact e))
 ·refine aaY.mpr {nd,r2,λx hx y hy e=>?_};subst e;exact(os.qV x hx).1 (r3 x hy).1
 ·rcases Z9.mp hc with hc|hc
  ·exact nw c hc
  ·exact{s.sn.free (r3 c hc).1,OT c hc}
def jl {α:Type}(γ:dc)(τ:a6)(Af:α->ba->(ba->α->Prop)->Prop)(ds:List D)(k:Kd)(β0:ba)(o0:α)(F:ba->α->Prop):Prop:=∃I:Nat->ba->α->Prop,I 0 β0 o0 /\
 (∀i d β o,ds[i]?=ν d->I i β o->γ d (sk k d) β λβ1=>τ β1 λt β2=>if t=ζ then Af o β2 (I (i+1)) else I (i+1) β2 o)/\∀β o,I ds.length β o->F β o
def jl.mono {Af:α->ba->(ba->α->Prop)->Prop}{ds:List D}{k:Kd}{β0:ba}{o0:α}{F F':ba->α->Prop}(h:∀β o,F β o->F' β o)(q:jl γ τ Af ds k β0 o0 F):jl γ τ Af ds k β0 o0 F':=by
 obtain⟨I,h0,h1,h2⟩:=q;exact{I,h0,h1,λβ o z=>h _ _ (h2 β o z)}
def ze (hA:xl a Ac)(hT:∀j∈Tg,j∈T)(γm:∀d k β R R',(∀r,R r->R' r)->γ d k β R->γ d k β R')(τm:∀β R R',(∀d β,R d β->R' d β)->τ β R->τ β R'){J:It}{ds:List D}{k:Kd}{Af:α->ba->(ba->α->Prop)->Prop}{ta:ml}{F:ba->α->Prop}{End:St->Hp->Prop}{β0:ba}{o0:α}{σ1:St}{Hs:Hp}
  (it:∀i β o σ' H',rN X C W0 T σ0 H1 a Hb Wb Ac β o σ' H'->(∀d,ds[i]?=ν d->J.go i H'/\∀x H3,J.N4 i H' x H3->aB H' H3/\∀own,(∀c,Wn own c->Wb c)->aE X.prog X.w (jw (C.u λc=>c=a) (Wn own) k) H3 d x)/\(ds.length<=i->J.stop i H'))
  (Pt:∀β o σ' H' N,rN X C W0 T σ0 H1 a Hb Wb Ac β o σ' H'->Af o β N->ta (λCs B8=>∃β' o',rN X C W0 T σ0 H1 a Hb Wb Ac β' o' Cs B8/\N β' o') σ' H')
  (s0:rN X C W0 T σ0 H1 a Hb Wb Ac β0 o0 σ1 Hs) (q:jl γ τ Af ds k β0 o0 F) (fin:∀β o σ' H',rN X C W0 T σ0 H1 a Hb Wb Ac β o σ' H'->F β o->End σ' H') :
  gI J (Gm X C a Tg γ) (lq X (C.u λc=>c=a) ζ τ) ta End σ1 Hs:=by
 obtain⟨I,i0,i1,i2⟩:=q;refine{λi m σ' H'=>i<=ds.length/\m=ds.length-i/\∃β o,rN X C W0 T σ0 H1 a Hb Wb Ac β o σ' H'/\I i β o,{_,aab _,rfl,β0,o0,s0,i0},?_};rintro i m σ2 H2 ⟨hi,rfl,β,o,sE,hl⟩;obtain⟨cw,kX⟩:=it i β o σ2 H2 sE
 by_cases gV:i<ds.length
 ·right
  have hd:ds[i]?=ν ds[i]:=Z4 gV;obtain⟨go,yl⟩:=cw _ hd;refine{go,λσ' H'=>∃β' o',rN X C W0 T σ0 H1 a Hb Wb Ac β' o' σ' H'/\I (i+1) β' o',λσ' H' h=>{_,by omega,gV,rfl,h},λx H3 y=>?_}
  obtain⟨s3,r3⟩:=yl x H3 y;obtain⟨own,s⟩:=sE;refine{own,β,_,_,s.sq.same s3,tV (r3 own s.le),γm _ _ _ _ _ (λβ4 q σ4 vw s4 w4 t4=>?_) (i1 i _ β o hd hl)};have XA:=s.next hA s4 w4 s3 λj hj=>t4 j λz=>hj (hT j z)
  refine{β4,vw,s4,τm _ _ _ (λt β5 q H5 rh o5=>?_) q};obtain⟨S1,rfl⟩:=o5.pu rfl;have VX:=XA.next hA o5.sq (λ_ z=>z) S1 λ_ _=>rfl
  cases t with
  |false=>exact{β5,o,{_,VX},q}
  |true=>exact Pt β5 o σ4 H5 _ {_,VX} q
 ·left
  have e:i=ds.length:=by omega
  subst e;exact{kX (ZX _),fin β o σ2 H2 sE (i2 β o hl)}
def Em {α:Type}(ι:cf)(γ:dc)(τ:a6)(Af:α->ba->(ba->α->Prop)->Prop)(o:α)(β:ba)(N:ba->α->Prop):Prop:=ι β λds k β1=>jl γ τ Af ds k β1 o N
def zd (hA:xl a Ac){ι:cf}(hT:∀j∈Tg,j∈T)(γm:∀d k β R R',(∀r,R r->R' r)->γ d k β R->γ d k β R')(τm:∀β R R',(∀d β,R d β->R' d β)->τ β R->τ β R'){Af:α->ba->(ba->α->Prop)->Prop}{ta:ml}
  (Pt:∀Hb Wb β o σ' H' N,rN X C W0 T σ0 H1 a Hb Wb Ac β o σ' H'->Af o β N->ta (λCs B8=>∃β' o',rN X C W0 T σ0 H1 a Hb Wb Ac β' o' Cs B8/\N β' o') σ' H')
  (ιm:∀β R R',(∀d k β,R d k β->R' d k β)->ι β R->ι β R') {β:ba} {o:α} {σ:St} {H:Hp} {N:ba->α->Prop} (s:rN X C W0 T σ0 H1 a Hb Wb Ac β o σ H) (q:Em ι γ τ Af o β N) :
  ∃β own,SQ X (C.u λc=>c=a) σ H β own/\ι β λds k β'=>∀J H',aB H H'->SQ X (C.u λc=>c=a) σ H' β' own->Cq X (jw (C.u λc=>c=a) (Wn own) k) J ds H' ->
   gI J (Gm X C a Tg γ) (lq X (C.u λc=>c=a) ζ τ) ta (λσ' H'=>∃β' o',rN X C W0 T σ0 H1 a Hb Wb Ac β' o' σ' H'/\N β' o') σ H':=by
 obtain⟨own,s⟩:=s;refine{β,own,s.sq,ιm _ _ _ (λds k β1 q J H' sm sq X9=>?_) q};have s1:=s.next hA sq (λ_ z=>z) sm λ_ _=>rfl
 have hu:jw (C.u λc=>c=a) (Wn own) k a:=.inr rfl;refine ze (Hb:=H') (Wb:=Wn own) hA hT γm τm (λi βx ox σx Hx sx=>?_) (λβx ox σx Hx Nx sx qx=>Pt _ _ _ _ _ _ _ sx qx) {own,{s1.sq,s1.sn,λ_ z=>z,s1.ac,s1.pu,λ_ _ _ e=>e,s1.st}} q λβx ox σx Hx sx hx=>?_
 ·obtain⟨Hm,sx⟩:=sx;have kp:Kp (λb=>jw (C.u λc=>c=a) (Wn own) k b\/H' b=ξ) H' Hx:={λb ob e n=>sx.bs b ob (λz=>n (.inl (by rw[z];exact hu))) e,λb xs e=>sx.bs b _ (λz=>hA.OQ _ _ _ s1.ac (by rw[<- z];exact e)) e}
  obtain⟨g1,g2⟩:=X9 (λb=>jw (C.u λc=>c=a) (Wn own) k b\/H' b=ξ) (λb z=>z) i Hx kp;refine{λd hd=>?_,g2};obtain⟨go,yl⟩:=g1 d hd;refine{go,λx H3 y=>?_};obtain⟨s3,r3⟩:=yl x H3 y;exact{s3,λaX TU=>aE.a_ (λb z=>.inl (mf TU k b z)) r3}
 ·obtain⟨Hm,sx⟩:=sx;exact{βx,ox,{Hm,{sx.sq,sx.sn,λc z=>s.le c (sx.le c z),sx.ac,sx.pu,λb ob n e=>sx.bs b ob n (s1.bs b ob n e),sx.st}},hx}
def i_ {lk:List (Option Nat)}{σ:St}{β:ba}{own:Nat->List θ}{oa:HO}(hA:xl a Ac){Af:α->ba->(ba->α->Prop)->Prop}{ta:ml}{J:It}{ds:List D}{k:Kd}{o0:α}{K:α->Prop}{End:Hp->Prop}
  (γm:∀d k β R R',(∀r,R r->R' r)->γ d k β R->γ d k β R') (τm:∀β R R',(∀d β,R d β->R' d β)->τ β R->τ β R') (YO:∀j∈Tg,j∈T)
  (inj:∀(i i' j:Nat),lk[i]?=ν (ν j)->lk[i']?=ν (ν j)->i=i') (hT:∀i∈T,∀j,lk[i]?≠ν (ν j))
  (s1:SQ X C σ H1 β own) (ha:H1 a=ξ) (hk:hold k η) (it:Cq X (av C (Wn own) k) J ds H1) (a0:Ac o0 (upd H1 a oa)) (ent:SQ X (C.u λc=>c=a) (fU lk σ) (upd H1 a oa) (cC lk β) (bP lk β own))
  (Pt:∀Hb Wb β' o σ' H' N,C.H0 a=ξ->rN X C (Wn (bP lk β own)) T (fU lk σ) H1 a Hb Wb Ac β' o σ' H'->Af o β' N->ta (λCs B8=>∃β' o',rN X C (Wn (bP lk β own)) T (fU lk σ) H1 a Hb Wb Ac β' o' Cs B8/\N β' o') σ' H')
  (q:jl γ τ Af ds k (cC lk β) o0 λβf o=>fe (cC lk β) βf/\K o)
  (fin:∀o H',K o->Out X C σ H1 own ζ β H' own->Ac o H'->End H') :
  gI J (Gm X C a Tg γ) (lq X (C.u λc=>c=a) ζ τ) ta (λ_ H'=>End H') (fU lk σ) (upd H1 a oa):=by
 have h0:C.H0 a=ξ:=aaz λz=>s1.ju a z ha;have sm:aB H1 (upd H1 a oa):=aB.new ha;refine ze (W0:=Wn (bP lk β own)) (T:=T) (σ0:=fU lk σ) (H1:=H1) (Hb:=H1) (Wb:=Wn (bP lk β own)) hA YO γm τm (λi βx ox σx Hx sx=>?_) (λβx ox σx Hx Nx sx qx=>Pt _ _ _ _ _ _ _ h0 sx qx)
  {bP lk β own,{ent,{λb z=>.inl z,sm.kp,λb z e=>z (sm.free e)},λ_ z=>z,a0,sm,λb ob n e=>sm _ _ e,λ_ _=>rfl}} q λβx ox σx Hx sx hx=>?_
 ·obtain⟨Hm,sx⟩:=sx;have kI:Kp (λb=>av C (Wn own) k b\/H1 b=ξ) H1 Hx:=sx.pu.kp;obtain⟨g1,g2⟩:=it (λb=>av C (Wn own) k b\/H1 b=ξ) (λb z=>z) i Hx kI;refine{λd hd=>?_,g2};obtain⟨go,yl⟩:=g1 d hd;refine{go,λx H3 y=>?_};obtain⟨s3,r3⟩:=yl x H3 y;exact{s3,λaX TU=>aE.a_ (λc z=>z.elim (λz=>.inl (oS (λc z=>bO c (TU c z)) k c z)) λz=>.inr (by rw[z];exact ha)) r3}
 ·obtain⟨Hm,sx⟩:=sx;obtain⟨hh,hK⟩:=hx;have lv:SQ X C σ Hx β own:=s1.leave sx.sq sx.sn sx.le hh λj ok i' e1 e2=>sx.st i' λz=>hT i' z j e2;exact fin ox Hx hK {lv,{λb z=>.inl z,sx.sn.k.mono λb z=>z.imp (bO b) id,sx.sn.d},λz=>{(sx.pu),rfl},λ_ z=>z} sx.ac
end
def Ni {X:Cx}{C:Cfg}{σ:St}{H1 H':Hp}{β:ba}{own:Nat->List θ}{a:θ}{o:List D}(s1:SQ X C σ H1 β own)(ha:H1 a=ξ)(h:Sv X.prog X.w H1 a o H'):KV X.prog X.w C (H1,Wn own) own H' .own (.lst o) (.ref a):=by
 obtain⟨vs,A,at',os,nd,nw⟩:=h;refine{a::A,{(a),vs,A,rfl,at',rfl,os},aaA.mpr {λz=>(nw a z).2 rfl,nd},λc hc=>?_};have oM:H1 c=ξ:=by
  rcases Z1.mp hc with rfl|hc
  ·exact ha
  ·exact(nw c hc).1
 exact{oM,λh=>by obtain⟨j,hj⟩:=h;exact(s1.dm j c hj).1 oM,aaz λz=>s1.ju c z oM}
def Lj (lk:List (Option Nat))(ι:cf)(γ:dc)(τ:a6)(ι2:cf)(γ2:dc)(τ2:a6)(φ:aP):aP:=λβ R=>ι β λds k β1=>hold k η/\jl γ τ (Em ι2 γ2 τ2 (J3 φ)) ds k (cC lk β1) [] λβf o=>fe (cC lk β1) βf/\R (.lst o) .own β1
section
variable {X:Cx}{C:Cfg}{lk:List (Option Nat)}{γ γ2:dc}{τ τ2:a6}{φ:aP}{T T2:List Nat}
variable {scope:acn}{tg cw qR kX elt:Expr}{ifs gU:List Expr}{ι ι2:cf}{pi:Bool}{pos:Pos}{i:Nat}
def X4 (N':List Str)(lk:List (Option Nat))(L:gz X.env.scope.names X.N scope N' lk=ζ)(oN:N'.Nodup)(hc:X.calm=ζ)(hi:xr X C pi tg cw ι)
  (mY:∀a cl c s H ex,xf (ay X scope N' cl c s H ex) (C.u λc=>c=a) tg T γ) (i5:∀a cl c s H ex,og (ay X scope N' cl c s H ex) (C.u λc=>c=a) ζ ifs τ)
  (QJ:∀a cl c s H ex,Sh (ay X scope N' cl c s H ex) (C.u λc=>c=a) qR kX ι2)
  (EU:∀a cl c s H ex,xf (ay X scope N' cl c s H ex) (C.u λc=>c=a) qR T2 γ2) (ET:∀a cl c s H ex,og (ay X scope N' cl c s H ex) (C.u λc=>c=a) ζ gU τ2)
  (iP:∀a cl c s H ex,PQ (ay X scope N' cl c s H ex) (C.u λc=>c=a) ζ elt φ) (hT:(T++T2).all (λi=>match lk[i]? with|some (ν _)=>η|_=>ζ)=ζ:=by rfl)
  (hs:∀x,aaO cw X.env x=pure x:=by intro _;rfl) (nK:∀cl c s H ex x,aaO kX (ay X scope N' cl c s H ex).env x=pure x:=by intro _ _ _ _ _ _;rfl):PQ X C pi (.ListComp elt [{tg,cw,ifs,0},{qR,kX,gU,0}] scope pos) (Lj lk ι γ τ ι2 γ2 τ2 φ):=by
 have L:=Links.of L;have BD:∀i∈T++T2,∀j,lk[i]?≠ν (ν j):=λi hi j e=>by
  have:=abP.mp hT i hi;rw[e]at this;cases this
 have ax:θ:=0;have ZS:List (Str×θ):=[];have γm:=(mY 0 [] 0 X.s₀ X.H₀ []).mono;have τm:=(i5 0 [] 0 X.s₀ X.H₀ []).mono;have Kq:=(EU 0 [] 0 X.s₀ X.H₀ []).mono;have Ko:=(ET 0 [] 0 X.s₀ X.H₀ []).mono;have φm:=(iP 0 [] 0 X.s₀ X.H₀ []).mono;have ιm:=(QJ 0 [] 0 X.s₀ X.H₀ []).mono;refine{λβ R R' k h=>hi.mono β _ _ (λds kd β1 q=>{q.1,q.2.mono λ_ _ z=>{z.1,k _ _ _ z.2}}) h,?_};refine(ji (g:={tg,cw,ifs,0}) (gs:=[{qR,kX,gU,0}]) (tg:=λa=>Gm X C a T γ) (tt:=λa=>lq X (C.u λc=>c=a) ζ τ)
  (ta:=λa N σ H=>∃β own,SQ X (C.u λc=>c=a) σ H β own/\ι2 β λds k β'=>∀J H',aB H H'->SQ X (C.u λc=>c=a) σ H' β' own->Cq X (jw (C.u λc=>c=a) (Wn own) k) J ds H' ->
   gI J (Gm X C a T2 γ2) (lq X (C.u λc=>c=a) ζ τ2) (VQ X C a φ) N σ H')
  L hc pT rfl rfl (λ_ _=>Nb) hi.pi (λa cl c s H ex=>{(mY a cl c s H ex).pg,(i5 a cl c s H ex).pt,zD (X:=ay X scope N' cl c s H ex) (g':={qR,kX,gU,0}) rfl hc Na (QJ a cl c s H ex).pi (EU a cl c s H ex).pg (ET a cl c s H ex).pt (pL (X:=ay X scope N' cl c s H ex) rfl (iP a cl c s H ex).pe) (nK cl c s H ex)}) hs).pre λσ H Q h=>?_
 obtain⟨β,own,s,h⟩:=h;refine{β,own,s,hi.mono β _ _ (λds k β1 h J H1 aH o1 it a ha=>?_) h};obtain⟨hk,q⟩:=h;refine i_ (T:=T++T2) (yQ (P:=X.prog) (w:=X.w) (H1:=H1)) γm τm (λj hj=>aaP _ hj) (bJ L oN) BD o1.sq ha hk it {[],[],ar,(show aT _ _ _ [] [] [] from {(rfl),rfl}),aa0,λc hc=>(nomatch hc)} (o1.sq.enter ha (bJ L oN))
  (λHb Wb βx ox σx Hx Nx h0 sx qx=>zd yQ (λj hj=>aaB _ hj) Kq Ko (λHb Wb βy oy σy Hy Ny sy qy=>G5 h0 ha φm sy qy) ιm sx qx) q λo H' q o2 r=>?_
 refine q _ _ aH {o2.sq,o1.sn.trans o2.sn,λz=>{(o1.pu z).1.trans (o2.pu rfl).1,(o1.pu z).2},o1.le} ((Ni o1.sq ha r).later o1.sn)
end
end L2.Q
namespace L2
open PySem PySem.Spec PySem.SeqAt PyProof.Rows
section
variable {X:Cx}
def Bl:qP X newDict (.dT []) :=
 {λμ s σ H Q E I h=>abe (h _ _ (ZX _) I.fresh (λb o e=>Z3 _ e) (I.laid (t':=s.toks) (λ_ _ q=>Z3 _ q) (ZX _) (FL _ I.big)))}
def DU {k v:Expr}{tk tv:TE}{a:θ}(hx:X.xe=λ_ _=>False)(hu:X.A.units<abQ)(hk:PE X k tk)(hv:PE X v tv):
  oh X (gG (FG k v (.ref a) X.env)) (λN σ H=>tk σ H λy H1=>tv σ H1 λv H2=>∃kvs key b,H2 a=ν (.dT kvs)/\y=.ref b/\H2 b=ν (.tup (key.map kV))/\kvs.length<aak/\N σ (upd H2 a (.dT (putK kvs key v)))):=by
 intro μ s σ H N kk Q E I h hN;unfold gG FG;refine ZV (ZV (bQ (dJ hx (hk μ s σ H _ I h)) λu s1 iX=>?_));obtain⟨y,H1,I1,r1,q⟩:=iX;refine ZV (aa2 (bQ (dJ hx (hv μ s1 σ H1 _ I1 q)) λw' s2 mV=>?_));obtain⟨v,H2,I2,r2,kvs,key,b,e,ey,eb,l,q2⟩:=mV;subst ey;cases (show u=Φ b from r1)
 refine ZV (abE (aa2 ?_));obtain⟨z,hd,xs,rel,dd⟩:=QV I2.b9 e;have hz:xs.length<=aak:=by rw[<- Paired.length rel];exact z
 have hl:(putK kvs key v).length<=aak:=by have:=vO kvs key v;lia
 refine wpAny_dictSet_heap (hsz:=hz) (knd:=adF (cS X.prog X.w)) hu (yi I2.b9 eb) dd λh' Y4 hs=>hN σ _ _ ?_ q2;obtain⟨q,es,ep,hq,h2,h3,h4,_,h5⟩:=Y4;refine IP I2 (by rw[e];exact True.intro) hs {(q),hq} {hl,hd,_,(rel.put key eb r2).keeps λc ys ec=>?_,q,es,ep,hq,h2,h3,h4,h5}
 rw[aD (JF ec e (λz=>nomatch z))];exact ec
end
end L2
namespace L2.Q
open PySem PySem.Spec PySem.SeqAt PyProof.Rows
def VO (P:Z6)(w:aam)(a:θ)(o:List (List Int×D))(H:Hp):Prop:=∃vs,H a=ν (.dT ((o.map λp=>iK p.1).zip vs))/\aT P w H (o.map (·.2)) vs []
def Ga {P:Z6}{w:aam}{a:θ}:xl a (VO P w a):=⟨λo H H' s h=>by
  obtain⟨vs,h1,h2⟩:=h;exact{vs,s _ _ h1,h2.keep (λb xs e=>s _ _ e) λc hc=>(nomatch hc)},λo H xs h z=>by
  obtain⟨vs,h1,_⟩:=h;rw[h1]at z;cases z⟩
abbrev VR (X:Cx)(C:Cfg)(a:θ)(φk φ:aP):ml:=λN σ H=>tQ X (C.u λc=>c=a) ζ φk σ H λy H1=>tQ X (C.u λc=>c=a) ζ φ σ H1 λv H2=>∃kvs key b,H2 a=ν (.dT kvs)/\y=.ref b/\H2 b=ν (.tup (key.map kV))/\kvs.length<aak/\N σ (upd H2 a (.dT (putK kvs key v)))
def FF (φk φ:aP)(o:List (List Int×D))(β:ba)(N:ba->List (List Int×D)->Prop):Prop:=φk β λkd _ β2=>φ β2 λx _ β3=>∃t,kd=.tup (t.map D.int)/\x.flat=ζ/\nR o t=ξ/\o.length<aak/\N β3 (o++[(t,x)])
section
variable {X:Cx}{C:Cfg}{W0:θ->Prop}{T:List Nat}{σ0:St}{H1:Hp}{a:θ}{Hb:Hp}{Wb:θ->Prop}{φ φk:aP}
def Dh (h0:C.H0 a=ξ)(ha:H1 a=ξ)(Kn:∀β R R',(∀d k β,R d k β->R' d k β)->φk β R->φk β R')(φm:∀β R R',(∀d k β,R d k β->R' d k β)->φ β R->φ β R'){β:ba}{o:List (List Int×D)}{σ:St}{H:Hp}{N:ba->List (List Int×D)->Prop}(s:rN X C W0 T σ0 H1 a Hb Wb (VO X.prog X.w a) β o σ H)(q:FF φk φ o β N):
  VR X C a φk φ (λσ' H'=>∃β' o',rN X C W0 T σ0 H1 a Hb Wb (VO X.prog X.w a) β' o' σ' H'/\N β' o') σ H:=by
 obtain⟨own,s⟩:=s;refine{β,own,s.sq,Kn _ _ _ (λkd kk β5 q v5 H5 rh o5 r5=>?_) q};obtain⟨S1,rfl⟩:=o5.pu rfl;refine{β5,_,o5.sq,φm _ _ _ (λxd kx β6 vV v H6 Bh o6 r6=>?_) q};obtain⟨t,e1,f,hn,hz,q2⟩:=vV;obtain⟨sm,rfl⟩:=o6.pu rfl;have s6:=s.next Ga o6.sq (λ_ z=>z) (S1.trans sm) (λ_ _=>rfl)
 subst e1;obtain⟨b,us,rfl,hb,rt⟩:=r5.rep;rw[L2.bj rt]at hb;obtain⟨vs,at',os⟩:=s6.ac;have XF:Own X.prog X.w H6 xd v []:=fQ f r6.rep;have l:(o.map λp=>iK p.1).length=vs.length:=by rw[ZU,os.length,ZU]
 have UO:putK ((o.map λp=>iK p.1).zip vs) (iK t) v=((o++[(t,xd)]).map λp=>iK p.1).zip (vs++[v]):=by
  rw[Dt v (KC os hn),aaj,List.zip_append l];rfl
 have kt:∀c xs,H6 c=ν (.tup xs)->upd H6 a (.dT (putK ((o.map λp=>iK p.1).zip vs) (iK t) v)) c=ν (.tup xs):=λc xs z=>by rw[aD (λz'=>by rw[z',at']at z;cases z)];exact z
 refine{_,iK t,b,at',rfl,by rw[JO];exact sm _ _ hb,by rw[List.length_zip,<- l,Nat.min_self,ZU];exact hz,β6,o++[(t,xd)],{_,s6.put h0 ha at' (λxs z=>by cases z) {vs++[v],by rw[ar,UO],?_}},q2}
 rw[aaj];exact(os.keep kt (A:=[]) λc hc=>by cases hc).append (aT.one (XF.keep kt (A:=[]) λc hc=>by cases hc))
end
def Li (lk:List (Option Nat))(ι:cf)(γ:dc)(τ:a6)(φk φ:aP):aP:=λβ R=>ι β λds k β1=>hold k η/\jl γ τ (FF φk φ) ds k (cC lk β1) [] λβf o=>fe (cC lk β1) βf/\R (dA o) .own β1
section
variable {X:Cx}{C:Cfg}{lk:List (Option Nat)}{γ:dc}{τ:a6}{φ φk:aP}{T:List Nat}
variable {scope:acn}{tg cw ke elt:Expr}{ifs:List Expr}{ι:cf}{pi:Bool}{pos:Pos}{i:Nat}
def Y5 (hu:X.A.units<abQ)(N':List Str)(lk:List (Option Nat))(L:gz X.env.scope.names X.N scope N' lk=ζ)(oN:N'.Nodup)(hc:X.calm=ζ)(hi:xr X C pi tg cw ι)
  (mY:∀a cl c s H ex,xf (ay X scope N' cl c s H ex) (C.u λc=>c=a) tg T γ) (i5:∀a cl c s H ex,og (ay X scope N' cl c s H ex) (C.u λc=>c=a) ζ ifs τ)
  (WI:∀a cl c s H ex,PQ (ay X scope N' cl c s H ex) (C.u λc=>c=a) ζ ke φk) (iP:∀a cl c s H ex,PQ (ay X scope N' cl c s H ex) (C.u λc=>c=a) ζ elt φ) (hT:T.all (λi=>match lk[i]? with|some (ν _)=>η|_=>ζ)=ζ:=by rfl)
  (hs:∀x,aaO cw X.env x=pure x:=by intro _;rfl):PQ X C pi (.DictComp ke elt [{tg,cw,ifs,0}] scope pos) (Li lk ι γ τ φk φ):=by
 have L:=Links.of L;have BD:∀i∈T,∀j,lk[i]?≠ν (ν j):=λi hi j e=>by
  have:=abP.mp hT i hi;rw[e]at this;cases this
 have γm:=(mY 0 [] 0 X.s₀ X.H₀ []).mono;have τm:=(i5 0 [] 0 X.s₀ X.H₀ []).mono;have φm:=(iP 0 [] 0 X.s₀ X.H₀ []).mono;have Kn:=(WI 0 [] 0 X.s₀ X.H₀ []).mono;refine{λβ R R' k h=>hi.mono β _ _ (λds kd β1 q=>{q.1,q.2.mono λ_ _ z=>{z.1,k _ _ _ z.2}}) h,?_};refine(ji (g:={tg,cw,ifs,0}) (gs:=[]) (tg:=λa=>Gm X C a T γ) (tt:=λa=>lq X (C.u λc=>c=a) ζ τ) (ta:=λa=>VR X C a φk φ)
  L hc Bl rfl rfl (λ_ _=>Q4) hi.pi (λa cl c s H ex=>{(mY a cl c s H ex).pg,(i5 a cl c s H ex).pt,DU (X:=ay X scope N' cl c s H ex) rfl hu (WI a cl c s H ex).pe (iP a cl c s H ex).pe}) hs).pre λσ H Q h=>?_
 obtain⟨β,own,s,h⟩:=h;refine{β,own,s,hi.mono β _ _ (λds k β1 h J H1 aH o1 it a ha=>?_) h};obtain⟨hk,q⟩:=h;refine i_ (T:=T) (Ga (P:=X.prog) (w:=X.w)) γm τm (λj hj=>hj) (bJ L oN) BD o1.sq ha hk it {[],ar,(show aT _ _ _ [] [] [] from {(rfl),rfl})} (o1.sq.uy (λxs z=>by cases z) ha (bJ L oN))
  (λHb Wb βx ox σx Hx Nx h0 sx qx=>Dh h0 ha Kn φm sx qx) q λo H' q o2 r=>?_
 refine q _ _ aH {o2.sq,o1.sn.trans o2.sn,λz=>{(o1.pu z).1.trans (o2.pu rfl).1,(o1.pu z).2},o1.le} ?_;obtain⟨vs,at',os⟩:=r;refine{[a],LH at' os,by simp,λc hc=>?_}
 rw[ZY.mp hc];exact{aaz λz=>o1.sn.d a z ha,λh=>by obtain⟨j,hj⟩:=h;exact(o1.sq.dm j a hj).1 ha,aaz λz=>o1.sq.ju a z ha}
end
section
variable {X:Cx}{C:Cfg}{γ:dc}{τ:a6}{φ:aP}{T:List Nat}{scope:acn}{tg cw elt:Expr}{ifs:List Expr}{ι:cf}{pos:Pos}
def X3 (N':List Str)(lk:List (Option Nat))(L:gz X.env.scope.names X.N scope N' lk=ζ)(oN:N'.Nodup)(hc:X.calm=ζ)(hi:xr X C ζ tg cw ι)
  (mY:∀a cl c s H ex,xf (ay X scope N' cl c s H ex) (C.u λc=>c=a) tg T γ) (i5:∀a cl c s H ex,og (ay X scope N' cl c s H ex) (C.u λc=>c=a) ζ ifs τ)
  (iP:∀a cl c s H ex,PQ (ay X scope N' cl c s H ex) (C.u λc=>c=a) ζ elt φ) (hT:T.all (λi=>match lk[i]? with|some (ν _)=>η|_=>ζ)=ζ:=by rfl)
  (hs:∀x,aaO cw X.env x=pure x:=by intro _;rfl):PQ X C ζ (.ListComp elt [{tg,cw,ifs,0}] scope pos) (vi lk ι γ τ φ) :=
 Jx (pi:=ζ) (pc:=ζ) (pe:=ζ) (Links.of L) oN hT hc hi mY (λa cl c s H ex=>(i5 a cl c s H ex).pt) (i5 0 [] 0 X.s₀ X.H₀ []).mono iP (mY 0 [] 0 X.s₀ X.H₀ []).mono (iP 0 [] 0 X.s₀ X.H₀ []).mono hs
end
section
variable {X:Cx}{C:Cfg}{e a:Expr}{φ:aP}{p:Bool}{pos p2 p3 p4:Pos}{j:Nat}
def Hj {te:TE}(he:PE X e te):PE X (.Subscript e (.Slice ξ ξ (ν (.UnaryOp .USub (.Constant (.int 1) j p3) p4)) p2) pos) (λσ H Q=>te σ H λx H1=>∃a xs,x=.ref a/\H1 a=ν (.lst xs)/\∀p,H1 p=ξ->Q (.ref p) (upd H1 p (.lst xs.reverse))):=by
 intro μ s σ H Q I h;refine Subscript_ (bQ (he μ s σ H _ I h) λv s1 iX=>?_);obtain⟨x,H1,I1,r1,q1⟩:=iX;refine wpAny_Slice ?_;rw[evalPart_none];refine Z0 (Z0 ?_);rw[evalPart_some];refine bQ (DL (X:=X) (pos:=p4) xB (bu (i:=1) (j:=j) (pos:=p3)) μ s1 σ H1 (λv H'=>v=.int (-1)/\H'=H1) I1 {1,rfl,rfl,rfl}) λu s3 mV=>?_;obtain⟨y,H3,I3,r3,ey,eH⟩:=mV;subst ey eH;obtain⟨tk,rfl⟩:=(show ∃t,u=Value.int (-1) t from r3)
 have I4:Inv X μ σ H3 {s3 with heap:=s3.heap.push {cls:=.type "slice",data:=.fields #[.none,.none,.int (-1) tk]}}:=I3.kept (t':=s3.toks) λb ob q=>Z3 _ q
 have z6:(s3.heap.push {cls:=.type "slice",data:=.fields #[.none,.none,.int (-1) tk]}).IsSliceOf s3.heap.objs.size .none .none (.int (-1) tk):=Heap.IsSliceOf.new ..
 generalize Uk:({s3 with heap:=s3.heap.push {cls:=.type "slice",data:=.fields #[.none,.none,.int (-1) tk]}}:ZZ)=s4 at I4 ⊢
 have Ii:s4.heap.IsSliceOf s3.heap.objs.size .none .none (.int (-1) tk):=by rw[<- Uk];exact z6
 have main:∃T id,typeLookup (.type T) "__getitem__" = pure (ν (.builtin id))/\s4.TypeIs v T/\aau (Ψ X.prog X.w) X.A (getItem v (.ref s3.heap.objs.size)) (EP X μ σ Q) X.xe s4:=by
  obtain⟨a,xs,rfl,hx,q⟩:=q1;cases (show v=Φ a from r1)
  obtain⟨its,r,ht,hz⟩:=I4.list (fb.of hx);have hlen:=r.length;refine{"list",_,adn.lookup,ht.isList.typeIs,?_};refine adw ht.isList Ii .none .none (.int (-1) tk) (by simp) ?_ (by rw[aas] <;> lia)
  rw[HT.j7];refine{.ref s4.heap.objs.size,_,I4.laid (t':=s4.toks) (o:=.lst xs.reverse) (λb ob q=>Z3 _ q) (ZX _) ?_,rfl,q _ (I4.b9.fresh (ZX _))};exact{by rw[abU];lia,_,0,by simpa using Vals.rev r,aay _ rfl}
 obtain⟨T,id,hT,ht,hg⟩:=main;show aau (Ψ X.prog X.w) X.A (subscriptTail e (.Slice ξ ξ (ν (.UnaryOp .USub (.Constant (.int 1) j p3) p4)) p2) v (.ref s3.heap.objs.size)) (EP X μ σ Q) X.xe s4;exact tail_any (ops:=[v,.ref s3.heap.objs.size]) ht hT hg (by with_unfolding_all rfl)
def QW:D->Option D
 |.lst ds=>ν (.lst ds.reverse)
 |_=>ξ
def Ov (φ:aP):aP:=λβ R=>φ β λx k β1=>∃d,QW x=ν d/\kN NL d k.wk λk'=>R d k' β1
def He {j:Nat}(ha:PQ X C p a φ):PQ X C p (.Subscript a (.Slice ξ ξ (ν (.UnaryOp .USub (.Constant (.int 1) j p3) p4)) p2) pos) (Ov φ) :=
 ⟨λβ R R' k h=>ha.mono β _ _ (λx kx β1 h=>by obtain⟨d,e,q⟩:=h;exact{d,e,q.mono λ_ z=>k _ _ _ z}) h,
  (Hj ha.pe).pre λσ H Q h=>by
    obtain⟨β,own,s,h⟩:=h;refine tQ.of ha s h λd k β1 v H1 aH h o1 r1=>?_;obtain⟨d',e,q⟩:=h;have rr:=aE.a_ Az r1.rep;cases d with
    |lst ds =>
      cases e;obtain⟨c,vs,rfl,h1,n1,rs⟩:=rr;refine{c,vs,rfl,h1,λp hp=>?_};have sm:aB H1 (upd H1 p (.lst vs.reverse)):=aB.new hp;have hw:¬ av C (Wn aH) k.wk p:=λz=>o1.sq.FO _ p z hp;have r2:aE X.prog X.w (av C (Wn aH) k.wk) (upd H1 p (.lst vs.reverse)) (.lst ds.reverse) (.ref p):={p,_,rfl,ar,hw,(ak.rev rs).same sm};obtain⟨k',q,r⟩:=KV.kN (Z:=(H,Wn own)) CD r2 (λn=>jM (H:=H1) o1.sq.yH o1.sq.ju (λa z e=>o1.sn.d a z e) n {p,_,rfl,ar,λz=>z hp,ak.flat n ((ak.rev rs).same sm)}) q;exact q _ _ aH (o1.same sm) r
    |_=>cases e⟩
end
section
variable {X:Cx}{C:Cfg}{a:Expr}{φ:aP}{p:Bool}
def Th (φ:aP):a6:=λβ R=>φ β λd _ β'=>∃ds,d=.lst ds/\R (!ds.isEmpty) β'
def Ha (ha:PQ X C p a φ)(he:∀whole,isTrue a X.env whole=(do let v <- whole;adm a.pos;holding [v] (truthy v)):=by intro _;rfl):xq X C p a (Th φ) :=
 ⟨λβ R R' k h=>ha.mono β _ _ (λd kd β' h=>by obtain⟨b,e,q⟩:=h;exact{b,e,k _ _ q}) h,(Dv ha.pe he).pre λσ H Q h=>by
  obtain⟨β,own,s,h⟩:=h;refine tQ.of ha s h λd k β' v H1 aH h o1 r1=>?_;obtain⟨ds,e,q⟩:=h;subst e;obtain⟨c,vs,rfl,h1,n1,rs⟩:=r1.rep;refine{!ds.isEmpty,.inl {vs,fb.of h1,?_},q H1 aH o1};have:=rs.length;cases ds <;> cases vs <;> first|rfl|cases this⟩
end
end L2.Q
namespace L2
open PySem PySem.Spec PySem.SeqAt PyProof.Rows
def Apart (t u:List Int):Prop:=fK t u=η/\iC t u=η
def Good (rows ts:List (List Int)):Prop:=(∀t∈ts,t∈rows)/\ts.Pairwise (λa b=>HT.lexLt a b=ζ)/\ts.Pairwise Apart
def xK {t u:List Int}:fK t u=ζ↔∃i∈t,i∈u:=by
 unfold fK;rw[List.any_eq_true];simp
def yM {a b c d:Int}:uE a b c d=ζ↔(a<c/\c<b/\b<d)\/(c<a/\a<d/\d<b):=by
 unfold uE;simp[Bool.or_eq_true,aaQ]
def wb {rows ts:List (List Int)}{k:Nat}{t:List Int}(hk:k<ts.length):l3 rows ts k t=ξ↔t∈rows/\(∀u,0<k->ts[k-1]?=ν u->HT.lexLt u t=ζ)/\∀j u,j<k->ts[j]?=ν u->Apart u t:=by
 have Sf:∀(p:List Int->Bool) (j:Nat) (u:List Int),ts[j]?=ν u->uN ts p j=p u:=λp j u e=>by unfold uN;rw[e]
 unfold l3
 by_cases h1:t∈rows
 ·rw[χ h1]
  by_cases h2:(decide (0<k)&&uN ts (λu=>!HT.lexLt u t) (k-1))=ζ
  ·rw[χ h2];refine{λz=>(nomatch z),λiX=>?_};obtain⟨_,z,_⟩:=iX;rw[aaQ]at h2;have h0:0<k:=by simpa using h2.1
   have e:ts[k-1]?=ν ts[k-1]:=Z4 (by lia)
   have:=h2.2;rw[Sf _ _ _ e,z _ h0 e]at this;exact Η this (by simp)
  ·rw[ω h2];have o:∀u,0<k->ts[k-1]?=ν u->HT.lexLt u t=ζ:=λu h0 e=>by
    rw[Sf _ _ _ e]at h2;cases q:HT.lexLt u t with
    |true=>rfl
    |false=>exact Η (by rw[q];simp[h0]) h2
   have sh:∀p:List Int->Bool,(Z_ k).find? (uN ts p)=ξ↔∀j u,j<k->ts[j]?=ν u->p u=η:=λp=>by
    rw[adf];refine{λz j u hj e=>?_,λz j hj=>?_}
    ·have:=z j (aax.mpr hj);rw[Sf p j u e]at this;simpa using this
    ·have JU:=aax.mp hj;have e:ts[j]?=ν ts[j]:=Z4 (by lia)
     rw[Sf p j _ e,z j _ JU e];simp
   cases q1:(Z_ k).find? (uN ts λu=>fK u t)with
   |some j =>
    refine{λz=>(nomatch z),λmV=>?_};obtain⟨_,_,z⟩:=mV;rw[(sh _).mpr λj u hj e=>(z j u hj e).1]at q1;cases q1
   |none =>
    cases q2:(Z_ k).find? (uN ts λu=>iC u t)with
    |some j =>
     refine{λz=>(nomatch z),λvV=>?_};obtain⟨_,_,z⟩:=vV;rw[(sh _).mpr λj u hj e=>(z j u hj e).2]at q2;cases q2
    |none=>exact{λ_=>{h1,o,λj u hj e=>{(sh _).mp q1 j u hj e,(sh _).mp q2 j u hj e}},λ_=>rfl}
 ·rw[ω h1];exact{λz=>(nomatch z),λz=>Η z.1 h1}
def pw_iff {R:List Int->List Int->Prop}{ts:List (List Int)}:ts.Pairwise R↔∀(i j:Nat) (u t:List Int),i<j->ts[i]?=ν u->ts[j]?=ν t->R u t:=by
 rw[aco];refine{λh i j u t aL e1 e2=>?_,λh i j hi hj aL=>h i j _ _ aL (Z4 hi) (Z4 hj)};obtain⟨hi,rfl⟩:=aaf.mp e1;obtain⟨hj,rfl⟩:=aaf.mp e2;exact h i j hi hj aL
def yA {rows ts:List (List Int)}:iu rows ts=ξ↔∀k<ts.length,kL rows ts k=ξ:=by
 unfold iu;rw[ade];exact{λh k hk=>h k (aax.mpr hk),λh k hk=>h k (aax.mp hk)}
def yB {rows ts:List (List Int)}:iu rows ts=ξ↔Good rows ts:=by
 rw[yA];constructor
 ·intro h;have h':∀k t,ts[k]?=ν t->_:=λk t e=>(wb (aaf.mp e).1).mp ((m7 e).symm.trans (h k (aaf.mp e).1));refine{λt ht=>?_,pw_iff.mpr ?_,pw_iff.mpr λi j u t aL e1 e2=>(h' j t e2).2.2 i u aL e1}
  ·obtain⟨k,e⟩:=List.mem_iff_getElem?.mp ht;exact(h' k t e).1
  ·intro i j
   induction j with
   |zero=>intro u t aL;lia
   |succ j ih =>
    intro u t aL e1 e2;have hj:j<ts.length:=by have:=(aaf.mp e2).1;lia
    have e3:ts[j]?=ν ts[j]:=Z4 hj;have l:=(h' (j+1) t e2).2.1 ts[j] (by lia) e3
    by_cases UZ:i<j
    ·exact jn (ih u ts[j] UZ e1 e3) l
    ·have:i=j:=by lia
     subst this;rw[e1]at e3;cases e3;exact l
 ·rintro⟨h1,h2,h3⟩ k hk;have e:ts[k]?=ν ts[k]:=Z4 hk;rw[m7 e];exact(wb hk).mpr {h1 _ (abO hk),λu h0 eu=>pw_iff.mp h2 (k-1) k u _ (by lia) eu e,λj u hj eu=>pw_iff.mp h3 j k u _ hj eu e}
def Ei:List Int->List Int
 |[a,b]=>[if b<a then b else a,if a<b then b else a]
 |t=>t
def Zb (n:Int)(gs:List (List Int)):Prop:=∀g∈gs,∃a b,g=[a,b]/\Rc n (Ei g)
def kM:FD:=λds R=>∃(n:Int) (gs:List (List Int)),ds=[.int n,.lst (gs.map kD)]/\0<=n/\gs.length<1000/\Zb n gs/\R (.tup [.int n,.lst ((iL (kY (gs.map Ei))).map kD)])
def kM.mono:c0 kM:=λds R R' k ⟨n,gs,e,h1,h2,h3,q⟩=>{n,gs,e,h1,h2,h3,k _ q}
end L2
namespace L2.Q
open PySem PySem.Spec PySem.SeqAt PyProof.Rows
structure uK (mg:Str->Option ZW):Prop extends Bs2 mg where
 sum:mg "sum" = ξ
def tI (p:Nat×Nat):List Int:=[(p.1:Int),(p.2:Int)]
def fI {p q:Nat×Nat}(h:tI p=tI q):p=q:=by
 unfold tI at h;injection h with h1 h2
 injection h2 with h2 _
 exact Prod.ext (ady h1) (ady h2)
def dt (ps:List (Nat×Nat)):D:=.lst (ps.map λp=>kD (tI p))
def eG (n:Nat)(ps:List (Nat×Nat)):D:=.tup [.int n,dt ps]
structure kT (n:Nat)(ps:List (Nat×Nat)):Prop where
 lt:∀p∈ps,p.1<p.2/\p.2<n
 nd:ps.Nodup
 le:n<=80
 sm:ps.length<=400
def uX {n:Int}{ts:List (List Int)}(n0:0<=n)(h:bV n ts):∃ps:List (Nat×Nat),ts=ps.map tI/\∀p∈ps,p.1<p.2/\p.2<n.toNat:=by
 induction ts with
 |nil=>exact{[],rfl,λ_ z=>(nomatch z)}
 |cons t ts ih =>
  obtain⟨ps,e,q⟩:=ih λu hu=>h u (by simp[hu])
  obtain⟨a,b,rfl,h1,h2,h3⟩:=h t (by simp)
  refine{(a.toNat,b.toNat)::ps,?_,λp hp=>?_}
  ·rw[aap,<- e]
   congr 1
   show [a,b]=[((a.toNat:Nat):Int),((b.toNat:Nat):Int)];rw[Int.toNat_of_nonneg h1,Int.toNat_of_nonneg (by lia)]
  ·rcases Z1.mp hp with rfl|hp
   ·exact{by show a.toNat<b.toNat;lia,by show b.toNat<n.toNat;lia}
   ·exact q p hp
def zf {n:Int}{ts:List (List Int)}(n0:0<=n)(n1:n<=80)(l:ts.length<=400)(h:bV n ts)(nd:ts.Nodup):∃(m:Nat) (ps:List (Nat×Nat)),kT m ps/\n=m/\ts=ps.map tI/\D.tup [.int n,.lst (ts.map kD)]=eG m ps:=by
 obtain⟨ps,e,q⟩:=uX n0 h;refine{n.toNat,ps,{q,?_,by lia,by rw[e,ZU]at l;exact l},by lia,e,?_}
 ·rw[e]at nd;exact(aat.mp nd).imp λz e=>z (Ι tI e)
 ·unfold eG dt;rw[e,aaK,Int.toNat_of_nonneg n0];rfl
noncomputable def cB (l:List Nat):List D:=l.map λ(k:Nat)=>D.int (k:Int)
def jh (ps:List (Nat×Nat))(i:Nat):List Nat:=(ps.filter λp=>decide (p.1=i)).map (·.2)
def bI {ps:List (Nat×Nat)}{i k:Nat}:k∈jh ps i↔(i,k)∈ps:=by
 unfold jh;rw[Z2];constructor
 ·rintro⟨p,hp,rfl⟩;obtain⟨h1,h2⟩:=aae.mp hp;rw[<- of_decide_eq_true h2];exact h1
 ·intro h;exact{(i,k),aae.mpr {h,by simp},rfl}
def xm (n:Nat)(ps:List (Nat×Nat)):D:=.lst ((Z_ n).map λi=>.lst (cB (jh ps i)))
def wD (ps:List (Nat×Nat))(w:Nat×Nat->Int):D:=dA (ps.map λp=>(tI p,.int (w p)))
def KA {ps:List (Nat×Nat)}{w:Nat×Nat->Int}{p:Nat×Nat}(h:p∈ps):nR (ps.map λp=>(tI p,.int (w p))) (tI p)=ν (.int (w p)):=by
 unfold nR
 induction ps with
 |nil=>cases h
 |cons q ps ih =>
  rw[aap,abt]
  by_cases e:q=p
  ·rw[e,Γ rfl];rfl
  ·rw[Δ λz=>e (fI z)];exact ih ((Z1.mp h).resolve_left λz=>e z.symm)
def HF {ps:List (Nat×Nat)}{w:Nat×Nat->Int}{p:Nat×Nat}(h:p∉ps):nR (ps.map λp=>(tI p,.int (w p))) (tI p)=ξ:=by
 unfold nR;rw[Option.map_eq_none_iff,adf];intro x hx;obtain⟨q,hq,rfl⟩:=Z2.mp hx;simp only[decide_eq_true_eq];intro e;exact h (fI e▸hq)
def MV {ps:List (Nat×Nat)}{w:Nat×Nat->Int}{i k:Nat}(h:(i,k)∈ps):Au (wD ps w) (.tup [.int (i:Int),.int (k:Int)])=ν (.int (w (i,k))):=by
 have:=IY (kvs:=ps.map λp=>(tI p,D.int (w p))) (t:=tI (i,k));rw[KA h]at this;exact this
def fu {α:Type}{n i:Nat}{f:Nat->α}(h:i<n):((Z_ n).map f)[i]?=ν (f i):=by
 rw[aah,abI h];rfl
def zW {ds:List D}{x:Int}{i:Nat}{d:D}(hx:x=(i:Int))(h:ds[i]?=ν d):xp (.lst ds) (.int x)=ν d:=by rw[hx];exact Ar h
def Pf {n:Nat}{ps:List (Nat×Nat)}{x:Int}{i:Nat}(hx:x=(i:Int))(h:i<n):xp (xm n ps) (.int x)=ν (.lst (cB (jh ps i))):=zW hx (fu h)
def tP (L:Nat)(T:Nat->Int):List D:=(Z_ L).map λl=>.int (T l)
def iV (n:Nat)(L:Nat->Nat)(T:Nat->Nat->Int):D:=.lst ((Z_ (n+1)).map λi=>.lst (tP (L i) λl=>T l i))
def nJ {L:Nat}{T:Nat->Int}{x:Int}{l:Nat}(hx:x=(l:Int))(h:l<L):xp (.lst (tP L T)) (.int x)=ν (.int (T l)):=zW hx (fu h)
def nH {n:Nat}{L:Nat->Nat}{T:Nat->Nat->Int}{x:Int}{i:Nat}(hx:x=(i:Int))(h:i<=n):xp (iV n L T) (.int x)=ν (.lst (tP (L i) λl=>T l i)):=zW hx (fu (by lia))
def lQ (ps:List (Nat×Nat))(w:Nat×Nat->Int)(T:Nat->Nat->Int)(i j:Nat):Int:=(rl ((((jh ps i).filter λk=>decide (k<j)).map λk=>w (i,k)+T (k-i-1) (i+1)+T (j-k-1) (k+1))++[T (j-i-1) (i+1)])).getD 0
def sG {l:List Int}{x:Int}:rl (l++[x])=ν ((rl (l++[x])).getD 0):=by
 cases l with
 |nil=>rfl
 |cons a l=>rfl
def pV {ps:List (Nat×Nat)}{w:Nat×Nat->Int}{T T':Nat->Nat->Int}{i j:Nat}(hp:∀p∈ps,p.1<p.2)(hj:i<j)(h:∀l,l<j-i->∀a,T l a=T' l a):lQ ps w T i j=lQ ps w T' i j:=by
 unfold lQ;have e:((jh ps i).filter λk=>decide (k<j)).map (λk=>w (i,k)+T (k-i-1) (i+1)+T (j-k-1) (k+1))=((jh ps i).filter λk=>decide (k<j)).map λk=>w (i,k)+T' (k-i-1) (i+1)+T' (j-k-1) (k+1):=by
  refine aaN λk hk=>?_;obtain⟨h1,h2⟩:=aae.mp hk;have h3:=hp _ (bI.mp h1);have h4:=of_decide_eq_true h2;dsimp only at h3;rw[h _ (by lia),h _ (by lia)]
 rw[e,h (j-i-1) (by lia)]
def KS (ps:List (Nat×Nat))(w:Nat×Nat->Int):Nat->Nat->Nat->Int
 |0,_,_=>0
 |_+1,0,_=>0
 |n+1,l+1,i=>lQ ps w (KS ps w n) i (i+l+1)
theorem uZ {ps:List (Nat×Nat)}{w:Nat×Nat->Int}(hp:∀p∈ps,p.1<p.2):∀{n m l i:Nat},l<=n->l<=m->KS ps w n l i=KS ps w m l i
 |0,0,_,_,_,_=>rfl
 |0,m+1,0,_,_,_=>rfl
 |0,m+1,l+1,_,h,_=>by lia
 |n+1,0,0,_,_,_=>rfl
 |n+1,0,l+1,_,_,h=>by lia
 |n+1,m+1,0,_,_,_=>rfl
 |n+1,m+1,l+1,i,h1,h2=>by
  unfold KS;exact pV hp (by lia) λl' hl a=>uZ hp (by lia) (by lia)
def tW (ps:List (Nat×Nat))(w:Nat×Nat->Int)(l i:Nat):Int:=KS ps w l l i
def om {ps:List (Nat×Nat)}{w:Nat×Nat->Int}(hp:∀p∈ps,p.1<p.2){l i:Nat}:tW ps w (l+1) i=lQ ps w (tW ps w) i (i+l+1):=by
 show KS ps w (l+1) (l+1) i=_;unfold KS;exact pV hp (by lia) λl' hl a=>uZ hp (by lia) (by lia)
def gc (n a:Nat):List (Nat×Nat):=(Z_ (a+1)).map λb=>(n-1-a,n-a+b)
def tR (n:Nat):List (Nat×Nat):=(Z_ n).flatMap (gc n)
def zq (p:Nat×Nat):D:=.tup [.int (p.1:Int),.int (p.2:Int)]
def gi (n a b:Nat):List (Nat×Nat):=(gc n a).drop b++((Z_ n).drop (a+1)).flatMap (gc n)
def kn {n a b:Nat}(h:b<=a):gi n a b=(n-1-a,n-a+b)::gi n a (b+1):=by
 unfold gi gc;rw[aaZ (by rw[ZU,aaD];lia)]
 simp
def sZ {n a:Nat}(h:a<n):((Z_ n).drop a).flatMap (gc n)=gi n a 0:=by
 unfold gi;rw[aaZ (by rw[aaD];exact h)]
 simp
def r_ {n a:Nat}(h:a+1<n):gi n a (a+1)=gi n (a+1) 0:=by
 rw[<- sZ h];unfold gi gc;simp
def xO {n a:Nat}(h:n<=a+1):gi n a (a+1)=[]:=by
 unfold gi gc;rw[List.drop_eq_nil_of_le (by simp),List.drop_eq_nil_of_le (by simpa using h)]
 rfl
def AO {n:Nat}(h:0<n):tR n=gi n 0 0:=by rw[<- sZ h];rfl
def cJ {α:Type}{γ:dc}{τ:a6}{φ:aP}{l:List α}{f:α->D}{k:Kd}{wW:ba}{K:List D->Prop}(t:α->Bool)(g:α->D)(h0:fe wW wW)(hl:l.length<=aak)
  (h:∀x∈l,∀(x0:Option B) (o:List D) (J:ba->List D->Prop),o.length<aak->(t x=ζ->∀x0,J (x0::wW) (o++[g x]))->(t x=η->∀x0,J (x0::wW) o)->γ (f x) (sk k (f x)) (x0::wW) λβ1=>τ β1 λt β2=>if t=ζ then φ β2 λx kx β3=>H9 kx x/\o.length<aak/\J β3 (o++[x]) else J β2 o)
  (q:K ((l.filter t).map g)):lP γ τ φ (l.map f) k (ξ::wW) K:=by
 refine{λi β o=>i<=l.length/\(∃x0,β=x0::wW)/\o=((l.take i).filter t).map g,{aab _,{_,rfl},rfl},?_,?_}
 ·rintro i d β o hd ⟨hi,⟨x0,rfl⟩,rfl⟩;rw[aah]at hd;obtain⟨x,hx,rfl⟩:=aai.mp hd;have gV:i<l.length:=(aaf.mp hx).1;have hle:(((l.take i).filter t).map g).length<aak:=by
   rw[ZU];have:=abp t (l.take i);rw[aaw]at this;lia
  have e:l.take (i+1)=l.take i++[x]:=by rw[aba,hx];rfl
  refine h x (aaF hx) x0 _ (λβ o=>i+1<=l.length/\(∃x0,β=x0::wW)/\o=((l.take (i+1)).filter t).map g) hle (λht x0=>?_) λht x0=>?_
  ·exact{gV,{_,rfl},by rw[e,abu,aaj,aaS,χ ht];rfl}
  ·exact{gV,{_,rfl},by rw[e,abu,aaj,aaS,ω (by rw[ht];simp)];simp}
 ·rintro β o ⟨_,⟨x0,rfl⟩,rfl⟩;rw[ZU,abx];exact{(h0),q}
def yd {α:Type}{γ:dc}{τ:a6}{φ:aP}{l:List α}{f:α->D}{k:Kd}{wW:ba}{K:List D->Prop}(t:α->Bool)(g:α->D)(h0:fe wW wW)(hl:l.length<=aak)
  (h:∀x∈l,∀(x0 x1:Option B) (o:List D) (J:ba->List D->Prop),o.length<aak->(t x=ζ->∀x0 x1,J (x0::x1::wW) (o++[g x]))->(t x=η->∀x0 x1,J (x0::x1::wW) o)->γ (f x) (sk k (f x)) (x0::x1::wW) λβ1=>τ β1 λt β2=>if t=ζ then φ β2 λx kx β3=>H9 kx x/\o.length<aak/\J β3 (o++[x]) else J β2 o)
  (q:K ((l.filter t).map g)):lP γ τ φ (l.map f) k (ξ::ξ::wW) K:=by
 refine{λi β o=>i<=l.length/\(∃x0 x1,β=x0::x1::wW)/\o=((l.take i).filter t).map g,{aab _,{_,_,rfl},rfl},?_,?_}
 ·rintro i d β o hd ⟨hi,⟨x0,x1,rfl⟩,rfl⟩;rw[aah]at hd;obtain⟨x,hx,rfl⟩:=aai.mp hd;have gV:i<l.length:=(aaf.mp hx).1;have hle:(((l.take i).filter t).map g).length<aak:=by
   rw[ZU];have:=abp t (l.take i);rw[aaw]at this;lia
  have e:l.take (i+1)=l.take i++[x]:=by rw[aba,hx];rfl
  refine h x (aaF hx) x0 x1 _ (λβ o=>i+1<=l.length/\(∃x0 x1,β=x0::x1::wW)/\o=((l.take (i+1)).filter t).map g) hle (λht x0 x1=>?_) λht x0 x1=>?_
  ·exact{gV,{_,_,rfl},by rw[e,abu,aaj,aaS,χ ht];rfl}
  ·exact{gV,{_,_,rfl},by rw[e,abu,aaj,aaS,ω (by rw[ht];simp)];simp}
 ·rintro β o ⟨_,⟨x0,x1,rfl⟩,rfl⟩;rw[ZU,abx];exact{(h0),q}
def bp {α:Type}{l:List α}:l.filter (λ_=>ζ)=l:=ac5.mpr λ_ _=>rfl
def gX {a b:List D}(h:a.length+b.length<=1000000):wO (.lst a) (.lst b)=ν (.lst (a++b)):=by
 show (if a.length+b.length<=aak then _ else _)=_
 rw[χ (aaH h (by decide))]
theorem fF {α:Type}{f:α->Int}:∀{l:List α},D.ck (l.map λx=>D.int (f x))=ζ
 |[]=>rfl
 |_::l=>fF (l:=l)
theorem sV:∀{a b:List D},D.ck a=ζ->D.ck b=ζ->D.ck (a++b)=ζ
 |[],_,_,h=>h
 |d::a,b,h,h'=>by
  have f':(d.flat&&D.ck a)=ζ:=h;rw[aaQ]at f';show (d.flat&&D.ck (a++b))=ζ;rw[f'.1,sV f'.2 h'];rfl
def Er {α:Type}{f:α->Int}{l:List α}{x:Int}:jU rl [.lst ((l.map λk=>D.int (f k))++[D.int x])]=ν (.int ((rl (l.map f++[x])).getD 0)):=by
 have e:(l.map λk=>D.int (f k))++[D.int x]=(l.map f++[x]).map D.int:=by simp
 rw[e];exact qA sG
def HL {α:Type}{l:List α}{m:Nat}{x:α}(h:l.Nodup)(hx:l[m]?=ν x):x∉l.take m:=λz=>by
 obtain⟨i,hi⟩:=List.mem_iff_getElem?.mp z;rw[List.getElem?_take]at hi
 split at hi
 ·next gV =>
  have:=(List.getElem?_inj (aaf.mp hi).1 h).mp (hi.trans hx.symm);lia
 ·cases hi
def yC:FD:=λds R=>∃n:Nat,ds=[.int n]/\n<=80/\R (.lst ((tR n).map zq))
def yC.mono:c0 yC:=λds R R' k h=>by obtain⟨n,e,h1,q⟩:=h;exact{n,e,h1,k _ q}
def jr:FD:=λds R=>∃n ps,ds=[eG n ps]/\kT n ps/\R (xm n ps)
def jr.mono:c0 jr:=λds R R' k h=>by obtain⟨n,ps,e,h1,q⟩:=h;exact{n,ps,e,h1,k _ q}
def ql:FD:=λds R=>∃(n:Nat) (ps:List (Nat×Nat)) (w:Nat×Nat->Int) (L:Nat->Nat) (T:Nat->Nat->Int) (i k j:Nat),ds=[wD ps w,iV n L T,.int i,.int k,.int j]/\(i,k)∈ps/\i<k/\k<j/\j<=n/\k-i-1<L (i+1)/\j-k-1<L (k+1) /\
 R (.int (w (i,k)+T (k-i-1) (i+1)+T (j-k-1) (k+1)))
def ql.mono:c0 ql:=λds R R' k h=>by obtain⟨n,ps,w,L,T,i,k',j,e,h1,h2,h3,h4,h5,h6,q⟩:=h;exact{n,ps,w,L,T,i,k',j,e,h1,h2,h3,h4,h5,h6,k _ q}
def qm:FD:=λds R=>∃(n:Nat) (ps:List (Nat×Nat)) (w:Nat×Nat->Int) (L:Nat->Nat) (T:Nat->Nat->Int) (i j:Nat),ds=[xm n ps,wD ps w,iV n L T,.int i,.int j]/\kT n ps/\i<j/\j<=n/\(∀a,i<a->a<=n->n+1-a<=L a)/\R (.int (lQ ps w T i j))
def qm.mono:c0 qm:=λds R R' k h=>by obtain⟨n,ps,w,L,T,i,j,e,h1,h2,h3,h4,q⟩:=h;exact{n,ps,w,L,T,i,j,e,h1,h2,h3,h4,k _ q}
abbrev ff (n:Nat)(T:Nat->Nat->Int):D:=iV n (λi=>n+1-i) T
def qp:FD:=λds R=>∃(n:Nat) (ps:List (Nat×Nat)) (w:Nat×Nat->Int),ds=[eG n ps,wD ps w]/\kT n ps/\R (ff n (tW ps w))
def qp.mono:c0 qp:=λds R R' k h=>by obtain⟨n,ps,w,e,h1,q⟩:=h;exact{n,ps,w,e,h1,k _ q}
def w1:Nat×Nat->Int:=λ_=>1
def qk:FD:=λds R=>∃(n:Nat) (ps:List (Nat×Nat)),ds=[eG n ps]/\kT n ps/\R (wD ps w1)
def qk.mono:c0 qk:=λds R R' k h=>by obtain⟨n,ps,e,h1,q⟩:=h;exact{n,ps,e,h1,k _ q}
def iw:FD:=λds R=>∃(n:Nat) (ps:List (Nat×Nat)),ds=[eG n ps]/\kT n ps/\R (ff n (tW ps w1))
def iw.mono:c0 iw:=λds R R' k h=>by obtain⟨n,ps,e,h1,q⟩:=h;exact{n,ps,e,h1,k _ q}
def dv {n:Nat}(h:n<=1000):n<=aak:=aaH h (by decide)
def rW {n:Nat}(h:n<=1000):n<aak:=abY h (by decide)
def Mn {n i:Nat}{x:Int}(hx:x=(i:Int))(h:i<n):Gp n x=ν i:=by
 subst hx;unfold Gp;rw[χ (by lia),χ (by lia)]
 simp
def zc {α:Type}{n i:Nat}{f:Nat->α}{y:α}(h:i<n):((Z_ n).map f).set i y=(Z_ n).map λk=>if k=i then y else f k:=by
 refine ab_ λk=>?_;rw[acN]
 by_cases hk:k<n
 ·rw[fu hk,fu hk,ZU,aaD]
  by_cases e:i=k
  ·rw[χ e,χ (e▸hk),χ e.symm]
  ·rw[ω e,ω (acB e)]
 ·rw[abq (l:=(Z_ n).map f) (by simpa using hk),abq (l:=(Z_ n).map λk=>if k=i then y else f k) (by simpa using hk),ω (by lia)]
def K6 {n i k:Nat}{ps:List (Nat×Nat)}(h:i<n):((Z_ n).map λj=>D.lst (cB (jh ps j))).set i (.lst (cB (jh ps i)++[D.int k]))=(Z_ n).map λj=>D.lst (cB (jh (ps++[(i,k)]) j)):=by
 rw[zc h];refine aaN λj _=>?_;unfold jh cB;rw[abu,aaj,aaj]
 by_cases e:j=i
 ·rw[χ e,e];simp
 ·rw[ω e,aaS,ω (by simpa using acB e)];simp
def lF {ps:List (Nat×Nat)}{i:Nat}:(jh ps i).length<=ps.length:=by
 unfold jh;rw[ZU];exact abp _ _
def eZ (n a b:Nat)(i:Nat):Nat:=if n-1-a<i then n+1-i else if i=n-1-a then b+1 else 1
def zb {n a b:Nat}{T:Nat->Nat->Int}(ha:a<n)(hb:b<=a):
  ((Z_ (n+1)).map λi=>D.lst (tP (eZ n a b i) λl=>T l i)).set (n-1-a) (.lst (tP (b+1) (λl=>T l (n-1-a))++[D.int (T (b+1) (n-1-a))]))=(Z_ (n+1)).map λi=>D.lst (tP (eZ n a (b+1) i) λl=>T l i):=by
 rw[zc (by lia)]
 refine aaN λi _=>?_;unfold eZ
 by_cases e:i=n-1-a
 ·rw[χ e,e,ω (by lia),χ rfl]
  unfold tP;rw[acC (n:=b+1),aaj];rfl
 ·rw[ω e,ω e,ω e]
def Bt {n a:Nat}(h:a+1<n)(i:Nat)(hi:i<=n):eZ n a (a+1) i=eZ n (a+1) 0 i:=by
 unfold eZ
 by_cases h1:n-1-a<i
 ·rw[χ h1,χ (by omega)]
 ·rw[ω h1]
  by_cases h2:i=n-1-a
  ·rw[χ h2,χ (by omega)];omega
  ·rw[ω h2,ω (by omega)]
   split <;> rfl
def EE {n a:Nat}(h:n=a+1)(i:Nat)(hi:i<=n):eZ n a (a+1) i=n+1-i:=by
 unfold eZ
 split
 ·rfl
 ·split <;> lia
def yf {n:Nat}(h:0<n)(i:Nat)(hi:i<=n):eZ n 0 0 i=1:=by
 unfold eZ
 split
 ·lia
 ·split <;> rfl
def jB {n:Nat}{L L':Nat->Nat}{T:Nat->Nat->Int}(h:∀i,i<=n->L i=L' i):iV n L T=iV n L' T:=by
 unfold iV
 congr 1
 refine aaN λi hi=>?_;rw[h i (by have:=aax.mp hi;lia)]
def xj (n idx:Nat)(L:Nat->Nat):Prop:=(n=0/\L 0=1)\/∃a b,a<n/\b<=a+1/\(∀i,i<=n->L i=eZ n a b i)/\(tR n).drop idx=gi n a b
def nO {n:Nat}:xj n 0 λ_=>1:=by
 rcases Nat.eq_zero_or_pos n with h|h
 ·exact .inl {(h),rfl}
 ·exact .inr {0,0,h,aab _,λi hi=>(yf h i hi).symm,AO h}
def s9 {n:Nat}{L:Nat->Nat}(h:xj n (tR n).length L):∀i,i<=n->L i=n+1-i:=by
 rcases h with⟨rfl,h⟩|⟨a,b,h1,h2,h3,h4⟩
 ·intro i hi;rw[show i=0 by lia,h]
 ·intro i hi;rw[List.drop_length]at h4;have hb:b=a+1:=by
   rcases aa5 a b with q|q
   ·lia
   ·rw[kn q]at h4;cases h4
  have ha:n=a+1:=by
   rcases aa5 (a+1) n with q|q
   ·rw[hb,r_ q,kn (aab _)]at h4;cases h4
   ·lia
  rw[h3 i hi,hb];exact EE ha i hi
def qz {n idx:Nat}{L:Nat->Nat}{p:Nat×Nat}(h:xj n idx L)(hp:(tR n)[idx]?=ν p):∃a b,a<n/\b<=a/\p=(n-1-a,n-a+b)/\(∀i,i<=n->L i=eZ n a b i)/\(tR n).drop (idx+1)=gi n a (b+1):=by
 have hd:(tR n).drop idx=p::(tR n).drop (idx+1):=by
  obtain⟨h1,h2⟩:=aaf.mp hp;rw[aaZ h1,h2]
 rcases h with⟨rfl,h⟩|⟨a,b,h1,h2,h3,h4⟩
 ·cases hp
 ·have key:∃a b,a<n/\b<=a/\(∀i,i<=n->L i=eZ n a b i)/\(tR n).drop idx=gi n a b:=by
   rcases aa5 a b with q|q
   ·have e:b=a+1:=by lia
    rcases aa5 (a+1) n with q2|q2
    ·exact{a+1,0,q2,aab _,λi hi=>by rw[h3 i hi,e,Bt q2 i hi],by rw[h4,e,r_ q2]}
    ·rw[h4,e,xO q2]at hd;cases hd
   ·exact{(a),b,h1,q,h3,h4}
  obtain⟨a,b,h1,h2,h3,h4⟩:=key;rw[h4,kn h2]at hd;injection hd with e1 e2
  exact{(a),b,h1,h2,e1.symm,h3,e2.symm}
def vd {n a:Nat}:(gc n a).length=a+1:=by unfold gc;simp
def A6 {n a b:Nat}(h:b<a+1):(gc n a).take (b+1)=(gc n a).take b++[(n-1-a,n-a+b)]:=by
 rw[aba];unfold gc;rw[fu h];rfl
def Di {n a:Nat}:(gc n a).take (a+1)=gc n a:=aa8 (by rw[vd];exact ZX _)
theorem wg {n:Nat}:∀a:Nat,a<=n->(((Z_ n).take a).flatMap (gc n)).length<=a*a
 |0,_=>by simp
 |a+1,h=>by
  have:=wg (n:=n) a (by lia)
  rw[aba,abI (show a<n by lia),ac4,aag]
  have e:((ν a).toList.flatMap (gc n)).length=a+1:=by simp[vd]
  rw[e,Nat.mul_add,Nat.add_mul];lia
def CU {n a b:Nat}(hn:n<=80)(ha:a<n)(hb:b<a+1):(((Z_ n).take a).flatMap (gc n)).length+((gc n a).take b).length<aak:=by
 have h1:=wg (n:=n) a (by lia)
 have h2:((gc n a).take b).length<=b:=by rw[aaw];exact ac2 _ _
 have h3:a*a<=80*80:=Nat.mul_le_mul (by lia) (by lia)
 have h4:80*80+80<aak:=by decide
 lia
def Bo {l:List Int}{x:Int}:(rl (l++[x])).getD 0∈l++[x]/\∀y∈l++[x],y<=(rl (l++[x])).getD 0:=by
 cases l with
 |nil=>exact cK [] x
 |cons a l=>exact cK (l++[x]) a
def sH {ps:List (Nat×Nat)}{w:Nat×Nat->Int}{T:Nat->Nat->Int}{i j:Nat}:
  (lQ ps w T i j=T (j-i-1) (i+1)\/∃k,(i,k)∈ps/\k<j/\lQ ps w T i j=w (i,k)+T (k-i-1) (i+1)+T (j-k-1) (k+1)) /\
  T (j-i-1) (i+1)<=lQ ps w T i j/\∀k,(i,k)∈ps->k<j->w (i,k)+T (k-i-1) (i+1)+T (j-k-1) (k+1)<=lQ ps w T i j:=by
 obtain⟨h1,h2⟩:=Bo (l:=((jh ps i).filter λk=>decide (k<j)).map λk=>w (i,k)+T (k-i-1) (i+1)+T (j-k-1) (k+1)) (x:=T (j-i-1) (i+1));refine{?_,h2 _ (by simp),λk hk hj=>h2 _ (aaP _ (Z2.mpr {k,aae.mpr {bI.mpr hk,Γ hj},rfl}))}
 rcases Z9.mp h1 with h|h
 ·obtain⟨k,hk,e⟩:=Z2.mp h;obtain⟨q1,q2⟩:=aae.mp hk;exact .inr {k,bI.mp q1,of_decide_eq_true q2,e.symm}
 ·exact .inl (ZY.mp h)
theorem u5 {α:Type}{f:α->Nat}:∀{l:List α},(l.map λa=>((f a:Nat):Int)).sum=((l.map f).sum:Nat)
 |[]=>rfl
 |a::l=>by rw[aap,acv,aap,acv,u5];lia
def Ak:Nat->Nat
 |0=>1
 |n+1=>(n+1)*Ak n
theorem Aj (a:Nat):∀b,Ak a*Ak b<=Ak (a+b)
 |0=>by show Ak a*1<=Ak a;lia
 |b+1=>by
  show Ak a*((b+1)*Ak b)<=(a+b+1)*Ak (a+b);rw[Nat.mul_left_comm];exact Nat.mul_le_mul (by lia) (Aj a b)
def wy {a b:Nat}(h:a<=b):Ak a<=Ak b:=by
 induction b with
 |zero=>rw[show a=0 by lia];exact ZX _
 |succ b ih =>
  rcases aa5 b a with q|q
  ·rw[show a=b+1 by lia];exact ZX _
  ·exact aaH (ih q) (Nat.le_mul_of_pos_left _ (by lia))
def yK {a b:Int}(h:qQ a b):M5 (.int a) (.int b)=ν (.int (a*b)):=by
 show (if qQ a b then _ else _)=_
 rw[χ h]
def sum_ints {α:Type}{f:α->Int}{l:List α}:jU (λns=>ν ns.sum) [.lst (l.map λk=>D.int (f k))]=ν (.int (l.map f).sum):=by
 have e:(l.map λk=>D.int (f k))=(l.map f).map D.int:=by simp
 rw[e];exact qA rfl
def o8 (n:Nat)(ps:List (Nat×Nat)):(eG n ps).pd.canLay0=ζ/\(eG n ps).pd.depth<=4:=by
 have:=AU (n:Int) (ps.map tI);unfold La at this;rw[aaK]at this;exact this
def oD:Option Nat->D
 |none=>.cN
 |some k=>.int (k:Int)
def parts (i:Nat)(k:Option Nat)(j:Nat):List (Nat×Nat):=match k with
 |none=>[(i+1,j)]
 |some k=>[(i+1,k),(k+1,j)]
def bG (ps:List (Nat×Nat))(w:Nat×Nat->Int)(T:Nat->Nat->Int)(i j:Nat):List (Option Nat) :=
 ((jh ps i).filter λk=>decide (k<j)&&decide (w (i,k)+T (k-i-1) (i+1)+T (j-k-1) (k+1)=T (j-i) i)).map ν++(if T (j-i-1) (i+1)=T (j-i) i then [ξ] else [])
def XR (ps:List (Nat×Nat))(w:Nat×Nat->Int)(T:Nat->Nat->Int)(i j:Nat):Option Nat->Prop
 |none=>T (j-i-1) (i+1)=T (j-i) i
 |some k=>(i,k)∈ps/\k<j/\w (i,k)+T (k-i-1) (i+1)+T (j-k-1) (k+1)=T (j-i) i
def bF {ps:List (Nat×Nat)}{w:Nat×Nat->Int}{T:Nat->Nat->Int}{i j:Nat}{c:Option Nat}(h:c∈bG ps w T i j):XR ps w T i j c:=by
 unfold bG at h;rcases Z9.mp h with h|h
 ·obtain⟨k,hk,rfl⟩:=Z2.mp h;obtain⟨h1,h2⟩:=aae.mp hk;rw[aaQ,decide_eq_true_eq,decide_eq_true_eq]at h2;exact{bI.mp h1,h2.1,h2.2}
 ·split at h
  ·next e=>rw[ZY.mp h];exact e
  ·cases h
def wY {ps:List (Nat×Nat)}{w:Nat×Nat->Int}(hp:∀p∈ps,p.1<p.2){i j:Nat}(h:i<j):bG ps w (tW ps w) i j≠[]:=by
 have e:tW ps w (j-i) i=lQ ps w (tW ps w) i j:=by rw[show j-i=(j-i-1)+1 by lia,om hp,show i+(j-i-1)+1=j by lia]
 obtain⟨h1,_,_⟩:=sH (ps:=ps) (w:=w) (T:=tW ps w) (i:=i) (j:=j);rw[<- e]at h1;unfold bG;intro z;obtain⟨z1,z2⟩:=List.append_eq_nil_iff.mp z;rcases h1 with q|⟨k,hk,hj,q⟩
 ·rw[χ q.symm]at z2;cases z2
 ·have:k∈(jh ps i).filter λk=>decide (k<j)&&decide (w (i,k)+tW ps w (k-i-1) (i+1)+tW ps w (j-k-1) (k+1)=tW ps w (j-i) i):=aae.mpr {bI.mpr hk,by rw[aaQ,decide_eq_true_eq,decide_eq_true_eq];exact{(hj),q.symm}}
  rw[List.map_eq_nil_iff.mp z1]at this;cases this
def cL (ps:List (Nat×Nat))(w:Nat×Nat->Int)(i j:Nat):Option Nat:=(bG ps w (tW ps w) i j).headD ξ
def dq {ps:List (Nat×Nat)}{w:Nat×Nat->Int}(hp:∀p∈ps,p.1<p.2){i j:Nat}(h:i<j):cL ps w i j∈bG ps w (tW ps w) i j:=by
 have:=wY (w:=w) hp h;unfold cL;cases q:bG ps w (tW ps w) i j with
 |nil=>exact Η q this
 |cons a l=>simp
noncomputable def rE (ps:List (Nat×Nat))(w:Nat×Nat->Int):Nat->Nat->Nat->List (Nat×Nat)
 |0,_,_=>[]
 |n+1,i,j=>if i<j then match cL ps w i j with
   |none=>rE ps w n (i+1) j
   |some k=>(i,k)::(rE ps w n (i+1) k++rE ps w n (k+1) j)
  else []
theorem fE {ps:List (Nat×Nat)}{w:Nat×Nat->Int}(hp:∀p∈ps,p.1<p.2):∀{n m i j:Nat},j-i<=n->j-i<=m->rE ps w n i j=rE ps w m i j
 |0,0,_,_,_,_=>rfl
 |0,m+1,i,j,h,_=>by unfold rE;rw[ω (by omega)]
 |n+1,0,i,j,_,h=>by unfold rE;rw[ω (by omega)]
 |n+1,m+1,i,j,h1,h2=>by
  unfold rE
  by_cases h:i<j
  ·rw[χ h,χ h];have hm:=bF (dq (w:=w) hp h);cases q:cL ps w i j with
   |none=>exact fE hp (by omega) (by omega)
   |some k =>
    rw[q]at hm;have:=hp _ hm.1;dsimp only at this;have h3:=hm.2.1;dsimp only;rw[fE hp (n:=n) (m:=m) (i:=i+1) (j:=k) (by omega) (by omega),fE hp (n:=n) (m:=m) (i:=k+1) (j:=j) (by omega) (by omega)]
  ·rw[ω h,ω h]
def bw (ps:List (Nat×Nat))(w:Nat×Nat->Int)(i j:Nat):List (Nat×Nat):=rE ps w (j-i) i j
def dN {ps:List (Nat×Nat)}{w:Nat×Nat->Int}{i j:Nat}(h:¬ i<j):bw ps w i j=[]:=by
 unfold bw;rw[show j-i=0 by lia]
 rfl
theorem gW {ps:List (Nat×Nat)}{w:Nat×Nat->Int}(hp:∀p∈ps,p.1<p.2){i j:Nat}(h:i<j):bw ps w i j=match cL ps w i j with
  |none=>bw ps w (i+1) j
  |some k=>(i,k)::(bw ps w (i+1) k++bw ps w (k+1) j):=by
 unfold bw;rw[show j-i=(j-i-1)+1 by lia]
 conv=>lhs;unfold rE
 rw[χ h];have hm:=bF (dq (w:=w) hp h);cases q:cL ps w i j with
 |none=>exact fE hp (by lia) (by lia)
 |some k =>
  rw[q]at hm;have:=hp _ hm.1;dsimp only at this;have h3:=hm.2.1;dsimp only;rw[fE hp (n:=j-i-1) (m:=k-(i+1)) (i:=i+1) (j:=k) (by lia) (by lia),fE hp (n:=j-i-1) (m:=j-(k+1)) (i:=k+1) (j:=j) (by lia) (by lia)]
def vZ (i:Nat):Option Nat->List (Nat×Nat)
 |none=>[]
 |some k=>[(i,k)]
def yz {ps:List (Nat×Nat)}{w:Nat×Nat->Int}(hp:∀p∈ps,p.1<p.2){i j:Nat}(h:i<j):bw ps w i j=vZ i (cL ps w i j)++(parts i (cL ps w i j) j).flatMap λp=>bw ps w p.1 p.2:=by
 rw[gW hp h];cases cL ps w i j with
 |none=>simp[parts,vZ]
 |some k=>simp[parts,vZ]
def Fh {ps:List (Nat×Nat)}{w:Nat×Nat->Int}(hp:∀p∈ps,p.1<p.2):∀l i j,j-i<=l->2*(bw ps w i j).length<=j-i:=by
 intro l
 induction l with
 |zero=>intro i j h;rw[dN (by lia)];exact aab _
 |succ l ih =>
  intro i j h
  by_cases aL:i<j
  ·rw[gW hp aL];have hm:=bF (dq (w:=w) hp aL);cases q:cL ps w i j with
   |none=>have:=ih (i+1) j (by lia);dsimp only;lia
   |some k =>
    rw[q]at hm;have h1:=hp _ hm.1;dsimp only at h1;have h3:=hm.2.1;have a1:=ih (i+1) k (by lia)
    have a2:=ih (k+1) j (by lia)
    dsimp only;rw[aaa,aag];lia
  ·rw[dN aL];exact aab _
def iy:FD:=λds R=>∃(i:Nat) (k:Option Nat) (j:Nat),ds=[.int i,oD k,.int j]/\R (.lst ((parts i k j).map zq))
def iy.mono:c0 iy:=λds R R' k h=>by obtain⟨i,c,j,e,q⟩:=h;exact{i,c,j,e,k _ q}
def l5:FD:=λds R=>∃(n:Nat) (ps:List (Nat×Nat)) (w:Nat×Nat->Int) (T:Nat->Nat->Int) (i j:Nat),ds=[xm n ps,wD ps w,ff n T,.int i,.int j]/\kT n ps/\i<j/\j<=n/\R (.lst ((bG ps w T i j).map oD))
def l5.mono:c0 l5:=λds R R' k h=>by obtain⟨n,ps,w,T,i,j,e,h1,h2,h3,q⟩:=h;exact{n,ps,w,T,i,j,e,h1,h2,h3,k _ q}
def wB:FD:=λds R=>∃(n:Nat) (ps:List (Nat×Nat)) (w:Nat×Nat->Int) (i j:Nat),ds=[eG n ps,wD ps w,ff n (tW ps w),.int i,.int j]/\kT n ps/\i<=j/\j<=n/\R (dt (bw ps w i j))
def wB.mono:c0 wB:=λds R R' k h=>by obtain⟨n,ps,w,i,j,e,h1,h2,h3,q⟩:=h;exact{n,ps,w,i,j,e,h1,h2,h3,k _ q}
def fT (ps:List (Nat×Nat))(i j:Nat):D:=.tup [.int (tW ps w1 (j-i) i),dt (bw ps w1 i j)]
def di:FD:=λds R=>∃(n:Nat) (ps:List (Nat×Nat)) (i j:Nat),ds=[eG n ps,.int i,.int j]/\kT n ps/\i<=j/\j<=n/\R (fT ps i j)
def di.mono:c0 di:=λds R R' k h=>by obtain⟨n,ps,i,j,e,h1,h2,h3,q⟩:=h;exact{n,ps,i,j,e,h1,h2,h3,k _ q}
def dP:FD:=λds R=>∃(n:Nat) (ps:List (Nat×Nat)),ds=[eG n ps]/\kT n ps/\R (fT ps 0 n)
def dP.mono:c0 dP:=λds R R' k h=>by obtain⟨n,ps,e,h1,q⟩:=h;exact{n,ps,e,h1,k _ q}
def yT (ws:List (Nat×Nat)):Nat:=(ws.map λp=>2*(p.2-p.1)+1).sum
def tJ {a b:List (Nat×Nat)}:yT (a++b)=yT a+yT b:=by unfold yT;rw[aaj,List.sum_append]
def GP {a:List (Nat×Nat)}:yT a.reverse=yT a:=by
 unfold yT;rw[List.map_reverse];exact(List.reverse_perm _).sum_nat
abbrev kA (l:List Nat):List D:=l.map λp:Nat=>D.int (p:Int)
section
variable {ps:List (Nat×Nat)}
def mX (ps:List (Nat×Nat))(i j:Nat):Int:=tW ps w1 (j-i) i
def oJ {i j:Nat}(h:j<=i):mX ps i j=0:=by unfold mX;rw[show j-i=0 by lia];rfl
def zP {l:List Int}{m:Int}(h:rl l=ν m):m∈l/\∀x∈l,x<=m:=by
 cases l with
 |nil=>cases h
 |cons a l=>cases h;exact cK l a
def zR (hp:∀p∈ps,p.1<p.2){i j:Nat}(h:i<j):rl ((((jh ps i).filter λk=>decide (k<j)).map λk=>1+mX ps (i+1) k+mX ps (k+1) j)++[mX ps (i+1) j])=ν (mX ps i j):=by
 have e:mX ps i j=lQ ps w1 (tW ps w1) i j:=by
  unfold mX;rw[show j-i=(j-i-1)+1 by lia,om hp,show i+(j-i-1)+1=j by lia]
 rw[e];unfold lQ;rw[<- sG];have e2:(((jh ps i).filter λk=>decide (k<j)).map λk=>1+mX ps (i+1) k+mX ps (k+1) j)=((jh ps i).filter λk=>decide (k<j)).map λk=>w1 (i,k)+tW ps w1 (k-i-1) (i+1)+tW ps w1 (j-k-1) (k+1):=by
  refine aaN λk _=>?_;unfold mX;rw[show k-(i+1)=k-i-1 by lia,show j-(k+1)=j-k-1 by lia]
  rfl
 rw[e2];unfold mX;rw[show j-(i+1)=j-i-1 by lia]
def oI (hp:∀p∈ps,p.1<p.2){i j:Nat}(h:i<j):mX ps (i+1) j<=mX ps i j:=(zP (zR hp h)).2 _ (by simp)
def ui (hp:∀p∈ps,p.1<p.2){i j k:Nat}(h:(i,k)∈ps)(hk:k<j):1+mX ps (i+1) k+mX ps (k+1) j<=mX ps i j:=by
 have Io:=hp _ h;dsimp only at Io;refine(zP (zR hp (show i<j by lia))).2 _ (aaP _ (Z2.mpr {k,aae.mpr {bI.mpr h,Γ hk},rfl}))
theorem Jp (hp:∀p∈ps,p.1<p.2):∀len i,0<=tW ps w1 len i
 |0,_=>Int.le_refl 0
 |l+1,i=>by
  rw[om hp];have h:=(sH (ps:=ps) (w:=w1) (T:=tW ps w1) (i:=i) (j:=i+l+1)).2.1;rw[show i+l+1-i-1=l by lia]at h
  exact Int.le_trans (Jp hp l (i+1)) h
def zQ (hp:∀p∈ps,p.1<p.2){i j:Nat}:0<=mX ps i j:=Jp hp (j-i) i
end
end L2.Q
namespace SI
open PySem PyProof.Rows ST
section
variable {w:aam}
abbrev wH (x:Int×Tok):Int×ZW:=(abc x.1,.int x.1 x.2)
abbrev Gf (w:aam):=gE w wH (λx=>abc x.1) (λx=>x.1)
end
section
variable {prog:Z6}{w:aam}{A:aaX}{E:ZW->ZZ->Prop}{s:ZZ}
variable {a:θ}{o:Obj}{ts:List (Int×Tok)}{es:Array (Int×ZW)}{ep:Nat}{t:SetTable}{k:Int}
def IA {hs:List Int}(W:WF t hs)(h:Int){N:Nat}(h1:N<10*SetTable.turns t.mask)(h2:¬ rP t (cq t.mask h N))(h3:∀x,x<N->rP t (cq t.mask h x)):t.freeSlot h=ν (cq t.mask h N,η):=by
 have e:t.probe (λ_=>h+1) h (t.probeStart h)=ν (.empty (cq t.mask h N) ξ):=by
  rcases pG W (λ_=>h+1) h h2 h3 N 0 (10*SetTable.turns t.mask) (abj N) h1 with⟨q,_⟩|⟨m,i,_,_,_,_,q,_⟩
  ·exact q
  ·lia
 unfold SetTable.freeSlot;rw[e];rfl
def elems (S:Gf w o ts es ep t):ElemsOf (acA prog w) es.toList:=λe he=>by
 rw[S.FH]at he;obtain⟨x,_,rfl⟩:=Z2.mp he;exact{{x.1,by show abS x.1 (.int x.1 x.2)=ζ;simp[abS],rfl},rfl}
def Dk {t1:SetTable}{Gy:Array (Int×ZW)}{KI:List (Int×Tok)}(he:Gy.toList=KI.map wH)(Yv:0<KI.length)(hn:KI.length<=1000):
  ∃(KH:List (Int×Tok)) (J2:Array (Int×ZW)) (t2:SetTable),relayAll t1 Gy (SetTable.grown Gy.size)=(J2,t2,η)/\KH.Perm KI/\J2.toList=KH.map wH/\WF t2 (KH.map λx=>abc x.1)/\t2.place.size*5<t2.mask*3/\t2.mask<=8191/\t2.led=t1.led/\t2.plain=t1.plain:=by
 have hz:Gy.size=KI.length:=by rw[<- Z5,he,ZU]
 have hg:SetTable.grown Gy.size=KI.length*4:=by rw[hz];unfold SetTable.grown;rw[ω (by lia)]
 obtain⟨j,order,t',bB,ja,jc,er,e6,iP,nL,hW,Py,UQ,e3,e4,e8⟩:=sd (t:=t1) (hk:=λx=>abc x.1) (λ_=>rfl) (0,0) (m:=KI.length*4) he (by lia) (by lia)
 refine{bB,order.filterMap (Gy[·]?),t',?_,nL,iP,hW,Py.1,UQ,e3,e4};have hsz:(order.filterMap (Gy[·]?)).size=Gy.size:=by
  rw[<- Z5,iP,ZU,nL.length_eq,hz]
 unfold relayAll;rw[hg,er];dsimp only;have c1:coversAll order Gy.size=ζ:=by
  unfold coversAll;rw[hz];exact List.isPerm_iff.mpr e6
 have c2:t'.fits (order.filterMap (Gy[·]?)).size=ζ:=by
  unfold SetTable.fits SetTable.fill;rw[hW.J5,hsz,e8,hz];simp;lia
 rw[c1,c2];rfl
def GL (ho:s.heap.get? a=ν o)(S:Gf w o ts es ep t)(hn:ts.length<60){tk:Tok}{Q:Bool->ZZ->Prop}
  (q:Jn w wH (λx=>abc x.1) (λx=>x.1) a s ts (k,tk) Q):/-Zp-/
  aau (Ψ prog w) A (setAddHashed a (.int k tk) (abc k)) Q E s:=by
 have hz:=S.size;have hb:es.size<scanBound:=by rw[hz.1];exact aaG hn (by decide)
 have iP:ElemsOf (acA prog w) es.toList:=elems S;have E_:(acA prog w).is k (.int k tk)=ζ:=by show abS k (.int k tk)=ζ;simp[abS]
 unfold setAddHashed setAddHashedIn;refine aa2 (ZV (abn ho S.dat S.fits ?_));dsimp only;rw[byScan_of (x:=.int k tk) rfl hb iP];simp only[↓reduceIte];unfold setAddByScan;refine ZV ?_;refine ZV (acb ?_);refine ZV (wpAny_setScan_of (knd:=acA prog w) E_ ho S.dat S.fits iP ?_);have nU:∀e∈es.toList,(acA prog w).is k e.2=ζ->∃x∈ts,x.1=k:=λe he hp=>by
  rw[S.FH]at he;obtain⟨x,hx,rfl⟩:=Z2.mp he;obtain⟨t',e'⟩:=adq (show abS k (.int x.1 x.2)=ζ from hp)
  injection e' with e1
  exact{(x),hx,e1}
 cases hr:List.findIdx? (λe=>(acA prog w).is k e.2) es.toList with
 |some j =>
  dsimp only;obtain⟨hj,Yp,_⟩:=List.findIdx?_eq_some_iff_getElem.mp hr;have nV:=nU _ (abO hj) Yp;exact Z0 (Z0 (q s.heap o ts es ep t η _ (ZX _) (Heap.SameBut.refl _ _) ho S (λ_=>rfl) λg=>Η nV λrm=>by obtain⟨x,hx,e⟩:=rm;exact g x hx e))
 |none =>
  dsimp only;have g1:∀x∈ts,x.1≠k:=λx hx e=>by
   have:=List.findIdx?_eq_none_iff.mp hr (wH x) (by rw[S.FH];exact abz hx)
   have h2:(acA prog w).is k (wH x).2=ζ:=by show abS k (.int x.1 x.2)=ζ;rw[e];simp[abS]
   rw[h2]at this;cases this
  obtain⟨N,n1,n2,n3⟩:=S.wf.first (abc k)
  have z8:=IA S.wf (abc k) n1 n2 n3;have Yn:t.place.size+1<=t.mask:=by
   have:=S.Rz;obtain⟨j,hj,e⟩:=S.wf.Gn;have:2 ^ 3<=2 ^ j:=abT (by decide) hj
   lia
  obtain⟨W,hp⟩:=S.wf.put (k9 _ _ _) n2 n3 Yn;have pe:(t.put (cq t.mask (abc k) N)).1.plain=t.plain/\(t.put (cq t.mask (abc k) N)).1.led=t.led/\(t.put (cq t.mask (abc k) N)).1.mask=t.mask:={(rfl),rfl,rfl};have pf:(t.put (cq t.mask (abc k) N)).1.dummies=#[]:=W.J5;have hL:layNew t es (abc k) (.int k tk)=(SetTable.insertAt es (t.put (cq t.mask (abc k) N)).2 (abc k,.int k tk),(t.put (cq t.mask (abc k) N)).1.orStandIn (SetTable.insertAt es (t.put (cq t.mask (abc k) N)).2 (abc k,.int k tk)).size,η,!(t.put (cq t.mask (abc k) N)).1.fits (SetTable.insertAt es (t.put (cq t.mask (abc k) N)).2 (abc k,.int k tk)).size):=by
   unfold layNew;rw[z8]
  rw[hL];generalize (t.put (cq t.mask (abc k) N)).1=t1 at *
  generalize (t.put (cq t.mask (abc k) N)).2=p at *
  obtain⟨LC,OG,RA⟩:=pe;have yF:(SetTable.insertAt es p (abc k,Value.int k tk)).toList=(ts.take p++(k,tk)::ts.drop p).map wH:=by
   rw[lU,S.FH,aaj,aap,ab7,acW]
  have W1:WF t1 ((ts.take p++(k,tk)::ts.drop p).map λx=>abc x.1):=by
   rw[aaj,aap,ab7,acW];exact W
  have pm:(ts.take p++(k,tk)::ts.drop p).Perm ((k,tk)::ts):=vn ts p (k,tk);have gA:(ts.take p++(k,tk)::ts.drop p).length=ts.length+1:=pm.length_eq;have Cf:((ts.take p++(k,tk)::ts.drop p).map (·.1)).Nodup:=by
   refine((pm.map (·.1)).nodup_iff).mpr ?_;rw[aap,aaA];exact⟨λhm=>by
    obtain⟨x,hx,e⟩:=Z2.mp hm;exact g1 x hx e,S.LZ⟩
  have CS:(SetTable.insertAt es p (abc k,Value.int k tk)).size=ts.length+1:=by rw[<- Z5,yF,ZU,gA]
  have V6:t1.place.size=ts.length+1:=by have:=W1.sz;rw[ZU,gA]at this;exact this
  have WO:t1.fits (SetTable.insertAt es p (abc k,Value.int k tk)).size=ζ:=by
   unfold SetTable.fits SetTable.fill;rw[pf,CS,V6,RA];simp;lia
  have Ih:t1.orStandIn (SetTable.insertAt es p (abc k,Value.int k tk)).size=t1:=by
   unfold SetTable.orStandIn;rw[WO];rfl
  rw[Ih,WO];dsimp only;refine ZV (Z0 ?_);rw[LC,S.Hg,χ rfl];refine ZV ?_;rw[hashByValue_scannable 8 rfl];refine Z0 ?_;rw[χ (by rfl)]
  refine ZV (adl ho S.dat ?_ (by rw[CS,aaT];lia))
  have MJ:=oO ho S.dat (SetTable.insertAt es p (abc k,Value.int k tk)) t1;have Js:abL a s.heap (s.heap.update a (ac9 (SetTable.insertAt es p (abc k,Value.int k tk)) t1)):=acr _ _ _;have fin:∀(h':Heap) (o':Obj) (bB:List (Int×Tok)) (fk:Array (Int×ZW)) (n_:Nat) (t':SetTable),abL a s.heap h'->h'.get? a=ν o'->Gf w o' bB fk n_ t'->bB.Perm (ts.take p++(k,tk)::ts.drop p)->Q ζ {s with heap:=h'} :=
   λh' o' bB fk n_ t' q1 q2 q3 q4=>q h' o' bB fk n_ t' ζ _ (ZX _) q1 q2 q3 (λyr=>by obtain⟨x,hx,e⟩:=yr;exact Η e (g1 x hx)) λ_=>q4.trans pm
  by_cases jq:t1.tooFull=ζ
  ·rw[jq,χ (by rfl)]
   obtain⟨KH,J2,t2,r1,r2,r3,r4,r5,r6,r7,r8⟩:=Dk yF (by lia) (by lia)
   rw[r1];dsimp only;have gF:J2.size=ts.length+1:=by rw[<- Z5,r3,ZU,r2.length_eq,gA]
   refine ZV (Z0 ?_);refine ZV (adl (s:={s with heap:=s.heap.update a (ac9 (SetTable.insertAt es p (abc k,Value.int k tk)) t1)}) MJ rfl (Z0 (Z0 ?_)) (by rw[gF,aaT];lia))
   have NA:=oO MJ rfl J2 t2;exact fin _ _ KH J2 _ t2 (Js.trans (acr _ _ _)) NA {S.ex,rfl,r3,r4,r5,r6,r7.trans (OG.trans S.led),r8.trans (LC.trans S.Hg),((r2.map (·.1)).nodup_iff).mpr Cf} r2
  ·rw[ω (by simpa using jq)]
   refine Z0 (Z0 (fin _ _ _ _ _ _ Js MJ {S.ex,rfl,yF,W1,?_,by rw[RA];exact S.Gn,OG.trans S.led,LC.trans S.Hg,Cf} (.refl _)))
   unfold SetTable.tooFull SetTable.fill at jq;rw[pf]at jq;simp at jq;lia
end
section
variable {prog:Z6}{w:aam}{A:aaX}{E:ZW->ZZ->Prop}{s:ZZ}
theorem En {α:Type}:∀{l m:List α},l.Nodup->(∀x∈l,x∈m)->l.length<=m.length
 |[],_,_,_=>aab _
 |x::l,m,h,s=>by
  obtain⟨a,b,rfl⟩:=List.append_of_mem (s x Z7);have h:=aaA.mp h;have:=En (l:=l) (m:=a++b) h.2 λy hy=>by
   have:=s y (aac _ hy);simp only[Z9,Z1]at this ⊢
   rcases this with z|rfl|z
   ·exact .inl z
   ·exact Η hy h.1
   ·exact .inr z
  simp at this ⊢
  lia
def Vj (ns:List Int):Prop:=∀l:List Int,l.Nodup->(∀x∈l,x∈ns)->l.length<60
def M0 {ns:List Int}(h:ns.length<60):Vj ns:=λl h1 h2=>abY (En h1 h2) h
def BR {l:θ}{its:Array ZW}{vs:List Int}{Q:ZW->ZZ->Prop}(hh:A.handled=ξ)(hl:s.heap.IsList l its)(hI:abA its.toList vs)(hn:Vj vs)
  (q:∀(h':Heap) (tk:Nat) (o':Obj) (ts:List (Int×Tok)) (es:Array (Int×ZW)) (ep:Nat) (t:SetTable),(∀c oc,s.heap.get? c=ν oc->h'.get? c=ν oc)->h'.get? s.heap.objs.size=ν o'->Gf w o' ts es ep t ->
   (∀x∈ts,x.1∈vs)->(∀x∈vs,∃y∈ts,y.1=x)->ts.length<60->Q (.ref s.heap.objs.size) {s with heap:=h',toks:=tk}) :
  aau (Ψ prog w) A (call (.type "set") [.ref l]) Q E s:=by
 have hlen:its.size=vs.length:=by
  have:=hI.length;rw[Z5]at this;exact this
 have sm:∀ts:List (Int×Tok),(ts.map λx=>x.1).Nodup->(∀y∈ts,∃m:Nat,vs[m]?=ν y.1)->ts.length<60:=λts h1 h2=>by
  have:=hn _ h1 λx hx=>by
   obtain⟨y,hy,rfl⟩:=Z2.mp hx;obtain⟨m,hm⟩:=h2 y hy;exact aaF hm
  rwa [ZU]at this
 refine tj (en:=wH) (hk:=λx=>abc x.1) (ky:=λx=>x.1) (X:=λi x=>vs[i]?=ν x.1) hh hl (λi v hv=>?_) (λi x y h1 h2=>aaC (h1.symm.trans h2)) (λB s1 E Q a o ts es ep t x hB kp ho S h1 h2 h3 q=>?_) λh' tk o' ts es ep t k m2 m3 m4 m5 m6=>?_
 ·obtain⟨t,e⟩:=hI.int_at i v (by rw[aan];exact hv)
  have hi:i<vs.length:=by rw[<- hlen];exact(Array.getElem?_eq_some_iff.mp hv).1
  refine{(vs.getD i 0,t),?_,e};rw[aby,Z4 hi];rfl
 ·unfold setAdd;refine aa2 ?_;refine ZV ((acA prog w).pyHash (k:=x.1) (intKind_is _ _ _ _) ?_);exact GL (s:={s1 with toks:=s1.toks+1}) ho S (sm ts S.LZ h1) λh' o' bB fk n_ t' added tk r0=>q h' o' bB fk n_ t' added tk (Nat.le_of_succ_le r0)
 ·refine q h' tk o' ts es ep t k m2 m3 (λx hx=>?_) (λx hx=>?_) (sm ts m3.LZ m4)
  ·obtain⟨m,hm⟩:=m4 x hx;exact aaF hm
  ·obtain⟨m,hm⟩:=acg hx;exact m5 m (x,0) (by have:=(aaf.mp hm).1;lia) hm
end
end SI
namespace L2.Q
open PySem PySem.Spec PySem.SeqAt PyProof.Rows
section
variable {P:Z6}{w:aam}{H:Hp}
theorem pM {H:Hp}:∀ns:List Int,aT P w H (ns.map D.int) (ns.map V.int) []
 |[]=>{(rfl),rfl}
 |n::ns=>{_,_,[],[],rfl,rfl,{(rfl),rfl},pM ns}
end
def u9 (w:aam)(a:θ)(ns:List Int)(h:Heap):Prop:=∃o ts es ep t,h.get? a=ν o/\SI.Gf w o ts es ep t/\(∀x,x∈ts.map (·.1)↔x∈ns)/\ts.length<60
theorem ints_of:∀{ns:List Int} {its:List ZW},Vals (ns.map V.int) its->abA its ns
 |[],_,.nil=>.nil
 |n::ns,_,.cons r t=>by
  obtain⟨tk,rfl⟩:=r;exact .cons _ _ (ints_of t)
theorem kj:∀{ns:List Int} {its:List ZW},abA its ns->Vals (ns.map V.int) its
 |[],_,.nil=>.nil
 |n::ns,_,.cons _ _ t=>.cons {_,rfl} (kj t)
section
variable {X:Cx}
def BP (hc:X.calm=ζ):f_ X (.type "set") (λxs H Q=>∃p ns,xs=[V.ref p]/\fb X.K H p (ns.map V.int)/\SI.Vj ns/\∀a,H a=ξ->Q (.ref a) (upd H a (.ext (u9 X.w a ns)))):=by
 intro μ s σ H xs us Q I r h;obtain⟨p,ns,rfl,hp,hl,q⟩:=h;obtain⟨u,rfl,rx⟩:=vals1 r;cases rx;obtain⟨its,r',pl,hz⟩:=I.list hp;refine SI.BR (w:=X.w) (I.ok.hd hc) pl.isList (by simpa using ints_of r') hl λh' tk o' bB es ep t kp ho S m1 m2 m3=>?_
 have BB:H s.heap.objs.size=ξ:=I.b9.fresh (ZX _);refine{.ref s.heap.objs.size,_,I.laid (t':=tk) (o:=.ext (u9 X.w s.heap.objs.size ns)) kp (ZX _) ?_,rfl,q _ BB};refine{{o',bB,es,ep,t,ho,S,λx=>{λz=>?_,λz=>?_},by lia},{(o'),ho},λh1 h2 z k=>?_}
 ·obtain⟨y,hy,rfl⟩:=Z2.mp z;exact m1 y hy
 ·obtain⟨y,hy,rfl⟩:=m2 x z;exact abz hy
 ·obtain⟨o1,t1,e1,II,Xi,g1,g2⟩:=z;exact{o1,t1,e1,II,Xi,k _ g1,g2}
def rY {x:ZW}{vs:List ZW}{ns:List Int}{s:ZZ}{A:aaX}{E:ZW->ZZ->Prop}{P:Z6}{w:aam}{Q:ZW->ZZ->Prop}(hI:abA vs ns)(hz:vs.length<64)
  (col:∀(R:List ZW->ZZ->Prop),(∀(h':Heap) (tk:Nat),(∀b o,s.heap.get? b=ν o->h'.get? b=ν o)->R vs {s with heap:=h',toks:=tk})->aau (Ψ P w) A.in1 (collect x) R E s)
  (h:∀(out:Array ZW) (jO:List Int) (h1 h':Heap) (tk:Nat) (n:Nat),abA out.toList jO->jO.Perm ns->jO.Pairwise (·<=·)->(∀b o,s.heap.get? b=ν o->h1.get? b=ν o)->(∀b o,h1.get? b=ν o->h'.get? b=ν o)->h'.get? h1.objs.size=ν (abJ "list" out n)->Q (.ref h1.objs.size) {s with heap:=h',toks:=tk}) :
  aau (Ψ P w) A (call (.builtin "sorted") [x]) Q E s:=by
 refine adi kind_sorted plain_sorted entry_sorted (args_sorted1 _) ?_;unfold ab1.«sorted»
 refine ZV (m:=checkCount "sorted" 1 1 _) (Z0 ?_);refine ZV (col _ λh' tk kp=>?_);have nl:vs.length<=aak:=by rw[aaT];lia
 refine ZV (wpAny_newList ?_ nl);have hl:(h'.push (abJ "list" vs.toArray 0)).get? h'.objs.size=ν (abJ "list" vs.toArray 0):=aay _ rfl;refine ZV (aa2 (abv slot_list_sort {_,hl,rfl} entry_list_sort (list_sort_tree (s:={s with heap:=h'.push (abJ "list" vs.toArray 0),toks:=tk}) hl hI hz λout jO a1 a2 a3=>{_,rfl,?_}) (args_list_sort _)))
 obtain⟨n,hn⟩:=sortedHeap_at (out:=out) hl;refine Z0 {_,rfl,h out jO h' _ tk n a1 a2 a3 kp (λb o e=>?_) hn};have hb:=aaq e;rw[sortedHeap_old (aaL hb) (by rw[size_push'];exact acK hb)]
 exact Z3 _ e
theorem vU:∀(us:List (Int×Tok)),abA (us.map λx=>Value.int x.1 x.2) (us.map (·.1))
 |[]=>.nil
 |x::us=>.cons _ _ (vU us)
def rK (hc:X.calm=ζ):f_ X (.builtin "sorted") (λxs H Q=>∃p ns,xs=[V.ref p]/\H p=ν (.ext (u9 X.w p ns))/\∀ms:List Int,ms.Pairwise (· < ·)->(∀x,x∈ms↔x∈ns)->ms.length<=60->∀a,H a=ξ->Q (.ref a) (upd H a (.lst (ms.map V.int)))):=by
 intro μ s σ H xs us Q I r h;obtain⟨p,ns,rfl,hp,q⟩:=h;obtain⟨u,rfl,rx⟩:=vals1 r;cases rx;obtain⟨⟨o,ts,es,ep,t,ho,S,hm,hl⟩,_,_⟩:=(show cn X.prog X.w H s.heap p (.ext (u9 X.w p ns)) from I.b9 p _ hp)
 obtain⟨us,mW,col⟩:=ST.nv (prog:=X.prog) (s:=s) ho S (by lia)
 refine rY (vU us) (by rw[ZU,mW.length_eq];lia) (λR hR=>col _ _ R (by simp[I.ok.hd hc]) λh' tk kp=>hR h' tk kp) λout jO h1 h' tk n a1 a2 a3 k1 k2 hn=>?_
 have nd:jO.Nodup:=(a2.nodup_iff).mpr (((mW.map (·.1)).nodup_iff).mpr S.LZ);have Ih:jO.Pairwise (· < ·):=(List.Pairwise.and a3 nd).imp λ⟨x,y⟩=>by lia
 have I1:Inv X μ σ H {s with heap:=h1,toks:=s.toks}:=I.kept k1
 have BB:H h1.objs.size=ξ:=I1.b9.fresh (ZX _);refine{.ref h1.objs.size,_,I1.laid (t':=tk) (o:=.lst (jO.map V.int)) k2 (ZX _) ?_,rfl,q jO Ih (λx=>?_) ?_ _ BB}
 ·refine{?_,out.toList,n,kj a1,?_}
  ·rw[ZU,a2.length_eq,ZU,mW.length_eq,aaT];lia
  ·simpa using hn
 ·rw[a2.mem_iff,<- hm x];exact(mW.map (·.1)).mem_iff
 ·rw[a2.length_eq,ZU,mW.length_eq];lia
def yN:f_ X (.builtin "sorted") (λxs H Q=>∃p ns,xs=[V.ref p]/\fb X.K H p (ns.map V.int)/\ns.length<60/\∀ms:List Int,ms.Pairwise (·<=·)->ms.Perm ns->∀a,H a=ξ->Q (.ref a) (upd H a (.lst (ms.map V.int)))):=by
 intro μ s σ H xs us Q I r h;obtain⟨p,ns,rfl,hp,hl,q⟩:=h;obtain⟨u,rfl,rx⟩:=vals1 r;cases rx;obtain⟨its,r',pl,hz⟩:=I.list hp;have hI:abA its ns:=ints_of r';have hlen:its.length=ns.length:=by have:=r'.length;rw[ZU]at this;exact this.symm
 refine rY hI (by lia) (λR hR=>collect_list pl.isList (hR _ s.toks λb o e=>?_)) λout jO h1 h' tk n a1 a2 a3 k1 k2 hn=>?_
 ·have hb:=aaq e;rw[Heap.get?_update_ne _ _ _ _ (aaL hb)];exact Z3 _ e
 have I1:Inv X μ σ H {s with heap:=h1,toks:=s.toks}:=I.kept k1
 have BB:H h1.objs.size=ξ:=I1.b9.fresh (ZX _);refine{.ref h1.objs.size,_,I1.laid (t':=tk) (o:=.lst (jO.map V.int)) k2 (ZX _) ?_,rfl,q jO a3 a2 _ BB};refine{?_,out.toList,n,kj a1,by simpa using hn}
 rw[ZU,a2.length_eq,aaT];lia
end
section
variable {X:Cx}{C:Cfg}{e:Expr}{φ:aP}{p:Bool}{pos pos' p1 p2:Pos}
def Lf (φ:aP):aP:=λβ R=>φ β λd _ β1=>∃ns:List Int,d=.lst (ns.map D.int)/\ns.length<60/\∀ms:List Int,ms.Pairwise (·<=·)->ms.Perm ns->R (.lst (ms.map D.int)) .own β1
def vm (he:PQ X C p e φ)(hm:X.mg "sorted" = ξ)(hg:Gl X "sorted" := by rfl)(hs:aao [e] X.env=(η,eval e X.env)::aao [] X.env:=by rfl)(hpl:(abK pos (aao [] X.env)).any (·.1)=η:=by rfl) :
  PQ X C p (.Call (.Name "sorted" p1) [e] [] pos) (Lf φ) :=
 ⟨λβ R R' k h=>he.mono β _ _ (λd kd β1 yr=>by obtain⟨ns,h1,h2,q⟩:=yr;exact{ns,h1,h2,λms a b=>k _ _ _ (q ms a b)}) h,
  (lH yN hg hm g6 (bM he.pe d6 hs) (by decide) (by decide) (he:=hs) (hpl:=hpl)).pre λσ H Q ⟨β,own,s,h⟩=>tQ.of he s h λd k β1 v H1 aH Ik o1 r1=>by
  obtain⟨ns,e1,hl,q⟩:=Ik;subst e1;obtain⟨b,us,rfl,Gu,_,rb⟩:=r1.rep;cases _root_.L2.bj rb;refine{b,ns,rfl,fb.of Gu,hl,λms a1 a2 l qf=>q ms a1 a2 _ _ aH (o1.same (aB.new qf)) {[l],{l,_,[],rfl,ar,rfl,pM ms},by simp,λc hc=>?_}}
  rw[ZY.mp hc];exact{aaz λz=>o1.sn.d l z qf,λz=>o1.sq.yH l z qf,aaz λz=>o1.sq.ju l z qf}⟩
def Lc (φ:aP):aP:=λβ R=>φ β λd _ β1=>∃ns:List Int,d=.lst (ns.map D.int)/\ns.length<60/\∀ms:List Int,ms.Pairwise (· < ·)->(∀x,x∈ms↔x∈ns)->ms.length<=60->R (.lst (ms.map D.int)) .own β1
def DC (hc:X.calm=ζ)(he:PQ X C p e φ)(hm:X.mg "sorted" = ξ)(MO:X.mg "set" = ξ)(hg:Gl X "sorted" := by rfl)(YF:Gl X "set" := by rfl)(hs:aao [e] X.env=(η,eval e X.env)::aao [] X.env:=by rfl)(hpl:(abK pos (aao [] X.env)).any (·.1)=η:=by rfl)
  (nK:aao [.Call (.Name "set" p2) [e] [] pos'] X.env=(η,eval (.Call (.Name "set" p2) [e] [] pos') X.env)::aao [] X.env:=by rfl) (UH:(abK pos' (aao [] X.env)).any (·.1)=η:=by rfl) :
  PQ X C p (.Call (.Name "sorted" p1) [.Call (.Name "set" p2) [e] [] pos'] [] pos) (Lc φ) :=
 ⟨λβ R R' k h=>he.mono β _ _ (λd kd β1 EY=>by obtain⟨ns,h1,h2,q⟩:=EY;exact{ns,h1,h2,λms a b c=>k _ _ _ (q ms a b c)}) h,
  (lH (rK hc) hg hm g6 (bM (mG (BP hc) YF MO yP (bM he.pe d6 hs) (by decide) (by decide) (he:=hs) (hpl:=UH)) d6 nK) (by decide) (by decide) (he:=nK) (hpl:=hpl)).pre λσ H Q ⟨β,own,s,h⟩=>tQ.of he s h λd k β1 v H1 aH Pz o1 r1=>by
  obtain⟨ns,e1,hl,q⟩:=Pz;subst e1;obtain⟨b,us,rfl,Gu,_,rb⟩:=r1.rep;cases _root_.L2.bj rb;refine{b,ns,rfl,fb.of Gu,SI.M0 hl,λa ha=>{a,ns,rfl,ar,λms a1 a2 a3 l qf=>?_}};have o2:=o1.same (aB.new (o:=.ext (u9 X.w a ns)) ha);refine q ms a1 a2 a3 _ _ aH (o2.same (aB.new qf)) {[l],{l,_,[],rfl,ar,rfl,pM ms},by simp,λc hc=>?_}
  rw[ZY.mp hc];exact{aaz λz=>o2.sn.d l z qf,λz=>o2.sq.yH l z qf,aaz λz=>o2.sq.ju l z qf}⟩
end
end L2.Q
namespace Jh
open PySem PySem.Spec PyProof.Rows TS
def vL:List (List Int)->List (List Int)->Bool
 |[],y=>decide (0<y.length)
 |_::_,[]=>η
 |a::x,b::y=>if a=b then vL x y else HT.lexLt a b
def zS {b:List Int}{y:List (List Int)}:vL [] (b::y)=ζ:=Γ (Nat.succ_pos _)
def eP {a b:List Int}{x y:List (List Int)}:vL (a::x) (b::y)=if a=b then vL x y else HT.lexLt a b:=rfl
theorem sI:∀{x y:List (List Int)},vL x y=η->vL y x=η->x=y
 |[],[],_,_=>rfl
 |[],_::_,h,_=>by rw[zS]at h;cases h
 |_::_,[],_,h=>by rw[zS]at h;cases h
 |a::x,b::y,h1,h2=>by
  rw[eP]at h1 h2
  by_cases e:a=b
  ·subst e;rw[χ rfl]at h1 h2;rw[sI h1 h2]
  ·rw[ω e]at h1;rw[ω (acB e)]at h2;exact Η (sJ h1 h2) e
end Jh
namespace L2.Q
open PySem PySem.Spec PySem.SeqAt PyProof.Rows
def Jr {ds:List D}{x:Int}{h:Nat}(hx:x=(h:Int)):M4 (.lst ds) ξ (ν x)=ν (.lst (ds.take h)):=by
 subst hx;show ν (D.lst (cutD _ _ _))=_;unfold cutD;rw[HT.pz,HT.tZ,List.drop_zero]
 congr 2
 rcases Nat.le_total h ds.length with q|q
 ·rw[Nat.min_eq_left q,Nat.sub_zero]
 ·rw[Nat.min_eq_right q,Nat.sub_zero,aa8 (ZX _),aa8 q]
def G0 {ds:List D}{x:Int}{h:Nat}(hx:x=(h:Int)):M4 (.lst ds) (ν x) ξ=ν (.lst (ds.drop h)):=by
 subst hx;show ν (D.lst (cutD _ _ _))=_;unfold cutD;rw[HT.pz,HT.tZ]
 congr 2
 rcases Nat.le_total h ds.length with q|q
 ·rw[Nat.min_eq_left q,aa8 (by rw[ack];lia)]
 ·rw[Nat.min_eq_right q,ac6,List.take_zero,List.drop_eq_nil_of_le q]
theorem ir {α:Type}{f g:α->Nat}:∀{l:List α} {b:Nat},(∀p∈l,f p=g p)->l.foldl (λa p=>a*f p) b=l.foldl (λa p=>a*g p) b
 |[],_,_=>rfl
 |x::l,b,h=>by
  rw[ab3,ab3,h x (by simp)]
  exact ir λp hp=>h p (by simp[hp])
def R1 (ps:List (Nat×Nat)):Nat->Nat->Nat->Nat
 |0,_,_=>1
 |_+1,0,_=>1
 |n+1,l+1,i=>((bG ps w1 (tW ps w1) i (i+l+1)).map λc=>(parts i c (i+l+1)).foldl (λa p=>a*R1 ps n (p.2-p.1) p.1) 1).sum
def hm (ps:List (Nat×Nat))(l i:Nat):Nat:=R1 ps l l i
def t7 {ps:List (Nat×Nat)}(hp:∀p∈ps,p.1<p.2){i l:Nat}{c:Option Nat}(hc:c∈bG ps w1 (tW ps w1) i (i+l+1)){p:Nat×Nat}(h:p∈parts i c (i+l+1)):i<p.1/\p.1<=p.2/\p.2<=i+l+1:=by
 have o:=bF hc;cases c with
 |none =>
  rw[ZY.mp h];exact{acj _,by show i+1<=i+l+1;lia,ZX _}
 |some k =>
  obtain⟨o1,o2,_⟩:=o;have:=hp _ o1;dsimp only at this;rcases Z1.mp h with rfl|h
  ·exact{acj _,by show i+1<=k;lia,by show k<=_;lia}
  ·rw[ZY.mp h];exact{by show i<k+1;lia,by show k+1<=_;lia,ZX _}
theorem vY {ps:List (Nat×Nat)}(hp:∀p∈ps,p.1<p.2):∀{n m l i:Nat},l<=n->l<=m->R1 ps n l i=R1 ps m l i
 |0,m,l,i,h1,h2=>by
  rw[show l=0 by lia]
  cases m <;> rfl
 |n+1,m,0,i,h1,h2=>by cases m <;> rfl
 |n+1,0,l+1,i,h1,h2=>by lia
 |n+1,m+1,l+1,i,h1,h2=>by
  show ((bG ps w1 (tW ps w1) i (i+l+1)).map _).sum=((bG ps w1 (tW ps w1) i (i+l+1)).map _).sum
  congr 1
  refine aaN λc hc=>ir λp h=>?_;obtain⟨a,b,d⟩:=t7 hp hc h;exact vY hp (by lia) (by lia)
def uu {ps:List (Nat×Nat)}(hp:∀p∈ps,p.1<p.2){l i:Nat}:hm ps (l+1) i=((bG ps w1 (tW ps w1) i (i+l+1)).map λc=>(parts i c (i+l+1)).foldl (λa p=>a*hm ps (p.2-p.1) p.1) 1).sum:=by
 show ((bG ps w1 (tW ps w1) i (i+l+1)).map _).sum=_
 congr 1
 refine aaN λc hc=>ir λp h=>?_;obtain⟨a,b,d⟩:=t7 hp hc h;exact vY hp (by lia) (ZX _)
def Dz {ps:List (Nat×Nat)}{i:Nat}(h:ps.Nodup):(jh ps i).Nodup:=by
 unfold jh;refine aat.mpr (List.Pairwise.imp_of_mem ?_ (List.Pairwise.filter _ h));intro a b ha hb MU e;have h1:=(aae.mp ha).2;have h2:=(aae.mp hb).2;simp only[decide_eq_true_eq]at h1 h2;exact MU (Prod.ext (by rw[h1,h2]) e)
theorem Eo:∀{n i:Nat} {l:List Nat},l.Nodup->(∀x∈l,i<=x/\x<i+n)->l.length<=n
 |0,i,l,_,h=>by
  cases l with
  |nil=>exact ZX _
  |cons x l=>have:=h x (by simp);lia
 |n+1,i,l,nd,h=>by
  have q:=Eo (n:=n) (i:=i) (nd.erase (i+n)) λx hx=>by
   have:=nd.mem_erase_iff.mp hx;have:=h x this.2;lia
  have:=List.length_erase (a:=i+n) (l:=l)
  split at this <;> lia
theorem yZ {α:Type}{f:α->Nat}{c:Nat}:∀{l:List α},(∀x∈l,f x<=c)->(l.map f).sum<=l.length*c
 |[],_=>aab _
 |x::l,h=>by
  have h1:=h x (by simp)
  have h2:=yZ (l:=l) λy hy=>h y (by simp[hy])
  rw[aap,acv,aaa,Nat.add_mul,ads];lia
def md {ps:List (Nat×Nat)}(hp:∀p∈ps,p.1<p.2)(nd:ps.Nodup){l i:Nat}:(bG ps w1 (tW ps w1) i (i+l+1)).length<=l+1:=by
 have h:((jh ps i).filter λk=>decide (k<i+l+1)&&decide (w1 (i,k)+tW ps w1 (k-i-1) (i+1)+tW ps w1 (i+l+1-k-1) (k+1)=tW ps w1 (i+l+1-i) i)).length<=l:=by
  have q:=Eo (i:=i+1) (n:=l) ((Dz (i:=i) nd).filter _) (l:=(jh ps i).filter λk=>decide (k<i+l+1)&&decide (w1 (i,k)+tW ps w1 (k-i-1) (i+1)+tW ps w1 (i+l+1-k-1) (k+1)=tW ps w1 (i+l+1-i) i)) λx hx=>by
   obtain⟨h1,h2⟩:=aae.mp hx;have:=hp _ (bI.mp h1);dsimp only at this;rw[aaQ,decide_eq_true_eq]at h2;lia
  exact q
 unfold bG;rw[aag,ZU]
 split <;> simp <;> lia
def nE (ps:List (Nat×Nat))(i j:Nat)(c:Option Nat):Nat:=(parts i c j).foldl (λa p=>a*hm ps (p.2-p.1) p.1) 1
def pF {ps:List (Nat×Nat)}{i j:Nat}:nE ps i j ξ=hm ps (j-(i+1)) (i+1):=by
 show 1*_=_;rw[ads]
def pE {ps:List (Nat×Nat)}{i j k:Nat}:nE ps i j (ν k)=hm ps (k-(i+1)) (i+1)*hm ps (j-(k+1)) (k+1):=by
 show 1*_*_=_;rw[ads]
def QA {ps:List (Nat×Nat)}(hp:∀p∈ps,p.1<p.2)(nd:ps.Nodup):∀l i,hm ps l i<=Ak l:=by
 intro l
 induction l using Nat.strongRecOn with
 |_ l ih =>
 intro i;cases l with
 |zero=>exact ZX _
 |succ l =>
  rw[uu hp];refine aaH (yZ (c:=Ak l) λc hc=>?_) (Nat.mul_le_mul (md hp nd) (ZX _));show nE ps i (i+l+1) c<=_;have o:=bF hc;cases c with
  |none =>
   rw[pF,show i+l+1-(i+1)=l by lia]
   exact ih l (by lia) _
  |some k =>
   obtain⟨o1,o2,_⟩:=o;have:=hp _ o1;dsimp only at this;rw[pE];have h1:=ih (k-(i+1)) (by lia) (i+1)
   have h2:=ih (i+l+1-(k+1)) (by lia) (k+1)
   exact aaH (Nat.mul_le_mul h1 h2) (aaH (Aj _ _) (wy (by lia)))
def qe {ps:List (Nat×Nat)}(hp:∀p∈ps,p.1<p.2)(nd:ps.Nodup){l i:Nat}(h:l<=20):((hm ps l i:Nat):Int)<2 ^ 64:=by
 have h1:=QA hp nd l i;have h2:=wy h;have h3:Ak 20<2 ^ 64:=by decide
 lia
def MN {ps:List (Nat×Nat)}(hp:∀p∈ps,p.1<p.2)(nd:ps.Nodup){l m i j:Nat}(h:l+m<=39):qQ (hm ps l i:Int) (hm ps m j:Int):=by
 rcases aa5 19 l with q|q
 ·exact .inr {by lia,qe hp nd (by lia)}
 ·exact .inl {by lia,qe hp nd (by lia)}
abbrev hT (ps:List (Nat×Nat)):Nat->Nat->Int:=λl i=>((hm ps l i:Nat):Int)
def Fs:FD:=λds R=>∃(n:Nat) (ps:List (Nat×Nat)) (L:Nat->Nat) (i j:Nat) (c:Option Nat),ds=[iV n L (hT ps),.lst ((parts i c j).map zq)]/\c∈bG ps w1 (tW ps w1) i j/\kT n ps/\n<=40/\i<j/\j<=n/\(∀a,i<a->a<=n->n+1-a<=L a)/\R (.int (nE ps i j c:Nat))
def Fs.mono:c0 Fs:=λds R R' k h=>by obtain⟨n,ps,L,i,j,c,e,h1,h2,h3,h4,h5,h6,q⟩:=h;exact{n,ps,L,i,j,c,e,h1,h2,h3,h4,h5,h6,k _ q}
def Ft:FD:=λds R=>∃(n:Nat) (ps:List (Nat×Nat)) (L:Nat->Nat) (i j:Nat),ds=[iV n L (hT ps),.lst ((bG ps w1 (tW ps w1) i j).map oD),.int i,.int j]/\kT n ps/\n<=40/\i<j/\j<=n/\(∀a,i<a->a<=n->n+1-a<=L a)/\R (.int (hT ps (j-i) i))
def Ft.mono:c0 Ft:=λds R R' k h=>by obtain⟨n,ps,L,i,j,e,h2,h3,h4,h5,h6,q⟩:=h;exact{n,ps,L,i,j,e,h2,h3,h4,h5,h6,k _ q}
def l4:FD:=λds R=>∃(n:Nat) (ps:List (Nat×Nat)),ds=[eG n ps]/\kT n ps/\n<=40/\R (.int (hT ps n 0))
def l4.mono:c0 l4:=λds R R' k h=>by obtain⟨n,ps,e,h2,h3,q⟩:=h;exact{n,ps,e,h2,h3,k _ q}
def AM {ps:List (Nat×Nat)}{l:List (Nat×Nat)}{m:Nat}{p:Nat×Nat}(h:l[m]?=ν p):(l.take (m+1)).foldl (λa p=>a*hm ps (p.2-p.1) p.1) 1=(l.take m).foldl (λa p=>a*hm ps (p.2-p.1) p.1) 1*hm ps (p.2-p.1) p.1:=by
 rw[aba,h,List.foldl_append];rfl
def DS {ps:List (Nat×Nat)}(hp:∀p∈ps,p.1<p.2)(nd:ps.Nodup){i j m:Nat}{c:Option Nat}{p:Nat×Nat}(hj:j<=40)(hc:c∈bG ps w1 (tW ps w1) i j)(h:(parts i c j)[m]?=ν p):
  qQ ((((parts i c j).take m).foldl (λa p=>a*hm ps (p.2-p.1) p.1) 1:Nat):Int) ((hm ps (p.2-p.1) p.1:Nat):Int):=by
 cases m with
 |zero=>exact .inl {by show -(2 ^ 64)<((1:Nat):Int);decide,by show ((1:Nat):Int)<2 ^ 64;decide}
 |succ m =>
  cases c with
  |none=>cases m <;> cases h
  |some k =>
   cases m with
   |succ m=>cases m <;> cases h
   |zero =>
    cases h;have o:=bF hc;obtain⟨o1,o2,_⟩:=o;have:=hp _ o1;dsimp only at this;show qQ ((1*hm ps (k-(i+1)) (i+1):Nat):Int) _;rw[ads];exact MN hp nd (by show k-(i+1)+(j-(k+1))<=39;lia)
def Dj {a:Nat}{lo:Int}{c k:Nat}{d:D}(h:(nS lo c)[k]?=ν d)(hl:lo=(a:Int)):∃j:Nat,j=a+k/\d=.int (j:Int):=by
 obtain⟨_,rfl⟩:=bL h;exact{a+k,rfl,Ι D.int (by lia)}
def jk {γ:dc}{τ:a6}{φ:aP}{ds ds':List D}{k:Kd}{β:ba}{K:List D->Prop}(e:ds=ds')(q:lP γ τ φ ds' k β K):lP γ τ φ ds k β K:=by rw[e];exact q
def BF {γ:dc}{ψ:Cp}{E:de}{ds:List D}{k:Kd}{β:ba}(I:Nat->ba->Prop)(h0:I 0 β)(h1:∀E':de,(∀d β,E.rt d β->E'.rt d β)->∀i:Nat,(∀β,I (i+1) β->E'.nx β)->∀d β,ds[i]?=ν d->I i β->γ d (sk k d) β λβ1=>ψ E' β1)
  (h2:∀β,I ds.length β->E.nx β):Fn γ ψ E ds k β:={I,h0,λi d β e q=>h1 (E.lp (I (i+1))) (λ_ _ q=>q) i (λ_ q=>q) d β e q,h2}
def Xg {E:de}{ψ:Cp}{E':de}{β:ba}(h:ψ E' β):(E.up (ap ψ E')).nx β:=h
def Kz {τ:a6}{ψ:Cp}{E:de}{β:ba}(V:Nat->ba->Prop)(h0:∃m,V m β)
  (h1:∀(E':de) (Q:ba->Prop),(∀β,E.nx β->Q β)->∀m,(∀m' β,m'<m->V m' β->E'.nx β)->∀β,V m β->τ β λt β1=>if t=ζ then ψ E' β1 else Q β1):CF τ ψ E β :=
 {V,h0,λm β v=>h1 {nx:=λβ'=>∃m',m'<m/\V m' β',rt:=E.rt,bk:=E.nx,ct:=λβ'=>∃m',m'<m/\V m' β'} E.nx (λ_ q=>q) m (λm' _ l v=>{(m'),l,v}) β v}
end L2.Q
namespace qW
open PySem L2 L2.Q
section
variable {P:Z6}{w:aam}{K:Ξ}{mg:Str->Option ZW}{base:Heap}
def jY:aN ["many"] ["many"] (aw cg):=mkS
def zG {eQ b_}(f7:D4 K mg eQ b_)(B:uK mg):aG P w K mg base bt 1 eQ b_ ["many"] (bW P w ζ yC):=by
 refine nF f7.F jY (λds R Qq=> by obtain⟨n,e,_⟩ := Qq;subst e;rfl) λc_ A outer s H E hr=>{_,(aj (aO (X4 ["i","j","many"] [ξ,ξ,ν 0] (by rfl) (by decide:(["i","j","many"]:List Str).Nodup) rfl (xU B.range (aa (aC af (bq.m aY) (ab (i:=0)) ag) (aa (Jv yU ag) (aa (Jv yU ag) ae)))) (λ_ _ _ _ _ _=>(ai (i:=0) (by decide:(["i","j","many"]:List Str).Nodup))) (λ_ _ _ _ _ _=>cz) (λ_ _ _ _ _ _=>(xT B.range (aa (aC aK au (ab (i:=0)) ag) (aa (aC aK au (ab (i:=2)) ag) ae)))) (λ_ _ _ _ _ _=>(ai (i:=1) (by decide:(["i","j","many"]:List Str).Nodup))) (λ_ _ _ _ _ _=>cz) (λ_ _ _ _ _ _=>(aR (aa (ab (i:=0)) (aa (ab (i:=1)) ae))))))),λds R h=>?_}
 obtain⟨n,rfl,hn,q⟩:=h;refine{_,rfl,tv,_,rfl,tv,_,rfl,rfl,tv,_,rfl,rfl,tv,(n:Int)-1,-1,rfl,{by lia,by lia,by lia,by lia},tv,?_}
 have en:((n:Int)-1 - -1).toNat=n:=by lia
 rw[en];refine{λa β o=>a<=n/\(∃x0 x1,β=[x0,x1,ν (.val η (.int n))])/\o=(((Z_ n).take a).flatMap (gc n)).map zq,{aab _,{_,_,rfl},rfl},?_,?_}
 ·rintro a d β o hd ⟨ha,⟨x0,x1,rfl⟩,rfl⟩;obtain⟨R8,rfl⟩:=vf hd;have e1:(n:Int)-1-a=((n-1-a:Nat):Int):=by lia
  rw[e1];refine{_,rfl,tv,_,rfl,tv,_,rfl,tv,_,rfl,tv,((n-1-a:Nat):Int)+1,(n:Int)+1,rfl,{by lia,by lia,by lia,by lia},?_}
  have e2:((n:Int)+1-(((n-1-a:Nat):Int)+1)).toNat=a+1:=by lia
  rw[e2];refine{λb β o=>b<=a+1/\(∃x1,β=[ν (.val ζ (.int ((n-1-a:Nat):Int))),x1,ν (.val η (.int n))])/\o=(((Z_ n).take a).flatMap (gc n)++(gc n a).take b).map zq,{aab _,{_,rfl},by simp},?_,?_}
  ·rintro b d β o hd ⟨hb,⟨x1,rfl⟩,rfl⟩;obtain⟨qU,rfl⟩:=bL hd;refine{_,rfl,tv,_,rfl,tv,gF,tv,?_,qU,{_,rfl},?_}
   ·rw[ZU,aag];exact CU hn R8 qU
   ·rw[show ((n-1-a:Nat):Int)+1+(b:Int)=((n-a+b:Nat):Int) by lia,A6 qU,<- aa3,aaj,aaj,aaj]
    rfl
  ·rintro β o ⟨_,⟨x1,rfl⟩,rfl⟩;refine{R8,{_,_,rfl},?_};rw[b5,Di,aba,abI R8,ac4];simp
 ·rintro β o ⟨_,⟨x0,x1,rfl⟩,rfl⟩;rw[ve,aa8 (by simp)]
  exact{(tv),tv,q}
def bZ:aN ["row","many","ties","partners","a","b"] ["row"] (aw ee):=mkS
def oE {dW bT}(dY:D5 K mg dW bT)(B:uK mg):aG P w K mg base bt 1 dW bT ["row"] (bW P w ζ jr):=by
 refine nF dY.F bZ (λds R Qp=> by obtain⟨n,ps,e,_⟩ := Qp;subst e;rfl) λc_ A outer s H E hr=>⟨_,(ah (ij (ab (i:=0)) (bA (n:=2) rfl (az (ai (i:=1) bZ.nd) (az (ai (i:=2) bZ.nd) bg))))
    (ah (rg (i:=3) ζ ["point"] [ξ] (by rfl) (by decide:(["point"]:List Str).Nodup) rfl (λ_=>(bc B.range (aa (ab (i:=1)) ae))) (λ_ _ _ _ _ _=>(ai (i:=0) (by decide:(["point"]:List Str).Nodup))) (λ_ _ _ _ _ _=>cz) (λ_ _ _ _ _ _=>(bS ae)) bZ.nd)
    (ah (cG aaU rfl (aS (ab (i:=2))) (bA (n:=2) rfl (az (ai (i:=4) bZ.nd) (az (ai (i:=5) bZ.nd) bg))) (aj (jj (i:=3) ζ (λ_=>(ab (i:=5))) (λ_=>(ab (i:=4))))))
    (aj (lI (i:=3)))))),λds R h=>?_⟩
 obtain⟨n,ps,rfl,ok,q⟩:=h;have hn:=ok.le;refine{_,rfl,_,rfl,rfl,_,_,rfl,_,_,rfl,rfl,_,rfl,tv,n,rfl,by lia,by lia,tv,?_}
 rw[abb];refine cJ (λ_=>ζ) (λ_=>.lst []) tv (by rw[aaD];exact dv (by lia)) (λx hx x0 o J ho h1 _=>{aab _,tv,ho,h1 rfl _}) ?_
 rw[bp];refine{_,rfl,_,rfl,tv,?_};refine{λm β=>∃x4 x5,β=[ν (.val η (eG n ps)),ν (.val ζ (.int n)),ν (.val η (dt ps)),ν (.own (xm n (ps.take m))),x4,x5],{_,_,rfl},?_,?_}
 ·rintro m d β hd ⟨x4,x5,rfl⟩;rw[aah]at hd;obtain⟨p,hp,rfl⟩:=aai.mp hd;obtain⟨h1,h2⟩:=ok.lt p (aaF hp);refine{_,rfl,rfl,_,_,rfl,_,_,rfl,rfl,{_,rfl},_,rfl,_,_,_,_,rfl,rfl,by rw[ZU,aaD];exact Mn rfl (show p.1<n by lia),fu (show p.1<n by lia),_,rfl,tv,rfl,?_,?_}
  ·unfold Q.cB;rw[ZU];have:=lF (ps:=ps.take m) (i:=p.1);rw[aaw]at this;have:=ok.sm;exact rW (by lia)
  ·refine{ν (.val ζ (.int p.1)),ν (.val ζ (.int p.2)),?_};have e:ps.take (m+1)=ps.take m++[(p.1,p.2)]:=by rw[aba,hp];rfl
   rw[K6 (show p.1<n by lia),e]
   rfl
 ·rintro β ⟨x4,x5,rfl⟩;rw[ZU,abx];exact{_,rfl,q}
def ph:aN ["worth","table","i","k","j"] ["worth","table","i","k","j"] (aw eh):=mkS
def zH {c7 bC}(d9:D6 K mg c7 bC):aG P w K mg base bt 1 c7 bC ["worth","table","i","k","j"] (bW P w ζ ql):=by
 refine nF d9.F ph (λds R Qo=> by obtain⟨n,ps,w,L,T,i,k,j,e,_⟩ := Qo;subst e;rfl) λc_ A outer s H E hr=>{_,(aj (aO (aC aK au (aC aK au (aF af (Pe hr.CG) (ab (i:=0)) (aR (aa (ab (i:=2)) (aa (ab (i:=3)) ae)))) (aF af aU (aF af aU (ab (i:=1)) (aC aK au (ab (i:=2)) ag)) (aC af (bq.m aY) (aC af (bq.m aY) (ab (i:=3)) (ab (i:=2))) ag))) (aF af aU (aF af aU (ab (i:=1)) (aC aK au (ab (i:=3)) ag)) (aC af (bq.m aY) (aC af (bq.m aY) (ab (i:=4)) (ab (i:=3))) ag))))),λds R h=>?_}
 obtain⟨n,ps,w,L,T,i,k,j,rfl,hm,h1,h2,h3,h4,h5,q⟩:=h;exact⟨_,rfl,tv,_,rfl,tv,_,rfl,tv,gF,_,MV hm,tv,_,rfl,tv,_,rfl,tv,_,rfl,_,nH (i:=i+1) (by lia) (by lia),.inr ⟨tv,_,rfl,tv,_,rfl,_,rfl,tv,_,rfl,_,nJ (l:=k-i-1) (by lia) h4,_,rfl,tv,
  _,rfl,tv,_,rfl,tv,_,rfl,_,nH (i:=k+1) (by lia) (by lia),.inr {tv,_,rfl,tv,_,rfl,_,rfl,tv,_,rfl,_,nJ (l:=j-k-1) (by lia) h5,_,rfl,tv,q}⟩⟩
def iM:aN ["partners","worth","table","i","j","numbers"] ["partners","worth","table","i","j"] (aw dy):=mkS
def Eb {eT cc}(gC:D7 K mg eT cc){c7 bC}(d9:D6 K mg c7 bC)(B:uK mg):aG P w K mg base bt 2 eT cc ["partners","worth","table","i","j"] (bW P w ζ qm):=by
 have VL:aG P w K mg base bt 1 _ _ _ (bW P w ζ ql):= zH d9;refine nF gC.F iM (λds R Qn=> by obtain⟨n,ps,w,L,T,i,j,e,_⟩ := Qn;subst e;rfl) λc_ A outer s H E hr=>⟨_,(ah (rg (i:=5) η ["k","worth","table","i","j"] [ξ,ν 1,ν 2,ν 3,ν 4] (by rfl) (by decide:(["k","worth","table","i","j"]:List Str).Nodup) rfl (λ_=>(aS (aF af aU (ab (i:=0)) (ab (i:=3))))) (λ_ _ _ _ _ _=>(ai (i:=0) (by decide:(["k","worth","table","i","j"]:List Str).Nodup))) (λ_ _ _ _ _ _=>(fH (aA af (bq.m cY) (ab (i:=0)) (ab (i:=4))))) (λ_ _ _ _ _ _=>(ao ql.mono VL (hr.mono (by decide)) d9.m d9.F.kp d9.b (aa (ab (i:=1)) (aa (ab (i:=2)) (aa (ab (i:=3)) (aa (ab (i:=0)) (aa (ab (i:=4)) ae))))))) iM.nd)
    (aj (aO (a9 af (bU.m (BX rfl)) B.max ng (aa (aC aK au (ab (i:=5)) (bS (aa (aF af aU (aF af aU (ab (i:=2)) (aC aK au (ab (i:=3)) ag)) (aC af (bq.m aY) (aC af (bq.m aY) (ab (i:=4)) (ab (i:=3))) ag)) ae))) ae))))),λds R h=>?_⟩
 obtain⟨n,ps,w,L,T,i,j,rfl,ok,h1,h2,h3,q⟩:=h;have Gr:=ok.sm;have hle:=ok.le;have hl:((jh ps i).filter λk=>decide (k<j)).length<=400:=aaH (abp _ _) (aaH lF Gr);refine{_,rfl,tv,_,rfl,_,Pf rfl (by lia),.inr {_,rfl,tv,?_}}
 refine cJ (λk=>decide (k<j)) (λk=>.int (w (i,k)+T (k-i-1) (i+1)+T (j-k-1) (k+1))) tv (dv (aaH lF (by lia))) (λk hk x0 o J ho j1 j2=>?_) ?_
 ·have hm:=bI.mp hk;obtain⟨g1,g2⟩:=ok.lt _ hm;dsimp only at g1 g2;refine{_,rfl,tv,_,rfl,_,rfl,_,rfl,qc (λUW=>?_) (λUW=>j2 (by simp;lia) _)}
  have E9:k<j:=by lia
  have a1:=h3 (i+1) (by lia) (by lia)
  have a2:=h3 (k+1) (by lia) (by lia)
  exact{_,rfl,tv,_,rfl,tv,_,rfl,tv,_,rfl,tv,_,rfl,tv,n,ps,w,L,T,i,k,j,rfl,hm,g1,E9,h2,by lia,by lia,tv,ho,j1 (by simpa using E9) _}
 ·have a1:=h3 (i+1) (by lia) (by lia)
  refine{_,rfl,tv,_,rfl,tv,_,rfl,tv,_,rfl,_,nH (i:=i+1) (by lia) (by lia),.inr {tv,_,rfl,tv,_,rfl,_,rfl,tv,_,rfl,_,nJ (l:=j-i-1) (by lia) (by lia),tv,CS,_,gX (by rw[ZU];show _+1<=_;lia),.inl {sV fF rfl,tv,_,Er,tv,q}}}
def bz:aN ["row","worth","many","partners","table","i","j"] ["row","worth"] (aw cQ):=mkS
def Ed {fz cE}(gD:D8 K mg fz cE){dW bT}(dY:D5 K mg dW bT){eQ b_}(f7:D4 K mg eQ b_){eT cc}(gC:D7 K mg eT cc){c7 bC}(d9:D6 K mg c7 bC)(B:uK mg):aG P w K mg base bt 3 fz cE ["row","worth"] (bW P w ζ qp):=by
 have Nn:aG P w K mg base bt 1 _ _ _ (bW P w ζ jr):= oE dY B;have VI:aG P w K mg base bt 1 _ _ _ (bW P w ζ yC):= zG f7 B;have Zg:aG P w K mg base bt 2 _ _ _ (bW P w ζ qm):= Eb gC d9 B;refine nF gD.F bz (λds R Qm=> by obtain⟨n,ps,w,e,_⟩ := Qm;subst e;rfl) λc_ A outer s H E hr=>⟨_,(ah (aQ (i:=2) (aF af aU (ab (i:=0)) ag) bz.nd)
    (ah (aQ (i:=3) (ao jr.mono Nn (hr.mono (by decide)) dY.m dY.F.kp dY.b (aa (ab (i:=0)) ae)) bz.nd)
    (ah (rg (i:=4) ζ ["i"] [ξ] (by rfl) (by decide:(["i"]:List Str).Nodup) rfl (λ_=>(bc B.range (aa (aC aK au (ab (i:=2)) ag) ae))) (λ_ _ _ _ _ _=>(ai (i:=0) (by decide:(["i"]:List Str).Nodup))) (λ_ _ _ _ _ _=>cz) (λ_ _ _ _ _ _=>(bS (aa ag ae))) bz.nd)
    (ah (cG aaU rfl (aS (ao yC.mono VI (hr.mono (by decide)) f7.m f7.F.kp f7.b (aa (ab (i:=2)) ae))) (bA (n:=2) rfl (az (ai (i:=5) bz.nd) (az (ai (i:=6) bz.nd) bg))) (aj (jj (i:=4) ζ (λ_=>(ao qm.mono Zg (hr.mono (by decide)) gC.m gC.F.kp gC.b (aa (ab (i:=3)) (aa (ab (i:=1)) (aa (ab (i:=4)) (aa (ab (i:=5)) (aa (ab (i:=6)) ae))))))) (λ_=>(ab (i:=5))))))
    (aj (lI (i:=4))))))),λds R h=>?_⟩
 obtain⟨n,ps,w,rfl,ok,q⟩:=h;have hn:=ok.le;have hp:∀p∈ps,p.1<p.2:=λp hp=>(ok.lt p hp).1;refine{_,rfl,tv,_,rfl,_,rfl,tv,n,ps,rfl,ok,_,rfl,tv,_,rfl,tv,(n:Int)+1,rfl,by lia,by lia,tv,?_}
 rw[show ((n:Int)+1).toNat=n+1 by lia]
 refine cJ (λ_=>ζ) (λ_=>.lst [.int 0]) tv (by rw[aaD];exact dv (by lia)) (λx hx x0 o J ho h1 _=>{tv,CS,tv,ho,h1 rfl _}) ?_
 rw[bp];refine{_,rfl,tv,n,rfl,hn,_,rfl,tv,?_};refine BF (λidx β=>∃L x5 x6,β=[ν (.val η (eG n ps)),ν (.val η (wD ps w)),ν (.val ζ (.int n)),ν (.val ζ (xm n ps)),ν (.own (iV n L (tW ps w))),x5,x6]/\xj n idx L) {λ_=>1,_,_,rfl,nO} (λE1 r1 idx n1 d β hd h=>?_) ?_
 ·obtain⟨L,x5,x6,rfl,dn⟩:=h;rw[aah]at hd;obtain⟨p,kJ,rfl⟩:=aai.mp hd;obtain⟨a,b,ha,hb,rfl,hL,vX⟩:=qz dn kJ;have eL:iV n L (tW ps w)=iV n (eZ n a b) (tW ps w):=jB hL;have e0:eZ n a b (n-1-a)=b+1:=by unfold eZ;rw[ω (by lia),χ rfl]
  rw[eL];refine⟨_,rfl,rfl,_,_,rfl,_,_,rfl,rfl,{_,rfl},_,rfl,_,_,_,_,rfl,rfl,by rw[ZU,aaD];exact Mn rfl (show n-1-a<n+1 by lia),fu (show n-1-a<n+1 by lia),
   _,rfl,tv,_,rfl,tv,_,rfl,tv,_,rfl,tv,_,rfl,tv,n,ps,w,eZ n a b,tW ps w,n-1-a,n-a+b,rfl,ok,by lia,by lia,λa' h1 h2=>by unfold eZ;rw[χ h1];exact ZX _,tv,rfl,?_,?_⟩
  ·rw[e0];unfold tP;rw[ZU,aaD];exact rW (by lia)
  ·refine n1 _ {eZ n a (b+1),ν (.val ζ (.int ((n-1-a:Nat):Int))),ν (.val ζ (.int ((n-a+b:Nat):Int))),?_,.inr {a,b+1,ha,by lia,λ_ _=>rfl,vX}}
   have ev:lQ ps w (tW ps w) (n-1-a) (n-a+b)=tW ps w (b+1) (n-1-a):=by rw[om hp,show n-1-a+b+1=n-a+b by lia]
   rw[ev,e0,zb ha hb];rfl
 ·rintro β ⟨L,x5,x6,rfl,dn⟩;rw[ZU]at dn;have e:iV n L (tW ps w)=ff n (tW ps w):=jB (s9 dn);rw[e];exact{_,rfl,q}
def va:aN ["row"] ["row"] (aw hV):=mkS
def ua {fy cD}(eU:D9 K mg fy cD):aG P w K mg base bt 1 fy cD ["row"] (bW P w ζ qk):=by
 refine nF eU.F va (λds R Ql=> by obtain⟨n,ps,e,_⟩ := Ql;subst e;rfl) λc_ A outer s H E hr=>{_,(aj (aO (Y5 (Nat.lt_of_succ_lt hr.CG) ["tie"] [ξ] (by rfl) (by decide:(["tie"]:List Str).Nodup) rfl (aS (aF af aU (ab (i:=0)) ag)) (λ_ _ _ _ _ _=>(ai (i:=0) (by decide:(["tie"]:List Str).Nodup))) (λ_ _ _ _ _ _=>cz) (λ_ _ _ _ _ _=>(ab (i:=0))) (λ_ _ _ _ _ _=>ag)))),λds R h=>?_}
 obtain⟨n,ps,rfl,ok,q⟩:=h;have Gr:=ok.sm;refine{_,rfl,tv,_,rfl,.inr {_,rfl,tv,?_}};refine{λm β o=>m<=ps.length/\(∃x0,β=[x0])/\o=(ps.take m).map λp=>(tI p,D.int (w1 p)),{aab _,{_,rfl},rfl},?_,?_}
 ·rintro m d β o hd ⟨hm,⟨x0,rfl⟩,rfl⟩;rw[aah]at hd;obtain⟨p,hp,rfl⟩:=aai.mp hd;have gV:=(aaf.mp hp).1;refine{_,rfl,tI p,rfl,rfl,HF (HL ok.nd hp),?_,gV,{_,rfl},?_}
  ·rw[ZU,aaw];exact rW (by lia)
  ·rw[aba,hp,aaj];rfl
 ·rintro β o ⟨_,⟨x0,rfl⟩,rfl⟩;rw[ZU,abx];exact{(tv),tv,q}
def u_:aN ["row"] ["row"] (aw hG):=mkS
def pR {gf cX}(gg:Gg K mg gf cX){fz cE}(gD:D8 K mg fz cE){dW bT}(dY:D5 K mg dW bT){eQ b_}(f7:D4 K mg eQ b_){eT cc}(gC:D7 K mg eT cc){c7 bC}(d9:D6 K mg c7 bC){fy cD}(eU:D9 K mg fy cD)(B:uK mg):aG P w K mg base bt 4 gf cX ["row"] (bW P w ζ iw):=by
 have Zh:aG P w K mg base bt 3 _ _ _ (bW P w ζ qp):= Ed gD dY f7 gC d9 B;have Np:aG P w K mg base bt 1 _ _ _ (bW P w ζ qk):= ua eU;refine nF gg.F u_ (λds R Qj=> by obtain⟨n,ps,e,_⟩ := Qj;subst e;rfl) λc_ A outer s H E hr=>{_,(aj (aO (ao qp.mono Zh (hr.mono (by decide)) gD.m gD.F.kp gD.b (aa (ab (i:=0)) (aa (ao qk.mono Np (hr.mono (by decide)) eU.m eU.F.kp eU.b (aa (ab (i:=0)) ae)) ae))))),λds R h=>?_}
 obtain⟨n,ps,rfl,ok,q⟩:=h;exact{_,rfl,tv,_,rfl,tv,n,ps,rfl,ok,tv,n,ps,w1,rfl,ok,tv,q}
end
section
variable {P:Z6}{w:aam}{K:Ξ}{mg:Str->Option ZW}{base:Heap}
def rf:aN ["i","k","j"] ["i","k","j"] (aw fq):=mkS
def pS {eS cb}(fB:B_ K mg eS cb):aG P w K mg base bt 1 eS cb ["i","k","j"] (bW P w ζ iy):=by
 refine nF fB.F rf (λds R Qi=> by obtain⟨i,k,j,e,_⟩ := Qi;subst e;rfl) λc_ A outer s H E hr=>⟨_,(bf (bo (aA af (bq.m t_) (ab (i:=1)) ie) (aj (aO (bS (aa (aR (aa (aC aK au (ab (i:=0)) ag) (aa (ab (i:=2)) ae))) ae)))) aM)
    (aj (aO (bS (aa (aR (aa (aC aK au (ab (i:=0)) ag) (aa (ab (i:=1)) ae))) (aa (aR (aa (aC aK au (ab (i:=1)) ag) (aa (ab (i:=2)) ae))) ae)))))),λds R h=>?_⟩
 obtain⟨i,k,j,rfl,q⟩:=h;cases k with
 |none=>exact{λ_=>False,{_,rfl,tv,_,rfl,_,rfl,qT rfl {_,rfl,tv,_,rfl,tv,_,rfl,tv,gF,tv,CS,tv,q}},λ_ z=>z.elim}
 |some k =>
  refine{λβ=>β=[ν (.val η (.int i)),ν (.val η (.int k)),ν (.val η (.int j))],{_,rfl,tv,_,rfl,_,rfl,gB rfl rfl},?_};rintro β rfl;exact{_,rfl,tv,_,rfl,tv,_,rfl,tv,gF,tv,_,rfl,tv,_,rfl,tv,_,rfl,tv,gF,tv,gF,tv,q}
def eW:aN ["partners","worth","table","i","j","best","choices"] ["partners","worth","table","i","j"] (aw dB):=mkS
def uc {fA cF}(f9:Cr K mg fA cF){c7 bC}(d9:D6 K mg c7 bC)(B:uK mg):aG P w K mg base bt 2 fA cF ["partners","worth","table","i","j"] (bW P w ζ l5):=by
 have VL:aG P w K mg base bt 1 _ _ _ (bW P w ζ ql):= zH d9;refine nF f9.F eW (λds R Qh=> by obtain⟨n,ps,w,T,i,j,e,_⟩ := Qh;subst e;rfl) λc_ A outer s H E hr=>⟨_,(ah (aQ (i:=5) (aF af aU (aF af aU (ab (i:=2)) (ab (i:=3))) (aC af (bq.m aY) (ab (i:=4)) (ab (i:=3)))) eW.nd)
    (ah (rg (i:=6) ζ ["k","j","best","worth","table","i"] [ξ,ν 4,ν 5,ν 1,ν 2,ν 3] (by rfl) (by decide:(["k","j","best","worth","table","i"]:List Str).Nodup) rfl (λ_=>(aS (aF af aU (ab (i:=0)) (ab (i:=3))))) (λ_ _ _ _ _ _=>(ai (i:=0) (by decide:(["k","j","best","worth","table","i"]:List Str).Nodup))) (λ_ _ _ _ _ _=>(fH (tE.t (jK (aA af (bq.m cY) (ab (i:=0)) (ab (i:=1))) (gM (aA af (bq.m (dG hr.units)) (ao ql.mono VL (hr.mono (by decide)) d9.m d9.F.kp d9.b (aa (ab (i:=3)) (aa (ab (i:=4)) (aa (ab (i:=5)) (aa (ab (i:=0)) (aa (ab (i:=1)) ae)))))) (ab (i:=2)))))))) (λ_ _ _ _ _ _=>(ab (i:=0))) eW.nd)
    (bf (bo (aA af (bq.m (dG hr.units)) (aF af aU (aF af aU (ab (i:=2)) (aC aK au (ab (i:=3)) ag)) (aC af (bq.m aY) (aC af (bq.m aY) (ab (i:=4)) (ab (i:=3))) ag)) (ab (i:=5))) (aj (d4 (i:=6) (λ_=>ie))) aM)
    (aj (lI (i:=6)))))),λds R h=>?_⟩
 obtain⟨n,ps,w,T,i,j,rfl,ok,h1,h2,q⟩:=h;have Gr:=ok.sm;have hle:=ok.le;refine{_,rfl,tv,_,rfl,_,nH rfl (by lia),.inr {tv,_,rfl,tv,_,rfl,_,rfl,_,nJ (l:=j-i) (by lia) (by lia),?_}}
 refine{_,rfl,tv,_,rfl,_,Pf rfl (by lia),.inr {_,rfl,tv,?_}}
 refine cJ (λk=>decide (k<j)&&decide (w (i,k)+T (k-i-1) (i+1)+T (j-k-1) (k+1)=T (j-i) i)) (λk=>.int (k:Int)) tv (dv (aaH lF (by lia))) (λk hk x0 o J ho j1 j2=>?_) ?_
 ·have hm:=bI.mp hk;obtain⟨g1,g2⟩:=ok.lt _ hm;dsimp only at g1 g2;refine{_,rfl,tv,_,rfl,_,rfl,_,rfl,qc (λUW=>?_) (λUW=>gB rfl (j2 ?_ _))}
  ·have E9:k<j:=by lia
   refine{_,rfl,tv,_,rfl,tv,_,rfl,tv,_,rfl,tv,_,rfl,tv,n,ps,w,(λi=>n+1-i),T,i,k,j,rfl,hm,g1,E9,h2,by show _<n+1-(i+1);lia,by show _<n+1-(k+1);lia,tv,_,rfl,_,cW _ _,_,rfl,qc (λe=>?_) (λe=>j2 ?_ _)}
   ·exact{_,rfl,tv,ho,j1 (by rw[aaQ,decide_eq_true_eq,decide_eq_true_eq];exact{(E9),e}) _}
   ·rw[Bool.and_eq_false_iff];exact .inr (Δ e)
  ·rw[Bool.and_eq_false_iff];exact .inl (Δ (by lia))
 ·have eb:bG ps w T i j=((jh ps i).filter λk=>decide (k<j)&&decide (w (i,k)+T (k-i-1) (i+1)+T (j-k-1) (k+1)=T (j-i) i)).map ν++(if T (j-i-1) (i+1)=T (j-i) i then [ξ] else []):=rfl
  have em:(((jh ps i).filter λk=>decide (k<j)&&decide (w (i,k)+T (k-i-1) (i+1)+T (j-k-1) (k+1)=T (j-i) i)).map λ(k:Nat)=>D.int (k:Int))=(((jh ps i).filter λk=>decide (k<j)&&decide (w (i,k)+T (k-i-1) (i+1)+T (j-k-1) (k+1)=T (j-i) i)).map ν).map oD:=by rw[aaK];rfl
  have hl:(((jh ps i).filter λk=>decide (k<j)&&decide (w (i,k)+T (k-i-1) (i+1)+T (j-k-1) (k+1)=T (j-i) i)).map ν).length<=400:=by rw[ZU];exact aaH (abp _ _) (aaH lF Gr)
  rw[em];generalize ((jh ps i).filter λk=>decide (k<j)&&decide (w (i,k)+T (k-i-1) (i+1)+T (j-k-1) (k+1)=T (j-i) i)).map ν=cs at eb hl ⊢
  refine{λβ=>β[6]?=ν (ν (.own (.lst ((bG ps w T i j).map oD)))),?_,λβ hβ=>{_,hβ,q}};refine{_,rfl,tv,_,rfl,tv,_,rfl,_,nH (i:=i+1) (by lia) (by lia),.inr {tv,_,rfl,tv,_,rfl,_,rfl,tv,_,rfl,_,nJ (l:=j-i-1) (by lia) (by lia),tv,_,rfl,_,cW _ _,_,rfl,qc (λe=>?_) (λe=>?_)}}
  ·rw[χ e]at eb;refine{{_,rfl},tv,_,rfl,by rw[ZU];exact rW (by lia),?_}
   rw[eb,aaj];rfl
  ·rw[ω e,aa9]at eb;rw[eb];rfl
def bb:aN ["row","worth","table","i","j","partners","found","waiting","low","high","k"] ["row","worth","table","i","j"] (aw cR):=mkS
def HA {j4 fh}(oe:Km K mg j4 fh){dW bT}(dY:D5 K mg dW bT){fA cF}(f9:Cr K mg fA cF){c7 bC}(d9:D6 K mg c7 bC){eS cb}(fB:B_ K mg eS cb)(B:uK mg):aG P w K mg base bt 3 j4 fh ["row","worth","table","i","j"] (bW P w ζ wB):=by
 have Nn:aG P w K mg base bt 1 _ _ _ (bW P w ζ jr):= oE dY B;have Rn:aG P w K mg base bt 2 _ _ _ (bW P w ζ l5):= uc f9 d9 B;have Rm:aG P w K mg base bt 1 _ _ _ (bW P w ζ iy):= pS fB;refine nF oe.F bb (λds R Qg=> by obtain⟨n,ps,w,i,j,e,_⟩ := Qg;subst e;rfl) λc_ A outer s H E hr=>⟨_,(ah (aQ (i:=5) (ao jr.mono Nn (hr.mono (by decide)) dY.m dY.F.kp dY.b (aa (ab (i:=0)) ae)) bb.nd)
    (ah (dD (i:=6) (λ_=>(bS ae)) bb.nd)
    (ah (dD (i:=7) (λ_=>(bS (aa (aR (aa (ab (i:=3)) (aa (ab (i:=4)) ae))) ae))) bb.nd)
    (ah (DP aaU (Ha (ab (i:=7))) (ah (ij (DE (i:=7)) (bA (n:=2) rfl (az (ai (i:=8) bb.nd) (az (ai (i:=9) bb.nd) bg))))
    (aj (bo (aA af (bq.m cY) (ab (i:=8)) (ab (i:=9))) (ah (aQ (i:=10) (aF af aU (ao l5.mono Rn (hr.mono (by decide)) f9.m f9.F.kp f9.b (aa (ab (i:=5)) (aa (ab (i:=1)) (aa (ab (i:=2)) (aa (ab (i:=8)) (aa (ab (i:=9)) ae)))))) ag) bb.nd)
    (bf (bo (aA af (bq.m pP) (ab (i:=10)) ie) (aj (d4 (i:=6) (λ_=>(aR (aa (ab (i:=8)) (aa (ab (i:=10)) ae)))))) aM)
    (aj (su (i:=7) (He (ao iy.mono Rm (hr.mono (by decide)) fB.m fB.F.kp fB.b (aa (ab (i:=8)) (aa (ab (i:=10)) (aa (ab (i:=9)) ae))))))))) aM))))
    (aj (lI (i:=6))))))),λds R h=>?_⟩
 obtain⟨n,ps,w,i,j,rfl,ok,h1,h2,q⟩:=h;have hn:=ok.le;have hp:∀p∈ps,p.1<p.2:=λp hp=>(ok.lt p hp).1;have Fc:(bw ps w i j).length<=40:=by have:=Fh (w:=w) hp (j-i) i j (ZX _);lia
 refine{_,rfl,tv,n,ps,rfl,ok,aab _,tv,_,rfl,tv,_,rfl,tv,gF,tv,CS,tv,?_};refine Xg (Kz (λm β=>∃(ws:List (Nat×Nat)) (fs:List (Nat×Nat)) (x8 x9 jW:Option Q.B),β=[ν (.val η (eG n ps)),ν (.val η (wD ps w)),ν (.val η (ff n (tW ps w))),ν (.val η (.int i)),ν (.val η (.int j)),ν (.val ζ (xm n ps)),ν (.own (dt fs)),ν (.own (.lst (ws.map zq))),x8,x9,jW]/\(∀p∈ws,p.2<=n)/\yT ws=m/\m<=200/\fs++(ws.reverse.flatMap λp=>bw ps w p.1 p.2)=bw ps w i j) {_,[(i,j)],[],_,_,_,rfl,λp hp=>by rw[ZY.mp hp];exact h2,rfl,by show 2*(j-i)+1+0<=200;lia,by simp} λE1 Q1 q1 m n1 β hv=>?_)
 obtain⟨ws,fs,x8,x9,jW,rfl,hw,hm,hl,hf⟩:=hv;rcases List.eq_nil_or_concat ws with rfl|⟨xt,⟨l,h⟩,rfl⟩
 ·refine{_,rfl,_,rfl,gB rfl ?_};have hf:fs=bw ps w i j:=by simpa using hf
  rw[<- hf]at q;exact q1 _ {_,rfl,q}
 ·rw[List.concat_eq_append]at hw hm hf ⊢
  rw[tJ]at hm;have ZH:xt.length<=yT xt:=by
   unfold yT
   clear hw hm hf
   induction xt with
   |nil=>exact ZX _
   |cons a l ih=>rw[aap,acv,aaa];lia
  have hm:yT xt+(2*(h-l)+1)=m:=hm;have hh:h<=n:=hw (l,h) (by simp)
  rw[ac3,List.reverse_singleton,List.singleton_append,acO]at hf;refine{_,rfl,_,rfl,qT (by rw[aaj];cases xt <;> rfl) ?_}
  rw[aaj];refine{xt.map zq,zq (l,h),rfl,_,rfl,rfl,_,_,rfl,_,_,rfl,rfl,?_};refine{_,rfl,tv,_,rfl,_,rfl,_,rfl,qc (λJT=>?_) (λJT=>?_)}
  ·have JT:l<h:=by lia
   have ur:=wY (w:=w) hp JT;have WN:=yz (w:=w) hp JT;have nU:=bF (dq (w:=w) hp JT);have Ip:cL ps w l h=(bG ps w (tW ps w) l h).headD ξ:=rfl;cases hb:bG ps w (tW ps w) l h with
   |nil=>exact Η hb ur
   |cons c cs =>
    rw[hb]at Ip;have Ip:cL ps w l h=c:=Ip;rw[Ip]at WN nU;rw[WN]at hf;have fin:∀(uM:List (Nat×Nat)) (jW:Option Q.B),uM=fs++vZ l c->E1.nx [ν (Q.B.val η (eG n ps)),ν (.val η (wD ps w)),ν (.val η (ff n (tW ps w))),ν (.val η (.int i)),ν (.val η (.int j)),ν (.val ζ (xm n ps)),ν (.own (dt uM)),ν (.own (.lst (xt.map zq++(parts l c h).reverse.map zq))),ν (.val ζ (.int l)),ν (.val ζ (.int h)),jW]:=λuM jW e=>by
     have ZC:yT (parts l c h).reverse<2*(h-l)+1:=by
      rw[GP];cases c with
      |none=>show 2*(h-(l+1))+1+0<_;lia
      |some k =>
       have:=hp _ nU.1;dsimp only at this;have h3:=nU.2.1;show 2*(k-(l+1))+1+(2*(h-(k+1))+1+0)<_;lia
     refine n1 (yT (xt++(parts l c h).reverse)) _ (by rw[tJ];lia) {xt++(parts l c h).reverse,uM,_,_,_,by rw[aaj],λp kJ=>?_,rfl,by rw[tJ];lia,?_}
     ·rcases Z9.mp kJ with z|z
      ·exact hw p (by simp[z])
      ·have z:=List.mem_reverse.mp z;cases c with
       |none=>rw[ZY.mp z];exact hh
       |some k =>
        have h3:=nU.2.1;rcases Z1.mp z with rfl|z
        ·show k<=n;lia
        ·rw[ZY.mp z];exact hh
     ·rw[<- hf,e,ac3,List.reverse_reverse,ac4];simp only[aa3]
    refine{_,rfl,tv,_,rfl,tv,_,rfl,tv,_,rfl,tv,_,rfl,tv,n,ps,w,tW ps w,l,h,rfl,ok,JT,hh,tv,oD c,zW (i:=0) rfl (by rw[hb];rfl),?_}
    cases c with
    |none =>
     refine{λβ=>β=[ν (Q.B.val η (eG n ps)),ν (.val η (wD ps w)),ν (.val η (ff n (tW ps w))),ν (.val η (.int i)),ν (.val η (.int j)),ν (.val ζ (xm n ps)),ν (.own (dt fs)),ν (.own (.lst (xt.map zq))),ν (.val ζ (.int l)),ν (.val ζ (.int h)),ν (.val ζ .cN)],{_,rfl,tv,_,rfl,_,rfl,gB rfl rfl},?_};rintro β rfl;exact{{_,rfl},_,rfl,tv,_,rfl,tv,_,rfl,tv,l,ξ,h,rfl,_,rfl,.inl {rfl,_,_,rfl,rfl,rfl,by rw[ZU];exact dv (show xt.length+1<=1000 by lia),fin fs _ (by simp[vZ])}}
    |some k =>
     refine{λβ=>β=[ν (Q.B.val η (eG n ps)),ν (.val η (wD ps w)),ν (.val η (ff n (tW ps w))),ν (.val η (.int i)),ν (.val η (.int j)),ν (.val ζ (xm n ps)),ν (.own (dt (fs++[(l,k)]))),ν (.own (.lst (xt.map zq))),ν (.val ζ (.int l)),ν (.val ζ (.int h)),ν (.val ζ (.int k))],{_,rfl,tv,_,rfl,_,rfl,qT rfl {{_,rfl},_,rfl,tv,_,rfl,tv,gF,tv,_,rfl,?_,?_}},?_}
     ·rw[ZU];have:=Ι List.length hf;rw[aag]at this;exact rW (by lia)
     ·unfold dt;rw[aaj];rfl
     ·rintro β rfl;exact{{_,rfl},_,rfl,tv,_,rfl,tv,_,rfl,tv,l,ν k,h,rfl,_,rfl,.inl {rfl,_,_,rfl,rfl,rfl,by rw[ZU];exact dv (show xt.length+2<=1000 by lia),fin (fs++[(l,k)]) _ rfl}}
  ·have JT:¬ l<h:=by lia
   rw[dN JT]at hf;exact n1 (yT xt) _ (by lia) {xt,fs,_,_,_,rfl,λp kJ=>hw p (by simp[kJ]),rfl,by lia,by simpa using hf}
def pj:aN ["row","i","j","table"] ["row","i","j"] (aw jF):=mkS
def gP {lZ gu}(j_:Nt K mg lZ gu){gf cX}(gg:Gg K mg gf cX){fz cE}(gD:D8 K mg fz cE){dW bT}(dY:D5 K mg dW bT){eQ b_}(f7:D4 K mg eQ b_){eT cc}(gC:D7 K mg eT cc){c7 bC}(d9:D6 K mg c7 bC){fy cD}(eU:D9 K mg fy cD){j4 fh}(oe:Km K mg j4 fh){fA cF}(f9:Cr K mg fA cF){eS cb}(fB:B_ K mg eS cb)(B:uK mg):aG P w K mg base bt 5 lZ gu ["row","i","j"] (bW P w ζ di):=by
 have Rl:aG P w K mg base bt 4 _ _ _ (bW P w ζ iw):= pR gg gD dY f7 gC d9 eU B;have Zi:aG P w K mg base bt 3 _ _ _ (bW P w ζ wB):= HA oe dY f9 d9 fB B;have Np:aG P w K mg base bt 1 _ _ _ (bW P w ζ qk):= ua eU;refine nF j_.F pj (λds R Qe=> by obtain⟨n,ps,i,j,e,_⟩ := Qe;subst e;rfl) λc_ A outer s H E hr=>⟨_,(ah (bo (ic (se ag (dC mI (ab (i:=1)) (dC mI (ab (i:=2)) (lG mI (aF af aU (ab (i:=0)) ag)))))) mH aM)
    (ah (aQ (i:=3) (ao iw.mono Rl (hr.mono (by decide)) gg.m gg.F.kp gg.b (aa (ab (i:=0)) ae)) pj.nd)
    (aj (aO (aR (aa (aF af aU (aF af aU (ab (i:=3)) (ab (i:=1))) (aC af (bq.m aY) (ab (i:=2)) (ab (i:=1)))) (aa (ao wB.mono Zi (hr.mono (by decide)) oe.m oe.F.kp oe.b (aa (ab (i:=0)) (aa (ao qk.mono Np (hr.mono (by decide)) eU.m eU.F.kp eU.b (aa (ab (i:=0)) ae)) (aa (ab (i:=3)) (aa (ab (i:=1)) (aa (ab (i:=2)) ae)))))) ae))))))),λds R h=>?_⟩
 obtain⟨n,ps,i,j,rfl,ok,h1,h2,q⟩:=h;have ej:(j:Int)-(i:Int)=((j-i:Nat):Int):=by lia
 refine{_,rfl,_,rfl,qT (Γ (by lia)) {_,rfl,_,rfl,qT (Γ (by lia)) {_,rfl,tv,_,rfl,_,rfl,_,rfl,gB (by show (!decide _)=η;rw[Γ (show (j:Int)<=(n:Int) by lia)];rfl) ?_}}}
 exact{_,rfl,tv,n,ps,rfl,ok,_,rfl,tv,_,rfl,_,nH rfl (by lia),.inr {tv,_,rfl,tv,_,rfl,_,rfl,_,nJ (l:=j-i) ej (by lia),tv,_,rfl,tv,_,rfl,tv,n,ps,rfl,ok,tv,_,rfl,tv,_,rfl,tv,_,rfl,tv,n,ps,w1,i,j,rfl,ok,h1,h2,tv,gF,tv,q}}
def tY:aN ["row"] ["row"] (aw gh):=mkS
def oF {nZ iQ}(fo:N3 K mg nZ iQ){lZ gu}(j_:Nt K mg lZ gu){gf cX}(gg:Gg K mg gf cX){fz cE}(gD:D8 K mg fz cE){dW bT}(dY:D5 K mg dW bT){eQ b_}(f7:D4 K mg eQ b_){eT cc}(gC:D7 K mg eT cc){c7 bC}(d9:D6 K mg c7 bC){fy cD}(eU:D9 K mg fy cD){j4 fh}(oe:Km K mg j4 fh){fA cF}(f9:Cr K mg fA cF){eS cb}(fB:B_ K mg eS cb)(B:uK mg):aG P w K mg base bt 6 nZ iQ ["row"] (bW P w ζ dP):=by
 have Kk:aG P w K mg base bt 5 _ _ _ (bW P w ζ di):= gP j_ gg gD dY f7 gC d9 eU oe f9 fB B;refine nF fo.F tY (λds R Qd=> by obtain⟨n,ps,e,_⟩ := Qd;subst e;rfl) λc_ A outer s H E hr=>{_,(aj (aO (ao di.mono Kk (hr.mono (by decide)) j_.m j_.F.kp j_.b (aa (ab (i:=0)) (aa ag (aa (aF af aU (ab (i:=0)) ag) ae)))))),λds R h=>?_}
 obtain⟨n,ps,rfl,ok,q⟩:=h;exact{_,rfl,tv,tv,_,rfl,tv,_,rfl,tv,n,ps,0,n,rfl,ok,aab _,ZX _,tv,q}
end
section
variable {P:Z6}{w:aam}{K:Ξ}{mg:Str->Option ZW}{base:Heap}
def fL:aN ["counts","parts","ways","low","high"] ["counts","parts"] (aw jD):=mkS
def LM {jZ fg}(rH:Kl K mg jZ fg):aG P w K mg base bt 1 jZ fg ["counts","parts"] (bW P w ζ Fs):=by
 refine nF rH.F fL (λds R Qc=> by obtain⟨n,ps,L,i,j,c,e,_⟩ := Qc;subst e;rfl) λc_ A outer s H E hr=>⟨_,(ah (aQ (i:=2) ag fL.nd)
    (ah (cG aaU rfl (aS (ab (i:=1))) (bA (n:=2) rfl (az (ai (i:=3) fL.nd) (az (ai (i:=4) fL.nd) bg))) (aj (aQ (i:=2) (aC af (bq.m t9) (ab (i:=2)) (aF af aU (aF af aU (ab (i:=0)) (ab (i:=3))) (aC af (bq.m aY) (ab (i:=4)) (ab (i:=3))))) fL.nd)))
    (aj (aO (ab (i:=2)))))),λds R h=>?_⟩
 obtain⟨n,ps,L,i,j,c,rfl,hc,ok,hn,h1,h2,h3,q⟩:=h;have hp:∀p∈ps,p.1<p.2:=λp hp=>(ok.lt p hp).1;refine{_,rfl,_,rfl,tv,?_};refine{λm β=>∃x3 x4,β=[ν (.val η (iV n L (hT ps))),ν (.val η (.lst ((parts i c j).map zq))),ν (.val ζ (.int ((((parts i c j).take m).foldl (λa p=>a*hm ps (p.2-p.1) p.1) 1:Nat):Int))),x3,x4],{_,_,rfl},?_,?_}
 ·rintro m d β hd ⟨x3,x4,rfl⟩;rw[aah]at hd;obtain⟨p,Nz,rfl⟩:=aai.mp hd;obtain⟨l,rfl⟩:∃l,j=i+l+1:={j-i-1,by lia}
  obtain⟨b1,b2,b3⟩:=t7 hp hc (aaF Nz);have hl:=h3 p.1 b1 (by lia)
  refine{_,rfl,rfl,_,_,rfl,_,_,rfl,rfl,?_};refine{_,rfl,tv,_,rfl,tv,_,rfl,_,nH rfl (by lia),.inr {tv,_,rfl,tv,_,rfl,_,rfl,_,nJ (l:=p.2-p.1) (by lia) (by lia),_,yK (DS hp ok.nd (by lia) hc Nz),_,_,by rw[AM Nz,Int.natCast_mul];rfl}}
 ·rintro β ⟨x3,x4,rfl⟩;rw[ZU,abx];exact{_,rfl,tv,q}
def xM:aN ["counts","choices","i","j"] ["counts","choices","i","j"] (aw jE):=mkS
def LN {lY gq}(uA:Nr K mg lY gq){jZ fg}(rH:Kl K mg jZ fg){eS cb}(fB:B_ K mg eS cb)(B:uK mg):aG P w K mg base bt 2 lY gq ["counts","choices","i","j"] (bW P w ζ Ft):=by
 have Zc:aG P w K mg base bt 1 _ _ _ (bW P w ζ Fs):= LM rH;have Rm:aG P w K mg base bt 1 _ _ _ (bW P w ζ iy):= pS fB;refine nF uA.F xM (λds R Qb=> by obtain⟨n,ps,L,i,j,e,_⟩ := Qb;subst e;rfl) λc_ A outer s H E hr=>{_,(aj (aO (a9 af (bU.m (BV rfl)) B.sum Nd (aa (EF ["k","counts","i","j"] [ξ,ν 0,ν 2,ν 3] (by rfl) (by decide:(["k","counts","i","j"]:List Str).Nodup) rfl (aS (ab (i:=1))) (λ_ _ _ _ _ _=>(ai (i:=0) (by decide:(["k","counts","i","j"]:List Str).Nodup))) (λ_ _ _ _ _ _=>cz) (λ_ _ _ _ _ _=>(ao Fs.mono Zc (hr.mono (by decide)) rH.m rH.F.kp rH.b (aa (ab (i:=1)) (aa (ao iy.mono Rm (hr.mono (by decide)) fB.m fB.F.kp fB.b (aa (ab (i:=2)) (aa (ab (i:=0)) (aa (ab (i:=3)) ae)))) ae))))) ae)))),λds R h=>?_}
 obtain⟨n,ps,L,i,j,rfl,ok,hn,h1,h2,h3,q⟩:=h;have hp:∀p∈ps,p.1<p.2:=λp hp=>(ok.lt p hp).1;have bl:(bG ps w1 (tW ps w1) i j).length<=41:=by
  obtain⟨l,rfl⟩:∃l,j=i+l+1:={j-i-1,by lia}
  exact aaH (md hp ok.nd) (by lia)
 refine{_,rfl,_,rfl,tv,?_};refine cJ (λ_=>ζ) (λc=>.int ((nE ps i j c:Nat):Int)) tv (dv (by lia)) (λc hc x0 o J ho j1 _=>?_) ?_
 ·cases c with
  |none=>exact{_,rfl,tv,_,rfl,tv,_,rfl,tv,_,rfl,tv,i,ξ,j,rfl,tv,n,ps,L,i,j,ξ,rfl,hc,ok,hn,h1,h2,h3,tv,ho,j1 rfl _}
  |some k=>exact{_,rfl,tv,_,rfl,tv,_,rfl,tv,_,rfl,tv,i,ν k,j,rfl,tv,n,ps,L,i,j,ν k,rfl,hc,ok,hn,h1,h2,h3,tv,ho,j1 rfl _}
 ·rw[bp];refine{tv,_,sum_ints,tv,?_};obtain⟨l,rfl⟩:∃l,j=i+l+1:={j-i-1,by lia}
  have e:((bG ps w1 (tW ps w1) i (i+l+1)).map λc=>((nE ps i (i+l+1) c:Nat):Int)).sum=hT ps (i+l+1-i) i:=by
   rw[u5,show i+l+1-i=l+1 by lia]
   show _=((hm ps (l+1) i:Nat):Int);rw[uu hp];rfl
  rw[e];exact q
def a8:aN ["row","many","partners","worth","table","counts","i","j"] ["row"] (aw dg):=mkS
def ub {n6 iR}(jv:N2 K mg n6 iR){gf cX}(gg:Gg K mg gf cX){fz cE}(gD:D8 K mg fz cE){dW bT}(dY:D5 K mg dW bT){eQ b_}(f7:D4 K mg eQ b_){eT cc}(gC:D7 K mg eT cc){c7 bC}(d9:D6 K mg c7 bC){fy cD}(eU:D9 K mg fy cD){fA cF}(f9:Cr K mg fA cF){eS cb}(fB:B_ K mg eS cb){lY gq}(uA:Nr K mg lY gq){jZ fg}(rH:Kl K mg jZ fg)(B:uK mg):aG P w K mg base bt 5 n6 iR ["row"] (bW P w ζ l4):=by
 have Nn:aG P w K mg base bt 1 _ _ _ (bW P w ζ jr):= oE dY B;have VI:aG P w K mg base bt 1 _ _ _ (bW P w ζ yC):= zG f7 B;have Zd:aG P w K mg base bt 2 _ _ _ (bW P w ζ Ft):= LN uA rH fB B;have Rn:aG P w K mg base bt 2 _ _ _ (bW P w ζ l5):= uc f9 d9 B;have Np:aG P w K mg base bt 1 _ _ _ (bW P w ζ qk):= ua eU;have Rl:aG P w K mg base bt 4 _ _ _ (bW P w ζ iw):= pR gg gD dY f7 gC d9 eU B;refine nF jv.F a8 (λds R Qa=> by obtain⟨n,ps,e,_⟩ := Qa;subst e;rfl) λc_ A outer s H E hr=>⟨_,(ah (aQ (i:=1) (aF af aU (ab (i:=0)) ag) a8.nd)
    (ah (aQ (i:=2) (ao jr.mono Nn (hr.mono (by decide)) dY.m dY.F.kp dY.b (aa (ab (i:=0)) ae)) a8.nd)
    (ah (aQ (i:=3) (ao qk.mono Np (hr.mono (by decide)) eU.m eU.F.kp eU.b (aa (ab (i:=0)) ae)) a8.nd)
    (ah (aQ (i:=4) (ao iw.mono Rl (hr.mono (by decide)) gg.m gg.F.kp gg.b (aa (ab (i:=0)) ae)) a8.nd)
    (ah (rg (i:=5) ζ ["i"] [ξ] (by rfl) (by decide:(["i"]:List Str).Nodup) rfl (λ_=>(bc B.range (aa (aC aK au (ab (i:=1)) ag) ae))) (λ_ _ _ _ _ _=>(ai (i:=0) (by decide:(["i"]:List Str).Nodup))) (λ_ _ _ _ _ _=>cz) (λ_ _ _ _ _ _=>(bS (aa ag ae))) a8.nd)
    (ah (cG aaU rfl (aS (ao yC.mono VI (hr.mono (by decide)) f7.m f7.F.kp f7.b (aa (ab (i:=1)) ae))) (bA (n:=2) rfl (az (ai (i:=6) a8.nd) (az (ai (i:=7) a8.nd) bg))) (aj (jj (i:=5) ζ (λ_=>(ao Ft.mono Zd (hr.mono (by decide)) uA.m uA.F.kp uA.b (aa (ab (i:=5)) (aa (ao l5.mono Rn (hr.mono (by decide)) f9.m f9.F.kp f9.b (aa (ab (i:=2)) (aa (ab (i:=3)) (aa (ab (i:=4)) (aa (ab (i:=6)) (aa (ab (i:=7)) ae)))))) (aa (ab (i:=6)) (aa (ab (i:=7)) ae)))))) (λ_=>(ab (i:=6))))))
    (aj (aO (aF af aU (aF af aU (ab (i:=5)) ag) (ab (i:=1))))))))))),λds R h=>?_⟩
 obtain⟨n,ps,rfl,ok,UP,q⟩:=h;have hn:=ok.le;have hp:∀p∈ps,p.1<p.2:=λp hp=>(ok.lt p hp).1;refine{_,rfl,tv,_,rfl,_,rfl,tv,n,ps,rfl,ok,_,rfl,tv,n,ps,rfl,ok,_,rfl,tv,n,ps,rfl,ok,_,rfl,tv,_,rfl,tv,(n:Int)+1,rfl,by lia,by lia,tv,?_}
 rw[show ((n:Int)+1).toNat=n+1 by lia]
 refine cJ (λ_=>ζ) (λ_=>.lst [.int 1]) tv (by rw[aaD];exact dv (by lia)) (λx hx x0 o J ho h1 _=>{tv,CS,tv,ho,h1 rfl _}) ?_
 rw[bp];refine{_,rfl,tv,n,rfl,hn,_,rfl,tv,?_};refine{λidx β=>∃L x6 x7,β=[ν (.val η (eG n ps)),ν (.val ζ (.int n)),ν (.val ζ (xm n ps)),ν (.val ζ (wD ps w1)),ν (.val ζ (ff n (tW ps w1))),ν (.own (iV n L (hT ps))),x6,x7]/\xj n idx L,{λ_=>1,_,_,rfl,nO},?_,?_}
 ·rintro idx d β hd ⟨L,x6,x7,rfl,dn⟩;rw[aah]at hd;obtain⟨p,kJ,rfl⟩:=aai.mp hd;obtain⟨a,b,ha,hb,rfl,hL,vX⟩:=qz dn kJ;have eL:iV n L (hT ps)=iV n (eZ n a b) (hT ps):=jB hL;have e0:eZ n a b (n-1-a)=b+1:=by unfold eZ;rw[ω (by lia),χ rfl]
  rw[eL];refine{_,rfl,rfl,_,_,rfl,_,_,rfl,rfl,{_,rfl},_,rfl,_,_,_,_,rfl,rfl,by rw[ZU,aaD];exact Mn rfl (show n-1-a<n+1 by lia),fu (show n-1-a<n+1 by lia),?_}
  refine{_,rfl,tv,_,rfl,tv,_,rfl,tv,_,rfl,tv,_,rfl,tv,_,rfl,tv,n,ps,w1,tW ps w1,n-1-a,n-a+b,rfl,ok,by lia,by lia,tv,_,rfl,tv,_,rfl,tv,n,ps,eZ n a b,n-1-a,n-a+b,rfl,ok,UP,by lia,by lia,λa' h1 h2=>by unfold eZ;rw[χ h1];exact ZX _,tv,rfl,?_,?_}
  ·rw[e0];unfold tP;rw[ZU,aaD];exact rW (by lia)
  ·refine{eZ n a (b+1),ν (.val ζ (.int ((n-1-a:Nat):Int))),ν (.val ζ (.int ((n-a+b:Nat):Int))),?_,.inr {a,b+1,ha,by lia,λ_ _=>rfl,vX}}
   rw[show n-a+b-(n-1-a)=b+1 by lia,e0,zb ha hb]
   rfl
 ·rintro β ⟨L,x6,x7,rfl,dn⟩;rw[ZU]at dn;have e:iV n L (hT ps)=ff n (hT ps):=jB (s9 dn);rw[e];exact{_,rfl,tv,_,nH (i:=0) rfl (aab _),.inr {tv,_,rfl,_,nJ (l:=n) rfl (by lia),tv,q}}
end
end qW
namespace L2
open PySem PySem.Spec PySem.SeqAt PyProof.Rows
namespace Q
theorem jS {α:Type}{f:α->D}(h:∀x,(f x).flat=ζ):∀l:List α,D.ck (l.map f)=ζ
 |[]=>rfl
 |x::l=>by
  show ((f x).flat&&D.ck (l.map f))=ζ;rw[h x,jS h l];rfl
end Q
end L2
namespace L2.Q
open PySem
section
variable {ps:List (Nat×Nat)}(hp:∀p∈ps,p.1<p.2)
include hp
theorem jR:∀(l i j:Nat),j-i<=l->((bw ps w1 i j).length:Int)=mX ps i j
 |0,i,j,h=>by rw[dN (by lia),oJ (by lia)];rfl
 |l+1,i,j,h=>by
  by_cases aL:i<j
  ·rw[gW hp aL];have hm:=bF (dq (w:=w1) hp aL);cases q:cL ps w1 i j with
   |none =>
    rw[q]at hm;dsimp only;rw[jR l (i+1) j (by lia)]
    unfold mX;rw[show j-(i+1)=j-i-1 by lia]
    exact hm
   |some k =>
    rw[q]at hm;obtain⟨h1,h2,h3⟩:=hm;have Io:=hp _ h1;dsimp only at Io ⊢
    rw[aaa,aag];have e1:=jR l (i+1) k (by lia)
    have e2:=jR l (k+1) j (by lia)
    unfold mX at e1 e2 ⊢
    rw[show k-(i+1)=k-i-1 by lia]at e1
    rw[show j-(k+1)=j-k-1 by lia]at e2
    rw[<- h3,<- e1,<- e2];show _=(1:Int)+_+_;lia
  ·rw[dN aL,oJ (by lia)];rfl
theorem gn {i j:Nat}:((bw ps w1 i j).length:Int)=mX ps i j:=jR hp (j-i) i j (ZX _)
end
section
variable {ps:List (Nat×Nat)}
variable (hp:∀p∈ps,p.1<p.2)
include hp
omit hp in
theorem lex_lt {a b c d:Nat}(h:a<c):HT.lexLt (tI (a,b)) (tI (c,d))=ζ:=by
 show (if (a:Int)=c then _ else decide ((a:Int)<c))=ζ
 rw[ω (by lia)]
 exact Γ (by lia)
omit hp in
theorem Mb {a b d:Nat}(h:d<b):HT.lexLt (tI (a,b)) (tI (a,d))=η:=by
 show (if (a:Int)=a then (if (b:Int)=d then HT.lexLt [] [] else decide ((b:Int)<d)) else decide ((a:Int)<a))=η
 rw[χ rfl,ω (by lia)]
 exact Δ (by lia)
end
abbrev NN:=Nat×Nat
def qO (p q:NN):Prop:=p.1<q.1/\(p.2<q.1\/q.2<p.2)
structure j5 (ps:List NN)(i j:Nat)(S:List NN):Prop where
 pw:S.Pairwise qO
 of:∀p∈S,p∈ps/\i<=p.1/\p.2<j
section
variable {ps:List NN}(hp:∀p∈ps,p.1<p.2){i j:Nat}{S A B:List NN}
def j5.nil:j5 ps i j []:={List.Pairwise.nil,λ_ z=>nomatch z}
include hp in
theorem gJ (h:¬ i<j)(s:j5 ps i j S):S=[]:=by
 cases S with
 |nil=>rfl
 |cons p S=>obtain⟨h1,h2,h3⟩:=s.of p Z7;have:=hp p h1;lia
theorem Aw {k:Nat}:∀{T:List NN},T.Pairwise qO->(∀q∈T,q.1<q.2/\(q.2<k\/k<q.1))->T=T.filter (λq=>decide (q.2<k))++T.filter (λq=>decide (k<q.1))
 |[],_,_=>rfl
 |q::T,hw,h=>by
  obtain⟨w1,w2⟩:=aaM.mp hw;obtain⟨a1,a2⟩:=h q Z7;have ih:=Aw w2 λx hx=>h x (aac _ hx);rcases a2 with a2|a2
  ·rw[aaS,aaS,χ (Γ a2),ω (by rw[decide_eq_true_eq];lia),acm,<- ih]
  ·have e1:(q::T).filter (λq=>decide (q.2<k))=[]:=by
    rw[ab0];intro x hx;rw[decide_eq_true_eq];rcases Z1.mp hx with rfl|hx
    ·lia
    ·have:=(w1 x hx).1;have:=(h x (aac _ hx)).1;lia
   have e2:(q::T).filter (λq=>decide (k<q.1))=q::T:=by
    rw[ac5];intro x hx;rw[decide_eq_true_eq];rcases Z1.mp hx with rfl|hx
    ·lia
    ·have:=(w1 x hx).1;lia
   rw[e1,e2,List.nil_append]
include hp in
theorem cu (h:i<j):j5 ps i j S↔j5 ps (i+1) j S\/∃k A B,(i,k)∈ps/\k<j/\S=(i,k)::(A++B)/\j5 ps (i+1) k A/\j5 ps (k+1) j B:=by
 constructor
 ·intro s;cases S with
  |nil=>exact .inl .nil
  |cons p T =>
   obtain⟨w1,w2⟩:=aaM.mp s.pw;obtain⟨h1,h2,h3⟩:=s.of p Z7;have ot:∀q∈T,q∈ps/\i<=q.1/\q.2<j:=λq hq=>s.of q (aac _ hq)
   by_cases e:p.1=i
   ·right
    obtain⟨a,k⟩:=p;dsimp only at e h2 h3;subst e;refine{k,T.filter (λq=>decide (q.2<k)),T.filter (λq=>decide (k<q.1)),h1,h3,?_,{w2.filter _,λq hq=>?_},{w2.filter _,λq hq=>?_}}
    ·rw[<- Aw w2 λq hq=>{hp q (ot q hq).1,(w1 q hq).2.symm}]
    ·obtain⟨g1,g2⟩:=aae.mp hq;have:=(w1 q g1).1;dsimp only at this;exact{(ot q g1).1,by lia,of_decide_eq_true g2}
    ·obtain⟨g1,g2⟩:=aae.mp hq;exact{(ot q g1).1,of_decide_eq_true g2,(ot q g1).2.2}
   ·left
    refine{s.pw,λq hq=>?_};rcases Z1.mp hq with rfl|hq
    ·exact{h1,by lia,h3}
    ·have:=(w1 q hq).1;exact{(ot q hq).1,by lia,(ot q hq).2.2}
 ·rintro (s|⟨k,A,B,h1,h2,rfl,a,b⟩)
  ·exact{s.pw,λp hp=>let ⟨a,b,c⟩:=s.of p hp;{a,by lia,c}}
  ·have hk:=hp _ h1;dsimp only at hk;refine{aaM.mpr {λq hq=>?_,acZ.mpr {a.pw,b.pw,λx hx y hy=>?_}},λq hq=>?_}
   ·rcases Z9.mp hq with z|z
    ·obtain⟨g1,g2,g3⟩:=a.of q z;exact{by dsimp only;lia,.inr g3}
    ·obtain⟨g1,g2,g3⟩:=b.of q z;exact{by dsimp only;lia,.inl g2}
   ·obtain⟨g1,g2,g3⟩:=a.of x hx;obtain⟨f1,f2,f3⟩:=b.of y hy;have:=hp x g1;exact{by lia,.inl (by lia)}
   ·rcases Z1.mp hq with rfl|hq
    ·exact{h1,ZX _,h2}
    ·rcases Z9.mp hq with z|z
     ·obtain⟨g1,g2,g3⟩:=a.of q z;exact{g1,by lia,by lia}
     ·obtain⟨g1,g2,g3⟩:=b.of q z;exact{g1,by lia,g3}
include hp in
theorem kl:∀(l i j:Nat) (S:List NN),j-i<=l->j5 ps i j S->(S.length:Int)<=mX ps i j:=by
 intro l
 induction l with
 |zero=>intro i j S hl s;rw[gJ hp (by lia) s];exact zQ hp
 |succ l ih =>
  intro i j S hl s
  by_cases h:i<j
  ·rcases (cu hp h).mp s with s|⟨k,A,B,h1,h2,rfl,a,b⟩
   ·exact Int.le_trans (ih (i+1) j S (by lia) s) (oI hp h)
   ·have hk:=hp _ h1;dsimp only at hk;have g1:=ih (i+1) k A (by lia) a
    have g2:=ih (k+1) j B (by lia) b
    have g3:=ui hp h1 h2;rw[aaa,aag];lia
  ·rw[gJ hp h s];exact zQ hp
def FC (ps:List NN):Nat->Nat->Nat->List (List NN)
 |0,_,_=>[[]]
 |f+1,i,j=>if i<j then (((jh ps i).filter λk=>decide (k<j)).flatMap λk=>(FC ps f (i+1) k).flatMap λA=>(FC ps f (k+1) j).map λB=>(i,k)::(A++B))++FC ps f (i+1) j else [[]]
include hp in
theorem fw:∀(f i j:Nat) (S:List NN),j-i<=f->(S∈FC ps f i j↔j5 ps i j S):=by
 intro f
 induction f with
 |zero=>intro i j S h;exact{λz=>by rw[ZY.mp z];exact .nil,λs=>by rw[gJ hp (by lia) s];exact ZY.mpr rfl}
 |succ f ih =>
  intro i j S h;unfold FC
  by_cases aL:i<j
  ·rw[χ aL,cu hp aL,Z9,ih (i+1) j S (by lia)]
   refine{λz=>z.elim (λz=>?_) .inl,λz=>z.elim .inr λz=>.inl ?_}
   ·obtain⟨k,hk,z⟩:=aa6.mp z;obtain⟨Ci,Cg⟩:=aae.mp hk;have Cg:=of_decide_eq_true Cg;have QF:=hp _ (bI.mp Ci);dsimp only at QF;obtain⟨A,ha,z⟩:=aa6.mp z;obtain⟨B,hb,rfl⟩:=Z2.mp z;exact .inr {k,A,B,bI.mp Ci,Cg,rfl,(ih _ _ _ (by lia)).mp ha,(ih _ _ _ (by lia)).mp hb}
   ·obtain⟨k,A,B,h1,h2,rfl,a,b⟩:=z;have QF:=hp _ h1;dsimp only at QF;exact aa6.mpr {k,aae.mpr {bI.mpr h1,Γ h2},aa6.mpr {A,(ih _ _ _ (by lia)).mpr a,Z2.mpr {B,(ih _ _ _ (by lia)).mpr b,rfl}}}
  ·rw[ω aL];exact{λz=>by rw[ZY.mp z];exact .nil,λs=>by rw[gJ hp aL s];exact ZY.mpr rfl}
end
section
variable {ps:List NN}(hp:∀p∈ps,p.1<p.2){i j:Nat}{S A B:List NN}
def IB {α:Type}{q:α->Bool}{l:List α}(h:∀x∈l,q x=ζ):l.filter q=l:=ac5.mpr h
def Fq {α:Type}{q:α->Bool}{l:List α}(h:∀x∈l,q x=η):l.filter q=[]:=ab0.mpr λx hx=>by rw[h x hx];simp
include hp in
theorem ya (nd:ps.Nodup):∀(f i j:Nat),j-i<=f->(FC ps f i j).Nodup:=by
 intro f
 induction f with
 |zero=>intro i j _;exact(acF _ _)
 |succ f ih =>
  intro i j h;unfold FC
  by_cases aL:i<j
  ·rw[χ aL,aaY];refine{?_,ih _ _ (by lia),λx hx y hy e=>?_}
   ·rw[List.nodup_iff_pairwise_ne,List.pairwise_flatMap];refine{λk hk=>?_,?_}
    ·obtain⟨Ci,Cg⟩:=aae.mp hk;have Cg:=of_decide_eq_true Cg;have QF:=hp _ (bI.mp Ci);dsimp only at QF;rw[List.pairwise_flatMap];refine{λA ha=>?_,?_}
     ·rw[aat];refine(ih (k+1) j (by lia)).imp λ{x y} ur e=>ur ?_
      injection e with _ e
      exact List.append_cancel_left e
     ·refine(ih (i+1) k (by lia)).imp_of_mem λ{x y} hx hy ur u hu v hv e=>ur ?_
      obtain⟨b,hb,rfl⟩:=Z2.mp hu;obtain⟨c,hc,rfl⟩:=Z2.mp hv;injection e with _ e
      have sx:=(fw hp _ _ _ _ (by lia)).mp hx
      have sy:=(fw hp _ _ _ _ (by lia)).mp hy
      have sb:=(fw hp _ _ _ _ (by lia)).mp hb
      have sc:=(fw hp _ _ _ _ (by lia)).mp hc
      have e2:=Ι (List.filter λq:NN=>decide (q.2<k)) e;have lo:∀{T:List NN} {a:Nat},j5 ps a k T->T.filter (λq:NN=>decide (q.2<k))=T:=λs=>IB λq hq=>Γ (s.of q hq).2.2;have hi:∀{T:List NN},j5 ps (k+1) j T->T.filter (λq:NN=>decide (q.2<k))=[]:=λs=>Fq λq hq=>Δ (by have:=s.of q hq;have:=hp q this.1;lia)
      rw[abu,abu,lo sx,lo sy,hi sb,hi sc,aa9,aa9]at e2;exact e2
    ·refine((Dz nd).filter _).imp λ{a b} ur x hx y hy e=>ur ?_;obtain⟨A,_,hx⟩:=aa6.mp hx;obtain⟨A',_,hy⟩:=aa6.mp hy;obtain⟨B,_,rfl⟩:=Z2.mp hx;obtain⟨B',_,rfl⟩:=Z2.mp hy;injection e with e _
     exact(Prod.mk.inj e).2
   ·subst e;have s:=(fw hp _ _ _ _ (by lia)).mp hy
    obtain⟨k,_,hx⟩:=aa6.mp hx;obtain⟨A,_,hx⟩:=aa6.mp hx;obtain⟨B,_,rfl⟩:=Z2.mp hx;have:=(s.of _ Z7).2.1;dsimp only at this;lia
  ·rw[ω aL];exact(acF _ _)
def gY (m:Int)(L:List (List NN)):Nat:=(L.filter λS=>decide ((S.length:Int)=m)).length
theorem qH {m:Int}{L L':List (List NN)}:gY m (L++L')=gY m L+gY m L':=by unfold gY;rw[abu,aag]
theorem m9 {m:Int}{L:List (List NN)}(h:∀S∈L,(S.length:Int)≠m):gY m L=0:=by unfold gY;rw[Fq λS hS=>Δ (h S hS)];rfl
theorem tf {α:Type}{m:Int}{f:α->List (List NN)}:∀{l:List α},gY m (l.flatMap f)=(l.map λa=>gY m (f a)).sum
 |[]=>rfl
 |a::l=>by rw[acO,qH,tf,aap,acv]
theorem FY {m m':Int}{f:List NN->List NN}{L:List (List NN)}(h:∀S∈L,((f S).length:Int)=m↔(S.length:Int)=m'):gY m (L.map f)=gY m' L:=by
 unfold gY;rw[List.filter_map,ZU]
 congr 1
 exact List.filter_congr λS hS=>by simp only[Function.comp];exact decide_eq_decide.mpr (h S hS)
theorem wU {x y m:Int}{f:List NN->List NN->List NN}(hf:∀A B,(f A B).length=1+A.length+B.length)(hm:1+x+y<=m){Y:List (List NN)}(hy:∀B∈Y,(B.length:Int)<=y):
  ∀{X:List (List NN)},(∀A∈X,(A.length:Int)<=x)->gY m (X.flatMap λA=>Y.map (f A))=if 1+x+y=m then gY x X*gY y Y else 0
 |[],_=>by rw[show gY x []=0 from rfl,Nat.zero_mul];split <;> rfl
 |A::X,hx=>by
  have ih:=wU hf hm hy (X:=X) λB hB=>hx B (aac _ hB);have ha:=hx A Z7;rw[acO,qH,ih];have e1:gY x (A::X)=(if (A.length:Int)=x then 1 else 0)+gY x X:=by
   unfold gY;rw[aaS]
   by_cases q:(A.length:Int)=x
   ·rw[χ (Γ q),χ q,aaa,Nat.add_comm]
   ·rw[ω (by rw[decide_eq_true_eq];exact q),ω q,abj]
  rw[e1]
  by_cases QB:1+x+y=m
  ·rw[χ QB,χ QB]
   by_cases q:(A.length:Int)=x
   ·rw[χ q,Nat.add_mul,ads,FY (m':=y) λB hB=>by rw[hf];lia]
   ·rw[ω q,abj,m9 λS hS=>?_,abj];obtain⟨B,hB,rfl⟩:=Z2.mp hS;have:=hy B hB;rw[hf];lia
  ·rw[ω QB,ω QB,Nat.add_zero];refine m9 λS hS=>?_;obtain⟨B,hB,rfl⟩:=Z2.mp hS;have:=hy B hB;rw[hf];lia
end
open Jh
section
variable {ps:List NN}(hp:∀p∈ps,p.1<p.2){i j:Nat}{S A B:List NN}
theorem oq {α:Type}{q:α->Bool}{f:α->Nat}:∀{l:List α},((l.filter q).map f).sum=(l.map λx=>if q x=ζ then f x else 0).sum
 |[]=>rfl
 |a::l=>by
  rw[aaS,aap,acv]
  by_cases h:q a=ζ
  ·rw[χ h,χ h,aap,acv,oq]
  ·rw[ω h,ω h,oq,abj]
include hp in
theorem Q3 (nd:ps.Nodup):∀(f i l:Nat),l<=f->gY (mX ps i (i+l)) (FC ps f i (i+l))=hm ps l i:=by
 intro f
 induction f with
 |zero=>intro i l h;rw[show l=0 by lia,oJ (by lia)];rfl
 |succ f ih =>
  intro i l h;cases l with
  |zero=>rw[oJ (by lia)];unfold FC;rw[ω (by lia)];rfl
  |succ l =>
   have aL:i<i+(l+1):=by lia
   unfold FC;rw[χ aL,uu hp,qH,tf];unfold bG;rw[aaj,List.sum_append,aaK];have ej:i+(l+1)=i+l+1:=rfl;rw[ej]at aL ⊢
   have eX:∀a b:Nat,a<=b->tW ps w1 (b-a) a=mX ps a b:=λa b _=>rfl
   congr 1
   ·rw[oq,oq]
    congr 1
    refine aaN λk hk=>?_;have h3:=hp _ (bI.mp hk);dsimp only at h3
    by_cases h2:k<i+l+1
    ·have h4:=ui hp (bI.mp hk) h2;rw[χ (Γ h2),wU (x:=mX ps (i+1) k) (y:=mX ps (k+1) (i+l+1)) (f:=λA B=>(i,k)::(A++B)) (λA B=>by rw[aaa,aag];lia) (by lia) (λB hB=>kl hp _ _ _ _ (ZX _) ((fw hp _ _ _ _ (by lia)).mp hB)) (λA hA=>kl hp _ _ _ _ (ZX _) ((fw hp _ _ _ _ (by lia)).mp hA))]
     have i1:=ih (i+1) (k-(i+1)) (by lia)
     have i2:=ih (k+1) (i+l+1-(k+1)) (by lia)
     rw[show i+1+(k-(i+1))=k by lia]at i1
     rw[show k+1+(i+l+1-(k+1))=i+l+1 by lia]at i2
     rw[i1,i2];have e1:w1 (i,k)+tW ps w1 (k-i-1) (i+1)+tW ps w1 (i+l+1-k-1) (k+1)=1+mX ps (i+1) k+mX ps (k+1) (i+l+1):=by
      unfold mX w1;rw[show k-i-1=k-(i+1) by lia,show i+l+1-k-1=i+l+1-(k+1) by lia]
     have e2:tW ps w1 (i+l+1-i) i=mX ps i (i+l+1):=rfl;rw[e1,e2,Γ h2,Bool.true_and];simp only[decide_eq_true_eq,Function.comp];have e3:=pE (ps:=ps) (i:=i) (j:=i+l+1) (k:=k);unfold nE at e3;rw[e3]
    ·rw[ω (by rw[decide_eq_true_eq];exact h2),Δ h2,Bool.false_and,ω (by simp)]
   ·have e1:tW ps w1 (i+l+1-i-1) (i+1)=mX ps (i+1) (i+l+1):=by unfold mX;rw[show i+l+1-i-1=i+l+1-(i+1) by lia]
    have e2:tW ps w1 (i+l+1-i) i=mX ps i (i+l+1):=rfl;rw[e1,e2];have i1:=ih (i+1) l (by lia)
    rw[show i+1+l=i+l+1 by lia]at i1
    by_cases e:mX ps (i+1) (i+l+1)=mX ps i (i+l+1)
    ·have e3:=pF (ps:=ps) (i:=i) (j:=i+l+1);unfold nE at e3;rw[χ e,List.map_singleton,List.sum_singleton,e3,<- e,i1,show i+l+1-(i+1)=l by lia]
    ·rw[ω e];refine m9 λS hS=>?_;have:=kl hp _ _ _ _ (ZX _) ((fw hp _ _ _ _ (by lia)).mp hS)
     have:=oI hp aL;lia
include hp in
theorem Aa:∀(l i j:Nat),j-i<=l->j5 ps i j (bw ps w1 i j):=by
 intro l
 induction l with
 |zero=>intro i j h;rw[dN (by lia)];exact .nil
 |succ l ih =>
  intro i j h
  by_cases aL:i<j
  ·rw[gW hp aL];have hm:=bF (dq (w:=w1) hp aL);cases hc:cL ps w1 i j with
   |none=>exact(cu hp aL).mpr (.inl (ih _ _ (by lia)))
   |some k =>
    rw[hc]at hm;obtain⟨h1,h2,_⟩:=hm;have h3:=hp _ h1;dsimp only at h3;exact(cu hp aL).mpr (.inr {k,_,_,h1,h2,rfl,ih _ _ (by lia),ih _ _ (by lia)})
  ·rw[dN aL];exact .nil
theorem uk:∀{a b c d:List (List Int)},a.length=c.length->vL (a++b) (c++d)=if a=c then vL b d else vL a c
 |[],b,[],d,_=>by rw[χ rfl];rfl
 |x::a,b,y::c,d,h=>by
  rw[acm,acm,eP,uk (by simpa using h),eP]
  by_cases e:x=y
  ·subst e;rw[χ rfl,χ rfl]
   by_cases e2:a=c
   ·subst e2;rw[χ rfl,χ rfl]
   ·rw[ω e2,ω (λz=>e2 (List.cons.inj z).2)]
  ·rw[ω e,ω e,ω λz=>e (List.cons.inj z).1]
end
section
variable {ps:List NN}(hp:∀p∈ps,p.1<p.2)(hs:ps.Pairwise λp q=>p.1<q.1\/(p.1=q.1/\p.2<q.2))
include hs in
theorem Lp {i:Nat}:(jh ps i).Pairwise (· < ·):=by
 unfold jh;rw[aat];refine(hs.filter _).imp_of_mem λ{a b} ha hb h=>?_;have h1:=of_decide_eq_true (aae.mp ha).2;have h2:=of_decide_eq_true (aae.mp hb).2;lia
include hs in
theorem Fp {i j k:Nat}(h1:(i,k)∈ps)(Io:i<k)(h2:k<j)(h3:1+mX ps (i+1) k+mX ps (k+1) j=mX ps i j):∃k0,cL ps w1 i j=ν k0/\k0<=k:=by
 have hm:k∈(jh ps i).filter λk=>decide (k<j)&&decide (w1 (i,k)+tW ps w1 (k-i-1) (i+1)+tW ps w1 (j-k-1) (k+1)=tW ps w1 (j-i) i):=by
  refine aae.mpr {bI.mpr h1,?_};rw[Γ h2,Bool.true_and,decide_eq_true_eq];rw[show k-i-1=k-(i+1) by lia,show j-k-1=j-(k+1) by lia]
  exact h3
 have JR:=(Lp hs (i:=i)).filter λk=>decide (k<j)&&decide (w1 (i,k)+tW ps w1 (k-i-1) (i+1)+tW ps w1 (j-k-1) (k+1)=tW ps w1 (j-i) i);have eb:bG ps w1 (tW ps w1) i j=((jh ps i).filter λk=>decide (k<j)&&decide (w1 (i,k)+tW ps w1 (k-i-1) (i+1)+tW ps w1 (j-k-1) (k+1)=tW ps w1 (j-i) i)).map ν++(if tW ps w1 (j-i-1) (i+1)=tW ps w1 (j-i) i then [ξ] else []):=rfl
 generalize (jh ps i).filter (λk=>decide (k<j)&&decide (w1 (i,k)+tW ps w1 (k-i-1) (i+1)+tW ps w1 (j-k-1) (k+1)=tW ps w1 (j-i) i))=l at hm JR eb;unfold cL;rw[eb];cases l with
 |nil=>cases hm
 |cons k0 r =>
  refine{k0,rfl,?_};rcases Z1.mp hm with z|z
  ·lia
  ·have:=(aaM.mp JR).1 k z;lia
include hp hs in
theorem BE:∀(l i j:Nat) (S:List NN),j-i<=l->j5 ps i j S->(S.length:Int)=mX ps i j->vL (S.map tI) ((bw ps w1 i j).map tI)=η:=by
 intro l
 induction l with
 |zero=>intro i j S h s _;rw[gJ hp (by lia) s,dN (by lia)];rfl
 |succ l ih =>
  intro i j S h s hS
  by_cases aL:i<j
  ·rw[gW hp aL];rcases (cu hp aL).mp s with s1|⟨k,A,B,h1,h2,rfl,sa,sb⟩
   ·have b1:=kl hp _ _ _ _ (ZX _) s1;have b2:=oI hp aL;cases hc:cL ps w1 i j with
    |none=>exact ih _ _ _ (by lia) s1 (by lia)
    |some k =>
     have hm:=bF (dq (w:=w1) hp aL);rw[hc]at hm;obtain⟨g1,g2,g3⟩:=hm;cases S with
     |nil =>
      have:=ui hp g1 g2;have:=zQ hp (i:=i+1) (j:=k);have:=zQ hp (i:=k+1) (j:=j);rw[acD]at hS;lia
     |cons q T =>
      have hq:=(s1.of q Z7).2.1;show vL (tI q::T.map tI) (tI (i,k)::_)=η;rw[eP,ω λz=>by have:=Ι Prod.fst (fI z);dsimp only at this;lia]
      show (if (q.1:Int)=(i:Int) then _ else decide ((q.1:Int)<(i:Int)))=η
      rw[ω (by lia)]
      exact Δ (by lia)
   ·have Io:=hp _ h1;dsimp only at Io;have b1:=kl hp _ _ _ _ (ZX _) sa;have b2:=kl hp _ _ _ _ (ZX _) sb;have b3:=ui hp h1 h2;rw[aaa,aag]at hS;obtain⟨k0,e0,z7⟩:=Fp hs h1 Io h2 (by lia)
    rw[e0]
    by_cases e:k0=k
    ·subst e;show vL (tI (i,k0)::(A++B).map tI) (tI (i,k0)::(bw ps w1 (i+1) k0++bw ps w1 (k0+1) j).map tI)=η;rw[eP,χ rfl,aaj,aaj,uk (by
      have:=gn hp (i:=i+1) (j:=k0);rw[ZU,ZU];lia)]
     split
     ·exact ih _ _ _ (by lia) sb (by lia)
     ·exact ih _ _ _ (by lia) sa (by lia)
    ·show vL (tI (i,k)::(A++B).map tI) (tI (i,k0)::_)=η;rw[eP,ω λz=>e (Ι Prod.snd (fI z)).symm];exact Mb (by lia)
  ·rw[gJ hp aL s,dN aL];rfl
end
abbrev BC (ps:List NN)(i j:Nat):List (Option Nat):=bG ps w1 (tW ps w1) i j
def iH (ps:List NN)(i j:Nat)(S:List NN):Prop:=j5 ps i j S/\(S.length:Int)=mX ps i j
def rT (p:Nat)(S:List NN):Prop:=∃t∈S,t.1=p\/t.2=p
section
variable {ps:List NN}{i j n p k:Nat}{S A B:List NN}
def Ax:ξ∈BC ps i j↔mX ps (i+1) j=mX ps i j:=by
 unfold BC bG mX;rw[Z9,Nat.sub_sub];constructor
 ·intro h;rcases h with h|h
  ·obtain⟨k,_,e⟩:=Z2.mp h;cases e
  ·by_cases e:tW ps w1 (j-(i+1)) (i+1)=tW ps w1 (j-i) i
   ·exact e
   ·rw[ω e]at h;cases h
 ·intro e;rw[χ e];exact .inr (ZY.mpr rfl)
def me:ν k∈BC ps i j↔(i,k)∈ps/\k<j/\1+mX ps (i+1) k+mX ps (k+1) j=mX ps i j:=by
 have e0:∀k,(w1 (i,k)+tW ps w1 (k-i-1) (i+1)+tW ps w1 (j-k-1) (k+1)=tW ps w1 (j-i) i)↔1+mX ps (i+1) k+mX ps (k+1) j=mX ps i j:=λk=>by
  unfold mX;rw[Nat.sub_sub,Nat.sub_sub];exact Iff.rfl
 unfold BC bG;rw[Z9];constructor
 ·intro h;rcases h with h|h
  ·obtain⟨k',hk,e⟩:=Z2.mp h;cases e;obtain⟨h1,h2⟩:=aae.mp hk;obtain⟨h3,h4⟩:=ac0.mp h2;exact{bI.mp h1,of_decide_eq_true h3,(e0 k).mp (of_decide_eq_true h4)}
  ·split at h
   ·cases ZY.mp h
   ·cases h
 ·intro h;obtain⟨h1,h2,h3⟩:=h;exact .inl (Z2.mpr {k,aae.mpr {bI.mpr h1,ac0.mpr {Γ h2,Γ ((e0 k).mpr h3)}},rfl})
variable (hp:∀p∈ps,p.1<p.2)
include hp
theorem bH (s:j5 ps i j S):(S.length:Int)<=mX ps i j:=kl hp (j-i) i j S (ZX _) s
theorem b8:∃S,iH ps i j S:={bw ps w1 i j,Aa hp _ _ _ (ZX _),gn hp}
theorem fD (h:i<j):iH ps i j S↔(ξ∈BC ps i j/\iH ps (i+1) j S)\/∃k A B,ν k∈BC ps i j/\S=(i,k)::(A++B)/\iH ps (i+1) k A/\iH ps (k+1) j B:=by
 constructor
 ·intro m;obtain⟨s,e⟩:=m;rcases (cu hp h).mp s with s1|⟨k,A,B,h1,h2,rfl,sA,sB⟩
  ·have l1:=bH hp s1;obtain⟨S0,s0,e0⟩:=b8 (i:=i+1) (j:=j) hp;have l2:=bH hp ((cu hp h).mpr (.inl s0));exact .inl {Ax.mpr (by lia),s1,by lia}
  ·have lA:=bH hp sA;have lB:=bH hp sB;obtain⟨A0,a0,ea⟩:=b8 (i:=i+1) (j:=k) hp;obtain⟨B0,b0,eb⟩:=b8 (i:=k+1) (j:=j) hp;have l2:=bH hp ((cu hp h).mpr (.inr {(k),A0,B0,h1,h2,rfl,a0,b0}));simp only[aaa,aag]at e l2;exact .inr {k,A,B,me.mpr {h1,h2,by lia},rfl,{sA,by lia},{sB,by lia}}
 ·intro m;rcases m with⟨h1,s,e⟩|⟨k,A,B,h1,rfl,⟨sA,eA⟩,sB,eB⟩
  ·exact{(cu hp h).mpr (.inl s),by rw[e];exact Ax.mp h1}
  ·obtain⟨h1,h2,h3⟩:=me.mp h1;refine{(cu hp h).mpr (.inr {(k),A,B,h1,h2,rfl,sA,sB}),?_};simp only[aaa,aag];lia
theorem jA (s:j5 ps i j S)(t:rT p S):i<=p/\p<j:=by
 obtain⟨q,hq,e⟩:=t;obtain⟨h1,h2,h3⟩:=s.of q hq;have:=hp q h1;lia
omit hp
theorem eJ:rT p ((i,k)::(A++B))↔p=i\/p=k\/rT p A\/rT p B:=by
 constructor
 ·intro h;obtain⟨q,hq,e⟩:=h;rcases Z1.mp hq with rfl|hq
  ·exact e.elim (λe=>.inl e.symm) λe=>.inr (.inl e.symm)
  ·rcases Z9.mp hq with hq|hq
   ·exact .inr (.inr (.inl {(q),hq,e}))
   ·exact .inr (.inr (.inr {(q),hq,e}))
 ·intro h;rcases h with h|h|⟨q,hq,e⟩|⟨q,hq,e⟩
  ·exact{_,Z7,.inl h.symm}
  ·exact{_,Z7,.inr h.symm}
  ·exact{q,aac _ (aaP _ hq),e}
  ·exact{q,aac _ (aaB _ hq),e}
inductive xa (ps:List NN)(n:Nat):Nat->Nat->Prop
 |start:xa ps n 0 n
 |step {i j a b:Nat} {c:Option Nat} (r:xa ps n i j) (h:i<j) (hc:c∈BC ps i j) (hq:(a,b)∈parts i c j):xa ps n a b
include hp
theorem zg (r:xa ps n i j):∀S',iH ps i j S'->∃S,iH ps 0 n S/\∀p,i<=p->p<j->(rT p S↔rT p S'):=by
 induction r with
 |start=>exact λS' m=>{S',m,λ_ _ _=>Iff.rfl}
 |step r h hc hq ih =>
  rename_i i j a b c
  intro S' m;cases c with
  |none =>
   have e:(a,b)=(i+1,j):=ZY.mp hq;cases e;obtain⟨S,mS,k⟩:=ih S' ((fD hp h).mpr (.inl {(hc),m}));exact{S,mS,λp h1 h2=>k p (by lia) h2}
  |some c =>
   have hq:(a,b)∈[(i+1,c),(c+1,j)]:=hq;have QN:=me.mp hc;have U0:=hp _ QN.1;dsimp only at U0;rcases Z1.mp hq with e|hq
   ·cases e;obtain⟨B,mB⟩:=b8 (i:=b+1) (j:=j) hp;obtain⟨S,mS,k⟩:=ih _ ((fD hp h).mpr (.inr {(b),S',B,hc,rfl,m,mB}));refine{S,mS,λp h1 h2=>(k p (by lia) (by lia)).trans (eJ.trans {λz=>?_,λz=>.inr (.inr (.inl z))})}
    rcases z with z|z|z|z
    ·lia
    ·lia
    ·exact z
    ·have:=jA hp mB.1 z;lia
   ·have e:=ZY.mp hq;cases e;obtain⟨A,mA⟩:=b8 (i:=i+1) (j:=c) hp;obtain⟨S,mS,k⟩:=ih _ ((fD hp h).mpr (.inr {(c),A,S',hc,rfl,mA,m}));refine{S,mS,λp h1 h2=>(k p (by lia) (by lia)).trans (eJ.trans {λz=>?_,λz=>.inr (.inr (.inr z))})}
    rcases z with z|z|z|z
    ·lia
    ·lia
    ·have:=jA hp mA.1 z;lia
    ·exact z
omit hp
def Jl (ps:List NN)(n p:Nat):Prop:=∃j,xa ps n p j/\p<j/\ξ∈BC ps p j
def Jg (ps:List NN)(n p:Nat):Prop:=∃i j k,xa ps n i j/\i<j/\ν k∈BC ps i j/\(p=i\/p=k)
include hp
theorem zh:∀(l i j:Nat),j-i<=l->xa ps n i j->∀S,iH ps i j S->∀p,i<=p->p<j->(¬ rT p S->Jl ps n p)/\(rT p S->Jg ps n p):=by
 intro l
 induction l with
 |zero=>intro i j h r S m p h1 h2;lia
 |succ l ih =>
  intro i j h r S m p h1 h2;have aL:i<j:=by lia
  rcases (fD hp aL).mp m with⟨hc,m1⟩|⟨k,A,B,hc,rfl,mA,mB⟩
  ·by_cases e:p=i
   ·subst e;exact{λ_=>{(j),r,aL,hc},λz=>by have:=jA hp m1.1 z;lia}
   ·exact ih (i+1) j (by lia) (.step r aL hc (ZY.mpr rfl)) S m1 p (by lia) h2
  ·have QN:=me.mp hc;have Io:=hp _ QN.1;dsimp only at Io;have rA:xa ps n (i+1) k:=.step r aL hc Z7;have rB:xa ps n (k+1) j:=.step r aL hc (aac _ Z7)
   by_cases e:p=i\/p=k
   ·exact{λz=>Η (eJ.mpr (e.elim .inl λe=>.inr (.inl e))) z,λ_=>{(i),j,k,r,aL,hc,e}}
   ·by_cases e2:p<k
    ·have q:=ih (i+1) k (by lia) rA A mA p (by lia) e2
     refine{λz=>q.1 λz'=>z (eJ.mpr (.inr (.inr (.inl z')))),λz=>q.2 ?_};rcases eJ.mp z with z|z|z|z
     ·lia
     ·lia
     ·exact z
     ·have:=jA hp mB.1 z;lia
    ·have q:=ih (k+1) j (by lia) rB B mB p (by lia) h2
     refine{λz=>q.1 λz'=>z (eJ.mpr (.inr (.inr (.inr z')))),λz=>q.2 ?_};rcases eJ.mp z with z|z|z|z
     ·lia
     ·lia
     ·have:=jA hp mA.1 z;lia
     ·exact z
theorem lW (h:p<n):Jl ps n p↔∃S,iH ps 0 n S/\¬ rT p S:=by
 constructor
 ·intro f;obtain⟨j,r,hj,hc⟩:=f;obtain⟨S',m⟩:=b8 (i:=p+1) (j:=j) hp;obtain⟨S,mS,k⟩:=zg hp r S' ((fD hp hj).mpr (.inl {(hc),m}));exact{S,mS,λz=>by have:=jA hp m.1 ((k p (ZX _) hj).mp z);lia}
 ·intro f;obtain⟨S,m,z⟩:=f;exact(zh hp n 0 n (by lia) .start S m p (aab _) h).1 z
theorem lh (h:p<n):Jg ps n p↔∃S,iH ps 0 n S/\rT p S:=by
 constructor
 ·intro f;obtain⟨i,j,c,r,aL,hc,e⟩:=f;have QN:=me.mp hc;have U0:=hp _ QN.1;dsimp only at U0;obtain⟨A,mA⟩:=b8 (i:=i+1) (j:=c) hp;obtain⟨B,mB⟩:=b8 (i:=c+1) (j:=j) hp;obtain⟨S,mS,k⟩:=zg hp r _ ((fD hp aL).mpr (.inr {(c),A,B,hc,rfl,mA,mB}));exact{S,mS,(k p (by lia) (by lia)).mpr (eJ.mpr (e.elim .inl λe=>.inr (.inl e)))}
 ·intro f;obtain⟨S,m,z⟩:=f;exact(zh hp n 0 n (by lia) .start S m p (aab _) h).2 z
end
end L2.Q
namespace ST
open PySem PyProof.Rows
section
variable {prog:Z6}{w:aam}{A:aaX}{E:ZW->ZZ->Prop}{s:ZZ}
def BS {Q:ZW->ZZ->Prop}(q:Q (.ref s.heap.objs.size) {s with heap:=s.heap.push (gS w)}):aau (Ψ prog w) A (call (.type "set") []) Q E s:=by
 obtain⟨cx,Xj,TJ⟩:=F.called_set.mro;have O5:=F.called_set.made;have SV:=F.called_set.sub;refine wpAny_call (codeAny_of_tree ?_);show aau _ _ (callAny (.type "set") _) _ _ _;refine Z0 {Code.quiet_builtin _ (by decide +kernel),ac1 F.entry_type_call ?_}
 rw[Around.under_plain (weight_type_call_type "set" [] []) rfl];have t1:=F.called_set.notType;have t2:=F.called_set.canCreate;have t3:=F.typeCall_set_0
 repeat (any_goals (first|assumption|wp_step))
 refine abW (vJ (w:=w) (E:=E) (xs:=[]) (R:=λob sx=>ob=.ref s.heap.objs.size/\sx={s with heap:=s.heap.push (gS w)}) F.newCall_set_0 (.inl rfl) {(rfl),rfl}) λr sx hr=>?_
 cases r with
 |error e=>exact hr
 |ok fl =>
  cases fl with
  |ret ob =>
   obtain⟨rfl,rfl⟩:=hr;have hT:Shared.TypeIs {s with heap:=s.heap.push (gS w)} (.ref s.heap.objs.size) "set" := {_,aay _ rfl,rfl}
   have i1:=F.called_set.init.lookup;have i2:=F.called_set.init.bind (.ref s.heap.objs.size)
   repeat (any_goals (first|assumption|wp_step))
   refine abW (codeAny_call_builtin (R:=wants (λr s2=>r=.none/\Q (.ref s.heap.objs.size) s2) E) F.called_set.init.plain F.entry_set_init (check_set_init hT ?_)) λr2 s2 qd=>?_
   ·unfold ab1.«set.__init__» noKeywords
    wp_walk
    exact{(rfl),q}
   ·cases r2 with
    |error e=>exact qd
    |ok Vi =>
     cases Vi with
     |ret r =>
      obtain⟨rfl,hq⟩:=qd
      repeat (any_goals (first|assumption|wp_step))
     |_=>exact qd.elim
  |_=>exact hr.elim
end
end ST
namespace L2
open PySem PySem.Spec PySem.SeqAt PyProof.Rows
def iG (k:List Int)(ts:List (List Int)):List (List Int):=if k∈ts then ts else k::ts
def c6 {k t:List Int}{ts:List (List Int)}:t∈iG k ts↔t=k\/t∈ts:=by
 unfold iG
 split
 ·rename_i h
  exact{.inr,λz=>z.elim (λz=>z▸h) id}
 ·exact Z1
def kQ {k:List Int}{ts:List (List Int)}(h:ts.Nodup):(iG k ts).Nodup:=by
 unfold iG
 split
 ·exact h
 ·exact aaA.mpr {by assumption,h}
def B6 {k:List Int}{ts us:List (List Int)}(h:ts.Perm us):(iG k ts).Perm (iG k us):=by
 unfold iG
 by_cases z:k∈ts
 ·rw[χ z,χ (h.mem_iff.mp z)];exact h
 ·rw[ω z,ω λz'=>z (h.mem_iff.mpr z')];exact h.cons k
section
variable {X:Cx}{o e:Expr}{es:List Expr}{to:TE}{t:TA}{T id:String}{name:Str}{r:V->List V->Hp->VK->Prop}{apos cpos:Pos}
def Ly (pa:PlainAttrs T)(slot:Slot T name id)(Pr:typeOf (.builtin id)=pure (.type "method_descriptor"))(hm:Sl X id r)(ho:PE X o to)(ha:PA X (e::es) t)
  (fX:ab6 o name X.env (eval o X.env)=eval o X.env:=by rfl)
  (qg:((abK cpos (aao (e::es) X.env)).all (λx=>!x.1)&&(backToKw cpos (ado [] X.env)).all (λx=>x.1.isSome)&&decide ((e::es).length+([]:List acX).length+(if ([]:List acX).isEmpty then 0 else 1)<30))=ζ:=by rfl)
  (fW:(apos.endLine==cpos.line)=ζ:=by rfl) (hs:aao (e::es) X.env=(η,eval e X.env)::aao es X.env:=by rfl) (fV:(abK cpos (aao es X.env)).any (·.1)=η:=by rfl) :
  PE X (.Call (.Attribute o name apos) (e::es) [] cpos) (λσ H Q=>to σ H λx H1=>(∀μ s v,Inv X μ σ H1 s->RelV x v->s.TypeIs v T/\∀a,v=.ref a->∃ob,s.heap.get? a=ν ob/\ob.dict=ξ)/\t σ H1 λxs H2=>r x xs H2 Q):=by
 intro μ s σ H Q I h;refine wpAny_Call_method_late fX qg fW rfl (bQ (ho μ s σ H _ I h) λv s1 hx=>?_);obtain⟨x,H1,I1,r1,ty,q1⟩:=hx;obtain⟨h1,h2⟩:=ty _ _ _ I1 r1;refine{T,id,pa,slot,Pr,h1,h2,?_};have hA:=ha cpos μ s1 σ H1 _ I1 q1;rw[hs]at hA ⊢
 refine Calls.callWith_builtin (by show (η || (abK cpos (aao es X.env)).any (·.1))=η;rw[fV] <;> rfl) (Calls.evalArgs_plain (bQ hA λus s2 hx=>?_))
 obtain⟨vs,H2,I2,r2,q2⟩:=hx;exact hm μ s2 σ H2 x vs v us Q I2 r1 r2 q2
end
section
variable {X:Cx}
def yO:f_ X (.type "set") (λxs H Q=>xs=[]/\∀a,H a=ξ->Q (.ref a) (upd H a (kR X.prog X.w a []))):=by
 intro μ s σ H xs us Q I r h;obtain⟨rfl,q⟩:=h;cases r;have hS:(s.heap.push (ST.gS X.w)).get? s.heap.objs.size=ν (ST.gS X.w):=aay _ rfl;refine ST.BS (w:=X.w) {.ref s.heap.objs.size,_,I.laid (t':=s.toks) (o:=kR X.prog X.w s.heap.objs.size []) (λ_ _ q=>Z3 _ q) (ZX _) ?_,rfl,q _ (I.b9.fresh (ZX _))};exact{{_,_,_,_,hS,ST.zK _ _},{_,hS},λh1 h2 rm k=>by obtain⟨o1,e1,II,t1,g1,g2⟩:=rm;exact{o1,e1,II,t1,k _ g1,g2}}
def Dq (X:Cx):V->List V->Hp->VK->Prop:=λx xs H Q=>∃a ts t key,x=.ref a/\xs=[.ref t]/\H a=ν (kR X.prog X.w a ts)/\H t=ν (.tup (key.map V.int))/\(∀x∈ts,H x.1=ν (.tup (x.2.map V.int)))/\ts.length<1000 /\
 ∀bB,(∀x∈bB,x∈ts\/x=(t,key))->(bB.map (·.2)).Perm (iG key (ts.map (·.2)))->Q .cN (upd H a (kR X.prog X.w a bB))
def sD (hu:X.A.units+16<abQ):Sl X "set.add" (Dq X):=by
 intro μ s σ H x xs v us Q I rx rs h;obtain⟨a,ts,t,key,rfl,rfl,hH,ht,i5,hn,q⟩:=h;cases rx;obtain⟨u,rfl,ru⟩:=vals1 rs;cases ru;obtain⟨⟨o,es,ep,tb,ho,S⟩,_,_⟩:=(show cn X.prog X.w H s.heap a (kR X.prog X.w a ts) from I.b9 a _ hH)
 have T:=oZ I.b9 i5;have E_:(ST.TK X.prog X.w).is s.heap key t:=(oZ (ts:=[(t,key)]) I.b9 λx hx=>by rw[ZY.mp hx];exact ht) (t,key) (ZY.mpr rfl)
 refine abv PySem.F.slot_set_add (ST.gL ho S) PySem.F.entry_set_add ?_ (PySem.F.args_set_add_2 _ _);unfold ab1.«set.add» Builtin.Frozenset.oneOther;simp only[List.isEmpty_nil,bind_assoc];unfold Builtin.Frozenset.addrOf;refine ZV (Z0 ?_)
 try dsimp only
 refine ZV (Z0 ?_)
 try dsimp only
 have Ug:X.A.in1.units<abQ:=by show X.A.units+1<abQ;lia
 refine ZV (ST.CC ho S T E_ Ug hn λh' o' bB fk n_ t' added tk ZD sb yw S' m1 m2=>?_);show aau _ _ (ret Value.none) _ _ _;have I2:Inv X μ σ (upd H a (kR X.prog X.w a bB)) {s with heap:=h',toks:=tk}:=I.write (x:=a) (e:=a) (by rw[hH];exact tv) (.inl rfl) (λb u hb hu=>(sb.2 b hb).trans hu) {_,yw}
  {{(o'),fk,n_,t',yw,S'},{_,yw},λh1 h2 yq k=>by obtain⟨o1,e1,II,t1,g1,g2⟩:=yq;exact{o1,e1,II,t1,k _ g1,g2}}
 refine Z0 {_,rfl,.cN,_,I2,rfl,?_}
 by_cases nV:∃x∈ts,x.2=key
 ·obtain rfl:=m1 nV;refine q bB (λx hx=>.inl hx) ?_;unfold iG;obtain⟨y,hy,e⟩:=nV;rw[χ (by rw[<- e];exact abz hy)]
 ·have pm:=m2 λx hx e=>nV {(x),hx,e};refine q bB (λx hx=>(Z1.mp (pm.mem_iff.mp hx)).symm) ?_;unfold iG;rw[ω (λz=>nV (by obtain⟨y,hy,e⟩:=Z2.mp z;exact{(y),hy,e}))]
  exact pm.map _
def QZ (b a:D):Option D:=match a with
 |.sT ts=>b.EM.bind λes=>(kc es).map λt=>.bl (decide (t∈ts))
 |_=>ξ
def IX {t:List Int}{ts:List (List Int)}:QZ (.tup (t.map D.int)) (.sT ts)=ν (.bl (decide (t∈ts))):=by
 show (kc (t.map D.int)).map _=_;rw[jV];rfl
def Ht (hu:X.A.units+16<abQ):bq X (aaR .In) QZ:=by
 intro μ s σ H x y v u Q I rx ry h;obtain⟨W,d1,d2,d,hd,r1,r2,e,q⟩:=h;cases d2 with
 |sT ts =>
  obtain⟨es,h1,h2⟩:=abw.mp (show d1.EM.bind _=ν d from e)
  obtain⟨t,h3,rfl⟩:=aai.mp h2;rw[D.lR h1,l7 h3]at r1;obtain⟨p,us,rfl,hp,rp⟩:=r1;rw[bj rp]at hp;obtain⟨a,rfl,⟨bB,hH,i5,pm⟩,_⟩:=r2;cases rx;cases ry;obtain⟨⟨o,eo,ep,tb,ho,S⟩,_,_⟩:=(show cn X.prog X.w H s.heap a (kR X.prog X.w a bB) from I.b9 a _ hH)
  have T:=oZ I.b9 i5;have E_:(ST.TK X.prog X.w).is s.heap t p:=(oZ (ts:=[(p,t)]) I.b9 λx hx=>by rw[ZY.mp hx];exact hp) (p,t) (ZY.mpr rfl)
  have hT:=ST.gL ho S;have ed:decide (t∈ts)=decide (∃x∈bB,x.2=t):=by
   rw[decide_eq_decide,<- pm.mem_iff,Z2]
  show aau _ _ (contains (.ref a) (.ref p) >>= λb=>pure (Value.bool b)) _ _ s;refine ZV ?_;unfold contains;refine aa2 (ZV (wpAny_specialOf hT PySem.F.slot_set_contains.lookup ?_));show aau _ _ (if (ν (Value.builtin "set.__contains__")==ν Value.none)=ζ then _ else _) _ _ s
  rw[ω (by rw[beq_builtin_none];exact abg)]
  refine ZV (wpAny_callSpecialUnlessNone?_slot (name:=Str.ofString "__contains__") hT PySem.F.slot_set_contains (abv PySem.F.slot_set_contains hT entry_set_contains ?_ (PySem.F.args_set_contains_2 _ _)));unfold ab1.«frozenset.__contains__» Builtin.Frozenset.oneOther;simp only[List.isEmpty_nil,bind_assoc];unfold Builtin.Frozenset.addrOf Builtin.Frozenset.withSetAsKey;refine ZV (Z0 ?_)
  try dsimp only
  refine ZV (Z0 ?_)
  try dsimp only
  have Ug:X.A.in1.units<abQ:=by show X.A.units+1<abQ;lia
  refine ZV (wpAny_tryCatch (ST.uQ ho S T E_ Ug ?_));refine Z0 {_,rfl,abG (Z0 {.bl (decide (t∈ts)),H,I.tok _,?_,q _ _ (aB.refl _) rfl})};rw[ed];rfl
 |_=>cases e
end
end L2
namespace L2.Q
open PySem PySem.Spec PySem.SeqAt PyProof.Rows
section
variable {X:Cx}{C:Cfg}{e:Expr}{φ:aP}{p:Bool}{i j:Nat}{x y:Str}{pos px py ap cp tp:Pos}
def Hd (hm:X.mg "set" = ξ)(hg:Gl X "set" := by rfl):PQ X C ζ (.Call (.Name "set" px) [] [] pos) (λβ R=>R (.sT []) .own β) :=
 ⟨λβ R R' k h=>k _ _ _ h,(xW yO hg hm yP).pre λσ H Q h=>by
  obtain⟨β,own,s,q⟩:=h;refine{rfl,λa ha=>q _ _ own ((Out.refl s _).same (aB.new ha)) {[a],{a,rfl,{[],ar,λx hx=>(nomatch hx),.nil},rfl},by simp,λc hc=>?_}}
  rw[ZY.mp hc];exact{ha,λz=>s.yH a z ha,aaz λz=>s.ju a z ha}⟩
def zC (hu:X.A.units+16<abQ)(he:∀U,PQ X (C.u U) p e φ)(hn:Nm X i x:=by exact Ce)
  (fX:ab6 (.Name x px) "add" X.env (eval (.Name x px) X.env)=eval (.Name x px) X.env:=by rfl)
  (qg:((abK cp (aao [e] X.env)).all (λx=>!x.1)&&(backToKw cp (ado [] X.env)).all (λx=>x.1.isSome)&&decide ([e].length+([]:List acX).length+(if ([]:List acX).isEmpty then 0 else 1)<30))=ζ:=by rfl)
  (fW:(ap.endLine==cp.line)=ζ:=by rfl) (hs:aao [e] X.env=(η,eval e X.env)::aao [] X.env:=by rfl) (fV:(abK cp (aao [] X.env)).any (·.1)=η:=by rfl)
  (xn:ab4 (.Call (.Attribute (.Name x px) "add" ap) [e] [] cp) ξ pos.line X.env=pure η:=by rfl) :
  PB X C (.Expr (.Call (.Attribute (.Name x px) "add" ap) [e] [] cp) pos) (λE β=>(∃ts,β[i]?=ν (ν (.own (.sT ts))))/\φ β λd _ β'=>∃t ts,d=kD t/\β'[i]?=ν (ν (.own (.sT ts)))/\ts.length<1000/\E.nx (β'.set i (ν (.own (.sT (iG t ts)))))):=by
 refine{λE E' β l h=>by obtain⟨h1,q⟩:=h;exact{h1,(he λ_=>False).mono _ _ _ (λd k β' h=>by obtain⟨t,ts,h1,h2,h3,q⟩:=h;exact{t,ts,h1,h2,h3,l.nx _ q}) q},λμ s σ H D I iX=>?_}
 obtain⟨Z,E,β,⟨own,sq,n⟩,⟨⟨Zu,hb⟩,q⟩,ok⟩:=iX;refine oB (pos:=pos) (Ly (apos:=ap) (cpos:=cp) PySem.F.plainAttrs_set PySem.F.slot_set_add PySem.F.type_set_add (sD hu) (iN (pos:=px) hn) (bM (he λa=>H a=ξ).pe d6 hs) fX qg fW hs fV) xn μ s σ H D I ?_;obtain⟨v0,h1,⟨a,rfl,⟨bB,hH,i5,pm⟩,h3⟩,_⟩:=sq.ow i _ hb;refine{.ref a,h1,λμ s v I r=>?_,tQ.of (he λa=>H a=ξ) (sq.uS (C:=C.z) (U:=λa=>H a=ξ) λa z=>z) q λd k β' v H1 aH mV o r=>?_}
 ·cases r;obtain⟨⟨ob,es,ep,tb,ho,S⟩,_,_⟩:=(show cn X.prog X.w H s.heap a (kR X.prog X.w a bB) from I.b9 a _ hH)
  exact{ST.gL ho S,λb e=>by cases e;exact{(ob),ho,S.ex.2.1}}
 obtain⟨t,ts,rfl,qU,hl,q⟩:=mV;obtain⟨v1,g1,⟨a',rfl,⟨us,gH,Vd,gm⟩,g3⟩,_⟩:=o.sq.ow i _ qU;rw[h1]at g1;cases g1;obtain⟨b,vs,rfl,Gu,rb⟩:=r.rep;rw[_root_.L2.bj rb]at Gu;have ha:a∈aH i:=by rw[g3];simp
 have nt:∀{c:θ} {xs:List V},H1 c=ν (.tup xs)->c≠a:=λe z=>by rw[z,gH]at e;cases e
 have hA:∀c∈[a],c∈aH i\/(C.H0 c=ξ/\¬ Wn aH c/\H c=ξ):=λc hc=>.inl (by rw[g3];exact hc)
 refine{a,us,b,t,rfl,rfl,gH,Gu,Vd,by rw[<- gm.length_eq,ZU]at hl;exact hl,λuT m1 m2=>ok.nx _ _ _ {_,o.sq.putIn qU h1 ha (show Own X.prog X.w (upd H1 a (kR X.prog X.w a uT)) (.sT (iG t ts)) (.ref a) [a] from {a,rfl,{uT,ar,λx hx=>?_,m2.trans (B6 gm)},rfl}) (by simp) hA,tS (n.trans o.sn) (λb z=>n.free z) {(i),ha} {_,gH,λxs z=>by cases z} hA} q}
 rcases m1 x hx with z|rfl
 ·rw[aD (nt (Vd x z))];exact Vd x z
 ·rw[aD (nt Gu)];exact Gu
def DQ {k}(aL:i≠j)(hn:Nm X i x:=by exact Ce)(NC:Nm X j y:=by exact Ce)
  (Px:aao [.Name x px,.Name y py] X.env=(η,eval (.Name x px) X.env)::aao [.Name y py] X.env:=by rfl) (nK:aao [.Name y py] X.env=(η,eval (.Name y py) X.env)::aao [] X.env:=by rfl) :
  PB X C (.Return (ν (.Tuple [.Name x px,.Name y py] k tp)) pos) (λE β=>∃d0 d,β[i]?=ν (ν (.own d0))/\β[j]?=ν (ν (.own d))/\E.rt (.tup [d0,d]) β) :=
 ⟨λE E' β l h=>by obtain⟨d0,d,h1,h2,q⟩:=h;exact{d0,d,h1,h2,l.rt _ _ q},(kq (DM (bM (iN (pos:=px) hn) (bM (iN (pos:=py) NC) d6 nK) Px))).pre λD σ H hq=>by
  obtain⟨Z,E,β,⟨own,s,n⟩,⟨d0,d,NH,hb,q⟩,ok⟩:=hq;obtain⟨v0,e0,r0,z0⟩:=s.ow i d0 NH;obtain⟨v,e1,r,z1⟩:=s.ow j d hb;have hz:∀c∈own i++own j,C.H0 c=ξ:=λc hc=>(Z9.mp hc).elim (z0 c) (z1 c);refine{v0,e0,v,e1,(by show 2<=aak;decide),λp hp=>ok.rt _ _ _ _ _ (((Out.refl s ζ).same (aB.new hp)).sb n) ?_ q}
  have sm:aB H (upd H p (.tup [v0,v])):=aB.new hp;have V2:Own X.prog X.w (upd H p (.tup [v0,v])) d0 v0 (own i):=r0.keep (λb xs e=>sm _ _ e) (λc _ o e=>sm c o e);have r':Own X.prog X.w (upd H p (.tup [v0,v])) d v (own j):=r.keep (λb xs e=>sm _ _ e) (λc _ o e=>sm c o e);have oo:Own X.prog X.w (upd H p (.tup [v0,v])) (.tup [d0,d]) (.ref p) (own i++own j):={p,_,rfl,ar,v0,[v],own i,own j,rfl,rfl,V2,v,[],own j,[],rfl,by simp,r',rfl,rfl}
  cases hr:C.ro with
  |true=>exact{_,oo,aaY.mpr {s.qS i,s.qS j,λa ha b hb e=>aL (s.oP i j a ha (e▸hb))},hz}
  |false=>exact oo.rep λc hc z=>z (hz c hc)⟩
end
end L2.Q
namespace L2
open PySem PySem.Spec PySem.SeqAt PyProof.Rows
def mem (o:List Int):Int->Bool:=λk=>decide (k∈o)
def iS (S:Int->Bool)(n:Nat):D:=.ob λ_=>.set S n
def Mr {S S':Int->Bool}{n n':Nat}(h:iS S n=iS S' n'):S=S':=by
 injection h with h
 have:=congrFun h 0;injection this
section
open Classical
noncomputable def wL (f:Bool->Bool)(b a:D):Option D:=if h:∃S n,a=iS S n then b.int?.map λk=>.bl (f (Classical.choose h k)) else ξ
def wK {f:Bool->Bool}{k:Int}{S:Int->Bool}{n:Nat}:wL f (.int k) (iS S n)=ν (.bl (f (S k))):=by
 have h:∃S' n',iS S n=iS S' n':={(S),n,rfl};unfold wL;rw[dif_pos h];obtain⟨n',e⟩:=Classical.choose_spec h;rw[<- Mr e];rfl
def FR {f:Bool->Bool}{a b d:D}(h:wL f b a=ν d):∃S n k,a=iS S n/\b=.int k/\d=.bl (f (S k)):=by
 unfold wL at h
 split at h
 ·rename_i z
  obtain⟨n',e⟩:=Classical.choose_spec z;obtain⟨k,e1,rfl⟩:=aai.mp h;exact{_,n',k,e,D.zY e1,rfl}
 ·cases h
end
section
variable {X:Cx}
def pQ:bq X (aaR .NotIn) (wL λb=>!b):=by
 intro μ s σ H x y v u Q I rx ry h;obtain⟨W,d1,d2,d,hd,r1,r2,e,q⟩:=h;obtain⟨S,n,k,rfl,rfl,rfl⟩:=FR e;obtain⟨a,rfl,⟨hH,_⟩,_⟩:=r2;cases (show x=.int k from r1)
 obtain⟨tk,rfl⟩:=rx;cases ry;have hS:s.heap.SetOf (acA X.prog X.w) a S n:=I.b9 a _ hH;exact wpAny_notInSet_of (intKind_is _ _ _ _) rfl hS {.bl (!S k),H,I.tok _,rfl,q _ _ (aB.refl _) rfl}
def vA:qP X (newSet (.type "set")) (.set (mem []) 0) :=
 ⟨λμ s σ H Q E I h=>wpAny_newSet_of (knd:=acA X.prog X.w) λled hS=>h _ _ (ZX _) I.fresh (λb o e=>Z3 _ e) (I.laid (t':=s.toks) (λ_ _ q=>Z3 _ q) (ZX _) (by
  have e:mem []=λ_=>η:=by funext k;rfl
  rw[e];exact hS))⟩
def vq {elt:Expr}{te:TE}{a:θ}(hx:X.xe=λ_ _=>False)(he:PE X elt te):
  oh X (gG (sX elt (.ref a) X.env)) (λN σ H=>te σ H λv H1=>∃S n t,v=.int t/\H1 a=ν (.set S n)/\n+1<scanBound/\N σ (upd H1 a (.set (λk=>S k || decide (k=t)) (if S t then n else n+1)))):=by
 intro μ s σ H N k Q E I h hk;unfold gG sX;refine ZV (ZV (bQ (dJ hx (he μ s σ H _ I h)) λu s1 iX=>?_));obtain⟨v,H1,I1,r1,S,n,t,rfl,hH,hn,q⟩:=iX;obtain⟨tk,rfl⟩:=r1;have hS:s1.heap.SetOf (acA X.prog X.w) a S n:=I1.b9 a _ hH;refine ZV (abE (ZV (call_set_add (intKind_is _ _ _ _) rfl hS hn λh' sb WU=>?_)));refine Z0 (hk σ _ _ ?_ q);have yw:∃o,h'.get? a=ν o:=by
  obtain⟨o,_,_,_,ho,_⟩:=WU;exact{(o),ho}
 exact I1.write (x:=a) (e:=a) (t':=s1.toks+1) (by rw[hH];exact tv) (.inl rfl) (λb u hb hu=>(sb.2 b hb).trans hu) yw WU
end
end L2
namespace L2.Q
open PySem PySem.Spec PySem.SeqAt PyProof.Rows
def w5 (t:Int)(o:List Int):List Int:=if t∈o then o else t::o
def dz (o:List Int):List Int:=o.foldl (λa t=>w5 t a) []
def IJ {o:List Int}{t:Int}:dz (o++[t])=w5 t (dz o):=by unfold dz;rw[List.foldl_append];rfl
theorem FJ:∀(o a:List Int),a.Nodup->(o.foldl (λa t=>w5 t a) a).Nodup/\∀x,x∈o.foldl (λa t=>w5 t a) a↔x∈a\/x∈o
 |[],a,h=>{h,λx=>by simp}
 |t::o,a,h=>by
  have h1:(w5 t a).Nodup/\∀x,x∈w5 t a↔x∈a\/x=t:=by
   unfold w5
   split
   ·rename_i z
    exact{h,λx=>{.inl,λq=>q.elim id λq=>q▸z}}
   ·rename_i z
    exact{aaA.mpr {(z),h},λx=>by rw[Z1];exact Or.comm}
  obtain⟨g1,g2⟩:=FJ o _ h1.1;refine{g1,λx=>?_};rw[ab3,g2,h1.2,Z1,or_assoc]
def yb {o:List Int}{x:Int}:x∈dz o↔x∈o:=((FJ o [] aa0).2 x).trans (by simp)
def VN (a:θ)(o:List Int)(H:Hp):Prop:=H a=ν (.set (mem o) (dz o).length)
def uI {a:θ}:xl a (VN a):=⟨λo H H' s h=>s _ _ h,λo H xs h z=>by
  rw[show H a=_ from h]at z;cases z⟩
def HS {o:List Int}{t:Int}:(λk=>mem o k || decide (k=t))=mem (o++[t]):=by
 funext k
 unfold mem;rw[<- Bool.decide_or];exact decide_eq_decide.mpr (by rw[Z9,ZY])
abbrev Sz (X:Cx)(C:Cfg)(a:θ)(φ:aP):ml:=λN σ H=>tQ X (C.u λc=>c=a) ζ φ σ H λv H1=>∃S n t,v=.int t/\H1 a=ν (.set S n)/\n+1<scanBound/\N σ (upd H1 a (.set (λk=>S k || decide (k=t)) (if S t then n else n+1)))
def yE (φ:aP)(o:List Int)(β:ba)(N:ba->List Int->Prop):Prop:=φ β λx _ β3=>∃t,x=.int t/\(dz o).length+1<scanBound/\N β3 (o++[t])
section
variable {X:Cx}{C:Cfg}{W0:θ->Prop}{T:List Nat}{σ0:St}{H1:Hp}{a:θ}{Hb:Hp}{Wb:θ->Prop}{φ:aP}
def vc (h0:C.H0 a=ξ)(ha:H1 a=ξ)(φm:∀β R R',(∀d k β,R d k β->R' d k β)->φ β R->φ β R'){β:ba}{o:List Int}{σ:St}{H:Hp}{N:ba->List Int->Prop}(s:rN X C W0 T σ0 H1 a Hb Wb (VN a) β o σ H)(q:yE φ o β N):
  Sz X C a φ (λσ' H'=>∃β' o',rN X C W0 T σ0 H1 a Hb Wb (VN a) β' o' σ' H'/\N β' o') σ H:=by
 obtain⟨own,s⟩:=s;refine{β,own,s.sq,φm _ _ _ (λxd kx β6 iX v H6 Bh o6 r6=>?_) q};obtain⟨t,e,hz,q⟩:=iX;subst e;obtain⟨sm,rfl⟩:=o6.pu rfl;have s6:=s.next uI o6.sq (λ_ z=>z) sm (λ_ _=>rfl)
 cases (show v=.int t from r6.rep)
 have at':H6 a=ν (.set (mem o) (dz o).length):=s6.ac;refine{_,_,t,rfl,at',hz,β6,o++[t],{_,s6.put h0 ha at' (λxs z=>by cases z) ?_},q}
 have e:(if mem o t=ζ then (dz o).length else (dz o).length+1)=(dz (o++[t])).length:=by
  rw[IJ];unfold w5 mem
  by_cases z:t∈o
  ·rw[Γ z,χ rfl,χ (yb.mpr z)]
  ·rw[Δ z,ω (λz=>Bool.noConfusion z),ω (λq=>z (yb.mp q))];rfl
 show upd H6 a _ a=_;rw[ar,HS,e]
end
def F9 {X:Cx}{C:Cfg}{σ:St}{H1 H':Hp}{β:ba}{own:Nat->List θ}{a:θ}{S:Int->Bool}{n:Nat}(s1:SQ X C σ H1 β own)(ha:H1 a=ξ)(h:H' a=ν (.set S n)):KV X.prog X.w C (H1,Wn own) own H' .own (iS S n) (.ref a):=by
 refine{[a],{a,rfl,{h,λxs z=>by cases z},rfl},by simp,λc hc=>?_}
 rw[ZY.mp hc];exact{ha,λh=>by obtain⟨j,hj⟩:=h;exact(s1.dm j a hj).1 ha,aaz λz=>s1.ju a z ha}
def Lg (lk:List (Option Nat))(ι:cf)(γ:dc)(τ:a6)(φ:aP):aP:=λβ R=>ι β λds k β1=>hold k η/\jl γ τ (yE φ) ds k (cC lk β1) [] λβf o=>fe (cC lk β1) βf/\R (iS (mem o) (dz o).length) .own β1
def G7 (lk:List (Option Nat))(ι:cf)(γ:dc)(τ:a6)(ι2:cf)(γ2:dc)(τ2:a6)(φ:aP):aP:=λβ R=>ι β λds k β1=>hold k η/\jl γ τ (Em ι2 γ2 τ2 (yE φ)) ds k (cC lk β1) [] λβf o=>fe (cC lk β1) βf/\R (iS (mem o) (dz o).length) .own β1
section
variable {X:Cx}{C:Cfg}{lk:List (Option Nat)}{γ γ2:dc}{τ τ2:a6}{φ:aP}{T T2:List Nat}
variable {scope:acn}{tg cw qR kX elt:Expr}{ifs gU:List Expr}{ι ι2:cf}{pi:Bool}{pos:Pos}
def Xy (N':List Str)(lk:List (Option Nat))(L:gz X.env.scope.names X.N scope N' lk=ζ)(oN:N'.Nodup)(hc:X.calm=ζ)(hi:xr X C pi tg cw ι)
  (mY:∀a cl c s H ex,xf (ay X scope N' cl c s H ex) (C.u λc=>c=a) tg T γ) (i5:∀a cl c s H ex,og (ay X scope N' cl c s H ex) (C.u λc=>c=a) ζ ifs τ)
  (iP:∀a cl c s H ex,PQ (ay X scope N' cl c s H ex) (C.u λc=>c=a) ζ elt φ) (hT:T.all (λi=>match lk[i]? with|some (ν _)=>η|_=>ζ)=ζ:=by rfl)
  (hs:∀x,aaO cw X.env x=pure x:=by intro _;rfl):PQ X C pi (.SetComp elt [{tg,cw,ifs,0}] scope pos) (Lg lk ι γ τ φ):=by
 have L:=Links.of L;have BD:∀i∈T,∀j,lk[i]?≠ν (ν j):=λi hi j e=>by
  have:=abP.mp hT i hi;rw[e]at this;cases this
 have γm:=(mY 0 [] 0 X.s₀ X.H₀ []).mono;have τm:=(i5 0 [] 0 X.s₀ X.H₀ []).mono;have φm:=(iP 0 [] 0 X.s₀ X.H₀ []).mono;refine{λβ R R' k h=>hi.mono β _ _ (λds kd β1 q=>{q.1,q.2.mono λ_ _ z=>{z.1,k _ _ _ z.2}}) h,?_};refine(ji (g:={tg,cw,ifs,0}) (gs:=[]) (tg:=λa=>Gm X C a T γ) (tt:=λa=>lq X (C.u λc=>c=a) ζ τ) (ta:=λa=>Sz X C a φ)
  L hc vA rfl rfl (λ_ _=>J_) hi.pi (λa cl c s H ex=>{(mY a cl c s H ex).pg,(i5 a cl c s H ex).pt,vq (X:=ay X scope N' cl c s H ex) rfl (iP a cl c s H ex).pe}) hs).pre λσ H Q h=>?_
 obtain⟨β,own,s,h⟩:=h;refine{β,own,s,hi.mono β _ _ (λds k β1 h J H1 aH o1 it a ha=>?_) h};obtain⟨hk,q⟩:=h;refine i_ (T:=T) uI γm τm (λj hj=>hj) (bJ L oN) BD o1.sq ha hk it ar (o1.sq.uy (λxs z=>by cases z) ha (bJ L oN))
  (λHb Wb βx ox σx Hx Nx h0 sx qx=>vc h0 ha φm sx qx) q λo H' q o2 r=>?_
 exact q _ _ aH {o2.sq,o1.sn.trans o2.sn,λz=>{(o1.pu z).1.trans (o2.pu rfl).1,(o1.pu z).2},o1.le} ((F9 o1.sq ha r).later o1.sn)
def S6 (N':List Str)(lk:List (Option Nat))(L:gz X.env.scope.names X.N scope N' lk=ζ)(oN:N'.Nodup)(hc:X.calm=ζ)(hi:xr X C pi tg cw ι)
  (mY:∀a cl c s H ex,xf (ay X scope N' cl c s H ex) (C.u λc=>c=a) tg T γ) (i5:∀a cl c s H ex,og (ay X scope N' cl c s H ex) (C.u λc=>c=a) ζ ifs τ)
  (QJ:∀a cl c s H ex,Sh (ay X scope N' cl c s H ex) (C.u λc=>c=a) qR kX ι2)
  (EU:∀a cl c s H ex,xf (ay X scope N' cl c s H ex) (C.u λc=>c=a) qR T2 γ2) (ET:∀a cl c s H ex,og (ay X scope N' cl c s H ex) (C.u λc=>c=a) ζ gU τ2)
  (iP:∀a cl c s H ex,PQ (ay X scope N' cl c s H ex) (C.u λc=>c=a) ζ elt φ) (hT:(T++T2).all (λi=>match lk[i]? with|some (ν _)=>η|_=>ζ)=ζ:=by rfl)
  (hs:∀x,aaO cw X.env x=pure x:=by intro _;rfl) (nK:∀cl c s H ex x,aaO kX (ay X scope N' cl c s H ex).env x=pure x:=by intro _ _ _ _ _ _;rfl):PQ X C pi (.SetComp elt [{tg,cw,ifs,0},{qR,kX,gU,0}] scope pos) (G7 lk ι γ τ ι2 γ2 τ2 φ):=by
 have L:=Links.of L;have BD:∀i∈T++T2,∀j,lk[i]?≠ν (ν j):=λi hi j e=>by
  have:=abP.mp hT i hi;rw[e]at this;cases this
 have γm:=(mY 0 [] 0 X.s₀ X.H₀ []).mono;have τm:=(i5 0 [] 0 X.s₀ X.H₀ []).mono;have Kq:=(EU 0 [] 0 X.s₀ X.H₀ []).mono;have Ko:=(ET 0 [] 0 X.s₀ X.H₀ []).mono;have φm:=(iP 0 [] 0 X.s₀ X.H₀ []).mono;have ιm:=(QJ 0 [] 0 X.s₀ X.H₀ []).mono;refine{λβ R R' k h=>hi.mono β _ _ (λds kd β1 q=>{q.1,q.2.mono λ_ _ z=>{z.1,k _ _ _ z.2}}) h,?_};refine(ji (g:={tg,cw,ifs,0}) (gs:=[{qR,kX,gU,0}]) (tg:=λa=>Gm X C a T γ) (tt:=λa=>lq X (C.u λc=>c=a) ζ τ)
  (ta:=λa N σ H=>∃β own,SQ X (C.u λc=>c=a) σ H β own/\ι2 β λds k β'=>∀J H',aB H H'->SQ X (C.u λc=>c=a) σ H' β' own->Cq X (jw (C.u λc=>c=a) (Wn own) k) J ds H' ->
   gI J (Gm X C a T2 γ2) (lq X (C.u λc=>c=a) ζ τ2) (Sz X C a φ) N σ H')
  L hc vA rfl rfl (λ_ _=>M_) hi.pi (λa cl c s H ex=>{(mY a cl c s H ex).pg,(i5 a cl c s H ex).pt,zD (X:=ay X scope N' cl c s H ex) (g':={qR,kX,gU,0}) rfl hc M9 (QJ a cl c s H ex).pi (EU a cl c s H ex).pg (ET a cl c s H ex).pt (vq (X:=ay X scope N' cl c s H ex) rfl (iP a cl c s H ex).pe) (nK cl c s H ex)}) hs).pre λσ H Q h=>?_
 obtain⟨β,own,s,h⟩:=h;refine{β,own,s,hi.mono β _ _ (λds k β1 h J H1 aH o1 it a ha=>?_) h};obtain⟨hk,q⟩:=h;refine i_ (T:=T++T2) uI γm τm (λj hj=>aaP _ hj) (bJ L oN) BD o1.sq ha hk it ar (o1.sq.uy (λxs z=>by cases z) ha (bJ L oN))
  (λHb Wb βx ox σx Hx Nx h0 sx qx=>zd uI (λj hj=>aaB _ hj) Kq Ko (λHb Wb βy oy σy Hy Ny sy qy=>vc h0 ha φm sy qy) ιm sx qx) q λo H' q o2 r=>?_
 exact q _ _ aH {o2.sq,o1.sn.trans o2.sn,λz=>{(o1.pu z).1.trans (o2.pu rfl).1,(o1.pu z).2},o1.le} ((F9 o1.sq ha r).later o1.sn)
end
abbrev g8 (ps:List NN):Prop:=ps.Pairwise λp q=>p.1<q.1\/(p.1=q.1/\p.2<q.2)
theorem len_sub {α:Type}[DecidableEq α]:∀{l m:List α},l.Nodup->(∀x∈l,x∈m)->l.length<=m.length
 |[],m,_,_=>aab _
 |x::l,m,nd,h=>by
  obtain⟨h1,h2⟩:=aaA.mp nd;have q:=len_sub (l:=l) (m:=m.erase x) h2 λy hy=>(List.mem_erase_of_ne λz:y=x=>h1 (by rw[<- z];exact hy)).mpr (h y (aac _ hy))
  have hx:=h x Z7;rw[List.length_erase_of_mem hx]at q;have:=List.length_pos_of_mem hx;rw[aaa];lia
def FI {o:List Int}{m:Nat}(h:∀x∈o,0<=x/\x<(m:Int)):(dz o).length<=m:=by
 have q:=len_sub (l:=dz o) (m:=(Z_ m).map λi:Nat=>(i:Int)) (FJ o [] aa0).1 λx hx=>by
  have:=h x (yb.mp hx);exact Z2.mpr {x.toNat,aax.mpr (by lia),by lia}
 rw[ZU,aaD]at q;exact q
section
variable {ps:List NN}{n:Nat}
def pB (hp:∀t∈ps,t.1<t.2){i j:Nat}(r:xa ps n i j):i<=j/\j<=n:=by
 induction r with
 |start=>exact{aab _,ZX _}
 | @step i j a b c r h hc hq ih =>
  cases c with
  |none =>
   have e:(a,b)=(i+1,j):=ZY.mp hq;cases e;exact{(h),ih.2}
  |some k =>
   have hk:=bF hc;have h1:=hp _ hk.1;have h2:k<j:=hk.2.1;dsimp only at h1;have e:(a,b)=(i+1,k)\/(a,b)=(k+1,j):=by
    rcases Z1.mp hq with e|e
    ·exact .inl e
    ·exact .inr (ZY.mp e)
   rcases e with e|e <;> cases e <;> lia
def DR (hp:∀t∈ps,t.1<t.2){i j:Nat}{c:Option Nat}(hc:c∈BC ps i j){q:NN}(hq:q∈parts i c j):i<q.1:=by
 cases c with
 |none=>rw[ZY.mp hq];exact acj _
 |some k =>
  have h1:=hp _ (bF hc).1;dsimp only at h1;rcases Z1.mp hq with e|e
  ·rw[e];exact acj _
  ·rw[ZY.mp e];dsimp only;lia
structure Mt (ps:List NN)(n:Nat)(P:Nat->Nat->Prop)(ts:List (List Int))(cs:List (Nat×Option Nat)):Prop where
 s0:tI (0,n)∈ts
 s1:∀t∈ts,∃a b,t=tI (a,b)/\xa ps n a b
 s2:∀a b,P a b->a<b->tI (a,b)∈ts->∀c∈BC ps a b,(a,c)∈cs/\∀q∈parts a c b,tI q∈ts
 c1:∀x∈cs,∃b,xa ps n x.1 b/\x.1<b/\x.2∈BC ps x.1 b
 nd:ts.Nodup
def Mt.start:Mt ps n (λ_ _=>False) (iG (tI (0,n)) []) [] :=
 {c6.mpr (.inl rfl),λt h=>(c6.mp h).elim (λe=>{0,n,e,.start}) λz=>(nomatch z),λ_ _ z=>z.elim,λ_ z=>(nomatch z),kQ aa0}
variable {P:Nat->Nat->Prop}{ts:List (List Int)}{cs:List (Nat×Option Nat)}
def Mt.reach (m:Mt ps n P ts cs){a b:Nat}(h:tI (a,b)∈ts):xa ps n a b:=by
 obtain⟨a',b',e,r⟩:=m.s1 _ h;cases fI e;exact r
def Mt.app (m:Mt ps n P ts cs){i j:Nat}{c:Option Nat}(hr:xa ps n i j)(h:i<j)(hc:c∈BC ps i j):Mt ps n P ts (cs++[(i,c)]) :=
 {m.s0,m.s1,λa b z l t c hc=>{aaP _ (m.s2 a b z l t c hc).1,(m.s2 a b z l t c hc).2},λx hx=>(Z9.mp hx).elim (m.c1 x) λz=>by rw[ZY.mp z];exact{(j),hr,h,hc},m.nd}
def Mt.add (m:Mt ps n P ts cs){q:NN}(hP:∀a b,P a b->a<q.1)(hr:xa ps n q.1 q.2):Mt ps n P (iG (tI q) ts) cs :=
 ⟨c6.mpr (.inr m.s0),λt h=>(c6.mp h).elim (λe=>{(q.1),q.2,e,hr}) (m.s1 t),λa b z l t c hc=>by
  have ht:=(c6.mp t).resolve_left λe=>abN a (by have:=hP a b z;rw[<- Ι Prod.fst (fI e)]at this;exact this)
  exact{(m.s2 a b z l ht c hc).1,λq' hq=>c6.mpr (.inr ((m.s2 a b z l ht c hc).2 q' hq))},m.c1,kQ m.nd⟩
def Mt.done (m:Mt ps n P ts cs){P':Nat->Nat->Prop}{i j:Nat}(hP:∀a b,P' a b->a<b->P a b\/(a=i/\b=j))(h:tI (i,j)∈ts->∀c∈BC ps i j,(i,c)∈cs/\∀q∈parts i c j,tI q∈ts):Mt ps n P' ts cs :=
 ⟨m.s0,m.s1,λa b z l t=>by
  rcases hP a b z l with z|⟨rfl,rfl⟩
  ·exact m.s2 a b z l t
  ·exact h t,m.c1,m.nd⟩
def Mt.weak (m:Mt ps n P ts cs){P':Nat->Nat->Prop}(hP:∀a b,P' a b->P a b):Mt ps n P' ts cs:={m.s0,m.s1,λa b z=>m.s2 a b (hP a b z),m.c1,m.nd}
def Vz:List (List Int):=(Z_ 41).flatMap λb=>(Z_ (b+1)).map λa=>tI (a,b)
def Mt.len (m:Mt ps n P ts cs)(hp:∀t∈ps,t.1<t.2)(hn:n<=40):ts.length<1000:=by
 have q:=len_sub (m:=Vz) m.nd λt ht=>by
  obtain⟨a,b,rfl,r⟩:=m.s1 t ht;have:=pB hp r;exact aa6.mpr {b,aax.mpr (by lia),Z2.mpr {a,aax.mpr (by lia),rfl}}
 exact abY q (by decide)
def Met (ps:List NN)(n:Nat)(cs:List (Nat×Option Nat)):Prop:=∀i c,(i,c)∈cs↔∃j,xa ps n i j/\i<j/\c∈BC ps i j
def Mt.met (m:Mt ps n P ts cs)(hp:∀t∈ps,t.1<t.2)(hP:∀a b,a<b->b<=n->P a b):Met ps n cs:=by
 have all:∀{a b},xa ps n a b->tI (a,b)∈ts:=λr=>by
  induction r with
  |start=>exact m.s0
  | @step i j a b c r h hc hq ih=>exact(m.s2 i j (hP i j h (pB hp r).2) h ih c hc).2 _ hq
 exact λi c=>{λh=>m.c1 _ h,λP_=> by obtain⟨j,r,h,hc⟩ := P_;exact(m.s2 i j (hP i j h (pB hp r).2) h (all r) c hc).1}
def Met.free (m:Met ps n cs){p:Nat}:Jl ps n p↔(p,ξ)∈cs:=(m p ξ).symm
def Met.Sw (m:Met ps n cs){p:Nat}:Jg ps n p↔∃i k,(i,ν k)∈cs/\(p=i\/p=k):=by
 constructor
 ·rintro⟨i,j,k,r,h,hc,e⟩;exact{i,k,(m i (ν k)).mpr {(j),r,h,hc},e}
 ·rintro⟨i,k,h,e⟩;obtain⟨j,r,hj,hc⟩:=(m i (ν k)).mp h;exact{(i),j,k,r,hj,hc,e}
def Met.lt (m:Met ps n cs){i:Nat}{c:Option Nat}(hp:∀t∈ps,t.1<t.2)(h:(i,c)∈cs):i<n/\∀k,c=ν k->k<n:=by
 obtain⟨j,r,hj,hc⟩:=(m i c).mp h;have:=pB hp r;refine{by lia,λk e=>?_}
 subst e;have:=(bF hc).2.1;lia
def Cn (x:Nat×Option Nat):D:=.tup [.int (x.1:Int),oD x.2]
def Ab (cs:List (Nat×Option Nat)):List Int:=(cs.filter λx=>decide (x.2=ξ)).map λx=>(x.1:Int)
def uY (x:Nat×Option Nat):List Int:=match x.2 with
 |none=>[]
 |some k=>[(x.1:Int),(k:Int)]
def HR {p:Nat}:(p:Int)∈Ab cs↔(p,ξ)∈cs:=by
 unfold Ab;rw[Z2];constructor
 ·rintro⟨⟨i,c⟩,h,e⟩;obtain⟨h1,h2⟩:=aae.mp h;have e1:i=p:=ady e;have e2:c=ξ:=of_decide_eq_true h2;subst e1 e2;exact h1
 ·exact λh=>{(p,ξ),aae.mpr {(h),rfl},rfl}
def HQ {p:Nat}:(p:Int)∈cs.flatMap uY↔∃i k,(i,ν k)∈cs/\(p=i\/p=k):=by
 rw[aa6];constructor
 ·rintro⟨⟨i,c⟩,h,e⟩;cases c with
  |none=>cases e
  |some k =>
   refine{i,k,h,?_};rcases Z1.mp e with e|e
   ·exact .inl (ady e)
   ·exact .inr (ady (ZY.mp e))
 ·rintro⟨i,k,h,e⟩;refine{_,h,?_};rcases e with rfl|rfl
  ·exact Z7
  ·exact aac _ Z7
def Fj {x:Nat×Option Nat}:Ab (cs++[x])=Ab cs++if x.2=ξ then [(x.1:Int)] else []:=by
 unfold Ab;rw[abu,aaj]
 by_cases h:x.2=ξ
 ·rw[χ h,aaS,χ (Γ h)];rfl
 ·rw[ω h,aaS,ω (by rw[Δ h];simp)];rfl
def MY (m:Met ps n cs)(hp:∀t∈ps,t.1<t.2)(hn:n<=40){cs':List (Nat×Option Nat)}(h:∀x∈cs',x∈cs):(dz (Ab cs')).length+1<scanBound:=by
 have q:=FI (o:=Ab cs') (m:=40) λx hx=>by
  obtain⟨y,hy,rfl⟩:=Z2.mp hx;have:=(m.lt hp (h y (aae.mp hy).1)).1;lia
 exact abY (Nat.succ_le_succ q) (by decide)
def KP (m:Met ps n cs)(hp:∀t∈ps,t.1<t.2)(hn:n<=40){o:List Int}(h:∀x∈o,x∈cs.flatMap uY):(dz o).length+1<scanBound:=by
 have q:=FI (o:=o) (m:=40) λx hx=>by
  obtain⟨⟨i,c⟩,hy,hx⟩:=aa6.mp (h x hx);obtain⟨h1,h2⟩:=m.lt hp hy;cases c with
  |none=>cases hx
  |some k =>
   have:=h2 k rfl;rcases Z1.mp hx with rfl|hx
   ·lia
   ·rw[ZY.mp hx];lia
 exact abY (Nat.succ_le_succ q) (by decide)
noncomputable def g7 (ps:List NN)(n:Nat):List Nat:=by
 classical exact(Z_ n).filter λp=>decide (¬ Jl ps n p)
noncomputable def iW (ps:List NN)(n:Nat):List Nat:=by
 classical exact(Z_ n).filter λp=>decide (¬ Jg ps n p)
noncomputable def KO (ps:List NN)(n:Nat):D:=.tup [.lst (kA (g7 ps n)),.lst (kA (iW ps n))]
def uw {q:Nat->Prop}{inst:DecidablePred q}{f:Nat->Bool}(h:∀p,p<n->(f p=ζ↔q p)):((Z_ n).filter λp=>decide (q p))=(Z_ n).filter f :=
 List.filter_congr λp hp=>by rw[acE,decide_eq_true_eq,h p (aax.mp hp)]
def zN {q:Nat->Prop}{inst:DecidablePred q}{p:Nat}:p∈(Z_ n).filter (λp=>decide (q p))↔p<n/\q p:=by rw[aae,aax,decide_eq_true_eq]
def sW {q q':Nat->Prop}{i1:DecidablePred q}{i2:DecidablePred q'}(h:∀p,p<n->(q p↔q' p)):(Z_ n).filter (λp=>decide (q p))=(Z_ n).filter λp=>decide (q' p) :=
 List.filter_congr λp hp=>by rw[acE,decide_eq_true_eq,decide_eq_true_eq,h p (aax.mp hp)]
def Nh (hp:∀t∈ps,t.1<t.2)(m:Met ps n cs):g7 ps n=(Z_ n).filter λp:Nat=>!mem (Ab cs) (p:Int):=uw λp _=>by
 unfold mem;rw[<- decide_not,decide_eq_true_eq];exact(not_congr (m.free.trans HR.symm)).symm
def LY (hp:∀t∈ps,t.1<t.2)(nd:ps.Nodup)(m:Met ps n cs):iW ps n=(Z_ n).filter λp:Nat=>!mem (cs.flatMap uY) (p:Int):=uw λp _=>by
 unfold mem;rw[<- decide_not,decide_eq_true_eq];exact(not_congr (m.Sw.trans HQ.symm)).symm
end
def Ol {n:Nat}:nS 0 n=(Z_ n).map λp:Nat=>D.int (p:Int):=by
 unfold nS;exact aaN λp _=>by rw[Int.zero_add]
def Fu:FD:=λds R=>∃n ps,ds=[eG n ps]/\kT n ps/\n<=40/\∀cs:List (Nat×Option Nat),Met ps n cs->cs.length<100000->R (.lst (cs.map Cn))
def Fu.mono:c0 Fu:=λds R R' k h=>by obtain⟨n,ps,e,h1,h2,q⟩:=h;exact{n,ps,e,h1,h2,λcs a b=>k _ (q cs a b)}
def Gx:FD:=λds R=>∃n ps,ds=[eG n ps]/\kT n ps/\n<=40/\R (KO ps n)
def Gx.mono:c0 Gx:=λds R R' k h=>by obtain⟨n,ps,e,h1,h2,q⟩:=h;exact{n,ps,e,h1,h2,k _ q}
end L2.Q
namespace qW
open PySem L2 L2.Q
section
variable {P:Z6}{w:aam}{K:Ξ}{mg:Str->Option ZW}{base:Heap}
def aW:aN ["row","many","partners","worth","table","choices","reached","i","j","k","part"] ["row"] (aw eE):=mkS
def LP {l0 gv}(uC:Nq K mg l0 gv){gf cX}(gg:Gg K mg gf cX){fz cE}(gD:D8 K mg fz cE){dW bT}(dY:D5 K mg dW bT){eQ b_}(f7:D4 K mg eQ b_){eT cc}(gC:D7 K mg eT cc){c7 bC}(d9:D6 K mg c7 bC){fy cD}(eU:D9 K mg fy cD){fA cF}(f9:Cr K mg fA cF){eS cb}(fB:B_ K mg eS cb)(B:uK mg):aG P w K mg base bt 5 l0 gv ["row"] (bW P w ζ Fu):=by
 have Rl:aG P w K mg base bt 4 _ _ _ (bW P w ζ iw):=pR gg gD dY f7 gC d9 eU B;have Nn:aG P w K mg base bt 1 _ _ _ (bW P w ζ jr):=oE dY B;have Np:aG P w K mg base bt 1 _ _ _ (bW P w ζ qk):=ua eU;have Rn:aG P w K mg base bt 2 _ _ _ (bW P w ζ l5):=uc f9 d9 B;have Rm:aG P w K mg base bt 1 _ _ _ (bW P w ζ iy):=pS fB;refine nF uC.F aW (λds R P9=> by obtain⟨n,ps,e,_⟩ := P9;subst e;rfl) λc_ A outer s H E hr=>⟨_,(ah (aQ (i:=1) (aF af aU (ab (i:=0)) ag) aW.nd)
    (ah (aQ (i:=2) (ao jr.mono Nn (hr.mono (by decide)) dY.m dY.F.kp dY.b (aa (ab (i:=0)) ae)) aW.nd)
    (ah (aQ (i:=3) (ao qk.mono Np (hr.mono (by decide)) eU.m eU.F.kp eU.b (aa (ab (i:=0)) ae)) aW.nd)
    (ah (aQ (i:=4) (ao iw.mono Rl (hr.mono (by decide)) gg.m gg.F.kp gg.b (aa (ab (i:=0)) ae)) aW.nd)
    (ah (dD (i:=5) (λ_=>(bS ae)) aW.nd)
    (ah (dD (i:=6) (λ_=>(Hd B.set)) aW.nd)
    (ah (zC (i:=6) hr.lb (λ_=>(aR (aa ag (aa (ab (i:=1)) ae)))))
    (ah (cG aaU rfl (bc B.range (aa (ab (i:=1)) ae)) (ai (i:=7) aW.nd) (aj (cG aaU rfl (ku B.range (aa (aC aK au (ab (i:=7)) ag) (aa (aC aK au (ab (i:=1)) ag) ae))) (ai (i:=8) aW.nd) (aj (bo (aA af (bq.m (Ht hr.lb)) (aR (aa (ab (i:=7)) (aa (ab (i:=8)) ae))) (ab (i:=6))) (aj (cG aaU rfl (aS (ao l5.mono Rn (hr.mono (by decide)) f9.m f9.F.kp f9.b (aa (ab (i:=2)) (aa (ab (i:=3)) (aa (ab (i:=4)) (aa (ab (i:=7)) (aa (ab (i:=8)) ae))))))) (ai (i:=9) aW.nd) (ah (d4 (i:=5) (λ_=>(aR (aa (ab (i:=7)) (aa (ab (i:=9)) ae)))))
    (aj (cG aaU rfl (aS (ao iy.mono Rm (hr.mono (by decide)) fB.m fB.F.kp fB.b (aa (ab (i:=7)) (aa (ab (i:=9)) (aa (ab (i:=8)) ae))))) (ai (i:=10) aW.nd) (aj (zC (i:=6) hr.lb (λ_=>(ab (i:=10)))))))))) aM)))))
    (aj (lI (i:=5))))))))))),λds R h=>?_⟩
 obtain⟨n,ps,rfl,ok,hn,q⟩:=h;have hp:∀p∈ps,p.1<p.2:=λp hp=>(ok.lt p hp).1;refine{_,rfl,tv,_,rfl,_,rfl,tv,n,ps,rfl,ok,_,rfl,tv,n,ps,rfl,ok,_,rfl,tv,n,ps,rfl,ok,?_};refine{aab _,tv,tv,{_,rfl},tv,_,rfl,tv,gF,tI (0,n),[],rfl,rfl,(by decide),?_}
 refine{_,rfl,tv,n,rfl,by lia,by lia,tv,?_}
 rw[abb];refine BF (λi β=>∃(ts:List (List Int)) (cs:List (Nat×Option Nat)) (x7 x8 x9 jW:Option Q.B),β=[ν (.val η (eG n ps)),ν (.val ζ (.int n)),ν (.val ζ (xm n ps)),ν (.val ζ (wD ps w1)),ν (.val ζ (ff n (tW ps w1))),ν (.own (.lst (cs.map Cn))),ν (.own (.sT ts)),x7,x8,x9,jW]/\Mt ps n (λa _=>a<i) ts cs/\cs.length<=1700*i) {_,[],_,_,_,_,rfl,Mt.start.weak λa b z=>Η z (Nat.not_lt_zero _),aab _} (λE1 r1 i n1 d β hd h=>?_) ?_
 ·obtain⟨ts,cs,x7,x8,x9,jW,rfl,m,hc⟩:=h;obtain⟨hi,rfl⟩:=bL hd;rw[Int.zero_add];refine{_,rfl,tv,_,rfl,tv,_,rfl,tv,_,rfl,tv,(i:Int)+1,(n:Int)+1,rfl,{by lia,by lia,by lia,by lia},tv,?_}
  rw[show ((n:Int)+1-((i:Int)+1)).toNat=n-i by lia]
  refine BF (λk β=>∃(ts:List (List Int)) (cs:List (Nat×Option Nat)) (x8 x9 jW:Option Q.B),β=[ν (.val η (eG n ps)),ν (.val ζ (.int n)),ν (.val ζ (xm n ps)),ν (.val ζ (wD ps w1)),ν (.val ζ (ff n (tW ps w1))),ν (.own (.lst (cs.map Cn))),ν (.own (.sT ts)),ν (.val ζ (.int (i:Int))),x8,x9,jW]/\Mt ps n (λa b=>a<i\/(a=i/\b<i+1+k)) ts cs/\cs.length<=1700*i+42*k) {_,cs,_,_,_,rfl,{m.s0,m.s1,λa b z l ht=>m.s2 a b (by lia) l ht,m.c1,m.nd},by lia} (λE2 r2 k n2 d β hd h=>?_) ?_
  ·obtain⟨ts,cs,x8,x9,jW,rfl,m,hc⟩:=h;have hk:=(bL hd).1;obtain⟨j,hj,rfl⟩:=Dj (a:=i+1) hd (by lia)
   refine{_,rfl,tv,_,rfl,tv,gF,tv,_,rfl,_,IX (t:=tI (i,j)),_,rfl,qc (λnV=>?_) (λnV=>n2 _ {ts,cs,_,_,_,rfl,m.done (i:=i) (j:=j) (λa b z l=>?_) (λh=>Η h nV),by lia})}
   ·have hr:=m.reach nV;have aL:i<j:=by lia
    refine{_,rfl,tv,_,rfl,tv,_,rfl,tv,_,rfl,tv,_,rfl,tv,n,ps,w1,tW ps w1,i,j,rfl,ok,aL,by lia,_,rfl,tv,?_}
    refine BF (λl β=>∃(ts:List (List Int)) (cs:List (Nat×Option Nat)) (x9 jW:Option Q.B),β=[ν (.val η (eG n ps)),ν (.val ζ (.int n)),ν (.val ζ (xm n ps)),ν (.val ζ (wD ps w1)),ν (.val ζ (ff n (tW ps w1))),ν (.own (.lst (cs.map Cn))),ν (.own (.sT ts)),ν (.val ζ (.int (i:Int))),ν (.val ζ (.int (j:Int))),x9,jW]/\Mt ps n (λa b=>a<i\/(a=i/\b<i+1+k)) ts cs/\(∀c∈(BC ps i j).take l,(i,c)∈cs/\∀q∈parts i c j,tI q∈ts)/\cs.length<=1700*i+42*k+l) {ts,cs,_,_,rfl,m,λc h=>by (rw[List.take_zero]at h;cases h),hc} (λE3 r3 l n3 d β hd h=>?_) ?_
    ·obtain⟨ts,cs,x9,jW,rfl,m,QM,hc⟩:=h;rw[aah]at hd;obtain⟨c,Cj,rfl⟩:=aai.mp hd;have U8:c∈BC ps i j:=aaF Cj;have hl:l<(BC ps i j).length:=(aaf.mp Cj).1;have hb:=md hp ok.nd (l:=j-i-1) (i:=i);rw[show i+(j-i-1)+1=j by lia]at hb
     have qU:(BC ps i j).length<=40:=by show (bG ps w1 (tW ps w1) i j).length<=40;lia
     have et:(BC ps i j).take (l+1)=(BC ps i j).take l++[c]:=by rw[aba,Cj];rfl
     have m':=m.app hr aL U8;have hsz:(cs.map Cn).length<aak:=by rw[ZU,aaT];lia
     have em:cs.map Cn++[Cn (i,c)]=(cs++[(i,c)]).map Cn:=by rw[aaj];rfl
     let J:Nat->Q.ba->Prop:=λu β=>∃(bB:List (List Int)) (jW:Option Q.B),β=[ν (.val η (eG n ps)),ν (.val ζ (.int n)),ν (.val ζ (xm n ps)),ν (.val ζ (wD ps w1)),ν (.val ζ (ff n (tW ps w1))),ν (.own (.lst (cs.map Cn++[Cn (i,c)]))),ν (.own (.sT bB)),ν (.val ζ (.int (i:Int))),ν (.val ζ (.int (j:Int))),ν (.val ζ (oD c)),jW]/\Mt ps n (λa b=>a<i\/(a=i/\b<i+1+k)) bB (cs++[(i,c)])/\(∀t∈ts,t∈bB)/\∀q∈(parts i c j).take u,tI q∈bB
     have rest:∀β,J ((parts i c j).map zq).length β->E3.nx β:=by
      rintro β ⟨bB,jW,rfl,m2,h1,h2⟩;rw[ZU,abx]at h2;rw[em];refine n3 _ {bB,cs++[(i,c)],_,_,rfl,m2,λc' sR=>?_,by rw[aag,abo];lia}
      rw[et]at sR;rcases Z9.mp sR with z|z
      ·exact{aaP _ (QM c' z).1,λq hq=>h1 _ ((QM c' z).2 q hq)}
      ·rw[ZY.mp z];exact{aaB _ (ZY.mpr rfl),h2}
     have VT:J 0 [ν (.val η (eG n ps)),ν (.val ζ (.int n)),ν (.val ζ (xm n ps)),ν (.val ζ (wD ps w1)),ν (.val ζ (ff n (tW ps w1))),ν (.own (.lst (cs.map Cn++[Cn (i,c)]))),ν (.own (.sT ts)),ν (.val ζ (.int (i:Int))),ν (.val ζ (.int (j:Int))),ν (.val ζ (oD c)),jW]:={ts,jW,rfl,m',λ_ z=>z,λq z=>by (rw[List.take_zero]at z;cases z)}
     have add:∀{bB:List (List Int)} {u:Nat} {q:NN},(parts i c j)[u]?=ν q->Mt ps n (λa b=>a<i\/(a=i/\b<i+1+k)) bB (cs++[(i,c)])->(∀t∈ts,t∈bB)->(∀q∈(parts i c j).take u,tI q∈bB)->Mt ps n (λa b=>a<i\/(a=i/\b<i+1+k)) (iG (tI q) bB) (cs++[(i,c)])/\(∀t∈ts,t∈iG (tI q) bB)/\∀q'∈(parts i c j).take (u+1),tI q'∈iG (tI q) bB:=by
      intro bB u q hq m2 h1 h2;have Ww:=aaF hq;refine{m2.add (λa b z=>?_) (.step hr aL U8 Ww),λt ht=>c6.mpr (.inr (h1 t ht)),λq' Qv=>?_}
      ·have:=DR hp U8 Ww;lia
      ·rw[aba,hq]at Qv;rcases Z9.mp Qv with z|z
       ·exact c6.mpr (.inr (h2 q' z))
       ·rw[ZY.mp z];exact c6.mpr (.inl rfl)
     cases c with
     |none =>
      refine{{_,rfl},_,rfl,tv,_,rfl,tv,gF,tv,_,rfl,hsz,?_};refine{_,rfl,tv,_,rfl,tv,_,rfl,tv,i,ξ,j,rfl,_,rfl,tv,?_};refine BF J VT (λE4 r4 u n4 d β hd h=>?_) rest;obtain⟨bB,jW,rfl,m2,h1,h2⟩:=h;rw[aah]at hd;obtain⟨q,hq,rfl⟩:=aai.mp hd;obtain⟨a1,a2,a3⟩:=add hq m2 h1 h2;exact{{_,rfl},_,rfl,tI q,bB,rfl,rfl,m2.len hp hn,n4 _ {_,_,rfl,a1,a2,a3}}
     |some kk =>
      refine{{_,rfl},_,rfl,tv,_,rfl,tv,gF,tv,_,rfl,hsz,?_};refine{_,rfl,tv,_,rfl,tv,_,rfl,tv,i,ν kk,j,rfl,_,rfl,tv,?_};refine BF J VT (λE4 r4 u n4 d β hd h=>?_) rest;obtain⟨bB,jW,rfl,m2,h1,h2⟩:=h;rw[aah]at hd;obtain⟨q,hq,rfl⟩:=aai.mp hd;obtain⟨a1,a2,a3⟩:=add hq m2 h1 h2;exact{{_,rfl},_,rfl,tI q,bB,rfl,rfl,m2.len hp hn,n4 _ {_,_,rfl,a1,a2,a3}}
    ·rintro β ⟨ts,cs,x9,jW,rfl,m,QM,hc⟩;rw[ZU,abx]at QM;rw[ZU]at hc;have hb:=md hp ok.nd (l:=j-i-1) (i:=i);rw[show i+(j-i-1)+1=j by lia]at hb
     exact n2 _ {ts,cs,_,_,_,rfl,m.done (i:=i) (j:=j) (λa b z l=>by lia) (λ_=>QM),by lia}
   ·lia
  ·rintro β ⟨ts,cs,x8,x9,jW,rfl,m,hc⟩;rw[b5]at m hc;exact n1 _ {ts,cs,_,_,_,_,rfl,{m.s0,m.s1,λa b z l ht=>m.s2 a b (by have:=(pB hp (m.reach ht)).2;lia) l ht,m.c1,m.nd},by lia}
 ·rintro β ⟨ts,cs,x7,x8,x9,jW,rfl,m,hc⟩;rw[b5]at m hc;exact{_,rfl,q cs (m.met hp λa b l hb=>by lia) (by lia)}
def b4:aN ["row","choices","free","tied","always","never"] ["row"] (aw eF):=mkS
def oC {n9 iT}(qE:N1 K mg n9 iT){l0 gv}(uC:Nq K mg l0 gv){gf cX}(gg:Gg K mg gf cX){fz cE}(gD:D8 K mg fz cE){dW bT}(dY:D5 K mg dW bT){eQ b_}(f7:D4 K mg eQ b_){eT cc}(gC:D7 K mg eT cc){c7 bC}(d9:D6 K mg c7 bC){fy cD}(eU:D9 K mg fy cD){fA cF}(f9:Cr K mg fA cF){eS cb}(fB:B_ K mg eS cb)(B:uK mg):aG P w K mg base bt 6 n9 iT ["row"] (bW P w ζ Gx):=by
 have Zj:aG P w K mg base bt 5 _ _ _ (bW P w ζ Fu):=LP uC gg gD dY f7 gC d9 eU f9 fB B;refine nF qE.F b4 (λds R P8=> by obtain⟨n,ps,e,_⟩ := P8;subst e;rfl) λc_ A outer s H E hr=>⟨_,(ah (aQ (i:=1) (ao Fu.mono Zj (hr.mono (by decide)) uC.m uC.F.kp uC.b (aa (ab (i:=0)) ae)) b4.nd)
    (ah (dD (i:=2) (λ_=>(Xy ["i","k"] [ξ,ξ] (by rfl) (by decide:(["i","k"]:List Str).Nodup) rfl (aS (ab (i:=1))) (λ_ _ _ _ _ _=>(bA (n:=2) rfl (az (ai (i:=0) (by decide:(["i","k"]:List Str).Nodup)) (az (ai (i:=1) (by decide:(["i","k"]:List Str).Nodup)) bg)))) (λ_ _ _ _ _ _=>(fH (aA af (bq.m t_) (ab (i:=1)) ie))) (λ_ _ _ _ _ _=>(ab (i:=0))))) b4.nd)
    (ah (dD (i:=3) (λ_=>(S6 ["choice","point"] [ξ,ξ] (by rfl) (by decide:(["choice","point"]:List Str).Nodup) rfl (aS (ab (i:=1))) (λ_ _ _ _ _ _=>(ai (i:=0) (by decide:(["choice","point"]:List Str).Nodup))) (λ_ _ _ _ _ _=>(fH (aA af (bq.m pP) (aF af aU (ab (i:=0)) ag) ie))) (λ_ _ _ _ _ _=>(Bb (i:=0))) (λ_ _ _ _ _ _=>(ai (i:=1) (by decide:(["choice","point"]:List Str).Nodup))) (λ_ _ _ _ _ _=>cz) (λ_ _ _ _ _ _=>(ab (i:=1))))) b4.nd)
    (ah (rg (i:=4) ζ ["point","free"] [ξ,ν 2] (by rfl) (by decide:(["point","free"]:List Str).Nodup) rfl (λ_=>(bc B.range (aa (aF af aU (ab (i:=0)) ag) ae))) (λ_ _ _ _ _ _=>(ai (i:=0) (by decide:(["point","free"]:List Str).Nodup))) (λ_ _ _ _ _ _=>(fH (aA af (bq.m pQ) (ab (i:=0)) (ab (i:=1))))) (λ_ _ _ _ _ _=>(ab (i:=0))) b4.nd)
    (ah (rg (i:=5) ζ ["point","tied"] [ξ,ν 3] (by rfl) (by decide:(["point","tied"]:List Str).Nodup) rfl (λ_=>(bc B.range (aa (aF af aU (ab (i:=0)) ag) ae))) (λ_ _ _ _ _ _=>(ai (i:=0) (by decide:(["point","tied"]:List Str).Nodup))) (λ_ _ _ _ _ _=>(fH (aA af (bq.m pQ) (ab (i:=0)) (ab (i:=1))))) (λ_ _ _ _ _ _=>(ab (i:=0))) b4.nd)
    (aj (DQ (i:=4) (j:=5) (by decide)))))))),λds R h=>?_⟩
 obtain⟨n,ps,rfl,ok,hn,q⟩:=h;have hp:∀p∈ps,p.1<p.2:=λp hp=>(ok.lt p hp).1;refine{_,rfl,tv,n,ps,rfl,ok,hn,λcs mt hl=>?_};have q':R (.tup [.lst (((Z_ n).filter λp:Nat=>!mem (Ab cs) (p:Int)).map λp:Nat=>.int (p:Int)),.lst (((Z_ n).filter λp:Nat=>!mem (cs.flatMap uY) (p:Int)).map λp:Nat=>.int (p:Int))]):=by
  rw[<- Nh hp mt,<- LY hp ok.nd mt];exact q
 have tk:∀{i:Nat} {x:Nat×Option Nat},cs[i]?=ν x->cs.take (i+1)=cs.take i++[x]:=λh=>by rw[aba,h];rfl
 refine{_,rfl,_,rfl,tv,?_};refine{λi β o=>o=Ab (cs.take i)/\∃x0 x1:Option Q.B,β=[x0,x1],{rfl,_,_,rfl},?_,?_}
 ·rintro i d β o hd ⟨rfl,x0,x1,rfl⟩;rw[aah]at hd;obtain⟨⟨a,c⟩,hx,rfl⟩:=aai.mp hd;have es:Ab (cs.take (i+1))=Ab (cs.take i)++if c=ξ then [(a:Int)] else []:=by rw[tk hx,Fj]
  have hz:=MY mt hp hn (cs':=cs.take i) λx hx=>abf hx;cases c with
  |none=>exact{_,rfl,rfl,_,_,rfl,_,_,rfl,rfl,_,rfl,tv,_,rfl,_,rfl,qT rfl {_,rfl,a,rfl,hz,by rw[es];rfl,_,_,rfl}}
  |some k=>exact{_,rfl,rfl,_,_,rfl,_,_,rfl,rfl,_,rfl,tv,_,rfl,_,rfl,gB rfl {by rw[es];simp,_,_,rfl}}
 ·rintro β o ⟨rfl,x0,x1,rfl⟩;rw[ZU,abx];refine{tv,tv,_,rfl,_,rfl,tv,?_};refine{λi β o=>o=(cs.take i).flatMap uY/\∃x0 x1:Option Q.B,β=[x0,x1],{rfl,_,_,rfl},?_,?_}
  ·rintro i d β o hd ⟨rfl,x0,x1,rfl⟩;rw[aah]at hd;obtain⟨⟨a,c⟩,hx,rfl⟩:=aai.mp hd;have es:(cs.take (i+1)).flatMap uY=(cs.take i).flatMap uY++uY (a,c):=by rw[tk hx,ac4,acO,List.flatMap_nil,aa9]
   have EV:∀x∈(cs.take i).flatMap uY++uY (a,c),x∈cs.flatMap uY:=λx ES=>by
    rw[<- es]at ES;obtain⟨y,hy,h⟩:=aa6.mp ES;exact aa6.mpr {y,abf hy,h}
   cases c with
   |none=>exact{_,rfl,tv,_,rfl,tv,_,rfl,_,rfl,gB rfl {by rw[es];exact(aa9 _).symm,_,_,rfl}}
   |some k =>
    refine{_,rfl,tv,_,rfl,tv,_,rfl,_,rfl,qT rfl {_,_,rfl,?_}};refine{λu β o=>o=(cs.take i).flatMap uY++(uY (a,ν k)).take u/\∃x0 x1:Option Q.B,β=[x0,x1],{(aa9 _).symm,_,_,rfl},?_,?_}
    ·rintro u d β o hd ⟨rfl,x0,x1,rfl⟩;have hz:=KP mt hp hn (o:=(cs.take i).flatMap uY++(uY (a,ν k)).take u) λx hx=>EV x ((Z9.mp hx).elim (λz=>aaP _ z) λz=>aaB _ (abf z))
     match u,hd with
     |0,rfl=>exact{_,rfl,a,rfl,hz,by rw[aa3];rfl,_,_,rfl}
     |1,rfl=>exact{_,rfl,k,rfl,hz,by rw[aa3];rfl,_,_,rfl}
    ·rintro β o ⟨rfl,x0,x1,rfl⟩;exact{es.symm,_,_,rfl}
  ·rintro β o ⟨rfl,x0,x1,rfl⟩;rw[ZU,abx];refine{tv,tv,_,rfl,tv,_,rfl,tv,n,rfl,by lia,by lia,tv,?_}
   rw[abb];refine jk Ol (cJ (λp:Nat=>!mem (Ab cs) (p:Int)) (λp=>.int (p:Int)) tv (by rw[aaD];exact dv (by lia)) (λp kJ y0 o J ho j1 j2=>{_,rfl,tv,_,rfl,_,wK,_,rfl,?_}) ?_)
   ·by_cases hb:(!mem (Ab cs) (p:Int))=ζ
    ·exact qT hb {_,rfl,tv,ho,j1 hb _}
    ·exact gB (by simpa using hb) (j2 (by simpa using hb) _)
   refine{_,rfl,tv,_,rfl,tv,n,rfl,by lia,by lia,tv,?_}
   rw[abb];refine jk Ol (cJ (λp:Nat=>!mem (cs.flatMap uY) (p:Int)) (λp=>.int (p:Int)) tv (by rw[aaD];exact dv (by lia)) (λp kJ y0 o J ho j1 j2=>{_,rfl,tv,_,rfl,_,wK,_,rfl,?_}) ?_)
   ·by_cases hb:(!mem (cs.flatMap uY) (p:Int))=ζ
    ·exact qT hb {_,rfl,tv,ho,j1 hb _}
    ·exact gB (by simpa using hb) (j2 (by simpa using hb) _)
   exact{_,_,rfl,rfl,q'}
end
section
variable {P:Z6}{w:aam}{K:Ξ}{mg:Str->Option ZW}{base:Heap}
def c5:aN ["one","other","a","b","c","d"] ["one","other"] (aw ft):=mkS
def rj {Ck nX}(dX:NZ K mg Ck nX):aG P w K mg base bt 1 Ck nX ["one","other"] (bW P w ζ qt):=by
 refine nF dX.F c5 (λds R P7=> by obtain⟨t,u,e,_⟩ := P7;subst e;rfl) λc_ A outer s H E hr=>⟨_,(ah (ij (ab (i:=0)) (bA (n:=2) rfl (az (ai (i:=2) c5.nd) (az (ai (i:=3) c5.nd) bg))))
    (ah (ij (ab (i:=1)) (bA (n:=2) rfl (az (ai (i:=4) c5.nd) (az (ai (i:=5) c5.nd) bg))))
    (aj (aO (Jw (pH (ab (i:=2)) (dC cY (ab (i:=4)) (dC cY (ab (i:=3)) (lG cY (ab (i:=5)))))) (DF (pH (ab (i:=4)) (dC cY (ab (i:=2)) (dC cY (ab (i:=5)) (lG cY (ab (i:=3)))))))))))),λds R h=>?_⟩
 obtain⟨t,u,rfl,⟨a,b,rfl⟩,⟨c,d,rfl⟩,q⟩:=h;refine{_,rfl,_,rfl,rfl,_,_,rfl,_,_,rfl,rfl,?_};refine{_,rfl,_,rfl,rfl,_,_,rfl,_,_,rfl,rfl,?_};refine F0 (a:=a) (b:=c) (c:=b) (d:=d) rfl rfl rfl rfl {_,rfl,RU (λh=>{tv,?_}) (λh=>F0 (a:=c) (b:=a) (c:=d) (d:=b) rfl rfl rfl rfl {tv,?_})}
 ·have:iC [a,b] [c,d]=ζ:=by show (_ || _)=ζ;rw[h];rfl
  rw[<- this];exact q
 ·have:iC [a,b] [c,d]=(decide (c<a)&&(decide (a<d)&&decide (d<b))):=by show (_ || _)=_;rw[h];rfl
  rw[<- this];exact q
def my:aN ["one","other"] ["one","other"] (aw df):=mkS
def Ea {Cm nY}(dS:NY K mg Cm nY):aG P w K mg base bt 1 Cm nY ["one","other"] (bW P w ζ qj):=by
 refine nF dS.F my (λds R P6=> by obtain⟨t,u,e,_⟩ := P6;subst e;rfl) λc_ A outer s H E hr=>{_,(aj (aO (Jw (kz af (bq.m (xY hr.g_)) (aF af aU (ab (i:=0)) ag) (ab (i:=1))) (DF (kz af (bq.m (xY hr.g_)) (aF af aU (ab (i:=0)) ag) (ab (i:=1))))))),λds R h=>?_}
 obtain⟨t,u,rfl,⟨a,b,rfl⟩,q⟩:=h;refine{_,rfl,tv,_,rfl,tv,_,rfl,_,FU a u,_,rfl,qc (λh=>{tv,?_}) (λh=>{_,rfl,tv,_,rfl,tv,_,rfl,_,FU b u,tv,?_})}
 ·show R _;simpa[fK,h] using q
 ·show R _;simpa[fK,h] using q
def je:aN ["row","ties","k","j"] ["row","ties","k"] (aw ia):=mkS
def Ef {Gw rG}(dF:Ro K mg Gw rG){Cm nY}(dS:NY K mg Cm nY){Ck nX}(dX:NZ K mg Ck nX)(B:Bs mg):aG P w K mg base bt 2 Gw rG ["row","ties","k"] (bW P w ζ qr):=by
 have GS:aG P w K mg base bt 1 _ _ _ (bW P w ζ qj):=Ea dS;have GX:aG P w K mg base bt 1 _ _ _ (bW P w ζ qt):=rj dX;refine nF dF.F je (λds R P5=> by obtain⟨n,rows,ts,k,e,_⟩ := P5;subst e;rfl) λc_ A outer s H E hr=>⟨_,(bf (bo (aA af (bq.m (jN hr.g_)) (aF af aU (ab (i:=1)) (ab (i:=2))) (aF af aU (ab (i:=0)) ag)) (aj (aO (aR (aa t6 (aa (ab (i:=2)) ae))))) aM)
    (bf (bo (tE.t (jK (aA af (bq.m mJ) (ab (i:=2)) ag) (gM (aA af (bq.m (Hr hr.KD)) (aF af aU (ab (i:=1)) (ab (i:=2))) (aF af aU (ab (i:=1)) (aC af (bq.m aY) (ab (i:=2)) ag)))))) (aj (aO (aR (aa t6 (aa (ab (i:=2)) ae))))) aM)
    (ah (cG aaU rfl (bc B.range (aa (ab (i:=2)) ae)) (ai (i:=3) je.nd) (aj (bo (ib (ao qj.mono GS (hr.mono (by decide)) dS.m dS.F.kp dS.b (aa (aF af aU (ab (i:=1)) (ab (i:=3))) (aa (aF af aU (ab (i:=1)) (ab (i:=2))) ae)))) (aj (aO (aR (aa t6 (aa (ab (i:=3)) (aa (ab (i:=2)) ae)))))) aM)))
    (ah (cG aaU rfl (bc B.range (aa (ab (i:=2)) ae)) (ai (i:=3) je.nd) (aj (bo (ib (ao qt.mono GX (hr.mono (by decide)) dX.m dX.F.kp dX.b (aa (aF af aU (ab (i:=1)) (ab (i:=3))) (aa (aF af aU (ab (i:=1)) (ab (i:=2))) ae)))) (aj (aO (aR (aa t6 (aa (ab (i:=3)) (aa (ab (i:=2)) ae)))))) aM)))
    (aj (aO ie)))))),λds R h=>?_⟩
 obtain⟨n,rows,ts,k,rfl,hk,hp,hb,q⟩:=h;obtain⟨t,et⟩:∃t,ts[k]?=ν t:={ts[k],Z4 hk};have pt:Pair t:=hp t (aaF et);rw[m7 et]at q;unfold l3 at q;refine{λβ=>β=[ν (.val η (.tup [.int n,.lst (rows.map kD)])),ν (.val η (.lst (ts.map kD))),ν (.val η (.int (k:Int))),ξ]/\t∈rows,?_,?_}
 ·refine{_,rfl,tv,_,rfl,_,kO et,tv,_,rfl,tv,_,rfl,.inr {_,yI t rows,_,rfl,RT (λh=>?_) (λh=>{(rfl),h})}};exact{tv,_,rfl,tv,gF,tv,by rw[ω h]at q;exact q}
 ·rintro β ⟨rfl,ht⟩;rw[χ ht]at q;refine{λβ=>β=[ν (.val η (.tup [.int n,.lst (rows.map kD)])),ν (.val η (.lst (ts.map kD))),ν (.val η (.int (k:Int))),ξ]/\(decide (0<k)&&uN ts (λu=>!HT.lexLt u t) (k-1))=η,?_,?_}
  ·refine{_,rfl,tv,_,rfl,_,rfl,qc (λz7=>?_) (λz7=>gB rfl {rfl,?_})}
   ·have Ci:0<k:=by lia
    obtain⟨u,eu⟩:∃u,ts[k-1]?=ν u:={ts[k-1],Z4 (by lia)}
    have ei:xp (.lst (ts.map kD)) (.int ((k:Int)-1))=ν (kD u):=by
     rw[show (k:Int)-1=((k-1:Nat):Int) by lia];exact kO eu
    have ea:uN ts (λu=>!HT.lexLt u t) (k-1)=!HT.lexLt u t:=by unfold uN;rw[eu]
    refine{_,rfl,tv,_,rfl,_,kO et,tv,_,rfl,tv,_,rfl,tv,_,rfl,_,ei,_,IT t u,_,rfl,RU (λh=>?_) (λh=>{rfl,?_})}
    ·exact{tv,_,rfl,tv,gF,tv,by rw[χ (by rw[ea,h];simp[Ci])]at q;exact q}
    ·rw[ea,h];simp
   ·have:¬ 0<k:=by lia
    simp[this]
  ·rintro β ⟨rfl,ho⟩;rw[ω (by rw[ho];simp)]at q
   refine{_,rfl,tv,k,rfl,by lia,by lia,tv,?_}
   refine{λi β=>(∃x3,β=[ν (.val η (.tup [.int n,.lst (rows.map kD)])),ν (.val η (.lst (ts.map kD))),ν (.val η (.int (k:Int))),x3])/\∀j<i,uN ts (λu=>fK u t) j=η,{{_,rfl},λj hj=>by lia},?_,?_}
   ·rintro i d β hd ⟨⟨x3,rfl⟩,rq⟩;obtain⟨hi,rfl⟩:=bL hd;rw[abb]at hi;obtain⟨u,eu⟩:∃u,ts[i]?=ν u:={ts[i],Z4 (by lia)}
    have ei:xp (.lst (ts.map kD)) (.int (0+(i:Int)))=ν (kD u):=by
     rw[show 0+(i:Int)=(i:Int) by lia];exact kO eu
    have ea:uN ts (λu=>fK u t) i=fK u t:=by unfold uN;rw[eu]
    refine{_,rfl,tv,_,rfl,_,ei,tv,_,rfl,tv,_,rfl,_,kO et,tv,u,t,rfl,hp u (aaF eu),_,rfl,RU (λh=>?_) (λh=>{{_,rfl},λj hj=>?_})}
    ·rw[kK hi (by rw[ea];exact h) rq]at q
     exact{tv,_,rfl,tv,_,rfl,tv,SS,tv,by rw[show (0+(i:Int))=(i:Int) by lia];exact q}
    ·by_cases JU:j<i
     ·exact rq j JU
     ·rw[show j=i by lia,ea];exact h
   ·rintro β ⟨⟨x3,rfl⟩,rq⟩;rw[b5,abb]at rq;rw[find_none rq]at q;refine{_,rfl,tv,k,rfl,by lia,by lia,tv,?_}
    refine{λi β=>(∃x3,β=[ν (.val η (.tup [.int n,.lst (rows.map kD)])),ν (.val η (.lst (ts.map kD))),ν (.val η (.int (k:Int))),x3])/\∀j<i,uN ts (λu=>iC u t) j=η,{{_,rfl},λj hj=>by lia},?_,?_}
    ·rintro i d β hd ⟨⟨x3,rfl⟩,rq⟩;obtain⟨hi,rfl⟩:=bL hd;rw[abb]at hi;obtain⟨u,eu⟩:∃u,ts[i]?=ν u:={ts[i],Z4 (by lia)}
     have ei:xp (.lst (ts.map kD)) (.int (0+(i:Int)))=ν (kD u):=by
      rw[show 0+(i:Int)=(i:Int) by lia];exact kO eu
     have ea:uN ts (λu=>iC u t) i=iC u t:=by unfold uN;rw[eu]
     refine{_,rfl,tv,_,rfl,_,ei,tv,_,rfl,tv,_,rfl,_,kO et,tv,u,t,rfl,hp u (aaF eu),pt,_,rfl,RU (λh=>?_) (λh=>{{_,rfl},λj hj=>?_})}
     ·rw[kK hi (by rw[ea];exact h) rq]at q
      exact{tv,_,rfl,tv,_,rfl,tv,SS,tv,by rw[show (0+(i:Int))=(i:Int) by lia];exact q}
     ·by_cases JU:j<i
      ·exact rq j JU
      ·rw[show j=i by lia,ea];exact h
    ·rintro β ⟨⟨x3,rfl⟩,rq⟩;rw[b5,abb]at rq;rw[find_none rq]at q;exact{(tv),q}
def fM:aN ["row","ties","k","fault"] ["row","ties"] (aw eD):=mkS
def Ee {J0 wt}(dO:Ss K mg J0 wt){Gw rG}(dF:Ro K mg Gw rG){Cm nY}(dS:NY K mg Cm nY){Ck nX}(dX:NZ K mg Ck nX)(B:Bs mg):aG P w K mg base bt 3 J0 wt ["row","ties"] (bW P w ζ qq):=by
 have GF:aG P w K mg base bt 2 _ _ _ (bW P w ζ qr):=Ef dF dS dX B;refine nF dO.F fM (λds R P4=> by obtain⟨n,rows,ts,e,_⟩ := P4;subst e;rfl) λc_ A outer s H E hr=>⟨_,(ah (cG aaU rfl (bc B.range (aa (a9 af (bU.m gZ) B.len qJ (aa (ab (i:=1)) ae)) ae)) (ai (i:=2) fM.nd) (ah (aQ (i:=3) (ao qr.mono GF (hr.mono (by decide)) dF.m dF.F.kp dF.b (aa (ab (i:=0)) (aa (ab (i:=1)) (aa (ab (i:=2)) ae)))) fM.nd)
    (aj (bo (aA af (bq.m pP) (ab (i:=3)) ie) (aj (aO (ab (i:=3)))) aM))))
    (aj (aO ie))),λds R h=>?_⟩
 obtain⟨n,rows,ts,rfl,hl,hp,q⟩:=h;refine{_,rfl,tv,_,rfl,tv,_,rfl,by rw[ZU];lia,by rw[ZU];lia,tv,?_}
 rw[ZU];refine{λi β=>(∃x2 x3,β=[ν (.val η (.tup [.int n,.lst (rows.map kD)])),ν (.val η (.lst (ts.map kD))),x2,x3])/\∀j<i,kL rows ts j=ξ,{{_,_,rfl},λj hj=>by lia},?_,?_}
 ·rintro i d β hd ⟨⟨x2,x3,rfl⟩,rq⟩;obtain⟨hi,rfl⟩:=bL hd;rw[abb]at hi;refine{_,rfl,tv,_,rfl,tv,_,rfl,tv,n,rows,ts,i,by rw[Int.zero_add],hi,hp,by lia,?_}
  cases hf:kL rows ts i with
  |none =>
   refine{_,rfl,tv,_,rfl,_,rfl,gB rfl {{_,_,rfl},λj hj=>?_}}
   by_cases JU:j<i
   ·exact rq j JU
   ·rw[show j=i by lia];exact hf
  |some x =>
   refine{_,rfl,tv,_,rfl,_,rfl,qT rfl {_,rfl,Fo (ν x),?_}};rw[<- v9 hi hf rq];exact q
 ·rintro β ⟨⟨x2,x3,rfl⟩,rq⟩;rw[b5,abb]at rq;refine{tv,?_};have:iu rows ts=ξ:=Iz rq;rw[this]at q;exact q
def A4:aN ["row","ties"] ["row","ties"] (aw lz):=mkS
def Ec {NM BH}(dE:VM K mg NM BH){J0 wt}(dO:Ss K mg J0 wt){Gw rG}(dF:Ro K mg Gw rG){Cm nY}(dS:NY K mg Cm nY){Ck nX}(dX:NZ K mg Ck nX)(B:Bs mg):aG P w K mg base bt 4 NM BH ["row","ties"] (bW P w ζ qo):=by
 have GO:aG P w K mg base bt 3 _ _ _ (bW P w ζ qq):=Ee dO dF dS dX B;refine nF dE.F A4 (λds R P2=> by obtain⟨n,rows,ts,e,_⟩ := P2;subst e;rfl) λc_ A outer s H E hr=>{_,(aj (aO (kz af (bq.m t_) (ao qq.mono GO (hr.mono (by decide)) dO.m dO.F.kp dO.b (aa (ab (i:=0)) (aa (ab (i:=1)) ae))) ie))),λds R h=>?_}
 obtain⟨n,rows,ts,rfl,hl,hp,q⟩:=h;refine{_,rfl,tv,_,rfl,tv,n,rows,ts,rfl,hl,hp,tv,?_};cases hf:iu rows ts with
 |none=>rw[hf]at q;exact{_,rfl,tv,q}
 |some x=>rw[hf]at q;exact{_,rfl,tv,q}
end
end qW
namespace L2.Q
open PySem PySem.Spec PySem.SeqAt PyProof.Rows
def DT {X:Cx}{elt:Expr}{te:TE}{a:θ}(hx:X.xe=λ_ _=>False)(hu:X.A.units+16<abQ)(he:PE X elt te):
  oh X (gG (sX elt (.ref a) X.env)) (λN σ H=>te σ H λv H1=>Dq X (.ref a) [v] H1 λ_ H2=>N σ H2):=by
 intro μ s σ H N k Q E I h hk;unfold gG sX;refine ZV (ZV (bQ (dJ hx (he μ s σ H _ I h)) λu s1 iX=>?_));obtain⟨v,H1,I1,r1,q⟩:=iX;refine ZV (abE (ZV (bQ (dJ hx (sD hu μ s1 σ H1 (.ref a) [v] (.ref a) [u] _ I1 rfl (.cons r1 .nil) q)) λr s2 mV=>?_)));obtain⟨_,H2,I2,_,q2⟩:=mV;exact Z0 (hk σ H2 s2 I2 q2)
def Su (P:Z6)(w:aam)(a:θ)(o:List (List Int))(H:Hp):Prop:=∃ts,H a=ν (kR P w a ts)/\(∀x∈ts,H x.1=ν (.tup (x.2.map V.int)))/\ts.length<=o.length/\(ts.map (·.2)).Perm (kY o)
def F_ {P:Z6}{w:aam}{a:θ}:xl a (Su P w a):=⟨λo H H' s h=>by
  obtain⟨ts,h1,h2,h3⟩:=h;exact{ts,s _ _ h1,λx hx=>s _ _ (h2 x hx),h3},λo H xs h z=>by
  obtain⟨ts,h1,_⟩:=h;rw[h1]at z;cases z⟩
abbrev VP (X:Cx)(C:Cfg)(a:θ)(φ:aP):ml:=λN σ H=>tQ X (C.u λc=>c=a) ζ φ σ H λv H1=>Dq X (.ref a) [v] H1 λ_ H2=>N σ H2
def FE (φ:aP)(o:List (List Int))(β:ba)(N:ba->List (List Int)->Prop):Prop:=φ β λx _ β3=>∃key,x=kD key/\o.length<1000/\N β3 (o++[key])
def Dg {X:Cx}{C:Cfg}{W0:θ->Prop}{T:List Nat}{σ0:St}{H1:Hp}{a:θ}{Hb:Hp}{Wb:θ->Prop}{φ:aP}(h0:C.H0 a=ξ)(ha:H1 a=ξ)(φm:∀β R R',(∀d k β,R d k β->R' d k β)->φ β R->φ β R'){β:ba}{o:List (List Int)}{σ:St}{H:Hp}{N:ba->List (List Int)->Prop}(s:rN X C W0 T σ0 H1 a Hb Wb (Su X.prog X.w a) β o σ H)(q:FE φ o β N):
  VP X C a φ (λσ' H'=>∃β' o',rN X C W0 T σ0 H1 a Hb Wb (Su X.prog X.w a) β' o' σ' H'/\N β' o') σ H:=by
 obtain⟨own,s⟩:=s;refine{β,own,s.sq,φm _ _ _ (λxd kx β6 iX v H6 Bh o6 r6=>?_) q};obtain⟨key,rfl,hz,q⟩:=iX;obtain⟨sm,rfl⟩:=o6.pu rfl;have s6:=s.next F_ o6.sq (λ_ z=>z) sm (λ_ _=>rfl)
 obtain⟨t,us,rfl,ht,mW⟩:=r6.rep;rw[_root_.L2.bj mW]at ht;obtain⟨ts,at',os,hl,pm⟩:=s6.ac;have nt:∀{b xs},H6 b=ν (.tup xs)->b≠a:=λe z=>by rw[z,at']at e;cases e
 refine{a,ts,t,key,rfl,rfl,at',ht,os,by lia,λbB m1 m2=>{β6,o++[key],{_,s6.put h0 ha at' (λxs z=>by cases z) {bB,ar,λx hx=>?_,?_,?_}},q}}
 ·rcases m1 x hx with z|rfl
  ·rw[aD (nt (os x z))];exact os x z
  ·rw[aD (nt ht)];exact ht
 ·have:=m2.length_eq;rw[ZU]at this;have h3:(iG key (ts.map (·.2))).length<=ts.length+1:=by
   unfold iG
   split
   ·rw[ZU];lia
   ·rw[aaa,ZU];exact ZX _
  rw[aag,abo];lia
 ·have d1:=dQ o;have d2:=dQ (o++[key]);refine m2.trans ((ac_ (kQ ((pm.nodup_iff).mpr d1.1)) d2.1).mpr λx=>?_);rw[c6,pm.mem_iff,d1.2,d2.2,Z9,ZY];exact Or.comm
def Lh (lk:List (Option Nat))(ι:cf)(γ:dc)(τ:a6)(φ:aP):aP:=λβ R=>ι β λds k β1=>hold k η/\jl γ τ (FE φ) ds k (cC lk β1) [] λβf o=>fe (cC lk β1) βf/\R (.sT (kY o)) .own β1
section
variable {X:Cx}{C:Cfg}{lk:List (Option Nat)}{γ:dc}{τ:a6}{φ:aP}{T:List Nat}
variable {scope:acn}{tg cw elt:Expr}{ifs:List Expr}{ι:cf}{pi:Bool}{pos:Pos}
def Xz (hu:X.A.units+16<abQ)(N':List Str)(lk:List (Option Nat))(L:gz X.env.scope.names X.N scope N' lk=ζ)(oN:N'.Nodup)(hc:X.calm=ζ)(hi:xr X C pi tg cw ι)
  (mY:∀a cl c s H ex,xf (ay X scope N' cl c s H ex) (C.u λc=>c=a) tg T γ) (i5:∀a cl c s H ex,og (ay X scope N' cl c s H ex) (C.u λc=>c=a) ζ ifs τ)
  (iP:∀a cl c s H ex,PQ (ay X scope N' cl c s H ex) (C.u λc=>c=a) ζ elt φ) (hT:T.all (λi=>match lk[i]? with|some (ν _)=>η|_=>ζ)=ζ:=by rfl)
  (hs:∀x,aaO cw X.env x=pure x:=by intro _;rfl):PQ X C pi (.SetComp elt [{tg,cw,ifs,0}] scope pos) (Lh lk ι γ τ φ):=by
 have L:=Links.of L;have BD:∀i∈T,∀j,lk[i]?≠ν (ν j):=λi hi j e=>by
  have:=abP.mp hT i hi;rw[e]at this;cases this
 have γm:=(mY 0 [] 0 X.s₀ X.H₀ []).mono;have τm:=(i5 0 [] 0 X.s₀ X.H₀ []).mono;have φm:=(iP 0 [] 0 X.s₀ X.H₀ []).mono;refine{λβ R R' k h=>hi.mono β _ _ (λds kd β1 q=>{q.1,q.2.mono λ_ _ z=>{z.1,k _ _ _ z.2}}) h,?_};refine(vp (g:={tg,cw,ifs,0}) (gs:=[]) (tg:=λa=>Gm X C a T γ) (tt:=λa=>lq X (C.u λc=>c=a) ζ τ) (ta:=λa=>VP X C a φ)
  L hc HH rfl rfl (λ_ _=>J_) hi.pi (λa cl c s H ex=>{(mY a cl c s H ex).pg,(i5 a cl c s H ex).pt,DT (X:=ay X scope N' cl c s H ex) rfl hu (iP a cl c s H ex).pe}) hs).pre λσ H Q h=>?_
 obtain⟨β,own,s,h⟩:=h;refine{β,own,s,hi.mono β _ _ (λds k β1 h J H1 aH o1 it a ha=>?_) h};obtain⟨hk,q⟩:=h;refine i_ (T:=T) (F_ (P:=X.prog) (w:=X.w)) γm τm (λj hj=>hj) (bJ L oN) BD o1.sq ha hk it (show Su X.prog X.w a [] _ from {[],ar,λx hx=>(nomatch hx),ZX _,.nil}) (o1.sq.uy (λxs z=>by cases z) ha (bJ L oN))
  (λHb Wb βx ox σx Hx Nx h0 sx qx=>Dg h0 ha φm sx qx) q λo H' q o2 r=>?_
 obtain⟨ts,at',os,_,pm⟩:=r;refine q _ _ aH {o2.sq,o1.sn.trans o2.sn,λz=>{(o1.pu z).1.trans (o2.pu rfl).1,(o1.pu z).2},o1.le} {[a],{a,rfl,{(ts),at',os,pm},rfl},by simp,λc hc=>?_}
 rw[ZY.mp hc];exact{aaz λz=>o1.sn.d a z ha,λh=>by obtain⟨j,hj⟩:=h;exact(o1.sq.dm j a hj).1 ha,aaz λz=>o1.sq.ju a z ha}
end
end L2.Q
namespace qW
open PySem L2 L2.Q
section
variable {P:Z6}{w:aam}{K:Ξ}{mg:Str->Option ZW}{base:Heap}
def mz:aN ["many","ties","a","b"] ["many","ties"] (aw ly):=mkS
def sC {wx nM}(Ap:Sr K mg wx nM)(B:Bs mg):aG P w K mg base bt 1 wx nM ["many","ties"] (bW P w ζ kM):=by
 refine nF Ap.F mz (λds R P1=> by obtain⟨n,gs,e,_⟩ := P1;subst e;rfl) λc_ A outer s H E hr=>⟨_,(ah (bo (aA af (bq.m cY) (ab (i:=0)) ag) mH aM)
    (ah (cG aaU rfl (aS (ab (i:=1))) (bA (n:=2) rfl (az (ai (i:=2) mz.nd) (az (ai (i:=3) mz.nd) bg))) (aj (bo (ic (se ag (dC mI (a9 af (bU.m (d_ rfl)) B.min nc (aa (ab (i:=2)) (aa (ab (i:=3)) ae))) (dC cY (a9 af (bU.m (iD rfl)) B.max ng (aa (ab (i:=2)) (aa (ab (i:=3)) ae))) (lG cY (ab (i:=0))))))) mH aM)))
    (aj (aO (aR (aa (ab (i:=0)) (aa (a9 aK (l9 rfl) B.sorted g6 (aa (Xz hr.lb ["a","b"] [ξ,ξ] (by rfl) (by decide:(["a","b"]:List Str).Nodup) rfl (aS (ab (i:=1))) (λ_ _ _ _ _ _=>(bA (n:=2) rfl (az (ai (i:=0) (by decide:(["a","b"]:List Str).Nodup)) (az (ai (i:=1) (by decide:(["a","b"]:List Str).Nodup)) bg)))) (λ_ _ _ _ _ _=>cz) (λ_ _ _ _ _ _=>(aR (aa (a9 af (bU.m (d_ rfl)) B.min nc (aa (ab (i:=0)) (aa (ab (i:=1)) ae))) (aa (a9 af (bU.m (iD rfl)) B.max ng (aa (ab (i:=0)) (aa (ab (i:=1)) ae))) ae))))) ae)) ae))))))),λds R h=>?_⟩
 obtain⟨n,gs,rfl,n0,gl,hg,q⟩:=h;refine{_,rfl,tv,_,rfl,_,rfl,gB (Δ (by lia)) ?_}
 refine{_,rfl,_,rfl,tv,?_};refine{λi β=>∃x2 x3,β=[ν (.val η (.int n)),ν (.val η (.lst (gs.map kD))),x2,x3],{_,_,rfl},?_,?_}
 ·rintro i d β hd ⟨x2,x3,rfl⟩;rw[aah]at hd;obtain⟨g,eg,rfl⟩:=aai.mp hd;obtain⟨a,b,rfl,a',b',e1,t0,t1,t2⟩:=hg g (aaF eg);have Vq:[if b<a then b else a,if a<b then b else a]=[a',b']:=e1
  injection Vq with m1 e2
  injection e2 with m2 _
  subst m1 m2;exact{_,rfl,rfl,_,_,rfl,_,_,rfl,rfl,_,rfl,tv,_,rfl,tv,_,rfl,_,rfl,qT (Γ t0) {_,rfl,tv,_,rfl,tv,_,rfl,_,rfl,qT (Γ t1) {_,rfl,_,rfl,_,rfl,gB (by show (!decide _)=η;rw[adg];exact Γ t2) {_,_,rfl}}}}
 ·rintro β ⟨x2,x3,rfl⟩;refine{_,rfl,tv,_,rfl,_,rfl,tv,?_};refine{λi β o=>(∃x0 x1,β=[x0,x1])/\i<=gs.length/\o=(gs.take i).map Ei,{{_,_,rfl},aab _,rfl},?_,?_}
  ·rintro i d β o hd ⟨⟨x0,x1,rfl⟩,hi,rfl⟩;rw[aah]at hd;obtain⟨g,eg,rfl⟩:=aai.mp hd;obtain⟨a,b,rfl,_⟩:=hg g (aaF eg);have gV:i<gs.length:=(aaf.mp eg).1;refine{_,rfl,rfl,_,_,rfl,_,_,rfl,rfl,_,rfl,tv,_,rfl,tv,_,rfl,tv,_,rfl,tv,_,rfl,tv,_,rfl,tv,gF,Ei [a,b],rfl,by rw[ZU,aaw];lia,{_,_,rfl},gV,?_}
   rw[aba,eg,aaj];rfl
  ·rintro β o ⟨⟨x0,x1,rfl⟩,_,rfl⟩;rw[ZU,abx];have ur:∀k∈gs.map Ei,k≠[]:=λk hk=>by
    obtain⟨g,YG,rfl⟩:=Z2.mp hk;obtain⟨a,b,rfl,ht⟩:=hg g YG;exact ht.ne
   exact{tv,tv,_,o7 ur (by rw[ZU];exact gl),.inl {fY _,tv,gF,tv,q}}
end
end qW
namespace L2.Q
open PySem
theorem pw_any:∀{ps:List NN},ps.Pairwise qO->∀t∈ps,∀u∈ps,t=u\/qO t u\/qO u t
 |[],_,t,ht,_,_=>(nomatch ht)
 |x::ps,h,t,ht,u,hu=>by
  obtain⟨h1,h2⟩:=aaM.mp h;rcases Z1.mp ht with et|RX
  ·rcases Z1.mp hu with eu|Pq
   ·exact .inl (et.trans eu.symm)
   ·exact .inr (.inl (et▸h1 u Pq))
  ·rcases Z1.mp hu with eu|Pq
   ·exact .inr (.inr (eu▸h1 t RX))
   ·exact pw_any h2 t RX u Pq
section
variable {ps:List NN}{n:Nat}
def O7 (hp:∀p∈ps,p.1<p.2){S:List NN}(s:j5 ps 0 n S)(h:∀T,j5 ps 0 n T->T.length<=S.length):mX ps 0 n=(S.length:Int):=by
 obtain⟨T,t,e⟩:=b8 (i:=0) (j:=n) hp;have h1:=bH hp s;have h2:=h T t;lia
def cU (hp:∀p∈ps,p.1<p.2):iH ps 0 n (bw ps w1 0 n):={Aa hp _ _ _ (ZX _),gn hp}
def cH (ps:List NN)(n:Nat):Nat:=hm ps n 0
def uz (hp:∀p∈ps,p.1<p.2)(S:List NN):S∈(FC ps n 0 n).filter (λS=>decide ((S.length:Int)=mX ps 0 n))↔iH ps 0 n S:=by
 rw[aae,fw hp n 0 n S (by lia),decide_eq_true_eq]
 exact Iff.rfl
def F1 (hp:∀p∈ps,p.1<p.2)(nd:ps.Nodup){L:List (List NN)}(TF:L.Nodup)(h:∀S,S∈L↔iH ps 0 n S):cH ps n=L.length:=by
 have e:=Q3 hp nd n 0 n (ZX _);rw[abj]at e;unfold cH;rw[<- e];unfold gY;refine((ac_ ((ya hp nd n 0 n (by lia)).filter _) TF).mpr λS=>?_).length_eq
 rw[h S,uz hp]
def Ng (hp:∀p∈ps,p.1<p.2){f:Nat->Bool}(h:∀p,p<n->(f p=ζ↔∀S,iH ps 0 n S->rT p S)):g7 ps n=(Z_ n).filter f:=uw λp hn=>by
 rw[h p hn,lW hp hn];exact{λz P0=> by obtain⟨S,hS,q⟩ := P0;exact q (z S hS),λz S hS=>abB λq=>z {(S),hS,q}}
def LX (hp:∀p∈ps,p.1<p.2){f:Nat->Bool}(h:∀p,p<n->(f p=ζ↔∀S,iH ps 0 n S->¬ rT p S)):iW ps n=(Z_ n).filter f:=uw λp hn=>by
 rw[h p hn,lh hp hn];exact{λz PZ=> by obtain⟨S,hS,q⟩ := PZ;exact z S hS q,λz S hS q=>z {(S),hS,q}}
theorem fJ:∀{ps S:List NN},ps.Pairwise (λp q=>p.1<q.1)->S.Pairwise (λp q=>p.1<q.1)->(∀x∈S,x∈ps)->S.Sublist ps
 |[],S,_,_,h=>by
  cases S with
  |nil=>exact List.Sublist.slnil
  |cons s S=>exact Η (h s Z7) (by simp)
 |p::ps,[],_,_,_=>List.nil_sublist _
 |p::ps,s::S,h1,h2,h=>by
  obtain⟨a1,a2⟩:=aaM.mp h1;obtain⟨b1,b2⟩:=aaM.mp h2
  by_cases e:s=p
  ·subst e;refine(fJ a2 b2 λx hx=>?_).cons₂ s;rcases Z1.mp (h x (aac _ hx))with rfl|z
   ·exact Η (b1 x hx) (abN _)
   ·exact z
  ·have hs:=(Z1.mp (h s Z7)).resolve_left e;refine(fJ a2 h2 λx hx=>?_).cons p;have gV:p.1<x.1:=by
    rcases Z1.mp hx with rfl|z
    ·exact a1 x hs
    ·exact Nat.lt_trans (a1 s hs) (b1 x z)
   rcases Z1.mp (h x hx)with rfl|z
   ·exact Η gV (abN _)
   ·exact z
def lK (hp:∀p∈ps,p.1<p.2/\p.2<n)(h:ps.Pairwise qO){S:List NN}:iH ps 0 n S↔S=ps:=by
 have kJ:∀p∈ps,p.1<p.2:=λp z=>(hp p z).1;have s0:j5 ps 0 n ps:={h,λp z=>{z,aab _,(hp p z).2}};have sub:∀T,j5 ps 0 n T->T.Sublist ps:=λT t=>fJ (h.imp λz=>z.1) (t.pw.imp λz=>z.1) λx hx=>(t.of x hx).1;have e:=O7 kJ s0 λT t=>(sub T t).length_le;constructor
 ·rintro⟨s,l⟩;exact(sub S s).eq_of_length (by lia)
 ·rintro rfl;exact{(s0),e.symm}
def LG (h:ps.Pairwise qO):ps.Nodup:=h.imp λz e=>by rw[e]at z;exact Η z.1 (abN _)
def zE (hp:∀p∈ps,p.1<p.2/\p.2<n)(h:ps.Pairwise qO){f:Nat->Bool}(hf:∀p,p<n->(f p=ζ↔rT p ps)):g7 ps n=(Z_ n).filter f/\iW ps n=(Z_ n).filter λp=>!f p:=by
 refine{Ng (λp z=>(hp p z).1) λp z=>(hf p z).trans {λq S hS=>by rw[(lK hp h).mp hS];exact q,λq=>q ps ((lK hp h).mpr rfl)},LX (λp z=>(hp p z).1) λp z=>?_}
 have e:(!f p)=ζ↔¬ rT p ps:=by rw[<- hf p z];cases f p <;> simp
 exact e.trans {λq S hS=>by rw[(lK hp h).mp hS];exact q,λq=>q ps ((lK hp h).mpr rfl)}
end
def i9 {ps:List NN}(hs:g8 ps):ps.Nodup:=hs.imp λ{p q} z e=>by subst e;lia
def uq {ps:List NN}(hp:∀p∈ps,p.1<p.2)(nd:ps.Nodup){n:Nat}:hT ps n 0=(cH ps n:Int):=rfl
def z9 {ps:List NN}{n:Nat}(hp:∀p∈ps,p.1<p.2):2*mX ps 0 n<=(n:Int):=by
 obtain⟨S,s,e⟩:=b8 (i:=0) (j:=n) hp;have l:∀t∈S,t.1<t.2:=λt ht=>hp t (s.of t ht).1;have q:=len_sub (l:=S.map (·.1)++S.map (·.2)) (m:=Z_ n) (aaY.mpr ⟨aat.mpr (s.pw.imp λ{a b} z e=>by have:=z.1;lia),aat.mpr ((abD.mp s.pw).imp λ{a b} z e=>by
   have h1:=l a z.1;have h2:=l b z.2.1;have h3:a.1<b.1/\(a.2<b.1\/b.2<a.2):=z.2.2;lia),λx hx y hy e=>by
   obtain⟨t,ht,rfl⟩:=Z2.mp hx;obtain⟨u,hu,rfl⟩:=Z2.mp hy;have h1:=l t ht;have h2:=l u hu;rcases pw_any s.pw t ht u hu with z|z|z
   ·subst z;lia
   ·have h3:t.1<u.1/\(t.2<u.1\/u.2<t.2):=z;lia
   ·have h3:u.1<t.1/\(u.2<t.1\/t.2<u.2):=z;lia⟩) λx hx=>by
  rcases Z9.mp hx with z|z
  ·obtain⟨t,ht,rfl⟩:=Z2.mp z;have:=s.of t ht;have:=l t ht;exact aax.mpr (by lia)
  ·obtain⟨t,ht,rfl⟩:=Z2.mp z;exact aax.mpr (s.of t ht).2.2
 rw[aag,ZU,ZU,aaD]at q;lia
theorem uo:∀{a b:List Int},a.Pairwise (· < ·)->b.Pairwise (· < ·)->(∀x,x∈a↔x∈b)->a=b
 |[],[],_,_,_=>rfl
 |[],y::b,_,_,h=>Η ((h y).mpr Z7) (by simp)
 |x::a,[],_,_,h=>Η ((h x).mp Z7) (by simp)
 |x::a,y::b,h1,h2,h=>by
  obtain⟨a1,a2⟩:=aaM.mp h1;obtain⟨b1,b2⟩:=aaM.mp h2;have e:x=y:=by
   rcases Z1.mp ((h x).mp Z7)with z|z
   ·exact z
   ·rcases Z1.mp ((h y).mpr Z7)with w|w
    ·exact w.symm
    ·have:=b1 x z;have:=a1 y w;lia
  subst e;refine Ι _ (uo a2 b2 λz=>{λhz=>?_,λhz=>?_})
  ·rcases Z1.mp ((h z).mp (aac _ hz))with w|w
   ·have:=a1 z hz;lia
   ·exact w
  ·rcases Z1.mp ((h z).mpr (aac _ hz))with w|w
   ·have:=b1 z hz;lia
   ·exact w
def ou {ps:List NN}(h:w9 (ps.map tI))(nd:ps.Nodup):g8 ps:=by
 refine((aat.mp h).and nd).imp λ{p q} hh=>?_;obtain⟨z,ne⟩:=hh;have z:(if (q.1:Int)=p.1 then (if (q.2:Int)=p.2 then HT.lexLt [] [] else decide ((q.2:Int)<p.2)) else decide ((q.1:Int)<p.1))=η:=z
 by_cases e1:(q.1:Int)=p.1
 ·rw[χ e1]at z
  by_cases e2:(q.2:Int)=p.2
  ·exact Η (Prod.ext (by lia) (by lia)) ne
  ·rw[ω e2]at z;have:=of_decide_eq_false z;lia
 ·rw[ω e1]at z;have:=of_decide_eq_false z;lia
def C9 {ps:List NN}{n:Nat}{ms:List Int}(hp:∀p∈ps,p.1<p.2/\p.2<n)(h:ps.Pairwise qO)(s:ms.Pairwise (·<=·))(pm:ms.Perm ((ps.map λt=>(t.1:Int))++ps.map λt=>(t.2:Int))):KO ps n=.tup [.lst (ms.map D.int),.lst (kA ((Z_ n).filter λp=>!decide ((p:Int)∈ms)))]:=by
 have mem:∀x,x∈ms↔∃t∈ps,x=(t.1:Int)\/x=(t.2:Int):=λx=>by
  rw[pm.mem_iff,Z9,Z2,Z2];constructor
  ·rintro (⟨t,ht,rfl⟩|⟨t,ht,rfl⟩)
   ·exact{t,ht,.inl rfl}
   ·exact{t,ht,.inr rfl}
  ·rintro⟨t,ht,e|e⟩
   ·exact .inl {(t),ht,e.symm}
   ·exact .inr {(t),ht,e.symm}
 have nd:ms.Nodup:=pm.nodup_iff.mpr (aaY.mpr ⟨aat.mpr (h.imp λ{a b} z e=>by have:=z.1;lia),aat.mpr ((abD.mp h).imp λ{a b} z e=>by
   have h1:=hp a z.1;have h2:=hp b z.2.1;have h3:a.1<b.1/\(a.2<b.1\/b.2<a.2):=z.2.2;lia),λx hx y hy e=>by
   obtain⟨t,ht,rfl⟩:=Z2.mp hx;obtain⟨u,hu,rfl⟩:=Z2.mp hy;have h1:=hp t ht;have h2:=hp u hu;rcases pw_any h t ht u hu with z|z|z
   ·subst z;lia
   ·have h3:t.1<u.1/\(t.2<u.1\/u.2<t.2):=z;lia
   ·have h3:u.1<t.1/\(u.2<t.1\/t.2<u.2):=z;lia⟩)
 have inc:ms.Pairwise (· < ·):=(s.and nd).imp λ⟨x,y⟩=>by lia
 have hf:∀p,p<n->((λp:Nat=>decide ((p:Int)∈ms)) p=ζ↔rT p ps):=λp _=>by
  rw[decide_eq_true_eq,mem];exact{λPY=> by obtain⟨t,ht,e⟩ := PY;exact{t,ht,by lia},λPX=> by obtain⟨t,ht,e⟩ := PX;exact{t,ht,by lia}}
 obtain⟨e1,e2⟩:=zE hp h hf;have e3:ms=((Z_ n).filter λp:Nat=>decide ((p:Int)∈ms)).map λp:Nat=>(p:Int):=by
  refine uo inc (aat.mpr ((acM.filter _).imp λz=>by lia)) λx=>?_
  rw[Z2];constructor
  ·intro hx;obtain⟨t,ht,e⟩:=(mem x).mp hx;have:=hp t ht;refine{x.toNat,aae.mpr {aax.mpr (by lia),Γ ?_},by lia}
   rw[show ((x.toNat:Nat):Int)=x by lia]
   exact hx
  ·rintro⟨p,kJ,rfl⟩;exact of_decide_eq_true (aae.mp kJ).2
 have e4:D.lst (ms.map D.int)=.lst (kA (g7 ps n)):=by
  rw[e1]
  conv=>lhs;rw[e3]
  rw[aaK];rfl
 unfold KO;rw[e2,e4]
def C5 (l:List Nat):(D.lst (kA l)).pd.canLay0=ζ/\(D.lst (kA l)).pd.depth<=2:=jC λd hd=>by
 obtain⟨i,_,rfl⟩:=Z2.mp hd;exact bh _
def wJ (i:Int)(t:List Int):iB (.int i) (.lst (t.map D.int))=ν (.bl (!decide (i∈t))):=by
 have e:BL (.int i) (.lst (t.map D.int))=ν (decide (i∈t)):=by
  show (if (D.int i).rd=ζ/\(D.lst (t.map D.int)).rd=ζ then ν _ else ξ)=_
  rw[χ {cA (bh i),cA (dZ t)},any_map jT]
 unfold iB;rw[e];rfl
section
variable {ps qs:List NN}{n m:Nat}
def CT {S T:List NN}(h1:S.Pairwise qO)(h2:T.Pairwise qO)(h:∀x,x∈S↔x∈T):S=T:=by
 have a:=fJ (h2.imp λz=>z.1) (h1.imp λz=>z.1) λx hx=>(h x).mp hx;have b:=fJ (h1.imp λz=>z.1) (h2.imp λz=>z.1) λx hx=>(h x).mpr hx;exact a.eq_of_length (Nat.le_antisymm a.length_le b.length_le)
def oK (hp:∀p∈ps,p.1<p.2)(hs:g8 ps){S:List NN}(h:iH ps 0 n S):Jh.vL (S.map tI) ((bw ps w1 0 n).map tI)=η:=BE hp hs n 0 n S (by lia) h.1 h.2
def L5 {S T:List NN}(h:S.map tI=T.map tI):S=T:=(List.map_inj_right λx y e=>fI e).mp h
def v8 (hp:∀p∈ps,p.1<p.2)(hs:g8 ps){S:List NN}(h:iH ps 0 n S)(hl:∀T,iH ps 0 n T->Jh.vL (T.map tI) (S.map tI)=η):bw ps w1 0 n=S :=
 L5 (Jh.sI (hl _ (cU hp)) (oK hp hs h))
def uh (hp:∀p∈ps,p.1<p.2){p:Nat}:p∈g7 ps n↔p<n/\∀S,iH ps 0 n S->rT p S:=zN.trans (and_congr_right λh=>by
 rw[lW hp h];exact{λz S hS=>abB λq=>z {(S),hS,q},λz PV=> by obtain⟨S,hS,q⟩ := PV;exact q (z S hS)})
def ug (hp:∀p∈ps,p.1<p.2){p:Nat}:p∈iW ps n↔p<n/\∀S,iH ps 0 n S->¬ rT p S:=zN.trans (and_congr_right λh=>by
 rw[lh hp h];exact{λz S hS q=>z {(S),hS,q},λz PU=> by obtain⟨S,hS,q⟩ := PU;exact z S hS q})
def mh (hp:∀p∈ps,p.1<p.2)(nd:ps.Nodup):∃L:List (List NN),L.Nodup/\(∀S,S∈L↔iH ps 0 n S)/\cH ps n=L.length:={_,(ya hp nd n 0 n (by lia)).filter _,uz hp,F1 hp nd ((ya hp nd n 0 n (by lia)).filter _) (uz hp)}
def Nc (hp:∀p∈ps,p.1<p.2)(nd:ps.Nodup)(hq:∀p∈qs,p.1<p.2)(Nu:qs.Nodup)(f:List NN->List NN)(h1:∀S,iH ps 0 n S->iH qs 0 m (f S))(h2:∀S T,iH ps 0 n S->iH ps 0 n T->f S=f T->S=T)(h3:∀T,iH qs 0 m T->∃S,iH ps 0 n S/\f S=T):cH qs m=cH ps n:=by
 obtain⟨L,TF,hL,e⟩:=mh (n:=n) hp nd;rw[F1 hq Nu (L:=L.map f) (aat.mpr ((abD.mp TF).imp λ{a b} z e=>z.2.2 (h2 a b ((hL a).mp z.1) ((hL b).mp z.2.1) e))) λT=>?_,ZU,e];rw[Z2];exact{λPR=> by obtain⟨S,hS,e⟩ := PR;exact e▸h1 S ((hL S).mp hS),λhT=>let ⟨S,hS,e⟩:=h3 T hT;{S,(hL S).mpr hS,e}}
def pC (hp:∀p∈ps,p.1<p.2/\p.2<n)(hn:n<=m){S:List NN}:j5 ps 0 m S↔j5 ps 0 n S :=
 {λs=>{s.pw,λp h=>{(s.of p h).1,aab _,(hp p (s.of p h).1).2}},λs=>{s.pw,λp h=>{(s.of p h).1,aab _,aaG (s.of p h).2.2 hn}}}
def HU (hp:∀p∈ps,p.1<p.2/\p.2<n)(hn:n<=m):mX ps 0 m=mX ps 0 n:=by
 have kJ:∀p∈ps,p.1<p.2:=λp z=>(hp p z).1;obtain⟨S,s,e⟩:=b8 (i:=0) (j:=m) kJ;obtain⟨T,t,e'⟩:=b8 (i:=0) (j:=n) kJ;have h1:=bH kJ ((pC hp hn).mp s);have h2:=bH kJ ((pC hp hn).mpr t);lia
def Bn (hp:∀p∈ps,p.1<p.2/\p.2<n)(hs:g8 ps)(hn:n<=m):fT ps 0 m=fT ps 0 n:=by
 have kJ:∀p∈ps,p.1<p.2:=λp z=>(hp p z).1;have e:=HU hp hn;have hM:∀S,iH ps 0 m S↔iH ps 0 n S:=λS=>and_congr (pC hp hn) (by rw[e])
 unfold fT;show D.tup [.int (mX ps 0 m),dt (bw ps w1 0 m)]=D.tup [.int (mX ps 0 n),dt (bw ps w1 0 n)];rw[e,v8 kJ hs ((hM _).mpr (cU kJ)) λT hT=>oK kJ hs ((hM T).mp hT)]
def Et (hp:∀p∈ps,p.1<p.2)(h:∀t∈qs,t∈ps){i j:Nat}:mX qs i j<=mX ps i j:=by
 obtain⟨S,s,e⟩:=b8 (ps:=qs) (i:=i) (j:=j) λp z=>hp p (h p z);rw[<- e];exact bH hp {s.pw,λp z=>{h p (s.of p z).1,(s.of p z).2}}
def Eu (hp:∀p∈ps,p.1<p.2){u:NN}(hq:∀t∈qs,t.1<t.2)(h:∀t∈ps,t∈qs\/t=u){i j:Nat}:mX ps i j<=mX qs i j+1:=by
 obtain⟨S,s,e⟩:=b8 (i:=i) (j:=j) hp;have s':j5 qs i j (S.filter λt=>!decide (t=u)):=⟨s.pw.sublist acq,λp z=>by
  obtain⟨z1,z2⟩:=aae.mp z;exact{(h p (s.of p z1).1).resolve_right (by simpa using z2),(s.of p z1).2}⟩
 have k1:=bH hq s';have k2:=len_sub (l:=S) (m:=u::S.filter λt=>!decide (t=u)) (LG s.pw) λx hx=>by
  by_cases e:x=u
  ·rw[e];exact Z7
  ·exact aac _ (aae.mpr {hx,by simpa using e})
 rw[aaa]at k2;lia
def O6 (hp:∀p∈ps,p.1<p.2){i j:Nat}:mX ps i j<=mX ps (i+1) j+1:=by
 obtain⟨S,s,e⟩:=b8 (i:=i) (j:=j) hp;have s':j5 ps (i+1) j (S.filter λt=>!decide (t.1=i)):=⟨s.pw.sublist acq,λp z=>by
  obtain⟨z1,z2⟩:=aae.mp z;have z2:p.1≠i:=by simpa using z2
  have:=s.of p z1;exact{this.1,by lia,this.2.2}⟩
 have k1:=bH hp s';have k2:S.length<=(S.filter λt=>!decide (t.1=i)).length+1:=by
  clear k1 s' e
  cases S with
  |nil=>exact aab _
  |cons t S =>
   have h1:=(aaM.mp s.pw).1;have e:(S.filter λt=>!decide (t.1=i))=S:=ac5.mpr λx hx=>by
    have:=(h1 x hx).1;have:=(s.of t Z7).2.1;simp;lia
   rw[aaS]
   split
   ·rw[e];simp
   ·rw[e];simp
 lia
def sh (k:Nat)(p:NN):NN:=(p.1+k,p.2+k)
theorem uD {α:Type}{f:α->Bool}:∀{l:List α},l.Pairwise (λa b=>f b=ζ->f a=ζ)->l=l.filter f++l.filter λx=>!f x
 |[],_=>rfl
 |x::l,h=>by
  obtain⟨h1,h2⟩:=aaM.mp h;cases hx:f x with
  |true =>
   rw[aaS,aaS,χ hx,ω (by rw[hx];simp),acm]
   exact Ι _ (uD h2)
  |false =>
   have e:l.filter f=[]:=ab0.mpr λy hy z=>by
    have:=h1 y hy z;rw[hx]at this;cases this
   have ih:=uD h2;rw[e,List.nil_append]at ih;rw[aaS,aaS,ω (by rw[hx];simp),χ (by rw[hx];rfl),e,List.nil_append,<- ih]
def l_ (hp:∀p∈ps,p.1<p.2/\p.2<n)(hq:∀p∈qs,p.1<p.2/\p.2<m){S:List NN}:j5 (ps++qs.map (sh n)) 0 (n+m) S↔∃A B,S=A++B.map (sh n)/\j5 ps 0 n A/\j5 qs 0 m B:=by
 constructor
 ·intro s;have hk:∀t∈S,(t∈ps/\t.1<t.2/\t.2<n)\/∃u∈qs,t=sh n u:=λt ht=>by
   rcases Z9.mp (s.of t ht).1 with z|z
   ·exact .inl {z,hp t z}
   ·obtain⟨u,hu,e⟩:=Z2.mp z;exact .inr {(u),hu,e.symm}
  have hc:=uD (f:=λt:NN=>decide (t.1<n)) (l:=S) (s.pw.imp λ{a b} z q=>Γ (by have:=of_decide_eq_true q;have:=z.1;lia))
  refine{S.filter λt=>decide (t.1<n),(S.filter λt=>!decide (t.1<n)).map λt=>(t.1-n,t.2-n),?_,{s.pw.sublist acq,λt ht=>?_},{?_,λt ht=>?_}}
  ·rw[aaK]
   conv=>lhs;rw[hc]
   refine Ι _ ?_;exact((aaN λt ht=>by
    obtain⟨z1,z2⟩:=aae.mp ht;have z2:n<=t.1:=by simpa using z2
    rcases hk t z1 with z|⟨u,hu,e⟩
    ·lia
    ·show (t.1-n+n,t.2-n+n)=t;have:=hq u hu;rw[e];unfold sh;exact Prod.ext (by dsimp only;lia) (by dsimp only;lia)).trans (List.map_id _)).symm
  ·obtain⟨z1,z2⟩:=aae.mp ht;have z2:=of_decide_eq_true z2;rcases hk t z1 with z|⟨u,hu,e⟩
   ·exact{z.1,aab _,z.2.2}
   ·rw[e]at z2;unfold sh at z2;dsimp only at z2;lia
  ·refine aat.mpr ((abD.mp (s.pw.sublist acq)).imp λ{a b} z=>?_);have ha:n<=a.1:=by simpa using (aae.mp z.1).2
   have hb:n<=b.1:=by simpa using (aae.mp z.2.1).2
   have Ci:=hk a (aae.mp z.1).1;have Cg:=hk b (aae.mp z.2.1).1;have a2:a.1<a.2:=by
    rcases Ci with z|⟨u,hu,e⟩
    ·exact z.2.1
    ·rw[e];have:=hq u hu;unfold sh;dsimp only;lia
   have b2:b.1<b.2:=by
    rcases Cg with z|⟨u,hu,e⟩
    ·exact z.2.1
    ·rw[e];have:=hq u hu;unfold sh;dsimp only;lia
   have h3:a.1<b.1/\(a.2<b.1\/b.2<a.2):=z.2.2;show a.1-n<b.1-n/\(a.2-n<b.1-n\/b.2-n<a.2-n);lia
  ·obtain⟨x,hx,rfl⟩:=Z2.mp ht;obtain⟨z1,z2⟩:=aae.mp hx;have z2:n<=x.1:=by simpa using z2
   rcases hk x z1 with z|⟨u,hu,e⟩
   ·lia
   ·have Pq:=hq u hu;have eu:(x.1-n,x.2-n)=u:=by
     rw[e];unfold sh;exact Prod.ext (by dsimp only;lia) (by dsimp only;lia)
    rw[eu];exact{hu,aab _,Pq.2}
 ·rintro⟨A,B,rfl,sa,sb⟩;refine{acZ.mpr {sa.pw,aat.mpr (sb.pw.imp λ{a b} z=>?_),λa ha b hb=>?_},λt ht=>?_}
  ·have h3:a.1<b.1/\(a.2<b.1\/b.2<a.2):=z;show a.1+n<b.1+n/\(a.2+n<b.1+n\/b.2+n<a.2+n);lia
  ·obtain⟨u,hu,rfl⟩:=Z2.mp hb;have h1:=sa.of a ha;have h2:=hp a h1.1;show a.1<u.1+n/\(a.2<u.1+n\/u.2+n<a.2);lia
  ·rcases Z9.mp ht with z|z
   ·exact{aaP _ (sa.of t z).1,aab _,by have:=(sa.of t z).2.2;lia}
   ·obtain⟨u,hu,rfl⟩:=Z2.mp z;have h1:=sb.of u hu;exact{aaB _ (abz h1.1),aab _,by show u.2+n<n+m;lia}
def oR (hp:∀p∈ps,p.1<p.2/\p.2<n)(hq:∀p∈qs,p.1<p.2/\p.2<m):∀p∈ps++qs.map (sh n),p.1<p.2/\p.2<n+m:=λp h=>by
 rcases Z9.mp h with z|z
 ·have:=hp p z;lia
 ·obtain⟨u,hu,rfl⟩:=Z2.mp z;have:=hq u hu;show u.1+n<u.2+n/\u.2+n<n+m;lia
def Ja (hp:∀p∈ps,p.1<p.2/\p.2<n)(hq:∀p∈qs,p.1<p.2/\p.2<m):mX (ps++qs.map (sh n)) 0 (n+m)=mX ps 0 n+mX qs 0 m:=by
 have hb:=oR hp hq;obtain⟨S,s,e⟩:=b8 (i:=0) (j:=n+m) λp h=>(hb p h).1;obtain⟨A,a,ea⟩:=b8 (i:=0) (j:=n) λp h=>(hp p h).1;obtain⟨B,b,eb⟩:=b8 (i:=0) (j:=m) λp h=>(hq p h).1;have k1:=bH (λp h=>(hb p h).1) ((l_ hp hq).mpr {(A),B,rfl,a,b});obtain⟨A',B',rfl,a',b'⟩:=(l_ hp hq).mp s;have k2:=bH (λp h=>(hp p h).1) a';have k3:=bH (λp h=>(hq p h).1) b';rw[aag,ZU]at k1 e;lia
def qL (hp:∀p∈ps,p.1<p.2/\p.2<n)(hq:∀p∈qs,p.1<p.2/\p.2<m){S:List NN}:iH (ps++qs.map (sh n)) 0 (n+m) S↔∃A B,S=A++B.map (sh n)/\iH ps 0 n A/\iH qs 0 m B:=by
 have e:=Ja hp hq;constructor
 ·rintro⟨s,l⟩;obtain⟨A,B,rfl,a,b⟩:=(l_ hp hq).mp s;have k2:=bH (λp h=>(hp p h).1) a;have k3:=bH (λp h=>(hq p h).1) b;rw[aag,ZU]at l;exact{A,B,rfl,{a,by lia},{b,by lia}}
 ·rintro⟨A,B,rfl,a,b⟩;exact{(l_ hp hq).mpr {(A),B,rfl,a.1,b.1},by have:=a.2;have:=b.2;rw[aag,ZU];lia}
def C_ {k:Nat}{p q:NN}(h:sh k p=sh k q):p=q:=by
 unfold sh at h;injection h with h1 h2
 exact Prod.ext (by lia) (by lia)
def Es {k:Nat}{S T:List NN}(h:S.map (sh k)=T.map (sh k)):S=T:=(List.map_inj_right λx y e=>C_ e).mp h
def F5 (hp:∀p∈ps,p.1<p.2/\p.2<n){A A' B B':List NN}(h1:iH ps 0 n A)(h2:iH ps 0 n A')(h:A++B.map (sh n)=A'++B'.map (sh n)):A=A'/\B=B':=by
 obtain⟨e1,e2⟩:=List.append_inj h (by have:=h1.2;have:=h2.2;lia)
 exact{e1,Es e2}
def Ma {a b c d:List Int}{k:Nat}{p q:NN}:HT.lexLt (tI (sh k p)) (tI (sh k q))=HT.lexLt (tI p) (tI q):=by
 show (if ((p.1+k:Nat):Int)=((q.1+k:Nat):Int) then (if ((p.2+k:Nat):Int)=((q.2+k:Nat):Int) then HT.lexLt [] [] else decide (((p.2+k:Nat):Int)<((q.2+k:Nat):Int))) else decide (((p.1+k:Nat):Int)<((q.1+k:Nat):Int)))=(if (p.1:Int)=(q.1:Int) then (if (p.2:Int)=(q.2:Int) then HT.lexLt [] [] else decide ((p.2:Int)<(q.2:Int))) else decide ((p.1:Int)<(q.1:Int)))
 have e1:(((p.1+k:Nat):Int)=((q.1+k:Nat):Int))↔((p.1:Int)=(q.1:Int)):=by lia
 have e2:(((p.2+k:Nat):Int)=((q.2+k:Nat):Int))↔((p.2:Int)=(q.2:Int)):=by lia
 have e3:decide (((p.2+k:Nat):Int)<((q.2+k:Nat):Int))=decide ((p.2:Int)<(q.2:Int)):=decide_eq_decide.mpr (by lia)
 have e4:decide (((p.1+k:Nat):Int)<((q.1+k:Nat):Int))=decide ((p.1:Int)<(q.1:Int)):=decide_eq_decide.mpr (by lia)
 simp only[e1,e2,e3,e4]
theorem Ey {k:Nat}:∀{S T:List NN},Jh.vL ((S.map (sh k)).map tI) ((T.map (sh k)).map tI)=Jh.vL (S.map tI) (T.map tI)
 |[],[]=>rfl
 |[],_::_=>rfl
 |_::_,[]=>rfl
 |s::S,t::T=>by
  rw[aap,aap,aap,aap,aap,aap,Jh.eP,Jh.eP,Ey,Ma (a:=[]) (b:=[]) (c:=[]) (d:=[])]
  by_cases e:s=t
  ·rw[e,χ rfl,χ rfl]
  ·rw[ω λz=>e (C_ (fI z)),ω λz=>e (fI z)]
def qK (hp:∀p∈ps,p.1<p.2/\p.2<n)(h1:g8 ps)(h2:g8 qs):g8 (ps++qs.map (sh n)) :=
 acZ.mpr ⟨h1,aat.mpr (h2.imp λ{a b} z=>by show a.1+n<b.1+n\/(a.1+n=b.1+n/\a.2+n<b.2+n);lia),λa ha b hb=>by
  obtain⟨u,hu,rfl⟩:=Z2.mp hb;have:=hp a ha;show a.1<u.1+n\/_;lia⟩
def F4 (hp:∀p∈ps,p.1<p.2/\p.2<n)(hq:∀p∈qs,p.1<p.2/\p.2<m)(h1:g8 ps)(h2:g8 qs):bw (ps++qs.map (sh n)) w1 0 (n+m)=bw ps w1 0 n++(bw qs w1 0 m).map (sh n):=by
 have kJ:∀p∈ps,p.1<p.2:=λp h=>(hp p h).1;have Qv:∀p∈qs,p.1<p.2:=λp h=>(hq p h).1;refine v8 (λp h=>(oR hp hq p h).1) (qK hp h1 h2) ((qL hp hq).mpr {_,_,rfl,cU kJ,cU Qv}) λT hT=>?_;obtain⟨A,B,rfl,a,b⟩:=(qL hp hq).mp hT;rw[aaj,aaj,uk (by rw[ZU,ZU];have:=a.2;have:=(cU (n:=n) kJ).2;lia)]
 split
 ·rw[Ey];exact oK Qv h2 b
 ·exact oK kJ h1 a
def Jb (hp:∀p∈ps,p.1<p.2/\p.2<n)(hq:∀p∈qs,p.1<p.2/\p.2<m)(h1:g8 ps)(h2:g8 qs):cH (ps++qs.map (sh n)) (n+m)=cH ps n*cH qs m:=by
 obtain⟨LA,na,ha,ea⟩:=mh (n:=n) (λp h=>(hp p h).1) (i9 h1);obtain⟨LB,nb,hb,eb⟩:=mh (n:=m) (λp h=>(hq p h).1) (i9 h2);have len:∀l:List (List NN),(l.flatMap λA=>LB.map λB=>A++B.map (sh n)).length=l.length*LB.length:=λl=>by
  induction l with
  |nil=>exact(Nat.zero_mul _).symm
  |cons x l ih=>rw[acO,aag,ih,ZU,aaa,Nat.add_mul,ads,Nat.add_comm]
 rw[F1 (λp h=>(oR hp hq p h).1) (i9 (qK hp h1 h2)) (L:=LA.flatMap λA=>LB.map λB=>A++B.map (sh n)) ?_ λS=>?_,len,ea,eb]
 ·refine List.pairwise_flatMap.mpr {λA _=>aat.mpr (nb.imp λz e=>z (Es (List.append_cancel_left e))),(abD.mp na).imp λ{A A'} z x hx y hy e=>?_};obtain⟨B,_,rfl⟩:=Z2.mp hx;obtain⟨B',_,rfl⟩:=Z2.mp hy;exact z.2.2 (F5 hp ((ha _).mp z.1) ((ha _).mp z.2.1) e).1
 ·rw[qL hp hq,aa6];constructor
  ·rintro⟨A,hA,h⟩;obtain⟨B,hB,rfl⟩:=Z2.mp h;exact{A,B,rfl,(ha A).mp hA,(hb B).mp hB}
  ·rintro⟨A,B,rfl,a,b⟩;exact{A,(ha A).mpr a,Z2.mpr {B,(hb B).mpr b,rfl}}
end
def tr (n:Nat)(p:NN):NN:=(n-1-p.2,n-1-p.1)
def CJ {n:Nat}{p:NN}(h:p.1<p.2/\p.2<n):(tr n p).1<(tr n p).2/\(tr n p).2<n:=by unfold tr;dsimp only;lia
def yW {n:Nat}{p:NN}(h:p.1<p.2/\p.2<n):tr n (tr n p)=p:=by unfold tr;exact Prod.ext (by dsimp only;lia) (by dsimp only;lia)
def N5 {n:Nat}{a b:NN}(ha:a.1<a.2/\a.2<n)(hb:b.1<b.2/\b.2<n)(h:qO a b):qO (tr n a) (tr n b)\/qO (tr n b) (tr n a):=by
 unfold qO tr at *
 dsimp only;lia
def C3 {T:List NN}(h:T.Pairwise λa b=>qO a b\/qO b a):∃S:List NN,S.Perm T/\S.Pairwise qO:=by
 obtain⟨S,pm,e⟩:=ST.pJ (dw (T.map tI));have hs:=i8 (T.map tI);rw[e]at hs;have pw:S.Pairwise λa b=>qO a b\/qO b a:=(pm.pairwise_iff λ{a b} z=>z.symm).mpr h;have nd:S.Nodup:=pw.imp λ{a b} z e=>by subst e;unfold qO at z;lia
 refine{S,pm,((ou hs nd).and pw).imp λ{a b} z=>z.2.resolve_right λq=>?_};have:=q.1;have:=z.1;lia
structure yR (n:Nat)(ps qs:List NN):Prop where
 lt:∀p∈ps,p.1<p.2/\p.2<n
 to:∀p∈ps,tr n p∈qs
 fr:∀q∈qs,∃p∈ps,q=tr n p
section
variable {n:Nat}{ps qs:List NN}
def yR.symm (t:yR n ps qs):yR n qs ps:=by
 refine{λq h=>?_,λq h=>?_,λp h=>{tr n p,t.to p h,(yW (t.lt p h)).symm}}
 ·obtain⟨p,hp,rfl⟩:=t.fr q h;exact CJ (t.lt p hp)
 ·obtain⟨p,hp,rfl⟩:=t.fr q h;rw[yW (t.lt p hp)];exact hp
open Classical in
noncomputable def CK (n:Nat)(S:List NN):List NN:=if h:∃T:List NN,T.Perm (S.map (tr n))/\T.Pairwise qO then Classical.choose h else []
def i7 (t:yR n ps qs){S:List NN}(s:j5 ps 0 n S):(CK n S).Perm (S.map (tr n))/\(CK n S).Pairwise qO:=by
 have h:=C3 (T:=S.map (tr n)) (aat.mpr ((abD.mp s.pw).imp λ{a b} z=>N5 (t.lt a (s.of a z.1).1) (t.lt b (s.of b z.2.1).1) z.2.2));unfold CK;rw[dif_pos h];exact Classical.choose_spec h
def oj (t:yR n ps qs){S:List NN}(s:j5 ps 0 n S):j5 qs 0 n (CK n S):=by
 obtain⟨h1,h2⟩:=i7 t s;refine{h2,λq hq=>?_};obtain⟨p,hp,rfl⟩:=Z2.mp (h1.mem_iff.mp hq);have:=s.of p hp;exact{t.to p this.1,aab _,(CJ (t.lt p this.1)).2}
def tL (t:yR n ps qs){S:List NN}(s:j5 ps 0 n S):(CK n S).length=S.length:=by rw[(i7 t s).1.length_eq,ZU]
def lg (t:yR n ps qs){S:List NN}(s:j5 ps 0 n S):CK n (CK n S)=S:=by
 obtain⟨h1,h2⟩:=i7 t s;have s':=oj t s;obtain⟨k1,k2⟩:=i7 t.symm s';refine CT k2 s.pw λx=>?_;rw[k1.mem_iff,Z2];constructor
 ·rintro⟨y,hy,rfl⟩;obtain⟨z,hz,rfl⟩:=Z2.mp (h1.mem_iff.mp hy);rw[yW (t.lt z (s.of z hz).1)];exact hz
 ·exact λhx=>{tr n x,h1.mem_iff.mpr (abz hx),yW (t.lt x (s.of x hx).1)}
def CI (t:yR n ps qs):mX qs 0 n=mX ps 0 n:=by
 obtain⟨S,s,e⟩:=b8 (i:=0) (j:=n) λp h=>(t.lt p h).1;obtain⟨T,u,e'⟩:=b8 (i:=0) (j:=n) λp h=>(t.symm.lt p h).1;have h1:=bH (λp h=>(t.symm.lt p h).1) (oj t s);have h2:=bH (λp h=>(t.lt p h).1) (oj t.symm u);rw[tL t s]at h1;rw[tL t.symm u]at h2;lia
def jz (t:yR n ps qs){S:List NN}(h:iH ps 0 n S):iH qs 0 n (CK n S):={oj t h.1,by rw[tL t h.1,CI t];exact h.2}
def KN (t:yR n ps qs)(nd:ps.Nodup)(Nu:qs.Nodup):cH qs n=cH ps n :=
 Nc (λp h=>(t.lt p h).1) nd (λp h=>(t.symm.lt p h).1) Nu (CK n) (λS h=>jz t h) (λS T hS hT e=>by rw[<- lg t hS.1,e,lg t hT.1]) λT hT=>{CK n T,jz t.symm hT,lg t.symm hT.1}
def oi (t:yR n ps qs){S:List NN}(s:j5 ps 0 n S){p:Nat}(hp:p<n):rT (n-1-p) (CK n S)↔rT p S:=by
 obtain⟨h1,_⟩:=i7 t s;constructor
 ·rintro⟨q,hq,e⟩;obtain⟨z,hz,rfl⟩:=Z2.mp (h1.mem_iff.mp hq);have:=t.lt z (s.of z hz).1;exact{z,hz,by unfold tr at e;dsimp only at e;lia}
 ·rintro⟨z,hz,e⟩;have:=t.lt z (s.of z hz).1;exact{tr n z,h1.mem_iff.mpr (abz hz),by unfold tr;dsimp only;lia}
def GV (t:yR n ps qs){p:Nat}(hp:p<n):n-1-p∈g7 qs n↔p∈g7 ps n:=by
 rw[uh λp h=>(t.symm.lt p h).1,uh λp h=>(t.lt p h).1];constructor
 ·exact λz=>{hp,λS hS=>(oi t hS.1 hp).mp (z.2 _ (jz t hS))}
 ·refine λz=>{by lia,λS hS=>?_}
  have h:=jz t.symm hS;have:=(oi t h.1 hp).mpr (z.2 _ h)
  rwa [lg t.symm hS.1]at this
def GU (t:yR n ps qs)(nd:ps.Nodup)(Nu:qs.Nodup){p:Nat}(hp:p<n):n-1-p∈iW qs n↔p∈iW ps n:=by
 rw[ug λp h=>(t.symm.lt p h).1,ug λp h=>(t.lt p h).1];constructor
 ·exact λz=>{hp,λS hS q=>z.2 _ (jz t hS) ((oi t hS.1 hp).mpr q)}
 ·refine λz=>{by lia,λS hS q=>?_}
  have h:=jz t.symm hS;refine z.2 _ h ((oi t h.1 hp).mp ?_);rw[lg t.symm hS.1];exact q
def rev_eq {f g:Nat->Bool}(h:∀p,p<n->(n-1-p∈(Z_ n).filter f↔p∈(Z_ n).filter g)):((Z_ n).filter f).map (λp:Nat=>(p:Int))=(((Z_ n).filter g).reverse).map λp:Nat=>(n:Int)-1-(p:Int):=by
 refine uo (aat.mpr ((acM.filter _).imp λz=>by lia)) (aat.mpr (List.pairwise_reverse.mpr ((acM.filter _).imp λz=>by lia))) λx=>?_
 rw[Z2,Z2];constructor
 ·rintro⟨p,hp,rfl⟩;have hn:=aax.mp (aae.mp hp).1;refine{n-1-p,List.mem_reverse.mpr ((h (n-1-p) (by lia)).mp ?_),by lia}
  rw[show n-1-(n-1-p)=p by lia]
  exact hp
 ·rintro⟨p,hp,rfl⟩;have hp:=List.mem_reverse.mp hp;have hn:=aax.mp (aae.mp hp).1;exact{n-1-p,(h p hn).mpr hp,by lia}
def KL (t:yR n ps qs)(nd:ps.Nodup)(Nu:qs.Nodup):KO qs n=.tup [.lst (((g7 ps n).reverse.map λp:Nat=>(n:Int)-1-(p:Int)).map D.int),.lst (((iW ps n).reverse.map λp:Nat=>(n:Int)-1-(p:Int)).map D.int)]:=by
 have e1:(g7 qs n).map (λp:Nat=>(p:Int))=(g7 ps n).reverse.map λp:Nat=>(n:Int)-1-(p:Int):=rev_eq λp hp=>GV t hp;have e2:(iW qs n).map (λp:Nat=>(p:Int))=(iW ps n).reverse.map λp:Nat=>(n:Int)-1-(p:Int):=rev_eq λp hp=>GU t nd Nu hp;unfold KO;have k:∀l:List Nat,kA l=(l.map λp:Nat=>(p:Int)).map D.int:=λl=>by rw[aaK];rfl
 rw[k,k,e1,e2]
end
section
variable {ps qs:List NN}{n:Nat}
def B5 (hp:∀p∈ps,p.1<p.2)(hq:∀p∈qs,p.1<p.2)(h:∀S,iH ps 0 n S↔iH qs 0 n S):g7 ps n=g7 qs n/\iW ps n=iW qs n:=by
 refine{sW λp hn=>?_,sW λp hn=>?_}
 ·rw[lW hp hn,lW hq hn];exact not_congr (exists_congr λS=>and_congr_left' (h S))
 ·rw[lh hp hn,lh hq hn];exact not_congr (exists_congr λS=>and_congr_left' (h S))
def AF:(g7 ps n).length<=n:=aaH (abp _ _) (by rw[aaD];exact ZX _)
def zM:(iW ps n).length<=n:=aaH (abp _ _) (by rw[aaD];exact ZX _)
theorem Ad {α:Type}{f:α->Bool}:∀{l:List α},(l.filter f).length+(l.filter λx=>!f x).length=l.length
 |[]=>rfl
 |x::l=>by
  have ih:=Ad (f:=f) (l:=l);rw[aaS,aaS,aaa];cases f x
  ·simp;lia
  ·simp;lia
def pD (S:List NN):List Int:=(S.map λt=>(t.1:Int))++S.map λt=>(t.2:Int)
def uf {S:List NN}{p:Nat}:(p:Int)∈pD S↔rT p S:=by
 unfold pD;rw[Z9,Z2,Z2];constructor
 ·rintro (⟨t,ht,e⟩|⟨t,ht,e⟩)
  ·exact{t,ht,.inl (by lia)}
  ·exact{t,ht,.inr (by lia)}
 ·rintro⟨t,ht,e|e⟩
  ·exact .inl {t,ht,by lia}
  ·exact .inr {t,ht,by lia}
def zk {S:List NN}:(pD S).length=2*S.length:=by unfold pD;rw[aag,ZU,ZU];lia
variable (ok:kT n ps)
include ok
theorem mZ:∀p∈bw ps w1 0 n,p.1<p.2/\p.2<n:=λp h=>ok.lt p ((cU λp h=>(ok.lt p h).1).1.of p h).1
theorem tM {p:Nat}(h:p∈g7 ps n):(p:Int)∈pD (bw ps w1 0 n):=uf.mpr (((uh λp h=>(ok.lt p h).1).mp h).2 _ (cU λp h=>(ok.lt p h).1))
theorem uV {p:Nat}(h:p∈iW ps n):(p:Int)∉pD (bw ps w1 0 n):=λz=>((ug λp h=>(ok.lt p h).1).mp h).2 _ (cU λp h=>(ok.lt p h).1) (uf.mp z)
theorem yX:((g7 ps n++iW ps n).map λp:Nat=>(p:Int)).Nodup:=by
 refine aat.mpr ((aaY.mpr {List.nodup_range.filter _,List.nodup_range.filter _,λa ha b hb e=>?_}).imp λz e=>z (by lia))
 subst e;exact uV ok hb (tM ok ha)
theorem CN:(g7 ps n).length<=2*(bw ps w1 0 n).length:=by
 have q:=len_sub (l:=(g7 ps n).map λp:Nat=>(p:Int)) (m:=pD (bw ps w1 0 n)) (aat.mpr ((List.nodup_range.filter _).imp λz e=>z (by lia))) λx hx=>by
  obtain⟨p,hp,rfl⟩:=Z2.mp hx;exact tM ok hp
 rw[ZU,zk]at q;exact q
theorem CM:1<=cH ps n:=by
 obtain⟨L,_,hL,e⟩:=mh (n:=n) (λp h=>(ok.lt p h).1) ok.nd;rw[e];exact List.length_pos_of_mem ((hL _).mpr (cU λp h=>(ok.lt p h).1))
theorem uW (h:cH ps n=1):g7 ps n=g7 (bw ps w1 0 n) n/\iW ps n=iW (bw ps w1 0 n) n:=by
 have hp:∀p∈ps,p.1<p.2:=λp h=>(ok.lt p h).1;obtain⟨L,_,hL,e⟩:=mh (n:=n) hp ok.nd;have hf:=cU (n:=n) hp;have JR:=hf.1.pw;rw[h]at e;obtain⟨x,rfl⟩:=List.length_eq_one_iff.mp e.symm;have ex:=ZY.mp ((hL _).mpr hf);refine B5 hp (λp h=>(mZ ok p h).1) λS=>?_;rw[lK (mZ ok) JR,<- hL S,ZY,ex]
theorem CO (h:cH ps n=1):(g7 ps n).length+(iW ps n).length=n:=by
 obtain⟨e1,e2⟩:=uW ok h;have JR:=(cU (n:=n) λp h=>(ok.lt p h).1).1.pw;obtain⟨k1,k2⟩:=zE (mZ ok) JR (f:=λp:Nat=>decide ((p:Int)∈pD (bw ps w1 0 n))) λp _=>by rw[decide_eq_true_eq];exact uf
 rw[e1,e2,k1,k2,Ad,aaD]
theorem CL (h:cH ps n=1){ms:List Int}(s:ms.Pairwise (·<=·))(pm:ms.Perm (pD (bw ps w1 0 n))):ms.map D.int=kA (g7 ps n):=by
 have e:=C9 (mZ ok) (cU (n:=n) λp h=>(ok.lt p h).1).1.pw s pm;rw[(uW ok h).1];unfold KO at e;injection e with e
 injection e with e1 _
 injection e1 with e1
 exact e1.symm
theorem told_set:iu (ps.map tI) ((bw ps w1 0 n).map tI)=ξ:=by
 have hf:=cU (n:=n) λp h=>(ok.lt p h).1;refine yB.mpr {λt ht=>?_,aat.mpr (hf.1.pw.imp λ{a b} z=>lex_lt z.1),aat.mpr ((abD.mp hf.1.pw).imp λ{a b} z=>?_)}
 ·obtain⟨p,hp,rfl⟩:=Z2.mp ht;exact abz (hf.1.of p hp).1
 ·have h1:=mZ ok a z.1;have h2:=mZ ok b z.2.1;have h3:a.1<b.1/\(a.2<b.1\/b.2<a.2):=z.2.2;constructor
  ·rw[<- Bool.not_eq_true,xK];rintro⟨i,hi,hj⟩;have hi:i=(a.1:Int)\/i=(a.2:Int):=by simpa[tI] using hi
   have hj:i=(b.1:Int)\/i=(b.2:Int):=by simpa[tI] using hj
   lia
  ·show uE (a.1:Int) (a.2:Int) (b.1:Int) (b.2:Int)=η;rw[<- Bool.not_eq_true,yM];lia
end
def ud {u:NN}(h:u.1<u.2):Ei (tI u)=tI u:=by
 show [if (u.2:Int)<(u.1:Int) then (u.2:Int) else (u.1:Int),if (u.1:Int)<(u.2:Int) then (u.2:Int) else (u.1:Int)]=_
 rw[ω (by lia),χ (by lia)]
 rfl
def tN {n:Nat}{u:NN}(h:u.1<u.2/\u.2<n):Rc (n:Int) (tI u):={_,_,rfl,by lia,by lia,by lia}
def r9 {n:Nat}{us:List NN}(h:∀u∈us,u.1<u.2/\u.2<n):∃qs,iL (kY (us.map tI))=qs.map tI/\g8 qs/\∀p,p∈qs↔p∈us:=by
 have hm:∀x,x∈iL (kY (us.map tI))↔x∈us.map tI:=λx=>(dw _).mem_iff.trans ((dQ _).2 x);obtain⟨qs,e,_⟩:=uX (n:=(n:Int)) (by lia) (ts:=iL (kY (us.map tI))) λt ht=>by
  obtain⟨u,hu,rfl⟩:=Z2.mp ((hm t).mp ht);exact tN (h u hu)
 have nd:(qs.map tI).Nodup:=by rw[<- e];exact(dw _).nodup_iff.mpr (dQ _).1
 have hs:=i8 (kY (us.map tI));rw[e]at hs;refine{qs,e,ou hs ((aat.mp nd).imp λz e=>z (by rw[e])),λp=>?_}
 have:=hm (tI p);rw[e,Z2,Z2]at this;exact{λz=>let ⟨u,hu,e⟩:=this.mp {(p),z,rfl};fI e▸hu,λz=>let ⟨u,hu,e⟩:=this.mpr {(p),z,rfl};fI e▸hu}
def FV (i:Int)(t:List Int):Q0 (.int i) (.lst (t.map D.int))=ν (.bl (decide (i∈t))):=by
 have e:BL (.int i) (.lst (t.map D.int))=ν (decide (i∈t)):=by
  show (if (D.int i).rd=ζ/\(D.lst (t.map D.int)).rd=ζ then ν _ else ξ)=_
  rw[χ {cA (bh i),cA (dZ t)},any_map jT]
 unfold Q0;rw[e];rfl
def IQ (l:List Nat):IS [.lst (kA l)]=ν (.int (l.length:Int)):=by
 show ν (D.int ((((kA l).length:Nat)):Int))=_;rw[ZU]
def Aq (l:List NN):IS [dt l]=ν (.int (l.length:Int)):=by
 unfold dt;show ν (D.int (((l.map λp=>kD (tI p)).length:Nat):Int))=_;rw[ZU]
def LU (l:List Nat):kA l=(l.map λp:Nat=>(p:Int)).map D.int:=by rw[aaK];rfl
def nN:FD:=λds R=>∃n ps,ds=[eG n ps]/\kT n ps/\n<=40/\g8 ps/\R (.bl ζ)
def nN.mono:c0 nN:=λds R R' k z=>by obtain⟨n,ps,e,h1,h2,h3,q⟩:=z;exact{n,ps,e,h1,h2,h3,k _ q}
def Fv:FD:=λds R=>∃n ps,ds=[eG n ps]/\kT n ps/\n<40/\g8 ps/\R (.bl ζ)
def Fv.mono:c0 Fv:=λds R R' k z=>by obtain⟨n,ps,e,h1,h2,h3,q⟩:=z;exact{n,ps,e,h1,h2,h3,k _ q}
def wC:FD:=λds R=>∃(n m:Nat) (ps qs:List NN),ds=[eG n ps,eG m qs]/\kT n ps/\kT m qs/\n<=20/\m<=20/\g8 ps/\g8 qs/\ps.length<=150/\qs.length<=150/\R (.bl ζ)
def wC.mono:c0 wC:=λds R R' k z=>by obtain⟨n,m,ps,qs,e,h1,h2,h3,h4,h5,h6,h7,h8,q⟩:=z;exact{n,m,ps,qs,e,h1,h2,h3,h4,h5,h6,h7,h8,k _ q}
open PySem.Spec PyProof.Rows
section
variable {X:Cx}{C:Cfg}{p:Bool}{i j:Nat}{x y:Str}{a b:Expr}{φs:du}{pos px py pt Ln:Pos}{kt k2}
def LD (hc:X.calm=ζ)(ha:xc X C.z p [a,b] φs)(hN:X.N.Nodup)(hi:X.N[i]?=ν x:=by rfl)(hj:X.N[j]?=ν y:=by rfl)(aL:i≠j:=by decide)
  (hx:X.env.scope.names.lookup x=ν .local:=by rfl) (hy:X.env.scope.names.lookup y=ν .local:=by rfl)
  (hw:swappedStores [.Tuple [.Name x px,.Name y py] kt pt] (.Tuple [a,b] k2 Ln) X.env=pure (ν [x,y]):=by rfl)
  (hs:swapsWithSole [.Tuple [.Name x px,.Name y py] kt pt] (.Tuple [a,b] k2 Ln) pos.line X.env=pure η:=by rfl) :
  PB X C (.Assign [.Tuple [.Name x px,.Name y py] kt pt] (.Tuple [a,b] k2 Ln) pos) (λE β=>φs β λds ks β'=>∃d1 d2,ds=[d1,d2]/\zU d1 (il ks) λb1=>zU d2 (il ks) λb2=>E.nx ((β'.set i (ν b1)).set j (ν b2))) :=
 ⟨λE E' β l q=>ha.mono _ _ _ (λds ks β' PN=> by obtain⟨d1,d2,e,q⟩ := PN;exact{d1,d2,e,zU.mono (λ_ q=>zU.mono (λ_=>l.nx _) q) q}) q,(Lo hc hN hi hj aL hx hy ha.pa hw hs).pre λD σ H ⟨Z,E,β,⟨own,s,n⟩,q,ok⟩=>xE.of ha s q λds ks β' vs H' aX PM o r=> by
  obtain⟨d1,d2,e,q⟩ := PM;subst e;obtain⟨v1,vr,rfl,h1,h2⟩:=r.lC;obtain⟨v2,Xc,rfl,h3,h4⟩:=h2;cases (show Xc=[] from h4)
  have k1:KV X.prog X.w C.z (H,Wn own) aX H' (il ks) d1 v1:=fx▸KV.of (by rw[fx];exact h1)
  have k2:KV X.prog X.w C.z (H,Wn own) aX H' (il ks) d2 v2:=fx▸KV.of (by rw[fx];exact h3)
  obtain⟨y1,q,r1⟩:=zU.of k1 q;obtain⟨y2,q,r2⟩:=zU.of k2 q;exact{v1,v2,rfl,ok.nx _ _ _ {_,(o.sq.gy (aE.a_ (λa z=>z.elim id λz=>z.elim) r1)).gy (aE.a_ (λa z=>z.elim id λz=>z.elim) (aE.a_ (λa z=>by cases y2 with|true=>exact z.imp fG id|false=>exact fG z) r2)),tT (tT (n.trans o.sn))} q}⟩
end
end L2.Q
namespace qW
open PySem L2 L2.Q
section
variable {P:Z6}{w:aam}{K:Ξ}{mg:Str->Option ZW}{base:Heap}
def bx:aN ["row","most","told","every","none","points"] ["row"] (aw cO):=mkS
def Hv {IE Ag}(NP:W_ K mg IE Ag){NM BH}(dE:VM K mg NM BH){J0 wt}(dO:Ss K mg J0 wt){Gw rG}(dF:Ro K mg Gw rG){Cm nY}(dS:NY K mg Cm nY){Ck nX}(dX:NZ K mg Ck nX){nZ iQ}(fo:N3 K mg nZ iQ){lZ gu}(j_:Nt K mg lZ gu){n6 iR}(jv:N2 K mg n6 iR){lY gq}(uA:Nr K mg lY gq){jZ fg}(rH:Kl K mg jZ fg){n9 iT}(qE:N1 K mg n9 iT){l0 gv}(uC:Nq K mg l0 gv){gf cX}(gg:Gg K mg gf cX){fz cE}(gD:D8 K mg fz cE){dW bT}(dY:D5 K mg dW bT){eQ b_}(f7:D4 K mg eQ b_){eT cc}(gC:D7 K mg eT cc){c7 bC}(d9:D6 K mg c7 bC){fy cD}(eU:D9 K mg fy cD){j4 fh}(oe:Km K mg j4 fh){fA cF}(f9:Cr K mg fA cF){eS cb}(fB:B_ K mg eS cb)(B:uK mg):aG P w K mg base bt 7 IE Ag ["row"] (bW P w ζ nN):=by
 have yS:aG P w K mg base bt 6 _ _ _ (bW P w ζ dP):=oF fo j_ gg gD dY f7 gC d9 eU oe f9 fB B;have Kk:aG P w K mg base bt 5 _ _ _ (bW P w ζ di):=gP j_ gg gD dY f7 gC d9 eU oe f9 fB B;have GB:aG P w K mg base bt 5 _ _ _ (bW P w ζ l4):=ub jv gg gD dY f7 gC d9 eU f9 fB uA rH B;have NX:aG P w K mg base bt 6 _ _ _ (bW P w ζ Gx):=oC qE uC gg gD dY f7 gC d9 eU f9 fB B;have GE:aG P w K mg base bt 4 _ _ _ (bW P w ζ qo):=Ec dE dO dF dS dX B.toBs;refine nF NP.F bx (λds R PL=> by obtain⟨n,ps,e,_⟩ := PL;subst e;rfl) λc_ A outer s H E hr=>⟨_,(ah (ij (ao dP.mono yS (hr.mono (by decide)) fo.m fo.F.kp fo.b (aa (ab (i:=0)) ae)) (bA (n:=2) rfl (az (ai (i:=1) bx.nd) (az (ai (i:=2) bx.nd) bg))))
    (ah (ij (ao Gx.mono NX (hr.mono (by decide)) qE.m qE.F.kp qE.b (aa (ab (i:=0)) ae)) (bA (n:=2) rfl (az (ai (i:=3) bx.nd) (az (ai (i:=4) bx.nd) bg))))
    (ah (aQ (i:=5) (aC aK au (EF ["tie"] [ξ] (by rfl) (by decide:(["tie"]:List Str).Nodup) rfl (aS (ab (i:=2))) (λ_ _ _ _ _ _=>(ai (i:=0) (by decide:(["tie"]:List Str).Nodup))) (λ_ _ _ _ _ _=>cz) (λ_ _ _ _ _ _=>(aF af aU (ab (i:=0)) ag))) (EF ["tie"] [ξ] (by rfl) (by decide:(["tie"]:List Str).Nodup) rfl (aS (ab (i:=2))) (λ_ _ _ _ _ _=>(ai (i:=0) (by decide:(["tie"]:List Str).Nodup))) (λ_ _ _ _ _ _=>cz) (λ_ _ _ _ _ _=>(aF af aU (ab (i:=0)) ag)))) bx.nd)
    (bf (bo (tE.t (mE (ic (ib (ao qo.mono GE (hr.mono (by decide)) dE.m dE.F.kp dE.b (aa (ab (i:=0)) (aa (ab (i:=2)) ae))))) (jJ (aA af (bq.m (d7 hr.units)) (a9 af (bU.m gZ) B.len qJ (aa (ab (i:=2)) ae)) (ab (i:=1)))))) (aj (aO gj)) aM)
    (bf (bo (aA af (bq.m (d7 hr.units)) (ao di.mono Kk (hr.mono (by decide)) j_.m j_.F.kp j_.b (aa (ab (i:=0)) (aa ag (aa (aF af aU (ab (i:=0)) ag) ae)))) (aR (aa (ab (i:=1)) (aa (ab (i:=2)) ae)))) (aj (aO gj)) aM)
    (bf (bo (aA af (bq.m (d7 hr.units)) (EF ["point","points"] [ξ,ν 5] (by rfl) (by decide:(["point","points"]:List Str).Nodup) rfl (aS (ab (i:=3))) (λ_ _ _ _ _ _=>(ai (i:=0) (by decide:(["point","points"]:List Str).Nodup))) (λ_ _ _ _ _ _=>(fH (aA af (bq.m (jN hr.g_)) (ab (i:=0)) (ab (i:=1))))) (λ_ _ _ _ _ _=>(ab (i:=0)))) (bS ae)) (aj (aO gj)) aM)
    (bf (bo (aA af (bq.m (d7 hr.units)) (EF ["point","points"] [ξ,ν 5] (by rfl) (by decide:(["point","points"]:List Str).Nodup) rfl (aS (ab (i:=4))) (λ_ _ _ _ _ _=>(ai (i:=0) (by decide:(["point","points"]:List Str).Nodup))) (λ_ _ _ _ _ _=>(fH (aA af (bq.m (xY hr.g_)) (ab (i:=0)) (ab (i:=1))))) (λ_ _ _ _ _ _=>(ab (i:=0)))) (bS ae)) (aj (aO gj)) aM)
    (bf (bo (tE.t (mE (aA af (bq.m (d7 hr.units)) (DC rfl (aC aK au (ab (i:=3)) (ab (i:=4))) B.sorted B.set) (vm (aC aK au (ab (i:=3)) (ab (i:=4))) B.sorted)) (jJ (aA af (bq.m mJ) (a9 af (bU.m gZ) B.len qJ (aa (ab (i:=3)) ae)) (aC af (bq.m t9) ag (ab (i:=1))))))) (aj (aO gj)) aM)
    (bf (bo (tE.t (jK (aA af (bq.m (dG hr.units)) (ao l4.mono GB (hr.mono (by decide)) jv.m jv.F.kp jv.b (aa (ab (i:=0)) ae)) ag) (gM (tE.t (mE (aA af (bq.m (d7 hr.units)) (vm (ab (i:=5)) B.sorted) (ab (i:=3))) (jJ (aA af (bq.m (d7 hr.units)) (a9 af (bU.m gZ) B.len qJ (aa (aC aK au (ab (i:=3)) (ab (i:=4))) ae)) (aF af aU (ab (i:=0)) ag)))))))) (aj (aO gj)) aM)
    (aj (aO (kz af (bq.m LK) (ao l4.mono GB (hr.mono (by decide)) jv.m jv.F.kp jv.b (aa (ab (i:=0)) ae)) ag)))))))))))),λds R h=>?_⟩
 obtain⟨n,ps,rfl,ok,hn,hs,q⟩:=h;have hp:∀p∈ps,p.1<p.2:=λp hp=>(ok.lt p hp).1;obtain⟨F,hF⟩:∃F,F=bw ps w1 0 n:={_,rfl};have eM:fT ps 0 n=.tup [.int (F.length:Int),dt F]:=by
  unfold fT;show D.tup [.int (mX ps 0 n),dt (bw ps w1 0 n)]=_;rw[<- gn hp,<- hF]
 have ZO:F.length<=20:=by
  have h2:=z9 (n:=n) hp;rw[<- gn hp,<- hF]at h2;lia
 have hpl:F.length<=aak:=dv (by lia)
 have YB:(g7 ps n).length<=n:=AF;have Yz:(iW ps n).length<=n:=zM;have ea:wO (.lst (F.map λp:NN=>D.int (p.1:Int))) (.lst (F.map λp:NN=>D.int (p.2:Int)))=ν (.lst ((pD F).map D.int)):=by
  rw[gX (by rw[ZU,ZU];lia)]
  unfold pD;rw[aaj,aaK,aaK];rfl
 have eb:wO (.lst (kA (g7 ps n))) (.lst (kA (iW ps n)))=ν (.lst (((g7 ps n++iW ps n).map λp:Nat=>(p:Int)).map D.int)):=by
  rw[gX (by rw[ZU,ZU];lia),<- LU]
  exact Ι (λl=>ν (D.lst l)) aaj.symm
 have Uj:iu (ps.map tI) (F.map tI)=ξ:=by rw[hF];exact told_set ok
 have YZ:[eG n ps,dt F]=[.tup [.int (n:Int),.lst ((ps.map tI).map kD)],.lst ((F.map tI).map kD)]:=by
  unfold eG dt;rw[aaK,aaK];rfl
 have e5:BK (fT ps 0 n) (.tup [.int (F.length:Int),dt F])=ν (.bl η):=by rw[eM];exact c9 (o8 _ _)
 have e6:((g7 ps n).filter λp:Nat=>!decide ((p:Int)∈pD F))=[]:=ab0.mpr λp h=>by
  rw[Γ (show (p:Int)∈pD F by rw[hF];exact tM ok h)]
  simp
 have e7:((iW ps n).filter λp:Nat=>decide ((p:Int)∈pD F))=[]:=ab0.mpr λp h=>by
  rw[Δ (show ¬ (p:Int)∈pD F by rw[hF];exact uV ok h)]
  simp
 have Wl:((g7 ps n++iW ps n).map λp:Nat=>(p:Int)).length<60:=by
  have:=len_sub (l:=g7 ps n++iW ps n) (m:=Z_ n) ((aat.mp (yX ok)).imp λz e=>z (by rw[e])) λx hx=>by
   rcases Z9.mp hx with z|z
   ·exact(aae.mp z).1
   ·exact(aae.mp z).1
  rw[aaD]at this;rw[ZU];lia
 have Qz:BK (.lst []) (.lst [])=ν (.bl η):=c9 (dZ []);have Yi:∀l:List Nat,(D.lst (kA l)).pd.canLay0=ζ/\(D.lst (kA l)).pd.depth<=2:=C5;have hh:=uq (n:=n) hp ok.nd;refine{_,rfl,tv,n,ps,rfl,ok,?_};rw[eM];refine{_,rfl,rfl,_,_,rfl,_,_,rfl,rfl,_,rfl,tv,n,ps,rfl,ok,hn,_,rfl,rfl,_,_,rfl,_,_,rfl,rfl,_,rfl,_,rfl,tv,?_};refine cJ (λ_=>ζ) (λp:NN=>.int (p.1:Int)) tv hpl (λp hp y0 o J ho h1 _=>{_,rfl,tv,_,rfl,tv,ho,h1 rfl _}) ?_;rw[bp];refine{tv,_,rfl,_,rfl,tv,?_};refine cJ (λ_=>ζ) (λp:NN=>.int (p.2:Int)) tv hpl (λp hp y0 o J ho h1 _=>{_,rfl,tv,_,rfl,tv,ho,h1 rfl _}) ?_;rw[bp];refine{_,ea,.inl {fF,?_}};refine{λβ=>β=[ν (.val η (eG n ps)),ν (.val ζ (.int (F.length:Int))),ν (.val ζ (dt F)),ν (.val ζ (.lst (kA (g7 ps n)))),ν (.val ζ (.lst (kA (iW ps n)))),ν (.val ζ (.lst ((pD F).map D.int)))],?_,?_}
 ·exact{_,rfl,tv,_,rfl,tv,(n:Int),ps.map tI,F.map tI,YZ,by rw[ZU];lia,λt ht=>by (obtain⟨p,_,rfl⟩:=Z2.mp ht;exact{_,_,rfl}),_,rfl,gB (by rw[Γ Uj];rfl) {_,rfl,tv,_,Aq F,tv,_,rfl,_,c9 (bh _),_,rfl,gB rfl rfl}}
 rintro β rfl;refine{λβ=>β=[ν (.val η (eG n ps)),ν (.val ζ (.int (F.length:Int))),ν (.val ζ (dt F)),ν (.val ζ (.lst (kA (g7 ps n)))),ν (.val ζ (.lst (kA (iW ps n)))),ν (.val ζ (.lst ((pD F).map D.int)))],?_,?_}
 ·exact{_,rfl,tv,tv,_,rfl,tv,_,rfl,tv,n,ps,0,n,rfl,ok,aab _,ZX _,tv,_,rfl,tv,_,rfl,tv,gF,.inr {_,e5,_,rfl,gB rfl rfl}}
 rintro β rfl;refine{λβ=>β=[ν (.val η (eG n ps)),ν (.val ζ (.int (F.length:Int))),ν (.val ζ (dt F)),ν (.val ζ (.lst (kA (g7 ps n)))),ν (.val ζ (.lst (kA (iW ps n)))),ν (.val ζ (.lst ((pD F).map D.int)))],?_,?_}
 ·refine{_,rfl,_,rfl,tv,?_};refine cJ (λp:Nat=>!decide ((p:Int)∈pD F)) (λp:Nat=>.int (p:Int)) tv (dv (by lia)) (λp hp y0 o J ho j1 j2=>{_,rfl,tv,_,rfl,_,wJ _ _,_,rfl,RT (λz=>{_,rfl,tv,ho,j1 (by rw[Δ z];rfl) _}) (λz=>j2 (by rw[Γ z];rfl) _)}) ?_
  rw[e6];exact{tv,aab _,_,Qz,_,rfl,gB rfl rfl}
 rintro β rfl;refine{λβ=>β=[ν (.val η (eG n ps)),ν (.val ζ (.int (F.length:Int))),ν (.val ζ (dt F)),ν (.val ζ (.lst (kA (g7 ps n)))),ν (.val ζ (.lst (kA (iW ps n)))),ν (.val ζ (.lst ((pD F).map D.int)))],?_,?_}
 ·refine{_,rfl,_,rfl,tv,?_};refine cJ (λp:Nat=>decide ((p:Int)∈pD F)) (λp:Nat=>.int (p:Int)) tv (dv (by lia)) (λp hp y0 o J ho j1 j2=>{_,rfl,tv,_,rfl,_,FV _ _,_,rfl,qc (λz=>{_,rfl,tv,ho,j1 (Γ z) _}) (λz=>j2 (Δ z) _)}) ?_
  rw[e7];exact{tv,aab _,_,Qz,_,rfl,gB rfl rfl}
 rintro β rfl;refine{λβ=>β=[ν (.val η (eG n ps)),ν (.val ζ (.int (F.length:Int))),ν (.val ζ (dt F)),ν (.val ζ (.lst (kA (g7 ps n)))),ν (.val ζ (.lst (kA (iW ps n)))),ν (.val ζ (.lst ((pD F).map D.int)))],?_,?_}
 ·refine{_,rfl,tv,_,rfl,_,eb,.inl {fF,_,rfl,Wl,λms a1 a2 a3=>{tv,_,rfl,tv,_,rfl,_,eb,.inl {fF,_,rfl,Wl,λHP b1 b2=>?_}}}};have em:ms=HP:=uo a1 ((List.Pairwise.and b1 ((b2.nodup_iff).mpr (yX ok))).imp λPK=> by obtain⟨x,y⟩ := PK;lia) λx=>(a2 x).trans b2.mem_iff.symm
  rw[em];have e8:=CN ok;rw[<- hF]at e8;exact{_,c9 (dZ HP),_,rfl,gB rfl {_,rfl,tv,_,IQ _,tv,tv,_,rfl,_,yK (.inl {by decide,by decide}),_,rfl,_,rfl,gB (Δ (by lia)) rfl}}
 rintro β rfl;refine{λβ=>β=[ν (.val η (eG n ps)),ν (.val ζ (.int (F.length:Int))),ν (.val ζ (dt F)),ν (.val ζ (.lst (kA (g7 ps n)))),ν (.val ζ (.lst (kA (iW ps n)))),ν (.val ζ (.lst ((pD F).map D.int)))],?_,?_}
 ·refine{_,rfl,tv,n,ps,rfl,ok,hn,tv,_,cW _ _,_,rfl,qc (λh1=>?_) (λ_=>rfl)};have oM:cH ps n=1:=by rw[hh]at h1;lia
  refine{_,rfl,_,rfl,by rw[zk];lia,λms a1 a2=>?_}
  rw[hF]at a2;rw[CL ok oM a1 a2];have e9:=CO ok oM;have Y1:IS [.lst (((g7 ps n++iW ps n).map λp:Nat=>(p:Int)).map D.int)]=ν (.int (n:Int)):=by
   show ν (D.int ((((_:List D).length:Nat)):Int))=_;rw[ZU,ZU,aag,e9]
  exact{tv,_,rfl,_,c9 (Yi _),_,rfl,gB rfl {_,rfl,tv,_,rfl,_,eb,.inl {fF,tv,_,Y1,tv,_,rfl,tv,_,rfl,_,c9 (bh _),_,rfl,gB rfl rfl}}}
 rintro β rfl;refine{_,rfl,tv,n,ps,rfl,ok,hn,tv,_,rfl,tv,?_};have ZR:=CM ok;have Y0:decide ((1:Int)<=hT ps n 0)=ζ:=Γ (by rw[hh];lia)
 show R (.bl (decide ((1:Int)<=hT ps n 0)));rw[Y0];exact q
end
section
variable {P:Z6}{w:aam}{K:Ξ}{mg:Str->Option ZW}{base:Heap}
def aZ:aN ["row","many","ties","turned","every","none","due"] ["row"] (aw cj):=mkS
def Bi {ID Ae}(NO:W9 K mg ID Ae){wx nM}(Ap:Sr K mg wx nM){nZ iQ}(fo:N3 K mg nZ iQ){lZ gu}(j_:Nt K mg lZ gu){n6 iR}(jv:N2 K mg n6 iR){lY gq}(uA:Nr K mg lY gq){jZ fg}(rH:Kl K mg jZ fg){n9 iT}(qE:N1 K mg n9 iT){l0 gv}(uC:Nq K mg l0 gv){gf cX}(gg:Gg K mg gf cX){fz cE}(gD:D8 K mg fz cE){dW bT}(dY:D5 K mg dW bT){eQ b_}(f7:D4 K mg eQ b_){eT cc}(gC:D7 K mg eT cc){c7 bC}(d9:D6 K mg c7 bC){fy cD}(eU:D9 K mg fy cD){j4 fh}(oe:Km K mg j4 fh){fA cF}(f9:Cr K mg fA cF){eS cb}(fB:B_ K mg eS cb)(B:uK mg):aG P w K mg base bt 7 ID Ae ["row"] (bW P w ζ nN):=by
 have yS:aG P w K mg base bt 6 _ _ _ (bW P w ζ dP):=oF fo j_ gg gD dY f7 gC d9 eU oe f9 fB B;have Kk:aG P w K mg base bt 5 _ _ _ (bW P w ζ di):=gP j_ gg gD dY f7 gC d9 eU oe f9 fB B;have GB:aG P w K mg base bt 5 _ _ _ (bW P w ζ l4):=ub jv gg gD dY f7 gC d9 eU f9 fB uA rH B;have NX:aG P w K mg base bt 6 _ _ _ (bW P w ζ Gx):=oC qE uC gg gD dY f7 gC d9 eU f9 fB B;have VJ:aG P w K mg base bt 1 _ _ _ (bW P w ζ kM):=sC Ap B.toBs;refine nF NO.F aZ (λds R PJ=> by obtain⟨n,ps,e,_⟩ := PJ;subst e;rfl) λc_ A outer s H E hr=>⟨_,(ah (ij (ab (i:=0)) (bA (n:=2) rfl (az (ai (i:=1) aZ.nd) (az (ai (i:=2) aZ.nd) bg))))
    (ah (aQ (i:=3) (ao kM.mono VJ (hr.mono (by decide)) Ap.m Ap.F.kp Ap.b (aa (ab (i:=1)) (aa (EF ["a","b","many"] [ξ,ξ,ν 1] (by rfl) (by decide:(["a","b","many"]:List Str).Nodup) rfl (aS (ab (i:=2))) (λ_ _ _ _ _ _=>(bA (n:=2) rfl (az (ai (i:=0) (by decide:(["a","b","many"]:List Str).Nodup)) (az (ai (i:=1) (by decide:(["a","b","many"]:List Str).Nodup)) bg)))) (λ_ _ _ _ _ _=>cz) (λ_ _ _ _ _ _=>(aR (aa (aC af (bq.m aY) (aC af (bq.m aY) (ab (i:=2)) ag) (ab (i:=1))) (aa (aC af (bq.m aY) (aC af (bq.m aY) (ab (i:=2)) ag) (ab (i:=0))) ae))))) ae))) aZ.nd)
    (ah (ij (ao Gx.mono NX (hr.mono (by decide)) qE.m qE.F.kp qE.b (aa (ab (i:=0)) ae)) (bA (n:=2) rfl (az (ai (i:=4) aZ.nd) (az (ai (i:=5) aZ.nd) bg))))
    (ah (aQ (i:=6) (aR (aa (EF ["point","many"] [ξ,ν 1] (by rfl) (by decide:(["point","many"]:List Str).Nodup) rfl (aS (DD (ab (i:=4)))) (λ_ _ _ _ _ _=>(ai (i:=0) (by decide:(["point","many"]:List Str).Nodup))) (λ_ _ _ _ _ _=>cz) (λ_ _ _ _ _ _=>(aC af (bq.m aY) (aC af (bq.m aY) (ab (i:=1)) ag) (ab (i:=0))))) (aa (EF ["point","many"] [ξ,ν 1] (by rfl) (by decide:(["point","many"]:List Str).Nodup) rfl (aS (DD (ab (i:=5)))) (λ_ _ _ _ _ _=>(ai (i:=0) (by decide:(["point","many"]:List Str).Nodup))) (λ_ _ _ _ _ _=>cz) (λ_ _ _ _ _ _=>(aC af (bq.m aY) (aC af (bq.m aY) (ab (i:=1)) ag) (ab (i:=0))))) ae))) aZ.nd)
    (bf (bo (tE.t (mE (aA af (bq.m (d7 hr.units)) (aF af aU (ao dP.mono yS (hr.mono (by decide)) fo.m fo.F.kp fo.b (aa (ab (i:=3)) ae)) ag) (aF af aU (ao dP.mono yS (hr.mono (by decide)) fo.m fo.F.kp fo.b (aa (ab (i:=0)) ae)) ag)) (jJ (aA af (bq.m (d7 hr.units)) (ao l4.mono GB (hr.mono (by decide)) jv.m jv.F.kp jv.b (aa (ab (i:=3)) ae)) (ao l4.mono GB (hr.mono (by decide)) jv.m jv.F.kp jv.b (aa (ab (i:=0)) ae)))))) (aj (aO gj)) aM)
    (aj (aO (kz af (bq.m (dG hr.units)) (ao Gx.mono NX (hr.mono (by decide)) qE.m qE.F.kp qE.b (aa (ab (i:=3)) ae)) (ab (i:=6)))))))))),λds R h=>?_⟩
 obtain⟨n,ps,rfl,ok,hn,hs,q⟩:=h;have hp:∀p∈ps,p.1<p.2:=λp hp=>(ok.lt p hp).1;have Gr:=ok.sm;have mW:∀u∈ps.map (tr n),u.1<u.2/\u.2<n:=λu hu=>by
  obtain⟨p,hp,rfl⟩:=Z2.mp hu;exact CJ (ok.lt p hp)
 obtain⟨qs,eq,Pu,JS⟩:=r9 mW;have T:yR n ps qs:=⟨ok.lt,λp h=>(JS _).mpr (abz h),λq h=>by
  obtain⟨p,hp,e⟩:=Z2.mp ((JS q).mp h);exact{(p),hp,e.symm}⟩
 have D_:kT n qs:=⟨T.symm.lt,i9 Pu,ok.le,by
  have:=len_sub (m:=ps.map (tr n)) (i9 Pu) λx hx=>(JS x).mp hx;rw[ZU]at this;lia⟩
 have eg:D.lst (ps.map λp:NN=>D.tup [.int ((n:Int)-1-(p.2:Int)),.int ((n:Int)-1-(p.1:Int))])=.lst (((ps.map (tr n)).map tI).map kD):=by
  rw[aaK,aaK];refine Ι D.lst (aaN λp h=>?_);have:=ok.lt p h;show _=D.tup [.int ((n-1-p.2:Nat):Int),.int ((n-1-p.1:Nat):Int)];rw[show ((n-1-p.2:Nat):Int)=(n:Int)-1-(p.2:Int) by lia,show ((n-1-p.1:Nat):Int)=(n:Int)-1-(p.1:Int) by lia]
 have Vp:((ps.map (tr n)).map tI).map Ei=(ps.map (tr n)).map tI:=by
  rw[aaK];exact aaN λu h=>ud (mW u h).1
 have eR:D.lst ((iL (kY (((ps.map (tr n)).map tI).map Ei))).map kD)=dt qs:=by
  rw[Vp,eq];unfold dt;rw[aaK];rfl
 refine{_,rfl,_,rfl,rfl,_,_,rfl,_,_,rfl,rfl,_,rfl,tv,_,rfl,_,rfl,tv,?_};refine yd (λ_=>ζ) (λp:NN=>D.tup [.int ((n:Int)-1-(p.2:Int)),.int ((n:Int)-1-(p.1:Int))]) tv (dv (by lia)) (λp hp y0 y1 o J ho h1 _=>{_,rfl,rfl,_,_,rfl,_,_,rfl,rfl,_,rfl,tv,_,rfl,tv,_,rfl,_,rfl,tv,_,rfl,tv,_,rfl,tv,_,rfl,_,rfl,tv,gF,tv,ho,h1 rfl _ _}) ?_
 rw[bp,eg];refine{tv,n,_,rfl,by lia,by rw[ZU,ZU];lia,λg hg=>?_,?_}
 ·obtain⟨u,hu,rfl⟩:=Z2.mp hg;exact{_,_,rfl,by rw[ud (mW u hu).1];exact tN (mW u hu)}
 rw[eR];refine{_,rfl,tv,n,ps,rfl,ok,hn,_,rfl,rfl,_,_,rfl,_,_,rfl,rfl,_,rfl,_,rfl,.inr {_,rfl,tv,?_}};have YB:(g7 ps n).length<=n:=AF;have Yz:(iW ps n).length<=n:=zM;refine jk (List.map_reverse.symm:(kA (g7 ps n)).reverse=(g7 ps n).reverse.map λp:Nat=>D.int (p:Int)) (cJ (λ_=>ζ) (λp:Nat=>D.int ((n:Int)-1-(p:Int))) tv (by rw[abU];exact dv (by lia)) (λp hp y0 o J ho h1 _=>{_,rfl,tv,_,rfl,tv,_,rfl,_,rfl,tv,ho,h1 rfl _}) ?_)
 rw[bp];refine{tv,_,rfl,_,rfl,.inr {_,rfl,tv,?_}};refine jk (List.map_reverse.symm:(kA (iW ps n)).reverse=(iW ps n).reverse.map λp:Nat=>D.int (p:Int)) (cJ (λ_=>ζ) (λp:Nat=>D.int ((n:Int)-1-(p:Int))) tv (by rw[abU];exact dv (by lia)) (λp hp y0 o J ho h1 _=>{_,rfl,tv,_,rfl,tv,_,rfl,_,rfl,tv,ho,h1 rfl _}) ?_)
 rw[bp];refine{tv,gF,?_};have e1:BK (.int (mX qs 0 n)) (.int (mX ps 0 n))=ν (.bl η):=by rw[CI T];exact c9 (bh _)
 have e2:BK (.int (hT qs n 0)) (.int (hT ps n 0))=ν (.bl η):=by
  rw[uq (λp h=>(D_.lt p h).1) D_.nd,uq hp ok.nd,KN T ok.nd D_.nd];exact c9 (bh _)
 have e3:NQ (KO qs n) (.tup [.lst ((g7 ps n).reverse.map λp:Nat=>D.int ((n:Int)-1-(p:Int))),.lst ((iW ps n).reverse.map λp:Nat=>D.int ((n:Int)-1-(p:Int)))])=ν (.bl ζ):=by
  rw[KL T ok.nd D_.nd,aaK,aaK];have sm:∀l:List Nat,(D.lst (l.map λp:Nat=>D.int ((n:Int)-1-(p:Int)))).pd.canLay0=ζ/\(D.lst (l.map λp:Nat=>D.int ((n:Int)-1-(p:Int)))).pd.depth<=2:=λl=>jC λd hd=>by
   obtain⟨i,_,rfl⟩:=Z2.mp hd;exact bh _
  refine wN (n:=3) (mw λd hd=>?_);rcases Z1.mp hd with rfl|hd
  ·exact sm _
  ·rw[ZY.mp hd];exact sm _
 refine{λβ=>β=[ν (.val η (eG n ps)),ν (.val ζ (.int (n:Int))),ν (.val η (dt ps)),ν (.val ζ (eG n qs)),ν (.val ζ (.lst (kA (g7 ps n)))),ν (.val ζ (.lst (kA (iW ps n)))),ν (.val ζ (.tup [.lst ((g7 ps n).reverse.map λp:Nat=>D.int ((n:Int)-1-(p:Int))),.lst ((iW ps n).reverse.map λp:Nat=>D.int ((n:Int)-1-(p:Int)))]))],?_,?_}
 ·exact{_,rfl,tv,n,qs,rfl,D_,tv,_,rfl,tv,_,rfl,tv,n,ps,rfl,ok,tv,_,rfl,_,e1,_,rfl,gB rfl {_,rfl,tv,n,qs,rfl,D_,hn,tv,_,rfl,tv,n,ps,rfl,ok,hn,_,e2,_,rfl,gB rfl rfl}}
 ·rintro β rfl;exact{_,rfl,tv,n,qs,rfl,D_,hn,tv,_,rfl,_,e3,tv,q}
end
section
variable {P:Z6}{w:aam}{K:Ξ}{mg:Str->Option ZW}{base:Heap}
def aJ:aN ["hand","row","many","ties","most","at","one","other","more","begin","end","inner"] ["hand","row"] (aw bX):=mkS
def LR {IG Ah}(NR:W8 K mg IG Ah){IF ux}(dT:D1 K mg IF ux){wx nM}(Ap:Sr K mg wx nM){nZ iQ}(fo:N3 K mg nZ iQ){lZ gu}(j_:Nt K mg lZ gu){n6 iR}(jv:N2 K mg n6 iR){lY gq}(uA:Nr K mg lY gq){jZ fg}(rH:Kl K mg jZ fg){n9 iT}(qE:N1 K mg n9 iT){l0 gv}(uC:Nq K mg l0 gv){gf cX}(gg:Gg K mg gf cX){fz cE}(gD:D8 K mg fz cE){dW bT}(dY:D5 K mg dW bT){eQ b_}(f7:D4 K mg eQ b_){eT cc}(gC:D7 K mg eT cc){c7 bC}(d9:D6 K mg c7 bC){fy cD}(eU:D9 K mg fy cD){j4 fh}(oe:Km K mg j4 fh){fA cF}(f9:Cr K mg fA cF){eS cb}(fB:B_ K mg eS cb)(B:uK mg):aG P w K mg base bt 7 IG Ah ["hand","row"] (jX P w i4 ζ Fv):=by
 have yS:aG P w K mg base bt 6 _ _ _ (bW P w ζ dP):=oF fo j_ gg gD dY f7 gC d9 eU oe f9 fB B;have Kk:aG P w K mg base bt 5 _ _ _ (bW P w ζ di):=gP j_ gg gD dY f7 gC d9 eU oe f9 fB B;have GB:aG P w K mg base bt 5 _ _ _ (bW P w ζ l4):=ub jv gg gD dY f7 gC d9 eU f9 fB uA rH B;have NX:aG P w K mg base bt 6 _ _ _ (bW P w ζ Gx):=oC qE uC gg gD dY f7 gC d9 eU f9 fB B;have GT:aG P w K mg base bt 1 _ _ _ (jX P w i4 ζ cm):=o3 (lM dT.F);have VJ:aG P w K mg base bt 1 _ _ _ (bW P w ζ kM):=sC Ap B.toBs;refine HD NR.F aJ (λds R PH=> by obtain⟨n,ps,e,_⟩ := PH;subst e;rfl) λc_ A outer s H E IO hr=>⟨_,(ah (ij (ab (i:=1)) (bA (n:=2) rfl (az (ai (i:=2) aJ.nd) (az (ai (i:=3) aJ.nd) bg))))
    (ah (aQ (i:=4) (aF af aU (ao dP.mono yS (hr.mono (by decide)) fo.m fo.F.kp fo.b (aa (ab (i:=1)) ae)) ag) aJ.nd)
    (bf (bo (aA af (bq.m (d7 hr.units)) (ao dP.mono yS (hr.mono (by decide)) fo.m fo.F.kp fo.b (aa (aR (aa (aC aK au (ab (i:=2)) ag) (aa (ab (i:=3)) ae))) ae)) (ao dP.mono yS (hr.mono (by decide)) fo.m fo.F.kp fo.b (aa (ab (i:=1)) ae))) (aj (aO gj)) aM)
    (bf (bo (aA af (bq.m (d7 hr.units)) (ab (i:=3)) (bS ae)) (ah (aQ (i:=5) (br (ih:=0) cm.mono GT (hr.mono (by decide)) dT.m dT.F.kp dT.b (aa (a9 af (bU.m gZ) B.len qJ (aa (ab (i:=3)) ae)) ae)) aJ.nd)
    (aj (bo (aA af (bq.m (jN hr.g_)) (aF af aU (ao dP.mono yS (hr.mono (by decide)) fo.m fo.F.kp fo.b (aa (aR (aa (ab (i:=2)) (aa (aC aK au (sf (ab (i:=3)) gO (gN (ab (i:=5)))) (sf (ab (i:=3)) (gN (aC aK au (ab (i:=5)) ag)) gO)) ae))) ae)) ag) (aR (aa (ab (i:=4)) (aa (aC af (bq.m aY) (ab (i:=4)) ag) ae)))) (aj (aO gj)) aM))) aM)
    (bf (bo (aA af (bq.m mJ) (ab (i:=2)) ag) (ah (aQ (i:=6) (br (ih:=0) cm.mono GT (hr.mono (by decide)) dT.m dT.F.kp dT.b (aa (ab (i:=2)) ae)) aJ.nd)
    (ah (aQ (i:=7) (aC af (bq.m zF) (aC aK au (aC aK au (ab (i:=6)) ag) (br (ih:=0) cm.mono GT (hr.mono (by decide)) dT.m dT.F.kp dT.b (aa (aC af (bq.m aY) (ab (i:=2)) ag) ae))) (ab (i:=2))) aJ.nd)
    (ah (aQ (i:=8) (aF af aU (ao dP.mono yS (hr.mono (by decide)) fo.m fo.F.kp fo.b (aa (ao kM.mono VJ (hr.mono (by decide)) Ap.m Ap.F.kp Ap.b (aa (ab (i:=2)) (aa (aC aK au (sf (ab (i:=3)) gO (gN ag)) (bS (aa (aR (aa (ab (i:=6)) (aa (ab (i:=7)) ae))) ae))) ae))) ae)) ag) aJ.nd)
    (aj (bo (aA af (bq.m (jN hr.g_)) (aC af (bq.m aY) (ab (i:=8)) (aF af aU (ao dP.mono yS (hr.mono (by decide)) fo.m fo.F.kp fo.b (aa (aR (aa (ab (i:=2)) (aa (sf (ab (i:=3)) gO (gN ag)) ae))) ae)) ag)) (aR (aa ag (aa ag ae)))) (aj (aO gj)) aM))))) aM)
    (ah (aQ (i:=9) (br (ih:=0) cm.mono GT (hr.mono (by decide)) dT.m dT.F.kp dT.b (aa (aC aK au (ab (i:=2)) ag) ae)) aJ.nd)
    (ah (aQ (i:=10) (aC aK au (ab (i:=9)) (br (ih:=0) cm.mono GT (hr.mono (by decide)) dT.m dT.F.kp dT.b (aa (aC af (bq.m aY) (aC aK au (ab (i:=2)) ag) (ab (i:=9))) ae))) aJ.nd)
    (ah (aQ (i:=11) (aF af aU (ao di.mono Kk (hr.mono (by decide)) j_.m j_.F.kp j_.b (aa (ab (i:=1)) (aa (ab (i:=9)) (aa (ab (i:=10)) ae)))) ag) aJ.nd)
    (aj (aO (pH (ab (i:=11)) (dC mI (aF af aU (ao di.mono Kk (hr.mono (by decide)) j_.m j_.F.kp j_.b (aa (ab (i:=1)) (aa (a9 af (bU.m (iD rfl)) B.max ng (aa ag (aa (aC af (bq.m aY) (ab (i:=9)) ag) ae))) (aa (ab (i:=10)) ae)))) ag) (lG mI (aC aK au (ab (i:=11)) ag)))))))))))))),λds R h=>?_⟩
 obtain⟨n,ps,rfl,ok,hn,hs,q⟩:=h;have hp:∀p∈ps,p.1<p.2:=λp hp=>(ok.lt p hp).1;have Gr:=ok.sm;have nat:∀r:Int,0<=r->∃a:Nat,r=(a:Int):=λr h=>{r.toNat,by lia}
 have eM:fT ps 0 n=eG (bw ps w1 0 n).length (bw ps w1 0 n):=by
  unfold fT;show D.tup [.int (mX ps 0 n),dt (bw ps w1 0 n)]=_;rw[<- gn hp];rfl
 have Cc:kT (n+1) ps:={λp h=>{hp p h,by have:=(ok.lt p h).2;lia},ok.nd,by lia,ok.sm}
 have e1:BK (fT ps 0 (n+1)) (fT ps 0 n)=ν (.bl η):=by
  rw[Bn ok.lt hs (Nat.le_succ n),eM];exact c9 (o8 _ _)
 have z6:∀(S:List NN) (a:Nat),M4 (dt S) ξ (ν (a:Int))=ν (dt (S.take a)):=λS a=>by
  unfold dt;rw[Jr rfl,ab7]
 have Ui:∀(S:List NN) (a:Nat),M4 (dt S) (ν ((a:Int)+1)) ξ=ν (dt (S.drop (a+1))):=λS a=>by
  unfold dt;rw[G0 (x:=(a:Int)+1) (h:=a+1) rfl,acW]
 have Fc:∀S:List NN,NL (dt S):=λS=>jS (f:=λp:NN=>kD (tI p)) (λ_=>rfl) S;have Iv:∀S T:List NN,S.length<=400->T.length<=400->wO (dt S) (dt T)=ν (dt (S++T)):=λS T h1 h2=>by
  unfold dt;rw[gX (by rw[ZU,ZU];lia),aaj]
 have Y3:BK (dt ps) (.lst [])=ν (.bl (!decide (ps=[]))):=by
  have z:=FP (ps.map tI) [];rw[aaK]at z;refine z.trans (Ι (λb=>ν (D.bl (!b))) (decide_eq_decide.mpr ?_));rw[List.map_eq_nil_iff]
 refine{_,rfl,_,rfl,rfl,_,_,rfl,_,_,rfl,rfl,_,rfl,tv,n,ps,rfl,ok,tv,_,rfl,?_};refine{λβ=>∃x5 x6 x7 x8 x9 jW Jo:Option Q.B,β=[ν (.hand i4),ν (.val η (eG n ps)),ν (.val ζ (.int (n:Int))),ν (.val η (dt ps)),ν (.val ζ (.int (mX ps 0 n))),x5,x6,x7,x8,x9,jW,Jo],?_,?_}
 ·exact{_,rfl,tv,_,rfl,tv,_,rfl,tv,gF,.inr {tv,n+1,ps,rfl,Cc,tv,_,rfl,tv,n,ps,rfl,ok,_,e1,_,rfl,gB rfl {_,_,_,_,_,_,_,rfl}}}
 rintro β ⟨x5,x6,x7,x8,x9,jW,Jo,rfl⟩;refine{λβ=>∃x5 x6 x7 x8 x9 jW Jo:Option Q.B,β=[ν (.hand i4),ν (.val η (eG n ps)),ν (.val ζ (.int (n:Int))),ν (.val η (dt ps)),ν (.val ζ (.int (mX ps 0 n))),x5,x6,x7,x8,x9,jW,Jo],?_,?_}
 ·refine{_,rfl,tv,aab _,_,Y3,_,rfl,RT (λur=>?_) (λ_=>{_,_,_,_,_,_,_,rfl})};have Yo:=List.length_pos_iff.mpr ur;refine{rfl,_,rfl,tv,_,Aq ps,tv,rfl,tv,(ps.length:Int),rfl,by lia,by lia,λr r0 r1=>?_}
  obtain⟨a,rfl⟩:=nat r r0;have gV:a<ps.length:=by lia
  have EV:∀t∈ps.take a++ps.drop (a+1),t∈ps:=λt ht=>(Z9.mp ht).elim abf List.mem_of_mem_drop;have EW:(ps.take a++ps.drop (a+1)).Sublist ps:=by rw[<- List.eraseIdx_eq_take_drop_succ];exact List.eraseIdx_sublist _ _
  have XQ:kT n (ps.take a++ps.drop (a+1)):={λp h=>ok.lt p (EV p h),ok.nd.sublist EW,ok.le,aaH EW.length_le Gr};have k1:=Et (qs:=ps.take a++ps.drop (a+1)) hp EV (i:=0) (j:=n);have k2:=Eu (qs:=ps.take a++ps.drop (a+1)) (u:=ps[a]) hp (λt h=>hp t (EV t h)) (λt ht=>by
   have e:ps=ps.take a++ps[a]::ps.drop (a+1):=by rw[<- aaZ gV,abC]
   rw[e]at ht;rcases Z9.mp ht with z|z
   ·exact .inl (aaP _ z)
   ·rcases Z1.mp z with z|z
    ·exact .inr z
    ·exact .inl (aaB _ z)) (i:=0) (j:=n)
  have M1:iB (.int (mX (ps.take a++ps.drop (a+1)) 0 n)) (kD [mX ps 0 n,mX ps 0 n-1])=ν (.bl η):=by
   rw[s_,Γ (by rw[Z1,ZY];lia)]
   rfl
  exact{_,rfl,tv,_,rfl,_,rfl,(a:Int),rfl,_,z6 ps a,.inl {Fc _,tv,_,rfl,_,rfl,tv,_,rfl,(a:Int)+1,rfl,_,Ui ps a,.inl {Fc _,_,Iv _ _ (by rw[aaw];lia) (by rw[ack];lia),.inl {Fc _,tv,gF,tv,n,_,rfl,XQ,tv,_,rfl,tv,_,rfl,tv,_,rfl,tv,_,rfl,tv,gF,_,M1,_,rfl,gB rfl {_,_,_,_,_,_,_,rfl}}}}}
 rintro β ⟨x5,x6,x7,x8,x9,jW,Jo,rfl⟩;refine{λβ=>∃x5 x6 x7 x8 x9 jW Jo:Option Q.B,β=[ν (.hand i4),ν (.val η (eG n ps)),ν (.val ζ (.int (n:Int))),ν (.val η (dt ps)),ν (.val ζ (.int (mX ps 0 n))),x5,x6,x7,x8,x9,jW,Jo],?_,?_}
 ·refine{_,rfl,tv,_,rfl,_,rfl,qc (λh1=>?_) (λ_=>{_,_,_,_,_,_,_,rfl})};have h1:1<n:=by lia
  refine{rfl,_,rfl,tv,rfl,tv,(n:Int),rfl,by lia,by lia,λr r0 r1=>?_}
  obtain⟨a,rfl⟩:=nat r r0;have ha:a<n:=by lia
  refine{_,rfl,tv,_,rfl,tv,rfl,_,rfl,tv,_,rfl,tv,rfl,tv,(n:Int)-1,rfl,by lia,by lia,λr r0 r1=>?_}
  obtain⟨b,rfl⟩:=nat r r0;obtain⟨c,hc,ZL,ZM⟩:∃c:Nat,((a:Int)+1+(b:Int)) % (n:Int)=(c:Int)/\c<n/\c≠a:=by
   refine{(a+1+b) % n,by rw[Int.natCast_emod];rfl,acU _ (by lia),?_}
   by_cases h:a+1+b<n
   ·rw[acV h];lia
   ·rw[Nat.mod_eq_sub_mod (by lia),acV (by lia)];lia
  have ML:M6 (.int ((a:Int)+1+(b:Int))) (.int (n:Int))=ν (.int (c:Int)):=by
   rw[<- hc];exact χ (by lia)
  obtain⟨u,hu⟩:∃u:NN,u=(min a c,max a c):={_,rfl};have Wt:u.1<u.2/\u.2<n:=by rw[hu];dsimp only;lia
  have mW:∀v∈ps.take 299++[u],v.1<v.2/\v.2<n:=λv hv=>by
   rcases Z9.mp hv with z|z
   ·exact ok.lt v (abf z)
   ·rw[ZY.mp z];exact Wt
  obtain⟨qs,eq,Pu,JS⟩:=r9 mW;have gV:(ps.take 299).length<=299:=by rw[aaw];lia
  have D_:kT n qs:=⟨λp h=>mW p ((JS p).mp h),i9 Pu,ok.le,by
   have:=len_sub (m:=ps.take 299++[u]) (i9 Pu) λx hx=>(JS x).mp hx;rw[aag,abo]at this;lia⟩
  have RE:kT n (ps.take 299):={λp h=>ok.lt p (abf h),ok.nd.sublist (acL _ _),ok.le,by lia}
  have Wz:Ei [(a:Int),(c:Int)]=tI u:=by
   show [if (c:Int)<(a:Int) then (c:Int) else (a:Int),if (a:Int)<(c:Int) then (c:Int) else (a:Int)]=[((u.1:Nat):Int),((u.2:Nat):Int)]
   rw[hu,show (if (c:Int)<(a:Int) then (c:Int) else (a:Int))=((min a c:Nat):Int) by split <;> lia,show (if (a:Int)<(c:Int) then (c:Int) else (a:Int))=((max a c:Nat):Int) by split <;> lia]
  have Vp:((ps.take 299).map tI++[[(a:Int),(c:Int)]]).map Ei=(ps.take 299++[u]).map tI:=by
   rw[aaj,aaj,aaK,aap,aap,Wz];exact Ι (·++_) (aaN λv h=>ud (hp v (abf h)))
  have eR:D.lst ((iL (kY (((ps.take 299).map tI++[[(a:Int),(c:Int)]]).map Ei))).map kD)=dt qs:=by
   rw[Vp,eq];unfold dt;rw[aaK];rfl
  have QU:wO (dt (ps.take 299)) (.lst [.tup [.int (a:Int),.int (c:Int)]])=ν (.lst (((ps.take 299).map tI++[[(a:Int),(c:Int)]]).map kD)):=by
   unfold dt;rw[gX (by rw[ZU];show _+1<=_;lia),aaj,aaK]
   rfl
  have k1:=Et (ps:=qs) (qs:=ps.take 299) (λp h=>(D_.lt p h).1) (λt h=>(JS t).mpr (aaP _ h)) (i:=0) (j:=n);have k2:=Eu (ps:=qs) (qs:=ps.take 299) (u:=u) (λp h=>(D_.lt p h).1) (λt h=>(RE.lt t h).1) (λt ht=>(Z9.mp ((JS t).mp ht)).imp id ZY.mp) (i:=0) (j:=n);have M1:iB (.int (mX qs 0 n-mX (ps.take 299) 0 n)) (kD [0,1])=ν (.bl η):=by
   rw[s_,Γ (by rw[Z1,ZY];lia)]
   rfl
  refine{_,rfl,tv,_,rfl,_,ML,?_};refine{_,rfl,tv,_,rfl,299,rfl,_,z6 ps 299,.inl {Fc _,tv,_,rfl,tv,_,rfl,tv,gF,tv,CS,_,QU,.inl {fY _,tv,n,_,rfl,by lia,by rw[aag,ZU,abo];lia,λg hg=>?_,?_}}}
  ·rcases Z9.mp hg with z|z
   ·obtain⟨v,hv,rfl⟩:=Z2.mp z;exact{_,_,rfl,by rw[ud (RE.lt v hv).1];exact tN (RE.lt v hv)}
   ·rw[ZY.mp z];exact{_,_,rfl,by rw[Wz];exact tN Wt}
  rw[eR];refine{tv,n,qs,rfl,D_,tv,_,rfl,?_};exact{_,rfl,tv,_,rfl,tv,_,rfl,299,rfl,_,z6 ps 299,.inl {Fc _,tv,gF,tv,n,_,rfl,RE,tv,_,rfl,_,rfl,tv,tv,tv,gF,_,M1,_,rfl,gB rfl {_,_,_,_,_,_,_,rfl}}}
 rintro β ⟨x5,x6,x7,x8,x9,jW,Jo,rfl⟩;refine{rfl,_,rfl,tv,_,rfl,tv,rfl,tv,(n:Int)+1,rfl,by lia,by lia,λr r0 r1=>?_}
 obtain⟨b,rfl⟩:=nat r r0;refine{_,rfl,tv,rfl,_,rfl,tv,_,rfl,tv,_,rfl,_,rfl,tv,rfl,tv,(n:Int)+1-(b:Int),rfl,by lia,by lia,λr r0 r1=>{_,rfl,?_}}
 obtain⟨c,rfl⟩:=nat r r0;have emax:J9 [.int 0,.int ((b:Int)-1)]=ν (.int ((b-1:Nat):Int)):=by
  show ν (D.int (if (b:Int)-1>0 then (b:Int)-1 else 0))=_
  rw[show (if (b:Int)-1>0 then (b:Int)-1 else 0)=((b-1:Nat):Int) by split <;> lia]
 have nV:mX ps b (b+c)<=mX ps (b-1) (b+c)/\mX ps (b-1) (b+c)<=mX ps b (b+c)+1:=by
  by_cases hb:b=0
  ·rw[hb];show mX ps 0 (0+c)<=mX ps 0 (0+c)/\mX ps 0 (0+c)<=mX ps 0 (0+c)+1;lia
  ·obtain⟨d,rfl⟩:∃d,b=d+1:={b-1,by lia}
   exact{oI hp (by lia),O6 hp}
 have el:∀x y:Int,W3 (.int x) (.int y)=ν (.bl (decide (x<=y))):=λx y=>rfl;refine{_,rfl,tv,_,rfl,tv,_,rfl,tv,n,ps,b,b+c,rfl,ok,by lia,by lia,tv,_,rfl,?_}
 refine{_,rfl,_,rfl,tv,tv,_,rfl,tv,_,rfl,tv,_,emax,tv,_,rfl,tv,n,ps,b-1,b+c,rfl,ok,by lia,by lia,tv,_,rfl,_,el _ _,qT (Γ nV.1) {_,rfl,tv,_,rfl,_,el _ _,tv,rfl,?_}}
 show R (.bl (decide (mX ps (b-1) (b+c)<=mX ps b (b+c)+1)));rw[Γ nV.2];exact q
end
section
variable {P:Z6}{w:aam}{K:Ξ}{mg:Str->Option ZW}{base:Heap}
def bK:aN ["one","other","behind","both","first","second","moved"] ["one","other"] (aw cP):=mkS
def HB {IH Ai}(NS:W7 K mg IH Ai){nZ iQ}(fo:N3 K mg nZ iQ){lZ gu}(j_:Nt K mg lZ gu){n6 iR}(jv:N2 K mg n6 iR){lY gq}(uA:Nr K mg lY gq){jZ fg}(rH:Kl K mg jZ fg){n9 iT}(qE:N1 K mg n9 iT){l0 gv}(uC:Nq K mg l0 gv){gf cX}(gg:Gg K mg gf cX){fz cE}(gD:D8 K mg fz cE){dW bT}(dY:D5 K mg dW bT){eQ b_}(f7:D4 K mg eQ b_){eT cc}(gC:D7 K mg eT cc){c7 bC}(d9:D6 K mg c7 bC){fy cD}(eU:D9 K mg fy cD){j4 fh}(oe:Km K mg j4 fh){fA cF}(f9:Cr K mg fA cF){eS cb}(fB:B_ K mg eS cb)(B:uK mg):aG P w K mg base bt 7 IH Ai ["one","other"] (bW P w ζ wC):=by
 have yS:aG P w K mg base bt 6 _ _ _ (bW P w ζ dP):=oF fo j_ gg gD dY f7 gC d9 eU oe f9 fB B;have Kk:aG P w K mg base bt 5 _ _ _ (bW P w ζ di):=gP j_ gg gD dY f7 gC d9 eU oe f9 fB B;have GB:aG P w K mg base bt 5 _ _ _ (bW P w ζ l4):=ub jv gg gD dY f7 gC d9 eU f9 fB uA rH B;have NX:aG P w K mg base bt 6 _ _ _ (bW P w ζ Gx):=oC qE uC gg gD dY f7 gC d9 eU f9 fB B;refine nF NS.F bK (λds R PF=> by obtain⟨n,m,ps,qs,e,_⟩ := PF;subst e;rfl) λc_ A outer s H E hr=>⟨_,(ah (rg (i:=2) η ["a","b","one"] [ξ,ξ,ν 0] (by rfl) (by decide:(["a","b","one"]:List Str).Nodup) rfl (λ_=>(aS (aF af aU (ab (i:=1)) ag))) (λ_ _ _ _ _ _=>(bA (n:=2) rfl (az (ai (i:=0) (by decide:(["a","b","one"]:List Str).Nodup)) (az (ai (i:=1) (by decide:(["a","b","one"]:List Str).Nodup)) bg)))) (λ_ _ _ _ _ _=>cz) (λ_ _ _ _ _ _=>(aR (aa (aC aK au (ab (i:=0)) (aF af aU (ab (i:=2)) ag)) (aa (aC aK au (ab (i:=1)) (aF af aU (ab (i:=2)) ag)) ae)))) bK.nd)
    (ah (aQ (i:=3) (aR (aa (aC aK au (aF af aU (ab (i:=0)) ag) (aF af aU (ab (i:=1)) ag)) (aa (aC aK au (aF af aU (ab (i:=0)) ag) (ab (i:=2))) ae))) bK.nd)
    (ah (LD (i:=4) (j:=5) rfl (aa (ao dP.mono yS (hr.mono (by decide)) fo.m fo.F.kp fo.b (aa (ab (i:=0)) ae)) (aa (ao dP.mono yS (hr.mono (by decide)) fo.m fo.F.kp fo.b (aa (ab (i:=1)) ae)) ae)) bK.nd)
    (ah (rg (i:=6) η ["a","b","one"] [ξ,ξ,ν 0] (by rfl) (by decide:(["a","b","one"]:List Str).Nodup) rfl (λ_=>(aS (aF af aU (ab (i:=5)) ag))) (λ_ _ _ _ _ _=>(bA (n:=2) rfl (az (ai (i:=0) (by decide:(["a","b","one"]:List Str).Nodup)) (az (ai (i:=1) (by decide:(["a","b","one"]:List Str).Nodup)) bg)))) (λ_ _ _ _ _ _=>cz) (λ_ _ _ _ _ _=>(aR (aa (aC aK au (ab (i:=0)) (aF af aU (ab (i:=2)) ag)) (aa (aC aK au (ab (i:=1)) (aF af aU (ab (i:=2)) ag)) ae)))) bK.nd)
    (bf (bo (aA af (bq.m (d7 hr.units)) (ao dP.mono yS (hr.mono (by decide)) fo.m fo.F.kp fo.b (aa (ab (i:=3)) ae)) (aR (aa (aC aK au (aF af aU (ab (i:=4)) ag) (aF af aU (ab (i:=5)) ag)) (aa (aC aK au (aF af aU (ab (i:=4)) ag) (ab (i:=6))) ae)))) (aj (aO gj)) aM)
    (aj (aO (kz af (bq.m (dG hr.units)) (ao l4.mono GB (hr.mono (by decide)) jv.m jv.F.kp jv.b (aa (ab (i:=3)) ae)) (aC af (bq.m t9) (ao l4.mono GB (hr.mono (by decide)) jv.m jv.F.kp jv.b (aa (ab (i:=0)) ae)) (ao l4.mono GB (hr.mono (by decide)) jv.m jv.F.kp jv.b (aa (ab (i:=1)) ae))))))))))),λds R h=>?_⟩
 obtain⟨n,m,ps,qs,rfl,Cc,Eg,hn,hm,Px,nK,UU,WG,q⟩:=h;have hb:∀S:List NN,D.lst (S.map λp:NN=>D.tup [.int ((p.1:Int)+(n:Int)),.int ((p.2:Int)+(n:Int))])=dt (S.map (sh n)):=λS=>by
  unfold dt;rw[aaK];rfl
 have Iv:∀S T:List NN,S.length<=400->T.length<=400->wO (dt S) (dt T)=ν (dt (S++T)):=λS T h1 h2=>by
  unfold dt;rw[gX (by rw[ZU,ZU];lia),aaj]
 have Fc:∀S:List NN,NL (dt S):=λS=>jS (f:=λp:NN=>kD (tI p)) (λ_=>rfl) S;have ON:kT (n+m) (ps++qs.map (sh n)):={oR Cc.lt Eg.lt,i9 (qK Cc.lt Px nK),by lia,by rw[aag,ZU];lia}
 have lf:∀{k:Nat} {rs:List NN},kT k rs->k<=20->(bw rs w1 0 k).length<=20:=λ{k rs} ok hk=>by
  have h2:=z9 (n:=k) λp h=>(ok.lt p h).1;rw[<- gn λp h=>(ok.lt p h).1]at h2;lia
 have hl:=lf Cc hn;have qf:=lf Eg hm;have loop:∀(S:List NN),S.length<=400->S.length<=aak:=λS h=>dv (by lia)
 refine{_,rfl,tv,_,rfl,.inr {_,rfl,tv,?_}};refine yd (λ_=>ζ) (λp:NN=>D.tup [.int ((p.1:Int)+(n:Int)),.int ((p.2:Int)+(n:Int))]) tv (loop qs (by lia)) (λp hp y0 y1 o J ho h1 _=>{_,rfl,rfl,_,_,rfl,_,_,rfl,rfl,_,rfl,tv,_,rfl,tv,_,rfl,_,rfl,tv,_,rfl,tv,_,rfl,tv,_,rfl,_,rfl,tv,gF,tv,ho,h1 rfl _ _}) ?_
 rw[bp,hb];refine{_,rfl,tv,_,rfl,tv,_,rfl,tv,_,rfl,_,rfl,tv,_,rfl,tv,_,rfl,.inr {tv,_,rfl,_,Iv ps (qs.map (sh n)) (by lia) (by rw[ZU];lia),.inl {Fc _,tv,gF,?_}}}
 have eM:∀{k:Nat} {rs:List NN},kT k rs->fT rs 0 k=.tup [.int ((bw rs w1 0 k).length:Int),dt (bw rs w1 0 k)]:=λ{k rs} ok=>by
  unfold fT;show D.tup [.int (mX rs 0 k),dt (bw rs w1 0 k)]=_;rw[<- gn λp h=>(ok.lt p h).1]
 obtain⟨A,hA⟩:∃A,A=bw ps w1 0 n:={_,rfl};obtain⟨C,hC⟩:∃C,C=bw qs w1 0 m:={_,rfl};have eA:=eM Cc;have eC:=eM Eg;rw[<- hA]at eA hl;rw[<- hC]at eC qf;have e1:BK (fT (ps++qs.map (sh n)) 0 (n+m)) (.tup [.int ((A.length:Int)+(C.length:Int)),dt (A++C.map (sh n))])=ν (.bl η):=by
  rw[eM ON,F4 Cc.lt Eg.lt Px nK,<- hA,<- hC,aag,ZU];exact c9 (o8 (A.length+C.length) _)
 have Vo:M5 (.int (hT ps n 0)) (.int (hT qs m 0))=ν (.int (hT (ps++qs.map (sh n)) (n+m) 0)):=by
  rw[uq (λp h=>(ON.lt p h).1) ON.nd,Jb Cc.lt Eg.lt Px nK,Int.natCast_mul];exact yK (.inl {Int.lt_of_lt_of_le (by decide) (Int.natCast_nonneg _),qe (λp h=>(Cc.lt p h).1) Cc.nd hn})
 refine{_,rfl,tv,n,ps,rfl,Cc,?_};rw[eA];refine{tv,_,rfl,tv,m,qs,rfl,Eg,?_};rw[eC];refine{tv,_,_,rfl,?_};refine{_,rfl,tv,_,rfl,.inr {_,rfl,tv,?_}};refine yd (λ_=>ζ) (λp:NN=>D.tup [.int ((p.1:Int)+(n:Int)),.int ((p.2:Int)+(n:Int))]) tv (loop C (by lia)) (λp hp y0 y1 o J ho h1 _=>{_,rfl,rfl,_,_,rfl,_,_,rfl,rfl,_,rfl,tv,_,rfl,tv,_,rfl,_,rfl,tv,_,rfl,tv,_,rfl,tv,_,rfl,_,rfl,tv,gF,tv,ho,h1 rfl _ _}) ?_
 rw[bp,hb];refine{λβ=>∃x2 x4 x5 x6:Option Q.B,β=[ν (.val η (eG n ps)),ν (.val η (eG m qs)),x2,ν (.val ζ (eG (n+m) (ps++qs.map (sh n)))),x4,x5,x6],?_,?_}
 ·exact{_,rfl,tv,n+m,_,rfl,ON,tv,_,rfl,tv,_,rfl,tv,_,rfl,tv,_,rfl,_,rfl,tv,_,rfl,tv,_,rfl,.inr {tv,_,rfl,_,Iv A (C.map (sh n)) (by lia) (by rw[ZU];lia),.inl {Fc _,tv,gF,_,e1,_,rfl,gB rfl {_,_,_,_,rfl}}}}
 ·rintro β ⟨x2,x4,x5,x6,rfl⟩;exact{_,rfl,tv,n+m,_,rfl,ON,by lia,tv,_,rfl,tv,n,ps,rfl,Cc,by lia,tv,_,rfl,tv,m,qs,rfl,Eg,by lia,_,Vo,_,wN (bh _),tv,q}
end
section
variable {P:Z6}{w:aam}{K:Ξ}{mg:Str->Option ZW}{base:Heap}
def km:aN ["script","cell","hand","row","other","some"] ["script"] (aw pq):=mkS
def C1 (K:Ξ):Sp:=λvs H Q _=>∃(a:θ) (ns:List Int),vs=[.ref a]/\fb K H a (ns.map V.int)/\ns.length<=63/\∀H',Q (.bl ζ) H'
def JL (β:Q.ba):Prop:=∃y0 y1 y2 y3 y4 y5:Option Q.B,β=[y0,y1,y2,y3,y4,y5]
def LQ {f:θ}{fd:aaI}(F:GC K "law" "law" pq f fd)(B:uK mg){nZ iQ}(fo:N3 K mg nZ iQ){lZ gu}(j_:Nt K mg lZ gu){n6 iR}(jv:N2 K mg n6 iR){lY gq}(uA:Nr K mg lY gq){jZ fg}(rH:Kl K mg jZ fg){n9 iT}(qE:N1 K mg n9 iT){l0 gv}(uC:Nq K mg l0 gv){gf cX}(gg:Gg K mg gf cX){fz cE}(gD:D8 K mg fz cE){dW bT}(dY:D5 K mg dW bT){eQ b_}(f7:D4 K mg eQ b_){eT cc}(gC:D7 K mg eT cc){c7 bC}(d9:D6 K mg c7 bC){fy cD}(eU:D9 K mg fy cD){j4 fh}(oe:Km K mg j4 fh){fA cF}(f9:Cr K mg fA cF){eS cb}(fB:B_ K mg eS cb){NM BH}(dE:VM K mg NM BH){J0 wt}(dO:Ss K mg J0 wt){Gw rG}(dF:Ro K mg Gw rG){Cm nY}(dS:NY K mg Cm nY){Ck nX}(dX:NZ K mg Ck nX){wx nM}(Ap:Sr K mg wx nM){YU Vk}(dH:Zn K mg YU Vk){IF ux}(dT:D1 K mg IF ux){J1 wu}(dA:D0 K mg J1 wu){NK BG}(dI:D2 K mg NK BG){R_ IC}(dR:D3 K mg R_ IC){IE Ag}(NP:W_ K mg IE Ag){ID Ae}(NO:W9 K mg ID Ae){IG Ah}(NR:W8 K mg IG Ah){IH Ai}(NS:W7 K mg IH Ai):aG P w K mg base bt 45 f fd ["script"] (C1 K):=by
 have GH:aG P w K mg base bt 1 _ _ _ (bW P w ζ wA):=MT (Hz dH.F {(B.max),B.min,B.int});have GT:aG P w K mg base bt 1 _ _ _ (jX P w i4 ζ cm):=o3 (lM dT.F);have GR:aG P w K mg base bt 4 _ _ _ (jX P w i4 ζ BI):=LO dR dT dA dI B.toBs;have Zf:aG P w K mg base bt 7 _ _ _ (bW P w ζ nN):=Hv NP dE dO dF dS dX fo j_ jv uA rH qE uC gg gD dY f7 gC d9 eU oe f9 fB B;have Ze:aG P w K mg base bt 7 _ _ _ (bW P w ζ nN):=Bi NO Ap fo j_ jv uA rH qE uC gg gD dY f7 gC d9 eU oe f9 fB B;have Zk:aG P w K mg base bt 7 _ _ _ (jX P w i4 ζ Fv):=LR NR dT Ap fo j_ jv uA rH qE uC gg gD dY f7 gC d9 eU oe f9 fB B;have Zl:aG P w K mg base bt 7 _ _ _ (bW P w ζ wC):=HB NS fo j_ jv uA rH qE uC gg gD dY f7 gC d9 eU oe f9 fB B;refine F.ok km (λvs H Q E h=>?_) (λc_ A outer s H vs Qk E hr h=>?_)
 ·obtain⟨a,ns,rfl,_⟩:=h;rfl
 ·obtain⟨a,ns,rfl,hS,hlen,k⟩:=h;have UY:∀b:θ,¬ (λ_=>False) b:=λb z=>z;obtain⟨ψ,hb,hψ⟩:∃ψ,Q.AG (rJ bt P w K mg base _ "law" (aw pq) f c_ A outer s H E).JE {H,λ_=>False,ζ,λ_=>False} (match (gw pq)with | .For _ _ b _ _::_=>b|_=>[]) ψ /\
    ∀(c:Int) (x0 x2 x3 x4 x5:Option Q.B),ψ {nx:=JL,rt:=λd _=>d=.bl ζ,bk:=JL,ct:=JL} [x0,ν (.val ζ (.int c)),x2,x3,x4,x5]:=by
   refine⟨_,(ah (Hk (i:=2) i4 UY (λ_=>(ao wA.mono GH (hr.mono (by decide)) dH.m dH.F.kp dH.b (aa (ab (i:=1)) ae))) km.nd)
    (ah (aQ (i:=3) (br (ih:=2) BI.mono GR (hr.mono (by decide)) dR.m dR.F.kp dR.b ae) km.nd)
    (bf (bo (tE.t (jK (aA af (bq.m mJ) (aF af aU (ab (i:=3)) ag) ag) (gM (aA af (bq.m (dG hr.units)) (br (ih:=2) cm.mono GT (hr.mono (by decide)) dT.m dT.F.kp dT.b (aa ag ae)) ag)))) (aj (aQ (i:=3) (aR (aa ag (aa (EF ["tie"] [ξ] (by rfl) (by decide:(["tie"]:List Str).Nodup) rfl (aS (aF af aU (ab (i:=3)) ag)) (λ_ _ _ _ _ _=>(ai (i:=0) (by decide:(["tie"]:List Str).Nodup))) (λ_ _ _ _ _ _=>(fH (aA af (bq.m cY) (aF af aU (ab (i:=0)) ag) ag))) (λ_ _ _ _ _ _=>(ab (i:=0)))) ae))) km.nd)) aM)
    (bf (bo (tE.t (mE (ic (ib (ao nN.mono Zf (hr.mono (by decide)) NP.m NP.F.kp NP.b (aa (ab (i:=3)) ae)))) (jJ (ic (ib (ao nN.mono Ze (hr.mono (by decide)) NO.m NO.F.kp NO.b (aa (ab (i:=3)) ae))))))) (aj (aO gj)) aM)
    (bf (bo (tE.t (jK (aA af (bq.m cY) (aF af aU (ab (i:=3)) ag) ag) (gM (ic (ib (br (ih:=2) Fv.mono Zk (hr.mono (by decide)) NR.m NR.F.kp NR.b (aa (ab (i:=3)) ae))))))) (aj (aO gj)) aM)
    (ah (aQ (i:=4) (br (ih:=2) BI.mono GR (hr.mono (by decide)) dR.m dR.F.kp dR.b ae) km.nd)
    (ah (rg (i:=5) η ["part"] [ξ] (by rfl) (by decide:(["part"]:List Str).Nodup) rfl (λ_=>(Hc (aR (aa (ab (i:=3)) (aa (ab (i:=4)) ae))))) (λ_ _ _ _ _ _=>(ai (i:=0) (by decide:(["part"]:List Str).Nodup))) (λ_ _ _ _ _ _=>cz) (λ_ _ _ _ _ _=>(aR (aa (a9 af (bU.m (d_ rfl)) B.min nc (aa ag (aa (aF af aU (ab (i:=0)) ag) ae))) (aa (sf (X3 ["tie"] [ξ] (by rfl) (by decide:(["tie"]:List Str).Nodup) rfl (aS (aF af aU (ab (i:=0)) ag)) (λ_ _ _ _ _ _=>(ai (i:=0) (by decide:(["tie"]:List Str).Nodup))) (λ_ _ _ _ _ _=>(fH (aA af (bq.m cY) (aF af aU (ab (i:=0)) ag) ag))) (λ_ _ _ _ _ _=>(ab (i:=0)))) gO (gN ag)) ae)))) km.nd)
    (aj (bo (ic (ib (ao wC.mono Zl (hr.mono (by decide)) NS.m NS.F.kp NS.b (aa (aF af aU (ab (i:=5)) ag) (aa (aF af aU (ab (i:=5)) ag) ae))))) (aj (aO gj)) aM))))))))),λc x0 x2 x3 x4 x5=>?_⟩
   refine{_,rfl,tv,c,rfl,λns hk=>{tv,(by show 2<6;decide),ns,rfl,hk,?_}}
   refine{rfl,rfl,tv,rfl,λn ts n0 n1 dr=>?_};obtain⟨hl,tr,sr,nd⟩:=dr;obtain⟨m,ps,ok,en,Vm,er⟩:=zf n0 (by lia) (by lia) tr nd
   rw[er];rw[Vm]at sr;have hs:=ou sr ok.nd;have hm:m<=40:=by lia
   refine{λβ=>∃(m:Nat) (ps:List (Nat×Nat)) (x4 x5:Option Q.B),β=[x0,ν (.val ζ (.int c)),ν (.hand i4),ν (.val ζ (eG m ps)),x4,x5]/\kT m ps/\m<=40/\g8 ps,?_,?_}
   ·refine{_,rfl,tv,_,rfl,tv,_,rfl,_,rfl,?_}
    by_cases WY:(20:Int)<(m:Int)
    ·refine qT (Γ WY) {rfl,tv,rfl,tv,2,rfl,by decide,by decide,λr r0 r1=>{tv,_,cW r 0,_,rfl,?_}}
     by_cases Wv:r=0
     ·refine qT (Γ Wv) {tv,_,rfl,tv,_,rfl,.inr {_,rfl,tv,?_}};refine cJ (λp:Nat×Nat=>decide (p.2<20)) (λp=>kD (tI p)) tv (dv (by have:=ok.sm;lia)) (λp hp y0 o J ho j1 j2=>?_) ?_
      ·refine{_,rfl,tv,_,rfl,tv,_,rfl,_,rfl,?_}
       by_cases E7:(p.2:Int)<20
       ·exact qT (Γ E7) {_,rfl,rfl,ho,j1 (Γ (by lia)) _}
       ·exact gB (Δ E7) (j2 (Δ (by lia)) _)
      refine{tv,gF,20,ps.filter λp=>decide (p.2<20),_,_,rfl,{λp hp=>?_,ok.nd.sublist acq,by lia,aaH (abp _ _) ok.sm},by lia,hs.filter _}
      obtain⟨h1,h2⟩:=aae.mp hp;exact{(ok.lt p h1).1,of_decide_eq_true h2}
     ·exact gB (Δ Wv) {m,ps,_,_,rfl,ok,hm,hs}
    ·exact gB (Δ WY) {m,ps,_,_,rfl,ok,hm,hs}
   ·rintro β ⟨m,ps,x4,x5,rfl,ok,hm,hs⟩;refine{λβ=>∃x4 x5:Option Q.B,β=[x0,ν (.val ζ (.int c)),ν (.hand i4),ν (.val ζ (eG m ps)),x4,x5],?_,?_}
    ·exact{_,rfl,tv,m,ps,rfl,ok,hm,hs,_,rfl,gB rfl {_,rfl,tv,m,ps,rfl,ok,hm,hs,_,rfl,gB rfl {_,_,rfl}}}
    rintro β ⟨x4,x5,rfl⟩;refine{λβ=>∃x4 x5:Option Q.B,β=[x0,ν (.val ζ (.int c)),ν (.hand i4),ν (.val ζ (eG m ps)),x4,x5],?_,?_}
    ·refine{_,rfl,tv,_,rfl,tv,_,rfl,_,rfl,?_}
     by_cases WX:(m:Int)<40
     ·exact qT (Γ WX) {rfl,_,rfl,tv,rfl,tv,m,ps,rfl,ok,by lia,hs,_,rfl,gB rfl {_,_,rfl}}
     ·exact gB (Δ WX) {_,_,rfl}
    rintro β ⟨x4,x5,rfl⟩;refine{rfl,rfl,tv,rfl,λn ts n0 n1 dr=>?_};obtain⟨hl,tr,sr,nd⟩:=dr;obtain⟨m2,qs,Eg,en,Vm,er⟩:=zf n0 (by lia) (by lia) tr nd
    rw[er];rw[Vm]at sr;have nK:=ou sr Eg.nd;have cut:∀{k:Nat} {rs:List NN},kT k rs->g8 rs->kT (min 20 k) ((rs.filter λp=>decide (p.2<20)).take 150)/\g8 ((rs.filter λp=>decide (p.2<20)).take 150)/\((rs.filter λp=>decide (p.2<20)).take 150).length<=150:=λ{k rs} ok hs=>by
     have hl:((rs.filter λp=>decide (p.2<20)).take 150).length<=150:=by rw[aaw];lia
     refine{{λp hp=>?_,(ok.nd.filter _).sublist (acL _ _),by lia,by lia},(hs.filter _).sublist (acL _ _),hl}
     obtain⟨h1,h2⟩:=aae.mp (abf hp);have:=ok.lt p h1;have:=of_decide_eq_true h2;lia
    obtain⟨c1,c2,c3⟩:=cut ok hs;obtain⟨d1,d2,d3⟩:=cut Eg nK;have Fc:∀S:List NN,NL (dt S):=λS=>jS (f:=λp:NN=>kD (tI p)) (λ_=>rfl) S;have z6:∀S:List NN,M4 (dt S) ξ (ν 150)=ν (dt (S.take 150)):=λS=>by
     unfold dt;rw[Jr (x:=150) (h:=150) rfl,ab7]
    have emin:∀k:Nat,J8 [.int 20,.int (k:Int)]=ν (.int ((min 20 k:Nat):Int)):=λk=>by
     show ν (D.int (if (k:Int)<20 then (k:Int) else 20))=_
     rw[show (if (k:Int)<20 then (k:Int) else 20)=((min 20 k:Nat):Int) by split <;> lia]
    refine{_,rfl,tv,_,rfl,tv,gF,.inr {_,rfl,tv,?_}};refine jk (show [eG m ps,eG m2 qs]=[(m,ps),(m2,qs)].map λx:Nat×List NN=>eG x.1 x.2 from rfl) (cJ (λ_=>ζ) (λx:Nat×List NN=>eG (min 20 x.1) ((x.2.filter λp=>decide (p.2<20)).take 150)) tv (by show 2<=aak;decide) (λx hx y0 o J ho h1 _=>?_) ?_)
    ·have ZA:x.2.length<=400:=by
      rcases Z1.mp hx with rfl|hx
      ·exact ok.sm
      ·rw[ZY.mp hx];exact Eg.sm
     refine{tv,_,rfl,tv,_,rfl,tv,_,emin x.1,tv,_,rfl,tv,_,rfl,.inr {_,rfl,tv,?_}};refine cJ (λp:Nat×Nat=>decide (p.2<20)) (λp=>kD (tI p)) tv (dv (by lia)) (λp hp y0 o J ho j1 j2=>?_) ?_
     ·refine{_,rfl,tv,_,rfl,tv,_,rfl,_,rfl,?_}
      by_cases E7:(p.2:Int)<20
      ·exact qT (Γ E7) {_,rfl,rfl,ho,j1 (Γ (by lia)) _}
      ·exact gB (Δ E7) (j2 (Δ (by lia)) _)
     exact{150,rfl,_,z6 _,.inl {Fc _,tv,gF,tv,ho,h1 rfl _}}
    rw[bp];exact{_,rfl,tv,_,rfl,tv,_,rfl,tv,_,rfl,tv,min 20 m,min 20 m2,_,_,rfl,c1,d1,by lia,by lia,c2,d2,c3,d3,_,rfl,gB rfl {_,_,_,_,_,_,rfl}}
  refine{_,fP (Dx aaU rfl (zw (eO DZ (xV (bM (eO t8 bu bu) d6)) (vo za (pv 0) zt (zr bu)))) (Q.ai (C:={H,λ_=>False,ζ,λ_=>False}) (i:=1) km.nd).pg hb.ps) (lE (kq Jz)),?_};obtain⟨ms,em,hm⟩:=BM ns ξ (ν 4);refine{_,_,rfl,rfl,DG,(by show 1<=aak;decide),λp1 Qw=>{_,rfl,_,rfl,a,_,rfl,(aB.new Qw).seq hS,λp2 RY=>?_}}
  have X0:p1≠p2:=dk ar RY;refine{p1,p2,_,_,rfl,rfl,(by rw[aD X0];exact ar),ar,(by rw[em,ZU,aaT,abo];lia),λl hl=>{l,rfl,{_,fb.of ar},?_}}
  rw[em];rw[em]at hl;have sm:aB H (upd (upd (upd H p1 (.lst [V.int (10 ^ (18:Int).toNat)])) p2 (.lst (ms.map V.int))) l (.lst ([V.int (10 ^ (18:Int).toNat)]++ms.map V.int))):=((aB.new Qw).trans (aB.new (by rw[em]at *;exact RY))).trans (aB.new hl)
  have sQ:(upd (upd (upd H p1 (.lst [V.int (10 ^ (18:Int).toNat)])) p2 (.lst (ms.map V.int))) l (.lst ([V.int (10 ^ (18:Int).toNat)]++ms.map V.int))) l=ν (.lst (((10 ^ (18:Int).toNat)::ms).map V.int)):=ar;generalize (upd (upd (upd H p1 (.lst [V.int (10 ^ (18:Int).toNat)])) p2 (.lst (ms.map V.int))) l (.lst ([V.int (10 ^ (18:Int).toNat)]++ms.map V.int)))=H1 at sm sQ ⊢
  generalize ((10 ^ (18:Int).toNat)::ms)=cs at sQ;let X:Cx:=(rJ bt P w K mg base ["script","cell","hand","row","other","some"] "law" (aw pq) f c_ A outer s H E).JE
  let C:Q.Cfg:={H,λ_=>False,ζ,λ_=>False}
  have it:Cq X (λ_=>False) (So K l) (cs.map D.int) H1:=vQ sQ (λz=>z) (bj cs);have Nw:=it (λb=>(λ_=>False) b\/H1 b=ξ) λb z=>z;have s':Q.cZ P w C.z (L2.start ["script","cell","hand","row","other","some"] [.ref a]) H1 (acf 6 ξ) (λ_=>[]):=GY (by rfl) sm
  generalize NG:cs.map D.int=ds at Nw;have hint:∀d∈ds,∃c:Int,d=.int c:=λd hd=>by
   rw[<- NG]at hd;obtain⟨c,_,rfl⟩:=Z2.mp hd;exact{(c),rfl}
  refine{λi m σ H'=>i<=ds.length/\m=ds.length-i/\∃β,Q.SB X C (H1,Q.Wn λ_=>[]) σ H' β/\JL β,{_,aab _,rfl,_,{_,s',Sn.refl},{_,_,_,_,_,_,rfl}},?_};rintro i m σ2 H2 ⟨hi,rfl,β2,⟨bE,s2,n2⟩,⟨y0,y1,y2,y3,y4,y5,rfl⟩⟩;obtain⟨cw,kX⟩:=Nw i H2 (n2.k.mono λb z=>z.imp (λPD=> by obtain⟨_,q⟩ := PD;exact(nomatch q)) id)
  by_cases gV:i<ds.length
  ·right
   have hd:ds[i]?=ν ds[i]:=Z4 gV;obtain⟨go,yl⟩:=cw _ hd;obtain⟨c,hc⟩:=hint ds[i] (abO gV);refine{go,λσ' H'=>∃β,Q.SB X C (H1,Q.Wn λ_=>[]) σ' H' β/\JL β,λσ' H' PC=> by obtain⟨β',xN,qf⟩ := PC;exact{_,by lia,gV,rfl,β',xN,qf},λx H3 y=>?_}
   obtain⟨s3,r3⟩:=yl x H3 y;rw[hc]at r3;refine{bE,_,.int c,.own,s2.same s3,aE.flat rfl r3,λσ4 vw s4 w4 _=>?_};exact⟨(H1,Q.Wn λ_=>[]),{nx:=JL,rt:=λd _=>d=.bl ζ,bk:=JL,ct:=JL},_,{vw,s4,Q.lx (n2.same s3) w4},hψ c y0 y2 y3 y4 y5,⟨λσ5 H5 β5 A5 q5=>{(β5),A5,q5},λσ5 H5 β5 d5 v5 A5 r5 q5=>by
    subst q5;cases (show v5=V.bl ζ from Oj r5)
    exact k _,λσ5 H5 β5 A5 q5=>k _,λσ5 H5 β5 A5 q5=>{(β5),A5,q5}⟩⟩
  ·left
   have e:i=ds.length:=by lia
   subst e;exact{kX (ZX _),k _}
end
def gA {α:Type}{P:List α->Prop}(h:∀a,P [a]):∀us:List α,us.length=1->P us:=λus e=>by
 obtain⟨a,rfl⟩:=List.length_eq_one_iff.mp e;exact h a
def mN {α:Type}{P:List α->Prop}(h:∀a b,P [a,b]):∀us:List α,us.length=2->P us:=λus e=>by
 cases us with
 |nil=>cases e
 |cons a us=>exact gA (P:=λus=>P (a::us)) (h a) us (Nat.succ.inj e)
def HY {α:Type}{P:List α->Prop}(h:∀a b c,P [a,b,c]):∀us:List α,us.length=3->P us:=λus e=>by
 cases us with
 |nil=>cases e
 |cons a us=>exact mN (P:=λus=>P (a::us)) (h a) us (Nat.succ.inj e)
def Pd {α:Type}{P:List α->Prop}(h:∀a b c d,P [a,b,c,d]):∀us:List α,us.length=4->P us:=λus e=>by
 cases us with
 |nil=>cases e
 |cons a us=>exact HY (P:=λus=>P (a::us)) (h a) us (Nat.succ.inj e)
def HX {α:Type}{P:List α->Prop}(h:∀a b c d e,P [a,b,c,d,e]):∀us:List α,us.length=5->P us:=λus e=>by
 cases us with
 |nil=>cases e
 |cons a us=>exact Pd (P:=λus=>P (a::us)) (h a) us (Nat.succ.inj e)
noncomputable abbrev vS (x:Str)(t:Nat):ZW:=.str x t
noncomputable abbrev kE (P:Params)(x:Str)(t:Nat)(v:ZW):DictEntry:={PyData.keyHash P x,.str x t,v}
noncomputable abbrev kC (n:Str)(t l p r8 X7 XH:Nat)(Xf Xe Xd:ZW)(XG X6 Xq:Nat):Obj:={cls:=.type "code",data:=.fields #[vS n t,vS n (t+1),vS "/claim/cut.py" (t+2),.int l 0,.int p 0,.int 0 0,.int 0 0,.int 3 0,.ref r8,.bool ζ,.int X7 0,.ref XH,Xf,Xe,Xd,.ref XG,.int X6 0,.int l 0,vS "/claim/cut.py" Xq]}
noncomputable abbrev RN (st:Stmt)(x m:Str)(t c:Nat):aaI:=Ε x x (oQ st) (gw st) (aw st) .none .none .none (vS m t) ξ (.ref c) .none
abbrev Κ:Str:="law_archrow_k12_whole_the_most"
noncomputable abbrev kF (st:Stmt)(x m:Str)(t c:Nat):Obj:={cls:=.type "function",data:=.func (RN st x m t c)}
def Fg {K:Ξ}{x m:Str}{st:Stmt}{t c f:Nat}(l:K.lookup f=ν (kF st x m t c))(cd:PySem.W.codeIn K (.ref c) x=ζ)(k:υ K (.ref f)=ζ):GC K x x st f (RN st x m t c):=MX l cd k
def bD {K:Ξ}{h:Heap}{mg:Str->Option ZW}{x m:Str}{st:Stmt}{t c f:Nat}{ps:List Str}(X:K.In h)(G:h.Ns abR mg)(l:K.lookup f=ν (kF st x m t c))(cd:PySem.W.codeIn K (.ref c) x=ζ)(k:υ K (.ref f)=ζ)
  (a:PySem.W.nsIn K abR x=ν (ν (.ref f))) (b:∀us:List ZW,us.length=ps.length->bindArgs (RN st x m t c) {us,[]}=pure (ps.zip us)):Df K mg x st ps f (RN st x m t c):={Fg l cd k,.all b,PySem.W.mg_of X G a}
noncomputable def KK:Params->Ξ:=λP=>[(3,{cls:=.type "dict",data:=.dict #[kE P "__name__" 165 (vS Κ 442),kE P "__doc__" 166 .none,kE P "__package__" 167 .none,kE P "__loader__" 168 (.builtin "__main__.__loader__#opaque"),kE P "__spec__" 169 .none,kE P "__annotations__" 170 (.ref 6),kE P "__builtins__" 171 (.ref 4),kE P "__file__" 173 (vS "/claim/cut.py" 172),kE P "__cached__" 174 .none,kE P "ArchError" 206 (.ref 24),kE P "NoRow" 222 (.ref 37),kE P "NoStretch" 238 (.ref 49),kE P "stretches_rising" 246 (.ref 56),kE P "partners_of" 252 (.ref 61),kE P "parts_left" 261 (.ref 68),kE P "greatest_table" 267 (.ref 73),kE P "number_with" 278 (.ref 80),kE P "least_number" 284 (.ref 85),kE P "best_choices" 290 (.ref 90),kE P "first_greatest" 307 (.ref 97),kE P "ways_in" 318 (.ref 104),kE P "ways_by" 324 (.ref 109),kE P "most_ties" 333 (.ref 116),kE P "most_of" 343 (.ref 123),kE P "table_of" 350 (.ref 130),kE P "always_tied" 356 (.ref 135),kE P "how_many_most" 362 (.ref 140),kE P "one_each" 368 (.ref 145),kE P "choices_met" 385 (.ref 152),kE P "row_of" 393 (.ref 157),kE P "arcs_cross" 405 (.ref 164),kE P "is_set" 413 (.ref 171),kE P "first_fault" 423 (.ref 178),kE P "fault_at" 433 (.ref 185),kE P "share_a_point" 441 (.ref 192),kE P "_law_hand" 450 (.ref 199),kE P "_law_take" 459 (.ref 206),kE P "_law_arcs" 471 (.ref 213),kE P "_law_ties" 477 (.ref 218),kE P "_law_row" 485 (.ref 225),kE P "_law_told_right" 491 (.ref 230),kE P "_law_changed_right" 509 (.ref 237),kE P "_law_turned_right" 515 (.ref 242),kE P "_law_both_right" 521 (.ref 247),kE P "law" 527 (.ref 252)] 45}),
 (55,kC "stretches_rising" 241 9 1 52 181 53 .none .none .none 54 244 245),
 (56,kF cg "stretches_rising" "archrow.stretches" 239 55),
 (60,kC "partners_of" 247 11 1 57 181 58 .none .none .none 59 250 251),
 (61,kF ee "partners_of" "archrow.stretches" 239 60),
 (67,kC "parts_left" 253 17 3 62 181 63 .none (.ref 64) (.ref 65) 66 259 260),
 (68,kF fq "parts_left" "archrow.stretches" 239 67),
 (72,kC "greatest_table" 262 21 2 69 181 70 .none .none .none 71 265 266),
 (73,kF cQ "greatest_table" "archrow.stretches" 239 72),
 (79,kC "number_with" 268 28 5 74 181 75 .none (.ref 76) (.ref 77) 78 276 277),
 (80,kF eh "number_with" "archrow.stretches" 239 79),
 (84,kC "least_number" 279 30 5 81 181 82 .none .none .none 83 282 283),
 (85,kF dy "least_number" "archrow.stretches" 239 84),
 (89,kC "best_choices" 285 33 5 86 181 87 .none .none .none 88 288 289),
 (90,kF dB "best_choices" "archrow.stretches" 239 89),
 (96,kC "first_greatest" 291 39 5 91 181 92 .none (.ref 93) (.ref 94) 95 305 306),
 (97,kF cR "first_greatest" "archrow.stretches" 239 96),
 (103,kC "ways_in" 308 51 2 98 181 99 .none (.ref 100) (.ref 101) 102 316 317),
 (104,kF jD "ways_in" "archrow.stretches" 239 103),
 (108,kC "ways_by" 319 56 4 105 181 106 .none .none .none 107 322 323),
 (109,kF jE "ways_by" "archrow.stretches" 239 108),
 (115,kC "most_ties" 327 59 1 110 181 111 .none (.ref 112) (.ref 113) 114 331 332),
 (116,kF gh "most_ties" "archrow.kept" 325 115),
 (122,kC "most_of" 334 61 3 117 181 118 .none (.ref 119) (.ref 120) 121 341 342),
 (123,kF jF "most_of" "archrow.kept" 325 122),
 (129,kC "table_of" 344 66 1 124 181 125 .none (.ref 126) (.ref 127) 128 348 349),
 (130,kF hG "table_of" "archrow.kept" 325 129),
 (134,kC "always_tied" 351 68 1 131 181 132 .none .none .none 133 354 355),
 (135,kF eF "always_tied" "archrow.kept" 325 134),
 (139,kC "how_many_most" 357 75 1 136 181 137 .none .none .none 138 360 361),
 (140,kF dg "how_many_most" "archrow.kept" 325 139),
 (144,kC "one_each" 363 84 1 141 181 142 .none .none .none 143 366 367),
 (145,kF hV "one_each" "archrow.kept" 325 144),
 (151,kC "choices_met" 369 86 1 146 181 147 .none (.ref 148) (.ref 149) 150 383 384),
 (152,kF eE "choices_met" "archrow.kept" 325 151),
 (156,kC "row_of" 388 103 2 153 181 154 .none .none .none 155 391 392),
 (157,kF ly "row_of" "archrow.arcs" 386 156),
 (163,kC "arcs_cross" 394 110 2 158 181 159 .none (.ref 160) (.ref 161) 162 403 404),
 (164,kF ft "arcs_cross" "archrow.arcs" 386 163),
 (170,kC "is_set" 406 114 2 165 181 166 .none (.ref 167) (.ref 168) 169 411 412),
 (171,kF lz "is_set" "archrow.arcs" 386 170),
 (177,kC "first_fault" 414 116 2 172 181 173 .none (.ref 174) (.ref 175) 176 421 422),
 (178,kF eD "first_fault" "archrow.arcs" 386 177),
 (184,kC "fault_at" 424 122 3 179 181 180 .none (.ref 181) (.ref 182) 183 431 432),
 (185,kF ia "fault_at" "archrow.arcs" 386 184),
 (191,kC "share_a_point" 434 134 2 186 181 187 .none (.ref 188) (.ref 189) 190 439 440),
 (192,kF df "share_a_point" "archrow.arcs" 386 191),
 (198,kC "_law_hand" 444 137 1 193 181 194 .none (.ref 195) (.ref 196) 197 448 449),
 (199,kF fO "_law_hand" Κ 442 198),
 (205,kC "_law_take" 451 139 2 200 181 201 .none (.ref 202) (.ref 203) 204 457 458),
 (206,kF fN "_law_take" Κ 442 205),
 (212,kC "_law_arcs" 460 146 2 207 181 208 .none (.ref 209) (.ref 210) 211 469 470),
 (213,kF h_ "_law_arcs" Κ 442 212),
 (217,kC "_law_ties" 472 156 2 214 181 215 .none .none .none 216 475 476),
 (218,kF hZ "_law_ties" Κ 442 217),
 (224,kC "_law_row" 478 178 1 219 181 220 .none (.ref 221) (.ref 222) 223 483 484),
 (225,kF jG "_law_row" Κ 442 224),
 (229,kC "_law_told_right" 486 183 1 226 181 227 .none .none .none 228 489 490),
 (230,kF cO "_law_told_right" Κ 442 229),
 (236,kC "_law_changed_right" 492 200 2 231 181 232 .none (.ref 233) (.ref 234) 235 507 508),
 (237,kF bX "_law_changed_right" Κ 442 236),
 (241,kC "_law_turned_right" 510 219 1 238 181 239 .none .none .none 240 513 514),
 (242,kF cj "_law_turned_right" Κ 442 241),
 (246,kC "_law_both_right" 516 227 2 243 181 244 .none .none .none 245 519 520),
 (247,kF cP "_law_both_right" Κ 442 246),
 (251,kC "law" 522 235 1 248 181 249 .none .none .none 250 525 526),
 (252,kF pq "law" Κ 442 251)]
noncomputable abbrev HK:PySem.W.Hook:=PySem.W.kHook KK [3,55,56,60,61,67,68,72,73,79,80,84,85,89,90,96,97,103,104,108,109,115,116,122,123,129,130,134,135,139,140,144,145,151,152,156,157,163,164,170,171,177,178,184,185,191,192,198,199,205,206,212,213,217,218,224,225,229,230,236,237,241,242,246,247,251,252] (λ_=>by kernel_rfl)
noncomputable def view:Z6:={PySem.Challenge.pw_archrow_k12_whole_the_most with main:={PySem.Challenge.pw_archrow_k12_whole_the_most.main with body:=[top 1,top 2,top 3,top 5,top 6,top 7,top 8,top 9,top 10,top 11,top 12,top 13,top 14,top 16,top 17,top 18,top 19,top 20,top 21,top 22,top 24,top 25,top 26,top 27,top 28,top 29,top 31,top 32,top 33,top 34,top 35,top 36,top 37,top 38,top 39,top 40]}}
def left:PySem.W.LeftO PySem.Challenge.pw_archrow_k12_whole_the_most view [] (λs=>PySem.W.xlAt view [] s&&PySem.W.recOk (PySem.W.RowW.records PySem.Challenge.rw_archrow_k12_whole_the_most.row.toRowW) s) HK.obs HK.val 3394:=λw=>by kernel_rfl
def all_mk {l:PySem.W.OpenLaw}(w:aam)(mg:Str->Option ZW)(fa:θ)(h:Heap)(X:(KK w.params).In h)(G:h.Ns abR mg)(YH:mg "law" = ν (.ref fa))   :∃fd:aaI,(∀(s:ZZ) (v:ZW),BindsTo s fd {[v],[]} [("script",v)])/\∀base:Heap,(KK w.params).In base->base.Ns abR mg->aG l.prog w (KK w.params) mg base bt 45 fa fd ["script"] (C1 (KK w.params)):=by
 have e:=YH.symm.trans (PySem.W.mg_of X G (v:=.ref 252) (by kernel_rfl))
 cases e;have O1:=Ω X G (n:="max") (by kernel_rfl)
 have O0:=Ω X G (n:="min") (by kernel_rfl)
 have O3:=Ω X G (n:="int") (by kernel_rfl)
 have HN:=Ω X G (n:="range") (by kernel_rfl)
 have Ep:=Ω X G (n:="sorted") (by kernel_rfl)
 have OZ:=Ω X G (n:="set") (by kernel_rfl)
 have O2:=Ω X G (n:="len") (by kernel_rfl)
 have L1:=Ω X G (n:="list") (by kernel_rfl)
 have ue:=Ω X G (n:="isinstance") (by kernel_rfl)
 have HM:=Ω X G (n:="tuple") (by kernel_rfl)
 have OY:=Ω X G (n:="str") (by kernel_rfl)
 have L3:=Ω X G (n:="bool") (by kernel_rfl)
 have OW:=Ω X G (n:="zip") (by kernel_rfl)
 have vB:=Ω X G (n:="enumerate") (by kernel_rfl)
 have OX:=Ω X G (n:="sum") (by kernel_rfl)
 have B:=({{{(O1),O0,O3,HN,Ep,OZ,O2,L1},ue,HM,OY,L3,OW,vB},OX}:uK mg);exact⟨_,λs v=>.of_eq rfl,λbase _ _=>LQ (Fg (x:="law") (m:=Κ) (st:=pq) (t:=442) (c:=251) (f:=252) (by kernel_rfl) (by kernel_rfl) (by kernel_rfl)) B (bD X G (x:="most_ties") (m:="archrow.kept") (st:=gh) (t:=325) (c:=115) (f:=116) (ps:=["row"]) (by kernel_rfl) (by kernel_rfl) (by kernel_rfl) (by kernel_rfl) (gA λ_=>rfl))
  (bD X G (x:="most_of") (m:="archrow.kept") (st:=jF) (t:=325) (c:=122) (f:=123) (ps:=["row","i","j"]) (by kernel_rfl) (by kernel_rfl) (by kernel_rfl) (by kernel_rfl) (HY λ_ _ _=>rfl))
  (bD X G (x:="how_many_most") (m:="archrow.kept") (st:=dg) (t:=325) (c:=139) (f:=140) (ps:=["row"]) (by kernel_rfl) (by kernel_rfl) (by kernel_rfl) (by kernel_rfl) (gA λ_=>rfl))
  (bD X G (x:="ways_by") (m:="archrow.stretches") (st:=jE) (t:=239) (c:=108) (f:=109) (ps:=["counts","choices","i","j"]) (by kernel_rfl) (by kernel_rfl) (by kernel_rfl) (by kernel_rfl) (Pd λ_ _ _ _=>rfl))
  (bD X G (x:="ways_in") (m:="archrow.stretches") (st:=jD) (t:=239) (c:=103) (f:=104) (ps:=["counts","parts"]) (by kernel_rfl) (by kernel_rfl) (by kernel_rfl) (by kernel_rfl) (mN λ_ _=>rfl))
  (bD X G (x:="always_tied") (m:="archrow.kept") (st:=eF) (t:=325) (c:=134) (f:=135) (ps:=["row"]) (by kernel_rfl) (by kernel_rfl) (by kernel_rfl) (by kernel_rfl) (gA λ_=>rfl))
  (bD X G (x:="choices_met") (m:="archrow.kept") (st:=eE) (t:=325) (c:=151) (f:=152) (ps:=["row"]) (by kernel_rfl) (by kernel_rfl) (by kernel_rfl) (by kernel_rfl) (gA λ_=>rfl))
  (bD X G (x:="table_of") (m:="archrow.kept") (st:=hG) (t:=325) (c:=129) (f:=130) (ps:=["row"]) (by kernel_rfl) (by kernel_rfl) (by kernel_rfl) (by kernel_rfl) (gA λ_=>rfl))
  (bD X G (x:="greatest_table") (m:="archrow.stretches") (st:=cQ) (t:=239) (c:=72) (f:=73) (ps:=["row","worth"]) (by kernel_rfl) (by kernel_rfl) (by kernel_rfl) (by kernel_rfl) (mN λ_ _=>rfl))
  (bD X G (x:="partners_of") (m:="archrow.stretches") (st:=ee) (t:=239) (c:=60) (f:=61) (ps:=["row"]) (by kernel_rfl) (by kernel_rfl) (by kernel_rfl) (by kernel_rfl) (gA λ_=>rfl))
  (bD X G (x:="stretches_rising") (m:="archrow.stretches") (st:=cg) (t:=239) (c:=55) (f:=56) (ps:=["many"]) (by kernel_rfl) (by kernel_rfl) (by kernel_rfl) (by kernel_rfl) (gA λ_=>rfl))
  (bD X G (x:="least_number") (m:="archrow.stretches") (st:=dy) (t:=239) (c:=84) (f:=85) (ps:=["partners","worth","table","i","j"]) (by kernel_rfl) (by kernel_rfl) (by kernel_rfl) (by kernel_rfl) (HX λ_ _ _ _ _=>rfl))
  (bD X G (x:="number_with") (m:="archrow.stretches") (st:=eh) (t:=239) (c:=79) (f:=80) (ps:=["worth","table","i","k","j"]) (by kernel_rfl) (by kernel_rfl) (by kernel_rfl) (by kernel_rfl) (HX λ_ _ _ _ _=>rfl))
  (bD X G (x:="one_each") (m:="archrow.kept") (st:=hV) (t:=325) (c:=144) (f:=145) (ps:=["row"]) (by kernel_rfl) (by kernel_rfl) (by kernel_rfl) (by kernel_rfl) (gA λ_=>rfl))
  (bD X G (x:="first_greatest") (m:="archrow.stretches") (st:=cR) (t:=239) (c:=96) (f:=97) (ps:=["row","worth","table","i","j"]) (by kernel_rfl) (by kernel_rfl) (by kernel_rfl) (by kernel_rfl) (HX λ_ _ _ _ _=>rfl))
  (bD X G (x:="best_choices") (m:="archrow.stretches") (st:=dB) (t:=239) (c:=89) (f:=90) (ps:=["partners","worth","table","i","j"]) (by kernel_rfl) (by kernel_rfl) (by kernel_rfl) (by kernel_rfl) (HX λ_ _ _ _ _=>rfl))
  (bD X G (x:="parts_left") (m:="archrow.stretches") (st:=fq) (t:=239) (c:=67) (f:=68) (ps:=["i","k","j"]) (by kernel_rfl) (by kernel_rfl) (by kernel_rfl) (by kernel_rfl) (HY λ_ _ _=>rfl))
  (bD X G (x:="is_set") (m:="archrow.arcs") (st:=lz) (t:=386) (c:=170) (f:=171) (ps:=["row","ties"]) (by kernel_rfl) (by kernel_rfl) (by kernel_rfl) (by kernel_rfl) (mN λ_ _=>rfl))
  (bD X G (x:="first_fault") (m:="archrow.arcs") (st:=eD) (t:=386) (c:=177) (f:=178) (ps:=["row","ties"]) (by kernel_rfl) (by kernel_rfl) (by kernel_rfl) (by kernel_rfl) (mN λ_ _=>rfl))
  (bD X G (x:="fault_at") (m:="archrow.arcs") (st:=ia) (t:=386) (c:=184) (f:=185) (ps:=["row","ties","k"]) (by kernel_rfl) (by kernel_rfl) (by kernel_rfl) (by kernel_rfl) (HY λ_ _ _=>rfl))
  (bD X G (x:="share_a_point") (m:="archrow.arcs") (st:=df) (t:=386) (c:=191) (f:=192) (ps:=["one","other"]) (by kernel_rfl) (by kernel_rfl) (by kernel_rfl) (by kernel_rfl) (mN λ_ _=>rfl))
  (bD X G (x:="arcs_cross") (m:="archrow.arcs") (st:=ft) (t:=386) (c:=163) (f:=164) (ps:=["one","other"]) (by kernel_rfl) (by kernel_rfl) (by kernel_rfl) (by kernel_rfl) (mN λ_ _=>rfl))
  (bD X G (x:="row_of") (m:="archrow.arcs") (st:=ly) (t:=386) (c:=156) (f:=157) (ps:=["many","ties"]) (by kernel_rfl) (by kernel_rfl) (by kernel_rfl) (by kernel_rfl) (mN λ_ _=>rfl))
  (bD X G (x:="_law_hand") (m:=Κ) (st:=fO) (t:=442) (c:=198) (f:=199) (ps:=["cell"]) (by kernel_rfl) (by kernel_rfl) (by kernel_rfl) (by kernel_rfl) (gA λ_=>rfl))
  (bD X G (x:="_law_take") (m:=Κ) (st:=fN) (t:=442) (c:=205) (f:=206) (ps:=["hand","many"]) (by kernel_rfl) (by kernel_rfl) (by kernel_rfl) (by kernel_rfl) (mN λ_ _=>rfl))
  (bD X G (x:="_law_arcs") (m:=Κ) (st:=h_) (t:=442) (c:=212) (f:=213) (ps:=["hand","many"]) (by kernel_rfl) (by kernel_rfl) (by kernel_rfl) (by kernel_rfl) (mN λ_ _=>rfl))
  (bD X G (x:="_law_ties") (m:=Κ) (st:=hZ) (t:=442) (c:=217) (f:=218) (ps:=["hand","many"]) (by kernel_rfl) (by kernel_rfl) (by kernel_rfl) (by kernel_rfl) (mN λ_ _=>rfl))
  (bD X G (x:="_law_row") (m:=Κ) (st:=jG) (t:=442) (c:=224) (f:=225) (ps:=["hand"]) (by kernel_rfl) (by kernel_rfl) (by kernel_rfl) (by kernel_rfl) (gA λ_=>rfl))
  (bD X G (x:="_law_told_right") (m:=Κ) (st:=cO) (t:=442) (c:=229) (f:=230) (ps:=["row"]) (by kernel_rfl) (by kernel_rfl) (by kernel_rfl) (by kernel_rfl) (gA λ_=>rfl))
  (bD X G (x:="_law_turned_right") (m:=Κ) (st:=cj) (t:=442) (c:=241) (f:=242) (ps:=["row"]) (by kernel_rfl) (by kernel_rfl) (by kernel_rfl) (by kernel_rfl) (gA λ_=>rfl))
  (bD X G (x:="_law_changed_right") (m:=Κ) (st:=bX) (t:=442) (c:=236) (f:=237) (ps:=["hand","row"]) (by kernel_rfl) (by kernel_rfl) (by kernel_rfl) (by kernel_rfl) (mN λ_ _=>rfl))
  (bD X G (x:="_law_both_right") (m:=Κ) (st:=cP) (t:=442) (c:=246) (f:=247) (ps:=["one","other"]) (by kernel_rfl) (by kernel_rfl) (by kernel_rfl) (by kernel_rfl) (mN λ_ _=>rfl))⟩
end qW
abbrev PySem.W.Fast.tw7605337825356401582:PySem.Program:=PySem.Challenge.pw_archrow_k12_whole_the_most
def PySem.W.Fast.te7605337825356401582:PySem.Challenge.pw_archrow_k12_whole_the_most=PySem.W.Fast.tw7605337825356401582:=rfl
open PySem PySem.W PyProof.Rows
set_option maxRecDepth 100000 in
set_option maxHeartbeats 0 in
theorem PySem.Challenge.cw_archrow_k12_whole_the_most_holds : PySem.Challenge.rw_archrow_k12_whole_the_most.Holds := by
 w_on;o_law
 refine holds_open (q:=qW.view) (loose:=[]) (Xt:=λs=>xlAt qW.view [] s&&recOk (RowW.records PySem.Challenge.rw_archrow_k12_whole_the_most.row.toRowW) s) (XP:=XL qW.view []) (Yf:=qW.HK.obs) (Ya:=qW.HK.val) (YP:=λw h=>(qW.KK w.params).In h) (N:=3394) qW.left qW.HK.of qW.HK.keeps (λs e=>xl_of s (ac0.mp e).1) XL.keeps (by rfl) (by rfl) (by rfl) (λs e=>recFacts_of (ac0.mp e).2) (by rfl) (by first|assumption|decide +kernel) (by decide +kernel) {rfl,rfl,rfl,rfl,rfl,by decide +kernel} ?hw ?hc
 (case hw=>w_witness2)
 case hc =>
  exact L2.GQ (l:=PySem.Challenge.rw_archrow_k12_whole_the_most) (K:=qW.KK) (n:=63) (k:=45) (x:="script") (CX:=λ_=>L2.bt) (sp:=λw=>qW.C1 (qW.KK w.params)) rfl (by decide) rfl {rfl,by decide,by decide} (λw h Y=>Y) qW.all_mk (λ_ _ a ns hl _ hS=>{a,ns,rfl,hS,hl,λ_=>rfl}) λ_ _ _ _ _ z=>z
#print axioms PySem.Challenge.cw_archrow_k12_whole_the_most_holds
