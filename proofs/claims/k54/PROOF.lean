import PyProof.Rows.All
import Wide.All
import OpenK.AllK
import Wide.FinOn
import Lean
import PyProof.EqAt
import PyProof.EqKinds
import PyProof.TupleCall
import PyProof.NeKinds
import KE.RegKIsAll
import PyProof.ExcClass3
import PySem.SetTable
import PySem.Value
import PyProof.Rows.SortShellK
import OpenK.KOwn
import KE.KNestM
import PyProof.Rows.StrWeight2
import KE.KRevSl
import PyProof.CollectIter
import PyProof.SetKind
import PyProof.Walks
import PyProof.ForAny
import PyProof.FactsAll.set_1
import PyProof.FactsAll.set_2
import PyProof.ZipIter
import KE.KRevIter
import PyProof.ListNew
import PyProof.ConsumeS
import KE.KIsAll
import PyProof.DictWalks
import KE.KDictList
import PyProof.WalksMore
import PySem.Challenge.RW_stakebodies_k54_differences
set_option Elab.async false
set_option linter.all false
set_option backward.eqns.nonrecursive false
set_option maxRecDepth 100000
set_option maxHeartbeats 4000000
set_option compiler.extract_closed false
local macro_rules|`({$x:term,$y,*})=>`(⟨$x,$y,*⟩)
local macro_rules|`(tactic|show $e)=>`(tactic|refine $e)
local macro_rules|`(tactic|symm)=>`(tactic|decide)
local macro_rules|`(tactic|nofun)=>`(tactic|simp_all)
local macro_rules|`(tactic|exists $e)=>`(tactic|simpa using $e)
local macro_rules|`(tactic|erw[$r,*]$[$l]?)=>do
 let q:=r.getElems.map λx=>(⟨x.raw[1]⟩:Lean.Term)
 `(tactic|simp only[$[$q:term],*]$[$l]?)
local macro_rules|`(tactic|let $p:term:=$e)=>do
 let f(g:Lean.Syntax->Lean.MacroM (Lean.TSyntax `rcasesPat))(t:Lean.Syntax):Lean.MacroM (Lean.TSyntax `rcasesPat):=do
  match if t.isOfKind Lean.choiceKind then t[0] else t with
  |`({$x:term,*})=>
   let p<-x.getElems.mapM (g ·.raw)
   `(rcasesPat|⟨$[$p:rcasesPat],*⟩)
  |`($i:ident)=>`(rcasesPat|$i:ident)
  |_=>`(rcasesPat|_)
 let p<-f (f (f (f λ_=>`(rcasesPat|_)))) p
 `(tactic|obtain $p:rcasesPat:=$e)
theorem gi{c:Prop}{h:Decidable c}(k:c){α:Sort _}{t e:α}:ite c t e=t:=if_pos k
theorem gk{c:Prop}{h:Decidable c}(k:¬c){α:Sort _}{t e:α}:ite c t e=e:=if_neg k
theorem gn{α:Sort _}{β:Sort _}{a b:α}(f:α->β)(h:a=b):f a=f b:=congrArg f h
def gs{a:Prop}{b:Sort _}(h:a)(k:¬a):b:=absurd h k
theorem gu{p:Prop}[i:Decidable p](h:¬p):decide p=false:=decide_eq_false h
theorem gv{p:Prop}[i:Decidable p](h:p):decide p=true:=decide_eq_true h
abbrev gy:=PySem.W.Frag
abbrev gA:PySem.Str:="__debug__"
abbrev gB:PySem.Str:="__classdict__"
open PySem renaming Value->af,starEach->ag,Shared->ai,Addr->a5,wpAny->a9,model->ba,Program->bb,cellsFrom->bc,Around->be,mainGlobals->bg,World->bo,Expr->bp,Stmt->br,Heap->bt,cLine->cf,bootBuiltins->cp,backTo->cq,eval->cu,NameKind->cv,FuncData->cy,rawInt->cz,binaryOp->cP,compareOp->cT,assignEach->dm,swapsWith->dq,DictEntry->dz,foldedSetIterable->dA,SetTable->dC,codeAmong->dV,codeAny->ee,argBest->et,IsPair->eN,Scope->eO,swapsWithSole->eQ,swappedStores->eR,attributeBase->eT,sysModules->eY,sliceBounds->eZ,pushCells->fb,newFunctionEnv->ff,pyNext->fg,holding->fh,behindInMarks->fm,pickOrder->fo,assign->gh,wpAny_bind->aAa,wpAny_pure->aAb,wpAny_holding->aAV,wpAny_Call_Name_kw->aBb,wpAny_newObj_type->aBd,wpAny_call_entry->aBn,wpAny_specialOf->aBz,codeAny_builtin->aBB,wpAny_truthy_bool->aBN,wpAny_seqItems->aBU,plainId_quiet->aBX,wpAny_callSpecial?_slot->aCc,wpAny_setField_rec->aCd,wpAny_updateSeq->aCe,wpAny_setState_of->aCk,builtinLookup_eq_fast->aCv,wpAny_forIn_list->aCB,wpAny_mono->aCJ,wpAny_field->aCW,wpAny_passesOwn->aCZ,pushCells_keeps->aDd,wpAny_isInstance->aDm,wpAny_typeNameOfWhole_keyiter->aDo,wpAny_rule->aDq,wpAny_nextOf_list_item->aDt,wpAny_callSpecialIfBoundUnlessNone?_slot->aDz,typeLookup_type->aDI,wpAny_pyIter_list->aDK,codeAny_mono->aDX,wpAny_typeOf->aDY,wpAny_attempt->aEf,wpAny_standAt->aEg,wpAny_Assign_Name->aEm,wpAny_pyIter_slot->aEo,wpAny_letGo->aEp,wpAny_bindName->aEs,wpAny_execs_cons->aEz,wpAny_execs_nil->aEL,wpAny_loadPart'->aEM,wpAny_setEntries_of->aEN,slot_dict_contains->aFi,isSubtype_type->aFm,wpAny_tryCatch->aFo,sizeLine_eq->aFz,noFill_tuple_add->aFF,wpAny_askSetting->aFG,concat_meets->aFQ,wpAny_newTuple->aGc,wpAny_runValue->aGe,wpAny_fieldsOf->aGf,wpAny_setField->aGg,isSubtype_stop->aGh,wpAny_of_eq->aGl
open PySem.Heap renaming get?_push_of_some->aAc,lt_size->aAg,get?_push_size->aAo,get?_update_other->aAI,size_push->aBm,get?_update_self->aBp,get?_none_of_le->aED
open List renaming mem_cons_of_mem->aAd,mem_cons->aAe,length_map->aAf,mem_map->aAh,getElem?_eq_getElem->aAk,mem_of_getElem?->aAl,length_cons->aAp,map_cons->aAq,mem_map_of_mem->aAt,mem_append_right->aAu,pairwise_cons->aAw,length_append->aAx,getElem?_eq_some_iff->aAB,getD_eq_getElem?_getD->aAD,getElem?_append_right->aAG,mem_filter->aAH,mem_singleton->aAK,set_cons_succ->aAL,set_cons_zero->aAM,mem_append->aAO,getElem?_map->aAP,mem_flatMap->aAQ,not_mem_nil->aAR,mem_append_left->aAW,size_toArray->aAX,length_eq_one_iff->aAZ,reverse_cons->aBc,getElem?_append_left->aBe,mem_cons_self->aBf,lookup_cons->aBh,nodup_cons->aBi,cons_append->aBj,filter_sublist->aBk,getElem_of_mem->aBq,getElem?_zip_eq_some->aBr,map_map->aBs,mem_reverse->aBt,map_append->aBv,all_eq_true->aBA,range->aBI,length_nil->aBK,pairwise_map->aBM,getElem?_replicate->aBO,dropLast_concat->aBP,getElem?_set_self->aBR,append_nil->aBS,length_take->aBW,mem_iff_getElem?->aBZ,sum_cons->aCa,mem_filterMap->aCb,nil_append->aCf,getElem_mem->aCh,nodup_iff_pairwise_ne->aCi,length_reverse->aCl,pairwise_iff_getElem->aCn,getElem?_eq_none_iff->aCp,length_filter_le->aCr,length_replicate->aCu,getElem?_set_ne->aCC,set->aCE,mem_range->aCF,nodup_append->aCH,flatMap_cons->aCI,filterMap_cons->aCL,getElem?_toArray->aCS,replicate->aCU,mem_of_getLast?->aCY,forIn_cons->aDc,append_assoc->aDe,getElem?_cons_zero->aDg,replicate_succ->aDi,replicate_zero->aDj,any_eq_true->aDk,nodup_nil->aDp,length_pos_of_mem->aDr,zip_cons_cons->aDu,map->aDx,foldl_cons->aDE,map_nil->aDG,perm_ext_iff_of_nodup->aDL,exists_mem_of_ne_nil->aDO,drop_eq_getElem_cons->aDQ,length_drop->aDT,getLast?_cons_cons->aEa,pairwise_singleton->aEb,filterMap_map->aEe,ext_getElem?->aEk,pairwise_reverse->aEt,dropLast_eq_take->aEx,lookup_cons_self->aEy,getElem_map->aEA,of_mem_zip->aEI,map_congr_left->aEJ,length_pos_iff->aEQ,exists_cons_of_ne_nil->aES,head?_reverse->aEY,getLast?_cons->aEZ,mem_of_find?_eq_some->aFk,forIn_nil->aFn,length_erase_of_mem->aFr,filter_congr->aFs,filter_cons_of_neg->aFy,getElem?_cons_succ->aFA,lookup_eq_none_iff->aFD,map_reverse->aFI,range_succ_eq_map->aFJ,mem_erase_of_ne->aFV,mem_of_mem_drop->aFW,all_cons->aGp
open Nat renaming le_refl->aAi,le_trans->aAj,ne_of_lt->aAm,lt_of_lt_of_le->aAn,zero_le->aAU,le_of_lt_succ->aBu,lt_irrefl->aBx,lt_succ_of_lt->aBE,le_add_right->aBV,mul_le_mul->aCq,le_of_lt->aCs,lt_of_le_of_ne->aCw,lt_of_le_of_lt->aCx,le_of_succ_le->aCK,le_of_not_lt->aCP,ne_of_gt->aCR,lt_succ_self->aDl,lt_or_eq_of_le->aDw,le_antisymm->aDC,zero_add->aDD,le_sub_one_of_lt->aDN,succ_mul->aDV,le_of_eq->aEw,reduceAdd->aEG,reduceSub->aEH,lt_or_gt_of_ne->aFc,lt_trans->aFd,sub_lt_left_of_lt_add->aFl,mod_lt->aFu,gcd_dvd_left->aFE,add_comm->aFM,succ_pos->aFN,not_lt_zero->aFP
open Int renaming mul_eq_zero->aAr,mul_nonpos_of_nonneg_of_nonpos->aAs,mul_neg_of_pos_of_neg->aAv,mul_le_mul_of_nonneg_left->aAz,le_of_lt->aAA,mul_le_mul_of_nonneg_right->aAJ,mul_nonneg->aAS,mul_pos->aAY,mul_pos_of_neg_of_neg->aBD,mul_zero->aBJ,le_refl->aBY,eq_of_mul_eq_mul_left->aCm,lt_or_gt_of_ne->aDv,neg_mul_neg->aDA,lt_or_le->aDB,mul_nonneg_of_nonpos_of_nonpos->aDZ,mul_assoc->aEc,gcd->aEn,toNat_natCast->aEq,mul_ediv_cancel'->aEB,toNat->aEO,neg_ediv_of_dvd->aER,mul_lt_mul_of_pos_left->aET,le_of_mul_le_mul_right->aEU,fdiv_eq_ediv_of_nonneg->aEW,ne_of_gt->aEX,natAbs_eq_zero->aFa,ofNat_dvd_left->aFb,le_of_mul_le_mul_left->aFj,neg_nonneg_of_nonpos->aFp,sub_eq_zero->aFL,zero_mul->aGw,add_comm->aGx,add_zero->aGy,mul_comm->aGB
open False renaming elim->aAy
open Array renaming getElem?_eq_getElem->aAC,getElem?_toList->aAF,length_toList->aBw,getElem?_eq_none->aBG,getElem?_eq_some_iff->aCj,forIn_toList->aCz,replicate->aEK,perm_iff_toList_perm->aEV,getD->aFt,getElem_toList->aGa,toList_append->aGm,toList->aGz
open Bool renaming false_eq_true->aAE,and_eq_true->aAN,false_ne_true->aBH,eq_iff_iff->aDH,not_true->aEE,and_eq_true_iff->aGb,and_false->aGd
open PySem.Builtin.Tuple renaming tupleHashOf->aAT,tupleExact->aDa,tupleItemsOf->aDM
open PySem.PassesOwn renaming never->aBa
open PySem.Builtin.Int renaming intBits->aBg
open PyProof.Rows renaming callWith_type1->aBl,wpS_bind->aBC,envOfC->aBL,callWith_builtin1->aBQ,wpS_pure->aCo,slot_tuple_getitem->aCG,assignInOrder_cons->aCQ,wpS_forRange->aEu,listItems_at->aEv,fdiv_fmod_facts->aEF,pairsOf_size->aFe,assignInOrder_nil->aFv,KK_mirror_equal->aFO,mirror_perm->aGi,wpS_reverse->aGj
open PySem.NameKind renaming cell->aBo
open Option renaming bind_eq_some_iff->aBy,map_eq_some_iff->aCO,isSome_iff_exists->aFx
open PySem.Around renaming under_plainId->aBF,frames_deeper->aFX
open Or renaming inr->aBT,inl->aCM
open PySem.Obj renaming mapSeq->aCg,putSet->aFU
open ForInStep renaming yield->aCt
open PySem.Value renaming type->aCy,ref->aDF,bool->aDW,int->aGE
open Ne renaming symm->aCA
open PySem.Builtin.Range renaming rangeSize->aCD,small->aGk
open PySem.Builtin.List renaming listLengthHint->aCN,listTooLong->aDb,listSameRef->aDf,listItems->aDs,listExtendWith->aDJ
open Classical renaming byContradiction->aCT,propDecidable->aEi
open PySem.Builtin.Slice renaming slicePlaces->aCV,sliceAdjust->aDP
open PySem.Builtin.SmallTypes renaming nextOf->aCX,ownedTupleHandOut->aDS,ownedTupleIsFree->aDU
open PySem.F renaming plain_extend_loop->aDh,plain_min_loop->aDn,slot_dict_keyiterator_next->aDy,slot_zip_next->aEj,entry_min_loop->aFH
open PySem.SetTable renaming below->aDR,bits->aEd,fits->aGq,insertAt->aGv,tooFull->aGC
open PySem.SeqAt.EqAt renaming same->aEh,int_int->aFg,of_refs->aFh,int_tuple->aFY,tuple_int->aFZ,int_str->aGn,str_int->aGo
open Prod renaming ext->aEr
open List.Pairwise renaming filter->aEC,nil->aFq
open PySem.Heap.SameBut renaming update->aEP,refl->aGu
open PySem.Calls renaming spliced_cons->aFf,spliced_nil->aFw,callWith_builtin->aFK
open PySem.Moved renaming trans->aFB
open PySem.Builtin.Frozenset renaming slot0->aFC
open PySem.Str renaming ofString->aFR
open List.cons renaming injEq->aFS
open PySem.Builtin.Dict renaming showsAll->aFT
open Function renaming comp->aGr
open Option.some renaming injEq->aGs
open True renaming intro->aGt
open PySem.pickOrder renaming go->aGA
open Array.Perm renaming refl->aGD
abbrev D7:=PySem.Value->PySem.Shared->Prop
abbrev R7:=List (PySem.Addr×PySem.Obj)
abbrev dJ:=PySem.Str->Option PySem.Value
abbrev CJ:=Bool->PySem.Shared->Prop
theorem z0(_:0=0:=by rfl)(_:0=0:=by decide)(_:0=0:=by decide+kernel)(_:0=0:=by assumption)(_:0=0:=by first|show aCM rfl|show aBT (aCM rfl)|show aBT (aBT rfl))(_:0=0:=by first|show .inl rfl|show .inr rfl|assumption)(_:0=0:=by intro _;rfl)(_:0=0:=by first|show aCM rfl|show aBT rfl):0=0:=rfl
local macro_rules|`($t<|>1)=>`(autoParam $t z0._auto_1)|`($t<|>2)=>`(autoParam $t z0._auto_2)|`($t<|>3)=>`(autoParam $t z0._auto_3)|`($t<|>4)=>`(autoParam $t z0._auto_4)|`($t<|>5)=>`(autoParam $t z0._auto_5)|`($t<|>6)=>`(autoParam $t z0._auto_6)|`($t<|>7)=>`(autoParam $t z0._auto_7)|`($t<|>8)=>`(autoParam $t z0._auto_8)
set_option bootstrap.genMatcherCode false
noncomputable section
local macro_rules|`(command|def $i:declId $s:optDeclSig $v:declVal)=>`(command|noncomputable def $i $s:optDeclSig $v:declVal)
namespace G
structure V where
 x:Int
 y:Int
 z:Int
deriving DecidableEq
instance:Add V:=⟨λu v=>{u.x+v.x,u.y+v.y,u.z+v.z}⟩
instance:Sub V:=⟨λu v=>{u.x-v.x,u.y-v.y,u.z-v.z}⟩
instance:Neg V:=⟨λu=>{-u.x,-u.y,-u.z}⟩
instance:HMul Int V V:=⟨λk u=>{k*u.x,k*u.y,k*u.z}⟩
instance:OfNat V 0:=⟨{0,0,0}⟩
@[simp]def UB(u v:V):(u+v).x=u.x+v.x:=rfl
@[simp]def WX(u v:V):(u+v).y=u.y+v.y:=rfl
@[simp]def VR(u v:V):(u+v).z=u.z+v.z:=rfl
@[simp]def SH(u v:V):(u-v).x=u.x-v.x:=rfl
@[simp]def RD(u v:V):(u-v).y=u.y-v.y:=rfl
@[simp]def TX(u v:V):(u-v).z=u.z-v.z:=rfl
@[simp]def b0z(u:V):(-u).x=-u.x:=rfl
@[simp]def b0t(u:V):(-u).y=-u.y:=rfl
@[simp]def b0p(u:V):(-u).z=-u.z:=rfl
@[simp]def IT(k:Int)(u:V):(k*u).x=k*u.x:=rfl
@[simp]def KU(k:Int)(u:V):(k*u).y=k*u.y:=rfl
@[simp]def JV(k:Int)(u:V):(k*u).z=k*u.z:=rfl
@[simp]def WP:(0:V).x=0:=rfl
@[simp]def VZ:(0:V).y=0:=rfl
@[simp]def XQ:(0:V).z=0:=rfl
def ext{u v:V}(a:u.x=v.x)(b:u.y=v.y)(d:u.z=v.z):u=v:=by cases u;cases v;nofun
def qS{u v:V}:u=v↔u.x=v.x/\u.y=v.y/\u.z=v.z:={λh=>by subst h;show{rfl,rfl,rfl},by rintro⟨a,b,c⟩;show ext a b c}
def b8(u v:V):Int:=u.x*v.x+u.y*v.y+u.z*v.z
def cr(u v:V):V:={u.y*v.z-u.z*v.y,u.z*v.x-u.x*v.z,u.x*v.y-u.y*v.x}
def e9(a u v:V):Int:=b8 a (cr u v)
@[simp]def a9n(u v:V):(cr u v).x=u.y*v.z-u.z*v.y:=rfl
@[simp]def a8y(u v:V):(cr u v).y=u.z*v.x-u.x*v.z:=rfl
@[simp]def a9q(u v:V):(cr u v).z=u.x*v.y-u.y*v.x:=rfl
def EL(a u v w:V):e9 a u v*w+e9 a v w*u+e9 a w u*v=e9 u v w*a:=by apply ext<;>simp[e9,b8]<;>grind
def VP(f a u v w:V):e9 a u v*b8 f w+e9 a v w*b8 f u+e9 a w u*b8 f v=e9 u v w*b8 f a:=by simp[e9,b8];grind
def j2(a u v:V):e9 a v u=-e9 a u v:=by simp[e9,b8];grind
def C6(a u:V):e9 a u u=0:=by simp[e9,b8];grind
def bA(a u v w:V):e9 a (u+v) w=e9 a u w+e9 a v w:=by simp[e9,b8];grind
def bL(a u v w:V):e9 a u (v+w)=e9 a u v+e9 a u w:=by simp[e9,b8];grind
def VC(a u v w:V):e9 a u (v-w)=e9 a u v-e9 a u w:=by simp[e9,b8];grind
def DA(a:V)(k:Int)(u v:V):e9 a u (k*v)=k*e9 a u v:=by simp[e9,b8];grind
def J5(u v:V):b8 u v=b8 v u:=by simp[b8];grind
def k5(f u v:V):b8 f (u+v)=b8 f u+b8 f v:=by simp[b8];grind
def c8(f u v:V):b8 f (u-v)=b8 f u-b8 f v:=by simp[b8];grind
def f7(f:V)(k:Int)(v:V):b8 f (k*v)=k*b8 f v:=by simp[b8];grind
def y7(f:V)(k:Int)(v:V):b8 (k*f) v=k*b8 f v:=by simp[b8];grind
def A1(f:V):b8 f 0=0:=by simp[b8]
def M2(a u v:V):b8 (cr a u) v=e9 a u v:=by simp[e9,b8];grind
def t5{u:V}(h:u≠0):0<b8 u u:=by
 have f:u.x≠0\/u.y≠0\/u.z≠0:=by
  by_cases a:u.x=0
  .by_cases b:u.y=0
   .by_cases c:u.z=0
    .show gs (ext a b c) h
    show .inr (.inr c)
   show .inr (.inl b)
  show .inl a
 have e:∀t:Int,0<=t*t:=λt=>by
  rcases Int.le_total 0 t with q|q
  .show aAS q q
  have:=aAS (aFp q) (aFp q);rwa [aDA]at this
 have d:∀t:Int,t≠0->0<t*t:=λt g=>by
  have:=e t;have:t*t≠0:=λz=>by rcases aAr.mp z with q|q<;>show g q
  omega
 have a:=e u.x;have b:=e u.y;have c:=e u.z;unfold b8;rcases f with q|q|q
 .have:=d _ q;omega
 .have:=d _ q;omega
 have:=d _ q;omega
def v9(h:n≠0)(a:b8 n u=0)(b:b8 n v=0)(d:b8 n w=0):e9 u v w=0:=by
 have e:e9 u v w*b8 n n=0:=by
  have:=VP n n u v w
  nofun
 rcases aAr.mp e with q|q
 .show q
 have:=t5 h;omega
def B5{a b:V}(h:a-b=0):a=b:=ext (aFL.mp<|gn V.x h) (aFL.mp<|gn V.y h) (aFL.mp<|gn V.z h)
def wP{k:Int}{v:V}(a:0<k)(h:k*v=0):v=0:=ext ((aAr.mp<|gn V.x h).resolve_left (aEX a)) ((aAr.mp<|gn V.y h).resolve_left (aEX a)) ((aAr.mp<|gn V.z h).resolve_left (aEX a))
def pU(u v:V):cr u v=-cr v u:=by apply ext<;>simp<;>grind
def o8(v:V):(0:Int)*v=0:=ext (by simp) (by simp) (by simp)
def iY(v:V):v+0=v:=ext (by simp) (by simp) (by simp)
def jH(v:V):0+v=v:=ext (by simp) (by simp) (by simp)
structure Cone(Pos:V->Prop):Prop where
 add:∀{u v},Pos u->Pos v->Pos (u+v)
 mul:∀{k:Int}{u},0<k->Pos u->Pos (k*u)
 irr:¬Pos 0
section
variable{Pos:V->Prop} (C:Cone Pos)
include C
theorem Cone.comb{p q:Int}{u w:V}(a:0<p)(e:0<=q)(b:Pos w)(d:Pos u):Pos (p*w+q*u):=by
 by_cases h:q=0
 .subst h;rw[o8,iY];show C.mul a b
 show C.add (C.mul a b) (C.mul (by lia) d)
theorem Cone.sgn{k:Int}{v:V}(b:Pos v)(h:Pos (k*v)):0<k:=by
 by_cases d:0<k
 .show d
 exfalso;by_cases f:k=0
 .subst f;rw[o8]at h;show C.irr h
 have a:=C.add h (C.mul (k:=-k) (by lia) b);have e:k*v+-k*v=0:=ext (by simp;grind) (by simp;grind) (by simp;grind);rw[e]at a;show C.irr a
theorem Cone.tr{a u v w:V}(b:Pos u)(d:Pos v)(f:Pos w)(g:e9 u v w=0)(i:0<e9 a u v)(j:0<=e9 a v w):0<e9 a u w:=by
 show C.sgn d ?_;have e:e9 a u w*v=e9 a u v*w+e9 a v w*u:=by have h:=EL a u v w;rw[g,o8,j2 a u w]at h;have k:=gn V.x h;have l:=gn V.y h;have m:=gn V.z h;simp at k l m;show ext (by simp;grind) (by simp;grind) (by simp;grind)
 rw[e];show C.comb i j f b
theorem Cone.tr'{a u v w:V}(b:Pos u)(d:Pos v)(f:Pos w)(g:e9 u v w=0)(i:0<=e9 a u v)(j:0<e9 a v w):0<e9 a u w:=by
 show C.sgn d ?_;have e:e9 a u w*v=e9 a v w*u+e9 a u v*w:=by have h:=EL a u v w;rw[g,o8,j2 a u w]at h;have k:=gn V.x h;have l:=gn V.y h;have m:=gn V.z h;simp at k l m;show ext (by simp;grind) (by simp;grind) (by simp;grind)
 rw[e];show C.comb j i b f
end
structure ConeM(a:V)(Pos:V->Prop):Prop extends Cone Pos where
 inv:∀{u} (k:Int),Pos u->Pos (u+k*a)
def ConeM.tr{a:V}{Pos:V->Prop}(C:ConeM a Pos){u v w:V}(b:Pos u)(d:Pos v)(f:Pos w)(g:0<e9 a u v)(i:0<=e9 a v w):0<e9 a u w:=by
 show C.sgn d ?_;have e:e9 a u w*v=(e9 a u v*w+e9 a v w*u)+(-e9 u v w)*a:=by have h:=EL a u v w;rw[j2 a u w]at h;have j:=gn V.x h;have k:=gn V.y h;have l:=gn V.z h;simp at j k l;show ext (by simp;grind) (by simp;grind) (by simp;grind)
 rw[e];show C.inv _ (C.comb g i f b)
def d7(w:V):Prop:=0<w.x\/(w.x=0/\(0<w.y\/(w.y=0/\0<w.z)))
instance(w:V):Decidable (d7 w):=inferInstanceAs (Decidable<|_\/_)
def y8:Cone d7 where
 add:=λ{u v} e f=>by unfold d7 at*;simp;lia
 mul:=λ{k u} a h=>by
  unfold d7 at*
  simp;rcases h with h|⟨h,b|⟨b,d⟩⟩
  .show .inl (aAY a h)
  .show .inr {by rw[h];simp,.inl (aAY a b)}
  show .inr {by rw[h];simp,.inr {by rw[b];simp,aAY a d}}
 irr:=by unfold d7;simp
def R9(w:V):Prop:=d7 (-w)
def FU:-(0:V)=0:=rfl
def aZ:Cone R9 where
 add:=λ{u v} a b=>by have e:-(u+v)=-u+-v:=(by apply ext<;>simp<;>lia);unfold R9 at*;rw[e];show y8.add a b
 mul:=λ{k u} d h=>by have e:-(k*u)=k*(-u):=ext (by simp;grind) (by simp;grind) (by simp;grind);unfold R9 at*;rw[e];show y8.mul d h
 irr:=by unfold R9;rw[FU];show y8.irr
def aw(w:V):d7 w\/w=0\/R9 w:=by
 unfold R9 d7;rw[qS];simp
 lia
def t6(v:V):v-v=0:=ext (by simp) (by simp) (by simp)
def fU(a u:V):e9 a u 0=0:=by simp[e9,b8]
def L8(a u v:V):e9 a u (-v)=-e9 a u v:=by simp[e9,b8];grind
def bP(a u v:V):e9 a (-u) v=-e9 a u v:=by simp[e9,b8];grind
structure Row(n:V)(Pos:V->Prop)(T:V->Prop):Prop where
 cone:Cone Pos
 nz:n≠0
 pl:∀X Y,T X->T Y->b8 n (X-Y)=0
 tot:∀X Y,T X->T Y->X=Y\/Pos (X-Y)\/Pos (Y-X)
def Lft(n:V)(Pos:V->Prop)(a b X:V):Prop:=0<=e9 n (b-a) (X-a)/\(e9 n (b-a) (X-a)=0->(X=a\/Pos (X-a))/\(X=b\/Pos (b-X)))
def turn(n P Q R:V):Int:=e9 n (Q-P) (R-Q)
def Z2(n P:V):List V->List V
 |b::a::r=>if turn n a b P<=0 then Z2 n P (a::r)else b::a::r
 |r=>r
def x8(n:V)(ps:List V):List V:=ps.foldl (λc P=>P::Z2 n P c) []
def G0:List V->List (V×V)
 |b::a::r=>(a,b)::G0 (a::r)
 |_=>[]
def vE(n:V):List V->Prop
 |b::a::d::r=>0<e9 n (a-d) (b-a)/\vE n (a::d::r)
 |_=>True
def vE.tail(h:vE n (b::r)):vE n r:=by
 match r,h with
 |[],_=>trivial
 |[_],_=>trivial
 |_::_::_,h=>show h.2
def S5(h:e∈G0 r):e∈G0 (b::r):=by
 match r,h with
 |a::r,h=>show aAd _ h
section
variable{n:V}{Pos:V->Prop}{T:V->Prop} (F:Row n Pos T)
include F
structure ChOk(n:V)(Pos:V->Prop)(done:V->Prop)(c:List V):Prop where
 mem:∀X∈c,done X
 ed:∀e∈G0 c,Pos (e.2-e.1)/\∀X,done X->Lft n Pos e.1 e.2 X
 bend:vE n c
 last:∀X,done X->∀z,c.getLast?=some z->X=z\/Pos (X-z)
theorem Row.ad3{done:V->Prop}(f:∀X,done X->T X)(m:Pos x)(o:b8 n x=0):∀(c:List V),(∀X∈c,done X)->(∀e∈G0 c,Pos (e.2-e.1))->vE n c->(∀b a r,c=b::a::r->0<e9 n (b-a) x)->∀e∈G0 c,0<e9 n (e.2-e.1) x
 |[],_,_,_,_,e,d=>by cases d
 |[_],_,_,_,_,e,d=>by cases d
 |[b,a],_,_,_,h,e,d=>by simp[G0]at d;subst d;show h b a [] rfl
 |b::a::p::r,g,j,s,h,e,d=>by
  have i:=h b a _ rfl;rcases aAe.mp d with q|q
  .subst q;show i
  show Row.ad3 f m o (a::p::r) (λX t=>g X (aAd _ t)) (λe d=>j e (S5 d)) s.tail ?_ e q;intro v w y k;injection k with k l;injection l with l z;subst k l;have u:=j (a,b) (by simp[G0]);show F.cone.tr (j (p,a) (S5 (by simp[G0]))) u m (v9 F.nz (F.pl _ _ (f _ (g _ (by simp))) (f _ (g _ (by simp)))) (F.pl _ _ (f _ (g _ (by simp))) (f _ (g _ (by simp)))) o) s.1 (aAA i)
theorem Row.weak(d:Pos u)(a:Pos v)(f:Pos w)(g:b8 n u=0)(i:b8 n v=0)(j:b8 n w=0)(k:0<=e9 n u v)(l:0<=e9 n v w):0<=e9 n u w:=by
 have b:=v9 F.nz g i j;by_cases m:0<e9 n u v
 .show aAA (F.cone.tr d a f b m l)
 by_cases o:0<e9 n v w
 .show aAA (F.cone.tr' d a f b k o)
 have p:e9 n u v=0:=by lia
 have q:e9 n v w=0:=by lia
 have h:=EL n u v w;rw[p,q,b,o8,o8,o8,jH,jH]at h;by_cases z:e9 n w u=0
 .rw[j2];lia
 exfalso;have e:v=0:=by have r:=gn V.y h;have s:=gn V.z h;show ext ((aAr.mp<|gn V.x h).resolve_left z) ((aAr.mp r).resolve_left z) ((aAr.mp s).resolve_left z)
 rw[e]at a;show F.cone.irr a
theorem Row.ae1{done:V->Prop}(hd:∀X,done X->T X)(w:T P)(o:∀X,done X->Pos (P-X)):∀(c:List V),ChOk n Pos done c->c≠[]->
  (∀X q,c.head?=some q->done X->(X=q\/Pos (X-q))->0<=e9 n (P-q) (X-q))->
  ∃q r,Z2 n P c=q::r/\ChOk n Pos done (q::r)/\(∀X,done X->(X=q\/Pos (X-q))->0<=e9 n (P-q) (X-q))/\∀a A,r=a::A->0<turn n a q P
 |[],_,h,_=>gs rfl h
 |[b],ok,_,s=>{b,[],rfl,ok,λX d h=>s X b rfl d h,λa A e=>by cases e}
 |b::a::r,ok,_,s=>by
  by_cases B:turn n a b P<=0
  .have e:Z2 n P (b::a::r)=Z2 n P (a::r):=by rw[Z2,gi B]
   rw[e];have i:=ok.mem b (by simp);have t:=ok.mem a (by simp);have O:=ok.ed (a,b) (by simp[G0]);show Row.ae1 hd w o (a::r) {λX d=>ok.mem X (aAd _ d),λe Y=>ok.ed e (S5 Y),ok.bend.tail,λX d z v=>ok.last X d z (by rw[aEa];show v)} (by simp) ?_;intro X q hq d C;have E:a=q:=Option.some.inj hq;subst E;have j:Pos (P-a):=o a t;have Q:b8 n (b-a)=0:=F.pl _ _ (hd _ i) (hd _ t);unfold turn at B;have H:0<=e9 n (P-b) (b-a):=by rw[j2];lia
   rcases F.tot X b (hd X d) (hd b i)with z|z|z
   .
    subst z;have f:P-a=(P-X)+(X-a):=(by apply ext<;>simp<;>lia);rw[f,bA,C6];lia
   .
    have I:=s X b rfl d (.inr z);have px:b8 n (X-b)=0:=F.pl _ _ (hd _ d) (hd _ i);have k:Pos (P-X):=o X d;have J:e9 n (P-a) (X-a)*(P-b)=e9 n (P-b) (X-b)*(P-a)+e9 n (P-b) (b-a)*(P-X):=by
     have l:=EL n (b-a) (X-b) (P-b);rw[v9 F.nz Q px (F.pl _ _ w<|hd _ i),o8]at l;have f:P-a=(b-a)+(P-b):=(by apply ext<;>simp<;>lia);have e2:X-a=(b-a)+(X-b):=(by apply ext<;>simp<;>lia);have e3:P-X=(P-b)-(X-b):=(by apply ext<;>simp<;>lia);rw[f,e2,e3];generalize b-a=u at*
     generalize X-b=x at*
     generalize P-b=p at*
     rw[bA,bL,bL,C6];have I:=gn V.x l;have U:=gn V.y l;have v:=gn V.z l;rw[j2 n p x]at l I U v;simp at I U v;have s1:=j2 n p x;have s2:=j2 n p u;have s3:=j2 n u x;apply ext<;>simp<;>grind
    by_cases zz:0<=e9 n (P-a) (X-a)
    .show zz
    exfalso;have L:Pos ((-e9 n (P-a) (X-a))*(P-b)):=F.cone.mul (by lia) (o b i);have N:Pos (-e9 n (P-a) (X-a)*(P-b)+(e9 n (P-b) (X-b)*(P-a)+e9 n (P-b) (b-a)*(P-X))):=by
     by_cases y1:e9 n (P-b) (X-b)=0
     .rw[y1,o8,jH];by_cases y2:e9 n (P-b) (b-a)=0
      .rw[y2,o8,iY];show L
      show F.cone.add L (F.cone.mul (by lia) k)
     show F.cone.add L (F.cone.comb (by lia) H j k)
    rw[<-J]at N;have e0:-e9 n (P-a) (X-a)*(P-b)+e9 n (P-a) (X-a)*(P-b)=0:=by apply ext<;>simp<;>grind
    rw[e0]at N;show F.cone.irr N
   .
    rcases C with g|g
    .subst g;rw[t6,fU];show aBY _
    have hl:=(O.2 X d).1;have m:0<=e9 n (P-a) (b-a):=by have f:P-a=(P-b)+(b-a):=(by apply ext<;>simp<;>lia);rw[f,bA,C6];lia
    show F.weak j O.1 g (F.pl _ _ w<|hd _ t) Q (F.pl _ _ (hd _ d)<|hd _ t) m hl
  have e:Z2 n P (b::a::r)=b::a::r:=by rw[Z2,gk B]
  show{b,a::r,e,ok,λX d h=>s X b rfl d h,λa' A e'=>?_};injection e' with f _;subst f
  lia
theorem Row.push{done:V->Prop}(hd:∀X,done X->T X)(B:T P)(s:∀X,done X->Pos (P-X))(ok:ChOk n Pos done c)(H:c≠[])(I:∀X q,c.head?=some q->done X->X=q\/Pos (q-X)):
  ChOk n Pos (λX=>done X\/X=P) (P::Z2 n P c):=by
 let{q,r,e,f,t,j}:=F.ae1 hd B s c ok H (λX q t d h=>by
  rcases h with h|h
  .subst h;rw[t6,fU];show aBY _
  exfalso;rcases I X q t d with z|z
  .subst z;rw[t6]at h;show F.cone.irr h
  have:=F.cone.add h z;have u:X-q+(q-X)=0:=(by apply ext<;>simp<;>lia);rw[u]at this;show F.cone.irr this)
 rw[e];have l:=f.mem q (by simp);have i:Pos (P-q):=s q l;have m:b8 n (P-q)=0:=F.pl _ _ B (hd _ l);show{λX d=>?_,λg v=>?_,?_,λX d z O=>?_}
 .rcases aAe.mp d with h|h
  .show .inr h
  show .inl (f.mem X h)
 .rcases aAe.mp v with h|h
  .subst h;show{i,λX d=>?_};rcases d with d|d
   .rcases F.tot X q (hd _ d) (hd _ l)with z|z|z
    .subst z;show{by rw[t6,fU];show aBY _,λ_=>{.inl rfl,.inr i}}
    .show{t X d (.inr z),λ_=>{.inr z,.inr (s X d)}}
    .
     have:0<e9 n (P-q) (X-q):=by
      match r,j,f with
      |[],_,f=>
       rcases f.last X d q rfl with y|y
       .subst y;rw[t6]at z;show gs z F.cone.irr
       exfalso;have:=F.cone.add y z;have u:X-q+(q-X)=0:=(by apply ext<;>simp<;>lia);rw[u]at this;show F.cone.irr this
      |a::o,j,f=>
       have w:=j a o rfl;unfold turn at w;have J:=f.mem a (by simp);have C:=f.ed (a,q) (by simp[G0]);have E:=(C.2 X d).1;have p:X-a=(q-a)-(q-X):=(by apply ext<;>simp<;>lia);dsimp only at E;rw[p,VC,C6]at E;have L:0<=e9 n (q-X) (q-a):=by rw[j2];lia
       have:=F.cone.tr' (a:=n) z C.1 i (v9 F.nz (F.pl _ _ (hd _ l)<|hd _ d) (F.pl _ _ (hd _ l)<|hd _ J) m) L w;have x:X-q=-(q-X):=(by apply ext<;>simp<;>lia);rw[x,L8,j2];lia
     show{aAA this,λz=>by dsimp only at z;lia}
   subst d;show{by rw[C6];show aBY _,λ_=>{.inr i,.inl rfl}}
  .
   have k:=f.ed g h;show{k.1,λX d=>?_};rcases d with d|d
   .show k.2 X d
   subst d;have w:=F.ad3 hd i m (q::r) f.mem (λe v=>(f.ed e v).1) f.bend (λb a o N=>by injection N with p x;subst p;show j a o x) g h
   have Q:=(k.2 q l).1;have:0<e9 n (g.2-g.1) (X-g.1):=by have p:X-g.1=(q-g.1)+(X-q):=(by apply ext<;>simp<;>lia);rw[p,bL];lia
   show{aAA this,λz=>by lia}
 .match r,j,f with
  |[],_,_=>trivial
  |a::o,j,f=>show{j a o rfl,f.bend}
 rcases d with d|d
 .show f.last X d z (by nofun)
 subst d;have A:(q::r).getLast?=some z:=by nofun
 show .inr (s z<|f.mem z<|aCY A)
end
section
variable{n:V}{Pos:V->Prop}{T:V->Prop} (F:Row n Pos T)
include F
theorem ChOk.congr{done a:V->Prop}(ok:ChOk n Pos done c)(h:∀X,done X↔a X):ChOk n Pos a c:=
 {λX b=>(h X).mp (ok.mem X b),λe d=>{(ok.ed e d).1,λX b=>(ok.ed e d).2 X ((h X).mpr b)},ok.bend,λX b=>ok.last X ((h X).mpr b)}
theorem Row.fold:∀(rest:List V) (done:V->Prop) (c:List V),ChOk n Pos done c->c≠[]->(∀X q,c.head?=some q->done X->X=q\/Pos (q-X))->(∀X,done X->T X)->(∀X∈rest,T X)->
  (∀X Y,done X->Y∈rest->Pos (Y-X))->rest.Pairwise (λa b=>Pos (b-a))->
  ChOk n Pos (λX=>done X\/X∈rest) (rest.foldl (λc P=>P::Z2 n P c) c)/\rest.foldl (λc P=>P::Z2 n P c) c≠[]/\(∀X q,(rest.foldl (λc P=>P::Z2 n P c) c).head?=some q->(done X\/X∈rest)->X=q\/Pos (q-X)):=by
 intro o done c ok p r i j f s;cases o with
 |nil=>nofun
 |cons P rest=>
  have k:=j P (by simp);have t:=F.push i k (λX d=>f X P d (by simp)) ok p r;have l:=aAw.mp s;let{u,v,w}:=Row.fold rest (λX=>done X\/X=P) (P::Z2 n P c) t (by simp) (λX q g d=>by
   have h:P=q:=Option.some.inj g;subst h;rcases d with d|d
   .show .inr (f X P d (by simp))
   .show .inl d) (λX d=>by
   rcases d with d|d
   .show i X d
   .subst d;show k) (λX d=>j X (aAd _ d)) (λX Y d m=>by
   rcases d with d|d
   .show f X Y d (aAd _ m)
   subst d;show l.1 Y m) l.2
  have e:∀X,((done X\/X=P)\/X∈rest)↔(done X\/X∈P::rest):=λX=>by simp[or_assoc]
  show{ChOk.congr F u e,v,λX q g d=>w X q g ((e X).mpr d)}
theorem Row.ac8(k:ps≠[])(h:∀X∈ps,T X)(l:ps.Pairwise (λa b=>Pos (b-a))):
  ChOk n Pos (λX=>X∈ps) (x8 n ps)/\x8 n ps≠[]/\(∀X q,(x8 n ps).head?=some q->X∈ps->X=q\/Pos (q-X)):=by
 match ps,k with
 |p::rest,_=>
  have i:=aAw.mp l;have ok:ChOk n Pos (λX=>X=p) [p]:={λX d=>by simpa using d,λe m=>by simp[G0]at m,trivial,λX d z j=>by simp at j;subst j;show .inl d}
  let{o,r,s}:=F.fold rest (λX=>X=p) [p] ok (by simp) (λX q f d=>by have g:p=q:=Option.some.inj f;subst g;show .inl d) (λX d=>by subst d;show h _ (by simp)) (λX d=>h X (aAd _ d)) (λX Y d t=>by subst d;show i.1 Y t) i.2
  have e:∀X,(X=p\/X∈rest)↔X∈p::rest:=λX=>by simp
  show{ChOk.congr F o e,r,λX q f d=>s X q f ((e X).mpr d)}
end
def j4(n:V)(a:List V):List V:=(x8 n a).reverse.dropLast++(x8 n a.reverse).reverse.dropLast
def u6:List V->List (V×V)
 |a::b::r=>(a,b)::u6 (b::r)
 |_=>[]
theorem nZ:∀(l:List V) (a b:V),u6 (l++[a]++[b])=u6 (l++[a])++[(a,b)]
 |[],a,b=>rfl
 |[x],a,b=>rfl
 |x::y::l,a,b=>by have:=nZ (y::l) a b;erw[aBj,u6]at this⊢;rw[this]
theorem jQ:∀c:List V,u6 c.reverse=(G0 c).reverse
 |[]=>rfl
 |[_]=>rfl
 |b::a::r=>by
  have d:=jQ (a::r);rw[aBc,aBc]at*
  rw[nZ,d,G0,aBc]
theorem oF:∀(l:List V) (a:V) (m:List V),u6 (l++a::m)=u6 (l++[a])++u6 (a::m)
 |[],a,m=>by cases m<;>rfl
 |[x],a,m=>rfl
 |x::y::l,a,m=>by have:=oF (y::l) a m;erw[aBj,u6]at this⊢;rw[this]
def Z0(l:List V):List (V×V):=l.zip (l.tail++l.take 1)
theorem rX:∀(l:List V) (z:V),l.zip (l.tail++[z])=u6 (l++[z])
 |[],z=>rfl
 |[a],z=>rfl
 |a::b::r,z=>by have:=rX (b::r) z;erw[List.tail_cons,aBj,u6,aDu]at this⊢;rw[this]
def Y3:Z0 (a::l)=u6 (a::l++[a]):=rX (a::l) a
def WQ(h:x8 n a=M::c)(i:x8 n a.reverse=m::d)(q:(M::c).getLast?=some m)(j:(m::d).getLast?=some M)(k:c≠[]):
  Z0 (j4 n a)=(G0 (x8 n a)).reverse++(G0 (x8 n a.reverse)).reverse:=by
 rw[<-jQ,<-jQ];unfold j4;rw[h,i,aBc,aBc,aBP,aBP];have b:∃e,c.reverse=m::e:=by
  have:c.getLast?=some m:=by
   match c,k with
   |x::c,_=>nofun
  rw[<-aEY]at this;match l:c.reverse,this with
  |x::r,this=>show{r,by rw[show x=m from Option.some.inj this]}
 let{e,b}:=b;have f:∃g,d.reverse++[m]=M::g:=by
  have:(m::d).reverse.head?=some M:=by rw[aEY];show j
  rw[aBc]at this;match l:d.reverse++[m],this with
  |x::r,this=>show{r,by rw[show x=M from Option.some.inj this]}
 let{g,f}:=f;have o:c.reverse++d.reverse=m::(e++d.reverse):=by rw[b];rfl
 rw[o,Y3];have p:m::(e++d.reverse)++[m]=c.reverse++(d.reverse++[m]):=by rw[b];simp
 rw[p,f,oF]
def p7(a b:V):-(a-b)=b-a:=(by apply ext<;>simp<;>lia)
def o9:R9 (a-b)↔d7 (b-a):=by unfold R9;rw[p7]
def K7(h:d7 (a-a)):False:=by rw[t6]at h;show y8.irr h
def u8(h:d7 (a-b))(h':d7 (b-a)):False:=by have:=y8.add h h';have d:a-b+(b-a)=0:=(by apply ext<;>simp<;>lia);rw[d]at this;show y8.irr this
def M7(a b:V):a=b\/d7 (a-b)\/d7 (b-a):=by
 rcases aw (a-b)with h|h|h
 .show .inr (.inl h)
 .show .inl (B5 h)
 show .inr (.inr (o9.mp h))
def Btw(P Q X:V):Prop:=(d7 (Q-P)->(X=P\/d7 (X-P))/\(X=Q\/d7 (Q-X)))/\(d7 (P-Q)->(X=P\/d7 (P-X))/\(X=Q\/d7 (X-Q)))
structure EdgeOf(n:V)(T:V->Prop)(P Q:V):Prop where
 p:T P
 q:T Q
 ne:P≠Q
 left:∀X,T X->0<=e9 n (Q-P) (X-P)
 btw:∀X,T X->e9 n (Q-P) (X-P)=0->Btw P Q X
section
variable{n:V}{T:V->Prop}
def EdgeOf.next(h:EdgeOf n T P Q)(h':EdgeOf n T P R):Q=R:=by
 have k:=h.left R h'.q;have g:=h'.left Q h.q;rw[j2]at g;have i:e9 n (R-P) (Q-P)=0:=by rw[j2];lia
 have d:=h.btw R h'.q (by lia);have f:=h'.btw Q h.q i;rcases M7 Q P with e|e|e
 .show gs e.symm h.ne
 .have b:=d.1 e;have j:=b.1.resolve_left (aCA h'.ne);rcases b.2 with q|q
  .show q.symm
  rcases(f.1 j).2 with a|a
  .show a
  show(u8 q a).elim
 have b:=d.2 e;rcases b.2 with q|q
 .show q.symm
 rcases(f.2 (b.1.resolve_left (aCA h'.ne))).2 with a|a
 .show a
 show(u8 q a).elim
def sK(n P Q X:V):e9 n (Q-P) (X-P)=e9 n (Q-P) (X-Q):=by have e:X-P=(X-Q)+(Q-P):=(by apply ext<;>simp<;>lia);rw[e,bL,C6];lia
def EdgeOf.prev(h:EdgeOf n T P R)(h':EdgeOf n T Q R):P=Q:=by
 have k:=h.left Q h'.p;have l:=h'.left P h.p;have m:e9 n (R-Q) (P-Q)=-e9 n (R-P) (Q-P):=by simp[e9,b8];grind
 have i:e9 n (R-P) (Q-P)=0:=by lia
 have j:e9 n (R-Q) (P-Q)=0:=by lia
 have f:=h.btw Q h'.p i;have g:=h'.btw P h.p j;rcases M7 R P with e|e|e
 .show gs e.symm h.ne
 .have b:=f.1 e;have d:d7 (R-Q):=b.2.resolve_left h'.ne;rcases b.1 with q|q
  .show q.symm
  rcases(g.1 d).1 with a|a
  .show a
  show(u8 q a).elim
 have b:=f.2 e;have d:d7 (Q-R):=b.2.resolve_left h'.ne;rcases b.1 with q|q
 .show q.symm
 rcases(g.2 d).1 with a|a
 .show a
 show(u8 q a).elim
end
theorem qG{Pos:V->Prop}(X:V):∀(c:List V),(∀Y∈c,X=Y\/Pos (X-Y)\/Pos (Y-X))->(∀q,c.head?=some q->X=q\/Pos (q-X))->(∀z,c.getLast?=some z->X=z\/Pos (X-z))->c≠[]->
  (∀u,Pos u->Pos (-u)->False)->X∈c\/∃a b,(a,b)∈G0 c/\Pos (X-a)/\Pos (b-X)
 |[],_,_,_,h,_=>gs rfl h
 |[q],_,d,f,_,g=>by
  rcases d q rfl with e|e
  .show .inl (by simp[e])
  rcases f q rfl with i|i
  .show .inl (by simp[i])
  show(g _ e (by rw[p7];show i)).elim
 |b::a::r,j,d,f,_,g=>by
  rcases d b rfl with e|e
  .show .inl (by simp[e])
  rcases j a (by simp)with y|y|y
  .show .inl (by simp[y])
  .show .inr {a,b,by simp[G0],y,e}
  rcases qG X (a::r) (λY k=>j Y (aAd _ k)) (λq l=>by have:a=q:=Option.some.inj l;subst this;show .inr y) (λz p=>f z (by nofun)) (by simp) g with h|⟨m,n,h,o⟩
  .show .inl (aAd _ h)
  show .inr {m,n,S5 h,o}
def Row.ad9{Pos:V->Prop}{T:V->Prop}(F:Row n Pos T)(g:T a)(h:T b)(d:T P)(i:T Q)(j:Pos (P-a))(k:Pos (b-P))(l:Pos (Q-P))(m:0<=e9 n (b-a) (P-a))(f:0<e9 n (Q-P) (a-P))(o:0<=e9 n (Q-P) (b-P)):False:=by
 have p:e9 n (Q-P) (a-P)=e9 n (P-a) (Q-P):=by have e:a-P=-(P-a):=(p7 _ _).symm;rw[e,L8,j2];lia
 rw[p]at f;have:=F.cone.tr j l k (v9 F.nz (F.pl _ _ d g) (F.pl _ _ i d)<|F.pl _ _ h d) f o;have q:b-a=(b-P)+(P-a):=(by apply ext<;>simp<;>lia);rw[q,bA,C6,j2]at m
 lia
structure Sheet(n:V)(ts:List V):Prop where
 nz:n≠0
 pl:∀X∈ts,∀Y∈ts,b8 n (X-Y)=0
 ord:ts.Pairwise (λa b=>d7 (b-a))
 two:∃X∈ts,∃Y∈ts,X≠Y
section
variable{n:V}{ts:List V} (S:Sheet n ts)
include S
theorem Sheet.row:Row n d7 (λX=>X∈ts):={y8,S.nz,λX Y a b=>S.pl X a Y b,λX Y _ _=>M7 X Y}
theorem Sheet.ae9:Row n R9 (λX=>X∈ts):=⟨aZ,S.nz,λX Y a b=>S.pl X a Y b,λX Y _ _=>by
 rcases M7 X Y with h|h|h
 .show .inl h
 .show .inr (.inr (o9.mpr h))
 show .inr (.inl (o9.mpr h))⟩
theorem Sheet.ne:ts≠[]:=by let{X,a,_}:=S.two;grind
theorem Sheet.ab3:ChOk n d7 (λX=>X∈ts) (x8 n ts)/\x8 n ts≠[]/\(∀X q,(x8 n ts).head?=some q->X∈ts->X=q\/d7 (q-X)):=
 S.row.ac8 S.ne (λ_ h=>h) S.ord
theorem Sheet.ab2:ChOk n R9 (λX=>X∈ts) (x8 n ts.reverse)/\x8 n ts.reverse≠[]/\(∀X q,(x8 n ts.reverse).head?=some q->X∈ts->X=q\/R9 (q-X)):=by
 have h:=S.ae9.ac8 (ps:=ts.reverse) (by exists S.ne) (λX h=>by exists h) (by rw[aEt];show S.ord.imp o9.mpr)
 let{a,b,d}:=h;show{ChOk.congr S.ae9 a λX=>by simp,b,λX q e f=>d X q e (by nofun)}
theorem Sheet.ae2(h:(a,b)∈G0 (x8 n ts))(i:a∈ts)(j:b∈ts):EdgeOf n (λX=>X∈ts) a b/\d7 (b-a):=by let{d,f}:=S.ab3.1.ed _ h;dsimp only at d f;show{{i,j,λe=>by subst e;show K7 d,λX g=>(f X g).1,λX g z=>{λ_=>(f X g).2 z,λy=>(u8 d y).elim}},d}
theorem Sheet.ae6(h:(a,b)∈G0 (x8 n ts.reverse))(j:a∈ts)(k:b∈ts):EdgeOf n (λX=>X∈ts) a b/\d7 (a-b):=by let{i,d}:=S.ab2.1.ed _ h;dsimp only at i d;have f:=o9.mp i;show{{j,k,λe=>by subst e;show K7 f,λX g=>(d X g).1,λX g z=>{λy=>(u8 f y).elim,λ_=>?_}},f};let{l,m}:=(d X g).2 z;show{l.imp id o9.mp,m.imp id o9.mp}
theorem N3(h:(a,b)∈G0 c):a∈c/\b∈c:=by
 induction c with
 |nil=>cases h
 |cons x c d=>
  match c,h,d with
  |[],h,_=>cases h
  |y::r,h,d=>
   rcases aAe.mp h with e|e
   .cases e;simp
   have:=d e;show{aAd _ this.1,aAd _ this.2}
theorem Sheet.ends:∃m M c d,m∈ts/\M∈ts/\d7 (M-m)/\(∀X∈ts,X=m\/d7 (X-m))/\(∀X∈ts,X=M\/d7 (M-X))/\x8 n ts=M::c/\x8 n ts.reverse=m::d/\(M::c).getLast?=some m/\(m::d).getLast?=some M/\c≠[]/\d≠[]:=by
 let{l,u,v}:=S.ab3;let{o,w,x}:=S.ab2;let{M,c,b}:=aES u;let{m,d,f}:=aES w;have p:M∈ts:=l.mem M (by rw[b];simp);have s:m∈ts:=o.mem m (by rw[f];simp);have q:=λX g=>v X M (by rw[b];rfl) g;have h:=λX g=>(x X m (by rw[f];rfl) g).imp id o9.mp;obtain⟨z,i⟩:∃z,(M::c).getLast?=some z:=by simp[aEZ]
 obtain⟨y,j⟩:∃z,(m::d).getLast?=some z:=by simp[aEZ]
 have A:z=m:=by
  rcases l.last m s z (b▸i)with e|e
  .show e.symm
  rcases h z (l.mem z<|b▸aCY i)with a|a
  .show a
  show(u8 e a).elim
 have B:y=M:=by
  rcases o.last M p y (f▸j)with e|e
  .show e.symm
  rcases q y (o.mem y<|f▸aCY j)with a|a
  .show a
  show(u8 (o9.mp e) a).elim
 subst A B;have r:d7 (y-z):=by
  let{X,g,Y,C,ne}:=S.two;rcases h y p with e|e
  .exfalso;subst e;have k:∀W∈ts,W=y:=λW t=>by
    rcases h W t with e|e
    .show e
    rcases q W t with a|a
    .show a
    show(u8 e a).elim
   show ne ((k X g).trans (k Y C).symm)
  show e
 show{z,y,c,d,s,p,r,h,q,b,f,i,j,λe=>?_,λe=>?_}
 .subst e;have:y=z:=by exists i
  subst this;show K7 r
 subst e;have:z=y:=by exists j
 subst this;show K7 r
theorem Sheet.pair(h:(P,Q)∈Z0 (j4 n ts)):EdgeOf n (λX=>X∈ts) P Q:=by
 let{m,M,c,d,i,j,k,l,o,a,b,e,f,g,p}:=S.ends;rw[WQ a b e f g,aAO,aBt,aBt]at h;rcases h with h|h
 .have:=N3 S h;show(S.ae2 h (S.ab3.1.mem _ this.1)<|S.ab3.1.mem _ this.2).1
 have:=N3 S h;show(S.ae6 h (S.ab2.1.mem _ this.1)<|S.ab2.1.mem _ this.2).1
theorem V7(h:P∈l):∃Q,(P,Q)∈Z0 l:=by
 let{i,b,e}:=aBq h;have d:l.length=(l.tail++l.take 1).length:=by
  match l,b with
  |a::l,_=>simp
 show{(l.tail++l.take 1)[i]'(by lia),?_};unfold Z0;show List.mem_of_getElem (i:=i) (h:=by rw[List.length_zip];lia) ?_;rw[List.getElem_zip,e]
theorem Sheet.ab0(h:EdgeOf n (λX=>X∈ts) P Q):P∈j4 n ts:=by
 let{m,M,c,d,T,U,mM,C,E,A,B,h3,h4,hc,hd}:=S.ends;let{o,H,I}:=S.ab3;let{i,J,L}:=S.ab2;unfold j4;rw[aAO,A,B,aBc,aBc,aBP,aBP,aBt,aBt];rcases M7 Q P with e|e|e
 .show gs e.symm h.ne
 .
  left;rcases qG P (x8 n ts) (λY _=>M7 P Y) (λq s=>I P q s h.p) (λz t=>o.last P h.p z t) H (λu a b=>by have:=y8.add a b;have v:u+-u=0:=(by apply ext<;>simp<;>lia);rw[v]at this;show y8.irr this)with r|⟨a,b,r,g,w⟩
  .rw[A]at r;rcases aAe.mp r with q|q
   .subst q;rcases E Q h.q with y|y
    .show gs y.symm h.ne
    show(u8 e y).elim
   show q
  exfalso;have j:=N3 S r;have f:=o.mem _ j.1;have k:=o.mem _ j.2;have N:=h.left a f;have x:e9 n (Q-P) (a-P)≠0:=λz=>by
   rcases((h.btw a f z).1 e).1 with y|y
   .subst y;show K7 g
   show u8 g y
  show S.row.ad9 f k h.p h.q g w e ((o.ed _ r).2 P h.p).1 (by lia) (h.left b k)
 right;rcases qG P (x8 n ts.reverse) (λY _=>S.ae9.tot P Y h.p (by rename_i O;show i.mem Y O)) (λq s=>L P q s h.p) (λz t=>i.last P h.p z t) J (λu a b=>by have:=aZ.add a b;have v:u+-u=0:=(by apply ext<;>simp<;>lia);rw[v]at this;show aZ.irr this)with r|⟨a,b,r,g,w⟩
 .rw[B]at r;rcases aAe.mp r with q|q
  .subst q;rcases C Q h.q with y|y
   .show gs y.symm h.ne
   show(u8 e y).elim
  show q
 exfalso;have j:=N3 S r;have f:=i.mem _ j.1;have k:=i.mem _ j.2;have N:=h.left a f;have l:=o9.mp g;have x:e9 n (Q-P) (a-P)≠0:=λz=>by
  rcases((h.btw a f z).2 e).1 with y|y
  .subst y;show K7 l
  show u8 l y
 show S.ae9.ad9 f k h.p h.q g w (o9.mpr e) ((i.ed _ r).2 P h.p).1 (by lia) (h.left b k)
theorem Sheet.aa1:(P,Q)∈Z0 (j4 n ts)↔EdgeOf n (λX=>X∈ts) P Q:=by
 show{S.pair,λh=>?_};let{R,a}:=V7 S (S.ab0 h);have:=(S.pair a).next h
 subst this;show a
end
theorem Q3{Pos:V->Prop}(C:Cone Pos):∀(c:List V),(∀e∈G0 c,Pos (e.2-e.1))->c.Pairwise (λb a=>Pos (b-a))
 |[],_=>aFq
 |[x],_=>aEb _ _
 |b::a::r,h=>by
  have d:=Q3 C (a::r) (λe g=>h e (S5 g));have f:=h (a,b) (by simp[G0]);show aAw.mpr {λy i=>?_,d};rcases aAe.mp i with e|e
  .subst e;show f
  have:=(aAw.mp d).1 y e;have s:=C.add f this;have j:b-a+(a-y)=b-y:=(by apply ext<;>simp<;>lia)
  nofun
theorem lY:∀{h:V}{c:List V}{X:V},X∈c->∃b,(X,b)∈G0 (h::c):=by
 intro h f X d;cases f with
 |nil=>cases d
 |cons a r=>
  rcases aAe.mp d with e|e
  .subst e;show{h,by simp[G0]}
  let{b,g}:=lY e;show{b,S5 g}
section
variable{n:V}{ts:List V} (S:Sheet n ts)
include S
theorem Sheet.aa3(h:X∈j4 n ts):X∈ts:=by let{Q,a}:=V7 S h;show(S.pair a).p
theorem Sheet.aa4:(j4 n ts).Nodup:=by
 let{m,M,c,d,B,C,E,H,I,f,g,J,L,N,O}:=S.ends;let{i,Q,T}:=S.ab3;let{j,U,Y}:=S.ab2;unfold j4;rw[f,g,aBc,aBc,aBP,aBP];have p:=Q3 y8 (x8 n ts) λe k=>(i.ed e k).1;have q:=Q3 aZ (x8 n ts.reverse) λe k=>(j.ed e k).1;rw[f]at p;rw[g]at q;rw[aCH];show{?_,?_,?_}
 .rw[aCi,aEt];show((aAw.mp p).2).imp λ{a b} h e=>by subst e;show K7 h
 .rw[aCi,aEt];show((aAw.mp q).2).imp λ{a b} h e=>by subst e;show K7 (o9.mp h)
 intro x r y s e;subst e;rw[aBt]at r s;let{b,l}:=lY r;let{b',o}:=lY s;rw[<-f]at l;rw[<-g]at o;have t:=N3 S l;have u:=N3 S o;let{v,w}:=S.ae2 l (i.mem _ t.1) (i.mem _ t.2);let{z,A}:=S.ae6 o (j.mem _ u.1) (j.mem _ u.2);have:=v.next z;subst this;show u8 w A
theorem Sheet.ab1:∃m r,j4 n ts=m::r/\m∈ts/\∀X∈ts,X=m\/d7 (X-m):=by
 let{m,M,c,d,e,h,i,f,j,k,l,o,p,g,q}:=S.ends;have b:∃a,c.reverse=m::a:=by
  have:c.getLast?=some m:=by
   match c,g with
   |x::c,_=>nofun
  rw[<-aEY]at this;match s:c.reverse,this with
  |x::r,this=>show{r,by rw[show x=m from Option.some.inj this]}
 let{a,b}:=b;show{m,a++d.reverse,?_,e,f};unfold j4;grind
theorem rP(h:Q∈l):∃P,(P,Q)∈Z0 l:=by
 match l,h with
 |a::r,h=>
  have b:Q∈r++[a]:=by simpa[or_comm]using h
  let{i,d,e}:=aBq b;have f:i<(a::r).length:=by exists d
  show{(a::r)[i],?_};change _∈(a::r).zip (r++[a]);show List.mem_of_getElem (h:=by rw[List.length_zip];simp;omega) ?_
  nofun
theorem gP(h:(P,Q)∈Z0 l):P∈l/\Q∈l:=by
 have b:=aEI h;show{b.1,?_};match l,b.2 with
 |a::r,z=>simpa[or_comm]using z
theorem Sheet.strict(h:EdgeOf n (λX=>X∈ts) P Q)(A:X∈j4 n ts)(t:X≠P)(u:X≠Q):0<e9 n (Q-P) (X-P):=by
 have d:=S.aa3 A;have H:=h.left X d;by_cases z:e9 n (Q-P) (X-P)=0
 .exfalso;have b:=h.btw X d z;let{Y,C}:=V7 S A;have g:=S.pair C;have v:=g.left P h.p;have m:=g.left Q h.q;rcases M7 Q P with e|e|e
  .show h.ne e.symm
  .have o:=b.1 e;have f:=o.1.resolve_left t;have i:=o.2.resolve_left u;have E:e9 n (X-P) (Q-X)=0:=by have a:Q-P=(Q-X)+(X-P):=(by apply ext<;>simp<;>lia);rw[a,bA,C6,j2]at z;lia
   have r:0<=e9 n (X-P) (Y-X):=by have a:P-X=-(X-P):=(p7 _ _).symm;rw[a,L8]at v;rw[j2];omega
   rcases M7 Y X with y|y|y
   .show g.ne y.symm
   .have I:=S.row.weak f y i (S.pl _ d _ h.p) (S.pl _ g.q _ d) (S.pl _ h.q _ d) r m;by_cases j:0<e9 n (X-P) (Y-X)
    .have:=y8.tr f y i (v9 S.nz (S.pl _ d _ h.p) (S.pl _ g.q _ d)<|S.pl _ h.q _ d) j m
     lia
    have l:e9 n (Y-X) (P-X)=0:=by have a:P-X=-(X-P):=(p7 _ _).symm;rw[a,L8,j2];lia
    rcases((g.btw P h.p l).1 y).1 with k|k
    .show t k.symm
    show u8 k f
   have s:d7 (X-Y):=y;have B:0<=e9 n (X-Y) (X-P):=by have a:Y-X=-(X-Y):=(p7 _ _).symm;rw[a,L8,j2]at r;lia
   have w:0<=e9 n (Q-X) (X-Y):=by have a:Y-X=-(X-Y):=(p7 _ _).symm;rw[a,bP,j2]at m;lia
   by_cases j:0<e9 n (Q-X) (X-Y)
   .have:=y8.tr i s f (v9 S.nz (S.pl _ h.q _ d) (S.pl _ d _ g.q)<|S.pl _ d _ h.p) j B;rw[j2]at this;lia
   have l:e9 n (Y-X) (Q-X)=0:=by have a:Y-X=-(X-Y):=(p7 _ _).symm;rw[a,bP,j2];lia
   rcases((g.btw Q h.q l).2 s).1 with k|k
   .show u k.symm
   show u8 k i
  have o:=b.2 e;have f:=o.1.resolve_left t;have i:=o.2.resolve_left u;have E:e9 n (P-X) (X-Q)=0:=by have a:Q-P=-((P-X)+(X-Q)):=(by apply ext<;>simp<;>lia);have x:X-P=-(P-X):=(p7 _ _).symm;rw[a,x,bP,L8,bA,C6,j2]at z;lia
  rcases M7 Y X with y|y|y
  .show g.ne y.symm
  .
   have w:0<=e9 n (X-Q) (Y-X):=by have a:Q-X=-(X-Q):=(p7 _ _).symm;rw[a,L8,j2]at m;lia
   by_cases j:0<e9 n (X-Q) (Y-X)
   .have:=y8.tr i y f (v9 S.nz (S.pl _ d _ h.q) (S.pl _ g.q _ d)<|S.pl _ h.p _ d) j v;rw[j2]at this;lia
   have l:e9 n (Y-X) (Q-X)=0:=by have a:Q-X=-(X-Q):=(p7 _ _).symm;rw[a,L8,j2];lia
   rcases((g.btw Q h.q l).1 y).1 with k|k
   .show u k.symm
   show u8 k i
  have s:d7 (X-Y):=y;have B:0<=e9 n (P-X) (X-Y):=by have a:Y-X=-(X-Y):=(p7 _ _).symm;rw[a,bP,j2]at v;lia
  have w:0<=e9 n (X-Y) (X-Q):=by have a:Y-X=-(X-Y):=(p7 _ _).symm;have x:Q-X=-(X-Q):=(p7 _ _).symm;rw[a,x,bP,L8]at m;lia
  by_cases j:0<e9 n (P-X) (X-Y)
  .have:=y8.tr f s i (v9 S.nz (S.pl _ h.p _ d) (S.pl _ d _ g.q)<|S.pl _ d _ h.q) j w
   lia
  have l:e9 n (Y-X) (P-X)=0:=by have a:Y-X=-(X-Y):=(p7 _ _).symm;rw[a,bP,j2];lia
  rcases((g.btw P h.p l).2 s).1 with k|k
  .show t k.symm
  show u8 k f
 lia
end
def kW{a:V}(h:a≠0):a.x≠0\/a.y≠0\/a.z≠0:=by
 by_cases p:a.x=0
 .by_cases q:a.y=0
  .by_cases r:a.z=0
   .show gs (ext p q r) h
   show .inr (.inr r)
  show .inr (.inl q)
 show .inl p
def w6{a w:V}(d:a≠0)(h:cr a w=0):∃k m:Int,0<k/\k*w=m*a:=by
 have f:=gn V.x h;have g:=gn V.y h;have i:=gn V.z h;simp at f g i;have b:∀k m:Int,k≠0->k*w=m*a->∃k m:Int,0<k/\k*w=m*a:=λk m o e=>by
  by_cases p:0<k
  .show{k,m,p,e}
  show{-k,-m,by lia,?_};have j:=gn V.x e;have l:=gn V.y e;have n:=gn V.z e;simp at j l n;apply ext<;>simp<;>grind
 rcases kW d with p|p|p
 .show b a.x w.x p (by apply ext<;>simp<;>grind)
 .show b a.y w.y p (by apply ext<;>simp<;>grind)
 show b a.z w.z p (by apply ext<;>simp<;>grind)
def ConeM.ad5{Pos:V->Prop}(C:ConeM a Pos)(d:a≠0)(f:Pos w):cr a w≠0:=λh=>by
 let{k,m,g,e}:=w6 d h;have b:=C.inv (-m) (C.mul g f);rw[e]at b;have i:m*a+-m*a=0:=by apply ext<;>simp<;>grind
 rw[i]at b;show C.irr b
def I0(a A:V):List V->V->V->V×V
 |[],d,b=>(d,b)
 |P::e,d,b=>if d=0\/0<b8 d (P-A)then I0 a A e (cr a (P-A)) P else I0 a A e d b
def ZZ(a A:V)(Pos:V->Prop)(seen:V->Prop)(d b:V):Prop:=
 (d=0/\∀P,seen P->cr a (P-A)=0)\/(seen b/\Pos (b-A)/\d=cr a (b-A)/\∀P,seen P->e9 a (b-A) (P-A)<=0)
def lK(h:cr a w=0)(u:V):e9 a u w=0:=by
 have e:e9 a u w=-b8 (cr a w) u:=by simp[e9,b8];grind
 rw[e,h];simp[b8]
theorem vZ{Pos:V->Prop}(C:ConeM a Pos)(n:a≠0):∀(J:List V) (seen:V->Prop) (d f:V),ZZ a A Pos seen d f->(∀P,seen P->Pos (P-A)\/cr a (P-A)=0)->(∀P∈J,Pos (P-A)\/cr a (P-A)=0)->
  ZZ a A Pos (λP=>seen P\/P∈J) (I0 a A J d f).1 (I0 a A J d f).2:=by
 intro w seen d f h o p;cases w with
 |nil=>
  change ZZ a A Pos _ d f;rcases h with⟨i,g⟩|⟨i,g,j,k⟩
  .show .inl {i,λP b=>g P (by exists b)}
  show .inr {.inl i,g,j,λP b=>k P (by exists b)}
 |cons Q J=>
  have l:=p Q (by simp);have YE:ZZ a A Pos (λP=>seen P\/P=Q) (if d=0\/0<b8 d (Q-A)then(cr a<|Q-A)else d) (if d=0\/0<b8 d (Q-A)then Q else f):=by
   rcases h with⟨i,g⟩|⟨i,g,j,k⟩
   .rw[gi (.inl i),gi (.inl i)];by_cases z:cr a (Q-A)=0
    .show .inl ⟨z,λP b=>by
      rcases b with b|b
      .show g P b
      subst b;show z⟩
    show .inr {.inr rfl,l.resolve_right z,rfl,λP b=>?_};rcases b with b|b
    .rw[lK (g P b)];show aBY _
    subst b;rw[C6];show aBY _
   have s:d≠0:=by rw[j];show C.ad5 n g
   have t:b8 d (Q-A)=e9 a (f-A) (Q-A):=by rw[j,M2]
   by_cases z:0<b8 d (Q-A)
   .rw[gi (.inr z),gi (.inr z)];have u:Pos (Q-A):=by
     rcases l with q|q
     .show q
     rw[t,lK q]at z;lia
    show .inr {.inr rfl,u,rfl,λP b=>?_};rcases b with b|b
    .by_cases v:e9 a (Q-A) (P-A)<=0
     .show v
     exfalso;have m:Pos (P-A):=by
      rcases o P b with q|q
      .show q
      rw[lK q]at v;lia
     have:=C.tr g u m (t▸z) (by lia);have:=k P b
     lia
    subst b;rw[C6];show aBY _
   rw[gk (by rintro(q|q);show s q;show z q),gk (by rintro(q|q);show s q;show z q)];show .inr {.inl i,g,j,λP b=>?_};rcases b with b|b
   .show k P b
   nofun
  have r:=vZ C n J (λP=>seen P\/P=Q) _ _ YE (λP b=>by
   rcases b with b|b
   .show o P b
   subst b;show l) (λP b=>p P (aAd _ b))
  have e:I0 a A (Q::J) d f=I0 a A J (if d=0\/0<b8 d (Q-A)then(cr a<|Q-A)else d) (if d=0\/0<b8 d (Q-A)then Q else f):=by rw[I0];split<;>rfl
  rw[e];have x:(λP=>(seen P\/P=Q)\/P∈J)=(λP=>seen P\/P∈Q::J):=by funext P;simp[or_assoc]
  rw[<-x];show r
def QX{Pos:V->Prop}(C:ConeM a Pos)(e:a≠0)(g:∀P∈J,Pos (P-A)\/cr a (P-A)=0)(i:∃P∈J,Pos (P-A)):
  (I0 a A J 0 A).2∈J/\Pos ((I0 a A J 0 A).2-A)/\∀P∈J,e9 a ((I0 a A J 0 A).2-A) (P-A)<=0:=by
 rcases(vZ C e J (λ_=>False) 0 A (.inl ⟨rfl,λ_ h=>h.elim⟩) (λ_ h=>h.elim) g)with⟨f,b⟩|⟨f,b,l,j⟩
 .let{P,d,k}:=i;show gs (b P<|.inr d) (C.ad5 e k)
 show{by simpa using f,b,λP d=>j P (.inr d)}
def m8(v:V):Nat:=Nat.gcd (Nat.gcd v.x.natAbs v.y.natAbs) v.z.natAbs
def jT(v:V)(g:Int):V:={v.x/g,v.y/g,v.z/g}
def Z1(n:V):Prop:=m8 n=1
def qT(k:Int)(v:V):m8 (k*v)=k.natAbs*m8 v:=by unfold m8;simp[Int.natAbs_mul,Nat.gcd_mul_left]
def fW(h:m8 v=0):v=0:=by have a:=Nat.gcd_eq_zero_iff.mp h;have b:=Nat.gcd_eq_zero_iff.mp a.1;show ext (aFa.mp b.1) (aFa.mp b.2) (aFa.mp a.2)
def DP(v:V):(m8 v:Int)∣v.x/\(m8 v:Int)∣v.y/\(m8 v:Int)∣v.z:={(aFb.mpr<|Nat.dvd_trans (aFE _ _)<|aFE _ _),(aFb.mpr<|Nat.dvd_trans (aFE _ _)<|Nat.gcd_dvd_right _ _),(aFb.mpr<|Nat.gcd_dvd_right _ _)}
def mI(h:c≠0):0<(m8 c:Int)/\c=(m8 c:Int)*jT c (m8 c)/\Z1 (jT c (m8 c)):=by
 have g:=λz=>h (fW z);let{a,b,d}:=DP c;have e:c=(m8 c:Int)*jT c (m8 c):=by
  apply ext
  .change _=_*(c.x/_);rw[aEB a]
  .change _=_*(c.y/_);rw[aEB b]
  change _=_*(c.z/_);rw[aEB d]
 show{(by lia),e,?_};have:=gn m8 e;rw[qT]at this;erw[Int.natAbs_natCast]at this;have f:m8 c*1=m8 c*m8 (jT c<|m8 c):=by lia
 show(Nat.eq_of_mul_eq_mul_left (by lia) f).symm
def Z1.ne(h:Z1 n):n≠0:=λe=>by subst e;unfold Z1 at h;show gs h (by symm)
def kK{n m:V}{k l:Int}(b:Z1 n)(d:Z1 m)(h:0<k)(i:0<l)(e:k*n=l*m):n=m:=by
 have:=gn m8 e;rw[qT,qT,b,d]at this;have a:k=l:=by lia
 subst a;have f:=gn V.y e;have g:=gn V.z e;show ext (aCm (by lia)<|gn V.x e) (aCm (by lia) f) (aCm (by lia) g)
def c9(P Q R:V):V×Int:=let n:=jT (cr (Q-P)<|R-P) (m8<|cr (Q-P)<|R-P);(n,b8 n P)
structure IsFace(J:List V)(n:V)(d:Int):Prop where
 prim:Z1 n
 sup:∀X∈J,b8 n X<=d
 three:∃A∈J,∃B∈J,∃C∈J,b8 n A=d/\b8 n B=d/\b8 n C=d/\cr (B-A) (C-A)≠0
def A7(a:b8 n u=0)(b:b8 n v=0):cr n (cr u v)=0:=by simp[b8]at a b;apply ext<;>simp<;>grind
def DY{a A U W:V}(h:cr a (U-A)=0)(k:cr a (W-A)=0):cr (U-W) a=0:=by have b:=gn V.x h;have d:=gn V.y h;have e:=gn V.z h;have f:=gn V.x k;have g:=gn V.y k;have i:=gn V.z k;simp at b d e f g i;apply ext<;>simp<;>grind
def dS(f:c≠0)(b:cr n c=0)(d:cr m c=0):cr n m=0:=by
 have h:cr c n=0:=by have:=gn V.x b;have:=gn V.y b;have:=gn V.z b;simp at*;apply ext<;>simp<;>grind
 have i:cr c m=0:=by have:=gn V.x d;have:=gn V.y d;have:=gn V.z d;simp at*;apply ext<;>simp<;>grind
 let{k,p,r,j}:=w6 f h;let{l,q,s,o}:=w6 f i;have e:(k*l)*cr n m=0:=by
  have:(k*l)*cr n m=cr (k*n) (l*m):=by apply ext<;>simp<;>grind
  rw[this,j,o];apply ext<;>simp<;>grind
 have a:k*l≠0:=λz=>by rcases aAr.mp z with q|q<;>lia
 have b:=gn V.x e;have d:=gn V.y e;have g:=gn V.z e;simp at b d g;show ext ((aAr.mp b).resolve_left a) ((aAr.mp d).resolve_left a) ((aAr.mp g).resolve_left a)
def kO{J:List V}{n m:V}{d e:Int}(g:Z1 n)(a:Z1 m)(x:∀X∈J,b8 n X<=d)(h:∀X∈J,b8 m X<=e){A B C Z:V}(y:b8 n A=d)(E:b8 n B=d)(H:b8 n C=d)(i:b8 m A=e)(j:b8 m B=e)(o:b8 m C=e)
  (p:cr (B-A) (C-A)≠0) (r:Z∈J) (hz:b8 n Z<d):n=m/\d=e:=by
 have s:cr n (cr (B-A)<|C-A)=0:=A7 (by rw[c8];lia) (by rw[c8];lia);have t:cr m (cr (B-A)<|C-A)=0:=A7 (by rw[c8];lia) (by rw[c8];lia);let{k,l,b,f}:=w6 a.ne (dS p t s);have u:0<l:=by
  have q:=gn (λv=>b8 v (Z-A)) f;rw[y7,y7]at q;have w:b8 n (Z-A)<0:=by rw[c8];lia
  have I:b8 m (Z-A)<=0:=by rw[c8];have:=h Z r;lia
  have L:=aAv b w;by_cases z:0<l
  .show z
  exfalso;have:0<=l*b8 m (Z-A):=by
   have:=aAS (show 0<=-l by lia) (show 0<=-b8 m (Z-A)by lia)
   rwa [aDA]at this
  lia
 have N:=kK g a b u f;grind
def b7(A B:V)(J:List V):V×Int:=c9 A B (I0 (B-A) A J 0 A).2
def m7(n:V)(d:Int)(J:List V):List V:=J.filter λX=>decide (b8 n X=d)
def c5:X∈m7 n d J↔X∈J/\b8 n X=d:=by simp[m7]
def Y0(h:cr (Q-P) (R-P)≠0):∃g:Int,0<g/\cr (Q-P) (R-P)=g*(c9 P Q R).1/\Z1 (c9 P Q R).1/\(c9 P Q R).2=b8 (c9 P Q R).1 P:=by let{a,b,d}:=mI h;show{_,a,b,d,rfl}
def L7{Pos:V->Prop}(C:ConeM (B-A) Pos)(d:B-A≠0)(n:∀P∈J,Pos (P-A)\/cr (B-A) (P-A)=0)(o:∃P∈J,Pos (P-A)):
  ∃(a:V) (g:Int),a∈J/\Pos (a-A)/\0<g/\cr (B-A) (a-A)=g*(b7 A B J).1/\Z1 (b7 A B J).1/\(b7 A B J).2=b8 (b7 A B J).1 A/\
   (∀P∈J,b8 (b7 A B J).1 P<=(b7 A B J).2)/\b8 (b7 A B J).1 B=(b7 A B J).2/\b8 (b7 A B J).1 a=(b7 A B J).2/\
   (∀P∈J,b8 (b7 A B J).1 P=(b7 A B J).2->e9 (B-A) (a-A) (P-A)=0):=by
 let{p,f,q}:=QX C d n o;let{g,i,j,r,k}:=Y0 (C.ad5 d f);have b:∀w:V,g*b8 (b7 A B J).1 w=e9 (B-A) ((I0 (B-A) A J 0 A).2-A) w:=λw=>by have:b8 (cr (B-A)<|(I0 (B-A) A J 0 A).2-A) w=e9 (B-A) ((I0 (B-A) A J 0 A).2-A) w:=M2 _ _ _;rw[<-this,j,y7];rfl
 have t:(b7 A B J).2=b8 (b7 A B J).1 A:=k;have l:∀w:V,e9 (B-A) ((I0 (B-A) A J 0 A).2-A) w=0->b8 (b7 A B J).1 w=0:=λw s=>by have:=b w;rw[s]at this;show(aAr.mp this).resolve_left (by lia)
 show{_,g,p,f,i,j,r,k,λP m=>?_,?_,?_,λP m e=>?_}
 .have h:=q P m;rw[<-b]at h;have:b8 (b7 A B J).1 (P-A)<=0:=by
   by_cases z:b8 (b7 A B J).1 (P-A)<=0
   .show z
   have:=aAY i (show 0<b8 (b7 A B J).1 (P-A)by lia)
   lia
  rw[c8]at this
  lia
 .have:=l (B-A) (by simp[e9,b8];grind);rw[c8]at this;lia
 .have:=l ((I0 (B-A) A J 0 A).2-A) (C6 _ _);rw[c8]at this;lia
 rw[<-b,c8];grind
def qZ{Pos:V->Prop}(C:ConeM a Pos)(d:a≠0)(e:Pos o)(f:Pos w)(h:e9 a o w=0):0<b8 (cr a o) (cr a w):=by
 by_cases z:0<b8 (cr a o) (cr a w)
 .show z
 exfalso;have g:Pos (b8 (cr a o) (cr a o)*w+(-b8 (cr a o) (cr a w))*o):=C.comb (t5<|C.ad5 d e) (by lia) f e;show C.ad5 d g ?_;have b:cr (cr a o) (cr a w)=e9 a o w*a:=by simp[e9,b8];apply ext<;>simp<;>grind
 rw[h,o8]at b;have i:cr a (b8 (cr a o) (cr a o)*w+(-b8 (cr a o) (cr a w))*o)=b8 (cr a o) (cr a o)*cr a w+(-b8 (cr a o) (cr a w))*cr a o:=by apply ext<;>simp<;>grind
 rw[i];have j:∀p q:V,b8 p p*q+(-b8 p q)*p=cr p (cr q p):=λp q=>by simp[b8];apply ext<;>simp<;>grind
 rw[j];have k:cr (cr a w) (cr a o)=0:=by have l:=gn V.x b;have m:=gn V.y b;have n:=gn V.z b;simp at l m n;apply ext<;>simp<;>grind
 rw[k];apply ext<;>simp
def Btw.symm(h:Btw P Q X):Btw Q P X:={λa=>{(h.2 a).2,(h.2 a).1},λa=>{(h.1 a).2,(h.1 a).1}}
def nS(i:n≠0)(d:b8 n (a-b)=0):ConeM (a-b) (λw=>b8 n w<0\/(b8 n w=0/\0<e9 n (b-a) w))where
 add:=λ{u v} j l=>by
  rw[k5,bL]
  lia
 mul:=λ{k u} f h=>by
  rw[f7,DA];rcases h with h|⟨h,g⟩
  .show .inl (aAv f h)
  show .inr {by rw[h];simp,aAY f g}
 irr:=by rw[A1,fU];lia
 inv:=λ{u} k h=>by
  have e:e9 n (b-a) (a-b)=0:=by have:a-b=-(b-a):=(p7 _ _).symm;rw[this,L8,C6];rfl
  rw[k5,bL,f7,DA,d,e];exists h
def M9(a:n≠0)(b:b8 n u=0)(d:b8 n w=0)(h:e9 n u w=0):cr u w=0:=by
 let{k,m,f,e}:=w6 a (A7 b d);have q:=gn (b8 n) e;rw[f7,f7]at q;have:b8 n (cr u w)=0:=h;rw[this]at q;have g:m=0:=by
  have:=t5 a;have i:m*b8 n n=0:=by lia
  rcases aAr.mp i with z|z
  .show z
  lia
 rw[g,o8]at e;show wP f e
def kR(h:cr u w=0):cr (-u) w=0:=by have a:=gn V.x h;have b:=gn V.y h;have d:=gn V.z h;simp at a b d;apply ext<;>simp<;>grind
def lT(A:n≠0)(Q:∀X∈J,b8 n X<=d)(hz:∃Z∈J,b8 n Z<d)(h:EdgeOf n (λX=>X∈m7 n d J) a b):
  IsFace J (b7 b a J).1 (b7 b a J).2/\EdgeOf (b7 b a J).1 (λX=>X∈m7 (b7 b a J).1 (b7 b a J).2 J) b a:=by
 let{B,da}:=c5.mp h.p;let{pb,db}:=c5.mp h.q;have j:b8 n (a-b)=0:=by rw[c8];lia
 have s:b8 n (b-a)=0:=by rw[c8];lia
 have C:=nS (n:=n) A j;have o:a-b≠0:=λe=>h.ne (B5 e);have t:∀P∈J,(b8 n (P-b)<0\/(b8 n (P-b)=0/\0<e9 n (b-a) (P-b)))\/cr (a-b) (P-b)=0:=λP E=>by
  have h1:=Q P E;by_cases z:b8 n P<d
  .show .inl (.inl (by rw[c8];lia))
  have e:b8 n P=d:=by lia
  have l:=h.left P (c5.mpr {E,e});rw[sK]at l;have H:b8 n (P-b)=0:=by rw[c8];lia
  by_cases y:0<e9 n (b-a) (P-b)
  .show .inl (.inr {H,y})
  have T:e9 n (b-a) (P-b)=0:=by lia
  have:=kR (M9 A s H T);rw[p7]at this;show .inr this
 let{Z,U,hz}:=hz;let{f,g,Y,u,g0,I,gp,L,v,N,sO,O}:=L7 C o t {Z,U,.inl (by rw[c8];lia)};show{{gp,v,b,pb,a,B,f,Y,L.symm,N,sO,C.ad5 o u},{c5.mpr {pb,L.symm},c5.mpr {B,N},λe=>h.ne e.symm,λX w=>?_,λX w e=>?_}}
 .let{i,x}:=c5.mp w;have z:=O X i x;have r:g*e9 (b7 b a J).1 (a-b) (X-b)=b8 (cr (a-b)<|f-b) (cr (a-b)<|X-b):=by rw[I];unfold e9;rw[y7]
  have:0<=b8 (cr (a-b)<|f-b) (cr (a-b)<|X-b):=by
   rcases t X i with q|q
   .show aAA (qZ C o u q z)
   rw[q,A1];show aBY _
  rw[<-r]at this;by_cases zz:0<=e9 (b7 b a J).1 (a-b) (X-b)
  .show zz
  have:=aAv g0 (show e9 (b7 b a J).1 (a-b) (X-b)<0 by lia)
  lia
 let{i,x}:=c5.mp w;have r:g*e9 (b7 b a J).1 (a-b) (X-b)=b8 (cr (a-b)<|f-b) (cr (a-b)<|X-b):=by rw[I];unfold e9;rw[y7]
 rw[e]at r;rcases t X i with q|q
 .have:=qZ C o u q (O X i x);rw[<-r]at this;simp at this
 .
  have dX:b8 n X=d:=by let{k,m,hk,e}:=w6 o q;have q:=gn (b8 n) e;rw[f7,f7,j]at q;have:b8 n (X-b)=0:=(aAr.mp (show k*b8 n (X-b)=0 by lia)).resolve_left (by lia);rw[c8]at this;lia
  show(h.btw X (c5.mpr {i,dX}) ?_).symm;rw[sK];have:cr (b-a) (X-b)=0:=by
   have:=kR q
   rwa [p7]at this
  unfold e9;rw[this,A1]
def A4:List V->Option V
 |[]=>none
 |w::a=>if w≠0 then some w else A4 a
def v6(h:A4 ws=some w):w∈ws/\w≠0:=by
 induction ws with
 |nil=>cases h
 |cons v ws a=>unfold A4 at h;grind
def P1(h:A4 ws=none):∀w∈ws,w=0:=by
 induction ws with
 |nil=>nofun
 |cons v ws a=>unfold A4 at h;grind
def Q4:List V->Nat
 |[]=>0
 |p::d=>
  let a:=(p::d).map (· -p)
  match A4 a with
  |none=>0
  |some b=>match A4 (a.map<|cr b)with
   |none=>1
   |some e=>if a.any (λw=>decide (b8 e w≠0))then 3 else 2
def f8(J:List V):Prop:=∃A∈J,∃B∈J,∃C∈J,∃D∈J,e9 (B-A) (C-A) (D-A)≠0
def uZ(h:Q4 J=3):f8 J:=by
 match J,h with
 |p::v,h=>
  unfold Q4 at h;dsimp only at h;split at h
  .cases h
  rename_i b f;split at h
  .cases h
  rename_i g i;split at h
  .rename_i e;let{j,w}:=v6 f;let{d,x}:=v6 i;let{y,d,k}:=aAh.mp d;rw[aDk]at e;let{l,m,n}:=e;let{B,o,q}:=aAh.mp j;let{C,r,s}:=aAh.mp d;let{D,t,u}:=aAh.mp m;show{p,by simp,B,o,C,r,D,t,?_};rw[q,s,u];have a:b8 g l≠0:=by exists n
   rw[<-k,M2]at a;show a
  cases h
def UM(h:Q4 J≠3):¬f8 J:=by
 rintro⟨A,j,B,k,C,l,D,m,t⟩;match J,h,j,k,l,m with
 |p::f,h,j,k,l,m=>
  unfold Q4 at h;dsimp only at h;have o:∀X∈p::f,X-p∈(p::f).map (· -p):=λX b=>aAh.mpr {X,b,rfl};have d:∀n:V,n≠0->(∀X∈p::f,b8 n (X-p)=0)->False:=λn v r=>by
   have q:∀X∈p::f,b8 n (X-A)=0:=λX b=>by have g:=r X b;have i:=r A j;rw[c8]at*;lia
   show t (v9 v (q B k) (q C l)<|q D m)
  split at h
  .rename_i g;have z:=P1 g;show d {1,0,0} (λe=>by have:=gn V.x e;simp at this) λX b=>?_;rw[z _ (o X b)];show A1 _
  rename_i a g;let{N,w}:=v6 g;split at h
  .rename_i i;have z:=P1 i;have y:∀X∈p::f,cr a (X-p)=0:=λX b=>z _ (aAh.mpr {_,o X b,rfl});obtain⟨u,E,H⟩:∃u:V,cr a u≠0/\True:=by
    rcases kW w with q|q|q
    .show{{0,1,0},λe=>q (by have:=gn V.z e;exists this),trivial}
    .show{{1,0,0},λe=>q (by have:=gn V.z e;exists this),trivial}
    show{{0,1,0},λe=>q (by have:=gn V.x e;exists this),trivial}
   show d (cr a u) E λX b=>?_;rw[M2,lK (y X b)]
  rename_i s i;let{O,I}:=v6 i;split at h
  .show h rfl
  rename_i L;show d s I λX b=>?_;by_cases z:b8 s (X-p)=0
  .show z
  show gs (aDk.mpr {X-p,o X b,by simpa using z}) L
def CH(h:Q4 J<2):∀X∈J,∀Y∈J,∀Z∈J,cr (Y-X) (Z-X)=0:=by
 match J,h with
 |[],_=>intro X b;cases b
 |p::d,h=>
  unfold Q4 at h;dsimp only at h;have mm:∀X∈p::d,X-p∈(p::d).map (· -p):=λX b=>aAh.mpr {X,b,rfl};intro X b Y i Z l;split at h
  .rename_i f;have e:∀W∈p::d,W=p:=λW g=>B5 (P1 f _<|mm W g);rw[e X b,e Y i,t6];apply ext<;>simp
  rename_i a f;let{q,m}:=v6 f;split at h
  .rename_i n;have j:∀X∈p::d,cr a (X-p)=0:=λX b=>(P1 n) _ (aAh.mpr {_,mm X b,rfl});have k:∀U∈p::d,∀W∈p::d,cr (U-W) a=0:=λU o W g=>DY (j U o) (j W g);show dS m (k Y i X b) (k Z l X b)
  split at h<;>lia
def MJ(h:2<=Q4 J):∃X∈J,∃Y∈J,∃Z∈J,cr (Y-X) (Z-X)≠0:=by
 match J,h with
 |[],h=>show gs h (by simp[Q4])
 |p::n,h=>
  unfold Q4 at h;dsimp only at h;split at h
  .lia
  rename_i a d;let{e,o}:=v6 d;split at h
  .lia
  rename_i q f;let{b,g}:=v6 f;let{r,b,i}:=aAh.mp b;let{B,j,k}:=aAh.mp e;let{C,l,m}:=aAh.mp b;show{p,by simp,B,j,C,l,by rw[k,m,i];show g}
def f8.off(h:f8 J)(f:n≠0):∃Z∈J,b8 n Z≠d:=by
 let{A,g,B,i,C,j,D,k,l}:=h;by_cases a:b8 n A=d
 .by_cases b:b8 n B=d
  .by_cases c:b8 n C=d
   .by_cases e:b8 n D=d
    .show gs (v9 f (by rw[c8];lia) (by rw[c8];lia) (by rw[c8];lia)) l
    show{D,k,e}
   show{C,j,c}
  show{B,i,b}
 show{A,g,a}
def f8.below(h:f8 J)(b:n≠0)(f:∀X∈J,b8 n X<=d):∃Z∈J,b8 n Z<d:=by let{Z,a,e}:=h.off (d:=d) b;show{Z,a,by have:=f Z a;lia}
def kk:V:={0,0,1}
def d6(m:V)(J:List V):V×V:=
 let u:=b7 m (m+kk) J
 let a:=m7 u.1 u.2 J
 if Q4 a=2 then(m,m+kk)else(a.getD 0 0,a.getD 1 0)
def xF:ConeM kk (λw=>0<w.x\/(w.x=0/\0<w.y))where
 add:=λ{u v} d e=>by simp;lia
 mul:=λ{k u} a h=>by
  simp;rcases h with h|⟨h,b⟩
  .show .inl (aAY a h)
  show .inr {by rw[h];simp,aAY a b}
 irr:=by simp
 inv:=λ{u} k h=>by simpa[kk]using h
def qY(h:b8 n a=0):ConeM a (λw=>b8 n w<0)where
 add:=λ{u v} e f=>by rw[k5];lia
 mul:=λ{k u} b h=>by rw[f7];show aAv b h
 irr:=by rw[A1];lia
 inv:=λ{u} k d=>by rw[k5,f7,h];exists d
def A5(m k:V):m+k-m=k:=(by apply ext<;>simp<;>lia)
def Y9(N:f8 J)(ho:J.Pairwise (λa b=>d7 (b-a)))(hm:m∈J)(hl:∀X∈J,X=m\/d7 (X-m)):
  IsFace J (b7 (d6 m J).1 (d6 m J).2 J).1 (b7 (d6 m J).1 (d6 m J).2 J).2:=by
 have C:ConeM (m+kk-m) (λw=>0<w.x\/(w.x=0/\0<w.y)):=by rw[A5];show xF
 have ah:m+kk-m≠0:=by rw[A5];intro e;have:=gn V.z e;simp[kk]at this
 have O:∀P∈J,(0<(P-m).x\/((P-m).x=0/\0<(P-m).y))\/cr (m+kk-m) (P-m)=0:=λP p=>by
  rw[A5];rcases hl P p with e|e
  .right;subst e;rw[t6];apply ext<;>simp
  unfold d7 at e;rcases e with e|⟨Q,e|⟨e2,e3⟩⟩
  .show .inl (.inl e)
  .show .inl (.inr {Q,e})
  right;apply ext
  .simp[kk];simp at e2;lia
  .simp[kk];simp at Q;lia
  simp[kk]
 have hx:∃P∈J,0<(P-m).x\/((P-m).x=0/\0<(P-m).y):=by
  by_cases z:∃P∈J,0<(P-m).x\/((P-m).x=0/\0<(P-m).y)
  .show z
  exfalso;let{Z,f,e}:=N.off (n:={1,0,0}) (d:=m.x) (λe=>by have:=gn V.x e;simp at this);have w:=(O Z f).resolve_left λq=>z {Z,f,q};rw[A5]at w;have:=gn V.y w;simp[kk]at this;simp[b8]at e
  lia
 let{v,g,o1,T,g0,ge,E,gd,h,sB,sO,sP}:=L7 C ah O hx;have i:=c5.mpr {hm,gd.symm};have k:=c5.mpr {o1,sO};have H:m≠v:=λe=>by subst e;rw[t6]at T;simp at T
 by_cases U:Q4 (m7 (b7 m (m+kk) J).1 (b7 m (m+kk) J).2 J)=2
 .have e:d6 m J=(m,m+kk):=by unfold d6;erw[U,if_true]
  rw[e];let{X,s,Y,u,Z,f,hc}:=MJ (J:=m7 (b7 m (m+kk) J).1 (b7 m (m+kk) J).2 J) (by lia);have s:=c5.mp s;have u:=c5.mp u;have f:=c5.mp f;show{E,h,X,s.1,Y,u.1,Z,f.1,s.2,u.2,f.2,hc}
 .
  have h1:Q4 (m7 (b7 m (m+kk) J).1 (b7 m (m+kk) J).2 J)≠3:=λz=>by let{A,hA,B,hB,C,hC,D,hD,hd}:=uZ z;have hA:=c5.mp hA;have hB:=c5.mp hB;have hC:=c5.mp hC;have hD:=c5.mp hD;show hd (v9 E.ne (by rw[c8];lia) (by rw[c8];lia) (by rw[c8];lia))
  have av:Q4 (m7 (b7 m (m+kk) J).1 (b7 m (m+kk) J).2 J)<2:=by
   have:Q4 (m7 (b7 m (m+kk) J).1 (b7 m (m+kk) J).2 J)<=3:=by
    generalize m7 (b7 m (m+kk) J).1 (b7 m (m+kk) J).2 J=t;unfold Q4;split
    .lia
    dsimp only;split
    .lia
    split
    .lia
    split<;>lia
   lia
  have e:d6 m J=((m7 (b7 m (m+kk) J).1 (b7 m (m+kk) J).2 J).getD 0 0,(m7 (b7 m (m+kk) J).1 (b7 m (m+kk) J).2 J).getD 1 0):=by unfold d6;erw[U,if_false]
  rw[e];have ord:(m7 (b7 m (m+kk) J).1 (b7 m (m+kk) J).2 J).Pairwise (λa b=>d7 (b-a)):=aEC _ ho;have j:∀X,X∈m7 (b7 m (m+kk) J).1 (b7 m (m+kk) J).2 J↔X∈J/\b8 (b7 m (m+kk) J).1 X=(b7 m (m+kk) J).2:=λX=>c5;generalize m7 (b7 m (m+kk) J).1 (b7 m (m+kk) J).2 J=t at*
  match t,i,k with
  |[],i,_=>cases i
  |[x],i,k=>simp at i k;show gs (i.trans k.symm) H
  |x::y::r,i,k=>
   dsimp only[List.getD_cons_zero,List.getD_cons_succ];have vh:d7 (y-x):=(aAw.mp ord).1 y (by simp);have ox:=(j x).mp (by simp);have oy:=(j y).mp (by simp);have yc:y-x≠0:=λz=>by rw[z]at vh;show y8.irr vh
   have na:b8 (b7 m (m+kk) J).1 (y-x)=0:=by rw[c8];lia
   have C2:=qY na;let{Z,f,hz}:=N.below E.ne h;let{l,g2,p1,p2,p0,pe,pp,pd,o,I,L,sP2}:=L7 C2 yc (J:=J) (λP p=>by
    have:=h P p;by_cases q:b8 (b7 m (m+kk) J).1 P<(b7 m (m+kk) J).2
    .show .inl (by rw[c8];lia)
    show .inr ((CH av) x (by simp) y (by simp) P ((j P).mpr {p,by lia}))) {Z,f,by rw[c8];lia}
   show{pp,o,x,ox.1,y,oy.1,l,p1,pd.symm,I,L,C2.ad5 yc p2}
def IsFace.aa2(f:J.Pairwise (λa b=>d7 (b-a)))(h:IsFace J n d):Sheet n (m7 n d J)where
 nz:=h.prim.ne
 pl:=λX g Y i=>by have:=(c5.mp g).2;have:=(c5.mp i).2;rw[c8];lia
 ord:=aEC _ f
 two:=by let{A,j,B,k,C,l,a,b,c,e}:=h.three;show{A,c5.mpr {j,a},B,c5.mpr {k,b},λz=>e ?_};subst z;rw[t6];apply ext<;>simp
def IsFace.ac2{J:List V}{n:V}{d:Int}(h:IsFace J n d){a b:V}(f:EdgeOf n (λX=>X∈m7 n d J) a b):∃X∈m7 n d J,0<e9 n (b-a) (X-a):=by
 by_cases z:∃X∈m7 n d J,0<e9 n (b-a) (X-a)
 .show z
 exfalso;let{E,H}:=c5.mp f.p;let{pb,I}:=c5.mp f.q;have g:b8 n (b-a)=0:=by rw[c8];lia
 have k:∀X∈J,b8 n X=d->cr (b-a) (X-a)=0:=λX i j=>by have m:=c5.mpr {i,j};have l:=f.left X m;have L:¬0<e9 n (b-a) (X-a):=λq=>z {X,m,q};show M9 h.prim.ne g (by rw[c8];lia) (by lia)
 let{A,o,B,t,C,u,r,v,w,e}:=h.three;have s:∀X∈J,b8 n X=d->∀Y∈J,b8 n Y=d->cr (X-Y) (b-a)=0:=λX i j Y x y=>DY (k X i j) (k Y x y);show e (dS (λe=>f.ne (B5 e).symm) (s B t v A o r)<|s C u w A o r)
def QF(l:f8 J)(f:IsFace J n d)(g:IsFace J m e)(i:EdgeOf n (λX=>X∈m7 n d J) a b)(h:EdgeOf m (λX=>X∈m7 m e J) b a)(j:X∈m7 n d J)(k:0<e9 n (b-a) (X-a)):b8 m X<e:=by
 let{o,r}:=c5.mp j;have A:=g.sup X o;by_cases z:b8 m X=e
 .exfalso;let{B,s}:=c5.mp i.p;let{pb,t}:=c5.mp i.q;let{_,u}:=c5.mp h.q;let{_,v}:=c5.mp h.p;let{Z,w,x}:=l.below f.prim.ne f.sup;have y:cr (b-a) (X-a)≠0:=λq=>by unfold e9 at k;rw[q,A1]at k;lia
  let{rfl,rfl}:=kO f.prim g.prim f.sup g.sup s t r u v z y w x;have:=h.left X j;have C:e9 n (a-b) (X-b)=-e9 n (b-a) (X-a):=by simp[e9,b8];grind
  lia
 lia
def GN:List V->V
 |[]=>0
 |X::l=>X+GN l
theorem sR(n:V):∀l:List V,b8 n (GN l)=(l.map (b8 n)).sum
 |[]=>A1 n
 |X::l=>by erw[GN,aAq,aCa];rw[k5,sR n l]
theorem EJ{a:Type}(f g:a->Int):∀l:List a,(∀x∈l,f x<=g x)->(l.map f).sum<=(l.map g).sum:=by
 intro b h;cases b with
 |nil=>show aBY _
 |cons x l=>
  erw[aAq,aCa];have:=h x (by simp);have:=EJ f g l (λy d=>h y (aAd _ d))
  lia
theorem FS{b:Type}(f g:b->Int):∀l:List b,(∀x∈l,f x<=g x)->(∃x∈l,f x<g x)->(l.map f).sum<(l.map g).sum
 |[],_,⟨x,d,_⟩=>by cases d
 |x::l,h,⟨y,a,i⟩=>by
  erw[aAq,aCa];have j:=h x (by simp);have k:=EJ f g l (λy a=>h y (aAd _ a));rcases aAe.mp a with e|e
  .subst e;lia
  have:=FS f g l (λy a=>h y (aAd _ a)) {y,e,i}
  lia
theorem bM{a:Type}(c:Int):∀l:List a,(l.map λ_=>c).sum=(l.length:Int)*c
 |[]=>by simp
 |x::l=>by erw[aAq,aCa,aAp];rw[bM c l];push_cast;grind
def F7(J:List V)(X:V):V:=(J.length:Int)*X-GN J
def dF(J:List V)(n:V)(d:Int):Int:=(J.length:Int)*d-b8 n (GN J)
def AA(J:List V)(n X:V):b8 n (F7 J X)=(J.length:Int)*b8 n X-b8 n (GN J):=by unfold F7;rw[c8,f7]
def lF(a:f8 J)(b:n≠0)(h:∀X∈J,b8 n X<=d):0<dF J n d:=by
 unfold dF;rw[sR,<-bM];have:=FS (b8 n) (λ_=>d) J h (a.below b h)
 lia
def len_pos(a:f8 J):0<(J.length:Int):=by
 let{A,b,_}:=a;have:0<J.length:=aDr b
 lia
def aX(h:b8 n X=d):b8 n (F7 J X)=dF J n d:=by rw[AA,h];rfl
def rF(h:b8 n X<=d):b8 n (F7 J X)<=dF J n d:=by
 rw[AA];unfold dF;have:=aAz h (show(0:Int)<=J.length by lia)
 lia
def RX(a:0<(J.length:Int))(h:b8 n X<d):b8 n (F7 J X)<dF J n d:=by
 rw[AA];unfold dF;have:=aET h a
 lia
def iq(J:List V)(a b X:V):e9 (F7 J a) (F7 J b) (F7 J X)=(J.length:Int)*(J.length:Int)*b8 (F7 J a) (cr (b-a) (X-a)):=by unfold F7;simp[e9,b8];grind
def DO(h:cr w c=0)(x y:V):b8 w y*b8 c x=b8 w x*b8 c y:=by
 have e:b8 w y*b8 c x-b8 w x*b8 c y=b8 (cr w c) (cr y x):=by simp[b8];grind
 have:b8 0 (cr y x)=0:=by simp[b8]
 lia
def JM(e:f8 J)(f:IsFace J n d)(j:b8 n a=d)(m:b8 n b=d)(o:b8 n X=d)(h:0<e9 n (b-a) (X-a)):0<e9 (F7 J a) (F7 J b) (F7 J X):=by
 rw[iq];have g:=len_pos e;show aAY (aAY g g) ?_;have i:=f.prim.ne;have p:cr n (cr (b-a)<|X-a)=0:=A7 (by rw[c8];lia) (by rw[c8];lia);have q:=DO p n (F7 J a);have k:0<b8 n (F7 J a):=by rw[aX j];show lF e i f.sup
 have l:0<b8 (cr (b-a)<|X-a) n:=by rw[J5];show h
 have r:=aAY k l;rw[J5 (F7 J a)];by_cases z:0<b8 (cr (b-a)<|X-a) (F7 J a)
 .show z
 exfalso;have:b8 n n*b8 (cr (b-a)<|X-a) (F7 J a)<=0:=by have:=aAz (show b8 (cr (b-a)<|X-a) (F7 J a)<=0 by lia) (aAA<|t5 i);exists this
 lia
def ZP(g:f8 J)(f:IsFace J n d)(v:IsFace J m e)(h:EdgeOf n (λX=>X∈m7 n d J) a b)(j:EdgeOf m (λX=>X∈m7 m e J) b a)(L:b8 m B*dF J n d<=b8 n B*dF J m e):0<=e9 (F7 J a) (F7 J b) B:=by
 let{X,k,l}:=f.ac2 h;let{N,o}:=c5.mp k;let{O,t}:=c5.mp h.p;let{pb,u}:=c5.mp h.q;let{_,w}:=c5.mp j.q;let{_,x}:=c5.mp j.p;have c0:=lF g f.prim.ne f.sup;have A:=JM g f t u o l;by_cases z:0<=e9 (F7 J a) (F7 J b) B
 .show z
 exfalso;have i:∀y,b8 (dF J n d*m-dF J m e*n) y=dF J n d*b8 m y-dF J m e*b8 n y:=λy=>by rw[J5,c8,f7,f7,J5 y m,J5 y n]
 have C:b8 (dF J n d*m-dF J m e*n) (F7 J a)=0:=by rw[i,aX t,aX w];grind
 have E:b8 (dF J n d*m-dF J m e*n) (F7 J b)=0:=by rw[i,aX u,aX x];grind
 have H:b8 (dF J n d*m-dF J m e*n) (F7 J X)<0:=by rw[i,aX o];have:=aET (RX (len_pos g)<|QF g f v h j k l) c0;grind
 have p:=DO (A7 C E) (F7 J X) B;have I:b8 (cr (F7 J a)<|F7 J b) B=e9 (F7 J a) (F7 J b) B:=M2 _ _ _;rw[(M2 _ _ _),I]at p;have r:0<b8 (dF J n d*m-dF J m e*n) (F7 J X)*e9 (F7 J a) (F7 J b) B:=aBD H (by lia);rw[<-p]at r;have s:0<b8 (dF J n d*m-dF J m e*n) B:=by
  by_cases q:0<b8 (dF J n d*m-dF J m e*n) B
  .show q
  have:=aAJ (show b8 (dF J n d*m-dF J m e*n) B<=0 by lia) (aAA A)
  lia
 rw[i]at s
 lia
def GM{a b c d e f:Int}(g:0<b)(h:0<d)(i:0<f)(j:a*d<=c*b)(k:c*f<=e*d):a*f<=e*b:=by have l:=aAJ j (aAA i);have m:=aAJ k (aAA g);show aEU (by grind) h
theorem LK{d:Type}(p q:d->Int):∀(l:List d),l≠[]->(∀x∈l,0<q x)->∃x∈l,∀y∈l,p y*q x<=p x*q y
 |[],h,_=>gs rfl h
 |[x],_,_=>by simp
 |x::y::l,_,b=>by
  let{z,f,h}:=LK p q (y::l) (by simp) (λw a=>b w (aAd _ a));by_cases c:p x*q z<=p z*q x
  .show{z,aAd _ f,λw a=>?_};rcases aAe.mp a with e|e
   .subst e;show c
   show h w e
  show{x,by simp,λw a=>?_};rcases aAe.mp a with e|e
  .subst e;show aBY _
  show GM (b w a) (b z<|aAd _ f) (b x (by simp)) (h w e) (by lia)
theorem a4r(h:V->Int):∀(x:V) (l:List V),0<=h x->(∀z,(x::l).getLast?=some z->h z<=0)->l≠[]->∃u v,(u,v)∈u6 (x::l)/\0<=h u/\h v<=0:=by
 intro x b d a e;cases b with
 |nil=>show gs rfl e
 |cons y r=>
  by_cases c:h y<=0
  .show{x,y,by simp[u6],d,c}
  match r,a with
  |[],a=>show gs (a y rfl) c
  |z::r,a=>let{u,v,m,p}:=a4r h y (z::r) (by lia) (λw f=>a w (by rw[aEa];show f)) (by simp);show{u,v,by erw[u6]at m⊢;show aAd _ m,p}
theorem oJ:∀(l:List V) (x z w:V),(x::l).getLast?=some z->(z,w)∈u6 (x::l++[w]):=by
 intro a x z w h;cases a with
 |nil=>simp at h;subst h;simp[u6]
 |cons y l=>have:=oJ l y z w h;show aAd _ this
theorem iZ:∀(l:List V) (x w:V),∀e∈u6 (x::l),e∈u6 (x::l++[w]):=by
 intro a x w e h;cases a with
 |nil=>simp[u6]at h
 |cons y l=>
  erw[aBj,u6]at h⊢;rcases aAe.mp h with q|q
  .subst q;simp
  show aAd _ (iZ l y w e q)
def S7(g:J.Pairwise (λa b=>d7 (b-a)))(f:IsFace J n d):∃r s t l,j4 n (m7 n d J)=r::s::t::l:=by
 have S:=f.aa2 g;let{r,l,e,_}:=S.ab1;match l,e with
 |[],e=>
  have h:(r,r)∈Z0 (j4 n<|m7 n d J):=by rw[e];simp[Z0]
  show gs rfl (S.pair h).ne
 |[s],e=>
  have i:(r,s)∈Z0 (j4 n<|m7 n d J):=by rw[e];simp[Z0]
  have j:(s,r)∈Z0 (j4 n<|m7 n d J):=by rw[e];simp[Z0]
  have k:=S.pair j;let{X,m,o}:=f.ac2 (S.pair i);have:=k.left X m;have p:e9 n (r-s) (X-s)=-e9 n (s-r) (X-r):=by simp[e9,b8];grind
  lia
 |s::t::l,e=>show{r,s,t,l,e}
def wU(E:f8 J)(ho:J.Pairwise (λa b=>d7 (b-a)))(fs:List (V×Int))(ah:fs≠[])(hf:∀f∈fs,IsFace J f.1 f.2)(hc:∀f∈fs,∀a b,EdgeOf f.1 (λX=>X∈m7 f.1 f.2 J) a b->∃g∈fs,EdgeOf g.1 (λX=>X∈m7 g.1 g.2 J) b a)(o:IsFace J n d):(n,d)∈fs:=by
 obtain⟨B,hBd⟩:∃B,B=GN ((m7 n d J).map (F7 J)):={_,rfl};have dB:∀m,b8 m B=((m7 n d J).map λX=>b8 m (F7 J X)).sum:=λm=>by rw[hBd,sR,aBs];rfl
 have cn:=lF E o.prim.ne o.sup;have ub:∀m e,(∀X∈J,b8 m X<=e)->b8 m B<=((m7 n d J).length:Int)*dF J m e:=λm e hm=>by rw[dB,<-bM];show EJ _ _ _ λX i=>rF (hm X (c5.mp i).1)
 have eB:b8 n B=((m7 n d J).length:Int)*dF J n d:=by rw[dB,<-bM];congr 1;show aEJ λX i=>aX (c5.mp i).2
 let{{m,e},hm,htop}:=LK (λf:V×Int=>b8 f.1 B) (λf=>dF J f.1 f.2) fs ah λf h=>lF E (hf f h).prim.ne (hf f h).sup;have j:=hf _ hm;have H:∀a b,EdgeOf m (λX=>X∈m7 m e J) a b->0<=e9 (F7 J a) (F7 J b) B:=λa b hab=>by let{g,hg,hg2}:=hc _ hm a b hab;show ZP E j (hf g hg) hab hg2 (htop g hg)
 have S:=j.aa2 ho;let{r,s,t,l,er}:=S7 ho j;have nd:=S.aa4;have pr:=λ{P Q}=>S.aa1 (P:=P) (Q:=Q);rw[er]at pr nd;have rm:r∈j4 m (m7 m e J):=by rw[er];simp
 have on:∀X∈r::s::t::l,b8 m X=e:=λX i=>by rw[<-er]at i;show(c5.mp<|S.aa3 i).2
 obtain⟨z,hz⟩:∃z,(s::t::l).getLast?=some z:=by simp[aEZ]
 have c1:(r,s)∈Z0 (r::s::t::l):=by rw[Y3];simp[u6]
 have c2:(z,r)∈Z0 (r::s::t::l):=by rw[Y3];show oJ _ _ _ _ (by rw[aEa];show hz)
 have w1:=H _ _ (pr.mp c1);have w2:=H _ _ (pr.mp c2);let{u,v,I,hu,hv}:=a4r (λX=>e9 (F7 J r) (F7 J X) B) s (t::l) w1 (λy hy=>by
  have:y=z:=Option.some.inj (hy.symm.trans hz);subst this;have e1:e9 (F7 J r) (F7 J y) B=-e9 (F7 J y) (F7 J r) B:=by simp[e9,b8];grind
  lia) (by simp)
 have c3:(u,v)∈Z0 (r::s::t::l):=by rw[Y3];have:=iZ (t::l) s r _ I;erw[aBj,u6]at this⊢;show aAd _ this
 have g3:=pr.mp c3;have U:u∈s::t::l/\v∈s::t::l:=by
  have:=I;have hh:∀(l:List V) (p q:V),(p,q)∈u6 l->p∈l/\q∈l:=λl=>by
   induction l with
   |nil=>intro p q h;simp[u6]at h
   |cons x l ih=>
    intro p q h;match l,h,ih with
    |[],h,_=>simp[u6]at h
    |y::l,h,ih=>
     erw[u6]at h;rcases aAe.mp h with c|c
     .cases c;simp
     have:=ih p q c;show{aAd _ this.1,aAd _ this.2}
  show hh _ _ _ I
 have nr:=(aBi.mp nd).1;have ru:r≠u:=λq=>by subst q;show nr U.1
 have rv:r≠v:=λq=>by subst q;show nr U.2
 have st:=S.strict g3 rm ru rv;have du:=on u (aAd _ U.1);have dv:=on v (aAd _ U.2);have dr:=on r (by simp);have D0:=JM E j du dv dr st;have w3:=H _ _ g3;have k:=EL B (F7 J r) (F7 J u) (F7 J v);have a1:e9 B (F7 J u) (F7 J v)=e9 (F7 J u) (F7 J v) B:=by simp[e9,b8];grind
 have a2:e9 B (F7 J v) (F7 J r)=-e9 (F7 J r) (F7 J v) B:=by simp[e9,b8];grind
 have a3:e9 B (F7 J r) (F7 J u)=e9 (F7 J r) (F7 J u) B:=by simp[e9,b8];grind
 have a4:e9 (F7 J r) (F7 J u) (F7 J v)=e9 (F7 J u) (F7 J v) (F7 J r):=by simp[e9,b8];grind
 rw[a1,a2,a3,a4]at k;obtain⟨N,hal⟩:∃N,N=e9 (F7 J u) (F7 J v) B:={_,rfl};obtain⟨O,hbe⟩:∃O,O=-e9 (F7 J r) (F7 J v) B:={_,rfl};obtain⟨T,hga⟩:∃T,T=e9 (F7 J r) (F7 J u) B:={_,rfl};obtain⟨w,hDe⟩:∃w,w=e9 (F7 J u) (F7 J v) (F7 J r):={_,rfl};rw[<-hal,<-hbe,<-hga,<-hDe]at k;have al0:0<=N:=by lia
 have be0:0<=O:=by lia
 have ga0:0<=T:=by lia
 have cd:∀f:V,w*b8 f B=T*b8 f (F7 J v)+N*b8 f (F7 J r)+O*b8 f (F7 J u):=λf=>by
  have:=gn (b8 f) k;rw[k5,k5,f7,f7,f7,f7]at this
  lia
 have q1:=cd m;rw[aX dr,aX du,aX dv]at q1;have q2:=cd n;have cm:=lF E j.prim.ne j.sup;have pt:∀X∈r::s::t::l,X∈J:=λX i=>by rw[<-er]at i;show(c5.mp<|S.aa3 i).1
 have r1:=rF (J:=J) (o.sup r (pt r (by simp)));have r2:=rF (J:=J) (o.sup u<|pt u<|aAd _ U.1);have r3:=rF (J:=J) (o.sup v<|pt v<|aAd _ U.2);have s1:=aAz r1 al0;have s2:=aAz r2 be0;have s3:=aAz r3 ga0;obtain⟨L,hL⟩:∃L:Int,L=((m7 n d J).length:Int):={_,rfl};have ub1:=ub m e j.sup;rw[<-hL]at eB ub1;have k1:w*L<=N+O+T:=by
  have:(w*L)*dF J n d<=(N+O+T)*dF J n d:=by rw[eB]at q2;have e1:w*L*dF J n d=w*(L*dF J n d):=aEc _ _ _;grind
  show aEU this cn
 have k2:w*b8 m B=(N+O+T)*dF J m e:=by rw[q1];grind
 have k3:(w*L)*dF J m e<=w*b8 m B:=by rw[k2];show aAJ k1 (aAA cm)
 have k4:L*dF J m e<=b8 m B:=by rw[aEc]at k3;show aFj k3 (by lia)
 have all:∀X∈m7 n d J,b8 m X=e:=λX i=>by
  have le:b8 m X<=e:=j.sup X (c5.mp i).1;by_cases z:b8 m X=e
  .show z
  exfalso;have:=FS (λX=>b8 m (F7 J X)) (λ_=>dF J m e) (m7 n d J) (λY hY=>rF (j.sup Y (c5.mp hY).1)) {X,i,RX (len_pos E) (by lia)};rw[<-dB,bM,<-hL]at this
  lia
 let{A,hA,B',hB',C,hC,ea,eb,ec,hcr}:=o.three;let{Z,hZ,hz}:=E.below o.prim.ne o.sup;let{rfl,rfl}:=kO o.prim j.prim o.sup j.sup ea eb ec (all A<|c5.mpr ⟨hA,ea⟩) (all B'<|c5.mpr ⟨hB',eb⟩) (all C<|c5.mpr ⟨hC,ec⟩) hcr hZ hz;show hm
def d8(J:List V)(f:V×Int):List V:=j4 f.1 (m7 f.1 f.2 J)
structure LInv(J:List V)(p0:V×V)(fs:List (V×Int))(walked:V×V->Prop)(waiting:List (V×V)):Prop where
 face:∀f∈fs,IsFace J f.1 f.2
 nd:fs.Nodup
 wk:∀e,walked e↔∃f∈fs,e∈Z0 (d8 J f)
 cl:∀f∈fs,∀a b,(a,b)∈Z0 (d8 J f)->(∃g∈fs,(b,a)∈Z0 (d8 J g))\/(b,a)∈waiting
 wt:∀p∈waiting,(∃f∈fs,(p.2,p.1)∈Z0 (d8 J f))\/(fs=[]/\p=p0)
 ne:fs=[]->waiting=[p0]
structure Good(J:List V)(m:V):Prop where
 solid:f8 J
 ord:J.Pairwise (λa b=>d7 (b-a))
 mem:m∈J
 least:∀X∈J,X=m\/d7 (X-m)
section
variable{J:List V}{m:V} (G:Good J m) {fs:List (V×Int)}{walked:V×V->Prop}{waiting rest:List (V×V)}{p:V×V}
include G
theorem EF:LInv J (d6 m J) [] (λ_=>False) [d6 m J]where
 face:=λf h=>by cases h
 nd:=aDp
 wk:=λe=>{λh=>h.elim,by rintro⟨f,h,_⟩;cases h}
 cl:=λf h=>by cases h
 wt:=λq h=>.inr {rfl,by simpa using h}
 ne:=λ_=>rfl
theorem XC(h:LInv J (d6 m J) fs walked waiting)(j:waiting=rest++[p])(k:walked p):LInv J (d6 m J) fs walked rest:=by
 have i:∀q,q∈waiting↔q=p\/q∈rest:=λq=>by rw[j];simp[or_comm]
 let{l,d,n}:=(h.wk p).mp k;have o:fs≠[]:=λe=>by subst e;cases d
 show{h.face,h.nd,h.wk,λf r a b g=>?_,λq s=>h.wt q ((i q).mpr (.inr s)),λe=>gs e o};rcases h.cl f r a b g with q|q
 .show .inl q
 rcases(i (b,a)).mp q with z|z
 .subst z;show .inl {l,d,n}
 show .inr z
theorem tH(h:LInv J (d6 m J) fs walked waiting)(e:p∈waiting)(g:¬walked p):IsFace J (b7 p.1 p.2 J).1 (b7 p.1 p.2 J).2/\b7 p.1 p.2 J∉fs/\(fs≠[]->p∈Z0 (d8 J (b7 p.1 p.2 J))):=by
 rcases h.wt p e with⟨f,i,j⟩|⟨k,l⟩
 .have a:=h.face f i;let{b,n}:=lT a.prim.ne a.sup (G.solid.below a.prim.ne a.sup) ((a.aa2 G.ord).aa1.mp j);have o:=b.aa2 G.ord;have d:=o.aa1.mpr n;show{b,λz=>g ((h.wk p).mpr {_,z,d}),λ_=>d}
 subst k l;show{Y9 G.solid G.ord G.mem G.least,by simp,λz=>gs rfl z}
theorem RN(h:LInv J (d6 m J) fs walked waiting)(n:waiting=rest++[p])(r:¬walked p){walked':V×V->Prop}(s:∀e,walked' e↔walked e\/e∈Z0 (d8 J (b7 p.1 p.2 J)))(j:∀q,q∈waiting'↔q∈rest\/(q.2,q.1)∈Z0 (d8 J (b7 p.1 p.2 J))):
  LInv J (d6 m J) (fs++[b7 p.1 p.2 J]) walked' waiting':=by
 have k:∀q,q∈waiting↔q=p\/q∈rest:=λq=>by rw[n];simp[or_comm]
 let{E,t,u}:=tH G h ((k p).mpr (.inl rfl)) r;show{λf d=>?_,?_,λe=>?_,λf d a b i=>?_,λq v=>?_,λe=>by simp at e}
 .rcases aAO.mp d with z|z
  .show h.face f z
  nofun
 .rw[aCH];show⟨h.nd,by simp,λa w b x=>λe=>by
   have:b=b7 p.1 p.2 J:=by exists x
   subst e this;show t w⟩
 .rw[s,h.wk];constructor
  .rintro(⟨f,d,l⟩|l)
   .show{f,aAW _ d,l}
   show{_,aAu _ (by simp),l}
  nofun
 .rcases aAO.mp d with z|z
  .rcases h.cl f z a b i with⟨g,A,e⟩|q
   .show .inl {g,aAW _ A,e}
   rcases(k (b,a)).mp q with y|y
   .have B:fs≠[]:=λe=>by subst e;cases z
    show .inl {b7 p.1 p.2 J,aAu _ (by simp),by rw[y];show u B}
   show .inr ((j _).mpr (.inl y))
  have:f=b7 p.1 p.2 J:=by exists z
  subst this;show .inr ((j _).mpr (.inr i))
 rcases(j q).mp v with z|z
 .rcases h.wt q ((k q).mpr (.inr z))with⟨f,d,e⟩|⟨C,H⟩
  .show .inl {f,aAW _ d,e}
  have:=h.ne C;exfalso;rw[n]at this;have o:=gn List.length this;simp at o;subst o;cases z
 show .inl {_,aAu _ (by simp),z}
theorem QI(h:LInv J (d6 m J) fs walked []):fs≠[]/\∀n d,(n,d)∈fs↔IsFace J n d:=by
 have k:fs≠[]:=λe=>by have:=h.ne e;cases this
 show{k,λn d=>{λi=>h.face _ i,λi=>(wU G.solid G.ord fs k h.face (λf i a b j=>?_) i)}};rcases h.cl f i a b (((h.face f i).aa2 G.ord).aa1.mpr j)with⟨g,l,e⟩|q
 .show{g,l,((h.face g l).aa2 G.ord).aa1.mp e}
 cases q
end
def mJ(h:IsFace J n d):∃A∈J,∃B∈J,∃C∈J,cr (B-A) (C-A)≠0/\c9 A B C=(n,d):=by
 let{A,r,B,f,C,i,a,b,c,e}:=h.three;have j:∀B∈J,∀C∈J,b8 n B=d->b8 n C=d->cr (B-A) (C-A)≠0->0<b8 n (cr (B-A)<|C-A)->c9 A B C=(n,d):=λB f C i b c e m=>by
  let{g,v,w,x,y}:=Y0 e;have p:cr n (cr (B-A)<|C-A)=0:=A7 (by rw[c8];lia) (by rw[c8];lia);let{k,l,s,o}:=w6 h.prim.ne p;have E:0<l:=by
   have q:=gn (b8 n) o;rw[f7,f7]at q;have:=aAY s m;by_cases z:0<l
   .show z
   have:=aAJ (show l<=0 by nofun) (aAA<|t5 h.prim.ne);simp at this;lia
  rw[w]at o;have H:(k*g)*(c9 A B C).1=l*n:=by rw[<-o];apply ext<;>simp<;>grind
  have t:=kK x h.prim (aAY s v) E H;show aEr t ?_;rw[y,t];show a
 by_cases z:0<b8 n (cr (B-A)<|C-A)
 .show{A,r,B,f,C,i,e,j B f C i b c e z}
 have I:=pU (C-A) (B-A);have u:cr (C-A) (B-A)≠0:=λq=>e (by rw[pU,q];rfl);have L:b8 n (cr (B-A)<|C-A)≠0:=λq=>e (M9 h.prim.ne (by rw[c8];lia) (by rw[c8];lia) q);show{A,r,C,i,B,f,u,j C i B f c b u ?_};have:b8 n (cr (C-A)<|B-A)=-b8 n (cr (B-A)<|C-A):=by rw[I];simp[b8];grind
 lia
def cands(J:List V):List (V×Int):=J.flatMap λA=>J.flatMap λB=>J.map λC=>c9 A B C
def ND(J:List V):(cands J).length=J.length*(J.length*J.length):=by
 unfold cands;have h:∀(l:List V) (f:V->List (V×Int)) (k:Nat),(∀x,(f x).length=k)->(l.flatMap f).length=l.length*k:=λl f k a=>by
  induction l with
  |nil=>simp
  |cons x l b=>rw[aCI,aAx,b,a,aAp,aDV,aFM]
 rw[h J _ (J.length*J.length) λA=>h J _ J.length λB=>by simp]
theorem p8{a:Type}[DecidableEq a]:∀{l m:List a},l.Nodup->(∀x∈l,x∈m)->l.length<=m.length:=by
 intro i m h b;cases i with
 |nil=>show aAU _
 |cons x l=>
  have d:=b x (by simp);have f:=aBi.mp h;have:=p8 (l:=l) f.2 (λy g=>by
   have ne:y≠x:=λe=>by subst e;show f.1 g
   show(aFV ne).mpr (b y<|aAd _ g))
  rw[aFr d]at this;have:0<m.length:=aDr d;erw[aAp]
  lia
def MY{J:List V}{fs:List (V×Int)}(a:fs.Nodup)(b:∀f∈fs,IsFace J f.1 f.2):fs.length<=J.length*(J.length*J.length):=by rw[<-ND];show p8 a λf h=>?_;let{A,d,B,g,C,i,_,e}:=mJ (b f h);unfold cands;rw[aAQ];show{A,d,?_};rw[aAQ];show{B,g,aAh.mpr {C,i,e}}
section
variable{J:List V} (hs:f8 J) (ho:J.Pairwise (λa b=>d7 (b-a)))
include hs ho
theorem cZ(e:IsFace J n d)(h:EdgeOf n (λX=>X∈m7 n d J) a b):
 IsFace J (b7 b a J).1 (b7 b a J).2/\EdgeOf (b7 b a J).1 (λX=>X∈m7 (b7 b a J).1 (b7 b a J).2 J) b a:=lT e.prim.ne e.sup (hs.below e.prim.ne e.sup) h
theorem bV(e:IsFace J n d)(f:EdgeOf n (λX=>X∈m7 n d J) a b)(g:EdgeOf n (λX=>X∈m7 n d J) b a):False:=by
 let{X,h,i}:=e.ac2 f;have:=g.left X h;have j:e9 n (a-b) (X-b)=-e9 n (b-a) (X-a):=by simp[e9,b8];grind
 lia
theorem V3(a:IsFace J n d)(m:X∈d8 J (n,d)):∃g h:V×Int,IsFace J g.1 g.2/\IsFace J h.1 h.2/\(n,d)≠g/\(n,d)≠h/\g≠h/\b8 n X=d/\b8 g.1 X=g.2/\b8 h.1 X=h.2:=by
 have S:=a.aa2 ho;let{Y,s}:=V7 S m;let{W,o}:=rP S m;have b:=S.aa1.mp s;have i:=S.aa1.mp o;let{k,f}:=cZ hs ho a b;let{t,j}:=cZ hs ho a i;have l:W≠Y:=λe=>by subst e;show bV hs ho a b i
 show{_,_,k,t,λe=>?_,λe=>?_,λe=>?_,(c5.mp b.p).2,(c5.mp f.q).2,(c5.mp j.p).2}
 .rw[<-e]at f;show bV hs ho a b f
 .rw[<-e]at j;show bV hs ho a i j
 .
  have st:=S.strict b (gP S o).1 (i.ne) l;have u:=(c5.mp b.p).2;have v:=(c5.mp f.p).2;have w:=(c5.mp f.q).2;have r:=(c5.mp j.q).2;rw[<-e]at r;have x:cr (Y-X) (W-X)≠0:=λq=>by unfold e9 at st;rw[q,A1]at st;lia
  let{Z,y,z}:=hs.below a.prim.ne a.sup;let{A,B}:=kO a.prim k.prim a.sup k.sup u ((c5.mp b.q).2) ((c5.mp i.p).2) w v r x y z;have:(n,d)=b7 Y X J:=aEr A B;rw[<-this]at f;show bV hs ho a b f
theorem ML(o:IsFace J n d)(f:IsFace J m e)(h:EdgeOf n (λX=>X∈m7 n d J) a b)(ga:b8 m a=e)(gb:b8 m b=e):(m,e)=(n,d)\/(m,e)=b7 b a J:=by
 let{pa,da}:=c5.mp h.p;let{pb,db}:=c5.mp h.q;let{x,N}:=cZ hs ho o h;have T:b8 n (a-b)=0:=by rw[c8];lia
 have C:=nS (n:=n) o.prim.ne T;obtain⟨P,pP,eP,U⟩:∃P∈J,b8 m P=e/\cr (a-b) (P-b)≠0:=by
  by_cases z:∃P∈J,b8 m P=e/\cr (a-b) (P-b)≠0
  .show z
  exfalso;let{A,hA,B,hB,D,hD,eA,eB,eD,hc}:=f.three;have k:=λX hX dX=>by
   by_cases q:cr (a-b) (X-b)=0
   .show q
   show gs {X,hX,dX,q} z
  have k2:∀X∈J,b8 m X=e->∀Y∈J,b8 m Y=e->cr (X-Y) (a-b)=0:=λX hX dX Y hY dY=>DY (k X hX dX) (k Y hY dY);show hc (dS (λq=>h.ne (B5 q)) (k2 B hB eB A hA eA)<|k2 D hD eD A hA eA)
 have mab:b8 m (a-b)=0:=by rw[c8];lia
 have mP:b8 m (P-b)=0:=by rw[c8];lia
 let{k,l,hk,ek}:=w6 f.prim.ne (A7 mab mP);have dl:=λw=>by have:=gn (λv=>b8 v w) ek;erw[y7,M2]at this;show this
 have l0:l≠0:=λq=>U (by rw[q,o8]at ek;show wP hk ek)
 have y:∀Q∈J,b8 m (Q-b)<=0:=λQ hQ=>by rw[c8];have:=f.sup Q hQ;lia
 let{Z,hZ,hz}:=hs.below o.prim.ne o.sup;by_cases hl:0<l
 .
  right;obtain⟨O,hO,L⟩:∃O∈m7 (b7 b a J).1 (b7 b a J).2 J,0<e9 (b7 b a J).1 (a-b) (O-b):=x.ac2 N;let{pO,dO}:=c5.mp hO;let{_,e1b}:=c5.mp N.p;let{_,e1a}:=c5.mp N.q;have t1:e9 (a-b) (P-b) (O-b)<=0:=by
   have q:=dl (O-b);have:=aAz (y O pO) (aAA hl);rw[aBJ]at this;by_cases z:e9 (a-b) (P-b) (O-b)<=0
   .show z
   have:=aAY hk (show 0<e9 (a-b) (P-b) (O-b)by lia);lia
  have g:cr (b7 b a J).1 (cr (a-b)<|O-b)=0:=A7 (by rw[c8];lia) (by rw[c8];lia);let{k',r,E,i}:=w6 x.prim.ne g;have j:∀w,k'*e9 (a-b) (O-b) w=r*b8 (b7 b a J).1 w:=λw=>by have:=gn (λv=>b8 v w) i;erw[y7,M2]at this;show this
  have ie:0<r:=by
   have q:=gn (b8 (b7 b a J).1) i;rw[f7,f7]at q;have s:0<b8 (b7 b a J).1 (cr (a-b)<|O-b):=L;have:=aAY E s;have hn:=t5 x.prim.ne;by_cases z:0<r
   .show z
   have:=aAJ (show r<=0 by lia) (aAA hn);simp at this;lia
  have t2:e9 (a-b) (O-b) (P-b)<=0:=by
   have q:=j (P-b);have h0:b8 (b7 b a J).1 (P-b)<=0:=by rw[c8];have:=x.sup P pP;lia
   have:=aAz h0 (aAA ie);rw[aBJ]at this;by_cases z:e9 (a-b) (O-b) (P-b)<=0
   .show z
   have:=aAY E (show 0<e9 (a-b) (O-b) (P-b)by lia);lia
  have t3:e9 (a-b) (O-b) (P-b)=0:=by rw[j2]at t1;lia
  have H:=j (P-b);rw[t3,aBJ]at H;have I:b8 (b7 b a J).1 P=(b7 b a J).2:=by have:=(aAr.mp H.symm).resolve_left (by lia);rw[c8]at this;lia
  let{Z',t,u}:=hs.below f.prim.ne f.sup;let{q1,s}:=kO f.prim x.prim f.sup x.sup gb ga eP e1b e1a I U t u;show aEr q1 s
 .
  left;have om:l<0:=by lia
  let{O,hO,L}:=o.ac2 h;let{pO,dO}:=c5.mp hO;rw[sK]at L;have t1:0<=e9 (a-b) (P-b) (O-b):=by
   have q:=dl (O-b);have h2:0<=l*b8 m (O-b):=by
    have:=aAS (show 0<=-l by lia) (show 0<=-b8 m (O-b)by have:=y O pO;lia)
    rwa [aDA]at this
   by_cases z:0<=e9 (a-b) (P-b) (O-b)
   .show z
   have:=aAv hk (show e9 (a-b) (P-b) (O-b)<0 by lia);lia
  have g:cr n (cr (b-a)<|O-b)=0:=A7 (by rw[c8];lia) (by rw[c8];lia);let{k',r,E,i}:=w6 o.prim.ne g;have j:∀w,k'*e9 (b-a) (O-b) w=r*b8 n w:=λw=>by have:=gn (λv=>b8 v w) i;erw[y7,M2]at this;show this
  have ie:0<r:=by
   have q:=gn (b8 n) i;rw[f7,f7]at q;have s:0<b8 n (cr (b-a)<|O-b):=L;have:=aAY E s;have hn:=t5 o.prim.ne;by_cases z:0<r
   .show z
   have:=aAJ (show r<=0 by lia) (aAA hn);simp at this;lia
  have t2:e9 (b-a) (O-b) (P-b)<=0:=by
   have q:=j (P-b);have h0:b8 n (P-b)<=0:=by rw[c8];have:=o.sup P pP;lia
   have:=aAz h0 (aAA ie);rw[aBJ]at this;by_cases z:e9 (b-a) (O-b) (P-b)<=0
   .show z
   have:=aAY E (show 0<e9 (b-a) (O-b) (P-b)by lia);lia
  have e3:e9 (b-a) (O-b) (P-b)=e9 (a-b) (P-b) (O-b):=by simp[e9,b8];grind
  have t3:e9 (b-a) (O-b) (P-b)=0:=by lia
  have H:=j (P-b);rw[t3,aBJ]at H;have onn:b8 n P=d:=by have:=(aAr.mp H.symm).resolve_left (by lia);rw[c8]at this;lia
  let{Z',t,u}:=hs.below f.prim.ne f.sup;let{q1,s}:=kO f.prim o.prim f.sup o.sup gb ga eP db da onn U t u;show aEr q1 s
end
def DK(i:f8 J)(j:m∈J)(k:∀X∈J,X=m\/d7 (X-m)):
  Z1 (b7 m (m+kk) J).1/\m∈m7 (b7 m (m+kk) J).1 (b7 m (m+kk) J).2 J/\∃a∈m7 (b7 m (m+kk) J).1 (b7 m (m+kk) J).2 J,m≠a:=by
 have C:ConeM (m+kk-m) (λw=>0<w.x\/(w.x=0/\0<w.y)):=by rw[A5];show xF
 have l:m+kk-m≠0:=by rw[A5];intro e;have:=gn V.z e;simp[kk]at this
 have b:∀P∈J,(0<(P-m).x\/((P-m).x=0/\0<(P-m).y))\/cr (m+kk-m) (P-m)=0:=λP o=>by
  rw[A5];rcases k P o with e|e
  .right;subst e;rw[t6];apply ext<;>simp
  unfold d7 at e;rcases e with e|⟨f,e|⟨p,B⟩⟩
  .show .inl (.inl e)
  .show .inl (.inr {f,e})
  right;apply ext
  .simp[kk];simp at p;omega
  .simp[kk];simp at f;omega
  simp[kk]
 have r:∃P∈J,0<(P-m).x\/((P-m).x=0/\0<(P-m).y):=by
  by_cases z:∃P∈J,0<(P-m).x\/((P-m).x=0/\0<(P-m).y)
  .show z
  exfalso;let{Z,h,e}:=i.off (n:={1,0,0}) (d:=m.x) (λe=>by have:=gn V.x e;simp at this);have w:=(b Z h).resolve_left λq=>z {Z,h,q};rw[A5]at w;have:=gn V.y w;simp[kk]at this;simp[b8]at e
  lia
 let{a,g,s,E,H,I,t,u,v,L,A,N}:=L7 C l b r;show{t,c5.mpr {j,u.symm},a,c5.mpr {s,A},λe=>?_}
 nofun
section
variable{J:List V} (hs:f8 J) (ho:J.Pairwise (λa b=>d7 (b-a)))
include hs ho
theorem BA(d:IsFace J f.1 f.2)(e:IsFace J g.1 g.2)(k:(a,b)∈Z0 (d8 J f))(l:(a,b)∈Z0 (d8 J g)):f=g:=by
 have i:=(d.aa2 ho).aa1.mp k;have h:=(e.aa2 ho).aa1.mp l;let{m,j}:=cZ hs ho d i;rcases ML hs ho d e i (c5.mp h.p).2 (c5.mp h.q).2 with q|q
 .show q.symm
 exfalso;have:g=b7 b a J:=q;rw[<-this]at j;show bV hs ho e h j
theorem OG(h:l.Nodup):(Z0 l).Nodup:=by
 have:((Z0 l).map (·.1)).Nodup:=by
  unfold Z0;rw[List.map_fst_zip]
  .show h
  simp;lia
 show(aBM.mp this).imp λ{a b} h e=>h (by rw[e])
def NV(J:List V)(fs:List (V×Int)):List (V×V):=fs.flatMap λf=>Z0 (d8 J f)
omit hs ho in
theorem TL(fs:List (V×Int)):(NV J fs).length=(fs.map λf=>(d8 J f).length).sum:=by
 induction fs with
 |nil=>rfl
 |cons f fs a=>change(Z0 (d8 J f)++NV J fs).length=_;rw[aAx,a,aAq,aCa];unfold Z0;simp;lia
theorem rR:∀{fs:List (V×Int)},fs.Nodup->(∀f∈fs,IsFace J f.1 f.2)->(NV J fs).Nodup:=by
 intro i j b;cases i with
 |nil=>show aDp
 |cons f fs=>have d:=aBi.mp j;have h:=b f (.head _);change(Z0 (d8 J f)++NV J fs).Nodup;rw[aCH];show{OG hs ho ((h.aa2 ho).aa4),rR d.2 λg a=>b g (.tail _ a),λe k n l q=>?_};subst q;let{g,a,m}:=aAQ.mp l;show d.1 (BA hs ho h (b g<|.tail _ a) k m▸a)
theorem mW{fs:List (V×Int)}(s:fs.Nodup)(j:∀f∈fs,IsFace J f.1 f.2):(fs.map λf=>(d8 J f).length).sum+J.length<=J.length*J.length:=by
 have i:J.Nodup:=ho.imp λ{a b} h e=>by subst e;show K7 h
 have t:(NV J fs++J.map λa=>(a,a)).Nodup:=by rw[aCH];show{(rR hs ho s j),aBM.mpr (i.imp λ{a b} h e=>h (Prod.mk.inj e).1),λe d y u q=>?_};subst q;let{g,k,m}:=aAQ.mp d;let{a,_,rfl}:=aAh.mp u;show(((j g k).aa2 ho).aa1.mp m).ne rfl
 have v:∀e∈NV J fs++J.map (λa=>(a,a)),e∈J.flatMap λa=>J.map λb=>(a,b):=λe d=>by
  rcases aAO.mp d with d|d
  .let{g,k,m}:=aAQ.mp d;have n:=((j g k).aa2 ho).aa1.mp m;show aAQ.mpr {e.1,(c5.mp n.p).1,aAh.mpr {e.2,(c5.mp n.q).1,rfl}}
  let{a,o,rfl}:=aAh.mp d;show aAQ.mpr {a,o,aAh.mpr {a,o,rfl}}
 have r:=p8 t v;have w:(J.flatMap λa=>J.map λb=>(a,b)).length=J.length*J.length:=by
  have:∀l:List V,(l.flatMap λa=>J.map λb=>(a,b)).length=l.length*J.length:=λl=>by
   induction l with
   |nil=>simp
   |cons a l x=>rw[aCI,aAx,x,aAf,aAp,aDV];lia
  show this J
 rw[aAx,TL,aAf,w]at r;show r
theorem fE{fs:List (V×Int)}(a:∀f∈fs,IsFace J f.1 f.2):3*fs.length<=(fs.map λf=>(d8 J f).length).sum:=by
 induction fs with
 |nil=>simp
 |cons f fs b=>
  have:=b λg d=>a g (.tail _ d);let{r,s,t,l,e}:=S7 ho (a f<|.head _);have h:(d8 J f).length=l.length+3:=by change(j4 f.1 (m7 f.1 f.2 J)).length=_;rw[e];simp
  rw[aAq,aCa,aAp,h]
  lia
end
theorem nF:∀(J:List V) (d b:V),(I0 a A J d b).2∈J\/(I0 a A J d b).2=b:=by
 intro f d b;cases f with
 |nil=>show .inr rfl
 |cons P e=>
  unfold I0;split
  .rcases nF e (cr a<|P-A) P with h|h
   .show .inl (.tail _ h)
   show .inl (by rw[h];show .head _)
  rcases nF e d b with h|h
  .show .inl (.tail _ h)
  show .inr h
section
variable{J c:List V} (hs:f8 J) (ho:J.Pairwise (λa b=>d7 (b-a))) (dc:c.Pairwise (λa b=>d7 (b-a))) (hc:∀X,X∈c↔∃f:V×Int,IsFace J f.1 f.2/\X∈d8 J f)
include hs ho dc hc
theorem xz(h:X∈c):X∈J:=by let{f,a,b}:=(hc X).mp h;show(c5.mp<|(a.aa2 ho).aa3 b).1
theorem mH(a:IsFace J n d)(h:X∈d8 J (n,d)):X∈m7 n d c:=c5.mpr {(hc X).mpr {(n,d),a,h},((c5.mp<|(a.aa2 ho).aa3 h).2)}
theorem a3j(h:X∈m7 n d c):X∈m7 n d J:=c5.mpr {xz hs ho dc hc (c5.mp h).1,(c5.mp h).2}
theorem mV(a:IsFace J n d):IsFace c n d:=by
 have S:=a.aa2 ho;let{r,s,t,l,e}:=S7 ho a;have g:r∈j4 n (m7 n d J):=by nofun
 have i:s∈j4 n (m7 n d J):=by nofun
 have f:t∈j4 n (m7 n d J):=by nofun
 have b:=S.aa4;rw[e]at b;simp at b;have st:=S.strict (S.aa1.mp (by rw[e];simp[Z0])) f (λq=>b.1.2.1 q.symm) (λq=>b.2.1.1 q.symm);have k:=λ{X} (h:X∈j4 n (m7 n d J))=>mH hs ho dc hc a h;show{a.prim,λX j=>a.sup X (xz hs ho dc hc j),r,(c5.mp<|k g).1,s,(c5.mp<|k i).1,t,(c5.mp<|k f).1,(c5.mp<|k g).2,(c5.mp<|k i).2,(c5.mp<|k f).2,λq=>?_};unfold e9 at st;rw[q,A1]at st
 lia
theorem xY(e:IsFace J n d)(h:EdgeOf n (λX=>X∈m7 n d J) a b):EdgeOf n (λX=>X∈m7 n d c) a b:=by have S:=e.aa2 ho;have m:=gP S (S.aa1.mpr h);show{mH hs ho dc hc e m.1,mH hs ho dc hc e m.2,h.ne,λX f=>h.left X (a3j hs ho dc hc f),λX f=>h.btw X (a3j hs ho dc hc f)}
omit hs ho dc hc in
theorem sM{R:V->Prop}{E:List (V×V)}(g:∀a b,R a->(a,b)∈E->R b):∀(x:V) (l:List V),R x->(∀e∈u6 (x::l),e∈E)->∀X∈x::l,R X:=by
 intro x i f h X d;cases i with
 |nil=>rw[aAK.mp d];show f
 |cons y l=>
  have j:=g x y f (h (x,y) (by simp[u6]));rcases aAe.mp d with rfl|d
  .show f
  show sM g y l j (λe k=>h e (by erw[u6,aAe];show .inr k)) X d
theorem GD(i:IsFace J n d)(h:X∈j4 n (m7 n d c)):X∈j4 n (m7 n d J):=by
 have S:=i.aa2 ho;have o:=(mV hs ho dc hc i).aa2 dc;let{m,r,e,t,u}:=o.ab1;let{g,H,p,v,w}:=S.ab1;have x:m=g:=by
  have y:g∈m7 n d c:=mH hs ho dc hc i (show g∈j4 n (m7 n d J)by rw[p];simp);rcases u g y with q|q
  .show q.symm
  rcases w m (a3j hs ho dc hc t)with j|j
  .show j
  show gs (y8.add q j) (by
   have:(g-m)+(m-g)=0:=by apply ext<;>simp<;>lia
   rw[this];showλz=>by simp[d7]at z)
 have step:∀a b,a∈j4 n (m7 n d J)->(a,b)∈Z0 (j4 n<|m7 n d c)->b∈j4 n (m7 n d J):=λa b A k=>by let{I,s}:=V7 S A;have B:=o.aa1.mp k;have C:=xY hs ho dc hc i (S.aa1.mp s);rw[B.next C];show(gP S s).2
 rw[e]at h;show sM (E:=Z0 (j4 n<|m7 n d c)) (R:=λX=>X∈j4 n (m7 n d J)) step m r (by rw[x,p];simp) (λf l=>?_) X h;rw[e,Y3];show iZ r m m f l
theorem DG(f:IsFace J n d)(h:EdgeOf n (λX=>X∈m7 n d c) a b):EdgeOf n (λX=>X∈m7 n d J) a b:=by have S:=f.aa2 ho;have g:=(mV hs ho dc hc f).aa2 dc;let{j,i}:=V7 S (GD hs ho dc hc f<|g.ab0 h);have e:=S.aa1.mp i;rw[h.next (xY hs ho dc hc f e)];show e
theorem JT(b:IsFace J n d):f8 c:=by
 have S:=b.aa2 ho;let{r,s,t,l,e}:=S7 ho b;have y:r∈j4 n (m7 n d J):=by rw[e];simp
 have p:t∈j4 n (m7 n d J):=by rw[e];simp
 have i:=S.aa4;rw[e]at i;simp at i;have a:EdgeOf n (λX=>X∈m7 n d J) r s:=S.aa1.mp (by rw[e];simp[Z0]);have st:=S.strict a p (λq=>i.1.2.1 q.symm) (λq=>i.2.1.1 q.symm);let{j,A}:=cZ hs ho b a;generalize(b7 s r J).1=m at*
 generalize(b7 s r J).2=f at*
 have T:=j.aa2 ho;let{C,E,H,l2,o}:=S7 ho j;have g:=T.aa4;rw[o]at g;simp at g;obtain⟨Y,x,I,L⟩:∃Y∈j4 m (m7 m f J),Y≠s/\Y≠r:=by
  have q1:C∈j4 m (m7 m f J):=by rw[o];simp
  have q2:E∈j4 m (m7 m f J):=by rw[o];simp
  have q3:H∈j4 m (m7 m f J):=by rw[o];simp
  grind
 have lt:=QF hs j b A a (T.aa3 x) (T.strict A x I L);have k:=λ{X} (h:X∈j4 n (m7 n d J))=>mH hs ho dc hc b (X:=X) h;have B:s∈j4 n (m7 n d J):=by rw[e];simp
 have dr:=(c5.mp<|k y).2;have N:=(c5.mp<|k B).2;have dt:=(c5.mp<|k p).2;show{r,(c5.mp<|k y).1,s,(c5.mp<|k B).1,t,(c5.mp<|k p).1,Y,(c5.mp<|mH hs ho dc hc j x).1,λz=>?_};have O:b8 n (s-r)=0:=by rw[c8];lia
 have Q:b8 n (t-r)=0:=by rw[c8];lia
 have U:b8 n (Y-r)<0:=by rw[c8];lia
 have id:e9 (s-r) (t-r) (Y-r)*b8 n n=e9 n (s-r) (t-r)*b8 n (Y-r)+b8 n (s-r)*(b8 n (t-r)*0)+(b8 n (s-r)*e9 n (t-r) (Y-r)+b8 n (t-r)*e9 n (Y-r) (s-r)):=by
  generalize s-r=u;generalize t-r=v;generalize Y-r=w;have:=VP n n u v w
  lia
 rw[z,O,Q]at id;have:e9 n (s-r) (t-r)*b8 n (Y-r)<0:=aAv st U
 nofun
theorem jx(fs:List (V×Int))(k:fs≠[])(e:∀f,f∈fs↔IsFace J f.1 f.2):IsFace c n d↔IsFace J n d:=by
 show{λh=>?_,mV hs ho dc hc};let{o,g}:=aDO fs k;have:=wU (JT hs ho dc hc<|(e o).mp g) dc fs k (λf i=>mV hs ho dc hc ((e f).mp i)) (λf i a b j=>?_) h
 .show(e _).mp this
 have l:=(e f).mp i;let{m,p}:=cZ hs ho l (DG hs ho dc hc l j);show{b7 b a J,(e _).mpr m,xY hs ho dc hc m p}
theorem UR(b:X∈c):∃f:V×Int,IsFace c f.1 f.2/\X∈d8 c f:=by let{{n,d},a,h}:=(hc X).mp b;have S:=a.aa2 ho;let{Q,e}:=V7 S h;show{(n,d),mV hs ho dc hc a,((mV hs ho dc hc a).aa2 dc).ab0 (xY hs ho dc hc a<|S.aa1.mp e)}
end
def a0i{Pos:V->Prop}(C:Cone Pos){n m p v q u:V}(g:n≠0)(o:b8 n p=0)(d:b8 n v=0)(f:b8 n q=0)(r:b8 n u=0)(A:Pos p)(i:Pos v)(j:Pos q)(B:Pos u)(E:0<b8 m p)(mv:b8 m v<0)(k:0<b8 m q)(mu:b8 m u<0)(s:0<=e9 n v p)(t:0<=e9 n q u):False:=by
 have id:∀{a b c:V},b8 n a=0->b8 n b=0->b8 n c=0->e9 n a b*b8 m c+e9 n b c*b8 m a+e9 n c a*b8 m b=0:=λ{a b c} H I J=>by have:=VP m n a b c;rw[v9 g H I J,aGw]at this;show this
 have L:=id d o f;have N:=id f r d;rcases aDB 0 (e9 n q v)with h|h
 .
  have l:=C.tr j i A (v9 g f d o) h s;rw[(j2 n q p)]at L;have O:=aAS s (aAA k);have Q:0< -e9 n q p*b8 m v:=by have:=aAY l (show 0< -b8 m v by lia);grind
  have T:=aAY h E
  lia
 rcases aDB (e9 n q v) 0 with h'|h'
 .have e0:=j2 n q v;have w:0<e9 n v q:=by lia
  have l:=C.tr i j B (v9 g d f r) w t;rw[(j2 n v u)]at N;have O:e9 n q u*b8 m v<=0:=by have:=aAS t (show 0<=-b8 m v by lia);grind
  have Q:-e9 n v u*b8 m q<0:=by have:=aAY l k;grind
  have T:e9 n v q*b8 m u<0:=by have:=aAY w (show 0< -b8 m u by lia);grind
  lia
 have z:e9 n q v=0:=by lia
 have c0:=M9 g f d z;have e:b8 m q*v+(-b8 m v)*q=0:=by have U:=gn V.x c0;have Y:=gn V.y c0;have hz:=gn V.z c0;simp at U Y hz;apply ext<;>simp[b8]<;>grind
 have:=C.add (C.mul k i) (C.mul (show 0< -b8 m v by lia) j);rw[e]at this;show C.irr this
section
def zq{a b c:Int}{k n m:V}(h:c*k=a*n+b*m):a*n=c*k+-b*m:=by rw[h];apply ext<;>simp<;>lia
def vk{a b c:Int}{k n m:V}(h:c*k=a*n+b*m)(z:b=0):a*n=c*k:=by rw[h,z,o8,iY]
variable{n:V}{ts:List V} (S:Sheet n ts)
include S
theorem Sheet.ad4(h:X∈x8 n ts\/X∈x8 n ts.reverse):X∈j4 n ts:=by
 let{m,M,c,d,j,k,f,l,o,b,e,g,i,p,q}:=S.ends;unfold j4;rw[aAO,b,e,aBc,aBc,aBP,aBP,aBt,aBt];rw[b,e]at h;have a:m≠M:=λz=>by subst z;show K7 f
 rcases h with h|h
 .rcases aAe.mp h with rfl|h
  .right;have:=aCY i;rcases aAe.mp this with z|z
   .show gs z.symm a
   show z
  show .inl h
 rcases aAe.mp h with rfl|h
 .left;have:=aCY g
  nofun
 show .inr h
theorem Sheet.top(d:X∈ts)(h:∀Y∈ts,Y≠X->b8 m Y<b8 m X):X∈j4 n ts:=by
 let{r,n1,t1}:=S.ab3;let{s,n2,t2}:=S.ab2;have t:∀u,d7 u->d7 (-u)->False:=λu w x=>by have:=y8.add w x;have y:u+-u=0:=(by apply ext<;>simp<;>lia);rw[y]at this;show y8.irr this
 have A:∀u,R9 u->R9 (-u)->False:=λu w x=>by have:=aZ.add w x;have y:u+-u=0:=(by apply ext<;>simp<;>lia);rw[y]at this;show aZ.irr this
 rcases qG X (x8 n ts) (λY _=>M7 X Y) (λq B=>t1 X q B d) (λz C=>r.last X d z C) n1 t with E|⟨a,b,j,O,Q⟩
 .show S.ad4 (.inl E)
 rcases qG X (x8 n ts.reverse) (λY _=>by
   rcases M7 X Y with z|z|z
   .show .inl z
   .show .inr (.inr (o9.mpr z))
   show .inr (.inl (o9.mpr z))) (λq B=>t2 X q B d) (λz C=>s.last X d z C) n2 A with E|⟨p,H,f,I,jl⟩
 .show S.ad4 (.inr E)
 exfalso;have T:=N3 S j;have U:=N3 S f;have J:=r.mem _ T.1;have L:=r.mem _ T.2;have g:=s.mem _ U.1;have i:=s.mem _ U.2;have E2:=(S.ae6 f g i).1.left X d;have k:=o9.mp I;have l:=o9.mp jl;have ne:∀{Y},d7 (X-Y)->Y≠X:=λN z=>by subst z;show K7 N
 have o:∀{Y},d7 (Y-X)->Y≠X:=λN z=>by subst z;show K7 N
 have va:=h a J (ne O);have vb:=h b L (o Q);have va':=h p g (o k);have vb':=h H i (ne l);show a0i y8 (n:=n) (m:=m) (v:=b-X) S.nz (S.pl _ d _ J) (S.pl _ L _ d) (S.pl _ d _ i) (S.pl _ g _ d) O Q l k (by rw[c8];lia) (by rw[c8];lia) (by rw[c8];lia) (by rw[c8];lia) ?_ ?_
 .have e:e9 n (b-a) (X-a)=e9 n (b-X) (X-a):=by simp[e9,b8];grind
  rw[<-e];show((S.ae2 j J L).1.left X d)
 have e:e9 n (H-p) (X-p)=e9 n (X-H) (p-X):=by simp[e9,b8];grind
 rw[<-e];show E2
end
section
variable{J:List V} (hs:f8 J)
include hs
theorem bI(a:IsFace J n d)(b:IsFace J m e)(p:b8 n X=d)(r:b8 m X=e)(h:cr m n=0):(n,d)=(m,e):=by
 let{k,l,f,g}:=w6 b.prim.ne h;let{Z,i,s}:=hs.below a.prim.ne a.sup;have j:0<l:=by
  have q:=gn (λv=>b8 v (Z-X)) g;rw[y7,y7]at q;have o:b8 n (Z-X)<0:=by rw[c8];lia
  have t:b8 m (Z-X)<=0:=by rw[c8];have:=b.sup Z i;lia
  have u:=aAv f o;by_cases z:0<l
  .show z
  exfalso;have:0<=l*b8 m (Z-X):=by
   have:=aAS (show 0<=-l by lia) (show 0<=-b8 m (Z-X)by lia)
   rwa [aDA]at this
  lia
 have w:=kK a.prim b.prim f j g
 nofun
theorem GC{a b c:Int}(l:IsFace J n d)(o:IsFace J m e)(p:IsFace J k f)(hX:b8 n X=d)(oa:b8 m X=e)(r:b8 k X=f)(hc:0<c)(s:0<a)(t:0<b)(h:c*k=a*n+b*m)(u:cr n m≠0):False:=by
 let{A,w,B,x,C,y,E,H,I,g}:=p.three;have i:∀Y∈J,b8 k Y=f->b8 n Y=d/\b8 m Y=e:=λY j hy=>by
  have h1:=l.sup Y j;have h2:=o.sup Y j;have q:=gn (λv=>b8 v (Y-X)) h;have q:c*b8 k (Y-X)=a*b8 n (Y-X)+b*b8 m (Y-X):=by
   have L:b8 (a*n+b*m) (Y-X)=a*b8 n (Y-X)+b*b8 m (Y-X):=by simp[b8];grind
   rw[<-(y7 ..),<-L];show q
  have N:b8 k (Y-X)=0:=by rw[c8];lia
  rw[N,aBJ]at q;have O:b8 n (Y-X)<=0:=by rw[c8];lia
  have Q:b8 m (Y-X)<=0:=by rw[c8];lia
  have a0:=aAs (aAA s) O;have b0:=aAs (aAA t) Q;have T:a*b8 n (Y-X)=0:=by lia
  have U:b*b8 m (Y-X)=0:=by lia
  have y1:b8 n (Y-X)=0:=by rcases aAr.mp T with z|z;lia;show z
  have y2:b8 m (Y-X)=0:=by rcases aAr.mp U with z|z;lia;show z
  rw[c8]at y1 y2;show{by lia,by lia}
 let{a1,a2}:=i A w E;let{b1,b2}:=i B x H;let{c1,c2}:=i C y I;have p2:cr m (cr (B-A)<|C-A)=0:=A7 (by rw[c8];lia) (by rw[c8];lia);show u (dS g (A7 (by rw[c8];lia) (by rw[c8];lia)) p2)
theorem gS(o:IsFace J n d)(p:IsFace J m e)(i:IsFace J k f)(B:b8 n X=d)(C:b8 m X=e)(E:b8 k X=f)(n12:(n,d)≠(m,e))(n13:(n,d)≠(k,f))(n23:(m,e)≠(k,f)):e9 n m k≠0:=λz=>by
 have H:cr n m≠0:=λq=>n12 (bI hs p o C B q).symm;have I:cr n k≠0:=λq=>n13 (bI hs i o E B q).symm;have L:cr m k≠0:=λq=>n23 (bI hs i p E C q).symm;have j:∀{u v:V},cr u v≠0->cr v u≠0:=λh q=>h (by rw[pU,q];rfl);obtain⟨w,ew⟩:∃w,w=cr n m:={_,rfl};have r:=EL w n m k;rw[z]at r;have A:0<e9 w n m:=by
  have:e9 w n m=b8 w w:=by rw[ew];rfl
  rw[this,ew];show t5 H
 obtain⟨c,ec⟩:∃c,c=e9 w n m:={_,rfl};obtain⟨a,ea⟩:∃a,a=-e9 w m k:={_,rfl};obtain⟨b,eb⟩:∃b,b=-e9 w k n:={_,rfl};have g:c*k=a*n+b*m:=by rw[ec,ea,eb];have hx:=gn V.x r;have N:=gn V.y r;have U:=gn V.z r;simp at hx N U;apply ext<;>simp<;>lia
 rw[<-ec]at A;have r2:=(g.trans (ext (aGx _ _) (aGx _ _) (aGx _ _)):c*k=b*m+a*n);have l:∀{u v:V}{s t:Int},s≠0->s*u=t*v->cr u v=0:=λ{u v s t} jn h=>by
  have hx:=gn V.x h;have N:=gn V.y h;have U:=gn V.z h;simp at hx N U;have O:∀y:Int,s*y=0->y=0:=λy N=>by rcases aAr.mp N with q|q;show gs q jn;show q
  apply ext<;>simp<;>apply O<;>grind
 rcases aDB 0 a with Y|Y
 .rcases aDB 0 b with Q|Q
  .show GC hs o p i B C E A Y Q g H
  rcases aDB b 0 with jl|jl
  .
   show GC hs i p o E C B Y A (Int.neg_pos_of_neg jl) (zq g) (j L)
  have b0:b=0:=by lia
  show I (l (aEX Y)<|vk g b0)
 rcases aDB a 0 with T|T
 .rcases aDB 0 b with Q|Q
  .show GC hs i o p E B C Q A (Int.neg_pos_of_neg T) (zq r2) (j I)
  .
   let{Z,hZ,U}:=hs.below i.prim.ne i.sup;have q:c*b8 k (Z-X)=a*b8 n (Z-X)+b*b8 m (Z-X):=by rw[<-y7,g,J5,k5,f7,f7,J5 n,J5 m]
   have k0:b8 k (Z-X)<0:=by rw[c8];lia
   have n0:b8 n (Z-X)<=0:=by rw[c8];have:=o.sup Z hZ;lia
   have m0:b8 m (Z-X)<=0:=by rw[c8];have:=p.sup Z hZ;lia
   have t1:c*b8 k (Z-X)<0:=aAv A k0;have t2:0<=a*b8 n (Z-X):=by
    have:=aAS (show 0<=-a by lia) (show 0<=-b8 n (Z-X)by lia)
    rwa [aDA]at this
   have t3:0<=b*b8 m (Z-X):=by
    have:=aAS (show 0<=-b by lia) (show 0<=-b8 m (Z-X)by lia)
    rwa [aDA]at this
   lia
 have a0:a=0:=by lia
 by_cases b0:b=0
 .rw[a0,b0,o8,o8]at g;have O:=λy (h:c*y=0)=>(aAr.mp h).resolve_left (aEX A);show i.prim.ne (ext (O _<|gn V.x g) (O _<|gn V.y g) (O _<|gn V.z g))
 show L (l b0<|vk r2 a0)
theorem vG(i:IsFace J n d)(j:IsFace J m e)(l:IsFace J k f)(p:b8 n X=d)(r:b8 m X=e)(s:b8 k X=f)(a:(n,d)≠(m,e))(b:(n,d)≠(k,f))(g:(m,e)≠(k,f)){Y:V}(h:Y∈J)(t:Y≠X):b8 (n+m+k) Y<b8 (n+m+k) X:=by
 have A:=i.sup Y h;have B:=j.sup Y h;have C:=l.sup Y h;have o:∀Z,b8 (n+m+k) Z=b8 n Z+b8 m Z+b8 k Z:=λZ=>by simp[b8];grind
 rw[o,o];rcases aDB (b8 n Y+b8 m Y+b8 k Y) (b8 n X+b8 m X+b8 k X)with q|q
 .show q
 exfalso;have u:b8 n (Y-X)=0:=by rw[c8];lia
 have v:b8 m (Y-X)=0:=by rw[c8];lia
 have w:b8 k (Y-X)=0:=by rw[c8];lia
 show t (B5 ?_);generalize Y-X=y at*
 have x:∀y:Int,e9 n m k*y=0->y=0:=λy z=>by rcases aAr.mp z with q|q;show gs q (gS hs i j l p r s a b g);show q
 simp[b8]at u v w;apply ext<;>simp<;>apply x<;>simp[e9,b8]<;>grind
theorem GJ(o:J.Pairwise (λa b=>d7 (b-a)))(p:X∈J)(j:IsFace J n d)(q:IsFace J m e)(r:IsFace J k f)(l:b8 n X=d)(s:b8 m X=e)(t:b8 k X=f)(g:(n,d)≠(m,e))(h:(n,d)≠(k,f))(i:(m,e)≠(k,f)):X∈d8 J (n,d):=by show(j.aa2 o).top (m:=n+m+k) (c5.mpr {p,l}) λY u v=>vG hs j q r l s t g h i (c5.mp u).1 v
end
def Up(J:List V)(A B C:V):Prop:=(∀X∈J,b8 (cr (B-A)<|C-A) (X-A)<=0)/\∃X∈J,b8 (cr (B-A)<|C-A) (X-A)<0
def Dn(J:List V)(A B C:V):Prop:=(∀X∈J,0<=b8 (cr (B-A)<|C-A) (X-A))/\∃X∈J,0<b8 (cr (B-A)<|C-A) (X-A)
def pR(A B C:V):cr (C-A) (B-A)=-cr (B-A) (C-A):=pU _ _
def a0b{J:List V}{A B C:V}:Dn J A B C↔Up J A C B:=by
 have e:∀X:V,b8 (cr (C-A)<|B-A) X=-b8 (cr (B-A)<|C-A) X:=λX=>by rw[pR];simp[b8];grind
 constructor
 .rintro⟨h,X,a,l⟩;show{λY b=>by have:=h Y b;rw[e];lia,X,a,by rw[e];lia}
 rintro⟨h,X,a,l⟩;show{λY b=>by have:=h Y b;rw[e]at this;lia,X,a,by rw[e]at l;lia}
def JK{J:List V}{A B C:V}(d:A∈J)(e:B∈J)(f:C∈J)(h:Up J A B C):IsFace J (c9 A B C).1 (c9 A B C).2:=by
 let{i,X,o,a}:=h;have ne:cr (B-A) (C-A)≠0:=λz=>by rw[z]at a;simp[b8]at a
 let{g,j,k,l,m}:=Y0 ne;have b:∀Y:V,b8 (cr (B-A)<|C-A) (Y-A)=g*(b8 (c9 A B C).1 Y-(c9 A B C).2):=λY=>by rw[m,k,y7,c8]
 have zero:∀Y:V,b8 (cr (B-A)<|C-A) (Y-A)=0->b8 (c9 A B C).1 Y=(c9 A B C).2:=λY h=>by rw[b]at h;rcases aAr.mp h with h|h<;>lia
 show{l,λY n=>?_,A,d,B,e,C,f,zero A ?_,zero B ?_,zero C ?_,ne}
 .have:=i Y n;rw[b]at this;by_cases z:b8 (c9 A B C).1 Y<=(c9 A B C).2
  .show z
  have:=aAY j (show 0<b8 (c9 A B C).1 Y-(c9 A B C).2 by lia);lia
 .simp[b8]
 .simp[b8];grind
 simp[b8];grind
def KG{J:List V}{n:V}{d:Int}(S:f8 J)(h:IsFace J n d){A B C:V}(hA:A∈J)(a:b8 n A=d)(b:b8 n B=d)(c:b8 n C=d)(i:0<b8 n (cr (B-A) (C-A))):Up J A B C/\c9 A B C=(n,d):=by
 have e:cr (B-A) (C-A)≠0:=λz=>by rw[z]at i;simp[b8]at i
 let{g,j,r,u,v}:=Y0 e;have p:cr n (cr (B-A)<|C-A)=0:=A7 (by rw[c8];lia) (by rw[c8];lia);let{k,l,s,m}:=w6 h.prim.ne p;have w:0<l:=by
  have q:=gn (b8 n) m;rw[f7,f7]at q;have:=aAY s i;have x:=t5 h.prim.ne;by_cases z:0<l
  .show z
  have:=aAJ (show l<=0 by lia) (aAA x);simp at this;lia
 rw[r]at m;have y:(k*g)*(c9 A B C).1=l*n:=by rw[<-m];apply ext<;>simp<;>grind
 have o:=kK u h.prim (aAY s j) w y;have E:(c9 A B C).2=d:=by rw[v,o];show a
 have t:∀Y:V,b8 (cr (B-A)<|C-A) (Y-A)=g*(b8 n Y-d):=λY=>by rw[<-a,r,o,y7,c8]
 show{{λX f=>?_,?_},aEr o E}
 .rw[t];have:=aAS (aAA j) (show 0<=d-b8 n X by have:=h.sup X f;lia);have H:g*(d-b8 n X)=-(g*(b8 n X-d)):=by grind
  lia
 by_cases q:∃X∈J,b8 n X<d
 .let{X,f,l}:=q;show{X,f,?_};rw[t];have:=aAY j (show 0<d-b8 n X by lia);have H:g*(d-b8 n X)=-(g*(b8 n X-d)):=by grind
  lia
 exfalso;have all:∀X∈J,b8 n X=d:=λX f=>by
  have:=h.sup X f;by_cases l:b8 n X<d
  .show gs {X,f,l} q
  lia
 let{P,I,Q,L,R,N,T,O,U}:=S;have z:∀X∈J,b8 n (X-P)=0:=λX f=>by rw[c8,all X f,all P I];lia
 show U (v9 h.prim.ne (z Q L) (z R N)<|z T O)
def HY{J:List V}{n:V}{d:Int}(S:f8 J)(h:IsFace J n d){A B C:V}(f:A∈J)(a:b8 n A=d)(b:b8 n B=d)(c:b8 n C=d)(e:cr (B-A) (C-A)≠0):(Up J A B C/\c9 A B C=(n,d))\/(Dn J A B C/\c9 A C B=(n,d)):=by
 by_cases z:0<b8 n (cr (B-A)<|C-A)
 .show .inl (KG S h f a b c z)
 have g:b8 n (cr (B-A)<|C-A)≠0:=λq=>e (M9 h.prim.ne (by rw[c8];lia) (by rw[c8];lia) q);have t:b8 n (cr (C-A)<|B-A)=-b8 n (cr (B-A)<|C-A):=by rw[pR];simp[b8];grind
 have:=KG S h f a c b (by lia);show .inr {a0b.mpr this.1,this.2}
def a5r(J:List V)(A B C:V):Prop:=∃i j k:Nat,i<j/\j<k/\J[i]?=some A/\J[j]?=some B/\J[k]?=some C
def qw{J:List V}{A B C:V}(E:A∈J)(H:B∈J)(I:C∈J)(e:cr (B-A) (C-A)≠0):∃r s t,a5r J r s t/\cr (s-r) (t-r)≠0/\∀p:V->Prop,p A->p B->p C->p r/\p s/\p t:=by
 let{i,g}:=aBZ.mp E;let{j,f}:=aBZ.mp H;let{k,d}:=aBZ.mp I;have l:∀{v w:V},v≠0->(w=v\/w=-v)->w≠0:=λ{v w} u h z=>by
  rcases h with h|h
  .show u (h▸z)
  rw[h]at z;have L:=gn V.x z;have N:=gn V.y z;have O:=gn V.z z;simp at L N O;show u (ext (by erw[WP];lia) (by erw[VZ];lia) (by erw[XQ];lia))
 have Q:i≠j:=λq=>by
  subst q;rw[g]at f;injection f with f;subst f
  show e (by apply ext<;>simp)
 have T:i≠k:=λq=>by
  subst q;rw[g]at d;injection d with d;subst d
  show e (by apply ext<;>simp)
 have U:j≠k:=λq=>by
  subst q;rw[f]at d;injection d with d;subst d
  show e (by apply ext<;>simp<;>grind)
 rcases aFc Q with m|m<;>rcases aFc T with n|n<;>rcases aFc U with o|o
 .show{A,B,C,{i,j,k,m,o,g,f,d},e,λp a b c=>{a,b,c}}
 .show{A,C,B,{i,k,j,n,o,g,d,f},l e (.inr (by apply ext<;>simp<;>grind)),λp a b c=>{a,c,b}}
 .omega
 .show{C,A,B,{k,i,j,n,m,d,g,f},l e (.inl (by apply ext<;>simp<;>grind)),λp a b c=>{c,a,b}}
 .show{B,A,C,{j,i,k,m,n,f,g,d},l e (.inr (by apply ext<;>simp<;>grind)),λp a b c=>{b,a,c}}
 .omega
 .show{B,C,A,{j,k,i,o,n,f,d,g},l e (.inl (by apply ext<;>simp<;>grind)),λp a b c=>{b,c,a}}
 show{C,B,A,{k,j,i,o,m,d,f,g},l e (.inr (by apply ext<;>simp<;>grind)),λp a b c=>{c,b,a}}
def PM{J:List V}(S:f8 J){n:V}{d:Int}:IsFace J n d↔∃A B C,a5r J A B C/\((Up J A B C/\c9 A B C=(n,d))\/(Dn J A B C/\c9 A C B=(n,d))):=by
 constructor
 .intro h;let{A,m,B,o,C,p,a,b,c,e}:=h.three;let{q,r,s,t,u,v}:=qw m o p e;let{w,x,y}:=v (λX=>b8 n X=d) a b c;let{i,j,k,_,_,f,g,l}:=id t;show{q,r,s,t,HY S h (aAl f) w x y u}
 rintro⟨A,B,C,⟨i,j,k,_,_,f,g,l⟩,h|h⟩
 .have:=JK (aAl f) (aAl g) (aAl l) h.1;rw[h.2]at this;show this
 have:=JK (aAl f) (aAl l) (aAl g) (a0b.mp h.1);rw[h.2]at this;show this
abbrev T3:=V×V×V
def tr(r:T3):T3:=({r.1.x,r.2.1.x,r.2.2.x},{r.1.y,r.2.1.y,r.2.2.y},{r.1.z,r.2.1.z,r.2.2.z})
def a8b:T3:=({1,0,0},{0,1,0},{0,0,1})
def b0o(r:T3):tr (tr r)=r:=rfl
abbrev Mv:=T3×V
def yj:Mv:=(a8b,0)
section
variable{J vp:List V}{m:Mv}{n:V}{d:Int}
end
section
end
section
variable{J vp:List V}{n:V}{d:Int}
def x9(t:Int)(v:V):V:={t*v.x,t*v.y,t*v.z}
def EB(t:Int)(n:V):V:=if 0<t then n else-n
def TR(h:Z1 n):Z1 (-n):=by unfold Z1 m8 at*;exists h
def bz(t:Int)(h:Z1 n):Z1 (EB t n):=by unfold EB;split<;>first|show h|show TR h
def mZ{t:Int}(a:t≠0)(n P:V):b8 (EB t n) (x9 t P)=t.natAbs*b8 n P:=by
 unfold EB;split
 .have:(t.natAbs:Int)=t:=by lia
  rw[this];simp[x9,b8];grind
 have:(t.natAbs:Int)=-t:=by lia
 rw[this];simp[x9,b8];grind
def a4a(t:Int)(A B C:V):cr (x9 t B-x9 t A) (x9 t C-x9 t A)=(t*t)*cr (B-A) (C-A):=by apply ext<;>simp[x9]<;>grind
def JX{t:Int}(f:t≠0)(g:∀Y,Y∈vp↔∃X∈J,Y=x9 t X)(i:IsFace J n d):IsFace vp (EB t n) (t.natAbs*d):=by
 let{A,k,B,l,C,m,a,b,c,e}:=i.three;have o:(0:Int)<t.natAbs:=by lia
 show{bz t i.prim,λY p=>?_,x9 t A,(g _).mpr {A,k,rfl},x9 t B,(g _).mpr {B,l,rfl},x9 t C,(g _).mpr {C,m,rfl},?_,?_,?_,?_}
 .let{X,q,rfl}:=(g Y).mp p;rw[mZ f];show aAz (i.sup X q) (aAA o)
 .rw[mZ f,a]
 .rw[mZ f,b]
 .rw[mZ f,c]
 rw[a4a];intro z;show e ?_;have r:t*t≠0:=λw=>by rcases aAr.mp w with w|w<;>show f w
 have j:∀{a:Int},t*t*a=0->a=0:=λ{a} h=>by
  rcases aAr.mp h with h|h
  .show gs h r
  show h
 show ext (by erw[WP];apply j;exists gn V.x z) (by erw[VZ];apply j;exists gn V.y z) (by erw[XQ];apply j;exists gn V.z z)
end
structure Sl where
 a:Int
 b:Int
 c:Int
 w:V
 t:Bool
def Sl.put(s:Sl)(P:V):V:=
 let x:=P.x+s.a*P.y
 let y:=P.y+s.b*P.z
 let z:=P.z+s.c*x
 if s.t then{y+s.w.x,x+s.w.y,z+s.w.z}else{x+s.w.x,y+s.w.y,z+s.w.z}
def Sl.mv(s:Sl):Mv:=
 let d:V:={1,s.a,0}
 let e:V:={0,1,s.b}
 let f:V:={s.c,s.c*s.a,1}
 (if s.t then(e,d,f)else(d,e,f),s.w)
def iD{t:Int}(b:t≠0){J d:List V}(a:∀X∈J,x9 t X∈d)(S:f8 J):f8 d:=by
 let{A,f,B,g,C,h,D,i,e}:=S;show{_,a A f,_,a B g,_,a C h,_,a D i,?_};have:e9 (x9 t B-x9 t A) (x9 t C-x9 t A) (x9 t D-x9 t A)=t*t*t*e9 (B-A) (C-A) (D-A):=by simp[x9,e9,b8,cr];grind
 rw[this];intro z;rcases aAr.mp z with z|z
 .rcases aAr.mp z with z|z
  .rcases aAr.mp z with z|z<;>show b z
  show b z
 show e z
open Classical in
def bW(J:List V) (P:V):Int:=if∀n d,IsFace J n d->b8 n P-d<=0 then(if∀n d,IsFace J n d->b8 n P-d<0 then 1 else 0)else-1
def XF{J e:List V}{P Q:V}(f:(∀n d,IsFace J n d->b8 n P-d<=0)↔∀n d,IsFace e n d->b8 n Q-d<=0)(g:(∀n d,IsFace J n d->b8 n P-d<0)↔∀n d,IsFace e n d->b8 n Q-d<0):bW J P=bW e Q:=by
 unfold bW;by_cases a:∀n d,IsFace J n d->b8 n P-d<=0
 .rw[gi a,gi (f.mp a)];by_cases b:∀n d,IsFace J n d->b8 n P-d<0
  .rw[gi b,gi (g.mp b)]
  rw[gk b,gk (λq=>b (g.mpr q))]
 rw[gk a,gk (λq=>a (f.mpr q))]
def aJ{n m k y:V}(a:e9 n m k≠0)(d:b8 n y=0)(g:b8 m y=0)(h:b8 k y=0):y=0:=by
 have i:∀t:Int,e9 n m k*t=0->t=0:=λt j=>by
  rcases aAr.mp j with q|q
  .show gs q a
  show q
 have e:∀f:V->Int,(f=(·.x)\/f=(·.y)\/f=(·.z))->e9 n m k*f y=b8 n y*f (cr m k)+b8 m y*f (cr k n)+b8 k y*f (cr n m):=λf b=>by rcases b with rfl|rfl|rfl<;>simp[e9,b8]<;>grind
 have z:=λf b=>i _ (by rw[e f b,d,g,h];simp);show ext (z _<|.inl rfl) (z _<|.inr (.inl rfl)) (z _<|.inr (.inr rfl))
def jj{a b p q d:Int}(f:0<a)(g:0<b)(i:p<=d)(j:q<=d)(e:(a+b)*d=a*p+b*q):p=d:=by
 have k:=aAS (aAA f) (show 0<=d-p by lia);have l:=aAS (aAA g) (show 0<=d-q by lia);have m:a*(d-p)+b*(d-q)=0:=by grind
 have h:a*(d-p)=0:=by
  generalize a*(d-p)=u at*
  generalize b*(d-q)=v at*
  lia
 rcases aAr.mp h with q|q<;>lia
section
variable{J:List V} (hs:f8 J) (ho:J.Pairwise (λa b=>d7 (b-a)))
include hs ho
theorem rQ(f:IsFace J n d)(r:X∈d8 J (n,d))(s:P∈J)(t:Q∈J){a b:Int}(u:0<a)(v:0<b)(e:(a+b)*X=a*P+b*Q):P=X:=by
 let{z,A,i,j,w,x,y,k,l,o}:=V3 hs ho f r;have g:∀{m:V}{c:Int},IsFace J m c->b8 m X=c->b8 m (P-X)=0:=λ{m c} h p=>by have q:=gn (b8 m) e;rw[f7,show b8 m (a*P+b*Q)=a*b8 m P+b*b8 m Q by simp[b8];grind,p]at q;rw[c8,p,jj u v (h.sup P s) (h.sup Q t) q];lia
 show B5 (aJ (gS hs f i j k l o w x y) (g f k) (g i l)<|g j o)
end
section
variable{J:List V} (hs:f8 J) (ho:J.Pairwise (λa b=>d7 (b-a)))
include hs ho
theorem qE{a b n:V}{d:Int}(g:IsFace J n d)(h:EdgeOf n (λX=>X∈m7 n d J) a b):∃m e,IsFace J m e/\(n,d)≠(m,e)/\b8 m a=e/\b8 m b=e:=by let{i,f}:=cZ hs ho g h;show{_,_,i,λe=>?_,(c5.mp f.q).2,(c5.mp f.p).2};have:(n,d)=b7 b a J:=e;rw[<-this]at f;show bV hs ho g h f
theorem gj{n m k X Y:V}{d e f:Int}(g:IsFace J n d)(h:IsFace J m e)(i:IsFace J k f)(r:b8 n X=d)(t:b8 m X=e)(u:b8 k X=f)(j:(n,d)≠(m,e))(l:(n,d)≠(k,f))(o:(m,e)≠(k,f))(p:Y∈J)(ne:Y≠X):b8 n Y<d\/b8 m Y<e\/b8 k Y<f:=by
 have q:=gS hs g h i r t u j l o;have a:=g.sup Y p;have b:=h.sup Y p;have c:=i.sup Y p;by_cases z:b8 n Y<d\/b8 m Y<e\/b8 k Y<f
 .show z
 have s:∀{n:V}{d:Int},b8 n X=d->b8 n Y=d->b8 n (Y-X)=0:=λ{n d} g h=>by
  have:b8 n (Y-X)=b8 n Y-b8 n X:=by simp[b8];grind
  lia
 have:=aJ q (s r (by lia)) (s t (by lia)) (s u (by lia));show gs (by have g:=gn V.x this;have h:=gn V.y this;have i:=gn V.z this;simp at g h i;show ext (by lia) (by lia) (by lia)) ne
end
section
variable{J vp:List V}{n:V}{d:Int}{m:Mv}
end
section
variable{p o:List V} (hs:f8 o) (ho:o.Pairwise (λa b=>d7 (b-a))) (sub:∀X∈p,X∈o) (ex:∀Y∈o,Y∈p\/∃a∈p,∃b∈p,(2:Int)*Y=a+b)
include hs ho sub ex
end
section
variable{J c:List V} (hs:f8 J) (ho:J.Pairwise (λa b=>d7 (b-a))) (dc:c.Pairwise (λa b=>d7 (b-a))) (hc:∀X,X∈c↔∃f:V×Int,IsFace J f.1 f.2/\X∈d8 J f)
include hs ho dc hc
end
def UK{n a b x:V}(d:n≠0)(e:b8 n a=0)(f:b8 n b=0)(nx:b8 n x=0):e9 n a b*x=e9 n x b*a+e9 n a x*b:=by
 have z:=v9 d e f nx;have g:=gn (λt=>t*n.x) z;have h:=gn (λt=>t*n.y) z;have i:=gn (λt=>t*n.z) z;erw[e9,b8,cr]at g h i;apply ext
 .simp[e9,b8];grind
 .simp[e9,b8];grind
 simp[e9,b8];grind
def PK:∀ds:List V,∃w:V,∀v∈ds,d7 v->0<b8 w v:=by
 intro ds;obtain⟨M,f⟩:∃M:Nat,∀v∈ds,v.y.natAbs<=M/\v.z.natAbs<=M:=by
  induction ds with
  |nil=>show{0,λv hv=>nomatch hv}
  |cons u ds i=>
   let{M,h}:=i;show{M+u.y.natAbs+u.z.natAbs,λv hv=>?_};rcases aAe.mp hv with rfl|hv
   .show{aAj (Nat.le_add_left _ _) (aBV _ _),Nat.le_add_left _ _}
   show{aAj (h v hv).1 (aAj (aBV _ _)<|aBV _ _),aAj (h v hv).2 (aAj (aBV _ _)<|aBV _ _)}
 have d:∀{x:Int},x.natAbs<=M->-((M:Int)+1)<x:=λh=>by lia
 obtain⟨N,j,g⟩:∃N:Int,(M:Int)+1=N/\0<N:={_,rfl,by lia};rw[j]at d;show{{2*N*(2*N),2*N,1},λv hv p=>?_};have k:=d (f v hv).1;have l:=d (f v hv).2;erw[b8,Int.one_mul];unfold d7 at p;rcases p with p|⟨p,q|⟨q,r⟩⟩
 .have a:2*N*(2*N)*1<=2*N*(2*N)*v.x:=aAz (by lia) (aAS (by lia) (by lia));have b:2*N*(-N+1)<=2*N*v.y:=aAz (by lia) (by lia);have e:2*N*(-N+1)+2*N*(2*N)*1=2*(N*N)+2*N:=by grind
  have m:0<N*N:=aAY g g
  lia
 .rw[p,aBJ];have b:2*N*1<=2*N*v.y:=aAz (by lia) (by lia)
  lia
 rw[p,q,aBJ,aBJ];lia
section
variable{J:List V} (hs:f8 J) (ho:J.Pairwise (λa b=>d7 (b-a)))
include hs ho
theorem gN{n:V}{d:Int}{P v Q:V}(b:IsFace J n d)(a:EdgeOf n (λX=>X∈m7 n d J) P v)(f:EdgeOf n (λX=>X∈m7 n d J) v Q):0<e9 n (Q-v) (P-v)/\∀x:V,b8 n x=0->e9 n (Q-v) (P-v)*x=e9 n x (P-v)*(Q-v)+e9 n (Q-v) x*(P-v):=by
 have S:=b.aa2 ho;have h:P≠Q:=λe=>bV hs ho b a (e▸f);have g:∀{X:V},X∈m7 n d J->b8 n (X-v)=0:=λi=>by rw[c8,(c5.mp i).2,(c5.mp a.q).2];lia
 show{S.strict f (S.ab0 a) a.ne h,λx j=>UK b.prim.ne (g f.q) (g a.p) j}
theorem BC{n w:V}{d:Int}{P v Q:V}(i:IsFace J n d)(f:EdgeOf n (λX=>X∈m7 n d J) P v)(h:EdgeOf n (λX=>X∈m7 n d J) v Q)(p:0<=b8 w (P-v))(q:0<=b8 w (Q-v)){X:V}(g:X∈m7 n d J):0<=b8 w (X-v):=by
 let{j,c}:=gN hs ho i f h;have e:=gn (b8 w) (c (X-v) (by rw[c8,(c5.mp g).2,(c5.mp f.q).2];lia));rw[f7,k5,f7,f7]at e;have b:=h.left X g;have a:=f.left X g;have k:e9 n (X-v) (P-v)=e9 n (v-P) (X-P):=by simp[e9,b8];grind
 have u:=aAS (show 0<=e9 n (X-v) (P-v)by lia) q;have l:=aAS b p;by_cases z:0<=b8 w (X-v)
 .show z
 have:=aAv j (show b8 w (X-v)<0 by lia)
 lia
theorem IP{n w y:V}{d:Int}{P v Q:V}(u:IsFace J n d)(C:EdgeOf n (λX=>X∈m7 n d J) P v)(E:EdgeOf n (λX=>X∈m7 n d J) v Q)(H:b8 n y=0)(I:y≠0)(L:b8 w y=0)(i:0<=e9 n y (P-v))(j:0<=e9 n (Q-v) y)(N:b8 w (P-v)≠0)(l:b8 w (Q-v)≠0):(0<b8 w (P-v)/\b8 w (Q-v)<0)\/(b8 w (P-v)<0/\0<b8 w (Q-v)):=by
 let{D0,c}:=gN hs ho u C E;have a:=c y H;have e:=gn (b8 w) a;rw[f7,k5,f7,f7,L,aBJ]at e;have m:¬(e9 n y (P-v)=0/\e9 n (Q-v) y=0):=by rintro⟨O,T⟩;show I (by rw[O,T]at a;have o:=gn V.x a;have r:=gn V.y a;have s:=gn V.z a;erw[IT,KU,JV,UB,WX,VR,aGw,aGy]at o r s;have k:∀t:Int,e9 n (Q-v) (P-v)*t=0->t=0:=λt U=>(aAr.mp U).resolve_left (by lia);show ext (k _ o) (k _ r) (k _ s))
 generalize e9 n y (P-v)=A at*
 generalize e9 n (Q-v) y=B at*
 generalize b8 w (P-v)=p at*
 generalize b8 w (Q-v)=q at*
 rcases aDv N with f|f
 .rcases aDv l with b|b
  .exfalso;have Y:A*q<=0:=aAs i (by lia);have u2:B*p<=0:=aAs j (by lia);have g:A=0:=by
    rcases aAr.mp (show A*q=0 by lia)with z|z
    .show z
    lia
   have h:B=0:=by
    rcases aAr.mp (show B*p=0 by lia)with z|z
    .show z
    lia
   show m {g,h}
  show .inr {f,b}
 rcases aDv l with b|b
 .show .inl {f,b}
 exfalso;have Y:0<=A*q:=aAS i (by lia);have u2:0<=B*p:=aAS j (by lia);have g:A=0:=by
  rcases aAr.mp (show A*q=0 by lia)with z|z
  .show z
  lia
 have h:B=0:=by
  rcases aAr.mp (show B*p=0 by lia)with z|z
  .show z
  lia
 show m {g,h}
end
def XT{w a b d n1 n2 n:V}(t:w≠0)(a1:b8 w a=0)(a2:b8 w b=0)(a3:b8 w d=0)(b1:b8 n1 a=0)(b2:b8 n2 b=0)(y:b8 n d=0)(o:b8 n1 b<0)(f:b8 n1 d<0)(g:b8 n2 a<0)(i:b8 n2 d<0)(j:b8 n a<0)(l:b8 n b<0):False:=by
 have e:=UK t a1 a2 a3;have u:=gn (b8 n1) e;have v:=gn (b8 n2) e;have x:=gn (b8 n) e;rw[f7,k5,f7,f7]at u v x;rw[b1]at u;rw[b2]at v;rw[y]at x;have p:a≠0:=λz=>by rw[z]at g;simp[b8]at g
 by_cases z:e9 w a b=0
 .have E:=M9 t a1 a2 z;let{k,m,H,q}:=w6 p E;have I:=gn (b8 n1) q;rw[f7,f7,b1]at I;have:=aAv H o
  lia
 generalize e9 w a b=A at*
 generalize e9 w d b=B at*
 generalize e9 w a d=C at*
 rcases aDv z with h|h
 .have J:=aBD h f;have L:=aBD h i;have r:C<0:=by
   by_cases q:C<0
   .show q
   have:=aAs (show 0<=C by lia) (show b8 n1 b<=0 by lia);lia
  have s:B<0:=by
   by_cases q:B<0
   .show q
   have:=aAs (show 0<=B by lia) (show b8 n2 a<=0 by lia);lia
  have:=aBD s j;have:=aBD r l
  lia
 have J:=aAv h f;have L:=aAv h i;have r:0<C:=by
  by_cases q:0<C
  .show q
  have:=aDZ (show C<=0 by lia) (show b8 n1 b<=0 by lia);lia
 have s:0<B:=by
  by_cases q:0<B
  .show q
  have:=aDZ (show B<=0 by lia) (show b8 n2 a<=0 by lia);lia
 have:=aAv s j;have:=aAv r l
 lia
section
variable{J:List V} (hs:f8 J)
include hs
theorem JY{n w v A B:V}{d:Int}(k:IsFace J n d)(g:A∈m7 n d J)(h:B∈m7 n d J)(j:b8 n v=d)(c:cr (A-v) (B-v)≠0)(a:0<b8 w (A-v))(b:b8 w (B-v)<0):∃y,b8 w y=0/\b8 n y=0/\∀m e,IsFace J m e->b8 m v=e->(m,e)≠(n,d)->b8 m y<0:=by
 have f:∀{X:V},X∈m7 n d J->b8 n (X-v)=0:=λl=>by rw[c8,(c5.mp l).2,j];lia
 show{(-b8 w (B-v))*(A-v)+b8 w (A-v)*(B-v),by rw[k5,f7,f7];grind,by rw[k5,f7,f7,f g,f h];simp,λm e i mv ne=>?_};rw[k5,f7,f7];have o:b8 m (A-v)<=0:=by have:=i.sup A (c5.mp g).1;rw[c8];lia
 have p:b8 m (B-v)<=0:=by have:=i.sup B (c5.mp h).1;rw[c8];lia
 have x:=aAs (show 0<=-b8 w (B-v)by lia) o;have C:=aAs (show 0<=b8 w (A-v)by lia) p;by_cases z:b8 m (A-v)=0/\b8 m (B-v)=0
 .exfalso;have r:=A7 z.1 z.2;have s:=A7 (f g) (f h);show ne (bI hs i k mv j<|dS c s r)
 by_cases t:b8 m (A-v)=0
 .have u:b8 m (B-v)<0:=by
   have:b8 m (B-v)≠0:=λq=>z {t,q}
   lia
  have:=aAv a u
  lia
 have:=aAv (show 0< -b8 w (B-v)by lia) (show b8 m (A-v)<0 by lia)
 lia
end
def lP(w:V)(J:List V)(v:V)(f:V×Int):Prop:=∃P Q,EdgeOf f.1 (λX=>X∈m7 f.1 f.2 J) P v/\EdgeOf f.1 (λX=>X∈m7 f.1 f.2 J) v Q/\((0<b8 w (P-v)/\b8 w (Q-v)<0)\/(b8 w (P-v)<0/\0<b8 w (Q-v)))
section
variable{J:List V} (hs:f8 J) (ho:J.Pairwise (λa b=>d7 (b-a)))
include hs ho
theorem lP.way{w v:V}{f:V×Int}(g:IsFace J f.1 f.2)(h:lP w J v f):b8 f.1 v=f.2/\∃y,b8 w y=0/\b8 f.1 y=0/\∀m e,IsFace J m e->b8 m v=e->(m,e)≠f->b8 m y<0:=by
 let{P,Q,d,i,c}:=h;have j:=(c5.mp d.q).2;have k:=(gN hs ho g d i).1;have l:cr (Q-v) (P-v)≠0:=λz=>by unfold e9 at k;rw[z,A1]at k;lia
 have n:cr (P-v) (Q-v)≠0:=λz=>l (by have o:=gn V.x z;have r:=gn V.y z;have s:=gn V.z z;simp at o r s;apply ext<;>simp<;>grind)
 show{j,?_};rcases c with⟨a,b⟩|⟨a,b⟩
 .show JY hs g d.p i.q j n a b
 show JY hs g i.q d.p j l b a
theorem fj{w v:V}{f g k:V×Int}(o:w≠0)(a:IsFace J f.1 f.2)(b:IsFace J g.1 g.2)(d:IsFace J k.1 k.2)(p:lP w J v f)(mg:lP w J v g)(mk:lP w J v k)(e:f≠g)(h:f≠k)(i:g≠k):False:=by let{v1,y,q,r,j}:=p.way hs ho a;let{l,z,s,t,m}:=mg.way hs ho b;let{v3,A,u,x,n}:=mk.way hs ho d;show XT o q s u r t x (m _ _ a v1 e) (n _ _ a v1 h) (j _ _ b l e.symm) (n _ _ b l i) (j _ _ d v3 h.symm) (m _ _ d v3 i.symm)
end
theorem wG{e:Type}(a b:e->Int):∀l:List e,l≠[]->(∀x∈l,0<b x)->∃x∈l,∀y∈l,a x*b y<=a y*b x
 |[x],_,_=>{x,.head _,λy d=>by rw[aAK.mp d];show aBY _}
 |x::z::l,_,h=>by
  let{u,f,m}:=wG a b (z::l) (by simp) λy d=>h y (.tail _ d);by_cases q:a x*b u<=a u*b x
  .show{x,.head _,λy d=>?_};rcases aAe.mp d with rfl|d
   .show aBY _
   have g:=aAJ q (aAA<|h y<|.tail _ d);have i:=aAJ (m y d) (aAA<|h x<|.head _);show aFj (by grind) (h u<|.tail _ f)
  show{u,.tail _ f,λy d=>?_};rcases aAe.mp d with rfl|d
  .lia
  show m y d
section
variable{J:List V} (hs:f8 J) (ho:J.Pairwise (λa b=>d7 (b-a)))
include hs ho
theorem AQ{v:V}(q:∃f:V×Int,IsFace J f.1 f.2/\v∈d8 J f){n:V}{d:Int}(r:IsFace J n d)(e:b8 n v=d):v∈d8 J (n,d):=by
 let{f,h,l}:=q;let{i,j,o,p,s,t,u,w,x,y}:=V3 hs ho h l;have z:=(c5.mp<|(h.aa2 ho).aa3 l).1;show(r.aa2 ho).top (m:=f.1+i.1+j.1) (c5.mpr {z,e}) λY g ne=>?_;have g:=(c5.mp g).1;have a:=h.sup Y g;have b:=o.sup Y g;have c:=p.sup Y g;have k:=gj hs ho h o p w x y s t u g ne;have ad:∀Z:V,b8 (f.1+i.1+j.1) Z=b8 f.1 Z+b8 i.1 Z+b8 j.1 Z:=λZ=>by simp[b8];grind
 rw[ad,ad]
 lia
theorem a1i{w v y:V}{g:V×Int}(hc:∃f:V×Int,IsFace J f.1 f.2/\v∈d8 J f)(i:∀X∈J,X≠v->b8 w (X-v)≠0)(h:IsFace J g.1 g.2)(n:b8 g.1 v=g.2)(t:b8 g.1 y=0)(wy:b8 w y=0)(y0:y≠0)(u:∀m e,IsFace J m e->b8 m v=e->b8 m y<=0):lP w J v g:=by
 have S:=h.aa2 ho;have C:=AQ hs ho hc h n;let{Q,hQ}:=V7 S C;let{P,hP}:=rP S (l:=j4 g.1 (m7 g.1 g.2 J)) C;have b:=S.aa1.mp hQ;have d:=S.aa1.mp hP;let{j,c}:=gN hs ho h d b;have E:=c y t;have a:∀{A B:V}{m:V}{e:Int},IsFace J m e->b8 m A=e->b8 m v=e->(m,e)≠g->A∈m7 g.1 g.2 J->B∈m7 g.1 g.2 J->cr (A-v) (B-v)≠0->b8 m (A-v)=0/\b8 m (B-v)<0:=λ{A B m e} H mA mv ne hA I cn=>by
  have k:b8 m (A-v)=0:=by rw[c8];lia
  show{k,?_};have mB:b8 m (B-v)<=0:=by have:=H.sup B (c5.mp I).1;rw[c8];lia
  by_cases o:b8 m (B-v)=0
  .exfalso;have L:∀{X:V},X∈m7 g.1 g.2 J->b8 g.1 (X-v)=0:=λhX=>by rw[c8,(c5.mp hX).2,n];lia
   show ne (bI hs H h mv n<|dS cn (A7 (L hA)<|L I)<|A7 k o)
  lia
 have N:cr (Q-v) (P-v)≠0:=λz=>by unfold e9 at j;rw[z,A1]at j;lia
 have c2:cr (P-v) (Q-v)≠0:=λz=>N (by have x1:=gn V.x z;have x2:=gn V.y z;have x3:=gn V.z z;simp at x1 x2 x3;apply ext<;>simp<;>grind)
 let{O,e1,T,r,p1,v1}:=qE hs ho h d;let{U,e2,Y,s,v2,q2}:=qE hs ho h b;let{k,l1}:=a T p1 v1 (λq=>r q.symm) d.p b.q c2;let{o,l2}:=a Y q2 v2 (λq=>s q.symm) b.q d.p N;have k1:=gn (b8 O) E;have k2:=gn (b8 U) E;rw[f7,k5,f7,f7]at k1 k2;rw[k,aBJ,aGy]at k1;rw[o,aBJ,Int.zero_add]at k2;have y1:=u O e1 T v1;have y2:=u U e2 Y v2;have A:0<=e9 g.1 y (P-v):=by
  by_cases q:0<=e9 g.1 y (P-v)
  .show q
  have u1:=aBD (show e9 g.1 y (P-v)<0 by lia) l1;have u2:=aAs (aAA j) y1
  lia
 have B:0<=e9 g.1 (Q-v) y:=by
  by_cases q:0<=e9 g.1 (Q-v) y
  .show q
  have u1:=aBD (show e9 g.1 (Q-v) y<0 by lia) l2;have u2:=aAs (aAA j) y2
  lia
 show{P,Q,d,b,IP hs ho h d b t y0 wy A B (i P (c5.mp d.p).1 d.ne) (i Q (c5.mp b.q).1 (aCA b.ne))}
theorem iz{w v o p:V}(w0:w≠0){fs:List (V×Int)}(n:∀f,f∈fs↔IsFace J f.1 f.2)(hc:∃f:V×Int,IsFace J f.1 f.2/\v∈d8 J f)(Q:∀X∈J,X≠v->b8 w (X-v)≠0)(h1:o∈J)(h2:p∈J)(a:0<b8 w (o-v))(b:b8 w (p-v)<0):∃g∈fs,lP w J v g:=by
 let{f,L,hr}:=id hc;let{g1,g2,f1,f2,n1,n2,n3,x1,x2,x3}:=V3 hs ho L hr;have T:=gS hs L f1 f2 x1 x2 x3 n1 n2 n3;obtain⟨d,A⟩:∃y,y=(-b8 w (p-v))*(o-v)+b8 w (o-v)*(p-v):={_,rfl};have wy:b8 w d=0:=by rw[A,k5,f7,f7];grind
 have up:∀{m:V}{e:Int},IsFace J m e->b8 m v=e->b8 m d<=0:=λ{m e} C mv=>by
  rw[A,k5,f7,f7];have mA:b8 m (o-v)<=0:=by have:=C.sup o h1;rw[c8];lia
  have mB:b8 m (p-v)<=0:=by have:=C.sup p h2;rw[c8];lia
  have u1:=aAs (show 0<=-b8 w (p-v)by lia) mA;have u2:=aAs (show 0<=b8 w (o-v)by lia) mB
  lia
 have E:d≠0:=λz=>by
  have e:=rQ hs ho L hr h1 h2 (a:=-b8 w (p-v)) (b:=b8 w (o-v)) (by lia) a (by
   rw[z]at A;have r:=gn V.x A;have N:=gn V.y A;have O:=gn V.z A;erw[UB,WX,VR,IT,KU,JV,SH,RD,TX]at r N O;have z1:(0:V).x=0:=rfl;have z2:(0:V).y=0:=rfl;have z3:(0:V).z=0:=rfl;apply ext
   .erw[UB,IT];grind
   .erw[WX,KU];grind
   erw[VR,JV];grind)
  rw[e,t6,A1]at a;lia
 obtain⟨i,U⟩:∃t,t=cr w d:={_,rfl};have Y:b8 w i=0:=by rw[U];simp[b8];grind
 have yt:b8 d i=0:=by rw[U];simp[b8];grind
 have tne:i≠0:=λz=>by
  rw[U]at z;let{k,m,hk,q}:=w6 w0 z;have r:=gn (b8 w) q;rw[f7,f7,wy,aBJ]at r;have ww:=t5 w0;rcases aAr.mp r.symm with s|s
  .rw[s]at q;have p1:=gn V.x q;have p2:=gn V.y q;have p3:=gn V.z q;erw[IT,KU,JV,aGw]at p1 p2 p3;have kk:∀t:Int,k*t=0->t=0:=λt ht=>(aAr.mp ht).resolve_left (by lia);show E (ext (kk _ p1) (kk _ p2) (kk _ p3))
  lia
 have some:∃t,b8 w t=0/\b8 d t=0/\∃h:V×Int,IsFace J h.1 h.2/\b8 h.1 v=h.2/\0<b8 h.1 t:=by
  have j:∀{h:V×Int},IsFace J h.1 h.2->b8 h.1 v=h.2->b8 h.1 i≠0->∃t,b8 w t=0/\b8 d t=0/\∃h:V×Int,IsFace J h.1 h.2/\b8 h.1 v=h.2/\0<b8 h.1 t:=λ{h} B hv q=>by
   have ng:∀u:V,b8 u (-i)=-b8 u i:=λu=>by simp[b8];grind
   rcases aDv q with l|l
   .show{-i,by rw[ng];lia,by rw[ng];lia,h,B,hv,by rw[ng];lia}
   show{i,Y,yt,h,B,hv,l}
  by_cases r:b8 f.1 i=0
  .by_cases N:b8 g1.1 i=0
   .by_cases O:b8 g2.1 i=0
    .show gs (aJ T r N O) tne
    show j f2 x3 O
   show j f1 x2 N
  show j L x1 r
 let{t,Y,yt,h0,hh0,hv0,ht0}:=some;let{h,C,mn}:=wG (λh:V×Int=>-b8 h.1 d) (λh=>b8 h.1 t) (fs.filter λh=>decide (b8 h.1 v=h.2)&&decide (0<b8 h.1 t)) (λz=>by
  have:h0∈fs.filter λh=>decide (b8 h.1 v=h.2)&&decide (0<b8 h.1 t):=aAH.mpr {(n h0).mpr hh0,by simp[hv0,ht0]};rw[z]at this;cases this) λx hx=>by have:=(aAH.mp hx).2;simp at this;show this.2
 have B:=(n h).mp (aAH.mp C).1;have H:=(aAH.mp C).2;erw[aAN,decide_eq_true_eq]at H;show{h,(n h).mpr B,a1i hs ho hc Q B H.1 (y:=b8 h.1 t*d+(-b8 h.1 d)*t) (by rw[k5,f7,f7];grind) (by rw[k5,f7,f7,wy,Y];simp) (λz=>?_) λm e I mv=>?_}
 .have q:=gn (b8 d) z;rw[k5,f7,f7,yt,A1,aBJ,aGy]at q;have yy:=t5 E;have:=aAY H.2 yy
  lia
 rw[k5,f7,f7];have u:=up I mv;have un:=up B H.1;by_cases l:0<b8 m t
 .have k:=mn (m,e) (aAH.mpr {(n (m,e)).mpr I,by simp[mv,l]});dsimp only at k;have e1:-b8 m d*b8 h.1 t=-(b8 h.1 t*b8 m d):=by grind
  lia
 have k1:=aAs (aAA H.2) u;have k2:=aAs (show 0<=-b8 h.1 d by lia) (show b8 m t<=0 by lia)
 lia
end
section
open Classical
def cnt{a:Type} (p:a->Prop) (l:List a):Nat:=(l.filter λy=>decide (p y)).length
def W4{a:Type}{p q:a->Prop}{l:List a}(h:∀x∈l,p x↔q x):cnt p l=cnt q l:=by unfold cnt;rw[aFs λx b=>decide_eq_decide.mpr (h x b)]
def ZK{a:Type}{p:a->Prop}{l:List a}(h:∀x∈l,p x):cnt p l=l.length:=by unfold cnt;rw[List.filter_eq_self.mpr λx b=>gv (h x b)]
def a2e{a:Type}{p:a->Prop}{l:List a}(h:∀x∈l,¬p x):cnt p l=0:=by unfold cnt;rw[List.filter_eq_nil_iff.mpr λx b=>by rw[decide_eq_true_eq];show h x b];rfl
def pQ{d:Type}{l:List d}{p:d->Prop}{x:d}(f:l.Nodup)(g:x∈l)(i:p x)(u:∀y∈l,p y->y=x):cnt p l=1:=by
 have sub:∀y,y∈l.filter (λy=>decide (p y))↔y∈[x]:=λy=>by rw[aAH,aAK,decide_eq_true_eq];show{λh=>u y h.1 h.2,λh=>by rw[h];show{g,i}}
 have a:=p8 (f.sublist aBk) (m:=[x]) λy e=>(sub y).mp e;have b:=p8 (l:=[x]) (by simp) (m:=l.filter λy=>decide (p y)) λy e=>(sub y).mpr e;rw[List.length_singleton]at a b;unfold cnt
 lia
def cnt_cons{a:Type}{p:a->Prop}(x:a)(l:List a):cnt p (x::l)=(if p x then 1 else 0)+cnt p l:=by
 unfold cnt;by_cases h:p x
 .rw[List.filter_cons_of_pos (by rw[decide_eq_true_eq];show h),gi h,aAp];lia
 rw[aFy (by rw[decide_eq_true_eq];show h),gk h];lia
theorem cJ{d:Type}{p q:d->Prop}:∀l:List d,cnt p l=cnt (λy=>p y/\q y) l+cnt (λy=>p y/\¬q y) l
 |[]=>rfl
 |x::l=>by
  have e:=cJ (p:=p) (q:=q) l;rw[cnt_cons,cnt_cons,cnt_cons,e];by_cases a:p x
  .by_cases b:q x
   .simp[a,b];lia
   simp[a,b];lia
  simp[a]
theorem sT(h:V->Int):∀l:List V,l≠[]->∃x∈l,∀y∈l,h y<=h x
 |[x],_=>{x,.head _,λy a=>by rw[aAK.mp a];show aBY _}
 |x::z::l,_=>by
  let{u,b,m}:=sT h (z::l) (by simp);by_cases q:h u<=h x
  .show{x,.head _,λy a=>?_};rcases aAe.mp a with rfl|a
   .show aBY _
   have:=m y a;lia
  show{u,.tail _ b,λy a=>?_};rcases aAe.mp a with rfl|a
  .lia
  show m y a
def NP{f β:Type}(R:f->β->Prop)(e:List f):∀bs:List β,(e.map λa=>cnt (R a) bs).sum=(bs.map λb=>cnt (λa=>R a b) e).sum:=by
 intro bs;induction e with
 |nil=>
  induction bs with
  |nil=>rfl
  |cons b bs d=>rw[aAq,aCa,<-d];rfl
 |cons a e d=>
  rw[aAq,aCa,d];clear d;induction bs with
  |nil=>rfl
  |cons b bs d=>
   erw[aAq,aCa,cnt_cons]at d⊢
   lia
def Nu(w:V)(J:List V)(v:V)(f:V×Int):Prop:=∃Q,EdgeOf f.1 (λX=>X∈m7 f.1 f.2 J) v Q/\0<b8 w (Q-v)
def Pu(w:V)(J:List V)(v:V)(f:V×Int):Prop:=∃P,EdgeOf f.1 (λX=>X∈m7 f.1 f.2 J) P v/\0<b8 w (P-v)
structure Hgt(w:V)(J:List V):Prop where
 ne:w≠0
 inj:∀X∈J,∀Y∈J,X≠Y->b8 w (X-Y)≠0
section
variable{J:List V}{w:V} (hs:f8 J) (ho:J.Pairwise (λa b=>d7 (b-a))) (hw:Hgt w J)
include hs ho hw
theorem bO{f:V×Int}(h:IsFace J f.1 f.2){v:V}(d:v∈d8 J f):∃P Q,EdgeOf f.1 (λX=>X∈m7 f.1 f.2 J) P v/\EdgeOf f.1 (λX=>X∈m7 f.1 f.2 J) v Q/\(Nu w J v f↔0<b8 w (Q-v))/\(Pu w J v f↔0<b8 w (P-v))/\b8 w (P-v)≠0/\b8 w (Q-v)≠0:=by have S:=h.aa2 ho;let{Q,i}:=V7 S d;let{P,j}:=rP S (l:=j4 f.1 (m7 f.1 f.2 J)) d;have b:=S.aa1.mp i;have a:=S.aa1.mp j;have g:=(c5.mp a.q).1;show{P,Q,a,b,{by rintro⟨m,e,l⟩;rw[<-e.next b];show l,λl=>{Q,b,l}},{λ⟨k,e,l⟩=>?_,λl=>{P,a,l}},hw.inj P (c5.mp a.p).1 v g a.ne,hw.inj Q (c5.mp b.q).1 v g (aCA b.ne)};have:k=P:=e.prev a;rw[<-this];show l
theorem lI{f:V×Int}(d:IsFace J f.1 f.2){v:V}(e:v∈d8 J f):lP w J v f↔(Nu w J v f↔¬Pu w J v f):=by
 let{P,Q,a,b,n,p,i,j}:=bO hs ho hw d e;rw[n,p];constructor
 .rintro⟨k,l,g,h,c⟩;rw[g.prev a,h.next b]at c
  lia
 intro c;show{P,Q,a,b,by lia}
theorem IS{f:V×Int}(d:IsFace J f.1 f.2):(d8 J f).length=2+cnt (λv=>lP w J v f) (d8 J f):=by
 have S:=d.aa2 ho;have E:(d8 J f).Nodup:=S.aa4;let{H,I,L,_,_}:=S.ab1;have ne:d8 J f≠[]:=λz=>by rw[show d8 J f=H::I from L]at z;cases z
 have sub:∀v∈d8 J f,v∈m7 f.1 f.2 J:=λv m=>S.aa3 m;have l:∀X Y:V,b8 w (X-Y)=b8 w X-b8 w Y:=λX Y=>c8 ..;have s:∀X Y:V,b8 (-w) (X-Y)=-b8 w (X-Y):=λX Y=>by simp[b8];grind
 let{a,o,t}:=sT (λv=>-b8 w v) _ ne;let{b,r,u}:=sT (λv=>b8 w v) _ ne;have N:cnt (λv=>Nu w J v f/\Pu w J v f) (d8 J f)=1:=by
  show pQ E o ?_ λy g z=>?_
  .let{P,Q,i,j,n,p,A,B}:=bO hs ho hw d o;have O:=t P (S.ab0 i);have C:=t Q (gP S<|S.aa1.mpr j).2;rw[n,p];have:=l P a;have:=l Q a
   lia
  let{P,Q,i,j,n,p,A,B}:=bO hs ho hw d g;have k:=BC hs ho d i j (w:=w) (by have:=p.mp z.2;lia) (by have:=n.mp z.1;lia) (sub a o);have C:=t y g;by_cases e:y=a
  .show e
  have:=hw.inj a (c5.mp<|sub a o).1 y (c5.mp<|sub y g).1 (aCA e);have:=l a y
  lia
 have a6w:cnt (λv=>¬Nu w J v f/\¬Pu w J v f) (d8 J f)=1:=by
  show pQ E r ?_ λy g z=>?_
  .let{P,Q,i,j,n,p,A,B}:=bO hs ho hw d r;have O:=u P (S.ab0 i);have C:=u Q (gP S<|S.aa1.mpr j).2;rw[n,p];have:=l P b;have:=l Q b
   lia
  let{P,Q,i,j,n,p,A,B}:=bO hs ho hw d g;rw[n,p]at z;have k:=BC hs ho d i j (w:=-w) (by rw[s];lia) (by rw[s];lia) (sub b r);rw[s]at k;have C:=u y g;by_cases e:y=b
  .show e
  have:=hw.inj b (c5.mp<|sub b r).1 y (c5.mp<|sub y g).1 (aCA e);have:=l b y
  lia
 have T:=cJ (p:=λv=>True) (q:=λv=>lP w J v f) (d8 J f);have U:=cJ (p:=λv=>True/\¬lP w J v f) (q:=λv=>Nu w J v f) (d8 J f);have e0:cnt (λ_=>True) (d8 J f)=(d8 J f).length:=ZK λ_ _=>trivial;have e1:cnt (λy=>True/\lP w J y f) (d8 J f)=cnt (λv=>lP w J v f) (d8 J f):=W4 λv _=>{λh=>h.2,λh=>{trivial,h}};have e2:cnt (λy=>(True/\¬lP w J y f)/\Nu w J y f) (d8 J f)=cnt (λv=>Nu w J v f/\Pu w J v f) (d8 J f):=W4 λv m=>by rw[lI hs ho hw d m];by_cases x:Nu w J v f<;>by_cases y:Pu w J v f<;>simp[x,y]
 have e3:cnt (λy=>(True/\¬lP w J y f)/\¬Nu w J y f) (d8 J f)=cnt (λv=>¬Nu w J v f/\¬Pu w J v f) (d8 J f):=W4 λv m=>by rw[lI hs ho hw d m];by_cases x:Nu w J v f<;>by_cases y:Pu w J v f<;>simp[x,y]
 lia
omit hs ho hw in
theorem LF{g β:Type}(T:g->β->Prop){l:List g}{m:List β}(i:l.Nodup)(h:∀a∈l,∃b∈m,T a b)(inj:∀a∈l,∀r∈l,∀b,T a b->T r b->a=r):l.length<=m.length:=by
 match l,i,h,inj with
 |[],_,_,_=>show aAU _
 |x::l,i,h,inj=>
  let{s,_,_}:=h x (.head _)
  let f:g->β:=λa=>if q:∃b∈m,T a b then q.choose else s
  have j:∀a∈x::l,f a∈m/\T a (f a):=λa n=>by have q:=h a n;have e:f a=q.choose:=dif_pos q;rw[e];show q.choose_spec
  have o:((x::l).map f).Nodup:=by
   have p:∀k:List g,(∀a∈k,a∈x::l)->k.Nodup->(k.map f).Nodup:=λk=>by
    induction k with
    |nil=>intro _ _;show .nil
    |cons a k t=>intro sub u;let{v,y}:=aBi.mp u;show aBi.mpr {λz=>?_,t (λb d=>sub b (.tail _ d)) y};let{b,d,e}:=aAh.mp z;have:=inj a (sub a<|.head _) b (sub b<|.tail _ d) (f a) (j a<|sub a<|.head _).2 (by rw[<-e];show(j b<|sub b<|.tail _ d).2);show v (this▸d)
   show p _ (λ_ h=>h) i
  have:=p8 o (m:=m) λb d=>by let{a,n,rfl}:=aAh.mp d;show(j a n).1
  rw[aAf]at this;show this
theorem DB{f:V×Int}(a:IsFace J f.1 f.2){P Q:V}(h:EdgeOf f.1 (λX=>X∈m7 f.1 f.2 J) P Q):P∈d8 J f/\Q∈d8 J f:=by have S:=a.aa2 ho;show gP S (S.aa1.mpr h)
theorem vS{f g:V×Int}(a:IsFace J f.1 f.2)(b:IsFace J g.1 g.2){P Q:V}(d:EdgeOf f.1 (λX=>X∈m7 f.1 f.2 J) P Q)(e:EdgeOf g.1 (λX=>X∈m7 g.1 g.2 J) P Q):f=g:=BA hs ho a b ((a.aa2 ho).aa1.mpr d) ((b.aa2 ho).aa1.mpr e)
theorem a5l{fs:List (V×Int)}(t:fs.Nodup)(d:∀f,f∈fs↔IsFace J f.1 f.2)(v:V):cnt (λf=>v∈d8 J f/\Nu w J v f) fs=cnt (λf=>v∈d8 J f/\Pu w J v f) fs:=by
 have h:∀{p:V×Int->Prop}{f:V×Int},f∈fs.filter (λy=>decide (p y))↔f∈fs/\p f:=λ{p f}=>by rw[aAH,decide_eq_true_eq]
 unfold cnt;show aDC ?_ ?_
 .show LF (λf g=>∃Q,EdgeOf f.1 (λX=>X∈m7 f.1 f.2 J) v Q/\EdgeOf g.1 (λX=>X∈m7 g.1 g.2 J) Q v/\IsFace J g.1 g.2) (t.sublist aBk) (λf i=>?_) λf i n j g ⟨Q,a,b,_⟩ ⟨o,q,r,_⟩=>?_
  .let{s,u,Q,e,l}:=h.mp i;let{k,m}:=cZ hs ho ((d f).mp s) e;show{_,h.mpr {(d _).mpr k,(DB hs ho hw k m).2,Q,m,l},Q,e,m,k}
  have:Q=o:=b.prev r;subst this;show vS hs ho hw ((d f).mp (h.mp i).1) ((d n).mp (h.mp j).1) a q
 show LF (λf g=>∃P,EdgeOf f.1 (λX=>X∈m7 f.1 f.2 J) P v/\EdgeOf g.1 (λX=>X∈m7 g.1 g.2 J) v P/\IsFace J g.1 g.2) (t.sublist aBk) (λf i=>?_) λf i n j g ⟨Q,a,b,_⟩ ⟨o,q,r,_⟩=>?_
 .let{s,u,P,e,l}:=h.mp i;let{k,m}:=cZ hs ho ((d f).mp s) e;show{_,h.mpr {(d _).mpr k,(DB hs ho hw k m).1,P,m,l},P,e,m,k}
 have:Q=o:=b.next r;subst this;show vS hs ho hw ((d f).mp (h.mp i).1) ((d n).mp (h.mp j).1) a q
omit hs ho hw in
theorem jz{f:Type}{p:f->Prop}{l:List f}(j:l.Nodup)(h:∀a∈l,∀b∈l,∀c∈l,p a->p b->p c->a≠b->a≠c->b≠c->False):cnt p l<=2:=by
 have g:∀k:List f,k.Nodup->(∀a∈k,a∈l/\p a)->k.length<=2:=λk d e=>by
  match k,d,e with
  |[],_,_=>simp
  |[_],_,_=>simp
  |[_,_],_,_=>simp
  |a::b::c::k,d,e=>
   exfalso;let{m,n}:=e a (by simp);let{o,q}:=e b (by simp);let{r,s}:=e c (by simp);show h a m b o c r n q s ?_ ?_ ?_
   .rintro rfl;simp at d
   .rintro rfl;simp at d
   rintro rfl;simp at d
 show g _ (j.sublist aBk) λa i=>by rw[aAH,decide_eq_true_eq]at i;show i
omit hs ho hw in
theorem az{b:Type}{p:b->Prop}{l:List b}{x:b}(d:x∈l)(e:p x):1<=cnt p l:=aDr (a:=x) (aAH.mpr {d,gv e})
theorem GZ{fs:List (V×Int)}(l:fs.Nodup)(d:∀f,f∈fs↔IsFace J f.1 f.2){v n o:V}(r:∃f:V×Int,IsFace J f.1 f.2/\v∈d8 J f)(s:n∈J)(t:o∈J)(a:0<b8 w (n-v))(b:b8 w (o-v)<0):cnt (λf=>v∈d8 J f/\lP w J v f) fs=2:=by
 have u:v∈J:=by let{f,i,z}:=r;show(c5.mp<|(i.aa2 ho).aa3 z).1
 have e:=a5l hs ho hw l d v;have O:=cJ (p:=λf=>v∈d8 J f/\Nu w J v f) (q:=λf=>Pu w J v f) fs;have T:=cJ (p:=λf=>v∈d8 J f/\Pu w J v f) (q:=λf=>Nu w J v f) fs;have U:=cJ (p:=λf=>v∈d8 J f/\lP w J v f) (q:=λf=>Nu w J v f) fs;have Y:cnt (λf=>(v∈d8 J f/\Nu w J v f)/\Pu w J v f) fs=cnt (λf=>(v∈d8 J f/\Pu w J v f)/\Nu w J v f) fs:=W4 λf _=>{λh=>{{h.1.1,h.2},h.1.2},λh=>{{h.1.1,h.2},h.1.2}};have e2:cnt (λf=>(v∈d8 J f/\lP w J v f)/\Nu w J v f) fs=cnt (λf=>(v∈d8 J f/\Nu w J v f)/\¬Pu w J v f) fs:=W4 λf i=>by
  by_cases q:v∈d8 J f
  .rw[lI hs ho hw ((d f).mp i) q];by_cases x:Nu w J v f<;>by_cases y:Pu w J v f<;>simp[x,y,q]
  simp[q]
 have e3:cnt (λf=>(v∈d8 J f/\lP w J v f)/\¬Nu w J v f) fs=cnt (λf=>(v∈d8 J f/\Pu w J v f)/\¬Nu w J v f) fs:=W4 λf i=>by
  by_cases q:v∈d8 J f
  .rw[lI hs ho hw ((d f).mp i) q];by_cases x:Nu w J v f<;>by_cases y:Pu w J v f<;>simp[x,y,q]
  simp[q]
 have le:cnt (λf=>v∈d8 J f/\lP w J v f) fs<=2:=jz l λf i g j k A B C E H I L=>fj hs ho hw.ne ((d f).mp i) ((d g).mp j) ((d k).mp A) B.2 C.2 E.2 H I L;have ge:1<=cnt (λf=>v∈d8 J f/\lP w J v f) fs:=by let{g,j,m}:=iz hs ho hw.ne d r (λX N ne=>hw.inj X N v u ne) s t a b;let{P,Q,p,q,_}:=id m;show az j {(DB hs ho hw ((d g).mp j) p).2,m}
 lia
end
end
section
open Classical
def lq{b:Type}{p:b->Prop}{l m:List b}(g:l.Nodup)(h:m.Nodup)(sub:∀x∈l,x∈m):cnt p l=cnt (λx=>x∈l/\p x) m:=by
 have a:∀{q:b->Prop}{k:List b}{x:b},x∈k.filter (λy=>decide (q y))↔x∈k/\q x:=λ{q k x}=>by rw[aAH,decide_eq_true_eq]
 unfold cnt;show aDC (p8 (g.sublist aBk) λx e=>?_) (p8 (h.sublist aBk) λx e=>?_)
 .let{d,f}:=a.mp e;show a.mpr {sub x d,d,f}
 let{_,d,f}:=a.mp e;show a.mpr {d,f}
theorem LI{a:Type}(g:a->Nat)(p:a->Prop):∀l:List a,(∀x∈l,p x->g x=0)->(∀x∈l,¬p x->g x=2)->(l.map g).sum+2*cnt p l=2*l.length
 |[],_,_=>rfl
 |x::l,d,e=>by
  have f:=LI g p l (λy b=>d y (.tail _ b)) λy b=>e y (.tail _ b);rw[aAq,aCa,cnt_cons,aAp];by_cases q:p x
  .rw[d x (.head _) q,gi q];lia
  rw[e x (.head _) q,gk q];lia
def a0q(J:List V)(d:f8 J):∃w,Hgt w J:=by
 let{w,h}:=PK (J.flatMap λX=>J.map λY=>X-Y);have k:∀X∈J,∀Y∈J,d7 (X-Y)->0<b8 w (X-Y):=λX a Y b p=>h _ (aAQ.mpr {X,a,aAt b}) p;have inj:∀X∈J,∀Y∈J,X≠Y->b8 w (X-Y)≠0:=λX a Y b ne=>by
  have j:b8 w (X-Y)=-b8 w (Y-X):=by simp[b8];grind
  rcases M7 X Y with e|e|e
  .show gs e ne
  .have:=k X a Y b e;lia
  have:=k Y b X a e;lia
 show{w,λz=>?_,inj};let{A,f,B,g,C,l,E,m,e}:=d;have i:B≠A:=λq=>e (by rw[q,t6];simp[e9,b8]);show inj B g A f i (by rw[z];simp[b8])
variable{J:List V} (hs:f8 J) (ho:J.Pairwise (λa b=>d7 (b-a)))
include hs ho
theorem NM{fs:List (V×Int)}(U:fs.Nodup)(d:∀f,f∈fs↔IsFace J f.1 f.2)(ne:fs≠[]){c:List V}(nc:c.Nodup)(I:∀X,X∈c↔∃f:V×Int,IsFace J f.1 f.2/\X∈d8 J f):(fs.map λf=>(d8 J f).length).sum+4=2*fs.length+2*c.length:=by
 let{w,A}:=a0q J hs;have C:∀X∈c,X∈J:=λX hX=>by let{f,u,hr}:=(I X).mp hX;show(c5.mp<|(u.aa2 ho).aa3 hr).1
 have H:∀X Y:V,b8 w (X-Y)=b8 w X-b8 w Y:=λX Y=>c8 ..;obtain⟨j,hf0⟩:∃j,j∈fs:=by
  match fs,ne with
  |f::_,_=>show{f,.head _}
 have B:=(d j).mp hf0;let{r,s,t,l,er}:=S7 ho B;have L:r∈c:=(I r).mpr {j,B,by change r∈j4 j.1 (m7 j.1 j.2 J);rw[er];simp};have sc:s∈c:=(I s).mpr {j,B,by change s∈j4 j.1 (m7 j.1 j.2 J);rw[er];simp};have rs:r≠s:=λq=>by have:=(B.aa2 ho).aa4;rw[er,q]at this;simp at this
 have cne:c≠[]:=λz=>by rw[z]at L;cases L
 let{a,ha,N}:=sT (λv=>-b8 w v) c cne;let{b,hb,O}:=sT (λv=>b8 w v) c cne;have ab:a≠b:=λq=>by
  have e:∀x∈c,b8 w x=b8 w a:=λx o=>by
   have:=N x o;have:=O x o;rw[<-q]at this
   lia
  show A.inj r (C r L) s (C s sc) rs (by rw[H,e r L,e s sc];lia)
 have vt:∀f∈fs,∀x∈d8 J f,x∈c:=λf u x o=>(I x).mpr {f,(d f).mp u,o};have s1:(fs.map λf=>(d8 J f).length).sum=2*fs.length+(fs.map λf=>cnt (λv=>v∈d8 J f/\lP w J v f) c).sum:=by
  have key:∀E:List (V×Int),(∀f∈E,f∈fs)->(E.map λf=>(d8 J f).length).sum=2*E.length+(E.map λf=>cnt (λv=>v∈d8 J f/\lP w J v f) c).sum:=λE=>by
   induction E with
   |nil=>intro _;rfl
   |cons f E ih=>
    intro h;have i:=ih λg hg=>h g (.tail _ hg);have u:=(d f).mp (h f<|.head _);have k:=IS hs ho A u;have U:(d8 J f).Nodup:=(u.aa2 ho).aa4;rw[lq (l:=d8 J f) (p:=λv=>lP w J v f) U nc (vt f<|h f<|.head _)]at k;rw[aAq,aCa,aAq,aCa,aAp,i,k]
    lia
  show key fs λ_ h=>h
 have s2:=NP (λ(f:V×Int) v=>v∈d8 J f/\lP w J v f) fs c;have no:∀x∈c,(x=a\/x=b)->cnt (λf=>x∈d8 J f/\lP w J x f) fs=0:=λx o q=>a2e<|by
  rintro f u ⟨h1,h2⟩;have T:=(d f).mp u;let{P,Q,e1,e2,n,p,p0,q0}:=bO hs ho A T h1;have hP:=vt f u P (DB hs ho A T e1).1;have hQ:=vt f u Q (DB hs ho A T e2).2;have m:=(lI hs ho A T h1).mp h2;rw[n,p]at m;have d1:=H P x;have d2:=H Q x;rcases q with rfl|rfl
  .have:=N P hP;have:=N Q hQ;lia
  have:=O P hP;have:=O Q hQ;lia
 have yes:∀x∈c,¬(x=a\/x=b)->cnt (λf=>x∈d8 J f/\lP w J x f) fs=2:=λx o q=>by have n1:=A.inj b (C b hb) x (C x o) (λz=>q (.inr z.symm));have n2:=A.inj a (C a ha) x (C x o) (λz=>q (.inl z.symm));have:=O x o;have:=N x o;rw[H]at n1 n2;show GZ hs ho A U d ((I x).mp o) (C b hb) (C a ha) (by rw[H];lia) (by rw[H];lia)
 have s3:=LI (λv=>cnt (λf=>v∈d8 J f/\lP w J v f) fs) (λx=>x=a\/x=b) c no yes;have two:cnt (λx=>x=a\/x=b) c=2:=by
  have k:=cJ (p:=λx=>x=a\/x=b) (q:=λx=>x=a) c;have k1:cnt (λy=>(y=a\/y=b)/\y=a) c=1:=pQ nc ha {.inl rfl,rfl} λy _ h=>h.2;have k2:cnt (λy=>(y=a\/y=b)/\¬y=a) c=1:=pQ nc hb {.inr rfl,λq=>ab q.symm} λy _ h=>h.1.resolve_left h.2
  lia
 lia
end
section
open Classical
variable{J:List V} (hs:f8 J) (ho:J.Pairwise (λa b=>d7 (b-a))) {fs:List (V×Int)} (hfs:∀f,f∈fs↔IsFace J f.1 f.2)
include hs ho hfs
theorem OJ(a:fs.Nodup)(ne:fs≠[]){c:List V}(b:c.Nodup)(d:∀X,X∈c↔∃f:V×Int,IsFace J f.1 f.2/\X∈d8 J f):fs.length+4<=2*c.length/\(fs.map λf=>(d8 J f).length).sum+12<=6*c.length:=by have g:=NM hs ho a hfs ne b d;have h:=fE hs ho (fs:=fs) λf e=>(hfs f).mp e;constructor<;>lia
end
section
open Classical
variable{J:List V} (hs:f8 J) (ho:J.Pairwise λa b=>d7 (b-a)) {fs:List (V×Int)} (hfs:∀f,f∈fs↔IsFace J f.1 f.2)
include hs ho hfs
theorem rT(d:fs.Nodup)(ne:fs≠[]):fs.length+4<=2*J.length/\(fs.map λf=>(d8 J f).length).sum+12<=6*J.length:=by
 have e:J.Nodup:=ho.imp λ{a b} h q=>by rw[q]at h;show u8 h h
 have g:∀X,X∈J.filter (λX=>decide (∃f:V×Int,IsFace J f.1 f.2/\X∈d8 J f))↔∃f:V×Int,IsFace J f.1 f.2/\X∈d8 J f:=λX=>by rw[aAH,decide_eq_true_eq];show{λh=>h.2,λh=>{by let{f,i,j}:=h;show(c5.mp<|(i.aa2 ho).aa3 j).1,h}}
 have k:=OJ hs ho hfs d ne (e.sublist aBk) g;have:=aCr (λX=>decide (∃f:V×Int,IsFace J f.1 f.2/\X∈d8 J f)) J;constructor<;>lia
end
def smV:List V->V
 |[]=>0
 |a::l=>a+smV l
def ar(o:V)(l:List (V×V)):V:=smV (l.map λe=>cr (e.1-o) (e.2-o))
def a7g(o:V)(e:V×V)(l:List (V×V)):ar o (e::l)=cr (e.1-o) (e.2-o)+ar o l:=rfl
section
variable{n:V}{d:Int}{l:List (V×V)}{a:V}
end
section
open Classical
variable{J:List V} (hs:f8 J) (ho:J.Pairwise (λa b=>d7 (b-a)))
include hs ho
variable{fs:List (V×Int)} (hfs:∀f,f∈fs↔IsFace J f.1 f.2)
include hfs
end
section
variable{J:List V} (hs:f8 J) (ho:J.Pairwise (λa b=>d7 (b-a)))
include hs ho
variable{fs:List (V×Int)} (hfs:∀f,f∈fs↔IsFace J f.1 f.2)
include hfs
end
def GX{A B T n:V}{d:Int}{xs:List V}(j:Z1 n)(N:b8 n A=d)(O:b8 n B=d)(p:B-A≠0)(r:∀P∈xs,b8 n P<=d)(left:∀P∈xs,b8 n P=d->0<e9 n (B-A) (P-A)\/cr (B-A) (P-A)=0)
  (s:T∈xs) (t:b8 n T=d) (Q:cr (B-A) (T-A)≠0):b7 A B xs=(n,d):=by
 have x:=nS (n:=n) (a:=A) (b:=B) j.ne (by rw[c8];lia);have C:ConeM (B-A) (λw=>b8 n w<0\/(b8 n w=0/\0<e9 n (B-A) w)):=⟨x.toCone,λ{u} k h=>by
  have:=x.inv (-k) h
  rwa [show u+-k*(A-B)=u+k*(B-A)by apply ext<;>simp<;>grind]at this⟩
 have zero:∀P,b8 n P=d->b8 n (P-A)=0:=λP e=>by rw[c8];lia
 have v:∀P∈xs,(b8 n (P-A)<0\/(b8 n (P-A)=0/\0<e9 n (B-A) (P-A)))\/cr (B-A) (P-A)=0:=λP y=>by
  by_cases z:b8 n P=d
  .rcases left P y z with q|q
   .show .inl (.inr {zero P z,q})
   show .inr q
  show .inl (.inl (by rw[c8];have:=r P y;lia))
 have E:=(left T s t).resolve_right Q;let{f,g,o1,H,I,J,U,Y,su,sB,sO,sP}:=L7 C p v {T,s,.inr {zero T t,E}};have i:∀P,b8 n P=d->0<e9 n (B-A) (P-A)->∃k l:Int,0<k/\0<l/\k*cr (B-A) (P-A)=l*n:=λP e q=>by
  let{k,l,m,o}:=w6 j.ne (A7 (zero B O)<|zero P e);show{k,l,m,?_,o};have h:=gn (b8 n) o;rw[f7,f7]at h;have h1:0<k*b8 n (cr (B-A)<|P-A):=aAY m q;have h2:=t5 j.ne;by_cases z:0<l
  .show z
  have:=aAS (show 0<=-l by lia) (aAA h2);rw[Int.neg_mul]at this;lia
 let{k,l,m,hl,o}:=i T t E;have t1:b8 (b7 A B xs).1 (T-A)<=0:=by rw[c8];have:=su T s;lia
 have t2:g*b8 (b7 A B xs).1 (T-A)=e9 (B-A) (f-A) (T-A):=by rw[<-y7,<-J];show M2 _ _ _
 have t3:e9 (B-A) (f-A) (T-A)=-b8 (cr (B-A)<|T-A) (f-A):=by rw[M2,j2]
 have t4:k*b8 (cr (B-A)<|T-A) (f-A)=l*b8 n (f-A):=by rw[<-y7,o,y7]
 have o3:b8 n (f-A)=0:=by
  rcases H with q|q
  .exfalso;have a1:=aAv hl q;rw[<-t4]at a1;have a2:b8 (cr (B-A)<|T-A) (f-A)<0:=by
    by_cases z:b8 (cr (B-A)<|T-A) (f-A)<0
    .show z
    have:=aAS (aAA m) (show 0<=b8 (cr (B-A)<|T-A) (f-A)by lia);lia
   have a4:=aAS (aAA I) (show 0<=-b8 (b7 A B xs).1 (T-A)by lia);rw[Int.mul_neg]at a4;lia
  show q.1
 have o4:0<e9 n (B-A) (f-A):=by
  rcases H with q|q
  .lia
  show q.2
 let{k',l',jo,ie,e2}:=i f (by rw[c8]at o3;lia) o4;have L:(b7 A B xs).1=n:=kK U j (aAY jo I) ie (by rw[<-e2,J];show ext (aEc _ _ _) (aEc _ _ _) (aEc _ _ _))
 show aEr L (by rw[Y,L,N])
def a6w(f:V->Int)(xs:List V):∃t:Int,0<t/\∀P∈xs,f P<=t:=by
 induction xs with
 |nil=>show{1,by symm,λP h=>by cases h}
 |cons x xs b=>
  let{t,d,h}:=b;by_cases z:f x<=t
  .show{t,d,λP a=>by rcases aAe.mp a with rfl|q;show z;show h P q}
  show{f x,by lia,λP a=>by rcases aAe.mp a with rfl|q;show aBY _;have:=h P q;lia}
def HS{A B T n:V}{d:Int}{xs J:List V}(f:b8 n A=d)(a:∀P∈xs,b8 n P<=d)(lo:∀m:V,(∀P∈xs,b8 m P<=b8 m A)->∀P∈J,b8 m P<=b8 m A)
  (g:T∈J) (i:b8 n T=d) (o:0<e9 n (B-A) (T-A)):∃P∈xs,b8 n P=d/\cr (B-A) (P-A)≠0:=by
 by_cases z:∃P∈xs,b8 n P=d/\cr (B-A) (P-A)≠0
 .show z
 exfalso;let{t,j,k}:=a6w (λP=>e9 n (B-A) (P-A)) xs;have e:∀P,b8 (t*n+cr n (B-A)) P-b8 (t*n+cr n (B-A)) A=t*b8 n (P-A)+e9 n (B-A) (P-A):=λP=>by rw[<-c8,J5,k5,J5,y7,J5 (P-A),M2]
 have h:=lo (t*n+cr n (B-A)) (λP b=>by
  have q:=e P;have s:=a P b;by_cases y:b8 n P=d
  .have c0:cr (B-A) (P-A)=0:=aCT λc=>z {P,b,y,c};have:e9 n (B-A) (P-A)=0:=by unfold e9;rw[c0,A1]
   rw[this,c8,y,f,Int.sub_self,aBJ]at q;lia
  have p:=k P b;have l:b8 n (P-A)<=-1:=by rw[c8];lia
  have r:=aAz l (aAA j)
  lia) T g
 have q:=e T;rw[c8,i,f,Int.sub_self,aBJ]at q
 lia
structure LeftOf(J:List V)(A B n:V)(d:Int):Prop where
 ne:B-A≠0
 at_a:b8 n A=d
 at_b:b8 n B=d
 left:∀X∈J,b8 n X=d->0<e9 n (B-A) (X-A)\/cr (B-A) (X-A)=0
def rH{Pos:V->Prop}{A B:V}{J:List V}(C:ConeM (B-A) Pos)(a:B-A≠0)(b:∀P∈J,Pos (P-A)\/cr (B-A) (P-A)=0)(f:∃P∈J,Pos (P-A)):LeftOf J A B (b7 A B J).1 (b7 A B J).2:=by
 let{h,g,o,i,j,k,p,l,r,m,s,n}:=L7 C a b f;show{a,l.symm,m,λX d e=>?_};rcases b X d with q|q
 .have w:=qZ C a i q (n X d e);rw[k,y7]at w;show .inl ?_;by_cases z:0<e9 (b7 A B J).1 (B-A) (X-A)
  .show z
  have:=aAS (aAA j) (show 0<=-e9 (b7 A B J).1 (B-A) (X-A)by lia);rw[Int.mul_neg]at this;unfold e9 at this;lia
 show .inr q
def LeftOf.ac2{J:List V}{A B n:V}{d:Int}(h:LeftOf J A B n d)(f:IsFace J n d):∃T∈J,b8 n T=d/\0<e9 n (B-A) (T-A):=by
 by_cases z:∃T∈J,b8 n T=d/\0<e9 n (B-A) (T-A)
 .show z
 exfalso;let{X,b,Y,i,Z,j,x,y,w,k}:=f.three;have a:∀W∈J,b8 n W=d->cr (B-A) (W-A)=0:=λW g e=>(h.left W g e).resolve_left λq=>z {W,g,e,q};show k (dS h.ne (DY (a Y i y)<|a X b x)<|DY (a Z j w)<|a X b x)
def LeftOf.same{J xs:List V}{A B n:V}{d:Int}(h:LeftOf J A B n d)(f:IsFace J n d)(sub:∀P∈xs,P∈J)(lo:∀m:V,(∀P∈xs,b8 m P<=b8 m A)->∀P∈J,b8 m P<=b8 m A):b7 A B xs=(n,d):=by let{T,e,g,i}:=h.ac2 f;have a:∀P∈xs,b8 n P<=d:=λP b=>f.sup P (sub P b);let{P,b,j,k}:=HS h.at_a a lo e g i;show GX f.prim h.at_a h.at_b h.ne a (λP b=>h.left P (sub P b)) b j k
def OX{J:List V}{n a b:V}{d:Int}(f:n≠0)(h:EdgeOf n (λX=>X∈m7 n d J) a b):a∈J/\LeftOf J a b n d:=by
 let{g,i}:=c5.mp h.p;let{pb,j}:=c5.mp h.q;have k:b-a≠0:=λe=>h.ne (B5 e).symm;show{g,k,i,j,λX m e=>?_};have l:=h.left X (c5.mpr {m,e});by_cases z:0<e9 n (b-a) (X-a)
 .show .inl z
 show .inr (M9 f (by rw[c8];lia) (by rw[c8];lia) (by lia))
def FN{J:List V}{m:V}(u:f8 J)(ho:J.Pairwise (λa b=>d7 (b-a)))(v:m∈J)(hl:∀X∈J,X=m\/d7 (X-m)):
  (d6 m J).1∈J/\LeftOf J (d6 m J).1 (d6 m J).2 (b7 (d6 m J).1 (d6 m J).2 J).1 (b7 (d6 m J).1 (d6 m J).2 J).2:=by
 have C:ConeM (m+kk-m) (λw=>0<w.x\/(w.x=0/\0<w.y)):=by rw[A5];show xF
 have E:m+kk-m≠0:=by rw[A5];intro e;have:=gn V.z e;simp[kk]at this
 have o:∀P∈J,(0<(P-m).x\/((P-m).x=0/\0<(P-m).y))\/cr (m+kk-m) (P-m)=0:=λP k=>by
  rw[A5];rcases hl P k with e|e
  .right;subst e;rw[t6];apply ext<;>simp
  unfold d7 at e;rcases e with e|⟨H,e|⟨e2,e3⟩⟩
  .show .inl (.inl e)
  .show .inl (.inr {H,e})
  right;apply ext
  .simp[kk];simp at e2;lia
  .simp[kk];simp at H;lia
  simp[kk]
 have I:∃P∈J,0<(P-m).x\/((P-m).x=0/\0<(P-m).y):=by
  by_cases z:∃P∈J,0<(P-m).x\/((P-m).x=0/\0<(P-m).y)
  .show z
  exfalso;let{Z,l,e}:=u.off (n:={1,0,0}) (d:=m.x) (λe=>by have:=gn V.x e;simp at this);have w:=(o Z l).resolve_left λq=>z {Z,l,q};rw[A5]at w;have:=gn V.y w;simp[kk]at this;simp[b8]at e
  lia
 let{p,g,o1,N,g0,ge,O,gd,i,sB,sO,sP}:=L7 C E o I;have f:=c5.mpr {v,gd.symm};have j:=c5.mpr {o1,sO};have s:m≠p:=λe=>by subst e;rw[t6]at N;simp at N
 by_cases Q:Q4 (m7 (b7 m (m+kk) J).1 (b7 m (m+kk) J).2 J)=2
 .have e:d6 m J=(m,m+kk):=by unfold d6;erw[Q,if_true]
  rw[e];show{v,rH C E o I}
 .
  have h1:Q4 (m7 (b7 m (m+kk) J).1 (b7 m (m+kk) J).2 J)≠3:=λz=>by let{A,T,B,U,C,Y,D,hD,hd}:=uZ z;have T:=c5.mp T;have U:=c5.mp U;have Y:=c5.mp Y;have hD:=c5.mp hD;show hd (v9 O.ne (by rw[c8];lia) (by rw[c8];lia) (by rw[c8];lia))
  have av:Q4 (m7 (b7 m (m+kk) J).1 (b7 m (m+kk) J).2 J)<2:=by
   have:Q4 (m7 (b7 m (m+kk) J).1 (b7 m (m+kk) J).2 J)<=3:=by
    generalize m7 (b7 m (m+kk) J).1 (b7 m (m+kk) J).2 J=t;unfold Q4;split
    .lia
    dsimp only;split
    .lia
    split
    .lia
    split<;>lia
   lia
  have e:d6 m J=((m7 (b7 m (m+kk) J).1 (b7 m (m+kk) J).2 J).getD 0 0,(m7 (b7 m (m+kk) J).1 (b7 m (m+kk) J).2 J).getD 1 0):=by unfold d6;erw[Q,if_false]
  rw[e];have ord:(m7 (b7 m (m+kk) J).1 (b7 m (m+kk) J).2 J).Pairwise (λa b=>d7 (b-a)):=aEC _ ho;have h:∀X,X∈m7 (b7 m (m+kk) J).1 (b7 m (m+kk) J).2 J↔X∈J/\b8 (b7 m (m+kk) J).1 X=(b7 m (m+kk) J).2:=λX=>c5;generalize m7 (b7 m (m+kk) J).1 (b7 m (m+kk) J).2 J=t at*
  match t,f,j with
  |[],f,_=>cases f
  |[x],f,j=>simp at f j;show gs (f.trans j.symm) s
  |x::y::r,f,j=>
   dsimp only[List.getD_cons_zero,List.getD_cons_succ];have vh:d7 (y-x):=(aAw.mp ord).1 y (by simp);have ox:=(h x).mp (by simp);have oy:=(h y).mp (by simp);have yc:y-x≠0:=λz=>by rw[z]at vh;show y8.irr vh
   have na:b8 (b7 m (m+kk) J).1 (y-x)=0:=by rw[c8];lia
   have C2:=qY na;let{Z,l,hz}:=u.below O.ne i;have L:=rH C2 yc (J:=J) (λP k=>by
    have:=i P k;by_cases q:b8 (b7 m (m+kk) J).1 P<(b7 m (m+kk) J).2
    .show .inl (by rw[c8];lia)
    show .inr ((CH av) x (by simp) y (by simp) P ((h P).mpr {k,by lia}))) {Z,l,by rw[c8];lia}
   show{ox.1,L}
def WI{J:List V}{m:V}(G:Good J m){fs:List (V×Int)}{b:V×V->Prop}{a:List (V×V)}{p:V×V}(h:LInv J (d6 m J) fs b a)(g:p∈a)(i:¬b p):
  p.1∈J/\∀xs:List V,(∀P∈xs,P∈J)->(∀m:V,(∀P∈xs,b8 m P<=b8 m p.1)->∀P∈J,b8 m P<=b8 m p.1)->b7 p.1 p.2 xs=b7 p.1 p.2 J:=by
 have j:=(tH G h g i).1;have d:p.1∈J/\LeftOf J p.1 p.2 (b7 p.1 p.2 J).1 (b7 p.1 p.2 J).2:=by
  rcases h.wt p g with⟨f,k,l⟩|⟨r,n⟩
  .have e:=h.face f k;let{o,q}:=lT e.prim.ne e.sup (G.solid.below e.prim.ne e.sup) ((e.aa2 G.ord).aa1.mp l);show OX o.prim.ne q
  rw[n];show FN G.solid G.ord G.mem G.least
 show{d.1,λxs sub lo=>d.2.same j sub lo}
def HC(A B S:List V):Prop:=∀X,X∈S↔∃P∈A,∃Q∈B,X=P+Q
def OY(A B:List V)(P Q:V):List V:=A.map (· +Q)++B.map (P+·)
def WZ{A B S:List V}{P Q:V}(h:HC A B S)(b:P∈A)(d:Q∈B):∀X∈OY A B P Q,X∈S:=λX f=>by
 rcases aAO.mp f with q|q
 .let{R,a,e}:=aAh.mp q;show(h X).mpr {R,a,Q,d,e.symm}
 let{R,a,e}:=aAh.mp q;show(h X).mpr {P,b,R,a,e.symm}
def mz{A B S:List V}{P Q:V}(h:HC A B S)(n:V)(a:∀X∈OY A B P Q,b8 n X<=b8 n (P+Q)):∀X∈S,b8 n X<=b8 n (P+Q):=λX b=>by
 let{R,d,T,f,e}:=(h X).mp b;have g:=a (R+Q) (aAW _<|aAt d);have i:=a (P+T) (aAu _<|aAt f);rw[e];erw[k5]at*
 lia
def outer(n:V)(A:List V):List V:=A.filter λP=>decide (∀Q∈A,b8 n Q<=b8 n P)
def bH{n P:V}{A:List V}:P∈outer n A↔P∈A/\∀Q∈A,b8 n Q<=b8 n P:=by simp[outer]
def GY{A B S:List V}{n:V}{d:Int}(h:HC A B S)(j:∀X∈S,b8 n X<=d){Z:V}(o:Z∈S)(p:b8 n Z=d)(X:V):
  X∈m7 n d S↔∃P∈outer n A,∃Q∈outer n B,X=P+Q:=by
 let{q,k,r,l,s}:=(h Z).mp o;have i:∀P∈A,∀Q∈B,b8 n P+b8 n Q<=d:=λP f Q g=>by
  have:=j (P+Q) ((h _).mpr {P,f,Q,g,rfl})
  rwa [k5]at this
 rw[s,k5]at p;rw[c5];constructor
 .rintro⟨t,u⟩;let{P,f,Q,g,e}:=(h X).mp t;rw[e,k5]at u;show{P,bH.mpr {f,λR m=>by have:=i R m Q g;lia},Q,bH.mpr {g,λR m=>by have:=i P f R m;lia},e}
 rintro⟨P,f,Q,g,e⟩;let{f,v}:=bH.mp f;let{g,w}:=bH.mp g;show{(h X).mpr {P,f,Q,g,e},?_};have a:=v q k;have b:=w r l;have c:=i P f Q g;rw[e,k5];lia
def RO{A B S:List V}(h:HC A B S){X n P Q f d:V}(top:∀Y∈S,Y≠X->b8 n Y<b8 n X)(o:P∈A)(p:Q∈B)(k:f∈A)(l:d∈B)(e:X=P+Q)(m:X=f+d):P=f/\Q=d:=by
 have r:=(h<|P+d).mpr {P,o,d,l,rfl};have s:=(h<|f+Q).mpr {f,k,Q,p,rfl};have t:=gn (b8 n) e;have u:=gn (b8 n) m;rw[k5]at t u;have v:P+d=X:=aCT λz=>by
  have a:=top _ r z;rw[k5]at a;by_cases y:f+Q=X
  .have:=gn (b8 n) y;rw[k5]at this;lia
  have b:=top _ s y;rw[k5]at b;lia
 have q:d=Q:=by have:=v.trans e;have g:=gn V.x this;have i:=gn V.y this;have j:=gn V.z this;simp at g i j;show ext g i j
 subst q;have:=e.symm.trans m;have g:=gn V.x this;have i:=gn V.y this;have j:=gn V.z this;simp at g i j;show{ext g i j,rfl}
def EG{A B S:List V}(h:HC A B S)(f:f8 A){Q:V}(g:Q∈B):f8 S:=by let{i,a,j,b,k,c,l,d,n}:=f;have m:∀P∈A,P+Q∈S:=λP o=>(h _).mpr {P,o,Q,g,rfl};have e:∀P R:V,P+Q-(R+Q)=P-R:=λP R=>(by apply ext<;>simp<;>lia);show{_,m i a,_,m j b,_,m k c,_,m l d,by rw[e,e,e];show n}
def HM{A B S:List V}(h:HC A B S)(k:f8 A)(m:∀P∈A,-P∈B){n:V}{d:Int}(l:n≠0)(j:∀X∈S,b8 n X<=d):0<d:=by
 have f:∀P∈A,∀Q∈A,b8 n P-b8 n Q<=d:=λP g Q i=>by
  have:=j (P+-Q) ((h _).mpr {P,g,-Q,m Q i,rfl});rw[k5]at this;have e:b8 n (-Q)=-b8 n Q:=by simp[b8];grind
  lia
 let{P,g,_}:=k.off (n:=n) (d:=0) l;let{Q,i,e}:=k.off (n:=n) (d:=b8 n P) l;have a:=f P g Q i;have b:=f Q i P g
 lia
end G
namespace ST
open PySem PySem.SetTable
def MU(xs:Array Nat):Prop:=∀(i k:Nat) (a:i<xs.size) (b:k<xs.size),i<k->xs[i]<xs[k]
def CS{l r:Nat}(h:l<r):l<=(l+r)/2/\(l+r)/2<r:=by lia
theorem xQ(xs:Array Nat)(j:Nat)(k:MU xs):∀(a lo b:Nat),lo<=b->b<=xs.size->b-lo<=a->(∀i (h:i<xs.size),i<lo->xs[i]<j)->(∀i (h:i<xs.size),b<=i->j<=xs[i])->
  below.go xs j a lo b<=xs.size/\(∀i (h:i<xs.size),i<below.go xs j a lo b->xs[i]<j)/\(∀i (h:i<xs.size),below.go xs j a lo b<=i->j<=xs[i])
 |0,lo,b,p,f,l,m,n=>by obtain rfl:=aDC p (Nat.sub_eq_zero_iff_le.mp<|Nat.le_zero.mp l);unfold below.go;show{f,m,n}
 |a+1,lo,b,p,f,l,m,n=>by
  unfold below.go;by_cases g:lo<b
  .rw[gi g];let{r,s}:=CS g;have o:=aAn s f;have e:xs.getD ((lo+b)/2) j=xs[(lo+b)/2]:=by simp[aFt,o]
   dsimp only;rw[e];by_cases d:xs[(lo+b)/2]<j
   .rw[gi d];show xQ xs j k a _ _ s f (aBu<|aAn (Nat.sub_lt_sub_left g<|Nat.lt_succ_of_le r) l) (λi h t=>?_) n;by_cases q:i=(lo+b)/2
    .subst q;show d
    show aFd (k i _ h o<|aCw (aBu t) q) d
   rw[gk d];have d:=aCP d;show xQ xs j k a _ _ r (aCs o) (aBu<|aAn (Nat.sub_lt_sub_right r s) l) m (λi h t=>?_);by_cases q:i=(lo+b)/2
   .subst q;show d
   show aAj d (aCs<|k _ i o h<|aCw t<|aCA q)
  rw[gk g];obtain rfl:=aDC p (aCP g);show{f,m,n}
def cO(a:MU xs)(j:Nat):below xs j<=xs.size/\(∀i (h:i<xs.size),i<below xs j->xs[i]<j)/\(∀i (h:i<xs.size),below xs j<=i->j<=xs[i]):=
 xQ xs j a xs.size 0 xs.size (aAU _) (aAi _) (by lia) (λi h b=>by lia) (λi h b=>by lia)
def RB(a:MU xs)(h:xs[i]?=some j):below xs j=i:=by
 let{b,e}:=aCj.mp h;let{k,f,g}:=cO a j;rcases Nat.lt_trichotomy (below xs j) i with q|q|q
 .have d:below xs j<xs.size:=by lia
  have l:=g _ d (aAi _);have m:=a _ _ d b q
  lia
 .show q
 have:=f i b q;lia
structure Tab(t:SetTable):Prop where
 asc:MU t.place
 le:∀j∈t.place.toList,j<=t.mask
 nod:t.dummies=#[]
def N5(T:Tab t)(h:t.place[i]?=some j):t.slot j=.live i:=by unfold slot;rw[RB T.asc h];dsimp only;rw[h];simp
def GQ(T:Tab t)(h:j∉t.place.toList):t.slot j=.empty:=by
 unfold slot;have a:¬(t.place[below t.place j]?==some j)=true:=λz=>h (by have:=beq_iff_eq.mp z;let{b,e}:=aCj.mp this;rw[<-e];simp)
 dsimp only;rw[gk a,T.nod];rw[gk (by unfold has;simp)]
def FH(T:Tab t)(j:Nat):(t.slot j=.empty/\j∉t.place.toList)\/∃i,t.slot j=.live i/\t.place[i]?=some j:=by
 by_cases h:j∈t.place.toList
 .let{i,a,e}:=aBq h;have:t.place[i]?=some j:=by rw[<-aAF,aAk a,e]
  show .inr {i,N5 T this,this}
 show .inl {GQ T h,h}
def YH(mask:Nat)(p:Probe):Probe:=if p.more>0 then{p with j:=p.j+1,more:=p.more-1}else{p with j:=(leap mask p.i p.perturb).1,more:=runEnd mask (leap mask p.i p.perturb).1-(leap mask p.i p.perturb).1,i:=(leap mask p.i p.perturb).1,perturb:=(leap mask p.i p.perturb).2}
def tN(t:dC)(p:Probe):t.advance p=YH t.mask p:=rfl
def start(mask:Nat)(h:Int):Probe:={j:=bits h%(mask+1),more:=runEnd mask (bits h%(mask+1))-bits h%(mask+1),i:=bits h%(mask+1),perturb:=bits h,dummy:=none}
def l5(mask:Nat)(h:Int):Nat->Probe
 |0=>start mask h
 |n+1=>YH mask (l5 mask h n)
theorem qC(mask:Nat)(h:Int):∀n,(l5 mask h n).dummy=none
 |0=>rfl
 |n+1=>by have:=qC mask h n;change(YH mask _).dummy=none;unfold YH;split<;>show this
def F6(mask:Nat)(h:Int):Nat->Nat×Nat
 |0=>(bits h%(mask+1),bits h)
 |k+1=>leap mask (F6 mask h k).1 (F6 mask h k).2
def len(mask i:Nat):Nat:=runEnd mask i-i
def a3n(mask i:Nat):len mask i<=9:=by unfold len runEnd;split<;>lia
def off(mask:Nat)(h:Int):Nat->Nat
 |0=>0
 |k+1=>off mask h k+len mask (F6 mask h k).1+1
theorem QY(mask:Nat)(h:Int):∀k,off mask h k<=10*k
 |0=>aAi _
 |k+1=>by have:=QY mask h k;have:=a3n mask (F6 mask h k).1;change off mask h k+_+1<=_;lia
theorem bJ(mask:Nat)(h:Int):∀k r,r<=len mask (F6 mask h k).1->
  l5 mask h (off mask h k+r)={j:=(F6 mask h k).1+r,more:=len mask (F6 mask h k).1-r,i:=(F6 mask h k).1,perturb:=(F6 mask h k).2,dummy:=none}
 |0,0,_=>rfl
 |0,r+1,b=>by
  have a:=bJ mask h 0 r (by lia);have e:off mask h 0+(r+1)=(off mask h 0+r)+1:=by lia
  rw[e,l5,a];unfold YH;rw[gi (show len mask (F6 mask h 0).1-r>0 by lia)];simp
  lia
 |k+1,0,_=>by have a:=bJ mask h k (len mask (F6 mask h k).1) (aAi _);have e:off mask h (k+1)+0=(off mask h k+len mask (F6 mask h k).1)+1:=rfl;rw[e,l5,a];unfold YH;rw[gk (by simp)];simp[F6,len]
 |k+1,r+1,b=>by
  have a:=bJ mask h (k+1) r (by lia);have e:off mask h (k+1)+(r+1)=(off mask h (k+1)+r)+1:=by lia
  rw[e,l5,a];unfold YH;rw[gi (show len mask (F6 mask h<|k+1).1-r>0 by lia)];simp
  lia
def VE(mask:Nat)(h:Int)(k:Nat):(l5 mask h (off mask h k)).j=(F6 mask h k).1:=by have:=bJ mask h k 0 (aAU _);rw[Nat.add_zero]at this;rw[this];rfl
theorem kU(mask:Nat)(h:Int):∀k,(F6 mask h k).2<2^64/32^k+1
 |0=>by
  change bits h<_;unfold bits;have:=Int.emod_lt_of_pos h (show(0:Int)<2^64 by symm)
  lia
 |k+1=>by
  have a:=kU mask h k;change(F6 mask h k).2/32<_;have e:∀N,N/32^(k+1)=N/32^k/32:=λN=>by rw[Nat.div_div_eq_div_mul];rfl
  rw[e]
  lia
theorem wT(mask:Nat)(h:Int):∀k,(F6 mask h (13+k)).2=0
 |0=>by have:=kU mask h 13;simp at this;show this
 |k+1=>by have:=wT mask h k;change(F6 mask h<|13+k).2/32=0;rw[this]
def lcg(m:Nat)(i:Nat):Nat:=(i*5+1)%m
def iter(m:Nat):Nat->Nat->Nat
 |0,i=>i
 |n+1,i=>lcg m (iter m n i)
theorem rB(mask:Nat)(h:Int):∀k,(F6 mask h (13+k)).1=iter (mask+1) k (F6 mask h 13).1
 |0=>rfl
 |k+1=>by have a:=rB mask h k;change((F6 mask h<|13+k).1*5+1+(F6 mask h<|13+k).2/32)%(mask+1)=_;rw[wT,a];rfl
theorem lN(m:Nat):∀a b i,iter m (a+b) i=iter m a (iter m b i)
 |0,b,i=>by rw[aDD];rfl
 |a+1,b,i=>by rw[show a+1+b=(a+b)+1 by lia];change lcg m _=lcg m _;rw[lN m a b i]
def pC(m:Nat):Prop:=iter m m 0=0/\∀j<m,∃n<m,iter m n 0=j
def wW(F:pC m)(f:i<m)(g:j<m):∃n<m,iter m n i=j:=by
 let{a,k,d}:=F.2 i f;let{b,l,e}:=F.2 j g;by_cases h:a<=b
 .show{b-a,by lia,by rw[<-d,<-lN,show b-a+a=b by lia,e]}
 show{b+(m-a),by lia,?_};rw[<-d,<-lN,show b+(m-a)+a=b+m by lia,lN,F.1,e]
instance(m:Nat):Decidable (pC m):=inferInstanceAs (Decidable<|_/\_)
def a5a:pC 8:=by decide+kernel
def a0z:pC 32:=by decide+kernel
def bw:pC 128:=by decide+kernel
theorem LU(mask:Nat)(h:Int):∀k,(F6 mask h k).1<mask+1
 |0=>aFu _ (by lia)
 |k+1=>aFu _ (by lia)
def FR{mask:Nat}(F:pC (mask+1))(h:Int){j:Nat}(a:j<=mask):∃n,n<=10*(mask+14)/\(l5 mask h n).j=j:=by
 let{k,b,e}:=wW F (LU mask h 13) (show j<mask+1 by lia);show{off mask h (13+k),?_,?_}
 .have:=QY mask h (13+k);lia
 rw[VE,rB,e]
def xC{e β:Type}{l:List e}{m:List β}{p:Nat}{a:e×β}(h:a∈(l.take p).zip (m.take p)):a∈l.zip m:=by
 let{i,b}:=aBZ.mp h;rw[aBr]at b;show aAl (i:=i) ?_;rw[aBr];have q:∀{d:Type}{l:List d}{c:d},(l.take p)[i]?=some c->l[i]?=some c:=λ{d l c} h=>by
  rw[List.getElem?_take]at h;split at h
  .show h
  cases h
 show{q b.1,q b.2}
def xN{b β:Type}{l:List b}{m:List β}{p:Nat}{a:b×β}(h:a∈(l.drop p).zip (m.drop p)):a∈l.zip m:=by let{i,d}:=aBZ.mp h;rw[aBr,List.getElem?_drop,List.getElem?_drop]at d;show aAl (i:=p+i) ?_;rw[aBr];show d
theorem JP(mask:Nat)(h:Int):∀n,(l5 mask h n).j+(l5 mask h n).more<=mask
 |0=>by have:=aFu (bits h) (show 0<mask+1 by lia);change bits h%(mask+1)+(runEnd mask (bits h%(mask+1))-bits h%(mask+1))<=mask;unfold runEnd;split<;>lia
 |n+1=>by
  have a:=JP mask h n;change(YH mask<|l5 mask h n).j+(YH mask<|l5 mask h n).more<=mask;unfold YH;split
  .dsimp only;lia
  dsimp only;have:(leap mask (l5 mask h n).i (l5 mask h n).perturb).1<mask+1:=aFu _ (by lia);unfold runEnd;split<;>lia
def yV(mask:Nat)(h:Int)(n:Nat):(l5 mask h n).j<=mask:=by have:=JP mask h n;lia
theorem T0{a:Type}[DecidableEq a]:∀{l m:List a},l.Nodup->(∀x∈l,x∈m)->l.length<=m.length:=by
 intro i m h b;cases i with
 |nil=>show aAU _
 |cons x l=>
  have d:=b x (by simp);have f:=aBi.mp h;have:=T0 (l:=l) (m:=m.erase x) f.2 (λy g=>by
   have ne:y≠x:=λe=>by subst e;show f.1 g
   show(aFV ne).mpr (b y<|aAd _ g))
  rw[aFr d]at this;have:0<m.length:=aDr d;erw[aAp]
  lia
def NE{t:dC}(h:t.place.size<=t.mask):∃j≤t.mask,j∉t.place.toList:=by
 by_cases z:∃j≤t.mask,j∉t.place.toList
 .show z
 exfalso;have:=T0 (l:=aBI (t.mask+1)) (m:=t.place.toList) List.nodup_range (λj a=>by
  by_cases q:j∈t.place.toList
  .show q
  show gs {j,by have:=aCF.mp a;lia,q} z)
 simp at this
 lia
theorem least{P:Nat->Prop}[DecidablePred P]:∀n,P n->∃m≤n,P m/\∀k<m,¬P k:=by
 intro d h;cases d with
 |zero=>show{0,aAi _,h,λk b=>by lia}
 |succ n=>
  by_cases z:∃k≤n,P k
  .let{k,b,a}:=z;let{m,g,e,f}:=least k a;show{m,by lia,e,f}
  show{n+1,aAi _,h,λk b a=>z {k,by lia,a}}
termination_by n=>n
def W7(t:dC)(h:Int)(n0:Nat):Prop:=n0<=10*(t.mask+14)/\(l5 t.mask h n0).j∉t.place.toList/\∀m<n0,(l5 t.mask h m).j∈t.place.toList
def FE{t:dC}(F:pC (t.mask+1))(a:t.place.size<=t.mask)(h:Int):∃n0,W7 t h n0:=by let{j,b,d}:=NE a;let{n,l,e}:=FR F h b;let{m,o,f,g}:=least (P:=λn=>(l5 t.mask h n).j∉t.place.toList) n (by rw[e];show d);show{m,by lia,f,λk i=>by have:=g k i;simpa using this}
theorem BW(T:Tab t)(hashAt:Nat->Int)(h:Int)(l:W7 t h n0):∀(d n:Nat),n<=n0->n0-n<d->
  ∃f,n<=f/\f<=n0/\(∀m,n<=m->m<f->∃i,t.place[i]?=some (l5 t.mask h m).j/\hashAt i≠h)/\
   ((f=n0/\probe.go t hashAt h d (l5 t.mask h n)=some (.empty (l5 t.mask h n0).j none))\/
    (f<n0/\∃i,t.place[i]?=some (l5 t.mask h f).j/\hashAt i=h/\probe.go t hashAt h d (l5 t.mask h n)=some (.candidate (l5 t.mask h f).j i (l5 t.mask h (f+1)))))
 |0,n,_,o=>by lia
 |d+1,n,w,o=>by
  unfold probe.go;rcases FH T (l5 t.mask h n).j with⟨e,p⟩|⟨i,e,g⟩
  .have:n=n0:=by
     by_cases q:n<n0
     .show gs (l.2.2 n q) p
     lia
   subst this;show{n,aAi _,aAi _,λm a b=>by lia,.inl {rfl,?_}};rw[e];dsimp only;rw[qC]
  have x:n≠n0:=λq=>by subst q;show l.2.1 ?_;rw[<-aAF]at g;show aAl g
  rw[e];dsimp only;by_cases k:hashAt i=h
  . show{n,aAi _,by lia,λm a b=>by lia,.inr {by lia,i,g,k,?_}}
    rw[gi (by exists k),tN];rfl
  rw[gk (by exists k),tN]
  let{f,y,r,s,u}:=BW T hashAt h l d (n+1) (by lia) (by lia);show{f,by lia,r,λm z v=>?_,u};by_cases q:m=n
  .subst q;show{i,g,k}
  show s m (by lia) v
def SQ(T:Tab t)(hashAt:Nat->Int)(h:Int)(b:W7 t h n0)(n:Nat)(d:n<=n0):
  ∃a,n<=a/\a<=n0/\(∀m,n<=m->m<a->∃i,t.place[i]?=some (l5 t.mask h m).j/\hashAt i≠h)/\
   ((a=n0/\t.probe hashAt h (l5 t.mask h n)=some (.empty (l5 t.mask h n0).j none))\/
    (a<n0/\∃i,t.place[i]?=some (l5 t.mask h a).j/\hashAt i=h/\t.probe hashAt h (l5 t.mask h n)=some (.candidate (l5 t.mask h a).j i (l5 t.mask h (a+1))))):=
 BW T hashAt h b _ n d (by have:=b.1;unfold turns;lia)
def Reach(mask:Nat)(a:Nat->Prop)(h:Int)(j:Nat):Prop:=∃n,(l5 mask h n).j=j/\∀m<n,a (l5 mask h m).j
def Reach.mono{mask:Nat}{o a:Nat->Prop}{h:Int}{j:Nat}(r:Reach mask o h j)(i:∀k,o k->a k):Reach mask a h j:=by let{n,e,q}:=r;show{n,e,λm b=>i _ (q m b)}
def Reach.before(a:W7 t h n0)(b:j∈t.place.toList)(r:Reach t.mask (λk=>k∈t.place.toList) h j):∃n<n0,(l5 t.mask h n).j=j:=by
 let{n,e,q}:=r;show{n,?_,e};by_cases z:n<n0
 .show z
 exfalso;by_cases y:n=n0
 .subst y;show a.2.1 (by rw[e];show b)
 show a.2.1 (q n0 (by lia))
def iS{a:Type}(xs:Array a)(p:Nat)(x:a):(insertAt xs p x).toList=xs.toList.take p++x::xs.toList.drop p:=by
 unfold insertAt;simp[Array.toList_extract,List.extract_eq_drop_take];have:xs.size-p=(xs.toList.drop p).length:=by simp
 rw[this,List.take_length]
def DM(t:dC)(es:List (Int×af)):List (Nat×Int×af):=t.place.toList.zip es
structure SOk(t:SetTable)(es:List (Int×Value)):Prop where
 tab:Tab t
 full:pC (t.mask+1)
 len:t.place.size=es.length
 room:t.place.size<=t.mask
 reach:∀e∈DM t es,Reach t.mask (λk=>k∈t.place.toList) e.2.1 e.1
def oq{t:dC}{es:List (Int×af)}(b:t.place.size=es.length){i:Nat}{e:Int×af}(h:es[i]?=some e):∃j,t.place[i]?=some j/\(j,e)∈DM t es:=by
 have d:i<es.length:=(aAB.mp h).1;have a:i<t.place.toList.length:=by simpa[b]using d
 show{t.place.toList[i],by rw[<-aAF,aAk a],?_};unfold DM;show aAl (i:=i) ?_;rw[aBr];show{aAk a,h}
def a0y{t:dC}{es:List (Int×af)}(S:SOk t es){h:Int}{x:af}{n0:Nat}(A:W7 t h n0)(E:t.place.size+1<=t.mask):
  SOk (t.put (l5 t.mask h n0).j).1 (es.take (t.put (l5 t.mask h n0).j).2++(h,x)::es.drop (t.put (l5 t.mask h n0).j).2):=by
 have v:=yV t.mask h n0;let{Y,H,I}:=cO S.tab.asc (l5 t.mask h n0).j;generalize B:(l5 t.mask h n0).j=J at*
 have w:J∉t.place.toList:=by rw[<-B];show A.2.1
 have C:(t.put J).2=below t.place J:=rfl;have em:(t.put J).1.mask=t.mask:=rfl;have d:(t.put J).1.place=insertAt t.place (below t.place J) J:=rfl;have f:=iS t.place (below t.place J) J;have l:∀k,k∈(t.put J).1.place.toList↔k∈t.place.toList\/k=J:=λk=>by
  rw[d,f,aAO,aAe];constructor
  .rintro(q|q|q)
   .show .inl (List.mem_of_mem_take q)
   .show .inr q
   show .inl (aFW q)
  rintro(q|q)
  .rw[<-List.take_append_drop (below t.place J) t.place.toList,aAO]at q;rcases q with q|q
   .show .inl q
   show .inr (.inr q)
  show .inr (.inl q)
 have o:(t.put J).1.place.size=t.place.size+1:=by
  rw[<-aBw,d,f,aAx,aBW,aAp,aDT,aBw]
  lia
 show{{?_,λj L=>?_,?_},S.full,?_,by rw[o];show E,λe u=>?_}
 .
  have p:t.place.toList.Pairwise (· <·):=by rw[aCn];intro i j g v N;exists S.tab.asc i j (by exists g) (by exists v) N
  have r:∀a∈t.place.toList.take (below t.place J),a<J:=λa n=>by
   let{i,g,e}:=aBq n;rw[aBW]at g;rw[List.getElem_take]at e;have:=H i (by simp at g;lia) (by lia);simp at e
   lia
  have s:∀a∈t.place.toList.drop (below t.place J),J<a:=λa n=>by
   let{i,g,e}:=aBq n;rw[aDT]at g;rw[List.getElem_drop]at e;have h1:=I (below t.place J+i) (by simp at g;lia) (by lia);simp at e;have h2:J≠a:=λq=>w (by rw[q];show aFW n)
   lia
  have O:(t.put J).1.place.toList.Pairwise (· <·):=by
   rw[d,f,List.pairwise_append];show{p.sublist (List.take_sublist _ _),aAw.mpr {s,p.sublist (List.drop_sublist _ _)},λa n b Q=>?_};rcases aAe.mp Q with q|q
   .subst q;show r a n
   show aFd (r a n) (s b q)
  intro i k g y z;have:=aCn.mp O i k (by exists g) (by exists y) z;exists this
 .rcases(l j).mp L with q|q
  .show S.tab.le j q
  subst q;show v
 .change(if has t.dummies J then _ else t.dummies)=#[];rw[S.tab.nod,gk (by unfold has;simp)]
 .rw[o,C,aAx,aBW,aAp,aDT];have:=S.len
  lia
 have T:e∈DM t es\/e=(J,h,x):=by
  unfold DM at u;rw[d,f,C]at u;rw[List.zip_append (by rw[aBW,aBW,aBw,S.len])]at u;rcases aAO.mp u with q|q
  .left;unfold DM;show xC q
  rw[aDu]at q;rcases aAe.mp q with q|q
  .show .inr q
  left;unfold DM;show xN q
 rcases T with q|q
 .show(S.reach e q).mono λk y=>(l k).mpr (.inl y)
 subst q;show{n0,B,λm U=>(l _).mpr (.inl (A.2.2 m U))}
def U0(owner:Array (Option Nat))(j:Nat):Prop:=(owner.getD j<|some 0).isNone=false
def LQ{mask k m:Nat}{h:Int}(a:off mask h k<=m)(b:m-off mask h k<=len mask (F6 mask h k).1):(l5 mask h m).j=(F6 mask h k).1+(m-off mask h k):=by have:=bJ mask h k _ b;rw[Nat.add_sub_of_le a]at this;rw[this]
theorem wY{mask:Nat}(h:Int)(owner:Array (Option Nat)):∀(fuel k:Nat),(∃kk,k<=kk/\kk<k+fuel/\¬U0 owner (F6 mask h kk).1)->
  ∃n,off mask h k<=n/\layClean.free mask owner fuel (F6 mask h k).1 (F6 mask h k).2=some (l5 mask h n).j/\¬U0 owner (l5 mask h n).j/\∀m,off mask h k<=m->m<n->U0 owner (l5 mask h m).j
 |0,k,⟨kk,f,g,_⟩=>gs f (Nat.not_le_of_lt g)
 |fuel+1,k,⟨kk,f,g,i⟩=>by
  have p:runEnd mask (F6 mask h k).1+1-(F6 mask h k).1=len mask (F6 mask h k).1+1:=by unfold len runEnd;split<;>lia
  unfold layClean.free;rw[p];cases e:(aBI<|len mask (F6 mask h k).1+1).find? λr=>(owner.getD ((F6 mask h k).1+r)<|some 0).isNone with
  |some r=>
   have q:=List.find?_some e;have d:=aBu (aCF.mp<|aFk e);have l:(l5 mask h<|off mask h k+r).j=(F6 mask h k).1+r:=by rw[bJ mask h k r d]
   show{off mask h k+r,aBV _ _,by rw[l],by rw[l];unfold U0;rw[q];simp,λm a b=>?_};have b:=aFl a b;rw[LQ a (aCs<|aAn b d)];unfold U0;rw[List.find?_range_eq_some]at e;have:=e.2.2 (m-off mask h k) b;exists this
  |none=>
   have all:∀r<len mask (F6 mask h k).1+1,U0 owner ((F6 mask h k).1+r):=λr d=>by have:=List.find?_eq_none.mp e r (aCF.mpr d);unfold U0;show Bool.not_eq_true _▸this
   have s:k≠kk:=λq=>by subst q;show i (all 0<|aFN _)
   let{n,t,u,v,w}:=wY h owner fuel (k+1) {kk,aCw f s,(Nat.succ_add_eq_add_succ k fuel).symm▸g,i};show{n,aAj (aBV _<|len mask (F6 mask h k).1+1) t,u,v,λm o x=>?_};by_cases q:off mask h (k+1)<=m
   .show w m q x
   have q:m<off mask h k+(len mask (F6 mask h k).1+1):=Nat.lt_of_not_le q;have q:=aFl o q;rw[LQ o (aBu q)];show all _ q
def pZ{mask:Nat}(F:pC (mask+1))(h:Int)(owner:Array (Option Nat)){j:Nat}(i:j<=mask)(a:¬U0 owner j):
  ∃n,layClean.free mask owner (turns mask) (aEd h%(mask+1)) (aEd h)=some (l5 mask h n).j/\¬U0 owner (l5 mask h n).j/\∀m<n,U0 owner (l5 mask h m).j:=by
 let{k,l,e}:=wW F (LU mask h 13) (show j<mask+1 by lia);let{n,o,b,d,f}:=wY h owner (turns mask) 0 {13+k,aAU _,by unfold turns;lia,by rw[rB,e];show a};show{n,b,d,λm g=>f m (aAU _) g}
structure Laid(mask:Nat)(hs:List Int)(owner:Array (Option Nat))(k:Nat):Prop where
 size:owner.size=mask+1
 lt:∀(j i:Nat),owner[j]?=some (some i)->i<k
 inj:∀(j j' i:Nat),owner[j]?=some (some i)->owner[j']?=some (some i)->j=j'
 sur:∀i<k,∃j:Nat,owner[j]?=some (some i)
 reach:∀(j i:Nat) (h:Int),owner[j]?=some (some i)->hs[i]?=some h->Reach mask (λl=>∃i,owner[l]?=some (some i)) h j
def nG{owner:Array (Option Nat)}{mask j:Nat}(b:owner.size=mask+1)(d:j<=mask):U0 owner j↔∃i,owner[j]?=some (some i):=by
 unfold U0;have a:j<owner.size:=by lia
 have e:owner.getD j (some 0)=owner[j]:=by simp[aFt,a]
 rw[e,aAC a];cases owner[j]with
 |none=>simp
 |some i=>simp
def Laid.room{mask k:Nat}{r:List Int}{owner:Array (Option Nat)}(L:Laid mask r owner k)(t:k<=mask):∃j≤mask,¬U0 owner j:=by
 by_cases z:∃j≤mask,¬U0 owner j
 .show z
 exfalso;have all:∀j≤mask,∃i,owner[j]?=some (some i):=λj b=>by
  by_cases q:U0 owner j
  .show(nG L.size b).mp q
  show gs {j,b,q} z
 have d:∀n,n<=mask+1->∃l:List Nat,l.length=n/\l.Nodup/\(∀i∈l,i<k)/\∀i∈l,∃j<n,owner[j]?=some (some i):=λn=>by
  induction n with
  |zero=>showλ_=>{[],rfl,aDp,by simp,by simp}
  |succ n s=>
   intro u;let{l,o,f,g,p}:=s (by lia);let{i,h}:=all n (by lia);show{i::l,by simp[o],aBi.mpr {λq=>?_,f},λx a=>?_,λx a=>?_}
   .let{j,b,e}:=p i q;have:=L.inj j n i e h
    lia
   .rcases aAe.mp a with q|q
    .subst q;show L.lt _ _ h
    show g x q
   rcases aAe.mp a with q|q
   .subst q;show{n,by lia,h}
   let{j,b,e}:=p x q;show{j,by lia,e}
 let{l,o,f,g,_}:=d (mask+1) (aAi _);have:=T0 (m:=aBI k) f (λx a=>aCF.mpr (g x a));simp at this
 lia
def EC(mask:Nat)(b:List Int):Laid mask b (aEK (mask+1) none) 0:=by
 have a:∀(j i:Nat),(aEK (mask+1) (none:Option Nat))[j]?=some (some i)->False:=λj i h=>by rw[Array.getElem?_replicate]at h;split at h<;>cases h
 show{by simp,λj i h=>(a j i h).elim,λj d i h=>(a j i h).elim,λi e=>by lia,λj i _ h=>(a j i h).elim}
def Laid.step{mask k:Nat}{g:List Int}{owner:Array (Option Nat)}(L:Laid mask g owner k){h:Int}(t:g[k]?=some h){n:Nat}(u:¬U0 owner (l5 mask h n).j)(v:∀m<n,U0 owner (l5 mask h m).j):
  Laid mask g (owner.setIfInBounds (l5 mask h n).j (some k)) (k+1):=by
 have w:=yV mask h n;have o:(l5 mask h n).j<owner.size:=by rw[L.size];lia
 have get:∀(j i:Nat),(owner.setIfInBounds (l5 mask h n).j (some k))[j]?=some (some i)↔(j=(l5 mask h n).j/\i=k)\/(j≠(l5 mask h n).j/\owner[j]?=some (some i)):=λj i=>by
  rw[Array.getElem?_setIfInBounds];by_cases q:(l5 mask h n).j=j
  .rw[gi q,gi o];simp[q,eq_comm]
  rw[gk q];constructor
  .intro z;show .inr {λy=>q y.symm,z}
  rintro(⟨z,_⟩|⟨_,z⟩)
  .show gs z.symm q
  show z
 have x:∀i,owner[(l5 mask h n).j]?≠some (some i):=λi z=>u ((nG L.size w).mpr {i,z});have grow:∀l:Nat,(∃i:Nat,owner[l]?=some (some i))->∃i:Nat,(owner.setIfInBounds (l5 mask h n).j (some k))[l]?=some (some i):=λl A=>by
  let{i,z}:=A;by_cases q:l=(l5 mask h n).j
  .show{k,(get l k).mpr (.inl {q,rfl})}
  show{i,(get l i).mpr (.inr {q,z})}
 show{by simp[L.size],λj i z=>?_,λj p i z s=>?_,λi C=>?_,λj i r z e=>?_}
 .rcases(get j i).mp z with⟨_,q⟩|⟨_,q⟩
  .lia
  have:=L.lt j i q;lia
 .rcases(get j i).mp z with⟨d,a⟩|⟨d,a⟩
  .rcases(get p i).mp s with⟨f,b⟩|⟨f,b⟩
   .rw[d,f]
   subst a;have:=L.lt _ _ b;lia
  rcases(get p i).mp s with⟨f,b⟩|⟨f,b⟩
  .subst b;have:=L.lt _ _ a;lia
  show L.inj j p i a b
 .by_cases q:i=k
  .subst q;show{_,(get _ _).mpr (.inl {rfl,rfl})}
  let{j,z}:=L.sur i (by lia);show{j,(get j i).mpr (.inr {λy=>by subst y;show x i z,z})}
 rcases(get j i).mp z with⟨d,a⟩|⟨d,a⟩
 .subst d a;have:r=h:=Option.some.inj (e.symm.trans t);subst this;show{n,rfl,λm B=>grow _ ((nG L.size<|yV mask r m).mp (v m B))}
 show(L.reach j i r a e).mono grow
def CD{mask:Nat}(F:pC (mask+1))(b:Array Int)(z:b.size<=mask):∃owner,layClean mask b=some owner/\Laid mask b.toList owner b.size:=by
 have g:∀(post a:List Int) (owner:Array (Option Nat)),b.toList=a++post->Laid mask b.toList owner a.length->
   ∃d,post.foldl (λB h=>do
    let(owner,k)<-B
    let j<-layClean.free mask owner (turns mask) (aEd h%(mask+1)) (aEd h)
    pure (owner.setIfInBounds j (some k),k+1)) (some (owner,a.length))=some (d,b.size)/\Laid mask b.toList d b.size:=λpost=>by
  induction post with
  |nil=>
   intro a owner e L;have:a.length=b.size:=by rw[<-aBw,e];simp
   show{owner,by rw[List.foldl_nil,this],by rw[<-this];show L}
  |cons h post i=>
   intro a owner e L;have f:a.length<b.size:=by rw[<-aBw,e];simp
   let{j,l,m}:=L.room (by lia);let{n,o,p,q}:=pZ F h owner l m;have r:b.toList[a.length]?=some h:=by rw[e];simp
   have s:=L.step r p q;rw[aDE];have t:b.toList=(a++[h])++post:=by rw[e];simp
   let{d,u,v}:=i (a++[h]) _ t (by rw[aAx];show s);show{d,?_,v};rw[<-u];congr 1;simp[o]
 let{owner,w,x}:=g b.toList [] (aEK (mask+1) none) rfl (EC mask b.toList);show{owner,?_,x};unfold layClean;rw[<-Array.foldl_toList];have y:List.foldl (λB h=>do
    let(owner,k)<-B
    let j<-layClean.free mask owner (turns mask) (aEd h%(mask+1)) (aEd h)
    pure (owner.setIfInBounds j (some k),k+1)) (some (aEK (mask+1) none,0)) b.toList=some (owner,b.size):=w
 rw[y];rfl
def G8(mask:Nat)(owner:Array (Option Nat)):List (Nat×Nat):=(aBI<|mask+1).filterMap λj=>(owner.getD j none).map (j,·)
def T7{mask:Nat}{owner:Array (Option Nat)}(g:owner.size=mask+1){j i:Nat}:(j,i)∈G8 mask owner↔owner[j]?=some (some i):=by
 unfold G8;rw[aCb];constructor
 .rintro⟨l,a,e⟩;have f:l<owner.size:=by rw[g];show aCF.mp a
  have b:owner.getD l none=owner[l]:=by simp[aFt,f]
  rw[b,aCO]at e;let{k,d,h}:=e;cases h;rw[aAC f,d]
 intro e;let{a,d}:=aCj.mp e;have b:owner.getD j none=owner[j]:=by simp[aFt,a]
 show{j,aCF.mpr (by lia),by rw[b,d];rfl}
def BQ(mask:Nat)(owner:Array (Option Nat)):((G8 mask owner).map (·.1)).Pairwise (· <·):=by unfold G8;rw[aBM];have:(aBI<|mask+1).Pairwise (· <·):=List.pairwise_lt_range;show List.Pairwise.filterMap _ (R:=(· <·)) ?_ this;intro a g f b d h e;rw[aCO]at d e;let{_,_,rfl}:=d;let{_,_,rfl}:=e;show f
def WK{mask finger moves:Nat}{led plain:Bool}(F:pC (mask+1))(es:Array (Int×af))(B:es.size<=mask):
  ∃t' f,laid mask finger moves led plain (es.map (·.1))=some (t',f)/\(f.filterMap (es[·]?)).size=es.size/\(f.filterMap (es[·]?)).toList.Perm es.toList/\SOk t' (f.filterMap (es[·]?)).toList/\
   t'.mask=mask/\t'.dummies=#[]/\t'.led=led/\t'.plain=plain/\t'.moves=moves:=by
 let{d,J,L}:=CD F (es.map (·.1)) (by exists B);have n:(es.map (·.1)).size=es.size:=by simp
 rw[n]at L;show{{mask,place:=((G8 mask d).map (·.1)).toArray,dummies:=#[],finger,led,moves,plain},((G8 mask d).map (·.2)).toArray,?_,?_}
 .unfold laid;rw[J];rfl
 have o:(G8 mask d).Nodup:=by have:=BQ mask d;rw[aBM]at this;show aCi.mpr (this.imp λ{a b} h e=>by subst e;show aBx _ h)
 have p:((G8 mask d).map (·.2)).Nodup:=by rw[aCi,aBM];show List.Pairwise.imp_of_mem (R:=(· ≠·)) ?_ (aCi.mp o);rintro⟨j,i⟩ ⟨r,s⟩ N O Q e;dsimp only at e;subst e;have:=L.inj j r i ((T7 L.size).mp N) ((T7 L.size).mp O);subst this;show Q rfl
 have C:((G8 mask d).map (·.2)).Perm (aBI es.size):=by
  rw[aDL p List.nodup_range];intro i;rw[aCF,aAh];constructor
  .rintro⟨⟨j,s⟩,h,rfl⟩;show L.lt _ _ ((T7 L.size).mp h)
  intro t;let{j,u}:=L.sur i t;show{(j,i),(T7 L.size).mpr u,rfl}
 have E:(((G8 mask d).map (·.2)).toArray.filterMap (es[·]?)).toList=(G8 mask d).filterMap (λx=>es[x.2]?):=by rw[Array.toList_filterMap,aEe];rfl
 have T:((G8 mask d).filterMap (λx=>es[x.2]?)).Perm es.toList:=by
  have U:(G8 mask d).filterMap (λx=>es[x.2]?)=((G8 mask d).map (·.2)).filterMap (λi=>es[i]?):=by rw[aEe];rfl
  rw[U];show(C.filterMap _).trans (List.Perm.of_eq ?_);apply aEk;intro i;have:(aBI es.size).filterMap (λi=>es[i]?)=es.toList:=by
   have q:∀l:List (Int×af),(aBI l.length).filterMap (λi=>l[i]?)=l:=λl=>by
    induction l with
    |nil=>rfl
    |cons a l w=>
     rw[aAp,aFJ,aCL];erw[aDg];rw[aEe];have:((λi=>(a::l)[i]?)∘Nat.succ)=λi=>l[i]?:=by funext i;simp
     rw[this,w]
   have:=q es.toList;exists this
  rw[this]
 have Y:∀l:List (Nat×Nat),(∀x∈l,x.2<es.size)->(l.map (·.1)).zip (l.filterMap<|λx=>es[x.2]?)=l.filterMap (λx=>es[x.2]?.map (x.1,·))/\(l.filterMap<|λx=>es[x.2]?).length=l.length:=λl=>by
  induction l with
  |nil=>intro _;show{rfl,rfl}
  |cons x l w=>intro h;let{i1,i2}:=w (λy hy=>h y (aAd _ hy));have z:=h x (by simp);have e:es[x.2]?=some es[x.2]:=aAC z;rw[aAq,aCL,e];dsimp only;rw[aCL,e];dsimp only[Option.map_some];rw[aDu,i1];show{rfl,by simp[i2]}
 let{z1,H}:=Y (G8 mask d) (λx z=>L.lt x.1 x.2 ((T7 L.size).mp z));have g:(G8 mask d).length=es.size:=by have:=C.length_eq;exists this
 rw[E];show{by rw[<-aBw,E,H,g],T,{{?_,λj u=>?_,rfl},F,?_,?_,λe m=>?_},rfl,rfl,rfl,rfl,rfl}
 .intro i k t n A;have:=aCn.mp (BQ mask d) i k (by exists t) (by exists n) A;exists this
 .have ui:j∈(G8 mask d).map (·.1):=by exists u
  let{{r,i},h,rfl}:=aAh.mp ui;have:=(aCj.mp<|(T7 L.size).mp h).1;rw[L.size]at this;change r<=mask
  lia
 .rw[H];simp
 .erw[aAX,aAf,g];show B
 unfold DM at m;dsimp only at m;rw[z1,aCb]at m;let{{j,i},h,I}:=m;rw[aCO]at I;let{{hh,v},e2,rfl}:=I;have ho:=(T7 L.size).mp h;have:=L.reach j i hh ho (by rw[aAF,Array.getElem?_map,e2];rfl);show this.mono λl z9=>?_;let{s,eu}:=z9;change l∈(G8 mask d).map (·.1);show aAh.mpr {(l,s),(T7 L.size).mpr eu,rfl}
end ST
namespace TS
open PySem PyProof.Rows
abbrev tupK:Bool->SortKind:=sortPriv%PySem.Builtin.KeyKind.tuples
structure TB(f:Bool)(aa:Array Keyed)(st:SortSt):Prop where
 perm:(arrOf st).Perm aa
 kind:kindOf st=tupK f
 failed:failedOf st=none
 pend:pendingOf st=#[]
def TB.size{f:Bool}{aa:Array Keyed}{st:SortSt}(h:TB f aa st):(arrOf st).size=aa.size:=h.perm.size_eq
def TB.setArr{f:Bool}{aa:Array Keyed}{st:SortSt}(h:TB f aa st){xs:Array Keyed}(a:xs.Perm (arrOf st)):TB f aa (PyProof.Rows.setArr st xs):=
 {a.trans h.perm,h.kind,h.failed,h.pend}
def tx(f:Bool)(A:be)(s:ai)(κ:KeyKind):Prop:=
 ∀(d:bb) (w:bo) (E:D7) (x y:af) (a b:κ.α) {Q:CJ},
  κ.keyOf x=some a->κ.keyOf y=some b->Q (κ.blt a b) s->a9 (ba d w) A (keyLt' (tupK f) x y) Q E s
def TB.atK{f:Bool}{κ:KeyKind}{aa:Array Keyed}{st:SortSt}(h:TB f aa st)(h0:KeysOf κ aa){i:Nat}(d:i<aa.size):∃x p a,(arrOf st)[i]?=some (x,p)/\κ.keyOf x=some a/\KK κ (arrOf st) i=a:=by
 have g:i<(arrOf st).size:=by rw[h.size];show d
 let{a,b}:=h0 _ ((aEV.mp h.perm).mem_iff.mp (show(arrOf st)[i]∈(arrOf st).toList by simp));have e:(arrOf st)[i]?=some (arrOf st)[i]:=getElem?_pos _ i g;show{(arrOf st)[i].1,(arrOf st)[i].2,a,by rw[e],b,by unfold KK;rw[e];simp[b]}
section
def ltT(f:Bool){prog:bb}{w:bo}{A:be}{E:D7}{s:ai}{aa:Array Keyed}{κ:KeyKind}{st:SortSt}{i j:Nat}{Q:Option Bool->SortSt->Prop}(e:tx f A s κ)(d:TB f aa st)(h0:KeysOf κ aa)(g:i<aa.size)(k:j<aa.size)
  (h:Q (some (κ.blt (KK κ (arrOf st) i) (KK κ (arrOf st) j))) st):wpS (ba prog w) A E s (ltAt' i j) Q st:=by
 let{x,p,a,l,m,n}:=d.atK h0 g;let{y,q,b,o,r,t}:=d.atK h0 k;rw[n,t]at h;change wpS _ _ _ _ (do let x<-elem' (arrOf st) i;let y<-elem' (arrOf st) j;lt' x y) Q st;rw[elem'_eq,elem'_eq,l,o];show aBC (aCo<|aBC<|aCo ?_);rw[lt'_eq];show aBC (wpS_get ?_);rw[d.kind];show aBC (wpS_lift<|aEf<|e prog w _ x y a b m r ⟨rfl,(aCo h)⟩)
def up1(S:SortedToK κ xs x)(h:1<=x->κ.kle (KK κ xs (x-1)) (KK κ xs x)):SortedToK κ xs (x+1):=λi j a b=>by
 rcases aDw (aBu b)with d|rfl
 .show S i j a d
 rcases aDw a with e|rfl
 .show KeyOrd.kle_trans (S i (j-1) (by lia) (by lia)) (h (by lia))
 show KeyOrd.kle_refl _
def dn1(S:NonIncK κ xs x)(h:1<=x->κ.kle (KK κ xs x) (KK κ xs (x-1))):NonIncK κ xs (x+1):=λi j a b=>by
 rcases aDw (aBu b)with d|rfl
 .show S i j a d
 rcases aDw a with e|rfl
 .show KeyOrd.kle_trans (h (by lia)) (S i (j-1) (by lia) (by lia))
 show KeyOrd.kle_refl _
def RP(S:NonIncK κ xs x)(e:∀k,KK κ a k=KK κ xs k):NonIncK κ a x:=λi j b d=>by rw[e,e];show S i j b d
def GF(κ:KeyKind)(xs:Array Keyed)(x c:Nat):Prop:=c+1<=x/\∀k,x-(c+1)<=k->k<x->KK κ xs k=KK κ xs (x-1)
def GF.one(h:1<=x):GF κ xs x 0:={h,λk a b=>by rw[show k=x-1 by lia]}
variable{st:SortSt}
def QP(g:tx f A s κ)(h0:KeysOf κ aa)(k:m<=aa.size)(B:TB f aa st)(l:1<=a)(h:a<=m)(S:SortedToK κ (arrOf st) a){Q:AscSt->SortSt->Prop}(q:∀n,a<=n->n<=m->SortedToK κ (arrOf st) n->(n<m->κ.klt (KK κ (arrOf st) n) (KK κ (arrOf st) (n-1)))->Q (none,n) st):wpS (ba prog w) A E s (ascLoop a m) Q st:=by
 show aEu (I:=λn r t=>t=st/\r=(none,n)/\SortedToK κ (arrOf st) n) (λn r t i o j=>?_) (λr t ⟨d,e,b⟩=>?_) {rfl,rfl,S}
 .let{d,e,b}:=j;subst d e;show aBC (ltT f g B h0 (by lia) (by lia) ?_);cases z:κ.blt (KK κ (arrOf t) n) (KK κ (arrOf t)<|n-1)with
  |true=>show aCo (q n i (by lia) b λ_=>z)
  |false=>show aCo {rfl,rfl,up1 b λ_=>z}
 nofun
abbrev Told(f:Bool)(κ:KeyKind)(aa:Array Keyed)(m:Nat)(Q:Option Nat->SortSt->Prop):Prop:=∀n t,TB f aa t->1<=n->n<=m->SortedToK κ (arrOf t) n->Q (some n) t
def BB(g:tx f A s κ)(h0:KeysOf κ aa)(a:m<=aa.size)(B:TB f aa st)(b:1<=n)(d:n<=m)(S:NonIncK κ (arrOf st) n){Q:Option Nat->SortSt->Prop}(q:Told f κ aa m Q):
  wpS (ba prog w) A E s (tail3 n m) Q st:=by
 have B2:=B.setArr (aGi (arrOf st) 0 n<|(n-0)/2);have h:n<=(arrOf st).size:=by rw[B.size];show aAj d a
 show aBC (aGj<|aBC<|QP g h0 a B2 b d (λi j u l=>?_) λk o p r _=>aCo (q k _ B2 (aAj b o) p r));have e:∀k,k<n->KK κ (arrOf<|setArr st<|mirror (arrOf st) 0 n<|(n-0)/2) k=KK κ (arrOf st) (0+n-1-k):=λk t=>(KK_mirror h k).trans (gi {aAU _,t});rw[e i (by lia),e j l];show S _ _ (by omega) (by omega)
def PV(g:tx f A s κ)(h0:KeysOf κ aa)(C:m<=aa.size)(B:TB f aa st)(h:1<=n)(j:n<=m)(S:NonIncK κ (arrOf st) n){Q:DescSt->SortSt->Prop}(q:∀k c t,TB f aa t->1<=k->k<=m->NonIncK κ (arrOf t) k->GF κ (arrOf t) k c->Q (none,k,c) t):wpS (ba prog w) A E s (descLoop n m) Q st:=by
 show aEu (I:=λk r t=>∃c,r=(none,k,c)/\TB f aa t/\NonIncK κ (arrOf t) k/\GF κ (arrOf t) k c) (λk r t H J p=>?_) (λr t ⟨c,e,a,d,b⟩=>?_) {0,rfl,B,S,GF.one h}
 .let{c,e,a,d,b}:=p;subst e;have u:k<=(arrOf t).size:=by rw[a.size];lia
  dsimp only;show aBC (ltT f g a h0 (by lia) (by lia) ?_);cases z:κ.blt (KK κ (arrOf t) k) (KK κ (arrOf t)<|k-1)with
  |true=>
   have l:NonIncK κ (arrOf t) (k+1):=dn1 d λ_=>KeyOrd.kle_of_klt z;change wpS _ _ _ _ (if c>0 then _ else _) _ t;by_cases o:c>0
   .rw[gi o];show aBC (aGj (aCo {0,rfl,a.setArr (aGi _ _ _ _),RP l (aFO u b.2),GF.one (by lia)}))
   rw[gk o];show aCo {0,rfl,a,l,GF.one (by lia)}
  |false=>
   dsimp only;erw[aAE,if_false];show aBC (ltT f g a h0 (by lia) (by lia) ?_);cases v:κ.blt (KK κ (arrOf t)<|k-1) (KK κ (arrOf t) k)with
   |true=>show aCo (q k c t a (by lia) (by lia) d b)
   |false=>
    have e:KK κ (arrOf t) k=KK κ (arrOf t) (k-1):=KeyOrd.kle_antisymm v z;show aCo {c+1,rfl,a,dn1 d λ_=>by rw[e];show KeyOrd.kle_refl _,by have:=b.1;lia,λi L x=>?_};change KK κ (arrOf t) i=KK κ (arrOf t) k;rcases aDw (aBu x)with y|rfl
    .rw[e];show b.2 i (by lia) y
    rfl
 subst e;have e:max n m=m:=Nat.max_eq_right j;rw[e]at d b⊢;show q m c t a (aAj h j) (aAi _) d b
def CI(a:tx f A s κ)(h0:KeysOf κ aa)(b:m<=aa.size)(B:TB f aa st)(j:n+1<=m)(S:NonIncK κ (arrOf st) (n+1)){Q:Option Nat->SortSt->Prop}(q:Told f κ aa m Q):
  wpS (ba prog w) A E s (descPart n m) Q st:=by
 show aBC (wpS_lift<|aDq ⟨rfl,aBC (PV a h0 b B (aFN n) j S λk c t d e g h l=>?_)⟩);have o:k<=(arrOf t).size:=by rw[d.size];lia
 by_cases i:c>0
 .rw[gi i];show aBC (aGj<|BB a h0 b (d.setArr<|aGi _ _ _ _) e g (RP h<|aFO o l.2) q)
 rw[gk i];show BB a h0 b d e g h q
def OD(a:tx f A s κ)(h0:KeysOf κ aa)(b:m<=aa.size)(l:1<=m)(B:TB f aa st){Q:Option Nat->SortSt->Prop}(q:Told f κ aa m Q):wpS (ba prog w) A E s (countRun' 0 m) Q st:=by
 rw[countRun0_eq];show aBC (QP a h0 b B (aAi 1) l (up1 (λ_ _ _ z=>gs z (aFP _)) λz=>gs z (by symm)) λn d e S o=>?_);by_cases g:n=m
 .rw[gi (beq_iff_eq.mpr g)];show aCo (q n st B d e S)
 rw[gk λz=>g (beq_iff_eq.mp z)];have lt:=o (by lia);by_cases h:n>1
 .rw[gi h];show aBC (ltT f a B h0 (by lia) (by lia) ?_);cases z:κ.blt (KK κ (arrOf st) 0) (KK κ (arrOf st)<|n-1)with
  |true=>show aCo (q n st B d e S)
  |false=>
   have p:n<=(arrOf st).size:=by rw[B.size];lia
   have same:∀k,0<=k->k<n->KK κ (arrOf st) k=KK κ (arrOf st) (n-1):=λk _ r=>KeyOrd.kle_antisymm (S k (n-1) (by lia) (by lia)) (KeyOrd.kle_trans z<|S 0 k (aAU _) r);have t:NonIncK κ (arrOf st) n:=λi j v u=>by rw[same i (aAU _) (by lia),same j (aAU _) u];show KeyOrd.kle_refl _
   show aBC (aGj (CI a h0 b (B.setArr<|aGi _ _ _ _) (by lia) (RP (dn1 t λ_=>KeyOrd.kle_of_klt lt)<|aFO p same) q))
 rw[gk h];obtain rfl:n=1:=by lia
 show CI a h0 b B (by lia) (dn1 (dn1 (λ_ _ _ z=>gs z (aFP _)) λz=>gs z (by symm)) λ_=>KeyOrd.kle_of_klt lt) q
def WB{l j x:Nat}(h:l<j)(a:j<x+1):j-1<x:=by lia
def sN(hO:tx f A s κ)(h0:KeysOf κ aa)(hn:n<=aa.size)(hk:k<=n)(B:TB f aa st)(S:SortedToK κ (arrOf st) k){Q:Bool->SortSt->Prop}(q:∀t,TB f aa t->SortedToK κ (arrOf t) n->Q true t):
  wpS (ba prog w) A E s (binarySort' 0 n k) Q st:=by
 rw[binarySort'_eq];erw[aDD];have S0:SortedToK κ (arrOf st) (min (max k 1) n):=λi j h p=>by
  rcases Nat.eq_or_lt_of_le h with rfl|av
  .show KeyOrd.kle_refl _
  show S i j h (by lia)
 show aBC (wpS_mono (Q:=λr t=>r=(none,())/\TB f aa t/\SortedToK κ (arrOf t) n) (aEu (I:=λx r t=>r=(none,())/\TB f aa t/\SortedToK κ (arrOf t) (min x n)) (λx r t l1 l2 z=>?step) (λr t z=>{z.1,z.2.1,?fin}) {rfl,B,S0}) λr t z=>?post)
 case step=>
  let{e,J,m}:=z;subst e;rw[Nat.min_eq_left (aCs l2)]at m;have hx:x<aa.size:=by lia
  let L (l:Nat):Prop:=∀i,i<l->κ.kle (KK κ (arrOf t) i) (KK κ (arrOf t) x)
  let Top (r:Nat):Prop:=∀i,r<=i->i<x->κ.klt (KK κ (arrOf t) x) (KK κ (arrOf t) i)
  show aBC (wpS_mono (Q:=λd u=>u=t/\∃l r,d=(none,l,r)/\l<=x/\L l/\Top l) (aEu (I:=λy d u=>u=t/\∃l r,d=(none,l,r)/\l<=r/\r<=x/\r-l<=x-y/\L l/\Top r) (λy d u _ y2 z=>?istep) (λd u z=>?ifin)
   {rfl,0,x,rfl,aAU _,aAi _,aAi _,λ_ z=>gs z (aFP _),λi a b=>gs (aCx a b) (aBx _)}) λd u z=>?ipost)
  case istep=>
   let{e,l,r,N,lr,O,C,lo,H}:=z;subst e N;change wpS _ _ _ _ (if l>=r then _ else _) _ u;by_cases g:l>=r
   .rw[gi g];obtain rfl:l=r:=aDC lr g;show aCo {rfl,l,l,rfl,O,lo,H}
   rw[gk g];dsimp only;have g:=Nat.lt_of_not_le g;let{m1,m2}:=ST.CS g;have mx:=aAn m2 O;show aBC (ltT f hO J h0 hx (aFd mx hx) ?_);cases z:κ.blt (KK κ (arrOf u) x) (KK κ (arrOf u)<|(l+r)/2)with
   |true=>show aCo {rfl,l,(l+r)/2,rfl,m1,aCs mx,aDN (aAn (Nat.sub_lt_sub_right m1 m2) C),lo,λi a b=>KeyOrd.klt_of_klt_of_kle z (m _ i a b)}
   |false=>show aCo {rfl,(l+r)/2+1,r,rfl,m2,O,aDN (aAn (Nat.sub_lt_sub_left g<|Nat.lt_succ_of_le m1) C),λi a=>KeyOrd.kle_trans (m i ((l+r)/2) (aBu a) mx) z,H}
  case ifin=>
   let{e,l,r,N,lr,O,C,lo,H}:=z;subst e N;obtain rfl:l=r:=by lia
   show{rfl,l,l,rfl,O,lo,H}
  case ipost=>
   let{e,l,r,N,lx,lo,H}:=z;subst e N;have hz:x<(arrOf u).size:=by rw[J.size];show hx
   change wpS _ _ _ _ (do moveDown' x l;pure (aCt (none,()))) _ u;rw[moveDown'_eq];show aBC (wpS_modify<|aCo ⟨rfl,J.setArr (bubble_perm _ _ _),λi j h p=>?_⟩);have e:∀k,KK κ (arrOf<|setArr u<|bubble (arrOf u) x<|x-l) k=if k=l then KK κ (arrOf u) x else if l<k/\k<=x then KK κ (arrOf u) (k-1)else KK κ (arrOf u) k:=λk=>by have:=KK_bubble (κ:=κ) hz (Nat.sub_le x l) k;rw[show x-(x-l)=l by lia]at this;show this
   have p:j<x+1:=by lia
   rw[e,e];by_cases T:i=l
   .rw[gi T];by_cases v:j=l
    .rw[gi v];show KeyOrd.kle_refl _
    have o:=aCw (T▸h) (aCA v);rw[gk v,gi {o,aBu p}];show KeyOrd.kle_of_klt (H _ (aDN o)<|WB o p)
   rw[gk T];by_cases v:j=l
   .rw[v]at h;rw[gi v,gk λz=>Nat.not_lt_of_le h z.1];show lo i (aCw h T)
   rw[gk v];by_cases Y:l<i/\i<=x
   .have o:=aAn Y.1 h;rw[gi Y,gi {o,aBu p}];show m _ _ (Nat.sub_le_sub_right h 1) (WB o p)
   rw[gk Y];have h2:=aBu p;by_cases U:l<j/\j<=x
   .have o:=aCw (aCP λz=>Y {z,aAj h h2}) T;rw[gi U];show m _ _ (aDN<|aFd o U.1) (WB U.1 p)
   have o:=aCP λz=>U {z,h2};rw[gk U];show m _ _ h (aAn (aCw o v) lx)
 case fin=>have m:=z.2.2;rw[show min (max (max k 1) n) n=n by lia]at m;show m
 case post=>let{e,J,m}:=z;subst e;show aCo (q t J m)
def oU(f:Bool)(g:tx f A s κ)(h0:KeysOf κ aa)(B:TB f aa st)(p:2<=aa.size)(b:aa.size<64){Q:Unit->SortSt->Prop}(q:∀t,(arrOf t).Perm aa->failedOf t=none->SortedToK κ (arrOf t) aa.size->Q () t):wpS (ba prog w) A E s sortRuns' Q st:=by
 have k:minRun' aa.size aa.size 0=aa.size:=by
  generalize y:aa.size=N at*
  cases N with
  |zero=>lia
  |succ N=>rw[minRun'_succ,gi b]
 let rq (t:SortSt):Prop:=(arrOf t).Perm aa/\failedOf t=none/\pendingOf t=#[(0,aa.size,0)]/\SortedToK κ (arrOf t) aa.size
 have done:∀t,TB f aa t->SortedToK κ (arrOf t) aa.size->rq (setPending t<|(pendingOf t).push (0,aa.size,0)):=λt a l=>{a.perm,a.failed,(gn (·.push (0,aa.size,0)) a.pend),l};rw[sortRuns'_eq];show aBC (wpS_get ?_);dsimp only;erw[B.size,k];show aBC (wpS_mono (Q:=λr t=>r=(none,aa.size)/\rq t) (aEu (I:=λx r t=>(x=0/\r=(none,0)/\TB f aa t)\/(0<x/\r=(none,aa.size)/\rq t)) (λx r t _ C I=>?step) (λr t I=>?fin)<|.inl ⟨rfl,rfl,B⟩) λr t ⟨e,D⟩=>?post)
 case step=>
  rcases I with⟨rfl,rfl,a⟩|⟨H,rfl,D⟩
  .change wpS _ _ _ _ (if 0>=aa.size then _ else _) _ t;rw[gk (by lia)];erw[Nat.sub_zero,Nat.min_self,aDD];have fin:∀u,TB f aa u->(pendingOf u).back?=none:=λu B2=>by rw[B2.pend];rfl
   show aBC (OD g h0 (aAi _) (by lia) a λn u B2 J m h=>?_);change wpS _ _ _ _ (if n<aa.size then _ else _) _ u;by_cases i:n<aa.size
   .rw[gi i];show aBC (wpS_lift<|aDq ⟨rfl,aBC (sN g h0 (aAi _) m B2 h λv j o=>?_)⟩);erw[aEE,aAE,if_false];show aBC (wpS_get ?_);rw[fin v j];show aBC (wpS_modify<|aCo<|.inr ⟨aFN _,rfl,done v j o⟩)
   rw[gk i];obtain rfl:n=aa.size:=by lia
   show aBC (wpS_get ?_);rw[fin u B2];show aBC (wpS_modify<|aCo<|.inr ⟨aFN _,rfl,done u B2 h⟩)
  change wpS _ _ _ _ (if aa.size>=aa.size then _ else _) _ t;rw[gi (aAi _)];show aCo {rfl,D}
 case fin=>
  rcases I with⟨z,_⟩|⟨_,e,D⟩
  .lia
  show{e,D}
 case post=>
  subst e;show aBC (wpS_mono (Q:=λr u=>u=t/\r=(none,())) (aEu (I:=λ_ r u=>u=t/\r=(none,())) (λ_ r u _ _ ⟨e,d⟩=>?istep) (λ_ _ z=>z) {rfl,rfl}) λr u ⟨e,d⟩=>?ipost)
  case istep=>subst e d;show aBC (wpS_get ?_);rw[gi (by rw[D.2.2.1];show aAi 1)];show aCo {rfl,rfl}
  case ipost=>subst e d;show aCo (q _ D.1 D.2.1 D.2.2.2)
end
section
def Bar(a:a5)(s d:ai):Prop:=∀b o,b≠a->s.heap.get? b=some o->d.heap.get? b=some o
def AR{P:Fin->ai->Prop}(q:s.heap.get? a=some (seqObj "list" vs.toArray n))(h0:KeysOf κ (pairsOf vs))(y:∀k,Bar a s k->tx f A k κ)(t:2<=vs.length->∀k,Bar a s k->∀{Q:SortKind->ai->Prop},Q (tupK f) k->a9 (ba prog w) A (keyKind' vs.toArray) Q E k)(u:vs.length<64)(h:∀d:SortSt,(arrOf d).Perm (pairsOf vs)->SortedToK κ (arrOf d) (pairsOf vs).size->P (.done (.ret .none)) {s with heap:=sortedHeap s.heap a vs ((arrOf d).map (·.2))}):
  a9 (ba prog w) A (Builtin.«list.sort» {[.ref a],[]}) P E s:=by
 rw[list_sort_plain];have O:=aAg q;show aAa (aEv q rfl ?_);show aAa (listUpdate_at q rfl ?_);obtain⟨v,l⟩:∃v,(s.heap.update a<|aCg λ_=>#[]).get? a=some (seqObj "list" #[] v):={_,get?_update_seq q _};show aAa (seqEpoch_at l rfl<|aAa<|aGc<|aAa<|wpAny_newList<|aAV ?_);have m:Bar a s {s with heap:=((s.heap.update a<|aCg λ_=>#[]).push (seqObj "tuple" vs.toArray 0)).push (seqObj "list" #[] 0)}:=λb o z e=>aAc _ (aAc _<|(aAI _ _<|aCA z).trans e)
 have g:(((s.heap.update a<|aCg λ_=>#[]).push (seqObj "tuple" vs.toArray 0)).push (seqObj "list" #[] 0)).get? a=some (seqObj "list" #[] v):=aAc _ (aAc _ l);dsimp only;have B:vs.toArray.size=vs.length:=by simp
 have p:=h;by_cases r:vs.toArray.size<2
 .rw[gi r,gi r];show aAa (aAb ?_);show aAa (aAb ?_);show aAa (seqEpoch_at g rfl (aAa (listUpdate_at g rfl ?_ (hsz2:=by rw[Array.size_map];change(pairsOf vs).size<=_;rw[aFe,aFz];lia))));erw[bne_self_eq_false];show aAb (p (SortSt.mk' general' (vs.toArray.zip vs.toArray) #[] 7 none) (aGD _) λi j T C=>?_);have:i=j:=by rw[aFe]at C;lia
  subst this;show KeyOrd.kle_refl _
 rw[gk r,gk r];show aAa (t (by lia) _ m ?_);show aAa (aCJ (oU f (κ:=κ) (y _ m) (aa:=pairsOf vs) (Q:=λ_ d=>(arrOf d).Perm (pairsOf vs)/\failedOf d=none/\SortedToK κ (arrOf d) (pairsOf vs).size)
  h0 {aGD _,rfl,rfl,rfl} (by rw[aFe];lia) (by rw[aFe];show u) λd H I J=>{H,I,J}) ?_ λ_ _ e=>e)
 rintro⟨⟨⟩,d⟩ U ⟨rfl,x,L,N⟩;show aAa (seqEpoch_at g rfl (aAa (listUpdate_at g rfl ?_ (hsz2:=by show aAj (aEw<|(Array.size_map ..).trans (x.size_eq.trans<|aFe _)) ?_;rw[aFz];lia))));rw[L];simp;show aAb (p d x N)
end
end TS
namespace L2
open PySem PySem.Spec PyProof.Rows
abbrev EZ:=Sum Int Str
def QW:EZ->af->Bool
 |.inl k,v=>Value.isInt k v
 |.inr x,v=>Value.isStrOf x v
def a7w(w:bo):EZ->Int
 |.inl k=>hashInt k
 |.inr x=>hashStr w x
theorem B9:∀{k:EZ}{v:af},QW k v=true->(∃i t,k=Sum.inl i/\v=aGE i t)\/(∃x t,k=Sum.inr x/\v=Value.str x t)
 |.inl i,v,h=>by let{t,e}:=Value.isInt_shape (v:=v) h;show .inl {i,t,rfl,e}
 |.inr x,v,h=>by let{t,e}:=Value.isStrOf_shape (v:=v) h;show .inr {x,t,rfl,e}
def a2a(a b:Int):decide ((Sum.inl a:EZ)=Sum.inl b)=(a==b):=by grind
def a0n(a b:Str):decide ((Sum.inr a:EZ)=Sum.inr b)=decide (a=b):=by grind
def a3m(a:Int)(b:Str):decide ((Sum.inl a:EZ)=Sum.inr b)=false:=by lia
def a3z(a:Str)(b:Int):decide ((Sum.inr a:EZ)=Sum.inl b)=false:=by lia
def zB(prog:bb)(w:bo):PySem.KeyKind prog w EZ where
 is:=QW
 hash:=a7w w
 inj:=λv a b l g=>by
  rcases B9 l with⟨i,t,rfl,rfl⟩|⟨x,t,rfl,rfl⟩
  .rcases B9 g with⟨j,u,rfl,e⟩|⟨y,u,rfl,e⟩
   .injection e with d _;rw[d]
   show nomatch e
  rcases B9 g with⟨j,u,rfl,e⟩|⟨y,u,rfl,e⟩
  .show nomatch e
  injection e with d _;rw[d]
 byValue:=λk v h=>by rcases B9 h with⟨i,t,rfl,rfl⟩|⟨x,t,rfl,rfl⟩<;>rfl
 pyHash:=λf h=>by
  rcases B9 f with⟨i,t,rfl,rfl⟩|⟨x,t,rfl,rfl⟩
  .show wpAny_pyHash_int h
  show wpAny_pyHash_str h
 eqBool:=λm f h=>by
  rcases B9 m with⟨i,t,rfl,rfl⟩|⟨x,t,rfl,rfl⟩
  .rcases B9 f with⟨j,u,rfl,rfl⟩|⟨y,u,rfl,rfl⟩
   .rw[a2a]at h;show wpAny_eqBool_int h
   rw[a3m]at h;show aGn i t y u _ _ _ _ h
  rcases B9 f with⟨j,u,rfl,rfl⟩|⟨y,u,rfl,rfl⟩
  .rw[a3z]at h;show aGo x t j u _ _ _ _ h
  rw[a0n]at h;show wpAny_eqBool_str h
 «strs»:=λk x t v h=>by
  rcases B9 h with⟨i,u,rfl,e⟩|⟨y,u,rfl,e⟩
  .show nomatch e
  injection e with d _;subst d;cases v<;>rfl
def a3p(prog:bb)(w:bo)(k:EZ)(v:af):(zB prog w).is k v=QW k v:=rfl
inductive V where
 |non|bl (b:Bool)|int (i:Int)|str (x:Str)|byt (b:Array UInt8)|flt (b:UInt64)|ref (a:Addr)|ty (n:String)
 deriving DecidableEq
def RelV:V->af->Prop
 |.non,u=>u=Value.none
 |.bl b,u=>u=aDW b
 |.int i,u=>∃t,u=aGE i t
 |.str x,u=>∃t,u=Value.str x t
 |.byt b,u=>∃t,u=Value.bytes b t
 |.flt b,u=>∃t,u=Value.float b t
 |.ref a,u=>u=aDF a
 |.ty n,u=>u=aCy n
abbrev l7:List V->List af->Prop:=Paired RelV
def l7.length{xs:List V}{us:List af}(r:l7 xs us):xs.length=us.length:=Paired.length r
theorem l7.get:∀{xs:List V}{us:List af}{i:Nat}{x:V},l7 xs us->xs[i]?=some x->∃u,us[i]?=some u/\RelV x u:=by
 intro _ _ a x b e;cases b with
 |nil=>simp at e
 |cons r t=>
  cases a with
  |zero=>nofun
  |succ i=>let{u,d,f}:=l7.get t (by exists e);show{u,by simpa using d,f}
theorem l7.append:∀{xs a:List V}{us ws:List af},l7 xs us->l7 a ws->l7 (xs++a) (us++ws):=by
 intro _ _ _ _ b s;cases b with
 |nil=>show s
 |cons r t=>show .cons r (l7.append t s)
theorem l7.take:∀{xs:List V}{us:List af} (n:Nat),l7 xs us->l7 (xs.take n) (us.take n):=by
 intro _ _ a b;cases a with
 |zero=>show .nil
 |succ n=>
  cases b with
  |nil=>show .nil
  |cons r t=>show .cons r (l7.take n t)
theorem l7.drop:∀{xs:List V}{us:List af} (n:Nat),l7 xs us->l7 (xs.drop n) (us.drop n)
 |_,_,0,r=>r
 |_,_,_+1,.nil=>.nil
 |_,_,n+1,.cons _ t=>l7.drop n t
def a5o:Option V->Option af->Prop
 |some v,some u=>RelV v u
 |none,none=>True
 |_,_=>False
def KV{κ:Type}:List (κ×V)->List (κ×af)->Prop:=Paired λ(p:κ×V) (q:κ×af)=>p.1=q.1/\RelV p.2 q.2
def kV:EZ->V
 |.inl i=>.int i
 |.inr x=>.str x
inductive HO where
 |lst (xs:List V)
 |tup (xs:List V)
 |dK (N:List (EZ×V))|dT (N:List (List EZ×V))
 |set (S:Int->Bool) (n:Nat)
 |ins (C dx:Addr) (fs:List (Str×V))
 |own (x:Addr)
 |xd (fs:List (Str×V))
 |met (f x:Addr)
 |rng (lo hi:Int)
 |frz (o:Obj) (u:HO)
 |tbl (tb:List (Pos×Str))
 |ext (φ:Heap->Prop)
abbrev Hp:=a5->Option HO
def upd(H:Hp)(a:a5)(o:HO):Hp:=λb=>if b=a then some o else H b
def i9:upd H a o a=some o:=by unfold upd;rw[gi rfl]
def j5(h:b≠a):upd H a o b=H b:=by unfold upd;rw[gk h]
def t7{H:Hp}{a b:a5}{o:HO}(h:H a=some o)(h':H b=none):a≠b:=by lia
section
variable(P:bb) (w:bo)
def ObjOk(H:Hp)(h:bt)(a:a5):HO->Prop
 |.lst d=>d.length<=sizeLine/\∃(b:List af) (n:Nat),l7 d b/\h.get? a=some {cls:=.type "list",data:=.seq b.toArray n}
 |.tup d=>d.length<=sizeLine/\∃b:List af,l7 d b/\IsTup h a b.toArray
 |.dK N=>N.length<=sizeLine/\(a==eY)=false/\∃g,KV N g/\h.DictOf (zB P w) a g
 |.dT N=>N.length<=sizeLine/\(a==eY)=false/\∃d:List (List EZ×a5×af),
  Paired (λ(p:List EZ×V) (q:List EZ×a5×af)=>p.1=q.1/\H q.2.1=some (.tup (p.1.map kV))/\RelV p.2 q.2.2) N d/\
  ∃o l y,h.get? a=some o/\o.ExactDict/\o.data=.dict l y/\l.toList=d.map (entryOfKey<|tupleKind<|zB P w)/\(d.map (·.1)).Nodup
 |.set S n=>h.SetOf (intKind P w) a S n
 |.ins C i fs=>H i=some (.own a)/\fs.length<=1000/\i≠a/\h.get? a=some (PySem.W.instObj C i)/\
  ∃e,h.Ns1 i e/\(∀f,a5o (fs.lookup f) (e f))/\PySem.Within e (fs.map (·.1))
 |.own _=>∃o,h.get? a=some o
 |.xd fs=>∃e,h.Ns1 a e/\∀f,a5o (fs.lookup f) (e f)
 |.rng lo z=>∃t u v,h.get? a=some {cls:=.type "range",data:=.fields #[.int lo t,.int z u,.int 1 v]}
 |.frz o u=>h.get? a=some o/\ObjOk H h a u
 |.tbl A=>∃j:Array af,h.get? a=some {cls:=.none,data:=.fields j}/\TriplesOk j.toList/\∀p∈A,dV p.1 j.toList=none\/∃c m g t,dV p.1 j.toList=some (.ref c)/\H c=some (.frz m (.own c))/\m.data=.fields g/\g[1]?=some (.str p.2 t)
 |.met f x=>h.get? a=some (PySem.W.methodObj (.ref f)<|.ref x)
 |.ext k=>k h/\(∃o,h.get? a=some o)/\∀r s:bt,k r->(∀o,r.get? a=some o->s.get? a=some o)->k s
def uj:HO->Prop
 |.tup _=>True
 |.frz o _=>∃a,o.data=.fields a
 |_=>False
def iK(H:Hp)(h:bt):Prop:=∀a o,H a=some o->ObjOk P w H h a o
end
section
variable{P:bb}{w:bo}{H H':Hp}{h h':bt}{a:a5}{o:HO}
def ObjOk.lt(x:ObjOk P w H h a o):a<h.objs.size:=by
 cases o with
 |lst b=>let{_,_,_,_,e}:=x;show aAg e
 |tup b=>let{_,_,_,p}:=x;show p.lt
 |dK N=>let{_,_,_,_,o,_,_,e,_}:=x;show aAg e
 |dT N=>let{_,_,_,_,o,_,_,e,_}:=x;show aAg e
 |set S n=>let{o,_,_,_,e,_}:=x;show aAg e
 |ins C d fs=>let{_,_,_,e,_}:=x;show aAg e
 |own y=>let{_,e}:=x;show aAg e
 |xd fs=>let{_,{_,_,_,e,_},_}:=x;show aAg e
 |rng lo g=>let{_,_,_,e}:=x;show aAg e
 |frz i u=>let{e,_}:=x;show aAg e
 |tbl j=>let{_,e,_}:=x;show aAg e
 |met f y=>show aAg (x)
 |ext k=>let{_,{_,e},_}:=x;show aAg e
theorem Paired.af7{d β:Type}{F G:d->β->Prop}:∀{l₁:List d}{l₂:List β},Paired F l₁ l₂->(∀a b,F a b->G a b)->Paired G l₁ l₂:=by
 intro _ _ e f;cases e with
 |nil=>show .nil
 |cons r t=>show .cons (f _ _ r) (Paired.af7 t f)
def ObjOk.ab9(x:ObjOk P w H h a o)(k:∀b u,(b=a\/H b=some (.own a))->h.get? b=some u->h'.get? b=some u)
  (L:∀b,H b=some (.own a)->H' b=some (.own a)) (I:∀b u,uj u->H b=some u->H' b=some u):ObjOk P w H' h' a o:=by
 induction o with
 |lst s=>let{z,l,n,r,e}:=x;show{z,l,n,r,k _ _ (.inl rfl) e}
 |tup s=>let{z,l,r,g,e,c}:=x;show{z,l,r,g,k _ _ (.inl rfl) e,c}
 |dK N=>let{z,y,m,r,g,i,j,e,c}:=x;show{z,y,m,r,g,i,j,k _ _ (.inl rfl) e,c}
 |dT N=>let{z,y,s,r,g,i,j,e,c}:=x;show{z,y,s,Paired.af7 r λp q z=>{z.1,I _ _ trivial z.2.1,z.2.2},g,i,j,k _ _ (.inl rfl) e,c}
 |set S n=>let{g,i,j,t,e,c}:=x;show{g,i,j,t,k _ _ (.inl rfl) e,c}
 |ins C dx fs=>let{d,z,ne,e,A,{B,i,j,E,c},r}:=x;show{L _ d,z,ne,k _ _ (.inl rfl) e,A,{B,i,j,k _ _ (.inr d) E,c},r}
 |own y=>let{g,e}:=x;show{g,k _ _ (.inl rfl) e}
 |xd fs=>let{A,{B,i,j,e,c},r}:=x;show{A,{B,i,j,k _ _ (.inl rfl) e,c},r}
 |rng lo hi=>let{t,u,v,e}:=x;show{t,u,v,k _ _ (.inl rfl) e}
 |frz g u O=>let{e,q}:=x;show{k _ _ (.inl rfl) e,O q}
 |tbl tb=>let{Q,e,t,f}:=x;show{Q,k a _ (.inl rfl) e,t,λp T=>(f p T).imp id λ⟨c,U,m,t,Y,E,J⟩=>{c,U,m,t,Y,I _ _ {m,J.1} E,J}}
 |met f y=>have e:=x;change h'.get? a=some (PySem.W.methodObj (.ref f)<|.ref y);show k a _ (.inl rfl) e
 |ext φ=>let{p,{o,e},st}:=x;show{st _ _ p λo q=>k _ _ (.inl rfl) q,{o,k _ _ (.inl rfl) e},st}
def iK.lt(x:iK P w H h)(e:H a=some o):a<h.objs.size:=(x a o e).lt
def iK.fresh(x:iK P w H h)(e:h.objs.size<=a):H a=none:=by
 cases q:H a with
 |none=>rfl
 |some u=>show gs (aAn (x.lt q) e) (aBx _)
def iK.kept(x:iK P w H h)(k:∀b u,h.get? b=some u->h'.get? b=some u):iK P w H h':=λa o e=>(x a o e).ab9 (λb u _ q=>k b u q) (λ_ q=>q) λ_ _ _ q=>q
def iK.laid(x:iK P w H h)(k:∀b u,h.get? b=some u->h'.get? b=some u)(i:h.objs.size<=a)(d:ObjOk P w (upd H a o) h' a o):iK P w (upd H a o) h':=λb u e=>by
 have f:=x.fresh i;by_cases g:b=a
 .subst g;rw[i9]at e;cases e;show d
 rw[j5 g]at e;show(x b u e).ab9 (λc v _ q=>k c v q) (λc q=>by rw[j5 (t7 q f)];show q) λc j _ q=>by rw[j5 (t7 q f)];show q
end
def Rd(H:Hp)(a:a5)(u:HO):Prop:=H a=some u\/∃o,H a=some (.frz o u)
def Rd.ok(r:Rd H a u)(x:iK P w H h):ObjOk P w H h a u:=by
 rcases r with r|⟨o,r⟩
 .show x a u r
 let{_,q}:=x a _ r;show q
def Mut:Option HO->Prop
 |some (.lst _)=>True
 |some (.dK _)=>True
 |some (.dT _)=>True
 |some (.set _ _)=>True
 |some (.ins _ _ _)=>True
 |some (.ext _)=>True
 |_=>False
section
variable{P:bb}{w:bo}{H:Hp}{h h':bt}{x e:a5}{o':HO}
def iK.write(ok:iK P w H h)(g:Mut (H x))(s:e=x\/H e=some (.own x))(k:∀b u,b≠e->h.get? b=some u->h'.get? b=some u)(i:∃u,h'.get? e=some u)
  (j:ObjOk P w (upd H x o') h' x o'):iK P w (upd H x o') h':=λb u q=>by
 have a:∀c y,H c=some (.own y)->c≠x:=λc y r z=>by subst z;rw[r]at g;show g
 have d:∀c u,uj u->H c=some u->c≠x:=λc u f r z=>by subst z;rw[r]at g;cases u<;>first|show g|show f
 by_cases m:b=x
 .subst m;rw[i9]at q;cases q;show j
 rw[j5 m]at q;by_cases l:b=e
 .have n:H b=some (.own x):=by lia
  rw[q]at n;cases n;let{v,o}:=i;show{v,by rw[l];show o}
 show(ok b u q).ab9 (λc v t r=>k c v ?_ r) (λc r=>by rw[j5 (a c b r)];show r) λc p f r=>by rw[j5 (d c p f r)];show r
 grind
end
structure Un(fs ex:List Addr)(H H':Hp)(h h':Heap):Prop where
 keep:∀b o,h.get? b=some o->H b=none->b∉fs->b∉ex->h'.get? b=some o
 slot:∀b o,h.get? b=some o->H b=none->b∈fs->b∉ex->∃sl,h'.get? b=some {o with slots:=sl}
 free:∀b o,h.get? b=some o->H b=none->b∉ex->H' b=none
 there:∀b o,h.get? b=some o->b∉ex->∃o',h'.get? b=some o'
 tups:∀b xs,H b=some (.tup xs)->H' b=some (.tup xs)
 frzs:∀b o u,H b=some (.frz o u)->H' b=some (.frz o u)
 tbls:∀b tb,H b=some (.tbl tb)->H' b=some (.tbl tb)
section
variable{fs yf ex ex':List a5}{H H1 H2:Hp}{h h1 h2 h':bt}{a x e:a5}{o:HO}
def Un.any(u:Un fs ex H H1 h h1)(q:h.get? b=some d)(n:H b=none)(f:b∉ex):∃sl,h1.get? b=some {d with slots:=sl}:=by
 by_cases g:b∈fs
 .show u.slot b d q n g f
 show{d.slots,u.keep b d q n g f}
def Un.kept(k:∀b u,h.get? b=some u->h'.get? b=some u):Un fs ex H H h h':=
 {λb d q _ _ _=>k b d q,λb d q _ _ _=>{d.slots,k b d q},λ_ _ _ n _=>n,λb d q _=>{d,k b d q},λ_ _ q=>q,λ_ _ _ q=>q,λ_ _ q=>q}
def Un.refl:Un fs ex H H h h:=Un.kept λ_ _ q=>q
def Un.laid(k:∀b u,h.get? b=some u->h'.get? b=some u)(f:h.objs.size<=a)(d:H a=none):Un fs ex H (upd H a o) h h' where
 keep:=λb u q _ _ _=>k b u q
 slot:=λb u q _ _ _=>{u.slots,k b u q}
 free:=λb u q n _=>by rw[j5 (aAm<|aAn (aAg q) f)];show n
 there:=λb u q _=>{u,k b u q}
 tups:=λb g q=>by rw[j5 (t7 q d)];show q
 frzs:=λb u g q=>by rw[j5 (t7 q d)];show q
 tbls:=λb i q=>by rw[j5 (t7 q d)];show q
def Un.write(d:Mut (H x))(r:e=x\/H e=some (.own x))(k:∀b u,b≠e->h.get? b=some u->h'.get? b=some u)(j:∃u,h'.get? e=some u):Un fs ex H (upd H x o) h h':=by
 have l:∀b,H b=none->b≠x:=λb n z=>by subst z;rw[n]at d;show d
 have i:∀b,H b=none->b≠e:=λb n z=>by
  subst z
  nofun
 have f:∀b u,H b=some u->¬Mut (some u)->b≠x:=λb u q m z=>by subst z;rw[q]at d;show m d
 show⟨λb u q n _ _=>k b u (i b n) q,λb u q n _ _=>{u.slots,k b u (i b n) q},λb u q n _=>by rw[j5 (l b n)];show n,λb u q _=>?_,
  λb p q=>by rw[j5 (f b _ q λz=>z)];show q,λb u p q=>by rw[j5 (f b _ q λz=>z)];show q,λb s q=>by rw[j5 (f b _ q λz=>z)];show q⟩
 by_cases g:b=e
 .nofun
 show{u,k b u g q}
end
def trk(h:bt)(H:Hp):List a5:=(aBI h.objs.size).filter λa=>(H a).isSome
def uG(h:bt)(H:Hp):bt:=PySem.W.hideAll h (trk h H)
def MW(h:bt)(H:Hp):(uG h H).objs.size=h.objs.size:=PySem.W.hideAll_size _ _
def UH(e:h.get? b=some o)(n:H b=none):(uG h H).get? b=some o:=
 PySem.W.hideAll_get _ e λa=>by have q:(H b).isSome=true:=(aAH.mp a).2;rw[n]at q;simp at q
def kj(e:(uG h H).get? b=some o):h.get? b=some o/\H b=none:=by
 have a:h.get? b=some o:=PySem.W.of_hideAll (trk h H) e;show{a,?_};cases q:H b with
 |none=>rfl
 |some x=>have d:b∈trk h H:=aAH.mpr {aCF.mpr (aAg a),by simp[q]};have z:(uG h H).get? b=none:=PySem.W.hideAll_none (trk h H) d;rw[z]at e;cases e
def bx(g h:bt)(L:a5):List (a5×Obj):=(aBI h.objs.size).filterMap λa=>if a=L\/(g.get? a).isSome=true then none else(h.get? a).map λo=>(a,o)
def rest(g h:bt)(L d:a5):List (a5×Obj):=(bx g h L).filter λp=>decide (p.1≠d)
structure Mod(K:PySem.W.Frag)(mg:dJ)(base:Heap):Prop where
 kin:K.In base
 glob:base.Ns mainGlobals mg
 blt:∃mb,base.Ns builtinsNs mb/\∀x:Str,x≠ "__name__"->mb x=bootBuiltins x
 nolimit:base.NoLimit
structure Cx where
 prog:Program
 w:World
 K:PySem.W.Frag
 mg:Str->Option Value
 base:Heap
 A:Around
 N:List Str
 s9:Shared
 H9:Hp
 env:Env
 outer:List Env
 stack:List Env
 ex:List Addr
 fn:Str->Bool
 calm:Bool
 pn:List (Addr×Obj)
 xe:Value->Shared->Prop
def CU(l:List Env):List a5:=l.filterMap (·.frame)
abbrev Cx.fs(X:Cx):List a5:=CU X.outer
def CF(sc:eO)(x:Str):Prop:=sc.names.lookup x=some .local\/sc.names.lookup x=some .cell\/sc.names.lookup x=some .free
def Loc(sc:eO)(x:Str):Prop:=sc.names.lookup x=some .local\/sc.names.lookup x=some .cell
def Look(env:Env)(h:bt)(m:dJ)(x:Str)(u:af):Prop:=
 (env.kindOf x=some .local/\m x=some u)\/((env.kindOf x=some .cell\/env.kindOf x=some .free)/\∃c,env.cells.lookup x=some c/\h.IsCell c (some u))
structure Cx.Ok(X:Cx):Prop where
 mod:Mod X.K X.mg X.base
 kind:X.env.scope.kind=.function
 glob:X.env.globals=mainGlobals
 blt:X.env.builtins=builtinsNs
 above:X.s9.heap.objs.size<=X.env.locals
 inj:∀x y c,X.env.cells.lookup x=some c->X.env.cells.lookup y=some c->x=y
 has:∀x,(X.env.kindOf x=some .cell\/X.env.kindOf x=some .free)->∃c,X.env.cells.lookup x=some c
 cab:∀x c,X.fn x=true->X.env.cells.lookup x=some c->X.s9.heap.objs.size<=c
 hd:X.calm=true->X.A.handled=none
 frames:X.A.frames=some X.stack
 stk:X.stack=X.outer\/(X.stack=X.env::X.outer/\X.env.frame=some X.env.locals)
 exf:∀b∈X.ex,b≠X.env.locals/\∀x c,X.env.cells.lookup x=some c->c≠b
 bs:∀b o,X.base.get? b=some o->X.s9.heap.get? b=some o/\X.H9 b=none
 bsz:X.base.objs.size<=X.s9.heap.objs.size
 noex:∀b o,X.base.get? b=some o->b∉X.ex
 exfs:∀b∈X.ex,b∉X.fs
 funs:X.s9.heap.FunFrames X.base X.outer
 frf:∀b∈X.fs,X.H9 b=none
structure Inv(X:Cx)(Y:R7)(σ:List (Option V))(H:Hp)(s:Shared):Prop where
 ok:X.Ok
 os:s.os=X.s9.os
 bare:AllBare s.gens
 base:Un X.fs X.ex X.H9 H X.s9.heap s.heap
 loc:∃m,s.heap.Ns X.env.locals m/\∀(i:Nat) (x:Str) (v:V),X.N[i]?=some x->σ[i]?=some (some v)->CF X.env.scope x->∃u,RelV v u/\Look X.env s.heap m x u
 cell:∀x c,X.env.cells.lookup x=some c->∃v,s.heap.IsCell c v
 free:H X.env.locals=none
 freeC:∀x c,X.env.cells.lookup x=some c->H c=none
 pin:∀p∈X.pn++Y,s.heap.get? p.1=some p.2/\H p.1=none/\p.1≠X.env.locals/\p.1∉X.fs/\∀v,p.2.data≠.cell v
 hok:iK X.prog X.w H s.heap
 len:σ.length=X.N.length
section
variable{X:Cx}{Y:R7}{σ:List (Option V)}{H H':Hp}{s:ai}{h':bt}
def Cx.Ok.nofr(ok:X.Ok)(e:X.base.get? b=some o):b∉X.fs:=λa=>by
 have:=(ok.funs.mem a).1
 lia
def Inv.bs(I:Inv X Y σ H s):∀b o,X.base.get? b=some o->s.heap.get? b=some o/\H b=none:=λb o e=>{I.base.keep b o (I.ok.bs b o e).1 (I.ok.bs b o e).2 (I.ok.nofr e) (I.ok.noex b o e),I.base.free b o (I.ok.bs b o e).1 (I.ok.bs b o e).2 (I.ok.noex b o e)}
def Inv.bk(I:Inv X Y σ H s):∀b o,X.base.get? b=some o->s.heap.get? b=some o:=λb o e=>(I.bs b o e).1
def Inv.mod(I:Inv X Y σ H s):Mod X.K X.mg X.base:=I.ok.mod
def Inv.kIn(I:Inv X Y σ H s):X.K.In s.heap:=I.ok.mod.kin.keeps I.bk
def Inv.lt(I:Inv X Y σ H s):X.env.locals<s.heap.objs.size:=let⟨_,a,_⟩:=I.loc;a.lt
def Inv.sz(I:Inv X Y σ H s):X.s9.heap.objs.size<=s.heap.objs.size:=aAj I.ok.above (aCs I.lt)
def Inv.ag5(I:Inv X Y σ H s)(h:s.heap.objs.size<=a):a∉X.fs:=λb=>by let{_,o,d,_}:=I.ok.funs.mem b;show gs (aAn (aAg d)<|aAj I.sz h) (aBx _)
def Inv.cne(I:Inv X Y σ H s):∀x c,X.env.cells.lookup x=some c->c≠X.env.locals:=λx c e z=>by
 let{v,o,b,d}:=I.cell x c e;let{m,{f,g,h,a,i,_},_}:=I.loc
 lia
def Inv.funs(I:Inv X Y σ H s):s.heap.FunFrames X.base X.outer:=by
 have all:∀(l:List Env),(∀b∈CU l,b∈X.fs)->X.s9.heap.FunFrames X.base l->s.heap.FunFrames X.base l:=by
  intro l;induction l with
  |nil=>intro _ _;trivial
  |cons h r i=>intro g j;let{k,{L,o,a,m,n,p},q}:=j;have d:=g L (by unfold CU;rw[aCL,a];show aBf);let{t,e}:=I.base.slot L o n (I.ok.frf L d) d λz=>I.ok.exfs L z d;show{k,{L,_,a,m,e,p},i (λb f=>g b (by unfold CU;rw[aCL,a];show aAd _ f)) q}
 show all X.outer (λ_ f=>f) I.ok.funs
def Inv.stack(I:Inv X Y σ H s):s.heap.FunFrames X.base X.stack:=by
 rcases I.ok.stk with e|⟨e,a⟩
 .rw[e];show I.funs
 rw[e];let{m,b,_}:=I.loc;show .cons (by rw[I.ok.kind];symm) a b (aED<|aAj I.ok.bsz I.ok.above) I.funs
def Inv.ab6(I:Inv X Y σ H s):∀b∈CU X.stack,b∈X.env.locals::X.fs:=λb a=>by
 rcases I.ok.stk with e|⟨e,d⟩
 .rw[e]at a;show aAd _ a
 rw[e]at a;unfold CU at a;rw[aCL,d]at a;show a
def Inv.ae0(I:Inv X Y σ H s):∀b∈CU X.stack,H b=none:=λb a=>by
 rcases aAe.mp (I.ab6 b a)with e|a
 .rw[e];show I.free
 let{_,o,d,_}:=I.ok.funs.mem a;show I.base.free b o d (I.ok.frf b a) λz=>I.ok.exfs b z a
def Inv.step{g':Array GenState}{t':Nat}{d':Drawn}{ch:List a5}(I:Inv X Y σ H s)
  (E:∀b∈ch,(b∈X.ex\/X.s9.heap.objs.size<=b)/\b≠X.env.locals/\(∀x c,X.env.cells.lookup x=some c->c≠b)/\∀p∈X.pn++Y,p.1≠b)
  (g:∀b o,b≠X.env.locals->b∉X.fs->b∉ch->s.heap.get? b=some o->H b=none->h'.get? b=some o)
  (slot:∀b o,b≠X.env.locals->b∈X.fs->b∉ch->s.heap.get? b=some o->H b=none->∃sl,h'.get? b=some {o with slots:=sl}) (f:∀b o,b∉ch->s.heap.get? b=some o->H b=none->H' b=none)
  (y:∀b o,b∉ch->s.heap.get? b=some o->∃J,h'.get? b=some J)
  (L:∀b xs,H b=some (.tup xs)->H' b=some (.tup xs)) (N:∀b o u,H b=some (.frz o u)->H' b=some (.frz o u)) (O:∀b tb,H b=some (.tbl tb)->H' b=some (.tbl tb))
  (ns:∀m,s.heap.Ns X.env.locals m->h'.Ns X.env.locals m) (T:iK X.prog X.w H' h') (hg:AllBare g'):
  Inv X Y σ H' {s with heap:=h',gens:=g',drawn:=d',toks:=t'}:=by
 have Q:∀b o,X.s9.heap.get? b=some o->b≠X.env.locals:=λb o e=>aAm (aAn (aAg e) I.ok.above);have t:∀b o,X.s9.heap.get? b=some o->b∉X.ex->b∉ch:=λb o e a A=>by
  rcases(E b A).1 with z|z
  .show a z
  show gs (aAn (aAg e) z) (aBx _)
 have h:∀x c,X.env.cells.lookup x=some c->∀v,s.heap.IsCell c v->h'.IsCell c v:=λx c e v ⟨o,C,U⟩=>by
  have j:c∉ch:=λz=>(E c z).2.2.1 x c e rfl;by_cases hc:c∈X.fs
  .let{sl,q}:=slot c o (I.cne x c e) hc j C (I.freeC x c e);show{_,q,U}
  show{o,g c o (I.cne x c e) hc j C (I.freeC x c e),U}
 show{I.ok,I.os,hg,{λb o e n A a=>?_,λb o e n A a=>?_,λb o e n a=>?_,λb o e a=>?_,λb xs e=>L b xs (I.base.tups b xs e),λb o xs e=>N b o xs (I.base.frzs b o xs e),λb ps e=>?_},?_,λx c e=>?_,?_,λx c e=>?_,λp hp=>?_,T,I.len}
 .show g b o (Q b o e) A (t b o e a) (I.base.keep b o e n A a) (I.base.free b o e n a)
 .let{sl,B}:=I.base.slot b o e n A a;let{sl',e2}:=slot b _ (Q b o e) A (t b o e a) B (I.base.free b o e n a);show{sl',e2}
 .let{J,B}:=I.base.there b o e a;show f b J (t b o e a) B (I.base.free b o e n a)
 .let{J,B}:=I.base.there b o e a;show y b J (t b o e a) B
 .show O b ps (I.base.tbls b ps e)
 .let{m,hn,hl}:=I.loc;show{m,ns m hn,λi x v B e2 e3=>?_};let{u,r,l}:=hl i x v B e2 e3;show{u,r,?_};rcases l with l|⟨k,c,e,z⟩
  .show .inl l
  show .inr {k,c,e,h x c e _ z}
 .let{v,z}:=I.cell x c e;show{v,h x c e v z}
 .let{m,{o,_,_,C,_},_}:=I.loc;show f _ o (λz=>(E _ z).2.1 rfl) C I.free
 .let{v,o,C,U}:=I.cell x c e;show f c o (λz=>(E c z).2.2.1 x c e rfl) C (I.freeC x c e)
 let{e,n,ne,nf,d}:=I.pin p hp;have j:p.1∉ch:=λz=>(E p.1 z).2.2.2 p hp rfl;show{g p.1 p.2 ne nf j e n,f p.1 p.2 j e n,ne,nf,d}
def Inv.un{t':Nat}(I:Inv X Y σ H s)(u:Un X.fs [] H H' s.heap h')(d:iK X.prog X.w H' h'):Inv X Y σ H' {s with heap:=h',toks:=t'}:=by
 let{m,{o,p,q,i,r},_}:=id I.loc;let{t,j}:=u.any i I.free (by simp);show I.step (g':=s.gens) (d':=s.drawn) (ch:=[]) (λ_ z=>nomatch z) (λb o _ f _ e n=>u.keep b o e n f (by simp)) (λb o _ f _ e n=>u.slot b o e n f (by simp)) (λb o _ e n=>u.free b o e n (by simp)) (λb o _ e=>u.there b o e (by simp)) u.tups u.frzs u.tbls (λv k=>by let{x,g,h,a,l}:=k;rw[i]at a;cases a;show{_,g,h,j,l}) d I.bare
def Inv.call{g':Array GenState}{t':Nat}{d':Drawn}{ch:List a5}(I:Inv X Y σ H s)(u:Un (CU X.stack) ch H H' s.heap h')(f:iK X.prog X.w H' h')(l:AllBare g')
  (j:∀b∈ch,(b∈X.ex\/X.s9.heap.objs.size<=b)/\b≠X.env.locals/\(∀x c,X.env.cells.lookup x=some c->c≠b)/\∀p∈X.pn++Y,p.1≠b):
  Inv X Y σ H' {s with heap:=h',gens:=g',drawn:=d',toks:=t'}:=by
 let{m,{o,y,A,k,r},_}:=id I.loc;let{B,g}:=u.any k I.free λz=>(j _ z).2.1 rfl;show I.step j (λb o g q a e n=>u.keep b o e n (λz=>(aAe.mp<|I.ab6 b z).elim g q) a) (λb o _ _ a e n=>u.any e n a) (λb o a e n=>u.free b o e n a) (λb o a e=>u.there b o e a) u.tups u.frzs u.tbls (λC t=>by let{E,h,i,d,v}:=t;rw[k]at d;cases d;show{_,h,i,g,v}) f l
def Inv.turned{t':Nat}{a:a5}(I:Inv X Y σ H s)(k:∀b o,b≠a->s.heap.get? b=some o->h'.get? b=some o)(h:H a=none)(g:a≠X.env.locals)
  (i:a∈X.ex\/X.s9.heap.objs.size<=a) (j:∀x c,X.env.cells.lookup x=some c->c≠a) (l:∀p∈X.pn++Y,p.1≠a):Inv X Y σ H {s with heap:=h',toks:=t'}:=by
 have f:∀b u,H b=some u->b≠a:=λb u e z=>by rw[z,h]at e;cases e
 show I.step (g':=s.gens) (d':=s.drawn) (ch:=[a]) (λb t=>?_) (λb o _ _ d e _=>k b o (λz=>d (by simp[z])) e) (λb o _ _ d e _=>{o.slots,k b o (λz=>d (by simp[z])) e}) (λ_ _ _ _ n=>n)
  (λb o d e=>{o,k b o (λz=>d (by simp[z])) e}) (λ_ _ e=>e) (λ_ _ _ e=>e) (λ_ _ e=>e) (λm w=>?_) (λb u e=>?_) I.bare
 .have e:b=a:=by exists t
  subst e;show{i,g,j,l}
 .let{o,y,A,B,r}:=w;show{o,y,A,k _ o (aCA g) B,r}
 show(I.hok b u e).ab9 (λc v d q=>k c v ?_ q) (λ_ q=>q) λ_ _ _ q=>q;rcases d with z|z
 .rw[z];show f b u e
 show f c _ z
def Inv.tok(I:Inv X Y σ H s)(t:Nat):Inv X Y σ H {s with toks:=t}:=I.un (h':=s.heap) (t':=t) Un.refl I.hok
def Inv.kept(I:Inv X Y σ H s)(k:∀b u,s.heap.get? b=some u->h'.get? b=some u):Inv X Y σ H {s with heap:=h',toks:=t'}:=I.un (Un.kept k) (I.hok.kept k)
def Inv.laid(I:Inv X Y σ H s)(k:∀b u,s.heap.get? b=some u->h'.get? b=some u)(d:s.heap.objs.size<=a)(e:ObjOk X.prog X.w (upd H a o) h' a o):
 Inv X Y σ (upd H a o) {s with heap:=h',toks:=t'}:=I.un (Un.laid k d<|I.hok.fresh d) (I.hok.laid k d e)
def Inv.write(I:Inv X Y σ H s)(f:Mut (H x))(g:e=x\/H e=some (.own x))(k:∀b u,b≠e->s.heap.get? b=some u->h'.get? b=some u)(a:∃u,h'.get? e=some u)(d:ObjOk X.prog X.w (upd H x o) h' x o):Inv X Y σ (upd H x o) {s with heap:=h',toks:=t'}:=I.un (Un.write f g k a) (I.hok.write f g k a d)
def Inv.ad8(I:Inv X Y σ H s)(h:∀p∈a,s.heap.get? p.1=some p.2/\H p.1=none/\p.1≠X.env.locals/\p.1∉X.fs/\∀v,p.2.data≠.cell v):Inv X a σ H s:=
 {I.ok,I.os,I.bare,I.base,I.loc,I.cell,I.free,I.freeC,λp b=>(aAO.mp b).elim (λz=>I.pin p (aAW _ z)) (h p),I.hok,I.len}
def BY{N:List Str}(d:N.Nodup){i j:Nat}{x:Str}(a:N[i]?=some x)(b:N[j]?=some x):i=j:=by let{g,e}:=aAB.mp a;let{h,f}:=aAB.mp b;show(List.getElem_inj d).mp (e.trans f.symm)
def wD{M:Model}{A:be}{E:D7}{i:Nat}{x:Str}{v:V}{u:af}{Q:Unit->ai->Prop}(I:Inv X Y σ H s)(hN:X.N.Nodup)(T:X.N[i]?=some x)(t:Loc X.env.scope x)(r:RelV v u)
  (h:∀s',Inv X Y (σ.set i (some v)) H s'->(∃a,Heap.SameBut a s.heap s'.heap/\(a=X.env.locals\/X.env.cells.lookup x=some a))->Q () s') (hf:X.fn x=true\/X.env.scope.names.lookup x=some .local<|>6):a9 M A (storeName X.env x u) Q E s:=by
 let{m,hn,hl}:=id I.loc;have U:(X.env.scope.kind==.class||(X.env.scope.kind==.module&&X.env.locals !=X.env.globals))=false:=by rw[I.ok.kind];rfl
 have J:i<σ.length:=by rw[I.len];show(aAB.mp T).1
 have cne:=I.cne;have g:∀{a:a5}{h':bt},(∃o,s.heap.get? a=some o/\H a=none)->Heap.SameBut a s.heap h'->iK X.prog X.w H h':=λ{a h'} ha f b ob e=>by let{_,_,ou}:=ha;show(I.hok b ob e).ab9 (λc w' B q=>(f.2 c ?_).trans q) (λ_ q=>q) λ_ _ _ q=>q;grind
 rcases t with hk|hk
 .show wpAny_storeName_local hk hn (λh' hn' f=>?_) U;let{oL,_,_,hoL,_}:=id hn;show h _ {I.ok,I.os,I.bare,{λb o e n L t=>?_,λb o e n L t=>?_,I.base.free,λb o e t=>?_,I.base.tups,I.base.frzs,I.base.tbls},{_,hn',λj y v' l C e3=>?_},λy c e=>?_,I.free,I.freeC,λp hp=>?_,g {oL,hoL,I.free} f,by simpa using I.len} {_,f,.inl rfl}
  .show(f.2 b (aAm<|aAn (aAg e) I.ok.above)).trans (I.base.keep b o e n L t)
  .let{sl,l}:=I.base.slot b o e n L t;show{sl,(f.2 b (aAm<|aAn (aAg e) I.ok.above)).trans l}
  .let{o',l}:=I.base.there b o e t;show{o',(f.2 b (aAm<|aAn (aAg e) I.ok.above)).trans l}
  .by_cases O:j=i
   .subst O;rw[T]at l;cases l;rw[aBR J]at C;cases C;show{u,r,.inl {hk,by simp}}
   rw[aCC (aCA O)]at C;let{u',r',q}:=hl j y v' l C e3;show{u',r',?_};rcases q with⟨k,e⟩|⟨k,c,e,z⟩
   .show .inl {k,?_};have:y≠x:=λe=>O (BY hN l<|e▸T);simp[this,e]
   show .inr {k,c,e,z.sameBut f (cne y c e)}
  .let{w',z}:=I.cell y c e;show{w',z.sameBut f (cne y c e)}
  let{e,n,ne,nf,d}:=I.pin p hp;show{(f.2 p.1 ne).trans e,n,ne,nf,d}
 have yh:X.fn x=true:=by grind
 let{c,B}:=I.ok.has x (.inl hk);let{w',z}:=I.cell x c B;show wpAny_storeName_cell I.ok.kind hk B z (λh' yi f=>?_);let{oc,dc,hocd}:=id z;show h {s with heap:=h'} {I.ok,I.os,I.bare,{λb o e n L t=>?_,λb o e n L t=>?_,I.base.free,λb o e t=>?_,I.base.tups,I.base.frzs,I.base.tbls},{m,hn.sameBut f (aCA<|cne x c B),λj y v' l C e3=>?_},λy c' e=>?_,I.free,I.freeC,λp hp=>?_,g {oc,dc,I.freeC x c B} f,by simpa using I.len} {c,f,.inr B}
 .show(f.2 b (aAm<|aAn (aAg e)<|I.ok.cab x c yh B)).trans (I.base.keep b o e n L t)
 .let{sl,l}:=I.base.slot b o e n L t;show{sl,(f.2 b (aAm<|aAn (aAg e)<|I.ok.cab x c yh B)).trans l}
 .let{o',l}:=I.base.there b o e t;show{o',(f.2 b (aAm<|aAn (aAg e)<|I.ok.cab x c yh B)).trans l}
 .by_cases O:j=i
  .subst O;rw[T]at l;cases l;rw[aBR J]at C;cases C;show{u,r,.inr {.inl hk,c,B,yi}}
  rw[aCC (aCA O)]at C;let{u',r',q}:=hl j y v' l C e3;show{u',r',?_};rcases q with q|⟨k,c',e,z'⟩
  .show .inl q
  show .inr {k,c',e,z'.sameBut f ?_};rintro rfl;show O (BY hN l<|I.ok.inj _ _ _ e B▸T)
 .by_cases hcc:c'=c
  .subst hcc;show{_,yi}
  let{w2,z2}:=I.cell y c' e;show{w2,z2.sameBut f hcc}
 let{e,n,ne,nf,d}:=I.pin p hp;show{(f.2 p.1 ?_).trans e,n,ne,nf,d};intro q;rw[q,dc]at e;grind
def F8{E:D7}{Q:Unit->ai->Prop}(I:Inv X Y σ H s)(a:X.N.Nodup)(b:X.N[i]?=some x)(d:Loc X.env.scope x)(r:RelV v u)(h:∀s',Inv X Y (σ.set i (some v)) H s'->Q () s')(e:X.fn x=true\/X.env.scope.names.lookup x=some .local<|>6):a9 M A (storeName X.env x u) Q E s:=
 wD I a b d r (λs' f _=>h s' f) e
def Inv.ag2(I:Inv X Y σ H s)(d:s'.os=s.os)(u:Un (CU X.stack) ch H H' s.heap s'.heap)(a:iK X.prog X.w H' s'.heap)(e:AllBare s'.gens)(f:∀b∈ch,(b∈X.ex\/X.s9.heap.objs.size<=b)/\b≠X.env.locals/\(∀x c,X.env.cells.lookup x=some c->c≠b)/\∀p∈X.pn++Y,p.1≠b):Inv X Y σ H' s':=by let{h',g',d',t',g}:=s';subst d;show I.call (g':=g') (t':=t') (d':=d') u a e f
end
abbrev XK:=af->Option a5->Hp->Prop
abbrev St:=List (Option V)
abbrev VK:=V->Hp->Prop
abbrev TE:=St->Hp->VK->Prop
abbrev TT:=St->Hp->(Bool->Hp->Prop)->Prop
abbrev TA:=St->Hp->(List V->Hp->Prop)->Prop
structure Ends where
 nx:St->Hp->Prop
 rt:VK
 bk:St->Hp->Prop:=λ_ _=>False
 ct:St->Hp->Prop:=λ_ _=>False
abbrev TS:=Ends->St->Hp->Prop
def EP(X:Cx)(Y:R7)(b:St)(Q:VK)(u:af)(s':ai):Prop:=∃v a,Inv X Y b a s'/\RelV v u/\Q v a
def TP(X:Cx)(Y:R7)(d:St)(Q:Bool->Hp->Prop)(b:Bool)(s':ai):Prop:=∃a,Inv X Y d a s'/\Q b a
def AP(X:Cx)(Y:R7)(d:St)(Q:List V->Hp->Prop)(us:List af)(s':ai):Prop:=∃a b,Inv X Y d b s'/\l7 a us/\Q a b
def SP(X:Cx)(Y:R7)(D:Ends)(f:Flow)(s':ai):Prop:=
 match f with
 |.next=>∃b a,Inv X Y b a s'/\D.nx b a
 |.brk=>∃b a,Inv X Y b a s'/\D.bk b a
 |.cont=>∃b a,Inv X Y b a s'/\D.ct b a
 |.ret u=>∃v b a,Inv X Y b a s'/\RelV v u/\D.rt v a
def PE(X:Cx)(e:bp)(t:TE):Prop:=
 ∀(Y:R7) (s:ai) (a:St) (H:Hp) (Q:VK),Inv X Y a H s->t a H Q->a9 (ba X.prog X.w) X.A (cu e X.env) (EP X Y a Q) X.xe s
def PT(X:Cx)(e:bp)(t:TT):Prop:=
 ∀(Y:R7) (s:ai) (a:St) (H:Hp) (Q:Bool->Hp->Prop),Inv X Y a H s->t a H Q->a9 (ba X.prog X.w) X.A (isTrue e X.env<|cu e X.env) (TP X Y a Q) X.xe s
def PW(X:Cx)(e:bp)(t:TT):Prop:=
 ∀(a:Sem af) (Y:R7) (s:ai) (b:St) (H:Hp) (Q:Bool->Hp->Prop),Inv X Y b H s->t b H Q->a9 (ba X.prog X.w) X.A (isTrue e X.env a) (TP X Y b Q) X.xe s
def PW.pt(h:PW X e t):PT X e t:=h _
def PA(X:Cx)(es:List bp)(t:TA):Prop:=
 ∀(a:Pos) (Y:R7) (s:ai) (b:St) (H:Hp) (Q:List V->Hp->Prop),Inv X Y b H s->t b H Q->a9 (ba X.prog X.w) X.A (spliced<|cq a<|ag es X.env) (AP X Y b Q) X.xe s
def PS(X:Cx)(st:br)(t:TS):Prop:=
 ∀(Y:R7) (s:ai) (a:St) (H:Hp) (D:Ends),Inv X Y a H s->t D a H->a9 (ba X.prog X.w) X.A (exec st X.env) (SP X Y D) X.xe s
def uF(X:Cx)(st:List br)(t:TS):Prop:=
 ∀(Y:R7) (s:ai) (a:St) (H:Hp) (D:Ends),Inv X Y a H s->t D a H->a9 (ba X.prog X.w) X.A (execs st X.env) (SP X Y D) X.xe s
def G4{b:Type}{t:Sem b}{Q d:b->ai->Prop}{M:Model}{A:be}{E:D7}{s:ai}(h:a9 M A t Q E s)(e:∀a s,Q a s->d a s):a9 M A t d E s:=aCJ h e λ_ _ x=>x
section
variable{X:Cx}
def a4p(i:Nat):TE:=λa H Q=>∃v,a[i]?=some (some v)/\Q v H
def tC(v:V):TE:=λ_ H Q=>Q v H
def R0(g:X.N[i]?=some x)(j:CF X.env.scope x)(b:(x==gA)=false<|>2)(k:(x==gB)=false<|>2):PE X (.Name x n) (a4p i):=by
 intro Y s o H Q I h;let{v,e,h}:=h;let{m,p,q}:=I.loc;let{u,r,l}:=q i x v g e j;have a:EP X Y o Q u s:={v,H,I,r,h};rcases l with⟨hk,t⟩|⟨hk,c,d,f⟩
 .show wpAny_Name (wpAny_loadName_local I.ok.kind hk p t a) b
 rcases hk with hk|hk
 .show wpAny_Name (wpAny_loadName_cell I.ok.kind hk d f a) b
 show wpAny_Name (wpAny_loadName_free I.ok.kind hk d f a k) b
def a3i{i j a}:PE X (.Constant (.int i) j a) (tC (.int i)):=λ_ _ _ H _ I h=>wpAny_Constant_int {.int i,H,I.tok _,{_,rfl},h}
def a5e{b j a}:PE X (.Constant (.bool b) j a) (tC (.bl b)):=λ_ _ _ H _ I h=>Constant_bool {.bl b,H,I,rfl,h}
def a3x{j a}:PE X (.Constant .none j a) (tC .non):=λ_ _ _ H _ I h=>Constant_none {.non,H,I,rfl,h}
def Gl(X:Cx)(x:Str):Prop:=X.env.kindOf x=some .globalImplicit
def yD{E:D7}{Q:D7}(I:Inv X Y f H s)(a:Gl X x)(b:X.mg x=some u)(h:Q u s)(d:(x==gA)=false<|>2):a9 (ba X.prog X.w) X.A (cu (.Name x e) X.env) Q E s:=
 Calls.Name_function_global I.ok.kind a (Calls.loadGlobal_global (I.ok.glob▸I.mod.glob.keeps I.bk) b h) d
def P4{E:D7}{Q:D7}(I:Inv X Y k H s)(a:Gl X x)(b:X.mg x=none)(d:cp x=some u)(h:Q u s)(e:x≠ "__name__"<|>2)(f:(x==gA)=false<|>2):a9 (ba X.prog X.w) X.A (cu (.Name x g) X.env) Q E s:=by let{l,i,j}:=I.mod.blt;show Calls.Name_function_global I.ok.kind a (Calls.loadGlobal_builtin (I.ok.glob▸I.mod.glob.keeps I.bk) b (I.ok.blt▸i.keeps I.bk) ((j x e).trans d) h) f
def YV(a:Gl X x)(b:X.mg x=some u)(r:RelV v u)(d:(x==gA)=false<|>2):PE X (.Name x e) (tC v):=
 λ_ _ _ H _ I h=>yD I a b {v,H,I,r,h} d
def ZD(a:Gl X x)(b:X.mg x=none)(d:cp x=some u)(r:RelV v u)(e:x≠ "__name__"<|>2)(f:(x==gA)=false<|>2):PE X (.Name x g) (tC v):=
 λ_ _ _ H _ I h=>P4 I a b d {v,H,I,r,h} e f
variable{a b:bp}{ta tb:TE}{pos:Pos}
def tB(t:TE):TT:=λd H Q=>t d H λx e=>∃c,x=.bl c/\Q c e
def a2i{e:bp}{t:TE}(h:PE X e t)(f:(∀whole,isTrue e X.env whole=(do let v<-whole;standAt e.pos;fh [v] (truthy v)))<|>7):PT X e (tB t):=by intro Y s g H Q I i;show isTrue_plain (G4 (h Y s g H _ I i) λv n ⟨x,j,k,l,m⟩=>?_) (f _);let{d,rfl,q}:=m;cases l;show aBN {j,k,q}
variable{tA tB':TT}{rest:List bp}
def a9g(t u:TT):TT:=λd H Q=>t d H λc e=>if c=true then u d e Q else Q false e
def tOr(t u:TT):TT:=λd H Q=>t d H λc e=>if c=true then Q true e else u d e Q
def a9s(t:TT):TT:=λd H Q=>t d H λc e=>Q (!c) e
def YU(d:PT X a tA):PW X (.BoolOp .And [a] pos) tA:=by
 intro g Y s f H Q I h;show isTrue_and (G4 (d Y s f H Q I h) λc i e=>?_);cases c with
 |true=>show isTrue_and_nil e
 |false=>show e
def a0t(d:PT X a tA):PW X (.BoolOp .Or [a] pos) tA:=by
 intro g Y s f H Q I h;show isTrue_or (G4 (d Y s f H Q I h) λc i e=>?_);cases c with
 |false=>show isTrue_or_nil e
 |true=>show e
def a2g(i:PT X a tA)(j:PW X (.BoolOp .And (b::rest) pos) tB'):PW X (.BoolOp .And (a::b::rest) pos) (a9g tA tB'):=by
 intro k Y s d H Q I h;show isTrue_and (G4 (i Y s d H _ I h) λc l ⟨e,f,g⟩=>?_);cases c with
 |true=>show j k Y l d e Q f g
 |false=>show{e,f,g}
def a6l(i:PT X a tA)(j:PW X (.BoolOp .Or (b::rest) pos) tB'):PW X (.BoolOp .Or (a::b::rest) pos) (tOr tA tB'):=by
 intro k Y s d H Q I h;show isTrue_or (G4 (i Y s d H _ I h) λc l ⟨e,f,g⟩=>?_);cases c with
 |true=>show{e,f,g}
 |false=>show j k Y l d e Q f g
def a0x(d:PT X a tA):PT X (.UnaryOp .Not a pos) (a9s tA):=by intro Y s e H Q I h;show isTrue_not (d Y s e H (λc f=>Q (!c) f) I h)
def a6n(ta tb:TE):TE:=λd H Q=>ta d H λx e=>∃c,x=.bl c/\if c=true then tb d e Q else Q (.bl false) e
def a3t{op}(h:PE X a t):PE X (.BoolOp op [a] pos) t:=λY s d H Q I e=>BoolOp_one (h Y s d H Q I e)
def a0l(i:PE X a ta)(j:PE X (.BoolOp .And (b::rest) pos) tb):PE X (.BoolOp .And (a::b::rest) pos) (a6n ta tb):=by
 intro Y s e H Q I h;show BoolOp_and (G4 (i Y s e H _ I h) λv k ⟨x,f,g,l,d⟩=>?_);let{c,rfl,d}:=d;cases l;show aBN ?_;cases c with
 |true=>show j Y k e f Q g d
 |false=>show{.bl false,f,g,rfl,d}
end
def M4(K:gy)(H:Hp)(a:a5)(xs:List V):Prop:=
 Rd H a (.lst xs)\/
  ∃(o:Obj) (b:Array af) (n:Nat),K.lookup a=some o/\o.cls=.type "list"/\o.dict=none/\o.data=.seq b n/\b.size<=sizeLine/\l7 xs b.toList
def W3(K:gy)(H:Hp)(a:a5)(xs:List V):Prop:=
 Rd H a (.tup xs)\/
  ∃(o:Obj) (b:Array af) (n:Nat),K.lookup a=some o/\o.cls=.type "tuple"/\o.data=.seq b n/\b.size<=sizeLine/\l7 xs b.toList
def a9a:af->Option V
 |.none=>some .non
 |.bool b=>some (.bl b)
 |.int i _=>some (.int i)
 |.str x _=>some (.str x)
 |.bytes b _=>some (.byt b)
 |.float b _=>some (.flt b)
 |.ref a=>some (.ref a)
 |.type n=>some (.ty n)
 |_=>none
def RelV.abs(r:RelV x u):a9a u=some x:=by
 cases x with
 |non=>cases r;rfl
 |bl _=>cases r;rfl
 |int _=>let{t,rfl}:=r;rfl
 |str _=>let{t,rfl}:=r;rfl
 |byt _=>let{t,rfl}:=r;rfl
 |flt _=>let{t,rfl}:=r;rfl
 |ref _=>cases r;rfl
 |ty _=>cases r;rfl
def RelV.inj{x y:V}{u:af}(r:RelV x u)(q:RelV y u):x=y:=Option.some.inj (r.abs.symm.trans q.abs)
theorem l7.inj:∀{xs a:List V}{us:List af},l7 xs us->l7 a us->xs=a:=by
 intro _ _ _ d b;cases d with
 |nil=>
  cases b with
  |nil=>rfl
 |cons r t=>
  cases b with
  |cons e f=>rw[r.inj e,l7.inj t f]
section
variable{X:Cx}{Y:R7}{σ:St}{H:Hp}{s:ai}{a:a5}{xs ys:List V}
def M4.of{K:gy}(h:H a=some (.lst xs)):M4 K H a xs:=.inl (.inl h)
def W3.of{K:gy}(h:H a=some (.tup xs)):W3 K H a xs:=.inl (.inl h)
def Inv.list(I:Inv X Y σ H s)(h:M4 X.K H a xs):∃its:List af,l7 xs its/\PlainL s.heap a its.toArray/\xs.length<=sizeLine:=by
 rcases h with h|⟨o,its,n,b,d,f,g,i,r⟩
 .let{z,its,n,r,e}:=h.ok I.hok;show{its,r,{_,n,e,rfl,rfl,rfl},z}
 show{its.toList,r,{o,n,I.kIn a o b,d,f,by simpa using g},?_};have e:=r.length;erw[aBw]at e
 lia
def Inv.tuple(I:Inv X Y σ H s)(h:W3 X.K H a xs):∃its:List af,l7 xs its/\IsTup s.heap a its.toArray/\xs.length<=sizeLine:=by
 rcases h with h|⟨o,its,n,b,d,f,g,r⟩
 .let{z,its,r,p}:=h.ok I.hok;show{its,r,p,z}
 show{its.toList,r,{o,I.kIn a o b,d,n,by simpa using f},?_};have e:=r.length;grind
def Inv.aa8(I:Inv X Y σ H s)(h:M4 X.K H a xs)(h':M4 X.K H a ys):xs=ys:=by
 let{f,r,{o,n,e,_,_,d},_}:=I.list h;let{b,j,{l,m,g,_,_,i},_}:=I.list h';rw[e]at g;cases g;rw[d]at i;injection i with k _;have:f=b:=by exists gn aGz k
 subst this;show r.inj j
def Inv.ab7(I:Inv X Y σ H s)(h:W3 X.K H a xs)(h':W3 X.K H a ys):xs=ys:=by
 let{f,r,{o,e,_,n,d},_}:=I.tuple h;let{b,j,{k,g,_,l,i},_}:=I.tuple h';rw[e]at g;cases g;rw[d]at i;injection i with m _;have:f=b:=by grind
 subst this;show r.inj j
end
abbrev Cx.ac3(X:Cx)(E:D7):Cx:={X with xe:=E}
abbrev Cx.nox(X:Cx):Cx:=X.ac3 λ_ _=>False
def Cx.Ok.ac3{X:Cx}(ok:X.Ok)(E:D7):(X.ac3 E).Ok:=
 {ok.mod,ok.kind,ok.glob,ok.blt,ok.above,ok.inj,ok.has,ok.cab,ok.hd,ok.frames,ok.stk,ok.exf,ok.bs,ok.bsz,ok.noex,ok.exfs,ok.funs,ok.frf}
def Cx.Ok.aa9{X:Cx}{E:D7}(ok:(X.ac3 E).Ok):X.Ok:=
 {ok.mod,ok.kind,ok.glob,ok.blt,ok.above,ok.inj,ok.has,ok.cab,ok.hd,ok.frames,ok.stk,ok.exf,ok.bs,ok.bsz,ok.noex,ok.exfs,ok.funs,ok.frf}
section
variable{X:Cx}{Y:R7}{σ:St}{H:Hp}{s:ai}{E:D7}
def Inv.ac3(I:Inv X Y σ H s)(E:D7):Inv (X.ac3 E) Y σ H s:={I.ok.ac3 E,I.os,I.bare,I.base,I.loc,I.cell,I.free,I.freeC,I.pin,I.hok,I.len}
def Inv.aa9(I:Inv (X.ac3 E) Y σ H s):Inv X Y σ H s:={I.ok.aa9,I.os,I.bare,I.base,I.loc,I.cell,I.free,I.freeC,I.pin,I.hok,I.len}
def SP.aa9(h:SP (X.ac3 E) Y D f s'):SP X Y D f s':=by
 cases f with
 |next=>let{a,b,I,q}:=h;show{a,b,I.aa9,q}
 |brk=>let{a,b,I,q}:=h;show{a,b,I.aa9,q}
 |cont=>let{a,b,I,q}:=h;show{a,b,I.aa9,q}
 |ret u=>let{v,a,b,I,r,q}:=h;show{v,a,b,I.aa9,r,q}
def uF.nox{st:List br}{t:TS}(h:uF X.nox st t):uF X st t:=λY s σ H D I a=>aCJ (h Y s σ H D (I.ac3 _) a) (λ_ _ q=>q.aa9) λ_ _ z=>aAy z
end
section
variable{X:Cx}{st:br}{rest:List br}{t u:TS}{e:bp}{te:TE}{pos:Pos}
def a5k:TS:=λD a H=>D.nx a H
def a7x(t u:TS):TS:=λD a H=>t {D with nx:=u D} a H
def ZB:uF X [] a5k:=λ_ _ a H _ I h=>aEL {a,H,I,h}
def rL(a:PS X st t)(b:uF X rest u):uF X (st::rest) (a7x t u):=by
 intro Y s d H D I h;show aEz (G4 (a Y s d H {D with nx:=u D} I h) λf g q=>?_);cases f with
 |next=>let{i,j,k,q}:=q;show b Y g i j D k q
 |ret v=>show q
 |brk=>show q
 |cont=>show q
def qA(a:PS X st t):uF X [st] t:=by
 intro Y s b H D I h;show aEz (G4 (a Y s b H D I h) λf d q=>?_);cases f with
 |next=>show aEL q
 |ret v=>show q
 |brk=>show q
 |cont=>show q
def Inv.quiet(I:Inv X Y a H s):interactive X.env=false:=by simp[interactive,I.ok.kind]
def a6c(te:TE):TS:=λD a H=>te a H λ_ b=>D.nx a b
def pV(b:PE X e te)(d:dq e none pos.line X.env=pure false<|>1):PS X (.Expr e pos) (a6c te):=by intro Y s a H D I h;show wpAny_Expr_any (G4 (b Y s a H _ I h) λv j ⟨x,f,g,k,i⟩=>{a,f,g,i}) I.quiet d
def a8g(te:TE):TS:=λD a H=>te a H D.rt
def xE(b:PE X e te):PS X (.Return (some e) pos) (a8g te):=by intro Y s a H D I h;show wpAny_Return_some (G4 (b Y s a H _ I h) λv j ⟨x,d,f,g,i⟩=>{x,a,d,f,g,i})
def a8r(c:TT)(t u:TS):TS:=λD a H=>c a H λb d=>if b=true then t D a d else u D a d
def a6d{c:bp}{a b:List br}{g:TT}(m:PT X c g)(n:uF X a t)(o:uF X b u):PS X (.If c a b pos) (a8r g t u):=by
 intro Y s f H D I h;show wpAny_If (G4 (m Y s f H _ I h) λd i ⟨j,k,l⟩=>?_);cases d with
 |true=>show n Y i f j D k l
 |false=>show o Y i f j D k l
def a1o:TS:=λ_ _ _=>False
def UW:PS X st a1o:=λ_ _ _ _ _ _ h=>h.elim
end
abbrev TG:=V->St->Hp->(St->Hp->Prop)->Prop
abbrev TGs:=List V->St->Hp->(St->Hp->Prop)->Prop
def PG(X:Cx)(a:bp)(t:TG):Prop:=
 ∀(Y:R7) (s:ai) (b:St) (H:Hp) (v:V) (u:af) (Q:St->Hp->Prop),Inv X Y b H s->RelV v u->t v b H Q->
  a9 (ba X.prog X.w) X.A (gh a X.env u) (λ_ f=>∃d e,Inv X Y d e f/\Q d e) X.xe s
def PGs(X:Cx)(g:List bp)(t:TGs):Prop:=
 ∀(Y:R7) (s:ai) (a:St) (H:Hp) (b:List V) (d:List af) (Q:St->Hp->Prop),Inv X Y a H s->l7 b d->t b a H Q->
  a9 (ba X.prog X.w) X.A (assignInOrder ((dm g X.env).map (·.2)) d) (λ_ h=>∃e f,Inv X Y e f h/\Q e f) X.xe s
abbrev qk:=V->V->V->Hp->(Hp->Prop)->Prop
def a4n(X:Cx)(t:qk):Prop:=
 ∀(Y:R7) (s:ai) (a:St) (H:Hp) (o i v:V) (b d u:af) (Q:Hp->Prop),Inv X Y a H s->RelV o b->RelV i d->RelV v u->t o i v H Q->
  a9 (ba X.prog X.w) X.A (setItem b d u) (λ_ f=>∃e,Inv X Y a e f/\Q e) X.xe s
section
variable{X:Cx}{pos:Pos}
def xj(i:Nat):TG:=λv a H Q=>Q (a.set i<|some v) H
def ZV(a:X.N.Nodup)(b:X.N[i]?=some x)(d:Loc X.env.scope x)(e:X.fn x=true\/X.env.scope.names.lookup x=some .local<|>6):PG X (.Name x pos) (xj i):=by intro Y s g H v u Q I r h;show wpAny_assign_Name (F8 I a b d r (λj f=>{_,H,f,h}) e)
def a7t:TGs:=λa b H Q=>a=[]/\Q b H
def a4m(t:TG)(u:TGs):TGs:=λa b H Q=>∃v r,a=v::r/\t v b H λd e=>u r d e Q
def ZS:PGs X [] a7t:=by intro Y s a H b d Q I r h;let{e,h}:=h;subst e;show aFv {a,H,I,h}
def SA{e:bp}{es:List bp}{t:TG}{u:TGs}(b:PG X e t)(d:PGs X es u)
  (f:(dm (e::es) X.env).map (·.2)=gh e X.env::(dm es X.env).map (·.2)<|>1):PGs X (e::es) (a4m t u):=by
 intro Y s g H o p Q I r h;let{v,q,i,h}:=h;subst i;cases r with
 |cons r j=>rw[f];show aCQ (G4 (b Y s g H _ _ _ I r h) λ_ k ⟨a,l,m,n⟩=>?_);show d Y k a l _ _ Q m j n
def a9i(b d:TE)(t:qk):TG:=λv a H Q=>b a H λo e=>d a e λi f=>t o i v f λg=>Q a g
def a2q{o i:bp}{e f:TE}{t:qk}(g:PE X o e)(j:PE X i f)(k:a4n X t)
  (N:(∀v,gh (.Subscript o i pos) X.env v=(do
   let a<-fh [v] (cu o X.env)
   let b<-fh [v,a] (cu i X.env)
   standAt pos
   fh [v,a,b] (setItem a b v)
   release [v,a,b] []))<|>7):PG X (.Subscript o i pos) (a9i e f t):=by
 intro Y s d H v u Q I r h;show aAa (aAV<|G4 (g Y s d H _ I h) λa l ⟨x,m,n,p,q⟩=>?_);show aAa (aAV<|G4 (j Y l d m _ n q) λb w ⟨y,z,A,B,C⟩=>?_);show aAa (aEg<|aAa<|aAV<|G4 (k Y w d z x y v a b u _ A p B r C) λ_ O ⟨E,J,L⟩=>?_);show wpAny_release {d,E,J,L}
def a5f(b:TE)(g:TG):TS:=λD a H=>b a H λx d=>g x a d D.nx
def SC{a e:bp}{b:TE}{g:TG}(f:PE X e b)(i:PG X a g)(j:eQ [a] e pos.line X.env=pure false<|>1)(k:eR [a] e X.env=pure none<|>1)
  (l:(dm [a] X.env).map (·.2)=[gh a X.env]<|>1):PS X (.Assign [a] e pos) (a5f b g):=by
 intro Y s d H D I h;show wpAny_Assign_stores (G4 (f Y s d H _ I h) λv m ⟨x,n,o,p,r⟩=>?_) j k;rw[l];show G4 (i Y m d n x v _ o p r) λ_ t q=>q
def XA{i:Nat}{x:Str}{e:bp}{b:TE}{a:Pos}(d:X.N.Nodup)(f:X.N[i]?=some x)(g:Loc X.env.scope x)(j:PE X e b)(k:dq e (some (.Name x a)) pos.line X.env=pure false<|>1)(l:X.fn x=true\/X.env.scope.names.lookup x=some .local<|>6):
  PS X (.Assign [.Name x a] e pos) (a5f b (xj i)):=by
 intro Y s m H D I h;show aEm (G4 (j Y s m H _ I h) λv t ⟨y,n,o,p,q⟩=>(F8 o d f g p (λu r=>{_,n,r,q}) l)) k
def a7p(i j:Nat)(b:TA):TS:=λD a H=>b a H λd e=>∃v w,d=[v,w]/\D.nx ((a.set i<|some v).set j (some w)) e
def a3v{i j:Nat}{x y:Str}{a b:bp}{z:TA}{l m pt:Pos}{n r d}(O:X.calm=true)(A:X.N.Nodup)(Q:X.N[i]?=some x)(T:X.N[j]?=some y)(U:i≠j)
  (B:X.env.scope.names.lookup x=some .local) (C:X.env.scope.names.lookup y=some .local) (ha:PA X [a,b] z)
  (hw:eR [.Tuple [.Name x l,.Name y m] n pt] (.Tuple [a,b] r d) X.env=pure (some [x,y]))
  (hs:eQ [.Tuple [.Name x l,.Name y m] n pt] (.Tuple [a,b] r d) pos.line X.env=pure false<|>1):
  PS X (.Assign [.Tuple [.Name x l,.Name y m] n pt] (.Tuple [a,b] r d) pos) (a7p i j z):=by
 intro Y s E H D I h;rw[exec_Assign_arm];show aAa (aEg ?_);rw[hs];show aAa (aAb ?_);rw[gk (by symm)];show aAa (Tuple_<|G4 (ha _ Y s E H _ I h) λus f ⟨vs,J,I1,r1,t⟩=>?_);let{v,w,e1,t}:=t;subst e1;obtain⟨g,k,rfl,rv,zd⟩:∃g k,us=[g,k]/\RelV v g/\RelV w k:=by
  cases r1 with
  |cons p q=>
   cases q with
   |cons p' q'=>cases q';show{_,_,rfl,p,p'}
 show aBd ?_ (by change 2<=sizeLine;symm);have I2:Inv X Y E J {f with heap:=f.heap.push {cls:=.type "tuple",data:=.seq [g,k].toArray}}:=I1.kept (t':=f.toks) λb o e=>aAc _ e;rw[hw];show aAa (aAb ?_);show aAa (aDq<|aAa<|unpackItems_tuple (items:=#[g,k]) (I.ok.hd O) (IsTup.new f.heap _) λh' u=>?_);show aAa (aCQ<|aEs<|F8 (I2.kept (h':=h') (t':=f.toks) λb o e=>u b o (aAm<|aAg e) e) A T (.inl C) zd (λs2 I4=>(aCQ<|aEs<|F8 I4 A Q (.inl B) rv (λs3 L=>aFv (aAb ?_))<|.inr B))<|.inr C);rw[List.set_comm _ _ (aCA U)]at L;show{_,J,L,t}
end
section
variable{X:Cx}{pos:Pos}
def a2c(c:TT)(tb:TS):TS:=λD a H=>∃W:Nat->St->Hp->Prop,(∃m,W m a H)/\∀m a H,W m a H->
 c a H λb d=>if b=true then∃N:St->Hp->Prop,(∀e f,N e f->∃g,g<m/\W g e f)/\tb {D with nx:=N,ct:=N,bk:=D.nx} a d else D.nx a d
def RM{c:bp}{body:List br}{p:TT}{tb:TS}(q:PassesOwn (ba X.prog X.w) X.A X.env X.xe)(B:PT X c p)(C:uF X body tb):PS X (.While c body [] pos) (a2c p tb):=by
 intro Y s E H D I h;let{W,{J,L},turn}:=h;show wpAny_While (codeAny_whileLoop (λn O=>∃r t,Inv X Y r t O/\W n r t) ?_ J {E,H,I,L});rintro n Q ⟨a,u,T,U⟩;show aCZ q (G4 (B Y Q a u _ T<|turn n a u U) λb s2 ⟨x,y,g⟩=>?_);cases b with
 |true=>
  let{N,z,g}:=g;rw[gi rfl];show aCZ q (G4 (C Y s2 a x _ y g) λf s3 i=>?_);cases f with
  |next=>let{d,e,j,k}:=i;let{l,m,o}:=z d e k;show{l,m,d,e,j,o}
  |cont=>let{d,e,j,k}:=i;let{l,m,o}:=z d e k;show{l,m,d,e,j,o}
  |brk=>show i
  |ret v=>show i
 |false=>rw[gk aBH];show aEL {a,x,y,g}
end
structure It where
 go:Nat->Hp->Prop
 yld:Nat->Hp->V->Hp->Prop
 stop:Nat->Hp->Prop
def pB(X:Cx)(Y:R7)(H:Hp)(b:a5):Prop:=
 H b=none/\b≠X.env.locals/\b∉X.fs/\(b∈X.ex\/X.s9.heap.objs.size<=b)/\(∀x c,X.env.cells.lookup x=some c->c≠b)/\∀p∈X.pn++Y,p.1≠b
def Inv.ae8(I:Inv X Y g H s)(a:s.heap.objs.size<=b)(d:H' b=none):pB X Y H' b:=by
 show{d,aCR (aAn I.lt a),I.ag5 a,.inr (aAj I.sz a),λx c e z=>?_,λp f z=>?_}
 .let{v,q}:=I.cell x c e;show gs (aAn q.lt (by lia)) (aBx _)
 show gs (aAn (aAg (I.pin p f).1)<|z▸a) (aBx _)
structure Turn(P:Program)(w:World)(K:PySem.W.Frag)(tg:Expr)(J:It)(fp:List Addr)(it:Addr)(tn:Nat->Heap->Prop):Prop where
 mem:it∈fp
 obj:∀i h,tn i h->∀b∈fp,∃o,h.get? b=some o/\∀v,o.data≠.cell v
 keep:∀i h h',tn i h->(∀b∈fp,∀o,h.get? b=some o->h'.get? b=some o)->tn i h'
 item:∀(X:Cx),X.prog=P->X.w=w->X.K=K->X.calm=true->∀(i:Nat) (Y:R7) (s:Shared) (σ:St) (H:Hp) (E:D7),Inv X Y σ H s->(∀b∈fp,pB X Y H b)->tn i s.heap->J.go i H->
  wpAny (model P w) X.A (pyNext (.ref it)) (λr s1=>∃u,r=some u/\
   wpAny (model P w) X.A (letOwnedTupleGo tg (.ref it) u) (λ_ s2=>∃x H',Inv X Y σ H' s2/\RelV x u/\J.yld i H x H'/\tn (i+1) s2.heap/\∀b∈fp,H' b=none) E s1) E s
 done:∀(X:Cx),X.prog=P->X.w=w->X.K=K->X.calm=true->∀(i:Nat) (Y:R7) (s:Shared) (σ:St) (H:Hp) (E:D7),Inv X Y σ H s->(∀b∈fp,pB X Y H b)->tn i s.heap->J.stop i H->
  wpAny (model P w) X.A (pyNext (.ref it)) (λr s1=>r=none/\Inv X Y σ H s1) E s
 self:∀(A:Around) (i:Nat) (s:Shared) (Q:D7) (E:D7),tn i s.heap->Q (.ref it) s->wpAny (model P w) A (pyIter (.ref it)) Q E s
abbrev TI:=St->Hp->(It->Hp->Prop)->Prop
def PIE(X:Cx)(Y:R7)(i:St)(j:bp)(R:It->Hp->Prop)(a:af)(e:ai):Prop:=
 ∃(f:a5) (g:List a5) (h:Nat->bt->Prop) (J:It) (d:Hp),a=.ref f/\Inv X Y i d e/\Turn X.prog X.w X.K j J g f h/\h 0 e.heap/\(∀b∈g,pB X Y d b)/\R J d
def PI(X:Cx)(b iter:bp)(d:TI):Prop:=
 ∀(Y:R7) (s:ai) (a:St) (H:Hp) (R:It->Hp->Prop),Inv X Y a H s->d a H R->
  a9 (ba X.prog X.w) X.A (cu iter X.env) (λv e=>a9 (ba X.prog X.w) X.A (pyIter v) (PIE X Y a b R) X.xe e) X.xe s
def SK{E : af → ai → Prop}{Q : Unit → ai → Prop} (b : s.heap.get? d = some o) (e : o.cls = .type n) (f : o.data = .fields vs) (h : ["enumerate", "zip", "dict_itemiterator", "dict_reverseitemiterator", "odict_iterator", "itertools.zip_longest", "itertools.pairwise"].contains n = false) (a : Q () s) : a9 M A (letOwnedTupleGo g (.ref d) u) Q E s := by
  cases g <;> first
    | show aAb a
    | (cases u <;> first
        | show aAb a
        | (show aAa (wpAny_load b ?_)
           rw [e, f];change a9 M A (if (["enumerate", "zip", "dict_itemiterator", "dict_reverseitemiterator", "odict_iterator", "itertools.zip_longest", "itertools.pairwise"].contains n && vs[0]? == some (cz _)) = true then _ else _) Q E s;rw [gk (by lia)];show aAb a))
def Itl(K:gy)(a:a5):It:=
 {λi H=>∃b x,M4 K H a b/\b[i]?=some x,λi H x d=>d=H/\∀b,M4 K H a b->b[i]?=some x,λi H=>∃b,M4 K H a b/\b.length<=i}
def Itt(K:gy)(a:a5):It:=
 {λi H=>∃b x,W3 K H a b/\b[i]?=some x,λi H x d=>d=H/\∀b,W3 K H a b->b[i]?=some x,λi H=>∃b,W3 K H a b/\b.length<=i}
def OT{P:bb}{w:bo}{K:gy}{T:bp}(a f:a5):Turn P w K T (Itl K a) [f] f (λi h=>h.IsListIter f a i)where
 mem:=by simp
 obj:=λi h st b g=>by
  have e:b=f:=by exists g
  subst e;let{o,e,c,d}:=st;grind
 keep:=λi h n st k=>st.at λo e=>k f (by simp) o e
 item:=by intro X q r t O i Y s Q H E I l st v;subst q r t;let{U,x,m,y}:=v;let{z,A,p,hz}:=I.list m;let{u,hu,ru}:=A.get y;let{B,C,f2,J,L,N}:=l f (by simp);show wpAny_pyNext_list_item st p.isList (by exists hu) λn j sb=>?_;have I1:Inv X Y Q H {s with heap:=n}:=I.turned (t':=s.toks) (λb o g e=>(sb.2 b g).trans e) B C J L N;let{o,e,c,d}:=id j;show{u,rfl,SK e c d (by symm) {x,H,I1,ru,{rfl,λys hy=>by rw[I.aa8 hy m];show y},j,λb g=>(l b g).1}}
 done:=by intro X q r t O i Y s Q H E I l st v;subst q r t;let{U,m,y}:=v;let{z,A,p,hz}:=I.list m;let{B,C,f2,J,L,N}:=l f (by simp);have hl:=A.length;show wpAny_pyNext_list_end (I.ok.hd O) st p.isList (by simp;lia) λn eb=>{rfl,I.turned (t':=s.toks) (λb o g e=>eb b o g e) B C J L N}
 self:=λ_ _ _ _ _ st h=>wpAny_pyIter_listiter st h
def IR{P:bb}{w:bo}{K:gy}{T:bp}(a f:a5):Turn P w K T (Itt K a) [f] f (λi h=>h.IsTupleIter f a i)where
 mem:=by simp
 obj:=λi h st b g=>by
  have e:b=f:=by exists g
  subst e;let{o,e,c,d}:=st;grind
 keep:=λi h l st k=>st.at λo e=>k f (by simp) o e
 item:=by intro X q r t O i Y s Q H E I m st v;subst q r t;let{U,x,n,y}:=v;let{z,A,p,hz}:=I.tuple n;let{u,hu,ru}:=A.get y;let{B,C,f2,J,L,N}:=m f (by simp);show wpAny_pyNext_tuple_item st (p) (x:=u) (by exists hu) λl j sb=>?_;have I1:Inv X Y Q H {s with heap:=l}:=I.turned (t':=s.toks) (λb o g e=>(sb.2 b g).trans e) B C J L N;let{o,e,c,d}:=id j;show{u,rfl,SK (s:={s with heap:=l}) e c d (by symm) {x,H,I1,ru,{rfl,λys hy=>by rw[I.ab7 hy n];show y},j,λb g=>(m b g).1}}
 done:=by intro X q r t O i Y s Q H E I m st v;subst q r t;let{U,n,y}:=v;let{z,A,p,hz}:=I.tuple n;let{B,C,f2,J,L,N}:=m f (by simp);have hl:=A.length;show wpAny_pyNext_tuple_end (I.ok.hd O) st (p) (by simp;lia) λl eb=>{rfl,I.turned (t':=s.toks) (λb o g e=>eb b o g e) B C J L N}
 self:=λ_ _ _ _ _ st h=>wpAny_pyIter_tupleiter st h
section
variable{X:Cx}{tg:bp}
def a6s(K:gy)(d:TE):TI:=λe H R=>d e H λx b=>∃a,x=.ref a/\(∃f,M4 K b a f)/\R (Itl K a) b
def a8n(K:gy)(d:TE):TI:=λe H R=>d e H λx b=>∃a,x=.ref a/\(∃f,W3 K b a f)/\R (Itt K a) b
def rj(g:PE X l i):PI X tg l (a6s X.K i):=by
 intro Y s j H R I h;show G4 (g Y s j H _ I h) λv d ⟨x,k,f,m,n⟩=>?_;let{a,e,{w,r},q}:=n;subst e;cases m;let{t,y,p,z}:=f.list r;show aDK p.isList ({d.heap.objs.size,[d.heap.objs.size],_,_,k,rfl,f.kept (t':=d.toks) λb o e=>aAc _ e,OT a _,{_,aAo _ rfl,rfl,rfl},λb u=>?_,q});have e:b=d.heap.objs.size:=by exists u
 subst e;show f.ae8 (aAi _) (f.hok.fresh<|aAi _)
def a1z{l:bp}{g:TE}(i:PE X l g):PI X tg l (a8n X.K g):=by
 intro Y s j H R I h;show G4 (i Y s j H _ I h) λv d ⟨x,k,f,m,n⟩=>?_;let{a,e,{u,r},q}:=n;subst e;cases m;let{t,w,p,y}:=f.tuple r;show wpAny_pyIter_tuple (p) ({d.heap.objs.size,[d.heap.objs.size],_,_,k,rfl,f.kept (t':=d.toks) λb o e=>aAc _ e,IR a _,{_,aAo _ rfl,rfl,rfl},λb z=>?_,q});have e:b=d.heap.objs.size:=by grind
 subst e;show f.ae8 (aAi _) (f.hok.fresh<|aAi _)
def a8c(f:TI)(g:TG)(tb:TS):TS:=λD a H=>f a H λJ h=>∃W:Nat->Nat->St->Hp->Prop,(∃m,W 0 m a h)/\∀i m a H,W i m a H->
 (J.stop i H/\D.nx a H)\/(J.go i H/\∃N:St->Hp->Prop,(∀d b,N d b->∃e,e<m/\W (i+1) e d b)/\∀x b,J.yld i H x b->g x a b λj k=>tb {D with nx:=N,ct:=N,bk:=D.nx} j k)
def sV(a:List a5)(h:bt):List (a5×Obj):=a.filterMap λb=>(h.get? b).map λo=>(b,o)
def cM(a:b∈d)(e:h.get? b=some o):(b,o)∈sV d h:=aCb.mpr {b,a,by rw[e];rfl}
def OR(a:p∈sV d h):p.1∈d/\h.get? p.1=some p.2:=by
 let{b,f,e}:=aCb.mp a;cases q:h.get? b with
 |none=>rw[q]at e;cases e
 |some o=>grind
def Inv.pinned(I:Inv X Y h H s)(i:∀b∈a,pB X Y H b)(j:∀b∈a,∃o,s.heap.get? b=some o/\∀v,o.data≠.cell v):Inv X (Y++sV a s.heap) h H s:=
 I.ad8 λp k=>(aAO.mp k).elim (λz=>I.pin p (aAu _ z)) λz=>by let{f,e}:=OR z;let{l,m,n,_}:=i p.1 f;let{o,g,d}:=j p.1 f;rw[e]at g;cases g;show{e,l,m,n,d}
def Inv.ab4(I:Inv X (Y++d) a H s):Inv X Y a H s:=I.ad8 λp b=>I.pin p (aAu _<|aAW _ b)
def a1w(z:PassesOwn (ba X.prog X.w) X.A X.env X.xe)(hc:X.calm=true)(hi:PI X tg iter wi)(hg:PG X tg g)(a:uF X body tb)(hs:(∀x,dA iter X.env x=pure x)<|>7):PS X (.For tg iter body [] pos) (a8c wi g tb):=by
 intro Y s σ H D I h;show wpAny_For (G4 (hi Y s σ H _ I h) λv s1 h1=>G4 h1 λitv s2 h2=>?_) hs;let{it,B,tn,J,H2,e,I2,T,lu,f2,W,{m0,w0},turn}:=h2;subst e;have j:∀{q:Hp},(∀b∈B,q b=none)->∀b∈B,pB X Y q b:=λhn b a=>{hn b a,(f2 b a).2};show codeAny_forLoop_any (λn s'=>∃i C q,Inv X Y C q s'/\tn i s'.heap/\(∀b∈B,q b=none)/\W i n C q) ?_ m0 {0,σ,H2,I2,lu,λb a=>(f2 b a).1,w0};rintro n s3 ⟨i,E,U,I3,L,O,w3⟩;rcases turn i n E U w3 with⟨stop,qn⟩|⟨go,N,hN,step⟩
 .show aCZ z (G4 (T.done X rfl rfl rfl hc i Y s3 E U X.xe I3 (j O) L stop) λr s4 ⟨hr,I4⟩=>?_);subst hr;show aEL {E,U,I4,qn}
 show aCZ z (G4 (T.item X rfl rfl rfl hc i Y s3 E U X.xe I3 (j O) L go) λr s4 ⟨u,hr,h4⟩=>?_);subst hr;show aCZ z (G4 h4 λ_ s5 ⟨x,H5,I5,r5,y5,y,fr5⟩=>?_);have I5':=I5.pinned (j fr5) (T.obj _ _ y);show aCZ z (G4 (hg _ s5 E H5 x u _ I5' r5<|step x H5 y5) λ_ s6 ⟨σ6,H6,I6,q6⟩=>(aCZ z<|G4 (a _ s6 σ6 H6 _ I6 q6) λf s7 t=>?_));have again:∀{k:St}{l:Hp},Inv X (Y++sV B s5.heap) k l s7->N k l->∃m,m<n/\∃i C q,Inv X Y C q s7/\tn i s7.heap/\(∀b∈B,q b=none)/\W i m C q:=λ{k l} p Q=>by let{m',hm,w7}:=hN k l Q;show{m',hm,i+1,k,l,p.ab4,T.keep _ _ _ y λb a o e=>(p.pin (b,o)<|aAu _<|aAu _<|cM a e).1,λb a=>?_,w7};let{o,e,d}:=T.obj _ _ y b a;show(p.pin (b,o)<|aAu _<|aAu _<|cM a e).2.1
 cases f with
 |next=>let{k,l,p,Q}:=t;show again p Q
 |cont=>let{k,l,p,Q}:=t;show again p Q
 |brk=>let{k,l,p,t}:=t;show{k,l,p.ab4,t}
 |ret v=>let{x7,k,l,p,r7,t}:=t;show{x7,k,l,p.ab4,r7,t}
end
abbrev R2:=V->V->Hp->VK->Prop
def pD(X:Cx)(f:af->af->Sem af)(r:R2):Prop:=
 ∀(Y:R7) (s:ai) (a:St) (H:Hp) (x y:V) (v u:af) (Q:VK),Inv X Y a H s->RelV x v->RelV y u->r x y H Q->
  a9 (ba X.prog X.w) X.A (f v u) (EP X Y a Q) X.xe s
def UnR(X:Cx)(f:af->Sem af)(r:V->Hp->VK->Prop):Prop:=
 ∀(Y:R7) (s:ai) (a:St) (H:Hp) (x:V) (v:af) (Q:VK),Inv X Y a H s->RelV x v->r x H Q->
  a9 (ba X.prog X.w) X.A (f v) (EP X Y a Q) X.xe s
def AJ(X:Cx)(f:af)(r:List V->Hp->VK->Prop):Prop:=
 ∀(Y:R7) (s:ai) (a:St) (H:Hp) (b:List V) (d:List af) (Q:VK),Inv X Y a H s->l7 b d->r b H Q->
  a9 (ba X.prog X.w) X.A (call f d) (EP X Y a Q) X.xe s
def tUn(r:V->Hp->VK->Prop)(a:TE):TE:=λb H Q=>a b H λx d=>r x d Q
def rI(C:Int->Int->Prop)(g:Int->Int->V):R2:=λx y H Q=>∃i j,x=.int i/\y=.int j/\C i j/\Q (g i j) H
def vq(g:Int->Int->V):R2:=λx y H Q=>∃i j,x=.int i/\y=.int j/\Q (g i j) H
def rU(g:Int->V):V->Hp->VK->Prop:=λx H Q=>∃i,x=.int i/\Q (g i) H
section
variable{X:Cx}{a b c:bp}{ta tb tc:TE}{pos:Pos}
def QJ(j:PE X a ta)(k:PE X b tb){Y:R7}{s:ai}{d:St}{H:Hp}{R:V->V->Hp->Prop}(I:Inv X Y d H s)
  (h:ta d H λx i=>tb d i λy e=>R x y e) {Q:D7}{f:af->af->Sem af}
  (l:∀v u g x y e,Inv X Y d e g->RelV x v->RelV y u->R x y e->a9 (ba X.prog X.w) X.A (f v u) Q X.xe g):
  a9 (ba X.prog X.w) X.A (cu a X.env) (λv m=>a9 (ba X.prog X.w) X.A (cu b X.env) (λu n=>a9 (ba X.prog X.w) X.A (f v u) Q X.xe n) X.xe m) X.xe s:=by
 show G4 (j Y s d H _ I h) λv o ⟨x,i,p,q,r⟩=>?_;show G4 (k Y o d i _ p r) λu g ⟨y,e,t,z,B⟩=>(l v u g x y e t q z B)
def a6t{r:V->Hp->VK->Prop}(e:UnR X (unaryOp op) r)(f:PE X a ta):PE X (.UnaryOp op a pos) (tUn r ta):=by intro Y s d H Q I h;show UnaryOp_ (G4 (f Y s d H _ I h) λv g ⟨x,i,j,k,l⟩=>e Y g d i x v Q j k l)
def opI{f:af->af->Sem af}{C:Int->Int->Prop}{g:Int->Int->Int}
  (rule:∀(i j:Int) (t u:Tok) (s:ai) (Q:D7) (E:D7),C i j->Q (.int (g i j) s.toks) {s with toks:=s.toks+1}->a9 (ba X.prog X.w) X.A (f (.int i t) (.int j u)) Q E s):
  pD X f (rI C λi j=>.int (g i j)):=by
 intro Y s m H x y v u Q I d e h;let{i,j,rfl,rfl,k,q}:=h;let{t,rfl}:=d;let{l,rfl}:=e;show rule i j t l s _ _ k {.int (g i j),H,I.tok _,{_,rfl},q}
def a6j{f:af->af->Sem af}{g:Int->Int->Int}
  (rule:∀(i j:Int) (t u:Tok) (s:ai) (Q:D7) (E:D7),Q (.int (g i j) s.toks) {s with toks:=s.toks+1}->a9 (ba X.prog X.w) X.A (f (.int i t) (.int j u)) Q E s):
  pD X f (vq λi j=>.int (g i j)):=by
 intro Y s l H x y v u Q I d e h;let{i,j,rfl,rfl,q}:=h;let{t,rfl}:=d;let{k,rfl}:=e;show rule i j t k s _ _ {.int (g i j),H,I.tok _,{_,rfl},q}
def a1y{f:af->af->Sem af}{g:Int->Int->Bool}
  (rule:∀(i j:Int) (t u:Tok) (s:ai) (Q:D7) (E:D7),Q (.bool (g i j)) s->a9 (ba X.prog X.w) X.A (f (.int i t) (.int j u)) Q E s):
  pD X f (vq λi j=>.bl (g i j)):=by
 intro Y s l H x y v u Q I d e h;let{i,j,rfl,rfl,q}:=h;let{t,rfl}:=d;let{k,rfl}:=e;show rule i j t k s _ _ {.bl (g i j),H,I,rfl,q}
def a9o(i j:Int):Prop:=0<=j/\j<=1000000/\i.natAbs<2^64
def a2d:pD X (cP .Add) (vq λi j=>.int (i+j)):=a6j λ_ _ _ _ _ _ _ q=>add_int q
def a2u:pD X (cP .Sub) (vq λi j=>.int (i-j)):=a6j λ_ _ _ _ _ _ _ q=>sub_int q
def qj:pD X (cP .Mod) (rI (λ_ j=>j≠0) λi j=>.int (i.fmod j)):=opI λ_ _ _ _ _ _ _ d q=>mod_int' d q
def a2y:pD X (cP .Pow) (rI a9o λi j=>.int (i^j.toNat)):=opI λ_ _ _ _ _ _ _ d q=>pow_int_small d.1 d.2.1 d.2.2 q
def unI{f:af->Sem af}{g:Int->Int}
  (rule:∀(i:Int) (t:Tok) (s:ai) (Q:D7) (E:D7),Q (.int (g i) s.toks) {s with toks:=s.toks+1}->a9 (ba X.prog X.w) X.A (f (.int i t)) Q E s):
  UnR X f (rU λi=>.int (g i)):=by
 intro Y s e H x v Q I d h;let{i,rfl,q}:=h;let{t,rfl}:=d;show rule i t s _ _ {.int (g i),H,I.tok _,{_,rfl},q}
def a1j:UnR X (unaryOp .USub) (rU λi=>.int (-i)):=unI λ_ _ _ _ _ q=>neg_int q
end
section
variable{X:Cx}{a b c:bp}{ta tb tc:TE}{pos:Pos}
def a2b(I:Inv X Y d H s)(q:Q (.bl k) H)(e:k=f):EP X Y d Q (.bool f) s:=by subst e;show{.bl k,H,I,rfl,q}
def a6q:pD X (cT .Lt) (vq λi j=>.bl (decide (i<j))):=a1y λ_ _ _ _ _ _ _ q=>lt_int q
def a6u:pD X (cT .LtE) (vq λi j=>.bl (decide (i<=j))):=a1y λ_ _ _ _ _ _ _ q=>le_int q
def a4o:pD X (cT .Gt) (vq λi j=>.bl (decide (j<i))):=a1y λ_ _ _ _ _ _ _ q=>gt_int q
def a0o:pD X (cT .Is) (λx y H Q=>y=.non/\Q (.bl (decide (x=.non))) H):=by
 intro Y s f H x y v u Q I d e h;let{rfl,q}:=h;cases e;show is_none_gen (a2b I q ?_);cases x<;>first
  |(cases d;rfl)
  |(let{t,rfl}:=d;rfl)
def UN(b:bp)(h:op≠.In<|>2)(d:op≠.NotIn<|>2):fm op b=false:=by
 have e:(op==CmpOp.In)=false:=by cases op<;>first|rfl|show gs rfl h
 have f:(op==CmpOp.NotIn)=false:=by cases op<;>first|rfl|show gs rfl d
 cases b<;>simp[fm,e,f]
def HL:(sizeLine:Nat)<2^63:=by rw[aFz];symm
def vals1(r:l7 [x] us):∃u,us=[u]/\RelV x u:=by
 cases r with
 |cons d e=>cases e;show{_,rfl,d}
def vals2(r:l7 [x,y] us):∃u d,us=[u,d]/\RelV x u/\RelV y d:=by
 cases r with
 |cons e f=>
  cases f with
  |cons g h=>cases h;show{_,_,rfl,e,g}
def SX:AJ X (.builtin "abs") (λxs H Q=>∃i,xs=[.int i]/\Q (.int (if i<0 then-i else i)) H):=by intro Y s d H xs e Q I r h;let{i,rfl,q}:=h;let{u,rfl,t,rfl}:=vals1 r;show call_abs_int λu f=>{.int (if i<0 then-i else i),H,I.tok _,{_,rfl},q}
end
section
variable{prog:bb}{w:bo}{A:be}{E:D7}{s:ai}{K:gy}{x dx C f:a5}{mA:dJ}{name:Str}{v:af}
end
section
variable{P:bb}{w:bo}{H H':Hp}{h h':bt}{a C dx:a5}{fs yf:List (Str×V)}
end
section
variable{X:Cx}{Y:R7}{σ:St}{H:Hp}{s:ai}{a C dx:a5}{fs:List (Str×V)}{f:Str}{v:V}{A:be}{E:D7}
end
section
variable{X:Cx}{o e value:bp}{f:Str}{pos pos' tpos:Pos}{ta tv:TE}
end
section
variable{X:Cx}{Y:R7}{σ:St}{H:Hp}{s:ai}{A:be}{E:D7}{Q:D7}{c:af}{b:Bool}
end
structure Room(k:Nat)(A:Around):Prop where
 hd:A.handled=none
 dp:A.depth+3*k+5<recursionLimit
 un:A.units+16*k+200<cLine
def Room.mono(r:Room k A)(h:j<=k):Room j A:={r.hd,by have:=r.dp;lia,by have:=r.un;lia}
def Room.deeper(r:Room (k+1) A)(env:Env):Room k (A.deeper env):=
 {r.hd,by have:=r.dp;change A.depth+1+3*k+5<_;lia,by have:=r.un;change A.units+3+16*k+200<_;lia}
def Room.depth(r:Room k A):A.depth<recursionLimit:=by have:=r.dp;lia
def Room.units(r:Room k A):A.units+64<cf:=by have:=r.un;lia
def a7u:TA:=λ_ H Q=>Q [] H
def a5j(b:TE)(tr:TA):TA:=λa H Q=>b a H λx d=>tr a d λe f=>Q (x::e) f
section
variable{X:Cx}{e:bp}{es:List bp}{te:TE}{t:TA}{pos:Pos}
def dD:PA X [] a7u:=λ_ _ _ _ H Q I h=>aFw {[],H,I,.nil,h}
def M1(b:PE X e te)(d:PA X es t)(f:ag (e::es) X.env=(false,cu e X.env)::ag es X.env<|>1):PA X (e::es) (a5j te t):=by intro pos Y s a H Q I h;rw[f];change a9 _ _ (spliced ((false,cu e X.env)::cq pos (ag es X.env))) _ _ s;show aFf (G4 (b Y s a H _ I h) λu g ⟨x,i,j,k,l⟩=>?_);show G4 (d pos Y g a i _ j l) λr v ⟨m,n,o,p,q⟩=>{x::m,n,o,.cons k p,q}
def a7z(t:TA):TE:=λd H Q=>t d H λa b=>a.length<=sizeLine/\∀p,b p=none->Q (.ref p) (upd b p<|.tup a)
def a8w(t:TA):TE:=λd H Q=>t d H λa b=>a.length<=sizeLine/\∀p,b p=none->Q (.ref p) (upd b p<|.lst a)
def a3y{g}(h:PA X es t):PE X (.Tuple es g pos) (a7z t):=by intro Y s i H Q I j;show wpAny_Tuple_spliced (G4 (h pos Y s i H _ I j) λk a ⟨l,d,f,r,z,q⟩=>{by rw[<-r.length];show z,?_});have m:d a.heap.objs.size=none:=f.hok.fresh (aAi _);show{.ref a.heap.objs.size,upd d a.heap.objs.size (.tup l),f.laid (t':=a.toks) (λb u e=>aAc _ e) (aAi _) ?_,rfl,q _ m};show{z,k,r,{_,aAo _ rfl,rfl,_,rfl}}
def XS(h:PA X es t):PE X (.List es pos) (a8w t):=by intro Y s g H Q I i;show wpAny_List_spliced (G4 (h pos Y s g H _ I i) λj a ⟨k,d,f,r,z,q⟩=>{by rw[<-r.length];show z,?_});have l:d a.heap.objs.size=none:=f.hok.fresh (aAi _);show{.ref a.heap.objs.size,upd d a.heap.objs.size (.lst k),f.laid (t':=a.toks) (λb u e=>aAc _ e) (aAi _) ?_,rfl,q _ l};show{z,j,0,r,aAo _ rfl}
end
abbrev Sp:=List V->Hp->VK->XK->Prop
abbrev YD:=List Env->Hp->ai->XK->af->ai->Prop
structure Env0(P:Program)(w:World)(K:PySem.W.Frag)(mg:dJ)(base:Heap)(A:Around)(outer:List Env)(s:Shared)(H:Hp):Prop where
 frames:A.frames=some outer
 mod:Mod K mg base
 bs:∀b o,base.get? b=some o->s.heap.get? b=some o/\H b=none
 bsz:base.objs.size<=s.heap.objs.size
 funs:s.heap.FunFrames base outer
 frf:∀b∈CU outer,H b=none
 hok:iK P w H s.heap
 bare:AllBare s.gens
def CE(outer:List Env)(P:bb)(w:bo)(H:Hp)(s:ai)(Q:VK)(u:af)(s':ai):Prop:=
 ∃v a,s'.os=s.os/\AllBare s'.gens/\Un (CU outer) [] H a s.heap s'.heap/\iK P w a s'.heap/\RelV v u/\Q v a
def CR(a:YD)(outer:List Env)(P:bb)(w:bo)(H:Hp)(s:ai)(Q:VK)(E:XK)(r:Result)(s':ai):Prop:=
 match r with
 |.ok (.ret u)=>CE outer P w H s Q u s'
 |.ok _=>False
 |.error e=>a outer H s E e s'
structure FnOk(P:Program)(w:World)(K:PySem.W.Frag)(mg:dJ)(base:Heap)(CX:YD)(k:Nat)(f:Addr)(fd:FuncData)(ps:List Str)(sp:Sp):Prop where
 len:∀vs H Q E,sp vs H Q E->vs.length=ps.length
 run:∀(A:Around) (outer:List Env) (s:Shared) (H:Hp) (args:Args) (us:List Value) (vs:List V) (Q:VK) (E:XK),Room k A->Env0 P w K mg base A outer s H->BindsTo s fd args (ps.zip us)->l7 vs us->sp vs H Q E->
  codeAny (model P w) A (.call (.ref f) args) (CR CX outer P w H s Q E) s
def FnOk.imp{P:bb}{w:bo}{K:gy}{mg:dJ}{base:bt}{d:YD}{k:Nat}{f:a5}{e:cy}{ps:List Str}{g a:Sp}(F:FnOk P w K mg base d k f e ps g)
  (h:∀vs H Q E,a vs H Q E->g vs H Q E):FnOk P w K mg base d k f e ps a:=
 {λvs H Q E q=>F.len vs H Q E (h _ _ _ _ q),λA outer s H b i vs Q E j l m n o=>F.run A outer s H b i vs Q E j l m n (h _ _ _ _ o)}
section
variable{X:Cx}{Y:R7}{σ:St}{H:Hp}{s s':ai}
def Inv.af4(I:Inv X Y σ H s):Env0 X.prog X.w X.K X.mg X.base X.A X.stack s H:=
 {I.ok.frames,I.ok.mod,I.bs,aAj I.ok.bsz I.sz,I.stack,I.ae0,I.hok,I.bare}
def Inv.after(I:Inv X Y σ H s)(h:CE X.stack X.prog X.w H s Q u s'):EP X Y σ Q u s':=by let{v,i,os,a,un,e,r,q}:=h;let{j,g,d,t,f}:=s';obtain rfl:f=s.os:=os;show{v,i,I.call (h':=j) (g':=g) (d':=d) (t':=t) un e a (λb z=>gs z (by simp)),r,q}
end
def a6h(b:Sp)(a:List V)(E:XK)(t:TA):TE:=λd H Q=>t d H λe f=>b (e++a) f Q E
def Binds(K:gy)(a:cy)(ps:List Str)(ds:List af):Prop:=
 ∀(s:ai) (us:List af),K.In s.heap->(us++ds).length=ps.length->BindsTo s a {us,[]} (ps.zip<|us++ds)
def Binds.all{K:gy}{a:cy}{ps:List Str}(h:∀us:List af,us.length=ps.length->bindArgs a {us,[]}=pure (ps.zip us)):Binds K a ps []:=λs us _ b=>by rw[aBS]at b⊢;show .of_eq (h us b)
def HP(b:YD)(X:Cx)(E:XK):Prop:=∀(Y:R7) (d:St) (H:Hp) (s:ai) (e:af) (a:ai),Inv X Y d H s->b X.stack H s E e a->X.xe e a
section
variable{X:Cx}{CX:YD}{k:Nat}{f C:a5}{fd:cy}{ps:List Str}{sp:Sp}{dvs:List V}{ds:List af}{E:XK}{x m:Str}{p pos apos:Pos}{e o:bp}{es:List bp}{ta:TE}{t:TA}
def a1m(F:FnOk X.prog X.w X.K X.mg X.base CX k f fd ps sp)(g:Room k X.A)(i:Binds X.K fd ps ds)(j:l7 dvs ds)(l:HP CX X E)(I:Inv X Y b H s)(r:l7 vs us)(h:sp (vs++dvs) H Q E):a9 (ba X.prog X.w) X.A (call (.ref f) us) (EP X Y b Q) X.xe s:=by
 have d:=r.append j;have n:(us++ds).length=ps.length:=by rw[<-d.length];show F.len _ _ _ _ h
 show wpAny_call (aDX (F.run X.A X.stack s H {us,[]} (us++ds) (vs++dvs) Q E g I.af4 (i s us I.kIn n) d h) λr q a=>?_);cases r with
 |error e=>show l Y b H s e q I a
 |ok v=>
  cases v with
  |ret u=>show I.after a
  |next=>show aAy a
  |brk=>show aAy a
  |cont=>show aAy a
def yC(F:FnOk X.prog X.w X.K X.mg X.base CX k f fd ps sp)(b:Room k X.A)(d:Gl X x)(g:X.mg x=some (.ref f))(i:PySem.W.keepIn X.K (.ref f)=true)(j:Binds X.K fd ps ds)(l:l7 dvs ds)(n:HP CX X E)
  (u:PA X (e::es) t) (v:(x==gA)=false<|>2) (y:ag (e::es) X.env=(false,cu e X.env)::ag es X.env<|>1) (G9:(cq pos (ag es X.env)).any (·.1)=false<|>1):
  PE X (.Call (.Name x p) (e::es) [] pos) (a6h sp dvs E t):=by
 intro Y s z H Q I h;show aBb (yD I d g ?_ v);show PySem.W.callWith_K I.ok.mod.kin i (G4 (u pos Y s z H _ I h) λB J ⟨L,N,a,r,q⟩=>{a.kIn,(a1m F b j l n a r q)}) y G9
end
section
variable{X:Cx}{CX:YD}{k:Nat}{f C:a5}{fd:cy}{ps ks:List Str}{sp:Sp}{E:XK}{x m:Str}{p pos apos kpos:Pos}{e o:bp}{es:List bp}{kws:List Keyword}{te ta:TE}{t tk:TA}{nm:Option Str}
variable{g:List af->List af->List af}{gV:List V->List V->List V}
end
structure FnScope(N P:List Str)(sc:Scope):Prop where
 kind:sc.kind=.function
 co:sc.isCoroutine=false
 gen:sc.isGenerator=false
 nd:N.Nodup
 pre:N.take P.length=P
 par:∀x∈P,sc.names.lookup x=some .local\/sc.names.lookup x=some .cell
 nofree:∀y∈sc.names,y.2≠.free
theorem vU{kindOf:Str->Option cv}{x:Str}:∀{binds:List (Str×af)}{m:dJ},(∀v,(x,v)∉binds)->bindL kindOf binds m x=m x
 |[],_,_=>rfl
 |(n,v)::r,m,h=>by
  unfold bindL;rw[vU λw a=>h w (aAd _ a)];split
  .grind
  rfl
theorem vH{kindOf:Str->Option cv}{x:Str}:∀{binds:List (Str×af)}{m:dJ},(∀v,(x,v)∉binds)->bindC kindOf binds m x=m x
 |[],_,_=>rfl
 |(n,v)::r,m,h=>by
  unfold bindC;rw[vH λw a=>h w (aAd _ a)];split
  .rfl
  grind
theorem wV{kindOf:Str->Option cv}{x:Str}{v:af}:∀{P:List Str}{vs:List af}{i:Nat}{m:dJ},P.Nodup->P[i]?=some x->vs[i]?=some v->kindOf x=some .local->
  bindL kindOf (P.zip vs) m x=some v:=by
 intro e f g m b h a d;cases e with
 |nil=>simp at h
 |cons p P=>
  cases f with
  |nil=>simp at a
  |cons w vs=>
   cases g with
   |zero=>simp at h a;subst h;subst a;change bindL kindOf ((p,w)::P.zip vs) m p=_;unfold bindL;rw[vU λv j=>(aBi.mp b).1 (aEI j).1,gi d];simp
   |succ i=>change bindL kindOf ((p,w)::P.zip vs) m x=_;unfold bindL;show wV (i:=i) (aBi.mp b).2 (by grind) (by exists a) d
theorem vF{kindOf:Str->Option cv}{x:Str}{v:af}:∀{P:List Str}{vs:List af}{i:Nat}{m:dJ},P.Nodup->P[i]?=some x->vs[i]?=some v->kindOf x≠some .local->
  bindC kindOf (P.zip vs) m x=some v:=by
 intro e f g m b h a d;cases e with
 |nil=>simp at h
 |cons p P=>
  cases f with
  |nil=>simp at a
  |cons w vs=>
   cases g with
   |zero=>simp at h a;subst h;subst a;change bindC kindOf ((p,w)::P.zip vs) m p=_;unfold bindC;rw[vH λv j=>(aBi.mp b).1 (aEI j).1,gk d];simp
   |succ i=>change bindC kindOf ((p,w)::P.zip vs) m x=_;unfold bindC;show vF (i:=i) (aBi.mp b).2 (by grind) (by grind) d
def start(N:List Str)(vs:List V):St:=vs.map some++aCU (N.length-vs.length) none
def II(d:YD)(P:bb)(w:bo)(K:gy)(mg:dJ)(base:bt)(N:List Str)(qual:Str)(a:eO)(f:a5)(cd:af)(A:be)(outer:List Env)(s:ai)(H:Hp)(E:XK):Cx where
 prog:=P
 w:=w
 K:=K
 mg:=mg
 base:=base
 A:=A.deeper (envOfC qual a s.heap.objs.size f cd)
 N:=N
 s9:=s
 H9:=H
 env:=envOfC qual a s.heap.objs.size f cd
 outer:=outer
 stack:=envOfC qual a s.heap.objs.size f cd::outer
 ex:=[]
 calm:=true
 fn:=λ_=>true
 pn:=[]
 xe:=λe g=>a9 (ba P w) (A.deeper<|envOfC qual a s.heap.objs.size f cd) (leaving (envOfC qual a s.heap.objs.size f cd) e) (λ_ b=>d outer H s E e b) (λh b=>d outer H s E h b) g
def CZ{sc:eO}{n:Nat}{x:Str}(h:sc.names.lookup x=some .cell):∃c,(bc n sc.names []).lookup x=some c:=by have q:=PySem.W.cellsFrom_some sc.names n [] (.inl h);show aFx.mp q
def NT{B:YD}{P:bb}{w:bo}{K:gy}{mg:dJ}{base:bt}{N ps:List Str}{qual:Str}{a:eO}{f:a5}{cd:af}{A:be}{outer:List Env}{s C:ai}{H:Hp}{E:XK}{us:List af}{vs:List V}
  (S:FnScope N ps a) (L:A.handled=none) (d:Env0 P w K mg base A outer s H) (U:vs.length=ps.length) (r:l7 vs us)
  (x:InCallC s s.heap.objs.size (bindL (envOfC qual a s.heap.objs.size f cd).kindOf (ps.zip us) λ_=>none) (bc (s.heap.objs.size+1) a.names []) (bindC (envOfC qual a s.heap.objs.size f cd).kindOf (ps.zip us) λ_=>none) C):
  Inv (II B P w K mg base N qual a f cd A outer s H E) [] (start N vs) H C:=by
 have G9:ps.length<=N.length:=by have:=gn List.length S.pre;rw[aBW]at this;lia
 let{t,Y,rfl,I}:=x.done;have g:∀b:a5,b∉(II B P w K mg base N qual a f cd A outer s H E).ex:=λb z=>gs (show b∈([]:List a5)from z) (by simp);show⟨{d.mod,S.kind,rfl,rfl,aAi _,λy z c t l=>?_,λy j=>?_,λy c _ h=>?_,λ_=>L,aFX d.frames,.inr {rfl,rfl},λb z=>gs z (g b),d.bs,d.bsz,λb _ _=>g b,λb z=>gs z (g b),d.funs,d.frf},
  rfl,d.bare,Un.kept I,{_,x.toInCall.ns,λi y v t l h3=>?_},λy c h=>{_,x.cell y c h},d.hok.fresh (aAi _),λy c h=>?_,λp m=>gs (show p∈([]:R7)from m) (by simp),d.hok.kept I,?_⟩
 .show name_of_addr x.apart (PySem.mem_of_lookup t) (PySem.mem_of_lookup l)
 .have j:=j;rcases j with j|j
  .show CZ j
  show gs rfl (S.nofree _<|PySem.mem_of_lookup j)
 .show aCs (x.above y c<|PySem.mem_of_lookup h)
 .have O:i<vs.length:=by unfold start at l;grind
  have Q:vs[i]?=some v:=by unfold start at l;rw[aBe (by exists O),aAP]at l;grind
  let{u,J,T}:=r.get Q;have m:ps[i]?=some y:=by rw[<-S.pre,List.getElem?_take_of_lt (by lia)];show t
  have o:ps.Nodup:=by rw[<-S.pre];show S.nd.sublist (List.take_sublist _ _)
  show{u,T,?_};rcases S.par y (aAl m)with k|k
  .show .inl {k,wV o m J k}
  let{c,e}:=CZ (n:=s.heap.objs.size+1) k;show .inr {.inl k,c,e,?_};have q:=x.cell y c e;rw[vF o m J (by change a.names.lookup y≠_;rw[k];symm)]at q;show q
 .show d.hok.fresh (aCs<|x.above y c<|PySem.mem_of_lookup h)
 unfold start;change _=N.length;rw[aAx,aAf,aCu]
 lia
def a0d{m:YD}{P:bb}{w:bo}{K:gy}{mg:dJ}{base:bt}{k:Nat}{f:a5}{name qual:Str}{d:Arguments}{body:List br}{a:eO}{Y kV h pm L ct oc:af}{an od:Option a5}
  {z:Array (Option af)}{N ps:List Str}{B:Sp} (lk:K.lookup f=some {oc,od,.func (PySem.W.fnOf name qual d body a Y kV h pm an L ct),z}) (eh:PySem.W.codeIn K L qual=true) (S:FnScope N ps a)
  (len:∀vs H Q E,B vs H Q E->vs.length=ps.length)
  (pf:∀(A:be) (outer:List Env) (s:ai) (H:Hp) (vs:List V) (Q:VK) (E:XK),Room k (A.deeper (envOfC qual a s.heap.objs.size f L))->B vs H Q E->
   ∃t,uF (II m P w K mg base N qual a f L A outer s H E) body t/\t {nx:=λ_ H'=>Q .non H',rt:=Q} (start N vs) H):
  FnOk P w K mg base m (k+1) f (PySem.W.fnOf name qual d body a Y kV h pm an L ct) ps B:=by
 show{len,λA outer s H args us vs Q E C i hb r j=>?_};have hl:=len _ _ _ _ j;have KX:K.In s.heap:=i.mod.kin.keeps λb o e=>(i.bs b o e).1;have O:s.heap.NoLimit:=i.mod.nolimit.keeps λb o e=>(i.bs b o e).1;have pg:∀y∈ps.zip us,a.names.lookup y.1=some .local\/(a.names.lookup y.1=some .cell/\((bc (s.heap.objs.size+1) a.names []).lookup y.1).isSome=true):=λ⟨n,v⟩ hy=>by
  rcases S.par n (aEI hy).1 with q|q
  .show .inl q
  show .inr {q,PySem.W.cellsFrom_some _ _ _ (.inl q)}
 show codeAny_call_function C.depth (KX _ _ lk) rfl S.co S.gen rfl (PySem.W.codeRec_of KX eh) (hb _ _ _ _ ?_);show wpAny_newFunctionEnv_cells S.kind pg λenv he s1 x=>?_;subst he;show{O.keeps x.toInCall.keep,codeAny_func ?_};let{t,ht,hq}:=pf A outer s H vs Q E (C.deeper _) j;have I:Inv (II m P w K mg base N qual a f L A outer s H E) [] (start N vs) H s1:=NT S C.hd i hl r x;show aCJ (ht [] s1 (start N vs) H _ I hq) (λfl T g=>?_) λe T g=>g;have l:∀{p:St}{H':Hp}{v:V}{u:af},Inv (II m P w K mg base N qual a f L A outer s H E) [] p H' T->RelV v u->Q v H'->CE outer P w H s Q u T:=
  λ{p H' v u} J U q=>{v,H',J.os,J.bare,J.base,J.hok,U,q}
 cases fl with
 |ret u=>let{v,p,H',J,U,q}:=g;show l J U q
 |next=>let{p,H',J,q}:=g;show l (v:=V.non) (u:=Value.none) J rfl q
 |brk=>let{_,_,_,q}:=g;show aAy q
 |cont=>let{_,_,_,q}:=g;show aAy q
section
variable{X:Cx}{x:Str}{p pos:Pos}{e:bp}{es:List bp}{t:TA}{id T:String}{r:List V->Hp->VK->Prop}
end
end L2
namespace HT
open PySem PyProof.Rows
def lexLt:List Int->List Int->Bool
 |[],[]=>false
 |[],_::_=>true
 |_::_,[]=>false
 |x::a,y::b=>if x=y then lexLt a b else decide (x<y)
def J3(x y:Int)(xs a:List Int):lexLt (x::xs) (y::a)=if x=y then lexLt xs a else decide (x<y):=rfl
def aV:lexLt [] []=false:=rfl
def O9(y:Int)(a:List Int):lexLt [] (y::a)=true:=rfl
def D3(x:Int)(xs:List Int):lexLt (x::xs) []=false:=rfl
def AS(A:be)(s:ai)(a:Int)(t:Tok)(c:Int)(u:Tok):∃e,SeqAt.EqAt A s (.int a t) (.int c u) e/\(e=true↔a=c):=
 {(a==c),aFg a t c u,by simp}
def DF(A:be)(s:ai)(a:Int)(t:Tok)(c:Int)(u:Tok)(prog:bb)(w:bo)(E:D7)(Q:D7)(h:Q (.bool (decide (a<c))) s):
  a9 (ba prog w) A (richCompare .Lt (.int a t) (.int c u)) Q E s:=
 (PyProof.Rows.lt_int h:a9 (ba prog w) A (cT .Lt (.int a t) (.int c u)) Q E s)
section
open PySem.SeqAt
open PySem.AutoSeq1 (wpAny_loadPart')
open PySem.MeetsSeq PySem.MeetsSeq2 PySem.MeetsSeq3
def uE(l b:a5)(items m:Array af)(n n2:Nat)(dd vv:Option a5)(sl um:Array (Option af))(ns z:List Int)(Q:IntsAre items.toList ns)(T:IntsAre m.toList z):
  Meets (Builtin.«tuple.__lt__» {[.ref l,.ref b],[]})
   (λ_ R s=>s.heap.get? l=some {cls:=.type "tuple",dict:=dd,data:=.seq items n,slots:=sl}/\s.heap.get? b=some {cls:=.type "tuple",dict:=vv,data:=.seq m n2,slots:=um}/\
    R (.ok (.ret (.bool (lexLt ns z)))) s):=
 .of_wp λj w A R s h=>by
  let{B,g,d,C,os}:=s;let{hl,hb,h}:=h;have f2:=AutoSeq1.sub_tuple_tuple;have z1:items.size=ns.length:=by rw[<-Q.length];simp
  have z2:m.size=z.length:=by rw[<-T.length];simp
  wp_walk using aEM hl,aEM hb,aCB _ (λrest b J=>b.1=none/\J={B,g,d,C,os}/\∃(E H:List af) (o p:List Int),rest=E.zip H/\
   IntsAre E o/\IntsAre H p/\o.length+m.size=p.length+items.size/\R (.ok (.ret (.bool (lexLt o p)))) {B,g,d,C,os}) _
  case turn=>
   rintro⟨y,x⟩ rest b J ⟨L,rfl,E,H,o,p,i,N,I,f,k⟩;cases N with
   |nil=>rw[List.zip_nil_left]at i;cases i
   |cons a t r=>
    cases I with
    |nil=>rw[List.zip_nil_right]at i;cases i
    |cons c u v=>
     rw[aDu]at i;injection i with yc ao;injection yc with hy hx;subst hy hx;rw[J3]at k;erw[aAp]at f;let{e,he,U}:=AS A.in1 {B,g,d,C,os} a t c u;show aAa (he j w _ _ ?_);cases e with
     |true=>
      rw[gi (U.mp rfl)]at k
      wp_walk
      show{rfl,rfl,_,_,_,_,ao,r,v,by lia,k}
     |false=>
      rw[gk (λq=>gs (U.mpr q) aBH)]at k;have O:=DF A.in1 {B,g,d,C,os} a t c u j w
      wp_walk using O
      show{_,rfl,by simpa using k}
  case fin=>
   rintro⟨b1,b2⟩ J ⟨L,rfl,E,H,o,p,i,N,I,f,k⟩;simp only at L;subst L;have Y:lexLt o p=decide (items.size<m.size):=by
    cases N with
    |nil=>
     cases I with
     |nil=>erw[aBK]at f;rw[aV];show(gu (by lia)).symm
     |cons c u hw=>erw[aBK,aAp]at f;rw[O9];show(gv (by lia)).symm
    |cons a t Y=>
     cases I with
     |nil=>erw[aBK,aAp]at f;rw[D3];show(gu (by lia)).symm
     |cons c u hw=>rw[aDu]at i;cases i
   rw[Y]at k
   wp_walk
   show{_,rfl,by simpa[Builtin.Tuple.tupleCompareSizes]using k}
  case h=>show{rfl,rfl,items.toList,m.toList,ns,z,rfl,Q,T,by lia,h}
end
section
variable{prog:bb}{w:bo}{A:be}{E:D7}{s:ai}
def lt_tupInts{Q:D7}(p:IsTup s.heap l items)(q:IsTup s.heap b e)(r:IntsAre items.toList ns)(t:IntsAre e.toList d)(u:A.units<cf)(h:Q (.bool (lexLt ns d)) s):a9 (ba prog w) A (cT .Lt (.ref l) (.ref b)) Q E s:=by
 let{{v,y,f,z},g,i,n,j}:=id p;let{{k,B,data2,C},m,o,H,a}:=id q;simp only at i j o a;subst i j o a;show richCompare_meets_room (op:=.Lt) {_,g,rfl} {_,m,rfl} PySem.F.slot_tuple_lt PySem.F.entry_tuple_lt (PySem.F.args_tuple_lt_2 _ _) (uE l b items e n H y B z C ns d r t)
  {g,m,show aDW (lexLt ns d)≠Value.notImplemented/\Q (.bool (lexLt ns d)) s from{(λx=>nomatch x),h}} u
def cat_tup{Q:D7}(u:IsTup s.heap t vs.toArray)(v:IsTup s.heap b ws.toArray)(h:vs≠[])(x:ws=[]->Q (.ref t) s)(y:ws≠[]->Q (.ref s.heap.objs.size) {s with heap:=s.heap.push {cls:=.type "tuple",data:=.seq (vs++ws).toArray}})(z:vs.length+ws.length<=sizeLine):a9 (ba prog w) A (cP .Add (.ref t) (.ref b)) Q E s:=by
 let{{cls,i,data,j},d,k,n,l}:=id u;let{{m,o,data2,p},f,q,r,a}:=id v;simp only at k l q a;subst k l q a;have e:vs.toArray++ws.toArray=(vs++ws).toArray:=by simp
 by_cases g:ws=[]
 .show aFQ {_,d,rfl} {_,f,rfl} aFF seq_tuple_add PySem.F.slot_tuple_add PySem.F.entry_tuple_add (PySem.F.args_tuple_add_2 _ _)
   (tuple_addW1 t b vs.toArray ws.toArray n r i o j p (by exists h) (by simp[g])) {d,f,x g}
 show aFQ {_,d,rfl} {_,f,rfl} aFF seq_tuple_add PySem.F.slot_tuple_add PySem.F.entry_tuple_add (PySem.F.args_tuple_add_2 _ _)
  (tuple_addW2 t b vs.toArray ws.toArray n r i o j p (by exists h) (by exists g) (by nofun)) {d,f,?_}
 rw[e];show y g
def sIx(n d:Nat):Option Int->Nat
 |none=>d
 |some v=>if v<0 then(v+(n:Int)).toNat else min v.toNat n
def a6g(n d:Nat):sIx n d none=d:=rfl
def a1c(n d:Nat)(a:d<=n)(o:Option Int):sIx n d o<=n:=by
 cases o with
 |none=>show a
 |some v=>
  change(if v<0 then(v+(n:Int)).toNat else min v.toNat n)<=n
  lia
def LM(v:Int)(n d:Nat):(if v<0 then max (v+(n:Int)) 0 else min v (n:Int))=((sIx n d (some v):Nat):Int):=by
 change(if v<0 then max (v+(n:Int)) 0 else min v (n:Int))=(((if v<0 then(v+(n:Int)).toNat else min v.toNat n):Nat):Int)
 lia
def GG(lo a:Option Int)(n:Nat):aDP lo a 1 (n:Int)=(((sIx n 0 lo:Nat):Int),((sIx n n a:Nat):Int)):=by
 have b:¬((1:Int)<0):=by lia
 unfold aDP;show aEr ?_ ?_
 .cases lo with
  |none=>rfl
  |some v=>show LM v n 0
 cases a with
 |none=>rfl
 |some v=>show LM v n n
def GA(i j:Nat):aCV (i:Int) (j:Int) 1=j-i:=by
 unfold aCV
 lia
def qU{Q:Option Int->ai->Prop}(p:IsPart v o)(h:Q o s):a9 (ba prog w) A (Builtin.Slice.slicePartIndex v) Q E s:=by
 cases p with
 |none=>show slicePart_none h
 |int i t=>show slicePart_int h
def nQ{sl:a5}{d e:af}{lo a:Option Int}{n:Nat}{Q:Int×Int×Nat->ai->Prop}(g:s.heap.IsSliceOf sl d e .none)(i:IsPart d lo)(j:IsPart e a)
  (h:Q (((sIx n 0 lo:Nat):Int),1,sIx n n a-sIx n 0 lo) s):a9 (ba prog w) A (Builtin.Slice.sliceApplied (.ref sl) (pure (n:Int))) Q E s:=by
 let{os,b,k,f}:=id g;show aAa (aAa<|aCW b f (x:=d) rfl<|aAa<|aCW b f (x:=e) rfl<|aAa<|aCW b f (x:=.none) rfl<|aAb<|aAa<|slicePart_none ?_);show aAa (qU i<|aAa<|qU j<|aAa<|aAb ?_);change a9 _ _ (match aDP lo a 1 (n:Int)with|(lo,a)=>pure (lo,(1:Int),aCV lo a 1)) _ _ s;rw[GG lo a n];change a9 _ _ (pure (((sIx n 0 lo:Nat):Int),(1:Int),aCV ((sIx n 0 lo:Nat):Int) ((sIx n n a:Nat):Int) 1)) _ _ s;rw[GA];show aAb h
def UP(xs:Array af)(i k:Nat):((aBI k).filterMap λ(m:Nat)=>xs[((i:Int)+(m:Int)*1).toNat]?).toArray=((xs.toList.drop i).take k).toArray:=by
 have e:(λ(m:Nat)=>xs[((i:Int)+(m:Int)*1).toNat]?)=λm=>xs[i+m]?:=by grind
 rw[e];have:=pick_run xs i k;rw[aEe]at this;have a:((λx=>xs[x]?)∘λx=>i+x)=λm=>xs[i+m]?:=rfl
 lia
def getItem_tuple_cut{t sl:a5}{items:Array af}{i j:af}{lo a:Option Int}{Q:D7}(b:IsTup s.heap t items)(k:s.heap.IsSliceOf sl i j .none)(l:IsPart i lo)(n:IsPart j a)
  (p:¬(sIx items.size 0 lo=0/\sIx items.size items.size a=items.size))
  (h:Q (.ref s.heap.objs.size) {s with heap:=s.heap.push {cls:=.type "tuple",data:=.seq ((items.toList.drop (sIx items.size 0 lo)).take (sIx items.size items.size a-sIx items.size 0 lo)).toArray}})
  (e:items.size<=sizeLine):a9 (ba prog w) A (getItem (.ref t) (.ref sl)) Q E s:=by
 have d:sizeOk (.seq ((items.toList.drop<|sIx items.size 0 lo).take (sIx items.size items.size a-sIx items.size 0 lo)).toArray):=by change((items.toList.drop<|sIx items.size 0 lo).take (sIx items.size items.size a-sIx items.size 0 lo)).toArray.size<=sizeLine;erw[aAX,aBW,aDT];show aAj (Nat.min_le_right _ _) (aAj (Nat.sub_le _ _) e)
 have r:sIx items.size items.size a<=items.size:=a1c _ _ (aAi _) a;let{os,f,o,u}:=id k;unfold getItem;try with_reducible show aAV ?_
 first|show aAa (aAb ?_)|skip
 show aAa (wpAny_sequenceKey b.typeIs (by symm) ?_);show aAa (aCc b.typeIs aCG
  (aBn aCG b.typeIs entry_tuple_getitem ?_ (args_tuple_getitem _ _)))
 change a9 _ _ (aDM (.ref t)>>=_) _ _ s;show aAa (tupleItemsOf_ b<|aAa<|aDY (⟨os,f,o⟩) ?_);rw[gi (by symm)];show aAa (nQ k l n ?_);have g:¬((((sIx items.size 0 lo:Nat):Int)==0&&(1:Int)==1&&(sIx items.size items.size a-sIx items.size 0 lo)==items.size)=true):=by intro q;rw[aAN,aAN]at q;have v:=eq_of_beq q.1.1;grind
 change a9 _ _ (if(((sIx items.size 0 lo:Nat):Int)==0&&(1:Int)==1&&(sIx items.size items.size a-sIx items.size 0 lo)==items.size)=true then _ else _) _ _ s;rw[gk g,UP];first
  |show aAa (m:=aDa _) (aBd (aAb ⟨_,rfl,aAb h⟩) d)
  |show aAa (m:=aDa _) (aBd (aAa<|aAb<|aAb ⟨_,rfl,aAb h⟩) d)
  |show aAa (aAa (m:=aDa _)<|aBd (aAb<|aAb ⟨_,rfl,aAb h⟩) d)
  |show aAa (aAa (m:=aDa _)<|aBd (aAb ⟨_,rfl,aAb h⟩) d)
end
end HT
namespace L2
open PySem PySem.Spec PyProof.Rows
abbrev TO:=St->Hp->(Option Int->Hp->Prop)->Prop
def PO(X:Cx)(e:Option bp)(t:TO):Prop:=
 ∀(Y:R7) (s:ai) (a:St) (H:Hp) (Q:Option Int->Hp->Prop),Inv X Y a H s->t a H Q->
  a9 (ba X.prog X.w) X.A (evalPart e X.env) (λu d=>∃o b,Inv X Y a b d/\IsPart u o/\Q o b) X.xe s
def nq:TO:=λ_ H Q=>Q none H
def a5w(t:TE):TO:=λa H Q=>t a H λx b=>∃i,x=.int i/\Q (some i) b
section
variable{X:Cx}{e:bp}{te:TE}{lo hi:Option bp}{tl th:TO}{pos p2:Pos}
def mw:PO X none nq:=by intro Y s a H Q I h;show aAb {none,H,I,.none,h}
def tq(h:PE X e te):PO X (some e) (a5w te):=by intro Y s a H Q I b;show G4 (h Y s a H _ I b) λu k ⟨x,d,f,g,j⟩=>?_;let{i,rfl,q}:=j;let{t,rfl}:=g;show{some i,d,f,.int i t,q}
def SlR(X:Cx)(r:V->Option Int->Option Int->Hp->VK->Prop):Prop:=
 ∀(Y:R7) (s:ai) (a:St) (H:Hp) (x:V) (v b d:af) (lo hi:Option Int) (f:a5) (Q:VK),Inv X Y a H s->RelV x v->s.heap.IsSliceOf f b d .none->IsPart b lo->IsPart d hi->r x lo hi H Q->
  ∃T id,typeLookup (.type T) "__getitem__"=pure (some<|.builtin id)/\s.TypeIs v T/\a9 (ba X.prog X.w) X.A (getItem v<|.ref f) (EP X Y a Q) X.xe s
def SlR.or{r a:V->Option Int->Option Int->Hp->VK->Prop}(h:SlR X r)(h':SlR X a):SlR X (λx lo hi H Q=>r x lo hi H Q\/a x lo hi H Q):=by
 intro Y s b H x v d f lo hi g Q I i j k l q;rcases q with q|q
 .show h Y s b H x v d f lo hi g Q I i j k l q
 show h' Y s b H x v d f lo hi g Q I i j k l q
def tSl(r:V->Option Int->Option Int->Hp->VK->Prop)(te:TE)(tl th:TO):TE:=λa H Q=>te a H λx b=>tl a b λl d=>th a d λu f=>r x l u f Q
def SY{r:V->Option Int->Option Int->Hp->VK->Prop}(j:SlR X r)(k:PE X e te)(m:PO X lo tl)(n:PO X hi th):PE X (.Subscript e (.Slice lo hi none p2) pos) (tSl r te tl th):=by intro Y s d H Q I h;show Subscript_ (G4 (k Y s d H _ I h) λv o ⟨x,p,t,w,y⟩=>(wpAny_Slice<|G4 (m Y o d p _ t y) λf z ⟨l,A,B,C,E⟩=>G4 (n Y z d A _ B E) λg a ⟨u,i,J,L,N⟩=>?_));show aAb ?_;have O:Inv X Y d i {a with heap:=a.heap.push {cls:=.type "slice",data:=.fields #[f,g,.none]}}:=J.kept (t':=a.toks) λb ob q=>aAc _ q;let{T,id,U,ht,hg}:=j Y {a with heap:=a.heap.push {cls:=.type "slice",data:=.fields #[f,g,.none]}} d i x v f g l u a.heap.objs.size Q O w (Heap.IsSliceOf.new ..) C L N;show tail_any ht U hg (by with_unfolding_all rfl)
def MD(xs:List V)(lo hi:Option Int):List V:=(xs.drop<|HT.sIx xs.length 0 lo).take (HT.sIx xs.length xs.length hi-HT.sIx xs.length 0 lo)
def oH(xs:List V)(lo hi:Option Int):(MD xs lo hi).length<=xs.length:=by
 unfold MD;rw[aBW,aDT]
 lia
def a6o(K:gy):V->Option Int->Option Int->Hp->VK->Prop:=λx lo hi H Q=>∃a b,x=.ref a/\W3 K H a b/\
 ¬(HT.sIx b.length 0 lo=0/\HT.sIx b.length b.length hi=b.length)/\∀p,H p=none->Q (.ref p) (upd H p<|.tup (MD b lo hi))
def a1x:SlR X (a6o X.K):=by
 intro Y s t H x v u w lo hi y Q I k l m n h;let{a,f,rfl,o,p,q}:=h;cases k;let{g,r,i,j}:=I.tuple o;have d:g.toArray.size=f.length:=by rw[aAX];show r.length.symm
 show{"tuple",_,aCG.lookup,i.typeIs,(HT.getItem_tuple_cut i l m n (d▸p) ?_ (d▸j))};rw[d];show{.ref s.heap.objs.size,_,I.laid (t':=s.toks) (λb z q=>aAc _ q) (aAi _) ?_,rfl,q _ (I.hok.fresh<|aAi _)};show{aAj (oH f lo hi) j,_,(r.drop<|HT.sIx f.length 0 lo).take (HT.sIx f.length f.length hi-HT.sIx f.length 0 lo),IsTup.new _ _}
def a6m(K:gy):R2:=λx y H Q=>∃a b f d,x=.ref a/\y=.ref b/\W3 K H a f/\W3 K H b d/\f≠[]/\f.length+d.length<=sizeLine/\
 (d=[]->Q (.ref a) H)/\(d≠[]->∀p,H p=none->Q (.ref p) (upd H p<|.tup (f++d)))
def l7.ac5(r:l7 xs us):us=[]↔xs=[]:=by
 cases r with
 |nil=>simp
 |cons _ _=>simp
def LL:pD X (cP .Add) (a6m X.K):=by intro Y s C H x y v u Q I i j h;let{a,b,k,l,rfl,rfl,m,n,p,g,r,t}:=h;cases i;cases j;let{A,f,B,_}:=I.tuple m;let{E,d,p2,_}:=I.tuple n;show HT.cat_tup B p2 (λz=>p (f.ac5.mp z)) (λz=>{.ref a,H,I,rfl,r (d.ac5.mp z)}) (λz=>?_) (by rw[<-f.length,<-d.length];show g);show{.ref s.heap.objs.size,_,I.laid (t':=s.toks) (o:=.tup (k++l)) (λb J q=>aAc _ q) (aAi _) ?_,rfl,t (λw=>z (d.ac5.mpr w)) _ (I.hok.fresh<|aAi _)};show{by rw[aAx];show g,_,f.append d,IsTup.new _ _}
end
def zk(n:Nat)(i:Int):Option Nat:=if 0<=i then(if i<n then some i.toNat else none)else if-(n:Int)<=i then some (i+n).toNat else none
def tY{a:Type}(xs:List a)(i:Int):Option a:=(zk xs.length i).bind λj=>xs[j]?
def iw(h:zk n i=some j):seqIndex? i n=some j/\j<n/\-(n:Int)<=i/\i<n:=by
 unfold zk at h;by_cases b:0<=i
 .rw[gi b]at h;by_cases a:i<n
  .rw[gi a]at h;have e:i.toNat=j:=Option.some.inj h;show{by rw[seqIndex_of b a,e],by lia,by lia,a}
  rw[gk a]at h;cases h
 rw[gk b]at h;by_cases a:-(n:Int)<=i
 .rw[gi a]at h;show{by rw[seqIndex_neg (by lia) a,(Option.some.inj h)],by lia,a,by lia}
 rw[gk a]at h;cases h
def KF{a:Type}{xs:List a}{i:Int}{v:a}(h:tY xs i=some v):∃j,seqIndex? i xs.length=some j/\xs[j]?=some v/\j<xs.length/\-(xs.length:Int)<=i/\i<xs.length:=by
 unfold tY at h;cases e:zk xs.length i with
 |none=>nofun
 |some j=>rw[e]at h;let{b,d,f,g}:=iw e;show{j,b,h,d,f,g}
def jw(b:bp):Prop:=∀o i,subscripted b false o i=operate [o,i] (getItem o i)
def IxR(X:Cx)(r:R2):Prop:=
 ∀(b a:bp) (Y:R7) (s:ai) (d:St) (H:Hp) (x y:V) (v u:af) (Q:VK),Inv X Y d H s->RelV x v->RelV y u->r x y H Q->
  subscripted a false v u=operate [v,u] (getItem v u)->a9 (ba X.prog X.w) X.A (subscriptTail b a v u) (EP X Y d Q) X.xe s
def MtR(X:Cx)(id:String)(r:V->List V->Hp->VK->Prop):Prop:=
 ∀(Y:R7) (s:ai) (a:St) (H:Hp) (x:V) (b:List V) (v:af) (d:List af) (Q:VK),Inv X Y a H s->RelV x v->l7 b d->r x b H Q->
  a9 (ba X.prog X.w) X.A (call (.builtin id) (v::d)) (EP X Y a Q) X.xe s
section
variable{X:Cx}{a b:bp}{ta tb:TE}{pos:Pos}
def a9b(K:gy):R2:=λx y H Q=>∃p d i v,x=.ref p/\y=.int i/\M4 K H p d/\tY d i=some v/\Q v H
def a8z(K:gy):R2:=λx y H Q=>∃p d i v,x=.ref p/\y=.int i/\W3 K H p d/\tY d i=some v/\Q v H
def tw:IxR X (a9b X.K):=by
 intro e f Y s B H x y v u Q I C E h n;let{p,xs,i,z,rfl,rfl,J,L,q}:=h;cases C;let{t,rfl}:=E;let{g,r,k,hz}:=I.list J;let{j,l,N,h3,O,T}:=KF L;let{w,o,U}:=r.get N;have hl:=r.length;have hn:=HL;have d:EP X Y B Q w s:={z,H,I,U,q};by_cases A:0<=i
 .have m:i.toNat=j:=by rw[seqIndex_of A T]at l;show Option.some.inj l
  show item_listR k.isList A (by lia) (by rw[m];exists o) d n
 have m:(i+(g.toArray.size:Int)).toNat=j:=by
  rw[seqIndex_neg (by lia) O]at l
  nofun
 show subscriptTail_builtinR (x:=w) k.isList.typeIs slot_list_getitem.lookup
  (wpAny_getItem_list_neg k.isList (by lia) (by grind) (by lia) (by rw[m];exists o) {rfl,d}) n
def a0h:IxR X (a8z X.K):=by
 intro d e Y s k H x y v u Q I l m h n;let{p,L,i,z,rfl,rfl,o,A,q}:=h;cases l;let{t,rfl}:=m;let{B,r,g,N}:=I.tuple o;let{j,O,C,T,U,h5}:=KF A;let{w,E,J}:=r.get C;have hl:=r.length;have hn:=HL;have f:EP X Y k Q w s:={z,H,I,J,q};show subscriptTail_builtinR g.typeIs aCG.lookup
  (getItem_tuple (j:=j) g (by lia) (by lia) (by nofun) (by exists E) {rfl,f}) n
def xG(lo d:Option Int)(n:Nat):(eZ lo d none n).1=((HT.sIx n 0 lo:Nat):Int)/\(eZ lo d none n).2.1=((HT.sIx n n d:Nat):Int)/\(eZ lo d none n).2.2=1:=by
 have e:∀i:Int,(eZ (some i) none none n).1=((HT.sIx n 0 (some i):Nat):Int):=λi=>by
  erw[eZ,HT.sIx,Option.getD_none,show(1:Int)>0 by symm,if_true];by_cases h:i<0
  .erw[h,if_true]<;>lia
  erw[h,if_false]<;>lia
 show{?_,?_,rfl}
 .cases lo with
  |none=>simp[eZ,HT.sIx]
  |some i=>show e i
 cases d with
 |none=>simp[eZ,HT.sIx]
 |some i=>show e i
def uP(its:List af)(lo d:Option Int):slicePick its.toArray lo d none=((its.drop (HT.sIx its.length 0 lo)).take (HT.sIx its.length its.length d-HT.sIx its.length 0 lo)).toArray:=by let{e,f,g}:=xG lo d its.toArray.size;unfold slicePick;rw[e,f,g];erw[sliceRange_one,pick_run]<;>rfl
def a4q(K:gy):V->Option Int->Option Int->Hp->VK->Prop:=λx lo e H Q=>∃a d,x=.ref a/\M4 K H a d/\∀p,H p=none->Q (.ref p) (upd H p<|.lst (MD d lo e))
def ZH:SlR X (a4q X.K):=by intro Y s o H x v p t lo e u Q I g i j k h;let{a,d,rfl,l,q}:=h;cases g;let{m,r,f,n}:=I.list l;have hlen:=r.length;show{"list",_,slot_list_getitem.lookup,f.isList.typeIs,(wpAny_getItem_list_slice f.isList i j k .none (by simp) ?_ (by nofun))};rw[uP,<-hlen];show{.ref s.heap.objs.size,_,I.laid (t':=s.toks) (λb w q=>aAc _ q) (aAi _) ?_,rfl,q _ (I.hok.fresh<|aAi _)};show{aAj (oH d lo e) n,_,0,(r.drop<|HT.sIx d.length 0 lo).take (HT.sIx d.length d.length e-HT.sIx d.length 0 lo),aAo _ rfl}
def a5z:V->Bool
 |.non=>true
 |.bl _=>true
 |.int _=>true
 |.str _=>true
 |_=>false
def kE:AJ X (.builtin "len") (λxs H Q=>∃p e,xs=[.ref p]/\(M4 X.K H p e\/W3 X.K H p e)/\Q (.int e.length) H):=by
 intro Y s m H xs n Q I r h;let{p,e,rfl,f,q}:=h;let{u,rfl,k}:=vals1 r;cases k;have o:=HL;rcases f with f|f
 .let{g,i,j,l}:=I.list f;have d:=i.length;show Calls.call_len_list j.isList (by erw[aAX]<;>lia) {.int e.length,H,I.tok _,{s.toks+1,by rw[aAX,d]},q}
 let{g,i,j,l}:=I.tuple f;have d:=i.length;show len_tuple j (by grind) {.int e.length,H,I.tok _,{s.toks+1,by rw[aAX,d]},q}
def kN:AJ X (.type "list") (λxs H Q=>∃p g,xs=[.ref p]/\(M4 X.K H p g\/W3 X.K H p g)/\∀l,H l=none->Q (.ref l) (upd H l (.lst g))):=by
 intro Y s E H xs L Q I r h;let{p,g,rfl,k,q}:=h;let{u,rfl,J}:=vals1 r;cases J;have m:∀(d:List af),l7 g d->g.length<=sizeLine->∀(f:bt) (i:Nat),(∀b C,s.heap.get? b=some C->f.get? b=some C)->
   f.get? s.heap.objs.size=some {cls:=.type "list",dict:=none,data:=.seq d.toArray i,slots:=#[]}->EP X Y E Q (.ref s.heap.objs.size) {s with heap:=f}:=λd j t f i v e=>
  {.ref s.heap.objs.size,_,I.laid (t':=s.toks) v (aAi _) (show ObjOk X.prog X.w _ f _ (.lst g)from{t,d,i,j,e}),rfl,q _ (I.hok.fresh<|aAi _)}
 rcases k with k|k
 .let{d,j,y,t}:=I.list k;have x:=j.length;let{o,z,A,n,B}:=y.isList;show call_list_seq p (.inl rfl) z A B (λf i v e=>m d j t f i v e) (by nofun)
 let{d,j,y,t}:=I.tuple k;have x:=j.length;let{o,z,A,n,B}:=y;show call_list_seq p (.inr rfl) z A B (λf i v e=>m d j t f i v e) (by grind)
def iM:AJ X (.type "tuple") (λxs H Q=>∃p f,xs=[.ref p]/\((M4 X.K H p f/\∀l,H l=none->Q (.ref l) (upd H l (.tup f)))\/(W3 X.K H p f/\Q (.ref p) H))):=by
 intro Y s m H xs z Q I r h;let{p,f,rfl,h}:=h;let{u,rfl,w}:=vals1 r;cases w;rcases h with⟨i,q⟩|⟨i,q⟩
 .let{d,j,k,n}:=I.list i;have t:=j.length;show call_tuple_list k.isList (λg x=>?_) (by grind);have v:Inv X Y m H {s with heap:=g}:=I.kept (t':=s.toks) x;have y:Inv X Y m (upd H g.objs.size<|.tup f) {s with heap:=g.push {cls:=.type "tuple",data:=.seq d.toArray}}:=
   v.laid (t':=s.toks) (λb o e=>aAc _ e) (aAi _) ({n,d,j,IsTup.new _ _})
  show{.ref g.objs.size,_,y,rfl,q _ (v.hok.fresh<|aAi _)}
 let{d,j,k,n}:=I.tuple i;show call_tuple_same k {.ref p,H,I,rfl,q}
def tyV(K : gy) (T : String) (x : V) (H : Hp) : Prop := match x with
  | .str _ => T = "str"
  | .int _ => T = "int"
  | .ref p => (T = "list" ∧ ∃ d, M4 K H p d) ∨ (T = "tuple" ∧ ∃ o, K.lookup p = some o ∧ o.cls = .type "tuple" ∧ o.dict = none) ∨
      (T = "dict" ∧ ((∃ N, H p = some (.dK N)) ∨ ∃ N, H p = some (.dT N))) ∨ (T = "set" ∧ ∃ S n, H p = some (.set S n))
  | _ => False
def WR(I:Inv X Y w H s)(r:RelV x v)(g:tyV X.K T x H):
  s.TypeIs v T/\∀a,v=.ref a->∃k,s.heap.get? a=some k/\k.dict=none:=by
 cases x with
 |str z=>let{t,rfl}:=r;cases(show T= "str"from g);show{typeIs_str s z t,λ_ e=>nomatch e}
 |int i=>let{t,rfl}:=r;cases(show T= "int"from g);show{typeIs_int s i t,λ_ e=>nomatch e}
 |ref p=>
  cases r;rcases g with⟨rfl,y,m⟩|⟨rfl,o,d,q,h⟩|⟨rfl,d⟩|⟨rfl,S,n,d⟩
  .let{u,_,l,_}:=I.list m;show{l.isList.typeIs,λa e=>?_};cases e;let{o,n,e,c,h,_}:=l;show{o,e,h}
  .show{{o,I.kIn p o d,q},λa e=>?_};cases e;show{o,I.kIn _ o d,h}
  .have z:∃o,s.heap.get? p=some o/\o.ExactDict:=by
    rcases d with⟨N,d⟩|⟨N,d⟩
    .let{_,_,_,_,o,_,_,e,f,_}:=I.hok p _ d;show{o,e,f}
    let{_,_,_,_,o,_,_,e,f,_}:=I.hok p _ d;show{o,e,f}
   let{o,e,f}:=z;show{{o,e,f.1},λa j=>?_};cases j;show{o,e,f.2.1}
  let{o,_,_,_,e,f,_}:=I.hok p _ d;show{{o,e,f.1},λa j=>?_};cases j;show{o,e,f.2.1}
 |_=>show aAy g
def a8t(K:gy)(T:String)(r:V->List V->Hp->VK->Prop)(e:TE):TE:=λf H Q=>e f H λx d=>tyV K T x d/\r x [] d Q
def tBM(K:gy)(T:String)(r:V->List V->Hp->VK->Prop)(f:TE)(t:TA):TE:=λd H Q=>f d H λx e=>tyV K T x e/\t d e λg h=>r x g h Q
variable{o e:bp}{es:List bp}{to:TE}{t:TA}{name:Str}{apos bf:Pos}{T id:String}{r:V->List V->Hp->VK->Prop}
def XU(j:PlainAttrs T)(slot:Slot T name id)(d:typeOf (.builtin id)=pure (.type "method_descriptor"))(k:MtR X id r)(l:PE X o to)
  (m:eT o name X.env (cu o X.env)=cu o X.env<|>1) (n:(apos.endLine==bf.line)=true<|>1):PE X (.Call (.Attribute o name apos) [] [] bf) (a8t X.K T r to):=by
 intro Y s f H Q I h;show wpAny_Call_method0_late m n (G4 (l Y s f H _ I h) λv p ⟨x,q,g,i,u,w⟩=>?_);let{y,z}:=WR g i u;show{T,id,j,slot,d,y,z,aFK rfl (PySem.evalArgs_none<|k Y p f q x [] v [] Q g i .nil w)}
def yw(k:PlainAttrs T)(slot:Slot T name id)(d:typeOf (.builtin id)=pure (.type "method_descriptor"))(l:MtR X id r)(m:PE X o to)(n:PA X (e::es) t)
  (p:eT o name X.env (cu o X.env)=cu o X.env<|>1)
  (q:(((cq bf (ag (e::es) X.env)).all (λx=>!x.1)&&(backToKw bf (keywordEach [] X.env)).all (λx=>x.1.isSome)
   &&decide ((e::es).length+([]:List Keyword).length+(if([]:List Keyword).isEmpty then 0 else 1)<30))=true)<|>1)
  (u:(apos.endLine==bf.line)=true<|>1) (w:ag (e::es) X.env=(false,cu e X.env)::ag es X.env<|>1) (y:(cq bf (ag es X.env)).any (·.1)=false<|>1):
  PE X (.Call (.Attribute o name apos) (e::es) [] bf) (tBM X.K T r to t):=by
 intro Y s f H Q I h;show wpAny_Call_method_late p q u rfl (G4 (m Y s f H _ I h) λv z ⟨x,A,g,i,B,C⟩=>?_);let{E,J}:=WR g i B;show{T,id,k,slot,d,E,J,?_};have j:=n bf Y z f A _ g C;rw[w]at j⊢;show aFK (by change(false||(cq bf<|ag es X.env).any (·.1))=false;rw[y]<;>rfl) (Calls.evalArgs_plain<|G4 j λL N ⟨O,U,I2,r2,q2⟩=>l Y N f U x O v L Q I2 i r2 q2)
end
def MtM(X:Cx)(id:String)(r:V->List V->Hp->VK->Prop):Prop:=
 ∀(Y:R7) (s:ai) (a:St) (H:Hp) (x:V) (b:List V) (v:af) (d:List af) (Q:VK),Inv X Y a H s->RelV x v->l7 b d->r x b H Q->
  a9 (ba X.prog X.w) X.A (call (.builtin id) (v::d)) (EP X Y a Q) X.xe s
def l7.one:∀{x:V}{us:List af},l7 [x] us->∃u,us=[u]/\RelV x u:=by
 intro _ _ a;cases a with
 |cons r b=>
  cases b with
  |nil=>show{_,rfl,r}
theorem l7.zero:∀{us:List af},l7 [] us->us=[]
 |_,.nil=>rfl
def l7.dropLast(h:l7 xs us):l7 xs.dropLast us.dropLast:=by
 induction h with
 |nil=>show .nil
 |cons r t a=>
  cases t with
  |nil=>show .nil
  |cons q b=>show .cons r a
section
variable{X:Cx}{Y:R7}{σ:St}{H:Hp}{s:ai}{l b:a5}{xs ys zs:List V}
def Inv.af9{its its':List af}{n:Nat}{f:Array af->Array af}{t':Nat}(I:Inv X Y σ H s)(a:H l=some (.lst xs))
  (e:s.heap.get? l=some {cls:=.type "list",data:=.seq its.toArray n}) (d:f its.toArray=its'.toArray) (g:l7 ys its') (hz:ys.length<=sizeLine):
  Inv X Y σ (upd H l (.lst ys)) {s with heap:=s.heap.update l (aCg f),toks:=t'}:=by
 have q:=PySem.IsL.update e f;rw[d]at q;show I.write (a▸trivial) (.inl rfl) (λj u h i=>(aAI s.heap (aCg f)<|aCA h).trans i) {_,q} ?_;show{hz,its',_,g,q}
def Inv.ag7(I:Inv X Y σ H s)(a:l7 ys its)(hz:ys.length<=sizeLine):
  Inv X Y σ (upd H s.heap.objs.size (.lst ys)) {s with heap:=s.heap.push {cls:=.type "list",data:=.seq its.toArray},toks:=t'}:=
 I.laid (λ_ _ q=>aAc _ q) (aAi _) {hz,its,0,a,aAo _ rfl}
def Inv.fresh(I:Inv X Y σ H s):H s.heap.objs.size=none:=I.hok.fresh (aAi _)
def Inv.af6(I:Inv X Y σ H s)(a:H l=some (.lst xs)):xs.length<=sizeLine/\∃(its:List af) (n:Nat),l7 xs its/\xs.length=its.length/\s.heap.get? l=some {cls:=.type "list",data:=.seq its.toArray n}:=by let{z,its,n,r,e}:=I.hok l _ a;show{z,its,n,r,r.length,e}
def UV(h:n<=sizeLine):aDb n=false:=by
 unfold aDb
 lia
end
section
variable{X:Cx}
def ix:V->List V->Hp->VK->Prop:=λx b H Q=>∃l a y,x=.ref l/\b=[y]/\H l=some (.lst a)/\a.length<sizeLine/\Q .non (upd H l<|.lst (a++[y]))
def vL:MtM X "list.append" ix:=by intro Y s i H x j v k Q I d f h;let{l,m,y,rfl,rfl,b,o,q}:=h;cases d;let{u,rfl,g}:=f.one;let{z,a,n,r,p,e}:=I.af6 b;show call_meets F.slot_list_append {_,e,rfl} F.entry_list_append (F.args_list_append_2 _ _) (PySem.list_append l a.toArray n u (by nofun)) {e,({.non,_,I.af9 (its':=a++[u]) b e (by simp) (r.append<|.cons g .nil) ?_,rfl,q})};grind
def a8s:V->List V->Hp->VK->Prop:=λx b H Q=>∃l a y,x=.ref l/\b=[]/\H l=some (.lst a)/\a[a.length-1]?=some y/\Q y (upd H l<|.lst a.dropLast)
def QA:MtM X "list.pop" a8s:=by
 intro Y s m H x o v p Q I g i h;let{l,t,y,rfl,rfl,f,j,q}:=h;cases g;have b:=i.zero;subst b;let{z,a,n,r,w,e}:=I.af6 f;let{u,A,k}:=r.get j;have d:a.toArray[a.toArray.size-1]?=some u:=by grind
 show call_meets F.slot_list_pop {_,e,rfl} F.entry_list_pop (F.args_list_pop_1 _) (MeetsSeq.list_pop_last l a.toArray n u d (by nofun)) {e,({y,_,I.af9 (its':=a.dropLast) f e ?_ r.dropLast ?_,k,q})}
 .grind
 grind
end
section
variable{prog:bb}{w:bo}{A:be}{E:D7}{s:ai}
end
section
variable{X:Cx}
end
end L2
namespace Att
open PySem PySem.W PySem.Calls PyProof.Rows
def pG:∀(ns:List Int) (vs:List af),WellAll P h vs (ns.map WData.int)->IntsAre vs ns:=by
 intro ns;induction ns with
 |nil=>intro vs w;rw[aDG]at w;cases w;show .nil
 |cons n ns d=>
  intro vs w;rw[aAq]at w;cases w with
  |cons a b=>cases a;show .cons _ _ (d _ b)
def script_of{l:OpenLaw}{n:Nat}(k:l.most=some n){P:Params}{h:bt}{args:List WData}{b:List af}
  (i:l.row.toRowW.claim.pre args=true) (m:WellAll P h b args):
  ∃a vs ns,b=[aDF a]/\args=[WData.list (ns.map WData.int)]/\h.get? a=some {cls:=.type "list",data:=.seq vs.toArray}/\IntsAre vs ns/\ns.length<=n:=by
 have g:=(pre_splitW i).1;have j:l.pre.holds [] {args:=args}=true:=(pre_splitW i).2;let{d,r,rfl,o,p}:=hasAllW_cons g;obtain rfl:=hasAllW_nil p;let{w,rfl,q}:=hasW_list o;let{ns,rfl}:=items_int q;have e:ns.length<=n:=by
  unfold OpenLaw.pre at j;have f:(WTm.not<|.lt (.lit (.int (n:Int))) (.len (.arg 0))).holds [] {args:=[.list (ns.map .int)]}=true:=by have f:=(holds_andW j).1;rw[k]at f;show f
  have x:=condW_of f (w_not<|w_lt w_lit<|w_len_list<|w_arg rfl)
  nofun
 cases m with
 |cons s t=>
  cases t;cases s with
  |list u v=>show{_,_,ns,rfl,rfl,u,pG ns _ v,e}
def post_true(l:OpenLaw)(args:List WData):l.row.toRowW.claim.post args (.bool true) args=true:=
 postW_of (r:=l.row.toRowW) (X:=(true==true))
  (show WShape.has [] (.bool true) .bool=true by first|rfl|decide|simp[WShape.has,WShape.arms,WShape.armsAll])
  (show(WTm.eq .res (.lit (.bool true))).value [] {args:=args,res:=some (.bool true),after:=args}=some (.bool (true==true))from w_eq_bool (w_res rfl) w_lit) rfl
section
variable{prog:bb}{w:bo}{A:be}{E:D7}{s:ai}{K:Frag}
def a8x(h:bt)(L d:a5):List (a5×Obj):=(aBI h.objs.size).filterMap λa=>if a=L\/a=d then none else(h.get? a).map λo=>(a,o)
end
end Att
namespace L2
open PySem PySem.Spec PyProof.Rows
theorem bE:∀{vs:List af}{ns:List Int},IntsAre vs ns->l7 (ns.map V.int) vs:=by
 intro _ _ a;cases a with
 |nil=>show .nil
 |cons n t h=>show .cons {t,rfl} (bE h)
def A2(s:br):Arguments:=match s with
 |.FunctionDef _ a _ _ _ _ _ _ _ _=>a
 |_=>{posonlyargs:=[],args:=[],vararg:=none,kwonlyargs:=[],kw_defaults:=[],kwarg:=none,defaults:=[]}
def k7(s:br):List br:=match s with
 |.FunctionDef _ _ b _ _ _ _ _ _ _=>b
 |_=>[]
def b9(s:br):eO:=match s with
 |.FunctionDef _ _ _ _ _ _ a _ _ _=>a
 |_=>{kind:=.function,names:=[],isGenerator:=false,isCoroutine:=false}
abbrev uB:YD:=λ_ _ _ _ _ _=>False
abbrev E0:XK:=λ_ _ _=>False
def XO:HP uB X E0:=λ_ _ _ _ _ _ _ h=>h.elim
structure Fun(K:PySem.W.Frag)(x qual:Str)(st:Stmt)(f:Addr)(fd:FuncData):Prop where
 ex:∃(oc:Value) (od:Option Addr) (kV doc pm:Value) (an:Option Addr) (L ct:Value) (osl:Array (Option Value)),
  fd=PySem.W.fnOf x qual (A2 st) (k7 st) (b9 st) .none kV doc pm an L ct/\K.lookup f=some {oc,od,.func fd,osl}/\PySem.W.codeIn K L qual=true
 kp:PySem.W.keepIn K (.ref f)=true
section
variable{P:bb}{w:bo}{K:gy}{mg:dJ}{base:bt}
def Fun.ok{x qual:Str}{st:br}{f:a5}{d:cy}{N ps:List Str}{k:Nat}{a:Sp}(F:Fun K x qual st f d)(S:FnScope N ps (b9 st))(len:∀vs H Q E,a vs H Q E->vs.length=ps.length)
  (e:∀(L:af) (A:be) (outer:List Env) (s:ai) (H:Hp) (vs:List V) (Q:VK) (E:XK),Room k (A.deeper (envOfC qual (b9 st) s.heap.objs.size f L))->a vs H Q E->
   ∃t,uF (II uB P w K mg base N qual (b9 st) f L A outer s H E).nox (k7 st) t/\t {nx:=λ_ H'=>Q .non H',rt:=Q} (start N vs) H):FnOk P w K mg base uB (k+1) f d ps a:=by
 let{m,n,kV,g,o,p,L,r,i,rfl,lk,j}:=F.ex;show a0d lk j S len λA outer s H vs Q E l b=>?_;let{t,h,q}:=e L A outer s H vs Q E l b;show{t,h.nox,q}
def Fun.binds{x qual:Str}{st:br}{f:a5}{e:cy}{ps:List Str}(F:Fun K x qual st f e)
  (h:∀(kV a b:af) (d:Option a5) (L ct:af) (us:List af),us.length=ps.length->bindArgs (PySem.W.fnOf x qual (A2 st) (k7 st) (b9 st) .none kV a b d L ct) {us,[]}=pure (ps.zip us)):Binds K e ps []:=by
 let{i,j,kV,a,b,d,L,ct,g,rfl,lk,k}:=F.ex;show .all (h kV a b d L ct)
def XD{x qual:Str}{st:br}{f:a5}{g:af}{h d:Option a5}{b:Array (Option af)}{kV a e L ct:af}(l:K.lookup f=some {g,h,.func (PySem.W.fnOf x qual (A2 st) (k7 st) (b9 st) .none kV a e d L ct),b})
 (c:PySem.W.codeIn K L qual=true) (k:PySem.W.keepIn K (.ref f)=true):Fun K x qual st f (PySem.W.fnOf x qual (A2 st) (k7 st) (b9 st) .none kV a e d L ct):={{g,h,kV,a,e,d,L,ct,b,rfl,l,c},k}
end
section
variable{X:Cx}
end
def Same(H H':Hp):Prop:=∀b o,H b=some o->H' b=some o
def Same.refl(H:Hp):Same H H:=λ_ _ h=>h
def Same.trans(a:Same H d)(b:Same d e):Same H e:=λc o h=>b c o (a c o h)
def Same.seq{K:gy}{H H':Hp}{a:a5}{xs:List V}(e:Same H H')(h:M4 K H a xs):M4 K H' a xs:=by
 rcases h with(h|⟨o,h⟩)|h
 .show .inl (.inl (e _ _ h))
 .show .inl (.inr {o,e _ _ h})
 show .inr h
end L2
namespace DL
open PySem PySem.Spec L2
open PyProof.Rows hiding St
section
inductive D where
 |non|bl (b:Bool)|int (i:Int)|str (x:Str)|tup (xs:List D)|lst (xs:List D)|dct (N:List (D×D))
mutual
def l8:D->Int
 |.int i=>hashInt i
 |.tup a=>reduceHash (aAT (zD a))
 |_=>0
def zD:List D->List Int
 |[]=>[]
 |x::a=>l8 x::zD a
end
def Q7:Nat->D->Bool
 |_,.int _=>true
 |n+1,.tup a=>a.all (Q7 n)
 |_,_=>false
inductive R(α:Type)where
 |ok (a:α)|ex (e:Str)|bad
def R.bind{b β:Type}:R b->(b->R β)->R β
 |.ok a,f=>f a
 |.ex e,_=>.ex e
 |.bad,_=>.bad
@[simp]def R.aa0{b β:Type}(a:b)(f:b->R β):(R.ok a).bind f=f a:=rfl
@[simp]def R.ag3{a β:Type}(e:Str)(f:a->R β):(R.ex e:R a).bind f=.ex e:=rfl
@[simp]def R.ag1{a β:Type}(f:a->R β):(R.bad:R a).bind f=.bad:=rfl
def xD(a:a5)(o:Obj)(es:List dz):Prop:=(a==eY)=false/\o.ExactDict/\∃b d,o.data=.dict b d/\b.toList=es
section
variable(K:gy) (H:Hp) (O:a5->Prop)
mutual
inductive Rep:V->D->Prop
 |non:Rep .non .non
 |bl {b:Bool}:Rep (.bl b) (.bl b)
 |int {i:Int}:Rep (.int i) (.int i)
 |str {x:Str}:Rep (.str x) (.str x)
 |tup {a:Addr}{vs:List V}{ds:List D} (h:W3 K H a vs) (r:Reps vs ds):Rep (.ref a) (.tup ds)
 |lst {a:Addr}{vs:List V}{ds:List D} (h:M4 K H a vs) (n:¬O a) (r:Reps vs ds):Rep (.ref a) (.lst ds)
 |dct {a:Addr}{o:Obj}{es:List DictEntry}{N:List (D×D)} (h:H a=some (.ext λh=>h.get? a=some o)) (x:xD a o es) (n:¬O a) (nd:(N.map (·.1)).Nodup) (r:RepsD es N):Rep (.ref a) (.dct N)
inductive Reps:List V->List D->Prop
 |nil:Reps [] []
 |cons {v:V}{d:D}{vs:List V}{ds:List D} (h:Rep v d) (t:Reps vs ds):Reps (v::vs) (d::ds)
inductive RepsD:List DictEntry->List (D×D)->Prop
 |nil:RepsD [] []
 |cons {e:DictEntry}{k v:D}{a:Addr}{x:V}{es:List DictEntry}{N:List (D×D)} (hk:e.key=.ref a) (rk:Rep (.ref a) k) (hv:RelV x e.val) (rv:Rep x v) (hh:e.hash=l8 k/\Q7 7 k=true) (t:RepsD es N):RepsD (e::es) ((k,v)::N)
end
end
section
variable{K:gy}
def _root_.L2.Same.tup{a:a5}{xs:List V}(e:Same H H')(h:W3 K H a xs):W3 K H' a xs:=by
 rcases h with(h|⟨o,h⟩)|h
 .show .inl (.inl (e _ _ h))
 .show .inl (.inr {o,e _ _ h})
 show .inr h
mutual
theorem Rep.mono(f:∀a xs,W3 K H a xs->W3 K H' a xs)(b:∀a xs,¬O a->M4 K H a xs->¬g a/\M4 K H' a xs)(e:∀a i,¬O a->H a=some (.ext i)->¬g a/\H' a=some (.ext i)):∀{v:V}{d:D},Rep K H O v d->Rep K H' g v d:=by
 intro _ _ j;cases j with
 |non=>show .non
 |bl=>show .bl
 |int=>show .int
 |str=>show .str
 |tup h r=>show .tup (f _ _ h) (Reps.mono f b e r)
 |lst h n r=>show .lst (b _ _ n h).2 (b _ _ n h).1 (Reps.mono f b e r)
 |dct h x n k r=>show .dct (e _ _ n h).2 x (e _ _ n h).1 k (RepsD.mono f b e r)
theorem Reps.mono(b:∀a xs,W3 K H a xs->W3 K H' a xs)(d:∀a xs,¬O a->M4 K H a xs->¬e a/\M4 K H' a xs)(f:∀a g,¬O a->H a=some (.ext g)->¬e a/\H' a=some (.ext g)):∀{vs:List V}{ds:List D},Reps K H O vs ds->Reps K H' e vs ds:=by
 intro _ _ i;cases i with
 |nil=>show .nil
 |cons h t=>show .cons (Rep.mono b d f h) (Reps.mono b d f t)
theorem RepsD.mono(b:∀a xs,W3 K H a xs->W3 K H' a xs)(d:∀a xs,¬O a->M4 K H a xs->¬f a/\M4 K H' a xs)(e:∀a g,¬O a->H a=some (.ext g)->¬f a/\H' a=some (.ext g)):∀{es:List dz}{N:List (D×D)},RepsD K H O es N->RepsD K H' f es N
 |_,_,.nil=>.nil
 |_,_,.cons h i j k l t=>.cons h (Rep.mono b d e i) j (Rep.mono b d e k) l (RepsD.mono b d e t)
end
def Rep.same(e:Same H H')(r:Rep K H O v d):Rep K H' O v d:=r.mono (λ_ _ h=>e.tup h) (λ_ _ n h=>{n,e.seq h}) λ_ _ n h=>{n,e _ _ h}
def Reps.same(e:Same H H')(r:Reps K H O v d):Reps K H' O v d:=r.mono (λ_ _ h=>e.tup h) (λ_ _ n h=>{n,e.seq h}) λ_ _ n h=>{n,e _ _ h}
def Rep.sub(e:∀a,b a->O a)(r:Rep K H O v d):Rep K H b v d:=r.mono (λ_ _ h=>h) (λ_ _ n h=>{λz=>n (e _ z),h}) λ_ _ n h=>{λz=>n (e _ z),h}
def Reps.sub(e:∀a,b a->O a)(r:Reps K H O v d):Reps K H b v d:=r.mono (λ_ _ h=>h) (λ_ _ n h=>{λz=>n (e _ z),h}) λ_ _ n h=>{λz=>n (e _ z),h}
theorem Reps.length:∀{vs:List V}{ds:List D},Reps K H O vs ds->vs.length=ds.length
 |_,_,.nil=>rfl
 |_,_,.cons _ t=>by simp[Reps.length t]
theorem Reps.get:∀{vs:List V}{ds:List D}{i:Nat}{d:D},Reps K H O vs ds->ds[i]?=some d->∃v,vs[i]?=some v/\Rep K H O v d:=by
 intro _ _ a d b e;cases b with
 |nil=>simp at e
 |cons r t=>
  cases a with
  |zero=>simp at e;subst e;show{_,rfl,r}
  |succ i=>let{u,f,g}:=Reps.get (i:=i) (d:=d) t (by exists e);show{u,by simpa using f,g}
theorem Reps.append:∀{vs ws:List V}{ds es:List D},Reps K H O vs ds->Reps K H O ws es->Reps K H O (vs++ws) (ds++es):=by
 intro _ _ _ _ a s;cases a with
 |nil=>show s
 |cons r t=>show .cons r (Reps.append t s)
theorem Reps.take:∀{vs:List V}{ds:List D} (n:Nat),Reps K H O vs ds->Reps K H O (vs.take n) (ds.take n)
 |_,_,0,_=>.nil
 |_,_,_+1,.nil=>.nil
 |_,_,n+1,.cons r t=>.cons r (Reps.take n t)
theorem Reps.drop:∀{vs:List V}{ds:List D} (n:Nat),Reps K H O vs ds->Reps K H O (vs.drop n) (ds.drop n)
 |_,_,0,r=>r
 |_,_,_+1,.nil=>.nil
 |_,_,n+1,.cons _ t=>Reps.drop n t
def Reps.dropLast(r:Reps K H O vs ds):Reps K H O vs.dropLast ds.dropLast:=by rw[aEx,aEx,r.length];show r.take _
def Reps.snoc(r:Reps K H O vs ds)(h:Rep K H O v d):Reps K H O (vs++[v]) (ds++[d]):=r.append (.cons h .nil)
theorem Reps.ints:∀(ns:List Int),Reps K H O (ns.map V.int) (ns.map D.int)
 |[]=>.nil
 |_::ns=>.cons .int (Reps.ints ns)
theorem Reps.reverse:∀{vs:List V}{ds:List D},Reps K H O vs ds->Reps K H O vs.reverse ds.reverse
 |_,_,.nil=>.nil
 |_,_,.cons r t=>by rw[aBc,aBc];show(Reps.reverse t).snoc r
end
def Kp(H:Hp)(O:a5->Prop)(H':Hp)(a:a5->Prop):Prop:=∀b o,H b=some o->¬O b->H' b=some o/\¬a b
section
def Kp.refl(H:Hp)(O:a5->Prop):Kp H O H O:=λ_ _ h n=>{h,n}
def Kp.of(s:Same H H'):Kp H O H' O:=λb o h n=>{s b o h,n}
def Kp.trans(a:Kp H O H' f)(b:Kp H' f d e):Kp H O d e:=λc o h n=>by let{g,i}:=a c o h n;show b c o g i
end
class Tabs where
 tbs:List (Addr×List (Pos×Str))
inductive Sl where
 |no|v (d:D)|o (xs:List D)|x (C:Value)|c (m:List D->R D) (φ:Hp->(Addr->Prop)->Addr->Prop)|d (N:List (D×D))
abbrev Ev:=List Sl
def Mt:HO->Prop
 |.lst _=>True
 |.dK _=>True
 |.dT _=>True
 |.ext _=>True
 |_=>False
def fF(K:gy)(H:Hp)(O:a5->Prop)(es:List dz)(N:List (D×D)):Prop:=
 Paired (λ(e:dz) (p:D×D)=>(∃a,e.key=.ref a/\Rep K H O (.ref a) p.1)/\(∃v,RelV v e.val/\Rep K H O v p.2)/\e.hash=l8 p.1/\Q7 7 p.1=true) es N
theorem RepsD.rep{K:gy}:∀{es:List dz}{N:List (D×D)},RepsD K H O es N->fF K H O es N:=by
 intro _ _ a;cases a with
 |nil=>show .nil
 |cons b d e f g t=>show .cons {{_,b,d},{_,e,f},g} (RepsD.rep t)
def fF.ab8{K:gy}:∀{es:List dz}{N:List (D×D)},fF K H O es N->RepsD K H O es N:=by
 intro _ _ h;induction h with
 |nil=>show .nil
 |cons h _ a=>let{{_,b,d},{_,e,f},g}:=h;show .cons b d e f g a
def NY:Sl->Prop
 |.o _=>True
 |.d _=>True
 |_=>False
section
variable(K:gy) (H9 H:Hp) (O:a5->Prop)
def iV(x:Option (Option V)):Sl->Prop
 |.no=>True
 |.v d=>∃v,x=some (some v)/\Rep K H O v d
 |.o i=>∃a b,x=some (some (V.ref a))/\O a/\H9 a=none/\H a=some (.lst b)/\Reps K H O b i
 |.x C=>∃a o,x=some (some (V.ref a))/\H a=some (.frz o (.own a))/\o.cls=C
 |.c m j=>∃a,x=some (some (V.ref a))/\∀e f,Kp H O e f->j e f a
 |.d N=>∃a o g,x=some (some (V.ref a))/\O a/\H9 a=none/\H a=some (.ext λh=>h.get? a=some o)/\xD a o g/\fF K H O g N/\(N.map (·.1)).Nodup
end
variable [Tabs]
def Tb(H:Hp):Prop:=∀p∈Tabs.tbs,H p.1=some (.tbl p.2)
structure EnvOk(K:PySem.W.Frag)(H9:Hp)(O0:Addr->Prop)(H:Hp)(O:Addr->Prop)(σ:St)(ρ:Ev):Prop where
 len:σ.length=ρ.length
 same:Same H9 H
 sub:∀a,O0 a->O a
 trk:∀a,O a->∃o,H a=some o/\Mt o
 trk0:∀a,O0 a->∃o,H9 a=some o
 tab:Tb H
 slot:∀(i:Nat) (sl:Sl),ρ[i]?=some sl->iV K H9 H O σ[i]? sl
 inj:∀(i j:Nat) (x y:Sl) (a:Addr),ρ[i]?=some x->ρ[j]?=some y->NY x->NY y->σ[i]?=some (some (V.ref a))->σ[j]?=some (some (V.ref a))->i=j
section
variable{K:gy}{O0 O O':a5->Prop}
def Tb.same(h:Tb H)(s:Same H H'):Tb H':=λp a=>s _ _ (h p a)
def EnvOk.val(E:EnvOk K b O0 H O a ρ)(i:Nat)(d:D)(h:ρ[i]?=some (Sl.v d)):∃v,a[i]?=some (some v)/\Rep K H O v d:=E.slot i _ h
def EnvOk.own(E:EnvOk K b O0 H O d ρ)(i:Nat)(xs:List D)(h:ρ[i]?=some (Sl.o xs)):∃a vs,d[i]?=some (some (V.ref a))/\O a/\b a=none/\H a=some (.lst vs)/\Reps K H O vs xs:=E.slot i _ h
def fF.mono(f:∀{v:V}{d:D},Rep K H O v d->Rep K H' O' v d):∀{N:List (D×D)},fF K H O es N->fF K H' O' es N:=λ{_} r=>Paired.af7 r<|by rintro _ _ ⟨⟨v,a,b⟩,⟨w,e,g⟩,h⟩;show{{v,a,f b},{w,e,f g},h}
def iV.move(h:iV K z H O x sl)(j:∀a xs,W3 K H a xs->W3 K H' a xs)(l:∀a xs,¬O a->M4 K H a xs->¬O' a/\M4 K H' a xs)(A:∀a o u,H a=some (.frz o u)->H' a=some (.frz o u))(p:Kp H O H' O')(y:NY sl->∀a o,x=some (some (V.ref a))->O a->H a=some o->O' a/\H' a=some o):iV K z H' O' x sl:=by
 have q:∀a g,¬O a->H a=some (.ext g)->¬O' a/\H' a=some (.ext g):=λa g n h=>{(p a _ h n).2,(p a _ h n).1};cases sl with
 |no=>trivial
 |v d=>let{v,b,e}:=h;show{v,b,e.mono j l q}
 |o xs=>let{a,B,b,e,f,s,t}:=h;let{i,w}:=y trivial a _ b e s;show{a,B,b,i,f,w,t.mono j l q}
 |x C=>let{a,o,b,e,f}:=h;show{a,o,b,A _ _ _ e,f}
 |c m g=>let{a,b,e}:=h;show{a,b,λE I k=>e E I (p.trans k)}
 |d N=>let{a,o,J,b,e,f,s,t,i}:=h;let{w,L}:=y trivial a _ b e s;show{a,o,J,b,w,f,L,t,i.1.mono λr=>r.mono j l q,i.2}
def iV.grow(h:iV K a H O x sl)(e:Same H H'):iV K a H' O x sl:=
 h.move (λ_ _ q=>e.tup q) (λ_ _ n q=>{n,e.seq q}) (λ_ _ _ q=>e _ _ q) (Kp.of e) λ_ _ _ _ b d=>{b,e _ _ d}
def EnvOk.grow(E:EnvOk K b O0 H O d ρ)(e:Same H H'):EnvOk K b O0 H' O d ρ where
 len:=E.len
 same:=E.same.trans e
 sub:=E.sub
 trk:=λa h=>by let{o,q,m}:=E.trk a h;show{o,e a o q,m}
 trk0:=E.trk0
 tab:=E.tab.same e
 slot:=λi f h=>(E.slot i f h).grow e
 inj:=E.inj
def EnvOk.fresh(E:EnvOk K a O0 H O b ρ)(h:H p=none):¬O p:=λz=>by
 let{o,q,_}:=E.trk p z
 lia
def w5{a:Type}{l:List a}{i j:Nat}{x:a}(h:i≠j):(l.set i x)[j]?=l[j]?:=aCC h
def B8{a:Type}{l:List a}{i:Nat}{x y:a}(h:(l.set i x)[i]?=some y):y=x/\i<l.length:=by
 have b:i<l.length:=by have:=(aAB.mp h).1;exists this
 rw[aBR b]at h;show{(Option.some.inj h).symm,b}
def EnvOk.put(E:EnvOk K f O0 H O u ρ){v:Option V}{sl:Sl}(i:Nat)(no:¬NY sl)(r:iV K f H O (some v) sl):EnvOk K f O0 H O (u.set i v) (ρ.set i sl)where
 len:=by exists E.len
 same:=E.same
 sub:=E.sub
 trk:=E.trk
 trk0:=E.trk0
 tab:=E.tab
 slot:=λj s h=>by
  by_cases g:i=j
  .subst g;let{e,w}:=B8 h;subst e;rw[aBR (E.len▸w)];show r
  rw[w5 g]at h⊢;show E.slot j s h
 inj:=λj k x y a b d m n p t=>by
  have ne:∀(l:Nat) (z:Sl),(ρ.set i sl)[l]?=some z->NY z->i≠l:=λl z q o e=>by subst e;let{e,_}:=B8 q;subst e;show no o
  have A:=ne j x b m;have B:=ne k y d n;rw[w5 A]at b p;rw[w5 B]at d t;show E.inj j k x y a b d m n p t
def EnvOk.set(E:EnvOk K a O0 H O b ρ)(i:Nat)(r:Rep K H O v d):EnvOk K a O0 H O (b.set i (some v)) (ρ.set i (.v d)):=E.put i (λz=>z) {v,rfl,r}
def iV.at_(h:iV K i H O x sl)(o:NY sl):∃a u,x=some (some (V.ref a))/\O a/\i a=none/\H a=some u/\Mt u:=by
 cases sl with
 |o j=>let{a,k,b,e,f,g,_}:=h;show{a,_,b,e,f,g,trivial}
 |d N=>let{a,u,l,b,e,f,g,_}:=h;show{a,_,b,e,f,g,trivial}
 |_=>show o.elim
def EnvOk.af5(E:EnvOk K u O0 H O p ρ){a:a5}{sl:Sl}(i:Nat)(v:∀(j:Nat) (y:Sl),i≠j->ρ[j]?=some y->NY y->p[j]?≠some (some (V.ref a)))(r:iV K u H O (some (some (V.ref a))) sl):
  EnvOk K u O0 H O (p.set i (some (V.ref a))) (ρ.set i sl)where
 len:=by exists E.len
 same:=E.same
 sub:=E.sub
 trk:=E.trk
 trk0:=E.trk0
 tab:=E.tab
 slot:=λj s h=>by
  by_cases d:i=j
  .subst d;let{e,A}:=B8 h;subst e;rw[aBR (by rw[E.len];show A)];show r
  rw[w5 d]at h⊢;show E.slot j s h
 inj:=λj k x y b n o w z g m=>by
  have at_:∀(l:Nat),i=l->(p.set i<|some<|V.ref a)[l]?=some (some<|V.ref b)->b=a:=λl e q=>by subst e;let{e,_}:=B8 q;injection e with e;injection e
  by_cases d:i=j
  .by_cases f:i=k
   .show d.symm.trans f
   exfalso;have t:=at_ j d g;subst t;rw[w5 f]at o m;show v k y f o z m
  by_cases f:i=k
  .exfalso;have t:=at_ k f m;subst t;rw[w5 d]at n g;show v j x d n w g
  rw[w5 d]at n g;rw[w5 f]at o m;show E.inj j k x y b n o w z g m
def j1(h:H p=none)(o:HO):Same H (upd H p o):=λb u q=>by rw[j5 (t7 q h)];show q
def EnvOk.ac0(E:EnvOk K g O0 H O j ρ)(h:H a=none)(r:K.lookup a=none)(m:Mt u):EnvOk K g O0 (upd H a u) (λb=>O b\/b=a) j ρ:=by
 have s:=j1 h u;have ne:∀b d,M4 K H b d->b≠a:=λb d q z=>by
  subst z;rcases q with(q|⟨o,q⟩)|⟨o,_,_,q,_⟩
  .grind
  .lia
  grind
 show{E.len,E.same.trans s,λb z=>.inl (E.sub b z),λb z=>?_,E.trk0,E.tab.same s,λi k e=>?_,E.inj}
 .rcases z with z|z
  .let{o,q,m}:=E.trk b z;show{o,s b o q,m}
  subst z;show{_,i9,m}
 show(E.slot i k e).move (λ_ _ q=>s.tup q) (λb d n q=>{λz=>z.elim n (ne b d q),s.seq q}) (λ_ _ _ q=>s _ _ q) (λb o f n=>{s b o f,λz=>z.elim n λe=>by subst e;rw[h]at f;cases f}) λ_ b o _ l p=>{.inl l,s _ _ p}
def a1l(h:H a=none)(d:K.lookup a=none)(q:M4 K H b xs):b≠a:=λz=>by
 subst z;rcases q with(q|⟨o,q⟩)|⟨o,_,_,q,_⟩
 .nofun
 .grind
 nofun
def Reps.ac0(h:H a=none)(e:K.lookup a=none)(r:Reps K H O v d):Reps K (upd H a u) (λb=>O b\/b=a) v d:=
 r.mono (λ_ _ q=>(j1 h u).tup q) (λb f n q=>{λz=>z.elim n (a1l h e q),(j1 h u).seq q}) λb g n q=>{λz=>z.elim n (t7 q h),j1 h u _ _ q}
def EnvOk.ad6(E:EnvOk K d O0 H O f ρ)(i:Nat)(h:H a=none)(g:K.lookup a=none)(m:Mt u)(r:d a=none->iV K d (upd H a u) (λb=>O b\/b=a) (some (some (V.ref a))) sl):
  EnvOk K d O0 (upd H a u) (λb=>O b\/b=a) (f.set i (some (.ref a))) (ρ.set i sl):=by
 have k:d a=none:=by
  cases e:d a with
  |none=>rfl
  |some o=>have:=E.same a o e;rw[h]at this;cases this
 show(E.ac0 h g m).af5 i (λj y _ e o q=>?_) (r k);let{b,w,l,_,_,n,_}:=(E.slot j y e).at_ o
 nofun
def xS(h:H a=some u)(m:Mt u)(q:W3 K H b xs):W3 K (upd H a u') b xs:=by
 have ne:∀w,H b=some w->¬Mt w->b≠a:=λw e n z=>by subst z;rw[h]at e;cases e;show n m
 rcases q with(q|⟨o,q⟩)|q
 .show .inl (.inl ((j5<|ne _ q λz=>z)▸q))
 .show .inl (.inr {o,by rw[j5 (ne _ q λz=>z)];show q})
 show .inr q
def xW(d:O a)(n:¬O b)(q:M4 K H b xs):M4 K (upd H a u') b xs:=by
 have ne:b≠a:=λz=>by subst z;show n d
 rcases q with(q|⟨o,q⟩)|q
 .show .inl (.inl ((j5 ne)▸q))
 .show .inl (.inr {o,by rw[j5 ne];show q})
 show .inr q
def Rep.upd(h:H a=some u)(m:Mt u)(e:O a)(r:Rep K H O v d):Rep K (upd H a u') O v d:=r.mono (λ_ _ q=>xS h m q) (λ_ _ n q=>{n,xW e n q}) λb _ n q=>{n,by rw[j5 (λz=>n (by rw[z];show e))];show q}
def Reps.upd(h:H a=some u)(m:Mt u)(e:O a)(r:Reps K H O v d):Reps K (upd H a u') O v d:=r.mono (λ_ _ q=>xS h m q) (λ_ _ n q=>{n,xW e n q}) λb _ n q=>{n,by rw[j5 (λz=>n (by rw[z];show e))];show q}
def EnvOk.ae5{i:Nat}{sl sl':Sl}{a:a5}{u u':HO}(E:EnvOk K t O0 H O U ρ)(e:ρ[i]?=some sl)(v:NY sl)(A:U[i]?=some (some (V.ref a)))(B:H a=some u)(m':Mt u')(ow':NY sl')
  (r:O a->t a=none->Mt u->iV K t (upd H a u') O (some (some (V.ref a))) sl'):EnvOk K t O0 (upd H a u') O U (ρ.set i sl')/\Kp H O (upd H a u') O:=by
 let{b,w,d,C,Y,p4,m}:=(E.slot i sl e).at_ v;rw[A]at d;injection d with d;injection d with d;injection d with d;subst d;rw[B]at p4;cases p4;have kp:Kp H O (upd H a u') O:=λb o g n=>{by rw[j5 (λz=>by subst z;show n C)];show g,n};have nf:∀b w,H b=some w->¬Mt w->upd H a u' b=some w:=λb w q n=>by rw[j5 (λz=>by subst z;rw[B]at q;cases q;show n m)];show q
 show{{by simpa using E.len,λb o q=>?_,E.sub,λb z=>?_,E.trk0,λp hp=>nf _ _ (E.tab p hp) λz=>z,λj s h=>?_,λj k x y b I J o1 o2 L q4=>?_},kp}
 .rw[j5 (λz=>by subst z;rw[Y]at q;cases q)];show E.same b o q
 .by_cases g:b=a
  .subst g;show{_,i9,m'}
  let{o,q,m}:=E.trk b z;show{o,by rw[j5 g];show q,m}
 .by_cases N:i=j
  .subst N;let{e',_}:=B8 h;subst e';rw[A];show r C Y m
  rw[w5 N]at h;show(E.slot j s h).move (λ_ _ q=>xS B m q) (λ_ _ n q=>{n,xW C n q}) (λb o w q=>nf _ _ q λz=>z) kp λo b w I J L=>{J,?_};rw[j5 (λz=>by subst z;show N (E.inj i j sl s b e h v o A I))];show L
 have f:∀l z,(ρ.set i sl')[l]?=some z->NY z->∃z',ρ[l]?=some z'/\NY z':=λl z q o=>by
  by_cases hl:i=l
  .subst hl;show{sl,e,v}
  rw[w5 hl]at q;show{z,q,o}
 let{x',u1,Q}:=f j x I o1;let{y',u2,T}:=f k y J o2;show E.inj j k x' y' b u1 u2 Q T L q4
def EnvOk.ad7{i:Nat}{sl sl':Sl}{a:a5}(E:EnvOk K u O0 H O v ρ)(e:ρ[i]?=some sl)(A:NY sl)(B:v[i]?=some (some (V.ref a)))(no:¬NY sl')(r:iV K u H (λb=>O b/\b≠a) (some (some (V.ref a))) sl'):
  EnvOk K u O0 H (λb=>O b/\b≠a) v (ρ.set i sl'):=by
 let{b,w,d,U,J,Y,m}:=(E.slot i sl e).at_ A;rw[B]at d;injection d with d;injection d with d;injection d with d;subst d;show{by simpa using E.len,E.same,λb z=>{E.sub b z,λq=>?_},λb z=>E.trk b z.1,E.trk0,E.tab,λj s h=>?_,λj k x y b f g C I p L=>?_}
 .subst q;let{o,q}:=E.trk0 b z;rw[J]at q;cases q
 .by_cases t:i=j
  .subst t;let{l,_}:=B8 h
   nofun
  rw[w5 t]at h;show(E.slot j s h).move (λ_ _ q=>q) (λ_ _ n q=>{λz=>n z.1,q}) (λ_ _ _ q=>q) (λb o N n=>{N,λz=>n z.1}) λo b w f g p=>{{g,λz=>?_},p};subst z;show t (E.inj i j sl s b e h A o B f)
 have Q:i≠j:=λz=>by subst z;let{l,_}:=B8 f;subst l;show no C
 have T:i≠k:=λz=>by subst z;let{l,_}:=B8 g;subst l;show no I
 rw[w5 Q]at f;rw[w5 T]at g;show E.inj j k x y b f g C I p L
end
def XW(X:Cx)(e:Str)(H:Hp):Prop:=False
def RC(X:Cx)(H:Hp)(O:a5->Prop)(r:R D)(Q:VK):Prop:=match r with
 |.ok d=>∀v a,Same H a->Rep X.K a O v d->Q v a
 |.ex e=>∀a,Same H a->XW X e a
 |.bad=>False
def z7(K:gy)(H:Hp)(O:a5->Prop)(v:V)(d:D):Prop:=Rep K H O v d\/∃a b e,v=.ref a/\d=.lst e/\M4 K H a b/\Reps K H O b e
def YC(X:Cx)(H:Hp)(O:a5->Prop)(r:R D)(Q:VK):Prop:=match r with
 |.ok d=>∀v a,Same H a->z7 X.K a O v d->Q v a
 |.ex e=>∀a,Same H a->XW X e a
 |.bad=>False
def yR(X:Cx)(H:Hp)(r:R Bool)(Q:Bool->Hp->Prop):Prop:=match r with
 |.ok b=>∀a,Same H a->Q b a
 |.ex e=>∀a,Same H a->XW X e a
 |.bad=>False
def NR(X:Cx)(H:Hp)(O:a5->Prop)(r:R (List D))(Q:List V->Hp->Prop):Prop:=match r with
 |.ok d=>∀b a,Same H a->Reps X.K a O b d->Q b a
 |.ex e=>∀a,Same H a->XW X e a
 |.bad=>False
def VV(X:Cx)(H:Hp)(O:a5->Prop)(r:R (List D))(Q:List V->Hp->Prop):Prop:=match r with
 |.ok d=>∀b a,Same H a->Paired (z7 X.K a O) b d->Q b a
 |.ex e=>∀a,Same H a->XW X e a
 |.bad=>False
def tD(X:Cx)(f:Ev->R D):TE:=λb H Q=>∃d e O a,EnvOk X.K d e H O b a/\RC X H O (f a) Q
def tDB(X:Cx)(f:Ev->R D):TE:=λb H Q=>∃d e O a,EnvOk X.K d e H O b a/\YC X H O (f a) Q
def tDT(X:Cx)(f:Ev->R Bool):TT:=λb H Q=>∃d e O a,EnvOk X.K d e H O b a/\yR X H (f a) Q
def tDs(X:Cx)(f:Ev->R (List D)):TA:=λb H Q=>∃d e O a,EnvOk X.K d e H O b a/\NR X H O (f a) Q
def a7y(X:Cx)(f:Ev->R (List D)):TA:=λb H Q=>∃d e O a,EnvOk X.K d e H O b a/\VV X H O (f a) Q
def PD(X:Cx)(e:bp)(f:Ev->R D):Prop:=PE X e (tD X f)
def PB(X:Cx)(e:bp)(f:Ev->R D):Prop:=PE X e (tDB X f)
def JN(X:Cx)(e:bp)(f:Ev->R Bool):Prop:=PT X e (tDT X f)
def EA(X:Cx)(es:List bp)(f:Ev->R (List D)):Prop:=PA X es (tDs X f)
def PAB(X:Cx)(es:List bp)(f:Ev->R (List D)):Prop:=PA X es (a7y X f)
def YB{r:Hp->(a5->Prop)->Ev->VK->Prop}(h:PE X e t)(i:∀a H Q b d O ρ,EnvOk X.K b d H O a ρ->r H O ρ Q->t a H Q):PE X e λa H Q=>∃b d O ρ,EnvOk X.K b d H O a ρ/\r H O ρ Q:=λY s a H Q I q=>h Y s a H Q I (let⟨b,d,O,ρ,E,q⟩:=q;i a H Q b d O ρ E q)
def ptI{r:Hp->(a5->Prop)->Ev->(Bool->Hp->Prop)->Prop}(h:PT X e t)(i:∀a H Q b d O ρ,EnvOk X.K b d H O a ρ->r H O ρ Q->t a H Q):PT X e λa H Q=>∃b d O ρ,EnvOk X.K b d H O a ρ/\r H O ρ Q:=λY s a H Q I q=>h Y s a H Q I (let⟨b,d,O,ρ,E,q⟩:=q;i a H Q b d O ρ E q)
def paI{r:Hp->(a5->Prop)->Ev->(List V->Hp->Prop)->Prop}(h:PA X es t)(i:∀a H Q b d O ρ,EnvOk X.K b d H O a ρ->r H O ρ Q->t a H Q):PA X es λa H Q=>∃b d O ρ,EnvOk X.K b d H O a ρ/\r H O ρ Q:=λe Y s a H Q I q=>h e Y s a H Q I (let⟨b,d,O,ρ,E,q⟩:=q;i a H Q b d O ρ E q)
def wZ{β:Type}{r:Hp->(a5->Prop)->Ev->β->Prop}{G:List (a5×Obj)->ai->St->Hp->β->Prop}(h:∀Y s a H Q,Inv X Y a H s->∀b d O ρ,EnvOk X.K b d H O a ρ->r H O ρ Q->G Y s a H Q)(Y s a H Q)(I:Inv X Y a H s)(q:∃b d O ρ,EnvOk X.K b d H O a ρ/\r H O ρ Q):G Y s a H Q:=by grind
def PD.pb(h:PD X e f):PB X e f:=YB h λj H Q b g O a E q=>⟨b,g,O,a,E,by
 cases e:f a with
 |ok d=>rw[e]at q;showλv i s r=>q v i s (.inl r)
 |ex x=>rw[e]at q;show q
 |bad=>rw[e]at q;show q⟩
def RC.seq{O:a5->Prop}(h:RC X H O (r.bind g) Q):
  RC X H O r λv b=>∃d,r=.ok d/\Same H b/\Rep X.K b O v d/\RC X b O (g d) Q:=by
 cases r with
 |ok d=>
  intro v b f k;show{d,rfl,f,k,?_};have a:RC X H O (g d) Q:=h;cases e:g d with
  |ok m=>rw[e]at a;showλw i j l=>a w i (f.trans j) l
  |ex x=>rw[e]at a;showλi j=>a i (f.trans j)
  |bad=>rw[e]at a;show a
 |ex x=>show h
 |bad=>show h
def YC.seq{O:a5->Prop}(h:RC X H O (r.bind g) Q):
  YC X H O r λv b=>∃d,r=.ok d/\Same H b/\z7 X.K b O v d/\RC X b O (g d) Q:=by
 cases r with
 |ok d=>
  intro v b f k;show{d,rfl,f,k,?_};have a:RC X H O (g d) Q:=h;cases e:g d with
  |ok m=>rw[e]at a;showλw i j l=>a w i (f.trans j) l
  |ex x=>rw[e]at a;showλi j=>a i (f.trans j)
  |bad=>rw[e]at a;show a
 |ex x=>show h
 |bad=>show h
def RC.grow{O:a5->Prop}(h:RC X H O r Q)(e:Same H f):RC X f O r Q:=by
 cases r with
 |ok d=>showλw a b g=>h w a (e.trans b) g
 |ex x=>showλa b=>h a (e.trans b)
 |bad=>show h
end
section
variable [Tabs]
section
variable{X:Cx}
def z7.same(e:Same H H')(r:z7 X.K H O v d):z7 X.K H' O v d:=by
 rcases r with r|⟨a,b,f,g,h,i,j⟩
 .show .inl (r.same e)
 show .inr {a,b,f,g,h,e.seq i,j.same e}
def z7.of{K:gy}(r:Rep K H O v d):z7 K H O v d:=.inl r
def z7.aa5{K:gy}{ds:List D}(r:z7 K H O v (.lst ds)):∃a vs,v=.ref a/\M4 K H a vs/\Reps K H O vs ds:=by
 rcases r with r|⟨a,vs,g,d,b,e,f⟩
 .cases r with|lst h n r=>show{_,_,rfl,h,r}
 injection b with b;subst b;show{a,vs,d,e,f}
def z7.af2{K:gy}{N:List (D×D)}(r:z7 K H O v (.dct N)):∃a o es,v=.ref a/\H a=some (.ext λh=>h.get? a=some o)/\xD a o es/\RepsD K H O es N/\(N.map (·.1)).Nodup:=by
 rcases r with r|⟨a,e,es,f,b,g,i⟩
 .cases r with|dct h x n d r=>show{_,_,_,rfl,h,x,r,d}
 cases b
def z7.tupI{K:gy}{ds:List D}(r:z7 K H O v (.tup ds)):∃a vs,v=.ref a/\W3 K H a vs/\Reps K H O vs ds:=by
 rcases r with r|⟨a,vs,d,e,b,f,g⟩
 .cases r with|tup h r=>show{_,_,rfl,h,r}
 cases b
def z7.aa6{K:gy}{i:Int}(r:z7 K H O v (.int i)):v=.int i:=by
 rcases r with r|⟨a,d,e,f,b,g,h⟩
 .cases r;rfl
 cases b
def z7.blI{K:gy}{i:Bool}(r:z7 K H O v (.bl i)):v=.bl i:=by
 rcases r with r|⟨a,d,e,f,b,g,h⟩
 .cases r;rfl
 cases b
def z7.ac4{K:gy}(r:z7 K H O v .non):v=.non:=by
 rcases r with r|⟨a,d,e,f,b,g,h⟩
 .cases r;rfl
 cases b
def z7.ac7{K:gy}{i:Str}(r:z7 K H O v (.str i)):v=.str i:=by
 rcases r with r|⟨a,d,e,f,b,g,h⟩
 .cases r;rfl
 cases b
end
def G6(i:Nat)(ρ:Ev):R D:=match ρ[i]? with
 |some (.v d)=>.ok d
 |_=>.bad
def dG(i:Nat)(ρ:Ev):R D:=match ρ[i]? with
 |some (.v d)=>.ok d
 |some (.o a)=>.ok (.lst a)
 |_=>.bad
section
def d4(i:Nat)(a:X.N[i]?=some x<|>1)(b:CF X.env.scope x<|>5)(f:(x==gA)=false<|>2)(g:(x==gB)=false<|>2):PD X (.Name x h) (G6 i):=YB (R0 a b f g) λp H Q r s O j E q=>by
 unfold G6 at q;cases e:j[i]? with
 |none=>rw[e]at q;show q.elim
 |some k=>
  rw[e]at q;cases k with
  |no=>show q.elim
  |x C=>show q.elim
  |c m t=>show q.elim
  |d N=>show q.elim
  |o u=>show q.elim
  |v d=>let{v,l,n}:=E.val i d e;show{v,l,q v H (Same.refl H) n}
def i4(i:Nat)(h:X.N[i]?=some x<|>1)(j:CF X.env.scope x<|>5)(k:(x==gA)=false<|>2)(l:(x==gB)=false<|>2):PB X (.Name x n) (dG i):=YB (R0 h j k l) λw H Q y z O p E q=>by
 unfold dG at q;cases e:p[i]? with
 |none=>rw[e]at q;show q.elim
 |some r=>
  rw[e]at q;cases r with
  |no=>show q.elim
  |x C=>show q.elim
  |c m A=>show q.elim
  |d N=>show q.elim
  |o f=>let{a,s,b,g,B,t,u}:=E.own i f e;show{_,b,q _ H (Same.refl H) (.inr {a,s,f,rfl,rfl,M4.of t,u})}
  |v d=>let{v,b,g}:=E.val i d e;show{v,b,q v H (Same.refl H) (.inl g)}
def JC(d:D)(_:Ev):R D:=.ok d
def xZ(h:PE X e (tC v))(r:∀H O,Rep X.K H O v d):PD X e (JC d):=YB h λa H Q b f O g E q=>q v H (Same.refl H) (r H O)
def p5{j a}:PD X (.Constant (.int i) j a) (JC (.int i)):=xZ a3i λ_ _=>.int
def BN{j a}:PD X (.Constant (.bool i) j a) (JC (.bl i)):=xZ a5e λ_ _=>.bl
def ES{j a}:PD X (.Constant .none j a) (JC .non):=xZ a3x λ_ _=>.non
def mL(X:Cx)(f:af->af->Sem af)(g:D->D->R D):Prop:=
 ∀(H:Hp) (O:a5->Prop) (x y:V) (a b:D) (Q:VK),(∀p,H p=none->¬O p)->z7 X.K H O x a->z7 X.K H O y b->RC X H O (g a b) Q->∃r,pD X f r/\r x y H Q
def a8j(X:Cx)(O:a5->Prop)(g:D->D->R D)(Q:VK):V->V->Hp->Prop:=λx y H=>∃a b,(∀p,H p=none->¬O p)/\z7 X.K H O x a/\z7 X.K H O y b/\RC X H O (g a b) Q
def pS{f O:a5->Prop}(E:EnvOk X.K k f H O l ρ)(q:RC X H O ((m ρ).bind λx=>(n ρ).bind λy=>g x y) Q):
  tDB X m l H λx h=>tDB X n l h λy i=>a8j X O g Q x y i:=by
 show{k,f,O,ρ,E,?_};have a:=YC.seq q;revert a;cases I:m ρ with
 |ok t=>
  intro a x h o u;let{d,e,_,r,v}:=a x h o u;cases e;have s:=E.grow o;show{k,f,O,ρ,s,?_};have b:=YC.seq v;revert b;cases J:n ρ with
  |ok w=>intro b y i j z;let{L,e,_,A,B}:=b y i j z;cases e;show{t,w,λp C=>(s.grow j).fresh C,r.same j,A,B}
  |ex x=>intro b;show b
  |bad=>intro b;show b
 |ex x=>intro a;show a
 |bad=>intro a;show a
def rE(e:mL X (cP op) g)(f:PB X a i)(j:PB X b k):PD X (.BinOp a op b l) (λρ=>(i ρ).bind λx=>(k ρ).bind λy=>g x y):=by show wZ λY s m H Q I N T O ρ E q=>(wpAny_BinOp<|QJ f j I (pS E q) λv u n x y d o p t h=>?_);let{w,z,A,B,C,q}:=h;let{r,J,L}:=e d O x y w z Q A B C q;show J Y n m d x y v u Q o p t L
def IA(e:mL X (cT op) g)(f:PB X a i)(j:PB X b k)(l:fm op b=false:=by first|show UN _|with_unfolding_all rfl):
  PD X (.Compare a [op] [b] m) (λρ=>(i ρ).bind λx=>(k ρ).bind λy=>g x y):=by
 show wZ λY s n H Q I T U O ρ E q=>(wpAny_Compare1 (QJ f j I (pS E q) λv u o x y d p t w h=>?_) l);let{z,A,B,C,J,q}:=h;let{r,L,N}:=e d O x y z A Q B C J q;show L Y o n d x y v u Q p t w N
def AG:D->R Bool
 |.bl b=>.ok b
 |_=>.bad
def zV{O:a5->Prop}{Q:Bool->Hp->Prop}(h:yR X H (r.bind AG) Q):RC X H O r λv a=>∃c,v=.bl c/\Q c a:=by
 cases r with
 |ok d=>
  cases d with
  |bl b=>intro v a e f;cases f;show{b,rfl,h a e}
  |_=>show(h).elim
 |ex x=>show h
 |bad=>show h
def k9(f:mL X (cT op) g)(i:PB X a j)(l:PB X b m)(n:fm op b=false:=by first|show UN _|with_unfolding_all rfl):
  JN X (.Compare a [op] [b] o) (λρ=>((j ρ).bind λx=>(m ρ).bind λy=>g x y).bind AG):=by
 show wZ λY s p H Q I H9 O0 O ρ E q=>?_;have t:=zV (O:=O) q;show wpAny_isTrue_Compare1 (QJ i l I (pS E t) λv u w x y d A B C h=>?_) n;let{J,L,N,T,U,q}:=h;let{r,hr,hq}:=f d O x y J L _ N T U q;show G4 (hr Y w p d x y v u _ A B C hq) λc s3 z9=>?_;let{z,H3,I3,r3,k,e,q3}:=z9;subst e;cases r3;show aBN {H3,I3,q3}
def xX(h:PD X e f)(a:(∀whole,isTrue e X.env whole=(do let v<-whole;standAt e.pos;fh [v] (truthy v)))<|>7):JN X e (λρ=>(f ρ).bind AG):=by show ptI (a2i h a) λg H Q b d O ρ E q=>{b,d,O,ρ,E,zV q}
def yR.seq{Q:Bool->Hp->Prop}(h:yR X H (r.bind g) Q):yR X H r λb f=>r=.ok b/\Same H f/\yR X f (g b) Q:=by
 cases r with
 |ok d=>
  intro f i;show{rfl,i,?_};have a:yR X H (g d) Q:=h;cases e:g d with
  |ok l=>rw[e]at a;showλj k=>a j (i.trans k)
  |ex x=>rw[e]at a;showλj k=>a j (i.trans k)
  |bad=>rw[e]at a;show a
 |ex x=>show h
 |bad=>show h
def yR.ag6{O:a5->Prop}(h:RC X H O (r.bind g) Q):yR X H r λb a=>r=.ok b/\Same H a/\RC X a O (g b) Q:=by
 cases r with
 |ok d=>intro a e;show{rfl,e,?_};have f:RC X H O (g d) Q:=h;show f.grow e
 |ex x=>show h
 |bad=>show h
def yR.mono{Q e:Bool->Hp->Prop}(h:yR X H r Q)(i:∀b a,Q b a->e b a):yR X H r e:=by
 cases r with
 |ok d=>showλa f=>i _ _ (h a f)
 |ex x=>show h
 |bad=>show h
def RC.mono{O:a5->Prop}(h:RC X H O r Q)(i:∀b a,Q b a->e b a):RC X H O r e:=by
 cases r with
 |ok d=>showλv a f g=>i _ _ (h v a f g)
 |ex x=>show h
 |bad=>show h
def MP(X:Cx)(e:bp)(f:Ev->R Bool):Prop:=PW X e (tDT X f)
def TK(f g:Ev->R Bool):Ev->R Bool:=λa=>(f a).bind λb=>if b=true then g a else .ok false
def orB(f g:Ev->R Bool):Ev->R Bool:=λa=>(f a).bind λb=>if b=true then .ok true else g a
def a9j(f:Ev->R Bool):Ev->R Bool:=λa=>(f a).bind λb=>.ok (!b)
variable{rest:List bp}
def CB(b:JN X a f):MP X (.BoolOp .And [a] d) f:=YU b
def yO(b:JN X a f):MP X (.BoolOp .Or [a] d) f:=a0t b
def PY(h:PW X e t)(i:∀a H Q,t' a H Q->t a H Q):PW X e t':=λb Y s a H Q I q=>h b Y s a H Q I (i a H Q q)
def KR(k:JN X a f)(l:MP X (.BoolOp .And (b::rest) d) g):MP X (.BoolOp .And (a::b::rest) d) (TK f g):=
 PY (a2g k l) λo H Q ⟨e,h,O,i,E,q⟩=>⟨e,h,O,i,E,yR.mono (yR.seq q)<|by
  rintro b m ⟨_,n,j⟩;cases b with
  |true=>rw[gi rfl];show{e,h,O,i,E.grow n,j}
  |false=>rw[gk aBH];show j m (Same.refl _)⟩
def HD(k:JN X a f)(l:MP X (.BoolOp .Or (b::rest) d) g):MP X (.BoolOp .Or (a::b::rest) d) (orB f g):=
 PY (a6l k l) λo H Q ⟨e,h,O,i,E,q⟩=>⟨e,h,O,i,E,yR.mono (yR.seq q)<|by
  rintro b m ⟨_,n,j⟩;cases b with
  |false=>rw[gk aBH];show{e,h,O,i,E.grow n,j}
  |true=>rw[gi rfl];show j m (Same.refl _)⟩
def MP.pt(h:MP X e f):JN X e f:=PW.pt h
def JB(d:JN X a f):JN X (.UnaryOp .Not a e) (a9j f):=
 ptI (a0x d) λl H Q g h O i E q=>{g,h,O,i,E,yR.mono (yR.seq q)<|by rintro b j ⟨_,m,k⟩;show k j (Same.refl _)}
def a3e(f:Ev->R D)(g:Ev->R D):Ev->R D:=λa=>((f a).bind AG).bind λb=>if b=true then g a else .ok (.bl false)
def a3c{op}{f:Ev->R D}(h:PD X a f):PD X (.BoolOp op [a] b) f:=a3t h
def a1n{f g:Ev->R D}(l:PD X a f)(m:PD X (.BoolOp .And (b::rest) d) g):PD X (.BoolOp .And (a::b::rest) d) (a3e f g):=
 YB (a0l l m) λp H Q h i O j E q=>⟨h,i,O,j,E,RC.mono (zV<|yR.ag6 q) λv n ⟨c,e,_,o,k⟩=>⟨c,e,by
  cases c with
  |true=>rw[gi rfl];show{h,i,O,j,E.grow o,k}
  |false=>rw[gk aBH];show k _ n (Same.refl _) .bl⟩⟩
def a3a:D->R D
 |.int i=>.ok (.int (-i))
 |_=>.bad
def aR{f:Ev->R D}(e:PD X a f):PD X (.UnaryOp .USub a g) (λρ=>(f ρ).bind a3a):=
 YB (a6t a1j e) λn H Q h j O ρ E q=>⟨h,j,O,ρ,E,by
  show RC.mono (RC.seq q) λv k l=>?_;let{d,_,o,m,b}:=l;cases d with
  |int i=>cases m;show{i,rfl,b _ k (Same.refl _) .int}
  |_=>show(show False from b).elim⟩
def NR.seq{H:Hp}{O:a5->Prop}{r:R (List D)}{g:List D->R D}{Q:VK}(h:RC X H O (r.bind g) Q):
  NR X H O r λv a=>∃d,r=.ok d/\Same H a/\Reps X.K a O v d/\RC X a O (g d) Q:=by
 cases r with
 |ok d=>showλv a b e=>{d,rfl,b,e,(h).grow b}
 |ex x=>show h
 |bad=>show h
def NR.mono{O:a5->Prop}{Q e:List V->Hp->Prop}(h:NR X H O r Q)(i:∀b a,Q b a->e b a):NR X H O r e:=by
 cases r with
 |ok d=>showλv a f g=>i _ _ (h v a f g)
 |ex x=>show h
 |bad=>show h
def VV.seq{H:Hp}{O:a5->Prop}{r:R (List D)}{g:List D->R D}{Q:VK}(h:RC X H O (r.bind g) Q):
  VV X H O r λv a=>∃d,r=.ok d/\Same H a/\Paired (z7 X.K a O) v d/\RC X a O (g d) Q:=by
 cases r with
 |ok d=>showλv a b e=>{d,rfl,b,e,(h).grow b}
 |ex x=>show h
 |bad=>show h
def YC.mono{O:a5->Prop}(h:YC X H O r Q)(i:∀b a,Q b a->e b a):YC X H O r e:=by
 cases r with
 |ok d=>showλv a f g=>i _ _ (h v a f g)
 |ex x=>show h
 |bad=>show h
def j8(f:Ev->R D)(g:Ev->R (List D)):Ev->R (List D):=λa=>(f a).bind λd=>(g a).bind λb=>.ok (d::b)
def N0:Ev->R (List D):=λ_=>.ok []
def k8:EA X [] N0:=paI dD λa H Q b d O e E q=>q [] H (Same.refl _) .nil
def d9{f:Ev->R D}{g:Ev->R (List D)}(n:PD X e f)(o:EA X es g)(p:ag (e::es) X.env=(false,cu e X.env)::ag es X.env<|>1):EA X (e::es) (j8 f g):=
 paI (M1 n o p) λu H Q l m O a E q=>⟨l,m,O,a,E,by
  unfold j8 at q;cases h:f a with
  |ok d=>
   rw[h]at q;intro v w i r;show{l,m,O,a,E.grow i,?_};cases j:g a with
   |ok y=>rw[j]at q;showλs k b t=>q (v::s) k (i.trans b) (.cons (r.same b) t)
   |ex x=>rw[j]at q;showλk b=>q k (i.trans b)
   |bad=>rw[j]at q;show q
  |ex x=>rw[h]at q;show q
  |bad=>rw[h]at q;show q⟩
def w9:PAB X [] N0:=paI dD λa H Q b d O e E q=>q [] H (Same.refl _) .nil
def o7{f:Ev->R D}{g:Ev->R (List D)}(n:PB X e f)(o:PAB X es g)(p:ag (e::es) X.env=(false,cu e X.env)::ag es X.env<|>1):PAB X (e::es) (j8 f g):=
 paI (M1 n o p) λu H Q l m O a E q=>⟨l,m,O,a,E,by
  unfold j8 at q;cases h:f a with
  |ok d=>
   rw[h]at q;intro v w i r;show{l,m,O,a,E.grow i,?_};cases j:g a with
   |ok y=>rw[j]at q;showλs k b t=>q (v::s) k (i.trans b) (.cons (r.same b) t)
   |ex x=>rw[j]at q;showλk b=>q k (i.trans b)
   |bad=>rw[j]at q;show q
  |ex x=>rw[h]at q;show q
  |bad=>rw[h]at q;show q⟩
def fB(ds:List D):R D:=if ds.length<=sizeLine then .ok (.tup ds)else .bad
def RW(ds:List D):R D:=if ds.length<=sizeLine then .ok (.lst ds)else .bad
def RQ{f:Ev->R (List D)}{e}(h:EA X es f):PD X (.Tuple es e g) (λρ=>(f ρ).bind fB):=
 YB (a3y h) λl H Q i j O ρ E q=>⟨i,j,O,ρ,E,NR.mono (NR.seq q)<|by
  rintro m n ⟨o,_,r,b,a⟩;unfold fB at a;split at a
  .rename_i k;show{by rw[b.length];show k,λp d=>a (.ref p) _ (j1 d _) (.tup (W3.of i9) (b.same<|j1 d _))}
  show a.elim⟩
def jE{f:Ev->R (List D)}(h:EA X es f):PD X (.List es e) (λρ=>(f ρ).bind RW):=
 YB (XS h) λl H Q g i O ρ E q=>⟨g,i,O,ρ,E,NR.mono (NR.seq q)<|by
  rintro m n ⟨o,_,j,d,a⟩;unfold RW at a;split at a
  .rename_i k;show{by rw[d.length];show k,λp b=>a (.ref p) _ (j1 b _) (.lst (M4.of i9) ((E.grow j).fresh b) (d.same<|j1 b _))}
  show a.elim⟩
def iP(X:Cx)(f:af)(g:List D->R D):Prop:=
 ∀(H:Hp) (O:a5->Prop) (a:List V) (b:List D) (Q:VK),(∀p,H p=none->¬O p)->Paired (z7 X.K H O) a b->RC X H O (g b) Q->∃r,AJ X f r/\r a H Q
def fL{x:Str}{id:String}{p:Pos}{f:Ev->R (List D)}{g:List D->R D}(k:iP X (.builtin id) g)(l:PAB X (e::es) f)(m:Gl X x<|>1)(n:X.mg x=none<|>4)(o:cp x=some (.builtin id)<|>3)(t:x≠ "__name__"<|>2)
  (u:(x==gA)=false<|>2) (v:ag (e::es) X.env=(false,cu e X.env)::ag es X.env<|>1) (G9:(cq a (ag es X.env)).any (·.1)=false<|>1):
  PD X (.Call (.Name x p) (e::es) [] a) (λρ=>(f ρ).bind g):=by
 show wZ λY s b H Q I w y O ρ E q=>(aBb<|P4 I m n o ?_ t u);show aBQ (G4 (l a Y s b H _ I {w,y,O,ρ,E,VV.seq q}) λA B z=>?_) v G9;let{i,j,C,J,d,_,L,r,h}:=z;let{r',N,T}:=k j O i d Q (λp U=>(E.grow L).fresh U) r h;show N Y B b j i A Q C J T
def D5{x:Str}{T:String}{p:Pos}{f:Ev->R (List D)}{g:List D->R D}(k:iP X (.type T) g)(l:PAB X (e::es) f)(m:Gl X x<|>1)(n:X.mg x=none<|>4)(o:cp x=some (.type T)<|>3)(t:x≠ "__name__"<|>2)
  (u:(x==gA)=false<|>2) (v:ag (e::es) X.env=(false,cu e X.env)::ag es X.env<|>1) (G9:(cq a (ag es X.env)).any (·.1)=false<|>1):
  PD X (.Call (.Name x p) (e::es) [] a) (λρ=>(f ρ).bind g):=by
 show wZ λY s b H Q I w y O ρ E q=>(aBb<|P4 I m n o ?_ t u);show aBl (G4 (l a Y s b H _ I {w,y,O,ρ,E,VV.seq q}) λA B z=>?_) v G9;let{i,j,C,J,d,_,L,r,h}:=z;let{r',N,U}:=k j O i d Q (λp hp=>(E.grow L).fresh hp) r h;show N Y B b j i A Q C J U
end
mutual
def w8:D->D->Bool
 |.non,.non=>true
 |.bl a,.bl b=>a==b
 |.bl a,.int b=>(if a then 1 else 0)==b
 |.int a,.bl b=>a==(if b then 1 else 0)
 |.int a,.int b=>a==b
 |.str a,.str b=>a==b
 |.tup d,.tup e=>aS d e
 |.lst d,.lst e=>aS d e
 |.dct _,.dct _=>true
 |_,_=>false
def aS:List D->List D->Bool
 |[],[]=>true
 |x::a,y::b=>w8 x y&&aS a b
 |_,_=>false
end
mutual
def D6:D->Nat
 |.tup a=>y9 a+1
 |.lst a=>y9 a+1
 |.dct _=>cf
 |_=>0
def y9:List D->Nat
 |[]=>0
 |x::a=>max (D6 x) (y9 a)
end
mutual
theorem O5:∀d:D,w8 d d=true:=by
 intro e;cases e with
 |non=>simp[w8]
 |bl b=>simp[w8]
 |int i=>simp[w8]
 |str x=>simp[w8]
 |tup a=>rw[w8];show nM a
 |lst a=>rw[w8];show nM a
 |dct=>simp[w8]
theorem nM:∀ds:List D,aS ds ds=true
 |[]=>by simp[aS]
 |x::a=>by rw[aS,O5 x,nM a];rfl
end
def oN(xs d:List D)(j:Nat):Bool:=match xs[j]?,d[j]? with
 |some a,some b=>w8 a b
 |_,_=>false
theorem jO:∀(xs a:List D),aS xs a=((aBI (min xs.length a.length)).all (oN xs a)&&(xs.length==a.length))
 |[],[]=>by simp[aS]
 |[],_::_=>by simp[aS]
 |_::_,[]=>by simp[aS]
 |x::xs,y::a=>by
  rw[aS,jO xs a,aAp,aAp,Nat.succ_min_succ,aFJ,aGp,List.all_map];have b:oN (x::xs) (y::a) 0=w8 x y:=rfl;have d:(oN (x::xs) (y::a)∘Nat.succ)=oN xs a:=by
   funext j
   simp[oN]
  have e:(xs.length+1==a.length+1)=(xs.length==a.length):=by rw[aDH];simp
  rw[b,d,e,Bool.and_assoc]
theorem pM:∀{xs:List D}{d:D}{j:Nat},xs[j]?=some d->D6 d<=y9 xs:=by
 intro a d b h;cases a with
 |nil=>simp at h
 |cons x xs=>
  cases b with
  |zero=>simp at h;subst h;show Nat.le_max_left _ _
  |succ j=>rw[y9];show aAj (pM (j:=j) (by exists h)) (Nat.le_max_right _ _)
section
def GV{K:gy}{H:Hp}{O:a5->Prop}{a:a5}{d:D}(h:Rep K H O (.ref a) d):(∃vs ds,d=.tup ds/\W3 K H a vs/\Reps K H O vs ds)\/(∃vs ds,d=.lst ds/\M4 K H a vs/\Reps K H O vs ds)\/(∃N,d=.dct N/\∃(o:Obj) (es:List dz),H a=some (.ext λh=>h.get? a=some o)/\xD a o es/\RepsD K H O es N):=by
 cases h with
 |tup h r=>show .inl {_,_,rfl,h,r}
 |lst h n r=>show .inr (.inl {_,_,rfl,h,r})
 |dct h x n b r=>show .inr (.inr {_,rfl,_,_,h,x,r})
def a0e(I:Inv X Y f H s)(h:W3 X.K H a vs)(h':M4 X.K H a ws):False:=by let{d,_,p,_}:=I.tuple h;let{b,_,e,_}:=I.list h';show gs rfl (SeqAt.ne_of_list_tuple e.isList p)
def zw{o:Obj}(I:Inv X Y d H s)(h':W3 X.K H a vs)(h:H a=some (.ext λh=>h.get? a=some o))(x:o.ExactDict):False:=by let{b,_,{f,g,c,_},_}:=I.tuple h';have e:s.heap.get? _=some _:=(I.hok _ _ h).1;rw[g]at e;cases e;show gs (c.symm.trans x.1) (by symm)
def yq{o:Obj}(I:Inv X Y d H s)(h':M4 X.K H a vs)(h:H a=some (.ext λh=>h.get? a=some o))(x:o.ExactDict):False:=by let{b,_,p,_}:=I.list h';let{f,g,c,_}:=p.isList;have e:s.heap.get? _=some _:=(I.hok _ _ h).1;rw[g]at e;cases e;show gs (c.symm.trans x.1) (by symm)
mutual
theorem Rep.inj(I:Inv X Y t H s):∀{v:V}{d:D},Rep X.K H O v d->∀{d':D},Rep X.K H u v d'->d=d':=by
 intro _ _ j;cases j with
 |non=>intro _ h;cases h;rfl
 |bl=>intro _ h;cases h;rfl
 |int=>intro _ h;cases h;rfl
 |str=>intro _ h;cases h;rfl
 |tup h r=>
  intro _ f;rcases GV f with⟨_,_,rfl,a,b⟩|⟨_,_,rfl,a,_⟩|⟨_,rfl,_,_,a,x,_⟩
  .have e:=I.ab7 h a;subst e;rw[Reps.inj I r b]
  .show(a0e I h a).elim
  show(zw I h a x.2.1).elim
 |lst h _ r=>
  intro _ f;rcases GV f with⟨_,_,rfl,a,_⟩|⟨_,_,rfl,a,b⟩|⟨_,rfl,_,_,a,x,_⟩
  .show(a0e I a h).elim
  .have e:=I.aa8 h a;subst e;rw[Reps.inj I r b]
  show(yq I h a x.2.1).elim
 |dct h x _ _ r=>
  intro _ f;rcases GV f with⟨_,_,rfl,a,_⟩|⟨_,_,rfl,a,_⟩|⟨_,rfl,_,_,a,k,b⟩
  .show(zw I a h x.2.1).elim
  .show(yq I a h x.2.1).elim
  have l:s.heap.get? _=some _:=(I.hok _ _ h).1;have g:s.heap.get? _=some _:=(I.hok _ _ a).1;rw[l]at g;injection g with g;subst g;let{_,_,w,y,m,n}:=x;let{_,_,o,p,i,q}:=k;rw[m]at i;injection i with i _;subst i;rw[<-n]at r;rw[<-q]at b;rw[RepsD.inj I r b]
theorem Reps.inj(I:Inv X Y g H s):∀{v:List V}{d:List D},Reps X.K H O v d->∀{d':List D},Reps X.K H i v d'->d=d':=by
 intro _ _ a;cases a with
 |nil=>intro _ h;cases h;rfl
 |cons h t=>
  intro _ b;cases b with
  |cons e f=>rw[Rep.inj I h e,Reps.inj I t f]
theorem RepsD.inj(I:Inv X Y o H s):∀{es:List dz}{N:List (D×D)},RepsD X.K H O es N->∀{e:List (D×D)},RepsD X.K H p es e->N=e
 |_,_,.nil=>λh=>by cases h;rfl
 |_,_,.cons g i j k q t=>λl=>by
  cases l with
  |cons f a b d m n=>rw[g]at f;cases f;cases RelV.inj j b;rw[Rep.inj I i a,Rep.inj I k d,RepsD.inj I t n]
end
def pN(A:be)(s:ai)(us ws:List af)(xs a:List D):Prop:=∀(j:Nat) (u w:af),us[j]?=some u->ws[j]?=some w->SeqAt.EqAt A.in1 s u w (oN xs a j)
def BX(f:s.heap.IsList l us.toArray)(g:s.heap.IsList b ws.toArray)(e1:us.length=xs.length)(e2:ws.length=d.length)(h:A.units<cf)(m:pN A s us ws xs d):SeqAt.RcAt A s (.ref l) (.ref b) (aS xs d)/\SeqAt.RcNeAt A s (.ref l) (.ref b) (!aS xs d):=by
 rw[jO];by_cases a:xs.length=d.length
 .have e:us.toArray.size=ws.toArray.size:=by simp[e1,e2,a]
  have n:min xs.length d.length=us.toArray.size:=by simp[e1,a]
  have i:(xs.length==d.length)=true:=by simp[a]
  have k:∀j (o:j<us.toArray.size) (p:j<ws.toArray.size),SeqAt.EqAt A.in1 s us.toArray[j] ws.toArray[j] (oN xs d j):=λj o p=>m j _ _ (by simp) (by simp);rw[i,Bool.and_true,n];show{SeqAt.RcAt.lists f g e h k,SeqAt.RcNeAt.lists f g e h k}
 have e:(us.toArray.size !=ws.toArray.size)=true:=by simp[e1,e2,a]
 have i:(xs.length==d.length)=false:=by simp[a]
 rw[i,aGd];show{SeqAt.RcAt.lists_lengths f g e h,SeqAt.RcNeAt.lists_lengths f g e h}
def nT(d:IsTup s.heap l us.toArray)(e:IsTup s.heap b ws.toArray)(e1:us.length=xs.length)(e2:ws.length=a.length)(f:A.units<cf)(k:pN A s us ws xs a):SeqAt.RcAt A s (.ref l) (.ref b) (aS xs a)/\SeqAt.RcNeAt A s (.ref l) (.ref b) (!aS xs a):=by
 rw[jO];have m:min xs.length a.length=min us.toArray.size ws.toArray.size:=by simp[e1,e2]
 have n:(xs.length==a.length)=(us.toArray.size==ws.toArray.size):=by simp[e1,e2]
 have g:∀j (h:j<us.toArray.size) (i:j<ws.toArray.size),SeqAt.EqAt A.in1 s us.toArray[j] ws.toArray[j] (oN xs a j):=λj h i=>k j _ _ (by simp[aAk (show j<us.length by exists h)]) (by simp[aAk (show j<ws.length by exists i)]);rw[n,m];show{SeqAt.RcAt.tuples d e f g,SeqAt.RcNeAt.tuples d e f g}
def p6(A:be):A.in1.units=A.units+1:=rfl
mutual
theorem XN(I:Inv X Y σ H s):∀{x y:V}{q w:D}{v u:af}{A:be},Rep X.K H O x q->Rep X.K H O' y w->RelV x v->RelV y u->A.units+D6 q<cf->A.units+D6 w<cf->SeqAt.EqAt A s v u (w8 q w):=by
 intro _ _ _ _ v u A L k l d z i;cases L with
 |non=>
  have b:A.units<cf:=by lia
  cases l;cases k with
  |dct=>show gs i (by rw[D6];lia)
  |non=>cases d;show aEh _
  |bl=>cases d;erw[w8];show SeqAt.EqAt.none_bool _
  |int=>let{t,rfl}:=d;erw[w8];show SeqAt.EqAt.none_int _ _
  |str=>let{t,rfl}:=d;erw[w8];show SeqAt.EqAt.none_str _ _
  |tup h r=>cases d;let{_,_,p,_}:=I.tuple h;erw[w8];show SeqAt.EqAt.none_tuple p b
  |lst h _ r=>cases d;let{_,_,p,_}:=I.list h;erw[w8];show SeqAt.EqAt.none_list p.isList b
 |bl=>
  have b:A.units<cf:=by lia
  cases l;cases k with
  |dct=>show gs i (by rw[D6];lia)
  |non=>cases d;erw[w8];show SeqAt.EqAt.bool_none _
  |bl=>cases d;erw[w8];show SeqAt.EqAt.bool_bool _ _
  |int=>let{t,rfl}:=d;erw[w8];show SeqAt.EqAt.bool_int _ _ _
  |str=>let{t,rfl}:=d;erw[w8];show SeqAt.EqAt.bool_str _ _ _
  |tup h r=>cases d;let{_,_,p,_}:=I.tuple h;erw[w8];show SeqAt.EqAt.bool_tuple _ p b
  |lst h _ r=>cases d;let{_,_,p,_}:=I.list h;erw[w8];show SeqAt.EqAt.bool_list _ p.isList b
 |int=>
  have b:A.units<cf:=by lia
  let{N,rfl}:=l;cases k with
  |dct=>show gs i (by rw[D6];lia)
  |non=>cases d;erw[w8];show SeqAt.EqAt.int_none _ _
  |bl=>cases d;erw[w8];show SeqAt.EqAt.int_bool _ _ _
  |int=>let{t,rfl}:=d;erw[w8];show aFg _ _ _ _
  |str=>let{t,rfl}:=d;erw[w8];show aGn _ _ _ _
  |tup h r=>cases d;let{_,_,p,_}:=I.tuple h;erw[w8];show aFY _ _ p b
  |lst h _ r=>cases d;let{_,_,p,_}:=I.list h;erw[w8];show SeqAt.EqAt.int_list _ _ p.isList b
 |str=>
  have b:A.units<cf:=by lia
  let{N,rfl}:=l;cases k with
  |dct=>show gs i (by rw[D6];lia)
  |non=>cases d;erw[w8];show SeqAt.EqAt.str_none _ _
  |bl=>cases d;erw[w8];show SeqAt.EqAt.str_bool _ _ _
  |int=>let{t,rfl}:=d;erw[w8];show aGo _ _ _ _
  |str=>let{t,rfl}:=d;erw[w8];show SeqAt.EqAt.str_str _ _ _ _
  |tup h r=>cases d;let{_,_,p,_}:=I.tuple h;erw[w8];show SeqAt.EqAt.str_tuple _ _ p b
  |lst h _ r=>cases d;let{_,_,p,_}:=I.list h;erw[w8];show SeqAt.EqAt.str_list _ _ p.isList b
 |@tup a Q T h r=>
  have b:A.units<cf:=by lia
  cases l;let{B,m,p,_}:=I.tuple h;cases k with
  |dct=>show gs i (by rw[D6];lia)
  |non=>cases d;erw[w8];show SeqAt.EqAt.tuple_none p b
  |bl=>cases d;erw[w8];show SeqAt.EqAt.tuple_bool _ p b
  |int=>let{t,rfl}:=d;erw[w8];show aFZ _ _ p b
  |str=>let{t,rfl}:=d;erw[w8];show SeqAt.EqAt.tuple_str _ _ p b
  |@tup C U cb f g=>
   cases d;let{n,o,j,_}:=I.tuple f;by_cases e:a=C
   .subst e;have E:=I.ab7 h f;subst E;have J:=Reps.inj I r g;subst J;rw[O5];show aEh _
   erw[w8];show aFh e (nT p j (by rw[<-m.length,r.length]) (by rw[<-o.length,g.length]) b<|kI I r g m o ?_ ?_).1
   .rw[D6]at z;rw[p6];lia
   rw[D6]at i;rw[p6];lia
  |lst f _ g=>cases d;let{_,_,j,_}:=I.list f;erw[w8];show SeqAt.EqAt.tuple_list p j.isList b
 |@lst a Q T h nO r=>
  have b:A.units<cf:=by lia
  cases l;let{B,m,p,_}:=I.list h;cases k with
  |dct=>show gs i (by rw[D6];lia)
  |non=>cases d;erw[w8];show SeqAt.EqAt.list_none p.isList b
  |bl=>cases d;erw[w8];show SeqAt.EqAt.list_bool _ p.isList b
  |int=>let{t,rfl}:=d;erw[w8];show SeqAt.EqAt.list_int _ _ p.isList b
  |str=>let{t,rfl}:=d;erw[w8];show SeqAt.EqAt.list_str _ _ p.isList b
  |tup f g=>cases d;let{_,_,j,_}:=I.tuple f;erw[w8];show SeqAt.EqAt.list_tuple p.isList j b
  |@lst C U cb f nO' g=>
   cases d;let{n,o,j,_}:=I.list f;by_cases e:a=C
   .subst e;have E:=I.aa8 h f;subst E;have J:=Reps.inj I r g;subst J;rw[O5];show aEh _
   erw[w8];show aFh e (BX p.isList j.isList (by rw[<-m.length,r.length]) (by rw[<-o.length,g.length]) b<|kI I r g m o ?_ ?_).1
   .rw[D6]at z;rw[p6];lia
   rw[D6]at i;rw[p6];lia
 |dct=>show gs z (by rw[D6];lia)
theorem kI(I:Inv X Y x H s):∀{vs ws:List V}{xs d:List D}{us e:List af}{A:be},Reps X.K H O vs xs->Reps X.K H y ws d->l7 vs us->l7 ws e->A.in1.units+y9 xs<cf->A.in1.units+y9 d<cf->pN A s us e xs d:=by
 intro _ _ _ _ us e A l m i k n o j u w a b;cases l with
 |nil=>cases i;simp at a
 |cons h t=>
  cases m with
  |nil=>cases k;simp at b
  |cons p q=>
   cases i with
   |cons r v=>
    cases k with
    |cons f g=>
     rw[y9]at n o;cases j with
     |zero=>erw[aDg,aGs]at a b;subst a b;show XN I h p r f (by lia) (by lia)
     |succ j=>erw[aFA]at a b;show kI I (A:=A) t q v g (by lia) (by lia) j u w a b
end
def a5q(I:Inv X Y T H s)(n:z7 X.K H O x B)(d:z7 X.K H U y g)(o:RelV x v)(e:RelV y u)(C:A.units+D6 B<cf)(k:A.units+D6 g<cf):
  SeqAt.RcAt A s v u (w8 B g)/\SeqAt.RcNeAt A s v u (!w8 B g):=by
 have b:A.units<cf:=by lia
 cases B with
 |dct=>show gs C (by rw[D6];lia)
 |non=>
  cases n.ac4;cases o;cases g with
  |dct=>show gs k (by rw[D6];lia)
  |non=>cases d.ac4;cases e;erw[w8];show{SeqAt.RcAt.none_none,SeqAt.RcNeAt.none_none}
  |bl=>cases d.blI;cases e;erw[w8];show{SeqAt.RcAt.none_bool _,SeqAt.RcNeAt.none_bool _}
  |int=>cases d.aa6;let{t,rfl}:=e;erw[w8];show{SeqAt.RcAt.none_int _ _,SeqAt.RcNeAt.none_int _ _}
  |str=>cases d.ac7;let{t,rfl}:=e;erw[w8];show{SeqAt.RcAt.none_str _ _,SeqAt.RcNeAt.none_str _ _}
  |tup f=>let{a,i,rfl,h,r}:=d.tupI;cases e;let{_,_,p,_}:=I.tuple h;erw[w8];show{SeqAt.RcAt.none_tuple p b,SeqAt.RcNeAt.none_tuple p b}
  |lst f=>let{a,i,rfl,h,r}:=d.aa5;cases e;let{_,_,p,_}:=I.list h;erw[w8];show{SeqAt.RcAt.none_list p.isList b,SeqAt.RcNeAt.none_list p.isList b}
 |bl=>
  cases n.blI;cases o;cases g with
  |dct=>show gs k (by rw[D6];lia)
  |non=>cases d.ac4;cases e;erw[w8];show{SeqAt.RcAt.bool_none _,SeqAt.RcNeAt.bool_none _}
  |bl=>cases d.blI;cases e;erw[w8];show{SeqAt.RcAt.bool_bool _ _,SeqAt.RcNeAt.bool_bool _ _}
  |int=>cases d.aa6;let{t,rfl}:=e;erw[w8];show{SeqAt.RcAt.bool_int _ _ _,SeqAt.RcNeAt.bool_int _ _ _}
  |str=>cases d.ac7;let{t,rfl}:=e;erw[w8];show{SeqAt.RcAt.bool_str _ _ _,SeqAt.RcNeAt.bool_str _ _ _}
  |tup f=>let{a,i,rfl,h,r}:=d.tupI;cases e;let{_,_,p,_}:=I.tuple h;erw[w8];show{SeqAt.RcAt.bool_tuple _ p b,SeqAt.RcNeAt.bool_tuple _ p b}
  |lst f=>let{a,i,rfl,h,r}:=d.aa5;cases e;let{_,_,p,_}:=I.list h;erw[w8];show{SeqAt.RcAt.bool_list _ p.isList b,SeqAt.RcNeAt.bool_list _ p.isList b}
 |int=>
  cases n.aa6;let{N,rfl}:=o;cases g with
  |dct=>show gs k (by rw[D6];lia)
  |non=>cases d.ac4;cases e;erw[w8];show{SeqAt.RcAt.int_none _ _,SeqAt.RcNeAt.int_none _ _}
  |bl=>cases d.blI;cases e;erw[w8];show{SeqAt.RcAt.int_bool _ _ _,SeqAt.RcNeAt.int_bool _ _ _}
  |int=>cases d.aa6;let{t,rfl}:=e;erw[w8];show{SeqAt.RcAt.int_int _ _ _ _,SeqAt.RcNeAt.int_int _ _ _ _}
  |str=>cases d.ac7;let{t,rfl}:=e;erw[w8];show{SeqAt.RcAt.int_str _ _ _ _,SeqAt.RcNeAt.int_str _ _ _ _}
  |tup f=>let{a,i,rfl,h,r}:=d.tupI;cases e;let{_,_,p,_}:=I.tuple h;erw[w8];show{SeqAt.RcAt.int_tuple _ _ p b,SeqAt.RcNeAt.int_tuple _ _ p b}
  |lst f=>let{a,i,rfl,h,r}:=d.aa5;cases e;let{_,_,p,_}:=I.list h;erw[w8];show{SeqAt.RcAt.int_list _ _ p.isList b,SeqAt.RcNeAt.int_list _ _ p.isList b}
 |str=>
  cases n.ac7;let{N,rfl}:=o;cases g with
  |dct=>show gs k (by rw[D6];lia)
  |non=>cases d.ac4;cases e;erw[w8];show{SeqAt.RcAt.str_none _ _,SeqAt.RcNeAt.str_none _ _}
  |bl=>cases d.blI;cases e;erw[w8];show{SeqAt.RcAt.str_bool _ _ _,SeqAt.RcNeAt.str_bool _ _ _}
  |int=>cases d.aa6;let{t,rfl}:=e;erw[w8];show{SeqAt.RcAt.str_int _ _ _ _,SeqAt.RcNeAt.str_int _ _ _ _}
  |str=>cases d.ac7;let{t,rfl}:=e;erw[w8];show{SeqAt.RcAt.str_str _ _ _ _,SeqAt.RcNeAt.str_str _ _ _ _}
  |tup f=>let{a,i,rfl,h,r}:=d.tupI;cases e;let{_,_,p,_}:=I.tuple h;erw[w8];show{SeqAt.RcAt.str_tuple _ _ p b,SeqAt.RcNeAt.str_tuple _ _ p b}
  |lst f=>let{a,i,rfl,h,r}:=d.aa5;cases e;let{_,_,p,_}:=I.list h;erw[w8];show{SeqAt.RcAt.str_list _ _ p.isList b,SeqAt.RcNeAt.str_list _ _ p.isList b}
 |tup Q=>
  let{a,i,rfl,h,r}:=n.tupI;cases o;let{E,q,p,_}:=I.tuple h;cases g with
  |dct=>show gs k (by rw[D6];lia)
  |non=>cases d.ac4;cases e;erw[w8];show{SeqAt.RcAt.tuple_none p b,SeqAt.RcNeAt.tuple_none p b}
  |bl=>cases d.blI;cases e;erw[w8];show{SeqAt.RcAt.tuple_bool _ p b,SeqAt.RcNeAt.tuple_bool _ p b}
  |int=>cases d.aa6;let{t,rfl}:=e;erw[w8];show{SeqAt.RcAt.tuple_int _ _ p b,SeqAt.RcNeAt.tuple_int _ _ p b}
  |str=>cases d.ac7;let{t,rfl}:=e;erw[w8];show{SeqAt.RcAt.tuple_str _ _ p b,SeqAt.RcNeAt.tuple_str _ _ p b}
  |tup f=>
   let{J,L,rfl,l,m}:=d.tupI;cases e;let{w,z,j,_}:=I.tuple l;erw[w8];show nT p j (by rw[<-q.length,r.length]) (by rw[<-z.length,m.length]) b (kI I r m q z ?_ ?_)
   .rw[D6]at C;rw[p6];lia
   rw[D6]at k;rw[p6];lia
  |lst f=>let{J,L,rfl,l,m}:=d.aa5;cases e;let{_,_,j,_}:=I.list l;erw[w8];show{SeqAt.RcAt.tuple_list p j.isList b,SeqAt.RcNeAt.tuple_list p j.isList b}
 |lst Q=>
  let{a,i,rfl,h,r}:=n.aa5;cases o;let{E,q,p,_}:=I.list h;cases g with
  |dct=>show gs k (by rw[D6];lia)
  |non=>cases d.ac4;cases e;erw[w8];show{SeqAt.RcAt.list_none p.isList b,SeqAt.RcNeAt.list_none p.isList b}
  |bl=>cases d.blI;cases e;erw[w8];show{SeqAt.RcAt.list_bool _ p.isList b,SeqAt.RcNeAt.list_bool _ p.isList b}
  |int=>cases d.aa6;let{t,rfl}:=e;erw[w8];show{SeqAt.RcAt.list_int _ _ p.isList b,SeqAt.RcNeAt.list_int _ _ p.isList b}
  |str=>cases d.ac7;let{t,rfl}:=e;erw[w8];show{SeqAt.RcAt.list_str _ _ p.isList b,SeqAt.RcNeAt.list_str _ _ p.isList b}
  |tup f=>let{J,L,rfl,l,m}:=d.tupI;cases e;let{_,_,j,_}:=I.tuple l;erw[w8];show{SeqAt.RcAt.list_tuple p.isList j b,SeqAt.RcNeAt.list_tuple p.isList j b}
  |lst f=>
   let{J,L,rfl,l,m}:=d.aa5;cases e;let{w,z,j,_}:=I.list l;erw[w8];show BX p.isList j.isList (by rw[<-q.length,r.length]) (by rw[<-z.length,m.length]) b (kI I r m q z ?_ ?_)
   .rw[D6]at C;rw[p6];lia
   rw[D6]at k;rw[p6];lia
end
def KZ(x y:D):R D:=if D6 x<=40/\D6 y<=40 then .ok (.bl (w8 x y))else .bad
def UE(x y:D):R D:=if D6 x<=40/\D6 y<=40 then .ok (.bl (!w8 x y))else .bad
section
def bC(p:X.A.units+64<cf):mL X (cT .Eq) KZ:=by
 intro H O x y f g Q r h i q;unfold KZ at q;split at q
 .rename_i t;show{λa b d e=>a=x/\b=y/\d=H/\e (.bl (w8 f g)) H,?_,rfl,rfl,rfl,q _ H (Same.refl _) .bl};intro Y s w d a b v u e I j k ⟨l,m,n,o⟩;subst l m n;show(a5q I h i j k (by lia) (by lia)).1 _ _ _ _ {.bl _,_,I,rfl,o}
 show q.elim
def lC(p:X.A.units+64<cf):mL X (cT .NotEq) UE:=by
 intro H O x y f g Q r h i q;unfold UE at q;split at q
 .rename_i t;show{λa b d e=>a=x/\b=y/\d=H/\e (.bl (!w8 f g)) H,?_,rfl,rfl,rfl,q _ H (Same.refl _) .bl};intro Y s w d a b v u e I j k ⟨l,m,n,o⟩;subst l m n;show(a5q I h i j k (by lia) (by lia)).2 _ _ _ _ {.bl _,_,I,rfl,o}
 show q.elim
end
def pF:D->D->R D
 |.int a,.int b=>.ok (.int (a+b))
 |.lst a,.lst b=>if a.length+b.length<=sizeLine then .ok (.lst (a++b))else .bad
 |.tup [],.tup b=>.ok (.tup b)
 |.tup (x::a),.tup []=>if(x::a).length<=sizeLine then .ok (.tup (x::a))else .bad
 |.tup (x::a),.tup (y::b)=>if(x::a).length+(y::b).length<=sizeLine then .ok (.tup ((x::a)++(y::b)))else .bad
 |_,_=>.bad
def IK:D->D->R D
 |.int a,.int b=>.ok (.int (a-b))
 |_,_=>.bad
def n4(a b:Int):Prop:=aBg a<=60000000/\aBg b<=60000000
instance(a b:Int):Decidable (n4 a b):=inferInstanceAs (Decidable<|_/\_)
def dM:D->D->R D
 |.int a,.int b=>if n4 a b then .ok (.int (a*b))else .bad
 |_,_=>.bad
def CT(b:Int):Prop:=b≠0/\aBg b<=9000
instance(b:Int):Decidable (CT b):=inferInstanceAs (Decidable<|_/\_)
def iG:D->D->R D
 |.int a,.int b=>if CT b then .ok (.int (a.fdiv b))else .bad
 |_,_=>.bad
def BP:D->D->R D
 |.int a,.int b=>if b≠0 then .ok (.int (a.fmod b))else .bad
 |_,_=>.bad
def HX:D->D->R D
 |.int a,.int b=>if 0<=b/\b<=1000000/\a.natAbs<2^64 then .ok (.int (a^b.toNat))else .bad
 |_,_=>.bad
def ltR:D->D->R D
 |.int a,.int b=>.ok (.bl (decide (a<b)))
 |_,_=>.bad
def leR:D->D->R D
 |.int a,.int b=>.ok (.bl (decide (a<=b)))
 |_,_=>.bad
def gtR:D->D->R D
 |.int a,.int b=>.ok (.bl (decide (b<a)))
 |_,_=>.bad
def NQ(h0:b≠0)(h:aBg b<=n):b.natAbs.log2<n:=by
 unfold aBg at h;split at h
 .rename_i z;show gs (by exists z) h0
 omega
def WO(h:n4 a b):IntMulOk a b:=mulOk_of_bits (m:=60000000) (n:=60000000) h.1 h.2 (by symm)
section
def mL.aa7{f:af->af->Sem af}{g:D->D->R D}{C:Int->Int->Prop}{w:Int->Int->V}{dw:Int->Int->D}(h:pD X f (rI C w))(k:∀a b d,g a b=.ok d->∃i j,a=.int i/\b=.int j/\C i j/\d=dw i j)
  (l:∀a b e,g a b≠.ex e) (m:∀K H O i j,Rep K H O (w i j) (dw i j)):mL X f g:=by
 intro H O x y a b Q r n o q;cases e:g a b with
 |ok d=>rw[e]at q;let{i,j,rfl,rfl,p,rfl}:=k a b d e;cases n.aa6;cases o.aa6;show{_,h,i,j,rfl,rfl,p,q _ H (Same.refl _) (m _ _ _ _ _)}
 |ex x=>show gs e (l _ _ _)
 |bad=>rw[e]at q;show q.elim
def pD.c0(h:pD X f (vq w)):pD X f (rI (λ_ _=>True) w):=by rintro Y s a H x y v u Q I b d ⟨i,j,e,g,_,q⟩;show h Y s a H x y v u Q I b d {i,j,e,g,q}
def a0m:mL X (cP .Sub) IK:=mL.aa7 (dw:=λi j=>.int (i-j)) (pD.c0 a2u) (λa b d h=>by cases a<;>cases b<;>erw[IK,R.ok.injEq,reduceCtorEq]at h;show{_,_,rfl,rfl,trivial,h.symm}) (λa b e h=>by cases a<;>cases b<;>erw[IK,reduceCtorEq]at h) λ_ _ _ _ _=>.int
def XY:mL X (cT .Lt) ltR:=mL.aa7 (dw:=λi j=>.bl (decide (i<j))) (pD.c0 a6q) (λa b d h=>by cases a<;>cases b<;>erw[ltR,R.ok.injEq,reduceCtorEq]at h;show{_,_,rfl,rfl,trivial,h.symm}) (λa b e h=>by cases a<;>cases b<;>erw[ltR,reduceCtorEq]at h) λ_ _ _ _ _=>.bl
def a5d:mL X (cT .LtE) leR:=mL.aa7 (dw:=λi j=>.bl (decide (i<=j))) (pD.c0 a6u) (λa b d h=>by cases a<;>cases b<;>erw[leR,R.ok.injEq,reduceCtorEq]at h;show{_,_,rfl,rfl,trivial,h.symm}) (λa b e h=>by cases a<;>cases b<;>erw[leR,reduceCtorEq]at h) λ_ _ _ _ _=>.bl
def AN:mL X (cT .Gt) gtR:=mL.aa7 (dw:=λi j=>.bl (decide (j<i))) (pD.c0 a4o) (λa b d h=>by cases a<;>cases b<;>erw[gtR,R.ok.injEq,reduceCtorEq]at h;show{_,_,rfl,rfl,trivial,h.symm}) (λa b e h=>by cases a<;>cases b<;>erw[gtR,reduceCtorEq]at h) λ_ _ _ _ _=>.bl
def RA:pD X (cP .FloorDiv) (rI (λ_ j=>CT j) λi j=>.int (i.fdiv j)):=opI λ_ _ _ _ _ _ _ a q=>floordiv_int a.1 q (.inl (PyProof.noPylong_of_log2<|NQ a.1 a.2))
def aq:mL X (cP .FloorDiv) iG:=mL.aa7 (dw:=λi j=>.int (i.fdiv j)) RA (λa b d h=>by
 cases a<;>cases b<;>erw[iG,reduceCtorEq]at h;split at h
 .rename_i f;cases h;show{_,_,rfl,rfl,f,rfl}
 cases h) (λa b e h=>by
 cases a<;>cases b<;>erw[iG,reduceCtorEq]at h;split at h<;>cases h) λ_ _ _ _ _=>.int
def a1h:mL X (cP .Mod) BP:=mL.aa7 (dw:=λi j=>.int (i.fmod j)) qj (λa b d h=>by
 cases a<;>cases b<;>erw[BP,reduceCtorEq]at h;split at h
 .rename_i f;cases h;show{_,_,rfl,rfl,f,rfl}
 cases h) (λa b e h=>by
 cases a<;>cases b<;>erw[BP,reduceCtorEq]at h;split at h<;>cases h) λ_ _ _ _ _=>.int
def a0v:mL X (cP .Pow) HX:=mL.aa7 (dw:=λi j=>.int (i^j.toNat)) a2y (λa b d h=>by
 cases a<;>cases b<;>erw[HX,reduceCtorEq]at h;split at h
 .rename_i f;cases h;show{_,_,rfl,rfl,f,rfl}
 cases h) (λa b e h=>by
 cases a<;>cases b<;>erw[HX,reduceCtorEq]at h;split at h<;>cases h) λ_ _ _ _ _=>.int
def ck:pD X (cP .Mult) (rI n4 λi j=>.int (i*j)):=opI λ_ _ _ _ _ _ _ a q=>mul_int q (WO a)
def a2k:mL X (cP .Mult) dM:=mL.aa7 (dw:=λi j=>.int (i*j)) ck (λa b d h=>by
 cases a<;>cases b<;>erw[dM,reduceCtorEq]at h;split at h
 .rename_i f;cases h;show{_,_,rfl,rfl,f,rfl}
 cases h) (λa b e h=>by
 cases a<;>cases b<;>erw[dM,reduceCtorEq]at h;split at h<;>cases h) λ_ _ _ _ _=>.int
def ay:pD X (cP .Add) (λx y H Q=>∃l b xs e,x=.ref l/\y=.ref b/\M4 X.K H l xs/\M4 X.K H b e/\xs.length+e.length<=sizeLine/\∀p,H p=none->Q (.ref p) (upd H p (.lst (xs++e)))):=by
 intro Y s σ H x y v u Q I A B h;let{l,b,xs,e,rfl,rfl,C,E,J,q}:=h;cases A;cases B;let{a,r,p,_}:=I.list C;let{f,i,L,_}:=I.list E;let{{N,O,j,T},k,m,n,o}:=p.isList;let{{t,U,data2,um},w,z,n2,d}:=L.isList;simp only at m o z d;subst m o z d;have g:a.toArray.size+f.toArray.size<=sizeLine:=by rw[aAX,aAX,<-r.length,<-i.length];show J
 have ea:a.toArray++f.toArray=(a++f).toArray:=by simp
 show aFQ {_,k,rfl} {_,w,rfl} noFill_list_add seq_list_add PySem.F.slot_list_add PySem.F.entry_list_add (PySem.F.args_list_add_2 _ _) (list_addW l b a.toArray f.toArray n n2 O U T um g) {k,w,?_};rw[ea];show{.ref _,_,I.ag7 (t':=s.toks) (r.append i) (by rw[aAx];omega),rfl,q _ I.fresh}
def QR:pD X (cP .Add) (λx y H Q=>∃a b e,x=.ref a/\y=.ref b/\W3 X.K H a []/\W3 X.K H b e/\Q (.ref b) H):=by intro Y s U H x y v u Q I o p h;let{t,b,e,rfl,rfl,r,w,q}:=h;cases o;cases p;let{z,A,B,_}:=I.tuple r;let{ws,r2,C,_}:=I.tuple w;cases A;let{{E,J,f,L},g,i,n,j}:=B;let{{k,N,data2,O},l,m,T,d}:=C;simp only at i j m d;subst i j m d;show aFQ {_,g,rfl} {_,l,rfl} aFF seq_tuple_add PySem.F.slot_tuple_add PySem.F.entry_tuple_add (PySem.F.args_tuple_add_2 _ _) (tuple_addW0 t b _ _ n T J N L O (by simp)) {g,l,.ref b,H,I,rfl,q}
def rC:mL X (cP .Add) pF:=by
 intro H O x y v t Q w o r q;cases v with
 |int i=>
  cases t with
  |int j=>cases o.aa6;cases r.aa6;show{_,a2d,i,j,rfl,rfl,q _ H (Same.refl _) .int}
  |_=>show(q).elim
 |lst a=>
  cases t with
  |lst b=>
   erw[pF]at q;split at q
   .rename_i s;let{l,f,rfl,g,d}:=o.aa5;let{k,m,rfl,h,e}:=r.aa5;show{_,ay,l,k,f,m,rfl,rfl,g,h,by rw[d.length,e.length];show s,λp n=>q _ _ (j1 n _) (.lst (M4.of i9) (w p n) ((d.append e).same (j1 n _)))}
   show q.elim
  |_=>show(q).elim
 |tup a=>
  cases t with
  |tup b=>
   cases a with
   |nil=>let{l,f,rfl,g,d}:=o.tupI;let{k,m,rfl,h,e}:=r.tupI;cases d;show{_,QR,l,k,m,rfl,rfl,g,h,q _ H (Same.refl _) (.tup h e)}
   |cons x a=>
    cases b with
    |nil=>
     let{l,f,rfl,g,d}:=o.tupI;let{k,m,rfl,h,e}:=r.tupI;cases e;have u:f≠[]:=λz=>by subst z;have:=d.length;simp at this
     erw[pF]at q;split at q
     .rename_i s;show{_,LL,l,k,f,[],rfl,rfl,g,h,u,by rw[d.length];show s,λ_=>q _ H (Same.refl _) (.tup g d),λz=>gs rfl z}
     show q.elim
    |cons y b=>
     erw[pF]at q;split at q
     .rename_i s;let{l,f,rfl,g,d}:=o.tupI;let{k,m,rfl,h,e}:=r.tupI;have u:f≠[]:=λz=>by subst z;have:=d.length;simp at this
      have A:m≠[]:=λz=>by subst z;have:=e.length;simp at this
      show{_,LL,l,k,f,m,rfl,rfl,g,h,u,by rw[d.length,e.length];show s,λz=>gs z A,λ_ p n=>q _ _ (j1 n _) (.tup (W3.of i9) ((d.append e).same (j1 n _)))}
     show q.elim
  |_=>cases a<;>show(q).elim
 |_=>show(q).elim
def W6(x y:D):R D:=match x,y with
 |.lst a,.int i=>match tY a i with|some d=>.ok d|none=>.bad
 |.tup a,.int i=>match tY a i with|some d=>.ok d|none=>.bad
 |_,_=>.bad
def BH{K:gy}{H:Hp}{O:a5->Prop}{vs:List V}{ds:List D}{i:Int}{d:D}(r:Reps K H O vs ds)(h:tY ds i=some d):∃v,tY vs i=some v/\Rep K H O v d:=by
 unfold tY at h⊢;rw[r.length];cases e:zk ds.length i with
 |none=>nofun
 |some j=>rw[e]at h;show r.get h
def SE(T:PB X a f)(U:PD X b g)(t:jw b:=by showλ_ _=>rfl):PD X (.Subscript a b pos) (λρ=>(f ρ).bind λx=>(g ρ).bind λy=>W6 x y):=by
 show wZ λY s z H Q I H9 O0 O ρ E q=>?_;show Subscript_ (QJ T U.pb I (pS E q) λv u A x y j B C J h=>?_);let{L,dy,fr,N,r2,q}:=h;cases dy with
 |int i=>
  cases r2.aa6;cases L with
  |lst k=>
   erw[W6]at q;cases e:tY k i with
   |none=>rw[e]at q;show q.elim
   |some d=>rw[e]at q;let{p,l,rfl,m,n}:=N.aa5;let{w,o,r}:=BH n e;show tw a b Y A z j _ _ v u Q B C J {p,l,i,w,rfl,rfl,m,o,q w j (Same.refl _) r} (t _ _)
  |tup k=>
   erw[W6]at q;cases e:tY k i with
   |none=>rw[e]at q;show q.elim
   |some d=>rw[e]at q;let{p,l,rfl,m,n}:=N.tupI;let{w,o,r}:=BH n e;show a0h a b Y A z j _ _ v u Q B C J {p,l,i,w,rfl,rfl,m,o,q w j (Same.refl _) r} (t _ _)
  |_=>show(q).elim
 |_=>cases L<;>show(q).elim
def cutD(xs:List D)(lo a:Option Int):List D:=(xs.drop<|HT.sIx xs.length 0 lo).take (HT.sIx xs.length xs.length a-HT.sIx xs.length 0 lo)
def wN{K:gy}{H:Hp}{O:a5->Prop}{vs:List V}{ds:List D}{lo a:Option Int}(r:Reps K H O vs ds):Reps K H O (MD vs lo a) (cutD ds lo a):=by unfold MD cutD;rw[r.length];show(r.drop _).take _
def PTO(X:Cx)(e:Option bp)(f:Ev->R (Option Int)):Prop:=PO X e λd H Q=>∃g h O b,EnvOk X.K g h H O d b/\match f b with
 |.ok o=>∀a,Same H a->Q o a
 |.ex e=>∀a,Same H a->XW X e a
 |.bad=>False
def toI:D->R (Option Int)
 |.int i=>.ok (some i)
 |_=>.bad
def X0:PTO X none (λ_=>.ok none):=by rintro Y s a H Q I ⟨b,d,O,e,E,q⟩;show mw Y s a H Q I (q H<|Same.refl _)
def Y7(h:PD X e f):PTO X (some e) (λρ=>(f ρ).bind toI):=by rintro Y s a H Q I ⟨b,g,O,ρ,E,q⟩;show tq h Y s a H Q I ⟨b,g,O,ρ,E,by
 dsimp only at q;cases e:f ρ with
 |ok d=>
  rw[e]at q;cases d with
  |int i=>showλv j k l=>by cases l;show{i,rfl,q j k}
  |_=>show(q).elim
 |ex x=>rw[e]at q;show q
 |bad=>rw[e]at q;show q⟩
def PP(x:D)(lo b:Option Int):R D:=match x with
 |.lst a=>.ok (.lst (cutD a lo b))
 |.tup a=>if HT.sIx a.length 0 lo=0/\HT.sIx a.length a.length b=a.length then .bad else .ok (.tup (cutD a lo b))
 |_=>.bad
def qF{lo A:Option bp}{B:Pos}{k m:Ev->R (Option Int)}(C:PB X a f)(J:PTO X lo k)(L:PTO X A m):
  PD X (.Subscript a (.Slice lo A none B) N) (λρ=>(f ρ).bind λx=>(k ρ).bind λl=>(m ρ).bind λh=>PP x l h):=by
 show wZ λY s T H Q I n o O ρ E q=>?_;have t:∀x d l h g,z7 X.K g O x d->(∀p,g p=none->¬O p)->RC X g O (PP d l h) Q->a4q X.K x l h g Q\/a6o X.K x l h g Q:=λx d l h g r U q=>by
  cases d with
  |lst xs=>let{p,u,rfl,v,j}:=r.aa5;show .inl {p,u,rfl,v,λp b=>q _ _ (j1 b _) (.lst (M4.of i9) (U p b) ((wN j).same (j1 b _)))}
  |tup xs=>
   let{p,u,rfl,v,j}:=r.tupI;erw[PP]at q;split at q
   .show q.elim
   rename_i hn;show .inr {p,u,rfl,v,by rw[j.length];show hn,λp b=>q _ _ (j1 b _) (.tup (W3.of i9) ((wN j).same (j1 b _)))}
  |_=>show(q).elim
 show SY (ZH.or a1x) C J L Y s T H Q I {n,o,O,ρ,E,?_};dsimp only at q;cases w:f ρ with
 |ok d=>
  rw[w]at q;intro x H1 s1 r1;show{n,o,O,ρ,E.grow s1,?_};cases y:k ρ with
  |ok l=>
   rw[y]at q;intro H2 s2;show{n,o,O,ρ,(E.grow s1).grow s2,?_};cases z:m ρ with
   |ok h=>rw[z]at q;intro i e;have q':RC X H O (PP d l h) Q:=q;show t x d l h i ((r1.same s2).same e) (λp b=>(((E.grow s1).grow s2).grow e).fresh b) (q'.grow<|s1.trans<|s2.trans e)
   |ex x=>rw[z]at q;showλi e=>q i (s1.trans<|s2.trans e)
   |bad=>rw[z]at q;show q
  |ex x=>rw[y]at q;showλi e=>q i (s1.trans e)
  |bad=>rw[y]at q;show q
 |ex x=>rw[w]at q;show q
 |bad=>rw[w]at q;show q
def PQ{K:gy}{H:Hp}{O:a5->Prop}{vs:List V}{d:D}(r:Paired (z7 K H O) vs [d]):∃v,vs=[v]/\z7 K H O v d:=by
 cases r with
 |cons a b=>cases b;show{_,rfl,a}
def pr2{K:gy}{H:Hp}{O:a5->Prop}{vs:List V}{d d':D}(r:Paired (z7 K H O) vs [d,d']):∃v a,vs=[v,a]/\z7 K H O v d/\z7 K H O a d':=by
 cases r with
 |cons b f=>let{a,e,g}:=PQ f;subst e;show{_,_,rfl,b,g}
def OL:List D->R D
 |[.lst a]=>.ok (.int a.length)
 |[.tup a]=>.ok (.int a.length)
 |_=>.bad
def jM:iP X (.builtin "len") OL:=by
 intro H O g e Q h r q;match e,q with
 |[.lst f],q=>let{v,rfl,z}:=PQ r;let{p,a,rfl,b,d}:=z.aa5;show{_,kE,p,a,rfl,.inl b,q _ H (Same.refl _) (d.length▸.int)}
 |[.tup f],q=>let{v,rfl,z}:=PQ r;let{p,a,rfl,b,d}:=z.tupI;show{_,kE,p,a,rfl,.inr b,q _ H (Same.refl _) (d.length▸.int)}
def a5i:List D->R D
 |[.int i]=>.ok (.int (if i<0 then-i else i))
 |_=>.bad
def WH:iP X (.builtin "abs") a5i:=by
 intro H O b a Q d r q;match a,q with
 |[.int i],q=>let{v,rfl,z}:=PQ r;cases z.aa6;show{_,SX,i,rfl,q _ H (Same.refl _) .int}
def RG:List D->R D
 |[.lst a]=>.ok (.tup a)
 |[.tup a]=>.ok (.tup a)
 |_=>.bad
def TQ:iP X (.type "tuple") RG:=by
 intro H O h f Q i r q;match f,q with
 |[.lst g],q=>let{v,rfl,z}:=PQ r;let{p,b,rfl,a,d}:=z.aa5;show{_,iM,p,b,rfl,.inl {a,λl e=>q _ _ (j1 e _) (.tup (W3.of i9) (d.same<|j1 e _))}}
 |[.tup g],q=>let{v,rfl,z}:=PQ r;let{p,b,rfl,a,d}:=z.tupI;show{_,iM,p,b,rfl,.inr {a,q _ _ (Same.refl _) (.tup a d)}}
def a4s:List D->R D
 |[.lst a]=>.ok (.lst a)
 |[.tup a]=>.ok (.lst a)
 |_=>.bad
def T4:iP X (.type "list") a4s:=by
 intro H O i g Q f r q;match g,q with
 |[.lst h],q=>let{v,rfl,z}:=PQ r;let{p,b,rfl,d,e}:=z.aa5;show{_,kN,p,b,rfl,.inl d,λl a=>q _ _ (j1 a _) (.lst (M4.of i9) (f l a) (e.same<|j1 a _))}
 |[.tup h],q=>let{v,rfl,z}:=PQ r;let{p,b,rfl,d,e}:=z.tupI;show{_,kN,p,b,rfl,.inr d,λl a=>q _ _ (j1 a _) (.lst (M4.of i9) (f l a) (e.same<|j1 a _))}
def tyD:D->String
 |.non=> "NoneType"|.bl _=> "bool"|.int _=> "int"|.str _=> "str"|.tup _=> "tuple"|.lst _=> "list"|.dct _=> "dict"
def XJ(T:String)(d:D):Bool:=tyD d==T||(T== "int"&&tyD d== "bool")
def LO(T:String):Prop:=∀(K:gy) (d:D),PySem.W.kitOne K (.type (tyD d)) (.type T)=some (XJ T d)
def MA:LO "tuple":=λK d=>by cases d<;>with_unfolding_all rfl
def UX:LO "list":=λK d=>by cases d<;>with_unfolding_all rfl
def kw{O:a5->Prop}(I:Inv X Y k H s)(m:LO T)(r:z7 X.K H O v d)(f:RelV v u)(q:Q (.bl (XJ T d)) H):
  a9 (ba X.prog X.w) X.A (call (.builtin "isinstance") [u,.type T]) (EP X Y k Q) X.xe s:=by
 have e:=m X.K d;have b:∀l,EP X Y k Q (.bool (XJ T d)) {s with toks:=l}:=λl=>{.bl _,H,I.tok _,rfl,q};cases d with
 |non=>cases r.ac4;cases f;show PySem.W.kia_one PySem.W.kitx_none I.kIn aGt e (λz=>nomatch z) b
 |bl=>cases r.blI;cases f;show PySem.W.kia_one PySem.W.kitx_bool I.kIn aGt e (λz=>nomatch z) b
 |int=>cases r.aa6;let{t,rfl}:=f;show PySem.W.kia_one PySem.W.kitx_int I.kIn aGt e (λz=>nomatch z) b
 |str=>cases r.ac7;let{t,rfl}:=f;show PySem.W.kia_one PySem.W.kitx_str I.kIn aGt e (λz=>nomatch z) b
 |tup y=>let{a,B,rfl,h,_}:=r.tupI;cases f;let{g,_,p,_}:=I.tuple h;let{o,i,j,_}:=p;show PySem.W.kia_one PySem.W.kitx_tuple I.kIn {o,i,j} e (λz=>nomatch z) b
 |lst y=>let{a,B,rfl,h,_}:=r.aa5;cases f;let{g,_,p,_}:=I.list h;let{o,n,i,j,_}:=p;show PySem.W.kia_one PySem.W.kitx_list I.kIn {o,i,j} e (λz=>nomatch z) b
 |dct=>let{a,o,C,rfl,h,x,_}:=r.af2;cases f;show PySem.W.kia_one PySem.W.kitx_dict I.kIn {o,(I.hok _ _ h).1,x.2.1.1} e (λz=>nomatch z) b
def QE(o:LO T)(t:PB X a f)(y:cp x=some (.type T)<|>3)(z:X.mg "isinstance"=none<|>4)(i:X.mg x=none<|>4)(A:Gl X "isinstance"<|>1)(j:Gl X x<|>1)(B:(x==gA)=false<|>2)(C:x≠ "__name__"<|>2)(m:ag [a,.Name x pt] X.env=(false,cu a X.env)::ag [.Name x pt] X.env<|>1)(J:ag [Expr.Name x pt] X.env=[(false,cu (.Name x pt) X.env)]<|>1)(G9:(cq b (ag [Expr.Name x pt] X.env)).any (·.1)=false<|>1):
  PD X (.Call (.Name "isinstance" p) [a,.Name x pt] [] b) (λρ=>(f ρ).bind λd=>.ok (.bl (XJ T d))):=by
 show wZ λY s L H Q I N U O ρ E q=>(aBb (P4 (u:=.builtin "isinstance") I A z (by decide+kernel) ?_));have hb:PE X (.Name x pt) (tC<|.ty T):=ZD j i y rfl C B;have h:=M1 t (M1 hb dD (by rw[J];rfl)) m b Y s L H (λn g=>∃v d,n=[v,.ty T]/\z7 X.K g O v d/\Q (.bl (XJ T d)) g) I {N,U,O,ρ,E,by show YC.mono (YC.seq q) λv g k=>?_;let{d,_,s1,l,h1}:=k;show{v,d,rfl,l,h1 _ g (Same.refl _) .bl}}
 show aBQ (G4 h λus s1 k=>?_) m G9;let{n,g,I1,l,v,d,e,r,h}:=k;subst e;let{u,w,rfl,ru,zd}:=vals2 l;cases zd;show kw I1 o r ru h
end
section
variable{K:gy}
def Kp.lst(k:Kp H O H' d){a:a5}{xs:List V}(n:¬O a)(h:M4 K H a xs)(f:∀o,K.lookup a=some o->¬d a):¬d a/\M4 K H' a xs:=by
 rcases h with(h|⟨o,h⟩)|h
 .show{(k _ _ h n).2,.inl (.inl (k _ _ h n).1)}
 .show{(k _ _ h n).2,.inl (.inr {o,(k _ _ h n).1})}
 let{o,b,m,e,g}:=h;show{f o e,.inr {o,b,m,e,g}}
def Kp.tup(k:Kp H O H' d)(b:∀a,O a->∃o,H a=some o/\Mt o){a:a5}{xs:List V}(h:W3 K H a xs):W3 K H' a xs:=by
 rcases h with(h|⟨o,h⟩)|h
 .show .inl (.inl (k _ _ h λz=>by let{o,q,m}:=b a z;rw[h]at q;cases q;show m).1)
 .show .inl (.inr {o,(k _ _ h λz=>by let{o,q,m}:=b a z;rw[h]at q;cases q;show m).1})
 show .inr h
end
def V9(K:gy)(O:a5->Prop):Prop:=∀a o,K.lookup a=some o->¬O a
def Kp.rep{K:gy}{H H':Hp}{O b:a5->Prop}(k:Kp H O H' b)(e:∀a,O a->∃o,H a=some o/\Mt o)(f:V9 K b){v:V}{d:D}(r:Rep K H O v d):Rep K H' b v d:=
 r.mono (λ_ _ h=>k.tup e h) (λa _ n h=>k.lst n h λo q=>f a o q) λa _ n h=>{(k a _ h n).2,(k a _ h n).1}
def Kp.ab8{K:gy}{H H':Hp}{O b:a5->Prop}(k:Kp H O H' b)(e:∀a,O a->∃o,H a=some o/\Mt o)(f:V9 K b){v:List V}{d:List D}(r:Reps K H O v d):Reps K H' b v d:=
 r.mono (λ_ _ h=>k.tup e h) (λa _ n h=>k.lst n h λo q=>f a o q) λa _ n h=>{(k a _ h n).2,(k a _ h n).1}
inductive Out where
 |nx (ρ:Ev)|rt (d:D)|bk (ρ:Ev)|ct (ρ:Ev)
def RS(X:Cx)(g:Hp)(i:a5->Prop)(H:Hp)(O:a5->Prop)(r:R Out)(D:Ends):Prop:=match r with
 |.ok (.nx h)=>∀f a b,EnvOk X.K g i a b f h->V9 X.K b->Kp H O a b->D.nx f a
 |.ok (.bk h)=>∀f a b,EnvOk X.K g i a b f h->V9 X.K b->Kp H O a b->D.bk f a
 |.ok (.ct h)=>∀f a b,EnvOk X.K g i a b f h->V9 X.K b->Kp H O a b->D.ct f a
 |.ok (.rt d)=>∀v a,Same g a->Rep X.K a i v d->D.rt v a
 |.ex e=>∀a,Same g a->XW X e a
 |.bad=>False
def tS(X:Cx)(a:Hp)(b:a5->Prop)(F:Ev->R Out):TS:=λD e H=>∃O d,EnvOk X.K a b H O e d/\V9 X.K O/\RS X a b H O (F d) D
def nU(X:Cx)(st:br)(F:Ev->R Out):Prop:=∀a b,PS X st (tS X a b F)
def aK(X:Cx)(st:List br)(F:Ev->R Out):Prop:=∀a b,uF X st (tS X a b F)
def a2r{X:Cx}{st:br}{t t':TS}(h:PS X st t)(i:∀D a H,t' D a H->t D a H):PS X st t':=λY s a H D I q=>h Y s a H D I (i D a H q)
def kF{X:Cx}{st:List br}{t t':TS}(h:uF X st t)(i:∀D a H,t' D a H->t D a H):uF X st t':=λY s a H D I q=>h Y s a H D I (i D a H q)
def HB{X:Cx}{st:br}{t:TS}{F:Ev->R Out}{b:Hp}{d:a5->Prop}(h:PS X st t)(i:∀D a H O ρ,EnvOk X.K b d H O a ρ->V9 X.K O->RS X b d H O (F ρ) D->t D a H):PS X st (tS X b d F):=a2r h λD a H ⟨O,ρ,E,f,q⟩=>i D a H O ρ E f q
def a6f{X:Cx}{st:List br}{t:TS}{F:Ev->R Out}{b:Hp}{d:a5->Prop}(h:uF X st t)(i:∀D a H O ρ,EnvOk X.K b d H O a ρ->V9 X.K O->RS X b d H O (F ρ) D->t D a H):uF X st (tS X b d F):=kF h λD a H ⟨O,ρ,E,f,q⟩=>i D a H O ρ E f q
def RS.grow{X:Cx}{i:Hp}{j:a5->Prop}{H l:Hp}{O m:a5->Prop}{r:R Out}{D:Ends}(h:RS X i j H O r D)(k:Kp H O l m):RS X i j l m r D:=by
 cases r with
 |ok o=>
  cases o with
  |nx n=>showλa b g E f q=>h a b g E f (k.trans q)
  |bk n=>showλa b g E f q=>h a b g E f (k.trans q)
  |ct n=>showλa b g E f q=>h a b g E f (k.trans q)
  |rt d=>show h
 |ex e=>show h
 |bad=>show h
def B7(r:R Out)(F:Ev->R Out):R Out:=match r with
 |.ok (.nx a)=>F a
 |r=>r
section
variable{st:br}{rest:List br}
def RS.seq{a:Hp}{b:a5->Prop}{H:Hp}{O:a5->Prop}{r:R Out}{D:Ends}(h:RS X a b H O (B7 r G) D):RS X a b H O r {D with nx:=tS X a b G D}:=by
 cases r with
 |ok o=>
  cases o with
  |nx g=>showλj l i E f k=>{i,g,E,f,(h).grow k}
  |bk g=>show h
  |ct g=>show h
  |rt d=>show h
 |ex e=>show h
 |bad=>show h
def u0:aK X [] (λρ=>.ok (.nx ρ)):=λb d=>a6f ZB λD a H O ρ E f q=>q a H O E f (Kp.refl _ _)
def c6(d:nU X st F)(e:aK X rest G):aK X (st::rest) (λρ=>B7 (F ρ) G):=λa b=>a6f (rL (d a b)<|e a b) λD g H O ρ E f q=>{O,ρ,E,f,RS.seq q}
def d5(a:nU X st F):aK X [st] F:=λb d=>qA (a b d)
def i7{e:bp}{f:Ev->R D}(g:PD X e f):nU X (.Return (some e) h) (λρ=>(f ρ).bind λd=>.ok (.rt d)):=λi j=>HB (xE g) λD k H O ρ E l q=>⟨i,j,O,ρ,E,by
 cases a:f ρ with
 |ok d=>rw[a]at q;showλv b s r=>q v b (E.same.trans s) (r.sub E.sub)
 |ex x=>rw[a]at q;showλb s=>q b (E.same.trans s)
 |bad=>rw[a]at q;show q⟩
def i5(i:Nat){x:Str}{e:bp}{f:Ev->R D}{a:Pos}(j:PD X e f)(k:X.N.Nodup)(l:X.N[i]?=some x<|>1)(m:Loc X.env.scope x<|>8)
  (n:dq e (some (.Name x a)) b.line X.env=pure false<|>1) (o:X.fn x=true\/X.env.scope.names.lookup x=some .local<|>6):
  nU X (.Assign [.Name x a] e b) (λρ=>(f ρ).bind λd=>.ok (.nx (ρ.set i (.v d)))):=λp t=>HB (XA k l m j n o) λD w H O ρ E u q=>⟨p,t,O,ρ,E,by
 cases g:f ρ with
 |ok d=>rw[g]at q;showλv h s r=>q _ h O ((E.grow s).set i r) u (Kp.of s)
 |ex x=>rw[g]at q;showλh s=>q h (E.same.trans s)
 |bad=>rw[g]at q;show q⟩
def C1{c:bp}{a b:List br}{d:Ev->R Bool}(j:JN X c d)(k:aK X a F)(l:aK X b G):nU X (.If c a b m) (λρ=>(d ρ).bind λt=>if t=true then F ρ else G ρ):=λe f=>HB (a6d j (k e f)<|l e f) λD n H O ρ E h q=>⟨e,f,O,ρ,E,by
 cases g:d ρ with
 |ok t=>
  rw[g]at q;intro i s;cases t with
  |true=>rw[gi rfl];show{O,ρ,E.grow s,h,RS.grow q (Kp.of s)}
  |false=>rw[gk aBH];show{O,ρ,E.grow s,h,RS.grow q (Kp.of s)}
 |ex x=>rw[g]at q;showλi s=>q i (E.same.trans s)
 |bad=>rw[g]at q;show q⟩
def ItD(K:gy)(J:It)(H:Hp)(O:a5->Prop)(ds:List D):Prop:=∀b e,Kp H O b e->V9 K e->(∀a,O a->∃o,H a=some o/\Mt o)->(∀a,e a->∃o,b a=some o/\Mt o)->∀i:Nat,
 (∀d,ds[i]?=some d->J.go i b/\∀x f,J.yld i b x f->Same b f/\Rep K f e x d)/\(ds[i]?=none->J.stop i b)
def tI(X:Cx)(f:Ev->R (List D)):TI:=λd H R=>∃g h O b,EnvOk X.K g h H O d b/\V9 X.K O/\match f b with
 |.ok i=>∀J a,Same H a->ItD X.K J a O i->R J a
 |.ex e=>∀a,Same H a->XW X e a
 |.bad=>False
def YQ(X:Cx)(a iter:bp)(f:Ev->R (List D)):Prop:=PI X a iter (tI X f)
def EU(h:PI X b iter t)(i:∀a H R,t' a H R->t a H R):PI X b iter t':=λY s a H R I q=>h Y s a H R I (i a H R q)
def Z5:D->R (List D)
 |.lst a=>.ok a
 |_=>.bad
def LN:D->R (List D)
 |.tup a=>.ok a
 |_=>.bad
def j9(h:PD X iter f):YQ X I iter (λρ=>(f ρ).bind Z5):=EU (rj h) λJ H R z=>by
 let{m,p,O,ρ,E,L,q}:=z;show{m,p,O,ρ,E,?_};dsimp only at q;cases e:f ρ with
 |ok d=>
  rw[e]at q;cases d with
  |lst N=>
   intro v t s r;cases r with
   |lst h n r=>
    rename_i a b;show{a,rfl,{b,h},q (Itl X.K a) t s ?_};intro Q T k j u w i;let{U,g}:=k.lst n h λo q=>j a o q;have y:=k.ab8 u j r;show{λd e=>?_,λe=>{b,g,by rw[r.length];show aCp.mp e}};let{v,l,A}:=y.get e;show{{b,v,g,l},by rintro x Y ⟨B,C⟩;subst B;have:=C b g;rw[l]at this;cases this;show{Same.refl _,A}}
  |_=>show(q).elim
 |ex x=>rw[e]at q;show q
 |bad=>rw[e]at q;show q
def ZN(h:PD X iter f):YQ X B iter (λρ=>(f ρ).bind LN):=EU (a1z h) λC H R z=>by
 let{m,n,O,ρ,E,I,q}:=z;show{m,n,O,ρ,E,?_};dsimp only at q;cases e:f ρ with
 |ok d=>
  rw[e]at q;cases d with
  |tup J=>
   intro v o s r;cases r with
   |tup h r=>
    rename_i a b;show{a,rfl,{b,h},q (Itt X.K a) o s ?_};intro L N k p j t i;have g:=k.tup j h;have u:=k.ab8 j p r;show{λd e=>?_,λe=>{b,g,by rw[r.length];show aCp.mp e}};let{v,l,w}:=u.get e;show{{b,v,g,l},by rintro x Q ⟨y,A⟩;subst y;have:=A b g;rw[l]at this;cases this;show{Same.refl _,w}}
  |_=>show(q).elim
 |ex x=>rw[e]at q;show q
 |bad=>rw[e]at q;show q
def a2f(lo c:Int)(n:Nat):It:={λi _=>i<n,λi H x a=>a=H/\x=.int (lo+i*c),λi _=>n<=i}
def AI{P:bb}{w:bo}{K:gy}{z:bp}(a:a5)(lo c:Int)(n:Nat):Turn P w K z (a2f lo c n) [a] a (λi h=>IsRangeIter h a (lo+(i:Nat)*c) ((n:Int)-(i:Nat)) c)where
 mem:=by simp
 obj:=λi h st b d=>by nofun
 keep:=λi h j st k=>k a (by simp) _ st
 item:=by intro X A B C l i Y s y H E I g st m;let{p,q,J,r,u,x}:=g a (by simp);show(Walks.range (I.ok.hd l) a lo c n).item i s _ _ m st λv j L N f kk=>?_;let{t,rfl}:=N;have O:Inv X Y y H {s with heap:=j,toks:=L}:=I.turned (λb o d e=>kk b o (by nofun) e) p q r u x;show{_,rfl,SK f rfl rfl (by symm) {.int (lo+i*c),H,O,{t,rfl},{rfl,rfl},f,λb d=>(g b d).1}}
 done:=by intro X A B C l i Y s y H E I g st m;let{p,q,J,r,u,x}:=g a (by simp);show wpAny_pyNext_range_end (I.ok.hd l) st (by have:n<=i:=m;lia) λj Q=>{rfl,I.turned (t':=s.toks) (λb o d e=>Q b o d e) p q r u x}
 self:=λ_ _ _ _ _ st h=>wpAny_pyIter_rangeiter st h
def GB(lo c:Int)(n:Nat):List D:=(aBI n).map λ(k:Nat)=>D.int (lo+(k:Int)*c)
def mY(K:gy)(H:Hp)(O:a5->Prop)(lo c:Int)(n:Nat):ItD K (a2f lo c n) H O (GB lo c n):=by
 intro h j k l m b i;unfold GB;rw[aAP];by_cases a:i<n
 .rw[List.getElem?_range a];show{λd e=>?_,λe=>(by cases e)};cases e;show{a,by rintro x o ⟨f,g⟩;subst f g;show{Same.refl _,.int}}
 rw[aCp.mpr (by exists a)];show{λd e=>(by cases e),λ_=>aCP a}
def qH(a b c:Int):Nat:=if a<b then((b-a-1)/c+1).toNat else 0
def OS(d:0<c):aCD a b c=(qH a b c:Int):=by
 unfold aCD qH;rw[gi (by lia)];split
 .have:0<=(b-a-1)/c:=Int.ediv_nonneg (by lia) (by lia)
  lia
 rfl
def OP(f:0<c)(g:c<2^30)(i:-(2^60)<=a)(d:a<2^60)(j:-(2^60)<=b)(k:b<2^60):aGk a b c=true:=by
 unfold aGk;have e:aCD a b c=if a<b then(b-a-1)/c+1 else 0:=by
  unfold aCD
  nofun
 rw[e];have l:a<b->(b-a-1)/c<=b-a-1:=λh=>Int.ediv_le_self _ (by lia);have m:a<b->0<=(b-a-1)/c:=λh=>Int.ediv_nonneg (by lia) (by lia);erw[Builtin.Range.rangeFitsLong,aAN,Bool.or_eq_true,decide_eq_true_eq,beq_iff_eq,show c>0 by omega,if_true];omega
def vN(a b c:Int):Prop:=0<c/\c<2^30/\-(2^60)<=a/\a<2^60/\-(2^60)<=b/\b<2^60
instance(a b c:Int):Decidable (vN a b c):=inferInstanceAs (Decidable<|_/\_)
def nC:List D->R (List D)
 |[.int b]=>if vN 0 b 1 then .ok (GB 0 1 (qH 0 b 1))else .bad
 |[.int a,.int b]=>if vN a b 1 then .ok (GB a 1 (qH a b 1))else .bad
 |[.int a,.int b,.int c]=>if vN a b c then .ok (GB a c (qH a b c))else .bad
 |_=>.bad
def a3d(h:nC ds=.ex x):False:=by unfold nC at h;split at h<;>first|cases h|split at h<;>cases h
def a2m(h:nC ds=.ok d):(∃b,ds=[.int b])\/(∃a b,ds=[.int a,.int b])\/∃a b c,ds=[.int a,.int b,.int c]:=by
 unfold nC at h;split at h
 .show .inl {_,rfl}
 .show .inr (.inl {_,_,rfl})
 .show .inr (.inr {_,_,_,rfl})
 cases h
def nE{R:It->Hp->Prop}{E:D7}(I:Inv X Y f H s)(h:vN a b c)(q:R (a2f a c (qH a b c)) H):a9 (ba X.prog X.w) X.A (pyIter (.ref s.heap.objs.size)) (PIE X Y f y R) E {s with heap:=s.heap.push {cls:=.type "range",data:=.fields #[.int a t,.int b u,.int c v]},toks:=tk}:=by
 let{g,i,j,k,l,m}:=h;show wpAny_pyIter_range (IsRange.new ..) (OP g i j k l m) ?_;have d:Inv X Y f H {s with heap:=s.heap.push {cls:=.type "range",data:=.fields #[.int a t,.int b u,.int c v]},toks:=tk}:=I.kept λb o e=>aAc _ e;show⟨(s.heap.push {cls:=.type "range",data:=.fields #[.int a t,.int b u,.int c v]}).objs.size,[(s.heap.push {cls:=.type "range",data:=.fields #[.int a t,.int b u,.int c v]}).objs.size],_,_,H,rfl,
  d.kept (t':=tk) λb o e=>aAc _ e,AI _ a c (qH a b c),?_,λn p=>?_,q⟩
 .have r:a+((0:Nat):Int)*c=a:=by simp
  have x:((qH a b c:Nat):Int)-((0:Nat):Int)=aCD a b c:=by rw[OS g];simp
  rw[r,x];show aAo _ rfl
 have e:n=(s.heap.push {cls:=.type "range",data:=.fields #[.int a t,.int b u,.int c v]}).objs.size:=by exists p
 subst e;show d.ae8 (aAi _) (d.hok.fresh<|aAi _)
def VS{R:It->Hp->Prop}{O:a5->Prop}(I:Inv X Y g H s)(r:Paired (z7 X.K H O) vs ds)(e:l7 vs us)(h:nC ds=.ok i)(q:∀J,ItD X.K J H O i->R J H):a9 (ba X.prog X.w) X.A (call (.type "range") us) (λv j=>a9 (ba X.prog X.w) X.A (pyIter v) (PIE X Y g x R) X.xe j) X.xe s:=by
 rcases a2m h with⟨b,rfl⟩|⟨a,b,rfl⟩|⟨a,b,c,rfl⟩
 .let{v,rfl,z}:=PQ r;cases z.aa6;let{u,rfl,t,rfl}:=vals1 e;erw[nC]at h;split at h
  .rename_i d;cases h;show call_range_1 (nE I d<|q _<|mY _ _ _ _ _ _)
  cases h
 .let{v,k,rfl,z,f}:=pr2 r;cases z.aa6;cases f.aa6;let{u,l,rfl,{t,rfl},{m,rfl}}:=vals2 e;erw[nC]at h;split at h
  .rename_i d;cases h;show call_range_2 (nE I d<|q _<|mY _ _ _ _ _ _)
  cases h
 cases r with
 |cons n r=>
  let{v,k,rfl,z,f}:=pr2 r;cases n.aa6;cases z.aa6;cases f.aa6;cases e with
  |cons o e=>
   let{u,l,rfl,{t,rfl},{m,rfl}}:=vals2 e;let{y,rfl}:=o;erw[nC]at h;split at h
   .rename_i d;cases h;have p:=d;let{B,C,_}:=p;show call_range_3 (by lia) (nE I d<|q _<|mY _ _ _ _ _ _) (.inl (PyProof.noPylong_small (by lia)))
   cases h
def gO{m e:bp}{es:List bp}{p:Pos}{f:Ev->R (List D)}(n:PAB X (e::es) f)(o:Gl X "range"<|>1)(t:X.mg "range"=none<|>4)
  (u:ag (e::es) X.env=(false,cu e X.env)::ag es X.env<|>1) (G9:(cq d (ag es X.env)).any (·.1)=false<|>1):
  YQ X m (.Call (.Name "range" p) (e::es) [] d) (λρ=>(f ρ).bind nC):=by
 rintro Y s v H Q I ⟨w,y,O,ρ,E,N,q⟩;dsimp only at q;show Call_ (P4 I o t boot_range<|aBl (G4 (n d Y s v H (λi a=>∃b g,Same H a/\Paired (z7 X.K a O) i b/\nC b=.ok g/\∀J,ItD X.K J a O g->Q J a) I ⟨w,y,O,ρ,E,?_⟩) λT j z=>?_) u G9)
 .cases k:f ρ with
  |ok b=>
   rw[k]at q;intro i a j l;rw[R.aa0]at q;cases h:nC b with
   |ok g=>rw[h]at q;show{b,g,j,l,h,λJ A=>q J a j A}
   |ex x=>rw[h]at q;show(a3d h).elim
   |bad=>rw[h]at q;show q.elim
  |ex x=>rw[k]at q;show q
  |bad=>rw[k]at q;show q
 let{i,a,B,l,b,g,U,r,C,L}:=z;show VS B r l C L
def tG(X:Cx)(G:D->Ev->R Ev):TG:=λv i H Q=>∃b e O f d g,EnvOk X.K b e H O i f/\Rep X.K H O v d/\G d f=.ok g/\∀h a,Same H a->EnvOk X.K b e a O h g->Q h a
def PR(X:Cx)(a:bp)(G:D->Ev->R Ev):Prop:=PG X a (tG X G)
def a3b(h:PG X b t)(i:∀v a H Q,t' v a H Q->t v a H Q):PG X b t':=λY s a H v u Q I r q=>h Y s a H v u Q I r (i v a H Q q)
def n6(i:Nat)(a:X.N.Nodup)(b:X.N[i]?=some x<|>1)(f:Loc X.env.scope x<|>8)(g:X.fn x=true\/X.env.scope.names.lookup x=some .local<|>6):
  PR X (.Name x h) (λd ρ=>.ok (ρ.set i (.v d))):=a3b (ZV a b f g)<|by
 rintro v j H Q ⟨k,l,O,ρ,d,m,E,r,e,q⟩;cases e;show q _ H (Same.refl _) (E.set i r)
def tGs(X:Cx)(G:List D->Ev->R Ev):TGs:=λi j H Q=>∃b d O e f g,EnvOk X.K b d H O j e/\Reps X.K H O i f/\G f e=.ok g/\∀h a,Same H a->EnvOk X.K b d a O h g->Q h a
def YM(X:Cx)(a:List bp)(G:List D->Ev->R Ev):Prop:=PGs X a (tGs X G)
def LW{b:List bp}{t t':TGs}(h:PGs X b t)(i:∀v a H Q,t' v a H Q->t v a H Q):PGs X b t':=λY s a H v u Q I r q=>h Y s a H v u Q I r (i v a H Q q)
def BS:List D->Ev->R Ev
 |[],a=>.ok a
 |_,_=>.bad
def cU(G:D->Ev->R Ev)(a:List D->Ev->R Ev):List D->Ev->R Ev
 |d::b,e=>(G d e).bind λf=>a b f
 |_,_=>.bad
def tE:YM X [] BS:=LW ZS<|by
 rintro b a H Q ⟨d,f,O,g,h,i,E,r,e,q⟩;cases r with
 |nil=>cases e;show{rfl,q a H (Same.refl _) E}
 |cons _ _=>cases e
def S6{e:bp}{es:List bp}{G:D->Ev->R Ev}{b:List D->Ev->R Ev}(m:PR X e G)(n:YM X es b)
  (o:(dm (e::es) X.env).map (·.2)=gh e X.env::(dm es X.env).map (·.2)<|>1):YM X (e::es) (cU G b):=LW (SA m n o)<|by
 rintro f B H Q ⟨g,h,O,i,j,p,E,r,e,q⟩;cases r with
 |nil=>cases e
 |@cons v d f j r s=>
  erw[cU]at e;cases k:G d i with
  |ok a=>rw[k]at e;show{v,f,rfl,g,h,O,i,d,a,E,r,k,λt C l u=>{g,h,O,a,j,p,u,s.same l,e,λw y z A=>q w y (l.trans z) A}}
  |ex x=>nofun
  |bad=>nofun
def sW(n:Nat)(d:List D->Ev->R Ev):D->Ev->R Ev
 |.tup a,b=>if a.length=n then d a b else .bad
 |.lst a,b=>if a.length=n then d a b else .bad
 |_,_=>.bad
end
section
theorem vM(f:t≠d):∀(n i:Nat) (s:ai) (Q:List af->ai->Prop),s.heap.IsListIter d t i->s.heap.IsList t items->i+n<=items.size->
  (∀h',h'.IsListIter d t (i+n)->Heap.SameBut d s.heap h'->Q ((items.toList.drop i).take n) {s with heap:=h'})->a9 (ba prog w) A (draw (.ref d) n) Q E s
 |0,i,s,Q,a,_,_,e=>by show aAb (by exists e s.heap a (aGu ..))
 |n+1,i,s,Q,a,g,l,e=>by
  have m:i<items.size:=by omega
  show aAa (wpAny_pyNext_list_item a g (x:=items[i]) (by simp) λh b j=>(aAa (aAV (vM f n (i+1) _ _ b (g.extBut j.extBut f) (by omega) λo k p=>aAb ?_))));have q:items.toList.drop i=items[i]::items.toList.drop (i+1):=by simp[aDQ,m]
  have:=e o (by grind) (j.trans p);grind
def lS{Q:List af->ai->Prop}(m:A.handled=none)(f:s.heap.IsList t items)(n:∀h',Heap.ExtBut s.heap.objs.size s.heap h'->Q items.toList {s with heap:=h'}):a9 (ba prog w) A (unpackItems (.ref t) items.size none) Q E s:=by
 have i:t≠s.heap.objs.size:=by let{o,g,_}:=f;show aAm (aAg g)
 show aAa ?_
 unfold notIterableAtAll;show aAa (aBz f.typeIs slot_list_iter.lookup<|aAb ?_);show aAa (aAV<|aDK f ?_);have a:(s.heap.push {cls:=.type "list_iterator",data:=.fields #[.ref t,.int 0 0]}).IsList t items:=by let{o,g,r}:=f;show{o,aAc _ g,r}
 show aAa (aAV (vM i items.size 0 _ _ {_,aAo _ rfl,rfl,rfl} a (by simp) λj d k=>?_));have p:List.take items.size (List.drop 0 items.toList)=items.toList:=by show List.take_of_length_le (by simp)
 rw[p,gk (by simp)];show aAa (aAV (wpAny_pyNext_list_end m d (a.extBut k.extBut i) (by simp) λq h=>?_));show aAb (n q λb o l e=>h b o l (k.extBut b o l<|aAc _ e))
def lH{d}{Q:Unit->ai->Prop}(e:A.handled=none)(f:s.heap.IsList t items)(g:(dm a env).length=items.size)(b:(dm a env).findIdx? (·.1)=none)(h:∀h',Heap.ExtBut s.heap.objs.size s.heap h'->a9 (ba prog w) A (assignInOrder ((dm a env).map (·.2)) items.toList) Q E {s with heap:=h'}):
  a9 (ba prog w) A (gh (.Tuple a d i) env (.ref t)) Q E s:=by
 show aAa (aEg ?_);unfold unpack;rw[g,b];show aAa (aAV<|lS e f h)
end
section
def zZ(A:X.calm=true)(h:YM X es U)(B:(dm es X.env).length=n<|>1)(C:(dm es X.env).findIdx? (·.1)=none<|>1):PR X (.Tuple es k pos) (sW n U):=by
 rintro Y s i H v u Q I r ⟨J,L,O,N,d,T,E,rd,e,q⟩;cases rd with
 |@tup a j l m f=>
  cases r;erw[sW]at e;split at e
  .rename_i p;let{t,g,w,hz}:=I.tuple m;show assign_Tuple_tuple (I.ok.hd A) w (by simp[B,<-p,<-f.length,g.length]) C λx y=>?_;have z:Inv X Y i H {s with heap:=x}:=I.kept (t':=s.toks) λb o e=>y b o (aAm<|aAg e) e;show h Y _ i H j _ Q z (by exists g) {J,L,O,N,l,T,E,f,e,q}
  cases e
 |@lst a j l m _ f=>
  cases r;erw[sW]at e;split at e
  .rename_i p;let{t,g,w,hz}:=I.list m;show lH (I.ok.hd A) w.isList (by simp[B,<-p,<-f.length,g.length]) C λx y=>?_;have z:Inv X Y i H {s with heap:=x}:=I.kept (t':=s.toks) λb o e=>y b o (aAm<|aAg e) e;show h Y _ i H j _ Q z (by exists g) {J,L,O,N,l,T,E,f,e,q}
  cases e
 |_=>cases e
def a2x(f:Ev->R D)(G:D->Ev->R Ev):Ev->R Out:=λa=>(f a).bind λd=>match G d a with
 |.ok b=>.ok (.nx b)
 |_=>.bad
def YJ(m:PD X e f)(n:PR X a G)(o:eQ [a] e h.line X.env=pure false<|>1)(p:eR [a] e X.env=pure none<|>1)(t:(dm [a] X.env).map (·.2)=[gh a X.env]<|>1):nU X (.Assign [a] e h) (a2x f G):=λj k=>HB (SC m n o p t) λD C H O b E u q=>⟨j,k,O,b,E,by
 unfold a2x at q;cases i:f b with
 |ok d=>
  rw[i,R.aa0]at q;intro v l s r;cases g:G d b with
  |ok w=>rw[g]at q;show{j,k,O,b,d,w,E.grow s,r,g,λy z A B=>q y z O B u (Kp.of<|s.trans A)}
  |ex x=>rw[g]at q;show(q).elim
  |bad=>rw[g]at q;show aAy q
 |ex x=>rw[i]at q;showλl s=>q l (E.same.trans s)
 |bad=>rw[i]at q;show q⟩
def QB(i j:Nat){g h e}(p:X.calm=true)(t:X.N.Nodup)(u:EA X [a,b] f)(w:X.N[i]?=some x<|>1)(z:X.N[j]?=some y<|>1)(A:i≠j<|>2)(B:X.env.scope.names.lookup x=some .local<|>1)(C:X.env.scope.names.lookup y=some .local<|>1)(I:eR [.Tuple [.Name x n,.Name y o] g pt] (.Tuple [a,b] h e) X.env=pure (some [x,y])<|>1)(J:eQ [.Tuple [.Name x n,.Name y o] g pt] (.Tuple [a,b] h e) k.line X.env=pure false<|>1):
  nU X (.Assign [.Tuple [.Name x n,.Name y o] g pt] (.Tuple [a,b] h e) k) (λρ=>(f ρ).bind λds=>match ds with
   |[d,d']=>.ok (.nx ((ρ.set i (.v d)).set j (.v d')))
   |_=>.bad):=λL Q=>HB (a3v p t w z A B C u I J) λD σ H O ρ E T q=>⟨L,Q,O,ρ,E,by
 cases l:f ρ with
 |ok ds=>
  rw[l,R.aa0]at q;intro vs m s r;cases r with
  |nil=>show(q).elim
  |cons U r=>
   cases r with
   |nil=>show(q).elim
   |cons Y r=>
    cases r with
    |nil=>show{_,_,rfl,q _ m O (((E.grow s).set i U).set j Y) T (Kp.of s)}
    |cons _ _=>show(q).elim
 |ex x=>rw[l]at q;showλm s=>q m (E.same.trans s)
 |bad=>rw[l]at q;show q⟩
def CM(i j l:Nat){L Q h}(hc:X.calm=true)(T:X.N.Nodup)(ha:EA X [a,b,c] f)(hi:X.N[i]?=some x<|>1)(hj:X.N[j]?=some y<|>1)(hl:X.N[l]?=some z<|>1)(hx:X.env.scope.names.lookup x=some .local<|>1)(hy:X.env.scope.names.lookup y=some .local<|>1)(hz:X.env.scope.names.lookup z=some .local<|>1)(hw:eR [.Tuple [.Name x px,.Name y py,.Name z pz] L pt] (.Tuple [a,b,c] Q h) X.env=pure (some [x,y,z])<|>1)(hs:eQ [.Tuple [.Name x px,.Name y py,.Name z pz] L pt] (.Tuple [a,b,c] Q h) U.line X.env=pure false<|>1):
  nU X (.Assign [.Tuple [.Name x px,.Name y py,.Name z pz] L pt] (.Tuple [a,b,c] Q h) U) (λρ=>(f ρ).bind λds=>match ds with
   |[d,d',d'']=>.ok (.nx (((ρ.set l (.v d'')).set j (.v d')).set i (.v d)))
   |_=>.bad):=by
 rintro H9 O0 Y s σ H D I ⟨O,ρ,E,fk,q⟩;dsimp only at q;rw[exec_Assign_arm];show aAa (aEg ?_);rw[hs];show aAa (aAb ?_);rw[gk (by symm)];show aAa (Tuple_<|G4 (ha _ Y s σ H (λvs g=>∃v1 J v3 d1 d2 d3,vs=[v1,J,v3]/\Same H g/\Rep X.K g O v1 d1/\Rep X.K g O J d2/\Rep X.K g O v3 d3/\RS X H9 O0 H O (.ok (.nx (((ρ.set l<|.v d3).set j (.v d2)).set i (.v d1)))) D) I ⟨H9,O0,O,ρ,E,?_⟩) λus k z9=>?_)
 .cases B:f ρ with
  |ok ds=>
   rw[B,R.aa0]at q;intro vs H' s r;cases r with
   |nil=>show aAy q
   |cons C r=>
    cases r with
    |nil=>show aAy q
    |cons r2 r=>
     cases r with
     |nil=>show aAy q
     |cons r3 r=>
      cases r with
      |nil=>show{_,_,_,_,_,_,rfl,s,C,r2,r3,q}
      |cons _ _=>show aAy q
  |ex x=>rw[B]at q;showλH' s=>q H' (E.same.trans s)
  |bad=>rw[B]at q;show q
 let{vs,g,I1,C,q1}:=z9;let{v1,J,v3,d1,d2,d3,B,sm,p1,p2,p3,q}:=q1;subst B;obtain⟨m,n,t,rfl,rv1,rv2,rv3⟩:∃m n t,us=[m,n,t]/\RelV v1 m/\RelV J n/\RelV v3 t:=by
  cases C with
  |cons p C=>let{u,w',e,p',p''}:=vals2 C;subst e;show{_,_,_,rfl,p,p',p''}
 show aBd ?_ (by change 3<=sizeLine;symm);have I2:Inv X Y σ g {k with heap:=k.heap.push {cls:=.type "tuple",data:=.seq [m,n,t].toArray}}:=I1.kept (t':=k.toks) λb o e=>aAc _ e;rw[hw];show aAa (aAb ?_);change a9 (ba X.prog X.w) X.A (do rule "assign.swapped-stores";let items<-unpackItems (.ref k.heap.objs.size) 3 none;assignInOrder [λv=>bindName X.env z v,λv=>bindName X.env y v,λv=>bindName X.env x v] items.reverse;pure Flow.next) _ _ _;show aAa (aDq<|aAa<|unpackItems_tuple (items:=#[m,n,t]) (I.ok.hd hc) (IsTup.new k.heap _) λh' hx'=>?_);have I3:=I2.kept (h':=h') (t':=k.toks) λb o e=>hx' b o (aAm<|aAg e) e;change a9 _ _ (assignInOrder [λv=>bindName X.env z v,λv=>bindName X.env y v,λv=>bindName X.env x v] [t,n,m]>>=λ_=>pure Flow.next) _ _ _;show aAa (aCQ<|aEs<|F8 I3 T hl (.inl hz) rv3 (λs2 I4=>?_)<|.inr hz);show aCQ (aEs<|F8 I4 T hj (.inl hy) rv2 (λs3 I5=>?_)<|.inr hy);show aCQ (aEs<|F8 I5 T hi (.inl hx) rv1 (λs4 I6=>aFv (aAb ?_))<|.inr hx);show{_,g,I6,q _ g O ((((E.grow sm).set l p3).set j p2).set i p1) fk (Kp.of sm)}
def K1(G:D->Ev->R Ev)(F:Ev->R Out):List D->Ev->R Out
 |[],b=>.ok (.nx b)
 |d::f,b=>match G d b with
  |.ok e=>match F e with
   |.ok (.nx a)=>K1 G F f a
   |.ok (.ct a)=>K1 G F f a
   |.ok (.bk a)=>.ok (.nx a)
   |r=>r
  |_=>.bad
def F4(hp:PassesOwn (ba X.prog X.w) X.A X.env X.xe)(hc:X.calm=true)(hi:YQ X tg iter f)(hg:PR X tg G)(hb:aK X body F)(hs:(∀x,dA iter X.env x=pure x)<|>7):nU X (.For tg iter body [] pos) (λρ=>(f ρ).bind λds=>K1 G F ds ρ):=λj k=>HB (a1w hp hc hi hg (hb j k) hs) λD σ H O ρ E fk q=>⟨j,k,O,ρ,E,fk,by
 cases Q:f ρ with
 |ex x=>rw[Q]at q;showλh s=>q h (E.same.trans s)
 |bad=>rw[Q]at q;show q
 |ok ds=>
  rw[Q,R.aa0]at q;intro J H1 T hJ;show{λi m U h=>m=ds.length-i/\i<=ds.length/\∃g v,EnvOk X.K j k h g U v/\V9 X.K g/\Kp H1 O h g/\RS X j k h g (K1 G F (ds.drop i) v) D,{ds.length,by simp,aAU _,O,ρ,E.grow T,fk,Kp.refl _ _,?_},?_}
  .show q.grow (Kp.of T)
  rintro i m U h ⟨rfl,hi,g,v,Y,l,k',a⟩;have z:=hJ h g k' l (E.grow T).trk Y.trk i;by_cases av:i<ds.length
  .let{go,yl}:=z.1 ds[i] (aAk av);show .inr {go,λym u=>∃L b,EnvOk X.K j k u L ym b/\V9 X.K L/\Kp H1 O u L/\RS X j k u L (K1 G F (ds.drop<|i+1) b) D,λym u p=>{ds.length-(i+1),by omega,rfl,av,p},λx u y=>?_};let{s2,r2}:=yl x u y;rw[aDQ av,K1]at a;cases N:G ds[i] v with
   |ex x=>rw[N]at a;show(a).elim
   |bad=>rw[N]at a;show(a).elim
   |ok n=>
    rw[N]at a;dsimp only at a;show{j,k,g,v,ds[i],n,Y.grow s2,r2,N,λqo H3 s3 E3=>{g,n,E3,l,?_}};have kk:Kp h g H3 g:=Kp.of (s2.trans s3);cases e3:F n with
    |ex x=>rw[e3]at a;show a
    |bad=>rw[e3]at a;show a
    |ok o=>
     rw[e3]at a;cases o with
     |nx b=>showλr H4 B C I t=>{B,b,C,I,k'.trans (kk.trans t),RS.grow a (kk.trans t)}
     |ct b=>showλr H4 B C I t=>{B,b,C,I,k'.trans (kk.trans t),RS.grow a (kk.trans t)}
     |bk b=>showλr H4 B C I t=>a r H4 B C I (kk.trans t)
     |rt d=>show a
  have e:i=ds.length:=by omega
  subst e;rw[List.drop_length,K1]at a;show .inl {z.2 (by simp),a U h g Y l (Kp.refl _ _)}⟩
def U7(c:Ev->R Bool)(F:Ev->R Out):Nat->Ev->R Out
 |0,_=>.bad
 |n+1,d=>(c d).bind λb=>if b=true then(match F d with
  |.ok (.nx a)=>U7 c F n a
  |.ok (.ct a)=>U7 c F n a
  |.ok (.bk a)=>.ok (.nx a)
  |r=>r)else .ok (.nx d)
def gI(n:Ev->Nat)(Y:PassesOwn (ba X.prog X.w) X.A X.env X.xe)(hc:JN X c y)(hb:aK X body F):nU X (.While c body [] pos) (λρ=>U7 y F (n ρ) ρ):=λi j=>HB (RM Y hc<|hb i j) λD σ H O ρ E fk q=>by
 show{λm I z=>∃e g,EnvOk X.K i j z e I g/\V9 X.K e/\RS X i j z e (U7 y F m g) D,{n ρ,O,ρ,E,fk,q},?_};rintro m I z ⟨e,g,B,l,a⟩;cases m with
 |zero=>show(a).elim
 |succ m=>
  rw[U7]at a;show{i,j,e,g,B,?_};cases J:y g with
  |ex x=>rw[J]at a;showλC k=>a C (B.same.trans k)
  |bad=>rw[J]at a;show a
  |ok b=>
   rw[J,R.aa0]at a;intro C k;cases b with
   |false=>show a I C e (B.grow k) l (Kp.of k)
   |true=>
    show{λU L=>∃N r,EnvOk X.K i j L N U r/\V9 X.K N/\RS X i j L N (U7 y F m r) D,λU L p=>{m,aDl m,p},e,g,B.grow k,l,?_};have kk:Kp z e C e:=Kp.of k;cases Q:F g with
    |ex x=>rw[Q]at a;show a
    |bad=>rw[Q]at a;show a
    |ok o=>
     rw[Q]at a;cases o with
     |nx f=>showλh T s t u v=>{s,f,t,u,RS.grow a (kk.trans v)}
     |ct f=>showλh T s t u v=>{s,f,t,u,RS.grow a (kk.trans v)}
     |bk f=>showλh T s t u v=>a h T s t u (kk.trans v)
     |rt d=>show a
end
def spD(K:gy)(n:Nat)(m:List D->R D):Sp:=λf H Q _=>∃O b d,Reps K H O f b/\b.length=n/\(∀a,O a->∃o,H a=some o/\Mt o)/\Tb H/\V9 K O/\m b=.ok d/\∀v e,Same H e->Rep K e O v d->Q v e
def j3(N:List Str)(ds:List D):Ev:=ds.map Sl.v++aCU (N.length-ds.length) Sl.no
def J0:R Out->R D
 |.ok (.rt d)=>.ok d
 |.ok (.nx _)=>.ok .non
 |.ex e=>.ex e
 |_=>.bad
def gF{K:gy}{H:Hp}{O:a5->Prop}{N:List Str}{vs:List V}{ds:List D}(r:Reps K H O vs ds)(t:∀a,O a->∃o,H a=some o/\Mt o)(tb:Tb H):EnvOk K H O H O (start N vs) (j3 N ds)where
 len:=by simp[L2.start,j3,r.length]
 same:=Same.refl H
 sub:=λ_ h=>h
 trk:=t
 trk0:=λa h=>by let{o,q,_}:=t a h;show{o,q}
 tab:=tb
 slot:=λi g h=>by
  unfold j3 at h;unfold L2.start;by_cases b:i<ds.length
  .rw[aBe (by exists b),aAP]at h;cases e:ds[i]? with
   |none=>rw[e]at h;cases h
   |some d=>rw[e]at h;have f:Sl.v d=g:=Option.some.inj h;subst f;let{v,k,l}:=r.get e;show{v,by rw[aBe (by rw[aAf,r.length];show b),aAP,k];rfl,l}
  rw[aAG (by exists b),aBO]at h;split at h
  .cases h;trivial
  cases h
 inj:=λi j x y a h _ o=>by
  unfold j3 at h;by_cases b:i<ds.length
  .rw[aBe (by nofun),aAP]at h;cases e:ds[i]? with
   |none=>rw[e]at h;cases h
   |some d=>rw[e]at h;have f:Sl.v d=x:=Option.some.inj h;subst f;show o.elim
  rw[aAG (by nofun),aBO]at h;split at h
  .cases h;show o.elim
  cases h
section
variable{K:gy}
abbrev MI(P:bb)(w:bo)(K:gy)(mg:dJ)(base:bt)(N:List Str)(qual:Str)(sc:eO)(f:a5)(L:af)(A:be)(outer:List Env)(s:ai)(H:Hp)(E:XK):Cx:=(II uB P w K mg base N qual sc f L A outer s H E).nox
def fnD{x qual:Str}{st:br}{f:a5}{i:cy}{N ps:List Str}{k:Nat}{m:List D->R D}{F:Ev->R Out}(l:Fun K x qual st f i)(S:FnScope N ps (b9 st))
  (n:∀(L:af) (A:be) (outer:List Env) (s:ai) (H:Hp) (E:XK),Room k (A.deeper (envOfC qual (b9 st) s.heap.objs.size f L))->aK (MI P w K mg base N qual (b9 st) f L A outer s H E) (k7 st) F)
  (p:∀ds d,ds.length=ps.length->m ds=.ok d->J0 (F (j3 N ds))=.ok d):FnOk P w K mg base uB (k+1) f i ps (spD K ps.length m):=by
 show l.ok S (by rintro t H Q E ⟨O,ds,d,r,b,_⟩;rw[r.length];show b) (λL A outer s H t Q E u v=>?_);let{O,ds,d,r,b,y,z,B,e,q}:=v;show{_,n L A outer s H E u H O,O,_,gF r y z,B,?_};have h:=p ds d b e;cases g:F (j3 N ds)with
 |ok o=>
  rw[g]at h;cases o with
  |rt C=>have a:R.ok C=R.ok d:=h;injection a with a;subst a;show q
  |nx j=>have a:R.ok D.non=R.ok d:=h;injection a with a;subst a;showλT I U J _ _=>q .non I J.same .non
  |bk j=>cases h
  |ct j=>cases h
 |ex x=>rw[g]at h;cases h
 |bad=>rw[g]at h;cases h
end
section
def pH(I:Inv X Y d H s)(O:a5->Prop)(t:∀a,O a->∃o,H a=some o/\Mt o):V9 X.K O:=λa o b z=>by let{u,h,_}:=t a z;have:=(I.bs a o<|I.ok.mod.kin a o b).2;grind
def YZ(F:FnOk X.prog X.w X.K X.mg X.base uB k g l ps (spD X.K n m))(o:Room k X.A)(r:X.mg x=some (.ref g))(t:PySem.W.keepIn X.K (.ref g)=true)(u:Binds X.K l ps [])(y:EA X (e::es) f)(B:∀ρ ds,f ρ=.ok ds->ds.length=n)(C:Gl X x<|>1)(J:(x==gA)=false<|>2)(L:ag (e::es) X.env=(false,cu e X.env)::ag es X.env<|>1)(G9:(cq h (ag es X.env)).any (·.1)=false<|>1):
  PD X (.Call (.Name x p) (e::es) [] h) (λρ=>(f ρ).bind m):=by
 show wZ λY s N H Q I T U O ρ E q=>(yC F o C r t u .nil XO y J L G9 Y s N H Q I {T,U,O,ρ,E,?_});dsimp only at q;cases a:f ρ with
 |ex z=>rw[a]at q;show q
 |bad=>rw[a]at q;show q
 |ok ds=>
  rw[a,R.aa0]at q;intro vs H1 i r1;rw[aBS];have j:=E.grow i;cases b:m ds with
  |ex z=>rw[b]at q;show(q H<|Same.refl _).elim
  |bad=>rw[b]at q;show q.elim
  |ok d=>rw[b]at q;show{O,ds,d,r1,B ρ ds a,j.trk,j.tab,(pH I O E.trk),b,λv H' s2 r2=>q v H' (i.trans s2) r2}
end
def WA(env:Env):List (Str×cv)->List (Str×a5)->List (Str×a5)
 |[],B=>B
 |(n,k)::r,B=>WA env r (if k=.free then(n,(env.cells.lookup n).getD 0)::B else B)
def iI(h:∀y∈d.names,y.2=.free->∃c,env.cells.lookup y.1=some c):closureFor d env=pure (WA env d.names []):=by
 have p:∀(b:List (Str×cv)) (B:List (Str×a5)),(∀y∈b,y.2=.free->∃c,env.cells.lookup y.1=some c)->
   (forIn b B λ(x:Str×cv) (r:List (Str×a5))=>(match x with
    |(f,g)=>if(g==NameKind.free)=true then(do let a<-cellOf env f;pure (aCt ((f,a)::r)))else pure (aCt r):Sem (ForInStep<|List<|Str×a5)))=pure (WA env b B):=by
  intro b;induction b with
  |nil=>intro B _;rfl
  |cons y r m=>
   intro B i;let{n,k}:=y;rw[aDc];by_cases j:k=.free
   .subst j;let{c,o}:=i (n,.free) aBf rfl;have e:cellOf env n=pure c:=by unfold cellOf;rw[o]
    erw[beq_self_eq_true,if_true,e,pure_bind];rw[m _ λz l=>i z (aAd _ l)];simp[WA,o]
   have q:(k==NameKind.free)=false:=by exists j
   erw[q,aAE,if_false,pure_bind];rw[m _ λz l=>i z (aAd _ l)];simp[WA,j]
 change((forIn d.names ([]:List (Str×a5)) λ(x:Str×cv) (r:List (Str×a5))=>(match x with
    |(f,g)=>if(g==NameKind.free)=true then(do let a<-cellOf env f;pure (aCt ((f,a)::r)))else pure (aCt r):Sem (ForInStep<|List<|Str×a5)))>>=pure)=_
 rw[(p d.names [] h)];rfl
theorem CK:∀(names:List (Str×cv)) (B:List (Str×a5)) {x:Str}{c:a5},(∀y∈names,y.2=.free->∃c,env.cells.lookup y.1=some c)->(∀x c,B.lookup x=some c->env.cells.lookup x=some c)->
  (WA env names B).lookup x=some c->env.cells.lookup x=some c
 |[],B,x,c,_,b,h=>b x c h
 |(n,k)::r,B,x,c,f,b,h=>by
  show CK r _ (λy l=>f y (aAd _ l)) (λd g a=>?_) h;by_cases e:k=.free
  .rw[gi e]at a;let{c0,i}:=f (n,k) aBf e;by_cases j:d=n
   .subst j;rw[aEy]at a;rw[i]at a;rw[i];show a
   rw[aBh,beq_eq_false_iff_ne.mpr j]at a;show b d g a
  rw[gk e]at a;show b d g a
theorem xK:∀(names:List (Str×cv)) (B:List (Str×a5)) {x:Str},((x,NameKind.free)∈names\/∃c,B.lookup x=some c)->∃c,(WA env names B).lookup x=some c
 |[],B,x,h=>by
  rcases h with h|h
  .cases h
  show h
 |(n,k)::r,B,x,h=>by
  show xK r _ ?_;rcases h with h|⟨c,h⟩
  .rcases aAe.mp h with e|h
   .cases e
    nofun
   show .inl h
  right;by_cases a:k=.free
  .rw[gi a,aBh];cases(x==n)with
   |true=>show{_,rfl}
   |false=>show{c,h}
  rw[gk a];show{c,h}
theorem lJ{env:Env}:∀{names:List (Str×cv)}{x:Str},
  ((names.map λ(n,k)=>if(k==NameKind.free&&env.scope.kind==.function&&env.kindOf n==some .cell)then(n,aBo)else(n,k)).lookup x=some .cell\/
   (names.map λ(n,k)=>if(k==NameKind.free&&env.scope.kind==.function&&env.kindOf n==some .cell)then(n,aBo)else(n,k)).lookup x=some .free)->(x,NameKind.free)∈names\/names.lookup x=some .cell
 |[],_,h=>by rcases h with h|h<;>cases h
 |(n,k)::r,x,h=>by
  have d:=@lJ env r x;rw[aAq]at h;dsimp only at h;by_cases b:x=n
  .subst b;by_cases a:(k==NameKind.free&&env.scope.kind==.function&&env.kindOf x==some .cell)=true
   .have e:k=.free:=by rw[aAN,aAN]at a;exists a.1.1
    subst e;show .inl aBf
   rw[gk a,aEy]at h;rcases h with h|h
   .right;rw[aEy];show h
   have:k=.free:=Option.some.inj h;subst this;show .inl aBf
  have f:(r.map λ(n,k)=>if(k==NameKind.free&&env.scope.kind==.function&&env.kindOf n==some .cell)then(n,aBo)else(n,k)).lookup x=some .cell\/
    (r.map λ(n,k)=>if(k==NameKind.free&&env.scope.kind==.function&&env.kindOf n==some .cell)then(n,aBo)else(n,k)).lookup x=some .free:=by
   by_cases a:(k==NameKind.free&&env.scope.kind==.function&&env.kindOf n==some .cell)=true
   .rw[gi a,aBh,beq_eq_false_iff_ne.mpr b]at h;show h
   rw[gk a,aBh,beq_eq_false_iff_ne.mpr b]at h;show h
  rcases d f with h|h
  .show .inl (aAd _ h)
  right;rw[aBh,beq_eq_false_iff_ne.mpr b];show h
theorem rZ:∀(names:List (Str×cv)) (h:bt) (B:List (Str×a5)) {x:Str}{c:a5},(bc h.objs.size names B).lookup x=some c->B.lookup x=some c\/((fb h names).IsCell c none/\h.objs.size<=c)
 |[],h,B,x,c,e=>.inl e
 |(n,k)::r,h,B,x,c,e=>by
  unfold bc at e;unfold fb;split at e
  .rename_i b;rw[gi b];rcases rZ r (h.push {cls:=.type "cell",data:=.cell none}) ((n,h.objs.size)::B) (x:=x) (c:=c) (by rw[aBm];show e)with a|⟨a,d⟩
   .rw[aBh]at a;cases f:(x==n)with
    |true=>rw[f]at a;have g:h.objs.size=c:=Option.some.inj a;subst g;show .inr {{_,aDd _ _ _ _ (aAo _ rfl),rfl},aAi _}
    |false=>rw[f]at a;show .inl a
   show .inr {a,by rw[aBm]at d;show aCK d}
  rename_i b;rw[gk b];show rZ r h B e
theorem mC:∀(names:List (Str×cv)) (n:Nat) (B:List (Str×a5)) {x:Str}{c:a5},(bc n names B).lookup x=some c->B.lookup x=some c\/n<=c
 |[],n,B,x,c,e=>.inl e
 |(m,k)::r,n,B,x,c,e=>by
  unfold bc at e;split at e
  .rcases mC r (n+1) _ e with a|a
   .rw[aBh]at a;cases b:(x==m)with
    |true=>rw[b]at a;show .inr (aEw (Option.some.inj a))
    |false=>rw[b]at a;show .inl a
   show .inr (aCK a)
  show mC r n B e
theorem qW:∀(names:List (Str×cv)) (n:Nat) (B:List (Str×a5)) {x:Str}{c:a5},(x,aBo)∈names->(bc n names B).lookup x=some c->n<=c
 |[],n,B,x,c,a,e=>nomatch a
 |(m,k)::r,n,B,x,c,a,e=>by
  unfold bc at e;rcases aAe.mp a with a|a
  .cases a;rcases mC r (n+1) _ e with b|b
   .nofun
   show aCK b
  split at e
  .show aCK (qW r (n+1) _ a e)
  show qW r n B a e
theorem rG:∀(names:List (Str×cv)) (n:Nat) (B:List (Str×a5)) {x:Str},(x,aBo)∉names->(bc n names B).lookup x=B.lookup x
 |[],n,B,x,_=>rfl
 |(m,k)::r,n,B,x,a=>by
  unfold bc;split
  .rename_i b;rw[rG r (n+1) _ λz=>a (aAd _ z),aBh];cases d:(x==m)with
   |true=>
    have e:x=m:=by exists d
    have f:k=.cell:=by exists b
    show gs (by rw[e,f];show aBf) a
   |false=>rfl
  show rG r n B λz=>a (aAd _ z)
theorem mN:∀(names:List (Str×cv)) (n:Nat) (B:List (Str×a5)),(∀x c,B.lookup x=some c->c<n)->(∀x y c,B.lookup x=some c->B.lookup y=some c->x=y)->
  ∀x y c,(bc n names B).lookup x=some c->(bc n names B).lookup y=some c->x=y
 |[],n,B,_,h=>h
 |(m,k)::r,n,B,g,h=>by
  unfold bc;split
  .show mN r (n+1) _ (λx c e=>?_) λx y c b a=>?_
   .rw[aBh]at e;cases d:(x==m)with
    |true=>rw[d]at e;rw[<-Option.some.inj e];show aDl _
    |false=>rw[d]at e;show aBE (g x c e)
   rw[aBh]at b a;cases d:(x==m)with
   |true=>
    rw[d]at b;cases f:(y==m)with
    |true=>rw[show x=m by simpa using d,show y=m by simpa using f]
    |false=>rw[f]at a;rw[<-Option.some.inj b]at a;show gs (g y _ a) (aBx _)
   |false=>
    rw[d]at b;cases f:(y==m)with
    |true=>rw[f]at a;rw[<-Option.some.inj a]at b;show gs (g x _ b) (aBx _)
    |false=>rw[f]at a;show h x y c b a
  show mN r n B g h
abbrev fO(X:Cx)(a:eO)(C:a5):List (Str×a5):=bc (C+1) a.names (WA X.env a.names [])
def NZ{E:D7}{Q:Env->ai->Prop}(f:Q (newEnv a s.heap.objs.size g (bc (s.heap.objs.size+1) a.names h) q none .none (some env) builtinsNs) {s with heap:=fb (s.heap.push {cls:=.type "dict",data:=.dict #[]}) a.names}):
  a9 M A (ff a g h [] q none .none (some env)) Q E s:=by
 erw[ff,Option.isSome_some,if_true];show aAa (wpAny_alloc (aAa (wpAny_layCells _ (λe b d=>by cases i:b==aBo<;>simp) _ _ _ _ ?_)));rw[show({s with heap:=s.heap.push {cls:=.type "dict",data:=.dict #[]}}:ai).heap.objs.size=s.heap.objs.size+1 from aBm ..];show aAa (aAb<|aAb f)
def NO{R:Result->ai->Prop}(I:Nat->ai->Prop)(turn:∀n s,I n s->a9 (ba prog w) A (fg o) (λr f=>match r with
   |none=>R (.ok .next) f
   |some v=>a9 (ba prog w) A (letOwnedTupleGo a o v) (λ_ e=>a9 (ba prog w) A (gh a env v) (λ_ p=>
    a9 (ba prog w) A (forIn g true λc r=>if r=true then do let ok<-isTrue c env (cu c env);pure (aCt ok)else pure (aCt r)) (λok i=>
     if ok=true then a9 (ba prog w) A (cu j env) (λx q=>a9 (ba prog w) A (call (.builtin "list.append") [B,x]) (λ_ t=>∃m,m<n/\I m t) (λ_ _=>False) q) (λ_ _=>False) i
     else∃m,m<n/\I m i) (λ_ _=>False) p) (λ_ _=>False) e) (λ_ _=>False) f) (λ_ _=>False) s) (n:Nat) (h:I n s):ee (ba prog w) A (.compLoop (.ListComp j [{a,iter,g,0}] k y) 0 o B env) R s:=by
 show codeAny_loop rfl I (λn s z=>?_) n h;show wpAny_noted ?_;rw[compTurn_list];show aAa (aEg<|aAa<|aCJ (turn n s z) (λr f d=>?_) λ_ _ b=>b.elim);cases r with
 |none=>show aAb d
 |some v=>
  show aAa (aCJ d (λ_ e l=>?_) λ_ _ b=>b.elim);show aAa (aCJ l (λ_ p C=>aAa (aCJ C (λok i u=>?_) λ_ _ b=>b.elim)) λ_ _ b=>b.elim);cases ok with
  |false=>show aAb {rfl,u}
  |true=>show aAa (aAa<|aCJ u (λx q E=>aAa (aCJ E (λ_ t H=>aAb (aAb {rfl,H})) λ_ _ b=>b.elim)) λ_ _ b=>b.elim)
def LS(X:Cx)(Y:R7)(s9:ai)(H9:Hp)(b:List Str)(a:eO)(d:List (Str×a5))(C:a5)(e:List a5):Cx where
 prog:=X.prog
 w:=X.w
 K:=X.K
 mg:=X.mg
 base:=X.base
 A:=X.A
 N:=b
 s9:=s9
 H9:=H9
 env:=compEnvC a d C X.env
 outer:=X.stack
 stack:=X.stack
 ex:=e
 fn:=λx=>a.names.lookup x==some .cell
 calm:=X.calm
 pn:=X.pn++Y
 xe:=λ_ _=>False
structure CompSc(X:Cx)(scope:Scope)(own fr:List Str)(js:List Nat):Prop where
 kind:scope.kind=.function
 apart:∀y∈scope.names,y.2=.free->(y.1,aBo)∉scope.names
 names:∀y∈scope.names,y.2=.local->scope.names.lookup y.1=some .local
 free:∀y∈scope.names,y.2=.free->X.env.kindOf y.1=some .cell\/X.env.kindOf y.1=some .free
 len:js.length=fr.length
 at_:∀(i j:Nat) (x:Str),js[i]?=some j->fr[i]?=some x->X.N[j]?=some x/\(x,NameKind.free)∈scope.names
 nd:js.Nodup
 dis:∀y∈scope.names,y.2=.free->scope.names.lookup y.1=some .free
def seen:Sl->Sl
 |.v d=>.v d
 |.d k=>.d k
 |_=>.no
def f9(own:List Str)(js:List Nat)(ρ:Ev):Ev:=aCU own.length Sl.no++js.map λj=>seen (ρ.getD j Sl.no)
def V5(own:List Str)(js:List Nat)(a:St):St:=aCU own.length none++js.map λj=>a.getD j none
def Inv.ab5(I:L2.Inv X Y e H s)(S:CompSc X a own f js):∀y∈a.names,y.2=.free->∃c,X.env.cells.lookup y.1=some c:=
 λy b d=>I.ok.has y.1 (S.free y b d)
def X5(h:(f9 own js ρ)[i]?=some sl):sl=.no\/∃j,((∃d,sl=.v d)\/∃k,sl=.d k)/\own.length<=i/\js[i-own.length]?=some j/\ρ[j]?=some sl:=by
 unfold f9 at h;by_cases f:i<own.length
 .rw[aBe (by nofun),aBO,gi f]at h
  nofun
 have g:own.length<=i:=aCP f;rw[aAG (by nofun),aCu,aAP]at h;cases e:js[i-own.length]? with
 |none=>nofun
 |some j=>
  rw[e]at h;have a:seen (ρ.getD j Sl.no)=sl:=Option.some.inj h;rw[aAD]at a;cases b:ρ[j]? with
  |none=>rw[b]at a;subst a;show .inl rfl
  |some z=>
   rw[b]at a;cases z with
   |v d=>subst a;show .inr {j,.inl {d,rfl},g,rfl,b}
   |d k=>subst a;show .inr {j,.inr {k,rfl},g,rfl,b}
   |_=>subst a;show .inl rfl
def tK{a:St}(b:own.length<=i)(e:js[i-own.length]?=some j)(h:j<a.length):(V5 own js a)[i]?=a[j]?:=by
 unfold V5;rw[aAG (by nofun),aCu,aAP,e]
 nofun
def OI{K:gy}{l H:Hp}{m O:a5->Prop}{f:St}{ρ:Ev}{own:List Str}{js:List Nat}(s:js.Nodup)(E:EnvOk K l m H O f ρ):EnvOk K l m H O (V5 own js f) (f9 own js ρ):=by
 have lt:∀{j g},ρ[j]?=some g->j<f.length:=λh=>by rw[E.len];show(aAB.mp h).1
 show{by simp[V5,f9],E.same,E.sub,E.trk,E.trk0,E.tab,λi g h=>?_,λi v x y a b d o n q p=>?_}
 .rcases X5 h with rfl|⟨j,_,k,e,b⟩
  .trivial
  rw[tK k e (lt b)];show E.slot j g b
 rcases X5 b with rfl|⟨j,_,t,e,b⟩
 .show o.elim
 rcases X5 d with rfl|⟨u,_,k,r,d⟩
 .show n.elim
 rw[tK t e (lt b)]at q;rw[tK k r (lt d)]at p;have:=E.inj j u x y a b d o n q p;subst this;have:=(List.getElem?_inj (aAB.mp e).1 s).mp (e.trans r.symm);grind
def OU(I:L2.Inv X Y N H s)(S:CompSc X a own U js)(O:∀b∈Q,pB X Y H b)(av:∀b∈Q,b<s.heap.objs.size)(e8:h₁=fb (s.heap.push {cls:=.type "dict",data:=.dict #[]}) a.names):
  L2.Inv (LS X Y s H (own++U) a (fO X a s.heap.objs.size) s.heap.objs.size Q) [] (V5 own js N) H {s with heap:=h₁,toks:=tk}:=by
 have g:∀b o,s.heap.get? b=some o->h₁.get? b=some o:=λb o e=>by rw[e8];show aDd _ _ _ _ (aAc _ e)
 have uu:h₁.Ns s.heap.objs.size (λ_=>none):=by rw[e8];show(Heap.Ns.new s.heap<|.type "dict").keeps (aDd _ _)
 have cc:=λx c h=>by have:=rZ a.names (s.heap.push {cls:=.type "dict",data:=.dict #[]}) (WA X.env a.names []) (x:=x) (c:=c) (by rw[aBm];show h);rw[aBm,<-e8]at this;show this
 have B:∀x c,(WA X.env a.names []).lookup x=some c->X.env.cells.lookup x=some c:=λx c h=>CK a.names [] (Inv.ab5 I S) (λ_ _ z=>(by cases z)) h;have l:∀b o,X.base.get? b=some o->b∉Q:=λb o e t=>by
  rcases(O b t).2.2.2.1 with z|z
  .show I.ok.noex b o e z
  show gs (aAn (aAg e)<|aAj I.ok.bsz z) (aBx _)
 have nfs:∀b∈Q,b∉CU X.stack:=λb t z=>by
  rcases aAe.mp (I.ab6 b z)with e|z
  .show(O b t).2.1 e
  show(O b t).2.2.1 z
 have q:∀x c,X.env.cells.lookup x=some c->c<s.heap.objs.size+1:=λx c h=>by let{v,o,L,_}:=I.cell x c h;show aBE (aAg L)
 have has:∀x,((relabel a X.env).names.lookup x=some .cell\/(relabel a X.env).names.lookup x=some .free)->∃c,(fO X a s.heap.objs.size).lookup x=some c:=λx J=>by
  have:((fO X a s.heap.objs.size).lookup x).isSome=true:=PySem.W.cellsFrom_some _ _ _ (by
   rcases lJ J with h|h
   .let{c,hc}:=xK (env:=X.env) a.names [] (x:=x) (.inl h);grind
   show .inl h)
  show aFx.mp this
 show⟨⟨I.ok.mod,S.kind,I.ok.glob,I.ok.blt,aAi _,mN a.names _ _ (λx c h=>q x c (B x c h)) (λx y c h1 w=>I.ok.inj x y c (B x c h1) (B y c w)),has,λx c hf h=>aCK (qW a.names _ _ (PySem.mem_of_lookup<|eq_of_beq hf) h),I.ok.hd,I.ok.frames,.inl rfl,
  λb t=>{aAm (av b t),λx c h=>(cc x c h).elim (λh=>(O b t).2.2.2.2.1 x c (B x c h)) λ⟨_,w⟩ z=>gs (aAn (av b t)<|aCK w) (by grind)},I.bs,aAj I.ok.bsz I.sz,λb o e=>l b o e,nfs,I.stack,I.ae0⟩,rfl,I.bare,Un.kept g,{_,uu,λi x v e1 A C=>?_},λx c h=>?_,I.hok.fresh (aAi _),λx c h=>(cc x c h).elim (λh=>I.freeC x c (B x c h)) λ⟨_,w⟩=>I.hok.fresh (aCK w),λp hp=>?_,I.hok.kept g,?_⟩
 .
  have hlen:(own++U).length=(V5 own js N).length:=by simp[V5,S.len]
  unfold V5 at A;by_cases hi:i<own.length
  .rw[aBe (by exists hi),aBO,gi hi]at A;cases A
  have eu:own.length<=i:=aCP hi;rw[aAG (by exists eu),aCu,aAP]at A;have vg:(own++U)[i]?=some x:=e1;rw[aAG eu]at vg;cases e:js[i-own.length]? with
  |none=>rw[e]at A;cases A
  |some j=>
   rw[e]at A;have e2':N.getD j none=some v:=Option.some.inj A;let{hN,T}:=S.at_ (i-own.length) j x e vg;have hσ:N[j]?=some (some v):=by grind
   have hk:=S.free (x,.free) T rfl;let{m,hn,hl}:=I.loc;let{u,r,lk}:=hl j x v hN hσ (.inr hk);show{u,r,?_};rcases lk with⟨jo,_⟩|⟨_,c,hc,jf⟩
   .nofun
   right;let{c',yi}:=xK (env:=X.env) a.names [] (x:=x) (.inl T);have:=B x c' yi;rw[hc]at this;cases this;show{?_,c,(rG a.names _ _<|S.apart (x,.free) T rfl).trans yi,?_}
   .rcases C with C|C|C
    .
     exfalso;have:∀f:List (Str×cv),(f.map λ(n,k)=>if(k==NameKind.free&&X.env.scope.kind==.function&&X.env.kindOf n==some .cell)then(n,aBo)else(n,k)).lookup x=some .local->f.lookup x=some .local:=by
      intro f;induction f with
      |nil=>intro h;cases h
      |cons y r ih=>
       let{n,k}:=y;intro h;rw[aAq]at h;dsimp only at h;by_cases J:x=n
       .subst J;by_cases E:(k==NameKind.free&&X.env.scope.kind==.function&&X.env.kindOf x==some .cell)=true
        .nofun
        nofun
       rw[aBh,beq_eq_false_iff_ne.mpr J];by_cases E:(k==NameKind.free&&X.env.scope.kind==.function&&X.env.kindOf n==some .cell)=true
       .rw[gi E,aBh,beq_eq_false_iff_ne.mpr J]at h;show ih h
       rw[gk E,aBh,beq_eq_false_iff_ne.mpr J]at h;show ih h
     have w:=this a.names C;rw[S.dis (x,.free) T rfl]at w;cases w
    .show .inl C
    show .inr C
   let{o,L,hd}:=jf;show{o,g c o L,hd}
 .rcases cc x c h with h|⟨h,_⟩
  .let{v,o,L,hd}:=I.cell x c (B x c h);show{v,o,g c o L,hd}
  show{_,h}
 .have hp':p∈X.pn++Y:=by simpa[LS]using hp
  let{e,n,ne,nf,d}:=I.pin p hp';show{g _ _ e,n,aAm (aAg e),λz=>?_,d};rcases aAe.mp (I.ab6 p.1 z)with e'|z'
  .show ne e'
  show nf z'
 simp[V5,LS,S.len]
def v7(G:D->Ev->R Ev)(ft:Ev->R Bool)(fe:Ev->R D)(ρ:Ev):List D->R (List D)
 |[]=>.ok []
 |d::e=>match G d ρ with
  |.ok a=>(ft a).bind λb=>if b=true then(fe a).bind λr=>(v7 G ft fe ρ e).bind λf=>.ok (r::f)else v7 G ft fe ρ e
  |_=>.bad
def rO(ρ1 ρ:Ev):Prop:=ρ1.length=ρ.length/\∀(i:Nat) (a:Sl),ρ[i]?=some a->a≠.no->ρ1[i]?=some a
def EnvOk.weak{K:gy}{b H:Hp}{d O:a5->Prop}{f:St}{ρ1 ρ:Ev}(E:EnvOk K b d H O f ρ1)(h:rO ρ1 ρ):EnvOk K b d H O f ρ where
 len:=E.len.trans h.1
 same:=E.same
 sub:=E.sub
 trk:=E.trk
 trk0:=E.trk0
 tab:=E.tab
 slot:=λi g e=>by
  by_cases n:g=.no
  .subst n;trivial
  show E.slot i g (h.2 i _ e n)
 inj:=λi j x y a m o k l=>E.inj i j x y a (h.2 i _ m (by rintro rfl;show k)) (h.2 j _ o (by rintro rfl;show l)) k l
def P8(H:Hp)(a:a5):Hp:=λb=>if b=a then none else H b
def tU(H:Hp)(a:a5):P8 H a a=none:=gi rfl
def P9(h:b≠a):P8 H a b=H b:=gk h
def vJ(h:H a=some o):upd (P8 H a) a o=H:=by
 funext b
 unfold upd P8
 nofun
def EnvOk.ae4{K:gy}{d H:Hp}{e O:a5->Prop}{f:St}{ρ:Ev}{a:a5}{vs:List V}(E:EnvOk K d e H O f ρ)(h:H a=none)(g:K.lookup a=none):EnvOk K d e (upd H a (.lst vs)) (λb=>O b\/b=a) f ρ:=E.ac0 h g trivial
def Rep.hidden{K:gy}{H:Hp}{O:a5->Prop}{a:a5}{vs:List V}{v:V}{d:D}(h:H a=some (.lst vs))(r:Rep K H (λb=>O b\/b=a) v d):Rep K (P8 H a) O v d:=by
 show r.mono (λb f q=>?_) (λb f n q=>{λz=>n (.inl z),?_}) λb g n q=>{λz=>n (.inl z),by rw[P9 λz=>n (.inr z)];show q}
 .rcases q with(q|⟨o,q⟩)|q
  .show .inl (.inl (by rw[P9 (by grind)];show q))
  .show .inl (.inr {o,by rw[P9 (by grind)];show q})
  show .inr q
 have e:=λz=>n (.inr z);rcases q with(q|⟨o,q⟩)|q
 .show .inl (.inl ((P9 e)▸q))
 .show .inl (.inr {o,by rw[P9 e];show q})
 show .inr q
def W8(h:H a=none)(s:Same (upd H a (.lst vs)) H'):Same H (P8 H' a):=λb o q=>by
 have d:b≠a:=by grind
 rw[P9 d];show s b o ((j5 d)▸q)
def ItC(K:gy)(J:It)(H:Hp)(O:a5->Prop)(ds:List D):Prop:=∀b e,Same H b->Kp H O b e->V9 K e->(∀a,O a->∃o,H a=some o/\Mt o)->(∀a,e a->∃o,b a=some o/\Mt o)->∀i:Nat,
 (∀d,ds[i]?=some d->J.go i b/\∀x f,J.yld i b x f->Same b f/\Rep K f e x d)/\(ds[i]?=none->J.stop i b)
def ItD.c{K:gy}(h:ItD K J H O ds):ItC K J H O ds:=λa b _=>h a b
def tIc(X:Cx)(f:Ev->R (List D)):TI:=λd H R=>∃g h O b,EnvOk X.K g h H O d b/\V9 X.K O/\match f b with
 |.ok i=>∀J a,Same H a->ItC X.K J a O i->R J a
 |.ex e=>∀a,Same H a->XW X e a
 |.bad=>False
def PIC(X:Cx)(a iter:bp)(f:Ev->R (List D)):Prop:=PI X a iter (tIc X f)
def pic(h:YQ X b iter f):PIC X b iter f:=EU h<|by rintro j H R ⟨d,g,O,a,E,k,q⟩;show⟨d,g,O,a,E,k,by
 cases e:f a with
 |ok l=>rw[e]at q;showλJ i s h=>q J i s h.c
 |ex x=>rw[e]at q;show q
 |bad=>rw[e]at q;show q⟩
section
def ak(X:Cx)(a:List bp)(ft:Ev->R Bool):Prop:=
 ∀(Y:R7) (s:ai) (b:St) (H:Hp) (Q:Bool->Hp->Prop),Inv X Y b H s->tDT X ft b H Q->
  a9 (ba X.prog X.w) X.A (forIn a true λc r=>if r=true then do let ok<-isTrue c X.env (cu c X.env);pure (aCt ok)else pure (aCt r)) (TP X Y b Q) X.xe s
def ZW:ak X [] (λ_=>.ok true):=by rintro Y s a H Q I ⟨b,d,O,e,E,q⟩;show wpAny_tests_nil {H,I,q H (Same.refl _)}
def JU(h:JN X c ft):ak X [c] ft:=λY s a H Q I q=>wpAny_tests_one (h Y s a H Q I q)
def AX{tg elt iter:bp}{ifs:List bp}{scope:eO}{own fr:List Str}{js:List Nat}{G:D->Ev->R Ev}{ft:Ev->R Bool}{fe:Ev->R D}{Y:R7}{σ:St}{H:Hp}{s:ai}{H9:Hp}{O0 O:a5->Prop}{ρ:Ev}
  {it:a5}{Q:List a5}{tn:Nat->bt->Prop}{J:It}{ds rs:List D}{RR:af->a5->Result->ai->Prop}{EE:D7} (hc:X.calm=true) (S:CompSc X scope own fr js)
  (hX:∀t:Cx,(∃s9 Ha C,t=LS X Y s9 Ha (own++fr) scope (fO X scope C) C Q)->PR t tg G/\ak t ifs ft/\PD t elt fe)
  (hG:∀d ρ1,G d (f9 own js ρ)=.ok ρ1->rO ρ1 (f9 own js ρ))
  (I:Inv X Y σ H s) (T:Turn X.prog X.w X.K tg J Q it tn) (st:tn 0 s.heap) (wg:∀b∈Q,pB X Y H b) (E:EnvOk X.K H9 O0 H O σ ρ) (hJ:ItC X.K J H O ds) (hrs:v7 G ft fe (f9 own js ρ) ds=.ok rs) (hlen:ds.length<=sizeLine)
  (fin:∀B C s' H' m,s'.heap.Ns C m->C≠B->s.heap.objs.size<=C->s.heap.objs.size<=B->Same H H'->Rep X.K H' O (.ref B) (.lst rs)->(∃H1 vs,Same H H1/\H1 B=none/\H'=upd H1 B (.lst vs)/\Reps X.K H1 O vs rs)->H' C=none->(∀h',Heap.SameBut C s'.heap h'->Inv X Y σ H' {s' with heap:=h'})->RR (.ref B) C (.ok .next) s'):
  a9 (ba X.prog X.w) X.A (newList []) (λB sa=>a9 (ba X.prog X.w) X.A (ff scope X.env.globals (WA X.env scope.names []) [] X.env.qual none .none (some X.env)) (λcenv se=>ee (ba X.prog X.w) X.A (.compStart (.ListComp elt [{tg,iter,ifs,0}] scope pos) 0 (.ref it) B {cenv with scope:=relabel scope X.env}) (RR B cenv.locals) se) EE sa) EE s:=by
 have hO:=pH I O E.trk;show aBd ?_;have hfr:H s.heap.objs.size=none:=I.hok.fresh (aAi _);have hkl:X.K.lookup s.heap.objs.size=none:=by
  cases e:X.K.lookup s.heap.objs.size with
  |none=>rfl
  |some o=>show gs (aAg<|I.kIn _ o e) (aBx _)
 have I1:Inv X Y σ (upd H s.heap.objs.size<|.lst []) {s with heap:=s.heap.push {cls:=.type "list",dict:=none,data:=.seq ([]:List af).toArray}}:=
  I.laid (t':=s.toks) (λb u e=>aAc _ e) (aAi _) {aAU _,[],0,.nil,aAo _ rfl}
 generalize de:s.heap.objs.size=B at*
 generalize zi:({s with heap:=s.heap.push {cls:=.type "list",dict:=none,data:=.seq ([]:List af).toArray}}:ai)=s1 at I1⊢;have sz1:s1.heap.objs.size=B+1:=by rw[<-zi,<-de];show aBm _ _
 have keep1:∀b o,s.heap.get? b=some o->s1.heap.get? b=some o:=λb o e=>by rw[<-zi];show aAc _ e
 have wo:∀b∈Q,b<B:=λb g=>by let{o,e,_}:=T.obj 0 _ st b g;rw[<-de];show aAg e
 have hfp1:∀b∈Q,pB X Y (upd H B<|.lst []) b:=λb g=>by let{f0,f}:=wg b g;show{by rw[j5 (aAm<|wo b g)];show f0,f}
 show NZ ?_;obtain⟨L,e8⟩:∃L,fb (s1.heap.push {cls:=.type "dict",data:=.dict #[]}) scope.names=L:={_,rfl};rw[e8];have keep2:∀b o,s1.heap.get? b=some o->L.get? b=some o:=λb o e=>by rw[<-e8];show aDd _ _ _ _ (aAc _ e)
 have IB:=OU (tk:=s1.toks) I1 S hfp1 (λb g=>by rw[sz1];show aBE (wo b g)) e8.symm;generalize hC:s1.heap.objs.size=C at*
 let{hG',hT',hE'}:=hX _ {s1,upd H B (.lst []),C,rfl};generalize oa:LS X Y s1 (upd H B<|.lst []) (own++fr) scope (fO X scope C) C Q=t at IB hG' hT' hE';have eP:t.prog=X.prog:=by rw[<-oa];rfl
 have eW:t.w=X.w:=by rw[<-oa];rfl
 have eK:t.K=X.K:=by rw[<-oa];rfl
 have eA:t.A=X.A:=by rw[<-oa];rfl
 have eC:t.calm=true:=by rw[<-oa];show hc
 have eX:t.xe=λ_ _=>False:=by rw[<-oa];rfl
 have eE:t.env=compEnvC scope (fO X scope C) C X.env:=by rw[<-oa];rfl
 have eX0:t.ex=Q:=by rw[<-oa];rfl
 have ePn:t.pn=X.pn++Y:=by rw[<-oa];rfl
 have eFs:t.fs=CU X.stack:=by rw[<-oa];rfl
 have eS0:t.s9=s1:=by rw[<-oa];rfl
 have eH0:t.H9=upd H B (.lst []):=by rw[<-oa];rfl
 have eL:t.env.locals=C:=by rw[eE];rfl
 have eCe:t.env.cells=fO X scope C:=by rw[eE];rfl
 have I2of:=IB;have accC:B≠C:=by rw[sz1];show aAm (aDl _)
 have fpC:∀b∈Q,b≠C:=λb g=>by have h1:=wo b g;rw[sz1];show aAm (aBE h1)
 have fpB:∀{H':Hp},(∀b∈Q,H' b=none)->∀b∈Q,pB t [] H' b:=λ{H'} hn b g=>by
  let{f0,f1,f2,f3,f4,f5}:=wg b g;show{hn b g,by rw[eL];show fpC b g,?_,.inl (by rw[eX0];show g),λx c h=>(λb g x c h=>(I2of.ok.exf b (by rw[eX0];show g)).2 x c h) b g x c h,λp hp=>f5 p (by grind)};rw[eFs];intro z;rcases aAe.mp (I.ab6 b z)with e|z
  .show f1 e
  show f2 z
 have uz:tn 0 L:=T.keep 0 s.heap L st λb g o e=>keep2 b o (keep1 b o e)
 let Iv:Nat->ai->Prop:=λn s'=>∃i au N vs rd,n=ds.length-i/\i<=ds.length/\Inv t [] au (upd N B<|.lst vs) s'/\N B=none/\tn i s'.heap/\(∀b∈Q,N b=none)/\EnvOk X.K H9 O0 N O au (f9 own js ρ)/\Same H N/\
  Reps X.K N O vs rd/\(∃rest,v7 G ft fe (f9 own js ρ) (ds.drop i)=.ok rest/\rs=rd++rest)/\vs.length<=i
 have loop:ee (ba X.prog X.w) X.A (.compLoop (.ListComp elt [{tg,iter,ifs,0}] scope pos) 0 (.ref it) (.ref B) (compEnvC scope (fO X scope C) C X.env)) (RR (.ref B) C) {s1 with heap:=L}:=by
  show NO Iv ?_ ds.length {0,_,H,[],[],by simp,aAU _,IB,hfr,uz,λb g=>(wg b g).1,OI S.nd E,Same.refl H,.nil,{rs,by rw[List.drop_zero];show hrs,rfl},aAU _};rintro n s2 ⟨i,ym,N,vs,rd,rfl,hi,I2,yp,lu,fx2,E2,yr,r2,⟨rest,l,wu⟩,hvl⟩;have fr2:∀b∈Q,(upd N B<|.lst vs) b=none:=λb g=>by rw[j5 (aAm<|wo b g)];show fx2 b g
  have sU:=j1 yp (.lst vs);have hit:=hJ (upd N B<|.lst vs) (λb=>O b\/b=B) (yr.trans sU) (λb o q n=>{sU b o (yr b o q),λz=>z.elim n λz=>by subst z;rw[hfr]at q;cases q}) (λa o q z=>z.elim (hO a o q) λz=>by subst z;rw[hkl]at q;cases q) E.trk
   (λa z=>(E2.ae4 (vs:=vs) yp hkl).trk a z) i
  by_cases av:i<ds.length
  .let{go,yl}:=hit.1 ds[i] (aAk av);rw[aDQ av,v7]at l;have ph:=T.item t eP eW eK eC i [] s2 ym _ (λ_ _=>False) I2 (fpB fr2) lu go;rw[eA]at ph;show G4 ph λr s3 z9=>?_;let{u,hr,h3}:=z9;subst hr;show G4 h3 λ_ s4 z9=>?_;let{x,H4,I4,ru,y4,st4,fr4}:=z9;let{sm4,rep4}:=yl x H4 y4;cases e1:G ds[i] (f9 own js ρ)with
   |ex z=>rw[e1]at l;cases l
   |bad=>rw[e1]at l;cases l
   |ok ρ1=>
    rw[e1]at l;dsimp only at l;have I4':=I4.pinned (fpB fr4) (T.obj _ _ st4);have again:∀{s7:ai}{qi:St}{y:Hp}{vs7:List V}{rd7:List D}{rest7:List D},Inv t ([]++sV Q s4.heap) qi y s7->y B=some (.lst vs7)->EnvOk X.K H9 O0 (P8 y B) O qi (f9 own js ρ)->Same H (P8 y B)->Reps X.K (P8 y B) O vs7 rd7->
      v7 G ft fe (f9 own js ρ) (ds.drop<|i+1)=.ok rest7->rs=rd7++rest7->vs7.length<=i+1->∃m,m<ds.length-i/\Iv m s7:=λ{s7 qi y vs7 rd7 rest7} I7 h7 E7 sm7 r7 hr7 hrs7 hv7=>by
     show{ds.length-(i+1),by lia,i+1,qi,P8 y B,vs7,rd7,rfl,av,?_,tU _ _,T.keep _ _ _ st4 λb g o e=>(I7.pin (b,o)<|aAu _<|aAu _<|cM g e).1,λb g=>?_,E7,sm7,r7,{rest7,hr7,hrs7},hv7}
     .rw[vJ h7];show I7.ab4
     rw[P9 (aAm<|wo b g)];let{o,e,d}:=T.obj _ _ st4 b g;show(I7.pin (b,o)<|aAu _<|aAu _<|cM g e).2.1
    have hasg:=hG' _ s4 ym H4 x u (λU H5=>Same H4 H5/\EnvOk X.K H9 O0 H5 (λb=>O b\/b=B) U ρ1) I4' ru {H9,O0,_,_,ds[i],ρ1,by rw[eK];show((E2.ae4 yp hkl).grow sm4),by rw[eK];show rep4,e1,λU H5 s5 E5=>{s5,by rw[eK]at E5;show E5}};rw[eP,eW,eA,eE,eX]at hasg;show G4 hasg λ_ s5 z9=>?_;let{U,H5,I5,sm5,E5}:=z9;have hacc5:H5 B=some (.lst vs):=sm5 B _ (sm4 B _ i9);cases e2:ft ρ1 with
    |ex z=>rw[e2]at l;cases l
    |bad=>rw[e2]at l;cases l
    |ok b=>
     rw[e2,R.aa0]at l;have htst:=hT' _ s5 U H5 (λc H6=>c=b/\Same H5 H6) I5 {H9,O0,_,ρ1,by rw[eK];show E5,by rw[e2];showλH6 s6=>{rfl,s6}};rw[eP,eW,eA,eE,eX]at htst;show G4 htst λok s6 z9=>?_;let{H6,I6,g,sm6}:=z9;subst g;have sm46:=sm4.trans (sm5.trans sm6);have hacc6:H6 B=some (.lst vs):=sm6 B _ hacc5;have smx6:Same N (P8 H6 B):=W8 yp sm46;have W1:rO ρ1 (f9 own js ρ):=hG _ _ e1;have Eb:∀{y:Hp},Same H5 y->EnvOk X.K H9 O0 (P8 y B) O U (f9 own js ρ):=λ{y} s7=>by
      have E7:=(E5.grow s7).weak W1;have h7:y B=some (.lst vs):=s7 B _ hacc5;show{E7.len,E2.same.trans (W8 yp<|sm4.trans<|sm5.trans s7),E2.sub,λa z=>?_,E2.trk0,E2.tab.same (W8 yp<|sm4.trans<|sm5.trans s7),λj sl e=>?_,E7.inj}
      .let{o,q,mt}:=E2.trk a z;show{o,W8 yp (sm4.trans<|sm5.trans s7) a o q,mt}
      rcases X5 e with rfl|⟨_,⟨d,rfl⟩|⟨k,rfl⟩,_⟩
      .trivial
      .let{v,h1,h2}:=E7.val j d e;show{v,h1,Rep.hidden h7 h2}
      let{b,o,es,h1,g,h3,h4,h5,h6,h8}:=E7.slot j _ e;have nb:b≠B:=by grind
      show{b,o,es,h1,g.resolve_right nb,h3,by rw[P9 nb];show h4,h5,h6.mono (Rep.hidden h7),h8}
     cases ok with
     |false=>rw[gk aBH]at l⊢;show again I6 hacc6 (Eb sm6) (yr.trans smx6) (r2.same smx6) l wu (Nat.le_succ_of_le hvl)
     |true=>
      rw[gi rfl]at l⊢;cases e3:fe ρ1 with
      |ex z=>rw[e3]at l;cases l
      |bad=>rw[e3]at l;cases l
      |ok dv=>
       rw[e3,R.aa0]at l;cases e4:v7 G ft fe (f9 own js ρ) (ds.drop<|i+1)with
       |ex z=>rw[e4]at l;cases l
       |bad=>rw[e4]at l;cases l
       |ok rest'=>
        rw[e4,R.aa0]at l;have qp:dv::rest'=rest:=R.ok.inj l;have helt:=hE' _ s6 U H6 (λv y=>Same H6 y/\Rep X.K y (λb=>O b\/b=B) v dv) I6 {H9,O0,_,ρ1,by rw[eK];show E5.grow sm6,by rw[e3,RC];showλv y s7 r7=>{s7,by rw[eK]at r7;show r7}};rw[eP,eW,eA,eE,eX]at helt;show G4 helt λuv s7 z9=>?_;let{v,y,I7,ruv,sm7,r7}:=z9;have hacc7:y B=some (.lst vs):=sm7 B _ hacc6;have happ:=vL (X:=t) _ s7 U y (.ref B) [v] (.ref B) [uv] (λ_ H8=>H8=upd y B (.lst (vs++[v]))) I7 rfl (.cons ruv .nil) {B,vs,v,rfl,rfl,hacc7,by lia,rfl};rw[eP,eW,eA,eX]at happ;show G4 happ λ_ s8 z9=>?_;let{_,H8,I8,_,h8}:=z9;subst h8;have hh:P8 (upd y B<|.lst (vs++[v])) B=P8 y B:=by
         funext b
         unfold P8 upd
         nofun
        have smx7:Same N (P8 y B):=W8 yp (sm46.trans sm7);show again (vs7:=vs++[v]) (rd7:=rd++[dv]) (rest7:=rest') I8 i9 (by rw[hh];show Eb (sm6.trans sm7)) (by rw[hh];show yr.trans smx7) ?_ e4 (by rw[wu,<-qp,aDe];rfl) (by rw[aAx];show Nat.succ_le_succ hvl);rw[hh];show(r2.same smx7).snoc (Rep.hidden hacc7 r7)
  have eu:i=ds.length:=by lia
  subst eu;have hstop:=hit.2 (by simp);have ph:=T.done t eP eW eK eC ds.length [] s2 ym _ (λ_ _=>False) I2 (fpB fr2) lu hstop;rw[eA]at ph;show G4 ph λr s3 z9=>?_;let{hr,I3}:=z9;subst hr;rw[List.drop_length,v7]at l;have qp:([]:List D)=rest:=R.ok.inj l;rw[<-qp,aBS]at wu;let{m,hm,_}:=id I3.loc;rw[eL]at hm;show fin B C s3 (upd N B<|.lst vs) m hm (aCA accC) (by lia) (aAi _) (yr.trans sU) ?_ {N,vs,yr,yp,rfl,by rw[wu];show r2} (by rw[<-eL];show I3.free) (λh' jn=>?_)
  .rw[wu];show .lst (M4.of i9) (E2.fresh yp) (r2.same sU)
  have hU:Un (CU X.stack) Q (upd H B<|.lst []) (upd N B<|.lst vs) s1.heap s3.heap:=by have:=I3.base;rw[eFs,eX0,eH0,eS0]at this;show this
  have hCn:∀b o,s1.heap.get? b=some o->b≠C:=λb o e=>by have:=aAg e;rw[hC]at this;show aAm this
  have hU':Un (CU X.stack) Q (upd H B<|.lst []) (upd N B<|.lst vs) s1.heap h':=⟨λb o e n g hx=>(jn.2 b (hCn b o e)).trans (hU.keep b o e n g hx),λb o e n g hx=>by
    let{sl,q}:=hU.slot b o e n g hx;show{sl,(jn.2 b (hCn b o e)).trans q},hU.free,λb o e hx=>by
    let{o',q}:=hU.there b o e hx;show{o',(jn.2 b (hCn b o e)).trans q},hU.tups,hU.frzs,hU.tbls⟩
  have hCf:upd N B (.lst vs) C=none:=by rw[<-eL];show I3.free
  have zl:iK X.prog X.w (upd N B<|.lst vs) h':=λb u e=>by
   have g:b≠C:=by grind
   have:=I3.hok b u e;rw[eP,eW]at this;show this.ab9 (λc v hc q=>(jn.2 c ?_).trans q) (λ_ q=>q) λ_ _ _ q=>q;grind
  have hos:s3.os=s1.os:=by have:=I3.os;rw[eS0]at this;show this
  show I1.ag2 (s':={s3 with heap:=h'}) (ch:=Q) hos hU' zl I3.bare λb g=>by let{f0,f1,f2,f3,f4,f5}:=wg b g;show{f3,f1,f4,f5}
 show codeAny_compStart_list loop (T.self _ 0 _ _ _ uz loop)
def VH(own w:List Str)(js:List Nat)(N:X.calm=true)(S:CompSc X a own w js)(U:PIC X y iter z)(hX:∀(Y:R7) (i:List a5) (g:Cx),(∃s9 Ha C,g=LS X Y s9 Ha (own++w) a (fO X a C) C i)->PR g y G/\ak g j ft/\PD g k fe)(hG:∀ρ d ρ1,G d (f9 own js ρ)=.ok ρ1->rO ρ1 (f9 own js ρ))(hs:(∀x,dA iter X.env x=pure x)<|>7):
  PD X (.ListComp k [{y,iter,j,0}] a pos) (λρ=>(z ρ).bind λds=>if ds.length<=sizeLine then(v7 G ft fe (f9 own js ρ) ds).bind λb=>.ok (.lst b)else .bad):=by
 show wZ λY s σ H Q I H9 O0 O ρ E q=>?_;dsimp only at q;show wpAny_comprehension_free rfl hs (iI<|Inv.ab5 I S) S.kind S.names (G4 (U Y s σ H (λJ l=>∃ds b,Same H l/\ItC X.K J l O ds/\ds.length<=sizeLine/\v7 G ft fe (f9 own js ρ) ds=.ok b/\∀v f,Same H f->Rep X.K f O v (.lst b)->Q v f) I {H9,O0,O,ρ,E,pH I O E.trk,?_}) λv A h1=>G4 h1 λitv s2 h2=>?_)
 .cases n:z ρ with
  |ex x=>rw[n]at q;show q
  |bad=>rw[n]at q;show q
  |ok ds=>
   rw[n,R.aa0]at q;intro J l A o;split at q
   .rename_i p;cases h:v7 G ft fe (f9 own js ρ) ds with
    |ex x=>rw[h]at q;show(q H<|Same.refl _).elim
    |bad=>rw[h]at q;show q.elim
    |ok b=>rw[h]at q;show{ds,b,A,o,p,h,q}
   show q.elim
 let{it,i,tn,J,H2,e,I2,T,lu,f2,ds,b,L,o,p,t,q}:=h2;subst e;show AX N S (hX Y i) (hG ρ) I2 T lu f2 (E.grow L) o t p ?_;intro B C s' f m hn _ _ _ u r _ _ hI;show{m,hn,λh' jn=>{.ref B,f,hI h' jn,rfl,q _ f (L.trans u) r}}
def C4(own e:List Str)(js:List Nat)(i:X.calm=true)(S:CompSc X a own e js)(j:YQ X h iter k)(l:∀(Y:R7) (m:List a5) (b:Cx),(∃n o C,b=LS X Y n o (own++e) a (fO X a C) C m)->PR b h G/\ak b f ft/\PD b g fe)(p:∀ρ d ρ1,G d (f9 own js ρ)=.ok ρ1->rO ρ1 (f9 own js ρ))(q:(∀x,dA iter X.env x=pure x)<|>7):
 PD X (.ListComp g [{h,iter,f,0}] a r) (λρ=>(k ρ).bind λds=>if ds.length<=sizeLine then(v7 G ft fe (f9 own js ρ) ds).bind λs=>.ok (.lst s)else .bad):=VH own e js i S (pic j) l p q
end
def _root_.L2.ObjOk.live(x:ObjOk P w H h a o):h.get? a≠none:=by
 intro z;have b:∀{u:Obj},h.get? a=some u->False:=λq=>by rw[z]at q;cases q
 cases o with
 |lst d=>let{_,_,_,_,e}:=x;show b e
 |tup d=>let{_,_,_,o,e,_}:=x;show b e
 |dK N=>let{_,_,_,_,o,_,_,e,_}:=x;show b e
 |dT N=>let{_,_,_,_,o,_,_,e,_}:=x;show b e
 |set S n=>let{o,_,_,_,e,_}:=x;show b e
 |ins C g fs=>let{_,_,_,e,_}:=x;show b e
 |own y=>let{_,e}:=x;show b e
 |xd fs=>let{_,{_,_,_,e,_},_}:=x;show b e
 |rng lo i=>let{_,_,_,e}:=x;show b e
 |frz j u=>let{e,_}:=x;show b e
 |tbl k=>let{_,e,_}:=x;show b e
 |met f y=>show b (x)
 |ext l=>let{_,{_,e},_}:=x;show b e
section
end
section
variable{P:bb}{w:bo}{K:gy}{mg:dJ}{base:bt}
end
section
variable{X:Cx}{E:XK}{st:br}{rest:List br}{F:Ev->R Out}{G Ga Gb:Ev->Option af}{pos:Pos}
end
section
variable{K:gy}{h:bt}{C:a5}{bmB:List af}{newId:String}
end
section
variable{X:Cx}{E:XK}{pos bf np:Pos}{x:Str}{C:a5}{bmB:List af}{B newId initId:String}
end
end
end DL
namespace TS
open PySem PyProof.Rows HT
def OV(f:Bool)(x y:af):keyLt' (tupK f) x y=(do
 let xs<-aDs x;let a<-aDs y
 for ((p,q),i)in(xs.toList.zip a.toList).zipIdx do
  if !(<-eqBool p q)then return<-oneLt' (f&&i==0) p q
 return decide (xs.size<a.size)):=rfl
def QT:af->Sem (Option af):=sortPriv%PySem.Builtin.firstOfTuple?
def SW:Array af->Sem (Option af):=sortPriv%PySem.Builtin.oneTypeOnly
def NG(v:af):QT v=(do
 if(<-typeOf v) !=.type "tuple"then return none
 return (<-aDs v)[0]?):=rfl
def XB(vs:Array af):SW vs=(do
 let a<-vs.mapM typeOf
 match a[0]? with
 |some t=>return if a.all (· ==t)then some t else none
 |none=>return none):=rfl
def EY(a:Array af):keyKind' a=(do
 let firsts<-a.mapM QT
 if firsts.all (·.isSome)then
  rule "list.sort.keys-are-tuples"
  return tupK ((<-SW (firsts.filterMap id)).any (· !=.type "tuple"))
 if(firsts[0]?.bind id).isSome then return general'
 return if(<-SW a).isSome then oneType' else general'):=rfl
section
def SL{Q:CJ}(f:Bool)(h:Q (decide (a<b)) s):a9 (ba prog w) A (oneLt' f (.int a t) (.int b u)) Q E s:=by
 cases f with
 |true=>show oneLt_int h
 |false=>rw[oneLt'_eq];show aAa (DF A s a t b u prog w _ _<|aBN h)
def lt_ints(f:Bool){Q:CJ}(hl:IsTup s.heap l items)(hb:IsTup s.heap b m)(T:IntsAre items.toList ns)(U:IntsAre m.toList I)(h:Q (HT.lexLt ns I) s):a9 (ba prog w) A (keyLt' (tupK f) (.ref l) (.ref b)) Q E s:=by
 let{o,ho,hc,n,hd}:=hl;let{o2,ku,ju,n2,J}:=hb;have z1:items.size=ns.length:=by rw[<-T.length];simp
 have z2:m.size=I.length:=by rw[<-U.length];simp
 rw[OV];show aAa (aEv ho hd<|aAa<|aEv ku J ?_);show aAa (aCB _ (λrest b j=>b.1=none/\j=s/\∃(k:Nat) (B C:List af) (p q:List Int),rest=(B.zip C).zipIdx k/\IntsAre B p/\IntsAre C q/\p.length+m.size=q.length+items.size/\Q (HT.lexLt p q) s)
  (λb j=>j=s/\(∀c,b.1=some c->Q c s)/\(b.1=none->Q (decide (items.size<m.size)) s)) ?turn ?fin _ _ {rfl,rfl,0,items.toList,m.toList,ns,I,rfl,T,U,by lia,h}|>λz=>aCJ z ?post λ_ _ e=>e)
 case post=>
  rintro⟨Y,b2⟩ j ⟨rfl,q1,q2⟩;cases Y with
  |none=>show aAb (q2 rfl)
  |some c=>show aAb (q1 c rfl)
 case fin=>
  rintro⟨Y,b2⟩ j ⟨jl,rfl,k,B,C,p,q,hz,L,H,d,g⟩;show{rfl,λc e=>(by grind),λ_=>?_};cases L with
  |nil=>
   cases H with
   |nil=>rw[aV]at g;erw[aBK]at d;rw[gu (by lia)];show g
   |cons c u hw=>rw[O9]at g;erw[aBK,aAp]at d;rw[gv (by lia)];show g
  |cons a t hv=>
   cases H with
   |nil=>rw[D3]at g;erw[aBK,aAp]at d;rw[gu (by lia)];show g
   |cons c u hw=>nofun
 case turn=>
  rintro⟨⟨y,x⟩,i⟩ rest b j ⟨jl,rfl,k,B,C,p,q,hz,L,H,d,g⟩;cases L with
  |nil=>nofun
  |cons a t r=>
   cases H with
   |nil=>nofun
   |cons c u v=>
    injection hz with N ao;injection N with N O;injection N with hy hx;subst hy hx O;rw[J3]at g;erw[aAp]at d;let{e,he,zg}:=AS A j a t c u;show aAa (he prog w _ _ ?_);cases e with
    |true=>rw[gi (zg.mp rfl)]at g;show aAb {rfl,rfl,_,_,_,_,_,ao,r,v,by lia,g}
    |false=>show aAa (SL _ (aAb {rfl,λc e=>(by grind),λe=>(by cases e)}))
end
section
theorem LJ{a β:Type}{M:Model}{f:a->Sem β}(g:a->β):∀(xs:List a) {Q:List β->ai->Prop},(∀x∈xs,∀{Q:β->ai->Prop},Q (g x) s->a9 M A (f x) Q E s)->Q (xs.map g) s->a9 M A (xs.mapM f) Q E s:=by
 intro b Q h q;cases b with
 |nil=>rw[List.mapM_nil];show aAb q
 |cons x xs=>rw[List.mapM_cons];show aAa (h x (.head _)<|aAa<|LJ g xs (λy d=>h y (.tail _ d))<|aAb q)
def JZ{a β:Type}{M:Model}{f:a->Sem β}(g:a->β)(xs:List a){Q:Array β->ai->Prop}(h:∀x∈xs,∀{Q:β->ai->Prop},Q (g x) s->a9 M A (f x) Q E s)(q:Q (xs.map g).toArray s):a9 M A (xs.toArray.mapM f) Q E s:=by rw[List.mapM_toArray];show aAa (LJ g xs h<|aAb q)
def kind_tuples{vs:List af}{f:Bool}{T:String}{Q:SortKind->ai->Prop}(b:af->af)(h:∀x∈vs,∃a items,x=.ref a/\IsTup s.heap a items/\items[0]?=some (b x)/\s.TypeIs (b x) T)(i:vs≠[])(z:f=(aCy T !=aCy "tuple"))
  (q:Q (tupK f) s):a9 (ba prog w) A (keyKind' vs.toArray) Q E s:=by
 rw[EY];show aAa (JZ (λx=>some (b x)) vs (λx d {Q} e=>?_) ?_)
 .let{a,items,rfl,{o,g,j,n,k},l,_}:=h x d;rw[NG];show aAa (aDY {o,g,j}<|aAa<|aEv g k ?_);rw[l];show aAb e
 have m:((vs.map λx=>some (b x)).toArray.all λx=>x.isSome)=true:=by simp
 have p:(vs.map λx=>some (b x)).toArray.filterMap id=(vs.map b).toArray:=by nofun
 erw[m,p];show aAa (aDq<|aAa ?_);rw[XB];show aAa (JZ (λ_=>aCy T) (vs.map b) (λx d {Q} e=>?_) ?_)
 .let{y,r,rfl}:=aAh.mp d;let{_,_,_,_,_,t}:=h y r;show aDY t e
 cases vs with
 |nil=>show gs rfl i
 |cons v vs=>
  erw[aAq,aBs];have u:((aCy T::aDx ((λ_=>aCy T)∘b) vs).toArray.all λx=>x==aCy T)=true:=by simp
  erw[aCS,aDg,u,if_true];show aAb (aAb ?_)
  nofun
end
theorem lex_irrefl:∀a:List Int,HT.lexLt a a=false:=by
 intro b;cases b with
 |nil=>rfl
 |cons x d=>rw[J3,gi rfl];show lex_irrefl d
theorem lex_total:∀a b:List Int,HT.lexLt a b=false->HT.lexLt b a=false->a=b
 |[],[],_,_=>rfl
 |[],_::_,h,_=>by rw[O9]at h;cases h
 |_::_,[],_,h=>by rw[O9]at h;cases h
 |x::g,y::i,d,f=>by
  rw[J3]at d f;by_cases e:x=y
  .subst e;rw[gi rfl]at d f;rw[lex_total g i d f]
  lia
theorem lex_trans:∀a b c:List Int,HT.lexLt a b=true->HT.lexLt b c=true->HT.lexLt a c=true
 |[],[],_,h,_=>by rw[aV]at h;cases h
 |[],_::_,[],_,h=>by rw[D3]at h;cases h
 |[],_::_,_::_,_,_=>rfl
 |_::_,[],_,h,_=>by rw[D3]at h;cases h
 |_::_,_::_,[],_,h=>by rw[D3]at h;cases h
 |x::i,y::j,z::k,f,d=>by
  rw[J3]at f d⊢;by_cases e:x=y
  .subst e;rw[gi rfl]at f;by_cases g:x=z
   .subst g;rw[gi rfl]at d⊢;show lex_trans i j k f d
   rw[gk g]at d⊢;show d
  rw[gk e]at f;have l:=of_decide_eq_true f;by_cases g:y=z
  .subst g;rw[gk e];show f
  rw[gk g]at d;have m:=of_decide_eq_true d;rw[gk (by omega)];show gv (by omega)
theorem KE:∀a b c:List Int,HT.lexLt a c=true->HT.lexLt a b=true\/HT.lexLt b c=true
 |[],[],_,h=>.inr h
 |[],_::_,_,_=>.inl rfl
 |_::_,_,[],h=>by rw[D3]at h;cases h
 |_::_,[],_::_,_=>.inr rfl
 |x::d,y::f,z::g,h=>by
  rw[J3]at h;rw[J3,J3];by_cases e:x=y
  .subst e;rw[gi rfl];by_cases i:x=z
   .subst i;rw[gi rfl]at h⊢;show KE d f g h
   nofun
  lia
open Classical in
def kV(vs:List af) (key:af->List Int):KeyKind where
 α:=List Int
 blt:=HT.lexLt
 irrefl:=lex_irrefl
 trans:=lex_trans
 negTrans:=KE
 total:=lex_total
 keyOf:=λv=>if v∈vs then some (key v)else none
 dflt:=[]
open Classical in
def tz(h:v∈vs):(kV vs key).keyOf v=some (key v):=gi h
open Classical in
def vz(e:(kV vs key).keyOf v=some l):v∈vs/\key v=l:=by
 have a:(if v∈vs then some (key v)else none)=some l:=e
 lia
def sD(vs:List af):(pairsOf vs).toList=vs.map λv=>(v,v):=by
 unfold pairsOf;rw[List.zip_toArray];change vs.zip vs=_;induction vs with
 |nil=>rfl
 |cons v vs a=>nofun
section
def OE{a:a5}{vs:List af}{n:Nat}{f:Bool}{key:af->List Int}{P:Fin->ai->Prop}(C:s.heap.get? a=some (seqObj "list" vs.toArray n))
  (H:∀d,Bar a s d->∀x∈vs,∀y∈vs,∀(prog:bb) (w:bo) (E:D7) {Q:CJ},Q (HT.lexLt (key x) (key y)) d->a9 (ba prog w) A (keyLt' (tupK f) x y) Q E d)
  (I:2<=vs.length->∀d,Bar a s d->∀{Q:SortKind->ai->Prop},Q (tupK f) d->a9 (ba prog w) A (keyKind' vs.toArray) Q E d) (g:vs.length<64)
  (h:∀m:List af,m.Perm vs->m.Pairwise (λx y=>HT.lexLt (key y) (key x)=false)->P (.done (.ret .none)) {s with heap:=sortedHeap s.heap a vs m.toArray}):
  a9 (ba prog w) A (Builtin.«list.sort» {[.ref a],[]}) P E s:=by
 show AR (κ:=kV vs key) (f:=f) C (λp e=>?_) (λd o prog w E x y k l Q J L q=>?_) (λN d o {Q} q=>I N d o q) g λb hperm O=>?_
 .rw[sD]at e;let{v,r,rfl}:=aAh.mp e;show{key v,tz r}
 .let{T,t}:=vz J;let{U,u}:=vz L;subst t u;show H d o x T y U prog w E q
 have G9:(arrOf b).toList.Perm (vs.map λv=>(v,v)):=by rw[<-sD];show aEV.mp hperm
 have same:∀p∈(arrOf b).toList,p.1=p.2/\p.2∈vs:=λp e=>by let{v,r,rfl}:=aAh.mp (G9.mem_iff.mp e);show{rfl,r}
 have Y:(arrOf b).map (·.2)=((arrOf b).toList.map (·.2)).toArray:=by apply Array.ext';simp
 rw[Y];show h _ ?_ ?_
 .have:=G9.map (·.2);rw[aBs,show((λx:af×af=>x.2)∘λv=>(v,v))=id from rfl,List.map_id]at this;show this
 rw[aCn];intro i j hi hj il;have eu:i<(arrOf b).size:=by exists hi
 have z:j<(arrOf b).size:=by exists hj
 have q:=O i j (aCs il) (by rw[<-hperm.size_eq];show z);have kk:∀k (B:k<(arrOf b).size),KK (kV vs key) (arrOf b) k=key (arrOf b)[k].2:=λk B=>by unfold KK;rw[getElem?_pos _ k B];let{t,u}:=same (arrOf b)[k] (by simp);change((kV vs key).keyOf (arrOf b)[k].1).getD _=_;rw[t,tz u];rfl
 rw[kk i eu,kk j z]at q;rw[aEA,aEA,aGa,aGa];show q
def sorted_keys{x:af}{vs:List af}{f:Bool}{key:af->List Int}{Q:D7}{C:ai->Prop}(t:∀{m:List af->ai->Prop},(∀s',C s'->m vs s')->a9 (ba prog w) A.in1 (collect x) m E s)
  (u:∀s',C s'->∀a,(∀b o,s'.heap.get? b=some o->a.heap.get? b=some o)->∀x∈vs,∀y∈vs,∀(prog:bb) (w:bo) (p:be) (E:D7) (L:p.units<=A.units+5) {Q:CJ},Q (HT.lexLt (key x) (key y)) a->a9 (ba prog w) p (keyLt' (tupK f) x y) Q E a)
  (v:2<=vs.length->∀s',C s'->∀a,(∀b o,s'.heap.get? b=some o->a.heap.get? b=some o)->∀(A:be) {Q:SortKind->ai->Prop},Q (tupK f) a->a9 (ba prog w) A (keyKind' vs.toArray) Q E a) (j:vs.length<64)
  (h:∀(s':ai) (g:List af) (h':bt) (l:a5),C s'->g.Perm vs->g.Pairwise (λx y=>HT.lexLt (key y) (key x)=false)->(∀b o,s'.heap.get? b=some o->h'.get? b=some o)->s'.heap.objs.size<=l->(∃n,h'.get? l=some (seqObj "list" g.toArray n))->Q (.ref l) {s' with heap:=h'}):
  a9 (ba prog w) A (call (.builtin "sorted") [x]) Q E s:=by
 show Calls.call_function_entry kind_sorted plain_sorted entry_sorted (args_sorted1 _) (aAa<|aAb<|aAa<|t λs' k=>(aAa<|wpAny_newList ?_));have d:(s'.heap.push<|seqObj "list" vs.toArray 0).get? s'.heap.objs.size=some (seqObj "list" vs.toArray 0):=aAo _ rfl;have r:∀a,Bar s'.heap.objs.size {s' with heap:=s'.heap.push (seqObj "list" vs.toArray 0)} a->∀b o,s'.heap.get? b=some o->a.heap.get? b=some o:=λa i b o e=>i b o (aAm<|aAg e) (aAc _ e);show aAa (aAV (aBn slot_list_sort {_,d,rfl} entry_list_sort (OE d (λa i x z y B prog w E {Q} q=>u s' k a (r a i) x z y B prog w _ E (by simp) q) (λH a i {Q} q=>v H s' k a (r a i) _ q) j λg I J=>{_,rfl,(aAb {_,rfl,h s' g _ _ k I J (λb o e=>?_) (aAi _) (sortedHeap_at d)})})<|args_list_sort _));rw[sortedHeap_old (aAm<|aAg e) (by rw[aBm];show aBE (aAg e))];show aAc _ e
end
end TS
namespace DL
open PySem PySem.Spec L2
open PyProof.Rows hiding St
variable [Tabs]
omit [Tabs]in
def DR{ns:List Int}(h:PySem.W.WData.layableAll [PySem.W.WData.list (ns.map PySem.W.WData.int)]=true):∀x∈ns,aBg x<=1048576:=λx a=>by have b:=(PySem.W.layW_cons h).1;show PyData.bits_of_layable (by simpa[PyData.layableAll0]using(PySem.W.lay0_int<|PySem.W.layableW_item b (.int x)<|aAh.mpr ⟨x,a,rfl⟩))
def v8(P:bb)(w:bo)(K:gy)(mg:dJ)(base:bt)(k:Nat)(x:Str)(n:Nat)(m:List D->R D):Prop:=
 ∃g a b,FnOk P w K mg base uB k g a b (spD K n m)/\Binds K a b []/\PySem.W.keepIn K (.ref g)=true/\mg x=some (.ref g)
def CQ(f:Ev->R (List D))(n:Nat):Prop:=∀b a,f b=.ok a->a.length=n
def J1:CQ N0 0:=λa b h=>by cases h;rfl
def o5(h:CQ g n):CQ (j8 f g) (n+1):=λa k e=>by
 unfold j8 at e;cases i:f a with
 |ok d=>
  rw[i,R.aa0]at e;cases b:g a with
  |ok j=>rw[b]at e;cases e;rw[aAp,h a j b]
  |ex x=>nofun
  |bad=>nofun
 |ex x=>nofun
 |bad=>nofun
section
def xH(c:v8 X.prog X.w X.K X.mg X.base k x n m)(d:Room k X.A)(h:EA X (e::es) f)(i:CQ f n)(j:Gl X x<|>1)(l:(x==gA)=false<|>2)(o:ag (e::es) X.env=(false,cu e X.env)::ag es X.env<|>1)(G9:(cq a (ag es X.env)).any (·.1)=false<|>1):
  PD X (.Call (.Name x p) (e::es) [] a) (λρ=>(f ρ).bind m):=by
 let{g,r,s,F,b,q,em}:=c;show YZ F d em q b h i j l o G9
end
def a1s{P:bb}{w:bo}{K:gy}{mg:dJ}{base:bt}{x qual:Str}{st:br}{f:a5}{a:cy}{N ps:List Str}{k:Nat}{m:List D->R D}{F:Ev->R Out}(b:Fun K x qual st f a)(S:FnScope N ps (b9 st))(e:Binds K a ps [])(g:mg x=some (.ref f))
  (h:∀(L:af) (A:be) (outer:List Env) (s:ai) (H:Hp) (E:XK),Room k (A.deeper (envOfC qual (b9 st) s.heap.objs.size f L))->aK (MI P w K mg base N qual (b9 st) f L A outer s H E) (k7 st) F)
  (i:∀ds d,ds.length=ps.length->m ds=.ok d->J0 (F (j3 N ds))=.ok d):v8 P w K mg base (k+1) x ps.length m:=
 {f,a,ps,fnD b S h i,e,b.kp,g}
def m9:∀d ρ1,(R.ok ((f9 [x] js ρ).set 0 (Sl.v d)):R Ev)=.ok ρ1->rO ρ1 (f9 [x] js ρ):=λd ρ1 h=>by
 cases h;show{by simp,λi b h a=>?_};cases i with
 |zero=>show gs (by simpa[f9]using h.symm) a
 |succ i=>rw[aCC (by lia)];show h
def HA(sc:eO)(N:List Str)(a:eO)(b:List Str)(js:List Nat):Bool:=
 decide (a.kind=.function)&&a.names.all (λy=>decide (y.2=.free->(y.1,aBo)∉a.names))&&a.names.all (λy=>decide (y.2=.local->a.names.lookup y.1=some .local))&&
 a.names.all (λy=>decide (y.2=.free->sc.names.lookup y.1=some .cell\/sc.names.lookup y.1=some .free))&&decide (js.length=b.length)&&(js.zip b).all (λp=>decide (N[p.1]?=some p.2/\(p.2,NameKind.free)∈a.names))&&decide js.Nodup&&
 a.names.all (λy=>decide (y.2=.free->a.names.lookup y.1=some .free))
def G5(b:X.env.scope=sc<|>1)(d:X.N=N<|>1)(h:HA sc N a e js=true<|>3):CompSc X a own e js:=by erw[HA,aAN,aBA,decide_eq_true_eq]at h;obtain⟨⟨⟨⟨⟨⟨⟨f,g⟩,k⟩,l⟩,m⟩,n⟩,o⟩,p⟩:=h;subst b d;show{f,g,k,l,m,λi j x q r=>(n (j,x)<|aAl (i:=i) ?_),o,p};rw[aBr];show{q,r}
def jy(h:HA X.env.scope X.N a b js=true:=by first|kernel_rfl|with_unfolding_all rfl):CompSc X a own b js:=G5 rfl rfl h
def IG(a:List (Nat×D))(h:∀p∈a,p.1<xs.length):rO (a.foldl (λr p=>r.set p.1 (Sl.v p.2)) (f9 xs js ρ)) (f9 xs js ρ):=by
 have f:∀(a:List (Nat×D)) (r:Ev),(∀p∈a,p.1<xs.length)->r.length=(f9 xs js ρ).length->(∀i,xs.length<=i->r[i]?=(f9 xs js ρ)[i]?)->
   (a.foldl (λr p=>r.set p.1 (Sl.v p.2)) r).length=(f9 xs js ρ).length/\∀i,xs.length<=i->(a.foldl (λr p=>r.set p.1 (Sl.v p.2)) r)[i]?=(f9 xs js ρ)[i]?:=by
  intro a;induction a with
  |nil=>intro r _ b d;show{b,d}
  |cons p a l=>intro r g b d;show l _ (λq m=>g q (aAd _ m)) (by rw[List.length_set];show b) λi k=>?_;have:=g p aBf;rw[aCC (by lia)];show d i k
 let{b,d}:=f a _ h rfl λ_ _=>rfl;show{b,λi n e o=>?_};by_cases k:i<xs.length
 .have:n=.no:=by
   rcases X5 e with z|⟨j,_,s,_⟩
   .show z
   lia
  show gs this o
 rw[d i (by lia)];show e
def TN:∀d ρ1,sW 2 (cU (λd ρ=>.ok (ρ.set 0 (.v d))) (cU (λd ρ=>.ok (ρ.set 1 (.v d))) BS)) d (f9 [x,y] js ρ)=.ok ρ1->rO ρ1 (f9 [x,y] js ρ):=λd ρ1 h=>by
 have e:∀f:List D,f.length=2->cU (λd ρ=>.ok (ρ.set 0<|.v d)) (cU (λd ρ=>.ok (ρ.set 1<|.v d)) BS) f (f9 [x,y] js ρ)=.ok ρ1->rO ρ1 (f9 [x,y] js ρ)
  |[a,b],_,h=>by cases h;show IG (xs:=[x,y]) [(0,a),(1,b)] (by simp)
 unfold sW at h;split at h
 .split at h
  .show e _ ‹_› h
  cases h
 .split at h
  .show e _ ‹_› h
  cases h
 cases h
end DL
namespace DL.Att2
open PySem PySem.W PySem.Calls PyProof.Rows
def attach_bits{l:OpenLaw}{n:Nat}{q:bb}{b:List Str}{t:(Str->Option af)->bt->Prop}{u:bo->bt->Prop}{d:DefRec}
  (B:l.most=some n) (k:d.params.defaults=[])
  (call:∀(w:bo) (m e:ai) (mg p:dJ) (fa:a5) (o:Obj) (s cd g:af) (a:a5) (vs:List af) (ns:List Int),
   Ground q b [] t w m mg p e.heap->u w e.heap->
   e.heap.get? fa=some o->o.data=.func (docDef d.name d.params d.body d.scope s cd g)->e.heap.CodeRec cd d.name->mg d.name=some (.ref fa)->
   e.heap.get? a=some {cls:=.type "list",data:=.seq vs.toArray}->IntsAre vs ns->ns.length<=n->(∀x∈ns,aBg x<=1048576)->e.gens=#[]->
   ee (ba l.prog w) callerA (.call (.ref fa) {[.ref a],[]}) (λr s'=>r=.ok (.ret (.bool true))/\OldK e.heap s'.heap/\s'.os=e.os/\AllBare s'.gens) e):
  WalkO q b t u l.row.toRowW d [] (λf vs=>PySem.call f vs):=by
 intro w m e mg p G Y fa o s cd g C kV E H I v J L y z as N A O Q T;obtain rfl:C=.none:=Dflts.none v k;obtain rfl:kV=.none:=Dflts.noKw v;let{a,vs,ns,rfl,rfl,i,h,j}:=Att.script_of B N Q;have U:=DL.DR (ns:=ns) (by lia);show enter_call (aDX (call w m e mg p fa o s cd g a vs ns G Y E (fd_plain H) I J i h j U L) λr s' hq=>?_);let{rfl,h2,h3,h4}:=hq;show{.inl {.bool true,.bool true,[],rfl,λ_=>rfl,.bool true,Att.post_true l _,λ_=>{aFq,λ_ hm=>(nomatch hm)}},h2,h3,h4}
end DL.Att2
namespace DL
open PySem PySem.Spec L2
open PyProof.Rows hiding St
variable [Tabs]
end DL
namespace DL
open PySem L2
abbrev bits(a:Int):Nat:=aBg a
def i6(h:n4 a b):dM (.int a) (.int b)=.ok (.int (a*b)):=gi h
def nJ(h:CT b):iG (.int a) (.int b)=.ok (.int (a.fdiv b)):=gi h
def qN(h:b≠0):BP (.int a) (.int b)=.ok (.int (a.fmod b)):=gi h
def DU(h:0<=b/\b<=1000000/\a.natAbs<2^64):HX (.int a) (.int b)=.ok (.int (a^b.toNat)):=gi h
def n4.of(d:bits a<=m)(e:bits b<=n)(f:m<=60000000<|>2)(g:n<=60000000<|>2):n4 a b:={aAj d f,aAj e g}
def bits_add(d:bits a<=n)(e:bits b<=n):bits (a+b)<=n+1:=by have:=PyProof.Rows.bits_add d e;rw[Nat.max_self]at this;show this
def bits_sub(d:bits a<=n)(e:bits b<=n):bits (a-b)<=n+1:=by have:=PyProof.Rows.bits_sub d e;rw[Nat.max_self]at this;show this
def bits_mul(d:bits a<=m)(e:bits b<=n):bits (a*b)<=m+n:=PyProof.Rows.bits_mul d e
def bits_neg(b:bits a<=m):bits (-a)<=m:=PyProof.Rows.bits_neg b
def IZ(h:a.natAbs<2^n):bits a<=n:=PyProof.Rows.intBits_le h
def JD(h:bits a<=n):a.natAbs<2^n:=PyProof.Rows.lt_pow_of_bits h (aAi n)
@[simp]def L5(d:D)(ρ:Ev):G6 0 (Sl.v d::ρ)=.ok d:=rfl
@[simp]def Q5(i:Nat)(x:Sl)(ρ:Ev):G6 (i+1) (x::ρ)=G6 i ρ:=rfl
@[simp]def aG(d:D)(ρ:Ev):dG 0 (Sl.v d::ρ)=.ok d:=rfl
@[simp]def sQ(d:List D)(ρ:Ev):dG 0 (Sl.o d::ρ)=.ok (.lst d):=rfl
@[simp]def U9(i:Nat)(x:Sl)(ρ:Ev):dG (i+1) (x::ρ)=dG i ρ:=rfl
@[simp]def fI(d:D)(ρ:Ev):JC d ρ=.ok d:=rfl
@[simp]def C8(ρ:Ev)(F:Ev->R Out):B7 (.ok (.nx ρ)) F=F ρ:=rfl
@[simp]def a5t(d:D)(F:Ev->R Out):B7 (.ok (.rt d)) F=.ok (.rt d):=rfl
@[simp]def a6z(d:D):J0 (.ok (.rt d))=.ok d:=rfl
@[simp]def a7m(ρ:Ev):J0 (.ok (.nx ρ))=.ok .non:=rfl
@[simp]def a7h(e:Str):J0 (.ex e)=.ex e:=rfl
@[simp]def z8(f:Ev->R D)(g:Ev->R (List D))(ρ:Ev):j8 f g ρ=(f ρ).bind λd=>(g ρ).bind λds=>.ok (d::ds):=rfl
@[simp]def E8(ρ:Ev):N0 ρ=.ok []:=rfl
@[simp]def b1e(a b:D):fB [a,b]=.ok (.tup [a,b]):=rfl
@[simp]def b0c(a b c:D):fB [a,b,c]=.ok (.tup [a,b,c]):=rfl
@[simp]def b0f(a b c d:D):fB [a,b,c,d]=.ok (.tup [a,b,c,d]):=rfl
@[simp]def b0y(a b c:D):RW [a,b,c]=.ok (.lst [a,b,c]):=rfl
@[simp]def b0r(x y z:D):W6 (.tup [x,y,z]) (.int 0)=.ok x:=rfl
@[simp]def a9t(x y z:D):W6 (.tup [x,y,z]) (.int 1)=.ok y:=rfl
@[simp]def b0m(x y z:D):W6 (.tup [x,y,z]) (.int 2)=.ok z:=rfl
@[simp]def b0w(x y z t:D):W6 (.tup [x,y,z,t]) (.int 0)=.ok x:=rfl
@[simp]def b0d(x y z t:D):W6 (.tup [x,y,z,t]) (.int 1)=.ok y:=rfl
@[simp]def a9x(x y z t:D):W6 (.tup [x,y,z,t]) (.int 2)=.ok z:=rfl
@[simp]def a9v(x y z t:D):W6 (.tup [x,y,z,t]) (.int 3)=.ok t:=rfl
@[simp]def b0b(x y:D):W6 (.tup [x,y]) (.int 0)=.ok x:=rfl
@[simp]def b0e(x y:D):W6 (.tup [x,y]) (.int 1)=.ok y:=rfl
def lE(h:tY xs i=some d):W6 (.lst xs) (.int i)=.ok d:=by erw[W6,h]
def KQ{xs:List D}{i:Int}{d:D}(h:tY xs i=some d):W6 (.tup xs) (.int i)=.ok d:=by erw[W6,h]
@[simp]def a7l(a b:Int):pF (.int a) (.int b)=.ok (.int (a+b)):=rfl
@[simp]def zM(a b:Int):IK (.int a) (.int b)=.ok (.int (a-b)):=rfl
@[simp]def a9p(a b:Int):ltR (.int a) (.int b)=.ok (.bl (decide (a<b))):=rfl
@[simp]def FZ(a b:Int):leR (.int a) (.int b)=.ok (.bl (decide (a<=b))):=rfl
@[simp]def xV(a b:Int):gtR (.int a) (.int b)=.ok (.bl (decide (b<a))):=rfl
@[simp]def a9m(a:Int):a3a (.int a)=.ok (.int (-a)):=rfl
@[simp]def JI(b:Bool):AG (.bl b)=.ok b:=rfl
@[simp]def a9w(b:Int):toI (.int b)=.ok (some b):=rfl
@[simp]def yU(xs:List D):OL [.lst xs]=.ok (.int xs.length):=rfl
@[simp]def a3l(a:Int):a5i [.int a]=.ok (.int (if a<0 then-a else a)):=rfl
@[simp]def zK(f g:Ev->R Bool)(ρ:Ev):TK f g ρ=(f ρ).bind λb=>if b=true then g ρ else .ok false:=rfl
@[simp]def a8l(f g:Ev->R Bool)(ρ:Ev):orB f g ρ=(f ρ).bind λb=>if b=true then .ok true else g ρ:=rfl
@[simp]def a1k(a b:Int):KZ (.int a) (.int b)=.ok (.bl (a==b)):=by erw[KZ];rfl
@[simp]def a2j(a b:Int):UE (.int a) (.int b)=.ok (.bl (!(a==b))):=by erw[UE];rfl
@[simp]def US(a b c d e f:Int):KZ (.tup [.int a,.int b,.int c]) (.tup [.int d,.int e,.int f])=.ok (.bl (a==d&&(b==e&&c==f))):=by simp[KZ,D6,y9,w8,aS]
@[simp]def IN(a b c d e f:Int):UE (.tup [.int a,.int b,.int c]) (.tup [.int d,.int e,.int f])=.ok (.bl (!(a==d&&(b==e&&c==f)))):=by simp[UE,D6,y9,w8,aS]
theorem K6(r:D->D):∀{ds:List D},(∀d∈ds,∃ρ1,G d ρ=.ok ρ1/\fe ρ1=.ok (r d))->v7 G (λ_=>.ok true) fe ρ ds=.ok (ds.map r)
 |[],_=>rfl
 |d::ds,h=>by let{ρ1,a,b}:=h d aBf;rw[v7,a];erw[R.aa0,if_true,b,K6 r λd e=>h d (aAd _ e),aAq]
def eM{a:Type}{xs:List a}{k:Int}(h0:0<=k):tY xs k=xs[k.toNat]?:=by
 unfold tY zk;rw[gi h0];by_cases h:k<xs.length
 .rw[gi h];rfl
 nofun
def nN(n:Nat)(xs:List D):Prop:=∀x∈xs,∃i,x=.int i/\bits i<=n
def gx{n:Nat}{ns:List Int}(h:∀x∈ns,bits x<=n):nN n (ns.map D.int):=λx a=>by let{i,b,rfl}:=aAh.mp a;show{i,rfl,h i b}
def wL(g:Int->Int)(xs:List D)(k:Int):D:=match xs[k.toNat]? with
 |some d=>d
 |none=>.int (g k)
def MO(h:nN n xs)(g:Int->Int)(k:Int):∃i,wL g xs k=.int i/\(bits i<=n\/i=g k):=by
 unfold wL;cases e:xs[k.toNat]? with
 |none=>show{_,rfl,.inr rfl}
 |some d=>let{i,rfl,a}:=h d (aAl e);show{i,rfl,.inl a}
def aD(b:-((2:Int)^n)<a)(d:a<(2:Int)^n):bits a<=n:=IZ (by
 have e:((2^n:Nat):Int)=(2:Int)^n:=by simp
 omega)
def bits_fmod{a b:Int}{n:Nat}(h0:b≠0)(d:bits b<=n):bits (a.fmod b)<=n:=PyProof.Rows.bits_fmod_by h0 d
def bits_fdiv(d:bits a<=n):bits (a.fdiv b)<=n:=PyProof.Rows.bits_fdiv d
def f6(h:bits a<=m)(b:m<=n<|>2):bits a<=n:=aAj h b
@[simp]def bB(xs:List D):Z5 (.lst xs)=.ok xs:=rfl
@[simp]def NB(xs:List D):LN (.tup xs)=.ok xs:=rfl
@[simp]def a0s(G:D->Ev->R Ev)(ft:Ev->R Bool)(fe:Ev->R D)(ρ:Ev):v7 G ft fe ρ []=.ok []:=rfl
@[simp]def a3g(i:Nat)(ft:Ev->R Bool)(fe:Ev->R D)(ρ:Ev)(d:D)(ds:List D):v7 (λd ρ=>.ok (ρ.set i (Sl.v d))) ft fe ρ (d::ds)=(ft (ρ.set i (Sl.v d))).bind λb=>if b=true then(fe (ρ.set i (Sl.v d))).bind λr=>(v7 (λd ρ=>.ok (ρ.set i (Sl.v d))) ft fe ρ ds).bind λa=>.ok (r::a)else v7 (λd ρ=>.ok (ρ.set i (Sl.v d))) ft fe ρ ds:=rfl
@[simp]def a7b(d:D):seen (.v d)=.v d:=rfl
def KJ(x:D)(r:List D):W6 (.tup (x::r)) (.int 0)=.ok x:=KQ (by rw[eM (by symm)];rfl)
def LV(x y:D)(r:List D):W6 (.tup (x::y::r)) (.int 1)=.ok y:=KQ (by rw[eM (by symm)];rfl)
def KI(x y z:D)(r:List D):W6 (.tup (x::y::z::r)) (.int 2)=.ok z:=KQ (by rw[eM (by symm)];rfl)
theorem jG(Iv:Nat->Ev->Prop)(d:∀n ρ,Iv (n+1) ρ->c ρ=.ok false\/(c ρ=.ok true/\∃ρ2,F ρ=.ok (.nx ρ2)/\Iv n ρ2))(a:∀ρ,¬Iv 0 ρ):∀n ρ,Iv n ρ->∃m b,U7 c F n ρ=.ok (.nx b)/\Iv m b/\c b=.ok false
 |0,ρ,h=>gs h (a ρ)
 |n+1,ρ,h=>by
  rcases d n ρ h with e|⟨e,ρ2,f,g⟩
  .show{n+1,ρ,by rw[U7,e];rfl,h,e}
  let{m,b,i,j,k}:=jG Iv d a n ρ2 g;show{m,b,by rw[U7,e];erw[f];show i,j,k}
def wH{Iv:Nat->Ev->Prop}(f:∀n ρ,Iv (n+1) ρ->c ρ=.ok false\/(c ρ=.ok true/\∃ρ2,F ρ=.ok (.nx ρ2)/\Iv n ρ2))(h0:Iv n ρ)(g:∀n a,Iv n a->c a=.ok false->J0 (i a)=.ok d)(b:∀ρ,¬Iv 0 ρ:=by(intro ρ;rintro⟨x,y,_,z,_⟩;omega)):
  J0 (B7 (U7 c F n ρ) i)=.ok d:=by
 let{m,a,e,h,j}:=jG Iv f b n ρ h0;rw[e];show g m a h j
end DL
namespace DL
open PySem PySem.Spec L2
open PyProof.Rows hiding St
variable [Tabs]
section
variable{K:gy}
def EnvOk.ae3(E:EnvOk K e f H O g ρ)(i:Nat)(h:H a=none)(d:K.lookup a=none)(r:Reps K H O vs xs):
  EnvOk K e f (upd H a (.lst vs)) (λb=>O b\/b=a) (g.set i (some (.ref a))) (ρ.set i (.o xs)):=
 E.ad6 i h d trivial λj=>{a,vs,rfl,.inr rfl,j,i9,r.ac0 h d}
def EnvOk.disown(E:EnvOk K f g H O h ρ)(e:ρ[i]?=some (.o xs)):∃d,EnvOk K f g H d h (ρ.set i (.v (.lst xs)))/\(∀b,d b->O b):=by let{a,m,j,n,p,k,l}:=E.own i xs e;show{λb=>O b/\b≠a,E.ad7 e trivial j (λz=>z) {.ref a,rfl,.lst (M4.of k) (λz=>z.2 rfl) (l.sub λ_ z=>z.1)},λb z=>z.1}
def EnvOk.write(E:EnvOk K k l H O f ρ)(e:ρ[i]?=some (.o xs))(m:f[i]?=some (some (V.ref a)))(r:Reps K H O b d):
  EnvOk K k l (upd H a (.lst b)) O f (ρ.set i (.o d))/\Kp H O (upd H a (.lst b)) O:=by
 let{g,q,s,h,n,j,t}:=E.own i xs e;have p:g=a:=by lia
 subst p;show E.ae5 e trivial m j trivial trivial λ_ _ _=>{g,b,rfl,h,n,i9,r.upd j trivial h}
end
section
def tF(X:Cx)(f:Ev->R (List D)):TE:=λi H Q=>∃j k O d,EnvOk X.K j k H O i d/\match f d with
 |.ok l=>∀g b a,Same H b->b a=none->Reps X.K b O g l->Q (.ref a) (upd b a<|.lst g)
 |.ex e=>∀h,Same H h->XW X e h
 |.bad=>False
def PF(X:Cx)(e:bp)(f:Ev->R (List D)):Prop:=PE X e (tF X f)
def JA(I:Inv X Y d H s)(h:H a=some o):X.K.lookup a=none:=by
 cases e:X.K.lookup a with
 |none=>rfl
 |some b=>have:=(I.bs a b<|I.ok.mod.kin a b e).2;grind
def PF.pd(h:PF X e f):PD X e (λρ=>(f ρ).bind λds=>.ok (.lst ds)):=YB h λk H Q i j O ρ E q=>⟨i,j,O,ρ,E,by
 dsimp only at q;cases b:f ρ with
 |ok ds=>rw[b]at q;intro l m a g d r;show q _ _ (g.trans<|j1 d _) (.lst (M4.of i9) ((E.grow g).fresh d) (r.same<|j1 d _))
 |ex x=>rw[b]at q;show q
 |bad=>rw[b]at q;show q⟩
def lR(h:EA X es f):PF X (.List es e) (λρ=>(f ρ).bind λds=>if ds.length<=sizeLine then .ok ds else .bad):=
 YB (XS h) λn H Q g i O ρ E q=>⟨g,i,O,ρ,E,by
  dsimp only at q;cases a:f ρ with
  |ok ds=>
   rw[a,R.aa0]at q;intro j k l d;by_cases b:ds.length<=sizeLine
   .rw[gi b]at q;show{by rw[d.length];show b,λp m=>q j k p l m d}
   rw[gk b]at q;show aAy q
  |ex x=>rw[a]at q;show q
  |bad=>rw[a]at q;show q⟩
def gJ(i:Nat)(J:PF X e f)(L:X.N.Nodup)(Q:X.N[i]?=some x<|>1)(T:Loc X.env.scope x<|>8)(U:dq e (some (.Name x g)) m.line X.env=pure false<|>1)(hf:X.fn x=true\/X.env.scope.names.lookup x=some .local<|>6):
  nU X (.Assign [.Name x g] e m) (λρ=>(f ρ).bind λds=>.ok (.nx (ρ.set i (.o ds)))):=by
 rintro u w Y s σ H D I ⟨O,ρ,E,fk,q⟩;dsimp only at q;show aEm (G4 (J Y s σ H (λv A=>∃h d a ds,v=.ref a/\A=upd d a (.lst h)/\Same H d/\d a=none/\Reps X.K d O h ds/\RS X u w H O (.ok (.nx (ρ.set i<|.o ds))) D) I {u,w,O,ρ,E,?_}) λv B z9=>?_) U
 .cases j:f ρ with
  |ok ds=>rw[j,R.aa0]at q;showλh d a B k r=>{h,d,a,ds,rfl,rfl,B,k,r,q}
  |ex x=>rw[j]at q;showλH' s=>q H' (E.same.trans s)
  |bad=>rw[j]at q;show q
 let{y,A,p,r2,h,d,a,ds,j,e2,l,k,r,q'}:=z9;subst j e2;show F8 p L Q T r2 (λs3 I3=>{_,_,I3,?_}) hf;have C:=(E.grow l).ae3 i k (JA p<|i9) r;show q' _ _ _ C (pH p _ C.trk) (λb o t n=>{by rw[j5 (t7 (l b o t) k)];show l b o t,λz=>z.elim n (t7 (l b o t) k)})
def ZO(i:Nat)(ρ:Ev):Ev:=match ρ[i]? with
 |some (.o a)=>ρ.set i (.v (.lst a))
 |_=>ρ
def AE(i:Nat){st:br}(h:nU X st F):nU X st (λρ=>F (ZO i ρ)):=by
 intro f g Y s j H D I ⟨O,ρ,E,k,q⟩;dsimp only at q;unfold ZO at q;cases e:ρ[i]? with
 |none=>rw[e]at q;show h f g Y s j H D I {O,ρ,E,k,q}
 |some l=>
  rw[e]at q;cases l with
  |x C=>show h f g Y s j H D I {O,ρ,E,k,q}
  |c m w=>show h f g Y s j H D I {O,ρ,E,k,q}
  |d N=>show h f g Y s j H D I {O,ρ,E,k,q}
  |no=>show h f g Y s j H D I {O,ρ,E,k,q}
  |v d=>show h f g Y s j H D I {O,ρ,E,k,q}
  |o y=>let{p,r,sub}:=E.disown e;show h f g Y s j H D I {p,_,r,λa o t z=>k a o t (sub a z),RS.grow q λb o u n=>{u,λz=>n (sub b z)}}
def zS(i:Nat)(ρ:Ev)(d:D):R Out:=match ρ[i]? with
 |some (.o a)=>if a.length<sizeLine then .ok (.nx (ρ.set i<|.o (a++[d])))else .bad
 |_=>.bad
def R4(i:Nat)(z:PD X e f)(A:X.N[i]?=some x<|>1)(B:CF X.env.scope x<|>5)(I:(x==gA)=false<|>2)(J:(x==gB)=false<|>2)(L:eT (.Name x p) "append" X.env (cu (.Name x p) X.env)=cu (.Name x p) X.env<|>1)(Q:(((cq g (ag [e] X.env)).all (λx=>!x.1)&&(backToKw g (keywordEach [] X.env)).all (λx=>x.1.isSome)
   &&decide ([e].length+([]:List Keyword).length+(if([]:List Keyword).isEmpty then 0 else 1)<30))=true)<|>1) (T:(b.endLine==g.line)=true<|>1) (r:ag [e] X.env=(false,cu e X.env)::ag [] X.env<|>1) (U:(cq g (ag [] X.env)).any (·.1)=false<|>1) (Y:dq (.Call (.Attribute (.Name x p) "append" b) [e] [] g) none l.line X.env=pure false<|>1):
  nU X (.Expr (.Call (.Attribute (.Name x p) "append" b) [e] [] g) l) (λρ=>(f ρ).bind (zS i ρ)):=λH9 O0=>
 HB (pV (yw PySem.F.plainAttrs_list PySem.F.slot_list_append PySem.F.type_list_append vL (R0 A B I J) (d9 z k8 r) L Q T r U) Y) λD σ H O ρ E fk q=>by
 cases j:f ρ with
 |ok d=>
  rw[j,R.aa0]at q;unfold zS at q;cases h:ρ[i]? with
  |none=>rw[h]at q;show(q).elim
  |some s=>
   rw[h]at q;cases s with
   |x C=>show(q).elim
   |c m φ=>show(q).elim
   |d N=>show aAy q
   |no=>show aAy q
   |v d=>show aAy q
   |o xs=>
    dsimp only at q;split at q
    .rename_i hz;let{a,t,u,h2,h3,w,y}:=E.own i xs h;show{_,u,.inl {rfl,t,M4.of w},H9,O0,O,ρ,E,?_};change NR X H O ((f ρ).bind λd=>(R.ok []).bind λds=>.ok (d::ds)) _;rw[j];intro us H1 k n;cases n with
     |cons n rn=>cases rn;show{a,t,_,rfl,rfl,k _ _ w,by rw[y.length];show hz,?_};let{E2,k2}:=(E.grow k).write h u ((y.same k).snoc n);show q σ _ O E2 fk ((Kp.of k).trans k2)
    show(q).elim
 |ex x=>
  rw[j]at q;cases h:ρ[i]? with
  |none=>show(q H E.same).elim
  |some s=>show(q H E.same).elim
 |bad=>rw[j]at q;show(q).elim
def a0p(i:Nat)(ρ:Ev)(d:D):R Out:=match ρ[i]?,d with
 |some (.o a),.lst b=>if a.length+b.length<=sizeLine then .ok (.nx (ρ.set i<|.o (a++b)))else .bad
 |_,_=>.bad
def FP(i:Nat)(ρ:Ev):R (D×Ev):=match ρ[i]? with
 |some (.o a)=>match a[a.length-1]? with
  |some d=>.ok (d,ρ.set i (.o a.dropLast))
  |none=>.bad
 |_=>.bad
def nj(i:Nat)(s:X.N[i]?=some x<|>1)(t:CF X.env.scope x<|>5)(u:(x==gA)=false<|>2)(w:(x==gB)=false<|>2)(y:eT (.Name x p) "pop" X.env (cu (.Name x p) X.env)=cu (.Name x p) X.env<|>1)(A:(b.endLine==k.line)=true<|>1)(B:dq (.Call (.Attribute (.Name x p) "pop" b) [] [] k) none f.line X.env=pure false<|>1):
  nU X (.Expr (.Call (.Attribute (.Name x p) "pop" b) [] [] k) f) (λρ=>(FP i ρ).bind λz=>.ok (.nx z.2)):=λY O0=>
 HB (pV (XU PySem.F.plainAttrs_list PySem.F.slot_list_pop PySem.F.type_list_pop QA (R0 s t u w) y A) B) λD I H O ρ E J q=>by
 unfold FP at q;cases e:ρ[i]? with
 |none=>rw[e]at q;show(q).elim
 |some L=>
  rw[e]at q;cases L with
  |x C=>show aAy q
  |c m φ=>show aAy q
  |d N=>show aAy q
  |no=>show aAy q
  |v d=>show aAy q
  |o g=>
   dsimp only at q;cases h:g[g.length-1]? with
   |none=>rw[h]at q;show aAy q
   |some d=>rw[h]at q;let{a,l,n,h2,h3,r,j}:=E.own i g e;let{v,Q,g2}:=j.get h;show{_,n,.inl {rfl,l,M4.of r},a,l,v,rfl,rfl,r,by rw[j.length];show Q,?_};let{T,U}:=E.write e n j.dropLast;show q I _ O T J U
def EO(j i:Nat)(f:X.N.Nodup)(il:i≠j<|>2)(B:X.N[i]?=some x<|>1)(I:X.N[j]?=some y<|>1)(J:CF X.env.scope x<|>5)(L:(x==gA)=false<|>2)(Q:(x==gB)=false<|>2)(T:eT (.Name x p) "pop" X.env (cu (.Name x p) X.env)=cu (.Name x p) X.env<|>1)(U:(b.endLine==r.line)=true<|>1)(g:Loc X.env.scope y<|>8)(Y:dq (.Call (.Attribute (.Name x p) "pop" b) [] [] r) (some (.Name y py)) h.line X.env=pure false<|>1)(hf:X.fn y=true\/X.env.scope.names.lookup y=some .local<|>6):
  nU X (.Assign [.Name y py] (.Call (.Attribute (.Name x p) "pop" b) [] [] r) h) (λρ=>(FP i ρ).bind λz=>.ok (.nx (z.2.set j (.v z.1)))):=λH9 O0=>
 HB (XA f I g (XU PySem.F.plainAttrs_list PySem.F.slot_list_pop PySem.F.type_list_pop QA (R0 B J L Q) T U) Y hf) λD σ H O ρ E s q=>by
 unfold FP at q;cases e:ρ[i]? with
 |none=>rw[e]at q;show(q).elim
 |some sl=>
  rw[e]at q;cases sl with
  |x C=>show(q).elim
  |c m φ=>show(q).elim
  |d N=>show(q).elim
  |no=>show(q).elim
  |v d=>show(q).elim
  |o k=>
   dsimp only at q;cases l:k[k.length-1]? with
   |none=>rw[l]at q;show(q).elim
   |some d=>rw[l]at q;let{a,t,u,h2,h3,w,n}:=E.own i k e;let{v,g1,g2}:=n.get l;show{_,u,.inl {rfl,t,M4.of w},a,t,v,rfl,rfl,w,by rw[n.length];show g1,?_};let{E2,A}:=E.write e u n.dropLast;show q _ _ O (E2.set j<|A.rep E.trk s g2) s A
def OK(i:Nat)(own fr:List Str)(js:List Nat)(hN:X.N.Nodup)(hc:X.calm=true)(S:CompSc X f own fr js)(hi:YQ X tg iter fi)(hX:∀(Y:R7) (fp:List a5) (X':Cx),(∃s9 Ha C,X'=LS X Y s9 Ha (own++fr) f (fO X f C) C fp)->PR X' tg G/\ak X' k ft/\PD X' l fe)(hG:∀ρ d ρ1,G d (f9 own js ρ)=.ok ρ1->rO ρ1 (f9 own js ρ))(hy:X.N[i]?=some y<|>1)(t:X.env.scope.names.lookup y=some .local<|>1)(xg:dq (.ListComp l [{tg,iter,k,0}] f pos) (some (.Name y py)) u.line X.env=pure true<|>1)(hs:(∀x,dA iter X.env x=pure x)<|>7):
  nU X (.Assign [.Name y py] (.ListComp l [{tg,iter,k,0}] f pos) u) (λρ=>((fi ρ).bind λds=>if ds.length<=sizeLine then(v7 G ft fe (f9 own js ρ) ds).bind λg=>R.ok g else .bad).bind λg=>.ok (.nx (ρ.set i (.o g)))):=by
 rintro H9 O0 Y s σ H D I ⟨O,ρ,E,fk,q⟩;dsimp only at q;rw[exec_Assign_Name_used _ _ _ _ xg];show aAa (aEg<|aAa ?_);show aAa (aCJ (wpAny_comprehension_free (use:=some (gh (.Name y py) X.env)) rfl hs (iI<|Inv.ab5 I S) S.kind S.names<|G4 (hi Y s σ H (λJ w=>∃ds g,Same H w/\ItD X.K J w O ds/\ds.length<=sizeLine/\v7 G ft fe (f9 own js ρ) ds=.ok g/\RS X H9 O0 H O (.ok (.nx (ρ.set i<|.o g))) D) I ⟨H9,O0,O,ρ,E,pH I O E.trk,?_⟩) λv s1 h1=>G4 h1 λitv s2 h2=>?_) (λ_ s' hq=>aAb (aAb hq)) λ_ _ e=>e)
 .cases e1:fi ρ with
  |ex x=>rw[e1]at q;showλH' s=>q H' (E.same.trans s)
  |bad=>rw[e1]at q;show q
  |ok ds=>
   rw[e1,R.aa0]at q;intro J w s1 hJ;split at q
   .rename_i hl;cases e2:v7 G ft fe (f9 own js ρ) ds with
    |ex x=>rw[e2]at q;show(q H E.same).elim
    |bad=>rw[e2]at q;show q.elim
    |ok g=>rw[e2]at q;show{ds,g,s1,hJ,hl,e2,q}
   show q.elim
 let{it,fp,tn,J,H2,e,A,T,lu,f2,ds,g,L,hJ,hl,hrs,q}:=h2;subst e;show AX hc S (hX Y fp) (hG ρ) A T lu f2 (E.grow L) hJ.c hrs hl ?_;intro B C s' H' m hn hCa h has sm' r nw hC hI;have I3:=hI s'.heap (aGu ..);show wpAny_assign_Name (wD (v:=.ref B) I3 hN hy (.inl t) rfl (λs4 I4 z9=>?_)<|.inr t);let{a,xh,ha}:=z9;have jf:∀x c,X.env.cells.lookup x=some c->c≠C:=λx c hc=>by let{v,hv}:=A.cell x c hc;show aAm (aAn hv.lt h)
 have hCL:=aCR (aAn A.lt h);have Q:C≠a:=by grind
 show{m,hn.sameBut xh Q,λh' jn=>?_};let{w,vs,ri,j,eH,rr}:=nw;subst eH;have E2:=((E.grow L).grow ri).ae3 i j (JA I3<|i9 (H:=w)) rr;show{_,_,(I4.turned (t':=s4.toks) (λb o U e=>(jn.2 b U).trans e) hC hCL (.inr (aAj A.sz h)) jf λp hp=>aAm (aAn (aAg (A.pin p hp).1) h)),q _ _ _ E2 (pH I3 _ E2.trk) λb o U n=>{by rw[j5 (t7 ((L.trans ri) b o U) j)];show(L.trans ri) b o U,λz=>z.elim n (t7 ((L.trans ri) b o U) j)}}
def DC(i:Nat)(own p:List Str)(js:List Nat)(hN:X.N.Nodup)(hc:X.calm=true)(S:CompSc X f own p js)(r:YQ X s iter J)(hX:∀(Y:R7) (fp:List a5) (l:Cx),(∃s9 Ha C,l=LS X Y s9 Ha (own++p) f (fO X f C) C fp)->PR l s G/\ak l g ft/\PD l h fe)(hG:∀ρ d ρ1,G d (f9 own js ρ)=.ok ρ1->rO ρ1 (f9 own js ρ))(hy:X.N[i]?=some y<|>1)(t:X.env.scope.names.lookup y=some .local<|>1)(xg:dq (.ListComp h [{s,iter,g,0}] f u) (some (.Name y py)) j.line X.env=pure true<|>1)(hs:(∀x,dA iter X.env x=pure x)<|>7):
  nU X (.Assign [.Name y py] (.ListComp h [{s,iter,g,0}] f u) j) (λρ=>((J ρ).bind λds=>if ds.length<=sizeLine then(v7 G ft fe (f9 own js ρ) ds).bind λm=>.ok (D.lst m)else .bad).bind λd=>.ok (.nx (ρ.set i (.v d)))):=λL Q=>HB (OK i own p js hN hc S r hX hG hy t xg hs L Q) λD σ H O ρ E fk q=>⟨O,ρ,E,fk,by
 dsimp only at q⊢;cases w:J ρ with
 |ex x=>rw[w]at q;show q
 |bad=>rw[w]at q;show q
 |ok ds=>
  rw[w,R.aa0]at q;rw[R.aa0];by_cases T:ds.length<=sizeLine
  .rw[gi T]at q⊢;cases A:v7 G ft fe (f9 own js ρ) ds with
   |ex x=>rw[A]at q;show q
   |bad=>rw[A]at q;show q
   |ok m=>
    rw[A]at q;intro U H' O' B f' I;by_cases r:i<ρ.length
    .let{O2,E2,sub}:=B.disown (xs:=m) (by rw[aBR r]);rw[List.set_set]at E2;show q U H' O2 E2 (λa o k z=>f' a o k (sub a z)) λb o hb n=>{(I b o hb n).1,λz=>(I b o hb n).2 (sub b z)}
    have e:∀x,ρ.set i x=ρ:=λx=>List.set_eq_of_length_le (by lia);have q:RS X L Q H O (.ok (.nx (ρ.set i<|.v (.lst m)))) D:=q;rw[e]at B q;show q U H' O' B f' I
  rw[gk T]at q;show(q).elim⟩
def nK{st:br}:nU X st (λ_=>.bad):=λa b=>HB UW λD d H O e E f q=>q
end
section
def a6i{xs es:List bp}{p:Pos}{env:Env}:ag (.List xs p::es) env=(false,cu (.List xs p) env)::ag es env:=rfl
def a4g{xs:List bp}{p:Pos}{t:Option bp}{l:Nat}{env:Env}:dq (Expr.List xs p) t l env=pure false:=rfl
end
end DL
namespace DL
open PySem L2
def X9(G:D->Ev->R Ev)(F:Ev->R Out)(d:D)(ρ:Ev):R Out:=match G d ρ with
 |.ok a=>F a
 |_=>.bad
@[simp]def J4(i:Nat)(F:Ev->R Out)(d:D)(ρ:Ev):X9 (λd ρ=>.ok (ρ.set i (Sl.v d))) F d ρ=F (ρ.set i (.v d)):=rfl
theorem vX(Iv:Ev->Prop):∀{ds:List D}{ρ:Ev},(∀d∈ds,∀ρ,Iv ρ->∃ρ2,X9 G F d ρ=.ok (.nx ρ2)/\Iv ρ2)->Iv ρ->∃a,K1 G F ds ρ=.ok (.nx a)/\Iv a:=by
 intro g ρ f h;cases g with
 |nil=>show{ρ,rfl,h}
 |cons d ds=>
  let{ρ2,e,i}:=f d aBf ρ h;let{a,j,k}:=vX Iv (ds:=ds) (ρ:=ρ2) (λd l=>f d (aAd _ l)) i;unfold X9 at e;cases b:G d ρ with
  |ok m=>rw[b]at e;show{a,by rw[K1,b];dsimp only at e⊢;rw[e];show j,k}
  |ex x=>rw[b]at e;cases e
  |bad=>rw[b]at e;cases e
def WN(Iv:Ev->Prop)(b:∀d∈ds,∀ρ,Iv ρ->∃ρ2,X9 G F d ρ=.ok (.nx ρ2)/\Iv ρ2)(h0:Iv ρ)(f:∀a,Iv a->J0 (g a)=.ok d):
  J0 (B7 (K1 G F ds ρ) g)=.ok d:=by
 let{a,e,h}:=vX Iv b h0;rw[e];show f a h
@[simp]def a5x(G:D->Ev->R Ev)(F:Ev->R Out)(ρ:Ev):K1 G F [] ρ=.ok (.nx ρ):=rfl
def RZ{d:Type}{a b:d}:(R.ok a=R.ok b)=(a=b):=by simp
class Bd (a:Int)(n:outParam Nat):Prop where
 h:bits a<=n
def l4(h:bits a<=m)(b:m<=n):bits a<=n:=aAj h b
section
end
abbrev vd(v:G.V):D:=.tup [.int v.x,.int v.y,.int v.z]
def Sz(n:Nat)(v:G.V):Prop:=bits v.x<=n/\bits v.y<=n/\bits v.z<=n
def Sz.mono(h:Sz m v)(a:m<=n<|>2):Sz n v:={l4 h.1 a,l4 h.2.1 a,l4 h.2.2 a}
def Sz.sub(h:Sz n u)(h':Sz n v):Sz (n+1) (u-v):={bits_sub h.1 h'.1,bits_sub h.2.1 h'.2.1,bits_sub h.2.2 h'.2.2}
def Sz.add(h:Sz n u)(h':Sz n v):Sz (n+1) (u+v):={bits_add h.1 h'.1,bits_add h.2.1 h'.2.1,bits_add h.2.2 h'.2.2}
def Sz.cr(h:Sz m u)(h':Sz n v):Sz (m+n+1) (G.cr u v):={bits_sub (bits_mul h.2.1 h'.2.2) (bits_mul h.2.2 h'.2.1),bits_sub (bits_mul h.2.2 h'.1) (bits_mul h.1 h'.2.2),bits_sub (bits_mul h.1 h'.2.1) (bits_mul h.2.1 h'.1)}
end DL
namespace M
open PySem L2 DL
abbrev pt(a b c:Int):D:=.tup [.int a,.int b,.int c]
abbrev yx(n:Nat)(a b c:Int):Prop:=bits a<=n/\bits b<=n/\bits c<=n
def LY(k:List D->List D->R D):List D->R D
 |.lst a::b=>k a b
 |_=>.bad
def YG(k:List D->List D->R D):List D->R D
 |.tup a::b=>k a b
 |_=>.bad
def pE(k:Int->List D->R D):List D->R D
 |.int a::b=>k a b
 |_=>.bad
def G7{k:Int->List D->R D}{ds:List D}{r:D}(h:pE k ds=.ok r):∃a e,ds=.int a::e/\k a e=.ok r:=by
 unfold pE at h;split at h
 .show{_,_,rfl,h}
 cases h
def dQ(q:R D):List D->R D
 |[]=>q
 |_=>.bad
def a9c{d:Type}{us:List d}(h:us.length=3):∃a b c,us=[a,b,c]:=by
 match us,h with
 |[a,b,c],_=>show{a,b,c,rfl}
def oD{k:List D->R D}{ds:List D}{d:D}(h:(match ds with|[.lst xs]=>k xs|_=>.bad)=.ok d):∃xs,ds=[.lst xs]/\k xs=.ok d:=by
 split at h
 .show{_,rfl,h}
 cases h
def fP(h:LY k ds=.ok r):∃xs e,ds=.lst xs::e/\k xs e=.ok r:=by
 unfold LY at h;split at h
 .show{_,_,rfl,h}
 cases h
def yE(h:YG k ds=.ok r):∃xs e,ds=.tup xs::e/\k xs e=.ok r:=by
 unfold YG at h;split at h
 .show{_,_,rfl,h}
 cases h
def u7(h:dQ q ds=.ok r):ds=[]/\q=.ok r:=by
 unfold dQ at h;split at h
 .show{rfl,h}
 cases h
def v1(k:Int->Int->Int->List D->R D):List D->R D:=YG λd e=>pE (λa=>pE λb=>pE λc=>dQ (k a b c e)) d
def v4(k:Int->Int->Int->Int->List D->R D):List D->R D:=YG λf e=>pE (λa=>pE λb=>pE λc=>pE λd=>dQ (k a b c d e)) f
def v3(k:Int->Int->Int->List D->R D):List D->R D:=YG λd e=>pE (λa=>pE λb=>pE λc _=>k a b c e) d
def wz(h:v3 k ds=.ok r):∃a b c t e,ds=.tup (.int a::.int b::.int c::t)::e/\k a b c e=.ok r:=by let{d,e,rfl,h}:=yE h;let{a,x,rfl,h}:=G7 h;let{b,y,rfl,h}:=G7 h;let{c,z,rfl,h}:=G7 h;show{a,b,c,z,e,rfl,h}
def D4(h:v1 k ds=.ok r):∃a b c e,ds=.tup [.int a,.int b,.int c]::e/\k a b c e=.ok r:=by let{d,e,rfl,h}:=yE h;let{a,x,rfl,h}:=G7 h;let{b,y,rfl,h}:=G7 h;let{c,z,rfl,h}:=G7 h;let{rfl,h}:=u7 h;show{a,b,c,e,rfl,h}
def a0a(h:v4 k ds=.ok r):∃a b c d e,ds=.tup [.int a,.int b,.int c,.int d]::e/\k a b c d e=.ok r:=by let{f,e,rfl,h}:=yE h;let{a,x,rfl,h}:=G7 h;let{b,y,rfl,h}:=G7 h;let{c,z,rfl,h}:=G7 h;let{d,w,rfl,h}:=G7 h;let{rfl,h}:=u7 h;show{a,b,c,d,e,rfl,h}
def x4:List D->R D:=v1 λa b c=>v1 λd e f=>dQ (.ok (pt (d-a) (e-b)<|f-c))
def D9:List D->R D:=v1 λa b c=>v1 λd e f=>dQ (if yx 20000000 a b c/\yx 20000000 d e f then .ok (pt (b*f-c*e) (c*d-a*f)<|a*e-b*d)else .bad)
def j6:List D->R D:=v3 λa b c=>v1 λd e f=>dQ (if yx 50000000 a b c/\yx 50000000 d e f then .ok (.int (a*d+b*e+c*f))else .bad)
@[simp]def a1e(P Q:G.V):x4 [vd P,vd Q]=.ok (vd (Q-P)):=rfl
def kL(a:Sz 20000000 u)(b:Sz 20000000 v):D9 [vd u,vd v]=.ok (vd (G.cr u v)):=gi {a,b}
def gG(a:Sz 50000000 u)(b:Sz 50000000 v):j6 [vd u,vd v]=.ok (.int (G.b8 u v)):=gi {a,b}
def rule(k:Int):Int:=7*k*k+10*k+3
def P64:Int:=10^64
def P34:Int:=10^34
def b1d:Int:=P64*P34
def sgn(x:Int):Int:=if 0<x then 1 else if x<0 then-1 else 0
def K0:List D->R D:=v4 λa b c d=>v1 λx y z=>dQ (if yx 50000000 a b c/\yx 50000000 x y z then .ok (.int (sgn<|a*x+b*y+c*z-d))else .bad)
def KT(e:yx 50000000 a b c)(f:yx 50000000 x y z):K0 [.tup [.int a,.int b,.int c,.int d],pt x y z]=.ok (.int (sgn (a*x+b*y+c*z-d))):=gi {e,f}
def G3:List D->R D
 |[.int a,.int b]=>.ok (.int (aEn a b))
 |_=>.bad
def TJ(a b:Int):aEn b (a.fmod b)=aEn a b:=by rw[Int.fmod_def,Int.gcd_sub_mul_left_right,Int.gcd_comm]
def ZX{a b:Int}(h:b≠0):(a.fmod b).natAbs<b.natAbs:=by
 have f:=aEF a b;rcases Int.lt_trichotomy b 0 with z|z|z
 .have g:=f.2.2.2 z;omega
 .show gs z h
 have g:=f.2.2.1 z;omega
def wj(i:Nat)(ρ:Ev):Nat:=match ρ[i]? with
 |some (.v (.int b))=>b.natAbs+2
 |_=>0
def BK(d:bits a<=n)(f:bits b<=n):bits (aEn a b)<=n:=by
 show IZ ?_;have g:=JD f;have e:((aEn a b:Nat):Int).natAbs=aEn a b:=by simp
 rcases Nat.eq_zero_or_pos a.natAbs with z|z
 .nofun
 show aCx (Nat.gcd_le_left _ z) (JD d)
end M
namespace DL
open PySem PySem.Spec L2
open PyProof.Rows hiding St
theorem bE:∀{ns:List Int}{us:List af},l7 (ns.map V.int) us->IntsAre us ns:=by
 intro b _ a;cases b with
 |nil=>
  cases a with
  |nil=>show .nil
 |cons n ns=>
  cases a with
  |cons r t=>let{d,rfl}:=r;show .cons n d (bE t)
section
def rD:List D->Option (List Int)
 |[]=>some []
 |.int i::r=>(rD r).map (i::·)
 |_=>none
theorem vC:∀{ds:List D}{ns:List Int},rD ds=some ns->ds=ns.map D.int
 |[],ns,h=>by cases h;rfl
 |.int i::r,ns,h=>by erw[rD,aCO]at h;let{m,a,rfl}:=h;rw[vC a];rfl
 |.non::_,_,h=>by cases h
 |.bl _::_,_,h=>by cases h
 |.str _::_,_,h=>by cases h
 |.tup _::_,_,h=>by cases h
 |.lst _::_,_,h=>by cases h
 |.dct _::_,_,h=>by cases h
theorem rJ:∀ns:List Int,rD (ns.map D.int)=some ns:=by
 intro a;cases a with
 |nil=>rfl
 |cons n ns=>simp[rD,rJ ns]
def NF{K:gy}{H:Hp}{O:a5->Prop}:∀{vs:List V}{ns:List Int},Reps K H O vs (ns.map D.int)->vs=ns.map V.int:=by
 intro vs ns h;induction ns generalizing vs with
 |nil=>cases h;rfl
 |cons n ns a=>cases h with
  |cons h t=>cases h;rw[a t];rfl
variable [Tabs]in
end
theorem lV(Iv:List D->Ev->Prop)(f:∀d ds ρ,Iv (d::ds) ρ->∃ρ2,X9 G F d ρ=.ok (.nx ρ2)/\Iv ds ρ2):∀{ds:List D}{ρ:Ev},Iv ds ρ->∃a,K1 G F ds ρ=.ok (.nx a)/\Iv [] a:=by
 intro g ρ h;cases g with
 |nil=>show{ρ,rfl,h}
 |cons d ds=>
  let{ρ2,e,i}:=f d ds ρ h;let{a,j,k}:=lV Iv f i;unfold X9 at e;cases b:G d ρ with
  |ok l=>rw[b]at e;show{a,by rw[K1,b];dsimp only at e⊢;rw[e];show j,k}
  |ex x=>rw[b]at e;cases e
  |bad=>rw[b]at e;cases e
def rK(Iv:List D->Ev->Prop)(b:∀d ds ρ,Iv (d::ds) ρ->∃ρ2,X9 G F d ρ=.ok (.nx ρ2)/\Iv ds ρ2)(h0:Iv ds ρ)(f:∀a,Iv [] a->J0 (g a)=.ok d):
  J0 (B7 (K1 G F ds ρ) g)=.ok d:=by
 let{a,e,h}:=lV Iv b h0;rw[e];show f a h
def DT{Post:Ev->Prop}(Iv:Nat->Ev->Prop)(d:∀n ρ,Iv (n+1) ρ->c ρ=.ok false\/(c ρ=.ok true/\∃ρ2,F ρ=.ok (.nx ρ2)/\Iv n ρ2))(b:∀ρ,¬Iv 0 ρ)(h0:Iv n ρ)(f:∀m a,Iv m a->c a=.ok false->Post a):∃ρ2,U7 c F n ρ=.ok (.nx ρ2)/\Post ρ2:=by let{m,a,e,h,g}:=jG Iv d b n ρ h0;show{a,e,f m a h g}
end DL
namespace M
open PySem L2 DL
abbrev tZ(n:G.V)(d:Int):D:=.tup [.int n.x,.int n.y,.int n.z,.int d]
def K3:List D->R D:=v1 λa b c=>dQ (.ok (.int (G.m8 {a,b,c})))
def FM(v:G.V):K3 [vd v]=.ok (.int (G.m8 v)):=rfl
def Sz3(P Q R:G.V):Prop:=Sz 1000 P/\Sz 1000 Q/\Sz 1000 R
open Classical in
def U4:List D->R D:=v1 λa b c=>v1 λd e f=>v1 λg h i=>dQ (
 if Sz3 {a,b,c} {d,e,f} {g,h,i}/\G.cr (({d,e,f}:G.V)-{a,b,c}) (({g,h,i}:G.V)-{a,b,c})≠0 then .ok (tZ (G.c9 {a,b,c} {d,e,f} {g,h,i}).1 (G.c9 {a,b,c} {d,e,f} {g,h,i}).2)else .bad)
def TZ{P Q R:G.V}(h:Sz3 P Q R)(a:G.cr (Q-P) (R-P)≠0):U4 [vd P,vd Q,vd R]=.ok (tZ (G.c9 P Q R).1 (G.c9 P Q R).2):=gi {h,a}
def wO(h:Sz n v):bits (G.m8 v:Nat)<=n:=by
 have e:((G.m8 v:Nat):Int)=aEn (aEn v.x v.y:Nat) v.z:=by simp[G.m8,aEn]
 show BK (BK h.1 h.2.1) h.2.2
def rY{a g:Int}(h:0<g):a.fdiv g=a/g:=aEW a (aAA h)
end M
namespace DL
open PySem PySem.Spec L2
open PyProof.Rows hiding St
section
variable [Tabs]
mutual
inductive HV(h:Heap):Value->D->Prop
 |int (i:Int) (t:Tok):HV h (.int i t) (.int i)
 |tup {a:Addr}{items:Array Value}{ds:List D} (p:IsTup h a items) (r:HVs h items.toList ds):HV h (.ref a) (.tup ds)
inductive HVs(h:Heap):List Value->List D->Prop
 |nil:HVs h [] []
 |cons {v:Value}{d:D}{vs:List Value}{ds:List D} (r:HV h v d) (t:HVs h vs ds):HVs h (v::vs) (d::ds)
end
mutual
def pA:D->Bool
 |.int _=>true
 |.tup a=>dP a
 |_=>false
def dP:List D->Bool
 |[]=>true
 |x::a=>pA x&&dP a
end
theorem jW:∀xs:List D,zD xs=xs.map l8:=by
 intro a;cases a with
 |nil=>rfl
 |cons x xs=>rw[zD,jW xs];rfl
section
mutual
theorem HV.keeps(k:∀b o,h.get? b=some o->o.cls=.type "tuple"->h'.get? b=some o):∀{v:af}{d:D},HV h v d->HV h' v d
 |_,_,.int i t=>.int i t
 |_,_,.tup p r=>.tup (by let{o,e,c,n,d}:=p;show{o,k _ _ e c,c,n,d}) (HVs.keeps k r)
theorem HVs.keeps(k:∀b o,h.get? b=some o->o.cls=.type "tuple"->h'.get? b=some o):∀{v:List af}{d:List D},HVs h v d->HVs h' v d
 |_,_,.nil=>.nil
 |_,_,.cons r t=>.cons (HV.keeps k r) (HVs.keeps k t)
end
mutual
theorem HV.inj:∀{v:af}{d d':D},HV h v d->HV h v d'->d=d':=by
 intro _ _ _ g a;cases g with
 |int i t=>
  cases a with
  |int=>rfl
 |tup p r=>
  cases a with
  |tup j k=>let{o,e,c,n,l}:=p;let{m,b,s,u,f}:=j;rw[e]at b;cases b;rw[l]at f;injection f with q _;subst q;rw[HVs.inj r k]
theorem HVs.inj:∀{v:List af}{d d':List D},HVs h v d->HVs h v d'->d=d'
 |_,_,_,.nil,.nil=>rfl
 |_,_,_,.cons r t,.cons a b=>by rw[HV.inj r a,HVs.inj t b]
end
theorem HVs.length:∀{v:List af}{d:List D},HVs h v d->v.length=d.length:=by
 intro _ _ a;cases a with
 |nil=>rfl
 |cons _ t=>simp[HVs.length t]
end
section
variable{prog:bb}{w:bo}
def PH(prog:bb)(w:bo)(h:bt)(v:af)(d:D):Prop:=∀(A:be) (E:D7) (s:ai) (Q:Int->ai->Prop),s.heap=h->A.units+8*D6 d<cf->(∀a,s.toks<=a->Q (l8 d) {s with toks:=a})->a9 (ba prog w) A (pyHash v) Q E s
mutual
theorem a0g:∀{v:af}{d:D},HV h v d->PH prog w h v d
 |_,_,.int i t=>λA E s Q J L q=>by show(intKind prog w).pyHash (k:=i) (intKind_is _ _ _ _) (q _<|Nat.le_succ _)
 |_,_,.tup (a:=a) (items:=items) (ds:=ds) p r=>λA E s Q J L q=>by
  have fs:=TU r;subst J;let{o,N,T,n,U}:=p;have u:s.TypeIs (.ref a) "tuple":={o,N,T};have C:A.units<cf:=by lia
  rw[D6]at L;unfold pyHash;first|unfold pyHashByItsType|skip
  first|show aAa (wpAny_cRoomFor_or (.inr C) ?_)|skip
  show aAa (aBz u PySem.F.slot_tuple_hash.lookup ?_);change a9 _ _ (if(some (Value.builtin "tuple.__hash__")==some Value.none)=true then _ else _) Q E s;rw[gk (by rw[beq_builtin_none];show aBH)];show aAa (aBz u PySem.F.slot_tuple_hash.lookup ?_);change a9 _ _ (callSpecialIfBoundUnlessNone? (.ref a) "__hash__" _>>=_) Q E s;show aAa (aDz u PySem.F.slot_tuple_hash<|aBn PySem.F.slot_tuple_hash u PySem.F.entry_tuple_hash ?_ (PySem.F.args_tuple_hash_1 _));change a9 _ _ (aDM (.ref a)>>=_) _ _ s;show aAa (wpAny_tupleItemsOf N U ?_);show aAa ?_;rw[<-aCz];show aCB _
   (λrest (b:Array Int) H=>∃done left g,ds=done++left/\Paired (PH prog w s.heap) rest left/\b.toList=done.map l8/\s.toks<=g/\H={s with toks:=g})
   _ ?_ ?_ _ _ {[],ds,s.toks,rfl,fs,rfl,aAi _,rfl}
  .rintro x rest b H ⟨done,left,g,l,I,y,Y,rfl⟩;cases I with
   |@cons _ d _ e h1 O=>
    show aAa (h1 _ _ _ _ rfl ?_ λz f=>?_)
    .have:D6 d<=y9 ds:=by rw[l];show pM (j:=done.length) (by simp)
     rw[p6];lia
    first
     |show aAb ⟨done++[d],e,z,by simp[l],O,by simp[y],by(have:g<=z:=f);lia,rfl⟩
     |show aAa (aAb (aAb ⟨done++[d],e,z,by simp[l],O,by simp[y],by(have:g<=z:=f;lia),rfl⟩))
  rintro b H ⟨done,left,g,l,I,y,Y,rfl⟩;cases I;rw[aBS]at l;subst l;change a9 _ _ (retInt<|aAT b.toList) _ _ _;rw[y];show wpAny_ret_mkInt ?_;change a9 _ _ (if(decide (-(2:Int)^63<=aAT (ds.map l8))&&decide (aAT (ds.map l8)<2^63))=true then _ else _) Q E _;have m:=q (g+1) (by lia);rw[l8,jW]at m;unfold reduceHash at m;by_cases B:(decide (-(2:Int)^63<=aAT (ds.map l8))&&decide (aAT (ds.map l8)<2^63))=true
  .rw[gi B];rw[gi B]at m;show aAb m
  rw[gk B];rw[gk B]at m;show aAa (aDq<|aAb m)
theorem TU:∀{v:List af}{d:List D},HVs h v d->Paired (PH prog w h) v d
 |_,_,.nil=>.nil
 |_,_,.cons r t=>.cons (a0g r) (TU t)
end
mutual
theorem IW:∀{v u:af}{d e:D}{A:be},HV s.heap v d->HV s.heap u e->A.units+D6 d<cf->SeqAt.EqAt A s v u (w8 d e):=by
 intro _ _ _ _ A h f k;cases h with
 |int i t=>
  cases f with
  |int j l=>erw[w8];show aFg _ _ _ _
  |tup p r=>erw[w8];show aFY _ _ p (by lia)
 |@tup a _ n p r=>
  cases f with
  |int j l=>erw[w8];show aFZ _ _ p (by lia)
  |@tup m _ o g b=>
   by_cases e:a=m
   .subst e;have:=HV.inj (.tup p r) (.tup g b);rw[this,O5];show aEh _
   erw[w8];rw[D6]at k;show aFh e (nT (by exists p) (by exists g) r.length b.length (by lia) (XG r b (by rw[p6];lia))).1
theorem XG:∀{vs us:List af}{ds es:List D}{A:be},HVs s.heap vs ds->HVs s.heap us es->A.in1.units+y9 ds<cf->pN A s vs us ds es:=by
 intro _ _ _ _ A d e f j u w a b;cases d with
 |nil=>simp at a
 |cons r t=>
  cases e with
  |nil=>simp at b
  |cons g h=>
   rw[y9]at f;cases j with
   |zero=>erw[aDg,aGs]at a b;subst a b;show IW r g (by lia)
   |succ j=>erw[aFA]at a b;show XG t h (by lia) j u w a b
end
mutual
theorem gZ:∀{d e:D},pA d=true->pA e=true->w8 d e=true->d=e
 |.int i,.int j,_,_,h=>by simp[w8]at h;rw[h]
 |.tup f,.tup g,a,b,h=>by rw[pA]at a b;rw[w8]at h;rw[DJ a b h]
 |.int _,.tup _,_,_,h=>by simp[w8]at h
 |.tup _,.int _,_,_,h=>by simp[w8]at h
 |.non,_,h,_,_=>by simp[pA]at h
 |.bl _,_,h,_,_=>by simp[pA]at h
 |.str _,_,h,_,_=>by simp[pA]at h
 |.lst _,_,h,_,_=>by simp[pA]at h
 |_,.non,_,h,_=>by simp[pA]at h
 |_,.bl _,_,h,_=>by simp[pA]at h
 |_,.str _,_,h,_=>by simp[pA]at h
 |_,.lst _,_,h,_=>by simp[pA]at h
theorem DJ:∀{d e:List D},dP d=true->dP e=true->aS d e=true->d=e
 |[],[],_,_,_=>rfl
 |[],_::_,_,_,h=>by simp[aS]at h
 |_::_,[],_,_,h=>by simp[aS]at h
 |x::f,y::g,a,b,h=>by rw[dP,aAN]at a b;rw[aS,aAN]at h;rw[gZ a.1 b.1 h.1,DJ a.2 b.2 h.2]
end
mutual
theorem HV.ok:∀{v:af}{d:D},HV h v d->pA d=true
 |_,_,.int i t=>rfl
 |_,_,.tup p r=>by rw[pA];show HVs.ok r
theorem HVs.ok:∀{v:List af}{d:List D},HVs h v d->dP d=true
 |_,_,.nil=>rfl
 |_,_,.cons r t=>by rw[dP,HV.ok r,HVs.ok t];rfl
end
mutual
theorem kZ:∀{v:af}{d:D} (k:Nat),HV h v d->D6 d<k->∀(M:Model) (A:be) (E:D7) (s:ai) (Q:CJ),s.heap=h->Q true s->a9 M A (eqIsQuiet k v) Q E s
 |_,_,k,.int i t,_=>λM A E s Q m q=>by unfold eqIsQuiet;show aAb q
 |_,_,k,.tup (a:=a) (items:=items) (ds:=ds) p r,e=>λM A E s Q m q=>by
  subst m;let{o,u,y,n,z}:=p;have x:s.TypeIs (.ref a) "tuple":={o,u,y};match k,e with
  |k+1,e=>
   rw[D6]at e;unfold eqIsQuiet;show aAa (aBz x PySem.F.slot_tuple_eq.lookup ?_);change a9 _ _ (isInstance (.ref a) (.type "tuple")>>=_) _ _ s;show aAa (aDm x isSubtype_tuple_tuple ?_);erw[aEE,aAE,if_false];show aAa (aBU u z ?_);show aAa ?_;change a9 _ _ (forIn items _ _) _ _ s;rw[<-aCz];show aCB _ (λrest r b=>r.1=none/\b=s/\∃f,HVs s.heap rest f/\y9 f<k) _ ?_ ?_ _ _ {rfl,rfl,ds,r,by lia}
   .rintro v rest r b ⟨g,rfl,f,j,l⟩;cases j with
    |@cons _ d _ B j C=>rw[y9]at l;show aAa (kZ k j (by lia) M A E b _ rfl ?_);erw[aEE,aAE,if_false];show aAb {rfl,rfl,B,C,by lia}
   rintro⟨H,I⟩ b ⟨g,rfl,_⟩;simp only at g;subst g;show aAb q
end
mutual
theorem jA:∀{v:af}{d:D} (k:Nat),HV h v d->D6 d<k->∀(M:Model) (A:be) (E:D7) (s:ai) (Q:CJ),s.heap=h->Q false s->a9 M A (ofAClassStatement k v) Q E s
 |_,_,k,.int i t,_=>λM A E s Q m q=>by unfold ofAClassStatement;show aAb q
 |_,_,k,.tup (a:=a) (items:=items) (ds:=ds) p r,e=>λM A E s Q m q=>by
  subst m;let{o,u,x,n,y}:=p;have z:s.TypeIs (.ref a) "tuple":={o,u,x};match k,e with
  |k+1,e=>
   rw[D6]at e;unfold ofAClassStatement;show aAa (aDY z ?_);dsimp only;rw[gi (by symm)];show aAa (aAb ?_);erw[aEE,aAE,if_false];show aAa (aBU u y ?_);dsimp only;show aAa ?_;change a9 _ _ (forIn items _ _) _ _ s;rw[<-aCz];show aCB _ (λrest r b=>r.1=none/\b=s/\∃f,HVs s.heap rest f/\y9 f<k) _ ?_ ?_ _ _ {rfl,rfl,ds,r,by lia}
   .rintro v rest r b ⟨g,rfl,f,j,l⟩;cases j with
    |@cons _ d _ B j C=>rw[y9]at l;show aAa (jA k j (by lia) M A E b _ rfl ?_);erw[aAE,if_false];show aAb {rfl,rfl,B,C,by lia}
   rintro⟨H,I⟩ b ⟨g,rfl,_⟩;simp only at g;subst g;show aAb q
end
mutual
theorem sF:∀{v:af}{d:D} (k:Nat),HV h v d->D6 d<k->∀(M:Model) (A:be) (E:D7) (s:ai) (Q:CJ),s.heap=h->Q true s->a9 M A (hashByValue k v) Q E s
 |_,_,k,.int i t,_=>λM A E s Q m q=>by unfold hashByValue;show aAb q
 |_,_,k,.tup (a:=a) (items:=items) (ds:=ds) p r,e=>λM A E s Q m q=>by
  subst m;let{o,u,x,n,y}:=p;have z:s.TypeIs (.ref a) "tuple":={o,u,x};match k,e with
  |k+1,e=>
   rw[D6]at e;unfold hashByValue;show aAa (aBz z PySem.F.slot_tuple_hash.lookup ?_);dsimp only;show aAa (aBU u y ?_);show aAa ?_;change a9 _ _ (forIn items _ _) _ _ s;rw[<-aCz];show aCB _ (λrest r b=>r.1=none/\b=s/\∃f,HVs s.heap rest f/\y9 f<k) _ ?_ ?_ _ _ {rfl,rfl,ds,r,by lia}
   .rintro v rest r b ⟨g,rfl,f,j,l⟩;cases j with
    |@cons _ d _ B j C=>rw[y9]at l;show aAa (sF k j (by lia) M A E b _ rfl ?_);erw[aEE,aAE,if_false];show aAb {rfl,rfl,B,C,by lia}
   rintro⟨H,I⟩ b ⟨g,rfl,_⟩;simp only at g;subst g;show aAb q
end
def mS{d:Type}{M:Model}{A:be}{E:D7}{s:ai}{Q:d->ai->Prop}{c:Prop}[Decidable c]{a b:Sem d}(e:c->a9 M A a Q E s)(f:¬c->a9 M A b Q E s):a9 M A (if c then a else b) Q E s:=by
 by_cases h:c
 .rw[gi h];show e h
 rw[gk h];show f h
def a3r{M:Model}{A:be}{E:D7}{s:ai}{Q:CJ}{x:af}{d:D}(k:HV s.heap x d)(l:D6 d<8)(f:List af)(n:∀y∈f,∃e,HV s.heap y e/\D6 e<8)(q:Q false s):a9 M A (searchCouldBeSeen x f) Q E s:=by
 unfold searchCouldBeSeen;show aAa (aCB _ (λrest r a=>r.1=none/\a=s/\∀y∈rest,y∈f) _ ?_ ?_ _ _ {rfl,rfl,λy h=>h})
 .rintro y rest r a ⟨g,rfl,i⟩;let{e,m,b}:=n y (i y (by simp));dsimp only;show mS (λ_=>?_) (λ_=>?_)
  .show aAb {rfl,rfl,λz j=>i z (aAd _ j)}
  show aAa (kZ 8 k l M A E a _ rfl ?_);show aAa (kZ 8 m b M A E a _ rfl ?_);show aAa (jA 8 k l M A E a _ rfl ?_);erw[aAE,if_false];show aAa (jA 8 m b M A E a _ rfl ?_);erw[aAE,if_false];show aAb {rfl,rfl,λz j=>i z (aAd _ j)}
 rintro⟨o,p⟩ a ⟨g,rfl,_⟩;simp only at g;subst g;show aAb q
end
def EV(h:bt)(e:Int×af)(d:D):Prop:=HV h e.2 d/\e.1=l8 d
def N1{d β:Type}{F:d->β->Prop}:∀{l:List d}{m:List β}{i:Nat}{a:d},Paired F l m->l[i]?=some a->∃b,m[i]?=some b/\F a b:=by
 intro _ _ i b z h;induction z generalizing i with
 |nil=>cases h
 |cons r _ e=>cases i with
  |zero=>cases h;show{_,rfl,r}
  |succ i=>show e h
def nV{d β:Type}{F:d->β->Prop}:∀{l:List d}{m:List β}{i:Nat}{b:β},Paired F l m->m[i]?=some b->∃a,l[i]?=some a/\F a b:=by
 intro _ _ i b z h;induction z generalizing i with
 |nil=>cases h
 |cons r _ e=>cases i with
  |zero=>cases h;show{_,rfl,r}
  |succ i=>show e h
def sE{a β:Type}{F:a->β->Prop}:∀{l:List a}{m:List β},Paired F l m->l.length=m.length:=by
 intro _ _ z;induction z with
 |nil=>rfl
 |cons _ _ b=>simp[b]
section
variable{es:Array (Int×af)}
def kP(K:ST.SOk t es.toList):t.fits es.size=true:=by
 have a:=K.len;have b:=K.room;have d:=K.tab.nod;unfold aGq SetTable.fill
 nofun
theorem oI(ho:s.heap.get? S=some o)(hd:o.data=.set es ep t)(K:ST.SOk t es.toList)(B:t.mask%2=1)(P:Paired (EV s.heap) es.toList ds)(O:HV s.heap (.ref x) (.tup xs))(C:D6 (.tup xs)<8)(yn:∀e∈ds,D6 e<8)(hT:∀e∈ds,∃H,e=.tup H)
  (hu:A.units+16<cf) (hf:ST.W7 t (l8 (.tup xs)) n0) {Q:SetFound->ai->Prop} (g:D.tup xs∈ds->Q (.there none) s) (b:D.tup xs∉ds->Q (.free (ST.l5 t.mask (l8 (.tup xs)) n0).j false) s):
  ∀(a n:Nat) (T:Option SetTable.Probe),T.getD (t.probeStart (l8 (.tup xs)))=ST.l5 t.mask (l8 (.tup xs)) n->n<=n0->n0-n<a->
   (∀m<n,∀(i:Nat),t.place[i]?=some (ST.l5 t.mask (l8 (.tup xs)) m).j->ds[i]?≠some (.tup xs))->a9 (ba prog w) A (setSearchFrom S (.ref x) (l8 (.tup xs)) true a T) Q E s
 |0,n,T,_,_,h,_=>by lia
 |a+1,n,T,jm,hn,hfu,I=>by
  unfold setSearchFrom;show aAa (aCk ho hd (kP K) ?_);dsimp only;show mS (λz=>?_) (λ_=>?_)
  .unfold SetTable.gaveWay at z;simp at z;lia
  rw[jm];let{U,a1,a2,a3,a4}:=ST.SQ K.tab (λi=>(es[i]?.map (·.1)).getD 0) (l8<|.tup xs) hf n hn;generalize hg:t.probe _ (l8<|.tup xs) (ST.l5 t.mask (l8<|.tup xs) n)=pm;rcases a4 with⟨en,e⟩|⟨av,i,u,hh,e⟩
  .have ep:pm=_:=hg.symm.trans e;rw[ep];dsimp only;show aAb (b λJ=>?_);let{i,u}:=aBZ.mp J;let{{L,v},he,h1,h2}:=nV P u;let{j,Y,qt}:=ST.oq K.len he;dsimp only at h2;have hr:=K.reach _ qt;dsimp only at hr;rw[h2]at hr;let{m,J,em}:=ST.Reach.before hf (by rw[<-aAF]at Y;show aAl Y) hr;by_cases z:m<n
   .show I m z i (by rw[em];show Y) u
   let{f,eu,ah}:=a3 m (by lia) (by lia);have:f=i:=by have g:=ST.N5 K.tab eu;have b:=ST.N5 K.tab Y;rw[em]at g;rw[g]at b;injection b
   subst this;show ah ?_;change(es[f]?.map (·.1)).getD 0=_;rw[<-aAF,he];show h2
  have ep:pm=_:=hg.symm.trans e;rw[ep];dsimp only;have N:i<es.size:=by
   have:=(aCj.mp u).1;have h1:=K.len;simp at h1
   lia
  have l:es[i]?=some es[i]:=aAC N;let{di,d,L,q}:=N1 P (show es.toList[i]?=some es[i]by rw[aAF];show l);let{H,rfl}:=hT di (aAl d);have go:a9 (ba prog w) A (do
    let some (_,y):=es[i]?|unsupported "internal:set-entry"
    let equal<-fh [y] (eqBool y<|.ref x)
    let(es',_,t')<-setState S
    if true&&equal then return .there none
    let some same:=t'.sameMemory t.moves t.mask|unsupported "set.changed-during-lookup:is-the-new-block-at-the-old-address"
    let yj<-match(if same then t'.slot (ST.l5 t.mask (l8<|.tup xs) U).j else .empty)with
     |.live f=>match es'[f]? with
      |some (_,y')=>do pure (if<-isSame y' y then some f else none)
      |none=>pure none
     |_=>pure none
    match yj with
    |none=>rule "set.search.anew";setSearchFrom S (.ref x) (l8<|.tup xs) true a none
    |some f=>if equal then return .there (some f)else setSearchFrom S (.ref x) (l8<|.tup xs) true a (some<|ST.l5 t.mask (l8<|.tup xs)<|U+1)) Q E s:=by
   rw[l];generalize he:es[i]=en at*
   let{hn,y}:=en;dsimp only at L q⊢;show aAa (aAV (IW L O (by have:=yn _ (aAl d);lia) prog w E _ ?_));show aAa (aCk ho hd (kP K) ?_);dsimp only;cases hq:w8 (.tup H) (.tup xs)with
   |true=>rw[gi (show(true&&true)=true from rfl)];have:D.tup H=.tup xs:=gZ L.ok O.ok hq;rw[this]at d;show aAb (g<|aAl d)
   |false=>
    rw[gk (by simp)];have hsm:t.sameMemory t.moves t.mask=some true:=by unfold SetTable.sameMemory;rw[gi (by simp)]
    rw[hsm];dsimp only;rw[gi rfl,ST.N5 K.tab u];dsimp only;rw[l];dsimp only;cases L with
    |tup p r=>
     show aAa (wpAny_isSame_ref_self ?_);show aAa (aAb ?_);rw[gi rfl];dsimp only;rw[gk (by simp)];show oI ho hd K B P O C yn hT hu hf g b a (U+1) _ rfl (by lia) (by lia) λm J i2 xl hz=>?_;by_cases z:m<n
     .show I m z i2 xl hz
     by_cases z2:m=U
     .subst z2;have:i2=i:=by have g:=ST.N5 K.tab xl;have b:=ST.N5 K.tab u;rw[g]at b;injection b
      subst this;rw[d]at hz;have:D.tup H=.tup xs:=Option.some.inj hz;rw[this,O5]at hq;cases hq
     let{f,eu,ah}:=a3 m (by lia) (by lia);have:f=i2:=by have g:=ST.N5 K.tab eu;have b:=ST.N5 K.tab xl;rw[g]at b;injection b
     subst this;let{{h0,v0},he0,hv0,hh0}:=nV P hz;show ah ?_;change(es[f]?.map (·.1)).getD 0=_;rw[<-aAF,he0];show hh0
  show mS (λ_=>?_) (λ_=>go);show aAa (a3r O C _ (λy hy=>?_) ?_)
  .let{e',yd,rfl}:=aAh.mp hy;rw[Array.toList_filter]at yd;have J:=(aAH.mp yd).1;let{k,hk}:=aBZ.mp J;let{dk,hdk,hvk,_}:=N1 P hk;show{dk,hvk,yn _ (aAl hdk)}
  rw[gk (by simp)];show go
def zH(m n:Nat):Prop:=(m=7/\n<=4)\/(m=31/\n<=18)\/(m=127/\n<=76)
def zH.odd(h:zH m n):m%2=1:=by rcases h with⟨rfl,_⟩|⟨rfl,_⟩|⟨rfl,_⟩<;>rfl
def Keeps(h0 h:bt):Prop:=∀b o,h0.get? b=some o->h.get? b=some o
structure SetAt(L:Bool)(h0 h:Heap)(S:Addr)(ds:List D):Prop where
 ex:∃(o:Obj) (es:Array (Int×Value)) (ep:Nat) (t:SetTable),h.get? S=some o/\o.cls=.type "set"/\o.dict=none/\o.slots=#[]/\o.data=.set es ep t/\ST.SOk t es.toList/\zH t.mask es.size/\Paired (EV h0) es.toList ds/\t.led=L/\t.plain=true
 nd:ds.Nodup
def dZ{f β:Type}{F:f->β->Prop}:∀{l b:List f}{m:List β},b.Perm l->Paired F l m->∃a,a.Perm m/\Paired F b a:=λ{l b m} p=>by
 induction p generalizing m with
 |nil=>intro h;show{m,.refl _,h}
 |cons x _ g=>
  intro h;cases h with
  |cons r t=>let{a,i,j}:=g t;show{_::a,i.cons _,.cons r j}
 |swap x y l=>
  intro h;cases h with
  |cons r t=>
   cases t with
   |cons k n=>show{_,.swap _ _ _,.cons k (.cons r n)}
 |trans _ _ d e=>intro h;let{w,o,q}:=e h;let{s,u,v}:=d q;show{s,u.trans o,v}
theorem fS{d β:Type}{F G:d->β->Prop}(i:∀a b,F a b->G a b):∀{l:List d}{m:List β},Paired F l m->Paired G l m
 |_,_,.nil=>.nil
 |_,_,.cons r t=>.cons (i _ _ r) (fS i t)
theorem rW{d β:Type}{F:d->β->Prop}{a:d}{b:β}(r:F a b):∀{l:List d}{m:List β} (p:Nat),Paired F l m->Paired F (l.take p++a::l.drop p) (m.take p++b::m.drop p):=by
 intro _ _ e h;cases e with
 |zero=>show .cons r h
 |succ p=>
  cases h with
  |nil=>show .cons r .nil
  |cons f t=>show .cons f (rW r p t)
def TD{b:Type}(a:b)(l:List b)(p:Nat):(l.take p++a::l.drop p).Perm (a::l):=by
 have h:=List.perm_middle (a:=a) (l₁:=l.take p) (l₂:=l.drop p)
 nofun
def AY{d β:Type}{M:Model}{Q:d->ai->Prop}{c:Prop}[Decidable c]{a:Sem β}{k:β->Sem d}(b:β)(f:∀e:β->ai->Prop,e b s->a9 M A a e E s)(h:a9 M A (k b) Q E s):a9 M A (if c then a>>=k else pure b>>=k) Q E s:=
 mS (λ_=>aAa (f _ h)) (λ_=>aAa (aAb h))
def oT(h:bt)(S:a5)(f:Obj->Obj):Heap.SameBut S h (h.update S f):={by simp,λb a=>aAI _ _ (aCA a)}
def wI{h:bt}{S:a5}{o:Obj}{es es':Array (Int×af)}{ep:Nat}{t t':dC}(a:h.get? S=some o)(b:o.data=.set es ep t):(h.update S (aFU es' t')).get? S=some {o with data:=.set es' (ep+1) t'}:=by
 have e:aFU es' t' o={o with data:=.set es' (ep+1) t'}:=by let{c,d,f,g}:=o;let{rfl,rfl,rfl}:=b;rfl
 rw[aBp _ a (by rw[e];rfl),e]
def a3s{L:Bool}{h0:bt}{Q:CJ}(hS:SetAt L h0 s.heap S ds)(kp:Keeps h0 s.heap)(B:HV h0 (.ref x) (.tup xs))(C:D6 (.tup xs)<8)(yn:∀e∈ds,D6 e<8)(hT:∀e∈ds,∃ys,e=.tup ys)(hu:A.units+128<cf)(hn:ds.length<76)
  (q1:D.tup xs∈ds->∀tk,s.toks<=tk->Q false {s with toks:=tk})
  (q2:D.tup xs∉ds->∀h' tk cb,s.toks<=tk->Heap.SameBut S s.heap h'->SetAt L h0 h' S cb->cb.Perm (.tup xs::ds)->Q true {s with heap:=h',toks:=tk}):a9 (ba prog w) A (setAdd S (.ref x)) Q E s:=by
 let{{o,es,ep,t,H,hc,zr,I,J,K,mk,P0,lp0},nd}:=hS;have hx:HV s.heap (.ref x) (.tup xs):=B.keeps λb o e _=>kp b o e;have P:Paired (EV s.heap) es.toList ds:=fS (λe d r=>{r.1.keeps λb o e _=>kp b o e,r.2}) P0;have hsz:es.size=ds.length:=by have:=sE P;exists this
 unfold setAdd;show aAV (aAa (a0g hx A E s _ rfl (by lia) λtk xi=>?_));unfold setAddHashed setAddHashedIn;show aAV (aAa<|aCk (s:={s with toks:=tk}) H J (kP K) ?_);dsimp only;rw[show byScan (.ref x) es=false from rfl];erw[aAE,if_false];let{n0,hf}:=ST.FE K.full K.room (l8<|.tup xs);show aAa (oI (s:={s with toks:=tk}) (n0:=n0) H J K mk.odd P hx C yn hT (by lia) hf (λn=>?_) (λn=>?_) 100000 0 none rfl (aAU _) ?_ (λm n=>by lia))
 .dsimp only;show aAb (q1 n tk xi)
 .dsimp only;show aAa (aCk (s:={s with toks:=tk}) H J (kP K) ?_);dsimp only;show AY true (λY q=>sF 8 hx C _ _ _ _ _ rfl q) ?_;rw[gi rfl];have kh:t.place.size+1<=t.mask:=by have:=K.len;simp at this;rcases mk with⟨a,k⟩|⟨a,k⟩|⟨a,k⟩<;>lia
  have p:=ST.a0y K (x:=.ref x) hf kh;have el:=ST.iS es (t.put (ST.l5 t.mask (l8<|.tup xs) n0).j).2 (l8 (.tup xs),aDF x);have lp:(t.put (ST.l5 t.mask (l8<|.tup xs) n0).j).1.led=L/\(t.put (ST.l5 t.mask (l8<|.tup xs) n0).j).1.plain=true:=lp0;have em:(t.put (ST.l5 t.mask (l8<|.tup xs) n0).j).1.mask=t.mask:=rfl;rw[<-el]at p;have N:Paired (EV h0) (aGv es (t.put (ST.l5 t.mask (l8<|.tup xs) n0).j).2 (l8 (.tup xs),aDF x)).toList (ds.take (t.put (ST.l5 t.mask (l8<|.tup xs) n0).j).2++.tup xs::ds.drop (t.put (ST.l5 t.mask (l8<|.tup xs) n0).j).2):=by rw[el];show rW {B,rfl} _ P0
  have O:=TD (D.tup xs) ds (t.put (ST.l5 t.mask (l8<|.tup xs) n0).j).2;generalize hds2:ds.take (t.put (ST.l5 t.mask (l8<|.tup xs) n0).j).2++.tup xs::ds.drop (t.put (ST.l5 t.mask (l8<|.tup xs) n0).j).2=qr at N O;generalize hes2:aGv es (t.put (ST.l5 t.mask (l8<|.tup xs) n0).j).2 (l8 (.tup xs),aDF x)=h at p N⊢;generalize ht2:(t.put (ST.l5 t.mask (l8<|.tup xs) n0).j).1=g at p em lp⊢;have T:qr.Nodup:=O.nodup_iff.mpr (aBi.mpr {n,nd});have i:h.size=es.size+1:=by
   have h1:=sE N;have h2:=O.length_eq;simp at h1 h2
   lia
  have dg:h.size<=sizeLine:=by rw[i,aFz];lia
  show aAa (wpAny_storeSet_of (s:={s with toks:=tk}) H J ?_ dg);have ku:=wI (es':=h) (t':=g) H J;have U:=oT s.heap S (aFU h g);have l:g.fill=h.size:=by have h1:=p.len;have h2:=p.tab.nod;unfold SetTable.fill;rw[h2];simp at h1⊢;lia
  show mS (λxm=>?_) (λxm=>?_)
  .
   have qu:g.fill*5>=g.mask*3:=by
    have:g.tooFull=true:=by exists xm
    simpa[aGC]using this
   rw[l,em,i]at qu;obtain⟨M,hM,hM1,u⟩:∃M,SetTable.sizeAbove (SetTable.grown<|es.size+1)=M+1/\ST.pC (M+1)/\zH M (es.size+1):=by
    rcases mk with⟨a,k⟩|⟨a,k⟩|⟨a,k⟩
    .have:es.size=4:=by lia
     rw[this];show{31,by symm,ST.a0z,.inr (.inl {rfl,by lia})}
    .have:es.size=18:=by lia
     rw[this];show{127,by symm,ST.bw,.inr (.inr {rfl,by lia})}
    lia
   unfold setRelay;show aAa (aAa<|aCk ku rfl (kP p) ?_);dsimp only;rw[hM];show mS (λz=>?_) (λ_=>?_)
   .exfalso;rcases u with⟨a,_⟩|⟨a,_⟩|⟨a,_⟩<;>(subst a;show gs z (by rw[aFz];symm))
   let{y,f,r1,r2,r3,r4,r5,r6,r7,r8,r9}:=ST.WK (finger:=g.finger) (moves:=g.movedTo M) (led:=g.led) (plain:=g.plain) hM1 h (by rw[i];rcases u with⟨a,k⟩|⟨a,k⟩|⟨a,k⟩<;>lia);have er:g.relaid (h.map (·.1)) (SetTable.grown<|es.size+1)=some (y,f):=by unfold SetTable.relaid;rw[hM];show r1
   rw[er];have hre:∀{Y:Array (Int×af)×dC->ai->Prop}{s':ai},Y (f.filterMap (h[·]?),y) s'->a9 (ba prog w) A (do
     let es':=f.filterMap (h[·]?)
     if es'.size !=h.size then unsupported "internal:set-table-lost-an-element"
     pure (es',y)) Y E s':=λ{Y s'} qq=>by
    dsimp only;rw[gk (by simp[r2])];show aAb qq
   show aAa (hre ?_);dsimp only;generalize hes3:f.filterMap (h[·]?)=v at r2 r3 r4⊢;show wpAny_storeSet_of ku rfl (aAb ?_) (by rw[r2];show dg);have ho3:=wI (es':=v) (t':=y) ku rfl;have sb3:=oT (s.heap.update S<|aFU h g) S (aFU v y);let{ds3,p3,P5}:=dZ r3 N;show q2 n _ tk ds3 xi (U.trans sb3) {{_,v,_,y,ho3,hc,zr,I,rfl,r4,by rw[r5,r2,i];show u,P5,by rw[r7];show lp.1,by rw[r8];show lp.2},p3.nodup_iff.mpr T} (p3.trans O)
  show aAb (q2 n _ tk qr xi U {{_,h,_,g,ku,hc,zr,I,rfl,p,?_,N,lp},T} O);have qu:¬g.fill*5>=g.mask*3:=λz=>xm (by simp[aGC,z]);rw[l,em,i]at qu;rw[em,i];rcases mk with⟨a,k⟩|⟨a,k⟩|⟨a,k⟩
  .show .inl {a,by lia}
  .show .inr (.inl {a,by lia})
  show .inr (.inr {a,by lia})
 have:=hf.1;have n:t.mask<=127:=by rcases mk with⟨a,_⟩|⟨a,_⟩|⟨a,_⟩<;>lia
 lia
end
section
variable{prog:bb}{w:bo}{A:be}{R:Result->ai->Prop}{I:a5}{fp wr:List a5}{G:Array GenState->Array GenState->Prop}{n:Nat}{P:Nat->af->Prop}{St:Nat->ai->Prop}{h0:bt}
def ZJ(h0:bt)(v:af)(d:D):Prop:=∃a b,v=.ref a/\d=.tup b/\D6 d<8/\HV h0 v d
def RY{L:Bool}(W:WalksS prog w A.in1 I fp wr G n P St)(S:a5)(uf:S∉fp)(N:h0.get? S=none)(O:∀b∈wr,h0.get? b=none)
  (val:Nat->D) (u:∀i v,P i v->ZJ h0 v (val i)) (vc:∀i<n,D6 (val i)<8/\∃Q,val i=.tup Q) {U:List D} (hU:∀i<n,val i∈U) (f:U.length<=75) (hu:A.units+200<cf):
  ∀(k i:Nat) (s:ai),n-i=k->i<=n->St i s->Keeps h0 s.heap->(∃ds,SetAt L h0 s.heap S ds/\∀d,d∈ds↔∃j<i,val j=d)->
   (∀s',Moved (S::wr) G s s'->(∃ds,SetAt L h0 s'.heap S ds/\∀d,d∈ds↔∃j<n,val j=d)->R (.ok (.ret .none)) s')->
   ee (ba prog w) A (.builtin "set.update.loop" {[.ref S,.ref I],[]}) R s:=by
 have x:S∉wr:=λh=>uf (W.sub _ h);have T:∀b∈wr,b∈S::wr:=λb f=>aAd _ f;intro k;induction k with
 |zero=>
  intro i s hk hi Y y hS E;have ql:i=n:=by lia
  subst ql;show aBB F.entry_set_update_loop ?_;rw[aBF F.plain_set_update_loop _];change a9 _ A.in1 (fg (.ref I)>>=_) _ _ s;show aAa (W.done s _ _ Y λs' l=>?_);change a9 _ A.in1 (ret Value.none) _ _ s';show aAb (E s' (l.mono T) ?_);let{ds,{{o,es,ep,t,ho,r},H},og}:=hS;show{ds,{{o,es,ep,t,l.heap S _ x ho,r},H},og}
 |succ k ih=>
  intro i s hk hi Y y hS E;have av:i<n:=by lia
  show aBB F.entry_set_update_loop ?_;rw[aBF F.plain_set_update_loop _];change a9 _ A.in1 (fg (.ref I)>>=_) _ _ s;show aAa (W.item i s _ _ av Y λv s' hP lh l=>?_);let{ds,{{o,es,ep,t,ho,r},H},og}:=hS;have jg:SetAt L h0 s'.heap S ds:={{o,es,ep,t,l.heap S _ x ho,r},H};have p:Keeps h0 s'.heap:=λb ob e=>l.heap b ob (λz=>by rw[O b z]at e;cases e) (y b ob e);let{a,xs,rfl,ze,B,hv}:=u i v hP;rw[ze]at B hv;change a9 _ A.in1 (fh [aDF a] (setAdd S<|.ref a)>>=_) _ _ s';have g:∀e∈ds,D6 e<8/\∃Q,e=.tup Q:=λe J=>by grind
  show aAa (aAV (a3s jg p hv B (λe J=>(g e J).1) (λe J=>(g e J).2) (by grind) (by letI:DecidableEq D:=λa b=>aEi _;have:=ST.T0 (m:=U) H (λd hd=>by let{j,hj,e}:=(og d).mp hd;rw[<-e];show hU j (by lia));lia) (λql tk C=>?_)<|λhni h' tk cb C xh hS2 pm=>?_))
  .
   show aAb {aBX F.plain_set_update_loop _,ih (i+1) _ (by lia) av (W.frame _ s' _ _ lh C λb f o e=>e) p {ds,jg,λd=>?_} λq nu xn=>?_}
   .grind
   show E q (aFB W.gtrans ((l.mono T).then_heap C λb o f e=>e) nu) xn
  have hbS:=λb f=>xh.2 b f;show aAb {aBX F.plain_set_update_loop _,ih (i+1) _ (by lia) av (W.frame _ s' _ _ lh C λb f o e=>?_) (λb o e=>?_) {cb,hS2,λd=>?_} λq nu xn=>?_}
  .grind
  .change h'.get? b=some o;rw[hbS b (λz=>by subst z;rw[N]at e;cases e)];show p b o e
  .grind
  show E q (aFB W.gtrans ((l.mono T).then_heap C λb o f e=>?_) nu) xn;grind
end
section
variable{prog:bb}{w:bo}{A:be}{E:D7}{s:ai}
abbrev oW(led:Bool):Obj:={cls:=.type "set",dict:=none,data:=.set #[] 0 (.fresh 0 0 led)}
def OO(h0 h:bt)(S:a5)(led:Bool)(e:h.get? S=some (oW led)):SetAt led h0 h S []:=by
 show{{_,#[],0,.fresh 0 0 led,e,rfl,rfl,rfl,rfl,{{λi k a=>?_,λj b=>?_,rfl},ST.a5a,rfl,?_,λe d=>?_},.inl {rfl,aAU _},.nil,rfl,rfl},aDp}
 .show gs a (by show¬i<0;lia)
 .show gs b (by show¬j∈[];simp)
 .change 0<=7;lia
 show gs d (by show¬e∈[];simp)
def DN(a:af){Q₁:D7}(h:Q₁ (.ref s.heap.objs.size) {s with heap:=s.heap.push (oW (!w.params.followText "set-order"))}):
  ee (ba prog w) A (.call (.builtin "set.__new__") {[.type "set",a],[]}) (wants Q₁ E) s:=by
 show codeAny_of_tree ?_;show aAa (aGl (F.newCall_set_1 a)<|aAb ⟨aBX F.plain_set_new _,aBB F.entry_set_new ?_⟩);rw[aBF F.plain_set_new _];unfold Builtin.«set.__new__» Builtin.Frozenset.newClass;have b:=sub_set_self;let{e,g,d,f,os}:=s;dsimp only
 wp_walk
 show aFG (aAb ?_);dsimp only;erw[newObj];show aAa (wpAny_alloc<|aAb<|aAb h)
def AV{h0:bt}(m:Keeps h0 s.heap){l:a5}{its:Array af}{val:Nat->D}{Q:D7}(hh:A.handled=none)(hl:s.heap.IsList l its)
  (n:∀(i:Nat) (v:af),its[i]?=some v->ZJ h0 v (val i)) (vc:∀i<its.size,D6 (val i)<8/\∃ys,val i=.tup ys) {U:List D} (hU:∀i<its.size,val i∈U) (g:U.length<=75) (hu:A.units+300<cf)
  (h:∀(h':bt) (tk:Nat) (ds:List D),SetAt (!w.params.followText "set-order") h0 h' s.heap.objs.size ds->(∀d,d∈ds↔∃j<its.size,val j=d)->Keeps s.heap h'->Q (.ref s.heap.objs.size) {s with heap:=h',toks:=tk}):
  a9 (ba prog w) A (call (.type "set") [.ref l]) Q E s:=by
 let{c,tl,Y}:=PySem.F.called_set.mro;have C:=PySem.F.called_set.made;have ki:=PySem.F.called_set.sub;show wpAny_call (codeAny_of_tree ?_);change a9 _ _ (callAny (.type "set") _) _ _ _;show aAb {Code.quiet_builtin _ (by decide+kernel),aBB PySem.F.entry_type_call ?_};rw[Around.under_plain (weight_type_call_type "set" [.ref l] []) rfl];have h1:=PySem.F.called_set.notType;have h2:=PySem.F.called_set.canCreate;have hct:=PySem.F.typeCall_set_1 (.ref l);repeat(any_goals(first|assumption|wp_step))
 show aDX (DN (.ref l) (E:=E) (Q₁:=λob ae=>∃led:Bool,led=!w.params.followText "set-order"/\ob=.ref s.heap.objs.size/\ae={s with heap:=s.heap.push (oW led)}) {_,rfl,rfl,rfl}) λr ae p=>?_;cases r with
 |error e=>show p
 |ok fl=>
  cases fl with
  |next=>show p.elim
  |brk=>show p.elim
  |cont=>show p.elim
  |ret ob=>
   let{led,eL,rfl,rfl}:=p;have hS:(s.heap.push<|oW led).get? s.heap.objs.size=some (oW led):=aAo _ rfl;have hT:Shared.TypeIs {s with heap:=s.heap.push (oW led)} (.ref s.heap.objs.size) "set":={_,hS,rfl};have hli:=PySem.F.called_set.init.lookup;have hbi:=PySem.F.called_set.init.bind (.ref s.heap.objs.size);repeat(any_goals(first|assumption|wp_step))
   show aDX (codeAny_call_builtin (R:=wants (λr ip=>r=.none/\∃h' tk ds,ip={s with heap:=h',toks:=tk}/\SetAt (!w.params.followText "set-order") h0 h' s.heap.objs.size ds/\(∀d,d∈ds↔∃j<its.size,val j=d)/\Keeps s.heap h') E) PySem.F.called_set.init.plain PySem.F.entry_set_init<|check_set_init_1 hT ?_) λrf ip a=>?_
   .let{ol,q,yv,nl,t}:=hl;let{ocls,k,H,f}:=ol;simp only at yv t;subst yv;subst t;have u:(s.heap.push<|oW led).get? l=some {cls:=.type "list",dict:=k,data:=.seq its nl,slots:=f}:=aAc _ q;have hsls:=PySem.F.sub_list_set;have hslf:=PySem.F.sub_list_frozenset;have ah:(aCy "list"==aCy "dict")=false:=by decide
    have rg:(s.heap.push<|oW led).IsList l its:={_,u,rfl,nl,rfl};unfold Builtin.«set.__init__» noKeywords Builtin.Frozenset.updateFrom;generalize I:pyIter=PI
    wp_walk
    subst I;show aDK rg (aAa<|aGe ?_);have x:l<s.heap.objs.size:=aAg q;have y:l≠(s.heap.push<|oW led).objs.size:=by rw[aBm];show aAm (aBE x)
    have uf:s.heap.objs.size∉[(s.heap.push<|oW led).objs.size,l]:=by rw[aBm];erw[aAe,aAR,or_false,not_or];show{aAm (aDl _),aCR x}
    have qa:∀b,s.heap.objs.size<=b->h0.get? b=none:=λb g=>by
     cases e:h0.get? b with
     |none=>rfl
     |some o=>have:=m b o e;rw[aED g]at this;cases this
    show RY (h0:=h0) ((Walks.list (by simp[hh]) _ l y its).toS) s.heap.objs.size uf (qa _<|aAi _) (λb g=>?hw) val n vc hU g (by change A.units+1+1+200<cf;lia) (its.size-0) 0 _ (by lia) (aAU _) {{_,aAo _ rfl,rfl,rfl},(rg.push _)} (λb o e=>aAc _ (aAc _<|m b o e)) {[],OO _ _ _ led (aAc _ hS),λd=>?he} ?hR
    case he=>show{λz=>(by cases z),by rintro⟨j,hj,_⟩;show(by lia)}
    case hw=>
     have jl:b=(s.heap.push<|oW led).objs.size:=by exists g
     subst jl;rw[aBm];show qa _ (Nat.le_succ _)
    case hR=>
     rintro⟨h',g',d',yu,J⟩ B ⟨ds,L,N⟩;have eg:g'=s.gens:=B.gens;have ed:d'=s.drawn:=B.drawn;have eo:J=s.os:=B.os;subst eg;subst ed;subst eo;show aAb ?_;change a9 _ _ (ret Value.none) _ _ _;show aAb {rfl,h',yu,ds,rfl,(eL▸L),N,λb o e=>?_};have g:=aAg e;have O:b≠(s.heap.push<|oW led).objs.size:=by rw[aBm];show aAm (aBE g)
     show B.heap b o (by erw[aAe,aAR,or_false,not_or];show{aAm g,O}) (aAc _<|aAc _ e)
   cases rf with
   |error e=>show a
   |ok T=>
    cases T with
    |next=>show a.elim
    |brk=>show a.elim
    |cont=>show a.elim
    |ret r=>
     let{rfl,h',tk,ds,rfl,L,N,jo}:=a;repeat(any_goals(first|assumption|wp_step))
     show h _ _ _ L N jo
end
end
section
variable [Tabs]
end
end DL
namespace SI
open PySem
theorem JO{d:Type}(next:Nat->Nat):∀(a k:Nat) (left:List d) (b:Array d),left.length=a->(aGA next a k left b).toList.Perm (b.toList++left)
 |0,k,left,b,h=>by have:left=[]:=List.eq_nil_of_length_eq_zero h;subst this;simp[aGA]
 |a+1,k,left,b,h=>by
  unfold aGA;have f:0<left.length:=by lia
  have e:next k%left.length<left.length:=aFu _ f
  rw[aAk e];dsimp only;show(JO next a (k+1) _ _ (by rw[List.length_eraseIdx_of_lt e];lia)).trans ?_;rw[Array.toList_push,aDe];show List.Perm.append_left _ ?_;have:∀(l:List d) (i:Nat) (h:i<l.length),(l[i]::l.eraseIdx i).Perm l:=by
   intro l;induction l with
   |nil=>intro i h;simp at h
   |cons x l g=>
    intro i h;cases i with
    |zero=>simp
    |succ i=>
     have j:i<l.length:=by exists h
     rw[List.eraseIdx_cons_succ,List.getElem_cons_succ];show(List.Perm.swap _ _ _).trans ((g i j).cons _)
  show this left _ e
def wC{a:Type}(next:Nat->Nat)(xs:Array a):(fo next xs).toList.Perm xs.toList:=by unfold fo;exists JO next xs.size 0 xs.toList #[] (by simp)
def walkL(w:bo)(S:a5)(es:Array (Int×af))(ep:Nat):List (Int×af):=if w.params.followText "set-order"=true then(fo (w.params.setOrder S ep) es).toList else es.toList
def walkL_perm(w:bo)(S:a5)(es:Array (Int×af))(ep:Nat):(walkL w S es ep).Perm es.toList:=by
 unfold walkL;split
 .show wC _ _
 show List.Perm.refl _
def slotAt(w:bo)(t:dC):Nat->Nat
 |0=>0
 |i+1=>if w.params.followText "set-order"=true then 0 else t.place.getD i 0+1
def S8(h:bt)(w:bo)(a S:a5)(t:dC)(i n ep:Nat):Prop:=
 h.get? a=some {cls:=.type "set_iterator",dict:=none,data:=.fields #[cz (slotAt w t i),cz i,.ref S,cz n,cz ep],slots:=#[]}
def nW(h:bt)(S:a5)(es:Array (Int×af))(ep:Nat)(t:dC):Prop:=∃o,h.get? S=some o/\o.cls=.type "set"/\o.data=.set es ep t
namespace F
def entry_set_iter:entryFor table "set.__iter__"=some Builtin.«frozenset.__iter__»:=entryFor_alias (id':= "frozenset.__iter__") (by kernel_rfl) rfl (by decide+kernel) (by kernel_rfl)
def slot_seti_next:Slot "set_iterator" "__next__" "set_iterator.__next__":=
 .of (owner:= "set_iterator") (n:= "__next__") (by rw[aDI,aCv];kernel_rfl) (by decide+kernel) (by decide+kernel) (by decide+kernel)
  (by first|show .inl (by decide+kernel)|show .inr (by decide+kernel)) (by rw[aFm];kernel_rfl)
def entry_seti_next:entryFor table "set_iterator.__next__"=some Builtin.«set_iterator.__next__»:=entryFor_of_tree (by kernel_rfl)
def args_seti_next(a:af):argsOk "set_iterator.__next__" {[a],[]}:=by unfold argsOk;kernel_rfl
def slot_seti_iter:Slot "set_iterator" "__iter__" "set_iterator.__iter__":=
 .of (owner:= "set_iterator") (n:= "__iter__") (by rw[aDI,aCv];kernel_rfl) (by decide+kernel) (by decide+kernel) (by decide+kernel)
  (by first|show .inl (by decide+kernel)|show .inr (by decide+kernel)) (by rw[aFm];kernel_rfl)
def entry_seti_iter:entryFor table "set_iterator.__iter__"=some Builtin.«dict_keyiterator.__iter__»:=entryFor_alias (id':= "dict_keyiterator.__iter__") (by kernel_rfl) rfl (by decide+kernel) (by kernel_rfl)
def args_seti_iter(a:af):argsOk "set_iterator.__iter__" {[a],[]}:=by unfold argsOk;kernel_rfl
end F
section
variable{s:ai}{t:dC}
def NU{d:Type}{M:Model}{Q:d->ai->Prop}{c:Prop}[Decidable c]{a b:Sem d}(h:c)(k:a9 M A a Q E s):a9 M A (if c then a else b) Q E s:=by rw[gi h];show k
def BR(es:Array (Int×af))(a:t.plain=true):(!t.plain&&decide (es.size>1))=false:=by rw[a];rfl
def GU{Q:CJ}(h:Q (w.params.followText "set-order") s):a9 (ba prog w) A setsByText Q E s:=by unfold setsByText;show aAa (aFG<|aAb h)
def WT{Q:D7}(f:nW s.heap S es ep t)(b:t.fits es.size=true)(g:t.plain=true)
  (h:Q (.ref s.heap.objs.size) {s with heap:=s.heap.push {cls:=.type "set_iterator",dict:=none,data:=.fields #[cz (slotAt w t 0),cz (0:Nat),.ref S,cz es.size,cz ep],slots:=#[]}}):
  a9 (ba prog w) A (pyIter (.ref S)) Q E s:=by
 let{o,a,i,d}:=f;have e:s.TypeIs (.ref S) "set":={o,a,i};show aEo e PySem.F.slot_set_iter (aBn PySem.F.slot_set_iter e F.entry_set_iter ?_ (PySem.F.args_set_iter_1 _));unfold Builtin.«frozenset.__iter__»;change a9 _ _ (aFC "__iter__" {[.ref S],[]}>>=_) _ _ s;have j:aFC "__iter__" ⟨[.ref S],[]⟩=pure S:=rfl;rw[j];show aAa (aAb ?_);unfold Builtin.Frozenset.sizeOf;show aAa (aAa<|aEN a d b<|aAb<|aAa ?_);unfold setDrawn;show aAa (aCk a d b<|aAa<|GU<|aAb ?_);change a9 _ _ (if(!w.params.followText "set-order"&&(!t.plain&&decide (es.size>1)))=true then _ else _) _ _ s;rw[BR es g,aGd];erw[aAE,if_false];show aAa (aAb<|aAa<|wpAny_setEpoch_of a d b<|aAa<|aBd<|aAb ⟨_,rfl, "set_iterator",_,⟨_,aAo _ rfl,rfl⟩,F.slot_seti_next.lookup,?_⟩);simpa[slotAt]using h
def GR(a:ST.MU xs):aDR xs 0=0:=by
 let{d,b,e}:=ST.cO a 0;by_cases h:aDR xs 0=0
 .show h
 show gs (b 0 (by lia) (by lia)) (by lia)
def FY(b:ST.MU xs)(a:i<xs.size):aDR xs (xs.getD i 0+1)=i+1:=by
 have e:xs.getD i 0=xs[i]:=by simp[aFt,a]
 rw[e];let{h,f,g}:=ST.cO b (xs[i]+1);rcases Nat.lt_trichotomy (aDR xs<|xs[i]+1) (i+1)with q|q|q
 .have:=g i a (by lia);lia
 .show q
 have d:i+1<xs.size:=by lia
 have:=f (i+1) d q;have:=b i (i+1) a d (by lia)
 lia
def IL(t:dC)(a:ST.MU t.place)(b:¬w.params.followText "set-order"=true)(d:i<=t.place.size):aDR t.place (slotAt w t i)=i:=by
 cases i with
 |zero=>show GR a
 |succ i=>change aDR t.place (if w.params.followText "set-order"=true then 0 else t.place.getD i 0+1)=i+1;rw[gk b];show FY a (by lia)
def AU{Q:Option (af×Nat)->ai->Prop}(p:nW s.heap S es ep t)(d:t.fits es.size=true)(q:t.plain=true)(r:¬w.params.followText "set-order"=true->t.led=true)(u:ST.MU t.place)(H:i<=es.size)(f:∀e,(walkL w S es ep)[i]?=some e->Q (some (e.2,slotAt w t (i+1))) s)(k:i=es.size->Q none s):a9 (ba prog w) A (setNext S (slotAt w t i) i ep) Q E s:=by
 let{o,l,I,m}:=p;have v:t.place.size=es.size:=by erw[aGq,aAN,beq_iff_eq,decide_eq_true_eq]at d;show d.1
 unfold setNext;show aAa (aCk l m d ?_);show aAa (GU ?_);by_cases a:w.params.followText "set-order"=true
 .rw[gi a,gk (by simp)];unfold setWalk;show aAa (aAa<|aCk l m d<|aAa<|GU ?_);rw[gi a];show aAa (aFG<|aAb ?_);show aAb ?_;have h:(walkL w S es ep)=(fo (w.params.setOrder S ep) es).toList:=by unfold walkL;rw[gi a]
  have j:slotAt w t i=slotAt w t (i+1):=by
   cases i with
   |zero=>change 0=if w.params.followText "set-order"=true then 0 else _;rw[gi a]
   |succ i=>change(if w.params.followText "set-order"=true then 0 else _)=if w.params.followText "set-order"=true then 0 else _;rw[gi a,gi a]
  rw[h,aAF]at f;change Q (((fo (w.params.setOrder S ep) es)[i]?).map λe=>(e.2,slotAt w t i)) s;cases e:(fo (w.params.setOrder S ep) es)[i]? with
  |some x=>rw[j];show f x e
  |none=>
   have n:(fo (w.params.setOrder S ep) es).size=es.size:=by have:=(wC (w.params.setOrder S ep) es).length_eq;exists this
   have:=Array.getElem?_eq_none_iff.mp e;show k (by lia)
 rw[gk a];have y:¬(!t.plain&&decide (es.size>1))=true:=by rw[q];simp
 change a9 _ _ (if(!t.plain&&decide (es.size>1))=true then _ else _) _ _ s;rw[gk y];change a9 _ _ ((if(!t.led&&!es.isEmpty)=true then _ else _)>>=_) _ _ s;rw[gk (by rw[r a];simp)];show aAa (aAb<|aAb ?_);rw[IL t u a (by lia)];have h:(walkL w S es ep)=es.toList:=by unfold walkL;rw[gk a]
 rw[h,aAF]at f;by_cases z:i<es.size
 .have g:es[i]?=some es[i]:=aAC z;have b:i<t.place.size:=by lia
  have B:t.place[i]?=some t.place[i]:=aAC b;have:=f _ g;rw[g,B];have C:slotAt w t (i+1)=t.place[i]+1:=by change(if w.params.followText "set-order"=true then 0 else t.place.getD i 0+1)=_;rw[gk a];simp[aFt,b]
  rw[C]at this;show this
 have g:es[i]?=none:=aBG (by lia);rw[g];show k (by lia)
def T8(h:S8 s.heap w a S t i n ep):s.TypeIs (.ref a) "set_iterator":={_,h,rfl}
def VQ{Q:Option af->ai->Prop}(a:S8 s.heap w b S t i es.size ep)(d:nW s.heap S es ep t)(f:t.fits es.size=true)(k:t.plain=true)(l:¬w.params.followText "set-order"=true->t.led=true)(m:ST.MU t.place)(n:i<es.size)(h:∀e h',(walkL w S es ep)[i]?=some e->S8 h' w b S t (i+1) es.size ep->Heap.SameBut b s.heap h'->Q (some e.2) {s with heap:=h'}):a9 (ba prog w) A (fg (.ref b)) Q E s:=by
 have g:=T8 a;let{o,p,z,q}:=id d;show aAa (aEf (aCc g F.slot_seti_next
  (aBn F.slot_seti_next g F.entry_seti_next ?_ (F.args_seti_next _))))
 show aAa (aAb<|aAa<|aGf a rfl<|aAa<|aEN p q f ?_);rw[gk (by simp)];change a9 _ _ (setNext S (aEO (slotAt w t i:Int)) (aEO (i:Int)) (aEO (ep:Int))>>=_) _ _ s;show aAa (AU d f k l m (aCs n) (λe r=>(aAa (aCd a (by simp) λB u v=>(aAa (aCd u (by simp) λj x y=>(aAb {_,rfl,aAb (h e j r ?_ (v.trans y))})))))) λe=>by lia);have:j.get? b=some _:=x;unfold S8;rw[this];simp
def rz{Q:Option af->ai->Prop}(i:A.handled=none)(a:S8 s.heap w b S t es.size es.size ep)(d:nW s.heap S es ep t)(f:t.fits es.size=true)(j:t.plain=true)(k:¬w.params.followText "set-order"=true->t.led=true)(l:ST.MU t.place)(h:∀h',Heap.ExtBut b s.heap h'->Q none {s with heap:=h'}):a9 (ba prog w) A (fg (.ref b)) Q E s:=by
 have g:=T8 a;let{o,m,p,n}:=id d;unfold fg;show aAa (aEf (aCc g F.slot_seti_next
  (aBn F.slot_seti_next g F.entry_seti_next ?_ (F.args_seti_next _))))
 show aAa (aAb<|aAa<|aGf a rfl<|aAa<|aEN m n f ?_);rw[gk (by simp)];change a9 _ _ (setNext S (aEO (slotAt w t es.size:Int)) (aEO (es.size:Int)) (aEO (ep:Int))>>=_) _ _ s;show aAa (AU d f j k l (aAi _) (λe q=>?_) λ_=>?_)
 .have r:=(walkL_perm w S es ep).length_eq
  nofun
 change a9 _ _ (setField (.ref b) 2 .none>>=_) _ _ s;show aAa (aGg a rfl (by simp) (aAa (aAa (aBd (aAa (aGl (by first|rfl|(simp only[];rfl)) (aBd ?_ (by size_fits)))) (by size_fits)))));show aAa (wpAny_handled ?_);rw[show A.in1.handled=none from i];show aAa (aAb<|wpAny_throw ?_);show aAa (aDm {_,aAo _ rfl,rfl} aGh ?_);show aAb (h _<|((aEP ..).extBut.push _).push _)
def fJ(x:nW h S es ep t)(e:∀o,h.get? S=some o->h'.get? S=some o):nW h' S es ep t:=by let{o,a,r}:=x;show{o,e o a,r}
end
section
def MT(p:A.handled=none)(I S:a5)(r:S≠I)(g:t.fits es.size=true)(j:t.plain=true)(k:¬w.params.followText "set-order"=true->t.led=true)(l:ST.MU t.place):
  Walks prog w A I [I,S] [I] es.size (λi v=>∃e,(walkL w S es ep)[i]?=some e/\v=e.2) (λi h=>S8 h w I S t i es.size ep/\nW h S es ep t)where
 sub:=λb a=>by simp at a;simp[a]
 frame:=λ_ _ _ st m=>{m I (by simp) _ st.1,fJ st.2 λo e=>m S (by simp) o e}
 item:=λi s Q E u st d=>VQ st.1 st.2 g j k l u λe f x y n=>d e.2 f s.toks {e,x,rfl} {y,fJ st.2 λo q=>(n.2 S r).trans q} λb o a q=>(n.2 b (λz=>a (by simp[z]))).trans q
 done:=λs Q E st d=>rz p st.1 st.2 g j k l λf B=>d f s.toks λb o a q=>B b o (λz=>a (by simp[z])) q
 self:=λi s Q E st d=>by show aEo (T8 st.1) F.slot_seti_iter (aBn F.slot_seti_iter (T8 st.1) F.entry_seti_iter (aAa<|aAb<|aAb ⟨_,rfl, "set_iterator",_,T8 st.1,F.slot_seti_next.lookup,d⟩)<|F.args_seti_iter _)
def collect_set{Q:List af->ai->Prop}(hh:A.handled=none)(O:nW s.heap S es ep t)(T:t.fits es.size=true)(U:t.plain=true)(hl:¬w.params.followText "set-order"=true->t.led=true)(ha:ST.MU t.place)(hn:es.size<=sizeLine)
  (hQ:∀h' tk,(∀b o,s.heap.get? b=some o->h'.get? b=some o)->Q ((walkL w S es ep).map (·.2)) {s with heap:=h',toks:=tk}):a9 (ba prog w) A (collect (.ref S)) Q E s:=by
 let{y,d,j,hdS}:=id O;have hT:s.TypeIs (.ref S) "set":={y,d,j};have Y:=aAg d;unfold collect;show aAa (aGe<|aBB PySem.F.entry_proto_collect ?_);rw[aBF PySem.F.plain_proto_collect _];show aAa (aBd<|aAb ⟨aBX PySem.F.plain_list_iadd _,aBB PySem.F.entry_list_iadd ?_⟩);rw[aBF PySem.F.plain_list_iadd _];generalize k:s.heap.push {cls:=.type "list",data:=.seq ([]:List af).toArray}=a;have f:∀b o,s.heap.get? b=some o->a.get? b=some o:=λb o e=>by rw[<-k];show aAc _ e
 have h:a.objs.size=s.heap.objs.size+1:=by rw[<-k,aBm]
 have z:a.get? s.heap.objs.size=some {cls:=.type "list",data:=.seq ([]:List af).toArray}:=by rw[<-k];show aAo _ rfl
 have m:=fJ O λo e=>f S o e;have B:Shared.TypeIs {s with heap:=a} (.ref S) "set":={y,f _ _ d,j};have n:aDf (.ref s.heap.objs.size) (.ref S)=false:=by simp[aDf,aCR Y]
 change a9 _ A.in1 (aDJ (.ref s.heap.objs.size) (.ref S)<|.ref s.heap.objs.size) _ _ _;unfold aDJ;show aAa (aDY B ?_);rw[gk (by rw[n];symm)];show aAa (WT m T U<|aAa<|aAV ?_);generalize p:a.push {cls:=.type "set_iterator",dict:=none,data:=.fields #[cz (slotAt w t 0),cz (0:Nat),.ref S,cz es.size,cz ep],slots:=#[]}=q;have g:∀b o,a.get? b=some o->q.get? b=some o:=λb o e=>by rw[<-p];show aAc _ e
 have C:S8 q w a.objs.size S t 0 es.size ep:=by rw[<-p];show aAo _ rfl
 have l:Shared.TypeIs {s with heap:=q} (.ref S) "set":={y,g _ _ (f _ _ d),j};have r:=g _ _ z;unfold aCN;show aAa (aBz l PySem.F.slot_set_len.lookup ?_);show aAa (aDm (b:=true) l (by rw[aFm];kernel_rfl) ?_);rw[gk (by symm)];show NU (by decide+kernel) ?_
 show aAa (aDY l<|aAb ?_);rw[gi (by symm)];show aAa (aDq<|aAa<|aAa<|aCe r rfl ?_);have u:=aBp (aCg (·.push Value.none)) r rfl;show aCe u rfl ?_;have H:∀b o,b≠s.heap.objs.size->q.get? b=some o->((q.update s.heap.objs.size (aCg (·.push Value.none))).update s.heap.objs.size (aCg (·.pop))).get? b=some o:=
  λb o v e=>(aAI _ _<|aCA v).trans ((aAI _ _<|aCA v).trans e)
 have I:a.objs.size≠s.heap.objs.size:=by rw[h];lia
 show aAb {aBX PySem.F.plain_extend_loop _,codeAny_extend_loopS ((MT (prog:=prog) (w:=w) (A:=A.in1) (by simp[hh]) a.objs.size S (by lia) (es:=es) (ep:=ep) (t:=t) T U hl ha).toS) hn _ (by grind) _ es.size 0 _ _ _ rfl (aAU _) {H _ _ I C,fJ (fJ m λo e=>g S o e) λo e=>H S o (aAm Y) e} (aBp (aCg (·.pop)) u rfl) (ItemsOf.nil _) λJ ir c' x jg L=>?_};change a9 _ A (load s.heap.objs.size>>=_) _ _ J;show aAa (wpAny_load jg<|aAb ?_);have g0:=x.gens;have d0:=x.drawn;have o0:J.os=s.os:=x.os;have ea:ir.toList=(walkL w S es ep).map (·.2):=by
  have om:=(walkL_perm w S es ep).length_eq;apply aEk;intro i;rw[aAP,aAF];by_cases hi:i<es.size
  .have xl:i<ir.size:=by rw[L.1];show hi
   let{e,he,hv}:=L.2 i _ (aAC xl);grind
  rw[aBG (by rw[L.1];lia),List.getElem?_eq_none (by grind)];rfl
 let{h',g',d',yu,os'}:=J;subst g0 d0 o0;rw[ea];show hQ h' yu λb o e=>?_;have v:=aAm (aAg e);have N:b≠a.objs.size:=by rw[h];show aAm (aBE<|aAg e)
 show x.heap b o (by simp;show{v,N}) (H b o v<|g _ _<|f _ _ e)
end
end SI
namespace DL
open PySem PySem.Spec L2
open PyProof.Rows hiding St
def QN:D->Bool
 |.int _=>true
 |_=>false
def bR:D->Bool
 |.tup a=>!a.isEmpty&&a.all QN
 |_=>false
def intD:D->Int
 |.int i=>i
 |_=>0
def flat:D->List Int
 |.tup a=>a.map intD
 |_=>[]
theorem UO:∀{xs:List D},xs.all QN=true->xs=(xs.map intD).map D.int:=by
 intro a h;cases a with
 |nil=>rfl
 |cons x xs=>
  erw[aGp,aAN]at h;cases x with
  |int i=>change D.int i::xs=D.int i::(xs.map intD).map D.int;rw[<-UO h.2]
  |_=>cases h.1
def jF(h:bR d=true):flat d≠[]/\d=.tup ((flat d).map .int):=by
 cases d with
 |tup a=>erw[bR,aAN]at h;show{by simpa[flat]using h.1,?_};change D.tup a=D.tup ((a.map intD).map D.int);rw[<-UO h.2]
 |_=>cases h
def DQ(h:bR d=true)(h':bR e=true)(q:flat d=flat e):d=e:=by rw[(jF h).2,(jF h').2,q]
theorem wQ:∀l:List Int,dP (l.map D.int)=true:=by
 intro a;cases a with
 |nil=>rfl
 |cons i l=>change(true&&dP (l.map D.int))=true;rw[wQ l];rfl
def O6(h:bR d=true):pA d=true:=by rw[(jF h).2];show wQ _
def LG(h:bR d=true):D6 d<8:=by
 rw[(jF h).2];have:∀l:List Int,y9 (l.map D.int)=0:=λl=>by
  induction l with
  |nil=>rfl
  |cons i l a=>change max 0 (y9<|l.map D.int)=0;rw[a];rfl
 change y9 _+1<8;rw[this];lia
def uC(d:D):List D->List D
 |[]=>[d]
 |x::a=>if flat d=flat x then x::a else if HT.lexLt (flat d) (flat x)=true then d::x::a else x::uC d a
def W9(ds:List D):List D:=ds.foldr uC []
def YA(ds:List D):Prop:=ds.Pairwise λx y=>HT.lexLt (flat x) (flat y)=true
theorem kG:∀{xs:List D},e∈uC d xs->e=d\/e∈xs
 |[],h=>by rcases aAe.mp h with h|h;show .inl h;cases h
 |x::xs,h=>by
  unfold uC at h;split at h
  .show .inr h
  split at h
  .nofun
  rcases aAe.mp h with h|h
  .nofun
  rcases kG h with h|h
  .show .inl h
  show .inr (.tail _ h)
theorem CA:∀{xs:List D},e∈xs->e∈uC d xs
 |x::xs,h=>by
  unfold uC;split
  .show h
  split
  .show .tail _ h
  rcases aAe.mp h with h|h
  .rw[h];show .head _
  show .tail _ (CA h)
theorem DW(a:bR d=true):∀{xs:List D},(∀x∈xs,bR x=true)->d∈uC d xs:=by
 intro b h;cases b with
 |nil=>show .head _
 |cons x xs=>
  unfold uC;split
  .rename_i q;rw[DQ a (h x<|.head _) q];show .head _
  split
  .show .head _
  show .tail _ (DW a λy e=>h y (.tail _ e))
theorem AZ:∀{xs:List D},YA xs->YA (uC d xs):=by
 intro f h;cases f with
 |nil=>show aEb _ _
 |cons x xs=>
  have b:=aAw.mp h;unfold uC;split
  .show h
  rename_i ne;split
  .rename_i lt;show aAw.mpr {λy a=>?_,h};rcases aAe.mp a with rfl|a
   .show lt
   show TS.lex_trans _ _ _ lt (b.1 y a)
  rename_i e;show aAw.mpr {λy a=>?_,AZ b.2};rcases kG a with rfl|a
  .cases q:HT.lexLt (flat x) (flat y)with
   |true=>rfl
   |false=>show gs (TS.lex_total _ _ (by exists e) q) ne
  show b.1 y a
theorem R8:∀ds:List D,YA (W9 ds):=by
 intro a;cases a with
 |nil=>show .nil
 |cons _ ds=>show AZ (R8 ds)
theorem AO:∀{ds:List D},(∀d∈ds,bR d=true)->∀d∈W9 ds,bR d=true
 |[],_,d,h=>by cases h
 |e::ds,h,d,hd=>by
  rcases kG hd with rfl|hd
  .show h _ (.head _)
  show AO (λd hd=>h d (.tail _ hd)) d hd
theorem A3:∀{ds:List D},(∀d∈ds,bR d=true)->∀d,d∈W9 ds↔d∈ds:=by
 intro b h d;cases b with
 |nil=>show Iff.rfl
 |cons e ds=>
  have a:∀d∈ds,bR d=true:=λd f=>h d (.tail _ f);constructor
  .intro q;rcases kG q with rfl|q
   .show .head _
   show .tail _ ((A3 a d).mp q)
  intro q;rcases aAe.mp q with rfl|q
  .show DW (h _<|.head _) (AO a)
  show CA ((A3 a d).mpr q)
theorem eI:∀{xs a:List D},YA xs->YA a->(∀d,d∈xs↔d∈a)->xs=a:=by
 intro k g l m h;cases k with
 |nil=>
  cases g with
  |nil=>rfl
  |cons y a=>have:=(h y).mpr (.head _);cases this
 |cons x xs=>
  cases g with
  |nil=>have:=(h x).mp (.head _);cases this
  |cons y a=>
   have i:=aAw.mp l;have j:=aAw.mp m;have b:∀d:D,HT.lexLt (flat d) (flat d)≠true:=λd q=>by rw[TS.lex_irrefl]at q;cases q
   have e:x=y:=by
    rcases aAe.mp ((h x).mp (.head _))with q|q
    .show q
    rcases aAe.mp ((h y).mpr (.head _))with f|f
    .show f.symm
    show gs (TS.lex_trans _ _ _ (j.1 x q)<|i.1 y f) (b y)
   subst e;congr 1;show eI i.2 j.2 λd=>?_;grind
def MQ(h:YA xs):xs.Nodup:=h.imp λ{x y} q z=>by subst z;rw[TS.lex_irrefl]at q;cases q
def ssR:D->R (List D)
 |.lst a=>if a.all bR=true/\(W9 a).length<=63 then .ok (W9 a)else .bad
 |_=>.bad
section
mutual
theorem X4(I:Inv X Y g H s):∀{v:V}{d:D}{u:af},Rep X.K H O v d->pA d=true->RelV v u->HV s.heap u d
 |_,_,_,.non,e,_=>by cases e
 |_,_,_,.bl,e,_=>by cases e
 |_,_,_,.str,e,_=>by cases e
 |_,_,_,.lst _ _ _,e,_=>by cases e
 |_,_,_,.dct ..,e,_=>by cases e
 |_,_,_,.int,_,r=>by let{t,rfl}:=r;show .int _ t
 |_,_,_,.tup h r,e,a=>by cases a;let{b,f,p,_}:=I.tuple h;show .tup p (KL I r e f)
theorem KL(I:Inv X Y g H s):∀{v:List V}{d:List D}{u:List af},Reps X.K H O v d->dP d=true->l7 v u->HVs s.heap u d
 |_,_,_,.nil,_,.nil=>.nil
 |_,_,_,.cons r t,e,.cons b f=>by have a:(pA _&&dP _)=true:=e;rw[aAN]at a;show .cons (X4 I r a.1 b) (KL I t a.2 f)
end
end
variable [Tabs]
def a5m(w:bo)(o:Obj)(es:List af):Prop:=o.ExactSet/\∃a b t,o.data=.set a b t/\t.fits a.size=true/\t.plain=true/\t.led=!w.params.followText "set-order"/\ST.MU t.place/\a.toList.map (·.2)=es
abbrev A9(K:gy)(H:Hp)(O:a5->Prop):List af->List D->Prop:=Paired λu d=>∃v,RelV v u/\Rep K H O v d
theorem A9.of{K:gy}{H:Hp}{O:a5->Prop}:∀{vs:List V}{us:List af}{ds:List D},l7 vs us->Reps K H O vs ds->A9 K H O us ds:=by
 intro _ _ _ b a;cases b with
 |nil=>
  cases a with
  |nil=>show .nil
 |cons r t=>
  cases a with
  |cons q u=>show .cons {_,r,q} (A9.of t u)
def A9.ab8{K:gy}{H:Hp}{O:a5->Prop}:∀{us:List af}{ds:List D},A9 K H O us ds->∃vs,l7 vs us/\Reps K H O vs ds:=by
 intro _ _ h;induction h with
 |nil=>show{[],.nil,.nil}
 |cons h _ a=>let{v,r,q}:=h;let{vs,b,d}:=a;show{v::vs,.cons r b,.cons q d}
def A9.same{K:gy}{H H':Hp}{O:a5->Prop}(s:Same H H'){us:List af}{ds:List D}(h:A9 K H O us ds):A9 K H' O us ds:=fS (by rintro _ _ ⟨v,r,q⟩;show{v,r,q.same s}) h
def A9.get{K:gy}{H:Hp}{O:a5->Prop}:∀{us:List af}{ds:List D}{u:af},A9 K H O us ds->u∈us->∃d∈ds,∃v,RelV v u/\Rep K H O v d:=by
 intro _ _ _ z h;induction z with
 |nil=>cases h
 |cons r _ a=>
  rcases aAe.mp h with rfl|h
  .show{_,.head _,r}
  let{d,b,q}:=a h;show{d,.tail _ b,q}
open Classical in
def S9(K:gy) (H:Hp) (h:bt):bt:=PySem.W.hideAll h ((aBI h.objs.size).filter λa=>decide (¬∃b,W3 K H a b))
def aU(K:gy)(H:Hp)(h:bt):Keeps (S9 K H h) h:=λb o e=>PySem.W.of_hideAll _ e
open Classical in
def BV{K:gy}{H:Hp}{h:bt}{b:a5}{o:Obj}{xs:List V}(e:h.get? b=some o)(q:W3 K H b xs):(S9 K H h).get? b=some o:=PySem.W.hideAll_get _ e λa=>by have:=(aAH.mp a).2;show(of_decide_eq_true this) {xs,q}
open Classical in
def EK{K:gy}{H:Hp}{h:bt}{b:a5}{o:Obj}(e:(S9 K H h).get? b=some o):∃xs,W3 K H b xs:=by
 show aCT λn=>?_;have a:=aU K H h b o e;have:(S9 K H h).get? b=none:=PySem.W.hideAll_none _ (aAH.mpr {aCF.mpr (aAg a),gv n})
 lia
section
mutual
theorem QL(I:Inv X Y i H s):∀{v:V}{d:D}{u:af},Rep X.K H O v d->pA d=true->RelV v u->HV (S9 X.K H s.heap) u d
 |_,_,_,.non,e,_=>by cases e
 |_,_,_,.bl,e,_=>by cases e
 |_,_,_,.str,e,_=>by cases e
 |_,_,_,.lst _ _ _,e,_=>by cases e
 |_,_,_,.dct ..,e,_=>by cases e
 |_,_,_,.int,_,r=>by let{t,rfl}:=r;show .int _ t
 |_,_,_,.tup h r,e,a=>by cases a;let{b,f,{o,g,c,n,d},_}:=I.tuple h;show .tup {o,BV g h,c,n,d} (JE I r e f)
theorem JE(I:Inv X Y g H s):∀{v:List V}{d:List D}{u:List af},Reps X.K H O v d->dP d=true->l7 v u->HVs (S9 X.K H s.heap) u d
 |_,_,_,.nil,_,.nil=>.nil
 |_,_,_,.cons r t,e,.cons b f=>by have a:(pA _&&dP _)=true:=e;rw[aAN]at a;show .cons (QL I r a.1 b) (JE I t a.2 f)
end
mutual
theorem TY(I:Inv X Y y H s):∀{u:af}{d:D},HV (S9 X.K H s.heap) u d->∃v,RelV v u/\Rep X.K H O v d:=by
 intro _ _ z;cases z with
 |int i t=>show{.int i,{t,rfl},.int}
 |@tup a _ _ p r=>let{o,g,c,n,f}:=p;let{h,q}:=EK g;let{j,k,l}:=A9.ab8 (LD I r);let{m,w,{A,b,_,B,e},_}:=I.tuple q;rw[aU _ _ _ _ _ g]at b;cases b;rw[f]at e;injection e with x _;subst x;have:j=h:=k.inj (by exists w);subst this;show{.ref a,rfl,.tup q l}
theorem LD(I:Inv X Y a H s):∀{u:List af}{d:List D},HVs (S9 X.K H s.heap) u d->A9 X.K H O u d
 |_,_,.nil=>.nil
 |_,_,.cons r t=>.cons (TY I r) (LD I t)
end
end
section
def a5y(X:Cx)(B:D->Bool)(U:List D->List D)(f:Ev->R D):TE:=λj H Q=>∃k l O g,EnvOk X.K k l H O j g/\match f g with
 |.ok (.lst b)=>(b.all B=true/\(U b).length<=63)/\∀S o h e a,Same H a->a S=none->a5m X.w o h->A9 X.K a O h e->e.Nodup->(∀d,d∈e↔d∈b)->Q (.ref S) (upd a S<|.frz o (.own S))
 |.ex x=>∀i,Same H i->XW X x i
 |_=>False
def sj{B:D->Bool}{U:List D->List D}(hB:∀{d},B d=true->pA d=true/\D6 d<8/\∃N,d=.tup N)(hU:∀{ds:List D},(∀d∈ds,B d=true)->∀d,d∈U ds↔d∈ds)(ha:PB X e f)(hh:X.calm=true)(hu:X.A.units+300<cf)(hg:Gl X "set"<|>1)(hm:X.mg "set"=none<|>4)(hv:cp "set"=some (.type "set")<|>3)(he:ag [e] X.env=(false,cu e X.env)::ag [] X.env<|>1)(G9:(cq C (ag [] X.env)).any (·.1)=false<|>1):
  PE X (.Call (.Name "set" p) [e] [] C) (a5y X B U f):=by
 show wZ λY s σ H Q I H9 O0 O ρ E q=>?_;show aBb (P4 I hg hm hv ?_ (by symm) (by symm));have hpa:PA X [e] _:=M1 ha dD he;show aBl (G4 (hpa C Y s σ H (λvs g=>∃v ds,vs=[v]/\f ρ=.ok (.lst ds)/\Same H g/\z7 X.K g O v (.lst ds)) I {H9,O0,O,ρ,E,?_}) λus h z9=>?_) he G9
 .cases b:f ρ with
  |ex z=>rw[b]at q;show q
  |bad=>rw[b]at q;show q.elim
  |ok d=>
   rw[b]at q;cases d with
   |lst ds=>showλv g h r1=>{v,ds,rfl,rfl,h,r1}
   |_=>show q.elim
 let{vs,g,m,r1,v,ds,ev,ef,sm,rb}:=z9;subst ev;rw[ef]at q;let{{hp,vf},q}:=q;let{a,ws,rfl,hS,rr}:=rb.aa5;let{u,rfl,ru}:=vals1 r1;cases ru;let{k,rv,{oL,nL,gL,cL,dL,sL},zL}:=m.list hS;have pt:∀d∈ds,B d=true:=aBA.mp hp;have hlen:k.toArray.size=ds.length:=by rw[aAX,<-rv.length,rr.length]
 have st:A9 X.K g O k ds:=A9.of rv rr;have J:∀(i:Nat) (v:af),k.toArray[i]?=some v->ZJ (S9 X.K g h.heap) v (ds.getD i .non):=λi v n=>by
  rw[aCS]at n;let{d,x,w,qm,rp}:=N1 st n;have qh:ds.getD i .non=d:=by rw[aAD,x];rfl
  rw[qh];have hpt:=pt d (aAl x);let{T,hd8,N,rfl}:=hB hpt;have hv:=QL m rp T qm;cases hv with
  |tup p r=>show{_,_,rfl,rfl,hd8,.tup p r}
 have vd:∀i<k.toArray.size,D6 (ds.getD i .non)<8/\∃N,ds.getD i .non=.tup N:=λi n=>by
  have L:i<ds.length:=by rw[<-hlen];show n
  have b:ds.getD i .non=ds[i]:=by rw[aAD,aAk L];rfl
  rw[b];show(hB<|pt _<|aCh L).2
 show AV (aU X.K g h.heap) (val:=λi=>ds.getD i .non) (U:=U ds) (m.ok.hd hh) {oL,gL,cL,nL,sL} J vd (λi n=>?_) (by lia) hu λh' tk cb jg qt kp=>?_
 .have L:i<ds.length:=by rw[<-hlen];show n
  rw[hU pt];have b:ds.getD i .non=ds[i]:=by rw[aAD,aAk L];rfl
  change ds.getD i .non∈ds;rw[b];show aCh L
 let{{o,y,ep,t,T,hc,zr,hsl,x,l,msk,pr,led,pl},nd}:=jg;have mem:∀d,d∈cb↔d∈ds:=λd=>by
  rw[qt];constructor
  .rintro⟨j,hj,b⟩;have ui:j<ds.length:=by rw[<-hlen];show hj
   have e2:ds.getD j .non=ds[j]:=by rw[aAD,aAk ui];rfl
   rw[<-b,e2];show aCh ui
  intro x;let{j,hj,b}:=aBq x;show{j,by rw[hlen];show hj,?_};change ds.getD j .non=d;rw[aAD,aAk hj,<-b];rfl
 have I2:=m.laid (a:=h.heap.objs.size) (o:=.frz o (.own h.heap.objs.size)) (h':=h') (t':=tk) kp (aAi _) {T,o,T};show{.ref h.heap.objs.size,_,I2,rfl,q h.heap.objs.size o (y.toList.map (·.2)) cb g sm (m.hok.fresh<|aAi _) {{hc,zr,hsl},y,ep,t,x,?_,pl,led,l.tab.asc,rfl} ?_ nd mem}
 .have h1:=l.len;have h2:=l.room;erw[aGq,aAN,beq_iff_eq,decide_eq_true_eq];show{by simpa using h1,by change t.place.size+t.dummies.size<=t.mask;rw[l.tab.nod];simpa using h2}
 have:∀{y:List (Int×af)}{ds:List D},Paired (EV<|S9 X.K g h.heap) y ds->A9 X.K g O (y.map (·.2)) ds:=λ{y ds} p=>by
  induction p with
  |nil=>show .nil
  |cons r _ ih=>show .cons (TY m r.1) ih
 show this pr
def RU(h:bt) (v:af):List Int:=open Classical in if p:∃d,bR d=true/\HV h v d then flat p.choose else[]
def fX(b:bR d=true)(a:HV h v d):RU h v=flat d:=by unfold RU;have q:∃d,bR d=true/\HV h v d:={d,b,a};rw[dif_pos q,HV.inj q.choose_spec.2 a]
def bU(f:bR d=true)(e:HV h v d):∃b items,v=.ref b/\IsTup h b items/\IntsAre items.toList (flat d):=by
 rw[(jF f).2]at e;cases e with
 |tup p r=>
  show{_,_,rfl,p,?_};have:∀{a:List af}{l:List Int},HVs h a (l.map D.int)->IntsAre a l:=λ{a l} r=>by
   induction l generalizing a with
   |nil=>cases r;show .nil
   |cons i l g=>
    cases r with
    |cons r t=>cases r;show .cons _ _ (g t)
  show this r
def SF{prog:bb}{w:bo}{A:be}{E:D7}{s:ai}{x y:af}{d e:D}{f:Bool}{Q:CJ}(g:bR d=true)(h:bR e=true)(i:HV s.heap x d)(j:HV s.heap y e)(q:Q (HT.lexLt (flat d) (flat e)) s):a9 (ba prog w) A (keyLt' (TS.tupK f) x y) Q E s:=by let{b,k,rfl,l,m}:=bU g i;let{p,a,rfl,n,o}:=bU h j;show TS.lt_ints f l n m o q
def BF{prog:bb}{w:bo}{A:be}{E:D7}{s:ai}{vs:List af}{Q:SortKind->ai->Prop}(h:∀x∈vs,∃d,bR d=true/\HV s.heap x d)(v:2<=vs.length)(q:Q (TS.tupK true) s):a9 (ba prog w) A (keyKind' vs.toArray) Q E s:=by
 obtain⟨g,j⟩:∃g:af->af,∀x∈vs,∃b a k t,x=.ref b/\IsTup s.heap b a/\a[0]?=some (g x)/\g x=.int k t:=by
  show{λx=>open Classical in if z:∃p,∃b a k t,x=.ref b/\IsTup s.heap b a/\a[0]?=some p/\p=aGE k t then z.choose else .none,λx m=>?_};let{d,y,C}:=h x m;let{b,a,rfl,H,f}:=bU y C;have B:=(jF y).1;have z:∃p,∃i a k t,aDF b=.ref i/\IsTup s.heap i a/\a[0]?=some p/\p=aGE k t:=by
   cases e:a.toList with
   |nil=>rw[e]at f;generalize flat d=l at f B;cases f;show gs rfl B
   |cons p J=>
    rw[e]at f;generalize flat d=l at f;cases f with
    |cons k t L=>show{_,b,a,k,t,rfl,H,by rw[<-aAF,e];rfl,rfl}
  dsimp only;rw[dif_pos z];let{i,I,k,t,n,o,r,u}:=z.choose_spec;show{i,I,k,t,n,o,r,u}
 show TS.kind_tuples (T:= "int") g (λx m=>?_) (λz=>by rw[z]at v;simp at v) (by symm) q;let{b,a,k,t,n,o,r,u}:=j x m;show{b,a,n,o,r,by rw[u];show typeIs_int s k t}
def lG{K:gy}{H:Hp}{O:a5->Prop}{us b:List af}{ds:List D}{key:af->List Int}(st:A9 K H O us ds)(B:b.Perm us)(C:b.Pairwise λx y=>HT.lexLt (key y) (key x)=false)(E:∀u d,(∃v,RelV v u/\Rep K H O v d)->d∈ds->key u=flat d)(pt:∀d∈ds,bR d=true)(I:ds.Nodup):
  ∃a,A9 K H O b a/\a.Perm ds/\YA a:=by
 let{a,j,k}:=dZ B st;show{a,k,j,?_};have m:a.Nodup:=j.nodup_iff.mpr I;have n:∀d∈a,bR d=true:=λd f=>pt d (j.mem_iff.mp f);have o:∀u d,(∃v,RelV v u/\Rep K H O v d)->d∈a->key u=flat d:=λu d h f=>E u d h (j.mem_iff.mp f);clear B j st I pt E;induction k with
 |nil=>show .nil
 |@cons u d us ds r t p=>
  have s:=aAw.mp C;have w:=aBi.mp m;show aAw.mpr {λe g=>?_,p s.2 w.2 (λd f=>n d (.tail _ f)) λu d h f=>o u d h (.tail _ f)};have:∃i∈us,∃v,RelV v i/\Rep K H O v e:=by
   clear p C s w m n o r;induction t with
   |nil=>cases g
   |cons r t p=>
    rcases aAe.mp g with rfl|g
    .show{_,.head _,r}
    let{i,A,q}:=p g;show{i,.tail _ A,q}
  let{i,A,q}:=this;have l:=s.1 i A;rw[o i e q (.tail _ g),o u d r (.head _)]at l;cases z:HT.lexLt (flat d) (flat e)with
  |true=>rfl
  |false=>have:=DQ (n _<|.head _) (n _<|.tail _ g) (TS.lex_total _ _ z l);subst this;show gs g w.1
def cA{p T gr:Pos}{f:Ev->R D}(ha:PB X e f)(hh:X.calm=true)(hu:X.A.units+300<cf)(hg:Gl X "set"<|>1)(hm:X.mg "set"=none<|>4)(hg2:Gl X "sorted"<|>1)(og:X.mg "sorted"=none<|>4)
  (hv:cp "set"=some (.type "set")<|>3) (hv2:cp "sorted"=some (.builtin "sorted")<|>3)
  (he:ag [e] X.env=(false,cu e X.env)::ag [] X.env<|>1) (G9:(cq gr (ag [] X.env)).any (·.1)=false<|>1)
  (oo:ag [.Call (.Name "set" T) [e] [] gr] X.env=(false,cu (.Call (.Name "set" T) [e] [] gr) X.env)::ag [] X.env<|>1) (xp:(cq pos (ag [] X.env)).any (·.1)=false<|>1):
  PF X (.Call (.Name "sorted" p) [.Call (.Name "set" T) [e] [] gr] [] pos) (λρ=>(f ρ).bind ssR):=by
 show wZ λY s σ H Q I H9 O0 O ρ E q=>?_;dsimp only at q;show aBb (P4 I hg2 og hv2 ?_ (by symm) (by symm));show aBQ (G4 ((M1 (sj (p:=T) (B:=bR) (U:=W9) (λh=>{O6 h,LG h,_,(jF h).2}) A3 ha hh hu hg hm hv he G9) dD oo) pos Y s σ H (λvs H2=>∃S o es i g L,vs=[.ref S]/\H2=upd L S (.frz o (.own S))/\f ρ=.ok (.lst g)/\(g.all bR=true/\(W9 g).length<=63)/\Same H L/\L S=none/\a5m X.w o es/\A9 X.K L O es i/\i.Nodup/\(∀d,d∈i↔d∈g)) I {H9,O0,O,ρ,E,?_})
  λus s1 z=>?_) oo xp
 .cases e1:f ρ with
  |ex z=>rw[e1]at q;show q
  |bad=>rw[e1]at q;show q.elim
  |ok d=>
   rw[e1,R.aa0]at q;cases d with
   |lst g=>
    erw[ssR]at q;by_cases hc:g.all bR=true/\(W9 g).length<=63
    .show{hc,λS o es i L sm hS so st nd j=>{S,o,es,i,g,L,rfl,rfl,rfl,hc,sm,hS,so,st,nd,j}}
    rw[gk hc]at q;show q.elim
   |_=>show q.elim
 let{vs,H2,I2,r1,S,o,es,i,g,L,ev,eH,ef,{hp,vf},sm,hS1,so,st,nd,j}:=z;subst ev eH;let{u,rfl,ru}:=vals1 r1;cases ru;rw[ef,R.aa0]at q;erw[ssR]at q;rw[gi {hp,vf}]at q;have pt:∀d∈g,bR d=true:=aBA.mp hp;have za:∀d∈i,bR d=true:=λd J=>pt d ((j d).mp J);have s12:Same L (upd L S<|.frz o (.own S)):=j1 hS1 _;have lu:=st.same s12;let{hc,ea,ep,t,J,hf,hpln,led,asc,ees}:=so;have goS:=(I2.hok S _ i9).1;have hsl:(W9 g).Perm i:=by
  letI:DecidableEq D:=λa b=>aEi _
  show(aDL (MQ<|R8 g) nd).mpr λd=>by rw[A3 pt,j]
 have hsz:ea.size=i.length:=by have:=st.length;rw[<-ees]at this;exists this
 have h63':i.length<=63:=by rw[<-hsl.length_eq];show vf
 have wp:=SI.walkL_perm X.w S ea ep;have wpv:((SI.walkL X.w S ea ep).map (·.2)).Perm es:=by rw[<-ees];show wp.map _
 have m:∀u∈(SI.walkL X.w S ea ep).map (·.2),∃d,d∈i/\bR d=true/\HV s1.heap u d:=λu hu=>by let{d,J,v,rv,rp}:=lu.get (wpv.mem_iff.mp hu);show{d,J,za d J,X4 I2 rp (O6<|za d J) rv}
 show TS.sorted_keys (f:=true) (key:=RU s1.heap) (C:=λs'=>∃h' N,s'={s1 with heap:=h',toks:=N}/\∀b o,s1.heap.get? b=some o->h'.get? b=some o)
  (λ{Q'} hq=>SI.collect_set (by simp[I2.ok.hd hh]) ({o,goS,hc.1,J}) hf hpln (λnb=>by rw[led];exists nb) asc (by rw[hsz];show aAj h63' (by symm)) λh' N k=>hq _ {h',N,rfl,k})
  (λs' ⟨h',N,r,k⟩ s6 k6 x hx y hy prog w A E hA {Q} qq=>?_) (λh2 s' ⟨h',N,r,k⟩ s6 k6 A {Q} qq=>?_) (by rw[aAf,wp.length_eq,aBw,hsz];lia) λs' gm h' l ⟨h1,N,r,k⟩ pm srt k2 hl ⟨n,gl⟩=>?_
 .subst r;let{d,_,pd,vc}:=m x hx;let{d',_,pd',xr}:=m y hy;rw[fX pd vc,fX pd' xr]at qq;show SF pd pd' (vc.keeps λb o e _=>k6 b o (k b o e)) (xr.keeps λb o e _=>k6 b o (k b o e)) qq
 .subst r;show BF (λx hx=>?_) h2 qq;let{d,_,pd,vc}:=m x hx;show{d,pd,vc.keeps λb o e _=>k6 b o (k b o e)}
 subst r;let{qr,st3,T,xt}:=lG (key:=RU s1.heap) lu (pm.trans wpv) srt (by rintro u d ⟨v,rv,rp⟩ J;show fX (za d J) (X4 I2 rp (O6<|za d J) rv)) za nd;have e2:qr=W9 g:=eI xt (R8 g) λd=>by rw[T.mem_iff,j,A3 pt]
 subst e2;let{wv,qm,rr}:=st3.ab8;have I2':=I2.kept (h':=h1) (t':=N) k;have I3:=I2'.laid (a:=l) (o:=.lst wv) (h':=h') (t':=N) k2 hl {by rw[rr.length];show aAj vf (by symm),gm,n,qm,gl};show{.ref l,_,I3,rfl,q wv _ l (sm.trans s12) (I2'.hok.fresh hl) rr}
end
end DL
namespace SZ
open PySem
abbrev Zs(h:bt)(z TI TO:a5)(a b:af):Prop:=h.get? z=some {cls:=.type "zip",dict:=none,data:=.fields #[a,b,.bool false,.ref TI,.ref TO],slots:=#[]}
def BL(b:af):Prop:=b=.none\/∃a:Nat,b=cz a
section
def alive{Q:Option Obj->ai->Prop}(h:Q (s.heap.get? c) s):a9 (ba prog w) A (loadIfAlive c) Q E s:=λa p _=>by
 unfold loadIfAlive
 nofun
def pZ{Q:CJ}(hz:Zs s.heap z TI TO b d)(j:BL b)(f:Q true s)(g:∀h' e,Zs h' z TI TO b e->Heap.SameBut z s.heap h'->Q false {s with heap:=h'}):a9 (ba prog w) A (aDU (.ref z)) Q E s:=by
 show aAa (aCW hz rfl (x:=b) rfl ?_);rcases j with rfl|⟨a,rfl⟩
 .show aAb f
 change a9 _ _ (loadIfAlive (aEO (a:Int))>>=_) _ _ _;show aAa (alive ?_);by_cases h:(s.heap.get?<|aEO (a:Int)).isNone=true
 .rw[gi h];show aAb f
 rw[gk h];show aAa (aCW hz rfl (x:=d) rfl ?_);by_cases i:(d !=aDW true)=true
 .rw[gi i];show aAa (aCd hz (by simp) λh' k l=>aAb (g h' (.bool true) k l))
 rw[gk i];show aAb (g s.heap d hz {rfl,λ_ _=>rfl})
def VJ{Q:D7}(D:ZipApart z TI TO m n l1 l2)(hz:Zs s.heap z TI TO f0 f1)(ho:BL f0)(hTI:eN s.heap TI (.ref m) (.ref n))(L:eN s.heap TO a b)(h1:s.heap.IsListIter m l1 k)(h2:s.heap.IsListIter n l2 k)(rg:s.heap.IsList l1 xs)(om:s.heap.IsList l2 ys)(hx:xs[k]?=some x)(hy:ys[k]?=some y)(hQ:∀h' T N O a' b',Zs h' z TI TO N O->BL N->eN h' TO a' b'->h'.IsListIter m l1 (k+1)->h'.IsListIter n l2 (k+1)->s.heap.objs.size<=T->eN h' T x y->
   (∀c o,c≠z->c≠TO->c≠m->c≠n->s.heap.get? c=some o->h'.get? c=some o)->Q (.ref T) {s with heap:=h'}):
  a9 (ba prog w) A (Builtin.«zip.__next__» {[.ref z],[]}) (λfin s'=>∃v,fin=.done (.ret v)/\Q v s') E s:=by
 change a9 _ _ (field (.ref z) 2>>=_) _ _ _;show aAa (aCW hz rfl (x:=.bool false) rfl ?_);change a9 _ _ (field (.ref z) 3>>=_) _ _ _;show aAa (aCW hz rfl (x:=.ref TI) rfl<|aAa<|aBU hTI rfl ?_);change a9 _ _ (aDU (.ref z)>>=_) _ _ _;show aAa (pZ hz ho ?_ λp O U d=>?_)
 .erw[if_true];show aAa (aDq (aAa (aCW hz rfl (x:=.ref TO) rfl (aAa (aCd hz (by simp) λp U d=>?_)))));replace U:Zs p z TI TO .ellipsis f1:=U;show aAa ?_;erw[List.zipIdx_cons,List.zipIdx_nil,aDc,aFn];show aAa (aAa<|wpAny_onRaise ?_);change a9 _ _ (aCX (.ref m)>>=_) _ _ _;show aAa (aDt (h1.extBut d.extBut D.i1z) (rg.extBut d.extBut D.l1z) hx λjd u f=>aAb ?_);have q:eN jd TO a b:=f.extBut _ _ D.TOi1 (d.extBut _ _ D.TOz L);show aAa (aBU q rfl<|aAa<|wpAny_updateSeq_pair q λhV g J=>?_);replace g:eN hV TO x b:=g;show aAa (aEp<|aAb<|aAa<|aAa<|wpAny_onRaise ?_);change a9 _ _ (aCX (.ref n)>>=_) _ _ _;show aAa (aDt (((h2.extBut d.extBut D.i2z).extBut f.extBut D.i12.symm).extBut J.extBut D.TOi2.symm)
   (((om.extBut d.extBut D.l2z).extBut f.extBut D.l2i1).extBut J.extBut D.l2TO) hy λaA B h=>aAb ?_)
  have r:eN aA TO x b:=h.extBut _ _ D.TOi2 g;show aAa (aBU r rfl<|aAa<|wpAny_updateSeq_pair r λj zu i=>?_);replace zu:eN j TO x y:=zu;show aAa (aEp<|aAb<|aAb<|aAa<|aBU zu rfl<|aAa<|aGc ?_);have C:j.objs.size=s.heap.objs.size:=by rw[i.1,h.1,J.1,f.1,d.1]
  have Y:=i.extBut _ _ D.TOz.symm (h.extBut _ _ D.i2z.symm<|J.extBut _ _ D.TOz.symm<|f.extBut _ _ D.i1z.symm U);have hk3:∀c o,c≠z->c≠TO->c≠m->c≠n->s.heap.get? c=some o->j.get? c=some o:=λc o l c2 c3 c4 e=>i.extBut _ _ c2 (h.extBut _ _ c4<|J.extBut _ _ c2<|f.extBut _ _ c3<|d.extBut _ _ l e)
  have h11:=((u.extBut J.extBut D.TOi1.symm).extBut h.extBut D.i12).extBut i.extBut D.TOi1.symm;have h21:=B.extBut i.extBut D.TOi2.symm;have t:z<j.objs.size:=aAg Y;change a9 _ _ (aDS (.ref z) (.ref j.objs.size)>>=_) _ _ _;show aAa ?_;unfold aDS;have hz5:Zs (j.push {cls:=.type "tuple",data:=.seq #[x,y]}) z TI TO .ellipsis f1:=aAc _ Y;show aAa (aCd hz5 (by simp) λaC H hs8=>?_);replace H:Zs aC z TI TO (cz j.objs.size) f1:=H;show aCd H (by simp) λaB I hs9=>?_;replace I:Zs aB z TI TO (cz j.objs.size) (.bool false):=I;have up:∀c o,c≠z->j.get? c=some o->aB.get? c=some o:=λc o l e=>hs9.extBut _ _ l (hs8.extBut _ _ l<|aAc _ e);show aAb {_,rfl,(hQ aB j.objs.size _ _ x y I (.inr {_,rfl}) (up _ _ D.TOz zu) (h11.at λo e=>up _ o D.i1z e) (h21.at λo e=>up _ o D.i2z e) (aEw C.symm) (hs9.extBut _ _ (aCR t)<|hs8.extBut _ _ (aCR t)<|aAo _ rfl) λc o l c2 c3 c4 e=>up c o l (hk3 c o l c2 c3 c4 e))}
 erw[aAE,if_false];show aAa ?_;change a9 _ _ (forIn (#[.ref m,.ref n]:Array af) _ _) _ _ _;rw[<-aCz];erw[aDc,aFn];show aAa (aAa<|aAV ?_);change a9 _ _ (aCX (.ref m)>>=_) _ _ _;show aAa (aDt (h1.extBut d.extBut D.i1z) (rg.extBut d.extBut D.l1z) hx λjd u f=>aAb (aAb<|aAa<|aAa<|aAV ?_));change a9 _ _ (aCX (.ref n)>>=_) _ _ _;show aAa (aDt ((h2.extBut d.extBut D.i2z).extBut f.extBut D.i12.symm) ((om.extBut d.extBut D.l2z).extBut f.extBut D.l2i1) hy λaA B h=>aAb (aAb<|aAb ?_));have C:aA.objs.size=s.heap.objs.size:=by rw[h.1,f.1,d.1]
 have hz6:=h.extBut _ _ D.i2z.symm (f.extBut _ _ D.i1z.symm U);change a9 _ _ (newTuple [x,y]>>=_) _ _ _;show aAa (aGc<|aAb ⟨_,rfl,?_⟩);show hQ _ aA.objs.size _ _ a b (aAc _ hz6) ho (aAc _<|h.extBut _ _ D.TOi2<|f.extBut _ _ D.TOi1<|d.extBut _ _ D.TOz L) ((u.extBut h.extBut D.i12).at λo e=>aAc _ e) (B.at λo e=>aAc _ e) (aEw C.symm) (aAo _ rfl)
  λc o l c2 c3 c4 e=>aAc _ (h.extBut _ _ c4<|f.extBut _ _ c3<|d.extBut _ _ l e)
def YL{Q:Fin->ai->Prop}(v:A.handled=none)(D:ZipApart z TI TO n p y B)(hz:Zs s.heap z TI TO N O)(T:BL N)(q:eN s.heap TI (.ref n) (.ref p))(U:eN s.heap TO a b)
  (C:s.heap.IsListIter n y k) (h2:s.heap.IsListIter p B k) (H:s.heap.IsList y xs) (om:s.heap.IsList B ys) (I:xs[k]?=none)
  (hE:∀h' e,(∀c o,c≠z->c≠TO->c≠n->c≠p->s.heap.get? c=some o->h'.get? c=some o)->(∃o,h'.get? e=some o/\o.cls=.type "StopIteration")->E (.ref e) {s with heap:=h'}):
  a9 (ba prog w) A (Builtin.«zip.__next__» {[.ref z],[]}) Q E s:=by
 change a9 _ _ (field (.ref z) 2>>=_) _ _ _;show aAa (aCW hz rfl (x:=.bool false) rfl ?_);change a9 _ _ (field (.ref z) 3>>=_) _ _ _;show aAa (aCW hz rfl (x:=.ref TI) rfl<|aAa<|aBU q rfl<|aAa<|pZ hz T ?_ λd Y j f=>?_)
 .erw[if_true];show aAa (aDq (aAa (aCW hz rfl (x:=.ref TO) rfl (aAa (aCd hz (by simp) λd j f=>?_)))));replace j:Zs d z TI TO .ellipsis O:=j;show aAa (aAa<|aAa<|wpAny_onRaise ?_);show aAa (wpAny_nextOf_list_end v (C.extBut f.extBut D.i1z) (H.extBut f.extBut D.l1z) I λJ e l r=>?_);let{oe,g,h}:=r;have i:=l _ _ D.i1z.symm j;have t:e≠z:=λx=>by subst x;rw[i]at g;cases g;simp at h
  show aCd i (by simp) λhV _ L=>hE hV e (λc o m _ u _ x=>L.extBut _ _ m (l _ _ u<|f.extBut _ _ m x)) {oe,L.extBut _ _ t g,h}
 erw[aAE,if_false];show aAa ?_;rw[<-aCz];erw[aDc,aFn];show aAa (aAa<|aAV<|aAa<|wpAny_nextOf_list_end v (C.extBut f.extBut D.i1z) (H.extBut f.extBut D.l1z) I λJ e l r=>hE J e (λc o m _ u _ x=>l _ _ u (f.extBut _ _ m x)) r)
end
def RL(z TI TO d e f g:a5)(xs k:Array af)(i:Nat)(h:bt):Prop:=
 (∃j l,Zs h z TI TO j l/\BL j)/\eN h TI (.ref d) (.ref e)/\(∃a b,eN h TO a b)/\h.IsListIter d f i/\h.IsListIter e g i/\h.IsList f xs/\h.IsList g k
section
variable{s:ai}
def RL.type(h:RL z TI TO b d e f xs g i s.heap):s.TypeIs (.ref z) "zip":=by let{{j,k,a,_},_}:=h;show{_,a,rfl}
def RL.keeps(x:RL z TI TO d f g j xs n i h)(k:∀b o,b∈[z,TI,TO,d,f,g,j]->h.get? b=some o->h'.get? b=some o):RL z TI TO d f g j xs n i h':=by let{{p,q,r,t},l,{a,b,m},u,v,w,y}:=x;show{{p,q,k z _ (by simp) r,t},k TI _ (by simp) l,{a,b,k TO _ (by simp) m},u.at λo e=>k d o (by simp) e,v.at λo e=>k f o (by simp) e,w.at λo e=>k g o (by simp) e,y.at λo e=>k j o (by simp) e}
def VA{Q:Option af->ai->Prop}(D:ZipApart z TI TO j k p q)(hl:xs.size=d.size)(st:RL z TI TO j k p q xs d i s.heap)(C:i<xs.size)(H:∀h' T x y,xs[i]?=some x->d[i]?=some y->RL z TI TO j k p q xs d (i+1) h'->s.heap.objs.size<=T->eN h' T x y->(∀c o,c∉[z,TO,j,k]->s.heap.get? c=some o->h'.get? c=some o)->Q (some (.ref T)) {s with heap:=h'}):
  a9 (ba prog w) A (fg (.ref z)) Q E s:=by
 have r:=st.type;let{{f0,f1,I,J},f,{a,b,l},L,N,t,u}:=st;have v:xs[i]?=some xs[i]:=aAC C;have B:d[i]?=some (d[i]'(by lia)):=aAC (by lia);unfold fg;show aAa (aEf (aCc (name:=aFR "__next__") r aEj
  (aBn aEj r F.entry_zip_next (VJ D I J f l L N t u v B λh' T m n O U Y e2 e3 e4 e5 e6 e7 h=>aAb ?_)<|F.args_zip_next_1 _)))
 show H h' T _ _ v B {{m,n,Y,e2},h _ _ D.TIz D.TITO D.TIi1 D.TIi2 f,{O,U,e3},e4,e5,t.at λo e=>h _ o D.l1z D.l1TO D.l1i1 D.l1i2 e,u.at λo e=>h _ o D.l2z D.l2TO D.l2i1 D.l2i2 e} e6 e7 λc o g e=>?_;erw[aAe,aAR,or_false,not_or]at g;show h c o g.1 g.2.1 g.2.2.1 g.2.2.2 e
def VD{Q:Option af->ai->Prop}(l:A.handled=none)(D:ZipApart z TI TO i j m n)(st:RL z TI TO i j m n xs C xs.size s.heap)
  (p:∀h',(∀c o,c∉[z,TO,i,j]->s.heap.get? c=some o->h'.get? c=some o)->Q none {s with heap:=h'}):a9 (ba prog w) A (fg (.ref z)) Q E s:=by
 have k:=st.type;let{{H,I,q,r},f,{a,b,g},t,u,v,x}:=st;unfold fg;show aAa (aEf (aCc (name:=aFR "__next__") k aEj
  (aBn aEj k F.entry_zip_next (YL (by exists l) D q r f g t u v x (aBG<|aAi _) λh' e y B=>?_)<|F.args_zip_next_1 _)))
 let{o,h,d}:=B;show aAa (aDm (T:= "StopIteration") (b:=true) {o,h,d} aGh ?_);show aAb (p _ λc o d e=>?_);erw[aAe,aAR,or_false,not_or]at d;show y c o d.1 d.2.1 d.2.2.1 d.2.2.2 e
def Pairs(h0:bt)(xs a B:Array af)(i:Nat)(h:bt)(off:List a5):Prop:=B.size=i/\∀(j:Nat) (v:af),B[j]?=some v->∃T x y,v=.ref T/\xs[j]?=some x/\a[j]?=some y/\eN h T x y/\T∉off/\h0.get? T=none
def QU(hh:A.handled=none)(D:ZipApart z TI TO g l O Q)(hl:xs.size=U.size)(hn:xs.size<=sizeLine)(S:a5)(uf:S∉[z,TI,TO,g,l,O,Q])(res:af)(h0:bt):
  ∀(k i:Nat) (s:ai) (B:Array af) (c:Nat),xs.size-i=k->i<=xs.size->(∀b o,b∉[z,TO,g,l,S]->h0.get? b=some o->s.heap.get? b=some o)->RL z TI TO g l O Q xs U i s.heap->s.heap.get? S=some {cls:=.type "list",dict:=none,data:=.seq B c,slots:=#[]}->Pairs h0 xs U B i s.heap [z,TO,g,l,S]->
  (∀h' L Y,(∀b o,b∉[z,TO,g,l,S]->s.heap.get? b=some o->h'.get? b=some o)->h'.get? S=some {cls:=.type "list",dict:=none,data:=.seq L Y,slots:=#[]}->Pairs h0 xs U L xs.size h' [z,TO,g,l,S]->R (.ok (.ret res)) {s with heap:=h'})->
  ee (ba prog w) A (.builtin "list.extend.loop" {[.ref S,.ref z,res],[]}) R s:=by
 have C:S∉[z,TO,g,l]:=λh=>uf (by erw[aAe,aAR,or_false]at h⊢;rcases h with h|h|h|h<;>simp[h]);have m:∀b,b∉[z,TO,g,l,S]->b∉[z,TO,g,l]:=λb h q=>h (by erw[aAe,aAR,or_false]at q⊢;rcases q with q|q|q|q<;>simp[q]);intro k;induction k with
 |zero=>
  intro i s B c hk hi p N E n hR;have ql:i=xs.size:=by lia
  subst ql;show aBB F.entry_extend_loop ?_;rw[aBF aDh _];change a9 _ A.in1 (fg (.ref z)>>=_) _ _ s;show aAa (VD (by exists hh) D N λh' kp=>?_);show aAb (hR h' B c (λb o d e=>kp b o (m b d) e) (kp S _ C E) {n.1,λj v t=>?_});let{T,x,y,e1,e2,e3,e4,u,e6}:=n.2 j v t;show{T,x,y,e1,e2,e3,kp T _ (m T u) e4,u,e6}
 |succ k ih=>
  intro i s B c hk hi p N E n hR;have av:i<xs.size:=by lia
  show aBB F.entry_extend_loop ?_;rw[aBF aDh _];change a9 _ A.in1 (fg (.ref z)>>=_) _ _ s;show aAa (VA D hl N av λh' T x y hx hy lh hT hP kp=>?_);have jg:=kp S _ C E;have f:∀b o,s.heap.get? b=some o->T≠b:=λb o e q=>gs (aAn (aAg e) hT) (by rw[q];show aBx _);let{{f0,f1,hz,_},_,{a,b,hTO},{o1,g1,_},{o2,g2,_},_}:=id N;have H:T∉[z,TO,g,l,S]:=by erw[aAe,aAR,or_false,not_or];show{f _ _ hz,f _ _ hTO,f _ _ g1,f _ _ g2,f _ _ E}
  change a9 _ A.in1 (updateSeq S (·.push (.ref T))>>=_) _ _ _;show aAa ?_;have I:∀b o,b≠S->h'.get? b=some o->(h'.update S (aCg (·.push (.ref T)))).get? b=some o:=λb o d e=>(aAI _ _<|aCA d).trans e;have neS:∀b,b∈[z,TI,TO,g,l,O,Q]->b≠S:=λb d q=>uf (q▸d);show aCe jg rfl (aAb {aBX aDh _,ih (i+1) _ (B.push<|.ref T) _ (by lia) av (λb o d e=>I b o (λq=>d (by simp[q])) (kp b o (m b d)<|p b o d e)) (lh.keeps λb o d e=>I b o (neS b d) e) (aBp _ jg rfl) {by rw[Array.size_push,n.1],λj v t=>?_} λh'' L Y kp' xn r=>?_})
   (by rw[n.1];lia) (by change(B.push<|.ref T).size<=sizeLine+1;rw[Array.size_push,n.1];lia)
  .rw[Array.getElem?_push]at t;split at t
   .rename_i q;cases t;rw[n.1]at q;subst q;show{T,x,y,rfl,hx,hy,I T _ (f _ _ E) hP,H,?_};cases q0:h0.get? T with
    |none=>rfl
    |some o=>show gs rfl (f T o<|p T o H q0)
   let{J,x',y',e1,e2,e3,e4,u,e6}:=n.2 j v t;have n5:J≠S:=λq=>u (by simp[q]);show{J,x',y',e1,e2,e3,I J _ n5 (kp J _ (m J u) e4),u,e6}
  show hR h'' L Y (λb o d e=>kp' b o d (I b o (λq=>d (by simp[q]))<|kp b o (m b d) e)) xn r
end
section
def fG{Q:D7}(St:bt->Prop)(L:∀d:ai,St d.heap->d.TypeIs (.ref I) T)(z:∀h h',St h->(∀b o,b≠s.heap.objs.size->h.get? b=some o->h'.get? b=some o)->St h')(t:I≠s.heap.objs.size)
  (n1:(aCy T==aCy "list")=false) (n2:(aCy T==aCy "tuple")=false) (N:∀{M:Model}{A:be}{E:D7}{s:ai}{Q:Fin->ai->Prop}{a b:Sem Fin},(room=true->a9 M A a Q E s)->(room=false->a9 M A b Q E s)->a9 M A (if(room||["set", "frozenset", "dict", "dict_keys", "dict_values", "dict_items"].any (aCy T==aCy ·))=true then a else b) Q E s)
  (j:∀(d:ai) (Q:D7) (E:D7),St d.heap->Q (.ref I) d->a9 (ba prog w) A.in1.in1 (pyIter (.ref I)) Q E d)
  (hint:∀(d:ai) (Q:CJ) (E:D7),St d.heap->Q room d->a9 (ba prog w) A.in1.in1 (aCN (.ref I)) Q E d) (O:St s.heap)
  (f:∀(p:bt) (c:Nat) (R:Result->ai->Prop),(∀b o,s.heap.get? b=some o->p.get? b=some o)->St p->p.get? s.heap.objs.size=some {cls:=.type "list",dict:=none,data:=.seq #[] c,slots:=#[]}->(∀s',Q (.ref s.heap.objs.size) s'->R (.ok (.ret .none)) s')->
   ee (ba prog w) A.in1 (.builtin "list.extend.loop" {[.ref s.heap.objs.size,.ref I,.none],[]}) R {s with heap:=p}):
  a9 (ba prog w) A (call (.type "list") [.ref I]) Q E s:=by
 show callType_codes (Q₁:=λk B=>k=.ref s.heap.objs.size/\B={s with heap:=s.heap.push {cls:=.type "list",data:=.seq #[]}}) F.called_list (F.typeCall_list_1 _) F.entry_list_init
  (code_list_new _ {rfl,rfl}) λk B l=>?_
 let{rfl,rfl}:=l;have r:(s.heap.push {cls:=.type "list",data:=.seq #[]}).get? s.heap.objs.size=some {cls:=.type "list",data:=.seq #[]}:=aAo _ rfl;have C:∀b o,s.heap.get? b=some o->b≠s.heap.objs.size:=λb o e=>aAm (aAg e);show{{_,r,rfl},F.args_list_init_2 _ _,(aAa ?_)};unfold aDs;show aAa (aBU r rfl<|aAb<|aAa<|aCe r rfl ?_);have i:=aBp (aCg<|λ_=>(#[]:Array af)) r rfl;show aAa (aEp ?_);generalize u:(s.heap.push {cls:=.type "list",data:=.seq #[]}).update s.heap.objs.size (aCg<|λ_=>(#[]:Array af))=g at*
 have v:∀b o,s.heap.get? b=some o->g.get? b=some o:=λb o e=>by rw[<-u];show(aAI _ _<|aCA<|C b o e).trans (aAc _ e)
 have m:St g:=z s.heap g O λb o _ e=>v b o e;have x:aDf (.ref s.heap.objs.size) (.ref I)=false:=by simp[aDf,aCA t]
 have y:Shared.TypeIs {s with heap:=g} (.ref I) T:=L {s with heap:=g} m;unfold aDJ;show aAa (aDY y ?_);erw[x,n1,n2,Bool.or_false,aAE,if_false];show aAa (j _ _ _ m<|aAa<|aAV<|hint _ _ _ m<|N (λ_=>?_)<|λ_=>?_)
 .change a9 _ A.in1.in1 (rule "list.extend.makes-room">>=λ_=>Builtin.List.listTouch (.ref s.heap.objs.size)>>=λ_=>again (.builtin "list.extend.loop" {[.ref s.heap.objs.size,.ref I,.none],[]})) _ _ _;show aAa (aDq<|aAa ?_);show aAa (aCe i rfl ?_);have n:=aBp (aCg (·.push Value.none)) i rfl;show aCe n rfl ?_;have H:∀b o,b≠s.heap.objs.size->g.get? b=some o->((g.update s.heap.objs.size (aCg (·.push Value.none))).update s.heap.objs.size (aCg (·.pop))).get? b=some o:=
   λb o J e=>(aAI _ _<|aCA J).trans ((aAI _ _<|aCA J).trans e)
  show aAb {aBX aDh _,f _ _ _ (λb o e=>H b o (C b o e) (v b o e)) (z g _ m H) (aBp (aCg (·.pop)) n rfl) λs' q=>{rfl,q}}
 show aAb {aBX aDh _,f _ _ _ v m i λs' q=>{rfl,q}}
def OW:typeLookup (.type "zip") "__len__"=pure none:=by rw[aDI,aCv];kernel_rfl
def IC:typeLookup (.type "zip") "__length_hint__"=pure none:=by rw[aDI,aCv];kernel_rfl
def QK{Q:D7}(C:A.handled=none)(D:ZipApart z TI TO d f i l)(H:xs.size=m.size)(I:xs.size<=sizeLine)(st:RL z TI TO d f i l xs m 0 s.heap)(J:∀h' B c,(∀b o,b∉[z,TO,d,f]->s.heap.get? b=some o->h'.get? b=some o)->h'.get? s.heap.objs.size=some {cls:=.type "list",dict:=none,data:=.seq B c,slots:=#[]}->Pairs s.heap xs m B xs.size h' [z,TO,d,f,s.heap.objs.size]->Q (.ref s.heap.objs.size) {s with heap:=h'}):
  a9 (ba prog w) A (call (.type "list") [.ref z]) Q E s:=by
 have lt:∀b∈[z,TI,TO,d,f,i,l],b≠s.heap.objs.size:=λb g=>by
  let{{L,N,r,_},n,{a,b',p},{o1,O,_},{o2,T,_},{o3,U,_},{o4,Y,_}}:=st;simp at g;rcases g with rfl|rfl|rfl|rfl|rfl|rfl|rfl
  .show aAm (aAg r)
  .show aAm (aAg n)
  .show aAm (aAg p)
  .show aAm (aAg O)
  .show aAm (aAg T)
  .show aAm (aAg U)
  show aAm (aAg Y)
 show fG (room:=true) (RL z TI TO d f i l xs m 0) (λt h=>h.type) (λh h' x k=>x.keeps λb o g e=>k b o (lt b g) e) (lt z (by simp)) (by symm) (by symm) (λu h2=>by rw[gi (by symm)];show u rfl)
  (λt Q E x q=>?_) (λt Q E x q=>?_) st λu c R y uz hS hR=>?_
 .let{{L,N,r,_},_}:=id x;show aEo x.type F.slot_zip_iter (aBn F.slot_zip_iter x.type F.entry_zip_iter ?_ (F.args_zip_iter_1 _));show aAb {_,rfl, "zip",_,x.type,aEj.lookup,q}
 .unfold aCN;show aAa (aBz x.type OW ?_);change a9 _ _ (specialOf (aDF z) (aFR "__length_hint__")>>=_) _ _ _;show aAa (aBz x.type IC<|aAb q)
 show QU (by exists C) D H I s.heap.objs.size (λh=>lt _ h rfl) .none s.heap xs.size 0 _ #[] c (by lia) (aAU _) (λb o _ e=>y b o e) uz hS {rfl,λj v h=>by simp at h} λh' ir c' kp jg hP=>hR _ (J h' ir c' (λb o g e=>kp b o ?_ (y b o e)) jg hP);have:=aAm (aAg e);grind
def MG:typeLookup (.type "list_reverseiterator") "__len__"=pure none:=by rw[aDI,aCv];kernel_rfl
def XM:typeLookup (.type "list_reverseiterator") "__length_hint__"=pure (some (.builtin "list_reverseiterator.__length_hint__")):=by rw[aDI,aCv];kernel_rfl
def XE{Q:D7}(z:A.handled=none)(B:l≠r)(C:xs.size<=sizeLine)(m:s.heap.IsRevIter r l ((xs.size:Int)-1))(n:s.heap.IsList l xs)(H:∀h' tk c,(∀b o,b≠r->s.heap.get? b=some o->h'.get? b=some o)->h'.get? s.heap.objs.size=some {cls:=.type "list",dict:=none,data:=.seq xs.reverse c,slots:=#[]}->Q (.ref s.heap.objs.size) {s with heap:=h',toks:=tk}):
  a9 (ba prog w) A (call (.type "list") [.ref r]) Q E s:=by
 have p:r≠s.heap.objs.size:=by let{o,g,_}:=m;show aAm (aAg g)
 have I:l≠s.heap.objs.size:=by let{o,g,_}:=n;show aAm (aAg g)
 show fG (room:=false) (λh=>h.IsRevIter r l ((xs.size:Int)-1)/\h.IsList l xs) (λt h=>h.1.typeIs) (λh h' x k=>{x.1.at λo e=>k r o p e,x.2.at λo e=>k l o I e}) p (by symm) (by symm)
  (λJ L=>by rw[gk (by symm)];show L rfl) (λt Q E x q=>wpAny_pyIter_revIter x.1 q) (λt Q E x q=>?_) {m,n} λJ c R N uz O T=>?_
 .have f:=x.1.typeIs;unfold aCN;show aAa (aBz f MG ?_);change a9 _ _ (specialOf (aDF r) (aFR "__length_hint__")>>=_) _ _ _;show aAa (aBz f XM (aAa (aDm (b:=true) f (by rw[aFm];kernel_rfl)<|aAb q)))
 have W:=(Walks.listRev (prog:=prog) (w:=w) (A:=A.in1.in1) (by simp[z]) r l B xs).toS;show codeAny_extend_loopS W C s.heap.objs.size (by grind) .none xs.size 0 _ #[] c (by lia) (aAU _) {aAU _,by simpa using uz.1,uz.2} O (ItemsOf.nil _) λa u U d Y j=>T _ ?_;have ea:u=xs.reverse:=by
  apply Array.ext';apply aEk;intro i;rw[aAF,aAF];by_cases v:i<xs.size
  .have y:i<u.size:=by rw[j.1];show v
   have:=j.2 i _ (aAC y);rw[aAC y,Array.getElem?_reverse v,this]
  rw[aBG (by rw[j.1];lia),aBG (by simp;lia)]
 subst ea;have g0:a.gens=s.gens:=d.gens;have d0:a.drawn=s.drawn:=d.drawn;have o0:a.os=s.os:=d.os;let{h',g',d',yu,os'}:=a;subst g0 d0 o0;show H h' yu U (λb o hb e=>(d.heap b o (by simp;show{aAm (aAg e),hb})<|N b o e)) Y
end
end SZ
namespace DL
open PySem PySem.Spec L2
open PyProof.Rows hiding St
section
variable [Tabs]
section
def a4u:D->R (List D)
 |.lst a=>.ok a.reverse
 |_=>.bad
def FI(ha:PB X e f)(hh:X.calm=true)(hg:Gl X "reversed"<|>1)(hm:X.mg "reversed"=none<|>4)(A:Gl X "list"<|>1)(og:X.mg "list"=none<|>4)(hv:cp "reversed"=some (.type "reversed")<|>3)(B:cp "list"=some (.type "list")<|>3)(T:ag [e] X.env=(false,cu e X.env)::ag [] X.env<|>1)(G9:(cq j (ag [] X.env)).any (·.1)=false<|>1)(U:ag [.Call (.Name "reversed" C) [e] [] j] X.env=(false,cu (.Call (.Name "reversed" C) [e] [] j) X.env)::ag [] X.env<|>1)(xp:(cq h (ag [] X.env)).any (·.1)=false<|>1)(J:cq h (ag [] X.env)=[]<|>1):
  PF X (.Call (.Name "list" p) [.Call (.Name "reversed" C) [e] [] j] [] h) (λρ=>(f ρ).bind a4u):=by
 show wZ λY s σ H Q I H9 O0 O ρ E q=>?_;dsimp only at q;show aBb (P4 I A og B (aBl ?_ U xp) (by symm) (by symm));rw[U];change a9 _ _ (spliced ((false,cu (.Call (.Name "reversed" C) [e] [] j) X.env)::cq h (ag [] X.env))) _ _ s;show aFf (aBb (P4 I hg hm hv ?_ (by symm) (by symm)));show aBl (G4 ((M1 ha dD T) j Y s σ H (λi k=>∃v l,i=[v]/\f ρ=.ok (.lst l)/\Same H k/\z7 X.K k O v (.lst l)) I {H9,O0,O,ρ,E,?_}) λx m z9=>?_) T G9
 .cases e1:f ρ with
  |ex z=>rw[e1]at q;show q
  |bad=>nofun
  |ok d=>
   rw[e1,R.aa0]at q;cases d with
   |lst l=>showλv k m L=>{v,l,rfl,rfl,m,L}
   |_=>show(q).elim
 let{i,k,y,L,v,l,ev,ef,sm,rb}:=z9;subst ev;rw[ef,R.aa0]at q;let{a,N,rfl,hS,rr}:=rb.aa5;let{u,rfl,ru}:=vals1 L;cases ru;let{g,rv,{oL,nL,gL,cL,dL,sL},zL}:=y.list hS;have hl:m.heap.IsList a g.toArray:={oL,gL,cL,nL,sL};show call_reversed_list hl ?_;rw[J];show aFw ?_;show SZ.XE (y.ok.hd hh) (aAm<|aAg gL) (aAX▸rv.length▸zL) {_,aAo _ rfl,rfl,rfl} (hl.push _) λh' tk c kp gl=>?_;have kk:=λb u e=>kp b u (aAm<|aAg e) (aAc _ e);have n:m.heap.objs.size<=(m.heap.push<|revObj a<|(g.toArray.size:Int)-1).objs.size:=by rw[aBm];simp
 have w:l7 N.reverse g.reverse:=by
  have:∀{i:List V}{x:List af},l7 i x->l7 i.reverse x.reverse:=λ{i x} r=>by
   induction r with
   |nil=>show .nil
   |cons r t ih=>rw[aBc,aBc];show ih.append (.cons r .nil)
  show this rv
 show{.ref _,_,(y.laid (o:=.lst N.reverse) (h':=h') (t':=tk) kk n {by rw[aCl];show zL,g.reverse,c,w,by rw[gl];simp}),rfl,q N.reverse k _ sm (y.hok.fresh n) rr.reverse}
def _root_.L2.Inv.ae7(I:Inv X Y d H s)(k:∀b u,s.heap.get? b=some u->h'.get? b=some u)(a:Same H Hn)(f:∀b u,H b=none->Hn b=some u->s.heap.get? b=none/\ObjOk X.prog X.w Hn h' b u):
  Inv X Y d Hn {s with heap:=h',toks:=t'}:=by
 show I.un {λb o e _ _ _=>k b o e,λb o e _ _ _=>{o.slots,k b o e},λb o e n _=>?_,λb o e _=>{o,k b o e},λb h e=>a _ _ e,λb o u e=>a _ _ e,λb i e=>a _ _ e} λb u e=>?_
 .cases q:Hn b with
  |none=>rfl
  |some u=>nofun
 cases q:H b with
 |none=>show(f b u q e).2
 |some g=>have:=a b g q;rw[e]at this;cases this;show(I.hok b u q).ab9 (λc v _ z=>k c v z) (λc z=>a _ _ z) λc u _ z=>a _ _ z
def cS(xs d:List D):List D:=List.zipWith (λa b=>D.tup [a,b]) xs d
def uA:List D->R (List D)
 |[.lst a,.lst b]=>if a.length=b.length then .ok (cS a b)else .bad
 |_=>.bad
def KS(ds:List D):uA ds=.bad\/∃xs a,ds=[.lst xs,.lst a]:=by
 unfold uA;split
 .show .inr {_,_,rfl}
 show .inl rfl
def OF{K:gy}{h:Hp}{O:a5->Prop}{h0 h':bt}{l:a5}(hf:∀b,h0.get? b=none->h b=none):∀{xs f:List D}{k m B:List af},A9 K h O k xs->A9 K h O m f->xs.length=f.length->
  (∀(j:Nat) (v:af),B[j]?=some v->∃T x y,v=.ref T/\k[j]?=some x/\m[j]?=some y/\eN h' T x y/\T≠l/\h0.get? T=none)->B.length=xs.length->
  ∃(vs:List V) (Hn:Hp),l7 vs B/\Same h Hn/\(∀b u,h b=none->Hn b=some u->h0.get? b=none/\b≠l/\∃ws its,u=.tup ws/\ws.length<=2/\l7 ws its/\IsTup h' b its.toArray)/\Reps K Hn O vs (cS xs f):=by
 intro xs f k m B;induction B generalizing xs f k m with
 |nil=>
  intro r s t _ z;cases xs with
  |nil=>cases f with
   |nil=>show{[],h,.nil,Same.refl _,λb u n q=>(by rw[n]at q;cases q),.nil}
   |cons _ _=>cases t
  |cons _ _=>cases z
 |cons v B ih=>
  intro r s t Y z;cases r with
  |nil=>cases z
  |@cons u d k xs rx r=>
   cases s with
   |nil=>cases t
   |@cons I d' m f ry s=>
    let{T,x,y,rfl,ex,ey,hp,nl,p}:=Y 0 v rfl;cases ex;cases ey;let{vs,Hn,r1,i,J,rr}:=ih r s (by exists t) (λj v hj=>by let{T,x,y,e1,L,e3,e4}:=Y (j+1) v (by exists hj);show{T,x,y,e1,by simpa using L,by simpa using e3,e4}) (by exists z)
    let{A,N,a}:=rx;let{C,Q,e}:=ry;have v2:l7 [A,C] [u,I]:=.cons N (.cons Q .nil);cases q:Hn T with
    |none=>
     have E:Same Hn (upd Hn T<|.tup [A,C]):=j1 q _;show{.ref T::vs,upd Hn T (.tup [A,C]),.cons rfl r1,i.trans E,λb w n H=>?_,.cons (.tup (W3.of i9) (.cons ((a.same i).same E) (.cons ((e.same i).same E) .nil))) (rr.same E)};by_cases hb:b=T
     .subst hb;rw[i9]at H;cases H;show{p,nl,_,_,rfl,by simp,v2,{_,hp,rfl,0,rfl}}
     rw[j5 hb]at H;show J b w n H
    |some w=>
     let{_,_,ws,its,rfl,_,vw,{o,g,_,n,dd}}:=J T w (hf T p) q;have U:h'.get? T=some {cls:=.type "tuple",data:=.seq #[u,I]}:=hp;rw[U]at g;cases g;have L:its=[u,I]:=by grind
     subst L;have:ws=[A,C]:=vw.inj v2;subst this;show{.ref T::vs,Hn,.cons rfl r1,i,J,.cons (.tup (W3.of q) (.cons (a.same i) (.cons (e.same i) .nil))) rr}
def FJ{e1 e2:bp}{p p2 w:Pos}{f1 f2:Ev->R D}(ha1:PB X e1 f1)(ha2:PB X e2 f2)(hh:X.calm=true)(hg:Gl X "zip"<|>1)(hm:X.mg "zip"=none<|>4)(hg2:Gl X "list"<|>1)(og:X.mg "list"=none<|>4)
  (hv:cp "zip"=some (.type "zip")<|>3) (hv2:cp "list"=some (.type "list")<|>3)
  (he1:ag [e2] X.env=(false,cu e2 X.env)::ag [] X.env<|>1) (he:ag [e1,e2] X.env=(false,cu e1 X.env)::ag [e2] X.env<|>1) (G9:(cq w (ag [e2] X.env)).any (·.1)=false<|>1)
  (oo:ag [.Call (.Name "zip" p2) [e1,e2] [] w] X.env=(false,cu (.Call (.Name "zip" p2) [e1,e2] [] w) X.env)::ag [] X.env<|>1) (xp:(cq i (ag [] X.env)).any (·.1)=false<|>1) (hnl:cq i (ag [] X.env)=[]<|>1):
  PF X (.Call (.Name "list" p) [.Call (.Name "zip" p2) [e1,e2] [] w] [] i) (λρ=>(j8 f1 (j8 f2 N0) ρ).bind uA):=by
 show wZ λY s σ H Q I H9 O0 O ρ E q=>?_;dsimp only at q;show aBb (P4 I hg2 og hv2 (aBl ?_ oo xp) (by symm) (by symm));rw[oo];change a9 _ _ (spliced ((false,cu (.Call (.Name "zip" p2) [e1,e2] [] w) X.env)::cq i (ag [] X.env))) _ _ s;show aFf (aBb (P4 I hg hm hv (aBl (G4 ((o7 ha1 (o7 ha2 w9 he1) he) w Y s σ H (λk A=>∃v1 v2 m r,k=[v1,v2]/\j8 f1 (j8 f2 N0) ρ=.ok [.lst m,.lst r]/\m.length=r.length/\Same H A/\z7 X.K A O v1 (.lst m)/\z7 X.K A O v2 (.lst r)) I {H9,O0,O,ρ,E,?_}) λus g z9=>?_) he G9) (by symm) (by symm)))
 .cases e1:j8 f1 (j8 f2 N0) ρ with
  |ex z=>rw[e1]at q;show q
  |bad=>rw[e1]at q;show q.elim
  |ok ds=>
   rw[e1,R.aa0]at q;rcases KS ds with z|⟨m,r,rfl⟩
   .rw[z]at q;show q.elim
   erw[uA]at q;by_cases hc:m.length=r.length
   .intro k A g t;cases t with
    |cons ra t=>cases t with
     |cons rb t=>cases t with
      |nil=>grind
   nofun
 let{k,A,C,t,v1,v2,m,r,ev,ef,vh,sm,rb1,rb2}:=z9;subst ev;rw[ef,R.aa0]at q;erw[uA]at q;rw[gi vh]at q;let{a,wx,rfl,hSx,rx}:=rb1.aa5;let{b,wy,rfl,hSy,ry}:=rb2.aa5;let{u1,u2,rfl,ru1,ru2}:=vals2 t;cases ru1;cases ru2;let{J,d,{oX,nX,gX,cX,dX,sX},zX}:=C.list hSx;let{L,N,{oY,nY,gY,cY,dY,sY},zY}:=C.list hSy;have U:g.heap.IsList a J.toArray:={oX,gX,cX,nX,sX};have hly:g.heap.IsList b L.toArray:={oY,gY,cY,nY,sY};show call_zip_2 U hly λh z1 z2 z3 z4 z5 zsz k1=>?_;rw[hnl];show aFw ?_;have lx:J.length=m.length:=by rw[<-d.length,rx.length]
 have ly:L.length=r.length:=by rw[<-N.length,ry.length]
 have I2:=C.kept (h':=h) (t':=g.toks) k1;have D:=zipApart_new (n:=g.heap.objs.size) (aAg gX) (aAg gY);show SZ.QK (s:={g with heap:=h}) (C.ok.hd hh) D (by grind) (by rw[aAX,<-d.length];show zX) {{_,_,z1,.inl rfl},z2,{_,_,z3},z4,z5,U.at λo e=>k1 _ o e,hly.at λo e=>k1 _ o e} λh' B c kp gl hP=>?_;have k12:=λb u e=>kp b u (by have f:=aAg e;simp;show{aAm (aAn f<|aBV _ _),aAm (aAn f<|aBV _ _),aAm f,aAm (aAn f<|aBV _ _)}) (k1 b u e)
 let{k,Hn,rva,smn,qc,rr}:=OF (h0:=h) (h':=h') (l:=h.objs.size) (λb f=>by
  cases q:A b with
  |none=>rfl
  |some u=>show gs f ((I2.hok b u q).live)) (B:=B.toList) (A9.of d rx) (A9.of N ry) vh (λj v hj=>by
  let{T,x,y,e1,e2,e3,e4,e5,e6}:=hP.2 j v (by rw[<-aAF];show hj);show{T,x,y,e1,by simpa using e2,by simpa using e3,e4,λz=>e5 (by simp[z]),e6}) (by rw[aBw,hP.1,aAX,lx])
 have hls:Hn h.objs.size=none:=by
  cases q:Hn h.objs.size with
  |none=>rfl
  |some u=>have:=(qc _ u (I2.hok.fresh<|aAi _) q).2.1;show gs rfl this
 have hlen:k.length<=sizeLine:=by rw[rva.length,aBw,hP.1,aAX,<-d.length];show zX
 have I3:=C.ae7 (Hn:=upd Hn h.objs.size (.lst k)) (h':=h') (t':=g.toks) k12 (smn.trans<|j1 hls _) (λb u n qb=>by
  by_cases f:b=h.objs.size
  .subst f;rw[i9]at qb;cases qb;show{aED (by rw[zsz];lia),hlen,B.toList,c,rva,by rw[gl]}
  rw[j5 f]at qb;let{h0b,_,ws,its,rfl,l2,vw,tt}:=qc b u n qb;show{?_,aAj l2 (by symm),its,vw,tt};cases z:g.heap.get? b with
  |none=>rfl
  |some o=>rw[k1 b o z]at h0b;cases h0b)
 show{.ref _,_,I3,rfl,q k Hn _ (sm.trans smn) hls rr}
end
mutual
def nR:D->Nat
 |.tup a=>M3 a+1
 |_=>1
def M3:List D->Nat
 |[]=>0
 |x::a=>nR x+M3 a
end
theorem eF:∀xs a:List D,M3 (xs++a)=M3 xs+M3 a:=by
 intro b a;cases b with
 |nil=>simp[M3]
 |cons x xs=>rw[aBj,M3,M3,eF xs a];lia
section
variable{prog:bb}{w:bo}
def PHe(prog:bb)(w:bo)(h:bt)(v:af)(d:D):Prop:=∀(A:be) (E:D7) (s:ai) (Q:Int->ai->Prop),s.heap=h->A.units+8*D6 d<cf->Q (l8 d) {s with toks:=s.toks+nR d}->a9 (ba prog w) A (pyHash v) Q E s
mutual
theorem UL:∀{v:af}{d:D},HV h v d->PHe prog w h v d
 |_,_,.int i t=>λA E s Q C H q=>(intKind prog w).pyHash (k:=i) (intKind_is _ _ _ _) q
 |_,_,.tup (a:=a) (items:=items) (ds:=ds) p r=>λA E s Q C H q=>by
  have fs:=KW r;subst C;let{o,I,N,n,O}:=p;have l:s.TypeIs (.ref a) "tuple":={o,I,N};have y:A.units<cf:=by lia
  rw[D6]at H;unfold pyHash;first|unfold pyHashByItsType|skip
  first|show aAa (wpAny_cRoomFor_or (.inr y) ?_)|skip
  show aAa (aBz l PySem.F.slot_tuple_hash.lookup ?_);change a9 _ _ (if(some (Value.builtin "tuple.__hash__")==some Value.none)=true then _ else _) Q E s;rw[gk (by rw[beq_builtin_none];show aBH)];show aAa (aBz l PySem.F.slot_tuple_hash.lookup ?_);change a9 _ _ (callSpecialIfBoundUnlessNone? (.ref a) "__hash__" _>>=_) Q E s;show aAa (aDz l PySem.F.slot_tuple_hash<|aBn PySem.F.slot_tuple_hash l PySem.F.entry_tuple_hash ?_ (PySem.F.args_tuple_hash_1 _));change a9 _ _ (aDM (.ref a)>>=_) _ _ s;show aAa (wpAny_tupleItemsOf I O ?_);show aAa ?_;rw[<-aCz];show aCB _
   (λrest (b:Array Int) z=>∃done left,ds=done++left/\Paired (PHe prog w s.heap) rest left/\b.toList=done.map l8/\z={s with toks:=s.toks+M3 done})
   _ ?_ ?_ _ _ {[],ds,rfl,fs,rfl,rfl}
  .rintro x rest b z ⟨done,left,f,B,m,rfl⟩;cases B with
   |@cons _ d _ e T J=>
    show aAa (T _ _ _ _ rfl ?_ ?_)
    .have:D6 d<=y9 ds:=by rw[f];show pM (j:=done.length) (by simp)
     rw[p6];lia
    have L:s.toks+M3 done+nR d=s.toks+M3 (done++[d]):=by rw[eF];simp[M3];lia
    first
     |show aAb ⟨done++[d],e,by simp[f],J,by simp[m],by rw[<-L]⟩
     |show aAa (aAb (aAb ⟨done++[d],e,by simp[f],J,by simp[m],by rw[<-L]⟩))
  rintro b z ⟨done,left,f,B,m,rfl⟩;cases B;rw[aBS]at f;subst f;change a9 _ _ (retInt<|aAT b.toList) _ _ _;rw[m];show wpAny_ret_mkInt ?_;change a9 _ _ (if(decide (-(2:Int)^63<=aAT (ds.map l8))&&decide (aAT (ds.map l8)<2^63))=true then _ else _) Q E _;have g:=q;rw[l8,jW,nR]at g;unfold reduceHash at g;by_cases u:(decide (-(2:Int)^63<=aAT (ds.map l8))&&decide (aAT (ds.map l8)<2^63))=true
  .rw[gi u];rw[gi u]at g;show aAb g
  rw[gk u];rw[gk u]at g;show aAa (aDq<|aAb g)
theorem KW:∀{v:List af}{d:List D},HVs h v d->Paired (PHe prog w h) v d
 |_,_,.nil=>.nil
 |_,_,.cons r t=>.cons (UL r) (KW t)
end
end
theorem kT:∀{n:Nat}{d:D},Q7 n d=true->pA d=true/\D6 d<=n
 |n,.int i,_=>{rfl,by simp[D6]}
 |0,.tup e,h=>by simp[Q7]at h
 |n+1,.tup e,h=>by
  have j:e.all (Q7 n)=true:=by simpa[Q7]using h
  have f:∀a:List D,a.all (Q7 n)=true->dP a=true/\y9 a<=n:=λa=>by
   induction a with
   |nil=>intro _;show{rfl,aAU _}
   |cons y a k=>intro g;erw[aGp,aAN]at g;let{l,p}:=kT g.1;let{m,q}:=k g.2;show{by change(pA y&&dP a)=true;rw[l,m];rfl,by change max (D6 y) (y9 a)<=n;lia}
  let{o,r}:=f e j;show{o,by change y9 e+1<=n+1;lia}
 |n,.non,h=>by cases n<;>simp[Q7]at h
 |n,.dct _,h=>by cases n<;>simp[Q7]at h
 |n,.bl b,h=>by cases n<;>simp[Q7]at h
 |n,.str x,h=>by cases n<;>simp[Q7]at h
 |n,.lst e,h=>by cases n<;>simp[Q7]at h
mutual
theorem HV.ac1(k:∀b o,h.get? b=some o->(∃its n,o.data=.seq its n)->h'.get? b=some o):∀{v:af}{d:D},HV h v d->HV h' v d
 |_,_,.int i t=>.int i t
 |_,_,.tup p r=>.tup (by let{o,e,c,n,d}:=p;show{o,k _ _ e {_,n,d},c,n,d}) (HVs.ac1 k r)
theorem HVs.ac1(k:∀b o,h.get? b=some o->(∃its n,o.data=.seq its n)->h'.get? b=some o):∀{v:List af}{d:List D},HVs h v d->HVs h' v d
 |_,_,.nil=>.nil
 |_,_,.cons r t=>.cons (HV.ac1 k r) (HVs.ac1 k t)
end
instance decD:DecidableEq D:=λa b=>aEi _
def qP(prog:bb) (w:bo):HeapKind prog w D where
 is:=λh d a=>HV h (.ref a) d/\D6 d<8
 hash:=l8
 draws:=nR
 room:=λA=>A.units+128<cf
 inj:=λx y=>HV.inj x.1 y.1
 keeps:=λ{h u k a d o v B} x j l m=>{x.1.ac1<|by rintro b C e ⟨p,n,q⟩;show(m.2 b (λz=>by subst z;rw[j]at e;cases e;rw[l]at q;cases q)).trans e,x.2}
 pyHash:=λ{A E s k a Q} r f q=>UL f.1 A E s Q rfl (by have:=f.2;lia) q
 eqBool:=λ{A E s x y a b Q} r g i q=>by
  have t:=IW (A:=A) g.1 i.1 (by have:=g.2;lia);show t prog w E Q ?_;have e:w8 x y=decide (x=y):=by
   by_cases h:x=y
   .subst h;rw[O5,gv rfl]
   rw[gu h];cases z:w8 x y with
   |false=>rfl
   |true=>show gs (gZ g.1.ok i.1.ok z) h
  rw[e];show q
 quiet:=λ{A E s k a Q} f q=>kZ 8 f.1 f.2 _ A E s Q rfl q
open Classical in
def dH(N:List (D×D)) (k v:D):List (D×D):=if k∈N.map (·.1)then N.map (λp=>if p.1=k then(p.1,v)else p)else N++[(k,v)]
def wK(N:List (D×D))(k v:D)(h:(N.map (·.1)).Nodup):((dH N k v).map (·.1)).Nodup:=by
 unfold dH;split
 .rw[aBs];have:((λx=>x.1)∘λp:D×D=>if p.1=k then(p.1,v)else p)=λp=>p.1:=by funext p;erw[aGr];split<;>rfl
  rw[this];show h
 rename_i n;rw[aBv,aCH];show{h,by simp,λa f b d=>?_};simp at d;subst d;showλe=>n (e▸f)
section
def bq(I:Inv X Y r H s):∀{es:List dz}{N:List (D×D)},fF X.K H O es N->∃xs:List (D×a5×af),es=xs.map (entryOfKey (qP X.prog X.w))/\xs.map (·.1)=N.map (·.1)/\(∀x∈xs,(qP X.prog X.w).is s.heap x.1 x.2.1)/\
  Paired (λ(x:D×a5×af) (p:D×D)=>x.1=p.1/\Rep X.K H O (.ref x.2.1) p.1/\(∃v,RelV v x.2.2/\Rep X.K H O v p.2)/\Q7 7 p.1=true) xs N:=by
 intro _ _ h;induction h with
 |nil=>show{[],rfl,rfl,λx h=>(by cases h),.nil}
 |@cons e p _ _ h _ f=>
  let{{a,g,d},i,j,k}:=h;let{xs,l,m,n,o}:=f;let{ok,t}:=kT k;show{(p.1,a,e.val)::xs,?_,by rw[aAq,aAq,m],λx b=>?_,.cons {rfl,d,i,k} o}
  .rw[aAq,<-l];let{q,u,y}:=e;subst g j;rfl
  rcases aAe.mp b with rfl|b
  .show{X4 I d ok rfl,by change D6 p.1<8;lia}
  show n x b
def ZC{P:bb}{w:bo}{K:gy}{H:Hp}{O:a5->Prop}:∀{xs:List (D×a5×af)}{N:List (D×D)},Paired (λ(x:D×a5×af) (p:D×D)=>x.1=p.1/\Rep K H O (.ref x.2.1) p.1/\(∃v,RelV v x.2.2/\Rep K H O v p.2)/\Q7 7 p.1=true) xs N->fF K H O (xs.map (entryOfKey (qP P w))) N:=by
 intro _ _ h;induction h with
 |nil=>show .nil
 |cons h _ a=>let{e,b,d,k}:=h;show .cons {{_,rfl,b},d,by rw[<-e];rfl,k} a
def cG{xs:List (D×a5×af)}{k:D}:(atKey xs k).isSome=true↔k∈xs.map (·.1):=by unfold atKey;grind
def xU(I:Inv X Y q H s)(h:H a=some (.ext λh=>h.get? a=some o))(d:xD a o es)(r:fF X.K H O es N)(e:(N.map (·.1)).Nodup):
  ∃xs,s.heap.DictOfH (qP X.prog X.w) a xs/\xs.map (·.1)=N.map (·.1)/\Paired (λ(x:D×a5×af) (p:D×D)=>x.1=p.1/\Rep X.K H O (.ref x.2.1) p.1/\(∃v,RelV v x.2.2/\Rep X.K H O v p.2)/\Q7 7 p.1=true) xs N:=by
 let{xs,f,b,g,i}:=bq I r;let{_,j,k,l,m,n}:=d;show{xs,{o,k,l,((I.hok a _ h).1),j,m,by rw[n,f],g,by rw[b];show e},b,i}
def OH{K:gy}{xs:List (D×a5×af)}{N:List (D×D)}{k d:D}{b:a5}{u:af}{v:V}(f:Paired (λ(x:D×a5×af) (p:D×D)=>x.1=p.1/\Rep K H O (.ref x.2.1) p.1/\(∃v,RelV v x.2.2/\Rep K H O v p.2)/\Q7 7 p.1=true) xs N)(hk:xs.map (·.1)=N.map (·.1))
  (j:Rep K H O (.ref b) k) (kk:Q7 7 k=true) (g:RelV v u) (i:Rep K H O v d):
  Paired (λ(x:D×a5×af) (p:D×D)=>x.1=p.1/\Rep K H O (.ref x.2.1) p.1/\(∃v,RelV v x.2.2/\Rep K H O v p.2)/\Q7 7 p.1=true) (storedH xs k b u) (dH N k d):=by
 unfold storedH dH;by_cases h:k∈N.map (·.1)
 .rw[gi h,gi (cG.mpr<|hk▸h)];clear hk h;induction f with
  |nil=>show .nil
  |@cons x p xs N r t a=>
   rw[aAq,aAq];show .cons ?_ a;unfold putAt;by_cases e:p.1=k
   .rw[gi (r.1.trans e),gi e];show{r.1,r.2.1,{v,g,i},r.2.2.2}
   rw[gk (λz=>e (r.1.symm.trans z)),gk e];show r
 rw[gk h,gk (λz=>h (hk▸cG.mp z))];clear hk h;induction f with
 |nil=>show .cons {rfl,j,{v,g,i},kk} .nil
 |cons r t a=>show .cons r a
end
section
variable{K:Type} [DecidableEq K] {knd:HeapKind prog w K}
def uN{Q:CJ}(g:knd.room A.in1)(b:knd.is s.heap k a)(i:(d==eY)=false)(e:s.heap.DictOfH knd d xs)
  (h:Q (atKey xs k).isSome {s with toks:=s.toks+knd.draws k}):a9 (ba prog w) A (contains (.ref d) (.ref a)) Q E s:=by
 unfold contains;try with_reducible show aAV ?_
 show aAa (aBz e.typeIs aFi.lookup ?_);show aAa (wpAny_callSpecialUnlessNone?_slot e.typeIs aFi
  (aBn aFi e.typeIs entry_dict_contains ?_ (args_dict_contains _ _)))
 change a9 _ _ (dictGet d (.ref a)>>=_) _ _ s;show aAa (wpAny_dictGet_heap g b e ?_);cases f:atKey xs k with
 |some p=>rw[f]at h;show aAb {_,rfl,aBN h}
 |none=>rw[f]at h;show aAa (wpAny_pendingKey_other i<|aAb ⟨_,rfl,aBN h⟩)
end
def HR:D->Bool
 |.tup _=>true
 |_=>false
open Classical in
def tV(i:Nat) (ρ:Ev) (k:D):R Bool:=match ρ[i]? with
 |some (.d N)=>if Q7 7 k=true/\HR k=true then .ok (!decide (k∈N.map (·.1)))else .bad
 |_=>.bad
section
def iW{K:gy}{H:Hp}{O:a5->Prop}{v:V}{k:D}(r:Rep K H O v k)(h:HR k=true):∃a,v=.ref a:=by
 cases r with
 |tup h r=>show{_,rfl}
 |_=>cases h
def MC(i:Nat){x:Str}{p:Pos}{f:Ev->R D}(ha:PD X e f)(hu:X.A.units+130<cf)(hN:X.N[i]?=some x<|>1)(hv:CF X.env.scope x<|>5)
  (hd:(x==gA)=false<|>2) (eh:(x==gB)=false<|>2) (hm:fm .NotIn (.Name x p)=false:=by first|rfl|with_unfolding_all rfl):
  JN X (.Compare e [.NotIn] [.Name x p] pos) (λρ=>(f ρ).bind (tV i ρ)):=by
 show wZ λY s σ H Q I H9 O0 O ρ E q=>?_;dsimp only at q;show wpAny_isTrue_Compare1 (QJ (tb:=a4p i) ha (R0 hN hv hd eh) (R:=λy x g=>∃a b o l N k,x=.ref a/\y=.ref b/\g a=some (.ext λh=>h.get? a=some o)/\xD a o l/\fF X.K g O l N/\(N.map (·.1)).Nodup/\Rep X.K g O (.ref b) k/\Q7 7 k=true/\Q (!(open Classical in decide (k∈N.map (·.1)))) g) I {H9,O0,O,ρ,E,?_} λu w s2 y x g t ry rx h=>?_) hm
 .cases B:f ρ with
  |ex z=>rw[B]at q;show q
  |bad=>rw[B]at q;show q.elim
  |ok k=>
   rw[B,R.aa0]at q;intro v H1 U r;unfold tV at q;cases C:ρ[i]? with
   |none=>rw[C]at q;show(q).elim
   |some sl=>
    rw[C]at q;cases sl with
    |d N=>
     dsimp only at q;by_cases j:Q7 7 k=true/\HR k=true
     .rw[gi j]at q;let{a,o,l,h1,_,_,J,m,L,T}:=(E.grow U).slot i _ C;let{b,rfl}:=iW r j.2;show{_,h1,a,b,o,l,N,k,rfl,rfl,J,m,L,T,r,j.1,q H1 U}
     rw[gk j]at q;show(q).elim
    |_=>show(q).elim
 let{a,b,o,l,N,k,rfl,rfl,J,m,L,T,rk,j,qq}:=h;cases ry;cases rx;let{xs,hD,qd,hp}:=xU t J m L T;let{ok,dp}:=kT j;show aAa (uN (knd:=qP X.prog X.w) (by change X.A.in1.units+128<cf;rw[p6];lia) {X4 t rk ok rfl,by lia} m.1 hD (aAb<|aBN ⟨g,t.tok _,?_⟩));have e3:(atKey xs k).isSome=(open Classical in decide (k∈N.map (·.1))):=by
  by_cases n:k∈N.map (·.1)
  .rw[gv n];show cG.mpr (qd▸n)
  rw[gu n];cases z:(atKey xs k).isSome with
  |false=>rfl
  |true=>show gs (qd▸cG.mp z) n
 rw[e3];show qq
def DE(i:Nat)(v:X.N.Nodup)(w:X.N[i]?=some x<|>1)(y:Loc X.env.scope x<|>8)(A:dq (.Dict [] [] a) (some (.Name x f)) g.line X.env=pure false<|>1)(B:X.fn x=true\/X.env.scope.names.lookup x=some .local<|>6):nU X (.Assign [.Name x f] (.Dict [] [] a) g) (λρ=>.ok (.nx (ρ.set i (.d [])))):=by
 rintro L Q Y s T H D I ⟨O,ρ,E,U,q⟩;show aEm (wpAny_Dict_empty ?_) A;have r:(s.heap.push {cls:=.type "dict",data:=.dict #[]}).get? s.heap.objs.size=some {cls:=.type "dict",data:=.dict #[]}:=aAo _ rfl;have j:=I.hok.fresh (aAi s.heap.objs.size);have l:=I.laid (o:=.ext λh=>h.get? s.heap.objs.size=some {cls:=.type "dict",data:=.dict #[]}) (h':=s.heap.push {cls:=.type "dict",data:=.dict #[]}) (t':=s.toks) (λ_ _ q=>aAc _ q) (aAi _)
  {r,{_,r},λh1 h2 e k=>k _ e}
 have m:eY<s.heap.objs.size:=aFd (by symm) (I.mod.glob.keeps I.bk).lt;show F8 l v w y (show RelV (.ref s.heap.objs.size) _ from rfl) (λs3 C=>{_,_,C,?_}) B;have t:=E.ad6 (u:=.ext λh=>h.get? s.heap.objs.size=some {cls:=.type "dict",data:=.dict #[]}) (sl:=.d []) i j (JA l<|i9) trivial λJ=>{s.heap.objs.size,_,[],rfl,.inr rfl,J,i9,{by simp[aCR m],{rfl,rfl,rfl},#[],0,rfl,rfl},.nil,aDp};show q _ _ _ t (pH l _ t.trk) λb o p n=>{by rw[j5 (t7 p j)];show p,λz=>z.elim n (t7 p j)}
def a9d(X:Cx):qk:=λx y v H Q=>∃O a b o f N k d,x=.ref a/\y=.ref b/\H a=some (.ext λh=>h.get? a=some o)/\xD a o f/\fF X.K H O f N/\(N.map (·.1)).Nodup/\f.length<=sizeLine/\Rep X.K H O (.ref b) k/\Q7 7 k=true/\Rep X.K H O v d/\
 ∀g e,xD a g e->fF X.K H O e (dH N k d)->Q (upd H a<|.ext λh=>h.get? a=some g)
def YT(hu:X.A.units+130<cf):a4n X (a9d X):=by
 intro Y s σ H x y v ov iv u Q I J L T z;let{O,a,b,o,es,N,k,d,t,U,i,j,h6,h7,hz,B,C,rv,q}:=z;subst t U;cases J;cases L;let{xs,E,qd,hp}:=xU I i j h6 h7;let{ok,dp}:=kT C;have f:xs.length<=sizeLine:=by
  let{_,t,ea,ep,hd,he}:=j;let{o2,td,ep2,g2,_,hd2,oo,_}:=E;rw[((I.hok a _ i).1)]at g2
  nofun
 show wpAny_setItem_heap (knd:=qP X.prog X.w) (by change X.A.in1.units+128<cf;rw[p6];lia) {X4 I B ok rfl,by lia} E (λh' l hs=>?_) f;let{g,m,n,p,r,qh,yd,is',nd'}:=l;show{_,(I.write (o:=.ext λh=>h.get? a=some g) (h':=h') (t':=s.toks+nR k) (by rw[i];trivial) (.inl rfl) (λb u hb e=>(hs.2 b hb).trans e) {g,p} {p,{g,p},λh1 h2 e k=>k _ e}),q g _ {j.1,r,m,n,qh,rfl} (yd▸ZC (OH hp qd B C T rv))}
def wB(i:Nat) (ρ:Ev) (k d:D):R Out:=match ρ[i]? with
 |some (.d N)=>if Q7 7 k=true/\HR k=true/\N.length<=sizeLine then .ok (.nx (ρ.set i<|.d (dH N k d)))else .bad
 |_=>.bad
def tO(i:Nat){x:Str}{k:bp}{f g:Ev->R D}{p ps:Pos}(he:PD X e f)(j:PD X k g)(hu:X.A.units+130<cf)(hN:X.N[i]?=some x<|>1)(hv:CF X.env.scope x<|>5)(hd:(x==gA)=false<|>2)
  (eh:(x==gB)=false<|>2) (ha:(∀v,gh (.Subscript (.Name x p) k ps) X.env v=(do
   let t<-fh [v] (cu (.Name x p) X.env)
   let B<-fh [v,t] (cu k X.env)
   standAt ps
   fh [v,t,B] (setItem t B v)
   release [v,t,B] []))<|>7)
  (hs:eQ [.Subscript (.Name x p) k ps] e C.line X.env=pure false<|>1) (hw:eR [.Subscript (.Name x p) k ps] e X.env=pure none<|>1) (u:(dm [.Subscript (.Name x p) k ps] X.env).map (·.2)=[gh (.Subscript (.Name x p) k ps) X.env]<|>1):
  nU X (.Assign [.Subscript (.Name x p) k ps] e C) (λρ=>(f ρ).bind λd=>(g ρ).bind λl=>wB i ρ l d):=λU Y=>
 HB (SC he (a2q (R0 hN hv hd eh) j (YT hu) ha) hs hw u) λD σ H O ρ E fk q=>⟨U,Y,O,ρ,E,by
  cases I:f ρ with
  |ex z=>rw[I]at q;showλH' s=>q H' (E.same.trans s)
  |bad=>rw[I]at q;show q
  |ok d=>
   rw[I,R.aa0]at q;intro v H1 s1 r1;have J:=E.grow s1;cases w:g ρ with
   |ex z=>rw[w]at q;show(q H<|E.same.trans<|Same.refl _).elim
   |bad=>rw[w]at q;show(q).elim
   |ok l=>
    rw[w,R.aa0]at q;unfold wB at q;cases y:ρ[i]? with
    |none=>rw[y]at q;show(q).elim
    |some sl=>
     rw[y]at q;cases sl with
     |d N=>
      dsimp only at q;by_cases j:Q7 7 l=true/\HR l=true/\N.length<=sizeLine
      .rw[gi j]at q;let{a,o,es,u,h2,h3,L,h5,h6,h7}:=J.slot i _ y;show{_,u,U,Y,O,ρ,J,?_};rw[w];intro kv H2 n r2;let{b,rfl}:=iW r2 j.2.1;have Q:fF X.K H2 O es N:=h6.mono λr=>r.same n;show{O,a,b,o,es,N,l,d,rfl,rfl,n _ _ L,h5,Q,h7,by rw[h6.length];show j.2.2,r2,j.1,r1.same n,λo' T d' r'=>?_};let{E3,k3}:=(J.grow n).ae5 (sl':=.d (dH N l d)) (u':=.ext λh=>h.get? a=some o') y trivial u (n _ _ L) trivial trivial λhO h0 m=>{a,o',T,rfl,h2,h3,i9,d',r'.mono λr=>r.upd (n _ _ L) trivial h2,wK N l d h7};show q _ _ _ E3 fk (((Kp.of s1).trans (Kp.of n)).trans k3)
      rw[gk j]at q;show(q).elim
     |_=>show aAy q⟩
end
end
section
variable [Tabs]
def _root_.L2.Inv.af3{Y:R7}{h:St}{H:Hp}{s:ai}{h':bt}{t':Nat}{L:List a5}{T:a5}{vs:List V}(I:Inv X Y h H s)(k:∀b o,b∉L->s.heap.get? b=some o->h'.get? b=some o)
  (g:∀b∈L,pB X Y H b) (i:s.heap.objs.size<=T) (hz:vs.length<=sizeLine) {its:List af} (l:l7 vs its) (p:IsTup h' T its.toArray):Inv X Y h (upd H T (.tup vs)) {s with heap:=h',toks:=t'}:=by
 have d:Same H (upd H T<|.tup vs):=j1 (I.hok.fresh i) _;have j:∀b u,H b=some u->b∉L:=λb u e z=>by rw[(g b z).1]at e;cases e
 show I.step (g':=s.gens) (d':=s.drawn) (λb f=>?_) (λb o _ _ a e _=>k b o a e) (λb o _ _ a e _=>{o.slots,k b o a e}) (λb o _ e n=>?_)
  (λb o a e=>{o,k b o a e}) (λb _ e=>d _ _ e) (λb _ _ e=>d _ _ e) (λb _ e=>d _ _ e) (λm t=>?_) (λb u e=>?_) I.bare
 .let{_,w,_,x,y,A}:=g b f;show{x,w,y,A}
 .rw[j5 (aAm<|aAn (aAg e) i)];show n
 .let{o,B,C,E,r}:=t;show{o,B,C,k _ o (λz=>(g _ z).2.1 rfl) E,r}
 by_cases f:b=T
 .subst f;rw[i9]at e;cases e;show{hz,its,l,p}
 rw[j5 f]at e;show(I.hok b u e).ab9 (λc v a q=>k c v ?_ q) (λ_ q=>d _ _ q) λ_ _ _ q=>d _ _ q;rcases a with z|z
 .rw[z];show j b u e
 show j c _ z
def _root_.L2.Inv.af0{Y:R7}{f:St}{H:Hp}{s:ai}{h':bt}{t':Nat}{L:List a5}(I:Inv X Y f H s)(k:∀b o,b∉L->s.heap.get? b=some o->h'.get? b=some o)
  (d:∀b∈L,pB X Y H b):Inv X Y f H {s with heap:=h',toks:=t'}:=by
 have g:∀b u,H b=some u->b∉L:=λb u e z=>by rw[(d b z).1]at e;cases e
 show I.step (g':=s.gens) (d':=s.drawn) (ch:=L) (λb h=>?_) (λb o _ _ a e _=>k b o a e) (λb o _ _ a e _=>{o.slots,k b o a e}) (λ_ _ _ _ n=>n)
  (λb o a e=>{o,k b o a e}) (λb _ e=>e) (λb _ _ e=>e) (λb _ e=>e) (λm i=>?_) (λb u e=>?_) I.bare
 .let{_,j,_,l,p,t}:=d b h;show{l,j,p,t}
 .let{o,w,x,y,r}:=i;show{o,w,x,k _ o (λz=>(d _ z).2.1 rfl) y,r}
 show(I.hok b u e).ab9 (λc v a q=>k c v ?_ q) (λ_ q=>q) λ_ _ _ q=>q;rcases a with z|z
 .rw[z];show g b u e
 show g c _ z
def Itz(K:gy)(a b:a5):It:=
 ⟨λi H=>∃d e x y,M4 K H a d/\M4 K H b e/\d[i]?=some x/\e[i]?=some y,
  λi H v f=>∃T,v=.ref T/\H T=none/\∀d e,M4 K H a d->M4 K H b e->∃x y,d[i]?=some x/\e[i]?=some y/\f=upd H T (.tup [x,y]),
  λi H=>∃d e,M4 K H a d/\M4 K H b e/\d.length<=i⟩
def tnZ(z TI TO d e a b:a5)(i:Nat)(h:bt):Prop:=
 IsZip h z TI TO .none/\eN h TI (.ref d) (.ref e)/\(∃x y,eN h TO x y)/\h.IsListIter d a i/\h.IsListIter e b i
def VY{h:bt}{i a:a5}{k:Nat}(x:h.IsListIter i a k):∃o,h.get? i=some o/\∀v,o.data≠.cell v:=by
 let{o,e,c,d}:=x
 nofun
def UU{P:bb}{w:bo}{K:gy}{el:List bp}{c}{tp:Pos}{z TI TO p r a b:a5}(D:ZipApart z TI TO p r a b):Turn P w K (.Tuple el c tp) (Itz K a b) [z,TI,TO,p,r] z (tnZ z TI TO p r a b)where
 mem:=by simp
 obj:=λi h ⟨hz,g,⟨x,y,j⟩,h1,m⟩ c d=>by
  erw[aAe,aAR,or_false]at d;rcases d with rfl|rfl|rfl|rfl|rfl
  .show{_,hz,λv z=>nomatch z}
  .show{_,g,λv z=>nomatch z}
  .show{_,j,λv z=>nomatch z}
  .show VY h1
  show VY m
 keep:=λi h C ⟨hz,g,⟨x,y,j⟩,h1,m⟩ k=>{k _ (by simp) _ hz,k _ (by simp) _ g,{x,y,k _ (by simp) _ j},h1.at λo e=>k _ (by simp) o e,m.at λo e=>k _ (by simp) o e}
 item:=by
  intro X hP hw hK d i Y s σ H E I J st hg;subst hP hw hK;let{xs,ys,x,y,L,N,ex,ey}:=hg;let{itx,l,px,zx}:=I.list L;let{ity,t,py,zy}:=I.list N;let{u,hu,ru}:=l.get ex;let{u',hu',ru'}:=t.get ey;have st0:=st;let{A,B,{va,vb,O},Q,T}:=st;show wpAny_pyNext_zip_item D A B O Q T px.isList py.isList (x:=u) (y:=u') (by exists hu) (by exists hu') λC q0 q2 q3 q4 hp hsz U=>?_;show{.ref s.heap.objs.size,rfl,wpAny_letOwnedTupleGo_zip (s:={s with heap:=C}) q0 λm z2 sb=>?_};have hzl:z<s.heap.objs.size:=aAg A;have n:∀c o,c≠z->C.get? c=some o->m.get? c=some o:=λc o d e=>sb.extBut c o d e;have hTf:s.heap.objs.size∉[z,TI,TO,p,r]:=λf=>by
   let{o,e,_}:=(show∃o,s.heap.get? s.heap.objs.size=some o/\True from by
    erw[aAe,aAR,or_false]at f;rcases f with f|f|f|f|f
    .show{_,by rw[f];show A,trivial}
    .show{_,by rw[f];show B,trivial}
    .show{_,by rw[f];show O,trivial}
    .let{o,e,_}:=Q;show{o,by rw[f];show e,trivial}
    let{o,e,_}:=T;show{o,by rw[f];show e,trivial})
   show gs (aAg e) (aBx _)
  have kk:∀c o,c∉[z,TI,TO,p,r]->s.heap.get? c=some o->m.get? c=some o:=λc o d e=>by erw[aAe,aAR,or_false,not_or]at d;show n c o d.1 (U c o d.1 d.2.2.1 d.2.2.2.1 d.2.2.2.2 e)
  show⟨.ref s.heap.objs.size,upd H s.heap.objs.size (.tup [x,y]),I.af3 (t':=s.toks) kk J (aAi _) (by change 2<=sizeLine;symm) (its:=[u,u']) (.cons ru (.cons ru' .nil)) {_,n _ _ (aCR hzl) hp,rfl,0,rfl},rfl,
   {_,rfl,I.hok.fresh (aAi _),λxs' ys' hx' hy'=>{x,y,by rw[I.aa8 hx' L];show ex,by rw[I.aa8 hy' N];show ey,rfl}},{z2,n _ _ D.TIz (U _ _ D.TIz D.TITO D.TIi1 D.TIi2 B),{u,u',n _ _ D.TOz q2},q3.at λo e=>n _ o D.i1z e,q4.at λo e=>n _ o D.i2z e},λb hb=>?_⟩
  rw[j5 (λq:b=s.heap.objs.size=>hTf (q▸hb))];show(J b hb).1
 done:=by intro X hP hw hK d i Y s σ H E I J st hg;subst hP hw hK;let{xs,ys,L,N,hl}:=hg;let{itx,l,px,zx}:=I.list L;let{ity,t,py,zy}:=I.list N;let{A,B,{va,vb,O},Q,T}:=st;have hlx:=l.length;show wpAny_pyNext_zip_end (I.ok.hd d) D A B O Q T px.isList py.isList (.inl (by simp;lia)) λC U=>{rfl,I.af0 (t':=s.toks) (λc o d e=>?_) J};erw[aAe,aAR,or_false,not_or]at d;show U c o d.1 d.2.2.1 d.2.2.2.1 d.2.2.2.2 e
 self:=λ_ _ _ _ _ st h=>wpAny_pyIter_zip st.1 h
def cj{el:List bp}{c}{tp:Pos}{e1 e2:bp}{p:Pos}{t u:Ev->R D}(J:PD X e1 t)(L:PD X e2 u)(hg:Gl X "zip"<|>1)(hm:X.mg "zip"=none<|>4)(hv:cp "zip"=some (.type "zip")<|>3)
  (N:ag [e2] X.env=(false,cu e2 X.env)::ag [] X.env<|>1) (he:ag [e1,e2] X.env=(false,cu e1 X.env)::ag [e2] X.env<|>1) (G9:(cq v (ag [e2] X.env)).any (·.1)=false<|>1):
  YQ X (.Tuple el c tp) (.Call (.Name "zip" p) [e1,e2] [] v) (λρ=>(j8 t (j8 u N0) ρ).bind uA):=by
 rintro Y s σ H Rr I ⟨H9,O0,O,ρ,E,fk,q⟩;dsimp only at q;show aBb (P4 I hg hm hv ?_ (by symm) (by symm));have Q:EA X [e1,e2] (j8 t<|j8 u N0):=d9 J (d9 L k8 N) he;show aBl (G4 (Q v Y s σ H (λU j=>∃v1 v2 f g,U=[v1,v2]/\j8 t (j8 u N0) ρ=.ok [.lst f,.lst g]/\f.length=g.length/\Same H j/\Rep X.K j O v1 (.lst f)/\Rep X.K j O v2 (.lst g)) I {H9,O0,O,ρ,E,?_}) λus h z9=>?_) he G9
 .cases e1:j8 t (j8 u N0) ρ with
  |ex z=>rw[e1]at q;show q
  |bad=>rw[e1]at q;show q.elim
  |ok ds=>
   rw[e1,R.aa0]at q;rcases KS ds with z|⟨f,g,rfl⟩
   .rw[z]at q;show q.elim
   erw[uA]at q;by_cases w:f.length=g.length
   .intro U j h l;cases l with
    |cons ra l=>cases l with
     |cons rb l=>cases l with
      |nil=>show{_,_,f,g,rfl,rfl,w,h,ra,rb}
   rw[gk w]at q;show aAy q
 let{U,j,y,l,v1,v2,f,g,ev,ef,vh,sm,rb1,rb2}:=z9;subst ev;rw[ef,R.aa0]at q;erw[uA]at q;rw[gi vh]at q;cases rb1 with
 |@lst a wx _ A nx rx=>
 cases rb2 with
 |@lst b wy _ B ny ry=>
 let{u1,u2,rfl,ru1,ru2}:=vals2 l;cases ru1;cases ru2;let{itx,rvx,px,zX}:=y.list A;let{ity,rvy,py,zY}:=y.list B;show call_zip_2 px.isList py.isList λh1 z1 z2 z3 z4 z5 zsz k1=>?_;have I2:=y.kept (h':=h1) (t':=h.toks) k1;have lt1:a<h.heap.objs.size:=by let{o,e,_}:=px.isList;show aAg e
 have lt2:b<h.heap.objs.size:=by let{o,e,_}:=py.isList;show aAg e
 have D:=zipApart_new (n:=h.heap.objs.size) lt1 lt2;show wpAny_pyIter_zip (s:={h with heap:=h1}) z1 {_,_,_,Itz X.K a b,j,rfl,I2,UU D,{z1,z2,{_,_,z3},z4,z5},λc w=>?_,q _ j sm λH2 O2 k C hO hO2 i=>?_}
 .have yi:h.heap.objs.size<=c:=by erw[aAe,aAR,or_false]at w;rcases w with rfl|rfl|rfl|rfl|rfl<;>lia
  show y.ae8 yi (y.hok.fresh yi)
 let{n2x,m}:=k.lst nx A λo q=>C a o q;let{n2y,r}:=k.lst ny B λo q=>C b o q;have r2x:=k.ab8 hO C rx;have r2y:=k.ab8 hO C ry;show{λd e=>?_,λe=>{wx,wy,m,r,?_}}
 .unfold cS at e;rw[List.getElem?_zipWith]at e;cases e1:f[i]? with
  |none=>rw[e1]at e;cases e
  |some dx=>
   cases e2:g[i]? with
   |none=>rw[e1,e2]at e;cases e
   |some dy=>rw[e1,e2]at e;cases e;let{vx,g1,g2}:=r2x.get e1;let{vy,g3,g4}:=r2y.get e2;show{{wx,wy,vx,vy,m,r,g1,g3},λx H' z9=>?_};let{T,ev,hT,hh}:=z9;let{x1,y1,q1,q2,rfl}:=hh wx wy m r;rw[g1]at q1;rw[g3]at q2;cases q1;cases q2;subst ev;have s2:Same H2 (upd H2 T<|.tup [vx,vy]):=j1 hT _;show{s2,.tup (W3.of i9) (.cons (g2.same s2) (.cons (g4.same s2) .nil))}
 rw[rx.length];unfold cS at e;rw[aCp,List.length_zipWith,<-vh,Nat.min_self]at e;show e
end
section
variable [Tabs]
section
variable{K:Type} [DecidableEq K] {knd:HeapKind prog w K}
end
section
variable{o e:bp}{es:List bp}{to:TE}{t:TA}{name:Str}{apos bf:Pos}{T id:String}{r:V->List V->Hp->VK->Prop}
end
open Classical in
def atK(N:List (D×D)) (k:D):Option D:=(N.find? λp=>decide (p.1=k)).map (·.2)
def MH{K:gy}{H:Hp}{O:a5->Prop}{k:D}:∀{xs:List (D×a5×af)}{N:List (D×D)},Paired (λ(x:D×a5×af) (p:D×D)=>x.1=p.1/\Rep K H O (.ref x.2.1) p.1/\(∃v,RelV v x.2.2/\Rep K H O v p.2)/\Q7 7 p.1=true) xs N->(atKey xs k=none/\atK N k=none)\/∃p d v,atKey xs k=some p/\atK N k=some d/\RelV v p.2/\Rep K H O v d:=by
 intro _ _ h;induction h with
 |nil=>show .inl {rfl,rfl}
 |@cons x p _ _ h _ a=>
  let{e,_,{v,b,r},_}:=h;by_cases h:p.1=k
  .show .inr {x.2,p.2,v,?_,?_,b,r}
   .simp[atKey,e,h]
   simp[atK,h]
  have f:∀l:List (D×a5×af),atKey (x::l) k=atKey l k:=λl=>by simp[atKey,e,h]
  have g:∀l:List (D×D),atK (p::l) k=atK l k:=λl=>by simp[atK,h]
  rw[f,g];show a
section
variable{A:be}{s:ai}{prog:bb}{w:bo}{E:D7}
end
end
end DL
namespace MM
open PySem
def VO(prog:bb)(w:bo)(A:be)(op:CmpOp)(d:bt->Prop)(P:Nat->af->Prop)(e:Nat->Nat->Bool):Prop:=
 ∀i j a b (s:ai) (Q:D7) (E:D7),d s.heap->P i a->P j b->Q (.bool (e i j)) s->a9 (ba prog w) A (richCompare op a b) Q E s
section
def MS(W:WalksS prog w A.in1 I fp x G n P St){N:bt->Prop}(hH:∀i s,St i s->N s.heap)(p:Nat->Nat->Bool)(xv:VO prog w A.in1 .Lt N P p)(S:a5)(O:S∉fp):
  ∀(k j:Nat) (s:ai) (d:af) (c:Nat),n-(j+1)=k->j+1<=n->St (j+1) s->P (et p j) d->
  s.heap.get? S=some {cls:=.type "list",dict:=none,data:=.seq #[d,d] c,slots:=#[]}->
  (∀v s',P (et p (n-1)) v->Moved (S::x) G s s'->R (.ok (.ret v)) s')->ee (ba prog w) A (.builtin "min.loop" {[.ref I,.none,.ref S],[]}) R s:=by
 have r:=λh=>O (W.sub _ h);have z:∀b∈x,b∈S::x:=λb a=>aAd _ a;have Q:(toString "min"++toString ".loop":String)= "min.loop":=by decide
 have g:∀{b:a5},b∉S::x->S≠b:=λa h=>a (by grind);intro k;induction k with
 |zero=>
  intro j s d c hk hj B f t y;have T:j+1=n:=by omega
  show aBB aFH ?_;rw[aBF aDn _];show aAa (aBU t rfl<|aAa<|aFo<|W.done s _ _ (T▸B) λs' q=>?_);have u:=q.heap S _ r t;show aAa (aCe u rfl<|aAa<|aEp<|aAb<|y d _ (T▸f)<|(q.mono z).then_heap (aAi _) λb o a e=>(aAI _ _<|g a).trans e)
 |succ k U=>
  intro j s d c hk hj B f t y;have C:j+1<n:=by omega
  show aBB aFH ?_;rw[aBF aDn _];show aAa (aBU t rfl<|aAa<|aFo<|W.item (j+1) s _ _ C B λv s' Y E q=>?_);have u:=q.heap S _ r t;change a9 _ A.in1 (tryCatch (fh [v,v]<|richCompare .Lt v d>>=_) _>>=_) _ _ _;show aAa (aFo<|aAV<|aAa<|xv (j+1) (et p j) v d _ _ _ (hH _ _ E) Y f<|aAa<|aAV<|aBN<|aAa<|aEp<|aAb ?_);cases a:p (j+1) (et p j)with
  |true=>
   erw[if_true];show aAa (aCe u rfl<|aAa<|aEp ?_);rw[Q];show aAb ⟨aBX aDn _,U (j+1) _ v _ (by omega) C (W.frame _ s' _ s'.toks E (aAi _) λb H o e=>?_) (by erw[et,a,if_true];show Y) (aBp _ u rfl)
    λJ l m L=>?_⟩
   .show(aAI _ _ (λh:S=b=>O (by rw[h];show H))).trans e
   show y J l m (aFB W.gtrans ((q.mono z).then_heap (aAi _) λb o a e=>(aAI _ _<|g a).trans e) L)
  |false=>erw[if_false];show aAa (aEp ?_);rw[Q];show aAb {aBX aDn _,U (j+1) _ d c (by omega) C E (by erw[et,a,if_false];show f) u λJ l m L=>(y J l m<|aFB W.gtrans (q.mono z) L)}
def GE(W:WalksS prog w A.in1 I x d G n P St){p:bt->Prop}(y:∀i s,St i s->p s.heap)(f:Nat->Nat->Bool)(z:VO prog w A.in1 .Lt p P f)(S:a5)(g:S∉x)(q:0<n)(B:St 0 s)(r:s.heap.get? S=some {cls:=.type "list",dict:=none,data:=.seq #[] c,slots:=#[]})(C:∀v s',P (et f (n-1)) v->Moved (S::d) G s s'->R (.ok (.ret v)) s'):ee (ba prog w) A (.builtin "min.loop" {[.ref I,.none,.ref S],[]}) R s:=by
 have j:=λh=>g (W.sub _ h);have E:∀b∈d,b∈S::d:=λb a=>aAd _ a;have O:(toString "min"++toString ".loop":String)= "min.loop":=by decide
 show aBB aFH (aAa<|aBU r rfl<|aAa<|aFo<|W.item 0 s _ _ q B λv s' H J t=>?_);have u:=t.heap S _ j r;change a9 _ A.in1 (updateSeq S (λ_=>#[v,v])>>=_) _ _ _;show aAa (aCe u rfl<|aAb ⟨aBX aDn _,MS W y f z S g _ 0 _ v _ rfl q (W.frame _ s' _ s'.toks J (aAi _) λb k o e=>?_) H (aBp _ u rfl) λL l m N=>?_⟩)
 .show(aAI _ _ (λh:S=b=>g (h▸k))).trans e
 show C L l m (aFB W.gtrans ((t.mono E).then_heap (aAi _) λb o a e=>(aAI _ _<|(λa h=>a (h▸aBf)) a).trans e) N)
def call_minH{E:D7}{Q:D7}(h:a9 (ba prog w) A.in1 (pyIter x) (λl a=>∃I f g G n P St j d,l=.ref I/\WalksS prog w A.in1 I f g G n P St/\St 0 a/\(∀b∈f,b<a.heap.objs.size)/\0<n/\(∀i s,St i s->j s.heap)/\VO prog w A.in1 .Lt j P d/\
   ∀v s',P (et d (n-1)) v->Moved g G a s'->Q v s') E s):
  a9 (ba prog w) A (call (.builtin "min") [x]) Q E s:=by
 have B:(toString "min"++toString ".loop":String)= "min.loop":=by decide
 show call_function_tree F.kind_min F.plain_min F.entry_min (F.args_min1 _) ?_;change a9 _ A.in1 (Builtin.Builtins.bindParams "min" ["key", "default"] 0 {[],[]}>>=_) _ _ s;show aAa (aGl (rfl)<|aAa<|aAb<|aAa<|aCJ h (λl a m=>?_) λ_ _ e=>e);let{I,f,g,G,n,P,St,j,d,rfl,W,p,q,r,t,u,y}:=m;show aAa (aBd<|aAb ⟨aBX aDn _,GE W t d u a.heap.objs.size (λk=>aBx _ (q _ k)) r (W.frame 0 a _ a.toks p (aAi _) λb _ o e=>aAc _ e) (aAo _ rfl) λv s' z k=>?_⟩);show y v s' z (Moved.drop_new k<|aAi _)
end
def walks_more{P:Nat->af->Prop}{St:Nat->bt->Prop}(W:Walks prog w A I m j n P St)(more:R7)(q:∀p∈more,p.1∉j):
  Walks prog w A I (m++more.map (·.1)) j n P (λi h=>St i h/\∀p∈more,h.get? p.1=some p.2)where
 sub:=λb f=>aAW _ (W.sub b f)
 frame:=λi h g st k=>{W.frame i h g st.1 λb f o e=>k b (aAW _ f) o e,λp a=>k p.1 (aAu _<|aAt a) _ (st.2 p a)}
 item:=λi s Q E r st d=>W.item i s Q E r st.1 λv g t u x l=>d v g t u {x,λp a=>l p.1 p.2 (q p a) (st.2 p a)} l
 done:=λs Q E st d=>W.done s Q E st.1 d
 self:=λi s Q E st d=>W.self i s Q E st.1 d
end MM
namespace DL
open PySem PySem.Spec L2
open PyProof.Rows hiding St
section
variable [Tabs]
section
def NJ{x:Str}{a:a5}{b:Option a5}{its:Array af}{n:Nat}{sl:Array (Option af)}{ns:List Int}(d:X.mg x=some (.ref a))(e:X.K.lookup a=some {.type "tuple",b,.seq its n,sl})(f:l7 (ns.map V.int) its.toList)(hz:its.size<=sizeLine)(g:Gl X x<|>1)(h:(x==gA)=false<|>2):
 PD X (.Name x i) (JC (.tup (ns.map D.int))):=xZ (YV g d (show RelV (.ref a) _ from rfl) h) λH O=>.tup (.inr {_,its,n,e,rfl,rfl,hz,f}) (Reps.ints ns)
def UY:D->D->R D
 |.non,.non=>.ok (.bl true)
 |_,.non=>.ok (.bl false)
 |_,_=>.bad
def VW:mL X (cT .Is) UY:=by
 intro H O x y e f Q j d g q;show{_,a0o,?_};cases f with
 |non=>
  show{g.ac4,?_};cases e with
  |non=>rw[d.ac4];show q _ H (Same.refl _) .bl
  |bl b=>rw[d.blI];show q _ H (Same.refl _) .bl
  |int i=>rw[d.aa6];show q _ H (Same.refl _) .bl
  |str z=>rw[d.ac7];show q _ H (Same.refl _) .bl
  |tup h=>let{a,_,rfl,_}:=d.tupI;show q _ H (Same.refl _) .bl
  |lst h=>let{a,_,rfl,_}:=d.aa5;show q _ H (Same.refl _) .bl
  |dct=>let{a,_,_,rfl,_}:=d.af2;show q _ H (Same.refl _) .bl
 |_=>cases e<;>show(q).elim
def WC(h:PD X e f)(i:dq e none a.line X.env=pure false<|>1):nU X (.Expr e a) (λρ=>(f ρ).bind λ_=>.ok (.nx ρ)):=λj k=>
 HB (pV h i) λD m H O ρ E l q=>⟨j,k,O,ρ,E,by
  cases b:f ρ with
  |ok d=>rw[b]at q;showλv g s r=>q _ g O (E.grow s) l (Kp.of s)
  |ex x=>rw[b]at q;showλg s=>q g (E.same.trans s)
  |bad=>rw[b]at q;show q⟩
def dU:List D->Option (List Bool)
 |[]=>some []
 |.bl b::a=>(dU a).map (b::·)
 |_::_=>none
theorem qR:∀{ds:List D}{bs:List Bool},dU ds=some bs->ds=bs.map D.bl
 |[],bs,h=>by cases h;rfl
 |.bl b::ds,bs,h=>by
  unfold dU at h;cases e:dU ds with
  |none=>grind
  |some l=>rw[e]at h;have a:b::l=bs:=Option.some.inj h;subst a;rw[qR e];rfl
 |.non::_,_,h|.int _::_,_,h|.str _::_,_,h|.tup _::_,_,h|.lst _::_,_,h|.dct _::_,_,h=>by cases h
def anyR:List D->R D
 |[.lst a]=>match dU a with
  |some bs=>.ok (.bl (bs.any id))
  |none=>.bad
 |_=>.bad
def FK{K:gy}{H:Hp}{O:a5->Prop}{ws:List V}{bs:List Bool}{its:List af}(r:Reps K H O ws (bs.map D.bl))(v:l7 ws its):its=bs.map aDW:=by
 induction bs generalizing ws its with
 |nil=>cases r;cases v;rfl
 |cons b bs a=>
  cases r with
  |cons r t=>
   cases v with
   |cons d e=>cases r;have:_=aDW b:=d;rw[this,a t e];rfl
def NH(bs:List Bool):(aBI bs.length).any (λi=>bs.getD i false)=bs.any id:=by
 rw[aDH,aDk,aDk];constructor
 .rintro⟨i,a,e⟩;have d:i<bs.length:=by nofun
  show{bs[i],aCh d,?_}
  nofun
 rintro⟨b,f,e⟩;let{i,a,rfl}:=aBq f;show{i,by simpa using a,by simpa[aAk a]using e}
def a2o(y:X.calm=true):iP X (.builtin "any") anyR:=by
 intro H O j A Q fr r q;match A,q with
 |[.lst k],q=>
  let{v,rfl,z}:=PQ r;let{p,ws,rfl,B,l}:=z.aa5;erw[anyR]at q;cases e:dU k with
  |none=>rw[e]at q;show q.elim
  |some bs=>
   rw[e]at q;rw[qR e]at l;show{λj m n=>j=[.ref p]/\m=H/\n=Q,λY s σ m k us n I C ⟨J,L,N⟩=>?_,rfl,rfl,rfl};subst J L N;let{u,rfl,T}:=vals1 C;cases T;let{a,g,{U,nL,t,cL,dL,sL},zL}:=I.list B;have w:=FK l g;have x:s.heap.IsList p a.toArray:={U,t,cL,nL,sL};show call_any_walk (aDK x {s.heap.objs.size,_,_,a.toArray.size,_,_,λi=>bs.getD i false,rfl,Walks.list (by simp[I.ok.hd y]) s.heap.objs.size p (aAm<|aAg t) a.toArray,{{_,aAo _ rfl,rfl,rfl},x.push _},λi v s' Q E d f=>?_,λh' tk kp=>?_})
   .have d:a.toArray[i]?=some v:=d;have f:Q (bs.getD i false) s':=f;rw[aCS,w,aAP]at d;cases h:bs[i]? with
    |none=>rw[h]at d;cases d
    |some b=>rw[h]at d;have:aDW b=v:=Option.some.inj d;subst this;rw[aAD,h]at f;show aBN f
   have I2:=I.kept (h':=h') (t':=tk) λb o e=>kp b o (by erw[aAK];show aAm (aAg e)) (aAc _ e);show{.bl (bs.any id),_,I2,?_,q _ _ (Same.refl _) .bl};change aDW _=aDW _;rw[aAX,w,aAf,NH]
end
def ltI(ds:List D)(i j:Nat):Bool:=HT.lexLt (flat<|ds.getD i .non) (flat<|ds.getD j .non)
def XV:List D->R D
 |[.lst a]=>if a≠[]/\a.all bR=true then .ok (a.getD (et (ltI a) (a.length-1)) .non)else .bad
 |_=>.bad
def yF(h:bt)(its:List af):List (a5×Obj):=its.filterMap λv=>match v with
 |.ref b=>(h.get? b).map λo=>(b,o)
 |_=>none
def EQ(a:aDF b∈its)(e:h.get? b=some o):(b,o)∈yF h its:=
 aCb.mpr {_,a,by change(h.get? b).map _=_;rw[e];rfl}
def jI(a:p∈yF h its):h.get? p.1=some p.2:=by
 let{v,_,e}:=aCb.mp a;cases v with
 |ref b=>
  have e:(h.get? b).map (λo=>(b,o))=some p:=e;cases q:h.get? b with
  |none=>nofun
  |some o=>rw[q]at e;cases e;show q
 |_=>cases e
section
def gw(hc:X.calm=true)(hu:X.A.units+300<cf):iP X (.builtin "min") XV:=by
 intro H O vs ds Q fr r q;match ds,q with
 |[.lst xs],q=>
  let{v,rfl,z}:=PQ r;let{p,ws,rfl,h1,h2}:=z.aa5;erw[XV]at q;by_cases x:xs≠[]/\xs.all bR=true
  .rw[gi x]at q;let{ah,x}:=x;show{λvs H' Q'=>vs=[.ref p]/\H'=H/\Q'=Q,λY s σ H' xs' us Q' I rv z9=>?_,rfl,rfl,rfl};let{e1,e2,e3}:=z9;subst e1 e2 e3;let{u,rfl,ru}:=vals1 rv;cases ru;let{f,y,{oL,nL,L,cL,dL,sL},zL}:=I.list h1;have hl:s.heap.IsList p f.toArray:={oL,L,cL,nL,sL};have st:=A9.of y h2;have l:f.toArray.size=xs.length:=by rw[aAX,<-y.length,h2.length]
   have W:=MM.walks_more (Walks.list (prog:=X.prog) (w:=X.w) (A:=X.A.in1) (by simp[I.ok.hd hc]) s.heap.objs.size p (aAm<|aAg L) f.toArray) (yF s.heap f)
    (λq t=>by erw[aAK];show aAm (aAg<|jI t))
   show MM.call_minH (aDK hl {s.heap.objs.size,_,_,_,f.toArray.size,_,_,λh=>∀q∈yF s.heap f,h.get? q.1=some q.2,ltI xs,rfl,W.toS,{{{_,aAo _ rfl,rfl,rfl},hl.push _},λq t=>aAc _ (jI t)},λb k=>?_,by rw[l];show(aEQ.mpr ah),λi s h=>h.2,λi j vi vj m Q2 E2 hh B hj t=>?_,λv m E J=>?_})
   .rw[aBm];rcases aAO.mp k with k|k
    .rcases aAe.mp k with rfl|k
     .show aDl _
     rcases aAe.mp k with rfl|k
     .show aBE (aAg L)
     cases k
    let{q,t,rfl}:=aAh.mp k;show aBE (aAg<|jI t)
   .have one:∀i v,f.toArray[i]?=some v->∃b a,v=.ref b/\IsTup m.heap b a/\IntsAre a.toList (flat<|xs.getD i .non):=λi v B=>by
     rw[aCS]at B;let{d,hd,w,N,T}:=N1 st B;have U:xs.getD i .non=d:=by nofun
     rw[U];have C:=(aBA.mp x) d (aAl hd);let{b,a,rfl,{o,g,c,n,dd},hia}:=bU C (X4 I T (O6 C) N);show{b,a,rfl,{o,hh _ (EQ (aAl B) g),c,n,dd},hia}
    let{b,a,rfl,t1,i1}:=one i vi B;let{b',xo,rfl,t2,i2}:=one j vj hj;show HT.lt_tupInts t1 t2 i1 i2 (by grind) t
   have E:=E;rw[aCS,l]at E;let{d,hd,w,N,T}:=N1 st E;have U:xs.getD (et (ltI xs)<|xs.length-1) .non=d:=by nofun
   rw[U]at q;have es:m={s with heap:=m.heap,toks:=m.toks}:=by
    have g1:=J.gens;have g2:=J.drawn;have g3:=J.os;cases m
    nofun
   rw[es];show{w,_,(I.kept (h':=m.heap) (t':=m.toks) λb o e=>J.heap b o (by erw[aAK];show aAm (aAg e)) (aAc _ e)),N,q _ _ (Same.refl _) T}
  rw[gk x]at q;show q.elim
def qz(h:YA ds)(n:Nat)(a:n<ds.length):et (ltI ds) n=0:=by
 induction n with
 |zero=>rfl
 |succ k b=>
  unfold et;rw[(b (by lia))];have:ltI ds (k+1) 0=false:=by
   unfold ltI;rw[aAD,aAD,aAk a,aAk (by lia)];have:=aCn.mp h 0 (k+1) (by lia) a (by lia);cases q:HT.lexLt (flat<|(some ds[k+1]).getD .non) (flat ((some (ds[0]'(by lia))).getD .non))with
   |false=>rfl
   |true=>have z:HT.lexLt (flat (ds[0]'(by lia))) (flat (ds[0]'(by lia)))=true:=TS.lex_trans _ _ _ this q;rw[TS.lex_irrefl]at z;cases z
  rw[this];rfl
end
end
section
variable [Tabs]
end
end DL
namespace DL
open PySem PySem.Spec L2
open PyProof.Rows hiding St sub_tuple_tuple sub_list_list sub_tuple_list sub_list_tuple
section
open PySem.MeetsSeq PySem.MeetsSeq2 PySem.MeetsSeq3 PySem.AutoSeq1
def RJ(l:a5)(xs:Array af)(n:Nat)(b:a5)(a:Array af)(n2:Nat)(sl:Array (Option af))(h:¬(!xs.isEmpty&&aDb (xs.size+a.size))=true)(i:xs.size<=sizeLine)(j:xs.size+a.size<=sizeLine+1):
  Meets (Builtin.«list.extend» {[.ref l,.ref b],[]}) (λ_ R s=>s.heap.get? l=some {.type "list",none,.seq xs n,#[]}/\s.heap.get? b=some {.type "list",none,.seq a n2,sl}/\R (.ok (.ret Value.none)) {s with heap:=s.heap.update l (aCg λx=>x++a),toks:=s.toks}):=
 .of_wp λe w A R s q=>by
  let{o,g,d,p,os}:=s;let{f,k,m}:=q;have r:=idx_int;have t:=sub_tuple_tuple;have u:=sub_list_list;have v:=sub_tuple_list;have y:=sub_list_tuple;have z:(xs++a).size<=sizeLine+1:=by rw[Array.size_append];show j
  wp_walk using(aCe f rfl (hz:=i) (_hz':=z)),aEM f,aEM k
  show{_,rfl,m}
end
section
def a6v(K:gy):V->List V->Hp->VK->Prop:=λx e H Q=>∃l b a d,x=.ref l/\e=[.ref b]/\H l=some (.lst a)/\M4 K H b d/\a.length+d.length<=sizeLine/\Q .non (upd H l<|.lst (a++d))
def a1r:MtM X "list.extend" (a6v X.K):=by
 intro Y s L H x N v O Q I k m h;let{l,b,T,U,rfl,rfl,i,o,hz,q}:=h;cases k;let{u,rfl,p}:=m.one;cases p;let{z,a,n,r,hl,e}:=I.af6 i;let{f,j,{{t,vv,w,y},A,B,C,E,J},z2}:=I.list o;subst C E J;have om:=j.length;have g:a.toArray.size+f.toArray.size<=sizeLine:=by grind
 have d:¬(!a.toArray.isEmpty&&aDb (a.toArray.size+f.toArray.size))=true:=by rw[UV g,aGd];grind
 show call_meets F.slot_list_extend {_,e,rfl} F.entry_list_extend (F.args_list_extend_2 _ _) (RJ l a.toArray n b f.toArray A y d (by grind) (by lia)) {e,B,({.non,_,I.af9 (its':=a++f) i e (by simp) (r.append j) ?_,rfl,q})}
 nofun
end
variable [Tabs]
section
def HW(i:Nat)(A:PD X e f)(B:X.N[i]?=some x<|>1)(I:CF X.env.scope x<|>5)(J:(x==gA)=false<|>2)(L:(x==gB)=false<|>2)(Q:eT (.Name x p) "extend" X.env (cu (.Name x p) X.env)=cu (.Name x p) X.env<|>1)(T:(((cq g (ag [e] X.env)).all (λx=>!x.1)&&(backToKw g (keywordEach [] X.env)).all (λx=>x.1.isSome)
   &&decide ([e].length+([]:List Keyword).length+(if([]:List Keyword).isEmpty then 0 else 1)<30))=true)<|>1) (U:(b.endLine==g.line)=true<|>1) (r:ag [e] X.env=(false,cu e X.env)::ag [] X.env<|>1) (Y:(cq g (ag [] X.env)).any (·.1)=false<|>1) (xg:dq (.Call (.Attribute (.Name x p) "extend" b) [e] [] g) none l.line X.env=pure false<|>1):
  nU X (.Expr (.Call (.Attribute (.Name x p) "extend" b) [e] [] g) l) (λρ=>(f ρ).bind (a0p i ρ)):=λH9 O0=>
 HB (pV (yw PySem.F.plainAttrs_list PySem.F.slot_list_extend PySem.F.type_list_extend a1r (R0 B I J L) (d9 A k8 r) Q T U r Y) xg) λD σ H O ρ E fk q=>by
 cases j:f ρ with
 |ok d=>
  rw[j,R.aa0]at q;unfold a0p at q;cases h:ρ[i]? with
  |none=>rw[h]at q;show(q).elim
  |some s=>
   rw[h]at q;cases s with
   |x C=>show(q).elim
   |c m φ=>show(q).elim
   |d N=>show(q).elim
   |no=>show aAy q
   |v d=>show aAy q
   |o xs=>
    cases d with
    |lst ys=>
     dsimp only at q;split at q
     .rename_i hz;let{a,t,u,h2,h3,w,y}:=E.own i xs h;show{_,u,.inl {rfl,t,M4.of w},H9,O0,O,ρ,E,?_};change NR X H O ((f ρ).bind λd=>(R.ok []).bind λds=>.ok (d::ds)) _;rw[j];intro us H1 k n;cases n with
      |cons n rn=>
       cases rn;cases n with
       |lst hb nb z=>show{a,_,t,_,rfl,rfl,k _ _ w,hb,by rw[y.length,z.length];show hz,?_};let{E2,k2}:=(E.grow k).write h u ((y.same k).append z);show q σ _ O E2 fk ((Kp.of k).trans k2)
     show aAy q
    |_=>show aAy q
 |ex x=>
  rw[j]at q;cases h:ρ[i]? with
  |none=>show(q H E.same).elim
  |some s=>show(q H E.same).elim
 |bad=>rw[j]at q;show aAy q
end
end DL
namespace TS
open PySem PyProof.Rows HT
section
def KO(A:be)(s:ai)(x y:af)(b:Bool):Prop:=∀(a:bb) (w:bo) (E:D7) (Q:CJ),Q b s->a9 (ba a w) A (oneLt' false x y) Q E s
def lt_two{Q:CJ}(g:IsTup s.heap l #[p,r])(h:IsTup s.heap b #[a,d])(i:f=false)(j:SeqAt.EqAt A s p a e1)(k:e1=false->KO A s p a b1)(m:e1=true->SeqAt.EqAt A s r d e2)(t:e1=true->e2=false->KO A s r d b2)(q:Q (bif e1 then(bif e2 then false else b2)else b1) s):a9 (ba prog w) A (keyLt' (tupK f) (.ref l) (.ref b)) Q E s:=by
 let{o,u,y,n,v}:=g;let{z,x,B,C,e}:=h;subst i;show aAa (aEv u v<|aAa<|aEv x e ?_);change a9 _ _ (forIn [((p,a),0),((r,d),1)] _ _>>=_) _ _ _;rw[aDc];show aAa (aAa<|aAa<|j _ _ _ _ ?_);cases e1 with
 |false=>show aAa (k rfl _ _ _ _<|aAb<|aAb<|aAb q)
 |true=>
  show aAb ?_;dsimp only;rw[aDc];show aAa (aAa<|m rfl _ _ _ _ ?_);cases e2 with
  |false=>show aAa (t rfl rfl _ _ _ _<|aAb<|aAb<|aAb q)
  |true=>show aAb ?_;dsimp only;show aAb (aAb q)
def UI(h:∀(prog:bb) (w:bo) (E:D7) (Q:D7),Q (.bool b) s->a9 (ba prog w) A (richCompare .Lt x y) Q E s):KO A s x y b:=λprog w E Q q=>by rw[oneLt'_eq];show aAa (h prog w _ _<|aBN q)
def oneLt_tup(d:IsTup s.heap l items)(e:IsTup s.heap b f)(g:IntsAre items.toList ns)(h:IntsAre f.toList i)(j:A.units<cf):KO A s (.ref l) (.ref b) (HT.lexLt ns i):=
 UI λa w E Q q=>HT.lt_tupInts d e g h j q
end
end TS
namespace DL
open PySem PySem.Spec L2
open PyProof.Rows hiding St
section
def yL(k:D->List Int)(d:D):List D->List D
 |[]=>[d]
 |x::a=>if HT.lexLt (k d) (k x)=true then d::x::a else x::yL k d a
def sJ(k:D->List Int)(ds:List D):List D:=ds.foldr (yL k) []
def xP(k:D->List Int)(ds:List D):Prop:=ds.Pairwise λx y=>HT.lexLt (k x) (k y)=true
theorem lX(k:D->List Int)(d:D):∀xs:List D,(yL k d xs).Perm (d::xs)
 |[]=>.refl _
 |x::xs=>by
  unfold yL;split
  .show .refl _
  show((lX k d xs).cons x).trans (.swap d x xs)
theorem X3(k:D->List Int):∀ds:List D,(sJ k ds).Perm ds
 |[]=>.refl _
 |d::ds=>(lX k d (sJ k ds)).trans ((X3 k ds).cons d)
theorem BG:∀{xs:List D},xP k xs->(∀x∈xs,k x≠k d)->xP k (yL k d xs):=by
 intro f h n;cases f with
 |nil=>show aEb _ _
 |cons x xs=>
  have b:=aAw.mp h;unfold yL;split
  .rename_i lt;show aAw.mpr {λy a=>?_,h};rcases aAe.mp a with rfl|a
   .show lt
   show TS.lex_trans _ _ _ lt (b.1 y a)
  rename_i e;show aAw.mpr {λy a=>?_,BG b.2 λz g=>n z (.tail _ g)};rcases aAe.mp ((lX k d xs).mem_iff.mp a)with rfl|a
  .cases q:HT.lexLt (k x) (k y)with
   |true=>rfl
   |false=>show gs (TS.lex_total _ _ q (by exists e)) (n x<|.head _)
  show b.1 y a
theorem nD:∀{ds:List D},(ds.map k).Nodup->xP k (sJ k ds):=by
 intro a h;cases a with
 |nil=>show .nil
 |cons d ds=>rw[aAq,aBi]at h;show BG (nD h.2) λx b e=>h.1 ?_;rw[<-e];show aAt ((X3 k ds).mem_iff.mp b)
theorem lW:∀{xs a:List D},xP k xs->xP k a->xs.Perm a->xs=a:=by
 intro g a h i p;cases g with
 |nil=>show(List.nil_perm.mp p).symm
 |cons x xs=>
  cases a with
  |nil=>nofun
  |cons y a=>
   have e:=aAw.mp h;have f:=aAw.mp i;have b:x=y:=by
    rcases aAe.mp (p.mem_iff.mp<|.head _)with q|q
    .show q
    rcases aAe.mp (p.mem_iff.mpr<|.head _)with d|d
    .show d.symm
    have:=TS.lex_trans _ _ _ (f.1 x q) (e.1 y d);rw[TS.lex_irrefl]at this;cases this
   subst b;rw[lW e.2 f.2 ((List.perm_cons x).mp p)]
def oj[Tabs]{R:af->D->Prop}{key:af->List Int}{k:D->List Int}{us:List af}{ds:List D}(st:Paired R us ds)(b:us.Pairwise λx y=>HT.lexLt (key y) (key x)=false)(o:(ds.map k).Nodup)(f:∀u d,R u d->d∈ds->key u=k d):xP k ds:=by
 induction st with
 |nil=>show .nil
 |@cons u d us ds r t p=>
  have g:=aBi.mp o;have i:=aAw.mp b;show aAw.mpr {λe q=>?_,p i.2 g.2 λu d h s=>f u d h (.tail _ s)};let{j,a,rfl}:=aBq q;have m:j<us.length:=by rw[t.length];show a
  let{w,n,v}:=N1 t (aAk m);rw[aAk a]at n;cases n;have l:=i.1 us[j] (aCh m);rw[f _ _ v (.tail _ (aCh a)),f u d r (.head _)]at l;cases z:HT.lexLt (k d) (k ds[j])with
  |true=>rfl
  |false=>show gs (aAh.mpr {ds[j],aCh a,(TS.lex_total _ _ z l).symm}) g.1
def fcB:D->Bool
 |.tup [p,.lst _]=>bR p
 |_=>false
def U5:D->List Int
 |.tup (p::_)=>flat p
 |_=>[]
def a2l(h:fcB d=true):∃p r,d=.tup [p,.lst r]/\bR p=true/\U5 d=flat p:=by
 unfold fcB at h;split at h
 .show{_,_,rfl,h,rfl}
 cases h
def sfR:D->R (List D)
 |.lst a=>if a.all fcB=true/\(a.map U5).Nodup/\a.length<=63 then .ok (sJ U5 a)else .bad
 |_=>.bad
variable [Tabs]
def FV(h:bt)(u:af)(l:List Int):Prop:=∃b p r d,u=.ref b/\IsTup h b #[p,r]/\bR d=true/\HV h p d/\flat d=l
def FV.inj(x:FV h u l)(y:FV h u k):l=k:=by let{b,p,r,d,rfl,{o,g,_,n,m},_,q,rfl}:=x;let{t,v,w,z,e,{A,f,_,B,i},_,a,rfl}:=y;cases e;rw[g]at f;cases f;rw[m]at i;injection i with s _;have j:=gn aGz s;erw[aFS]at j;let{rfl,_}:=j;rw[HV.inj q a]
def OB(h:bt) (u:af):List Int:=open Classical in if p:∃l,FV h u l then p.choose else[]
def kC(x:FV h u l):OB h u=l:=by unfold OB;rw[dif_pos {l,x}];show FV.inj (Exists.choose_spec ({l,x}:∃l,FV h u l)) x
section
def PX(I:Inv X Y l H s)(r:Rep X.K H O v d)(h:fcB d=true)(f:RelV v u):FV s.heap u (U5 d):=by
 let{p,ring,rfl,e,g}:=a2l h;cases r with
 |tup q a=>
  cases f;let{i,b,j,_}:=I.tuple q;cases a with
  |cons k a=>
   cases a with
   |cons m a=>
    cases a;cases b with
    |cons v1 b=>
     cases b with
     |cons n b=>cases b;show{_,_,_,p,rfl,j,e,X4 I k (O6 e) v1,g.symm}
end
section
def FD(ha:PB X e f)(hh:X.calm=true)(hu:X.A.units+300<cf)(hg:Gl X "sorted"<|>1)(hm:X.mg "sorted"=none<|>4)(hv:cp "sorted"=some (.builtin "sorted")<|>3)(he:ag [e] X.env=(false,cu e X.env)::ag [] X.env<|>1)(G9:(cq pos (ag [] X.env)).any (·.1)=false<|>1):
  PF X (.Call (.Name "sorted" p) [e] [] pos) (λρ=>(f ρ).bind sfR):=by
 show wZ λY s σ H Q I H9 O0 O ρ E q=>?_;dsimp only at q;show aBb (P4 I hg hm hv ?_ (by symm) (by symm));have hpa:PA X [e] _:=M1 ha dD he;show aBQ (G4 (hpa pos Y s σ H (λvs H1=>∃v t,vs=[v]/\f ρ=.ok (.lst t)/\Same H H1/\z7 X.K H1 O v (.lst t)) I {H9,O0,O,ρ,E,?_}) λus J z9=>?_) he G9
 .cases e1:f ρ with
  |ex z=>rw[e1]at q;show q
  |bad=>rw[e1]at q;show q.elim
  |ok d=>
   rw[e1,R.aa0]at q;cases d with
   |lst t=>showλv H1 J r1=>{v,t,rfl,rfl,J,r1}
   |_=>show aAy q
 let{vs,H1,I1,r1,v,t,ev,ef,sm,rb}:=z9;subst ev;rw[ef,R.aa0]at q;let{a,ws,rfl,hS,rr}:=rb.aa5;let{u,rfl,ru}:=vals1 r1;cases ru;let{m,rv,{oL,nL,gL,cL,dL,sL},zL}:=I1.list hS;have hl:J.heap.IsList a m.toArray:={oL,gL,cL,nL,sL};erw[sfR]at q;by_cases hc:t.all fcB=true/\(t.map U5).Nodup/\t.length<=63
 .rw[gi hc]at q;let{ke,nd,vf}:=hc;have fc:∀d∈t,fcB d=true:=aBA.mp ke;have st:A9 X.K H1 O m t:=A9.of rv rr;have hlen:m.length=t.length:=st.length;have B:∀u∈m,∃i d,m[i]?=some u/\t[i]?=some d/\FV J.heap u (U5 d):=λu hu=>by let{i,hi,rfl}:=aBq hu;let{d,hd,w,qm,rp}:=N1 st (aAk hi);show{i,d,aAk hi,hd,PX I1 rp (fc d<|aAl hd) qm}
  have keq:∀u∈m,∀u'∈m,OB J.heap u=OB J.heap u'->u=u':=λu hu u' hu' e=>by
   let{i,d,hi,hd,fv}:=B u hu;let{j,d',hj,qh,fv'}:=B u' hu';rw[kC fv,kC fv']at e;have eij:i=j:=by let{li,ei}:=aAB.mp hd;let{lj,ej}:=aAB.mp qh;show(List.getElem_inj (xs:=t.map U5) (i:=i) (j:=j) (h₀:=by exists li) (h₁:=by exists lj) nd).mp ?_;rw[aEA,aEA,ei,ej];show e
   subst eij;rw[hi]at hj;cases hj;rfl
  show TS.sorted_keys (vs:=m) (f:=false) (key:=OB J.heap) (C:=λs'=>∃h',s'={J with heap:=h'}/\∀b o,J.heap.get? b=some o->h'.get? b=some o)
   (λ{Q'} hq=>collect_list hl (hq _ {_,rfl,λb o e=>?_}) (by rw[hlen];show aAj vf (by symm)))
   (λs' ⟨h',U,k⟩ s6 k6 x hx y hy prog w A E hA {Q} qq=>?_) (λh2 s' ⟨h',U,k⟩ s6 k6 A {Q} qq=>?_) (by rw[hlen];lia) λs' gm h' l ⟨h1,U,k⟩ pm srt k2 hl ⟨n,gl⟩=>?_
  .show(aAI _ _<|aCA<|aAm<|aAg e).trans (aAc _ e)
  .subst U;have kk:∀b o,J.heap.get? b=some o->s6.heap.get? b=some o:=λb o e=>k6 b o (k b o e);let{i,d,hi,hd,fv}:=B x hx;let{j,d',hj,qh,fv'}:=B y hy;have kx:=kC fv;have ky:=kC fv';have eqk:=keq x hx y hy;rw[kx,ky]at qq;rw[kx,ky]at eqk;let{b,p1,r1,d1,rfl,{o,g,c,n,dd},N,hv1,e1}:=fv;let{b',p2,r2,d2,rfl,{o',g',c',n',zo},hp2,hv2,e2}:=fv';have L:HV s6.heap p1 d1:=hv1.keeps λb o e _=>kk b o e;have hv2':HV s6.heap p2 d2:=hv2.keeps λb o e _=>kk b o e;have hA':A.units+8<cf:=by lia
   let{c1,i1,rfl,t1,ia1}:=bU N L;let{c2,i2,rfl,t2,ia2}:=bU hp2 hv2';rw[<-e1,<-e2]at qq eqk;show TS.lt_two (e1:=w8 d1 d2) (e2:=true) (b1:=HT.lexLt (flat d1) (flat d2)) (b2:=false) {o,kk _ _ g,c,n,dd} {o',kk _ _ g',c',n',zo} rfl (IW L hv2' (by have:=LG N;lia)) (λ_=>TS.oneLt_tup t1 t2 ia1 ia2 (by lia)) (λeq=>?_) (λ_ z=>by cases z) ?_
   .have ed:=gZ (O6 N) (O6 hp2) eq;have er:=eqk (by rw[ed]);cases er;rw[g]at g';cases g';rw[dd]at zo;injection zo with e3 _;have e4:=gn aGz e3;erw[aFS]at e4;rw[e4.2.1];show aEh _
   cases z:w8 d1 d2 with
   |false=>show qq
   |true=>have ed:=gZ (O6 N) (O6 hp2) z;rw[ed,TS.lex_irrefl]at qq;show qq
  .subst U;have kk:∀b o,J.heap.get? b=some o->s6.heap.get? b=some o:=λb o e=>k6 b o (k b o e);have sg:∀x∈m,∃p,∃b r,x=.ref b/\IsTup s6.heap b r/\r[0]?=some p/\s6.TypeIs p "tuple":=λx hx=>by let{i,d,hi,hd,fv}:=B x hx;let{b,p1,r1,d1,rfl,{o,g,c,n,dd},N,hv1,e1}:=fv;have L:HV s6.heap p1 d1:=hv1.keeps λb o e _=>kk b o e;let{c1,i1,rfl,{o1,g1,cc1,_},ia1}:=bU N L;show{_,b,_,rfl,{o,kk _ _ g,c,n,dd},rfl,{o1,g1,cc1}}
   obtain⟨gf,hgf⟩:∃gf:af->af,∀x∈m,∃b r,x=.ref b/\IsTup s6.heap b r/\r[0]?=some (gf x)/\s6.TypeIs (gf x) "tuple":=by show{λx=>open Classical in if z:x∈m then(sg x z).choose else .none,λx hx=>?_};dsimp only;rw[dif_pos hx];show(sg x hx).choose_spec
   show TS.kind_tuples (T:= "tuple") gf hgf (λz=>by rw[z]at h2;simp at h2) (by symm) qq
  subst U;let{qr,p2,lu}:=dZ pm st;have hk:∀u d,(∃v,RelV v u/\Rep X.K H1 O v d)->d∈t->OB J.heap u=U5 d:=by rintro u d ⟨v,rv,rp⟩ hd;show kC (PX I1 rp (fc d hd) rv)
  have nd2:(qr.map U5).Nodup:=(p2.map U5).nodup_iff.mpr nd;have xt:xP U5 qr:=oj (R:=λu d=>∃v,RelV v u/\Rep X.K H1 O v d) lu srt nd2 λu d h hd=>hk u d h (p2.mem_iff.mp hd);have e2:qr=sJ U5 t:=lW xt (nD nd) (p2.trans (X3 U5 t).symm);subst e2;let{wv,qm,nh}:=A9.ab8 lu;have I2':=I1.kept (h':=h1) (t':=J.toks) k;have I3:=I2'.laid (a:=l) (o:=.lst wv) (h':=h') (t':=J.toks) k2 hl {by rw[nh.length,(X3 U5 t).length_eq];show aAj vf (by symm),gm,n,qm,gl};show{.ref l,_,I3,rfl,q wv _ l sm (I2'.hok.fresh hl) nh}
 rw[gk hc]at q;show q.elim
end
end
section
def cH:List Int->Int
 |[]=>0
 |a::l=>l.foldl max a
theorem V1:∀(l:List Int) (a:Int),(l.foldl max a=a\/l.foldl max a∈l)/\a<=l.foldl max a/\∀b∈l,b<=l.foldl max a
 |[],a=>{.inl rfl,aBY _,λb h=>by cases h}
 |c::l,a=>by
  let{d,g,f}:=V1 l (max a c);rw[aDE];show{?_,by lia,λb e=>?_}
  .rcases d with d|d
   .rw[d];rcases Int.le_total a c with q|q
    .show .inr (by rw[Int.max_eq_right q];show .head _)
    show .inl (Int.max_eq_left q)
   show .inr (.tail _ d)
  rcases aAe.mp e with rfl|e
  .lia
  show f b e
def fM(h:ns≠[]):cH ns∈ns:=by
 cases ns with
 |nil=>show gs rfl h
 |cons a l=>
  rcases(V1 l a).1 with q|q
  .change l.foldl max a∈_;rw[q];show .head _
  show .tail _ q
def gE(h:a∈ns):a<=cH ns:=by
 cases ns with
 |nil=>cases h
 |cons b l=>
  rcases aAe.mp h with rfl|h
  .show(V1 l a).2.1
  show(V1 l b).2.2 a h
def wF:List D->R D
 |[.lst b]=>match rD b with
  |some a=>if a≠[]then .ok (.int (cH a))else .bad
  |none=>.bad
 |_=>.bad
variable [Tabs]
section
def WM(d:IntsAre its ns)(e:its.toArray=intItems a):∀i,numAt a i=ns.getD i 0:=λi=>by
 have b:=nums_intItems a;rw[<-e]at b;rw[show its.toArray.toList=its from rfl,d.numsOf]at b;unfold numAt
 nofun
def yQ(C:X.calm=true):iP X (.builtin "max") wF:=by
 intro H O k E Q fr r q;match E,q with
 |[.lst J],q=>
  let{v,rfl,z}:=PQ r;let{p,ws,rfl,l,m}:=z.aa5;erw[wF]at q;cases e:rD J with
  |none=>rw[e]at q;show q.elim
  |some d=>
   rw[e]at q;dsimp only at q;by_cases f:d≠[]
   .rw[gi f]at q;rw[vC e]at m;rw[NF m]at l;show{λk n o=>k=[.ref p]/\n=H/\o=Q,λY s σ n L us o I N ⟨T,U,e3⟩=>?_,rfl,rfl,rfl};subst T U e3;let{u,rfl,ru}:=vals1 N;cases ru;let{its,r',pl,hz}:=I.list l;have g:=DL.bE r';let{a,h}:=g.allInts.items;have w:=pl.isList;rw[h]at w;have x:a.size=d.length:=by have:=gn Array.size h;rw[aAX,g.length]at this;simpa[intItems]using this.symm
    have y:0<d.length:=aEQ.mpr f;show max_intList (I.ok.hd C) w (by lia) λv h' tk hv hk=>?_;let{t,rfl}:=intItems_at hv;let{g1,A}:=argBest_gt (numAt a) (a.size-1);have em:numAt a (et (λi j=>decide (numAt a i>numAt a j))<|a.size-1)=cH d:=by
     generalize et (λi j=>decide (numAt a i>numAt a j)) (a.size-1)=b at g1 A;have m1:numAt a b∈d:=by rw[WM g h,aAD,aAk (by lia)];show aCh _
     have m2:=gE m1;let{j,hj,ej}:=aBq (fM f);have B:=A j (by lia);rw[WM g h j,aAD,aAk hj]at B;have m4:d[j]<=numAt a b:=B
     lia
    rw[em];show{.int (cH d),_,I.kept hk,{t,rfl},q _ _ (Same.refl _) .int}
   rw[gk f]at q;show q.elim
def RT(K:gy)(mg:dJ)(x:Str)(ns:List Int):Prop:=∃a d b n e,mg x=some (.ref a)/\K.lookup a=some {.type "tuple",d,.seq b n,e}/\l7 (ns.map V.int) b.toList/\b.size<=sizeLine
omit [Tabs]in
def a1q{K:gy}{mg:dJ}{x:Str}{a:a5}{b:Option a5}{n:Nat}{sl:Array (Option af)}{i j k:Int}{t u v:Tok}(d:mg x=some (.ref a))(e:K.lookup a=some {.type "tuple",b,.seq #[.int i t,.int j u,.int k v] n,sl}):RT K mg x [i,j,k]:=
 {a,b,_,n,sl,d,e,.cons {t,rfl} (.cons {u,rfl} (.cons {v,rfl} .nil)),show 3<=sizeLine by symm}
def zN(c:RT X.K X.mg x ns)(b:Gl X x<|>1)(d:(x==gA)=false<|>2):PD X (.Name x e) (JC (.tup (ns.map D.int))):=by let{a,k,f,n,l,g,h,i,j}:=c;show NJ g h i j b d
end
end
end DL
namespace DL
open PySem PySem.Spec L2
open PyProof.Rows hiding St st
def sk{a:eO}{g:a5}{e:List (Str×a5)}{n:Str}{v:af}{q:Str}{f:Option a5}{c:af}{b:a5}{s:ai}{M:Model}{A:be}{E:D7}{Q:Env->ai->Prop}(l:a.kind=.function)(m:a.names.lookup n=some .local)
  (o:∀h' tk,h'.Ns s.heap.objs.size (λx=>if x=n then some v else none)->Heap.SameBut s.heap.objs.size (fb (s.heap.push {cls:=.type "frame",data:=.dict #[]}) a.names) h'->Q (newEnv a s.heap.objs.size g (bc (s.heap.objs.size+1) a.names e) q f c none b) {s with heap:=h',toks:=tk}):
  a9 M A (ff a g e [(n,v)] q f c none b) Q E s:=by
 erw[ff,Option.isSome_none,aAE,if_false];show aAa (wpAny_alloc ?_);show aAa (wpAny_layCells _ (λk d h=>by cases i:d==aBo<;>simp[i]) _ _ _ _ ?_);rw[show({s with heap:=s.heap.push {cls:=.type "frame",data:=.dict #[]}}:ai).heap.objs.size=s.heap.objs.size+1 from aBm ..];rw[aDc];show aAa (aAa (aAa (wpAny_storeName_local (env:=newEnv a s.heap.objs.size g (bc (s.heap.objs.size+1) a.names e) q f c none b) m ((Heap.Ns.new s.heap<|.type "frame").keeps (aDd _ _)) (λh' j p=>aAb ?_) (by change(a.kind==.class||(a.kind==.module&&_))=false;rw[l];rfl))));dsimp only;rw[aFn];show aAb (aAb<|o h' _ j p)
def WG{prog:bb}{w:bo}{A:be}{s:ai}{R:Result->ai->Prop}{a:a5}{o:Obj}{d:cy}{body:List br}{args:Args}{n:Str}{v:af}
  (p:A.depth<recursionLimit) (q:s.heap.get? a=some o) (g:o.data=.func d) (j:s.heap.NoLimit) (r:s.heap.CodeRec d.code d.qualname) (t:d.body=.stmts body) (u:BindsTo s d args [(n,v)]) (y:d.scope.names.lookup n=some .local)
  (l:d.scope.isCoroutine=false) (k:d.scope.isGenerator=false) (z:d.scope.kind=.function)
  (h:∀h₀ tk,h₀.Ns s.heap.objs.size (λx=>if x=n then some v else none)->Heap.SameBut s.heap.objs.size (fb (s.heap.push {cls:=.type "frame",data:=.dict #[]}) d.scope.names) h₀->∀env,env=newEnv d.scope s.heap.objs.size d.globals (bc (s.heap.objs.size+1) d.scope.names d.closure) (d.qualname++ ".<locals>.") (some a) d.code none d.builtins->
   a9 (ba prog w) (A.deeper env) (execs body env) (λf s'=>R (.ok (.ret (match f with|.ret v=>v|_=>.none))) s') (λe s'=>a9 (ba prog w) (A.deeper env) (leaving env e) (λ_ i=>R (.error e) i) (λB i=>R (.error B) i) s') {s with heap:=h₀,toks:=tk}):
  ee (ba prog w) A (.call (.ref a) args) R s:=by
 show codeAny_call_function p q g l k t r (u _ _ _ _ ?_);show sk z y λC tk E m=>{j.keeps λb o e=>m.extBut b o (aAm<|aAg e) (aDd _ _ b o<|aAc _ e),codeAny_func (h C tk E m _ rfl)}
def W5:∀(names:List (Str×cv)) (n:Nat) (B:List (Str×a5)),bc n names B=bc n names []++B:=by
 intro names;induction names with
 |nil=>showλ_ _=>rfl
 |cons y r b=>
  intro n B;let{a,d}:=y;unfold bc;split
  .rw[b,b (n+1) [(a,n)],aDe];rfl
  show b n B
def FX{names:List (Str×cv)}:∀{n:Nat}{x:Str}{c:a5},(x,c)∈bc n names []->(x,aBo)∈names:=by
 induction names with
 |nil=>showλh=>by cases h
 |cons y r b=>
  intro n x c h;let{d,a}:=y;unfold bc at h;split at h
  .rename_i e;rw[W5]at h;rcases aAO.mp h with h|h
   .show aAd _ (b h)
   cases aAK.mp h;rw[show a=aBo from beq_iff_eq.mp e];show aBf
  show aAd _ (b h)
def uT{names:List (Str×cv)}:∀{n:Nat}{x:Str},(x,aBo)∈names->∃c,(x,c)∈bc n names []:=by
 induction names with
 |nil=>showλh=>by cases h
 |cons y r a=>
  intro n x h;let{b,d}:=y;unfold bc;rcases aAe.mp h with e|h
  .cases e;rw[gi (show(aBo==aBo)=true from rfl),W5];show{n,aAu _ (aAK.mpr rfl)}
  split
  .rw[W5];let{c,f}:=a (n:=n+1) h;show{c,aAW _ f}
  show a h
def a1t(s:ai)(names:List (Str×cv)):CellsOk (fb (s.heap.push {cls:=.type "frame",data:=.dict #[]}) names) (s.heap.objs.size+1) (bc (s.heap.objs.size+1) names []):=by
 have ok:=cellsFrom_ok names (s.heap.push {cls:=.type "frame",data:=.dict #[]}) (s.heap.objs.size+1) [] {λ_ _ a=>(nomatch a),aFq} (by rw[aBm];show aAi _)
 rwa [aBm]at ok
def sG{a:Type}{l:List (Str×a)}{x:Str}{c:a}(h:(x,c)∈l):∃d,l.lookup x=some d:=by
 cases e:l.lookup x with
 |some d=>show{d,rfl}
 |none=>show gs (aFD.mp e _ h) (by simp)
def GO{f:Type}{a b:List (Str×f)}{x:Str}{c:f}(h:(a++b).lookup x=some c):a.lookup x=some c\/(a.lookup x=none/\b.lookup x=some c):=by
 rw[List.lookup_append]at h;cases e:a.lookup x with
 |some d=>rw[e]at h;show .inl h
 |none=>rw[e]at h;show .inr {rfl,h}
end DL
namespace DL
open PySem PySem.Spec L2
open PyProof.Rows hiding St
section
theorem cB{d β:Type}[BEq d][LawfulBEq d]:∀{l:List (d×β)}{a:d}{b:β},(l.map (·.1)).Nodup->(a,b)∈l->l.lookup a=some b
 |(x,y)::l,a,b,h,g=>by
  rw[aAq,aBi]at h;rw[aBh];rcases aAe.mp g with e|f
  .cases e;simp
  have:(a==x)=false:=by rw[beq_eq_false_iff_ne];rintro rfl;show h.1 (aAh.mpr {(a,b),f,rfl})
  rw[this];show cB h.2 f
theorem mem_lookup{d β:Type}[BEq d][LawfulBEq d]:∀{l:List (d×β)}{a:d}{b:β},l.lookup a=some b->(a,b)∈l
 |(x,y)::l,a,b,h=>by
  rw[aBh]at h;split at h
  .rename_i q;grind
  show .tail _ (mem_lookup h)
def xR(o:Obj):Prop:=∃v,o.data=.cell v
def iF(H:Hp)(a:R7):Hp:=λb=>match a.lookup b with
 |some o=>some (.frz o (.own b))
 |none=>H b
def V4(H:Hp)(a:R7):Hp:=λb=>match a.lookup b with
 |some _=>none
 |none=>H b
section
variable{K:gy}
def gQ(e:a.lookup b=some o):iF H a b=some (.frz o (.own b)):=by unfold iF;rw[e]
def T5(e:a.lookup b=none):iF H a b=H b:=by unfold iF;rw[e]
def dE(e:a.lookup b=some o):V4 H a b=none:=by unfold V4;rw[e]
def Q1(e:a.lookup b=none):V4 H a b=H b:=by unfold V4;rw[e]
def G2(d:∀b o,a.lookup b=some o->H b=none)(e:H b=some u):iF H a b=some u:=by
 cases q:a.lookup b with
 |none=>rw[T5 q];show e
 |some o=>nofun
def gU(a:∀b o,d.lookup b=some o->H b=none):Same H (iF H d):=λb u e=>G2 a e
def y6(d:∀b o,a.lookup b=some o->H b=some (.frz o (.own b)))(e:H b=some u)(ne:∀o,a.lookup b=some o->u≠.frz o (.own b)):V4 H a b=some u:=by
 cases q:a.lookup b with
 |none=>rw[Q1 q];show e
 |some o=>nofun
def QV(x:iK P w H h)(a:∀b o,d.lookup b=some o->h.get? b=some o/\H b=none):iK P w (iF H d) h:=λb u e=>by
 have f:=λb o q=>(a b o q).2;cases q:d.lookup b with
 |some o=>rw[gQ q]at e;cases e;show{(a b o q).1,{o,(a b o q).1}}
 |none=>rw[T5 q]at e;show(x b u e).ab9 (λ_ _ _ z=>z) (λc z=>G2 f z) λc u _ z=>G2 f z
def QZ(x:iK P w H h)(d:∀b o,g.lookup b=some o->H b=some (.frz o (.own b))/\xR o):iK P w (V4 H g) h:=λb u e=>by
 have i:=λb o q=>(d b o q).1;cases q:g.lookup b with
 |some o=>rw[dE q]at e;cases e
 |none=>
  rw[Q1 q]at e;show(x b u e).ab9 (λ_ _ _ z=>z) (λc z=>y6 i z λo _ a=>by cases a) λc u f z=>y6 i z λo q a=>?_;subst a;let{j,k}:=f;let{v,l}:=(d c o q).2
  lia
def a2t(U:Un fs [] (iF H a) i h h')(k:iK P w i h')(j:∀b o,a.lookup b=some o->h.get? b=some o/\H b=none/\xR o):Un fs [] H (V4 i a) h h'/\iK P w (V4 i a) h'/\∀b o,a.lookup b=some o->i b=some (.frz o (.own b)):=by
 have l:=λb o q=>(j b o q).2.1;have d:=λb o q=>U.frzs b o _ (gQ q);show{{λb o e n m f=>?_,λb o e n m f=>?_,λb o e n f=>?_,λb o e f=>U.there b o e f,λb p e=>?_,λb o u e=>?_,λb r e=>?_},QZ k λb o q=>{d b o q,(j b o q).2.2},d}
 .cases q:a.lookup b with
  |none=>show U.keep b o e (by rw[T5 q];show n) m f
  |some g=>have:=(j b g q).1;rw[e]at this;cases this;show(k b _<|d b o q).1
 .cases q:a.lookup b with
  |none=>show U.slot b o e (by rw[T5 q];show n) m f
  |some g=>have:=(j b g q).1;rw[e]at this;cases this;show{o.slots,(k b _<|d b o q).1}
 .cases q:a.lookup b with
  |none=>rw[Q1 q];show U.free b o e ((T5 q)▸n) f
  |some g=>show dE q
 .show y6 d (U.tups b p<|G2 l e) λo _ z=>by cases z
 .show y6 d (U.frzs b o u<|G2 l e) λg q z=>?_
  nofun
 show y6 d (U.tbls b r<|G2 l e) λo _ z=>by cases z
def a2v(U:Un fs [] (V4 H d) g h h')(k:iK P w g h')(j:∀b o,d.lookup b=some o->h.get? b=some o/\H b=some (.frz o (.own b))/\b∉fs):Un fs [] H (iF g d) h h'/\iK P w (iF g d) h'/\Same g (iF g d):=by
 have l:=λb o q=>(j b o q).2.1;have i:=λb o q=>U.free b o (j b o q).1 (dE q) (by simp);have a:∀b,H b=none->d.lookup b=none:=λb n=>by
  cases q:d.lookup b with
  |none=>rfl
  |some o=>nofun
 show⟨{λb o e n m f=>U.keep b o e (by rw[Q1 (a b n)];show n) m f,λb o e n m f=>U.slot b o e (by rw[Q1 (a b n)];show n) m f,λb o e n f=>?_,λb o e f=>U.there b o e f,λb p e=>?_,λb o u e=>?_,λb r e=>?_},
  QV k λb o q=>{(λb o q=>U.keep b o (j b o q).1 (dE q) (j b o q).2.2 (by simp)) b o q,i b o q},gU i⟩
 .rw[T5 (a b n)];show U.free b o e ((Q1<|a b n)▸n) f
 .show G2 i (U.tups b p (y6 l e λo _ z=>by cases z))
 .cases q:d.lookup b with
  |none=>show G2 i (U.frzs b o u<|(Q1 q)▸e)
  |some s=>rw[l b s q]at e;cases e;show gQ q
 show G2 i (U.tbls b r (y6 l e λo _ z=>by cases z))
def IY(d:∀b o,e.lookup b=some o->H b=some (.frz o (.own b)))(q:W3 K H a xs):W3 K (V4 H e) a xs:=by
 rcases q with(q|⟨o,q⟩)|q
 .show .inl (.inl (y6 d q λo _ z=>by cases z))
 .show .inl (.inr {o,y6 d q λo _ z=>by cases z})
 show .inr q
def LC(d:∀b o,e.lookup b=some o->H b=some (.frz o (.own b)))(q:M4 K H a xs):M4 K (V4 H e) a xs:=by
 rcases q with(q|⟨o,q⟩)|q
 .show .inl (.inl (y6 d q λo _ z=>by cases z))
 .show .inl (.inr {o,y6 d q λo _ z=>by cases z})
 show .inr q
def LX{a:R7}{d:bt->Prop}(f:∀b o,a.lookup b=some o->H b=some (.frz o (.own b)))(q:H b=some (.ext d)):V4 H a b=some (.ext d):=by
 unfold V4;cases e:a.lookup b with
 |none=>exists q
 |some o=>nofun
def Rep.hid(a:∀b o,e.lookup b=some o->H b=some (.frz o (.own b)))(r:Rep K H O v d):Rep K (V4 H e) O v d:=r.mono (λ_ _ q=>IY a q) (λ_ _ n q=>{n,LC a q}) λb f n q=>{n,LX a q}
def Reps.hid(a:∀b o,e.lookup b=some o->H b=some (.frz o (.own b)))(r:Reps K H O v d):Reps K (V4 H e) O v d:=r.mono (λ_ _ q=>IY a q) (λ_ _ n q=>{n,LC a q}) λb f n q=>{n,LX a q}
end
variable [Tabs]
section
variable(P:bb) (w:bo) (K:gy) (mg:dJ) (base:bt) (k:Nat)
def PN(n:Nat)(m:List D->R D)(H:Hp)(O:a5->Prop)(a:a5):Prop:=
 (∃h i j l,H a=some (.frz {h,i,.func j,l} (.own a)))/\
 ∀(A:be) (outer:List Env) (s:ai) (f:List af) (g:List V) (b:List D) (d:D) (Q:VK) (E:XK),Room k A->Env0 P w K mg base A outer s H->l7 g f->Reps K H O g b->b.length=n->(∀a,O a->∃o,H a=some o/\Mt o)->Tb H->V9 K O->m b=.ok d->
  (∀v e,Same H e->Rep K e O v d->Q v e)->ee (ba P w) A (.call (.ref a) {f,[]}) (CR uB outer P w H s Q E) s
end
open Classical in
def callC(Φ:(List D->R D)->Hp->(a5->Prop)->a5->Prop) (i:Nat) (f:Ev->R (List D)):Ev->R D:=λa=>match a[i]? with
 |some (.c m b)=>if b=Φ m then(f a).bind m else .bad
 |_=>.bad
section
def TF(i:Nat)(ha:EA X (e::es) f)(hl:CQ f n)(hr:Room k X.A)(hN:X.N[i]?=some x<|>1)(hv:CF X.env.scope x<|>5)(hd:(x==gA)=false<|>2)(eh:(x==gB)=false<|>2)(he:ag (e::es) X.env=(false,cu e X.env)::ag es X.env<|>1)(G9:(cq g (ag es X.env)).any (·.1)=false<|>1):
  PD X (.Call (.Name x p) (e::es) [] g) (callC (PN X.prog X.w X.K X.mg X.base k n) i f):=by
 show wZ λY s T H Q I H9 O0 O t E q=>?_;unfold callC at q;cases y:t[i]? with
 |none=>rw[y]at q;show q.elim
 |some j=>
  rw[y]at q;cases j with
  |c m φ=>
   dsimp only at q;split at q
   .rename_i B;subst B;let{a,h1,U}:=E.slot i _ y;let{{oc,od,fd,j,hf},_}:=U H O (Kp.refl _ _);show aBb (G4 (R0 hN hv hd eh Y s T H (λv H'=>v=.ref a/\H'=H) I {_,h1,rfl,rfl}) λu s1 z9=>?_);let{v,H1,I1,r1,ev,eH}:=z9;subst ev eH;obtain rfl:u=aDF a:=r1;show PySem.W.callWith_F {oc,od,fd,j,(I1.hok a _ hf).1} (G4 (ha g Y s1 T H1 _ I1 {H9,O0,O,t,E,NR.seq q}) λus s2 ⟨vs,H2,l,rv,C,e2,J,rr,b⟩=>{{oc,od,fd,j,(l.hok a _<|J _ _ hf).1},?_}) he G9;cases o:m C with
    |ex z=>rw[o]at b;show(b H2<|Same.refl _).elim
    |bad=>rw[o]at b;show b.elim
    |ok d=>
     rw[o]at b;have L:=E.grow J;show wpAny_call (aDX ((U H2 O<|Kp.of J).2 X.A X.stack s2 us vs C d Q (λ_ _ _=>False) hr l.af4 rv rr (hl t C e2) L.trk L.tab (pH l O L.trk) o b) λr s' h=>?_);cases r with
     |error e=>show h.elim
     |ok fl=>
      cases fl with
      |ret u=>show l.after h
      |next=>show aAy h
      |brk=>show aAy h
      |cont=>show aAy h
   show q.elim
  |_=>show q.elim
end
def spF(K:gy)(Φ:(List D->R D)->Hp->(a5->Prop)->a5->Prop)(M:D->(List D->R D)->(List D->R D)->R D):Sp:=λl H Q _=>∃O v1 g h i j k d,l=[v1,.ref h,.ref j]/\Rep K H O v1 g/\(∀b e,Kp H O b e->Φ i b e h)/\(∀b e,Kp H O b e->Φ k b e j)/\
 (∀a,O a->∃o,H a=some o/\Mt o)/\Tb H/\V9 K O/\M g i k=.ok d/\∀v f,Same H f->Rep K f O v d->Q v f
def mK(N:List Str)(Φ:(List D->R D)->Hp->(a5->Prop)->a5->Prop)(d:D)(a b:List D->R D):Ev:=.v d::.c a (Φ a)::.c b (Φ b)::aCU (N.length-3) Sl.no
def FG{K:gy}{H:Hp}{O:a5->Prop}{N:List Str}{v1:V}{f:D}{a1 a2:a5}{g k:List D->R D}{Φ:(List D->R D)->Hp->(a5->Prop)->a5->Prop}(r:Rep K H O v1 f)(l:∀d e,Kp H O d e->Φ g d e a1)(c2:∀d e,Kp H O d e->Φ k d e a2)
  (t:∀a,O a->∃o,H a=some o/\Mt o) (tb:Tb H):EnvOk K H O H O (start N [v1,.ref a1,.ref a2]) (mK N Φ f g k)where
 len:=by simp[L2.start,mK]
 same:=Same.refl H
 sub:=λ_ h=>h
 trk:=t
 trk0:=λa h=>let⟨o,q,_⟩:=t a h;{o,q}
 tab:=tb
 slot:=λi m h=>by
  match i with
  |0=>cases h;show{v1,rfl,r}
  |1=>cases h;show{a1,rfl,l}
  |2=>cases h;show{a2,rfl,c2}
  |i+3=>
   have b:(aCU (N.length-3) Sl.no)[i]?=some m:=h;rw[aBO]at b;split at b
   .cases b;trivial
   cases b
 inj:=λi j x y a h _ o=>by
  match i with
  |0=>cases h;show o.elim
  |1=>cases h;show o.elim
  |2=>cases h;show o.elim
  |i+3=>
   have b:(aCU (N.length-3) Sl.no)[i]?=some x:=h;rw[aBO]at b;split at b
   .cases b;show o.elim
   cases b
section
variable{K:gy}
def fnF{x qual:Str}{st:br}{f:a5}{j:cy}{N ps:List Str}{k:Nat}{M:D->(List D->R D)->(List D->R D)->R D}{Φ:(List D->R D)->Hp->(a5->Prop)->a5->Prop}{F:Ev->R Out}(n:Fun K x qual st f j)(S:FnScope N ps (b9 st))(p:ps.length=3)
  (t:∀(L:af) (A:be) (outer:List Env) (s:ai) (H:Hp) (E:XK),Room k (A.deeper (envOfC qual (b9 st) s.heap.objs.size f L))->aK (MI P w K mg base N qual (b9 st) f L A outer s H E) (k7 st) F)
  (u:∀b g i d,M b g i=.ok d->J0 (F (mK N Φ b g i))=.ok d):FnOk P w K mg base uB (k+1) f j ps (spF K Φ M):=by
 show n.ok S (λv H Q E z=>by let{O,v1,b,y,g,B,i,d,e,_}:=z;rw[e,p];rfl) (λL A outer s H v Q E C z=>?_);let{O,v1,b,y,g,B,i,d,I,r,J,T,U,Y,fk,e,q}:=z;subst I;show{_,t L A outer s H E C H O,O,_,FG r J T U Y,fk,?_};have h:=u b g i d e;cases l:F (mK N Φ b g i)with
 |ok o=>
  rw[l]at h;cases o with
  |rt d'=>have a:R.ok d'=R.ok d:=h;injection a with a;subst a;show q
  |nx m=>have a:R.ok D.non=R.ok d:=h;injection a with a;subst a;showλau H' O' E' _ _=>q .non H' E'.same .non
  |bk m=>cases h
  |ct m=>cases h
 |ex x=>nofun
 |bad=>rw[l]at h;cases h
end
structure NScope(ps ls fn:List Str)(sc:Scope):Prop where
 kind:sc.kind=.function
 co:sc.isCoroutine=false
 gen:sc.isGenerator=false
 nd:(ps++(ls++fn)).Nodup
 par:∀x∈ps,sc.names.lookup x=some .local
 fre:∀x∈fn,sc.names.lookup x=some .free
 all:∀x,sc.names.lookup x=some .free->x∈fn
 apart:∀y∈sc.names,y.2=.free->(y.1,aBo)∉sc.names
abbrev cxM(P:bb)(w:bo)(K:gy)(mg:dJ)(base:bt)(N:List Str)(env:Env)(A:be)(outer:List Env)(s:ai)(H:Hp):Cx where
 prog:=P
 w:=w
 K:=K
 mg:=mg
 base:=base
 A:=A.deeper env
 N:=N
 s9:=s
 H9:=H
 env:=env
 outer:=outer
 stack:=env::outer
 ex:=[]
 calm:=true
 fn:=λy=>env.scope.names.lookup y==some .cell
 pn:=[]
 xe:=λ_ _=>False
def L0{a:Type}(vs:List a)(n:Nat)(no:a)(ws:List a):List a:=vs++(aCU n no++ws)
def jN{b:Type}{vs ws:List b}{n i:Nat}{no a:b}(h:(L0 vs n no ws)[i]?=some a):vs[i]?=some a\/a=no\/(vs.length+n<=i/\ws[i-(vs.length+n)]?=some a):=by
 unfold L0 at h;by_cases d:i<vs.length
 .rw[aBe d]at h;show .inl h
 rw[aAG (by nofun)]at h;by_cases e:i-vs.length<n
 .rw[aBe (by nofun),aBO,gi e]at h
  nofun
 rw[aAG (by nofun),aCu]at h;grind
def QH{b:Type}{vs ws:List b}{n i:Nat}{no a:b}(h:vs[i]?=some a):(L0 vs n no ws)[i]?=some a:=by unfold L0;rw[aBe (aAB.mp h).1];show h
def UC{b:Type}{vs ws:List b}{n i:Nat}{no a:b}(h:ws[i]?=some a):(L0 vs n no ws)[vs.length+n+i]?=some a:=by unfold L0;rw[aAG (by lia),aAG (by simp;lia),aCu,show vs.length+n+i-vs.length-n=i by lia];show h
section
variable{K:gy}
def GW{A:be}{outer:List Env}{s:ai}{H:Hp}{us:List af}{vs I:List V}{h₁:bt}{tk:Nat}(S:NScope ps J fn f)(T:A.handled=none)(t:Env0 P w K mg base A outer s H)(U:vs.length=ps.length)(r:l7 vs us)(ue:I.length=fn.length)
  (yv:∀(i:Nat) (x:Str) (v:V),fn[i]?=some x->I[i]?=some v->∃c u,clos.lookup x=some c/\RelV v u/\s.heap.IsCell c (some u)) (B:∀x c,clos.lookup x=some c->(∃v,s.heap.IsCell c v)/\H c=none)
  (ql:∀x y c,clos.lookup x=some c->clos.lookup y=some c->x=y) (uu:h₁.Ns s.heap.objs.size (λx=>(ps.zip us).reverse.lookup x)) (xh:Heap.SameBut s.heap.objs.size (fb (s.heap.push {cls:=.type "frame",data:=.dict #[]}) f.names) h₁):
  Inv (cxM P w K mg base (ps++(J++fn)) (PySem.W.envX qual f s.heap.objs.size fa cd (bc (s.heap.objs.size+1) f.names clos)) A outer s H) [] (L0 (vs.map some) J.length none (I.map some)) H {s with heap:=h₁,toks:=tk}:=by
 have O:∀b o,s.heap.get? b=some o->h₁.get? b=some o:=λb o e=>xh.extBut b o (aAm<|aAg e) (aDd _ _ b o<|aAc _ e);have ok:=a1t s f.names;have L:∀x c,clos.lookup x=some c->c<s.heap.objs.size:=λx c h=>by let{{v,z},_}:=B x c h;show z.lt
 have k:∀{x:Str}{c:a5},(bc (s.heap.objs.size+1) f.names clos).lookup x=some c->((x,c)∈bc (s.heap.objs.size+1) f.names []/\s.heap.objs.size+1<=c)\/((x,aBo)∉f.names/\clos.lookup x=some c):=λ{x c} h=>by
  rw[W5]at h;rcases GO h with h|⟨z,h⟩
  .have m:=PySem.mem_of_lookup h;show .inl {m,(ok.empty _ _ m).2}
  show .inr {λq=>?_,h};let{d,T}:=uT (n:=s.heap.objs.size+1) q;let{d',qh}:=sG T;rw[qh]at z;cases z
 have N:∀{x:Str}{c:a5},f.names.lookup x=some .free->clos.lookup x=some c->(bc (s.heap.objs.size+1) f.names clos).lookup x=some c:=λ{x c} Y h=>by
  rw[W5,List.lookup_append];cases e:(bc (s.heap.objs.size+1) f.names []).lookup x with
  |none=>show h
  |some d=>show gs (FX<|PySem.mem_of_lookup e) (S.apart _ (PySem.mem_of_lookup Y) rfl)
 have C:∀b:a5,b∉(cxM P w K mg base (ps++(J++fn)) (PySem.W.envX qual f s.heap.objs.size fa cd<|bc (s.heap.objs.size+1) f.names clos) A outer s H).ex:=λb z=>gs (z) (by simp);show⟨{t.mod,S.kind,rfl,rfl,aAi _,λx y c Q j=>?_,λy j=>?_,λy c Y j=>?_,λ_=>T,aFX t.frames,.inr {rfl,rfl},λb z=>gs z (C b),t.bs,t.bsz,λb _ _=>C b,λb z=>gs z (C b),t.funs,t.frf},
  rfl,t.bare,Un.kept O,{_,uu,λi y v h1 g h3=>?_},λy c h=>?_,t.hok.fresh (aAi _),λy c h=>(k h).elim (λz=>t.hok.fresh (by have:=z.2;lia)) λz=>(B y c z.2).2,λp hp=>gs (hp) (by simp),t.hok.kept O,?_⟩
 .rcases k Q with⟨mx,lx⟩|⟨_,Q⟩<;>rcases k j with⟨my,ly⟩|⟨_,j⟩
  .show PySem.name_of_addr ok.apart mx my
  .have:=L y c j;lia
  .have:=L x c Q;lia
  show ql x y c Q j
 .have j:=j;rcases j with j|j
  .let{c,hc}:=uT (n:=s.heap.objs.size+1) (PySem.mem_of_lookup j);show∃c,(bc (s.heap.objs.size+1) f.names clos).lookup y=some c;rw[W5];show sG (aAW _ hc)
  have hm:=S.all y j;let{i,hi,e}:=aBq hm;have hw:i<I.length:=by rw[ue];show hi
  let{c,u,q,_}:=yv i y I[i] (by nofun) (aAk hw);show{c,N j q}
 .rcases k j with⟨_,ly⟩|⟨q,_⟩
  .change s.heap.objs.size<=c;lia
  show gs (PySem.mem_of_lookup<|beq_iff_eq.mp Y) q
 .have E:=h1;rcases jN g with g|g|⟨h4,g⟩
  .rw[aAP]at g;cases e:vs[i]? with
   |none=>rw[e]at g;cases g
   |some a=>
    rw[e]at g;have ea:a=v:=Option.some.inj (Option.some.inj g);subst ea;let{u,hu,rv}:=r.get e;rw[aBe (by grind)]at E;show{u,rv,.inl {S.par y (aAl E),(cB ?_ ?_)}}
    .rw[aFI];show(List.reverse_perm _).nodup_iff.mpr ?_;rw[List.map_fst_zip (U▸r.length▸aAi _)];show((aCH.mp S.nd).1)
    rw[aBt];show aAl (i:=i) (by rw[aBr];show{E,hu})
  .cases g
  rw[aAf]at h4 g;rw[aAP]at g;cases e:I[i-(vs.length+J.length)]? with
  |none=>rw[e]at g;cases g
  |some a=>rw[e]at g;have ea:a=v:=Option.some.inj (Option.some.inj g);subst ea;rw[aAG (by lia),aAG (by lia),<-U,show i-vs.length-J.length=i-(vs.length+J.length)by lia]at E;let{c,u,q1,q2,q3}:=yv _ y a E e;show{u,q2,.inr {.inr (S.fre y<|aAl E),c,N (S.fre y<|aAl E) q1,q3.keeps O}}
 .rcases k h with⟨m,l⟩|⟨_,h⟩
  .show{none,(ok.empty _ _ m).1.sameBut xh (by lia)}
  let{{v,z},_}:=B y c h;show{v,z.keeps O}
 unfold L0;simp[U,ue]
def GL{H:Hp}{O:a5->Prop}{vs b:List V}{ds wd:List D}{n:Nat}(r:Reps K H O vs ds)(k:Reps K H O b wd)(t:∀a,O a->∃o,H a=some o/\Mt o)(tb:Tb H):
  EnvOk K H O H O (L0 (vs.map some) n none (b.map some)) (L0 (ds.map Sl.v) n .no (wd.map Sl.v))where
 len:=by unfold L0;simp[r.length,k.length]
 same:=Same.refl H
 sub:=λ_ h=>h
 trk:=t
 trk0:=λa h=>let⟨o,q,_⟩:=t a h;{o,q}
 tab:=tb
 slot:=λi l h=>by
  rcases jN h with h|h|⟨p,h⟩
  .rw[aAP]at h;cases e:ds[i]? with
   |none=>rw[e]at h;cases h
   |some d=>rw[e]at h;have f:Sl.v d=l:=Option.some.inj h;subst f;let{v,m,g}:=r.get e;show{v,QH (by nofun),g}
  .subst h;trivial
  rw[aAP,aAf]at h;rw[aAf]at p;cases e:wd[i-(ds.length+n)]? with
  |none=>rw[e]at h;cases h
  |some d=>rw[e]at h;have f:Sl.v d=l:=Option.some.inj h;subst f;let{v,m,g}:=k.get e;show{v,?_,g};have:=UC (vs:=vs.map some) (n:=n) (no:=(none:Option V)) (ws:=b.map some) (by rw[aAP,m];rfl);rw[aAf,r.length,show ds.length+n+(i-(ds.length+n))=i by nofun]at this;show this
 inj:=λi j x y a h _ o=>by
  rcases jN h with h|h|⟨_,h⟩
  .let{d,_,rfl}:=aAh.mp (aAl h);show o.elim
  .subst h;show o.elim
  let{d,_,rfl}:=aAh.mp (aAl h);show o.elim
def a4b{name:Str}{L:Arguments}{body:List br}{doc pm ctv:af}{T:a5}{oc:Obj}{k:Nat}{m:List D->R D}{F:Ev->R Out}{H:Hp}{O:a5->Prop}{j:R7}{wv:List V}{wd:List D}(S:NScope ps ls fn f)(one:ps.length=1)
  (hb:∀(A:be) (outer:List Env) (s:ai) (H:Hp),Room k (A.deeper (PySem.W.envX qual f s.heap.objs.size fa (.ref T) (bc (s.heap.objs.size+1) f.names clos)))->aK (cxM P w K mg base (ps++(ls++fn)) (PySem.W.envX qual f s.heap.objs.size fa (.ref T) (bc (s.heap.objs.size+1) f.names clos)) A outer s H) body F)
  (hm:∀ds d,ds.length=ps.length->m ds=.ok d->J0 (F (L0 (ds.map Sl.v) ls.length .no (wd.map Sl.v)))=.ok d)
  (qe:∀(s:ai) (us:List af),us.length=ps.length->BindsTo s (PySem.W.fnX name qual L body f clos .none .none doc pm none (.ref T) ctv) {us,[]} (ps.zip us))
  (hfa:H fa=some (.frz (PySem.W.fnMade name qual L body f clos doc pm T ctv) (.own fa))) (hc:H T=some (.frz oc (.own T))) (dc:∃vs t,oc.data=.fields vs/\vs[1]?=some (.str qual t))
  (wc:∀b o,j.lookup b=some o->H b=some (.frz o (.own b))/\xR o) (yv:∀(i:Nat) (x:Str) (v:V),fn[i]?=some x->wv[i]?=some v->∃c u o,clos.lookup x=some c/\j.lookup c=some o/\o.data=.cell (some u)/\RelV v u)
  (hcc:∀x c,clos.lookup x=some c->∃o,j.lookup c=some o) (ql:∀x y c,clos.lookup x=some c->clos.lookup y=some c->x=y) (ue:wv.length=fn.length) (hr:Reps K H O wv wd) (hO:∀a,O a->∃o,H a=some o/\Mt o):
  ∀B Y,Kp H O B Y->PN P w K mg base (k+1) ps.length m B Y fa:=by
 intro B Y kp;have fz:∀b o u,H b=some (.frz o u)->B b=some (.frz o u):=λb o u e=>(kp b _ e λz=>by let{o',q,mt}:=hO b z;rw[e]at q;cases q;show mt).1;have g:∀b o,j.lookup b=some o->B b=some (.frz o (.own b)):=λb o q=>fz _ _ _ (wc b o q).1;show{{_,_,_,_,fz _ _ _ hfa},λA outer s us vs ds d Q E kh l rv rr hl ht tb fk em q=>?_};have KX:K.In s.heap:=l.mod.kin.keeps λb o e=>(l.bs b o e).1;have goc:=(l.hok T _<|fz _ _ _ hc).1;let{ovs,ot,od1,od2}:=dc;have U:∀b,B b=none->V4 B j b=none:=λb n=>by
  cases z:j.lookup b with
  |none=>rw[Q1 z];show n
  |some o=>show dE z
 have e1:Env0 P w K mg base A outer s (V4 B j):={l.frames,l.mod,λb o e=>{(l.bs b o e).1,U b (l.bs b o e).2},l.bsz,l.funs,λb hb=>U b (l.frf b hb),QZ l.hok λb o z=>{g b o z,(wc b o z).2},l.bare};have N:∀b o,j.lookup b=some o->s.heap.get? b=some o:=λb o z=>(l.hok b _<|g b o z).1;have cfs:∀b o,j.lookup b=some o->b∉CU outer:=λb o z hb=>by have:=l.frf b hb;rw[g b o z]at this;cases this
 have hul:us.length=ps.length:=by rw[<-rv.length,rr.length];show hl
 have hvl:vs.length=ps.length:=by rw[rr.length];show hl
 have rwv:=(kp.ab8 hO fk hr).hid g;have ht1:∀a,Y a->∃o,V4 B j a=some o/\Mt o:=λa z=>by let{o,q1,q2}:=ht a z;show{o,y6 g q1 λo' _ z'=>by subst z';show q2,q2}
 let Q':VK:=λv H3=>(∀b o,j.lookup b=some o->H3 b=none)->Q v (iF H3 j)
 have qq:∀v C,Same (V4 B j) C->Rep K C Y v d->Q' v C:=λv C sm r hn=>by
  show q v _ (λb u e=>?_) (r.same<|gU hn);cases z:j.lookup b with
  |none=>show G2 hn (sm b u (by rw[Q1 z];show e))
  |some o=>rw[g b o z]at e;cases e;show gQ z
 have fin:∀{u:af}{s':ai},CE outer P w (V4 B j) s Q' u s'->CE outer P w B s Q u s':=λ{u s'} ⟨v,H3,os,bare,un,hok,r,qv⟩=>by let{U2,k2,yr}:=a2v un hok λb o z=>{N b o z,g b o z,cfs b o z};show{v,_,os,bare,U2,k2,r,qv λb o z=>un.free b o (N b o z) (dE z) (by simp)}
 let{p,rfl}:=aAZ.mp one;let{u,rfl}:=aAZ.mp hul;show WG (body:=body) kh.depth ((l.hok fa _<|fz _ _ _ hfa).1) rfl (l.mod.nolimit.keeps λb o e=>(l.bs b o e).1) {T,oc,ovs,ot,rfl,goc,od1,od2} rfl (qe s [u] hul) (S.par p<|.head _) S.co S.gen S.kind (λh₁ tk uu xh env he=>?_);subst he;have ef:(λx=>if x=p then some u else none)=λx=>([p].zip [u]).reverse.lookup x:=by
  funext x
  change _=List.lookup x [(p,u)];rw[aBh];by_cases z:x=p
  .simp[z]
  rw[gk z,show(x==p)=false from beq_false_of_ne z];rfl
 rw[ef]at uu;have I:=GW (qual:=qual) (fa:=fa) (cd:=.ref T) (clos:=clos) (tk:=tk) S kh.hd e1 hvl rv ue (λi x v h1 h2=>by
   let{c,u,o,q1,q2,q3,q4}:=yv i x v h1 h2;show{c,u,q1,q4,o,N c o q2,q3}) (λx c h=>by
   let{o,z}:=hcc x c h;let{v,z2}:=(wc c o z).2;show{{v,o,N c o z,z2},dE z}) ql uu xh
 have hx:=hb A outer s (V4 B j) (kh.deeper _) (V4 B j) Y [] _ _ _ {nx:=λ_ C=>Q' .non C,rt:=Q'} I {Y,_,GL (rr.hid g) rwv ht1 (λp hp=>y6 g (tb p hp) λo _ z=>by cases z),fk,?_}
 .show aCJ hx (λfl s' hs=>?_) λe s' hs=>hs.elim;have fin2:∀{au:St}{C:Hp}{v:V}{u:af},Inv (cxM P w K mg base ([p]++(ls++fn)) (PySem.W.envX qual f s.heap.objs.size fa (.ref T)<|bc (s.heap.objs.size+1) f.names clos) A outer s<|V4 B j) [] au C s'->RelV v u->Q' v C->CE outer P w B s Q u s':=
   λ{au C v u} J rv q=>fin {v,C,J.os,J.bare,J.base,J.hok,rv,q}
  cases fl with
  |ret u=>let{v,au,C,J,rv,q}:=hs;show fin2 J rv q
  |next=>let{au,C,J,q}:=hs;show fin2 (v:=V.non) (u:=Value.none) J rfl q
  |brk=>let{_,_,_,q}:=hs;show aAy q
  |cont=>let{_,_,_,q}:=hs;show aAy q
 have h:=hm ds d hl em;cases e1:F (L0 (ds.map Sl.v) ls.length .no (wd.map Sl.v))with
 |ok o=>
  rw[e1]at h;cases o with
  |rt d'=>have h':R.ok d'=R.ok d:=h;injection h' with h';subst h';show qq
  |nx ρ=>have h':R.ok D.non=R.ok d:=h;injection h' with h';subst h';showλau C O' E' _ _=>qq .non C E'.same .non
  |bk ρ=>cases h
  |ct ρ=>cases h
 |ex x=>rw[e1]at h;cases h
 |bad=>rw[e1]at h;cases h
end
end
section
variable [Tabs]
def iU(mg:dJ)(base:bt):Prop:=∃b a,mg "__builtins__"=some (.ref b)/\b≠builtinsNs/\base.get? b=some a/\a.cls=.type "module"/\a.dict=some builtinsNs/\a.data=.plain
def xA:∀(l:List af),TriplesOk l->dV d l=some x->dV d (l++[cz a,cz b,c])=some x:=λl h e=>by
 fun_induction TriplesOk l with
 |case1=>simp[dV]at e
 |case2 i t j u y rest g=>
  erw[aBj,dV]at e⊢;split at e
  .rename_i f;rw[gi f];show e
  rename_i f;rw[gk f];show g h e
 |case3 l k m=>show h.elim
def SR(ne:¬(a=d.line/\b=d.col)):∀(l:List af),TriplesOk l->dV d l=none->dV d (l++[cz a,cz b,c])=none:=λl h e=>by
 fun_induction TriplesOk l with
 |case1=>erw[aCf,cz,dV];rw[gk];erw[aAN,beq_iff_eq];show ne
 |case2 i t j u y rest f=>
  erw[aBj,dV]at e⊢;split at e
  .cases e
  rename_i g;rw[gk g];show f h e
 |case3 l k m=>show h.elim
def jV(H:Hp)(fa:a5)(name qual:Str)(a:Arguments)(body:List br)(b:eO)(clos:List (Str×a5)):Prop:=
 ∃d g e i f,H fa=some (.frz (PySem.W.fnMade name qual a body b clos e i d f) (.own fa))/\H d=some (.frz g (.own d))/\∃h t,g.data=.fields h/\h[1]?=some (.str qual t)
def jV.same(h:jV H fa name qual a body b clos)(s:Same H H'):jV H' fa name qual a body b clos:=by let{f,g,d,i,e,j,k,l}:=h;show{f,g,d,i,e,s _ _ j,s _ _ k,l}
section
def DX{Q:Flow->ai->Prop}(I:Inv X Y σ H s)(hB:iU X.mg X.base)(kl:X.env.code=.ref c)(hK:PySem.W.codeHdIn X.K c Pt=true)(hT:H Pt=some (.tbl tb))(hq:qualnameIn X.env name name=qual)(hm:(f,qual)∈tb)(hu:∀p∈tb,p.1.line=f.line->p.1.col=f.col->p.2=qual)(yv:closureFor d X.env=pure clos)(hd0:a.defaults=[])(hk0:a.kw_defaults=[])(ha:annTrees a none X.env=[])(hN:X.N.Nodup)(hi:X.N[i]?=some name)(hx:Loc X.env.scope name)(hf:X.fn name=true\/X.env.scope.names.lookup name=some .local)(h:∀fa H' s',Inv X Y (σ.set i (some (.ref fa))) H' s'->Same H H'->jV H' fa name qual a body d clos->Q .next s'):a9 (ba X.prog X.w) X.A (exec (.FunctionDef name a body [] none [] d none name f) X.env) Q X.xe s:=by
 show PySem.W.nestDef_K hd0 hk0 ha ?_;rw[hq];have hg:=I.mod.glob.keeps I.bk;have C:PySem.W.CodeHd s.heap c Pt:=PySem.W.codeHd_of_K I.kIn hK;let{ps,hP,l,B}:=I.hok Pt _ hT;have hgP:bg≠Pt:=λq=>by let{o,es,ep,e,hd,_}:=hg;grind
 have E:s.heap.BuiltinsAt X.mg Pt:=by
  let{bm,ob,b1,b2,b3,b4,b5,b6}:=hB;have b3':=I.bk _ _ b3;show{bm,ob,b1,b2,λq=>?_,λq=>?_,b3',b4,b5,b6}
  .let{o,es,ep,e,hd,_}:=hg;grind
  grind
 have J:∀b,H b=none->b≠Pt:=λb n z=>by rw[z,hT]at n;cases n
 rcases B _ hm with hnf|⟨k,oc,vs,t,hf',yi,eh⟩
 .show PySem.W.makeFunction_K (mg:=X.mg) yv I.ok.glob hg kl C hP l hnf hgP E λk g j h' tk hx' m av hrec htb=>?_;let{c2,oc,vs,t,e2,dc,hd,hv}:=hrec;cases e2;have old:∀b u,H b=some u->b<s.heap.objs.size:=λb u e=>I.hok.lt e;have x:=I.hok.fresh (aAj m<|aCs av);have ncf:=aAm av;have y:Same H (upd (upd H k<|.frz oc (.own k)) h'.objs.size<|.frz (PySem.W.fnMade name qual a body d clos j ((X.mg "__name__").getD .none) k g) (.own h'.objs.size)):=λb u e=>by rw[j5 (t7 e x),j5 (t7 e<|I.hok.fresh m)];show e
  have qf:∀b o,b≠Pt->s.heap.get? b=some o->(h'.push<|PySem.W.fnMade name qual a body d clos j ((X.mg "__name__").getD .none) k g).get? b=some o:=λb o E e=>aAc _ (hx' b o E e);have lts:∀b o,s.heap.get? b=some o->b≠k/\b≠h'.objs.size:=λb o e=>{aAm (aAn (aAg e) m),aAm (aAn (aAg e)<|aAj m<|aCs av)};have I1:=I.step (H':=upd (upd H k<|.frz oc (.own k)) h'.objs.size (.frz (PySem.W.fnMade name qual a body d clos j ((X.mg "__name__").getD .none) k g) (.own h'.objs.size)))
   (h':=h'.push (PySem.W.fnMade name qual a body d clos j ((X.mg "__name__").getD .none) k g)) (g':=s.gens) (t':=tk) (d':=s.drawn) (ch:=[]) (λ_ z=>nomatch z) (λb o _ _ _ e n=>qf b o (J b n) e) (λb o _ _ _ e n=>{o.slots,qf b o (J b n) e})
   (λb o _ e n=>by rw[j5 (lts b o e).2,j5 (lts b o e).1];show n) (λb o _ e=>by
    by_cases E:b=Pt
    .subst E;show{_,aAc _ htb}
    .show{o,qf b o E e}) (λb xs e=>y _ _ e) (λb o u e=>y _ _ e) (λb tb e=>y _ _ e) (λm' hm'=>by
    let{o,es,ep,e,r}:=hm';show{o,es,ep,qf _ o (J _ I.free) e,r}) (λb u e=>by
    by_cases hbf:b=h'.objs.size
    .subst hbf;rw[i9]at e;cases e;show{aAo _ rfl,_,aAo _ rfl}
    rw[j5 hbf]at e;by_cases hbc:b=k
    .subst hbc;rw[i9]at e;cases e;show{aAc _ dc,_,aAc _ dc}
    rw[j5 hbc]at e;by_cases hbP:b=Pt
    .subst hbP;rw[hT]at e;cases e;show{_,aAc _ htb,?_,λp hp=>?_}
     .rw[aGm];show TriplesOk_snoc _ _ _ _ l
     rw[aGm];change dV p.1 (ps.toList++[cz f.line,cz f.col,.ref k])=none\/_;by_cases L:(f.line:Int)=p.1.line/\(f.col:Int)=p.1.col
     .rcases B p hp with O|⟨c3,T,U,t3,O,h1,h2⟩
      .have e1:f.line=p.1.line:=by exact_mod_cast L.1
       have e2:f.col=p.1.col:=by exact_mod_cast L.2
       show .inr {k,oc,vs,t,?_,by rw[j5 ncf,i9],hd,?_}
       .rw[e1,e2];show codeAmong_snoc _ l O
       grind
      show .inr {c3,T,U,t3,xA _ l O,y _ _ h1,h2}
     rcases B p hp with O|⟨c3,T,U,t3,O,h1,h2⟩
     .show .inl (SR L _ l O)
     show .inr {c3,T,U,t3,xA _ l O,y _ _ h1,h2}
    show(I.hok b u e).ab9 (λb2 v hc q=>qf b2 v (λz=>?_) q) (λb2 z=>y _ _ z) λb2 u _ z=>y _ _ z;rcases hc with hc|hc
    .show hbP (hc▸z)
    rw[z,hT]at hc;cases hc) I.bare
  show F8 I1 hN hi hx (show RelV (.ref h'.objs.size) _ from rfl) (λs' I'=>h _ _ s' I' y {k,oc,j,_,g,i9,by rw[j5 ncf,i9],vs,t,hd,hv}) hf
 show PySem.W.makeFunction_hit (mg:=X.mg) yv I.ok.glob hg kl C hP l hf' E λg j h' tk hk hsz=>?_;have x:=I.hok.fresh hsz;have I1:=I.laid (o:=.frz (PySem.W.fnMade name qual a body d clos j ((X.mg "__name__").getD .none) k g) (.own h'.objs.size)) (h':=h'.push (PySem.W.fnMade name qual a body d clos j ((X.mg "__name__").getD .none) k g)) (t':=tk)
  (λb u e=>aAc _ (hk b u e)) hsz {aAo _ rfl,_,aAo _ rfl}
 show F8 I1 hN hi hx (show RelV (.ref h'.objs.size) _ from rfl) (λs' I'=>h _ _ s' I' (j1 x _) {k,oc,j,_,g,i9,j1 x _ _ _ yi,vs,t,eh}) hf
end
structure Nst where
 name:Str
 qual:Str
 params:Arguments
 body:List Stmt
 scope:Scope
 pos:Pos
 ps:List Str
 ls:List Str
 fn:List Str
 js:List Nat
 F:Ev->R Out
 mm:List D->List D->R D
 i:Nat
abbrev Nst.stmt(n:Nst):br:=.FunctionDef n.name n.params n.body [] none [] n.scope none n.name n.pos
structure NstOk(X:Cx)(k:Nat)(n:Nst):Prop where
 sc:NScope n.ps n.ls n.fn n.scope
 one:n.ps.length=1
 body:∀(fa:Addr) (cd:Value) (clos:List (Str×Addr)) (A:Around) (outer:List Env) (s:Shared) (H:Hp),Room k (A.deeper (PySem.W.envX n.qual n.scope s.heap.objs.size fa cd clos))->aK (cxM X.prog X.w X.K X.mg X.base (n.ps++(n.ls++n.fn)) (PySem.W.envX n.qual n.scope s.heap.objs.size fa cd clos) A outer s H) n.body n.F
 mm:∀wd ds d,wd.length=n.fn.length->ds.length=n.ps.length->n.mm wd ds=.ok d->J0 (n.F (L0 (ds.map Sl.v) n.ls.length .no (wd.map Sl.v)))=.ok d
 bind:∀(clos:List (Str×Addr)) (doc pm cd ctv:Value) (us:List Value),us.length=n.ps.length->bindArgs (PySem.W.fnX n.name n.qual n.params n.body n.scope clos .none .none doc pm none cd ctv) {us,[]}=pure (n.ps.zip us)
 len:n.js.length=n.fn.length
 at_:∀(i j:Nat) (x:Str),n.js[i]?=some j->n.fn[i]?=some x->X.N[j]?=some x/\X.env.scope.names.lookup x=some .cell
 d0:n.params.defaults=[]
 k0:n.params.kw_defaults=[]
 nm:X.N[n.i]?=some n.name
 lc:Loc X.env.scope n.name
 st:X.fn n.name=true\/X.env.scope.names.lookup n.name=some .local
 dbg:(n.name==gA)=false
 cdt:(n.name==gB)=false
structure ClosOk(X:Cx)(n:Nst)(clos:List (Str×Addr)):Prop where
 eq:closureFor n.scope X.env=pure clos
 ann:annTrees n.params none X.env=[]
 qn:qualnameIn X.env n.name n.name=n.qual
 sub:∀x c,clos.lookup x=some c->X.env.cells.lookup x=some c
 has:∀x∈n.fn,∃c,clos.lookup x=some c
def fT:List Nat->Ev->R (List D)
 |[],_=>.ok []
 |j::b,a=>(G6 j a).bind λd=>(fT b a).bind λe=>.ok (d::e)
theorem WW{K:gy}{k H:Hp}{l O:a5->Prop}{f:St}{ρ:Ev}(E:EnvOk K k l H O f ρ):∀{js:List Nat}{wd:List D},fT js ρ=.ok wd->∃a,Reps K H O a wd/\a.length=js.length/\∀(i j:Nat) (v:V),js[i]?=some j->a[i]?=some v->f[j]?=some (some v):=by
 intro m wd h;cases m with
 |nil=>cases h;show{[],.nil,rfl,λi j v e=>by simp at e}
 |cons j js=>
  unfold fT at h;cases g:G6 j ρ with
  |ok d=>
   rw[g,R.aa0]at h;cases b:fT js ρ with
   |ok s=>
    rw[b,R.aa0]at h;cases h;let{a,r,n,at_}:=WW E b;have:ρ[j]?=some (.v d):=by
     unfold G6 at g
     lia
    let{v,t,o}:=E.val j d this;show{v::a,.cons o r,by simp[n],λi p q u w=>?_};cases i with
    |zero=>nofun
    |succ i=>show at_ i p q (by nofun) (by nofun)
   |ex z=>rw[b]at h;cases h
   |bad=>rw[b]at h;cases h
  |ex z=>nofun
  |bad=>nofun
section
def Z4(h:bt)(a:List (Str×a5)):List (a5×Obj):=a.filterMap λp=>(h.get? p.2).map λo=>(p.2,o)
def N7(e:(Z4 h a).lookup b=some o):h.get? b=some o/\∃x,(x,b)∈a:=by
 let{p,d,q}:=aCb.mp (mem_lookup e);cases z:h.get? p.2 with
 |none=>nofun
 |some f=>grind
def oC(f:(x,b)∈a)(e:h.get? b=some o):∃d,(Z4 h a).lookup b=some d:=by
 have:(b,o)∈Z4 h a:=aCb.mpr {(x,b),f,by change(h.get? b).map _=_;rw[e];rfl};cases q:(Z4 h a).lookup b with
 |some d=>show{d,rfl}
 |none=>have:=aFD.mp q (b,o) this;simp at this
def a5p(X:Cx)(n1 n2:Nst)(clos1 clos2:List (Str×a5))(f:Ev->R D)(M:D->(List D->R D)->(List D->R D)->R D):TE:=λe H Q=>∃g h O d a b,EnvOk X.K g h H O e d/\e[n1.i]?=some (some<|V.ref a)/\e[n2.i]?=some (some<|V.ref b)/\
 jV H a n1.name n1.qual n1.params n1.body n1.scope clos1/\jV H b n2.name n2.qual n2.params n2.body n2.scope clos2/\RC X H O ((f d).bind λj=>(fT n1.js d).bind λk=>(fT n2.js d).bind λl=>M j (n1.mm k) (n2.mm l)) Q
def CL{n:Nst}{clos a:List (Str×a5)}{k:Nat}{Y:R7}{σ:St}{H:Hp}{s:ai}{H9:Hp}{O0 O:a5->Prop}{ρ:Ev}{fa:a5}{wd:List D}(ok:NstOk X k n)(f:ClosOk X n clos)(I:Inv X Y σ H s)(E:EnvOk X.K H9 O0 H O σ ρ)
  (hA:∀p∈clos,p∈a) (g:∀x b,(x,b)∈a->X.env.cells.lookup x=some b) (h:jV H fa n.name n.qual n.params n.body n.scope clos) (hw:fT n.js ρ=.ok wd):
  ∀j l,Kp (iF H (Z4 s.heap a)) O j l->PN X.prog X.w X.K X.mg X.base (k+1) 1 (n.mm wd) j l fa:=by
 let{c',oc,J,pm,L,h1,h2,h3}:=h;let{wv,qm,hl,at_}:=WW E hw;have hn:∀b o,(Z4 s.heap a).lookup b=some o->H b=none:=λb o q=>by let{_,x,N}:=N7 q;show I.freeC x b (g x b N)
 have C:=gU hn
 suffices r:∀j l,Kp (iF H<|Z4 s.heap a) O j l->PN X.prog X.w X.K X.mg X.base (k+1) n.ps.length (n.mm wd) j l fa by rw[ok.one]at r;show r
 show a4b (wd:=wd) ok.sc ok.one (λA outer s H hr=>ok.body fa (.ref c') _ A outer s H hr) (λds d Q e=>ok.mm wd ds d (by rw[<-qm.length,hl,ok.len]) Q e) (λs us Q=>.of_eq (ok.bind clos J pm (.ref c') L us Q)) (C _ _ h1) (C _ _ h2) h3
  (λb o q=>{gQ q,?_}) (λi x v t T=>?_) (λx c q=>?_) (λx y c t T=>I.ok.inj x y c (f.sub x c t) (f.sub y c T)) (by rw[hl,ok.len]) (qm.same C) (E.grow C).trk
 .let{e1,x,N}:=N7 q;let{v,o',e2,e3}:=I.cell x b (g x b N);rw[e1]at e2;cases e2;show{v,e3}
 .have hi:i<n.js.length:=by rw[ok.len];show(aAB.mp t).1
  have ej:=aAk hi;let{hN,hk}:=ok.at_ i _ x ej t;let{m,uu,z}:=I.loc;let{u,ru,B}:=z _ x v hN (at_ i _ v ej T) (.inr (.inl hk));rcases B with⟨jo,_⟩|⟨_,c,jf,o,U,hd⟩
  .have hk'':X.env.scope.names.lookup x=some .local:=jo
   nofun
  let{c2,q3}:=f.has x (aAl t);have q4:=f.sub x c2 q3;rw[jf]at q4;cases q4;let{o',q5}:=oC (hA _<|PySem.mem_of_lookup q3) U;have:=(N7 q5).1
  nofun
 let{v,o,U,_}:=I.cell x c (f.sub x c q);show oC (hA _<|PySem.mem_of_lookup q) U
def lz(oh:NstOk X k n1)(oi:NstOk X k n2)(zc:ClosOk X n1 clos1)(ju:ClosOk X n2 clos2)(C:∀x b,(x,b)∈clos1++clos2->X.env.cells.lookup x=some b)(FF:FnOk X.prog X.w X.K X.mg X.base uB kf g gd J (spF X.K (PN X.prog X.w X.K X.mg X.base (k+1) 1) M))(hr:Room kf X.A)(U:X.mg x=some (.ref g))(hk:PySem.W.keepIn X.K (.ref g)=true)(m:Binds X.K gd J [])(h3:J.length=3)(he:PD X e f)(yh:∀y,X.fn y=true)(hg:Gl X x<|>1)(gg:(x==gA)=false<|>2)(zi:ag [e,.Name n1.name p1,.Name n2.name L] X.env=(false,cu e X.env)::ag [.Name n1.name p1,.Name n2.name L] X.env<|>1)(zv:ag [.Name n1.name p1,.Name n2.name L] X.env=(false,cu (.Name n1.name p1) X.env)::ag [.Name n2.name L] X.env<|>1)(hs3:ag [.Name n2.name L] X.env=(false,cu (.Name n2.name L) X.env)::ag [] X.env<|>1)(G9:(cq pos (ag [.Name n1.name p1,.Name n2.name L] X.env)).any (·.1)=false<|>1):
  PE X (.Call (.Name x p) [e,.Name n1.name p1,.Name n2.name L] [] pos) (a5p X n1 n2 clos1 clos2 f M):=by
 rintro Y s σ H Q I ⟨H9,O0,O,ρ,fa1,fa2,E,h1,h2,md1,md2,q⟩;have vis:∀{y:Str},Loc X.env.scope y->CF X.env.scope y:=λh=>h.elim .inl λz=>.inr (.inl z);show aBb (yD I hg U (PySem.W.callWith_K I.ok.mod.kin hk (G4 ((M1 he (M1 (R0 oh.nm (vis oh.lc) oh.dbg oh.cdt) (M1 (R0 oi.nm (vis oi.lc) oi.dbg oi.cdt) dD hs3) zv) zi) pos Y s σ H (λvs n=>∃v1 N w1 w2 d,vs=[v1,.ref fa1,.ref fa2]/\Same H n/\Rep X.K n O v1 N/\fT n1.js ρ=.ok w1/\fT n2.js ρ=.ok w2/\M N (n1.mm w1) (n2.mm w2)=.ok d/\∀v i,Same n i->Rep X.K i O v d->Q v i) I {H9,O0,O,ρ,E,?_}) λus t z9=>?_) zi G9) gg)
 .cases e1:f ρ with
  |ex z=>rw[e1]at q;show q
  |bad=>rw[e1]at q;show q
  |ok N=>
   rw[e1,R.aa0]at q;cases B:fT n1.js ρ with
   |ex z=>rw[B]at q;show(q H<|Same.refl _).elim
   |bad=>rw[B]at q;show q.elim
   |ok w1=>
    rw[B,R.aa0]at q;cases e3:fT n2.js ρ with
    |ex z=>rw[e3]at q;show(q H<|Same.refl _).elim
    |bad=>rw[e3]at q;show q.elim
    |ok w2=>
     rw[e3,R.aa0]at q;cases e4:M N (n1.mm w1) (n2.mm w2)with
     |ex z=>rw[e4]at q;show(q H<|Same.refl _).elim
     |bad=>rw[e4]at q;show q.elim
     |ok d=>rw[e4]at q;showλv1 n t r1=>{_,h1,_,h2,v1,N,w1,w2,d,rfl,t,r1,rfl,rfl,e4,λv i s2 r2=>q v i (t.trans s2) r2}
 let{vs,n,a,r,v1,N,w1,w2,d,ev,sm,r1,c1,c2,em,qq}:=z9;show{a.kIn,?_};subst ev;have E1:=E.grow sm;generalize wc:Z4 t.heap (clos1++clos2)=j;have hn:∀b o,j.lookup b=some o->t.heap.get? b=some o/\n b=none/\xR o:=λb o z=>by rw[<-wc]at z;let{e1,y,U}:=N7 z;let{v,o',B,e3}:=a.cell y b (C y b U);rw[e1]at B;cases B;show{e1,a.freeC y b (C y b U),v,e3}
 have hn0:=λb o z=>(hn b o z).2.1;have T:=gU hn0;have E2:=E1.grow T;have l:=a.af4;have nofr:∀b o,j.lookup b=some o->b∉CU X.stack:=λb o z m=>by
  rw[<-wc]at z;let{_,y,hmy}:=N7 z;rcases aAe.mp (a.ab6 b m)with e|m
  .show a.cne y b (C y b hmy) e
  let{_,o',ho,_}:=a.ok.funs.mem m;show gs (aAn (aAg ho)<|a.ok.cab y b (yh y)<|C y b hmy) (aBx _)
 have nob:∀b o,X.base.get? b=some o->j.lookup b=none:=λb o e=>by
  cases z:j.lookup b with
  |none=>rfl
  |some o'=>rw[<-wc]at z;let{_,y,U}:=N7 z;show gs (aAn (aAg e)<|aAj a.ok.bsz<|a.ok.cab y b (yh y)<|C y b U) (aBx _)
 have B:Env0 X.prog X.w X.K X.mg X.base X.A X.stack t (iF n j):=⟨l.frames,l.mod,λb o e=>{(l.bs b o e).1,by rw[T5 (nob b o e)];show(l.bs b o e).2},l.bsz,l.funs,λb m=>by
  cases z:j.lookup b with
  |none=>rw[T5 z];show l.frf b m
  |some o=>show gs m (nofr b o z),QV l.hok λb o z=>{(hn b o z).1,(hn b o z).2.1},l.bare⟩
 have cl1:=CL oh zc a E1 (λp hp=>aAW _ hp) C (md1.same sm) c1;have cl2:=CL oi ju a E1 (λp hp=>aAu _ hp) C (md2.same sm) c2;rw[wc]at cl1 cl2;have hl:us.length=J.length:=by rw[<-r.length,h3];rfl
 have hbs:=m t us a.kIn (by rw[aBS];show hl);rw[aBS]at hbs;show wpAny_call (aDX (FF.run X.A X.stack t (iF n j) {us,[]} us _ (λv i=>Q v (V4 i j)) (λ_ _ _=>False) hr B hbs r {O,v1,N,fa1,_,fa2,_,d,rfl,r1.same T,cl1,cl2,E2.trk,E2.tab,pH a O E1.trk,em,λv i s2 r2=>?_}) λrr s' hq=>?_)
 .have hz:∀b o,j.lookup b=some o->i b=some (.frz o (.own b)):=λb o z=>s2 _ _ (gQ z);show qq v _ (λb u e=>y6 hz (s2 b u<|T b u e) λo z _=>?_) (r2.hid hz)
  nofun
 cases rr with
 |error e=>show hq.elim
 |ok fl=>
  cases fl with
  |next=>show aAy hq
  |brk=>show aAy hq
  |cont=>show aAy hq
  |ret u=>let{v,i,os,bare,un,hok,rv,qv}:=hq;let{U2,k2,_}:=a2t un hok hn;show a.after {v,_,os,bare,U2,k2,rv,qv}
def NK(a:NstOk X k n1)(h:NstOk X k n2)(u:ClosOk X n1 clos1)(B:ClosOk X n2 clos2)(hA:∀x b,(x,b)∈clos1++clos2->X.env.cells.lookup x=some b)(hB:iU X.mg X.base)(kl:X.env.code=.ref c)(hK:PySem.W.codeHdIn X.K c Pt=true)(m:(Pt,tb)∈Tabs.tbs)(L:(n1.pos,n1.qual)∈tb)(og:(n2.pos,n2.qual)∈tb)(Q:∀p∈tb,p.1.line=n1.pos.line->p.1.col=n1.pos.col->p.2=n1.qual)(T:∀p∈tb,p.1.line=n2.pos.line->p.1.col=n2.pos.col->p.2=n2.qual)(ah:n1.i≠n2.i)(hN:X.N.Nodup)(FF:FnOk X.prog X.w X.K X.mg X.base uB kf g gd n (spF X.K (PN X.prog X.w X.K X.mg X.base (k+1) 1) M))(hr:Room kf X.A)(hm:X.mg x=some (.ref g))(hk:PySem.W.keepIn X.K (.ref g)=true)(hb:Binds X.K gd n [])(h3:n.length=3)(he:PD X e f)(yh:∀y,X.fn y=true)(hg:Gl X x<|>1)(gg:(x==gA)=false<|>2)(zi:ag [e,.Name n1.name o,.Name n2.name j] X.env=(false,cu e X.env)::ag [.Name n1.name o,.Name n2.name j] X.env<|>1)(zv:ag [.Name n1.name o,.Name n2.name j] X.env=(false,cu (.Name n1.name o) X.env)::ag [.Name n2.name j] X.env<|>1)(U:ag [.Name n2.name j] X.env=(false,cu (.Name n2.name j) X.env)::ag [] X.env<|>1)(G9:(cq pos (ag [.Name n1.name o,.Name n2.name j] X.env)).any (·.1)=false<|>1):
  aK X [n1.stmt,n2.stmt,.Return (some (.Call (.Name x p) [e,.Name n1.name o,.Name n2.name j] [] pos)) rpos] (λρ=>((f ((ρ.set n1.i .no).set n2.i .no)).bind λd1=>(fT n1.js ((ρ.set n1.i .no).set n2.i .no)).bind λw1=>(fT n2.js ((ρ.set n1.i .no).set n2.i .no)).bind λw2=>M d1 (n1.mm w1) (n2.mm w2)).bind λd=>.ok (.rt d)):=by
 rintro H9 O0 Y s C H D I ⟨O,ρ,E,fk,q⟩;show aEz (DX I hB kl hK (E.tab _ m) u.qn L Q u.eq a.d0 a.k0 u.ann hN a.nm a.lc a.st λl H1 s1 I1 sm1 md1=>?_);have E1:EnvOk X.K H9 O0 H1 O (C.set n1.i<|some<|.ref l) (ρ.set n1.i .no):=(E.grow sm1).put n1.i (λz=>z) trivial;show aEz (DX I1 hB kl hK (E1.tab _ m) B.qn og T B.eq h.d0 h.k0 B.ann hN h.nm h.lc h.st λt H2 s2 I2 yr md2=>?_);have J:EnvOk X.K H9 O0 H2 O ((C.set n1.i<|some<|.ref l).set n2.i (some<|.ref t)) ((ρ.set n1.i .no).set n2.i .no):=(E1.grow yr).put n2.i (λz=>z) trivial;have l1:n1.i<C.length:=by rw[I.len];show(aAB.mp a.nm).1
 have l2:n2.i<C.length:=by rw[I.len];show(aAB.mp h.nm).1
 show qA (xE<|lz a h u B hA FF hr hm hk hb h3 he yh hg gg zi zv U G9) Y s2 _ H2 D I2 {H9,O0,O,_,l,t,J,?_,?_,md1.same yr,md2,?_}
 .rw[aCC (aCA ah),aBR l1]
 .nofun
 revert q;dsimp only;generalize((f<|(ρ.set n1.i .no).set n2.i .no).bind λd1=>(fT n1.js<|(ρ.set n1.i .no).set n2.i .no).bind λw1=>(fT n2.js<|(ρ.set n1.i .no).set n2.i .no).bind λw2=>M d1 (n1.mm w1) (n2.mm w2))=rr;intro q;cases rr with
 |ok d=>showλv H' s r=>q v H' (J.same.trans s) (r.sub J.sub)
 |ex z=>showλH' s=>q H' (J.same.trans s)
 |bad=>show q
end
def zO(K:gy):Sp:=λd H Q _=>∃(a:a5) (b:List Int),d=[.ref a]/\M4 K H a (b.map V.int)/\b.length<=63/\(∀x∈b,aBg x<=1048576)/\Tb H/\∀e,Q (.bl true) e
def YY{P:bb}{w:bo}{K:gy}{mg:dJ}{base:bt}{k:Nat}{f:a5}{b:cy}{m:List D->R D}(F:FnOk P w K mg base uB k f b ["script"] (spD K 1 m))
  (h:∀ns:List Int,ns.length<=63->(∀x∈ns,aBg x<=1048576)->m [.lst (ns.map D.int)]=.ok (.bl true)):FnOk P w K mg base uB k f b ["script"] (zO K):=
 F.imp<|by rintro n H Q E ⟨a,ns,e,d,g,i,j,q⟩;show{λ_=>False,_,_,by rw[e];show .cons (.lst d (λz=>z) (Reps.ints ns)) .nil,rfl,λ_ z=>z.elim,j,λ_ _ _ z=>z,h ns g i,λv l _ r=>by cases r;show q l}
def MX{P:bb}{w:bo}{K:gy}{mg mb:dJ}{k:Nat}{fa a:a5}{fd:cy}{f:ai}{vs:List af}{ns:List Int}
  (KX:K.In f.heap) (uu:f.heap.Ns bg mg) (j:f.heap.Ns builtinsNs mb) (hbb:∀x:Str,x≠ "__name__"->mb x=cp x) (J:f.heap.NoLimit) (hB:iU mg f.heap) (hg:f.gens=#[])
  (L:f.heap.get? a=some {cls:=.type "list",data:=.seq vs.toArray}) (hi:IntsAre vs ns) (hl:ns.length<=63) (ya:∀x∈ns,aBg x<=1048576) (hr:Room k callerA)
  (hT:∀p∈Tabs.tbs,f.heap.get? p.1=some (PySem.W.tabObj #[])/\isCodeTable f.heap p.1) (hTd:(Tabs.tbs.map (·.1)).Nodup) (hKn:PySem.W.noTabs K=true)
  (F:∀base:bt,K.In base->base.Ns bg mg->iU mg base->FnOk P w K mg base uB k fa fd ["script"] (zO K)) (qe:∀(s:ai) (u:af),BindsTo s fd {[u],[]} [("script",u)]):
  ee (ba P w) callerA (.call (.ref fa) {[.ref a],[]}) (λr s'=>r=.ok (.ret (.bool true))/\OldK f.heap s'.heap/\s'.os=f.os/\AllBare s'.gens) f:=by
 have rv:=L2.bE hi;have N:=hi.length;have ie:ns.length<=sizeLine:=aAj hl (by symm);have C:∀b i,Tabs.tbs.lookup b=some i->f.heap.get? b=some (PySem.W.tabObj #[])/\isCodeTable f.heap b:=λb i e=>hT (b,i) (mem_lookup e);have nta:Tabs.tbs.lookup a=none:=by
  cases e:Tabs.tbs.lookup a with
  |none=>rfl
  |some i=>have:=(C a i e).1;rw[L]at this;cases this
 have noK:∀b o,K.lookup b=some o->Tabs.tbs.lookup b=none:=λb o e=>by
  cases z:Tabs.tbs.lookup b with
  |none=>rfl
  |some i=>have O:=KX b o e;rw[(C b i z).1]at O;cases O;have l:=aBA.mp hKn (b,_) (PySem.W.mem_of_lookupK e);show gs (show false=true from l) aBH
 let put:Hp->Hp:=λH b=>match Tabs.tbs.lookup b with
  |some i=>some (.tbl i)
  |none=>H b
 have sN:∀(H:Hp) b i,Tabs.tbs.lookup b=some i->put H b=some (.tbl i):=λH b i e=>by change(match Tabs.tbs.lookup b with|some i=>some (HO.tbl i)|none=>H b)=_;rw[e]
 have E:∀(H:Hp) b,Tabs.tbs.lookup b=none->put H b=H b:=λH b e=>by change(match Tabs.tbs.lookup b with|some i=>some (HO.tbl i)|none=>H b)=_;rw[e]
 have y:∀g:Hp,(∀b,g b=none\/∃xs,g b=some (.frz {cls:=.type "list",data:=.seq vs.toArray} (.lst xs)))->M4 K (put g) a (ns.map V.int)->(∀b u,g b=some u->ObjOk P w (put g) f.heap b u)->(∀b,g b≠none->b=a)->(g a≠none->K.lookup a=none)->
   ee (ba P w) callerA (.call (.ref fa) {[.ref a],[]}) (λr s'=>r=.ok (.ret (.bool true))/\OldK f.heap s'.heap/\s'.os=f.os/\AllBare s'.gens) f:=by
  intro g hO hS Q hA hK;have T:iK P w (put g) f.heap:=λb u e=>by
   cases z:Tabs.tbs.lookup b with
   |none=>rw[E _ b z]at e;show Q b u e
   |some i=>rw[sN _ b i z]at e;cases e;show{#[],(C b i z).1,trivial,λp _=>.inl rfl}
  have nv:∀{b:a5}{o:Obj},f.heap.get? b=some o->put g b=none->(uG f.heap<|put g).get? b=some o:=λe n=>UH e n;have none_of:∀{b:a5}{o:Obj},f.heap.get? b=some o->o≠PySem.W.tabObj #[]->o≠{cls:=.type "list",data:=.seq vs.toArray}->put g b=none:=λ{b o} e n1 n2=>by
   cases z:Tabs.tbs.lookup b with
   |some i=>have:=(C b i z).1;rw[e]at this;show gs (Option.some.inj this) n1
   |none=>
    rw[E _ b z];cases q:g b with
    |none=>rfl
    |some u=>have e':b=a:=hA b (by rw[q];simp);subst e';rw[L]at e;show gs (Option.some.inj e).symm n2
  have t:∀{b:a5}{m:dJ},f.heap.Ns b m->(uG f.heap<|put g).Ns b m:=λ{b m} ⟨o,es,ep,e,d,r⟩=>{o,es,ep,nv e (none_of e (λz=>by rw[z]at d;cases d) λz=>by rw[z]at d;cases d),d,r};have U:K.In (uG f.heap<|put g):=λb o e=>nv (KX b o e) (by
   rw[E _ b (noK b o e)];cases q:g b with
   |none=>rfl
   |some u=>have e':b=a:=hA b (by rw[q];simp);subst e';rw[hK (by rw[q];simp)]at e;cases e)
  have hBb:iU mg (uG f.heap<|put g):=by let{bm,ob,b1,b2,b3,b4,b5,Y}:=hB;show{bm,ob,b1,b2,nv b3 (none_of b3 (λz=>by rw[z]at Y;cases Y) λz=>by rw[z]at Y;cases Y),b4,b5,Y}
  have hM:Mod K mg (uG f.heap<|put g):={U,t uu,{mb,t j,hbb},let⟨mc,A,l⟩:=J;{mc,t A,l}};have e0:Env0 P w K mg (uG f.heap<|put g) callerA [] f (put g):={rfl,hM,λb o e=>kj e,aEw (MW _ _),trivial,λb j=>gs (show b∈([]:List a5)from j) (by simp),T,.of_eq hg};have tb0:Tb (put g):=λp hp=>sN _ p.1 p.2 (cB hTd hp);show aDX ((F _ U (t uu) hBb).run callerA [] f (put g) {[.ref a],[]} [.ref a] [.ref a] (λv _=>v=.bl true) (λ_ _ _=>False) hr e0 (qe f<|.ref a) (.cons rfl .nil) {a,ns,rfl,hS,hl,ya,tb0,λ_=>rfl}) λr s' h=>?_;cases r with
  |error e=>show(show False from h).elim
  |ok fl=>
   cases fl with
   |next=>show aAy h
   |brk=>show aAy h
   |cont=>show aAy h
   |ret u=>
    let{v,H',os,bare,un,zl,r',q}:=h;have q':v=.bl true:=q;subst q';obtain rfl:u=aDW true:=r';have B:∀b o,f.heap.get? b=some o->s'.heap.get? b=some o\/(isCodeTable f.heap b/\o=PySem.W.tabObj #[]/\∃I,s'.heap.get? b=some (PySem.W.tabObj I)):=λb o e=>by
     cases z:Tabs.tbs.lookup b with
     |some i=>have:=(C b i z).1;rw[e]at this;let{I,hps,_}:=zl b _ (un.tbls b i<|sN _ b i z);show .inr {(C b i z).2,Option.some.inj this,I,hps}
     |none=>
      show .inl ?_;rcases hO b with n|⟨xs,n⟩
      .show un.keep b o e (by rw[E _ b z];show n) (by intro z;show gs (show b∈([]:List a5)from z) (by simp)) (by simp)
      have z1:put g b=some (.frz {cls:=.type "list",data:=.seq vs.toArray} (.lst xs)):=by rw[E _ b z];show n
      have z2:=un.frzs b _ _ z1;let{O,_}:=T b _ z1;let{e2,_}:=zl b _ z2;rw[e]at O;cases O;show e2
    show{rfl,{λb o e=>?_,λb o e=>?_},os,bare}
    .rcases B b o e with h|⟨A,l,I,h3⟩
     .show .inl h
     subst l;show .inr (.inl {A,rfl,#[],I,rfl,by rw[Array.empty_append];show h3})
    rcases B b o e with h|⟨A,l,I,h3⟩
    .show{o,h}
    show{_,h3}
 cases hk:K.lookup a with
 |some o=>have e:=KX a o hk;rw[L]at e;cases e;show y (λ_=>none) (λ_=>.inl rfl) (.inr {_,vs.toArray,_,hk,rfl,rfl,rfl,by rw[aAX,N];show ie,by simpa using rv}) (λb u z=>by have z':(none:Option HO)=some u:=z;cases z') (λb z=>gs rfl z) λz=>gs rfl z
 |none=>
  obtain⟨g,A,l⟩:∃g:Hp,g a=some (.frz {cls:=.type "list",data:=.seq vs.toArray} (.lst (ns.map V.int)))/\∀b,b≠a->g b=none:={λb=>if b=a then _ else none,gi rfl,λb j=>gk j};show y g (λb=>?_) (.inl (.inr {{cls:=.type "list",data:=.seq vs.toArray},(E g a nta).trans A})) (λb u z=>?_) (λb z=>?_) λ_=>hk
  .by_cases j:b=a
   .subst j;show .inr {_,A}
   show .inl (l b j)
  .by_cases j:b=a
   .subst j;rw[A]at z;cases z;show{L,by rw[aAf];show ie,vs,_,rv,L}
   rw[l b j]at z;cases z
  by_cases j:b=a
  .show j
  show gs (l b j) z
def gz{l:PySem.W.OpenLaw}{k:Nat}{q:bb}{e:List Str}{C:(Str->Option af)->bt->Prop}{z:bo->bt->Prop}{d:DefRec}{K:Params->gy}{A:List a5}
  (E:l.most=some 63) (n:d.params.defaults=[]) (H:Room k callerA)
  (I:∀(w:bo) (h:bt),z w h->(K w.params).In h/\∀P∈A,h.get? P=some (PySem.W.tabObj #[]))
  (r:∀p∈Tabs.tbs,p.1∈A/\∃c,∀w:bo,PySem.W.codeHdIn (K w.params) c p.1=true) (t:(Tabs.tbs.map (·.1)).Nodup) (v:∀w:bo,PySem.W.noTabs (K w.params)=true)
  (F:∀(w:bo) (mg:dJ) (fa:a5) (h:bt),(K w.params).In h->h.Ns bg mg->mg d.name=some (.ref fa)->
   ∃x:cy,(∀(s:ai) (u:af),BindsTo s x {[u],[]} [("script",u)])/\
    ∀base:bt,(K w.params).In base->base.Ns bg mg->iU mg base->FnOk l.prog w (K w.params) mg base uB k fa x ["script"] (zO (K w.params))):
  PySem.W.WalkO q e C z l.row.toRowW d [] (λf vs=>PySem.call f vs):=by
 show Att2.attach_bits E n λw s9 ae mg mb fa o pm cd J a vs ns G Y ho hd eh L j i m N O=>?_;let{y,Q}:=I w _ Y;let{x,U,hF}:=F w mg fa _ y G.T.g L;show MX y G.T.g G.T.b G.T.builtins G.T.nolimit G.T.bmain O j i m N H (λp hp=>?_) t (v w) hF U;let{h1,c,h2}:=r p hp;have B:=Q p.1 h1;show{B,((PySem.W.codeHd_of_K y<|h2 w).tab B).isCodeTable}
section
variable{K:gy}
structure FunC(K:PySem.W.Frag)(x qual:Str)(st:Stmt)(f:Addr)(fd:FuncData)(cd:Addr):Prop where
 ex:∃(oc:Value) (od:Option Addr) (kV doc pm:Value) (an:Option Addr) (ct:Value) (osl:Array (Option Value)),
  fd=PySem.W.fnOf x qual (A2 st) (k7 st) (b9 st) .none kV doc pm an (.ref cd) ct/\K.lookup f=some {oc,od,.func fd,osl}/\PySem.W.codeIn K (.ref cd) qual=true
 kp:PySem.W.keepIn K (.ref f)=true
omit [Tabs]in
def FunC.fn{x qual:Str}{st:br}{f:a5}{d:cy}{cd:a5}(F:FunC K x qual st f d cd):Fun K x qual st f d:=by let{e,g,kV,a,h,i,j,b,k,l,m}:=F.ex;show{{e,g,kV,a,h,i,.ref cd,j,b,k,l,m},F.kp}
omit [Tabs]in
def YN{x qual:Str}{st:br}{f cd:a5}{h:af}{i d:Option a5}{b:Array (Option af)}{kV a g L ct:af}(l:K.lookup f=some {h,i,.func (PySem.W.fnOf x qual (A2 st) (k7 st) (b9 st) .none kV a g d L ct),b})
  (e:L=.ref cd) (c:PySem.W.codeIn K L qual=true) (k:PySem.W.keepIn K (.ref f)=true):FunC K x qual st f (PySem.W.fnOf x qual (A2 st) (k7 st) (b9 st) .none kV a g d L ct) cd:=by
 subst e;show{{h,i,kV,a,g,d,ct,b,rfl,l,c},k}
def a8f{x qual:Str}{st:br}{f cd:a5}{g:cy}{N ps:List Str}{k:Nat}{m:List D->R D}{F:Ev->R Out}(l:FunC K x qual st f g cd)(S:FnScope N ps (b9 st))
  (n:∀(A:be) (outer:List Env) (s:ai) (H:Hp) (E:XK),Room k (A.deeper (envOfC qual (b9 st) s.heap.objs.size f (.ref cd)))->aK (MI P w K mg base N qual (b9 st) f (.ref cd) A outer s H E) (k7 st) F)
  (p:∀ds d,ds.length=ps.length->m ds=.ok d->J0 (F (j3 N ds))=.ok d):FnOk P w K mg base uB (k+1) f g ps (spD K ps.length m):=by
 let{Y,od,kV,t,pm,an,ct,u,rfl,lk,v}:=l.ex;show a0d lk v S (by rintro y H Q E ⟨O,ds,d,r,b,_⟩;rw[r.length];show b) λA outer s H y Q E z B=>?_;let{O,ds,d,r,b,C,I,J,e,q}:=B;show{_,uF.nox (n A outer s H E z H O),O,_,gF r C I,J,?_};have h:=p ds d b e;cases i:F (j3 N ds)with
 |ok o=>
  rw[i]at h;cases o with
  |rt L=>have a:R.ok L=R.ok d:=h;injection a with a;subst a;show q
  |nx j=>have a:R.ok D.non=R.ok d:=h;injection a with a;subst a;showλau T O' U _ _=>q .non T U.same .non
  |bk j=>cases h
  |ct j=>cases h
 |ex x=>nofun
 |bad=>rw[i]at h;cases h
def IV{x qual:Str}{st:br}{f cd:a5}{a:cy}{N ps:List Str}{k:Nat}{m:List D->R D}{F:Ev->R Out}(b:FunC K x qual st f a cd)(S:FnScope N ps (b9 st))(e:Binds K a ps [])(g:mg x=some (.ref f))
  (h:∀(A:be) (outer:List Env) (s:ai) (H:Hp) (E:XK),Room k (A.deeper (envOfC qual (b9 st) s.heap.objs.size f (.ref cd)))->aK (MI P w K mg base N qual (b9 st) f (.ref cd) A outer s H E) (k7 st) F)
  (i:∀ds d,ds.length=ps.length->m ds=.ok d->J0 (F (j3 N ds))=.ok d):v8 P w K mg base (k+1) x ps.length m:=
 {f,a,ps,a8f b S h i,e,b.kp,g}
def TW(P:bb)(w:bo)(K:gy)(mg:dJ)(base:bt)(k d:Nat)(x:Str)(M:D->(List D->R D)->(List D->R D)->R D):Prop:=
 ∃g b a,FnOk P w K mg base uB k g b a (spF K (PN P w K mg base d 1) M)/\Binds K b a []/\PySem.W.keepIn K (.ref g)=true/\mg x=some (.ref g)/\a.length=3
def ZR{x qual:Str}{st:br}{f:a5}{a:cy}{N ps:List Str}{k b:Nat}{M:D->(List D->R D)->(List D->R D)->R D}{F:Ev->R Out}(e:Fun K x qual st f a)(S:FnScope N ps (b9 st))(g:ps.length=3)(l:Binds K a ps [])(m:mg x=some (.ref f))
  (n:∀(L:af) (A:be) (outer:List Env) (s:ai) (H:Hp) (E:XK),Room k (A.deeper (envOfC qual (b9 st) s.heap.objs.size f L))->aK (MI P w K mg base N qual (b9 st) f L A outer s H E) (k7 st) F)
  (o:∀h i j d,M h i j=.ok d->J0 (F (mK N (PN P w K mg base b 1) h i j))=.ok d):TW P w K mg base (k+1) b x M:=
 {f,a,ps,fnF e S g n o,l,e.kp,m,g}
end
section
def BU(i:Nat){Φ:(List D->R D)->Hp->(a5->Prop)->a5->Prop}(a:PN X.prog X.w X.K X.mg X.base k n=Φ)(d:EA X (e::es) f)(g:CQ f n)(h:Room k X.A)(j:X.N[i]?=some x<|>1)(l:CF X.env.scope x<|>5)(m:(x==gA)=false<|>2)(o:(x==gB)=false<|>2)(q:ag (e::es) X.env=(false,cu e X.env)::ag es X.env<|>1)(G9:(cq b (ag es X.env)).any (·.1)=false<|>1):
  PD X (.Call (.Name x p) (e::es) [] b) (callC Φ i f):=by
 subst a;show TF i d g h j l m o q G9
def qI(s:NstOk X k n1)(t:NstOk X k n2)(u:ClosOk X n1 clos1)(v:ClosOk X n2 clos2)(z:∀x b,(x,b)∈clos1++clos2->X.env.cells.lookup x=some b)(B:iU X.mg X.base)(C:X.env.code=.ref c)(E:PySem.W.codeHdIn X.K c Pt=true)(j:(Pt,tb)∈Tabs.tbs)(l:(n1.pos,n1.qual)∈tb)(H:(n2.pos,n2.qual)∈tb)(m:∀p∈tb,p.1.line=n1.pos.line->p.1.col=n1.pos.col->p.2=n1.qual)(n:∀p∈tb,p.1.line=n2.pos.line->p.1.col=n2.pos.col->p.2=n2.qual)(I:n1.i≠n2.i)(J:X.N.Nodup)(L:TW X.prog X.w X.K X.mg X.base O (k+1) x M)(Q:Room O X.A)(T:PD X e f)(U:∀y,X.fn y=true)(Y:Gl X x<|>1)(gg:(x==gA)=false<|>2)(zi:ag [e,.Name n1.name h,.Name n2.name a] X.env=(false,cu e X.env)::ag [.Name n1.name h,.Name n2.name a] X.env<|>1)(zv:ag [.Name n1.name h,.Name n2.name a] X.env=(false,cu (.Name n1.name h) X.env)::ag [.Name n2.name a] X.env<|>1)(o:ag [.Name n2.name a] X.env=(false,cu (.Name n2.name a) X.env)::ag [] X.env<|>1)(G9:(cq q (ag [.Name n1.name h,.Name n2.name a] X.env)).any (·.1)=false<|>1):
  aK X [n1.stmt,n2.stmt,.Return (some (.Call (.Name x p) [e,.Name n1.name h,.Name n2.name a] [] q)) r] (λρ=>((f ((ρ.set n1.i .no).set n2.i .no)).bind λd1=>(fT n1.js ((ρ.set n1.i .no).set n2.i .no)).bind λw1=>(fT n2.js ((ρ.set n1.i .no).set n2.i .no)).bind λw2=>M d1 (n1.mm w1) (n2.mm w2)).bind λd=>.ok (.rt d)):=by
 let{g,gd,ps,FF,hb,hk,hm,h3}:=L;show NK s t u v z B C E j l H m n I J FF Q hm hk hb h3 T U Y gg zi zv o G9
end
end
end DL
namespace DL
open PySem L2
def _root_.L2.Room.ac6(r:Room k A):A.units+130<cf:=by have:=r.un;lia
def _root_.L2.Room.ad0(r:Room k A)(h:7<=k):A.units+300<cf:=by have:=r.un;lia
def NN{y:Str}{d:a5}{a:List (Str×a5)}(h:a.lookup y=some d<|>1):∀(x:Str) (b:a5),(x,b)∈[(y,d)]++[(y,d)]->a.lookup x=some b:=by nofun
def pL{sc:eO}{fn:List Str}{x:Str}(h:sc.names.lookup x=some .free)(a:((sc.names.all λp=>p.2 !=.free||fn.contains p.1)=true)<|>3):x∈fn:=by exists (aBA.mp a _<|PySem.mem_of_lookup h)
def oB:br->Pos
 |.FunctionDef _ _ _ _ _ _ _ _ _ p=>p
 |_=>{0,0,0,0}
end DL
namespace M
open PySem L2 DL
def zC:D->Option G.V
 |.tup [.int a,.int b,.int c]=>some {a,b,c}
 |_=>none
@[simp]def xJ(v:G.V):zC (vd v)=some v:=rfl
def uU(h:zC d=some v):d=vd v:=by
 unfold zC at h;split at h
 .cases h;rfl
 cases h
def F9:List D->Option (List G.V)
 |[]=>some []
 |d::a=>match zC d,F9 a with
  |some v,some b=>some (v::b)
  |_,_=>none
@[simp]theorem u5:∀vs:List G.V,F9 (vs.map vd)=some vs
 |[]=>rfl
 |v::vs=>by rw[aAq,F9,xJ,u5 vs]
theorem t8:∀{ds:List D}{vs:List G.V},F9 ds=some vs->ds=vs.map vd
 |[],vs,h=>by cases h;rfl
 |d::ds,vs,h=>by
  unfold F9 at h;split at h
  .rename_i v e a b;cases h;rw[uU a,t8 b];rfl
  cases h
def xL(h:vd u=vd v):u=v:=by
 have:zC (vd u)=zC (vd v):=by rw[h]
 exists this
def YW{u v:List G.V}(h:u.map vd=v.map vd):u=v:=by
 have:F9 (u.map vd)=F9 (v.map vd):=by rw[h]
 exists this
def S4(n:Nat)(J:List G.V):Prop:=(∀P∈J,Sz n P)/\J.length<=1000
def IJ:Option G.V->D
 |some v=>vd v
 |none=>.non
def C9:List D->R D
 |[.lst a]=>match F9 a with
  |some b=>.ok (IJ (G.A4 b))
  |none=>.bad
 |_=>.bad
open Classical in
def J6:List D->R D
 |[.lst a]=>match F9 a with
  |some J=>if J≠[]/\S4 1000 J then .ok (.int (G.Q4 J))else .bad
  |none=>.bad
 |_=>.bad
open Classical in
def L3:List D->R D
 |[.lst a]=>match F9 a with
  |some J=>if S4 1000 J/\G.Q4 J=3 then .ok .non else .bad
  |none=>.bad
 |_=>.bad
open Classical in
def z6:List D->R D:=v4 λa b c d=>LY λe=>dQ (match F9 e with
 |some J=>if Sz 10000 {a,b,c}/\S4 1000 J then .ok (.lst ((G.m7 {a,b,c} d J).map vd))else .bad
 |none=>.bad)
open Classical in
def G1:List D->R D:=YG λg=>LY λh=>dQ ((v1 λa b c=>v1 λd e f=>dQ (match F9 h with
 |some J=>if Sz 1000 {a,b,c}/\Sz 1000 {d,e,f}/\S4 1000 J/\G.Z1 (G.b7 {a,b,c} {d,e,f} J).1 then .ok (tZ (G.b7 {a,b,c} {d,e,f} J).1 (G.b7 {a,b,c} {d,e,f} J).2)else .bad
 |none=>.bad)) g)
abbrev I9(p:G.V×G.V):D:=.tup [vd p.1,vd p.2]
structure Land(J:List G.V)(m:G.V):Prop where
 good:G.Good J m
 sz:S4 900 J
 few:J.length<=63
 head:J.head?=some m
open Classical in
def K9:List D->R D
 |[.lst a]=>match F9 a with
  |some (m::J)=>if Land (m::J) m then .ok (I9 (G.d6 m (m::J)))else .bad
  |_=>.bad
 |_=>.bad
open Classical in
def gM:List D->R D:=v1 λa b c=>v1 λd e f=>v1 λg h i=>v1 λj k l=>dQ (
 if Sz 10000 {a,b,c}/\Sz 1000 {d,e,f}/\Sz 1000 {g,h,i}/\Sz 1000 {j,k,l}then .ok (.int (G.turn {a,b,c} {d,e,f} {g,h,i} {j,k,l}))else .bad)
open Classical in
def W0:List D->R D:=v1 λa b c=>LY λd=>dQ (match F9 d with
 |some J=>if Sz 10000 {a,b,c}/\S4 1000 J then .ok (.lst ((G.x8 {a,b,c} J).reverse.map vd))else .bad
 |none=>.bad)
open Classical in
def R6:List D->R D:=v1 λa b c=>LY λd=>dQ (match F9 d with
 |some J=>if Sz 10000 {a,b,c}/\S4 1000 J then .ok (.lst ((G.j4 {a,b,c} J).map vd))else .bad
 |none=>.bad)
def C3:List D->R D
 |[.lst a]=>match F9 a with
  |some J=>if J.length<=3000 then .ok (.lst ((G.Z0 J).map I9))else .bad
  |none=>.bad
 |_=>.bad
abbrev j7(J:List G.V)(f:G.V×Int):D:=.tup [tZ f.1 f.2,.lst ((G.d8 J f).map vd)]
def eJ(J:List G.V)(fs:List (G.V×Int)):Prop:=(∀f,f∈fs↔G.IsFace J f.1 f.2)/\xP U5 (fs.map<|j7 J)
open Classical in
def j0(J:List G.V):List (G.V×Int):=if h:∃fs,eJ J fs then h.choose else[]
def kQ:List D->List D->R D
 |[w],[_]=>.ok w
 |_,_=>.bad
def cF:List D->List D->R D
 |[w],[p]=>z6 [p,w]
 |_,_=>.bad
structure Tells(J:List G.V)(m1 m2:List D->R D):Prop where
 about:∀P∈J,∃xs:List G.V,m1 [vd P]=.ok (.lst (xs.map vd))/\(∀X∈xs,X∈J)/\xs.length<=1000/\∀n:G.V,(∀X∈xs,G.b8 n X<=G.b8 n P)->∀X∈J,G.b8 n X<=G.b8 n P
 touched:∀f:G.V×Int,G.IsFace J f.1 f.2->Sz 2003 f.1->m2 [tZ f.1 f.2]=.ok (.lst ((G.m7 f.1 f.2 J).map vd))
def FF(d:D)(a b:List D->R D)(J:List G.V):Prop:=∃m,Land J m/\J.length<=33/\d=I9 (G.d6 m J)/\Tells J a b
open Classical in
def B4(d:D) (a b:List D->R D):R D:=if h:∃J,FF d a b J then .ok (.lst ((j0 h.choose).map (j7 h.choose)))else .bad
def c7(J:List G.V):List G.V:=(W9<|J.map vd).filterMap zC
open Classical in
def Y6:List D->R D
 |[.lst a]=>match F9 a with
  |some J=>if S4 900 J/\G.f8 J/\(c7 J).length<=23 then .ok (.lst ((j0 (c7 J)).map (j7 (c7 J))))else .bad
  |none=>.bad
 |_=>.bad
def a1a:D->Option (List G.V)
 |.tup [_,.lst a]=>F9 a
 |_=>none
def vO:List D->Option (List (List G.V))
 |[]=>some []
 |d::a=>match a1a d,vO a with
  |some v,some b=>some (v::b)
  |_,_=>none
open Classical in
def F5:List D->R D
 |[.lst b]=>match vO b with
  |some a=>if a.flatten.length<=3000/\(c7 a.flatten).length<=63 then .ok (.lst ((c7 a.flatten).map vd))else .bad
  |none=>.bad
 |_=>.bad
def o6(J:List G.V):List G.V:=c7 ((j0<|c7 J).flatMap (G.d8<|c7 J))
open Classical in
def bN:List D->R D
 |[.lst a]=>match F9 a with
  |some J=>if S4 900 J/\G.f8 J/\(c7 J).length<=23 then .ok (.lst ((o6 J).map vd))else .bad
  |none=>.bad
 |_=>.bad
def ne0(v:G.V):UE (vd v) (.tup [.int 0,.int 0,.int 0])=.ok (.bl (!decide (v=0))):=by
 rw[IN];congr 3;rw[aDH];erw[aAN,beq_iff_eq,decide_eq_true_eq,G.qS]
 nofun
def eq0(v:G.V):KZ (vd v) (.tup [.int 0,.int 0,.int 0])=.ok (.bl (decide (v=0))):=by
 rw[US];congr 2;rw[aDH];erw[aAN,beq_iff_eq,decide_eq_true_eq,G.qS]
 nofun
def K4(a:G d ρ=.ok ρ1)(b:F ρ1=.ok (.nx ρ2)):K1 G F (d::ds) ρ=K1 G F ds ρ2:=by rw[K1,a];dsimp only;rw[b]
def xB(a:G d ρ=.ok ρ1)(b:F ρ1=.ok (.rt x)):K1 G F (d::ds) ρ=.ok (.rt x):=by rw[K1,a];dsimp only;rw[b]
theorem K6{d:Type}(rep:d->D)(p:d->Bool)(g:d->D):∀(l:List d),(∀a∈l,∃ρ1,G (rep a) ρ=.ok ρ1/\ft ρ1=.ok (p a)/\(p a=true->fe ρ1=.ok (g a)))->v7 G ft fe ρ (l.map rep)=.ok ((l.filter p).map g):=by
 intro e h;cases e with
 |nil=>rfl
 |cons a l=>
  let{ρ1,f,i,k}:=h a (.head _);rw[aAq,v7,f];dsimp only;rw[i,R.aa0,(K6 rep p g l λb j=>h b (.tail _ j))];cases m:p a with
  |false=>rw[gk (by symm),aFy (by lia)]
  |true=>nofun
def gT{b:Type}(rep:b->D)(g:b->D)(l:List b)(h:∀a∈l,∃ρ1,G (rep a) ρ=.ok ρ1/\fe ρ1=.ok (g a)):v7 G (λ_=>.ok true) fe ρ (l.map rep)=.ok (l.map g):=by
 have:=K6 rep (λ_=>true) g l λa d=>by let{ρ1,e,f}:=h a d;show{ρ1,e,rfl,λ_=>f}
 rw[this,List.filter_eq_self.mpr λ_ _=>rfl]
def small(h:n<=1000):n<=sizeLine:=aAj h (by symm)
def UD(h:n<=3000):n<=sizeLine:=aAj h (by symm)
def S4.sub(h:S4 n J)(b:∀P∈a,P∈J)(d:a.length<=J.length):S4 n a:={λP e=>h.1 P (b P e),aAj d h.2}
def S4.mono(h:S4 m J)(a:m<=n<|>2):S4 n J:={λP b=>(h.1 P b).mono a,h.2}
def a8i(t:Int):(sgn t==0)=decide (t=0):=by
 unfold sgn;by_cases h:0<t
 .rw[gi h];simp;lia
 rw[gk h];by_cases a:t<0
 .rw[gi a];simp;lia
 rw[gk a];simp;lia
def lO(a:Sz 10000 n)(b:S4 1000 J):z6 [tZ n d,.lst (J.map vd)]=.ok (.lst ((G.m7 n d J).map vd)):=by erw[z6,v4,YG,pE,LY,dQ,u5];show gi {a,b}
def WD(a:J≠[])(b:S4 1000 J):J6 [.lst (J.map vd)]=.ok (.int (G.Q4 J)):=by erw[J6,u5];show gi {a,b}
def IH(ws:List G.V):C9 [.lst (ws.map vd)]=.ok (IJ (G.A4 ws)):=by erw[C9,u5]
def IM(bs:List Bool):dU (bs.map D.bl)=some bs:=by
 induction bs with
 |nil=>rfl
 |cons b bs a=>rw[aAq,dU,a];rfl
def a0r(bs:List Bool):anyR [.lst (bs.map D.bl)]=.ok (.bl (bs.any id)):=by erw[anyR,IM]
def ZI(xs:List D):PP (.lst xs) none (some (-1))=.ok (.lst xs.dropLast):=by
 change R.ok (D.lst<|cutD xs none<|some (-1))=_;unfold cutD HT.sIx;rw[aEx];simp
 lia
def fq(xs:List D):PP (.lst xs) (some 1) none=.ok (.lst xs.tail):=by
 change R.ok (D.lst<|cutD xs (some 1) none)=_;unfold cutD HT.sIx;cases xs with
 |nil=>rfl
 |cons a l=>simp
def a1u(xs:List D):PP (.lst xs) none (some 1)=.ok (.lst (xs.take 1)):=by
 change R.ok (D.lst<|cutD xs none<|some 1)=_;unfold cutD HT.sIx
 nofun
def xy(xs:List D)(a b:D):tY (xs++[a,b]) (-1)=some b:=by
 have d:(xs++[a,b]).length=xs.length+2:=by simp
 unfold tY zk;rw[d,gk (by symm),gi (by lia)];change(xs++[a,b])[((-1:Int)+((xs.length+2:Nat):Int)).toNat]?=_;have:((-1:Int)+((xs.length+2:Nat):Int)).toNat=xs.length+1:=by lia
 nofun
def yz(xs:List D)(a b:D):tY (xs++[a,b]) (-2)=some a:=by
 have d:(xs++[a,b]).length=xs.length+2:=by simp
 unfold tY zk;rw[d,gk (by symm),gi (by lia)];change(xs++[a,b])[((-2:Int)+((xs.length+2:Nat):Int)).toNat]?=_;have:((-2:Int)+((xs.length+2:Nat):Int)).toNat=xs.length:=by lia
 rw[this,aAG (by lia),Nat.sub_self];rfl
def a4x(a:D)(xs:List D):tY (a::xs) 0=some a:=by rw[eM (by symm)];rfl
def a5n(a b:D)(xs:List D):tY (a::b::xs) 1=some b:=by rw[eM (by symm)];rfl
def YO{P Q R:G.V}(h:G.Z1 (G.c9 P Q R).1):G.cr (Q-P) (R-P)≠0:=λe=>by
 have:(G.c9 P Q R).1=0:=by change G.jT (G.cr (Q-P)<|R-P) _=0;rw[e];rfl
 rw[this]at h;unfold G.Z1 at h;show gs h (by symm)
theorem CP:∀{c:List G.V},(G.Z2 n P c).length<=c.length
 |[]=>aAi _
 |[a]=>aAi _
 |b::a::r=>by
  unfold G.Z2;split
  .show aAj (CP (c:=a::r)) (by simp)
  show aAi _
theorem tW:∀(a c:List G.V),(a.foldl (λc P=>P::G.Z2 n P c) c).length<=a.length+c.length:=by
 intro b c;cases b with
 |nil=>simp
 |cons P a=>show aAj (tW a _) ?_;have:=CP (n:=n) (P:=P) (c:=c);simp;lia
def vY(n:G.V)(ps:List G.V):(G.x8 n ps).length<=ps.length:=by simpa[G.x8]using tW ps []
theorem vD{b β:Type}(f:b->D):∀(xs a:List b),cS (xs.map f) (a.map f)=(xs.zip a).map λp=>D.tup [f p.1,f p.2]
 |[],_=>by simp[cS]
 |_::_,[]=>by simp[cS]
 |x::xs,y::a=>by have:=vD (β:=β) f xs a;erw[cS]at this⊢;simp[this]
def xq(a:Sz 10000 n)(b:S4 1000 J):W0 [vd n,.lst (J.map vd)]=.ok (.lst ((G.x8 n J).reverse.map vd)):=by erw[W0,v1,YG,pE,LY,dQ,u5];show gi {a,b}
def JS{n P Q R:G.V}(h:Sz 10000 n)(a:Sz 1000 P)(b:Sz 1000 Q)(d:Sz 1000 R):gM [vd n,vd P,vd Q,vd R]=.ok (.int (G.turn n P Q R)):=gi {h,a,b,d}
def L7(a:Sz 1000 A)(b:Sz 1000 B)(d:S4 1000 J)(e:G.Z1 (G.b7 A B J).1):G1 [.tup [vd A,vd B],.lst (J.map vd)]=.ok (tZ (G.b7 A B J).1 (G.b7 A B J).2):=by erw[G1,v1,YG,pE,LY,dQ,u5];show gi {a,b,d,e}
def kq(a:Sz 10000 n)(b:S4 1000 J):R6 [vd n,.lst (J.map vd)]=.ok (.lst ((G.j4 n J).map vd)):=by erw[R6,v1,YG,pE,LY,dQ,u5];show gi {a,b}
def WL(h:J.length<=3000):C3 [.lst (J.map vd)]=.ok (.lst ((G.Z0 J).map I9)):=by erw[C3,u5];show gi h
def pW(h:a.length+b.length<=sizeLine):pF (.lst a) (.lst b)=.ok (.lst (a++b)):=gi h
def RE(a b:G.V):HT.lexLt (flat (vd a)) (flat (vd b))=true↔G.d7 (b-a):=by
 change HT.lexLt [a.x,a.y,a.z] [b.x,b.y,b.z]=true↔_;unfold G.d7;erw[HT.lexLt,G.SH,G.RD,G.TX];by_cases d:a.x=b.x
 .by_cases e:a.y=b.y
  .by_cases f:a.z=b.z
   .simp[d,e,f]
   simp[d,e,f];try lia
  simp[d,e];try lia
 simp[d];try lia
def HN{J:List G.V}(h:J.Pairwise λa b=>G.d7 (b-a)):YA (J.map vd):=aBM.mpr (h.imp λ{a b} q=>(RE a b).mpr q)
def a3q{J:List G.V}(h:YA (J.map vd)):J.Pairwise λa b=>G.d7 (b-a):=(aBM.mp h).imp λ{a b} q=>(RE a b).mp q
def WS(J:List G.V):(J.map vd).all bR=true:=aBA.mpr λd a=>by let{v,_,rfl}:=aAh.mp a;rfl
def a0w[Tabs]{m:G.V}{J:List G.V}(h:(m::J).Pairwise λa b=>G.d7 (b-a)):XV [.lst ((m::J).map vd)]=.ok (vd m):=by change(if(m::J).map vd≠[]/\((m::J).map vd).all bR=true then _ else _)=_;rw[gi {by simp,WS _},qz (HN h) _ (by simp)];rfl
def OZ{k:Nat}{P Q R:G.V}(p:Sz k P)(q:Sz k Q)(r:Sz k R):Sz (k+1+(k+1)+1) (G.c9 P Q R).1:=by
 have a:=(q.sub p).cr (r.sub p);by_cases d:G.cr (Q-P) (R-P)=0
 .have:(G.c9 P Q R).1=0:=by change G.jT (G.cr (Q-P)<|R-P) _=0;rw[d];rfl
  nofun
 let{h,i,j}:=G.mI d;have e:=bits_fdiv (b:=(G.m8 (G.cr (Q-P)<|R-P):Int)) a.1;have f:=bits_fdiv (b:=(G.m8 (G.cr (Q-P)<|R-P):Int)) a.2.1;have g:=bits_fdiv (b:=(G.m8 (G.cr (Q-P)<|R-P):Int)) a.2.2;rw[rY h]at e f g;show{e,f,g}
def tL{P Q R:G.V}(p:Sz 1000 P)(q:Sz 1000 Q)(r:Sz 1000 R):Sz 2003 (G.c9 P Q R).1:=OZ p q r
def CY{A B:G.V}{J:List G.V}(p:Sz 1000 A)(q:Sz 1000 B)(r:S4 1000 J):Sz 2003 (G.b7 A B J).1:=by
 unfold G.b7;rcases G.nF J 0 A with h|h
 .show tL p q (r.1 _ h)
 rw[h];show tL p q p
def a4z(m:G.V):vd (m+G.kk)=.tup [.int m.x,.int m.y,.int (m.z+1)]:=by simp[G.kk]
def SU(h:Sz 900 m):Sz 1000 (m+G.kk):=(h.add {by symm,by symm,by symm}).mono
def VF(h:S4 k J):S4 k (G.m7 n d J):=h.sub (λP a=>(G.c5.mp a).1) (aCr _ _)
def XR{f:Type}{l:List f}{a b:f}(d:a∈l)(e:b∈l)(h:a≠b):∃x y r,l=x::y::r:=by
 match l,d,e with
 |[x],d,e=>show gs ((aAK.mp d).trans (aAK.mp e).symm) h
 |x::y::r,_,_=>show{x,y,r,rfl}
open Classical in
def AK{N:List (D×D)}{k v a:D}:a∈(dH N k v).map (·.1)↔a∈N.map (·.1)\/a=k:=by
 unfold dH;split
 .rename_i h;rw[aBs];have:((λx=>x.1)∘λp:D×D=>if p.1=k then(p.1,v)else p)=λp=>p.1:=by funext p;erw[aGr];split<;>rfl
  rw[this];show{.inl,λq=>q.elim id λe=>by rw[e];show h}
 rw[aBv,aAO];simp
def sS{N:List (D×D)}{k v:D}:(dH N k v).length<=N.length+1:=by
 unfold dH;split
 .simp
 simp
def KB{p q:G.V×G.V}(h:I9 p=I9 q):p=q:=by injection h with h;injection h with b a;injection a with a _;show aEr (xL b) (xL a)
def GK(p:G.V×G.V):Q7 7 (I9 p)=true/\HR (I9 p)=true:={rfl,rfl}
def ffC:Ev->R Bool:=λa=>((((dG 5 a).bind λd=>R.ok [d]).bind OL).bind λx=>gtR x (D.int 0)).bind AG
def ffS:Ev->R Out:=λa=>
 B7 ((G6 9 a).bind λb=>wB 4 a b (D.bl true)) λa=>((((dG 9 a).bind λx=>W6 x (D.int 1)).bind λd=>(((dG 9 a).bind λx=>W6 x (D.int 0)).bind λd=>R.ok [d]).bind λe=>R.ok (d::e)).bind fB).bind (zS 5 a)
theorem LR{a0 a1 a2 a3 a6 a7 a8:Sl}:∀(a:List (G.V×G.V)) (N:List (D×D)) (W:List (G.V×G.V)) (g:Sl),N.length+a.length<=10000->W.length+a.length<=10000->
  ∃f b,K1 (λd ρ=>R.ok (aCE ρ 9 (Sl.v d))) ffS (a.map I9) [a0,a1,a2,a3,.d N,.o (W.map I9),a6,a7,a8,g]=.ok (.nx [a0,a1,a2,a3,.d f,.o ((W++a.map λq=>(q.2,q.1)).map I9),a6,a7,a8,b])/\
   (∀e:G.V×G.V,I9 e∈f.map (·.1)↔I9 e∈N.map (·.1)\/e∈a)/\f.length<=N.length+a.length:=by
 intro i N W g j n;cases i with
 |nil=>show{N,g,by simp,λe=>by simp,by simp}
 |cons q a=>
  erw[aAp]at j n;have w:=sS (N:=N) (k:=I9 q) (v:=.bl true);let{f,b,e,m,l}:=LR a (dH N (I9 q)<|.bl true) (W++[(q.2,q.1)]) (.v (I9 q)) (by lia) (by simp;lia);show{f,b,?_,λx=>?_,by simp;lia}
  .rw[aAq];show(K4 (ρ2:=[a0,a1,a2,a3,.d (dH N (I9 q)<|.bl true),.o ((W++[(q.2,q.1)]).map I9),a6,a7,a8,.v (I9 q)]) rfl ?_).trans ?_
   .have p:N.length<=sizeLine:=aAj (show N.length<=10000 by lia) (by symm);have r:(W.map I9).length<sizeLine:=by rw[aAf];show aCx (show W.length<=10000 by lia) (by symm)
    have s:wB 4 [a0,a1,a2,a3,.d N,.o (W.map I9),a6,a7,a8,.v (I9 q)] (I9 q) (.bl true)=.ok (.nx [a0,a1,a2,a3,.d (dH N (I9 q)<|.bl true),.o (W.map I9),a6,a7,a8,.v (I9 q)]):=by change(if _ then _ else _)=_;rw[gi {(GK q).1,(GK q).2,p}];rfl
    have t:zS 5 [a0,a1,a2,a3,.d (dH N (I9 q)<|.bl true),.o (W.map I9),a6,a7,a8,.v (I9 q)] (I9 (q.2,q.1))=.ok (.nx [a0,a1,a2,a3,.d (dH N (I9 q)<|.bl true),.o ((W++[(q.2,q.1)]).map I9),a6,a7,a8,.v (I9 q)]):=by change(if _ then _ else _)=_;rw[gi r,aBv];rfl
    change B7 ((R.ok<|I9 q).bind λu=>wB 4 [a0,a1,a2,a3,.d N,.o (W.map I9),a6,a7,a8,.v (I9 q)] u (D.bl true)) _=_;rw[R.aa0,s];show t
   rw[e];simp
  rw[m x,AK,aAe];constructor
  .rintro((h|h)|h)
   .show .inl h
   .show .inr (.inl (KB h))
   show .inr (.inr h)
  rintro(h|h|h)
  .show .inl (.inl h)
  .show .inl (.inr (by rw[h]))
  show .inr h
section
variable(Φ:(List D->R D)->Hp->(a5->Prop)->a5->Prop)
def ffB:Ev->R Out:=λa=>
 B7 ((FP 5 a).bind λz=>R.ok (Out.nx<|aCE z.snd 6<|Sl.v z.fst)) λa=>
  ((G6 6 a).bind (tV 4 a)).bind λt=>
   if t=true then
    B7
     ((((G6 6 a).bind λd=>((callC Φ 1 (j8 (λa=>(dG 6 a).bind λx=>W6 x (D.int 0)) N0) a).bind λd=>R.ok [d]).bind λb=>R.ok (d::b)).bind G1).bind λd=>R.ok (Out.nx<|aCE a 7<|Sl.v d))
     λa=>
     B7
      (((((dG 7 a).bind λx=>PP x none (some 3)).bind λd=>((callC Φ 2 (j8 (G6 7) N0) a).bind λd=>R.ok [d]).bind λb=>R.ok (d::b)).bind R6).bind λd=>R.ok (Out.nx<|aCE a 8<|Sl.v d))
      λa=>
      B7 ((((G6 7 a).bind λd=>((G6 8 a).bind λd=>R.ok [d]).bind λb=>R.ok (d::b)).bind fB).bind (zS 3 a))
       λa=>((((G6 8 a).bind λd=>R.ok [d]).bind C3).bind Z5).bind λb=>K1 (λd a=>R.ok (aCE a 9<|Sl.v d)) ffS b a
   else R.ok (Out.nx a)
def BZ(e f:List D->R D) (g:G.V×G.V) (fs:List D) (N:List (D×D)) (W:List (G.V×G.V)) (a b c d:Sl):Ev:=
 [Sl.v (I9 g),Sl.c e (Φ e),Sl.c f (Φ f),.o fs,.d N,.o (W.map I9),a,b,c,d]
end
def DI{Φ:(List D->R D)->Hp->(a5->Prop)->a5->Prop}{i:Nat}{f:Ev->R (List D)}{ρ:Ev}{m:List D->R D}{ds:List D}(h:ρ[i]?=some (.c m (Φ m)))(a:f ρ=.ok ds):callC Φ i f ρ=m ds:=by
 unfold callC
 nofun
def jY(J:List G.V)(fs:List (G.V×Int)):Nat:=(fs.map λf=>(G.d8 J f).length).sum
def gH(J:List G.V)(fs:List (G.V×Int))(f:G.V×Int):jY J (fs++[f])=jY J fs+(G.d8 J f).length:=by simp[jY]
def WY{J:List G.V}{m:G.V}(h:Land J m):Sz 1000 (G.d6 m J).1/\Sz 1000 (G.d6 m J).2:=by
 have a:=h.sz.1 m h.good.mem;let{j,e,f,g,i}:=G.DK h.good.solid h.good.mem h.good.least;unfold G.d6;dsimp only;split
 .show{a.mono,SU a}
 let{x,y,r,b}:=XR e g i;rw[b];have q:∀z∈x::y::r,Sz 1000 z:=λz d=>by rw[<-b]at d;show(h.sz.1 z (G.c5.mp d).1).mono
 show{q x (.head _),q y (.tail _ (.head _))}
def ZG{J:List G.V}{m:G.V}(h:Land J m){fs:List (G.V×Int)}{b:G.V×G.V->Prop}{W:List (G.V×G.V)}(L:G.LInv J (G.d6 m J) fs b W){p:G.V×G.V}(d:p∈W):Sz 1000 p.1/\Sz 1000 p.2:=by
 rcases L.wt p d with⟨f,g,i⟩|⟨_,e⟩
 .have S:=(L.face f g).aa2 h.good.ord;have a:=S.aa1.mp i;show{(h.sz.1 _ (G.c5.mp a.q).1).mono,(h.sz.1 _ (G.c5.mp a.p).1).mono}
 rw[e];show WY h
def WE{J:List G.V}{m:G.V}(h:Land J m){f:G.V×Int}(a:G.IsFace J f.1 f.2):(G.d8 J f).length<=J.length:=by have S:=a.aa2 h.good.ord;show G.p8 S.aa4 λx b=>(G.c5.mp<|S.aa3 b).1
def AM{J:List G.V}{f g:G.V×Int}(h:U5 (j7 J f)=U5 (j7 J g)):f=g:=by have h:[f.1.x,f.1.y,f.1.z,f.2]=[g.1.x,g.1.y,g.1.z,g.2]:=h;erw[aFS,and_true]at h;show aEr (G.ext h.1 h.2.1 h.2.2.1) h.2.2.2
def uM{d β:Type}{f:d->β}(g:∀a b,f a=f b->a=b){l:List d}(h:l.Nodup):(l.map f).Nodup:=aBM.mpr (h.imp λ{a b} n e=>n (g a b e))
def bj{Φ:(List D->R D)->Hp->(a5->Prop)->a5->Prop}{J:List G.V}{m:G.V}{i j:List D->R D}(hz:Land J m)(T:Tells J i j){fs:List (G.V×Int)}{N:List (D×D)}{W:List (G.V×G.V)}{a b c d:Sl}(L:G.LInv J (G.d6 m J) fs (λe=>I9 e∈N.map (·.1)) W)
  (hk:N.length<=jY J fs) (hW:W.length<=1+jY J fs) {n:Nat} (hn:W.length+(J.length*J.length-jY J fs)<n+1) (ah:W≠[]):
  ∃s t W' a' b' c' d',ffB Φ (BZ Φ i j (G.d6 m J) (fs.map (j7 J)) N W a b c d)=.ok (.nx (BZ Φ i j (G.d6 m J) (s.map (j7 J)) t W' a' b' c' d'))/\
   G.LInv J (G.d6 m J) s (λe=>I9 e∈t.map (·.1)) W'/\t.length<=jY J s/\W'.length<=1+jY J s/\W'.length+(J.length*J.length-jY J s)<n:=by
 obtain⟨rest,p,rfl⟩:∃rest p,W=rest++[p]:={W.dropLast,W.getLast ah,(List.dropLast_concat_getLast ah).symm};have w:=G.mW hz.good.solid hz.good.ord L.nd L.face;have few:=hz.few;have nn:J.length*J.length<=63*63:=aCq few few;have hsum:jY J fs+J.length<=J.length*J.length:=w;have E:(rest++[p]).length=rest.length+1:=by simp
 rw[E]at hW hn;have H:FP 5 (BZ Φ i j (G.d6 m J) (fs.map<|j7 J) N (rest++[p]) a b c d)=.ok (I9 p,BZ Φ i j (G.d6 m J) (fs.map<|j7 J) N rest a b c d):=by change(match((rest++[p]).map I9)[((rest++[p]).map I9).length-1]? with|some d=>_|none=>_:R (D×Ev))=_;rw[aBv];simp;rfl
 have I:tV 4 (BZ Φ i j (G.d6 m J) (fs.map<|j7 J) N rest (.v (I9 p)) b c d) (I9 p)=.ok (!(open Classical in decide (I9 p∈N.map (·.1)))):=by unfold tV;rw[show(BZ Φ i j (G.d6 m J) (fs.map<|j7 J) N rest (.v (I9 p)) b c d)[4]?=some (.d N)from rfl];dsimp only;rw[gi (GK p)]
 have O:S4 1000 J:=hz.sz.mono;unfold ffB;rw[H];show∃s t W' a' b' c' d',B7 (R.ok<|Out.nx<|BZ Φ i j (G.d6 m J) (fs.map<|j7 J) N rest (.v (I9 p)) b c d) _=_/\_;rw[C8];rw[show G6 6 (BZ Φ i j (G.d6 m J) (fs.map<|j7 J) N rest (.v (I9 p)) b c d)=.ok (I9 p)from rfl,R.aa0,I,R.aa0];by_cases u:I9 p∈N.map (·.1)
 .show{fs,N,rest,.v (I9 p),b,c,d,?_,G.XC hz.good L rfl u,hk,by lia,by lia};rw[gv u];rfl
 have k:p∈rest++[p]:=by simp
 let{y,n2,n3}:=G.tH hz.good L k u;let{A,B}:=ZG hz L k;let{pm,same}:=G.WI hz.good L k u;let{Q,ax,sub,lx,lo}:=T.about p.1 pm;have e0:=same Q sub lo;have U:=L7 A B (J:=Q) {λX hX=>O.1 X (sub X hX),lx} (by rw[e0];show y.prim);rw[e0]at U;have l:=CY A B O;obtain⟨f,ef⟩:∃f,G.b7 p.1 p.2 J=f:={_,rfl};rw[ef]at y n2 n3 U l;have po:=T.touched f y l;have Y:=kq (n:=f.1) (J:=G.m7 f.1 f.2 J) l.mono (VF O);have rl:=WE hz y;have Y:R6 [vd f.1,.lst ((G.m7 f.1 f.2 J).map vd)]=.ok (.lst ((G.d8 J f).map vd)):=Y;have pr:=WL (J:=G.d8 J f) (by lia);have L':=λ{wk'}{W'} h1 h2=>G.RN hz.good L (rest:=rest) (p:=p) rfl u (walked':=wk') (waiting':=W') h1 h2;rw[ef]at L';have nd':(fs++[f]).Nodup:=by
  have:=(L' (wk':=λe=>I9 e∈N.map (·.1)\/e∈G.Z0 (G.d8 J f)) (W':=rest++(G.Z0<|G.d8 J f).map λq=>(q.2,q.1)) (λe=>Iff.rfl) (λq=>by
   rw[aAO,aAh];constructor
   .rintro(h|⟨x,hx,rfl⟩)
    .show .inl h
    show .inr hx
   rintro(h|h)
   .show .inl h
   show .inr {_,h,rfl}))
  show this.nd
 have r:jY J (fs++[f])+J.length<=J.length*J.length:=G.mW hz.good.solid hz.good.ord nd' λg hg=>by
  rcases aAO.mp hg with z|z
  .show L.face g z
  rw[aAK.mp z];show y
 rw[gH]at r;have clen:(G.Z0<|G.d8 J f).length=(G.d8 J f).length:=by unfold G.Z0;simp;lia
 let{t,a9',run,C,len'}:=LR (a0:=Sl.v (I9<|G.d6 m J)) (a1:=Sl.c i (Φ i)) (a2:=Sl.c j (Φ j)) (a3:=.o ((fs++[f]).map (j7 J))) (a6:=.v (I9 p)) (a7:=.v (tZ f.1 f.2)) (a8:=.v (.lst ((G.d8 J f).map vd))) (G.Z0<|G.d8 J f) N rest d (by lia) (by lia);show{fs++[f],t,rest++(G.Z0<|G.d8 J f).map (λq=>(q.2,q.1)),.v (I9 p),.v (tZ f.1 f.2),.v (.lst ((G.d8 J f).map vd)),a9',?_,L' C (λq=>?_),?_,?_,?_}
 .have ap:zS 3 (BZ Φ i j (G.d6 m J) (fs.map<|j7 J) N rest (.v (I9 p)) (.v (tZ f.1 f.2)) (.v (.lst ((G.d8 J f).map vd))) d) (j7 J f)=.ok (.nx (BZ Φ i j (G.d6 m J) ((fs++[f]).map (j7 J)) N rest (.v (I9 p)) (.v (tZ f.1 f.2)) (.v (.lst ((G.d8 J f).map vd))) d)):=by change(if(fs.map<|j7 J).length<sizeLine then _ else _)=_;have h3:=G.fE hz.good.solid hz.good.ord L.face;have h3:3*fs.length<=jY J fs:=h3;rw[gi (by rw[aAf];show aCx (show fs.length<=4000 by lia) (by symm)),aBv];rfl
  have ca:callC Φ 1 (j8 (λρ=>(dG 6 ρ).bind λx=>W6 x (D.int 0)) N0) (BZ Φ i j (G.d6 m J) (fs.map<|j7 J) N rest (.v (I9 p)) b c d)=.ok (.lst (Q.map vd)):=by show(DI (m:=i) (ds:=[vd p.1]) rfl rfl).trans ax
  have ct:callC Φ 2 (j8 (G6 7) N0) (BZ Φ i j (G.d6 m J) (fs.map<|j7 J) N rest (.v (I9 p)) (.v (tZ f.1 f.2)) c d)=.ok (.lst ((G.m7 f.1 f.2 J).map vd)):=by show(DI (m:=j) (ds:=[tZ f.1 f.2]) rfl rfl).trans po
  have sl:PP (tZ f.1 f.2) none (some 3)=.ok (vd f.1):=rfl;rw[gu u];erw[Bool.not_false,if_true];rw[ca,R.aa0,R.aa0,R.aa0,R.aa0,U,R.aa0];change B7 (R.ok<|Out.nx<|BZ Φ i j (G.d6 m J) (fs.map<|j7 J) N rest (.v (I9 p)) (.v (tZ f.1 f.2)) c d) _=_;rw[C8];rw[ct];change B7 ((((R.ok<|tZ f.1 f.2).bind λx=>PP x none (some 3)).bind λd=>(R.ok [D.lst ((G.m7 f.1 f.2 J).map vd)]).bind λds=>R.ok (d::ds)).bind R6|>.bind λd=>R.ok (Out.nx<|aCE _ 8<|Sl.v d)) _=_;rw[R.aa0,sl,R.aa0,R.aa0,R.aa0,Y,R.aa0];change B7 (R.ok<|Out.nx<|BZ Φ i j (G.d6 m J) (fs.map<|j7 J) N rest (.v (I9 p)) (.v (tZ f.1 f.2)) (.v (.lst ((G.d8 J f).map vd))) d) _=_;rw[C8];change B7 (zS 3 (BZ Φ i j (G.d6 m J) (fs.map<|j7 J) N rest (.v (I9 p)) (.v (tZ f.1 f.2)) (.v (.lst ((G.d8 J f).map vd))) d)<|j7 J f) _=_;rw[ap,C8];change((C3 [.lst ((G.d8 J f).map vd)]).bind Z5).bind _=_;rw[pr,R.aa0];show run
 .rw[aAO,aAh];constructor
  .rintro(h|⟨x,hx,rfl⟩)
   .show .inl h
   show .inr hx
  rintro(h|h)
  .show .inl h
  show .inr {_,h,rfl}
 .rw[gH];lia
 .rw[gH,aAx,aAf];lia
 rw[gH,aAx,aAf];lia
def aj(J:List G.V)(f:G.V×Int):List (G.V×Int)->List (G.V×Int)
 |[]=>[f]
 |x::a=>if HT.lexLt (U5 (j7 J f)) (U5 (j7 J x))=true then f::x::a else x::aj J f a
def JQ(J:List G.V)(fs:List (G.V×Int)):List (G.V×Int):=fs.foldr (aj J) []
theorem AH(J:List G.V)(f:G.V×Int):∀xs:List (G.V×Int),yL U5 (j7 J f) (xs.map (j7 J))=(aj J f xs).map (j7 J)
 |[]=>rfl
 |x::xs=>by
  unfold aj;rw[aAq,yL];split
  .rfl
  rw[aAq,AH J f xs]
theorem fY(J:List G.V):∀fs:List (G.V×Int),sJ U5 (fs.map (j7 J))=(JQ J fs).map (j7 J)
 |[]=>rfl
 |f::fs=>by change yL U5 (j7 J f) (sJ U5 (fs.map (j7 J)))=_;rw[fY J fs,AH];rfl
def nH(h:j7 J f=j7 J g):f=g:=AM (by rw[h])
theorem iN:∀{a b:List (G.V×Int)},a.map (j7 J)=b.map (j7 J)->a=b
 |[],[],_=>rfl
 |[],_::_,h=>by cases h
 |_::_,[],h=>by cases h
 |x::a,y::b,h=>by rw[aAq,aAq]at h;injection h with d e;rw[nH d,iN e]
def NA:f∈JQ J fs↔f∈fs:=by
 have h:=(X3 U5<|fs.map<|j7 J).mem_iff (a:=j7 J f);rw[fY]at h;constructor
 .intro q;let{g,b,e}:=aAh.mp (h.mp<|aAt q);rw[<-nH e];show b
 intro q;let{g,b,e}:=aAh.mp (h.mpr<|aAt q);rw[<-nH e];show b
def vI[Tabs]{J:List G.V}{fs:List (G.V×Int)}(h:fs.Nodup):((fs.map (j7 J)).map U5).Nodup:=by rw[aBs];show uM (λa b e=>AM (J:=J) e) h
def M8(h:xP k l):l.Nodup:=h.imp λ{a b} q e=>by subst e;rw[TS.lex_irrefl]at q;cases q
def F1{J:List G.V}{fs:List (G.V×Int)}(h:(fs.map (j7 J)).Nodup):fs.Nodup:=(aBM.mp h).imp λ{a b} n e=>n (by rw[e])
def BE{J:List G.V}{fs a:List (G.V×Int)}(b:eJ J fs)(d:eJ J a):fs=a:=by
 have e:=F1 (M8 b.2);have g:=F1 (M8 d.2);have p:fs.Perm a:=(aDL e g).mpr λf=>by rw[b.1,d.1]
 show iN (lW b.2 d.2 (p.map _))
def tT(h:eJ J fs):j0 J=fs:=by unfold j0;have q:∃fs,eJ J fs:={fs,h};rw[dif_pos q];show BE q.choose_spec h
def vV[Tabs]{J:List G.V}{fs:List (G.V×Int)}(a:fs.Nodup)(h:∀n d,(n,d)∈fs↔G.IsFace J n d):eJ J (JQ J fs):=by show{λf=>by rw[NA];show h f.1 f.2,?_};rw[<-fY];show nD (vI a)
def TH[Tabs]{Φ:(List D->R D)->Hp->(a5->Prop)->a5->Prop}{J:List G.V}{m:G.V}{k l:List D->R D}(hz:Land J m)(t:J.length<=33)(T:Tells J k l):
  J0 (B7 (U7 ffC (ffB Φ) 5000 (BZ Φ k l (G.d6 m J) [] [] [G.d6 m J] .no .no .no .no)) λρ=>(((dG 3 ρ).bind sfR).bind λds=>R.ok (D.lst ds)).bind λd=>R.ok (Out.rt d))=.ok (.lst ((j0 J).map (j7 J))):=by
 show wH (Iv:=λn ρ=>∃fs N W a b c d,ρ=BZ Φ k l (G.d6 m J) (fs.map<|j7 J) N W a b c d/\G.LInv J (G.d6 m J) fs (λe=>I9 e∈N.map (·.1)) W/\N.length<=jY J fs/\W.length<=1+jY J fs/\W.length+(J.length*J.length-jY J fs)<n) ?_ ?_ ?_ (by rintro ρ ⟨_,_,_,_,_,_,_,_,_,_,_,h⟩;lia)
 .rintro n ρ ⟨fs,N,W,a,b,c,d,rfl,L,u,v,w⟩;by_cases i:W=[]
  .subst i;show .inl rfl
  show .inr {?_,?_}
  .have x:(0:Int)<((W.map I9).length:Int):=by have:=aEQ.mpr i;rw[aAf];lia
   change(R.ok<|D.bl<|decide ((0:Int)<((W.map I9).length:Int))).bind AG=_;rw[gv x];rfl
  let{y,A,B,C,E,H,I,e,O,Q,o,q}:=bj (Φ:=Φ) (a:=a) (b:=b) (c:=c) (d:=d) hz T L u v w i;show{_,e,y,A,B,C,E,H,I,rfl,O,Q,o,q}
 .show{[],[],[G.d6 m J],.no,.no,.no,.no,rfl,?_,aAi _,aAi _,?_}
  .have:=G.EF hz.good;show{this.face,this.nd,λe=>?_,this.cl,this.wt,this.ne};rw[<-this.wk e];simp
  have nn:J.length*J.length<=33*33:=aCq t t;change 1+(J.length*J.length-0)<5000
  lia
 rintro n ρ ⟨fs,N,W,a,b,c,d,rfl,L,u,v,w⟩ j;have r:W=[]:=by
  cases W with
  |nil=>rfl
  |cons p W=>have j:(R.ok<|D.bl<|decide ((0:Int)<(((p::W).map I9).length:Int))).bind AG=.ok false:=j;rw[gv (by simp;try lia)]at j;cases j
 subst r;let{i,s}:=G.QI hz.good L;have U:=vV L.nd s;rw[tT U];have g:fs≠[]:=λz=>by have Y:=G.Y9 hz.good.solid hz.good.ord hz.good.mem hz.good.least;have:=(s _ _).mpr Y;rw[z]at this;cases this
 have few:=(G.rT hz.good.solid hz.good.ord (λf=>s f.1 f.2) L.nd g).1;have vf:(fs.map<|j7 J).length<=63:=by rw[aAf];lia
 have sf:sfR (.lst (fs.map<|j7 J))=.ok ((JQ J fs).map (j7 J)):=by change(if _ then _ else _)=_;rw[gi {aBA.mpr λd hd=>by let{f,_,rfl}:=aAh.mp hd;rfl,vI L.nd,vf},fY]
 change J0 ((((R.ok<|D.lst<|fs.map<|j7 J).bind sfR).bind λds=>R.ok (D.lst ds)).bind λd=>R.ok (Out.rt d))=_;rw[R.aa0,sf];rfl
theorem yB:∀{ds:List D},(∀d∈ds,∃v,d=vd v)->(ds.filterMap zC).map vd=ds
 |[],_=>rfl
 |d::ds,h=>by let{v,rfl}:=h d (.head _);rw[List.filterMap_cons_some (xJ v),aAq,yB λd a=>h d (.tail _ a)]
section
variable [Tabs]
def XH(J:List G.V):∀d∈J.map vd,bR d=true:=λd a=>by let{v,_,rfl}:=aAh.mp a;rfl
def cN(J:List G.V):W9 (J.map vd)=(c7 J).map vd:=by unfold c7;show(yB λd a=>?_).symm;let{v,_,rfl}:=aAh.mp ((A3 (XH J) d).mp a);show{v,rfl}
def l6(J:List G.V):(c7 J).Pairwise λa b=>G.d7 (b-a):=a3q (by rw[<-cN];show R8 _)
def XI{v:G.V}{J:List G.V}:vd v∈J.map vd↔v∈J:=by rw[aAh];show{by rintro⟨u,a,e⟩;rw[<-xL e];show a,λh=>{v,h,rfl}}
def i8{J:List G.V}{v:G.V}:v∈c7 J↔v∈J:=by rw[<-XI,<-cN,A3 (XH J),XI]
def B6(J:List G.V):(c7 J).Nodup:=(l6 J).imp λ{a b} h e=>by subst e;show G.K7 h
def J7{a b:List G.V}(g:a.Pairwise λa b=>G.d7 (b-a))(i:b.Pairwise λa b=>G.d7 (b-a))(h:∀v,v∈a↔v∈b):a=b:=by show YW (eI (HN g) (HN i) λd=>?_);rw[aAh,aAh];show{λ⟨v,f,e⟩=>{v,(h v).mp f,e},λ⟨v,f,e⟩=>{v,(h v).mpr f,e}}
def SJ(h:(c7 J).length<=63):ssR (.lst (J.map vd))=.ok ((c7 J).map vd):=by change(if _ then _ else _)=_;rw[gi {WS J,by rw[cN,aAf];show h},cN]
def gD(h:G.f8 a)(d:∀v,v∈a->v∈b):G.f8 b:=by let{A,f,B,g,C,i,D,j,e}:=h;show{A,d A f,B,d B g,C,d C i,D,d D j,e}
def a3u(h:G.f8 J):G.Q4 J=3:=by
 by_cases e:G.Q4 J=3
 .show e
 show gs h (G.UM e)
def bX(J:List G.V):(c7 J).length<=J.length:=G.p8 (B6 J) λv a=>i8.mp a
def M5(f:S4 900 J)(g:G.f8 J)(d:(c7 J).length<=63):∃m r,c7 J=m::r/\Land (m::r) m:=by
 have a:G.f8 (c7 J):=gD g λv i=>i8.mpr i;cases e:c7 J with
 |nil=>rw[e]at a;let{A,j,_}:=a;cases j
 |cons m r=>
  show{m,r,rfl,?_};have b:=l6 J;rw[e]at a d b;show{{a,b,.head _,λX k=>?_},{λP l=>f.1 P (i8.mp (by rw[e];show l)),by lia},d,rfl};rcases aAe.mp k with h|h
  .show .inl h
  show .inr ((aAw.mp b).1 X h)
def oz(a:S4 1000 J)(b:G.f8 J):L3 [.lst (J.map vd)]=.ok .non:=by erw[L3,u5];show gi {a,a3u b}
def uq(h:Land (m::J) m):K9 [.lst ((m::J).map vd)]=.ok (I9 (G.d6 m (m::J))):=by erw[K9,u5];show gi h
def SV(hz:Land J m)(a:J.length<=33)(T:Tells J d f):B4 (I9 (G.d6 m J)) d f=.ok (.lst ((j0 J).map (j7 J))):=by have h:∃J,FF (I9<|G.d6 m J) d f J:={J,m,hz,a,rfl,T};unfold B4;have g:∃b,FF (I9<|G.d6 m J) d f b:={J,m,hz,a,rfl,T};rw[dif_pos g];let{o,j,k,e,l}:=g.choose_spec;have n:=TH (Φ:=λ_ _ _ _=>True) hz a T;have i:=TH (Φ:=λ_ _ _ _=>True) j k l;rw[<-KB e]at i;show i.symm.trans n
def yG(h:Land J m):Tells J (kQ [.lst (J.map vd)]) (cF [.lst (J.map vd)])where
 about:=λP e=>{J,rfl,λX h=>h,h.sz.2,λn a X b=>a X b}
 touched:=λf g sz=>lO (d:=f.2) sz.mono h.sz.mono
def a0u(h:Land (m::J) m)(a:(m::J).length<=23):B4 (I9 (G.d6 m (m::J))) (kQ [.lst ((m::J).map vd)]) (cF [.lst ((m::J).map vd)])=.ok (.lst ((j0 (m::J)).map (j7 (m::J)))):=SV h (by lia) (yG h)
def BI(a:S4 900 J)(b:G.f8 J)(d:(c7 J).length<=23):Y6 [.lst (J.map vd)]=.ok (.lst ((j0 (c7 J)).map (j7 (c7 J)))):=by erw[Y6,u5];show gi {a,b,d}
def cw(a:S4 900 J)(b:G.f8 J)(d:(c7 J).length<=23):bN [.lst (J.map vd)]=.ok (.lst ((o6 J).map vd)):=by erw[bN,u5];show gi {a,b,d}
omit [Tabs]in
theorem a5u{d:Type}:∀l:List d,∃b:List d,b.Nodup/\∀x,x∈b↔x∈l
 |[]=>{[],aDp,λ_=>Iff.rfl}
 |a::l=>by
  let{b,f,h}:=a5u l;by_cases g:a∈l
  .show{b,f,λx=>by rw[h,aAe];show{.inr,λq=>q.elim (λe=>by rw[e];show g) id}}
  show{a::b,aBi.mpr {λz=>g ((h a).mp z),f},λx=>by rw[aAe,aAe,h]}
def D8(h:Land J m)(o:J.length<=23):eJ J (j0 J):=by
 classical
 let{fs,g,a}:=a5u ((G.cands J).filter λf=>decide (G.IsFace J f.1 f.2));have i:∀n d,(n,d)∈fs↔G.IsFace J n d:=λn d=>by
  rw[a,aAH];constructor
  .intro q;show of_decide_eq_true q.2
  intro q;show{?_,gv q};let{A,j,B,k,C,l,_,e}:=G.mJ q;unfold G.cands;rw[<-e];show aAQ.mpr {A,j,aAQ.mpr {B,k,aAh.mpr {C,l,rfl}}}
 have b:=vV g i;rw[tT b];show b
theorem oO:∀(xs:List D) (b:List (List G.V)) (B:List G.V) (x y:Sl),vO xs=some b->B.length+b.flatten.length<=3000->
  ∃g i,K1 (sW 2 (cU (λd ρ=>R.ok (aCE ρ 2 (Sl.v d))) (cU (λd ρ=>R.ok (aCE ρ 3 (Sl.v d))) BS))) (λρ=>(G6 3 ρ).bind (a0p 1 ρ)) xs [a,.o (B.map vd),x,y]=.ok (.nx [a,.o ((B++b.flatten).map vd),g,i])
 |[],b,B,x,y,h,_=>by cases h;show{x,y,by simp}
 |d::xs,b,B,x,y,h,k=>by
  unfold vO at h;split at h
  .rename_i v l f m;cases h;obtain⟨p,j,rfl,n⟩:∃p j,d=.tup [p,.lst j]/\F9 j=some v:=by
    unfold a1a at f;split at f
    .show{_,_,rfl,f}
    cases f
   have q:=t8 n;subst q;rw[List.flatten_cons,aAx]at k;let{g,i,e}:=oO xs l (B++v) (.v p) (.v (.lst (v.map vd))) m (by rw[aAx];lia);show{g,i,?_};have r:(B.map vd).length+(v.map vd).length<=sizeLine:=by rw[aAf,aAf];show UD (by lia)
   show(K4 (ρ1:=[a,.o (B.map vd),.v p,.v (.lst (v.map vd))]) (ρ2:=[a,.o ((B++v).map vd),.v p,.v (.lst (v.map vd))]) rfl ?_).trans ?_
   .change(if(B.map vd).length+(v.map vd).length<=sizeLine then _ else _)=_;rw[gi r,aBv];rfl
   rw[e,List.flatten_cons,aDe]
  cases h
theorem oE(J:List G.V):∀fs:List (G.V×Int),vO (fs.map (j7 J))=some (fs.map (G.d8 J))
 |[]=>rfl
 |f::fs=>by rw[aAq,vO,oE J fs];rw[show a1a (j7 J f)=some (G.d8 J f)from u5 _];rfl
def tP{J:List G.V}{fs:List (G.V×Int)}(a:(fs.flatMap (G.d8 J)).length<=3000)(b:(c7 (fs.flatMap (G.d8 J))).length<=63):F5 [.lst (fs.map (j7 J))]=.ok (.lst ((c7 (fs.flatMap (G.d8 J))).map vd)):=by have e:(fs.map<|G.d8 J).flatten=fs.flatMap (G.d8 J):=rfl;erw[F5,oE,e];show gi {a,b}
def rN(d:J.Pairwise λa b=>G.d7 (b-a))(e:G.IsFace J f.1 f.2)(h:X∈G.d8 J f):X∈J:=(G.c5.mp<|(e.aa2 d).aa3 h).1
def bQ(g:S4 900 J)(i:G.f8 J)(a:(c7 J).length<=23)(h:X∈o6 J):X∈J:=by let{m,r,e,L}:=M5 g i (by lia);unfold o6 at h;rw[i8,aAQ]at h;let{f,b,d}:=h;rw[e]at b d a;have j:=D8 L a;have:=rN L.good.ord ((j.1 f).mp b) d;rw[<-e,i8]at this;show this
def nI(L:Land J m)(b:J.length<=23):((j0 J).flatMap (G.d8 J)).length<=200/\(c7 ((j0 J).flatMap (G.d8 J))).length<=23:=by
 have a:=D8 L b;have e:=F1 (M8 a.2);have g:j0 J≠[]:=λz=>by have h:=G.Y9 L.good.solid L.good.ord L.good.mem L.good.least;have:=(a.1 _).mpr h;rw[z]at this;cases this
 have few:=(G.rT L.good.solid L.good.ord a.1 e g).2;constructor
 .rw[List.length_flatMap]
  lia
 show aAj (G.p8 (B6 _) λv d=>?_) b;rw[i8,aAQ]at d;let{f,i,j}:=d;show rN L.good.ord ((a.1 f).mp i) j
end
def QM(h:0<b):BP (.int a) (.int b)=.ok (.int (a.fmod b)):=qN (by omega)
def uW(h:0<b)(d:b<1000000000000000):iG (.int a) (.int b)=.ok (.int (a.fdiv b)):=nJ {by omega,f6 (aD (n:=60) (by omega) (by omega))}
def IE{a b:Int}(h:0<b):0<=a.fmod b/\a.fmod b<b:=by have g:=(aEF a b).2.2.1 h;omega
def p9(a:r=.ok (.nx ρ))(b:J0 (F ρ)=x):J0 (B7 r F)=x:=by rw[a];show b
def a8o{n:Nat}(h:n<=1000000):nC [.int (n:Int)]=.ok ((aBI n).map λ(k:Nat)=>D.int (k:Int)):=by
 change(if vN 0 (n:Int) 1 then R.ok (GB 0 1<|qH 0 n 1)else R.bad)=_;rw[gi {by symm,by symm,by symm,by symm,by omega,by omega}];have e:qH 0 (n:Int) 1=n:=by
  unfold qH;split
  .simp
  omega
 unfold GB
 nofun
section
variable [Tabs]
def rM{J:List G.V}(h:S4 900 J)(i:G.f8 J)(d:(c7 J).length<=23):∀X,X∈o6 J↔∃f:G.V×Int,G.IsFace (c7 J) f.1 f.2/\X∈G.d8 (c7 J) f:=λX=>by let{m,r,e,L}:=M5 h i (by lia);unfold o6;rw[i8,aAQ];rw[e]at d⊢;have g:=D8 L d;show{by rintro⟨f,a,b⟩;show{f,(g.1 f).mp a,b},by rintro⟨f,a,b⟩;show{f,(g.1 f).mpr a,b}}
def AT{l:List G.V}(h:l.Pairwise λa b=>G.d7 (b-a)):c7 l=l:=J7 (l6 _) h λv=>i8
def gK{J:List G.V}(k:S4 900 J)(l:G.f8 J)(o:(c7 J).length<=23):G.f8 (o6 J)/\S4 900 (o6 J)/\c7 (o6 J)=o6 J/\(o6 J).length<=23/\o6 (o6 J)=o6 J/\∀n d,G.IsFace (o6 J) n d↔G.IsFace (c7 J) n d:=by
 have q:=rM k l o;have g:(o6 J).Pairwise λa b=>G.d7 (b-a):=l6 _;have p:G.f8 (c7 J):=gD l λv h=>i8.mpr h;have s:=l6 J;let{m,r,e,L}:=M5 k l (by lia);have t:eJ (c7 J) (j0<|c7 J):=by have i:=o;rw[e]at i⊢;show D8 L i
 have y:(o6 J).length<=23:=by have i:=o;unfold o6;rw[e]at i⊢;show(nI L i).2
 have B:j0 (c7 J)≠[]:=λz=>by
  let{A,N,_}:=p;have:∃f:G.V×Int,G.IsFace (c7 J) f.1 f.2:=by have j:=L;rw[<-e]at j;have:=G.Y9 j.good.solid j.good.ord j.good.mem j.good.least;show{_,this}
  let{f,u}:=this;have:=(t.1 f).mpr u;rw[z]at this;cases this
 let{E,w}:=aDO _ B;have C:=G.JT p s g q ((t.1 E).mp w);have sz:S4 900 (o6 J):={λP H=>k.1 P (bQ k l o H),by lia};have x:=AT g;show{C,sz,x,y,?_,λn d=>G.jx p s g q _ B t.1};show J7 (l6 _) g λv=>?_;have I:=rM sz C (by rw[x];show y) v;change v∈o6 (o6 J)↔_;rw[I,x];constructor
 .rintro⟨f,u,h⟩;show rN g u h
 showλh=>G.UR p s g q h
end
def a2n{J:List G.V}{A B C D:G.V}(a:A∈J)(b:B∈J)(d:C∈J)(e:D∈J)(h:G.e9 (B-A) (C-A) (D-A)≠0):G.f8 J:={A,a,B,b,C,d,D,e,h}
end M
namespace DL
open PySem PySem.Spec L2
def Got(K:gy)(x:Str)(st:br):Prop:=∃f a,PySem.W.nsIn K bg x=some (some<|.ref f)/\Fun K x x st f a
def UQ(K:gy)(x:Str)(st:br)(Pt:a5):Prop:=∃f b a,PySem.W.nsIn K bg x=some (some<|.ref f)/\PySem.W.codeHdIn K a Pt=true/\FunC K x x st f b a
def bS(K:gy)(mg:dJ)(x:Str)(st:br):Prop:=∃f a,mg x=some (.ref f)/\Fun K x x st f a
def a2z(K:gy)(mg:dJ)(x:Str)(st:br)(Pt:a5):Prop:=∃f b a,mg x=some (.ref f)/\PySem.W.codeHdIn K a Pt=true/\FunC K x x st f b a
section
variable{kV doc pm L ct:af}
def a3h(a:PySem.W.nsIn K bg x=some (some (.ref f)))(l:K.lookup f=some {d,e,.func (PySem.W.fnOf x x (A2 st) (k7 st) (b9 st) .none kV doc pm g L ct),b})
 (c:PySem.W.codeIn K L x=true) (k:PySem.W.keepIn K (.ref f)=true):Got K x st:={f,_,a,XD l c k}
def jq(a:PySem.W.nsIn K bg x=some (some (.ref f)))(l:K.lookup f=some {d,g,.func (PySem.W.fnOf x x (A2 st) (k7 st) (b9 st) .none kV doc pm h L ct),b})
 (c:PySem.W.codeIn K L x=true) (k:PySem.W.keepIn K (.ref f)=true) (e:L=.ref cd) (n:PySem.W.codeHdIn K cd Pt=true):UQ K x st Pt:={f,_,cd,a,n,YN l e c k}
def Got.def(g:Got K x st)(X:K.In h)(G:h.Ns bg mg):bS K mg x st:=by let{f,d,a,b}:=g;show{f,d,PySem.W.mg_of X G a,b}
def UQ.def(g:UQ K x st Pt)(X:K.In h)(G:h.Ns bg mg):a2z K mg x st Pt:=by let{f,d,e,a,b}:=g;show{f,d,e,PySem.W.mg_of X G a,b}
def E9(a:sc.kind=.function<|>1)(b:sc.isCoroutine=false<|>1)(d:sc.isGenerator=false<|>1)(e:N.Nodup<|>3)(f:N.take ps.length=ps<|>1)(g:(∀x∈ps,sc.names.lookup x=some .local\/sc.names.lookup x=some .cell)<|>3)(h:(∀y∈sc.names,y.2≠.free)<|>3):FnScope N ps sc:={a,b,d,e,f,g,h}
variable [Tabs]
def l9(g:bS K mg x st)(S:FnScope N ps (b9 st))(e:∀{f:a5}{L:af}{A:be}{outer:List Env}{s:ai}{H:Hp}{E:XK},Room k (A.deeper (aBL x (b9 st) s.heap.objs.size f L))->(A.deeper (aBL x (b9 st) s.heap.objs.size f L)).units+64<cf->(A.deeper (aBL x (b9 st) s.heap.objs.size f L)).units+130<cf->N.Nodup->
  aK (MI P w K mg base N x (b9 st) f L A outer s H E) (k7 st) F) (h:∀ds d,ds.length=ps.length->m ds=.ok d->J0 (F (j3 N ds))=.ok d) (i:∀(kV doc pm:af) (j:Option a5) (L ct:af) (us:List af),us.length=ps.length->bindArgs (PySem.W.fnOf x x (A2 st) (k7 st) (b9 st) .none kV doc pm j L ct) {us,[]}=pure (ps.zip us):=by
  intro _ _ _ _ _ _ us l;rcases us with _|⟨_,_|⟨_,_|⟨_,_|⟨_,_|⟨_,_|⟨_,_|⟨_,_⟩⟩⟩⟩⟩⟩⟩<;>first|rfl|show gs l (by simp)):v8 P w K mg base (k+1) x ps.length m:=by
 let{f,o,n,b}:=g;show a1s b S (b.binds i) n (λL A outer s H E a=>e a a.units a.ac6 S.nd) h
end
def uw(x:D)(a:List D):Bool:=a.any λy=>w8 y x
def inR(n:Bool):D->D->R D
 |.tup a,.lst b=>if y9 b<=40/\y9 a<=30 then .ok (.bl (uw (.tup a) b !=n))else .bad
 |.lst a,.lst b=>if y9 b<=40/\y9 a<=30 then .ok (.bl (uw (.lst a) b !=n))else .bad
 |_,_=>.bad
section
variable [Tabs]
open Classical in
def ZY(K:gy) (H:Hp) (O:a5->Prop) (a:D) (u:af):Bool:=decide (∃y d,RelV y u/\Rep K H O y d/\w8 d a=true)
open Classical in
def VX(I:Inv X Y j H s)(r:Rep X.K H O y d)(b:RelV y u):ZY X.K H O f u=w8 d f:=by
 by_cases h:w8 d f=true
 .rw[h];show gv {y,d,b,r,h}
 rw[Bool.eq_false_iff.mpr h];show gu λ⟨k,l,a,g,i⟩=>h ?_;have e:=RelV.inj b a;subst e;rw[Rep.inj I r g];show i
theorem FW(I:Inv X Y q H s)(g:Rep X.K H w x f)(i:RelV x v):∀{vs:List V}{a:List D}{us:List af},Reps X.K H O vs a->l7 vs us->A.units+y9 a<cf->A.units+D6 f<cf->
  (∀u∈us,SeqAt.EqAt A s u v (ZY X.K H O f u))/\us.any (ZY X.K H O f)=uw f a:=by
 intro _ _ _ m k l e;cases m with
 |nil=>cases k;show{λu l=>(by cases l),rfl}
 |@cons _ d _ a h t=>
  cases k with
  |cons r n=>
   have y:D6 d<=y9 (d::a):=pM (j:=0) rfl;have z:y9 a<=y9 (d::a):=by rw[y9];show Nat.le_max_right _ _
   let{o,p}:=FW I g i t n (by lia) e;show{λu b=>?_,?_}
   .rcases aAe.mp b with rfl|b
    .rw[VX I h r];show XN I h g r i (by lia) e
    show o u b
   rw[List.any_cons,p,VX I h r];rfl
end
section
variable [Tabs]
def QD(hu:X.A.units+64<cf):mL X (cT .NotIn) (inR true):=by
 intro H O x y dx dy Q fr T U q;unfold inR at q;split at q
 .rename_i e j;split at q
  .rename_i hd;let{k,gm,rfl,l,n}:=T.tupI;let{a,vs,rfl,h,r}:=U.aa5;show{λf g b i=>f=.ref k/\g=.ref a/\b=H/\i (.bl (!uw (.tup e) j)) H,?_,rfl,rfl,rfl,?_}
   .intro Y s σ b f g v u i I o t ⟨B,C,E,J⟩;subst B C E;cases t;let{d,L,p,hz}:=I.list h;have m:=FW I (A:=X.A.in1) (O:=O) (Rep.tup l n) o r L (by rw[p6];lia) (by rw[p6,D6];lia);show SeqAt.notIn_listAt (ZY X.K b O<|.tup e) p.isList (λw N=>m.1 w (by exists N)) {.bl _,b,I,rfl,?_};rw[show d.toArray.any (ZY X.K b O<|.tup e)=d.any (ZY X.K b O<|.tup e)by simp,m.2];show J
   have:=q (.bl _) H (Same.refl _) .bl;exists this
  show q.elim
 .rename_i e j;split at q
  .rename_i hd;let{k,gm,rfl,l,n}:=T.aa5;let{a,vs,rfl,h,r}:=U.aa5;show{λf g b i=>f=.ref k/\g=.ref a/\b=H/\i (.bl (!uw (.lst e) j)) H,?_,rfl,rfl,rfl,?_}
   .intro Y s σ b f g v u i I o t ⟨B,C,E,J⟩;subst B C E;cases t;let{d,L,p,hz}:=I.list h;have m:=FW I (A:=X.A.in1) (O:=O) (Rep.lst (O:=λ_=>False) l (λz=>z)<|n.sub λ_ z=>z.elim) o r L (by rw[p6];lia) (by rw[p6,D6];lia);show SeqAt.notIn_listAt (ZY X.K b O<|.lst e) p.isList (λw N=>m.1 w (by exists N)) {.bl _,b,I,rfl,?_};rw[show d.toArray.any (ZY X.K b O<|.lst e)=d.any (ZY X.K b O<|.lst e)by simp,m.2];show J
   have:=q (.bl _) H (Same.refl _) .bl;exists this
  show q.elim
 show q.elim
end
end DL
namespace DL
open PySem PySem.Spec L2
open PyProof.Rows hiding St st
variable [Tabs]
section
def RSF(X:Cx)(e:Hp)(f:a5->Prop)(r:R (List D))(D:Ends):Prop:=match r with
 |.ok g=>∀d b a,Same e b->b a=none->Reps X.K b f d g->D.rt (.ref a) (upd b a<|.lst d)
 |_=>False
def tSF(X:Cx)(a:Hp)(b:a5->Prop)(F:Ev->R (List D)):TS:=λD e H=>∃O d,EnvOk X.K a b H O e d/\V9 X.K O/\RSF X a b (F d) D
def fx(X:Cx)(st:List br)(F:Ev->R (List D)):Prop:=∀a b,uF X st (tSF X a b F)
def uk(r:R Out)(F:Ev->R (List D)):R (List D):=match r with
 |.ok (.nx a)=>F a
 |_=>.bad
@[simp]def a4l(ρ:Ev)(F:Ev->R (List D)):uk (.ok (.nx ρ)) F=F ρ:=rfl
def eV(g:PF X e f):fx X [.Return (some e) h] f:=λi j=>kF (qA<|xE g)<|by rintro D o H ⟨O,d,E,p,q⟩;show⟨i,j,O,d,E,by
 cases b:f d with
 |ok s=>rw[b]at q;showλk l a m n r=>q k l a (E.same.trans m) n (r.sub E.sub)
 |ex x=>rw[b]at q;show q.elim
 |bad=>rw[b]at q;show q⟩
def wX{st:br}{rest:List br}(e:nU X st F)(f:fx X rest G):fx X (st::rest) (λρ=>uk (F ρ) G):=λb d=>kF (rL (e b d)<|f b d)<|by rintro D m H ⟨O,ρ,E,g,q⟩;show⟨O,ρ,E,g,by
 dsimp only at q;cases a:F ρ with
 |ok o=>
  rw[a]at q;cases o with
  |nx h=>showλn p i j l k=>{i,h,j,l,q}
  |_=>show(q).elim
 |ex x=>rw[a]at q;show(q).elim
 |bad=>rw[a]at q;show(q).elim⟩
def spW(K:gy)(n:Nat)(m:List D->R D):Sp:=λg H Q _=>∃O d e,Reps K H O g d/\d.length=n/\(∀a,O a->∃o,H a=some o/\Mt o)/\Tb H/\V9 K O/\m d=.ok (.lst e)/\∀f b a,Same H b->b a=none->Reps K b O f e->Q (.ref a) (upd b a<|.lst f)
def a0k(r:R (List D)):R D:=r.bind λa=>.ok (.lst a)
@[simp]def a7f(ds:List D):a0k (.ok ds)=.ok (.lst ds):=rfl
def LP(h:a0k r=.ok d):∃a,r=.ok a/\d=.lst a:=by
 cases r with
 |ok a=>nofun
 |ex x=>cases h
 |bad=>cases h
def unl(r:R D):R (List D):=match r with
 |.ok (.lst a)=>.ok a
 |.ex x=>.ex x
 |_=>.bad
@[simp]def a9r(ds:List D):unl (.ok (.lst ds))=.ok ds:=rfl
def dN(P:bb)(w:bo)(K:gy)(mg:dJ)(base:bt)(k:Nat)(x:Str)(n:Nat)(m:List D->R D):Prop:=
 (∃g a b,FnOk P w K mg base uB k g a b (spW K n m)/\Binds K a b []/\PySem.W.keepIn K (.ref g)=true/\mg x=some (.ref g))/\∀e d,e.length=n->m e=.ok d->∃f,d=.lst f
def dN.cal{K:gy}(c:dN P w K mg base k x n m):v8 P w K mg base k x n m:=by let{{g,p,s,F,b,t,e},u}:=c;show{g,p,s,F.imp λI H Q E z=>?_,b,t,e};let{O,h,d,r,i,j,v,y,e,q}:=z;let{A,rfl}:=u h d i e;show{O,h,A,r,i,j,v,y,e,λJ L a l f B=>q _ _ (l.trans<|j1 f _) (.lst (M4.of i9) (λz=>?_) (B.same<|j1 f _))};let{o,C,_}:=j a z;rw[l _ _ C]at f;cases f
def eS{K:gy}{st:br}(g:bS K mg x st)(S:FnScope N ps (b9 st))(o:∀{f:a5}{L:af}{A:be}{outer:List Env}{s:ai}{H:Hp}{E:XK},Room k (A.deeper (aBL x (b9 st) s.heap.objs.size f L))->(A.deeper (aBL x (b9 st) s.heap.objs.size f L)).units+64<cf->(A.deeper (aBL x (b9 st) s.heap.objs.size f L)).units+130<cf->N.Nodup->
   fx (MI P w K mg base N x (b9 st) f L A outer s H E) (k7 st) F) (l:∀ds d,ds.length=ps.length->m ds=.ok d->a0k (F (j3 N ds))=.ok d) (p:∀(kV h t:af) (u:Option a5) (L ct:af) (us:List af),us.length=ps.length->bindArgs (PySem.W.fnOf x x (A2 st) (k7 st) (b9 st) .none kV h t u L ct) {us,[]}=pure (ps.zip us):=by
   intro _ _ _ _ _ _ us a;rcases us with _|⟨_,_|⟨_,_|⟨_,_|⟨_,_|⟨_,_|⟨_,_|⟨_,_⟩⟩⟩⟩⟩⟩⟩<;>first|rfl|show gs a (by simp)):dN P w K mg base (k+1) x ps.length m:=by
 let{f,v,y,i}:=g;show{{f,v,ps,i.ok S (λB H Q E z=>?_) (λL A outer s H B Q E j z=>?_),i.binds p,i.kp,y},λds d a e=>?_}
 .let{O,ds,d,r,a,_}:=z;rw[r.length];show a
 .let{O,ds,d,r,a,C,I,J,e,q}:=z;show{_,o j j.units j.ac6 S.nd H O,O,_,gF r C I,J,?_};let{n,T,b}:=LP (l ds _ a e);injection b with b;subst b;rw[T];show q
 let{n,_,b}:=LP (l ds d a e);show{n,b}
def AD(c:dN X.prog X.w X.K X.mg X.base k x n m)(u:Room k X.A)(j:EA X (e::es) f)(o:CQ f n)(v:Gl X x<|>1)(y:(x==gA)=false<|>2)(B:ag (e::es) X.env=(false,cu e X.env)::ag es X.env<|>1)(G9:(cq l (ag es X.env)).any (·.1)=false<|>1):
  PF X (.Call (.Name x p) (e::es) [] l) (λρ=>(f ρ).bind λds=>unl (m ds)):=by
 let{{g,gd,ps,F,b,C,em},J}:=c;show wZ λY s L H Q I N T O ρ E q=>(yC F u v em C b .nil XO j y B G9 Y s L H Q I {N,T,O,ρ,E,?_});dsimp only at q;cases i:f ρ with
 |ex z=>rw[i]at q;show q
 |bad=>nofun
 |ok ds=>
  rw[i,R.aa0]at q;intro vs H1 r U;rw[aBS];have t:=E.grow r;cases h:m ds with
  |ex z=>rw[h]at q;show(q H<|Same.refl _).elim
  |bad=>rw[h]at q;show(q).elim
  |ok d=>rw[h]at q;let{rs,rfl}:=J ds d (o ρ ds i) h;show{O,ds,rs,U,o ρ ds i,t.trk,t.tab,pH I O E.trk,h,λws H2 a s2 j r2=>q ws H2 a (r.trans s2) j r2}
end
section
mutual
theorem UZ{K:gy}{H:Hp}{O a:a5->Prop}:∀{v:V}{d:D},pA d=true->Rep K H O v d->Rep K H a v d
 |_,_,_,.int=>.int
 |_,_,h,.tup t r=>.tup t (wE h r)
 |_,_,h,.non=>(by cases h)
 |_,_,h,.bl=>(by cases h)
 |_,_,h,.str=>(by cases h)
 |_,_,h,.lst _ _ _=>(by cases h)
 |_,_,h,.dct ..=>(by cases h)
theorem wE{K:gy}{H:Hp}{O a:a5->Prop}:∀{vs:List V}{ds:List D},dP ds=true->Reps K H O vs ds->Reps K H a vs ds
 |_,_,_,.nil=>.nil
 |_,_,h,.cons r t=>.cons (UZ (aGb.mp h).1 r) (wE (aGb.mp h).2 t)
end
end
def a2w(K:gy)(H:Hp)(O:a5->Prop)(d:Hp)(a:a5)(N:List (D×D)):Prop:=Same H d/\H a=none/\∃o e,d a=some (.ext λh=>h.get? a=some o)/\xD a o e/\fF K d (λb=>O b\/b=a) e N/\(N.map (·.1)).Nodup
abbrev RK:=R (List<|D×D)
def RSK(X:Cx)(d:Hp)(e:a5->Prop)(r:RK)(D:Ends):Prop:=match r with
 |.ok N=>∀b a,a2w X.K d e b a N->D.rt (.ref a) b
 |_=>False
def tSK(X:Cx)(a:Hp)(b:a5->Prop)(F:Ev->RK):TS:=λD e H=>∃O d,EnvOk X.K a b H O e d/\V9 X.K O/\RSK X a b (F d) D
def ZU(X:Cx)(st:List br)(F:Ev->RK):Prop:=∀a b,uF X st (tSK X a b F)
def UA(r:R Out)(F:Ev->RK):RK:=match r with
 |.ok (.nx a)=>F a
 |_=>.bad
def wA{st:br}{rest:List br}(e:nU X st F)(f:ZU X rest G):ZU X (st::rest) (λρ=>UA (F ρ) G):=λb d=>kF (rL (e b d)<|f b d)<|by rintro D m H ⟨O,ρ,E,g,q⟩;show⟨O,ρ,E,g,by
 dsimp only at q;cases a:F ρ with
 |ok o=>
  rw[a]at q;cases o with
  |nx h=>showλn p i j l k=>{i,h,j,l,q}
  |_=>show aAy q
 |ex x=>rw[a]at q;show aAy q
 |bad=>rw[a]at q;show aAy q⟩
def YK(i:Nat)(ρ:Ev):RK:=match ρ[i]? with
 |some (.d N)=>.ok N
 |_=>.bad
def RF(i:Nat){x:Str}{p f:Pos}(h:X.N[i]?=some x<|>1)(j:CF X.env.scope x<|>5)(k:(x==gA)=false<|>2)(l:(x==gB)=false<|>2):ZU X [.Return (some (.Name x p)) f] (YK i):=λC I=>kF (qA<|xE<|R0 h j k l)<|by
 rintro D J H ⟨O,m,E,L,q⟩;unfold YK at q;cases g:m[i]? with
 |none=>rw[g]at q;show aAy q
 |some n=>
  rw[g]at q;cases n with
  |d N=>let{a,o,s,t,u,v,w,y,A,B}:=E.slot i _ g;show{_,t,q H a {E.same,v,o,s,w,y,A.mono λr=>r.sub λb z=>z.elim (E.sub b) λe=>by rw[e];show u,B}}
  |_=>show aAy q
def spK(K:gy)(n:Nat)(m:List D->RK):Sp:=λe H Q _=>∃O b N,Reps K H O e b/\b.length=n/\(∀a,O a->∃o,H a=some o/\Mt o)/\Tb H/\V9 K O/\m b=.ok N/\∀d a,a2w K H O d a N->Q (.ref a) d
def EW(P:bb)(w:bo)(K:gy)(mg:dJ)(base:bt)(k:Nat)(x:Str)(n:Nat)(m:List D->RK):Prop:=
 ∃g a b,FnOk P w K mg base uB k g a b (spK K n m)/\Binds K a b []/\PySem.W.keepIn K (.ref g)=true/\mg x=some (.ref g)
def SM{K:gy}{st:br}(g:bS K mg x st)(S:FnScope N ps (b9 st))(j:∀{f:a5}{L:af}{A:be}{outer:List Env}{s:ai}{H:Hp}{E:XK},Room k (A.deeper (aBL x (b9 st) s.heap.objs.size f L))->(A.deeper (aBL x (b9 st) s.heap.objs.size f L)).units+64<cf->(A.deeper (aBL x (b9 st) s.heap.objs.size f L)).units+130<cf->N.Nodup->
   ZU (MI P w K mg base N x (b9 st) f L A outer s H E) (k7 st) F) (l:∀ds d,ds.length=ps.length->m ds=.ok d->F (j3 N ds)=.ok d) (n:∀(kV b o:af) (p:Option a5) (L ct:af) (us:List af),us.length=ps.length->bindArgs (PySem.W.fnOf x x (A2 st) (k7 st) (b9 st) .none kV b o p L ct) {us,[]}=pure (ps.zip us):=by
   intro _ _ _ _ _ _ us a;rcases us with _|⟨_,_|⟨_,_|⟨_,_|⟨_,_|⟨_,_|⟨_,_|⟨_,_⟩⟩⟩⟩⟩⟩⟩<;>first|rfl|show gs a (by simp)):EW P w K mg base (k+1) x ps.length m:=by
 let{f,t,u,h}:=g;show{f,t,ps,h.ok S (λv H Q E z=>?_) (λL A outer s H v Q E i z=>?_),h.binds n,h.kp,u}
 .let{O,ds,d,r,a,_}:=z;rw[r.length];show a
 let{O,ds,d,r,a,y,B,C,e,q}:=z;show{_,j (L:=L) i i.units i.ac6 S.nd H O,O,_,gF r y B,C,?_};rw[l ds _ a e];show q
def okK(r:RK):RK:=match r with
 |.ok k=>.ok k
 |_=>.bad
def QQ(i:Nat)(c:EW X.prog X.w X.K X.mg X.base k x n m)(hr:Room k X.A)(ha:EA X (e::es) f)(hl:CQ f n)(hN:X.N.Nodup)(hi:X.N[i]?=some y<|>1)(hx:Loc X.env.scope y<|>8)(hg:Gl X x<|>1)(gg:(x==gA)=false<|>2)(he:ag (e::es) X.env=(false,cu e X.env)::ag es X.env<|>1)(G9:(cq r (ag es X.env)).any (·.1)=false<|>1)
  (hs:dq (.Call (.Name x p) (e::es) [] r) (some (.Name y t)) B.line X.env=pure false<|>1) (hf:X.fn y=true\/X.env.scope.names.lookup y=some .local<|>6):
  nU X (.Assign [.Name y t] (.Call (.Name x p) (e::es) [] r) B) (λρ=>(f ρ).bind λds=>(okK (m ds)).bind λN=>.ok (.nx (ρ.set i (.d N)))):=by
 let{g,gd,ps,F,b,kp,em}:=c;rintro H9 O0 Y s σ H D I ⟨O,ρ,E,fk,q⟩;dsimp only at q;show aEm (G4 (yC F hr hg em kp b .nil XO ha gg he G9 Y s σ H (λv j=>∃C a N,v=.ref a/\Same H C/\a2w X.K C O j a N/\RS X H9 O0 H O (.ok (.nx (ρ.set i<|.d N))) D) I {H9,O0,O,ρ,E,?_}) λv T z9=>?_) hs
 .cases l:f ρ with
  |ex z=>rw[l]at q;showλH' s=>q H' (E.same.trans s)
  |bad=>rw[l]at q;show q
  |ok ds=>
   rw[l,R.aa0]at q;intro vs C T r1;rw[aBS];have E1:=E.grow T;cases J:m ds with
   |ex z=>rw[J]at q;show aAy q
   |bad=>rw[J]at q;show aAy q
   |ok N=>rw[J]at q;show{O,ds,N,r1,hl ρ ds l,E1.trk,E1.tab,pH I O E.trk,J,λj a nw=>{C,a,N,rfl,T,nw,q}}
 let{y',j,U,r2,C,a,N,l,L,{sm,Q,o,es',h4,h5,h6,h7},q'}:=z9;subst l;show F8 U hN hi hx r2 (λs3 I3=>{_,_,I3,?_}) hf;have hk:=JA U h4;have hnn:P8 j a a=none:=tU _ _;have eH:upd (P8 j a) a (.ext λh=>h.get? a=some o)=j:=vJ h4;have s2:Same H (P8 j a):=λb u q=>by
  have nb:b≠a:=λz=>by rw[z]at q;rw[L _ _ q]at Q;cases Q
  rw[P9 nb];show sm _ _ (L _ _ q)
 have E2:=(E.grow s2).ad6 (u:=.ext λh=>h.get? a=some o) (sl:=.d N) i hnn hk trivial λh0=>{a,o,es',rfl,.inr rfl,h0,by rw[eH];show h4,h5,by rw[eH];show h6,h7};rw[eH]at E2;show q' _ _ _ E2 (pH U _ E2.trk) λb u hb n=>{sm _ _ (L _ _ hb),λz=>z.elim n λe=>by rw[e]at hb;rw[L _ _ hb]at Q;cases Q}
end DL
namespace DL
open PySem PySem.Spec L2
open PyProof.Rows hiding St
variable [Tabs]
section
abbrev RV(X:Cx)(e:bp)(es:List bp):Prop:=ag (e::es) X.env=(false,cu e X.env)::ag es X.env
def wM{i:Int}{j}:PB X (.Constant (.int i) j a) (JC (.int i)):=p5.pb
def LZ{e1:bp}{b:Ev->R D}(c:v8 X.prog X.w X.K X.mg X.base k x 1 m)(e:Room f X.A)(a1:PD X e1 b)(g:k<=f<|>2)(d:RV X e1 []<|>1)(h:Gl X x<|>1)(i:(x==gA)=false<|>2)(G9:(cq a (ag [] X.env)).any (·.1)=false<|>1):
 PD X (.Call (.Name x p) [e1] [] a) (λρ=>((j8 b N0) ρ).bind m):=xH c (e.mono g) (d9 a1 k8 d) (o5 J1) h i d G9
def V6{e1 e2:bp}{b d:Ev->R D}(c:v8 X.prog X.w X.K X.mg X.base k x 2 m)(f:Room g X.A)(a1:PD X e1 b)(a2:PD X e2 d)(h:k<=g<|>2)(e:RV X e1 [e2]<|>1)(i:RV X e2 []<|>1)(j:Gl X x<|>1)(l:(x==gA)=false<|>2)(G9:(cq a (ag [e2] X.env)).any (·.1)=false<|>1):
 PD X (.Call (.Name x p) [e1,e2] [] a) (λρ=>((j8 b (j8 d N0)) ρ).bind m):=xH c (f.mono h) (d9 a1 (d9 a2 k8 i) e) (o5<|o5 J1) j l e G9
def pc3{e1 e2 a:bp}{d e f:Ev->R D}(c:v8 X.prog X.w X.K X.mg X.base k x 3 m)(h:Room i X.A)(a1:PD X e1 d)(a2:PD X e2 e)(a3:PD X a f)(j:k<=i<|>2)(g:RV X e1 [e2,a]<|>1)(l:RV X e2 [a]<|>1)(n:RV X a []<|>1)(o:Gl X x<|>1)(q:(x==gA)=false<|>2)(G9:(cq b (ag [e2,a] X.env)).any (·.1)=false<|>1):
 PD X (.Call (.Name x p) [e1,e2,a] [] b) (λρ=>((j8 d (j8 e (j8 f N0))) ρ).bind m):=xH c (h.mono j) (d9 a1 (d9 a2 (d9 a3 k8 n) l) g) (o5<|o5<|o5 J1) o q g G9
def pc4{e1 e2 b a:bp}{e f g h:Ev->R D}(c:v8 X.prog X.w X.K X.mg X.base k x 4 m)(j:Room l X.A)(a1:PD X e1 e)(a2:PD X e2 f)(a3:PD X b g)(n:PD X a h)(o:k<=l<|>2)(i:RV X e1 [e2,b,a]<|>1)(q:RV X e2 [b,a]<|>1)(r:RV X b [a]<|>1)(s:RV X a []<|>1)(t:Gl X x<|>1)(u:(x==gA)=false<|>2)(G9:(cq d (ag [e2,b,a] X.env)).any (·.1)=false<|>1):
 PD X (.Call (.Name x p) [e1,e2,b,a] [] d) (λρ=>((j8 e (j8 f (j8 g (j8 h N0)))) ρ).bind m):=xH c (j.mono o) (d9 a1 (d9 a2 (d9 a3 (d9 n k8 s) r) q) i) (o5<|o5<|o5<|o5 J1) t u i G9
def YI{id:String}{g:List D->R D}{e:bp}{f:Ev->R D}(h:iP X (.builtin id) g)(a:PB X e f)(i:Gl X x<|>1)(j:X.mg x=none<|>4)(k:cp x=some (.builtin id)<|>3)(l:x≠ "__name__"<|>2)(m:(x==gA)=false<|>2)(d:RV X e []<|>1)(G9:(cq b (ag [] X.env)).any (·.1)=false<|>1):
 PD X (.Call (.Name x p) [e] [] b) (λρ=>(j8 f N0 ρ).bind g):=fL h (o7 a w9 d) i j k l m d G9
def MN{g:List Str}{a:eO}{k:Pos}{b:bp}{fe:Ev->R D}(h:∀Y e i j C,PD (LS X Y i j ([x]++g) a (fO X a C) C e) b fe)(l:([x]++g).Nodup<|>3)(m:Loc (relabel a X.env) x<|>8)(n:(a.names.lookup x==some .cell)=true\/(relabel a X.env).names.lookup x=some .local:=by first|show .inl rfl|show .inr rfl):
  ∀(Y:R7) (e:List a5) (f:Cx),(∃o p C,f=LS X Y o p ([x]++g) a (fO X a C) C e)->PR f (.Name x k) (λd ρ=>.ok (ρ.set 0 (.v d)))/\ak f [] (λ_=>.ok true)/\PD f b fe:=by
 rintro Y e q ⟨i,j,C,rfl⟩;show{n6 0 l rfl m n,ZW,h Y e i j C}
def hxt{i:List Str}{a:eO}{k:Pos}{e c:bp}{fe:Ev->R D}{ft:Ev->R Bool}(h:∀Y b f g C,JN (LS X Y f g ([x]++i) a (fO X a C) C b) c ft/\PD (LS X Y f g ([x]++i) a (fO X a C) C b) e fe)(l:([x]++i).Nodup<|>3)(m:Loc (relabel a X.env) x<|>8)(n:(a.names.lookup x==some .cell)=true\/(relabel a X.env).names.lookup x=some .local:=by first|show .inl rfl|show .inr rfl):
  ∀(Y:R7) (b:List a5) (j:Cx),(∃o p C,j=LS X Y o p ([x]++i) a (fO X a C) C b)->PR j (.Name x k) (λd ρ=>.ok (ρ.set 0 (.v d)))/\ak j [c] ft/\PD j e fe:=by
 rintro Y b q ⟨f,g,C,rfl⟩;show{n6 0 l rfl m n,JU (h Y b f g C).1,(h Y b f g C).2}
end
def a2s(sc:eO)(x:Str):Bool:=match sc.names.lookup x with
 |some .local=>true
 |some .cell=>true
 |some .free=>true
 |_=>false
def KA{sc:eO}{x:Str}(h:a2s sc x=true):CF sc x:=by unfold a2s at h;unfold CF;split at h<;>nofun
def opB:Operator->Option (D->D->R D)
 |.Add=>some pF
 |.Sub=>some IK
 |.Mult=>some dM
 |.FloorDiv=>some iG
 |.Mod=>some BP
 |.Pow=>some HX
 |_=>none
def a3o{X:Cx}{op:Operator}{g:D->D->R D}(h:opB op=some g):mL X (cP op) g:=by cases op<;>cases h<;>first|show rC|show a0m|show a2k|show aq|show a1h|show a0v
def FC:bp->Bool
 |.Starred ..=>false
 |_=>true
def GP{e:bp}{es:List bp}{env:Env}(h:FC e=true):ag (e::es) env=(false,cu e env)::ag es env:=by cases e<;>first|rfl|cases h
def ixB:bp->Bool
 |.Name ..=>true
 |.Constant ..=>true
 |.BinOp ..=>true
 |_=>false
def rds(r:bp->Option (Ev->R D)):List bp->Option (Ev->R (List D))
 |[]=>some N0
 |e::a=>bif FC e then(r e).bind λf=>(rds r a).bind λg=>some (j8 f g)else none
def evq(b:Bool)(i:Nat):Option (Ev->R D):=bif b then[dG 0,dG 1,dG 2,dG 3,dG 4,dG 5,dG 6,dG 7,dG 8,dG 9,dG 10,dG 11,dG 12,dG 13][i]? else[G6 0,G6 1,G6 2,G6 3,G6 4,G6 5,G6 6,G6 7,G6 8,G6 9,G6 10,G6 11,G6 12,G6 13][i]?
def SO{f:Ev->R D}{g:Nat->Ev->R D}{i:Nat}(h:((aBI 14).map g)[i]?=some f):f=g i:=by let{a,b,rfl}:=aCO.mp (aAP.symm.trans h);let{q,rfl}:=aAB.mp b;rw[List.getElem_range]
def a2p{b:Bool}{i:Nat}{f:Ev->R D}(h:evq b i=some f):f=bif b then dG i else G6 i:=by
 cases b with
 |true=>show SO h
 |false=>show SO h
def rd(N:List Str)(sc:eO):Nat->Bool->bp->Option (Ev->R D)
 |n+1,b,.Name x _=>bif decide (N[N.findIdx (· ==x)]?=some x)&&(a2s sc x&&(!(x==gA)&&!(x==gB)))then evq b (N.findIdx (· ==x))else none
 |n+1,_,.Constant (.int i) _ _=>some (JC (.int i))
 |n+1,_,.BinOp a e c _=>(opB e).bind λg=>(rd N sc n true a).bind λh=>(rd N sc n true c).bind λj=>some λd=>(h d).bind λx=>(j d).bind λy=>g x y
 |n+1,_,.Subscript a c _=>bif ixB c then(rd N sc n true a).bind λf=>(rd N sc n false c).bind λg=>some λd=>(f d).bind λx=>(g d).bind λy=>W6 x y else none
 |n+1,_,.Tuple k _ _=>(rds (rd N sc n false) k).bind λf=>some λd=>(f d).bind fB
 |_,_,_=>none
theorem SB{X:Cx}{r:bp->Option (Ev->R D)}(a:∀e f,r e=some f->PD X e f):∀{es:List bp}{f:Ev->R (List D)},rds r es=some f->EA X es f:=by
 intro b f h;cases b with
 |nil=>cases h;show k8
 |cons e es=>
  unfold rds at h;cases q:FC e with
  |false=>rw[q]at h;cases h
  |true=>rw[q]at h;let{i,d,h}:=aBy.mp h;let{j,g,h}:=aBy.mp h;cases h;show d9 (a _ _ d) (SB a g) (GP q)
def xw{X:Cx}(n:Nat):∀(b:Bool) (e:bp) (f:Ev->R D),rd X.N X.env.scope n b e=some f->(b=false->PD X e f)/\PB X e f:=by
 induction n with
 |zero=>intro b e f h;cases e<;>cases(show(none:Option (Ev->R D))=some f from h)
 |succ n l=>
  intro b e f h;have d:∀{f:Ev->R D},PD X e f->(b=false->PD X e f)/\PB X e f:=λh=>{λ_=>h,h.pb};cases e with
  |Name x p=>
   erw[rd,Bool.cond_eq_ite]at h;split at h
   .rename_i q;erw[aAN,decide_eq_true_eq,Bool.not_eq_true']at q;let{w,A,B,C}:=q;rw[a2p h];cases b with
    |false=>show d (d4 _ w (KA A) B C)
    |true=>show{λz=>(by cases z),i4 _ w (KA A) B C}
   cases h
  |Constant v j p=>
   cases v with
   |int i=>cases(Option.some.inj h:JC (.int i)=f);show d p5
   |_=>cases(show(none:Option (Ev->R D))=some f from h)
  |BinOp a E c p=>let{g,r,h}:=aBy.mp (show((opB E).bind λg=>(rd X.N X.env.scope n true a).bind λm=>(rd X.N X.env.scope n true c).bind λs=>some λo=>(m o).bind λx=>(s o).bind λy=>g x y)=some f from h);let{m,t,h}:=aBy.mp h;let{s,u,h}:=aBy.mp h;cases h;show d (rE (a3o r) (l _ _ _ t).2 (l _ _ _ u).2)
  |Subscript a c p=>
   cases q:ixB c with
   |false=>rw[rd,q]at h;cases h
   |true=>rw[rd,q]at h;let{m,t,h}:=aBy.mp h;let{s,u,h}:=aBy.mp h;cases h;show d (SE (l _ _ _ t).2 ((l _ _ _ u).1 rfl) (by cases c<;>first|showλ_ _=>rfl|cases q))
  |Tuple H k p=>let{m,r,h}:=aBy.mp (show((rds (rd X.N X.env.scope n false) H).bind λf=>some λo=>(f o).bind fB)=some f from h);cases h;show d (RQ<|SB (λe f I=>(l _ _ _ I).1 rfl) r)
  |_=>cases(show(none:Option (Ev->R D))=some f from h)
def J9{X:Cx}{e:bp}{f:Ev->R D}(h:rd X.N X.env.scope 12 false e=some f):PD X e f:=(xw 12 false e f h).1 rfl
def rdB{X:Cx}{e:bp}{f:Ev->R D}(h:rd X.N X.env.scope 12 true e=some f):PB X e f:=(xw 12 true e f h).2
end DL
namespace DL
open PySem PySem.Spec PySem.Calls PySem.W Builtin Builtin.ObjectAttr Builtin.Getset_descriptor
open PyProof.Rows hiding St
section
variable{prog:bb}{w:bo}{A:be}{E:D7}{K:Frag}{h:bt}{g:Array GenState}{d:Drawn}{t:Nat}{os:OsState}{a C:a5}{o:Obj}
end
end DL
namespace DL
open PySem PySem.Spec L2
open PyProof.Rows hiding St
variable [Tabs]
section
variable{X:Cx}{pos:Pos}
end
section
variable{X:Cx}{Y:R7}{σ:St}{H H':Hp}{s s':ai}
end
section
variable{K:gy}{H9 H:Hp}{O0 O:a5->Prop}{σ:St}{ρ:Ev}
end
section
variable{X:Cx}{pos hpos np:Pos}
end
section
variable{X:Cx}{pos:Pos}
end
section
variable{X:Cx}{pos:Pos}
end
section
end
section
end
end DL
namespace DL
open PySem L2
variable [Tabs]
end DL
namespace M
open PySem L2 DL
variable [Tabs]
def AB(h:D6 d<=40):UE d d=.ok (.bl false):=by unfold UE;rw[gi {h,h},O5];rfl
def yP(J:List G.V):D6 (.lst (J.map vd))<=40:=by
 rw[D6];have:∀J:List G.V,y9 (J.map vd)<=1:=λJ=>by
  induction J with
  |nil=>simp[y9]
  |cons P J a=>rw[aAq,y9];show Nat.max_le.mpr {by simp[D6,y9],a}
 have:=this J
 lia
def GH{J:Ev->Prop}(a:r=.ok (.nx ρ))(b:∃ρ2,F ρ=.ok (.nx ρ2)/\J ρ2):∃ρ2,B7 r F=.ok (.nx ρ2)/\J ρ2:=by rw[a];show b
def wl(v:G.V):D:=.lst [.int v.x,.int v.y,.int v.z]
def dw(c w:Int):G.V:={c.fmod w-w.fdiv 2,(c.fdiv w).fmod w-w.fdiv 2,(c.fdiv<|w*w).fmod w-w.fdiv 2}
def tmA(c:Int)(at_ j:Nat):Int:=(c.fdiv<|5+7*(at_:Int)+(j:Int)).fmod 5-2
def a0j(P:G.V)(t:Int)(w:G.V):G.V:={P.x+t*w.x,P.y+t*w.y,P.z+t*w.z}
def ptA(c:Int)(b:G.V)(ws:List G.V)(at_:Nat):G.V:=match ws with
 |[]=>b
 |[u]=>a0j b (tmA c at_ 0) u
 |u::v::_=>a0j (a0j b (tmA c at_ 0) u) (tmA c at_ 1) v
def a5z(c:Int)(b:G.V)(ws:List G.V)(n:Nat):List G.V:=(aBI n).map (ptA c b ws)
structure Drawn(J:List G.V):Prop where
 ne:J≠[]
 len:J.length<=40
 sz:∀P∈J,Sz 100 P
 flat:¬G.f8 J
open Classical in
def CC(p:Prop) (d:D):R D:=if p then .ok d else .bad
def R3{p:Prop}{d r:D}(h:CC p d=.ok r):p/\d=r:=by
 unfold CC at h;split at h
 .rename_i z;cases h;show{z,rfl}
 cases h
def K5{p:Prop}{d:D}(h:p):CC p d=.ok d:=gi h
def JL(k:List G.V->List D->R D):List D->R D:=LY λa e=>match F9 a with
 |some l=>k l e
 |none=>.bad
def X7{k:List G.V->List D->R D}{ds:List D}{r:D}(h:JL k ds=.ok r):∃l e,ds=.lst (l.map vd)::e/\k l e=.ok r:=by
 replace h:=fP h;let{a,e,rfl,h}:=h;cases q:F9 a with
 |none=>rw[q]at h;cases h
 |some l=>rw[q]at h;show{l,e,by rw[t8 q],h}
def M6(k:List G.V->List D->R D)(l:List G.V)(e:List D):JL k (.lst (l.map vd)::e)=k l e:=by change(match F9 (l.map vd)with|some l=>k l e|none=>.bad)=_;rw[u5]
def l3(k:Int->Int->Int->List D->R D):List D->R D:=LY λd e=>pE (λa=>pE λb=>pE λc=>dQ (k a b c e)) d
def a5b{k:Int->Int->Int->List D->R D}{ds:List D}{r:D}(h:l3 k ds=.ok r):∃a b c e,ds=.lst [.int a,.int b,.int c]::e/\k a b c e=.ok r:=by let{d,e,rfl,h}:=fP h;let{a,x,rfl,h}:=G7 h;let{b,y,rfl,h}:=G7 h;let{c,z,rfl,h}:=G7 h;let{rfl,h}:=u7 h;show{a,b,c,e,rfl,h}
def st0(t:Int):Int:=(t*40009+6007).fmod 2147483647
def uz(s k:Int):Int:=(s*s+5003*k+11).fmod 2147483647
def iV(l:List Int):Prop:=l.length=7/\∀i∈l,bits i<=100
def s7(c k:Int):Int:=(c.fdiv k).fmod 7-3
def MF{J:List G.V}{fs:List (G.V×Int)}(j:∀f,f∈fs↔G.IsFace J f.1 f.2)(l:fs≠[])(P:G.V):(if cH (fs.map λf=>G.b8 f.1 P-f.2)<0 then 1 else 0)-(if 0<cH (fs.map λf=>G.b8 f.1 P-f.2)then 1 else 0)=G.bW J P:=by
 have m:=fM (ns:=fs.map λf=>G.b8 f.1 P-f.2) (by exists l);have e:∀f∈fs,G.b8 f.1 P-f.2<=cH (fs.map λf=>G.b8 f.1 P-f.2):=λf h=>gE (aAh.mpr {f,h,rfl});generalize cH (fs.map λf=>G.b8 f.1 P-f.2)=M at*
 let{g,o,rfl}:=aAh.mp m;have i:=(j g).mp o;unfold G.bW;by_cases a:∀n d,G.IsFace J n d->G.b8 n P-d<=0
 .rw[gi a];have r:=a _ _ i;by_cases b:∀n d,G.IsFace J n d->G.b8 n P-d<0
  .have p:=b _ _ i;rw[gi b,gi p,gk (by lia)];rfl
  rw[gk b];have:∃n d,G.IsFace J n d/\¬G.b8 n P-d<0:=by exists b
  let{n,d,h,q}:=this;have k:=e (n,d) ((j (n,d)).mpr h);dsimp only at k;rw[gk (by lia),gk (by lia)];rfl
 rw[gk a];have:∃n d,G.IsFace J n d/\¬G.b8 n P-d<=0:=by exists a
 let{n,d,h,q}:=this;have k:=e (n,d) ((j (n,d)).mpr h);dsimp only at k;rw[gk (by lia),gi (by lia)];rfl
def ZT{ns:List Int}(h:ns≠[]):cH (ns.map sgn)=sgn (cH ns):=by
 have mono:∀{x y:Int},x<=y->sgn x<=sgn y:=λ{x y} h=>by
  unfold sgn
  repeat' split
  all_goals lia
 have b:=gE (aAt (f:=sgn)<|fM h);let{x,a,e}:=aAh.mp (fM (ns:=ns.map sgn) (by exists h));have:=mono (gE a)
 lia
def NX{J:List G.V}{fs:List (G.V×Int)}(b:∀f,f∈fs↔G.IsFace J f.1 f.2)(a:fs≠[])(P:G.V):-(cH (fs.map λf=>sgn (G.b8 f.1 P-f.2)))=G.bW J P:=by
 have:=ZT (ns:=fs.map λf=>G.b8 f.1 P-f.2) (by exists a);rw[aBs]at this;rw[<-MF b a P];show(gn Neg.neg this).trans ?_;unfold sgn
 repeat' split
 all_goals lia
open Classical in
def bT:List D->R D
 |[.lst a,p]=>match F9 a,zC p with
  |some J,some P=>if S4 900 J/\G.f8 J/\(c7 J).length<=23/\Sz 900 P then .ok (.int (G.bW (c7 J) P))else .bad
  |_,_=>.bad
 |_=>.bad
def JR{J:List G.V}{n:G.V}{d:Int}(h:S4 900 J)(a:G.IsFace (c7 J) n d):Sz 2003 n:=by let{A,b,B,f,C,g,_,e}:=G.mJ a;have z:∀X∈c7 J,Sz 1000 X:=λX i=>(h.1 X (i8.mp i)).mono;have:=tL (z A b) (z B f) (z C g);rw[e]at this;show this
def wS{J:List G.V}{f:G.V×Int}{P:G.V}(h:S4 900 J)(a:Sz 900 P)(b:G.IsFace (c7 J) f.1 f.2):K0 [tZ f.1 f.2,vd P]=.ok (.int (sgn (G.b8 f.1 P-f.2))):=by have z:=JR h b;show KT {f6 z.1,f6 z.2.1,f6 z.2.2} {f6 a.1,f6 a.2.1,f6 a.2.2}
def vW{J:List G.V}(g:S4 900 J)(h:G.f8 J)(b:(c7 J).length<=23):(∀f,f∈j0 (c7 J)↔G.IsFace (c7 J) f.1 f.2)/\j0 (c7 J)≠[]/\(j0 (c7 J)).length<=12167:=by let{m,r,e,L}:=M5 g h (by lia);have d:=b;rw[e]at d;have a:=D8 L d;rw[<-e]at a L;have i:=F1 (M8 a.2);have few:=G.MY i λf j=>(a.1 f).mp j;have k:(c7 J).length*((c7 J).length*(c7 J).length)<=23*(23*23):=aCq b (aCq b b);show{a.1,λz=>?_,aAj few k};have q:=G.Y9 L.good.solid L.good.ord L.good.mem L.good.least;have:=(a.1 (_,_)).mpr q;rw[z]at this;cases this
def intD:D->Int
 |.int i=>i
 |_=>0
def kH{b β:Type}{G:D->Ev->R Ev}{fe:Ev->R D}{ρ:Ev}(rep:b->D)(d:β->D)(g:b->β)(l:List b)(h:∀a∈l,∃ρ1,G (rep a) ρ=.ok ρ1/\fe ρ1=.ok (d (g a))):v7 G (λ_=>.ok true) fe ρ (l.map rep)=.ok ((l.map g).map d):=by rw[aBs];show gT rep _ l h
def B2(a b:Int):Prop:=bits a<=1000/\bits b<=1000
def trn(A B C:G.V):Int:=(B.x-A.x)*(C.y-A.y)-(B.y-A.y)*(C.x-A.x)
def dwn(A B C:G.V):Int:=(B.x-A.x)*(C.x-A.x)+(B.y-A.y)*(C.y-A.y)
def whl(A B:G.V):Int:=(B.x-A.x)*(B.x-A.x)+(B.y-A.y)*(B.y-A.y)
def ZJ(S:List G.V)(A B:G.V):Prop:=A≠B/\∀C∈S,0<=trn A B C/\(trn A B C=0->0<=dwn A B C/\dwn A B C<=whl A B)
end M
namespace SD
open PySem
def QG(h:bt)(d:a5)(es:Array dz)(ep:Nat):Prop:=∃o,h.get? d=some o/\o.ExactDict/\o.data=.dict es ep
def QG.at(x:QG h d es ep)(e:∀o,h.get? d=some o->h'.get? d=some o):QG h' d es ep:=by let{o,a,r}:=x;show{o,e o a,r}
def QG.type{s:ai}(x:QG s.heap d es ep):s.TypeIs (.ref d) "dict":=by let{o,a,r,_}:=x;show{o,a,r.1}
section
variable{prog:bb}{w:bo}{A:be}{E:D7}{s:ai}{d it:a5}{es:Array dz}{ep i:Nat}
def YR{Q:D7}(g:(d==eY)=false)(e:QG s.heap d es ep)
  (h:Q (.ref s.heap.objs.size) {s with heap:=s.heap.push {cls:=.type "dict_keyiterator",data:=.fields #[.ref d,.int 0 0,.int es.size 0,.int ep 0]}}):a9 (ba prog w) A (pyIter (.ref d)) Q E s:=by
 have b:=e.type;let{o,f,j,a}:=e;show aEo b F.slot_dict_iter (aBn F.slot_dict_iter b F.entry_dict_iter (aAa ?_)<|F.args_dict_iter_1 _);unfold Builtin.Dict.dictSlotNone;show aAa (wpAny_notOrdered_dict b<|aAb (?_:a9 _ _ (aFT d>>=_) _ _ s));unfold aFT;rw[gk (by rw[g];symm)];show aAa (aAb<|aAa<|wpAny_dictEntries f a<|aAa<|wpAny_dictEpoch f a<|aAa<|aBd<|aAb ⟨_,rfl, "dict_keyiterator",_,⟨_,aAo _ rfl,rfl⟩,aDy.lookup,?_⟩);simpa[cz]using h
def JG{Q:Option af->ai->Prop}(n:A.handled=none)(g:s.heap.IsKeyIter it d i es.size ep)(p:QG s.heap d es ep)
  (q:∀(e:i<es.size) h',h'.IsKeyIter it d (i+1) es.size ep->Heap.SameBut it s.heap h'->Q (some es[i].key) {s with heap:=h'}) (hE:es.size<=i->∀h',Heap.ExtBut it s.heap h'->Q none {s with heap:=h'}):a9 (ba prog w) A (fg (.ref it)) Q E s:=by
 have f:=g.typeIs;let{o,m,r,h}:=g;let{t,j,u,k}:=p;have l:Builtin.Dict_items.ownsTuple "dict_keyiterator"=false:=by decide
 unfold fg;show aAa (aEf<|aCc f aDy<|aBn aDy f F.entry_dict_keyiterator_next (aAa<|aAb<|aAa<|aAa ?_)<|F.args_dict_keyiterator_next_1 _);show aAa (aDo f<|aAb<|aAa<|aGf m h ?_);erw[l,aAE,if_false];change a9 _ _ (if(aDF d==Value.none)=true then _ else _) _ _ s;rw[gk (by intro z;cases z)];show aAa (aAb<|aAa<|wpAny_dictEntries j k ?_);rw[gk (by simp)];show aAa (aAb<|aAa<|wpAny_dictEpoch j k ?_);rw[gk (by simp)];show aAb ?_;by_cases e:i<es.size
 .erw[show¬((i:Int)<0)by lia,if_false,aEq,aAC e];show aAa (aAa<|aDo f<|aAb<|aAa<|wpAny_isOneOf_keyiter f ?_);change a9 _ _ (setField (.ref it) 1 (cz<|(i:Int)+1)>>=_) _ _ s;show aAa (aGg m h (by simp) ?_);have a:(s.heap.update it (Obj.mapFields (·.setIfInBounds 1 (cz<|(i:Int)+1)))).IsKeyIter it d (i+1) es.size ep:={_,aBp _ m (Obj.isFreed_of_fields<|Obj.data_mapFields h _),(Obj.cls_mapFields ..).trans r,by rw[Obj.data_mapFields h];simp[cz]};show aAa (aAV<|aAa<|wpAny_isOneOf_keyiter a.typeIs ((aAb<|aAb ⟨_,rfl,aAb (q e _ a<|aEP ..)⟩):a9 _ _ (pure es[i].key) _ _ _))
 have e:es.size<=i:=by nofun
 erw[show¬((i:Int)<0)by lia,if_false,aEq,aBG e];show aAa (aAa (aDo f (aAb ((aAa (aGg m h (by simp) ((aAa ?_):a9 _ _ (newExc (.type "StopIteration") []>>=_) _ _ _))):a9 _ _ (setField (.ref it) 0 .none>>=_) _ _ s))));erw[newExc,newTuple];show aAa (aBd (aAa (aGl (by first|rfl|(erw[firstArgMember];rfl)) (aBd ?_ (by size_fits)))) (by size_fits));erw[raiseNew];show aAa (wpAny_handled ?_);rw[show A.in1.handled=none from n];show aAa (aAb<|wpAny_throw ?_);show aAa (aDm (b:=true) {_,aAo _ rfl,rfl} aGh<|aAb<|hE e _<|((aEP ..).extBut.push _).push _)
end
def RI{prog:bb}{w:bo}{A:be}(k:A.handled=none)(I d:a5)(p:d≠I)(es:Array dz)(ep:Nat):
  Walks prog w A I [I,d] [I] es.size (λi v=>∃e,es[i]?=some e/\v=e.key) (λi h=>h.IsKeyIter I d i es.size ep/\QG h d es ep)where
 sub:=λb a=>by simp at a;simp[a]
 frame:=λ_ _ _ st l=>{Heap.IsKeyIter.at st.1 λo e=>l I (by simp) o e,st.2.at λo e=>l d (by simp) o e}
 item:=λi s Q E m st f=>JG k st.1 st.2 (hE:=λz=>by lia) λm g j n=>f _ g s.toks {es[i],aAC m,rfl} {j,st.2.at λo e=>(n.2 d p).trans e} λb o a e=>(n.2 b (λz=>a (by simp[z]))).trans e
 done:=λs Q E st f=>JG k st.1 st.2 (λz=>by lia) λ_ g q=>f g s.toks λb o a e=>q b o (λz=>a (by simp[z])) e
 self:=λ_ _ _ _ st f=>wpAny_pyIter_keyiter st.1 f
section
variable{prog:bb}{w:bo}{A:be}{E:D7}{s:ai}{d:a5}{es:Array dz}{ep:Nat}
def a1f(a:(d==eY)=false):PySem.W.KdlSrc prog w "dict" d d es.size (λi v=>∃e,es[i]?=some e/\v=e.key) (λh=>QG h d es ep)where
 type:=λs h=>h.type
 there:=by rintro h ⟨o,g,_⟩;show{aAg g,aAg g}
 keep:=λh f x k=>x.at λo e=>k d (.inl rfl) o e
 notList:=by decide
 notTuple:=by decide
 hint:=λA E s Q ok q=>PySem.W.kdl_hint_dict ok.type q
 iter:=λA s b ok=>{_,λi h=>h.IsKeyIter s.heap.objs.size d i es.size ep/\QG h d es ep,λE Q q=>YR a ok q,RI b _ d (by let{o,g,_}:=ok;show aAm (aAg g)) es ep,{_,aAo _ rfl,rfl,rfl},ok.at λo e=>aAc _ e}
def collect_dk{Q:List af->ai->Prop}(n:A.handled=none)(p:(d==eY)=false)(j:QG s.heap d es ep)(q:es.size<=sizeLine)
  (r:∀h' tk,(∀b o,s.heap.get? b=some o->h'.get? b=some o)->Q (es.toList.map (·.key)) {s with heap:=h',toks:=tk}):a9 (ba prog w) A (collect (.ref d)) Q E s:=by
 have k:d<s.heap.objs.size:=by let{o,g,_}:=j;show aAg g
 show aAa (aGe<|aBB PySem.F.entry_proto_collect ?_);have a:∀b o,s.heap.get? b=some o->(s.heap.push {cls:=.type "list",data:=.seq ([]:List af).toArray}).get? b=some o:=λb o e=>aAc _ e;have f:∀R:Result->ai->Prop,(∀h' tk l t,(∀b o,b≠s.heap.objs.size->(s.heap.push {cls:=.type "list",data:=.seq ([]:List af).toArray}).get? b=some o->h'.get? b=some o)->h'.get? s.heap.objs.size=some {cls:=.type "list",dict:=none,data:=.seq l t,slots:=#[]}->ItemsOf (λi v=>∃e,es[i]?=some e/\v=e.key) l es.size->R (.ok (.ret (.ref s.heap.objs.size))) {s with heap:=h',toks:=tk})->
   ee (ba prog w) A (.builtin "list.__iadd__" {[.ref s.heap.objs.size,.ref d],[]}) R {s with heap:=s.heap.push {cls:=.type "list",data:=.seq ([]:List af).toArray}}:=λR u=>aBB PySem.F.entry_list_iadd (by
  show PySem.W.kdl_extend (a1f (es:=es) p) n (j.at λo e=>a d o e) s.heap.objs.size (aCR k) (aCR k) (.ref s.heap.objs.size) 0 (aAo _ rfl) u q)
 show aAa (aBd<|aAb ⟨aBX PySem.F.plain_list_iadd _,f _ λh' tk B c x y h=>(aAa<|wpAny_load y<|aAb ?_)⟩);have z:B.toList=es.toList.map (·.key):=by
  apply aEk;intro i;rw[aAP,aAF,aAF];by_cases C:i<es.size
  .have m:i<B.size:=by rw[h.1];show C
   let{e,H,I}:=h.2 i _ (aAC m);rw[H,aAC m,I];rfl
  rw[aBG (by rw[h.1];lia),aBG (by lia)];rfl
 rw[z];show r h' tk λb o e=>x b o (aAm<|aAg e) (a b o e)
end
end SD
namespace DL
open PySem L2
section
variable [Tabs]
def ET{K:gy}{H:Hp}{O:a5->Prop}:∀{es:List dz}{N:List (D×D)},fF K H O es N->A9 K H O (es.map (·.key)) (N.map (·.1)):=by
 intro _ _ h;induction h with
 |nil=>show .nil
 |@cons e _ _ _ h _ b=>let{{a,d,r},_}:=h;show .cons {.ref a,by change RelV (.ref a) e.key;rw[d];rfl,r} b
end
end DL
namespace M
open PySem L2 DL
variable [Tabs]
def fK(f:G.V×Int):D:=tZ f.1 f.2
def iR(a n:Nat):List D:=(List.range' a n).map λ(k:Nat)=>D.int (k:Int)
def xk{n:Nat}(h:n<=1000000):nC [.int (n:Int)]=.ok (iR 0 n):=by rw[a8o h];unfold iR;rw[List.range_eq_range']
theorem rA{G:D->Ev->R Ev}{F:Ev->R Out}(Iv:Nat->Ev->Prop):∀{n a:Nat}{ρ:Ev},(∀i,a<=i->i<a+n->∀ρ,Iv i ρ->∃ρ2,X9 G F (.int (i:Int)) ρ=.ok (.nx ρ2)/\Iv (i+1) ρ2)->Iv a ρ->∃b,K1 G F (iR a n) ρ=.ok (.nx b)/\Iv (a+n) b
 |0,a,ρ,_,h=>{ρ,rfl,h}
 |n+1,a,ρ,f,h=>by
  let{ρ2,e,g}:=f a (aAi _) (by lia) ρ h;let{b,j,k}:=rA Iv (n:=n) (λi m g=>f i (by lia) (by lia)) g;show{b,?_,by rw[show a+(n+1)=a+1+n by lia];show k};change K1 G F (.int (a:Int)::iR (a+1) n) ρ=_;unfold X9 at e;cases d:G (.int (a:Int)) ρ with
  |ok l=>rw[d]at e;show(K4 d e).trans j
  |ex z=>rw[d]at e;cases e
  |bad=>rw[d]at e;cases e
def a0f(N:List (D×D)):List D:=N.map (·.1)
def Cov(S:List G.V)(N:List (D×D))(i j k:Nat):Prop:=∀A B C,S[i]?=some A->S[j]?=some B->S[k]?=some C->(G.Up S A B C->fK (G.c9 A B C)∈a0f N)/\(G.Dn S A B C->fK (G.c9 A C B)∈a0f N)
def rq(S:List G.V)(N:List (D×D))(i j k:Nat):Prop:=∀b a d,b<a->a<d->(b<i\/(b=i/\(a<j\/(a=j/\d<k))))->Cov S N b a d
def ZE{f g:G.V×Int}(h:fK f=fK g):f=g:=by let{{a,b,c},d}:=f;let{{e,i,j},k}:=g;simp[fK]at h;let{rfl,rfl,rfl,rfl}:=h;rfl
def VG{G:D->Ev->R Ev}{F:Ev->R Out}{Post:Ev->Prop}{n a:Nat}{ρ:Ev}(Iv:Nat->Ev->Prop)(f:∀i,a<=i->i<a+n->∀ρ,Iv i ρ->∃ρ2,X9 G F (.int (i:Int)) ρ=.ok (.nx ρ2)/\Iv (i+1) ρ2)(h0:Iv a ρ)(d:∀b,Iv (a+n) b->Post b):∃ρ2,K1 G F (iR a n) ρ=.ok (.nx ρ2)/\Post ρ2:=by let{b,e,h}:=rA Iv f h0;show{b,e,d b h}
def KH{G:D->Ev->R Ev}{F f:Ev->R Out}{d:D}{n a:Nat}{ρ:Ev}(Iv:Nat->Ev->Prop)(g:∀i,a<=i->i<a+n->∀ρ,Iv i ρ->∃ρ2,X9 G F (.int (i:Int)) ρ=.ok (.nx ρ2)/\Iv (i+1) ρ2)(h0:Iv a ρ)(j:∀b,Iv (a+n) b->J0 (f b)=.ok d):J0 (B7 (K1 G F (iR a n) ρ) f)=.ok d:=by let{b,e,h}:=rA Iv g h0;rw[e];show j b h
def VT{r:R Out}{ρ:Ev}{F:Ev->R Out}{x:R Out}(a:r=.ok (.nx ρ))(b:F ρ=x):B7 r F=x:=by rw[a];show b
def EI{S:List G.V}{i:Nat}{A:G.V}(h:S[i]?=some A):W6 (.lst (S.map vd)) (.int (i:Int))=.ok (vd A):=lE (by rw[eM (by lia),aEq,aAP,h];rfl)
def VU{f:G.V×Int}{P:G.V}(h:Sz 2003 f.1)(a:Sz 1000 P):j6 [fK f,vd P]=.ok (.int (G.b8 f.1 P)):=gi {{f6 h.1,f6 h.2.1,f6 h.2.2},f6 a.1,f6 a.2.1,f6 a.2.2}
def vK{f:Type}{l:List f}(d:l.Nodup):2<l.length↔∃a b c,a∈l/\b∈l/\c∈l/\a≠b/\a≠c/\b≠c:=by
 constructor
 .intro h;match l,h,d with
  |a::b::c::l,_,d=>
   show{a,b,c,by simp,by simp,by simp,?_,?_,?_}
   .rintro rfl;simp at d
   .rintro rfl;simp at d
   rintro rfl;simp at d
 rintro⟨a,b,c,n,o,p,g,i,j⟩
 classical
 have k:[a,b,c].Nodup:=by simp[g,i,j]
 have:=G.p8 k (m:=l) λv e=>by erw[aAe,aAR,or_false]at e;rcases e with rfl|rfl|rfl<;>assumption
 show this
def DZ(fs:List (G.V×Int)) (X:G.V):List (G.V×Int):=fs.filter λf=>decide (G.b8 f.1 X=f.2)
def lD{J:List G.V}(p:S4 900 J)(q:G.f8 J)(s:(c7 J).length<=23):((c7 J).filter λX=>decide (2<(DZ (j0 (c7 J)) X).length))=o6 J:=by
 let{m,r,e,L}:=M5 p q (by lia);have t:=s;rw[e]at t;have i:=D8 L t;rw[<-e]at i L;have x:(j0<|c7 J).Nodup:=F1 (M8 i.2);have u:=L.good.solid;have j:=L.good.ord;show J7 ((l6 J).sublist aBk) (l6 _) λX=>?_;rw[aAH,decide_eq_true_eq,rM p q s,vK (l:=DZ (j0<|c7 J) X) (x.sublist aBk)];have d:∀f,f∈DZ (j0<|c7 J) X↔G.IsFace (c7 J) f.1 f.2/\G.b8 f.1 X=f.2:=λf=>by unfold DZ;rw[aAH,decide_eq_true_eq,i.1]
 constructor
 .rintro⟨g,a,b,c,h,k,n,y,z,A⟩;rw[d]at h k n;show{a,h.1,G.GJ u j g h.1 k.1 n.1 h.2 k.2 n.2 y z A}
 rintro⟨f,o,g⟩;let{v,w,B,C,E,H,I,N,O,Q}:=G.V3 u j o g;have T:=(G.c5.mp<|(o.aa2 j).aa3 g).1;show{T,f,v,w,(d f).mpr {o,N},(d v).mpr {B,O},(d w).mpr {C,Q},E,H,I}
def HI{J:List G.V}(d:S4 900 J)(e:G.f8 J)(f:(c7 J).length<=23){P:G.V}(g:Sz 900 P):bT [.lst ((o6 J).map vd),vd P]=.ok (.int (G.bW (c7 J) P)):=by let{h,i,a,j,k,b}:=gK d e f;erw[bT,u5,xJ];rw[gi {i,h,by rw[a];show j,g},a];congr 2;show G.XF (by erw[b]) (by erw[b])
def KC{a:Type}{r:R a}{x:a}{F:a->R Out}{b:Ev->R Out}{d:D}(e:r=.ok x)(f:J0 (B7 (F x) b)=.ok d):J0 (B7 (r.bind F) b)=.ok d:=by rw[e];show f
def SG{a:Type}{r:R a}{x:a}{F:a->R Out}{Post:Ev->Prop}(b:r=.ok x)(d:∃ρ2,F x=.ok (.nx ρ2)/\Post ρ2):∃ρ2,r.bind F=.ok (.nx ρ2)/\Post ρ2:=by rw[b];show d
end M
namespace HT
open PySem PyProof.Rows
section
open PySem.SeqAt
open PySem.AutoSeq1 (wpAny_loadPart')
open PySem.MeetsSeq PySem.MeetsSeq2 PySem.MeetsSeq3
end
section
variable{prog:bb}{w:bo}{A:be}{E:D7}{s:ai}
end
end HT
namespace DL
open PySem PySem.Spec L2
open PyProof.Rows hiding St
variable [Tabs]
end DL
namespace M
open PySem L2 DL
variable [Tabs]
def lp{b:Type}:Nat->(Nat->b->b)->b->b
 |0,_,a=>a
 |n+1,f,a=>f n (lp n f a)
theorem zG{b:Type}{f:Nat->b->b}{a:b}(P:b->Prop)(h0:P a):∀{n:Nat},(∀k<n,∀x,P x->P (f k x))->P (lp n f a)
 |0,_=>h0
 |n+1,h=>h n (aDl n) _ (zG P h0 λk d=>h k (aBE d))
theorem xI{b:Type}{f:Nat->List b->List b}{a:List b}{y:b}(mono:∀k x,y∈x->y∈f k x):∀{n:Nat},y∈a->y∈lp n f a
 |0,h=>h
 |n+1,h=>mono n _ (xI mono h)
theorem yH{b:Type}{f:Nat->List b->List b}{a:List b}{y:b}(mono:∀k x,y∈x->y∈f k x){k:Nat}(d:∀x,y∈f k x):∀{n:Nat},k<n->y∈lp n f a
 |n+1,h=>by
  by_cases e:k=n
  .subst e;show d _
  show mono n _ (yH mono d (by lia))
def Sup(S:List G.V)(f:G.V×Int):Prop:=∀X∈S,G.b8 f.1 X<=f.2
open Classical in
def mU(S:List G.V) (f:G.V×Int) (fs:List (G.V×Int)):List (G.V×Int):=if f∉fs/\Sup S f then fs++[f]else fs
open Classical in
def YE(S:List G.V) (A B C:G.V) (fs:List (G.V×Int)):List (G.V×Int):=if G.cr (B-A) (C-A)=0 then fs else mU S (G.c9 A C B) (mU S (G.c9 A B C) fs)
def mE(S:List G.V) (i j k:Nat):List (G.V×Int)->List (G.V×Int):=YE S (S.getD i 0) (S.getD j 0) (S.getD k 0)
def YF(S:List G.V) (i j:Nat):List (G.V×Int)->List (G.V×Int):=lp j (mE S i j)
def qy(S:List G.V) (i:Nat):List (G.V×Int)->List (G.V×Int):=lp i (YF S i)
def plT(S:List G.V):List (G.V×Int):=lp S.length (qy S) []
def lQ{S:List G.V}{f y:G.V×Int}{fs:List (G.V×Int)}(h:y∈fs):y∈mU S f fs:=by
 unfold mU;split
 .show aAW _ h
 show h
def KM{S:List G.V}{f:G.V×Int}{fs:List (G.V×Int)}(h:Sup S f):f∈mU S f fs:=by
 unfold mU;split
 .show aAu _ (.head _)
 rename_i z;show aCT λn=>z {n,h}
def WV{S:List G.V}{A B C:G.V}{y:G.V×Int}{fs:List (G.V×Int)}(h:y∈fs):y∈YE S A B C fs:=by
 unfold YE;split
 .show h
 show lQ (lQ h)
def VL(S:List G.V)(fs:List (G.V×Int)):Prop:=fs.Nodup/\∀f∈fs,G.IsFace S f.1 f.2
def sH{S:List G.V}{A B C:G.V}(a:A∈S)(b:B∈S)(d:C∈S)(ne:G.cr (B-A) (C-A)≠0)(h:Sup S (G.c9 A B C)):G.IsFace S (G.c9 A B C).1 (G.c9 A B C).2:=by
 let{g,k,e,f,i}:=G.Y0 ne;have j:∀Y:G.V,G.b8 (G.cr (B-A)<|C-A) (Y-A)=g*(G.b8 (G.c9 A B C).1 Y-(G.c9 A B C).2):=λY=>by rw[i,e,G.y7,G.c8]
 have zero:∀Y:G.V,G.b8 (G.cr (B-A)<|C-A) (Y-A)=0->G.b8 (G.c9 A B C).1 Y=(G.c9 A B C).2:=λY h=>by rw[j]at h;rcases aAr.mp h with h|h<;>lia
 show{f,h,A,a,B,b,C,d,zero A (by simp[G.b8]),zero B (by simp[G.b8];grind),zero C (by simp[G.b8];grind),ne}
def AF{S:List G.V}{f:G.V×Int}{fs:List (G.V×Int)}(h:VL S fs)(i:Sup S f->G.IsFace S f.1 f.2):VL S (mU S f fs):=by
 unfold mU;split
 .rename_i z;show{aCH.mpr {h.1,by simp,λa j b k e=>?_},λg d=>?_}
  .rw[aAK.mp k]at e;show z.1 (e▸j)
  rcases aAO.mp d with d|d
  .show h.2 g d
  rw[aAK.mp d];show i z.2
 show h
def kR{A B C:G.V}(h:G.cr (B-A) (C-A)≠0):G.cr (C-A) (B-A)≠0:=λz=>h (by rw[G.pR]at z;have x:=gn G.V.x z;have y:=gn G.V.y z;have w:=gn G.V.z z;apply G.ext<;>simp at*<;>lia)
def a1v{S:List G.V}{A B C:G.V}{fs:List (G.V×Int)}(a:A∈S)(b:B∈S)(d:C∈S)(h:VL S fs):VL S (YE S A B C fs):=by
 unfold YE;split
 .show h
 rename_i ne;show AF (AF h λz=>sH a b d ne z) λz=>sH a d b (kR ne) z
def AC{S:List G.V}{i:Nat}(h:i<S.length):S.getD i 0∈S:=by rw[aAD,aAk h];show aCh h
def QO{S:List G.V}{i j:Nat}{fs:List (G.V×Int)}(a:i<S.length)(b:j<S.length)(h:VL S fs){n:Nat}(e:n<=S.length):VL S (lp n (mE S i j) fs):=zG _ h λk f x d=>a1v (AC a) (AC b) (AC (by lia)) d
def UT{S:List G.V}{i:Nat}{fs:List (G.V×Int)}(a:i<S.length)(h:VL S fs){n:Nat}(d:n<=S.length):VL S (lp n (YF S i) fs):=zG _ h λj e x b=>QO a (by lia) b (by lia)
def yJ{S:List G.V}{n:Nat}(b:n<=S.length):VL S (lp n (qy S) []):=zG _ {.nil,λ_ h=>nomatch h} λi d x a=>UT (by lia) a (by lia)
def VL.few{S:List G.V}{fs:List (G.V×Int)}(e:G.f8 S)(f:S.Pairwise λa b=>G.d7 (b-a))(g:S.length<=14)(h:VL S fs):fs.length<=63:=by
 have few:=G.mW e f h.1 h.2;have d:=G.fE e f h.2;have i:S.length*S.length<=14*S.length:=Nat.mul_le_mul_right _ g
 lia
def fw{S:List G.V}(n:G.f8 S)(f:G.V×Int):f∈plT S↔G.IsFace S f.1 f.2:=by
 show{λh=>(yJ<|aAi _).2 f h,λg=>?_};have o:G.IsFace S.reverse f.1 f.2:=by let{p,s,A,t,B,w,C,y,r}:=g;show{p,λX E=>s X (aBt.mp E),A,aBt.mpr t,B,aBt.mpr w,C,aBt.mpr y,r}
 have H:G.f8 S.reverse:=gD n λv I=>aBt.mpr I;let{A,B,C,{i,j,k,ij,jk,J,L,N},q}:=(G.PM H).mp o;have at_:∀{i:Nat}{A:G.V},S.reverse[i]?=some A->i<S.length/\S.getD (S.length-1-i) 0=A:=λ{i A} e=>by have d:i<S.reverse.length:=(aAB.mp e).1;rw[aCl]at d;rw[List.getElem?_reverse d]at e;show{d,by rw[aAD,e];rfl}
 let{iA,O}:=at_ J;let{iB,Q}:=at_ L;let{iC,T}:=at_ N;have b:Sup S f:=g.sup;have st:∀x,f∈mE S (S.length-1-i) (S.length-1-j) (S.length-1-k) x:=λx=>by
  unfold mE YE;rw[O,Q,T];have a:∀X:G.V,G.b8 0 X=0:=λX=>by simp[G.b8]
  rw[gk (by
   rcases q with⟨⟨_,X,_,u⟩,_⟩|⟨⟨_,X,_,u⟩,_⟩
   .intro z;rw[z,a]at u;lia
   intro z;rw[z,a]at u;lia)]
  rcases q with⟨_,e⟩|⟨_,e⟩
  .rw[show G.c9 A B C=f from e];show lQ (KM b)
  rw[show G.c9 A C B=f from e];show KM b
 have l:∀{i j k x},f∈x->f∈mE S i j k x:=λh=>WV h;have m:∀{i j x},f∈x->f∈YF S i j x:=λh=>xI (λ_ _=>l) h;have U:∀{i x},f∈x->f∈qy S i x:=λh=>xI (λ_ _=>m) h;have Y:S.length-1-i<S.length:=by omega
 have l2:S.length-1-j<S.length-1-i:=by omega
 have l3:S.length-1-k<S.length-1-j:=by omega
 have a3:∀x,f∈YF S (S.length-1-i) (S.length-1-j) x:=λx=>yH (f:=mE S (S.length-1-i) (S.length-1-j)) (λ_ _=>l) st l3;have a2:∀x,f∈qy S (S.length-1-i) x:=λx=>yH (f:=YF S (S.length-1-i)) (λ_ _=>m) a3 l2;show yH (f:=qy S) (λ_ _=>U) a2 Y
def OC{J:List G.V}(d:S4 900 J)(g:G.f8 J)(i:(c7 J).length<=23):((c7 J).filter λX=>decide (2<(DZ (plT (c7 J)) X).length))=o6 J:=by
 rw[<-lD d g i];let{j,_,_}:=vW d g i;let{m,r,e,L}:=M5 d g (by lia);have k:=i;rw[e]at k;have l:=D8 L k;rw[<-e]at l L;have q:(j0<|c7 J).Nodup:=F1 (M8 l.2);have t:=(yJ (S:=c7 J)<|aAi _).1;have o:=fw (S:=c7 J) L.good.solid;show aFs λX _=>?_;have p:∀{a b:List (G.V×Int)},a.Nodup->(∀f,f∈a->f∈b)->(DZ a X).length<=(DZ b X).length:=λ{a b} n s=>by
  classical
  show G.p8 (n.sublist aBk) λf h=>by unfold DZ at h⊢;rw[aAH]at h⊢;show{s f h.1,h.2}
 have u:=p t λf h=>(j f).mpr ((o f).mp h);have v:=p q λf h=>(o f).mpr ((j f).mp h);have w:(DZ (plT<|c7 J) X).length=(DZ (j0<|c7 J) X).length:=aDC u v;rw[w]
def Y4{J:List G.V}(g:S4 900 J)(h:G.f8 J)(i:(c7 J).length<=23){X:G.V}:X∈o6 J↔X∈c7 J/\∃a b c:G.V×Int,(G.IsFace (c7 J) a.1 a.2/\G.b8 a.1 X=a.2)/\(G.IsFace (c7 J) b.1 b.2/\G.b8 b.1 X=b.2)/\(G.IsFace (c7 J) c.1 c.2/\G.b8 c.1 X=c.2)/\a≠b/\a≠c/\b≠c:=by
 let{m,r,e,L}:=M5 g h (by lia);have j:=i;rw[e]at j;have d:=D8 L j;rw[<-e]at d;have k:(j0<|c7 J).Nodup:=F1 (M8 d.2);have n:∀f,f∈DZ (j0<|c7 J) X↔G.IsFace (c7 J) f.1 f.2/\G.b8 f.1 X=f.2:=λf=>by unfold DZ;rw[aAH,decide_eq_true_eq,d.1]
 rw[<-lD g h i,aAH,decide_eq_true_eq,vK (l:=DZ (j0<|c7 J) X) (k.sublist aBk)];erw[n]
def VI{t:Int}{a b:G.V}(h:G.EB t a=G.EB t b):a=b:=by
 unfold G.EB at h;split at h
 .show h
 have x:=gn G.V.x h;have y:=gn G.V.y h;have z:=gn G.V.z h;simp at x y z;show G.ext x y z
def OA{L:List G.V}{t:Int}(g:t≠0)(p:S4 900 L)(j:G.f8 L)(q:(c7 L).length<=23)(r:o6 L=L)(k:S4 900 (L.map (G.x9 t))):o6 (L.map (G.x9 t))=c7 (L.map (G.x9 t)):=by
 have l:G.f8 (L.map<|G.x9 t):=G.iD g (λX d=>aAt d) j;have i:∀Y,Y∈c7 (L.map<|G.x9 t)↔∃X∈c7 L,Y=G.x9 t X:=λY=>by rw[i8,aAh];show{λ⟨x,h,e⟩=>{x,i8.mpr h,e.symm},λ⟨x,h,e⟩=>{x,i8.mp h,e.symm}}
 have o:(c7<|L.map<|G.x9 t).length<=23:=by
  have:=G.p8 (B6<|L.map<|G.x9 t) (m:=(c7 L).map (G.x9 t)) λY s=>by let{X,d,rfl}:=(i Y).mp s;show aAt d
  rw[aAf]at this;lia
 have u:(t.natAbs:Int)≠0:=by lia
 have ne:∀a b:G.V×Int,a≠b->(G.EB t a.1,(t.natAbs:Int)*a.2)≠(G.EB t b.1,(t.natAbs:Int)*b.2):=λa b n e=>by injection e with v w;show n (aEr (VI v)<|aCm u w)
 show J7 (l6 _) (l6 _) λY=>{λh=>i8.mpr (bQ k l o h),λh=>?_};let{X,d,rfl}:=(i Y).mp h;have y:X∈o6 L:=by rw[r];show i8.mp d
 let{_,a,b,c,{z,A},{B,C},{E,H},I,J,N}:=(Y4 p j q).mp y;have m:∀f:G.V×Int,G.IsFace (c7 L) f.1 f.2->G.b8 f.1 X=f.2->G.IsFace (c7<|L.map<|G.x9 t) (G.EB t f.1) ((t.natAbs:Int)*f.2)/\G.b8 (G.EB t f.1) (G.x9 t X)=(t.natAbs:Int)*f.2:=λf O e=>{G.JX g i O,by rw[G.mZ g,e]};show(Y4 k l o).mpr {h,_,_,_,m a z A,m b B C,m c E H,ne _ _ I,ne _ _ J,ne _ _ N}
def qV(k:Int):Int:=11*k*k+5*k+3
def dW:List D->R D
 |[.lst a,.int k]=>if 0<=k/\k<=1000 then .ok (wL qV a k)else .bad
 |_=>.bad
def cK(xs:List D)(k:Int):Int:=match wL qV xs k with
 |.int i=>i
 |_=>0
def xx{xs:List D}(d:nN 1048576 xs)(k:Int)(h0:0<=k)(b:k<=100):dW [.lst xs,.int k]=.ok (.int (cK xs k))/\bits (cK xs k)<=2000000:=by
 let{c,e,a}:=MO d qV k;have f:cK xs k=c:=by unfold cK;rw[e]
 rw[f];show{(gi {h0,by lia}).trans (gn R.ok e),?_};rcases a with a|rfl
 .show f6 a
 unfold qV;have g:0<=k*k:=aAS h0 h0;have h:k*k<=100*100:=Int.mul_le_mul b b h0 (by symm);rw[aEc];show l4 (aD (n:=30) (by lia) (by lia)) (by symm)
def zT:List D->R D:=v1 λa b c=>v1 λd e f=>v1 λg h i=>dQ (CC (Sz 1000 {a,b,c}/\Sz 1000 {d,e,f}/\Sz 1000 {g,h,i})<|vd<|G.cr (⟨d,e,f⟩-⟨a,b,c⟩)<|⟨g,h,i⟩-⟨a,b,c⟩)
def pj{A B C:G.V}(a:Sz 1000 A)(b:Sz 1000 B)(d:Sz 1000 C):zT [vd A,vd B,vd C]=.ok (vd (G.cr (B-A) (C-A))):=K5 {a,b,d}
def Ord(S:List G.V):Prop:=S.Pairwise λa b=>G.d7 (b-a)
def yT:List D->R D:=JL λS=>dQ (CC ((∀P∈S,Sz 900 P)/\G.f8 S/\Ord S/\S.length<=14)<|.lst ((plT S).map fK))
def XX{S:List G.V}(a:∀P∈S,Sz 900 P)(b:G.f8 S)(d:Ord S)(e:S.length<=14):yT [.lst (S.map vd)]=.ok (.lst ((plT S).map fK)):=(M6 _ S []).trans (K5 {a,b,d,e})
def Hu(l:List G.V):Prop:=S4 900 l/\G.f8 l/\(c7 l).length<=14
def Hf(l:List G.V):Prop:=S4 900 l/\G.f8 l/\(c7 l).length<=23
def yA:List D->R D:=JL λl=>dQ (CC (Hu l)<|.lst ((o6 l).map vd))
def VB{l:List G.V}(h:Hu l):yA [.lst (l.map vd)]=.ok (.lst ((o6 l).map vd)):=(M6 _ l []).trans (K5 h)
def kA:List D->R D:=v1 λa b c=>pE λk=>dQ (CC (Sz 1000 {a,b,c}/\bits k<=1000)<|vd<|G.x9 k ⟨a,b,c⟩)
def wR{P:G.V}{k:Int}(h:Sz 1000 P)(a:bits k<=1000):kA [vd P,.int k]=.ok (vd (G.x9 k P)):=K5 {h,a}
def Fo(l:List G.V)(k:Int):Prop:=(∀P∈l,Sz 1000 P)/\bits k<=1000/\l.length<=1000/\Hf (l.map<|G.x9 k)
def cW:List D->R D:=JL λl=>pE λk=>dQ (CC (Fo l k)<|.lst ((o6<|l.map<|G.x9 k).map vd))
def gq{l:List G.V}{k:Int}(h:Fo l k):cW [.lst (l.map vd),.int k]=.ok (.lst ((o6 (l.map (G.x9 k))).map vd)):=(M6 _ l _).trans (K5 h)
def uY:List D->R D:=JL λl=>pE λk=>dQ (CC (k≠0/\(∀P∈l,Sz 1000 P)/\bits k<=1000/\l.length<=63/\l.Nodup)<|.lst ((c7<|l.map<|G.x9 k).map vd))
def GS{l:List G.V}{k:Int}(h0:k≠0)(a:∀P∈l,Sz 1000 P)(b:bits k<=1000)(d:l.length<=63)(e:l.Nodup):uY [.lst (l.map vd),.int k]=.ok (.lst ((c7 (l.map (G.x9 k))).map vd)):=(M6 _ l _).trans (K5 {h0,a,b,d,e})
def G9(n A:G.V)(h:Int):G.V×Int:=({n.x.fdiv h,n.y.fdiv h,n.z.fdiv h},G.b8 {n.x.fdiv h,n.y.fdiv h,n.z.fdiv h} A)
def eG{a g:Int}(h:g∣a)(b:0<g):a.fdiv (0-g)=-(a/g):=by let{k,rfl}:=h;rw[show g*k=(-k)*(0-g)by grind,Int.mul_fdiv_cancel _ (by lia),show(-k)*(0-g)=g*k by grind,Int.mul_ediv_cancel_left _ (by lia)]
def KY{A B C:G.V}:G9 (G.cr (B-A) (C-A)) A (G.m8 (G.cr (B-A) (C-A)):Int)=G.c9 A B C:=by have e:∀a:Int,a.fdiv (G.m8 (G.cr (B-A)<|C-A):Int)=a/(G.m8 (G.cr (B-A)<|C-A):Int):=λa=>aEW a (by lia);unfold G9;rw[e,e,e];rfl
def TV(v:G.V):G.m8 (-v)=G.m8 v:=by unfold G.m8;simp
def qx{A B C:G.V}(ne:G.cr (B-A) (C-A)≠0):G9 (G.cr (B-A) (C-A)) A (0-(G.m8 (G.cr (B-A) (C-A)):Int))=G.c9 A C B:=by
 unfold G.c9 G9;rw[G.pR A B C,TV];let{b,d,f}:=G.DP (G.cr (B-A)<|C-A);have a:(0:Int)<(G.m8 (G.cr (B-A)<|C-A):Int):=by
  have:G.m8 (G.cr (B-A)<|C-A)≠0:=λz=>ne (G.fW z)
  lia
 rw[eG b a,eG d a,eG f a];have e:G.jT (-G.cr (B-A) (C-A)) (G.m8 (G.cr (B-A)<|C-A):Int)=⟨-((G.cr (B-A)<|C-A).x/(G.m8 (G.cr (B-A)<|C-A):Int)),-((G.cr (B-A)<|C-A).y/(G.m8 (G.cr (B-A)<|C-A):Int)),-((G.cr (B-A)<|C-A).z/(G.m8 (G.cr (B-A)<|C-A):Int))⟩:=by
  unfold G.jT;apply G.ext
  .show aER b
  .show aER d
  show aER f
 rw[e]
def a3w{n A:G.V}{h:Int}(a:Sz 2003 n):Sz 2003 (G9 n A h).1:={bits_fdiv a.1,bits_fdiv a.2.1,bits_fdiv a.2.2}
def JF{S:List G.V}{A:G.V}{w:G.V}(i:A∈S):(cH (S.map (G.b8 w))=G.b8 w A)↔Sup S (w,G.b8 w A):=by
 have d:∀x,x∈S.map (G.b8 w)↔∃X∈S,G.b8 w X=x:=λx=>aAh;have f:G.b8 w A∈S.map (G.b8 w):=(d _).mpr {A,i,rfl};have ne:S.map (G.b8 w)≠[]:=λz=>by rw[z]at f;cases f
 constructor
 .intro h X g;rw[<-h];show gE ((d _).mpr {X,g,rfl})
 intro h;have a:=gE f;let{X,g,e}:=(d _).mp (fM ne);have b:=h X g;dsimp only at b
 lia
def JW{S:List G.V}{w A:G.V}(a:A∈S):wF [.lst ((S.map (G.b8 w)).map D.int)]=.ok (.int (cH (S.map (G.b8 w)))):=by
 erw[wF,rJ];show gi λz=>by rw[List.map_eq_nil_iff]at z;rw[z]at a;cases a
def fy(fs:List (G.V×Int)):y9 (fs.map fK)<=1:=by
 induction fs with
 |nil=>simp[y9]
 |cons f fs a=>rw[aAq,y9];show Nat.max_le.mpr {by simp[fK,D6,y9],a}
open Classical in
def UJ{fs:List (G.V×Int)}{f:G.V×Int}:inR true (fK f) (.lst (fs.map fK))=.ok (.bl (decide (f∉fs))):=by
 have d:=fy fs;have e:uw (fK f) (fs.map fK)=decide (f∈fs):=by
  by_cases h:f∈fs
  .rw[gv h];show aDk.mpr {_,aAt h,O5 _}
  rw[gu h];cases q:uw (fK f) (fs.map fK)with
  |false=>rfl
  |true=>let{x,a,e}:=aDk.mp q;let{g,b,rfl}:=aAh.mp a;have:=gZ (by simp[fK,pA,dP]) (by simp[fK,pA,dP]) e;show gs (ZE this▸b) h
 change(if _ then R.ok (D.bl<|uw (fK f) (fs.map fK) !=true)else _)=_;rw[gi {by lia,by simp[y9,D6]},e];congr 2;by_cases h:f∈fs
 .rw[gv h,gu (λn=>n h)];rfl
 rw[gu h,gv h];rfl
def qw3(S:List G.V)(i j k:Nat)(fs:List (G.V×Int))(ρ:Ev):Prop:=∃a b d e f g h,ρ=[.v (.lst (S.map vd)),.o ((lp k (mE S i j) fs).map fK),.v (.int (i:Int)),.v (.int (j:Int)),a,b,d,e,f,g,h]
def qw2(S:List G.V)(i j:Nat)(fs:List (G.V×Int))(ρ:Ev):Prop:=∃a b d e f g h k,ρ=[.v (.lst (S.map vd)),.o ((lp j (YF S i) fs).map fK),.v (.int (i:Int)),a,b,d,e,f,g,h,k]
def qw1(S:List G.V)(i:Nat)(ρ:Ev):Prop:=∃a b d e f g h j k,ρ=[.v (.lst (S.map vd)),.o ((lp i (qy S) []).map fK),a,b,d,e,f,g,h,j,k]
def jU(S:List G.V) (n A:G.V) (h:Int) (us:List (G.V×Int)):List (G.V×Int):=if h=0 then us else mU S (G9 n A h) us
def PC{S:List G.V}{n A:G.V}{g:Int}{us:List (G.V×Int)}{j:D->Ev->R Ev}{F:Ev->R Out}{J:Ev->Prop}(st:List (G.V×Int)->Sl->Sl->Sl->Sl->Ev){a b c d:Sl}(o:∀h us a b c d,bits h<=9000->us.length<=63->∃z B C d',X9 j F (.int h) (st us a b c d)=.ok (.nx (st (jU S n A h us) z B C d')))(p:bits g<=2003)(E:us.length<=63)(H:(jU S n A g us).length<=63)(k:∀a b c d,J (st (jU S n A (0-g) (jU S n A g us)) a b c d)):∃ρ2,K1 j F [.int g,.int (0-g)] (st us a b c d)=.ok (.nx ρ2)/\J ρ2:=by
 let{q,r,s,t,I}:=o g us a b c d (l4 p (by symm)) E;let{u,v,w,y,L}:=o (0-g) _ q r s t (l4 (bits_sub (n:=2003) (by symm) p) (by symm)) H;let{N,e,h}:=lV (G:=j) (F:=F) (λl i=>(l=[.int g,.int (0-g)]/\i=st us a b c d)\/(l=[.int (0-g)]/\i=st (jU S n A g us) q r s t)\/(l=[]/\i=st (jU S n A (0-g)<|jU S n A g us) u v w y)) (by
  rintro x O i (⟨f,rfl⟩|⟨f,rfl⟩|⟨f,rfl⟩)
  .injection f with f m;subst f m;show{_,I,.inr (.inl {rfl,rfl})}
  .injection f with f m;subst f m;show{_,L,.inr (.inr {rfl,rfl})}
  cases f) (.inl {rfl,rfl})
 show{N,e,?_};rcases h with⟨h,_⟩|⟨h,_⟩|⟨_,rfl⟩
 .cases h
 .cases h
 show k u v w y
def QS{S:List G.V}{A B C:G.V}{us:List (G.V×Int)}:jU S (G.cr (B-A) (C-A)) A (0-(G.m8 (G.cr (B-A) (C-A)):Int)) (jU S (G.cr (B-A) (C-A)) A (G.m8 (G.cr (B-A) (C-A)):Int) us)=YE S A B C us:=by
 unfold YE;split
 .rename_i z;have a:(G.m8 (G.cr (B-A)<|C-A):Int)=0:=by rw[z];rfl
  unfold jU;rw[a,gi rfl,gi (by symm)]
 rename_i ne;have a:(G.m8 (G.cr (B-A)<|C-A):Int)≠0:=λz=>ne (G.fW (by lia));unfold jU;rw[gk a,gk (by lia),KY,qx ne]
def putL(a b c f:Int)(P:G.V):G.V:={P.x+a*P.y+f,P.y+b*P.z-2*f,P.z+c*(P.x+a*P.y)+f.fdiv 3}
def DS(a b c f:Int):Prop:=bits a<=60/\bits b<=60/\bits c<=60/\bits f<=100
def yN:List D->R D:=v1 λx y z=>l3 λa b c=>pE λf=>dQ (CC (Sz 100 ⟨x,y,z⟩/\DS a b c f)<|vd<|putL a b c f ⟨x,y,z⟩)
def lw{P:G.V}{a b c f:Int}(h:Sz 100 P)(d:DS a b c f):yN [vd P,.lst [.int a,.int b,.int c],.int f]=.ok (vd (putL a b c f P)):=K5 {h,d}
def ZL{P:G.V}{a b c f:Int}(h:Sz 100 P)(g:DS a b c f):Sz 300 (putL a b c f P):=by let{i,j,k,d}:=g;have e:bits (P.x+a*P.y)<=170:=f6 (bits_add (n:=160) (f6 h.1)<|f6<|bits_mul i h.2.1);have l:bits (P.y+b*P.z)<=170:=f6 (bits_add (n:=160) (f6 h.2.1)<|f6<|bits_mul j h.2.2);have m:bits (P.z+c*(P.x+a*P.y))<=240:=f6 (bits_add (n:=230) (f6 h.2.2)<|f6<|bits_mul k e);show{f6 (bits_add (n:=170) e<|f6 d),f6 (bits_sub (n:=170) l (f6 (bits_mul (show bits 2<=10 by symm) d))),f6 (bits_add (n:=240) m<|f6<|bits_fdiv d)}
def RH(a b c f:Int)(A B C E:G.V):G.e9 (putL a b c f B-putL a b c f A) (putL a b c f C-putL a b c f A) (putL a b c f E-putL a b c f A)=G.e9 (B-A) (C-A) (E-A):=by simp[putL,G.e9,G.b8];grind
def ID{a b c f:Int}{l:List G.V}(h:G.f8 l):G.f8 (l.map (putL a b c f)):=by let{A,d,B,g,C,i,E,j,e}:=h;show{_,aAt d,_,aAt g,_,aAt i,_,aAt j,by rw[RH];show e}
def iT(s:Int):List G.V:=[{0,0,0},{1+s.fmod 2,0,0},{0,1,0},{(s.fdiv 2).fmod 2,(s.fdiv 4).fmod 2,1}]
def tR(c k:Int):Int:=(c*k).fmod 2000003-1000001
def iL(s c:Int):G.V:=if(s.fdiv 648).fmod 3=1 then{tR c 48271,tR c 16811,tR c 69623}else{c.fmod 7-3,(c.fdiv 7).fmod 7-3,(c.fdiv 49).fmod 7-3}
def fN(xs:List D)(a:Int)(m:Nat):List G.V:=iT (cK xs a)++(aBI m).map λ(k:Nat)=>iL (cK xs a) (cK xs<|a+1+(k:Int))
def zR(s:Int):Prop:=(s.fdiv 216).fmod 3=1
instance(s:Int):Decidable (zR s):=inferInstanceAs (Decidable<|_=_)
def uH(s:Int):Int×Int×Int:=if zR s then(tR s 48271,tR s 16811,(s.fdiv 216).fmod 7-3)else((s.fdiv 8).fmod 3-1,(s.fdiv 24).fmod 3-1,(s.fdiv 72).fmod 3-1)
def dj(s:Int):Int:=if zR s then(s*10000000000000000051).fmod 200000000000000000001-100000000000000000000 else 0
def NC(s:Int):G.V->G.V:=putL (uH s).1 (uH s).2.1 (uH s).2.2 (dj s)
def aY(c k:Int):bits (tR c k)<=40:=f6 (bits_sub (n:=30) (bits_fmod (by symm) (by symm)) (by symm))
def JJ(s:Int):DS (uH s).1 (uH s).2.1 (uH s).2.2 (dj s):=by
 have k:∀z m:Int,m≠0->bits m<=10->bits (z.fmod m-1)<=60:=λz m a b=>f6 (bits_sub (n:=10) (bits_fmod a b) (by symm));unfold uH dj DS;split
 .show{f6 (aY _ _),f6 (aY _ _),f6 (bits_sub (n:=10) (bits_fmod (by symm) (by symm)) (by symm)),f6 (bits_sub (n:=80) (bits_fmod (by symm) (by symm)) (by symm))}
 show{k _ _ (by symm) (by symm),k _ _ (by symm) (by symm),k _ _ (by symm) (by symm),by symm}
def VN(s c:Int):Sz 100 (iL s c):=by
 have k:∀z:Int,bits (z.fmod 7-3)<=100:=λz=>f6 (bits_sub (n:=10) (bits_fmod (by symm) (by symm)) (by symm));unfold iL;split
 .show{f6 (aY _ _),f6 (aY _ _),f6 (aY _ _)}
 show{k _,k _,k _}
def UF(s:Int){l:List G.V}:(∀P∈iT s,Sz 100 P)/\G.f8 (iT s++l):=by
 have k:∀z:Int,bits (z.fmod 2)<=100:=λz=>f6 (bits_fmod (n:=10) (by symm) (by symm));have f:∀z:Int,bits (1+z.fmod 2)<=100:=λz=>f6 (bits_add (n:=10) (by symm) (bits_fmod (by symm) (by symm)));have d:bits 0<=100:=by decide
 constructor
 .intro P e;erw[iT,aAe,aAR,or_false]at e;rcases e with rfl|rfl|rfl|rfl
  .show{by symm,by symm,by symm}
  .show{f _,d,d}
  .show{by symm,by symm,by symm}
  show{k _,k _,show bits 1<=100 by symm}
 have r:=IE (a:=s) (b:=2) (by symm);show a2n (A:={0,0,0}) (B:={1+s.fmod 2,0,0}) (C:={0,1,0}) (D:={(s.fdiv 2).fmod 2,(s.fdiv 4).fmod 2,1}) (by simp[iT]) (by simp[iT]) (by simp[iT]) (by simp[iT]) ?_;simp[G.e9,G.b8]
 lia
def xT(xs:List D)(a:Int)(m:Nat):(∀P∈fN xs a m,Sz 100 P)/\G.f8 (fN xs a m)/\(fN xs a m).length=4+m:=by
 let{d,e}:=UF (cK xs a) (l:=(aBI m).map λ(k:Nat)=>iL (cK xs a) (cK xs<|a+1+(k:Int)));show{λP b=>?_,e,?_}
 .rcases aAO.mp b with b|b
  .show d P b
  let{k,_,rfl}:=aAh.mp b;show VN _ _
 unfold fN;rw[aAx,aAf,List.length_range];rfl
def iJ(xs:List D) (a:Int) (m:Nat):List G.V:=o6 ((fN xs a m).map (NC<|cK xs a))
def TM(xs:List D)(a:Int){m:Nat}(g:m<=4):Hu ((fN xs a m).map (NC (cK xs a)))/\∀P∈(fN xs a m).map (NC (cK xs a)),Sz 300 P:=by
 let{d,e,h}:=xT xs a m;have z:∀P∈(fN xs a m).map (NC<|cK xs a),Sz 300 P:=λP b=>by let{Q,f,rfl}:=aAh.mp b;show ZL (d Q f) (JJ _)
 show{{{λP b=>(z P b).mono,by rw[aAf];lia},ID e,aAj (bX _) (by rw[aAf];lia)},z}
def kB:List D->R D:=LY λb=>pE λa=>pE λm=>dQ (CC (nN 1048576 b/\(0<=a/\a<=50)/\0<=m/\m<=4)<|.lst ((iJ b a m.toNat).map vd))
def DH{xs:List D}{a m:Int}(b:nN 1048576 xs)(h0:0<=a/\a<=50)(d:0<=m/\m<=4):kB [.lst xs,.int a,.int m]=.ok (.lst ((iJ xs a m.toNat).map vd)):=K5 {b,h0,d}
def FB(L:List G.V)(n:Nat):Prop:=(∀P∈L,Sz n P)/\G.f8 L/\L.length<=23/\o6 L=L/\c7 L=L
def KD{L:List G.V}{n k:Nat}{t:Int}(g:t≠0)(d:bits t<=k)(h:FB L n)(i:n+k<=900<|>2):cW [.lst (L.map vd),.int t]=.ok (.lst ((c7 (L.map (G.x9 t))).map vd))/\uY [.lst (L.map vd),.int t]=.ok (.lst ((c7 (L.map (G.x9 t))).map vd))/\FB (c7 (L.map (G.x9 t))) (n+k):=by
 let{b,m,o,A,p}:=h;have z:∀P∈L.map (G.x9 t),Sz (n+k) P:=λP a=>by let{Q,B,rfl}:=aAh.mp a;have:=b Q B;show{l4 (bits_mul d this.1) (by lia),l4 (bits_mul d this.2.1) (by lia),l4 (bits_mul d this.2.2) (by lia)}
 have j:S4 900 (L.map<|G.x9 t):={λP a=>{l4 (z P a).1 i,l4 (z P a).2.1 i,l4 (z P a).2.2 i},by rw[aAf];lia};have q:G.f8 (L.map<|G.x9 t):=G.iD g (λX C=>aAt C) m;have r:(c7<|L.map<|G.x9 t).length<=23:=aAj (bX _) (by rw[aAf];show o);have s:∀P∈L,Sz 1000 P:=λP a=>{l4 (b P a).1 (by lia),l4 (b P a).2.1 (by lia),l4 (b P a).2.2 (by lia)};have E:S4 900 L:={λP a=>{l4 (b P a).1 (by lia),l4 (b P a).2.1 (by lia),l4 (b P a).2.2 (by lia)},by lia};have e:=OA g E m (by rw[p];show o) A j;let{u,H,v,w,x,_}:=gK j q r;rw[e]at u H v w x;have y:bits t<=1000:=l4 d (by lia);have f:=gq (l:=L) (k:=t) {s,y,by lia,j,q,r};rw[e]at f;show{f,GS g s y (by lia) (by rw[<-p];show B6 _),λP a=>z P (i8.mp a),u,w,x,v}
def CW(xs:List D)(a:Int){m:Nat}(f:m<=4):FB (iJ xs a m) 300:=by let{{b,d,e},g}:=TM xs a f;let{h,n,i,j,k,_}:=gK b d (aAj e (by symm));show{λP l=>g P (bQ b d (aAj e (by symm)) l),h,j,k,i}
end M
namespace DL
open PySem PySem.Spec L2
open PyProof.Rows hiding St st
variable [Tabs]
def EnvOk.freeze{K:gy}(E:EnvOk K g h H O j ρ)(e:ρ[i]?=some (.d N)):∃f,EnvOk K g h H f j (ρ.set i (.v (.dct N)))/\(∀b,f b->O b):=by let{a,o,q,k,s,t,l,m,n,p}:=E.slot i _ e;show{λb=>O b/\b≠a,E.ad7 e trivial k (λz=>z) {.ref a,rfl,.dct l m (λz=>z.2 rfl) p ((n.mono λr=>r.sub λ_ z=>z.1).ab8)},λb z=>z.1}
def a6b(i:Nat)(ρ:Ev):Ev:=match ρ[i]? with
 |some (.d N)=>ρ.set i (.v (.dct N))
 |_=>ρ
def atD(d k:D):R D:=match d with
 |.dct N=>if Q7 7 k=true/\HR k=true then(match atK N k with
  |some v=>.ok v
  |none=>.bad)else .bad
 |_=>.bad
def a2h(i:Nat){x y:Str}{p J h:Pos}(j:Nat)(hk:PD X (.Name y J) (G6 j))(hu:X.A.units+130<cf)(hN:X.N[i]?=some x<|>1)(hv:CF X.env.scope x<|>5)
  (hd:(x==gA)=false<|>2) (eh:(x==gB)=false<|>2):PD X (.Subscript (.Name x p) (.Name y J) h) (λρ=>(G6 i ρ).bind λd=>(G6 j ρ).bind λk=>atD d k):=by
 show wZ λY s L H Q I H9 O0 O ρ E q=>?_;dsimp only at q;unfold G6 at q;cases l:ρ[i]? with
 |none=>rw[l]at q;show(q).elim
 |some sl=>
  rw[l]at q;cases sl with
  |v d=>
   rw[R.aa0]at q;cases e:G6 j ρ with
   |ex x=>unfold G6 at e;split at e<;>cases e
   |bad=>unfold G6 at e;rw[e]at q;show q.elim
   |ok k=>
    have T:=e;unfold G6 at T;rw[T,R.aa0]at q;unfold atD at q;cases d with
    |dct N=>
     dsimp only at q;split at q
     .rename_i U;let{v,h1,r0}:=E.val i _ l;let{a,o,es,rfl,h4,h5,h6,h7}:=(z7.of r0).af2;show wpAny_Subscript_Name_late (G4 ((R0 hN hv hd eh:PE X (.Name x p) _) Y s L H (λv g=>v=.ref a/\g=H) I {_,h1,rfl,rfl}) λv s1 m=>?_);let{w,g,I1,r1,ew,eH}:=m;subst ew eH;cases r1;show G4 (hk Y s1 L g (λv f=>Same g f/\Rep X.K f O v k) I1 {H9,O0,O,ρ,E,by rw[e,RC];showλv f s2 r2=>{s2,r2}}) λu s2 m=>?_;let{v,f,n,ru,t,rk}:=m;let{b,rfl}:=iW rk U.2;cases ru;have z:=t a _ h4;have B:fF X.K f O es N:=h6.rep.mono λr=>r.same t;let{xs,hD,qd,hp}:=xU n z h5 B h7;let{ok,dp}:=kT U.1;show{"dict",_,PySem.F.slot_dict_getitem.lookup,hD.typeIs,?_};rcases MH hp with⟨_,C⟩|⟨p',d,w,e,C,zd,r⟩
      .rw[C]at q;show(q).elim
      rw[C]at q;show wpAny_getItem_heap (knd:=qP X.prog X.w) (by change X.A.in1.units+128<cf;rw[p6];lia) {X4 n rk ok rfl,by lia} hD e {w,f,n.tok _,zd,q w f t r}
     show(q).elim
    |_=>show aAy q
  |_=>show aAy q
def sdD(d:D):R (List D):=match d with
 |.dct N=>if(N.map (·.1)).all bR=true/\N.length<=63 then .ok (W9 (N.map (·.1)))else .bad
 |_=>.bad
def tJ{p j:Pos}{e:bp}{f:Ev->R D}(ha:PB X e f)(hh:X.calm=true)(hu:X.A.units+300<cf)(hg:Gl X "sorted"<|>1)(hm:X.mg "sorted"=none<|>4)(hv:cp "sorted"=some (.builtin "sorted")<|>3)(he:ag [e] X.env=(false,cu e X.env)::ag [] X.env<|>1)(G9:(cq j (ag [] X.env)).any (·.1)=false<|>1):
  PF X (.Call (.Name "sorted" p) [e] [] j) (λρ=>(f ρ).bind sdD):=by
 show wZ λY s σ H Q I H9 O0 O ρ E q=>?_;dsimp only at q;show aBb (P4 I hg hm hv (aBQ (G4 ((M1 ha dD he) j Y s σ H (λvs t=>∃v N,vs=[v]/\f ρ=.ok (.dct N)/\Same H t/\z7 X.K t O v (.dct N)) I {H9,O0,O,ρ,E,?_}) λus m z9=>?_) he G9) (by symm) (by symm))
 .cases e1:f ρ with
  |ex z=>rw[e1]at q;show q
  |bad=>nofun
  |ok d=>
   rw[e1,R.aa0]at q;cases d with
   |dct N=>showλv t m r1=>{v,N,rfl,rfl,m,r1}
   |_=>show(q).elim
 let{vs,t,B,r1,v,N,ev,ef,sm,rb}:=z9;subst ev;rw[ef,R.aa0]at q;let{a,o,es,rfl,h4,h5,h6,nd}:=rb.af2;let{u,rfl,ru}:=vals1 r1;cases ru;erw[sdD]at q;by_cases hc:(N.map (·.1)).all bR=true/\N.length<=63
 .rw[gi hc]at q;let{ke,vf}:=hc;let{J,L,ea,ep,T,ees}:=h5;have pt:=aBA.mp ke;have st:A9 X.K t O (ea.toList.map (·.key)) (N.map (·.1)):=by rw[ees];show ET h6.rep
  have hlen:(ea.toList.map (·.key)).length=N.length:=by rw[st.length,aAf]
  have hsz:ea.size=N.length:=by rw[<-hlen];simp
  have g:∀u∈ea.toList.map (·.key),∃d,d∈N.map (·.1)/\bR d=true/\HV m.heap u d:=λu hu=>by let{d,r,v,rv,rp}:=st.get hu;show{d,r,pt d r,X4 B rp (O6<|pt d r) rv}
  show TS.sorted_keys (f:=true) (key:=RU m.heap) (C:=λs'=>∃h' i,s'={m with heap:=h',toks:=i}/\∀b o,m.heap.get? b=some o->h'.get? b=some o)
   (λ{Q'} hq=>SD.collect_dk (by simp[B.ok.hd hh]) J ({o,(B.hok a _ h4).1,L,T}) (hsz▸aAj vf (by symm)) λh' i k=>hq _ {h',i,rfl,k})
   (λs' ⟨h',i,h,k⟩ s6 k6 x L y hy prog w A E hA {Q} qq=>?_) (λh2 s' ⟨h',i,h,k⟩ s6 k6 A {Q} qq=>?_) (by rw[hlen];lia) λs' gm h' l ⟨h1,i,h,k⟩ pm srt k2 hl ⟨n,gl⟩=>?_
  .subst h;let{d,_,pd,vc}:=g x L;let{d',_,U,xr}:=g y hy;rw[fX pd vc,fX U xr]at qq;show SF pd U (vc.keeps λb o e _=>k6 b o (k b o e)) (xr.keeps λb o e _=>k6 b o (k b o e)) qq
  .subst h;show BF (λx L=>?_) h2 qq;let{d,_,pd,vc}:=g x L;show{d,pd,vc.keeps λb o e _=>k6 b o (k b o e)}
  subst h;let{qr,st3,p2,xt}:=lG st pm srt (by rintro u d ⟨v,rv,rp⟩ r;show fX (pt d r) (X4 B rp (O6<|pt d r) rv)) pt nd;have e3:=eI xt (R8 _) λd=>by rw[p2.mem_iff,A3 pt]
  subst e3;let{wv,qm,nh}:=st3.ab8;have I2':=B.kept (h':=h1) (t':=i) k;show{.ref l,_,(I2'.laid (a:=l) (o:=.lst wv) (h':=h') (t':=i) k2 hl {by rw[nh.length,p2.length_eq,aAf];show aAj vf (by symm),gm,n,qm,gl}),rfl,q wv _ l sm (I2'.hok.fresh hl) nh}
 rw[gk hc]at q;show q.elim
def EH(m:List D->RK):List D->R D:=λa=>(m a).bind λN=>.ok (.dct N)
def EW.cal{K:gy}(c:EW P w K mg base k x n m):v8 P w K mg base k x n (EH m):=by
 let{g,l,p,F,b,s,e}:=c;show{g,l,p,F.imp λU H Q E z=>?_,b,s,e};let{O,h,d,r,t,i,u,v,e,q}:=z;unfold EH at e;cases f:m h with
 |ok N=>rw[f]at e;cases e;show{O,h,N,r,t,i,u,v,f,λY a A=>?_};let{B,C,o,es,I,J,L,T}:=A;show q _ _ B (.dct I J (λz=>?_) T ((L.mono λr=>r.sub λb z=>.inl z).ab8));let{o',j,_}:=i a z;rw[C]at j;cases j
 |ex y=>rw[f]at e;cases e
 |bad=>rw[f]at e;cases e
def SN(i:Nat){st:List br}{F:Ev->R Out}(h:aK X st F):aK X st (λρ=>F (a6b i ρ)):=by
 rintro f g Y s j H D I ⟨O,ρ,E,k,q⟩;dsimp only at q;unfold a6b at q;cases e:ρ[i]? with
 |none=>rw[e]at q;show h f g Y s j H D I {O,ρ,E,k,q}
 |some l=>
  rw[e]at q;cases l with
  |d N=>let{m,p,sub}:=E.freeze e;show h f g Y s j H D I {m,_,p,λa o r z=>k a o r (sub a z),RS.grow q λb o t n=>{t,λz=>n (sub b z)}}
  |_=>show h f g Y s j H D I {O,ρ,E,k,q}
def UG{fn:List Str}{js:List Nat}{N:List Str}{sc:eO}(h:(js.zip fn).all (λp=>decide (N[p.1]?=some p.2)&&decide (sc.names.lookup p.2=some .cell))=true):∀(i j:Nat) (x:Str),js[i]?=some j->fn[i]?=some x->N[j]?=some x/\sc.names.lookup x=some .cell:=λi j x a b=>by have:=aBA.mp h (j,x) (aAl (i:=i) (by rw[aBr];show{a,b}));exists this
def KN{X:Cx}{n:Nst}{clos:List (Str×a5)}(a:closureFor n.scope X.env=pure clos)(b:annTrees n.params none X.env=[])(d:qualnameIn X.env n.name n.name=n.qual)(e:∀p∈clos,X.env.cells.lookup p.1=some p.2)(f:∀x∈n.fn,∃c,clos.lookup x=some c):ClosOk X n clos:=
 {a,b,d,λx c h=>e (x,c) (PySem.mem_of_lookup h),f}
end DL
namespace M
open PySem L2 DL
variable [Tabs]
def lL{b β f:Type}{e:D->Ev->R Ev}{fe:Ev->R D}{ρ:Ev}{K:List D->R f}(rep:b->D)(d:β->D)(g:b->β)(l:List b)(i:l.length<=30000)(h:∀a∈l,∃ρ1,e (rep a) ρ=.ok ρ1/\fe ρ1=.ok (d (g a))):(if(l.map rep).length<=sizeLine then(v7 e (λ_=>.ok true) fe ρ (l.map rep)).bind K else .bad)=K ((l.map g).map d):=by rw[gi (aAj (by rw[aAf];show i) (by symm)),kH rep d g l h];rfl
def IU{b e:Type}{d:D->Ev->R Ev}{ft:Ev->R Bool}{fe:Ev->R D}{ρ:Ev}{K:List D->R e}(rep:b->D)(p:b->Bool)(g:b->D)(l:List b)(f:l.length<=30000)(h:∀a∈l,∃ρ1,d (rep a) ρ=.ok ρ1/\ft ρ1=.ok (p a)/\fe ρ1=.ok (g a)):(if(l.map rep).length<=sizeLine then(v7 d ft fe ρ (l.map rep)).bind K else .bad)=K ((l.filter p).map g):=by rw[gi (aAj (by rw[aAf];show f) (by symm)),K6 rep p g l λa i=>let⟨ρ1,j,k,m⟩:=h a i;{ρ1,j,k,λ_=>m}];rfl
def C5{a β:Type}{r:R a}{x:a}{F:a->R β}{y:R β}(b:r=.ok x)(d:F x=y):r.bind F=y:=by rw[b];show d
def n8{f:Ev->R D}{g:Ev->R (List D)}{ρ:Ev}{a:D}{l:List D}(b:f ρ=.ok a)(d:g ρ=.ok l):j8 f g ρ=.ok (a::l):=by change(f ρ).bind _=_;rw[b,R.aa0,d];rfl
def fV{r:R Out}{d:D}(h:r=.ok (.rt d)):J0 r=.ok d:=by rw[h];rfl
def kM:List D->R D:=v1 λa b c=>v1 λd e f=>dQ (.ok (vd {a+d,b+e,c+f}))
def IQ(P Q:G.V):kM [vd P,vd Q]=.ok (vd (P+Q)):=rfl
def Bk(l:List G.V):Prop:=(∀P∈l,Sz 1000 P)/\l.length<=400
def ER:List D->R D:=JL λl=>dQ (CC (Bk l)<|.lst ((l.map<|G.x9 (-1)).map vd))
def iy{l:List G.V}(h:Bk l):ER [.lst (l.map vd)]=.ok (.lst ((l.map (G.x9 (-1))).map vd)):=(M6 _ l _).trans (K5 h)
def Ou(n:G.V)(l:List G.V):Prop:=Sz 10000 n/\Bk l/\l≠[]
def fZ:List D->R D:=v1 λa b c=>JL λl=>dQ (CC (Ou {a,b,c} l)<|.lst ((G.outer ⟨a,b,c⟩ l).map vd))
def CG{n:G.V}{l:List G.V}(h:Ou n l):fZ [vd n,.lst (l.map vd)]=.ok (.lst ((G.outer n l).map vd)):=(M6 _ l _).trans (K5 h)
def MV{n:G.V}{l:List G.V}:l.filter (λP=>decide (G.b8 n P=cH (l.map (G.b8 n))))=G.outer n l:=by unfold G.outer;show aFs λP a=>?_;have h:=JF (w:=n) a;show decide_eq_decide.mpr {λe=>h.mp e.symm,λe=>(h.mpr e).symm}
def PU(n:G.V)(l:List G.V):uA [.lst (l.map vd),.lst ((l.map (G.b8 n)).map D.int)]=.ok (l.map λP=>.tup [vd P,.int (G.b8 n P)]):=by change(if _ then _ else _)=_;rw[gi (by simp)];unfold cS;rw[aBs,List.zipWith_map,List.zipWith_self];rfl
def dI(N:List (D×D)) (p:G.V×G.V):List (D×D):=dH N (vd<|p.1+p.2) (.tup [vd p.1,vd p.2])
def E6(A B:List G.V):List (D×D):=(A.flatMap λP=>B.map λQ=>(P,Q)).foldl dI []
def Pr(A B:List G.V):Prop:=Bk A/\Bk B/\A.length*B.length<=10000
open Classical in
def N8(ds:List D):R (List (D×D)):=if h:∃p:List G.V×List G.V,ds=[.lst (p.1.map vd),.lst (p.2.map vd)]/\Pr p.1 p.2 then .ok (E6 h.choose.1 h.choose.2)else .bad
def PZ{ds:List D}{d:List (D×D)}(h:N8 ds=.ok d):∃A B,ds=[.lst (A.map vd),.lst (B.map vd)]/\Pr A B/\E6 A B=d:=by
 unfold N8 at h;split at h
 .rename_i q;show{_,_,q.choose_spec.1,q.choose_spec.2,R.ok.inj h}
 cases h
def qX{A B:List G.V}(h:A.map vd=B.map vd):A=B:=by have:=gn F9 h;rw[u5,u5]at this;show Option.some.inj this
def BD{A B:List G.V}(h:Pr A B):N8 [.lst (A.map vd),.lst (B.map vd)]=.ok (E6 A B):=by have q:∃p:List G.V×List G.V,[D.lst (A.map vd),.lst (B.map vd)]=[.lst (p.1.map vd),.lst (p.2.map vd)]/\Pr p.1 p.2:={(A,B),rfl,h};have e:=q.choose_spec.1;injection e with b a;injection b with b;injection a with a _;injection a with a;show(dif_pos q).trans ?_;rw[<-qX b,<-qX a]
def QC(l:List (G.V×G.V)):∀N:List (D×D),(l.foldl dI N).length<=N.length+l.length:=by
 induction l with
 |nil=>showλN=>aAi _
 |cons p l a=>
  intro N;have h:=a (dI N p);have:=sS (N:=N) (k:=vd (p.1+p.2)) (v:=.tup [vd p.1,vd p.2]);unfold dI at h;erw[aDE,aAp];unfold dI at*
  lia
def psB:Ev->R Out:=λa=>((j8 (G6 3) (j8 (G6 4) N0) a).bind fB).bind λd=>((j8 (G6 3) (j8 (G6 4) N0) a).bind kM).bind λb=>wB 2 a b d
def a4v{a0 a1:Sl}{P:G.V}(B:List G.V):∀(N:List (D×D)) (a:Sl),N.length+B.length<=10000->∃b,K1 (λd ρ=>R.ok (aCE ρ 4 (Sl.v d))) psB (B.map vd) [a0,a1,.d N,.v (vd P),a]=.ok (.nx [a0,a1,.d ((B.map λQ=>(P,Q)).foldl dI N),.v (vd P),b]):=by
 induction B with
 |nil=>showλN a _=>{a,rfl}
 |cons Q B f=>intro N a g;erw[aAp]at g;have i:=sS (N:=N) (k:=vd (P+Q)) (v:=.tup [vd P,vd Q]);let{h,e}:=f (dI N (P,Q)) (.v (vd Q)) (by unfold dI;lia);show{h,?_};rw[aAq];show(K4 (ρ2:=[a0,a1,.d (dI N (P,Q)),.v (vd P),.v (vd Q)]) rfl ?_).trans e;show C5 rfl (C5 (C5 (n8 rfl<|n8 rfl rfl)<|IQ P Q) ?_);change(if _ then _ else _)=_;rw[gi {rfl,rfl,aAj (show N.length<=10000 by lia) (by symm)}];rfl
def a1p{a0:Sl}{B:List G.V}(A:List G.V):∀(N:List (D×D)) (a3 a:Sl),N.length+A.length*B.length<=10000->∃b f,K1 (λd ρ=>R.ok (aCE ρ 3 (Sl.v d))) (λρ=>((G6 1 ρ).bind Z5).bind λds=>K1 (λd ρ=>R.ok (aCE ρ 4 (Sl.v d))) psB ds ρ) (A.map vd) [a0,.v (.lst (B.map vd)),.d N,a3,a]=.ok (.nx [a0,.v (.lst (B.map vd)),.d ((A.flatMap λP=>B.map λQ=>(P,Q)).foldl dI N),b,f]):=by
 induction A with
 |nil=>showλN a3 a _=>{a3,a,rfl}
 |cons P A g=>intro N a3 a h;rw[aAp,aDV]at h;let{i,e}:=a4v (a0:=a0) (a1:=.v (.lst (B.map vd))) (P:=P) B N a (by lia);have j:=QC (B.map λQ=>(P,Q)) N;rw[aAf]at j;let{k,l,m}:=g ((B.map λQ=>(P,Q)).foldl dI N) (.v (vd P)) i (by lia);show{k,l,?_};rw[aAq,aCI,List.foldl_append];show(K4 (ρ1:=[a0,.v (.lst (B.map vd)),.d N,.v (vd P),a]) (F:=λρ=>((G6 1 ρ).bind Z5).bind λds=>K1 (λd ρ=>R.ok (aCE ρ 4<|Sl.v d)) psB ds ρ) rfl ?_).trans m;show C5 rfl e
def WU(A B:List G.V)(N:List (D×D)):Prop:=∀p∈N,∃P∈A,∃Q∈B,p=(vd (P+Q),.tup [vd P,vd Q])
def ZM{A B:List G.V}{N:List (D×D)}{P Q:G.V}(h:WU A B N)(f:P∈A)(g:Q∈B):WU A B (dI N (P,Q)):=by
 intro p a;unfold dI dH at a;split at a
 .let{q,i,e}:=aAh.mp a;let{j,b,k,d,l}:=h q i;by_cases z:q.1=vd (P+Q)
  .rw[gi z]at e;show{P,f,Q,g,by rw[<-e,z]}
  rw[gk z]at e;show{j,b,k,d,by rw[<-e,l]}
 rcases aAO.mp a with a|a
 .show h p a
 show{P,f,Q,g,aAK.mp a}
def HJ{A B:List G.V}(l:List (G.V×G.V)):∀N:List (D×D),(∀p∈l,p.1∈A/\p.2∈B)->WU A B N->(N.map (·.1)).Nodup->WU A B (l.foldl dI N)/\((l.foldl dI N).map (·.1)).Nodup/\∀k,k∈(l.foldl dI N).map (·.1)↔k∈N.map (·.1)\/∃p∈l,k=vd (p.1+p.2):=by
 induction l with
 |nil=>showλN _ h n=>{h,n,λk=>by simp}
 |cons p l i=>
  intro N f h n;have g:=f p aBf;let{a,b,c}:=i (dI N p) (λq d=>f q (aAd _ d)) (ZM h g.1 g.2) (wK _ _ _ n);show{a,b,λk=>?_};rw[aDE,c k];unfold dI;rw[AK];constructor
  .rintro((h|h)|⟨q,d,e⟩)
   .show .inl h
   .show .inr {p,aBf,h}
   show .inr {q,aAd _ d,e}
  rintro(h|⟨q,d,e⟩)
  .show .inl (.inl h)
  rcases aAe.mp d with rfl|d
  .show .inl (.inr e)
  show .inr {q,d,e}
def gR{A B:List G.V}:WU A B (E6 A B)/\((E6 A B).map (·.1)).Nodup/\∀k,k∈(E6 A B).map (·.1)↔∃P∈A,∃Q∈B,k=vd (P+Q):=by
 let{a,b,c}:=HJ (A:=A) (B:=B) (A.flatMap λP=>B.map λQ=>(P,Q)) [] (λp d=>by let{P,f,h}:=aAQ.mp d;let{Q,g,e}:=aAh.mp h;rw[<-e];show{f,g}) (λp d=>by cases d) aDp
 show{a,b,λk=>(c k).trans ?_};constructor
 .rintro(h|⟨p,d,e⟩)
  .cases h
  let{P,f,h}:=aAQ.mp d;let{Q,g,i}:=aAh.mp h;show{P,f,Q,g,by rw[e,<-i]}
 rintro⟨P,f,Q,g,e⟩;show .inr {(P,Q),aAQ.mpr {P,f,aAt g},e}
def pairs_at{A B:List G.V}{P Q:G.V}(l:P∈A)(n:Q∈B):∃d∈A,∃g∈B,d+g=P+Q/\atK (E6 A B) (vd (P+Q))=some (.tup [vd d,vd g]):=by
 let{a,b,c}:=gR (A:=A) (B:=B);let{p,o,e}:=aAh.mp ((c<|vd<|P+Q).mpr {P,l,Q,n,rfl});unfold atK;cases f:(E6 A B).find? (λp=>decide (p.1=vd (P+Q)))with
 |none=>show gs (List.find?_eq_none.mp f p o) (by simp[e])
 |some r=>
  have m:=aFk f;have k:r.1=vd (P+Q):=by exists List.find?_some f
  let{d,h,g,i,j}:=a r m;rw[j]at k;show{d,h,g,i,xL k,by rw[j];rfl}
def FA:Ev->R Out:=λa=>
 B7 (((G6 4 a).bind λd=>(G6 0 a).bind λk=>atD d k).bind λd=>R.ok (Out.nx<|aCE a 1<|Sl.v d)) λa=>
  ((((G6 2 a).bind Z5).bind λb=>if b.length<=sizeLine then(v7 (λd a=>R.ok (aCE a 0<|Sl.v d)) (λx=>R.ok true) (λa=>(j8 (G6 0) (j8 (λa=>(dG 1 a).bind λx=>(JC (D.int 1) a).bind λy=>W6 x y) N0) a).bind kM) (f9 ["P"] [1] a) b).bind λe=>R.ok (D.lst e)else R.bad).bind λx=>(((G6 3 a).bind Z5).bind λb=>if b.length<=sizeLine then(v7 (λd a=>R.ok (aCE a 0<|Sl.v d)) (λx=>R.ok true) (λa=>(j8 (λa=>(dG 1 a).bind λx=>(JC (D.int 0) a).bind λy=>W6 x y) (j8 (G6 0) N0) a).bind kM) (f9 ["Q"] [1] a) b).bind λe=>R.ok (D.lst e)else R.bad).bind λy=>pF x y).bind λd=>R.ok (Out.rt d)
def FT:Ev->R Out:=λa=>((((j8 (λa=>(j8 (λa=>(dG 0 a).bind λx=>(R.ok none).bind λl=>((JC (D.int 3) a).bind toI).bind λh=>PP x l h) (j8 (G6 1) N0) a).bind fZ) (j8 (λa=>(j8 (λa=>(dG 0 a).bind λx=>(R.ok none).bind λl=>((JC (D.int 3) a).bind toI).bind λh=>PP x l h) (j8 (G6 2) N0) a).bind fZ) N0) a).bind (EH N8)).bind sdD).bind λb=>R.ok (D.lst b)).bind λd=>R.ok (Out.rt d)
def mG(wd ds:List D):R D:=J0 (FA<|L0 (ds.map Sl.v) 1 .no (wd.map Sl.v))
def fQ(wd ds:List D):R D:=J0 (FT<|L0 (ds.map Sl.v) 0 .no (wd.map Sl.v))
def HG{A B:List G.V}{P Q c:G.V}(a:Bk A)(b:Bk B)(h:atK (E6 A B) (vd c)=some (.tup [vd P,vd Q])):mG [.lst (A.map vd),.lst (B.map vd),.dct (E6 A B)] [vd c]=.ok (.lst ((G.OY A B P Q).map vd)):=by
 have e:atD (.dct (E6 A B)) (vd c)=.ok (.tup [vd P,vd Q]):=by unfold atD;dsimp only;rw[gi {rfl,rfl},h]
 have d:=a.2;have f:=b.2;show p9 (ρ:=[.v (vd c),.v (.tup [vd P,vd Q]),.v (.lst (A.map vd)),.v (.lst (B.map vd)),.v (.dct (E6 A B))]) (C5 (C5 rfl<|C5 rfl e) rfl) ?_;show fV (C5 (C5 (C5 (x:=A.map vd) rfl ((lL vd vd (· +Q) A (by lia) λR g=>{_,rfl,C5 (n8 rfl<|n8 rfl rfl) (IQ R Q)}).trans rfl)) (C5 (C5 (x:=B.map vd) rfl ((lL vd vd (P+·) B (by lia) λR g=>{_,rfl,C5 (n8 rfl<|n8 rfl rfl) (IQ P R)}).trans rfl)) ?_)) rfl);show(pW (aAj (show _<=2000 by erw[aAf];lia) (by symm))).trans ?_;unfold G.OY;rw[aBv]
def x5(A B:List G.V):List G.V:=c7 (A.flatMap λP=>B.map λQ=>P+Q)
def Sf(A B:List G.V):Prop:=Pr A B/\S4 900 (A.flatMap λP=>B.map λQ=>P+Q)/\G.f8 (A.flatMap λP=>B.map λQ=>P+Q)/\(x5 A B).length<=23
def GT:List D->R D:=JL λA=>JL λB=>dQ (CC (Sf A B)<|.lst ((j0<|x5 A B).map (j7<|x5 A B)))
def NS(l:List G.V):(c7 l).map vd=W9 (l.map vd):=by
 unfold c7;show yB λd a=>by let{P,_,e}:=aAh.mp ((A3 (λd a=>by let{P,_,e}:=aAh.mp a;rw[<-e];rfl) d).mp a);show{P,e.symm}
def B1{A B:List G.V}{X:G.V}:X∈(A.flatMap λP=>B.map λQ=>P+Q)↔∃P∈A,∃Q∈B,X=P+Q:=by
 rw[aAQ];constructor
 .rintro⟨P,a,h⟩;let{Q,b,e}:=aAh.mp h;show{P,a,Q,b,e.symm}
 rintro⟨P,a,Q,b,e⟩;show{P,a,aAh.mpr {Q,b,e.symm}}
def V2(A B:List G.V):G.HC A B (x5 A B):=λX=>i8.trans B1
def HH{A B:List G.V}:∀d∈(E6 A B).map (·.1),bR d=true:=λd a=>by let{P,_,Q,_,e}:=(gR.2.2 d).mp a;rw[e];rfl
def wJ(A B:List G.V):W9 ((E6 A B).map (·.1))=(x5 A B).map vd:=by
 unfold x5;rw[NS];show eI (R8 _) (R8 _) λd=>?_;rw[A3 HH,A3 (λd f=>by let{P,_,e}:=aAh.mp f;rw[<-e];rfl),gR.2.2,aAh];constructor
 .rintro⟨P,a,Q,b,e⟩;show{P+Q,B1.mpr {P,a,Q,b,rfl},e.symm}
 rintro⟨X,g,e⟩;let{P,a,Q,b,h}:=B1.mp g;show{P,a,Q,b,by rw[<-e,h]}
def BJ{A B:List G.V}(h:(x5 A B).length<=63):sdD (.dct (E6 A B))=.ok ((x5 A B).map vd):=by
 have p:((E6 A B).map (·.1)).length<=((x5 A B).map vd).length:=G.p8 gR.2.1 λd a=>by rw[<-wJ,A3 HH];show a
 rw[aAf,aAf]at p;unfold sdD;dsimp only;rw[gi {aBA.mpr HH,by lia},wJ]
def CV{n:G.V}{l:List G.V}(h:Bk l):Bk (G.outer n l):={λP a=>h.1 P (G.bH.mp a).1,aAj (aCr _ _) h.2}
def xO{A B:List G.V}{f:G.V×Int}(h:Sf A B)(b:G.IsFace (x5 A B) f.1 f.2)(sz:Sz 2003 f.1):fQ [.lst (A.map vd),.lst (B.map vd)] [tZ f.1 f.2]=.ok (.lst ((G.m7 f.1 f.2 (x5 A B)).map vd)):=by
 let{{d,g,m},s,t,u}:=h;let{Z,i,_,_,_,_,n,_}:=b.three;let{P,j,Q,k,e}:=(V2 A B Z).mp i;have o:A≠[]:=λz=>by rw[z]at j;cases j
 have p:B≠[]:=λz=>by rw[z]at k;cases k
 have l:x5 (G.outer f.1 A) (G.outer f.1 B)=G.m7 f.1 f.2 (x5 A B):=J7 (l6 _) ((l6 _).filter _) λX=>by rw[G.GY (V2 A B) b.sup i n X];show V2 _ _ X
 have q:Pr (G.outer f.1 A) (G.outer f.1 B):={CV d,CV g,aAj (aCq (aCr _ _)<|aCr _ _) m};have r:EH N8 [.lst ((G.outer f.1 A).map vd),.lst ((G.outer f.1 B).map vd)]=.ok (.dct (E6 (G.outer f.1 A)<|G.outer f.1 B)):=by unfold EH;rw[BD q];rfl
 have a:(x5 (G.outer f.1 A)<|G.outer f.1 B).length<=63:=by rw[l];show aAj (aCr _ _) (by lia)
 rw[<-l];show fV (C5 (C5 (C5 (C5 (n8 (C5 (n8 rfl<|n8 rfl rfl)<|CG ⟨sz.mono,d,o⟩)<|n8 (C5 (n8 rfl<|n8 rfl rfl)<|CG ⟨sz.mono,g,p⟩) rfl) r)<|BJ a) rfl) rfl)
def HZ{A B:List G.V}(h:Sf A B):Tells (x5 A B) (mG [.lst (A.map vd),.lst (B.map vd),.dct (E6 A B)]) (fQ [.lst (A.map vd),.lst (B.map vd)])where
 about:=λX j=>by
  let{P,k,Q,l,e}:=(V2 A B X).mp j;let{m,d,o,g,p,at_}:=pairs_at k l;rw[e];show{G.OY A B m o,HG h.1.1 h.1.2.1 at_,G.WZ (V2 A B) d g,?_,λn i=>?_}
  .have a:=h.1.1.2;have b:=h.1.2.1.2;unfold G.OY;erw[aAx,aAf];lia
  rw[<-p]at i⊢;show G.mz (V2 A B) n i
 touched:=λf q sz=>xO h q sz
def ZQ{A B:List G.V}(h:Sf A B):GT [.lst (A.map vd),.lst (B.map vd)]=.ok (.lst ((j0 (x5 A B)).map (j7 (x5 A B)))):=(M6 _ A _).trans ((M6 _ B _).trans (K5 h))
def bK(A B:List G.V):List G.V:=o6 (A.flatMap λP=>B.map λQ=>P+Q)
def mX:List D->R D:=JL λA=>JL λB=>dQ (CC (Sf A B)<|.lst ((bK A B).map vd))
def KP{A B:List G.V}(h:Sf A B):mX [.lst (A.map vd),.lst (B.map vd)]=.ok (.lst ((bK A B).map vd)):=(M6 _ A _).trans ((M6 _ B _).trans (K5 h))
def yK{A B:List G.V}(h:Sf A B):F5 [.lst ((j0 (x5 A B)).map (j7 (x5 A B)))]=.ok (.lst ((bK A B).map vd)):=by
 let{m,r,e,L}:=M5 h.2.1 h.2.2.1 (aAj h.2.2.2 (by symm));have l:=h.2.2.2;have e:x5 A B=m::r:=e;have a:((j0<|x5 A B).flatMap (G.d8<|x5 A B)).length<=200/\(c7<|(j0<|x5 A B).flatMap (G.d8<|x5 A B)).length<=23:=by rw[e]at l⊢;show nI L l
 show tP (J:=x5 A B) (fs:=j0 (x5 A B)) (by lia) (by lia)
def Df(A B:List G.V):Prop:=Bk B/\Sf A (B.map<|G.x9 (-1))
def cD:List D->R D:=JL λA=>JL λB=>dQ (CC (Df A B)<|.lst ((bK A<|B.map<|G.x9 (-1)).map vd))
def tQ{A B:List G.V}(h:Df A B):cD [.lst (A.map vd),.lst (B.map vd)]=.ok (.lst ((bK A (B.map (G.x9 (-1)))).map vd)):=(M6 _ A _).trans ((M6 _ B _).trans (K5 h))
def zj{A B:List G.V}{Q:G.V}(b:∀P∈A,Sz 400 P)(d:∀P∈B,Sz 400 P)(f:G.f8 A)(g:Q∈B)(h:A.length<=10)(i:B.length<=10)(few:(x5 A B).length<=23):Sf A B:=by
 have n:A.length*B.length<=10*10:=aCq h i;have len:∀l:List G.V,(l.flatMap λP=>B.map λQ=>P+Q).length=l.length*B.length:=λl=>by
  induction l with
  |nil=>simp
  |cons P l j=>rw[aCI,aAx,j,aAf,aAp,aDV,aFM]
 show{{{λP a=>(b P a).mono,by lia},{λP a=>(d P a).mono,by lia},by lia},{λX k=>?_,by rw[len];lia},?_,few}
 .let{P,a,R,m,e}:=B1.mp k;rw[e];show(Sz.add (b P a)<|d R m).mono
 show G.EG (S:=A.flatMap λP=>B.map λQ=>P+Q) (λX=>B1) f g
def oK{a b:List G.V}(h:∀X,X∈a↔X∈b):c7 a=c7 b:=J7 (l6 _) (l6 _) λv=>by rw[i8,i8,h]
def qO{a b:List G.V}(h:∀X,X∈a↔X∈b):o6 a=o6 b:=by unfold o6;rw[oK h]
def MK{A B d f:List G.V}(g:∀X,X∈A↔X∈d)(h:∀X,X∈B↔X∈f):bK A B=bK d f:=qO λX=>by
 rw[B1,B1];constructor
 .rintro⟨P,a,Q,b,e⟩;show{P,(g P).mp a,Q,(h Q).mp b,e}
 rintro⟨P,a,Q,b,e⟩;show{P,(g P).mpr a,Q,(h Q).mpr b,e}
def W2(P:G.V):G.x9 (-1) P=-P:=by apply G.ext<;>simp[G.x9]
def uV(xs:List D)(a:Int){m:Nat}(b:m<=4):(iJ xs a m).length<=4+m:=by
 let{{d,e,f},_}:=TM xs a b;have l:((fN xs a m).map (NC<|cK xs a)).length=4+m:=by rw[aAf];unfold fN;rw[aAx,aAf,List.length_range];rfl
 rw[<-l];show G.p8 ?_ λX g=>bQ d e (aAj f (by symm)) g;unfold iJ o6;show B6 _
def vT:List G.V->List G.V
 |[]=>[]
 |P::l=>l.map (λQ=>P+-Q)++(l.map (λQ=>Q+-P)++vT l)
def MR(l:List G.V):(vT l).length+l.length=l.length*l.length:=by
 induction l with
 |nil=>rfl
 |cons P l a=>
  unfold vT;erw[aAx,aAf,aAp,aDV,Nat.mul_succ]
  lia
def ME(P:G.V):P+-P=0:=by apply G.ext<;>simp<;>lia
def MZ(l:List G.V):∀P∈l,∀Q∈l,P+-Q=0\/P+-Q∈vT l:=by
 induction l with
 |nil=>showλP h=>by cases h
 |cons R l f=>
  intro P g Q i;unfold vT;rcases aAe.mp g with a|b<;>rcases aAe.mp i with d|e
  .rw[a,d];show .inl (ME _)
  .rw[a];show .inr (aAW _<|aAh.mpr ⟨Q,e,rfl⟩)
  .rw[d];show .inr (aAu _<|aAW _<|aAh.mpr ⟨P,b,rfl⟩)
  show(f P b Q e).imp id λh=>aAu _ (aAu _ h)
def WJ{A:List G.V}(a:A.length<=5):(x5 A (A.map (G.x9 (-1)))).length<=23:=by
 have h:(x5 A<|A.map<|G.x9 (-1)).length<=(0::vT A).length:=by
  show G.p8 (B6 _) λX b=>?_;let{P,d,Q,f,e}:=(V2 _ _ X).mp b;let{R,g,i}:=aAh.mp f;rw[<-i,W2]at e;rw[e];rcases MZ A P d R g with z|z
  .rw[z];show aBf
  show aAd _ z
 have l:=MR A;have k:A.length*A.length<=5*A.length:=Nat.mul_le_mul_right _ a;rw[aAp]at h
 lia
def IX{L:List G.V}(t:Int)(d:(c7 L).length<=23):(c7 (L.map (G.x9 t))).length<=23:=by
 have:=G.p8 (B6<|L.map<|G.x9 t) (m:=(c7 L).map (G.x9 t)) λY a=>by let{X,b,rfl}:=aAh.mp (i8.mp a);show aAt (i8.mpr b)
 rw[aAf]at this;lia
def DD{L:List G.V}{t:Int}{X:G.V}(d:t≠0)(l:S4 900 L)(i:G.f8 L)(j:(c7 L).length<=23)(o:S4 900 (L.map (G.x9 t)))(g:X∈o6 L):G.x9 t X∈o6 (L.map (G.x9 t)):=by
 have p:G.f8 (L.map<|G.x9 t):=G.iD d (λX g=>aAt g) i;have k:∀Y,Y∈c7 (L.map<|G.x9 t)↔∃X∈c7 L,Y=G.x9 t X:=λY=>by rw[i8,aAh];show{λ⟨x,h,e⟩=>{x,i8.mpr h,e.symm},λ⟨x,h,e⟩=>{x,i8.mp h,e.symm}}
 have q:(t.natAbs:Int)≠0:=by lia
 have ne:∀a b:G.V×Int,a≠b->(G.EB t a.1,(t.natAbs:Int)*a.2)≠(G.EB t b.1,(t.natAbs:Int)*b.2):=λa b n e=>by injection e with r s;show n (aEr (VI r)<|aCm q s)
 let{u,a,b,c,{v,w},{y,z},{A,B},C,E,H}:=(Y4 l i j).mp g;have m:∀f:G.V×Int,G.IsFace (c7 L) f.1 f.2->G.b8 f.1 X=f.2->G.IsFace (c7<|L.map<|G.x9 t) (G.EB t f.1) ((t.natAbs:Int)*f.2)/\G.b8 (G.EB t f.1) (G.x9 t X)=(t.natAbs:Int)*f.2:=λf I e=>{G.JX d k I,by rw[G.mZ d,e]};show(Y4 o p<|IX t j).mpr {(k _).mpr {X,u,rfl},_,_,_,m a v w,m b y z,m c A B,ne _ _ C,ne _ _ E,ne _ _ H}
def jZ(X:G.V):G.x9 (-1) (G.x9 (-1) X)=X:=by rw[W2,W2];apply G.ext<;>simp
def XZ{L:List G.V}(b:S4 900 L)(d:G.f8 L)(e:(c7 L).length<=23)(f:S4 900 (L.map (G.x9 (-1)))):o6 (L.map (G.x9 (-1)))=c7 ((o6 L).map (G.x9 (-1))):=by
 have i:G.f8 (L.map<|G.x9 (-1)):=G.iD (by symm) (λX a=>aAt a) d;have g:(L.map<|G.x9 (-1)).map (G.x9 (-1))=L:=by rw[aBs];show(aEJ λX _=>jZ X).trans (List.map_id L)
 show J7 (l6 _) (l6 _) λY=>?_;rw[i8 (J:=(o6 L).map (G.x9 (-1))),aAh];constructor
 .intro h;have:=DD (t:=-1) (by symm) f i (IX _ e) (by rw[g];show b) h;rw[g]at this;show{_,this,jZ Y}
 rintro⟨X,a,rfl⟩;show DD (by symm) b d e f a
def IF{n:Nat}{P:G.V}(h:Sz n P):Sz (n+1) (G.x9 (-1) P):=by
 have e:G.x9 (-1) P=0-P:=by rw[W2];apply G.ext<;>simp
 rw[e];show Sz.sub {aAU _,aAU _,aAU _} h
def qL{A:List G.V}(h:G.f8 A):∃P,P∈A:=by let{P,a,_}:=h;show{P,a}
def a4w{A B:List G.V}(a:FB A 300)(b:FB B 300)(e:A.length<=10)(f:B.length<=10)(few:(x5 A (B.map (G.x9 (-1)))).length<=23):Df A B:=by let{Q,g}:=qL b.2.1;show{{λP d=>(b.1 P d).mono,by lia},zj (λP d=>(a.1 P d).mono) (λP d=>?_) a.2.1 (aAt g) e (by rw[aAf];show f) few};let{R,h,rfl}:=aAh.mp d;show(IF<|b.1 R h).mono
def zU{A B:List G.V}(h:A.length*B.length<=23):(x5 A (B.map (G.x9 (-1)))).length<=23:=by
 show aAj (bX _) (aAj (aEw ?_) h);have len:∀l:List G.V,(l.flatMap λP=>(B.map<|G.x9 (-1)).map λQ=>P+Q).length=l.length*B.length:=λl=>by
  induction l with
  |nil=>simp
  |cons P l a=>rw[aCI,aAx,a,aAf,aAf,aAp,aDV,aFM]
 show len A
def ez{A B:List G.V}(h:Sf A B)(hz:∀X∈(A.flatMap λP=>B.map λQ=>P+Q),Sz 401 X):FB (bK A B) 401:=by let{_,b,d,a}:=h;have a:(c7<|A.flatMap λP=>B.map λQ=>P+Q).length<=23:=a;let{e,k,f,g,i,_}:=gK b d a;show{λP j=>hz P (bQ b d a j),e,g,i,f}
def MB{A B:List G.V}(X:G.V):X∈(B.flatMap λP=>(A.map (G.x9 (-1))).map λQ=>P+Q)↔X∈(A.flatMap λP=>(B.map (G.x9 (-1))).map λQ=>P+Q).map (G.x9 (-1)):=by
 have e:∀P Q:G.V,G.x9 (-1) (P+G.x9 (-1) Q)=Q+G.x9 (-1) P:=λP Q=>by rw[W2,W2,W2];apply G.ext<;>simp<;>lia
 rw[B1,aAh];constructor
 .rintro⟨P,a,Q,b,h⟩;let{R,d,rfl}:=aAh.mp b;show{R+G.x9 (-1) P,B1.mpr {R,d,_,aAt a,rfl},by rw[e,h]}
 rintro⟨Y,f,h⟩;let{P,a,Q,b,g}:=B1.mp f;let{R,d,rfl}:=aAh.mp b;show{R,d,_,aAt a,by rw[<-h,g,e]}
def NI{A B:List G.V}(h:Sf A (B.map (G.x9 (-1))))(k:S4 900 ((A.flatMap λP=>(B.map (G.x9 (-1))).map λQ=>P+Q).map (G.x9 (-1)))):bK B (A.map (G.x9 (-1)))=c7 ((bK A (B.map (G.x9 (-1)))).map (G.x9 (-1))):=
 (qO MB).trans (XZ h.2.1 h.2.2.1 h.2.2.2 k)
def FQ{A B:List G.V}(h:Sf A B){X P Q d f:G.V}(k:X∈bK A B)(l:P∈A)(m:Q∈B)(g:d∈A)(i:f∈B)(e:X=P+Q)(o:X=d+f):P=d/\Q=f:=by let{_,p,j,q}:=h;let{L,a,b,c,{r,s},{t,u},{w,x},y,z,C}:=(Y4 p j q).mp k;have E:G.f8 (c7<|A.flatMap λP=>B.map λQ=>P+Q):=gD j λv H=>i8.mpr H;show G.RO (V2 A B) (n:=a.1+b.1+c.1) (λY I J=>G.vG E r t w s u x y z C I J) l m g i e o
def EN{A:List G.V}(b:G.f8 A)(h:Sf A (A.map (G.x9 (-1)))):bT [.lst ((bK A (A.map (G.x9 (-1)))).map vd),vd 0]=.ok (.int 1):=by
 let{_,e,f,g}:=h;show(HI e f g (P:=0) {aAU _,aAU _,aAU _}).trans ?_;have lt:∀n d,G.IsFace (c7<|A.flatMap λP=>(A.map<|G.x9 (-1)).map λQ=>P+Q) n d->G.b8 n 0-d<0:=λn d a=>by have:=G.HM (V2 A<|A.map<|G.x9 (-1)) b (λP i=>by rw[<-W2];show aAt i) a.prim.ne a.sup;rw[G.A1];lia
 unfold G.bW;rw[gi λn d a=>aAA (lt n d a),gi lt]
def qB:List D->R D:=LY λa=>dQ (CC (a.length<=63/\nN 1048576 a)<|.bl true)
def a3f(v w:G.V):KZ (vd v) (vd w)=.ok (.bl (decide (v=w))):=by show(US _ _ _ _ _ _).trans (gn (λb=>R.ok (D.bl b)) ?_);rw[aDH];simp;show{λ⟨a,b,c⟩=>G.ext a b c,λe=>by rw[e];simp}
def a7v{d:Type}{us:List d}(h:us.length=2):∃a b,us=[a,b]:=by
 cases us with
 |nil=>cases h
 |cons a us=>let{b,rfl}:=aAZ.mp (Nat.succ.inj h);show{a,b,rfl}
def LH{a:Type}{r:R Bool}{A B:R a}(h:r=.ok false):(r.bind λt=>if t=true then A else B)=B:=by rw[h];rfl
def yk{f g:Ev->R Bool}{ρ:Ev}(a:f ρ=.ok false)(b:g ρ=.ok false):orB f g ρ=.ok false:=by unfold orB;rw[a];show b
def a6e{f g:Ev->R D}{ρ:Ev}{d:D}(h:f ρ=.ok (.bl true))(a:g ρ=.ok d):a3e f g ρ=.ok d:=by unfold a3e;rw[h];show a
def YX{d:D}(h:D6 d<=40):KZ d d=.ok (.bl true):=by unfold KZ;rw[gi {h,h},O5]
def JH(l:List G.V):D6 (.lst (l.map vd))<=2:=by
 rw[D6];have:y9 (l.map vd)<=1:=by
  induction l with
  |nil=>simp[y9]
  |cons P J a=>rw[aAq,y9];show Nat.max_le.mpr {by simp[D6,y9],a}
 lia
def YS(a b:List G.V):D6 (.lst [.lst (a.map vd),.lst (b.map vd)])<=40:=by
 have:=JH a;have:=JH b;rw[D6,y9,y9,y9]
 lia
def cx{f:Type}{G:D->Ev->R Ev}{F k:Ev->R Out}{d:D}(rep:f->D)(N:Nat)(Iv:List f->Ev->Prop)(o:∀b a ρ,b.length<N->Iv b ρ->∃ρ2,X9 G F (rep a) ρ=.ok (.nx ρ2)/\Iv (b++[a]) ρ2)(l:List f):∀b ρ,b.length+l.length<=N->Iv b ρ->(∀m,Iv (b++l) m->J0 (k m)=.ok d)->J0 (B7 (K1 G F (l.map rep) ρ) k)=.ok d:=by
 induction l with
 |nil=>showλb ρ _ g i=>i ρ (by rw[aBS];show g)
 |cons a l p=>
  intro b ρ n g i;rw[aAp]at n;let{ρ2,e,h}:=o b a ρ (by lia) g;have:=p (b++[a]) ρ2 (by rw[aAx];show aAj (by simp;lia) n) h (by rw[aDe];show i);rw[aAq,K1];unfold X9 at e;cases j:G (rep a) ρ with
  |ok q=>rw[j]at e;dsimp only at e⊢;rw[e];show this
  |ex x=>rw[j]at e;cases e
  |bad=>rw[j]at e;cases e
def a6r{i:Nat}{F:Ev->R Out}{d:D}{ρ a:Ev}{J:Ev->Prop}(e:ρ.set i (.v d)=a)(h:∃ρ2,F a=.ok (.nx ρ2)/\J ρ2):∃ρ2,X9 (λd ρ=>.ok (ρ.set i (Sl.v d))) F d ρ=.ok (.nx ρ2)/\J ρ2:=by subst e;show h
def BO{A:List G.V}{n:Nat}(h:FB A n):A.Nodup:=by rw[<-h.2.2.2.2];show B6 _
def ng(A:List G.V):List G.V:=A.map (G.x9 (-1))
def zW{A B:List G.V}(a:FB A 300)(b:FB B 300)(h:A.length<=10)(i:B.length<=10)(few:(x5 A (ng B)).length<=23):
  Df A B/\FB (bK A (ng B)) 401/\bK B (ng A)=c7 (ng (bK A (ng B)))/\cW [.lst ((bK A (ng B)).map vd),.int (-1)]=.ok (.lst ((bK B (ng A)).map vd)):=by
 have d:=a4w a b h i few;have z:∀X∈(A.flatMap λP=>(ng B).map λQ=>P+Q),Sz 302 X:=λX g=>by let{P,j,Q,l,rfl}:=B1.mp g;let{R,m,rfl}:=aAh.mp l;show Sz.add (a.1 P j).mono (IF<|b.1 R m)
 have f:=ez d.2 λX g=>(z X g).mono;have e:=NI d.2 {λX g=>by let{Y,n,rfl}:=aAh.mp g;show(IF<|z Y n).mono,by rw[aAf];show d.2.2.1.2}
 show{d,f,e,?_};have e:bK B (ng A)=c7 (ng<|bK A<|ng B):=e;rw[e];show(KD (t:=-1) (k:=1) (by symm) (by symm) f).1
def mj{d:Type}{l:List d}{a:d}(n:l.Nodup)(h:a∈l)(u:∀b∈l,b=a):l.length=1:=by
 cases l with
 |nil=>cases h
 |cons x l=>
  cases l with
  |nil=>rfl
  |cons y l=>
   have:=u x (.head _);have:=u y (.tail _ (.head _))
   nofun
def Z7(A B:List G.V):List G.V:=A.flatMap λP=>B.map λQ=>P-Q
def NL(A B:List G.V)(P:G.V):(Z7 (A++[P]) B).map vd=(Z7 A B).map vd++(B.map (P-·)).map vd:=by unfold Z7;rw[List.flatMap_append,<-aBv,aCI,List.flatMap_nil,aBS]
def uX(A B:List G.V):(Z7 A B).length=A.length*B.length:=by
 unfold Z7;induction A with
 |nil=>simp
 |cons P l a=>rw[aCI,aAx,a,aAf,aAp,aDV,aFM]
def ZF{A B:List G.V}(h:Sf A (ng B))(k:A.Nodup)(l:B.Nodup){X:G.V}(f:X∈bK A (ng B)):((Z7 A B).filter λY=>decide (Y=X)).length=1:=by
 have w:Z7 A B=(A.flatMap λP=>B.map λQ=>(P,Q)).map λp=>p.1-p.2:=by unfold Z7;rw[List.map_flatMap];erw[aBs];rfl
 have g:∀P Q:G.V,P-Q=P+G.x9 (-1) Q:=λP Q=>by rw[W2];apply G.ext<;>simp<;>lia
 let{P,i,z,b,e}:=B1.mp (bQ h.2.1 h.2.2.1 h.2.2.2 f);let{Q,m,rfl}:=aAh.mp b;rw[w,List.filter_map,aAf];show mj (a:=(P,Q)) (List.Pairwise.sublist aBk ?_) ?_ ?_
 .show List.pairwise_flatMap.mpr ?_;show{λP _=>aBM.mpr (l.imp λn e=>n (Prod.mk.inj e).2),k.imp λn x o y q e=>?_};let{_,_,rfl}:=aAh.mp o;let{_,_,rfl}:=aAh.mp q;show n (Prod.mk.inj e).1
 .show aAH.mpr {aAQ.mpr {P,i,aAt m},?_};simp[e,g]
 intro p r;let{d,j}:=aAH.mp r;let{R,s,d}:=aAQ.mp d;let{S,t,rfl}:=aAh.mp d;simp[g]at j;let{u,v}:=FQ h f s (aAt t) i b j.symm e;rw[u,<-jZ S,v,jZ]
def a5v{A B:List G.V}(a:FB A 300)(b:FB B 300)(h:A.length<=5)(l:B.length<=4):∃m C n E:List G.V,cD [.lst (A.map vd),.lst (B.map vd)]=.ok (.lst (C.map vd))/\cW [.lst (B.map vd),.int (-1)]=.ok (.lst (m.map vd))/\mX [.lst (A.map vd),.lst (m.map vd)]=.ok (.lst (C.map vd))/\cD [.lst (B.map vd),.lst (A.map vd)]=.ok (.lst (n.map vd))/\cW [.lst (C.map vd),.int (-1)]=.ok (.lst (n.map vd))/\(∀X∈C,((Z7 A B).filter λY=>decide (Y=X)).length=1)/\cD [.lst (A.map vd),.lst (A.map vd)]=.ok (.lst (E.map vd))/\cW [.lst (E.map vd),.int (-1)]=.ok (.lst (E.map vd))/\bT [.lst (E.map vd),vd 0]=.ok (.int 1):=by
 have y:A.length*B.length<=5*4:=aCq h l;have z:B.length*A.length<=4*5:=aCq l h;let{d,f,e,g}:=zW a b (by lia) (by lia) (zU (by lia));let{s,_,_,_}:=zW b a (by lia) (by lia) (zU (by lia));let{o,H,I,u}:=zW a a (by lia) (by lia) (WJ h);let{p,_,q}:=KD (t:=-1) (k:=1) (by symm) (by symm) b;have i:∀X,X∈c7 (B.map<|G.x9 (-1))↔X∈ng B:=λX=>i8;have v:Sf A (c7<|B.map<|G.x9 (-1)):=by
  let{Q,w}:=qL b.2.1;show zj (λP j=>(a.1 P j).mono) (λP j=>(q.1 P j).mono) a.2.1 (Q:=G.x9 (-1) Q) ((i _).mpr (aAt w)) (by lia) (aAj (bX _) (by rw[aAf];lia)) ?_;have:x5 A (c7<|B.map<|G.x9 (-1))=x5 A (ng B):=oK λX=>by rw[B1,B1];erw[i]
  rw[this];show zU (by lia)
 have r:=KP v;rw[MK (λX=>Iff.rfl) i]at r;show{_,_,_,_,tQ d,p,r,tQ s,g,λX x=>ZF d.2 (BO a) (BO b) x,tQ o,u,EN a.2.1 o.2}
end M
namespace DL
open PySem PySem.Spec L2
def ZA{K:Params->gy}{P a c c2:a5}{tb b:List (Pos×Str)}{d:List a5}(f:P∈d)(g:∀w:bo,PySem.W.codeHdIn (K w.params) c P=true)(h:a∈d)(i:∀w:bo,PySem.W.codeHdIn (K w.params) c2 a=true):∀p∈[(P,tb),(a,b)],p.1∈d/\∃c,∀w:bo,PySem.W.codeHdIn (K w.params) c p.1=true:=λp e=>by
 rcases aAe.mp e with rfl|e
 .show{f,c,g}
 rw[aAK.mp e];show{h,c2,i}
def OM{P b:a5}{tb a:List (Pos×Str)}(h:P≠b):([(P,tb),(b,a)].map (·.1)).Nodup:=by exists h
end DL
namespace K54
open PySem L2 DL M
def top(i:Nat):br:=PySem.Challenge.pw_stakebodies_k54_differences.main.body.getD i (.Pass {0,0,0,0})
abbrev aL:br:=top 5
abbrev uL:List Str:=["P", "Q"]
def sI:FnScope uL ["P", "Q"] (b9 aL):=E9
abbrev X1:br:=top 6
abbrev rV:List Str:=["u", "v"]
def pI:FnScope rV ["u", "v"] (b9 X1):=E9
abbrev zE:br:=top 7
abbrev tj:List Str:=["u", "k"]
def WF:FnScope tj ["u", "k"] (b9 zE):=E9
abbrev jD:br:=top 8
abbrev EX:List Str:=["u", "v"]
def CN:FnScope EX ["u", "v"] (b9 jD):=E9
abbrev cE:br:=top 9
abbrev yW:List Str:=["u", "v"]
def uD:FnScope yW ["u", "v"] (b9 cE):=E9
abbrev R5:br:=top 10
abbrev mQ:List Str:=["numbers", "divisor", "number", "rest", "further"]
def kX:FnScope mQ ["numbers"] (b9 R5):=E9
abbrev U8:br:=top 11
abbrev pK:List Str:=["P", "Q", "R", "cross", "divisor", "upright"]
def mO:FnScope pK ["P", "Q", "R"] (b9 U8):=E9
abbrev mF:br:=top 12
abbrev NW:List Str:=["plane", "P", "height"]
def ED:FnScope NW ["plane", "P"] (b9 mF):=E9
abbrev S1:br:=top 15
abbrev mT:List Str:=["ways", "way"]
def kJ:FnScope mT ["ways"] (b9 S1):=E9
abbrev C7:br:=top 16
abbrev N9:List Str:=["points", "ways", "along", "upright"]
def oZ:FnScope N9 ["points"] (b9 C7):=E9
abbrev aP:br:=top 17
abbrev uR:List Str:=["points"]
def tM:FnScope uR ["points"] (b9 aP):=E9
abbrev aE:br:=top 18
abbrev oA:List Str:=["plane", "points"]
def xM:FnScope oA ["plane", "points"] (b9 aE):=E9
abbrev aT:br:=top 19
abbrev uI:List Str:=["pair", "points", "along", "upright", "outermost", "P", "way"]
def rS:FnScope uI ["pair", "points"] (b9 aT):=E9
abbrev cC:br:=top 20
abbrev yS:List Str:=["points", "least", "upward", "touched"]
def uS:FnScope yS ["points"] (b9 cC):=E9
abbrev mD:br:=top 21
abbrev PJ:List Str:=["upright", "P", "Q", "R"]
def HF:FnScope PJ ["upright", "P", "Q", "R"] (b9 mD):=E9
abbrev cQ:br:=top 22
abbrev zQ:List Str:=["upright", "points", "chain", "P"]
def uJ:FnScope zQ ["upright", "points"] (b9 cQ):=E9
abbrev lU:br:=top 23
abbrev OQ:List Str:=["upright", "points", "there", "back"]
def HQ:FnScope OQ ["upright", "points"] (b9 lU):=E9
abbrev aQ:br:=top 24
abbrev uO:List Str:=["ring"]
def qQ:FnScope uO ["ring"] (b9 aQ):=E9
abbrev bY:br:=top 25
abbrev zA:List Str:=["first", "about", "touched_by", "faces", "walked", "waiting", "pair", "plane", "ring", "step"]
def iO:FnScope zA ["first", "about", "touched_by"] (b9 bY):=E9
abbrev N2:br:=top 26
abbrev jL:List Str:=["points", "spread", "about", "touched_by"]
def oM:FnScope jL ["points"] (b9 N2):=E9
abbrev cV:br:=top 27
abbrev zI:List Str:=["faces", "corners", "plane", "ring"]
def uQ:FnScope zI ["faces"] (b9 cV):=E9
abbrev mR:br:=top 28
abbrev ON:List Str:=["points"]
def HK:FnScope ON ["points"] (b9 mR):=E9
abbrev Z6:br:=top 30
abbrev oG:List Str:=["land", "k"]
def zP:FnScope oG ["land", "k"] (b9 Z6):=E9
abbrev X6:br:=top 31
abbrev qJ:List Str:=["one", "other", "pairs", "P", "Q"]
def oV:FnScope qJ ["one", "other"] (b9 X6):=E9
abbrev T9:br:=top 32
abbrev eU:List Str:=["upright", "land", "heights", "most"]
def yI:FnScope eU ["upright", "land"] (b9 T9):=E9
abbrev A6:br:=top 33
abbrev U1:List Str:=["one", "other", "pairs", "about", "touched_by"]
def kY:FnScope U1 ["one", "other"] (b9 A6):=E9
abbrev T1:br:=top 34
abbrev iQ:List Str:=["land"]
def qD:FnScope iQ ["land"] (b9 T1):=E9
abbrev jX:br:=top 35
abbrev EM:List Str:=["one", "other"]
def AW:FnScope EM ["one", "other"] (b9 jX):=E9
abbrev P3:br:=top 36
abbrev kD:List Str:=["one", "other"]
def iX:FnScope kD ["one", "other"] (b9 P3):=E9
abbrev cI:br:=top 38
abbrev qK:List Str:=["land", "P"]
def BM:FnScope qK ["land", "P"] (b9 cI):=E9
abbrev fD:br:=top 40
abbrev CO:List Str:=["script", "k"]
def yX:FnScope CO ["script", "k"] (b9 fD):=E9
abbrev jP:br:=top 42
abbrev HE:List Str:=["u", "v"]
def DV:FnScope HE ["u", "v"] (b9 jP):=E9
abbrev cR:br:=top 43
abbrev yZ:List Str:=["p", "q", "r", "a", "b", "c", "d", "e", "f"]
def uK:FnScope yZ ["p", "q", "r"] (b9 cR):=E9
abbrev X8:br:=top 44
abbrev sZ:List Str:=["one", "other"]
def pJ:FnScope sZ ["one", "other"] (b9 X8):=E9
abbrev T2:br:=top 45
abbrev iH:List Str:=["points", "found", "i", "j", "k", "n", "g", "hand", "way", "far", "plane"]
def qM:FnScope iH ["points"] (b9 T2):=E9
abbrev Z9:br:=top 46
abbrev oR:List Str:=["points", "some", "planes"]
def zF:FnScope oR ["points"] (b9 Z9):=E9
abbrev jS:br:=top 47
abbrev GI:List Str:=["p", "slants", "far", "x", "y", "z"]
def AL:FnScope GI ["p", "slants", "far"] (b9 jS):=E9
abbrev T6:br:=top 48
abbrev dR:List Str:=["script", "start", "more", "shape", "points", "k", "cell", "slants", "far"]
def yY:FnScope dR ["script", "start", "more"] (b9 T6):=E9
abbrev fR:br:=top 49
abbrev VM:List Str:=["script", "one", "other", "handed", "found", "ways", "p", "spot", "itself"]
def TC:FnScope VM ["script"] (b9 fR):=E9
def A8:br:=(k7 N2).getD 2 (.Pass {0,0,0,0})
abbrev bF:Str:= "faces_of.<locals>.about"
def v5:br:=(k7 N2).getD 3 (.Pass {0,0,0,0})
abbrev Q8:Str:= "faces_of.<locals>.touched_by"
def tbK:List (Pos×Str):=[(oB A8,bF),(oB v5,Q8)]
def w4:br:=(k7 A6).getD 1 (.Pass {0,0,0,0})
abbrev aH:Str:= "sum_faces.<locals>.about"
def t9:br:=(k7 A6).getD 2 (.Pass {0,0,0,0})
abbrev O7:Str:= "sum_faces.<locals>.touched_by"
def tbK_sum_faces:List (Pos×Str):=[(oB w4,aH),(oB t9,O7)]
section
variable [Tabs]
variable{P:bb}{w:bo}{K:gy}{mg:dJ}{base:bt}
def n9(g:bS K mg "way_between" aL):v8 P w K mg base 1 "way_between" 2 x4:=by
 refine' l9 (k:=0) (F:=_) g sI (λi j f l=>?b) λe d m h=>?_
 case b=>refine' (d5<|i7<|J9 rfl)
 replace h:=D4 h;let{a,b,c,e,rfl,h}:=h;replace h:=D4 h;let{n,o,p,e,rfl,h}:=h;replace h:=u7 h;let{rfl,h}:=h;show h
def x6(g:bS K mg "put_together" X1):v8 P w K mg base 1 "put_together" 2 kM:=by
 refine' l9 (k:=0) (F:=_) g pI (λl m j n=>?b) λi d o h=>?_
 case b=>refine' (d5<|i7<|J9 rfl)
 replace h:=D4 h;let{a,b,c,i,rfl,h}:=h;replace h:=D4 h;let{d,e,f,i,rfl,h}:=h;replace h:=u7 h;let{rfl,h}:=h;show h
def kS(g:bS K mg "times" zE):v8 P w K mg base 1 "times" 2 kA:=by
 refine' l9 (k:=0) (F:=_) g WF (λq r i s=>?b) λf d t h=>?_
 case b=>refine' (d5<|i7<|J9 rfl)
 replace h:=D4 h;let{a,b,c,f,rfl,h}:=h;replace h:=G7 h;let{k,f,rfl,h}:=h;replace h:=u7 h;let{rfl,h}:=h;replace h:=R3 h;let{{{j,l,m},e},rfl}:=h;have n:=aGB k a;have o:=aGB k b;have p:=aGB k c;simp[j3,KJ,LV,KI,i6 (n4.of j e),i6 (n4.of l e),i6 (n4.of m e),vd,G.x9,fB,sizeLine,n,o,p]
def F3(g:bS K mg "cross_of" jD):v8 P w K mg base 1 "cross_of" 2 D9:=by
 refine' l9 (k:=0) (F:=_) g CN (λq r o s=>?b) λe d t h=>?_
 case b=>refine' (d5<|i7<|J9 rfl)
 replace h:=D4 h;let{a,b,c,e,rfl,h}:=h;replace h:=D4 h;let{u,v,x,e,rfl,h}:=h;replace h:=u7 h;let{rfl,h}:=h;split at h
 .rename_i p;let{{f,i,j},l,m,n}:=p;rw[<-h];simp[j3,i6 (n4.of i n),i6 (n4.of j m),i6 (n4.of j l),i6 (n4.of f n),i6 (n4.of f m),i6 (n4.of i l)]
 cases h
def u9(g:bS K mg "product_of" cE):v8 P w K mg base 1 "product_of" 2 j6:=by
 refine' l9 (k:=0) (F:=_) g uD (λq r f s=>?b) λe d u h=>?_
 case b=>refine' (d5<|i7<|J9 rfl)
 replace h:=wz h;let{a,b,c,t,e,rfl,h}:=h;replace h:=D4 h;let{v,x,y,e,rfl,h}:=h;replace h:=u7 h;let{rfl,h}:=h;split at h
 .rename_i i;let{{j,l,m},n,o,p}:=i;rw[<-h];simp[j3,KJ,LV,KI,i6 (n4.of j n),i6 (n4.of l o),i6 (n4.of m p)]
 cases h
def R1(L:mg "abs"=none)(g:bS K mg "common_divisor" R5):v8 P w K mg base 1 "common_divisor" 1 K3:=by
 refine' l9 (k:=0) (F:=_) g kX (λN y A j=>?b) λu d O h=>?_
 case b=>
  refine' (c6 (i5 1 p5 j)
   (c6 (F4 aBa rfl (ZN<|d4 0) (n6 2 j) (c6 (i5 3 (YI WH<|i4 2) j)
   (d5 (gI (wj 3) aBa (k9 (lC y) (i4 3) wM) (c6 (i5 4 (J9 rfl) j)
   (c6 (i5 1 (d4 3) j)
   (d5<|i5 3 (d4 4) j)))))))
   (d5<|i7<|d4 1)))
 replace h:=D4 h;let{a,b,c,u,rfl,h}:=h;replace h:=u7 h;let{rfl,h}:=h;rw[<-h];erw[j3,aAq,aDG,aBj,aCf];erw[L5,fI,R.aa0,NB,C8,aAp,aBK,aEG,aEH,aDi,aDj,aAL,aAM];show rK (λrest e=>∃(g:Nat) (n r f:Sl),e=[.v (.tup [.int a,.int b,.int c]),.v (.int g),n,r,f]/\∃i:List Int,rest=i.map D.int/\i.foldl (λg n=>Nat.gcd g n.natAbs) g=G.m8 {a,b,c}) ?_ {0,_,_,_,rfl,[a,b,c],rfl,by simp[G.m8]} ?_
 .rintro d u e ⟨g,n,r,f,rfl,i,o,l⟩;match i,o,l with
  |x::i,o,l=>
   injection o with B C;subst B C;erw[J4,aAL,aAM,z8,E8,U9,aG,R.aa0,a3l,C8];have E:(if x<0 then-x else x)=(x.natAbs:Int):=by split<;>lia
   rw[E];show DT (λm e=>∃(p q:Nat) (f:Sl),e=[.v (.tup [.int a,.int b,.int c]),.v (.int p),.v (.int x),.v (.int q),f]/\q<m/\Nat.gcd p q=Nat.gcd g x.natAbs) ?_ (by rintro e ⟨p,q,f,_,h,_⟩;lia) {g,x.natAbs,f,rfl,by change x.natAbs<((x.natAbs:Int).natAbs)+2;lia,rfl} ?_
   .rintro m e ⟨p,q,f,rfl,H,t⟩;by_cases s:(q:Int)=0
    .show .inl (by simp[s])
    have I:q≠0:=by lia
    show .inr {by simp[I],_,?_,q,p%q,Sl.v (.int ((p%q:Nat):Int)),rfl,?_,?_}
    .have em:BP (.int (p:Int)) (.int (q:Int))=.ok (.int ((p%q:Nat):Int)):=by rw[qN s,Int.fmod_eq_emod_of_nonneg _ (by lia)];rfl
     simp[em]
    .have:=aFu p (show 0<q by lia)
     lia
    rw[Nat.gcd_comm,<-Nat.gcd_rec,Nat.gcd_comm];show t
   rintro m e ⟨p,q,f,rfl,H,t⟩ J;have s:q=0:=by
    by_cases z:q=0
    .show z
    simp[z]at J
   subst s;show{p,_,_,_,rfl,i,rfl,?_};rw[<-l,aDE,<-t,Nat.gcd_zero_right]
 rintro e ⟨g,n,r,f,rfl,i,o,l⟩;have:i=[]:=by exists o.symm
 subst this;simp at l;simp[l]
def U6(F3:v8 P w K mg base 1 "cross_of" 2 D9)(n9:v8 P w K mg base 1 "way_between" 2 x4)(R1:v8 P w K mg base 1 "common_divisor" 1 K3)(u9:v8 P w K mg base 1 "product_of" 2 j6)(g:bS K mg "plane_through" U8):v8 P w K mg base 2 "plane_through" 3 U4:=by
 refine' l9 (k:=1) (F:=_) g mO (λl Y hu1 s=>?b) λA d hl h=>?_
 case b=>
  refine' (c6 (i5 3 (V6 F3 l (V6 n9 l (d4 0)<|d4 1)<|V6 n9 l (d4 0)<|d4 2) s)
   (c6 (i5 4 (LZ R1 l<|d4 3) s)
   (c6 (C1 (k9 (bC Y) (i4 4) wM) (d5 nK) u0)
   (c6 (i5 5 (J9 rfl) s)
   (d5<|i7<|RQ<|d9 (J9 rfl)<|d9 (J9 rfl)<|d9 (J9 rfl)<|d9 (V6 u9 l (d4 5)<|d4 0) k8)))))
 replace h:=D4 h;let{a,b,c,A,rfl,h}:=h;replace h:=D4 h;let{d,e,f,A,rfl,h}:=h;replace h:=D4 h;let{g,J,i,A,rfl,h}:=h;replace h:=u7 h;let{rfl,h}:=h
 skip
 split at h
 .rename_i hz;let{{p,q,r},n}:=hz;rw[<-h];obtain⟨P,B⟩:∃P:G.V,P=⟨a,b,c⟩:={_,rfl};obtain⟨Q,E⟩:∃P:G.V,P=⟨d,e,f⟩:={_,rfl};obtain⟨j,H⟩:∃P:G.V,P=⟨g,J,i⟩:={_,rfl};rw[<-B]at p n;rw[<-E]at q n;rw[<-H]at r n;have vP:(.tup [.int a,.int b,.int c]:D)=vd P:=by rw[B]
  have vQ:(.tup [.int d,.int e,.int f]:D)=vd Q:=by rw[E]
  have vR:(.tup [.int g,.int J,.int i]:D)=vd j:=by rw[H]
  rw[vP,vQ,vR,<-B,<-E,<-H];have o:=(q.sub p).cr (r.sub p);have c1:=kL (u:=Q-P) (v:=j-P) (q.sub p).mono (r.sub p).mono;let{L,g1,g2}:=G.mI n;have m:((G.m8 (G.cr (Q-P)<|j-P):Nat):Int)≠0:=by lia
  have gb:CT ((G.m8 (G.cr (Q-P)<|j-P):Nat):Int):={m,f6 (wO o)};have dv:=FM (G.cr (Q-P)<|j-P);have pl:G.c9 P Q j=(G.jT (G.cr (Q-P)<|j-P) (G.m8<|G.cr (Q-P)<|j-P),G.b8 (G.jT (G.cr (Q-P)<|j-P)<|G.m8<|G.cr (Q-P)<|j-P) P):=rfl;rw[pl];generalize hC:G.cr (Q-P) (j-P)=C at*
  have sn:Sz 2003 (G.jT C<|G.m8 C):=by have N:=bits_fdiv (b:=(G.m8 C:Int)) o.1;have O:=bits_fdiv (b:=(G.m8 C:Int)) o.2.1;have T:=bits_fdiv (b:=(G.m8 C:Int)) o.2.2;rw[rY L]at N O T;show{N,O,T}
  have d1:∀t:Int,iG (.int t) (.int (G.m8 C:Nat))=.ok (.int (t/(G.m8 C:Nat))):=λt=>by rw[nJ gb,rY L]
  have U:=gG (u:=G.jT C (G.m8 C)) (v:=P) sn.mono p.mono;have e0:(((G.m8 C:Nat):Int)==0)=false:=by exists m
  erw[G.jT]at U;have I:j6 [.tup [.int (C.x/(G.m8 C:Nat)),.int (C.y/(G.m8 C:Nat)),.int (C.z/(G.m8 C:Nat))],vd P]=_:=U;simp[j3,c1,dv,e0,d1,I,G.jT]
 cases h
def bD(g:bS K mg "side_of" mF):v8 P w K mg base 1 "side_of" 2 K0:=by
 refine' l9 (k:=0) (F:=_) g ED (λA B s u=>?b) λq d C h=>?_
 case b=>
  refine' (c6 (i5 2 (J9 rfl) u)
   (c6 (C1 (k9 AN (i4 2) wM) (d5<|i7 p5) u0)
   (c6 (C1 (k9 XY (i4 2) wM) (d5<|i7<|aR p5) u0)
   (d5<|i7 p5))))
 replace h:=a0a h;let{a,b,c,d,q,rfl,h}:=h;replace h:=D4 h;let{x,y,z,q,rfl,h}:=h;replace h:=u7 h;let{rfl,h}:=h
 skip
 split at h
 .rename_i v;let{{e,f,i},j,l,m}:=v;rw[<-h];obtain⟨t,r⟩:∃t,a*x+b*y+c*z-d=t:={_,rfl};have o:IK (.int (a*x+b*y+c*z)) (.int d)=.ok (.int t):=by rw[<-r];rfl
  rw[r];unfold sgn;by_cases p:0<t
  .simp[-zM,j3,i6 (n4.of e j),i6 (n4.of f l),i6 (n4.of i m),p,o]
  by_cases n:t<0
  .simp[-zM,j3,i6 (n4.of e j),i6 (n4.of f l),i6 (n4.of i m),p,n,o]
  simp[-zM,j3,i6 (n4.of e j),i6 (n4.of f l),i6 (n4.of i m),p,n,o]
 cases h
def K8(j:RT K mg "NO_WAY" [0,0,0])(g:bS K mg "first_real_way" S1):v8 P w K mg base 1 "first_real_way" 1 C9:=by
 refine' l9 (k:=0) (F:=_) g kJ (λp l m n=>?b) λq d r h=>?_
 case b=>
  refine' (c6 (F4 aBa rfl (j9<|d4 0) (n6 1 n)<|d5<|C1 (k9 (lC l) (i4 1)<|PD.pb<|zN j) (d5<|i7<|d4 1) u0)
   (d5<|i7 ES))
 replace h:=oD h;let{s,rfl,h}:=h;split at h
 .rename_i f i;rw[t8 i];rw[<-h];simp[j3];generalize Sl.v (D.lst<|aDx vd f)=a;generalize Sl.no=b;clear h i;induction f generalizing b with
  |nil=>rfl
  |cons v f o=>
   rw[aAq,G.A4];by_cases e:v=0
   .rw[K4 (ρ2:=[a,.v (vd v)]) rfl (by simp[-IN,ne0,e]),o];simp[e]
   rw[xB (x:=vd v) rfl (by simp[-IN,ne0,e])];simp[e,IJ]
 cases h
def J2(n9:v8 P w K mg base 1 "way_between" 2 x4)(K8:v8 P w K mg base 1 "first_real_way" 1 C9)(F3:v8 P w K mg base 1 "cross_of" 2 D9)(u9:v8 P w K mg base 1 "product_of" 2 j6)(dh:mg "len"=none)(L:mg "any"=none)(g:bS K mg "dimension_of" C7):v8 P w K mg base 2 "dimension_of" 1 J6:=by
 refine' l9 (k:=1) (F:=_) g oZ (λz hu hu1 O=>?b) λs d hl h=>?_
 case b=>
  refine' (c6 (C1 (k9 (bC hu) (PD.pb<|YI jM<|i4 0) wM) (d5 nK) u0)
   (c6 (DC 1 ["P"] ["points"] [0] O rfl (G5 (sc:=b9 C7) (N:=N9)) (j9<|d4 0) (MN λ_ _ _ _ _=>(V6 n9 z (J9 rfl)<|d4 0))<|λ_=>m9)
   (c6 (i5 2 (LZ K8 z<|d4 1) O)
   (c6 (C1 (k9 VW (i4 2)<|PD.pb ES) (d5<|i7 p5) u0)
   (c6 (i5 3 (LZ K8 z<|C4 ["way"] ["along"] [2] rfl (G5 (sc:=b9 C7) (N:=N9)) (j9<|d4 1) (MN λ_ _ _ _ _=>(V6 F3 z (d4 1)<|d4 0))<|λ_=>m9) O)
   (c6 (C1 (k9 VW (i4 3)<|PD.pb ES) (d5<|i7 p5) u0)
   (c6 (C1 (xX<|YI (a2o rfl)<|PD.pb<|C4 ["way"] ["upright"] [3] rfl (G5 (sc:=b9 C7) (N:=N9)) (j9<|d4 1) (MN λ_ _ _ _ _=>(IA (lC hu) (PD.pb<|V6 u9 z (d4 1)<|d4 0) wM))<|λ_=>m9) (d5<|i7 p5) u0)
   (d5<|i7 p5))))))))
 replace h:=oD h;let{xs,rfl,h}:=h;split at h
 .rename_i J l;rw[t8 l];split at h
  .rename_i hz;rw[<-h];let{ah,E}:=hz;match J,ah with
   |p::o,_=>
   obtain⟨a,f⟩:∃a,(p::o).map vd=a:={_,rfl};have i0:W6 (.lst a) (.int 0)=.ok (vd p):=lE (by rw[eM (by symm),<-f];rfl);have H:v7 (λd e=>R.ok (aCE e 0<|Sl.v d)) (λx=>R.ok true) (λe=>(((dG 1 e).bind λx=>W6 x (D.int 0)).bind λd=>((G6 0 e).bind λd=>R.ok [d]).bind λs=>R.ok (d::s)).bind x4) [.no,.v (.lst a)] a=.ok (((p::o).map (· -p)).map vd):=by rw[aBs];rw[show v7 _ _ _ _ a=v7 _ _ _ _ ((p::o).map vd)by rw[f]];show gT vd _ _ λq m=>{[.v (vd q),Sl.v (.lst a)],rfl,?_};change((W6 (.lst a)<|.int 0).bind _).bind _=_;rw[i0];rfl
   have l:∀w∈(p::o).map (· -p),Sz 1001 w:=λw l=>by let{q,m,rfl}:=aAh.mp l;show(E.1 q m).sub (E.1 p (.head _))
   have I:(((p::o).map (· -p)).map vd).length<=sizeLine:=by rw[aAf,aAf];show small E.2
   have G9:a.length<=sizeLine:=by rw[<-f,aAf];show small E.2
   have i:((a.length:Int)==0)=false:=by rw[<-f];simp;lia
   have t:=IH ((p::o).map (· -p));unfold G.Q4;dsimp only;rw[f];generalize(p::o).map (· -p)=W at*
   have n:=λu=>IH (W.map<|G.cr u);cases Q:G.A4 W with
   |none=>rw[Q]at t;simp[j3,f9,G9,i,H,t,IJ,UY]
   |some r=>
    rw[Q]at t;let{hm,_}:=G.v6 Q;have A:=l r hm;have B:v7 (λd e=>R.ok (aCE e 0<|Sl.v d)) (λx=>R.ok true) (λe=>((G6 1 e).bind λd=>((G6 0 e).bind λd=>R.ok [d]).bind λs=>R.ok (d::s)).bind D9) [.no,.v (vd r)] (W.map vd)=.ok ((W.map<|G.cr r).map vd):=by rw[aBs];show gT vd _ _ λq m=>{[.v (vd q),Sl.v (vd r)],rfl,?_};change D9 [vd r,vd q]=_;show kL A.mono (l q m).mono
    have n:=IH (W.map<|G.cr r);have eW:(W.map vd).length=W.length:=aAf ..;rw[eW]at I;cases C:G.A4 (W.map<|G.cr r)with
    |none=>rw[C]at n;erw[aBs]at B n;erw[C];simp[j3,f9,G9,i,H,t,IJ,UY,I,B,n]
    |some j=>
     rw[C]at n;let{og,_}:=G.v6 C;have T:Sz 2003 j:=by let{q,m,rfl}:=aAh.mp og;show(A.cr<|l q m).mono
     have U:v7 (λd e=>R.ok (aCE e 0<|Sl.v d)) (λx=>R.ok true) (λe=>(((G6 1 e).bind λd=>((G6 0 e).bind λd=>R.ok [d]).bind λs=>R.ok (d::s)).bind j6).bind λx=>UE x (D.int 0)) [.no,.v (vd j)] (W.map vd)=.ok ((W.map λw=>decide (G.b8 j w≠0)).map D.bl):=by rw[aBs];show gT vd _ _ λq m=>{[.v (vd q),Sl.v (vd j)],rfl,?_};change(j6 [vd j,vd q]).bind _=_;rw[gG T.mono (l q m).mono,R.aa0,a2j];congr 2;rw[aDH];simp
     have y:=a0r (W.map λw=>decide (G.b8 j w≠0));have Y:(W.map λw=>decide (G.b8 j w≠0)).any id=W.any λw=>decide (G.b8 j w≠0):=by rw[List.any_map];rfl
     rw[Y]at y;erw[aBs]at B n U y;erw[C];generalize(λw=>decide (G.b8 j w≠0))=Bf at*
     cases hc:W.any Bf with
     |false=>rw[hc]at y;simp[j3,f9,G9,i,H,t,IJ,UY,I,B,n,U,y]
     |true=>rw[hc]at y;simp[j3,f9,G9,i,H,t,IJ,UY,I,B,n,U,y]
  cases h
 cases h
def aO(J2:v8 P w K mg base 2 "dimension_of" 1 J6)(g:bS K mg "refuse_flat" aP):v8 P w K mg base 3 "refuse_flat" 1 L3:=by
 refine' l9 (k:=2) (F:=_) g tM (λf o i p=>?b) λq d r h=>?_
 case b=>refine' (d5<|C1 (k9 XY (PD.pb<|LZ J2 f<|d4 0) wM) (d5 nK) u0)
 replace h:=oD h;let{s,rfl,h}:=h;split at h
 .rename_i J j;rw[t8 j];split at h
  .rename_i l;rw[<-h];let{m,a}:=l;have n:J≠[]:=λe=>by subst e;cases a
   have e:=WD n m;rw[a]at e;simp[j3,e]
  cases h
 cases h
def J8(bD:v8 P w K mg base 1 "side_of" 2 K0)(g:bS K mg "points_on" aE):v8 P w K mg base 2 "points_on" 2 z6:=by
 refine' l9 (k:=1) (F:=_) g xM (λj l m p=>?b) λf d q h=>?_
 case b=>refine' (d5<|i7<|C4 ["P"] ["plane"] [0] rfl (G5 (sc:=b9 aE) (N:=oA)) (j9<|d4 1) (hxt λ_ _ _ _ _=>{(k9 (bC l) (PD.pb<|V6 bD j (d4 1)<|d4 0) wM),(d4 0)})<|λ_=>m9)
 replace h:=a0a h;let{a,b,c,d,f,rfl,h}:=h;replace h:=fP h;let{r,f,rfl,h}:=h;replace h:=u7 h;let{rfl,h}:=h
 skip
 split at h
 .rename_i J n;rw[t8 n];split at h
  .rename_i i;rw[<-h];have e:=K6 vd (G:=λd ρ=>R.ok (aCE ρ 0<|Sl.v d)) (ft:=λρ=>((((G6 1 ρ).bind λd=>((G6 0 ρ).bind λd=>R.ok [d]).bind λf=>R.ok (d::f)).bind K0).bind λx=>KZ x (D.int 0)).bind AG) (fe:=G6 0) (ρ:=[.no,.v (.tup [D.int a,D.int b,D.int c,D.int d])])
    (λX=>decide (G.b8 {a,b,c} X=d)) vd J λP o=>{[.v (vd P),Sl.v (D.tup [D.int a,D.int b,D.int c,D.int d])],rfl,by simp[KT i.1.mono (i.2.1 P o).mono,a8i,G.b8];show decide_eq_decide.mpr (by lia),λ_=>rfl}
   simp[j3,f9,small i.2.2,e];rfl
  cases h
 cases h
def M0(n9:v8 P w K mg base 1 "way_between" 2 x4)(u9:v8 P w K mg base 1 "product_of" 2 j6)(F3:v8 P w K mg base 1 "cross_of" 2 D9)(U6:v8 P w K mg base 2 "plane_through" 3 U4)(U:RT K mg "NO_WAY" [0,0,0])(g:bS K mg "plane_about" aT):v8 P w K mg base 3 "plane_about" 2 G1:=by
 refine' l9 (k:=2) (F:=_) g rS (λr hu hu1 p=>?b) λI d hl h=>?_
 case b=>
  refine' (c6 (i5 2 (V6 n9 r (J9 rfl)<|J9 rfl) p)
   (c6 (i5 3 (zN U) p)
   (c6 (i5 4 (J9 rfl) p)
   (c6 (F4 aBa rfl (j9<|d4 1) (n6 5 p) (c6 (i5 6 (V6 n9 r (J9 rfl)<|d4 5) p)
   (d5 (C1 (MP.pt<|HD (k9 (bC hu) (i4 3)<|PD.pb<|zN U)<|yO<|k9 AN (PD.pb<|V6 u9 r (d4 3)<|d4 6) wM) (c6 (i5 3 (V6 F3 r (d4 2)<|d4 6) p)
   (d5<|i5 4 (d4 5) p)) u0))))
   (d5<|i7<|pc3 U6 r (J9 rfl) (J9 rfl)<|d4 4)))))
 replace h:=yE h;let{Y,I,rfl,h}:=h;replace h:=fP h;let{xs,I,rfl,h}:=h;replace h:=u7 h;let{rfl,h}:=h;replace h:=D4 h;let{a,b,c,Y,rfl,h}:=h;replace h:=D4 h;let{d,e,f,Y,rfl,h}:=h;replace h:=u7 h;let{rfl,h}:=h
 skip
 split at h
 .rename_i J hw;rw[t8 hw];split at h
  .rename_i hz;rw[<-h];let{q,E,hs,L}:=hz;have vA:(.tup [.int a,.int b,.int c]:D)=vd ⟨a,b,c⟩:=rfl;have vB:(.tup [.int d,.int e,.int f]:D)=vd ⟨d,e,f⟩:=rfl;rw[vA,vB];generalize({a,b,c}:G.V)=A at*
   generalize({d,e,f}:G.V)=B at*
   simp[j3];have z0:(.tup [.int 0,.int 0,.int 0]:D)=vd 0:=rfl;rw[z0];show rK (λrest N=>∃(j i:G.V) (l:List G.V) (x y:Sl),N=[.v (.tup [vd A,vd B]),.v (.lst (aDx vd J)),.v (vd<|B-A),.v (vd j),.v (vd i),x,y]/\rest=l.map vd/\Sz 2003 j/\Sz 1000 i/\(∀X∈l,Sz 1000 X)/\G.I0 (B-A) A l j i=G.I0 (B-A) A J 0 A) ?_ {0,A,J,_,_,rfl,rfl,{by symm,by symm,by symm},q,hs.1,rfl} ?_
   .rintro d I N ⟨j,i,l,x,y,rfl,s,O,Q,t,m⟩;match l,s with
    |P::l,s=>
     injection s with e3 e4;subst e3 e4;have T:=t P (.head _);have H:=T.sub q;have e0:=eq0 j;rw[show(.tup [.int 0,.int 0,.int 0]:D)=vd 0 from rfl]at e0;have c1:=kL (u:=B-A) (v:=P-A) (E.sub q).mono H.mono;have p1:=gG (u:=j) (v:=P-A) O.mono H.mono;have w1:=a1e A P;have i0:W6 (.tup [vd A,vd B]) (.int 0)=.ok (vd A):=rfl
     conv at m=>lhs;unfold G.I0
     erw[J4,aAL,aAM,U9,aG,Q5,L5,R.aa0,i0,w1,C8,e0,JI,p1,xV];by_cases n:j=0
     .rw[gi (.inl n)]at m;show{_,?_,G.cr (B-A) (P-A),P,l,.v (vd P),.v (vd<|P-A),rfl,rfl,(((E.sub q).cr H).mono),T,λX C=>t X (.tail _ C),m};rw[gv n];erw[if_true,R.aa0,c1,C8,aAL,aAM,Q5,L5]
     rw[gu n];by_cases o:0<G.b8 j (P-A)
     .rw[gi (.inr o)]at m;show{_,?_,G.cr (B-A) (P-A),P,l,.v (vd P),.v (vd<|P-A),rfl,rfl,(((E.sub q).cr H).mono),T,λX C=>t X (.tail _ C),m};rw[gv o];erw[if_true,aAE,if_false,R.aa0,c1,C8,aAL,aAM,Q5,L5]
     rw[gk (λz=>z.elim n o)]at m;show{_,?_,j,i,l,.v (vd P),.v (vd<|P-A),rfl,rfl,O,Q,λX C=>t X (.tail _ C),m};rw[gu o];erw[aAE,if_false,R.aa0]
   rintro N ⟨j,i,l,x,y,rfl,s,O,Q,t,m⟩;have:l=[]:=by exists s.symm
   subst this;have m:(j,i)=G.I0 (B-A) A J 0 A:=m;have eo:(G.I0 (B-A) A J 0 A).2=i:=by rw[<-m]
   unfold G.b7 at L⊢;rw[eo]at L⊢;have pl:=TZ {q,E,Q} (YO L);simp[pl]
  cases h
 cases h
def O8(J8:v8 P w K mg base 2 "points_on" 2 z6)(M0:v8 P w K mg base 3 "plane_about" 2 G1)(J2:v8 P w K mg base 2 "dimension_of" 1 J6)(l:mg "min"=none)(g:bS K mg "first_pair" cC):v8 P w K mg base 8 "first_pair" 1 K9:=by
 refine' l9 (k:=7) (F:=_) g uS (λf A B o=>?b) λds d hl h=>?_
 case b=>
  have p:=f.ad0 (by symm);refine' (c6 (i5 1 (fL (gw rfl p)<|o7 (i4 0) w9) o)
   (c6 (i5 2 (J9 rfl) o)
   (c6 (i5 3 (V6 J8 f (V6 M0 f (d4 2)<|d4 0)<|d4 0) o)
   (c6 (C1 (k9 (bC A) (PD.pb<|LZ J2 f<|d4 3) wM) (d5<|i7<|d4 2) u0)
   (d5<|i7<|J9 rfl)))))
 replace h:=oD h;let{xs,rfl,h}:=h;split at h
 .rename_i m J C;rw[t8 C];split at h
  .rename_i a;rw[<-h];have v:=a0w a.good.ord;have i:S4 1000 (m::J):=a.sz.mono;have j:Sz 900 m:=a.sz.1 m (.head _);let{E,H,I,N,O}:=G.DK a.good.solid a.good.mem a.good.least;have q:=L7 j.mono (SU j) i E;have s:=CY j.mono (SU j) i;rw[a4z]at q;have z:=lO (d:=(G.b7 m (m+G.kk) (m::J)).2) s.mono i;let{x,y,r,e}:=XR H N O;have Q:=VF (n:=(G.b7 m (m+G.kk) (m::J)).1) (d:=(G.b7 m (m+G.kk) (m::J)).2) i;have t:=WD (J:=G.m7 (G.b7 m (m+G.kk) (m::J)).1 (G.b7 m (m+G.kk) (m::J)).2 (m::J)) (by rw[e];simp) Q;have T:W6 (.lst ((G.m7 (G.b7 m (m+G.kk) (m::J)).1 (G.b7 m (m+G.kk) (m::J)).2 (m::J)).map vd)) (.int 0)=.ok (vd x):=lE (by rw[e];show a4x _ _);have U:W6 (.lst ((G.m7 (G.b7 m (m+G.kk) (m::J)).1 (G.b7 m (m+G.kk) (m::J)).2 (m::J)).map vd)) (.int 1)=.ok (vd y):=lE (by rw[e];show a5n _ _ _);unfold G.d6;dsimp only;by_cases u:G.Q4 (G.m7 (G.b7 m (m+G.kk) (m::J)).1 (G.b7 m (m+G.kk) (m::J)).2 (m::J))=2
   .rw[gi u];rw[u]at t;generalize(m::J).map vd=L at*
    generalize(G.m7 (G.b7 m (m+G.kk) (m::J)).1 (G.b7 m (m+G.kk) (m::J)).2 (m::J)).map vd=L2 at*
    generalize(G.b7 m (m+G.kk) (m::J)).1=Y at*
    generalize(G.b7 m (m+G.kk) (m::J)).2=pm at*
    simp[j3,v,q,z,t,G.kk]
   rw[gk u];have e0:(G.m7 (G.b7 m (m+G.kk) (m::J)).1 (G.b7 m (m+G.kk) (m::J)).2 (m::J)).getD 0 0=x:=by rw[e];rfl
   have e1:(G.m7 (G.b7 m (m+G.kk) (m::J)).1 (G.b7 m (m+G.kk) (m::J)).2 (m::J)).getD 1 0=y:=by rw[e];rfl
   rw[e0,e1];have hb:((G.Q4 (G.m7 (G.b7 m (m+G.kk) (m::J)).1 (G.b7 m (m+G.kk) (m::J)).2 (m::J)):Int)==2)=false:=by rw[beq_eq_false_iff_ne];lia
   generalize(m::J).map vd=L at*
   generalize(G.m7 (G.b7 m (m+G.kk) (m::J)).1 (G.b7 m (m+G.kk) (m::J)).2 (m::J)).map vd=L2 at*
   generalize(G.Q4 (G.m7 (G.b7 m (m+G.kk) (m::J)).1 (G.b7 m (m+G.kk) (m::J)).2 (m::J)):Int)=dd at*
   generalize(G.b7 m (m+G.kk) (m::J)).1=Y at*
   generalize(G.b7 m (m+G.kk) (m::J)).2=pm at*
   simp[j3,v,q,z,t,hb,T,U]
  cases h
 cases h
def nP(u9:v8 P w K mg base 1 "product_of" 2 j6)(F3:v8 P w K mg base 1 "cross_of" 2 D9)(n9:v8 P w K mg base 1 "way_between" 2 x4)(g:bS K mg "turn_of" mD):v8 P w K mg base 2 "turn_of" 4 gM:=by
 refine' l9 (k:=1) (F:=_) g HF (λm B y C=>?b) λn d E h=>?_
 case b=>refine' (d5<|i7<|V6 u9 m (d4 0)<|V6 F3 m (V6 n9 m (d4 1)<|d4 2)<|V6 n9 m (d4 2)<|d4 3)
 replace h:=D4 h;let{a,b,c,n,rfl,h}:=h;replace h:=D4 h;let{d,e,f,n,rfl,h}:=h;replace h:=D4 h;let{g,o,i,n,rfl,h}:=h;replace h:=D4 h;let{j,k,l,n,rfl,h}:=h;replace h:=u7 h;let{rfl,h}:=h
 skip
 split at h
 .rename_i z;let{p,q,r,s}:=z;rw[<-h];have t:=kL (u:={g,o,i}-{d,e,f}) (v:={j,k,l}-{g,o,i}) (r.sub q).mono (s.sub r).mono;have x:=gG (u:={a,b,c}) (v:=G.cr ({g,o,i}-{d,e,f}) ({j,k,l}-{g,o,i})) p.mono ((r.sub q).cr (s.sub r)).mono;erw[vd,G.SH,G.RD,G.TX,G.a9n,G.a8y,G.a9q]at t x;have A:∀a b c d e f:Int,x4 [.tup [.int a,.int b,.int c],.tup [.int d,.int e,.int f]]=.ok (.tup [.int (d-a),.int (e-b),.int (f-c)]):=λ_ _ _ _ _ _=>rfl;simp[j3,A,t,x,G.turn,G.e9]
 cases h
def V8(nP:v8 P w K mg base 2 "turn_of" 4 gM)(dh:mg "len"=none)(g:bS K mg "left_chain" cQ):v8 P w K mg base 3 "left_chain" 2 W0:=by
 refine' l9 (k:=2) (F:=_) g uJ (λhr hu hu1 T=>?b) λj d I h=>?_
 case b=>
  refine' (c6 (gJ 2 (lR k8) T)
   (c6 (F4 aBa rfl (j9<|d4 1) (n6 3 T) (c6 (gI (λ_=>1001) aBa (MP.pt<|KR (k9 AN (PD.pb<|YI jM<|i4 2) wM)<|CB<|k9 a5d (PD.pb<|pc4 nP hr (d4 0) (SE (i4 2)<|aR p5) (SE (i4 2)<|aR p5)<|d4 3) wM)<|d5<|nj 2)
   (d5<|R4 2<|d4 3)))
   (d5<|AE 2<|i7<|d4 2)))
 replace h:=D4 h;let{a,b,c,j,rfl,h}:=h;replace h:=fP h;let{xs,j,rfl,h}:=h;replace h:=u7 h;let{rfl,h}:=h
 skip
 split at h
 .rename_i J hw;rw[t8 hw];split at h
  .rename_i L;rw[<-h];let{U,Y}:=L;have vn:(.tup [.int a,.int b,.int c]:D)=vd ⟨a,b,c⟩:=rfl;rw[vn];generalize({a,b,c}:G.V)=n at*
   simp[j3];show rK (λrest ρ=>∃(c i:List G.V) (x:Sl),ρ=[.v (vd n),.v (.lst (aDx vd J)),.o (c.reverse.map vd),x]/\rest=i.map vd/\(∀X∈c,Sz 1000 X)/\(∀X∈i,Sz 1000 X)/\c.length+i.length<=1000/\i.foldl (λc P=>P::G.Z2 n P c) c=G.x8 n J) ?_ {[],J,_,rfl,rfl,λX l=>by(cases l),Y.1,by simpa using Y.2,rfl} ?_
   .rintro d j ρ ⟨c,i,x,rfl,t,sc,N,I,u⟩;match i,t with
    |P::i,t=>
     injection t with e3 e4;subst e3 e4;have O:=N P (.head _);erw[aAp]at I;erw[J4,aAL,aAM];show Exists.elim (DT (n:=1001) (ρ:=[.v (vd n),.v (.lst (aDx vd J)),.o (c.reverse.map vd),.v (vd P)]) (Post:=λρ=>∃e,ρ=[.v (vd n),.v (.lst (aDx vd J)),.o (e.reverse.map vd),.v (vd P)]/\(∀X∈e,Sz 1000 X)/\e.length<=c.length/\e=G.Z2 n P c)
      (c:=TK (λρ=>((((dG 2 ρ).bind λd=>R.ok [d]).bind OL).bind λx=>gtR x (D.int 1)).bind AG) λρ=>((((G6 0 ρ).bind λd=>(((dG 2 ρ).bind λx=>W6 x (D.int (-2))).bind λd=>(((dG 2 ρ).bind λx=>W6 x (D.int (-1))).bind λd=>((G6 3 ρ).bind λd=>R.ok [d]).bind λj=>R.ok (d::j)).bind λj=>R.ok (d::j)).bind λj=>R.ok (d::j)).bind gM).bind λx=>leR x (D.int 0)).bind AG) (F:=λρ=>(FP 2 ρ).bind λz=>R.ok (Out.nx z.snd))
      (λm ρ=>∃e,ρ=[.v (vd n),.v (.lst (aDx vd J)),.o (e.reverse.map vd),.v (vd P)]/\(∀X∈e,Sz 1000 X)/\e.length<=c.length/\e.length<m/\G.Z2 n P e=G.Z2 n P c) ?_ (by rintro ρ ⟨e,_,_,_,h,_⟩;lia) {c,rfl,sc,aAi _,by lia,rfl} ?_) ?_
     .rintro m ρ ⟨e,rfl,sub,p,q,f⟩;match e,sub,p,q,f with
      |[],_,_,_,_=>show .inl (by simp)
      |[a],_,_,_,_=>show .inl (by simp)
      |b::a::r,sub,p,q,f=>
       have s:(b::a::r).reverse.map vd=r.reverse.map vd++[vd a,vd b]:=by simp
       have A:W6 (.lst ((b::a::r).reverse.map vd)) (.int (-1))=.ok (vd b):=lE (by rw[s];show xy _ _ _);have B:W6 (.lst ((b::a::r).reverse.map vd)) (.int (-2))=.ok (vd a):=lE (by rw[s];show yz _ _ _);have C:=JS U (sub a<|.tail _ (.head _)) (sub b<|.head _) O;have E:(1:Int)<(aDx vd (b::a::r).reverse).length:=by rw[aAf,aCl];simp;lia
       by_cases Q:G.turn n a b P<=0
       .show .inr {?_,[.v (vd n),.v (.lst (aDx vd J)),.o ((a::r).reverse.map vd),.v (vd P)],?_,a::r,rfl,λX l=>sub X (.tail _ l),?_,?_,?_}
        .erw[zK,U9,sQ,R.aa0,yU,xV,gv E,JI,if_true,L5,Q5,A,B,C,FZ,gv Q]
        .change(match(aDx vd (b::a::r).reverse)[(aDx vd (b::a::r).reverse).length-1]? with|some d=>_|none=>_:R (D×Ev)).bind _=_;rw[s];simp
        .erw[aAp]at p⊢;lia
        .erw[aAp]at q⊢;lia
        rw[<-f]
        conv=>rhs;unfold G.Z2
        rw[gi Q]
       show .inl ?_;erw[zK,U9,sQ,R.aa0,yU,xV,gv E,JI,if_true,L5,Q5,A,B,C,FZ,gu Q]
     .rintro m ρ ⟨e,rfl,sub,p,q,f⟩ H;show{e,rfl,sub,p,?_};match e,sub,p,q,f,H with
      |[],_,_,_,f,_=>show f
      |[a],_,_,_,f,_=>show f
      |b::a::r,sub,p,q,f,H=>
       have s:(b::a::r).reverse.map vd=r.reverse.map vd++[vd a,vd b]:=by simp
       have A:W6 (.lst ((b::a::r).reverse.map vd)) (.int (-1))=.ok (vd b):=lE (by rw[s];show xy _ _ _);have B:W6 (.lst ((b::a::r).reverse.map vd)) (.int (-2))=.ok (vd a):=lE (by rw[s];show yz _ _ _);have C:=JS U (sub a<|.tail _ (.head _)) (sub b<|.head _) O;have E:(1:Int)<(aDx vd (b::a::r).reverse).length:=by rw[aAf,aCl];simp;lia
       erw[zK,U9,sQ,R.aa0,yU,xV,gv E,JI,if_true,L5,Q5,A,B,C,FZ,RZ,decide_eq_false_iff_not]at H;rw[<-f]
       conv=>rhs;unfold G.Z2
       rw[gk H]
     rintro ρ2 ⟨ew,e,rfl,sub,p,y⟩;show{[.v (vd n),.v (.lst (aDx vd J)),.o ((P::e).reverse.map vd),.v (vd P)],?_,P::e,i,_,rfl,rfl,?_,λX l=>N X (.tail _ l),?_,?_}
     .rw[ew];have L:(aDx vd e.reverse).length<sizeLine:=by rw[aAf,aCl];show aCx (show e.length<=1000 by lia) (by symm)
      erw[C8,Q5,L5,R.aa0];change(if(aDx vd e.reverse).length<sizeLine then _ else _)=_;rw[gi L];simp
     .intro X l;rcases aAe.mp l with rfl|l
      .show O
      show sub X l
     .simp;lia
     rw[<-u,aDE,y]
   rintro ρ ⟨c,i,x,rfl,t,sc,N,I,u⟩;have:i=[]:=by exists t.symm
   subst this;have u:c=G.x8 n J:=u;subst u;simp[ZO]
  cases h
 cases h
def lZ(V8:v8 P w K mg base 3 "left_chain" 2 W0)(z:mg "list"=none)(A:mg "reversed"=none)(g:bS K mg "ring_of" lU):v8 P w K mg base 4 "ring_of" 2 R6:=by
 refine' l9 (k:=3) (F:=_) g HQ (λf B p i=>?b) λj d C h=>?_
 case b=>
  refine' (c6 (i5 2 (V6 V8 f (d4 0)<|d4 1) i)
   (c6 (i5 3 (V6 V8 f (d4 0)<|PF.pd<|FI (i4 1) rfl) i)
   (d5<|i7<|rE rC (PD.pb<|qF (i4 2) X0<|Y7<|aR p5)<|PD.pb<|qF (i4 3) X0<|Y7<|aR p5)))
 replace h:=D4 h;let{a,b,c,j,rfl,h}:=h;replace h:=fP h;let{E,j,rfl,h}:=h;replace h:=u7 h;let{rfl,h}:=h
 skip
 split at h
 .rename_i J q;rw[t8 q];split at h
  .rename_i r;rw[<-h];let{m,e}:=r;have s:(.tup [.int a,.int b,.int c]:D)=vd ⟨a,b,c⟩:=rfl;rw[s];generalize({a,b,c}:G.V)=n at*
   have t:=xq m e;have u:S4 1000 J.reverse:=e.sub (λP v=>by exists v) (by simp);have o:=xq m u;rw[aFI (l:=J)]at o;have H:=vY n J;have x:=vY n J.reverse;rw[aCl]at x;have y:pF (.lst ((G.x8 n J).reverse.map vd).dropLast) (.lst ((G.x8 n J.reverse).reverse.map vd).dropLast)=.ok (.lst ((G.j4 n J).map vd)):=by rw[pW (by erw[List.length_dropLast,aAf,aCl];show aAj (show _<=2000 by have:=e.2;lia) (by symm))];unfold G.j4;rw[aBv,List.map_dropLast,List.map_dropLast]
   simp[-aFI,j3,t,o,ZI,y,a4u]
  cases h
 cases h
def aW(l:mg "list"=none)(m:mg "zip"=none)(g:bS K mg "pairs_round" aQ):v8 P w K mg base 1 "pairs_round" 1 C3:=by
 refine' l9 (k:=0) (F:=_) g qQ (λn o f p=>?b) λq d r h=>?_
 case b=>refine' (d5<|i7<|PF.pd<|FJ (i4 0) (PD.pb<|rE rC (PD.pb<|qF (i4 0) (Y7 p5) X0)<|PD.pb<|qF (i4 0) X0<|Y7 p5) rfl)
 replace h:=oD h;let{s,rfl,h}:=h;split at h
 .rename_i J i;rw[t8 i];split at h
  .rename_i t;rw[<-h];have j:pF (.lst (J.map vd).tail) (.lst ((J.map vd).take 1))=.ok (.lst ((J.tail++J.take 1).map vd)):=by rw[pW (by erw[List.length_tail,aBW,aAf];show UD (by lia))];rw[aBv,List.map_tail,List.map_take]
   have a:(J.map vd).length=((J.tail++J.take 1).map vd).length:=by
    erw[aAf,aAx,List.length_tail,aBW]
    lia
   have e:uA [.lst (J.map vd),.lst ((J.tail++J.take 1).map vd)]=.ok ((G.Z0 J).map I9):=by change(if _ then _ else _)=_;rw[gi a,vD (β:=Unit)];rfl
   simp[-aBv,-List.map_tail,-List.map_take,j3,fq,a1u,j,e]
  cases h
 cases h
def P7(M0:v8 P w K mg base 3 "plane_about" 2 G1)(lZ:v8 P w K mg base 4 "ring_of" 2 R6)(aW:v8 P w K mg base 1 "pairs_round" 1 C3)(v:mg "len"=none)(e:mg "sorted"=none)(g:bS K mg "faces_from" bY):TW P w K mg base 9 8 "faces_from" B4:=by
 let{f,x,r,n}:=g;refine' ZR (k:=8) (F:=_) n iO rfl (n.binds λ_ _ _ _ _ _ y t=>by let{_,_,_,rfl}:=a9c t;rfl) r (λL A outer s H E a=>?hb) ?hm
 case hb=>
  have z:=a.units;have i:=a.ac6;have l:=a.ad0 (by symm);have b:=iO.nd;refine' (c6 (gJ 3 (lR k8) b)
   (c6 (DE 4 b)
   (c6 (gJ 5 (lR<|d9 (d4 0) k8) b)
   (c6 (gI (λ_=>5000) aBa (k9 AN (PD.pb<|YI jM<|i4 5) wM) (c6 (EO 6 5 b)
   (d5 (C1 (MC 4 (d4 6) i) (c6 (i5 7 (V6 M0 a (d4 6) (BU 1 (k:=8) (Φ:=PN P w K mg base 8 1) rfl (d9 (J9 rfl) k8) (o5 J1) (a.mono (by symm)))) b)
   (c6 (i5 8 (V6 lZ a (qF (i4 7) X0<|Y7 p5) (BU 2 (k:=8) (Φ:=PN P w K mg base 8 1) rfl (d9 (d4 7) k8) (o5 J1) (a.mono (by symm)))) b)
   (c6 (R4 3<|J9 rfl)
   (d5 (F4 aBa rfl (j9<|LZ aW a<|d4 8) (n6 9 b) (c6 (tO 4 BN (d4 9) i)
   (d5<|R4 5<|J9 rfl))))))) u0))))
   (d5<|i7<|PF.pd<|FD (i4 3) rfl l)))))
 case hm=>
  intro d B C I h;unfold B4 at h;split at h
  .rename_i o;rw[<-h];let{m,p,j,q,T}:=o.choose_spec;generalize o.choose=J at p j q T⊢;subst q;have u:(1:Nat)<=sizeLine:=by decide
   erw[mK,L5,z8,E8,R.aa0,aAp,aBK,aDD,u,if_true,C8];show TH (Φ:=PN P w K mg base 8 1) p j T
  cases h
def Y5:Nst:={"about",bF,A2 A8,k7 A8,b9 A8,oB A8,["corner"],[],["spread"],[1],(λa=>(G6 1 a).bind λd=>.ok (.rt d)),kQ,2}
def N4:Nst:={"touched_by",Q8,A2 v5,k7 v5,b9 v5,oB v5,["plane"],[],["spread"],[1],(λa=>((j8 (G6 0) (j8 (G6 1) N0) a).bind z6).bind λd=>.ok (.rt d)),cF,3}
def jR{f:a5}{L:af}{A:be}{outer:List Env}{s:ai}{H:Hp}{E:XK}:NstOk (MI P w K mg base jL "faces_of" (b9 N2) f L A outer s H E) 7 Y5 where
 sc:={rfl,rfl,rfl,by decide+kernel,by decide+kernel,by decide+kernel,λx h=>pL h,by decide+kernel}
 one:=rfl
 body:=λo g a A outer s H k=>by have p:=k.units;show(d5<|i7<|d4 1)
 mm:=by intro q r d b e h;let{_,rfl}:=aAZ.mp b;let{_,rfl}:=aAZ.mp e;cases h;rfl
 bind:=λa l t g m u n=>by let{_,rfl}:=aAZ.mp n;rfl
 len:=rfl
 at_:=λi j x b e=>by
  cases i with
  |zero=>obtain rfl:1=j:=Option.some.inj b;obtain rfl:("spread":Str)=x:=Option.some.inj e;show{rfl,rfl}
  |succ i=>show nomatch(show(none:Option Nat)=some j from b)
 d0:=rfl
 k0:=rfl
 nm:=rfl
 lc:=.inl rfl
 st:=.inl rfl
 dbg:=by decide
 cdt:=by decide
def bG(J8:v8 P w K mg base 2 "points_on" 2 z6){f:a5}{L:af}{A:be}{outer:List Env}{s:ai}{H:Hp}{E:XK}:NstOk (MI P w K mg base jL "faces_of" (b9 N2) f L A outer s H E) 7 N4 where
 sc:={rfl,rfl,rfl,by decide+kernel,by decide+kernel,by decide+kernel,λx h=>pL h,by decide+kernel}
 one:=rfl
 body:=λq l a A outer s H k=>by have r:=k.units;show(d5<|i7<|V6 J8 k (d4 0)<|d4 1)
 mm:=by intro t u d b g h;let{w,rfl}:=aAZ.mp b;let{p,rfl}:=aAZ.mp g;have h:z6 [p,w]=.ok d:=h;change J0 (((j8 (G6 0) (j8 (G6 1) N0) [.v p,.v w]).bind z6).bind λd=>.ok (.rt d))=.ok d;have e:j8 (G6 0) (j8 (G6 1) N0) [.v p,.v w]=.ok [p,w]:=rfl;rw[e,R.aa0,h];rfl
 bind:=λa m y l n z o=>by let{_,rfl}:=aAZ.mp o;rfl
 len:=rfl
 at_:=λi j x b g=>by
  cases i with
  |zero=>obtain rfl:1=j:=Option.some.inj b;obtain rfl:("spread":Str)=x:=Option.some.inj g;show{rfl,rfl}
  |succ i=>show nomatch(show(none:Option Nat)=some j from b)
 d0:=rfl
 k0:=rfl
 nm:=rfl
 lc:=.inl rfl
 st:=.inl rfl
 dbg:=by decide
 cdt:=by decide
def Y8{Pt:a5}(J8:v8 P w K mg base 2 "points_on" 2 z6)(aO:v8 P w K mg base 3 "refuse_flat" 1 L3)(O8:v8 P w K mg base 8 "first_pair" 1 K9)(P7:TW P w K mg base 9 8 "faces_from" B4)(a:mg "sorted"=none)(me:mg "set"=none)(O:iU mg base)(j:(Pt,tbK)∈Tabs.tbs)(g:a2z K mg "faces_of" N2 Pt):v8 P w K mg base 10 "faces_of" 1 Y6:=by
 let{f,fd,cd,Q,T,q}:=g;refine' IV (k:=9) (F:=_) q oM (q.fn.binds λ_ _ _ _ _ _ us t=>by let{_,rfl}:=aAZ.mp t;rfl) Q (λA outer s H E b=>?hb) ?hm
 case hb=>
  have hu:=b.units;have U:=b.ac6;have l:=b.ad0 (by symm);have u:=oM.nd;refine' (c6 (WC<|LZ aO b<|d4 0)
   (c6 (i5 1 (PF.pd<|cA (i4 0) rfl l) u)
   (qI (n1:=Y5) (n2:=N4) (clos1:=[("spread",s.heap.objs.size+1)]) (clos2:=[("spread",s.heap.objs.size+1)]) (tb:=tbK) jR (bG J8) ?co1 ?co2 ?hA O rfl T j (by decide+kernel) (by decide+kernel) (by decide+kernel) (by decide+kernel) (by symm) u P7 (b.mono (by symm)) (LZ O8 b<|d4 1) (λ_=>rfl))))
  case co1=>show{rfl,rfl,rfl,λx c h=>h,λx o=>{_,by obtain rfl:x= "spread":=aAK.mp o;rfl}}
  case co2=>show{rfl,rfl,rfl,λx c h=>h,λx o=>{_,by obtain rfl:x= "spread":=aAK.mp o;rfl}}
  case hA=>show NN
 case hm=>
  intro y d t h;replace h:=oD h;let{xs,rfl,h}:=h;split at h
  .rename_i J Y;rw[t8 Y];split at h
   .rename_i hz;rw[<-h];let{z,B,C}:=hz;let{m,r,e,L}:=M5 z B (by lia);have p:=SJ (J:=J) (by lia);have fl:=oz (z.mono (n:=1000)) B;rw[e]at C p⊢;have I:=uq L;have N:=a0u L C;obtain⟨i,eL⟩:∃i,(m::r).map vd=i:={_,rfl};rw[eL]at p I N;change J0 (B7 ((L3 [D.lst (J.map vd)]).bind λ_=>R.ok (Out.nx [.v (.lst (J.map vd)),.no,.no,.no])) _)=_;rw[fl,R.aa0,C8];change J0 (B7 (((ssR<|.lst (J.map vd)).bind λy=>R.ok (D.lst y)).bind λd=>R.ok (Out.nx [.v (.lst (J.map vd)),.v d,.no,.no])) _)=_;rw[p,R.aa0,R.aa0,C8];change J0 (((K9 [D.lst i]).bind λd1=>(R.ok [D.lst i]).bind λw1=>(R.ok [D.lst i]).bind λw2=>B4 d1 (kQ w1) (cF w2)).bind λd=>R.ok (Out.rt d))=_;rw[I,R.aa0,R.aa0,R.aa0,N];rfl
   cases h
  cases h
def L6(f:mg "sorted"=none)(t:mg "set"=none)(g:bS K mg "corners_in" cV):dN P w K mg base 8 "corners_in" 1 F5:=by
 refine' eS (k:=7) (F:=_) g uQ (λo u p i=>?b) λx d y h=>?_
 case b=>
  have j:=o.ad0 (by symm);refine' (wX (gJ 1 (lR k8) i)
   (wX (F4 aBa rfl (j9<|d4 0) (zZ (n:=2) rfl<|S6 (n6 2 i)<|S6 (n6 3 i) tE)<|d5<|HW 1<|d4 3)
   (eV<|cA (i4 1) rfl j)))
 replace h:=oD h;let{l,rfl,h}:=h;split at h
 .rename_i q r;split at h
  .rename_i m;rw[<-h];let{z,A,e}:=oO (a:=Sl.v (D.lst l)) l q [] Sl.no Sl.no r (by exists m.1);rw[aDG,aCf]at e;have s:=SJ m.2;simp[j3,-List.map_flatten,e,s]
  cases h
 cases h
def jB(Y8:v8 P w K mg base 10 "faces_of" 1 Y6)(L6:dN P w K mg base 8 "corners_in" 1 F5)(g:bS K mg "body_of" mR):dN P w K mg base 11 "body_of" 1 bN:=by
 refine' eS (k:=10) (F:=_) g HK (λf s l t=>?b) λu d v h=>?_
 case b=>refine' (eV (AD L6 (f.mono (by symm)) (d9 (LZ Y8 f<|d4 0) k8)<|o5 J1))
 replace h:=oD h;let{x,rfl,h}:=h;split at h
 .rename_i J n;rw[t8 n];split at h
  .rename_i o;rw[<-h];let{i,j,a}:=o;let{m,r,e,L}:=M5 i j (by lia);have p:=BI i j a;have y:((j0<|c7 J).flatMap (G.d8<|c7 J)).length<=200/\(c7<|(j0<|c7 J).flatMap (G.d8<|c7 J)).length<=23:=by rw[e]at a⊢;show nI L a
   have q:=tP (J:=c7 J) (fs:=j0 (c7 J)) (by lia) (by lia);simp[j3,p,q,o6]
  cases h
 cases h
end
section
variable [Tabs]
variable{P:bb}{w:bo}{K:gy}{mg:dJ}{base:bt}
def zJ(kS:v8 P w K mg base 1 "times" 2 kA)(jB:dN P w K mg base 11 "body_of" 1 bN)(g:bS K mg "body_fold" Z6):dN P w K mg base 12 "body_fold" 2 cW:=by
 refine' eS (k:=11) (F:=_) g zP (λe a i r=>?b) λf d s h=>?_
 case b=>refine' (eV (AD jB (e.mono (by symm)) (d9 (C4 ["P"] ["k"] [1] rfl (G5 (sc:=b9 Z6) (N:=oG)) (j9<|d4 0) (MN λ_ _ _ _ _=>(V6 kS e (d4 0)<|d4 1))<|λ_=>m9) k8)<|o5 J1))
 replace h:=X7 h;let{l,f,rfl,h}:=h;replace h:=G7 h;let{k,f,rfl,h}:=h;replace h:=u7 h;let{rfl,h}:=h;replace h:=R3 h;let{{j,m,n,a},rfl}:=h;have o:=cw a.1 a.2.1 a.2.2;have p:l.length<=sizeLine:=small n;erw[j3,aAq,aDG,aBj,aCf,aAp,aBK,aEG,aEH,aDi,aDj];simp-implicitDefEqProofs only[z8,E8,Q5,L5,R.aa0,bB,aAf,gi p];rw[kH vd vd (G.x9 k) l ?h]
 case h=>showλP q=>{[.v (vd P),.v (.int k)],rfl,wR (j P q) m}
 simp-implicitDefEqProofs only[R.aa0,o,unl];rfl
def U3(x6:v8 P w K mg base 1 "put_together" 2 kM)(g:bS K mg "pairs_by_sum" X6):EW P w K mg base 2 "pairs_by_sum" 2 N8:=by
 refine' SM (k:=1) (F:=_) g oV (λj l a f=>?b) λm d i h=>?_
 case b=>
  refine' (wA (DE 2 f)
   (wA (F4 aBa rfl (j9<|d4 0) (n6 3 f)<|d5<|F4 aBa rfl (j9<|d4 1) (n6 4 f)<|d5<|tO 2 (J9 rfl) (V6 x6 j (d4 3)<|d4 4) a)
   (RF 2)))
 let{A,B,rfl,{n,o,i},rfl}:=PZ h;let{p,q,e}:=a1p (a0:=.v (.lst (A.map vd))) (B:=B) A [] .no .no (by exists i);change UA (K1 _ _ (A.map vd) [.v (.lst (A.map vd)),.v (.lst (B.map vd)),.d [],.no,.no]) (YK 2)=_;show(gn (λr=>UA r (YK 2)) e).trans rfl
def N6(u9:v8 P w K mg base 1 "product_of" 2 j6)(t:mg "max"=none)(v:mg "zip"=none)(g:bS K mg "outermost" T9):v8 P w K mg base 2 "outermost" 2 fZ:=by
 refine' l9 (k:=1) (F:=_) g yI (λj m o e=>?b) λf d y h=>?_
 case b=>
  refine' (c6 (DC 2 ["P"] ["upright"] [0] e rfl (G5 (sc:=b9 T9) (N:=eU)) (j9<|d4 1) (MN λ_ _ _ _ _=>(V6 u9 j (d4 1)<|d4 0))<|λ_=>m9)
   (c6 (i5 3 (fL (yQ rfl)<|o7 (i4 2) w9) e)
   (d5 (i7 (C4 ["P", "height"] ["most"] [3] rfl (G5 (sc:=b9 T9) (N:=eU)) (cj (d4 1)<|d4 2) (by rintro Y z B ⟨E,H,C,rfl⟩;show{(zZ (n:=2) rfl (S6 (n6 0 (show(["P", "height", "most"]:List Str).Nodup by decide+kernel)) (S6 (n6 1 (show(["P", "height", "most"]:List Str).Nodup by decide+kernel)) tE))),(JU<|k9 (bC m) (i4 1)<|i4 2),(d4 0)})<|λ_=>TN)))))
 replace h:=D4 h;let{a,b,c,f,rfl,h}:=h;replace h:=X7 h;let{l,f,rfl,h}:=h;replace h:=u7 h;let{rfl,h}:=h;replace h:=R3 h;let{{p,{q,I},r},rfl}:=h;let{A,s}:=aDO l r;show p9 (C5 (C5 (x:=l.map vd) rfl ((lL vd D.int (G.b8 {a,b,c}) l (by lia) λP i=>{_,rfl,C5 (n8 rfl<|n8 rfl rfl) (gG (u:={a,b,c}) p.mono (q P i).mono)}).trans rfl)) rfl) ?_;show p9 (C5 (C5 (n8 rfl rfl)<|JW s) rfl) ?_;show fV (C5 (C5 (C5 (n8 rfl<|n8 rfl rfl)<|PU ⟨a,b,c⟩ l) ((IU (λP=>.tup [vd P,.int (G.b8 {a,b,c} P)]) (λP=>decide (G.b8 {a,b,c} P=cH (l.map<|G.b8 ⟨a,b,c⟩))) vd l (by lia) λP i=>{_,rfl,?_,rfl}).trans (by rw[MV]))) rfl);show C5 (C5 rfl<|C5 rfl<|a1k _ _) rfl
abbrev aF:br:=w4
abbrev Q6:List Str:=["corner", "pair", "one", "other", "pairs"]
def V0:Nst:={"about",aH,A2 w4,k7 w4,b9 w4,oB w4,["corner"],["pair"],["one", "other", "pairs"],[0,1,2],FA,mG,3}
def L4:Nst:={"touched_by",O7,A2 t9,k7 t9,b9 t9,oB t9,["plane"],[],["one", "other"],[0,1],FT,fQ,4}
def iE(x6:v8 P w K mg base 1 "put_together" 2 kM){f:a5}{L:af}{A:be}{outer:List Env}{s:ai}{H:Hp}{E:XK}:NstOk (MI P w K mg base U1 "sum_faces" (b9 A6) f L A outer s H E) 7 V0 where
 sc:={rfl,rfl,rfl,by decide+kernel,by decide+kernel,by decide+kernel,λx h=>pL h,by decide+kernel}
 one:=rfl
 body:=λn g a A outer s H b=>by
  have o:=b.units;have e:=b.ac6;have i:=b.ad0 (by symm);have j:(Q6:List Str).Nodup:=by decide+kernel
  show(c6 (i5 1 (a2h 4 0 (d4 0) e) j)
   (d5<|i7<|rE rC (PD.pb<|C4 ["P"] ["pair"] [1] rfl (G5 (sc:=b9 aF) (N:=Q6)) (j9<|d4 2) (MN λ_ _ _ _ _=>(V6 x6 b (d4 0)<|J9 rfl))<|λ_=>m9)<|PD.pb<|C4 ["Q"] ["pair"] [1] rfl (G5 (sc:=b9 aF) (N:=Q6)) (j9<|d4 3) (MN λ_ _ _ _ _=>(V6 x6 b (J9 rfl)<|d4 0))<|λ_=>m9))
 mm:=by intro p q d r t h;show h
 bind:=λa k u g l v m=>by let{_,rfl}:=aAZ.mp m;rfl
 len:=rfl
 at_:=UG (js:=[0,1,2]) (fn:=["one", "other", "pairs"]) (N:=U1) (sc:=b9 A6) (by decide+kernel)
 d0:=rfl
 k0:=rfl
 nm:=rfl
 lc:=.inl rfl
 st:=.inl rfl
 dbg:=by decide
 cdt:=by decide
def aI(a:v8 P w K mg base 2 "pairs_by_sum" 2 (EH N8))(N6:v8 P w K mg base 2 "outermost" 2 fZ)(b:mg "sorted"=none){f:a5}{L:af}{A:be}{outer:List Env}{s:ai}{H:Hp}{E:XK}:NstOk (MI P w K mg base U1 "sum_faces" (b9 A6) f L A outer s H E) 7 L4 where
 sc:={rfl,rfl,rfl,by decide+kernel,by decide+kernel,by decide+kernel,λx h=>pL h,by decide+kernel}
 one:=rfl
 body:=λo j g A outer s H e=>by have p:=e.units;have k:=e.ac6;have i:=e.ad0 (by symm);show(d5<|i7<|PF.pd<|tJ (PD.pb<|V6 a e (V6 N6 e (qF (i4 0) X0<|Y7 p5)<|d4 1)<|V6 N6 e (qF (i4 0) X0<|Y7 p5)<|d4 2) rfl i)
 mm:=by intro q r d t u h;show h
 bind:=λg l v j m y n=>by let{_,rfl}:=aAZ.mp n;rfl
 len:=rfl
 at_:=UG (js:=[0,1]) (fn:=["one", "other"]) (N:=U1) (sc:=b9 A6) (by decide+kernel)
 d0:=rfl
 k0:=rfl
 nm:=rfl
 lc:=.inl rfl
 st:=.inl rfl
 dbg:=by decide
 cdt:=by decide
def fA{Pt:a5}(x6:v8 P w K mg base 1 "put_together" 2 kM)(a:v8 P w K mg base 2 "pairs_by_sum" 2 (EH N8))(N6:v8 P w K mg base 2 "outermost" 2 fZ)(O8:v8 P w K mg base 8 "first_pair" 1 K9)(P7:TW P w K mg base 9 8 "faces_from" B4)(U3:EW P w K mg base 2 "pairs_by_sum" 2 N8)(i:mg "sorted"=none)(J:iU mg base)(t:(Pt,tbK_sum_faces)∈Tabs.tbs)(g:a2z K mg "sum_faces" A6 Pt):v8 P w K mg base 10 "sum_faces" 2 GT:=by
 let{f,Y,cd,N,O,v}:=g;refine' IV (k:=9) (F:=_) v kY (v.fn.binds λ_ _ _ _ _ _ us y=>by let{_,_,rfl}:=a7v y;rfl) N (λA outer s H E n=>?hb) ?hm
 case hb=>
  have hu:=n.units;have Q:=n.ac6;have u:=n.ad0 (by symm);have z:=kY.nd;refine' (c6 (QQ 2 U3 (n.mono (by symm)) (d9 (d4 0)<|d9 (d4 1) k8) (o5<|o5 J1) z)
   (SN 2 (qI (n1:=V0) (n2:=L4) (clos1:=[("pairs",s.heap.objs.size+3),("other",s.heap.objs.size+2),("one",s.heap.objs.size+1)]) (clos2:=[("other",s.heap.objs.size+2),("one",s.heap.objs.size+1)]) (tb:=tbK_sum_faces) (iE x6) (aI a N6 i) ?co1 ?co2 ?hA J rfl O t (by decide+kernel) (by decide+kernel) (by decide+kernel) (by decide+kernel) (by symm) z P7 (n.mono (by symm)) (LZ O8 n<|PF.pd<|tJ (i4 2) rfl u) (λ_=>rfl))))
  case co1=>show KN rfl rfl rfl (by intro p q;erw[aAe,aAR,or_false]at q;rcases q with rfl|rfl|rfl<;>rfl) (by intro x j;have j:x∈(["one", "other", "pairs"]:List Str):=j;erw[aAe,aAR,or_false]at j;rcases j with rfl|rfl|rfl<;>show{_,rfl})
  case co2=>show KN rfl rfl rfl (by intro p q;erw[aAe,aAR,or_false]at q;rcases q with rfl|rfl<;>rfl) (by intro x j;have j:x∈(["one", "other"]:List Str):=j;erw[aAe,aAR,or_false]at j;rcases j with rfl|rfl<;>show{_,rfl})
  case hA=>intro x b h;erw[aBj,aCf,aAe,aAR,or_false,Prod.mk.injEq]at h;rcases h with⟨rfl,rfl⟩|⟨rfl,rfl⟩|⟨rfl,rfl⟩|⟨rfl,rfl⟩|⟨rfl,rfl⟩<;>rfl
 case hm=>
  intro C d y h;replace h:=X7 h;let{A,C,rfl,h}:=h;replace h:=X7 h;let{B,C,rfl,h}:=h;replace h:=u7 h;let{rfl,h}:=h;replace h:=R3 h;let{o,rfl}:=h;let{m,r,e,L}:=M5 o.2.1 o.2.2.1 (aAj o.2.2.2 (by symm));have T:=HZ o;have l:=o.2.2.2;have I:=BJ (A:=A) (B:=B) (aAj l (by symm));have e:x5 A B=m::r:=e;rw[e]at T l I⊢;have U:okK (N8 [.lst (A.map vd),.lst (B.map vd)])=.ok (E6 A B):=by rw[BD o.1];rfl
  show p9 (C5 (n8 rfl<|n8 rfl rfl)<|C5 U rfl) ?_;show fV (C5 (C5 (C5 (n8 (C5 (C5 rfl I) rfl) rfl)<|uq L) (C5 rfl (C5 rfl (SV L (aAj l (by symm)) T)))) rfl)
def aM(kS:v8 P w K mg base 1 "times" 2 kA)(g:bS K mg "turned_back" T1):v8 P w K mg base 2 "turned_back" 1 ER:=by
 refine' l9 (k:=1) (F:=_) g qD (λa m e n=>?b) λf d o h=>?_
 case b=>refine' (d5<|i7<|C4 ["P"] [] [] rfl (G5 (sc:=b9 T1) (N:=iQ)) (j9<|d4 0) (MN λ_ _ _ _ _=>(V6 kS a (d4 0)<|aR p5))<|λ_=>m9)
 replace h:=X7 h;let{l,f,rfl,h}:=h;replace h:=u7 h;let{rfl,h}:=h;replace h:=R3 h;let{{i,p},rfl}:=h;show fV (C5 (C5 (x:=l.map vd) rfl ((lL vd vd (G.x9 (-1)) l (by lia) λP j=>{_,rfl,C5 (n8 rfl<|n8 rfl rfl) (wR (i P j) (by symm))}).trans rfl)) rfl)
def fH(fA:v8 P w K mg base 10 "sum_faces" 2 GT)(L6:dN P w K mg base 8 "corners_in" 1 F5)(g:bS K mg "body_sum" jX):dN P w K mg base 11 "body_sum" 2 mX:=by
 refine' eS (k:=10) (F:=_) g AW (λa m i n=>?b) λe d o h=>?_
 case b=>refine' (eV (AD L6 (a.mono (by symm)) (d9 (V6 fA a (d4 0)<|d4 1) k8)<|o5 J1))
 replace h:=X7 h;let{A,e,rfl,h}:=h;replace h:=X7 h;let{B,e,rfl,h}:=h;replace h:=u7 h;let{rfl,h}:=h;replace h:=R3 h;let{f,rfl}:=h;have j:=ZQ f;have l:=yK f;simp[j3,j,l]
def jJ(aM:v8 P w K mg base 2 "turned_back" 1 ER)(fH:dN P w K mg base 11 "body_sum" 2 mX)(g:bS K mg "body_difference" P3):dN P w K mg base 12 "body_difference" 2 cD:=by
 refine' eS (k:=11) (F:=_) g iX (λa j i l=>?b) λe d m h=>?_
 case b=>refine' (eV (AD fH (a.mono (by symm)) (d9 (d4 0)<|d9 (LZ aM a<|d4 1) k8)<|o5<|o5 J1))
 replace h:=X7 h;let{A,e,rfl,h}:=h;replace h:=X7 h;let{B,e,rfl,h}:=h;replace h:=u7 h;let{rfl,h}:=h;replace h:=R3 h;let{f,rfl}:=h;have bk:=iy f.1;have bs:=KP f.2;erw[aBs]at bk bs;simp[j3,bk,bs]
def jK(Y8:v8 P w K mg base 10 "faces_of" 1 Y6)(bD:v8 P w K mg base 1 "side_of" 2 K0)(mh:mg "max"=none)(g:bS K mg "where_in" cI):v8 P w K mg base 11 "where_in" 2 bT:=by
 refine' l9 (k:=10) (F:=_) g BM (λs hu B nd=>?b) λl d t h=>?_
 case b=>refine' (d5<|i7<|aR<|fL (yQ rfl)<|o7 (PD.pb<|C4 ["face"] ["P"] [1] rfl (G5 (sc:=b9 cI) (N:=qK)) (j9<|LZ Y8 s<|d4 0) (MN λ_ _ _ _ _=>(V6 bD s (J9 rfl)<|d4 1))<|λ_=>m9) w9)
 match l,h with
 |[.lst xs,p],h=>
  erw[bT]at h;split at h
  .rename_i J i m C;rw[t8 m,uU C];split at h
   .rename_i E;rw[<-h];let{j,u,y,z}:=E;have H:=BI j u y;let{n,A,t}:=vW j u y;have I:(j0<|c7 J).length<=sizeLine:=aAj t (by symm);have L:∀(e:Ev),e.length=2->G6 1 e=.ok (vd i)->v7 (λd e=>R.ok (aCE e 0<|Sl.v d)) (λx=>R.ok true) (λe=>(((dG 0 e).bind λx=>W6 x (D.int 0)).bind λd=>((G6 1 e).bind λd=>R.ok [d]).bind λl=>R.ok (d::l)).bind K0) e ((j0<|c7 J).map (j7<|c7 J))=.ok (((j0<|c7 J).map λf=>sgn (G.b8 f.1 i-f.2)).map D.int):=λe o m=>by
     rw[K6 (r:=λd=>match d with|.tup [p,_]=>(match K0 [p,vd i]with|.ok x=>x|_=>.non)|_=>.non)]
     .congr 1;rw[aBs,aBs];show aEJ λf q=>?_;erw[aGr,wS j z ((n f).mp q)]
     intro d O;let{f,q,rfl}:=aAh.mp O;match e,o with
     |[a,b],_=>show{_,rfl,?_};have Q:G6 1 [.v (j7 (c7 J) f),b]=.ok (vd i):=m;have T:W6 (j7 (c7 J) f) (.int 0)=.ok (tZ f.1 f.2):=KQ rfl;have U:=wS j z ((n f).mp q);simp[Q,T,U]
    simp[j3,H,I];rw[L _ (by rfl) (by rfl)];have Y:wF [.lst (((j0<|c7 J).map λf=>sgn (G.b8 f.1 i-f.2)).map D.int)]=.ok (.int (cH<|(j0<|c7 J).map λf=>sgn (G.b8 f.1 i-f.2))):=by erw[wF,rJ];show gi (by exists A)
    have wm:=NX n A i;generalize(j0<|c7 J).map (λf=>sgn (G.b8 f.1 i-f.2))=ns at*
    simp[Y,a3a,wm]
   show gs h (by simp)
  show gs h (by simp)
end
section
variable [Tabs]
variable{P:bb}{w:bo}{K:gy}{mg:dJ}{base:bt}
def Z3(q:mg "len"=none)(g:bS K mg "_law_cell" fD):v8 P w K mg base 1 "_law_cell" 2 dW:=by
 refine' l9 (k:=0) (F:=_) g yX (λr s l t=>?b) λm d u h=>?_
 case b=>
  refine' (c6 (C1 (k9 XY (i4 1)<|PD.pb<|YI jM<|i4 0) (d5<|i7<|J9 rfl) u0)
   (d5<|i7<|J9 rfl))
 match m,h with
 |[.lst a,.int k],h=>
  erw[dW]at h;split at h
  .rename_i n;let{o,v}:=n;rw[<-h];have f:bits k<=20:=aD (by lia) (by lia);have i:bits (11*k)<=30:=aD (by lia) (by lia);by_cases j:k<a.length
   .have e:a[k.toNat]?=some a[k.toNat]:=aAk (by lia);have p:tY a k=some a[k.toNat]:=by rw[eM o,e]
    simp[j3,j,lE p,wL,e]
   have e:a[k.toNat]?=none:=aCp.mpr (by lia);simp[j3,j,wL,e,i6 (n4.of (show bits 11<=10 by symm) f),i6 (n4.of i f),i6 (n4.of (show bits 5<=10 by symm) f),M.qV]
  cases h
def Q9(g:bS K mg "_law_dot" jP):v8 P w K mg base 1 "_law_dot" 2 j6:=by
 refine' l9 (k:=0) (F:=_) g DV (λq r f s=>?b) λe d u h=>?_
 case b=>refine' (d5<|i7<|J9 rfl)
 replace h:=wz h;let{a,b,c,t,e,rfl,h}:=h;replace h:=D4 h;let{v,x,y,e,rfl,h}:=h;replace h:=u7 h;let{rfl,h}:=h;split at h
 .rename_i i;let{{j,l,m},n,o,p}:=i;rw[<-h];simp[j3,KJ,LV,KI,i6 (n4.of j n),i6 (n4.of l o),i6 (n4.of m p)]
 cases h
def bZ(g:bS K mg "_law_cross" cR):v8 P w K mg base 1 "_law_cross" 3 zT:=by
 refine' l9 (k:=0) (F:=_) g uK (λA B o m=>?b) λl d C h=>?_
 case b=>
  refine' (c6 (CM 3 4 5 rfl m<|d9 (J9 rfl)<|d9 (J9 rfl)<|d9 (J9 rfl) k8)
   (c6 (CM 6 7 8 rfl m<|d9 (J9 rfl)<|d9 (J9 rfl)<|d9 (J9 rfl) k8)
   (d5<|i7<|J9 rfl)))
 replace h:=D4 h;let{a,b,c,l,rfl,h}:=h;replace h:=D4 h;let{d,e,f,l,rfl,h}:=h;replace h:=D4 h;let{g,i,j,l,rfl,h}:=h;replace h:=u7 h;let{rfl,h}:=h;replace h:=R3 h;let{{n,p,q},rfl}:=h;have u:=p.sub n;have v:=q.sub n;have r:dM (.int (e-b)) (.int (j-c))=.ok (.int ((e-b)*(j-c))):=i6 (n4.of u.2.1 v.2.2);have s:dM (.int (f-c)) (.int (i-b))=.ok (.int ((f-c)*(i-b))):=i6 (n4.of u.2.2 v.2.1);have t:dM (.int (f-c)) (.int (g-a))=.ok (.int ((f-c)*(g-a))):=i6 (n4.of u.2.2 v.1);have x:dM (.int (d-a)) (.int (j-c))=.ok (.int ((d-a)*(j-c))):=i6 (n4.of u.1 v.2.2);have y:dM (.int (d-a)) (.int (i-b))=.ok (.int ((d-a)*(i-b))):=i6 (n4.of u.1 v.2.1);have z:dM (.int (e-b)) (.int (g-a))=.ok (.int ((e-b)*(g-a))):=i6 (n4.of u.2.1 v.1);simp[j3,KJ,LV,KI,r,s,t,x,y,z,vd,fB,sizeLine]
def P6(s:mg "abs"=none)(g:bS K mg "_law_divisor" X8):v8 P w K mg base 1 "_law_divisor" 2 G3:=by
 refine' l9 (k:=0) (F:=_) g pJ (λt l m o=>?b) λp d u h=>?_
 case b=>
  refine' (c6 (gI (wj 1) aBa (k9 (lC l) (i4 1) wM)<|d5<|QB 0 1 rfl o<|d9 (d4 1)<|d9 (J9 rfl) k8)
   (d5<|i7<|YI WH<|i4 0))
 match p,h with
 |[.int a,.int b],h=>
  rw[<-h];erw[j3,aAq,aDG,aBj,aCf,G3];show wH (Iv:=λn i=>∃x y:Int,i=[.v (.int x),.v (.int y)]/\y.natAbs<n/\aEn x y=aEn a b) ?_ {a,b,rfl,by change b.natAbs<b.natAbs+2;lia,rfl} ?_
  .rintro n i ⟨x,y,rfl,q,j⟩;by_cases f:y=0
   .show .inl (by simp[f])
   show .inr {by simp[f],[.v (.int y),.v (.int (x.fmod y))],by simp[qN f],y,x.fmod y,rfl,?_,by rw[TJ,j]};have:=ZX (a:=x) f
   lia
  rintro n i ⟨x,y,rfl,q,j⟩ r;have f:y=0:=by
   by_cases z:y=0
   .show z
   simp[z]at r
  subst f;have e:(x.natAbs:Int)=aEn a b:=by rw[<-j];simp
  rw[<-e];by_cases z:x<0
  .simp[z];lia
  simp[z];lia
def aN(bZ:v8 P w K mg base 1 "_law_cross" 3 zT)(P6:v8 P w K mg base 1 "_law_divisor" 2 G3)(Q9:v8 P w K mg base 1 "_law_dot" 2 j6)(jr:mg "range"=none)(dh:mg "len"=none)(mh:mg "max"=none)(g:bS K mg "_law_planes" T2):v8 P w K mg base 2 "_law_planes" 1 yT:=by
 refine' l9 (k:=1) (F:=_) g qM (λr s hu1 l=>?b) λds d hl h=>?_
 case b=>
  refine' (c6 (gJ 1 (lR k8) l)
   (c6 (F4 aBa rfl (gO<|o7 (PD.pb<|YI jM<|i4 0) w9) (n6 2 l) (d5 (F4 aBa rfl (gO<|o7 (i4 2) w9) (n6 3 l) (d5 (F4 aBa rfl (gO<|o7 (i4 3) w9) (n6 4 l) (c6 (i5 5 (pc3 bZ r (J9 rfl) (J9 rfl)<|J9 rfl) l)
   (c6 (i5 6 (V6 P6 r (V6 P6 r (J9 rfl)<|J9 rfl)<|J9 rfl) l)
   (d5 (F4 aBa rfl (j9<|jE<|d9 (d4 6)<|d9 (J9 rfl) k8) (n6 7 l) (d5 (C1 (k9 (lC s) (i4 7) wM) (c6 (i5 8 (J9 rfl) l)
   (c6 (i5 9 (V6 Q9 r (d4 8)<|J9 rfl) l)
   (c6 (i5 10 (J9 rfl) l)
   (d5<|C1 (MP.pt<|KR (k9 (QD s) (i4 10)<|i4 1)<|CB<|k9 (bC s) (PD.pb<|fL (yQ rfl)<|o7 (PD.pb<|C4 ["p"] ["way"] [8] rfl (G5 (sc:=b9 T2) (N:=iH)) (j9<|d4 0) (MN λ_ _ _ _ _=>(V6 Q9 r (d4 1)<|d4 0))<|λ_=>m9) w9)<|i4 9) (d5<|R4 1<|d4 10) u0)))) u0)))))))))))
   (d5<|AE 1<|i7<|d4 1)))
 replace h:=X7 h;let{S,ds,rfl,h}:=h;replace h:=u7 h;let{rfl,h}:=h;replace h:=R3 h;let{{sz,hs,ho,uh},rfl}:=h;have hl:S.length<=sizeLine:=aAj uh (by symm);erw[j3,aAq,aDG,aBj,aCf,aAp,aBK,aEG,aEH,aDi,aDj];show p9 (ρ:=[.v (.lst (S.map vd)),.o [],.no,.no,.no,.no,.no,.no,.no,.no,.no]) rfl ?_;have r1:=λn (hn:n<=S.length)=>xk (n:=n) (by lia);show KC (x:=iR 0 S.length) (by simp-implicitDefEqProofs [r1 S.length (aAi _)]) ?_;show KH (qw1 S) ?_ {_,_,_,_,_,_,_,_,_,rfl} ?_
 .rintro i _ Q ρ ⟨a2,a3,t,u,E,H,I,J,L,rfl⟩;have Q:i<S.length:=by lia
  have oh:=yJ (S:=S) (n:=i) (by lia);have e1:lp (i+1) (qy S) []=lp i (YF S i) (lp i (qy S) []):=rfl;generalize lp i (qy S) []=fs at*
  simp-implicitDefEqProofs only[J4,aAL,aAM];show SG (x:=iR 0 i) (by simp-implicitDefEqProofs [r1 i (by lia)]) ?_;show VG (λj=>qw2 S i j fs) ?_ {_,_,_,_,_,_,_,_,rfl} ?_
  .rintro j _ hj ρ ⟨a3,t,u,E,H,I,J,L,rfl⟩;have hj:j<S.length:=by lia
   have oi:=UT Q oh (n:=j) (by lia);have e2:lp (j+1) (YF S i) fs=lp j (mE S i j) (lp j (YF S i) fs):=rfl;generalize lp j (YF S i) fs=T at*
   simp-implicitDefEqProofs only[J4,aAL,aAM];show SG (x:=iR 0 j) (by simp-implicitDefEqProofs [r1 j (by lia)]) ?_;show VG (λk=>qw3 S i j k T) ?_ {_,_,_,_,_,_,_,rfl} ?_
   .rintro k _ hk ρ ⟨t,u,E,H,I,J,L,rfl⟩;have hk:k<S.length:=by lia
    have m:=QO Q hj oi (n:=k) (by lia);have e3:lp (k+1) (mE S i j) T=mE S i j k (lp k (mE S i j) T):=rfl;unfold qw3;rw[e3];generalize lp k (mE S i j) T=us at*
    obtain⟨A,U⟩:∃A,S[i]?=some A:={S[i],aAk Q};obtain⟨B,Y⟩:∃A,S[j]?=some A:={S[j],aAk hj};obtain⟨C,eC⟩:∃A,S[k]?=some A:={S[k],aAk hk};have gt:∀{i:Nat}{A:G.V},S[i]?=some A->S.getD i 0=A:=λe=>by rw[aAD,e];rfl
    unfold mE;rw[gt U,gt Y,gt eC,<-QS];have q:=aAl U;have hB:=aAl Y;have hC:=aAl eC;have l1:us.length<=63:=m.few hs ho uh;have l2:(jU S (G.cr (B-A)<|C-A) A (G.m8 (G.cr (B-A)<|C-A):Int) us).length<=63:=by
     by_cases z:G.cr (B-A) (C-A)=0
     .unfold jU;rw[gi (by rw[z];rfl)];show l1
     have g0:(G.m8 (G.cr (B-A)<|C-A):Int)≠0:=λy=>z (G.fW (by lia));unfold jU;rw[gk g0,KY];show(AF m λy=>sH q hB hC z y).few hs ho uh
    have CR:=pj (sz A q).mono (sz B hB).mono (sz C hC).mono;have nz:Sz 2003 (G.cr (B-A)<|C-A):=(((sz B hB).sub (sz A q)).cr ((sz C hC).sub (sz A q))).mono;have iA:=EI U;have iB:=EI Y;have iC:=EI eC;have szA:=sz A q;clear m oi oh e1 e2 e3 gt U Y eC;generalize G.cr (B-A) (C-A)=n at*
    have D1:G3 [.int n.x,.int n.y]=.ok (.int (aEn n.x n.y:Nat)):=rfl;have D2:G3 [.int (aEn n.x n.y:Nat),.int n.z]=.ok (.int (G.m8 n:Nat)):=rfl;have i0:∀v:G.V,W6 (vd v) (.int 0)=.ok (.int v.x)/\W6 (vd v) (.int 1)=.ok (.int v.y)/\W6 (vd v) (.int 2)=.ok (.int v.z):=λ_=>{rfl,rfl,rfl};simp-implicitDefEqProofs only[J4,aAL,aAM];show GH (by simp-implicitDefEqProofs only[z8,E8,U9,aG,Q5,L5,R.aa0,iA,iB,iC,CR,aAL,aAM];rfl) ?_;show GH (by simp-implicitDefEqProofs only[z8,E8,U9,aG,fI,R.aa0,i0,D1,D2,aAL,aAM];rfl) ?_;show SG (x:=[.int (G.m8 n:Int),.int (0-(G.m8 n:Int))]) rfl ?_;have gb:bits (G.m8 n:Int)<=2003:=wO nz;generalize(G.m8 n:Int)=g at*
    show PC (S:=S) (n:=n) (A:=A) (us:=us) (λus a b c d=>[.v (.lst (S.map vd)),.o (us.map fK),.v (.int (i:Int)),.v (.int (j:Int)),.v (.int (k:Int)),.v (vd n),.v (.int g),a,b,c,d]) ?_ gb l1 l2 (λa b c d=>{_,_,_,a,b,c,d,rfl});intro h us a b c d bh s;have n0:UE (.int h) (.int 0)=.ok (.bl (!decide (h=0))):=rfl;by_cases h0:h=0
    .subst h0;show{_,b,c,d,rfl}
    rw[gu h0]at n0;have fd:∀x:Int,iG (.int x) (.int h)=.ok (.int (x.fdiv h)):=λx=>nJ {h0,bh};have hp:=a3w (A:=A) (h:=h) nz;have mx:=JF (S:=S) (A:=A) (w:=(G9 n A h).1) q;have md:=JW (S:=S) (w:=(G9 n A h).1) q;have ni:=UJ (fs:=us) (f:=G9 n A h);have tp:fB [.int (n.x.fdiv h),.int (n.y.fdiv h),.int (n.z.fdiv h)]=.ok (vd (G9 n A h).1):=rfl;have f2:(G9 n A h).2=G.b8 (G9 n A h).1 A:=rfl;have ha:jU S n A h us=mU S (G9 n A h) us:=gk h0;rw[ha];generalize G9 n A h=f at*
    have pr:∀X:G.V,Sz 900 X->j6 [vd f.1,vd X]=.ok (.int (G.b8 f.1 X)):=λX hX=>gG hp.mono hX.mono;have t4:fB [.int f.1.x,.int f.1.y,.int f.1.z,.int (G.b8 f.1 A)]=.ok (fK f):=by rw[<-f2];rfl
    show{.v (.int h),.v (vd f.1),.v (.int (G.b8 f.1 A)),.v (fK f),?_};simp-implicitDefEqProofs only[J4,aAL,aAM,U9,aG,fI,R.aa0,n0,AG,Bool.not_false,if_true];show VT (ρ:=[.v (.lst (S.map vd)),.o (us.map fK),.v (.int (i:Int)),.v (.int (j:Int)),.v (.int (k:Int)),.v (vd n),.v (.int g),.v (.int h),.v (vd f.1),c,d]) (by simp-implicitDefEqProofs only[z8,E8,U9,aG,fI,R.aa0,i0,fd,tp,aAL,aAM]) ?_;show VT (ρ:=[.v (.lst (S.map vd)),.o (us.map fK),.v (.int (i:Int)),.v (.int (j:Int)),.v (.int (k:Int)),.v (vd n),.v (.int g),.v (.int h),.v (vd f.1),.v (.int (G.b8 f.1 A)),d]) (by simp-implicitDefEqProofs only[z8,E8,U9,aG,Q5,L5,R.aa0,iA,pr A szA,aAL,aAM]) ?_;show VT (ρ:=[.v (.lst (S.map vd)),.o (us.map fK),.v (.int (i:Int)),.v (.int (j:Int)),.v (.int (k:Int)),.v (vd n),.v (.int g),.v (.int h),.v (vd f.1),.v (.int (G.b8 f.1 A)),.v (fK f)]) (by simp-implicitDefEqProofs only[z8,E8,U9,aG,Q5,L5,fI,R.aa0,i0,t4,aAL,aAM]) ?_;by_cases q1:f∈us
    .have O:mU S f us=us:=gk λz=>z.1 q1;rw[gu (λz=>z q1)]at ni;rw[O];simp-implicitDefEqProofs only[TK,U9,aG,sQ,R.aa0,ni,AG,aAE,if_false]
    rw[gv q1]at ni;simp-implicitDefEqProofs only[TK,z8,E8,U9,aG,sQ,Q5,L5,R.aa0,ni,AG,if_true,bB,aAf,gi hl];rw[kH vd D.int (G.b8 f.1) S ?h]
    case h=>showλX hX=>{[.v (vd X),.v (vd f.1)],rfl,pr X (sz X hX)}
    simp-implicitDefEqProofs only[R.aa0,md];have eq:KZ (.int (cH<|S.map<|G.b8 f.1)) (.int (G.b8 f.1 A))=.ok (.bl (decide (cH (S.map<|G.b8 f.1)=G.b8 f.1 A))):=rfl;by_cases q2:Sup S f
    .have O:mU S f us=us++[f]:=gi {q1,q2};rw[gv (mx.mpr (by rw[<-f2];show q2))]at eq;rw[O,aBv];simp-implicitDefEqProofs only[eq,R.aa0,AG,if_true];show gi (by rw[aAf];show aCx s (by symm))
    have O:mU S f us=us:=gk λz=>q2 z.2;rw[gu (λz=>q2 (by have:=mx.mp z;rw[<-f2]at this;show this))]at eq;rw[O];simp-implicitDefEqProofs only[eq,R.aa0,AG,aAE,if_false]
   rintro ρ ⟨t,u,E,H,I,J,L,rfl⟩;unfold qw2;rw[e2,aDD];show{_,_,_,_,_,_,_,_,rfl}
  rintro ρ ⟨a3,t,u,E,H,I,J,L,rfl⟩;unfold qw1;rw[e1,aDD];show{_,_,_,_,_,_,_,_,_,rfl}
 rintro ρ ⟨a2,a3,t,u,E,H,I,J,L,rfl⟩;rw[aDD];rfl
def fC(aN:v8 P w K mg base 2 "_law_planes" 1 yT)(Q9:v8 P w K mg base 1 "_law_dot" 2 j6)(a:mg "sorted"=none)(me:mg "set"=none)(dh:mg "len"=none)(g:bS K mg "_law_hull" Z9):v8 P w K mg base 8 "_law_hull" 1 yA:=by
 refine' l9 (k:=7) (F:=_) g zF (λn x y t=>?b) λz d hl h=>?_
 case b=>
  have o:=n.ad0 (by symm);refine' (c6 (i5 1 (PF.pd<|cA (i4 0) rfl o) t)
   (c6 (i5 2 (LZ aN n<|d4 1) t)
   (d5<|i7<|C4 ["p"] ["planes"] [2] rfl (G5 (sc:=b9 Z9) (N:=oR)) (j9<|d4 1) (hxt λ_ _ _ _ _=>{(k9 AN (PD.pb<|YI jM<|PD.pb<|C4 ["plane"] ["p"] [0] rfl jy (j9<|d4 1) (hxt λ_ _ _ _ _=>{(k9 (bC x) (PD.pb<|V6 Q9 n (d4 0)<|d4 1)<|rdB rfl),p5})<|λ_=>m9) wM),(d4 0)})<|λ_=>m9)))
 replace h:=X7 h;let{l,z,rfl,h}:=h;replace h:=u7 h;let{rfl,h}:=h;replace h:=R3 h;let{{i,u,j},rfl}:=h;have A:=SJ (J:=l) (by lia);let{m,r,e,L}:=M5 i u (by lia);rw[<-e]at L;have sz:∀P∈c7 l,Sz 900 P:=λP B=>i.1 P (i8.mp B);have C:=XX sz L.good.solid (l6 l) j;have q:=yJ (S:=c7 l) (aAi _);have E:∀f∈plT (c7 l),Sz 2003 f.1:=λf s=>JR i (q.2 f s);have H:(plT<|c7 l).length<=sizeLine:=aAj (q.few L.good.solid (l6 l) j) (by symm);have I:(c7 l).length<=sizeLine:=aAj j (by symm);rw[<-OC i u (aAj j (by symm))];clear q L e;generalize plT (c7 l)=fs at*
 generalize c7 l=S at*
 erw[j3,aAq,aDG,aBj,aCf,aAp,aBK,aEG,aEH,aDi,aDj];show p9 (ρ:=[.v (.lst (l.map vd)),.v (.lst (S.map vd)),.no]) (by simp-implicitDefEqProofs only[aG,R.aa0,A];rfl) ?_;show p9 (ρ:=[.v (.lst (l.map vd)),.v (.lst (S.map vd)),.v (.lst (fs.map fK))]) (by simp-implicitDefEqProofs only[z8,E8,Q5,L5,R.aa0,C];rfl) ?_;simp-implicitDefEqProofs only[Q5,L5,R.aa0,bB,aAf,gi I];rw[K6 vd (λX=>decide (2<(DZ fs X).length)) vd S ?h]
 case h=>
  intro X O;show{[.v (vd X),.v (.lst (fs.map fK))],rfl,?_,λ_=>rfl};simp-implicitDefEqProofs only[z8,E8,U9,aG,Q5,L5,fI,R.aa0,bB,aAf,gi H];rw[K6 fK (λf=>decide (G.b8 f.1 X=f.2)) (λ_=>.int 1) fs ?k]
  case k=>intro f s;have Q:=VU (E f s) (sz X O).mono;have T:W6 (fK f) (.int 3)=.ok (.int f.2):=rfl;have U:KZ (.int (G.b8 f.1 X)) (.int f.2)=.ok (.bl (decide (G.b8 f.1 X=f.2))):=rfl;show{[.v (fK f),.v (vd X)],rfl,?_,λ_=>rfl};simp-implicitDefEqProofs only[z8,E8,U9,aG,Q5,L5,fI,R.aa0,Q,T,U,AG]
  have Y:gtR (.int ((DZ fs X).length:Int)) (.int 2)=.ok (.bl (decide (2<(DZ fs X).length))):=by change R.ok (D.bl<|decide _)=_;congr 2;show decide_eq_decide.mpr (by lia)
  simp-implicitDefEqProofs only[R.aa0,yU,aAf];show(gn (λr=>r.bind AG) Y)
 rfl
def jC(g:bS K mg "_law_put" jS):v8 P w K mg base 1 "_law_put" 3 yN:=by
 refine' l9 (k:=0) (F:=_) g AL (λE H m e=>?b) λi d I h=>?_
 case b=>
  refine' (c6 (YJ (d4 0)<|zZ (n:=3) rfl<|S6 (n6 3 e)<|S6 (n6 4 e)<|S6 (n6 5 e) tE)
   (c6 (i5 3 (J9 rfl) e)
   (c6 (i5 4 (J9 rfl) e)
   (c6 (i5 5 (J9 rfl) e)
   (d5<|i7<|J9 rfl)))))
 replace h:=D4 h;let{x,y,z,i,rfl,h}:=h;replace h:=a5b h;let{a,b,c,i,rfl,h}:=h;replace h:=G7 h;let{f,i,rfl,h}:=h;replace h:=u7 h;let{rfl,h}:=h;replace h:=R3 h;let{{{o,j,p},l,q,r,s},rfl}:=h;have t:dM (.int a) (.int y)=.ok (.int (a*y)):=i6 (n4.of l j);have u:dM (.int b) (.int z)=.ok (.int (b*z)):=i6 (n4.of q p);have v:dM (.int c) (.int (x+a*y))=.ok (.int (c*(x+a*y))):=i6 (n4.of r<|bits_add (f6 (n:=600) o)<|f6<|bits_mul l j);have A:dM (.int 2) (.int f)=.ok (.int (2*f)):=i6 (n4.of (show bits 2<=10 by symm) s);have B:iG (.int f) (.int 3)=.ok (.int (f.fdiv 3)):=uW (by symm) (by symm);have C:W6 (.lst [.int a,.int b,.int c]) (.int 0)=.ok (.int a)/\W6 (.lst [.int a,.int b,.int c]) (.int 1)=.ok (.int b)/\W6 (.lst [.int a,.int b,.int c]) (.int 2)=.ok (.int c):={rfl,rfl,rfl};simp[j3,vd,C,t,u,v,A,B,putL,fB,sizeLine,a2x,sW,cU,BS]
def Z8(Z3:v8 P w K mg base 1 "_law_cell" 2 dW)(fC:v8 P w K mg base 8 "_law_hull" 1 yA)(jC:v8 P w K mg base 1 "_law_put" 3 yN)(jr:mg "range"=none)(jt:mg "tuple"=none)(g:bS K mg "_law_body" T6):v8 P w K mg base 9 "_law_body" 3 kB:=by
 refine' l9 (k:=8) (F:=_) g yY (λA B hu1 l=>?b) λE d hl h=>?_
 case b=>
  refine' (c6 (i5 3 (V6 Z3 A (d4 0)<|d4 1) l)
   (c6 (gJ 4 (lR<|d9 (J9 rfl)<|d9 (J9 rfl)<|d9 (J9 rfl)<|d9 (J9 rfl) k8) l)
   (c6 (F4 aBa rfl (gO<|o7 (i4 2) w9) (n6 5 l) (c6 (i5 6 (V6 Z3 A (d4 0)<|J9 rfl) l)
   (d5<|C1 (k9 (bC B) (rdB rfl) wM) (d5<|R4 4<|D5 TQ<|o7 (PD.pb<|C4 ["many"] ["cell"] [6] rfl (G5 (sc:=b9 T6) (N:=dR)) (j9<|jE<|d9 p5<|d9 p5<|d9 p5 k8) (MN λ_ _ _ _ _=>(J9 rfl))<|λ_=>m9) w9)<|d5<|R4 4<|J9 rfl)))
   (c6 (i5 7 (jE<|d9 (J9 rfl)<|d9 (J9 rfl)<|d9 (J9 rfl) k8) l)
   (c6 (i5 8 p5 l)
   (c6 (C1 (k9 (bC B) (rdB rfl) wM) (c6 (i5 7 (jE<|d9 (J9 rfl)<|d9 (J9 rfl)<|d9 (J9 rfl) k8) l)
   (d5<|i5 8 (J9 rfl) l)) u0)
   (d5<|AE 4<|i7<|LZ fC A<|C4 ["p"] ["slants", "far"] [7,8] rfl (G5 (sc:=b9 T6) (N:=dR)) (j9<|d4 4) (MN λ_ _ _ _ _=>(pc3 jC A (d4 0) (d4 1)<|d4 2))<|λ_=>m9)))))))
 replace h:=fP h;let{j,E,rfl,h}:=h;replace h:=G7 h;let{i,E,rfl,h}:=h;replace h:=G7 h;let{m,E,rfl,h}:=h;replace h:=u7 h;let{rfl,h}:=h;replace h:=R3 h;let{{hi,hs,hm},rfl}:=h;obtain⟨M,rfl⟩:∃M:Nat,m=(M:Int):={m.toNat,by lia};rw[aEq];let{c0,b0}:=xx hi i hs.1 (by lia);let{B,hz}:=TM j i (m:=M) (by lia);have HU:=VB B;let{pz,_,pl}:=xT j i M;have ll:(fN j i M).length<=sizeLine:=by rw[pl];show small (by lia)
 have PO:=JJ (cK j i);unfold iJ;have cm:=λ(k:Nat) (hk:k<M)=>xx hi (i+1+(k:Int)) (by lia) (by lia);have st:∀k,fN j i (k+1)=fN j i k++[iL (cK j i) (cK j<|i+1+(k:Int))]:=λk=>by unfold fN;rw[List.range_succ,aBv,aDe];rfl
 have st0:fN j i 0=iT (cK j i):=by unfold fN;simp
 have len:=λk=>(xT j i k).2.2;generalize fN j i=pb at*
 generalize cK j i=f at*
 have u:∀{x w:Int},0<w->w<1000000000000000->iG (.int x) (.int w)=.ok (.int (x.fdiv w)):=λH w1=>uW H w1;have z:∀{x w:Int},0<w->BP (.int x) (.int w)=.ok (.int (x.fmod w)):=λH=>QM H;have C:∀x y:Int,IK (.int x) (.int y)=.ok (.int (x-y)):=λ_ _=>rfl;have eq:∀x y:Int,KZ (.int x) (.int y)=.ok (.bl (decide (x=y))):=λ_ _=>rfl;have r1:=xk (n:=M) (by lia);erw[j3,aAq,aDG,aBj,aCf,aAp,aBK,aEG,aEH,aDi,aDj];show p9 (by simp-implicitDefEqProofs only[z8,E8,Q5,L5,R.aa0,c0,aAL,aAM];rfl) ?_;show p9 (ρ:=[.v (.lst j),.v (.int i),.v (.int (M:Int)),.v (.int f),.o ((pb 0).map vd),.no,.no,.no,.no]) ?_ ?_
 .rw[st0];simp-implicitDefEqProofs [u,z,fB,sizeLine,iT,vd]
 show KC (x:=iR 0 M) (by simp-implicitDefEqProofs [r1]) ?_;show KH (λk ρ=>∃r s,ρ=[.v (.lst j),.v (.int i),.v (.int (M:Int)),.v (.int f),.o ((pb k).map vd),r,s,.no,.no]) ?_ {_,_,rfl} ?_
 .rintro k _ hk ρ ⟨r,s,rfl⟩;let{c1,b1}:=cm k (by lia);have I:(pb k).length<sizeLine:=by rw[len k];show aCx (show 4+k<=1000 by lia) (by symm)
  have J:pF (.int i) (.int 1)=.ok (.int (i+1)):=rfl;have L:pF (.int (i+1)) (.int (k:Int))=.ok (.int (i+1+(k:Int))):=rfl;simp-implicitDefEqProofs only[J4,aAL,aAM];rw[st k,aBv];generalize cK j (i+1+(k:Int))=c at*
  show GH (by simp-implicitDefEqProofs only[z8,E8,U9,aG,Q5,L5,fI,R.aa0,J,L,c1,aAL,aAM];rfl) ?_;have ap:zS 4 [.v (.lst j),.v (.int i),.v (.int (M:Int)),.v (.int f),.o ((pb k).map vd),.v (.int (k:Int)),.v (.int c),.no,.no] (vd<|iL f c)=.ok (.nx [.v (.lst j),.v (.int i),.v (.int (M:Int)),.v (.int f),.o ((pb k).map vd++[vd (iL f c)]),.v (.int (k:Int)),.v (.int c),.no,.no]):=gi (by rw[aAf];show I);show{[.v (.lst j),.v (.int i),.v (.int (M:Int)),.v (.int f),.o ((pb k).map vd++[vd (iL f c)]),.v (.int (k:Int)),.v (.int c),.no,.no],Eq.trans ?_ ap,_,_,rfl};generalize zS 4 [.v (.lst j),.v (.int i),.v (.int (M:Int)),.v (.int f),.o ((pb k).map vd),.v (.int (k:Int)),.v (.int c),.no,.no]=AP;clear ap;have t:∀y:Int,bits y<=40->dM (.int c) (.int y)=.ok (.int (c*y)):=λy O=>i6 (n4.of b1 O);have Q:=t 48271 (by symm);have T:=t 16811 (by symm);have U:=t 69623 (by symm);by_cases q:(f.fdiv 648).fmod 3=1
  .have e:iL f c=⟨tR c 48271,tR c 16811,tR c 69623⟩:=gi q;rw[e];have tu:∀a b c:D,RG [.lst [a,b,c]]=.ok (.tup [a,b,c]):=λ_ _ _=>rfl;simp-implicitDefEqProofs [u,z,q,f9,Q,T,U,C,tu,tR,sizeLine,vd]
  have e:iL f c=⟨c.fmod 7-3,(c.fdiv 7).fmod 7-3,(c.fdiv 49).fmod 7-3⟩:=gk q;rw[e];simp-implicitDefEqProofs [u,z,q,C,fB,sizeLine,vd]
 rintro ρ ⟨r,s,rfl⟩;rw[aDD];have big:(zR f)=((f.fdiv 216).fmod 3=1):=rfl;show p9 (by simp-implicitDefEqProofs [u,z,C,RW,sizeLine];rfl) ?_;show p9 (ρ:=[.v (.lst j),.v (.int i),.v (.int (M:Int)),.v (.int f),.o ((pb M).map vd),r,s,.v (.lst [.int ((f.fdiv 8).fmod 3-1),.int ((f.fdiv 24).fmod 3-1),.int ((f.fdiv 72).fmod 3-1)]),.v (.int 0)]) rfl ?_;show p9 (ρ:=[.v (.lst j),.v (.int i),.v (.int (M:Int)),.v (.int f),.o ((pb M).map vd),r,s,.v (.lst [.int (uH f).1,.int (uH f).2.1,.int (uH f).2.2]),.v (.int (dj f))]) ?_ ?_
 .by_cases q:(f.fdiv 216).fmod 3=1
  .have Y:uH f=_:=gi q;have e2:dj f=_:=gi q;have t:∀y:Int,bits y<=80->dM (.int f) (.int y)=.ok (.int (f*y)):=λy O=>i6 (n4.of b0 O);have Q:=t 48271 (by symm);have T:=t 16811 (by symm);have U:=t 10000000000000000051 (by symm);have p19:HX (.int 10) (.int 19)=.ok (.int 10000000000000000000):=(DU {by symm,by symm,by symm}).trans (by rfl);have p20:HX (.int 10) (.int 20)=.ok (.int 100000000000000000000):=(DU {by symm,by symm,by symm}).trans (by rfl);have u4:dM (.int 2) (.int 100000000000000000000)=.ok (.int 200000000000000000000):=(i6 (n4.of (show bits 2<=10 by symm) (show bits 100000000000000000000<=80 by symm))).trans (by rfl);rw[Y,e2];simp-implicitDefEqProofs [u,z,C,RW,sizeLine,q,Q,T,U,u4,p19,p20,tR]
  have Y:uH f=_:=gk q;have e2:dj f=_:=gk q;rw[Y,e2];simp-implicitDefEqProofs [u,z,q]
 have e0:ZO 4 [.v (.lst j),.v (.int i),.v (.int (M:Int)),.v (.int f),.o ((pb M).map vd),r,s,.v (.lst [.int (uH f).1,.int (uH f).2.1,.int (uH f).2.2]),.v (.int (dj f))]=[.v (.lst j),.v (.int i),.v (.int (M:Int)),.v (.int f),.v (.lst ((pb M).map vd)),r,s,.v (.lst [.int (uH f).1,.int (uH f).2.1,.int (uH f).2.2]),.v (.int (dj f))]:=rfl;rw[e0];simp-implicitDefEqProofs only[z8,E8,Q5,L5,R.aa0,bB,aAf,gi ll];rw[kH vd vd (NC f) (pb M) ?h]
 case h=>showλP hP=>{[.v (vd P),.v (.lst [.int (uH f).1,.int (uH f).2.1,.int (uH f).2.2]),.v (.int (dj f))],rfl,lw (pz P hP) PO}
 simp-implicitDefEqProofs only[R.aa0,HU];rfl
section
seal PySem.eval
def o_law{f:a5}{u:cy}(Z8:v8 P w K mg base 9 "_law_body" 3 kB)(o:v8 P w K mg base 12 "body_difference" 2 cD)(a:v8 P w K mg base 11 "body_sum" 2 mX)(r:v8 P w K mg base 12 "body_fold" 2 cW)(jK:v8 P w K mg base 11 "where_in" 2 bT)(je:mg "list"=none)(ja:mg "isinstance"=none)(dh:mg "len"=none)(jt:mg "tuple"=none)(O:Fun K "law" "law" fR f u):FnOk P w K mg base uB 13 f u ["script"] (spD K 1 qB):=by
 refine' fnD (k:=12) (F:=_) O TC (λL A outer s H E e=>?b) λT d U h=>?_
 case b=>
  have l:=e.units;have hu1:=e.ac6;have i:=TC.nd;refine' (c6 (i5 1 (pc3 Z8 e (d4 0) p5 p5) i)
   (c6 (i5 2 (pc3 Z8 e (d4 0) p5 p5) i)
   (c6 (i5 3 (jE<|d9 (D5 T4<|o7 (i4 1) w9)<|d9 (D5 T4<|o7 (i4 2) w9) k8) i)
   (c6 (i5 4 (V6 o e (J9 rfl)<|J9 rfl) i)
   (c6 (C1 (MP.pt<|HD (JB<|xX<|QE UX<|i4 4)<|yO<|k9 (lC l) (i4 3)<|PD.pb<|jE<|d9 (d4 1)<|d9 (d4 2) k8) (d5<|i7 BN) u0)
   (c6 (C1 (k9 (lC l) (i4 4)<|PD.pb<|V6 a e (D5 T4<|o7 (i4 1) w9)<|V6 r e (D5 T4<|o7 (i4 2) w9)<|aR p5) (d5<|i7 BN) u0)
   (c6 (C1 (k9 (lC l) (PD.pb<|V6 o e (D5 T4<|o7 (i4 2) w9)<|D5 T4<|o7 (i4 1) w9)<|PD.pb<|V6 r e (D5 T4<|o7 (i4 4) w9)<|aR p5) (d5<|i7 BN) u0)
   (c6 (i5 5 (jE k8) i)
   (c6 (F4 aBa rfl (j9<|d4 1) (n6 6 i)<|d5<|i5 5 (rE rC (i4 5)<|PD.pb<|C4 ["q"] ["p"] [6] rfl (G5 (sc:=b9 fR) (N:=VM)) (j9<|d4 2) (MN λ_ _ _ _ _=>(J9 rfl))<|λ_=>m9) i)
   (c6 (F4 aBa rfl (j9<|d4 4) (n6 7 i)<|d5<|C1 (MP.pt<|HD (JB<|xX<|QE MA<|i4 7)<|yO<|k9 (lC l) (PD.pb<|YI jM<|PD.pb<|C4 ["way"] ["spot"] [7] rfl (G5 (sc:=b9 fR) (N:=VM)) (j9<|d4 5) (hxt λ_ _ _ _ _=>{(k9 (bC l) (i4 0)<|i4 1),p5})<|λ_=>m9) wM) (d5<|i7 BN) u0)
   (c6 (i5 8 (V6 o e (D5 T4<|o7 (i4 1) w9)<|D5 T4<|o7 (i4 1) w9) i)
   (d5<|i7<|a1n (IA (bC l) (PD.pb<|V6 r e (D5 T4<|o7 (i4 8) w9)<|aR p5)<|i4 8)<|a3c<|IA (bC l) (PD.pb<|V6 jK e (d4 8)<|J9 rfl) wM))))))))))))
 replace h:=fP h;let{g,T,rfl,h}:=h;replace h:=u7 h;let{rfl,h}:=h;replace h:=R3 h;let{{U,I},rfl}:=h;have LA:kB [.lst g,.int 0,.int 1]=.ok (.lst ((iJ g 0 1).map vd)):=DH I (by symm) (by symm);have LB:kB [.lst g,.int 2,.int 0]=.ok (.lst ((iJ g 2 0).map vd)):=DH I (by symm) (by symm);have J:=uV g 0 (m:=1) (by symm);have t:=uV g 2 (m:=0) (by symm);let{B',C,C',E,q1,q2,q3,q4,q5,q6,q7,q8,q9}:=a5v (CW g 0 (m:=1) (by symm)) (CW g 2 (m:=0) (by symm)) J t;generalize iJ g 0 1=A at*
 generalize iJ g 2 0=B at*
 show p9 (C5 (C5 (n8 rfl<|n8 rfl<|n8 rfl rfl) LA) rfl) ?_;show p9 (C5 (C5 (n8 rfl<|n8 rfl<|n8 rfl rfl) LB) rfl) ?_;show p9 (C5 (C5 (n8 rfl<|n8 rfl rfl) rfl) rfl) ?_;show p9 (C5 (C5 (n8 rfl<|n8 rfl rfl) q1) rfl) ?_;show p9 (LH<|yk rfl<|C5 (C5 rfl<|C5 rfl<|AB<|YS A B) rfl) ?_;show p9 (LH<|C5 (C5 rfl<|C5 (C5 (n8 rfl<|n8 (C5 (n8 rfl<|n8 rfl rfl) q2) rfl) q3)<|AB<|yP C) rfl) ?_;show p9 (LH<|C5 (C5 (C5 (n8 rfl<|n8 rfl rfl) q4)<|C5 (C5 (n8 rfl<|n8 rfl rfl) q5)<|AB<|yP C') rfl) ?_;show p9 (C5 rfl rfl) ?_;show KC (x:=A.map vd) rfl ?_;show cx vd A.length (λj n=>∃z,n=[.v (.lst g),.v (.lst (A.map vd)),.v (.lst (B.map vd)),.v (.lst [.lst (A.map vd),.lst (B.map vd)]),.v (.lst (C.map vd)),.v (.lst ((Z7 j B).map vd)),z,.no,.no]) ?_ A [] _ (by simp) {_,rfl} ?_
 .rintro j P n hp ⟨z,rfl⟩;have wl:=uX j B;have pb:j.length*B.length<=5*4:=aCq (by lia) t;show a6r rfl {_,C5 (C5 rfl (C5 (C5 (x:=B.map vd) rfl ((lL vd vd (P-·) B (by lia) λQ hQ=>{_,rfl,rfl}).trans rfl)) (pW (aAj (show _<=2000 by erw[aAf];lia) (by symm))))) rfl,.v (vd P),by rw[NL];rfl}
 rintro n ⟨z,rfl⟩;rw[aCf];show KC (x:=C.map vd) rfl ?_;show WN (λn=>∃z y,n=[.v (.lst g),.v (.lst (A.map vd)),.v (.lst (B.map vd)),.v (.lst [.lst (A.map vd),.lst (B.map vd)]),.v (.lst (C.map vd)),.v (.lst ((Z7 A B).map vd)),z,y,.no]) ?_ {_,_,rfl} ?_
 .rintro d hd n ⟨z,y,rfl⟩;let{X,hX,rfl}:=aAh.mp hd;have wl:=uX A B;have pb:A.length*B.length<=5*4:=aCq J t;have e2:OL [.lst (((Z7 A B).filter λY=>decide (Y=X)).map λ_=>.int 1)]=.ok (.int 1):=by erw[OL,aAf,q6 X hX];rfl
  show a6r rfl {_,LH (yk rfl (C5 (C5 (C5 (n8 (C5 (x:=(Z7 A B).map vd) rfl ((IU vd (λY=>decide (Y=X)) (λ_=>.int 1) (Z7 A B) (by lia) λY _=>{_,rfl,C5 (C5 rfl<|C5 rfl<|a3f Y X) rfl,rfl}).trans rfl)) rfl) e2) rfl) rfl)),_,_,rfl}
 rintro n ⟨z,y,rfl⟩;show p9 (C5 (C5 (n8 rfl<|n8 rfl rfl) q7) rfl) ?_;show fV (C5 (a6e (C5 (C5 (n8 rfl<|n8 rfl rfl) q8)<|C5 rfl<|YX<|yP E)<|C5 (C5 (n8 rfl<|n8 rfl rfl) q9) rfl) rfl)
end
end
end K54
section
namespace K54
open PySem L2 DL M
def truth(ns:List Int)(a:ns.length<=63)(b:∀x∈ns,aBg x<=1048576):qB [.lst (ns.map D.int)]=.ok (.bl true):=by unfold qB;show gi {by simpa using a,gx b}
section
variable [Tabs]
def all_mk{l:PySem.W.OpenLaw}{w:bo}{K:gy}{h:bt}{mg:dJ}{fa f38 Pt Pt_sum_faces:a5}(X:K.In h)(G:h.Ns bg mg)(hfa:mg "law"=some (.ref fa))
  (g0:Got K "way_between" aL)
  (g1:Got K "put_together" X1)
  (g2:Got K "times" zE)
  (g3:Got K "cross_of" jD)
  (g4:Got K "product_of" cE)
  (g5:Got K "common_divisor" R5)
  (g6:Got K "plane_through" U8)
  (g7:Got K "side_of" mF)
  (g8:Got K "first_real_way" S1)
  (g9:Got K "dimension_of" C7)
  (g10:Got K "refuse_flat" aP)
  (g11:Got K "points_on" aE)
  (g12:Got K "plane_about" aT)
  (g13:Got K "first_pair" cC)
  (g14:Got K "turn_of" mD)
  (g15:Got K "left_chain" cQ)
  (g16:Got K "ring_of" lU)
  (g17:Got K "pairs_round" aQ)
  (g18:Got K "faces_from" bY)
  (g19:UQ K "faces_of" N2 Pt)
  (g20:Got K "corners_in" cV)
  (g21:Got K "body_of" mR)
  (g22:Got K "body_fold" Z6)
  (g23:Got K "pairs_by_sum" X6)
  (g24:Got K "outermost" T9)
  (g25:UQ K "sum_faces" A6 Pt_sum_faces)
  (g26:Got K "turned_back" T1)
  (g27:Got K "body_sum" jX)
  (g28:Got K "body_difference" P3)
  (g29:Got K "where_in" cI)
  (g30:Got K "_law_cell" fD)
  (g31:Got K "_law_dot" jP)
  (g32:Got K "_law_cross" cR)
  (g33:Got K "_law_divisor" X8)
  (g34:Got K "_law_planes" T2)
  (g35:Got K "_law_hull" Z9)
  (g36:Got K "_law_put" jS)
  (g37:Got K "_law_body" T6)
  {od38 an38:Option a5}{sl38:Array (Option af)}{oc38 kV38 dc38 pm38 cd38 ct38:af}
  (a38:PySem.W.nsIn K bg "law"=some (some (.ref f38))) (l38:K.lookup f38=some {oc38,od38,.func (PySem.W.fnOf "law" "law" (A2 fR) (k7 fR) (b9 fR) .none kV38 dc38 pm38 an38 cd38 ct38),sl38}) (e38:PySem.W.codeIn K cd38 "law"=true) (k38:PySem.W.keepIn K (.ref f38)=true)
  (z_abs:PySem.W.nsIn K bg "abs"=some none)
  (z_len:PySem.W.nsIn K bg "len"=some none)
  (z_any:PySem.W.nsIn K bg "any"=some none)
  (z_min:PySem.W.nsIn K bg "min"=some none)
  (z_list:PySem.W.nsIn K bg "list"=some none)
  (H:PySem.W.nsIn K bg "reversed"=some none)
  (z_zip:PySem.W.nsIn K bg "zip"=some none)
  (z_sorted:PySem.W.nsIn K bg "sorted"=some none)
  (z_set:PySem.W.nsIn K bg "set"=some none)
  (z_max:PySem.W.nsIn K bg "max"=some none)
  (z_range:PySem.W.nsIn K bg "range"=some none)
  (z_tuple:PySem.W.nsIn K bg "tuple"=some none)
  (p:PySem.W.nsIn K bg "isinstance"=some none)
  {mi:a5}{T:Option a5}{I J L:Tok}{U:Nat}{Y:Array (Option af)}
  (ca_NO_WAY:PySem.W.nsIn K bg "NO_WAY"=some (some (.ref mi))) (cl_NO_WAY:K.lookup mi=some {.type "tuple",T,.seq #[.int 0 I,.int 0 J,.int 0 L] U,Y})
  (nt:(Pt,tbK)∈Tabs.tbs)
  (q:(Pt_sum_faces,tbK_sum_faces)∈Tabs.tbs)
  (truth:∀ns:List Int,ns.length<=63->(∀x∈ns,aBg x<=1048576)->qB [.lst (ns.map D.int)]=.ok (.bl true)):
  ∃fd:cy,(∀(s:ai) (v:af),BindsTo s fd {[v],[]} [("script",v)])/\∀base:bt,K.In base->base.Ns bg mg->iU mg base->FnOk l.prog w K mg base uB 13 fa fd ["script"] (zO K):=by
 have e:=hfa.symm.trans (PySem.W.mg_of X G a38);cases e;have ua:=PySem.W.mg_none_of X G z_abs;have dh:=PySem.W.mg_none_of X G z_len;have b_any:=PySem.W.mg_none_of X G z_any;have b_min:=PySem.W.mg_none_of X G z_min;have je:=PySem.W.mg_none_of X G z_list;have km:=PySem.W.mg_none_of X G H;have uc:=PySem.W.mg_none_of X G z_zip;have a:=PySem.W.mg_none_of X G z_sorted;have me:=PySem.W.mg_none_of X G z_set;have mh:=PySem.W.mg_none_of X G z_max;have jr:=PySem.W.mg_none_of X G z_range;have jt:=PySem.W.mg_none_of X G z_tuple;have ja:=PySem.W.mg_none_of X G p;have df:RT K mg "NO_WAY" [0,0,0]:=a1q (PySem.W.mg_of X G ca_NO_WAY) cl_NO_WAY;show{PySem.W.fnOf "law" "law" (A2 fR) (k7 fR) (b9 fR) .none kV38 dc38 pm38 an38 cd38 ct38,λs v=>.of_eq rfl,λbase _ _ hB=>?_};have cg:v8 l.prog w K mg base 1 "way_between" 2 x4:=n9 (g0.def X G);have ia:v8 l.prog w K mg base 1 "put_together" 2 kM:=x6 (g1.def X G);have ud:v8 l.prog w K mg base 1 "times" 2 kA:=kS (g2.def X G);have fu:v8 l.prog w K mg base 1 "cross_of" 2 D9:=F3 (g3.def X G);have bu:v8 l.prog w K mg base 1 "product_of" 2 j6:=u9 (g4.def X G);have f:v8 l.prog w K mg base 1 "common_divisor" 1 K3:=R1 ua (g5.def X G);have i:=U6 fu cg f bu (g6.def X G);have ml:v8 l.prog w K mg base 1 "side_of" 2 K0:=bD (g7.def X G);have g:v8 l.prog w K mg base 1 "first_real_way" 1 C9:=K8 df (g8.def X G);have ib:=J2 cg g fu bu dh b_any (g9.def X G);have k:=aO ib (g10.def X G);have jh:=J8 ml (g11.def X G);have ig:=M0 cg bu fu i df (g12.def X G);have jb:=O8 jh ig ib b_min (g13.def X G);have r_turn_of:=nP bu fu cg (g14.def X G);have r:=V8 r_turn_of dh (g15.def X G);have r_ring_of:=lZ r je km (g16.def X G);have m:v8 l.prog w K mg base 1 "pairs_round" 1 C3:=aW je uc (g17.def X G);have jc:=P7 ig r_ring_of m dh a (g18.def X G);have kn:=Y8 jh k jb jc a me hB nt (g19.def X G);have dn:dN l.prog w K mg base 8 "corners_in" 1 F5:=L6 a me (g20.def X G);have r_corners_in:=dn.cal;have ko:dN l.prog w K mg base 11 "body_of" 1 bN:=jB kn dn (g21.def X G);have r_body_of:=ko.cal;have t:dN l.prog w K mg base 12 "body_fold" 2 cW:=zJ ud ko (g22.def X G);have y:=t.cal;have gc:EW l.prog w K mg base 2 "pairs_by_sum" 2 N8:=U3 ia (g23.def X G);have z:=N6 bu mh uc (g24.def X G);have A:=fA ia gc.cal z jb jc gc a hB q (g25.def X G);have n:=aM ud (g26.def X G);have ji:dN l.prog w K mg base 11 "body_sum" 2 mX:=fH A dn (g27.def X G);have N:=ji.cal;have b:dN l.prog w K mg base 12 "body_difference" 2 cD:=jJ n ji (g28.def X G);have d:=b.cal;have O:=jK kn ml mh (g29.def X G);have B:v8 l.prog w K mg base 1 "_law_cell" 2 dW:=Z3 dh (g30.def X G);have kr:v8 l.prog w K mg base 1 "_law_dot" 2 j6:=Q9 (g31.def X G);have u:v8 l.prog w K mg base 1 "_law_cross" 3 zT:=bZ (g32.def X G);have j:v8 l.prog w K mg base 1 "_law_divisor" 2 G3:=P6 ua (g33.def X G);have o:=aN u j kr jr dh mh (g34.def X G);have C:=fC o kr a me dh (g35.def X G);have Q:v8 l.prog w K mg base 1 "_law_put" 3 yN:=jC (g36.def X G);have E:=Z8 B C Q jr jt (g37.def X G);show YY (o_law E d N y O je ja dh jt<|XD (st:=fR) l38 e38 k38) truth
end
end K54
namespace PySem.W.Fast
def tw12256763042399041828:=0
def tw9763925115737400861:=0
def tw7479047831432219117:=0
def tw8682364642722468860:=0
def tw4089219438379947576:=0
def tw10219461702123655893:=0
def tw4829159261062826330:=0
def tw2087972369584132778:=0
def tw17037274991751626867:=0
def tw14902263756773650571:=0
def tw10050973689645931822:=0
def tw10966892513188570628:=0
def tw13265541611628398711:=0
def tw8708670611539372225:=0
def tw18038507426389498472:=0
def tw165302487222835165:=0
def tw6726661601197868970:=0
def tw13514238870166353218:=0
def tw15140814390543269088:=0
def tw6176010118617690484:=0
def tw7583474914591799522:=0
def tw4133191107301084379:=0
def tw2683447869812592903:=0
def tw3582259461410391633:=0
def tw13205489321274375463:=0
def tw5873681355103743590:=0
def tw14988954851180989107:=0
def tw8863811008483780833:=0
def tw15824001616259809164:=0
def tw423727432846027435:=0
def tw7224985597854483356:=0
def tw5484212975573448314:=0
def tw1514133248362281337:=0
def tw17957010524638566517:=0
def tw9509723158218272275:=0
def tw9268083293561699998:=0
def tw6022247715337105160:=0
def tw12179267694196090689:=0
def tw3298071797055503911:=0
def tw9663199806659208150:=0
def tw3965616555943062550:=0
def tw4124431485382888940:=0
def tw3760942465130340933:=0
def tw10911283270016051978:=0
def tw8273399630598857596:=0
def tw7381660670536497074:=0
def tw12428219605189786119:=0
def tw10137471000236589865:=0
def tw6992656364702498369:=0
def tw7060696440010592142:=0
def tw18265831590715111278:=0
def tw6589022915195951386:=0
def tw15633005073767921533:=0
def tw4963370999429330402:=0
def tw11499941045452056825:=0
def tw1914491547679640129:=0
def tw6171937718570488539:=0
def tw7796203791866836059:=0
def tw10369332029789589910:=0
def tw15692657784987416155:=0
def tw11349707917219126719:=0
def tw4073561622183755400:=0
def tw16384763056793210105:=0
def tw10077817029488086184:=0
def tw13510725033663886578:=0
def tw13234968479481616580:=0
def tw7260097391938849089:=0
def tw17164732420706333133:=0
def tw6155374080752083113:=0
def tw11077924135307415362:=0
def tw3922211249937539304:=0
def tw3120384109454663831:=0
def tw3223695557254984328:=0
def tw5278559291205923384:=0
def tw17501747858549764481:=0
def tw4021556869439433862:=0
def tw8719406583795143185:=0
def tw6002283453080007869:=0
def tw18244092997118135083:=0
def tw495571511505302504:=0
def tw13768581689807584278:=0
def tw7928418382949227781:=0
def tw2147981071949247260:=0
def tw13969423955776995484:=0
def tw712645241779225818:=0
def tw8483742658598292872:=0
def tw2077267700463624224:=0
def tw4093598993912929692:=0
def tw5349413683789748348:=0
def tw12639056366258626112:=0
def tw6406071899463802668:=0
def tw175265977831989274:=0
def tw11052961712458665168:=0
def tw6374737690035626526:=0
def tw1961606911251817414:=0
def tw14992180228376238456:=0
def tw17958039786713713401:=0
def tw11408610898350659449:=0
def tw554515896407608157:=0
def tw14776502851350815593:=0
def tw4651674139459892020:=0
def tw17982729220096459068:=0
def tw12772883107699521425:=0
def tw8791076837844161009:=0
def tw16231253914399057673:=0
def tw79157075683292374:=0
def tw11221331819490690582:=0
def tw16528160976138765726:=0
def tw12766581461492632501:=0
def tw2985572632296055936:=0
def tw11703305222817398787:=0
def tw4084305678722382113:=0
def tw4702953574451645569:=0
def tw16449086419364210761:=0
def tw4241457476172702597:=0
def tw9882603316038375487:=0
def tw1860751661573884460:=0
def tw15712580415581767128:=0
def tw11207637384064310219:=0
def tw18094588095436097860:=0
def tw14972346183049757462:=0
def tw5779396811969206262:=0
def tw16901268567644728819:=0
def tw17502010696248139458:=0
def tw6650373227336360970:=0
def tw1091833249578910180:=0
def tw12061262213578563642:=0
def tw18105429294665623762:=0
def tw3503539656474707109:=0
def tw3910820744266085891:=0
def tw18441498380988052779:=0
def tw14827496900756647946:=0
def tw11087412598593768571:=0
def tw15319311461669196412:=0
def tw17267875552308053783:=0
def tw24071128602100650:=0
def tw7571529571014677383:=0
def tw17512934894614157328:=0
def tw6436940981541350312:=0
def tw7368749679262299194:=0
def tw10696198544885228508:=0
def tw5891542005819477991:=0
def tw16202178945503403298:=0
def tw11863060297497203469:=0
def tw13281104385898406960:=0
def tw18103661028916969293:=0
def tw228470971986105177:=0
def tw9986059991086097408:=0
def tw14342349227435605179:=0
def tw15812879000886418761:=0
def tw2081909125593251667:=0
def tw10460101695788845391:=0
def tw1098987086367054479:=0
def tw11196856476437247117:=0
def tw11258532538705843242:=0
def tw11786215597705290353:=0
def tw13288688214398595841:=0
def tw13535966483392217707:=0
def tw13743238776589584540:=0
def tw14170782875675850451:=0
def tw14632759956827659438:=0
def tw1625329978195547203:=0
def tw16379252672358674511:=0
def tw16615082697957211970:=0
def tw16770398104252176649:=0
def tw17403241672814704125:=0
def tw17836817008287713766:=0
def tw2975349552574878626:=0
def tw3197508382516005719:=0
def tw4122089654041353814:=0
def tw494682008924792083:=0
def tw5135988542489247887:=0
def tw5217533419574401952:=0
def tw532400550080025325:=0
def tw5549502282139991035:=0
def tw6358478718065768694:=0
def tw6780242288308189062:=0
def tw7265789530058942822:=0
def tw7497209226517084154:=0
def tw7615377039379062447:=0
def tw7690416063906961113:=0
def tw8997151298764911250:=0
def tw9792843565051343528:=0
def tw6268303025450884125:=0
def tw121330370560801139:=0
def tw11537928341281743965:=0
def tw12904234640381866643:=0
def tw2070135418036143043:=0
def tw3797172462641817371:=0
def tw5213708844693961604:=0
def tw632682480588041180:=0
def tw9364776315831872692:=0
def tw270134271600719472:=0
def tw17720996403904882135:=0
def tw11793842894185618513:=0
def tw9153967799220123281:=0
def tw4218286934365614496:=0
def tw10536133924095716101:=0
def tw1205151449312760927:=0
def tw13704685147200964168:=0
def tw6887584974561184413:=0
def tw1692119376441328414:=0
def tw9024544252023878791:=0
def tw10493900738927411413:=0
def tw11605007446529447103:=0
def tw7754556537963082043:=0
def tw8437444533853151445:=0
def tw7855152985746463371:=0
def tw14914273690721135206:=0
def tw13698133915606386059:=0
def tw3463981589829172310:=0
def tw14861164914873403297:=0
def tw11110349216044042877:=0
def tw11885563349496696225:=0
def tw16692739928741761398:=0
def tw16703000300189006669:=0
def tw3339028549335819281:=0
def tw4663248135087985302:=0
def tw5247056806926043059:=0
def tw8246821716792976654:=0
def tw9518946510972327708:=0
def tw10108754113403291034:=0
def tw10302832850389794656:=0
def tw10356609165686210648:=0
def tw1036501079742729541:=0
def tw11253235015581335120:=0
def tw11600812735124109992:=0
def tw12107639737880159536:=0
def tw12153789674298577976:=0
def tw1241819258691631968:=0
def tw12566617582783682713:=0
def tw12640268891507272914:=0
def tw13028517073585266134:=0
def tw13140936174070050842:=0
def tw13321666723350851374:=0
def tw13484716349056548526:=0
def tw13731805661132880546:=0
def tw13766242577558242056:=0
def tw14459602302936582523:=0
def tw1455429309488057552:=0
def tw14797313522039265105:=0
def tw15185366228807135870:=0
def tw15357836107422174043:=0
def tw1550106225844951731:=0
def tw16090462770155945615:=0
def tw16180289311042966684:=0
def tw16301109294362779557:=0
def tw16804460721735265282:=0
def tw16989858068952046159:=0
def tw17484197223238688604:=0
def tw175886651542475369:=0
def tw17589034027824438888:=0
def tw17891332164358860832:=0
def tw18093370475336638293:=0
def tw182412481195880721:=0
def tw193948635004011317:=0
def tw2326059974819593054:=0
def tw2575780550266153373:=0
def tw278651340831398221:=0
def tw2983214517500235889:=0
def tw3145972140429550361:=0
def tw3188956796562439543:=0
def tw3685916949884439656:=0
def tw3687106164912557712:=0
def tw3975276571189212471:=0
end PySem.W.Fast
open PySem PySem.W PyProof.Rows
set_option maxRecDepth 100000 in
theorem PySem.Challenge.cw_stakebodies_k54_differences_holds : PySem.Challenge.rw_stakebodies_k54_differences.Holds := by
 w_on;o_law;k_head;(case hw=>w_witness2)
 k_fill
 letI tabs9:DL.Tabs:=⟨[(183,K54.tbK),(221,K54.tbK_sum_faces)]⟩
 show DL.gz (l:=PySem.Challenge.rw_stakebodies_k54_differences) (k:=13) rfl rfl {rfl,by decide,by decide} (λw h Y=>{PySem.W.km_in_of Y,PySem.W.km_tabs_of Y}) (DL.ZA (c:=187) (c2:=225) (by k_mem) (λw=>by kernel_rfl) (by k_mem) (λw=>by kernel_rfl)) (DL.OM (by decide)) (λw=>by kernel_rfl) ?F
 case F=>
  intro w mg fa h KX G hmg;refine' K54.all_mk (Pt:=183) (Pt_sum_faces:=221) KX G hmg ?_ ?_ ?_ ?_ ?_ ?_ ?_ ?_ ?_ ?_ ?_ ?_ ?_ ?_ ?_ ?_ ?_ ?_ ?_ ?_ ?_ ?_ ?_ ?_ ?_ ?_ ?_ ?_ ?_ ?_ ?_ ?_ ?_ ?_ ?_ ?_ ?_ ?_ ?a38 ?l38 ?e38 ?k38 ?z_abs ?z_len ?z_any ?z_min ?z_list ?z_reversed ?z_zip ?z_sorted ?z_set ?z_max ?z_range ?z_tuple ?z_isinstance ?ca_NO_WAY ?cl_NO_WAY (List.Mem.head _) (List.Mem.tail _ (List.Mem.head _)) K54.truth
  all_goals first|(refine' DL.a3h ?a ?l ?c ?k;(case a=>k_is);(case l=>k_is);(case c=>k_is);(case k=>k_is))|(refine' DL.jq ?a ?l ?c ?k rfl ?n;(case a=>k_is);(case l=>k_is);(case c=>k_is);(case k=>k_is);(case n=>kernel_rfl))|k_is|skip
end
