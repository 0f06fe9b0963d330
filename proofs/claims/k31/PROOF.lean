import PyProof.Rows.All
import Wide.All
import OpenK.AllK
import Wide.FinOn
import Lean
import PyProof.EqAt
import PyProof.EqKinds
import PyProof.TupleCall
import PyProof.NeKinds
import KE.RegKIsAll
import PyProof.ExcClass3
import PySem.SetTable
import PySem.Value
import PyProof.Rows.SortShellK
import PyProof.ZipIter
import KE.KRevIter
import PyProof.ListNew
import PyProof.CollectIter
import PyProof.DictWalks
import PyProof.Walks
import KE.KDictList
import PyProof.DictValues
import PyProof.SumWalkG
import OpenK.KOwn
import KE.KNestM
import PyProof.Rows.StrWeight2
import PyProof.SetKind
import PyProof.ForAny
import PyProof.FactsAll.set_1
import PyProof.FactsAll.set_2
import PyProof.ConsumeS
import KE.KIsAll
import KE.KDictOf
import PyProof.AttrMissHeap
import PySem.Challenge.RW_stakebodies_k31_shares_told
set_option Elab.async false
set_option linter.all false
set_option backward.eqns.nonrecursive false
set_option maxRecDepth 100000
set_option maxHeartbeats 4000000
set_option compiler.extract_closed false
local macro_rules|`({$x:term,$y,*})=>`(⟨$x,$y,*⟩)
local macro_rules|`(tactic|show $e)=>`(tactic|refine $e)
local macro_rules|`(tactic|symm)=>`(tactic|decide)
local macro_rules|`(tactic|nofun)=>`(tactic|simp_all)
local macro_rules|`(tactic|exists $e)=>`(tactic|simpa using $e)
local macro_rules|`(tactic|erw[$r,*]$[$l]?)=>do
 let q:=r.getElems.map λx=>(⟨x.raw[1]⟩:Lean.Term)
 `(tactic|simp only[$[$q:term],*]$[$l]?)
local macro_rules|`(tactic|let $p:term:=$e)=>do
 let f(g:Lean.Syntax->Lean.MacroM (Lean.TSyntax `rcasesPat))(t:Lean.Syntax):Lean.MacroM (Lean.TSyntax `rcasesPat):=do
  match if t.isOfKind Lean.choiceKind then t[0] else t with
  |`({$x:term,*})=>
   let p<-x.getElems.mapM (g ·.raw)
   `(rcasesPat|⟨$[$p:rcasesPat],*⟩)
  |`($i:ident)=>`(rcasesPat|$i:ident)
  |_=>`(rcasesPat|_)
 let p<-f (f (f (f λ_=>`(rcasesPat|_)))) p
 `(tactic|obtain $p:rcasesPat:=$e)
theorem km{c:Prop}{h:Decidable c}(k:c){α:Sort _}{t e:α}:ite c t e=t:=if_pos k
theorem kn{c:Prop}{h:Decidable c}(k:¬c){α:Sort _}{t e:α}:ite c t e=e:=if_neg k
theorem kM{α:Sort _}{β:Sort _}{a b:α}(f:α->β)(h:a=b):f a=f b:=congrArg f h
def k7{a:Prop}{b:Sort _}(h:a)(k:¬a):b:=absurd h k
theorem lb{p:Prop}[i:Decidable p](h:¬p):decide p=false:=decide_eq_false h
theorem lg{p:Prop}[i:Decidable p](h:p):decide p=true:=decide_eq_true h
abbrev lM:=PySem.W.Frag
abbrev ma:PySem.Str:="__debug__"
abbrev md:PySem.Str:="__classdict__"
open PySem renaming Value->au,Shared->aL,starEach->a5,Addr->a9,wpAny->ba,model->bb,Program->bc,mainGlobals->be,Around->bt,World->bM,Heap->cf,Expr->ck,Stmt->cp,cLine->cq,bootBuiltins->cu,backTo->cv,eval->cy,rawInt->dm,DictEntry->dq,IsPair->dA,compareOp->dC,FuncData->dI,cellsFrom->ee,binaryOp->ek,swapsWith->eI,foldedSetIterable->eQ,assignEach->eR,NameKind->eY,attributeBase->fb,sysModules->ff,SetTable->fg,pyNext->fh,argBest->fo,codeAmong->gh,codeAny->gn,sliceBounds->gs,Scope->gW,holding->h9,numAt->ib,swapsWithSole->ik,swappedStores->ix,behindInMarks->i3,pickOrder->ka,typeLookup->kb,atKey->kc,assign->kd,wpAny_bind->aAa,wpAny_pure->aAc,wpAny_newObj_type->aAD,wpAny_call_entry->aAG,wpAny_holding->aAJ,wpAny_Call_Name_kw->aAP,wpAny_seqItems->aAW,wpAny_callSpecial?_slot->aAX,wpAny_setField_rec->aBf,wpAny_field->aBi,codeAny_builtin->aBn,wpAny_specialOf->aBw,wpAny_truthy_bool->aBA,plainId_quiet->aBD,builtinLookup_eq_fast->aBZ,wpAny_updateSeq->aCc,wpAny_setState_of->aCl,wpAny_isInstance->aCx,wpAny_forIn_list->aCy,wpAny_rule->aCG,wpAny_mono->aCH,wpAny_pyIter_list->aCI,wpAny_nextOf_list_item->aCR,wpAny_attempt->aCU,typeLookup_type->aDf,wpAny_passesOwn->aDg,wpAny_typeOf->aDk,wpAny_typeNameOfWhole_keyiter->aDr,wpAny_typeNameOfWhole_valiter->aDs,wpAny_setField->aDv,wpAny_callSpecialIfBoundUnlessNone?_slot->aDH,wpAny_letGo->aDK,wpAny_pyIter_slot->aDO,wpAny_updateSeq_pair->aDS,codeAny_mono->aEd,wpAny_comprehension_free->aEe,wpAny_onRaise->aEo,wpAny_dictEntries->aEB,wpAny_Assign_Name->aEC,isSubtype_stop->aEE,wpAny_tryCatch->aEF,wpAny_notOrdered_dict->aEO,wpAny_isOneOf_valiter->aEP,wpAny_execs_cons->aEU,wpAny_standAt->aFc,wpAny_of_eq->aFh,wpAny_dictEpoch->aFi,wpAny_execs_nil->aFj,wpAny_loadPart'->aFk,pushCells_keeps->aFl,wpAny_setEntries_of->aFm,slot_dict_contains->aFG,wpAny_newTuple->aFM,isSubtype_type->aFO,wpAny_fieldsOf->aFP,sizeLine_eq->aFZ,wpAny_handled->aGa,noFill_tuple_add->aGf,wpAny_askSetting->aGh,concat_meets->aGq,call_meets->aGv,wpAny_runValue->aGF,wpAny_throw->aGJ
open PySem.Heap renaming get?_push_of_some->aAb,lt_size->aAd,get?_push_size->aAh,get?_update_other->aAE,get?_update_self->aBa,size_push->aBb,get?_none_of_le->aEZ
open List renaming mem_cons->aAe,mem_cons_of_mem->aAf,length_map->aAg,mem_map->aAj,getElem?_eq_getElem->aAk,map_cons->aAm,getD_eq_getElem?_getD->aAp,length_cons->aAr,mem_of_getElem?->aAs,pairwise_cons->aAu,length_append->aAv,getElem?_eq_some_iff->aAw,mem_append_right->aAA,getElem?_append_right->aAC,getElem?_map->aAF,map_map->aAK,mem_append->aAO,size_toArray->aAQ,not_mem_nil->aAR,mem_singleton->aAU,reverse_cons->aAV,getElem?_append_left->aAY,nodup_cons->aAZ,mem_flatMap->aBe,lookup_cons->aBg,getElem_of_mem->aBh,map_append->aBk,mem_append_left->aBl,mem_range->aBs,getElem?_zip_eq_some->aBy,range->aBz,cons_append->aBF,all_eq_true->aBG,getElem?_replicate->aBJ,dropLast_concat->aBK,mem_cons_self->aBL,getElem?_set_self->aBM,take_of_length_le->aBN,pairwise_iff_getElem->aBO,sum_cons->aBQ,length_take->aBR,eq_nil_of_length_eq_zero->aBS,getElem_mem->aBT,mem_map_of_mem->aBV,pairwise_map->aBW,mem_iff_getElem?->aBX,mem_filterMap->aCb,append_nil->aCd,length_nil->aCe,mem_reverse->aCh,nodup_iff_pairwise_ne->aCi,length_reverse->aCm,getElem?_eq_none_iff->aCo,mem_filter->aCp,length_replicate->aCs,set_cons_succ->aCv,set_cons_zero->aCw,getElem?_set_ne->aCz,nodup_append->aCE,mem_range'_1->aCK,of_mem_zip->aCM,filterMap_cons->aCN,range'->aCP,perm_ext_iff_of_nodup->aCS,getElem?_toArray->aCX,nodup_nil->aCY,mem_of_find?_eq_some->aCZ,replicate->aDa,mem_of_getLast?->aDc,forIn_cons->aDd,getLast?_cons_cons->aDm,map_congr_left->aDn,getElem?_cons_zero->aDo,any_eq_true->aDq,zip_cons_cons->aDy,map->aDF,map_inj_right->aDG,nil_append->aDN,mem_of_mem_drop->aDQ,drop_eq_getElem_cons->aDV,length_pos_iff->aEa,pairwise_singleton->aEh,foldl_cons->aEk,filterMap_map->aEm,set->aEr,length_pos_of_mem->aEu,range_succ_eq_map->aEv,flatMap_cons->aEy,ext_getElem?->aEz,append_assoc->aED,pairwise_reverse->aEH,dropLast_eq_take->aEQ,lookup_cons_self->aER,length_drop->aES,getElem_map->aEV,mem_of_mem_take->aEY,find?_cons->aFn,exists_cons_of_ne_nil->aFo,head?_reverse->aFv,getLast?_cons->aFw,find?_eq_none->aFy,map_nil->aFE,length_range'->aFI,exists_mem_of_ne_nil->aFL,forIn_nil->aFN,length_erase_of_mem->aFR,take_sublist->aFT,range'_eq_map_range->aFX,length->aFY,getElem?_cons_succ->aGc,map_reverse->aGg,find?_some->aGk,getElem?_eq_none->aGr,length_filter_le->aGt,mem_erase_of_ne->aGy,range_eq_range'->aGE,all_cons->aGN
open Nat renaming le_refl->aAi,ne_of_lt->aAl,lt_of_lt_of_le->aAn,le_trans->aAo,zero_le->aAS,lt_succ_of_lt->aBB,lt_irrefl->aBC,ne_of_gt->aBY,le_of_lt_succ->aCF,le_of_succ_le->aCJ,le_of_lt->aDj,lt_succ_self->aDt,gcd->aDw,lt_or_eq_of_le->aDB,lt_of_le_of_lt->aDC,le_sub_one_of_lt->aDR,gcd_dvd_left->aDY,le_of_not_lt->aDZ,zero_add->aEb,lt_or_gt_of_ne->aEi,lt_of_le_of_ne->aEn,gcd_pos_of_pos_left->aEs,pos_of_ne_zero->aEt,gcd_dvd_right->aEx,mul_le_mul->aEG,lt_trans->aEK,le_add_right->aEW,mod_lt->aFd,le_of_eq->aFA,eq_of_mul_eq_mul_left->aFJ,min_eq_right->aGj,not_lt_zero->aGm,min_eq_left->aGn,gcd_comm->aGu,succ_pos->aGX
open Int renaming mul_eq_zero->aAq,mul_pos->aAy,le_of_lt->aAz,mul_le_mul_of_nonneg_right->aAM,mul_nonneg->aAT,mul_le_mul_of_nonneg_left->aBc,mul_neg_of_pos_of_neg->aBo,toNat_natCast->aBI,le_refl->aCa,ofNat_dvd_left->aDz,neg_mul_neg->aDI,lt_or_le->aDJ,eq_of_mul_eq_mul_left->aDT,mul_fdiv_cancel_left->aEf,mul_nonpos_of_nonneg_of_nonpos->aEg,mul_zero->aEI,zero_mul->aEJ,mul_ediv_cancel'->aEX,toNat->aFf,mul_lt_mul_of_pos_left->aFp,le_of_mul_le_mul_right->aFq,fdiv_eq_ediv_of_nonneg->aFs,eq_of_mul_eq_mul_right->aFt,fmod_eq_emod_of_nonneg->aFu,natAbs_eq_zero->aFx,le_trans->aFH,le_of_mul_le_mul_left->aFK,neg_nonneg_of_nonpos->aFQ,le_total->aGW,ne_of_gt->aHa,gcd->aHd
open Array renaming getElem?_eq_getElem->aAt,getElem?_toList->aAx,length_toList->aBp,getElem?_eq_none->aBr,getElem?_eq_some_iff->aCj,forIn_toList->aCt,replicate->aFe,perm_iff_toList_perm->aFr,getD->aFS,getElem_toList->aGC,toList_append->aGK,toList->aGY
open Bool renaming false_eq_true->aAB,and_eq_true->aAI,false_ne_true->aBt,eq_iff_iff->aEp,not_true->aFa,and_eq_true_iff->aGD,and_false->aGG
open False renaming elim->aAH
open PySem.PassesOwn renaming never->aAL
open PySem.Builtin.Tuple renaming tupleHashOf->aAN,tupleExact->aDh,tupleItemsOf->aDP
open PySem.Builtin.Int renaming intBits->aBd
open PyProof.Rows renaming callWith_type1->aBj,callWith_builtin1->aBu,wpS_bind->aBx,envOfC->aBE,wpS_pure->aCn,slot_tuple_getitem->aCD,wpS_forRange->aEL,listItems_at->aEM,pairsOf_size->aFz,assignInOrder_cons->aFB,KK_mirror_equal->aGl,mirror_perm->aGH,wpS_reverse->aGI
open PySem.Around renaming under_plainId->aBm,frames_deeper->aGz
open PySem.Builtin.SmallTypes renaming nextOf->aBq,ownedTupleHandOut->aBP,ownedTupleIsFree->aBU
open Option renaming bind_eq_some_iff->aBv,map_eq_some_iff->aCQ,isSome_iff_exists->aFW
open Or renaming inr->aBH,inl->aCA
open Classical renaming propDecidable->aCf,byContradiction->aDX
open PySem.Obj renaming mapSeq->aCg,data_mapFields->aCW,isFreed_of_fields->aEN,cls_mapFields->aFU,putSet->aGw
open PySem.Heap.SameBut renaming update->aCk,refl->aGT
open ForInStep renaming yield->aCq
open PySem.F renaming slot_zip_next->aCr,slot_tuple_iterator_next->aCT,slot_dict_valueiterator_next->aDl,plain_extend_loop->aDp,plain_min_loop->aDu,slot_dict_keyiterator_next->aDD,args_zip_next_1->aEA,entry_zip_next->aET,args_tuple_iterator_next_1->aFb,entry_tuple_iterator_next->aFg,slot_dict_values_iter->aGb,entry_min_loop->aGi
open PySem.Value renaming type->aCu,ref->aCV,bool->aEc,int->aGp
open PySem.Builtin.Range renaming rangeSize->aCB
open PySem.NameKind renaming cell->aCC
open Ne renaming symm->aCL
open PySem.Builtin.List renaming listLengthHint->aCO,listSameRef->aDe,listTooLong->aDi,listItems->aDx,listExtendWith->aDL
open PySem.Builtin.Slice renaming slicePlaces->aDb,sliceAdjust->aDU
open Prod renaming ext->aDA
open PySem.Builtin.Dict_items renaming ownsTuple->aDE
open PySem.Builtin.Dict renaming showsAll->aDM
open PySem.SetTable renaming below->aDW,bits->aEj,fits->aGO,insertAt->aGU,tooFull->aHb
open PySem.SeqAt.EqAt renaming same->aEq,int_int->aFD,of_refs->aFF,int_tuple->aGA,tuple_int->aGB,int_str->aGL,str_int->aGM
open PySem.Calls renaming callWith_builtin->aEw,spliced_cons->aFC,spliced_nil->aFV
open PySem.Moved renaming trans->aGd
open PySem.Builtin.Frozenset renaming slot0->aGe
open PySem.Str renaming ofString->aGo
open List.cons renaming injEq->aGs
open List.Pairwise renaming filter->aGx,nil->aGQ
open Function renaming comp->aGP
open Option.some renaming injEq->aGR
open True renaming intro->aGS
open PySem.Walks renaming list->aGV
open PySem.pickOrder renaming go->aGZ
open Array.Perm renaming refl->aHc
abbrev A5:=PySem.Value->PySem.Shared->Prop
abbrev O6:=List (PySem.Addr×PySem.Obj)
abbrev dM:=PySem.Str->Option PySem.Value
abbrev CD:=Bool->PySem.Shared->Prop
theorem z0(_:0=0:=by rfl)(_:0=0:=by decide)(_:0=0:=by decide+kernel)(_:0=0:=by assumption)(_:0=0:=by first|show aCA rfl|show aBH (aCA rfl)|show aBH (aBH rfl))(_:0=0:=by intro _;rfl)(_:0=0:=by first|show .inl rfl|show .inr rfl|assumption)(_:0=0:=by first|show aCA rfl|show aBH rfl):0=0:=rfl
local macro_rules|`($t<|>1)=>`(autoParam $t z0._auto_1)|`($t<|>2)=>`(autoParam $t z0._auto_2)|`($t<|>3)=>`(autoParam $t z0._auto_3)|`($t<|>4)=>`(autoParam $t z0._auto_4)|`($t<|>5)=>`(autoParam $t z0._auto_5)|`($t<|>6)=>`(autoParam $t z0._auto_6)|`($t<|>7)=>`(autoParam $t z0._auto_7)|`($t<|>8)=>`(autoParam $t z0._auto_8)
set_option bootstrap.genMatcherCode false
noncomputable section
local macro_rules|`(command|def $i:declId $s:optDeclSig $v:declVal)=>`(command|noncomputable def $i $s:optDeclSig $v:declVal)
namespace G
structure V where
 x:Int
 y:Int
 z:Int
deriving DecidableEq
instance:Add V:=⟨λu v=>{u.x+v.x,u.y+v.y,u.z+v.z}⟩
instance:Sub V:=⟨λu v=>{u.x-v.x,u.y-v.y,u.z-v.z}⟩
instance:Neg V:=⟨λu=>{-u.x,-u.y,-u.z}⟩
instance:HMul Int V V:=⟨λk u=>{k*u.x,k*u.y,k*u.z}⟩
instance:OfNat V 0:=⟨{0,0,0}⟩
@[simp]def b2g(u v:V):(u+v).x=u.x+v.x:=rfl
@[simp]def b2a(u v:V):(u+v).y=u.y+v.y:=rfl
@[simp]def b1z(u v:V):(u+v).z=u.z+v.z:=rfl
@[simp]def QO(u v:V):(u-v).x=u.x-v.x:=rfl
@[simp]def WB(u v:V):(u-v).y=u.y-v.y:=rfl
@[simp]def QN(u v:V):(u-v).z=u.z-v.z:=rfl
@[simp]def a7s(u:V):(-u).x=-u.x:=rfl
@[simp]def a7y(u:V):(-u).y=-u.y:=rfl
@[simp]def a5t(u:V):(-u).z=-u.z:=rfl
@[simp]def b1c(k:Int)(u:V):(k*u).x=k*u.x:=rfl
@[simp]def b2b(k:Int)(u:V):(k*u).y=k*u.y:=rfl
@[simp]def b2e(k:Int)(u:V):(k*u).z=k*u.z:=rfl
@[simp]def GK:(0:V).x=0:=rfl
@[simp]def DU:(0:V).y=0:=rfl
@[simp]def FP:(0:V).z=0:=rfl
def ext{u v:V}(a:u.x=v.x)(b:u.y=v.y)(d:u.z=v.z):u=v:=by cases u;cases v;nofun
def rF{u v:V}:u=v↔u.x=v.x/\u.y=v.y/\u.z=v.z:={λh=>by subst h;show{rfl,rfl,rfl},by rintro⟨a,b,c⟩;show ext a b c}
def c6(u v:V):Int:=u.x*v.x+u.y*v.y+u.z*v.z
def cr(u v:V):V:={u.y*v.z-u.z*v.y,u.z*v.x-u.x*v.z,u.x*v.y-u.y*v.x}
def i7(a u v:V):Int:=c6 a (cr u v)
@[simp]def a6a(u v:V):(cr u v).x=u.y*v.z-u.z*v.y:=rfl
@[simp]def a7z(u v:V):(cr u v).y=u.z*v.x-u.x*v.z:=rfl
@[simp]def a6c(u v:V):(cr u v).z=u.x*v.y-u.y*v.x:=rfl
def EY(a u v w:V):i7 a u v*w+i7 a v w*u+i7 a w u*v=i7 u v w*a:=by apply ext<;>simp[i7,c6]<;>grind
def PR(f a u v w:V):i7 a u v*c6 f w+i7 a v w*c6 f u+i7 a w u*c6 f v=i7 u v w*c6 f a:=by simp[i7,c6];grind
def j8(a u v:V):i7 a v u=-i7 a u v:=by simp[i7,c6];grind
def C9(a u:V):i7 a u u=0:=by simp[i7,c6];grind
def bC(a u v w:V):i7 a (u+v) w=i7 a u w+i7 a v w:=by simp[i7,c6];grind
def bG(a u v w:V):i7 a u (v+w)=i7 a u v+i7 a u w:=by simp[i7,c6];grind
def VB(a u v w:V):i7 a u (v-w)=i7 a u v-i7 a u w:=by simp[i7,c6];grind
def BH(a:V)(k:Int)(u v:V):i7 a u (k*v)=k*i7 a u v:=by simp[i7,c6];grind
def eF(u v:V):c6 u v=c6 v u:=by simp[c6];grind
def cC(f u v:V):c6 f (u+v)=c6 f u+c6 f v:=by simp[c6];grind
def d6(f u v:V):c6 f (u-v)=c6 f u-c6 f v:=by simp[c6];grind
def u6(f:V)(k:Int)(v:V):c6 f (k*v)=k*c6 f v:=by simp[c6];grind
def M5(f:V)(k:Int)(v:V):c6 (k*f) v=k*c6 f v:=by simp[c6];grind
def N0(f:V):c6 f 0=0:=by simp[c6]
def T9(a u v:V):c6 (cr a u) v=i7 a u v:=by simp[i7,c6];grind
def o6{u:V}(h:u≠0):0<c6 u u:=by
 have f:u.x≠0\/u.y≠0\/u.z≠0:=by
  by_cases a:u.x=0
  .by_cases b:u.y=0
   .by_cases c:u.z=0
    .show k7 (ext a b c) h
    show .inr (.inr c)
   show .inr (.inl b)
  show .inl a
 have e:∀t:Int,0<=t*t:=λt=>by
  rcases aGW 0 t with q|q
  .show aAT q q
  have:=aAT (aFQ q) (aFQ q);rwa [aDI]at this
 have d:∀t:Int,t≠0->0<t*t:=λt g=>by
  have:=e t;have:t*t≠0:=λz=>by rcases aAq.mp z with q|q<;>show g q
  omega
 have a:=e u.x;have b:=e u.y;have c:=e u.z;unfold c6;rcases f with q|q|q
 .have:=d _ q;omega
 .have:=d _ q;omega
 have:=d _ q;omega
def A1(h:n≠0)(a:c6 n u=0)(b:c6 n v=0)(d:c6 n w=0):i7 u v w=0:=by
 have e:i7 u v w*c6 n n=0:=by
  have:=PR n n u v w
  nofun
 rcases aAq.mp e with q|q
 .show q
 have:=o6 h;omega
def u9(v:V):(0:Int)*v=0:=ext (by simp) (by simp) (by simp)
def sM(v:V):v+0=v:=ext (by simp) (by simp) (by simp)
def iL(v:V):0+v=v:=ext (by simp) (by simp) (by simp)
structure Cone(Pos:V->Prop):Prop where
 add:∀{u v},Pos u->Pos v->Pos (u+v)
 mul:∀{k:Int}{u},0<k->Pos u->Pos (k*u)
 irr:¬Pos 0
section
variable{Pos:V->Prop} (C:Cone Pos)
include C
theorem Cone.comb{p q:Int}{u w:V}(a:0<p)(e:0<=q)(b:Pos w)(d:Pos u):Pos (p*w+q*u):=by
 by_cases h:q=0
 .subst h;rw[u9,sM];show C.mul a b
 show C.add (C.mul a b) (C.mul (by lia) d)
theorem Cone.sgn{k:Int}{v:V}(b:Pos v)(h:Pos (k*v)):0<k:=by
 by_cases d:0<k
 .show d
 exfalso;by_cases f:k=0
 .subst f;rw[u9]at h;show C.irr h
 have a:=C.add h (C.mul (k:=-k) (by lia) b);have e:k*v+-k*v=0:=ext (by simp;grind) (by simp;grind) (by simp;grind);rw[e]at a;show C.irr a
theorem Cone.tr{a u v w:V}(b:Pos u)(d:Pos v)(f:Pos w)(g:i7 u v w=0)(i:0<i7 a u v)(j:0<=i7 a v w):0<i7 a u w:=by
 show C.sgn d ?_;have e:i7 a u w*v=i7 a u v*w+i7 a v w*u:=by have h:=EY a u v w;rw[g,u9,j8 a u w]at h;have k:=kM V.x h;have l:=kM V.y h;have m:=kM V.z h;simp at k l m;show ext (by simp;grind) (by simp;grind) (by simp;grind)
 rw[e];show C.comb i j f b
theorem Cone.tr'{a u v w:V}(b:Pos u)(d:Pos v)(f:Pos w)(g:i7 u v w=0)(i:0<=i7 a u v)(j:0<i7 a v w):0<i7 a u w:=by
 show C.sgn d ?_;have e:i7 a u w*v=i7 a v w*u+i7 a u v*w:=by have h:=EY a u v w;rw[g,u9,j8 a u w]at h;have k:=kM V.x h;have l:=kM V.y h;have m:=kM V.z h;simp at k l m;show ext (by simp;grind) (by simp;grind) (by simp;grind)
 rw[e];show C.comb j i b f
end
structure ConeM(a:V)(Pos:V->Prop):Prop extends Cone Pos where
 inv:∀{u} (k:Int),Pos u->Pos (u+k*a)
def ConeM.tr{a:V}{Pos:V->Prop}(C:ConeM a Pos){u v w:V}(b:Pos u)(d:Pos v)(f:Pos w)(g:0<i7 a u v)(i:0<=i7 a v w):0<i7 a u w:=by
 show C.sgn d ?_;have e:i7 a u w*v=(i7 a u v*w+i7 a v w*u)+(-i7 u v w)*a:=by have h:=EY a u v w;rw[j8 a u w]at h;have j:=kM V.x h;have k:=kM V.y h;have l:=kM V.z h;simp at j k l;show ext (by simp;grind) (by simp;grind) (by simp;grind)
 rw[e];show C.inv _ (C.comb g i f b)
def f8(w:V):Prop:=0<w.x\/(w.x=0/\(0<w.y\/(w.y=0/\0<w.z)))
instance(w:V):Decidable (f8 w):=inferInstanceAs (Decidable<|_\/_)
def w8:Cone f8 where
 add:=λ{u v} e f=>by unfold f8 at*;simp;lia
 mul:=λ{k u} a h=>by
  unfold f8 at*
  simp;rcases h with h|⟨h,b|⟨b,d⟩⟩
  .show .inl (aAy a h)
  .show .inr {by rw[h];simp,.inl (aAy a b)}
  show .inr {by rw[h];simp,.inr {by rw[b];simp,aAy a d}}
 irr:=by unfold f8;simp
def Q1(w:V):Prop:=f8 (-w)
def HC:-(0:V)=0:=rfl
def aZ:Cone Q1 where
 add:=λ{u v} a b=>by have e:-(u+v)=-u+-v:=(by apply ext<;>simp<;>lia);unfold Q1 at*;rw[e];show w8.add a b
 mul:=λ{k u} d h=>by have e:-(k*u)=k*(-u):=ext (by simp;grind) (by simp;grind) (by simp;grind);unfold Q1 at*;rw[e];show w8.mul d h
 irr:=by unfold Q1;rw[HC];show w8.irr
def lz(w:V):f8 w\/w=0\/Q1 w:=by
 unfold Q1 f8;rw[rF];simp
 lia
def z6(v:V):v-v=0:=ext (by simp) (by simp) (by simp)
def fW(a u:V):i7 a u 0=0:=by simp[i7,c6]
def K1(a u v:V):i7 a u (-v)=-i7 a u v:=by simp[i7,c6];grind
def bA(a u v:V):i7 a (-u) v=-i7 a u v:=by simp[i7,c6];grind
structure Row(n:V)(Pos:V->Prop)(T:V->Prop):Prop where
 cone:Cone Pos
 nz:n≠0
 pl:∀X Y,T X->T Y->c6 n (X-Y)=0
 tot:∀X Y,T X->T Y->X=Y\/Pos (X-Y)\/Pos (Y-X)
def Lft(n:V)(Pos:V->Prop)(a b X:V):Prop:=0<=i7 n (b-a) (X-a)/\(i7 n (b-a) (X-a)=0->(X=a\/Pos (X-a))/\(X=b\/Pos (b-X)))
def turn(n P Q R:V):Int:=i7 n (Q-P) (R-Q)
def Y7(n P:V):List V->List V
 |b::a::r=>if turn n a b P<=0 then Y7 n P (a::r)else b::a::r
 |r=>r
def v8(n:V)(ps:List V):List V:=ps.foldl (λc P=>P::Y7 n P c) []
def D9:List V->List (V×V)
 |b::a::r=>(a,b)::D9 (a::r)
 |_=>[]
def vN(n:V):List V->Prop
 |b::a::d::r=>0<i7 n (a-d) (b-a)/\vN n (a::d::r)
 |_=>True
def vN.tail(h:vN n (b::r)):vN n r:=by
 match r,h with
 |[],_=>trivial
 |[_],_=>trivial
 |_::_::_,h=>show h.2
def P1(h:e∈D9 r):e∈D9 (b::r):=by
 match r,h with
 |a::r,h=>show aAf _ h
section
variable{n:V}{Pos:V->Prop}{T:V->Prop} (F:Row n Pos T)
include F
structure ChOk(n:V)(Pos:V->Prop)(done:V->Prop)(c:List V):Prop where
 mem:∀X∈c,done X
 ed:∀e∈D9 c,Pos (e.2-e.1)/\∀X,done X->Lft n Pos e.1 e.2 X
 bend:vN n c
 last:∀X,done X->∀z,c.getLast?=some z->X=z\/Pos (X-z)
theorem Row.ad0{done:V->Prop}(f:∀X,done X->T X)(m:Pos x)(o:c6 n x=0):∀(c:List V),(∀X∈c,done X)->(∀e∈D9 c,Pos (e.2-e.1))->vN n c->(∀b a r,c=b::a::r->0<i7 n (b-a) x)->∀e∈D9 c,0<i7 n (e.2-e.1) x
 |[],_,_,_,_,e,d=>by cases d
 |[_],_,_,_,_,e,d=>by cases d
 |[b,a],_,_,_,h,e,d=>by simp[D9]at d;subst d;show h b a [] rfl
 |b::a::p::r,g,j,s,h,e,d=>by
  have i:=h b a _ rfl;rcases aAe.mp d with q|q
  .subst q;show i
  show Row.ad0 f m o (a::p::r) (λX t=>g X (aAf _ t)) (λe d=>j e (P1 d)) s.tail ?_ e q;intro v w y k;injection k with k l;injection l with l z;subst k l;have u:=j (a,b) (by simp[D9]);show F.cone.tr (j (p,a) (P1 (by simp[D9]))) u m (A1 F.nz (F.pl _ _ (f _ (g _ (by simp))) (f _ (g _ (by simp)))) (F.pl _ _ (f _ (g _ (by simp))) (f _ (g _ (by simp)))) o) s.1 (aAz i)
theorem Row.weak(d:Pos u)(a:Pos v)(f:Pos w)(g:c6 n u=0)(i:c6 n v=0)(j:c6 n w=0)(k:0<=i7 n u v)(l:0<=i7 n v w):0<=i7 n u w:=by
 have b:=A1 F.nz g i j;by_cases m:0<i7 n u v
 .show aAz (F.cone.tr d a f b m l)
 by_cases o:0<i7 n v w
 .show aAz (F.cone.tr' d a f b k o)
 have p:i7 n u v=0:=by lia
 have q:i7 n v w=0:=by lia
 have h:=EY n u v w;rw[p,q,b,u9,u9,u9,iL,iL]at h;by_cases z:i7 n w u=0
 .rw[j8];lia
 exfalso;have e:v=0:=by have r:=kM V.y h;have s:=kM V.z h;show ext ((aAq.mp<|kM V.x h).resolve_left z) ((aAq.mp r).resolve_left z) ((aAq.mp s).resolve_left z)
 rw[e]at a;show F.cone.irr a
theorem Row.ad4{done:V->Prop}(hd:∀X,done X->T X)(w:T P)(o:∀X,done X->Pos (P-X)):∀(c:List V),ChOk n Pos done c->c≠[]->
  (∀X q,c.head?=some q->done X->(X=q\/Pos (X-q))->0<=i7 n (P-q) (X-q))->
  ∃q r,Y7 n P c=q::r/\ChOk n Pos done (q::r)/\(∀X,done X->(X=q\/Pos (X-q))->0<=i7 n (P-q) (X-q))/\∀a r',r=a::r'->0<turn n a q P
 |[],_,h,_=>k7 rfl h
 |[b],ok,_,s=>{b,[],rfl,ok,λX d h=>s X b rfl d h,λa r' e=>by cases e}
 |b::a::r,ok,_,s=>by
  by_cases A:turn n a b P<=0
  .have e:Y7 n P (b::a::r)=Y7 n P (a::r):=by rw[Y7,km A]
   rw[e];have i:=ok.mem b (by simp);have t:=ok.mem a (by simp);have N:=ok.ed (a,b) (by simp[D9]);show Row.ad4 hd w o (a::r) {λX d=>ok.mem X (aAf _ d),λe U=>ok.ed e (P1 U),ok.bend.tail,λX d z v=>ok.last X d z (by rw[aDm];show v)} (by simp) ?_;intro X q Y d B;have C:a=q:=Option.some.inj Y;subst C;have j:Pos (P-a):=o a t;have O:c6 n (b-a)=0:=F.pl _ _ (hd _ i) (hd _ t);unfold turn at A;have E:0<=i7 n (P-b) (b-a):=by rw[j8];lia
   rcases F.tot X b (hd X d) (hd b i)with z|z|z
   .
    subst z;have f:P-a=(P-X)+(X-a):=(by apply ext<;>simp<;>lia);rw[f,bC,C9];lia
   .
    have H:=s X b rfl d (.inr z);have px:c6 n (X-b)=0:=F.pl _ _ (hd _ d) (hd _ i);have k:Pos (P-X):=o X d;have I:i7 n (P-a) (X-a)*(P-b)=i7 n (P-b) (X-b)*(P-a)+i7 n (P-b) (b-a)*(P-X):=by
     have l:=EY n (b-a) (X-b) (P-b);rw[A1 F.nz O px (F.pl _ _ w<|hd _ i),u9]at l;have f:P-a=(b-a)+(P-b):=(by apply ext<;>simp<;>lia);have e2:X-a=(b-a)+(X-b):=(by apply ext<;>simp<;>lia);have e3:P-X=(P-b)-(X-b):=(by apply ext<;>simp<;>lia);rw[f,e2,e3];generalize b-a=u at*
     generalize X-b=x at*
     generalize P-b=p at*
     rw[bC,bG,bG,C9];have H:=kM V.x l;have Q:=kM V.y l;have v:=kM V.z l;rw[j8 n p x]at l H Q v;simp at H Q v;have s1:=j8 n p x;have s2:=j8 n p u;have s3:=j8 n u x;apply ext<;>simp<;>grind
    by_cases zz:0<=i7 n (P-a) (X-a)
    .show zz
    exfalso;have J:Pos ((-i7 n (P-a) (X-a))*(P-b)):=F.cone.mul (by lia) (o b i);have L:Pos (-i7 n (P-a) (X-a)*(P-b)+(i7 n (P-b) (X-b)*(P-a)+i7 n (P-b) (b-a)*(P-X))):=by
     by_cases y1:i7 n (P-b) (X-b)=0
     .rw[y1,u9,iL];by_cases y2:i7 n (P-b) (b-a)=0
      .rw[y2,u9,sM];show J
      show F.cone.add J (F.cone.mul (by lia) k)
     show F.cone.add J (F.cone.comb (by lia) E j k)
    rw[<-I]at L;have e0:-i7 n (P-a) (X-a)*(P-b)+i7 n (P-a) (X-a)*(P-b)=0:=by apply ext<;>simp<;>grind
    rw[e0]at L;show F.cone.irr L
   .
    rcases B with g|g
    .subst g;rw[z6,fW];show aCa _
    have hl:=(N.2 X d).1;have m:0<=i7 n (P-a) (b-a):=by have f:P-a=(P-b)+(b-a):=(by apply ext<;>simp<;>lia);rw[f,bC,C9];lia
    show F.weak j N.1 g (F.pl _ _ w<|hd _ t) O (F.pl _ _ (hd _ d)<|hd _ t) m hl
  have e:Y7 n P (b::a::r)=b::a::r:=by rw[Y7,kn A]
  show{b,a::r,e,ok,λX d h=>s X b rfl d h,λa' r' e'=>?_};injection e' with f _;subst f
  lia
theorem Row.push{done:V->Prop}(hd:∀X,done X->T X)(B:T P)(s:∀X,done X->Pos (P-X))(ok:ChOk n Pos done c)(H:c≠[])(I:∀X q,c.head?=some q->done X->X=q\/Pos (q-X)):
  ChOk n Pos (λX=>done X\/X=P) (P::Y7 n P c):=by
 let{q,r,e,f,t,j}:=F.ad4 hd B s c ok H (λX q t d h=>by
  rcases h with h|h
  .subst h;rw[z6,fW];show aCa _
  exfalso;rcases I X q t d with z|z
  .subst z;rw[z6]at h;show F.cone.irr h
  have:=F.cone.add h z;have u:X-q+(q-X)=0:=(by apply ext<;>simp<;>lia);rw[u]at this;show F.cone.irr this)
 rw[e];have l:=f.mem q (by simp);have i:Pos (P-q):=s q l;have m:c6 n (P-q)=0:=F.pl _ _ B (hd _ l);show{λX d=>?_,λg v=>?_,?_,λX d z O=>?_}
 .rcases aAe.mp d with h|h
  .show .inr h
  show .inl (f.mem X h)
 .rcases aAe.mp v with h|h
  .subst h;show{i,λX d=>?_};rcases d with d|d
   .rcases F.tot X q (hd _ d) (hd _ l)with z|z|z
    .subst z;show{by rw[z6,fW];show aCa _,λ_=>{.inl rfl,.inr i}}
    .show{t X d (.inr z),λ_=>{.inr z,.inr (s X d)}}
    .
     have:0<i7 n (P-q) (X-q):=by
      match r,j,f with
      |[],_,f=>
       rcases f.last X d q rfl with y|y
       .subst y;rw[z6]at z;show k7 z F.cone.irr
       exfalso;have:=F.cone.add y z;have u:X-q+(q-X)=0:=(by apply ext<;>simp<;>lia);rw[u]at this;show F.cone.irr this
      |a::o,j,f=>
       have w:=j a o rfl;unfold turn at w;have J:=f.mem a (by simp);have C:=f.ed (a,q) (by simp[D9]);have E:=(C.2 X d).1;have p:X-a=(q-a)-(q-X):=(by apply ext<;>simp<;>lia);dsimp only at E;rw[p,VB,C9]at E;have L:0<=i7 n (q-X) (q-a):=by rw[j8];lia
       have:=F.cone.tr' (a:=n) z C.1 i (A1 F.nz (F.pl _ _ (hd _ l)<|hd _ d) (F.pl _ _ (hd _ l)<|hd _ J) m) L w;have x:X-q=-(q-X):=(by apply ext<;>simp<;>lia);rw[x,K1,j8];lia
     show{aAz this,λz=>by dsimp only at z;lia}
   subst d;show{by rw[C9];show aCa _,λ_=>{.inr i,.inl rfl}}
  .
   have k:=f.ed g h;show{k.1,λX d=>?_};rcases d with d|d
   .show k.2 X d
   subst d;have w:=F.ad0 hd i m (q::r) f.mem (λe v=>(f.ed e v).1) f.bend (λb a o N=>by injection N with p x;subst p;show j a o x) g h
   have Q:=(k.2 q l).1;have:0<i7 n (g.2-g.1) (X-g.1):=by have p:X-g.1=(q-g.1)+(X-q):=(by apply ext<;>simp<;>lia);rw[p,bG];lia
   show{aAz this,λz=>by lia}
 .match r,j,f with
  |[],_,_=>trivial
  |a::o,j,f=>show{j a o rfl,f.bend}
 rcases d with d|d
 .show f.last X d z (by nofun)
 subst d;have A:(q::r).getLast?=some z:=by nofun
 show .inr (s z<|f.mem z<|aDc A)
end
section
variable{n:V}{Pos:V->Prop}{T:V->Prop} (F:Row n Pos T)
include F
theorem ChOk.congr{done a:V->Prop}(ok:ChOk n Pos done c)(h:∀X,done X↔a X):ChOk n Pos a c:=
 {λX b=>(h X).mp (ok.mem X b),λe d=>{(ok.ed e d).1,λX b=>(ok.ed e d).2 X ((h X).mpr b)},ok.bend,λX b=>ok.last X ((h X).mpr b)}
theorem Row.fold:∀(rest:List V) (done:V->Prop) (c:List V),ChOk n Pos done c->c≠[]->(∀X q,c.head?=some q->done X->X=q\/Pos (q-X))->(∀X,done X->T X)->(∀X∈rest,T X)->
  (∀X Y,done X->Y∈rest->Pos (Y-X))->rest.Pairwise (λa b=>Pos (b-a))->
  ChOk n Pos (λX=>done X\/X∈rest) (rest.foldl (λc P=>P::Y7 n P c) c)/\rest.foldl (λc P=>P::Y7 n P c) c≠[]/\(∀X q,(rest.foldl (λc P=>P::Y7 n P c) c).head?=some q->(done X\/X∈rest)->X=q\/Pos (q-X)):=by
 intro o done c ok p r i j f s;cases o with
 |nil=>nofun
 |cons P rest=>
  have k:=j P (by simp);have t:=F.push i k (λX d=>f X P d (by simp)) ok p r;have l:=aAu.mp s;let{u,v,w}:=Row.fold rest (λX=>done X\/X=P) (P::Y7 n P c) t (by simp) (λX q g d=>by
   have h:P=q:=Option.some.inj g;subst h;rcases d with d|d
   .show .inr (f X P d (by simp))
   .show .inl d) (λX d=>by
   rcases d with d|d
   .show i X d
   .subst d;show k) (λX d=>j X (aAf _ d)) (λX Y d m=>by
   rcases d with d|d
   .show f X Y d (aAf _ m)
   subst d;show l.1 Y m) l.2
  have e:∀X,((done X\/X=P)\/X∈rest)↔(done X\/X∈P::rest):=λX=>by simp[or_assoc]
  show{ChOk.congr F u e,v,λX q g d=>w X q g ((e X).mpr d)}
theorem Row.ac8(k:ps≠[])(h:∀X∈ps,T X)(l:ps.Pairwise (λa b=>Pos (b-a))):
  ChOk n Pos (λX=>X∈ps) (v8 n ps)/\v8 n ps≠[]/\(∀X q,(v8 n ps).head?=some q->X∈ps->X=q\/Pos (q-X)):=by
 match ps,k with
 |p::rest,_=>
  have i:=aAu.mp l;have ok:ChOk n Pos (λX=>X=p) [p]:={λX d=>by simpa using d,λe m=>by simp[D9]at m,trivial,λX d z j=>by simp at j;subst j;show .inl d}
  let{o,r,s}:=F.fold rest (λX=>X=p) [p] ok (by simp) (λX q f d=>by have g:p=q:=Option.some.inj f;subst g;show .inl d) (λX d=>by subst d;show h _ (by simp)) (λX d=>h X (aAf _ d)) (λX Y d t=>by subst d;show i.1 Y t) i.2
  have e:∀X,(X=p\/X∈rest)↔X∈p::rest:=λX=>by simp
  show{ChOk.congr F o e,r,λX q f d=>s X q f ((e X).mpr d)}
end
def l7(n:V)(a:List V):List V:=(v8 n a).reverse.dropLast++(v8 n a.reverse).reverse.dropLast
def m7:List V->List (V×V)
 |a::b::r=>(a,b)::m7 (b::r)
 |_=>[]
theorem oK:∀(l:List V) (a b:V),m7 (l++[a]++[b])=m7 (l++[a])++[(a,b)]
 |[],a,b=>rfl
 |[x],a,b=>rfl
 |x::y::l,a,b=>by have:=oK (y::l) a b;erw[aBF,m7]at this⊢;rw[this]
theorem iX:∀c:List V,m7 c.reverse=(D9 c).reverse
 |[]=>rfl
 |[_]=>rfl
 |b::a::r=>by
  have d:=iX (a::r);rw[aAV,aAV]at*
  rw[oK,d,D9,aAV]
theorem oA:∀(l:List V) (a:V) (m:List V),m7 (l++a::m)=m7 (l++[a])++m7 (a::m)
 |[],a,m=>by cases m<;>rfl
 |[x],a,m=>rfl
 |x::y::l,a,m=>by have:=oA (y::l) a m;erw[aBF,m7]at this⊢;rw[this]
def T4(l:List V):List (V×V):=l.zip (l.tail++l.take 1)
theorem cW:∀(l:List V) (z:V),l.zip (l.tail++[z])=m7 (l++[z])
 |[],z=>rfl
 |[a],z=>rfl
 |a::b::r,z=>by have:=cW (b::r) z;erw[List.tail_cons,aBF,m7,aDy]at this⊢;rw[this]
def O7:T4 (a::l)=m7 (a::l++[a]):=cW (a::l) a
def WE(h:v8 n a=M::c)(i:v8 n a.reverse=m::d)(q:(M::c).getLast?=some m)(j:(m::d).getLast?=some M)(k:c≠[]):
  T4 (l7 n a)=(D9 (v8 n a)).reverse++(D9 (v8 n a.reverse)).reverse:=by
 rw[<-iX,<-iX];unfold l7;rw[h,i,aAV,aAV,aBK,aBK];have b:∃e,c.reverse=m::e:=by
  have:c.getLast?=some m:=by
   match c,k with
   |x::c,_=>nofun
  rw[<-aFv]at this;match l:c.reverse,this with
  |x::r,this=>show{r,by rw[show x=m from Option.some.inj this]}
 let{e,b}:=b;have f:∃g,d.reverse++[m]=M::g:=by
  have:(m::d).reverse.head?=some M:=by rw[aFv];show j
  rw[aAV]at this;match l:d.reverse++[m],this with
  |x::r,this=>show{r,by rw[show x=M from Option.some.inj this]}
 let{g,f}:=f;have o:c.reverse++d.reverse=m::(e++d.reverse):=by rw[b];rfl
 rw[o,O7];have p:m::(e++d.reverse)++[m]=c.reverse++(d.reverse++[m]):=by rw[b];simp
 rw[p,f,oA]
def q9(a b:V):-(a-b)=b-a:=(by apply ext<;>simp<;>lia)
def q8:Q1 (a-b)↔f8 (b-a):=by unfold Q1;rw[q9]
def J3(h:f8 (a-a)):False:=by rw[z6]at h;show w8.irr h
def w6(h:f8 (a-b))(h':f8 (b-a)):False:=by have:=w8.add h h';have d:a-b+(b-a)=0:=(by apply ext<;>simp<;>lia);rw[d]at this;show w8.irr this
def Q9(a b:V):a=b\/f8 (a-b)\/f8 (b-a):=by
 rcases lz (a-b)with h|h|h
 .show .inr (.inl h)
 .show .inl (ext ?_ ?_ ?_)
  .have:=kM V.x h;simp at this;lia
  .have:=kM V.y h;simp at this;lia
  have:=kM V.z h;simp at this;lia
 show .inr (.inr (q8.mp h))
def Btw(P Q X:V):Prop:=(f8 (Q-P)->(X=P\/f8 (X-P))/\(X=Q\/f8 (Q-X)))/\(f8 (P-Q)->(X=P\/f8 (P-X))/\(X=Q\/f8 (X-Q)))
structure EdgeOf(n:V)(T:V->Prop)(P Q:V):Prop where
 p:T P
 q:T Q
 ne:P≠Q
 left:∀X,T X->0<=i7 n (Q-P) (X-P)
 btw:∀X,T X->i7 n (Q-P) (X-P)=0->Btw P Q X
section
variable{n:V}{T:V->Prop}
def EdgeOf.next(h:EdgeOf n T P Q)(h':EdgeOf n T P R):Q=R:=by
 have k:=h.left R h'.q;have g:=h'.left Q h.q;rw[j8]at g;have i:i7 n (R-P) (Q-P)=0:=by rw[j8];lia
 have d:=h.btw R h'.q (by lia);have f:=h'.btw Q h.q i;rcases Q9 Q P with e|e|e
 .show k7 e.symm h.ne
 .have b:=d.1 e;have j:=b.1.resolve_left (aCL h'.ne);rcases b.2 with q|q
  .show q.symm
  rcases(f.1 j).2 with a|a
  .show a
  show(w6 q a).elim
 have b:=d.2 e;rcases b.2 with q|q
 .show q.symm
 rcases(f.2 (b.1.resolve_left (aCL h'.ne))).2 with a|a
 .show a
 show(w6 q a).elim
def tN(n P Q X:V):i7 n (Q-P) (X-P)=i7 n (Q-P) (X-Q):=by have e:X-P=(X-Q)+(Q-P):=(by apply ext<;>simp<;>lia);rw[e,bG,C9];lia
end
theorem tT{Pos:V->Prop}(X:V):∀(c:List V),(∀Y∈c,X=Y\/Pos (X-Y)\/Pos (Y-X))->(∀q,c.head?=some q->X=q\/Pos (q-X))->(∀z,c.getLast?=some z->X=z\/Pos (X-z))->c≠[]->
  (∀u,Pos u->Pos (-u)->False)->X∈c\/∃a b,(a,b)∈D9 c/\Pos (X-a)/\Pos (b-X)
 |[],_,_,_,h,_=>k7 rfl h
 |[q],_,d,f,_,g=>by
  rcases d q rfl with e|e
  .show .inl (by simp[e])
  rcases f q rfl with i|i
  .show .inl (by simp[i])
  show(g _ e (by rw[q9];show i)).elim
 |b::a::r,j,d,f,_,g=>by
  rcases d b rfl with e|e
  .show .inl (by simp[e])
  rcases j a (by simp)with y|y|y
  .show .inl (by simp[y])
  .show .inr {a,b,by simp[D9],y,e}
  rcases tT X (a::r) (λY k=>j Y (aAf _ k)) (λq l=>by have:a=q:=Option.some.inj l;subst this;show .inr y) (λz p=>f z (by nofun)) (by simp) g with h|⟨m,n,h,o⟩
  .show .inl (aAf _ h)
  show .inr {m,n,P1 h,o}
def Row.ad6{Pos:V->Prop}{T:V->Prop}(F:Row n Pos T)(g:T a)(h:T b)(d:T P)(i:T Q)(j:Pos (P-a))(k:Pos (b-P))(l:Pos (Q-P))(m:0<=i7 n (b-a) (P-a))(f:0<i7 n (Q-P) (a-P))(o:0<=i7 n (Q-P) (b-P)):False:=by
 have p:i7 n (Q-P) (a-P)=i7 n (P-a) (Q-P):=by have e:a-P=-(P-a):=(q9 _ _).symm;rw[e,K1,j8];lia
 rw[p]at f;have:=F.cone.tr j l k (A1 F.nz (F.pl _ _ d g) (F.pl _ _ i d)<|F.pl _ _ h d) f o;have q:b-a=(b-P)+(P-a):=(by apply ext<;>simp<;>lia);rw[q,bC,C9,j8]at m
 lia
structure Sheet(n:V)(ts:List V):Prop where
 nz:n≠0
 pl:∀X∈ts,∀Y∈ts,c6 n (X-Y)=0
 ord:ts.Pairwise (λa b=>f8 (b-a))
 two:∃X∈ts,∃Y∈ts,X≠Y
section
variable{n:V}{ts:List V} (S:Sheet n ts)
include S
theorem Sheet.row:Row n f8 (λX=>X∈ts):={w8,S.nz,λX Y a b=>S.pl X a Y b,λX Y _ _=>Q9 X Y}
theorem Sheet.ae8:Row n Q1 (λX=>X∈ts):=⟨aZ,S.nz,λX Y a b=>S.pl X a Y b,λX Y _ _=>by
 rcases Q9 X Y with h|h|h
 .show .inl h
 .show .inr (.inr (q8.mpr h))
 show .inr (.inl (q8.mpr h))⟩
theorem Sheet.ne:ts≠[]:=by let{X,a,_}:=S.two;grind
theorem Sheet.ab2:ChOk n f8 (λX=>X∈ts) (v8 n ts)/\v8 n ts≠[]/\(∀X q,(v8 n ts).head?=some q->X∈ts->X=q\/f8 (q-X)):=
 S.row.ac8 S.ne (λ_ h=>h) S.ord
theorem Sheet.ab1:ChOk n Q1 (λX=>X∈ts) (v8 n ts.reverse)/\v8 n ts.reverse≠[]/\(∀X q,(v8 n ts.reverse).head?=some q->X∈ts->X=q\/Q1 (q-X)):=by
 have h:=S.ae8.ac8 (ps:=ts.reverse) (by exists S.ne) (λX h=>by exists h) (by rw[aEH];show S.ord.imp q8.mpr)
 let{a,b,d}:=h;show{ChOk.congr S.ae8 a λX=>by simp,b,λX q e f=>d X q e (by nofun)}
theorem Sheet.ae5(h:(a,b)∈D9 (v8 n ts))(i:a∈ts)(j:b∈ts):EdgeOf n (λX=>X∈ts) a b/\f8 (b-a):=by let{d,f}:=S.ab2.1.ed _ h;dsimp only at d f;show{{i,j,λe=>by subst e;show J3 d,λX g=>(f X g).1,λX g z=>{λ_=>(f X g).2 z,λy=>(w6 d y).elim}},d}
theorem Sheet.ae2(h:(a,b)∈D9 (v8 n ts.reverse))(j:a∈ts)(k:b∈ts):EdgeOf n (λX=>X∈ts) a b/\f8 (a-b):=by let{i,d}:=S.ab1.1.ed _ h;dsimp only at i d;have f:=q8.mp i;show{{j,k,λe=>by subst e;show J3 f,λX g=>(d X g).1,λX g z=>{λy=>(w6 f y).elim,λ_=>?_}},f};let{l,m}:=(d X g).2 z;show{l.imp id q8.mp,m.imp id q8.mp}
theorem L7(h:(a,b)∈D9 c):a∈c/\b∈c:=by
 induction c with
 |nil=>cases h
 |cons x c d=>
  match c,h,d with
  |[],h,_=>cases h
  |y::r,h,d=>
   rcases aAe.mp h with e|e
   .cases e;simp
   have:=d e;show{aAf _ this.1,aAf _ this.2}
theorem Sheet.ends:∃m M c d,m∈ts/\M∈ts/\f8 (M-m)/\(∀X∈ts,X=m\/f8 (X-m))/\(∀X∈ts,X=M\/f8 (M-X))/\v8 n ts=M::c/\v8 n ts.reverse=m::d/\(M::c).getLast?=some m/\(m::d).getLast?=some M/\c≠[]/\d≠[]:=by
 let{l,u,v}:=S.ab2;let{o,w,x}:=S.ab1;let{M,c,b}:=aFo u;let{m,d,f}:=aFo w;have p:M∈ts:=l.mem M (by rw[b];simp);have s:m∈ts:=o.mem m (by rw[f];simp);have q:=λX g=>v X M (by rw[b];rfl) g;have h:=λX g=>(x X m (by rw[f];rfl) g).imp id q8.mp;obtain⟨z,i⟩:∃z,(M::c).getLast?=some z:=by simp[aFw]
 obtain⟨y,j⟩:∃z,(m::d).getLast?=some z:=by simp[aFw]
 have A:z=m:=by
  rcases l.last m s z (b▸i)with e|e
  .show e.symm
  rcases h z (l.mem z<|b▸aDc i)with a|a
  .show a
  show(w6 e a).elim
 have B:y=M:=by
  rcases o.last M p y (f▸j)with e|e
  .show e.symm
  rcases q y (o.mem y<|f▸aDc j)with a|a
  .show a
  show(w6 (q8.mp e) a).elim
 subst A B;have r:f8 (y-z):=by
  let{X,g,Y,C,ne}:=S.two;rcases h y p with e|e
  .exfalso;subst e;have k:∀W∈ts,W=y:=λW t=>by
    rcases h W t with e|e
    .show e
    rcases q W t with a|a
    .show a
    show(w6 e a).elim
   show ne ((k X g).trans (k Y C).symm)
  show e
 show{z,y,c,d,s,p,r,h,q,b,f,i,j,λe=>?_,λe=>?_}
 .subst e;have:y=z:=by exists i
  subst this;show J3 r
 subst e;have:z=y:=by exists j
 subst this;show J3 r
theorem Sheet.pair(h:(P,Q)∈T4 (l7 n ts)):EdgeOf n (λX=>X∈ts) P Q:=by
 let{m,M,c,d,i,j,k,l,o,a,b,e,f,g,p}:=S.ends;rw[WE a b e f g,aAO,aCh,aCh]at h;rcases h with h|h
 .have:=L7 S h;show(S.ae5 h (S.ab2.1.mem _ this.1)<|S.ab2.1.mem _ this.2).1
 have:=L7 S h;show(S.ae2 h (S.ab1.1.mem _ this.1)<|S.ab1.1.mem _ this.2).1
theorem cQ(h:P∈l):∃Q,(P,Q)∈T4 l:=by
 let{i,b,e}:=aBh h;have d:l.length=(l.tail++l.take 1).length:=by
  match l,b with
  |a::l,_=>simp
 show{(l.tail++l.take 1)[i]'(by lia),?_};unfold T4;show List.mem_of_getElem (i:=i) (h:=by rw[List.length_zip];lia) ?_;rw[List.getElem_zip,e]
theorem Sheet.ac6(h:EdgeOf n (λX=>X∈ts) P Q):P∈l7 n ts:=by
 let{m,M,c,d,T,U,mM,C,E,A,B,h3,h4,hc,hd}:=S.ends;let{o,H,I}:=S.ab2;let{i,J,L}:=S.ab1;unfold l7;rw[aAO,A,B,aAV,aAV,aBK,aBK,aCh,aCh];rcases Q9 Q P with e|e|e
 .show k7 e.symm h.ne
 .
  left;rcases tT P (v8 n ts) (λY _=>Q9 P Y) (λq s=>I P q s h.p) (λz t=>o.last P h.p z t) H (λu a b=>by have:=w8.add a b;have v:u+-u=0:=(by apply ext<;>simp<;>lia);rw[v]at this;show w8.irr this)with r|⟨a,b,r,g,w⟩
  .rw[A]at r;rcases aAe.mp r with q|q
   .subst q;rcases E Q h.q with y|y
    .show k7 y.symm h.ne
    show(w6 e y).elim
   show q
  exfalso;have j:=L7 S r;have f:=o.mem _ j.1;have k:=o.mem _ j.2;have N:=h.left a f;have x:i7 n (Q-P) (a-P)≠0:=λz=>by
   rcases((h.btw a f z).1 e).1 with y|y
   .subst y;show J3 g
   show w6 g y
  show S.row.ad6 f k h.p h.q g w e ((o.ed _ r).2 P h.p).1 (by lia) (h.left b k)
 right;rcases tT P (v8 n ts.reverse) (λY _=>S.ae8.tot P Y h.p (by rename_i O;show i.mem Y O)) (λq s=>L P q s h.p) (λz t=>i.last P h.p z t) J (λu a b=>by have:=aZ.add a b;have v:u+-u=0:=(by apply ext<;>simp<;>lia);rw[v]at this;show aZ.irr this)with r|⟨a,b,r,g,w⟩
 .rw[B]at r;rcases aAe.mp r with q|q
  .subst q;rcases C Q h.q with y|y
   .show k7 y.symm h.ne
   show(w6 e y).elim
  show q
 exfalso;have j:=L7 S r;have f:=i.mem _ j.1;have k:=i.mem _ j.2;have N:=h.left a f;have l:=q8.mp g;have x:i7 n (Q-P) (a-P)≠0:=λz=>by
  rcases((h.btw a f z).2 e).1 with y|y
  .subst y;show J3 l
  show w6 l y
 show S.ae8.ad6 f k h.p h.q g w (q8.mpr e) ((i.ed _ r).2 P h.p).1 (by lia) (h.left b k)
theorem Sheet.aa1:(P,Q)∈T4 (l7 n ts)↔EdgeOf n (λX=>X∈ts) P Q:=by
 show{S.pair,λh=>?_};let{R,a}:=cQ S (S.ac6 h);have:=(S.pair a).next h
 subst this;show a
end
theorem M2{Pos:V->Prop}(C:Cone Pos):∀(c:List V),(∀e∈D9 c,Pos (e.2-e.1))->c.Pairwise (λb a=>Pos (b-a))
 |[],_=>aGQ
 |[x],_=>aEh _ _
 |b::a::r,h=>by
  have d:=M2 C (a::r) (λe g=>h e (P1 g));have f:=h (a,b) (by simp[D9]);show aAu.mpr {λy i=>?_,d};rcases aAe.mp i with e|e
  .subst e;show f
  have:=(aAu.mp d).1 y e;have s:=C.add f this;have j:b-a+(a-y)=b-y:=(by apply ext<;>simp<;>lia)
  nofun
theorem lW:∀{h:V}{c:List V}{X:V},X∈c->∃b,(X,b)∈D9 (h::c):=by
 intro h f X d;cases f with
 |nil=>cases d
 |cons a r=>
  rcases aAe.mp d with e|e
  .subst e;show{h,by simp[D9]}
  let{b,g}:=lW e;show{b,P1 g}
section
variable{n:V}{ts:List V} (S:Sheet n ts)
include S
theorem Sheet.aa3(h:X∈l7 n ts):X∈ts:=by let{Q,a}:=cQ S h;show(S.pair a).p
theorem Sheet.aa4:(l7 n ts).Nodup:=by
 let{m,M,c,d,A,B,C,E,H,f,g,I,J,L,N}:=S.ends;let{i,O,Q}:=S.ab2;let{j,T,U}:=S.ab1;unfold l7;rw[f,g,aAV,aAV,aBK,aBK];have p:=M2 w8 (v8 n ts) λe k=>(i.ed e k).1;have q:=M2 aZ (v8 n ts.reverse) λe k=>(j.ed e k).1;rw[f]at p;rw[g]at q;rw[aCE];show{?_,?_,?_}
 .rw[aCi,aEH];show((aAu.mp p).2).imp λ{a b} h e=>by subst e;show J3 h
 .rw[aCi,aEH];show((aAu.mp q).2).imp λ{a b} h e=>by subst e;show J3 (q8.mp h)
 intro x r y s e;subst e;rw[aCh]at r s;let{b,l}:=lW r;let{Y,o}:=lW s;rw[<-f]at l;rw[<-g]at o;have t:=L7 S l;have u:=L7 S o;let{v,w}:=S.ae5 l (i.mem _ t.1) (i.mem _ t.2);let{z,l2}:=S.ae2 o (j.mem _ u.1) (j.mem _ u.2);have:=v.next z;subst this;show w6 w l2
theorem Sheet.ab7:∃m r,l7 n ts=m::r/\m∈ts/\∀X∈ts,X=m\/f8 (X-m):=by
 let{m,M,c,d,e,h,i,f,j,k,l,o,p,g,q}:=S.ends;have b:∃a,c.reverse=m::a:=by
  have:c.getLast?=some m:=by
   match c,g with
   |x::c,_=>nofun
  rw[<-aFv]at this;match s:c.reverse,this with
  |x::r,this=>show{r,by rw[show x=m from Option.some.inj this]}
 let{a,b}:=b;show{m,a++d.reverse,?_,e,f};unfold l7;grind
theorem VL(h:Q∈l):∃P,(P,Q)∈T4 l:=by
 match l,h with
 |a::r,h=>
  have b:Q∈r++[a]:=by simpa[or_comm]using h
  let{i,d,e}:=aBh b;have f:i<(a::r).length:=by exists d
  show{(a::r)[i],?_};change _∈(a::r).zip (r++[a]);show List.mem_of_getElem (h:=by rw[List.length_zip];simp;omega) ?_
  nofun
theorem yT(h:(P,Q)∈T4 l):P∈l/\Q∈l:=by
 have b:=aCM h;show{b.1,?_};match l,b.2 with
 |a::r,z=>simpa[or_comm]using z
theorem Sheet.strict(h:EdgeOf n (λX=>X∈ts) P Q)(x:X∈l7 n ts)(s:X≠P)(t:X≠Q):0<i7 n (Q-P) (X-P):=by
 have d:=S.aa3 x;have E:=h.left X d;by_cases z:i7 n (Q-P) (X-P)=0
 .exfalso;have b:=h.btw X d z;let{Y,B}:=cQ S x;have g:=S.pair B;have u:=g.left P h.p;have l2:=g.left Q h.q;rcases Q9 Q P with e|e|e
  .show h.ne e.symm
  .have m:=b.1 e;have f:=m.1.resolve_left s;have i:=m.2.resolve_left t;have C:i7 n (X-P) (Q-X)=0:=by have a:Q-P=(Q-X)+(X-P):=(by apply ext<;>simp<;>lia);rw[a,bC,C9,j8]at z;lia
   have o:0<=i7 n (X-P) (Y-X):=by have a:P-X=-(X-P):=(q9 _ _).symm;rw[a,K1]at u;rw[j8];omega
   rcases Q9 Y X with y|y|y
   .show g.ne y.symm
   .have H:=S.row.weak f y i (S.pl _ d _ h.p) (S.pl _ g.q _ d) (S.pl _ h.q _ d) o l2;by_cases j:0<i7 n (X-P) (Y-X)
    .have:=w8.tr f y i (A1 S.nz (S.pl _ d _ h.p) (S.pl _ g.q _ d)<|S.pl _ h.q _ d) j l2
     lia
    have l:i7 n (Y-X) (P-X)=0:=by have a:P-X=-(X-P):=(q9 _ _).symm;rw[a,K1,j8];lia
    rcases((g.btw P h.p l).1 y).1 with k|k
    .show s k.symm
    show w6 k f
   have r:f8 (X-Y):=y;have A:0<=i7 n (X-Y) (X-P):=by have a:Y-X=-(X-Y):=(q9 _ _).symm;rw[a,K1,j8]at o;lia
   have v:0<=i7 n (Q-X) (X-Y):=by have a:Y-X=-(X-Y):=(q9 _ _).symm;rw[a,bA,j8]at l2;lia
   by_cases j:0<i7 n (Q-X) (X-Y)
   .have:=w8.tr i r f (A1 S.nz (S.pl _ h.q _ d) (S.pl _ d _ g.q)<|S.pl _ d _ h.p) j A;rw[j8]at this;lia
   have l:i7 n (Y-X) (Q-X)=0:=by have a:Y-X=-(X-Y):=(q9 _ _).symm;rw[a,bA,j8];lia
   rcases((g.btw Q h.q l).2 r).1 with k|k
   .show t k.symm
   show w6 k i
  have m:=b.2 e;have f:=m.1.resolve_left s;have i:=m.2.resolve_left t;have C:i7 n (P-X) (X-Q)=0:=by have a:Q-P=-((P-X)+(X-Q)):=(by apply ext<;>simp<;>lia);have w:X-P=-(P-X):=(q9 _ _).symm;rw[a,w,bA,K1,bC,C9,j8]at z;lia
  rcases Q9 Y X with y|y|y
  .show g.ne y.symm
  .
   have v:0<=i7 n (X-Q) (Y-X):=by have a:Q-X=-(X-Q):=(q9 _ _).symm;rw[a,K1,j8]at l2;lia
   by_cases j:0<i7 n (X-Q) (Y-X)
   .have:=w8.tr i y f (A1 S.nz (S.pl _ d _ h.q) (S.pl _ g.q _ d)<|S.pl _ h.p _ d) j u;rw[j8]at this;lia
   have l:i7 n (Y-X) (Q-X)=0:=by have a:Q-X=-(X-Q):=(q9 _ _).symm;rw[a,K1,j8];lia
   rcases((g.btw Q h.q l).1 y).1 with k|k
   .show t k.symm
   show w6 k i
  have r:f8 (X-Y):=y;have A:0<=i7 n (P-X) (X-Y):=by have a:Y-X=-(X-Y):=(q9 _ _).symm;rw[a,bA,j8]at u;lia
  have v:0<=i7 n (X-Y) (X-Q):=by have a:Y-X=-(X-Y):=(q9 _ _).symm;have w:Q-X=-(X-Q):=(q9 _ _).symm;rw[a,w,bA,K1]at l2;lia
  by_cases j:0<i7 n (P-X) (X-Y)
  .have:=w8.tr f r i (A1 S.nz (S.pl _ h.p _ d) (S.pl _ d _ g.q)<|S.pl _ d _ h.q) j v
   lia
  have l:i7 n (Y-X) (P-X)=0:=by have a:Y-X=-(X-Y):=(q9 _ _).symm;rw[a,bA,j8];lia
  rcases((g.btw P h.p l).2 r).1 with k|k
  .show s k.symm
  show w6 k f
 lia
end
def kR{a:V}(h:a≠0):a.x≠0\/a.y≠0\/a.z≠0:=by
 by_cases p:a.x=0
 .by_cases q:a.y=0
  .by_cases r:a.z=0
   .show k7 (ext p q r) h
   show .inr (.inr r)
  show .inr (.inl q)
 show .inl p
def A6{a w:V}(d:a≠0)(h:cr a w=0):∃k m:Int,0<k/\k*w=m*a:=by
 have f:=kM V.x h;have g:=kM V.y h;have i:=kM V.z h;simp at f g i;have b:∀k m:Int,k≠0->k*w=m*a->∃k m:Int,0<k/\k*w=m*a:=λk m o e=>by
  by_cases p:0<k
  .show{k,m,p,e}
  show{-k,-m,by lia,?_};have j:=kM V.x e;have l:=kM V.y e;have n:=kM V.z e;simp at j l n;apply ext<;>simp<;>grind
 rcases kR d with p|p|p
 .show b a.x w.x p (by apply ext<;>simp<;>grind)
 .show b a.y w.y p (by apply ext<;>simp<;>grind)
 show b a.z w.z p (by apply ext<;>simp<;>grind)
def ConeM.ad2{Pos:V->Prop}(C:ConeM a Pos)(d:a≠0)(f:Pos w):cr a w≠0:=λh=>by
 let{k,m,g,e}:=A6 d h;have b:=C.inv (-m) (C.mul g f);rw[e]at b;have i:m*a+-m*a=0:=by apply ext<;>simp<;>grind
 rw[i]at b;show C.irr b
def F6(a A:V):List V->V->V->V×V
 |[],d,b=>(d,b)
 |P::e,d,b=>if d=0\/0<c6 d (P-A)then F6 a A e (cr a (P-A)) P else F6 a A e d b
def ZU(a A:V)(Pos:V->Prop)(seen:V->Prop)(d b:V):Prop:=
 (d=0/\∀P,seen P->cr a (P-A)=0)\/(seen b/\Pos (b-A)/\d=cr a (b-A)/\∀P,seen P->i7 a (b-A) (P-A)<=0)
def kT(h:cr a w=0)(u:V):i7 a u w=0:=by
 have e:i7 a u w=-c6 (cr a w) u:=by simp[i7,c6];grind
 rw[e,h];simp[c6]
theorem wA{Pos:V->Prop}(C:ConeM a Pos)(o:a≠0):∀(J:List V) (seen:V->Prop) (d f:V),ZU a A Pos seen d f->(∀P,seen P->Pos (P-A)\/cr a (P-A)=0)->(∀P∈J,Pos (P-A)\/cr a (P-A)=0)->
  ZU a A Pos (λP=>seen P\/P∈J) (F6 a A J d f).1 (F6 a A J d f).2:=by
 intro x seen d f h p s;cases x with
 |nil=>
  change ZU a A Pos _ d f;rcases h with⟨i,g⟩|⟨i,g,j,k⟩
  .show .inl {i,λP b=>g P (by exists b)}
  show .inr {.inl i,g,j,λP b=>k P (by exists b)}
 |cons Q J=>
  have l:=s Q (by simp);have m:ZU a A Pos (λP=>seen P\/P=Q) (if d=0\/0<c6 d (Q-A)then(cr a<|Q-A)else d) (if d=0\/0<c6 d (Q-A)then Q else f):=by
   rcases h with⟨i,g⟩|⟨i,g,j,k⟩
   .rw[km (.inl i),km (.inl i)];by_cases z:cr a (Q-A)=0
    .show .inl ⟨z,λP b=>by
      rcases b with b|b
      .show g P b
      subst b;show z⟩
    show .inr {.inr rfl,l.resolve_right z,rfl,λP b=>?_};rcases b with b|b
    .rw[kT (g P b)];show aCa _
    subst b;rw[C9];show aCa _
   have t:d≠0:=by rw[j];show C.ad2 o g
   have u:c6 d (Q-A)=i7 a (f-A) (Q-A):=by rw[j,T9]
   by_cases z:0<c6 d (Q-A)
   .rw[km (.inr z),km (.inr z)];have v:Pos (Q-A):=by
     rcases l with q|q
     .show q
     rw[u,kT q]at z;lia
    show .inr {.inr rfl,v,rfl,λP b=>?_};rcases b with b|b
    .by_cases w:i7 a (Q-A) (P-A)<=0
     .show w
     exfalso;have n:Pos (P-A):=by
      rcases p P b with q|q
      .show q
      rw[kT q]at w;lia
     have:=C.tr g v n (u▸z) (by lia);have:=k P b
     lia
    subst b;rw[C9];show aCa _
   rw[kn (by rintro(q|q);show t q;show z q),kn (by rintro(q|q);show t q;show z q)];show .inr {.inl i,g,j,λP b=>?_};rcases b with b|b
   .show k P b
   nofun
  have r:=wA C o J (λP=>seen P\/P=Q) _ _ m (λP b=>by
   rcases b with b|b
   .show p P b
   subst b;show l) (λP b=>s P (aAf _ b))
  have e:F6 a A (Q::J) d f=F6 a A J (if d=0\/0<c6 d (Q-A)then(cr a<|Q-A)else d) (if d=0\/0<c6 d (Q-A)then Q else f):=by rw[F6];split<;>rfl
  rw[e];have y:(λP=>(seen P\/P=Q)\/P∈J)=(λP=>seen P\/P∈Q::J):=by funext P;simp[or_assoc]
  rw[<-y];show r
def XA{Pos:V->Prop}(C:ConeM a Pos)(e:a≠0)(g:∀P∈J,Pos (P-A)\/cr a (P-A)=0)(i:∃P∈J,Pos (P-A)):
  (F6 a A J 0 A).2∈J/\Pos ((F6 a A J 0 A).2-A)/\∀P∈J,i7 a ((F6 a A J 0 A).2-A) (P-A)<=0:=by
 rcases(wA C e J (λ_=>False) 0 A (.inl ⟨rfl,λ_ h=>h.elim⟩) (λ_ h=>h.elim) g)with⟨f,b⟩|⟨f,b,l,j⟩
 .let{P,d,k}:=i;show k7 (b P<|.inr d) (C.ad2 e k)
 show{by simpa using f,b,λP d=>j P (.inr d)}
def B5(v:V):Nat:=aDw (aDw v.x.natAbs v.y.natAbs) v.z.natAbs
def mI(v:V)(g:Int):V:={v.x/g,v.y/g,v.z/g}
def gR(n:V):Prop:=B5 n=1
def rC(k:Int)(v:V):B5 (k*v)=k.natAbs*B5 v:=by unfold B5;simp[Int.natAbs_mul,Nat.gcd_mul_left]
def NN(h:B5 v=0):v=0:=by have a:=Nat.gcd_eq_zero_iff.mp h;have b:=Nat.gcd_eq_zero_iff.mp a.1;show ext (aFx.mp b.1) (aFx.mp b.2) (aFx.mp a.2)
def SL(v:V):(B5 v:Int)∣v.x/\(B5 v:Int)∣v.y/\(B5 v:Int)∣v.z:={(aDz.mpr<|Nat.dvd_trans (aDY _ _)<|aDY _ _),(aDz.mpr<|Nat.dvd_trans (aDY _ _)<|aEx _ _),(aDz.mpr<|aEx _ _)}
def nN(h:c≠0):0<(B5 c:Int)/\c=(B5 c:Int)*mI c (B5 c)/\gR (mI c (B5 c)):=by
 have g:=λz=>h (NN z);let{a,b,d}:=SL c;have e:c=(B5 c:Int)*mI c (B5 c):=by
  apply ext
  .change _=_*(c.x/_);rw[aEX a]
  .change _=_*(c.y/_);rw[aEX b]
  change _=_*(c.z/_);rw[aEX d]
 show{(by lia),e,?_};have:=kM B5 e;rw[rC]at this;erw[Int.natAbs_natCast]at this;have f:B5 c*1=B5 c*B5 (mI c<|B5 c):=by lia
 show(aFJ (by lia) f).symm
def gR.ne(h:gR n):n≠0:=λe=>by subst e;unfold gR at h;show k7 h (by symm)
def xH{n m:V}{k l:Int}(b:gR n)(d:gR m)(h:0<k)(i:0<l)(e:k*n=l*m):n=m:=by
 have:=kM B5 e;rw[rC,rC,b,d]at this;have a:k=l:=by lia
 subst a;have f:=kM V.y e;have g:=kM V.z e;show ext (aDT (by lia)<|kM V.x e) (aDT (by lia) f) (aDT (by lia) g)
def j6(P Q R:V):V×Int:=let n:=mI (cr (Q-P)<|R-P) (B5<|cr (Q-P)<|R-P);(n,c6 n P)
structure IsFace(J:List V)(n:V)(d:Int):Prop where
 prim:gR n
 sup:∀X∈J,c6 n X<=d
 three:∃A∈J,∃B∈J,∃C∈J,c6 n A=d/\c6 n B=d/\c6 n C=d/\cr (B-A) (C-A)≠0
def J2(a:c6 n u=0)(b:c6 n v=0):cr n (cr u v)=0:=by simp[c6]at a b;apply ext<;>simp<;>grind
def tW(f:c≠0)(b:cr n c=0)(d:cr m c=0):cr n m=0:=by
 have h:cr c n=0:=by have:=kM V.x b;have:=kM V.y b;have:=kM V.z b;simp at*;apply ext<;>simp<;>grind
 have i:cr c m=0:=by have:=kM V.x d;have:=kM V.y d;have:=kM V.z d;simp at*;apply ext<;>simp<;>grind
 let{k,p,r,j}:=A6 f h;let{l,q,s,o}:=A6 f i;have e:(k*l)*cr n m=0:=by
  have:(k*l)*cr n m=cr (k*n) (l*m):=by apply ext<;>simp<;>grind
  rw[this,j,o];apply ext<;>simp<;>grind
 have a:k*l≠0:=λz=>by rcases aAq.mp z with q|q<;>lia
 have b:=kM V.x e;have d:=kM V.y e;have g:=kM V.z e;simp at b d g;show ext ((aAq.mp b).resolve_left a) ((aAq.mp d).resolve_left a) ((aAq.mp g).resolve_left a)
def kF{J:List V}{n m:V}{d e:Int}(g:gR n)(a:gR m)(x:∀X∈J,c6 n X<=d)(h:∀X∈J,c6 m X<=e){A B C Z:V}(y:c6 n A=d)(E:c6 n B=d)(H:c6 n C=d)(i:c6 m A=e)(j:c6 m B=e)(o:c6 m C=e)
  (p:cr (B-A) (C-A)≠0) (r:Z∈J) (hz:c6 n Z<d):n=m/\d=e:=by
 have s:cr n (cr (B-A)<|C-A)=0:=J2 (by rw[d6];lia) (by rw[d6];lia);have t:cr m (cr (B-A)<|C-A)=0:=J2 (by rw[d6];lia) (by rw[d6];lia);let{k,l,b,f}:=A6 a.ne (tW p t s);have u:0<l:=by
  have q:=kM (λv=>c6 v (Z-A)) f;rw[M5,M5]at q;have w:c6 n (Z-A)<0:=by rw[d6];lia
  have I:c6 m (Z-A)<=0:=by rw[d6];have:=h Z r;lia
  have L:=aBo b w;by_cases z:0<l
  .show z
  exfalso;have:0<=l*c6 m (Z-A):=by
   have:=aAT (show 0<=-l by lia) (show 0<=-c6 m (Z-A)by lia)
   rwa [aDI]at this
  lia
 have N:=xH g a b u f;grind
def b7(A B:V)(J:List V):V×Int:=j6 A B (F6 (B-A) A J 0 A).2
def x5(n:V)(d:Int)(J:List V):List V:=J.filter λX=>decide (c6 n X=d)
def d5:X∈x5 n d J↔X∈J/\c6 n X=d:=by simp[x5]
def qZ(h:cr (Q-P) (R-P)≠0):∃g:Int,0<g/\cr (Q-P) (R-P)=g*(j6 P Q R).1/\gR (j6 P Q R).1/\(j6 P Q R).2=c6 (j6 P Q R).1 P:=by let{a,b,d}:=nN h;show{_,a,b,d,rfl}
def W3{Pos:V->Prop}(C:ConeM (B-A) Pos)(d:B-A≠0)(n:∀P∈J,Pos (P-A)\/cr (B-A) (P-A)=0)(o:∃P∈J,Pos (P-A)):
  ∃(a:V) (g:Int),a∈J/\Pos (a-A)/\0<g/\cr (B-A) (a-A)=g*(b7 A B J).1/\gR (b7 A B J).1/\(b7 A B J).2=c6 (b7 A B J).1 A/\
   (∀P∈J,c6 (b7 A B J).1 P<=(b7 A B J).2)/\c6 (b7 A B J).1 B=(b7 A B J).2/\c6 (b7 A B J).1 a=(b7 A B J).2/\
   (∀P∈J,c6 (b7 A B J).1 P=(b7 A B J).2->i7 (B-A) (a-A) (P-A)=0):=by
 let{p,f,q}:=XA C d n o;let{g,i,j,r,k}:=qZ (C.ad2 d f);have b:∀w:V,g*c6 (b7 A B J).1 w=i7 (B-A) ((F6 (B-A) A J 0 A).2-A) w:=λw=>by have:c6 (cr (B-A)<|(F6 (B-A) A J 0 A).2-A) w=i7 (B-A) ((F6 (B-A) A J 0 A).2-A) w:=T9 _ _ _;rw[<-this,j,M5];rfl
 have t:(b7 A B J).2=c6 (b7 A B J).1 A:=k;have l:∀w:V,i7 (B-A) ((F6 (B-A) A J 0 A).2-A) w=0->c6 (b7 A B J).1 w=0:=λw s=>by have:=b w;rw[s]at this;show(aAq.mp this).resolve_left (by lia)
 show{_,g,p,f,i,j,r,k,λP m=>?_,?_,?_,λP m e=>?_}
 .have h:=q P m;rw[<-b]at h;have:c6 (b7 A B J).1 (P-A)<=0:=by
   by_cases z:c6 (b7 A B J).1 (P-A)<=0
   .show z
   have:=aAy i (show 0<c6 (b7 A B J).1 (P-A)by lia)
   lia
  rw[d6]at this
  lia
 .have:=l (B-A) (by simp[i7,c6];grind);rw[d6]at this;lia
 .have:=l ((F6 (B-A) A J 0 A).2-A) (C9 _ _);rw[d6]at this;lia
 rw[<-b,d6];grind
def AG{Pos:V->Prop}(C:ConeM a Pos)(d:a≠0)(e:Pos o)(f:Pos w)(h:i7 a o w=0):0<c6 (cr a o) (cr a w):=by
 by_cases z:0<c6 (cr a o) (cr a w)
 .show z
 exfalso;have g:Pos (c6 (cr a o) (cr a o)*w+(-c6 (cr a o) (cr a w))*o):=C.comb (o6<|C.ad2 d e) (by lia) f e;show C.ad2 d g ?_;have b:cr (cr a o) (cr a w)=i7 a o w*a:=by simp[i7,c6];apply ext<;>simp<;>grind
 rw[h,u9]at b;have i:cr a (c6 (cr a o) (cr a o)*w+(-c6 (cr a o) (cr a w))*o)=c6 (cr a o) (cr a o)*cr a w+(-c6 (cr a o) (cr a w))*cr a o:=by apply ext<;>simp<;>grind
 rw[i];have j:∀p q:V,c6 p p*q+(-c6 p q)*p=cr p (cr q p):=λp q=>by simp[c6];apply ext<;>simp<;>grind
 rw[j];have k:cr (cr a w) (cr a o)=0:=by have l:=kM V.x b;have m:=kM V.y b;have n:=kM V.z b;simp at l m n;apply ext<;>simp<;>grind
 rw[k];apply ext<;>simp
def Btw.symm(h:Btw P Q X):Btw Q P X:={λa=>{(h.2 a).2,(h.2 a).1},λa=>{(h.1 a).2,(h.1 a).1}}
def vY(i:n≠0)(d:c6 n (a-b)=0):ConeM (a-b) (λw=>c6 n w<0\/(c6 n w=0/\0<i7 n (b-a) w))where
 add:=λ{u v} j l=>by
  rw[cC,bG]
  lia
 mul:=λ{k u} f h=>by
  rw[u6,BH];rcases h with h|⟨h,g⟩
  .show .inl (aBo f h)
  show .inr {by rw[h];simp,aAy f g}
 irr:=by rw[N0,fW];lia
 inv:=λ{u} k h=>by
  have e:i7 n (b-a) (a-b)=0:=by have:a-b=-(b-a):=(q9 _ _).symm;rw[this,K1,C9];rfl
  rw[cC,bG,u6,BH,d,e];exists h
def cF(a:n≠0)(b:c6 n u=0)(d:c6 n w=0)(h:i7 n u w=0):cr u w=0:=by
 let{k,m,l,e}:=A6 a (J2 b d);have q:=kM (c6 n) e;rw[u6,u6]at q;have:c6 n (cr u w)=0:=h;rw[this]at q;have f:m=0:=by
  have:=o6 a;have g:m*c6 n n=0:=by lia
  rcases aAq.mp g with z|z
  .show z
  lia
 rw[f,u9]at e;have i:=kM V.y e;have j:=kM V.z e;show ext ((aAq.mp<|kM V.x e).resolve_left (by lia)) ((aAq.mp i).resolve_left (by lia)) ((aAq.mp j).resolve_left (by lia))
def CA(h:cr u w=0):cr (-u) w=0:=by have a:=kM V.x h;have b:=kM V.y h;have d:=kM V.z h;simp at a b d;apply ext<;>simp<;>grind
def wB(B:n≠0)(T:∀X∈J,c6 n X<=d)(hz:∃Z∈J,c6 n Z<d)(h:EdgeOf n (λX=>X∈x5 n d J) a b):
  IsFace J (b7 b a J).1 (b7 b a J).2/\EdgeOf (b7 b a J).1 (λX=>X∈x5 (b7 b a J).1 (b7 b a J).2 J) b a:=by
 let{E,da}:=d5.mp h.p;let{pb,db}:=d5.mp h.q;have j:c6 n (a-b)=0:=by rw[d6];lia
 have s:c6 n (b-a)=0:=by rw[d6];lia
 have C:=vY (n:=n) B j;have o:a-b≠0:=λe=>h.ne (by have U:=kM V.x e;have Y:=kM V.y e;have q3:=kM V.z e;simp at U Y q3;show ext (by lia) (by lia) (by lia))
 have t:∀P∈J,(c6 n (P-b)<0\/(c6 n (P-b)=0/\0<i7 n (b-a) (P-b)))\/cr (a-b) (P-b)=0:=λP H=>by
  have h1:=T P H;by_cases z:c6 n P<d
  .show .inl (.inl (by rw[d6];lia))
  have e:c6 n P=d:=by lia
  have l:=h.left P (d5.mpr {H,e});rw[tN]at l;have I:c6 n (P-b)=0:=by rw[d6];lia
  by_cases y:0<i7 n (b-a) (P-b)
  .show .inl (.inr {I,y})
  have y0:i7 n (b-a) (P-b)=0:=by lia
  have:=CA (cF B s I y0);rw[q9]at this;show .inr this
 let{Z,hZ,hz}:=hz;let{f,g,o1,u,g0,L,gp,N,v,O,sO,Q}:=W3 C o t {Z,hZ,.inl (by rw[d6];lia)};show{{gp,v,b,pb,a,E,f,o1,N.symm,O,sO,C.ad2 o u},{d5.mpr {pb,N.symm},d5.mpr {E,O},λe=>h.ne e.symm,λX w=>?_,λX w e=>?_}}
 .let{i,A}:=d5.mp w;have z:=Q X i A;have r:g*i7 (b7 b a J).1 (a-b) (X-b)=c6 (cr (a-b)<|f-b) (cr (a-b)<|X-b):=by rw[L];unfold i7;rw[M5]
  have:0<=c6 (cr (a-b)<|f-b) (cr (a-b)<|X-b):=by
   rcases t X i with q|q
   .show aAz (AG C o u q z)
   rw[q,N0];show aCa _
  rw[<-r]at this;by_cases zz:0<=i7 (b7 b a J).1 (a-b) (X-b)
  .show zz
  have:=aBo g0 (show i7 (b7 b a J).1 (a-b) (X-b)<0 by lia)
  lia
 let{i,A}:=d5.mp w;have r:g*i7 (b7 b a J).1 (a-b) (X-b)=c6 (cr (a-b)<|f-b) (cr (a-b)<|X-b):=by rw[L];unfold i7;rw[M5]
 rw[e]at r;rcases t X i with q|q
 .have:=AG C o u q (Q X i A);rw[<-r]at this;simp at this
 .
  have dX:c6 n X=d:=by let{k,m,hk,e}:=A6 o q;have q:=kM (c6 n) e;rw[u6,u6,j]at q;have:c6 n (X-b)=0:=(aAq.mp (show k*c6 n (X-b)=0 by lia)).resolve_left (by lia);rw[d6]at this;lia
  show(h.btw X (d5.mpr {i,dX}) ?_).symm;rw[tN];have:cr (b-a) (X-b)=0:=by
   have:=CA q
   rwa [q9]at this
  unfold i7;rw[this,N0]
def A7:List V->Option V
 |[]=>none
 |w::a=>if w≠0 then some w else A7 a
def u5(h:A7 ws=some w):w∈ws/\w≠0:=by
 induction ws with
 |nil=>cases h
 |cons v ws a=>unfold A7 at h;grind
def M4(h:A7 ws=none):∀w∈ws,w=0:=by
 induction ws with
 |nil=>nofun
 |cons v ws a=>unfold A7 at h;grind
def U5:List V->Nat
 |[]=>0
 |p::d=>
  let a:=(p::d).map (· -p)
  match A7 a with
  |none=>0
  |some b=>match A7 (a.map<|cr b)with
   |none=>1
   |some e=>if a.any (λw=>decide (c6 e w≠0))then 3 else 2
def j7(J:List V):Prop:=∃A∈J,∃B∈J,∃C∈J,∃D∈J,i7 (B-A) (C-A) (D-A)≠0
def MN(h:U5 J=3):j7 J:=by
 match J,h with
 |p::v,h=>
  unfold U5 at h;dsimp only at h;split at h
  .cases h
  rename_i b f;split at h
  .cases h
  rename_i g i;split at h
  .rename_i e;let{j,w}:=u5 f;let{d,x}:=u5 i;let{y,d,k}:=aAj.mp d;rw[aDq]at e;let{l,m,n}:=e;let{B,o,q}:=aAj.mp j;let{C,r,s}:=aAj.mp d;let{D,t,u}:=aAj.mp m;show{p,by simp,B,o,C,r,D,t,?_};rw[q,s,u];have a:c6 g l≠0:=by exists n
   rw[<-k,T9]at a;show a
  cases h
def QY(h:U5 J≠3):¬j7 J:=by
 rintro⟨A,j,B,k,C,l,D,m,t⟩;match J,h,j,k,l,m with
 |p::f,h,j,k,l,m=>
  unfold U5 at h;dsimp only at h;have o:∀X∈p::f,X-p∈(p::f).map (· -p):=λX b=>aAj.mpr {X,b,rfl};have d:∀n:V,n≠0->(∀X∈p::f,c6 n (X-p)=0)->False:=λn v r=>by
   have q:∀X∈p::f,c6 n (X-A)=0:=λX b=>by have g:=r X b;have i:=r A j;rw[d6]at*;lia
   show t (A1 v (q B k) (q C l)<|q D m)
  split at h
  .rename_i g;have z:=M4 g;show d {1,0,0} (λe=>by have:=kM V.x e;simp at this) λX b=>?_;rw[z _ (o X b)];show N0 _
  rename_i a g;let{N,w}:=u5 g;split at h
  .rename_i i;have z:=M4 i;have y:∀X∈p::f,cr a (X-p)=0:=λX b=>z _ (aAj.mpr {_,o X b,rfl});obtain⟨u,E,H⟩:∃u:V,cr a u≠0/\True:=by
    rcases kR w with q|q|q
    .show{{0,1,0},λe=>q (by have:=kM V.z e;exists this),trivial}
    .show{{1,0,0},λe=>q (by have:=kM V.z e;exists this),trivial}
    show{{0,1,0},λe=>q (by have:=kM V.x e;exists this),trivial}
   show d (cr a u) E λX b=>?_;rw[T9,kT (y X b)]
  rename_i s i;let{O,I}:=u5 i;split at h
  .show h rfl
  rename_i L;show d s I λX b=>?_;by_cases z:c6 s (X-p)=0
  .show z
  show k7 (aDq.mpr {X-p,o X b,by simpa using z}) L
def XD(h:U5 J<2):∀X∈J,∀Y∈J,∀Z∈J,cr (Y-X) (Z-X)=0:=by
 match J,h with
 |[],_=>intro X b;cases b
 |p::d,h=>
  unfold U5 at h;dsimp only at h;have l:∀X∈p::d,X-p∈(p::d).map (· -p):=λX b=>aAj.mpr {X,b,rfl};intro X b Y m Z o;split at h
  .rename_i i;have e:∀W∈p::d,W=p:=λW j=>by have:=(M4 i) _ (l W j);have f:=kM V.x this;have g:=kM V.y this;have q:=kM V.z this;simp at f g q;show ext (by lia) (by lia) (by lia)
   rw[e X b,e Y m,z6];apply ext<;>simp
  rename_i a i;let{E,r}:=u5 i;split at h
  .rename_i s;have n:∀X∈p::d,cr a (X-p)=0:=λX b=>(M4 s) _ (aAj.mpr {_,l X b,rfl});have k:∀U∈p::d,∀W∈p::d,cr (U-W) a=0:=λU t W j=>by have f:=n U t;have g:=n W j;have u:=kM V.x f;have v:=kM V.y f;have w:=kM V.z f;have A:=kM V.x g;have B:=kM V.y g;have C:=kM V.z g;simp at u v w A B C;apply ext<;>simp<;>grind
   show tW r (k Y m X b) (k Z o X b)
  split at h<;>lia
def LI(h:2<=U5 J):∃X∈J,∃Y∈J,∃Z∈J,cr (Y-X) (Z-X)≠0:=by
 match J,h with
 |[],h=>show k7 h (by simp[U5])
 |p::n,h=>
  unfold U5 at h;dsimp only at h;split at h
  .lia
  rename_i a d;let{e,o}:=u5 d;split at h
  .lia
  rename_i q f;let{b,g}:=u5 f;let{r,b,i}:=aAj.mp b;let{B,j,k}:=aAj.mp e;let{C,l,m}:=aAj.mp b;show{p,by simp,B,j,C,l,by rw[k,m,i];show g}
def j7.off(h:j7 J)(f:n≠0):∃Z∈J,c6 n Z≠d:=by
 let{A,g,B,i,C,j,D,k,l}:=h;by_cases a:c6 n A=d
 .by_cases b:c6 n B=d
  .by_cases c:c6 n C=d
   .by_cases e:c6 n D=d
    .show k7 (A1 f (by rw[d6];lia) (by rw[d6];lia) (by rw[d6];lia)) l
    show{D,k,e}
   show{C,j,c}
  show{B,i,b}
 show{A,g,a}
def j7.below(h:j7 J)(b:n≠0)(f:∀X∈J,c6 n X<=d):∃Z∈J,c6 n Z<d:=by let{Z,a,e}:=h.off (d:=d) b;show{Z,a,by have:=f Z a;lia}
def kk:V:={0,0,1}
def d9(m:V)(J:List V):V×V:=
 let u:=b7 m (m+kk) J
 let a:=x5 u.1 u.2 J
 if U5 a=2 then(m,m+kk)else(a.getD 0 0,a.getD 1 0)
def IM:ConeM kk (λw=>0<w.x\/(w.x=0/\0<w.y))where
 add:=λ{u v} d e=>by simp;lia
 mul:=λ{k u} a h=>by
  simp;rcases h with h|⟨h,b⟩
  .show .inl (aAy a h)
  show .inr {by rw[h];simp,aAy a b}
 irr:=by simp
 inv:=λ{u} k h=>by simpa[kk]using h
def GA(h:c6 n a=0):ConeM a (λw=>c6 n w<0)where
 add:=λ{u v} e f=>by rw[cC];lia
 mul:=λ{k u} b h=>by rw[u6];show aBo b h
 irr:=by rw[N0];lia
 inv:=λ{u} k d=>by rw[cC,u6,h];exists d
def M0(m k:V):m+k-m=k:=(by apply ext<;>simp<;>lia)
def jF(Q:j7 J)(ho:J.Pairwise (λa b=>f8 (b-a)))(hm:m∈J)(hl:∀X∈J,X=m\/f8 (X-m)):
  IsFace J (b7 (d9 m J).1 (d9 m J).2 J).1 (b7 (d9 m J).1 (d9 m J).2 J).2:=by
 have C:ConeM (m+kk-m) (λw=>0<w.x\/(w.x=0/\0<w.y)):=by rw[M0];show IM
 have ai:m+kk-m≠0:=by rw[M0];intro e;have:=kM V.z e;simp[kk]at this
 have T:∀P∈J,(0<(P-m).x\/((P-m).x=0/\0<(P-m).y))\/cr (m+kk-m) (P-m)=0:=λP u=>by
  rw[M0];rcases hl P u with e|e
  .right;subst e;rw[z6];apply ext<;>simp
  unfold f8 at e;rcases e with e|⟨U,e|⟨e2,e3⟩⟩
  .show .inl (.inl e)
  .show .inl (.inr {U,e})
  right;apply ext
  .simp[kk];simp at e2;lia
  .simp[kk];simp at U;lia
  simp[kk]
 have hx:∃P∈J,0<(P-m).x\/((P-m).x=0/\0<(P-m).y):=by
  by_cases z:∃P∈J,0<(P-m).x\/((P-m).x=0/\0<(P-m).y)
  .show z
  exfalso;let{Z,f,e}:=Q.off (n:={1,0,0}) (d:=m.x) (λe=>by have:=kM V.x e;simp at this);have w:=(T Z f).resolve_left λq=>z {Z,f,q};rw[M0]at w;have:=kM V.y w;simp[kk]at this;simp[c6]at e
  lia
 let{H,g,o1,o2,g0,ge,I,gd,h,sB,sO,sP}:=W3 C ai T hx;have i:=d5.mpr {hm,gd.symm};have k:=d5.mpr {o1,sO};have L:m≠H:=λe=>by subst e;rw[z6]at o2;simp at o2
 by_cases h2:U5 (x5 (b7 m (m+kk) J).1 (b7 m (m+kk) J).2 J)=2
 .have e:d9 m J=(m,m+kk):=by unfold d9;erw[h2,if_true]
  rw[e];let{X,v,Y,E,Z,f,hc}:=LI (J:=x5 (b7 m (m+kk) J).1 (b7 m (m+kk) J).2 J) (by lia);have v:=d5.mp v;have E:=d5.mp E;have f:=d5.mp f;show{I,h,X,v.1,Y,E.1,Z,f.1,v.2,E.2,f.2,hc}
 .
  have h1:U5 (x5 (b7 m (m+kk) J).1 (b7 m (m+kk) J).2 J)≠3:=λz=>by let{A,hA,B,hB,C,hC,D,hD,hd}:=MN z;have hA:=d5.mp hA;have hB:=d5.mp hB;have hC:=d5.mp hC;have hD:=d5.mp hD;show hd (A1 I.ne (by rw[d6];lia) (by rw[d6];lia) (by rw[d6];lia))
  have ao:U5 (x5 (b7 m (m+kk) J).1 (b7 m (m+kk) J).2 J)<2:=by
   have:U5 (x5 (b7 m (m+kk) J).1 (b7 m (m+kk) J).2 J)<=3:=by
    generalize x5 (b7 m (m+kk) J).1 (b7 m (m+kk) J).2 J=t;unfold U5;split
    .lia
    dsimp only;split
    .lia
    split
    .lia
    split<;>lia
   lia
  have e:d9 m J=((x5 (b7 m (m+kk) J).1 (b7 m (m+kk) J).2 J).getD 0 0,(x5 (b7 m (m+kk) J).1 (b7 m (m+kk) J).2 J).getD 1 0):=by unfold d9;erw[h2,if_false]
  rw[e];have ord:(x5 (b7 m (m+kk) J).1 (b7 m (m+kk) J).2 J).Pairwise (λa b=>f8 (b-a)):=aGx _ ho;have j:∀X,X∈x5 (b7 m (m+kk) J).1 (b7 m (m+kk) J).2 J↔X∈J/\c6 (b7 m (m+kk) J).1 X=(b7 m (m+kk) J).2:=λX=>d5;generalize x5 (b7 m (m+kk) J).1 (b7 m (m+kk) J).2 J=t at*
  match t,i,k with
  |[],i,_=>cases i
  |[x],i,k=>simp at i k;show k7 (i.trans k.symm) L
  |x::y::r,i,k=>
   dsimp only[List.getD_cons_zero,List.getD_cons_succ];have l:f8 (y-x):=(aAu.mp ord).1 y (by simp);have ox:=(j x).mp (by simp);have oy:=(j y).mp (by simp);have o:y-x≠0:=λz=>by rw[z]at l;show w8.irr l
   have na:c6 (b7 m (m+kk) J).1 (y-x)=0:=by rw[d6];lia
   have C2:=GA na;let{Z,f,hz}:=Q.below I.ne h;let{p,g2,p1,p2,p0,pe,pp,pd,s,N,O,sP2}:=W3 C2 o (J:=J) (λP u=>by
    have:=h P u;by_cases q:c6 (b7 m (m+kk) J).1 P<(b7 m (m+kk) J).2
    .show .inl (by rw[d6];lia)
    show .inr ((XD ao) x (by simp) y (by simp) P ((j P).mpr {u,by lia}))) {Z,f,by rw[d6];lia}
   show{pp,s,x,ox.1,y,oy.1,p,p1,pd.symm,N,O,C2.ad2 o p2}
def N9{a b:V}(h:a-b=0):a=b:=by have d:=kM V.x h;have e:=kM V.y h;have f:=kM V.z h;simp at d e f;show ext (by lia) (by lia) (by lia)
def IsFace.aa2(f:J.Pairwise (λa b=>f8 (b-a)))(h:IsFace J n d):Sheet n (x5 n d J)where
 nz:=h.prim.ne
 pl:=λX g Y i=>by have:=(d5.mp g).2;have:=(d5.mp i).2;rw[d6];lia
 ord:=aGx _ f
 two:=by let{A,j,B,k,C,l,a,b,c,e}:=h.three;show{A,d5.mpr {j,a},B,d5.mpr {k,b},λz=>e ?_};subst z;rw[z6];apply ext<;>simp
def IsFace.ac4{J:List V}{n:V}{d:Int}(h:IsFace J n d){a b:V}(f:EdgeOf n (λX=>X∈x5 n d J) a b):∃X∈x5 n d J,0<i7 n (b-a) (X-a):=by
 by_cases z:∃X∈x5 n d J,0<i7 n (b-a) (X-a)
 .show z
 exfalso;let{pa,da}:=d5.mp f.p;let{pb,db}:=d5.mp f.q;have g:c6 n (b-a)=0:=by rw[d6];lia
 have k:∀X∈J,c6 n X=d->cr (b-a) (X-a)=0:=λX i j=>by have r:=d5.mpr {i,j};have l:=f.left X r;have l':¬0<i7 n (b-a) (X-a):=λq=>z {X,r,q};show cF h.prim.ne g (by rw[d6];lia) (by lia)
 let{A,s,B,v,C,w,t,E,H,e}:=h.three;have u:∀X∈J,c6 n X=d->∀Y∈J,c6 n Y=d->cr (X-Y) (b-a)=0:=λX i j Y I L=>by have m:=k X i j;have o:=k Y I L;have N:=kM V.x m;have O:=kM V.y m;have Q:=kM V.z m;have T:=kM V.x o;have U:=kM V.y o;have b3:=kM V.z o;simp at N O Q T U b3;apply ext<;>simp<;>grind
 show e (tW (λe=>f.ne (N9 e).symm) (u B v E A s t)<|u C w H A s t)
def xC(l:j7 J)(f:IsFace J n d)(g:IsFace J m e)(i:EdgeOf n (λX=>X∈x5 n d J) a b)(h:EdgeOf m (λX=>X∈x5 m e J) b a)(j:X∈x5 n d J)(k:0<i7 n (b-a) (X-a)):c6 m X<e:=by
 let{o,r}:=d5.mp j;have A:=g.sup X o;by_cases z:c6 m X=e
 .exfalso;let{B,s}:=d5.mp i.p;let{pb,t}:=d5.mp i.q;let{_,u}:=d5.mp h.q;let{_,v}:=d5.mp h.p;let{Z,w,x}:=l.below f.prim.ne f.sup;have y:cr (b-a) (X-a)≠0:=λq=>by unfold i7 at k;rw[q,N0]at k;lia
  let{rfl,rfl}:=kF f.prim g.prim f.sup g.sup s t r u v z y w x;have:=h.left X j;have C:i7 n (a-b) (X-b)=-i7 n (b-a) (X-a):=by simp[i7,c6];grind
  lia
 lia
def pD:List V->V
 |[]=>0
 |X::l=>X+pD l
theorem tL(n:V):∀l:List V,c6 n (pD l)=(l.map (c6 n)).sum
 |[]=>N0 n
 |X::l=>by erw[pD,aAm,aBQ];rw[cC,tL n l]
theorem FT{a:Type}(f g:a->Int):∀l:List a,(∀x∈l,f x<=g x)->(l.map f).sum<=(l.map g).sum:=by
 intro b h;cases b with
 |nil=>show aCa _
 |cons x l=>
  erw[aAm,aBQ];have:=h x (by simp);have:=FT f g l (λy d=>h y (aAf _ d))
  lia
theorem FS{b:Type}(f g:b->Int):∀l:List b,(∀x∈l,f x<=g x)->(∃x∈l,f x<g x)->(l.map f).sum<(l.map g).sum
 |[],_,⟨x,d,_⟩=>by cases d
 |x::l,h,⟨y,a,i⟩=>by
  erw[aAm,aBQ];have j:=h x (by simp);have k:=FT f g l (λy a=>h y (aAf _ a));rcases aAe.mp a with e|e
  .subst e;lia
  have:=FS f g l (λy a=>h y (aAf _ a)) {y,e,i}
  lia
theorem bF{a:Type}(c:Int):∀l:List a,(l.map λ_=>c).sum=(l.length:Int)*c
 |[]=>by simp
 |x::l=>by erw[aAm,aBQ,aAr];rw[bF c l];push_cast;grind
def D8(J:List V)(X:V):V:=(J.length:Int)*X-pD J
def dG(J:List V)(n:V)(d:Int):Int:=(J.length:Int)*d-c6 n (pD J)
def zG(J:List V)(n X:V):c6 n (D8 J X)=(J.length:Int)*c6 n X-c6 n (pD J):=by unfold D8;rw[d6,u6]
def jV(a:j7 J)(b:n≠0)(h:∀X∈J,c6 n X<=d):0<dG J n d:=by
 unfold dG;rw[tL,<-bF];have:=FS (c6 n) (λ_=>d) J h (a.below b h)
 lia
def len_pos(a:j7 J):0<(J.length:Int):=by
 let{A,b,_}:=a;have:0<J.length:=aEu b
 lia
def aM(h:c6 n X=d):c6 n (D8 J X)=dG J n d:=by rw[zG,h];rfl
def rJ(h:c6 n X<=d):c6 n (D8 J X)<=dG J n d:=by
 rw[zG];unfold dG;have:=aBc h (show(0:Int)<=J.length by lia)
 lia
def WN(a:0<(J.length:Int))(h:c6 n X<d):c6 n (D8 J X)<dG J n d:=by
 rw[zG];unfold dG;have:=aFp h a
 lia
def YF(J:List V)(a b X:V):i7 (D8 J a) (D8 J b) (D8 J X)=(J.length:Int)*(J.length:Int)*c6 (D8 J a) (cr (b-a) (X-a)):=by unfold D8;simp[i7,c6];grind
def rL(h:cr w c=0)(x y:V):c6 w y*c6 c x=c6 w x*c6 c y:=by
 have e:c6 w y*c6 c x-c6 w x*c6 c y=c6 (cr w c) (cr y x):=by simp[c6];grind
 have:c6 0 (cr y x)=0:=by simp[c6]
 lia
def KH(e:j7 J)(f:IsFace J n d)(j:c6 n a=d)(m:c6 n b=d)(o:c6 n X=d)(h:0<i7 n (b-a) (X-a)):0<i7 (D8 J a) (D8 J b) (D8 J X):=by
 rw[YF];have g:=len_pos e;show aAy (aAy g g) ?_;have i:=f.prim.ne;have p:cr n (cr (b-a)<|X-a)=0:=J2 (by rw[d6];lia) (by rw[d6];lia);have q:=rL p n (D8 J a);have k:0<c6 n (D8 J a):=by rw[aM j];show jV e i f.sup
 have l:0<c6 (cr (b-a)<|X-a) n:=by rw[eF];show h
 have r:=aAy k l;rw[eF (D8 J a)];by_cases z:0<c6 (cr (b-a)<|X-a) (D8 J a)
 .show z
 exfalso;have:c6 n n*c6 (cr (b-a)<|X-a) (D8 J a)<=0:=by have:=aBc (show c6 (cr (b-a)<|X-a) (D8 J a)<=0 by lia) (aAz<|o6 i);exists this
 lia
def YQ(g:j7 J)(f:IsFace J n d)(v:IsFace J m e)(h:EdgeOf n (λX=>X∈x5 n d J) a b)(j:EdgeOf m (λX=>X∈x5 m e J) b a)(L:c6 m B*dG J n d<=c6 n B*dG J m e):0<=i7 (D8 J a) (D8 J b) B:=by
 let{X,k,l}:=f.ac4 h;let{N,o}:=d5.mp k;let{O,t}:=d5.mp h.p;let{pb,u}:=d5.mp h.q;let{_,w}:=d5.mp j.q;let{_,x}:=d5.mp j.p;have c0:=jV g f.prim.ne f.sup;have A:=KH g f t u o l;by_cases z:0<=i7 (D8 J a) (D8 J b) B
 .show z
 exfalso;have i:∀y,c6 (dG J n d*m-dG J m e*n) y=dG J n d*c6 m y-dG J m e*c6 n y:=λy=>by rw[eF,d6,u6,u6,eF y m,eF y n]
 have C:c6 (dG J n d*m-dG J m e*n) (D8 J a)=0:=by rw[i,aM t,aM w];grind
 have E:c6 (dG J n d*m-dG J m e*n) (D8 J b)=0:=by rw[i,aM u,aM x];grind
 have H:c6 (dG J n d*m-dG J m e*n) (D8 J X)<0:=by rw[i,aM o];have:=aFp (WN (len_pos g)<|xC g f v h j k l) c0;grind
 have p:=rL (J2 C E) (D8 J X) B;have I:c6 (cr (D8 J a)<|D8 J b) B=i7 (D8 J a) (D8 J b) B:=T9 _ _ _;rw[(T9 _ _ _),I]at p;have r:0<c6 (dG J n d*m-dG J m e*n) (D8 J X)*i7 (D8 J a) (D8 J b) B:=Int.mul_pos_of_neg_of_neg H (by lia);rw[<-p]at r;have s:0<c6 (dG J n d*m-dG J m e*n) B:=by
  by_cases q:0<c6 (dG J n d*m-dG J m e*n) B
  .show q
  have:=aAM (show c6 (dG J n d*m-dG J m e*n) B<=0 by lia) (aAz A)
  lia
 rw[i]at s
 lia
def EZ{a b c d e f:Int}(g:0<b)(h:0<d)(i:0<f)(j:a*d<=c*b)(k:c*f<=e*d):a*f<=e*b:=by have l:=aAM j (aAz i);have m:=aAM k (aAz g);show aFq (by grind) h
theorem JZ{d:Type}(p q:d->Int):∀(l:List d),l≠[]->(∀x∈l,0<q x)->∃x∈l,∀y∈l,p y*q x<=p x*q y
 |[],h,_=>k7 rfl h
 |[x],_,_=>by simp
 |x::y::l,_,b=>by
  let{z,f,h}:=JZ p q (y::l) (by simp) (λw a=>b w (aAf _ a));by_cases c:p x*q z<=p z*q x
  .show{z,aAf _ f,λw a=>?_};rcases aAe.mp a with e|e
   .subst e;show c
   show h w e
  show{x,by simp,λw a=>?_};rcases aAe.mp a with e|e
  .subst e;show aCa _
  show EZ (b w a) (b z<|aAf _ f) (b x (by simp)) (h w e) (by lia)
theorem a6p(h:V->Int):∀(x:V) (l:List V),0<=h x->(∀z,(x::l).getLast?=some z->h z<=0)->l≠[]->∃u v,(u,v)∈m7 (x::l)/\0<=h u/\h v<=0:=by
 intro x b d a e;cases b with
 |nil=>show k7 rfl e
 |cons y r=>
  by_cases c:h y<=0
  .show{x,y,by simp[m7],d,c}
  match r,a with
  |[],a=>show k7 (a y rfl) c
  |z::r,a=>let{u,v,m,p}:=a6p h y (z::r) (by lia) (λw f=>a w (by rw[aDm];show f)) (by simp);show{u,v,by erw[m7]at m⊢;show aAf _ m,p}
theorem nZ:∀(l:List V) (x z w:V),(x::l).getLast?=some z->(z,w)∈m7 (x::l++[w]):=by
 intro a x z w h;cases a with
 |nil=>simp at h;subst h;simp[m7]
 |cons y l=>have:=nZ l y z w h;show aAf _ this
theorem X6:∀(l:List V) (x w:V),∀e∈m7 (x::l),e∈m7 (x::l++[w]):=by
 intro a x w e h;cases a with
 |nil=>simp[m7]at h
 |cons y l=>
  erw[aBF,m7]at h⊢;rcases aAe.mp h with q|q
  .subst q;simp
  show aAf _ (X6 l y w e q)
def B7(g:J.Pairwise (λa b=>f8 (b-a)))(f:IsFace J n d):∃r s t l,l7 n (x5 n d J)=r::s::t::l:=by
 have S:=f.aa2 g;let{r,l,e,_}:=S.ab7;match l,e with
 |[],e=>
  have h:(r,r)∈T4 (l7 n<|x5 n d J):=by rw[e];simp[T4]
  show k7 rfl (S.pair h).ne
 |[s],e=>
  have i:(r,s)∈T4 (l7 n<|x5 n d J):=by rw[e];simp[T4]
  have j:(s,r)∈T4 (l7 n<|x5 n d J):=by rw[e];simp[T4]
  have k:=S.pair j;let{X,m,o}:=f.ac4 (S.pair i);have:=k.left X m;have p:i7 n (r-s) (X-s)=-i7 n (s-r) (X-r):=by simp[i7,c6];grind
  lia
 |s::t::l,e=>show{r,s,t,l,e}
def wT(E:j7 J)(ho:J.Pairwise (λa b=>f8 (b-a)))(fs:List (V×Int))(ai:fs≠[])(hf:∀f∈fs,IsFace J f.1 f.2)(hc:∀f∈fs,∀a b,EdgeOf f.1 (λX=>X∈x5 f.1 f.2 J) a b->∃g∈fs,EdgeOf g.1 (λX=>X∈x5 g.1 g.2 J) b a)(o:IsFace J n d):(n,d)∈fs:=by
 obtain⟨B,hBd⟩:∃B,B=pD ((x5 n d J).map (D8 J)):={_,rfl};have dB:∀m,c6 m B=((x5 n d J).map λX=>c6 m (D8 J X)).sum:=λm=>by rw[hBd,tL,aAK];rfl
 have cn:=jV E o.prim.ne o.sup;have ub:∀m e,(∀X∈J,c6 m X<=e)->c6 m B<=((x5 n d J).length:Int)*dG J m e:=λm e hm=>by rw[dB,<-bF];show FT _ _ _ λX i=>rJ (hm X (d5.mp i).1)
 have eB:c6 n B=((x5 n d J).length:Int)*dG J n d:=by rw[dB,<-bF];congr 1;show aDn λX i=>aM (d5.mp i).2
 let{{m,e},hm,htop}:=JZ (λf:V×Int=>c6 f.1 B) (λf=>dG J f.1 f.2) fs ai λf h=>jV E (hf f h).prim.ne (hf f h).sup;have j:=hf _ hm;have H:∀a b,EdgeOf m (λX=>X∈x5 m e J) a b->0<=i7 (D8 J a) (D8 J b) B:=λa b hab=>by let{g,hg,hg2}:=hc _ hm a b hab;show YQ E j (hf g hg) hab hg2 (htop g hg)
 have S:=j.aa2 ho;let{r,s,t,l,er}:=B7 ho j;have nd:=S.aa4;have pr:=λ{P Q}=>S.aa1 (P:=P) (Q:=Q);rw[er]at pr nd;have rm:r∈l7 m (x5 m e J):=by rw[er];simp
 have on:∀X∈r::s::t::l,c6 m X=e:=λX i=>by rw[<-er]at i;show(d5.mp<|S.aa3 i).2
 obtain⟨z,hz⟩:∃z,(s::t::l).getLast?=some z:=by simp[aFw]
 have c1:(r,s)∈T4 (r::s::t::l):=by rw[O7];simp[m7]
 have c2:(z,r)∈T4 (r::s::t::l):=by rw[O7];show nZ _ _ _ _ (by rw[aDm];show hz)
 have w1:=H _ _ (pr.mp c1);have w2:=H _ _ (pr.mp c2);let{u,v,I,hu,hv}:=a6p (λX=>i7 (D8 J r) (D8 J X) B) s (t::l) w1 (λy hy=>by
  have:y=z:=Option.some.inj (hy.symm.trans hz);subst this;have e1:i7 (D8 J r) (D8 J y) B=-i7 (D8 J y) (D8 J r) B:=by simp[i7,c6];grind
  lia) (by simp)
 have c3:(u,v)∈T4 (r::s::t::l):=by rw[O7];have:=X6 (t::l) s r _ I;erw[aBF,m7]at this⊢;show aAf _ this
 have g3:=pr.mp c3;have U:u∈s::t::l/\v∈s::t::l:=by
  have:=I;have hh:∀(l:List V) (p q:V),(p,q)∈m7 l->p∈l/\q∈l:=λl=>by
   induction l with
   |nil=>intro p q h;simp[m7]at h
   |cons x l ih=>
    intro p q h;match l,h,ih with
    |[],h,_=>simp[m7]at h
    |y::l,h,ih=>
     erw[m7]at h;rcases aAe.mp h with c|c
     .cases c;simp
     have:=ih p q c;show{aAf _ this.1,aAf _ this.2}
  show hh _ _ _ I
 have nr:=(aAZ.mp nd).1;have ru:r≠u:=λq=>by subst q;show nr U.1
 have rv:r≠v:=λq=>by subst q;show nr U.2
 have st:=S.strict g3 rm ru rv;have du:=on u (aAf _ U.1);have dv:=on v (aAf _ U.2);have dr:=on r (by simp);have D0:=KH E j du dv dr st;have w3:=H _ _ g3;have k:=EY B (D8 J r) (D8 J u) (D8 J v);have a1:i7 B (D8 J u) (D8 J v)=i7 (D8 J u) (D8 J v) B:=by simp[i7,c6];grind
 have a2:i7 B (D8 J v) (D8 J r)=-i7 (D8 J r) (D8 J v) B:=by simp[i7,c6];grind
 have a3:i7 B (D8 J r) (D8 J u)=i7 (D8 J r) (D8 J u) B:=by simp[i7,c6];grind
 have a4:i7 (D8 J r) (D8 J u) (D8 J v)=i7 (D8 J u) (D8 J v) (D8 J r):=by simp[i7,c6];grind
 rw[a1,a2,a3,a4]at k;obtain⟨N,hal⟩:∃N,N=i7 (D8 J u) (D8 J v) B:={_,rfl};obtain⟨O,hbe⟩:∃O,O=-i7 (D8 J r) (D8 J v) B:={_,rfl};obtain⟨T,hga⟩:∃T,T=i7 (D8 J r) (D8 J u) B:={_,rfl};obtain⟨w,hDe⟩:∃w,w=i7 (D8 J u) (D8 J v) (D8 J r):={_,rfl};rw[<-hal,<-hbe,<-hga,<-hDe]at k;have al0:0<=N:=by lia
 have be0:0<=O:=by lia
 have ga0:0<=T:=by lia
 have cd:∀f:V,w*c6 f B=T*c6 f (D8 J v)+N*c6 f (D8 J r)+O*c6 f (D8 J u):=λf=>by
  have:=kM (c6 f) k;rw[cC,cC,u6,u6,u6,u6]at this
  lia
 have q1:=cd m;rw[aM dr,aM du,aM dv]at q1;have q2:=cd n;have cm:=jV E j.prim.ne j.sup;have pt:∀X∈r::s::t::l,X∈J:=λX i=>by rw[<-er]at i;show(d5.mp<|S.aa3 i).1
 have r1:=rJ (J:=J) (o.sup r (pt r (by simp)));have r2:=rJ (J:=J) (o.sup u<|pt u<|aAf _ U.1);have r3:=rJ (J:=J) (o.sup v<|pt v<|aAf _ U.2);have s1:=aBc r1 al0;have s2:=aBc r2 be0;have s3:=aBc r3 ga0;obtain⟨L,hL⟩:∃L:Int,L=((x5 n d J).length:Int):={_,rfl};have ub1:=ub m e j.sup;rw[<-hL]at eB ub1;have k1:w*L<=N+O+T:=by
  have:(w*L)*dG J n d<=(N+O+T)*dG J n d:=by rw[eB]at q2;have e1:w*L*dG J n d=w*(L*dG J n d):=Int.mul_assoc _ _ _;grind
  show aFq this cn
 have k2:w*c6 m B=(N+O+T)*dG J m e:=by rw[q1];grind
 have k3:(w*L)*dG J m e<=w*c6 m B:=by rw[k2];show aAM k1 (aAz cm)
 have k4:L*dG J m e<=c6 m B:=by rw[Int.mul_assoc]at k3;show aFK k3 (by lia)
 have all:∀X∈x5 n d J,c6 m X=e:=λX i=>by
  have le:c6 m X<=e:=j.sup X (d5.mp i).1;by_cases z:c6 m X=e
  .show z
  exfalso;have:=FS (λX=>c6 m (D8 J X)) (λ_=>dG J m e) (x5 n d J) (λY hY=>rJ (j.sup Y (d5.mp hY).1)) {X,i,WN (len_pos E) (by lia)};rw[<-dB,bF,<-hL]at this
  lia
 let{A,hA,B',hB',C,hC,ea,eb,ec,hcr}:=o.three;let{Z,hZ,hz}:=E.below o.prim.ne o.sup;let{rfl,rfl}:=kF o.prim j.prim o.sup j.sup ea eb ec (all A<|d5.mpr ⟨hA,ea⟩) (all B'<|d5.mpr ⟨hB',eb⟩) (all C<|d5.mpr ⟨hC,ec⟩) hcr hZ hz;show hm
def i8(J:List V)(f:V×Int):List V:=l7 f.1 (x5 f.1 f.2 J)
structure LInv(J:List V)(p0:V×V)(fs:List (V×Int))(walked:V×V->Prop)(waiting:List (V×V)):Prop where
 face:∀f∈fs,IsFace J f.1 f.2
 nd:fs.Nodup
 wk:∀e,walked e↔∃f∈fs,e∈T4 (i8 J f)
 cl:∀f∈fs,∀a b,(a,b)∈T4 (i8 J f)->(∃g∈fs,(b,a)∈T4 (i8 J g))\/(b,a)∈waiting
 wt:∀p∈waiting,(∃f∈fs,(p.2,p.1)∈T4 (i8 J f))\/(fs=[]/\p=p0)
 ne:fs=[]->waiting=[p0]
structure Good(J:List V)(m:V):Prop where
 solid:j7 J
 ord:J.Pairwise (λa b=>f8 (b-a))
 mem:m∈J
 least:∀X∈J,X=m\/f8 (X-m)
section
variable{J:List V}{m:V} (G:Good J m) {fs:List (V×Int)}{walked:V×V->Prop}{waiting rest:List (V×V)}{p:V×V}
include G
theorem EB:LInv J (d9 m J) [] (λ_=>False) [d9 m J]where
 face:=λf h=>by cases h
 nd:=aCY
 wk:=λe=>{λh=>h.elim,by rintro⟨f,h,_⟩;cases h}
 cl:=λf h=>by cases h
 wt:=λq h=>.inr {rfl,by simpa using h}
 ne:=λ_=>rfl
theorem TH(h:LInv J (d9 m J) fs walked waiting)(j:waiting=rest++[p])(k:walked p):LInv J (d9 m J) fs walked rest:=by
 have g:∀q,q∈waiting↔q=p\/q∈rest:=λq=>by rw[j];simp[or_comm]
 let{l,i,n}:=(h.wk p).mp k;have o:fs≠[]:=λe=>by subst e;cases i
 show{h.face,h.nd,h.wk,λf r a b d=>?_,λq s=>h.wt q ((g q).mpr (.inr s)),λe=>k7 e o};rcases h.cl f r a b d with q|q
 .show .inl q
 rcases(g (b,a)).mp q with z|z
 .subst z;show .inl {l,i,n}
 show .inr z
theorem AE(h:LInv J (d9 m J) fs walked waiting)(e:p∈waiting)(g:¬walked p):IsFace J (b7 p.1 p.2 J).1 (b7 p.1 p.2 J).2/\b7 p.1 p.2 J∉fs/\(fs≠[]->p∈T4 (i8 J (b7 p.1 p.2 J))):=by
 rcases h.wt p e with⟨f,i,j⟩|⟨k,l⟩
 .have a:=h.face f i;let{b,n}:=wB a.prim.ne a.sup (G.solid.below a.prim.ne a.sup) ((a.aa2 G.ord).aa1.mp j);have o:=b.aa2 G.ord;have d:=o.aa1.mpr n;show{b,λz=>g ((h.wk p).mpr {_,z,d}),λ_=>d}
 subst k l;show{jF G.solid G.ord G.mem G.least,by simp,λz=>k7 rfl z}
theorem VZ(h:LInv J (d9 m J) fs walked waiting)(n:waiting=rest++[p])(r:¬walked p){walked':V×V->Prop}(s:∀e,walked' e↔walked e\/e∈T4 (i8 J (b7 p.1 p.2 J)))(j:∀q,q∈waiting'↔q∈rest\/(q.2,q.1)∈T4 (i8 J (b7 p.1 p.2 J))):
  LInv J (d9 m J) (fs++[b7 p.1 p.2 J]) walked' waiting':=by
 have k:∀q,q∈waiting↔q=p\/q∈rest:=λq=>by rw[n];simp[or_comm]
 let{E,t,u}:=AE G h ((k p).mpr (.inl rfl)) r;show{λf d=>?_,?_,λe=>?_,λf d a b i=>?_,λq v=>?_,λe=>by simp at e}
 .rcases aAO.mp d with z|z
  .show h.face f z
  nofun
 .rw[aCE];show⟨h.nd,by simp,λa w b x=>λe=>by
   have:b=b7 p.1 p.2 J:=by exists x
   subst e this;show t w⟩
 .rw[s,h.wk];constructor
  .rintro(⟨f,d,l⟩|l)
   .show{f,aBl _ d,l}
   show{_,aAA _ (by simp),l}
  nofun
 .rcases aAO.mp d with z|z
  .rcases h.cl f z a b i with⟨g,A,e⟩|q
   .show .inl {g,aBl _ A,e}
   rcases(k (b,a)).mp q with y|y
   .have B:fs≠[]:=λe=>by subst e;cases z
    show .inl {b7 p.1 p.2 J,aAA _ (by simp),by rw[y];show u B}
   show .inr ((j _).mpr (.inl y))
  have:f=b7 p.1 p.2 J:=by exists z
  subst this;show .inr ((j _).mpr (.inr i))
 rcases(j q).mp v with z|z
 .rcases h.wt q ((k q).mpr (.inr z))with⟨f,d,e⟩|⟨C,H⟩
  .show .inl {f,aBl _ d,e}
  have:=h.ne C;exfalso;rw[n]at this;have o:=kM aFY this;simp at o;subst o;cases z
 show .inl {_,aAA _ (by simp),z}
theorem WM(h:LInv J (d9 m J) fs walked []):fs≠[]/\∀n d,(n,d)∈fs↔IsFace J n d:=by
 have k:fs≠[]:=λe=>by have:=h.ne e;cases this
 show{k,λn d=>{λi=>h.face _ i,λi=>(wT G.solid G.ord fs k h.face (λf i a b j=>?_) i)}};rcases h.cl f i a b (((h.face f i).aa2 G.ord).aa1.mpr j)with⟨g,l,e⟩|q
 .show{g,l,((h.face g l).aa2 G.ord).aa1.mp e}
 cases q
end
def wN(h:IsFace J n d):∃A∈J,∃B∈J,∃C∈J,cr (B-A) (C-A)≠0/\j6 A B C=(n,d):=by
 let{A,r,B,f,C,i,a,b,c,e}:=h.three;have j:∀B∈J,∀C∈J,c6 n B=d->c6 n C=d->cr (B-A) (C-A)≠0->0<c6 n (cr (B-A)<|C-A)->j6 A B C=(n,d):=λB f C i b c e m=>by
  let{g,w,E,H,I}:=qZ e;have p:cr n (cr (B-A)<|C-A)=0:=J2 (by rw[d6];lia) (by rw[d6];lia);let{k,l,s,o}:=A6 h.prim.ne p;have L:0<l:=by
   have q:=kM (c6 n) o;rw[u6,u6]at q;have:=aAy s m;by_cases z:0<l
   .show z
   have:=aAM (show l<=0 by nofun) (aAz<|o6 h.prim.ne);simp at this;lia
  rw[E]at o;have N:(k*g)*(j6 A B C).1=l*n:=by rw[<-o];apply ext<;>simp<;>grind
  have t:=xH H h.prim (aAy s w) L N;show aDA t ?_;rw[I,t];show a
 by_cases z:0<c6 n (cr (B-A)<|C-A)
 .show{A,r,B,f,C,i,e,j B f C i b c e z}
 have u:cr (C-A) (B-A)=-cr (B-A) (C-A):=by apply ext<;>simp<;>grind
 have v:cr (C-A) (B-A)≠0:=λq=>e (by rw[u]at q;have O:=kM V.x q;have Q:=kM V.y q;have T:=kM V.z q;erw[a7s,a7y,a5t,GK,DU,FP]at O Q T;show ext (by erw[GK];lia) (by erw[DU];lia) (by erw[FP];lia))
 have U:c6 n (cr (B-A)<|C-A)≠0:=λq=>e (cF h.prim.ne (by rw[d6];lia) (by rw[d6];lia) q);show{A,r,C,i,B,f,v,j C i B f c b v ?_};have:c6 n (cr (C-A)<|B-A)=-c6 n (cr (B-A)<|C-A):=by rw[u];simp[c6];grind
 lia
def cands(J:List V):List (V×Int):=J.flatMap λA=>J.flatMap λB=>J.map λC=>j6 A B C
def NY(J:List V):(cands J).length=J.length*(J.length*J.length):=by
 unfold cands;have h:∀(l:List V) (f:V->List (V×Int)) (k:Nat),(∀x,(f x).length=k)->(l.flatMap f).length=l.length*k:=λl f k a=>by
  induction l with
  |nil=>simp
  |cons x l b=>rw[aEy,aAv,b,a,aAr,Nat.succ_mul,Nat.add_comm]
 rw[h J _ (J.length*J.length) λA=>h J _ J.length λB=>by simp]
theorem P7{a:Type}[DecidableEq a]:∀{l m:List a},l.Nodup->(∀x∈l,x∈m)->l.length<=m.length:=by
 intro i m h b;cases i with
 |nil=>show aAS _
 |cons x l=>
  have d:=b x (by simp);have f:=aAZ.mp h;have:=P7 (l:=l) f.2 (λy g=>by
   have ne:y≠x:=λe=>by subst e;show f.1 g
   show(aGy ne).mpr (b y<|aAf _ g))
  rw[aFR d]at this;have:0<m.length:=aEu d;erw[aAr]
  lia
def OD{J:List V}{fs:List (V×Int)}(a:fs.Nodup)(b:∀f∈fs,IsFace J f.1 f.2):fs.length<=J.length*(J.length*J.length):=by rw[<-NY];show P7 a λf h=>?_;let{A,d,B,g,C,i,_,e}:=wN (b f h);unfold cands;rw[aBe];show{A,d,?_};rw[aBe];show{B,g,aAj.mpr {C,i,e}}
section
variable{J:List V} (hs:j7 J) (ho:J.Pairwise (λa b=>f8 (b-a)))
include hs ho
theorem eZ(e:IsFace J n d)(h:EdgeOf n (λX=>X∈x5 n d J) a b):
 IsFace J (b7 b a J).1 (b7 b a J).2/\EdgeOf (b7 b a J).1 (λX=>X∈x5 (b7 b a J).1 (b7 b a J).2 J) b a:=wB e.prim.ne e.sup (hs.below e.prim.ne e.sup) h
theorem kL(e:IsFace J n d)(f:EdgeOf n (λX=>X∈x5 n d J) a b)(g:EdgeOf n (λX=>X∈x5 n d J) b a):False:=by
 let{X,h,i}:=e.ac4 f;have:=g.left X h;have j:i7 n (a-b) (X-b)=-i7 n (b-a) (X-a):=by simp[i7,c6];grind
 lia
theorem kI(a:IsFace J n d)(m:X∈i8 J (n,d)):∃g h:V×Int,IsFace J g.1 g.2/\IsFace J h.1 h.2/\(n,d)≠g/\(n,d)≠h/\g≠h/\c6 n X=d/\c6 g.1 X=g.2/\c6 h.1 X=h.2:=by
 have S:=a.aa2 ho;let{Y,s}:=cQ S m;let{W,o}:=VL S m;have b:=S.aa1.mp s;have i:=S.aa1.mp o;let{k,f}:=eZ hs ho a b;let{t,j}:=eZ hs ho a i;have l:W≠Y:=λe=>by subst e;show kL hs ho a b i
 show{_,_,k,t,λe=>?_,λe=>?_,λe=>?_,(d5.mp b.p).2,(d5.mp f.q).2,(d5.mp j.p).2}
 .rw[<-e]at f;show kL hs ho a b f
 .rw[<-e]at j;show kL hs ho a i j
 .
  have st:=S.strict b (yT S o).1 (i.ne) l;have u:=(d5.mp b.p).2;have v:=(d5.mp f.p).2;have w:=(d5.mp f.q).2;have r:=(d5.mp j.q).2;rw[<-e]at r;have x:cr (Y-X) (W-X)≠0:=λq=>by unfold i7 at st;rw[q,N0]at st;lia
  let{Z,y,z}:=hs.below a.prim.ne a.sup;let{A,B}:=kF a.prim k.prim a.sup k.sup u ((d5.mp b.q).2) ((d5.mp i.p).2) w v r x y z;have:(n,d)=b7 Y X J:=aDA A B;rw[<-this]at f;show kL hs ho a b f
theorem KZ(r:IsFace J n d)(g:IsFace J m e)(h:EdgeOf n (λX=>X∈x5 n d J) a b)(ga:c6 m a=e)(gb:c6 m b=e):(m,e)=(n,d)\/(m,e)=b7 b a J:=by
 let{pa,da}:=d5.mp h.p;let{pb,db}:=d5.mp h.q;let{H,I}:=eZ hs ho r h;have hab:c6 n (a-b)=0:=by rw[d6];lia
 have C:=vY (n:=n) r.prim.ne hab;obtain⟨P,pP,eP,hP⟩:∃P∈J,c6 m P=e/\cr (a-b) (P-b)≠0:=by
  by_cases z:∃P∈J,c6 m P=e/\cr (a-b) (P-b)≠0
  .show z
  exfalso;let{A,hA,B,hB,D,hD,eA,eB,eD,hc}:=g.three;have k:=λX hX dX=>by
   by_cases q:cr (a-b) (X-b)=0
   .show q
   show k7 {X,hX,dX,q} z
  have k2:∀X∈J,c6 m X=e->∀Y∈J,c6 m Y=e->cr (X-Y) (a-b)=0:=λX hX dX Y hY dY=>by have s:=k X hX dX;have f:=k Y hY dY;have a1:=kM V.x s;have a2:=kM V.y s;have a3:=kM V.z s;have I:=kM V.x f;have b2:=kM V.y f;have b3:=kM V.z f;simp at a1 a2 a3 I b2 b3;apply ext<;>simp<;>grind
  show hc (tW (λq=>h.ne (N9 q)) (k2 B hB eB A hA eA)<|k2 D hD eD A hA eA)
 have mab:c6 m (a-b)=0:=by rw[d6];lia
 have mP:c6 m (P-b)=0:=by rw[d6];lia
 let{k,l,hk,L}:=A6 g.prim.ne (J2 mab mP);have dl:=λw=>by have:=kM (λv=>c6 v w) L;erw[M5,T9]at this;show this
 have l0:l≠0:=λq=>hP (by rw[q,u9]at L;have s:=kM V.x L;have f:=kM V.y L;have q3:=kM V.z L;simp at s f q3;show ext ((aAq.mp s).resolve_left (by lia)) ((aAq.mp f).resolve_left (by lia)) ((aAq.mp q3).resolve_left (by lia)))
 have N:∀Q∈J,c6 m (Q-b)<=0:=λQ hQ=>by rw[d6];have:=g.sup Q hQ;lia
 let{Z,hZ,hz}:=hs.below r.prim.ne r.sup;by_cases hl:0<l
 .
  right;obtain⟨O,hO,eO⟩:∃O∈x5 (b7 b a J).1 (b7 b a J).2 J,0<i7 (b7 b a J).1 (a-b) (O-b):=H.ac4 I;let{pO,dO}:=d5.mp hO;let{_,e1b}:=d5.mp I.p;let{_,e1a}:=d5.mp I.q;have t1:i7 (a-b) (P-b) (O-b)<=0:=by
   have q:=dl (O-b);have:=aBc (N O pO) (aAz hl);rw[aEI]at this;by_cases z:i7 (a-b) (P-b) (O-b)<=0
   .show z
   have:=aAy hk (show 0<i7 (a-b) (P-b) (O-b)by lia);lia
  have i:cr (b7 b a J).1 (cr (a-b)<|O-b)=0:=J2 (by rw[d6];lia) (by rw[d6];lia);let{k',t,T,j}:=A6 H.prim.ne i;have o:∀w,k'*i7 (a-b) (O-b) w=t*c6 (b7 b a J).1 w:=λw=>by have:=kM (λv=>c6 v w) j;erw[M5,T9]at this;show this
  have jc:0<t:=by
   have q:=kM (c6 (b7 b a J).1) j;rw[u6,u6]at q;have f:0<c6 (b7 b a J).1 (cr (a-b)<|O-b):=eO;have:=aAy T f;have hn:=o6 H.prim.ne;by_cases z:0<t
   .show z
   have:=aAM (show t<=0 by lia) (aAz hn);simp at this;lia
  have t2:i7 (a-b) (O-b) (P-b)<=0:=by
   have q:=o (P-b);have h0:c6 (b7 b a J).1 (P-b)<=0:=by rw[d6];have:=H.sup P pP;lia
   have:=aBc h0 (aAz jc);rw[aEI]at this;by_cases z:i7 (a-b) (O-b) (P-b)<=0
   .show z
   have:=aAy T (show 0<i7 (a-b) (O-b) (P-b)by lia);lia
  have t3:i7 (a-b) (O-b) (P-b)=0:=by rw[j8]at t1;lia
  have U:=o (P-b);rw[t3,aEI]at U;have onP':c6 (b7 b a J).1 P=(b7 b a J).2:=by have:=(aAq.mp U.symm).resolve_left (by lia);rw[d6]at this;lia
  let{Z',u,E}:=hs.below g.prim.ne g.sup;let{s,f}:=kF g.prim H.prim g.sup H.sup gb ga eP e1b e1a onP' hP u E;show aDA s f
 .
  left;have jl:l<0:=by lia
  let{O,hO,eO}:=r.ac4 h;let{pO,dO}:=d5.mp hO;rw[tN]at eO;have t1:0<=i7 (a-b) (P-b) (O-b):=by
   have q:=dl (O-b);have h2:0<=l*c6 m (O-b):=by
    have:=aAT (show 0<=-l by lia) (show 0<=-c6 m (O-b)by have:=N O pO;lia)
    rwa [aDI]at this
   by_cases z:0<=i7 (a-b) (P-b) (O-b)
   .show z
   have:=aBo hk (show i7 (a-b) (P-b) (O-b)<0 by lia);lia
  have i:cr n (cr (b-a)<|O-b)=0:=J2 (by rw[d6];lia) (by rw[d6];lia);let{k',t,T,j}:=A6 r.prim.ne i;have o:∀w,k'*i7 (b-a) (O-b) w=t*c6 n w:=λw=>by have:=kM (λv=>c6 v w) j;erw[M5,T9]at this;show this
  have jc:0<t:=by
   have q:=kM (c6 n) j;rw[u6,u6]at q;have f:0<c6 n (cr (b-a)<|O-b):=eO;have:=aAy T f;have hn:=o6 r.prim.ne;by_cases z:0<t
   .show z
   have:=aAM (show t<=0 by lia) (aAz hn);simp at this;lia
  have t2:i7 (b-a) (O-b) (P-b)<=0:=by
   have q:=o (P-b);have h0:c6 n (P-b)<=0:=by rw[d6];have:=r.sup P pP;lia
   have:=aBc h0 (aAz jc);rw[aEI]at this;by_cases z:i7 (b-a) (O-b) (P-b)<=0
   .show z
   have:=aAy T (show 0<i7 (b-a) (O-b) (P-b)by lia);lia
  have e3:i7 (b-a) (O-b) (P-b)=i7 (a-b) (P-b) (O-b):=by simp[i7,c6];grind
  have t3:i7 (b-a) (O-b) (P-b)=0:=by lia
  have U:=o (P-b);rw[t3,aEI]at U;have onn:c6 n P=d:=by have:=(aAq.mp U.symm).resolve_left (by lia);rw[d6]at this;lia
  let{Z',u,E}:=hs.below g.prim.ne g.sup;let{s,f}:=kF g.prim r.prim g.sup r.sup gb ga eP db da onn hP u E;show aDA s f
end
def CL(i:j7 J)(j:m∈J)(k:∀X∈J,X=m\/f8 (X-m)):
  gR (b7 m (m+kk) J).1/\m∈x5 (b7 m (m+kk) J).1 (b7 m (m+kk) J).2 J/\∃a∈x5 (b7 m (m+kk) J).1 (b7 m (m+kk) J).2 J,m≠a:=by
 have C:ConeM (m+kk-m) (λw=>0<w.x\/(w.x=0/\0<w.y)):=by rw[M0];show IM
 have l:m+kk-m≠0:=by rw[M0];intro e;have:=kM V.z e;simp[kk]at this
 have b:∀P∈J,(0<(P-m).x\/((P-m).x=0/\0<(P-m).y))\/cr (m+kk-m) (P-m)=0:=λP o=>by
  rw[M0];rcases k P o with e|e
  .right;subst e;rw[z6];apply ext<;>simp
  unfold f8 at e;rcases e with e|⟨f,e|⟨p,B⟩⟩
  .show .inl (.inl e)
  .show .inl (.inr {f,e})
  right;apply ext
  .simp[kk];simp at p;omega
  .simp[kk];simp at f;omega
  simp[kk]
 have r:∃P∈J,0<(P-m).x\/((P-m).x=0/\0<(P-m).y):=by
  by_cases z:∃P∈J,0<(P-m).x\/((P-m).x=0/\0<(P-m).y)
  .show z
  exfalso;let{Z,h,e}:=i.off (n:={1,0,0}) (d:=m.x) (λe=>by have:=kM V.x e;simp at this);have w:=(b Z h).resolve_left λq=>z {Z,h,q};rw[M0]at w;have:=kM V.y w;simp[kk]at this;simp[c6]at e
  lia
 let{a,g,s,E,H,I,t,u,v,L,A,N}:=W3 C l b r;show{t,d5.mpr {j,u.symm},a,d5.mpr {s,A},λe=>?_}
 nofun
section
variable{J:List V} (hs:j7 J) (ho:J.Pairwise (λa b=>f8 (b-a)))
include hs ho
theorem PX(d:IsFace J f.1 f.2)(e:IsFace J g.1 g.2)(k:(a,b)∈T4 (i8 J f))(l:(a,b)∈T4 (i8 J g)):f=g:=by
 have i:=(d.aa2 ho).aa1.mp k;have h:=(e.aa2 ho).aa1.mp l;let{m,j}:=eZ hs ho d i;rcases KZ hs ho d e i (d5.mp h.p).2 (d5.mp h.q).2 with q|q
 .show q.symm
 exfalso;have:g=b7 b a J:=q;rw[<-this]at j;show kL hs ho e h j
theorem MU(h:l.Nodup):(T4 l).Nodup:=by
 have:((T4 l).map (·.1)).Nodup:=by
  unfold T4;rw[List.map_fst_zip]
  .show h
  simp;lia
 show(aBW.mp this).imp λ{a b} h e=>h (by rw[e])
def LH(J:List V)(fs:List (V×Int)):List (V×V):=fs.flatMap λf=>T4 (i8 J f)
omit hs ho in
theorem QX(fs:List (V×Int)):(LH J fs).length=(fs.map λf=>(i8 J f).length).sum:=by
 induction fs with
 |nil=>rfl
 |cons f fs a=>change(T4 (i8 J f)++LH J fs).length=_;rw[aAv,a,aAm,aBQ];unfold T4;simp;lia
theorem sS:∀{fs:List (V×Int)},fs.Nodup->(∀f∈fs,IsFace J f.1 f.2)->(LH J fs).Nodup:=by
 intro i j b;cases i with
 |nil=>show aCY
 |cons f fs=>have d:=aAZ.mp j;have h:=b f (.head _);change(T4 (i8 J f)++LH J fs).Nodup;rw[aCE];show{MU hs ho ((h.aa2 ho).aa4),sS d.2 λg a=>b g (.tail _ a),λe k n l q=>?_};subst q;let{g,a,m}:=aBe.mp l;show d.1 (PX hs ho h (b g<|.tail _ a) k m▸a)
theorem fY{fs:List (V×Int)}(s:fs.Nodup)(j:∀f∈fs,IsFace J f.1 f.2):(fs.map λf=>(i8 J f).length).sum+J.length<=J.length*J.length:=by
 have i:J.Nodup:=ho.imp λ{a b} h e=>by subst e;show J3 h
 have t:(LH J fs++J.map λa=>(a,a)).Nodup:=by rw[aCE];show{(sS hs ho s j),aBW.mpr (i.imp λ{a b} h e=>h (Prod.mk.inj e).1),λe d y u q=>?_};subst q;let{g,k,m}:=aBe.mp d;let{a,_,rfl}:=aAj.mp u;show(((j g k).aa2 ho).aa1.mp m).ne rfl
 have v:∀e∈LH J fs++J.map (λa=>(a,a)),e∈J.flatMap λa=>J.map λb=>(a,b):=λe d=>by
  rcases aAO.mp d with d|d
  .let{g,k,m}:=aBe.mp d;have n:=((j g k).aa2 ho).aa1.mp m;show aBe.mpr {e.1,(d5.mp n.p).1,aAj.mpr {e.2,(d5.mp n.q).1,rfl}}
  let{a,o,rfl}:=aAj.mp d;show aBe.mpr {a,o,aAj.mpr {a,o,rfl}}
 have r:=P7 t v;have w:(J.flatMap λa=>J.map λb=>(a,b)).length=J.length*J.length:=by
  have:∀l:List V,(l.flatMap λa=>J.map λb=>(a,b)).length=l.length*J.length:=λl=>by
   induction l with
   |nil=>simp
   |cons a l x=>rw[aEy,aAv,x,aAg,aAr,Nat.succ_mul];lia
  show this J
 rw[aAv,QX,aAg,w]at r;show r
theorem oF{fs:List (V×Int)}(a:∀f∈fs,IsFace J f.1 f.2):3*fs.length<=(fs.map λf=>(i8 J f).length).sum:=by
 induction fs with
 |nil=>simp
 |cons f fs b=>
  have:=b λg d=>a g (.tail _ d);let{r,s,t,l,e}:=B7 ho (a f<|.head _);have h:(i8 J f).length=l.length+3:=by change(l7 f.1 (x5 f.1 f.2 J)).length=_;rw[e];simp
  rw[aAm,aBQ,aAr,h]
  lia
end
theorem mL:∀(J:List V) (d b:V),(F6 a A J d b).2∈J\/(F6 a A J d b).2=b:=by
 intro f d b;cases f with
 |nil=>show .inr rfl
 |cons P e=>
  unfold F6;split
  .rcases mL e (cr a<|P-A) P with h|h
   .show .inl (.tail _ h)
   show .inl (by rw[h];show .head _)
  rcases mL e d b with h|h
  .show .inl (.tail _ h)
  show .inr h
section
variable{J c:List V} (hs:j7 J) (ho:J.Pairwise (λa b=>f8 (b-a))) (de:c.Pairwise (λa b=>f8 (b-a))) (hc:∀X,X∈c↔∃f:V×Int,IsFace J f.1 f.2/\X∈i8 J f)
include hs ho de hc
theorem yq(h:X∈c):X∈J:=by let{f,a,b}:=(hc X).mp h;show(d5.mp<|(a.aa2 ho).aa3 b).1
theorem mV(a:IsFace J n d)(h:X∈i8 J (n,d)):X∈x5 n d c:=d5.mpr {(hc X).mpr {(n,d),a,h},((d5.mp<|(a.aa2 ho).aa3 h).2)}
theorem a4d(h:X∈x5 n d c):X∈x5 n d J:=d5.mpr {yq hs ho de hc (d5.mp h).1,(d5.mp h).2}
theorem mY(a:IsFace J n d):IsFace c n d:=by
 have S:=a.aa2 ho;let{r,s,t,l,e}:=B7 ho a;have g:r∈l7 n (x5 n d J):=by nofun
 have i:s∈l7 n (x5 n d J):=by nofun
 have f:t∈l7 n (x5 n d J):=by nofun
 have b:=S.aa4;rw[e]at b;simp at b;have st:=S.strict (S.aa1.mp (by rw[e];simp[T4])) f (λq=>b.1.2.1 q.symm) (λq=>b.2.1.1 q.symm);have k:=λ{X} (h:X∈l7 n (x5 n d J))=>mV hs ho de hc a h;show{a.prim,λX j=>a.sup X (yq hs ho de hc j),r,(d5.mp<|k g).1,s,(d5.mp<|k i).1,t,(d5.mp<|k f).1,(d5.mp<|k g).2,(d5.mp<|k i).2,(d5.mp<|k f).2,λq=>?_};unfold i7 at st;rw[q,N0]at st
 lia
theorem yD(e:IsFace J n d)(h:EdgeOf n (λX=>X∈x5 n d J) a b):EdgeOf n (λX=>X∈x5 n d c) a b:=by have S:=e.aa2 ho;have m:=yT S (S.aa1.mpr h);show{mV hs ho de hc e m.1,mV hs ho de hc e m.2,h.ne,λX f=>h.left X (a4d hs ho de hc f),λX f=>h.btw X (a4d hs ho de hc f)}
omit hs ho de hc in
theorem qD{R:V->Prop}{E:List (V×V)}(g:∀a b,R a->(a,b)∈E->R b):∀(x:V) (l:List V),R x->(∀e∈m7 (x::l),e∈E)->∀X∈x::l,R X:=by
 intro x i f h X d;cases i with
 |nil=>rw[aAU.mp d];show f
 |cons y l=>
  have j:=g x y f (h (x,y) (by simp[m7]));rcases aAe.mp d with rfl|d
  .show f
  show qD g y l j (λe k=>h e (by erw[m7,aAe];show .inr k)) X d
theorem GB(i:IsFace J n d)(h:X∈l7 n (x5 n d c)):X∈l7 n (x5 n d J):=by
 have S:=i.aa2 ho;have o:=(mY hs ho de hc i).aa2 de;let{m,r,e,t,u}:=o.ab7;let{g,H,p,v,w}:=S.ab7;have x:m=g:=by
  have y:g∈x5 n d c:=mV hs ho de hc i (show g∈l7 n (x5 n d J)by rw[p];simp);rcases u g y with q|q
  .show q.symm
  rcases w m (a4d hs ho de hc t)with j|j
  .show j
  show k7 (w8.add q j) (by
   have:(g-m)+(m-g)=0:=by apply ext<;>simp<;>lia
   rw[this];showλz=>by simp[f8]at z)
 have step:∀a b,a∈l7 n (x5 n d J)->(a,b)∈T4 (l7 n<|x5 n d c)->b∈l7 n (x5 n d J):=λa b A k=>by let{I,s}:=cQ S A;have B:=o.aa1.mp k;have C:=yD hs ho de hc i (S.aa1.mp s);rw[B.next C];show(yT S s).2
 rw[e]at h;show qD (E:=T4 (l7 n<|x5 n d c)) (R:=λX=>X∈l7 n (x5 n d J)) step m r (by rw[x,p];simp) (λf l=>?_) X h;rw[e,O7];show X6 r m m f l
theorem AU(f:IsFace J n d)(h:EdgeOf n (λX=>X∈x5 n d c) a b):EdgeOf n (λX=>X∈x5 n d J) a b:=by have S:=f.aa2 ho;have g:=(mY hs ho de hc f).aa2 de;let{j,i}:=cQ S (GB hs ho de hc f<|g.ac6 h);have e:=S.aa1.mp i;rw[h.next (yD hs ho de hc f e)];show e
theorem JN(b:IsFace J n d):j7 c:=by
 have S:=b.aa2 ho;let{r,s,t,l,e}:=B7 ho b;have x:r∈l7 n (x5 n d J):=by rw[e];simp
 have o:t∈l7 n (x5 n d J):=by rw[e];simp
 have g:=S.aa4;rw[e]at g;simp at g;have a:EdgeOf n (λX=>X∈x5 n d J) r s:=S.aa1.mp (by rw[e];simp[T4]);have st:=S.strict a o (λq=>g.1.2.1 q.symm) (λq=>g.2.1.1 q.symm);let{i,y}:=eZ hs ho b a;generalize(b7 s r J).1=m at*
 generalize(b7 s r J).2=f at*
 have T:=i.aa2 ho;let{C,E,H,l2,j}:=B7 ho i;have A:=T.aa4;rw[j]at A;simp at A;obtain⟨Y,p,I,L⟩:∃Y∈l7 m (x5 m f J),Y≠s/\Y≠r:=by
  have q1:C∈l7 m (x5 m f J):=by rw[j];simp
  have q2:E∈l7 m (x5 m f J):=by rw[j];simp
  have q3:H∈l7 m (x5 m f J):=by rw[j];simp
  grind
 have lt:=xC hs i b y a (T.aa3 p) (T.strict y p I L);have k:=λ{X} (h:X∈l7 n (x5 n d J))=>mV hs ho de hc b (X:=X) h;have B:s∈l7 n (x5 n d J):=by rw[e];simp
 have dr:=(d5.mp<|k x).2;have N:=(d5.mp<|k B).2;have dt:=(d5.mp<|k o).2;show{r,(d5.mp<|k x).1,s,(d5.mp<|k B).1,t,(d5.mp<|k o).1,Y,(d5.mp<|mV hs ho de hc i p).1,λz=>?_};have O:c6 n (s-r)=0:=by rw[d6];lia
 have Q:c6 n (t-r)=0:=by rw[d6];lia
 have U:c6 n (Y-r)<0:=by rw[d6];lia
 have id:i7 (s-r) (t-r) (Y-r)*c6 n n=i7 n (s-r) (t-r)*c6 n (Y-r)+c6 n (s-r)*(c6 n (t-r)*0)+(c6 n (s-r)*i7 n (t-r) (Y-r)+c6 n (t-r)*i7 n (Y-r) (s-r)):=by
  generalize s-r=u;generalize t-r=v;generalize Y-r=w;have:=PR n n u v w
  lia
 rw[z,O,Q]at id;have:i7 n (s-r) (t-r)*c6 n (Y-r)<0:=aBo st U
 nofun
theorem oj(fs:List (V×Int))(k:fs≠[])(e:∀f,f∈fs↔IsFace J f.1 f.2):IsFace c n d↔IsFace J n d:=by
 show{λh=>?_,mY hs ho de hc};let{o,g}:=aFL fs k;have:=wT (JN hs ho de hc<|(e o).mp g) de fs k (λf i=>mY hs ho de hc ((e f).mp i)) (λf i a b j=>?_) h
 .show(e _).mp this
 have l:=(e f).mp i;let{m,p}:=eZ hs ho l (AU hs ho de hc l j);show{b7 b a J,(e _).mpr m,yD hs ho de hc m p}
theorem VO(b:X∈c):∃f:V×Int,IsFace c f.1 f.2/\X∈i8 c f:=by let{{n,d},a,h}:=(hc X).mp b;have S:=a.aa2 ho;let{Q,e}:=cQ S h;show{(n,d),mY hs ho de hc a,((mY hs ho de hc a).aa2 de).ac6 (yD hs ho de hc a<|S.aa1.mp e)}
end
def a2r{Pos:V->Prop}(C:Cone Pos){n m p v q u:V}(g:n≠0)(o:c6 n p=0)(d:c6 n v=0)(f:c6 n q=0)(r:c6 n u=0)(A:Pos p)(i:Pos v)(j:Pos q)(B:Pos u)(E:0<c6 m p)(mv:c6 m v<0)(k:0<c6 m q)(mu:c6 m u<0)(s:0<=i7 n v p)(t:0<=i7 n q u):False:=by
 have id:∀{a b c:V},c6 n a=0->c6 n b=0->c6 n c=0->i7 n a b*c6 m c+i7 n b c*c6 m a+i7 n c a*c6 m b=0:=λ{a b c} H I J=>by have:=PR m n a b c;rw[A1 g H I J,aEJ]at this;show this
 have L:=id d o f;have N:=id f r d;rcases aDJ 0 (i7 n q v)with h|h
 .
  have l:=C.tr j i A (A1 g f d o) h s;rw[(j8 n q p)]at L;have O:=aAT s (aAz k);have Q:0< -i7 n q p*c6 m v:=by have:=aAy l (show 0< -c6 m v by lia);grind
  have T:=aAy h E
  lia
 rcases aDJ (i7 n q v) 0 with h'|h'
 .have e0:=j8 n q v;have w:0<i7 n v q:=by lia
  have l:=C.tr i j B (A1 g d f r) w t;rw[(j8 n v u)]at N;have O:i7 n q u*c6 m v<=0:=by have:=aAT t (show 0<=-c6 m v by lia);grind
  have Q:-i7 n v u*c6 m q<0:=by have:=aAy l k;grind
  have T:i7 n v q*c6 m u<0:=by have:=aAy w (show 0< -c6 m u by lia);grind
  lia
 have z:i7 n q v=0:=by lia
 have c0:=cF g f d z;have e:c6 m q*v+(-c6 m v)*q=0:=by have U:=kM V.x c0;have Y:=kM V.y c0;have hz:=kM V.z c0;simp at U Y hz;apply ext<;>simp[c6]<;>grind
 have:=C.add (C.mul k i) (C.mul (show 0< -c6 m v by lia) j);rw[e]at this;show C.irr this
section
variable{n:V}{ts:List V} (S:Sheet n ts)
include S
theorem Sheet.ac7(h:X∈v8 n ts\/X∈v8 n ts.reverse):X∈l7 n ts:=by
 let{m,M,c,d,j,k,f,l,o,b,e,g,i,p,q}:=S.ends;unfold l7;rw[aAO,b,e,aAV,aAV,aBK,aBK,aCh,aCh];rw[b,e]at h;have a:m≠M:=λz=>by subst z;show J3 f
 rcases h with h|h
 .rcases aAe.mp h with rfl|h
  .right;have:=aDc i;rcases aAe.mp this with z|z
   .show k7 z.symm a
   show z
  show .inl h
 rcases aAe.mp h with rfl|h
 .left;have:=aDc g
  nofun
 show .inr h
theorem Sheet.top(d:X∈ts)(h:∀Y∈ts,Y≠X->c6 m Y<c6 m X):X∈l7 n ts:=by
 let{r,n1,t1}:=S.ab2;let{s,n2,t2}:=S.ab1;have t:∀u,f8 u->f8 (-u)->False:=λu w x=>by have:=w8.add w x;have y:u+-u=0:=(by apply ext<;>simp<;>lia);rw[y]at this;show w8.irr this
 have A:∀u,Q1 u->Q1 (-u)->False:=λu w x=>by have:=aZ.add w x;have y:u+-u=0:=(by apply ext<;>simp<;>lia);rw[y]at this;show aZ.irr this
 rcases tT X (v8 n ts) (λY _=>Q9 X Y) (λq B=>t1 X q B d) (λz C=>r.last X d z C) n1 t with E|⟨a,b,j,O,Q⟩
 .show S.ac7 (.inl E)
 rcases tT X (v8 n ts.reverse) (λY _=>by
   rcases Q9 X Y with z|z|z
   .show .inl z
   .show .inr (.inr (q8.mpr z))
   show .inr (.inl (q8.mpr z))) (λq B=>t2 X q B d) (λz C=>s.last X d z C) n2 A with E|⟨p,H,f,I,jr⟩
 .show S.ac7 (.inr E)
 exfalso;have T:=L7 S j;have U:=L7 S f;have J:=r.mem _ T.1;have L:=r.mem _ T.2;have g:=s.mem _ U.1;have i:=s.mem _ U.2;have E2:=(S.ae2 f g i).1.left X d;have k:=q8.mp I;have l:=q8.mp jr;have ne:∀{Y},f8 (X-Y)->Y≠X:=λN z=>by subst z;show J3 N
 have o:∀{Y},f8 (Y-X)->Y≠X:=λN z=>by subst z;show J3 N
 have va:=h a J (ne O);have vb:=h b L (o Q);have va':=h p g (o k);have vb':=h H i (ne l);show a2r w8 (n:=n) (m:=m) (v:=b-X) S.nz (S.pl _ d _ J) (S.pl _ L _ d) (S.pl _ d _ i) (S.pl _ g _ d) O Q l k (by rw[d6];lia) (by rw[d6];lia) (by rw[d6];lia) (by rw[d6];lia) ?_ ?_
 .have e:i7 n (b-a) (X-a)=i7 n (b-X) (X-a):=by simp[i7,c6];grind
  rw[<-e];show((S.ae5 j J L).1.left X d)
 have e:i7 n (H-p) (X-p)=i7 n (X-H) (p-X):=by simp[i7,c6];grind
 rw[<-e];show E2
end
section
variable{J:List V} (hs:j7 J)
include hs
theorem lT(a:IsFace J n d)(b:IsFace J m e)(p:c6 n X=d)(r:c6 m X=e)(h:cr m n=0):(n,d)=(m,e):=by
 let{k,l,f,g}:=A6 b.prim.ne h;let{Z,i,s}:=hs.below a.prim.ne a.sup;have j:0<l:=by
  have q:=kM (λv=>c6 v (Z-X)) g;rw[M5,M5]at q;have o:c6 n (Z-X)<0:=by rw[d6];lia
  have t:c6 m (Z-X)<=0:=by rw[d6];have:=b.sup Z i;lia
  have u:=aBo f o;by_cases z:0<l
  .show z
  exfalso;have:0<=l*c6 m (Z-X):=by
   have:=aAT (show 0<=-l by lia) (show 0<=-c6 m (Z-X)by lia)
   rwa [aDI]at this
  lia
 have w:=xH a.prim b.prim f j g
 nofun
theorem FH{a b c:Int}(j:IsFace J n d)(l:IsFace J m e)(o:IsFace J k f)(hX:c6 n X=d)(qc:c6 m X=e)(p:c6 k X=f)(hc:0<c)(r:0<a)(s:0<b)(h:c*k=a*n+b*m)(t:cr n m≠0):False:=by
 let{A,u,B,w,C,x,y,E,H,g}:=o.three;have on:∀Y∈J,c6 k Y=f->c6 n Y=d/\c6 m Y=e:=λY i hy=>by
  have h1:=j.sup Y i;have h2:=l.sup Y i;have q:=kM (λv=>c6 v (Y-X)) h;have q:c*c6 k (Y-X)=a*c6 n (Y-X)+b*c6 m (Y-X):=by
   have I:c6 (a*n+b*m) (Y-X)=a*c6 n (Y-X)+b*c6 m (Y-X):=by simp[c6];grind
   rw[<-(M5 ..),<-I];show q
  have L:c6 k (Y-X)=0:=by rw[d6];lia
  rw[L,aEI]at q;have N:c6 n (Y-X)<=0:=by rw[d6];lia
  have O:c6 m (Y-X)<=0:=by rw[d6];lia
  have a0:=aEg (aAz r) N;have b0:=aEg (aAz s) O;have Q:a*c6 n (Y-X)=0:=by lia
  have T:b*c6 m (Y-X)=0:=by lia
  have U:c6 n (Y-X)=0:=by rcases aAq.mp Q with z|z;lia;show z
  have y2:c6 m (Y-X)=0:=by rcases aAq.mp T with z|z;lia;show z
  rw[d6]at U y2;show{by lia,by lia}
 let{a1,a2}:=on A u y;let{b1,b2}:=on B w E;let{c1,c2}:=on C x H;have p2:cr m (cr (B-A)<|C-A)=0:=J2 (by rw[d6];lia) (by rw[d6];lia);show t (tW g (J2 (by rw[d6];lia) (by rw[d6];lia)) p2)
theorem wX(o:IsFace J n d)(p:IsFace J m e)(i:IsFace J k f)(B:c6 n X=d)(C:c6 m X=e)(E:c6 k X=f)(n12:(n,d)≠(m,e))(n13:(n,d)≠(k,f))(n23:(m,e)≠(k,f)):i7 n m k≠0:=λz=>by
 have H:cr n m≠0:=λq=>n12 (lT hs p o C B q).symm;have I:cr n k≠0:=λq=>n13 (lT hs i o E B q).symm;have L:cr m k≠0:=λq=>n23 (lT hs i p E C q).symm;have j:∀{u v:V},cr u v≠0->cr v u≠0:=λ{u v} h q=>h (by have N:=kM V.x q;have g:=kM V.y q;have A:=kM V.z q;simp at N g A;apply ext<;>simp<;>grind)
 obtain⟨w,ew⟩:∃w,w=cr n m:={_,rfl};have r:=EY w n m k;rw[z]at r;have O:0<i7 w n m:=by
  have:i7 w n m=c6 w w:=by rw[ew];rfl
  rw[this,ew];show o6 H
 obtain⟨c,ec⟩:∃c,c=i7 w n m:={_,rfl};obtain⟨a,ea⟩:∃a,a=-i7 w m k:={_,rfl};obtain⟨b,eb⟩:∃b,b=-i7 w k n:={_,rfl};have T:c*k=a*n+b*m:=by rw[ec,ea,eb];have N:=kM V.x r;have g:=kM V.y r;have A:=kM V.z r;simp at N g A;apply ext<;>simp<;>lia
 rw[<-ec]at O;have U:=kM V.x T;have Y:=kM V.y T;have vz:=kM V.z T;simp at U Y vz;have l:∀{u v:V}{s t:Int},s≠0->s*u=t*v->cr u v=0:=λ{u v s t} jo h=>by
  have N:=kM V.x h;have g:=kM V.y h;have A:=kM V.z h;simp at N g A;have go:∀y:Int,s*y=0->y=0:=λy g=>by rcases aAq.mp g with q|q;show k7 q jo;show q
  apply ext<;>simp<;>apply go<;>grind
 rcases aDJ 0 a with ha|ha
 .rcases aDJ 0 b with Q|Q
  .show FH hs o p i B C E O ha Q T H
  rcases aDJ b 0 with jr|jr
  .
   show FH hs i p o E C B ha O (show 0< -b by lia) (c:=a) (a:=c) (b:=-b) ?_ (j L);apply ext<;>simp<;>lia
  have b0:b=0:=by lia
  show I (l (u:=n) (v:=k) (s:=a) (t:=c) (by lia) ?_);rw[b0]at U Y vz;apply ext<;>simp<;>lia
 rcases aDJ a 0 with ha'|ha'
 .rcases aDJ 0 b with Q|Q
  .show FH hs i o p E B C Q O (show 0< -a by lia) (c:=b) (a:=c) (b:=-a) ?_ (j I);apply ext<;>simp<;>lia
  .
   let{Z,hZ,A}:=hs.below i.prim.ne i.sup;have q:c*c6 k (Z-X)=a*c6 n (Z-X)+b*c6 m (Z-X):=by simp[c6];grind
   have k0:c6 k (Z-X)<0:=by rw[d6];lia
   have n0:c6 n (Z-X)<=0:=by rw[d6];have:=o.sup Z hZ;lia
   have m0:c6 m (Z-X)<=0:=by rw[d6];have:=p.sup Z hZ;lia
   have t1:c*c6 k (Z-X)<0:=aBo O k0;have t2:0<=a*c6 n (Z-X):=by
    have:=aAT (show 0<=-a by lia) (show 0<=-c6 n (Z-X)by lia)
    rwa [aDI]at this
   have t3:0<=b*c6 m (Z-X):=by
    have:=aAT (show 0<=-b by lia) (show 0<=-c6 m (Z-X)by lia)
    rwa [aDI]at this
   lia
 have a0:a=0:=by lia
 by_cases b0:b=0
 .rw[a0,b0]at U Y vz;have k0:k=0:=by
   have go:∀y:Int,c*y=0->y=0:=λy g=>by rcases aAq.mp g with q|q;lia;show q
   apply ext<;>simp<;>apply go<;>lia
  show i.prim.ne k0
 show L (l (u:=m) (v:=k) (s:=b) (t:=c) b0 ?_);rw[a0]at U Y vz;apply ext<;>simp<;>lia
theorem tV(t:J.Pairwise (λa b=>f8 (b-a)))(u:X∈J)(g:IsFace J n d)(o:IsFace J m e)(p:IsFace J k f)(r:c6 n X=d)(v:c6 m X=e)(w:c6 k X=f)(h:(n,d)≠(m,e))(i:(n,d)≠(k,f))(j:(m,e)≠(k,f)):X∈i8 J (n,d):=by
 show(g.aa2 t).top (m:=n+m+k) (d5.mpr {u,r}) λY x z=>?_;have l:=(d5.mp x).1;have I:=g.sup Y l;have L:=o.sup Y l;have N:=p.sup Y l;have s:∀Z,c6 (n+m+k) Z=c6 n Z+c6 m Z+c6 k Z:=λZ=>by simp[c6];grind
 rw[s,s];rcases aDJ (c6 n Y+c6 m Y+c6 k Y) (c6 n X+c6 m X+c6 k X)with q|q
 .show q
 exfalso;have A:c6 n (Y-X)=0:=by rw[d6];lia
 have B:c6 m (Y-X)=0:=by rw[d6];lia
 have C:c6 k (Y-X)=0:=by rw[d6];lia
 show z (N9 ?_);generalize Y-X=y at*
 have E:∀y:Int,i7 n m k*y=0->y=0:=λy H=>by rcases aAq.mp H with q|q;show k7 q (wX hs g o p r v w h i j);show q
 simp[c6]at A B C;apply ext<;>simp<;>apply E<;>simp[i7,c6]<;>grind
end
def Up(J:List V)(A B C:V):Prop:=(∀X∈J,c6 (cr (B-A)<|C-A) (X-A)<=0)/\∃X∈J,c6 (cr (B-A)<|C-A) (X-A)<0
def Dn(J:List V)(A B C:V):Prop:=(∀X∈J,0<=c6 (cr (B-A)<|C-A) (X-A))/\∃X∈J,0<c6 (cr (B-A)<|C-A) (X-A)
def b0v(J:List V)(A B C:V):Prop:=∃i j k:Nat,i<j/\j<k/\J[i]?=some A/\J[j]?=some B/\J[k]?=some C
def gj{J:List V}{A B C:V}(E:A∈J)(H:B∈J)(I:C∈J)(e:cr (B-A) (C-A)≠0):∃r s t,b0v J r s t/\cr (s-r) (t-r)≠0/\∀p:V->Prop,p A->p B->p C->p r/\p s/\p t:=by
 let{i,g}:=aBX.mp E;let{j,f}:=aBX.mp H;let{k,d}:=aBX.mp I;have l:∀{v w:V},v≠0->(w=v\/w=-v)->w≠0:=λ{v w} u h z=>by
  rcases h with h|h
  .show u (h▸z)
  rw[h]at z;have L:=kM V.x z;have N:=kM V.y z;have O:=kM V.z z;simp at L N O;show u (ext (by erw[GK];lia) (by erw[DU];lia) (by erw[FP];lia))
 have Q:i≠j:=λq=>by
  subst q;rw[g]at f;injection f with f;subst f
  show e (by apply ext<;>simp)
 have T:i≠k:=λq=>by
  subst q;rw[g]at d;injection d with d;subst d
  show e (by apply ext<;>simp)
 have U:j≠k:=λq=>by
  subst q;rw[f]at d;injection d with d;subst d
  show e (by apply ext<;>simp<;>grind)
 rcases aEi Q with m|m<;>rcases aEi T with n|n<;>rcases aEi U with o|o
 .show{A,B,C,{i,j,k,m,o,g,f,d},e,λp a b c=>{a,b,c}}
 .show{A,C,B,{i,k,j,n,o,g,d,f},l e (.inr (by apply ext<;>simp<;>grind)),λp a b c=>{a,c,b}}
 .omega
 .show{C,A,B,{k,i,j,n,m,d,g,f},l e (.inl (by apply ext<;>simp<;>grind)),λp a b c=>{c,a,b}}
 .show{B,A,C,{j,i,k,m,n,f,g,d},l e (.inr (by apply ext<;>simp<;>grind)),λp a b c=>{b,a,c}}
 .omega
 .show{B,C,A,{j,k,i,o,n,f,d,g},l e (.inl (by apply ext<;>simp<;>grind)),λp a b c=>{b,c,a}}
 show{C,B,A,{k,j,i,o,m,d,f,g},l e (.inr (by apply ext<;>simp<;>grind)),λp a b c=>{c,b,a}}
abbrev T3:=V×V×V
def tr(r:T3):T3:=({r.1.x,r.2.1.x,r.2.2.x},{r.1.y,r.2.1.y,r.2.2.y},{r.1.z,r.2.1.z,r.2.2.z})
def b0g:T3:=({1,0,0},{0,1,0},{0,0,1})
def b1g(r:T3):tr (tr r)=r:=rfl
abbrev Mv:=T3×V
def a0b:Mv:=(b0g,0)
section
variable{J qts:List V}{m:Mv}{n:V}{d:Int}
end
section
end
section
variable{J qts:List V}{n:V}{d:Int}
def yS(t:Int)(v:V):V:={t*v.x,t*v.y,t*v.z}
end
structure Sl where
 a:Int
 b:Int
 c:Int
 w:V
 t:Bool
def Sl.put(s:Sl)(P:V):V:=
 let x:=P.x+s.a*P.y
 let y:=P.y+s.b*P.z
 let z:=P.z+s.c*x
 if s.t then{y+s.w.x,x+s.w.y,z+s.w.z}else{x+s.w.x,y+s.w.y,z+s.w.z}
def Sl.mv(s:Sl):Mv:=
 let d:V:={1,s.a,0}
 let e:V:={0,1,s.b}
 let f:V:={s.c,s.c*s.a,1}
 (if s.t then(e,d,f)else(d,e,f),s.w)
def NG{t:Int}(d:t≠0){J a:List V}(b:∀X∈J,yS t X∈a)(S:j7 J):j7 a:=by
 let{A,f,B,g,C,h,D,i,e}:=S;show{_,b A f,_,b B g,_,b C h,_,b D i,?_};have:i7 (yS t B-yS t A) (yS t C-yS t A) (yS t D-yS t A)=t*t*t*i7 (B-A) (C-A) (D-A):=by simp[yS,i7,c6,cr];grind
 rw[this];intro z;rcases aAq.mp z with z|z
 .rcases aAq.mp z with z|z
  .rcases aAq.mp z with z|z<;>show d z
  show d z
 show e z
def uR{n m k y:V}(a:i7 n m k≠0)(d:c6 n y=0)(g:c6 m y=0)(h:c6 k y=0):y=0:=by
 have i:∀t:Int,i7 n m k*t=0->t=0:=λt j=>by
  rcases aAq.mp j with q|q
  .show k7 q a
  show q
 have e:∀f:V->Int,(f=(·.x)\/f=(·.y)\/f=(·.z))->i7 n m k*f y=c6 n y*f (cr m k)+c6 m y*f (cr k n)+c6 k y*f (cr n m):=λf b=>by rcases b with rfl|rfl|rfl<;>simp[i7,c6]<;>grind
 have z:=λf b=>i _ (by rw[e f b,d,g,h];simp);show ext (z _<|.inl rfl) (z _<|.inr (.inl rfl)) (z _<|.inr (.inr rfl))
def kq{a b p q d:Int}(f:0<a)(g:0<b)(i:p<=d)(j:q<=d)(e:(a+b)*d=a*p+b*q):p=d:=by
 have k:=aAT (aAz f) (show 0<=d-p by lia);have l:=aAT (aAz g) (show 0<=d-q by lia);have m:a*(d-p)+b*(d-q)=0:=by grind
 have h:a*(d-p)=0:=by
  generalize a*(d-p)=u at*
  generalize b*(d-q)=v at*
  lia
 rcases aAq.mp h with q|q<;>lia
section
variable{J:List V} (hs:j7 J) (ho:J.Pairwise (λa b=>f8 (b-a)))
include hs ho
theorem sG(f:IsFace J n d)(p:X∈i8 J (n,d))(r:P∈J)(s:Q∈J){a b:Int}(t:0<a)(u:0<b)(e:(a+b)*X=a*P+b*Q):P=X:=by
 let{y,z,g,i,v,w,x,j,k,l}:=kI hs ho f p;have on:∀{m:V}{c:Int},IsFace J m c->c6 m X=c->c6 m (P-X)=0:=λ{m c} h o=>by have q:=kM (c6 m) e;rw[u6,show c6 m (a*P+b*Q)=a*c6 m P+b*c6 m Q by simp[c6];grind,o]at q;rw[d6,o,kq t u (h.sup P r) (h.sup Q s) q];lia
 show N9 (uR (wX hs f g i j k l v w x) (on f j) (on g k)<|on i l)
theorem YR(g:∃f:V×Int,IsFace J f.1 f.2/\A∈i8 J f)(i:∃f:V×Int,IsFace J f.1 f.2/\B∈i8 J f)(j:∃f:V×Int,IsFace J f.1 f.2/\C∈i8 J f)(E:A≠B)(l:A≠C)(u:B≠C):cr (B-A) (C-A)≠0:=λz=>by
 have d:∀{X:V},(∃f:V×Int,IsFace J f.1 f.2/\X∈i8 J f)->X∈J:=λ{X} ⟨f,n,o⟩=>(d5.mp<|(n.aa2 ho).aa3 o).1;have p:∀{X P Q:V}{a b:Int},(∃f:V×Int,IsFace J f.1 f.2/\X∈i8 J f)->P∈J->Q∈J->0<a->0<b->(a+b)*X=a*P+b*Q->P=X:=λ⟨f,n,o⟩ H I L N e=>sG hs ho n o H I L N e;let{k,m,v,e}:=A6 (a:=B-A) (w:=C-A) (λq=>E (N9 q).symm) z;have r:=kM V.x e;have s:=kM V.y e;have t:=kM V.z e;simp at r s t;rcases Int.lt_trichotomy m 0 with h|h|h
 .show l (p g (d j) (d i) v (show 0< -m by lia) (by apply G.ext<;>simp<;>grind)).symm
 .subst h;show l (G.ext ?_ ?_ ?_)
  .rcases aAq.mp (show k*(C.x-A.x)=0 by lia)with q|q<;>lia
  .rcases aAq.mp (show k*(C.y-A.y)=0 by lia)with q|q<;>lia
  rcases aAq.mp (show k*(C.z-A.z)=0 by lia)with q|q<;>lia
 rcases Int.lt_trichotomy m k with q|q|q
 .show l (p j (d g) (d i) (show 0<k-m by lia) h (by apply G.ext<;>simp<;>grind))
 .subst q;show u (G.ext ?_ ?_ ?_)
  .rcases aAq.mp (show m*(C.x-B.x)=0 by grind)with q|q<;>lia
  .rcases aAq.mp (show m*(C.y-B.y)=0 by grind)with q|q<;>lia
  rcases aAq.mp (show m*(C.z-B.z)=0 by grind)with q|q<;>lia
 show u (p i (d j) (d g) v (show 0<m-k by lia) (by apply G.ext<;>simp<;>grind)).symm
end
section
variable{J:List V} (hs:j7 J) (ho:J.Pairwise (λa b=>f8 (b-a)))
include hs ho
end
section
variable{J qts:List V}{n:V}{d:Int}{m:Mv}
end
section
variable{p o:List V} (hs:j7 o) (ho:o.Pairwise (λa b=>f8 (b-a))) (sub:∀X∈p,X∈o) (ex:∀Y∈o,Y∈p\/∃a∈p,∃b∈p,(2:Int)*Y=a+b)
include hs ho sub ex
end
section
variable{J c:List V} (hs:j7 J) (ho:J.Pairwise (λa b=>f8 (b-a))) (de:c.Pairwise (λa b=>f8 (b-a))) (hc:∀X,X∈c↔∃f:V×Int,IsFace J f.1 f.2/\X∈i8 J f)
include hs ho de hc
end
section
variable{J:List V} (hs:j7 J) (ho:J.Pairwise (λa b=>f8 (b-a)))
include hs ho
end
section
variable{J:List V} (hs:j7 J)
include hs
end
section
variable{J:List V} (hs:j7 J) (ho:J.Pairwise (λa b=>f8 (b-a)))
include hs ho
end
theorem wK{e:Type}(a b:e->Int):∀l:List e,l≠[]->(∀x∈l,0<b x)->∃x∈l,∀y∈l,a x*b y<=a y*b x
 |[x],_,_=>{x,.head _,λy d=>by rw[aAU.mp d];show aCa _}
 |x::z::l,_,h=>by
  let{u,f,m}:=wK a b (z::l) (by simp) λy d=>h y (.tail _ d);by_cases q:a x*b u<=a u*b x
  .show{x,.head _,λy d=>?_};rcases aAe.mp d with rfl|d
   .show aCa _
   have g:=aAM q (aAz<|h y<|.tail _ d);have i:=aAM (m y d) (aAz<|h x<|.head _);show aFK (by grind) (h u<|.tail _ f)
  show{u,.tail _ f,λy d=>?_};rcases aAe.mp d with rfl|d
  .lia
  show m y d
section
variable{J:List V} (hs:j7 J) (ho:J.Pairwise (λa b=>f8 (b-a)))
include hs ho
end
section
open Classical
structure Hgt(w:V)(J:List V):Prop where
 ne:w≠0
 inj:∀X∈J,∀Y∈J,X≠Y->c6 w (X-Y)≠0
section
variable{J:List V}{w:V} (hs:j7 J) (ho:J.Pairwise (λa b=>f8 (b-a))) (hw:Hgt w J)
include hs ho hw
omit hs ho hw in
omit hs ho hw in
omit hs ho hw in
end
end
section
open Classical
variable{J:List V} (hs:j7 J) (ho:J.Pairwise (λa b=>f8 (b-a)))
include hs ho
end
section
open Classical
variable{J:List V} (hs:j7 J) (ho:J.Pairwise (λa b=>f8 (b-a))) {fs:List (V×Int)} (hfs:∀f,f∈fs↔IsFace J f.1 f.2)
include hs ho hfs
end
def smV:List V->V
 |[]=>0
 |a::l=>a+smV l
def ar(o:V)(l:List (V×V)):V:=smV (l.map λe=>cr (e.1-o) (e.2-o))
def a8w(o:V)(e:V×V)(l:List (V×V)):ar o (e::l)=cr (e.1-o) (e.2-o)+ar o l:=rfl
def rG{n u v:V}(a:c6 n u=0)(b:c6 n v=0)(w:V):c6 n n*c6 (cr u v) w=c6 n (cr u v)*c6 n w:=by
 have z:=J2 a b;have e:c6 n n*c6 (cr u v) w-c6 n (cr u v)*c6 n w=c6 (cr n<|cr u v) (cr n w):=by simp[c6];grind
 rw[z]at e;have:c6 (0:V) (cr n w)=0:=by simp[c6]
 lia
section
variable{n:V}{d:Int}{l:List (V×V)}{a:V}
end
section
open Classical
variable{J:List V} (hs:j7 J) (ho:J.Pairwise (λa b=>f8 (b-a)))
include hs ho
variable{fs:List (V×Int)} (hfs:∀f,f∈fs↔IsFace J f.1 f.2)
include hfs
end
theorem turn_find{s:V->Int}:∀{x:V}{l:List V},0<=s x->(∀y,(x::l).getLast?=some y->s y<=0)->l≠[]->∃p∈m7 (x::l),0<=s p.1/\s p.2<=0
 |x,[],_,_,h=>k7 rfl h
 |x,[y],a,b,_=>{(x,y),.head _,a,b y rfl}
 |x,y::z::l,a,b,_=>by
  by_cases q:s y<=0
  .show{(x,y),.head _,a,q}
  let{p,d,e}:=turn_find (x:=y) (by lia) (λw f=>b w (by rw[aDm];show f)) (by simp);show{p,.tail _ d,e}
section
variable{J:List V} (hs:j7 J) (ho:J.Pairwise (λa b=>f8 (b-a)))
include hs ho
theorem OI{n m A P a b:V}{d e:Int}(h:IsFace J n d)(r:IsFace J m e)(f:EdgeOf n (λX=>X∈x5 n d J) a b)(i:EdgeOf m (λX=>X∈x5 m e J) b a)(U:c6 n A<d)(s:c6 m A<=e)(Y:(d-c6 n A)*c6 m (P-A)<=(e-c6 m A)*c6 n (P-A)):0<=i7 (P-A) (a-A) (b-A):=by
 let{X,j,l}:=h.ac4 f;have mX:=xC hs h r f i j l;have w:=(d5.mp j).2;have o:=(d5.mp f.p).2;have x:=(d5.mp f.q).2;have B:=(d5.mp i.q).2;have C:=(d5.mp i.p).2;have g:∀y:V,c6 ((e-c6 m A)*n-(d-c6 n A)*m) y=(e-c6 m A)*c6 n y-(d-c6 n A)*c6 m y:=λy=>by simp[c6];grind
 have E:cr ((e-c6 m A)*n-(d-c6 n A)*m) (cr (a-A)<|b-A)=0:=by
  show J2 ?_ ?_
  .rw[g,d6,d6,o,B];grind
  rw[g,d6,d6,x,C];grind
 have k:=rL E (X-A) (P-A);have H:0<c6 ((e-c6 m A)*n-(d-c6 n A)*m) (X-A):=by rw[g,d6,d6,w];have:=aAy (show 0<d-c6 n A by lia) (show 0<e-c6 m X by lia);grind
 have I:0<=c6 ((e-c6 m A)*n-(d-c6 n A)*m) (P-A):=by rw[g];lia
 have L:0<c6 (cr (a-A)<|b-A) (X-A):=by
  have N:=rG (n:=n) (u:=b-a) (v:=X-a) (by rw[d6];lia) (by rw[d6];lia) (a-A);have O:c6 (cr (a-A)<|b-A) (X-A)=c6 (cr (b-a)<|X-a) (a-A):=by simp[c6];grind
  have t:c6 n (cr (b-a)<|X-a)=i7 n (b-a) (X-a):=rfl;rw[t,show c6 n (a-A)=d-c6 n A by rw[d6,o]]at N;rw[O];have Q:=o6 h.prim.ne;have:=aAy l (show 0<d-c6 n A by lia);by_cases z:0<c6 (cr (b-a)<|X-a) (a-A)
  .show z
  have:=aAT (aAz Q) (show 0<=-c6 (cr (b-a)<|X-a) (a-A)by lia);grind
 have T:i7 (P-A) (a-A) (b-A)=c6 (cr (a-A)<|b-A) (P-A):=by simp[i7,c6];grind
 rw[T];by_cases z:0<=c6 (cr (a-A)<|b-A) (P-A)
 .show z
 have x1:=aAy H (show 0< -c6 (cr (a-A)<|b-A) (P-A)by lia);have x2:=aAT I (aAz L);grind
theorem HA{A:V}{f:V×Int}(h:IsFace J f.1 f.2)(k:A∈i8 J f):∃g:V×Int,IsFace J g.1 g.2/\c6 g.1 A<g.2:=by
 have S:=h.aa2 ho;let{x,y,z,r,e}:=B7 ho h;have e:i8 J f=x::y::z::r:=e;have d:(i8 J f).Nodup:=S.aa4;have n:T4 (i8 J f)=m7 (x::y::z::r++[x]):=by rw[e,<-cW];rfl
 rw[e]at d;obtain⟨a,b,o,p,s⟩:∃a b,(a,b)∈T4 (i8 J f)/\A≠a/\A≠b:=by
  rw[n];by_cases i:A=x
  .show{y,z,.tail _ (.head _),λq=>?_,λq=>?_}
   .rw[i]at q;rw[q]at d;simp at d
   rw[i]at q;rw[q]at d;simp at d
  by_cases l:A=y
  .have:∃w,(z,w)∈m7 (z::r++[x])/\w≠y:=by
    match r,d with
    |[],d=>show{x,.head _,λq=>by rw[q]at d;simp at d}
    |w::r,d=>show{w,.head _,λq=>by rw[q]at d;simp at d}
   let{w,t,u}:=this;show{z,w,.tail _ (.tail _ t),λq=>by rw[l]at q;rw[q]at d;simp at d,λq=>u (by nofun)}
  show{x,y,.head _,i,l}
 have E:=S.aa1.mp o;let{m,v}:=eZ hs ho h E;show{b7 b a J,m,?_};have j:=S.aa3 k;show xC hs h m E v j (S.strict E k p s)
variable{fs:List (V×Int)} (hfs:∀f,f∈fs↔IsFace J f.1 f.2)
include hfs
theorem GE{A P:V}{e:V×Int}(j:IsFace J e.1 e.2)(l:A∈i8 J e)(o:∀f∈fs,c6 f.1 P<=f.2):∃f∈fs,c6 f.1 A<f.2/\∀p∈T4 (i8 J f),0<=i7 (P-A) (p.1-A) (p.2-A):=by
 have h:A∈J:=(d5.mp<|(j.aa2 ho).aa3 l).1;let{g,r,s}:=HA hs ho j l;have b:∀{f:V×Int},f∈fs.filter (λf=>decide (c6 f.1 A<f.2))↔f∈fs/\c6 f.1 A<f.2:=λ{f}=>by rw[aCp,decide_eq_true_eq]
 let{f,i,a}:=wK (λf:V×Int=>-c6 f.1 (P-A)) (λf=>f.2-c6 f.1 A) (fs.filter λf=>decide (c6 f.1 A<f.2)) (λz=>by have:=b.mpr {(hfs g).mpr r,s};rw[z]at this;cases this) λf i=>by have:=(b.mp i).2;lia
 let{m,n}:=b.mp i;have F:=(hfs f).mp m;show{f,m,n,λp t=>?_};have E:=(F.aa2 ho).aa1.mp t;let{d,u}:=eZ hs ho F E;have v:=d.sup A h;show OI hs ho F d E u n v ?_;by_cases q:c6 (b7 p.2 p.1 J).1 A<(b7 p.2 p.1 J).2
 .have:=a _ (b.mpr {(hfs _).mpr d,q});grind
 have w:=o _ ((hfs _).mpr d);have:(b7 p.2 p.1 J).2-c6 (b7 p.2 p.1 J).1 A=0:=by lia
 rw[this,aEJ];have k:c6 (b7 p.2 p.1 J).1 (P-A)<=0:=by rw[d6];lia
 have:=aAT (show 0<=f.2-c6 f.1 A by lia) (show 0<=-c6 (b7 p.2 p.1 J).1 (P-A)by lia);grind
theorem RK{A P:V}{d:V×Int}(k:IsFace J d.1 d.2)(m:A∈i8 J d)(n:∀f∈fs,c6 f.1 P<=f.2):∃f∈fs,c6 f.1 A<f.2/\∃x r,i8 J f=x::r/\∃p∈m7 r,0<=i7 (P-A) (x-A) (p.1-A)/\0<=i7 (P-A) (p.1-A) (p.2-A)/\0<=i7 (P-A) (p.2-A) (x-A):=by
 let{f,g,o,a}:=GE hs ho hfs k m n;let{x,y,z,r,e}:=B7 ho ((hfs f).mp g);have e:i8 J f=x::y::z::r:=e;have q:T4 (i8 J f)=m7 (x::y::z::r++[x]):=by rw[e,<-cW];rfl
 rw[q]at a;have lst:∀(l:List V) (w b:V),(w::l).getLast?=some b->(b,x)∈m7 (w::l++[x]):=λl=>by
  induction l with
  |nil=>intro w b h;simp at h;subst h;show .head _
  |cons v l t=>intro w b h;show .tail _ (t v b (by nofun))
 have i:∀u v:V,i7 (P-A) u v=-i7 (P-A) v u:=λu v=>by simp[i7,c6];grind
 let{p,j,B,E}:=turn_find (s:=λv=>i7 (P-A) (x-A) (v-A)) (a (x,y)<|.head _) (λw C=>by have:=a (w,x) (.tail _ (lst (z::r) y w C));dsimp only at this;rw[i]at this;lia) (by simp)
 show{f,g,o,x,y::z::r,e,p,j,B,(a p<|.tail _ (X6 _ _ _ _ j)),by rw[i];lia}
end
end G
namespace ST
open PySem PySem.SetTable
def OL(Y:Array Nat):Prop:=∀(i k:Nat) (a:i<Y.size) (b:k<Y.size),i<k->Y[i]<Y[k]
theorem yP(Y:Array Nat)(j:Nat)(d:OL Y):∀(a lo b:Nat),lo<=b->b<=Y.size->b-lo<=a->(∀i (h:i<Y.size),i<lo->Y[i]<j)->(∀i (h:i<Y.size),b<=i->j<=Y[i])->
  below.go Y j a lo b<=Y.size/\(∀i (h:i<Y.size),i<below.go Y j a lo b->Y[i]<j)/\(∀i (h:i<Y.size),below.go Y j a lo b<=i->j<=Y[i])
 |0,lo,b,o,f,p,g,k=>by
  have:lo=b:=by lia
  subst this;unfold below.go;show{f,g,k}
 |a+1,lo,b,o,f,p,g,k=>by
  unfold below.go;by_cases n:lo<b
  .rw[km n];have m:(lo+b)/2<Y.size:=by lia
   have e:Y.getD ((lo+b)/2) j=Y[(lo+b)/2]:=by simp[aFS,m]
   dsimp only;rw[e];by_cases l:Y[(lo+b)/2]<j
   .rw[km l];show yP Y j d a _ _ (by lia) f (by lia) (λi h r=>?_) k;by_cases q:i=(lo+b)/2
    .subst q;show l
    show aEK (d i _ h m (by lia)) l
   rw[kn l];show yP Y j d a _ _ (by lia) (by lia) (by lia) g (λi h r=>?_);by_cases q:i=(lo+b)/2
   .subst q;lia
   have:=d _ i m h (by lia);lia
  rw[kn n];have:lo=b:=by lia
  subst this;show{f,g,k}
def cN(a:OL Y)(j:Nat):below Y j<=Y.size/\(∀i (h:i<Y.size),i<below Y j->Y[i]<j)/\(∀i (h:i<Y.size),below Y j<=i->j<=Y[i]):=
 yP Y j a Y.size 0 Y.size (aAS _) (aAi _) (by lia) (λi h b=>by lia) (λi h b=>by lia)
def VR(a:OL Y)(h:Y[i]?=some j):below Y j=i:=by
 let{b,e}:=aCj.mp h;let{k,f,g}:=cN a j;rcases Nat.lt_trichotomy (below Y j) i with q|q|q
 .have d:below Y j<Y.size:=by lia
  have l:=g _ d (aAi _);have m:=a _ _ d b q
  lia
 .show q
 have:=f i b q;lia
structure Tab(t:SetTable):Prop where
 asc:OL t.place
 le:∀j∈t.place.toList,j<=t.mask
 nod:t.dummies=#[]
def L8(T:Tab t)(h:t.place[i]?=some j):t.slot j=.live i:=by unfold slot;rw[VR T.asc h];dsimp only;rw[h];simp
def DT(T:Tab t)(h:j∉t.place.toList):t.slot j=.empty:=by
 unfold slot;have a:¬(t.place[below t.place j]?==some j)=true:=λz=>h (by have:=beq_iff_eq.mp z;let{b,e}:=aCj.mp this;rw[<-e];simp)
 dsimp only;rw[kn a,T.nod];rw[kn (by unfold has;simp)]
def HM(T:Tab t)(j:Nat):(t.slot j=.empty/\j∉t.place.toList)\/∃i,t.slot j=.live i/\t.place[i]?=some j:=by
 by_cases h:j∈t.place.toList
 .let{i,a,e}:=aBh h;have:t.place[i]?=some j:=by rw[<-aAx,aAk a,e]
  show .inr {i,L8 T this,this}
 show .inl {DT T h,h}
def XR(mask:Nat)(p:Probe):Probe:=if p.more>0 then{p with j:=p.j+1,more:=p.more-1}else{p with j:=(leap mask p.i p.perturb).1,more:=runEnd mask (leap mask p.i p.perturb).1-(leap mask p.i p.perturb).1,i:=(leap mask p.i p.perturb).1,perturb:=(leap mask p.i p.perturb).2}
def sD(t:fg)(p:Probe):t.advance p=XR t.mask p:=rfl
def start(mask:Nat)(h:Int):Probe:={j:=bits h%(mask+1),more:=runEnd mask (bits h%(mask+1))-bits h%(mask+1),i:=bits h%(mask+1),perturb:=bits h,dummy:=none}
def n4(mask:Nat)(h:Int):Nat->Probe
 |0=>start mask h
 |n+1=>XR mask (n4 mask h n)
theorem tU(mask:Nat)(h:Int):∀n,(n4 mask h n).dummy=none
 |0=>rfl
 |n+1=>by have:=tU mask h n;change(XR mask _).dummy=none;unfold XR;split<;>show this
def D5(mask:Nat)(h:Int):Nat->Nat×Nat
 |0=>(bits h%(mask+1),bits h)
 |k+1=>leap mask (D5 mask h k).1 (D5 mask h k).2
def len(mask i:Nat):Nat:=runEnd mask i-i
def a0w(mask i:Nat):len mask i<=9:=by unfold len runEnd;split<;>lia
def off(mask:Nat)(h:Int):Nat->Nat
 |0=>0
 |k+1=>off mask h k+len mask (D5 mask h k).1+1
theorem RQ(mask:Nat)(h:Int):∀k,off mask h k<=10*k
 |0=>aAi _
 |k+1=>by have:=RQ mask h k;have:=a0w mask (D5 mask h k).1;change off mask h k+_+1<=_;lia
theorem W5(mask:Nat)(h:Int):∀k r,r<=len mask (D5 mask h k).1->
  n4 mask h (off mask h k+r)={j:=(D5 mask h k).1+r,more:=len mask (D5 mask h k).1-r,i:=(D5 mask h k).1,perturb:=(D5 mask h k).2,dummy:=none}
 |0,0,_=>rfl
 |0,r+1,b=>by
  have a:=W5 mask h 0 r (by lia);have e:off mask h 0+(r+1)=(off mask h 0+r)+1:=by lia
  rw[e,n4,a];unfold XR;rw[km (show len mask (D5 mask h 0).1-r>0 by lia)];simp
  lia
 |k+1,0,_=>by have a:=W5 mask h k (len mask (D5 mask h k).1) (aAi _);have e:off mask h (k+1)+0=(off mask h k+len mask (D5 mask h k).1)+1:=rfl;rw[e,n4,a];unfold XR;rw[kn (by simp)];simp[D5,len]
 |k+1,r+1,b=>by
  have a:=W5 mask h (k+1) r (by lia);have e:off mask h (k+1)+(r+1)=(off mask h (k+1)+r)+1:=by lia
  rw[e,n4,a];unfold XR;rw[km (show len mask (D5 mask h<|k+1).1-r>0 by lia)];simp
  lia
def OW(mask:Nat)(h:Int)(k:Nat):(n4 mask h (off mask h k)).j=(D5 mask h k).1:=by have:=W5 mask h k 0 (aAS _);rw[Nat.add_zero]at this;rw[this];rfl
theorem jP(mask:Nat)(h:Int):∀k,(D5 mask h k).2<2^64/32^k+1
 |0=>by
  change bits h<_;unfold bits;have:=Int.emod_lt_of_pos h (show(0:Int)<2^64 by symm)
  lia
 |k+1=>by
  have a:=jP mask h k;change(D5 mask h k).2/32<_;have e:∀N,N/32^(k+1)=N/32^k/32:=λN=>by rw[Nat.div_div_eq_div_mul];rfl
  rw[e]
  lia
theorem wH(mask:Nat)(h:Int):∀k,(D5 mask h (13+k)).2=0
 |0=>by have:=jP mask h 13;simp at this;show this
 |k+1=>by have:=wH mask h k;change(D5 mask h<|13+k).2/32=0;rw[this]
def lcg(m:Nat)(i:Nat):Nat:=(i*5+1)%m
def iter(m:Nat):Nat->Nat->Nat
 |0,i=>i
 |n+1,i=>lcg m (iter m n i)
theorem sR(mask:Nat)(h:Int):∀k,(D5 mask h (13+k)).1=iter (mask+1) k (D5 mask h 13).1
 |0=>rfl
 |k+1=>by have a:=sR mask h k;change((D5 mask h<|13+k).1*5+1+(D5 mask h<|13+k).2/32)%(mask+1)=_;rw[wH,a];rfl
theorem kX(m:Nat):∀a b i,iter m (a+b) i=iter m a (iter m b i)
 |0,b,i=>by rw[aEb];rfl
 |a+1,b,i=>by rw[show a+1+b=(a+b)+1 by lia];change lcg m _=lcg m _;rw[kX m a b i]
def pE(m:Nat):Prop:=iter m m 0=0/\∀j<m,∃n<m,iter m n 0=j
def vL(F:pE m)(f:i<m)(g:j<m):∃n<m,iter m n i=j:=by
 let{a,k,d}:=F.2 i f;let{b,l,e}:=F.2 j g;by_cases h:a<=b
 .show{b-a,by lia,by rw[<-d,<-kX,show b-a+a=b by lia,e]}
 show{b+(m-a),by lia,?_};rw[<-d,<-kX,show b+(m-a)+a=b+m by lia,kX,F.1,e]
instance(m:Nat):Decidable (pE m):=inferInstanceAs (Decidable<|_/\_)
def a6q:pE 8:=by decide+kernel
def a3v:pE 32:=by decide+kernel
def ZY:pE 128:=by decide+kernel
theorem JB(mask:Nat)(h:Int):∀k,(D5 mask h k).1<mask+1
 |0=>aFd _ (by lia)
 |k+1=>aFd _ (by lia)
def DY{mask:Nat}(F:pE (mask+1))(h:Int){j:Nat}(a:j<=mask):∃n,n<=10*(mask+14)/\(n4 mask h n).j=j:=by
 let{k,b,e}:=vL F (JB mask h 13) (show j<mask+1 by lia);show{off mask h (13+k),?_,?_}
 .have:=RQ mask h (13+k);lia
 rw[OW,sR,e]
def yE{e β:Type}{l:List e}{m:List β}{p:Nat}{a:e×β}(h:a∈(l.take p).zip (m.take p)):a∈l.zip m:=by
 let{i,b}:=aBX.mp h;rw[aBy]at b;show aAs (i:=i) ?_;rw[aBy];have q:∀{d:Type}{l:List d}{c:d},(l.take p)[i]?=some c->l[i]?=some c:=λ{d l c} h=>by
  rw[List.getElem?_take]at h;split at h
  .show h
  cases h
 show{q b.1,q b.2}
def yU{b β:Type}{l:List b}{m:List β}{p:Nat}{a:b×β}(h:a∈(l.drop p).zip (m.drop p)):a∈l.zip m:=by let{i,d}:=aBX.mp h;rw[aBy,List.getElem?_drop,List.getElem?_drop]at d;show aAs (i:=p+i) ?_;rw[aBy];show d
theorem KL(mask:Nat)(h:Int):∀n,(n4 mask h n).j+(n4 mask h n).more<=mask
 |0=>by have:=aFd (bits h) (show 0<mask+1 by lia);change bits h%(mask+1)+(runEnd mask (bits h%(mask+1))-bits h%(mask+1))<=mask;unfold runEnd;split<;>lia
 |n+1=>by
  have a:=KL mask h n;change(XR mask<|n4 mask h n).j+(XR mask<|n4 mask h n).more<=mask;unfold XR;split
  .dsimp only;lia
  dsimp only;have:(leap mask (n4 mask h n).i (n4 mask h n).perturb).1<mask+1:=aFd _ (by lia);unfold runEnd;split<;>lia
def xY(mask:Nat)(h:Int)(n:Nat):(n4 mask h n).j<=mask:=by have:=KL mask h n;lia
theorem Q6{a:Type}[DecidableEq a]:∀{l m:List a},l.Nodup->(∀x∈l,x∈m)->l.length<=m.length:=by
 intro i m h b;cases i with
 |nil=>show aAS _
 |cons x l=>
  have d:=b x (by simp);have f:=aAZ.mp h;have:=Q6 (l:=l) (m:=m.erase x) f.2 (λy g=>by
   have ne:y≠x:=λe=>by subst e;show f.1 g
   show(aGy ne).mpr (b y<|aAf _ g))
  rw[aFR d]at this;have:0<m.length:=aEu d;erw[aAr]
  lia
def ND{t:fg}(h:t.place.size<=t.mask):∃j≤t.mask,j∉t.place.toList:=by
 by_cases z:∃j≤t.mask,j∉t.place.toList
 .show z
 exfalso;have:=Q6 (l:=aBz (t.mask+1)) (m:=t.place.toList) List.nodup_range (λj a=>by
  by_cases q:j∈t.place.toList
  .show q
  show k7 {j,by have:=aBs.mp a;lia,q} z)
 simp at this
 lia
theorem least{P:Nat->Prop}[DecidablePred P]:∀n,P n->∃m≤n,P m/\∀k<m,¬P k:=by
 intro d h;cases d with
 |zero=>show{0,aAi _,h,λk b=>by lia}
 |succ n=>
  by_cases z:∃k≤n,P k
  .let{k,b,a}:=z;let{m,g,e,f}:=least k a;show{m,by lia,e,f}
  show{n+1,aAi _,h,λk b a=>z {k,by lia,a}}
termination_by n=>n
def V7(t:fg)(h:Int)(n0:Nat):Prop:=n0<=10*(t.mask+14)/\(n4 t.mask h n0).j∉t.place.toList/\∀m<n0,(n4 t.mask h m).j∈t.place.toList
def HB{t:fg}(F:pE (t.mask+1))(a:t.place.size<=t.mask)(h:Int):∃n0,V7 t h n0:=by let{j,b,d}:=ND a;let{n,l,e}:=DY F h b;let{m,o,f,g}:=least (P:=λn=>(n4 t.mask h n).j∉t.place.toList) n (by rw[e];show d);show{m,by lia,f,λk i=>by have:=g k i;simpa using this}
theorem DC(T:Tab t)(hashAt:Nat->Int)(h:Int)(l:V7 t h n0):∀(d n:Nat),n<=n0->n0-n<d->
  ∃f,n<=f/\f<=n0/\(∀m,n<=m->m<f->∃i,t.place[i]?=some (n4 t.mask h m).j/\hashAt i≠h)/\
   ((f=n0/\probe.go t hashAt h d (n4 t.mask h n)=some (.empty (n4 t.mask h n0).j none))\/
    (f<n0/\∃i,t.place[i]?=some (n4 t.mask h f).j/\hashAt i=h/\probe.go t hashAt h d (n4 t.mask h n)=some (.candidate (n4 t.mask h f).j i (n4 t.mask h (f+1)))))
 |0,n,_,o=>by lia
 |d+1,n,w,o=>by
  unfold probe.go;rcases HM T (n4 t.mask h n).j with⟨e,p⟩|⟨i,e,g⟩
  .have:n=n0:=by
     by_cases q:n<n0
     .show k7 (l.2.2 n q) p
     lia
   subst this;show{n,aAi _,aAi _,λm a b=>by lia,.inl {rfl,?_}};rw[e];dsimp only;rw[tU]
  have x:n≠n0:=λq=>by subst q;show l.2.1 ?_;rw[<-aAx]at g;show aAs g
  rw[e];dsimp only;by_cases k:hashAt i=h
  . show{n,aAi _,by lia,λm a b=>by lia,.inr {by lia,i,g,k,?_}}
    rw[km (by exists k),sD];rfl
  rw[kn (by exists k),sD]
  let{f,y,r,s,u}:=DC T hashAt h l d (n+1) (by lia) (by lia);show{f,by lia,r,λm z v=>?_,u};by_cases q:m=n
  .subst q;show{i,g,k}
  show s m (by lia) v
def WA(T:Tab t)(hashAt:Nat->Int)(h:Int)(b:V7 t h n0)(n:Nat)(d:n<=n0):
  ∃a,n<=a/\a<=n0/\(∀m,n<=m->m<a->∃i,t.place[i]?=some (n4 t.mask h m).j/\hashAt i≠h)/\
   ((a=n0/\t.probe hashAt h (n4 t.mask h n)=some (.empty (n4 t.mask h n0).j none))\/
    (a<n0/\∃i,t.place[i]?=some (n4 t.mask h a).j/\hashAt i=h/\t.probe hashAt h (n4 t.mask h n)=some (.candidate (n4 t.mask h a).j i (n4 t.mask h (a+1))))):=
 DC T hashAt h b _ n d (by have:=b.1;unfold turns;lia)
def Reach(mask:Nat)(a:Nat->Prop)(h:Int)(j:Nat):Prop:=∃n,(n4 mask h n).j=j/\∀m<n,a (n4 mask h m).j
def Reach.mono{mask:Nat}{o a:Nat->Prop}{h:Int}{j:Nat}(r:Reach mask o h j)(i:∀k,o k->a k):Reach mask a h j:=by let{n,e,q}:=r;show{n,e,λm b=>i _ (q m b)}
def Reach.before(a:V7 t h n0)(b:j∈t.place.toList)(r:Reach t.mask (λk=>k∈t.place.toList) h j):∃n<n0,(n4 t.mask h n).j=j:=by
 let{n,e,q}:=r;show{n,?_,e};by_cases z:n<n0
 .show z
 exfalso;by_cases y:n=n0
 .subst y;show a.2.1 (by rw[e];show b)
 show a.2.1 (q n0 (by lia))
def gZ{a:Type}(Y:Array a)(p:Nat)(x:a):(insertAt Y p x).toList=Y.toList.take p++x::Y.toList.drop p:=by
 unfold insertAt;simp[Array.toList_extract,List.extract_eq_drop_take];have:Y.size-p=(Y.toList.drop p).length:=by simp
 rw[this,List.take_length]
def AH(t:fg)(es:List (Int×au)):List (Nat×Int×au):=t.place.toList.zip es
structure SOk(t:SetTable)(es:List (Int×Value)):Prop where
 tab:Tab t
 full:pE (t.mask+1)
 len:t.place.size=es.length
 room:t.place.size<=t.mask
 reach:∀e∈AH t es,Reach t.mask (λk=>k∈t.place.toList) e.2.1 e.1
def fw{t:fg}{es:List (Int×au)}(b:t.place.size=es.length){i:Nat}{e:Int×au}(h:es[i]?=some e):∃j,t.place[i]?=some j/\(j,e)∈AH t es:=by
 have d:i<es.length:=(aAw.mp h).1;have a:i<t.place.toList.length:=by simpa[b]using d
 show{t.place.toList[i],by rw[<-aAx,aAk a],?_};unfold AH;show aAs (i:=i) ?_;rw[aBy];show{aAk a,h}
def a3l{t:fg}{es:List (Int×au)}(S:SOk t es){h:Int}{x:au}{n0:Nat}(z:V7 t h n0)(E:t.place.size+1<=t.mask):
  SOk (t.put (n4 t.mask h n0).j).1 (es.take (t.put (n4 t.mask h n0).j).2++(h,x)::es.drop (t.put (n4 t.mask h n0).j).2):=by
 have u:=xY t.mask h n0;let{Y,H,I}:=cN S.tab.asc (n4 t.mask h n0).j;generalize A:(n4 t.mask h n0).j=J at*
 have v:J∉t.place.toList:=by rw[<-A];show z.2.1
 have B:(t.put J).2=below t.place J:=rfl;have em:(t.put J).1.mask=t.mask:=rfl;have d:(t.put J).1.place=insertAt t.place (below t.place J) J:=rfl;have f:=gZ t.place (below t.place J) J;have l:∀k,k∈(t.put J).1.place.toList↔k∈t.place.toList\/k=J:=λk=>by
  rw[d,f,aAO,aAe];constructor
  .rintro(q|q|q)
   .show .inl (aEY q)
   .show .inr q
   show .inl (aDQ q)
  rintro(q|q)
  .rw[<-List.take_append_drop (below t.place J) t.place.toList,aAO]at q;rcases q with q|q
   .show .inl q
   show .inr (.inr q)
  show .inr (.inl q)
 have C:(t.put J).1.place.size=t.place.size+1:=by
  rw[<-aBp,d,f,aAv,aBR,aAr,aES,aBp]
  lia
 show{{?_,λj L=>?_,?_},S.full,?_,by rw[C];show E,λe s=>?_}
 .
  have o:t.place.toList.Pairwise (· <·):=by rw[aBO];intro i j g u N;exists S.tab.asc i j (by exists g) (by exists u) N
  have p:∀a∈t.place.toList.take (below t.place J),a<J:=λa n=>by
   let{i,g,e}:=aBh n;rw[aBR]at g;rw[List.getElem_take]at e;have:=H i (by simp at g;lia) (by lia);simp at e
   lia
  have r:∀a∈t.place.toList.drop (below t.place J),J<a:=λa n=>by
   let{i,g,e}:=aBh n;rw[aES]at g;rw[List.getElem_drop]at e;have h1:=I (below t.place J+i) (by simp at g;lia) (by lia);simp at e;have h2:J≠a:=λq=>v (by rw[q];show aDQ n)
   lia
  have O:(t.put J).1.place.toList.Pairwise (· <·):=by
   rw[d,f,List.pairwise_append];show{o.sublist (aFT _ _),aAu.mpr {r,o.sublist (List.drop_sublist _ _)},λa n b Q=>?_};rcases aAe.mp Q with q|q
   .subst q;show p a n
   show aEK (p a n) (r b q)
  intro i k g w y;have:=aBO.mp O i k (by exists g) (by exists w) y;exists this
 .rcases(l j).mp L with q|q
  .show S.tab.le j q
  subst q;show u
 .change(if has t.dummies J then _ else t.dummies)=#[];rw[S.tab.nod,kn (by unfold has;simp)]
 .rw[C,B,aAv,aBR,aAr,aES];have:=S.len
  lia
 have T:e∈AH t es\/e=(J,h,x):=by
  unfold AH at s;rw[d,f,B]at s;rw[List.zip_append (by rw[aBR,aBR,aBp,S.len])]at s;rcases aAO.mp s with q|q
  .left;unfold AH;show yE q
  rw[aDy]at q;rcases aAe.mp q with q|q
  .show .inr q
  left;unfold AH;show yU q
 rcases T with q|q
 .show(S.reach e q).mono λk w=>(l k).mpr (.inl w)
 subst q;show{n0,A,λm U=>(l _).mpr (.inl (z.2.2 m U))}
def R4(owner:Array (Option Nat))(j:Nat):Prop:=(owner.getD j<|some 0).isNone=false
theorem wR{mask:Nat}(h:Int)(owner:Array (Option Nat)):∀(fuel k:Nat),(∃kk,k<=kk/\kk<k+fuel/\¬R4 owner (D5 mask h kk).1)->
  ∃n,off mask h k<=n/\layClean.free mask owner fuel (D5 mask h k).1 (D5 mask h k).2=some (n4 mask h n).j/\¬R4 owner (n4 mask h n).j/\∀m,off mask h k<=m->m<n->R4 owner (n4 mask h m).j
 |0,k,⟨kk,i,l,_⟩=>by lia
 |fuel+1,k,⟨kk,i,l,d⟩=>by
  have o:runEnd mask (D5 mask h k).1+1-(D5 mask h k).1=len mask (D5 mask h k).1+1:=by unfold len runEnd;split<;>lia
  unfold layClean.free;rw[o];cases e:(aBz<|len mask (D5 mask h k).1+1).find? λr=>(owner.getD ((D5 mask h k).1+r)<|some 0).isNone with
  |some r=>
   have q:=aGk e;have f:r<len mask (D5 mask h k).1+1:=aBs.mp (aCZ e);have g:(n4 mask h<|off mask h k+r).j=(D5 mask h k).1+r:=by rw[W5 mask h k r (by lia)]
   show{off mask h k+r,by lia,by rw[g],by rw[g];unfold R4;rw[q];simp,λm a b=>?_};have em:(n4 mask h m).j=(D5 mask h k).1+(m-off mask h k):=by have:=W5 mask h k (m-off mask h k) (by lia);rw[show off mask h k+(m-off mask h k)=m by lia]at this;rw[this]
   rw[em];unfold R4;rw[List.find?_range_eq_some]at e;have:=e.2.2 (m-off mask h k) (by lia);exists this
  |none=>
   have all:∀r<len mask (D5 mask h k).1+1,R4 owner ((D5 mask h k).1+r):=λr f=>by have:=aFy.mp e r (aBs.mpr f);unfold R4;show Bool.not_eq_true _▸this
   have v:kk≠k:=λq=>by subst q;have:=all 0 (by lia);rw[Nat.add_zero]at this;show d this
   let{n,w,p,s,t}:=wR h owner fuel (k+1) {kk,by lia,by lia,d};have x:off mask h (k+1)=off mask h k+len mask (D5 mask h k).1+1:=rfl;show{n,by lia,p,s,λm y u=>?_};by_cases q:off mask h (k+1)<=m
   .show t m q u
   have em:(n4 mask h m).j=(D5 mask h k).1+(m-off mask h k):=by have:=W5 mask h k (m-off mask h k) (by lia);rw[show off mask h k+(m-off mask h k)=m by lia]at this;rw[this]
   rw[em];show all _ (by lia)
def pJ{mask:Nat}(F:pE (mask+1))(h:Int)(owner:Array (Option Nat)){j:Nat}(i:j<=mask)(a:¬R4 owner j):
  ∃n,layClean.free mask owner (turns mask) (aEj h%(mask+1)) (aEj h)=some (n4 mask h n).j/\¬R4 owner (n4 mask h n).j/\∀m<n,R4 owner (n4 mask h m).j:=by
 let{k,l,e}:=vL F (JB mask h 13) (show j<mask+1 by lia);let{n,o,b,d,f}:=wR h owner (turns mask) 0 {13+k,aAS _,by unfold turns;lia,by rw[sR,e];show a};show{n,b,d,λm g=>f m (aAS _) g}
structure Laid(mask:Nat)(hs:List Int)(owner:Array (Option Nat))(k:Nat):Prop where
 size:owner.size=mask+1
 lt:∀(j i:Nat),owner[j]?=some (some i)->i<k
 inj:∀(j j' i:Nat),owner[j]?=some (some i)->owner[j']?=some (some i)->j=j'
 sur:∀i<k,∃j:Nat,owner[j]?=some (some i)
 reach:∀(j i:Nat) (h:Int),owner[j]?=some (some i)->hs[i]?=some h->Reach mask (λl=>∃i,owner[l]?=some (some i)) h j
def mQ{owner:Array (Option Nat)}{mask j:Nat}(b:owner.size=mask+1)(d:j<=mask):R4 owner j↔∃i,owner[j]?=some (some i):=by
 unfold R4;have a:j<owner.size:=by lia
 have e:owner.getD j (some 0)=owner[j]:=by simp[aFS,a]
 rw[e,aAt a];cases owner[j]with
 |none=>simp
 |some i=>simp
def Laid.room{mask k:Nat}{r:List Int}{owner:Array (Option Nat)}(L:Laid mask r owner k)(t:k<=mask):∃j≤mask,¬R4 owner j:=by
 by_cases z:∃j≤mask,¬R4 owner j
 .show z
 exfalso;have all:∀j≤mask,∃i,owner[j]?=some (some i):=λj b=>by
  by_cases q:R4 owner j
  .show(mQ L.size b).mp q
  show k7 {j,b,q} z
 have d:∀n,n<=mask+1->∃l:List Nat,l.length=n/\l.Nodup/\(∀i∈l,i<k)/\∀i∈l,∃j<n,owner[j]?=some (some i):=λn=>by
  induction n with
  |zero=>showλ_=>{[],rfl,aCY,by simp,by simp}
  |succ n s=>
   intro u;let{l,o,f,g,p}:=s (by lia);let{i,h}:=all n (by lia);show{i::l,by simp[o],aAZ.mpr {λq=>?_,f},λx a=>?_,λx a=>?_}
   .let{j,b,e}:=p i q;have:=L.inj j n i e h
    lia
   .rcases aAe.mp a with q|q
    .subst q;show L.lt _ _ h
    show g x q
   rcases aAe.mp a with q|q
   .subst q;show{n,by lia,h}
   let{j,b,e}:=p x q;show{j,by lia,e}
 let{l,o,f,g,_}:=d (mask+1) (aAi _);have:=Q6 (m:=aBz k) f (λx a=>aBs.mpr (g x a));simp at this
 lia
def IC(mask:Nat)(b:List Int):Laid mask b (aFe (mask+1) none) 0:=by
 have a:∀(j i:Nat),(aFe (mask+1) (none:Option Nat))[j]?=some (some i)->False:=λj i h=>by rw[Array.getElem?_replicate]at h;split at h<;>cases h
 show{by simp,λj i h=>(a j i h).elim,λj d i h=>(a j i h).elim,λi e=>by lia,λj i _ h=>(a j i h).elim}
def Laid.step{mask k:Nat}{g:List Int}{owner:Array (Option Nat)}(L:Laid mask g owner k){h:Int}(t:g[k]?=some h){n:Nat}(u:¬R4 owner (n4 mask h n).j)(v:∀m<n,R4 owner (n4 mask h m).j):
  Laid mask g (owner.setIfInBounds (n4 mask h n).j (some k)) (k+1):=by
 have w:=xY mask h n;have o:(n4 mask h n).j<owner.size:=by rw[L.size];lia
 have get:∀(j i:Nat),(owner.setIfInBounds (n4 mask h n).j (some k))[j]?=some (some i)↔(j=(n4 mask h n).j/\i=k)\/(j≠(n4 mask h n).j/\owner[j]?=some (some i)):=λj i=>by
  rw[Array.getElem?_setIfInBounds];by_cases q:(n4 mask h n).j=j
  .rw[km q,km o];simp[q,eq_comm]
  rw[kn q];constructor
  .intro z;show .inr {λy=>q y.symm,z}
  rintro(⟨z,_⟩|⟨_,z⟩)
  .show k7 z.symm q
  show z
 have x:∀i,owner[(n4 mask h n).j]?≠some (some i):=λi z=>u ((mQ L.size w).mpr {i,z});have grow:∀l:Nat,(∃i:Nat,owner[l]?=some (some i))->∃i:Nat,(owner.setIfInBounds (n4 mask h n).j (some k))[l]?=some (some i):=λl A=>by
  let{i,z}:=A;by_cases q:l=(n4 mask h n).j
  .show{k,(get l k).mpr (.inl {q,rfl})}
  show{i,(get l i).mpr (.inr {q,z})}
 show{by simp[L.size],λj i z=>?_,λj p i z s=>?_,λi C=>?_,λj i r z e=>?_}
 .rcases(get j i).mp z with⟨_,q⟩|⟨_,q⟩
  .lia
  have:=L.lt j i q;lia
 .rcases(get j i).mp z with⟨d,a⟩|⟨d,a⟩
  .rcases(get p i).mp s with⟨f,b⟩|⟨f,b⟩
   .rw[d,f]
   subst a;have:=L.lt _ _ b;lia
  rcases(get p i).mp s with⟨f,b⟩|⟨f,b⟩
  .subst b;have:=L.lt _ _ a;lia
  show L.inj j p i a b
 .by_cases q:i=k
  .subst q;show{_,(get _ _).mpr (.inl {rfl,rfl})}
  let{j,z}:=L.sur i (by lia);show{j,(get j i).mpr (.inr {λy=>by subst y;show x i z,z})}
 rcases(get j i).mp z with⟨d,a⟩|⟨d,a⟩
 .subst d a;have:r=h:=Option.some.inj (e.symm.trans t);subst this;show{n,rfl,λm B=>grow _ ((mQ L.size<|xY mask r m).mp (v m B))}
 show(L.reach j i r a e).mono grow
def AL{mask:Nat}(F:pE (mask+1))(b:Array Int)(z:b.size<=mask):∃owner,layClean mask b=some owner/\Laid mask b.toList owner b.size:=by
 have g:∀(post a:List Int) (owner:Array (Option Nat)),b.toList=a++post->Laid mask b.toList owner a.length->
   ∃d,post.foldl (λB h=>do
    let(owner,k)<-B
    let j<-layClean.free mask owner (turns mask) (aEj h%(mask+1)) (aEj h)
    pure (owner.setIfInBounds j (some k),k+1)) (some (owner,a.length))=some (d,b.size)/\Laid mask b.toList d b.size:=λpost=>by
  induction post with
  |nil=>
   intro a owner e L;have:a.length=b.size:=by rw[<-aBp,e];simp
   show{owner,by rw[List.foldl_nil,this],by rw[<-this];show L}
  |cons h post i=>
   intro a owner e L;have f:a.length<b.size:=by rw[<-aBp,e];simp
   let{j,l,m}:=L.room (by lia);let{n,o,p,q}:=pJ F h owner l m;have r:b.toList[a.length]?=some h:=by rw[e];simp
   have s:=L.step r p q;rw[aEk];have t:b.toList=(a++[h])++post:=by rw[e];simp
   let{d,u,v}:=i (a++[h]) _ t (by rw[aAv];show s);show{d,?_,v};rw[<-u];congr 1;simp[o]
 let{owner,w,x}:=g b.toList [] (aFe (mask+1) none) rfl (IC mask b.toList);show{owner,?_,x};unfold layClean;rw[<-Array.foldl_toList];have y:List.foldl (λB h=>do
    let(owner,k)<-B
    let j<-layClean.free mask owner (turns mask) (aEj h%(mask+1)) (aEj h)
    pure (owner.setIfInBounds j (some k),k+1)) (some (aFe (mask+1) none,0)) b.toList=some (owner,b.size):=w
 rw[y];rfl
def F3(mask:Nat)(owner:Array (Option Nat)):List (Nat×Nat):=(aBz<|mask+1).filterMap λj=>(owner.getD j none).map (j,·)
def R6{mask:Nat}{owner:Array (Option Nat)}(g:owner.size=mask+1){j i:Nat}:(j,i)∈F3 mask owner↔owner[j]?=some (some i):=by
 unfold F3;rw[aCb];constructor
 .rintro⟨l,a,e⟩;have f:l<owner.size:=by rw[g];show aBs.mp a
  have b:owner.getD l none=owner[l]:=by simp[aFS,f]
  rw[b,aCQ]at e;let{k,d,h}:=e;cases h;rw[aAt f,d]
 intro e;let{a,d}:=aCj.mp e;have b:owner.getD j none=owner[j]:=by simp[aFS,a]
 show{j,aBs.mpr (by lia),by rw[b,d];rfl}
def CM(mask:Nat)(owner:Array (Option Nat)):((F3 mask owner).map (·.1)).Pairwise (· <·):=by unfold F3;rw[aBW];have:(aBz<|mask+1).Pairwise (· <·):=List.pairwise_lt_range;show List.Pairwise.filterMap _ (R:=(· <·)) ?_ this;intro a g f b d h e;rw[aCQ]at d e;let{_,_,rfl}:=d;let{_,_,rfl}:=e;show f
def SH{mask finger moves:Nat}{led plain:Bool}(F:pE (mask+1))(es:Array (Int×au))(A:es.size<=mask):
  ∃t' f,laid mask finger moves led plain (es.map (·.1))=some (t',f)/\(f.filterMap (es[·]?)).size=es.size/\(f.filterMap (es[·]?)).toList.Perm es.toList/\SOk t' (f.filterMap (es[·]?)).toList/\
   t'.mask=mask/\t'.dummies=#[]/\t'.led=led/\t'.plain=plain/\t'.moves=moves:=by
 let{d,J,L}:=AL F (es.map (·.1)) (by exists A);have m:(es.map (·.1)).size=es.size:=by simp
 rw[m]at L;show{{mask,place:=((F3 mask d).map (·.1)).toArray,dummies:=#[],finger,led,moves,plain},((F3 mask d).map (·.2)).toArray,?_,?_}
 .unfold laid;rw[J];rfl
 have n:(F3 mask d).Nodup:=by have:=CM mask d;rw[aBW]at this;show aCi.mpr (this.imp λ{a b} h e=>by subst e;show aBC _ h)
 have o:((F3 mask d).map (·.2)).Nodup:=by rw[aCi,aBW];show List.Pairwise.imp_of_mem (R:=(· ≠·)) ?_ (aCi.mp n);rintro⟨j,i⟩ ⟨p,r⟩ N O Q e;dsimp only at e;subst e;have:=L.inj j p i ((R6 L.size).mp N) ((R6 L.size).mp O);subst this;show Q rfl
 have B:((F3 mask d).map (·.2)).Perm (aBz es.size):=by
  rw[aCS o List.nodup_range];intro i;rw[aBs,aAj];constructor
  .rintro⟨⟨j,r⟩,h,rfl⟩;show L.lt _ _ ((R6 L.size).mp h)
  intro s;let{j,t}:=L.sur i s;show{(j,i),(R6 L.size).mpr t,rfl}
 have C:(((F3 mask d).map (·.2)).toArray.filterMap (es[·]?)).toList=(F3 mask d).filterMap (λx=>es[x.2]?):=by rw[Array.toList_filterMap,aEm];rfl
 have T:((F3 mask d).filterMap (λx=>es[x.2]?)).Perm es.toList:=by
  have U:(F3 mask d).filterMap (λx=>es[x.2]?)=((F3 mask d).map (·.2)).filterMap (λi=>es[i]?):=by rw[aEm];rfl
  rw[U];show(B.filterMap _).trans (List.Perm.of_eq ?_);apply aEz;intro i;have:(aBz es.size).filterMap (λi=>es[i]?)=es.toList:=by
   have q:∀l:List (Int×au),(aBz l.length).filterMap (λi=>l[i]?)=l:=λl=>by
    induction l with
    |nil=>rfl
    |cons a l u=>
     rw[aAr,aEv,aCN];erw[aDo];rw[aEm];have:((λi=>(a::l)[i]?)∘Nat.succ)=λi=>l[i]?:=by funext i;simp
     rw[this,u]
   have:=q es.toList;exists this
  rw[this]
 have Y:∀l:List (Nat×Nat),(∀x∈l,x.2<es.size)->(l.map (·.1)).zip (l.filterMap<|λx=>es[x.2]?)=l.filterMap (λx=>es[x.2]?.map (x.1,·))/\(l.filterMap<|λx=>es[x.2]?).length=l.length:=λl=>by
  induction l with
  |nil=>intro _;show{rfl,rfl}
  |cons x l u=>intro h;let{i1,i2}:=u (λy hy=>h y (aAf _ hy));have w:=h x (by simp);have e:es[x.2]?=some es[x.2]:=aAt w;rw[aAm,aCN,e];dsimp only;rw[aCN,e];dsimp only[Option.map_some];rw[aDy,i1];show{rfl,by simp[i2]}
 let{z1,E}:=Y (F3 mask d) (λx w=>L.lt x.1 x.2 ((R6 L.size).mp w));have H:(F3 mask d).length=es.size:=by have:=B.length_eq;exists this
 rw[C];show{by rw[<-aBp,C,E,H],T,{{?_,λj t=>?_,rfl},F,?_,?_,λe g=>?_},rfl,rfl,rfl,rfl,rfl}
 .intro i k s m z;have:=aBO.mp (CM mask d) i k (by exists s) (by exists m) z;exists this
 .have ui:j∈(F3 mask d).map (·.1):=by exists t
  let{{p,i},h,rfl}:=aAj.mp ui;have:=(aCj.mp<|(R6 L.size).mp h).1;rw[L.size]at this;change p<=mask
  lia
 .rw[E];simp
 .erw[aAQ,aAg,H];show A
 unfold AH at g;dsimp only at g;rw[z1,aCb]at g;let{{j,i},h,I}:=g;rw[aCQ]at I;let{{hh,v},e2,rfl}:=I;have ho:=(R6 L.size).mp h;have:=L.reach j i hh ho (by rw[aAx,Array.getElem?_map,e2];rfl);show this.mono λl z9=>?_;let{r,fm}:=z9;change l∈(F3 mask d).map (·.1);show aAj.mpr {(l,r),(R6 L.size).mpr fm,rfl}
end ST
namespace TS
open PySem PyProof.Rows
abbrev tupK:Bool->SortKind:=sortPriv%PySem.Builtin.KeyKind.tuples
structure TB(f:Bool)(aa:Array Keyed)(st:SortSt):Prop where
 perm:(arrOf st).Perm aa
 kind:kindOf st=tupK f
 failed:failedOf st=none
 pend:pendingOf st=#[]
def TB.size{f:Bool}{aa:Array Keyed}{st:SortSt}(h:TB f aa st):(arrOf st).size=aa.size:=h.perm.size_eq
def TB.setArr{f:Bool}{aa:Array Keyed}{st:SortSt}(h:TB f aa st){Y:Array Keyed}(a:Y.Perm (arrOf st)):TB f aa (PyProof.Rows.setArr st Y):=
 {a.trans h.perm,h.kind,h.failed,h.pend}
def ax(f:Bool)(A:bt)(s:aL)(κ:KeyKind):Prop:=
 ∀(d:bc) (w:bM) (E:A5) (x y:au) (a b:κ.α) {Q:CD},
  κ.keyOf x=some a->κ.keyOf y=some b->Q (κ.blt a b) s->ba (bb d w) A (keyLt' (tupK f) x y) Q E s
def TB.atK{f:Bool}{κ:KeyKind}{aa:Array Keyed}{st:SortSt}(h:TB f aa st)(h0:KeysOf κ aa){i:Nat}(d:i<aa.size):∃x p a,(arrOf st)[i]?=some (x,p)/\κ.keyOf x=some a/\KK κ (arrOf st) i=a:=by
 have g:i<(arrOf st).size:=by rw[h.size];show d
 let{a,b}:=h0 _ ((aFr.mp h.perm).mem_iff.mp (show(arrOf st)[i]∈(arrOf st).toList by simp));have e:(arrOf st)[i]?=some (arrOf st)[i]:=getElem?_pos _ i g;show{(arrOf st)[i].1,(arrOf st)[i].2,a,by rw[e],b,by unfold KK;rw[e];simp[b]}
section
def ltT(f:Bool){prog:bc}{w:bM}{A:bt}{E:A5}{s:aL}{aa:Array Keyed}{κ:KeyKind}{st:SortSt}{i j:Nat}{Q:Option Bool->SortSt->Prop}(e:ax f A s κ)(d:TB f aa st)(h0:KeysOf κ aa)(g:i<aa.size)(k:j<aa.size)
  (h:Q (some (κ.blt (KK κ (arrOf st) i) (KK κ (arrOf st) j))) st):wpS (bb prog w) A E s (ltAt' i j) Q st:=by
 let{x,p,a,l,m,n}:=d.atK h0 g;let{y,q,b,o,r,t}:=d.atK h0 k;rw[n,t]at h;change wpS _ _ _ _ (do let x<-elem' (arrOf st) i;let y<-elem' (arrOf st) j;lt' x y) Q st;rw[elem'_eq,elem'_eq,l,o];show aBx (aCn<|aBx<|aCn ?_);rw[lt'_eq];show aBx (wpS_get ?_);rw[d.kind];show aBx (wpS_lift<|aCU<|e prog w _ x y a b m r ⟨rfl,(aCn h)⟩)
def up1(S:SortedToK κ Y x)(h:1<=x->κ.kle (KK κ Y (x-1)) (KK κ Y x)):SortedToK κ Y (x+1):=λi j a b=>by
 rcases aDB (aCF b)with d|rfl
 .show S i j a d
 rcases aDB a with e|rfl
 .show KeyOrd.kle_trans (S i (j-1) (by lia) (by lia)) (h (by lia))
 show KeyOrd.kle_refl _
def dn1(S:NonIncK κ Y x)(h:1<=x->κ.kle (KK κ Y x) (KK κ Y (x-1))):NonIncK κ Y (x+1):=λi j a b=>by
 rcases aDB (aCF b)with d|rfl
 .show S i j a d
 rcases aDB a with e|rfl
 .show KeyOrd.kle_trans (h (by lia)) (S i (j-1) (by lia) (by lia))
 show KeyOrd.kle_refl _
def QD(S:NonIncK κ Y x)(e:∀k,KK κ a k=KK κ Y k):NonIncK κ a x:=λi j b d=>by rw[e,e];show S i j b d
def ED(κ:KeyKind)(Y:Array Keyed)(x c:Nat):Prop:=c+1<=x/\∀k,x-(c+1)<=k->k<x->KK κ Y k=KK κ Y (x-1)
def ED.one(h:1<=x):ED κ Y x 0:={h,λk a b=>by rw[show k=x-1 by lia]}
variable{st:SortSt}
def RL(g:ax f A s κ)(h0:KeysOf κ aa)(k:m<=aa.size)(B:TB f aa st)(l:1<=a)(h:a<=m)(S:SortedToK κ (arrOf st) a){Q:AscSt->SortSt->Prop}(q:∀n,a<=n->n<=m->SortedToK κ (arrOf st) n->(n<m->κ.klt (KK κ (arrOf st) n) (KK κ (arrOf st) (n-1)))->Q (none,n) st):wpS (bb prog w) A E s (ascLoop a m) Q st:=by
 show aEL (I:=λn r t=>t=st/\r=(none,n)/\SortedToK κ (arrOf st) n) (λn r t i l2 j=>?_) (λr t ⟨d,e,b⟩=>?_) {rfl,rfl,S}
 .let{d,e,b}:=j;subst d e;show aBx (ltT f g B h0 (by lia) (by lia) ?_);cases z:κ.blt (KK κ (arrOf t) n) (KK κ (arrOf t)<|n-1)with
  |true=>show aCn (q n i (by lia) b λ_=>z)
  |false=>show aCn {rfl,rfl,up1 b λ_=>z}
 nofun
abbrev Told(f:Bool)(κ:KeyKind)(aa:Array Keyed)(m:Nat)(Q:Option Nat->SortSt->Prop):Prop:=∀n t,TB f aa t->1<=n->n<=m->SortedToK κ (arrOf t) n->Q (some n) t
def BX(h:ax f A s κ)(h0:KeysOf κ aa)(a:m<=aa.size)(B:TB f aa st)(b:1<=n)(d:n<=m)(S:NonIncK κ (arrOf st) n){Q:Option Nat->SortSt->Prop}(q:Told f κ aa m Q):
  wpS (bb prog w) A E s (tail3 n m) Q st:=by
 have g:=B.setArr (aGH (arrOf st) 0 n<|(n-0)/2);have l:n<=(arrOf st).size:=by rw[B.size];show aAo d a
 show aBx (aGI<|aBx<|RL h h0 a g b d (λi j v o=>?_) λk p r t _=>aCn (q k _ g (aAo b p) r t));have e:∀k,k<n->KK κ (arrOf<|setArr st<|mirror (arrOf st) 0 n<|(n-0)/2) k=KK κ (arrOf st) (0+n-1-k):=λk u=>(KK_mirror l k).trans (km {aAS _,u});rw[e i (by lia),e j o];show S _ _ (by omega) (by omega)
def VX(g:ax f A s κ)(h0:KeysOf κ aa)(C:m<=aa.size)(B:TB f aa st)(h:1<=n)(j:n<=m)(S:NonIncK κ (arrOf st) n){Q:DescSt->SortSt->Prop}(q:∀k c t,TB f aa t->1<=k->k<=m->NonIncK κ (arrOf t) k->ED κ (arrOf t) k c->Q (none,k,c) t):wpS (bb prog w) A E s (descLoop n m) Q st:=by
 show aEL (I:=λk r t=>∃c,r=(none,k,c)/\TB f aa t/\NonIncK κ (arrOf t) k/\ED κ (arrOf t) k c) (λk r t H l2 p=>?_) (λr t ⟨c,e,a,d,b⟩=>?_) {0,rfl,B,S,ED.one h}
 .let{c,e,a,d,b}:=p;subst e;have u:k<=(arrOf t).size:=by rw[a.size];lia
  dsimp only;show aBx (ltT f g a h0 (by lia) (by lia) ?_);cases z:κ.blt (KK κ (arrOf t) k) (KK κ (arrOf t)<|k-1)with
  |true=>
   have l:NonIncK κ (arrOf t) (k+1):=dn1 d λ_=>KeyOrd.kle_of_klt z;change wpS _ _ _ _ (if c>0 then _ else _) _ t;by_cases o:c>0
   .rw[km o];show aBx (aGI (aCn {0,rfl,a.setArr (aGH _ _ _ _),QD l (aGl u b.2),ED.one (by lia)}))
   rw[kn o];show aCn {0,rfl,a,l,ED.one (by lia)}
  |false=>
   dsimp only;erw[aAB,if_false];show aBx (ltT f g a h0 (by lia) (by lia) ?_);cases v:κ.blt (KK κ (arrOf t)<|k-1) (KK κ (arrOf t) k)with
   |true=>show aCn (q k c t a (by lia) (by lia) d b)
   |false=>
    have e:KK κ (arrOf t) k=KK κ (arrOf t) (k-1):=KeyOrd.kle_antisymm v z;show aCn {c+1,rfl,a,dn1 d λ_=>by rw[e];show KeyOrd.kle_refl _,by have:=b.1;lia,λi J x=>?_};change KK κ (arrOf t) i=KK κ (arrOf t) k;rcases aDB (aCF x)with y|rfl
    .rw[e];show b.2 i (by lia) y
    rfl
 subst e;have e:max n m=m:=Nat.max_eq_right j;rw[e]at d b⊢;show q m c t a (aAo h j) (aAi _) d b
def BL(a:ax f A s κ)(h0:KeysOf κ aa)(b:m<=aa.size)(B:TB f aa st)(j:n+1<=m)(S:NonIncK κ (arrOf st) (n+1)){Q:Option Nat->SortSt->Prop}(q:Told f κ aa m Q):
  wpS (bb prog w) A E s (descPart n m) Q st:=by
 show aBx (wpS_lift<|aCG ⟨rfl,aBx (VX a h0 b B (aGX n) j S λk c t d e g h l=>?_)⟩);have o:k<=(arrOf t).size:=by rw[d.size];lia
 by_cases i:c>0
 .rw[km i];show aBx (aGI<|BX a h0 b (d.setArr<|aGH _ _ _ _) e g (QD h<|aGl o l.2) q)
 rw[kn i];show BX a h0 b d e g h q
def LR(a:ax f A s κ)(h0:KeysOf κ aa)(b:m<=aa.size)(l:1<=m)(B:TB f aa st){Q:Option Nat->SortSt->Prop}(q:Told f κ aa m Q):wpS (bb prog w) A E s (countRun' 0 m) Q st:=by
 rw[countRun0_eq];show aBx (RL a h0 b B (aAi 1) l (up1 (λ_ _ _ z=>k7 z (aGm _)) λz=>k7 z (by symm)) λn d e S o=>?_);by_cases g:n=m
 .rw[km (beq_iff_eq.mpr g)];show aCn (q n st B d e S)
 rw[kn λz=>g (beq_iff_eq.mp z)];have lt:=o (by lia);by_cases h:n>1
 .rw[km h];show aBx (ltT f a B h0 (by lia) (by lia) ?_);cases z:κ.blt (KK κ (arrOf st) 0) (KK κ (arrOf st)<|n-1)with
  |true=>show aCn (q n st B d e S)
  |false=>
   have p:n<=(arrOf st).size:=by rw[B.size];lia
   have same:∀k,0<=k->k<n->KK κ (arrOf st) k=KK κ (arrOf st) (n-1):=λk _ r=>KeyOrd.kle_antisymm (S k (n-1) (by lia) (by lia)) (KeyOrd.kle_trans z<|S 0 k (aAS _) r);have t:NonIncK κ (arrOf st) n:=λi j v u=>by rw[same i (aAS _) (by lia),same j (aAS _) u];show KeyOrd.kle_refl _
   show aBx (aGI (BL a h0 b (B.setArr<|aGH _ _ _ _) (by lia) (QD (dn1 t λ_=>KeyOrd.kle_of_klt lt)<|aGl p same) q))
 rw[kn h];obtain rfl:n=1:=by lia
 show BL a h0 b B (by lia) (dn1 (dn1 (λ_ _ _ z=>k7 z (aGm _)) λz=>k7 z (by symm)) λ_=>KeyOrd.kle_of_klt lt) q
def UD{l r:Nat}(h:l<r):l<=(l+r)/2/\(l+r)/2<r:=by lia
def UX{l j x:Nat}(h:l<j)(a:j<x+1):j-1<x:=by lia
def rY(hO:ax f A s κ)(h0:KeysOf κ aa)(hn:n<=aa.size)(hk:k<=n)(B:TB f aa st)(S:SortedToK κ (arrOf st) k){Q:Bool->SortSt->Prop}(q:∀t,TB f aa t->SortedToK κ (arrOf t) n->Q true t):
  wpS (bb prog w) A E s (binarySort' 0 n k) Q st:=by
 rw[binarySort'_eq];erw[aEb];have S0:SortedToK κ (arrOf st) (min (max k 1) n):=λi j h p=>by
  rcases Nat.eq_or_lt_of_le h with rfl|ao
  .show KeyOrd.kle_refl _
  show S i j h (by lia)
 show aBx (wpS_mono (Q:=λr t=>r=(none,())/\TB f aa t/\SortedToK κ (arrOf t) n) (aEL (I:=λx r t=>r=(none,())/\TB f aa t/\SortedToK κ (arrOf t) (min x n)) (λx r t l1 l2 ⟨e,C,m⟩=>?step) (λr t ⟨e,C,m⟩=>{e,C,?fin}) {rfl,B,S0}) λr t ⟨e,C,m⟩=>?post)
 case step=>
  subst e;rw[aGn (aDj l2)]at m;have hx:x<aa.size:=by lia
  let L (l:Nat):Prop:=∀i,i<l->κ.kle (KK κ (arrOf t) i) (KK κ (arrOf t) x)
  let Top (r:Nat):Prop:=∀i,r<=i->i<x->κ.klt (KK κ (arrOf t) x) (KK κ (arrOf t) i)
  show aBx (wpS_mono (Q:=λd u=>u=t/\∃l r,d=(none,l,r)/\l<=x/\L l/\Top l) (aEL (I:=λy d u=>u=t/\∃l r,d=(none,l,r)/\l<=r/\r<=x/\r-l<=x-y/\L l/\Top r) (λy d u _ y2 ⟨e,l,r,N,lr,O,H,lo,J⟩=>?istep) (λd u ⟨e,l,r,N,lr,O,H,lo,J⟩=>?ifin)
   {rfl,0,x,rfl,aAS _,aAi _,aAi _,λ_ z=>k7 z (aGm _),λi a b=>k7 (aDC a b) (aBC _)}) λd u ⟨e,l,r,N,lx,lo,J⟩=>?ipost)
  case istep=>
   subst e N;change wpS _ _ _ _ (if l>=r then _ else _) _ u;by_cases g:l>=r
   .rw[km g];obtain rfl:l=r:=Nat.le_antisymm lr g;show aCn {rfl,l,l,rfl,O,lo,J}
   rw[kn g];dsimp only;have g:=Nat.lt_of_not_le g;let{m1,m2}:=UD g;have mx:=aAn m2 O;show aBx (ltT f hO C h0 hx (aEK mx hx) ?_);cases z:κ.blt (KK κ (arrOf u) x) (KK κ (arrOf u)<|(l+r)/2)with
   |true=>show aCn {rfl,l,(l+r)/2,rfl,m1,aDj mx,aDR (aAn (Nat.sub_lt_sub_right m1 m2) H),lo,λi a b=>KeyOrd.klt_of_klt_of_kle z (m _ i a b)}
   |false=>show aCn {rfl,(l+r)/2+1,r,rfl,m2,O,aDR (aAn (Nat.sub_lt_sub_left g<|Nat.lt_succ_of_le m1) H),λi a=>KeyOrd.kle_trans (m i ((l+r)/2) (aCF a) mx) z,J}
  case ifin=>
   subst e N;obtain rfl:l=r:=by lia
   show{rfl,l,l,rfl,O,lo,J}
  case ipost=>
   subst e N;have hz:x<(arrOf u).size:=by rw[C.size];show hx
   change wpS _ _ _ _ (do moveDown' x l;pure (aCq (none,()))) _ u;rw[moveDown'_eq];show aBx (wpS_modify<|aCn ⟨rfl,C.setArr (bubble_perm _ _ _),λi j h p=>?_⟩);have e:∀k,KK κ (arrOf<|setArr u<|bubble (arrOf u) x<|x-l) k=if k=l then KK κ (arrOf u) x else if l<k/\k<=x then KK κ (arrOf u) (k-1)else KK κ (arrOf u) k:=λk=>by have:=KK_bubble (κ:=κ) hz (Nat.sub_le x l) k;rw[show x-(x-l)=l by lia]at this;show this
   have p:j<x+1:=by lia
   rw[e,e];by_cases T:i=l
   .rw[km T];by_cases v:j=l
    .rw[km v];show KeyOrd.kle_refl _
    have o:=aEn (T▸h) (aCL v);rw[kn v,km {o,aCF p}];show KeyOrd.kle_of_klt (J _ (aDR o)<|UX o p)
   rw[kn T];by_cases v:j=l
   .rw[v]at h;rw[km v,kn λz=>Nat.not_lt_of_le h z.1];show lo i (aEn h T)
   rw[kn v];by_cases Y:l<i/\i<=x
   .have o:=aAn Y.1 h;rw[km Y,km {o,aCF p}];show m _ _ (Nat.sub_le_sub_right h 1) (UX o p)
   rw[kn Y];have h2:=aCF p;by_cases U:l<j/\j<=x
   .have o:=aEn (aDZ λz=>Y {z,aAo h h2}) T;rw[km U];show m _ _ (aDR<|aEK o U.1) (UX U.1 p)
   have o:=aDZ λz=>U {z,h2};rw[kn U];show m _ _ h (aAn (aEn o v) lx)
 case fin=>rw[show min (max (max k 1) n) n=n by lia]at m;show m
 case post=>subst e;show aCn (q t C m)
def oP(f:Bool)(h:ax f A s κ)(h0:KeysOf κ aa)(B:TB f aa st)(y:2<=aa.size)(d:aa.size<64){Q:Unit->SortSt->Prop}(q:∀t,(arrOf t).Perm aa->failedOf t=none->SortedToK κ (arrOf t) aa.size->Q () t):wpS (bb prog w) A E s sortRuns' Q st:=by
 have l:minRun' aa.size aa.size 0=aa.size:=by
  generalize C:aa.size=N at*
  cases N with
  |zero=>lia
  |succ N=>rw[minRun'_succ,km d]
 let fq (t:SortSt):Prop:=(arrOf t).Perm aa/\failedOf t=none/\pendingOf t=#[(0,aa.size,0)]/\SortedToK κ (arrOf t) aa.size
 have done:∀t,TB f aa t->SortedToK κ (arrOf t) aa.size->fq (setPending t<|(pendingOf t).push (0,aa.size,0)):=λt a m=>{a.perm,a.failed,(kM (·.push (0,aa.size,0)) a.pend),m};rw[sortRuns'_eq];show aBx (wpS_get ?_);dsimp only;erw[B.size,l];show aBx (wpS_mono (Q:=λr t=>r=(none,aa.size)/\fq t) (aEL (I:=λx r t=>(x=0/\r=(none,0)/\TB f aa t)\/(0<x/\r=(none,aa.size)/\fq t)) (λx r t _ l2 I=>?step) (λr t I=>?fin)<|.inl ⟨rfl,rfl,B⟩) λr t ⟨e,D⟩=>?post)
 case step=>
  rcases I with⟨rfl,rfl,a⟩|⟨H,rfl,D⟩
  .change wpS _ _ _ _ (if 0>=aa.size then _ else _) _ t;rw[kn (by lia)];erw[Nat.sub_zero,Nat.min_self,aEb];have fin:∀u,TB f aa u->(pendingOf u).back?=none:=λu b=>by rw[b.pend];rfl
   show aBx (LR h h0 (aAi _) (by lia) a λn u b J o i=>?_);change wpS _ _ _ _ (if n<aa.size then _ else _) _ u;by_cases j:n<aa.size
   .rw[km j];show aBx (wpS_lift<|aCG ⟨rfl,aBx (rY h h0 (aAi _) o b i λv k p=>?_)⟩);erw[aFa,aAB,if_false];show aBx (wpS_get ?_);rw[fin v k];show aBx (wpS_modify<|aCn<|.inr ⟨aGX _,rfl,done v k p⟩)
   rw[kn j];obtain rfl:n=aa.size:=by lia
   show aBx (wpS_get ?_);rw[fin u b];show aBx (wpS_modify<|aCn<|.inr ⟨aGX _,rfl,done u b i⟩)
  change wpS _ _ _ _ (if aa.size>=aa.size then _ else _) _ t;rw[km (aAi _)];show aCn {rfl,D}
 case fin=>
  rcases I with⟨z,_⟩|⟨_,e,D⟩
  .lia
  show{e,D}
 case post=>
  subst e;show aBx (wpS_mono (Q:=λr u=>u=t/\r=(none,())) (aEL (I:=λ_ r u=>u=t/\r=(none,())) (λ_ r u _ _ ⟨e,g⟩=>?istep) (λ_ _ z=>z) {rfl,rfl}) λr u ⟨e,g⟩=>?ipost)
  case istep=>subst e g;show aBx (wpS_get ?_);rw[km (by rw[D.2.2.1];show aAi 1)];show aCn {rfl,rfl}
  case ipost=>subst e g;show aCn (q _ D.1 D.2.1 D.2.2.2)
end
section
def Bar(a:a9)(s d:aL):Prop:=∀b o,b≠a->s.heap.get? b=some o->d.heap.get? b=some o
def AT{P:Fin->aL->Prop}(q:s.heap.get? a=some (seqObj "list" vs.toArray n))(h0:KeysOf κ (pairsOf vs))(y:∀k,Bar a s k->ax f A k κ)(t:2<=vs.length->∀k,Bar a s k->∀{Q:SortKind->aL->Prop},Q (tupK f) k->ba (bb prog w) A (keyKind' vs.toArray) Q E k)(u:vs.length<64)(h:∀d:SortSt,(arrOf d).Perm (pairsOf vs)->SortedToK κ (arrOf d) (pairsOf vs).size->P (.done (.ret .none)) {s with heap:=sortedHeap s.heap a vs ((arrOf d).map (·.2))}):
  ba (bb prog w) A (Builtin.«list.sort» {[.ref a],[]}) P E s:=by
 rw[list_sort_plain];have N:=aAd q;show aAa (aEM q rfl ?_);show aAa (listUpdate_at q rfl ?_);obtain⟨v,l⟩:∃v,(s.heap.update a<|aCg λ_=>#[]).get? a=some (seqObj "list" #[] v):={_,get?_update_seq q _};show aAa (seqEpoch_at l rfl<|aAa<|aFM<|aAa<|wpAny_newList<|aAJ ?_);have m:Bar a s {s with heap:=((s.heap.update a<|aCg λ_=>#[]).push (seqObj "tuple" vs.toArray 0)).push (seqObj "list" #[] 0)}:=λb o z e=>aAb _ (aAb _<|(aAE _ _<|aCL z).trans e)
 have g:(((s.heap.update a<|aCg λ_=>#[]).push (seqObj "tuple" vs.toArray 0)).push (seqObj "list" #[] 0)).get? a=some (seqObj "list" #[] v):=aAb _ (aAb _ l);dsimp only;have O:vs.toArray.size=vs.length:=by simp
 have p:=h;by_cases r:vs.toArray.size<2
 .rw[km r,km r];show aAa (aAc ?_);show aAa (aAc ?_);show aAa (seqEpoch_at g rfl (aAa (listUpdate_at g rfl ?_ (hsz2:=by rw[Array.size_map];change(pairsOf vs).size<=_;rw[aFz,aFZ];lia))));erw[bne_self_eq_false];show aAc (p (SortSt.mk' general' (vs.toArray.zip vs.toArray) #[] 7 none) (aHc _) λi j T B=>?_);have:i=j:=by rw[aFz]at B;lia
  subst this;show KeyOrd.kle_refl _
 rw[kn r,kn r];show aAa (t (by lia) _ m ?_);show aAa (aCH (oP f (κ:=κ) (y _ m) (aa:=pairsOf vs) (Q:=λ_ d=>(arrOf d).Perm (pairsOf vs)/\failedOf d=none/\SortedToK κ (arrOf d) (pairsOf vs).size)
  h0 {aHc _,rfl,rfl,rfl} (by rw[aFz];lia) (by rw[aFz];show u) λd C H I=>{C,H,I}) ?_ λ_ _ e=>e)
 rintro⟨⟨⟩,d⟩ U ⟨rfl,x,J,L⟩;show aAa (seqEpoch_at g rfl (aAa (listUpdate_at g rfl ?_ (hsz2:=by show aAo (aFA<|(Array.size_map ..).trans (x.size_eq.trans<|aFz _)) ?_;rw[aFZ];lia))));rw[J];simp;show aAc (p d x L)
end
end TS
namespace SZ
open PySem
abbrev Zs(h:cf)(z TI TO:a9)(a b:au):Prop:=h.get? z=some {cls:=.type "zip",dict:=none,data:=.fields #[a,b,.bool false,.ref TI,.ref TO],slots:=#[]}
def AI(b:au):Prop:=b=.none\/∃a:Nat,b=dm a
section
def alive{Q:Option Obj->aL->Prop}(h:Q (s.heap.get? c) s):ba (bb prog w) A (loadIfAlive c) Q E s:=λa p _=>by
 unfold loadIfAlive
 nofun
def pJ{Q:CD}(hz:Zs s.heap z TI TO b d)(j:AI b)(f:Q true s)(g:∀h' e,Zs h' z TI TO b e->Heap.SameBut z s.heap h'->Q false {s with heap:=h'}):ba (bb prog w) A (aBU (.ref z)) Q E s:=by
 show aAa (aBi hz rfl (x:=b) rfl ?_);rcases j with rfl|⟨a,rfl⟩
 .show aAc f
 change ba _ _ (loadIfAlive (aFf (a:Int))>>=_) _ _ _;show aAa (alive ?_);by_cases h:(s.heap.get?<|aFf (a:Int)).isNone=true
 .rw[km h];show aAc f
 rw[kn h];show aAa (aBi hz rfl (x:=d) rfl ?_);by_cases i:(d !=aEc true)=true
 .rw[km i];show aAa (aBf hz (by simp) λh' k l=>aAc (g h' (.bool true) k l))
 rw[kn i];show aAc (g s.heap d hz {rfl,λ_ _=>rfl})
def VY{Q:A5}(D:ZipApart z TI TO j l l1 l2)(hz:Zs s.heap z TI TO f0 f1)(ho:AI f0)(hTI:dA s.heap TI (.ref j) (.ref l))(u:dA s.heap TO a b)(h1:s.heap.IsListIter j l1 k)(h2:s.heap.IsListIter l l2 k)(jd:s.heap.IsList l1 Y)(jl:s.heap.IsList l2 ys)(hx:Y[k]?=some x)(hy:ys[k]?=some y)(hQ:∀h' T B C a' b',Zs h' z TI TO B C->AI B->dA h' TO a' b'->h'.IsListIter j l1 (k+1)->h'.IsListIter l l2 (k+1)->s.heap.objs.size<=T->dA h' T x y->
   (∀c o,c≠z->c≠TO->c≠j->c≠l->s.heap.get? c=some o->h'.get? c=some o)->Q (.ref T) {s with heap:=h'}):
  ba (bb prog w) A (Builtin.«zip.__next__» {[.ref z],[]}) (λfin s'=>∃v,fin=.done (.ret v)/\Q v s') E s:=by
 change ba _ _ (field (.ref z) 2>>=_) _ _ _;show aAa (aBi hz rfl (x:=.bool false) rfl ?_);change ba _ _ (field (.ref z) 3>>=_) _ _ _;show aAa (aBi hz rfl (x:=.ref TI) rfl<|aAa<|aAW hTI rfl ?_);change ba _ _ (aBU (.ref z)>>=_) _ _ _;show aAa (pJ hz ho ?_ λm C H d=>?_)
 .erw[if_true];show aAa (aCG (aAa (aBi hz rfl (x:=.ref TO) rfl (aAa (aBf hz (by simp) λm H d=>?_)))));replace H:Zs m z TI TO .ellipsis f1:=H;show aAa ?_;erw[List.zipIdx_cons,List.zipIdx_nil,aDd,aFN];show aAa (aAa<|aEo ?_);change ba _ _ (aBq (.ref j)>>=_) _ _ _;show aAa (aCR (h1.extBut d.extBut D.i1z) (jd.extBut d.extBut D.l1z) hx λgc n f=>aAc ?_);have vg:dA gc TO a b:=f.extBut _ _ D.TOi1 (d.extBut _ _ D.TOz u);show aAa (aAW vg rfl<|aAa<|aDS vg λhV ql t=>?_);replace ql:dA hV TO x b:=ql;show aAa (aDK<|aAc<|aAa<|aAa<|aEo ?_);change ba _ _ (aBq (.ref l)>>=_) _ _ _;show aAa (aCR (((h2.extBut d.extBut D.i2z).extBut f.extBut D.i12.symm).extBut t.extBut D.TOi2.symm)
   (((jl.extBut d.extBut D.l2z).extBut f.extBut D.l2i1).extBut t.extBut D.l2TO) hy λaA p g=>aAc ?_)
  have vh:dA aA TO x b:=g.extBut _ _ D.TOi2 ql;show aAa (aAW vh rfl<|aAa<|aDS vh λh mo I=>?_);replace mo:dA h TO x y:=mo;show aAa (aDK<|aAc<|aAc<|aAa<|aAW mo rfl<|aAa<|aFM ?_);have fu:h.objs.size=s.heap.objs.size:=by rw[I.1,g.1,t.1,f.1,d.1]
  have J:=I.extBut _ _ D.TOz.symm (g.extBut _ _ D.i2z.symm<|t.extBut _ _ D.TOz.symm<|f.extBut _ _ D.i1z.symm H);have hk3:∀c o,c≠z->c≠TO->c≠j->c≠l->s.heap.get? c=some o->h.get? c=some o:=λc o i L N O e=>I.extBut _ _ L (g.extBut _ _ O<|t.extBut _ _ L<|f.extBut _ _ N<|d.extBut _ _ i e)
  have h11:=((n.extBut t.extBut D.TOi1.symm).extBut g.extBut D.i12).extBut I.extBut D.TOi1.symm;have h21:=p.extBut I.extBut D.TOi2.symm;have vo:z<h.objs.size:=aAd J;change ba _ _ (aBP (.ref z) (.ref h.objs.size)>>=_) _ _ _;show aAa ?_;unfold aBP;have hz5:Zs (h.push {cls:=.type "tuple",data:=.seq #[x,y]}) z TI TO .ellipsis f1:=aAb _ J;show aAa (aBf hz5 (by simp) λaC q U=>?_);replace q:Zs aC z TI TO (dm h.objs.size) f1:=q;show aBf q (by simp) λaB r hs9=>?_;replace r:Zs aB z TI TO (dm h.objs.size) (.bool false):=r;have up:∀c o,c≠z->h.get? c=some o->aB.get? c=some o:=λc o i e=>hs9.extBut _ _ i (U.extBut _ _ i<|aAb _ e);show aAc {_,rfl,(hQ aB h.objs.size _ _ x y r (.inr {_,rfl}) (up _ _ D.TOz mo) (h11.at λo e=>up _ o D.i1z e) (h21.at λo e=>up _ o D.i2z e) (aFA fu.symm) (hs9.extBut _ _ (aBY vo)<|U.extBut _ _ (aBY vo)<|aAh _ rfl) λc o i L N O e=>up c o i (hk3 c o i L N O e))}
 erw[aAB,if_false];show aAa ?_;change ba _ _ (forIn (#[.ref j,.ref l]:Array au) _ _) _ _ _;rw[<-aCt];erw[aDd,aFN];show aAa (aAa<|aAJ ?_);change ba _ _ (aBq (.ref j)>>=_) _ _ _;show aAa (aCR (h1.extBut d.extBut D.i1z) (jd.extBut d.extBut D.l1z) hx λgc n f=>aAc (aAc<|aAa<|aAa<|aAJ ?_));change ba _ _ (aBq (.ref l)>>=_) _ _ _;show aAa (aCR ((h2.extBut d.extBut D.i2z).extBut f.extBut D.i12.symm) ((jl.extBut d.extBut D.l2z).extBut f.extBut D.l2i1) hy λaA p g=>aAc (aAc<|aAc ?_));have fu:aA.objs.size=s.heap.objs.size:=by rw[g.1,f.1,d.1]
 have hz6:=g.extBut _ _ D.i2z.symm (f.extBut _ _ D.i1z.symm H);change ba _ _ (newTuple [x,y]>>=_) _ _ _;show aAa (aFM<|aAc ⟨_,rfl,?_⟩);show hQ _ aA.objs.size _ _ a b (aAb _ hz6) ho (aAb _<|g.extBut _ _ D.TOi2<|f.extBut _ _ D.TOi1<|d.extBut _ _ D.TOz u) ((n.extBut g.extBut D.i12).at λo e=>aAb _ e) (p.at λo e=>aAb _ e) (aFA fu.symm) (aAh _ rfl)
  λc o i L N O e=>aAb _ (g.extBut _ _ O<|f.extBut _ _ N<|d.extBut _ _ i e)
def YW{Q:Fin->aL->Prop}(v:A.handled=none)(D:ZipApart z TI TO n p y l2)(hz:Zs s.heap z TI TO L N)(O:AI L)(q:dA s.heap TI (.ref n) (.ref p))(T:dA s.heap TO a b)
  (B:s.heap.IsListIter n y k) (h2:s.heap.IsListIter p l2 k) (C:s.heap.IsList y Y) (jl:s.heap.IsList l2 ys) (H:Y[k]?=none)
  (hE:∀h' e,(∀c o,c≠z->c≠TO->c≠n->c≠p->s.heap.get? c=some o->h'.get? c=some o)->(∃o,h'.get? e=some o/\o.cls=.type "StopIteration")->E (.ref e) {s with heap:=h'}):
  ba (bb prog w) A (Builtin.«zip.__next__» {[.ref z],[]}) Q E s:=by
 change ba _ _ (field (.ref z) 2>>=_) _ _ _;show aAa (aBi hz rfl (x:=.bool false) rfl ?_);change ba _ _ (field (.ref z) 3>>=_) _ _ _;show aAa (aBi hz rfl (x:=.ref TI) rfl<|aAa<|aAW q rfl<|aAa<|pJ hz O ?_ λd U j f=>?_)
 .erw[if_true];show aAa (aCG (aAa (aBi hz rfl (x:=.ref TO) rfl (aAa (aBf hz (by simp) λd j f=>?_)))));replace j:Zs d z TI TO .ellipsis N:=j;show aAa (aAa<|aAa<|aEo ?_);show aAa (wpAny_nextOf_list_end v (B.extBut f.extBut D.i1z) (C.extBut f.extBut D.l1z) H λI e l r=>?_);let{oe,g,h}:=r;have i:=l _ _ D.i1z.symm j;have t:e≠z:=λx=>by subst x;rw[i]at g;cases g;simp at h
  show aBf i (by simp) λhV _ J=>hE hV e (λc o m _ u _ x=>J.extBut _ _ m (l _ _ u<|f.extBut _ _ m x)) {oe,J.extBut _ _ t g,h}
 erw[aAB,if_false];show aAa ?_;rw[<-aCt];erw[aDd,aFN];show aAa (aAa<|aAJ<|aAa<|wpAny_nextOf_list_end v (B.extBut f.extBut D.i1z) (C.extBut f.extBut D.l1z) H λI e l r=>hE I e (λc o m _ u _ x=>l _ _ u (f.extBut _ _ m x)) r)
end
def RX(z TI TO d e f l2:a9)(Y j:Array au)(i:Nat)(h:cf):Prop:=
 (∃g k,Zs h z TI TO g k/\AI g)/\dA h TI (.ref d) (.ref e)/\(∃a b,dA h TO a b)/\h.IsListIter d f i/\h.IsListIter e l2 i/\h.IsList f Y/\h.IsList l2 j
section
variable{s:aL}
def RX.type(h:RX z TI TO b d e l2 Y f i s.heap):s.TypeIs (.ref z) "zip":=by let{{g,j,a,_},_}:=h;show{_,a,rfl}
def RX.keeps(x:RX z TI TO d f g l2 Y m i h)(k:∀b o,b∈[z,TI,TO,d,f,g,l2]->h.get? b=some o->h'.get? b=some o):RX z TI TO d f g l2 Y m i h':=by let{{n,p,q,r},j,{a,b,l},t,u,v,w}:=x;show{{n,p,k z _ (by simp) q,r},k TI _ (by simp) j,{a,b,k TO _ (by simp) l},t.at λo e=>k d o (by simp) e,u.at λo e=>k f o (by simp) e,v.at λo e=>k g o (by simp) e,w.at λo e=>k l2 o (by simp) e}
def UK{Q:Option au->aL->Prop}(D:ZipApart z TI TO j k p l2)(hl:Y.size=d.size)(st:RX z TI TO j k p l2 Y d i s.heap)(B:i<Y.size)(C:∀h' T x y,Y[i]?=some x->d[i]?=some y->RX z TI TO j k p l2 Y d (i+1) h'->s.heap.objs.size<=T->dA h' T x y->(∀c o,c∉[z,TO,j,k]->s.heap.get? c=some o->h'.get? c=some o)->Q (some (.ref T)) {s with heap:=h'}):
  ba (bb prog w) A (fh (.ref z)) Q E s:=by
 have q:=st.type;let{{f0,f1,H,I},f,{a,b,l},J,L,r,t}:=st;have u:Y[i]?=some Y[i]:=aAt B;have v:d[i]?=some (d[i]'(by lia)):=aAt (by lia);unfold fh;show aAa (aCU (aAX (name:=aGo "__next__") q aCr
  (aAG aCr q aET (VY D H I f l J L r t u v λh' T m n N O U e2 e3 e4 e5 e6 e7 h=>aAc ?_)<|aEA _)))
 show C h' T _ _ u v {{m,n,U,e2},h _ _ D.TIz D.TITO D.TIi1 D.TIi2 f,{N,O,e3},e4,e5,r.at λo e=>h _ o D.l1z D.l1TO D.l1i1 D.l1i2 e,t.at λo e=>h _ o D.l2z D.l2TO D.l2i1 D.l2i2 e} e6 e7 λc o g e=>?_;erw[aAe,aAR,or_false,not_or]at g;show h c o g.1 g.2.1 g.2.2.1 g.2.2.2 e
def TX{Q:Option au->aL->Prop}(l:A.handled=none)(D:ZipApart z TI TO i j m l2)(st:RX z TI TO i j m l2 Y B Y.size s.heap)
  (n:∀h',(∀c o,c∉[z,TO,i,j]->s.heap.get? c=some o->h'.get? c=some o)->Q none {s with heap:=h'}):ba (bb prog w) A (fh (.ref z)) Q E s:=by
 have k:=st.type;let{{C,H,p,q},f,{a,b,g},r,t,u,v}:=st;unfold fh;show aAa (aCU (aAX (name:=aGo "__next__") k aCr
  (aAG aCr k aET (YW (by exists l) D p q f g r t u v (aBr<|aAi _) λh' e x y=>?_)<|aEA _)))
 let{o,h,d}:=y;show aAa (aCx (T:= "StopIteration") (b:=true) {o,h,d} aEE ?_);show aAc (n _ λc o d e=>?_);erw[aAe,aAR,or_false,not_or]at d;show x c o d.1 d.2.1 d.2.2.1 d.2.2.2 e
def Pairs(h0:cf)(Y a B:Array au)(i:Nat)(h:cf)(off:List a9):Prop:=B.size=i/\∀(j:Nat) (v:au),B[j]?=some v->∃T x y,v=.ref T/\Y[j]?=some x/\a[j]?=some y/\dA h T x y/\T∉off/\h0.get? T=none
def PK(hh:A.handled=none)(D:ZipApart z TI TO g l O l2)(hl:Y.size=Q.size)(hn:Y.size<=sizeLine)(S:a9)(uc:S∉[z,TI,TO,g,l,O,l2])(res:au)(h0:cf):
  ∀(k i:Nat) (s:aL) (B:Array au) (c:Nat),Y.size-i=k->i<=Y.size->(∀b o,b∉[z,TO,g,l,S]->h0.get? b=some o->s.heap.get? b=some o)->RX z TI TO g l O l2 Y Q i s.heap->s.heap.get? S=some {cls:=.type "list",dict:=none,data:=.seq B c,slots:=#[]}->Pairs h0 Y Q B i s.heap [z,TO,g,l,S]->
  (∀h' L U,(∀b o,b∉[z,TO,g,l,S]->s.heap.get? b=some o->h'.get? b=some o)->h'.get? S=some {cls:=.type "list",dict:=none,data:=.seq L U,slots:=#[]}->Pairs h0 Y Q L Y.size h' [z,TO,g,l,S]->R (.ok (.ret res)) {s with heap:=h'})->
  gn (bb prog w) A (.builtin "list.extend.loop" {[.ref S,.ref z,res],[]}) R s:=by
 have C:S∉[z,TO,g,l]:=λh=>uc (by erw[aAe,aAR,or_false]at h⊢;rcases h with h|h|h|h<;>simp[h]);have m:∀b,b∉[z,TO,g,l,S]->b∉[z,TO,g,l]:=λb h q=>h (by erw[aAe,aAR,or_false]at q⊢;rcases q with q|q|q|q<;>simp[q]);intro k;induction k with
 |zero=>
  intro i s B c hk hi p N E n hR;have ku:i=Y.size:=by lia
  subst ku;show aBn F.entry_extend_loop ?_;rw[aBm aDp _];change ba _ A.in1 (fh (.ref z)>>=_) _ _ s;show aAa (TX (by exists hh) D N λh' kp=>?_);show aAc (hR h' B c (λb o d e=>kp b o (m b d) e) (kp S _ C E) {n.1,λj v t=>?_});let{T,x,y,e1,e2,e3,e4,u,e6}:=n.2 j v t;show{T,x,y,e1,e2,e3,kp T _ (m T u) e4,u,e6}
 |succ k ih=>
  intro i s B c hk hi p N E n hR;have ao:i<Y.size:=by lia
  show aBn F.entry_extend_loop ?_;rw[aBm aDp _];change ba _ A.in1 (fh (.ref z)>>=_) _ _ s;show aAa (UK D hl N ao λh' T x y hx hy la hT hP kp=>?_);have jg:=kp S _ C E;have f:∀b o,s.heap.get? b=some o->T≠b:=λb o e q=>k7 (aAn (aAd e) hT) (by rw[q];show aBC _);let{{f0,f1,hz,_},_,{a,b,hTO},{o1,g1,_},{o2,g2,_},_}:=id N;have H:T∉[z,TO,g,l,S]:=by erw[aAe,aAR,or_false,not_or];show{f _ _ hz,f _ _ hTO,f _ _ g1,f _ _ g2,f _ _ E}
  change ba _ A.in1 (updateSeq S (·.push (.ref T))>>=_) _ _ _;show aAa ?_;have I:∀b o,b≠S->h'.get? b=some o->(h'.update S (aCg (·.push (.ref T)))).get? b=some o:=λb o d e=>(aAE _ _<|aCL d).trans e;have neS:∀b,b∈[z,TI,TO,g,l,O,l2]->b≠S:=λb d q=>uc (q▸d);show aCc jg rfl (aAc {aBD aDp _,ih (i+1) _ (B.push<|.ref T) _ (by lia) ao (λb o d e=>I b o (λq=>d (by simp[q])) (kp b o (m b d)<|p b o d e)) (la.keeps λb o d e=>I b o (neS b d) e) (aBa _ jg rfl) {by rw[Array.size_push,n.1],λj v t=>?_} λh'' L U kp' vp r=>?_})
   (by rw[n.1];lia) (by change(B.push<|.ref T).size<=sizeLine+1;rw[Array.size_push,n.1];lia)
  .rw[Array.getElem?_push]at t;split at t
   .rename_i q;cases t;rw[n.1]at q;subst q;show{T,x,y,rfl,hx,hy,I T _ (f _ _ E) hP,H,?_};cases q0:h0.get? T with
    |none=>rfl
    |some o=>show k7 rfl (f T o<|p T o H q0)
   let{J,x',y',e1,e2,e3,e4,u,e6}:=n.2 j v t;have n5:J≠S:=λq=>u (by simp[q]);show{J,x',y',e1,e2,e3,I J _ n5 (kp J _ (m J u) e4),u,e6}
  show hR h'' L U (λb o d e=>kp' b o d (I b o (λq=>d (by simp[q]))<|kp b o (m b d) e)) vp r
end
section
def fE{Q:A5}(St:cf->Prop)(J:∀d:aL,St d.heap->d.TypeIs (.ref I) T)(y:∀h h',St h->(∀b o,b≠s.heap.objs.size->h.get? b=some o->h'.get? b=some o)->St h')(r:I≠s.heap.objs.size)
  (n1:(aCu T==aCu "list")=false) (n2:(aCu T==aCu "tuple")=false) (L:∀{M:Model}{A:bt}{E:A5}{s:aL}{Q:Fin->aL->Prop}{a b:Sem Fin},(room=true->ba M A a Q E s)->(room=false->ba M A b Q E s)->ba M A (if(room||["set", "frozenset", "dict", "dict_keys", "dict_values", "dict_items"].any (aCu T==aCu ·))=true then a else b) Q E s)
  (self:∀(d:aL) (Q:A5) (E:A5),St d.heap->Q (.ref I) d->ba (bb prog w) A.in1.in1 (pyIter (.ref I)) Q E d)
  (hint:∀(d:aL) (Q:CD) (E:A5),St d.heap->Q room d->ba (bb prog w) A.in1.in1 (aCO (.ref I)) Q E d) (N:St s.heap)
  (f:∀(n:cf) (c:Nat) (R:Result->aL->Prop),(∀b o,s.heap.get? b=some o->n.get? b=some o)->St n->n.get? s.heap.objs.size=some {cls:=.type "list",dict:=none,data:=.seq #[] c,slots:=#[]}->(∀s',Q (.ref s.heap.objs.size) s'->R (.ok (.ret .none)) s')->
   gn (bb prog w) A.in1 (.builtin "list.extend.loop" {[.ref s.heap.objs.size,.ref I,.none],[]}) R {s with heap:=n}):
  ba (bb prog w) A (call (.type "list") [.ref I]) Q E s:=by
 show callType_codes (Q₁:=λj z=>j=.ref s.heap.objs.size/\z={s with heap:=s.heap.push {cls:=.type "list",data:=.seq #[]}}) F.called_list (F.typeCall_list_1 _) F.entry_list_init
  (code_list_new _ {rfl,rfl}) λj z k=>?_
 let{rfl,rfl}:=k;have p:(s.heap.push {cls:=.type "list",data:=.seq #[]}).get? s.heap.objs.size=some {cls:=.type "list",data:=.seq #[]}:=aAh _ rfl;have B:∀b o,s.heap.get? b=some o->b≠s.heap.objs.size:=λb o e=>aAl (aAd e);show{{_,p,rfl},F.args_list_init_2 _ _,(aAa ?_)};unfold aDx;show aAa (aAW p rfl<|aAc<|aAa<|aCc p rfl ?_);have i:=aBa (aCg<|λ_=>(#[]:Array au)) p rfl;show aAa (aDK ?_);generalize t:(s.heap.push {cls:=.type "list",data:=.seq #[]}).update s.heap.objs.size (aCg<|λ_=>(#[]:Array au))=g at*
 have u:∀b o,s.heap.get? b=some o->g.get? b=some o:=λb o e=>by rw[<-t];show(aAE _ _<|aCL<|B b o e).trans (aAb _ e)
 have l:St g:=y s.heap g N λb o _ e=>u b o e;have v:aDe (.ref s.heap.objs.size) (.ref I)=false:=by simp[aDe,aCL r]
 have x:Shared.TypeIs {s with heap:=g} (.ref I) T:=J {s with heap:=g} l;unfold aDL;show aAa (aDk x ?_);erw[v,n1,n2,Bool.or_false,aAB,if_false];show aAa (self _ _ _ l<|aAa<|aAJ<|hint _ _ _ l<|L (λ_=>?_)<|λ_=>?_)
 .change ba _ A.in1.in1 (rule "list.extend.makes-room">>=λ_=>Builtin.List.listTouch (.ref s.heap.objs.size)>>=λ_=>again (.builtin "list.extend.loop" {[.ref s.heap.objs.size,.ref I,.none],[]})) _ _ _;show aAa (aCG<|aAa ?_);show aAa (aCc i rfl ?_);have m:=aBa (aCg (·.push Value.none)) i rfl;show aCc m rfl ?_;have C:∀b o,b≠s.heap.objs.size->g.get? b=some o->((g.update s.heap.objs.size (aCg (·.push Value.none))).update s.heap.objs.size (aCg (·.pop))).get? b=some o:=
   λb o H e=>(aAE _ _<|aCL H).trans ((aAE _ _<|aCL H).trans e)
  show aAc {aBD aDp _,f _ _ _ (λb o e=>C b o (B b o e) (u b o e)) (y g _ l C) (aBa (aCg (·.pop)) m rfl) λs' q=>{rfl,q}}
 show aAc {aBD aDp _,f _ _ _ u l i λs' q=>{rfl,q}}
def NA:kb (.type "zip") "__len__"=pure none:=by rw[aDf,aBZ];kernel_rfl
def FB:kb (.type "zip") "__length_hint__"=pure none:=by rw[aDf,aBZ];kernel_rfl
def RW{Q:A5}(y:A.handled=none)(D:ZipApart z TI TO d f i l2)(C:Y.size=l.size)(H:Y.size<=sizeLine)(st:RX z TI TO d f i l2 Y l 0 s.heap)(I:∀h' B c,(∀b o,b∉[z,TO,d,f]->s.heap.get? b=some o->h'.get? b=some o)->h'.get? s.heap.objs.size=some {cls:=.type "list",dict:=none,data:=.seq B c,slots:=#[]}->Pairs s.heap Y l B Y.size h' [z,TO,d,f,s.heap.objs.size]->Q (.ref s.heap.objs.size) {s with heap:=h'}):
  ba (bb prog w) A (call (.type "list") [.ref z]) Q E s:=by
 have lt:∀b∈[z,TI,TO,d,f,i,l2],b≠s.heap.objs.size:=λb g=>by
  let{{J,L,p,_},m,{a,b',n},{o1,N,_},{o2,O,_},{o3,T,_},{o4,U,_}}:=st;simp at g;rcases g with rfl|rfl|rfl|rfl|rfl|rfl|rfl
  .show aAl (aAd p)
  .show aAl (aAd m)
  .show aAl (aAd n)
  .show aAl (aAd N)
  .show aAl (aAd O)
  .show aAl (aAd T)
  show aAl (aAd U)
 show fE (room:=true) (RX z TI TO d f i l2 Y l 0) (λr h=>h.type) (λh h' x k=>x.keeps λb o g e=>k b o (lt b g) e) (lt z (by simp)) (by symm) (by symm) (λt h2=>by rw[km (by symm)];show t rfl)
  (λr Q E x q=>?_) (λr Q E x q=>?_) st λt c R u OR hS hR=>?_
 .let{{J,L,p,_},_}:=id x;show aDO x.type F.slot_zip_iter (aAG F.slot_zip_iter x.type F.entry_zip_iter ?_ (F.args_zip_iter_1 _));show aAc {_,rfl, "zip",_,x.type,aCr.lookup,q}
 .unfold aCO;show aAa (aBw x.type NA ?_);change ba _ _ (specialOf (aCV z) (aGo "__length_hint__")>>=_) _ _ _;show aAa (aBw x.type FB<|aAc q)
 show PK (by exists y) D C H s.heap.objs.size (λh=>lt _ h rfl) .none s.heap Y.size 0 _ #[] c (by lia) (aAS _) (λb o _ e=>u b o e) OR hS {rfl,λj v h=>by simp at h} λh' il c' kp jg hP=>hR _ (I h' il c' (λb o g e=>kp b o ?_ (u b o e)) jg hP);have:=aAl (aAd e);grind
def LB:kb (.type "list_reverseiterator") "__len__"=pure none:=by rw[aDf,aBZ];kernel_rfl
def TJ:kb (.type "list_reverseiterator") "__length_hint__"=pure (some (.builtin "list_reverseiterator.__length_hint__")):=by rw[aDf,aBZ];kernel_rfl
def TU{Q:A5}(z:A.handled=none)(B:l≠r)(C:Y.size<=sizeLine)(m:s.heap.IsRevIter r l ((Y.size:Int)-1))(n:s.heap.IsList l Y)(H:∀h' tk c,(∀b o,b≠r->s.heap.get? b=some o->h'.get? b=some o)->h'.get? s.heap.objs.size=some {cls:=.type "list",dict:=none,data:=.seq Y.reverse c,slots:=#[]}->Q (.ref s.heap.objs.size) {s with heap:=h',toks:=tk}):
  ba (bb prog w) A (call (.type "list") [.ref r]) Q E s:=by
 have p:r≠s.heap.objs.size:=by let{o,g,_}:=m;show aAl (aAd g)
 have I:l≠s.heap.objs.size:=by let{o,g,_}:=n;show aAl (aAd g)
 show fE (room:=false) (λh=>h.IsRevIter r l ((Y.size:Int)-1)/\h.IsList l Y) (λt h=>h.1.typeIs) (λh h' x k=>{x.1.at λo e=>k r o p e,x.2.at λo e=>k l o I e}) p (by symm) (by symm)
  (λJ L=>by rw[kn (by symm)];show L rfl) (λt Q E x q=>wpAny_pyIter_revIter x.1 q) (λt Q E x q=>?_) {m,n} λJ c R N OR O T=>?_
 .have f:=x.1.typeIs;unfold aCO;show aAa (aBw f LB ?_);change ba _ _ (specialOf (aCV r) (aGo "__length_hint__")>>=_) _ _ _;show aAa (aBw f TJ (aAa (aCx (b:=true) f (by rw[aFO];kernel_rfl)<|aAc q)))
 have W:=(Walks.listRev (prog:=prog) (w:=w) (A:=A.in1.in1) (by simp[z]) r l B Y).toS;show codeAny_extend_loopS W C s.heap.objs.size (by grind) .none Y.size 0 _ #[] c (by lia) (aAS _) {aAS _,by simpa using OR.1,OR.2} O (ItemsOf.nil _) λa u U d jg j=>T _ ?_;have ea:u=Y.reverse:=by
  apply Array.ext';apply aEz;intro i;rw[aAx,aAx];by_cases v:i<Y.size
  .have y:i<u.size:=by rw[j.1];show v
   have:=j.2 i _ (aAt y);rw[aAt y,Array.getElem?_reverse v,this]
  rw[aBr (by rw[j.1];lia),aBr (by simp;lia)]
 subst ea;have g0:a.gens=s.gens:=d.gens;have d0:a.drawn=s.drawn:=d.drawn;have o0:a.os=s.os:=d.os;let{h',g',d',oh,os'}:=a;subst g0 d0 o0;show H h' oh U (λb o hb e=>(d.heap b o (by simp;show{aAl (aAd e),hb})<|N b o e)) jg
end
section
def QW{s:aL}{Q:A5}(a:s.heap.IsTupleIter d l i)(h:s.heap.IsTuple l items)(j:items[i]?=some x)
  (k:∀h',h'.IsTupleIter d l (i+1)->Heap.SameBut d s.heap h'->Q x {s with heap:=h'}):
  ba (bb prog w) A (aBq (.ref d)) Q E s:=by
 let{o,e,m,b}:=id a;let{n,f,_,p,g}:=h;show aAa (aAX a.typeIs aCT
  (aAG aCT a.typeIs aFg ?_ (aFb _)))
 change ba _ _ (field (.ref d) 0>>=_) _ _ s;show aAa (aBi e b (x:=.ref l) rfl<|aAa<|aBi e b rfl<|aAa<|aAW f g ?_);erw[aBI,j];show aAa (aDv e b (by simp)<|aAc ⟨x,rfl,aAc (k _ ?_ (aCk ..))⟩);show{_,aBa _ e (aEN<|aCW b _),(aFU ..).trans m,by rw[aCW b];simp[dm]}
def kw{s:aL}{Q:A5}(k:A.handled=none)
  (b:s.heap.IsTupleIter d l i) (m:s.heap.IsTuple l items) (n:items[i]?=none)
  (hE:∀h' e,Heap.ExtBut d s.heap h'->(∃o,h'.get? e=some o/\o.cls=.type "StopIteration")->E (.ref e) {s with heap:=h'}):
  ba (bb prog w) A (aBq (.ref d)) Q E s:=by
 let{o,f,p,g}:=id b;let{q,h,_,r,j}:=m;show aAa (aAX b.typeIs aCT
  (aAG aCT b.typeIs aFg ?_ (aFb _)))
 change ba _ _ (field (.ref d) 0>>=_) _ _ s;show aAa (aBi f g rfl ?_);show aAa (aBi f g rfl<|aAa<|aAW h j ?_);erw[aBI,n];show aAa (aCG (aAa (aDv f g (by simp)<|aAa ?_)));erw[newExc,newTuple];show aAa (aAD (aAa (aFh (a:=Value.none) (by first|rfl|(simp only[];rfl)) (aAD ?_ (by size_fits)))) (by size_fits));erw[raiseNew];show aAa (aGa ?_);first|rw[show A.in1.handled=none from k]|rw[k]
 show aAa (aAc<|aGJ<|hE _ _ (((aCk ..).extBut.push _).push _) ⟨_,aAh _ rfl,rfl⟩)
abbrev ti(t:a9):Obj:={cls:=.type "tuple_iterator",data:=.fields #[.ref t,.int 0 0]}
end
end SZ
namespace SD
open PySem
def DO(h:cf)(d:a9)(es:Array dq)(ep:Nat):Prop:=∃o,h.get? d=some o/\o.ExactDict/\o.data=.dict es ep
def DO.at(x:DO h d es ep)(e:∀o,h.get? d=some o->h'.get? d=some o):DO h' d es ep:=by let{o,a,r}:=x;show{o,e o a,r}
def DO.type{s:aL}(x:DO s.heap d es ep):s.TypeIs (.ref d) "dict":=by let{o,a,r,_}:=x;show{o,a,r.1}
section
variable{prog:bc}{w:bM}{A:bt}{E:A5}{s:aL}{d it:a9}{es:Array dq}{ep i:Nat}
def aw{Q:A5}(g:(d==ff)=false)(b:DO s.heap d es ep)
  (h:Q (.ref s.heap.objs.size) {s with heap:=s.heap.push {cls:=.type "dict_keyiterator",data:=.fields #[.ref d,.int 0 0,.int es.size 0,.int ep 0]}}):ba (bb prog w) A (pyIter (.ref d)) Q E s:=by
 have a:=b.type;let{o,e,j,f}:=b;show aDO a F.slot_dict_iter (aAG F.slot_dict_iter a F.entry_dict_iter (aAa ?_)<|F.args_dict_iter_1 _);unfold Builtin.Dict.dictSlotNone;show aAa (aEO a<|aAc (?_:ba _ _ (aDM d>>=_) _ _ s));unfold aDM;rw[kn (by rw[g];symm)];show aAa (aAc<|aAa<|aEB e f<|aAa<|aFi e f<|aAa<|aAD<|aAc ⟨_,rfl, "dict_keyiterator",_,⟨_,aAh _ rfl,rfl⟩,aDD.lookup,?_⟩);simpa[dm]using h
def KT{Q:Option au->aL->Prop}(m:A.handled=none)(f:s.heap.IsKeyIter it d i es.size ep)(n:DO s.heap d es ep)
  (p:∀(a:i<es.size) h',h'.IsKeyIter it d (i+1) es.size ep->Heap.SameBut it s.heap h'->Q (some es[i].key) {s with heap:=h'}) (hE:es.size<=i->∀h',Heap.ExtBut it s.heap h'->Q none {s with heap:=h'}):ba (bb prog w) A (fh (.ref it)) Q E s:=by
 have e:=f.typeIs;let{o,k,q,g}:=f;let{t,h,u,j}:=n;have r:aDE "dict_keyiterator"=false:=by decide
 unfold fh;show aAa (aCU<|aAX e aDD<|aAG aDD e F.entry_dict_keyiterator_next (aAa<|aAc<|aAa<|aAa ?_)<|F.args_dict_keyiterator_next_1 _);show aAa (aDr e<|aAc<|aAa<|aFP k g ?_);erw[r,aAB,if_false];change ba _ _ (if(aCV d==Value.none)=true then _ else _) _ _ s;rw[kn (by intro z;cases z)];show aAa (aAc<|aAa<|aEB h j ?_);rw[kn (by simp)];show aAa (aAc<|aAa<|aFi h j ?_);rw[kn (by simp)];show aAc ?_;by_cases a:i<es.size
 .erw[show¬((i:Int)<0)by lia,if_false,aBI,aAt a];show aAa (aAa<|aDr e<|aAc<|aAa<|wpAny_isOneOf_keyiter e ?_);change ba _ _ (setField (.ref it) 1 (dm<|(i:Int)+1)>>=_) _ _ s;show aAa (aDv k g (by simp) ?_);have l:(s.heap.update it (Obj.mapFields (·.setIfInBounds 1 (dm<|(i:Int)+1)))).IsKeyIter it d (i+1) es.size ep:={_,aBa _ k (aEN<|aCW g _),(aFU ..).trans q,by rw[aCW g];simp[dm]};show aAa (aAJ<|aAa<|wpAny_isOneOf_keyiter l.typeIs ((aAc<|aAc ⟨_,rfl,aAc (p a _ l<|aCk ..)⟩):ba _ _ (pure es[i].key) _ _ _))
 have a:es.size<=i:=by nofun
 erw[show¬((i:Int)<0)by lia,if_false,aBI,aBr a];show aAa (aAa (aDr e (aAc ((aAa (aDv k g (by simp) ((aAa ?_):ba _ _ (newExc (.type "StopIteration") []>>=_) _ _ _))):ba _ _ (setField (.ref it) 0 .none>>=_) _ _ s))));erw[newExc,newTuple];show aAa (aAD (aAa (aFh (by first|rfl|(erw[firstArgMember];rfl)) (aAD ?_ (by size_fits)))) (by size_fits));erw[raiseNew];show aAa (aGa ?_);rw[show A.in1.handled=none from m];show aAa (aAc<|aGJ ?_);show aAa (aCx (b:=true) {_,aAh _ rfl,rfl} aEE<|aAc<|hE a _<|((aCk ..).extBut.push _).push _)
end
def UH{prog:bc}{w:bM}{A:bt}(k:A.handled=none)(I d:a9)(p:d≠I)(es:Array dq)(ep:Nat):
  Walks prog w A I [I,d] [I] es.size (λi v=>∃e,es[i]?=some e/\v=e.key) (λi h=>h.IsKeyIter I d i es.size ep/\DO h d es ep)where
 sub:=λb a=>by simp at a;simp[a]
 frame:=λ_ _ _ st l=>{Heap.IsKeyIter.at st.1 λo e=>l I (by simp) o e,st.2.at λo e=>l d (by simp) o e}
 item:=λi s Q E m st f=>KT k st.1 st.2 (hE:=λz=>by lia) λm g j n=>f _ g s.toks {es[i],aAt m,rfl} {j,st.2.at λo e=>(n.2 d p).trans e} λb o a e=>(n.2 b (λz=>a (by simp[z]))).trans e
 done:=λs Q E st f=>KT k st.1 st.2 (λz=>by lia) λ_ g q=>f g s.toks λb o a e=>q b o (λz=>a (by simp[z])) e
 self:=λ_ _ _ _ st f=>wpAny_pyIter_keyiter st.1 f
section
variable{prog:bc}{w:bM}{A:bt}{E:A5}{s:aL}{d:a9}{es:Array dq}{ep:Nat}
def a3e(a:(d==ff)=false):PySem.W.KdlSrc prog w "dict" d d es.size (λi v=>∃e,es[i]?=some e/\v=e.key) (λh=>DO h d es ep)where
 type:=λs h=>h.type
 there:=by rintro h ⟨o,g,_⟩;show{aAd g,aAd g}
 keep:=λh f x k=>x.at λo e=>k d (.inl rfl) o e
 notList:=by decide
 notTuple:=by decide
 hint:=λA E s Q ok q=>PySem.W.kdl_hint_dict ok.type q
 iter:=λA s b ok=>{_,λi h=>h.IsKeyIter s.heap.objs.size d i es.size ep/\DO h d es ep,λE Q q=>aw a ok q,UH b _ d (by let{o,g,_}:=ok;show aAl (aAd g)) es ep,{_,aAh _ rfl,rfl,rfl},ok.at λo e=>aAb _ e}
def collect_dk{Q:List au->aL->Prop}(n:A.handled=none)(p:(d==ff)=false)(j:DO s.heap d es ep)(q:es.size<=sizeLine)
  (r:∀h' tk,(∀b o,s.heap.get? b=some o->h'.get? b=some o)->Q (es.toList.map (·.key)) {s with heap:=h',toks:=tk}):ba (bb prog w) A (collect (.ref d)) Q E s:=by
 have k:d<s.heap.objs.size:=by let{o,g,_}:=j;show aAd g
 show aAa (aGF<|aBn PySem.F.entry_proto_collect ?_);have a:∀b o,s.heap.get? b=some o->(s.heap.push {cls:=.type "list",data:=.seq ([]:List au).toArray}).get? b=some o:=λb o e=>aAb _ e;have f:∀R:Result->aL->Prop,(∀h' tk l t,(∀b o,b≠s.heap.objs.size->(s.heap.push {cls:=.type "list",data:=.seq ([]:List au).toArray}).get? b=some o->h'.get? b=some o)->h'.get? s.heap.objs.size=some {cls:=.type "list",dict:=none,data:=.seq l t,slots:=#[]}->ItemsOf (λi v=>∃e,es[i]?=some e/\v=e.key) l es.size->R (.ok (.ret (.ref s.heap.objs.size))) {s with heap:=h',toks:=tk})->
   gn (bb prog w) A (.builtin "list.__iadd__" {[.ref s.heap.objs.size,.ref d],[]}) R {s with heap:=s.heap.push {cls:=.type "list",data:=.seq ([]:List au).toArray}}:=λR u=>aBn PySem.F.entry_list_iadd (by
  show PySem.W.kdl_extend (a3e (es:=es) p) n (j.at λo e=>a d o e) s.heap.objs.size (aBY k) (aBY k) (.ref s.heap.objs.size) 0 (aAh _ rfl) u q)
 show aAa (aAD<|aAc ⟨aBD PySem.F.plain_list_iadd _,f _ λh' tk B c x y h=>(aAa<|wpAny_load y<|aAc ?_)⟩);have z:B.toList=es.toList.map (·.key):=by
  apply aEz;intro i;rw[aAF,aAx,aAx];by_cases C:i<es.size
  .have m:i<B.size:=by rw[h.1];show C
   let{e,H,I}:=h.2 i _ (aAt m);rw[H,aAt m,I];rfl
  rw[aBr (by rw[h.1];lia),aBr (by lia)];rfl
 rw[z];show r h' tk λb o e=>x b o (aAl<|aAd e) (a b o e)
end
section
variable{prog:bc}{w:bM}{A:bt}{E:A5}{s:aL}{d it:a9}{es:Array dq}{ep i:Nat}
def pj{v:a9}{Q:A5}(e:s.heap.IsValuesView v d)(j:DO s.heap d es ep)
  (k:Q (.ref s.heap.objs.size) {s with heap:=s.heap.push {cls:=.type "dict_valueiterator",data:=.fields #[.ref d,.int 0 0,.int es.size 0,.int ep 0]}}):ba (bb prog w) A (pyIter (.ref v)) Q E s:=by
 have f:=e.typeIs;let{n,a,l,b}:=e;let{o,g,p,h}:=j;have m:aDE "dict_valueiterator"=false:=by decide
 show aDO f aGb (aAG aGb f F.entry_dict_values_iter (aAa<|aAc<|aAa ?_)<|F.args_dict_values_iter_1 _);show aAa (aBi a b rfl<|aAc<|aAa<|aAa<|aEB g h<|aAa<|aFi g h ?_);erw[m,aAB,if_false];show aAD (aAc {_,rfl, "dict_valueiterator",_,{_,aAh _ rfl,rfl},aDl.lookup,?_});simpa[dm]using k
def IW{Q:Option au->aL->Prop}(p:A.handled=none)(g:s.heap.IsValIter it d i es.size ep)(q:DO s.heap d es ep)
  (r:∀(e:i<es.size) h',h'.IsValIter it d (i+1) es.size ep->Heap.SameBut it s.heap h'->Q (some es[i].val) {s with heap:=h'}) (hE:es.size<=i->∀h',Heap.ExtBut it s.heap h'->Q none {s with heap:=h'}):ba (bb prog w) A (fh (.ref it)) Q E s:=by
 have f:=g.typeIs;let{o,l,t,h}:=g;let{v,j,x,k}:=q;have u:aDE "dict_valueiterator"=false:=by decide
 unfold fh;show aAa (aCU<|aAX f aDl<|aAG aDl f F.entry_dict_valueiterator_next (aAa<|aAc<|aAa<|aAa ?_)<|F.args_dict_valueiterator_next_1 _);show aAa (aDs f<|aAc<|aAa<|aFP l h ?_);erw[u,aAB,if_false];change ba _ _ (if(aCV d==Value.none)=true then _ else _) _ _ s;rw[kn (by intro z;cases z)];show aAa (aAc<|aAa<|aEB j k ?_);rw[kn (by simp)];show aAa (aAc<|aAa<|aFi j k ?_);rw[kn (by simp)];show aAc ?_;by_cases e:i<es.size
 .erw[show¬((i:Int)<0)by lia,if_false,aBI,aAt e];show aAa (aAa<|aDs f<|aAc<|aAa<|aEP f ?_);change ba _ _ (setField (.ref it) 1 (dm<|(i:Int)+1)>>=_) _ _ s;show aAa (aDv l h (by simp) ?_);have n:(s.heap.update it (Obj.mapFields (·.setIfInBounds 1 (dm<|(i:Int)+1)))).IsValIter it d (i+1) es.size ep:={_,aBa _ l (aEN<|aCW h _),(aFU ..).trans t,by rw[aCW h];simp[dm]};show aAa (aAJ<|aAa<|aEP n.typeIs<|aAa<|aEP n.typeIs ((aAc<|aAc ⟨_,rfl,aAc (r e _ n<|aCk ..)⟩):ba _ _ (pure es[i].val) _ _ _))
 have e:es.size<=i:=by nofun
 erw[show¬((i:Int)<0)by lia,if_false,aBI,aBr e];show aAa (aAa (aDs f (aAc ((aAa (aDv l h (by simp) ((aAa ?_):ba _ _ (newExc (.type "StopIteration") []>>=_) _ _ _))):ba _ _ (setField (.ref it) 0 .none>>=_) _ _ s))));erw[newExc,newTuple];show aAa (aAD (aAa (m:=firstArgMember _ _) (aFh (a:=Value.none) (by first|rfl|(erw[firstArgMember];rfl)) (aAD ?_ (by size_fits)))) (by size_fits));erw[raiseNew];show aAa (aGa ?_);rw[show A.in1.handled=none from p];show aAa (aAc<|aGJ ?_);show aAa (aCx (T:= "StopIteration") (b:=true) {_,aAh _ rfl,rfl} aEE<|aAc<|hE e _<|((aCk ..).extBut.push _).push _)
end
def SQ{prog:bc}{w:bM}{A:bt}(k:A.handled=none)(I d:a9)(p:d≠I)(es:Array dq)(ep:Nat):
  Walks prog w A I [I,d] [I] es.size (λi v=>∃e,es[i]?=some e/\v=e.val) (λi h=>h.IsValIter I d i es.size ep/\DO h d es ep)where
 sub:=λb a=>by simp at a;simp[a]
 frame:=λ_ _ _ st l=>{Heap.IsValIter.at st.1 λo e=>l I (by simp) o e,st.2.at λo e=>l d (by simp) o e}
 item:=λi s Q E m st f=>IW k st.1 st.2 (hE:=λz=>by lia) λm g j n=>f _ g s.toks {es[i],aAt m,rfl} {j,st.2.at λo e=>(n.2 d p).trans e} λb o a e=>(n.2 b (λz=>a (by simp[z]))).trans e
 done:=λs Q E st f=>IW k st.1 st.2 (λz=>by lia) λ_ g q=>f g s.toks λb o a e=>q b o (λz=>a (by simp[z])) e
 self:=λ_ _ _ _ st f=>wpAny_pyIter_valiter st.1 f
section
variable{prog:bc}{w:bM}{A:bt}{E:A5}{s:aL}{d v:a9}{es:Array dq}{ep:Nat}
def sum_dv{Q:A5}(q:A.handled=none)(f:s.heap.IsValuesView v d)(a:DO s.heap d es ep)(val:Nat->Int)(j:∀(i:Nat) (e:dq),es[i]?=some e->∃t,e.val=aGp (val i) t)
  (l:∀h' tk t',(∀b o,s.heap.get? b=some o->h'.get? b=some o)->Q (.int (preSum val es.size) t') {s with heap:=h',toks:=tk}):ba (bb prog w) A (call (.builtin "sum") [.ref v]) Q E s:=by
 have m:d<s.heap.objs.size:=by let{o,g,_}:=a;show aAd g
 show call_sum_walkG (pj f a {s.heap.objs.size,[s.heap.objs.size,d],[s.heap.objs.size],es.size,_,_,val,rfl,SQ (by omega) _ d (aAl m) es ep,{{_,aAh _ rfl,rfl,rfl},a.at λo e=>aAb _ e},λb n=>?_,λi u h=>?_,λh' tk t' k=>?_})
 .simp at n;rw[aBb];grind
 .let{e,p,rfl}:=h;show j i e p
 show l h' tk t' λb o g=>k b o (by simp;show aAl (aAd g)) (aAb _ g)
def vals_dv{Q:A5}(b:(d==ff)=false)(a:DO s.heap d es ep)(h:Q (.ref s.heap.objs.size) {s with heap:=s.heap.push {cls:=.type "dict_values",data:=.fields #[.ref d]}}):ba (bb prog w) A (call (.builtin "dict.values") [.ref d]) Q E s:=by show aAG F.slot_dict_values a.type F.entry_dict_values (aAa<|aAa<|aEO a.type<|aAc (?_:ba _ _ (aDM d>>=_) _ _ s)) (F.args_dict_values_1 _);unfold aDM;rw[kn (by nofun)];show aAa (aAc<|aAa<|aAD<|aAc ⟨_,rfl,h⟩)
end
end SD
namespace L2
open PySem PySem.Spec PyProof.Rows
abbrev DZ:=Sum Int Str
def OT:DZ->au->Bool
 |.inl k,v=>Value.isInt k v
 |.inr x,v=>Value.isStrOf x v
def b0s(w:bM):DZ->Int
 |.inl k=>hashInt k
 |.inr x=>hashStr w x
theorem A9:∀{k:DZ}{v:au},OT k v=true->(∃i t,k=Sum.inl i/\v=aGp i t)\/(∃x t,k=Sum.inr x/\v=Value.str x t)
 |.inl i,v,h=>by let{t,e}:=Value.isInt_shape (v:=v) h;show .inl {i,t,rfl,e}
 |.inr x,v,h=>by let{t,e}:=Value.isStrOf_shape (v:=v) h;show .inr {x,t,rfl,e}
def a0z(a b:Int):decide ((Sum.inl a:DZ)=Sum.inl b)=(a==b):=by grind
def a0n(a b:Str):decide ((Sum.inr a:DZ)=Sum.inr b)=decide (a=b):=by grind
def a3j(a:Int)(b:Str):decide ((Sum.inl a:DZ)=Sum.inr b)=false:=by lia
def a3m(a:Str)(b:Int):decide ((Sum.inr a:DZ)=Sum.inl b)=false:=by lia
def yW(prog:bc)(w:bM):PySem.KeyKind prog w DZ where
 is:=OT
 hash:=b0s w
 inj:=λv a b l g=>by
  rcases A9 l with⟨i,t,rfl,rfl⟩|⟨x,t,rfl,rfl⟩
  .rcases A9 g with⟨j,u,rfl,e⟩|⟨y,u,rfl,e⟩
   .injection e with d _;rw[d]
   show nomatch e
  rcases A9 g with⟨j,u,rfl,e⟩|⟨y,u,rfl,e⟩
  .show nomatch e
  injection e with d _;rw[d]
 byValue:=λk v h=>by rcases A9 h with⟨i,t,rfl,rfl⟩|⟨x,t,rfl,rfl⟩<;>rfl
 pyHash:=λf h=>by
  rcases A9 f with⟨i,t,rfl,rfl⟩|⟨x,t,rfl,rfl⟩
  .show wpAny_pyHash_int h
  show wpAny_pyHash_str h
 eqBool:=λm f h=>by
  rcases A9 m with⟨i,t,rfl,rfl⟩|⟨x,t,rfl,rfl⟩
  .rcases A9 f with⟨j,u,rfl,rfl⟩|⟨y,u,rfl,rfl⟩
   .rw[a0z]at h;show wpAny_eqBool_int h
   rw[a3j]at h;show aGL i t y u _ _ _ _ h
  rcases A9 f with⟨j,u,rfl,rfl⟩|⟨y,u,rfl,rfl⟩
  .rw[a3m]at h;show aGM x t j u _ _ _ _ h
  rw[a0n]at h;show wpAny_eqBool_str h
 «strs»:=λk x t v h=>by
  rcases A9 h with⟨i,u,rfl,e⟩|⟨y,u,rfl,e⟩
  .show nomatch e
  injection e with d _;subst d;cases v<;>rfl
def a3w(prog:bc)(w:bM)(k:DZ)(v:au):(yW prog w).is k v=OT k v:=rfl
inductive V where
 |non|bl (b:Bool)|int (i:Int)|str (x:Str)|byt (b:Array UInt8)|flt (b:UInt64)|ref (a:Addr)|ty (n:String)
 deriving DecidableEq
def RelV:V->au->Prop
 |.non,u=>u=Value.none
 |.bl b,u=>u=aEc b
 |.int i,u=>∃t,u=aGp i t
 |.str x,u=>∃t,u=Value.str x t
 |.byt b,u=>∃t,u=Value.bytes b t
 |.flt b,u=>∃t,u=Value.float b t
 |.ref a,u=>u=aCV a
 |.ty n,u=>u=aCu n
abbrev o5:List V->List au->Prop:=Paired RelV
def o5.length{Y:List V}{a:List au}(r:o5 Y a):Y.length=a.length:=Paired.length r
theorem o5.get:∀{Y:List V}{a:List au}{i:Nat}{x:V},o5 Y a->Y[i]?=some x->∃u,a[i]?=some u/\RelV x u:=by
 intro _ _ b x d e;cases d with
 |nil=>simp at e
 |cons r t=>
  cases b with
  |zero=>nofun
  |succ i=>let{u,f,g}:=o5.get t (by exists e);show{u,by simpa using f,g}
theorem o5.append:∀{Y a:List V}{b ws:List au},o5 Y b->o5 a ws->o5 (Y++a) (b++ws):=by
 intro _ _ _ _ d s;cases d with
 |nil=>show s
 |cons r t=>show .cons r (o5.append t s)
theorem o5.take:∀{Y:List V}{a:List au} (n:Nat),o5 Y a->o5 (Y.take n) (a.take n):=by
 intro _ _ b d;cases b with
 |zero=>show .nil
 |succ n=>
  cases d with
  |nil=>show .nil
  |cons r t=>show .cons r (o5.take n t)
theorem o5.drop:∀{Y:List V}{a:List au} (n:Nat),o5 Y a->o5 (Y.drop n) (a.drop n)
 |_,_,0,r=>r
 |_,_,_+1,.nil=>.nil
 |_,_,n+1,.cons _ t=>o5.drop n t
def a4y:Option V->Option au->Prop
 |some v,some u=>RelV v u
 |none,none=>True
 |_,_=>False
def KV{κ:Type}:List (κ×V)->List (κ×au)->Prop:=Paired λ(p:κ×V) (q:κ×au)=>p.1=q.1/\RelV p.2 q.2
def kV:DZ->V
 |.inl i=>.int i
 |.inr x=>.str x
inductive HO where
 |lst (Y:List V)
 |tup (Y:List V)
 |dK (N:List (DZ×V))|dT (N:List (List DZ×V))
 |set (S:Int->Bool) (n:Nat)
 |ins (C dx:Addr) (fs:List (Str×V))
 |own (x:Addr)
 |xd (fs:List (Str×V))
 |met (f x:Addr)
 |rng (lo hi:Int)
 |frz (o:Obj) (u:HO)
 |tbl (tb:List (Pos×Str))
 |ext (φ:Heap->Prop)
abbrev Hp:=a9->Option HO
def upd(H:Hp)(a:a9)(o:HO):Hp:=λb=>if b=a then some o else H b
def j1:upd H a o a=some o:=by unfold upd;rw[km rfl]
def l6(h:b≠a):upd H a o b=H b:=by unfold upd;rw[kn h]
def p7{H:Hp}{a b:a9}{o:HO}(h:H a=some o)(h':H b=none):a≠b:=by lia
section
variable(P:bc) (w:bM)
def ObjOk(H:Hp)(h:cf)(a:a9):HO->Prop
 |.lst Y=>Y.length<=sizeLine/\∃(b:List au) (n:Nat),o5 Y b/\h.get? a=some {cls:=.type "list",data:=.seq b.toArray n}
 |.tup Y=>Y.length<=sizeLine/\∃b:List au,o5 Y b/\IsTup h a b.toArray
 |.dK N=>N.length<=sizeLine/\(a==ff)=false/\∃e,KV N e/\h.DictOf (yW P w) a e
 |.dT N=>N.length<=sizeLine/\(a==ff)=false/\∃Y:List (List DZ×a9×au),
  Paired (λ(p:List DZ×V) (q:List DZ×a9×au)=>p.1=q.1/\H q.2.1=some (.tup (p.1.map kV))/\RelV p.2 q.2.2) N Y/\
  ∃o k s,h.get? a=some o/\o.ExactDict/\o.data=.dict k s/\k.toList=Y.map (entryOfKey<|tupleKind<|yW P w)/\(Y.map (·.1)).Nodup
 |.set S n=>h.SetOf (intKind P w) a S n
 |.ins C g fs=>H g=some (.own a)/\fs.length<=1000/\g≠a/\h.get? a=some (PySem.W.instObj C g)/\
  ∃d,h.Ns1 g d/\(∀f,a4y (fs.lookup f) (d f))/\PySem.Within d (fs.map (·.1))
 |.own _=>∃o,h.get? a=some o
 |.xd fs=>∃d,h.Ns1 a d/\∀f,a4y (fs.lookup f) (d f)
 |.rng lo y=>∃t u v,h.get? a=some {cls:=.type "range",data:=.fields #[.int lo t,.int y u,.int 1 v]}
 |.frz o u=>h.get? a=some o/\ObjOk H h a u
 |.tbl z=>∃i:Array au,h.get? a=some {cls:=.none,data:=.fields i}/\TriplesOk i.toList/\∀p∈z,gh p.1 i.toList=none\/∃c l e t,gh p.1 i.toList=some (.ref c)/\H c=some (.frz l (.own c))/\l.data=.fields e/\e[1]?=some (.str p.2 t)
 |.met f x=>h.get? a=some (PySem.W.methodObj (.ref f)<|.ref x)
 |.ext j=>j h/\(∃o,h.get? a=some o)/\∀m r:cf,j m->(∀o,m.get? a=some o->r.get? a=some o)->j r
def yx:HO->Prop
 |.tup _=>True
 |.frz o _=>∃a,o.data=.fields a
 |_=>False
def iG(H:Hp)(h:cf):Prop:=∀a o,H a=some o->ObjOk P w H h a o
end
section
variable{P:bc}{w:bM}{H H':Hp}{h h':cf}{a:a9}{o:HO}
def ObjOk.lt(x:ObjOk P w H h a o):a<h.objs.size:=by
 cases o with
 |lst Y=>let{_,_,_,_,e}:=x;show aAd e
 |tup Y=>let{_,_,_,p}:=x;show p.lt
 |dK N=>let{_,_,_,_,o,_,_,e,_}:=x;show aAd e
 |dT N=>let{_,_,_,_,o,_,_,e,_}:=x;show aAd e
 |set S n=>let{o,_,_,_,e,_}:=x;show aAd e
 |ins C b fs=>let{_,_,_,e,_}:=x;show aAd e
 |own y=>let{_,e}:=x;show aAd e
 |xd fs=>let{_,{_,_,_,e,_},_}:=x;show aAd e
 |rng lo d=>let{_,_,_,e}:=x;show aAd e
 |frz g u=>let{e,_}:=x;show aAd e
 |tbl i=>let{_,e,_}:=x;show aAd e
 |met f y=>show aAd (x)
 |ext j=>let{_,{_,e},_}:=x;show aAd e
theorem Paired.af6{d β:Type}{F G:d->β->Prop}:∀{l₁:List d}{l₂:List β},Paired F l₁ l₂->(∀a b,F a b->G a b)->Paired G l₁ l₂:=by
 intro _ _ e f;cases e with
 |nil=>show .nil
 |cons r t=>show .cons (f _ _ r) (Paired.af6 t f)
def ObjOk.ab8(x:ObjOk P w H h a o)(k:∀b u,(b=a\/H b=some (.own a))->h.get? b=some u->h'.get? b=some u)
  (J:∀b,H b=some (.own a)->H' b=some (.own a)) (E:∀b u,yx u->H b=some u->H' b=some u):ObjOk P w H' h' a o:=by
 induction o with
 |lst Y=>let{z,l,n,r,e}:=x;show{z,l,n,r,k _ _ (.inl rfl) e}
 |tup Y=>let{z,l,r,g,e,c}:=x;show{z,l,r,g,k _ _ (.inl rfl) e,c}
 |dK N=>let{z,y,m,r,g,i,j,e,c}:=x;show{z,y,m,r,g,i,j,k _ _ (.inl rfl) e,c}
 |dT N=>let{z,y,Y,r,g,i,j,e,c}:=x;show{z,y,Y,Paired.af6 r λp q z=>{z.1,E _ _ trivial z.2.1,z.2.2},g,i,j,k _ _ (.inl rfl) e,c}
 |set S n=>let{g,i,j,t,e,c}:=x;show{g,i,j,t,k _ _ (.inl rfl) e,c}
 |ins C dx fs=>let{d,z,ne,e,s,{A,i,j,B,c},r}:=x;show{J _ d,z,ne,k _ _ (.inl rfl) e,s,{A,i,j,k _ _ (.inr d) B,c},r}
 |own y=>let{g,e}:=x;show{g,k _ _ (.inl rfl) e}
 |xd fs=>let{s,{A,i,j,e,c},r}:=x;show{s,{A,i,j,k _ _ (.inl rfl) e,c},r}
 |rng lo hi=>let{t,u,v,e}:=x;show{t,u,v,k _ _ (.inl rfl) e}
 |frz g u L=>let{e,q}:=x;show{k _ _ (.inl rfl) e,L q}
 |tbl tb=>let{O,e,t,f}:=x;show{O,k a _ (.inl rfl) e,t,λp Q=>(f p Q).imp id λ⟨c,T,m,t,U,B,I⟩=>{c,T,m,t,U,E _ _ {m,I.1} B,I}}
 |met f y=>have e:=x;change h'.get? a=some (PySem.W.methodObj (.ref f)<|.ref y);show k a _ (.inl rfl) e
 |ext φ=>let{p,{o,e},st}:=x;show{st _ _ p λo q=>k _ _ (.inl rfl) q,{o,k _ _ (.inl rfl) e},st}
def iG.lt(x:iG P w H h)(e:H a=some o):a<h.objs.size:=(x a o e).lt
def iG.fresh(x:iG P w H h)(e:h.objs.size<=a):H a=none:=by
 cases q:H a with
 |none=>rfl
 |some u=>show k7 (aAn (x.lt q) e) (aBC _)
def iG.kept(x:iG P w H h)(k:∀b u,h.get? b=some u->h'.get? b=some u):iG P w H h':=λa o e=>(x a o e).ab8 (λb u _ q=>k b u q) (λ_ q=>q) λ_ _ _ q=>q
def iG.laid(x:iG P w H h)(k:∀b u,h.get? b=some u->h'.get? b=some u)(i:h.objs.size<=a)(d:ObjOk P w (upd H a o) h' a o):iG P w (upd H a o) h':=λb u e=>by
 have f:=x.fresh i;by_cases g:b=a
 .subst g;rw[j1]at e;cases e;show d
 rw[l6 g]at e;show(x b u e).ab8 (λc v _ q=>k c v q) (λc q=>by rw[l6 (p7 q f)];show q) λc Y _ q=>by rw[l6 (p7 q f)];show q
end
def Rd(H:Hp)(a:a9)(u:HO):Prop:=H a=some u\/∃o,H a=some (.frz o u)
def Rd.ok(r:Rd H a u)(x:iG P w H h):ObjOk P w H h a u:=by
 rcases r with r|⟨o,r⟩
 .show x a u r
 let{_,q}:=x a _ r;show q
def Mut:Option HO->Prop
 |some (.lst _)=>True
 |some (.dK _)=>True
 |some (.dT _)=>True
 |some (.set _ _)=>True
 |some (.ins _ _ _)=>True
 |some (.ext _)=>True
 |_=>False
section
variable{P:bc}{w:bM}{H:Hp}{h h':cf}{x e:a9}{o':HO}
def iG.write(ok:iG P w H h)(g:Mut (H x))(p:e=x\/H e=some (.own x))(k:∀b u,b≠e->h.get? b=some u->h'.get? b=some u)(i:∃u,h'.get? e=some u)
  (j:ObjOk P w (upd H x o') h' x o'):iG P w (upd H x o') h':=λb u q=>by
 have a:∀c y,H c=some (.own y)->c≠x:=λc y r z=>by subst z;rw[r]at g;show g
 have d:∀c u,yx u->H c=some u->c≠x:=λc u f r z=>by subst z;rw[r]at g;cases u<;>first|show g|show f
 by_cases m:b=x
 .subst m;rw[j1]at q;cases q;show j
 rw[l6 m]at q;by_cases l:b=e
 .have n:H b=some (.own x):=by lia
  rw[q]at n;cases n;let{v,o}:=i;show{v,by rw[l];show o}
 show(ok b u q).ab8 (λc v s r=>k c v ?_ r) (λc r=>by rw[l6 (a c b r)];show r) λc Y f r=>by rw[l6 (d c Y f r)];show r
 grind
end
structure Un(fs ex:List Addr)(H H':Hp)(h h':Heap):Prop where
 keep:∀b o,h.get? b=some o->H b=none->b∉fs->b∉ex->h'.get? b=some o
 slot:∀b o,h.get? b=some o->H b=none->b∈fs->b∉ex->∃sl,h'.get? b=some {o with slots:=sl}
 free:∀b o,h.get? b=some o->H b=none->b∉ex->H' b=none
 there:∀b o,h.get? b=some o->b∉ex->∃o',h'.get? b=some o'
 tups:∀b Y,H b=some (.tup Y)->H' b=some (.tup Y)
 frzs:∀b o u,H b=some (.frz o u)->H' b=some (.frz o u)
 tbls:∀b tb,H b=some (.tbl tb)->H' b=some (.tbl tb)
section
variable{fs yg ex ex':List a9}{H H1 H2:Hp}{h h1 h2 h':cf}{a x e:a9}{o:HO}
def Un.any(u:Un fs ex H H1 h h1)(q:h.get? b=some d)(n:H b=none)(f:b∉ex):∃sl,h1.get? b=some {d with slots:=sl}:=by
 by_cases g:b∈fs
 .show u.slot b d q n g f
 show{d.slots,u.keep b d q n g f}
def Un.kept(k:∀b u,h.get? b=some u->h'.get? b=some u):Un fs ex H H h h':=
 {λb d q _ _ _=>k b d q,λb d q _ _ _=>{d.slots,k b d q},λ_ _ _ n _=>n,λb d q _=>{d,k b d q},λ_ _ q=>q,λ_ _ _ q=>q,λ_ _ q=>q}
def Un.refl:Un fs ex H H h h:=Un.kept λ_ _ q=>q
def Un.laid(k:∀b u,h.get? b=some u->h'.get? b=some u)(f:h.objs.size<=a)(d:H a=none):Un fs ex H (upd H a o) h h' where
 keep:=λb u q _ _ _=>k b u q
 slot:=λb u q _ _ _=>{u.slots,k b u q}
 free:=λb u q n _=>by rw[l6 (aAl<|aAn (aAd q) f)];show n
 there:=λb u q _=>{u,k b u q}
 tups:=λb Y q=>by rw[l6 (p7 q d)];show q
 frzs:=λb u Y q=>by rw[l6 (p7 q d)];show q
 tbls:=λb g q=>by rw[l6 (p7 q d)];show q
def Un.write(d:Mut (H x))(p:e=x\/H e=some (.own x))(k:∀b u,b≠e->h.get? b=some u->h'.get? b=some u)(j:∃u,h'.get? e=some u):Un fs ex H (upd H x o) h h':=by
 have l:∀b,H b=none->b≠x:=λb n z=>by subst z;rw[n]at d;show d
 have i:∀b,H b=none->b≠e:=λb n z=>by
  subst z
  nofun
 have f:∀b u,H b=some u->¬Mut (some u)->b≠x:=λb u q m z=>by subst z;rw[q]at d;show m d
 show⟨λb u q n _ _=>k b u (i b n) q,λb u q n _ _=>{u.slots,k b u (i b n) q},λb u q n _=>by rw[l6 (l b n)];show n,λb u q _=>?_,
  λb Y q=>by rw[l6 (f b _ q λz=>z)];show q,λb u Y q=>by rw[l6 (f b _ q λz=>z)];show q,λb r q=>by rw[l6 (f b _ q λz=>z)];show q⟩
 by_cases g:b=e
 .nofun
 show{u,k b u g q}
end
def trk(h:cf)(H:Hp):List a9:=(aBz h.objs.size).filter λa=>(H a).isSome
def uU(h:cf)(H:Hp):cf:=PySem.W.hideAll h (trk h H)
def LD(h:cf)(H:Hp):(uU h H).objs.size=h.objs.size:=PySem.W.hideAll_size _ _
def UG(e:h.get? b=some o)(n:H b=none):(uU h H).get? b=some o:=
 PySem.W.hideAll_get _ e λa=>by have q:(H b).isSome=true:=(aCp.mp a).2;rw[n]at q;simp at q
def ZL(e:(uU h H).get? b=some o):h.get? b=some o/\H b=none:=by
 have a:h.get? b=some o:=PySem.W.of_hideAll (trk h H) e;show{a,?_};cases q:H b with
 |none=>rfl
 |some x=>have d:b∈trk h H:=aCp.mpr {aBs.mpr (aAd a),by simp[q]};have z:(uU h H).get? b=none:=PySem.W.hideAll_none (trk h H) d;rw[z]at e;cases e
def kz(g h:cf)(L:a9):List (a9×Obj):=(aBz h.objs.size).filterMap λa=>if a=L\/(g.get? a).isSome=true then none else(h.get? a).map λo=>(a,o)
def rest(g h:cf)(L d:a9):List (a9×Obj):=(kz g h L).filter λp=>decide (p.1≠d)
structure Mod(K:PySem.W.Frag)(mg:dM)(base:Heap):Prop where
 kin:K.In base
 glob:base.Ns mainGlobals mg
 blt:∃mb,base.Ns builtinsNs mb/\∀x:Str,x≠ "__name__"->mb x=bootBuiltins x
 nolimit:base.NoLimit
structure Cx where
 prog:Program
 w:World
 K:PySem.W.Frag
 mg:Str->Option Value
 base:Heap
 A:Around
 N:List Str
 s9:Shared
 H9:Hp
 env:Env
 outer:List Env
 stack:List Env
 ex:List Addr
 fn:Str->Bool
 calm:Bool
 pn:List (Addr×Obj)
 xe:Value->Shared->Prop
def BF(l:List Env):List a9:=l.filterMap (·.frame)
abbrev Cx.fs(X:Cx):List a9:=BF X.outer
def zS(sc:gW)(x:Str):Prop:=sc.names.lookup x=some .local\/sc.names.lookup x=some .cell\/sc.names.lookup x=some .free
def Loc(sc:gW)(x:Str):Prop:=sc.names.lookup x=some .local\/sc.names.lookup x=some .cell
def Look(env:Env)(h:cf)(m:dM)(x:Str)(u:au):Prop:=
 (env.kindOf x=some .local/\m x=some u)\/((env.kindOf x=some .cell\/env.kindOf x=some .free)/\∃c,env.cells.lookup x=some c/\h.IsCell c (some u))
structure Cx.Ok(X:Cx):Prop where
 mod:Mod X.K X.mg X.base
 kind:X.env.scope.kind=.function
 glob:X.env.globals=mainGlobals
 blt:X.env.builtins=builtinsNs
 above:X.s9.heap.objs.size<=X.env.locals
 inj:∀x y c,X.env.cells.lookup x=some c->X.env.cells.lookup y=some c->x=y
 has:∀x,(X.env.kindOf x=some .cell\/X.env.kindOf x=some .free)->∃c,X.env.cells.lookup x=some c
 cab:∀x c,X.fn x=true->X.env.cells.lookup x=some c->X.s9.heap.objs.size<=c
 hd:X.calm=true->X.A.handled=none
 frames:X.A.frames=some X.stack
 stk:X.stack=X.outer\/(X.stack=X.env::X.outer/\X.env.frame=some X.env.locals)
 exf:∀b∈X.ex,b≠X.env.locals/\∀x c,X.env.cells.lookup x=some c->c≠b
 bs:∀b o,X.base.get? b=some o->X.s9.heap.get? b=some o/\X.H9 b=none
 bsz:X.base.objs.size<=X.s9.heap.objs.size
 noex:∀b o,X.base.get? b=some o->b∉X.ex
 exfs:∀b∈X.ex,b∉X.fs
 funs:X.s9.heap.FunFrames X.base X.outer
 frf:∀b∈X.fs,X.H9 b=none
structure Inv(X:Cx)(pins:O6)(σ:List (Option V))(H:Hp)(s:Shared):Prop where
 ok:X.Ok
 os:s.os=X.s9.os
 bare:AllBare s.gens
 base:Un X.fs X.ex X.H9 H X.s9.heap s.heap
 loc:∃m,s.heap.Ns X.env.locals m/\∀(i:Nat) (x:Str) (v:V),X.N[i]?=some x->σ[i]?=some (some v)->zS X.env.scope x->∃u,RelV v u/\Look X.env s.heap m x u
 cell:∀x c,X.env.cells.lookup x=some c->∃v,s.heap.IsCell c v
 free:H X.env.locals=none
 freeC:∀x c,X.env.cells.lookup x=some c->H c=none
 pin:∀p∈X.pn++pins,s.heap.get? p.1=some p.2/\H p.1=none/\p.1≠X.env.locals/\p.1∉X.fs/\∀v,p.2.data≠.cell v
 hok:iG X.prog X.w H s.heap
 len:σ.length=X.N.length
section
variable{X:Cx}{pins:O6}{σ:List (Option V)}{H H':Hp}{s:aL}{h':cf}
def Cx.Ok.nofr(ok:X.Ok)(e:X.base.get? b=some o):b∉X.fs:=λa=>by
 have:=(ok.funs.mem a).1
 lia
def Inv.bs(I:Inv X pins σ H s):∀b o,X.base.get? b=some o->s.heap.get? b=some o/\H b=none:=λb o e=>{I.base.keep b o (I.ok.bs b o e).1 (I.ok.bs b o e).2 (I.ok.nofr e) (I.ok.noex b o e),I.base.free b o (I.ok.bs b o e).1 (I.ok.bs b o e).2 (I.ok.noex b o e)}
def Inv.bk(I:Inv X pins σ H s):∀b o,X.base.get? b=some o->s.heap.get? b=some o:=λb o e=>(I.bs b o e).1
def Inv.mod(I:Inv X pins σ H s):Mod X.K X.mg X.base:=I.ok.mod
def Inv.kIn(I:Inv X pins σ H s):X.K.In s.heap:=I.ok.mod.kin.keeps I.bk
def Inv.lt(I:Inv X pins σ H s):X.env.locals<s.heap.objs.size:=let⟨_,a,_⟩:=I.loc;a.lt
def Inv.sz(I:Inv X pins σ H s):X.s9.heap.objs.size<=s.heap.objs.size:=aAo I.ok.above (aDj I.lt)
def Inv.ag5(I:Inv X pins σ H s)(h:s.heap.objs.size<=a):a∉X.fs:=λb=>by let{_,o,d,_}:=I.ok.funs.mem b;show k7 (aAn (aAd d)<|aAo I.sz h) (aBC _)
def Inv.cne(I:Inv X pins σ H s):∀x c,X.env.cells.lookup x=some c->c≠X.env.locals:=λx c e z=>by
 let{v,o,b,d}:=I.cell x c e;let{m,{f,g,h,a,i,_},_}:=I.loc
 lia
def Inv.funs(I:Inv X pins σ H s):s.heap.FunFrames X.base X.outer:=by
 have all:∀(l:List Env),(∀b∈BF l,b∈X.fs)->X.s9.heap.FunFrames X.base l->s.heap.FunFrames X.base l:=by
  intro l;induction l with
  |nil=>intro _ _;trivial
  |cons h r i=>intro g j;let{k,{L,o,a,m,n,p},q}:=j;have d:=g L (by unfold BF;rw[aCN,a];show aBL);let{t,e}:=I.base.slot L o n (I.ok.frf L d) d λz=>I.ok.exfs L z d;show{k,{L,_,a,m,e,p},i (λb f=>g b (by unfold BF;rw[aCN,a];show aAf _ f)) q}
 show all X.outer (λ_ f=>f) I.ok.funs
def Inv.stack(I:Inv X pins σ H s):s.heap.FunFrames X.base X.stack:=by
 rcases I.ok.stk with e|⟨e,a⟩
 .rw[e];show I.funs
 rw[e];let{m,b,_}:=I.loc;show .cons (by rw[I.ok.kind];symm) a b (aEZ<|aAo I.ok.bsz I.ok.above) I.funs
def Inv.ab6(I:Inv X pins σ H s):∀b∈BF X.stack,b∈X.env.locals::X.fs:=λb a=>by
 rcases I.ok.stk with e|⟨e,d⟩
 .rw[e]at a;show aAf _ a
 rw[e]at a;unfold BF at a;rw[aCN,d]at a;show a
def Inv.ad7(I:Inv X pins σ H s):∀b∈BF X.stack,H b=none:=λb a=>by
 rcases aAe.mp (I.ab6 b a)with e|a
 .rw[e];show I.free
 let{_,o,d,_}:=I.ok.funs.mem a;show I.base.free b o d (I.ok.frf b a) λz=>I.ok.exfs b z a
def Inv.step{g':Array GenState}{t':Nat}{d':Drawn}{ch:List a9}(I:Inv X pins σ H s)
  (E:∀b∈ch,(b∈X.ex\/X.s9.heap.objs.size<=b)/\b≠X.env.locals/\(∀x c,X.env.cells.lookup x=some c->c≠b)/\∀p∈X.pn++pins,p.1≠b)
  (g:∀b o,b≠X.env.locals->b∉X.fs->b∉ch->s.heap.get? b=some o->H b=none->h'.get? b=some o)
  (slot:∀b o,b≠X.env.locals->b∈X.fs->b∉ch->s.heap.get? b=some o->H b=none->∃sl,h'.get? b=some {o with slots:=sl}) (f:∀b o,b∉ch->s.heap.get? b=some o->H b=none->H' b=none)
  (y:∀b o,b∉ch->s.heap.get? b=some o->∃J,h'.get? b=some J)
  (L:∀b Y,H b=some (.tup Y)->H' b=some (.tup Y)) (N:∀b o u,H b=some (.frz o u)->H' b=some (.frz o u)) (O:∀b tb,H b=some (.tbl tb)->H' b=some (.tbl tb))
  (ns:∀m,s.heap.Ns X.env.locals m->h'.Ns X.env.locals m) (T:iG X.prog X.w H' h') (hg:AllBare g'):
  Inv X pins σ H' {s with heap:=h',gens:=g',drawn:=d',toks:=t'}:=by
 have Q:∀b o,X.s9.heap.get? b=some o->b≠X.env.locals:=λb o e=>aAl (aAn (aAd e) I.ok.above);have t:∀b o,X.s9.heap.get? b=some o->b∉X.ex->b∉ch:=λb o e a A=>by
  rcases(E b A).1 with z|z
  .show a z
  show k7 (aAn (aAd e) z) (aBC _)
 have h:∀x c,X.env.cells.lookup x=some c->∀v,s.heap.IsCell c v->h'.IsCell c v:=λx c e v ⟨o,C,U⟩=>by
  have j:c∉ch:=λz=>(E c z).2.2.1 x c e rfl;by_cases hc:c∈X.fs
  .let{sl,q}:=slot c o (I.cne x c e) hc j C (I.freeC x c e);show{_,q,U}
  show{o,g c o (I.cne x c e) hc j C (I.freeC x c e),U}
 show{I.ok,I.os,hg,{λb o e n A a=>?_,λb o e n A a=>?_,λb o e n a=>?_,λb o e a=>?_,λb Y e=>L b Y (I.base.tups b Y e),λb o Y e=>N b o Y (I.base.frzs b o Y e),λb ps e=>?_},?_,λx c e=>?_,?_,λx c e=>?_,λp hp=>?_,T,I.len}
 .show g b o (Q b o e) A (t b o e a) (I.base.keep b o e n A a) (I.base.free b o e n a)
 .let{sl,B}:=I.base.slot b o e n A a;let{sl',e2}:=slot b _ (Q b o e) A (t b o e a) B (I.base.free b o e n a);show{sl',e2}
 .let{J,B}:=I.base.there b o e a;show f b J (t b o e a) B (I.base.free b o e n a)
 .let{J,B}:=I.base.there b o e a;show y b J (t b o e a) B
 .show O b ps (I.base.tbls b ps e)
 .let{m,hn,hl}:=I.loc;show{m,ns m hn,λi x v B e2 e3=>?_};let{u,r,l}:=hl i x v B e2 e3;show{u,r,?_};rcases l with l|⟨k,c,e,z⟩
  .show .inl l
  show .inr {k,c,e,h x c e _ z}
 .let{v,z}:=I.cell x c e;show{v,h x c e v z}
 .let{m,{o,_,_,C,_},_}:=I.loc;show f _ o (λz=>(E _ z).2.1 rfl) C I.free
 .let{v,o,C,U}:=I.cell x c e;show f c o (λz=>(E c z).2.2.1 x c e rfl) C (I.freeC x c e)
 let{e,n,ne,nf,d}:=I.pin p hp;have j:p.1∉ch:=λz=>(E p.1 z).2.2.2 p hp rfl;show{g p.1 p.2 ne nf j e n,f p.1 p.2 j e n,ne,nf,d}
def Inv.un{t':Nat}(I:Inv X pins σ H s)(u:Un X.fs [] H H' s.heap h')(d:iG X.prog X.w H' h'):Inv X pins σ H' {s with heap:=h',toks:=t'}:=by
 let{m,{o,p,q,i,r},_}:=id I.loc;let{t,j}:=u.any i I.free (by simp);show I.step (g':=s.gens) (d':=s.drawn) (ch:=[]) (λ_ z=>nomatch z) (λb o _ f _ e n=>u.keep b o e n f (by simp)) (λb o _ f _ e n=>u.slot b o e n f (by simp)) (λb o _ e n=>u.free b o e n (by simp)) (λb o _ e=>u.there b o e (by simp)) u.tups u.frzs u.tbls (λv k=>by let{x,g,h,a,l}:=k;rw[i]at a;cases a;show{_,g,h,j,l}) d I.bare
def Inv.call{g':Array GenState}{t':Nat}{d':Drawn}{ch:List a9}(I:Inv X pins σ H s)(u:Un (BF X.stack) ch H H' s.heap h')(f:iG X.prog X.w H' h')(l:AllBare g')
  (j:∀b∈ch,(b∈X.ex\/X.s9.heap.objs.size<=b)/\b≠X.env.locals/\(∀x c,X.env.cells.lookup x=some c->c≠b)/\∀p∈X.pn++pins,p.1≠b):
  Inv X pins σ H' {s with heap:=h',gens:=g',drawn:=d',toks:=t'}:=by
 let{m,{o,y,A,k,r},_}:=id I.loc;let{B,g}:=u.any k I.free λz=>(j _ z).2.1 rfl;show I.step j (λb o g q a e n=>u.keep b o e n (λz=>(aAe.mp<|I.ab6 b z).elim g q) a) (λb o _ _ a e n=>u.any e n a) (λb o a e n=>u.free b o e n a) (λb o a e=>u.there b o e a) u.tups u.frzs u.tbls (λC t=>by let{E,h,i,d,v}:=t;rw[k]at d;cases d;show{_,h,i,g,v}) f l
def Inv.turned{t':Nat}{a:a9}(I:Inv X pins σ H s)(k:∀b o,b≠a->s.heap.get? b=some o->h'.get? b=some o)(h:H a=none)(g:a≠X.env.locals)
  (i:a∈X.ex\/X.s9.heap.objs.size<=a) (j:∀x c,X.env.cells.lookup x=some c->c≠a) (l:∀p∈X.pn++pins,p.1≠a):Inv X pins σ H {s with heap:=h',toks:=t'}:=by
 have f:∀b u,H b=some u->b≠a:=λb u e z=>by rw[z,h]at e;cases e
 show I.step (g':=s.gens) (d':=s.drawn) (ch:=[a]) (λb t=>?_) (λb o _ _ d e _=>k b o (λz=>d (by simp[z])) e) (λb o _ _ d e _=>{o.slots,k b o (λz=>d (by simp[z])) e}) (λ_ _ _ _ n=>n)
  (λb o d e=>{o,k b o (λz=>d (by simp[z])) e}) (λ_ _ e=>e) (λ_ _ _ e=>e) (λ_ _ e=>e) (λm w=>?_) (λb u e=>?_) I.bare
 .have e:b=a:=by exists t
  subst e;show{i,g,j,l}
 .let{o,y,A,B,r}:=w;show{o,y,A,k _ o (aCL g) B,r}
 show(I.hok b u e).ab8 (λc v d q=>k c v ?_ q) (λ_ q=>q) λ_ _ _ q=>q;rcases d with z|z
 .rw[z];show f b u e
 show f c _ z
def Inv.tok(I:Inv X pins σ H s)(t:Nat):Inv X pins σ H {s with toks:=t}:=I.un (h':=s.heap) (t':=t) Un.refl I.hok
def Inv.kept(I:Inv X pins σ H s)(k:∀b u,s.heap.get? b=some u->h'.get? b=some u):Inv X pins σ H {s with heap:=h',toks:=t'}:=I.un (Un.kept k) (I.hok.kept k)
def Inv.laid(I:Inv X pins σ H s)(k:∀b u,s.heap.get? b=some u->h'.get? b=some u)(d:s.heap.objs.size<=a)(e:ObjOk X.prog X.w (upd H a o) h' a o):
 Inv X pins σ (upd H a o) {s with heap:=h',toks:=t'}:=I.un (Un.laid k d<|I.hok.fresh d) (I.hok.laid k d e)
def Inv.write(I:Inv X pins σ H s)(f:Mut (H x))(g:e=x\/H e=some (.own x))(k:∀b u,b≠e->s.heap.get? b=some u->h'.get? b=some u)(a:∃u,h'.get? e=some u)(d:ObjOk X.prog X.w (upd H x o) h' x o):Inv X pins σ (upd H x o) {s with heap:=h',toks:=t'}:=I.un (Un.write f g k a) (I.hok.write f g k a d)
def Inv.ad5(I:Inv X pins σ H s)(h:∀p∈a,s.heap.get? p.1=some p.2/\H p.1=none/\p.1≠X.env.locals/\p.1∉X.fs/\∀v,p.2.data≠.cell v):Inv X a σ H s:=
 {I.ok,I.os,I.bare,I.base,I.loc,I.cell,I.free,I.freeC,λp b=>(aAO.mp b).elim (λz=>I.pin p (aBl _ z)) (h p),I.hok,I.len}
def BC{N:List Str}(d:N.Nodup){i j:Nat}{x:Str}(a:N[i]?=some x)(b:N[j]?=some x):i=j:=by let{g,e}:=aAw.mp a;let{h,f}:=aAw.mp b;show(List.getElem_inj d).mp (e.trans f.symm)
def vO{M:Model}{A:bt}{E:A5}{i:Nat}{x:Str}{v:V}{u:au}{Q:Unit->aL->Prop}(I:Inv X pins σ H s)(hN:X.N.Nodup)(T:X.N[i]?=some x)(t:Loc X.env.scope x)(r:RelV v u)
  (h:∀s',Inv X pins (σ.set i (some v)) H s'->(∃a,Heap.SameBut a s.heap s'.heap/\(a=X.env.locals\/X.env.cells.lookup x=some a))->Q () s') (hf:X.fn x=true\/X.env.scope.names.lookup x=some .local<|>7):ba M A (storeName X.env x u) Q E s:=by
 let{m,hn,hl}:=id I.loc;have U:(X.env.scope.kind==.class||(X.env.scope.kind==.module&&X.env.locals !=X.env.globals))=false:=by rw[I.ok.kind];rfl
 have J:i<σ.length:=by rw[I.len];show(aAw.mp T).1
 have cne:=I.cne;have g:∀{a:a9}{h':cf},(∃o,s.heap.get? a=some o/\H a=none)->Heap.SameBut a s.heap h'->iG X.prog X.w H h':=λ{a h'} ha f b ob e=>by let{_,_,om}:=ha;show(I.hok b ob e).ab8 (λc w' B q=>(f.2 c ?_).trans q) (λ_ q=>q) λ_ _ _ q=>q;grind
 rcases t with hk|hk
 .show wpAny_storeName_local hk hn (λh' hn' f=>?_) U;let{oL,_,_,hoL,_}:=id hn;show h _ {I.ok,I.os,I.bare,{λb o e n L t=>?_,λb o e n L t=>?_,I.base.free,λb o e t=>?_,I.base.tups,I.base.frzs,I.base.tbls},{_,hn',λj y v' l C e3=>?_},λy c e=>?_,I.free,I.freeC,λp hp=>?_,g {oL,hoL,I.free} f,by simpa using I.len} {_,f,.inl rfl}
  .show(f.2 b (aAl<|aAn (aAd e) I.ok.above)).trans (I.base.keep b o e n L t)
  .let{sl,l}:=I.base.slot b o e n L t;show{sl,(f.2 b (aAl<|aAn (aAd e) I.ok.above)).trans l}
  .let{o',l}:=I.base.there b o e t;show{o',(f.2 b (aAl<|aAn (aAd e) I.ok.above)).trans l}
  .by_cases O:j=i
   .subst O;rw[T]at l;cases l;rw[aBM J]at C;cases C;show{u,r,.inl {hk,by simp}}
   rw[aCz (aCL O)]at C;let{u',r',q}:=hl j y v' l C e3;show{u',r',?_};rcases q with⟨k,e⟩|⟨k,c,e,z⟩
   .show .inl {k,?_};have:y≠x:=λe=>O (BC hN l<|e▸T);simp[this,e]
   show .inr {k,c,e,z.sameBut f (cne y c e)}
  .let{w',z}:=I.cell y c e;show{w',z.sameBut f (cne y c e)}
  let{e,n,ne,nf,d}:=I.pin p hp;show{(f.2 p.1 ne).trans e,n,ne,nf,d}
 have yi:X.fn x=true:=by grind
 let{c,B}:=I.ok.has x (.inl hk);let{w',z}:=I.cell x c B;show wpAny_storeName_cell I.ok.kind hk B z (λh' ym f=>?_);let{oc,de,hocd}:=id z;show h {s with heap:=h'} {I.ok,I.os,I.bare,{λb o e n L t=>?_,λb o e n L t=>?_,I.base.free,λb o e t=>?_,I.base.tups,I.base.frzs,I.base.tbls},{m,hn.sameBut f (aCL<|cne x c B),λj y v' l C e3=>?_},λy c' e=>?_,I.free,I.freeC,λp hp=>?_,g {oc,de,I.freeC x c B} f,by simpa using I.len} {c,f,.inr B}
 .show(f.2 b (aAl<|aAn (aAd e)<|I.ok.cab x c yi B)).trans (I.base.keep b o e n L t)
 .let{sl,l}:=I.base.slot b o e n L t;show{sl,(f.2 b (aAl<|aAn (aAd e)<|I.ok.cab x c yi B)).trans l}
 .let{o',l}:=I.base.there b o e t;show{o',(f.2 b (aAl<|aAn (aAd e)<|I.ok.cab x c yi B)).trans l}
 .by_cases O:j=i
  .subst O;rw[T]at l;cases l;rw[aBM J]at C;cases C;show{u,r,.inr {.inl hk,c,B,ym}}
  rw[aCz (aCL O)]at C;let{u',r',q}:=hl j y v' l C e3;show{u',r',?_};rcases q with q|⟨k,c',e,z'⟩
  .show .inl q
  show .inr {k,c',e,z'.sameBut f ?_};rintro rfl;show O (BC hN l<|I.ok.inj _ _ _ e B▸T)
 .by_cases Y:c'=c
  .subst Y;show{_,ym}
  let{w2,z2}:=I.cell y c' e;show{w2,z2.sameBut f Y}
 let{e,n,ne,nf,d}:=I.pin p hp;show{(f.2 p.1 ?_).trans e,n,ne,nf,d};intro q;rw[q,de]at e;grind
def J9{E:A5}{Q:Unit->aL->Prop}(I:Inv X pins σ H s)(a:X.N.Nodup)(b:X.N[i]?=some x)(d:Loc X.env.scope x)(r:RelV v u)(h:∀s',Inv X pins (σ.set i (some v)) H s'->Q () s')(e:X.fn x=true\/X.env.scope.names.lookup x=some .local<|>7):ba M A (storeName X.env x u) Q E s:=
 vO I a b d r (λs' f _=>h s' f) e
def Inv.ag1(I:Inv X pins σ H s)(d:s'.os=s.os)(u:Un (BF X.stack) ch H H' s.heap s'.heap)(a:iG X.prog X.w H' s'.heap)(e:AllBare s'.gens)(f:∀b∈ch,(b∈X.ex\/X.s9.heap.objs.size<=b)/\b≠X.env.locals/\(∀x c,X.env.cells.lookup x=some c->c≠b)/\∀p∈X.pn++pins,p.1≠b):Inv X pins σ H' s':=by let{h',g',d',t',g}:=s';subst d;show I.call (g':=g') (t':=t') (d':=d') u a e f
end
abbrev XK:=au->Option a9->Hp->Prop
abbrev St:=List (Option V)
abbrev VK:=V->Hp->Prop
abbrev TE:=St->Hp->VK->Prop
abbrev TT:=St->Hp->(Bool->Hp->Prop)->Prop
abbrev TA:=St->Hp->(List V->Hp->Prop)->Prop
structure Ends where
 nx:St->Hp->Prop
 rt:VK
 bk:St->Hp->Prop:=λ_ _=>False
 ct:St->Hp->Prop:=λ_ _=>False
abbrev TS:=Ends->St->Hp->Prop
def EP(X:Cx)(a:O6)(d:St)(Q:VK)(u:au)(s':aL):Prop:=∃v b,Inv X a d b s'/\RelV v u/\Q v b
def TP(X:Cx)(a:O6)(e:St)(Q:Bool->Hp->Prop)(b:Bool)(s':aL):Prop:=∃d,Inv X a e d s'/\Q b d
def AP(X:Cx)(a:O6)(e:St)(Q:List V->Hp->Prop)(f:List au)(s':aL):Prop:=∃b d,Inv X a e d s'/\o5 b f/\Q b d
def SP(X:Cx)(a:O6)(D:Ends)(f:Flow)(s':aL):Prop:=
 match f with
 |.next=>∃d b,Inv X a d b s'/\D.nx d b
 |.brk=>∃d b,Inv X a d b s'/\D.bk d b
 |.cont=>∃d b,Inv X a d b s'/\D.ct d b
 |.ret u=>∃v d b,Inv X a d b s'/\RelV v u/\D.rt v b
def PE(X:Cx)(e:ck)(t:TE):Prop:=
 ∀(a:O6) (s:aL) (b:St) (H:Hp) (Q:VK),Inv X a b H s->t b H Q->ba (bb X.prog X.w) X.A (cy e X.env) (EP X a b Q) X.xe s
def PT(X:Cx)(e:ck)(t:TT):Prop:=
 ∀(a:O6) (s:aL) (b:St) (H:Hp) (Q:Bool->Hp->Prop),Inv X a b H s->t b H Q->ba (bb X.prog X.w) X.A (isTrue e X.env<|cy e X.env) (TP X a b Q) X.xe s
def PW(X:Cx)(e:ck)(t:TT):Prop:=
 ∀(b:Sem au) (a:O6) (s:aL) (d:St) (H:Hp) (Q:Bool->Hp->Prop),Inv X a d H s->t d H Q->ba (bb X.prog X.w) X.A (isTrue e X.env b) (TP X a d Q) X.xe s
def PW.pt(h:PW X e t):PT X e t:=h _
def PA(X:Cx)(es:List ck)(t:TA):Prop:=
 ∀(b:Pos) (a:O6) (s:aL) (d:St) (H:Hp) (Q:List V->Hp->Prop),Inv X a d H s->t d H Q->ba (bb X.prog X.w) X.A (spliced<|cv b<|a5 es X.env) (AP X a d Q) X.xe s
def PS(X:Cx)(st:cp)(t:TS):Prop:=
 ∀(a:O6) (s:aL) (b:St) (H:Hp) (D:Ends),Inv X a b H s->t D b H->ba (bb X.prog X.w) X.A (exec st X.env) (SP X a D) X.xe s
def uL(X:Cx)(st:List cp)(t:TS):Prop:=
 ∀(a:O6) (s:aL) (b:St) (H:Hp) (D:Ends),Inv X a b H s->t D b H->ba (bb X.prog X.w) X.A (execs st X.env) (SP X a D) X.xe s
def D3{b:Type}{t:Sem b}{Q d:b->aL->Prop}{M:Model}{A:bt}{E:A5}{s:aL}(h:ba M A t Q E s)(e:∀a s,Q a s->d a s):ba M A t d E s:=aCH h e λ_ _ x=>x
section
variable{X:Cx}
def a5x(i:Nat):TE:=λa H Q=>∃v,a[i]?=some (some v)/\Q v H
def tC(v:V):TE:=λ_ H Q=>Q v H
def M9(j:X.N[i]?=some x)(k:zS X.env.scope x)(d:(x==ma)=false<|>2)(n:(x==md)=false<|>2):PE X (.Name x o) (a5x i):=by
 intro b s p H Q I h;let{v,e,h}:=h;let{m,q,t}:=I.loc;let{u,r,l}:=t i x v j e k;have a:EP X b p Q u s:={v,H,I,r,h};rcases l with⟨hk,w⟩|⟨hk,c,f,g⟩
 .show wpAny_Name (wpAny_loadName_local I.ok.kind hk q w a) d
 rcases hk with hk|hk
 .show wpAny_Name (wpAny_loadName_cell I.ok.kind hk f g a) d
 show wpAny_Name (wpAny_loadName_free I.ok.kind hk f g a n) d
def a4i{i j a}:PE X (.Constant (.int i) j a) (tC (.int i)):=λ_ _ _ H _ I h=>wpAny_Constant_int {.int i,H,I.tok _,{_,rfl},h}
def a5d{b j a}:PE X (.Constant (.bool b) j a) (tC (.bl b)):=λ_ _ _ H _ I h=>Constant_bool {.bl b,H,I,rfl,h}
def a3f{j a}:PE X (.Constant .none j a) (tC .non):=λ_ _ _ H _ I h=>Constant_none {.non,H,I,rfl,h}
def Gl(X:Cx)(x:Str):Prop:=X.env.kindOf x=some .globalImplicit
def zK{E:A5}{Q:A5}(I:Inv X a g H s)(b:Gl X x)(d:X.mg x=some u)(h:Q u s)(e:(x==ma)=false<|>2):ba (bb X.prog X.w) X.A (cy (.Name x f) X.env) Q E s:=
 Calls.Name_function_global I.ok.kind b (Calls.loadGlobal_global (I.ok.glob▸I.mod.glob.keeps I.bk) d h) e
def K9{E:A5}{Q:A5}(I:Inv X a l H s)(b:Gl X x)(d:X.mg x=none)(e:cu x=some u)(h:Q u s)(f:x≠ "__name__"<|>2)(g:(x==ma)=false<|>2):ba (bb X.prog X.w) X.A (cy (.Name x i) X.env) Q E s:=by let{m,j,k}:=I.mod.blt;show Calls.Name_function_global I.ok.kind b (Calls.loadGlobal_builtin (I.ok.glob▸I.mod.glob.keeps I.bk) d (I.ok.blt▸j.keeps I.bk) ((k x f).trans e) h) g
def ZQ(a:Gl X x)(b:X.mg x=some u)(r:RelV v u)(d:(x==ma)=false<|>2):PE X (.Name x e) (tC v):=
 λ_ _ _ H _ I h=>zK I a b {v,H,I,r,h} d
def gz(a:Gl X x)(b:X.mg x=none)(d:cu x=some u)(r:RelV v u)(e:x≠ "__name__"<|>2)(f:(x==ma)=false<|>2):PE X (.Name x g) (tC v):=
 λ_ _ _ H _ I h=>K9 I a b d {v,H,I,r,h} e f
variable{a b:ck}{ta tb:TE}{pos:Pos}
def tB(t:TE):TT:=λd H Q=>t d H λx e=>∃c,x=.bl c/\Q c e
def a2x{e:ck}{t:TE}(h:PE X e t)(g:(∀whole,isTrue e X.env whole=(do let v<-whole;standAt e.pos;h9 [v] (truthy v)))<|>6):PT X e (tB t):=by intro f s i H Q I j;show isTrue_plain (D3 (h f s i H _ I j) λv o ⟨x,k,l,m,n⟩=>?_) (g _);let{d,rfl,q}:=n;cases m;show aBA {k,l,q}
variable{tA tB':TT}{rest:List ck}
def b0b(t u:TT):TT:=λd H Q=>t d H λc e=>if c=true then u d e Q else Q false e
def tOr(t u:TT):TT:=λd H Q=>t d H λc e=>if c=true then Q true e else u d e Q
def a9k(t:TT):TT:=λd H Q=>t d H λc e=>Q (!c) e
def XV(f:PT X a tA):PW X (.BoolOp .And [a] pos) tA:=by
 intro i d s g H Q I h;show isTrue_and (D3 (f d s g H Q I h) λc j e=>?_);cases c with
 |true=>show isTrue_and_nil e
 |false=>show e
def a0p(f:PT X a tA):PW X (.BoolOp .Or [a] pos) tA:=by
 intro i d s g H Q I h;show isTrue_or (D3 (f d s g H Q I h) λc j e=>?_);cases c with
 |false=>show isTrue_or_nil e
 |true=>show e
def a0l(j:PT X a tA)(k:PW X (.BoolOp .And (b::rest) pos) tB'):PW X (.BoolOp .And (a::b::rest) pos) (b0b tA tB'):=by
 intro l d s e H Q I h;show isTrue_and (D3 (j d s e H _ I h) λc m ⟨f,g,i⟩=>?_);cases c with
 |true=>show k l d m e f Q g i
 |false=>show{f,g,i}
def a5m(j:PT X a tA)(k:PW X (.BoolOp .Or (b::rest) pos) tB'):PW X (.BoolOp .Or (a::b::rest) pos) (tOr tA tB'):=by
 intro l d s e H Q I h;show isTrue_or (D3 (j d s e H _ I h) λc m ⟨f,g,i⟩=>?_);cases c with
 |true=>show{f,g,i}
 |false=>show k l d m e f Q g i
def a1l(e:PT X a tA):PT X (.UnaryOp .Not a pos) (a9k tA):=by intro d s f H Q I h;show isTrue_not (e d s f H (λc g=>Q (!c) g) I h)
def a7b(ta tb:TE):TE:=λd H Q=>ta d H λx e=>∃c,x=.bl c/\if c=true then tb d e Q else Q (.bl false) e
def a6r(ta:TE):TE:=λd H Q=>ta d H λx e=>∃c,x=.bl c/\Q (.bl (!c)) e
def a1b{op}(h:PE X a t):PE X (.BoolOp op [a] pos) t:=λd s e H Q I f=>BoolOp_one (h d s e H Q I f)
def a1j(j:PE X a ta)(k:PE X (.BoolOp .And (b::rest) pos) tb):PE X (.BoolOp .And (a::b::rest) pos) (a7b ta tb):=by
 intro d s f H Q I h;show BoolOp_and (D3 (j d s f H _ I h) λv l ⟨x,g,i,m,e⟩=>?_);let{c,rfl,e}:=e;cases m;show aBA ?_;cases c with
 |true=>show k d l f g Q i e
 |false=>show{.bl false,g,i,rfl,e}
def a3y(f:PE X a ta):PE X (.UnaryOp .Not a pos) (a6r ta):=by intro d s g H Q I h;show UnaryOp_ (D3 (f d s g H _ I h) λv l ⟨x,i,j,k,e⟩=>?_);let{c,rfl,e}:=e;cases k;show not_of (aBA {.bl (!c),i,j,rfl,e})
end
def K4(K:lM)(H:Hp)(a:a9)(Y:List V):Prop:=
 Rd H a (.lst Y)\/
  ∃(o:Obj) (b:Array au) (n:Nat),K.lookup a=some o/\o.cls=.type "list"/\o.dict=none/\o.data=.seq b n/\b.size<=sizeLine/\o5 Y b.toList
def S5(K:lM)(H:Hp)(a:a9)(Y:List V):Prop:=
 Rd H a (.tup Y)\/
  ∃(o:Obj) (b:Array au) (n:Nat),K.lookup a=some o/\o.cls=.type "tuple"/\o.data=.seq b n/\b.size<=sizeLine/\o5 Y b.toList
def b0m:au->Option V
 |.none=>some .non
 |.bool b=>some (.bl b)
 |.int i _=>some (.int i)
 |.str x _=>some (.str x)
 |.bytes b _=>some (.byt b)
 |.float b _=>some (.flt b)
 |.ref a=>some (.ref a)
 |.type n=>some (.ty n)
 |_=>none
def RelV.abs(r:RelV x u):b0m u=some x:=by
 cases x with
 |non=>cases r;rfl
 |bl _=>cases r;rfl
 |int _=>let{t,rfl}:=r;rfl
 |str _=>let{t,rfl}:=r;rfl
 |byt _=>let{t,rfl}:=r;rfl
 |flt _=>let{t,rfl}:=r;rfl
 |ref _=>cases r;rfl
 |ty _=>cases r;rfl
def RelV.inj{x y:V}{u:au}(r:RelV x u)(q:RelV y u):x=y:=Option.some.inj (r.abs.symm.trans q.abs)
theorem o5.inj:∀{Y a:List V}{b:List au},o5 Y b->o5 a b->Y=a:=by
 intro _ _ _ e d;cases e with
 |nil=>
  cases d with
  |nil=>rfl
 |cons r t=>
  cases d with
  |cons f g=>rw[r.inj f,o5.inj t g]
section
variable{X:Cx}{pins:O6}{σ:St}{H:Hp}{s:aL}{a:a9}{Y ys:List V}
def K4.of{K:lM}(h:H a=some (.lst Y)):K4 K H a Y:=.inl (.inl h)
def S5.of{K:lM}(h:H a=some (.tup Y)):S5 K H a Y:=.inl (.inl h)
def Inv.list(I:Inv X pins σ H s)(h:K4 X.K H a Y):∃its:List au,o5 Y its/\PlainL s.heap a its.toArray/\Y.length<=sizeLine:=by
 rcases h with h|⟨o,its,n,b,d,f,g,i,r⟩
 .let{z,its,n,r,e}:=h.ok I.hok;show{its,r,{_,n,e,rfl,rfl,rfl},z}
 show{its.toList,r,{o,n,I.kIn a o b,d,f,by simpa using g},?_};have e:=r.length;erw[aBp]at e
 lia
def Inv.tuple(I:Inv X pins σ H s)(h:S5 X.K H a Y):∃its:List au,o5 Y its/\IsTup s.heap a its.toArray/\Y.length<=sizeLine:=by
 rcases h with h|⟨o,its,n,b,d,f,g,r⟩
 .let{z,its,r,p}:=h.ok I.hok;show{its,r,p,z}
 show{its.toList,r,{o,I.kIn a o b,d,n,by simpa using f},?_};have e:=r.length;grind
def Inv.ab4(I:Inv X pins σ H s)(h:K4 X.K H a Y)(h':K4 X.K H a ys):Y=ys:=by
 let{f,r,{o,n,e,_,_,d},_}:=I.list h;let{b,j,{l,m,g,_,_,i},_}:=I.list h';rw[e]at g;cases g;rw[d]at i;injection i with k _;have:f=b:=by exists kM aGY k
 subst this;show r.inj j
def Inv.ab0(I:Inv X pins σ H s)(h:S5 X.K H a Y)(h':S5 X.K H a ys):Y=ys:=by
 let{f,r,{o,e,_,n,d},_}:=I.tuple h;let{b,j,{k,g,_,l,i},_}:=I.tuple h';rw[e]at g;cases g;rw[d]at i;injection i with m _;have:f=b:=by grind
 subst this;show r.inj j
end
abbrev Cx.ac3(X:Cx)(E:A5):Cx:={X with xe:=E}
abbrev Cx.nox(X:Cx):Cx:=X.ac3 λ_ _=>False
def Cx.Ok.ac3{X:Cx}(ok:X.Ok)(E:A5):(X.ac3 E).Ok:=
 {ok.mod,ok.kind,ok.glob,ok.blt,ok.above,ok.inj,ok.has,ok.cab,ok.hd,ok.frames,ok.stk,ok.exf,ok.bs,ok.bsz,ok.noex,ok.exfs,ok.funs,ok.frf}
def Cx.Ok.aa8{X:Cx}{E:A5}(ok:(X.ac3 E).Ok):X.Ok:=
 {ok.mod,ok.kind,ok.glob,ok.blt,ok.above,ok.inj,ok.has,ok.cab,ok.hd,ok.frames,ok.stk,ok.exf,ok.bs,ok.bsz,ok.noex,ok.exfs,ok.funs,ok.frf}
section
variable{X:Cx}{pins:O6}{σ:St}{H:Hp}{s:aL}{E:A5}
def Inv.ac3(I:Inv X pins σ H s)(E:A5):Inv (X.ac3 E) pins σ H s:={I.ok.ac3 E,I.os,I.bare,I.base,I.loc,I.cell,I.free,I.freeC,I.pin,I.hok,I.len}
def Inv.aa8(I:Inv (X.ac3 E) pins σ H s):Inv X pins σ H s:={I.ok.aa8,I.os,I.bare,I.base,I.loc,I.cell,I.free,I.freeC,I.pin,I.hok,I.len}
def SP.aa8(h:SP (X.ac3 E) pins D f s'):SP X pins D f s':=by
 cases f with
 |next=>let{a,b,I,q}:=h;show{a,b,I.aa8,q}
 |brk=>let{a,b,I,q}:=h;show{a,b,I.aa8,q}
 |cont=>let{a,b,I,q}:=h;show{a,b,I.aa8,q}
 |ret u=>let{v,a,b,I,r,q}:=h;show{v,a,b,I.aa8,r,q}
def uL.nox{st:List cp}{t:TS}(h:uL X.nox st t):uL X st t:=λpins s σ H D I a=>aCH (h pins s σ H D (I.ac3 _) a) (λ_ _ q=>q.aa8) λ_ _ z=>aAH z
end
section
variable{X:Cx}{st:cp}{rest:List cp}{t u:TS}{e:ck}{te:TE}{pos:Pos}
def a6l:TS:=λD a H=>D.nx a H
def b0l(t u:TS):TS:=λD a H=>t {D with nx:=u D} a H
def dz:uL X [] a6l:=λ_ _ a H _ I h=>aFj {a,H,I,h}
def rN(b:PS X st t)(d:uL X rest u):uL X (st::rest) (b0l t u):=by
 intro a s g H D I h;show aEU (D3 (b a s g H {D with nx:=u D} I h) λf i q=>?_);cases f with
 |next=>let{j,k,l,q}:=q;show d a i j k D l q
 |ret v=>show q
 |brk=>show q
 |cont=>show q
def qB(b:PS X st t):uL X [st] t:=by
 intro a s d H D I h;show aEU (D3 (b a s d H D I h) λf g q=>?_);cases f with
 |next=>show aFj q
 |ret v=>show q
 |brk=>show q
 |cont=>show q
def Inv.quiet(I:Inv X a b H s):interactive X.env=false:=by simp[interactive,I.ok.kind]
def a6f(te:TE):TS:=λD a H=>te a H λ_ b=>D.nx a b
def jX(d:PE X e te)(f:eI e none pos.line X.env=pure false<|>1):PS X (.Expr e pos) (a6f te):=by intro a s b H D I h;show wpAny_Expr_any (D3 (d a s b H _ I h) λv k ⟨x,g,i,l,j⟩=>{b,g,i,j}) I.quiet f
def a9q(te:TE):TS:=λD a H=>te a H D.rt
def yG(d:PE X e te):PS X (.Return (some e) pos) (a9q te):=by intro a s b H D I h;show wpAny_Return_some (D3 (d a s b H _ I h) λv k ⟨x,f,g,i,j⟩=>{x,b,f,g,i,j})
def b0h(c:TT)(t u:TS):TS:=λD a H=>c a H λb d=>if b=true then t D a d else u D a d
def a7d{c:ck}{a b:List cp}{i:TT}(n:PT X c i)(o:uL X a t)(p:uL X b u):PS X (.If c a b pos) (b0h i t u):=by
 intro f s g H D I h;show wpAny_If (D3 (n f s g H _ I h) λd j ⟨k,l,m⟩=>?_);cases d with
 |true=>show o f j g k D l m
 |false=>show p f j g k D l m
def a2q:TS:=λ_ _ _=>False
def QK:PS X st a2q:=λ_ _ _ _ _ _ h=>h.elim
end
abbrev TG:=V->St->Hp->(St->Hp->Prop)->Prop
abbrev TGs:=List V->St->Hp->(St->Hp->Prop)->Prop
def PG(X:Cx)(a:ck)(t:TG):Prop:=
 ∀(b:O6) (s:aL) (d:St) (H:Hp) (v:V) (u:au) (Q:St->Hp->Prop),Inv X b d H s->RelV v u->t v d H Q->
  ba (bb X.prog X.w) X.A (kd a X.env u) (λ_ g=>∃e f,Inv X b e f g/\Q e f) X.xe s
def PGs(X:Cx)(h:List ck)(t:TGs):Prop:=
 ∀(a:O6) (s:aL) (b:St) (H:Hp) (d:List V) (e:List au) (Q:St->Hp->Prop),Inv X a b H s->o5 d e->t d b H Q->
  ba (bb X.prog X.w) X.A (assignInOrder ((eR h X.env).map (·.2)) e) (λ_ i=>∃f g,Inv X a f g i/\Q f g) X.xe s
abbrev rq:=V->V->V->Hp->(Hp->Prop)->Prop
def a8a(X:Cx)(t:rq):Prop:=
 ∀(a:O6) (s:aL) (b:St) (H:Hp) (o i v:V) (d e u:au) (Q:Hp->Prop),Inv X a b H s->RelV o d->RelV i e->RelV v u->t o i v H Q->
  ba (bb X.prog X.w) X.A (setItem d e u) (λ_ g=>∃f,Inv X a b f g/\Q f) X.xe s
section
variable{X:Cx}{pos:Pos}
def yy(i:Nat):TG:=λv a H Q=>Q (a.set i<|some v) H
def ZF(b:X.N.Nodup)(d:X.N[i]?=some x)(e:Loc X.env.scope x)(f:X.fn x=true\/X.env.scope.names.lookup x=some .local<|>7):PG X (.Name x pos) (yy i):=by intro a s j H v u Q I r h;show wpAny_assign_Name (J9 I b d e r (λk g=>{_,H,g,h}) f)
def a9c:TGs:=λa b H Q=>a=[]/\Q b H
def a7w(t:TG)(u:TGs):TGs:=λa b H Q=>∃v r,a=v::r/\t v b H λd e=>u r d e Q
def my:PGs X [] a9c:=by intro a s b H d f Q I r h;let{e,h}:=h;subst e;show assignInOrder_nil {b,H,I,h}
def PQ{e:ck}{es:List ck}{t:TG}{u:TGs}(d:PG X e t)(f:PGs X es u)
  (g:(eR (e::es) X.env).map (·.2)=kd e X.env::(eR es X.env).map (·.2)<|>1):PGs X (e::es) (a7w t u):=by
 intro a s i H p q Q I r h;let{v,w,j,h}:=h;subst j;cases r with
 |cons r k=>rw[g];show aFB (D3 (d a s i H _ _ _ I r h) λ_ l ⟨b,m,n,o⟩=>?_);show f a l b m _ _ Q n k o
def b0a(b ti:TE)(t:rq):TG:=λv a H Q=>b a H λo d=>ti a d λi e=>t o i v e λf=>Q a f
def a1e{o i:ck}{f ti:TE}{t:rq}(g:PE X o f)(j:PE X i ti)(k:a8a X t)
  (N:(∀v,kd (.Subscript o i pos) X.env v=(do
   let b<-h9 [v] (cy o X.env)
   let d<-h9 [v,b] (cy i X.env)
   standAt pos
   h9 [v,b,d] (setItem b d v)
   release [v,b,d] []))<|>6):PG X (.Subscript o i pos) (b0a f ti t):=by
 intro a s e H v u Q I r h;show aAa (aAJ<|D3 (g a s e H _ I h) λb l ⟨x,m,n,p,q⟩=>?_);show aAa (aAJ<|D3 (j a l e m _ n q) λd w ⟨y,z,A,B,C⟩=>?_);show aAa (aFc<|aAa<|aAJ<|D3 (k a w e z x y v b d u _ A p B r C) λ_ O ⟨E,J,L⟩=>?_);show wpAny_release {e,E,J,L}
def a5h(b:TE)(g:TG):TS:=λD a H=>b a H λx d=>g x a d D.nx
def PY{b e:ck}{d:TE}{g:TG}(i:PE X e d)(j:PG X b g)(k:ik [b] e pos.line X.env=pure false<|>1)(l:ix [b] e X.env=pure none<|>1)
  (m:(eR [b] X.env).map (·.2)=[kd b X.env]<|>1):PS X (.Assign [b] e pos) (a5h d g):=by
 intro a s f H D I h;show wpAny_Assign_stores (D3 (i a s f H _ I h) λv n ⟨x,o,p,r,t⟩=>?_) k l;rw[m];show D3 (j a n f o x v _ p r t) λ_ u q=>q
def VJ{i:Nat}{x:Str}{e:ck}{d:TE}{a:Pos}(f:X.N.Nodup)(g:X.N[i]?=some x)(j:Loc X.env.scope x)(k:PE X e d)(l:eI e (some (.Name x a)) pos.line X.env=pure false<|>1)(m:X.fn x=true\/X.env.scope.names.lookup x=some .local<|>7):
  PS X (.Assign [.Name x a] e pos) (a5h d (yy i)):=by
 intro b s n H D I h;show aEC (D3 (k b s n H _ I h) λv u ⟨y,o,p,q,r⟩=>(J9 p f g j q (λw t=>{_,o,t,r}) m)) l
def b0u(i j:Nat)(b:TA):TS:=λD a H=>b a H λd e=>∃v w,d=[v,w]/\D.nx ((a.set i<|some v).set j (some w)) e
def a1u{i j:Nat}{x y:Str}{a b:ck}{z:TA}{l m pt:Pos}{n r YN}(O:X.calm=true)(A:X.N.Nodup)(Q:X.N[i]?=some x)(T:X.N[j]?=some y)(U:i≠j)
  (B:X.env.scope.names.lookup x=some .local) (C:X.env.scope.names.lookup y=some .local) (Y:PA X [a,b] z)
  (hw:ix [.Tuple [.Name x l,.Name y m] n pt] (.Tuple [a,b] r YN) X.env=pure (some [x,y]))
  (hs:ik [.Tuple [.Name x l,.Name y m] n pt] (.Tuple [a,b] r YN) pos.line X.env=pure false<|>1):
  PS X (.Assign [.Tuple [.Name x l,.Name y m] n pt] (.Tuple [a,b] r YN) pos) (b0u i j z):=by
 intro d s E H D I h;rw[exec_Assign_arm];show aAa (aFc ?_);rw[hs];show aAa (aAc ?_);rw[kn (by symm)];show aAa (Tuple_<|D3 (Y _ d s E H _ I h) λus f ⟨vs,J,I1,r1,t⟩=>?_);let{v,w,e1,t}:=t;subst e1;obtain⟨g,k,rfl,rv,zd⟩:∃g k,us=[g,k]/\RelV v g/\RelV w k:=by
  cases r1 with
  |cons p q=>
   cases q with
   |cons p' q'=>cases q';show{_,_,rfl,p,p'}
 show aAD ?_ (by change 2<=sizeLine;symm);have I2:Inv X d E J {f with heap:=f.heap.push {cls:=.type "tuple",data:=.seq [g,k].toArray}}:=I1.kept (t':=f.toks) λb o e=>aAb _ e;rw[hw];show aAa (aAc ?_);show aAa (aCG<|aAa<|unpackItems_tuple (items:=#[g,k]) (I.ok.hd O) (IsTup.new f.heap _) λh' u=>?_);show aAa (aFB<|wpAny_bindName<|J9 (I2.kept (h':=h') (t':=f.toks) λb o e=>u b o (aAl<|aAd e) e) A T (.inl C) zd (λs2 I4=>(aFB<|wpAny_bindName<|J9 I4 A Q (.inl B) rv (λs3 L=>assignInOrder_nil (aAc ?_))<|.inr B))<|.inr C);rw[List.set_comm _ _ (aCL U)]at L;show{_,J,L,t}
end
section
variable{X:Cx}{pos:Pos}
def a0i(c:TT)(tb:TS):TS:=λD a H=>∃W:Nat->St->Hp->Prop,(∃m,W m a H)/\∀m a H,W m a H->
 c a H λb d=>if b=true then∃N:St->Hp->Prop,(∀e f,N e f->∃g,g<m/\W g e f)/\tb {D with nx:=N,ct:=N,bk:=D.nx} a d else D.nx a d
def UA{c:ck}{body:List cp}{q:TT}{tb:TS}(r:PassesOwn (bb X.prog X.w) X.A X.env X.xe)(C:PT X c q)(E:uL X body tb):PS X (.While c body [] pos) (a0i q tb):=by
 intro a s J H D I h;let{W,{L,O},turn}:=h;show wpAny_While (codeAny_whileLoop (λn Q=>∃t u,Inv X a t u Q/\W n t u) ?_ L {J,H,I,O});rintro n T ⟨d,x,U,Y⟩;show aDg r (D3 (C a T d x _ U<|turn n d x Y) λb s2 ⟨y,z,i⟩=>?_);cases b with
 |true=>
  let{N,B,i}:=i;rw[km rfl];show aDg r (D3 (E a s2 d y _ z i) λf s3 j=>?_);cases f with
  |next=>let{e,g,k,l}:=j;let{m,o,p}:=B e g l;show{m,o,e,g,k,p}
  |cont=>let{e,g,k,l}:=j;let{m,o,p}:=B e g l;show{m,o,e,g,k,p}
  |brk=>show j
  |ret v=>show j
 |false=>rw[kn aBt];show aFj {d,y,z,i}
end
structure It where
 go:Nat->Hp->Prop
 yld:Nat->Hp->V->Hp->Prop
 stop:Nat->Hp->Prop
def pG(X:Cx)(pins:O6)(H:Hp)(b:a9):Prop:=
 H b=none/\b≠X.env.locals/\b∉X.fs/\(b∈X.ex\/X.s9.heap.objs.size<=b)/\(∀x c,X.env.cells.lookup x=some c->c≠b)/\∀p∈X.pn++pins,p.1≠b
def Inv.af2(I:Inv X a h H s)(d:s.heap.objs.size<=b)(f:H' b=none):pG X a H' b:=by
 show{f,aBY (aAn I.lt d),I.ag5 d,.inr (aAo I.sz d),λx c e z=>?_,λp g z=>?_}
 .let{v,q}:=I.cell x c e;show k7 (aAn q.lt (by lia)) (aBC _)
 show k7 (aAn (aAd (I.pin p g).1)<|z▸d) (aBC _)
structure Turn(P:Program)(w:World)(K:PySem.W.Frag)(tg:Expr)(J:It)(fp:List Addr)(it:Addr)(tn:Nat->Heap->Prop):Prop where
 mem:it∈fp
 obj:∀i h,tn i h->∀b∈fp,∃o,h.get? b=some o/\∀v,o.data≠.cell v
 keep:∀i h h',tn i h->(∀b∈fp,∀o,h.get? b=some o->h'.get? b=some o)->tn i h'
 item:∀(X:Cx),X.prog=P->X.w=w->X.K=K->X.calm=true->∀(i:Nat) (pins:O6) (s:Shared) (σ:St) (H:Hp) (E:A5),Inv X pins σ H s->(∀b∈fp,pG X pins H b)->tn i s.heap->J.go i H->
  wpAny (model P w) X.A (pyNext (.ref it)) (λr s1=>∃u,r=some u/\
   wpAny (model P w) X.A (letOwnedTupleGo tg (.ref it) u) (λ_ s2=>∃x H',Inv X pins σ H' s2/\RelV x u/\J.yld i H x H'/\tn (i+1) s2.heap/\∀b∈fp,H' b=none) E s1) E s
 done:∀(X:Cx),X.prog=P->X.w=w->X.K=K->X.calm=true->∀(i:Nat) (pins:O6) (s:Shared) (σ:St) (H:Hp) (E:A5),Inv X pins σ H s->(∀b∈fp,pG X pins H b)->tn i s.heap->J.stop i H->
  wpAny (model P w) X.A (pyNext (.ref it)) (λr s1=>r=none/\Inv X pins σ H s1) E s
 self:∀(A:Around) (i:Nat) (s:Shared) (Q:A5) (E:A5),tn i s.heap->Q (.ref it) s->wpAny (model P w) A (pyIter (.ref it)) Q E s
abbrev TI:=St->Hp->(It->Hp->Prop)->Prop
def PIE(X:Cx)(a:O6)(j:St)(k:ck)(R:It->Hp->Prop)(d:au)(f:aL):Prop:=
 ∃(g:a9) (h:List a9) (i:Nat->cf->Prop) (J:It) (e:Hp),d=.ref g/\Inv X a j e f/\Turn X.prog X.w X.K k J h g i/\i 0 f.heap/\(∀b∈h,pG X a e b)/\R J e
def PI(X:Cx)(d iter:ck)(e:TI):Prop:=
 ∀(a:O6) (s:aL) (b:St) (H:Hp) (R:It->Hp->Prop),Inv X a b H s->e b H R->
  ba (bb X.prog X.w) X.A (cy iter X.env) (λv f=>ba (bb X.prog X.w) X.A (pyIter v) (PIE X a b d R) X.xe f) X.xe s
def PC{E : au → aL → Prop}{Q : Unit → aL → Prop} (b : s.heap.get? d = some o) (e : o.cls = .type n) (f : o.data = .fields vs) (h : ["enumerate", "zip", "dict_itemiterator", "dict_reverseitemiterator", "odict_iterator", "itertools.zip_longest", "itertools.pairwise"].contains n = false) (a : Q () s) : ba M A (letOwnedTupleGo g (.ref d) u) Q E s := by
  cases g <;> first
    | show aAc a
    | (cases u <;> first
        | show aAc a
        | (show aAa (wpAny_load b ?_)
           rw [e, f];change ba M A (if (["enumerate", "zip", "dict_itemiterator", "dict_reverseitemiterator", "odict_iterator", "itertools.zip_longest", "itertools.pairwise"].contains n && vs[0]? == some (dm _)) = true then _ else _) Q E s;rw [kn (by lia)];show aAc a))
def Itl(K:lM)(a:a9):It:=
 {λi H=>∃Y x,K4 K H a Y/\Y[i]?=some x,λi H x b=>b=H/\∀Y,K4 K H a Y->Y[i]?=some x,λi H=>∃Y,K4 K H a Y/\Y.length<=i}
def Itt(K:lM)(a:a9):It:=
 {λi H=>∃Y x,S5 K H a Y/\Y[i]?=some x,λi H x b=>b=H/\∀Y,S5 K H a Y->Y[i]?=some x,λi H=>∃Y,S5 K H a Y/\Y.length<=i}
def NX{P:bc}{w:bM}{K:lM}{U:ck}(a g:a9):Turn P w K U (Itl K a) [g] g (λi h=>h.IsListIter g a i)where
 mem:=by simp
 obj:=λi h st b j=>by
  have e:b=g:=by exists j
  subst e;let{o,e,c,d}:=st;grind
 keep:=λi h q st k=>st.at λo e=>k g (by simp) o e
 item:=by intro X r t v Q i f s T H E I m st y;subst r t v;let{Y,x,n,z}:=y;let{A,B,p,hz}:=I.list n;let{u,hu,ru}:=B.get z;let{C,J,f2,L,N,O}:=m g (by simp);show wpAny_pyNext_list_item st p.isList (by exists hu) λq l sb=>?_;have I1:Inv X f T H {s with heap:=q}:=I.turned (t':=s.toks) (λb o j e=>(sb.2 b j).trans e) C J L N O;let{o,e,c,d}:=id l;show{u,rfl,PC e c d (by symm) {x,H,I1,ru,{rfl,λys hy=>by rw[I.ab4 hy n];show z},l,λb j=>(m b j).1}}
 done:=by intro X r t v Q i f s T H E I m st y;subst r t v;let{Y,n,z}:=y;let{A,B,p,hz}:=I.list n;let{C,J,f2,L,N,O}:=m g (by simp);have hl:=B.length;show wpAny_pyNext_list_end (I.ok.hd Q) st p.isList (by simp;lia) λq eb=>{rfl,I.turned (t':=s.toks) (λb o j e=>eb b o j e) C J L N O}
 self:=λ_ _ _ _ _ st h=>wpAny_pyIter_listiter st h
def FK{P:bc}{w:bM}{K:lM}{U:ck}(a g:a9):Turn P w K U (Itt K a) [g] g (λi h=>h.IsTupleIter g a i)where
 mem:=by simp
 obj:=λi h st b j=>by
  have e:b=g:=by exists j
  subst e;let{o,e,c,d}:=st;grind
 keep:=λi h m st k=>st.at λo e=>k g (by simp) o e
 item:=by intro X r t v Q i f s T H E I n st y;subst r t v;let{Y,x,q,z}:=y;let{A,B,p,hz}:=I.tuple q;let{u,hu,ru}:=B.get z;let{C,J,f2,L,N,O}:=n g (by simp);show wpAny_pyNext_tuple_item st (p) (x:=u) (by exists hu) λm l sb=>?_;have I1:Inv X f T H {s with heap:=m}:=I.turned (t':=s.toks) (λb o j e=>(sb.2 b j).trans e) C J L N O;let{o,e,c,d}:=id l;show{u,rfl,PC (s:={s with heap:=m}) e c d (by symm) {x,H,I1,ru,{rfl,λys hy=>by rw[I.ab0 hy q];show z},l,λb j=>(n b j).1}}
 done:=by intro X r t v Q i f s T H E I n st y;subst r t v;let{Y,q,z}:=y;let{A,B,p,hz}:=I.tuple q;let{C,J,f2,L,N,O}:=n g (by simp);have hl:=B.length;show wpAny_pyNext_tuple_end (I.ok.hd Q) st (p) (by simp;lia) λm eb=>{rfl,I.turned (t':=s.toks) (λb o j e=>eb b o j e) C J L N O}
 self:=λ_ _ _ _ _ st h=>wpAny_pyIter_tupleiter st h
section
variable{X:Cx}{tg:ck}
def a5u(K:lM)(d:TE):TI:=λe H R=>d e H λx b=>∃a,x=.ref a/\(∃Y,K4 K b a Y)/\R (Itl K a) b
def b0p(K:lM)(d:TE):TI:=λe H R=>d e H λx b=>∃a,x=.ref a/\(∃Y,S5 K b a Y)/\R (Itt K a) b
def ZE(i:PE X l j):PI X tg l (a5u X.K j):=by
 intro d s k H R I h;show D3 (i d s k H _ I h) λv f ⟨x,m,g,n,r⟩=>?_;let{a,e,{Y,t},q}:=r;subst e;cases n;let{u,y,p,z}:=g.list t;show aCI p.isList ({f.heap.objs.size,[f.heap.objs.size],_,_,m,rfl,g.kept (t':=f.toks) λb o e=>aAb _ e,NX a _,{_,aAh _ rfl,rfl,rfl},λb w=>?_,q});have e:b=f.heap.objs.size:=by exists w
 subst e;show g.af2 (aAi _) (g.hok.fresh<|aAi _)
def a1w{l:ck}{i:TE}(j:PE X l i):PI X tg l (b0p X.K i):=by
 intro d s k H R I h;show D3 (j d s k H _ I h) λv f ⟨x,m,g,n,r⟩=>?_;let{a,e,{Y,t},q}:=r;subst e;cases n;let{u,w,p,y}:=g.tuple t;show wpAny_pyIter_tuple (p) ({f.heap.objs.size,[f.heap.objs.size],_,_,m,rfl,g.kept (t':=f.toks) λb o e=>aAb _ e,FK a _,{_,aAh _ rfl,rfl,rfl},λb z=>?_,q});have e:b=f.heap.objs.size:=by grind
 subst e;show g.af2 (aAi _) (g.hok.fresh<|aAi _)
def a9a(f:TI)(g:TG)(tb:TS):TS:=λD a H=>f a H λJ h=>∃W:Nat->Nat->St->Hp->Prop,(∃m,W 0 m a h)/\∀i m a H,W i m a H->
 (J.stop i H/\D.nx a H)\/(J.go i H/\∃N:St->Hp->Prop,(∀d b,N d b->∃e,e<m/\W (i+1) e d b)/\∀x b,J.yld i H x b->g x a b λj k=>tb {D with nx:=N,ct:=N,bk:=D.nx} j k)
def sT(a:List a9)(h:cf):List (a9×Obj):=a.filterMap λb=>(h.get? b).map λo=>(b,o)
def bT(a:b∈d)(e:h.get? b=some o):(b,o)∈sT d h:=aCb.mpr {b,a,by rw[e];rfl}
def MR(a:p∈sT d h):p.1∈d/\h.get? p.1=some p.2:=by
 let{b,f,e}:=aCb.mp a;cases q:h.get? b with
 |none=>rw[q]at e;cases e
 |some o=>grind
def Inv.pinned(I:Inv X a i H s)(j:∀b∈f,pG X a H b)(k:∀b∈f,∃o,s.heap.get? b=some o/\∀v,o.data≠.cell v):Inv X (a++sT f s.heap) i H s:=
 I.ad5 λp l=>(aAO.mp l).elim (λz=>I.pin p (aAA _ z)) λz=>by let{g,e}:=MR z;let{m,n,q,_}:=j p.1 g;let{o,h,d}:=k p.1 g;rw[e]at h;cases h;show{e,m,n,q,d}
def Inv.ab5(I:Inv X (a++e) b H s):Inv X a b H s:=I.ad5 λp d=>I.pin p (aAA _<|aBl _ d)
def a2e(B:PassesOwn (bb X.prog X.w) X.A X.env X.xe)(hc:X.calm=true)(hi:PI X tg iter wi)(hg:PG X tg g)(j:uL X body tb)(hs:(∀x,eQ iter X.env x=pure x)<|>6):PS X (.For tg iter body [] pos) (a9a wi g tb):=by
 intro a s σ H D I h;show wpAny_For (D3 (hi a s σ H _ I h) λv s1 h1=>D3 h1 λitv s2 h2=>?_) hs;let{it,C,tn,J,H2,e,I2,T,ko,f2,W,{m0,w0},turn}:=h2;subst e;have k:∀{t:Hp},(∀b∈C,t b=none)->∀b∈C,pG X a t b:=λhn b j=>{hn b j,(f2 b j).2};show codeAny_forLoop_any (λn s'=>∃i E t,Inv X a E t s'/\tn i s'.heap/\(∀b∈C,t b=none)/\W i n E t) ?_ m0 {0,σ,H2,I2,ko,λb j=>(f2 b j).1,w0};rintro n s3 ⟨i,L,Y,I3,O,Q,w3⟩;rcases turn i n L Y w3 with⟨stop,qn⟩|⟨go,N,hN,step⟩
 .show aDg B (D3 (T.done X rfl rfl rfl hc i a s3 L Y X.xe I3 (k Q) O stop) λr s4 ⟨hr,I4⟩=>?_);subst hr;show aFj {L,Y,I4,qn}
 show aDg B (D3 (T.item X rfl rfl rfl hc i a s3 L Y X.xe I3 (k Q) O go) λr s4 ⟨u,hr,h4⟩=>?_);subst hr;show aDg B (D3 h4 λ_ s5 ⟨x,H5,I5,r5,y5,z,fr5⟩=>?_);have I5':=I5.pinned (k fr5) (T.obj _ _ z);show aDg B (D3 (hg _ s5 L H5 x u _ I5' r5<|step x H5 y5) λ_ s6 ⟨σ6,H6,I6,q6⟩=>(aDg B<|D3 (j _ s6 σ6 H6 _ I6 q6) λf s7 y=>?_));have again:∀{l:St}{p:Hp},Inv X (a++sT C s5.heap) l p s7->N l p->∃m,m<n/\∃i E t,Inv X a E t s7/\tn i s7.heap/\(∀b∈C,t b=none)/\W i m E t:=λ{l p} q U=>by let{m',hm,w7}:=hN l p U;show{m',hm,i+1,l,p,q.ab5,T.keep _ _ _ z λb j o e=>(q.pin (b,o)<|aAA _<|aAA _<|bT j e).1,λb j=>?_,w7};let{o,e,d}:=T.obj _ _ z b j;show(q.pin (b,o)<|aAA _<|aAA _<|bT j e).2.1
 cases f with
 |next=>let{l,p,q,U}:=y;show again q U
 |cont=>let{l,p,q,U}:=y;show again q U
 |brk=>let{l,p,q,y}:=y;show{l,p,q.ab5,y}
 |ret v=>let{x7,l,p,q,r7,y}:=y;show{x7,l,p,q.ab5,r7,y}
end
abbrev R2:=V->V->Hp->VK->Prop
def lC(X:Cx)(f:au->au->Sem au)(r:R2):Prop:=
 ∀(a:O6) (s:aL) (b:St) (H:Hp) (x y:V) (v u:au) (Q:VK),Inv X a b H s->RelV x v->RelV y u->r x y H Q->
  ba (bb X.prog X.w) X.A (f v u) (EP X a b Q) X.xe s
def UnR(X:Cx)(f:au->Sem au)(r:V->Hp->VK->Prop):Prop:=
 ∀(a:O6) (s:aL) (b:St) (H:Hp) (x:V) (v:au) (Q:VK),Inv X a b H s->RelV x v->r x H Q->
  ba (bb X.prog X.w) X.A (f v) (EP X a b Q) X.xe s
def qO(X:Cx)(f:au)(r:List V->Hp->VK->Prop):Prop:=
 ∀(a:O6) (s:aL) (b:St) (H:Hp) (Y:List V) (d:List au) (Q:VK),Inv X a b H s->o5 Y d->r Y H Q->
  ba (bb X.prog X.w) X.A (call f d) (EP X a b Q) X.xe s
def tUn(r:V->Hp->VK->Prop)(a:TE):TE:=λb H Q=>a b H λx d=>r x d Q
def rI(C:Int->Int->Prop)(g:Int->Int->V):R2:=λx y H Q=>∃i j,x=.int i/\y=.int j/\C i j/\Q (g i j) H
def pz(g:Int->Int->V):R2:=λx y H Q=>∃i j,x=.int i/\y=.int j/\Q (g i j) H
def rU(g:Int->V):V->Hp->VK->Prop:=λx H Q=>∃i,x=.int i/\Q (g i) H
section
variable{X:Cx}{a b c:ck}{ta tb tc:TE}{pos:Pos}
def UO(k:PE X a ta)(l:PE X b tb){d:O6}{s:aL}{e:St}{H:Hp}{R:V->V->Hp->Prop}(I:Inv X d e H s)
  (h:ta e H λx j=>tb e j λy g=>R x y g) {Q:A5}{f:au->au->Sem au}
  (m:∀v u i x y g,Inv X d e g i->RelV x v->RelV y u->R x y g->ba (bb X.prog X.w) X.A (f v u) Q X.xe i):
  ba (bb X.prog X.w) X.A (cy a X.env) (λv n=>ba (bb X.prog X.w) X.A (cy b X.env) (λu o=>ba (bb X.prog X.w) X.A (f v u) Q X.xe o) X.xe n) X.xe s:=by
 show D3 (k d s e H _ I h) λv p ⟨x,j,q,r,t⟩=>?_;show D3 (l d p e j _ q t) λu i ⟨y,g,z,B,C⟩=>(m v u i x y g z r B C)
def a7v{r:V->Hp->VK->Prop}(f:UnR X (unaryOp op) r)(g:PE X a ta):PE X (.UnaryOp op a pos) (tUn r ta):=by intro d s e H Q I h;show UnaryOp_ (D3 (g d s e H _ I h) λv i ⟨x,j,k,l,m⟩=>f d i e j x v Q k l m)
def opI{f:au->au->Sem au}{C:Int->Int->Prop}{g:Int->Int->Int}
  (rule:∀(i j:Int) (t u:Tok) (s:aL) (Q:A5) (E:A5),C i j->Q (.int (g i j) s.toks) {s with toks:=s.toks+1}->ba (bb X.prog X.w) X.A (f (.int i t) (.int j u)) Q E s):
  lC X f (rI C λi j=>.int (g i j)):=by
 intro d s n H x y v u Q I e k h;let{i,j,rfl,rfl,l,q}:=h;let{t,rfl}:=e;let{m,rfl}:=k;show rule i j t m s _ _ l {.int (g i j),H,I.tok _,{_,rfl},q}
def a5g{f:au->au->Sem au}{g:Int->Int->Int}
  (rule:∀(i j:Int) (t u:Tok) (s:aL) (Q:A5) (E:A5),Q (.int (g i j) s.toks) {s with toks:=s.toks+1}->ba (bb X.prog X.w) X.A (f (.int i t) (.int j u)) Q E s):
  lC X f (pz λi j=>.int (g i j)):=by
 intro d s m H x y v u Q I e k h;let{i,j,rfl,rfl,q}:=h;let{t,rfl}:=e;let{l,rfl}:=k;show rule i j t l s _ _ {.int (g i j),H,I.tok _,{_,rfl},q}
def ZM{f:au->au->Sem au}{g:Int->Int->Bool}
  (rule:∀(i j:Int) (t u:Tok) (s:aL) (Q:A5) (E:A5),Q (.bool (g i j)) s->ba (bb X.prog X.w) X.A (f (.int i t) (.int j u)) Q E s):
  lC X f (pz λi j=>.bl (g i j)):=by
 intro d s m H x y v u Q I e k h;let{i,j,rfl,rfl,q}:=h;let{t,rfl}:=e;let{l,rfl}:=k;show rule i j t l s _ _ {.bl (g i j),H,I,rfl,q}
def b0r(i j:Int):Prop:=0<=j/\j<=1000000/\i.natAbs<2^64
def a4k:lC X (ek .Add) (pz λi j=>.int (i+j)):=a5g λ_ _ _ _ _ _ _ q=>add_int q
def a1s:lC X (ek .Sub) (pz λi j=>.int (i-j)):=a5g λ_ _ _ _ _ _ _ q=>sub_int q
def lq:lC X (ek .Mod) (rI (λ_ j=>j≠0) λi j=>.int (i.fmod j)):=opI λ_ _ _ _ _ _ _ d q=>mod_int' d q
def a2b:lC X (ek .Pow) (rI b0r λi j=>.int (i^j.toNat)):=opI λ_ _ _ _ _ _ _ d q=>pow_int_small d.1 d.2.1 d.2.2 q
def unI{f:au->Sem au}{g:Int->Int}
  (rule:∀(i:Int) (t:Tok) (s:aL) (Q:A5) (E:A5),Q (.int (g i) s.toks) {s with toks:=s.toks+1}->ba (bb X.prog X.w) X.A (f (.int i t)) Q E s):
  UnR X f (rU λi=>.int (g i)):=by
 intro d s j H x v Q I e h;let{i,rfl,q}:=h;let{t,rfl}:=e;show rule i t s _ _ {.int (g i),H,I.tok _,{_,rfl},q}
def a1i:UnR X (unaryOp .USub) (rU λi=>.int (-i)):=unI λ_ _ _ _ _ q=>neg_int q
end
section
variable{X:Cx}{a b c:ck}{ta tb tc:TE}{pos:Pos}
def SJ(I:Inv X d f H s)(q:Q (.bl k) H)(e:k=g):EP X d f Q (.bool g) s:=by subst e;show{.bl k,H,I,rfl,q}
def a7p:lC X (dC .Lt) (pz λi j=>.bl (decide (i<j))):=ZM λ_ _ _ _ _ _ _ q=>lt_int q
def a8d:lC X (dC .LtE) (pz λi j=>.bl (decide (i<=j))):=ZM λ_ _ _ _ _ _ _ q=>le_int q
def a7e:lC X (dC .Gt) (pz λi j=>.bl (decide (j<i))):=ZM λ_ _ _ _ _ _ _ q=>gt_int q
def a4z:lC X (dC .GtE) (pz λi j=>.bl (decide (j<=i))):=ZM λ_ _ _ _ _ _ _ q=>ge_int q
def a1r:lC X (dC .Is) (λx y H Q=>y=.non/\Q (.bl (decide (x=.non))) H):=by
 intro d s g H x y v u Q I e f h;let{rfl,q}:=h;cases f;show is_none_gen (SJ I q ?_);cases x<;>first
  |(cases e;rfl)
  |(let{t,rfl}:=e;rfl)
def gy:lC X (dC .IsNot) (λx y H Q=>y=.non/\Q (.bl (!decide (x=.non))) H):=by
 intro d s g H x y v u Q I e f h;let{rfl,q}:=h;cases f;show isnot_none_gen (SJ I q ?_);cases x<;>first
  |(cases e;rfl)
  |(let{t,rfl}:=e;rfl)
def SU(b:ck)(h:op≠.In<|>2)(d:op≠.NotIn<|>2):i3 op b=false:=by
 have e:(op==CmpOp.In)=false:=by cases op<;>first|rfl|show k7 rfl h
 have f:(op==CmpOp.NotIn)=false:=by cases op<;>first|rfl|show k7 rfl d
 cases b<;>simp[i3,e,f]
def HU:(sizeLine:Nat)<2^63:=by rw[aFZ];symm
def vals1(r:o5 [x] d):∃u,d=[u]/\RelV x u:=by
 cases r with
 |cons e f=>cases f;show{_,rfl,e}
def vals2(r:o5 [x,y] e):∃u d,e=[u,d]/\RelV x u/\RelV y d:=by
 cases r with
 |cons f g=>
  cases g with
  |cons h i=>cases i;show{_,_,rfl,f,h}
def XC:qO X (.builtin "abs") (λY H Q=>∃i,Y=[.int i]/\Q (.int (if i<0 then-i else i)) H):=by intro d s e H Y f Q I r h;let{i,rfl,q}:=h;let{u,rfl,t,rfl}:=vals1 r;show call_abs_int λu g=>{.int (if i<0 then-i else i),H,I.tok _,{_,rfl},q}
end
section
variable{prog:bc}{w:bM}{A:bt}{E:A5}{s:aL}{K:lM}{x dx C f:a9}{mA:dM}{name:Str}{v:au}
end
section
variable{P:bc}{w:bM}{H H':Hp}{h h':cf}{a C dx:a9}{fs yg:List (Str×V)}
end
section
variable{X:Cx}{pins:O6}{σ:St}{H:Hp}{s:aL}{a C dx:a9}{fs:List (Str×V)}{f:Str}{v:V}{A:bt}{E:A5}
end
section
variable{X:Cx}{o e value:ck}{f:Str}{pos pos' tpos:Pos}{ta tv:TE}
end
section
variable{X:Cx}{pins:O6}{σ:St}{H:Hp}{s:aL}{A:bt}{E:A5}{Q:A5}{c:au}{b:Bool}
end
structure Room(k:Nat)(A:Around):Prop where
 hd:A.handled=none
 dp:A.depth+3*k+5<recursionLimit
 un:A.units+16*k+200<cLine
def Room.mono(r:Room k A)(h:j<=k):Room j A:={r.hd,by have:=r.dp;lia,by have:=r.un;lia}
def Room.deeper(r:Room (k+1) A)(env:Env):Room k (A.deeper env):=
 {r.hd,by have:=r.dp;change A.depth+1+3*k+5<_;lia,by have:=r.un;change A.units+3+16*k+200<_;lia}
def Room.depth(r:Room k A):A.depth<recursionLimit:=by have:=r.dp;lia
def Room.units(r:Room k A):A.units+64<cq:=by have:=r.un;lia
def b0j:TA:=λ_ H Q=>Q [] H
def a6j(b:TE)(tr:TA):TA:=λa H Q=>b a H λx d=>tr a d λY e=>Q (x::Y) e
section
variable{X:Cx}{e:ck}{es:List ck}{te:TE}{t:TA}{pos:Pos}
def aR:PA X [] b0j:=λ_ _ _ _ H Q I h=>aFV {[],H,I,.nil,h}
def J5(d:PE X e te)(f:PA X es t)(g:a5 (e::es) X.env=(false,cy e X.env)::a5 es X.env<|>1):PA X (e::es) (a6j te t):=by intro pos a s b H Q I h;rw[g];change ba _ _ (spliced ((false,cy e X.env)::cv pos (a5 es X.env))) _ _ s;show aFC (D3 (d a s b H _ I h) λu i ⟨x,j,k,l,m⟩=>?_);show D3 (f pos a i b j _ k m) λr v ⟨Y,n,o,p,q⟩=>{x::Y,n,o,.cons l p,q}
def b0f(t:TA):TE:=λb H Q=>t b H λY a=>Y.length<=sizeLine/\∀p,a p=none->Q (.ref p) (upd a p<|.tup Y)
def b0e(t:TA):TE:=λb H Q=>t b H λY a=>Y.length<=sizeLine/\∀p,a p=none->Q (.ref p) (upd a p<|.lst Y)
def a2y{i}(h:PA X es t):PE X (.Tuple es i pos) (b0f t):=by intro a s j H Q I k;show wpAny_Tuple_spliced (D3 (h pos a s j H _ I k) λl d ⟨Y,f,g,r,z,q⟩=>{by rw[<-r.length];show z,?_});have m:f d.heap.objs.size=none:=g.hok.fresh (aAi _);show{.ref d.heap.objs.size,upd f d.heap.objs.size (.tup Y),g.laid (t':=d.toks) (λb u e=>aAb _ e) (aAi _) ?_,rfl,q _ m};show{z,l,r,{_,aAh _ rfl,rfl,_,rfl}}
def UU(h:PA X es t):PE X (.List es pos) (b0e t):=by intro a s i H Q I j;show wpAny_List_spliced (D3 (h pos a s i H _ I j) λk d ⟨Y,f,g,r,z,q⟩=>{by rw[<-r.length];show z,?_});have l:f d.heap.objs.size=none:=g.hok.fresh (aAi _);show{.ref d.heap.objs.size,upd f d.heap.objs.size (.lst Y),g.laid (t':=d.toks) (λb u e=>aAb _ e) (aAi _) ?_,rfl,q _ l};show{z,k,0,r,aAh _ rfl}
end
abbrev Sp:=List V->Hp->VK->XK->Prop
abbrev XN:=List Env->Hp->aL->XK->au->aL->Prop
structure Env0(P:Program)(w:World)(K:PySem.W.Frag)(mg:dM)(base:Heap)(A:Around)(outer:List Env)(s:Shared)(H:Hp):Prop where
 frames:A.frames=some outer
 mod:Mod K mg base
 bs:∀b o,base.get? b=some o->s.heap.get? b=some o/\H b=none
 bsz:base.objs.size<=s.heap.objs.size
 funs:s.heap.FunFrames base outer
 frf:∀b∈BF outer,H b=none
 hok:iG P w H s.heap
 bare:AllBare s.gens
def CE(a:List Env)(P:bc)(w:bM)(H:Hp)(s:aL)(Q:VK)(u:au)(s':aL):Prop:=
 ∃v b,s'.os=s.os/\AllBare s'.gens/\Un (BF a) [] H b s.heap s'.heap/\iG P w b s'.heap/\RelV v u/\Q v b
def CR(b:XN)(a:List Env)(P:bc)(w:bM)(H:Hp)(s:aL)(Q:VK)(E:XK)(r:Result)(s':aL):Prop:=
 match r with
 |.ok (.ret u)=>CE a P w H s Q u s'
 |.ok _=>False
 |.error e=>b a H s E e s'
structure FnOk(P:Program)(w:World)(K:PySem.W.Frag)(mg:dM)(base:Heap)(CX:XN)(k:Nat)(f:Addr)(fd:FuncData)(ps:List Str)(sp:Sp):Prop where
 len:∀vs H Q E,sp vs H Q E->vs.length=ps.length
 run:∀(A:Around) (outer:List Env) (s:Shared) (H:Hp) (args:Args) (us:List Value) (vs:List V) (Q:VK) (E:XK),Room k A->Env0 P w K mg base A outer s H->BindsTo s fd args (ps.zip us)->o5 vs us->sp vs H Q E->
  codeAny (model P w) A (.call (.ref f) args) (CR CX outer P w H s Q E) s
def FnOk.imp{P:bc}{w:bM}{K:lM}{mg:dM}{base:cf}{e:XN}{k:Nat}{f:a9}{g:dI}{ps:List Str}{i b:Sp}(F:FnOk P w K mg base e k f g ps i)
  (h:∀vs H Q E,b vs H Q E->i vs H Q E):FnOk P w K mg base e k f g ps b:=
 {λvs H Q E q=>F.len vs H Q E (h _ _ _ _ q),λA a s H d j vs Q E l m n o p=>F.run A a s H d j vs Q E l m n o (h _ _ _ _ p)}
section
variable{X:Cx}{pins:O6}{σ:St}{H:Hp}{s s':aL}
def Inv.af5(I:Inv X pins σ H s):Env0 X.prog X.w X.K X.mg X.base X.A X.stack s H:=
 {I.ok.frames,I.ok.mod,I.bs,aAo I.ok.bsz I.sz,I.stack,I.ad7,I.hok,I.bare}
def Inv.after(I:Inv X pins σ H s)(h:CE X.stack X.prog X.w H s Q u s'):EP X pins σ Q u s':=by let{v,i,os,a,un,e,r,q}:=h;let{j,g,d,t,f}:=s';obtain rfl:f=s.os:=os;show{v,i,I.call (h':=j) (g':=g) (d':=d) (t':=t) un e a (λb z=>k7 z (by simp)),r,q}
end
def a5r(b:Sp)(a:List V)(E:XK)(t:TA):TE:=λd H Q=>t d H λe f=>b (e++a) f Q E
def Binds(K:lM)(a:dI)(ps:List Str)(ds:List au):Prop:=
 ∀(s:aL) (us:List au),K.In s.heap->(us++ds).length=ps.length->BindsTo s a {us,[]} (ps.zip<|us++ds)
def Binds.all{K:lM}{b:dI}{ps:List Str}(h:∀a:List au,a.length=ps.length->bindArgs b {a,[]}=pure (ps.zip a)):Binds K b ps []:=λs a _ d=>by rw[aCd]at d⊢;show .of_eq (h a d)
def DV(d:XN)(X:Cx)(E:XK):Prop:=∀(a:O6) (f:St) (H:Hp) (s:aL) (e:au) (b:aL),Inv X a f H s->d X.stack H s E e b->X.xe e b
section
variable{X:Cx}{CX:XN}{k:Nat}{f C:a9}{fd:dI}{ps:List Str}{sp:Sp}{dvs:List V}{ds:List au}{E:XK}{x m:Str}{p pos apos:Pos}{e o:ck}{es:List ck}{ta:TE}{t:TA}
def a1z(F:FnOk X.prog X.w X.K X.mg X.base CX k f fd ps sp)(j:Room k X.A)(l:Binds X.K fd ps ds)(n:o5 dvs ds)(q:DV CX X E)(I:Inv X a g H s)(r:o5 vs b)(h:sp (vs++dvs) H Q E):ba (bb X.prog X.w) X.A (call (.ref f) b) (EP X a g Q) X.xe s:=by
 have i:=r.append n;have v:(b++ds).length=ps.length:=by rw[<-i.length];show F.len _ _ _ _ h
 show wpAny_call (aEd (F.run X.A X.stack s H {b,[]} (b++ds) (vs++dvs) Q E j I.af5 (l s b I.kIn v) i h) λr y d=>?_);cases r with
 |error e=>show q a g H s e y I d
 |ok z=>
  cases z with
  |ret u=>show I.after d
  |next=>show aAH d
  |brk=>show aAH d
  |cont=>show aAH d
def xE(F:FnOk X.prog X.w X.K X.mg X.base CX k f fd ps sp)(d:Room k X.A)(g:Gl X x)(i:X.mg x=some (.ref f))(j:PySem.W.keepIn X.K (.ref f)=true)(l:Binds X.K fd ps ds)(n:o5 dvs ds)(u:DV CX X E)
  (v:PA X (e::es) t) (y:(x==ma)=false<|>2) (z:a5 (e::es) X.env=(false,cy e X.env)::a5 es X.env<|>1) (B:(cv pos (a5 es X.env)).any (·.1)=false<|>1):
  PE X (.Call (.Name x p) (e::es) [] pos) (a5r sp dvs E t):=by
 intro a s J H Q I h;show aAP (zK I g i ?_ y);show PySem.W.callWith_K I.ok.mod.kin j (D3 (v pos a s J H _ I h) λL N ⟨O,T,b,r,q⟩=>{b.kIn,(a1z F d l n u b r q)}) z B
structure Mk(K:PySem.W.Frag)(C f:Addr):Prop where
 makes:PySem.W.makesIn K C=true
 init:PySem.W.findIn K (.ref C) "__init__"=some (some (.ref f))
 fn:PySem.W.isFn K (.ref f)=true
 kp:PySem.W.keepIn K (.ref C)=true
end
section
variable{X:Cx}{CX:XN}{k:Nat}{f C:a9}{fd:dI}{ps ks:List Str}{sp:Sp}{E:XK}{x m:Str}{p pos apos kpos:Pos}{e o:ck}{es:List ck}{kws:List Keyword}{te ta:TE}{t tk:TA}{nm:Option Str}
variable{g:List au->List au->List au}{gV:List V->List V->List V}
end
structure FnScope(N P:List Str)(sc:Scope):Prop where
 kind:sc.kind=.function
 co:sc.isCoroutine=false
 gen:sc.isGenerator=false
 nd:N.Nodup
 pre:N.take P.length=P
 par:∀x∈P,sc.names.lookup x=some .local\/sc.names.lookup x=some .cell
 nofree:∀y∈sc.names,y.2≠.free
theorem wJ{kindOf:Str->Option eY}{x:Str}:∀{binds:List (Str×au)}{m:dM},(∀v,(x,v)∉binds)->bindL kindOf binds m x=m x
 |[],_,_=>rfl
 |(n,v)::r,m,h=>by
  unfold bindL;rw[wJ λw a=>h w (aAf _ a)];split
  .grind
  rfl
theorem vK{kindOf:Str->Option eY}{x:Str}:∀{binds:List (Str×au)}{m:dM},(∀v,(x,v)∉binds)->bindC kindOf binds m x=m x
 |[],_,_=>rfl
 |(n,v)::r,m,h=>by
  unfold bindC;rw[vK λw a=>h w (aAf _ a)];split
  .rfl
  grind
theorem wU{kindOf:Str->Option eY}{x:Str}{v:au}:∀{P:List Str}{vs:List au}{i:Nat}{m:dM},P.Nodup->P[i]?=some x->vs[i]?=some v->kindOf x=some .local->
  bindL kindOf (P.zip vs) m x=some v:=by
 intro e f g m b h a d;cases e with
 |nil=>simp at h
 |cons p P=>
  cases f with
  |nil=>simp at a
  |cons w vs=>
   cases g with
   |zero=>simp at h a;subst h;subst a;change bindL kindOf ((p,w)::P.zip vs) m p=_;unfold bindL;rw[wJ λv j=>(aAZ.mp b).1 (aCM j).1,km d];simp
   |succ i=>change bindL kindOf ((p,w)::P.zip vs) m x=_;unfold bindL;show wU (i:=i) (aAZ.mp b).2 (by grind) (by exists a) d
theorem wO{kindOf:Str->Option eY}{x:Str}{v:au}:∀{P:List Str}{vs:List au}{i:Nat}{m:dM},P.Nodup->P[i]?=some x->vs[i]?=some v->kindOf x≠some .local->
  bindC kindOf (P.zip vs) m x=some v:=by
 intro e f g m b h a d;cases e with
 |nil=>simp at h
 |cons p P=>
  cases f with
  |nil=>simp at a
  |cons w vs=>
   cases g with
   |zero=>simp at h a;subst h;subst a;change bindC kindOf ((p,w)::P.zip vs) m p=_;unfold bindC;rw[vK λv j=>(aAZ.mp b).1 (aCM j).1,kn d];simp
   |succ i=>change bindC kindOf ((p,w)::P.zip vs) m x=_;unfold bindC;show wO (i:=i) (aAZ.mp b).2 (by grind) (by grind) d
def start(N:List Str)(vs:List V):St:=vs.map some++aDa (N.length-vs.length) none
def FC(d:XN)(P:bc)(w:bM)(K:lM)(mg:dM)(base:cf)(N:List Str)(qual:Str)(a:gW)(f:a9)(cd:au)(A:bt)(outer:List Env)(s:aL)(H:Hp)(E:XK):Cx where
 prog:=P
 w:=w
 K:=K
 mg:=mg
 base:=base
 A:=A.deeper (envOfC qual a s.heap.objs.size f cd)
 N:=N
 s9:=s
 H9:=H
 env:=envOfC qual a s.heap.objs.size f cd
 outer:=outer
 stack:=envOfC qual a s.heap.objs.size f cd::outer
 ex:=[]
 calm:=true
 fn:=λ_=>true
 pn:=[]
 xe:=λe g=>ba (bb P w) (A.deeper<|envOfC qual a s.heap.objs.size f cd) (leaving (envOfC qual a s.heap.objs.size f cd) e) (λ_ b=>d outer H s E e b) (λh b=>d outer H s E h b) g
def CB{sc:gW}{n:Nat}{x:Str}(h:sc.names.lookup x=some .cell):∃c,(ee n sc.names []).lookup x=some c:=by have q:=PySem.W.cellsFrom_some sc.names n [] (.inl h);show aFW.mp q
def LQ{I:XN}{P:bc}{w:bM}{K:lM}{mg:dM}{base:cf}{N ps:List Str}{qual:Str}{a:gW}{f:a9}{cd:au}{A:bt}{d:List Env}{s J:aL}{H:Hp}{E:XK}{C:List au}{vs:List V}
  (S:FnScope N ps a) (Q:A.handled=none) (g:Env0 P w K mg base A d s H) (hl:vs.length=ps.length) (r:o5 vs C)
  (x:InCallC s s.heap.objs.size (bindL (envOfC qual a s.heap.objs.size f cd).kindOf (ps.zip C) λ_=>none) (ee (s.heap.objs.size+1) a.names []) (bindC (envOfC qual a s.heap.objs.size f cd).kindOf (ps.zip C) λ_=>none) J):
  Inv (FC I P w K mg base N qual a f cd A d s H E) [] (start N vs) H J:=by
 have bo:ps.length<=N.length:=by have:=kM aFY S.pre;rw[aBR]at this;lia
 let{B,tk,rfl,L}:=x.done;have j:∀b:a9,b∉(FC I P w K mg base N qual a f cd A d s H E).ex:=λb z=>k7 (show b∈([]:List a9)from z) (by simp);show⟨{g.mod,S.kind,rfl,rfl,aAi _,λy z c B m=>?_,λy l=>?_,λy c _ h=>?_,λ_=>Q,aGz g.frames,.inr {rfl,rfl},λb z=>k7 z (j b),g.bs,g.bsz,λb _ _=>j b,λb z=>k7 z (j b),g.funs,g.frf},
  rfl,g.bare,Un.kept L,{_,x.toInCall.ns,λi y v B m h3=>?_},λy c h=>{_,x.cell y c h},g.hok.fresh (aAi _),λy c h=>?_,λp o=>k7 (show p∈([]:O6)from o) (by simp),g.hok.kept L,?_⟩
 .show name_of_addr x.apart (PySem.mem_of_lookup B) (PySem.mem_of_lookup m)
 .have l:=l;rcases l with l|l
  .show CB l
  show k7 rfl (S.nofree _<|PySem.mem_of_lookup l)
 .show aDj (x.above y c<|PySem.mem_of_lookup h)
 .have T:i<vs.length:=by unfold start at m;grind
  have U:vs[i]?=some v:=by unfold start at m;rw[aAY (by exists T),aAF]at m;grind
  let{u,O,Y}:=r.get U;have o:ps[i]?=some y:=by rw[<-S.pre,List.getElem?_take_of_lt (by lia)];show B
  have t:ps.Nodup:=by rw[<-S.pre];show S.nd.sublist (aFT _ _)
  show{u,Y,?_};rcases S.par y (aAs o)with k|k
  .show .inl {k,wU t o O k}
  let{c,e}:=CB (n:=s.heap.objs.size+1) k;show .inr {.inl k,c,e,?_};have q:=x.cell y c e;rw[wO t o O (by change a.names.lookup y≠_;rw[k];symm)]at q;show q
 .show g.hok.fresh (aDj<|x.above y c<|PySem.mem_of_lookup h)
 unfold start;change _=N.length;rw[aAv,aAg,aCs]
 lia
def zj{p:XN}{P:bc}{w:bM}{K:lM}{mg:dM}{base:cf}{k:Nat}{f:a9}{name qual:Str}{g:Arguments}{body:List cp}{a:gW}{dV kV i pm T ct oc:au}{an od:Option a9}
  {B:Array (Option au)}{N ps:List Str}{C:Sp} (lk:K.lookup f=some {oc,od,.func (PySem.W.fnOf name qual g body a dV kV i pm an T ct),B}) (eh:PySem.W.codeIn K T qual=true) (S:FnScope N ps a)
  (len:∀vs H Q E,C vs H Q E->vs.length=ps.length)
  (wm:∀(A:bt) (d:List Env) (s:aL) (H:Hp) (vs:List V) (Q:VK) (E:XK),Room k (A.deeper (envOfC qual a s.heap.objs.size f T))->C vs H Q E->
   ∃t,uL (FC p P w K mg base N qual a f T A d s H E) body t/\t {nx:=λ_ H'=>Q .non H',rt:=Q} (start N vs) H):
  FnOk P w K mg base p (k+1) f (PySem.W.fnOf name qual g body a dV kV i pm an T ct) ps C:=by
 show{len,λA d s H args us vs Q E L j hb r l=>?_};have hl:=len _ _ _ _ l;have KX:K.In s.heap:=j.mod.kin.keeps λb o e=>(j.bs b o e).1;have O:s.heap.NoLimit:=j.mod.nolimit.keeps λb o e=>(j.bs b o e).1;have oo:∀y∈ps.zip us,a.names.lookup y.1=some .local\/(a.names.lookup y.1=some .cell/\((ee (s.heap.objs.size+1) a.names []).lookup y.1).isSome=true):=λ⟨n,v⟩ hy=>by
  rcases S.par n (aCM hy).1 with q|q
  .show .inl q
  show .inr {q,PySem.W.cellsFrom_some _ _ _ (.inl q)}
 show codeAny_call_function L.depth (KX _ _ lk) rfl S.co S.gen rfl (PySem.W.codeRec_of KX eh) (hb _ _ _ _ ?_);show wpAny_newFunctionEnv_cells S.kind oo λenv he s1 x=>?_;subst he;show{O.keeps x.toInCall.keep,codeAny_func ?_};let{t,ht,hq}:=wm A d s H vs Q E (L.deeper _) l;have I:Inv (FC p P w K mg base N qual a f T A d s H E) [] (start N vs) H s1:=LQ S L.hd j hl r x;show aCH (ht [] s1 (start N vs) H _ I hq) (λfl U h=>?_) λe U h=>h;have m:∀{z:St}{H':Hp}{v:V}{u:au},Inv (FC p P w K mg base N qual a f T A d s H E) [] z H' U->RelV v u->Q v H'->CE d P w H s Q u U:=
  λ{z H' v u} J Y q=>{v,H',J.os,J.bare,J.base,J.hok,Y,q}
 cases fl with
 |ret u=>let{v,z,H',J,Y,q}:=h;show m J Y q
 |next=>let{z,H',J,q}:=h;show m (v:=V.non) (u:=Value.none) J rfl q
 |brk=>let{_,_,_,q}:=h;show aAH q
 |cont=>let{_,_,_,q}:=h;show aAH q
section
variable{X:Cx}{x:Str}{p pos:Pos}{e:ck}{es:List ck}{t:TA}{id T:String}{r:List V->Hp->VK->Prop}
end
end L2
namespace HT
open PySem PyProof.Rows
def lexLt:List Int->List Int->Bool
 |[],[]=>false
 |[],_::_=>true
 |_::_,[]=>false
 |x::Y,y::a=>if x=y then lexLt Y a else decide (x<y)
def F8(x y:Int)(Y a:List Int):lexLt (x::Y) (y::a)=if x=y then lexLt Y a else decide (x<y):=rfl
def aI:lexLt [] []=false:=rfl
def M7(y:Int)(a:List Int):lexLt [] (y::a)=true:=rfl
def C5(x:Int)(Y:List Int):lexLt (x::Y) []=false:=rfl
def DB(A:bt)(s:aL)(a:Int)(t:Tok)(c:Int)(u:Tok):∃e,SeqAt.EqAt A s (.int a t) (.int c u) e/\(e=true↔a=c):=
 {(a==c),aFD a t c u,by simp}
def DF(A:bt)(s:aL)(a:Int)(t:Tok)(c:Int)(u:Tok)(prog:bc)(w:bM)(E:A5)(Q:A5)(h:Q (.bool (decide (a<c))) s):
  ba (bb prog w) A (richCompare .Lt (.int a t) (.int c u)) Q E s:=
 (PyProof.Rows.lt_int h:ba (bb prog w) A (dC .Lt (.int a t) (.int c u)) Q E s)
section
open PySem.SeqAt
open PySem.AutoSeq1 (wpAny_loadPart')
open PySem.MeetsSeq PySem.MeetsSeq2 PySem.MeetsSeq3
def uP(l b:a9)(items m:Array au)(n n2:Nat)(dd wu:Option a9)(sl uo:Array (Option au))(ns z:List Int)(T:IntsAre items.toList ns)(U:IntsAre m.toList z):
  Meets (Builtin.«tuple.__lt__» {[.ref l,.ref b],[]})
   (λ_ R s=>s.heap.get? l=some {cls:=.type "tuple",dict:=dd,data:=.seq items n,slots:=sl}/\s.heap.get? b=some {cls:=.type "tuple",dict:=wu,data:=.seq m n2,slots:=uo}/\
    R (.ok (.ret (.bool (lexLt ns z)))) s):=
 .of_wp λj w A R s h=>by
  let{B,g,d,C,os}:=s;let{hl,hb,h}:=h;have f2:=AutoSeq1.sub_tuple_tuple;have z1:items.size=ns.length:=by rw[<-T.length];simp
  have z2:m.size=z.length:=by rw[<-U.length];simp
  wp_walk using aFk hl,aFk hb,aCy _ (λrest b J=>b.1=none/\J={B,g,d,C,os}/\∃(E H:List au) (o p:List Int),rest=E.zip H/\
   IntsAre E o/\IntsAre H p/\o.length+m.size=p.length+items.size/\R (.ok (.ret (.bool (lexLt o p)))) {B,g,d,C,os}) _
  case turn=>
   rintro⟨y,x⟩ rest b J ⟨L,rfl,E,H,o,p,i,N,I,f,k⟩;cases N with
   |nil=>rw[List.zip_nil_left]at i;cases i
   |cons a t r=>
    cases I with
    |nil=>rw[List.zip_nil_right]at i;cases i
    |cons c u v=>
     rw[aDy]at i;injection i with O af;injection O with hy hx;subst hy hx;rw[F8]at k;erw[aAr]at f;let{e,he,Y}:=DB A.in1 {B,g,d,C,os} a t c u;show aAa (he j w _ _ ?_);cases e with
     |true=>
      rw[km (Y.mp rfl)]at k
      wp_walk
      show{rfl,rfl,_,_,_,_,af,r,v,by lia,k}
     |false=>
      rw[kn (λq=>k7 (Y.mpr q) aBt)]at k;have Q:=DF A.in1 {B,g,d,C,os} a t c u j w
      wp_walk using Q
      show{_,rfl,by simpa using k}
  case fin=>
   rintro⟨b1,b2⟩ J ⟨L,rfl,E,H,o,p,i,N,I,f,k⟩;simp only at L;subst L;have hv:lexLt o p=decide (items.size<m.size):=by
    cases N with
    |nil=>
     cases I with
     |nil=>erw[aCe]at f;rw[aI];show(lb (by lia)).symm
     |cons c u hw=>erw[aCe,aAr]at f;rw[M7];show(lg (by lia)).symm
    |cons a t hv=>
     cases I with
     |nil=>erw[aCe,aAr]at f;rw[C5];show(lb (by lia)).symm
     |cons c u hw=>rw[aDy]at i;cases i
   rw[hv]at k
   wp_walk
   show{_,rfl,by simpa[Builtin.Tuple.tupleCompareSizes]using k}
  case h=>show{rfl,rfl,items.toList,m.toList,ns,z,rfl,T,U,by lia,h}
end
section
variable{prog:bc}{w:bM}{A:bt}{E:A5}{s:aL}
def lt_tupInts{Q:A5}(p:IsTup s.heap l items)(q:IsTup s.heap b e)(r:IntsAre items.toList ns)(t:IntsAre e.toList d)(u:A.units<cq)(h:Q (.bool (lexLt ns d)) s):ba (bb prog w) A (dC .Lt (.ref l) (.ref b)) Q E s:=by
 let{{v,y,f,z},g,i,n,j}:=id p;let{{k,B,data2,C},m,o,H,a}:=id q;simp only at i j o a;subst i j o a;show richCompare_meets_room (op:=.Lt) {_,g,rfl} {_,m,rfl} PySem.F.slot_tuple_lt PySem.F.entry_tuple_lt (PySem.F.args_tuple_lt_2 _ _) (uP l b items e n H y B z C ns d r t)
  {g,m,show aEc (lexLt ns d)≠Value.notImplemented/\Q (.bool (lexLt ns d)) s from{(λx=>nomatch x),h}} u
def cat_tup{Q:A5}(u:IsTup s.heap t vs.toArray)(v:IsTup s.heap b ws.toArray)(h:vs≠[])(x:ws=[]->Q (.ref t) s)(y:ws≠[]->Q (.ref s.heap.objs.size) {s with heap:=s.heap.push {cls:=.type "tuple",data:=.seq (vs++ws).toArray}})(z:vs.length+ws.length<=sizeLine):ba (bb prog w) A (ek .Add (.ref t) (.ref b)) Q E s:=by
 let{{cls,i,data,j},d,k,n,l}:=id u;let{{m,o,data2,p},f,q,r,a}:=id v;simp only at k l q a;subst k l q a;have e:vs.toArray++ws.toArray=(vs++ws).toArray:=by simp
 by_cases g:ws=[]
 .show aGq {_,d,rfl} {_,f,rfl} aGf seq_tuple_add PySem.F.slot_tuple_add PySem.F.entry_tuple_add (PySem.F.args_tuple_add_2 _ _)
   (tuple_addW1 t b vs.toArray ws.toArray n r i o j p (by exists h) (by simp[g])) {d,f,x g}
 show aGq {_,d,rfl} {_,f,rfl} aGf seq_tuple_add PySem.F.slot_tuple_add PySem.F.entry_tuple_add (PySem.F.args_tuple_add_2 _ _)
  (tuple_addW2 t b vs.toArray ws.toArray n r i o j p (by exists h) (by exists g) (by nofun)) {d,f,?_}
 rw[e];show y g
def sIx(n d:Nat):Option Int->Nat
 |none=>d
 |some v=>if v<0 then(v+(n:Int)).toNat else min v.toNat n
def a5o(n d:Nat):sIx n d none=d:=rfl
def sIx_nat(n d k:Nat):sIx n d (some (k:Int))=min k n:=by
 change(if(k:Int)<0 then((k:Int)+(n:Int)).toNat else min (k:Int).toNat n)=min k n
 lia
def a4c(n d:Nat)(a:d<=n)(o:Option Int):sIx n d o<=n:=by
 cases o with
 |none=>show a
 |some v=>
  change(if v<0 then(v+(n:Int)).toNat else min v.toNat n)<=n
  lia
def KG(v:Int)(n d:Nat):(if v<0 then max (v+(n:Int)) 0 else min v (n:Int))=((sIx n d (some v):Nat):Int):=by
 change(if v<0 then max (v+(n:Int)) 0 else min v (n:Int))=(((if v<0 then(v+(n:Int)).toNat else min v.toNat n):Nat):Int)
 lia
def HX(lo a:Option Int)(n:Nat):aDU lo a 1 (n:Int)=(((sIx n 0 lo:Nat):Int),((sIx n n a:Nat):Int)):=by
 have b:¬((1:Int)<0):=by lia
 unfold aDU;show aDA ?_ ?_
 .cases lo with
  |none=>rfl
  |some v=>show KG v n 0
 cases a with
 |none=>rfl
 |some v=>show KG v n n
def EW(i j:Nat):aDb (i:Int) (j:Int) 1=j-i:=by
 unfold aDb
 lia
def qX{Q:Option Int->aL->Prop}(p:IsPart v o)(h:Q o s):ba (bb prog w) A (Builtin.Slice.slicePartIndex v) Q E s:=by
 cases p with
 |none=>show slicePart_none h
 |int i t=>show slicePart_int h
def mR{sl:a9}{d e:au}{lo a:Option Int}{n:Nat}{Q:Int×Int×Nat->aL->Prop}(g:s.heap.IsSliceOf sl d e .none)(i:IsPart d lo)(j:IsPart e a)
  (h:Q (((sIx n 0 lo:Nat):Int),1,sIx n n a-sIx n 0 lo) s):ba (bb prog w) A (Builtin.Slice.sliceApplied (.ref sl) (pure (n:Int))) Q E s:=by
 let{os,b,k,f}:=id g;show aAa (aAa<|aBi b f (x:=d) rfl<|aAa<|aBi b f (x:=e) rfl<|aAa<|aBi b f (x:=.none) rfl<|aAc<|aAa<|slicePart_none ?_);show aAa (qX i<|aAa<|qX j<|aAa<|aAc ?_);change ba _ _ (match aDU lo a 1 (n:Int)with|(lo,a)=>pure (lo,(1:Int),aDb lo a 1)) _ _ s;rw[HX lo a n];change ba _ _ (pure (((sIx n 0 lo:Nat):Int),(1:Int),aDb ((sIx n 0 lo:Nat):Int) ((sIx n n a:Nat):Int) 1)) _ _ s;rw[EW];show aAc h
def RT(Y:Array au)(i k:Nat):((aBz k).filterMap λ(m:Nat)=>Y[((i:Int)+(m:Int)*1).toNat]?).toArray=((Y.toList.drop i).take k).toArray:=by
 have e:(λ(m:Nat)=>Y[((i:Int)+(m:Int)*1).toNat]?)=λm=>Y[i+m]?:=by grind
 rw[e];have:=pick_run Y i k;rw[aEm]at this;have a:((λx=>Y[x]?)∘λx=>i+x)=λm=>Y[i+m]?:=rfl
 lia
def getItem_tuple_cut{t sl:a9}{items:Array au}{g i:au}{lo a:Option Int}{Q:A5}(b:IsTup s.heap t items)(j:s.heap.IsSliceOf sl g i .none)(k:IsPart g lo)(l:IsPart i a)
  (o:¬(sIx items.size 0 lo=0/\sIx items.size items.size a=items.size))
  (h:Q (.ref s.heap.objs.size) {s with heap:=s.heap.push {cls:=.type "tuple",data:=.seq ((items.toList.drop (sIx items.size 0 lo)).take (sIx items.size items.size a-sIx items.size 0 lo)).toArray}})
  (p:items.size<=sizeLine):ba (bb prog w) A (getItem (.ref t) (.ref sl)) Q E s:=by
 have d:sizeOk (.seq ((items.toList.drop<|sIx items.size 0 lo).take (sIx items.size items.size a-sIx items.size 0 lo)).toArray):=by change((items.toList.drop<|sIx items.size 0 lo).take (sIx items.size items.size a-sIx items.size 0 lo)).toArray.size<=sizeLine;grind
 have r:sIx items.size items.size a<=items.size:=a4c _ _ (aAi _) a;let{os,e,n,u}:=id j;unfold getItem;try with_reducible show aAJ ?_
 first|show aAa (aAc ?_)|skip
 show aAa (wpAny_sequenceKey b.typeIs (by symm) ?_);show aAa (aAX b.typeIs aCD
  (aAG aCD b.typeIs entry_tuple_getitem ?_ (args_tuple_getitem _ _)))
 change ba _ _ (aDP (.ref t)>>=_) _ _ s;show aAa (tupleItemsOf_ b<|aAa<|aDk (⟨os,e,n⟩) ?_);rw[km (by symm)];show aAa (mR j k l ?_);have f:¬((((sIx items.size 0 lo:Nat):Int)==0&&(1:Int)==1&&(sIx items.size items.size a-sIx items.size 0 lo)==items.size)=true):=by intro q;rw[aAI,aAI]at q;have v:=eq_of_beq q.1.1;grind
 change ba _ _ (if(((sIx items.size 0 lo:Nat):Int)==0&&(1:Int)==1&&(sIx items.size items.size a-sIx items.size 0 lo)==items.size)=true then _ else _) _ _ s;rw[kn f,RT];first
  |show aAa (m:=aDh _) (aAD (aAc ⟨_,rfl,aAc h⟩) d)
  |show aAa (m:=aDh _) (aAD (aAa<|aAc<|aAc ⟨_,rfl,aAc h⟩) d)
  |show aAa (aAa (m:=aDh _)<|aAD (aAc<|aAc ⟨_,rfl,aAc h⟩) d)
  |show aAa (aAa (m:=aDh _)<|aAD (aAc ⟨_,rfl,aAc h⟩) d)
end
end HT
namespace L2
open PySem PySem.Spec PyProof.Rows
abbrev TO:=St->Hp->(Option Int->Hp->Prop)->Prop
def PO(X:Cx)(e:Option ck)(t:TO):Prop:=
 ∀(a:O6) (s:aL) (b:St) (H:Hp) (Q:Option Int->Hp->Prop),Inv X a b H s->t b H Q->
  ba (bb X.prog X.w) X.A (evalPart e X.env) (λu f=>∃o d,Inv X a b d f/\IsPart u o/\Q o d) X.xe s
def YX:TO:=λ_ H Q=>Q none H
def a7t(t:TE):TO:=λa H Q=>t a H λx b=>∃i,x=.int i/\Q (some i) b
section
variable{X:Cx}{e:ck}{te:TE}{lo hi:Option ck}{tl th:TO}{pos p2:Pos}
def ak:PO X none YX:=by intro a s b H Q I h;show aAc {none,H,I,.none,h}
def mw(h:PE X e te):PO X (some e) (a7t te):=by intro a s b H Q I d;show D3 (h a s b H _ I d) λu l ⟨x,f,g,j,k⟩=>?_;let{i,rfl,q}:=k;let{t,rfl}:=j;show{some i,f,g,.int i t,q}
def SlR(X:Cx)(r:V->Option Int->Option Int->Hp->VK->Prop):Prop:=
 ∀(a:O6) (s:aL) (b:St) (H:Hp) (x:V) (v d f:au) (lo hi:Option Int) (g:a9) (Q:VK),Inv X a b H s->RelV x v->s.heap.IsSliceOf g d f .none->IsPart d lo->IsPart f hi->r x lo hi H Q->
  ∃T id,kb (.type T) "__getitem__"=pure (some<|.builtin id)/\s.TypeIs v T/\ba (bb X.prog X.w) X.A (getItem v<|.ref g) (EP X a b Q) X.xe s
def SlR.or{r r':V->Option Int->Option Int->Hp->VK->Prop}(h:SlR X r)(h':SlR X r'):SlR X (λx lo hi H Q=>r x lo hi H Q\/r' x lo hi H Q):=by
 intro a s b H x v d f lo hi g Q I i j k l q;rcases q with q|q
 .show h a s b H x v d f lo hi g Q I i j k l q
 show h' a s b H x v d f lo hi g Q I i j k l q
def tSl(r:V->Option Int->Option Int->Hp->VK->Prop)(te:TE)(tl th:TO):TE:=λa H Q=>te a H λx b=>tl a b λl d=>th a d λu f=>r x l u f Q
def QM{r:V->Option Int->Option Int->Hp->VK->Prop}(k:SlR X r)(m:PE X e te)(n:PO X lo tl)(o:PO X hi th):PE X (.Subscript e (.Slice lo hi none p2) pos) (tSl r te tl th):=by intro a s f H Q I h;show Subscript_ (D3 (m a s f H _ I h) λv p ⟨x,t,w,y,z⟩=>(wpAny_Slice<|D3 (n a p f t _ w z) λg A ⟨l,B,C,E,J⟩=>D3 (o a A f B _ C J) λi d ⟨u,j,L,N,O⟩=>?_));show aAc ?_;have U:Inv X a f j {d with heap:=d.heap.push {cls:=.type "slice",data:=.fields #[g,i,.none]}}:=L.kept (t':=d.toks) λb ob q=>aAb _ q;let{T,id,Y,ht,hg}:=k a {d with heap:=d.heap.push {cls:=.type "slice",data:=.fields #[g,i,.none]}} f j x v g i l u d.heap.objs.size Q U y (Heap.IsSliceOf.new ..) E N O;show tail_any ht Y hg (by with_unfolding_all rfl)
def OJ(Y:List V)(lo hi:Option Int):List V:=(Y.drop<|HT.sIx Y.length 0 lo).take (HT.sIx Y.length Y.length hi-HT.sIx Y.length 0 lo)
def nU(Y:List V)(lo hi:Option Int):(OJ Y lo hi).length<=Y.length:=by
 unfold OJ;rw[aBR,aES]
 lia
def a5l(K:lM):V->Option Int->Option Int->Hp->VK->Prop:=λx lo hi H Q=>∃a Y,x=.ref a/\S5 K H a Y/\
 ¬(HT.sIx Y.length 0 lo=0/\HT.sIx Y.length Y.length hi=Y.length)/\∀p,H p=none->Q (.ref p) (upd H p<|.tup (OJ Y lo hi))
def a2v:SlR X (a5l X.K):=by
 intro g s t H x v u w lo hi y Q I k l m n h;let{a,Y,rfl,o,p,q}:=h;cases k;let{f,r,i,j}:=I.tuple o;have d:f.toArray.size=Y.length:=by rw[aAQ];show r.length.symm
 show{"tuple",_,aCD.lookup,i.typeIs,(HT.getItem_tuple_cut i l m n (d▸p) ?_ (d▸j))};rw[d];show{.ref s.heap.objs.size,_,I.laid (t':=s.toks) (λb z q=>aAb _ q) (aAi _) ?_,rfl,q _ (I.hok.fresh<|aAi _)};show{aAo (nU Y lo hi) j,_,(r.drop<|HT.sIx Y.length 0 lo).take (HT.sIx Y.length Y.length hi-HT.sIx Y.length 0 lo),IsTup.new _ _}
def a6u(K:lM):R2:=λx y H Q=>∃a b Y d,x=.ref a/\y=.ref b/\S5 K H a Y/\S5 K H b d/\Y≠[]/\Y.length+d.length<=sizeLine/\
 (d=[]->Q (.ref a) H)/\(d≠[]->∀p,H p=none->Q (.ref p) (upd H p<|.tup (Y++d)))
def o5.ac5(r:o5 Y a):a=[]↔Y=[]:=by
 cases r with
 |nil=>simp
 |cons _ _=>simp
def JJ:lC X (ek .Add) (a6u X.K):=by intro g s C H x y v u Q I j k h;let{a,b,Y,l,rfl,rfl,m,n,p,i,r,t}:=h;cases j;cases k;let{A,f,B,_}:=I.tuple m;let{E,d,p2,_}:=I.tuple n;show HT.cat_tup B p2 (λz=>p (f.ac5.mp z)) (λz=>{.ref a,H,I,rfl,r (d.ac5.mp z)}) (λz=>?_) (by rw[<-f.length,<-d.length];show i);show{.ref s.heap.objs.size,_,I.laid (t':=s.toks) (o:=.tup (Y++l)) (λb J q=>aAb _ q) (aAi _) ?_,rfl,t (λw=>z (d.ac5.mpr w)) _ (I.hok.fresh<|aAi _)};show{by rw[aAv];show i,_,f.append d,IsTup.new _ _}
end
def xk(n:Nat)(i:Int):Option Nat:=if 0<=i then(if i<n then some i.toNat else none)else if-(n:Int)<=i then some (i+n).toNat else none
def tY{a:Type}(Y:List a)(i:Int):Option a:=(xk Y.length i).bind λj=>Y[j]?
def bx(h:xk n i=some j):seqIndex? i n=some j/\j<n/\-(n:Int)<=i/\i<n:=by
 unfold xk at h;by_cases b:0<=i
 .rw[km b]at h;by_cases a:i<n
  .rw[km a]at h;have e:i.toNat=j:=Option.some.inj h;show{by rw[seqIndex_of b a,e],by lia,by lia,a}
  rw[kn a]at h;cases h
 rw[kn b]at h;by_cases a:-(n:Int)<=i
 .rw[km a]at h;show{by rw[seqIndex_neg (by lia) a,(Option.some.inj h)],by lia,a,by lia}
 rw[kn a]at h;cases h
def KQ{a:Type}{Y:List a}{i:Int}{v:a}(h:tY Y i=some v):∃j,seqIndex? i Y.length=some j/\Y[j]?=some v/\j<Y.length/\-(Y.length:Int)<=i/\i<Y.length:=by
 unfold tY at h;cases e:xk Y.length i with
 |none=>nofun
 |some j=>rw[e]at h;let{b,d,f,g}:=bx e;show{j,b,h,d,f,g}
def oq(b:ck):Prop:=∀o i,subscripted b false o i=operate [o,i] (getItem o i)
def IxR(X:Cx)(r:R2):Prop:=
 ∀(d a:ck) (b:O6) (s:aL) (e:St) (H:Hp) (x y:V) (v u:au) (Q:VK),Inv X b e H s->RelV x v->RelV y u->r x y H Q->
  subscripted a false v u=operate [v,u] (getItem v u)->ba (bb X.prog X.w) X.A (subscriptTail d a v u) (EP X b e Q) X.xe s
def MtR(X:Cx)(id:String)(r:V->List V->Hp->VK->Prop):Prop:=
 ∀(a:O6) (s:aL) (b:St) (H:Hp) (x:V) (Y:List V) (v:au) (d:List au) (Q:VK),Inv X a b H s->RelV x v->o5 Y d->r x Y H Q->
  ba (bb X.prog X.w) X.A (call (.builtin id) (v::d)) (EP X a b Q) X.xe s
section
variable{X:Cx}{a b:ck}{ta tb:TE}{pos:Pos}
def b0c(K:lM):R2:=λx y H Q=>∃p Y i v,x=.ref p/\y=.int i/\K4 K H p Y/\tY Y i=some v/\Q v H
def a9e(K:lM):R2:=λx y H Q=>∃p Y i v,x=.ref p/\y=.int i/\S5 K H p Y/\tY Y i=some v/\Q v H
def ZC:IxR X (b0c X.K):=by
 intro f g d s C H x y v u Q I E J h o;let{p,Y,i,z,rfl,rfl,L,N,q}:=h;cases E;let{t,rfl}:=J;let{k,r,l,hz}:=I.list L;let{j,m,O,h3,T,U}:=KQ N;let{w,A,zd}:=r.get O;have hl:=r.length;have hn:=HU;have e:EP X d C Q w s:={z,H,I,zd,q};by_cases B:0<=i
 .have n:i.toNat=j:=by rw[seqIndex_of B U]at m;show Option.some.inj m
  show item_listR l.isList B (by lia) (by rw[n];exists A) e o
 have n:(i+(k.toArray.size:Int)).toNat=j:=by
  rw[seqIndex_neg (by lia) T]at m
  nofun
 show subscriptTail_builtinR (x:=w) l.isList.typeIs slot_list_getitem.lookup
  (wpAny_getItem_list_neg l.isList (by lia) (by grind) (by lia) (by rw[n];exists A) {rfl,e}) o
def a1x:IxR X (a9e X.K):=by
 intro e f d s l H x y v u Q I m n h o;let{p,Y,i,z,rfl,rfl,A,B,q}:=h;cases m;let{t,rfl}:=n;let{C,r,k,N}:=I.tuple A;let{j,O,E,T,U,h5}:=KQ B;let{w,J,L}:=r.get E;have hl:=r.length;have hn:=HU;have g:EP X d l Q w s:={z,H,I,L,q};show subscriptTail_builtinR k.typeIs aCD.lookup
  (getItem_tuple (j:=j) k (by lia) (by lia) (by nofun) (by exists J) {rfl,g}) o
def zC(lo d:Option Int)(n:Nat):(gs lo d none n).1=((HT.sIx n 0 lo:Nat):Int)/\(gs lo d none n).2.1=((HT.sIx n n d:Nat):Int)/\(gs lo d none n).2.2=1:=by
 show{?_,?_,rfl}
 .cases lo with
  |none=>simp[gs,HT.sIx]
  |some i=>
   erw[gs,HT.sIx,Option.getD_none,show(1:Int)>0 by symm,if_true];by_cases h:i<0
   .erw[h,if_true]<;>lia
   erw[h,if_false]<;>lia
 cases d with
 |none=>simp[gs,HT.sIx]
 |some i=>erw[gs,HT.sIx,Option.getD_none,show(1:Int)>0 by symm,if_true];grind
def uQ(its:List au)(lo d:Option Int):slicePick its.toArray lo d none=((its.drop (HT.sIx its.length 0 lo)).take (HT.sIx its.length its.length d-HT.sIx its.length 0 lo)).toArray:=by let{e,f,g}:=zC lo d its.toArray.size;unfold slicePick;rw[e,f,g];erw[sliceRange_one,pick_run]<;>rfl
def a6t(K:lM):V->Option Int->Option Int->Hp->VK->Prop:=λx lo d H Q=>∃a Y,x=.ref a/\K4 K H a Y/\∀p,H p=none->Q (.ref p) (upd H p<|.lst (OJ Y lo d))
def nj:SlR X (a6t X.K):=by intro d s o H x v p t lo e u Q I g i j k h;let{a,Y,rfl,l,q}:=h;cases g;let{m,r,f,n}:=I.list l;have hlen:=r.length;show{"list",_,slot_list_getitem.lookup,f.isList.typeIs,(wpAny_getItem_list_slice f.isList i j k .none (by simp) ?_ (by nofun))};rw[uQ,<-hlen];show{.ref s.heap.objs.size,_,I.laid (t':=s.toks) (λb w q=>aAb _ q) (aAi _) ?_,rfl,q _ (I.hok.fresh<|aAi _)};show{aAo (nU Y lo e) n,_,0,(r.drop<|HT.sIx Y.length 0 lo).take (HT.sIx Y.length Y.length e-HT.sIx Y.length 0 lo),aAh _ rfl}
def a5w:V->Bool
 |.non=>true
 |.bl _=>true
 |.int _=>true
 |.str _=>true
 |_=>false
def jR:qO X (.builtin "len") (λY H Q=>∃p e,Y=[.ref p]/\(K4 X.K H p e\/S5 X.K H p e)/\Q (.int e.length) H):=by
 intro k s n H Y o Q I r h;let{p,e,rfl,f,q}:=h;let{u,rfl,l}:=vals1 r;cases l;have t:=HU;rcases f with f|f
 .let{g,i,j,m}:=I.list f;have d:=i.length;show Calls.call_len_list j.isList (by erw[aAQ]<;>lia) {.int e.length,H,I.tok _,{s.toks+1,by rw[aAQ,d]},q}
 let{g,i,j,m}:=I.tuple f;have d:=i.length;show len_tuple j (by grind) {.int e.length,H,I.tok _,{s.toks+1,by rw[aAQ,d]},q}
def jS:qO X (.type "list") (λY H Q=>∃p g,Y=[.ref p]/\(K4 X.K H p g\/S5 X.K H p g)/\∀l,H l=none->Q (.ref l) (upd H l (.lst g))):=by
 intro k s J H Y N Q I r h;let{p,g,rfl,m,q}:=h;let{u,rfl,L}:=vals1 r;cases L;have t:∀(d:List au),o5 g d->g.length<=sizeLine->∀(f:cf) (i:Nat),(∀b E,s.heap.get? b=some E->f.get? b=some E)->
   f.get? s.heap.objs.size=some {cls:=.type "list",dict:=none,data:=.seq d.toArray i,slots:=#[]}->EP X k J Q (.ref s.heap.objs.size) {s with heap:=f}:=λd j v f i x e=>
  {.ref s.heap.objs.size,_,I.laid (t':=s.toks) x (aAi _) (show ObjOk X.prog X.w _ f _ (.lst g)from{v,d,i,j,e}),rfl,q _ (I.hok.fresh<|aAi _)}
 rcases m with m|m
 .let{d,j,z,v}:=I.list m;have y:=j.length;let{o,A,B,n,C}:=z.isList;show call_list_seq p (.inl rfl) A B C (λf i x e=>t d j v f i x e) (by nofun)
 let{d,j,z,v}:=I.tuple m;have y:=j.length;let{o,A,B,n,C}:=z;show call_list_seq p (.inr rfl) A B C (λf i x e=>t d j v f i x e) (by grind)
def iJ:qO X (.type "tuple") (λY H Q=>∃p g,Y=[.ref p]/\((K4 X.K H p g/\∀l,H l=none->Q (.ref l) (upd H l (.tup g)))\/(S5 X.K H p g/\Q (.ref p) H))):=by
 intro d s n H Y A Q I r h;let{p,g,rfl,h}:=h;let{u,rfl,x}:=vals1 r;cases x;rcases h with⟨j,q⟩|⟨j,q⟩
 .let{f,k,m,t}:=I.list j;have v:=k.length;show call_tuple_list m.isList (λi y=>?_) (by grind);have w:Inv X d n H {s with heap:=i}:=I.kept (t':=s.toks) y;have z:Inv X d n (upd H i.objs.size<|.tup g) {s with heap:=i.push {cls:=.type "tuple",data:=.seq f.toArray}}:=
   w.laid (t':=s.toks) (λb o e=>aAb _ e) (aAi _) ({t,f,k,IsTup.new _ _})
  show{.ref i.objs.size,_,z,rfl,q _ (w.hok.fresh<|aAi _)}
 let{f,k,m,t}:=I.tuple j;show call_tuple_same m {.ref p,H,I,rfl,q}
def tyV(K : lM) (T : String) (x : V) (H : Hp) : Prop := match x with
  | .str _ => T = "str"
  | .int _ => T = "int"
  | .ref p => (T = "list" ∧ ∃ Y, K4 K H p Y) ∨ (T = "tuple" ∧ ∃ o, K.lookup p = some o ∧ o.cls = .type "tuple" ∧ o.dict = none) ∨
      (T = "dict" ∧ ((∃ N, H p = some (.dK N)) ∨ ∃ N, H p = some (.dT N))) ∨ (T = "set" ∧ ∃ S n, H p = some (.set S n))
  | _ => False
def WJ(I:Inv X k y H s)(r:RelV x v)(g:tyV X.K T x H):
  s.TypeIs v T/\∀a,v=.ref a->∃l,s.heap.get? a=some l/\l.dict=none:=by
 cases x with
 |str z=>let{t,rfl}:=r;cases(show T= "str"from g);show{typeIs_str s z t,λ_ e=>nomatch e}
 |int i=>let{t,rfl}:=r;cases(show T= "int"from g);show{typeIs_int s i t,λ_ e=>nomatch e}
 |ref p=>
  cases r;rcases g with⟨rfl,Y,q⟩|⟨rfl,o,d,u,h⟩|⟨rfl,d⟩|⟨rfl,S,n,d⟩
  .let{w,_,m,_}:=I.list q;show{m.isList.typeIs,λa e=>?_};cases e;let{o,n,e,c,h,_}:=m;show{o,e,h}
  .show{{o,I.kIn p o d,u},λa e=>?_};cases e;show{o,I.kIn _ o d,h}
  .have z:∃o,s.heap.get? p=some o/\o.ExactDict:=by
    rcases d with⟨N,d⟩|⟨N,d⟩
    .let{_,_,_,_,o,_,_,e,f,_}:=I.hok p _ d;show{o,e,f}
    let{_,_,_,_,o,_,_,e,f,_}:=I.hok p _ d;show{o,e,f}
   let{o,e,f}:=z;show{{o,e,f.1},λa j=>?_};cases j;show{o,e,f.2.1}
  let{o,_,_,_,e,f,_}:=I.hok p _ d;show{{o,e,f.1},λa j=>?_};cases j;show{o,e,f.2.1}
 |_=>show aAH g
def b0x(K:lM)(T:String)(r:V->List V->Hp->VK->Prop)(e:TE):TE:=λf H Q=>e f H λx d=>tyV K T x d/\r x [] d Q
def tBM(K:lM)(T:String)(r:V->List V->Hp->VK->Prop)(f:TE)(t:TA):TE:=λd H Q=>f d H λx e=>tyV K T x e/\t d e λY g=>r x Y g Q
variable{o e:ck}{es:List ck}{to:TE}{t:TA}{name:Str}{apos ah:Pos}{T id:String}{r:V->List V->Hp->VK->Prop}
def FN(k:PlainAttrs T)(slot:Slot T name id)(f:typeOf (.builtin id)=pure (.type "method_descriptor"))(l:MtR X id r)(m:PE X o to)
  (n:fb o name X.env (cy o X.env)=cy o X.env<|>1) (p:(apos.endLine==ah.line)=true<|>1):PE X (.Call (.Attribute o name apos) [] [] ah) (b0x X.K T r to):=by
 intro d s g H Q I h;show wpAny_Call_method0_late n p (D3 (m d s g H _ I h) λv q ⟨x,u,i,j,w,y⟩=>?_);let{z,A}:=WJ i j w;show{T,id,k,slot,f,z,A,aEw rfl (PySem.evalArgs_none<|l d q g u x [] v [] Q i j .nil y)}
def xx(l:PlainAttrs T)(slot:Slot T name id)(f:typeOf (.builtin id)=pure (.type "method_descriptor"))(m:MtR X id r)(n:PE X o to)(p:PA X (e::es) t)
  (q:fb o name X.env (cy o X.env)=cy o X.env<|>1)
  (u:(((cv ah (a5 (e::es) X.env)).all (λx=>!x.1)&&(backToKw ah (keywordEach [] X.env)).all (λx=>x.1.isSome)
   &&decide ((e::es).length+([]:List Keyword).length+(if([]:List Keyword).isEmpty then 0 else 1)<30))=true)<|>1)
  (w:(apos.endLine==ah.line)=true<|>1) (y:a5 (e::es) X.env=(false,cy e X.env)::a5 es X.env<|>1) (z:(cv ah (a5 es X.env)).any (·.1)=false<|>1):
  PE X (.Call (.Attribute o name apos) (e::es) [] ah) (tBM X.K T r to t):=by
 intro d s g H Q I h;show wpAny_Call_method_late q u w rfl (D3 (n d s g H _ I h) λv A ⟨x,B,i,j,C,E⟩=>?_);let{J,L}:=WJ i j C;show{T,id,l,slot,f,J,L,?_};have k:=p ah d A g B _ i E;rw[y]at k⊢;show aEw (by change(false||(cv ah<|a5 es X.env).any (·.1))=false;rw[z]<;>rfl) (Calls.evalArgs_plain<|D3 k λN O ⟨U,Y,I2,r2,q2⟩=>m d O g Y x U v N Q I2 j r2 q2)
end
def MtM(X:Cx)(id:String)(r:V->List V->Hp->VK->Prop):Prop:=
 ∀(a:O6) (s:aL) (b:St) (H:Hp) (x:V) (Y:List V) (v:au) (d:List au) (Q:VK),Inv X a b H s->RelV x v->o5 Y d->r x Y H Q->
  ba (bb X.prog X.w) X.A (call (.builtin id) (v::d)) (EP X a b Q) X.xe s
def o5.one:∀{x:V}{a:List au},o5 [x] a->∃u,a=[u]/\RelV x u:=by
 intro _ _ b;cases b with
 |cons r d=>
  cases d with
  |nil=>show{_,rfl,r}
theorem o5.zero:∀{a:List au},o5 [] a->a=[]
 |_,.nil=>rfl
def o5.dropLast(h:o5 Y a):o5 Y.dropLast a.dropLast:=by
 induction h with
 |nil=>show .nil
 |cons r t b=>
  cases t with
  |nil=>show .nil
  |cons q d=>show .cons r b
section
variable{X:Cx}{pins:O6}{σ:St}{H:Hp}{s:aL}{l b:a9}{Y ys zs:List V}
def Inv.af4{its its':List au}{n:Nat}{f:Array au->Array au}{t':Nat}(I:Inv X pins σ H s)(a:H l=some (.lst Y))
  (e:s.heap.get? l=some {cls:=.type "list",data:=.seq its.toArray n}) (d:f its.toArray=its'.toArray) (g:o5 ys its') (hz:ys.length<=sizeLine):
  Inv X pins σ (upd H l (.lst ys)) {s with heap:=s.heap.update l (aCg f),toks:=t'}:=by
 have q:=PySem.IsL.update e f;rw[d]at q;show I.write (a▸trivial) (.inl rfl) (λj u h i=>(aAE s.heap (aCg f)<|aCL h).trans i) {_,q} ?_;show{hz,its',_,g,q}
def Inv.ag6(I:Inv X pins σ H s)(a:o5 ys its)(hz:ys.length<=sizeLine):
  Inv X pins σ (upd H s.heap.objs.size (.lst ys)) {s with heap:=s.heap.push {cls:=.type "list",data:=.seq its.toArray},toks:=t'}:=
 I.laid (λ_ _ q=>aAb _ q) (aAi _) {hz,its,0,a,aAh _ rfl}
def Inv.fresh(I:Inv X pins σ H s):H s.heap.objs.size=none:=I.hok.fresh (aAi _)
def Inv.af3(I:Inv X pins σ H s)(a:H l=some (.lst Y)):Y.length<=sizeLine/\∃(its:List au) (n:Nat),o5 Y its/\Y.length=its.length/\s.heap.get? l=some {cls:=.type "list",data:=.seq its.toArray n}:=by let{z,its,n,r,e}:=I.hok l _ a;show{z,its,n,r,r.length,e}
def TW(h:n<=sizeLine):aDi n=false:=by
 unfold aDi
 lia
end
section
variable{X:Cx}
def qk:V->List V->Hp->VK->Prop:=λx a H Q=>∃l Y y,x=.ref l/\a=[y]/\H l=some (.lst Y)/\Y.length<sizeLine/\Q .non (upd H l<|.lst (Y++[y]))
def wF:MtM X "list.append" qk:=by intro b s j H x k v m Q I f g h;let{l,Y,y,rfl,rfl,d,o,q}:=h;cases f;let{u,rfl,i}:=g.one;let{z,a,n,r,p,e}:=I.af3 d;show aGv F.slot_list_append {_,e,rfl} F.entry_list_append (F.args_list_append_2 _ _) (PySem.list_append l a.toArray n u (by nofun)) {e,({.non,_,I.af4 (its':=a++[u]) d e (by simp) (r.append<|.cons i .nil) ?_,rfl,q})};grind
def a8y:V->List V->Hp->VK->Prop:=λx a H Q=>∃l Y y,x=.ref l/\a=[]/\H l=some (.lst Y)/\Y[Y.length-1]?=some y/\Q y (upd H l<|.lst Y.dropLast)
def QP:MtM X "list.pop" a8y:=by
 intro f s o H x p v t Q I i j h;let{l,Y,y,rfl,rfl,g,k,q}:=h;cases i;have b:=j.zero;subst b;let{z,a,n,r,w,e}:=I.af3 g;let{u,A,m}:=r.get k;have d:a.toArray[a.toArray.size-1]?=some u:=by grind
 show aGv F.slot_list_pop {_,e,rfl} F.entry_list_pop (F.args_list_pop_1 _) (MeetsSeq.list_pop_last l a.toArray n u d (by nofun)) {e,({y,_,I.af4 (its':=a.dropLast) g e ?_ r.dropLast ?_,m,q})}
 .grind
 grind
def a1m:V->List V->Hp->VK->Prop:=λx a H Q=>∃l Y,x=.ref l/\a=[]/\H l=some (.lst Y)/\Q .non (upd H l<|.lst [])
def OY:MtM X "list.clear" a1m:=by intro d s j H x k v m Q I g i h;let{l,Y,rfl,rfl,f,q}:=h;cases g;have a:=i.zero;subst a;let{z,b,n,r,o,e}:=I.af3 f;show aGv F.slot_list_clear {_,e,rfl} F.entry_list_clear (F.args_list_clear_1 _) (AutoSeq1.list_clear_list_0 l b.toArray n (by nofun)) {e,?_};show{.non,_,I.af4 (its':=[]) f e rfl .nil (aAS _),rfl,q}
end
section
variable{prog:bc}{w:bM}{A:bt}{E:A5}{s:aL}
end
section
variable{X:Cx}
end
end L2
namespace Att
open PySem PySem.W PySem.Calls PyProof.Rows
def oU:∀(ns:List Int) (vs:List au),WellAll P h vs (ns.map WData.int)->IntsAre vs ns:=by
 intro ns;induction ns with
 |nil=>intro vs w;rw[aFE]at w;cases w;show .nil
 |cons n ns d=>
  intro vs w;rw[aAm]at w;cases w with
  |cons a b=>cases a;show .cons _ _ (d _ b)
def script_of{l:OpenLaw}{n:Nat}(k:l.most=some n){P:Params}{h:cf}{args:List WData}{b:List au}
  (i:l.row.toRowW.claim.pre args=true) (m:WellAll P h b args):
  ∃a vs ns,b=[aCV a]/\args=[WData.list (ns.map WData.int)]/\h.get? a=some {cls:=.type "list",data:=.seq vs.toArray}/\IntsAre vs ns/\ns.length<=n:=by
 have g:=(pre_splitW i).1;have j:l.pre.holds [] {args:=args}=true:=(pre_splitW i).2;let{d,r,rfl,o,p}:=hasAllW_cons g;obtain rfl:=hasAllW_nil p;let{Y,rfl,q}:=hasW_list o;let{ns,rfl}:=items_int q;have e:ns.length<=n:=by
  unfold OpenLaw.pre at j;have f:(WTm.not<|.lt (.lit (.int (n:Int))) (.len (.arg 0))).holds [] {args:=[.list (ns.map .int)]}=true:=by have f:=(holds_andW j).1;rw[k]at f;show f
  have w:=condW_of f (w_not<|w_lt w_lit<|w_len_list<|w_arg rfl)
  nofun
 cases m with
 |cons s t=>
  cases t;cases s with
  |list u v=>show{_,_,ns,rfl,rfl,u,oU ns _ v,e}
def post_true(l:OpenLaw)(args:List WData):l.row.toRowW.claim.post args (.bool true) args=true:=
 postW_of (r:=l.row.toRowW) (X:=(true==true))
  (show WShape.has [] (.bool true) .bool=true by first|rfl|decide|simp[WShape.has,WShape.arms,WShape.armsAll])
  (show(WTm.eq .res (.lit (.bool true))).value [] {args:=args,res:=some (.bool true),after:=args}=some (.bool (true==true))from w_eq_bool (w_res rfl) w_lit) rfl
section
variable{prog:bc}{w:bM}{A:bt}{E:A5}{s:aL}{K:Frag}
def b0o(h:cf)(L d:a9):List (a9×Obj):=(aBz h.objs.size).filterMap λa=>if a=L\/a=d then none else(h.get? a).map λo=>(a,o)
end
end Att
namespace L2
open PySem PySem.Spec PyProof.Rows
theorem O8:∀{vs:List au}{ns:List Int},IntsAre vs ns->o5 (ns.map V.int) vs:=by
 intro _ _ a;cases a with
 |nil=>show .nil
 |cons n t h=>show .cons {t,rfl} (O8 h)
def C1(s:cp):Arguments:=match s with
 |.FunctionDef _ a _ _ _ _ _ _ _ _=>a
 |_=>{posonlyargs:=[],args:=[],vararg:=none,kwonlyargs:=[],kw_defaults:=[],kwarg:=none,defaults:=[]}
def p5(s:cp):List cp:=match s with
 |.FunctionDef _ _ b _ _ _ _ _ _ _=>b
 |_=>[]
def b9(s:cp):gW:=match s with
 |.FunctionDef _ _ _ _ _ _ a _ _ _=>a
 |_=>{kind:=.function,names:=[],isGenerator:=false,isCoroutine:=false}
abbrev uF:XN:=λ_ _ _ _ _ _=>False
abbrev E0:XK:=λ_ _ _=>False
def QC:DV uF X E0:=λ_ _ _ _ _ _ _ h=>h.elim
structure Fun(K:PySem.W.Frag)(x qual:Str)(st:Stmt)(f:Addr)(fd:FuncData):Prop where
 ex:∃(oc:Value) (od:Option Addr) (kV doc pm:Value) (an:Option Addr) (T ct:Value) (osl:Array (Option Value)),
  fd=PySem.W.fnOf x qual (C1 st) (p5 st) (b9 st) .none kV doc pm an T ct/\K.lookup f=some {oc,od,.func fd,osl}/\PySem.W.codeIn K T qual=true
 kp:PySem.W.keepIn K (.ref f)=true
section
variable{P:bc}{w:bM}{K:lM}{mg:dM}{base:cf}
def Fun.ok{x qual:Str}{st:cp}{f:a9}{e:dI}{N ps:List Str}{k:Nat}{b:Sp}(F:Fun K x qual st f e)(S:FnScope N ps (b9 st))(len:∀vs H Q E,b vs H Q E->vs.length=ps.length)
  (g:∀(T:au) (A:bt) (a:List Env) (s:aL) (H:Hp) (vs:List V) (Q:VK) (E:XK),Room k (A.deeper (envOfC qual (b9 st) s.heap.objs.size f T))->b vs H Q E->
   ∃t,uL (FC uF P w K mg base N qual (b9 st) f T A a s H E).nox (p5 st) t/\t {nx:=λ_ H'=>Q .non H',rt:=Q} (start N vs) H):FnOk P w K mg base uF (k+1) f e ps b:=by
 let{n,o,kV,i,p,r,T,u,j,rfl,lk,l}:=F.ex;show zj lk l S len λA a s H vs Q E m d=>?_;let{t,h,q}:=g T A a s H vs Q E m d;show{t,h.nox,q}
def Fun.binds{x qual:Str}{st:cp}{f:a9}{g:dI}{ps:List Str}(F:Fun K x qual st f g)
  (h:∀(kV a b:au) (d:Option a9) (T ct:au) (e:List au),e.length=ps.length->bindArgs (PySem.W.fnOf x qual (C1 st) (p5 st) (b9 st) .none kV a b d T ct) {e,[]}=pure (ps.zip e)):Binds K g ps []:=by
 let{j,k,kV,a,b,d,T,ct,i,rfl,lk,l}:=F.ex;show .all (h kV a b d T ct)
def RN{x qual:Str}{st:cp}{f:a9}{g:au}{h d:Option a9}{b:Array (Option au)}{kV a e T ct:au}(l:K.lookup f=some {g,h,.func (PySem.W.fnOf x qual (C1 st) (p5 st) (b9 st) .none kV a e d T ct),b})
 (c:PySem.W.codeIn K T qual=true) (k:PySem.W.keepIn K (.ref f)=true):Fun K x qual st f (PySem.W.fnOf x qual (C1 st) (p5 st) (b9 st) .none kV a e d T ct):={{g,h,kV,a,e,d,T,ct,b,rfl,l,c},k}
end
section
variable{X:Cx}
end
def Same(H H':Hp):Prop:=∀b o,H b=some o->H' b=some o
def Same.refl(H:Hp):Same H H:=λ_ _ h=>h
def Same.trans(a:Same H d)(b:Same d e):Same H e:=λc o h=>b c o (a c o h)
def Same.seq{K:lM}{H H':Hp}{a:a9}{Y:List V}(e:Same H H')(h:K4 K H a Y):K4 K H' a Y:=by
 rcases h with(h|⟨o,h⟩)|h
 .show .inl (.inl (e _ _ h))
 .show .inl (.inr {o,e _ _ h})
 show .inr h
end L2
namespace DL
open PySem PySem.Spec L2
open PyProof.Rows hiding St
section
inductive D where
 |non|bl (b:Bool)|int (i:Int)|str (x:Str)|tup (Y:List D)|lst (Y:List D)|dct (N:List (D×D))
mutual
def o7:D->Int
 |.int i=>hashInt i
 |.tup Y=>reduceHash (aAN (xX Y))
 |_=>0
def xX:List D->List Int
 |[]=>[]
 |x::Y=>o7 x::xX Y
end
def J6:Nat->D->Bool
 |_,.int _=>true
 |n+1,.tup Y=>Y.all (J6 n)
 |_,_=>false
inductive R(α:Type)where
 |ok (a:α)|ex (e:Str)|bad
def R.bind{b β:Type}:R b->(b->R β)->R β
 |.ok a,f=>f a
 |.ex e,_=>.ex e
 |.bad,_=>.bad
@[simp]def R.aa0{b β:Type}(a:b)(f:b->R β):(R.ok a).bind f=f a:=rfl
@[simp]def R.ag2{a β:Type}(e:Str)(f:a->R β):(R.ex e:R a).bind f=.ex e:=rfl
@[simp]def R.ag0{a β:Type}(f:a->R β):(R.bad:R a).bind f=.bad:=rfl
def tE(a:a9)(o:Obj)(es:List dq):Prop:=(a==ff)=false/\o.ExactDict/\∃b d,o.data=.dict b d/\b.toList=es
section
variable(K:lM) (H:Hp) (O:a9->Prop)
mutual
inductive Rep:V->D->Prop
 |non:Rep .non .non
 |bl {b:Bool}:Rep (.bl b) (.bl b)
 |int {i:Int}:Rep (.int i) (.int i)
 |str {x:Str}:Rep (.str x) (.str x)
 |tup {a:Addr}{vs:List V}{ds:List D} (h:S5 K H a vs) (r:Reps vs ds):Rep (.ref a) (.tup ds)
 |lst {a:Addr}{vs:List V}{ds:List D} (h:K4 K H a vs) (n:¬O a) (r:Reps vs ds):Rep (.ref a) (.lst ds)
 |dct {a:Addr}{o:Obj}{es:List DictEntry}{N:List (D×D)} (h:H a=some (.ext λh=>h.get? a=some o)) (x:tE a o es) (n:¬O a) (nd:(N.map (·.1)).Nodup) (r:RepsD es N):Rep (.ref a) (.dct N)
inductive Reps:List V->List D->Prop
 |nil:Reps [] []
 |cons {v:V}{d:D}{vs:List V}{ds:List D} (h:Rep v d) (t:Reps vs ds):Reps (v::vs) (d::ds)
inductive RepsD:List DictEntry->List (D×D)->Prop
 |nil:RepsD [] []
 |cons {e:DictEntry}{k v:D}{a:Addr}{x:V}{es:List DictEntry}{N:List (D×D)} (hk:e.key=.ref a) (rk:Rep (.ref a) k) (hv:RelV x e.val) (rv:Rep x v) (hh:e.hash=o7 k/\J6 7 k=true) (t:RepsD es N):RepsD (e::es) ((k,v)::N)
end
end
section
variable{K:lM}
def _root_.L2.Same.tup{a:a9}{Y:List V}(e:Same H H')(h:S5 K H a Y):S5 K H' a Y:=by
 rcases h with(h|⟨o,h⟩)|h
 .show .inl (.inl (e _ _ h))
 .show .inl (.inr {o,e _ _ h})
 show .inr h
mutual
theorem Rep.mono(f:∀a Y,S5 K H a Y->S5 K H' a Y)(b:∀a Y,¬O a->K4 K H a Y->¬g a/\K4 K H' a Y)(e:∀a i,¬O a->H a=some (.ext i)->¬g a/\H' a=some (.ext i)):∀{v:V}{d:D},Rep K H O v d->Rep K H' g v d:=by
 intro _ _ j;cases j with
 |non=>show .non
 |bl=>show .bl
 |int=>show .int
 |str=>show .str
 |tup h r=>show .tup (f _ _ h) (Reps.mono f b e r)
 |lst h n r=>show .lst (b _ _ n h).2 (b _ _ n h).1 (Reps.mono f b e r)
 |dct h x n k r=>show .dct (e _ _ n h).2 x (e _ _ n h).1 k (RepsD.mono f b e r)
theorem Reps.mono(b:∀a Y,S5 K H a Y->S5 K H' a Y)(d:∀a Y,¬O a->K4 K H a Y->¬e a/\K4 K H' a Y)(f:∀a g,¬O a->H a=some (.ext g)->¬e a/\H' a=some (.ext g)):∀{vs:List V}{ds:List D},Reps K H O vs ds->Reps K H' e vs ds:=by
 intro _ _ i;cases i with
 |nil=>show .nil
 |cons h t=>show .cons (Rep.mono b d f h) (Reps.mono b d f t)
theorem RepsD.mono(b:∀a Y,S5 K H a Y->S5 K H' a Y)(d:∀a Y,¬O a->K4 K H a Y->¬f a/\K4 K H' a Y)(e:∀a g,¬O a->H a=some (.ext g)->¬f a/\H' a=some (.ext g)):∀{es:List dq}{N:List (D×D)},RepsD K H O es N->RepsD K H' f es N
 |_,_,.nil=>.nil
 |_,_,.cons h i j k l t=>.cons h (Rep.mono b d e i) j (Rep.mono b d e k) l (RepsD.mono b d e t)
end
def Rep.same(e:Same H H')(r:Rep K H O v d):Rep K H' O v d:=r.mono (λ_ _ h=>e.tup h) (λ_ _ n h=>{n,e.seq h}) λ_ _ n h=>{n,e _ _ h}
def Reps.same(e:Same H H')(r:Reps K H O v d):Reps K H' O v d:=r.mono (λ_ _ h=>e.tup h) (λ_ _ n h=>{n,e.seq h}) λ_ _ n h=>{n,e _ _ h}
def Rep.sub(e:∀a,b a->O a)(r:Rep K H O v d):Rep K H b v d:=r.mono (λ_ _ h=>h) (λ_ _ n h=>{λz=>n (e _ z),h}) λ_ _ n h=>{λz=>n (e _ z),h}
def Reps.sub(e:∀a,b a->O a)(r:Reps K H O v d):Reps K H b v d:=r.mono (λ_ _ h=>h) (λ_ _ n h=>{λz=>n (e _ z),h}) λ_ _ n h=>{λz=>n (e _ z),h}
theorem Reps.length:∀{vs:List V}{ds:List D},Reps K H O vs ds->vs.length=ds.length
 |_,_,.nil=>rfl
 |_,_,.cons _ t=>by simp[Reps.length t]
theorem Reps.get:∀{vs:List V}{ds:List D}{i:Nat}{d:D},Reps K H O vs ds->ds[i]?=some d->∃v,vs[i]?=some v/\Rep K H O v d:=by
 intro _ _ a d b e;cases b with
 |nil=>simp at e
 |cons r t=>
  cases a with
  |zero=>simp at e;subst e;show{_,rfl,r}
  |succ i=>let{u,f,g}:=Reps.get (i:=i) (d:=d) t (by exists e);show{u,by simpa using f,g}
theorem Reps.append:∀{vs ws:List V}{ds es:List D},Reps K H O vs ds->Reps K H O ws es->Reps K H O (vs++ws) (ds++es):=by
 intro _ _ _ _ a s;cases a with
 |nil=>show s
 |cons r t=>show .cons r (Reps.append t s)
theorem Reps.take:∀{vs:List V}{ds:List D} (n:Nat),Reps K H O vs ds->Reps K H O (vs.take n) (ds.take n)
 |_,_,0,_=>.nil
 |_,_,_+1,.nil=>.nil
 |_,_,n+1,.cons r t=>.cons r (Reps.take n t)
theorem Reps.drop:∀{vs:List V}{ds:List D} (n:Nat),Reps K H O vs ds->Reps K H O (vs.drop n) (ds.drop n)
 |_,_,0,r=>r
 |_,_,_+1,.nil=>.nil
 |_,_,n+1,.cons _ t=>Reps.drop n t
def Reps.dropLast(r:Reps K H O vs ds):Reps K H O vs.dropLast ds.dropLast:=by rw[aEQ,aEQ,r.length];show r.take _
def Reps.snoc(r:Reps K H O vs ds)(h:Rep K H O v d):Reps K H O (vs++[v]) (ds++[d]):=r.append (.cons h .nil)
theorem Reps.ints:∀(ns:List Int),Reps K H O (ns.map V.int) (ns.map D.int)
 |[]=>.nil
 |_::ns=>.cons .int (Reps.ints ns)
theorem Reps.reverse:∀{vs:List V}{ds:List D},Reps K H O vs ds->Reps K H O vs.reverse ds.reverse
 |_,_,.nil=>.nil
 |_,_,.cons r t=>by rw[aAV,aAV];show(Reps.reverse t).snoc r
end
def Kp(H:Hp)(O:a9->Prop)(H':Hp)(a:a9->Prop):Prop:=∀b o,H b=some o->¬O b->H' b=some o/\¬a b
section
def Kp.refl(H:Hp)(O:a9->Prop):Kp H O H O:=λ_ _ h n=>{h,n}
def Kp.of(s:Same H H'):Kp H O H' O:=λb o h n=>{s b o h,n}
def Kp.trans(a:Kp H O H' f)(b:Kp H' f d e):Kp H O d e:=λc o h n=>by let{g,i}:=a c o h n;show b c o g i
end
class Tabs where
 tbs:List (Addr×List (Pos×Str))
inductive Sl where
 |no|v (d:D)|o (Y:List D)|x (C:Value)|c (m:List D->R D) (φ:Hp->(Addr->Prop)->Addr->Prop)|d (N:List (D×D))
abbrev Ev:=List Sl
def Mt:HO->Prop
 |.lst _=>True
 |.dK _=>True
 |.dT _=>True
 |.ext _=>True
 |_=>False
def cK(K:lM)(H:Hp)(O:a9->Prop)(es:List dq)(N:List (D×D)):Prop:=
 Paired (λ(e:dq) (p:D×D)=>(∃a,e.key=.ref a/\Rep K H O (.ref a) p.1)/\(∃v,RelV v e.val/\Rep K H O v p.2)/\e.hash=o7 p.1/\J6 7 p.1=true) es N
theorem RepsD.rep{K:lM}:∀{es:List dq}{N:List (D×D)},RepsD K H O es N->cK K H O es N:=by
 intro _ _ a;cases a with
 |nil=>show .nil
 |cons b d e f g t=>show .cons {{_,b,d},{_,e,f},g} (RepsD.rep t)
def cK.ab9{K:lM}:∀{es:List dq}{N:List (D×D)},cK K H O es N->RepsD K H O es N:=by
 intro _ _ h;induction h with
 |nil=>show .nil
 |cons h _ a=>let{{_,b,d},{_,e,f},g}:=h;show .cons b d e f g a
def OC:Sl->Prop
 |.o _=>True
 |.d _=>True
 |_=>False
section
variable(K:lM) (H9 H:Hp) (O:a9->Prop)
def iW(x:Option (Option V)):Sl->Prop
 |.no=>True
 |.v d=>∃v,x=some (some v)/\Rep K H O v d
 |.o Y=>∃a b,x=some (some (V.ref a))/\O a/\H9 a=none/\H a=some (.lst b)/\Reps K H O b Y
 |.x C=>∃a o,x=some (some (V.ref a))/\H a=some (.frz o (.own a))/\o.cls=C
 |.c m i=>∃a,x=some (some (V.ref a))/\∀e f,Kp H O e f->i e f a
 |.d N=>∃a o g,x=some (some (V.ref a))/\O a/\H9 a=none/\H a=some (.ext λh=>h.get? a=some o)/\tE a o g/\cK K H O g N/\(N.map (·.1)).Nodup
end
variable [Tabs]
def Tb(H:Hp):Prop:=∀p∈Tabs.tbs,H p.1=some (.tbl p.2)
structure EnvOk(K:PySem.W.Frag)(H9:Hp)(O0:Addr->Prop)(H:Hp)(O:Addr->Prop)(σ:St)(ρ:Ev):Prop where
 len:σ.length=ρ.length
 same:Same H9 H
 sub:∀a,O0 a->O a
 trk:∀a,O a->∃o,H a=some o/\Mt o
 trk0:∀a,O0 a->∃o,H9 a=some o
 tab:Tb H
 slot:∀(i:Nat) (sl:Sl),ρ[i]?=some sl->iW K H9 H O σ[i]? sl
 inj:∀(i j:Nat) (x y:Sl) (a:Addr),ρ[i]?=some x->ρ[j]?=some y->OC x->OC y->σ[i]?=some (some (V.ref a))->σ[j]?=some (some (V.ref a))->i=j
section
variable{K:lM}{O0 O O':a9->Prop}
def Tb.same(h:Tb H)(s:Same H H'):Tb H':=λp a=>s _ _ (h p a)
def EnvOk.val(E:EnvOk K b O0 H O a ρ)(i:Nat)(d:D)(h:ρ[i]?=some (Sl.v d)):∃v,a[i]?=some (some v)/\Rep K H O v d:=E.slot i _ h
def EnvOk.own(E:EnvOk K b O0 H O d ρ)(i:Nat)(Y:List D)(h:ρ[i]?=some (Sl.o Y)):∃a vs,d[i]?=some (some (V.ref a))/\O a/\b a=none/\H a=some (.lst vs)/\Reps K H O vs Y:=E.slot i _ h
def cK.mono(f:∀{v:V}{d:D},Rep K H O v d->Rep K H' O' v d):∀{N:List (D×D)},cK K H O es N->cK K H' O' es N:=λ{_} r=>Paired.af6 r<|by rintro _ _ ⟨⟨v,a,b⟩,⟨w,e,g⟩,h⟩;show{{v,a,f b},{w,e,f g},h}
def iW.move(h:iW K z H O x sl)(j:∀a Y,S5 K H a Y->S5 K H' a Y)(l:∀a Y,¬O a->K4 K H a Y->¬O' a/\K4 K H' a Y)(A:∀a o u,H a=some (.frz o u)->H' a=some (.frz o u))(p:Kp H O H' O')(y:OC sl->∀a o,x=some (some (V.ref a))->O a->H a=some o->O' a/\H' a=some o):iW K z H' O' x sl:=by
 have q:∀a g,¬O a->H a=some (.ext g)->¬O' a/\H' a=some (.ext g):=λa g n h=>{(p a _ h n).2,(p a _ h n).1};cases sl with
 |no=>trivial
 |v d=>let{v,b,e}:=h;show{v,b,e.mono j l q}
 |o Y=>let{a,B,b,e,f,s,t}:=h;let{i,w}:=y trivial a _ b e s;show{a,B,b,i,f,w,t.mono j l q}
 |x C=>let{a,o,b,e,f}:=h;show{a,o,b,A _ _ _ e,f}
 |c m g=>let{a,b,e}:=h;show{a,b,λE I k=>e E I (p.trans k)}
 |d N=>let{a,o,J,b,e,f,s,t,i}:=h;let{w,L}:=y trivial a _ b e s;show{a,o,J,b,w,f,L,t,i.1.mono λr=>r.mono j l q,i.2}
def iW.grow(h:iW K a H O x sl)(e:Same H H'):iW K a H' O x sl:=
 h.move (λ_ _ q=>e.tup q) (λ_ _ n q=>{n,e.seq q}) (λ_ _ _ q=>e _ _ q) (Kp.of e) λ_ _ _ _ b d=>{b,e _ _ d}
def EnvOk.grow(E:EnvOk K b O0 H O d ρ)(e:Same H H'):EnvOk K b O0 H' O d ρ where
 len:=E.len
 same:=E.same.trans e
 sub:=E.sub
 trk:=λa h=>by let{o,q,m}:=E.trk a h;show{o,e a o q,m}
 trk0:=E.trk0
 tab:=E.tab.same e
 slot:=λi f h=>(E.slot i f h).grow e
 inj:=E.inj
def EnvOk.fresh(E:EnvOk K a O0 H O b ρ)(h:H p=none):¬O p:=λz=>by
 let{o,q,_}:=E.trk p z
 lia
def v6{a:Type}{l:List a}{i j:Nat}{x:a}(h:i≠j):(l.set i x)[j]?=l[j]?:=aCz h
def A8{a:Type}{l:List a}{i:Nat}{x y:a}(h:(l.set i x)[i]?=some y):y=x/\i<l.length:=by
 have b:i<l.length:=by have:=(aAw.mp h).1;exists this
 rw[aBM b]at h;show{(Option.some.inj h).symm,b}
def EnvOk.put(E:EnvOk K f O0 H O u ρ){v:Option V}{sl:Sl}(i:Nat)(no:¬OC sl)(r:iW K f H O (some v) sl):EnvOk K f O0 H O (u.set i v) (ρ.set i sl)where
 len:=by exists E.len
 same:=E.same
 sub:=E.sub
 trk:=E.trk
 trk0:=E.trk0
 tab:=E.tab
 slot:=λj s h=>by
  by_cases g:i=j
  .subst g;let{e,w}:=A8 h;subst e;rw[aBM (E.len▸w)];show r
  rw[v6 g]at h⊢;show E.slot j s h
 inj:=λj k x y a b d m n p t=>by
  have ne:∀(l:Nat) (z:Sl),(ρ.set i sl)[l]?=some z->OC z->i≠l:=λl z q o e=>by subst e;let{e,_}:=A8 q;subst e;show no o
  have A:=ne j x b m;have B:=ne k y d n;rw[v6 A]at b p;rw[v6 B]at d t;show E.inj j k x y a b d m n p t
def EnvOk.set(E:EnvOk K a O0 H O b ρ)(i:Nat)(r:Rep K H O v d):EnvOk K a O0 H O (b.set i (some v)) (ρ.set i (.v d)):=E.put i (λz=>z) {v,rfl,r}
def iW.at_(h:iW K i H O x sl)(o:OC sl):∃a u,x=some (some (V.ref a))/\O a/\i a=none/\H a=some u/\Mt u:=by
 cases sl with
 |o Y=>let{a,j,b,e,f,g,_}:=h;show{a,_,b,e,f,g,trivial}
 |d N=>let{a,u,k,b,e,f,g,_}:=h;show{a,_,b,e,f,g,trivial}
 |_=>show o.elim
def EnvOk.af7(E:EnvOk K u O0 H O p ρ){a:a9}{sl:Sl}(i:Nat)(v:∀(j:Nat) (y:Sl),i≠j->ρ[j]?=some y->OC y->p[j]?≠some (some (V.ref a)))(r:iW K u H O (some (some (V.ref a))) sl):
  EnvOk K u O0 H O (p.set i (some (V.ref a))) (ρ.set i sl)where
 len:=by exists E.len
 same:=E.same
 sub:=E.sub
 trk:=E.trk
 trk0:=E.trk0
 tab:=E.tab
 slot:=λj s h=>by
  by_cases d:i=j
  .subst d;let{e,A}:=A8 h;subst e;rw[aBM (by rw[E.len];show A)];show r
  rw[v6 d]at h⊢;show E.slot j s h
 inj:=λj k x y b n o w z g m=>by
  have at_:∀(l:Nat),i=l->(p.set i<|some<|V.ref a)[l]?=some (some<|V.ref b)->b=a:=λl e q=>by subst e;let{e,_}:=A8 q;injection e with e;injection e
  by_cases d:i=j
  .by_cases f:i=k
   .show d.symm.trans f
   exfalso;have t:=at_ j d g;subst t;rw[v6 f]at o m;show v k y f o z m
  by_cases f:i=k
  .exfalso;have t:=at_ k f m;subst t;rw[v6 d]at n g;show v j x d n w g
  rw[v6 d]at n g;rw[v6 f]at o m;show E.inj j k x y b n o w z g m
def j3(h:H p=none)(o:HO):Same H (upd H p o):=λb u q=>by rw[l6 (p7 q h)];show q
def EnvOk.ac1(E:EnvOk K f O0 H O g ρ)(h:H a=none)(p:K.lookup a=none)(m:Mt u):EnvOk K f O0 (upd H a u) (λb=>O b\/b=a) g ρ:=by
 have s:=j3 h u;have ne:∀b Y,K4 K H b Y->b≠a:=λb Y q z=>by
  subst z;rcases q with(q|⟨o,q⟩)|⟨o,_,_,q,_⟩
  .grind
  .lia
  grind
 show{E.len,E.same.trans s,λb z=>.inl (E.sub b z),λb z=>?_,E.trk0,E.tab.same s,λi j e=>?_,E.inj}
 .rcases z with z|z
  .let{o,q,m}:=E.trk b z;show{o,s b o q,m}
  subst z;show{_,j1,m}
 show(E.slot i j e).move (λ_ _ q=>s.tup q) (λb Y n q=>{λz=>z.elim n (ne b Y q),s.seq q}) (λ_ _ _ q=>s _ _ q) (λb o d n=>{s b o d,λz=>z.elim n λe=>by subst e;rw[h]at d;cases d}) λ_ b o _ k l=>{.inl k,s _ _ l}
def a1v(h:H a=none)(d:K.lookup a=none)(q:K4 K H b Y):b≠a:=λz=>by
 subst z;rcases q with(q|⟨o,q⟩)|⟨o,_,_,q,_⟩
 .nofun
 .grind
 nofun
def Reps.ac1(h:H a=none)(e:K.lookup a=none)(r:Reps K H O v d):Reps K (upd H a u) (λb=>O b\/b=a) v d:=
 r.mono (λ_ _ q=>(j3 h u).tup q) (λb Y n q=>{λz=>z.elim n (a1v h e q),(j3 h u).seq q}) λb f n q=>{λz=>z.elim n (p7 q h),j3 h u _ _ q}
def EnvOk.ae1(E:EnvOk K d O0 H O f ρ)(i:Nat)(h:H a=none)(g:K.lookup a=none)(m:Mt u)(r:d a=none->iW K d (upd H a u) (λb=>O b\/b=a) (some (some (V.ref a))) sl):
  EnvOk K d O0 (upd H a u) (λb=>O b\/b=a) (f.set i (some (.ref a))) (ρ.set i sl):=by
 have k:d a=none:=by
  cases e:d a with
  |none=>rfl
  |some o=>have:=E.same a o e;rw[h]at this;cases this
 show(E.ac1 h g m).af7 i (λj y _ e o q=>?_) (r k);let{b,w,l,_,_,n,_}:=(E.slot j y e).at_ o
 nofun
def xV(h:H a=some u)(m:Mt u)(q:S5 K H b Y):S5 K (upd H a u') b Y:=by
 have ne:∀w,H b=some w->¬Mt w->b≠a:=λw e n z=>by subst z;rw[h]at e;cases e;show n m
 rcases q with(q|⟨o,q⟩)|q
 .show .inl (.inl ((l6<|ne _ q λz=>z)▸q))
 .show .inl (.inr {o,by rw[l6 (ne _ q λz=>z)];show q})
 show .inr q
def yJ(d:O a)(n:¬O b)(q:K4 K H b Y):K4 K (upd H a u') b Y:=by
 have ne:b≠a:=λz=>by subst z;show n d
 rcases q with(q|⟨o,q⟩)|q
 .show .inl (.inl ((l6 ne)▸q))
 .show .inl (.inr {o,by rw[l6 ne];show q})
 show .inr q
def Rep.upd(h:H a=some u)(m:Mt u)(e:O a)(r:Rep K H O v d):Rep K (upd H a u') O v d:=r.mono (λ_ _ q=>xV h m q) (λ_ _ n q=>{n,yJ e n q}) λb _ n q=>{n,by rw[l6 (λz=>n (by rw[z];show e))];show q}
def Reps.upd(h:H a=some u)(m:Mt u)(e:O a)(r:Reps K H O v d):Reps K (upd H a u') O v d:=r.mono (λ_ _ q=>xV h m q) (λ_ _ n q=>{n,yJ e n q}) λb _ n q=>{n,by rw[l6 (λz=>n (by rw[z];show e))];show q}
def EnvOk.ae6{i:Nat}{sl sl':Sl}{a:a9}{u u':HO}(E:EnvOk K t O0 H O U ρ)(e:ρ[i]?=some sl)(v:OC sl)(A:U[i]?=some (some (V.ref a)))(B:H a=some u)(m':Mt u')(ow':OC sl')
  (r:O a->t a=none->Mt u->iW K t (upd H a u') O (some (some (V.ref a))) sl'):EnvOk K t O0 (upd H a u') O U (ρ.set i sl')/\Kp H O (upd H a u') O:=by
 let{b,w,d,C,Y,p4,m}:=(E.slot i sl e).at_ v;rw[A]at d;injection d with d;injection d with d;injection d with d;subst d;rw[B]at p4;cases p4;have kp:Kp H O (upd H a u') O:=λb o g n=>{by rw[l6 (λz=>by subst z;show n C)];show g,n};have nf:∀b w,H b=some w->¬Mt w->upd H a u' b=some w:=λb w q n=>by rw[l6 (λz=>by subst z;rw[B]at q;cases q;show n m)];show q
 show{{by simpa using E.len,λb o q=>?_,E.sub,λb z=>?_,E.trk0,λp hp=>nf _ _ (E.tab p hp) λz=>z,λj s h=>?_,λj k x y b I J o1 o2 L q4=>?_},kp}
 .rw[l6 (λz=>by subst z;rw[Y]at q;cases q)];show E.same b o q
 .by_cases g:b=a
  .subst g;show{_,j1,m'}
  let{o,q,m}:=E.trk b z;show{o,by rw[l6 g];show q,m}
 .by_cases N:i=j
  .subst N;let{e',_}:=A8 h;subst e';rw[A];show r C Y m
  rw[v6 N]at h;show(E.slot j s h).move (λ_ _ q=>xV B m q) (λ_ _ n q=>{n,yJ C n q}) (λb o w q=>nf _ _ q λz=>z) kp λo b w I J L=>{J,?_};rw[l6 (λz=>by subst z;show N (E.inj i j sl s b e h v o A I))];show L
 have f:∀l z,(ρ.set i sl')[l]?=some z->OC z->∃z',ρ[l]?=some z'/\OC z':=λl z q o=>by
  by_cases hl:i=l
  .subst hl;show{sl,e,v}
  rw[v6 hl]at q;show{z,q,o}
 let{x',u1,Q}:=f j x I o1;let{y',u2,T}:=f k y J o2;show E.inj j k x' y' b u1 u2 Q T L q4
def EnvOk.af0{i:Nat}{sl sl':Sl}{a:a9}(E:EnvOk K u O0 H O v ρ)(e:ρ[i]?=some sl)(A:OC sl)(B:v[i]?=some (some (V.ref a)))(no:¬OC sl')(r:iW K u H (λb=>O b/\b≠a) (some (some (V.ref a))) sl'):
  EnvOk K u O0 H (λb=>O b/\b≠a) v (ρ.set i sl'):=by
 let{b,w,d,U,J,Y,m}:=(E.slot i sl e).at_ A;rw[B]at d;injection d with d;injection d with d;injection d with d;subst d;show{by simpa using E.len,E.same,λb z=>{E.sub b z,λq=>?_},λb z=>E.trk b z.1,E.trk0,E.tab,λj s h=>?_,λj k x y b f g C I p L=>?_}
 .subst q;let{o,q}:=E.trk0 b z;rw[J]at q;cases q
 .by_cases t:i=j
  .subst t;let{l,_}:=A8 h
   nofun
  rw[v6 t]at h;show(E.slot j s h).move (λ_ _ q=>q) (λ_ _ n q=>{λz=>n z.1,q}) (λ_ _ _ q=>q) (λb o N n=>{N,λz=>n z.1}) λo b w f g p=>{{g,λz=>?_},p};subst z;show t (E.inj i j sl s b e h A o B f)
 have Q:i≠j:=λz=>by subst z;let{l,_}:=A8 f;subst l;show no C
 have T:i≠k:=λz=>by subst z;let{l,_}:=A8 g;subst l;show no I
 rw[v6 Q]at f;rw[v6 T]at g;show E.inj j k x y b f g C I p L
end
def XW(X:Cx)(e:Str)(H:Hp):Prop:=False
def RC(X:Cx)(H:Hp)(O:a9->Prop)(r:R D)(Q:VK):Prop:=match r with
 |.ok d=>∀v a,Same H a->Rep X.K a O v d->Q v a
 |.ex e=>∀a,Same H a->XW X e a
 |.bad=>False
def y8(K:lM)(H:Hp)(O:a9->Prop)(v:V)(d:D):Prop:=Rep K H O v d\/∃a b e,v=.ref a/\d=.lst e/\K4 K H a b/\Reps K H O b e
def XH(X:Cx)(H:Hp)(O:a9->Prop)(r:R D)(Q:VK):Prop:=match r with
 |.ok d=>∀v a,Same H a->y8 X.K a O v d->Q v a
 |.ex e=>∀a,Same H a->XW X e a
 |.bad=>False
def vU(X:Cx)(H:Hp)(r:R Bool)(Q:Bool->Hp->Prop):Prop:=match r with
 |.ok b=>∀a,Same H a->Q b a
 |.ex e=>∀a,Same H a->XW X e a
 |.bad=>False
def MD(X:Cx)(H:Hp)(O:a9->Prop)(r:R (List D))(Q:List V->Hp->Prop):Prop:=match r with
 |.ok d=>∀b a,Same H a->Reps X.K a O b d->Q b a
 |.ex e=>∀a,Same H a->XW X e a
 |.bad=>False
def WR(X:Cx)(H:Hp)(O:a9->Prop)(r:R (List D))(Q:List V->Hp->Prop):Prop:=match r with
 |.ok d=>∀b a,Same H a->Paired (y8 X.K a O) b d->Q b a
 |.ex e=>∀a,Same H a->XW X e a
 |.bad=>False
def tD(X:Cx)(f:Ev->R D):TE:=λb H Q=>∃d e O a,EnvOk X.K d e H O b a/\RC X H O (f a) Q
def tDB(X:Cx)(f:Ev->R D):TE:=λb H Q=>∃d e O a,EnvOk X.K d e H O b a/\XH X H O (f a) Q
def tDT(X:Cx)(f:Ev->R Bool):TT:=λb H Q=>∃d e O a,EnvOk X.K d e H O b a/\vU X H (f a) Q
def tDs(X:Cx)(f:Ev->R (List D)):TA:=λb H Q=>∃d e O a,EnvOk X.K d e H O b a/\MD X H O (f a) Q
def a9d(X:Cx)(f:Ev->R (List D)):TA:=λb H Q=>∃d e O a,EnvOk X.K d e H O b a/\WR X H O (f a) Q
def PD(X:Cx)(e:ck)(f:Ev->R D):Prop:=PE X e (tD X f)
def PB(X:Cx)(e:ck)(f:Ev->R D):Prop:=PE X e (tDB X f)
def DM(X:Cx)(e:ck)(f:Ev->R Bool):Prop:=PT X e (tDT X f)
def ES(X:Cx)(es:List ck)(f:Ev->R (List D)):Prop:=PA X es (tDs X f)
def PAB(X:Cx)(es:List ck)(f:Ev->R (List D)):Prop:=PA X es (a9d X f)
def RE{r:Hp->(a9->Prop)->Ev->VK->Prop}(h:PE X e t)(i:∀a H Q b d O ρ,EnvOk X.K b d H O a ρ->r H O ρ Q->t a H Q):PE X e λa H Q=>∃b d O ρ,EnvOk X.K b d H O a ρ/\r H O ρ Q:=λf s a H Q I q=>h f s a H Q I (let⟨b,d,O,ρ,E,q⟩:=q;i a H Q b d O ρ E q)
def ptI{r:Hp->(a9->Prop)->Ev->(Bool->Hp->Prop)->Prop}(h:PT X e t)(i:∀a H Q b d O ρ,EnvOk X.K b d H O a ρ->r H O ρ Q->t a H Q):PT X e λa H Q=>∃b d O ρ,EnvOk X.K b d H O a ρ/\r H O ρ Q:=λf s a H Q I q=>h f s a H Q I (let⟨b,d,O,ρ,E,q⟩:=q;i a H Q b d O ρ E q)
def paI{r:Hp->(a9->Prop)->Ev->(List V->Hp->Prop)->Prop}(h:PA X es t)(i:∀a H Q b d O ρ,EnvOk X.K b d H O a ρ->r H O ρ Q->t a H Q):PA X es λa H Q=>∃b d O ρ,EnvOk X.K b d H O a ρ/\r H O ρ Q:=λf e s a H Q I q=>h f e s a H Q I (let⟨b,d,O,ρ,E,q⟩:=q;i a H Q b d O ρ E q)
def rM{β:Type}{r:Hp->(a9->Prop)->Ev->β->Prop}{G:List (a9×Obj)->aL->St->Hp->β->Prop}(h:∀a s b H Q,Inv X a b H s->∀d e O ρ,EnvOk X.K d e H O b ρ->r H O ρ Q->G a s b H Q)(a s b H Q)(I:Inv X a b H s)(q:∃d e O ρ,EnvOk X.K d e H O b ρ/\r H O ρ Q):G a s b H Q:=by grind
def PD.pb(h:PD X e f):PB X e f:=RE h λj H Q b g O a E q=>⟨b,g,O,a,E,by
 cases e:f a with
 |ok d=>rw[e]at q;showλv i s r=>q v i s (.inl r)
 |ex x=>rw[e]at q;show q
 |bad=>rw[e]at q;show q⟩
def RC.seq{O:a9->Prop}(h:RC X H O (r.bind g) Q):
  RC X H O r λv b=>∃d,r=.ok d/\Same H b/\Rep X.K b O v d/\RC X b O (g d) Q:=by
 cases r with
 |ok d=>
  intro v b f k;show{d,rfl,f,k,?_};have a:RC X H O (g d) Q:=h;cases e:g d with
  |ok m=>rw[e]at a;showλw i j l=>a w i (f.trans j) l
  |ex x=>rw[e]at a;showλi j=>a i (f.trans j)
  |bad=>rw[e]at a;show a
 |ex x=>show h
 |bad=>show h
def XH.seq{O:a9->Prop}(h:RC X H O (r.bind g) Q):
  XH X H O r λv b=>∃d,r=.ok d/\Same H b/\y8 X.K b O v d/\RC X b O (g d) Q:=by
 cases r with
 |ok d=>
  intro v b f k;show{d,rfl,f,k,?_};have a:RC X H O (g d) Q:=h;cases e:g d with
  |ok m=>rw[e]at a;showλw i j l=>a w i (f.trans j) l
  |ex x=>rw[e]at a;showλi j=>a i (f.trans j)
  |bad=>rw[e]at a;show a
 |ex x=>show h
 |bad=>show h
def RC.grow{O:a9->Prop}(h:RC X H O r Q)(e:Same H f):RC X f O r Q:=by
 cases r with
 |ok d=>showλw a b g=>h w a (e.trans b) g
 |ex x=>showλa b=>h a (e.trans b)
 |bad=>show h
end
section
variable [Tabs]
section
variable{X:Cx}
def y8.same(e:Same H H')(r:y8 X.K H O v d):y8 X.K H' O v d:=by
 rcases r with r|⟨a,b,f,g,h,i,j⟩
 .show .inl (r.same e)
 show .inr {a,b,f,g,h,e.seq i,j.same e}
def y8.of{K:lM}(r:Rep K H O v d):y8 K H O v d:=.inl r
def y8.aa5{K:lM}{ds:List D}(r:y8 K H O v (.lst ds)):∃a vs,v=.ref a/\K4 K H a vs/\Reps K H O vs ds:=by
 rcases r with r|⟨a,vs,g,d,b,e,f⟩
 .cases r with|lst h n r=>show{_,_,rfl,h,r}
 injection b with b;subst b;show{a,vs,d,e,f}
def y8.ad8{K:lM}{N:List (D×D)}(r:y8 K H O v (.dct N)):∃a o es,v=.ref a/\H a=some (.ext λh=>h.get? a=some o)/\tE a o es/\RepsD K H O es N/\(N.map (·.1)).Nodup:=by
 rcases r with r|⟨a,e,es,f,b,g,i⟩
 .cases r with|dct h x n d r=>show{_,_,_,rfl,h,x,r,d}
 cases b
def y8.tupI{K:lM}{ds:List D}(r:y8 K H O v (.tup ds)):∃a vs,v=.ref a/\S5 K H a vs/\Reps K H O vs ds:=by
 rcases r with r|⟨a,vs,d,e,b,f,g⟩
 .cases r with|tup h r=>show{_,_,rfl,h,r}
 cases b
def y8.aa6{K:lM}{i:Int}(r:y8 K H O v (.int i)):v=.int i:=by
 rcases r with r|⟨a,d,e,f,b,g,h⟩
 .cases r;rfl
 cases b
def y8.blI{K:lM}{i:Bool}(r:y8 K H O v (.bl i)):v=.bl i:=by
 rcases r with r|⟨a,d,e,f,b,g,h⟩
 .cases r;rfl
 cases b
def y8.ac0{K:lM}(r:y8 K H O v .non):v=.non:=by
 rcases r with r|⟨a,d,e,f,b,g,h⟩
 .cases r;rfl
 cases b
def y8.ac2{K:lM}{i:Str}(r:y8 K H O v (.str i)):v=.str i:=by
 rcases r with r|⟨a,d,e,f,b,g,h⟩
 .cases r;rfl
 cases b
end
def M1(i:Nat)(ρ:Ev):R D:=match ρ[i]? with
 |some (.v d)=>.ok d
 |_=>.bad
def iD(i:Nat)(ρ:Ev):R D:=match ρ[i]? with
 |some (.v d)=>.ok d
 |some (.o Y)=>.ok (.lst Y)
 |_=>.bad
section
def c8(i:Nat)(a:X.N[i]?=some x<|>1)(b:zS X.env.scope x<|>5)(f:(x==ma)=false<|>2)(g:(x==md)=false<|>2):PD X (.Name x h) (M1 i):=RE (M9 a b f g) λp H Q r s O j E q=>by
 unfold M1 at q;cases e:j[i]? with
 |none=>rw[e]at q;show q.elim
 |some k=>
  rw[e]at q;cases k with
  |no=>show q.elim
  |x C=>show q.elim
  |c m t=>show q.elim
  |d N=>show q.elim
  |o Y=>show q.elim
  |v d=>let{v,l,n}:=E.val i d e;show{v,l,q v H (Same.refl H) n}
def f7(i:Nat)(g:X.N[i]?=some x<|>1)(h:zS X.env.scope x<|>5)(j:(x==ma)=false<|>2)(k:(x==md)=false<|>2):PB X (.Name x l) (iD i):=RE (M9 g h j k) λu H Q w y O n E q=>by
 unfold iD at q;cases e:n[i]? with
 |none=>rw[e]at q;show q.elim
 |some p=>
  rw[e]at q;cases p with
  |no=>show q.elim
  |x C=>show q.elim
  |c m z=>show q.elim
  |d N=>show q.elim
  |o Y=>let{a,r,b,f,A,s,t}:=E.own i Y e;show{_,b,q _ H (Same.refl H) (.inr {a,r,Y,rfl,rfl,K4.of s,t})}
  |v d=>let{v,b,f}:=E.val i d e;show{v,b,q v H (Same.refl H) (.inl f)}
def XS(d:D)(_:Ev):R D:=.ok d
def yN(h:PE X e (tC v))(r:∀H O,Rep X.K H O v d):PD X e (XS d):=RE h λa H Q b f O g E q=>q v H (Same.refl H) (r H O)
def u0{j a}:PD X (.Constant (.int i) j a) (XS (.int i)):=yN a4i λ_ _=>.int
def Y5{j a}:PD X (.Constant (.bool i) j a) (XS (.bl i)):=yN a5d λ_ _=>.bl
def iS{j a}:PD X (.Constant .none j a) (XS .non):=yN a3f λ_ _=>.non
def jH(X:Cx)(f:au->au->Sem au)(g:D->D->R D):Prop:=
 ∀(H:Hp) (O:a9->Prop) (x y:V) (a b:D) (Q:VK),(∀p,H p=none->¬O p)->y8 X.K H O x a->y8 X.K H O y b->RC X H O (g a b) Q->∃r,lC X f r/\r x y H Q
def a8z(X:Cx)(O:a9->Prop)(g:D->D->R D)(Q:VK):V->V->Hp->Prop:=λx y H=>∃a b,(∀p,H p=none->¬O p)/\y8 X.K H O x a/\y8 X.K H O y b/\RC X H O (g a b) Q
def pT{f O:a9->Prop}(E:EnvOk X.K k f H O l ρ)(q:RC X H O ((m ρ).bind λx=>(n ρ).bind λy=>g x y) Q):
  tDB X m l H λx h=>tDB X n l h λy i=>a8z X O g Q x y i:=by
 show{k,f,O,ρ,E,?_};have a:=XH.seq q;revert a;cases I:m ρ with
 |ok t=>
  intro a x h o u;let{d,e,_,r,v}:=a x h o u;cases e;have s:=E.grow o;show{k,f,O,ρ,s,?_};have b:=XH.seq v;revert b;cases J:n ρ with
  |ok w=>intro b y i j z;let{L,e,_,A,B}:=b y i j z;cases e;show{t,w,λp C=>(s.grow j).fresh C,r.same j,A,B}
  |ex x=>intro b;show b
  |bad=>intro b;show b
 |ex x=>intro a;show a
 |bad=>intro a;show a
def jB(f:jH X (ek op) g)(i:PB X a j)(k:PB X b l):PD X (.BinOp a op b m) (λρ=>(j ρ).bind λx=>(l ρ).bind λy=>g x y):=by show rM λd s n H Q I T U O ρ E q=>(wpAny_BinOp<|UO i k I (pT E q) λv u o x y e p t w h=>?_);let{z,A,B,C,J,q}:=h;let{r,L,N}:=f e O x y z A Q B C J q;show L d o n e x y v u Q p t w N
def iR(f:jH X (dC op) g)(i:PB X a j)(k:PB X b l)(m:i3 op b=false:=by first|show SU _|with_unfolding_all rfl):
  PD X (.Compare a [op] [b] n) (λρ=>(j ρ).bind λx=>(l ρ).bind λy=>g x y):=by
 show rM λd s o H Q I U Y O ρ E q=>(wpAny_Compare1 (UO i k I (pT E q) λv u p x y e t w z h=>?_) m);let{A,B,C,J,L,q}:=h;let{r,N,T}:=f e O x y A B Q C J L q;show N d p o e x y v u Q t w z T
def OP:D->R Bool
 |.bl b=>.ok b
 |_=>.bad
def pI{O:a9->Prop}{Q:Bool->Hp->Prop}(h:vU X H (r.bind OP) Q):RC X H O r λv a=>∃c,v=.bl c/\Q c a:=by
 cases r with
 |ok d=>
  cases d with
  |bl b=>intro v a e f;cases f;show{b,rfl,h a e}
  |_=>show(h).elim
 |ex x=>show h
 |bad=>show h
def j0(i:jH X (dC op) g)(j:PB X a l)(m:PB X b n)(o:i3 op b=false:=by first|show SU _|with_unfolding_all rfl):
  DM X (.Compare a [op] [b] p) (λρ=>((l ρ).bind λx=>(n ρ).bind λy=>g x y).bind OP):=by
 show rM λd s t H Q I H9 O0 O ρ E q=>?_;have w:=pI (O:=O) q;show wpAny_isTrue_Compare1 (UO j m I (pT E w) λv u A x y f B C J h=>?_) o;let{L,N,T,U,Y,q}:=h;let{r,hr,hq}:=i f O x y L N _ T U Y q;show D3 (hr d A t f x y v u _ B C J hq) λc s3 z9=>?_;let{z,H3,I3,r3,k,e,q3}:=z9;subst e;cases r3;show aBA {H3,I3,q3}
def Q4(h:PD X e f)(a:(∀whole,isTrue e X.env whole=(do let v<-whole;standAt e.pos;h9 [v] (truthy v)))<|>6):DM X e (λρ=>(f ρ).bind OP):=by show ptI (a2x h a) λg H Q b d O ρ E q=>{b,d,O,ρ,E,pI q}
def vU.seq{Q:Bool->Hp->Prop}(h:vU X H (r.bind g) Q):vU X H r λb f=>r=.ok b/\Same H f/\vU X f (g b) Q:=by
 cases r with
 |ok d=>
  intro f i;show{rfl,i,?_};have a:vU X H (g d) Q:=h;cases e:g d with
  |ok l=>rw[e]at a;showλj k=>a j (i.trans k)
  |ex x=>rw[e]at a;showλj k=>a j (i.trans k)
  |bad=>rw[e]at a;show a
 |ex x=>show h
 |bad=>show h
def vU.af9{O:a9->Prop}(h:RC X H O (r.bind g) Q):vU X H r λb a=>r=.ok b/\Same H a/\RC X a O (g b) Q:=by
 cases r with
 |ok d=>intro a e;show{rfl,e,?_};have f:RC X H O (g d) Q:=h;show f.grow e
 |ex x=>show h
 |bad=>show h
def vU.mono{Q e:Bool->Hp->Prop}(h:vU X H r Q)(i:∀b a,Q b a->e b a):vU X H r e:=by
 cases r with
 |ok d=>showλa f=>i _ _ (h a f)
 |ex x=>show h
 |bad=>show h
def RC.mono{O:a9->Prop}(h:RC X H O r Q)(i:∀b a,Q b a->e b a):RC X H O r e:=by
 cases r with
 |ok d=>showλv a f g=>i _ _ (h v a f g)
 |ex x=>show h
 |bad=>show h
def xA(X:Cx)(e:ck)(f:Ev->R Bool):Prop:=PW X e (tDT X f)
def AB(f g:Ev->R Bool):Ev->R Bool:=λa=>(f a).bind λb=>if b=true then g a else .ok false
def orB(f g:Ev->R Bool):Ev->R Bool:=λa=>(f a).bind λb=>if b=true then .ok true else g a
def a4h(f:Ev->R Bool):Ev->R Bool:=λa=>(f a).bind λb=>.ok (!b)
variable{rest:List ck}
def jO(b:DM X a f):xA X (.BoolOp .And [a] d) f:=XV b
def bN(b:DM X a f):xA X (.BoolOp .Or [a] d) f:=a0p b
def UZ(h:PW X e t)(i:∀a H Q,t' a H Q->t a H Q):PW X e t':=λd b s a H Q I q=>h d b s a H Q I (i a H Q q)
def pK(k:DM X a f)(l:xA X (.BoolOp .And (b::rest) d) g):xA X (.BoolOp .And (a::b::rest) d) (AB f g):=
 UZ (a0l k l) λo H Q ⟨e,h,O,i,E,q⟩=>⟨e,h,O,i,E,vU.mono (vU.seq q)<|by
  rintro b m ⟨_,n,j⟩;cases b with
  |true=>rw[km rfl];show{e,h,O,i,E.grow n,j}
  |false=>rw[kn aBt];show j m (Same.refl _)⟩
def S7(k:DM X a f)(l:xA X (.BoolOp .Or (b::rest) d) g):xA X (.BoolOp .Or (a::b::rest) d) (orB f g):=
 UZ (a5m k l) λo H Q ⟨e,h,O,i,E,q⟩=>⟨e,h,O,i,E,vU.mono (vU.seq q)<|by
  rintro b m ⟨_,n,j⟩;cases b with
  |false=>rw[kn aBt];show{e,h,O,i,E.grow n,j}
  |true=>rw[km rfl];show j m (Same.refl _)⟩
def xA.pt(h:xA X e f):DM X e f:=PW.pt h
def Z2(d:DM X a f):DM X (.UnaryOp .Not a e) (a4h f):=
 ptI (a1l d) λl H Q g h O i E q=>{g,h,O,i,E,vU.mono (vU.seq q)<|by rintro b j ⟨_,m,k⟩;show k j (Same.refl _)}
def a1d(f:Ev->R D)(g:Ev->R D):Ev->R D:=λa=>((f a).bind OP).bind λb=>if b=true then g a else .ok (.bl false)
def a9w(f:Ev->R D):Ev->R D:=λa=>((f a).bind OP).bind λb=>.ok (.bl (!b))
def RB{op}{f:Ev->R D}(h:PD X a f):PD X (.BoolOp op [a] b) f:=a1b h
def GN{f g:Ev->R D}(l:PD X a f)(m:PD X (.BoolOp .And (b::rest) d) g):PD X (.BoolOp .And (a::b::rest) d) (a1d f g):=
 RE (a1j l m) λp H Q h i O j E q=>⟨h,i,O,j,E,RC.mono (pI<|vU.af9 q) λv n ⟨c,e,_,o,k⟩=>⟨c,e,by
  cases c with
  |true=>rw[km rfl];show{h,i,O,j,E.grow o,k}
  |false=>rw[kn aBt];show k _ n (Same.refl _) .bl⟩⟩
def a0j{f:Ev->R D}(b:PD X a f):PD X (.UnaryOp .Not a d) (a9w f):=
 RE (a3y b) λl H Q g h O i E q=>{g,h,O,i,E,RC.mono (pI<|vU.af9 q)<|by rintro v j ⟨c,e,_,m,k⟩;show{c,e,k _ j (Same.refl _) .bl}}
def a7g:D->R D
 |.int i=>.ok (.int (-i))
 |_=>.bad
def rO{f:Ev->R D}(e:PD X a f):PD X (.UnaryOp .USub a g) (λρ=>(f ρ).bind a7g):=
 RE (a7v a1i e) λn H Q h j O ρ E q=>⟨h,j,O,ρ,E,by
  show RC.mono (RC.seq q) λv k l=>?_;let{d,_,o,m,b}:=l;cases d with
  |int i=>cases m;show{i,rfl,b _ k (Same.refl _) .int}
  |_=>show(show False from b).elim⟩
def MD.seq{H:Hp}{O:a9->Prop}{r:R (List D)}{g:List D->R D}{Q:VK}(h:RC X H O (r.bind g) Q):
  MD X H O r λv a=>∃d,r=.ok d/\Same H a/\Reps X.K a O v d/\RC X a O (g d) Q:=by
 cases r with
 |ok d=>showλv a b e=>{d,rfl,b,e,(h).grow b}
 |ex x=>show h
 |bad=>show h
def MD.mono{O:a9->Prop}{Q e:List V->Hp->Prop}(h:MD X H O r Q)(i:∀b a,Q b a->e b a):MD X H O r e:=by
 cases r with
 |ok d=>showλv a f g=>i _ _ (h v a f g)
 |ex x=>show h
 |bad=>show h
def WR.seq{H:Hp}{O:a9->Prop}{r:R (List D)}{g:List D->R D}{Q:VK}(h:RC X H O (r.bind g) Q):
  WR X H O r λv a=>∃d,r=.ok d/\Same H a/\Paired (y8 X.K a O) v d/\RC X a O (g d) Q:=by
 cases r with
 |ok d=>showλv a b e=>{d,rfl,b,e,(h).grow b}
 |ex x=>show h
 |bad=>show h
def XH.mono{O:a9->Prop}(h:XH X H O r Q)(i:∀b a,Q b a->e b a):XH X H O r e:=by
 cases r with
 |ok d=>showλv a f g=>i _ _ (h v a f g)
 |ex x=>show h
 |bad=>show h
def o8(f:Ev->R D)(g:Ev->R (List D)):Ev->R (List D):=λa=>(f a).bind λd=>(g a).bind λb=>.ok (d::b)
def P9:Ev->R (List D):=λ_=>.ok []
def o9:ES X [] P9:=paI aR λa H Q b d O e E q=>q [] H (Same.refl _) .nil
def i4{f:Ev->R D}{g:Ev->R (List D)}(n:PD X e f)(o:ES X es g)(p:a5 (e::es) X.env=(false,cy e X.env)::a5 es X.env<|>1):ES X (e::es) (o8 f g):=
 paI (J5 n o p) λu H Q l m O a E q=>⟨l,m,O,a,E,by
  unfold o8 at q;cases h:f a with
  |ok d=>
   rw[h]at q;intro v w i r;show{l,m,O,a,E.grow i,?_};cases j:g a with
   |ok y=>rw[j]at q;showλs k b t=>q (v::s) k (i.trans b) (.cons (r.same b) t)
   |ex x=>rw[j]at q;showλk b=>q k (i.trans b)
   |bad=>rw[j]at q;show q
  |ex x=>rw[h]at q;show q
  |bad=>rw[h]at q;show q⟩
def w9:PAB X [] P9:=paI aR λa H Q b d O e E q=>q [] H (Same.refl _) .nil
def t5{f:Ev->R D}{g:Ev->R (List D)}(n:PB X e f)(o:PAB X es g)(p:a5 (e::es) X.env=(false,cy e X.env)::a5 es X.env<|>1):PAB X (e::es) (o8 f g):=
 paI (J5 n o p) λu H Q l m O a E q=>⟨l,m,O,a,E,by
  unfold o8 at q;cases h:f a with
  |ok d=>
   rw[h]at q;intro v w i r;show{l,m,O,a,E.grow i,?_};cases j:g a with
   |ok y=>rw[j]at q;showλs k b t=>q (v::s) k (i.trans b) (.cons (r.same b) t)
   |ex x=>rw[j]at q;showλk b=>q k (i.trans b)
   |bad=>rw[j]at q;show q
  |ex x=>rw[h]at q;show q
  |bad=>rw[h]at q;show q⟩
def uJ(ds:List D):R D:=if ds.length<=sizeLine then .ok (.tup ds)else .bad
def a2i(ds:List D):R D:=if ds.length<=sizeLine then .ok (.lst ds)else .bad
def FX{f:Ev->R (List D)}{e}(h:ES X es f):PD X (.Tuple es e g) (λρ=>(f ρ).bind uJ):=
 RE (a2y h) λl H Q i j O ρ E q=>⟨i,j,O,ρ,E,MD.mono (MD.seq q)<|by
  rintro m n ⟨o,_,r,b,a⟩;unfold uJ at a;split at a
  .rename_i k;show{by rw[b.length];show k,λp d=>a (.ref p) _ (j3 d _) (.tup (S5.of j1) (b.same<|j3 d _))}
  show a.elim⟩
def qK{f:Ev->R (List D)}(h:ES X es f):PD X (.List es e) (λρ=>(f ρ).bind a2i):=
 RE (UU h) λl H Q g i O ρ E q=>⟨g,i,O,ρ,E,MD.mono (MD.seq q)<|by
  rintro m n ⟨o,_,j,d,a⟩;unfold a2i at a;split at a
  .rename_i k;show{by rw[d.length];show k,λp b=>a (.ref p) _ (j3 b _) (.lst (K4.of j1) ((E.grow j).fresh b) (d.same<|j3 b _))}
  show a.elim⟩
def aW(X:Cx)(f:au)(g:List D->R D):Prop:=
 ∀(H:Hp) (O:a9->Prop) (a:List V) (b:List D) (Q:VK),(∀p,H p=none->¬O p)->Paired (y8 X.K H O) a b->RC X H O (g b) Q->∃r,qO X f r/\r a H Q
def eJ{x:Str}{id:String}{p:Pos}{f:Ev->R (List D)}{g:List D->R D}(l:aW X (.builtin id) g)(m:PAB X (e::es) f)(n:Gl X x<|>1)(o:X.mg x=none<|>4)(t:cu x=some (.builtin id)<|>3)(u:x≠ "__name__"<|>2)
  (v:(x==ma)=false<|>2) (w:a5 (e::es) X.env=(false,cy e X.env)::a5 es X.env<|>1) (y:(cv b (a5 es X.env)).any (·.1)=false<|>1):
  PD X (.Call (.Name x p) (e::es) [] b) (λρ=>(f ρ).bind g):=by
 show rM λa s i H Q I z A O ρ E q=>(aAP<|K9 I n o t ?_ u v);show aBu (D3 (m b a s i H _ I {z,A,O,ρ,E,WR.seq q}) λB C ⟨j,k,J,L,d,_,N,r,h⟩=>?_) w y;let{r',T,U}:=l k O j d Q (λp Y=>(E.grow N).fresh Y) r h;show T a C i k j B Q J L U
def fZ{x:Str}{T:String}{p:Pos}{f:Ev->R (List D)}{g:List D->R D}(l:aW X (.type T) g)(m:PAB X (e::es) f)(n:Gl X x<|>1)(o:X.mg x=none<|>4)(t:cu x=some (.type T)<|>3)(u:x≠ "__name__"<|>2)
  (v:(x==ma)=false<|>2) (w:a5 (e::es) X.env=(false,cy e X.env)::a5 es X.env<|>1) (y:(cv b (a5 es X.env)).any (·.1)=false<|>1):
  PD X (.Call (.Name x p) (e::es) [] b) (λρ=>(f ρ).bind g):=by
 show rM λa s i H Q I z A O ρ E q=>(aAP<|K9 I n o t ?_ u v);show aBj (D3 (m b a s i H _ I {z,A,O,ρ,E,WR.seq q}) λB C ⟨j,k,J,L,d,_,N,r,h⟩=>?_) w y;let{r',U,Y}:=l k O j d Q (λp hp=>(E.grow N).fresh hp) r h;show U a C i k j B Q J L Y
end
mutual
def u7:D->D->Bool
 |.non,.non=>true
 |.bl a,.bl b=>a==b
 |.bl a,.int b=>(if a then 1 else 0)==b
 |.int a,.bl b=>a==(if b then 1 else 0)
 |.int a,.int b=>a==b
 |.str a,.str b=>a==b
 |.tup Y,.tup d=>aT Y d
 |.lst Y,.lst d=>aT Y d
 |.dct _,.dct _=>true
 |_,_=>false
def aT:List D->List D->Bool
 |[],[]=>true
 |x::Y,y::a=>u7 x y&&aT Y a
 |_,_=>false
end
mutual
def C6:D->Nat
 |.tup Y=>x4 Y+1
 |.lst Y=>x4 Y+1
 |.dct _=>cq
 |_=>0
def x4:List D->Nat
 |[]=>0
 |x::Y=>max (C6 x) (x4 Y)
end
mutual
theorem N1:∀d:D,u7 d d=true:=by
 intro a;cases a with
 |non=>simp[u7]
 |bl b=>simp[u7]
 |int i=>simp[u7]
 |str x=>simp[u7]
 |tup Y=>rw[u7];show mN Y
 |lst Y=>rw[u7];show mN Y
 |dct=>simp[u7]
theorem mN:∀ds:List D,aT ds ds=true
 |[]=>by simp[aT]
 |x::Y=>by rw[aT,N1 x,mN Y];rfl
end
def oH(Y d:List D)(j:Nat):Bool:=match Y[j]?,d[j]? with
 |some a,some b=>u7 a b
 |_,_=>false
theorem iN:∀(Y a:List D),aT Y a=((aBz (min Y.length a.length)).all (oH Y a)&&(Y.length==a.length))
 |[],[]=>by simp[aT]
 |[],_::_=>by simp[aT]
 |_::_,[]=>by simp[aT]
 |x::Y,y::a=>by
  rw[aT,iN Y a,aAr,aAr,Nat.succ_min_succ,aEv,aGN,List.all_map];have b:oH (x::Y) (y::a) 0=u7 x y:=rfl;have d:(oH (x::Y) (y::a)∘Nat.succ)=oH Y a:=by
   funext j
   simp[oH]
  have e:(Y.length+1==a.length+1)=(Y.length==a.length):=by rw[aEp];simp
  rw[b,d,e,Bool.and_assoc]
theorem pS:∀{Y:List D}{d:D}{j:Nat},Y[j]?=some d->C6 d<=x4 Y:=by
 intro a d b h;cases a with
 |nil=>simp at h
 |cons x Y=>
  cases b with
  |zero=>simp at h;subst h;show Nat.le_max_left _ _
  |succ j=>rw[x4];show aAo (pS (j:=j) (by exists h)) (Nat.le_max_right _ _)
section
def FG{K:lM}{H:Hp}{O:a9->Prop}{a:a9}{d:D}(h:Rep K H O (.ref a) d):(∃vs ds,d=.tup ds/\S5 K H a vs/\Reps K H O vs ds)\/(∃vs ds,d=.lst ds/\K4 K H a vs/\Reps K H O vs ds)\/(∃N,d=.dct N/\∃(o:Obj) (es:List dq),H a=some (.ext λh=>h.get? a=some o)/\tE a o es/\RepsD K H O es N):=by
 cases h with
 |tup h r=>show .inl {_,_,rfl,h,r}
 |lst h n r=>show .inr (.inl {_,_,rfl,h,r})
 |dct h x n b r=>show .inr (.inr {_,rfl,_,_,h,x,r})
def wq(I:Inv X b g H s)(h:S5 X.K H a vs)(h':K4 X.K H a ws):False:=by let{e,_,p,_}:=I.tuple h;let{d,_,f,_}:=I.list h';show k7 rfl (SeqAt.ne_of_list_tuple f.isList p)
def yk{o:Obj}(I:Inv X b f H s)(h':S5 X.K H a vs)(h:H a=some (.ext λh=>h.get? a=some o))(x:o.ExactDict):False:=by let{d,_,{i,g,c,_},_}:=I.tuple h';have e:s.heap.get? _=some _:=(I.hok _ _ h).1;rw[g]at e;cases e;show k7 (c.symm.trans x.1) (by symm)
def a0e{o:Obj}(I:Inv X b f H s)(h':K4 X.K H a vs)(h:H a=some (.ext λh=>h.get? a=some o))(x:o.ExactDict):False:=by let{d,_,p,_}:=I.list h';let{i,g,c,_}:=p.isList;have e:s.heap.get? _=some _:=(I.hok _ _ h).1;rw[g]at e;cases e;show k7 (c.symm.trans x.1) (by symm)
mutual
theorem Rep.inj(I:Inv X j t H s):∀{v:V}{d:D},Rep X.K H O v d->∀{d':D},Rep X.K H u v d'->d=d':=by
 intro _ _ k;cases k with
 |non=>intro _ h;cases h;rfl
 |bl=>intro _ h;cases h;rfl
 |int=>intro _ h;cases h;rfl
 |str=>intro _ h;cases h;rfl
 |tup h r=>
  intro _ f;rcases FG f with⟨_,_,rfl,a,b⟩|⟨_,_,rfl,a,_⟩|⟨_,rfl,_,_,a,x,_⟩
  .have e:=I.ab0 h a;subst e;rw[Reps.inj I r b]
  .show(wq I h a).elim
  show(yk I h a x.2.1).elim
 |lst h _ r=>
  intro _ f;rcases FG f with⟨_,_,rfl,a,_⟩|⟨_,_,rfl,a,b⟩|⟨_,rfl,_,_,a,x,_⟩
  .show(wq I a h).elim
  .have e:=I.ab4 h a;subst e;rw[Reps.inj I r b]
  show(a0e I h a x.2.1).elim
 |dct h x _ _ r=>
  intro _ f;rcases FG f with⟨_,_,rfl,a,_⟩|⟨_,_,rfl,a,_⟩|⟨_,rfl,_,_,a,l,b⟩
  .show(yk I a h x.2.1).elim
  .show(a0e I a h x.2.1).elim
  have m:s.heap.get? _=some _:=(I.hok _ _ h).1;have g:s.heap.get? _=some _:=(I.hok _ _ a).1;rw[m]at g;injection g with g;subst g;let{_,_,w,y,n,o}:=x;let{_,_,p,q,i,l2}:=l;rw[n]at i;injection i with i _;subst i;rw[<-o]at r;rw[<-l2]at b;rw[RepsD.inj I r b]
theorem Reps.inj(I:Inv X a i H s):∀{v:List V}{d:List D},Reps X.K H O v d->∀{d':List D},Reps X.K H j v d'->d=d':=by
 intro _ _ b;cases b with
 |nil=>intro _ h;cases h;rfl
 |cons h t=>
  intro _ e;cases e with
  |cons f g=>rw[Rep.inj I h f,Reps.inj I t g]
theorem RepsD.inj(I:Inv X e p H s):∀{es:List dq}{N:List (D×D)},RepsD X.K H O es N->∀{f:List (D×D)},RepsD X.K H q es f->N=f
 |_,_,.nil=>λh=>by cases h;rfl
 |_,_,.cons i j k l r t=>λm=>by
  cases m with
  |cons g a b d n o=>rw[i]at g;cases g;cases RelV.inj k b;rw[Rep.inj I j a,Rep.inj I l d,RepsD.inj I t o]
end
def pN(A:bt)(s:aL)(a ws:List au)(Y b:List D):Prop:=∀(j:Nat) (u w:au),a[j]?=some u->ws[j]?=some w->SeqAt.EqAt A.in1 s u w (oH Y b j)
def CC(g:s.heap.IsList l d.toArray)(h:s.heap.IsList b ws.toArray)(e1:d.length=Y.length)(e2:ws.length=a.length)(i:A.units<cq)(n:pN A s d ws Y a):SeqAt.RcAt A s (.ref l) (.ref b) (aT Y a)/\SeqAt.RcNeAt A s (.ref l) (.ref b) (!aT Y a):=by
 rw[iN];by_cases e:Y.length=a.length
 .have f:d.toArray.size=ws.toArray.size:=by simp[e1,e2,e]
  have o:min Y.length a.length=d.toArray.size:=by simp[e1,e]
  have k:(Y.length==a.length)=true:=by simp[e]
  have m:∀j (p:j<d.toArray.size) (q:j<ws.toArray.size),SeqAt.EqAt A.in1 s d.toArray[j] ws.toArray[j] (oH Y a j):=λj p q=>n j _ _ (by simp) (by simp);rw[k,Bool.and_true,o];show{SeqAt.RcAt.lists g h f i m,SeqAt.RcNeAt.lists g h f i m}
 have f:(d.toArray.size !=ws.toArray.size)=true:=by simp[e1,e2,e]
 have k:(Y.length==a.length)=false:=by simp[e]
 rw[k,aGG];show{SeqAt.RcAt.lists_lengths g h f i,SeqAt.RcNeAt.lists_lengths g h f i}
def mG(e:IsTup s.heap l a.toArray)(f:IsTup s.heap b ws.toArray)(e1:a.length=Y.length)(e2:ws.length=d.length)(g:A.units<cq)(m:pN A s a ws Y d):SeqAt.RcAt A s (.ref l) (.ref b) (aT Y d)/\SeqAt.RcNeAt A s (.ref l) (.ref b) (!aT Y d):=by
 rw[iN];have n:min Y.length d.length=min a.toArray.size ws.toArray.size:=by simp[e1,e2]
 have o:(Y.length==d.length)=(a.toArray.size==ws.toArray.size):=by simp[e1,e2]
 have h:∀j (i:j<a.toArray.size) (k:j<ws.toArray.size),SeqAt.EqAt A.in1 s a.toArray[j] ws.toArray[j] (oH Y d j):=λj i k=>m j _ _ (by simp[aAk (show j<a.length by exists i)]) (by simp[aAk (show j<ws.length by exists k)]);rw[o,n];show{SeqAt.RcAt.tuples e f g h,SeqAt.RcNeAt.tuples e f g h}
def t0(A:bt):A.in1.units=A.units+1:=rfl
mutual
theorem OZ(I:Inv X L σ H s):∀{x y:V}{q w:D}{v u:au}{A:bt},Rep X.K H O x q->Rep X.K H O' y w->RelV x v->RelV y u->A.units+C6 q<cq->A.units+C6 w<cq->SeqAt.EqAt A s v u (u7 q w):=by
 intro _ _ _ _ v u A N k l d z i;cases N with
 |non=>
  have b:A.units<cq:=by lia
  cases l;cases k with
  |dct=>show k7 i (by rw[C6];lia)
  |non=>cases d;show aEq _
  |bl=>cases d;erw[u7];show SeqAt.EqAt.none_bool _
  |int=>let{t,rfl}:=d;erw[u7];show SeqAt.EqAt.none_int _ _
  |str=>let{t,rfl}:=d;erw[u7];show SeqAt.EqAt.none_str _ _
  |tup h r=>cases d;let{_,_,p,_}:=I.tuple h;erw[u7];show SeqAt.EqAt.none_tuple p b
  |lst h _ r=>cases d;let{_,_,p,_}:=I.list h;erw[u7];show SeqAt.EqAt.none_list p.isList b
 |bl=>
  have b:A.units<cq:=by lia
  cases l;cases k with
  |dct=>show k7 i (by rw[C6];lia)
  |non=>cases d;erw[u7];show SeqAt.EqAt.bool_none _
  |bl=>cases d;erw[u7];show SeqAt.EqAt.bool_bool _ _
  |int=>let{t,rfl}:=d;erw[u7];show SeqAt.EqAt.bool_int _ _ _
  |str=>let{t,rfl}:=d;erw[u7];show SeqAt.EqAt.bool_str _ _ _
  |tup h r=>cases d;let{_,_,p,_}:=I.tuple h;erw[u7];show SeqAt.EqAt.bool_tuple _ p b
  |lst h _ r=>cases d;let{_,_,p,_}:=I.list h;erw[u7];show SeqAt.EqAt.bool_list _ p.isList b
 |int=>
  have b:A.units<cq:=by lia
  let{Q,rfl}:=l;cases k with
  |dct=>show k7 i (by rw[C6];lia)
  |non=>cases d;erw[u7];show SeqAt.EqAt.int_none _ _
  |bl=>cases d;erw[u7];show SeqAt.EqAt.int_bool _ _ _
  |int=>let{t,rfl}:=d;erw[u7];show aFD _ _ _ _
  |str=>let{t,rfl}:=d;erw[u7];show aGL _ _ _ _
  |tup h r=>cases d;let{_,_,p,_}:=I.tuple h;erw[u7];show aGA _ _ p b
  |lst h _ r=>cases d;let{_,_,p,_}:=I.list h;erw[u7];show SeqAt.EqAt.int_list _ _ p.isList b
 |str=>
  have b:A.units<cq:=by lia
  let{Q,rfl}:=l;cases k with
  |dct=>show k7 i (by rw[C6];lia)
  |non=>cases d;erw[u7];show SeqAt.EqAt.str_none _ _
  |bl=>cases d;erw[u7];show SeqAt.EqAt.str_bool _ _ _
  |int=>let{t,rfl}:=d;erw[u7];show aGM _ _ _ _
  |str=>let{t,rfl}:=d;erw[u7];show SeqAt.EqAt.str_str _ _ _ _
  |tup h r=>cases d;let{_,_,p,_}:=I.tuple h;erw[u7];show SeqAt.EqAt.str_tuple _ _ p b
  |lst h _ r=>cases d;let{_,_,p,_}:=I.list h;erw[u7];show SeqAt.EqAt.str_list _ _ p.isList b
 |@tup a T U h r=>
  have b:A.units<cq:=by lia
  cases l;let{B,m,p,_}:=I.tuple h;cases k with
  |dct=>show k7 i (by rw[C6];lia)
  |non=>cases d;erw[u7];show SeqAt.EqAt.tuple_none p b
  |bl=>cases d;erw[u7];show SeqAt.EqAt.tuple_bool _ p b
  |int=>let{t,rfl}:=d;erw[u7];show aGB _ _ p b
  |str=>let{t,rfl}:=d;erw[u7];show SeqAt.EqAt.tuple_str _ _ p b
  |@tup C Y bu f g=>
   cases d;let{n,o,j,_}:=I.tuple f;by_cases e:a=C
   .subst e;have E:=I.ab0 h f;subst E;have J:=Reps.inj I r g;subst J;rw[N1];show aEq _
   erw[u7];show aFF e (mG p j (by rw[<-m.length,r.length]) (by rw[<-o.length,g.length]) b<|kP I r g m o ?_ ?_).1
   .rw[C6]at z;rw[t0];lia
   rw[C6]at i;rw[t0];lia
  |lst f _ g=>cases d;let{_,_,j,_}:=I.list f;erw[u7];show SeqAt.EqAt.tuple_list p j.isList b
 |@lst a T U h nO r=>
  have b:A.units<cq:=by lia
  cases l;let{B,m,p,_}:=I.list h;cases k with
  |dct=>show k7 i (by rw[C6];lia)
  |non=>cases d;erw[u7];show SeqAt.EqAt.list_none p.isList b
  |bl=>cases d;erw[u7];show SeqAt.EqAt.list_bool _ p.isList b
  |int=>let{t,rfl}:=d;erw[u7];show SeqAt.EqAt.list_int _ _ p.isList b
  |str=>let{t,rfl}:=d;erw[u7];show SeqAt.EqAt.list_str _ _ p.isList b
  |tup f g=>cases d;let{_,_,j,_}:=I.tuple f;erw[u7];show SeqAt.EqAt.list_tuple p.isList j b
  |@lst C Y bu f nO' g=>
   cases d;let{n,o,j,_}:=I.list f;by_cases e:a=C
   .subst e;have E:=I.ab4 h f;subst E;have J:=Reps.inj I r g;subst J;rw[N1];show aEq _
   erw[u7];show aFF e (CC p.isList j.isList (by rw[<-m.length,r.length]) (by rw[<-o.length,g.length]) b<|kP I r g m o ?_ ?_).1
   .rw[C6]at z;rw[t0];lia
   rw[C6]at i;rw[t0];lia
 |dct=>show k7 z (by rw[C6];lia)
theorem kP(I:Inv X k z H s):∀{vs ws:List V}{Y d:List D}{e f:List au}{A:bt},Reps X.K H O vs Y->Reps X.K H B ws d->o5 vs e->o5 ws f->A.in1.units+x4 Y<cq->A.in1.units+x4 d<cq->pN A s e f Y d:=by
 intro _ _ _ _ e f A n o l m p q j u w a b;cases n with
 |nil=>cases l;simp at a
 |cons h t=>
  cases o with
  |nil=>cases m;simp at b
  |cons r v=>
   cases l with
   |cons x y=>
    cases m with
    |cons g i=>
     rw[x4]at p q;cases j with
     |zero=>erw[aDo,aGR]at a b;subst a b;show OZ I h r x g (by lia) (by lia)
     |succ j=>erw[aGc]at a b;show kP I (A:=A) t v y i (by lia) (by lia) j u w a b
end
def a6i(I:Inv X N T H s)(n:y8 X.K H O x B)(d:y8 X.K H U y g)(o:RelV x v)(e:RelV y u)(C:A.units+C6 B<cq)(k:A.units+C6 g<cq):
  SeqAt.RcAt A s v u (u7 B g)/\SeqAt.RcNeAt A s v u (!u7 B g):=by
 have b:A.units<cq:=by lia
 cases B with
 |dct=>show k7 C (by rw[C6];lia)
 |non=>
  cases n.ac0;cases o;cases g with
  |dct=>show k7 k (by rw[C6];lia)
  |non=>cases d.ac0;cases e;erw[u7];show{SeqAt.RcAt.none_none,SeqAt.RcNeAt.none_none}
  |bl=>cases d.blI;cases e;erw[u7];show{SeqAt.RcAt.none_bool _,SeqAt.RcNeAt.none_bool _}
  |int=>cases d.aa6;let{t,rfl}:=e;erw[u7];show{SeqAt.RcAt.none_int _ _,SeqAt.RcNeAt.none_int _ _}
  |str=>cases d.ac2;let{t,rfl}:=e;erw[u7];show{SeqAt.RcAt.none_str _ _,SeqAt.RcNeAt.none_str _ _}
  |tup f=>let{a,i,rfl,h,r}:=d.tupI;cases e;let{_,_,p,_}:=I.tuple h;erw[u7];show{SeqAt.RcAt.none_tuple p b,SeqAt.RcNeAt.none_tuple p b}
  |lst f=>let{a,i,rfl,h,r}:=d.aa5;cases e;let{_,_,p,_}:=I.list h;erw[u7];show{SeqAt.RcAt.none_list p.isList b,SeqAt.RcNeAt.none_list p.isList b}
 |bl=>
  cases n.blI;cases o;cases g with
  |dct=>show k7 k (by rw[C6];lia)
  |non=>cases d.ac0;cases e;erw[u7];show{SeqAt.RcAt.bool_none _,SeqAt.RcNeAt.bool_none _}
  |bl=>cases d.blI;cases e;erw[u7];show{SeqAt.RcAt.bool_bool _ _,SeqAt.RcNeAt.bool_bool _ _}
  |int=>cases d.aa6;let{t,rfl}:=e;erw[u7];show{SeqAt.RcAt.bool_int _ _ _,SeqAt.RcNeAt.bool_int _ _ _}
  |str=>cases d.ac2;let{t,rfl}:=e;erw[u7];show{SeqAt.RcAt.bool_str _ _ _,SeqAt.RcNeAt.bool_str _ _ _}
  |tup f=>let{a,i,rfl,h,r}:=d.tupI;cases e;let{_,_,p,_}:=I.tuple h;erw[u7];show{SeqAt.RcAt.bool_tuple _ p b,SeqAt.RcNeAt.bool_tuple _ p b}
  |lst f=>let{a,i,rfl,h,r}:=d.aa5;cases e;let{_,_,p,_}:=I.list h;erw[u7];show{SeqAt.RcAt.bool_list _ p.isList b,SeqAt.RcNeAt.bool_list _ p.isList b}
 |int=>
  cases n.aa6;let{Q,rfl}:=o;cases g with
  |dct=>show k7 k (by rw[C6];lia)
  |non=>cases d.ac0;cases e;erw[u7];show{SeqAt.RcAt.int_none _ _,SeqAt.RcNeAt.int_none _ _}
  |bl=>cases d.blI;cases e;erw[u7];show{SeqAt.RcAt.int_bool _ _ _,SeqAt.RcNeAt.int_bool _ _ _}
  |int=>cases d.aa6;let{t,rfl}:=e;erw[u7];show{SeqAt.RcAt.int_int _ _ _ _,SeqAt.RcNeAt.int_int _ _ _ _}
  |str=>cases d.ac2;let{t,rfl}:=e;erw[u7];show{SeqAt.RcAt.int_str _ _ _ _,SeqAt.RcNeAt.int_str _ _ _ _}
  |tup f=>let{a,i,rfl,h,r}:=d.tupI;cases e;let{_,_,p,_}:=I.tuple h;erw[u7];show{SeqAt.RcAt.int_tuple _ _ p b,SeqAt.RcNeAt.int_tuple _ _ p b}
  |lst f=>let{a,i,rfl,h,r}:=d.aa5;cases e;let{_,_,p,_}:=I.list h;erw[u7];show{SeqAt.RcAt.int_list _ _ p.isList b,SeqAt.RcNeAt.int_list _ _ p.isList b}
 |str=>
  cases n.ac2;let{Q,rfl}:=o;cases g with
  |dct=>show k7 k (by rw[C6];lia)
  |non=>cases d.ac0;cases e;erw[u7];show{SeqAt.RcAt.str_none _ _,SeqAt.RcNeAt.str_none _ _}
  |bl=>cases d.blI;cases e;erw[u7];show{SeqAt.RcAt.str_bool _ _ _,SeqAt.RcNeAt.str_bool _ _ _}
  |int=>cases d.aa6;let{t,rfl}:=e;erw[u7];show{SeqAt.RcAt.str_int _ _ _ _,SeqAt.RcNeAt.str_int _ _ _ _}
  |str=>cases d.ac2;let{t,rfl}:=e;erw[u7];show{SeqAt.RcAt.str_str _ _ _ _,SeqAt.RcNeAt.str_str _ _ _ _}
  |tup f=>let{a,i,rfl,h,r}:=d.tupI;cases e;let{_,_,p,_}:=I.tuple h;erw[u7];show{SeqAt.RcAt.str_tuple _ _ p b,SeqAt.RcNeAt.str_tuple _ _ p b}
  |lst f=>let{a,i,rfl,h,r}:=d.aa5;cases e;let{_,_,p,_}:=I.list h;erw[u7];show{SeqAt.RcAt.str_list _ _ p.isList b,SeqAt.RcNeAt.str_list _ _ p.isList b}
 |tup Y=>
  let{a,i,rfl,h,r}:=n.tupI;cases o;let{E,q,p,_}:=I.tuple h;cases g with
  |dct=>show k7 k (by rw[C6];lia)
  |non=>cases d.ac0;cases e;erw[u7];show{SeqAt.RcAt.tuple_none p b,SeqAt.RcNeAt.tuple_none p b}
  |bl=>cases d.blI;cases e;erw[u7];show{SeqAt.RcAt.tuple_bool _ p b,SeqAt.RcNeAt.tuple_bool _ p b}
  |int=>cases d.aa6;let{t,rfl}:=e;erw[u7];show{SeqAt.RcAt.tuple_int _ _ p b,SeqAt.RcNeAt.tuple_int _ _ p b}
  |str=>cases d.ac2;let{t,rfl}:=e;erw[u7];show{SeqAt.RcAt.tuple_str _ _ p b,SeqAt.RcNeAt.tuple_str _ _ p b}
  |tup f=>
   let{J,L,rfl,l,m}:=d.tupI;cases e;let{w,z,j,_}:=I.tuple l;erw[u7];show mG p j (by rw[<-q.length,r.length]) (by rw[<-z.length,m.length]) b (kP I r m q z ?_ ?_)
   .rw[C6]at C;rw[t0];lia
   rw[C6]at k;rw[t0];lia
  |lst f=>let{J,L,rfl,l,m}:=d.aa5;cases e;let{_,_,j,_}:=I.list l;erw[u7];show{SeqAt.RcAt.tuple_list p j.isList b,SeqAt.RcNeAt.tuple_list p j.isList b}
 |lst Y=>
  let{a,i,rfl,h,r}:=n.aa5;cases o;let{E,q,p,_}:=I.list h;cases g with
  |dct=>show k7 k (by rw[C6];lia)
  |non=>cases d.ac0;cases e;erw[u7];show{SeqAt.RcAt.list_none p.isList b,SeqAt.RcNeAt.list_none p.isList b}
  |bl=>cases d.blI;cases e;erw[u7];show{SeqAt.RcAt.list_bool _ p.isList b,SeqAt.RcNeAt.list_bool _ p.isList b}
  |int=>cases d.aa6;let{t,rfl}:=e;erw[u7];show{SeqAt.RcAt.list_int _ _ p.isList b,SeqAt.RcNeAt.list_int _ _ p.isList b}
  |str=>cases d.ac2;let{t,rfl}:=e;erw[u7];show{SeqAt.RcAt.list_str _ _ p.isList b,SeqAt.RcNeAt.list_str _ _ p.isList b}
  |tup f=>let{J,L,rfl,l,m}:=d.tupI;cases e;let{_,_,j,_}:=I.tuple l;erw[u7];show{SeqAt.RcAt.list_tuple p.isList j b,SeqAt.RcNeAt.list_tuple p.isList j b}
  |lst f=>
   let{J,L,rfl,l,m}:=d.aa5;cases e;let{w,z,j,_}:=I.list l;erw[u7];show CC p.isList j.isList (by rw[<-q.length,r.length]) (by rw[<-z.length,m.length]) b (kP I r m q z ?_ ?_)
   .rw[C6]at C;rw[t0];lia
   rw[C6]at k;rw[t0];lia
end
def XI(x y:D):R D:=if C6 x<=40/\C6 y<=40 then .ok (.bl (u7 x y))else .bad
def OK(x y:D):R D:=if C6 x<=40/\C6 y<=40 then .ok (.bl (!u7 x y))else .bad
section
def L6(r:X.A.units+64<cq):jH X (dC .Eq) XI:=by
 intro H O x y g h Q t i j q;unfold XI at q;split at q
 .rename_i w;show{λa b d e=>a=x/\b=y/\d=H/\e (.bl (u7 g h)) H,?_,rfl,rfl,rfl,q _ H (Same.refl _) .bl};intro f s z d a b v u e I k l ⟨m,n,o,p⟩;subst m n o;show(a6i I i j k l (by lia) (by lia)).1 _ _ _ _ {.bl _,_,I,rfl,p}
 show q.elim
def Y2(r:X.A.units+64<cq):jH X (dC .NotEq) OK:=by
 intro H O x y g h Q t i j q;unfold OK at q;split at q
 .rename_i w;show{λa b d e=>a=x/\b=y/\d=H/\e (.bl (!u7 g h)) H,?_,rfl,rfl,rfl,q _ H (Same.refl _) .bl};intro f s z d a b v u e I k l ⟨m,n,o,p⟩;subst m n o;show(a6i I i j k l (by lia) (by lia)).2 _ _ _ _ {.bl _,_,I,rfl,p}
 show q.elim
end
def tR:D->D->R D
 |.int a,.int b=>.ok (.int (a+b))
 |.lst a,.lst b=>if a.length+b.length<=sizeLine then .ok (.lst (a++b))else .bad
 |.tup [],.tup b=>.ok (.tup b)
 |.tup (x::a),.tup []=>if(x::a).length<=sizeLine then .ok (.tup (x::a))else .bad
 |.tup (x::a),.tup (y::b)=>if(x::a).length+(y::b).length<=sizeLine then .ok (.tup ((x::a)++(y::b)))else .bad
 |_,_=>.bad
def NP:D->D->R D
 |.int a,.int b=>.ok (.int (a-b))
 |_,_=>.bad
def t7(a b:Int):Prop:=aBd a<=60000000/\aBd b<=60000000
instance(a b:Int):Decidable (t7 a b):=inferInstanceAs (Decidable<|_/\_)
def lH:D->D->R D
 |.int a,.int b=>if t7 a b then .ok (.int (a*b))else .bad
 |_,_=>.bad
def zW(b:Int):Prop:=b≠0/\aBd b<=9000
instance(b:Int):Decidable (zW b):=inferInstanceAs (Decidable<|_/\_)
def T7:D->D->R D
 |.int a,.int b=>if zW b then .ok (.int (a.fdiv b))else .bad
 |_,_=>.bad
def eV:D->D->R D
 |.int a,.int b=>if b≠0 then .ok (.int (a.fmod b))else .bad
 |_,_=>.bad
def FJ:D->D->R D
 |.int a,.int b=>if 0<=b/\b<=1000000/\a.natAbs<2^64 then .ok (.int (a^b.toNat))else .bad
 |_,_=>.bad
def ltR:D->D->R D
 |.int a,.int b=>.ok (.bl (decide (a<b)))
 |_,_=>.bad
def leR:D->D->R D
 |.int a,.int b=>.ok (.bl (decide (a<=b)))
 |_,_=>.bad
def gtR:D->D->R D
 |.int a,.int b=>.ok (.bl (decide (b<a)))
 |_,_=>.bad
def geR:D->D->R D
 |.int a,.int b=>.ok (.bl (decide (b<=a)))
 |_,_=>.bad
def LU(h0:b≠0)(h:aBd b<=n):b.natAbs.log2<n:=by
 unfold aBd at h;split at h
 .rename_i z;show k7 (by exists z) h0
 omega
def VE(h:t7 a b):IntMulOk a b:=mulOk_of_bits (m:=60000000) (n:=60000000) h.1 h.2 (by symm)
section
def jH.aa7{f:au->au->Sem au}{g:D->D->R D}{C:Int->Int->Prop}{w:Int->Int->V}{dw:Int->Int->D}(h:lC X f (rI C w))(k:∀a b d,g a b=.ok d->∃i j,a=.int i/\b=.int j/\C i j/\d=dw i j)
  (l:∀a b e,g a b≠.ex e) (m:∀K H O i j,Rep K H O (w i j) (dw i j)):jH X f g:=by
 intro H O x y a b Q r n o q;cases e:g a b with
 |ok d=>rw[e]at q;let{i,j,rfl,rfl,p,rfl}:=k a b d e;cases n.aa6;cases o.aa6;show{_,h,i,j,rfl,rfl,p,q _ H (Same.refl _) (m _ _ _ _ _)}
 |ex x=>show k7 e (l _ _ _)
 |bad=>rw[e]at q;show q.elim
def lC.c0(h:lC X f (pz w)):lC X f (rI (λ_ _=>True) w):=by rintro a s b H x y v u Q I d e ⟨i,j,g,k,_,q⟩;show h a s b H x y v u Q I d e {i,j,g,k,q}
def UR:jH X (ek .Sub) NP:=jH.aa7 (dw:=λi j=>.int (i-j)) (lC.c0 a1s) (λa b d h=>by cases a<;>cases b<;>erw[NP,R.ok.injEq,reduceCtorEq]at h;show{_,_,rfl,rfl,trivial,h.symm}) (λa b e h=>by cases a<;>cases b<;>erw[NP,reduceCtorEq]at h) λ_ _ _ _ _=>.int
def AO:jH X (dC .Lt) ltR:=jH.aa7 (dw:=λi j=>.bl (decide (i<j))) (lC.c0 a7p) (λa b d h=>by cases a<;>cases b<;>erw[ltR,R.ok.injEq,reduceCtorEq]at h;show{_,_,rfl,rfl,trivial,h.symm}) (λa b e h=>by cases a<;>cases b<;>erw[ltR,reduceCtorEq]at h) λ_ _ _ _ _=>.bl
def a0d:jH X (dC .LtE) leR:=jH.aa7 (dw:=λi j=>.bl (decide (i<=j))) (lC.c0 a8d) (λa b d h=>by cases a<;>cases b<;>erw[leR,R.ok.injEq,reduceCtorEq]at h;show{_,_,rfl,rfl,trivial,h.symm}) (λa b e h=>by cases a<;>cases b<;>erw[leR,reduceCtorEq]at h) λ_ _ _ _ _=>.bl
def iI:jH X (dC .Gt) gtR:=jH.aa7 (dw:=λi j=>.bl (decide (j<i))) (lC.c0 a7e) (λa b d h=>by cases a<;>cases b<;>erw[gtR,R.ok.injEq,reduceCtorEq]at h;show{_,_,rfl,rfl,trivial,h.symm}) (λa b e h=>by cases a<;>cases b<;>erw[gtR,reduceCtorEq]at h) λ_ _ _ _ _=>.bl
def tw:jH X (dC .GtE) geR:=jH.aa7 (dw:=λi j=>.bl (decide (j<=i))) (lC.c0 a4z) (λa b d h=>by cases a<;>cases b<;>erw[geR,R.ok.injEq,reduceCtorEq]at h;show{_,_,rfl,rfl,trivial,h.symm}) (λa b e h=>by cases a<;>cases b<;>erw[geR,reduceCtorEq]at h) λ_ _ _ _ _=>.bl
def XB:lC X (ek .FloorDiv) (rI (λ_ j=>zW j) λi j=>.int (i.fdiv j)):=opI λ_ _ _ _ _ _ _ a q=>floordiv_int a.1 q (.inl (PyProof.noPylong_of_log2<|LU a.1 a.2))
def gq:jH X (ek .FloorDiv) T7:=jH.aa7 (dw:=λi j=>.int (i.fdiv j)) XB (λa b d h=>by
 cases a<;>cases b<;>erw[T7,reduceCtorEq]at h;split at h
 .rename_i f;cases h;show{_,_,rfl,rfl,f,rfl}
 cases h) (λa b e h=>by
 cases a<;>cases b<;>erw[T7,reduceCtorEq]at h;split at h<;>cases h) λ_ _ _ _ _=>.int
def a2n:jH X (ek .Mod) eV:=jH.aa7 (dw:=λi j=>.int (i.fmod j)) lq (λa b d h=>by
 cases a<;>cases b<;>erw[eV,reduceCtorEq]at h;split at h
 .rename_i f;cases h;show{_,_,rfl,rfl,f,rfl}
 cases h) (λa b e h=>by
 cases a<;>cases b<;>erw[eV,reduceCtorEq]at h;split at h<;>cases h) λ_ _ _ _ _=>.int
def a0q:jH X (ek .Pow) FJ:=jH.aa7 (dw:=λi j=>.int (i^j.toNat)) a2b (λa b d h=>by
 cases a<;>cases b<;>erw[FJ,reduceCtorEq]at h;split at h
 .rename_i f;cases h;show{_,_,rfl,rfl,f,rfl}
 cases h) (λa b e h=>by
 cases a<;>cases b<;>erw[FJ,reduceCtorEq]at h;split at h<;>cases h) λ_ _ _ _ _=>.int
def XX:lC X (ek .Mult) (rI t7 λi j=>.int (i*j)):=opI λ_ _ _ _ _ _ _ a q=>mul_int q (VE a)
def a1h:jH X (ek .Mult) lH:=jH.aa7 (dw:=λi j=>.int (i*j)) XX (λa b d h=>by
 cases a<;>cases b<;>erw[lH,reduceCtorEq]at h;split at h
 .rename_i f;cases h;show{_,_,rfl,rfl,f,rfl}
 cases h) (λa b e h=>by
 cases a<;>cases b<;>erw[lH,reduceCtorEq]at h;split at h<;>cases h) λ_ _ _ _ _=>.int
def ZB:lC X (ek .Add) (λx y H Q=>∃l b Y e,x=.ref l/\y=.ref b/\K4 X.K H l Y/\K4 X.K H b e/\Y.length+e.length<=sizeLine/\∀p,H p=none->Q (.ref p) (upd H p (.lst (Y++e)))):=by
 intro g s σ H x y v u Q I A B h;let{l,b,Y,e,rfl,rfl,C,E,J,q}:=h;cases A;cases B;let{a,r,p,_}:=I.list C;let{f,i,L,_}:=I.list E;let{{N,O,j,T},k,m,n,o}:=p.isList;let{{t,U,data2,uo},w,z,n2,d}:=L.isList;simp only at m o z d;subst m o z d;have fu:a.toArray.size+f.toArray.size<=sizeLine:=by rw[aAQ,aAQ,<-r.length,<-i.length];show J
 have ea:a.toArray++f.toArray=(a++f).toArray:=by simp
 show aGq {_,k,rfl} {_,w,rfl} noFill_list_add seq_list_add PySem.F.slot_list_add PySem.F.entry_list_add (PySem.F.args_list_add_2 _ _) (list_addW l b a.toArray f.toArray n n2 O U T uo fu) {k,w,?_};rw[ea];show{.ref _,_,I.ag6 (t':=s.toks) (r.append i) (by rw[aAv];omega),rfl,q _ I.fresh}
def QL:lC X (ek .Add) (λx y H Q=>∃a b e,x=.ref a/\y=.ref b/\S5 X.K H a []/\S5 X.K H b e/\Q (.ref b) H):=by intro f s Y H x y v u Q I p r h;let{t,b,e,rfl,rfl,w,z,q}:=h;cases p;cases r;let{A,B,C,_}:=I.tuple w;let{ws,r2,E,_}:=I.tuple z;cases B;let{{J,L,g,N},i,j,n,k}:=C;let{{l,O,data2,T},m,o,U,d}:=E;simp only at j k o d;subst j k o d;show aGq {_,i,rfl} {_,m,rfl} aGf seq_tuple_add PySem.F.slot_tuple_add PySem.F.entry_tuple_add (PySem.F.args_tuple_add_2 _ _) (tuple_addW0 t b _ _ n U L O N T (by simp)) {i,m,.ref b,H,I,rfl,q}
def lJ:jH X (ek .Add) tR:=by
 intro H O x y v t Q w o r q;cases v with
 |int i=>
  cases t with
  |int j=>cases o.aa6;cases r.aa6;show{_,a4k,i,j,rfl,rfl,q _ H (Same.refl _) .int}
  |_=>show(q).elim
 |lst a=>
  cases t with
  |lst b=>
   erw[tR]at q;split at q
   .rename_i s;let{l,f,rfl,g,d}:=o.aa5;let{k,m,rfl,h,e}:=r.aa5;show{_,ZB,l,k,f,m,rfl,rfl,g,h,by rw[d.length,e.length];show s,λp n=>q _ _ (j3 n _) (.lst (K4.of j1) (w p n) ((d.append e).same (j3 n _)))}
   show q.elim
  |_=>show(q).elim
 |tup a=>
  cases t with
  |tup b=>
   cases a with
   |nil=>let{l,f,rfl,g,d}:=o.tupI;let{k,m,rfl,h,e}:=r.tupI;cases d;show{_,QL,l,k,m,rfl,rfl,g,h,q _ H (Same.refl _) (.tup h e)}
   |cons x a=>
    cases b with
    |nil=>
     let{l,f,rfl,g,d}:=o.tupI;let{k,m,rfl,h,e}:=r.tupI;cases e;have u:f≠[]:=λz=>by subst z;have:=d.length;simp at this
     erw[tR]at q;split at q
     .rename_i s;show{_,JJ,l,k,f,[],rfl,rfl,g,h,u,by rw[d.length];show s,λ_=>q _ H (Same.refl _) (.tup g d),λz=>k7 rfl z}
     show q.elim
    |cons y b=>
     erw[tR]at q;split at q
     .rename_i s;let{l,f,rfl,g,d}:=o.tupI;let{k,m,rfl,h,e}:=r.tupI;have u:f≠[]:=λz=>by subst z;have:=d.length;simp at this
      have A:m≠[]:=λz=>by subst z;have:=e.length;simp at this
      show{_,JJ,l,k,f,m,rfl,rfl,g,h,u,by rw[d.length,e.length];show s,λz=>k7 z A,λ_ p n=>q _ _ (j3 n _) (.tup (S5.of j1) ((d.append e).same (j3 n _)))}
     show q.elim
  |_=>cases a<;>show(q).elim
 |_=>show(q).elim
def V6(x y:D):R D:=match x,y with
 |.lst Y,.int i=>match tY Y i with|some d=>.ok d|none=>.bad
 |.tup Y,.int i=>match tY Y i with|some d=>.ok d|none=>.bad
 |_,_=>.bad
def CH{K:lM}{H:Hp}{O:a9->Prop}{vs:List V}{ds:List D}{i:Int}{d:D}(r:Reps K H O vs ds)(h:tY ds i=some d):∃v,tY vs i=some v/\Rep K H O v d:=by
 unfold tY at h⊢;rw[r.length];cases e:xk ds.length i with
 |none=>nofun
 |some j=>rw[e]at h;show r.get h
def KY(T:PB X a f)(U:PD X b g)(t:oq b:=by showλ_ _=>rfl):PD X (.Subscript a b pos) (λρ=>(f ρ).bind λx=>(g ρ).bind λy=>V6 x y):=by
 show rM λj s z H Q I H9 O0 O ρ E q=>?_;show Subscript_ (UO T U.pb I (pT E q) λv u A x y k B C J h=>?_);let{L,dy,fr,N,r2,q}:=h;cases dy with
 |int i=>
  cases r2.aa6;cases L with
  |lst Y=>
   erw[V6]at q;cases e:tY Y i with
   |none=>rw[e]at q;show q.elim
   |some d=>rw[e]at q;let{p,l,rfl,m,n}:=N.aa5;let{w,o,r}:=CH n e;show ZC a b j A z k _ _ v u Q B C J {p,l,i,w,rfl,rfl,m,o,q w k (Same.refl _) r} (t _ _)
  |tup Y=>
   erw[V6]at q;cases e:tY Y i with
   |none=>rw[e]at q;show q.elim
   |some d=>rw[e]at q;let{p,l,rfl,m,n}:=N.tupI;let{w,o,r}:=CH n e;show a1x a b j A z k _ _ v u Q B C J {p,l,i,w,rfl,rfl,m,o,q w k (Same.refl _) r} (t _ _)
  |_=>show(q).elim
 |_=>cases L<;>show(q).elim
def cutD(Y:List D)(lo a:Option Int):List D:=(Y.drop<|HT.sIx Y.length 0 lo).take (HT.sIx Y.length Y.length a-HT.sIx Y.length 0 lo)
def wQ{K:lM}{H:Hp}{O:a9->Prop}{vs:List V}{ds:List D}{lo a:Option Int}(r:Reps K H O vs ds):Reps K H O (OJ vs lo a) (cutD ds lo a):=by unfold OJ cutD;rw[r.length];show(r.drop _).take _
def PTO(X:Cx)(e:Option ck)(f:Ev->R (Option Int)):Prop:=PO X e λd H Q=>∃g h O b,EnvOk X.K g h H O d b/\match f b with
 |.ok o=>∀a,Same H a->Q o a
 |.ex e=>∀a,Same H a->XW X e a
 |.bad=>False
def toI:D->R (Option Int)
 |.int i=>.ok (some i)
 |_=>.bad
def W8:PTO X none (λ_=>.ok none):=by rintro a s b H Q I ⟨d,e,O,f,E,q⟩;show ak a s b H Q I (q H<|Same.refl _)
def G2(h:PD X e f):PTO X (some e) (λρ=>(f ρ).bind toI):=by rintro a s b H Q I ⟨g,j,O,ρ,E,q⟩;show mw h a s b H Q I ⟨g,j,O,ρ,E,by
 dsimp only at q;cases e:f ρ with
 |ok d=>
  rw[e]at q;cases d with
  |int i=>showλv k l m=>by cases m;show{i,rfl,q k l}
  |_=>show(q).elim
 |ex x=>rw[e]at q;show q
 |bad=>rw[e]at q;show q⟩
def NQ(x:D)(lo a:Option Int):R D:=match x with
 |.lst Y=>.ok (.lst (cutD Y lo a))
 |.tup Y=>if HT.sIx Y.length 0 lo=0/\HT.sIx Y.length Y.length a=Y.length then .bad else .ok (.tup (cutD Y lo a))
 |_=>.bad
def kZ{lo B:Option ck}{C:Pos}{m n:Ev->R (Option Int)}(J:PB X a f)(L:PTO X lo m)(N:PTO X B n):
  PD X (.Subscript a (.Slice lo B none C) T) (λρ=>(f ρ).bind λx=>(m ρ).bind λl=>(n ρ).bind λh=>NQ x l h):=by
 show rM λi s U H Q I o t O ρ E q=>?_;have u:∀x d l h g,y8 X.K g O x d->(∀p,g p=none->¬O p)->RC X g O (NQ d l h) Q->a6t X.K x l h g Q\/a5l X.K x l h g Q:=λx d l h g r fr q=>by
  cases d with
  |lst Y=>let{p,v,rfl,w,k}:=r.aa5;show .inl {p,v,rfl,w,λp b=>q _ _ (j3 b _) (.lst (K4.of j1) (fr p b) ((wQ k).same (j3 b _)))}
  |tup Y=>
   let{p,v,rfl,w,k}:=r.tupI;erw[NQ]at q;split at q
   .show q.elim
   rename_i hn;show .inr {p,v,rfl,w,by rw[k.length];show hn,λp b=>q _ _ (j3 b _) (.tup (S5.of j1) ((wQ k).same (j3 b _)))}
  |_=>show(q).elim
 show QM (nj.or a2v) J L N i s U H Q I {o,t,O,ρ,E,?_};dsimp only at q;cases y:f ρ with
 |ok d=>
  rw[y]at q;intro x H1 s1 r1;show{o,t,O,ρ,E.grow s1,?_};cases z:m ρ with
  |ok l=>
   rw[z]at q;intro H2 s2;show{o,t,O,ρ,(E.grow s1).grow s2,?_};cases A:n ρ with
   |ok h=>rw[A]at q;intro j e;have q':RC X H O (NQ d l h) Q:=q;show u x d l h j ((r1.same s2).same e) (λp b=>(((E.grow s1).grow s2).grow e).fresh b) (q'.grow<|s1.trans<|s2.trans e)
   |ex x=>rw[A]at q;showλj e=>q j (s1.trans<|s2.trans e)
   |bad=>rw[A]at q;show q
  |ex x=>rw[z]at q;showλj e=>q j (s1.trans e)
  |bad=>rw[z]at q;show q
 |ex x=>rw[y]at q;show q
 |bad=>rw[y]at q;show q
def FQ{K:lM}{H:Hp}{O:a9->Prop}{vs:List V}{d:D}(r:Paired (y8 K H O) vs [d]):∃v,vs=[v]/\y8 K H O v d:=by
 cases r with
 |cons a b=>cases b;show{_,rfl,a}
def pr2{K:lM}{H:Hp}{O:a9->Prop}{vs:List V}{d d':D}(r:Paired (y8 K H O) vs [d,d']):∃v a,vs=[v,a]/\y8 K H O v d/\y8 K H O a d':=by
 cases r with
 |cons b f=>let{a,e,g}:=FQ f;subst e;show{_,_,rfl,b,g}
def kU:List D->R D
 |[.lst Y]=>.ok (.int Y.length)
 |[.tup Y]=>.ok (.int Y.length)
 |_=>.bad
def K5:aW X (.builtin "len") kU:=by
 intro H O f e Q g r q;match e,q with
 |[.lst Y],q=>let{v,rfl,z}:=FQ r;let{p,a,rfl,b,d}:=z.aa5;show{_,jR,p,a,rfl,.inl b,q _ H (Same.refl _) (d.length▸.int)}
 |[.tup Y],q=>let{v,rfl,z}:=FQ r;let{p,a,rfl,b,d}:=z.tupI;show{_,jR,p,a,rfl,.inr b,q _ H (Same.refl _) (d.length▸.int)}
def a1f:List D->R D
 |[.int i]=>.ok (.int (if i<0 then-i else i))
 |_=>.bad
def EQ:aW X (.builtin "abs") a1f:=by
 intro H O b a Q d r q;match a,q with
 |[.int i],q=>let{v,rfl,z}:=FQ r;cases z.aa6;show{_,XC,i,rfl,q _ H (Same.refl _) .int}
def a0t:List D->R D
 |[.lst Y]=>.ok (.tup Y)
 |[.tup Y]=>.ok (.tup Y)
 |_=>.bad
def QR:aW X (.type "tuple") a0t:=by
 intro H O g f Q h r q;match f,q with
 |[.lst Y],q=>let{v,rfl,z}:=FQ r;let{p,b,rfl,a,d}:=z.aa5;show{_,iJ,p,b,rfl,.inl {a,λl e=>q _ _ (j3 e _) (.tup (S5.of j1) (d.same<|j3 e _))}}
 |[.tup Y],q=>let{v,rfl,z}:=FQ r;let{p,b,rfl,a,d}:=z.tupI;show{_,iJ,p,b,rfl,.inr {a,q _ _ (Same.refl _) (.tup a d)}}
def a6y:List D->R D
 |[.lst Y]=>.ok (.lst Y)
 |[.tup Y]=>.ok (.lst Y)
 |_=>.bad
def KD:aW X (.type "list") a6y:=by
 intro H O h g Q f r q;match g,q with
 |[.lst Y],q=>let{v,rfl,z}:=FQ r;let{p,b,rfl,d,e}:=z.aa5;show{_,jS,p,b,rfl,.inl d,λl a=>q _ _ (j3 a _) (.lst (K4.of j1) (f l a) (e.same<|j3 a _))}
 |[.tup Y],q=>let{v,rfl,z}:=FQ r;let{p,b,rfl,d,e}:=z.tupI;show{_,jS,p,b,rfl,.inr d,λl a=>q _ _ (j3 a _) (.lst (K4.of j1) (f l a) (e.same<|j3 a _))}
def tyD:D->String
 |.non=> "NoneType"|.bl _=> "bool"|.int _=> "int"|.str _=> "str"|.tup _=> "tuple"|.lst _=> "list"|.dct _=> "dict"
def UT(T:String)(d:D):Bool:=tyD d==T||(T== "int"&&tyD d== "bool")
def wY(T:String):Prop:=∀(K:lM) (d:D),PySem.W.kitOne K (.type (tyD d)) (.type T)=some (UT T d)
def ZH:wY "int":=λK d=>by cases d<;>with_unfolding_all rfl
def RO:wY "bool":=λK d=>by cases d<;>with_unfolding_all rfl
def wS:wY "tuple":=λK d=>by cases d<;>with_unfolding_all rfl
def UM:wY "list":=λK d=>by cases d<;>with_unfolding_all rfl
def ZI{O:a9->Prop}(I:Inv X f l H s)(y:wY T)(r:y8 X.K H O v d)(g:RelV v u)(q:Q (.bl (UT T d)) H):
  ba (bb X.prog X.w) X.A (call (.builtin "isinstance") [u,.type T]) (EP X f l Q) X.xe s:=by
 have e:=y X.K d;have b:∀m,EP X f l Q (.bool (UT T d)) {s with toks:=m}:=λm=>{.bl _,H,I.tok _,rfl,q};cases d with
 |non=>cases r.ac0;cases g;show PySem.W.kia_one PySem.W.kitx_none I.kIn aGS e (λz=>nomatch z) b
 |bl=>cases r.blI;cases g;show PySem.W.kia_one PySem.W.kitx_bool I.kIn aGS e (λz=>nomatch z) b
 |int=>cases r.aa6;let{t,rfl}:=g;show PySem.W.kia_one PySem.W.kitx_int I.kIn aGS e (λz=>nomatch z) b
 |str=>cases r.ac2;let{t,rfl}:=g;show PySem.W.kia_one PySem.W.kitx_str I.kIn aGS e (λz=>nomatch z) b
 |tup Y=>let{a,B,rfl,h,_}:=r.tupI;cases g;let{i,_,p,_}:=I.tuple h;let{o,j,k,_}:=p;show PySem.W.kia_one PySem.W.kitx_tuple I.kIn {o,j,k} e (λz=>nomatch z) b
 |lst Y=>let{a,B,rfl,h,_}:=r.aa5;cases g;let{i,_,p,_}:=I.list h;let{o,n,j,k,_}:=p;show PySem.W.kia_one PySem.W.kitx_list I.kIn {o,j,k} e (λz=>nomatch z) b
 |dct=>let{a,o,C,rfl,h,x,_}:=r.ad8;cases g;show PySem.W.kia_one PySem.W.kitx_dict I.kIn {o,(I.hok _ _ h).1,x.2.1.1} e (λz=>nomatch z) b
def tQ(t:wY T)(y:PB X a f)(z:cu x=some (.type T)<|>3)(A:X.mg "isinstance"=none<|>4)(j:X.mg x=none<|>4)(B:Gl X "isinstance"<|>1)(k:Gl X x<|>1)(C:(x==ma)=false<|>2)(J:x≠ "__name__"<|>2)(n:a5 [a,.Name x pt] X.env=(false,cy a X.env)::a5 [.Name x pt] X.env<|>1)(L:a5 [Expr.Name x pt] X.env=[(false,cy (.Name x pt) X.env)]<|>1)(N:(cv b (a5 [Expr.Name x pt] X.env)).any (·.1)=false<|>1):
  PD X (.Call (.Name "isinstance" p) [a,.Name x pt] [] b) (λρ=>(f ρ).bind λd=>.ok (.bl (UT T d))):=by
 show rM λg s U H Q I Y O0 O ρ E q=>(aAP (K9 (u:=.builtin "isinstance") I B A (by decide+kernel) ?_));have hb:PE X (.Name x pt) (tC<|.ty T):=gz k j z rfl J C;have h:=J5 y (J5 hb aR (by rw[L];rfl)) n b g s U H (λo i=>∃v d,o=[v,.ty T]/\y8 X.K i O v d/\Q (.bl (UT T d)) i) I {Y,O0,O,ρ,E,by show XH.mono (XH.seq q) λv i l=>?_;let{d,_,s1,m,h1}:=l;show{v,d,rfl,m,h1 _ i (Same.refl _) .bl}}
 show aBu (D3 h λus s1 l=>?_) n N;let{o,i,I1,m,v,d,e,r,h}:=l;subst e;let{u,w,rfl,ru,zd}:=vals2 m;cases zd;show ZI I1 t r ru h
end
section
variable{K:lM}
def Kp.lst(k:Kp H O H' d){a:a9}{Y:List V}(n:¬O a)(h:K4 K H a Y)(f:∀o,K.lookup a=some o->¬d a):¬d a/\K4 K H' a Y:=by
 rcases h with(h|⟨o,h⟩)|h
 .show{(k _ _ h n).2,.inl (.inl (k _ _ h n).1)}
 .show{(k _ _ h n).2,.inl (.inr {o,(k _ _ h n).1})}
 let{o,b,m,e,g}:=h;show{f o e,.inr {o,b,m,e,g}}
def Kp.tup(k:Kp H O H' d)(b:∀a,O a->∃o,H a=some o/\Mt o){a:a9}{Y:List V}(h:S5 K H a Y):S5 K H' a Y:=by
 rcases h with(h|⟨o,h⟩)|h
 .show .inl (.inl (k _ _ h λz=>by let{o,q,m}:=b a z;rw[h]at q;cases q;show m).1)
 .show .inl (.inr {o,(k _ _ h λz=>by let{o,q,m}:=b a z;rw[h]at q;cases q;show m).1})
 show .inr h
end
def U6(K:lM)(O:a9->Prop):Prop:=∀a o,K.lookup a=some o->¬O a
def Kp.rep{K:lM}{H H':Hp}{O b:a9->Prop}(k:Kp H O H' b)(e:∀a,O a->∃o,H a=some o/\Mt o)(f:U6 K b){v:V}{d:D}(r:Rep K H O v d):Rep K H' b v d:=
 r.mono (λ_ _ h=>k.tup e h) (λa _ n h=>k.lst n h λo q=>f a o q) λa _ n h=>{(k a _ h n).2,(k a _ h n).1}
def Kp.ab9{K:lM}{H H':Hp}{O b:a9->Prop}(k:Kp H O H' b)(e:∀a,O a->∃o,H a=some o/\Mt o)(f:U6 K b){v:List V}{d:List D}(r:Reps K H O v d):Reps K H' b v d:=
 r.mono (λ_ _ h=>k.tup e h) (λa _ n h=>k.lst n h λo q=>f a o q) λa _ n h=>{(k a _ h n).2,(k a _ h n).1}
inductive Out where
 |nx (ρ:Ev)|rt (d:D)|bk (ρ:Ev)|ct (ρ:Ev)
def RS(X:Cx)(g:Hp)(i:a9->Prop)(H:Hp)(O:a9->Prop)(r:R Out)(D:Ends):Prop:=match r with
 |.ok (.nx h)=>∀f a b,EnvOk X.K g i a b f h->U6 X.K b->Kp H O a b->D.nx f a
 |.ok (.bk h)=>∀f a b,EnvOk X.K g i a b f h->U6 X.K b->Kp H O a b->D.bk f a
 |.ok (.ct h)=>∀f a b,EnvOk X.K g i a b f h->U6 X.K b->Kp H O a b->D.ct f a
 |.ok (.rt d)=>∀v a,Same g a->Rep X.K a i v d->D.rt v a
 |.ex e=>∀a,Same g a->XW X e a
 |.bad=>False
def tS(X:Cx)(a:Hp)(b:a9->Prop)(F:Ev->R Out):TS:=λD e H=>∃O d,EnvOk X.K a b H O e d/\U6 X.K O/\RS X a b H O (F d) D
def nW(X:Cx)(st:cp)(F:Ev->R Out):Prop:=∀a b,PS X st (tS X a b F)
def bV(X:Cx)(st:List cp)(F:Ev->R Out):Prop:=∀a b,uL X st (tS X a b F)
def a1o{X:Cx}{st:cp}{t t':TS}(h:PS X st t)(i:∀D a H,t' D a H->t D a H):PS X st t':=λb s a H D I q=>h b s a H D I (i D a H q)
def jU{X:Cx}{st:List cp}{t t':TS}(h:uL X st t)(i:∀D a H,t' D a H->t D a H):uL X st t':=λb s a H D I q=>h b s a H D I (i D a H q)
def DK{X:Cx}{st:cp}{t:TS}{F:Ev->R Out}{b:Hp}{d:a9->Prop}(h:PS X st t)(i:∀D a H O ρ,EnvOk X.K b d H O a ρ->U6 X.K O->RS X b d H O (F ρ) D->t D a H):PS X st (tS X b d F):=a1o h λD a H ⟨O,ρ,E,f,q⟩=>i D a H O ρ E f q
def a7r{X:Cx}{st:List cp}{t:TS}{F:Ev->R Out}{b:Hp}{d:a9->Prop}(h:uL X st t)(i:∀D a H O ρ,EnvOk X.K b d H O a ρ->U6 X.K O->RS X b d H O (F ρ) D->t D a H):uL X st (tS X b d F):=jU h λD a H ⟨O,ρ,E,f,q⟩=>i D a H O ρ E f q
def RS.grow{X:Cx}{i:Hp}{j:a9->Prop}{H l:Hp}{O m:a9->Prop}{r:R Out}{D:Ends}(h:RS X i j H O r D)(k:Kp H O l m):RS X i j l m r D:=by
 cases r with
 |ok o=>
  cases o with
  |nx n=>showλa b g E f q=>h a b g E f (k.trans q)
  |bk n=>showλa b g E f q=>h a b g E f (k.trans q)
  |ct n=>showλa b g E f q=>h a b g E f (k.trans q)
  |rt d=>show h
 |ex e=>show h
 |bad=>show h
def A3(r:R Out)(F:Ev->R Out):R Out:=match r with
 |.ok (.nx a)=>F a
 |r=>r
section
variable{st:cp}{rest:List cp}
def RS.seq{a:Hp}{b:a9->Prop}{H:Hp}{O:a9->Prop}{r:R Out}{D:Ends}(h:RS X a b H O (A3 r G) D):RS X a b H O r {D with nx:=tS X a b G D}:=by
 cases r with
 |ok o=>
  cases o with
  |nx g=>showλj l i E f k=>{i,g,E,f,(h).grow k}
  |bk g=>show h
  |ct g=>show h
  |rt d=>show h
 |ex e=>show h
 |bad=>show h
def j2:bV X [] (λρ=>.ok (.nx ρ)):=λb d=>a7r dz λD a H O ρ E f q=>q a H O E f (Kp.refl _ _)
def b8(d:nW X st F)(e:bV X rest G):bV X (st::rest) (λρ=>A3 (F ρ) G):=λa b=>a7r (rN (d a b)<|e a b) λD g H O ρ E f q=>{O,ρ,E,f,RS.seq q}
def c5(a:nW X st F):bV X [st] F:=λb d=>qB (a b d)
def d8{e:ck}{f:Ev->R D}(g:PD X e f):nW X (.Return (some e) h) (λρ=>(f ρ).bind λd=>.ok (.rt d)):=λi j=>DK (yG g) λD k H O ρ E l q=>⟨i,j,O,ρ,E,by
 cases a:f ρ with
 |ok d=>rw[a]at q;showλv b s r=>q v b (E.same.trans s) (r.sub E.sub)
 |ex x=>rw[a]at q;showλb s=>q b (E.same.trans s)
 |bad=>rw[a]at q;show q⟩
def i5(i:Nat){x:Str}{e:ck}{f:Ev->R D}{a:Pos}(j:PD X e f)(k:X.N.Nodup)(l:X.N[i]?=some x<|>1)(m:Loc X.env.scope x<|>8)
  (n:eI e (some (.Name x a)) b.line X.env=pure false<|>1) (o:X.fn x=true\/X.env.scope.names.lookup x=some .local<|>7):
  nW X (.Assign [.Name x a] e b) (λρ=>(f ρ).bind λd=>.ok (.nx (ρ.set i (.v d)))):=λp t=>DK (VJ k l m j n o) λD w H O ρ E u q=>⟨p,t,O,ρ,E,by
 cases g:f ρ with
 |ok d=>rw[g]at q;showλv h s r=>q _ h O ((E.grow s).set i r) u (Kp.of s)
 |ex x=>rw[g]at q;showλh s=>q h (E.same.trans s)
 |bad=>rw[g]at q;show q⟩
def m5{c:ck}{a b:List cp}{d:Ev->R Bool}(j:DM X c d)(k:bV X a F)(l:bV X b G):nW X (.If c a b m) (λρ=>(d ρ).bind λt=>if t=true then F ρ else G ρ):=λe f=>DK (a7d j (k e f)<|l e f) λD n H O ρ E h q=>⟨e,f,O,ρ,E,by
 cases g:d ρ with
 |ok t=>
  rw[g]at q;intro i s;cases t with
  |true=>rw[km rfl];show{O,ρ,E.grow s,h,RS.grow q (Kp.of s)}
  |false=>rw[kn aBt];show{O,ρ,E.grow s,h,RS.grow q (Kp.of s)}
 |ex x=>rw[g]at q;showλi s=>q i (E.same.trans s)
 |bad=>rw[g]at q;show q⟩
def xy(K:lM)(J:It)(H:Hp)(O:a9->Prop)(ds:List D):Prop:=∀b e,Kp H O b e->U6 K e->(∀a,O a->∃o,H a=some o/\Mt o)->(∀a,e a->∃o,b a=some o/\Mt o)->∀i:Nat,
 (∀d,ds[i]?=some d->J.go i b/\∀x f,J.yld i b x f->Same b f/\Rep K f e x d)/\(ds[i]?=none->J.stop i b)
def tI(X:Cx)(f:Ev->R (List D)):TI:=λd H R=>∃g h O b,EnvOk X.K g h H O d b/\U6 X.K O/\match f b with
 |.ok i=>∀J a,Same H a->xy X.K J a O i->R J a
 |.ex e=>∀a,Same H a->XW X e a
 |.bad=>False
def XM(X:Cx)(a iter:ck)(f:Ev->R (List D)):Prop:=PI X a iter (tI X f)
def GO(h:PI X d iter t)(i:∀a H R,t' a H R->t a H R):PI X d iter t':=λb s a H R I q=>h b s a H R I (i a H R q)
def pZ:D->R (List D)
 |.lst Y=>.ok Y
 |_=>.bad
def JT:D->R (List D)
 |.tup Y=>.ok Y
 |_=>.bad
def n8(h:PD X iter f):XM X C iter (λρ=>(f ρ).bind pZ):=GO (ZE h) λI H R ⟨m,p,O,ρ,E,J,q⟩=>⟨m,p,O,ρ,E,by
 dsimp only at q;cases e:f ρ with
 |ok d=>
  rw[e]at q;cases d with
  |lst Y=>
   intro v t s r;cases r with
   |lst h n r=>
    rename_i a b;show{a,rfl,{b,h},q (Itl X.K a) t s ?_};intro L N k j u w i;let{Q,g}:=k.lst n h λo q=>j a o q;have y:=k.ab9 u j r;show{λd e=>?_,λe=>{b,g,by rw[r.length];show aCo.mp e}};let{v,l,z}:=y.get e;show{{b,v,g,l},by rintro x T ⟨A,B⟩;subst A;have:=B b g;rw[l]at this;cases this;show{Same.refl _,z}}
  |_=>show(q).elim
 |ex x=>rw[e]at q;show q
 |bad=>rw[e]at q;show q⟩
def YJ(h:PD X iter f):XM X A iter (λρ=>(f ρ).bind JT):=GO (a1w h) λB H R ⟨m,n,O,ρ,E,C,q⟩=>⟨m,n,O,ρ,E,by
 dsimp only at q;cases e:f ρ with
 |ok d=>
  rw[e]at q;cases d with
  |tup Y=>
   intro v o s r;cases r with
   |tup h r=>
    rename_i a b;show{a,rfl,{b,h},q (Itt X.K a) o s ?_};intro I J k p j t i;have g:=k.tup j h;have u:=k.ab9 j p r;show{λd e=>?_,λe=>{b,g,by rw[r.length];show aCo.mp e}};let{v,l,w}:=u.get e;show{{b,v,g,l},by rintro x L ⟨y,z⟩;subst y;have:=z b g;rw[l]at this;cases this;show{Same.refl _,w}}
  |_=>show(q).elim
 |ex x=>rw[e]at q;show q
 |bad=>rw[e]at q;show q⟩
def a2f(lo c:Int)(n:Nat):It:={λi _=>i<n,λi H x a=>a=H/\x=.int (lo+i*c),λi _=>n<=i}
def BG{P:bc}{w:bM}{K:lM}{A:ck}(d:a9)(lo c:Int)(n:Nat):Turn P w K A (a2f lo c n) [d] d (λi h=>IsRangeIter h d (lo+(i:Nat)*c) ((n:Int)-(i:Nat)) c)where
 mem:=by simp
 obj:=λi h st b f=>by nofun
 keep:=λi h l st k=>k d (by simp) _ st
 item:=by intro X B C J m i a s z H E I j st p;let{q,r,L,u,x,y}:=j d (by simp);show(Walks.range (I.ok.hd m) d lo c n).item i s _ _ p st λv l N O g kk=>?_;let{t,rfl}:=O;have Q:Inv X a z H {s with heap:=l,toks:=N}:=I.turned (λb o f e=>kk b o (by nofun) e) q r u x y;show{_,rfl,PC g rfl rfl (by symm) {.int (lo+i*c),H,Q,{t,rfl},{rfl,rfl},g,λb f=>(j b f).1}}
 done:=by intro X B C J m i a s z H E I j st p;let{q,r,L,u,x,y}:=j d (by simp);show wpAny_pyNext_range_end (I.ok.hd m) st (by have:n<=i:=p;lia) λl T=>{rfl,I.turned (t':=s.toks) (λb o f e=>T b o f e) q r u x y}
 self:=λ_ _ _ _ _ st h=>wpAny_pyIter_rangeiter st h
def yL(lo c:Int)(n:Nat):List D:=(aBz n).map λ(k:Nat)=>D.int (lo+(k:Int)*c)
def nR(K:lM)(H:Hp)(O:a9->Prop)(lo c:Int)(n:Nat):xy K (a2f lo c n) H O (yL lo c n):=by
 intro h j k l m b i;unfold yL;rw[aAF];by_cases a:i<n
 .rw[List.getElem?_range a];show{λd e=>?_,λe=>(by cases e)};cases e;show{a,by rintro x o ⟨f,g⟩;subst f g;show{Same.refl _,.int}}
 rw[aCo.mpr (by exists a)];show{λd e=>(by cases e),λ_=>aDZ a}
def jN(a b c:Int):Nat:=if a<b then((b-a-1)/c+1).toNat else 0
def MJ(d:0<c):aCB a b c=(jN a b c:Int):=by
 unfold aCB jN;rw[km (by lia)];split
 .have:0<=(b-a-1)/c:=Int.ediv_nonneg (by lia) (by lia)
  lia
 rfl
def MF(f:0<c)(g:c<2^30)(i:-(2^60)<=a)(d:a<2^60)(j:-(2^60)<=b)(k:b<2^60):Builtin.Range.small a b c=true:=by
 unfold Builtin.Range.small;have e:aCB a b c=if a<b then(b-a-1)/c+1 else 0:=by
  unfold aCB
  nofun
 rw[e];have l:a<b->(b-a-1)/c<=b-a-1:=λh=>Int.ediv_le_self _ (by lia);have m:a<b->0<=(b-a-1)/c:=λh=>Int.ediv_nonneg (by lia) (by lia);erw[Builtin.Range.rangeFitsLong,aAI,Bool.or_eq_true,decide_eq_true_eq,beq_iff_eq,show c>0 by omega,if_true];omega
def tM(a b c:Int):Prop:=0<c/\c<2^30/\-(2^60)<=a/\a<2^60/\-(2^60)<=b/\b<2^60
instance(a b c:Int):Decidable (tM a b c):=inferInstanceAs (Decidable<|_/\_)
def fP:List D->R (List D)
 |[.int b]=>if tM 0 b 1 then .ok (yL 0 1 (jN 0 b 1))else .bad
 |[.int a,.int b]=>if tM a b 1 then .ok (yL a 1 (jN a b 1))else .bad
 |[.int a,.int b,.int c]=>if tM a b c then .ok (yL a c (jN a b c))else .bad
 |_=>.bad
def mE{R:It->Hp->Prop}{E:A5}(I:Inv X d g H s)(h:tM a b c)(q:R (a2f a c (jN a b c)) H):ba (bb X.prog X.w) X.A (pyIter (.ref s.heap.objs.size)) (PIE X d g z R) E {s with heap:=s.heap.push {cls:=.type "range",data:=.fields #[.int a t,.int b u,.int c v]},toks:=tk}:=by
 let{i,j,k,l,m,n}:=h;show wpAny_pyIter_range (IsRange.new ..) (MF i j k l m n) ?_;have f:Inv X d g H {s with heap:=s.heap.push {cls:=.type "range",data:=.fields #[.int a t,.int b u,.int c v]},toks:=tk}:=I.kept λb o e=>aAb _ e;show⟨(s.heap.push {cls:=.type "range",data:=.fields #[.int a t,.int b u,.int c v]}).objs.size,[(s.heap.push {cls:=.type "range",data:=.fields #[.int a t,.int b u,.int c v]}).objs.size],_,_,H,rfl,
  f.kept (t':=tk) λb o e=>aAb _ e,BG _ a c (jN a b c),?_,λp r=>?_,q⟩
 .have x:a+((0:Nat):Int)*c=a:=by simp
  have y:((jN a b c:Nat):Int)-((0:Nat):Int)=aCB a b c:=by rw[MJ i];simp
  rw[x,y];show aAh _ rfl
 have e:p=(s.heap.push {cls:=.type "range",data:=.fields #[.int a t,.int b u,.int c v]}).objs.size:=by exists r
 subst e;show f.af2 (aAi _) (f.hok.fresh<|aAi _)
def WK{R:It->Hp->Prop}{O:a9->Prop}(I:Inv X e i H s)(r:Paired (y8 X.K H O) vs ds)(f:o5 vs j)(h:fP ds=.ok k)(q:∀J,xy X.K J H O k->R J H):ba (bb X.prog X.w) X.A (call (.type "range") j) (λv l=>ba (bb X.prog X.w) X.A (pyIter v) (PIE X e i B R) X.xe l) X.xe s:=by
 match ds,h with
 |[.int b],h=>
  let{v,rfl,z}:=FQ r;cases z.aa6;let{u,rfl,t,rfl}:=vals1 f;erw[fP]at h;split at h
  .rename_i d;cases h;show call_range_1 (mE I d<|q _<|nR _ _ _ _ _ _)
  cases h
 |[.int a,.int b],h=>
  let{v,m,rfl,z,g}:=pr2 r;cases z.aa6;cases g.aa6;let{u,n,rfl,{t,rfl},{o,rfl}}:=vals2 f;erw[fP]at h;split at h
  .rename_i d;cases h;show call_range_2 (mE I d<|q _<|nR _ _ _ _ _ _)
  cases h
 |[.int a,.int b,.int c],h=>
  cases r with
  |cons p r=>
   let{v,m,rfl,z,g}:=pr2 r;cases p.aa6;cases z.aa6;cases g.aa6;cases f with
   |cons x f=>
    let{u,n,rfl,{t,rfl},{o,rfl}}:=vals2 f;let{C,rfl}:=x;erw[fP]at h;split at h
    .rename_i d;cases h;have y:=d;let{E,L,_}:=y;show call_range_3 (by lia) (mE I d<|q _<|nR _ _ _ _ _ _) (.inl (PyProof.noPylong_small (by lia)))
    cases h
def G7{t e:ck}{es:List ck}{p:Pos}{f:Ev->R (List D)}(u:PAB X (e::es) f)(v:Gl X "range"<|>1)(w:X.mg "range"=none<|>4)
  (y:a5 (e::es) X.env=(false,cy e X.env)::a5 es X.env<|>1) (z:(cv i (a5 es X.env)).any (·.1)=false<|>1):
  XM X t (.Call (.Name "range" p) (e::es) [] i) (λρ=>(f ρ).bind fP):=by
 rintro j s A H Q I ⟨B,C,O,ρ,E,fk,q⟩;dsimp only at q;show Call_ (K9 I v w boot_range<|aBj (D3 (u i j s A H (λl g=>∃h k,Same H g/\Paired (y8 X.K g O) l h/\fP h=.ok k/\∀J,xy X.K J g O k->Q J g) I ⟨B,C,O,ρ,E,?_⟩) λus m L=>?_) y z)
 .cases n:f ρ with
  |ok h=>
   rw[n]at q;intro l g m o;rw[R.aa0]at q;cases d:fP h with
   |ok k=>rw[d]at q;show{h,k,m,o,d,λJ N=>q J g m N}
   |ex x=>
    rw[d]at q;match h,d with
    |[.int b],d=>erw[fP]at d;split at d<;>cases d
    |[.int a,.int b],d=>erw[fP]at d;split at d<;>cases d
    |[.int a,.int b,.int c],d=>erw[fP]at d;split at d<;>cases d
   |bad=>rw[d]at q;show q.elim
  |ex x=>rw[n]at q;show q
  |bad=>rw[n]at q;show q
 let{l,g,T,o,h,k,sm,r,U,Y}:=L;show WK T r o U Y
def tG(X:Cx)(G:D->Ev->R Ev):TG:=λv i H Q=>∃e f O g d a,EnvOk X.K e f H O i g/\Rep X.K H O v d/\G d g=.ok a/\∀h b,Same H b->EnvOk X.K e f b O h a->Q h b
def MQ(X:Cx)(a:ck)(G:D->Ev->R Ev):Prop:=PG X a (tG X G)
def a3q(h:PG X d t)(i:∀v a H Q,t' v a H Q->t v a H Q):PG X d t':=λb s a H v u Q I r q=>h b s a H v u Q I r (i v a H Q q)
def j5(i:Nat)(a:X.N.Nodup)(b:X.N[i]?=some x<|>1)(f:Loc X.env.scope x<|>8)(g:X.fn x=true\/X.env.scope.names.lookup x=some .local<|>7):
  MQ X (.Name x h) (λd ρ=>.ok (ρ.set i (.v d))):=a3q (ZF a b f g)<|by
 rintro v k H Q ⟨l,m,O,ρ,d,j,E,r,e,q⟩;cases e;show q _ H (Same.refl _) (E.set i r)
def tGs(X:Cx)(G:List D->Ev->R Ev):TGs:=λi j H Q=>∃d e O f g a,EnvOk X.K d e H O j f/\Reps X.K H O i g/\G g f=.ok a/\∀h b,Same H b->EnvOk X.K d e b O h a->Q h b
def oz(X:Cx)(a:List ck)(G:List D->Ev->R Ev):Prop:=PGs X a (tGs X G)
def JA{d:List ck}{t t':TGs}(h:PGs X d t)(i:∀v a H Q,t' v a H Q->t v a H Q):PGs X d t':=λb s a H v u Q I r q=>h b s a H v u Q I r (i v a H Q q)
def kW:List D->Ev->R Ev
 |[],a=>.ok a
 |_,_=>.bad
def F4(G:D->Ev->R Ev)(b:List D->Ev->R Ev):List D->Ev->R Ev
 |d::e,f=>(G d f).bind λa=>b e a
 |_,_=>.bad
def N3:oz X [] kW:=JA my<|by
 rintro d a H Q ⟨f,g,O,h,i,b,E,r,e,q⟩;cases r with
 |nil=>cases e;show{rfl,q a H (Same.refl _) E}
 |cons _ _=>cases e
def n9{e:ck}{es:List ck}{G:D->Ev->R Ev}{f:List D->Ev->R Ev}(n:MQ X e G)(o:oz X es f)
  (p:(eR (e::es) X.env).map (·.2)=kd e X.env::(eR es X.env).map (·.2)<|>1):oz X (e::es) (F4 G f):=JA (PQ n o p)<|by
 rintro g B H Q ⟨h,i,O,j,k,b,E,r,e,q⟩;cases r with
 |nil=>cases e
 |@cons v d g k r s=>
  erw[F4]at e;cases l:G d j with
  |ok a=>rw[l]at e;show{v,g,rfl,h,i,O,j,d,a,E,r,l,λt C m u=>{h,i,O,a,k,b,u,s.same m,e,λw y z A=>q w y (m.trans z) A}}
  |ex x=>nofun
  |bad=>nofun
def fC(n:Nat)(d:List D->Ev->R Ev):D->Ev->R Ev
 |.tup a,b=>if a.length=n then d a b else .bad
 |.lst a,b=>if a.length=n then d a b else .bad
 |_,_=>.bad
end
section
theorem vX(f:t≠d):∀(n i:Nat) (s:aL) (Q:List au->aL->Prop),s.heap.IsListIter d t i->s.heap.IsList t items->i+n<=items.size->
  (∀h',h'.IsListIter d t (i+n)->Heap.SameBut d s.heap h'->Q ((items.toList.drop i).take n) {s with heap:=h'})->ba (bb prog w) A (draw (.ref d) n) Q E s
 |0,i,s,Q,a,_,_,e=>by show aAc (by exists e s.heap a (aGT ..))
 |n+1,i,s,Q,a,g,l,e=>by
  have m:i<items.size:=by omega
  show aAa (wpAny_pyNext_list_item a g (x:=items[i]) (by simp) λh b j=>(aAa (aAJ (vX f n (i+1) _ _ b (g.extBut j.extBut f) (by omega) λo k p=>aAc ?_))));have q:items.toList.drop i=items[i]::items.toList.drop (i+1):=by simp[aDV,m]
  have:=e o (by grind) (j.trans p);grind
def lO{Q:List au->aL->Prop}(m:A.handled=none)(f:s.heap.IsList t items)(n:∀h',Heap.ExtBut s.heap.objs.size s.heap h'->Q items.toList {s with heap:=h'}):ba (bb prog w) A (unpackItems (.ref t) items.size none) Q E s:=by
 have i:t≠s.heap.objs.size:=by let{o,g,_}:=f;show aAl (aAd g)
 show aAa ?_
 unfold notIterableAtAll;show aAa (aBw f.typeIs slot_list_iter.lookup<|aAc ?_);show aAa (aAJ<|aCI f ?_);have a:(s.heap.push {cls:=.type "list_iterator",data:=.fields #[.ref t,.int 0 0]}).IsList t items:=by let{o,g,r}:=f;show{o,aAb _ g,r}
 show aAa (aAJ (vX i items.size 0 _ _ {_,aAh _ rfl,rfl,rfl} a (by simp) λj d k=>?_));have p:List.take items.size (List.drop 0 items.toList)=items.toList:=by show aBN (by simp)
 rw[p,kn (by simp)];show aAa (aAJ (wpAny_pyNext_list_end m d (a.extBut k.extBut i) (by simp) λq h=>?_));show aAc (n q λb o l e=>h b o l (k.extBut b o l<|aAb _ e))
def jM{d}{Q:Unit->aL->Prop}(e:A.handled=none)(f:s.heap.IsList t items)(g:(eR a env).length=items.size)(b:(eR a env).findIdx? (·.1)=none)(h:∀h',Heap.ExtBut s.heap.objs.size s.heap h'->ba (bb prog w) A (assignInOrder ((eR a env).map (·.2)) items.toList) Q E {s with heap:=h'}):
  ba (bb prog w) A (kd (.Tuple a d i) env (.ref t)) Q E s:=by
 show aAa (aFc ?_);unfold unpack;rw[g,b];show aAa (aAJ<|lO e f h)
end
section
def V4(C:X.calm=true)(h:oz X es Y)(J:(eR es X.env).length=n<|>1)(L:(eR es X.env).findIdx? (·.1)=none<|>1):MQ X (.Tuple es k pos) (fC n Y):=by
 rintro f s l H v u Q I r ⟨N,T,O,U,d,g,E,rd,e,q⟩;cases rd with
 |@tup a m p t i=>
  cases r;erw[fC]at e;split at e
  .rename_i w;let{x,j,y,hz}:=I.tuple t;show assign_Tuple_tuple (I.ok.hd C) y (by simp[J,<-w,<-i.length,j.length]) L λz A=>?_;have B:Inv X f l H {s with heap:=z}:=I.kept (t':=s.toks) λb o e=>A b o (aAl<|aAd e) e;show h f _ l H m _ Q B (by exists j) {N,T,O,U,p,g,E,i,e,q}
  cases e
 |@lst a m p t _ i=>
  cases r;erw[fC]at e;split at e
  .rename_i w;let{x,j,y,hz}:=I.list t;show jM (I.ok.hd C) y.isList (by simp[J,<-w,<-i.length,j.length]) L λz A=>?_;have B:Inv X f l H {s with heap:=z}:=I.kept (t':=s.toks) λb o e=>A b o (aAl<|aAd e) e;show h f _ l H m _ Q B (by exists j) {N,T,O,U,p,g,E,i,e,q}
  cases e
 |_=>cases e
def ZJ(f:Ev->R D)(G:D->Ev->R Ev):Ev->R Out:=λb=>(f b).bind λd=>match G d b with
 |.ok a=>.ok (.nx a)
 |_=>.bad
def JP(n:PD X e f)(o:MQ X a G)(p:ik [a] e h.line X.env=pure false<|>1)(t:ix [a] e X.env=pure none<|>1)(u:(eR [a] X.env).map (·.2)=[kd a X.env]<|>1):nW X (.Assign [a] e h) (ZJ f G):=λk l=>DK (PY n o p t u) λD C H O b E w q=>⟨k,l,O,b,E,by
 unfold ZJ at q;cases i:f b with
 |ok d=>
  rw[i,R.aa0]at q;intro v m s r;cases g:G d b with
  |ok j=>rw[g]at q;show{k,l,O,b,d,j,E.grow s,r,g,λy z A B=>q y z O B w (Kp.of<|s.trans A)}
  |ex x=>rw[g]at q;show(q).elim
  |bad=>rw[g]at q;show aAH q
 |ex x=>rw[i]at q;showλm s=>q m (E.same.trans s)
 |bad=>rw[i]at q;show q⟩
def BU(i j:Nat){e g YN}(o:X.calm=true)(p:X.N.Nodup)(t:ES X [a,b] f)(u:X.N[i]?=some x<|>1)(w:X.N[j]?=some y<|>1)(z:i≠j<|>2)(A:X.env.scope.names.lookup x=some .local<|>1)(B:X.env.scope.names.lookup y=some .local<|>1)(C:ix [.Tuple [.Name x m,.Name y n] e pt] (.Tuple [a,b] g YN) X.env=pure (some [x,y])<|>1)(I:ik [.Tuple [.Name x m,.Name y n] e pt] (.Tuple [a,b] g YN) h.line X.env=pure false<|>1):
  nW X (.Assign [.Tuple [.Name x m,.Name y n] e pt] (.Tuple [a,b] g YN) h) (λρ=>(f ρ).bind λds=>match ds with
   |[d,d']=>.ok (.nx ((ρ.set i (.v d)).set j (.v d')))
   |_=>.bad):=λJ L=>DK (a1u o p u w z A B t C I) λD Y H O ρ E Q q=>⟨J,L,O,ρ,E,by
 cases k:f ρ with
 |ok ds=>
  rw[k,R.aa0]at q;intro vs l s r;cases r with
  |nil=>show(q).elim
  |cons T r=>
   cases r with
   |nil=>show(q).elim
   |cons U r=>
    cases r with
    |nil=>show{_,_,rfl,q _ l O (((E.grow s).set i T).set j U) Q (Kp.of s)}
    |cons _ _=>show(q).elim
 |ex x=>rw[k]at q;showλl s=>q l (E.same.trans s)
 |bad=>rw[k]at q;show q⟩
def P4(G:D->Ev->R Ev)(F:Ev->R Out):List D->Ev->R Out
 |[],b=>.ok (.nx b)
 |d::f,b=>match G d b with
  |.ok e=>match F e with
   |.ok (.nx a)=>P4 G F f a
   |.ok (.ct a)=>P4 G F f a
   |.ok (.bk a)=>.ok (.nx a)
   |r=>r
  |_=>.bad
def B1(hp:PassesOwn (bb X.prog X.w) X.A X.env X.xe)(hc:X.calm=true)(hi:XM X tg iter f)(hg:MQ X tg G)(hb:bV X body F)(hs:(∀x,eQ iter X.env x=pure x)<|>6):nW X (.For tg iter body [] pos) (λρ=>(f ρ).bind λds=>P4 G F ds ρ):=λk l=>DK (a2e hp hc hi hg (hb k l) hs) λD σ H O ρ E fk q=>⟨k,l,O,ρ,E,fk,by
 cases Q:f ρ with
 |ex x=>rw[Q]at q;showλj s=>q j (E.same.trans s)
 |bad=>rw[Q]at q;show q
 |ok ds=>
  rw[Q,R.aa0]at q;intro J H1 T hJ;show{λi m U j=>m=ds.length-i/\i<=ds.length/\∃g h,EnvOk X.K k l j g U h/\U6 X.K g/\Kp H1 O j g/\RS X k l j g (P4 G F (ds.drop i) h) D,{ds.length,by simp,aAS _,O,ρ,E.grow T,fk,Kp.refl _ _,?_},?_}
  .show q.grow (Kp.of T)
  rintro i m U j ⟨rfl,hi,g,h,Y,n,k',a⟩;have z:=hJ j g k' n (E.grow T).trk Y.trk i;by_cases ao:i<ds.length
  .let{go,yl}:=z.1 ds[i] (aAk ao);show .inr {go,λyn v=>∃L b,EnvOk X.K k l v L yn b/\U6 X.K L/\Kp H1 O v L/\RS X k l v L (P4 G F (ds.drop<|i+1) b) D,λyn v p=>{ds.length-(i+1),by omega,rfl,ao,p},λx v y=>?_};let{s2,r2}:=yl x v y;rw[aDV ao,P4]at a;cases N:G ds[i] h with
   |ex x=>rw[N]at a;show(a).elim
   |bad=>rw[N]at a;show(a).elim
   |ok r=>
    rw[N]at a;dsimp only at a;show{k,l,g,h,ds[i],r,Y.grow s2,r2,N,λqm H3 s3 E3=>{g,r,E3,n,?_}};have kk:Kp j g H3 g:=Kp.of (s2.trans s3);cases e3:F r with
    |ex x=>rw[e3]at a;show a
    |bad=>rw[e3]at a;show a
    |ok o=>
     rw[e3]at a;cases o with
     |nx b=>showλt H4 B C I u=>{B,b,C,I,k'.trans (kk.trans u),RS.grow a (kk.trans u)}
     |ct b=>showλt H4 B C I u=>{B,b,C,I,k'.trans (kk.trans u),RS.grow a (kk.trans u)}
     |bk b=>showλt H4 B C I u=>a t H4 B C I (kk.trans u)
     |rt d=>show a
  have e:i=ds.length:=by omega
  subst e;rw[List.drop_length,P4]at a;show .inl {z.2 (by simp),a U j g Y n (Kp.refl _ _)}⟩
def T1(c:Ev->R Bool)(F:Ev->R Out):Nat->Ev->R Out
 |0,_=>.bad
 |n+1,d=>(c d).bind λb=>if b=true then(match F d with
  |.ok (.nx a)=>T1 c F n a
  |.ok (.ct a)=>T1 c F n a
  |.ok (.bk a)=>.ok (.nx a)
  |r=>r)else .ok (.nx d)
def gD(n:Ev->Nat)(Y:PassesOwn (bb X.prog X.w) X.A X.env X.xe)(hc:DM X c y)(hb:bV X body F):nW X (.While c body [] pos) (λρ=>T1 y F (n ρ) ρ):=λi j=>DK (UA Y hc<|hb i j) λD σ H O ρ E fk q=>by
 show{λm I z=>∃f e,EnvOk X.K i j z f I e/\U6 X.K f/\RS X i j z f (T1 y F m e) D,{n ρ,O,ρ,E,fk,q},?_};rintro m I z ⟨f,e,B,l,a⟩;cases m with
 |zero=>show(a).elim
 |succ m=>
  rw[T1]at a;show{i,j,f,e,B,?_};cases J:y e with
  |ex x=>rw[J]at a;showλC k=>a C (B.same.trans k)
  |bad=>rw[J]at a;show a
  |ok b=>
   rw[J,R.aa0]at a;intro C k;cases b with
   |false=>show a I C f (B.grow k) l (Kp.of k)
   |true=>
    show{λU L=>∃N r,EnvOk X.K i j L N U r/\U6 X.K N/\RS X i j L N (T1 y F m r) D,λU L p=>{m,aDt m,p},f,e,B.grow k,l,?_};have kk:Kp z f C f:=Kp.of k;cases Q:F e with
    |ex x=>rw[Q]at a;show a
    |bad=>rw[Q]at a;show a
    |ok o=>
     rw[Q]at a;cases o with
     |nx g=>showλh T s t u v=>{s,g,t,u,RS.grow a (kk.trans v)}
     |ct g=>showλh T s t u v=>{s,g,t,u,RS.grow a (kk.trans v)}
     |bk g=>showλh T s t u v=>a h T s t u (kk.trans v)
     |rt d=>show a
end
def spD(K:lM)(n:Nat)(m:List D->R D):Sp:=λf H Q _=>∃O b d,Reps K H O f b/\b.length=n/\(∀a,O a->∃o,H a=some o/\Mt o)/\Tb H/\U6 K O/\m b=.ok d/\∀v e,Same H e->Rep K e O v d->Q v e
def l9(N:List Str)(ds:List D):Ev:=ds.map Sl.v++aDa (N.length-ds.length) Sl.no
def F7:R Out->R D
 |.ok (.rt d)=>.ok d
 |.ok (.nx _)=>.ok .non
 |.ex e=>.ex e
 |_=>.bad
def fT{K:lM}{H:Hp}{O:a9->Prop}{N:List Str}{vs:List V}{ds:List D}(r:Reps K H O vs ds)(t:∀a,O a->∃o,H a=some o/\Mt o)(tb:Tb H):EnvOk K H O H O (start N vs) (l9 N ds)where
 len:=by simp[L2.start,l9,r.length]
 same:=Same.refl H
 sub:=λ_ h=>h
 trk:=t
 trk0:=λa h=>by let{o,q,_}:=t a h;show{o,q}
 tab:=tb
 slot:=λi g h=>by
  unfold l9 at h;unfold L2.start;by_cases b:i<ds.length
  .rw[aAY (by exists b),aAF]at h;cases e:ds[i]? with
   |none=>rw[e]at h;cases h
   |some d=>rw[e]at h;have f:Sl.v d=g:=Option.some.inj h;subst f;let{v,k,l}:=r.get e;show{v,by rw[aAY (by rw[aAg,r.length];show b),aAF,k];rfl,l}
  rw[aAC (by exists b),aBJ]at h;split at h
  .cases h;trivial
  cases h
 inj:=λi j x y a h _ o=>by
  unfold l9 at h;by_cases b:i<ds.length
  .rw[aAY (by nofun),aAF]at h;cases e:ds[i]? with
   |none=>rw[e]at h;cases h
   |some d=>rw[e]at h;have f:Sl.v d=x:=Option.some.inj h;subst f;show o.elim
  rw[aAC (by nofun),aBJ]at h;split at h
  .cases h;show o.elim
  cases h
section
variable{K:lM}
abbrev QU(P:bc)(w:bM)(K:lM)(mg:dM)(base:cf)(N:List Str)(qual:Str)(sc:gW)(f:a9)(T:au)(A:bt)(a:List Env)(s:aL)(H:Hp)(E:XK):Cx:=(FC uF P w K mg base N qual sc f T A a s H E).nox
def fnD{x qual:Str}{st:cp}{f:a9}{j:dI}{N ps:List Str}{k:Nat}{m:List D->R D}{F:Ev->R Out}(n:Fun K x qual st f j)(S:FnScope N ps (b9 st))
  (p:∀(T:au) (A:bt) (a:List Env) (s:aL) (H:Hp) (E:XK),Room k (A.deeper (envOfC qual (b9 st) s.heap.objs.size f T))->bV (QU P w K mg base N qual (b9 st) f T A a s H E) (p5 st) F)
  (t:∀ds d,ds.length=ps.length->m ds=.ok d->F7 (F (l9 N ds))=.ok d):FnOk P w K mg base uF (k+1) f j ps (spD K ps.length m):=by
 show n.ok S (by rintro u H Q E ⟨O,ds,d,r,g,_⟩;rw[r.length];show g) (λT A a s H u Q E v y=>?_);let{O,ds,d,r,g,z,B,C,e,q}:=y;show{_,p T A a s H E v H O,O,_,fT r z B,C,?_};have h:=t ds d g e;cases i:F (l9 N ds)with
 |ok o=>
  rw[i]at h;cases o with
  |rt I=>have b:R.ok I=R.ok d:=h;injection b with b;subst b;show q
  |nx l=>have b:R.ok D.non=R.ok d:=h;injection b with b;subst b;showλU J Y L _ _=>q .non J L.same .non
  |bk l=>cases h
  |ct l=>cases h
 |ex x=>rw[i]at h;cases h
 |bad=>rw[i]at h;cases h
end
section
def nG(I:Inv X b e H s)(O:a9->Prop)(t:∀a,O a->∃o,H a=some o/\Mt o):U6 X.K O:=λa o d z=>by let{u,h,_}:=t a z;have:=(I.bs a o<|I.ok.mod.kin a o d).2;grind
def bj(F:FnOk X.prog X.w X.K X.mg X.base uF k g o ps (spD X.K n m))(r:Room k X.A)(t:X.mg x=some (.ref g))(u:PySem.W.keepIn X.K (.ref g)=true)(y:Binds X.K o ps [])(B:ES X (e::es) f)(C:∀ρ ds,f ρ=.ok ds->ds.length=n)(J:Gl X x<|>1)(L:(x==ma)=false<|>2)(N:a5 (e::es) X.env=(false,cy e X.env)::a5 es X.env<|>1)(T:(cv i (a5 es X.env)).any (·.1)=false<|>1):
  PD X (.Call (.Name x p) (e::es) [] i) (λρ=>(f ρ).bind m):=by
 show rM λa s U H Q I Y O0 O ρ E q=>(xE F r J t u y .nil QC B L N T a s U H Q I {Y,O0,O,ρ,E,?_});dsimp only at q;cases b:f ρ with
 |ex z=>rw[b]at q;show q
 |bad=>rw[b]at q;show q
 |ok ds=>
  rw[b,R.aa0]at q;intro vs H1 j r1;rw[aCd];have l:=E.grow j;cases h:m ds with
  |ex z=>rw[h]at q;show(q H<|Same.refl _).elim
  |bad=>rw[h]at q;show q.elim
  |ok d=>rw[h]at q;show{O,ds,d,r1,C ρ ds b,l.trk,l.tab,(nG I O E.trk),h,λv H' s2 r2=>q v H' (j.trans s2) r2}
end
def VH(env:Env):List (Str×eY)->List (Str×a9)->List (Str×a9)
 |[],B=>B
 |(n,k)::r,B=>VH env r (if k=.free then(n,(env.cells.lookup n).getD 0)::B else B)
def aP(h:∀y∈d.names,y.2=.free->∃c,env.cells.lookup y.1=some c):closureFor d env=pure (VH env d.names []):=by
 have p:∀(b:List (Str×eY)) (B:List (Str×a9)),(∀y∈b,y.2=.free->∃c,env.cells.lookup y.1=some c)->
   (forIn b B λ(x:Str×eY) (r:List (Str×a9))=>(match x with
    |(f,g)=>if(g==NameKind.free)=true then(do let a<-cellOf env f;pure (aCq ((f,a)::r)))else pure (aCq r):Sem (ForInStep<|List<|Str×a9)))=pure (VH env b B):=by
  intro b;induction b with
  |nil=>intro B _;rfl
  |cons y r m=>
   intro B i;let{n,k}:=y;rw[aDd];by_cases j:k=.free
   .subst j;let{c,o}:=i (n,.free) aBL rfl;have e:cellOf env n=pure c:=by unfold cellOf;rw[o]
    erw[beq_self_eq_true,if_true,e,pure_bind];rw[m _ λz l=>i z (aAf _ l)];simp[VH,o]
   have q:(k==NameKind.free)=false:=by exists j
   erw[q,aAB,if_false,pure_bind];rw[m _ λz l=>i z (aAf _ l)];simp[VH,j]
 change((forIn d.names ([]:List (Str×a9)) λ(x:Str×eY) (r:List (Str×a9))=>(match x with
    |(f,g)=>if(g==NameKind.free)=true then(do let a<-cellOf env f;pure (aCq ((f,a)::r)))else pure (aCq r):Sem (ForInStep<|List<|Str×a9)))>>=pure)=_
 rw[(p d.names [] h)];rfl
theorem AC:∀(names:List (Str×eY)) (B:List (Str×a9)) {x:Str}{c:a9},(∀y∈names,y.2=.free->∃c,env.cells.lookup y.1=some c)->(∀x c,B.lookup x=some c->env.cells.lookup x=some c)->
  (VH env names B).lookup x=some c->env.cells.lookup x=some c
 |[],B,x,c,_,b,h=>b x c h
 |(n,k)::r,B,x,c,f,b,h=>by
  show AC r _ (λy l=>f y (aAf _ l)) (λd g a=>?_) h;by_cases e:k=.free
  .rw[km e]at a;let{c0,i}:=f (n,k) aBL e;by_cases j:d=n
   .subst j;rw[aER]at a;rw[i]at a;rw[i];show a
   rw[aBg,beq_eq_false_iff_ne.mpr j]at a;show b d g a
  rw[kn e]at a;show b d g a
theorem xP:∀(names:List (Str×eY)) (B:List (Str×a9)) {x:Str},((x,NameKind.free)∈names\/∃c,B.lookup x=some c)->∃c,(VH env names B).lookup x=some c
 |[],B,x,h=>by
  rcases h with h|h
  .cases h
  show h
 |(n,k)::r,B,x,h=>by
  show xP r _ ?_;rcases h with h|⟨c,h⟩
  .rcases aAe.mp h with e|h
   .cases e
    nofun
   show .inl h
  right;by_cases a:k=.free
  .rw[km a,aBg];cases(x==n)with
   |true=>show{_,rfl}
   |false=>show{c,h}
  rw[kn a];show{c,h}
theorem kO{env:Env}:∀{names:List (Str×eY)}{x:Str},
  ((names.map λ(n,k)=>if(k==NameKind.free&&env.scope.kind==.function&&env.kindOf n==some .cell)then(n,aCC)else(n,k)).lookup x=some .cell\/
   (names.map λ(n,k)=>if(k==NameKind.free&&env.scope.kind==.function&&env.kindOf n==some .cell)then(n,aCC)else(n,k)).lookup x=some .free)->(x,NameKind.free)∈names\/names.lookup x=some .cell
 |[],_,h=>by rcases h with h|h<;>cases h
 |(n,k)::r,x,h=>by
  have d:=@kO env r x;rw[aAm]at h;dsimp only at h;by_cases b:x=n
  .subst b;by_cases a:(k==NameKind.free&&env.scope.kind==.function&&env.kindOf x==some .cell)=true
   .have e:k=.free:=by rw[aAI,aAI]at a;exists a.1.1
    subst e;show .inl aBL
   rw[kn a,aER]at h;rcases h with h|h
   .right;rw[aER];show h
   have:k=.free:=Option.some.inj h;subst this;show .inl aBL
  have f:(r.map λ(n,k)=>if(k==NameKind.free&&env.scope.kind==.function&&env.kindOf n==some .cell)then(n,aCC)else(n,k)).lookup x=some .cell\/
    (r.map λ(n,k)=>if(k==NameKind.free&&env.scope.kind==.function&&env.kindOf n==some .cell)then(n,aCC)else(n,k)).lookup x=some .free:=by
   by_cases a:(k==NameKind.free&&env.scope.kind==.function&&env.kindOf n==some .cell)=true
   .rw[km a,aBg,beq_eq_false_iff_ne.mpr b]at h;show h
   rw[kn a,aBg,beq_eq_false_iff_ne.mpr b]at h;show h
  rcases d f with h|h
  .show .inl (aAf _ h)
  right;rw[aBg,beq_eq_false_iff_ne.mpr b];show h
theorem rW:∀(names:List (Str×eY)) (h:cf) (B:List (Str×a9)) {x:Str}{c:a9},(ee h.objs.size names B).lookup x=some c->B.lookup x=some c\/((pushCells h names).IsCell c none/\h.objs.size<=c)
 |[],h,B,x,c,e=>.inl e
 |(n,k)::r,h,B,x,c,e=>by
  unfold ee at e;unfold pushCells;split at e
  .rename_i b;rw[km b];rcases rW r (h.push {cls:=.type "cell",data:=.cell none}) ((n,h.objs.size)::B) (x:=x) (c:=c) (by rw[aBb];show e)with a|⟨a,d⟩
   .rw[aBg]at a;cases f:(x==n)with
    |true=>rw[f]at a;have g:h.objs.size=c:=Option.some.inj a;subst g;show .inr {{_,aFl _ _ _ _ (aAh _ rfl),rfl},aAi _}
    |false=>rw[f]at a;show .inl a
   show .inr {a,by rw[aBb]at d;show aCJ d}
  rename_i b;rw[kn b];show rW r h B e
theorem nP:∀(names:List (Str×eY)) (n:Nat) (B:List (Str×a9)) {x:Str}{c:a9},(ee n names B).lookup x=some c->B.lookup x=some c\/n<=c
 |[],n,B,x,c,e=>.inl e
 |(m,k)::r,n,B,x,c,e=>by
  unfold ee at e;split at e
  .rcases nP r (n+1) _ e with a|a
   .rw[aBg]at a;cases b:(x==m)with
    |true=>rw[b]at a;show .inr (aFA (Option.some.inj a))
    |false=>rw[b]at a;show .inl a
   show .inr (aCJ a)
  show nP r n B e
theorem qL:∀(names:List (Str×eY)) (n:Nat) (B:List (Str×a9)) {x:Str}{c:a9},(x,aCC)∈names->(ee n names B).lookup x=some c->n<=c
 |[],n,B,x,c,a,e=>nomatch a
 |(m,k)::r,n,B,x,c,a,e=>by
  unfold ee at e;rcases aAe.mp a with a|a
  .cases a;rcases nP r (n+1) _ e with b|b
   .nofun
   show aCJ b
  split at e
  .show aCJ (qL r (n+1) _ a e)
  show qL r n B a e
theorem rT:∀(names:List (Str×eY)) (n:Nat) (B:List (Str×a9)) {x:Str},(x,aCC)∉names->(ee n names B).lookup x=B.lookup x
 |[],n,B,x,_=>rfl
 |(m,k)::r,n,B,x,a=>by
  unfold ee;split
  .rename_i b;rw[rT r (n+1) _ λz=>a (aAf _ z),aBg];cases d:(x==m)with
   |true=>
    have e:x=m:=by exists d
    have f:k=.cell:=by exists b
    show k7 (by rw[e,f];show aBL) a
   |false=>rfl
  show rT r n B λz=>a (aAf _ z)
theorem lY:∀(names:List (Str×eY)) (n:Nat) (B:List (Str×a9)),(∀x c,B.lookup x=some c->c<n)->(∀x y c,B.lookup x=some c->B.lookup y=some c->x=y)->
  ∀x y c,(ee n names B).lookup x=some c->(ee n names B).lookup y=some c->x=y
 |[],n,B,_,h=>h
 |(m,k)::r,n,B,g,h=>by
  unfold ee;split
  .show lY r (n+1) _ (λx c e=>?_) λx y c b a=>?_
   .rw[aBg]at e;cases d:(x==m)with
    |true=>rw[d]at e;rw[<-Option.some.inj e];show aDt _
    |false=>rw[d]at e;show aBB (g x c e)
   rw[aBg]at b a;cases d:(x==m)with
   |true=>
    rw[d]at b;cases f:(y==m)with
    |true=>rw[show x=m by simpa using d,show y=m by simpa using f]
    |false=>rw[f]at a;rw[<-Option.some.inj b]at a;show k7 (g y _ a) (aBC _)
   |false=>
    rw[d]at b;cases f:(y==m)with
    |true=>rw[f]at a;rw[<-Option.some.inj a]at b;show k7 (g x _ b) (aBC _)
    |false=>rw[f]at a;show h x y c b a
  show lY r n B g h
abbrev dQ(X:Cx)(a:gW)(C:a9):List (Str×a9):=ee (C+1) a.names (VH X.env a.names [])
def MZ{E:A5}{Q:Env->aL->Prop}(f:Q (newEnv a s.heap.objs.size g (ee (s.heap.objs.size+1) a.names h) q none .none (some env) builtinsNs) {s with heap:=pushCells (s.heap.push {cls:=.type "dict",data:=.dict #[]}) a.names}):
  ba M A (newFunctionEnv a g h [] q none .none (some env)) Q E s:=by
 erw[newFunctionEnv,Option.isSome_some,if_true];show aAa (wpAny_alloc (aAa (wpAny_layCells _ (λe b d=>by cases i:b==aCC<;>simp) _ _ _ _ ?_)));rw[show({s with heap:=s.heap.push {cls:=.type "dict",data:=.dict #[]}}:aL).heap.objs.size=s.heap.objs.size+1 from aBb ..];show aAa (aAc<|aAc f)
def LA{R:Result->aL->Prop}(I:Nat->aL->Prop)(turn:∀n s,I n s->ba (bb prog w) A (fh o) (λr f=>match r with
   |none=>R (.ok .next) f
   |some v=>ba (bb prog w) A (letOwnedTupleGo a o v) (λ_ e=>ba (bb prog w) A (kd a env v) (λ_ p=>
    ba (bb prog w) A (forIn g true λc r=>if r=true then do let ok<-isTrue c env (cy c env);pure (aCq ok)else pure (aCq r)) (λok i=>
     if ok=true then ba (bb prog w) A (cy j env) (λx q=>ba (bb prog w) A (call (.builtin "list.append") [B,x]) (λ_ t=>∃m,m<n/\I m t) (λ_ _=>False) q) (λ_ _=>False) i
     else∃m,m<n/\I m i) (λ_ _=>False) p) (λ_ _=>False) e) (λ_ _=>False) f) (λ_ _=>False) s) (n:Nat) (h:I n s):gn (bb prog w) A (.compLoop (.ListComp j [{a,iter,g,0}] k y) 0 o B env) R s:=by
 show codeAny_loop rfl I (λn s z=>?_) n h;show wpAny_noted ?_;rw[compTurn_list];show aAa (aFc<|aAa<|aCH (turn n s z) (λr f d=>?_) λ_ _ b=>b.elim);cases r with
 |none=>show aAc d
 |some v=>
  show aAa (aCH d (λ_ e l=>?_) λ_ _ b=>b.elim);show aAa (aCH l (λ_ p C=>aAa (aCH C (λok i u=>?_) λ_ _ b=>b.elim)) λ_ _ b=>b.elim);cases ok with
  |false=>show aAc {rfl,u}
  |true=>show aAa (aAa<|aCH u (λx q E=>aAa (aCH E (λ_ t H=>aAc (aAc {rfl,H})) λ_ _ b=>b.elim)) λ_ _ b=>b.elim)
def EG(X:Cx)(pins:O6)(s9:aL)(H9:Hp)(b:List Str)(a:gW)(d:List (Str×a9))(C:a9)(e:List a9):Cx where
 prog:=X.prog
 w:=X.w
 K:=X.K
 mg:=X.mg
 base:=X.base
 A:=X.A
 N:=b
 s9:=s9
 H9:=H9
 env:=compEnvC a d C X.env
 outer:=X.stack
 stack:=X.stack
 ex:=e
 fn:=λx=>a.names.lookup x==some .cell
 calm:=X.calm
 pn:=X.pn++pins
 xe:=λ_ _=>False
structure CompSc(X:Cx)(scope:Scope)(own fr:List Str)(js:List Nat):Prop where
 kind:scope.kind=.function
 apart:∀y∈scope.names,y.2=.free->(y.1,aCC)∉scope.names
 names:∀y∈scope.names,y.2=.local->scope.names.lookup y.1=some .local
 free:∀y∈scope.names,y.2=.free->X.env.kindOf y.1=some .cell\/X.env.kindOf y.1=some .free
 len:js.length=fr.length
 at_:∀(i j:Nat) (x:Str),js[i]?=some j->fr[i]?=some x->X.N[j]?=some x/\(x,NameKind.free)∈scope.names
 nd:js.Nodup
 dis:∀y∈scope.names,y.2=.free->scope.names.lookup y.1=some .free
def seen:Sl->Sl
 |.v d=>.v d
 |.d k=>.d k
 |_=>.no
def i6(own:List Str)(a:List Nat)(ρ:Ev):Ev:=aDa own.length Sl.no++a.map λj=>seen (ρ.getD j Sl.no)
def V5(own:List Str)(a:List Nat)(b:St):St:=aDa own.length none++a.map λj=>b.getD j none
def Inv.aa9(I:L2.Inv X b f H s)(S:CompSc X a own g h):∀y∈a.names,y.2=.free->∃c,X.env.cells.lookup y.1=some c:=
 λy d e=>I.ok.has y.1 (S.free y d e)
def W2(h:(i6 own f ρ)[i]?=some sl):sl=.no\/∃j,((∃d,sl=.v d)\/∃k,sl=.d k)/\own.length<=i/\f[i-own.length]?=some j/\ρ[j]?=some sl:=by
 unfold i6 at h;by_cases g:i<own.length
 .rw[aAY (by nofun),aBJ,km g]at h
  nofun
 have l:own.length<=i:=aDZ g;rw[aAC (by nofun),aCs,aAF]at h;cases e:f[i-own.length]? with
 |none=>nofun
 |some j=>
  rw[e]at h;have a:seen (ρ.getD j Sl.no)=sl:=Option.some.inj h;rw[aAp]at a;cases b:ρ[j]? with
  |none=>rw[b]at a;subst a;show .inl rfl
  |some z=>
   rw[b]at a;cases z with
   |v d=>subst a;show .inr {j,.inl {d,rfl},l,rfl,b}
   |d k=>subst a;show .inr {j,.inr {k,rfl},l,rfl,b}
   |_=>subst a;show .inl rfl
def rD{a:St}(d:own.length<=i)(e:b[i-own.length]?=some j)(h:j<a.length):(V5 own b a)[i]?=a[j]?:=by
 unfold V5;rw[aAC (by nofun),aCs,aAF,e]
 nofun
def OF{K:lM}{m H:Hp}{n O:a9->Prop}{f:St}{ρ:Ev}{own:List Str}{g:List Nat}(t:g.Nodup)(E:EnvOk K m n H O f ρ):EnvOk K m n H O (V5 own g f) (i6 own g ρ):=by
 have lt:∀{j k},ρ[j]?=some k->j<f.length:=λh=>by rw[E.len];show(aAw.mp h).1
 show{by simp[V5,i6],E.same,E.sub,E.trk,E.trk0,E.tab,λi k h=>?_,λi w x y a b d o p q r=>?_}
 .rcases W2 h with rfl|⟨j,_,l,e,b⟩
  .trivial
  rw[rD l e (lt b)];show E.slot j k b
 rcases W2 b with rfl|⟨j,_,u,e,b⟩
 .show o.elim
 rcases W2 d with rfl|⟨v,_,l,s,d⟩
 .show p.elim
 rw[rD u e (lt b)]at q;rw[rD l s (lt d)]at r;have:=E.inj j v x y a b d o p q r;subst this;have:=(List.getElem?_inj (aAw.mp e).1 t).mp (e.trans s.symm);grind
def OG(I:L2.Inv X pins N H s)(S:CompSc X a own U Y)(O:∀b∈Q,pG X pins H b)(ao:∀b∈Q,b<s.heap.objs.size)(e8:h₁=pushCells (s.heap.push {cls:=.type "dict",data:=.dict #[]}) a.names):
  L2.Inv (EG X pins s H (own++U) a (dQ X a s.heap.objs.size) s.heap.objs.size Q) [] (V5 own Y N) H {s with heap:=h₁,toks:=tk}:=by
 have g:∀b o,s.heap.get? b=some o->h₁.get? b=some o:=λb o e=>by rw[e8];show aFl _ _ _ _ (aAb _ e)
 have zi:h₁.Ns s.heap.objs.size (λ_=>none):=by rw[e8];show(Heap.Ns.new s.heap<|.type "dict").keeps (aFl _ _)
 have cc:=λx c h=>by have:=rW a.names (s.heap.push {cls:=.type "dict",data:=.dict #[]}) (VH X.env a.names []) (x:=x) (c:=c) (by rw[aBb];show h);rw[aBb,<-e8]at this;show this
 have B:∀x c,(VH X.env a.names []).lookup x=some c->X.env.cells.lookup x=some c:=λx c h=>AC a.names [] (Inv.aa9 I S) (λ_ _ z=>(by cases z)) h;have l:∀b o,X.base.get? b=some o->b∉Q:=λb o e t=>by
  rcases(O b t).2.2.2.1 with z|z
  .show I.ok.noex b o e z
  show k7 (aAn (aAd e)<|aAo I.ok.bsz z) (aBC _)
 have nfs:∀b∈Q,b∉BF X.stack:=λb t z=>by
  rcases aAe.mp (I.ab6 b z)with e|z
  .show(O b t).2.1 e
  show(O b t).2.2.1 z
 have q:∀x c,X.env.cells.lookup x=some c->c<s.heap.objs.size+1:=λx c h=>by let{v,o,L,_}:=I.cell x c h;show aBB (aAd L)
 have has:∀x,((relabel a X.env).names.lookup x=some .cell\/(relabel a X.env).names.lookup x=some .free)->∃c,(dQ X a s.heap.objs.size).lookup x=some c:=λx J=>by
  have:((dQ X a s.heap.objs.size).lookup x).isSome=true:=PySem.W.cellsFrom_some _ _ _ (by
   rcases kO J with h|h
   .let{c,hc}:=xP (env:=X.env) a.names [] (x:=x) (.inl h);grind
   show .inl h)
  show aFW.mp this
 show⟨⟨I.ok.mod,S.kind,I.ok.glob,I.ok.blt,aAi _,lY a.names _ _ (λx c h=>q x c (B x c h)) (λx y c h1 w=>I.ok.inj x y c (B x c h1) (B y c w)),has,λx c hf h=>aCJ (qL a.names _ _ (PySem.mem_of_lookup<|eq_of_beq hf) h),I.ok.hd,I.ok.frames,.inl rfl,
  λb t=>{aAl (ao b t),λx c h=>(cc x c h).elim (λh=>(O b t).2.2.2.2.1 x c (B x c h)) λ⟨_,w⟩ z=>k7 (aAn (ao b t)<|aCJ w) (by grind)},I.bs,aAo I.ok.bsz I.sz,λb o e=>l b o e,nfs,I.stack,I.ad7⟩,rfl,I.bare,Un.kept g,{_,zi,λi x v e1 A C=>?_},λx c h=>?_,I.hok.fresh (aAi _),λx c h=>(cc x c h).elim (λh=>I.freeC x c (B x c h)) λ⟨_,w⟩=>I.hok.fresh (aCJ w),λp hp=>?_,I.hok.kept g,?_⟩
 .
  have hlen:(own++U).length=(V5 own Y N).length:=by simp[V5,S.len]
  unfold V5 at A;by_cases hi:i<own.length
  .rw[aAY (by exists hi),aBJ,km hi]at A;cases A
  have fm:own.length<=i:=aDZ hi;rw[aAC (by exists fm),aCs,aAF]at A;have zb:(own++U)[i]?=some x:=e1;rw[aAC fm]at zb;cases e:Y[i-own.length]? with
  |none=>rw[e]at A;cases A
  |some j=>
   rw[e]at A;have e2':N.getD j none=some v:=Option.some.inj A;let{hN,T}:=S.at_ (i-own.length) j x e zb;have hσ:N[j]?=some (some v):=by grind
   have hk:=S.free (x,.free) T rfl;let{m,hn,hl}:=I.loc;let{u,r,lk}:=hl j x v hN hσ (.inr hk);show{u,r,?_};rcases lk with⟨kl,_⟩|⟨_,c,hc,jh⟩
   .nofun
   right;let{c',ym}:=xP (env:=X.env) a.names [] (x:=x) (.inl T);have:=B x c' ym;rw[hc]at this;cases this;show{?_,c,(rT a.names _ _<|S.apart (x,.free) T rfl).trans ym,?_}
   .rcases C with C|C|C
    .
     exfalso;have:∀f:List (Str×eY),(f.map λ(n,k)=>if(k==NameKind.free&&X.env.scope.kind==.function&&X.env.kindOf n==some .cell)then(n,aCC)else(n,k)).lookup x=some .local->f.lookup x=some .local:=by
      intro f;induction f with
      |nil=>intro h;cases h
      |cons y r ih=>
       let{n,k}:=y;intro h;rw[aAm]at h;dsimp only at h;by_cases J:x=n
       .subst J;by_cases E:(k==NameKind.free&&X.env.scope.kind==.function&&X.env.kindOf x==some .cell)=true
        .nofun
        nofun
       rw[aBg,beq_eq_false_iff_ne.mpr J];by_cases E:(k==NameKind.free&&X.env.scope.kind==.function&&X.env.kindOf n==some .cell)=true
       .rw[km E,aBg,beq_eq_false_iff_ne.mpr J]at h;show ih h
       rw[kn E,aBg,beq_eq_false_iff_ne.mpr J]at h;show ih h
     have w:=this a.names C;rw[S.dis (x,.free) T rfl]at w;cases w
    .show .inl C
    show .inr C
   let{o,L,hd}:=jh;show{o,g c o L,hd}
 .rcases cc x c h with h|⟨h,_⟩
  .let{v,o,L,hd}:=I.cell x c (B x c h);show{v,o,g c o L,hd}
  show{_,h}
 .have hp':p∈X.pn++pins:=by simpa[EG]using hp
  let{e,n,ne,nf,d}:=I.pin p hp';show{g _ _ e,n,aAl (aAd e),λz=>?_,d};rcases aAe.mp (I.ab6 p.1 z)with e'|z'
  .show ne e'
  show nf z'
 simp[V5,EG,S.len]
def x9(G:D->Ev->R Ev)(ft:Ev->R Bool)(fe:Ev->R D)(ρ:Ev):List D->R (List D)
 |[]=>.ok []
 |d::e=>match G d ρ with
  |.ok a=>(ft a).bind λb=>if b=true then(fe a).bind λr=>(x9 G ft fe ρ e).bind λf=>.ok (r::f)else x9 G ft fe ρ e
  |_=>.bad
def jZ(ρ1 ρ:Ev):Prop:=ρ1.length=ρ.length/\∀(i:Nat) (a:Sl),ρ[i]?=some a->a≠.no->ρ1[i]?=some a
def EnvOk.weak{K:lM}{b H:Hp}{d O:a9->Prop}{f:St}{ρ1 ρ:Ev}(E:EnvOk K b d H O f ρ1)(h:jZ ρ1 ρ):EnvOk K b d H O f ρ where
 len:=E.len.trans h.1
 same:=E.same
 sub:=E.sub
 trk:=E.trk
 trk0:=E.trk0
 tab:=E.tab
 slot:=λi g e=>by
  by_cases n:g=.no
  .subst n;trivial
  show E.slot i g (h.2 i _ e n)
 inj:=λi j x y a m o k l=>E.inj i j x y a (h.2 i _ m (by rintro rfl;show k)) (h.2 j _ o (by rintro rfl;show l)) k l
def T6(H:Hp)(a:a9):Hp:=λb=>if b=a then none else H b
def GG(H:Hp)(a:a9):T6 H a a=none:=km rfl
def R3(h:b≠a):T6 H a b=H b:=kn h
def LM(h:H a=some o):upd (T6 H a) a o=H:=by
 funext b
 unfold upd T6
 nofun
def EnvOk.ae4{K:lM}{d H:Hp}{e O:a9->Prop}{f:St}{ρ:Ev}{a:a9}{vs:List V}(E:EnvOk K d e H O f ρ)(h:H a=none)(g:K.lookup a=none):EnvOk K d e (upd H a (.lst vs)) (λb=>O b\/b=a) f ρ:=E.ac1 h g trivial
def Rep.hidden{K:lM}{H:Hp}{O:a9->Prop}{a:a9}{vs:List V}{v:V}{d:D}(h:H a=some (.lst vs))(r:Rep K H (λb=>O b\/b=a) v d):Rep K (T6 H a) O v d:=by
 show r.mono (λb Y q=>?_) (λb Y n q=>{λz=>n (.inl z),?_}) λb f n q=>{λz=>n (.inl z),by rw[R3 λz=>n (.inr z)];show q}
 .rcases q with(q|⟨o,q⟩)|q
  .show .inl (.inl (by rw[R3 (by grind)];show q))
  .show .inl (.inr {o,by rw[R3 (by grind)];show q})
  show .inr q
 have e:=λz=>n (.inr z);rcases q with(q|⟨o,q⟩)|q
 .show .inl (.inl ((R3 e)▸q))
 .show .inl (.inr {o,by rw[R3 e];show q})
 show .inr q
def X1(h:H a=none)(s:Same (upd H a (.lst vs)) H'):Same H (T6 H' a):=λb o q=>by
 have d:b≠a:=by grind
 rw[R3 d];show s b o ((l6 d)▸q)
def ItC(K:lM)(J:It)(H:Hp)(O:a9->Prop)(ds:List D):Prop:=∀b e,Same H b->Kp H O b e->U6 K e->(∀a,O a->∃o,H a=some o/\Mt o)->(∀a,e a->∃o,b a=some o/\Mt o)->∀i:Nat,
 (∀d,ds[i]?=some d->J.go i b/\∀x f,J.yld i b x f->Same b f/\Rep K f e x d)/\(ds[i]?=none->J.stop i b)
def xy.c{K:lM}(h:xy K J H O ds):ItC K J H O ds:=λa b _=>h a b
def tIc(X:Cx)(f:Ev->R (List D)):TI:=λd H R=>∃g h O b,EnvOk X.K g h H O d b/\U6 X.K O/\match f b with
 |.ok i=>∀J a,Same H a->ItC X.K J a O i->R J a
 |.ex e=>∀a,Same H a->XW X e a
 |.bad=>False
def PIC(X:Cx)(a iter:ck)(f:Ev->R (List D)):Prop:=PI X a iter (tIc X f)
def pic(h:XM X b iter f):PIC X b iter f:=GO h<|by rintro j H R ⟨d,g,O,a,E,k,q⟩;show⟨d,g,O,a,E,k,by
 cases e:f a with
 |ok l=>rw[e]at q;showλJ i s h=>q J i s h.c
 |ex x=>rw[e]at q;show q
 |bad=>rw[e]at q;show q⟩
section
def XF(X:Cx)(b:List ck)(ft:Ev->R Bool):Prop:=
 ∀(a:O6) (s:aL) (d:St) (H:Hp) (Q:Bool->Hp->Prop),Inv X a d H s->tDT X ft d H Q->
  ba (bb X.prog X.w) X.A (forIn b true λc r=>if r=true then do let ok<-isTrue c X.env (cy c X.env);pure (aCq ok)else pure (aCq r)) (TP X a d Q) X.xe s
def xO:XF X [] (λ_=>.ok true):=by rintro a s b H Q I ⟨d,e,O,f,E,q⟩;show wpAny_tests_nil {H,I,q H (Same.refl _)}
def KI(h:DM X c ft):XF X [c] ft:=λa s b H Q I q=>wpAny_tests_one (h a s b H Q I q)
def rK{tg elt iter:ck}{ifs:List ck}{scope:gW}{own fr:List Str}{js:List Nat}{G:D->Ev->R Ev}{ft:Ev->R Bool}{fe:Ev->R D}{pins:O6}{σ:St}{H:Hp}{s:aL}{H9:Hp}{O0 O:a9->Prop}{ρ:Ev}
  {it:a9}{Q:List a9}{tn:Nat->cf->Prop}{J:It}{ds rs:List D}{RR:au->a9->Result->aL->Prop}{EE:A5} (hc:X.calm=true) (S:CompSc X scope own fr js)
  (hX:∀t:Cx,(∃s9 Ha C,t=EG X pins s9 Ha (own++fr) scope (dQ X scope C) C Q)->MQ t tg G/\XF t ifs ft/\PD t elt fe)
  (hG:∀d ρ1,G d (i6 own js ρ)=.ok ρ1->jZ ρ1 (i6 own js ρ))
  (I:Inv X pins σ H s) (T:Turn X.prog X.w X.K tg J Q it tn) (st:tn 0 s.heap) (xc:∀b∈Q,pG X pins H b) (E:EnvOk X.K H9 O0 H O σ ρ) (hJ:ItC X.K J H O ds) (hrs:x9 G ft fe (i6 own js ρ) ds=.ok rs) (hlen:ds.length<=sizeLine)
  (fin:∀B C s' H' m,s'.heap.Ns C m->C≠B->s.heap.objs.size<=C->s.heap.objs.size<=B->Same H H'->Rep X.K H' O (.ref B) (.lst rs)->(∃H1 vs,Same H H1/\H1 B=none/\H'=upd H1 B (.lst vs)/\Reps X.K H1 O vs rs)->H' C=none->(∀h',Heap.SameBut C s'.heap h'->Inv X pins σ H' {s' with heap:=h'})->RR (.ref B) C (.ok .next) s'):
  ba (bb X.prog X.w) X.A (newList []) (λB sa=>ba (bb X.prog X.w) X.A (newFunctionEnv scope X.env.globals (VH X.env scope.names []) [] X.env.qual none .none (some X.env)) (λcenv se=>gn (bb X.prog X.w) X.A (.compStart (.ListComp elt [{tg,iter,ifs,0}] scope pos) 0 (.ref it) B {cenv with scope:=relabel scope X.env}) (RR B cenv.locals) se) EE sa) EE s:=by
 have hO:=nG I O E.trk;show aAD ?_;have hfr:H s.heap.objs.size=none:=I.hok.fresh (aAi _);have hkl:X.K.lookup s.heap.objs.size=none:=by
  cases e:X.K.lookup s.heap.objs.size with
  |none=>rfl
  |some o=>show k7 (aAd<|I.kIn _ o e) (aBC _)
 have I1:Inv X pins σ (upd H s.heap.objs.size<|.lst []) {s with heap:=s.heap.push {cls:=.type "list",dict:=none,data:=.seq ([]:List au).toArray}}:=
  I.laid (t':=s.toks) (λb u e=>aAb _ e) (aAi _) {aAS _,[],0,.nil,aAh _ rfl}
 generalize df:s.heap.objs.size=B at*
 generalize zl:({s with heap:=s.heap.push {cls:=.type "list",dict:=none,data:=.seq ([]:List au).toArray}}:aL)=Y at I1⊢;have sz1:Y.heap.objs.size=B+1:=by rw[<-zl,<-df];show aBb _ _
 have keep1:∀b o,s.heap.get? b=some o->Y.heap.get? b=some o:=λb o e=>by rw[<-zl];show aAb _ e
 have xf:∀b∈Q,b<B:=λb g=>by let{o,e,_}:=T.obj 0 _ st b g;rw[<-df];show aAd e
 have hfp1:∀b∈Q,pG X pins (upd H B<|.lst []) b:=λb g=>by let{f0,f}:=xc b g;show{by rw[l6 (aAl<|xf b g)];show f0,f}
 show MZ ?_;obtain⟨L,e8⟩:∃L,pushCells (Y.heap.push {cls:=.type "dict",data:=.dict #[]}) scope.names=L:={_,rfl};rw[e8];have keep2:∀b o,Y.heap.get? b=some o->L.get? b=some o:=λb o e=>by rw[<-e8];show aFl _ _ _ _ (aAb _ e)
 have IB:=OG (tk:=Y.toks) I1 S hfp1 (λb g=>by rw[sz1];show aBB (xf b g)) e8.symm;generalize hC:Y.heap.objs.size=C at*
 let{hG',hT',hE'}:=hX _ {Y,upd H B (.lst []),C,rfl};generalize qc:EG X pins Y (upd H B<|.lst []) (own++fr) scope (dQ X scope C) C Q=t at IB hG' hT' hE';have eP:t.prog=X.prog:=by rw[<-qc];rfl
 have eW:t.w=X.w:=by rw[<-qc];rfl
 have eK:t.K=X.K:=by rw[<-qc];rfl
 have eA:t.A=X.A:=by rw[<-qc];rfl
 have eC:t.calm=true:=by rw[<-qc];show hc
 have eX:t.xe=λ_ _=>False:=by rw[<-qc];rfl
 have eE:t.env=compEnvC scope (dQ X scope C) C X.env:=by rw[<-qc];rfl
 have eX0:t.ex=Q:=by rw[<-qc];rfl
 have ePn:t.pn=X.pn++pins:=by rw[<-qc];rfl
 have eFs:t.fs=BF X.stack:=by rw[<-qc];rfl
 have eS0:t.s9=Y:=by rw[<-qc];rfl
 have eH0:t.H9=upd H B (.lst []):=by rw[<-qc];rfl
 have eL:t.env.locals=C:=by rw[eE];rfl
 have eCe:t.env.cells=dQ X scope C:=by rw[eE];rfl
 have I2of:=IB;have accC:B≠C:=by rw[sz1];show aAl (aDt _)
 have fpC:∀b∈Q,b≠C:=λb g=>by have h1:=xf b g;rw[sz1];show aAl (aBB h1)
 have fpB:∀{H':Hp},(∀b∈Q,H' b=none)->∀b∈Q,pG t [] H' b:=λ{H'} hn b g=>by
  let{f0,f1,f2,f3,f4,f5}:=xc b g;show{hn b g,by rw[eL];show fpC b g,?_,.inl (by rw[eX0];show g),λx c h=>(λb g x c h=>(I2of.ok.exf b (by rw[eX0];show g)).2 x c h) b g x c h,λp hp=>f5 p (by grind)};rw[eFs];intro z;rcases aAe.mp (I.ab6 b z)with e|z
  .show f1 e
  show f2 z
 have OR:tn 0 L:=T.keep 0 s.heap L st λb g o e=>keep2 b o (keep1 b o e)
 let Iv:Nat->aL->Prop:=λn s'=>∃i ag N vs rd,n=ds.length-i/\i<=ds.length/\Inv t [] ag (upd N B<|.lst vs) s'/\N B=none/\tn i s'.heap/\(∀b∈Q,N b=none)/\EnvOk X.K H9 O0 N O ag (i6 own js ρ)/\Same H N/\
  Reps X.K N O vs rd/\(∃rest,x9 G ft fe (i6 own js ρ) (ds.drop i)=.ok rest/\rs=rd++rest)/\vs.length<=i
 have loop:gn (bb X.prog X.w) X.A (.compLoop (.ListComp elt [{tg,iter,ifs,0}] scope pos) 0 (.ref it) (.ref B) (compEnvC scope (dQ X scope C) C X.env)) (RR (.ref B) C) {Y with heap:=L}:=by
  show LA Iv ?_ ds.length {0,_,H,[],[],by simp,aAS _,IB,hfr,OR,λb g=>(xc b g).1,OF S.nd E,Same.refl H,.nil,{rs,by rw[List.drop_zero];show hrs,rfl},aAS _};rintro n s2 ⟨i,yn,N,vs,rd,rfl,hi,I2,yr,ko,fx2,E2,yt,r2,⟨rest,l,xg⟩,hvl⟩;have fr2:∀b∈Q,(upd N B<|.lst vs) b=none:=λb g=>by rw[l6 (aAl<|xf b g)];show fx2 b g
  have sU:=j3 yr (.lst vs);have hit:=hJ (upd N B<|.lst vs) (λb=>O b\/b=B) (yt.trans sU) (λb o q n=>{sU b o (yt b o q),λz=>z.elim n λz=>by subst z;rw[hfr]at q;cases q}) (λa o q z=>z.elim (hO a o q) λz=>by subst z;rw[hkl]at q;cases q) E.trk
   (λa z=>(E2.ae4 (vs:=vs) yr hkl).trk a z) i
  by_cases ao:i<ds.length
  .let{go,yl}:=hit.1 ds[i] (aAk ao);rw[aDV ao,x9]at l;have ou:=T.item t eP eW eK eC i [] s2 yn _ (λ_ _=>False) I2 (fpB fr2) ko go;rw[eA]at ou;show D3 ou λr s3 z9=>?_;let{u,hr,h3}:=z9;subst hr;show D3 h3 λ_ s4 z9=>?_;let{x,H4,I4,ru,y4,st4,fr4}:=z9;let{sm4,rep4}:=yl x H4 y4;cases e1:G ds[i] (i6 own js ρ)with
   |ex z=>rw[e1]at l;cases l
   |bad=>rw[e1]at l;cases l
   |ok ρ1=>
    rw[e1]at l;dsimp only at l;have I4':=I4.pinned (fpB fr4) (T.obj _ _ st4);have again:∀{s7:aL}{qg:St}{y:Hp}{vs7:List V}{rd7:List D}{rest7:List D},Inv t ([]++sT Q s4.heap) qg y s7->y B=some (.lst vs7)->EnvOk X.K H9 O0 (T6 y B) O qg (i6 own js ρ)->Same H (T6 y B)->Reps X.K (T6 y B) O vs7 rd7->
      x9 G ft fe (i6 own js ρ) (ds.drop<|i+1)=.ok rest7->rs=rd7++rest7->vs7.length<=i+1->∃m,m<ds.length-i/\Iv m s7:=λ{s7 qg y vs7 rd7 rest7} I7 h7 E7 sm7 r7 hr7 hrs7 hv7=>by
     show{ds.length-(i+1),by omega,i+1,qg,T6 y B,vs7,rd7,rfl,ao,?_,GG _ _,T.keep _ _ _ st4 λb g o e=>(I7.pin (b,o)<|aAA _<|aAA _<|bT g e).1,λb g=>?_,E7,sm7,r7,{rest7,hr7,hrs7},hv7}
     .rw[LM h7];show I7.ab5
     rw[R3 (aAl<|xf b g)];let{o,e,d}:=T.obj _ _ st4 b g;show(I7.pin (b,o)<|aAA _<|aAA _<|bT g e).2.1
    have hasg:=hG' _ s4 yn H4 x u (λU H5=>Same H4 H5/\EnvOk X.K H9 O0 H5 (λb=>O b\/b=B) U ρ1) I4' ru {H9,O0,_,_,ds[i],ρ1,by rw[eK];show((E2.ae4 yr hkl).grow sm4),by rw[eK];show rep4,e1,λU H5 s5 E5=>{s5,by rw[eK]at E5;show E5}};rw[eP,eW,eA,eE,eX]at hasg;show D3 hasg λ_ s5 z9=>?_;let{U,H5,I5,sm5,E5}:=z9;have hacc5:H5 B=some (.lst vs):=sm5 B _ (sm4 B _ j1);cases e2:ft ρ1 with
    |ex z=>rw[e2]at l;cases l
    |bad=>rw[e2]at l;cases l
    |ok b=>
     rw[e2,R.aa0]at l;have htst:=hT' _ s5 U H5 (λc H6=>c=b/\Same H5 H6) I5 {H9,O0,_,ρ1,by rw[eK];show E5,by rw[e2];showλH6 s6=>{rfl,s6}};rw[eP,eW,eA,eE,eX]at htst;show D3 htst λok s6 z9=>?_;let{H6,I6,g,sm6}:=z9;subst g;have sm46:=sm4.trans (sm5.trans sm6);have hacc6:H6 B=some (.lst vs):=sm6 B _ hacc5;have smx6:Same N (T6 H6 B):=X1 yr sm46;have W1:jZ ρ1 (i6 own js ρ):=hG _ _ e1;have Eb:∀{y:Hp},Same H5 y->EnvOk X.K H9 O0 (T6 y B) O U (i6 own js ρ):=λ{y} s7=>by
      have E7:=(E5.grow s7).weak W1;have h7:y B=some (.lst vs):=s7 B _ hacc5;show{E7.len,E2.same.trans (X1 yr<|sm4.trans<|sm5.trans s7),E2.sub,λa z=>?_,E2.trk0,E2.tab.same (X1 yr<|sm4.trans<|sm5.trans s7),λj sl e=>?_,E7.inj}
      .let{o,q,mt}:=E2.trk a z;show{o,X1 yr (sm4.trans<|sm5.trans s7) a o q,mt}
      rcases W2 e with rfl|⟨_,⟨d,rfl⟩|⟨k,rfl⟩,_⟩
      .trivial
      .let{v,h1,h2}:=E7.val j d e;show{v,h1,Rep.hidden h7 h2}
      let{b,o,es,h1,g,h3,h4,h5,h6,h8}:=E7.slot j _ e;have nb:b≠B:=by grind
      show{b,o,es,h1,g.resolve_right nb,h3,by rw[R3 nb];show h4,h5,h6.mono (Rep.hidden h7),h8}
     cases ok with
     |false=>rw[kn aBt]at l⊢;show again I6 hacc6 (Eb sm6) (yt.trans smx6) (r2.same smx6) l xg (Nat.le_succ_of_le hvl)
     |true=>
      rw[km rfl]at l⊢;cases e3:fe ρ1 with
      |ex z=>rw[e3]at l;cases l
      |bad=>rw[e3]at l;cases l
      |ok dv=>
       rw[e3,R.aa0]at l;cases e4:x9 G ft fe (i6 own js ρ) (ds.drop<|i+1)with
       |ex z=>rw[e4]at l;cases l
       |bad=>rw[e4]at l;cases l
       |ok rest'=>
        rw[e4,R.aa0]at l;have qo:dv::rest'=rest:=R.ok.inj l;have helt:=hE' _ s6 U H6 (λv y=>Same H6 y/\Rep X.K y (λb=>O b\/b=B) v dv) I6 {H9,O0,_,ρ1,by rw[eK];show E5.grow sm6,by rw[e3,RC];showλv y s7 r7=>{s7,by rw[eK]at r7;show r7}};rw[eP,eW,eA,eE,eX]at helt;show D3 helt λuv s7 z9=>?_;let{v,y,I7,ruv,sm7,r7}:=z9;have hacc7:y B=some (.lst vs):=sm7 B _ hacc6;have happ:=wF (X:=t) _ s7 U y (.ref B) [v] (.ref B) [uv] (λ_ H8=>H8=upd y B (.lst (vs++[v]))) I7 rfl (.cons ruv .nil) {B,vs,v,rfl,rfl,hacc7,by omega,rfl};rw[eP,eW,eA,eX]at happ;show D3 happ λ_ s8 z9=>?_;let{_,H8,I8,_,h8}:=z9;subst h8;have hh:T6 (upd y B<|.lst (vs++[v])) B=T6 y B:=by
         funext b
         unfold T6 upd
         nofun
        have smx7:Same N (T6 y B):=X1 yr (sm46.trans sm7);show again (vs7:=vs++[v]) (rd7:=rd++[dv]) (rest7:=rest') I8 j1 (by rw[hh];show Eb (sm6.trans sm7)) (by rw[hh];show yt.trans smx7) ?_ e4 (by rw[xg,<-qo,aED];rfl) (by rw[aAv];show Nat.succ_le_succ hvl);rw[hh];show(r2.same smx7).snoc (Rep.hidden hacc7 r7)
  have fm:i=ds.length:=by omega
  subst fm;have hstop:=hit.2 (by simp);have ou:=T.done t eP eW eK eC ds.length [] s2 yn _ (λ_ _=>False) I2 (fpB fr2) ko hstop;rw[eA]at ou;show D3 ou λr s3 z9=>?_;let{hr,I3}:=z9;subst hr;rw[List.drop_length,x9]at l;have qo:([]:List D)=rest:=R.ok.inj l;rw[<-qo,aCd]at xg;let{m,hm,_}:=id I3.loc;rw[eL]at hm;show fin B C s3 (upd N B<|.lst vs) m hm (aCL accC) (by omega) (aAi _) (yt.trans sU) ?_ {N,vs,yt,yr,rfl,by rw[xg];show r2} (by rw[<-eL];show I3.free) (λh' jo=>?_)
  .rw[xg];show .lst (K4.of j1) (E2.fresh yr) (r2.same sU)
  have hU:Un (BF X.stack) Q (upd H B<|.lst []) (upd N B<|.lst vs) Y.heap s3.heap:=by have:=I3.base;rw[eFs,eX0,eH0,eS0]at this;show this
  have hCn:∀b o,Y.heap.get? b=some o->b≠C:=λb o e=>by have:=aAd e;rw[hC]at this;show aAl this
  have hU':Un (BF X.stack) Q (upd H B<|.lst []) (upd N B<|.lst vs) Y.heap h':=⟨λb o e n g hx=>(jo.2 b (hCn b o e)).trans (hU.keep b o e n g hx),λb o e n g hx=>by
    let{sl,q}:=hU.slot b o e n g hx;show{sl,(jo.2 b (hCn b o e)).trans q},hU.free,λb o e hx=>by
    let{o',q}:=hU.there b o e hx;show{o',(jo.2 b (hCn b o e)).trans q},hU.tups,hU.frzs,hU.tbls⟩
  have hCf:upd N B (.lst vs) C=none:=by rw[<-eL];show I3.free
  have zo:iG X.prog X.w (upd N B<|.lst vs) h':=λb u e=>by
   have g:b≠C:=by grind
   have:=I3.hok b u e;rw[eP,eW]at this;show this.ab8 (λc v hc q=>(jo.2 c ?_).trans q) (λ_ q=>q) λ_ _ _ q=>q;grind
  have hos:s3.os=Y.os:=by have:=I3.os;rw[eS0]at this;show this
  show I1.ag1 (s':={s3 with heap:=h'}) (ch:=Q) hos hU' zo I3.bare λb g=>by let{f0,f1,f2,f3,f4,f5}:=xc b g;show{f3,f1,f4,f5}
 show codeAny_compStart_list loop (T.self _ 0 _ _ _ OR loop)
def WG(own y:List Str)(f:List Nat)(U:X.calm=true)(S:CompSc X a own y f)(Y:PIC X z iter A)(hX:∀(b:O6) (j:List a9) (h:Cx),(∃s9 Ha C,h=EG X b s9 Ha (own++y) a (dQ X a C) C j)->MQ h z G/\XF h k ft/\PD h l fe)(hG:∀ρ d ρ1,G d (i6 own f ρ)=.ok ρ1->jZ ρ1 (i6 own f ρ))(hs:(∀x,eQ iter X.env x=pure x)<|>6):
  PD X (.ListComp l [{z,iter,k,0}] a pos) (λρ=>(A ρ).bind λds=>if ds.length<=sizeLine then(x9 G ft fe (i6 own f ρ) ds).bind λrs=>.ok (.lst rs)else .bad):=by
 show rM λb s σ H Q I H9 O0 O ρ E q=>?_;dsimp only at q;show aEe rfl hs (aP<|Inv.aa9 I S) S.kind S.names (D3 (Y b s σ H (λJ n=>∃ds rs,Same H n/\ItC X.K J n O ds/\ds.length<=sizeLine/\x9 G ft fe (i6 own f ρ) ds=.ok rs/\∀v g,Same H g->Rep X.K g O v (.lst rs)->Q v g) I {H9,O0,O,ρ,E,nG I O E.trk,?_}) λv L h1=>D3 h1 λitv s2 h2=>?_)
 .cases o:A ρ with
  |ex x=>rw[o]at q;show q
  |bad=>rw[o]at q;show q
  |ok ds=>
   rw[o,R.aa0]at q;intro J n L p;split at q
   .rename_i t;cases i:x9 G ft fe (i6 own f ρ) ds with
    |ex x=>rw[i]at q;show(q H<|Same.refl _).elim
    |bad=>rw[i]at q;show q.elim
    |ok rs=>rw[i]at q;show{ds,rs,L,p,t,i,q}
   show q.elim
 let{it,j,tn,J,H2,e,I2,T,ko,f2,ds,rs,N,p,t,u,q}:=h2;subst e;show rK U S (hX b j) (hG ρ) I2 T ko f2 (E.grow N) p u t ?_;intro B C s' g m hn _ _ _ w r _ _ hI;show{m,hn,λh' jo=>{.ref B,g,hI h' jo,rfl,q _ g (N.trans w) r}}
def G8(own g:List Str)(b:List Nat)(k:X.calm=true)(S:CompSc X a own g b)(l:XM X j iter m)(n:∀(e:O6) (o:List a9) (f:Cx),(∃p q C,f=EG X e p q (own++g) a (dQ X a C) C o)->MQ f j G/\XF f h ft/\PD f i fe)(r:∀ρ d ρ1,G d (i6 own b ρ)=.ok ρ1->jZ ρ1 (i6 own b ρ))(s:(∀x,eQ iter X.env x=pure x)<|>6):
 PD X (.ListComp i [{j,iter,h,0}] a t) (λρ=>(m ρ).bind λds=>if ds.length<=sizeLine then(x9 G ft fe (i6 own b ρ) ds).bind λrs=>.ok (.lst rs)else .bad):=WG own g b k S (pic l) n r s
end
def _root_.L2.ObjOk.live(x:ObjOk P w H h a o):h.get? a≠none:=by
 intro z;have b:∀{u:Obj},h.get? a=some u->False:=λq=>by rw[z]at q;cases q
 cases o with
 |lst Y=>let{_,_,_,_,e}:=x;show b e
 |tup Y=>let{_,_,_,o,e,_}:=x;show b e
 |dK N=>let{_,_,_,_,o,_,_,e,_}:=x;show b e
 |dT N=>let{_,_,_,_,o,_,_,e,_}:=x;show b e
 |set S n=>let{o,_,_,_,e,_}:=x;show b e
 |ins C d fs=>let{_,_,_,e,_}:=x;show b e
 |own y=>let{_,e}:=x;show b e
 |xd fs=>let{_,{_,_,_,e,_},_}:=x;show b e
 |rng lo g=>let{_,_,_,e}:=x;show b e
 |frz i u=>let{e,_}:=x;show b e
 |tbl j=>let{_,e,_}:=x;show b e
 |met f y=>show b (x)
 |ext k=>let{_,{_,e},_}:=x;show b e
section
end
section
variable{P:bc}{w:bM}{K:lM}{mg:dM}{base:cf}
end
section
variable{X:Cx}{E:XK}{st:cp}{rest:List cp}{F:Ev->R Out}{G Ga Gb:Ev->Option au}{pos:Pos}
end
section
variable{K:lM}{h:cf}{C:a9}{bmB:List au}{newId:String}
end
section
variable{X:Cx}{E:XK}{pos ah np:Pos}{x:Str}{C:a9}{bmB:List au}{B newId initId:String}
end
end
end DL
namespace TS
open PySem PyProof.Rows HT
def NU(f:Bool)(x y:au):keyLt' (tupK f) x y=(do
 let Y<-aDx x;let a<-aDx y
 for ((p,q),i)in(Y.toList.zip a.toList).zipIdx do
  if !(<-eqBool p q)then return<-oneLt' (f&&i==0) p q
 return decide (Y.size<a.size)):=rfl
def SA:au->Sem (Option au):=sortPriv%PySem.Builtin.firstOfTuple?
def XE:Array au->Sem (Option au):=sortPriv%PySem.Builtin.oneTypeOnly
def NS(v:au):SA v=(do
 if(<-typeOf v) !=.type "tuple"then return none
 return (<-aDx v)[0]?):=rfl
def VU(vs:Array au):XE vs=(do
 let a<-vs.mapM typeOf
 match a[0]? with
 |some t=>return if a.all (· ==t)then some t else none
 |none=>return none):=rfl
def HL(a:Array au):keyKind' a=(do
 let firsts<-a.mapM SA
 if firsts.all (·.isSome)then
  rule "list.sort.keys-are-tuples"
  return tupK ((<-XE (firsts.filterMap id)).any (· !=.type "tuple"))
 if(firsts[0]?.bind id).isSome then return general'
 return if(<-XE a).isSome then oneType' else general'):=rfl
section
def WY{Q:CD}(f:Bool)(h:Q (decide (a<b)) s):ba (bb prog w) A (oneLt' f (.int a t) (.int b u)) Q E s:=by
 cases f with
 |true=>show oneLt_int h
 |false=>rw[oneLt'_eq];show aAa (DF A s a t b u prog w _ _<|aBA h)
def lt_ints(f:Bool){Q:CD}(hl:IsTup s.heap l items)(hb:IsTup s.heap b p)(T:IntsAre items.toList ns)(U:IntsAre p.toList J)(h:Q (HT.lexLt ns J) s):ba (bb prog w) A (keyLt' (tupK f) (.ref l) (.ref b)) Q E s:=by
 let{o,ho,hc,n,hd}:=hl;let{o2,kr,ju,n2,L}:=hb;have z1:items.size=ns.length:=by rw[<-T.length];simp
 have z2:p.size=J.length:=by rw[<-U.length];simp
 rw[NU];show aAa (aEM ho hd<|aAa<|aEM kr L ?_);show aAa (aCy _ (λrest b j=>b.1=none/\j=s/\∃(k:Nat) (C H:List au) (q r:List Int),rest=(C.zip H).zipIdx k/\IntsAre C q/\IntsAre H r/\q.length+p.size=r.length+items.size/\Q (HT.lexLt q r) s)
  (λb j=>j=s/\(∀c,b.1=some c->Q c s)/\(b.1=none->Q (decide (items.size<p.size)) s)) ?turn ?fin _ _ {rfl,rfl,0,items.toList,p.toList,ns,J,rfl,T,U,by lia,h}|>λz=>aCH z ?post λ_ _ e=>e)
 case post=>
  rintro⟨Y,b2⟩ j ⟨rfl,q1,q2⟩;cases Y with
  |none=>show aAc (q2 rfl)
  |some c=>show aAc (q1 c rfl)
 case fin=>
  rintro⟨Y,b2⟩ j ⟨jr,rfl,k,C,H,q,r,hz,N,I,d,g⟩;show{rfl,λc e=>(by grind),λ_=>?_};cases N with
  |nil=>
   cases I with
   |nil=>rw[aI]at g;erw[aCe]at d;rw[lb (by lia)];show g
   |cons c u hw=>rw[M7]at g;erw[aCe,aAr]at d;rw[lg (by lia)];show g
  |cons a t hv=>
   cases I with
   |nil=>rw[C5]at g;erw[aCe,aAr]at d;rw[lb (by lia)];show g
   |cons c u hw=>nofun
 case turn=>
  rintro⟨⟨y,x⟩,i⟩ rest b j ⟨jr,rfl,k,C,H,q,r,hz,N,I,d,g⟩;cases N with
  |nil=>nofun
  |cons a t v=>
   cases I with
   |nil=>nofun
   |cons c u B=>
    injection hz with m af;injection m with m O;injection m with hy hx;subst hy hx O;rw[F8]at g;erw[aAr]at d;let{e,he,zg}:=DB A j a t c u;show aAa (he prog w _ _ ?_);cases e with
    |true=>rw[km (zg.mp rfl)]at g;show aAc {rfl,rfl,_,_,_,_,_,af,v,B,by lia,g}
    |false=>show aAa (WY _ (aAc {rfl,λc e=>(by grind),λe=>(by cases e)}))
end
section
theorem JU{a β:Type}{M:Model}{f:a->Sem β}(g:a->β):∀(Y:List a) {Q:List β->aL->Prop},(∀x∈Y,∀{Q:β->aL->Prop},Q (g x) s->ba M A (f x) Q E s)->Q (Y.map g) s->ba M A (Y.mapM f) Q E s:=by
 intro b Q h q;cases b with
 |nil=>rw[List.mapM_nil];show aAc q
 |cons x Y=>rw[List.mapM_cons];show aAa (h x (.head _)<|aAa<|JU g Y (λy d=>h y (.tail _ d))<|aAc q)
def JG{a β:Type}{M:Model}{f:a->Sem β}(g:a->β)(Y:List a){Q:Array β->aL->Prop}(h:∀x∈Y,∀{Q:β->aL->Prop},Q (g x) s->ba M A (f x) Q E s)(q:Q (Y.map g).toArray s):ba M A (Y.toArray.mapM f) Q E s:=by rw[List.mapM_toArray];show aAa (JU g Y h<|aAc q)
def kind_tuples{vs:List au}{f:Bool}{T:String}{Q:SortKind->aL->Prop}(b:au->au)(h:∀x∈vs,∃a items,x=.ref a/\IsTup s.heap a items/\items[0]?=some (b x)/\s.TypeIs (b x) T)(i:vs≠[])(z:f=(aCu T !=aCu "tuple"))
  (q:Q (tupK f) s):ba (bb prog w) A (keyKind' vs.toArray) Q E s:=by
 rw[HL];show aAa (JG (λx=>some (b x)) vs (λx d {Q} e=>?_) ?_)
 .let{a,items,rfl,{o,g,j,n,k},l,_}:=h x d;rw[NS];show aAa (aDk {o,g,j}<|aAa<|aEM g k ?_);rw[l];show aAc e
 have m:((vs.map λx=>some (b x)).toArray.all λx=>x.isSome)=true:=by simp
 have p:(vs.map λx=>some (b x)).toArray.filterMap id=(vs.map b).toArray:=by nofun
 erw[m,p];show aAa (aCG<|aAa ?_);rw[VU];show aAa (JG (λ_=>aCu T) (vs.map b) (λx d {Q} e=>?_) ?_)
 .let{y,r,rfl}:=aAj.mp d;let{_,_,_,_,_,t}:=h y r;show aDk t e
 cases vs with
 |nil=>show k7 rfl i
 |cons v vs=>
  erw[aAm,aAK];have u:((aCu T::aDF ((λ_=>aCu T)∘b) vs).toArray.all λx=>x==aCu T)=true:=by simp
  erw[aCX,aDo,u,if_true];show aAc (aAc ?_)
  nofun
end
theorem lex_irrefl:∀a:List Int,HT.lexLt a a=false:=by
 intro b;cases b with
 |nil=>rfl
 |cons x Y=>rw[F8,km rfl];show lex_irrefl Y
theorem lex_total:∀a b:List Int,HT.lexLt a b=false->HT.lexLt b a=false->a=b
 |[],[],_,_=>rfl
 |[],_::_,h,_=>by rw[M7]at h;cases h
 |_::_,[],_,h=>by rw[M7]at h;cases h
 |x::Y,y::g,d,f=>by
  rw[F8]at d f;by_cases e:x=y
  .subst e;rw[km rfl]at d f;rw[lex_total Y g d f]
  lia
theorem lex_trans:∀a b c:List Int,HT.lexLt a b=true->HT.lexLt b c=true->HT.lexLt a c=true
 |[],[],_,h,_=>by rw[aI]at h;cases h
 |[],_::_,[],_,h=>by rw[C5]at h;cases h
 |[],_::_,_::_,_,_=>rfl
 |_::_,[],_,h,_=>by rw[C5]at h;cases h
 |_::_,_::_,[],_,h=>by rw[C5]at h;cases h
 |x::Y,y::i,z::j,f,d=>by
  rw[F8]at f d⊢;by_cases e:x=y
  .subst e;rw[km rfl]at f;by_cases g:x=z
   .subst g;rw[km rfl]at d⊢;show lex_trans Y i j f d
   rw[kn g]at d⊢;show d
  rw[kn e]at f;have k:=of_decide_eq_true f;by_cases g:y=z
  .subst g;rw[kn e];show f
  rw[kn g]at d;have l:=of_decide_eq_true d;rw[kn (by omega)];show lg (by omega)
theorem KO:∀a b c:List Int,HT.lexLt a c=true->HT.lexLt a b=true\/HT.lexLt b c=true
 |[],[],_,h=>.inr h
 |[],_::_,_,_=>.inl rfl
 |_::_,_,[],h=>by rw[C5]at h;cases h
 |_::_,[],_::_,_=>.inr rfl
 |x::Y,y::d,z::f,h=>by
  rw[F8]at h;rw[F8,F8];by_cases e:x=y
  .subst e;rw[km rfl];by_cases g:x=z
   .subst g;rw[km rfl]at h⊢;show KO Y d f h
   nofun
  lia
open Classical in
def kV(vs:List au) (key:au->List Int):KeyKind where
 α:=List Int
 blt:=HT.lexLt
 irrefl:=lex_irrefl
 trans:=lex_trans
 negTrans:=KO
 total:=lex_total
 keyOf:=λv=>if v∈vs then some (key v)else none
 dflt:=[]
open Classical in
def xw(h:v∈vs):(kV vs key).keyOf v=some (key v):=km h
open Classical in
def zw(e:(kV vs key).keyOf v=some l):v∈vs/\key v=l:=by
 have a:(if v∈vs then some (key v)else none)=some l:=e
 lia
def sK(vs:List au):(pairsOf vs).toList=vs.map λv=>(v,v):=by
 unfold pairsOf;rw[List.zip_toArray];change vs.zip vs=_;induction vs with
 |nil=>rfl
 |cons v vs a=>nofun
section
def NV{a:a9}{vs:List au}{n:Nat}{f:Bool}{key:au->List Int}{P:Fin->aL->Prop}(H:s.heap.get? a=some (seqObj "list" vs.toArray n))
  (I:∀d,Bar a s d->∀x∈vs,∀y∈vs,∀(prog:bc) (w:bM) (E:A5) {Q:CD},Q (HT.lexLt (key x) (key y)) d->ba (bb prog w) A (keyLt' (tupK f) x y) Q E d)
  (J:2<=vs.length->∀d,Bar a s d->∀{Q:SortKind->aL->Prop},Q (tupK f) d->ba (bb prog w) A (keyKind' vs.toArray) Q E d) (g:vs.length<64)
  (h:∀m:List au,m.Perm vs->m.Pairwise (λx y=>HT.lexLt (key y) (key x)=false)->P (.done (.ret .none)) {s with heap:=sortedHeap s.heap a vs m.toArray}):
  ba (bb prog w) A (Builtin.«list.sort» {[.ref a],[]}) P E s:=by
 show AT (κ:=kV vs key) (f:=f) H (λp e=>?_) (λd o prog w E x y k l Q L N q=>?_) (λO d o {Q} q=>J O d o q) g λb hperm T=>?_
 .rw[sK]at e;let{v,r,rfl}:=aAj.mp e;show{key v,xw r}
 .let{U,t}:=zw L;let{Y,u}:=zw N;subst t u;show I d o x U y Y prog w E q
 have z:(arrOf b).toList.Perm (vs.map λv=>(v,v)):=by rw[<-sK];show aFr.mp hperm
 have same:∀p∈(arrOf b).toList,p.1=p.2/\p.2∈vs:=λp e=>by let{v,r,rfl}:=aAj.mp (z.mem_iff.mp e);show{rfl,r}
 have ea:(arrOf b).map (·.2)=((arrOf b).toList.map (·.2)).toArray:=by apply Array.ext';simp
 rw[ea];show h _ ?_ ?_
 .have:=z.map (·.2);rw[aAK,show((λx:au×au=>x.2)∘λv=>(v,v))=id from rfl,List.map_id]at this;show this
 rw[aBO];intro i j hi hj ig;have fm:i<(arrOf b).size:=by exists hi
 have B:j<(arrOf b).size:=by exists hj
 have q:=T i j (aDj ig) (by rw[<-hperm.size_eq];show B);have kk:∀k (C:k<(arrOf b).size),KK (kV vs key) (arrOf b) k=key (arrOf b)[k].2:=λk C=>by unfold KK;rw[getElem?_pos _ k C];let{t,u}:=same (arrOf b)[k] (by simp);change((kV vs key).keyOf (arrOf b)[k].1).getD _=_;rw[t,xw u];rfl
 rw[kk i fm,kk j B]at q;rw[aEV,aEV,aGC,aGC];show q
def sorted_keys{x:au}{vs:List au}{f:Bool}{key:au->List Int}{Q:A5}{C:aL->Prop}(t:∀{m:List au->aL->Prop},(∀s',C s'->m vs s')->ba (bb prog w) A.in1 (collect x) m E s)
  (u:∀s',C s'->∀a,(∀b o,s'.heap.get? b=some o->a.heap.get? b=some o)->∀x∈vs,∀y∈vs,∀(prog:bc) (w:bM) (p:bt) (E:A5) (L:p.units<=A.units+5) {Q:CD},Q (HT.lexLt (key x) (key y)) a->ba (bb prog w) p (keyLt' (tupK f) x y) Q E a)
  (v:2<=vs.length->∀s',C s'->∀a,(∀b o,s'.heap.get? b=some o->a.heap.get? b=some o)->∀(A:bt) {Q:SortKind->aL->Prop},Q (tupK f) a->ba (bb prog w) A (keyKind' vs.toArray) Q E a) (j:vs.length<64)
  (h:∀(s':aL) (g:List au) (h':cf) (l:a9),C s'->g.Perm vs->g.Pairwise (λx y=>HT.lexLt (key y) (key x)=false)->(∀b o,s'.heap.get? b=some o->h'.get? b=some o)->s'.heap.objs.size<=l->(∃n,h'.get? l=some (seqObj "list" g.toArray n))->Q (.ref l) {s' with heap:=h'}):
  ba (bb prog w) A (call (.builtin "sorted") [x]) Q E s:=by
 show Calls.call_function_entry kind_sorted plain_sorted entry_sorted (args_sorted1 _) (aAa<|aAc<|aAa<|t λs' k=>(aAa<|wpAny_newList ?_));have d:(s'.heap.push<|seqObj "list" vs.toArray 0).get? s'.heap.objs.size=some (seqObj "list" vs.toArray 0):=aAh _ rfl;have r:∀a,Bar s'.heap.objs.size {s' with heap:=s'.heap.push (seqObj "list" vs.toArray 0)} a->∀b o,s'.heap.get? b=some o->a.heap.get? b=some o:=λa i b o e=>i b o (aAl<|aAd e) (aAb _ e);show aAa (aAJ (aAG slot_list_sort {_,d,rfl} entry_list_sort (NV d (λa i x z y B prog w E {Q} q=>u s' k a (r a i) x z y B prog w _ E (by simp) q) (λH a i {Q} q=>v H s' k a (r a i) _ q) j λg I J=>{_,rfl,(aAc {_,rfl,h s' g _ _ k I J (λb o e=>?_) (aAi _) (sortedHeap_at d)})})<|args_list_sort _));rw[sortedHeap_old (aAl<|aAd e) (by rw[aBb];show aBB (aAd e))];show aAb _ e
end
end TS
namespace DL
open PySem PySem.Spec L2
open PyProof.Rows hiding St
variable [Tabs]
omit [Tabs]in
def zT{ns:List Int}(h:PySem.W.WData.layableAll [PySem.W.WData.list (ns.map PySem.W.WData.int)]=true):∀x∈ns,aBd x<=1048576:=λx a=>by have b:=(PySem.W.layW_cons h).1;show PyData.bits_of_layable (by simpa[PyData.layableAll0]using(PySem.W.lay0_int<|PySem.W.layableW_item b (.int x)<|aAj.mpr ⟨x,a,rfl⟩))
def t6(P:bc)(w:bM)(K:lM)(mg:dM)(base:cf)(k:Nat)(x:Str)(n:Nat)(m:List D->R D):Prop:=
 ∃g a b,FnOk P w K mg base uF k g a b (spD K n m)/\Binds K a b []/\PySem.W.keepIn K (.ref g)=true/\mg x=some (.ref g)
def AD(f:Ev->R (List D))(n:Nat):Prop:=∀b a,f b=.ok a->a.length=n
def S4:AD P9 0:=λa b h=>by cases h;rfl
def u8(h:AD g n):AD (o8 f g) (n+1):=λa k e=>by
 unfold o8 at e;cases i:f a with
 |ok d=>
  rw[i,R.aa0]at e;cases b:g a with
  |ok j=>rw[b]at e;cases e;rw[aAr,h a j b]
  |ex x=>nofun
  |bad=>nofun
 |ex x=>nofun
 |bad=>nofun
section
def zQ(c:t6 X.prog X.w X.K X.mg X.base k x n m)(d:Room k X.A)(h:ES X (e::es) f)(i:AD f n)(j:Gl X x<|>1)(l:(x==ma)=false<|>2)(o:a5 (e::es) X.env=(false,cy e X.env)::a5 es X.env<|>1)(q:(cv a (a5 es X.env)).any (·.1)=false<|>1):
  PD X (.Call (.Name x p) (e::es) [] a) (λρ=>(f ρ).bind m):=by
 let{g,s,t,F,b,r,em}:=c;show bj F d em r b h i j l o q
end
def a3i{P:bc}{w:bM}{K:lM}{mg:dM}{base:cf}{x qual:Str}{st:cp}{f:a9}{b:dI}{N ps:List Str}{k:Nat}{m:List D->R D}{F:Ev->R Out}(e:Fun K x qual st f b)(S:FnScope N ps (b9 st))(g:Binds K b ps [])(h:mg x=some (.ref f))
  (i:∀(T:au) (A:bt) (a:List Env) (s:aL) (H:Hp) (E:XK),Room k (A.deeper (envOfC qual (b9 st) s.heap.objs.size f T))->bV (QU P w K mg base N qual (b9 st) f T A a s H E) (p5 st) F)
  (j:∀ds d,ds.length=ps.length->m ds=.ok d->F7 (F (l9 N ds))=.ok d):t6 P w K mg base (k+1) x ps.length m:=
 {f,b,ps,fnD e S i j,g,e.kp,h}
def p8:∀d ρ1,(R.ok ((i6 [x] a ρ).set 0 (Sl.v d)):R Ev)=.ok ρ1->jZ ρ1 (i6 [x] a ρ):=λd ρ1 h=>by
 cases h;show{by simp,λi e h b=>?_};cases i with
 |zero=>show k7 (by simpa[i6]using h.symm) b
 |succ i=>rw[aCz (by lia)];show h
def RZ(sc:gW)(N:List Str)(a:gW)(d:List Str)(b:List Nat):Bool:=
 decide (a.kind=.function)&&a.names.all (λy=>decide (y.2=.free->(y.1,aCC)∉a.names))&&a.names.all (λy=>decide (y.2=.local->a.names.lookup y.1=some .local))&&
 a.names.all (λy=>decide (y.2=.free->sc.names.lookup y.1=some .cell\/sc.names.lookup y.1=some .free))&&decide (b.length=d.length)&&(b.zip d).all (λp=>decide (N[p.1]?=some p.2/\(p.2,NameKind.free)∈a.names))&&decide b.Nodup&&
 a.names.all (λy=>decide (y.2=.free->a.names.lookup y.1=some .free))
def D7(b:X.env.scope=sc<|>1)(d:X.N=N<|>1)(h:RZ sc N a e f=true<|>3):CompSc X a own e f:=by erw[RZ,aAI,aBG,decide_eq_true_eq]at h;obtain⟨⟨⟨⟨⟨⟨⟨g,k⟩,l⟩,m⟩,n⟩,o⟩,p⟩,q⟩:=h;subst b d;show{g,k,l,m,n,λi j x r s=>(o (j,x)<|aAs (i:=i) ?_),p,q};rw[aBy];show{r,s}
def qQ(a:List (Nat×D))(h:∀p∈a,p.1<Y.length):jZ (a.foldl (λr p=>r.set p.1 (Sl.v p.2)) (i6 Y b ρ)) (i6 Y b ρ):=by
 have g:∀(a:List (Nat×D)) (r:Ev),(∀p∈a,p.1<Y.length)->r.length=(i6 Y b ρ).length->(∀i,Y.length<=i->r[i]?=(i6 Y b ρ)[i]?)->
   (a.foldl (λr p=>r.set p.1 (Sl.v p.2)) r).length=(i6 Y b ρ).length/\∀i,Y.length<=i->(a.foldl (λr p=>r.set p.1 (Sl.v p.2)) r)[i]?=(i6 Y b ρ)[i]?:=by
  intro a;induction a with
  |nil=>intro r _ d f;show{d,f}
  |cons p a m=>intro r k d f;show m _ (λq n=>k q (aAf _ n)) (by rw[List.length_set];show d) λi l=>?_;have:=k p aBL;rw[aCz (by lia)];show f i l
 let{d,f}:=g a _ h rfl λ_ _=>rfl;show{d,λi o e s=>?_};by_cases l:i<Y.length
 .have:o=.no:=by
   rcases W2 e with z|⟨j,_,t,_⟩
   .show z
   lia
  show k7 this s
 rw[f i (by lia)];show e
def DG:∀d ρ1,fC 2 (F4 (λd ρ=>.ok (ρ.set 0 (.v d))) (F4 (λd ρ=>.ok (ρ.set 1 (.v d))) kW)) d (i6 [x,y] e ρ)=.ok ρ1->jZ ρ1 (i6 [x,y] e ρ):=λd ρ1 h=>by
 have f:∀g:List D,g.length=2->F4 (λd ρ=>.ok (ρ.set 0<|.v d)) (F4 (λd ρ=>.ok (ρ.set 1<|.v d)) kW) g (i6 [x,y] e ρ)=.ok ρ1->jZ ρ1 (i6 [x,y] e ρ)
  |[a,b],_,h=>by cases h;show qQ (Y:=[x,y]) [(0,a),(1,b)] (by simp)
 unfold fC at h;split at h
 .split at h
  .show f _ ‹_› h
  cases h
 .split at h
  .show f _ ‹_› h
  cases h
 cases h
def FA:∀d ρ1,fC 3 (F4 (λd ρ=>.ok (ρ.set 0 (.v d))) (F4 (λd ρ=>.ok (ρ.set 1 (.v d))) (F4 (λd ρ=>.ok (ρ.set 2 (.v d))) kW))) d (i6 [x,y,z] e ρ)=.ok ρ1->jZ ρ1 (i6 [x,y,z] e ρ):=λd ρ1 h=>by
 have f:∀g:List D,g.length=3->F4 (λd ρ=>.ok (ρ.set 0<|.v d)) (F4 (λd ρ=>.ok (ρ.set 1<|.v d))<|F4 (λd ρ=>.ok (ρ.set 2<|.v d)) kW) g (i6 [x,y,z] e ρ)=.ok ρ1->jZ ρ1 (i6 [x,y,z] e ρ)
  |[a,b,c],_,h=>by cases h;show qQ (Y:=[x,y,z]) [(0,a),(1,b),(2,c)] (by simp)
 unfold fC at h;split at h
 .split at h
  .show f _ ‹_› h
  cases h
 .split at h
  .show f _ ‹_› h
  cases h
 cases h
end DL
namespace DL.Att2
open PySem PySem.W PySem.Calls PyProof.Rows
def attach_bits{l:OpenLaw}{n:Nat}{q:bc}{b:List Str}{t:(Str->Option au)->cf->Prop}{u:bM->cf->Prop}{d:DefRec}
  (B:l.most=some n) (k:d.params.defaults=[])
  (call:∀(w:bM) (m e:aL) (mg p:dM) (fa:a9) (o:Obj) (s cd g:au) (a:a9) (vs:List au) (ns:List Int),
   Ground q b [] t w m mg p e.heap->u w e.heap->
   e.heap.get? fa=some o->o.data=.func (docDef d.name d.params d.body d.scope s cd g)->e.heap.CodeRec cd d.name->mg d.name=some (.ref fa)->
   e.heap.get? a=some {cls:=.type "list",data:=.seq vs.toArray}->IntsAre vs ns->ns.length<=n->(∀x∈ns,aBd x<=1048576)->e.gens=#[]->
   gn (bb l.prog w) callerA (.call (.ref fa) {[.ref a],[]}) (λr s'=>r=.ok (.ret (.bool true))/\OldK e.heap s'.heap/\s'.os=e.os/\AllBare s'.gens) e):
  WalkO q b t u l.row.toRowW d [] (λf vs=>PySem.call f vs):=by
 intro w m e mg p G Y fa o s cd g C kV E H I v J L y z as N A O Q T;obtain rfl:C=.none:=Dflts.none v k;obtain rfl:kV=.none:=Dflts.noKw v;let{a,vs,ns,rfl,rfl,i,h,j}:=Att.script_of B N Q;have U:=DL.zT (ns:=ns) (by lia);show enter_call (aEd (call w m e mg p fa o s cd g a vs ns G Y E (fd_plain H) I J i h j U L) λr s' hq=>?_);let{rfl,h2,h3,h4}:=hq;show{.inl {.bool true,.bool true,[],rfl,λ_=>rfl,.bool true,Att.post_true l _,λ_=>{aGQ,λ_ hm=>(nomatch hm)}},h2,h3,h4}
end DL.Att2
namespace DL
open PySem PySem.Spec L2
open PyProof.Rows hiding St
variable [Tabs]
end DL
namespace DL
open PySem L2
abbrev bits(a:Int):Nat:=aBd a
def j4(h:t7 a b):lH (.int a) (.int b)=.ok (.int (a*b)):=km h
def aX(h:zW b):T7 (.int a) (.int b)=.ok (.int (a.fdiv b)):=km h
def sH(h:b≠0):eV (.int a) (.int b)=.ok (.int (a.fmod b)):=km h
def t7.of(d:bits a<=m)(e:bits b<=n)(f:m<=60000000<|>2)(g:n<=60000000<|>2):t7 a b:={aAo d f,aAo e g}
def bits_add(d:bits a<=n)(e:bits b<=n):bits (a+b)<=n+1:=by have:=PyProof.Rows.bits_add d e;rw[Nat.max_self]at this;show this
def bits_sub(d:bits a<=n)(e:bits b<=n):bits (a-b)<=n+1:=by have:=PyProof.Rows.bits_sub d e;rw[Nat.max_self]at this;show this
def bits_mul(d:bits a<=m)(e:bits b<=n):bits (a*b)<=m+n:=PyProof.Rows.bits_mul d e
def bits_neg(b:bits a<=m):bits (-a)<=m:=PyProof.Rows.bits_neg b
def JQ(h:a.natAbs<2^n):bits a<=n:=PyProof.Rows.intBits_le h
def KC(h:bits a<=n):a.natAbs<2^n:=PyProof.Rows.lt_pow_of_bits h (aAi n)
@[simp]def kN(d:D)(ρ:Ev):M1 0 (Sl.v d::ρ)=.ok d:=rfl
@[simp]def qS(i:Nat)(x:Sl)(ρ:Ev):M1 (i+1) (x::ρ)=M1 i ρ:=rfl
@[simp]def zk(d:D)(ρ:Ev):iD 0 (Sl.v d::ρ)=.ok d:=rfl
@[simp]def GW(d:List D)(ρ:Ev):iD 0 (Sl.o d::ρ)=.ok (.lst d):=rfl
@[simp]def CZ(i:Nat)(x:Sl)(ρ:Ev):iD (i+1) (x::ρ)=iD i ρ:=rfl
@[simp]def TM(d:D)(ρ:Ev):XS d ρ=.ok d:=rfl
@[simp]def C4(ρ:Ev)(F:Ev->R Out):A3 (.ok (.nx ρ)) F=F ρ:=rfl
@[simp]def a7o(d:D)(F:Ev->R Out):A3 (.ok (.rt d)) F=.ok (.rt d):=rfl
@[simp]def a8x(d:D):F7 (.ok (.rt d))=.ok d:=rfl
@[simp]def a8v(ρ:Ev):F7 (.ok (.nx ρ))=.ok .non:=rfl
@[simp]def a8q(e:Str):F7 (.ex e)=.ex e:=rfl
@[simp]def AZ(f:Ev->R D)(g:Ev->R (List D))(ρ:Ev):o8 f g ρ=(f ρ).bind λd=>(g ρ).bind λds=>.ok (d::ds):=rfl
@[simp]def JC(ρ:Ev):P9 ρ=.ok []:=rfl
@[simp]def b1v(a b:D):uJ [a,b]=.ok (.tup [a,b]):=rfl
@[simp]def b1o(a b c:D):uJ [a,b,c]=.ok (.tup [a,b,c]):=rfl
@[simp]def b1f(a b c d:D):uJ [a,b,c,d]=.ok (.tup [a,b,c,d]):=rfl
@[simp]def b2h(a b:D):a2i [a,b]=.ok (.lst [a,b]):=rfl
@[simp]def b1y(x y z:D):V6 (.tup [x,y,z]) (.int 0)=.ok x:=rfl
@[simp]def b1b(x y z:D):V6 (.tup [x,y,z]) (.int 1)=.ok y:=rfl
@[simp]def b1h(x y z:D):V6 (.tup [x,y,z]) (.int 2)=.ok z:=rfl
@[simp]def b1w(x y z t:D):V6 (.tup [x,y,z,t]) (.int 0)=.ok x:=rfl
@[simp]def b1j(x y z t:D):V6 (.tup [x,y,z,t]) (.int 1)=.ok y:=rfl
@[simp]def b1i(x y z t:D):V6 (.tup [x,y,z,t]) (.int 2)=.ok z:=rfl
@[simp]def b1q(x y z t:D):V6 (.tup [x,y,z,t]) (.int 3)=.ok t:=rfl
@[simp]def b2d(x y:D):V6 (.tup [x,y]) (.int 0)=.ok x:=rfl
@[simp]def b1l(x y:D):V6 (.tup [x,y]) (.int 1)=.ok y:=rfl
def dH(h:tY Y i=some d):V6 (.lst Y) (.int i)=.ok d:=by erw[V6,h]
def UF{Y:List D}{i:Int}{d:D}(h:tY Y i=some d):V6 (.tup Y) (.int i)=.ok d:=by erw[V6,h]
@[simp]def qz(a b:Int):tR (.int a) (.int b)=.ok (.int (a+b)):=rfl
@[simp]def yZ(a b:Int):NP (.int a) (.int b)=.ok (.int (a-b)):=rfl
@[simp]def a9h(a b:Int):ltR (.int a) (.int b)=.ok (.bl (decide (a<b))):=rfl
@[simp]def EX(a b:Int):leR (.int a) (.int b)=.ok (.bl (decide (a<=b))):=rfl
@[simp]def yY(a b:Int):gtR (.int a) (.int b)=.ok (.bl (decide (b<a))):=rfl
@[simp]def RF(a b:Int):geR (.int a) (.int b)=.ok (.bl (decide (b<=a))):=rfl
@[simp]def a9y(a:Int):a7g (.int a)=.ok (.int (-a)):=rfl
@[simp]def JH(b:Bool):OP (.bl b)=.ok b:=rfl
@[simp]def b2f(b:Int):toI (.int b)=.ok (some b):=rfl
@[simp]def DR(Y:List D):kU [.lst Y]=.ok (.int Y.length):=rfl
@[simp]def UW(a:Int):a1f [.int a]=.ok (.int (if a<0 then-a else a)):=rfl
@[simp]def xM(f g:Ev->R Bool)(ρ:Ev):AB f g ρ=(f ρ).bind λb=>if b=true then g ρ else .ok false:=rfl
@[simp]def a9z(f g:Ev->R Bool)(ρ:Ev):orB f g ρ=(f ρ).bind λb=>if b=true then .ok true else g ρ:=rfl
@[simp]def qU(a b:Int):XI (.int a) (.int b)=.ok (.bl (a==b)):=by erw[XI];rfl
@[simp]def DP(a b:Int):OK (.int a) (.int b)=.ok (.bl (!(a==b))):=by erw[OK];rfl
@[simp]def a1c(a b c d e f:Int):XI (.tup [.int a,.int b,.int c]) (.tup [.int d,.int e,.int f])=.ok (.bl (a==d&&(b==e&&c==f))):=by simp[XI,C6,x4,u7,aT]
@[simp]def FD(a b c d e f:Int):OK (.tup [.int a,.int b,.int c]) (.tup [.int d,.int e,.int f])=.ok (.bl (!(a==d&&(b==e&&c==f)))):=by simp[OK,C6,x4,u7,aT]
def W6{a:Type}{Y:List a}{k:Int}(h0:0<=k):tY Y k=Y[k.toNat]?:=by
 unfold tY xk;rw[km h0];by_cases h:k<Y.length
 .rw[km h];rfl
 nofun
def dZ(n:Nat)(Y:List D):Prop:=∀x∈Y,∃i,x=.int i/\bits i<=n
def qy{n:Nat}{ns:List Int}(h:∀x∈ns,bits x<=n):dZ n (ns.map D.int):=λx a=>by let{i,b,rfl}:=aAj.mp a;show{i,rfl,h i b}
def BI(g:Int->Int)(Y:List D)(k:Int):D:=match Y[k.toNat]? with
 |some d=>d
 |none=>.int (g k)
def a2o:D->Bool
 |.int _=>true
 |_=>false
def y6(b:-((2:Int)^n)<a)(d:a<(2:Int)^n):bits a<=n:=JQ (by
 have e:((2^n:Nat):Int)=(2:Int)^n:=by simp
 omega)
def bits_fmod{a b:Int}{n:Nat}(h0:b≠0)(d:bits b<=n):bits (a.fmod b)<=n:=PyProof.Rows.bits_fmod_by h0 d
def bits_fdiv(d:bits a<=n):bits (a.fdiv b)<=n:=PyProof.Rows.bits_fdiv d
def f9(h:bits a<=m)(b:m<=n<|>2):bits a<=n:=aAo h b
@[simp]def a4w(Y:List D):pZ (.lst Y)=.ok Y:=rfl
@[simp]def NB(Y:List D):JT (.tup Y)=.ok Y:=rfl
@[simp]def a4j(G:D->Ev->R Ev)(ft:Ev->R Bool)(fe:Ev->R D)(ρ:Ev):x9 G ft fe ρ []=.ok []:=rfl
@[simp]def a8n(d:D):seen (.v d)=.v d:=rfl
def tx(x:D)(r:List D):V6 (.tup (x::r)) (.int 0)=.ok x:=UF (by rw[W6 (by symm)];rfl)
def sj(x y:D)(r:List D):V6 (.tup (x::y::r)) (.int 1)=.ok y:=UF (by rw[W6 (by symm)];rfl)
def uw(x y z:D)(r:List D):V6 (.tup (x::y::z::r)) (.int 2)=.ok z:=UF (by rw[W6 (by symm)];rfl)
theorem jG(Iv:Nat->Ev->Prop)(b:∀n ρ,Iv (n+1) ρ->c ρ=.ok false\/(c ρ=.ok true/\∃ρ2,F ρ=.ok (.nx ρ2)/\Iv n ρ2))(a:∀ρ,¬Iv 0 ρ):∀n ρ,Iv n ρ->∃m ρ',T1 c F n ρ=.ok (.nx ρ')/\Iv m ρ'/\c ρ'=.ok false
 |0,ρ,h=>k7 h (a ρ)
 |n+1,ρ,h=>by
  rcases b n ρ h with e|⟨e,ρ2,d,f⟩
  .show{n+1,ρ,by rw[T1,e];rfl,h,e}
  let{m,ρ',g,i,j}:=jG Iv b a n ρ2 f;show{m,ρ',by rw[T1,e];erw[d];show g,i,j}
def MC{Iv:Nat->Ev->Prop}(b:∀n ρ,Iv (n+1) ρ->c ρ=.ok false\/(c ρ=.ok true/\∃ρ2,F ρ=.ok (.nx ρ2)/\Iv n ρ2))(h0:Iv n ρ)(f:∀n ρ',Iv n ρ'->c ρ'=.ok false->F7 (g ρ')=.ok d)(a:∀ρ,¬Iv 0 ρ:=by(intro ρ;rintro⟨x,y,_,z,_⟩;omega)):
  F7 (A3 (T1 c F n ρ) g)=.ok d:=by
 let{m,ρ',e,h,i}:=jG Iv b a n ρ h0;rw[e];show f m ρ' h i
end DL
namespace DL
open PySem PySem.Spec L2
open PyProof.Rows hiding St
section
variable [Tabs]
section
variable{K:lM}
def EnvOk.ad1(E:EnvOk K e f H O g ρ)(i:Nat)(h:H a=none)(d:K.lookup a=none)(r:Reps K H O vs Y):
  EnvOk K e f (upd H a (.lst vs)) (λb=>O b\/b=a) (g.set i (some (.ref a))) (ρ.set i (.o Y)):=
 E.ae1 i h d trivial λj=>{a,vs,rfl,.inr rfl,j,j1,r.ac1 h d}
def EnvOk.disown(E:EnvOk K f g H O h ρ)(e:ρ[i]?=some (.o Y)):∃d,EnvOk K f g H d h (ρ.set i (.v (.lst Y)))/\(∀b,d b->O b):=by let{a,m,j,n,p,k,l}:=E.own i Y e;show{λb=>O b/\b≠a,E.af0 e trivial j (λz=>z) {.ref a,rfl,.lst (K4.of k) (λz=>z.2 rfl) (l.sub λ_ z=>z.1)},λb z=>z.1}
def EnvOk.write(E:EnvOk K k l H O f ρ)(e:ρ[i]?=some (.o Y))(m:f[i]?=some (some (V.ref a)))(r:Reps K H O b d):
  EnvOk K k l (upd H a (.lst b)) O f (ρ.set i (.o d))/\Kp H O (upd H a (.lst b)) O:=by
 let{g,q,s,h,n,j,t}:=E.own i Y e;have p:g=a:=by lia
 subst p;show E.ae6 e trivial m j trivial trivial λ_ _ _=>{g,b,rfl,h,n,j1,r.upd j trivial h}
end
section
def tF(X:Cx)(f:Ev->R (List D)):TE:=λi H Q=>∃j k O d,EnvOk X.K j k H O i d/\match f d with
 |.ok l=>∀g b a,Same H b->b a=none->Reps X.K b O g l->Q (.ref a) (upd b a<|.lst g)
 |.ex e=>∀h,Same H h->XW X e h
 |.bad=>False
def PF(X:Cx)(e:ck)(f:Ev->R (List D)):Prop:=PE X e (tF X f)
def KN(I:Inv X b f H s)(h:H a=some o):X.K.lookup a=none:=by
 cases e:X.K.lookup a with
 |none=>rfl
 |some d=>have:=(I.bs a d<|I.ok.mod.kin a d e).2;grind
def PF.pd(h:PF X e f):PD X e (λρ=>(f ρ).bind λds=>.ok (.lst ds)):=RE h λk H Q i j O ρ E q=>⟨i,j,O,ρ,E,by
 dsimp only at q;cases b:f ρ with
 |ok ds=>rw[b]at q;intro l m a g d r;show q _ _ (g.trans<|j3 d _) (.lst (K4.of j1) ((E.grow g).fresh d) (r.same<|j3 d _))
 |ex x=>rw[b]at q;show q
 |bad=>rw[b]at q;show q⟩
def fI(h:ES X es f):PF X (.List es e) (λρ=>(f ρ).bind λds=>if ds.length<=sizeLine then .ok ds else .bad):=
 RE (UU h) λn H Q g i O ρ E q=>⟨g,i,O,ρ,E,by
  dsimp only at q;cases a:f ρ with
  |ok ds=>
   rw[a,R.aa0]at q;intro j k l d;by_cases b:ds.length<=sizeLine
   .rw[km b]at q;show{by rw[d.length];show b,λp m=>q j k p l m d}
   rw[kn b]at q;show aAH q
  |ex x=>rw[a]at q;show q
  |bad=>rw[a]at q;show q⟩
def Z5(i:Nat)(L:PF X e f)(Q:X.N.Nodup)(T:X.N[i]?=some x<|>1)(U:Loc X.env.scope x<|>8)(Y:eI e (some (.Name x g)) p.line X.env=pure false<|>1)(hf:X.fn x=true\/X.env.scope.names.lookup x=some .local<|>7):
  nW X (.Assign [.Name x g] e p) (λρ=>(f ρ).bind λds=>.ok (.nx (ρ.set i (.o ds)))):=by
 rintro w A h s σ H D I ⟨O,ρ,E,fk,q⟩;dsimp only at q;show aEC (D3 (L h s σ H (λv B=>∃j d a ds,v=.ref a/\B=upd d a (.lst j)/\Same H d/\d a=none/\Reps X.K d O j ds/\RS X w A H O (.ok (.nx (ρ.set i<|.o ds))) D) I {w,A,O,ρ,E,?_}) λv C z9=>?_) Y
 .cases k:f ρ with
  |ok ds=>rw[k,R.aa0]at q;showλj d a C l r=>{j,d,a,ds,rfl,rfl,C,l,r,q}
  |ex x=>rw[k]at q;showλH' s=>q H' (E.same.trans s)
  |bad=>rw[k]at q;show q
 let{y,B,t,r2,j,d,a,ds,k,e2,m,l,r,q'}:=z9;subst k e2;show J9 t Q T U r2 (λs3 I3=>{_,_,I3,?_}) hf;have J:=(E.grow m).ad1 i l (KN t<|j1) r;show q' _ _ _ J (nG t _ J.trk) (λb o u n=>{by rw[l6 (p7 (m b o u) l)];show m b o u,λz=>z.elim n (p7 (m b o u) l)})
def QS(i:Nat)(ρ:Ev):Ev:=match ρ[i]? with
 |some (.o Y)=>ρ.set i (.v (.lst Y))
 |_=>ρ
def kQ(i:Nat){st:cp}(h:nW X st F):nW X st (λρ=>F (QS i ρ)):=by
 intro g j f s k H D I ⟨O,ρ,E,l,q⟩;dsimp only at q;unfold QS at q;cases e:ρ[i]? with
 |none=>rw[e]at q;show h g j f s k H D I {O,ρ,E,l,q}
 |some p=>
  rw[e]at q;cases p with
  |x C=>show h g j f s k H D I {O,ρ,E,l,q}
  |c m y=>show h g j f s k H D I {O,ρ,E,l,q}
  |d N=>show h g j f s k H D I {O,ρ,E,l,q}
  |no=>show h g j f s k H D I {O,ρ,E,l,q}
  |v d=>show h g j f s k H D I {O,ρ,E,l,q}
  |o Y=>let{r,t,sub}:=E.disown e;show h g j f s k H D I {r,_,t,λa o u z=>l a o u (sub a z),RS.grow q λb o w n=>{w,λz=>n (sub b z)}}
def zF(i:Nat)(ρ:Ev)(d:D):R Out:=match ρ[i]? with
 |some (.o Y)=>if Y.length<sizeLine then .ok (.nx (ρ.set i<|.o (Y++[d])))else .bad
 |_=>.bad
def L0(i:Nat)(z:PD X e f)(A:X.N[i]?=some x<|>1)(B:zS X.env.scope x<|>5)(I:(x==ma)=false<|>2)(J:(x==md)=false<|>2)(L:fb (.Name x p) "append" X.env (cy (.Name x p) X.env)=cy (.Name x p) X.env<|>1)(Q:(((cv g (a5 [e] X.env)).all (λx=>!x.1)&&(backToKw g (keywordEach [] X.env)).all (λx=>x.1.isSome)
   &&decide ([e].length+([]:List Keyword).length+(if([]:List Keyword).isEmpty then 0 else 1)<30))=true)<|>1) (T:(b.endLine==g.line)=true<|>1) (r:a5 [e] X.env=(false,cy e X.env)::a5 [] X.env<|>1) (U:(cv g (a5 [] X.env)).any (·.1)=false<|>1) (uf:eI (.Call (.Attribute (.Name x p) "append" b) [e] [] g) none l.line X.env=pure false<|>1):
  nW X (.Expr (.Call (.Attribute (.Name x p) "append" b) [e] [] g) l) (λρ=>(f ρ).bind (zF i ρ)):=λH9 O0=>
 DK (jX (xx PySem.F.plainAttrs_list PySem.F.slot_list_append PySem.F.type_list_append wF (M9 A B I J) (i4 z o9 r) L Q T r U) uf) λD σ H O ρ E fk q=>by
 cases j:f ρ with
 |ok d=>
  rw[j,R.aa0]at q;unfold zF at q;cases h:ρ[i]? with
  |none=>rw[h]at q;show(q).elim
  |some s=>
   rw[h]at q;cases s with
   |x C=>show(q).elim
   |c m φ=>show(q).elim
   |d N=>show aAH q
   |no=>show aAH q
   |v d=>show aAH q
   |o Y=>
    dsimp only at q;split at q
    .rename_i hz;let{a,t,u,h2,h3,w,y}:=E.own i Y h;show{_,u,.inl {rfl,t,K4.of w},H9,O0,O,ρ,E,?_};change MD X H O ((f ρ).bind λd=>(R.ok []).bind λds=>.ok (d::ds)) _;rw[j];intro us H1 k n;cases n with
     |cons n rn=>cases rn;show{a,t,_,rfl,rfl,k _ _ w,by rw[y.length];show hz,?_};let{E2,k2}:=(E.grow k).write h u ((y.same k).snoc n);show q σ _ O E2 fk ((Kp.of k).trans k2)
    show(q).elim
 |ex x=>
  rw[j]at q;cases h:ρ[i]? with
  |none=>show(q H E.same).elim
  |some s=>show(q H E.same).elim
 |bad=>rw[j]at q;show(q).elim
def XU(i:Nat)(ρ:Ev)(d:D):R Out:=match ρ[i]?,d with
 |some (.o Y),.lst a=>if Y.length+a.length<=sizeLine then .ok (.nx (ρ.set i<|.o (Y++a)))else .bad
 |_,_=>.bad
def FU(i:Nat)(ρ:Ev):R (D×Ev):=match ρ[i]? with
 |some (.o Y)=>match Y[Y.length-1]? with
  |some d=>.ok (d,ρ.set i (.o Y.dropLast))
  |none=>.bad
 |_=>.bad
def ZS(i:Nat)(r:X.N[i]?=some x<|>1)(s:zS X.env.scope x<|>5)(t:(x==ma)=false<|>2)(u:(x==md)=false<|>2)(w:fb (.Name x p) "pop" X.env (cy (.Name x p) X.env)=cy (.Name x p) X.env<|>1)(y:(b.endLine==j.line)=true<|>1)(A:eI (.Call (.Attribute (.Name x p) "pop" b) [] [] j) none f.line X.env=pure false<|>1):
  nW X (.Expr (.Call (.Attribute (.Name x p) "pop" b) [] [] j) f) (λρ=>(FU i ρ).bind λz=>.ok (.nx z.2)):=λU O0=>
 DK (jX (FN PySem.F.plainAttrs_list PySem.F.slot_list_pop PySem.F.type_list_pop QP (M9 r s t u) w y) A) λD B H O ρ E I q=>by
 unfold FU at q;cases e:ρ[i]? with
 |none=>rw[e]at q;show(q).elim
 |some J=>
  rw[e]at q;cases J with
  |x C=>show aAH q
  |c m φ=>show aAH q
  |d N=>show aAH q
  |no=>show aAH q
  |v d=>show aAH q
  |o Y=>
   dsimp only at q;cases g:Y[Y.length-1]? with
   |none=>rw[g]at q;show aAH q
   |some d=>rw[g]at q;let{a,k,l,h2,h3,n,h}:=E.own i Y e;let{v,L,g2}:=h.get g;show{_,l,.inl {rfl,k,K4.of n},a,k,v,rfl,rfl,n,by rw[h.length];show L,?_};let{Q,T}:=E.write e l h.dropLast;show q B _ O Q I T
def HI(j i:Nat)(f:X.N.Nodup)(ig:i≠j<|>2)(A:X.N[i]?=some x<|>1)(B:X.N[j]?=some y<|>1)(I:zS X.env.scope x<|>5)(J:(x==ma)=false<|>2)(L:(x==md)=false<|>2)(Q:fb (.Name x p) "pop" X.env (cy (.Name x p) X.env)=cy (.Name x p) X.env<|>1)(T:(b.endLine==n.line)=true<|>1)(g:Loc X.env.scope y<|>8)(U:eI (.Call (.Attribute (.Name x p) "pop" b) [] [] n) (some (.Name y py)) h.line X.env=pure false<|>1)(hf:X.fn y=true\/X.env.scope.names.lookup y=some .local<|>7):
  nW X (.Assign [.Name y py] (.Call (.Attribute (.Name x p) "pop" b) [] [] n) h) (λρ=>(FU i ρ).bind λz=>.ok (.nx (z.2.set j (.v z.1)))):=λH9 O0=>
 DK (VJ f B g (FN PySem.F.plainAttrs_list PySem.F.slot_list_pop PySem.F.type_list_pop QP (M9 A I J L) Q T) U hf) λD σ H O ρ E r q=>by
 unfold FU at q;cases e:ρ[i]? with
 |none=>rw[e]at q;show(q).elim
 |some sl=>
  rw[e]at q;cases sl with
  |x C=>show(q).elim
  |c m φ=>show(q).elim
  |d N=>show(q).elim
  |no=>show(q).elim
  |v d=>show(q).elim
  |o Y=>
   dsimp only at q;cases k:Y[Y.length-1]? with
   |none=>rw[k]at q;show(q).elim
   |some d=>rw[k]at q;let{a,s,t,h2,h3,u,l}:=E.own i Y e;let{v,g1,g2}:=l.get k;show{_,t,.inl {rfl,s,K4.of u},a,s,v,rfl,rfl,u,by rw[l.length];show g1,?_};let{E2,w}:=E.write e t l.dropLast;show q _ _ O (E2.set j<|w.rep E.trk r g2) r w
def MI(i:Nat)(own fr:List Str)(j:List Nat)(hN:X.N.Nodup)(hc:X.calm=true)(S:CompSc X f own fr j)(hi:XM X tg iter fi)(hX:∀(g:O6) (fp:List a9) (Y:Cx),(∃s9 Ha C,Y=EG X g s9 Ha (own++fr) f (dQ X f C) C fp)->MQ Y tg G/\XF Y k ft/\PD Y l fe)(hG:∀ρ d ρ1,G d (i6 own j ρ)=.ok ρ1->jZ ρ1 (i6 own j ρ))(hy:X.N[i]?=some y<|>1)(t:X.env.scope.names.lookup y=some .local<|>1)(uf:eI (.ListComp l [{tg,iter,k,0}] f pos) (some (.Name y py)) u.line X.env=pure true<|>1)(hs:(∀x,eQ iter X.env x=pure x)<|>6):
  nW X (.Assign [.Name y py] (.ListComp l [{tg,iter,k,0}] f pos) u) (λρ=>((fi ρ).bind λds=>if ds.length<=sizeLine then(x9 G ft fe (i6 own j ρ) ds).bind λrs=>R.ok rs else .bad).bind λrs=>.ok (.nx (ρ.set i (.o rs)))):=by
 rintro H9 O0 g s σ H D I ⟨O,ρ,E,fk,q⟩;dsimp only at q;rw[exec_Assign_Name_used _ _ _ _ uf];show aAa (aFc<|aAa ?_);show aAa (aCH (aEe (use:=some (kd (.Name y py) X.env)) rfl hs (aP<|Inv.aa9 I S) S.kind S.names<|D3 (hi g s σ H (λJ w=>∃ds rs,Same H w/\xy X.K J w O ds/\ds.length<=sizeLine/\x9 G ft fe (i6 own j ρ) ds=.ok rs/\RS X H9 O0 H O (.ok (.nx (ρ.set i<|.o rs))) D) I ⟨H9,O0,O,ρ,E,nG I O E.trk,?_⟩) λv s1 h1=>D3 h1 λitv s2 h2=>?_) (λ_ s' hq=>aAc (aAc hq)) λ_ _ e=>e)
 .cases e1:fi ρ with
  |ex x=>rw[e1]at q;showλH' s=>q H' (E.same.trans s)
  |bad=>rw[e1]at q;show q
  |ok ds=>
   rw[e1,R.aa0]at q;intro J w s1 hJ;split at q
   .rename_i hl;cases e2:x9 G ft fe (i6 own j ρ) ds with
    |ex x=>rw[e2]at q;show(q H E.same).elim
    |bad=>rw[e2]at q;show q.elim
    |ok rs=>rw[e2]at q;show{ds,rs,s1,hJ,hl,e2,q}
   show q.elim
 let{it,fp,tn,J,H2,e,A,T,ko,f2,ds,rs,L,hJ,hl,hrs,q}:=h2;subst e;show rK hc S (hX g fp) (hG ρ) A T ko f2 (E.grow L) hJ.c hrs hl ?_;intro B C s' H' m hn hCa h has sm' r nw hC hI;have I3:=hI s'.heap (aGT ..);show wpAny_assign_Name (vO (v:=.ref B) I3 hN hy (.inl t) rfl (λs4 I4 z9=>?_)<|.inr t);let{a,hsb,ha}:=z9;have jh:∀x c,X.env.cells.lookup x=some c->c≠C:=λx c hc=>by let{v,hv}:=A.cell x c hc;show aAl (aAn hv.lt h)
 have hCL:=aBY (aAn A.lt h);have Q:C≠a:=by grind
 show{m,hn.sameBut hsb Q,λh' jo=>?_};let{w,vs,qh,zr,eH,rr}:=nw;subst eH;have E2:=((E.grow L).grow qh).ad1 i zr (KN I3<|j1 (H:=w)) rr;show{_,_,(I4.turned (t':=s4.toks) (λb o U e=>(jo.2 b U).trans e) hC hCL (.inr (aAo A.sz h)) jh λp hp=>aAl (aAn (aAd (A.pin p hp).1) h)),q _ _ _ E2 (nG I3 _ E2.trk) λb o U n=>{by rw[l6 (p7 ((L.trans qh) b o U) zr)];show(L.trans qh) b o U,λz=>z.elim n (p7 ((L.trans qh) b o U) zr)}}
def fK(i:Nat)(own r:List Str)(g:List Nat)(hN:X.N.Nodup)(hc:X.calm=true)(S:CompSc X f own r g)(s:XM X t iter L)(hX:∀(h:O6) (fp:List a9) (p:Cx),(∃s9 Ha C,p=EG X h s9 Ha (own++r) f (dQ X f C) C fp)->MQ p t G/\XF p j ft/\PD p l fe)(hG:∀ρ d ρ1,G d (i6 own g ρ)=.ok ρ1->jZ ρ1 (i6 own g ρ))(hy:X.N[i]?=some y<|>1)(u:X.env.scope.names.lookup y=some .local<|>1)(uf:eI (.ListComp l [{t,iter,j,0}] f w) (some (.Name y py)) m.line X.env=pure true<|>1)(hs:(∀x,eQ iter X.env x=pure x)<|>6):
  nW X (.Assign [.Name y py] (.ListComp l [{t,iter,j,0}] f w) m) (λρ=>((L ρ).bind λds=>if ds.length<=sizeLine then(x9 G ft fe (i6 own g ρ) ds).bind λrs=>.ok (D.lst rs)else .bad).bind λd=>.ok (.nx (ρ.set i (.v d)))):=λQ T=>DK (MI i own r g hN hc S s hX hG hy u uf hs Q T) λD σ H O ρ E fk q=>⟨O,ρ,E,fk,by
 dsimp only at q⊢;cases A:L ρ with
 |ex x=>rw[A]at q;show q
 |bad=>rw[A]at q;show q
 |ok ds=>
  rw[A,R.aa0]at q;rw[R.aa0];by_cases U:ds.length<=sizeLine
  .rw[km U]at q⊢;cases B:x9 G ft fe (i6 own g ρ) ds with
   |ex x=>rw[B]at q;show q
   |bad=>rw[B]at q;show q
   |ok rs=>
    rw[B]at q;intro ag H' O' I f' J;by_cases s:i<ρ.length
    .let{O2,E2,sub}:=I.disown (Y:=rs) (by rw[aBM s]);rw[List.set_set]at E2;show q ag H' O2 E2 (λa o k z=>f' a o k (sub a z)) λb o hb n=>{(J b o hb n).1,λz=>(J b o hb n).2 (sub b z)}
    have e:∀x,ρ.set i x=ρ:=λx=>List.set_eq_of_length_le (by lia);have q:RS X Q T H O (.ok (.nx (ρ.set i<|.v (.lst rs)))) D:=q;rw[e]at I q;show q ag H' O' I f' J
  rw[kn U]at q;show(q).elim⟩
def mJ{st:cp}:nW X st (λ_=>.bad):=λa b=>DK QK λD d H O e E f q=>q
end
end
section
theorem cH{d β:Type}[BEq d][LawfulBEq d]:∀{l:List (d×β)}{a:d}{b:β},(l.map (·.1)).Nodup->(a,b)∈l->l.lookup a=some b
 |(x,y)::l,a,b,h,g=>by
  rw[aAm,aAZ]at h;rw[aBg];rcases aAe.mp g with e|f
  .cases e;simp
  have:(a==x)=false:=by rw[beq_eq_false_iff_ne];rintro rfl;show h.1 (aAj.mpr {(a,b),f,rfl})
  rw[this];show cH h.2 f
theorem mem_lookup{d β:Type}[BEq d][LawfulBEq d]:∀{l:List (d×β)}{a:d}{b:β},l.lookup a=some b->(a,b)∈l
 |(x,y)::l,a,b,h=>by
  rw[aBg]at h;split at h
  .rename_i q;grind
  show .tail _ (mem_lookup h)
def yA(o:Obj):Prop:=∃v,o.data=.cell v
def gQ(H:Hp)(cs:O6):Hp:=λb=>match cs.lookup b with
 |some o=>some (.frz o (.own b))
 |none=>H b
def U8(H:Hp)(cs:O6):Hp:=λb=>match cs.lookup b with
 |some _=>none
 |none=>H b
section
variable{K:lM}
def gI(e:cs.lookup b=some o):gQ H cs b=some (.frz o (.own b)):=by unfold gQ;rw[e]
def R9(e:cs.lookup b=none):gQ H cs b=H b:=by unfold gQ;rw[e]
def bK(e:cs.lookup b=some o):U8 H cs b=none:=by unfold U8;rw[e]
def N5(e:cs.lookup b=none):U8 H cs b=H b:=by unfold U8;rw[e]
def F1(a:∀b o,cs.lookup b=some o->H b=none)(e:H b=some u):gQ H cs b=some u:=by
 cases q:cs.lookup b with
 |none=>rw[R9 q];show e
 |some o=>nofun
def fS(a:∀b o,cs.lookup b=some o->H b=none):Same H (gQ H cs):=λb u e=>F1 a e
def v9(a:∀b o,cs.lookup b=some o->H b=some (.frz o (.own b)))(e:H b=some u)(ne:∀o,cs.lookup b=some o->u≠.frz o (.own b)):U8 H cs b=some u:=by
 cases q:cs.lookup b with
 |none=>rw[N5 q];show e
 |some o=>nofun
def QH(x:iG P w H h)(a:∀b o,cs.lookup b=some o->h.get? b=some o/\H b=none):iG P w (gQ H cs) h:=λb u e=>by
 have d:=λb o q=>(a b o q).2;cases q:cs.lookup b with
 |some o=>rw[gI q]at e;cases e;show{(a b o q).1,{o,(a b o q).1}}
 |none=>rw[R9 q]at e;show(x b u e).ab8 (λ_ _ _ z=>z) (λc z=>F1 d z) λc u _ z=>F1 d z
def VF(x:iG P w H h)(d:∀b o,cs.lookup b=some o->H b=some (.frz o (.own b))/\yA o):iG P w (U8 H cs) h:=λb u e=>by
 have g:=λb o q=>(d b o q).1;cases q:cs.lookup b with
 |some o=>rw[bK q]at e;cases e
 |none=>
  rw[N5 q]at e;show(x b u e).ab8 (λ_ _ _ z=>z) (λc z=>v9 g z λo _ a=>by cases a) λc u f z=>v9 g z λo q a=>?_;subst a;let{i,j}:=f;let{v,k}:=(d c o q).2
  lia
def a0v(U:Un fs [] (gQ H cs) g h h')(k:iG P w g h')(i:∀b o,cs.lookup b=some o->h.get? b=some o/\H b=none/\yA o):Un fs [] H (U8 g cs) h h'/\iG P w (U8 g cs) h'/\∀b o,cs.lookup b=some o->g b=some (.frz o (.own b)):=by
 have j:=λb o q=>(i b o q).2.1;have a:=λb o q=>U.frzs b o _ (gI q);show{{λb o e n l d=>?_,λb o e n l d=>?_,λb o e n d=>?_,λb o e d=>U.there b o e d,λb Y e=>?_,λb o u e=>?_,λb m e=>?_},VF k λb o q=>{a b o q,(i b o q).2.2},a}
 .cases q:cs.lookup b with
  |none=>show U.keep b o e (by rw[R9 q];show n) l d
  |some f=>have:=(i b f q).1;rw[e]at this;cases this;show(k b _<|a b o q).1
 .cases q:cs.lookup b with
  |none=>show U.slot b o e (by rw[R9 q];show n) l d
  |some f=>have:=(i b f q).1;rw[e]at this;cases this;show{o.slots,(k b _<|a b o q).1}
 .cases q:cs.lookup b with
  |none=>rw[N5 q];show U.free b o e ((R9 q)▸n) d
  |some f=>show bK q
 .show v9 a (U.tups b Y<|F1 j e) λo _ z=>by cases z
 .show v9 a (U.frzs b o u<|F1 j e) λf q z=>?_
  nofun
 show v9 a (U.tbls b m<|F1 j e) λo _ z=>by cases z
def a4e(U:Un fs [] (U8 H cs) f h h')(k:iG P w f h')(i:∀b o,cs.lookup b=some o->h.get? b=some o/\H b=some (.frz o (.own b))/\b∉fs):Un fs [] H (gQ f cs) h h'/\iG P w (gQ f cs) h'/\Same f (gQ f cs):=by
 have j:=λb o q=>(i b o q).2.1;have g:=λb o q=>U.free b o (i b o q).1 (bK q) (by simp);have a:∀b,H b=none->cs.lookup b=none:=λb n=>by
  cases q:cs.lookup b with
  |none=>rfl
  |some o=>nofun
 show⟨{λb o e n l d=>U.keep b o e (by rw[N5 (a b n)];show n) l d,λb o e n l d=>U.slot b o e (by rw[N5 (a b n)];show n) l d,λb o e n d=>?_,λb o e d=>U.there b o e d,λb Y e=>?_,λb o u e=>?_,λb m e=>?_},
  QH k λb o q=>{(λb o q=>U.keep b o (i b o q).1 (bK q) (i b o q).2.2 (by simp)) b o q,g b o q},fS g⟩
 .rw[R9 (a b n)];show U.free b o e ((N5<|a b n)▸n) d
 .show F1 g (U.tups b Y (v9 j e λo _ z=>by cases z))
 .cases q:cs.lookup b with
  |none=>show F1 g (U.frzs b o u<|(N5 q)▸e)
  |some p=>rw[j b p q]at e;cases e;show gI q
 show F1 g (U.tbls b m (v9 j e λo _ z=>by cases z))
def JI(d:∀b o,cs.lookup b=some o->H b=some (.frz o (.own b)))(q:S5 K H a Y):S5 K (U8 H cs) a Y:=by
 rcases q with(q|⟨o,q⟩)|q
 .show .inl (.inl (v9 d q λo _ z=>by cases z))
 .show .inl (.inr {o,v9 d q λo _ z=>by cases z})
 show .inr q
def JF(d:∀b o,cs.lookup b=some o->H b=some (.frz o (.own b)))(q:K4 K H a Y):K4 K (U8 H cs) a Y:=by
 rcases q with(q|⟨o,q⟩)|q
 .show .inl (.inl (v9 d q λo _ z=>by cases z))
 .show .inl (.inr {o,v9 d q λo _ z=>by cases z})
 show .inr q
def IG{cs:O6}{a:cf->Prop}(d:∀b o,cs.lookup b=some o->H b=some (.frz o (.own b)))(q:H b=some (.ext a)):U8 H cs b=some (.ext a):=by
 unfold U8;cases e:cs.lookup b with
 |none=>exists q
 |some o=>nofun
def Rep.hid(a:∀b o,cs.lookup b=some o->H b=some (.frz o (.own b)))(r:Rep K H O v d):Rep K (U8 H cs) O v d:=r.mono (λ_ _ q=>JI a q) (λ_ _ n q=>{n,JF a q}) λb e n q=>{n,IG a q}
def Reps.hid(a:∀b o,cs.lookup b=some o->H b=some (.frz o (.own b)))(r:Reps K H O v d):Reps K (U8 H cs) O v d:=r.mono (λ_ _ q=>JI a q) (λ_ _ n q=>{n,JF a q}) λb e n q=>{n,IG a q}
end
variable [Tabs]
section
variable(P:bc) (w:bM) (K:lM) (mg:dM) (base:cf) (k:Nat)
def OO(n:Nat)(m:List D->R D)(H:Hp)(O:a9->Prop)(a:a9):Prop:=
 (∃i j l p,H a=some (.frz {i,j,.func l,p} (.own a)))/\
 ∀(A:bt) (b:List Env) (s:aL) (g:List au) (h:List V) (e:List D) (d:D) (Q:VK) (E:XK),Room k A->Env0 P w K mg base A b s H->o5 h g->Reps K H O h e->e.length=n->(∀a,O a->∃o,H a=some o/\Mt o)->Tb H->U6 K O->m e=.ok d->
  (∀v f,Same H f->Rep K f O v d->Q v f)->gn (bb P w) A (.call (.ref a) {g,[]}) (CR uF b P w H s Q E) s
end
open Classical in
def callC(Φ:(List D->R D)->Hp->(a9->Prop)->a9->Prop) (i:Nat) (f:Ev->R (List D)):Ev->R D:=λa=>match a[i]? with
 |some (.c m b)=>if b=Φ m then(f a).bind m else .bad
 |_=>.bad
section
def WV(i:Nat)(ha:ES X (e::es) f)(hl:AD f n)(hr:Room k X.A)(hN:X.N[i]?=some x<|>1)(hv:zS X.env.scope x<|>5)(hd:(x==ma)=false<|>2)(eh:(x==md)=false<|>2)(he:a5 (e::es) X.env=(false,cy e X.env)::a5 es X.env<|>1)(bo:(cv h (a5 es X.env)).any (·.1)=false<|>1):
  PD X (.Call (.Name x p) (e::es) [] h) (callC (OO X.prog X.w X.K X.mg X.base k n) i f):=by
 show rM λb s U H Q I H9 O0 O y E q=>?_;unfold callC at q;cases B:y[i]? with
 |none=>rw[B]at q;show q.elim
 |some l=>
  rw[B]at q;cases l with
  |c m φ=>
   dsimp only at q;split at q
   .rename_i C;subst C;let{a,h1,Y}:=E.slot i _ B;let{{oc,od,fd,l,hf},_}:=Y H O (Kp.refl _ _);show aAP (D3 (M9 hN hv hd eh b s U H (λv H'=>v=.ref a/\H'=H) I {_,h1,rfl,rfl}) λu s1 z9=>?_);let{v,H1,I1,r1,ev,eH}:=z9;subst ev eH;obtain rfl:u=aCV a:=r1;show PySem.W.callWith_F {oc,od,fd,l,(I1.hok a _ hf).1} (D3 (ha h b s1 U H1 _ I1 {H9,O0,O,y,E,MD.seq q}) λus s2 ⟨vs,H2,o,rv,J,e2,L,rr,g⟩=>{{oc,od,fd,l,(o.hok a _<|L _ _ hf).1},?_}) he bo;cases t:m J with
    |ex z=>rw[t]at g;show(g H2<|Same.refl _).elim
    |bad=>rw[t]at g;show g.elim
    |ok d=>
     rw[t]at g;have T:=E.grow L;show wpAny_call (aEd ((Y H2 O<|Kp.of L).2 X.A X.stack s2 us vs J d Q (λ_ _ _=>False) hr o.af5 rv rr (hl y J e2) T.trk T.tab (nG o O T.trk) t g) λr s' j=>?_);cases r with
     |error e=>show j.elim
     |ok fl=>
      cases fl with
      |ret u=>show o.after j
      |next=>show aAH j
      |brk=>show aAH j
      |cont=>show aAH j
   show q.elim
  |_=>show q.elim
end
def spF(K:lM)(Φ:(List D->R D)->Hp->(a9->Prop)->a9->Prop)(M:D->(List D->R D)->(List D->R D)->R D):Sp:=λl H Q _=>∃O v1 g h i j k d,l=[v1,.ref h,.ref j]/\Rep K H O v1 g/\(∀b e,Kp H O b e->Φ i b e h)/\(∀b e,Kp H O b e->Φ k b e j)/\
 (∀a,O a->∃o,H a=some o/\Mt o)/\Tb H/\U6 K O/\M g i k=.ok d/\∀v f,Same H f->Rep K f O v d->Q v f
def lI(N:List Str)(Φ:(List D->R D)->Hp->(a9->Prop)->a9->Prop)(d:D)(a b:List D->R D):Ev:=.v d::.c a (Φ a)::.c b (Φ b)::aDa (N.length-3) Sl.no
def HZ{K:lM}{H:Hp}{O:a9->Prop}{N:List Str}{v1:V}{f:D}{a1 a2:a9}{g k:List D->R D}{Φ:(List D->R D)->Hp->(a9->Prop)->a9->Prop}(r:Rep K H O v1 f)(l:∀d e,Kp H O d e->Φ g d e a1)(m:∀d e,Kp H O d e->Φ k d e a2)
  (t:∀a,O a->∃o,H a=some o/\Mt o) (tb:Tb H):EnvOk K H O H O (start N [v1,.ref a1,.ref a2]) (lI N Φ f g k)where
 len:=by simp[L2.start,lI]
 same:=Same.refl H
 sub:=λ_ h=>h
 trk:=t
 trk0:=λa h=>let⟨o,q,_⟩:=t a h;{o,q}
 tab:=tb
 slot:=λi n h=>by
  match i with
  |0=>cases h;show{v1,rfl,r}
  |1=>cases h;show{a1,rfl,l}
  |2=>cases h;show{a2,rfl,m}
  |i+3=>
   have b:(aDa (N.length-3) Sl.no)[i]?=some n:=h;rw[aBJ]at b;split at b
   .cases b;trivial
   cases b
 inj:=λi j x y a h _ o=>by
  match i with
  |0=>cases h;show o.elim
  |1=>cases h;show o.elim
  |2=>cases h;show o.elim
  |i+3=>
   have b:(aDa (N.length-3) Sl.no)[i]?=some x:=h;rw[aBJ]at b;split at b
   .cases b;show o.elim
   cases b
section
variable{K:lM}
def fnF{x qual:Str}{st:cp}{f:a9}{l:dI}{N ps:List Str}{k:Nat}{M:D->(List D->R D)->(List D->R D)->R D}{Φ:(List D->R D)->Hp->(a9->Prop)->a9->Prop}{F:Ev->R Out}(p:Fun K x qual st f l)(S:FnScope N ps (b9 st))(t:ps.length=3)
  (u:∀(T:au) (A:bt) (a:List Env) (s:aL) (H:Hp) (E:XK),Room k (A.deeper (envOfC qual (b9 st) s.heap.objs.size f T))->bV (QU P w K mg base N qual (b9 st) f T A a s H E) (p5 st) F)
  (v:∀g i j d,M g i j=.ok d->F7 (F (lI N Φ g i j))=.ok d):FnOk P w K mg base uF (k+1) f l ps (spF K Φ M):=by
 show p.ok S (λy H Q E z=>by let{O,v1,g,B,i,C,j,d,e,_}:=z;rw[e,t];rfl) (λT A a s H y Q E I z=>?_);let{O,v1,g,B,i,C,j,d,J,r,L,U,Y,tb,fk,e,q}:=z;subst J;show{_,u T A a s H E I H O,O,_,HZ r L U Y tb,fk,?_};have h:=v g i j d e;cases m:F (lI N Φ g i j)with
 |ok o=>
  rw[m]at h;cases o with
  |rt d'=>have b:R.ok d'=R.ok d:=h;injection b with b;subst b;show q
  |nx n=>have b:R.ok D.non=R.ok d:=h;injection b with b;subst b;showλag H' O' E' _ _=>q .non H' E'.same .non
  |bk n=>cases h
  |ct n=>cases h
 |ex x=>nofun
 |bad=>rw[m]at h;cases h
end
structure NScope(ps ls fn:List Str)(sc:Scope):Prop where
 kind:sc.kind=.function
 co:sc.isCoroutine=false
 gen:sc.isGenerator=false
 nd:(ps++(ls++fn)).Nodup
 par:∀x∈ps,sc.names.lookup x=some .local
 fre:∀x∈fn,sc.names.lookup x=some .free
 all:∀x,sc.names.lookup x=some .free->x∈fn
 nocell:∀y∈sc.names,y.2≠.cell
abbrev cxM(P:bc)(w:bM)(K:lM)(mg:dM)(base:cf)(N:List Str)(env:Env)(A:bt)(outer:List Env)(s:aL)(H:Hp):Cx where
 prog:=P
 w:=w
 K:=K
 mg:=mg
 base:=base
 A:=A.deeper env
 N:=N
 s9:=s
 H9:=H
 env:=env
 outer:=outer
 stack:=env::outer
 ex:=[]
 calm:=true
 fn:=λ_=>false
 pn:=[]
 xe:=λ_ _=>False
def N7{a:Type}(vs:List a)(n:Nat)(no:a)(ws:List a):List a:=vs++(aDa n no++ws)
def iU{b:Type}{vs ws:List b}{n i:Nat}{no a:b}(h:(N7 vs n no ws)[i]?=some a):vs[i]?=some a\/a=no\/(vs.length+n<=i/\ws[i-(vs.length+n)]?=some a):=by
 unfold N7 at h;by_cases d:i<vs.length
 .rw[aAY d]at h;show .inl h
 rw[aAC (by nofun)]at h;by_cases e:i-vs.length<n
 .rw[aAY (by nofun),aBJ,km e]at h
  nofun
 rw[aAC (by nofun),aCs]at h;grind
def RD{b:Type}{vs ws:List b}{n i:Nat}{no a:b}(h:vs[i]?=some a):(N7 vs n no ws)[i]?=some a:=by unfold N7;rw[aAY (aAw.mp h).1];show h
def UP{b:Type}{vs ws:List b}{n i:Nat}{no a:b}(h:ws[i]?=some a):(N7 vs n no ws)[vs.length+n+i]?=some a:=by unfold N7;rw[aAC (by lia),aAC (by simp;lia),aCs,show vs.length+n+i-vs.length-n=i by lia];show h
section
variable{K:lM}
def HH{A:bt}{f:List Env}{s:aL}{H:Hp}{J:List au}{vs m:List V}{h₁:cf}{tk:Nat}(S:NScope ps n fn g)(O:A.handled=none)(j:Env0 P w K mg base A f s H)(E:vs.length=ps.length)(r:o5 vs J)(L:m.length=fn.length)
  (N:∀(i:Nat) (x:Str) (v:V),fn[i]?=some x->m[i]?=some v->∃c u,clos.lookup x=some c/\RelV v u/\s.heap.IsCell c (some u)) (B:∀x c,clos.lookup x=some c->(∃v,s.heap.IsCell c v)/\H c=none)
  (Q:∀x y c,clos.lookup x=some c->clos.lookup y=some c->x=y) (T:h₁.Ns s.heap.objs.size (λx=>(ps.zip J).reverse.lookup x)) (C:∀b o,s.heap.get? b=some o->h₁.get? b=some o):
  Inv (cxM P w K mg base (ps++(n++fn)) (PySem.W.envX qual g s.heap.objs.size fa cd clos) A f s H) [] (N7 (vs.map some) n.length none (m.map some)) H {s with heap:=h₁,toks:=tk}:=by
 have k:∀b:a9,b∉(cxM P w K mg base (ps++(n++fn)) (PySem.W.envX qual g s.heap.objs.size fa cd clos) A f s H).ex:=λb z=>k7 (z) (by simp);show⟨{j.mod,S.kind,rfl,rfl,aAi _,Q,λy l=>?_,λy c U _=>(by cases U),λ_=>O,aGz j.frames,.inr {rfl,rfl},λb z=>k7 z (k b),j.bs,j.bsz,λb _ _=>k b,λb z=>k7 z (k b),j.funs,j.frf},
  rfl,j.bare,Un.kept C,{_,T,λi y v Y d h3=>?_},λy c h=>?_,j.hok.fresh (aAi _),λy c h=>(B y c h).2,λp hp=>k7 (hp) (by simp),j.hok.kept C,?_⟩
 .have l:=l;rcases l with l|l
  .show k7 rfl (S.nocell _<|PySem.mem_of_lookup l)
  have hm:=S.all y l;let{i,hi,e}:=aBh hm;have hw:i<m.length:=by rw[L];show hi
  let{c,u,q,_}:=N i y m[i] (by nofun) (aAk hw);show{c,q}
 .have t:=Y;rcases iU d with d|d|⟨h4,d⟩
  .rw[aAF]at d;cases e:vs[i]? with
   |none=>rw[e]at d;cases d
   |some a=>
    rw[e]at d;have I:a=v:=Option.some.inj (Option.some.inj d);subst I;let{u,hu,rv}:=r.get e;rw[aAY (by grind)]at t;show{u,rv,.inl {S.par y (aAs t),(cH ?_ ?_)}}
    .rw[aGg];show(List.reverse_perm _).nodup_iff.mpr ?_;rw[List.map_fst_zip (E▸r.length▸aAi _)];show((aCE.mp S.nd).1)
    rw[aCh];show aAs (i:=i) (by rw[aBy];show{t,hu})
  .cases d
  rw[aAg]at h4 d;rw[aAF]at d;cases e:m[i-(vs.length+n.length)]? with
  |none=>rw[e]at d;cases d
  |some a=>rw[e]at d;have I:a=v:=Option.some.inj (Option.some.inj d);subst I;rw[aAC (by lia),aAC (by lia),<-E,show i-vs.length-n.length=i-(vs.length+n.length)by lia]at t;let{c,u,q1,q2,q3}:=N _ y a t e;show{u,q2,.inr {.inr (S.fre y<|aAs t),c,q1,q3.keeps C}}
 .let{{v,z},_}:=B y c h;show{v,z.keeps C}
 unfold N7;simp[E,L]
def EJ{H:Hp}{O:a9->Prop}{vs b:List V}{ds wd:List D}{n:Nat}(r:Reps K H O vs ds)(k:Reps K H O b wd)(t:∀a,O a->∃o,H a=some o/\Mt o)(tb:Tb H):
  EnvOk K H O H O (N7 (vs.map some) n none (b.map some)) (N7 (ds.map Sl.v) n .no (wd.map Sl.v))where
 len:=by unfold N7;simp[r.length,k.length]
 same:=Same.refl H
 sub:=λ_ h=>h
 trk:=t
 trk0:=λa h=>let⟨o,q,_⟩:=t a h;{o,q}
 tab:=tb
 slot:=λi l h=>by
  rcases iU h with h|h|⟨p,h⟩
  .rw[aAF]at h;cases e:ds[i]? with
   |none=>rw[e]at h;cases h
   |some d=>rw[e]at h;have f:Sl.v d=l:=Option.some.inj h;subst f;let{v,m,g}:=r.get e;show{v,RD (by nofun),g}
  .subst h;trivial
  rw[aAF,aAg]at h;rw[aAg]at p;cases e:wd[i-(ds.length+n)]? with
  |none=>rw[e]at h;cases h
  |some d=>rw[e]at h;have f:Sl.v d=l:=Option.some.inj h;subst f;let{v,m,g}:=k.get e;show{v,?_,g};have:=UP (vs:=vs.map some) (n:=n) (no:=(none:Option V)) (ws:=b.map some) (by rw[aAF,m];rfl);rw[aAg,r.length,show ds.length+n+(i-(ds.length+n))=i by nofun]at this;show this
 inj:=λi j x y a h _ o=>by
  rcases iU h with h|h|⟨_,h⟩
  .let{d,_,rfl}:=aAj.mp (aAs h);show o.elim
  .subst h;show o.elim
  let{d,_,rfl}:=aAj.mp (aAs h);show o.elim
def a2a{name:Str}{C:Arguments}{body:List cp}{doc pm ctv:au}{L:a9}{oc:Obj}{k:Nat}{m:List D->R D}{F:Ev->R Out}{H:Hp}{O:a9->Prop}{cs:O6}{wv:List V}{wd:List D}(S:NScope ps ls fn g)
  (hb:∀(A:bt) (f:List Env) (s:aL) (H:Hp),Room k (A.deeper (PySem.W.envX qual g s.heap.objs.size fa (.ref L) clos))->bV (cxM P w K mg base (ps++(ls++fn)) (PySem.W.envX qual g s.heap.objs.size fa (.ref L) clos) A f s H) body F)
  (hm:∀ds d,ds.length=ps.length->m ds=.ok d->F7 (F (N7 (ds.map Sl.v) ls.length .no (wd.map Sl.v)))=.ok d)
  (xi:∀(s:aL) (T:List au),T.length=ps.length->BindsTo s (PySem.W.fnX name qual C body g clos .none .none doc pm none (.ref L) ctv) {T,[]} (ps.zip T))
  (hfa:H fa=some (.frz (PySem.W.fnMade name qual C body g clos doc pm L ctv) (.own fa))) (hc:H L=some (.frz oc (.own L))) (de:∃vs t,oc.data=.fields vs/\vs[1]?=some (.str qual t))
  (xa:∀b o,cs.lookup b=some o->H b=some (.frz o (.own b))/\yA o) (yu:∀(i:Nat) (x:Str) (v:V),fn[i]?=some x->wv[i]?=some v->∃c u o,clos.lookup x=some c/\cs.lookup c=some o/\o.data=.cell (some u)/\RelV v u)
  (hcc:∀x c,clos.lookup x=some c->∃o,cs.lookup c=some o) (ku:∀x y c,clos.lookup x=some c->clos.lookup y=some c->x=y) (ue:wv.length=fn.length) (hr:Reps K H O wv wd) (hO:∀a,O a->∃o,H a=some o/\Mt o):
  ∀l Y,Kp H O l Y->OO P w K mg base (k+1) ps.length m l Y fa:=by
 intro l Y kp;have fz:∀b o u,H b=some (.frz o u)->l b=some (.frz o u):=λb o u e=>(kp b _ e λz=>by let{o',q,mt}:=hO b z;rw[e]at q;cases q;show mt).1;have N:∀b o,cs.lookup b=some o->l b=some (.frz o (.own b)):=λb o q=>fz _ _ _ (xa b o q).1;show{{_,_,_,_,fz _ _ _ hfa},λA f s T vs ds d Q E pf j rv rr hl ht tb fk em q=>?_};have KX:K.In s.heap:=j.mod.kin.keeps λb o e=>(j.bs b o e).1;have goc:=(j.hok L _<|fz _ _ _ hc).1;let{ovs,ot,od1,od2}:=de;have U:∀b,l b=none->U8 l cs b=none:=λb n=>by
  cases z:cs.lookup b with
  |none=>rw[N5 z];show n
  |some o=>show bK z
 have e1:Env0 P w K mg base A f s (U8 l cs):={j.frames,j.mod,λb o e=>{(j.bs b o e).1,U b (j.bs b o e).2},j.bsz,j.funs,λb hb=>U b (j.frf b hb),VF j.hok λb o z=>{N b o z,(xa b o z).2},j.bare};have zu:∀b o,cs.lookup b=some o->s.heap.get? b=some o:=λb o z=>(j.hok b _<|N b o z).1;have cfs:∀b o,cs.lookup b=some o->b∉BF f:=λb o z hb=>by have:=j.frf b hb;rw[N b o z]at this;cases this
 have hul:T.length=ps.length:=by rw[<-rv.length,rr.length];show hl
 have hvl:vs.length=ps.length:=by rw[rr.length];show hl
 have rwv:=(kp.ab9 hO fk hr).hid N;have ht1:∀a,Y a->∃o,U8 l cs a=some o/\Mt o:=λa z=>by let{o,q1,q2}:=ht a z;show{o,v9 N q1 λo' _ z'=>by subst z';show q2,q2}
 let Q':VK:=λv H3=>(∀b o,cs.lookup b=some o->H3 b=none)->Q v (gQ H3 cs)
 have qq:∀v B,Same (U8 l cs) B->Rep K B Y v d->Q' v B:=λv B sm r hn=>by
  show q v _ (λb u e=>?_) (r.same<|fS hn);cases z:cs.lookup b with
  |none=>show F1 hn (sm b u (by rw[N5 z];show e))
  |some o=>rw[N b o z]at e;cases e;show gI z
 have fin:∀{u:au}{s':aL},CE f P w (U8 l cs) s Q' u s'->CE f P w l s Q u s':=λ{u s'} ⟨v,H3,os,bare,un,hok,r,qv⟩=>by let{U2,k2,yt}:=a4e un hok λb o z=>{zu b o z,N b o z,cfs b o z};show{v,_,os,bare,U2,k2,r,qv λb o z=>un.free b o (zu b o z) (bK z) (by simp)}
 show codeAny_call_def (body:=body) (binds:=ps.zip T) pf.depth ((j.hok fa _<|fz _ _ _ hfa).1) rfl (j.mod.nolimit.keeps λb o e=>(j.bs b o e).1) {L,oc,ovs,ot,rfl,goc,od1,od2} rfl (xi s T hul) S.nocell (λy hy=>S.par y.1 (aCM hy).1) (λh₁ zi hk=>?_) S.co S.gen S.kind;have I:=HH (qual:=qual) (fa:=fa) (cd:=.ref L) (clos:=clos) (tk:=s.toks+(ps.zip T).length) S pf.hd e1 hvl rv ue (λi x v h1 h2=>by
   let{c,u,o,q1,q2,q3,q4}:=yu i x v h1 h2;show{c,u,q1,q4,o,zu c o q2,q3}) (λx c h=>by
   let{o,z}:=hcc x c h;let{v,z2}:=(xa c o z).2;show{{v,o,zu c o z,z2},bK z}) ku zi hk
 have hx:=hb A f s (U8 l cs) (pf.deeper _) (U8 l cs) Y [] _ _ _ {nx:=λ_ B=>Q' .non B,rt:=Q'} I {Y,_,EJ (rr.hid N) rwv ht1 (λp hp=>v9 N (tb p hp) λo _ z=>by cases z),fk,?_}
 .show aCH hx (λfl s' hs=>?_) λe s' hs=>hs.elim;have fin2:∀{ag:St}{B:Hp}{v:V}{u:au},Inv (cxM P w K mg base (ps++(ls++fn)) (PySem.W.envX qual g s.heap.objs.size fa (.ref L) clos) A f s<|U8 l cs) [] ag B s'->RelV v u->Q' v B->CE f P w l s Q u s':=
   λ{ag B v u} J rv q=>fin {v,B,J.os,J.bare,J.base,J.hok,rv,q}
  cases fl with
  |ret u=>let{v,ag,B,J,rv,q}:=hs;show fin2 J rv q
  |next=>let{ag,B,J,q}:=hs;show fin2 (v:=V.non) (u:=Value.none) J rfl q
  |brk=>let{_,_,_,q}:=hs;show aAH q
  |cont=>let{_,_,_,q}:=hs;show aAH q
 have h:=hm ds d hl em;cases e1:F (N7 (ds.map Sl.v) ls.length .no (wd.map Sl.v))with
 |ok o=>
  rw[e1]at h;cases o with
  |rt d'=>have h':R.ok d'=R.ok d:=h;injection h' with h';subst h';show qq
  |nx ρ=>have h':R.ok D.non=R.ok d:=h;injection h' with h';subst h';showλag B O' E' _ _=>qq .non B E'.same .non
  |bk ρ=>cases h
  |ct ρ=>cases h
 |ex x=>rw[e1]at h;cases h
 |bad=>rw[e1]at h;cases h
end
end
section
variable [Tabs]
def kY(mg:dM)(base:cf):Prop:=∃b a,mg "__builtins__"=some (.ref b)/\b≠builtinsNs/\base.get? b=some a/\a.cls=.type "module"/\a.dict=some builtinsNs/\a.data=.plain
def vH:∀(l:List au),TriplesOk l->gh d l=some x->gh d (l++[dm a,dm b,c])=some x:=λl h e=>by
 fun_induction TriplesOk l with
 |case1=>simp[gh]at e
 |case2 i t j u y rest g=>
  erw[aBF,gh]at e⊢;split at e
  .rename_i f;rw[km f];show e
  rename_i f;rw[kn f];show g h e
 |case3 l k m=>show h.elim
def WS(ne:¬(a=d.line/\b=d.col)):∀(l:List au),TriplesOk l->gh d l=none->gh d (l++[dm a,dm b,c])=none:=λl h e=>by
 fun_induction TriplesOk l with
 |case1=>erw[aDN,dm,gh];rw[kn];erw[aAI,beq_iff_eq];show ne
 |case2 i t j u y rest f=>
  erw[aBF,gh]at e⊢;split at e
  .cases e
  rename_i g;rw[kn g];show f h e
 |case3 l k m=>show h.elim
def iM(H:Hp)(fa:a9)(name qual:Str)(a:Arguments)(body:List cp)(b:gW)(clos:List (Str×a9)):Prop:=
 ∃d g e i f,H fa=some (.frz (PySem.W.fnMade name qual a body b clos e i d f) (.own fa))/\H d=some (.frz g (.own d))/\∃h t,g.data=.fields h/\h[1]?=some (.str qual t)
def iM.same(h:iM H fa name qual a body b clos)(s:Same H H'):iM H' fa name qual a body b clos:=
 let⟨f,g,d,i,e,j,k,l⟩:=h;{f,g,d,i,e,s _ _ j,s _ _ k,l}
section
def BM{Q:Flow->aL->Prop}(I:Inv X pins σ H s)(hB:kY X.mg X.base)(ke:X.env.code=.ref c)(hK:PySem.W.codeHdIn X.K c m=true)(hT:H m=some (.tbl tb))(hq:qualnameIn X.env name name=qual)(hm:(f,qual)∈tb)(hu:∀p∈tb,p.1.line=f.line->p.1.col=f.col->p.2=qual)(yu:closureFor d X.env=pure clos)(hd0:a.defaults=[])(hk0:a.kw_defaults=[])(ha:annTrees a none X.env=[])(hN:X.N.Nodup)(hi:X.N[i]?=some name)(hx:Loc X.env.scope name)(hf:X.fn name=true\/X.env.scope.names.lookup name=some .local)(h:∀fa H' s',Inv X pins (σ.set i (some (.ref fa))) H' s'->Same H H'->iM H' fa name qual a body d clos->Q .next s'):ba (bb X.prog X.w) X.A (exec (.FunctionDef name a body [] none [] d none name f) X.env) Q X.xe s:=by
 show PySem.W.nestDef_K hd0 hk0 ha ?_;rw[hq];have hg:=I.mod.glob.keeps I.bk;have C:PySem.W.CodeHd s.heap c m:=PySem.W.codeHd_of_K I.kIn hK;let{ps,hP,l,E}:=I.hok m _ hT;have hgP:be≠m:=λq=>by let{o,es,ep,e,hd,_}:=hg;grind
 have J:s.heap.BuiltinsAt X.mg m:=by
  let{bm,ob,b1,b2,b3,b4,b5,b6}:=hB;have b3':=I.bk _ _ b3;show{bm,ob,b1,b2,λq=>?_,λq=>?_,b3',b4,b5,b6}
  .let{o,es,ep,e,hd,_}:=hg;grind
  grind
 have L:∀b,H b=none->b≠m:=λb n z=>by rw[z,hT]at n;cases n
 rcases E _ hm with hnf|⟨k,oc,vs,t,hf',ym,eh⟩
 .show PySem.W.makeFunction_K (mg:=X.mg) yu I.ok.glob hg ke C hP l hnf hgP J λk g j h' tk hx' x ao hrec htb=>?_;let{c2,oc,vs,t,e2,de,hd,hv}:=hrec;cases e2;have old:∀b u,H b=some u->b<s.heap.objs.size:=λb u e=>I.hok.lt e;have y:=I.hok.fresh (aAo x<|aDj ao);have ncf:=aAl ao;have B:Same H (upd (upd H k<|.frz oc (.own k)) h'.objs.size<|.frz (PySem.W.fnMade name qual a body d clos j ((X.mg "__name__").getD .none) k g) (.own h'.objs.size)):=λb u e=>by rw[l6 (p7 e y),l6 (p7 e<|I.hok.fresh x)];show e
  have pg:∀b o,b≠m->s.heap.get? b=some o->(h'.push<|PySem.W.fnMade name qual a body d clos j ((X.mg "__name__").getD .none) k g).get? b=some o:=λb o J e=>aAb _ (hx' b o J e);have lts:∀b o,s.heap.get? b=some o->b≠k/\b≠h'.objs.size:=λb o e=>{aAl (aAn (aAd e) x),aAl (aAn (aAd e)<|aAo x<|aDj ao)};have I1:=I.step (H':=upd (upd H k<|.frz oc (.own k)) h'.objs.size (.frz (PySem.W.fnMade name qual a body d clos j ((X.mg "__name__").getD .none) k g) (.own h'.objs.size)))
   (h':=h'.push (PySem.W.fnMade name qual a body d clos j ((X.mg "__name__").getD .none) k g)) (g':=s.gens) (t':=tk) (d':=s.drawn) (ch:=[]) (λ_ z=>nomatch z) (λb o _ _ _ e n=>pg b o (L b n) e) (λb o _ _ _ e n=>{o.slots,pg b o (L b n) e})
   (λb o _ e n=>by rw[l6 (lts b o e).2,l6 (lts b o e).1];show n) (λb o _ e=>by
    by_cases J:b=m
    .subst J;show{_,aAb _ htb}
    .show{o,pg b o J e}) (λb Y e=>B _ _ e) (λb o u e=>B _ _ e) (λb tb e=>B _ _ e) (λm' hm'=>by
    let{o,es,ep,e,r}:=hm';show{o,es,ep,pg _ o (L _ I.free) e,r}) (λb u e=>by
    by_cases hbf:b=h'.objs.size
    .subst hbf;rw[j1]at e;cases e;show{aAh _ rfl,_,aAh _ rfl}
    rw[l6 hbf]at e;by_cases hbc:b=k
    .subst hbc;rw[j1]at e;cases e;show{aAb _ de,_,aAb _ de}
    rw[l6 hbc]at e;by_cases hbP:b=m
    .subst hbP;rw[hT]at e;cases e;show{_,aAb _ htb,?_,λp hp=>?_}
     .rw[aGK];show TriplesOk_snoc _ _ _ _ l
     rw[aGK];change gh p.1 (ps.toList++[dm f.line,dm f.col,.ref k])=none\/_;by_cases O:(f.line:Int)=p.1.line/\(f.col:Int)=p.1.col
     .rcases E p hp with T|⟨c3,U,vs3,t3,T,h1,h2⟩
      .have e1:f.line=p.1.line:=by exact_mod_cast O.1
       have e2:f.col=p.1.col:=by exact_mod_cast O.2
       show .inr {k,oc,vs,t,?_,by rw[l6 ncf,j1],hd,?_}
       .rw[e1,e2];show codeAmong_snoc _ l T
       grind
      show .inr {c3,U,vs3,t3,vH _ l T,B _ _ h1,h2}
     rcases E p hp with T|⟨c3,U,vs3,t3,T,h1,h2⟩
     .show .inl (WS O _ l T)
     show .inr {c3,U,vs3,t3,vH _ l T,B _ _ h1,h2}
    show(I.hok b u e).ab8 (λb2 v hc q=>pg b2 v (λz=>?_) q) (λb2 z=>B _ _ z) λb2 u _ z=>B _ _ z;rcases hc with hc|hc
    .show hbP (hc▸z)
    rw[z,hT]at hc;cases hc) I.bare
  show J9 I1 hN hi hx (show RelV (.ref h'.objs.size) _ from rfl) (λs' I'=>h _ _ s' I' B {k,oc,j,_,g,j1,by rw[l6 ncf,j1],vs,t,hd,hv}) hf
 show PySem.W.makeFunction_hit (mg:=X.mg) yu I.ok.glob hg ke C hP l hf' J λg j h' tk hk fu=>?_;have y:=I.hok.fresh fu;have I1:=I.laid (o:=.frz (PySem.W.fnMade name qual a body d clos j ((X.mg "__name__").getD .none) k g) (.own h'.objs.size)) (h':=h'.push (PySem.W.fnMade name qual a body d clos j ((X.mg "__name__").getD .none) k g)) (t':=tk)
  (λb u e=>aAb _ (hk b u e)) fu {aAh _ rfl,_,aAh _ rfl}
 show J9 I1 hN hi hx (show RelV (.ref h'.objs.size) _ from rfl) (λs' I'=>h _ _ s' I' (j3 y _) {k,oc,j,_,g,j1,j3 y _ _ _ ym,vs,t,eh}) hf
end
structure Nst where
 name:Str
 qual:Str
 params:Arguments
 body:List Stmt
 scope:Scope
 pos:Pos
 ps:List Str
 ls:List Str
 fn:List Str
 js:List Nat
 F:Ev->R Out
 mm:List D->List D->R D
 i:Nat
abbrev Nst.stmt(n:Nst):cp:=.FunctionDef n.name n.params n.body [] none [] n.scope none n.name n.pos
structure NstOk(X:Cx)(k:Nat)(n:Nst):Prop where
 sc:NScope n.ps n.ls n.fn n.scope
 one:n.ps.length=1
 body:∀(fa:Addr) (cd:Value) (clos:List (Str×Addr)) (A:Around) (outer:List Env) (s:Shared) (H:Hp),Room k (A.deeper (PySem.W.envX n.qual n.scope s.heap.objs.size fa cd clos))->bV (cxM X.prog X.w X.K X.mg X.base (n.ps++(n.ls++n.fn)) (PySem.W.envX n.qual n.scope s.heap.objs.size fa cd clos) A outer s H) n.body n.F
 mm:∀wd ds d,wd.length=n.fn.length->ds.length=n.ps.length->n.mm wd ds=.ok d->F7 (n.F (N7 (ds.map Sl.v) n.ls.length .no (wd.map Sl.v)))=.ok d
 bind:∀(clos:List (Str×Addr)) (doc pm cd ctv:Value) (us:List Value),us.length=n.ps.length->bindArgs (PySem.W.fnX n.name n.qual n.params n.body n.scope clos .none .none doc pm none cd ctv) {us,[]}=pure (n.ps.zip us)
 len:n.js.length=n.fn.length
 at_:∀(i j:Nat) (x:Str),n.js[i]?=some j->n.fn[i]?=some x->X.N[j]?=some x/\X.env.scope.names.lookup x=some .cell
 d0:n.params.defaults=[]
 k0:n.params.kw_defaults=[]
 nm:X.N[n.i]?=some n.name
 lc:Loc X.env.scope n.name
 st:X.fn n.name=true\/X.env.scope.names.lookup n.name=some .local
 dbg:(n.name==ma)=false
 cdt:(n.name==md)=false
structure ClosOk(X:Cx)(n:Nst)(clos:List (Str×Addr)):Prop where
 eq:closureFor n.scope X.env=pure clos
 ann:annTrees n.params none X.env=[]
 qn:qualnameIn X.env n.name n.name=n.qual
 sub:∀x c,clos.lookup x=some c->X.env.cells.lookup x=some c
 has:∀x∈n.fn,∃c,clos.lookup x=some c
def fG:List Nat->Ev->R (List D)
 |[],_=>.ok []
 |j::b,a=>(M1 j a).bind λd=>(fG b a).bind λe=>.ok (d::e)
theorem VT{K:lM}{l H:Hp}{m O:a9->Prop}{g:St}{ρ:Ev}(E:EnvOk K l m H O g ρ):∀{a:List Nat}{wd:List D},fG a ρ=.ok wd->∃b,Reps K H O b wd/\b.length=a.length/\∀(i j:Nat) (v:V),a[i]?=some j->b[i]?=some v->g[j]?=some (some v):=by
 intro n wd h;cases n with
 |nil=>cases h;show{[],.nil,rfl,λi j v e=>by simp at e}
 |cons j a=>
  unfold fG at h;cases k:M1 j ρ with
  |ok d=>
   rw[k,R.aa0]at h;cases f:fG a ρ with
   |ok t=>
    rw[f,R.aa0]at h;cases h;let{b,r,o,at_}:=VT E f;have:ρ[j]?=some (.v d):=by
     unfold M1 at k
     lia
    let{v,u,p}:=E.val j d this;show{v::b,.cons p r,by simp[o],λi q s w x=>?_};cases i with
    |zero=>nofun
    |succ i=>show at_ i q s (by nofun) (by nofun)
   |ex z=>rw[f]at h;cases h
   |bad=>rw[f]at h;cases h
  |ex z=>nofun
  |bad=>nofun
section
def Y8(h:cf)(a:List (Str×a9)):List (a9×Obj):=a.filterMap λp=>(h.get? p.2).map λo=>(p.2,o)
def L4(e:(Y8 h a).lookup b=some o):h.get? b=some o/\∃x,(x,b)∈a:=by
 let{p,d,q}:=aCb.mp (mem_lookup e);cases z:h.get? p.2 with
 |none=>nofun
 |some f=>grind
def oC(f:(x,b)∈a)(e:h.get? b=some o):∃d,(Y8 h a).lookup b=some d:=by
 have:(b,o)∈Y8 h a:=aCb.mpr {(x,b),f,by change(h.get? b).map _=_;rw[e];rfl};cases q:(Y8 h a).lookup b with
 |some d=>show{d,rfl}
 |none=>have:=List.lookup_eq_none_iff.mp q (b,o) this;simp at this
def a7l(X:Cx)(n1 n2:Nst)(clos1 clos2:List (Str×a9))(f:Ev->R D)(M:D->(List D->R D)->(List D->R D)->R D):TE:=λd H Q=>∃g h O b e a,EnvOk X.K g h H O d b/\d[n1.i]?=some (some<|V.ref e)/\d[n2.i]?=some (some<|V.ref a)/\
 iM H e n1.name n1.qual n1.params n1.body n1.scope clos1/\iM H a n2.name n2.qual n2.params n2.body n2.scope clos2/\RC X H O ((f b).bind λj=>(fG n1.js b).bind λk=>(fG n2.js b).bind λl=>M j (n1.mm k) (n2.mm l)) Q
def BY{n:Nst}{clos a:List (Str×a9)}{k:Nat}{g:O6}{σ:St}{H:Hp}{s:aL}{H9:Hp}{O0 O:a9->Prop}{ρ:Ev}{fa:a9}{wd:List D}(ok:NstOk X k n)(h:ClosOk X n clos)(I:Inv X g σ H s)(E:EnvOk X.K H9 O0 H O σ ρ)
  (hA:∀p∈clos,p∈a) (j:∀x b,(x,b)∈a->X.env.cells.lookup x=some b) (l:iM H fa n.name n.qual n.params n.body n.scope clos) (hw:fG n.js ρ=.ok wd):
  ∀r t,Kp (gQ H (Y8 s.heap a)) O r t->OO X.prog X.w X.K X.mg X.base (k+1) 1 (n.mm wd) r t fa:=by
 let{c',oc,N,pm,Q,h1,h2,h3}:=l;let{wv,qi,hl,at_}:=VT E hw;have hn:∀b o,(Y8 s.heap a).lookup b=some o->H b=none:=λb o q=>by let{_,x,T}:=L4 q;show I.freeC x b (j x b T)
 have L:=fS hn
 suffices z:∀r t,Kp (gQ H<|Y8 s.heap a) O r t->OO X.prog X.w X.K X.mg X.base (k+1) n.ps.length (n.mm wd) r t fa by rw[ok.one]at z;show z
 show a2a (wd:=wd) ok.sc (λA f s H hr=>ok.body fa (.ref c') clos A f s H hr) (λds d U e=>ok.mm wd ds d (by rw[<-qi.length,hl,ok.len]) U e) (λs us U=>.of_eq (ok.bind clos N pm (.ref c') Q us U)) (L _ _ h1) (L _ _ h2) h3
  (λb o q=>{gI q,?_}) (λi x v B Y=>?_) (λx c q=>?_) (λx y c B Y=>I.ok.inj x y c (h.sub x c B) (h.sub y c Y)) (by rw[hl,ok.len]) (qi.same L) (E.grow L).trk
 .let{e1,x,T}:=L4 q;let{v,o',e2,e3}:=I.cell x b (j x b T);rw[e1]at e2;cases e2;show{v,e3}
 .have hi:i<n.js.length:=by rw[ok.len];show(aAw.mp B).1
  have ej:=aAk hi;let{hN,hk}:=ok.at_ i _ x ej B;let{m,zi,C}:=I.loc;let{u,ru,J}:=C _ x v hN (at_ i _ v ej Y) (.inr (.inl hk));rcases J with⟨kl,_⟩|⟨_,c,jh,o,ho,hd⟩
  .have hk'':X.env.scope.names.lookup x=some .local:=kl
   nofun
  let{c2,q3}:=h.has x (aAs B);have q4:=h.sub x c2 q3;rw[jh]at q4;cases q4;let{o',q5}:=oC (hA _<|PySem.mem_of_lookup q3) ho;have:=(L4 q5).1
  nofun
 let{v,o,ho,_}:=I.cell x c (h.sub x c q);show oC (hA _<|PySem.mem_of_lookup q) ho
def fj(qp:NstOk X k n1)(qr:NstOk X k n2)(yv:ClosOk X n1 clos1)(ju:ClosOk X n2 clos2)(C:∀x b,(x,b)∈clos1++clos2->X.env.cells.lookup x=some b)(FF:FnOk X.prog X.w X.K X.mg X.base uF kf g gd J (spF X.K (OO X.prog X.w X.K X.mg X.base (k+1) 1) M))(hr:Room kf X.A)(U:X.mg x=some (.ref g))(hk:PySem.W.keepIn X.K (.ref g)=true)(m:Binds X.K gd J [])(h3:J.length=3)(he:PD X e f)(yi:∀y,X.fn y=true)(hg:Gl X x<|>1)(gg:(x==ma)=false<|>2)(zl:a5 [e,.Name n1.name p1,.Name n2.name L] X.env=(false,cy e X.env)::a5 [.Name n1.name p1,.Name n2.name L] X.env<|>1)(hs2:a5 [.Name n1.name p1,.Name n2.name L] X.env=(false,cy (.Name n1.name p1) X.env)::a5 [.Name n2.name L] X.env<|>1)(hs3:a5 [.Name n2.name L] X.env=(false,cy (.Name n2.name L) X.env)::a5 [] X.env<|>1)(bo:(cv pos (a5 [.Name n1.name p1,.Name n2.name L] X.env)).any (·.1)=false<|>1):
  PE X (.Call (.Name x p) [e,.Name n1.name p1,.Name n2.name L] [] pos) (a7l X n1 n2 clos1 clos2 f M):=by
 rintro pins s σ H Q I ⟨H9,O0,O,Y,zv,fa2,E,h1,h2,md1,md2,q⟩;have vis:∀{y:Str},Loc X.env.scope y->zS X.env.scope y:=λh=>h.elim .inl λz=>.inr (.inl z);show aAP (zK I hg U (PySem.W.callWith_K I.ok.mod.kin hk (D3 ((J5 he (J5 (M9 qp.nm (vis qp.lc) qp.dbg qp.cdt) (J5 (M9 qr.nm (vis qr.lc) qr.dbg qr.cdt) aR hs3) hs2) zl) pos pins s σ H (λvs n=>∃v1 N w1 w2 d,vs=[v1,.ref zv,.ref fa2]/\Same H n/\Rep X.K n O v1 N/\fG n1.js Y=.ok w1/\fG n2.js Y=.ok w2/\M N (n1.mm w1) (n2.mm w2)=.ok d/\∀v i,Same n i->Rep X.K i O v d->Q v i) I {H9,O0,O,Y,E,?_}) λus t z9=>?_) zl bo) gg)
 .cases e1:f Y with
  |ex z=>rw[e1]at q;show q
  |bad=>rw[e1]at q;show q
  |ok N=>
   rw[e1,R.aa0]at q;cases B:fG n1.js Y with
   |ex z=>rw[B]at q;show(q H<|Same.refl _).elim
   |bad=>rw[B]at q;show q.elim
   |ok w1=>
    rw[B,R.aa0]at q;cases e3:fG n2.js Y with
    |ex z=>rw[e3]at q;show(q H<|Same.refl _).elim
    |bad=>rw[e3]at q;show q.elim
    |ok w2=>
     rw[e3,R.aa0]at q;cases e4:M N (n1.mm w1) (n2.mm w2)with
     |ex z=>rw[e4]at q;show(q H<|Same.refl _).elim
     |bad=>rw[e4]at q;show q.elim
     |ok d=>rw[e4]at q;showλv1 n t r1=>{_,h1,_,h2,v1,N,w1,w2,d,rfl,t,r1,rfl,rfl,e4,λv i s2 r2=>q v i (t.trans s2) r2}
 let{vs,n,a,r,v1,N,w1,w2,d,ev,sm,r1,c1,c2,em,qq}:=z9;show{a.kIn,?_};subst ev;have E1:=E.grow sm;generalize xa:Y8 t.heap (clos1++clos2)=j;have hn:∀b o,j.lookup b=some o->t.heap.get? b=some o/\n b=none/\yA o:=λb o z=>by rw[<-xa]at z;let{e1,y,U}:=L4 z;let{v,o',B,e3}:=a.cell y b (C y b U);rw[e1]at B;cases B;show{e1,a.freeC y b (C y b U),v,e3}
 have hn0:=λb o z=>(hn b o z).2.1;have T:=fS hn0;have E2:=E1.grow T;have l:=a.af5;have nofr:∀b o,j.lookup b=some o->b∉BF X.stack:=λb o z m=>by
  rw[<-xa]at z;let{_,y,hmy}:=L4 z;rcases aAe.mp (a.ab6 b m)with e|m
  .show a.cne y b (C y b hmy) e
  let{_,o',ho,_}:=a.ok.funs.mem m;show k7 (aAn (aAd ho)<|a.ok.cab y b (yi y)<|C y b hmy) (aBC _)
 have nob:∀b o,X.base.get? b=some o->j.lookup b=none:=λb o e=>by
  cases z:j.lookup b with
  |none=>rfl
  |some o'=>rw[<-xa]at z;let{_,y,U}:=L4 z;show k7 (aAn (aAd e)<|aAo a.ok.bsz<|a.ok.cab y b (yi y)<|C y b U) (aBC _)
 have B:Env0 X.prog X.w X.K X.mg X.base X.A X.stack t (gQ n j):=⟨l.frames,l.mod,λb o e=>{(l.bs b o e).1,by rw[R9 (nob b o e)];show(l.bs b o e).2},l.bsz,l.funs,λb m=>by
  cases z:j.lookup b with
  |none=>rw[R9 z];show l.frf b m
  |some o=>show k7 m (nofr b o z),QH l.hok λb o z=>{(hn b o z).1,(hn b o z).2.1},l.bare⟩
 have cl1:=BY qp yv a E1 (λp hp=>aBl _ hp) C (md1.same sm) c1;have cl2:=BY qr ju a E1 (λp hp=>aAA _ hp) C (md2.same sm) c2;rw[xa]at cl1 cl2;have hl:us.length=J.length:=by rw[<-r.length,h3];rfl
 have hbs:=m t us a.kIn (by rw[aCd];show hl);rw[aCd]at hbs;show wpAny_call (aEd (FF.run X.A X.stack t (gQ n j) {us,[]} us _ (λv i=>Q v (U8 i j)) (λ_ _ _=>False) hr B hbs r {O,v1,N,zv,_,fa2,_,d,rfl,r1.same T,cl1,cl2,E2.trk,E2.tab,nG a O E1.trk,em,λv i s2 r2=>?_}) λrr s' hq=>?_)
 .have hz:∀b o,j.lookup b=some o->i b=some (.frz o (.own b)):=λb o z=>s2 _ _ (gI z);show qq v _ (λb u e=>v9 hz (s2 b u<|T b u e) λo z _=>?_) (r2.hid hz)
  nofun
 cases rr with
 |error e=>show hq.elim
 |ok fl=>
  cases fl with
  |next=>show aAH hq
  |brk=>show aAH hq
  |cont=>show aAH hq
  |ret u=>let{v,i,os,bare,un,hok,rv,qv}:=hq;let{U2,k2,_}:=a0v un hok hn;show a.after {v,_,os,bare,U2,k2,rv,qv}
def MA(a:NstOk X k n1)(h:NstOk X k n2)(u:ClosOk X n1 clos1)(B:ClosOk X n2 clos2)(hA:∀x b,(x,b)∈clos1++clos2->X.env.cells.lookup x=some b)(hB:kY X.mg X.base)(ke:X.env.code=.ref c)(hK:PySem.W.codeHdIn X.K c Pt=true)(l:(Pt,tb)∈Tabs.tbs)(L:(n1.pos,n1.qual)∈tb)(jt:(n2.pos,n2.qual)∈tb)(dc:∀p∈tb,p.1.line=n1.pos.line->p.1.col=n1.pos.col->p.2=n1.qual)(Q:∀p∈tb,p.1.line=n2.pos.line->p.1.col=n2.pos.col->p.2=n2.qual)(ai:n1.i≠n2.i)(hN:X.N.Nodup)(FF:FnOk X.prog X.w X.K X.mg X.base uF kf g gd m (spF X.K (OO X.prog X.w X.K X.mg X.base (k+1) 1) M))(hr:Room kf X.A)(hm:X.mg x=some (.ref g))(hk:PySem.W.keepIn X.K (.ref g)=true)(hb:Binds X.K gd m [])(h3:m.length=3)(he:PD X e f)(yi:∀y,X.fn y=true)(hg:Gl X x<|>1)(gg:(x==ma)=false<|>2)(zl:a5 [e,.Name n1.name n,.Name n2.name j] X.env=(false,cy e X.env)::a5 [.Name n1.name n,.Name n2.name j] X.env<|>1)(T:a5 [.Name n1.name n,.Name n2.name j] X.env=(false,cy (.Name n1.name n) X.env)::a5 [.Name n2.name j] X.env<|>1)(U:a5 [.Name n2.name j] X.env=(false,cy (.Name n2.name j) X.env)::a5 [] X.env<|>1)(bo:(cv Y (a5 [.Name n1.name n,.Name n2.name j] X.env)).any (·.1)=false<|>1):
  bV X [n1.stmt,n2.stmt,.Return (some (.Call (.Name x p) [e,.Name n1.name n,.Name n2.name j] [] Y)) rpos] (λρ=>((f ((ρ.set n1.i .no).set n2.i .no)).bind λd1=>(fG n1.js ((ρ.set n1.i .no).set n2.i .no)).bind λw1=>(fG n2.js ((ρ.set n1.i .no).set n2.i .no)).bind λw2=>M d1 (n1.mm w1) (n2.mm w2)).bind λd=>.ok (.rt d)):=by
 rintro H9 O0 o s C H D I ⟨O,ρ,E,fk,q⟩;show aEU (BM I hB ke hK (E.tab _ l) u.qn L dc u.eq a.d0 a.k0 u.ann hN a.nm a.lc a.st λzv H1 s1 I1 sm1 md1=>?_);have E1:EnvOk X.K H9 O0 H1 O (C.set n1.i<|some<|.ref zv) (ρ.set n1.i .no):=(E.grow sm1).put n1.i (λz=>z) trivial;show aEU (BM I1 hB ke hK (E1.tab _ l) B.qn jt Q B.eq h.d0 h.k0 B.ann hN h.nm h.lc h.st λt H2 s2 I2 yt md2=>?_);have J:EnvOk X.K H9 O0 H2 O ((C.set n1.i<|some<|.ref zv).set n2.i (some<|.ref t)) ((ρ.set n1.i .no).set n2.i .no):=(E1.grow yt).put n2.i (λz=>z) trivial;have l1:n1.i<C.length:=by rw[I.len];show(aAw.mp a.nm).1
 have l2:n2.i<C.length:=by rw[I.len];show(aAw.mp h.nm).1
 show qB (yG<|fj a h u B hA FF hr hm hk hb h3 he yi hg gg zl T U bo) o s2 _ H2 D I2 {H9,O0,O,_,zv,t,J,?_,?_,md1.same yt,md2,?_}
 .rw[aCz (aCL ai),aBM l1]
 .nofun
 revert q;dsimp only;generalize((f<|(ρ.set n1.i .no).set n2.i .no).bind λd1=>(fG n1.js<|(ρ.set n1.i .no).set n2.i .no).bind λw1=>(fG n2.js<|(ρ.set n1.i .no).set n2.i .no).bind λw2=>M d1 (n1.mm w1) (n2.mm w2))=rr;intro q;cases rr with
 |ok d=>showλv H' s r=>q v H' (J.same.trans s) (r.sub J.sub)
 |ex z=>showλH' s=>q H' (J.same.trans s)
 |bad=>show q
end
def yX(K:lM):Sp:=λd H Q _=>∃(a:a9) (b:List Int),d=[.ref a]/\K4 K H a (b.map V.int)/\b.length<=63/\(∀x∈b,aBd x<=1048576)/\Tb H/\∀e,Q (.bl true) e
def ZD{P:bc}{w:bM}{K:lM}{mg:dM}{base:cf}{k:Nat}{f:a9}{b:dI}{m:List D->R D}(F:FnOk P w K mg base uF k f b ["script"] (spD K 1 m))
  (h:∀ns:List Int,ns.length<=63->(∀x∈ns,aBd x<=1048576)->m [.lst (ns.map D.int)]=.ok (.bl true)):FnOk P w K mg base uF k f b ["script"] (yX K):=
 F.imp<|by rintro n H Q E ⟨a,ns,e,d,g,i,j,q⟩;show{λ_=>False,_,_,by rw[e];show .cons (.lst d (λz=>z) (Reps.ints ns)) .nil,rfl,λ_ z=>z.elim,j,λ_ _ _ z=>z,h ns g i,λv l _ r=>by cases r;show q l}
def LY{P:bc}{w:bM}{K:lM}{mg mb:dM}{k:Nat}{fa a:a9}{fd:dI}{f:aL}{vs:List au}{ns:List Int}
  (KX:K.In f.heap) (zi:f.heap.Ns be mg) (j:f.heap.Ns builtinsNs mb) (hbb:∀x:Str,x≠ "__name__"->mb x=cu x) (J:f.heap.NoLimit) (hB:kY mg f.heap) (hg:f.gens=#[])
  (L:f.heap.get? a=some {cls:=.type "list",data:=.seq vs.toArray}) (hi:IntsAre vs ns) (hl:ns.length<=63) (xl:∀x∈ns,aBd x<=1048576) (hr:Room k callerA)
  (hT:∀p∈Tabs.tbs,f.heap.get? p.1=some (PySem.W.tabObj #[])/\isCodeTable f.heap p.1) (hTd:(Tabs.tbs.map (·.1)).Nodup) (hKn:PySem.W.noTabs K=true)
  (F:∀base:cf,K.In base->base.Ns be mg->kY mg base->FnOk P w K mg base uF k fa fd ["script"] (yX K)) (xi:∀(s:aL) (u:au),BindsTo s fd {[u],[]} [("script",u)]):
  gn (bb P w) callerA (.call (.ref fa) {[.ref a],[]}) (λr s'=>r=.ok (.ret (.bool true))/\OldK f.heap s'.heap/\s'.os=f.os/\AllBare s'.gens) f:=by
 have rv:=L2.O8 hi;have N:=hi.length;have jc:ns.length<=sizeLine:=aAo hl (by symm);have C:∀b i,Tabs.tbs.lookup b=some i->f.heap.get? b=some (PySem.W.tabObj #[])/\isCodeTable f.heap b:=λb i e=>hT (b,i) (mem_lookup e);have nta:Tabs.tbs.lookup a=none:=by
  cases e:Tabs.tbs.lookup a with
  |none=>rfl
  |some i=>have:=(C a i e).1;rw[L]at this;cases this
 have noK:∀b o,K.lookup b=some o->Tabs.tbs.lookup b=none:=λb o e=>by
  cases z:Tabs.tbs.lookup b with
  |none=>rfl
  |some i=>have O:=KX b o e;rw[(C b i z).1]at O;cases O;have l:=aBG.mp hKn (b,_) (PySem.W.mem_of_lookupK e);show k7 (show false=true from l) aBt
 let put:Hp->Hp:=λH b=>match Tabs.tbs.lookup b with
  |some i=>some (.tbl i)
  |none=>H b
 have rY:∀(H:Hp) b i,Tabs.tbs.lookup b=some i->put H b=some (.tbl i):=λH b i e=>by change(match Tabs.tbs.lookup b with|some i=>some (HO.tbl i)|none=>H b)=_;rw[e]
 have E:∀(H:Hp) b,Tabs.tbs.lookup b=none->put H b=H b:=λH b e=>by change(match Tabs.tbs.lookup b with|some i=>some (HO.tbl i)|none=>H b)=_;rw[e]
 have y:∀g:Hp,(∀b,g b=none\/∃Y,g b=some (.frz {cls:=.type "list",data:=.seq vs.toArray} (.lst Y)))->K4 K (put g) a (ns.map V.int)->(∀b u,g b=some u->ObjOk P w (put g) f.heap b u)->(∀b,g b≠none->b=a)->(g a≠none->K.lookup a=none)->
   gn (bb P w) callerA (.call (.ref fa) {[.ref a],[]}) (λr s'=>r=.ok (.ret (.bool true))/\OldK f.heap s'.heap/\s'.os=f.os/\AllBare s'.gens) f:=by
  intro g hO hS Q hA hK;have T:iG P w (put g) f.heap:=λb u e=>by
   cases z:Tabs.tbs.lookup b with
   |none=>rw[E _ b z]at e;show Q b u e
   |some i=>rw[rY _ b i z]at e;cases e;show{#[],(C b i z).1,trivial,λp _=>.inl rfl}
  have ng:∀{b:a9}{o:Obj},f.heap.get? b=some o->put g b=none->(uU f.heap<|put g).get? b=some o:=λe n=>UG e n;have none_of:∀{b:a9}{o:Obj},f.heap.get? b=some o->o≠PySem.W.tabObj #[]->o≠{cls:=.type "list",data:=.seq vs.toArray}->put g b=none:=λ{b o} e n1 n2=>by
   cases z:Tabs.tbs.lookup b with
   |some i=>have:=(C b i z).1;rw[e]at this;show k7 (Option.some.inj this) n1
   |none=>
    rw[E _ b z];cases q:g b with
    |none=>rfl
    |some u=>have e':b=a:=hA b (by rw[q];simp);subst e';rw[L]at e;show k7 (Option.some.inj e).symm n2
  have t:∀{b:a9}{m:dM},f.heap.Ns b m->(uU f.heap<|put g).Ns b m:=λ{b m} ⟨o,es,ep,e,d,r⟩=>{o,es,ep,ng e (none_of e (λz=>by rw[z]at d;cases d) λz=>by rw[z]at d;cases d),d,r};have U:K.In (uU f.heap<|put g):=λb o e=>ng (KX b o e) (by
   rw[E _ b (noK b o e)];cases q:g b with
   |none=>rfl
   |some u=>have e':b=a:=hA b (by rw[q];simp);subst e';rw[hK (by rw[q];simp)]at e;cases e)
  have hBb:kY mg (uU f.heap<|put g):=by let{bm,ob,b1,b2,b3,b4,b5,b6}:=hB;show{bm,ob,b1,b2,ng b3 (none_of b3 (λz=>by rw[z]at b6;cases b6) λz=>by rw[z]at b6;cases b6),b4,b5,b6}
  have hM:Mod K mg (uU f.heap<|put g):={U,t zi,{mb,t j,hbb},let⟨mc,A,l⟩:=J;{mc,t A,l}};have e0:Env0 P w K mg (uU f.heap<|put g) callerA [] f (put g):={rfl,hM,λb o e=>ZL e,aFA (LD _ _),trivial,λb j=>k7 (show b∈([]:List a9)from j) (by simp),T,.of_eq hg};have tb0:Tb (put g):=λp hp=>rY _ p.1 p.2 (cH hTd hp);show aEd ((F _ U (t zi) hBb).run callerA [] f (put g) {[.ref a],[]} [.ref a] [.ref a] (λv _=>v=.bl true) (λ_ _ _=>False) hr e0 (xi f<|.ref a) (.cons rfl .nil) {a,ns,rfl,hS,hl,xl,tb0,λ_=>rfl}) λr s' h=>?_;cases r with
  |error e=>show(show False from h).elim
  |ok fl=>
   cases fl with
   |next=>show aAH h
   |brk=>show aAH h
   |cont=>show aAH h
   |ret u=>
    let{v,H',os,bare,un,zo,r',q}:=h;have q':v=.bl true:=q;subst q';obtain rfl:u=aEc true:=r';have B:∀b o,f.heap.get? b=some o->s'.heap.get? b=some o\/(isCodeTable f.heap b/\o=PySem.W.tabObj #[]/\∃I,s'.heap.get? b=some (PySem.W.tabObj I)):=λb o e=>by
     cases z:Tabs.tbs.lookup b with
     |some i=>have:=(C b i z).1;rw[e]at this;let{I,hps,_}:=zo b _ (un.tbls b i<|rY _ b i z);show .inr {(C b i z).2,Option.some.inj this,I,hps}
     |none=>
      show .inl ?_;rcases hO b with n|⟨Y,n⟩
      .show un.keep b o e (by rw[E _ b z];show n) (by intro z;show k7 (show b∈([]:List a9)from z) (by simp)) (by simp)
      have z1:put g b=some (.frz {cls:=.type "list",data:=.seq vs.toArray} (.lst Y)):=by rw[E _ b z];show n
      have z2:=un.frzs b _ _ z1;let{O,_}:=T b _ z1;let{e2,_}:=zo b _ z2;rw[e]at O;cases O;show e2
    show{rfl,{λb o e=>?_,λb o e=>?_},os,bare}
    .rcases B b o e with h|⟨A,l,I,h3⟩
     .show .inl h
     subst l;show .inr (.inl {A,rfl,#[],I,rfl,by rw[Array.empty_append];show h3})
    rcases B b o e with h|⟨A,l,I,h3⟩
    .show{o,h}
    show{_,h3}
 cases hk:K.lookup a with
 |some o=>have e:=KX a o hk;rw[L]at e;cases e;show y (λ_=>none) (λ_=>.inl rfl) (.inr {_,vs.toArray,_,hk,rfl,rfl,rfl,by rw[aAQ,N];show jc,by simpa using rv}) (λb u z=>by have z':(none:Option HO)=some u:=z;cases z') (λb z=>k7 rfl z) λz=>k7 rfl z
 |none=>
  obtain⟨g,A,l⟩:∃g:Hp,g a=some (.frz {cls:=.type "list",data:=.seq vs.toArray} (.lst (ns.map V.int)))/\∀b,b≠a->g b=none:={λb=>if b=a then _ else none,km rfl,λb j=>kn j};show y g (λb=>?_) (.inl (.inr {{cls:=.type "list",data:=.seq vs.toArray},(E g a nta).trans A})) (λb u z=>?_) (λb z=>?_) λ_=>hk
  .by_cases j:b=a
   .subst j;show .inr {_,A}
   show .inl (l b j)
  .by_cases j:b=a
   .subst j;rw[A]at z;cases z;show{L,by rw[aAg];show jc,vs,_,rv,L}
   rw[l b j]at z;cases z
  by_cases j:b=a
  .show j
  show k7 (l b j) z
def fx{l:PySem.W.OpenLaw}{k:Nat}{q:bc}{e:List Str}{C:(Str->Option au)->cf->Prop}{z:bM->cf->Prop}{d:DefRec}{K:Params->lM}{A:List a9}
  (E:l.most=some 63) (n:d.params.defaults=[]) (H:Room k callerA)
  (I:∀(w:bM) (h:cf),z w h->(K w.params).In h/\∀P∈A,h.get? P=some (PySem.W.tabObj #[]))
  (r:∀p∈Tabs.tbs,p.1∈A/\∃c,∀w:bM,PySem.W.codeHdIn (K w.params) c p.1=true) (t:(Tabs.tbs.map (·.1)).Nodup) (v:∀w:bM,PySem.W.noTabs (K w.params)=true)
  (F:∀(w:bM) (mg:dM) (fa:a9) (h:cf),(K w.params).In h->h.Ns be mg->mg d.name=some (.ref fa)->
   ∃x:dI,(∀(s:aL) (u:au),BindsTo s x {[u],[]} [("script",u)])/\
    ∀base:cf,(K w.params).In base->base.Ns be mg->kY mg base->FnOk l.prog w (K w.params) mg base uF k fa x ["script"] (yX (K w.params))):
  PySem.W.WalkO q e C z l.row.toRowW d [] (λf vs=>PySem.call f vs):=by
 show Att2.attach_bits E n λw s9 ae mg mb fa o pm cd J a vs ns G Y ho hd eh L j i m N O=>?_;let{y,Q}:=I w _ Y;let{x,U,hF}:=F w mg fa _ y G.T.g L;show LY y G.T.g G.T.b G.T.builtins G.T.nolimit G.T.bmain O j i m N H (λp hp=>?_) t (v w) hF U;let{h1,c,h2}:=r p hp;have B:=Q p.1 h1;show{B,((PySem.W.codeHd_of_K y<|h2 w).tab B).isCodeTable}
section
def YL(own y:List Str)(h:List Nat)(Y:X.calm=true)(S:CompSc X b own y h)(hi:XM X z iter A)(hX:∀(f:O6) (n:List a9) (j:Cx),(∃s9 Ha C,j=EG X f s9 Ha (own++y) b (dQ X b C) C n)->MQ j z G/\XF j o ft/\PD j p fe)(hG:∀ρ d ρ1,G d (i6 own h ρ)=.ok ρ1->jZ ρ1 (i6 own h ρ))(hs:(∀x,eQ iter X.env x=pure x)<|>6):
  PF X (.ListComp p [{z,iter,o,0}] b pos) (λρ=>(A ρ).bind λds=>if ds.length<=sizeLine then x9 G ft fe (i6 own h ρ) ds else .bad):=by
 show rM λf s σ H Q I H9 O0 O ρ E q=>?_;dsimp only at q;show aEe rfl hs (aP<|Inv.aa9 I S) S.kind S.names (D3 (hi f s σ H (λJ g=>∃ds i,Same H g/\xy X.K J g O ds/\ds.length<=sizeLine/\x9 G ft fe (i6 own h ρ) ds=.ok i/\∀k g a,Same H g->g a=none->Reps X.K g O k i->Q (.ref a) (upd g a<|.lst k)) I {H9,O0,O,ρ,E,nG I O E.trk,?_}) λv L h1=>D3 h1 λitv s2 h2=>?_)
 .cases N:A ρ with
  |ex x=>rw[N]at q;show q
  |bad=>nofun
  |ok ds=>
   rw[N,R.aa0]at q;intro J g L t;by_cases l:ds.length<=sizeLine
   .rw[km l]at q;cases u:x9 G ft fe (i6 own h ρ) ds with
    |ex x=>rw[u]at q;show(q H<|Same.refl _).elim
    |bad=>nofun
    |ok i=>rw[u]at q;show{ds,i,L,t,l,u,q}
   nofun
 let{it,n,tn,J,H2,e,I2,T,ko,f2,ds,i,U,t,l,w,q}:=h2;subst e;show rK Y S (hX f n) (hG ρ) I2 T ko f2 (E.grow U) t.c w l ?_;intro B C s' H' m hn _ _ _ sm' r nw _ hI;let{g,k,qh,zr,eH,rr}:=nw;subst eH;show{m,hn,λh' jo=>{.ref B,_,hI h' jo,rfl,q k g B (U.trans qh) zr rr}}
def a5n{Y es:List ck}{p:Pos}{env:Env}:a5 (.List Y p::es) env=(false,cy (.List Y p) env)::a5 es env:=rfl
def a4p{Y:List ck}{p:Pos}{t:Option ck}{l:Nat}{env:Env}:eI (Expr.List Y p) t l env=pure false:=rfl
end
end
end DL
namespace DL
open PySem L2
def O5(G:D->Ev->R Ev)(F:Ev->R Out)(d:D)(ρ:Ev):R Out:=match G d ρ with
 |.ok a=>F a
 |_=>.bad
@[simp]def iZ(i:Nat)(F:Ev->R Out)(d:D)(ρ:Ev):O5 (λd ρ=>.ok (ρ.set i (Sl.v d))) F d ρ=F (ρ.set i (.v d)):=rfl
theorem lP(Iv:Ev->Prop):∀{ds:List D}{ρ:Ev},(∀d∈ds,∀ρ,Iv ρ->∃ρ2,O5 G F d ρ=.ok (.nx ρ2)/\Iv ρ2)->Iv ρ->∃ρ',P4 G F ds ρ=.ok (.nx ρ')/\Iv ρ':=by
 intro f ρ b h;cases f with
 |nil=>show{ρ,rfl,h}
 |cons d ds=>
  let{ρ2,e,g}:=b d aBL ρ h;let{ρ',i,j}:=lP Iv (ds:=ds) (ρ:=ρ2) (λd k=>b d (aAf _ k)) g;unfold O5 at e;cases a:G d ρ with
  |ok l=>rw[a]at e;show{ρ',by rw[P4,a];dsimp only at e⊢;rw[e];show i,j}
  |ex x=>rw[a]at e;cases e
  |bad=>rw[a]at e;cases e
@[simp]def a6x(G:D->Ev->R Ev)(F:Ev->R Out)(ρ:Ev):P4 G F [] ρ=.ok (.nx ρ):=rfl
def RU{d:Type}{a b:d}:(R.ok a=R.ok b)=(a=b):=by simp
class Bd (a:Int)(n:outParam Nat):Prop where
 h:bits a<=n
def m9(h:bits a<=m)(b:m<=n):bits a<=n:=aAo h b
section
instance Bd.add [p:Bd a m][q:Bd b n]:Bd (a+b) (m+n+1):=⟨bits_add (m9 p.h<|aEW m n) (m9 q.h<|Nat.le_add_left n m)⟩
instance Bd.mul [p:Bd a m][q:Bd b n]:Bd (a*b) (m+n):=⟨bits_mul p.h q.h⟩
def Y9[p:Bd a m][q:Bd b n](d:m<=60000000)(e:n<=60000000):lH (.int a) (.int b)=.ok (.int (a*b)):=j4 {aAo p.h d,aAo q.h e}
end
instance Bd.l2:Bd 2 2:=⟨by symm⟩
abbrev vd(v:G.V):D:=.tup [.int v.x,.int v.y,.int v.z]
def Sz(n:Nat)(v:G.V):Prop:=bits v.x<=n/\bits v.y<=n/\bits v.z<=n
def Sz.mono(h:Sz m v)(a:m<=n<|>2):Sz n v:={m9 h.1 a,m9 h.2.1 a,m9 h.2.2 a}
def Sz.sub(h:Sz n u)(h':Sz n v):Sz (n+1) (u-v):={bits_sub h.1 h'.1,bits_sub h.2.1 h'.2.1,bits_sub h.2.2 h'.2.2}
def Sz.add(h:Sz n u)(h':Sz n v):Sz (n+1) (u+v):={bits_add h.1 h'.1,bits_add h.2.1 h'.2.1,bits_add h.2.2 h'.2.2}
def Sz.cr(h:Sz m u)(h':Sz n v):Sz (m+n+1) (G.cr u v):={bits_sub (bits_mul h.2.1 h'.2.2) (bits_mul h.2.2 h'.2.1),bits_sub (bits_mul h.2.2 h'.1) (bits_mul h.1 h'.2.2),bits_sub (bits_mul h.1 h'.2.1) (bits_mul h.2.1 h'.1)}
end DL
namespace M
open PySem L2 DL
abbrev pt(a b c:Int):D:=.tup [.int a,.int b,.int c]
abbrev sz3(n:Nat)(a b c:Int):Prop:=bits a<=n/\bits b<=n/\bits c<=n
def MX(k:List D->List D->R D):List D->R D
 |.lst Y::a=>k Y a
 |_=>.bad
def QF(k:List D->List D->R D):List D->R D
 |.tup Y::a=>k Y a
 |_=>.bad
def pV(k:Int->List D->R D):List D->R D
 |.int a::b=>k a b
 |_=>.bad
def K6{k:Int->List D->R D}{ds:List D}{r:D}(h:pV k ds=.ok r):∃a e,ds=.int a::e/\k a e=.ok r:=by
 unfold pV at h;split at h
 .show{_,_,rfl,h}
 cases h
def dN(q:R D):List D->R D
 |[]=>q
 |_=>.bad
def mO(h:MX k ds=.ok r):∃Y e,ds=.lst Y::e/\k Y e=.ok r:=by
 unfold MX at h;split at h
 .show{_,_,rfl,h}
 cases h
def qF(h:QF k ds=.ok r):∃Y e,ds=.tup Y::e/\k Y e=.ok r:=by
 unfold QF at h;split at h
 .show{_,_,rfl,h}
 cases h
def p9(h:dN q ds=.ok r):ds=[]/\q=.ok r:=by
 unfold dN at h;split at h
 .show{rfl,h}
 cases h
def v1(k:Int->Int->Int->List D->R D):List D->R D:=QF λY e=>pV (λa=>pV λb=>pV λc=>dN (k a b c e)) Y
def v4(k:Int->Int->Int->Int->List D->R D):List D->R D:=QF λY e=>pV (λa=>pV λb=>pV λc=>pV λd=>dN (k a b c d e)) Y
def v3(k:Int->Int->Int->List D->R D):List D->R D:=QF λY e=>pV (λa=>pV λb=>pV λc _=>k a b c e) Y
def a0c(h:v3 k ds=.ok r):∃a b c t e,ds=.tup (.int a::.int b::.int c::t)::e/\k a b c e=.ok r:=by let{Y,e,rfl,h}:=qF h;let{a,x,rfl,h}:=K6 h;let{b,y,rfl,h}:=K6 h;let{c,z,rfl,h}:=K6 h;show{a,b,c,z,e,rfl,h}
def x8(h:v1 k ds=.ok r):∃a b c e,ds=.tup [.int a,.int b,.int c]::e/\k a b c e=.ok r:=by let{Y,e,rfl,h}:=qF h;let{a,x,rfl,h}:=K6 h;let{b,y,rfl,h}:=K6 h;let{c,z,rfl,h}:=K6 h;let{rfl,h}:=p9 h;show{a,b,c,e,rfl,h}
def uj(h:v4 k ds=.ok r):∃a b c d e,ds=.tup [.int a,.int b,.int c,.int d]::e/\k a b c d e=.ok r:=by let{Y,e,rfl,h}:=qF h;let{a,x,rfl,h}:=K6 h;let{b,y,rfl,h}:=K6 h;let{c,z,rfl,h}:=K6 h;let{d,w,rfl,h}:=K6 h;let{rfl,h}:=p9 h;show{a,b,c,d,e,rfl,h}
def j9:List D->R D:=v1 λa b c=>v1 λd e f=>dN (.ok (pt (d-a) (e-b)<|f-c))
def u3:List D->R D:=v1 λa b c=>v1 λd e f=>dN (if sz3 20000000 a b c/\sz3 20000000 d e f then .ok (pt (b*f-c*e) (c*d-a*f)<|a*e-b*d)else .bad)
def l5:List D->R D:=v3 λa b c=>v1 λd e f=>dN (if sz3 50000000 a b c/\sz3 50000000 d e f then .ok (.int (a*d+b*e+c*f))else .bad)
@[simp]def lD(P Q:G.V):j9 [vd P,vd Q]=.ok (vd (Q-P)):=rfl
def R5(a:Sz 20000000 u)(b:Sz 20000000 v):u3 [vd u,vd v]=.ok (vd (G.cr u v)):=km {a,b}
def Z1(a:Sz 50000000 u)(b:Sz 50000000 v):l5 [vd u,vd v]=.ok (.int (G.c6 u v)):=km {a,b}
def k9(P Q R S:G.V):Int:=G.c6 (G.cr (Q-P)<|R-P) (S-P)
open Classical in
def mS:List D->R D:=v1 λa b c=>v1 λd e f=>v1 λg h i=>v1 λj k l=>dN (if Sz 1000000 {a,b,c}/\Sz 1000000 {d,e,f}/\Sz 1000000 {g,h,i}/\Sz 1000000 {j,k,l}then .ok (.int (k9 {a,b,c} {d,e,f} {g,h,i} {j,k,l}))else .bad)
def qC{P Q R S:G.V}(a:Sz 1000000 P)(b:Sz 1000000 Q)(d:Sz 1000000 R)(e:Sz 1000000 S):mS [vd P,vd Q,vd R,vd S]=.ok (.int (k9 P Q R S)):=km {a,b,d,e}
def rule(k:Int):Int:=7*k*k+10*k+3
def fD:List D->R D
 |[d]=>.ok (.bl (a2o d))
 |_=>.bad
def P64:Int:=10^64
def P34:Int:=10^34
def b1s:Int:=P64*P34
def sgn(x:Int):Int:=if 0<x then 1 else if x<0 then-1 else 0
def bD:List D->R D:=v4 λa b c d=>v1 λx y z=>dN (if sz3 50000000 a b c/\sz3 50000000 x y z then .ok (.int (sgn<|a*x+b*y+c*z-d))else .bad)
def az(e:sz3 50000000 a b c)(f:sz3 50000000 x y z):bD [.tup [.int a,.int b,.int c,.int d],pt x y z]=.ok (.int (sgn (a*x+b*y+c*z-d))):=km {e,f}
def vq(i:Nat)(ρ:Ev):Nat:=match ρ[i]? with
 |some (.v (.int b))=>b.natAbs+2
 |_=>0
def rV(d:bits a<=n)(f:bits b<=n):bits (aHd a b)<=n:=by
 show JQ ?_;have g:=KC f;have e:((aHd a b:Nat):Int).natAbs=aHd a b:=by simp
 rcases Nat.eq_zero_or_pos a.natAbs with z|z
 .nofun
 show aDC (Nat.gcd_le_left _ z) (KC d)
end M
namespace DL
open PySem PySem.Spec L2
open PyProof.Rows hiding St
theorem O8:∀{ns:List Int}{a:List au},o5 (ns.map V.int) a->IntsAre a ns:=by
 intro d _ b;cases d with
 |nil=>
  cases b with
  |nil=>show .nil
 |cons n ns=>
  cases b with
  |cons r t=>let{e,rfl}:=r;show .cons n e (O8 t)
section
def OM(j:X.calm=true):qO X (.builtin "sum") (λY H Q=>∃(p:a9) (ns:List Int),Y=[.ref p]/\K4 X.K H p (ns.map V.int)/\Q (.int ns.sum) H):=by
 intro f s w H Y x Q I r h;let{p,ns,rfl,k,q}:=h;let{u,rfl,l}:=vals1 r;cases l;let{a,m,n,y}:=I.list k;have g:=O8 m;let{b,e}:=g.allInts.items;have i:=n.isList;rw[e]at i;show sum_intListG (I.ok.hd j) i λz A o t=>?_;have v:preSum (ib b) b.size=ns.sum:=by have d:=nums_intItems b;rw[<-e]at d;rw[show a.toArray.toList=a from rfl,g.numsOf]at d;rw[preSum_eq,aBN (by simp),d]
 rw[v];show{.int ns.sum,H,I.kept t,{o,rfl},q}
def Y0:List D->Option (List Int)
 |[]=>some []
 |.int i::r=>(Y0 r).map (i::·)
 |_=>none
theorem O9:∀{ds:List D}{ns:List Int},Y0 ds=some ns->ds=ns.map D.int
 |[],ns,h=>by cases h;rfl
 |.int i::r,ns,h=>by erw[Y0,aCQ]at h;let{m,a,rfl}:=h;rw[O9 a];rfl
 |.non::_,_,h=>by cases h
 |.bl _::_,_,h=>by cases h
 |.str _::_,_,h=>by cases h
 |.tup _::_,_,h=>by cases h
 |.lst _::_,_,h=>by cases h
 |.dct _::_,_,h=>by cases h
theorem kA:∀ns:List Int,Y0 (ns.map D.int)=some ns:=by
 intro a;cases a with
 |nil=>rfl
 |cons n ns=>simp[Y0,kA ns]
def mW{K:lM}{H:Hp}{O:a9->Prop}:∀{vs:List V}{ns:List Int},Reps K H O vs (ns.map D.int)->vs=ns.map V.int:=by
 intro vs ns h;induction ns generalizing vs with
 |nil=>cases h;rfl
 |cons n ns a=>cases h with
  |cons h t=>cases h;rw[a t];rfl
def jw:List D->R D
 |[.lst Y]=>match Y0 Y with
  |some a=>.ok (.int a.sum)
  |none=>.bad
 |_=>.bad
variable [Tabs]in
def QQ(d:X.calm=true):aW X (.builtin "sum") jw:=by
 intro H O h f Q i r q;match f,q with
 |[.lst Y],q=>
  let{v,rfl,z}:=FQ r;let{p,j,rfl,a,b}:=z.aa5;erw[jw]at q;cases e:Y0 Y with
  |none=>rw[e]at q;show q.elim
  |some g=>rw[e]at q;rw[O9 e]at b;rw[mW b]at a;show{_,OM d,p,g,rfl,a,q _ H (Same.refl _) .int}
end
theorem wL(Iv:List D->Ev->Prop)(b:∀d ds ρ,Iv (d::ds) ρ->∃ρ2,O5 G F d ρ=.ok (.nx ρ2)/\Iv ds ρ2):∀{ds:List D}{ρ:Ev},Iv ds ρ->∃ρ',P4 G F ds ρ=.ok (.nx ρ')/\Iv [] ρ':=by
 intro f ρ h;cases f with
 |nil=>show{ρ,rfl,h}
 |cons d ds=>
  let{ρ2,e,g}:=b d ds ρ h;let{ρ',i,j}:=wL Iv b g;unfold O5 at e;cases a:G d ρ with
  |ok k=>rw[a]at e;show{ρ',by rw[P4,a];dsimp only at e⊢;rw[e];show i,j}
  |ex x=>rw[a]at e;cases e
  |bad=>rw[a]at e;cases e
def aV(Iv:List D->Ev->Prop)(a:∀d ds ρ,Iv (d::ds) ρ->∃ρ2,O5 G F d ρ=.ok (.nx ρ2)/\Iv ds ρ2)(h0:Iv ds ρ)(b:∀ρ',Iv [] ρ'->F7 (f ρ')=.ok d):
  F7 (A3 (P4 G F ds ρ) f)=.ok d:=by
 let{ρ',e,h}:=wL Iv a h0;rw[e];show b ρ' h
def qG{Post:Ev->Prop}(Iv:Nat->Ev->Prop)(b:∀n ρ,Iv (n+1) ρ->c ρ=.ok false\/(c ρ=.ok true/\∃ρ2,F ρ=.ok (.nx ρ2)/\Iv n ρ2))(a:∀ρ,¬Iv 0 ρ)(h0:Iv n ρ)(d:∀m ρ',Iv m ρ'->c ρ'=.ok false->Post ρ'):∃ρ2,T1 c F n ρ=.ok (.nx ρ2)/\Post ρ2:=by let{m,ρ',e,h,f}:=jG Iv b a n ρ h0;show{ρ',e,d m ρ' h f}
end DL
namespace M
open PySem L2 DL
abbrev uM(n:G.V)(d:Int):D:=.tup [.int n.x,.int n.y,.int n.z,.int d]
def Sz3(P Q R:G.V):Prop:=Sz 1000 P/\Sz 1000 Q/\Sz 1000 R
open Classical in
def T0:List D->R D:=v1 λa b c=>v1 λd e f=>v1 λg h i=>dN (
 if Sz3 {a,b,c} {d,e,f} {g,h,i}/\G.cr (({d,e,f}:G.V)-{a,b,c}) (({g,h,i}:G.V)-{a,b,c})≠0 then .ok (uM (G.j6 {a,b,c} {d,e,f} {g,h,i}).1 (G.j6 {a,b,c} {d,e,f} {g,h,i}).2)else .bad)
def TZ{P Q R:G.V}(h:Sz3 P Q R)(a:G.cr (Q-P) (R-P)≠0):T0 [vd P,vd Q,vd R]=.ok (uM (G.j6 P Q R).1 (G.j6 P Q R).2):=km {h,a}
def MK(h:Sz n v):bits (G.B5 v:Nat)<=n:=by
 have e:((G.B5 v:Nat):Int)=aHd (aHd v.x v.y:Nat) v.z:=by simp[G.B5,aHd]
 show rV (rV h.1 h.2.1) h.2.2
def qE{a g:Int}(h:0<g):a.fdiv g=a/g:=aFs a (aAz h)
end M
namespace DL
open PySem PySem.Spec L2
open PyProof.Rows hiding St
variable [Tabs]
mutual
inductive HV(h:Heap):Value->D->Prop
 |int (i:Int) (t:Tok):HV h (.int i t) (.int i)
 |tup {a:Addr}{items:Array Value}{ds:List D} (p:IsTup h a items) (r:HVs h items.toList ds):HV h (.ref a) (.tup ds)
inductive HVs(h:Heap):List Value->List D->Prop
 |nil:HVs h [] []
 |cons {v:Value}{d:D}{vs:List Value}{ds:List D} (r:HV h v d) (t:HVs h vs ds):HVs h (v::vs) (d::ds)
end
mutual
def mZ:D->Bool
 |.int _=>true
 |.tup Y=>aY Y
 |_=>false
def aY:List D->Bool
 |[]=>true
 |x::Y=>mZ x&&aY Y
end
theorem iQ:∀Y:List D,xX Y=Y.map o7:=by
 intro a;cases a with
 |nil=>rfl
 |cons x Y=>rw[xX,iQ Y];rfl
section
mutual
theorem HV.keeps(k:∀b o,h.get? b=some o->o.cls=.type "tuple"->h'.get? b=some o):∀{v:au}{d:D},HV h v d->HV h' v d
 |_,_,.int i t=>.int i t
 |_,_,.tup p r=>.tup (by let{o,e,c,n,d}:=p;show{o,k _ _ e c,c,n,d}) (HVs.keeps k r)
theorem HVs.keeps(k:∀b o,h.get? b=some o->o.cls=.type "tuple"->h'.get? b=some o):∀{v:List au}{d:List D},HVs h v d->HVs h' v d
 |_,_,.nil=>.nil
 |_,_,.cons r t=>.cons (HV.keeps k r) (HVs.keeps k t)
end
mutual
theorem HV.inj:∀{v:au}{d d':D},HV h v d->HV h v d'->d=d':=by
 intro _ _ _ g b;cases g with
 |int i t=>
  cases b with
  |int=>rfl
 |tup p r=>
  cases b with
  |tup j k=>let{o,e,c,n,l}:=p;let{m,f,s,u,a}:=j;rw[e]at f;cases f;rw[l]at a;injection a with q _;subst q;rw[HVs.inj r k]
theorem HVs.inj:∀{v:List au}{d d':List D},HVs h v d->HVs h v d'->d=d'
 |_,_,_,.nil,.nil=>rfl
 |_,_,_,.cons r t,.cons a b=>by rw[HV.inj r a,HVs.inj t b]
end
theorem HVs.length:∀{v:List au}{d:List D},HVs h v d->v.length=d.length:=by
 intro _ _ a;cases a with
 |nil=>rfl
 |cons _ t=>simp[HVs.length t]
end
section
variable{prog:bc}{w:bM}
def PH(prog:bc)(w:bM)(h:cf)(v:au)(d:D):Prop:=∀(A:bt) (E:A5) (s:aL) (Q:Int->aL->Prop),s.heap=h->A.units+8*C6 d<cq->(∀a,s.toks<=a->Q (o7 d) {s with toks:=a})->ba (bb prog w) A (pyHash v) Q E s
mutual
theorem a0a:∀{v:au}{d:D},HV h v d->PH prog w h v d
 |_,_,.int i t=>λA E s Q J L q=>by show(intKind prog w).pyHash (k:=i) (intKind_is _ _ _ _) (q _<|Nat.le_succ _)
 |_,_,.tup (a:=a) (items:=items) (ds:=ds) p r=>λA E s Q J L q=>by
  have fs:=TC r;subst J;let{o,N,T,n,U}:=p;have u:s.TypeIs (.ref a) "tuple":={o,N,T};have C:A.units<cq:=by lia
  rw[C6]at L;unfold pyHash;first|unfold pyHashByItsType|skip
  first|show aAa (wpAny_cRoomFor_or (.inr C) ?_)|skip
  show aAa (aBw u PySem.F.slot_tuple_hash.lookup ?_);change ba _ _ (if(some (Value.builtin "tuple.__hash__")==some Value.none)=true then _ else _) Q E s;rw[kn (by rw[beq_builtin_none];show aBt)];show aAa (aBw u PySem.F.slot_tuple_hash.lookup ?_);change ba _ _ (callSpecialIfBoundUnlessNone? (.ref a) "__hash__" _>>=_) Q E s;show aAa (aDH u PySem.F.slot_tuple_hash<|aAG PySem.F.slot_tuple_hash u PySem.F.entry_tuple_hash ?_ (PySem.F.args_tuple_hash_1 _));change ba _ _ (aDP (.ref a)>>=_) _ _ s;show aAa (wpAny_tupleItemsOf N U ?_);show aAa ?_;rw[<-aCt];show aCy _
   (λrest (b:Array Int) H=>∃done left g,ds=done++left/\Paired (PH prog w s.heap) rest left/\b.toList=done.map o7/\s.toks<=g/\H={s with toks:=g})
   _ ?_ ?_ _ _ {[],ds,s.toks,rfl,fs,rfl,aAi _,rfl}
  .rintro x rest b H ⟨done,left,g,l,I,y,Y,rfl⟩;cases I with
   |@cons _ d _ e h1 O=>
    show aAa (h1 _ _ _ _ rfl ?_ λz f=>?_)
    .have:C6 d<=x4 ds:=by rw[l];show pS (j:=done.length) (by simp)
     rw[t0];lia
    first
     |show aAc ⟨done++[d],e,z,by simp[l],O,by simp[y],by(have:g<=z:=f);lia,rfl⟩
     |show aAa (aAc (aAc ⟨done++[d],e,z,by simp[l],O,by simp[y],by(have:g<=z:=f;lia),rfl⟩))
  rintro b H ⟨done,left,g,l,I,y,Y,rfl⟩;cases I;rw[aCd]at l;subst l;change ba _ _ (retInt<|aAN b.toList) _ _ _;rw[y];show wpAny_ret_mkInt ?_;change ba _ _ (if(decide (-(2:Int)^63<=aAN (ds.map o7))&&decide (aAN (ds.map o7)<2^63))=true then _ else _) Q E _;have m:=q (g+1) (by lia);rw[o7,iQ]at m;unfold reduceHash at m;by_cases B:(decide (-(2:Int)^63<=aAN (ds.map o7))&&decide (aAN (ds.map o7)<2^63))=true
  .rw[km B];rw[km B]at m;show aAc m
  rw[kn B];rw[kn B]at m;show aAa (aCG<|aAc m)
theorem TC:∀{v:List au}{d:List D},HVs h v d->Paired (PH prog w h) v d
 |_,_,.nil=>.nil
 |_,_,.cons r t=>.cons (a0a r) (TC t)
end
mutual
theorem JO:∀{v u:au}{d e:D}{A:bt},HV s.heap v d->HV s.heap u e->A.units+C6 d<cq->SeqAt.EqAt A s v u (u7 d e):=by
 intro _ _ _ _ A h f k;cases h with
 |int i t=>
  cases f with
  |int j l=>erw[u7];show aFD _ _ _ _
  |tup p r=>erw[u7];show aGA _ _ p (by lia)
 |@tup a _ n p r=>
  cases f with
  |int j l=>erw[u7];show aGB _ _ p (by lia)
  |@tup m _ o g b=>
   by_cases e:a=m
   .subst e;have:=HV.inj (.tup p r) (.tup g b);rw[this,N1];show aEq _
   erw[u7];rw[C6]at k;show aFF e (mG (by exists p) (by exists g) r.length b.length (by lia) (SN r b (by rw[t0];lia))).1
theorem SN:∀{vs d:List au}{ds es:List D}{A:bt},HVs s.heap vs ds->HVs s.heap d es->A.in1.units+x4 ds<cq->pN A s vs d ds es:=by
 intro _ _ _ _ A e f g j u w a b;cases e with
 |nil=>simp at a
 |cons r t=>
  cases f with
  |nil=>simp at b
  |cons h i=>
   rw[x4]at g;cases j with
   |zero=>erw[aDo,aGR]at a b;subst a b;show JO r h (by lia)
   |succ j=>erw[aGc]at a b;show SN t i (by lia) j u w a b
end
mutual
theorem cS:∀{d e:D},mZ d=true->mZ e=true->u7 d e=true->d=e
 |.int i,.int j,_,_,h=>by simp[u7]at h;rw[h]
 |.tup Y,.tup f,a,b,h=>by rw[mZ]at a b;rw[u7]at h;rw[DI a b h]
 |.int _,.tup _,_,_,h=>by simp[u7]at h
 |.tup _,.int _,_,_,h=>by simp[u7]at h
 |.non,_,h,_,_=>by simp[mZ]at h
 |.bl _,_,h,_,_=>by simp[mZ]at h
 |.str _,_,h,_,_=>by simp[mZ]at h
 |.lst _,_,h,_,_=>by simp[mZ]at h
 |_,.non,_,h,_=>by simp[mZ]at h
 |_,.bl _,_,h,_=>by simp[mZ]at h
 |_,.str _,_,h,_=>by simp[mZ]at h
 |_,.lst _,_,h,_=>by simp[mZ]at h
theorem DI:∀{d e:List D},aY d=true->aY e=true->aT d e=true->d=e
 |[],[],_,_,_=>rfl
 |[],_::_,_,_,h=>by simp[aT]at h
 |_::_,[],_,_,h=>by simp[aT]at h
 |x::Y,y::f,a,b,h=>by rw[aY,aAI]at a b;rw[aT,aAI]at h;rw[cS a.1 b.1 h.1,DI a.2 b.2 h.2]
end
mutual
theorem HV.ok:∀{v:au}{d:D},HV h v d->mZ d=true
 |_,_,.int i t=>rfl
 |_,_,.tup p r=>by rw[mZ];show HVs.ok r
theorem HVs.ok:∀{v:List au}{d:List D},HVs h v d->aY d=true
 |_,_,.nil=>rfl
 |_,_,.cons r t=>by rw[aY,HV.ok r,HVs.ok t];rfl
end
mutual
theorem kC:∀{v:au}{d:D} (k:Nat),HV h v d->C6 d<k->∀(M:Model) (A:bt) (E:A5) (s:aL) (Q:CD),s.heap=h->Q true s->ba M A (eqIsQuiet k v) Q E s
 |_,_,k,.int i t,_=>λM A E s Q m q=>by unfold eqIsQuiet;show aAc q
 |_,_,k,.tup (a:=a) (items:=items) (ds:=ds) p r,e=>λM A E s Q m q=>by
  subst m;let{o,u,y,n,z}:=p;have x:s.TypeIs (.ref a) "tuple":={o,u,y};match k,e with
  |k+1,e=>
   rw[C6]at e;unfold eqIsQuiet;show aAa (aBw x PySem.F.slot_tuple_eq.lookup ?_);change ba _ _ (isInstance (.ref a) (.type "tuple")>>=_) _ _ s;show aAa (aCx x isSubtype_tuple_tuple ?_);erw[aFa,aAB,if_false];show aAa (aAW u z ?_);show aAa ?_;change ba _ _ (forIn items _ _) _ _ s;rw[<-aCt];show aCy _ (λrest r b=>r.1=none/\b=s/\∃f,HVs s.heap rest f/\x4 f<k) _ ?_ ?_ _ _ {rfl,rfl,ds,r,by lia}
   .rintro v rest r b ⟨g,rfl,f,j,l⟩;cases j with
    |@cons _ d _ B j C=>rw[x4]at l;show aAa (kC k j (by lia) M A E b _ rfl ?_);erw[aFa,aAB,if_false];show aAc {rfl,rfl,B,C,by lia}
   rintro⟨H,I⟩ b ⟨g,rfl,_⟩;simp only at g;subst g;show aAc q
end
mutual
theorem iV:∀{v:au}{d:D} (k:Nat),HV h v d->C6 d<k->∀(M:Model) (A:bt) (E:A5) (s:aL) (Q:CD),s.heap=h->Q false s->ba M A (ofAClassStatement k v) Q E s
 |_,_,k,.int i t,_=>λM A E s Q m q=>by unfold ofAClassStatement;show aAc q
 |_,_,k,.tup (a:=a) (items:=items) (ds:=ds) p r,e=>λM A E s Q m q=>by
  subst m;let{o,u,x,n,y}:=p;have z:s.TypeIs (.ref a) "tuple":={o,u,x};match k,e with
  |k+1,e=>
   rw[C6]at e;unfold ofAClassStatement;show aAa (aDk z ?_);dsimp only;rw[km (by symm)];show aAa (aAc ?_);erw[aFa,aAB,if_false];show aAa (aAW u y ?_);dsimp only;show aAa ?_;change ba _ _ (forIn items _ _) _ _ s;rw[<-aCt];show aCy _ (λrest r b=>r.1=none/\b=s/\∃f,HVs s.heap rest f/\x4 f<k) _ ?_ ?_ _ _ {rfl,rfl,ds,r,by lia}
   .rintro v rest r b ⟨g,rfl,f,j,l⟩;cases j with
    |@cons _ d _ B j C=>rw[x4]at l;show aAa (iV k j (by lia) M A E b _ rfl ?_);erw[aAB,if_false];show aAc {rfl,rfl,B,C,by lia}
   rintro⟨H,I⟩ b ⟨g,rfl,_⟩;simp only at g;subst g;show aAc q
end
mutual
theorem sQ:∀{v:au}{d:D} (k:Nat),HV h v d->C6 d<k->∀(M:Model) (A:bt) (E:A5) (s:aL) (Q:CD),s.heap=h->Q true s->ba M A (hashByValue k v) Q E s
 |_,_,k,.int i t,_=>λM A E s Q m q=>by unfold hashByValue;show aAc q
 |_,_,k,.tup (a:=a) (items:=items) (ds:=ds) p r,e=>λM A E s Q m q=>by
  subst m;let{o,u,x,n,y}:=p;have z:s.TypeIs (.ref a) "tuple":={o,u,x};match k,e with
  |k+1,e=>
   rw[C6]at e;unfold hashByValue;show aAa (aBw z PySem.F.slot_tuple_hash.lookup ?_);dsimp only;show aAa (aAW u y ?_);show aAa ?_;change ba _ _ (forIn items _ _) _ _ s;rw[<-aCt];show aCy _ (λrest r b=>r.1=none/\b=s/\∃f,HVs s.heap rest f/\x4 f<k) _ ?_ ?_ _ _ {rfl,rfl,ds,r,by lia}
   .rintro v rest r b ⟨g,rfl,f,j,l⟩;cases j with
    |@cons _ d _ B j C=>rw[x4]at l;show aAa (sQ k j (by lia) M A E b _ rfl ?_);erw[aFa,aAB,if_false];show aAc {rfl,rfl,B,C,by lia}
   rintro⟨H,I⟩ b ⟨g,rfl,_⟩;simp only at g;subst g;show aAc q
end
def lR{d:Type}{M:Model}{A:bt}{E:A5}{s:aL}{Q:d->aL->Prop}{c:Prop}[Decidable c]{a b:Sem d}(e:c->ba M A a Q E s)(f:¬c->ba M A b Q E s):ba M A (if c then a else b) Q E s:=by
 by_cases h:c
 .rw[km h];show e h
 rw[kn h];show f h
def a0m{M:Model}{A:bt}{E:A5}{s:aL}{Q:CD}{x:au}{d:D}(k:HV s.heap x d)(l:C6 d<8)(f:List au)(n:∀y∈f,∃e,HV s.heap y e/\C6 e<8)(q:Q false s):ba M A (searchCouldBeSeen x f) Q E s:=by
 unfold searchCouldBeSeen;show aAa (aCy _ (λrest r a=>r.1=none/\a=s/\∀y∈rest,y∈f) _ ?_ ?_ _ _ {rfl,rfl,λy h=>h})
 .rintro y rest r a ⟨g,rfl,i⟩;let{e,m,b}:=n y (i y (by simp));dsimp only;show lR (λ_=>?_) (λ_=>?_)
  .show aAc {rfl,rfl,λz j=>i z (aAf _ j)}
  show aAa (kC 8 k l M A E a _ rfl ?_);show aAa (kC 8 m b M A E a _ rfl ?_);show aAa (iV 8 k l M A E a _ rfl ?_);erw[aAB,if_false];show aAa (iV 8 m b M A E a _ rfl ?_);erw[aAB,if_false];show aAc {rfl,rfl,λz j=>i z (aAf _ j)}
 rintro⟨o,p⟩ a ⟨g,rfl,_⟩;simp only at g;subst g;show aAc q
end
def EV(h:cf)(e:Int×au)(d:D):Prop:=HV h e.2 d/\e.1=o7 d
theorem G0{d β:Type}{F:d->β->Prop}:∀{l:List d}{m:List β}{i:Nat}{a:d},Paired F l m->l[i]?=some a->∃b,m[i]?=some b/\F a b:=by
 intro _ _ e a f h;cases f with
 |nil=>simp at h
 |cons r t=>
  cases e with
  |zero=>simp at h;subst h;show{_,rfl,r}
  |succ i=>let{b,g,j}:=G0 (i:=i) t (by exists h);show{b,by simpa using g,j}
theorem dS{d β:Type}{F:d->β->Prop}:∀{l:List d}{m:List β}{i:Nat}{b:β},Paired F l m->m[i]?=some b->∃a,l[i]?=some a/\F a b
 |_,_,_,_,.nil,h=>by simp at h
 |_,_,0,_,.cons r _,h=>by simp at h;subst h;show{_,rfl,r}
 |_,_,i+1,a,.cons _ t,h=>by let{b,e,f}:=dS (i:=i) t (by exists h);show{b,by simpa using e,f}
theorem iT{a β:Type}{F:a->β->Prop}:∀{l:List a}{m:List β},Paired F l m->l.length=m.length
 |_,_,.nil=>rfl
 |_,_,.cons _ t=>by simp[iT t]
section
variable{es:Array (Int×au)}
def kH(K:ST.SOk t es.toList):t.fits es.size=true:=by
 have a:=K.len;have b:=K.room;have d:=K.tab.nod;unfold aGO SetTable.fill
 nofun
theorem oN(ho:s.heap.get? S=some o)(hd:o.data=.set es ep t)(K:ST.SOk t es.toList)(B:t.mask%2=1)(P:Paired (EV s.heap) es.toList ds)(O:HV s.heap (.ref x) (.tup Y))(C:C6 (.tup Y)<8)(yo:∀e∈ds,C6 e<8)(hT:∀e∈ds,∃H,e=.tup H)
  (hu:A.units+16<cq) (hf:ST.V7 t (o7 (.tup Y)) n0) {Q:SetFound->aL->Prop} (g:D.tup Y∈ds->Q (.there none) s) (b:D.tup Y∉ds->Q (.free (ST.n4 t.mask (o7 (.tup Y)) n0).j false) s):
  ∀(a n:Nat) (T:Option SetTable.Probe),T.getD (t.probeStart (o7 (.tup Y)))=ST.n4 t.mask (o7 (.tup Y)) n->n<=n0->n0-n<a->
   (∀m<n,∀(i:Nat),t.place[i]?=some (ST.n4 t.mask (o7 (.tup Y)) m).j->ds[i]?≠some (.tup Y))->ba (bb prog w) A (setSearchFrom S (.ref x) (o7 (.tup Y)) true a T) Q E s
 |0,n,T,_,_,h,_=>by lia
 |a+1,n,T,jm,hn,hfu,I=>by
  unfold setSearchFrom;show aAa (aCl ho hd (kH K) ?_);dsimp only;show lR (λz=>?_) (λ_=>?_)
  .unfold SetTable.gaveWay at z;simp at z;lia
  rw[jm];let{U,a1,a2,a3,a4}:=ST.WA K.tab (λi=>(es[i]?.map (·.1)).getD 0) (o7<|.tup Y) hf n hn;generalize hg:t.probe _ (o7<|.tup Y) (ST.n4 t.mask (o7<|.tup Y) n)=pm;rcases a4 with⟨en,e⟩|⟨ao,i,u,hh,e⟩
  .have ep:pm=_:=hg.symm.trans e;rw[ep];dsimp only;show aAc (b λJ=>?_);let{i,u}:=aBX.mp J;let{{L,v},he,h1,h2}:=dS P u;let{j,hj,qu}:=ST.fw K.len he;dsimp only at h2;have hr:=K.reach _ qu;dsimp only at hr;rw[h2]at hr;let{m,J,em}:=ST.Reach.before hf (by rw[<-aAx]at hj;show aAs hj) hr;by_cases z:m<n
   .show I m z i (by rw[em];show hj) u
   let{f,fm,ai}:=a3 m (by lia) (by lia);have:f=i:=by have g:=ST.L8 K.tab fm;have b:=ST.L8 K.tab hj;rw[em]at g;rw[g]at b;injection b
   subst this;show ai ?_;change(es[f]?.map (·.1)).getD 0=_;rw[<-aAx,he];show h2
  have ep:pm=_:=hg.symm.trans e;rw[ep];dsimp only;have N:i<es.size:=by
   have:=(aCj.mp u).1;have h1:=K.len;simp at h1
   lia
  have l:es[i]?=some es[i]:=aAt N;let{di,d,L,q}:=G0 P (show es.toList[i]?=some es[i]by rw[aAx];show l);let{H,rfl}:=hT di (aAs d);have go:ba (bb prog w) A (do
    let some (_,y):=es[i]?|unsupported "internal:set-entry"
    let equal<-h9 [y] (eqBool y<|.ref x)
    let(es',_,t')<-setState S
    if true&&equal then return .there none
    let some same:=t'.sameMemory t.moves t.mask|unsupported "set.changed-during-lookup:is-the-new-block-at-the-old-address"
    let a0b<-match(if same then t'.slot (ST.n4 t.mask (o7<|.tup Y) U).j else .empty)with
     |.live f=>match es'[f]? with
      |some (_,y')=>do pure (if<-isSame y' y then some f else none)
      |none=>pure none
     |_=>pure none
    match a0b with
    |none=>rule "set.search.anew";setSearchFrom S (.ref x) (o7<|.tup Y) true a none
    |some f=>if equal then return .there (some f)else setSearchFrom S (.ref x) (o7<|.tup Y) true a (some<|ST.n4 t.mask (o7<|.tup Y)<|U+1)) Q E s:=by
   rw[l];generalize he:es[i]=en at*
   let{hn,y}:=en;dsimp only at L q⊢;show aAa (aAJ (JO L O (by have:=yo _ (aAs d);lia) prog w E _ ?_));show aAa (aCl ho hd (kH K) ?_);dsimp only;cases hq:u7 (.tup H) (.tup Y)with
   |true=>rw[km (show(true&&true)=true from rfl)];have:D.tup H=.tup Y:=cS L.ok O.ok hq;rw[this]at d;show aAc (g<|aAs d)
   |false=>
    rw[kn (by simp)];have hsm:t.sameMemory t.moves t.mask=some true:=by unfold SetTable.sameMemory;rw[km (by simp)]
    rw[hsm];dsimp only;rw[km rfl,ST.L8 K.tab u];dsimp only;rw[l];dsimp only;cases L with
    |tup p r=>
     show aAa (wpAny_isSame_ref_self ?_);show aAa (aAc ?_);rw[km rfl];dsimp only;rw[kn (by simp)];show oN ho hd K B P O C yo hT hu hf g b a (U+1) _ rfl (by lia) (by lia) λm J i2 wc hz=>?_;by_cases z:m<n
     .show I m z i2 wc hz
     by_cases z2:m=U
     .subst z2;have:i2=i:=by have g:=ST.L8 K.tab wc;have b:=ST.L8 K.tab u;rw[g]at b;injection b
      subst this;rw[d]at hz;have:D.tup H=.tup Y:=Option.some.inj hz;rw[this,N1]at hq;cases hq
     let{f,fm,ai}:=a3 m (by lia) (by lia);have:f=i2:=by have g:=ST.L8 K.tab fm;have b:=ST.L8 K.tab wc;rw[g]at b;injection b
     subst this;let{{h0,v0},he0,hv0,hh0}:=dS P hz;show ai ?_;change(es[f]?.map (·.1)).getD 0=_;rw[<-aAx,he0];show hh0
  show lR (λ_=>?_) (λ_=>go);show aAa (a0m O C _ (λy hy=>?_) ?_)
  .let{e',uh,rfl}:=aAj.mp hy;rw[Array.toList_filter]at uh;have J:=(aCp.mp uh).1;let{k,hk}:=aBX.mp J;let{dk,hdk,hvk,_}:=G0 P hk;show{dk,hvk,yo _ (aAs hdk)}
  rw[kn (by simp)];show go
def xZ(m n:Nat):Prop:=(m=7/\n<=4)\/(m=31/\n<=18)\/(m=127/\n<=76)
def xZ.odd(h:xZ m n):m%2=1:=by rcases h with⟨rfl,_⟩|⟨rfl,_⟩|⟨rfl,_⟩<;>rfl
def Keeps(h0 h:cf):Prop:=∀b o,h0.get? b=some o->h.get? b=some o
structure SetAt(L:Bool)(h0 h:Heap)(S:Addr)(ds:List D):Prop where
 ex:∃(o:Obj) (es:Array (Int×Value)) (ep:Nat) (t:SetTable),h.get? S=some o/\o.cls=.type "set"/\o.dict=none/\o.slots=#[]/\o.data=.set es ep t/\ST.SOk t es.toList/\xZ t.mask es.size/\Paired (EV h0) es.toList ds/\t.led=L/\t.plain=true
 nd:ds.Nodup
def dU{f β:Type}{F:f->β->Prop}:∀{l b:List f}{m:List β},b.Perm l->Paired F l m->∃a,a.Perm m/\Paired F b a:=λ{l b m} p=>by
 induction p generalizing m with
 |nil=>intro h;show{m,.refl _,h}
 |cons x _ g=>
  intro h;cases h with
  |cons r t=>let{a,i,j}:=g t;show{_::a,i.cons _,.cons r j}
 |swap x y l=>
  intro h;cases h with
  |cons r t=>
   cases t with
   |cons k n=>show{_,.swap _ _ _,.cons k (.cons r n)}
 |trans _ _ d e=>intro h;let{w,o,q}:=e h;let{s,u,v}:=d q;show{s,u.trans o,v}
theorem fH{d β:Type}{F G:d->β->Prop}(i:∀a b,F a b->G a b):∀{l:List d}{m:List β},Paired F l m->Paired G l m
 |_,_,.nil=>.nil
 |_,_,.cons r t=>.cons (i _ _ r) (fH i t)
theorem tJ{d β:Type}{F:d->β->Prop}{a:d}{b:β}(r:F a b):∀{l:List d}{m:List β} (p:Nat),Paired F l m->Paired F (l.take p++a::l.drop p) (m.take p++b::m.drop p):=by
 intro _ _ e h;cases e with
 |zero=>show .cons r h
 |succ p=>
  cases h with
  |nil=>show .cons r .nil
  |cons f t=>show .cons f (tJ r p t)
def QB{b:Type}(a:b)(l:List b)(p:Nat):(l.take p++a::l.drop p).Perm (a::l):=by
 have h:=List.perm_middle (a:=a) (l₁:=l.take p) (l₂:=l.drop p)
 nofun
def CK{d β:Type}{M:Model}{Q:d->aL->Prop}{c:Prop}[Decidable c]{a:Sem β}{k:β->Sem d}(b:β)(f:∀e:β->aL->Prop,e b s->ba M A a e E s)(h:ba M A (k b) Q E s):ba M A (if c then a>>=k else pure b>>=k) Q E s:=
 lR (λ_=>aAa (f _ h)) (λ_=>aAa (aAc h))
def oE(h:cf)(S:a9)(f:Obj->Obj):Heap.SameBut S h (h.update S f):={by simp,λb a=>aAE _ _ (aCL a)}
def vM{h:cf}{S:a9}{o:Obj}{es es':Array (Int×au)}{ep:Nat}{t t':fg}(a:h.get? S=some o)(b:o.data=.set es ep t):(h.update S (aGw es' t')).get? S=some {o with data:=.set es' (ep+1) t'}:=by
 have e:aGw es' t' o={o with data:=.set es' (ep+1) t'}:=by let{c,d,f,g}:=o;let{rfl,rfl,rfl}:=b;rfl
 rw[aBa _ a (by rw[e];rfl),e]
def a3h{L:Bool}{h0:cf}{Q:CD}(hS:SetAt L h0 s.heap S ds)(kp:Keeps h0 s.heap)(C:HV h0 (.ref x) (.tup Y))(H:C6 (.tup Y)<8)(yo:∀e∈ds,C6 e<8)(hT:∀e∈ds,∃ys,e=.tup ys)(hu:A.units+128<cq)(hn:ds.length<76)
  (q1:D.tup Y∈ds->∀tk,s.toks<=tk->Q false {s with toks:=tk})
  (q2:D.tup Y∉ds->∀h' tk bu,s.toks<=tk->Heap.SameBut S s.heap h'->SetAt L h0 h' S bu->bu.Perm (.tup Y::ds)->Q true {s with heap:=h',toks:=tk}):ba (bb prog w) A (setAdd S (.ref x)) Q E s:=by
 let{{o,es,ep,t,I,hc,n,J,N,K,mk,P0,lp0},nd}:=hS;have hx:HV s.heap (.ref x) (.tup Y):=C.keeps λb o e _=>kp b o e;have P:Paired (EV s.heap) es.toList ds:=fH (λe d r=>{r.1.keeps λb o e _=>kp b o e,r.2}) P0;have fu:es.size=ds.length:=by have:=iT P;exists this
 unfold setAdd;show aAJ (aAa (a0a hx A E s _ rfl (by lia) λtk xm=>?_));unfold setAddHashed setAddHashedIn;show aAJ (aAa<|aCl (s:={s with toks:=tk}) I N (kH K) ?_);dsimp only;rw[show byScan (.ref x) es=false from rfl];erw[aAB,if_false];let{n0,hf}:=ST.HB K.full K.room (o7<|.tup Y);show aAa (oN (s:={s with toks:=tk}) (n0:=n0) I N K mk.odd P hx H yo hT (by lia) hf (λp=>?_) (λp=>?_) 100000 0 none rfl (aAS _) ?_ (λm p=>by lia))
 .dsimp only;show aAc (q1 p tk xm)
 .dsimp only;show aAa (aCl (s:={s with toks:=tk}) I N (kH K) ?_);dsimp only;show CK true (λQ' q=>sQ 8 hx H _ _ _ _ _ rfl q) ?_;rw[km rfl];have pf:t.place.size+1<=t.mask:=by have:=K.len;simp at this;rcases mk with⟨a,k⟩|⟨a,k⟩|⟨a,k⟩<;>lia
  have u:=ST.a3l K (x:=.ref x) hf pf;have el:=ST.gZ es (t.put (ST.n4 t.mask (o7<|.tup Y) n0).j).2 (o7 (.tup Y),aCV x);have lp:(t.put (ST.n4 t.mask (o7<|.tup Y) n0).j).1.led=L/\(t.put (ST.n4 t.mask (o7<|.tup Y) n0).j).1.plain=true:=lp0;have em:(t.put (ST.n4 t.mask (o7<|.tup Y) n0).j).1.mask=t.mask:=rfl;rw[<-el]at u;have O:Paired (EV h0) (aGU es (t.put (ST.n4 t.mask (o7<|.tup Y) n0).j).2 (o7 (.tup Y),aCV x)).toList (ds.take (t.put (ST.n4 t.mask (o7<|.tup Y) n0).j).2++.tup Y::ds.drop (t.put (ST.n4 t.mask (o7<|.tup Y) n0).j).2):=by rw[el];show tJ {C,rfl} _ P0
  have T:=QB (D.tup Y) ds (t.put (ST.n4 t.mask (o7<|.tup Y) n0).j).2;generalize hds2:ds.take (t.put (ST.n4 t.mask (o7<|.tup Y) n0).j).2++.tup Y::ds.drop (t.put (ST.n4 t.mask (o7<|.tup Y) n0).j).2=qt at O T;generalize hes2:aGU es (t.put (ST.n4 t.mask (o7<|.tup Y) n0).j).2 (o7 (.tup Y),aCV x)=h at u O⊢;generalize ht2:(t.put (ST.n4 t.mask (o7<|.tup Y) n0).j).1=g at u em lp⊢;have ye:qt.Nodup:=T.nodup_iff.mpr (aAZ.mpr {p,nd});have i:h.size=es.size+1:=by
   have h1:=iT O;have h2:=T.length_eq;simp at h1 h2
   lia
  have bp:h.size<=sizeLine:=by rw[i,aFZ];lia
  show aAa (wpAny_storeSet_of (s:={s with toks:=tk}) I N ?_ bp);have kr:=vM (es':=h) (t':=g) I N;have U:=oE s.heap S (aGw h g);have l:g.fill=h.size:=by have h1:=u.len;have h2:=u.tab.nod;unfold SetTable.fill;rw[h2];simp at h1⊢;lia
  show lR (λxn=>?_) (λxn=>?_)
  .
   have rh:g.fill*5>=g.mask*3:=by
    have:g.tooFull=true:=by exists xn
    simpa[aHb]using this
   rw[l,em,i]at rh;obtain⟨M,hM,hM1,v⟩:∃M,SetTable.sizeAbove (SetTable.grown<|es.size+1)=M+1/\ST.pE (M+1)/\xZ M (es.size+1):=by
    rcases mk with⟨a,k⟩|⟨a,k⟩|⟨a,k⟩
    .have:es.size=4:=by lia
     rw[this];show{31,by symm,ST.a3v,.inr (.inl {rfl,by lia})}
    .have:es.size=18:=by lia
     rw[this];show{127,by symm,ST.ZY,.inr (.inr {rfl,by lia})}
    lia
   unfold setRelay;show aAa (aAa<|aCl kr rfl (kH u) ?_);dsimp only;rw[hM];show lR (λz=>?_) (λ_=>?_)
   .exfalso;rcases v with⟨a,_⟩|⟨a,_⟩|⟨a,_⟩<;>(subst a;show k7 z (by rw[aFZ];symm))
   let{B,f,r1,r2,r3,r4,r5,r6,r7,r8,r9}:=ST.SH (finger:=g.finger) (moves:=g.movedTo M) (led:=g.led) (plain:=g.plain) hM1 h (by rw[i];rcases v with⟨a,k⟩|⟨a,k⟩|⟨a,k⟩<;>lia);have er:g.relaid (h.map (·.1)) (SetTable.grown<|es.size+1)=some (B,f):=by unfold SetTable.relaid;rw[hM];show r1
   rw[er];have hre:∀{Q':Array (Int×au)×fg->aL->Prop}{s':aL},Q' (f.filterMap (h[·]?),B) s'->ba (bb prog w) A (do
     let es':=f.filterMap (h[·]?)
     if es'.size !=h.size then unsupported "internal:set-table-lost-an-element"
     pure (es',B)) Q' E s':=λ{Q' s'} qq=>by
    dsimp only;rw[kn (by simp[r2])];show aAc qq
   show aAa (hre ?_);dsimp only;generalize hes3:f.filterMap (h[·]?)=y at r2 r3 r4⊢;show wpAny_storeSet_of kr rfl (aAc ?_) (by rw[r2];show bp);have ho3:=vM (es':=y) (t':=B) kr rfl;have sb3:=oE (s.heap.update S<|aGw h g) S (aGw y B);let{ds3,p3,P5}:=dU r3 O;show q2 p _ tk ds3 xm (U.trans sb3) {{_,y,_,B,ho3,hc,n,J,rfl,r4,by rw[r5,r2,i];show v,P5,by rw[r7];show lp.1,by rw[r8];show lp.2},p3.nodup_iff.mpr ye} (p3.trans T)
  show aAc (q2 p _ tk qt xm U {{_,h,_,g,kr,hc,n,J,rfl,u,?_,O,lp},ye} T);have rh:¬g.fill*5>=g.mask*3:=λz=>xn (by simp[aHb,z]);rw[l,em,i]at rh;rw[em,i];rcases mk with⟨a,k⟩|⟨a,k⟩|⟨a,k⟩
  .show .inl {a,by lia}
  .show .inr (.inl {a,by lia})
  show .inr (.inr {a,by lia})
 have:=hf.1;have p:t.mask<=127:=by rcases mk with⟨a,_⟩|⟨a,_⟩|⟨a,_⟩<;>lia
 lia
end
section
variable{prog:bc}{w:bM}{A:bt}{R:Result->aL->Prop}{I:a9}{fp wr:List a9}{G:Array GenState->Array GenState->Prop}{n:Nat}{P:Nat->au->Prop}{St:Nat->aL->Prop}{h0:cf}
def a4a(h0:cf)(v:au)(d:D):Prop:=∃a Y,v=.ref a/\d=.tup Y/\C6 d<8/\HV h0 v d
def VM{L:Bool}(W:WalksS prog w A.in1 I fp wr G n P St)(S:a9)(uc:S∉fp)(J:h0.get? S=none)(N:∀b∈wr,h0.get? b=none)
  (val:Nat->D) (wg:∀i v,P i v->a4a h0 v (val i)) (vc:∀i<n,C6 (val i)<8/\∃O,val i=.tup O) {U:List D} (hU:∀i<n,val i∈U) (f:U.length<=75) (hu:A.units+200<cq):
  ∀(k i:Nat) (s:aL),n-i=k->i<=n->St i s->Keeps h0 s.heap->(∃ds,SetAt L h0 s.heap S ds/\∀d,d∈ds↔∃j<i,val j=d)->
   (∀s',Moved (S::wr) G s s'->(∃ds,SetAt L h0 s'.heap S ds/\∀d,d∈ds↔∃j<n,val j=d)->R (.ok (.ret .none)) s')->
   gn (bb prog w) A (.builtin "set.update.loop" {[.ref S,.ref I],[]}) R s:=by
 have u:S∉wr:=λh=>uc (W.sub _ h);have Q:∀b∈wr,b∈S::wr:=λb f=>aAf _ f;intro k;induction k with
 |zero=>
  intro i s hk hi T x hS C;have ku:i=n:=by omega
  subst ku;show aBn F.entry_set_update_loop ?_;rw[aBm F.plain_set_update_loop _];change ba _ A.in1 (fh (.ref I)>>=_) _ _ s;show aAa (W.done s _ _ T λs' l=>?_);change ba _ A.in1 (ret Value.none) _ _ s';show aAc (C s' (l.mono Q) ?_);let{ds,{{o,es,ep,t,ho,r},E},jt}:=hS;show{ds,{{o,es,ep,t,l.heap S _ u ho,r},E},jt}
 |succ k ih=>
  intro i s hk hi T x hS C;have ao:i<n:=by omega
  show aBn F.entry_set_update_loop ?_;rw[aBm F.plain_set_update_loop _];change ba _ A.in1 (fh (.ref I)>>=_) _ _ s;show aAa (W.item i s _ _ ao T λv s' hP la l=>?_);let{ds,{{o,es,ep,t,ho,r},E},jt}:=hS;have jg:SetAt L h0 s'.heap S ds:={{o,es,ep,t,l.heap S _ u ho,r},E};have p:Keeps h0 s'.heap:=λb ob e=>l.heap b ob (λz=>by rw[N b z]at e;cases e) (x b ob e);let{a,Y,rfl,ze,y,hv}:=wg i v hP;rw[ze]at y hv;change ba _ A.in1 (h9 [aCV a] (setAdd S<|.ref a)>>=_) _ _ s';have g:∀e∈ds,C6 e<8/\∃O,e=.tup O:=λe H=>by grind
  show aAa (aAJ (a3h jg p hv y (λe H=>(g e H).1) (λe H=>(g e H).2) (by grind) (by letI:DecidableEq D:=λa b=>aCf _;have:=ST.Q6 (m:=U) E (λd hd=>by let{j,hj,e}:=(jt d).mp hd;rw[<-e];show hU j (by omega));omega) (λku tk B=>?_)<|λhni h' tk bu B hsb hS2 pm=>?_))
  .
   show aAc {aBD F.plain_set_update_loop _,ih (i+1) _ (by omega) ao (W.frame _ s' _ _ la B λb f o e=>e) p {ds,jg,λd=>?_} λq nh vp=>?_}
   .grind
   show C q (aGd W.gtrans ((l.mono Q).then_heap B λb o f e=>e) nh) vp
  have hbS:=λb f=>hsb.2 b f;show aAc {aBD F.plain_set_update_loop _,ih (i+1) _ (by omega) ao (W.frame _ s' _ _ la B λb f o e=>?_) (λb o e=>?_) {bu,hS2,λd=>?_} λq nh vp=>?_}
  .grind
  .change h'.get? b=some o;rw[hbS b (λz=>by subst z;rw[J]at e;cases e)];show p b o e
  .grind
  show C q (aGd W.gtrans ((l.mono Q).then_heap B λb o f e=>?_) nh) vp;grind
end
section
variable{prog:bc}{w:bM}{A:bt}{E:A5}{s:aL}
abbrev oZ(led:Bool):Obj:={cls:=.type "set",dict:=none,data:=.set #[] 0 (.fresh 0 0 led)}
def NK(h0 h:cf)(S:a9)(led:Bool)(e:h.get? S=some (oZ led)):SetAt led h0 h S []:=by
 show{{_,#[],0,.fresh 0 0 led,e,rfl,rfl,rfl,rfl,{{λi k a=>?_,λj b=>?_,rfl},ST.a6q,rfl,?_,λe d=>?_},.inl {rfl,aAS _},.nil,rfl,rfl},aCY}
 .show k7 a (by show¬i<0;omega)
 .show k7 b (by show¬j∈[];simp)
 .change 0<=7;omega
 show k7 d (by show¬e∈[];simp)
def AJ(a:au){Q₁:A5}(h:Q₁ (.ref s.heap.objs.size) {s with heap:=s.heap.push (oZ (!w.params.followText "set-order"))}):
  gn (bb prog w) A (.call (.builtin "set.__new__") {[.type "set",a],[]}) (wants Q₁ E) s:=by
 show codeAny_of_tree ?_;show aAa (aFh (F.newCall_set_1 a)<|aAc ⟨aBD F.plain_set_new _,aBn F.entry_set_new ?_⟩);rw[aBm F.plain_set_new _];unfold Builtin.«set.__new__» Builtin.Frozenset.newClass;have b:=sub_set_self;let{e,g,d,f,os}:=s;dsimp only
 wp_walk
 show aGh (aAc ?_);dsimp only;erw[newObj];show aAa (wpAny_alloc<|aAc<|aAc h)
def BR{h0:cf}(m:Keeps h0 s.heap){l:a9}{its:Array au}{val:Nat->D}{Q:A5}(hh:A.handled=none)(hl:s.heap.IsList l its)
  (wg:∀(i:Nat) (v:au),its[i]?=some v->a4a h0 v (val i)) (vc:∀i<its.size,C6 (val i)<8/\∃ys,val i=.tup ys) {U:List D} (hU:∀i<its.size,val i∈U) (g:U.length<=75) (hu:A.units+300<cq)
  (h:∀(h':cf) (tk:Nat) (ds:List D),SetAt (!w.params.followText "set-order") h0 h' s.heap.objs.size ds->(∀d,d∈ds↔∃j<its.size,val j=d)->Keeps s.heap h'->Q (.ref s.heap.objs.size) {s with heap:=h',toks:=tk}):
  ba (bb prog w) A (call (.type "set") [.ref l]) Q E s:=by
 let{c,tl,T}:=PySem.F.called_set.mro;have B:=PySem.F.called_set.made;have jn:=PySem.F.called_set.sub;show wpAny_call (codeAny_of_tree ?_);change ba _ _ (callAny (.type "set") _) _ _ _;show aAc {Code.quiet_builtin _ (by decide+kernel),aBn PySem.F.entry_type_call ?_};rw[Around.under_plain (weight_type_call_type "set" [.ref l] []) rfl];have h1:=PySem.F.called_set.notType;have h2:=PySem.F.called_set.canCreate;have hct:=PySem.F.typeCall_set_1 (.ref l);repeat(any_goals(first|assumption|wp_step))
 show aEd (AJ (.ref l) (E:=E) (Q₁:=λY ae=>∃led:Bool,led=!w.params.followText "set-order"/\Y=.ref s.heap.objs.size/\ae={s with heap:=s.heap.push (oZ led)}) {_,rfl,rfl,rfl}) λr ae n=>?_;cases r with
 |error e=>show n
 |ok fl=>
  cases fl with
  |next=>show n.elim
  |brk=>show n.elim
  |cont=>show n.elim
  |ret Y=>
   let{led,eL,rfl,rfl}:=n;have hS:(s.heap.push<|oZ led).get? s.heap.objs.size=some (oZ led):=aAh _ rfl;have hT:Shared.TypeIs {s with heap:=s.heap.push (oZ led)} (.ref s.heap.objs.size) "set":={_,hS,rfl};have hli:=PySem.F.called_set.init.lookup;have hbi:=PySem.F.called_set.init.bind (.ref s.heap.objs.size);repeat(any_goals(first|assumption|wp_step))
   show aEd (codeAny_call_builtin (R:=wants (λr ip=>r=.none/\∃h' tk ds,ip={s with heap:=h',toks:=tk}/\SetAt (!w.params.followText "set-order") h0 h' s.heap.objs.size ds/\(∀d,d∈ds↔∃j<its.size,val j=d)/\Keeps s.heap h') E) PySem.F.called_set.init.plain PySem.F.entry_set_init<|check_set_init_1 hT ?_) λrf ip a=>?_
   .let{ol,p,yu,nl,q}:=hl;let{ocls,k,C,f}:=ol;simp only at yu q;subst yu;subst q;have t:(s.heap.push<|oZ led).get? l=some {cls:=.type "list",dict:=k,data:=.seq its nl,slots:=f}:=aAb _ p;have hsls:=PySem.F.sub_list_set;have hslf:=PySem.F.sub_list_frozenset;have ai:(aCu "list"==aCu "dict")=false:=by decide
    have jd:(s.heap.push<|oZ led).IsList l its:={_,t,rfl,nl,rfl};unfold Builtin.«set.__init__» noKeywords Builtin.Frozenset.updateFrom;generalize H:pyIter=PI
    wp_walk
    subst H;show aCI jd (aAa<|aGF ?_);have u:l<s.heap.objs.size:=aAd p;have x:l≠(s.heap.push<|oZ led).objs.size:=by rw[aBb];show aAl (aBB u)
    have uc:s.heap.objs.size∉[(s.heap.push<|oZ led).objs.size,l]:=by rw[aBb];erw[aAe,aAR,or_false,not_or];show{aAl (aDt _),aBY u}
    have ph:∀b,s.heap.objs.size<=b->h0.get? b=none:=λb g=>by
     cases e:h0.get? b with
     |none=>rfl
     |some o=>have:=m b o e;rw[aEZ g]at this;cases this
    show VM (h0:=h0) ((aGV (by simp[hh]) _ l x its).toS) s.heap.objs.size uc (ph _<|aAi _) (λb g=>?hw) val wg vc hU g (by change A.units+1+1+200<cq;omega) (its.size-0) 0 _ (by omega) (aAS _) {{_,aAh _ rfl,rfl,rfl},(jd.push _)} (λb o e=>aAb _ (aAb _<|m b o e)) {[],NK _ _ _ led (aAb _ hS),λd=>?he} ?hR
    case he=>show{λz=>(by cases z),by rintro⟨j,hj,_⟩;show(by omega)}
    case hw=>
     have jr:b=(s.heap.push<|oZ led).objs.size:=by exists g
     subst jr;rw[aBb];show ph _ (Nat.le_succ _)
    case hR=>
     rintro⟨h',g',d',oh,I⟩ y ⟨ds,J,L⟩;have eg:g'=s.gens:=y.gens;have ed:d'=s.drawn:=y.drawn;have eo:I=s.os:=y.os;subst eg;subst ed;subst eo;show aAc ?_;change ba _ _ (ret Value.none) _ _ _;show aAc {rfl,h',oh,ds,rfl,(eL▸J),L,λb o e=>?_};have g:=aAd e;have N:b≠(s.heap.push<|oZ led).objs.size:=by rw[aBb];show aAl (aBB g)
     show y.heap b o (by erw[aAe,aAR,or_false,not_or];show{aAl g,N}) (aAb _<|aAb _ e)
   cases rf with
   |error e=>show a
   |ok O=>
    cases O with
    |next=>show a.elim
    |brk=>show a.elim
    |cont=>show a.elim
    |ret r=>
     let{rfl,h',tk,ds,rfl,J,L,kl}:=a;repeat(any_goals(first|assumption|wp_step))
     show h _ _ _ J L kl
end
end DL
namespace SI
open PySem
theorem KF{d:Type}(next:Nat->Nat):∀(a k:Nat) (left:List d) (b:Array d),left.length=a->(aGZ next a k left b).toList.Perm (b.toList++left)
 |0,k,left,b,h=>by have:left=[]:=aBS h;subst this;simp[aGZ]
 |a+1,k,left,b,h=>by
  unfold aGZ;have f:0<left.length:=by lia
  have e:next k%left.length<left.length:=aFd _ f
  rw[aAk e];dsimp only;show(KF next a (k+1) _ _ (by rw[List.length_eraseIdx_of_lt e];lia)).trans ?_;rw[Array.toList_push,aED];show List.Perm.append_left _ ?_;have:∀(l:List d) (i:Nat) (h:i<l.length),(l[i]::l.eraseIdx i).Perm l:=by
   intro l;induction l with
   |nil=>intro i h;simp at h
   |cons x l g=>
    intro i h;cases i with
    |zero=>simp
    |succ i=>
     have j:i<l.length:=by exists h
     rw[List.eraseIdx_cons_succ,List.getElem_cons_succ];show(List.Perm.swap _ _ _).trans ((g i j).cons _)
  show this left _ e
def wI{a:Type}(next:Nat->Nat)(Y:Array a):(ka next Y).toList.Perm Y.toList:=by unfold ka;exists KF next Y.size 0 Y.toList #[] (by simp)
def walkL(w:bM)(S:a9)(es:Array (Int×au))(ep:Nat):List (Int×au):=if w.params.followText "set-order"=true then(ka (w.params.setOrder S ep) es).toList else es.toList
def walkL_perm(w:bM)(S:a9)(es:Array (Int×au))(ep:Nat):(walkL w S es ep).Perm es.toList:=by
 unfold walkL;split
 .show wI _ _
 show List.Perm.refl _
def slotAt(w:bM)(t:fg):Nat->Nat
 |0=>0
 |i+1=>if w.params.followText "set-order"=true then 0 else t.place.getD i 0+1
def Q0(h:cf)(w:bM)(a S:a9)(t:fg)(i n ep:Nat):Prop:=
 h.get? a=some {cls:=.type "set_iterator",dict:=none,data:=.fields #[dm (slotAt w t i),dm i,.ref S,dm n,dm ep],slots:=#[]}
def nS(h:cf)(S:a9)(es:Array (Int×au))(ep:Nat)(t:fg):Prop:=∃o,h.get? S=some o/\o.cls=.type "set"/\o.data=.set es ep t
namespace F
def entry_set_iter:entryFor table "set.__iter__"=some Builtin.«frozenset.__iter__»:=entryFor_alias (id':= "frozenset.__iter__") (by kernel_rfl) rfl (by decide+kernel) (by kernel_rfl)
def slot_seti_next:Slot "set_iterator" "__next__" "set_iterator.__next__":=
 .of (owner:= "set_iterator") (n:= "__next__") (by rw[aDf,aBZ];kernel_rfl) (by decide+kernel) (by decide+kernel) (by decide+kernel)
  (by first|show .inl (by decide+kernel)|show .inr (by decide+kernel)) (by rw[aFO];kernel_rfl)
def entry_seti_next:entryFor table "set_iterator.__next__"=some Builtin.«set_iterator.__next__»:=entryFor_of_tree (by kernel_rfl)
def args_seti_next(a:au):argsOk "set_iterator.__next__" {[a],[]}:=by unfold argsOk;kernel_rfl
def slot_seti_iter:Slot "set_iterator" "__iter__" "set_iterator.__iter__":=
 .of (owner:= "set_iterator") (n:= "__iter__") (by rw[aDf,aBZ];kernel_rfl) (by decide+kernel) (by decide+kernel) (by decide+kernel)
  (by first|show .inl (by decide+kernel)|show .inr (by decide+kernel)) (by rw[aFO];kernel_rfl)
def entry_seti_iter:entryFor table "set_iterator.__iter__"=some Builtin.«dict_keyiterator.__iter__»:=entryFor_alias (id':= "dict_keyiterator.__iter__") (by kernel_rfl) rfl (by decide+kernel) (by kernel_rfl)
def args_seti_iter(a:au):argsOk "set_iterator.__iter__" {[a],[]}:=by unfold argsOk;kernel_rfl
end F
section
variable{s:aL}{t:fg}
def MG{d:Type}{M:Model}{Q:d->aL->Prop}{c:Prop}[Decidable c]{a b:Sem d}(h:c)(k:ba M A a Q E s):ba M A (if c then a else b) Q E s:=by rw[km h];show k
def BW(es:Array (Int×au))(a:t.plain=true):(!t.plain&&decide (es.size>1))=false:=by rw[a];rfl
def HP{Q:CD}(h:Q (w.params.followText "set-order") s):ba (bb prog w) A setsByText Q E s:=by unfold setsByText;show aAa (aGh<|aAc h)
def RA{Q:A5}(f:nS s.heap S es ep t)(b:t.fits es.size=true)(g:t.plain=true)
  (h:Q (.ref s.heap.objs.size) {s with heap:=s.heap.push {cls:=.type "set_iterator",dict:=none,data:=.fields #[dm (slotAt w t 0),dm (0:Nat),.ref S,dm es.size,dm ep],slots:=#[]}}):
  ba (bb prog w) A (pyIter (.ref S)) Q E s:=by
 let{o,a,i,d}:=f;have e:s.TypeIs (.ref S) "set":={o,a,i};show aDO e PySem.F.slot_set_iter (aAG PySem.F.slot_set_iter e F.entry_set_iter ?_ (PySem.F.args_set_iter_1 _));unfold Builtin.«frozenset.__iter__»;change ba _ _ (aGe "__iter__" {[.ref S],[]}>>=_) _ _ s;have j:aGe "__iter__" ⟨[.ref S],[]⟩=pure S:=rfl;rw[j];show aAa (aAc ?_);unfold Builtin.Frozenset.sizeOf;show aAa (aAa<|aFm a d b<|aAc<|aAa ?_);unfold setDrawn;show aAa (aCl a d b<|aAa<|HP<|aAc ?_);change ba _ _ (if(!w.params.followText "set-order"&&(!t.plain&&decide (es.size>1)))=true then _ else _) _ _ s;rw[BW es g,aGG];erw[aAB,if_false];show aAa (aAc<|aAa<|wpAny_setEpoch_of a d b<|aAa<|aAD<|aAc ⟨_,rfl, "set_iterator",_,⟨_,aAh _ rfl,rfl⟩,F.slot_seti_next.lookup,?_⟩);simpa[slotAt]using h
def GF(a:ST.OL Y):aDW Y 0=0:=by
 let{d,b,e}:=ST.cN a 0;by_cases h:aDW Y 0=0
 .show h
 show k7 (b 0 (by lia) (by lia)) (by lia)
def FM(b:ST.OL Y)(a:i<Y.size):aDW Y (Y.getD i 0+1)=i+1:=by
 have e:Y.getD i 0=Y[i]:=by simp[aFS,a]
 rw[e];let{h,f,g}:=ST.cN b (Y[i]+1);rcases Nat.lt_trichotomy (aDW Y<|Y[i]+1) (i+1)with q|q|q
 .have:=g i a (by lia);lia
 .show q
 have d:i+1<Y.size:=by lia
 have:=f (i+1) d q;have:=b i (i+1) a d (by lia)
 lia
def HY(t:fg)(a:ST.OL t.place)(b:¬w.params.followText "set-order"=true)(d:i<=t.place.size):aDW t.place (slotAt w t i)=i:=by
 cases i with
 |zero=>show GF a
 |succ i=>change aDW t.place (if w.params.followText "set-order"=true then 0 else t.place.getD i 0+1)=i+1;rw[kn b];show FM a (by lia)
def DD{Q:Option (au×Nat)->aL->Prop}(p:nS s.heap S es ep t)(d:t.fits es.size=true)(q:t.plain=true)(r:¬w.params.followText "set-order"=true->t.led=true)(u:ST.OL t.place)(C:i<=es.size)(f:∀e,(walkL w S es ep)[i]?=some e->Q (some (e.2,slotAt w t (i+1))) s)(k:i=es.size->Q none s):ba (bb prog w) A (setNext S (slotAt w t i) i ep) Q E s:=by
 let{o,l,H,m}:=p;have I:t.place.size=es.size:=by erw[aGO,aAI,beq_iff_eq,decide_eq_true_eq]at d;show d.1
 unfold setNext;show aAa (aCl l m d ?_);show aAa (HP ?_);by_cases a:w.params.followText "set-order"=true
 .rw[km a,kn (by simp)];unfold setWalk;show aAa (aAa<|aCl l m d<|aAa<|HP ?_);rw[km a];show aAa (aGh<|aAc ?_);show aAc ?_;have h:(walkL w S es ep)=(ka (w.params.setOrder S ep) es).toList:=by unfold walkL;rw[km a]
  have j:slotAt w t i=slotAt w t (i+1):=by
   cases i with
   |zero=>change 0=if w.params.followText "set-order"=true then 0 else _;rw[km a]
   |succ i=>change(if w.params.followText "set-order"=true then 0 else _)=if w.params.followText "set-order"=true then 0 else _;rw[km a,km a]
  rw[h,aAx]at f;change Q (((ka (w.params.setOrder S ep) es)[i]?).map λe=>(e.2,slotAt w t i)) s;cases e:(ka (w.params.setOrder S ep) es)[i]? with
  |some x=>rw[j];show f x e
  |none=>
   have n:(ka (w.params.setOrder S ep) es).size=es.size:=by have:=(wI (w.params.setOrder S ep) es).length_eq;exists this
   have:=Array.getElem?_eq_none_iff.mp e;show k (by lia)
 rw[kn a];have v:¬(!t.plain&&decide (es.size>1))=true:=by rw[q];simp
 change ba _ _ (if(!t.plain&&decide (es.size>1))=true then _ else _) _ _ s;rw[kn v];change ba _ _ ((if(!t.led&&!es.isEmpty)=true then _ else _)>>=_) _ _ s;rw[kn (by rw[r a];simp)];show aAa (aAc<|aAc ?_);rw[HY t u a (by lia)];have h:(walkL w S es ep)=es.toList:=by unfold walkL;rw[kn a]
 rw[h,aAx]at f;by_cases y:i<es.size
 .have g:es[i]?=some es[i]:=aAt y;have b:i<t.place.size:=by lia
  have z:t.place[i]?=some t.place[i]:=aAt b;have:=f _ g;rw[g,z];have B:slotAt w t (i+1)=t.place[i]+1:=by change(if w.params.followText "set-order"=true then 0 else t.place.getD i 0+1)=_;rw[kn a];simp[aFS,b]
  rw[B]at this;show this
 have g:es[i]?=none:=aBr (by lia);rw[g];show k (by lia)
def S1(h:Q0 s.heap w a S t i n ep):s.TypeIs (.ref a) "set_iterator":={_,h,rfl}
def QG{Q:Option au->aL->Prop}(a:Q0 s.heap w b S t i es.size ep)(d:nS s.heap S es ep t)(f:t.fits es.size=true)(k:t.plain=true)(l:¬w.params.followText "set-order"=true->t.led=true)(m:ST.OL t.place)(n:i<es.size)(h:∀e h',(walkL w S es ep)[i]?=some e->Q0 h' w b S t (i+1) es.size ep->Heap.SameBut b s.heap h'->Q (some e.2) {s with heap:=h'}):ba (bb prog w) A (fh (.ref b)) Q E s:=by
 have g:=S1 a;let{o,p,z,q}:=id d;show aAa (aCU (aAX g F.slot_seti_next
  (aAG F.slot_seti_next g F.entry_seti_next ?_ (F.args_seti_next _))))
 show aAa (aAc<|aAa<|aFP a rfl<|aAa<|aFm p q f ?_);rw[kn (by simp)];change ba _ _ (setNext S (aFf (slotAt w t i:Int)) (aFf (i:Int)) (aFf (ep:Int))>>=_) _ _ s;show aAa (DD d f k l m (aDj n) (λe r=>(aAa (aBf a (by simp) λB u v=>(aAa (aBf u (by simp) λj x y=>(aAc {_,rfl,aAc (h e j r ?_ (v.trans y))})))))) λe=>by lia);have:j.get? b=some _:=x;unfold Q0;rw[this];simp
def pk{Q:Option au->aL->Prop}(i:A.handled=none)(a:Q0 s.heap w b S t es.size es.size ep)(d:nS s.heap S es ep t)(f:t.fits es.size=true)(j:t.plain=true)(k:¬w.params.followText "set-order"=true->t.led=true)(l:ST.OL t.place)(h:∀h',Heap.ExtBut b s.heap h'->Q none {s with heap:=h'}):ba (bb prog w) A (fh (.ref b)) Q E s:=by
 have g:=S1 a;let{o,m,p,n}:=id d;unfold fh;show aAa (aCU (aAX g F.slot_seti_next
  (aAG F.slot_seti_next g F.entry_seti_next ?_ (F.args_seti_next _))))
 show aAa (aAc<|aAa<|aFP a rfl<|aAa<|aFm m n f ?_);rw[kn (by simp)];change ba _ _ (setNext S (aFf (slotAt w t es.size:Int)) (aFf (es.size:Int)) (aFf (ep:Int))>>=_) _ _ s;show aAa (DD d f j k l (aAi _) (λe q=>?_) λ_=>?_)
 .have r:=(walkL_perm w S es ep).length_eq
  nofun
 change ba _ _ (setField (.ref b) 2 .none>>=_) _ _ s;show aAa (aDv a rfl (by simp) (aAa (aAa (aAD (aAa (aFh (by first|rfl|(simp only[];rfl)) (aAD ?_ (by size_fits)))) (by size_fits)))));show aAa (aGa ?_);rw[show A.in1.handled=none from i];show aAa (aAc<|aGJ ?_);show aAa (aCx {_,aAh _ rfl,rfl} aEE ?_);show aAc (h _<|((aCk ..).extBut.push _).push _)
def fQ(x:nS h S es ep t)(e:∀o,h.get? S=some o->h'.get? S=some o):nS h' S es ep t:=by let{o,a,r}:=x;show{o,e o a,r}
end
section
def NZ(p:A.handled=none)(I S:a9)(r:S≠I)(g:t.fits es.size=true)(j:t.plain=true)(k:¬w.params.followText "set-order"=true->t.led=true)(l:ST.OL t.place):
  Walks prog w A I [I,S] [I] es.size (λi v=>∃e,(walkL w S es ep)[i]?=some e/\v=e.2) (λi h=>Q0 h w I S t i es.size ep/\nS h S es ep t)where
 sub:=λb a=>by simp at a;simp[a]
 frame:=λ_ _ _ st m=>{m I (by simp) _ st.1,fQ st.2 λo e=>m S (by simp) o e}
 item:=λi s Q E u st d=>QG st.1 st.2 g j k l u λe f x y n=>d e.2 f s.toks {e,x,rfl} {y,fQ st.2 λo q=>(n.2 S r).trans q} λb o a q=>(n.2 b (λz=>a (by simp[z]))).trans q
 done:=λs Q E st d=>pk p st.1 st.2 g j k l λf B=>d f s.toks λb o a q=>B b o (λz=>a (by simp[z])) q
 self:=λi s Q E st d=>by show aDO (S1 st.1) F.slot_seti_iter (aAG F.slot_seti_iter (S1 st.1) F.entry_seti_iter (aAa<|aAc<|aAc ⟨_,rfl, "set_iterator",_,S1 st.1,F.slot_seti_next.lookup,d⟩)<|F.args_seti_iter _)
def collect_set{Q:List au->aL->Prop}(hh:A.handled=none)(O:nS s.heap S es ep t)(T:t.fits es.size=true)(U:t.plain=true)(hl:¬w.params.followText "set-order"=true->t.led=true)(ha:ST.OL t.place)(hn:es.size<=sizeLine)
  (hQ:∀h' tk,(∀b o,s.heap.get? b=some o->h'.get? b=some o)->Q ((walkL w S es ep).map (·.2)) {s with heap:=h',toks:=tk}):ba (bb prog w) A (collect (.ref S)) Q E s:=by
 let{y,d,j,hdS}:=id O;have hT:s.TypeIs (.ref S) "set":={y,d,j};have Y:=aAd d;unfold collect;show aAa (aGF<|aBn PySem.F.entry_proto_collect ?_);rw[aBm PySem.F.plain_proto_collect _];show aAa (aAD<|aAc ⟨aBD PySem.F.plain_list_iadd _,aBn PySem.F.entry_list_iadd ?_⟩);rw[aBm PySem.F.plain_list_iadd _];generalize k:s.heap.push {cls:=.type "list",data:=.seq ([]:List au).toArray}=a;have f:∀b o,s.heap.get? b=some o->a.get? b=some o:=λb o e=>by rw[<-k];show aAb _ e
 have h:a.objs.size=s.heap.objs.size+1:=by rw[<-k,aBb]
 have z:a.get? s.heap.objs.size=some {cls:=.type "list",data:=.seq ([]:List au).toArray}:=by rw[<-k];show aAh _ rfl
 have m:=fQ O λo e=>f S o e;have B:Shared.TypeIs {s with heap:=a} (.ref S) "set":={y,f _ _ d,j};have n:aDe (.ref s.heap.objs.size) (.ref S)=false:=by simp[aDe,aBY Y]
 change ba _ A.in1 (aDL (.ref s.heap.objs.size) (.ref S)<|.ref s.heap.objs.size) _ _ _;unfold aDL;show aAa (aDk B ?_);rw[kn (by rw[n];symm)];show aAa (RA m T U<|aAa<|aAJ ?_);generalize p:a.push {cls:=.type "set_iterator",dict:=none,data:=.fields #[dm (slotAt w t 0),dm (0:Nat),.ref S,dm es.size,dm ep],slots:=#[]}=q;have g:∀b o,a.get? b=some o->q.get? b=some o:=λb o e=>by rw[<-p];show aAb _ e
 have C:Q0 q w a.objs.size S t 0 es.size ep:=by rw[<-p];show aAh _ rfl
 have l:Shared.TypeIs {s with heap:=q} (.ref S) "set":={y,g _ _ (f _ _ d),j};have r:=g _ _ z;unfold aCO;show aAa (aBw l PySem.F.slot_set_len.lookup ?_);show aAa (aCx (b:=true) l (by rw[aFO];kernel_rfl) ?_);rw[kn (by symm)];show MG (by decide+kernel) ?_
 show aAa (aDk l<|aAc ?_);rw[km (by symm)];show aAa (aCG<|aAa<|aAa<|aCc r rfl ?_);have u:=aBa (aCg (·.push Value.none)) r rfl;show aCc u rfl ?_;have H:∀b o,b≠s.heap.objs.size->q.get? b=some o->((q.update s.heap.objs.size (aCg (·.push Value.none))).update s.heap.objs.size (aCg (·.pop))).get? b=some o:=
  λb o v e=>(aAE _ _<|aCL v).trans ((aAE _ _<|aCL v).trans e)
 have I:a.objs.size≠s.heap.objs.size:=by rw[h];lia
 show aAc {aBD PySem.F.plain_extend_loop _,codeAny_extend_loopS ((NZ (prog:=prog) (w:=w) (A:=A.in1) (by simp[hh]) a.objs.size S (by lia) (es:=es) (ep:=ep) (t:=t) T U hl ha).toS) hn _ (by grind) _ es.size 0 _ _ _ rfl (aAS _) {H _ _ I C,fQ (fQ m λo e=>g S o e) λo e=>H S o (aAl Y) e} (aBa (aCg (·.pop)) u rfl) (ItemsOf.nil _) λJ il c' x jg L=>?_};change ba _ A (load s.heap.objs.size>>=_) _ _ J;show aAa (wpAny_load jg<|aAc ?_);have g0:=x.gens;have d0:=x.drawn;have o0:J.os=s.os:=x.os;have ea:il.toList=(walkL w S es ep).map (·.2):=by
  have jl:=(walkL_perm w S es ep).length_eq;apply aEz;intro i;rw[aAF,aAx];by_cases hi:i<es.size
  .have wc:i<il.size:=by rw[L.1];show hi
   let{e,he,hv}:=L.2 i _ (aAt wc);grind
  rw[aBr (by rw[L.1];lia),aGr (by grind)];rfl
 let{h',g',d',oh,os'}:=J;subst g0 d0 o0;rw[ea];show hQ h' oh λb o e=>?_;have v:=aAl (aAd e);have N:b≠a.objs.size:=by rw[h];show aAl (aBB<|aAd e)
 show x.heap b o (by simp;show{v,N}) (H b o v<|g _ _<|f _ _ e)
end
end SI
namespace DL
open PySem PySem.Spec L2
open PyProof.Rows hiding St
section
def WL:D->Bool
 |.int _=>true
 |_=>false
def cT:D->Bool
 |.tup Y=>!Y.isEmpty&&Y.all WL
 |_=>false
def intD:D->Int
 |.int i=>i
 |_=>0
def flat:D->List Int
 |.tup Y=>Y.map intD
 |_=>[]
theorem SS:∀{Y:List D},Y.all WL=true->Y=(Y.map intD).map D.int:=by
 intro a h;cases a with
 |nil=>rfl
 |cons x Y=>
  erw[aGN,aAI]at h;cases x with
  |int i=>change D.int i::Y=D.int i::(Y.map intD).map D.int;rw[<-SS h.2]
  |_=>cases h.1
def iO(h:cT d=true):flat d≠[]/\d=.tup ((flat d).map .int):=by
 cases d with
 |tup Y=>erw[cT,aAI]at h;show{by simpa[flat]using h.1,?_};change D.tup Y=D.tup ((Y.map intD).map D.int);rw[<-SS h.2]
 |_=>cases h
def AQ(h:cT d=true)(h':cT e=true)(q:flat d=flat e):d=e:=by rw[(iO h).2,(iO h').2,q]
theorem wP:∀l:List Int,aY (l.map D.int)=true:=by
 intro a;cases a with
 |nil=>rfl
 |cons i l=>change(true&&aY (l.map D.int))=true;rw[wP l];rfl
def M6(h:cT d=true):mZ d=true:=by rw[(iO h).2];show wP _
def JK(h:cT d=true):C6 d<8:=by
 rw[(iO h).2];have:∀l:List Int,x4 (l.map D.int)=0:=λl=>by
  induction l with
  |nil=>rfl
  |cons i l a=>change max 0 (x4<|l.map D.int)=0;rw[a];rfl
 change x4 _+1<8;rw[this];lia
def uO(d:D):List D->List D
 |[]=>[d]
 |x::Y=>if flat d=flat x then x::Y else if HT.lexLt (flat d) (flat x)=true then d::x::Y else x::uO d Y
def bJ(ds:List D):List D:=ds.foldr uO []
def XQ(ds:List D):Prop:=ds.Pairwise λx y=>HT.lexLt (flat x) (flat y)=true
theorem jJ:∀{Y:List D},e∈uO d Y->e=d\/e∈Y
 |[],h=>by rcases aAe.mp h with h|h;show .inl h;cases h
 |x::Y,h=>by
  unfold uO at h;split at h
  .show .inr h
  split at h
  .nofun
  rcases aAe.mp h with h|h
  .nofun
  rcases jJ h with h|h
  .show .inl h
  show .inr (.tail _ h)
theorem zV:∀{Y:List D},e∈Y->e∈uO d Y
 |x::Y,h=>by
  unfold uO;split
  .show h
  split
  .show .tail _ h
  rcases aAe.mp h with h|h
  .rw[h];show .head _
  show .tail _ (zV h)
theorem AR(a:cT d=true):∀{Y:List D},(∀x∈Y,cT x=true)->d∈uO d Y:=by
 intro b h;cases b with
 |nil=>show .head _
 |cons x Y=>
  unfold uO;split
  .rename_i q;rw[AQ a (h x<|.head _) q];show .head _
  split
  .show .head _
  show .tail _ (AR a λy e=>h y (.tail _ e))
theorem BJ:∀{Y:List D},XQ Y->XQ (uO d Y):=by
 intro f h;cases f with
 |nil=>show aEh _ _
 |cons x Y=>
  have b:=aAu.mp h;unfold uO;split
  .show h
  rename_i ne;split
  .rename_i lt;show aAu.mpr {λy a=>?_,h};rcases aAe.mp a with rfl|a
   .show lt
   show TS.lex_trans _ _ _ lt (b.1 y a)
  rename_i e;show aAu.mpr {λy a=>?_,BJ b.2};rcases jJ a with rfl|a
  .cases q:HT.lexLt (flat x) (flat y)with
   |true=>rfl
   |false=>show k7 (TS.lex_total _ _ (by exists e) q) ne
  show b.1 y a
theorem bE:∀ds:List D,XQ (bJ ds):=by
 intro a;cases a with
 |nil=>show .nil
 |cons _ ds=>show BJ (bE ds)
theorem CN:∀{ds:List D},(∀d∈ds,cT d=true)->∀d∈bJ ds,cT d=true
 |[],_,d,h=>by cases h
 |e::ds,h,d,hd=>by
  rcases jJ hd with rfl|hd
  .show h _ (.head _)
  show CN (λd hd=>h d (.tail _ hd)) d hd
theorem L5:∀{ds:List D},(∀d∈ds,cT d=true)->∀d,d∈bJ ds↔d∈ds:=by
 intro b h d;cases b with
 |nil=>show Iff.rfl
 |cons e ds=>
  have a:∀d∈ds,cT d=true:=λd f=>h d (.tail _ f);constructor
  .intro q;rcases jJ q with rfl|q
   .show .head _
   show .tail _ ((L5 a d).mp q)
  intro q;rcases aAe.mp q with rfl|q
  .show AR (h _<|.head _) (CN a)
  show zV ((L5 a d).mpr q)
theorem jK:∀{Y a:List D},XQ Y->XQ a->(∀d,d∈Y↔d∈a)->Y=a:=by
 intro k g l m h;cases k with
 |nil=>
  cases g with
  |nil=>rfl
  |cons y a=>have:=(h y).mpr (.head _);cases this
 |cons x Y=>
  cases g with
  |nil=>have:=(h x).mp (.head _);cases this
  |cons y a=>
   have i:=aAu.mp l;have j:=aAu.mp m;have b:∀d:D,HT.lexLt (flat d) (flat d)≠true:=λd q=>by rw[TS.lex_irrefl]at q;cases q
   have e:x=y:=by
    rcases aAe.mp ((h x).mp (.head _))with q|q
    .show q
    rcases aAe.mp ((h y).mpr (.head _))with f|f
    .show f.symm
    show k7 (TS.lex_trans _ _ _ (j.1 x q)<|i.1 y f) (b y)
   subst e;congr 1;show jK i.2 j.2 λd=>?_;grind
def LV(h:XQ Y):Y.Nodup:=h.imp λ{x y} q z=>by subst z;rw[TS.lex_irrefl]at q;cases q
def ssR:D->R (List D)
 |.lst a=>if a.all cT=true/\(bJ a).length<=63 then .ok (bJ a)else .bad
 |_=>.bad
section
mutual
theorem S8(I:Inv X a i H s):∀{v:V}{d:D}{u:au},Rep X.K H O v d->mZ d=true->RelV v u->HV s.heap u d
 |_,_,_,.non,e,_=>by cases e
 |_,_,_,.bl,e,_=>by cases e
 |_,_,_,.str,e,_=>by cases e
 |_,_,_,.lst _ _ _,e,_=>by cases e
 |_,_,_,.dct ..,e,_=>by cases e
 |_,_,_,.int,_,r=>by let{t,rfl}:=r;show .int _ t
 |_,_,_,.tup h r,e,b=>by cases b;let{f,g,p,_}:=I.tuple h;show .tup p (KJ I r e g)
theorem KJ(I:Inv X b h H s):∀{v:List V}{d:List D}{u:List au},Reps X.K H O v d->aY d=true->o5 v u->HVs s.heap u d
 |_,_,_,.nil,_,.nil=>.nil
 |_,_,_,.cons r t,e,.cons f g=>by have a:(mZ _&&aY _)=true:=e;rw[aAI]at a;show .cons (S8 I r a.1 f) (KJ I t a.2 g)
end
end
variable [Tabs]
def a7j(w:bM)(o:Obj)(es:List au):Prop:=o.ExactSet/\∃a b t,o.data=.set a b t/\t.fits a.size=true/\t.plain=true/\t.led=!w.params.followText "set-order"/\ST.OL t.place/\a.toList.map (·.2)=es
abbrev B4(K:lM)(H:Hp)(O:a9->Prop):List au->List D->Prop:=Paired λu d=>∃v,RelV v u/\Rep K H O v d
theorem B4.of{K:lM}{H:Hp}{O:a9->Prop}:∀{vs:List V}{a:List au}{ds:List D},o5 vs a->Reps K H O vs ds->B4 K H O a ds:=by
 intro _ _ _ d b;cases d with
 |nil=>
  cases b with
  |nil=>show .nil
 |cons r t=>
  cases b with
  |cons q u=>show .cons {_,r,q} (B4.of t u)
def B4.ab9{K:lM}{H:Hp}{O:a9->Prop}:∀{a:List au}{ds:List D},B4 K H O a ds->∃vs,o5 vs a/\Reps K H O vs ds:=by
 intro _ _ h;induction h with
 |nil=>show{[],.nil,.nil}
 |cons h _ b=>let{v,r,q}:=h;let{vs,d,e}:=b;show{v::vs,.cons r d,.cons q e}
def B4.same{K:lM}{H H':Hp}{O:a9->Prop}(s:Same H H'){a:List au}{ds:List D}(h:B4 K H O a ds):B4 K H' O a ds:=fH (by rintro _ _ ⟨v,r,q⟩;show{v,r,q.same s}) h
def B4.get{K:lM}{H:Hp}{O:a9->Prop}:∀{a:List au}{ds:List D}{u:au},B4 K H O a ds->u∈a->∃d∈ds,∃v,RelV v u/\Rep K H O v d:=by
 intro _ _ _ z h;induction z with
 |nil=>cases h
 |cons r _ b=>
  rcases aAe.mp h with rfl|h
  .show{_,.head _,r}
  let{d,e,q}:=b h;show{d,.tail _ e,q}
open Classical in
def R0(K:lM) (H:Hp) (h:cf):cf:=PySem.W.hideAll h ((aBz h.objs.size).filter λa=>decide (¬∃Y,S5 K H a Y))
def aH(K:lM)(H:Hp)(h:cf):Keeps (R0 K H h) h:=λb o e=>PySem.W.of_hideAll _ e
open Classical in
def BP{K:lM}{H:Hp}{h:cf}{b:a9}{o:Obj}{Y:List V}(e:h.get? b=some o)(q:S5 K H b Y):(R0 K H h).get? b=some o:=PySem.W.hideAll_get _ e λa=>by have:=(aCp.mp a).2;show(of_decide_eq_true this) {Y,q}
open Classical in
def ID{K:lM}{H:Hp}{h:cf}{b:a9}{o:Obj}(e:(R0 K H h).get? b=some o):∃Y,S5 K H b Y:=by
 show aDX λn=>?_;have a:=aH K H h b o e;have:(R0 K H h).get? b=none:=PySem.W.hideAll_none _ (aCp.mpr {aBs.mpr (aAd a),lg n})
 lia
section
mutual
theorem PP(I:Inv X a j H s):∀{v:V}{d:D}{u:au},Rep X.K H O v d->mZ d=true->RelV v u->HV (R0 X.K H s.heap) u d
 |_,_,_,.non,e,_=>by cases e
 |_,_,_,.bl,e,_=>by cases e
 |_,_,_,.str,e,_=>by cases e
 |_,_,_,.lst _ _ _,e,_=>by cases e
 |_,_,_,.dct ..,e,_=>by cases e
 |_,_,_,.int,_,r=>by let{t,rfl}:=r;show .int _ t
 |_,_,_,.tup h r,e,b=>by cases b;let{f,i,{o,g,c,n,d},_}:=I.tuple h;show .tup {o,BP g h,c,n,d} (JR I r e i)
theorem JR(I:Inv X b h H s):∀{v:List V}{d:List D}{u:List au},Reps X.K H O v d->aY d=true->o5 v u->HVs (R0 X.K H s.heap) u d
 |_,_,_,.nil,_,.nil=>.nil
 |_,_,_,.cons r t,e,.cons f g=>by have a:(mZ _&&aY _)=true:=e;rw[aAI]at a;show .cons (PP I r a.1 f) (JR I t a.2 g)
end
mutual
theorem WP(I:Inv X b y H s):∀{u:au}{d:D},HV (R0 X.K H s.heap) u d->∃v,RelV v u/\Rep X.K H O v d:=by
 intro _ _ z;cases z with
 |int i t=>show{.int i,{t,rfl},.int}
 |@tup a _ _ p r=>let{o,g,c,n,h}:=p;let{Y,q}:=ID g;let{j,k,l}:=B4.ab9 (KM I r);let{m,w,{A,e,_,B,f},_}:=I.tuple q;rw[aH _ _ _ _ _ g]at e;cases e;rw[h]at f;injection f with x _;subst x;have:j=Y:=k.inj (by exists w);subst this;show{.ref a,rfl,.tup q l}
theorem KM(I:Inv X a b H s):∀{u:List au}{d:List D},HVs (R0 X.K H s.heap) u d->B4 X.K H O u d
 |_,_,.nil=>.nil
 |_,_,.cons r t=>.cons (WP I r) (KM I t)
end
end
section
def a5b(X:Cx)(B:D->Bool)(U:List D->List D)(f:Ev->R D):TE:=λj H Q=>∃k l O g,EnvOk X.K k l H O j g/\match f g with
 |.ok (.lst b)=>(b.all B=true/\(U b).length<=63)/\∀S o h e a,Same H a->a S=none->a7j X.w o h->B4 X.K a O h e->e.Nodup->(∀d,d∈e↔d∈b)->Q (.ref S) (upd a S<|.frz o (.own S))
 |.ex x=>∀i,Same H i->XW X x i
 |_=>False
def YD{B:D->Bool}{U:List D->List D}(hB:∀{d},B d=true->mZ d=true/\C6 d<8/\∃Y,d=.tup Y)(hU:∀{ds:List D},(∀d∈ds,B d=true)->∀d,d∈U ds↔d∈ds)(ha:PB X e f)(hh:X.calm=true)(hu:X.A.units+300<cq)(hg:Gl X "set"<|>1)(hm:X.mg "set"=none<|>4)(hv:cu "set"=some (.type "set")<|>3)(he:a5 [e] X.env=(false,cy e X.env)::a5 [] X.env<|>1)(bo:(cv C (a5 [] X.env)).any (·.1)=false<|>1):
  PE X (.Call (.Name "set" p) [e] [] C) (a5b X B U f):=by
 show rM λJ s σ H Q I H9 O0 O ρ E q=>?_;show aAP (K9 I hg hm hv ?_ (by symm) (by symm));have hpa:PA X [e] _:=J5 ha aR he;show aBj (D3 (hpa C J s σ H (λvs g=>∃v ds,vs=[v]/\f ρ=.ok (.lst ds)/\Same H g/\y8 X.K g O v (.lst ds)) I {H9,O0,O,ρ,E,?_}) λus h z9=>?_) he bo
 .cases b:f ρ with
  |ex z=>rw[b]at q;show q
  |bad=>rw[b]at q;show q.elim
  |ok d=>
   rw[b]at q;cases d with
   |lst ds=>showλv g h r1=>{v,ds,rfl,rfl,h,r1}
   |_=>show q.elim
 let{vs,g,m,r1,v,ds,ev,ef,sm,rb}:=z9;subst ev;rw[ef]at q;let{{hp,ve},q}:=q;let{a,ws,rfl,hS,rr}:=rb.aa5;let{u,rfl,ru}:=vals1 r1;cases ru;let{k,rv,{oL,nL,gL,cL,dL,sL},zL}:=m.list hS;have pt:∀d∈ds,B d=true:=aBG.mp hp;have hlen:k.toArray.size=ds.length:=by rw[aAQ,<-rv.length,rr.length]
 have st:B4 X.K g O k ds:=B4.of rv rr;have L:∀(i:Nat) (v:au),k.toArray[i]?=some v->a4a (R0 X.K g h.heap) v (ds.getD i .non):=λi v n=>by
  rw[aCX]at n;let{d,x,w,qi,rp}:=G0 st n;have qf:ds.getD i .non=d:=by rw[aAp,x];rfl
  rw[qf];have hpt:=pt d (aAs x);let{ho,hd8,Y,rfl}:=hB hpt;have hv:=PP m rp ho qi;cases hv with
  |tup p r=>show{_,_,rfl,rfl,hd8,.tup p r}
 have vd:∀i<k.toArray.size,C6 (ds.getD i .non)<8/\∃Y,ds.getD i .non=.tup Y:=λi n=>by
  have N:i<ds.length:=by rw[<-hlen];show n
  have b:ds.getD i .non=ds[i]:=by rw[aAp,aAk N];rfl
  rw[b];show(hB<|pt _<|aBT N).2
 show BR (aH X.K g h.heap) (val:=λi=>ds.getD i .non) (U:=U ds) (m.ok.hd hh) {oL,gL,cL,nL,sL} L vd (λi n=>?_) (by lia) hu λh' tk bu jg qu kp=>?_
 .have N:i<ds.length:=by rw[<-hlen];show n
  rw[hU pt];have b:ds.getD i .non=ds[i]:=by rw[aAp,aAk N];rfl
  change ds.getD i .non∈ds;rw[b];show aBT N
 let{{o,y,ep,t,ho,hc,T,hsl,x,l,msk,pr,led,pl},nd}:=jg;have mem:∀d,d∈bu↔d∈ds:=λd=>by
  rw[qu];constructor
  .rintro⟨j,hj,b⟩;have ui:j<ds.length:=by rw[<-hlen];show hj
   have e2:ds.getD j .non=ds[j]:=by rw[aAp,aAk ui];rfl
   rw[<-b,e2];show aBT ui
  intro x;let{j,hj,b}:=aBh x;show{j,by rw[hlen];show hj,?_};change ds.getD j .non=d;rw[aAp,aAk hj,<-b];rfl
 have I2:=m.laid (a:=h.heap.objs.size) (o:=.frz o (.own h.heap.objs.size)) (h':=h') (t':=tk) kp (aAi _) {ho,o,ho};show{.ref h.heap.objs.size,_,I2,rfl,q h.heap.objs.size o (y.toList.map (·.2)) bu g sm (m.hok.fresh<|aAi _) {{hc,T,hsl},y,ep,t,x,?_,pl,led,l.tab.asc,rfl} ?_ nd mem}
 .have h1:=l.len;have h2:=l.room;erw[aGO,aAI,beq_iff_eq,decide_eq_true_eq];show{by simpa using h1,by change t.place.size+t.dummies.size<=t.mask;rw[l.tab.nod];simpa using h2}
 have:∀{y:List (Int×au)}{ds:List D},Paired (EV<|R0 X.K g h.heap) y ds->B4 X.K g O (y.map (·.2)) ds:=λ{y ds} p=>by
  induction p with
  |nil=>show .nil
  |cons r _ ih=>show .cons (WP m r.1) ih
 show this pr
def PM(h:cf) (v:au):List Int:=open Classical in if p:∃d,cT d=true/\HV h v d then flat p.choose else[]
def fV(b:cT d=true)(a:HV h v d):PM h v=flat d:=by unfold PM;have q:∃d,cT d=true/\HV h v d:={d,b,a};rw[dif_pos q,HV.inj q.choose_spec.2 a]
def bW(f:cT d=true)(e:HV h v d):∃b items,v=.ref b/\IsTup h b items/\IntsAre items.toList (flat d):=by
 rw[(iO f).2]at e;cases e with
 |tup p r=>
  show{_,_,rfl,p,?_};have:∀{a:List au}{l:List Int},HVs h a (l.map D.int)->IntsAre a l:=λ{a l} r=>by
   induction l generalizing a with
   |nil=>cases r;show .nil
   |cons i l g=>
    cases r with
    |cons r t=>cases r;show .cons _ _ (g t)
  show this r
def WZ{prog:bc}{w:bM}{A:bt}{E:A5}{s:aL}{x y:au}{d e:D}{f:Bool}{Q:CD}(g:cT d=true)(h:cT e=true)(i:HV s.heap x d)(j:HV s.heap y e)(q:Q (HT.lexLt (flat d) (flat e)) s):ba (bb prog w) A (keyLt' (TS.tupK f) x y) Q E s:=by let{b,k,rfl,l,m}:=bW g i;let{p,a,rfl,n,o}:=bW h j;show TS.lt_ints f l n m o q
def BZ{prog:bc}{w:bM}{A:bt}{E:A5}{s:aL}{vs:List au}{Q:SortKind->aL->Prop}(h:∀x∈vs,∃d,cT d=true/\HV s.heap x d)(v:2<=vs.length)(q:Q (TS.tupK true) s):ba (bb prog w) A (keyKind' vs.toArray) Q E s:=by
 obtain⟨g,j⟩:∃g:au->au,∀x∈vs,∃b a k t,x=.ref b/\IsTup s.heap b a/\a[0]?=some (g x)/\g x=.int k t:=by
  show{λx=>open Classical in if z:∃p,∃b a k t,x=.ref b/\IsTup s.heap b a/\a[0]?=some p/\p=aGp k t then z.choose else .none,λx m=>?_};let{d,y,C}:=h x m;let{b,a,rfl,H,f}:=bW y C;have B:=(iO y).1;have z:∃p,∃i a k t,aCV b=.ref i/\IsTup s.heap i a/\a[0]?=some p/\p=aGp k t:=by
   cases e:a.toList with
   |nil=>rw[e]at f;generalize flat d=l at f B;cases f;show k7 rfl B
   |cons p J=>
    rw[e]at f;generalize flat d=l at f;cases f with
    |cons k t L=>show{_,b,a,k,t,rfl,H,by rw[<-aAx,e];rfl,rfl}
  dsimp only;rw[dif_pos z];let{i,I,k,t,n,o,r,u}:=z.choose_spec;show{i,I,k,t,n,o,r,u}
 show TS.kind_tuples (T:= "int") g (λx m=>?_) (λz=>by rw[z]at v;simp at v) (by symm) q;let{b,a,k,t,n,o,r,u}:=j x m;show{b,a,n,o,r,by rw[u];show typeIs_int s k t}
def kS{K:lM}{H:Hp}{O:a9->Prop}{n b:List au}{ds:List D}{key:au->List Int}(st:B4 K H O n ds)(C:b.Perm n)(E:b.Pairwise λx y=>HT.lexLt (key y) (key x)=false)(I:∀u d,(∃v,RelV v u/\Rep K H O v d)->d∈ds->key u=flat d)(pt:∀d∈ds,cT d=true)(J:ds.Nodup):
  ∃a,B4 K H O b a/\a.Perm ds/\XQ a:=by
 let{a,j,k}:=dU C st;show{a,k,j,?_};have m:a.Nodup:=j.nodup_iff.mpr J;have o:∀d∈a,cT d=true:=λd f=>pt d (j.mem_iff.mp f);have p:∀u d,(∃v,RelV v u/\Rep K H O v d)->d∈a->key u=flat d:=λu d h f=>I u d h (j.mem_iff.mp f);clear C j st J pt I;induction k with
 |nil=>show .nil
 |@cons u d n ds r t s=>
  have w:=aAu.mp E;have A:=aAZ.mp m;show aAu.mpr {λe g=>?_,s w.2 A.2 (λd f=>o d (.tail _ f)) λu d h f=>p u d h (.tail _ f)};have:∃i∈n,∃v,RelV v i/\Rep K H O v e:=by
   clear s E w A m o p r;induction t with
   |nil=>cases g
   |cons r t s=>
    rcases aAe.mp g with rfl|g
    .show{_,.head _,r}
    let{i,B,q}:=s g;show{i,.tail _ B,q}
  let{i,B,q}:=this;have l:=w.1 i B;rw[p i e q (.tail _ g),p u d r (.head _)]at l;cases z:HT.lexLt (flat d) (flat e)with
  |true=>rfl
  |false=>have:=AQ (o _<|.head _) (o _<|.tail _ g) (TS.lex_total _ _ z l);subst this;show k7 g A.1
def bX{p T gr:Pos}{f:Ev->R D}(ha:PB X e f)(hh:X.calm=true)(hu:X.A.units+300<cq)(hg:Gl X "set"<|>1)(hm:X.mg "set"=none<|>4)(hg2:Gl X "sorted"<|>1)(jt:X.mg "sorted"=none<|>4)
  (hv:cu "set"=some (.type "set")<|>3) (hv2:cu "sorted"=some (.builtin "sorted")<|>3)
  (he:a5 [e] X.env=(false,cy e X.env)::a5 [] X.env<|>1) (bo:(cv gr (a5 [] X.env)).any (·.1)=false<|>1)
  (nv:a5 [.Call (.Name "set" T) [e] [] gr] X.env=(false,cy (.Call (.Name "set" T) [e] [] gr) X.env)::a5 [] X.env<|>1) (xp:(cv pos (a5 [] X.env)).any (·.1)=false<|>1):
  PF X (.Call (.Name "sorted" p) [.Call (.Name "set" T) [e] [] gr] [] pos) (λρ=>(f ρ).bind ssR):=by
 show rM λpins s σ H Q I H9 O0 O ρ E q=>?_;dsimp only at q;show aAP (K9 I hg2 jt hv2 ?_ (by symm) (by symm));show aBu (D3 ((J5 (YD (p:=T) (B:=cT) (U:=bJ) (λh=>{M6 h,JK h,_,(iO h).2}) L5 ha hh hu hg hm hv he bo) aR nv) pos pins s σ H (λvs H2=>∃S o Y i g L,vs=[.ref S]/\H2=upd L S (.frz o (.own S))/\f ρ=.ok (.lst g)/\(g.all cT=true/\(bJ g).length<=63)/\Same H L/\L S=none/\a7j X.w o Y/\B4 X.K L O Y i/\i.Nodup/\(∀d,d∈i↔d∈g)) I {H9,O0,O,ρ,E,?_})
  λus s1 z=>?_) nv xp
 .cases e1:f ρ with
  |ex z=>rw[e1]at q;show q
  |bad=>rw[e1]at q;show q.elim
  |ok d=>
   rw[e1,R.aa0]at q;cases d with
   |lst g=>
    erw[ssR]at q;by_cases hc:g.all cT=true/\(bJ g).length<=63
    .show{hc,λS o Y i L sm hS so st nd j=>{S,o,Y,i,g,L,rfl,rfl,rfl,hc,sm,hS,so,st,nd,j}}
    rw[kn hc]at q;show q.elim
   |_=>show q.elim
 let{vs,H2,I2,r1,S,o,Y,i,g,L,ev,eH,ef,{hp,ve},sm,hS1,so,st,nd,j}:=z;subst ev eH;let{u,rfl,ru}:=vals1 r1;cases ru;rw[ef,R.aa0]at q;erw[ssR]at q;rw[km {hp,ve}]at q;have pt:∀d∈g,cT d=true:=aBG.mp hp;have za:∀d∈i,cT d=true:=λd J=>pt d ((j d).mp J);have s12:Same L (upd L S<|.frz o (.own S)):=j3 hS1 _;have ko:=st.same s12;let{hc,ea,ep,t,J,hf,hpln,led,asc,ees}:=so;have goS:=(I2.hok S _ j1).1;have hsl:(bJ g).Perm i:=by
  letI:DecidableEq D:=λa b=>aCf _
  show(aCS (LV<|bE g) nd).mpr λd=>by rw[L5 pt,j]
 have fu:ea.size=i.length:=by have:=st.length;rw[<-ees]at this;exists this
 have h63':i.length<=63:=by rw[<-hsl.length_eq];show ve
 have wp:=SI.walkL_perm X.w S ea ep;have wpv:((SI.walkL X.w S ea ep).map (·.2)).Perm Y:=by rw[<-ees];show wp.map _
 have m:∀u∈(SI.walkL X.w S ea ep).map (·.2),∃d,d∈i/\cT d=true/\HV s1.heap u d:=λu hu=>by let{d,J,v,rv,rp}:=ko.get (wpv.mem_iff.mp hu);show{d,J,za d J,S8 I2 rp (M6<|za d J) rv}
 show TS.sorted_keys (f:=true) (key:=PM s1.heap) (C:=λs'=>∃h' N,s'={s1 with heap:=h',toks:=N}/\∀b o,s1.heap.get? b=some o->h'.get? b=some o)
  (λ{Q'} hq=>SI.collect_set (by simp[I2.ok.hd hh]) ({o,goS,hc.1,J}) hf hpln (λnb=>by rw[led];exists nb) asc (by rw[fu];show aAo h63' (by symm)) λh' N k=>hq _ {h',N,rfl,k})
  (λs' ⟨h',N,r,k⟩ s6 k6 x hx y hy prog w A E hA {Q} qq=>?_) (λh2 s' ⟨h',N,r,k⟩ s6 k6 A {Q} qq=>?_) (by rw[aAg,wp.length_eq,aBp,fu];lia) λs' gm h' l ⟨h1,N,r,k⟩ pm srt k2 hl ⟨n,gl⟩=>?_
 .subst r;let{d,_,pd,vc}:=m x hx;let{d',_,pd',xr}:=m y hy;rw[fV pd vc,fV pd' xr]at qq;show WZ pd pd' (vc.keeps λb o e _=>k6 b o (k b o e)) (xr.keeps λb o e _=>k6 b o (k b o e)) qq
 .subst r;show BZ (λx hx=>?_) h2 qq;let{d,_,pd,vc}:=m x hx;show{d,pd,vc.keeps λb o e _=>k6 b o (k b o e)}
 subst r;let{qt,st3,T,xu}:=kS (key:=PM s1.heap) ko (pm.trans wpv) srt (by rintro u d ⟨v,rv,rp⟩ J;show fV (za d J) (S8 I2 rp (M6<|za d J) rv)) za nd;have e2:qt=bJ g:=jK xu (bE g) λd=>by rw[T.mem_iff,j,L5 pt]
 subst e2;let{wv,qi,rr}:=st3.ab9;have I2':=I2.kept (h':=h1) (t':=N) k;have I3:=I2'.laid (a:=l) (o:=.lst wv) (h':=h') (t':=N) k2 hl {by rw[rr.length];show aAo ve (by symm),gm,n,qi,gl};show{.ref l,_,I3,rfl,q wv _ l (sm.trans s12) (I2'.hok.fresh hl) rr}
end
end
section
variable [Tabs]
section
def a5f:D->R (List D)
 |.lst Y=>.ok Y.reverse
 |_=>.bad
def HQ(ha:PB X e f)(hh:X.calm=true)(hg:Gl X "reversed"<|>1)(hm:X.mg "reversed"=none<|>4)(B:Gl X "list"<|>1)(jt:X.mg "list"=none<|>4)(hv:cu "reversed"=some (.type "reversed")<|>3)(C:cu "list"=some (.type "list")<|>3)(U:a5 [e] X.env=(false,cy e X.env)::a5 [] X.env<|>1)(bo:(cv j (a5 [] X.env)).any (·.1)=false<|>1)(Y:a5 [.Call (.Name "reversed" J) [e] [] j] X.env=(false,cy (.Call (.Name "reversed" J) [e] [] j) X.env)::a5 [] X.env<|>1)(xp:(cv h (a5 [] X.env)).any (·.1)=false<|>1)(L:cv h (a5 [] X.env)=[]<|>1):
  PF X (.Call (.Name "list" p) [.Call (.Name "reversed" J) [e] [] j] [] h) (λρ=>(f ρ).bind a5f):=by
 show rM λk s σ H Q I H9 O0 O ρ E q=>?_;dsimp only at q;show aAP (K9 I B jt C (aBj ?_ Y xp) (by symm) (by symm));rw[Y];change ba _ _ (spliced ((false,cy (.Call (.Name "reversed" J) [e] [] j) X.env)::cv h (a5 [] X.env))) _ _ s;show aFC (aAP (K9 I hg hm hv ?_ (by symm) (by symm)));show aBj (D3 ((J5 ha aR U) j k s σ H (λi l=>∃v m,i=[v]/\f ρ=.ok (.lst m)/\Same H l/\y8 X.K l O v (.lst m)) I {H9,O0,O,ρ,E,?_}) λy n z9=>?_) U bo
 .cases e1:f ρ with
  |ex z=>rw[e1]at q;show q
  |bad=>nofun
  |ok d=>
   rw[e1,R.aa0]at q;cases d with
   |lst m=>showλv l n N=>{v,m,rfl,rfl,n,N}
   |_=>show(q).elim
 let{i,l,A,N,v,m,ev,ef,sm,rb}:=z9;subst ev;rw[ef,R.aa0]at q;let{a,T,rfl,hS,rr}:=rb.aa5;let{u,rfl,ru}:=vals1 N;cases ru;let{g,rv,{oL,nL,gL,cL,dL,sL},zL}:=A.list hS;have hl:n.heap.IsList a g.toArray:={oL,gL,cL,nL,sL};show call_reversed_list hl ?_;rw[L];show aFV ?_;show SZ.TU (A.ok.hd hh) (aAl<|aAd gL) (aAQ▸rv.length▸zL) {_,aAh _ rfl,rfl,rfl} (hl.push _) λh' tk c kp gl=>?_;have kk:=λb u e=>kp b u (aAl<|aAd e) (aAb _ e);have w:n.heap.objs.size<=(n.heap.push<|revObj a<|(g.toArray.size:Int)-1).objs.size:=by rw[aBb];simp
 have x:o5 T.reverse g.reverse:=by
  have:∀{i:List V}{y:List au},o5 i y->o5 i.reverse y.reverse:=λ{i y} r=>by
   induction r with
   |nil=>show .nil
   |cons r t ih=>rw[aAV,aAV];show ih.append (.cons r .nil)
  show this rv
 show{.ref _,_,(A.laid (o:=.lst T.reverse) (h':=h') (t':=tk) kk w {by rw[aCm];show zL,g.reverse,c,x,by rw[gl];simp}),rfl,q T.reverse l _ sm (A.hok.fresh w) rr.reverse}
def _root_.L2.Inv.ae3(I:Inv X d f H s)(k:∀b u,s.heap.get? b=some u->h'.get? b=some u)(a:Same H Hn)(g:∀b u,H b=none->Hn b=some u->s.heap.get? b=none/\ObjOk X.prog X.w Hn h' b u):
  Inv X d f Hn {s with heap:=h',toks:=t'}:=by
 show I.un {λb o e _ _ _=>k b o e,λb o e _ _ _=>{o.slots,k b o e},λb o e n _=>?_,λb o e _=>{o,k b o e},λb Y e=>a _ _ e,λb o u e=>a _ _ e,λb i e=>a _ _ e} λb u e=>?_
 .cases q:Hn b with
  |none=>rfl
  |some u=>nofun
 cases q:H b with
 |none=>show(g b u q e).2
 |some h=>have:=a b h q;rw[e]at this;cases this;show(I.hok b u q).ab8 (λc v _ z=>k c v z) (λc z=>a _ _ z) λc u _ z=>a _ _ z
def cA(Y d:List D):List D:=List.zipWith (λa b=>D.tup [a,b]) Y d
def ZG:List D->R (List D)
 |[.lst Y,.lst a]=>if Y.length=a.length then .ok (cA Y a)else .bad
 |_=>.bad
def NO{K:lM}{h:Hp}{O:a9->Prop}{h0 h':cf}{l:a9}(hf:∀b,h0.get? b=none->h b=none):∀{Y f:List D}{k m B:List au},B4 K h O k Y->B4 K h O m f->Y.length=f.length->
  (∀(j:Nat) (v:au),B[j]?=some v->∃T x y,v=.ref T/\k[j]?=some x/\m[j]?=some y/\dA h' T x y/\T≠l/\h0.get? T=none)->B.length=Y.length->
  ∃(vs:List V) (Hn:Hp),o5 vs B/\Same h Hn/\(∀b u,h b=none->Hn b=some u->h0.get? b=none/\b≠l/\∃ws its,u=.tup ws/\ws.length<=2/\o5 ws its/\IsTup h' b its.toArray)/\Reps K Hn O vs (cA Y f):=by
 intro Y f k m B;induction B generalizing Y f k m with
 |nil=>
  intro r s t _ z;cases Y with
  |nil=>cases f with
   |nil=>show{[],h,.nil,Same.refl _,λb u n q=>(by rw[n]at q;cases q),.nil}
   |cons _ _=>cases t
  |cons _ _=>cases z
 |cons v B ih=>
  intro r s t hP z;cases r with
  |nil=>cases z
  |@cons u d k Y rx r=>
   cases s with
   |nil=>cases t
   |@cons I d' m f ry s=>
    let{T,x,y,rfl,ex,ey,hp,nl,p}:=hP 0 v rfl;cases ex;cases ey;let{vs,Hn,r1,i,J,rr}:=ih r s (by exists t) (λj v hj=>by let{T,x,y,e1,L,e3,e4}:=hP (j+1) v (by exists hj);show{T,x,y,e1,by simpa using L,by simpa using e3,e4}) (by exists z)
    let{A,N,a}:=rx;let{C,Q,e}:=ry;have v2:o5 [A,C] [u,I]:=.cons N (.cons Q .nil);cases q:Hn T with
    |none=>
     have E:Same Hn (upd Hn T<|.tup [A,C]):=j3 q _;show{.ref T::vs,upd Hn T (.tup [A,C]),.cons rfl r1,i.trans E,λb w n H=>?_,.cons (.tup (S5.of j1) (.cons ((a.same i).same E) (.cons ((e.same i).same E) .nil))) (rr.same E)};by_cases hb:b=T
     .subst hb;rw[j1]at H;cases H;show{p,nl,_,_,rfl,by simp,v2,{_,hp,rfl,0,rfl}}
     rw[l6 hb]at H;show J b w n H
    |some w=>
     let{_,_,ws,its,rfl,_,vw,{o,g,_,n,dd}}:=J T w (hf T p) q;have U:h'.get? T=some {cls:=.type "tuple",data:=.seq #[u,I]}:=hp;rw[U]at g;cases g;have L:its=[u,I]:=by grind
     subst L;have:ws=[A,C]:=vw.inj v2;subst this;show{.ref T::vs,Hn,.cons rfl r1,i,J,.cons (.tup (S5.of q) (.cons (a.same i) (.cons (e.same i) .nil))) rr}
def IA{e1 e2:ck}{p p2 t:Pos}{f1 f2:Ev->R D}(zr:PB X e1 f1)(ha2:PB X e2 f2)(hh:X.calm=true)(hg:Gl X "zip"<|>1)(hm:X.mg "zip"=none<|>4)(hg2:Gl X "list"<|>1)(jt:X.mg "list"=none<|>4)
  (hv:cu "zip"=some (.type "zip")<|>3) (hv2:cu "list"=some (.type "list")<|>3)
  (he1:a5 [e2] X.env=(false,cy e2 X.env)::a5 [] X.env<|>1) (he:a5 [e1,e2] X.env=(false,cy e1 X.env)::a5 [e2] X.env<|>1) (bo:(cv t (a5 [e2] X.env)).any (·.1)=false<|>1)
  (nv:a5 [.Call (.Name "zip" p2) [e1,e2] [] t] X.env=(false,cy (.Call (.Name "zip" p2) [e1,e2] [] t) X.env)::a5 [] X.env<|>1) (xp:(cv i (a5 [] X.env)).any (·.1)=false<|>1) (hnl:cv i (a5 [] X.env)=[]<|>1):
  PF X (.Call (.Name "list" p) [.Call (.Name "zip" p2) [e1,e2] [] t] [] i) (λρ=>(o8 f1 (o8 f2 P9) ρ).bind ZG):=by
 show rM λA s σ H Q I H9 O0 O ρ E q=>?_;dsimp only at q;show aAP (K9 I hg2 jt hv2 (aBj ?_ nv xp) (by symm) (by symm));rw[nv];change ba _ _ (spliced ((false,cy (.Call (.Name "zip" p2) [e1,e2] [] t) X.env)::cv i (a5 [] X.env))) _ _ s;show aFC (aAP (K9 I hg hm hv (aBj (D3 ((t5 zr (t5 ha2 w9 he1) he) t A s σ H (λk w=>∃v1 v2 Y m,k=[v1,v2]/\o8 f1 (o8 f2 P9) ρ=.ok [.lst Y,.lst m]/\Y.length=m.length/\Same H w/\y8 X.K w O v1 (.lst Y)/\y8 X.K w O v2 (.lst m)) I {H9,O0,O,ρ,E,?_}) λus g z9=>?_) he bo) (by symm) (by symm)))
 .cases e1:o8 f1 (o8 f2 P9) ρ with
  |ex z=>rw[e1]at q;show q
  |bad=>rw[e1]at q;show q.elim
  |ok ds=>
   rw[e1,R.aa0]at q;match ds,q with
   |[.lst Y,.lst m],q=>
    erw[ZG]at q;by_cases hc:Y.length=m.length
    .intro k w g r;cases r with
     |cons ra r=>cases r with
      |cons rb r=>cases r with
       |nil=>grind
    nofun
 let{k,w,C,r,v1,v2,Y,m,ev,ef,J,sm,rb1,rb2}:=z9;subst ev;rw[ef,R.aa0]at q;erw[ZG]at q;rw[km J]at q;let{a,wx,rfl,hSx,rx}:=rb1.aa5;let{b,wy,rfl,hSy,ry}:=rb2.aa5;let{u1,u2,rfl,ru1,ru2}:=vals2 r;cases ru1;cases ru2;let{L,d,{oX,nX,gX,cX,dX,sX},zX}:=C.list hSx;let{N,U,{oY,nY,gY,cY,dY,sY},zY}:=C.list hSy;have hlx:g.heap.IsList a L.toArray:={oX,gX,cX,nX,sX};have hly:g.heap.IsList b N.toArray:={oY,gY,cY,nY,sY};show call_zip_2 hlx hly λh z1 z2 z3 z4 z5 zsz k1=>?_;rw[hnl];show aFV ?_;have lx:L.length=Y.length:=by rw[<-d.length,rx.length]
 have ly:N.length=m.length:=by rw[<-U.length,ry.length]
 have I2:=C.kept (h':=h) (t':=g.toks) k1;have D:=zipApart_new (n:=g.heap.objs.size) (aAd gX) (aAd gY);show SZ.RW (s:={g with heap:=h}) (C.ok.hd hh) D (by grind) (by rw[aAQ,<-d.length];show zX) {{_,_,z1,.inl rfl},z2,{_,_,z3},z4,z5,hlx.at λo e=>k1 _ o e,hly.at λo e=>k1 _ o e} λh' B c kp gl hP=>?_;have k12:=λb u e=>kp b u (by have f:=aAd e;simp;show{aAl (aAn f<|aEW _ _),aAl (aAn f<|aEW _ _),aAl f,aAl (aAn f<|aEW _ _)}) (k1 b u e)
 let{k,Hn,rva,smn,kg,rr}:=NO (h0:=h) (h':=h') (l:=h.objs.size) (λb f=>by
  cases q:w b with
  |none=>rfl
  |some u=>show k7 f ((I2.hok b u q).live)) (B:=B.toList) (B4.of d rx) (B4.of U ry) J (λj v hj=>by
  let{T,x,y,e1,e2,e3,e4,e5,e6}:=hP.2 j v (by rw[<-aAx];show hj);show{T,x,y,e1,by simpa using e2,by simpa using e3,e4,λz=>e5 (by simp[z]),e6}) (by rw[aBp,hP.1,aAQ,lx])
 have hls:Hn h.objs.size=none:=by
  cases q:Hn h.objs.size with
  |none=>rfl
  |some u=>have:=(kg _ u (I2.hok.fresh<|aAi _) q).2.1;show k7 rfl this
 have hlen:k.length<=sizeLine:=by rw[rva.length,aBp,hP.1,aAQ,<-d.length];show zX
 have I3:=C.ae3 (Hn:=upd Hn h.objs.size (.lst k)) (h':=h') (t':=g.toks) k12 (smn.trans<|j3 hls _) (λb u n qb=>by
  by_cases f:b=h.objs.size
  .subst f;rw[j1]at qb;cases qb;show{aEZ (by rw[zsz];lia),hlen,B.toList,c,rva,by rw[gl]}
  rw[l6 f]at qb;let{h0b,_,ws,its,rfl,l2,vw,tt}:=kg b u n qb;show{?_,aAo l2 (by symm),its,vw,tt};cases z:g.heap.get? b with
  |none=>rfl
  |some o=>rw[k1 b o z]at h0b;cases h0b)
 show{.ref _,_,I3,rfl,q k Hn _ (sm.trans smn) hls rr}
end
mutual
def nB:D->Nat
 |.tup Y=>K3 Y+1
 |_=>1
def K3:List D->Nat
 |[]=>0
 |x::Y=>nB x+K3 Y
end
theorem eN:∀Y a:List D,K3 (Y++a)=K3 Y+K3 a:=by
 intro b a;cases b with
 |nil=>simp[K3]
 |cons x Y=>rw[aBF,K3,K3,eN Y a];lia
section
variable{prog:bc}{w:bM}
def PHe(prog:bc)(w:bM)(h:cf)(v:au)(d:D):Prop:=∀(A:bt) (E:A5) (s:aL) (Q:Int->aL->Prop),s.heap=h->A.units+8*C6 d<cq->Q (o7 d) {s with toks:=s.toks+nB d}->ba (bb prog w) A (pyHash v) Q E s
mutual
theorem SY:∀{v:au}{d:D},HV h v d->PHe prog w h v d
 |_,_,.int i t=>λA E s Q C H q=>(intKind prog w).pyHash (k:=i) (intKind_is _ _ _ _) q
 |_,_,.tup (a:=a) (items:=items) (ds:=ds) p r=>λA E s Q C H q=>by
  have fs:=IV r;subst C;let{o,I,N,n,O}:=p;have l:s.TypeIs (.ref a) "tuple":={o,I,N};have y:A.units<cq:=by lia
  rw[C6]at H;unfold pyHash;first|unfold pyHashByItsType|skip
  first|show aAa (wpAny_cRoomFor_or (.inr y) ?_)|skip
  show aAa (aBw l PySem.F.slot_tuple_hash.lookup ?_);change ba _ _ (if(some (Value.builtin "tuple.__hash__")==some Value.none)=true then _ else _) Q E s;rw[kn (by rw[beq_builtin_none];show aBt)];show aAa (aBw l PySem.F.slot_tuple_hash.lookup ?_);change ba _ _ (callSpecialIfBoundUnlessNone? (.ref a) "__hash__" _>>=_) Q E s;show aAa (aDH l PySem.F.slot_tuple_hash<|aAG PySem.F.slot_tuple_hash l PySem.F.entry_tuple_hash ?_ (PySem.F.args_tuple_hash_1 _));change ba _ _ (aDP (.ref a)>>=_) _ _ s;show aAa (wpAny_tupleItemsOf I O ?_);show aAa ?_;rw[<-aCt];show aCy _
   (λrest (b:Array Int) z=>∃done left,ds=done++left/\Paired (PHe prog w s.heap) rest left/\b.toList=done.map o7/\z={s with toks:=s.toks+K3 done})
   _ ?_ ?_ _ _ {[],ds,rfl,fs,rfl,rfl}
  .rintro x rest b z ⟨done,left,f,B,m,rfl⟩;cases B with
   |@cons _ d _ e T J=>
    show aAa (T _ _ _ _ rfl ?_ ?_)
    .have:C6 d<=x4 ds:=by rw[f];show pS (j:=done.length) (by simp)
     rw[t0];lia
    have L:s.toks+K3 done+nB d=s.toks+K3 (done++[d]):=by rw[eN];simp[K3];lia
    first
     |show aAc ⟨done++[d],e,by simp[f],J,by simp[m],by rw[<-L]⟩
     |show aAa (aAc (aAc ⟨done++[d],e,by simp[f],J,by simp[m],by rw[<-L]⟩))
  rintro b z ⟨done,left,f,B,m,rfl⟩;cases B;rw[aCd]at f;subst f;change ba _ _ (retInt<|aAN b.toList) _ _ _;rw[m];show wpAny_ret_mkInt ?_;change ba _ _ (if(decide (-(2:Int)^63<=aAN (ds.map o7))&&decide (aAN (ds.map o7)<2^63))=true then _ else _) Q E _;have g:=q;rw[o7,iQ,nB]at g;unfold reduceHash at g;by_cases u:(decide (-(2:Int)^63<=aAN (ds.map o7))&&decide (aAN (ds.map o7)<2^63))=true
  .rw[km u];rw[km u]at g;show aAc g
  rw[kn u];rw[kn u]at g;show aAa (aCG<|aAc g)
theorem IV:∀{v:List au}{d:List D},HVs h v d->Paired (PHe prog w h) v d
 |_,_,.nil=>.nil
 |_,_,.cons r t=>.cons (SY r) (IV t)
end
end
theorem gG:∀{n:Nat}{d:D},J6 n d=true->mZ d=true/\C6 d<=n
 |n,.int i,_=>{rfl,by simp[C6]}
 |0,.tup Y,h=>by simp[J6]at h
 |n+1,.tup Y,h=>by
  have g:Y.all (J6 n)=true:=by simpa[J6]using h
  have e:∀a:List D,a.all (J6 n)=true->aY a=true/\x4 a<=n:=λa=>by
   induction a with
   |nil=>intro _;show{rfl,aAS _}
   |cons y a j=>intro f;erw[aGN,aAI]at f;let{k,o}:=gG f.1;let{l,p}:=j f.2;show{by change(mZ y&&aY a)=true;rw[k,l];rfl,by change max (C6 y) (x4 a)<=n;lia}
  let{m,q}:=e Y g;show{m,by change x4 Y+1<=n+1;lia}
 |n,.non,h=>by cases n<;>simp[J6]at h
 |n,.dct _,h=>by cases n<;>simp[J6]at h
 |n,.bl b,h=>by cases n<;>simp[J6]at h
 |n,.str x,h=>by cases n<;>simp[J6]at h
 |n,.lst Y,h=>by cases n<;>simp[J6]at h
mutual
theorem HV.ab3(k:∀b o,h.get? b=some o->(∃its n,o.data=.seq its n)->h'.get? b=some o):∀{v:au}{d:D},HV h v d->HV h' v d
 |_,_,.int i t=>.int i t
 |_,_,.tup p r=>.tup (by let{o,e,c,n,d}:=p;show{o,k _ _ e {_,n,d},c,n,d}) (HVs.ab3 k r)
theorem HVs.ab3(k:∀b o,h.get? b=some o->(∃its n,o.data=.seq its n)->h'.get? b=some o):∀{v:List au}{d:List D},HVs h v d->HVs h' v d
 |_,_,.nil=>.nil
 |_,_,.cons r t=>.cons (HV.ab3 k r) (HVs.ab3 k t)
end
instance decD:DecidableEq D:=λa b=>aCf _
def Z4(prog:bc) (w:bM):HeapKind prog w D where
 is:=λh d a=>HV h (.ref a) d/\C6 d<8
 hash:=o7
 draws:=nB
 room:=λA=>A.units+128<cq
 inj:=λx y=>HV.inj x.1 y.1
 keeps:=λ{h u k a d o v B} x j l m=>{x.1.ab3<|by rintro b C e ⟨p,n,q⟩;show(m.2 b (λz=>by subst z;rw[j]at e;cases e;rw[l]at q;cases q)).trans e,x.2}
 pyHash:=λ{A E s k a Q} r f q=>SY f.1 A E s Q rfl (by have:=f.2;lia) q
 eqBool:=λ{A E s x y a b Q} r g i q=>by
  have t:=JO (A:=A) g.1 i.1 (by have:=g.2;lia);show t prog w E Q ?_;have e:u7 x y=decide (x=y):=by
   by_cases h:x=y
   .subst h;rw[N1,lg rfl]
   rw[lb h];cases z:u7 x y with
   |false=>rfl
   |true=>show k7 (cS g.1.ok i.1.ok z) h
  rw[e];show q
 quiet:=λ{A E s k a Q} f q=>kC 8 f.1 f.2 _ A E s Q rfl q
open Classical in
def gO(N:List (D×D)) (k v:D):List (D×D):=if k∈N.map (·.1)then N.map (λp=>if p.1=k then(p.1,v)else p)else N++[(k,v)]
def LK(N:List (D×D))(k v:D)(h:(N.map (·.1)).Nodup):((gO N k v).map (·.1)).Nodup:=by
 unfold gO;split
 .rw[aAK];have:((λx=>x.1)∘λp:D×D=>if p.1=k then(p.1,v)else p)=λp=>p.1:=by funext p;erw[aGP];split<;>rfl
  rw[this];show h
 rename_i n;rw[aBk,aCE];show{h,by simp,λa f b d=>?_};simp at d;subst d;showλe=>n (e▸f)
section
def ZW(I:Inv X d t H s):∀{es:List dq}{N:List (D×D)},cK X.K H O es N->∃Y:List (D×a9×au),es=Y.map (entryOfKey (Z4 X.prog X.w))/\Y.map (·.1)=N.map (·.1)/\(∀x∈Y,(Z4 X.prog X.w).is s.heap x.1 x.2.1)/\
  Paired (λ(x:D×a9×au) (p:D×D)=>x.1=p.1/\Rep X.K H O (.ref x.2.1) p.1/\(∃v,RelV v x.2.2/\Rep X.K H O v p.2)/\J6 7 p.1=true) Y N:=by
 intro _ _ h;induction h with
 |nil=>show{[],rfl,rfl,λx h=>(by cases h),.nil}
 |@cons e p _ _ h _ g=>
  let{{a,i,f},j,l,k}:=h;let{Y,m,n,o,q}:=g;let{ok,u}:=gG k;show{(p.1,a,e.val)::Y,?_,by rw[aAm,aAm,n],λx b=>?_,.cons {rfl,f,j,k} q}
  .rw[aAm,<-m];let{r,y,z}:=e;subst i l;rfl
  rcases aAe.mp b with rfl|b
  .show{S8 I f ok rfl,by change C6 p.1<8;lia}
  show o x b
def II{P:bc}{w:bM}{K:lM}{H:Hp}{O:a9->Prop}:∀{Y:List (D×a9×au)}{N:List (D×D)},Paired (λ(x:D×a9×au) (p:D×D)=>x.1=p.1/\Rep K H O (.ref x.2.1) p.1/\(∃v,RelV v x.2.2/\Rep K H O v p.2)/\J6 7 p.1=true) Y N->cK K H O (Y.map (entryOfKey (Z4 P w))) N:=by
 intro _ _ h;induction h with
 |nil=>show .nil
 |cons h _ a=>let{e,b,d,k}:=h;show .cons {{_,rfl,b},d,by rw[<-e];rfl,k} a
def V9{Y:List (D×a9×au)}{k:D}:(kc Y k).isSome=true↔k∈Y.map (·.1):=by unfold kc;grind
def yR(I:Inv X b t H s)(h:H a=some (.ext λh=>h.get? a=some o))(d:tE a o es)(r:cK X.K H O es N)(f:(N.map (·.1)).Nodup):
  ∃Y,s.heap.DictOfH (Z4 X.prog X.w) a Y/\Y.map (·.1)=N.map (·.1)/\Paired (λ(x:D×a9×au) (p:D×D)=>x.1=p.1/\Rep X.K H O (.ref x.2.1) p.1/\(∃v,RelV v x.2.2/\Rep X.K H O v p.2)/\J6 7 p.1=true) Y N:=by
 let{Y,g,e,i,j}:=ZW I r;let{_,k,l,m,n,q}:=d;show{Y,{o,l,m,((I.hok a _ h).1),k,n,by rw[q,g],i,by rw[e];show f},e,j}
def LZ{K:lM}{Y:List (D×a9×au)}{N:List (D×D)}{k d:D}{b:a9}{u:au}{v:V}(f:Paired (λ(x:D×a9×au) (p:D×D)=>x.1=p.1/\Rep K H O (.ref x.2.1) p.1/\(∃v,RelV v x.2.2/\Rep K H O v p.2)/\J6 7 p.1=true) Y N)(hk:Y.map (·.1)=N.map (·.1))
  (j:Rep K H O (.ref b) k) (kk:J6 7 k=true) (g:RelV v u) (i:Rep K H O v d):
  Paired (λ(x:D×a9×au) (p:D×D)=>x.1=p.1/\Rep K H O (.ref x.2.1) p.1/\(∃v,RelV v x.2.2/\Rep K H O v p.2)/\J6 7 p.1=true) (storedH Y k b u) (gO N k d):=by
 unfold storedH gO;by_cases h:k∈N.map (·.1)
 .rw[km h,km (V9.mpr<|hk▸h)];clear hk h;induction f with
  |nil=>show .nil
  |@cons x p Y N r t a=>
   rw[aAm,aAm];show .cons ?_ a;unfold putAt;by_cases e:p.1=k
   .rw[km (r.1.trans e),km e];show{r.1,r.2.1,{v,g,i},r.2.2.2}
   rw[kn (λz=>e (r.1.symm.trans z)),kn e];show r
 rw[kn h,kn (λz=>h (hk▸V9.mp z))];clear hk h;induction f with
 |nil=>show .cons {rfl,j,{v,g,i},kk} .nil
 |cons r t a=>show .cons r a
end
section
variable{K:Type} [DecidableEq K] {knd:HeapKind prog w K}
def uX{Q:CD}(g:knd.room A.in1)(b:knd.is s.heap k a)(i:(d==ff)=false)(e:s.heap.DictOfH knd d Y)
  (h:Q (kc Y k).isSome {s with toks:=s.toks+knd.draws k}):ba (bb prog w) A (contains (.ref d) (.ref a)) Q E s:=by
 unfold contains;try with_reducible show aAJ ?_
 show aAa (aBw e.typeIs aFG.lookup ?_);show aAa (wpAny_callSpecialUnlessNone?_slot e.typeIs aFG
  (aAG aFG e.typeIs entry_dict_contains ?_ (args_dict_contains _ _)))
 change ba _ _ (dictGet d (.ref a)>>=_) _ _ s;show aAa (wpAny_dictGet_heap g b e ?_);cases f:kc Y k with
 |some p=>rw[f]at h;show aAc {_,rfl,aBA h}
 |none=>rw[f]at h;show aAa (wpAny_pendingKey_other i<|aAc ⟨_,rfl,aBA h⟩)
end
def rP:D->Bool
 |.tup _=>true
 |_=>false
open Classical in
def rA(i:Nat) (ρ:Ev) (k:D):R Bool:=match ρ[i]? with
 |some (.d N)=>if J6 7 k=true/\rP k=true then .ok (!decide (k∈N.map (·.1)))else .bad
 |_=>.bad
section
def cD{K:lM}{H:Hp}{O:a9->Prop}{v:V}{k:D}(r:Rep K H O v k)(h:rP k=true):∃a,v=.ref a:=by
 cases r with
 |tup h r=>show{_,rfl}
 |_=>cases h
def LJ(i:Nat){x:Str}{p:Pos}{f:Ev->R D}(ha:PD X e f)(hu:X.A.units+130<cq)(hN:X.N[i]?=some x<|>1)(hv:zS X.env.scope x<|>5)
  (hd:(x==ma)=false<|>2) (eh:(x==md)=false<|>2) (hm:i3 .NotIn (.Name x p)=false:=by first|rfl|with_unfolding_all rfl):
  DM X (.Compare e [.NotIn] [.Name x p] pos) (λρ=>(f ρ).bind (rA i ρ)):=by
 show rM λU s σ H Q I H9 O0 O ρ E q=>?_;dsimp only at q;show wpAny_isTrue_Compare1 (UO (tb:=a5x i) ha (M9 hN hv hd eh) (R:=λy x g=>∃a b o l N k,x=.ref a/\y=.ref b/\g a=some (.ext λh=>h.get? a=some o)/\tE a o l/\cK X.K g O l N/\(N.map (·.1)).Nodup/\Rep X.K g O (.ref b) k/\J6 7 k=true/\Q (!(open Classical in decide (k∈N.map (·.1)))) g) I {H9,O0,O,ρ,E,?_} λu w s2 y x g t ry rx h=>?_) hm
 .cases B:f ρ with
  |ex z=>rw[B]at q;show q
  |bad=>rw[B]at q;show q.elim
  |ok k=>
   rw[B,R.aa0]at q;intro v H1 sm r;unfold rA at q;cases C:ρ[i]? with
   |none=>rw[C]at q;show(q).elim
   |some sl=>
    rw[C]at q;cases sl with
    |d N=>
     dsimp only at q;by_cases j:J6 7 k=true/\rP k=true
     .rw[km j]at q;let{a,o,l,h1,_,_,J,m,L,T}:=(E.grow sm).slot i _ C;let{b,rfl}:=cD r j.2;show{_,h1,a,b,o,l,N,k,rfl,rfl,J,m,L,T,r,j.1,q H1 sm}
     rw[kn j]at q;show(q).elim
    |_=>show(q).elim
 let{a,b,o,l,N,k,rfl,rfl,J,m,L,T,rk,j,qq}:=h;cases ry;cases rx;let{Y,hD,qa,hp}:=yR t J m L T;let{ok,dp}:=gG j;show aAa (uX (knd:=Z4 X.prog X.w) (by change X.A.in1.units+128<cq;rw[t0];lia) {S8 t rk ok rfl,by lia} m.1 hD (aAc<|aBA ⟨g,t.tok _,?_⟩));have e3:(kc Y k).isSome=(open Classical in decide (k∈N.map (·.1))):=by
  by_cases n:k∈N.map (·.1)
  .rw[lg n];show V9.mpr (qa▸n)
  rw[lb n];cases z:(kc Y k).isSome with
  |false=>rfl
  |true=>show k7 (qa▸V9.mp z) n
 rw[e3];show qq
def TF(i:Nat)(w:X.N.Nodup)(y:X.N[i]?=some x<|>1)(A:Loc X.env.scope x<|>8)(B:eI (.Dict [] [] a) (some (.Name x f)) g.line X.env=pure false<|>1)(C:X.fn x=true\/X.env.scope.names.lookup x=some .local<|>7):nW X (.Assign [.Name x f] (.Dict [] [] a) g) (λρ=>.ok (.nx (ρ.set i (.d [])))):=by
 rintro Q T r s U H D I ⟨O,ρ,E,Y,q⟩;show aEC (wpAny_Dict_empty ?_) B;have t:(s.heap.push {cls:=.type "dict",data:=.dict #[]}).get? s.heap.objs.size=some {cls:=.type "dict",data:=.dict #[]}:=aAh _ rfl;have j:=I.hok.fresh (aAi s.heap.objs.size);have l:=I.laid (o:=.ext λh=>h.get? s.heap.objs.size=some {cls:=.type "dict",data:=.dict #[]}) (h':=s.heap.push {cls:=.type "dict",data:=.dict #[]}) (t':=s.toks) (λ_ _ q=>aAb _ q) (aAi _)
  {t,{_,t},λh1 h2 e k=>k _ e}
 have m:ff<s.heap.objs.size:=aEK (by symm) (I.mod.glob.keeps I.bk).lt;show J9 l w y A (show RelV (.ref s.heap.objs.size) _ from rfl) (λs3 J=>{_,_,J,?_}) C;have v:=E.ae1 (u:=.ext λh=>h.get? s.heap.objs.size=some {cls:=.type "dict",data:=.dict #[]}) (sl:=.d []) i j (KN l<|j1) trivial λL=>{s.heap.objs.size,_,[],rfl,.inr rfl,L,j1,{by simp[aBY m],{rfl,rfl,rfl},#[],0,rfl,rfl},.nil,aCY};show q _ _ _ v (nG l _ v.trk) λb o p n=>{by rw[l6 (p7 p j)];show p,λz=>z.elim n (p7 p j)}
def a9l(X:Cx):rq:=λx y v H Q=>∃O a b o f N k d,x=.ref a/\y=.ref b/\H a=some (.ext λh=>h.get? a=some o)/\tE a o f/\cK X.K H O f N/\(N.map (·.1)).Nodup/\f.length<=sizeLine/\Rep X.K H O (.ref b) k/\J6 7 k=true/\Rep X.K H O v d/\
 ∀g e,tE a g e->cK X.K H O e (gO N k d)->Q (upd H a<|.ext λh=>h.get? a=some g)
def YZ(hu:X.A.units+130<cq):a8a X (a9l X):=by
 intro t s σ H x y v ov iv u Q I L T U z;let{O,a,b,o,es,N,k,d,B,ey,i,j,h6,h7,hz,C,E,rv,q}:=z;subst B ey;cases L;cases T;let{Y,J,qa,hp}:=yR I i j h6 h7;let{ok,dp}:=gG E;have f:Y.length<=sizeLine:=by
  let{_,B,ea,ep,hd,he}:=j;let{o2,nu,ep2,g2,_,hd2,nv,_}:=J;rw[((I.hok a _ i).1)]at g2
  nofun
 show wpAny_setItem_heap (knd:=Z4 X.prog X.w) (by change X.A.in1.units+128<cq;rw[t0];lia) {S8 I C ok rfl,by lia} J (λh' l hs=>?_) f;let{g,m,n,p,r,qf,uh,is',nd'}:=l;show{_,(I.write (o:=.ext λh=>h.get? a=some g) (h':=h') (t':=s.toks+nB k) (by rw[i];trivial) (.inl rfl) (λb u hb e=>(hs.2 b hb).trans e) {g,p} {p,{g,p},λh1 h2 e k=>k _ e}),q g _ {j.1,r,m,n,qf,rfl} (uh▸II (LZ hp qa C E U rv))}
def BK(i:Nat) (ρ:Ev) (k d:D):R Out:=match ρ[i]? with
 |some (.d N)=>if J6 7 k=true/\rP k=true/\N.length<=sizeLine then .ok (.nx (ρ.set i<|.d (gO N k d)))else .bad
 |_=>.bad
def DS(i:Nat){x:Str}{k:ck}{f g:Ev->R D}{p ps:Pos}(he:PD X e f)(j:PD X k g)(hu:X.A.units+130<cq)(hN:X.N[i]?=some x<|>1)(hv:zS X.env.scope x<|>5)(hd:(x==ma)=false<|>2)
  (eh:(x==md)=false<|>2) (ha:(∀v,kd (.Subscript (.Name x p) k ps) X.env v=(do
   let t<-h9 [v] (cy (.Name x p) X.env)
   let B<-h9 [v,t] (cy k X.env)
   standAt ps
   h9 [v,t,B] (setItem t B v)
   release [v,t,B] []))<|>6)
  (hs:ik [.Subscript (.Name x p) k ps] e C.line X.env=pure false<|>1) (hw:ix [.Subscript (.Name x p) k ps] e X.env=pure none<|>1) (u:(eR [.Subscript (.Name x p) k ps] X.env).map (·.2)=[kd (.Subscript (.Name x p) k ps) X.env]<|>1):
  nW X (.Assign [.Subscript (.Name x p) k ps] e C) (λρ=>(f ρ).bind λd=>(g ρ).bind λl=>BK i ρ l d):=λU Y=>
 DK (PY he (a1e (M9 hN hv hd eh) j (YZ hu) ha) hs hw u) λD σ H O ρ E fk q=>⟨U,Y,O,ρ,E,by
  cases I:f ρ with
  |ex z=>rw[I]at q;showλH' s=>q H' (E.same.trans s)
  |bad=>rw[I]at q;show q
  |ok d=>
   rw[I,R.aa0]at q;intro v H1 s1 r1;have J:=E.grow s1;cases w:g ρ with
   |ex z=>rw[w]at q;show(q H<|E.same.trans<|Same.refl _).elim
   |bad=>rw[w]at q;show(q).elim
   |ok l=>
    rw[w,R.aa0]at q;unfold BK at q;cases y:ρ[i]? with
    |none=>rw[y]at q;show(q).elim
    |some sl=>
     rw[y]at q;cases sl with
     |d N=>
      dsimp only at q;by_cases j:J6 7 l=true/\rP l=true/\N.length<=sizeLine
      .rw[km j]at q;let{a,o,es,u,h2,h3,L,h5,h6,h7}:=J.slot i _ y;show{_,u,U,Y,O,ρ,J,?_};rw[w];intro kv H2 n r2;let{b,rfl}:=cD r2 j.2.1;have Q:cK X.K H2 O es N:=h6.mono λr=>r.same n;show{O,a,b,o,es,N,l,d,rfl,rfl,n _ _ L,h5,Q,h7,by rw[h6.length];show j.2.2,r2,j.1,r1.same n,λo' T d' r'=>?_};let{E3,k3}:=(J.grow n).ae6 (sl':=.d (gO N l d)) (u':=.ext λh=>h.get? a=some o') y trivial u (n _ _ L) trivial trivial λhO h0 m=>{a,o',T,rfl,h2,h3,j1,d',r'.mono λr=>r.upd (n _ _ L) trivial h2,LK N l d h7};show q _ _ _ E3 fk (((Kp.of s1).trans (Kp.of n)).trans k3)
      rw[kn j]at q;show(q).elim
     |_=>show aAH q⟩
end
end
section
variable [Tabs]
def _root_.L2.Inv.ae9{a:O6}{i:St}{H:Hp}{s:aL}{h':cf}{t':Nat}{L:List a9}{T:a9}{vs:List V}(I:Inv X a i H s)(k:∀b o,b∉L->s.heap.get? b=some o->h'.get? b=some o)
  (h:∀b∈L,pG X a H b) (j:s.heap.objs.size<=T) (hz:vs.length<=sizeLine) {its:List au} (p:o5 vs its) (t:IsTup h' T its.toArray):Inv X a i (upd H T (.tup vs)) {s with heap:=h',toks:=t'}:=by
 have f:Same H (upd H T<|.tup vs):=j3 (I.hok.fresh j) _;have l:∀b u,H b=some u->b∉L:=λb u e z=>by rw[(h b z).1]at e;cases e
 show I.step (g':=s.gens) (d':=s.drawn) (λb g=>?_) (λb o _ _ d e _=>k b o d e) (λb o _ _ d e _=>{o.slots,k b o d e}) (λb o _ e n=>?_)
  (λb o d e=>{o,k b o d e}) (λb _ e=>f _ _ e) (λb _ _ e=>f _ _ e) (λb _ e=>f _ _ e) (λm w=>?_) (λb u e=>?_) I.bare
 .let{_,x,_,y,A,B}:=h b g;show{y,x,A,B}
 .rw[l6 (aAl<|aAn (aAd e) j)];show n
 .let{o,C,E,J,r}:=w;show{o,C,E,k _ o (λz=>(h _ z).2.1 rfl) J,r}
 by_cases g:b=T
 .subst g;rw[j1]at e;cases e;show{hz,its,p,t}
 rw[l6 g]at e;show(I.hok b u e).ab8 (λc v d q=>k c v ?_ q) (λ_ q=>f _ _ q) λ_ _ _ q=>f _ _ q;rcases d with z|z
 .rw[z];show l b u e
 show l c _ z
def _root_.L2.Inv.af1{a:O6}{g:St}{H:Hp}{s:aL}{h':cf}{t':Nat}{L:List a9}(I:Inv X a g H s)(k:∀b o,b∉L->s.heap.get? b=some o->h'.get? b=some o)
  (f:∀b∈L,pG X a H b):Inv X a g H {s with heap:=h',toks:=t'}:=by
 have h:∀b u,H b=some u->b∉L:=λb u e z=>by rw[(f b z).1]at e;cases e
 show I.step (g':=s.gens) (d':=s.drawn) (ch:=L) (λb i=>?_) (λb o _ _ d e _=>k b o d e) (λb o _ _ d e _=>{o.slots,k b o d e}) (λ_ _ _ _ n=>n)
  (λb o d e=>{o,k b o d e}) (λb _ e=>e) (λb _ _ e=>e) (λb _ e=>e) (λm j=>?_) (λb u e=>?_) I.bare
 .let{_,l,_,p,t,w}:=f b i;show{p,l,t,w}
 .let{o,x,y,A,r}:=j;show{o,x,y,k _ o (λz=>(f _ z).2.1 rfl) A,r}
 show(I.hok b u e).ab8 (λc v d q=>k c v ?_ q) (λ_ q=>q) λ_ _ _ q=>q;rcases d with z|z
 .rw[z];show h b u e
 show h c _ z
def a2j{h:cf}{i a:a9}{k:Nat}(x:h.IsListIter i a k):∃o,h.get? i=some o/\∀v,o.data≠.cell v:=by
 let{o,e,c,d}:=x
 nofun
end
section
variable [Tabs]
section
variable{K:Type} [DecidableEq K] {knd:HeapKind prog w K}
end
section
variable{o e:ck}{es:List ck}{to:TE}{t:TA}{name:Str}{apos ah:Pos}{T id:String}{r:V->List V->Hp->VK->Prop}
end
def TyD(x:V)(H:Hp):Prop:=∃a o b,x=.ref a/\H a=some (.ext λh=>h.get? a=some o)/\tE a o b
open Classical in
def atK(N:List (D×D)) (k:D):Option D:=(N.find? λp=>decide (p.1=k)).map (·.2)
def NF{K:lM}{H:Hp}{O:a9->Prop}{k:D}:∀{Y:List (D×a9×au)}{N:List (D×D)},Paired (λ(x:D×a9×au) (p:D×D)=>x.1=p.1/\Rep K H O (.ref x.2.1) p.1/\(∃v,RelV v x.2.2/\Rep K H O v p.2)/\J6 7 p.1=true) Y N->(kc Y k=none/\atK N k=none)\/∃p d v,kc Y k=some p/\atK N k=some d/\RelV v p.2/\Rep K H O v d:=by
 intro _ _ h;induction h with
 |nil=>show .inl {rfl,rfl}
 |@cons x p _ _ h _ a=>
  let{e,_,{v,b,r},_}:=h;by_cases h:p.1=k
  .show .inr {x.2,p.2,v,?_,?_,b,r}
   .simp[kc,e,h]
   simp[atK,h]
  have f:∀l:List (D×a9×au),kc (x::l) k=kc l k:=λl=>by simp[kc,e,h]
  have g:∀l:List (D×D),atK (p::l) k=atK l k:=λl=>by simp[atK,h]
  rw[f,g];show a
section
variable{A:bt}{s:aL}{prog:bc}{w:bM}{E:A5}
end
end
end DL
namespace MM
open PySem
def VA(prog:bc)(w:bM)(A:bt)(op:CmpOp)(d:cf->Prop)(P:Nat->au->Prop)(e:Nat->Nat->Bool):Prop:=
 ∀i j a b (s:aL) (Q:A5) (E:A5),d s.heap->P i a->P j b->Q (.bool (e i j)) s->ba (bb prog w) A (richCompare op a b) Q E s
section
def NL(W:WalksS prog w A.in1 I fp x G n P St){N:cf->Prop}(hH:∀i s,St i s->N s.heap)(p:Nat->Nat->Bool)(xv:VA prog w A.in1 .Lt N P p)(S:a9)(O:S∉fp):
  ∀(k j:Nat) (s:aL) (d:au) (c:Nat),n-(j+1)=k->j+1<=n->St (j+1) s->P (fo p j) d->
  s.heap.get? S=some {cls:=.type "list",dict:=none,data:=.seq #[d,d] c,slots:=#[]}->
  (∀v s',P (fo p (n-1)) v->Moved (S::x) G s s'->R (.ok (.ret v)) s')->gn (bb prog w) A (.builtin "min.loop" {[.ref I,.none,.ref S],[]}) R s:=by
 have r:=λh=>O (W.sub _ h);have z:∀b∈x,b∈S::x:=λb a=>aAf _ a;have Q:(toString "min"++toString ".loop":String)= "min.loop":=by decide
 have g:∀{b:a9},b∉S::x->S≠b:=λa h=>a (by grind);intro k;induction k with
 |zero=>
  intro j s d c hk hj B f t y;have T:j+1=n:=by omega
  show aBn aGi ?_;rw[aBm aDu _];show aAa (aAW t rfl<|aAa<|aEF<|W.done s _ _ (T▸B) λs' q=>?_);have u:=q.heap S _ r t;show aAa (aCc u rfl<|aAa<|aDK<|aAc<|y d _ (T▸f)<|(q.mono z).then_heap (aAi _) λb o a e=>(aAE _ _<|g a).trans e)
 |succ k U=>
  intro j s d c hk hj B f t y;have C:j+1<n:=by omega
  show aBn aGi ?_;rw[aBm aDu _];show aAa (aAW t rfl<|aAa<|aEF<|W.item (j+1) s _ _ C B λv s' Y E q=>?_);have u:=q.heap S _ r t;change ba _ A.in1 (tryCatch (h9 [v,v]<|richCompare .Lt v d>>=_) _>>=_) _ _ _;show aAa (aEF<|aAJ<|aAa<|xv (j+1) (fo p j) v d _ _ _ (hH _ _ E) Y f<|aAa<|aAJ<|aBA<|aAa<|aDK<|aAc ?_);cases a:p (j+1) (fo p j)with
  |true=>
   erw[if_true];show aAa (aCc u rfl<|aAa<|aDK ?_);rw[Q];show aAc ⟨aBD aDu _,U (j+1) _ v _ (by omega) C (W.frame _ s' _ s'.toks E (aAi _) λb H o e=>?_) (by erw[fo,a,if_true];show Y) (aBa _ u rfl)
    λJ l m L=>?_⟩
   .show(aAE _ _ (λh:S=b=>O (by rw[h];show H))).trans e
   show y J l m (aGd W.gtrans ((q.mono z).then_heap (aAi _) λb o a e=>(aAE _ _<|g a).trans e) L)
  |false=>erw[if_false];show aAa (aDK ?_);rw[Q];show aAc {aBD aDu _,U (j+1) _ d c (by omega) C E (by erw[fo,a,if_false];show f) u λJ l m L=>(y J l m<|aGd W.gtrans (q.mono z) L)}
def GI(W:WalksS prog w A.in1 I x d G n P St){p:cf->Prop}(y:∀i s,St i s->p s.heap)(f:Nat->Nat->Bool)(z:VA prog w A.in1 .Lt p P f)(S:a9)(g:S∉x)(q:0<n)(B:St 0 s)(r:s.heap.get? S=some {cls:=.type "list",dict:=none,data:=.seq #[] c,slots:=#[]})(C:∀v s',P (fo f (n-1)) v->Moved (S::d) G s s'->R (.ok (.ret v)) s'):gn (bb prog w) A (.builtin "min.loop" {[.ref I,.none,.ref S],[]}) R s:=by
 have j:=λh=>g (W.sub _ h);have E:∀b∈d,b∈S::d:=λb a=>aAf _ a;have O:(toString "min"++toString ".loop":String)= "min.loop":=by decide
 show aBn aGi (aAa<|aAW r rfl<|aAa<|aEF<|W.item 0 s _ _ q B λv s' H J t=>?_);have u:=t.heap S _ j r;change ba _ A.in1 (updateSeq S (λ_=>#[v,v])>>=_) _ _ _;show aAa (aCc u rfl<|aAc ⟨aBD aDu _,NL W y f z S g _ 0 _ v _ rfl q (W.frame _ s' _ s'.toks J (aAi _) λb k o e=>?_) H (aBa _ u rfl) λL l m N=>?_⟩)
 .show(aAE _ _ (λh:S=b=>g (h▸k))).trans e
 show C L l m (aGd W.gtrans ((t.mono E).then_heap (aAi _) λb o a e=>(aAE _ _<|(λa h=>a (h▸aBL)) a).trans e) N)
def call_minH{E:A5}{Q:A5}(h:ba (bb prog w) A.in1 (pyIter x) (λl a=>∃I f g G n P St j d,l=.ref I/\WalksS prog w A.in1 I f g G n P St/\St 0 a/\(∀b∈f,b<a.heap.objs.size)/\0<n/\(∀i s,St i s->j s.heap)/\VA prog w A.in1 .Lt j P d/\
   ∀v s',P (fo d (n-1)) v->Moved g G a s'->Q v s') E s):
  ba (bb prog w) A (call (.builtin "min") [x]) Q E s:=by
 have B:(toString "min"++toString ".loop":String)= "min.loop":=by decide
 show call_function_tree F.kind_min F.plain_min F.entry_min (F.args_min1 _) ?_;change ba _ A.in1 (Builtin.Builtins.bindParams "min" ["key", "default"] 0 {[],[]}>>=_) _ _ s;show aAa (aFh (rfl)<|aAa<|aAc<|aAa<|aCH h (λl a m=>?_) λ_ _ e=>e);let{I,f,g,G,n,P,St,j,d,rfl,W,p,q,r,t,u,y}:=m;show aAa (aAD<|aAc ⟨aBD aDu _,GI W t d u a.heap.objs.size (λk=>aBC _ (q _ k)) r (W.frame 0 a _ a.toks p (aAi _) λb _ o e=>aAb _ e) (aAh _ rfl) λv s' z k=>?_⟩);show y v s' z (Moved.drop_new k<|aAi _)
end
def walks_more{P:Nat->au->Prop}{St:Nat->cf->Prop}(W:Walks prog w A I m j n P St)(more:O6)(q:∀p∈more,p.1∉j):
  Walks prog w A I (m++more.map (·.1)) j n P (λi h=>St i h/\∀p∈more,h.get? p.1=some p.2)where
 sub:=λb f=>aBl _ (W.sub b f)
 frame:=λi h g st k=>{W.frame i h g st.1 λb f o e=>k b (aBl _ f) o e,λp a=>k p.1 (aAA _<|aBV a) _ (st.2 p a)}
 item:=λi s Q E r st d=>W.item i s Q E r st.1 λv g t u x l=>d v g t u {x,λp a=>l p.1 p.2 (q p a) (st.2 p a)} l
 done:=λs Q E st d=>W.done s Q E st.1 d
 self:=λi s Q E st d=>W.self i s Q E st.1 d
end MM
namespace DL
open PySem PySem.Spec L2
open PyProof.Rows hiding St
section
variable [Tabs]
section
def MO{x:Str}{a:a9}{b:Option a9}{its:Array au}{n:Nat}{sl:Array (Option au)}{ns:List Int}(d:X.mg x=some (.ref a))(e:X.K.lookup a=some {.type "tuple",b,.seq its n,sl})(f:o5 (ns.map V.int) its.toList)(hz:its.size<=sizeLine)(g:Gl X x<|>1)(h:(x==ma)=false<|>2):
 PD X (.Name x i) (XS (.tup (ns.map D.int))):=yN (ZQ g d (show RelV (.ref a) _ from rfl) h) λH O=>.tup (.inr {_,its,n,e,rfl,rfl,hz,f}) (Reps.ints ns)
def VC:D->D->R D
 |.non,.non=>.ok (.bl true)
 |_,.non=>.ok (.bl false)
 |_,_=>.bad
def GR:jH X (dC .Is) VC:=by
 intro H O x y e f Q j d g q;show{_,a1r,?_};cases f with
 |non=>
  show{g.ac0,?_};cases e with
  |non=>rw[d.ac0];show q _ H (Same.refl _) .bl
  |bl b=>rw[d.blI];show q _ H (Same.refl _) .bl
  |int i=>rw[d.aa6];show q _ H (Same.refl _) .bl
  |str z=>rw[d.ac2];show q _ H (Same.refl _) .bl
  |tup h=>let{a,_,rfl,_}:=d.tupI;show q _ H (Same.refl _) .bl
  |lst h=>let{a,_,rfl,_}:=d.aa5;show q _ H (Same.refl _) .bl
  |dct=>let{a,_,_,rfl,_}:=d.ad8;show q _ H (Same.refl _) .bl
 |_=>cases e<;>show(q).elim
def VP(h:PD X e f)(i:eI e none a.line X.env=pure false<|>1):nW X (.Expr e a) (λρ=>(f ρ).bind λ_=>.ok (.nx ρ)):=λj k=>
 DK (jX h i) λD m H O ρ E l q=>⟨j,k,O,ρ,E,by
  cases b:f ρ with
  |ok d=>rw[b]at q;showλv g s r=>q _ g O (E.grow s) l (Kp.of s)
  |ex x=>rw[b]at q;showλg s=>q g (E.same.trans s)
  |bad=>rw[b]at q;show q⟩
def fF:List D->Option (List Bool)
 |[]=>some []
 |.bl b::a=>(fF a).map (b::·)
 |_::_=>none
theorem sZ:∀{ds:List D}{bs:List Bool},fF ds=some bs->ds=bs.map D.bl
 |[],bs,h=>by cases h;rfl
 |.bl b::ds,bs,h=>by
  unfold fF at h;cases e:fF ds with
  |none=>grind
  |some l=>rw[e]at h;have a:b::l=bs:=Option.some.inj h;subst a;rw[sZ e];rfl
 |.non::_,_,h|.int _::_,_,h|.str _::_,_,h|.tup _::_,_,h|.lst _::_,_,h|.dct _::_,_,h=>by cases h
def anyR:List D->R D
 |[.lst a]=>match fF a with
  |some bs=>.ok (.bl (bs.any id))
  |none=>.bad
 |_=>.bad
def FY{K:lM}{H:Hp}{O:a9->Prop}{ws:List V}{bs:List Bool}{its:List au}(r:Reps K H O ws (bs.map D.bl))(v:o5 ws its):its=bs.map aEc:=by
 induction bs generalizing ws its with
 |nil=>cases r;cases v;rfl
 |cons b bs a=>
  cases r with
  |cons r t=>
   cases v with
   |cons d e=>cases r;have:_=aEc b:=d;rw[this,a t e];rfl
def NC(bs:List Bool):(aBz bs.length).any (λi=>bs.getD i false)=bs.any id:=by
 rw[aEp,aDq,aDq];constructor
 .rintro⟨i,a,e⟩;have d:i<bs.length:=by nofun
  show{bs[i],aBT d,?_}
  nofun
 rintro⟨b,f,e⟩;let{i,a,rfl}:=aBh f;show{i,by simpa using a,by simpa[aAk a]using e}
def a3b(y:X.calm=true):aW X (.builtin "any") anyR:=by
 intro H O j A Q fr r q;match A,q with
 |[.lst Y],q=>
  let{v,rfl,z}:=FQ r;let{p,ws,rfl,B,k}:=z.aa5;erw[anyR]at q;cases e:fF Y with
  |none=>rw[e]at q;show q.elim
  |some bs=>
   rw[e]at q;rw[sZ e]at k;show{λj l m=>j=[.ref p]/\l=H/\m=Q,λn s σ l Y us m I C ⟨J,L,N⟩=>?_,rfl,rfl,rfl};subst J L N;let{u,rfl,T}:=vals1 C;cases T;let{a,g,{U,nL,t,cL,dL,sL},zL}:=I.list B;have w:=FY k g;have x:s.heap.IsList p a.toArray:={U,t,cL,nL,sL};show call_any_walk (aCI x {s.heap.objs.size,_,_,a.toArray.size,_,_,λi=>bs.getD i false,rfl,aGV (by simp[I.ok.hd y]) s.heap.objs.size p (aAl<|aAd t) a.toArray,{{_,aAh _ rfl,rfl,rfl},x.push _},λi v s' Q E d f=>?_,λh' tk kp=>?_})
   .have d:a.toArray[i]?=some v:=d;have f:Q (bs.getD i false) s':=f;rw[aCX,w,aAF]at d;cases h:bs[i]? with
    |none=>rw[h]at d;cases d
    |some b=>rw[h]at d;have:aEc b=v:=Option.some.inj d;subst this;rw[aAp,h]at f;show aBA f
   have I2:=I.kept (h':=h') (t':=tk) λb o e=>kp b o (by erw[aAU];show aAl (aAd e)) (aAb _ e);show{.bl (bs.any id),_,I2,?_,q _ _ (Same.refl _) .bl};change aEc _=aEc _;rw[aAQ,w,aAg,NC]
end
def ltI(ds:List D)(i j:Nat):Bool:=HT.lexLt (flat<|ds.getD i .non) (flat<|ds.getD j .non)
def TL:List D->R D
 |[.lst a]=>if a≠[]/\a.all cT=true then .ok (a.getD (fo (ltI a) (a.length-1)) .non)else .bad
 |_=>.bad
def zD(h:cf)(its:List au):List (a9×Obj):=its.filterMap λv=>match v with
 |.ref b=>(h.get? b).map λo=>(b,o)
 |_=>none
def HN(a:aCV b∈its)(e:h.get? b=some o):(b,o)∈zD h its:=
 aCb.mpr {_,a,by change(h.get? b).map _=_;rw[e];rfl}
def iK(a:p∈zD h its):h.get? p.1=some p.2:=by
 let{v,_,e}:=aCb.mp a;cases v with
 |ref b=>
  have e:(h.get? b).map (λo=>(b,o))=some p:=e;cases q:h.get? b with
  |none=>nofun
  |some o=>rw[q]at e;cases e;show q
 |_=>cases e
section
def ZZ(hc:X.calm=true)(hu:X.A.units+300<cq):aW X (.builtin "min") TL:=by
 intro H O vs ds Q fr r q;match ds,q with
 |[.lst Y],q=>
  let{v,rfl,z}:=FQ r;let{p,ws,rfl,h1,h2}:=z.aa5;erw[TL]at q;by_cases x:Y≠[]/\Y.all cT=true
  .rw[km x]at q;let{ai,x}:=x;show{λvs H' Q'=>vs=[.ref p]/\H'=H/\Q'=Q,λpins s σ H' xs' us Q' I rv z9=>?_,rfl,rfl,rfl};let{e1,e2,e3}:=z9;subst e1 e2 e3;let{u,rfl,ru}:=vals1 rv;cases ru;let{f,y,{oL,nL,L,cL,dL,sL},zL}:=I.list h1;have hl:s.heap.IsList p f.toArray:={oL,L,cL,nL,sL};have st:=B4.of y h2;have l:f.toArray.size=Y.length:=by rw[aAQ,<-y.length,h2.length]
   have W:=MM.walks_more (aGV (prog:=X.prog) (w:=X.w) (A:=X.A.in1) (by simp[I.ok.hd hc]) s.heap.objs.size p (aAl<|aAd L) f.toArray) (zD s.heap f)
    (λq t=>by erw[aAU];show aAl (aAd<|iK t))
   show MM.call_minH (aCI hl {s.heap.objs.size,_,_,_,f.toArray.size,_,_,λh=>∀q∈zD s.heap f,h.get? q.1=some q.2,ltI Y,rfl,W.toS,{{{_,aAh _ rfl,rfl,rfl},hl.push _},λq t=>aAb _ (iK t)},λb k=>?_,by rw[l];show(aEa.mpr ai),λi s h=>h.2,λi j vi vj m Q2 E2 hh B hj t=>?_,λv m E J=>?_})
   .rw[aBb];rcases aAO.mp k with k|k
    .rcases aAe.mp k with rfl|k
     .show aDt _
     rcases aAe.mp k with rfl|k
     .show aBB (aAd L)
     cases k
    let{q,t,rfl}:=aAj.mp k;show aBB (aAd<|iK t)
   .have one:∀i v,f.toArray[i]?=some v->∃b a,v=.ref b/\IsTup m.heap b a/\IntsAre a.toList (flat<|Y.getD i .non):=λi v B=>by
     rw[aCX]at B;let{d,hd,w,N,T}:=G0 st B;have U:Y.getD i .non=d:=by nofun
     rw[U];have C:=(aBG.mp x) d (aAs hd);let{b,a,rfl,{o,g,c,n,dd},hia}:=bW C (S8 I T (M6 C) N);show{b,a,rfl,{o,hh _ (HN (aAs B) g),c,n,dd},hia}
    let{b,a,rfl,t1,i1}:=one i vi B;let{b',xo,rfl,t2,i2}:=one j vj hj;show HT.lt_tupInts t1 t2 i1 i2 (by grind) t
   have E:=E;rw[aCX,l]at E;let{d,hd,w,N,T}:=G0 st E;have U:Y.getD (fo (ltI Y)<|Y.length-1) .non=d:=by nofun
   rw[U]at q;have es:m={s with heap:=m.heap,toks:=m.toks}:=by
    have g1:=J.gens;have g2:=J.drawn;have g3:=J.os;cases m
    nofun
   rw[es];show{w,_,(I.kept (h':=m.heap) (t':=m.toks) λb o e=>J.heap b o (by erw[aAU];show aAl (aAd e)) (aAb _ e)),N,q _ _ (Same.refl _) T}
  rw[kn x]at q;show q.elim
def ZX(h:XQ ds)(n:Nat)(a:n<ds.length):fo (ltI ds) n=0:=by
 induction n with
 |zero=>rfl
 |succ k b=>
  unfold fo;rw[(b (by lia))];have:ltI ds (k+1) 0=false:=by
   unfold ltI;rw[aAp,aAp,aAk a,aAk (by lia)];have:=aBO.mp h 0 (k+1) (by lia) a (by lia);cases q:HT.lexLt (flat<|(some ds[k+1]).getD .non) (flat ((some (ds[0]'(by lia))).getD .non))with
   |false=>rfl
   |true=>have z:HT.lexLt (flat (ds[0]'(by lia))) (flat (ds[0]'(by lia)))=true:=TS.lex_trans _ _ _ this q;rw[TS.lex_irrefl]at z;cases z
  rw[this];rfl
end
end
section
variable [Tabs]
end
end DL
namespace DL
open PySem PySem.Spec L2
open PyProof.Rows hiding St sub_tuple_tuple sub_list_list sub_tuple_list sub_list_tuple
section
open PySem.MeetsSeq PySem.MeetsSeq2 PySem.MeetsSeq3 PySem.AutoSeq1
def SW(l:a9)(Y:Array au)(n:Nat)(b:a9)(a:Array au)(n2:Nat)(sl:Array (Option au))(i:¬(!Y.isEmpty&&aDi (Y.size+a.size))=true)(j:Y.size<=sizeLine)(e:Y.size+a.size<=sizeLine+1):
  Meets (Builtin.«list.extend» {[.ref l,.ref b],[]}) (λ_ R s=>s.heap.get? l=some {.type "list",none,.seq Y n,#[]}/\s.heap.get? b=some {.type "list",none,.seq a n2,sl}/\R (.ok (.ret Value.none)) {s with heap:=s.heap.update l (aCg λx=>x++a),toks:=s.toks}):=
 .of_wp λf w A R s q=>by
  let{o,g,d,p,os}:=s;let{h,k,m}:=q;have r:=idx_int;have t:=sub_tuple_tuple;have u:=sub_list_list;have v:=sub_tuple_list;have y:=sub_list_tuple;have z:(Y++a).size<=sizeLine+1:=by rw[Array.size_append];show e
  wp_walk using(aCc h rfl (hz:=j) (_hz':=z)),aFk h,aFk k
  show{_,rfl,m}
end
section
def a5z(K:lM):V->List V->Hp->VK->Prop:=λx d H Q=>∃l b Y a,x=.ref l/\d=[.ref b]/\H l=some (.lst Y)/\K4 K H b a/\Y.length+a.length<=sizeLine/\Q .non (upd H l<|.lst (Y++a))
def a2d:MtM X "list.extend" (a5z X.K):=by
 intro g s N H x O v T Q I k m h;let{l,b,Y,U,rfl,rfl,i,o,hz,q}:=h;cases k;let{u,rfl,p}:=m.one;cases p;let{z,a,n,r,hl,e}:=I.af3 i;let{f,j,{{t,wu,w,y},A,B,C,E,J},z2}:=I.list o;subst C E J;have jl:=j.length;have L:a.toArray.size+f.toArray.size<=sizeLine:=by grind
 have d:¬(!a.toArray.isEmpty&&aDi (a.toArray.size+f.toArray.size))=true:=by rw[TW L,aGG];grind
 show aGv F.slot_list_extend {_,e,rfl} F.entry_list_extend (F.args_list_extend_2 _ _) (SW l a.toArray n b f.toArray A y d (by grind) (by lia)) {e,B,({.non,_,I.af4 (its':=a++f) i e (by simp) (r.append j) ?_,rfl,q})}
 nofun
end
variable [Tabs]
section
def tH(i:Nat)(A:PD X e f)(B:X.N[i]?=some x<|>1)(I:zS X.env.scope x<|>5)(J:(x==ma)=false<|>2)(L:(x==md)=false<|>2)(Q:fb (.Name x p) "extend" X.env (cy (.Name x p) X.env)=cy (.Name x p) X.env<|>1)(T:(((cv g (a5 [e] X.env)).all (λx=>!x.1)&&(backToKw g (keywordEach [] X.env)).all (λx=>x.1.isSome)
   &&decide ([e].length+([]:List Keyword).length+(if([]:List Keyword).isEmpty then 0 else 1)<30))=true)<|>1) (U:(b.endLine==g.line)=true<|>1) (r:a5 [e] X.env=(false,cy e X.env)::a5 [] X.env<|>1) (jv:(cv g (a5 [] X.env)).any (·.1)=false<|>1) (uf:eI (.Call (.Attribute (.Name x p) "extend" b) [e] [] g) none l.line X.env=pure false<|>1):
  nW X (.Expr (.Call (.Attribute (.Name x p) "extend" b) [e] [] g) l) (λρ=>(f ρ).bind (XU i ρ)):=λH9 O0=>
 DK (jX (xx PySem.F.plainAttrs_list PySem.F.slot_list_extend PySem.F.type_list_extend a2d (M9 B I J L) (i4 A o9 r) Q T U r jv) uf) λD σ H O ρ E fk q=>by
 cases j:f ρ with
 |ok d=>
  rw[j,R.aa0]at q;unfold XU at q;cases h:ρ[i]? with
  |none=>rw[h]at q;show(q).elim
  |some s=>
   rw[h]at q;cases s with
   |x C=>show(q).elim
   |c m φ=>show(q).elim
   |d N=>show(q).elim
   |no=>show aAH q
   |v d=>show aAH q
   |o Y=>
    cases d with
    |lst ys=>
     dsimp only at q;split at q
     .rename_i hz;let{a,t,u,h2,h3,w,y}:=E.own i Y h;show{_,u,.inl {rfl,t,K4.of w},H9,O0,O,ρ,E,?_};change MD X H O ((f ρ).bind λd=>(R.ok []).bind λds=>.ok (d::ds)) _;rw[j];intro us H1 k n;cases n with
      |cons n rn=>
       cases rn;cases n with
       |lst hb nb z=>show{a,_,t,_,rfl,rfl,k _ _ w,hb,by rw[y.length,z.length];show hz,?_};let{E2,k2}:=(E.grow k).write h u ((y.same k).append z);show q σ _ O E2 fk ((Kp.of k).trans k2)
     show aAH q
    |_=>show aAH q
 |ex x=>
  rw[j]at q;cases h:ρ[i]? with
  |none=>show(q H E.same).elim
  |some s=>show(q H E.same).elim
 |bad=>rw[j]at q;show aAH q
end
end DL
namespace TS
open PySem PyProof.Rows HT
section
def IZ(A:bt)(s:aL)(x y:au)(b:Bool):Prop:=∀(a:bc) (w:bM) (E:A5) (Q:CD),Q b s->ba (bb a w) A (oneLt' false x y) Q E s
def lt_two{Q:CD}(e:IsTup s.heap l #[p,r])(g:IsTup s.heap b #[a,r'])(h:f=false)(i:SeqAt.EqAt A s p a e1)(j:e1=false->IZ A s p a b1)(k:e1=true->SeqAt.EqAt A s r r' e2)(m:e1=true->e2=false->IZ A s r r' b2)(q:Q (bif e1 then(bif e2 then false else b2)else b1) s):ba (bb prog w) A (keyLt' (tupK f) (.ref l) (.ref b)) Q E s:=by
 let{o,t,x,n,u}:=e;let{y,v,z,B,d}:=g;subst h;show aAa (aEM t u<|aAa<|aEM v d ?_);change ba _ _ (forIn [((p,a),0),((r,r'),1)] _ _>>=_) _ _ _;rw[aDd];show aAa (aAa<|aAa<|i _ _ _ _ ?_);cases e1 with
 |false=>show aAa (j rfl _ _ _ _<|aAc<|aAc<|aAc q)
 |true=>
  show aAc ?_;dsimp only;rw[aDd];show aAa (aAa<|k rfl _ _ _ _ ?_);cases e2 with
  |false=>show aAa (m rfl rfl _ _ _ _<|aAc<|aAc<|aAc q)
  |true=>show aAc ?_;dsimp only;show aAc (aAc q)
def VV(h:∀(prog:bc) (w:bM) (E:A5) (Q:A5),Q (.bool b) s->ba (bb prog w) A (richCompare .Lt x y) Q E s):IZ A s x y b:=λprog w E Q q=>by rw[oneLt'_eq];show aAa (h prog w _ _<|aBA q)
def oneLt_tup(d:IsTup s.heap l items)(e:IsTup s.heap b f)(g:IntsAre items.toList ns)(h:IntsAre f.toList i)(j:A.units<cq):IZ A s (.ref l) (.ref b) (HT.lexLt ns i):=
 VV λa w E Q q=>HT.lt_tupInts d e g h j q
end
end TS
namespace DL
open PySem PySem.Spec L2
open PyProof.Rows hiding St
section
def yC(k:D->List Int)(d:D):List D->List D
 |[]=>[d]
 |x::Y=>if HT.lexLt (k d) (k x)=true then d::x::Y else x::yC k d Y
def qP(k:D->List Int)(ds:List D):List D:=ds.foldr (yC k) []
def yB(k:D->List Int)(ds:List D):Prop:=ds.Pairwise λx y=>HT.lexLt (k x) (k y)=true
theorem nF(k:D->List Int)(d:D):∀Y:List D,(yC k d Y).Perm (d::Y)
 |[]=>.refl _
 |x::Y=>by
  unfold yC;split
  .show .refl _
  show((nF k d Y).cons x).trans (.swap d x Y)
theorem X0(k:D->List Int):∀ds:List D,(qP k ds).Perm ds
 |[]=>.refl _
 |d::ds=>(nF k d (qP k ds)).trans ((X0 k ds).cons d)
theorem BQ:∀{Y:List D},yB k Y->(∀x∈Y,k x≠k d)->yB k (yC k d Y):=by
 intro f h n;cases f with
 |nil=>show aEh _ _
 |cons x Y=>
  have b:=aAu.mp h;unfold yC;split
  .rename_i lt;show aAu.mpr {λy a=>?_,h};rcases aAe.mp a with rfl|a
   .show lt
   show TS.lex_trans _ _ _ lt (b.1 y a)
  rename_i e;show aAu.mpr {λy a=>?_,BQ b.2 λz g=>n z (.tail _ g)};rcases aAe.mp ((nF k d Y).mem_iff.mp a)with rfl|a
  .cases q:HT.lexLt (k x) (k y)with
   |true=>rfl
   |false=>show k7 (TS.lex_total _ _ q (by exists e)) (n x<|.head _)
  show b.1 y a
theorem lV:∀{ds:List D},(ds.map k).Nodup->yB k (qP k ds):=by
 intro a h;cases a with
 |nil=>show .nil
 |cons d ds=>rw[aAm,aAZ]at h;show BQ (lV h.2) λx b e=>h.1 ?_;rw[<-e];show aBV ((X0 k ds).mem_iff.mp b)
theorem lX:∀{Y a:List D},yB k Y->yB k a->Y.Perm a->Y=a:=by
 intro g a h i p;cases g with
 |nil=>show(List.nil_perm.mp p).symm
 |cons x Y=>
  cases a with
  |nil=>nofun
  |cons y a=>
   have e:=aAu.mp h;have f:=aAu.mp i;have b:x=y:=by
    rcases aAe.mp (p.mem_iff.mp<|.head _)with q|q
    .show q
    rcases aAe.mp (p.mem_iff.mpr<|.head _)with d|d
    .show d.symm
    have:=TS.lex_trans _ _ _ (f.1 x q) (e.1 y d);rw[TS.lex_irrefl]at this;cases this
   subst b;rw[lX e.2 f.2 ((List.perm_cons x).mp p)]
def dj[Tabs]{R:au->D->Prop}{key:au->List Int}{k:D->List Int}{a:List au}{ds:List D}(st:Paired R a ds)(f:a.Pairwise λx y=>HT.lexLt (key y) (key x)=false)(p:(ds.map k).Nodup)(g:∀u d,R u d->d∈ds->key u=k d):yB k ds:=by
 induction st with
 |nil=>show .nil
 |@cons u d a ds r t q=>
  have i:=aAZ.mp p;have m:=aAu.mp f;show aAu.mpr {λe s=>?_,q m.2 i.2 λu d h v=>g u d h (.tail _ v)};let{j,b,rfl}:=aBh s;have n:j<a.length:=by rw[t.length];show b
  let{A,o,w}:=G0 t (aAk n);rw[aAk b]at o;cases o;have l:=m.1 a[j] (aBT n);rw[g _ _ w (.tail _ (aBT b)),g u d r (.head _)]at l;cases z:HT.lexLt (k d) (k ds[j])with
  |true=>rfl
  |false=>show k7 (aAj.mpr {ds[j],aBT b,(TS.lex_total _ _ z l).symm}) i.1
def fcB:D->Bool
 |.tup [p,.lst _]=>cT p
 |_=>false
def S6:D->List Int
 |.tup (p::_)=>flat p
 |_=>[]
def a1k(h:fcB d=true):∃p r,d=.tup [p,.lst r]/\cT p=true/\S6 d=flat p:=by
 unfold fcB at h;split at h
 .show{_,_,rfl,h,rfl}
 cases h
def sfR:D->R (List D)
 |.lst a=>if a.all fcB=true/\(a.map S6).Nodup/\a.length<=63 then .ok (qP S6 a)else .bad
 |_=>.bad
variable [Tabs]
def FV(h:cf)(u:au)(l:List Int):Prop:=∃b p r d,u=.ref b/\IsTup h b #[p,r]/\cT d=true/\HV h p d/\flat d=l
def FV.inj(x:FV h u l)(y:FV h u k):l=k:=by let{b,p,r,d,rfl,{o,g,_,n,m},_,q,rfl}:=x;let{t,v,w,z,e,{A,i,_,B,a},_,f,rfl}:=y;cases e;rw[g]at i;cases i;rw[m]at a;injection a with s _;have j:=kM aGY s;erw[aGs]at j;let{rfl,_}:=j;rw[HV.inj q f]
def NJ(h:cf) (u:au):List Int:=open Classical in if p:∃l,FV h u l then p.choose else[]
def jL(x:FV h u l):NJ h u=l:=by unfold NJ;rw[dif_pos {l,x}];show FV.inj (Exists.choose_spec ({l,x}:∃l,FV h u l)) x
section
def QT(I:Inv X e m H s)(r:Rep X.K H O v d)(h:fcB d=true)(g:RelV v u):FV s.heap u (S6 d):=by
 let{p,ring,rfl,f,i}:=a1k h;cases r with
 |tup q a=>
  cases g;let{j,b,k,_}:=I.tuple q;cases a with
  |cons l a=>
   cases a with
   |cons n a=>
    cases a;cases b with
    |cons v1 b=>
     cases b with
     |cons o b=>cases b;show{_,_,_,p,rfl,k,f,S8 I l (M6 f) v1,i.symm}
end
section
def DQ(ha:PB X e f)(hh:X.calm=true)(hu:X.A.units+300<cq)(hg:Gl X "sorted"<|>1)(hm:X.mg "sorted"=none<|>4)(hv:cu "sorted"=some (.builtin "sorted")<|>3)(he:a5 [e] X.env=(false,cy e X.env)::a5 [] X.env<|>1)(bo:(cv pos (a5 [] X.env)).any (·.1)=false<|>1):
  PF X (.Call (.Name "sorted" p) [e] [] pos) (λρ=>(f ρ).bind sfR):=by
 show rM λpins s σ H Q I H9 O0 O ρ E q=>?_;dsimp only at q;show aAP (K9 I hg hm hv ?_ (by symm) (by symm));have hpa:PA X [e] _:=J5 ha aR he;show aBu (D3 (hpa pos pins s σ H (λvs H1=>∃v t,vs=[v]/\f ρ=.ok (.lst t)/\Same H H1/\y8 X.K H1 O v (.lst t)) I {H9,O0,O,ρ,E,?_}) λus J z9=>?_) he bo
 .cases e1:f ρ with
  |ex z=>rw[e1]at q;show q
  |bad=>rw[e1]at q;show q.elim
  |ok d=>
   rw[e1,R.aa0]at q;cases d with
   |lst t=>showλv H1 J r1=>{v,t,rfl,rfl,J,r1}
   |_=>show aAH q
 let{vs,H1,I1,r1,v,t,ev,ef,sm,rb}:=z9;subst ev;rw[ef,R.aa0]at q;let{a,ws,rfl,hS,rr}:=rb.aa5;let{u,rfl,ru}:=vals1 r1;cases ru;let{m,rv,{oL,nL,gL,cL,dL,sL},zL}:=I1.list hS;have hl:J.heap.IsList a m.toArray:={oL,gL,cL,nL,sL};erw[sfR]at q;by_cases hc:t.all fcB=true/\(t.map S6).Nodup/\t.length<=63
 .rw[km hc]at q;let{mr,nd,ve}:=hc;have fc:∀d∈t,fcB d=true:=aBG.mp mr;have st:B4 X.K H1 O m t:=B4.of rv rr;have hlen:m.length=t.length:=st.length;have B:∀u∈m,∃i d,m[i]?=some u/\t[i]?=some d/\FV J.heap u (S6 d):=λu hu=>by let{i,hi,rfl}:=aBh hu;let{d,U,w,qi,rp}:=G0 st (aAk hi);show{i,d,aAk hi,U,QT I1 rp (fc d<|aAs U) qi}
  have keq:∀u∈m,∀u'∈m,NJ J.heap u=NJ J.heap u'->u=u':=λu hu u' hu' e=>by
   let{i,d,hi,U,fv}:=B u hu;let{j,d',hj,qf,fv'}:=B u' hu';rw[jL fv,jL fv']at e;have eij:i=j:=by let{li,ei}:=aAw.mp U;let{lj,ej}:=aAw.mp qf;show(List.getElem_inj (xs:=t.map S6) (i:=i) (j:=j) (h₀:=by exists li) (h₁:=by exists lj) nd).mp ?_;rw[aEV,aEV,ei,ej];show e
   subst eij;rw[hi]at hj;cases hj;rfl
  show TS.sorted_keys (vs:=m) (f:=false) (key:=NJ J.heap) (C:=λs'=>∃h',s'={J with heap:=h'}/\∀b o,J.heap.get? b=some o->h'.get? b=some o)
   (λ{Q'} hq=>collect_list hl (hq _ {_,rfl,λb o e=>?_}) (by rw[hlen];show aAo ve (by symm)))
   (λs' ⟨h',N,k⟩ Y k6 x hx y hy prog w A E hA {Q} qq=>?_) (λh2 s' ⟨h',N,k⟩ Y k6 A {Q} qq=>?_) (by rw[hlen];lia) λs' gm h' l ⟨h1,N,k⟩ pm srt k2 hl ⟨n,gl⟩=>?_
  .show(aAE _ _<|aCL<|aAl<|aAd e).trans (aAb _ e)
  .subst N;have kk:∀b o,J.heap.get? b=some o->Y.heap.get? b=some o:=λb o e=>k6 b o (k b o e);let{i,d,hi,U,fv}:=B x hx;let{j,d',hj,qf,fv'}:=B y hy;have kx:=jL fv;have ky:=jL fv';have eqk:=keq x hx y hy;rw[kx,ky]at qq;rw[kx,ky]at eqk;let{b,p1,r1,d1,rfl,{o,g,c,n,dd},ya,hv1,e1}:=fv;let{b',p2,r2,d2,rfl,{o',g',c',n',dd'},hp2,hv2,e2}:=fv';have L:HV Y.heap p1 d1:=hv1.keeps λb o e _=>kk b o e;have hv2':HV Y.heap p2 d2:=hv2.keeps λb o e _=>kk b o e;have hA':A.units+8<cq:=by lia
   let{c1,i1,rfl,t1,ia1}:=bW ya L;let{c2,i2,rfl,t2,ia2}:=bW hp2 hv2';rw[<-e1,<-e2]at qq eqk;show TS.lt_two (e1:=u7 d1 d2) (e2:=true) (b1:=HT.lexLt (flat d1) (flat d2)) (b2:=false) {o,kk _ _ g,c,n,dd} {o',kk _ _ g',c',n',dd'} rfl (JO L hv2' (by have:=JK ya;lia)) (λ_=>TS.oneLt_tup t1 t2 ia1 ia2 (by lia)) (λeq=>?_) (λ_ z=>by cases z) ?_
   .have ed:=cS (M6 ya) (M6 hp2) eq;have er:=eqk (by rw[ed]);cases er;rw[g]at g';cases g';rw[dd]at dd';injection dd' with e3 _;have e4:=kM aGY e3;erw[aGs]at e4;rw[e4.2.1];show aEq _
   cases z:u7 d1 d2 with
   |false=>show qq
   |true=>have ed:=cS (M6 ya) (M6 hp2) z;rw[ed,TS.lex_irrefl]at qq;show qq
  .subst N;have kk:∀b o,J.heap.get? b=some o->Y.heap.get? b=some o:=λb o e=>k6 b o (k b o e);have sg:∀x∈m,∃p,∃b r,x=.ref b/\IsTup Y.heap b r/\r[0]?=some p/\Y.TypeIs p "tuple":=λx hx=>by let{i,d,hi,U,fv}:=B x hx;let{b,p1,r1,d1,rfl,{o,g,c,n,dd},ya,hv1,e1}:=fv;have L:HV Y.heap p1 d1:=hv1.keeps λb o e _=>kk b o e;let{c1,i1,rfl,{o1,g1,cc1,_},ia1}:=bW ya L;show{_,b,_,rfl,{o,kk _ _ g,c,n,dd},rfl,{o1,g1,cc1}}
   obtain⟨gf,hgf⟩:∃gf:au->au,∀x∈m,∃b r,x=.ref b/\IsTup Y.heap b r/\r[0]?=some (gf x)/\Y.TypeIs (gf x) "tuple":=by show{λx=>open Classical in if z:x∈m then(sg x z).choose else .none,λx hx=>?_};dsimp only;rw[dif_pos hx];show(sg x hx).choose_spec
   show TS.kind_tuples (T:= "tuple") gf hgf (λz=>by rw[z]at h2;simp at h2) (by symm) qq
  subst N;let{qt,p2,ko}:=dU pm st;have hk:∀u d,(∃v,RelV v u/\Rep X.K H1 O v d)->d∈t->NJ J.heap u=S6 d:=by rintro u d ⟨v,rv,rp⟩ U;show jL (QT I1 rp (fc d U) rv)
  have ye:(qt.map S6).Nodup:=(p2.map S6).nodup_iff.mpr nd;have xu:yB S6 qt:=dj (R:=λu d=>∃v,RelV v u/\Rep X.K H1 O v d) ko srt ye λu d h U=>hk u d h (p2.mem_iff.mp U);have e2:qt=qP S6 t:=lX xu (lV nd) (p2.trans (X0 S6 t).symm);subst e2;let{wv,qi,nc}:=B4.ab9 ko;have I2':=I1.kept (h':=h1) (t':=J.toks) k;have I3:=I2'.laid (a:=l) (o:=.lst wv) (h':=h') (t':=J.toks) k2 hl {by rw[nc.length,(X0 S6 t).length_eq];show aAo ve (by symm),gm,n,qi,gl};show{.ref l,_,I3,rfl,q wv _ l sm (I2'.hok.fresh hl) nc}
 rw[kn hc]at q;show q.elim
end
end
section
def CQ:List Int->Int
 |[]=>0
 |a::l=>l.foldl max a
def oV:List Int->Int
 |[]=>0
 |a::l=>l.foldl min a
theorem U0:∀(l:List Int) (a:Int),(l.foldl max a=a\/l.foldl max a∈l)/\a<=l.foldl max a/\∀b∈l,b<=l.foldl max a
 |[],a=>{.inl rfl,aCa _,λb h=>by cases h}
 |c::l,a=>by
  let{d,g,f}:=U0 l (max a c);rw[aEk];show{?_,by lia,λb e=>?_}
  .rcases d with d|d
   .rw[d];rcases aGW a c with q|q
    .show .inr (by rw[Int.max_eq_right q];show .head _)
    show .inl (Int.max_eq_left q)
   show .inr (.tail _ d)
  rcases aAe.mp e with rfl|e
  .lia
  show f b e
theorem T8:∀(l:List Int) (a:Int),(l.foldl min a=a\/l.foldl min a∈l)/\l.foldl min a<=a/\∀b∈l,l.foldl min a<=b
 |[],a=>{.inl rfl,aCa _,λb h=>by cases h}
 |c::l,a=>by
  let{d,g,f}:=T8 l (min a c);rw[aEk];show{?_,by lia,λb e=>?_}
  .rcases d with d|d
   .rw[d];rcases aGW a c with q|q
    .show .inl (Int.min_eq_left q)
    show .inr (by rw[Int.min_eq_right q];show .head _)
   show .inr (.tail _ d)
  rcases aAe.mp e with rfl|e
  .lia
  show f b e
def BB(h:ns≠[]):CQ ns∈ns:=by
 cases ns with
 |nil=>show k7 rfl h
 |cons a l=>
  rcases(U0 l a).1 with q|q
  .change l.foldl max a∈_;rw[q];show .head _
  show .tail _ q
def JS(h:a∈ns):a<=CQ ns:=by
 cases ns with
 |nil=>cases h
 |cons b l=>
  rcases aAe.mp h with rfl|h
  .show(U0 l a).2.1
  show(U0 l b).2.2 a h
def qI(h:ns≠[]):oV ns∈ns:=by
 cases ns with
 |nil=>show k7 rfl h
 |cons a l=>
  rcases(T8 l a).1 with q|q
  .change l.foldl min a∈_;rw[q];show .head _
  show .tail _ q
def xU(h:a∈ns):oV ns<=a:=by
 cases ns with
 |nil=>cases h
 |cons b l=>
  rcases aAe.mp h with rfl|h
  .show(T8 l a).2.1
  show(T8 l b).2.2 a h
def IS:List D->R D
 |[.lst Y]=>match Y0 Y with
  |some a=>if a≠[]then .ok (.int (CQ a))else .bad
  |none=>.bad
 |_=>.bad
def CU:List D->R D
 |[.lst Y]=>match Y0 Y with
  |some a=>if a≠[]then .ok (.int (oV a))else .bad
  |none=>.bad
 |_=>.bad
variable [Tabs]
section
def yH(d:IntsAre its ns)(e:its.toArray=intItems a):∀i,ib a i=ns.getD i 0:=λi=>by
 have b:=nums_intItems a;rw[<-e]at b;rw[show its.toArray.toList=its from rfl,d.numsOf]at b;unfold ib
 nofun
def cw(E:X.calm=true):aW X (.builtin "max") IS:=by
 intro H O k J Q fr r q;match J,q with
 |[.lst Y],q=>
  let{v,rfl,z}:=FQ r;let{p,ws,rfl,l,m}:=z.aa5;erw[IS]at q;cases e:Y0 Y with
  |none=>rw[e]at q;show q.elim
  |some d=>
   rw[e]at q;dsimp only at q;by_cases f:d≠[]
   .rw[km f]at q;rw[O9 e]at m;rw[mW m]at l;show{λk n o=>k=[.ref p]/\n=H/\o=Q,λw s σ n L us o I N ⟨T,U,e3⟩=>?_,rfl,rfl,rfl};subst T U e3;let{u,rfl,ru}:=vals1 N;cases ru;let{its,r',pl,hz}:=I.list l;have g:=DL.O8 r';let{a,h}:=g.allInts.items;have x:=pl.isList;rw[h]at x;have y:a.size=d.length:=by have:=kM Array.size h;rw[aAQ,g.length]at this;simpa[intItems]using this.symm
    have A:0<d.length:=aEa.mpr f;show max_intList (I.ok.hd E) x (by lia) λv h' tk hv hk=>?_;let{t,rfl}:=intItems_at hv;let{g1,B}:=argBest_gt (ib a) (a.size-1);have em:ib a (fo (λi j=>decide (ib a i>ib a j))<|a.size-1)=CQ d:=by
     generalize fo (λi j=>decide (ib a i>ib a j)) (a.size-1)=b at g1 B;have m1:ib a b∈d:=by rw[yH g h,aAp,aAk (by lia)];show aBT _
     have m2:=JS m1;let{j,hj,ej}:=aBh (BB f);have C:=B j (by lia);rw[yH g h j,aAp,aAk hj]at C;have m4:d[j]<=ib a b:=C
     lia
    rw[em];show{.int (CQ d),_,I.kept hk,{t,rfl},q _ _ (Same.refl _) .int}
   rw[kn f]at q;show q.elim
def IQ(E:X.calm=true):aW X (.builtin "min") CU:=by
 intro H O k J Q fr r q;match J,q with
 |[.lst Y],q=>
  let{v,rfl,z}:=FQ r;let{p,ws,rfl,l,m}:=z.aa5;erw[CU]at q;cases e:Y0 Y with
  |none=>rw[e]at q;show q.elim
  |some d=>
   rw[e]at q;dsimp only at q;by_cases f:d≠[]
   .rw[km f]at q;rw[O9 e]at m;rw[mW m]at l;show{λk n o=>k=[.ref p]/\n=H/\o=Q,λw s σ n L us o I N ⟨T,U,e3⟩=>?_,rfl,rfl,rfl};subst T U e3;let{u,rfl,ru}:=vals1 N;cases ru;let{its,r',pl,hz}:=I.list l;have g:=DL.O8 r';let{a,h}:=g.allInts.items;have x:=pl.isList;rw[h]at x;have y:a.size=d.length:=by have:=kM Array.size h;rw[aAQ,g.length]at this;simpa[intItems]using this.symm
    have A:0<d.length:=aEa.mpr f;show min_intList (I.ok.hd E) x (by lia) λv h' tk hv hk=>?_;let{t,rfl}:=intItems_at hv;let{g1,B}:=argBest_lt (ib a) (a.size-1);have em:ib a (fo (λi j=>decide (ib a i<ib a j))<|a.size-1)=oV d:=by
     generalize fo (λi j=>decide (ib a i<ib a j)) (a.size-1)=b at g1 B;have m1:ib a b∈d:=by rw[yH g h,aAp,aAk (by lia)];show aBT _
     have m2:=xU m1;let{j,hj,ej}:=aBh (qI f);have C:=B j (by lia);rw[yH g h j,aAp,aAk hj]at C;have m4:ib a b<=d[j]:=C
     lia
    rw[em];show{.int (oV d),_,I.kept hk,{t,rfl},q _ _ (Same.refl _) .int}
   rw[kn f]at q;show q.elim
def UJ(K:lM)(mg:dM)(x:Str)(ns:List Int):Prop:=∃a d b n e,mg x=some (.ref a)/\K.lookup a=some {.type "tuple",d,.seq b n,e}/\o5 (ns.map V.int) b.toList/\b.size<=sizeLine
omit [Tabs]in
def a0k{K:lM}{mg:dM}{x:Str}{a:a9}{b:Option a9}{n:Nat}{sl:Array (Option au)}{i j k:Int}{t u v:Tok}(d:mg x=some (.ref a))(e:K.lookup a=some {.type "tuple",b,.seq #[.int i t,.int j u,.int k v] n,sl}):UJ K mg x [i,j,k]:=
 {a,b,_,n,sl,d,e,.cons {t,rfl} (.cons {u,rfl} (.cons {v,rfl} .nil)),show 3<=sizeLine by symm}
def xL(c:UJ X.K X.mg x ns)(b:Gl X x<|>1)(d:(x==ma)=false<|>2):PD X (.Name x e) (XS (.tup (ns.map D.int))):=by let{a,k,f,n,l,g,h,i,j}:=c;show MO g h i j b d
end
end
section
variable [Tabs]
section
variable{K:lM}
structure FunC(K:PySem.W.Frag)(x qual:Str)(st:Stmt)(f:Addr)(fd:FuncData)(cd:Addr):Prop where
 ex:∃(oc:Value) (od:Option Addr) (kV doc pm:Value) (an:Option Addr) (ct:Value) (osl:Array (Option Value)),
  fd=PySem.W.fnOf x qual (C1 st) (p5 st) (b9 st) .none kV doc pm an (.ref cd) ct/\K.lookup f=some {oc,od,.func fd,osl}/\PySem.W.codeIn K (.ref cd) qual=true
 kp:PySem.W.keepIn K (.ref f)=true
omit [Tabs]in
def FunC.fn{x qual:Str}{st:cp}{f:a9}{d:dI}{cd:a9}(F:FunC K x qual st f d cd):Fun K x qual st f d:=
 let⟨e,g,kV,a,h,i,j,b,k,l,m⟩:=F.ex
 {{e,g,kV,a,h,i,.ref cd,j,b,k,l,m},F.kp}
omit [Tabs]in
def XY{x qual:Str}{st:cp}{f cd:a9}{h:au}{i d:Option a9}{b:Array (Option au)}{kV a g T ct:au}(l:K.lookup f=some {h,i,.func (PySem.W.fnOf x qual (C1 st) (p5 st) (b9 st) .none kV a g d T ct),b})
  (e:T=.ref cd) (c:PySem.W.codeIn K T qual=true) (k:PySem.W.keepIn K (.ref f)=true):FunC K x qual st f (PySem.W.fnOf x qual (C1 st) (p5 st) (b9 st) .none kV a g d T ct) cd:=by
 subst e;show{{h,i,kV,a,g,d,ct,b,rfl,l,c},k}
def a9o{x qual:Str}{st:cp}{f cd:a9}{i:dI}{N ps:List Str}{k:Nat}{m:List D->R D}{F:Ev->R Out}(n:FunC K x qual st f i cd)(S:FnScope N ps (b9 st))
  (p:∀(A:bt) (a:List Env) (s:aL) (H:Hp) (E:XK),Room k (A.deeper (envOfC qual (b9 st) s.heap.objs.size f (.ref cd)))->bV (QU P w K mg base N qual (b9 st) f (.ref cd) A a s H E) (p5 st) F)
  (t:∀ds d,ds.length=ps.length->m ds=.ok d->F7 (F (l9 N ds))=.ok d):FnOk P w K mg base uF (k+1) f i ps (spD K ps.length m):=by
 let{oc,od,kV,u,pm,an,ct,v,rfl,lk,y}:=n.ex;show zj lk y S (by rintro z H Q E ⟨O,ds,d,r,g,_⟩;rw[r.length];show g) λA a s H z Q E B C=>?_;let{O,ds,d,r,g,I,J,L,e,q}:=C;show{_,uL.nox (p A a s H E B H O),O,_,fT r I J,L,?_};have h:=t ds d g e;cases j:F (l9 N ds)with
 |ok o=>
  rw[j]at h;cases o with
  |rt T=>have b:R.ok T=R.ok d:=h;injection b with b;subst b;show q
  |nx l=>have b:R.ok D.non=R.ok d:=h;injection b with b;subst b;showλag U O' Y _ _=>q .non U Y.same .non
  |bk l=>cases h
  |ct l=>cases h
 |ex x=>nofun
 |bad=>rw[j]at h;cases h
def YI{x qual:Str}{st:cp}{f cd:a9}{b:dI}{N ps:List Str}{k:Nat}{m:List D->R D}{F:Ev->R Out}(e:FunC K x qual st f b cd)(S:FnScope N ps (b9 st))(g:Binds K b ps [])(h:mg x=some (.ref f))
  (i:∀(A:bt) (a:List Env) (s:aL) (H:Hp) (E:XK),Room k (A.deeper (envOfC qual (b9 st) s.heap.objs.size f (.ref cd)))->bV (QU P w K mg base N qual (b9 st) f (.ref cd) A a s H E) (p5 st) F)
  (j:∀ds d,ds.length=ps.length->m ds=.ok d->F7 (F (l9 N ds))=.ok d):t6 P w K mg base (k+1) x ps.length m:=
 {f,b,ps,a9o e S i j,g,e.kp,h}
def rz(P:bc)(w:bM)(K:lM)(mg:dM)(base:cf)(k d:Nat)(x:Str)(M:D->(List D->R D)->(List D->R D)->R D):Prop:=
 ∃g b a,FnOk P w K mg base uF k g b a (spF K (OO P w K mg base d 1) M)/\Binds K b a []/\PySem.W.keepIn K (.ref g)=true/\mg x=some (.ref g)/\a.length=3
def cj{x qual:Str}{st:cp}{f:a9}{b:dI}{N ps:List Str}{k e:Nat}{M:D->(List D->R D)->(List D->R D)->R D}{F:Ev->R Out}(g:Fun K x qual st f b)(S:FnScope N ps (b9 st))(h:ps.length=3)(m:Binds K b ps [])(n:mg x=some (.ref f))
  (o:∀(T:au) (A:bt) (a:List Env) (s:aL) (H:Hp) (E:XK),Room k (A.deeper (envOfC qual (b9 st) s.heap.objs.size f T))->bV (QU P w K mg base N qual (b9 st) f T A a s H E) (p5 st) F)
  (p:∀i j l d,M i j l=.ok d->F7 (F (lI N (OO P w K mg base e 1) i j l))=.ok d):rz P w K mg base (k+1) e x M:=
 {f,b,ps,fnF g S h o p,m,g.kp,n,h}
end
section
def BS(i:Nat){Φ:(List D->R D)->Hp->(a9->Prop)->a9->Prop}(a:OO X.prog X.w X.K X.mg X.base k n=Φ)(d:ES X (e::es) f)(g:AD f n)(h:Room k X.A)(j:X.N[i]?=some x<|>1)(l:zS X.env.scope x<|>5)(m:(x==ma)=false<|>2)(o:(x==md)=false<|>2)(q:a5 (e::es) X.env=(false,cy e X.env)::a5 es X.env<|>1)(r:(cv b (a5 es X.env)).any (·.1)=false<|>1):
  PD X (.Call (.Name x p) (e::es) [] b) (callC Φ i f):=by
 subst a;show WV i d g h j l m o q r
def HS(s:NstOk X k n1)(t:NstOk X k n2)(u:ClosOk X n1 clos1)(v:ClosOk X n2 clos2)(z:∀x b,(x,b)∈clos1++clos2->X.env.cells.lookup x=some b)(B:kY X.mg X.base)(C:X.env.code=.ref c)(E:PySem.W.codeHdIn X.K c H=true)(j:(H,tb)∈Tabs.tbs)(l:(n1.pos,n1.qual)∈tb)(I:(n2.pos,n2.qual)∈tb)(J:∀p∈tb,p.1.line=n1.pos.line->p.1.col=n1.pos.col->p.2=n1.qual)(m:∀p∈tb,p.1.line=n2.pos.line->p.1.col=n2.pos.col->p.2=n2.qual)(L:n1.i≠n2.i)(O:X.N.Nodup)(Q:rz X.prog X.w X.K X.mg X.base T (k+1) x M)(U:Room T X.A)(Y:PD X e f)(yi:∀y,X.fn y=true)(hg:Gl X x<|>1)(gg:(x==ma)=false<|>2)(zl:a5 [e,.Name n1.name h,.Name n2.name a] X.env=(false,cy e X.env)::a5 [.Name n1.name h,.Name n2.name a] X.env<|>1)(n:a5 [.Name n1.name h,.Name n2.name a] X.env=(false,cy (.Name n1.name h) X.env)::a5 [.Name n2.name a] X.env<|>1)(o:a5 [.Name n2.name a] X.env=(false,cy (.Name n2.name a) X.env)::a5 [] X.env<|>1)(bo:(cv q (a5 [.Name n1.name h,.Name n2.name a] X.env)).any (·.1)=false<|>1):
  bV X [n1.stmt,n2.stmt,.Return (some (.Call (.Name x p) [e,.Name n1.name h,.Name n2.name a] [] q)) r] (λρ=>((f ((ρ.set n1.i .no).set n2.i .no)).bind λd1=>(fG n1.js ((ρ.set n1.i .no).set n2.i .no)).bind λw1=>(fG n2.js ((ρ.set n1.i .no).set n2.i .no)).bind λw2=>M d1 (n1.mm w1) (n2.mm w2)).bind λd=>.ok (.rt d)):=by
 let{g,gd,ps,FF,hb,hk,hm,h3}:=Q;show MA s t u v z B C E j l I J m L O FF U hm hk hb h3 Y yi hg gg zl n o bo
end
end
end DL
namespace DL
open PySem L2
def _root_.L2.Room.ad9(r:Room k A):A.units+130<cq:=by have:=r.un;lia
def _root_.L2.Room.ae0(r:Room k A)(h:7<=k):A.units+300<cq:=by have:=r.un;lia
def LW{y:Str}{d:a9}{a:List (Str×a9)}(h:a.lookup y=some d<|>1):∀(x:Str) (b:a9),(x,b)∈[(y,d)]++[(y,d)]->a.lookup x=some b:=by nofun
def IL{sc:gW}{fn:List Str}{x:Str}(h:sc.names.lookup x=some .free)(a:((sc.names.all λp=>p.2 !=.free||fn.contains p.1)=true)<|>3):x∈fn:=by exists (aBG.mp a _<|PySem.mem_of_lookup h)
def JX:cp->Pos
 |.FunctionDef _ _ _ _ _ _ _ _ _ p=>p
 |_=>{0,0,0,0}
end DL
namespace M
open PySem L2 DL
def AM:D->Option G.V
 |.tup [.int a,.int b,.int c]=>some {a,b,c}
 |_=>none
@[simp]def JV(v:G.V):AM (vd v)=some v:=rfl
def NE(h:AM d=some v):d=vd v:=by
 unfold AM at h;split at h
 .cases h;rfl
 cases h
def F5:List D->Option (List G.V)
 |[]=>some []
 |d::a=>match AM d,F5 a with
  |some v,some b=>some (v::b)
  |_,_=>none
@[simp]theorem v5:∀vs:List G.V,F5 (vs.map vd)=some vs:=by
 intro a;cases a with
 |nil=>rfl
 |cons v vs=>rw[aAm,F5,JV,v5 vs]
theorem t8:∀{ds:List D}{vs:List G.V},F5 ds=some vs->ds=vs.map vd:=by
 intro a vs h;cases a with
 |nil=>cases h;rfl
 |cons d ds=>
  unfold F5 at h;split at h
  .rename_i v f b e;cases h;rw[NE b,t8 e];rfl
  cases h
def K8(h:vd u=vd v):u=v:=by
 have:AM (vd u)=AM (vd v):=by rw[h]
 exists this
def KE{u v:List G.V}(h:u.map vd=v.map vd):u=v:=by
 have:F5 (u.map vd)=F5 (v.map vd):=by rw[h]
 exists this
def bB(n:Nat)(J:List G.V):Prop:=(∀P∈J,Sz n P)/\J.length<=1000
def DW:Option G.V->D
 |some v=>vd v
 |none=>.non
def y7:List D->R D
 |[.lst Y]=>match F5 Y with
  |some a=>.ok (DW (G.A7 a))
  |none=>.bad
 |_=>.bad
open Classical in
def D1:List D->R D
 |[.lst Y]=>match F5 Y with
  |some J=>if J≠[]/\bB 1000 J then .ok (.int (G.U5 J))else .bad
  |none=>.bad
 |_=>.bad
open Classical in
def E9:List D->R D
 |[.lst Y]=>match F5 Y with
  |some J=>if bB 1000 J/\G.U5 J=3 then .ok .non else .bad
  |none=>.bad
 |_=>.bad
open Classical in
def x6:List D->R D:=v4 λa b c d=>MX λY=>dN (match F5 Y with
 |some J=>if Sz 10000 {a,b,c}/\bB 1000 J then .ok (.lst ((G.x5 {a,b,c} d J).map vd))else .bad
 |none=>.bad)
open Classical in
def E8:List D->R D:=QF λg=>MX λY=>dN ((v1 λa b c=>v1 λd e f=>dN (match F5 Y with
 |some J=>if Sz 1000 {a,b,c}/\Sz 1000 {d,e,f}/\bB 1000 J/\G.gR (G.b7 {a,b,c} {d,e,f} J).1 then .ok (uM (G.b7 {a,b,c} {d,e,f} J).1 (G.b7 {a,b,c} {d,e,f} J).2)else .bad
 |none=>.bad)) g)
abbrev G6(p:G.V×G.V):D:=.tup [vd p.1,vd p.2]
structure Land(J:List G.V)(m:G.V):Prop where
 good:G.Good J m
 sz:bB 900 J
 few:J.length<=63
 head:J.head?=some m
open Classical in
def G9:List D->R D
 |[.lst Y]=>match F5 Y with
  |some (m::J)=>if Land (m::J) m then .ok (G6 (G.d9 m (m::J)))else .bad
  |_=>.bad
 |_=>.bad
open Classical in
def gK:List D->R D:=v1 λa b c=>v1 λd e f=>v1 λg h i=>v1 λj k l=>dN (
 if Sz 10000 {a,b,c}/\Sz 1000 {d,e,f}/\Sz 1000 {g,h,i}/\Sz 1000 {j,k,l}then .ok (.int (G.turn {a,b,c} {d,e,f} {g,h,i} {j,k,l}))else .bad)
open Classical in
def U3:List D->R D:=v1 λa b c=>MX λY=>dN (match F5 Y with
 |some J=>if Sz 10000 {a,b,c}/\bB 1000 J then .ok (.lst ((G.v8 {a,b,c} J).reverse.map vd))else .bad
 |none=>.bad)
open Classical in
def P6:List D->R D:=v1 λa b c=>MX λY=>dN (match F5 Y with
 |some J=>if Sz 10000 {a,b,c}/\bB 1000 J then .ok (.lst ((G.l7 {a,b,c} J).map vd))else .bad
 |none=>.bad)
def y3:List D->R D
 |[.lst Y]=>match F5 Y with
  |some J=>if J.length<=3000 then .ok (.lst ((G.T4 J).map G6))else .bad
  |none=>.bad
 |_=>.bad
abbrev m8(J:List G.V)(f:G.V×Int):D:=.tup [uM f.1 f.2,.lst ((G.i8 J f).map vd)]
def fL(J:List G.V)(fs:List (G.V×Int)):Prop:=(∀f,f∈fs↔G.IsFace J f.1 f.2)/\yB S6 (fs.map<|m8 J)
open Classical in
def n6(J:List G.V):List (G.V×Int):=if h:∃fs,fL J fs then h.choose else[]
def J8:List D->List D->R D
 |[w],[_]=>.ok w
 |_,_=>.bad
def D4:List D->List D->R D
 |[w],[p]=>x6 [p,w]
 |_,_=>.bad
open Classical in
def I9(d:D) (a b:List D->R D):R D:=match a [.non]with
 |.ok (.lst Y)=>match F5 Y with
  |some (m::J)=>if Land (m::J) m/\(m::J).length<=14/\d=G6 (G.d9 m (m::J))/\a=J8 [.lst Y]/\b=D4 [.lst Y]then .ok (.lst ((n6 (m::J)).map (m8 (m::J))))else .bad
  |_=>.bad
 |_=>.bad
def e9(J:List G.V):List G.V:=(bJ<|J.map vd).filterMap AM
open Classical in
def Q3:List D->R D
 |[.lst Y]=>match F5 Y with
  |some J=>if bB 900 J/\G.j7 J/\(e9 J).length<=14 then .ok (.lst ((n6 (e9 J)).map (m8 (e9 J))))else .bad
  |none=>.bad
 |_=>.bad
def a2w:D->Option (List G.V)
 |.tup [_,.lst Y]=>F5 Y
 |_=>none
def vI:List D->Option (List (List G.V))
 |[]=>some []
 |d::a=>match a2w d,vI a with
  |some v,some b=>some (v::b)
  |_,_=>none
open Classical in
def J0:List D->R D
 |[.lst Y]=>match vI Y with
  |some a=>if a.flatten.length<=3000/\(e9 a.flatten).length<=63 then .ok (.lst ((e9 a.flatten).map vd))else .bad
  |none=>.bad
 |_=>.bad
def B8(J:List G.V):List G.V:=e9 ((n6<|e9 J).flatMap (G.i8<|e9 J))
open Classical in
def bI:List D->R D
 |[.lst Y]=>match F5 Y with
  |some J=>if bB 900 J/\G.j7 J/\(e9 J).length<=14 then .ok (.lst ((B8 J).map vd))else .bad
  |none=>.bad
 |_=>.bad
def ne0(v:G.V):OK (vd v) (.tup [.int 0,.int 0,.int 0])=.ok (.bl (!decide (v=0))):=by
 rw[FD];congr 3;rw[aEp];erw[aAI,beq_iff_eq,decide_eq_true_eq,G.rF]
 nofun
def eq0(v:G.V):XI (vd v) (.tup [.int 0,.int 0,.int 0])=.ok (.bl (decide (v=0))):=by
 rw[a1c];congr 2;rw[aEp];erw[aAI,beq_iff_eq,decide_eq_true_eq,G.rF]
 nofun
def N2(a:G d ρ=.ok ρ1)(b:F ρ1=.ok (.nx ρ2)):P4 G F (d::ds) ρ=P4 G F ds ρ2:=by rw[P4,a];dsimp only;rw[b]
def kJ(a:G d ρ=.ok ρ1)(b:F ρ1=.ok (.rt x)):P4 G F (d::ds) ρ=.ok (.rt x):=by rw[P4,a];dsimp only;rw[b]
theorem gF{d:Type}(rep:d->D)(p:d->Bool)(g:d->D):∀(l:List d),(∀a∈l,∃ρ1,G (rep a) ρ=.ok ρ1/\ft ρ1=.ok (p a)/\(p a=true->fe ρ1=.ok (g a)))->x9 G ft fe ρ (l.map rep)=.ok ((l.filter p).map g):=by
 intro e h;cases e with
 |nil=>rfl
 |cons a l=>
  let{ρ1,f,i,k}:=h a (.head _);rw[aAm,x9,f];dsimp only;rw[i,R.aa0,(gF rep p g l λb j=>h b (.tail _ j))];cases m:p a with
  |false=>rw[kn (by symm),List.filter_cons_of_neg (by lia)]
  |true=>nofun
def gH{b:Type}(rep:b->D)(g:b->D)(l:List b)(h:∀a∈l,∃ρ1,G (rep a) ρ=.ok ρ1/\fe ρ1=.ok (g a)):x9 G (λ_=>.ok true) fe ρ (l.map rep)=.ok (l.map g):=by
 have:=gF rep (λ_=>true) g l λa d=>by let{ρ1,e,f}:=h a d;show{ρ1,e,rfl,λ_=>f}
 rw[this,List.filter_eq_self.mpr λ_ _=>rfl]
def small(h:n<=1000):n<=sizeLine:=aAo h (by symm)
def VN(h:n<=3000):n<=sizeLine:=aAo h (by symm)
def bB.sub(h:bB n J)(b:∀P∈a,P∈J)(d:a.length<=J.length):bB n a:={λP e=>h.1 P (b P e),aAo d h.2}
def bB.mono(h:bB m J)(a:m<=n<|>2):bB n J:={λP b=>(h.1 P b).mono a,h.2}
def a9s(t:Int):(sgn t==0)=decide (t=0):=by
 unfold sgn;by_cases h:0<t
 .rw[km h];simp;lia
 rw[kn h];by_cases a:t<0
 .rw[km a];simp;lia
 rw[kn a];simp;lia
def kE(a:Sz 10000 n)(b:bB 1000 J):x6 [uM n d,.lst (J.map vd)]=.ok (.lst ((G.x5 n d J).map vd)):=by erw[x6,v4,QF,pV,MX,dN,v5];show km {a,b}
def RY(a:J≠[])(b:bB 1000 J):D1 [.lst (J.map vd)]=.ok (.int (G.U5 J)):=by erw[D1,v5];show km {a,b}
def GC(ws:List G.V):y7 [.lst (ws.map vd)]=.ok (DW (G.A7 ws)):=by erw[y7,v5]
def EN(bs:List Bool):fF (bs.map D.bl)=some bs:=by
 induction bs with
 |nil=>rfl
 |cons b bs a=>rw[aAm,fF,a];rfl
def a2m(bs:List Bool):anyR [.lst (bs.map D.bl)]=.ok (.bl (bs.any id)):=by erw[anyR,EN]
def YS(Y:List D):NQ (.lst Y) none (some (-1))=.ok (.lst Y.dropLast):=by
 change R.ok (D.lst<|cutD Y none<|some (-1))=_;unfold cutD HT.sIx;rw[aEQ];simp
 lia
def YG(Y:List D):NQ (.lst Y) (some 1) none=.ok (.lst Y.tail):=by
 change R.ok (D.lst<|cutD Y (some 1) none)=_;unfold cutD HT.sIx;cases Y with
 |nil=>rfl
 |cons a l=>simp
def a2t(Y:List D):NQ (.lst Y) none (some 1)=.ok (.lst (Y.take 1)):=by
 change R.ok (D.lst<|cutD Y none<|some 1)=_;unfold cutD HT.sIx
 nofun
def wz(Y:List D)(a b:D):tY (Y++[a,b]) (-1)=some b:=by
 have d:(Y++[a,b]).length=Y.length+2:=by simp
 unfold tY xk;rw[d,kn (by symm),km (by lia)];change(Y++[a,b])[((-1:Int)+((Y.length+2:Nat):Int)).toNat]?=_;have:((-1:Int)+((Y.length+2:Nat):Int)).toNat=Y.length+1:=by lia
 nofun
def yz(Y:List D)(a b:D):tY (Y++[a,b]) (-2)=some a:=by
 have d:(Y++[a,b]).length=Y.length+2:=by simp
 unfold tY xk;rw[d,kn (by symm),km (by lia)];change(Y++[a,b])[((-2:Int)+((Y.length+2:Nat):Int)).toNat]?=_;have:((-2:Int)+((Y.length+2:Nat):Int)).toNat=Y.length:=by lia
 rw[this,aAC (by lia),Nat.sub_self];rfl
def a5j(a:D)(Y:List D):tY (a::Y) 0=some a:=by rw[W6 (by symm)];rfl
def a7k(a b:D)(Y:List D):tY (a::b::Y) 1=some b:=by rw[W6 (by symm)];rfl
def fy{P Q R:G.V}(h:G.gR (G.j6 P Q R).1):G.cr (Q-P) (R-P)≠0:=λe=>by
 have:(G.j6 P Q R).1=0:=by change G.mI (G.cr (Q-P)<|R-P) _=0;rw[e];rfl
 rw[this]at h;unfold G.gR at h;show k7 h (by symm)
theorem AF:∀{c:List G.V},(G.Y7 n P c).length<=c.length
 |[]=>aAi _
 |[a]=>aAi _
 |b::a::r=>by
  unfold G.Y7;split
  .show aAo (AF (c:=a::r)) (by simp)
  show aAi _
theorem rQ:∀(a c:List G.V),(a.foldl (λc P=>P::G.Y7 n P c) c).length<=a.length+c.length:=by
 intro b c;cases b with
 |nil=>simp
 |cons P a=>show aAo (rQ a _) ?_;have:=AF (n:=n) (P:=P) (c:=c);simp;lia
def vS(n:G.V)(ps:List G.V):(G.v8 n ps).length<=ps.length:=by simpa[G.v8]using rQ ps []
theorem vJ{b β:Type}(f:b->D):∀(Y a:List b),cA (Y.map f) (a.map f)=(Y.zip a).map λp=>D.tup [f p.1,f p.2]
 |[],_=>by simp[cA]
 |_::_,[]=>by simp[cA]
 |x::Y,y::a=>by have:=vJ (β:=β) f Y a;erw[cA]at this⊢;simp[this]
def vk(a:Sz 10000 n)(b:bB 1000 J):U3 [vd n,.lst (J.map vd)]=.ok (.lst ((G.v8 n J).reverse.map vd)):=by erw[U3,v1,QF,pV,MX,dN,v5];show km {a,b}
def IR{n P Q R:G.V}(h:Sz 10000 n)(a:Sz 1000 P)(b:Sz 1000 Q)(d:Sz 1000 R):gK [vd n,vd P,vd Q,vd R]=.ok (.int (G.turn n P Q R)):=km {h,a,b,d}
def W3(a:Sz 1000 A)(b:Sz 1000 B)(d:bB 1000 J)(e:G.gR (G.b7 A B J).1):E8 [.tup [vd A,vd B],.lst (J.map vd)]=.ok (uM (G.b7 A B J).1 (G.b7 A B J).2):=by erw[E8,v1,QF,pV,MX,dN,v5];show km {a,b,d,e}
def iw(a:Sz 10000 n)(b:bB 1000 J):P6 [vd n,.lst (J.map vd)]=.ok (.lst ((G.l7 n J).map vd)):=by erw[P6,v1,QF,pV,MX,dN,v5];show km {a,b}
def UY(h:J.length<=3000):y3 [.lst (J.map vd)]=.ok (.lst ((G.T4 J).map G6)):=by erw[y3,v5];show km h
def zM(h:a.length+b.length<=sizeLine):tR (.lst a) (.lst b)=.ok (.lst (a++b)):=km h
def QA(a b:G.V):HT.lexLt (flat (vd a)) (flat (vd b))=true↔G.f8 (b-a):=by
 change HT.lexLt [a.x,a.y,a.z] [b.x,b.y,b.z]=true↔_;unfold G.f8;erw[HT.lexLt,G.QO,G.WB,G.QN];by_cases d:a.x=b.x
 .by_cases e:a.y=b.y
  .by_cases f:a.z=b.z
   .simp[d,e,f]
   simp[d,e,f];try lia
  simp[d,e];try lia
 simp[d];try lia
def FI{J:List G.V}(h:J.Pairwise λa b=>G.f8 (b-a)):XQ (J.map vd):=aBW.mpr (h.imp λ{a b} q=>(QA a b).mpr q)
def a0r{J:List G.V}(h:XQ (J.map vd)):J.Pairwise λa b=>G.f8 (b-a):=(aBW.mp h).imp λ{a b} q=>(QA a b).mp q
def TQ(J:List G.V):(J.map vd).all cT=true:=aBG.mpr λd a=>by let{v,_,rfl}:=aAj.mp a;rfl
def a2k[Tabs]{m:G.V}{J:List G.V}(h:(m::J).Pairwise λa b=>G.f8 (b-a)):TL [.lst ((m::J).map vd)]=.ok (vd m):=by change(if(m::J).map vd≠[]/\((m::J).map vd).all cT=true then _ else _)=_;rw[km {by simp,TQ _},ZX (FI h) _ (by simp)];rfl
def MH{k:Nat}{P Q R:G.V}(p:Sz k P)(q:Sz k Q)(r:Sz k R):Sz (k+1+(k+1)+1) (G.j6 P Q R).1:=by
 have a:=(q.sub p).cr (r.sub p);by_cases d:G.cr (Q-P) (R-P)=0
 .have:(G.j6 P Q R).1=0:=by change G.mI (G.cr (Q-P)<|R-P) _=0;rw[d];rfl
  nofun
 let{h,i,j}:=G.nN d;have e:=bits_fdiv (b:=(G.B5 (G.cr (Q-P)<|R-P):Int)) a.1;have f:=bits_fdiv (b:=(G.B5 (G.cr (Q-P)<|R-P):Int)) a.2.1;have g:=bits_fdiv (b:=(G.B5 (G.cr (Q-P)<|R-P):Int)) a.2.2;rw[qE h]at e f g;show{e,f,g}
def CO{P Q R:G.V}(p:Sz 1000 P)(q:Sz 1000 Q)(r:Sz 1000 R):Sz 2003 (G.j6 P Q R).1:=MH p q r
def BE{A B:G.V}{J:List G.V}(p:Sz 1000 A)(q:Sz 1000 B)(r:bB 1000 J):Sz 2003 (G.b7 A B J).1:=by
 unfold G.b7;rcases G.mL J 0 A with h|h
 .show CO p q (r.1 _ h)
 rw[h];show CO p q p
def a6w(m:G.V):vd (m+G.kk)=.tup [.int m.x,.int m.y,.int (m.z+1)]:=by simp[G.kk]
def RJ(h:Sz 900 m):Sz 1000 (m+G.kk):=(h.add {by symm,by symm,by symm}).mono
def WT(h:bB k J):bB k (G.x5 n d J):=h.sub (λP a=>(G.d5.mp a).1) (aGt _ _)
def TR{f:Type}{l:List f}{a b:f}(d:a∈l)(e:b∈l)(h:a≠b):∃x y r,l=x::y::r:=by
 match l,d,e with
 |[x],d,e=>show k7 ((aAU.mp d).trans (aAU.mp e).symm) h
 |x::y::r,_,_=>show{x,y,r,rfl}
open Classical in
def SG{N:List (D×D)}{k v a:D}:a∈(gO N k v).map (·.1)↔a∈N.map (·.1)\/a=k:=by
 unfold gO;split
 .rename_i h;rw[aAK];have:((λx=>x.1)∘λp:D×D=>if p.1=k then(p.1,v)else p)=λp=>p.1:=by funext p;erw[aGP];split<;>rfl
  rw[this];show{.inl,λq=>q.elim id λe=>by rw[e];show h}
 rw[aBk,aAO];simp
def VQ{N:List (D×D)}{k v:D}:(gO N k v).length<=N.length+1:=by
 unfold gO;split
 .simp
 simp
def YV{p q:G.V×G.V}(h:G6 p=G6 q):p=q:=by injection h with h;injection h with b a;injection a with a _;show aDA (K8 b) (K8 a)
def EC(p:G.V×G.V):J6 7 (G6 p)=true/\rP (G6 p)=true:={rfl,rfl}
def ffC:Ev->R Bool:=λa=>((((iD 5 a).bind λd=>R.ok [d]).bind kU).bind λx=>gtR x (D.int 0)).bind OP
def ffS:Ev->R Out:=λa=>
 A3 ((M1 9 a).bind λb=>BK 4 a b (D.bl true)) λa=>((((iD 9 a).bind λx=>V6 x (D.int 1)).bind λd=>(((iD 9 a).bind λx=>V6 x (D.int 0)).bind λd=>R.ok [d]).bind λe=>R.ok (d::e)).bind uJ).bind (zF 5 a)
theorem IP{a0 a1 a2 a3 a6 a7 a8:Sl}:∀(a:List (G.V×G.V)) (N:List (D×D)) (W:List (G.V×G.V)) (g:Sl),N.length+a.length<=10000->W.length+a.length<=10000->
  ∃f b,P4 (λd ρ=>R.ok (aEr ρ 9 (Sl.v d))) ffS (a.map G6) [a0,a1,a2,a3,.d N,.o (W.map G6),a6,a7,a8,g]=.ok (.nx [a0,a1,a2,a3,.d f,.o ((W++a.map λq=>(q.2,q.1)).map G6),a6,a7,a8,b])/\
   (∀e:G.V×G.V,G6 e∈f.map (·.1)↔G6 e∈N.map (·.1)\/e∈a)/\f.length<=N.length+a.length:=by
 intro i N W g j n;cases i with
 |nil=>show{N,g,by simp,λe=>by simp,by simp}
 |cons q a=>
  erw[aAr]at j n;have w:=VQ (N:=N) (k:=G6 q) (v:=.bl true);let{f,b,e,m,l}:=IP a (gO N (G6 q)<|.bl true) (W++[(q.2,q.1)]) (.v (G6 q)) (by lia) (by simp;lia);show{f,b,?_,λx=>?_,by simp;lia}
  .rw[aAm];show(N2 (ρ2:=[a0,a1,a2,a3,.d (gO N (G6 q)<|.bl true),.o ((W++[(q.2,q.1)]).map G6),a6,a7,a8,.v (G6 q)]) rfl ?_).trans ?_
   .have p:N.length<=sizeLine:=aAo (show N.length<=10000 by lia) (by symm);have r:(W.map G6).length<sizeLine:=by rw[aAg];show aDC (show W.length<=10000 by lia) (by symm)
    have s:BK 4 [a0,a1,a2,a3,.d N,.o (W.map G6),a6,a7,a8,.v (G6 q)] (G6 q) (.bl true)=.ok (.nx [a0,a1,a2,a3,.d (gO N (G6 q)<|.bl true),.o (W.map G6),a6,a7,a8,.v (G6 q)]):=by change(if _ then _ else _)=_;rw[km {(EC q).1,(EC q).2,p}];rfl
    have t:zF 5 [a0,a1,a2,a3,.d (gO N (G6 q)<|.bl true),.o (W.map G6),a6,a7,a8,.v (G6 q)] (G6 (q.2,q.1))=.ok (.nx [a0,a1,a2,a3,.d (gO N (G6 q)<|.bl true),.o ((W++[(q.2,q.1)]).map G6),a6,a7,a8,.v (G6 q)]):=by change(if _ then _ else _)=_;rw[km r,aBk];rfl
    change A3 ((R.ok<|G6 q).bind λu=>BK 4 [a0,a1,a2,a3,.d N,.o (W.map G6),a6,a7,a8,.v (G6 q)] u (D.bl true)) _=_;rw[R.aa0,s];show t
   rw[e];simp
  rw[m x,SG,aAe];constructor
  .rintro((h|h)|h)
   .show .inl h
   .show .inr (.inl (YV h))
   show .inr (.inr h)
  rintro(h|h|h)
  .show .inl (.inl h)
  .show .inl (.inr (by rw[h]))
  show .inr h
section
variable(Φ:(List D->R D)->Hp->(a9->Prop)->a9->Prop)
def ffB:Ev->R Out:=λa=>
 A3 ((FU 5 a).bind λz=>R.ok (Out.nx<|aEr z.snd 6<|Sl.v z.fst)) λa=>
  ((M1 6 a).bind (rA 4 a)).bind λt=>
   if t=true then
    A3
     ((((M1 6 a).bind λd=>((callC Φ 1 (o8 (λa=>(iD 6 a).bind λx=>V6 x (D.int 0)) P9) a).bind λd=>R.ok [d]).bind λb=>R.ok (d::b)).bind E8).bind λd=>R.ok (Out.nx<|aEr a 7<|Sl.v d))
     λa=>
     A3
      (((((iD 7 a).bind λx=>NQ x none (some 3)).bind λd=>((callC Φ 2 (o8 (M1 7) P9) a).bind λd=>R.ok [d]).bind λb=>R.ok (d::b)).bind P6).bind λd=>R.ok (Out.nx<|aEr a 8<|Sl.v d))
      λa=>
      A3 ((((M1 7 a).bind λd=>((M1 8 a).bind λd=>R.ok [d]).bind λb=>R.ok (d::b)).bind uJ).bind (zF 3 a))
       λa=>((((M1 8 a).bind λd=>R.ok [d]).bind y3).bind pZ).bind λb=>P4 (λd a=>R.ok (aEr a 9<|Sl.v d)) ffS b a
   else R.ok (Out.nx a)
def CI(L:D) (e:G.V×G.V) (fs:List D) (N:List (D×D)) (W:List (G.V×G.V)) (a b c d:Sl):Ev:=
 [Sl.v (G6 e),Sl.c (J8 [L]) (Φ<|J8 [L]),Sl.c (D4 [L]) (Φ<|D4 [L]),.o fs,.d N,.o (W.map G6),a,b,c,d]
end
def AV{Φ:(List D->R D)->Hp->(a9->Prop)->a9->Prop}{i:Nat}{f:Ev->R (List D)}{ρ:Ev}{m:List D->R D}{ds:List D}(h:ρ[i]?=some (.c m (Φ m)))(a:f ρ=.ok ds):callC Φ i f ρ=m ds:=by
 unfold callC
 nofun
def iP(J:List G.V)(fs:List (G.V×Int)):Nat:=(fs.map λf=>(G.i8 J f).length).sum
def gJ(J:List G.V)(fs:List (G.V×Int))(f:G.V×Int):iP J (fs++[f])=iP J fs+(G.i8 J f).length:=by simp[iP]
def TK{J:List G.V}{m:G.V}(h:Land J m):Sz 1000 (G.d9 m J).1/\Sz 1000 (G.d9 m J).2:=by
 have a:=h.sz.1 m h.good.mem;let{j,e,f,g,i}:=G.CL h.good.solid h.good.mem h.good.least;unfold G.d9;dsimp only;split
 .show{a.mono,RJ a}
 let{x,y,r,b}:=TR e g i;rw[b];have q:∀z∈x::y::r,Sz 1000 z:=λz d=>by rw[<-b]at d;show(h.sz.1 z (G.d5.mp d).1).mono
 show{q x (.head _),q y (.tail _ (.head _))}
def cx{J:List G.V}{m:G.V}(h:Land J m){fs:List (G.V×Int)}{b:G.V×G.V->Prop}{W:List (G.V×G.V)}(L:G.LInv J (G.d9 m J) fs b W){p:G.V×G.V}(d:p∈W):Sz 1000 p.1/\Sz 1000 p.2:=by
 rcases L.wt p d with⟨f,g,i⟩|⟨_,e⟩
 .have S:=(L.face f g).aa2 h.good.ord;have a:=S.aa1.mp i;show{(h.sz.1 _ (G.d5.mp a.q).1).mono,(h.sz.1 _ (G.d5.mp a.p).1).mono}
 rw[e];show TK h
def VG{J:List G.V}{m:G.V}(h:Land J m){f:G.V×Int}(a:G.IsFace J f.1 f.2):(G.i8 J f).length<=J.length:=by have S:=a.aa2 h.good.ord;show G.P7 S.aa4 λx b=>(G.d5.mp<|S.aa3 b).1
def CG{J:List G.V}{f g:G.V×Int}(h:S6 (m8 J f)=S6 (m8 J g)):f=g:=by have h:[f.1.x,f.1.y,f.1.z,f.2]=[g.1.x,g.1.y,g.1.z,g.2]:=h;erw[aGs,and_true]at h;show aDA (G.ext h.1 h.2.1 h.2.2.1) h.2.2.2
def uY{d β:Type}{f:d->β}(g:∀a b,f a=f b->a=b){l:List d}(h:l.Nodup):(l.map f).Nodup:=aBW.mpr (h.imp λ{a b} n e=>n (g a b e))
def YU{Φ:(List D->R D)->Hp->(a9->Prop)->a9->Prop}{J:List G.V}{m:G.V}(hz:Land J m){fs:List (G.V×Int)}{N:List (D×D)}{W:List (G.V×G.V)}{a b c d:Sl}(L:G.LInv J (G.d9 m J) fs (λe=>G6 e∈N.map (·.1)) W)
  (hk:N.length<=iP J fs) (hW:W.length<=1+iP J fs) {n:Nat} (hn:W.length+(J.length*J.length-iP J fs)<n+1) (ai:W≠[]):
  ∃k l W' a' b' c' d',ffB Φ (CI Φ (.lst (J.map vd)) (G.d9 m J) (fs.map (m8 J)) N W a b c d)=.ok (.nx (CI Φ (.lst (J.map vd)) (G.d9 m J) (k.map (m8 J)) l W' a' b' c' d'))/\
   G.LInv J (G.d9 m J) k (λe=>G6 e∈l.map (·.1)) W'/\l.length<=iP J k/\W'.length<=1+iP J k/\W'.length+(J.length*J.length-iP J k)<n:=by
 obtain⟨rest,p,rfl⟩:∃rest p,W=rest++[p]:={W.dropLast,W.getLast ai,(List.dropLast_concat_getLast ai).symm};have r:=G.fY hz.good.solid hz.good.ord L.nd L.face;have s:=hz.few;have nn:J.length*J.length<=63*63:=aEG s s;have hsum:iP J fs+J.length<=J.length*J.length:=r;have E:(rest++[p]).length=rest.length+1:=by simp
 rw[E]at hW hn;have H:FU 5 (CI Φ (.lst (J.map vd)) (G.d9 m J) (fs.map<|m8 J) N (rest++[p]) a b c d)=.ok (G6 p,CI Φ (.lst (J.map vd)) (G.d9 m J) (fs.map<|m8 J) N rest a b c d):=by change(match((rest++[p]).map G6)[((rest++[p]).map G6).length-1]? with|some d=>_|none=>_:R (D×Ev))=_;rw[aBk];simp;rfl
 have I:rA 4 (CI Φ (.lst (J.map vd)) (G.d9 m J) (fs.map<|m8 J) N rest (.v (G6 p)) b c d) (G6 p)=.ok (!(open Classical in decide (G6 p∈N.map (·.1)))):=by unfold rA;rw[show(CI Φ (.lst (J.map vd)) (G.d9 m J) (fs.map<|m8 J) N rest (.v (G6 p)) b c d)[4]?=some (.d N)from rfl];dsimp only;rw[km (EC p)]
 have B:bB 1000 J:=hz.sz.mono;unfold ffB;rw[H];show∃k l W' a' b' c' d',A3 (R.ok<|Out.nx<|CI Φ (.lst (J.map vd)) (G.d9 m J) (fs.map<|m8 J) N rest (.v (G6 p)) b c d) _=_/\_;rw[C4];rw[show M1 6 (CI Φ (.lst (J.map vd)) (G.d9 m J) (fs.map<|m8 J) N rest (.v (G6 p)) b c d)=.ok (G6 p)from rfl,R.aa0,I,R.aa0];by_cases t:G6 p∈N.map (·.1)
 .show{fs,N,rest,.v (G6 p),b,c,d,?_,G.TH hz.good L rfl t,hk,by lia,by lia};rw[lg t];rfl
 have u:p∈rest++[p]:=by simp
 let{C,n2,n3}:=G.AE hz.good L u t;let{w,y}:=cx hz L u;have ab:=W3 w y B C.prim;have i:=BE w y B;obtain⟨f,ef⟩:∃f,G.b7 p.1 p.2 J=f:={_,rfl};rw[ef]at C n2 n3 ab i;have po:=kE (d:=f.2) i.mono B;have O:=iw (n:=f.1) (J:=G.x5 f.1 f.2 J) i.mono (WT B);have rl:=VG hz C;have O:P6 [vd f.1,.lst ((G.x5 f.1 f.2 J).map vd)]=.ok (.lst ((G.i8 J f).map vd)):=O;have pr:=UY (J:=G.i8 J f) (by lia);have Q:=λ{wk'}{W'} h1 h2=>G.VZ hz.good L (rest:=rest) (p:=p) rfl t (walked':=wk') (waiting':=W') h1 h2;rw[ef]at Q;have T:(fs++[f]).Nodup:=by
  have:=(Q (wk':=λe=>G6 e∈N.map (·.1)\/e∈G.T4 (G.i8 J f)) (W':=rest++(G.T4<|G.i8 J f).map λq=>(q.2,q.1)) (λe=>Iff.rfl) (λq=>by
   rw[aAO,aAj];constructor
   .rintro(h|⟨x,U,rfl⟩)
    .show .inl h
    show .inr U
   rintro(h|h)
   .show .inl h
   show .inr {_,h,rfl}))
  show this.nd
 have j:iP J (fs++[f])+J.length<=J.length*J.length:=G.fY hz.good.solid hz.good.ord T λg hg=>by
  rcases aAO.mp hg with z|z
  .show L.face g z
  rw[aAU.mp z];show C
 rw[gJ]at j;have clen:(G.T4<|G.i8 J f).length=(G.i8 J f).length:=by unfold G.T4;simp;lia
 let{l,Y,run,A,len'}:=IP (a0:=Sl.v (G6<|G.d9 m J)) (a1:=Sl.c (J8 [.lst (J.map vd)]) (Φ<|J8 [.lst (J.map vd)])) (a2:=Sl.c (D4 [.lst (J.map vd)]) (Φ<|D4 [.lst (J.map vd)])) (a3:=.o ((fs++[f]).map (m8 J))) (a6:=.v (G6 p)) (a7:=.v (uM f.1 f.2)) (a8:=.v (.lst ((G.i8 J f).map vd))) (G.T4<|G.i8 J f) N rest d (by lia) (by lia);show{fs++[f],l,rest++(G.T4<|G.i8 J f).map (λq=>(q.2,q.1)),.v (G6 p),.v (uM f.1 f.2),.v (.lst ((G.i8 J f).map vd)),Y,?_,Q A (λq=>?_),?_,?_,?_}
 .have ap:zF 3 (CI Φ (.lst (J.map vd)) (G.d9 m J) (fs.map<|m8 J) N rest (.v (G6 p)) (.v (uM f.1 f.2)) (.v (.lst ((G.i8 J f).map vd))) d) (m8 J f)=.ok (.nx (CI Φ (.lst (J.map vd)) (G.d9 m J) ((fs++[f]).map (m8 J)) N rest (.v (G6 p)) (.v (uM f.1 f.2)) (.v (.lst ((G.i8 J f).map vd))) d)):=by change(if(fs.map<|m8 J).length<sizeLine then _ else _)=_;have h3:=G.oF hz.good.solid hz.good.ord L.face;have h3:3*fs.length<=iP J fs:=h3;rw[km (by rw[aAg];show aDC (show fs.length<=4000 by lia) (by symm)),aBk];rfl
  have ca:callC Φ 1 (o8 (λρ=>(iD 6 ρ).bind λx=>V6 x (D.int 0)) P9) (CI Φ (.lst (J.map vd)) (G.d9 m J) (fs.map<|m8 J) N rest (.v (G6 p)) b c d)=.ok (.lst (J.map vd)):=by show(AV (m:=J8 [.lst (J.map vd)]) (ds:=[vd p.1]) rfl rfl).trans rfl
  have ct:callC Φ 2 (o8 (M1 7) P9) (CI Φ (.lst (J.map vd)) (G.d9 m J) (fs.map<|m8 J) N rest (.v (G6 p)) (.v (uM f.1 f.2)) c d)=.ok (.lst ((G.x5 f.1 f.2 J).map vd)):=by show(AV (m:=D4 [.lst (J.map vd)]) (ds:=[uM f.1 f.2]) rfl rfl).trans po
  have sl:NQ (uM f.1 f.2) none (some 3)=.ok (vd f.1):=rfl;rw[lb t];erw[Bool.not_false,if_true];rw[ca,R.aa0,R.aa0,R.aa0,R.aa0,ab,R.aa0];change A3 (R.ok<|Out.nx<|CI Φ (.lst (J.map vd)) (G.d9 m J) (fs.map<|m8 J) N rest (.v (G6 p)) (.v (uM f.1 f.2)) c d) _=_;rw[C4];rw[ct];change A3 ((((R.ok<|uM f.1 f.2).bind λx=>NQ x none (some 3)).bind λd=>(R.ok [D.lst ((G.x5 f.1 f.2 J).map vd)]).bind λds=>R.ok (d::ds)).bind P6|>.bind λd=>R.ok (Out.nx<|aEr _ 8<|Sl.v d)) _=_;rw[R.aa0,sl,R.aa0,R.aa0,R.aa0,O,R.aa0];change A3 (R.ok<|Out.nx<|CI Φ (.lst (J.map vd)) (G.d9 m J) (fs.map<|m8 J) N rest (.v (G6 p)) (.v (uM f.1 f.2)) (.v (.lst ((G.i8 J f).map vd))) d) _=_;rw[C4];change A3 (zF 3 (CI Φ (.lst (J.map vd)) (G.d9 m J) (fs.map<|m8 J) N rest (.v (G6 p)) (.v (uM f.1 f.2)) (.v (.lst ((G.i8 J f).map vd))) d)<|m8 J f) _=_;rw[ap,C4];change((y3 [.lst ((G.i8 J f).map vd)]).bind pZ).bind _=_;rw[pr,R.aa0];show run
 .rw[aAO,aAj];constructor
  .rintro(h|⟨x,U,rfl⟩)
   .show .inl h
   show .inr U
  rintro(h|h)
  .show .inl h
  show .inr {_,h,rfl}
 .rw[gJ];lia
 .rw[gJ,aAv,aAg];lia
 rw[gJ,aAv,aAg];lia
def ZP(J:List G.V)(f:G.V×Int):List (G.V×Int)->List (G.V×Int)
 |[]=>[f]
 |x::Y=>if HT.lexLt (S6 (m8 J f)) (S6 (m8 J x))=true then f::x::Y else x::ZP J f Y
def KW(J:List G.V)(fs:List (G.V×Int)):List (G.V×Int):=fs.foldr (ZP J) []
theorem CS(J:List G.V)(f:G.V×Int):∀Y:List (G.V×Int),yC S6 (m8 J f) (Y.map (m8 J))=(ZP J f Y).map (m8 J)
 |[]=>rfl
 |x::Y=>by
  unfold ZP;rw[aAm,yC];split
  .rfl
  rw[aAm,CS J f Y]
theorem gE(J:List G.V):∀fs:List (G.V×Int),qP S6 (fs.map (m8 J))=(KW J fs).map (m8 J)
 |[]=>rfl
 |f::fs=>by change yC S6 (m8 J f) (qP S6 (fs.map (m8 J)))=_;rw[gE J fs,CS];rfl
def mD(h:m8 J f=m8 J g):f=g:=CG (by rw[h])
theorem gU:∀{a b:List (G.V×Int)},a.map (m8 J)=b.map (m8 J)->a=b:=by
 intro e d h;cases e with
 |nil=>
  cases d with
  |nil=>rfl
  |cons=>cases h
 |cons x a=>
  cases d with
  |nil=>cases h
  |cons y b=>injection h with f g;rw[mD f,gU g]
def LF:f∈KW J fs↔f∈fs:=by
 have h:=(X0 S6<|fs.map<|m8 J).mem_iff (a:=m8 J f);rw[gE]at h;constructor
 .intro q;let{g,b,e}:=aAj.mp (h.mp<|aBV q);rw[<-mD e];show b
 intro q;let{g,b,e}:=aAj.mp (h.mpr<|aBV q);rw[<-mD e];show b
def vZ[Tabs]{J:List G.V}{fs:List (G.V×Int)}(h:fs.Nodup):((fs.map (m8 J)).map S6).Nodup:=by rw[aAK];show uY (λa b e=>CG e) h
def X5(h:yB k l):l.Nodup:=h.imp λ{a b} q e=>by subst e;rw[TS.lex_irrefl]at q;cases q
def M3{J:List G.V}{fs:List (G.V×Int)}(h:(fs.map (m8 J)).Nodup):fs.Nodup:=(aBW.mp h).imp λ{a b} n e=>n (by rw[e])
def CY{J:List G.V}{fs d:List (G.V×Int)}(a:fL J fs)(b:fL J d):fs=d:=by have e:=M3 (X5 a.2);have g:=M3 (X5 b.2);show gU (lX a.2 b.2 (((aCS e g).mpr λf=>by rw[a.1,b.1]).map _))
def qR(h:fL J fs):n6 J=fs:=by unfold n6;have q:∃fs,fL J fs:={fs,h};rw[dif_pos q];show CY q.choose_spec h
def wM[Tabs]{J:List G.V}{fs:List (G.V×Int)}(a:fs.Nodup)(h:∀n d,(n,d)∈fs↔G.IsFace J n d):fL J (KW J fs):=by show{λf=>by rw[LF];show h f.1 f.2,?_};rw[<-gE];show lV (vZ a)
def a6e[Tabs]{Φ:(List D->R D)->Hp->(a9->Prop)->a9->Prop}{J:List G.V}{m:G.V}(hz:Land J m)(j:J.length<=14):
  F7 (A3 (T1 ffC (ffB Φ) 5000 (CI Φ (.lst (J.map vd)) (G.d9 m J) [] [] [G.d9 m J] .no .no .no .no)) λρ=>(((iD 3 ρ).bind sfR).bind λds=>R.ok (D.lst ds)).bind λd=>R.ok (Out.rt d))=.ok (.lst ((n6 J).map (m8 J))):=by
 show MC (Iv:=λn ρ=>∃fs N W a b c d,ρ=CI Φ (.lst (J.map vd)) (G.d9 m J) (fs.map<|m8 J) N W a b c d/\G.LInv J (G.d9 m J) fs (λe=>G6 e∈N.map (·.1)) W/\N.length<=iP J fs/\W.length<=1+iP J fs/\W.length+(J.length*J.length-iP J fs)<n) ?_ ?_ ?_ (by rintro ρ ⟨_,_,_,_,_,_,_,_,_,_,_,h⟩;lia)
 .rintro n ρ ⟨fs,N,W,a,b,c,d,rfl,L,r,s,t⟩;by_cases g:W=[]
  .subst g;show .inl rfl
  show .inr {?_,?_}
  .have u:(0:Int)<((W.map G6).length:Int):=by have:=aEa.mpr g;rw[aAg];lia
   change(R.ok<|D.bl<|decide ((0:Int)<((W.map G6).length:Int))).bind OP=_;rw[lg u];rfl
  let{v,w,x,y,z,A,B,e,C,E,k,l}:=YU (Φ:=Φ) (a:=a) (b:=b) (c:=c) (d:=d) hz L r s t g;show{_,e,v,w,x,y,z,A,B,rfl,C,E,k,l}
 .show{[],[],[G.d9 m J],.no,.no,.no,.no,rfl,?_,aAi _,aAi _,?_}
  .have:=G.EB hz.good;show{this.face,this.nd,λe=>?_,this.cl,this.wt,this.ne};rw[<-this.wk e];simp
  have H:J.length*J.length<=14*14:=aEG j j;change 1+(J.length*J.length-0)<5000
  lia
 rintro n ρ ⟨fs,N,W,a,b,c,d,rfl,L,r,s,t⟩ i;have o:W=[]:=by
  cases W with
  |nil=>rfl
  |cons p W=>have i:(R.ok<|D.bl<|decide ((0:Int)<(((p::W).map G6).length:Int))).bind OP=.ok false:=i;rw[lg (by simp;try lia)]at i;cases i
 subst o;let{g,I}:=G.WM hz.good L;have O:=wM L.nd I;rw[qR O];have Q:=G.fY hz.good.solid hz.good.ord L.nd L.face;have q:=G.oF hz.good.solid hz.good.ord L.face;have H:J.length*J.length<=14*J.length:=Nat.mul_le_mul_right _ j;have T:(fs.map<|m8 J).length<=63:=by rw[aAg];lia
 have U:sfR (.lst (fs.map<|m8 J))=.ok ((KW J fs).map (m8 J)):=by change(if _ then _ else _)=_;rw[km {aBG.mpr λd Y=>by let{f,_,rfl}:=aAj.mp Y;rfl,vZ L.nd,T},gE]
 change F7 ((((R.ok<|D.lst<|fs.map<|m8 J).bind sfR).bind λds=>R.ok (D.lst ds)).bind λd=>R.ok (Out.rt d))=_;rw[R.aa0,U];rfl
theorem KU:∀{ds:List D},(∀d∈ds,∃v,d=vd v)->(ds.filterMap AM).map vd=ds:=by
 intro a h;cases a with
 |nil=>rfl
 |cons d ds=>let{v,rfl}:=h d (.head _);rw[List.filterMap_cons_some (JV v),aAm,KU λd b=>h d (.tail _ b)]
section
variable [Tabs]
def VW(J:List G.V):∀d∈J.map vd,cT d=true:=λd a=>by let{v,_,rfl}:=aAj.mp a;rfl
def W7(J:List G.V):bJ (J.map vd)=(e9 J).map vd:=by unfold e9;show(KU λd a=>?_).symm;let{v,_,rfl}:=aAj.mp ((L5 (VW J) d).mp a);show{v,rfl}
def z7(J:List G.V):(e9 J).Pairwise λa b=>G.f8 (b-a):=a0r (by rw[<-W7];show bE _)
def UQ{v:G.V}{J:List G.V}:vd v∈J.map vd↔v∈J:=by rw[aAj];show{by rintro⟨u,a,e⟩;rw[<-K8 e];show a,λh=>{v,h,rfl}}
def t9{J:List G.V}{v:G.V}:v∈e9 J↔v∈J:=by rw[<-UQ,<-W7,L5 (VW J),UQ]
def cM(J:List G.V):(e9 J).Nodup:=(z7 J).imp λ{a b} h e=>by subst e;show G.J3 h
def oG{a b:List G.V}(g:a.Pairwise λa b=>G.f8 (b-a))(i:b.Pairwise λa b=>G.f8 (b-a))(h:∀v,v∈a↔v∈b):a=b:=by show KE (jK (FI g) (FI i) λd=>?_);rw[aAj,aAj];show{λ⟨v,f,e⟩=>{v,(h v).mp f,e},λ⟨v,f,e⟩=>{v,(h v).mpr f,e}}
def SK(h:(e9 J).length<=63):ssR (.lst (J.map vd))=.ok ((e9 J).map vd):=by change(if _ then _ else _)=_;rw[km {TQ J,by rw[W7,aAg];show h},W7]
def vW(h:G.j7 a)(d:∀v,v∈a->v∈b):G.j7 b:=by let{A,f,B,g,C,i,D,j,e}:=h;show{A,d A f,B,d B g,C,d C i,D,d D j,e}
def a3u(h:G.j7 J):G.U5 J=3:=by
 by_cases e:G.U5 J=3
 .show e
 show k7 h (G.QY e)
def jD(J:List G.V):(e9 J).length<=J.length:=G.P7 (cM J) λv a=>t9.mp a
def bZ(f:bB 900 J)(g:G.j7 J)(d:(e9 J).length<=63):∃m r,e9 J=m::r/\Land (m::r) m:=by
 have a:G.j7 (e9 J):=vW g λv i=>t9.mpr i;cases e:e9 J with
 |nil=>rw[e]at a;let{A,j,_}:=a;cases j
 |cons m r=>
  show{m,r,rfl,?_};have b:=z7 J;rw[e]at a d b;show{{a,b,.head _,λX k=>?_},{λP l=>f.1 P (t9.mp (by rw[e];show l)),by lia},d,rfl};rcases aAe.mp k with h|h
  .show .inl h
  show .inr ((aAu.mp b).1 X h)
def cz(a:bB 1000 J)(b:G.j7 J):E9 [.lst (J.map vd)]=.ok .non:=by erw[E9,v5];show km {a,a3u b}
def a7i(h:Land (m::J) m):G9 [.lst ((m::J).map vd)]=.ok (G6 (G.d9 m (m::J))):=by erw[G9,v5];show km h
def a2g(h:Land (m::J) m)(a:(m::J).length<=14):I9 (G6 (G.d9 m (m::J))) (J8 [.lst ((m::J).map vd)]) (D4 [.lst ((m::J).map vd)])=.ok (.lst ((n6 (m::J)).map (m8 (m::J)))):=by erw[I9,show J8 [.lst ((m::J).map vd)] [.non]=.ok (.lst ((m::J).map vd))from rfl,v5];show km {h,a,rfl,rfl,rfl}
def AY(a:bB 900 J)(b:G.j7 J)(d:(e9 J).length<=14):Q3 [.lst (J.map vd)]=.ok (.lst ((n6 (e9 J)).map (m8 (e9 J)))):=by erw[Q3,v5];show km {a,b,d}
def iy(a:bB 900 J)(b:G.j7 J)(d:(e9 J).length<=14):bI [.lst (J.map vd)]=.ok (.lst ((B8 J).map vd)):=by erw[bI,v5];show km {a,b,d}
omit [Tabs]in
theorem a7m{d:Type}:∀l:List d,∃b:List d,b.Nodup/\∀x,x∈b↔x∈l
 |[]=>{[],aCY,λ_=>Iff.rfl}
 |a::l=>by
  let{b,f,h}:=a7m l;by_cases g:a∈l
  .show{b,f,λx=>by rw[h,aAe];show{.inr,λq=>q.elim (λe=>by rw[e];show g) id}}
  show{a::b,aAZ.mpr {λz=>g ((h a).mp z),f},λx=>by rw[aAe,aAe,h]}
def L3(h:Land J m)(o:J.length<=14):fL J (n6 J):=by
 classical
 let{fs,g,a}:=a7m ((G.cands J).filter λf=>decide (G.IsFace J f.1 f.2));have i:∀n d,(n,d)∈fs↔G.IsFace J n d:=λn d=>by
  rw[a,aCp];constructor
  .nofun
  intro q;show{?_,lg q};let{A,j,B,k,C,l,_,e}:=G.wN q;rw[<-e];show aBe.mpr {A,j,aBe.mpr {B,k,aAj.mpr {C,l,rfl}}}
 have b:=wM g i;rw[qR b];show b
theorem oD:∀(Y:List D) (rs:List (List G.V)) (B:List G.V) (x y:Sl),vI Y=some rs->B.length+rs.flatten.length<=3000->
  ∃f g,P4 (fC 2 (F4 (λd ρ=>R.ok (aEr ρ 2 (Sl.v d))) (F4 (λd ρ=>R.ok (aEr ρ 3 (Sl.v d))) kW))) (λρ=>(M1 3 ρ).bind (XU 1 ρ)) Y [a,.o (B.map vd),x,y]=.ok (.nx [a,.o ((B++rs.flatten).map vd),f,g]):=by
 intro j rs B x y h k;cases j with
 |nil=>cases h;show{x,y,by simp}
 |cons d Y=>
  unfold vI at h;split at h
  .rename_i v l b m;cases h;obtain⟨p,i,rfl,n⟩:∃p i,d=.tup [p,.lst i]/\F5 i=some v:=by
    unfold a2w at b;split at b
    .show{_,_,rfl,b}
    cases b
   have q:=t8 n;subst q;rw[List.flatten_cons,aAv]at k;let{f,g,e}:=oD Y l (B++v) (.v p) (.v (.lst (v.map vd))) m (by rw[aAv];lia);show{f,g,?_};have r:(B.map vd).length+(v.map vd).length<=sizeLine:=by rw[aAg,aAg];show VN (by lia)
   show(N2 (ρ1:=[a,.o (B.map vd),.v p,.v (.lst (v.map vd))]) (ρ2:=[a,.o ((B++v).map vd),.v p,.v (.lst (v.map vd))]) rfl ?_).trans ?_
   .change(if(B.map vd).length+(v.map vd).length<=sizeLine then _ else _)=_;rw[km r,aBk];rfl
   rw[e,List.flatten_cons,aED]
  cases h
theorem oJ(J:List G.V):∀fs:List (G.V×Int),vI (fs.map (m8 J))=some (fs.map (G.i8 J))
 |[]=>rfl
 |f::fs=>by rw[aAm,vI,oJ J fs,show a2w (m8 J f)=some (G.i8 J f)from v5 _];rfl
def EO{J:List G.V}{fs:List (G.V×Int)}(a:(fs.flatMap (G.i8 J)).length<=3000)(b:(e9 (fs.flatMap (G.i8 J))).length<=63):J0 [.lst (fs.map (m8 J))]=.ok (.lst ((e9 (fs.flatMap (G.i8 J))).map vd)):=by have e:(fs.map<|G.i8 J).flatten=fs.flatMap (G.i8 J):=rfl;erw[J0,oJ];show km {a,b}
def tP(d:J.Pairwise λa b=>G.f8 (b-a))(e:G.IsFace J f.1 f.2)(h:X∈G.i8 J f):X∈J:=(G.d5.mp<|(e.aa2 d).aa3 h).1
def PU(g:bB 900 J)(i:G.j7 J)(a:(e9 J).length<=14)(h:X∈B8 J):X∈J:=by let{m,r,e,L}:=bZ g i (by lia);unfold B8 at h;rw[t9,aBe]at h;let{f,b,d}:=h;rw[e]at b d a;have:=tP L.good.ord (((L3 L a).1 f).mp b) d;rw[<-e,t9]at this;show this
def wD(L:Land J m)(a:J.length<=14):((n6 J).flatMap (G.i8 J)).length<=200/\(e9 ((n6 J).flatMap (G.i8 J))).length<=14:=by
 have b:=L3 L a;have g:=G.fY L.good.solid L.good.ord (M3<|X5 b.2) λf d=>(b.1 f).mp d;have i:=aEG a a;constructor
 .rw[List.length_flatMap]
  lia
 show aAo (G.P7 (cM _) λv e=>?_) a;rw[t9,aBe]at e;let{f,d,h}:=e;show tP L.good.ord ((b.1 f).mp d) h
end
instance Bd.k63:Bd 1000003 20:=⟨by symm⟩
instance Bd.k79:Bd 7919 13:=⟨by symm⟩
instance Bd.k48:Bd 48611 16:=⟨by symm⟩
instance Bd.k12:Bd 1000000000000 40:=⟨by symm⟩
instance Bd.k20:Bd 100000000000000000000 67:=⟨by symm⟩
def R7(h:0<b):eV (.int a) (.int b)=.ok (.int (a.fmod b)):=sH (by omega)
def nH(h:0<b)(d:b<1000000000000000):T7 (.int a) (.int b)=.ok (.int (a.fdiv b)):=aX {by omega,f9 (y6 (n:=60) (by omega) (by omega))}
def w5{a b:Int}(h:0<b):0<=a.fmod b/\a.fmod b<b:=by have g:=(PyProof.Rows.fdiv_fmod_facts a b).2.2.1 h;omega
def L9{a b:Int}{n:Nat}(h:0<b)(d:bits b<=n):bits (a.fmod b)<=n:=bits_fmod (by omega) d
def f6(a:r=.ok (.nx ρ))(b:F7 (F ρ)=x):F7 (A3 r F)=x:=by rw[a];show b
def N6(a:r=.ok (.rt d)):F7 (A3 r F)=.ok d:=by rw[a];rfl
def a9r{n:Nat}(h:n<=1000000):fP [.int (n:Int)]=.ok ((aBz n).map λ(k:Nat)=>D.int (k:Int)):=by
 change(if tM 0 (n:Int) 1 then R.ok (yL 0 1<|jN 0 n 1)else R.bad)=_;rw[km {by symm,by symm,by symm,by symm,by omega,by omega}];have e:jN 0 (n:Int) 1=n:=by
  unfold jN;split
  .simp
  omega
 unfold yL
 nofun
def cI(Y:List D)(k:Nat):Int:=match Y[k]? with
 |some (.int i)=>i
 |_=>0
def E6:List D->R D
 |[.lst Y,.int k]=>if 0<=k/\k<=1000 then .ok (BI (λ_=>0) Y k)else .bad
 |_=>.bad
def UN(a:dZ 1048576 Y)(k:Nat)(h:k<=1000):E6 [.lst Y,.int (k:Int)]=.ok (.int (cI Y k))/\bits (cI Y k)<=1048576:=by
 have e:E6 [.lst Y,.int (k:Int)]=.ok (BI (λ_=>0) Y k):=km {by omega,by omega};rw[e];unfold BI cI;rw[aBI];cases q:Y[k]? with
 |none=>show{rfl,by symm}
 |some d=>let{i,rfl,b}:=a d (aAs q);show{rfl,b}
def ez:Int:=1000000000000
def M12:Int:=2000000000001
def xB(c:Int):G.V:={(c*1000003+ez).fmod M12-ez,(c*c*7919+ez).fmod M12-ez,(c*c*c+ez).fmod M12-ez}
def VI(c:Int):Sz 50 (xB c):=by have k:∀z:Int,bits (z.fmod M12-ez)<=50:=λz=>f9 (bits_sub (bits_fmod (by symm) (by symm)) (show bits ez<=45 by symm));show{k _,k _,k _}
def pM:List D->R D
 |[.int c]=>if bits c<=2000000 then .ok (vd (xB c))else .bad
 |_=>.bad
def eU(c:Int):Int×Int×Int:=
 if(c.fdiv 7).fmod 2=1 then((1+(c.fdiv 14).fmod 3)*1000000+1,(1+(c.fdiv 42).fmod 3)*10000000+3,(1+(c.fdiv 126).fmod 3)*100000000+9)
 else(1+(c.fdiv 14).fmod 3,1+(c.fdiv 42).fmod 3,1+(c.fdiv 126).fmod 3)
def xI(c:Int):(0<(eU c).1/\(eU c).1<1000000000)/\(0<(eU c).2.1/\(eU c).2.1<1000000000)/\(0<(eU c).2.2/\(eU c).2.2<1000000000):=by have d:=w5 (a:=c.fdiv 14) (b:=3) (by symm);have e:=w5 (a:=c.fdiv 42) (b:=3) (by symm);have f:=w5 (a:=c.fdiv 126) (b:=3) (by symm);unfold eU;split<;>(dsimp only;omega)
def PJ(a b c:Int):List G.V:=(aBz 8).map λ(k:Nat)=>{(k:Int).fmod 2*a,((k:Int).fdiv 2).fmod 2*b,(k:Int).fdiv 4*c}
def FW(a b c:Int):List G.V:=[{a,0,0},{0-b,0,0},{0,b,0},{0,0-c,0},{0,0,c},{0,0,0-a}]
def FE(a b c:Int):List G.V:=[{0,0,0},{a,0,0},{0,b,0}]++[{0+c,0,a+b},{a+c,0,a+b},{0+c,b,a+b}]
def GJ(n:Nat)(a b c:Int):List G.V:=(aBz n).map (λ(k:Nat)=>{(k:Int),(k:Int)*(k:Int),0})++[{a,b,c}]
def HK(c e:Int):G.V:=if c.fmod 7=5\/(c.fmod 7=6/\e.fmod 2=1)then xB (e.fdiv 2)else{e.fmod 7-3,(e.fdiv 7).fmod 7-3,(e.fdiv 49).fmod 7-3}
def uW(a b c:Int):List G.V:=[{0,0,0},{a,0,0},{0,b,0},{0,0,c}]
def N4(c:Int)(t:List Int):List G.V:=
 if c.fmod 7=0 then PJ (eU c).1 (eU c).2.1 (eU c).2.2
 else if c.fmod 7=1 then FW (eU c).1 (eU c).2.1 (eU c).2.2
 else if c.fmod 7=2 then FE (eU c).1 (eU c).2.1 (eU c).2.2
 else if c.fmod 7=3 then GJ (3+(c.fdiv 378).fmod 8).toNat (eU c).1 (eU c).2.1 (eU c).2.2
 else uW (eU c).1 (eU c).2.1 (eU c).2.2++t.map (HK c)
def bH(Y:List D):List Int:=((Y.drop 4).take 5).map intD
open Classical in
def GM:List D->R D
 |[.lst Y]=>if dZ 1048576 Y then .ok (.lst ((N4 (cI Y 0) (bH Y)).map vd))else .bad
 |_=>.bad
def KP:Int:=100000000000000000000
def XJ:Int:=200000000000000000001
def KB(c:Int):Int:=if c.fmod 2=0 then 3 else 1000000
def dJ(c f:Int)(P:G.V):G.V:=
 let x:=P.x+(c.fdiv 4).fmod (KB c)*P.y
 let y:=P.y-((c*c).fdiv 16).fmod (KB c)*P.z
 let z:=P.z+((c*48611).fdiv 4).fmod (KB c)*x
 let a:=if(c.fdiv 2).fmod 2=1 then z else x
 let b:=if(c.fdiv 2).fmod 2=1 then x else z
 {a+(f*48611+KP).fmod XJ-KP,y+(f*f*7919+KP).fmod XJ-KP,b+(f*f*f+KP).fmod XJ-KP}
open Classical in
def pL:List D->R D
 |[.tup [.int a,.int b,.int c],.lst Y]=>if dZ 1048576 Y/\Sz 100 {a,b,c}then .ok (vd (dJ (cI Y 1) (cI Y 2) {a,b,c}))else .bad
 |_=>.bad
def WD(Y:List D)(i j:Nat)(h:i<=j):NQ (.lst Y) (some (i:Int)) (some (j:Int))=.ok (.lst ((Y.drop i).take (j-i))):=by
 change R.ok (D.lst<|cutD Y (some (i:Int))<|some (j:Int))=_;unfold cutD;rw[HT.sIx_nat,HT.sIx_nat];congr 2;by_cases a:i<=Y.length
 .rw[aGn a];by_cases b:j<=Y.length
  .rw[aGn b]
  rw[aGj (by omega),aBN (by simp),aBN (by simp;omega)]
 rw[aGj (by omega),aGj (by omega),List.drop_eq_nil_of_le (by omega:Y.length<=i)];simp
def mK(b:dZ 1048576 Y):(Y.drop 4).take 5=(bH Y).map D.int/\(bH Y).length<=5/\∀e∈bH Y,bits e<=1048576:=by
 have sub:∀d∈(Y.drop 4).take 5,d∈Y:=λd a=>aDQ (aEY a);show{?_,by unfold bH;rw[aAg];show List.length_take_le _ _,λe f=>?_}
 .unfold bH;have:∀l:List D,(∀d∈l,∃i,d=.int i)->l=(l.map intD).map D.int:=λl h=>by
   induction l with
   |nil=>rfl
   |cons d l g=>let{i,rfl}:=h d (.head _);rw[aAm,aAm,<-g λd a=>h d (.tail _ a)];rfl
  show this _ λd a=>by let{i,e,_}:=b d (sub d a);show{i,e}
 let{d,a,rfl}:=aAj.mp f;let{i,rfl,j}:=b d (sub d a);show j
def yw(c:Int):∃n:Nat,3+(c.fdiv 378).fmod 8=(n:Int)/\n<=10/\(3+(c.fdiv 378).fmod 8).toNat=n:=by grind
def SX(c:Int):V6 (.lst [.int 3,.int 1000000]) (.int (c.fmod 2))=.ok (.int (KB c))/\0<KB c/\bits (KB c)<=20:=by
 have h:=w5 (a:=c) (b:=2) (by symm);unfold KB;by_cases d:c.fmod 2=0
 .rw[km d,d];show{rfl,by symm,by symm}
 rw[kn d,show c.fmod 2=1 by omega];show{rfl,by symm,by symm}
def lU{J:List G.V}{A B C D:G.V}(a:A∈J)(b:B∈J)(d:C∈J)(e:D∈J)(h:G.i7 (B-A) (C-A) (D-A)≠0):G.j7 J:={A,a,B,b,C,d,D,e,h}
def LN{a b c:Int}(d:0<a)(f:0<b)(g:0<c):G.j7 (PJ a b c):=by
 have m:∀k<8,(⟨((k:Nat):Int).fmod 2*a,((k:Int).fdiv 2).fmod 2*b,(k:Int).fdiv 4*c⟩:G.V)∈PJ a b c:=λk h=>aAj.mpr {k,aBs.mpr h,rfl};show lU (m 0 (by symm)) (m 1 (by symm)) (m 2 (by symm)) (m 4 (by symm)) ?_;have:∀x:Int,x=a*(b*c)->x≠0:=λx e=>by rw[e];show aHa (aAy d<|aAy f g)
 apply this;have i:((0:Nat):Int).fmod 2=0:=rfl;have j:((1:Nat):Int).fmod 2=1:=rfl;have l:((2:Nat):Int).fmod 2=0:=rfl;have n:((4:Nat):Int).fmod 2=0:=rfl;have o:(((0:Nat):Int).fdiv 2).fmod 2=0:=rfl;have p:(((1:Nat):Int).fdiv 2).fmod 2=0:=rfl;have q:(((2:Nat):Int).fdiv 2).fmod 2=1:=rfl;have r:(((4:Nat):Int).fdiv 2).fmod 2=0:=rfl;simp[G.i7,G.c6]
def OE{a b c:Int}(g:0<a)(d:0<b)(f:0<c):G.j7 (FW a b c):=by
 show lU (A:={a,0,0}) (B:={0-b,0,0}) (C:={0,b,0}) (D:={0,0,c}) (by simp[FW]) (by simp[FW]) (by simp[FW]) (by simp[FW]) ?_;have:∀x:Int,x=-((a+b)*(b*c))->x≠0:=λx e=>by
  have:=aAy (show 0<a+b by lia) (aAy d f)
  lia
 apply this;simp[G.i7,G.c6];grind
def LX{a b c:Int}(d:0<a)(f:0<b)(g:0<c):G.j7 (FE a b c):=by
 show lU (A:={0,0,0}) (B:={a,0,0}) (C:={0,b,0}) (D:={0+c,0,a+b}) (by simp[FE]) (by simp[FE]) (by simp[FE]) (by simp[FE]) ?_;have:∀x:Int,x=a*(b*(a+b))->x≠0:=λx e=>by
  have:=aAy d (aAy f (show 0<a+b by lia))
  lia
 apply this;simp[G.i7,G.c6]
def NH{n:Nat}(f:3<=n){a b c:Int}(g:0<c):G.j7 (GJ n a b c):=by
 have m:∀k<n,(⟨((k:Nat):Int),(k:Int)*(k:Int),0⟩:G.V)∈GJ n a b c:=λk d=>aBl _ (aAj.mpr {k,aBs.mpr d,rfl});show lU (m 0 (by lia)) (m 1 (by lia)) (m 2 (by lia)) (D:={a,b,c}) (by simp[GJ]) ?_;have:∀x:Int,x=2*c->x≠0:=λx e=>by lia
 apply this;simp[G.i7,G.c6]
 lia
def MT{a b c:Int}(d:0<a)(f:0<b)(g:0<c){l:List G.V}:G.j7 (uW a b c++l):=by
 show lU (A:={0,0,0}) (B:={a,0,0}) (C:={0,b,0}) (D:={0,0,c}) (by simp[uW]) (by simp[uW]) (by simp[uW]) (by simp[uW]) ?_;have:∀x:Int,x=a*(b*c)->x≠0:=λx e=>by
  have:=aAy d (aAy f g)
  lia
 apply this;simp[G.i7,G.c6]
def GT(c:Int)(t:List Int):G.j7 (N4 c t):=by
 let{{a,e},{b,f},{c0,g}}:=xI c;unfold N4;split
 .show LN a b c0
 split
 .show OE a b c0
 split
 .show LX a b c0
 split
 .let{n,h,i,d}:=yw c;rw[d];show NH (by lia) c0
 show MT a b c0
def zU(c:Int)(A:t.length<=5):(∀P∈N4 c t,Sz 80 P)/\(N4 c t).length<=11:=by
 let{{B,C},{E,H},{c0,I}}:=xI c;have g:bits (eU c).1<=40:=y6 (by lia) (by lia);have j:bits (eU c).2.1<=40:=y6 (by lia) (by lia);have m:bits (eU c).2.2<=40:=y6 (by lia) (by lia);generalize u:(eU c).1=a at*
 generalize v:(eU c).2.1=b at*
 generalize w:(eU c).2.2=e at*
 have d:bits 0<=80:=by decide
 have p:∀{x:Int},bits x<=40->bits (0-x)<=80:=λh=>f9 (bits_sub (n:=40) (by symm) h);unfold N4;rw[u,v,w];split
 .show{λP f=>?_,by unfold PJ;rw[aAg,List.length_range];symm};let{k,q,rfl}:=aAj.mp f;have r:=aBs.mp q;show{f9 (bits_mul (L9 (n:=3) (by symm) (by symm)) g),f9 (bits_mul (L9 (n:=3) (by symm) (by symm)) j),f9 (bits_mul (bits_fdiv (n:=10) (y6 (by lia) (by lia))) m)}
 split
 .show{λP f=>?_,by change 6<=11;symm};erw[FW,aAe,aAR,or_false]at f;rcases f with rfl|rfl|rfl|rfl|rfl|rfl
  .show{f9 g,d,d}
  .show{p j,d,d}
  .show{d,f9 j,d}
  .show{d,p m,d}
  .show{d,d,f9 m}
  show{d,d,p g}
 split
 .show{λP f=>?_,by change 6<=11;symm};erw[FE,aBF,aDN,aAe,aAR,or_false]at f;have l:bits (a+b)<=80:=f9 (bits_add g j);have o:bits (0+e)<=80:=by grind
  rcases f with rfl|rfl|rfl|rfl|rfl|rfl
  .show{d,d,d}
  .show{f9 g,d,d}
  .show{d,f9 j,d}
  .show{o,d,l}
  .show{(f9<|bits_add g m),d,l}
  show{o,f9 j,l}
 split
 .let{n,J,L,y}:=yw c;rw[y];show{λP f=>?_,by unfold GJ;rw[aAv,aAg,List.length_range];simp;omega};rcases aAO.mp f with f|f
  .let{k,q,rfl}:=aAj.mp f;have r:=aBs.mp q;have bk:bits (k:Int)<=10:=y6 (by lia) (by grind);show{f9 bk,f9 (bits_mul bk bk),d}
  rw[aAU.mp f];show{f9 g,f9 j,f9 m}
 show{λP f=>?_,by rw[aAv,aAg];simp[uW];lia};rcases aAO.mp f with f|f
 .erw[uW,aAe,aAR,or_false]at f;rcases f with rfl|rfl|rfl|rfl
  .show{d,d,d}
  .show{f9 g,d,d}
  .show{d,f9 j,d}
  show{d,d,f9 m}
 let{i,N,rfl}:=aAj.mp f;unfold HK;split
 .show(VI _).mono
 have s:∀z:Int,bits (z.fmod 7-3)<=80:=λz=>f9 (bits_sub (n:=10) (L9 (by symm) (by symm)) (by symm));show{s _,s _,s _}
def oT(s t u:Int)(a:Bool)(P:G.V):G.V:=
 let x:=P.x+s*P.y
 let y:=P.y-t*P.z
 let z:=P.z+u*x
 if a then⟨z,y,x⟩else⟨x,y,z⟩
def IU(k f:Int):∃(s t u:Int) (g:Bool) (o:G.V),(∀P,dJ k f P=oT s t u g P+o)/\bits s<=20/\bits t<=20/\bits u<=20/\Sz 80 o:=by
 let{_,a,b}:=SX k;have d:∀z:Int,bits (z.fmod XJ-KP)<=80:=λz=>f9 (bits_sub (n:=70) (L9 (by symm) (by symm)) (by symm));show{(k.fdiv 4).fmod (KB k),((k*k).fdiv 16).fmod (KB k),((k*48611).fdiv 4).fmod (KB k),decide ((k.fdiv 2).fmod 2=1),{(f*48611+KP).fmod XJ-KP,(f*f*7919+KP).fmod XJ-KP,(f*f*f+KP).fmod XJ-KP},λP=>?_,L9 a b,L9 a b,L9 a b,{d _,d _,d _}};unfold dJ oT;by_cases e:(k.fdiv 2).fmod 2=1
 .erw[e,if_true,decide_true];show (by apply G.ext<;>simp<;>lia)
 erw[e,if_false,decide_false];show (by apply G.ext<;>simp<;>lia)
def zP(s t u:Int)(a:Bool)(P Q:G.V):oT s t u a P-oT s t u a Q=oT s t u a (P-Q):=by
 unfold oT;cases a
 .show G.ext (by simp;grind) (by simp;grind) (by simp;grind)
 show G.ext (by simp;grind) (by simp;grind) (by simp;grind)
def YK(s t u:Int)(a:Bool)(A B C:G.V):G.i7 (oT s t u a A) (oT s t u a B) (oT s t u a C)=(if a then-1 else 1)*G.i7 A B C:=by
 unfold oT;cases a
 .simp[G.i7,G.c6];grind
 simp[G.i7,G.c6];grind
def lS(P Q o:G.V):P+o-(Q+o)=P-Q:=(by apply G.ext<;>simp<;>lia)
def MS(k f:Int){J:List G.V}(h:G.j7 J):G.j7 (J.map (dJ k f)):=by
 let{s,t,u,b,o,e,_}:=IU k f;let{A,d,B,g,C,i,D,j,a}:=h;have m:∀X∈J,dJ k f X∈J.map (dJ k f):=λX l=>aBV l;show lU (m A d) (m B g) (m C i) (m D j) ?_;rw[e,e,e,e,lS,lS,lS,zP,zP,zP,YK];cases b
 .exists a
 exists a
def QV(k f:Int)(h:Sz 100 P):Sz 900 (dJ k f P):=by
 let{s,t,u,b,o,e,i,j,l,m}:=IU k f;rw[e];have p:Sz 400 (oT s t u b P):=by
  unfold oT;have a:bits (P.x+s*P.y)<=200:=f9 (bits_add (n:=120) (f9 h.1)<|f9<|bits_mul i h.2.1);have d:bits (P.y-t*P.z)<=200:=f9 (bits_sub (n:=120) (f9 h.2.1)<|f9<|bits_mul j h.2.2);have g:bits (P.z+u*(P.x+s*P.y))<=300:=f9 (bits_add (n:=220) (f9 h.2.2)<|f9<|bits_mul l a);cases b
  .show{f9 a,f9 d,f9 g}
  show{f9 g,f9 d,f9 a}
 show(p.add m.mono).mono
section
variable [Tabs]
def qN{J:List G.V}(h:bB 900 J)(i:G.j7 J)(d:(e9 J).length<=14):∀X,X∈B8 J↔∃f:G.V×Int,G.IsFace (e9 J) f.1 f.2/\X∈G.i8 (e9 J) f:=λX=>by let{m,r,e,L}:=bZ h i (by lia);unfold B8;rw[t9,aBe];rw[e]at d⊢;have g:=L3 L d;show{by rintro⟨f,a,b⟩;show{f,(g.1 f).mp a,b},by rintro⟨f,a,b⟩;show{f,(g.1 f).mpr a,b}}
def fA{l:List G.V}(h:l.Pairwise λa b=>G.f8 (b-a)):e9 l=l:=oG (z7 _) h λv=>t9
def OH{J:List G.V}(k:bB 900 J)(l:G.j7 J)(o:(e9 J).length<=14):G.j7 (B8 J)/\bB 900 (B8 J)/\e9 (B8 J)=B8 J/\(B8 J).length<=14/\B8 (B8 J)=B8 J/\∀n d,G.IsFace (B8 J) n d↔G.IsFace (e9 J) n d:=by
 have q:=qN k l o;have h:(B8 J).Pairwise λa b=>G.f8 (b-a):=z7 _;have p:G.j7 (e9 J):=vW l λv i=>t9.mpr i;have s:=z7 J;let{m,r,e,L}:=bZ k l (by lia);have t:fL (e9 J) (n6<|e9 J):=by have g:=o;rw[e]at g⊢;show L3 L g
 have x:(B8 J).length<=14:=by have g:=o;unfold B8;rw[e]at g⊢;show(wD L g).2
 have y:n6 (e9 J)≠[]:=λz=>by
  let{A,N,_}:=p;have:∃f:G.V×Int,G.IsFace (e9 J) f.1 f.2:=by have j:=L;rw[<-e]at j;have:=G.jF j.good.solid j.good.ord j.good.mem j.good.least;show{_,this}
  let{f,u}:=this;have:=(t.1 f).mpr u;rw[z]at this;cases this
 let{C,E}:=aFL _ y;have B:=G.JN p s h q ((t.1 C).mp E);have sz:bB 900 (B8 J):={λP H=>k.1 P (PU k l o H),by lia};have w:=fA h;show{B,sz,w,x,?_,λn d=>G.oj p s h q _ y t.1};show oG (z7 _) h λv=>?_;have I:=qN sz B (by rw[w];show x) v;change v∈B8 (B8 J)↔_;rw[I,w];constructor
 .rintro⟨f,u,i⟩;show tP h u i
 showλi=>G.VO p s h q i
end
end M
namespace DL
open PySem PySem.Spec L2
def mj{K:Params->lM}{P c:a9}{tb:List (Pos×Str)}{a:List a9}(b:P∈a)(d:∀w:bM,PySem.W.codeHdIn (K w.params) c P=true):∀p∈[(P,tb)],p.1∈a/\∃c,∀w:bM,PySem.W.codeHdIn (K w.params) c p.1=true:=λp e=>by rw[aAU.mp e];show{b,c,d}
def Got(K:lM)(x:Str)(st:cp):Prop:=∃f a,PySem.W.nsIn K be x=some (some<|.ref f)/\Fun K x x st f a
def YE(K:lM)(x:Str)(st:cp)(b:a9):Prop:=∃f d a,PySem.W.nsIn K be x=some (some<|.ref f)/\PySem.W.codeHdIn K a b=true/\FunC K x x st f d a
def Y6(K:lM)(mg:dM)(x:Str)(st:cp):Prop:=∃f a,mg x=some (.ref f)/\Fun K x x st f a
def a8c(K:lM)(mg:dM)(x:Str)(st:cp)(b:a9):Prop:=∃f d a,mg x=some (.ref f)/\PySem.W.codeHdIn K a b=true/\FunC K x x st f d a
section
variable{kV doc pm T ct:au}
def a1t(a:PySem.W.nsIn K be x=some (some (.ref f)))(l:K.lookup f=some {d,e,.func (PySem.W.fnOf x x (C1 st) (p5 st) (b9 st) .none kV doc pm g T ct),b})
 (c:PySem.W.codeIn K T x=true) (k:PySem.W.keepIn K (.ref f)=true):Got K x st:={f,_,a,RN l c k}
def bz(a:PySem.W.nsIn K be x=some (some (.ref f)))(l:K.lookup f=some {g,h,.func (PySem.W.fnOf x x (C1 st) (p5 st) (b9 st) .none kV doc pm i T ct),b})
 (c:PySem.W.codeIn K T x=true) (k:PySem.W.keepIn K (.ref f)=true) (e:T=.ref cd) (n:PySem.W.codeHdIn K cd d=true):YE K x st d:={f,_,cd,a,n,XY l e c k}
def Got.def(g:Got K x st)(X:K.In h)(G:h.Ns be mg):Y6 K mg x st:=by let{f,d,a,b}:=g;show{f,d,PySem.W.mg_of X G a,b}
def YE.def(g:YE K x st d)(X:K.In h)(G:h.Ns be mg):a8c K mg x st d:=by let{f,e,i,a,b}:=g;show{f,e,i,PySem.W.mg_of X G a,b}
def B6(a:sc.kind=.function<|>1)(b:sc.isCoroutine=false<|>1)(d:sc.isGenerator=false<|>1)(e:N.Nodup<|>3)(f:N.take ps.length=ps<|>1)(g:(∀x∈ps,sc.names.lookup x=some .local\/sc.names.lookup x=some .cell)<|>3)(h:(∀y∈sc.names,y.2≠.free)<|>3):FnScope N ps sc:={a,b,d,e,f,g,h}
variable [Tabs]
def k8(g:Y6 K mg x st)(S:FnScope N ps (b9 st))(i:∀{f:a9}{T:au}{A:bt}{a:List Env}{s:aL}{H:Hp}{E:XK},Room k (A.deeper (aBE x (b9 st) s.heap.objs.size f T))->(A.deeper (aBE x (b9 st) s.heap.objs.size f T)).units+64<cq->(A.deeper (aBE x (b9 st) s.heap.objs.size f T)).units+130<cq->N.Nodup->
  bV (QU P w K mg base N x (b9 st) f T A a s H E) (p5 st) F) (j:∀ds d,ds.length=ps.length->m ds=.ok d->F7 (F (l9 N ds))=.ok d) (l:∀(kV doc pm:au) (n:Option a9) (T ct:au) (b:List au),b.length=ps.length->bindArgs (PySem.W.fnOf x x (C1 st) (p5 st) (b9 st) .none kV doc pm n T ct) {b,[]}=pure (ps.zip b):=by
  intro _ _ _ _ _ _ b o;rcases b with _|⟨_,_|⟨_,_|⟨_,_|⟨_,_|⟨_,_|⟨_,_|⟨_,_⟩⟩⟩⟩⟩⟩⟩<;>first|rfl|show k7 o (by simp)):t6 P w K mg base (k+1) x ps.length m:=by
 let{f,q,p,h}:=g;show a3i h S (h.binds l) p (λT A a s H E e=>i e e.units e.ad9 S.nd) j
end
def tq(x:D)(a:List D):Bool:=a.any λy=>u7 y x
def inR(n:Bool):D->D->R D
 |.tup Y,.lst a=>if x4 a<=40/\x4 Y<=30 then .ok (.bl (tq (.tup Y) a !=n))else .bad
 |.lst Y,.lst a=>if x4 a<=40/\x4 Y<=30 then .ok (.bl (tq (.lst Y) a !=n))else .bad
 |_,_=>.bad
section
variable [Tabs]
open Classical in
def gw(K:lM) (H:Hp) (O:a9->Prop) (a:D) (u:au):Bool:=decide (∃y d,RelV y u/\Rep K H O y d/\u7 d a=true)
open Classical in
def SM(I:Inv X b k H s)(r:Rep X.K H O y d)(f:RelV y u):gw X.K H O g u=u7 d g:=by
 by_cases h:u7 d g=true
 .rw[h];show lg {y,d,f,r,h}
 rw[Bool.eq_false_iff.mpr h];show lb λ⟨l,m,a,i,j⟩=>h ?_;have e:=RelV.inj f a;subst e;rw[Rep.inj I r i];show j
theorem EI(I:Inv X i y H s)(k:Rep X.K H z x f)(l:RelV x v):∀{vs:List V}{a:List D}{g:List au},Reps X.K H O vs a->o5 vs g->A.units+x4 a<cq->A.units+C6 f<cq->
  (∀u∈g,SeqAt.EqAt A s u v (gw X.K H O f u))/\g.any (gw X.K H O f)=tq f a:=by
 intro _ _ _ o m n e;cases o with
 |nil=>cases m;show{λu n=>(by cases n),rfl}
 |@cons _ d _ a h t=>
  cases m with
  |cons r p=>
   have B:C6 d<=x4 (d::a):=pS (j:=0) rfl;have C:x4 a<=x4 (d::a):=by rw[x4];show Nat.le_max_right _ _
   let{q,w}:=EI I k l t p (by lia) e;show{λu b=>?_,?_}
   .rcases aAe.mp b with rfl|b
    .rw[SM I h r];show OZ I h k r l (by lia) e
    show q u b
   rw[List.any_cons,w,SM I h r];rfl
end
section
variable [Tabs]
def DJ(hu:X.A.units+64<cq):jH X (dC .NotIn) (inR true):=by
 intro H O x y dx dy Q fr T U q;unfold inR at q;split at q
 .rename_i Y j;split at q
  .rename_i hd;let{k,gm,rfl,l,n}:=T.tupI;let{a,vs,rfl,h,r}:=U.aa5;show{λe f b g=>e=.ref k/\f=.ref a/\b=H/\g (.bl (!tq (.tup Y) j)) H,?_,rfl,rfl,rfl,?_}
   .intro i s σ b e f v u g I o t ⟨B,C,E,J⟩;subst B C E;cases t;let{d,L,p,hz}:=I.list h;have m:=EI I (A:=X.A.in1) (O:=O) (Rep.tup l n) o r L (by rw[t0];lia) (by rw[t0,C6];lia);show SeqAt.notIn_listAt (gw X.K b O<|.tup Y) p.isList (λw N=>m.1 w (by exists N)) {.bl _,b,I,rfl,?_};rw[show d.toArray.any (gw X.K b O<|.tup Y)=d.any (gw X.K b O<|.tup Y)by simp,m.2];show J
   have:=q (.bl _) H (Same.refl _) .bl;exists this
  show q.elim
 .rename_i Y j;split at q
  .rename_i hd;let{k,gm,rfl,l,n}:=T.aa5;let{a,vs,rfl,h,r}:=U.aa5;show{λe f b g=>e=.ref k/\f=.ref a/\b=H/\g (.bl (!tq (.lst Y) j)) H,?_,rfl,rfl,rfl,?_}
   .intro i s σ b e f v u g I o t ⟨B,C,E,J⟩;subst B C E;cases t;let{d,L,p,hz}:=I.list h;have m:=EI I (A:=X.A.in1) (O:=O) (Rep.lst (O:=λ_=>False) l (λz=>z)<|n.sub λ_ z=>z.elim) o r L (by rw[t0];lia) (by rw[t0,C6];lia);show SeqAt.notIn_listAt (gw X.K b O<|.lst Y) p.isList (λw N=>m.1 w (by exists N)) {.bl _,b,I,rfl,?_};rw[show d.toArray.any (gw X.K b O<|.lst Y)=d.any (gw X.K b O<|.lst Y)by simp,m.2];show J
   have:=q (.bl _) H (Same.refl _) .bl;exists this
  show q.elim
 show q.elim
end
end DL
namespace DL
open PySem PySem.Spec L2
open PyProof.Rows hiding St st
variable [Tabs]
section
def RSF(X:Cx)(e:Hp)(f:a9->Prop)(r:R (List D))(D:Ends):Prop:=match r with
 |.ok g=>∀d b a,Same e b->b a=none->Reps X.K b f d g->D.rt (.ref a) (upd b a<|.lst d)
 |_=>False
def tSF(X:Cx)(a:Hp)(b:a9->Prop)(F:Ev->R (List D)):TS:=λD e H=>∃O d,EnvOk X.K a b H O e d/\U6 X.K O/\RSF X a b (F d) D
def aj(X:Cx)(st:List cp)(F:Ev->R (List D)):Prop:=∀a b,uL X st (tSF X a b F)
def a0h(r:R Out)(F:Ev->R (List D)):R (List D):=match r with
 |.ok (.nx a)=>F a
 |_=>.bad
def SC(g:PF X e f):aj X [.Return (some e) h] f:=λi j=>jU (qB<|yG g)<|by rintro D o H ⟨O,d,E,p,q⟩;show⟨i,j,O,d,E,by
 cases b:f d with
 |ok s=>rw[b]at q;showλk l a m n r=>q k l a (E.same.trans m) n (r.sub E.sub)
 |ex x=>rw[b]at q;show q.elim
 |bad=>rw[b]at q;show q⟩
def LP{st:cp}{rest:List cp}(f:nW X st F)(g:aj X rest G):aj X (st::rest) (λρ=>a0h (F ρ) G):=λd e=>jU (rN (f d e)<|g d e)<|by rintro D m H ⟨O,ρ,E,h,q⟩;show⟨O,ρ,E,h,by
 dsimp only at q;cases a:F ρ with
 |ok o=>
  rw[a]at q;cases o with
  |nx b=>showλn p i j l k=>{i,b,j,l,q}
  |_=>show(q).elim
 |ex x=>rw[a]at q;show(q).elim
 |bad=>rw[a]at q;show(q).elim⟩
def spW(K:lM)(n:Nat)(m:List D->R D):Sp:=λg H Q _=>∃O d e,Reps K H O g d/\d.length=n/\(∀a,O a->∃o,H a=some o/\Mt o)/\Tb H/\U6 K O/\m d=.ok (.lst e)/\∀f b a,Same H b->b a=none->Reps K b O f e->Q (.ref a) (upd b a<|.lst f)
def GS(r:R (List D)):R D:=r.bind λa=>.ok (.lst a)
@[simp]def a8o(ds:List D):GS (.ok ds)=.ok (.lst ds):=rfl
def IK(h:GS r=.ok d):∃rs,r=.ok rs/\d=.lst rs:=by
 cases r with
 |ok rs=>nofun
 |ex x=>cases h
 |bad=>cases h
def unl(r:R D):R (List D):=match r with
 |.ok (.lst a)=>.ok a
 |.ex x=>.ex x
 |_=>.bad
def HE(P:bc)(w:bM)(K:lM)(mg:dM)(base:cf)(k:Nat)(x:Str)(n:Nat)(m:List D->R D):Prop:=
 (∃g a b,FnOk P w K mg base uF k g a b (spW K n m)/\Binds K a b []/\PySem.W.keepIn K (.ref g)=true/\mg x=some (.ref g))/\∀e d,e.length=n->m e=.ok d->∃f,d=.lst f
def HE.cal{K:lM}(c:HE P w K mg base k x n m):t6 P w K mg base k x n m:=by let{{g,p,s,F,b,t,e},u}:=c;show{g,p,s,F.imp λI H Q E z=>?_,b,t,e};let{O,h,d,r,i,j,v,y,e,q}:=z;let{A,rfl}:=u h d i e;show{O,h,A,r,i,j,v,y,e,λJ L a l f B=>q _ _ (l.trans<|j3 f _) (.lst (K4.of j1) (λz=>?_) (B.same<|j3 f _))};let{o,C,_}:=j a z;rw[l _ _ C]at f;cases f
def WX{K:lM}{st:cp}(g:Y6 K mg x st)(S:FnScope N ps (b9 st))(t:∀{f:a9}{T:au}{A:bt}{a:List Env}{s:aL}{H:Hp}{E:XK},Room k (A.deeper (aBE x (b9 st) s.heap.objs.size f T))->(A.deeper (aBE x (b9 st) s.heap.objs.size f T)).units+64<cq->(A.deeper (aBE x (b9 st) s.heap.objs.size f T)).units+130<cq->N.Nodup->
   aj (QU P w K mg base N x (b9 st) f T A a s H E) (p5 st) F) (o:∀ds d,ds.length=ps.length->m ds=.ok d->GS (F (l9 N ds))=.ok d) (u:∀(kV j v:au) (y:Option a9) (T ct:au) (h:List au),h.length=ps.length->bindArgs (PySem.W.fnOf x x (C1 st) (p5 st) (b9 st) .none kV j v y T ct) {h,[]}=pure (ps.zip h):=by
   intro _ _ _ _ _ _ h b;rcases h with _|⟨_,_|⟨_,_|⟨_,_|⟨_,_|⟨_,_|⟨_,_|⟨_,_⟩⟩⟩⟩⟩⟩⟩<;>first|rfl|show k7 b (by simp)):HE P w K mg base (k+1) x ps.length m:=by
 let{f,B,C,l}:=g;show{{f,B,ps,l.ok S (λI H Q E z=>?_) (λT A a s H I Q E n z=>?_),l.binds u,l.kp,C},λds d b e=>?_}
 .let{O,ds,d,r,b,_}:=z;rw[r.length];show b
 .let{O,ds,d,r,b,J,L,U,e,q}:=z;show{_,t n n.units n.ad9 S.nd H O,O,_,fT r J L,U,?_};let{p,Y,i}:=IK (o ds _ b e);injection i with i;subst i;rw[Y];show q
 let{p,_,i}:=IK (o ds d b e);show{p,i}
def a3a(c:HE X.prog X.w X.K X.mg X.base k x n m)(v:Room k X.A)(l:ES X (e::es) f)(r:AD f n)(y:Gl X x<|>1)(B:(x==ma)=false<|>2)(C:a5 (e::es) X.env=(false,cy e X.env)::a5 es X.env<|>1)(J:(cv o (a5 es X.env)).any (·.1)=false<|>1):
  PF X (.Call (.Name x p) (e::es) [] o) (λρ=>(f ρ).bind λds=>unl (m ds)):=by
 let{{g,gd,ps,F,b,L,em},N}:=c;show rM λh s T H Q I U Y O ρ E q=>(xE F v y em L b .nil QC l B C J h s T H Q I {U,Y,O,ρ,E,?_});dsimp only at q;cases j:f ρ with
 |ex z=>rw[j]at q;show q
 |bad=>nofun
 |ok ds=>
  rw[j,R.aa0]at q;intro vs H1 t r1;rw[aCd];have u:=E.grow t;cases i:m ds with
  |ex z=>rw[i]at q;show(q H<|Same.refl _).elim
  |bad=>rw[i]at q;show(q).elim
  |ok d=>rw[i]at q;let{rs,rfl}:=N ds d (r ρ ds j) i;show{O,ds,rs,r1,r ρ ds j,u.trk,u.tab,nG I O E.trk,i,λws H2 a s2 l r2=>q ws H2 a (t.trans s2) l r2}
def jj(i:Nat)(h:DM X e f):DM X e (λρ=>f (QS i ρ)):=ptI h λk H Q a b O ρ E q=>by
 dsimp only at q;unfold QS at q;cases e:ρ[i]? with
 |none=>rw[e]at q;show{a,b,O,ρ,E,q}
 |some d=>
  rw[e]at q;cases d with
  |o Y=>let{g,j,_}:=E.disown e;show{a,b,g,_,j,q}
  |_=>show{a,b,O,ρ,E,q}
end
section
def a6o(i:Nat)(ρ:Ev):R Out:=match ρ[i]? with
 |some (.o _)=>.ok (.nx (ρ.set i<|.o []))
 |_=>.bad
def NM(i:Nat)(k:X.N[i]?=some x<|>1)(l:zS X.env.scope x<|>5)(m:(x==ma)=false<|>2)(n:(x==md)=false<|>2)(r:fb (.Name x p) "clear" X.env (cy (.Name x p) X.env)=cy (.Name x p) X.env<|>1)(s:(b.endLine==f.line)=true<|>1)(t:eI (.Call (.Attribute (.Name x p) "clear" b) [] [] f) none e.line X.env=pure false<|>1):
  nW X (.Expr (.Call (.Attribute (.Name x p) "clear" b) [] [] f) e) (a6o i):=λB C=>
 DK (jX (FN PySem.F.plainAttrs_list PySem.F.slot_list_clear PySem.F.type_list_clear OY (M9 k l m n) r s) t) λD u H O v E w q=>by
 unfold a6o at q;cases d:v[i]? with
 |none=>rw[d]at q;show(q).elim
 |some y=>
  rw[d]at q;cases y with
  |o Y=>let{a,g,h,I,J,j,L}:=E.own i Y d;show{_,h,.inl {rfl,g,K4.of j},a,g,rfl,rfl,j,?_};let{z,A}:=E.write d h (.nil:Reps X.K H O [] []);show q u _ O z w A
  |_=>show(q).elim
mutual
theorem TY{K:lM}{H:Hp}{O a:a9->Prop}:∀{v:V}{d:D},mZ d=true->Rep K H O v d->Rep K H a v d
 |_,_,_,.int=>.int
 |_,_,h,.tup t r=>.tup t (wW h r)
 |_,_,h,.non=>(by cases h)
 |_,_,h,.bl=>(by cases h)
 |_,_,h,.str=>(by cases h)
 |_,_,h,.lst _ _ _=>(by cases h)
 |_,_,h,.dct ..=>(by cases h)
theorem wW{K:lM}{H:Hp}{O a:a9->Prop}:∀{vs:List V}{ds:List D},aY ds=true->Reps K H O vs ds->Reps K H a vs ds
 |_,_,_,.nil=>.nil
 |_,_,h,.cons r t=>.cons (TY (aGD.mp h).1 r) (wW (aGD.mp h).2 t)
end
end
def nnB:D->Bool
 |.non=>true
 |.lst _=>true
 |_=>false
def RSO(X:Cx)(d:Hp)(f:a9->Prop)(r:R D)(D:Ends):Prop:=match r with
 |.ok .non=>∀b,Same d b->D.rt .non b
 |.ok (.lst g)=>∀e b a,Same d b->b a=none->Reps X.K b f e g->D.rt (.ref a) (upd b a<|.lst e)
 |_=>False
def tSO(X:Cx)(a:Hp)(b:a9->Prop)(F:Ev->R D):TS:=λD e H=>∃O d,EnvOk X.K a b H O e d/\U6 X.K O/\RSO X a b (F d) D
def ZA(X:Cx)(st:List cp)(F:Ev->R D):Prop:=∀a b,uL X st (tSO X a b F)
def a0g(r:R Out)(F:Ev->R D):R D:=match r with
 |.ok (.nx a)=>F a
 |.ok (.rt .non)=>.ok .non
 |_=>.bad
def UL(d:PF X e f):ZA X [.Return (some e) g] (λρ=>GS (f ρ)):=λh i=>jU (qB<|yG d)<|by rintro D n H ⟨O,ρ,E,o,q⟩;show⟨h,i,O,ρ,E,by
 dsimp only at q;cases b:f ρ with
 |ok p=>rw[b]at q;showλj k a l m r=>q j k a (E.same.trans l) m (r.sub E.sub)
 |ex x=>rw[b]at q;show(q).elim
 |bad=>rw[b]at q;show q⟩
def wE{st:cp}{rest:List cp}{F:Ev->R Out}{G:Ev->R D}(h:nW X st F)(i:ZA X rest G):ZA X (st::rest) (λρ=>a0g (F ρ) G):=λe f=>jU (rN (h e f)<|i e f)<|by rintro D p H ⟨O,ρ,E,j,q⟩;show⟨O,ρ,E,j,by
 dsimp only at q;cases a:F ρ with
 |ok o=>
  rw[a]at q;cases o with
  |nx b=>showλt g l m n k=>{l,b,m,n,q}
  |rt d=>
   cases d with
   |non=>showλv g s r=>by cases r;show q g s
   |_=>show(q).elim
  |_=>show(q).elim
 |ex x=>rw[a]at q;show(q).elim
 |bad=>rw[a]at q;show(q).elim⟩
def spO(K:lM)(n:Nat)(m:List D->R D):Sp:=λh H Q _=>∃O e d,Reps K H O h e/\e.length=n/\(∀a,O a->∃o,H a=some o/\Mt o)/\Tb H/\U6 K O/\m e=.ok d/\(d=.non->∀b,Same H b->Q .non b)/\∀f,d=.lst f->∀g b a,Same H b->b a=none->Reps K b O g f->Q (.ref a) (upd b a<|.lst g)
def HW(P:bc)(w:bM)(K:lM)(mg:dM)(base:cf)(k:Nat)(x:Str)(n:Nat)(m:List D->R D):Prop:=
 (∃g a b,FnOk P w K mg base uF k g a b (spO K n m)/\Binds K a b []/\PySem.W.keepIn K (.ref g)=true/\mg x=some (.ref g))/\∀e d,e.length=n->m e=.ok d->nnB d=true
def HW.cal{K:lM}(c:HW P w K mg base k x n m):t6 P w K mg base k x n m:=by let{{g,l,p,F,b,s,e},I}:=c;show{g,l,p,F.imp λJ H Q E z=>?_,b,s,e};let{O,t,d,r,u,j,v,y,e,q}:=z;show{O,t,d,r,u,j,v,y,e,λi A f=>by subst i;show q _ _ f .non,λL i N A a f h B=>?_};subst i;show q _ _ (f.trans<|j3 h _) (.lst (K4.of j1) (λz=>?_) (B.same<|j3 h _));let{o,C,_}:=j a z;rw[f _ _ C]at h;cases h
def SF{K:lM}{st:cp}(g:Y6 K mg x st)(S:FnScope N ps (b9 st))(o:∀{f:a9}{T:au}{A:bt}{a:List Env}{s:aL}{H:Hp}{E:XK},Room k (A.deeper (aBE x (b9 st) s.heap.objs.size f T))->(A.deeper (aBE x (b9 st) s.heap.objs.size f T)).units+64<cq->(A.deeper (aBE x (b9 st) s.heap.objs.size f T)).units+130<cq->N.Nodup->
   ZA (QU P w K mg base N x (b9 st) f T A a s H E) (p5 st) F) (n:∀ds d,ds.length=ps.length->m ds=.ok d->F (l9 N ds)=.ok d/\nnB d=true) (p:∀(kV i q:au) (t:Option a9) (T ct:au) (h:List au),h.length=ps.length->bindArgs (PySem.W.fnOf x x (C1 st) (p5 st) (b9 st) .none kV i q t T ct) {h,[]}=pure (ps.zip h):=by
   intro _ _ _ _ _ _ h b;rcases h with _|⟨_,_|⟨_,_|⟨_,_|⟨_,_|⟨_,_|⟨_,_|⟨_,_⟩⟩⟩⟩⟩⟩⟩<;>first|rfl|show k7 b (by simp)):HW P w K mg base (k+1) x ps.length m:=by
 let{f,u,v,j}:=g;show{{f,u,ps,j.ok S (λy H Q E z=>?_) (λT A a s H y Q E l z=>?_),j.binds p,j.kp,v},λds d b e=>(n ds d b e).2}
 .let{O,ds,d,r,b,_}:=z;rw[r.length];show b
 let{O,ds,d,r,b,B,C,I,e,J,L}:=z;show{_,o l l.units l.ad9 S.nd H O,O,_,fT r B C,I,?_};let{U,Y}:=n ds _ b e;rw[U];cases d with
 |non=>show J rfl
 |lst rs=>show L rs rfl
 |_=>cases Y
def tO(X:Cx)(f:Ev->R D):TE:=λi H Q=>∃j k O d,EnvOk X.K j k H O i d/\match f d with
 |.ok .non=>∀b,Same H b->Q .non b
 |.ok (.lst l)=>∀g b a,Same H b->b a=none->Reps X.K b O g l->Q (.ref a) (upd b a<|.lst g)
 |.ex e=>∀h,Same H h->XW X e h
 |_=>False
def PO(X:Cx)(e:ck)(f:Ev->R D):Prop:=PE X e (tO X f)
def a3x(c:HW X.prog X.w X.K X.mg X.base k x n m)(C:Room k X.A)(i:ES X (e::es) f)(J:AD f n)(L:Gl X x<|>1)(N:(x==ma)=false<|>2)(T:a5 (e::es) X.env=(false,cy e X.env)::a5 es X.env<|>1)(U:(cv j (a5 es X.env)).any (·.1)=false<|>1):
  PO X (.Call (.Name x p) (e::es) [] j) (λρ=>(f ρ).bind m):=by
 let{{g,gd,ps,F,b,Y,em},hc}:=c;show rM λh s σ H Q I H9 O0 O ρ E q=>(xE F C L em Y b .nil QC i N T U h s σ H Q I {H9,O0,O,ρ,E,?_});dsimp only at q;cases l:f ρ with
 |ex z=>rw[l]at q;show q
 |bad=>nofun
 |ok o=>
  rw[l,R.aa0]at q;intro vs H1 r r1;rw[aCd];have B:=E.grow r;cases t:m o with
  |ex z=>rw[t]at q;show(q H<|Same.refl _).elim
  |bad=>nofun
  |ok d=>
   rw[t]at q;show{O,o,d,r1,J ρ o l,B.trk,B.tab,nG I O E.trk,t,λu v y=>?_,λrs u ws v a y i r2=>?_}
   .subst u;show q v (r.trans y)
   subst u;show q ws v a (r.trans y) i r2
def slO(d:D):R Sl:=match d with
 |.non=>.ok (.v .non)
 |.lst a=>.ok (.o a)
 |_=>.bad
def UV(i:Nat)(he:PO X e f)(U:X.N.Nodup)(Y:X.N[i]?=some x<|>1)(hx:Loc X.env.scope x<|>8)(hs:eI e (some (.Name x h)) A.line X.env=pure false<|>1)(hf:X.fn x=true\/X.env.scope.names.lookup x=some .local<|>7):
  nW X (.Assign [.Name x h] e A) (λρ=>(f ρ).bind λd=>(slO d).bind λsl=>.ok (.nx (ρ.set i sl))):=by
 rintro B C j s σ H D I ⟨O,ρ,E,fk,q⟩;dsimp only at q;show aEC (D3 (he j s σ H (λv J=>(v=.non/\Same H J/\RS X B C H O (.ok (.nx (ρ.set i<|.v .non))) D)\/∃k g a l,v=.ref a/\J=upd g a (.lst k)/\Same H g/\g a=none/\Reps X.K g O k l/\RS X B C H O (.ok (.nx (ρ.set i<|.o l))) D) I {B,C,O,ρ,E,?_}) λv t z9=>?_) hs
 .cases m:f ρ with
  |ok d=>
   rw[m,R.aa0]at q;cases d with
   |non=>showλg t=>.inl {rfl,t,q}
   |lst l=>showλk g a t p r=>.inr {k,g,a,l,rfl,rfl,t,p,r,q}
   |_=>show(q).elim
  |ex x=>rw[m]at q;showλH' s=>q H' (E.same.trans s)
  |bad=>rw[m]at q;show q
 let{y,J,u,r2,z}:=z9;rcases z with⟨rfl,sm,L⟩|⟨k,g,a,l,m,e2,w,p,r,L⟩
 .show J9 u U Y hx r2 (λs3 Q=>{_,_,Q,(L _ _ O ((E.grow sm).set i .non) fk<|Kp.of sm)}) hf
 subst m e2;show J9 u U Y hx r2 (λs3 Q=>{_,_,Q,?_}) hf;have E2:=(E.grow w).ad1 i p (KN u<|j1) r;show L _ _ _ E2 (nG u _ E2.trk) (λb o T n=>{by rw[l6 (p7 (w b o T) p)];show w b o T,λz=>z.elim n (p7 (w b o T) p)})
def a5p:D->D->R D
 |.non,.non=>.ok (.bl false)
 |_,.non=>.ok (.bl true)
 |_,_=>.bad
def gk:jH X (dC .IsNot) a5p:=by
 intro H O x y e f Q j d g q;show{_,gy,?_};cases f with
 |non=>
  show{g.ac0,?_};cases e with
  |non=>rw[d.ac0];show q _ H (Same.refl _) .bl
  |bl b=>rw[d.blI];show q _ H (Same.refl _) .bl
  |int i=>rw[d.aa6];show q _ H (Same.refl _) .bl
  |str z=>rw[d.ac2];show q _ H (Same.refl _) .bl
  |tup h=>let{a,_,rfl,_}:=d.tupI;show q _ H (Same.refl _) .bl
  |lst h=>let{a,_,rfl,_}:=d.aa5;show q _ H (Same.refl _) .bl
  |dct=>let{a,_,_,rfl,_}:=d.ad8;show q _ H (Same.refl _) .bl
 |_=>cases e<;>show(q).elim
end DL
namespace DL
open PySem PySem.Spec L2
open PyProof.Rows hiding St
variable [Tabs]
section
abbrev OB(X:Cx)(e:ck)(es:List ck):Prop:=a5 (e::es) X.env=(false,cy e X.env)::a5 es X.env
def X8{i:Int}{j}:PB X (.Constant (.int i) j a) (XS (.int i)):=u0.pb
def tZ{e1:ck}{b:Ev->R D}(c:t6 X.prog X.w X.K X.mg X.base k x 1 m)(e:Room f X.A)(a1:PD X e1 b)(g:k<=f<|>2)(d:OB X e1 []<|>1)(h:Gl X x<|>1)(i:(x==ma)=false<|>2)(j:(cv a (a5 [] X.env)).any (·.1)=false<|>1):
 PD X (.Call (.Name x p) [e1] [] a) (λρ=>((o8 b P9) ρ).bind m):=zQ c (e.mono g) (i4 a1 o9 d) (u8 S4) h i d j
def T5{e1 e2:ck}{b d:Ev->R D}(c:t6 X.prog X.w X.K X.mg X.base k x 2 m)(f:Room g X.A)(a1:PD X e1 b)(a2:PD X e2 d)(h:k<=g<|>2)(e:OB X e1 [e2]<|>1)(i:OB X e2 []<|>1)(j:Gl X x<|>1)(l:(x==ma)=false<|>2)(n:(cv a (a5 [e2] X.env)).any (·.1)=false<|>1):
 PD X (.Call (.Name x p) [e1,e2] [] a) (λρ=>((o8 b (o8 d P9)) ρ).bind m):=zQ c (f.mono h) (i4 a1 (i4 a2 o9 i) e) (u8<|u8 S4) j l e n
def pc3{e1 e2 a:ck}{d e f:Ev->R D}(c:t6 X.prog X.w X.K X.mg X.base k x 3 m)(h:Room i X.A)(a1:PD X e1 d)(a2:PD X e2 e)(a3:PD X a f)(j:k<=i<|>2)(g:OB X e1 [e2,a]<|>1)(l:OB X e2 [a]<|>1)(n:OB X a []<|>1)(o:Gl X x<|>1)(q:(x==ma)=false<|>2)(r:(cv b (a5 [e2,a] X.env)).any (·.1)=false<|>1):
 PD X (.Call (.Name x p) [e1,e2,a] [] b) (λρ=>((o8 d (o8 e (o8 f P9))) ρ).bind m):=zQ c (h.mono j) (i4 a1 (i4 a2 (i4 a3 o9 n) l) g) (u8<|u8<|u8 S4) o q g r
def pc4{e1 e2 b a:ck}{e f g h:Ev->R D}(c:t6 X.prog X.w X.K X.mg X.base k x 4 m)(j:Room l X.A)(a1:PD X e1 e)(a2:PD X e2 f)(a3:PD X b g)(n:PD X a h)(o:k<=l<|>2)(i:OB X e1 [e2,b,a]<|>1)(q:OB X e2 [b,a]<|>1)(r:OB X b [a]<|>1)(s:OB X a []<|>1)(t:Gl X x<|>1)(u:(x==ma)=false<|>2)(v:(cv d (a5 [e2,b,a] X.env)).any (·.1)=false<|>1):
 PD X (.Call (.Name x p) [e1,e2,b,a] [] d) (λρ=>((o8 e (o8 f (o8 g (o8 h P9)))) ρ).bind m):=zQ c (j.mono o) (i4 a1 (i4 a2 (i4 a3 (i4 n o9 s) r) q) i) (u8<|u8<|u8<|u8 S4) t u i v
def YN{e1 e2:ck}{a b:Ev->R D}{j}(a1:PD X e1 a)(a2:PD X e2 b)(d:OB X e1 [e2]<|>1)(e:OB X e2 []<|>1):PD X (.Tuple [e1,e2] j f) (λρ=>((o8 a (o8 b P9)) ρ).bind uJ):=FX (i4 a1 (i4 a2 o9 e) d)
def uE{id:String}{g:List D->R D}{e:ck}{f:Ev->R D}(h:aW X (.builtin id) g)(a:PB X e f)(i:Gl X x<|>1)(j:X.mg x=none<|>4)(k:cu x=some (.builtin id)<|>3)(l:x≠ "__name__"<|>2)(m:(x==ma)=false<|>2)(d:OB X e []<|>1)(n:(cv b (a5 [] X.env)).any (·.1)=false<|>1):
 PD X (.Call (.Name x p) [e] [] b) (λρ=>(o8 f P9 ρ).bind g):=eJ h (t5 a w9 d) i j k l m d n
def FZ{i:List Str}{a:gW}{l:Pos}{e:ck}{fe:Ev->R D}(h:∀b f j k C,PD (EG X b j k ([x]++i) a (dQ X a C) C f) e fe)(m:([x]++i).Nodup<|>3)(n:Loc (relabel a X.env) x<|>8)(o:(a.names.lookup x==some .cell)=true\/(relabel a X.env).names.lookup x=some .local:=by first|show .inl rfl|show .inr rfl):
  ∀(b:O6) (f:List a9) (g:Cx),(∃p q C,g=EG X b p q ([x]++i) a (dQ X a C) C f)->MQ g (.Name x l) (λd ρ=>.ok (ρ.set 0 (.v d)))/\XF g [] (λ_=>.ok true)/\PD g e fe:=by
 rintro b f r ⟨j,k,C,rfl⟩;show{j5 0 m rfl n o,xO,h b f j k C}
def hxt{j:List Str}{a:gW}{l:Pos}{f c:ck}{fe:Ev->R D}{ft:Ev->R Bool}(h:∀b e g i C,DM (EG X b g i ([x]++j) a (dQ X a C) C e) c ft/\PD (EG X b g i ([x]++j) a (dQ X a C) C e) f fe)(m:([x]++j).Nodup<|>3)(n:Loc (relabel a X.env) x<|>8)(o:(a.names.lookup x==some .cell)=true\/(relabel a X.env).names.lookup x=some .local:=by first|show .inl rfl|show .inr rfl):
  ∀(b:O6) (e:List a9) (k:Cx),(∃p q C,k=EG X b p q ([x]++j) a (dQ X a C) C e)->MQ k (.Name x l) (λd ρ=>.ok (ρ.set 0 (.v d)))/\XF k [c] ft/\PD k f fe:=by
 rintro b e r ⟨g,i,C,rfl⟩;show{j5 0 m rfl n o,KI (h b e g i C).1,(h b e g i C).2}
end
def a2l(sc:gW)(x:Str):Bool:=match sc.names.lookup x with
 |some .local=>true
 |some .cell=>true
 |some .free=>true
 |_=>false
def IN{sc:gW}{x:Str}(h:a2l sc x=true):zS sc x:=by unfold a2l at h;unfold zS;split at h<;>nofun
def opB:Operator->Option (D->D->R D)
 |.Add=>some tR
 |.Sub=>some NP
 |.Mult=>some lH
 |.FloorDiv=>some T7
 |.Mod=>some eV
 |.Pow=>some FJ
 |_=>none
def a3t{X:Cx}{op:Operator}{g:D->D->R D}(h:opB op=some g):jH X (ek op) g:=by cases op<;>cases h<;>first|show lJ|show UR|show a1h|show gq|show a2n|show a0q
def GL:ck->Bool
 |.Starred ..=>false
 |_=>true
def GU{e:ck}{es:List ck}{env:Env}(h:GL e=true):a5 (e::es) env=(false,cy e env)::a5 es env:=by cases e<;>first|rfl|cases h
def ixB:ck->Bool
 |.Name ..=>true
 |.Constant ..=>true
 |.BinOp ..=>true
 |_=>false
def rds(r:ck->Option (Ev->R D)):List ck->Option (Ev->R (List D))
 |[]=>some P9
 |e::a=>bif GL e then(r e).bind λf=>(rds r a).bind λg=>some (o8 f g)else none
def evq(b:Bool)(i:Nat):Option (Ev->R D):=bif b then[iD 0,iD 1,iD 2,iD 3,iD 4,iD 5,iD 6,iD 7,iD 8,iD 9,iD 10,iD 11,iD 12,iD 13][i]? else[M1 0,M1 1,M1 2,M1 3,M1 4,M1 5,M1 6,M1 7,M1 8,M1 9,M1 10,M1 11,M1 12,M1 13][i]?
def SV{f:Ev->R D}{g:Nat->Ev->R D}{i:Nat}(h:((aBz 14).map g)[i]?=some f):f=g i:=by let{a,b,rfl}:=aCQ.mp (aAF.symm.trans h);let{q,rfl}:=aAw.mp b;rw[List.getElem_range]
def a4m{b:Bool}{i:Nat}{f:Ev->R D}(h:evq b i=some f):f=bif b then iD i else M1 i:=by
 cases b with
 |true=>show SV h
 |false=>show SV h
def rd(N:List Str)(sc:gW):Nat->Bool->ck->Option (Ev->R D)
 |n+1,b,.Name x _=>bif decide (N[N.findIdx (· ==x)]?=some x)&&(a2l sc x&&(!(x==ma)&&!(x==md)))then evq b (N.findIdx (· ==x))else none
 |n+1,_,.Constant (.int i) _ _=>some (XS (.int i))
 |n+1,_,.BinOp a e c _=>(opB e).bind λg=>(rd N sc n true a).bind λh=>(rd N sc n true c).bind λj=>some λd=>(h d).bind λx=>(j d).bind λy=>g x y
 |n+1,_,.Subscript a c _=>bif ixB c then(rd N sc n true a).bind λf=>(rd N sc n false c).bind λg=>some λd=>(f d).bind λx=>(g d).bind λy=>V6 x y else none
 |n+1,_,.Tuple k _ _=>(rds (rd N sc n false) k).bind λf=>some λd=>(f d).bind uJ
 |_,_,_=>none
theorem QZ{X:Cx}{r:ck->Option (Ev->R D)}(a:∀e f,r e=some f->PD X e f):∀{es:List ck}{f:Ev->R (List D)},rds r es=some f->ES X es f:=by
 intro b f h;cases b with
 |nil=>cases h;show o9
 |cons e es=>
  unfold rds at h;cases q:GL e with
  |false=>rw[q]at h;cases h
  |true=>rw[q]at h;let{i,d,h}:=aBv.mp h;let{j,g,h}:=aBv.mp h;cases h;show i4 (a _ _ d) (QZ a g) (GU q)
def tz{X:Cx}(n:Nat):∀(b:Bool) (e:ck) (f:Ev->R D),rd X.N X.env.scope n b e=some f->(b=false->PD X e f)/\PB X e f:=by
 induction n with
 |zero=>intro b e f h;cases e<;>cases(show(none:Option (Ev->R D))=some f from h)
 |succ n l=>
  intro b e f h;have d:∀{f:Ev->R D},PD X e f->(b=false->PD X e f)/\PB X e f:=λh=>{λ_=>h,h.pb};cases e with
  |Name x p=>
   erw[rd,Bool.cond_eq_ite]at h;split at h
   .rename_i q;erw[aAI,decide_eq_true_eq,Bool.not_eq_true']at q;let{w,A,B,C}:=q;rw[a4m h];cases b with
    |false=>show d (c8 _ w (IN A) B C)
    |true=>show{λz=>(by cases z),f7 _ w (IN A) B C}
   cases h
  |Constant v j p=>
   cases v with
   |int i=>cases(Option.some.inj h:XS (.int i)=f);show d u0
   |_=>cases(show(none:Option (Ev->R D))=some f from h)
  |BinOp a E c p=>let{g,r,h}:=aBv.mp (show((opB E).bind λg=>(rd X.N X.env.scope n true a).bind λm=>(rd X.N X.env.scope n true c).bind λs=>some λo=>(m o).bind λx=>(s o).bind λy=>g x y)=some f from h);let{m,t,h}:=aBv.mp h;let{s,u,h}:=aBv.mp h;cases h;show d (jB (a3t r) (l _ _ _ t).2 (l _ _ _ u).2)
  |Subscript a c p=>
   cases q:ixB c with
   |false=>rw[rd,q]at h;cases h
   |true=>rw[rd,q]at h;let{m,t,h}:=aBv.mp h;let{s,u,h}:=aBv.mp h;cases h;show d (KY (l _ _ _ t).2 ((l _ _ _ u).1 rfl) (by cases c<;>first|showλ_ _=>rfl|cases q))
  |Tuple H k p=>let{m,r,h}:=aBv.mp (show((rds (rd X.N X.env.scope n false) H).bind λf=>some λo=>(f o).bind uJ)=some f from h);cases h;show d (FX<|QZ (λe f I=>(l _ _ _ I).1 rfl) r)
  |_=>cases(show(none:Option (Ev->R D))=some f from h)
def v7{X:Cx}{e:ck}{f:Ev->R D}(h:rd X.N X.env.scope 12 false e=some f):PD X e f:=(tz 12 false e f h).1 rfl
def DN{X:Cx}{e:ck}{f:Ev->R D}(h:rd X.N X.env.scope 12 true e=some f):PB X e f:=(tz 12 true e f h).2
end DL
namespace DL
open PySem PySem.Spec PySem.Calls PySem.W Builtin Builtin.ObjectAttr Builtin.Getset_descriptor
open PyProof.Rows hiding St
section
variable{prog:bc}{w:bM}{A:bt}{E:A5}{K:Frag}{h:cf}{g:Array GenState}{d:Drawn}{t:Nat}{os:OsState}{a C:a9}{o:Obj}
end
end DL
namespace DL
open PySem PySem.Spec L2
open PyProof.Rows hiding St
variable [Tabs]
section
variable{X:Cx}{pos:Pos}
end
section
variable{X:Cx}{pins:O6}{σ:St}{H H':Hp}{s s':aL}
end
section
variable{K:lM}{H9 H:Hp}{O0 O:a9->Prop}{σ:St}{ρ:Ev}
end
section
variable{X:Cx}{pos hpos np:Pos}
end
section
variable{X:Cx}{pos:Pos}
end
def mX(f:Ev->R (List D))(m:List D->Option au)(ρ:Ev):Option au:=match f ρ with|.ok a=>m a|_=>none
section
variable{X:Cx}{pos:Pos}
end
section
end
section
end
end DL
namespace DL
open PySem L2
variable [Tabs]
end DL
namespace M
open PySem L2 DL
variable [Tabs]
def O9(ns:List Int):Y0 (ns.map D.int)=some ns:=by
 induction ns with
 |nil=>rfl
 |cons n ns a=>rw[aAm,Y0,a];rfl
def xT(h:C6 d<=40):OK d d=.ok (.bl false):=by unfold OK;rw[km {h,h},N1];rfl
def KR(J:List G.V):C6 (.lst (J.map vd))<=40:=by
 rw[C6];have:∀J:List G.V,x4 (J.map vd)<=1:=λJ=>by
  induction J with
  |nil=>simp[x4]
  |cons P J a=>rw[aAm,x4];show Nat.max_le.mpr {by simp[C6,x4],a}
 have:=this J
 lia
def Z9{J:Ev->Prop}(a:r=.ok (.nx ρ))(b:∃ρ2,F ρ=.ok (.nx ρ2)/\J ρ2):∃ρ2,A3 r F=.ok (.nx ρ2)/\J ρ2:=by rw[a];show b
def dw(c w:Int):G.V:={c.fmod w-w.fdiv 2,(c.fdiv w).fmod w-w.fdiv 2,(c.fdiv<|w*w).fmod w-w.fdiv 2}
def tmA(c:Int)(at_ j:Nat):Int:=(c.fdiv<|5+7*(at_:Int)+(j:Int)).fmod 5-2
def a2c(P:G.V)(t:Int)(w:G.V):G.V:={P.x+t*w.x,P.y+t*w.y,P.z+t*w.z}
def ptA(c:Int)(b:G.V)(ws:List G.V)(at_:Nat):G.V:=match ws with
 |[]=>b
 |[u]=>a2c b (tmA c at_ 0) u
 |u::v::_=>a2c (a2c b (tmA c at_ 0) u) (tmA c at_ 1) v
def a5w(c:Int)(b:G.V)(ws:List G.V)(n:Nat):List G.V:=(aBz n).map (ptA c b ws)
structure Drawn(J:List G.V):Prop where
 ne:J≠[]
 len:J.length<=40
 sz:∀P∈J,Sz 100 P
 flat:¬G.j7 J
open Classical in
def DH(p:Prop) (d:D):R D:=if p then .ok d else .bad
def M8{p:Prop}{d r:D}(h:DH p d=.ok r):p/\d=r:=by unfold DH at h;grind
def J4{p:Prop}{d:D}(h:p):DH p d=.ok d:=km h
def lvD(k:List G.V->List D->R D):List D->R D:=MX λY e=>match F5 Y with
 |some l=>k l e
 |none=>.bad
def sV{k:List G.V->List D->R D}{ds:List D}{r:D}(h:lvD k ds=.ok r):∃l e,ds=.lst (l.map vd)::e/\k l e=.ok r:=by
 replace h:=mO h;let{Y,e,rfl,h}:=h;cases q:F5 Y with
 |none=>nofun
 |some l=>rw[q]at h;show{l,e,by rw[t8 q],h}
def kB(k:List G.V->List D->R D)(l:List G.V)(e:List D):lvD k (.lst (l.map vd)::e)=k l e:=by change(match F5 (l.map vd)with|some l=>k l e|none=>.bad)=_;rw[v5]
def l3(k:Int->Int->Int->List D->R D):List D->R D:=MX λY e=>pV (λa=>pV λb=>pV λc=>dN (k a b c e)) Y
def OR(s k:Int):Int:=(s*s+5003*k+11).fmod 2147483647
def iW(l:List Int):Prop:=l.length=7/\∀i∈l,bits i<=100
def s7(c k:Int):Int:=(c.fdiv k).fmod 7-3
def lG{J:List G.V}(g:bB 900 J)(h:G.j7 J)(d:(e9 J).length<=14):(∀f,f∈n6 (e9 J)↔G.IsFace (e9 J) f.1 f.2)/\n6 (e9 J)≠[]/\(n6 (e9 J)).length<=2744:=by let{m,r,e,L}:=bZ g h (by lia);have a:=d;rw[e]at a;have b:=L3 L a;rw[<-e]at b L;have i:=aEG d (aEG d d);show{b.1,λz=>?_,aAo (G.OD (M3<|X5 b.2) λf j=>(b.1 f).mp j) i};have:=(b.1 (_,_)).mpr (G.jF L.good.solid L.good.ord L.good.mem L.good.least);grind
def intD:D->Int
 |.int i=>i
 |_=>0
def CW{b β:Type}{G:D->Ev->R Ev}{fe:Ev->R D}{ρ:Ev}(rep:b->D)(d:β->D)(g:b->β)(l:List b)(h:∀a∈l,∃ρ1,G (rep a) ρ=.ok ρ1/\fe ρ1=.ok (d (g a))):x9 G (λ_=>.ok true) fe ρ (l.map rep)=.ok ((l.map g).map d):=by rw[aAK];show gH rep _ l h
def RH(J:List G.V):x4 (J.map vd)<=5:=by
 induction J with
 |nil=>simp[x4]
 |cons v l a=>rw[aAm,x4];simp[C6,x4]at a⊢;lia
end M
namespace DL
open PySem L2
section
variable [Tabs]
def FR{K:lM}{H:Hp}{O:a9->Prop}:∀{es:List dq}{N:List (D×D)},cK K H O es N->B4 K H O (es.map (·.key)) (N.map (·.1)):=by
 intro _ _ h;induction h with
 |nil=>show .nil
 |@cons e _ _ _ h _ b=>let{{a,d,r},_}:=h;show .cons {.ref a,by change RelV (.ref a) e.key;rw[d];rfl,r} b
end
end DL
namespace DL
open PySem PySem.Spec L2
open PyProof.Rows hiding St st
section
variable [Tabs]
def atD(d k:D):R D:=match d with
 |.dct N=>if J6 7 k=true/\rP k=true then(match atK N k with
  |some v=>.ok v
  |none=>.bad)else .bad
 |_=>.bad
def a2z(i:Nat){x y:Str}{p L l:Pos}(j:Nat)(hk:PD X (.Name y L) (M1 j))(hu:X.A.units+130<cq)(hN:X.N[i]?=some x<|>1)(hv:zS X.env.scope x<|>5)
  (hd:(x==ma)=false<|>2) (eh:(x==md)=false<|>2):PD X (.Subscript (.Name x p) (.Name y L) l) (λρ=>(M1 i ρ).bind λd=>(M1 j ρ).bind λk=>atD d k):=by
 show rM λf s T H Q I H9 O0 O ρ E q=>?_;dsimp only at q;unfold M1 at q;cases m:ρ[i]? with
 |none=>rw[m]at q;show(q).elim
 |some sl=>
  rw[m]at q;cases sl with
  |v d=>
   rw[R.aa0]at q;cases e:M1 j ρ with
   |ex x=>unfold M1 at e;split at e<;>cases e
   |bad=>unfold M1 at e;rw[e]at q;show q.elim
   |ok k=>
    have U:=e;unfold M1 at U;rw[U,R.aa0]at q;unfold atD at q;cases d with
    |dct N=>
     dsimp only at q;split at q
     .rename_i hz;let{v,h1,r0}:=E.val i _ m;let{a,o,es,rfl,h4,h5,h6,h7}:=(y8.of r0).ad8;show wpAny_Subscript_Name_late (D3 ((M9 hN hv hd eh:PE X (.Name x p) _) f s T H (λv h=>v=.ref a/\h=H) I {_,h1,rfl,rfl}) λv s1 n=>?_);let{w,h,I1,r1,ew,eH}:=n;subst ew eH;cases r1;show D3 (hk f s1 T h (λv g=>Same h g/\Rep X.K g O v k) I1 {H9,O0,O,ρ,E,by rw[e,RC];showλv g s2 r2=>{s2,r2}}) λu s2 n=>?_;let{v,g,t,ru,z,rk}:=n;let{b,rfl}:=cD rk hz.2;cases ru;have B:=z a _ h4;have C:cK X.K g O es N:=h6.rep.mono λr=>r.same z;let{Y,hD,qa,hp}:=yR t B h5 C h7;let{ok,dp}:=gG hz.1;show{"dict",_,PySem.F.slot_dict_getitem.lookup,hD.typeIs,?_};rcases NF hp with⟨_,J⟩|⟨p',d,w,e,J,zd,r⟩
      .rw[J]at q;show(q).elim
      rw[J]at q;show wpAny_getItem_heap (knd:=Z4 X.prog X.w) (by change X.A.in1.units+128<cq;rw[t0];lia) {S8 t rk ok rfl,by lia} hD e {w,g,t.tok _,zd,q w g z r}
     show(q).elim
    |_=>show aAH q
  |_=>show aAH q
def sdD(d:D):R (List D):=match d with
 |.dct N=>if(N.map (·.1)).all cT=true/\N.length<=63 then .ok (bJ (N.map (·.1)))else .bad
 |_=>.bad
def GX{p j:Pos}{e:ck}{f:Ev->R D}(ha:PB X e f)(hh:X.calm=true)(hu:X.A.units+300<cq)(hg:Gl X "sorted"<|>1)(hm:X.mg "sorted"=none<|>4)(hv:cu "sorted"=some (.builtin "sorted")<|>3)(he:a5 [e] X.env=(false,cy e X.env)::a5 [] X.env<|>1)(bo:(cv j (a5 [] X.env)).any (·.1)=false<|>1):
  PF X (.Call (.Name "sorted" p) [e] [] j) (λρ=>(f ρ).bind sdD):=by
 show rM λt s σ H Q I H9 O0 O ρ E q=>?_;dsimp only at q;show aAP (K9 I hg hm hv (aBu (D3 ((J5 ha aR he) j t s σ H (λvs B=>∃v N,vs=[v]/\f ρ=.ok (.dct N)/\Same H B/\y8 X.K B O v (.dct N)) I {H9,O0,O,ρ,E,?_}) λus m z9=>?_) he bo) (by symm) (by symm))
 .cases e1:f ρ with
  |ex z=>rw[e1]at q;show q
  |bad=>nofun
  |ok d=>
   rw[e1,R.aa0]at q;cases d with
   |dct N=>showλv B m r1=>{v,N,rfl,rfl,m,r1}
   |_=>show(q).elim
 let{vs,B,J,r1,v,N,ev,ef,sm,rb}:=z9;subst ev;rw[ef,R.aa0]at q;let{a,o,es,rfl,h4,h5,h6,nd}:=rb.ad8;let{u,rfl,ru}:=vals1 r1;cases ru;erw[sdD]at q;by_cases hc:(N.map (·.1)).all cT=true/\N.length<=63
 .rw[km hc]at q;let{mr,ve}:=hc;let{L,T,ea,ep,jf,ees}:=h5;have pt:=aBG.mp mr;have st:B4 X.K B O (ea.toList.map (·.key)) (N.map (·.1)):=by rw[ees];show FR h6.rep
  have hlen:(ea.toList.map (·.key)).length=N.length:=by rw[st.length,aAg]
  have fu:ea.size=N.length:=by rw[<-hlen];simp
  have g:∀u∈ea.toList.map (·.key),∃d,d∈N.map (·.1)/\cT d=true/\HV m.heap u d:=λu hu=>by let{d,r,v,rv,rp}:=st.get hu;show{d,r,pt d r,S8 J rp (M6<|pt d r) rv}
  show TS.sorted_keys (f:=true) (key:=PM m.heap) (C:=λs'=>∃h' i,s'={m with heap:=h',toks:=i}/\∀b o,m.heap.get? b=some o->h'.get? b=some o)
   (λ{Q'} hq=>SD.collect_dk (by simp[J.ok.hd hh]) L ({o,(J.hok a _ h4).1,T,jf}) (fu▸aAo ve (by symm)) λh' i k=>hq _ {h',i,rfl,k})
   (λs' ⟨h',i,h,k⟩ s6 k6 x T y hy prog w A E hA {Q} qq=>?_) (λh2 s' ⟨h',i,h,k⟩ s6 k6 A {Q} qq=>?_) (by rw[hlen];lia) λs' gm h' l ⟨h1,i,h,k⟩ pm srt k2 hl ⟨n,gl⟩=>?_
  .subst h;let{d,_,pd,vc}:=g x T;let{d',_,U,xr}:=g y hy;rw[fV pd vc,fV U xr]at qq;show WZ pd U (vc.keeps λb o e _=>k6 b o (k b o e)) (xr.keeps λb o e _=>k6 b o (k b o e)) qq
  .subst h;show BZ (λx T=>?_) h2 qq;let{d,_,pd,vc}:=g x T;show{d,pd,vc.keeps λb o e _=>k6 b o (k b o e)}
  subst h;let{qt,st3,p2,xu}:=kS st pm srt (by rintro u d ⟨v,rv,rp⟩ r;show fV (pt d r) (S8 J rp (M6<|pt d r) rv)) pt nd;have e3:=jK xu (bE _) λd=>by rw[p2.mem_iff,L5 pt]
  subst e3;let{wv,qi,nc}:=st3.ab9;have Y:=J.kept (h':=h1) (t':=i) k;show{.ref l,_,(Y.laid (a:=l) (o:=.lst wv) (h':=h') (t':=i) k2 hl {by rw[nc.length,p2.length_eq,aAg];show aAo ve (by symm),gm,n,qi,gl}),rfl,q wv _ l sm (Y.hok.fresh hl) nc}
 rw[kn hc]at q;show q.elim
end
def ZT:kb (.type "list") "keys"=pure none:=by rw[aDf,aBZ];kernel_rfl
section
variable{prog:bc}{w:bM}{A:bt}{E:A5}{s:aL}
def LC{a:a9}{Y:Array au}{k:Nat}{sl:Array (Option au)}{u:Tok}{Q:A5}(b:s.heap.get? a=some {cls:=.type "list",dict:=none,data:=.seq Y k,slots:=sl})(d:A.handled=none)
  (h:∀h' tk e,Heap.NewAttrErr s.heap h' e (.ref a) "keys"->E (.ref e) {s with heap:=h',toks:=tk}):ba (bb prog w) A (call (.builtin "list.__getattribute__") [.ref a,.str "keys" u]) Q E s:=by
 show aGv PySem.F.slot_list_getattribute ({_,b,rfl}) am_entry_list_getattribute (PySem.F.args_list_getattribute_2 _ _) (meets_getattribute_miss_list a Y k sl "keys" _ ZT (by decide+kernel) (by decide+kernel)) {b,d,λh' f e g=>?_};show h h' f e g
def jz{a:a9}{o:Obj}{Y:Array au}{k:Nat}{Q:Option au->aL->Prop}(f:s.heap.get? a=some o)(j:o.cls=.type "list")(l:o.data=.seq Y k)(m:o.dict=none)(n:A.handled=none)
  (h:∀h' tk,(∀b i,s.heap.get? b=some i->h'.get? b=some i)->Q none {s with heap:=h',toks:=tk}):ba (bb prog w) A (getAttr? (.ref a) "keys") Q E s:=by
 let{c,p,q,x}:=o;cases j;cases l;cases m;let{r,g,d,tk,os}:=s;have u:∀t,(⟨r,g,d,t,os⟩:aL).TypeIs (.ref a) "list":=λ_=>{_,f,rfl};have y:=sub_AttributeError;have z:=PySem.F.slot_list_getattribute.lookup;have B:=PySem.F.slot_list_getattribute.bind (.ref a);have C:=am_list_getattr_none;unfold getAttr? getAttrBy? getAttrBy;repeat(any_goals(first|assumption|show u _|(show LC f n λh' H e v=>?_;let{I,J,L}:=v.there)|wp_step))
 show h _ _ (‹Heap.NewAttrErr _ _ _ _ _›:Heap.NewAttrErr _ _ _ _ _).keeps
end
section
variable [Tabs] {prog:bc}{w:bM}{A:bt}{R:Result->aL->Prop}
def fX:plainId "dict.update.loop"=true:=by decide+kernel
def wV:entryFor table "dict.update.loop"=some Builtin.«dict.update.loop»:=entryFor_of_fast (by kernel_rfl)
def SqK(h h':cf):Prop:=∀b o,h.get? b=some o->(∃a n,o.data=.seq a n)->h'.get? b=some o
def MB(h:cf)(u:au)(x:D×a9×au):Prop:=∃t o n,u=.ref t/\h.get? t=some o/\o.cls=.type "tuple"/\o.data=.seq #[.ref x.2.1,x.2.2] n/\HV h (.ref x.2.1) x.1/\C6 x.1<8
def MB.kept{h h':cf}{u:au}{x:D×a9×au}(p:MB h u x)(k:SqK h h'):MB h' u x:=by let{t,o,n,e,g,c,a,b,d}:=p;show{t,o,n,e,k t o g {_,_,a},c,a,b.ab3 k,d}
def DictOfH.kept{h h':cf}{d:a9}{Y:List (D×a9×au)}(m:h.DictOfH (Z4 prog w) d Y)(g:∀o,h.get? d=some o->h'.get? d=some o)(k:SqK h h'):h'.DictOfH (Z4 prog w) d Y:=by let{o,e,f,i,j,l,n,a,p}:=m;show{o,e,f,g o i,j,l,n,λx b=>{(a x b).1.ab3 k,(a x b).2},p}
def YT(L:A.in1.units+128<cq){l I d:a9}{items:Array au}{Y:List (D×a9×au)}(W:Walks prog w A.in1 I [I,l] [I] items.size (λi v=>items[i]?=some v) (λi h=>h.IsListIter I l i/\h.IsList l items))
  (E:d≠I) (dl:d≠l) (nd:(Y.map (·.1)).Nodup) (len:items.size=Y.length) (small:Y.length<=sizeLine):∀(m j:Nat) (s:aL) (r:Tok),Y.length-j=m->j<=Y.length->s.heap.IsListIter I l j/\s.heap.IsList l items->s.heap.DictOfH (Z4 prog w) d (Y.take j)->
  (∀(i:Nat) (u:au) (x:D×a9×au),items[i]?=some u->Y[i]?=some x->MB s.heap u x)->(∀o,s.heap.get? I=some o->¬∃its n,o.data=.seq its n)->(∀o,s.heap.get? d=some o->¬∃its n,o.data=.seq its n)->
  (∀h' tk,h'.DictOfH (Z4 prog w) d Y->(∀b o,b≠d->b≠I->s.heap.get? b=some o->h'.get? b=some o)->R (.ok (.ret .none)) {s with heap:=h',toks:=tk})->
  gn (bb prog w) A (.builtin "dict.update.loop" {[.ref d,.ref I,.int (j:Int) r,.none],[]}) R s:=by
 intro m;induction m with
 |zero=>
  intro j s r hm hj st H N nI nD q;have ej:j=items.size:=by lia
  show aBn wV ?_;rw[aBm fX _];change ba _ A.in1 (fh (.ref I)>>=_) _ _ s;show aAa (W.done s _ _ (by rw[<-ej];show st) λh' tk k=>?_);rw[aBN (by lia)]at H;have sk:SqK s.heap h':=λb o g z=>k b o (λe=>by simp at e;subst e;show nI o g z) g;show aAa (aAc (aAc (q h' tk (DictOfH.kept H (λo g=>k d o (by exists E) g) sk) λb o _ J g=>k b o (by exists J) g)))
 |succ m ih=>
  intro j s r hm hj st H N nI nD q;have ao:j<Y.length:=by lia
  obtain⟨x,hx⟩:∃x,Y[j]?=some x:={Y[j],aAk ao};have ex:Y.take (j+1)=Y.take j++[x]:=by rw[List.take_succ,hx];rfl
  show aBn wV ?_;rw[aBm fX _];change ba _ A.in1 (fh (.ref I)>>=_) _ _ s;show aAa (W.item j s _ _ (by lia) st λu O tk dc OR Q=>?_);have a:SqK s.heap O:=λb o g z=>Q b o (λe=>by simp at e;subst e;show nI o g z) g;let{t,o,n,rfl,gt,ct,dt,hv,dp}:=(N j u x dc hx).kept a;have B:=DictOfH.kept H (λo g=>Q d o (by exists E) g) a;have nk:kc (Y.take j) x.1=none:=by
   cases e:kc (Y.take j) x.1 with
   |none=>rfl
   |some p=>have h:=V9.mp (show(kc (Y.take j) x.1).isSome=true by rw[e];rfl);have ye:((Y.take<|j+1).map (·.1)).Nodup:=(nd.sublist<|(aFT _ _).map _);rw[ex,aBk]at ye;show k7 rfl ((aCE.mp ye).2.2 _ h _ (by simp))
  show aAa (aAJ<|aAa<|aEF ?_);unfold Builtin.Dict.pairItems;show aAa (aDk (T:= "tuple") {o,gt,ct} ?_);rw[km (by symm)];show aAa (aAW gt dt<|aAc ?_);change ba _ A.in1 (h9 [aCV x.2.1,x.2.2]<|dictSet d (.ref x.2.1) x.2.2) _ _ _;show aAJ (wpAny_dictSet_heap (knd:=Z4 prog w) (k:=x.1) ?room {hv,dp} B (λh2 f C=>?_) ?sz)
  case room=>show L
  case sz=>rw[aBR];lia
  rw[storedH_new nk,<-ex]at f;have dn1:∀o,O.get? d=some o->¬∃its n,o.data=.seq its n:=λo g z=>by let{od,es,ep,U,_,dd,_}:=B;rw[U]at g;cases g;let{its,n,z}:=z;rw[dd]at z;cases z
  have sk2:SqK O h2:=λb o g z=>(C.2 b (λe=>by subst e;show dn1 o g z)).trans g;show aAc {aBD fX _,ih (j+1) _ _ (by lia) (by lia) ?st f (λi u y L hy=>((N i u y L hy).kept a).kept sk2) ?nI ?nD λh' oh hD' k'=>?_}
  case st=>show{OR.1.at λo g=>(C.2 I (aCL E)).trans g,OR.2.at λo g=>(C.2 l (aCL dl)).trans g}
  case nI=>intro o g z;let{oi,gi,_,di}:=OR.1;rw[(C.2 I (aCL E)).trans gi]at g;cases g;let{its,n,z}:=z;rw[di]at z;cases z
  case nD=>intro o g z;let{od,es,ep,U,_,dd,_}:=f;rw[U]at g;cases g;let{its,n,z}:=z;rw[dd]at z;cases z
  show q h' oh hD' λb o J hi g=>k' b o J hi ((C.2 b J).trans (Q b o (by exists hi) g))
def LG{E:A5}{s:aL}{Q:A5}{l:a9}{its:Array au}{Y:List (D×a9×au)}(y:A.units+130<cq)(hh:A.handled=none)(L:ff<s.heap.objs.size)(N:∃o n,s.heap.get? l=some o/\o.cls=.type "list"/\o.data=.seq its n/\o.dict=none)
  (O:∀(i:Nat) (u:au) (x:D×a9×au),its[i]?=some u->Y[i]?=some x->MB s.heap u x) (T:(Y.map (·.1)).Nodup) (len:its.size=Y.length) (small:Y.length<=sizeLine)
  (q:∀h' tk,h'.DictOfH (Z4 prog w) s.heap.objs.size Y->(∀b o,s.heap.get? b=some o->h'.get? b=some o)->Q (.ref s.heap.objs.size) {s with heap:=h',toks:=tk}):
  ba (bb prog w) A (call (.type "dict") [.ref l]) Q E s:=by
 show callType_codes (Q₁:=λd B=>d=.ref s.heap.objs.size/\B={s with heap:=s.heap.push {cls:=.type "dict",data:=.dict #[]}}) F.kt_called_dict (F.kt_typeCall_dict_1 _) F.entry_dict_init (kt_code_dict_new _ {rfl,rfl}) ?_;rintro d B ⟨rfl,rfl⟩;let{C,U,h,k,dl,m}:=N;have k0:∀b o,s.heap.get? b=some o->(s.heap.push {cls:=.type "dict",data:=.dict #[]}).get? b=some o:=λb o g=>aAb _ g;have H:(s.heap.push {cls:=.type "dict",data:=.dict #[]}).DictOfH (Z4 prog w) s.heap.objs.size []:=Heap.DictOfH.new s.heap;show{H.typeIs,F.args_dict_init_2 _ _,?_};show aAa (aAa<|aEO H.typeIs ((aAc (?_:ba _ _ (Builtin.Dict.updateFrom "dict.__init__" s.heap.objs.size (.ref l) [] .none) _ _ _)):ba _ _ (pure (s.heap.objs.size,[aCV l])) _ _ _));show aAa (aDk {C,k0 _ _ h,k} ?_);show aAa (jz (k0 _ _ h) k dl m (by grind) λa tk1 j=>(aAa<|aCG ?_));have e:=j _ _ (k0 _ _ h);have f:a.IsList l its:={C,e,k,U,dl};show aAa (aCI f ?_);have I:∀b o,s.heap.get? b=some o->(a.push {cls:=.type "list_iterator",data:=.fields #[.ref l,.int 0 0]}).get? b=some o:=λb o g=>aAb _ (j _ _<|k0 _ _ g);have J:a.get? s.heap.objs.size=some {cls:=.type "dict",data:=.dict #[]}:=j _ _ (aAh _ rfl);have p:(a.push {cls:=.type "list_iterator",data:=.fields #[.ref l,.int 0 0]}).get? s.heap.objs.size=some {cls:=.type "dict",data:=.dict #[]}:=aAb _ J;have gi:(a.push {cls:=.type "list_iterator",data:=.fields #[.ref l,.int 0 0]}).get? a.objs.size=some {cls:=.type "list_iterator",data:=.fields #[.ref l,.int 0 0]}:=aAh _ rfl;have r:s.heap.objs.size≠l:=aBY (aAd h);show aAc {aBD fX _,YT (by omega) (aGV (w:=w) (A:=A.in1.in1) (by grind) a.objs.size l (aAl<|aAd e) its) (aAl<|aAd J) r T len small Y.length 0 _ _ (by simp) (aAS _) {{_,gi,rfl,rfl},f.at λo g=>aAb _ g} {_,#[],0,p,{rfl,rfl,rfl},rfl,rfl,λx t=>by simp at t,aCY} (λi u x y t=>(O i u x y t).kept λb o g _=>I b o g) (λo g z=>?_) (λo g z=>?_) λh' oh v k'=>?_}
 .grind
 .grind
 show{rfl,q h' oh v λb o g=>k' b o (aAl<|aAd g) (aAl<|aAd<|j _ _<|k0 _ _ g) (I b o g)}
end
section
variable [Tabs]
def DA:List D->Option (List (D×D))
 |[]=>some []
 |.tup [k,v]::r=>(DA r).map ((k,v)::·)
 |_=>none
theorem CJ:∀(l:List (D×D)),DA (l.map λp=>.tup [p.1,p.2])=some l:=by
 intro a;cases a with
 |nil=>rfl
 |cons p l=>rw[aAm,DA,CJ l];rfl
theorem wC:∀{ds:List D}{l:List (D×D)},DA ds=some l->ds=l.map λp=>.tup [p.1,p.2]:=by
 intro a l h;cases a with
 |nil=>cases h;rfl
 |cons d r=>
  unfold DA at h;split at h
  .grind
  .rename_i k v b e;cases q:DA b with
   |none=>rw[q]at h;cases h
   |some m=>rw[q]at h;cases h;injection e with f g;rw[f,g,aAm,wC q]
  cases h
theorem TN(I:Inv X l σ H s):∀{N:List (D×D)}{m:List V}{e:List au},Reps X.K H O m (N.map λp=>.tup [p.1,p.2])->o5 m e->(∀p∈N,J6 7 p.1=true/\rP p.1=true)->
  ∃Y:List (D×a9×au),Y.map (·.1)=N.map (·.1)/\e.length=Y.length/\(∀(i:Nat) (u:au) (x:D×a9×au),e[i]?=some u->Y[i]?=some x->MB s.heap u x)/\
   Paired (λ(x:D×a9×au) (p:D×D)=>x.1=p.1/\Rep X.K H O (.ref x.2.1) p.1/\(∃v,RelV v x.2.2/\Rep X.K H O v p.2)/\J6 7 p.1=true) Y N:=by
 intro y _ _ r v t;cases y with
 |nil=>cases r;cases v;show{[],rfl,rfl,λi u x h=>by simp at h,.nil}
 |cons p N=>
  cases r with
  |cons z A=>
   cases v with
   |cons v1 B=>
    let{Y,C,E,J,L}:=TN I A B λq Q=>t q (.tail _ Q);let{w,T}:=t p (.head _);let{ok,dp}:=gG w;cases z with
    |tup h a=>
     cases v1;cases a with
     |cons f a=>
      cases a with
      |cons U a=>
       cases a;let{b,rfl}:=cD f T;let{its,d,tp,_}:=I.tuple h;let{o,g,c,n,dd}:=tp;cases d with
       |cons w1 d=>cases d with
        |cons w2 d=>
         cases d;cases w1;rename_i u2;show{(p.1,b,u2)::Y,by rw[aAm,aAm,C],by rw[aAr,aAr,E],λi u x j k=>?_,.cons {rfl,f,{_,w2,U},w} L};cases i with
         |zero=>simp at j k;subst j k;show{_,o,n,rfl,g,c,dd,S8 I f ok rfl,by change C6 p.1<8;lia}
         |succ i=>show J i u x (by exists j) (by exists k)
def xQ(w:X.calm=true)(y:X.A.units+130<cq):qO X (.type "dict") (λws H Q=>∃O p d N,ws=[.ref p]/\K4 X.K H p d/\Reps X.K H O d (N.map λp=>.tup [p.1,p.2])/\(∀p∈N,J6 7 p.1=true/\rP p.1=true)/\(N.map (·.1)).Nodup/\N.length<=sizeLine/\
  ∀a o es,H a=none->tE a o es->cK X.K H O es N->Q (.ref a) (upd H a (.ext λh=>h.get? a=some o))):=by
 intro m s σ H ws us Q I r h;let{O,p,d,N,rfl,z,B,C,E,hz,q}:=h;let{u,rfl,J}:=vals1 r;cases J;let{L,T,U,_}:=I.list z;let{Y,n,a2,a3,a4}:=TN I B T C;have b:ff<s.heap.objs.size:=aEK (by symm) (I.mod.glob.keeps I.bk).lt;let{oL,nL,gL,cL,dL,sL}:=U;have len:Y.length=N.length:=by have:=kM aFY n;exists this
 show LG y (I.ok.hd w) b {oL,_,gL,cL,sL,dL} (λi u x h1 t=>a3 i u x (by nofun) t) (n▸E) (by omega) (by nofun) λh' tk hD k=>?_;let{f,g,j,v,l,qf,uh,is',nd'}:=hD;show{.ref s.heap.objs.size,_,(I.laid (o:=.ext λh=>h.get? s.heap.objs.size=some f) (h':=h') (t':=tk) k (aAi _) {v,{f,v},λh1 t e k=>k _ e}),rfl,q _ f _ (I.hok.fresh<|aAi _) {beq_false_of_ne (aBY b),l,g,j,qf,rfl} (uh▸II a4)}
open Classical in
def JD:List D->R D
 |[.lst a]=>match DA a with
  |some N=>if(∀p∈N,J6 7 p.1=true/\rP p.1=true)/\(N.map (·.1)).Nodup/\N.length<=sizeLine then .ok (.dct N)else .bad
  |none=>.bad
 |_=>.bad
def iq(g:X.calm=true)(h:X.A.units+130<cq):aW X (.type "dict") JD:=by
 intro H O s i Q j r q;match i,q with
 |[.lst Y],q=>
  let{v,rfl,z}:=FQ r;let{p,k,rfl,l,f}:=z.aa5;erw[JD]at q;cases e:DA Y with
  |none=>rw[e]at q;show q.elim
  |some N=>
   rw[e]at q;dsimp only at q;by_cases b:(∀p∈N,J6 7 p.1=true/\rP p.1=true)/\(N.map (·.1)).Nodup/\N.length<=sizeLine
   .rw[km b]at q;rw[wC e]at f;show{_,xQ g h,O,p,k,N,rfl,l,f,b.1,b.2.1,b.2.2,λa o t d m n=>q _ _ (j3 d _) (.dct j1 m (j a d) b.2.1 ((n.mono λr=>r.same (j3 d _)).ab9))}
   rw[kn b]at q;show q.elim
section
variable{o:ck}{to:TE}{name:Str}{apos ah:Pos}{T id:String}{r:V->List V->Hp->VK->Prop}
def XT{Ty:V->Hp->Prop}(l:PlainAttrs T)(slot:Slot T name id)(f:typeOf (.builtin id)=pure (.type "method_descriptor"))(m:MtR X id r)
  (n:∀b s d H x v,Inv X b d H s->RelV x v->Ty x H->s.TypeIs v T/\∀a,v=.ref a->∃g,s.heap.get? a=some g/\g.dict=none) (p:PE X o to)
  (q:fb o name X.env (cy o X.env)=cy o X.env<|>1) (t:(apos.endLine==ah.line)=true<|>1):
  PE X (.Call (.Attribute o name apos) [] [] ah) (λd H Q=>to d H λx e=>Ty x e/\r x [] e Q):=by
 intro b s d H Q I h;show wpAny_Call_method0_late q t (D3 (p b s d H _ I h) λv i ⟨x,e,j,k,u,w⟩=>?_);let{y,z}:=n b i d e x v j k u;show{T,id,l,slot,f,y,z,aEw rfl (PySem.evalArgs_none<|m b i d e x [] v [] Q j k .nil w)}
end
def vwO(a:a9):Obj:={cls:=.type "dict_values",data:=.fields #[.ref a]}
def rDv:V->List V->Hp->VK->Prop:=λx b H Q=>∃a o d,x=.ref a/\b=[]/\H a=some (.ext λh=>h.get? a=some o)/\tE a o d/\∀v,H v=none->Q (.ref v) (upd H v<|.ext λh=>h.get? v=some (vwO a))
def WI:MtR X "dict.values" rDv:=by
 intro d s r H x t v u Q I g i h;let{a,o,w,rfl,rfl,j,l,q}:=h;cases i;cases g;let{b,m,y,z,n,_}:=l;show SD.vals_dv b {o,(I.hok a _ j).1,m,n} ?_;have f:(s.heap.push<|vwO a).get? s.heap.objs.size=some (vwO a):=aAh _ rfl;have p:=I.laid (o:=.ext λh=>h.get? s.heap.objs.size=some (vwO a)) (h':=s.heap.push (vwO a)) (t':=s.toks) (λ_ _ q=>aAb _ q) (aAi _)
  {f,{_,f},λA B e k=>k _ e}
 show{.ref s.heap.objs.size,_,p,rfl,q _ (I.hok.fresh<|aAi _)}
def pD(d:D):R D:=match d with
 |.dct N=>match Y0 (N.map (·.2))with
  |some a=>.ok (.int a.sum)
  |none=>.bad
 |_=>.bad
theorem IT(ns:List Int):∀n,PySem.preSum (λi=>ns.getD i 0) n=(ns.take n).sum
 |0=>by simp[PySem.preSum]
 |n+1=>by
  rw[PySem.preSum,IT ns n];by_cases h:n<ns.length
  .rw[List.take_succ_eq_append_getElem h,List.sum_append,aAp,aAk h];simp
  rw[aBN (by lia),aBN (by lia),aAp,aGr (by lia)];simp
def HJ{K:lM}{H:Hp}{O:a9->Prop}:∀{es:List dq}{N:List (D×D)}{ns:List Int},cK K H O es N->N.map (·.2)=ns.map D.int->es.length=ns.length/\∀(i:Nat) (e:dq),es[i]?=some e->∃t,e.val=aGp (ns.getD i 0) t:=by
 intro _ _ ns z q;induction z generalizing ns with
 |nil=>cases ns with
  |nil=>show{rfl,λi e h=>by simp at h}
  |cons=>cases q
 |cons h _ b=>cases ns with
  |nil=>cases q
  |cons n ns=>
   rw[aAm,aAm]at q;injection q with d g;let{l,f}:=b g;show{by rw[aAr,aAr,l],λi j a=>?_};cases i with
   |zero=>simp at a;subst a;let{_,{v,k,r},_}:=h;rw[d]at r;cases r;show k
   |succ i=>show f i j (by exists a)
def YM(i:Nat){x:Str}{p n f y l:Pos}(hh:X.calm=true)(hN:X.N[i]?=some x<|>1)(hv:zS X.env.scope x<|>5)(hd:(x==ma)=false<|>2)(eh:(x==md)=false<|>2)
  (cg:fb (.Name x n) "values" X.env (cy (.Name x n) X.env)=cy (.Name x n) X.env<|>1) (bp:(f.endLine==y.line)=true<|>1) (hg:Gl X "sum"<|>1) (hm:X.mg "sum"=none<|>4) (hb:cu "sum"=some (.builtin "sum")<|>3)
  (he:a5 [.Call (.Attribute (.Name x n) "values" f) [] [] y] X.env=(false,cy (.Call (.Attribute (.Name x n) "values" f) [] [] y) X.env)::a5 [] X.env<|>1) (bo:(cv l (a5 [] X.env)).any (·.1)=false<|>1):
  PD X (.Call (.Name "sum" p) [.Call (.Attribute (.Name x n) "values" f) [] [] y] [] l) (λρ=>(M1 i ρ).bind pD):=by
 show rM λj s σ H Q I H9 O0 O ρ E q=>?_;dsimp only at q;show aAP (K9 I hg hm hb ?_ (by symm) (by symm));unfold M1 at q;cases B:ρ[i]? with
 |none=>rw[B]at q;show(q).elim
 |some sl=>
  rw[B]at q;cases sl with
  |v d=>
   rw[R.aa0]at q;unfold pD at q;cases d with
   |dct N=>
    dsimp only at q;cases C:Y0 (N.map (·.2))with
    |none=>rw[C]at q;show(q).elim
    |some J=>
     rw[C]at q;let{v,L,r0}:=E.val i _ B;let{a,o,z,rfl,T,U,h6,h7}:=(y8.of r0).ad8;have m:=XT (Ty:=TyD) PySem.F.plainAttrs_dict PySem.F.slot_dict_values PySem.F.type_dict_values WI (λj s σ H x v I r h=>by let{a,o,z,rfl,L,h2}:=h;cases r;have g:=(I.hok a _ L).1;show{{o,g,h2.2.1.1},λb e=>by cases e;show{o,g,h2.2.1.2.1}}) (M9 hN hv hd eh) cg bp
     show aBu (D3 ((J5 m aR he) l j s σ H (λvs t=>∃v,vs=[.ref v]/\Same H t/\t v=some (.ext λh=>h.get? v=some (vwO a))) I {.ref a,L,{a,o,z,rfl,T,U},a,o,z,rfl,rfl,T,U,λv hn=>{v,rfl,j3 hn _,j1}}) λus s1 z9=>?_) he bo;let{vs,t,A,r1,v,ev,Y,hvw}:=z9;subst ev;let{u,rfl,ru}:=vals1 r1;cases ru;have h4':=Y a _ T;have h6':cK X.K t O z N:=h6.rep.mono λr=>r.same Y;let{len,val}:=HJ h6' (O9 C);let{hsys,hx,ea,ep,jf,w}:=U;have sz:ea.size=J.length:=by rw[<-len,<-w,aBp]
     show SD.sum_dv (A.ok.hd hh) {vwO a,((A.hok v _ hvw).1),rfl,rfl} {o,(A.hok a _ h4').1,hx,jf} (λi=>J.getD i 0) (λi e h=>val i e (by rw[<-w,aAx];show h)) λh' tk t' k=>?_;rw[IT,sz,List.take_length];show{.int J.sum,t,A.kept k,{t',rfl},q _ t Y .int}
   |_=>show(q).elim
  |_=>show(q).elim
end
end DL
namespace M
open PySem L2 DL
variable [Tabs]
def fd4(f:G.V×Int):D:=uM f.1 f.2
def R8(a n:Nat):List D:=(aCP a n).map λ(k:Nat)=>D.int (k:Int)
def a9f{a b:Nat}(d:a<=1000000)(h:b<=1000000):fP [.int (a:Int),.int (b:Int)]=.ok (R8 a (b-a)):=by
 change(if tM (a:Int) (b:Int) 1 then R.ok (yL a 1<|jN a b 1)else R.bad)=_;rw[km {by symm,by symm,by lia,by lia,by lia,by lia}];have e:jN (a:Int) (b:Int) 1=b-a:=by
  unfold jN;split
  .simp
  lia
 rw[e];unfold yL R8;rw[aFX,aAK];congr 1;show aDn λk _=>?_;simp
def SB{n:Nat}(h:n<=1000000):fP [.int (n:Int)]=.ok (R8 0 n):=by rw[a9r h];unfold R8;rw[aGE]
theorem rB{G:D->Ev->R Ev}{F:Ev->R Out}(Iv:Nat->Ev->Prop):∀{n a:Nat}{ρ:Ev},(∀i,a<=i->i<a+n->∀ρ,Iv i ρ->∃ρ2,O5 G F (.int (i:Int)) ρ=.ok (.nx ρ2)/\Iv (i+1) ρ2)->Iv a ρ->∃ρ',P4 G F (R8 a n) ρ=.ok (.nx ρ')/\Iv (a+n) ρ'
 |0,a,ρ,_,h=>{ρ,rfl,h}
 |n+1,a,ρ,d,h=>by
  let{ρ2,e,f}:=d a (aAi _) (by lia) ρ h;let{ρ',g,j}:=rB Iv (n:=n) (λi l f=>d i (by lia) (by lia)) f;show{ρ',?_,by rw[show a+(n+1)=a+1+n by lia];show j};change P4 G F (.int (a:Int)::R8 (a+1) n) ρ=_;unfold O5 at e;cases b:G (.int (a:Int)) ρ with
  |ok k=>rw[b]at e;show(N2 b e).trans g
  |ex z=>rw[b]at e;cases e
  |bad=>rw[b]at e;cases e
def uz(N:List (D×D)):List D:=N.map (·.1)
def Cov(S:List G.V)(N:List (D×D))(i j k:Nat):Prop:=∀A B C,S[i]?=some A->S[j]?=some B->S[k]?=some C->(G.Up S A B C->fd4 (G.j6 A B C)∈uz N)/\(G.Dn S A B C->fd4 (G.j6 A C B)∈uz N)
def fq(S:List G.V)(N:List (D×D))(i j k:Nat):Prop:=∀b a d,b<a->a<d->(b<i\/(b=i/\(a<j\/(a=j/\d<k))))->Cov S N b a d
def jA(S:List G.V)(c A:G.V):List Int:=S.map λX=>G.c6 c (X-A)
def QI{G:D->Ev->R Ev}{F:Ev->R Out}{Post:Ev->Prop}{n a:Nat}{ρ:Ev}(Iv:Nat->Ev->Prop)(d:∀i,a<=i->i<a+n->∀ρ,Iv i ρ->∃ρ2,O5 G F (.int (i:Int)) ρ=.ok (.nx ρ2)/\Iv (i+1) ρ2)(h0:Iv a ρ)(b:∀ρ',Iv (a+n) ρ'->Post ρ'):∃ρ2,P4 G F (R8 a n) ρ=.ok (.nx ρ2)/\Post ρ2:=by let{ρ',e,h}:=rB Iv d h0;show{ρ',e,b ρ' h}
def JE{G:D->Ev->R Ev}{F b:Ev->R Out}{d:D}{n a:Nat}{ρ:Ev}(Iv:Nat->Ev->Prop)(f:∀i,a<=i->i<a+n->∀ρ,Iv i ρ->∃ρ2,O5 G F (.int (i:Int)) ρ=.ok (.nx ρ2)/\Iv (i+1) ρ2)(h0:Iv a ρ)(g:∀ρ',Iv (a+n) ρ'->F7 (b ρ')=.ok d):F7 (A3 (P4 G F (R8 a n) ρ) b)=.ok d:=by let{ρ',e,h}:=rB Iv f h0;rw[e];show g ρ' h
def xq{r:R Out}{ρ:Ev}{F:Ev->R Out}{x:R Out}(a:r=.ok (.nx ρ))(b:F ρ=x):A3 r F=x:=by rw[a];show b
def rE{S:List G.V}{i:Nat}{A:G.V}(h:S[i]?=some A):V6 (.lst (S.map vd)) (.int (i:Int))=.ok (vd A):=dH (by rw[W6 (by lia),aBI,aAF,h];rfl)
def ZV{S:List G.V}{c A:G.V}(h:S≠[]):IS [.lst ((jA S c A).map D.int)]=.ok (.int (CQ (jA S c A)))/\CU [.lst ((jA S c A).map D.int)]=.ok (.int (oV (jA S c A))):=by
 have ne:jA S c A≠[]:=by unfold jA;exists h
 constructor
 .erw[IS,kA];show km ne
 erw[CU,kA];show km ne
def pQ(cs:List G.V)(k:Int):G.V:=cs.getD (k.fmod cs.length).toNat 0
def YH{cs:List G.V}(h:cs≠[])(k:Int):pQ cs k∈cs/\cs[(k.fmod cs.length).toNat]?=some (pQ cs k)/\0<=k.fmod cs.length:=by
 have b:(0:Int)<cs.length:=by
  have:cs.length≠0:=λz=>h (aBS z)
  lia
 have r:=w5 (a:=k) b;have d:(k.fmod cs.length).toNat<cs.length:=by lia
 unfold pQ
 nofun
def OX{cs:List G.V}(h:cs≠[])(k:Int):V6 (.lst (cs.map vd)) (.int (k.fmod cs.length))=.ok (vd (pQ cs k)):=by let{_,e,r}:=YH h k;show dH (by rw[W6 r,aAF,e];rfl)
def Q5{b β f:Type}{e:D->Ev->R Ev}{fe:Ev->R D}{ρ:Ev}{K:List D->R f}(rep:b->D)(d:β->D)(g:b->β)(l:List b)(i:l.length<=30000)(h:∀a∈l,∃ρ1,e (rep a) ρ=.ok ρ1/\fe ρ1=.ok (d (g a))):(if(l.map rep).length<=sizeLine then(x9 e (λ_=>.ok true) fe ρ (l.map rep)).bind K else .bad)=K ((l.map g).map d):=by rw[km (aAo (by rw[aAg];show i) (by symm)),CW rep d g l h];rfl
def YA{b β:Type}{e:D->Ev->R Ev}{fe:Ev->R D}{ρ:Ev}(rep:b->D)(d:β->D)(g:b->β)(l:List b)(f:l.length<=30000)(h:∀a∈l,∃ρ1,e (rep a) ρ=.ok ρ1/\fe ρ1=.ok (d (g a))):(if(l.map rep).length<=sizeLine then x9 e (λ_=>.ok true) fe ρ (l.map rep)else .bad)=.ok ((l.map g).map d):=by rw[km (aAo (by rw[aAg];show f) (by symm)),CW rep d g l h]
def i9{a β:Type}{r:R a}{x:a}{F:a->R β}{y:R β}(b:r=.ok x)(d:F x=y):r.bind F=y:=by rw[b];show d
def D2{a:Type}{r:R Bool}{A B:R a}(h:r=.ok false):(r.bind λt=>if t=true then A else B)=B:=by rw[h];rfl
def iH{f g:Ev->R Bool}{ρ:Ev}(a:f ρ=.ok false)(b:g ρ=.ok false):orB f g ρ=.ok false:=by unfold orB;rw[a];show b
def eS{f:Ev->R Bool}{ρ:Ev}(h:f ρ=.ok true):a4h f ρ=.ok false:=by unfold a4h;rw[h];rfl
def UE(l:List Int):jw [.lst (l.map D.int)]=.ok (.int l.sum):=by erw[jw,kA]
def a5i{a:Type}{r:R a}{x:a}{F:a->R Out}{J:Ev->Prop}(b:r=.ok x)(d:∃ρ2,F x=.ok (.nx ρ2)/\J ρ2):∃ρ2,r.bind F=.ok (.nx ρ2)/\J ρ2:=by rw[b];show d
def HR{i:Nat}{F:Ev->R Out}{d:D}{ρ ρ':Ev}{J:Ev->Prop}(e:ρ.set i (.v d)=ρ')(h:∃ρ2,F ρ'=.ok (.nx ρ2)/\J ρ2):∃ρ2,O5 (λd ρ=>.ok (ρ.set i (Sl.v d))) F d ρ=.ok (.nx ρ2)/\J ρ2:=by subst e;show h
def a4f{f g:Ev->R Bool}{ρ:Ev}(h:f ρ=.ok false):AB f g ρ=.ok false:=by unfold AB;rw[h];rfl
def ay{f g:Ev->R Bool}{ρ:Ev}{b:R Bool}(h:f ρ=.ok true)(a:g ρ=b):AB f g ρ=b:=by unfold AB;rw[h];show a
def tj{r:R Bool}{A B:R Out}{J:Ev->Prop}(h:r=.ok true)(a:∃ρ2,A=.ok (.nx ρ2)/\J ρ2):∃ρ2,(r.bind λt=>if t=true then A else B)=.ok (.nx ρ2)/\J ρ2:=by rw[h];show a
def TV(P Q:G.V):OK (vd P) (vd Q)=.ok (.bl (decide (P≠Q))):=by
 have d:∀v:G.V,C6 (vd v)<=40:=λv=>by simp[C6,x4]
 unfold OK;rw[km {d P,d Q}];by_cases h:P=Q
 .subst h;simp[N1]
 cases e:u7 (vd P) (vd Q)with
 |false=>simp[h]
 |true=>show k7 (K8 (cS (by simp[mZ,aY]) (by simp[mZ,aY]) e)) h
def A4{f:Ev->R D}{ρ:Ev}{a:D}(b:f ρ=.ok a):o8 f P9 ρ=.ok [a]:=by nofun
def A2{f g:Ev->R D}{ρ:Ev}{a b:D}(d:f ρ=.ok a)(e:g ρ=.ok b):o8 f (o8 g P9) ρ=.ok [a,b]:=by nofun
def getD_at{l:List G.V}{j:Nat}(h:j<l.length):l[j]?=some (l.getD j 0):=by nofun
def B9{l:List G.V}{j:Nat}(h:j<l.length):l.getD j 0∈l:=aAs (getD_at h)
def LOk(l:List G.V):Prop:=bB 900 l/\G.j7 l/\(e9 l).length<=14
theorem U7:∀l:List G.V,G.m7 l=(aBz (l.length-1)).map λj=>(l.getD j 0,l.getD (j+1) 0)
 |[]=>rfl
 |[_]=>rfl
 |a::b::r=>by rw[G.m7,(U7 (b::r))];erw[aAr,Nat.add_sub_cancel];rw[aEv,aAm,aAK];rfl
section
variable{l:List G.V} (h:LOk l)
include h
theorem LOk.ad3:(∀f,f∈n6 (e9 l)↔G.IsFace (e9 l) f.1 f.2)/\n6 (e9 l)≠[]/\(n6 (e9 l)).Nodup:=by let{a,b,d}:=h;let{i,j,_}:=lG a b d;let{m,r,e,L}:=bZ a b (by lia);have g:=L3 L (e▸d);rw[<-e]at g;show{i,j,M3 (X5 g.2)}
end
def lp{b:Type}:Nat->(Nat->b->b)->b->b
 |0,_,a=>a
 |n+1,f,a=>f n (lp n f a)
theorem zE{b:Type}{f:Nat->b->b}{a:b}(P:b->Prop)(h0:P a):∀{n:Nat},(∀k<n,∀x,P x->P (f k x))->P (lp n f a)
 |0,_=>h0
 |n+1,h=>h n (aDt n) _ (zE P h0 λk d=>h k (aBB d))
theorem yO{b:Type}{f:Nat->List b->List b}{a:List b}{y:b}(mono:∀k x,y∈x->y∈f k x):∀{n:Nat},y∈a->y∈lp n f a
 |0,h=>h
 |n+1,h=>mono n _ (yO mono h)
theorem yV{b:Type}{f:Nat->List b->List b}{a:List b}{y:b}(mono:∀k x,y∈x->y∈f k x){k:Nat}(d:∀x,y∈f k x):∀{n:Nat},k<n->y∈lp n f a
 |n+1,h=>by
  by_cases e:k=n
  .subst e;show d _
  show mono n _ (yV mono d (by lia))
structure Bd4(L:List G.V):Prop where
 sz:bB 900 L
 sol:G.j7 L
 ord:L.Pairwise λa b=>G.f8 (b-a)
 len:L.length<=14
 cor:∀X∈L,∃f:G.V×Int,G.IsFace L f.1 f.2/\X∈G.i8 L f
section
variable{L:List G.V} (h:Bd4 L)
include h
theorem Bd4.self:e9 L=L:=fA h.ord
theorem Bd4.lok:LOk L:={h.sz,h.sol,by rw[h.self];show h.len}
theorem Bd4.ad3:(∀f,f∈n6 L↔G.IsFace L f.1 f.2)/\n6 L≠[]/\(n6 L).Nodup:=by have:=h.lok.ad3;rw[h.self]at this;show this
theorem Bd4.on{f:G.V×Int}(i:G.IsFace L f.1 f.2){X:G.V}(n:X∈G.x5 f.1 f.2 L):X∈G.i8 L f:=by
 let{a,e}:=G.d5.mp n;let{g,b,j}:=h.cor X a;let{o,u,p,q,k,r,d,l,s,t}:=G.kI h.sol h.ord b j;by_cases z:f=g
 .rw[z];show j
 by_cases m:f=o
 .subst m;show G.tV h.sol h.ord a i b q e l t k.symm d r
 show G.tV h.sol h.ord a i b p e l s z m k
end
section
variable{L:List G.V} (h:Bd4 L)
include h
end
def a5s{l:List G.V}(b:l≠[])(c:Int):(c.fmod l.length).toNat<l.length/\0<=c.fmod l.length/\(0:Int)<l.length:=by
 have d:(0:Int)<l.length:=by
  have:l.length≠0:=λz=>b (aBS z)
  lia
 have r:=w5 (a:=c) d
 lia
def a7h{J:List G.V}(f:bB 900 J)(g:G.j7 J)(h:(e9 J).length<=14):Bd4 (B8 J):=by
 let{a,b,d,e,i,l}:=OH f g h;show{b,a,z7 _,e,λX j=>?_};have k:X∈B8 (B8 J):=by rw[i];show j
 have:=(qN b a (by rw[d];show e) X).mp k;rw[d]at this;show this
end M
namespace SZ
open PySem
def a7x{s:aL}{Q:A5}(d1:t<n)(d2:l<n)(hz:IsZip s.heap (n+4) (n+2) (n+3) .none)(L:dA s.heap (n+2) (.ref n) (.ref (n+1)))(N:dA s.heap (n+3) a b)(h1:s.heap.IsTupleIter n t k)(h2:s.heap.IsListIter (n+1) l k)(jd:s.heap.IsTuple t Y)(jl:s.heap.IsList l ys)(hx:Y[k]?=some x)(hy:ys[k]?=some y)
  (hQ:∀h',IsZip h' (n+4) (n+2) (n+3) (dm s.heap.objs.size)->dA h' (n+3) x y->h'.IsTupleIter n t (k+1)->h'.IsListIter (n+1) l (k+1)->dA h' s.heap.objs.size x y->
   (∀c o,c<n\/c=n+2\/n+4<c->s.heap.get? c=some o->h'.get? c=some o)->Q (.ref s.heap.objs.size) {s with heap:=h'}):
  ba (bb prog w) A (Builtin.«zip.__next__» {[.ref (n+4)],[]}) (λO s'=>∃v,O=.done (.ret v)/\Q v s') E s:=by
 change ba _ _ (field (.ref (n+4)) 2>>=_) _ _ _;show aAa (aBi hz rfl (x:=.bool false) rfl ?_);change ba _ _ (field (.ref (n+4)) 3>>=_) _ _ _;show aAa (aBi hz rfl (x:=.ref (n+2)) rfl ?_);show aAa (aAW L rfl ?_);change ba _ _ (aBU (.ref (n+4))>>=_) _ _ _;show aAa ?_;unfold aBU;show aAa (aBi hz rfl (x:=.none) rfl<|aAc ?_);erw[if_true];show aAa (aCG ?_);show aAa (aBi hz rfl (x:=.ref (n+3)) rfl ?_);show aAa (aBf hz (by simp) λj T B=>?_);replace T:IsZip j (n+4) (n+2) (n+3) .ellipsis:=T;show aAa ?_;erw[List.zipIdx_cons,List.zipIdx_nil,aDd,aFN];show aAa (aAa<|aEo ?_);change ba _ _ (aBq (.ref n)>>=_) _ _ _;show aAa (QW (h1.extBut B.extBut (by lia)) (jd.extBut B.extBut (by lia)) hx λgc U je=>aAc ?_);have k2:∀c o,c≠n+4->c≠n->s.heap.get? c=some o->gc.get? c=some o:=λc o i c2 e=>je.extBut _ _ c2 (B.extBut _ _ i e);have vg:dA gc (n+3) a b:=k2 _ _ (by lia) (by lia) N;show aAa (aAW vg rfl ?_);show aAa (aDS vg λhV ql C=>?_);replace ql:dA hV (n+3) x b:=ql;have k3:∀c o,c≠n+4->c≠n->c≠n+3->s.heap.get? c=some o->hV.get? c=some o:=λc o i c2 c3 e=>C.extBut _ _ c3 (k2 c o i c2 e);show aAa (aDK<|aAc ?_);show aAa (aAa<|aEo ?_);change ba _ _ (aBq (.ref (n+1))>>=_) _ _ _;show aAa (aCR (h2.at λo e=>k3 _ o (by lia) (by lia) (by lia) e) (jl.at λo e=>k3 _ o (by lia) (by lia) (by lia) e) hy λaA h20 m=>aAc ?_);have vh:dA aA (n+3) x b:=m.extBut _ _ (by lia) ql;show aAa (aAW vh rfl ?_);show aAa (aDS vh λd H p=>?_);replace H:dA d (n+3) x y:=H;have k5:∀c o,c<n\/c=n+2\/n+4<c->s.heap.get? c=some o->d.get? c=some o:=λc o f e=>p.extBut _ _ (by lia) (m.extBut _ _ (by lia) (k3 c o (by lia) (by lia) (by lia) e));show aAa (aDK<|aAc<|aAc ?_);show aAa (aAW H rfl ?_);show aAa (aFM ?_);have fu:d.objs.size=s.heap.objs.size:=by rw[p.1,m.1,C.1,je.1,B.1]
 have q:IsZip d (n+4) (n+2) (n+3) .ellipsis:=p.extBut _ _ (by lia) (m.extBut _ _ (by lia) (C.extBut _ _ (by lia) (je.extBut _ _ (by lia) T)));have h11:d.IsTupleIter n t (k+1):=((U.extBut C.extBut (by lia)).extBut m.extBut (by lia)).extBut p.extBut (by lia);have h21:d.IsListIter (n+1) l (k+1):=h20.extBut p.extBut (by lia);have vo:n+4<d.objs.size:=aAd q;change ba _ _ (aBP (.ref (n+4)) (.ref d.objs.size)>>=_) _ _ _;show aAa ?_;unfold aBP;have hz5:IsZip (d.push {cls:=.type "tuple",data:=.seq #[x,y]}) (n+4) (n+2) (n+3) .ellipsis:=aAb _ q;show aAa (aBf hz5 (by simp) λaC h r=>?_);replace h:IsZip aC (n+4) (n+2) (n+3) (dm d.objs.size):=h;show aBf h (by simp) λI g u=>?_;replace g:IsZip I (n+4) (n+2) (n+3) (dm d.objs.size):=g;have J:∀c o,c≠n+4->d.get? c=some o->I.get? c=some o:=λc o i e=>u.extBut _ _ i (r.extBut _ _ i<|aAb _ e);have z:dA I d.objs.size x y:=u.extBut _ _ (aBY vo) (r.extBut _ _ (aBY vo)<|aAh _ rfl);rw[fu]at g z;show aAc {_,rfl,?_};change Q (.ref d.objs.size) _;rw[fu];show hQ I g (J _ _ (by lia) H) (h11.at λo e=>J _ o (by lia) e) (h21.at λo e=>J _ o (by lia) e) z λc o f e=>J c o (by lia) (k5 c o f e)
def a9n{s:aL}{Q:Fin->aL->Prop}(p:A.handled=none)(C:t<n)(hz:IsZip s.heap (n+4) (n+2) (n+3) .none)(g:dA s.heap (n+2) (.ref n) (.ref (n+1)))(q:s.heap.IsTupleIter n t k)(r:s.heap.IsTuple t Y)(u:Y[k]?=none)
  (hE:∀h' e,(∀c o,c<n\/c=n+2\/n+4<c->s.heap.get? c=some o->h'.get? c=some o)->(∃o,h'.get? e=some o/\o.cls=.type "StopIteration")->E (.ref e) {s with heap:=h'}):
  ba (bb prog w) A (Builtin.«zip.__next__» {[.ref (n+4)],[]}) Q E s:=by
 change ba _ _ (field (.ref (n+4)) 2>>=_) _ _ _;show aAa (aBi hz rfl rfl<|aAa<|aBi hz rfl rfl<|aAa<|aAW g rfl<|aAa ?_);show aAa (aBi hz rfl rfl<|aAc ?_);erw[if_true];show aAa (aCG (aAa (aBi hz rfl rfl (aAa (aBf hz (by simp) λj v h=>(aAa<|aAa<|aAa<|aEo ?_))))));show aAa (kw p (q.extBut h.extBut (by lia)) (r.extBut h.extBut (by lia)) u λH e l y=>?_);let{z,a,b}:=y;have d:=l _ _ (by lia) v;have i:e≠n+4:=λx=>by subst x;rw[d]at a;cases a;simp at b
 show aBf d (by simp) λB _ m=>hE B e (λc o f x=>m.extBut _ _ (by lia) (l _ _ (by lia) (h.extBut _ _ (by lia) x))) {z,m.extBut _ _ i a,b}
def a5v{s:aL}{Q:Option au->aL->Prop}(g:t<n)(h:l<n)(hz:IsZip s.heap (n+4) (n+2) (n+3) .none)(d:dA s.heap (n+2) (.ref n) (.ref (n+1)))(e:dA s.heap (n+3) a b)(i:s.heap.IsTupleIter n t k)(j:s.heap.IsListIter (n+1) l k)(m:s.heap.IsTuple t Y)(p:s.heap.IsList l q)(r:Y[k]?=some x)(u:q[k]?=some y)
  (v:∀h',IsZip h' (n+4) (n+2) (n+3) (dm s.heap.objs.size)->dA h' (n+3) x y->h'.IsTupleIter n t (k+1)->h'.IsListIter (n+1) l (k+1)->dA h' s.heap.objs.size x y->
   (∀c o,c<n\/c=n+2\/n+4<c->s.heap.get? c=some o->h'.get? c=some o)->Q (some (.ref s.heap.objs.size)) {s with heap:=h'}):ba (bb prog w) A (fh (.ref (n+4))) Q E s:=by
 have f:s.TypeIs (.ref (n+4)) "zip":={_,hz,rfl};show aAa (aCU (aAX f aCr
  (aAG aCr f aET (a7x g h hz d e i j m p r u λh' z B C H I J=>aAc (v h' z B C H I J))<|aEA _)))
def a6b{s:aL}{Q:Option au->aL->Prop}(q:A.handled=none)(d:t<n)(hz:IsZip s.heap (n+4) (n+2) (n+3) .none)(a:dA s.heap (n+2) (.ref n) (.ref (n+1)))(f:s.heap.IsTupleIter n t k)(g:s.heap.IsTuple t Y)(h:Y[k]?=none)
  (i:∀h',(∀c o,c<n\/c=n+2\/n+4<c->s.heap.get? c=some o->h'.get? c=some o)->Q none {s with heap:=h'}):ba (bb prog w) A (fh (.ref (n+4))) Q E s:=by
 have b:s.TypeIs (.ref (n+4)) "zip":={_,hz,rfl};unfold fh;show aAa (aCU (aAX b aCr
  (aAG aCr b aET (a9n (by lia) d hz a f g h λh' e j l=>?_)<|aEA _)))
 let{o,m,p}:=l;show aAa (aCx {o,m,p} aEE<|aAc<|i _ j)
abbrev li(t:a9):Obj:={cls:=.type "list_iterator",data:=.fields #[.ref t,.int 0 0]}
abbrev y4(h:cf)(t l:a9):cf:=(((h.push<|ti t).push (li l)).push {cls:=.type "tuple",data:=.seq #[.ref h.objs.size,.ref (h.push<|ti t).objs.size]}).push {cls:=.type "tuple",data:=.seq #[.none,.none]}
abbrev y5(h:cf)(t l:a9):cf:=(y4 h t l).push {cls:=.type "zip",data:=.fields #[.none,.bool false,.bool false,.ref ((h.push<|ti t).push (li l)).objs.size,.ref (((h.push<|ti t).push (li l)).push {cls:=.type "tuple",data:=.seq #[.ref h.objs.size,.ref (h.push<|ti t).objs.size]}).objs.size]}
def a3k(t l:a9)(Y e:Array au):
  Meets (Builtin.«zip.__new__» {[.type "zip",.ref t,.ref l],[]}) (λ_ R s=>s.heap.IsTuple t Y/\s.heap.IsList l e/\
   R (.ok (.ret (.ref (y4 s.heap t l).objs.size))) {s with heap:=y5 s.heap t l}):=
 .of_wp λf w A R s h=>by
  let{i,g,d,j,os}:=s;let{k,m,h}:=h;have n:=sub_zip;have a:Heap.IsTuple (Shared.heap ⟨i,g,d,j,os⟩) t Y:=k;have b:Heap.IsList (Shared.heap ⟨i.push (ti t),g,d,j,os⟩) l e:=Heap.IsList.push m _
  wp_walk using wpAny_pyIter_tuple a,aCI b
  show{_,rfl,h}
def a6s{s:aL}{Q:A5}(q:s.heap.IsTuple t Y)(r:s.heap.IsList l u)
  (h:∀h' n,n=s.heap.objs.size->IsZip h' (n+4) (n+2) (n+3) .none->dA h' (n+2) (.ref n) (.ref (n+1))->dA h' (n+3) .none .none->h'.IsTupleIter n t 0->h'.IsListIter (n+1) l 0->
   (∀c o,s.heap.get? c=some o->h'.get? c=some o)->Q (.ref (n+4)) {s with heap:=h'}):
  ba (bb prog w) A (call (.type "zip") [.ref t,.ref l]) Q E s:=by
 show callType_new F.called_zip (by symm) (F.typeCall_zip_2 _ _) (F.newCall_zip_2 _ _) (λd=>F.args_object_init_3 d _ _) F.entry_zip_new (a3k t l Y u) {q,r,?_};have e:(s.heap.push<|ti t).objs.size=s.heap.objs.size+1:=aBb ..;have f:((s.heap.push<|ti t).push (li l)).objs.size=s.heap.objs.size+2:=by rw[aBb,e]
 obtain⟨g,a⟩:∃o:Obj,({cls:=.type "tuple",data:=.seq #[.ref s.heap.objs.size,.ref (s.heap.push<|ti t).objs.size]}:Obj)=o:={_,rfl};have i:(((s.heap.push<|ti t).push (li l)).push g).objs.size=s.heap.objs.size+3:=by rw[aBb,f]
 have j:(y4 s.heap t l).objs.size=s.heap.objs.size+4:=by rw[aBb,a,i]
 have b:(y5 s.heap t l).get? (y4 s.heap t l).objs.size=some _:=aAh _ rfl;have k:(y5 s.heap t l).get? (((s.heap.push<|ti t).push (li l)).push g).objs.size=some {cls:=.type "tuple",data:=.seq #[.none,.none]}:=by subst a;show aAb _ (aAh _ rfl)
 have m:(y5 s.heap t l).get? ((s.heap.push<|ti t).push (li l)).objs.size=some g:=by subst a;show aAb _ (aAb _<|aAh _ rfl)
 have p:(y5 s.heap t l).get? (s.heap.push<|ti t).objs.size=some (li l):=aAb _ (aAb _<|aAb _<|aAh _ rfl);have v:(y5 s.heap t l).get? s.heap.objs.size=some (ti t):=aAb _ (aAb _<|aAb _<|aAb _<|aAh _ rfl);change _/\_;rw[a]at b;rw[j,f,i]at b;rw[i]at k;rw[f,<-a,e]at m;rw[e]at p;rw[j];show{{_,b,rfl},h _ _ rfl b m k {_,v,rfl,rfl} {_,p,rfl,rfl} λc o x=>aAb _ (aAb _<|aAb _<|aAb _<|aAb _ x)}
end SZ
namespace DL
open PySem PySem.Spec L2
open PyProof.Rows hiding St
section
variable [Tabs]
def Itt(K:lM)(a b:a9):It:=
 ⟨λi H=>∃Y d x y,S5 K H a Y/\K4 K H b d/\Y[i]?=some x/\d[i]?=some y,
  λi H v e=>∃T,v=.ref T/\H T=none/\∀Y d,S5 K H a Y->K4 K H b d->∃x y,Y[i]?=some x/\d[i]?=some y/\e=upd H T (.tup [x,y]),
  λi H=>∃Y,S5 K H a Y/\Y.length<=i⟩
def tnT(n a b:Nat)(i:Nat)(h:cf):Prop:=
 IsZip h (n+4) (n+2) (n+3) .none/\dA h (n+2) (.ref n) (.ref (n+1))/\(∃x y,dA h (n+3) x y)/\h.IsTupleIter n a i/\h.IsListIter (n+1) b i
def MY{P:bc}{w:bM}{K:lM}{el:List ck}{c}{tp:Pos}{n a b:Nat}(d1:a<n)(d2:b<n):Turn P w K (.Tuple el c tp) (Itt K a b) [n+4,n+2,n+3,n,n+1] (n+4) (tnT n a b)where
 mem:=by simp
 obj:=λi h ⟨N,g,⟨x,y,j⟩,O,m⟩ c f=>by
  erw[aAe,aAR,or_false]at f;rcases f with rfl|rfl|rfl|rfl|rfl
  .show{_,N,λv z=>nomatch z}
  .show{_,g,λv z=>nomatch z}
  .show{_,j,λv z=>nomatch z}
  .let{o,e,c,d}:=O;show{o,e,λv z=>by rw[d]at z;cases z}
  show a2j m
 keep:=λi h t ⟨N,g,⟨x,y,j⟩,O,m⟩ k=>{k _ (by simp) _ N,k _ (by simp) _ g,{x,y,k _ (by simp) _ j},O.at λo e=>k _ (by simp) o e,m.at λo e=>k _ (by simp) o e}
 item:=by
  intro X Q T U f i r s σ H E I A st hg;subst Q T U;let{Y,ys,x,y,B,hy,ex,ey}:=hg;let{itx,l,px,zx}:=I.tuple B;let{ity,rvy,py,zy}:=I.list hy;let{u,hu,ru}:=l.get ex;let{u',hu',ru'}:=rvy.get ey;let{C,J,{va,vb,s2},s3,s4}:=st;show SZ.a5v d1 d2 C J s2 s3 s4 px py.isList (x:=u) (y:=u') (by exists hu) (by exists hu') λt q0 q2 q3 q4 hp L=>?_;show{.ref s.heap.objs.size,rfl,wpAny_letOwnedTupleGo_zip (s:={s with heap:=t}) q0 λm z2 sb=>?_};have hzl:n+4<s.heap.objs.size:=aAd C;have p:∀c o,c≠n+4->t.get? c=some o->m.get? c=some o:=λc o f e=>sb.extBut c o f e;have nm:∀{c},c∉[n+4,n+2,n+3,n,n+1]->c<n\/n+4<c:=λf=>by
   erw[aAe,aAR,or_false,not_or]at f
   lia
  have kk:∀c o,c∉[n+4,n+2,n+3,n,n+1]->s.heap.get? c=some o->m.get? c=some o:=λc o f e=>by have:=nm f;show p c o (by lia) (L c o (by lia) e)
  show⟨.ref s.heap.objs.size,upd H s.heap.objs.size (.tup [x,y]),I.ae9 (t':=s.toks) kk A (aAi _) (by change 2<=sizeLine;symm) (its:=[u,u']) (.cons ru (.cons ru' .nil)) {_,p _ _ (aBY hzl) hp,rfl,0,rfl},rfl,
   {_,rfl,I.hok.fresh (aAi _),λxs' ys' hx' hy'=>{x,y,by rw[I.ab0 hx' B];show ex,by rw[I.ab4 hy' hy];show ey,rfl}},{z2,p _ _ (by lia) (L _ _ (by lia) J),{u,u',p _ _ (by lia) q2},q3.at λo e=>p _ o (by lia) e,q4.at λo e=>p _ o (by lia) e},λb hb=>?_⟩
  rw[l6 (λq:b=s.heap.objs.size=>?_)];show(A b hb).1;erw[aAe,aAR,or_false]at hb
  lia
 done:=by intro X Q T U f i r s σ H E I A st hg;subst Q T U;let{Y,B,hl}:=hg;let{itx,l,px,zx}:=I.tuple B;let{C,J,{va,vb,s2},s3,s4}:=st;have hlx:=l.length;show SZ.a6b (I.ok.hd f) d1 C J s3 px (by simp;lia) λt L=>{rfl,I.af1 (t':=s.toks) (λc o f e=>?_) A};erw[aAe,aAR,or_false,not_or]at f;show L c o (by lia) e
 self:=λ_ _ _ _ _ st h=>wpAny_pyIter_zip st.1 h
def qw:List D->R (List D)
 |[.tup Y,.lst a]=>if Y.length=a.length then .ok (cA Y a)else .bad
 |_=>.bad
def VD{el:List ck}{c}{tp:Pos}{e1 e2:ck}{p:Pos}{l m:Ev->R D}(zr:PD X e1 l)(J:PD X e2 m)(hg:Gl X "zip"<|>1)(hm:X.mg "zip"=none<|>4)(hv:cu "zip"=some (.type "zip")<|>3)
  (L:a5 [e2] X.env=(false,cy e2 X.env)::a5 [] X.env<|>1) (he:a5 [e1,e2] X.env=(false,cy e1 X.env)::a5 [e2] X.env<|>1) (bo:(cv r (a5 [e2] X.env)).any (·.1)=false<|>1):
  XM X (.Tuple el c tp) (.Call (.Name "zip" p) [e1,e2] [] r) (λρ=>(o8 l (o8 m P9) ρ).bind qw):=by
 rintro t s σ H Rr I ⟨H9,O0,O,ρ,E,fk,q⟩;dsimp only at q;show aAP (K9 I hg hm hv ?_ (by symm) (by symm));have N:ES X [e1,e2] (o8 l<|o8 m P9):=i4 zr (i4 J o9 L) he;show aBj (D3 (N r t s σ H (λQ g=>∃v1 U Y f,Q=[v1,U]/\o8 l (o8 m P9) ρ=.ok [.tup Y,.lst f]/\Y.length=f.length/\Same H g/\Rep X.K g O v1 (.tup Y)/\Rep X.K g O U (.lst f)) I {H9,O0,O,ρ,E,?_}) λus u z9=>?_) he bo
 .cases e1:o8 l (o8 m P9) ρ with
  |ex z=>rw[e1]at q;show q
  |bad=>rw[e1]at q;show q.elim
  |ok ds=>
   rw[e1,R.aa0]at q;match ds,q with
   |[.tup Y,.lst f],q=>
    erw[qw]at q;by_cases C:Y.length=f.length
    .intro Q g u h;cases h with
     |cons ra h=>cases h with
      |cons rb h=>cases h with
       |nil=>show{_,_,Y,f,rfl,rfl,C,u,ra,rb}
    rw[kn C]at q;show aAH q
 let{Q,g,v,h,v1,U,Y,f,ev,ef,w,sm,rb1,rb2}:=z9;subst ev;rw[ef,R.aa0]at q;erw[qw]at q;rw[km w]at q;cases rb1 with
 |@tup a wx _ y rx=>
 cases rb2 with
 |@lst b wy _ A ny ry=>
 let{u1,u2,rfl,ru1,ru2}:=vals2 h;cases ru1;cases ru2;let{itx,rvx,px,zX}:=v.tuple y;let{ity,rvy,py,zY}:=v.list A;show SZ.a6s px py.isList λh1 n en z1 z2 z3 z4 z5 k1=>?_;have I2:=v.kept (h':=h1) (t':=u.toks) k1;have lt1:a<n:=by rw[en];let{o,e,_}:=px;show aAd e
 have lt2:b<n:=by rw[en];let{o,e,_}:=py.isList;show aAd e
 show wpAny_pyIter_zip (s:={u with heap:=h1}) z1 {_,_,_,Itt X.K a b,g,rfl,I2,MY lt1 lt2,{z1,z2,{_,_,z3},z4,z5},λc C=>?_,q _ g sm λH2 O2 k hK hO hO2 i=>?_}
 .have ym:u.heap.objs.size<=c:=by
   erw[aAe,aAR,or_false]at C
   lia
  show v.af2 ym (v.hok.fresh ym)
 have j:=k.tup hO y;let{n2y,B}:=k.lst ny A λo q=>hK b o q;have r2x:=k.ab9 hO hK rx;have r2y:=k.ab9 hO hK ry;show{λd e=>?_,λe=>{wx,j,?_}}
 .unfold cA at e;rw[List.getElem?_zipWith]at e;cases e1:Y[i]? with
  |none=>rw[e1]at e;cases e
  |some dx=>
   cases e2:f[i]? with
   |none=>rw[e1,e2]at e;cases e
   |some dy=>rw[e1,e2]at e;cases e;let{vx,g1,g2}:=r2x.get e1;let{vy,g3,g4}:=r2y.get e2;show{{wx,wy,vx,vy,j,B,g1,g3},λx H' z9=>?_};let{T,ev,hT,hh}:=z9;let{x1,y1,q1,q2,rfl}:=hh wx wy j B;rw[g1]at q1;rw[g3]at q2;cases q1;cases q2;subst ev;have s2:Same H2 (upd H2 T<|.tup [vx,vy]):=j3 hT _;show{s2,.tup (S5.of j1) (.cons (g2.same s2) (.cons (g4.same s2) .nil))}
 rw[rx.length];unfold cA at e;rw[aCo,List.length_zipWith,<-w,Nat.min_self]at e;show e
end
end DL
namespace M
open PySem L2 DL
variable [Tabs]
section
open Classical
def QJ{b:Type} (g:b->D) (k:b->List D->R D):List D->R D
 |d::e=>if h:∃a,d=g a then k (choose h) e else .bad
 |[]=>.bad
def bO{b:Type}{g:b->D}{k:b->List D->R D}{ds:List D}{r:D}(h:QJ g k ds=.ok r):∃a e,ds=g a::e/\k a e=.ok r:=by
 cases ds with
 |nil=>cases h
 |cons d e=>
  by_cases q:∃a,d=g a
  .show{_,e,by rw[<-choose_spec q],(dif_pos q).symm.trans h}
  cases(dif_neg q).symm.trans h
def V2{d:Type}{g:d->D}(inj:∀a b,g a=g b->a=b)(k:d->List D->R D)(a:d)(e:List D):QJ g k (g a::e)=k a e:=by have q:∃b,g a=g b:={a,rfl};show(dif_pos q).trans (by rw[<-inj _ _ (choose_spec q)])
end
theorem rS{f:Type}{G:D->Ev->R Ev}{F j:Ev->R Out}{z:D}(rep:f->D)(p:f->Bool)(g:f->D)(Iv:Ev->Prop)(k:∀ρ,Iv ρ->F7 (j ρ)=.ok z):∀(l:List f) (ρ:Ev),Iv ρ->(∀a∈l,∀ρ,Iv ρ->(p a=true->O5 G F (rep a) ρ=.ok (.rt (g a)))/\(p a=false->∃ρ2,O5 G F (rep a) ρ=.ok (.nx ρ2)/\Iv ρ2))->
  F7 (A3 (P4 G F (l.map rep) ρ) j)=.ok (((l.find? p).map g).getD z):=by
 intro r ρ m n;cases r with
 |nil=>show k ρ m
 |cons a l=>
  let{s,t}:=n a (.head _) ρ m;have st:∀{o},O5 G F (rep a) ρ=.ok o->∃d,G (rep a) ρ=.ok d/\F d=.ok o:=λe=>by unfold O5 at e;grind
  cases q:p a with
  |true=>let{d,h,i}:=st (s q);rw[aAm,kJ h i,List.find?_cons_of_pos q];rfl
  |false=>let{ρ2,e,u}:=t q;let{d,h,i}:=st e;rw[aAm,N2 h i,List.find?_cons_of_neg (by grind)];show rS rep p g Iv k l ρ2 u λb v=>n b (.tail _ v)
def exB{b:Type} (l:List b) (p:b->Prop):Bool:=@decide (∃a∈l,p a) (aCf _)
def zq{b:Type}{l:List b}{p:b->Prop}(h:∃a∈l,p a):exB l p=true:=@lg _ (aCf _) h
def ww{b:Type}{l:List b}{p:b->Prop}(h:¬∃a∈l,p a):exB l p=false:=@lb _ (aCf _) h
open Classical in
def a1n{d:Type}{G:D->Ev->R Ev}{F e:Ev->R Out}(rep:d->D)(p:d->Prop)(Iv:Ev->Prop)(g:∀ρ,Iv ρ->F7 (e ρ)=.ok (.bl false))(l:List d)(ρ:Ev)(h0:Iv ρ)(f:∀a∈l,∀ρ,Iv ρ->(p a->O5 G F (rep a) ρ=.ok (.rt (.bl true)))/\(¬p a->∃ρ2,O5 G F (rep a) ρ=.ok (.nx ρ2)/\Iv ρ2)):
  F7 (A3 (P4 G F (l.map rep) ρ) e)=.ok (.bl (exB l p)):=by
 show(rS rep (λa=>decide (p a)) (λ_=>.bl true) Iv g l ρ h0 λa b ρ i=>{λq=>(f a b ρ i).1 (of_decide_eq_true q),λq=>(f a b ρ i).2 (of_decide_eq_false q)}).trans ?_;cases q:l.find? λa=>decide (p a)with
 |none=>
  have:¬∃a∈l,p a:=by rintro⟨a,b,h⟩;show aFy.mp q a b (lg h)
  rw[ww this];rfl
 |some a=>rw[zq {a,aCZ q,of_decide_eq_true (aGk (p:=λa=>decide (p a)) q)}];rfl
def xD{f g:Ev->R Bool}{ρ:Ev}{a b:Bool}(d:f ρ=.ok a)(e:g ρ=.ok b):AB f g ρ=.ok (a&&b):=by
 cases a with
 |false=>show a4f d
 |true=>show ay d e
def a0x{f g:Ev->R Bool}{ρ:Ev}{a b:Bool}(d:f ρ=.ok a)(e:g ρ=.ok b):orB f g ρ=.ok (a||b):=by
 unfold orB;rw[d];cases a with
 |true=>rfl
 |false=>show e
def a3c{a:Type}{r:R Bool}{b:Bool}{A B y:R a}(h:r=.ok b)(d:b=true->A=y)(e:b=false->B=y):(r.bind λt=>if t=true then A else B)=y:=by nofun
def a5y{a:Sl}{Y:List D}{r:Ev}{d:D}(h:Y.length<sizeLine):zF 1 (a::.o Y::r) d=.ok (.nx (a::.o (Y++[d])::r)):=by change(if Y.length<sizeLine then _ else _)=_;rw[km h];rfl
def t4{f:Ev->R D}{g:Ev->R (List D)}{ρ:Ev}{a:D}{l:List D}(b:f ρ=.ok a)(d:g ρ=.ok l):o8 f g ρ=.ok (a::l):=by nofun
def jY{r:R D}{d:D}(h:r=.ok d):F7 (r.bind λd=>.ok (.rt d))=.ok d:=by rw[h];rfl
def xN{a:Type}{r:R a}{x:a}{F:a->R Out}{b:Ev->R Out}{d:D}(e:r=.ok x)(f:F7 (A3 (F x) b)=.ok d):F7 (A3 (r.bind F) b)=.ok d:=by rw[e];show f
def a7u{i j:Nat}{F:Ev->R Out}{a b:D}{ρ ρ':Ev}{J:Ev->Prop}(e:(ρ.set i (.v a)).set j (.v b)=ρ')(h:∃ρ2,F ρ'=.ok (.nx ρ2)/\J ρ2):∃ρ2,O5 (fC 2 (F4 (λd ρ=>.ok (ρ.set i (.v d))) (F4 (λd ρ=>.ok (ρ.set j (.v d))) kW))) F (.tup [a,b]) ρ=.ok (.nx ρ2)/\J ρ2:=by subst e;show h
abbrev gN(ns:List Int):D:=.tup (ns.map D.int)
def a1y:∀a b,gN a=gN b->a=b:=λa b h=>by injection h with h;show(aDG λx y h=>by injection h).mp h
def AK(ns:List Int):Nat:=ns.foldl (λg n=>aDw g n.natAbs) 0
def wG:List D->R D:=QJ gN λa=>dN (.ok (.int (AK a)))
def WF(ns:List Int):wG [gN ns]=.ok (.int (AK ns)):=V2 a1y _ ns []
def CP(v:G.V):wG [vd v]=.ok (.int (G.B5 v)):=(WF [v.x,v.y,v.z]).trans (by simp[AK,G.B5])
def gM(a b:Int):Int×Int:=(a.fdiv (aDw a.natAbs b.natAbs:Nat),b.fdiv (aDw a.natAbs b.natAbs:Nat))
abbrev frD(f:Int×Int):D:=.tup [.int f.1,.int f.2]
def iz(a b:Int):Prop:=0<a/\bits a<=9000/\bits b<=9000
def IF:List D->R D:=pV λa=>pV λb=>dN (DH (iz a b)<|frD<|gM a b)
def YB{a b:Int}(h:iz a b):IF [.int a,.int b]=.ok (frD (gM a b)):=J4 h
def PL{a b:Int}(h:iz a b):T7 (.int a) (.int (AK [a,b]))=.ok (.int (gM a b).1)/\T7 (.int b) (.int (AK [a,b]))=.ok (.int (gM a b).2):=by
 have e:AK [a,b]=aDw a.natAbs b.natAbs:=by simp[AK]
 have p:0<aDw a.natAbs b.natAbs:=aEs _ (by have:=h.1;lia);have s:=rV h.2.1 h.2.2;rw[e];show{aX {by lia,f9 s},aX {by lia,f9 s}}
abbrev W4:=G.V×G.V×G.V×G.V
abbrev w4(w:W4):D:=.tup [vd w.1,vd w.2.1,vd w.2.2.1,vd w.2.2.2]
def a3r:∀a b:W4,w4 a=w4 b->a=b:=λa b h=>by injection h with h;injection h with d h;injection h with e h;injection h with f h;injection h with g h;show aDA (K8 d) (aDA (K8 e)<|aDA (K8 f)<|K8 g)
abbrev fR(p:D×List G.V):D:=.tup [p.1,.lst (p.2.map vd)]
abbrev OS(l:List (D×List G.V)):D:=.lst (l.map fR)
def JM:∀a b,OS a=OS b->a=b:=λa b h=>by injection h with h;show(aDG λx y h=>?_).mp h;injection h with h;injection h with e h;injection h with d h;injection d with d;show aDA e (KE d)
def oR(A:G.V)(r:List G.V):List W4:=(aCP 1<|r.length-1-1).map λk=>(r.getD k 0,r.getD 0 0,r.getD (k+1) 0,A)
open Classical in
def Y1(A:G.V) (l:List (D×List G.V)):List W4:=l.flatMap λp=>if A∈p.2 then[]else oR A p.2
def lK(l:List (D×List G.V)):G.V:=((l.map (·.2)).getD 0 []).getD 0 0
def MW(l:List (D×List G.V)):Prop:=l≠[]/\l.length<=3000/\∀p∈l,3<=p.2.length/\p.2.length<=14/\∀v∈p.2,Sz 900 v
def jW:List D->R D:=QJ OS λl=>dN (DH (MW l)<|.lst ((Y1 (lK l) l).map w4))
def ON{l:List (D×List G.V)}(h:MW l):jW [OS l]=.ok (.lst ((Y1 (lK l) l).map w4)):=(V2 JM _ l []).trans (J4 h)
def UI(A:G.V)(r:List G.V):(oR A r).length=r.length-1-1:=by simp[oR]
theorem AN(A:G.V):∀(l:List (D×List G.V)),(∀p∈l,p.2.length<=14)->(Y1 A l).length<=14*l.length:=by
 intro a h;cases a with
 |nil=>show aAi _
 |cons p l=>
  have i:=AN A l λq b=>h q (.tail _ b);have e:Y1 A (p::l)=(if A∈p.2 then[]else oR A p.2)++Y1 A l:=aEy;have:=h p (.head _);have:=UI A p.2;rw[e,aAv,aAr];split
  .simp;lia
  lia
open Classical in
def lE{J:List G.V}{X:G.V}:inR true (vd X) (.lst (J.map vd))=.ok (.bl (decide (X∉J))):=by
 have d:=RH J;have e:tq (vd X) (J.map vd)=decide (X∈J):=by
  by_cases h:X∈J
  .rw[lg h];show aDq.mpr {_,aBV h,N1 _}
  rw[lb h];cases q:tq (vd X) (J.map vd)with
  |false=>rfl
  |true=>let{x,a,e}:=aDq.mp q;let{g,b,rfl}:=aAj.mp a;have:=cS (by simp[mZ,aY]) (by simp[mZ,aY]) e;show k7 (K8 this▸b) h
 change(if _ then R.ok (D.bl<|tq (vd X) (J.map vd) !=true)else _)=_;rw[km {by lia,by simp[x4,C6]},e]
 nofun
def wZ(w:W4)(P:G.V):List Int:=[k9 P w.2.1 w.2.2.1 w.2.2.2,k9 w.1 P w.2.2.1 w.2.2.2,k9 w.1 w.2.1 P w.2.2.2,k9 w.1 w.2.1 w.2.2.1 P]
def SzW(n:Nat)(w:W4):Prop:=Sz n w.1/\Sz n w.2.1/\Sz n w.2.2.1/\Sz n w.2.2.2
def nJ:List D->R D:=QJ w4 λw=>v1 λx y z=>dN (DH (SzW 2000 w/\Sz 2000 ⟨x,y,z⟩)<|.lst ((wZ w ⟨x,y,z⟩).map D.int))
def ER{w:W4}{P:G.V}(h:SzW 2000 w)(a:Sz 2000 P):nJ [w4 w,vd P]=.ok (.lst ((wZ w P).map D.int)):=(V2 a3r _ w [vd P]).trans (J4 {h,a})
def HD{l:List (D×List G.V)}(h:MW l):∀w∈Y1 (lK l) l,SzW 900 w:=by
 let{e,j,a}:=h;have f:Sz 900 (lK l):=by
  match l,e,a with
  |p::l,_,a=>show(a p<|.head _).2.2 _ (B9 (by have:=(a p<|.head _).1;lia))
 intro w b;let{p,g,b}:=aBe.mp b;let{m,n,d}:=a p g;split at b
 .cases b
 let{k,i,rfl}:=aAj.mp b;rw[aCK]at i;show{d _ (B9 (by lia)),d _ (B9 (by lia)),d _ (B9 (by lia)),f}
def fits(P:G.V)(w:W4):Bool:=decide (0<=oV (wZ w P))
abbrev XG(l:List (G.V×Int)):D:=.dct (l.map λp=>(vd p.1,.int p.2))
def aq(w:W4)(P:G.V):List (G.V×Int):=List.zip [w.1,w.2.1,w.2.2.1,w.2.2.2] (wZ w P)
def mH(w:W4)(P:G.V):List (G.V×Int):=(aq w P).filter λp=>decide (p.2>0)
def NdW(w:W4):Prop:=[w.1,w.2.1,w.2.2.1,w.2.2.2].Nodup
def wby(l:List (D×List G.V)) (P:G.V):D:=(((Y1 (lK l) l).find? (fits P)).map λw=>XG (mH w P)).getD .non
def RG:List D->R D:=QJ OS λl=>v1 λx y z=>dN (DH (MW l/\Sz 2000 ⟨x,y,z⟩/\∀w∈Y1 (lK l) l,NdW w)<|wby l ⟨x,y,z⟩)
def a3o{l:List (D×List G.V)}{P:G.V}(h:MW l)(a:Sz 2000 P)(b:∀w∈Y1 (lK l) l,NdW w):RG [OS l,vd P]=.ok (wby l P):=(V2 JM _ l [vd P]).trans (J4 {h,a,b})
def AW{w:W4}{P:G.V}(h:NdW w):((mH w P).map (·.1)).Nodup:=by have e:(aq w P).map (·.1)=[w.1,w.2.1,w.2.2.1,w.2.2.2]:=rfl;show(List.filter_sublist.map _).nodup h
def jq{l:List (G.V×Int)}(h:(l.map (·.1)).Nodup)(f:l.length<=100):JD [.lst (l.map λp=>.tup [vd p.1,.int p.2])]=.ok (XG l):=by
 have e:(l.map λp=>D.tup [vd p.1,.int p.2])=(l.map λp=>(vd p.1,D.int p.2)).map λp=>.tup [p.1,p.2]:=by rw[aAK];rfl
 have q:=CJ (l.map λp=>(vd p.1,D.int p.2));erw[JD];rw[e,q];show km {λp d=>?_,?_,by rw[aAg];change _<=2^24;lia}
 .let{x,_,rfl}:=aAj.mp d;show{rfl,rfl}
 rw[aAK,show((λp:D×D=>p.1)∘λp:G.V×Int=>(vd p.1,D.int p.2))=vd∘(·.1)from rfl,<-aAK];show h.map vd λa b n e=>n (K8 e)
def WW(w:W4)(P:G.V):(mH w P).length<=4:=aAo (aGt _ _) (aAi 4)
def a7q(w:W4)(P:G.V):qw [w4 w,.lst ((wZ w P).map D.int)]=.ok ((aq w P).map λp=>.tup [vd p.1,.int p.2]):=rfl
def a1p(w:W4)(P:G.V):((aq w P).map λp=>D.tup [vd p.1,.int p.2]).length<=sizeLine:=by change 4<=2^24;symm
def oQ{a:Type}{r:R Bool}{A B y:R a}(h:r=.ok true)(b:A=y):(r.bind λt=>if t=true then A else B)=y:=by rw[h];show b
open Classical in
def oO(l:List (G.V×Int)) (v:G.V):Int:=((l.find? λp=>decide (p.1=v)).map (·.2)).getD 0
def gP(l:List (G.V×Int)):Int:=(l.map (·.2)).sum
theorem JY:∀{l:List (G.V×Int)}{v:G.V},v∈l.map (·.1)->atK (l.map λp=>(vd p.1,.int p.2)) (vd v)=some (.int (oO l v))/\(v,oO l v)∈l
 |[],v,h=>by cases h
 |p::l,v,h=>by
  unfold atK oO;by_cases q:p.1=v
  .rw[aAm,aFn,aFn,lg q,lg (kM vd q)];show{rfl,by rw[<-q];show .head _}
  have m:v∈l.map (·.1):=by
   rcases aAe.mp h with e|e
   .show k7 e.symm q
   show e
  let{a,b}:=JY m;rw[aAm,aFn,aFn,lb q,lb λe=>q (K8 e)];show{a,.tail _ b}
theorem CT{m:Nat}:∀{l:List Int},(∀x∈l,bits x<=m)->bits l.sum<=m+l.length:=by
 intro b h;cases b with
 |nil=>show aAS _
 |cons a l=>show bits_add (m9 (h a<|.head _) (by lia)) (CT λx d=>h x (.tail _ d))
abbrev IX(p:G.V×Int×Int):D:=.tup [vd p.1,frD p.2]
def qJ(l:List (G.V×Int)):List (G.V×Int×Int):=(e9 (l.map (·.1))).map λv=>(v,gM (oO l v) (gP l))
def PV(l:List (G.V×Int)):Prop:=l.length<=4/\∀p∈l,0<p.2/\bits p.2<=8000
def gx:∀a b,XG a=XG b->a=b:=λa b h=>by injection h with h;show(aDG λx y h=>?_).mp h;injection h with e d;injection d with d;show aDA (K8 e) d
def zO:List D->R D:=QJ XG λl=>dN (DH (PV l)<|.lst ((qJ l).map IX))
def ZN{l:List (G.V×Int)}(h:PV l):zO [XG l]=.ok (.lst ((qJ l).map IX)):=(V2 gx _ l []).trans (J4 h)
def a2p(l:List (G.V×Int)):DL.pD (XG l)=.ok (.int (gP l)):=by
 unfold DL.pD;have e:(l.map λp=>(vd p.1,D.int p.2)).map (·.2)=(l.map (·.2)).map D.int:=by rw[aAK,aAK];rfl
 dsimp only;rw[e,O9];rfl
def a0u{l:List (G.V×Int)}(h:l.length<=4):sdD (XG l)=.ok ((e9 (l.map (·.1))).map vd):=by
 have e:(l.map λp=>(vd p.1,D.int p.2)).map (·.1)=(l.map (·.1)).map vd:=by rw[aAK,aAK];rfl
 unfold sdD;dsimp only;rw[e,W7];show km {?_,by rw[aAg];lia};show aBG.mpr λd a=>by let{v,_,rfl}:=aAj.mp a;rfl
def VS{l:List (G.V×Int)}(h:PV l){v:G.V}(f:v∈l.map (·.1)):atD (XG l) (vd v)=.ok (.int (oO l v))/\iz (oO l v) (gP l):=by
 let{a,b}:=JY f;let{j,e}:=h;let{c,d}:=e _ b;show{?_,c,m9 d (by symm),?_}
 .unfold atD;dsimp only;rw[km {rfl,rfl},a]
 have:=CT λx g=>by let{p,i,rfl}:=aAj.mp g;show(e p i).2
 rw[aAg]at this;show m9 this (by lia)
def nq{r:R Out}{ρ:Ev}{F:Ev->R (List D)}{x:R D}(a:r=.ok (.nx ρ))(b:GS (F ρ)=x):GS (a0h r F)=x:=by rw[a];show b
def IJ{r:R (List D)}{rs:List D}(h:r=.ok rs):GS r=.ok (.lst rs):=by rw[h];rfl
def gS(l:List G.V):List (D×List G.V):=(n6<|e9 l).map λf=>(uM f.1 f.2,G.i8 (e9 l) f)
def a2h(l:List G.V):(.lst ((n6 (e9 l)).map (m8 (e9 l))):D)=OS (gS l):=by unfold gS;rw[OS,aAK];rfl
def IE(l:List G.V):Prop:=bB 900 l/\G.j7 l/\(e9 l).length<=14
def wOf(l:List G.V) (P:G.V):Option W4:=(Y1 (lK<|gS l)<|gS l).find? (fits P)
def NT(l:List G.V) (P:G.V):D:=((wOf l P).map λw=>D.lst ((qJ<|mH w P).map IX)).getD .non
def qW:List D->R D:=lvD λl=>v1 λx y z=>dN (DH (IE l/\Sz 2000 ⟨x,y,z⟩)<|NT l ⟨x,y,z⟩)
def ZK{l:List G.V}{P:G.V}(h:IE l)(a:Sz 2000 P):qW [.lst (l.map vd),vd P]=.ok (NT l P):=(kB _ l [vd P]).trans (J4 {h,a})
def JW{l:List G.V}(h:IE l){p:D×List G.V}(b:p∈gS l):∃f,f∈n6 (e9 l)/\G.IsFace (e9 l) f.1 f.2/\p.2=G.i8 (e9 l) f:=by let{f,a,rfl}:=aAj.mp b;show{f,a,((lG h.1 h.2.1 h.2.2).1 f).mp a,rfl}
def xj{l:List G.V}(h:IE l):MW (gS l):=by
 let{k,g,m}:=lG h.1 h.2.1 h.2.2;show{λz=>g (List.map_eq_nil_iff.mp z),by unfold gS;rw[aAg];lia,λp i=>?_};let{f,_,F,e}:=JW h i;have S:=F.aa2 (z7 l);let{a,b,c,r,j}:=G.B7 (z7 l) F;have sub:∀v∈p.2,v∈e9 l:=λv d=>(G.d5.mp (S.aa3 (by rw[e]at d;show d))).1;show{?_,?_,λv d=>h.1.1 v (t9.mp<|sub v d)}
 .rw[e,show G.i8 (e9 l) f=a::b::c::r from j];simp
 show aAo (G.P7 (e▸S.aa4) sub) h.2.2
def zB{r:List G.V}(h:r.Nodup){i j:Nat}(a:i<r.length)(b:j<r.length)(n:i≠j):r.getD i 0≠r.getD j 0:=λe=>by
 rw[aAp,aAp,aAk a,aAk b]at e;have q:=aBO.mp h;rcases aEi n with z|z
 .show q i j a b z e
 show q j i b a z e.symm
def SE{l:List G.V}(h:IE l){w:W4}(a:w∈Y1 (lK (gS l)) (gS l)):∃f,G.IsFace (e9 l) f.1 f.2/\lK (gS l)∉G.i8 (e9 l) f/\w∈oR (lK (gS l)) (G.i8 (e9 l) f):=by
 let{p,b,a}:=aBe.mp a;let{f,_,F,e}:=JW h b;split at a
 .cases a
 rename_i n;rw[e]at n a;show{f,F,n,a}
def OU{l:List G.V}(h:IE l):∀w∈Y1 (lK (gS l)) (gS l),NdW w:=λw a=>by
 let{f,F,n,a}:=SE h a;have b:(G.i8 (e9 l) f).Nodup:=(F.aa2<|z7 l).aa4;generalize G.i8 (e9 l) f=r at*
 let{k,d,rfl}:=aAj.mp a;rw[aCK]at d;have ne:∀i,i<r.length->r.getD i 0≠lK (gS l):=λi g e=>n (e▸B9 g);have m:=zB b (i:=k) (j:=0) (by lia) (by lia) (by lia);have o:=zB b (i:=k) (j:=k+1) (by lia) (by lia) (by lia);have p:=zB b (i:=0) (j:=k+1) (by lia) (by lia) (by lia);have q:=ne k (by lia);have s:=ne 0 (by lia);have t:=ne (k+1) (by lia);unfold NdW
 nofun
def WU{u v:G.V}{m n:Nat}(b:Sz m u)(d:Sz n v):bits (G.c6 u v)<=m+n+2:=by have a:=bits_mul b.1 d.1;have c:=bits_mul b.2.2 d.2.2;show bits_add (bits_add a<|bits_mul b.2.1 d.2.1) (m9 c (by lia))
def F9{u v:G.V}{m:Nat}(a:Sz m u)(b:Sz m v):Sz (m+1) (u-v):={bits_sub a.1 b.1,bits_sub a.2.1 b.2.1,bits_sub a.2.2 b.2.2}
def JL{u v:G.V}{m:Nat}(a:Sz m u)(b:Sz m v):Sz (m+m+1) (G.cr u v):={bits_sub (bits_mul a.2.1 b.2.2) (bits_mul a.2.2 b.2.1),bits_sub (bits_mul a.2.2 b.1) (bits_mul a.1 b.2.2),bits_sub (bits_mul a.1 b.2.1) (bits_mul a.2.1 b.1)}
def fU{P Q R S:G.V}(a:Sz 2000 P)(b:Sz 2000 Q)(d:Sz 2000 R)(e:Sz 2000 S):bits (k9 P Q R S)<=8000:=m9 (WU (JL (F9 b a)<|F9 d a)<|F9 e a) (by symm)
def xz{w:W4}{P:G.V}(h:SzW 900 w)(f:Sz 2000 P):PV (mH w P):=by
 show{WW w P,λp g=>?_};let{i,j}:=aCp.mp g;show{of_decide_eq_true j,?_};have a:=h.1.mono (n:=2000);have b:=h.2.1.mono (n:=2000);have c:=h.2.2.1.mono (n:=2000);have d:=h.2.2.2.mono (n:=2000);have m:=(aCM i).2;erw[wZ,aAe,aAR,or_false]at m;rcases m with e|e|e|e<;>rw[e]
 .show fU f b c d
 .show fU a f c d
 .show fU a b f d
 show fU a b c f
def EK{r:R Out}{ρ:Ev}{F:Ev->R D}{x:R D}(a:r=.ok (.nx ρ))(b:F ρ=x):a0g r F=x:=by rw[a];show b
abbrev pn(p:G.V×G.V):D:=.tup [vd p.1,vd p.2]
abbrev lw(l:List (G.V×G.V)):D:=.lst (l.map pn)
def ZR:∀a b,lw a=lw b->a=b:=λa b h=>by injection h with h;show(aDG λx y h=>?_).mp h;injection h with h;injection h with d h;injection h with e h;show aDA (K8 d) (K8 e)
open Classical in
def OQ(S:List G.V) (c A:G.V) (ps:List (G.V×G.V)):List (G.V×G.V):=if c≠0/\CQ (jA S c A)<=0 then ps++[(c,A)]else ps
open Classical in
def XO(S:List G.V) (c A:G.V) (ps:List (G.V×G.V)):List (G.V×G.V):=if c≠0/\0<=oV (jA S c A)then ps++[({0-c.x,0-c.y,0-c.z},A)]else ps
def DX(S:List G.V) (i j k:Nat) (ps:List (G.V×G.V)):List (G.V×G.V):=XO S (G.cr (S.getD j 0-S.getD i 0)<|S.getD k 0-S.getD i 0) (S.getD i 0) (OQ S (G.cr (S.getD j 0-S.getD i 0)<|S.getD k 0-S.getD i 0) (S.getD i 0) ps)
def XZ(S:List G.V) (i j:Nat):List (G.V×G.V)->List (G.V×G.V):=lp j (DX S i j)
def uk(S:List G.V) (i:Nat):List (G.V×G.V)->List (G.V×G.V):=lp i (XZ S i)
def jx(S:List G.V):List (G.V×G.V):=lp S.length (uk S) []
def GV(S:List G.V)(c A:G.V)(ps:List (G.V×G.V)):(OQ S c A ps).length<=ps.length+1/\(XO S c A ps).length<=ps.length+1:=by unfold OQ XO;constructor<;>split<;>simp
theorem mB{b:Type}{f:Nat->List b->List b}{a:List b}{c m:Nat}(h:∀k<m,∀x,(f k x).length<=x.length+c):∀{n:Nat},n<=m->(lp n f a).length<=a.length+c*n
 |0,_=>aAi _
 |n+1,d=>by have i:=mB (a:=a) h (n:=n) (by lia);have j:=h n (by lia) (lp n f a);change(f n<|lp n f a).length<=_;grind
def UB(S:List G.V)(i j k:Nat)(ps:List (G.V×G.V)):(DX S i j k ps).length<=ps.length+2:=aAo (GV ..).2 (by have:=(GV S (G.cr (S.getD j 0-S.getD i 0)<|S.getD k 0-S.getD i 0) (S.getD i 0) ps).1;lia)
def SR{S:List G.V}{i j:Nat}{ps:List (G.V×G.V)}(a:j<=14):(XZ S i j ps).length<=ps.length+28:=aAo (mB (λk _ x=>UB S i j k x)<|aAi _) (by lia)
def a3n{S:List G.V}{i:Nat}{ps:List (G.V×G.V)}(a:i<=14):(uk S i ps).length<=ps.length+392:=aAo (mB (λk b x=>SR (by lia))<|aAi _) (by lia)
def YO(S:List G.V):Prop:=(∀P∈S,Sz 900 P)/\S≠[]/\S.length<=14
def EU:List D->R D:=lvD λS=>dN (DH (YO S)<|lw<|jx S)
def ZO{S:List G.V}(h:YO S):EU [.lst (S.map vd)]=.ok (lw (jx S)):=(kB _ S []).trans (J4 h)
def PZ{S:List G.V}{c A:G.V}{ps:List (G.V×G.V)}{y:G.V×G.V}(h:y∈ps):y∈OQ S c A ps:=by
 unfold OQ;split
 .show aBl _ h
 show h
def CF{S:List G.V}{c A:G.V}{ps:List (G.V×G.V)}{y:G.V×G.V}(h:y∈ps):y∈XO S c A ps:=by
 unfold XO;split
 .show aBl _ h
 show h
def EA(S:List G.V)(p:G.V×G.V):Prop:=p.2∈S/\Sz 2010 p.1/\∀X∈S,G.c6 p.1 (X-p.2)<=0
def UC{S:List G.V}(h:YO S):∀p∈jx S,EA S p:=by
 have st:∀i j k b,i<S.length->j<S.length->k<S.length->(∀p∈b,EA S p)->∀p∈DX S i j k b,EA S p:=λi j k b g m n r=>by
  have a:=B9 g;have s:=h.1 _ a;have t:Sz 2003 (G.cr (S.getD j 0-S.getD i 0)<|S.getD k 0-S.getD i 0):=(JL (F9 (h.1 _ (B9 m)) s)<|F9 (h.1 _ (B9 n)) s).mono;unfold DX;generalize S.getD i 0=A at*
  generalize G.cr (S.getD j 0-A) (S.getD k 0-A)=c at*
  intro p d;unfold XO at d;have o:∀p∈OQ S c A b,EA S p:=λp f=>by
   unfold OQ at f;split at f
   .rename_i z;rcases aAO.mp f with q|q
    .show r p q
    rw[aAU.mp q];show{a,t.mono,λX l=>aFH (JS<|aAj.mpr ⟨X,l,rfl⟩) z.2}
   show r p f
  split at d
  .rename_i z;rcases aAO.mp d with q|q
   .show o p q
   rw[aAU.mp q];show{a,(F9 (u:=0) ({aAS _,aAS _,aAS _}) t).mono,λX l=>?_};have:=aFH z.2 (xU<|aAj.mpr ⟨X,l,rfl⟩);have e:G.c6 ⟨0-c.x,0-c.y,0-c.z⟩ (X-A)=-G.c6 c (X-A):=by simp[G.c6];grind
   rw[e]
   lia
  show o p d
 show zE (λb=>∀p∈b,EA S p) (by grind) λi g x v=>zE (λb=>∀p∈b,EA S p) v λj m y w=>zE (λb=>∀p∈b,EA S p) w λk n z B=>st i j k z g (by lia) (by lia) B
def MP{S:List G.V}(hs:G.j7 S){f:G.V×Int}{P:G.V}(Q:G.IsFace S f.1 f.2)(hP:f.2<G.c6 f.1 P):∃p∈jx S,0<G.c6 p.1 (P-p.2):=by
 let{T,n,A0,g,B0,s,C0,t,U,Y,c0,e0}:=id Q;have u:∀{X},X∈S->X∈S.reverse:=λh=>aCh.mpr h;let{A,B,C,{i,j,k,ij,jk,eA,eB,eC},ne,al}:=G.gj (u g) (u s) (u t) e0;let{a,b,c}:=al (λX=>G.c6 f.1 X=f.2) U Y c0;have at_:∀{i:Nat}{A:G.V},S.reverse[i]?=some A->i<S.length/\S.getD (S.length-1-i) 0=A:=λ{i A} e=>by have v:i<S.reverse.length:=(aAw.mp e).1;rw[aCm]at v;rw[List.getElem?_reverse v]at e;show{v,by rw[aAp,e];rfl}
 let{iA,gA}:=at_ eA;let{iB,gB}:=at_ eB;let{iC,gC}:=at_ eC;have o:=G.o6 T.ne;have d:∀X:G.V,G.c6 f.1 f.1*G.c6 (G.cr (B-A)<|C-A) (X-A)=G.c6 f.1 (G.cr (B-A)<|C-A)*(G.c6 f.1 X-f.2):=λX=>by rw[G.rG (by rw[G.d6];lia) (by rw[G.d6];lia),G.d6 f.1 X A,a]
 have r:∀{y:G.V×G.V},(∀x,y∈DX S (S.length-1-i) (S.length-1-j) (S.length-1-k) x)->y∈jx S:=λ{y} st=>by have H:∀{i j k x},y∈x->y∈DX S i j k x:=λh=>CF (PZ h);have I:∀{i j x},y∈x->y∈XZ S i j x:=λh=>yO (λ_ _=>H) h;have m1:∀{i x},y∈x->y∈uk S i x:=λh=>yO (λ_ _=>I) h;show yV (f:=uk S) (λ_ _=>m1) (k:=S.length-1-i) (λx=>yV (f:=XZ S (S.length-1-i)) (λ_ _=>I) (k:=S.length-1-j) (λx=>yV (f:=DX S (S.length-1-i) (S.length-1-j)) (λ_ _=>H) (k:=S.length-1-k) st (by omega)) (by omega)) (by omega)
 have sn:S≠[]:=λz=>by rw[z]at g;cases g
 have J:∀N:G.V,jA S N A≠[]:=λN z=>sn (List.map_eq_nil_iff.mp z);unfold DX at r;rw[gA,gB,gC]at r;generalize G.cr (B-A) (C-A)=N at*
 have k0:G.c6 f.1 N≠0:=λz=>by
  have x:=d (N+A);rw[z,aEJ,show N+A-A=N by apply G.ext<;>simp<;>lia]at x;rcases aAq.mp x with x|x
  .lia
  show k7 x (aHa<|G.o6 ne)
 by_cases L:0<G.c6 f.1 N
 .have w:∀X∈S,G.c6 N (X-A)<=0:=λX l=>by
   have x:=d X;have y:=aAT (aAz L) (show 0<=f.2-G.c6 f.1 X by have:=n X l;lia);by_cases q:G.c6 N (X-A)<=0
   .show q
   have:=aAy o (show 0<G.c6 N (X-A)by lia);grind
  show{(N,A),r λx=>CF ?_,?_}
  .let{X,l,e}:=aAj.mp (BB<|J N);have m:CQ (jA S N A)<=0:=aFH (Int.le_of_eq e.symm) (w X l);unfold OQ;rw[km {ne,m}];show aAA _ (.head _)
  have x:=d P;have y:=aAy L (show 0<G.c6 f.1 P-f.2 by lia);by_cases q:0<G.c6 N (P-A)
  .show q
  have:=aAT (aAz o) (show 0<=-G.c6 N (P-A)by lia);grind
 have O:0< -G.c6 f.1 N:=by lia
 have E:∀X∈S,0<=G.c6 N (X-A):=λX l=>by
  have x:=d X;have y:=aAT (aAz O) (show 0<=f.2-G.c6 f.1 X by have:=n X l;lia);by_cases q:0<=G.c6 N (X-A)
  .show q
  have:=aAy o (show 0< -G.c6 N (X-A)by lia);grind
 show{({0-N.x,0-N.y,0-N.z},A),r λx=>?_,?_}
 .let{X,l,e}:=aAj.mp (qI<|J N);have m:0<=oV (jA S N A):=aFH (E X l) (Int.le_of_eq e);unfold XO;rw[km {ne,m}];show aAA _ (.head _)
 have x:=d P;have y:=aAy O (show 0<G.c6 f.1 P-f.2 by lia);have e:G.c6 (⟨0-N.x,0-N.y,0-N.z⟩:G.V) (P-A)=-G.c6 N (P-A):=by simp[G.c6];grind
 rw[e];by_cases q:0< -G.c6 N (P-A)
 .show q
 have:=aAT (aAz o) (show 0<=G.c6 N (P-A)by lia);grind
def EL:List D->R D:=QJ lw λl=>v1 λx y z=>dN (DH ((∀p∈l,Sz 3000 p.1/\Sz 2000 p.2)/\Sz 2000 ⟨x,y,z⟩)<|.bl (exB l λp=>0<G.c6 p.1 (⟨x,y,z⟩-p.2)))
def qj{l:List (G.V×G.V)}{P:G.V}(h:∀p∈l,Sz 3000 p.1/\Sz 2000 p.2)(a:Sz 2000 P):EL [lw l,vd P]=.ok (.bl (exB l λp=>0<G.c6 p.1 (P-p.2))):=(V2 ZR _ l [vd P]).trans (J4 {h,a})
def GD{r:R Out}{a:Ev->R Out}{d:D}{J:Ev->Prop}(h:∃ρ2,r=.ok (.nx ρ2)/\J ρ2)(b:∀ρ,J ρ->F7 (a ρ)=.ok d):F7 (A3 r a)=.ok d:=by let{ρ2,e,j}:=h;rw[e];show b ρ2 j
def uq{f g:Ev->R D}{ρ:Ev}{d:D}(h:f ρ=.ok (.bl true))(a:g ρ=.ok d):a1d f g ρ=.ok d:=by unfold a1d;rw[h];show a
def vT(f:Int×Int):Prop:=0<f.1/\0<f.2/\aDw f.1.natAbs f.2.natAbs=1
def GY:List D->R D:=QF λY e=>pV (λa=>pV λb=>dN (dN (DH (vT (a,b))<|.bl true) e)) Y
def mz{f:Int×Int}(h:vT f):GY [frD f]=.ok (.bl true):=J4 h
def RI{a b:Int}(l:0<a)(o:0<b):vT (gM a b):=by
 have p:0<aDw a.natAbs b.natAbs:=aEs _ (by lia);let{m,em}:=aDY a.natAbs b.natAbs;let{n,f}:=aEx a.natAbs b.natAbs;generalize h:aDw a.natAbs b.natAbs=g at*
 have d:a=(g:Int)*(m:Int):=by rw[<-Int.natCast_mul,<-em];lia
 have e:b=(g:Int)*(n:Int):=by rw[<-Int.natCast_mul,<-f];lia
 have i:(g:Int)≠0:=by lia
 have j:a.fdiv (g:Int)=m:=by rw[d];show aEf _ i
 have k:b.fdiv (g:Int)=n:=by rw[e];show aEf _ i
 have r:0<m:=aEt λz=>by rw[z]at d;simp at d;lia
 have s:0<n:=aEt λz=>by rw[z]at e;simp at e;lia
 unfold vT gM;dsimp only;rw[h,j,k];show{by lia,by lia,?_};have q:aDw (g*m) (g*n)=g*aDw m n:=Nat.gcd_mul_left ..;rw[<-em,<-f,h]at q;have:g*1=g*aDw m n:=by lia
 show(aFJ p this).symm
def Spr(cs:List G.V):Prop:=(∃a,cs=[a])\/(∃a b,cs=[a,b])\/(∃a b c,cs=[a,b,c]/\G.cr (b-a) (c-a)≠0)\/∃a b c d,cs=[a,b,c,d]/\G.c6 (G.cr (b-a)<|c-a) (d-a)≠0
def ET:List D->R D:=lvD λa=>dN (DH ((∀P∈a,Sz 900 P)/\Spr a)<|.bl true)
def YC{cs:List G.V}(h:∀P∈cs,Sz 900 P)(a:Spr cs):ET [.lst (cs.map vd)]=.ok (.bl true):=(kB _ cs []).trans (J4 {h,a})
abbrev Fs:=List (G.V×Int×Int)
abbrev dP(l:Fs):D:=.lst (l.map IX)
def CV:∀a b,dP a=dP b->a=b:=λa b h=>by injection h with h;show(aDG λx y h=>?_).mp h;injection h with h;injection h with g h;injection h with d h;injection d with d;injection d with e d;injection d with f d;injection e with e;injection f with f;show aDA (K8 g) (aDA e f)
def lB(l:Fs):Int:=l.foldl (λb p=>b*p.2.2) 1
def dR(l:Fs):List Int:=l.map λp=>p.2.1*(lB l).fdiv p.2.2
def qA(v:G.V)(k:Nat):Int:=[v.x,v.y,v.z].getD k 0
def sumK(l:Fs)(k:Nat):Int:=((aCP 0 l.length).map λj=>(dR l).getD j 0*qA (l.getD j (0,0,0)).1 k).sum
def a6m(l:Fs):Prop:=l.length<=4/\∀p∈l,Sz 900 p.1/\0<p.2.2/\bits p.2.1<=9000/\bits p.2.2<=9000
def GH(l:Fs)(P:G.V):Prop:=a6m l/\Sz 2000 P/\(dR l).sum=lB l/\∀k<3,sumK l k=lB l*qA P k
def xJ:List D->R D:=QJ dP λl=>v1 λx y z=>dN (DH (GH l ⟨x,y,z⟩)<|.bl true)
def YY{l:Fs}{P:G.V}(h:GH l P):xJ [dP l,vd P]=.ok (.bl true):=(V2 CV _ l [vd P]).trans (J4 h)
theorem zZ:∀{l:Fs}{b:Int}{n:Nat},bits b<=n->(∀p∈l,bits p.2.2<=9000)->bits (l.foldl (λb p=>b*p.2.2) b)<=n+9000*l.length:=by
 intro d b n h a;cases d with
 |nil=>show h
 |cons p l=>have:=zZ (bits_mul h<|a p<|.head _) λq e=>a q (.tail _ e);rw[aAr,Nat.mul_succ];show m9 this (by lia)
theorem sE{v:G.V}:∀{k:Nat},k<3->V6 (vd v) (.int (k:Int))=.ok (.int (qA v k))
 |0,_=>rfl
 |1,_=>rfl
 |2,_=>rfl
theorem AA{v:G.V}{n:Nat}(h:Sz n v):∀{k:Nat},k<3->bits (qA v k)<=n
 |0,_=>h.1
 |1,_=>h.2.1
 |2,_=>h.2.2
def RM{a:Type}{l:List a}{rep:a->D}{z:a}{j:Nat}(h:j<l.length):V6 (.lst (l.map rep)) (.int (j:Int))=.ok (rep (l.getD j z)):=dH (by rw[W6 (by lia),aBI,aAF,aAp,aAk h];rfl)
def BN(l:Fs):(dR l).length=l.length:=aAg _
def wj{a:Type}{l:List a}{z:a}{j:Nat}(h:j<l.length):l.getD j z∈l:=by rw[aAp,aAk h];show aBT h
def yj{a b:Int}(h:a=b):OK (.int a) (.int b)=.ok (.bl false):=by rw[DP,h];simp
def pW(l:Fs)(B:List G.V)(P:G.V):Prop:=1<=l.length/\GH l P/\(∀p∈l,p.1∈B/\vT p.2)/\e9 (l.map (·.1))=l.map (·.1)/\Spr (l.map (·.1))
def xG:List D->R D:=QJ dP λl=>lvD λB=>v1 λx y z=>dN (DH (pW l B ⟨x,y,z⟩)<|.bl true)
def WH{l:Fs}{B:List G.V}{P:G.V}(h:pW l B P):xG [dP l,.lst (B.map vd),vd P]=.ok (.bl true):=(V2 CV _ l _).trans ((kB _ B [vd P]).trans (J4 h))
def HF(L:List G.V)(c:Int):G.V:=
 if c.fmod 4=0 then pQ L (c.fdiv 4)
 else if c.fmod 4=1 then{((pQ L<|c.fdiv 4).x+(pQ L<|c.fdiv 40).x).fdiv 2,((pQ L<|c.fdiv 4).y+(pQ L<|c.fdiv 40).y).fdiv 2,((pQ L<|c.fdiv 4).z+(pQ L<|c.fdiv 40).z).fdiv 2}
 else if c.fmod 4=2 then{((pQ L<|c.fdiv 4).x+(pQ L<|c.fdiv 40).x+(pQ L<|c.fdiv 400).x).fdiv 3,((pQ L<|c.fdiv 4).y+(pQ L<|c.fdiv 40).y+(pQ L<|c.fdiv 400).y).fdiv 3,((pQ L<|c.fdiv 4).z+(pQ L<|c.fdiv 40).z+(pQ L<|c.fdiv 400).z).fdiv 3}
 else{(c.fdiv 4).fmod 41-20,(c.fdiv 164).fmod 41-20,(c.fdiv 6724).fmod 41-20}
def pU:List D->R D:=QJ (λd:D=>d) λ_=>lvD λL=>pV λc=>dN (DH (L≠[])<|vd<|HF L c)
def RV{d:D}{L:List G.V}{c:Int}(h:L≠[]):pU [d,.lst (L.map vd),.int c]=.ok (vd (HF L c)):=(V2 (λ_ _ h=>h) _ d _).trans ((kB _ L [.int c]).trans (J4 h))
def a3g{L:List G.V}{c:Int}(h:L≠[])(b:∀P∈L,Sz 90 P):Sz 92 (HF L c):=by
 have a:∀k,Sz 90 (pQ L k):=λk=>b _ (B9 (a5s h k).1);unfold HF;split
 .show(a _).mono
 split
 .show{bits_fdiv (m9 (bits_add (a _).1 (a _).1) (by symm)),bits_fdiv (m9 (bits_add (a _).2.1 (a _).2.1) (by symm)),bits_fdiv (m9 (bits_add (a _).2.2 (a _).2.2) (by symm))}
 split
 .have f:∀{x y z:Int},bits x<=90->bits y<=90->bits z<=90->bits ((x+y+z).fdiv 3)<=92:=λd e g=>bits_fdiv (bits_add (bits_add d e) (m9 g (by symm)));show{f (a _).1 (a _).1 (a _).1,f (a _).2.1 (a _).2.1 (a _).2.1,f (a _).2.2 (a _).2.2 (a _).2.2}
 have f:∀x:Int,bits (x.fmod 41-20)<=92:=λx=>m9 (bits_sub (n:=30) (bits_fmod (by symm) (by symm)) (by symm)) (by symm);show{f _,f _,f _}
def a6z(a b c d:G.V):k9 b a c d=-k9 a b c d:=by simp[k9,G.c6];grind
def a6v(a b c d:G.V):k9 a c b d=-k9 a b c d:=by simp[k9,G.c6];grind
def a6h(a b c d:G.V):k9 a b d c=-k9 a b c d:=by simp[k9,G.c6];grind
def Nz(l:List G.V):Prop:=∀a b c d,l=[a,b,c,d]->k9 a b c d≠0
theorem bq:∀{pre l:List G.V}{x y:G.V},Nz (pre++x::y::l)->Nz (pre++y::x::l)
 |[],l,x,y,h=>λa b c d e=>by
  injection e with f e;injection e with g e;subst f g;rw[a6z];have:=h x y c d (by rw[e];rfl)
  lia
 |[p],l,x,y,h=>λa b c d e=>by
  injection e with i e;injection e with f e;injection e with g e;subst i f g;rw[a6v];have:=h p x y d (by rw[e];rfl)
  lia
 |[p,q],l,x,y,h=>λa b c d e=>by
  injection e with i e;injection e with j e;injection e with f e;injection e with g e;subst i f g j;rw[a6h];have:=h p q x y (by rw[e];rfl)
  lia
 |p::q::r::pre,l,x,y,h=>λa b c d e=>by
  have:=kM aFY e;simp at this
  lia
def kj{l m:List G.V}(h:l.Perm m):∀{pre:List G.V},Nz (pre++l)->Nz (pre++m):=by
 induction h with
 |nil=>showλh=>h
 |cons x _ a=>
  intro pre h;have:=a (pre:=pre++[x]) (by nofun)
  nofun
 |swap x y l=>show bq
 |trans _ _ b d=>showλh=>d (b h)
def a3d{cs f rs:List G.V}(h:Nz cs)(g:cs.length=4)(p:(f++rs).Perm cs)(i:1<=f.length):Spr f:=by
 have n:Nz (f++rs):=kj (pre:=[]) p.symm h;have e:=p.length_eq;rw[aAv,g]at e;match f,i,e,n with
 |[a],_,_,_=>show .inl {a,rfl}
 |[a,b],_,_,_=>show .inr (.inl {a,b,rfl})
 |[a,b,c],_,e,n=>let{d,rfl}:=List.length_eq_one_iff.mp (show rs.length=1 by simp at e;lia);show .inr (.inr (.inl {a,b,c,rfl,λz=>n a b c d rfl (by unfold k9;rw[z];simp[G.c6])}))
 |[a,b,c,d],_,e,n=>
  have:rs=[]:=by exists e
  subst this;show .inr (.inr (.inr {a,b,c,d,rfl,n a b c d rfl}))
 |_::_::_::_::_::_,_,e,_=>simp at e;lia
def IY(w:W4)(P:G.V):(wZ w P).sum=k9 w.1 w.2.1 w.2.2.1 w.2.2.2:=by simp[wZ,k9,G.c6];grind
def kD(a b c d P:G.V)(k:Nat):k9 P b c d*qA a k+k9 a P c d*qA b k+k9 a b P d*qA c k+k9 a b c P*qA d k=k9 a b c d*qA P k:=by
 unfold qA;match k with
 |0=>simp[k9,G.c6];grind
 |1=>simp[k9,G.c6];grind
 |2=>simp[k9,G.c6];grind
 |k+3=>simp
def IH(A x:G.V)(r:List G.V):oR A (x::r)=(G.m7 r).map λp=>(p.1,x,p.2,A):=by rw[U7,aAK];unfold oR;rw[aAr,aFX,aAK];show aDn λj _=>?_;erw[aGP,Nat.add_comm 1 j];rfl
section
variable{L:List G.V} (B:Bd4 L)
include B
theorem US{f:G.V×Int}(F:G.IsFace L f.1 f.2){x:G.V}{r:List G.V}(e:G.i8 L f=x::r){p:G.V×G.V}(d:p∈G.m7 r):∃k,0<k/\∀Y,G.c6 f.1 f.1*k9 p.1 x p.2 Y=k*(f.2-G.c6 f.1 Y):=by
 have S:=F.aa2 B.ord;have s:(G.i8 L f).Nodup:=S.aa4;have on:∀X∈G.i8 L f,G.c6 f.1 X=f.2:=λX y=>(G.d5.mp<|S.aa3 y).2;have A:p∈G.T4 (G.i8 L f):=by
  rw[e,G.O7];match r,d with
  |a::l,d=>show .tail _ (G.X6 l a x p d)
 have E:=S.aa1.mp (show(p.1,p.2)∈_ from A);have b:p.1∈r/\p.2∈r:=by rw[U7]at d;let{j,C,rfl}:=aAj.mp d;rw[aBs]at C;show{B9 (by lia),B9 (by lia)}
 rw[e]at s on;have w:=(aAZ.mp s).1;have i:∀{X},X∈x::r->∃g:G.V×Int,G.IsFace L g.1 g.2/\X∈G.i8 L g:=λh=>{f,F,by rw[e];show h};have H:=G.YR B.sol B.ord (i<|.tail _ b.1) (i<|.tail _ b.2) (i<|.head _) E.ne (λq=>w (q▸b.1)) (λq=>w (q▸b.2));have m:=on _ (.tail _ b.1);have o:=G.rG (n:=f.1) (u:=p.2-p.1) (v:=x-p.1) (by rw[G.d6,on _ (.tail _ b.2),m];lia) (by rw[G.d6,on _ (.head _),m];lia);have J:0<=G.i7 f.1 (p.2-p.1) (x-p.1):=E.left x (S.aa3 (show x∈G.i8 L f by rw[e];show .head _));have N:=G.o6 F.prim.ne;have t:G.c6 f.1 (G.cr (p.2-p.1)<|x-p.1)=G.i7 f.1 (p.2-p.1) (x-p.1):=rfl;rw[t]at o;have O:G.i7 f.1 (p.2-p.1) (x-p.1)≠0:=λz=>by
  have:=o (G.cr (p.2-p.1)<|x-p.1);rw[z,aEJ]at this;rcases aAq.mp this with q|q
  .lia
  show k7 q (aHa<|G.o6 H)
 show{G.i7 f.1 (p.2-p.1) (x-p.1),by lia,λY=>?_};have:=o (Y-p.1);rw[G.d6 f.1 Y p.1,m]at this;have I:k9 p.1 x p.2 Y=-G.c6 (G.cr (p.2-p.1)<|x-p.1) (Y-p.1):=by simp[k9,G.c6];grind
 rw[I];grind
theorem DE{f:G.V×Int}(F:G.IsFace L f.1 f.2){x:G.V}{r:List G.V}(e:G.i8 L f=x::r){p:G.V×G.V}(d:p∈G.m7 r)(Y:G.V):(G.c6 f.1 Y<=f.2->0<=k9 p.1 x p.2 Y)/\(G.c6 f.1 Y<f.2->0<k9 p.1 x p.2 Y):=by
 let{k,a,h}:=US B F e d;have b:=G.o6 F.prim.ne;show{λq=>?_,λq=>?_}
 .have:=aAT (aAz a) (show 0<=f.2-G.c6 f.1 Y by lia);by_cases z:0<=k9 p.1 x p.2 Y
  .show z
  have:=aAy b (show 0< -k9 p.1 x p.2 Y by lia);grind
 have:=aAy a (show 0<f.2-G.c6 f.1 Y by lia);by_cases z:0<k9 p.1 x p.2 Y
 .show z
 have:=aAT (aAz b) (show 0<=-k9 p.1 x p.2 Y by lia);grind
theorem KA:IE L:={B.sz,B.sol,by rw[B.self];show B.len}
theorem QE:∃f:G.V×Int,G.IsFace L f.1 f.2/\lK (gS L)∈G.i8 L f:=by
 let{d,g,_}:=B.ad3;have e:gS L=(n6 L).map λf=>(uM f.1 f.2,G.i8 L f):=by unfold gS;rw[B.self]
 rw[e];match q:n6 L,g with
 |f::fs,_=>have F:=(d f).mp (q▸.head _);show{f,F,?_};let{a,b,c,r,h}:=G.B7 B.ord F;change(G.i8 L f).getD 0 0∈_;rw[show G.i8 L f=a::b::c::r from h];show .head _
theorem OV{w:W4}(d:w∈Y1 (lK (gS L)) (gS L)):0<k9 w.1 w.2.1 w.2.2.1 w.2.2.2/\w.1∈L/\w.2.1∈L/\w.2.2.1∈L/\w.2.2.2∈L:=by
 let{f,F,n,d}:=SE (KA B) d;rw[B.self]at F n d;let{g,o,s}:=QE B;have sub:∀{f:G.V×Int}{X:G.V},G.IsFace L f.1 f.2->X∈G.i8 L f->X∈L:=λF h=>(G.d5.mp<|(F.aa2 B.ord).aa3 h).1;have k:=sub o s;generalize lK (gS L)=A at*
 have t:G.c6 f.1 A<f.2:=by
  have:=F.sup A k;by_cases q:G.c6 f.1 A=f.2
  .show k7 (B.on F<|G.d5.mpr ⟨k,q⟩) n
  lia
 let{a,b,c,r,e}:=G.B7 B.ord F;have e:G.i8 L f=a::b::c::r:=e;rw[e,IH]at d;let{p,l,rfl}:=aAj.mp d;have i:p.1∈b::c::r/\p.2∈b::c::r:=by rw[U7]at l;let{j,u,rfl}:=aAj.mp l;rw[aBs]at u;show{B9 (by lia),B9 (by nofun)}
 have m:∀X∈a::b::c::r,X∈L:=λX v=>sub F (e▸v);show{(DE B F e l A).2 t,m _ (.tail _ i.1),m _ (.head _),m _ (.tail _ i.2),k}
theorem a3s{P:G.V}(h:wOf L P=none):∃f:G.V×Int,G.IsFace L f.1 f.2/\f.2<G.c6 f.1 P:=by
 show aDX λj=>?_;let{a,t,_}:=B.ad3;let{g,k,l}:=QE B;have d:∀f∈n6 L,G.c6 f.1 P<=f.2:=λf n=>Int.not_lt.mp λq=>j {f,(a f).mp n,q};let{f,b,u,x,r,e,p,i,v,w,y}:=G.RK B.sol B.ord a k l d;have F:=(a f).mp b;have top:=(DE B F e i P).1 (d f b);have o:lK (gS L)∉G.i8 L f:=λq=>by
  have:=(G.d5.mp<|(F.aa2 B.ord).aa3 q).2
  lia
 have s:(p.1,x,p.2,lK (gS L))∈Y1 (lK<|gS L) (gS L):=by
  show aBe.mpr {(uM f.1 f.2,G.i8 L f),?_,?_}
  .unfold gS;rw[B.self];show aAj.mpr {f,b,rfl}
  rw[kn o,e,IH];show aAj.mpr {p,i,rfl}
 have:=aFy.mp h _ s;show this (lg ?_);generalize lK (gS L)=A at*
 have m:=qI (ns:=wZ (p.1,x,p.2,A) P) (by simp[wZ]);erw[wZ,aAe,aAR,or_false]at m;have z:k9 P x p.2 A=G.i7 (P-A) (p.2-A) (x-A):=by simp[k9,G.i7,G.c6];grind
 have C:k9 p.1 P p.2 A=G.i7 (P-A) (p.1-A) (p.2-A):=by simp[k9,G.i7,G.c6];grind
 have E:k9 p.1 x P A=G.i7 (P-A) (x-A) (p.1-A):=by simp[k9,G.i7,G.c6];grind
 unfold wZ;dsimp only;rcases m with q|q|q|q<;>rw[q]<;>lia
end
theorem tK(g:G.V->Int):∀{l:List (G.V×Int)},(∀p∈l,0<=p.2)->((l.filter λp=>decide (p.2>0)).map λp=>p.2*g p.1).sum=(l.map λp=>p.2*g p.1).sum:=by
 intro a h;cases a with
 |nil=>rfl
 |cons p l=>
  have i:=tK g (l:=l) λq b=>h q (.tail _ b);have:=h p (.head _);by_cases z:p.2>0
  .rw[List.filter_cons,km (lg z),aAm,aAm,aBQ,aBQ,i]
  rw[List.filter_cons,kn (by rw[lb z];show aBt),aAm,aBQ,i,show p.2=0 by lia,aEJ,Int.zero_add]
def a5c{l:List (G.V×Int)}(b:(l.map (·.1)).Nodup){p:G.V×Int}(a:p∈l):oO l p.1=p.2:=by
 have h:=(JY<|aAj.mpr ⟨p,a,rfl⟩).2;generalize oO l p.1=y at*
 induction l with
 |nil=>cases a
 |cons q l f=>
  rw[aAm,aAZ]at b;rcases aAe.mp a with e|a
  .rcases aAe.mp h with d|h
   .rw[e,<-d]
   show k7 (aAj.mpr {_,h,rfl}) (e▸b.1)
  rcases aAe.mp h with d|h
  .show k7 (aAj.mpr {p,a,rfl}) (by have g:=kM Prod.fst d;show g▸b.1)
  show f b.2 a h
def fN{l:List G.V}(a:l.Nodup):(e9 l).Perm l:=(aCS (cM l) a).mpr λv=>t9
def WQ{l m:List Int}(h:l.Perm m):l.sum=m.sum:=by
 induction h with
 |nil=>rfl
 |cons x _ d=>nofun
 |swap x y l=>erw[aBQ];lia
 |trans _ _ a b=>rw[a,b]
def bw(g:G.V->Int){l:List (G.V×Int)}(a:(l.map (·.1)).Nodup):((e9 (l.map (·.1))).map λv=>oO l v*g v).sum=(l.map λp=>p.2*g p.1).sum:=by
 rw[WQ ((fN a).map _),aAK];congr 1;show aDn λp b=>by change oO l p.1*g p.1=_;rw[a5c a b]
theorem RP:∀{l:Fs}{b:Int},b∣l.foldl (λb p=>b*p.2.2) b/\∀p∈l,p.2.2∣l.foldl (λb p=>b*p.2.2) b:=by
 intro f b;cases f with
 |nil=>show{Int.dvd_refl b,λp h=>nomatch h}
 |cons q l=>
  let{d,g}:=RP (b:=b*q.2.2);show{Int.dvd_trans (Int.dvd_mul_right ..) d,λp a=>?_};rcases aAe.mp a with e|a
  .rw[e];show Int.dvd_trans (Int.dvd_mul_left ..) d
  show g p a
def rj{a b:Int}(e:0<a):∃g:Int,g≠0/\a=g*(gM a b).1/\b=g*(gM a b).2:=by have p:0<aDw a.natAbs b.natAbs:=aEs _ (by lia);have d:((aDw a.natAbs b.natAbs:Nat):Int)∣a:=aDz.mpr (aDY ..);show{_,by lia,(Int.mul_fdiv_cancel' d).symm,(Int.mul_fdiv_cancel'<|aDz.mpr<|aEx ..).symm}
def a1g{a W b:Int}(e:0<a)(i:0<W)(d:(gM a W).2∣b):(gM a W).1*b.fdiv (gM a W).2*W=a*b:=by
 let{g,j,f,h}:=rj e;let{q,rfl}:=d;generalize(gM a W).1=n at*
 generalize(gM a W).2=m at*
 rw[aEf _ (by lia),f,show n*q*W=n*q*(g*m)by rw[<-h]];grind
def qx(l:Fs)(k:Nat):sumK l k=(l.map λp=>p.2.1*(lB l).fdiv p.2.2*qA p.1 k).sum:=by
 unfold sumK;congr 1;apply List.ext_getElem
 .simp
 intro i a b;simp[dR,aAk (by exists a)]
theorem sW(W:Int):∀l:List Int,l.sum*W=(l.map (· *W)).sum
 |[]=>aEJ W
 |a::l=>by rw[aBQ,aAm,aBQ,<-sW W l,Int.add_mul]
def AX{a:List (G.V×Int)}{P:G.V}(h:(a.map (·.1)).Nodup)(d:∀p∈a,0<p.2)(i:0<gP a)(g:G.V->Int):((qJ a).map λp=>p.2.1*(lB (qJ a)).fdiv p.2.2*g p.1).sum*gP a=(a.map λp=>p.2*g p.1).sum*lB (qJ a):=by
 rw[sW,<-bw g h,sW];have e:=(RP (l:=qJ a) (b:=1)).2;have e:∀p∈qJ a,p.2.2∣lB (qJ a):=e;generalize lB (qJ a)=b at*
 unfold qJ;rw[aAK,aAK,aAK];congr 1;show aDn λv f=>?_;have:=a1g (d _<|(JY<|t9.mp f).2) i (e _<|aAj.mpr ⟨v,f,rfl⟩);grind
def a4l{a:List (G.V×Int)}(h:PV a)(hz:∀p∈a,Sz 900 p.1)(i:0<gP a):a6m (qJ a)/\∀p∈qJ a,vT p.2:=by
 have j:=jD (a.map (·.1));rw[aAg]at j;have q:∀p∈qJ a,p.1∈a.map (·.1)/\p.2=gM (oO a p.1) (gP a):=λp b=>by let{v,k,rfl}:=aAj.mp b;show{t9.mp k,rfl}
 show{{by unfold qJ;rw[aAg];show aAo j h.1,λp b=>?_},λp b=>?_}
 .let{d,f}:=q p b;let{_,g,l,m}:=VS h d;let{_,n,_}:=RI g i;let{r,o,e}:=aAj.mp d;rw[f];show{e▸hz r o,n,bits_fdiv l,bits_fdiv m}
 let{d,f}:=q p b;let{_,g,_}:=VS h d;rw[f];show RI g i
def TD(a b c d P n o:G.V):k9 P b c d*G.c6 n (a-o)+k9 a P c d*G.c6 n (b-o)+k9 a b P d*G.c6 n (c-o)+k9 a b c P*G.c6 n (d-o)=k9 a b c d*G.c6 n (P-o):=by
 have s:k9 P b c d+k9 a P c d+k9 a b P d+k9 a b c P=k9 a b c d:=by
  have:=IY (a,b,c,d) P;simp[wZ]at this
  lia
 have x:=kD a b c d P 0;have y:=kD a b c d P 1;have z:=kD a b c d P 2;erw[qA,List.getD_cons_zero,List.getD_cons_succ]at x y z;generalize k9 P b c d=e at*
 generalize k9 a P c d=f at*
 generalize k9 a b P d=g at*
 generalize k9 a b c P=h at*
 have r:e*G.c6 n (a-o)+f*G.c6 n (b-o)+g*G.c6 n (c-o)+h*G.c6 n (d-o)=n.x*(e*a.x+f*b.x+g*c.x+h*d.x)+n.y*(e*a.y+f*b.y+g*c.y+h*d.y)+n.z*(e*a.z+f*b.z+g*c.z+h*d.z)-(e+f+g+h)*G.c6 n o:=by simp[G.c6];grind
 rw[r,x,y,z,s];simp[G.c6];grind
section
variable{L:List G.V} (B:Bd4 L)
include B
theorem a1a{P:G.V}{w:W4}(E:Sz 2000 P)(h:wOf L P=some w):pW (qJ (mH w P)) L P/\∀p:G.V×G.V,(∀X∈L,G.c6 p.1 (X-p.2)<=0)->G.c6 p.1 (P-p.2)<=0:=by
 have x:w∈Y1 (lK<|gS L) (gS L):=aCZ h;have H:∀p∈aq w P,0<=p.2:=λp j=>aFH (of_decide_eq_true<|aGk (p:=fits P) h) (xU (aCM j).2);let{o,c1,c2,c3,c4}:=OV B x;have y:=OU (KA B) w x;have u:=AW (P:=P) y;have I:=xz (HD (xj<|KA B) w x) E;have A:∀p∈aq w P,p.1∈L:=λp j=>by have m:=(aCM j).1;grind
 have r:∀p∈mH w P,p.1∈L:=λp j=>A p (aCp.mp j).1;have J:gP (mH w P)=k9 w.1 w.2.1 w.2.2.1 w.2.2.2:=by have a:=tK (λ_=>1) H;erw[Int.mul_one]at a;show a.trans (IY w P)
 have s:0<gP (mH w P):=by rw[J];show o
 have N:∀g:G.V->Int,((mH w P).map λp=>p.2*g p.1).sum=k9 P w.2.1 w.2.2.1 w.2.2.2*g w.1+k9 w.1 P w.2.2.1 w.2.2.2*g w.2.1+k9 w.1 w.2.1 P w.2.2.2*g w.2.2.1+k9 w.1 w.2.1 w.2.2.1 P*g w.2.2.2:=λg=>by
  show(tK g H).trans ?_;simp[aq,wZ]
  lia
 have t:∀p∈mH w P,0<p.2:=λp j=>(I.2 p j).1;let{U,lo}:=a4l I (λp j=>B.sz.1 _ (r p j)) s;have n:(qJ<|mH w P).map (·.1)=e9 ((mH w P).map (·.1)):=by unfold qJ;rw[aAK];show List.map_id _
 have Y:1<=(e9 ((mH w P).map (·.1))).length:=by rw[(fN u).length_eq,aAg];show aEt λz=>?_;rw[aBS z]at s;show k7 s (by symm)
 show{{?_,{U,E,?_,λk hk=>?_},λp j=>{?_,lo p j},?_,?_},λp j=>?_}
 .grind
 .have a:=AX (P:=P) u t s λ_=>1;erw[Int.mul_one]at a;have b:(dR<|qJ<|mH w P).sum*gP (mH w P)=gP (mH w P)*lB (qJ<|mH w P):=a;rw[Int.mul_comm (gP _)]at b;show aFt (by lia) b
 .have a:=AX (P:=P) u t s λv=>qA v k;have O:=(N λv=>qA v k).trans (kD ..);rw[<-J]at O;have Q:=a.trans (kM (· *lB (qJ<|mH w P)) O);rw[<-qx]at Q;show aFt (a:=gP (mH w P)) (by lia) (Q.trans ?_);change gP (mH w P)*qA P k*lB (qJ<|mH w P)=lB (qJ<|mH w P)*qA P k*gP (mH w P);grind
 .have:=aBV (f:=(·.1)) j;rw[n]at this;let{q,C,e}:=aAj.mp (t9.mp this);show e▸r q C
 .rw[n];show fA (z7 _)
 .rw[n];show a3d (cs:=[w.1,w.2.1,w.2.2.1,w.2.2.2]) (rs:=((aq w P).filter λp=>!decide (p.2>0)).map (·.1)) (λa b c d e=>?_) rfl ?_ Y
  .injection e with e1 e;injection e with e2 e;injection e with e3 e;injection e with e4 e;rw[<-e1,<-e2,<-e3,<-e4]
   lia
  show((fN u).append_right _).trans ?_;unfold mH;rw[<-aBk];show(List.filter_append_perm _ _).map _
 have a:=N λX=>G.c6 p.1 (X-p.2);have nz:((mH w P).map λq=>q.2*G.c6 p.1 (q.1-p.2)).sum<=0:=by
  have:∀l:List (G.V×Int),(∀q∈l,0<q.2/\q.1∈L)->(l.map λq=>q.2*G.c6 p.1 (q.1-p.2)).sum<=0:=λl=>by
   induction l with
   |nil=>intro _;show aCa 0
   |cons q l ih=>intro T;have i:=ih λq C=>T q (.tail _ C);let{q1,q2}:=T q (.head _);have:=aAT (aAz q1) (show 0<=-G.c6 p.1 (q.1-p.2)by have:=j q.1 q2;lia);rw[aAm,aBQ];grind
  grind
 have e:=(a.trans<|TD ..).symm;by_cases q:G.c6 p.1 (P-p.2)<=0
 .show q
 have:=aAy o (show 0<G.c6 p.1 (P-p.2)by lia);grind
end
def pR:List D->R D:=MX λY=>dN (DH (Y.length<=63/\dZ 1048576 Y)<|.bl true)
def a3p(c k f:Int){t:List Int}(i:t.length<=5):(∀P∈(N4 c t).map (G.yS 6),Sz 90 P)/\(N4 c t).map (G.yS 6)≠[]/\((N4 c t).map (G.yS 6)).length<=11/\bB 900 (((N4 c t).map (G.yS 6)).map (dJ k f))/\G.j7 (((N4 c t).map (G.yS 6)).map (dJ k f)):=by
 let{b,j}:=zU c i;have d:∀{x:Int},bits x<=80->bits (6*x)<=90:=λh=>m9 (bits_mul (show bits 6<=10 by symm) h) (by symm);have z:∀P∈(N4 c t).map (G.yS 6),Sz 90 P:=λP g=>by let{Q,a,rfl}:=aAj.mp g;show{d (b Q a).1,d (b Q a).2.1,d (b Q a).2.2}
 have S:=GT c t;show{z,λe=>?_,by rw[aAg];show j,{λP g=>?_,by rw[aAg,aAg];lia},MS k f (G.NG (by symm) (λX l=>aBV l) S)}
 .let{A,m,_}:=S
  nofun
 let{Q,a,rfl}:=aAj.mp g;show QV k f (z Q a).mono
def a0y{Y:List D}(f:dZ 1048576 Y):∃cs:List Int,(tR (.lst ((Y.drop 9).take 3)) (.lst [.int 1])).bind (λx=>NQ x none (some 3))=.ok (.lst (cs.map D.int)):=by
 have e:∀d∈(Y.drop 9).take 3,∃i,d=.int i/\bits i<=1048576:=λd g=>f d (aDQ<|aEY g);have len:((Y.drop 9).take 3).length<=3:=List.length_take_le _ _;generalize(Y.drop 9).take 3=t at*
 match t,e,len with
 |[],_,_=>show{[1],rfl}
 |[a],e,_=>let{i,rfl,_}:=e a (.head _);show{[i,1],rfl}
 |[a,b],e,_=>let{i,rfl,_}:=e a (.head _);let{j,rfl,_}:=e b (.tail _ (.head _));show{[i,j,1],rfl}
 |[a,b,c],e,_=>let{i,rfl,_}:=e a (.head _);let{j,rfl,_}:=e b (.tail _ (.head _));let{k,rfl,_}:=e c (.tail _ (.tail _ (.head _)));show{[i,j,k],rfl}
def a9m{L:List G.V}(B:Bd4 L){P:G.V}(a:Sz 2000 P):(NT L P=.non/\exB (jx L) (λp=>0<G.c6 p.1 (P-p.2))=true)\/∃l:Fs,NT L P=dP l/\pW l L P/\exB (jx L) (λp=>0<G.c6 p.1 (P-p.2))=false:=by
 have ne:L≠[]:=λz=>by let{A,g,_}:=B.sol;grind
 unfold NT;cases q:wOf L P with
 |none=>let{f,F,b}:=a3s B q;show .inl {rfl,zq (MP B.sol F b)}
 |some w=>
  let{r,d}:=a1a B a q;show .inr {_,rfl,r,ww ?_};rintro⟨p,e,h⟩;have:=d p (UC ({B.sz.1,ne,B.len}) p e).2.2
  lia
def a3z{a β:Type}{r r':R a}{F:a->R β}{y:R β}(b:r=r')(d:r'.bind F=y):r.bind F=y:=by rw[b];show d
def a5k{r:R Bool}{A B:R Out}{J:Ev->Prop}(h:r=.ok false)(a:∃ρ2,B=.ok (.nx ρ2)/\J ρ2):∃ρ2,(r.bind λt=>if t=true then A else B)=.ok (.nx ρ2)/\J ρ2:=by rw[h];show a
def jy(l:Fs):C6 (dP l)<=40:=by
 have g:∀l:Fs,x4 (l.map IX)<=5:=λl=>by
  induction l with
  |nil=>simp[x4]
  |cons a l b=>rw[aAm,x4];show Nat.max_le.mpr {by simp[C6,x4],b}
 have:=g l;rw[C6]
 lia
end M
namespace K31
open PySem L2 DL M
def top(i:Nat):cp:=PySem.Challenge.pw_stakebodies_k31_shares_told.main.body.getD i (.Pass {0,0,0,0})
abbrev aJ:cp:=top 5
abbrev uA:List Str:=["P", "Q"]
def qM:FnScope uA ["P", "Q"] (b9 aJ):=B6
abbrev jE:cp:=top 6
abbrev HG:List Str:=["u", "v"]
def BA:FnScope HG ["u", "v"] (b9 jE):=B6
abbrev dF:cp:=top 7
abbrev zJ:List Str:=["u", "v"]
def vC:FnScope zJ ["u", "v"] (b9 dF):=B6
abbrev lN:cp:=top 8
abbrev NI:List Str:=["P", "Q", "R", "S"]
def EM:FnScope NI ["P", "Q", "R", "S"] (b9 lN):=B6
abbrev P8:cp:=top 9
abbrev lF:List Str:=["numbers", "divisor", "number", "rest", "further"]
def jQ:FnScope lF ["numbers"] (b9 P8):=B6
abbrev S9:cp:=top 10
abbrev pH:List Str:=["P", "Q", "R", "cross", "divisor", "upright"]
def mC:FnScope pH ["P", "Q", "R"] (b9 S9):=B6
abbrev mF:cp:=top 11
abbrev OA:List Str:=["plane", "P", "height"]
def GP:FnScope OA ["plane", "P"] (b9 mF):=B6
abbrev P3:cp:=top 14
abbrev mU:List Str:=["ways", "way"]
def lA:FnScope mU ["ways"] (b9 P3):=B6
abbrev C8:cp:=top 15
abbrev N8:List Str:=["points", "ways", "along", "upright"]
def pA:FnScope N8 ["points"] (b9 C8):=B6
abbrev aD:cp:=top 16
abbrev uK:List Str:=["points"]
def qV:FnScope uK ["points"] (b9 aD):=B6
abbrev Z3:cp:=top 17
abbrev nV:List Str:=["plane", "points"]
def zN:FnScope nV ["plane", "points"] (b9 Z3):=B6
abbrev aF:cp:=top 18
abbrev uG:List Str:=["pair", "points", "along", "upright", "outermost", "P", "way"]
def rR:FnScope uG ["pair", "points"] (b9 aF):=B6
abbrev cJ:cp:=top 19
abbrev yQ:List Str:=["points", "least", "upward", "touched"]
def vG:FnScope yQ ["points"] (b9 cJ):=B6
abbrev nQ:cp:=top 20
abbrev NW:List Str:=["upright", "P", "Q", "R"]
def EF:FnScope NW ["upright", "P", "Q", "R"] (b9 nQ):=B6
abbrev bQ:cp:=top 21
abbrev xK:List Str:=["upright", "points", "chain", "P"]
def uZ:FnScope xK ["upright", "points"] (b9 bQ):=B6
abbrev nK:cp:=top 22
abbrev LL:List Str:=["upright", "points", "there", "back"]
def GQ:FnScope LL ["upright", "points"] (b9 nK):=B6
abbrev aQ:cp:=top 23
abbrev vF:List Str:=["ring"]
def rZ:FnScope vF ["ring"] (b9 aQ):=B6
abbrev bR:cp:=top 24
abbrev yF:List Str:=["first", "about", "touched_by", "faces", "walked", "waiting", "pair", "plane", "ring", "step"]
def gT:FnScope yF ["first", "about", "touched_by"] (b9 bR):=B6
abbrev K7:cp:=top 25
abbrev jC:List Str:=["points", "spread", "about", "touched_by"]
def oB:FnScope jC ["points"] (b9 K7):=B6
abbrev cU:cp:=top 26
abbrev xF:List Str:=["faces", "corners", "plane", "ring"]
def uV:FnScope xF ["faces"] (b9 cU):=B6
abbrev nC:cp:=top 27
abbrev ME:List Str:=["points"]
def GZ:FnScope ME ["points"] (b9 nC):=B6
abbrev aN:cp:=top 29
abbrev uD:List Str:=["top", "bottom", "divisor"]
def sF:FnScope uD ["top", "bottom"] (b9 aN):=B6
abbrev Z6:cp:=top 30
abbrev nT:List Str:=["faces", "apex", "wedges", "plane", "ring"]
def xR:FnScope nT ["faces"] (b9 Z6):=B6
abbrev cV:cp:=top 31
abbrev yI:List Str:=["wedge", "P"]
def uS:FnScope yI ["wedge", "P"] (b9 cV):=B6
abbrev U4:cp:=top 32
abbrev jT:List Str:=["faces", "P", "wedge", "weights"]
def vD:FnScope jT ["faces", "P"] (b9 U4):=B6
abbrev Z0:cp:=top 33
abbrev oM:List Str:=["weights", "whole"]
def xS:FnScope oM ["weights"] (b9 Z0):=B6
abbrev fB:cp:=top 34
abbrev BV:List Str:=["land", "P", "weights"]
def zI:FnScope BV ["land", "P"] (b9 fB):=B6
abbrev Y3:cp:=top 36
abbrev sI:List Str:=["script", "k"]
def oW:FnScope sI ["script", "k"] (b9 Y3):=B6
abbrev iY:cp:=top 37
abbrev EH:List Str:=["P", "Q"]
def BD:FnScope EH ["P", "Q"] (b9 iY):=B6
abbrev dD:cp:=top 38
abbrev zA:List Str:=["u", "v"]
def uI:FnScope zA ["u", "v"] (b9 dD):=B6
abbrev X4:cp:=top 39
abbrev rH:List Str:=["u", "v"]
def pF:FnScope rH ["u", "v"] (b9 X4):=B6
abbrev cR:cp:=top 40
abbrev zH:List Str:=["cell", "most", "x", "y"]
def uB:FnScope zH ["cell"] (b9 cR):=B6
abbrev G4:cp:=top 41
abbrev R1:List Str:=["script", "cell", "a", "b", "c", "kind", "some"]
def xW:FnScope R1 ["script"] (b9 G4):=B6
abbrev bU:cp:=top 42
abbrev yK:List Str:=["spot", "script", "x", "y", "z", "cell", "most", "far"]
def vE:FnScope yK ["spot", "script"] (b9 bU):=B6
abbrev V0:cp:=top 43
abbrev kK:List Str:=["script", "near", "cell", "n", "one", "two", "three"]
def uC:FnScope kK ["script", "near", "cell"] (b9 V0):=B6
abbrev Q8:cp:=top 44
abbrev iE:List Str:=["land", "found", "i", "j", "k", "normal", "sides"]
def qY:FnScope iE ["land"] (b9 Q8):=B6
abbrev X9:cp:=top 45
abbrev sJ:List Str:=["planes", "P", "normal", "spot"]
def pB:FnScope sJ ["planes", "P"] (b9 X9):=B6
abbrev cZ:cp:=top 46
abbrev zR:List Str:=["found"]
def uN:FnScope zR ["found"] (b9 cZ):=B6
abbrev Z8:cp:=top 47
abbrev uT:List Str:=["share", "one", "other"]
def qH:FnScope uT ["share"] (b9 Z8):=B6
abbrev Q7:cp:=top 48
abbrev iF:List Str:=["corners", "ways"]
def qT:FnScope iF ["corners"] (b9 Q7):=B6
abbrev G1:cp:=top 49
abbrev X7:List Str:=["found", "P", "bottom", "corner", "share", "tops", "k"]
def pC:FnScope X7 ["found", "P"] (b9 G1):=B6
abbrev U1:cp:=top 50
abbrev jI:List Str:=["found", "land", "P", "pair", "corners"]
def uH:FnScope jI ["found", "land", "P"] (b9 U1):=B6
abbrev fJ:cp:=top 51
abbrev PN:List Str:=["script", "near", "land", "planes", "handed", "cell", "P", "found", "kept"]
def WC:FnScope PN ["script"] (b9 fJ):=B6
def fO:cp:=(p5 K7).getD 2 (.Pass {0,0,0,0})
abbrev KS:Str:= "faces_of.<locals>.about"
def J7:cp:=(p5 K7).getD 3 (.Pass {0,0,0,0})
abbrev kG:Str:= "faces_of.<locals>.touched_by"
def tbK:List (Pos×Str):=[(JX fO,KS),(JX J7,kG)]
section
variable [Tabs]
variable{P:bc}{w:bM}{K:lM}{mg:dM}{base:cf}
def l8(g:Y6 K mg "way_between" aJ):t6 P w K mg base 1 "way_between" 2 j9:=by
 refine' k8 (k:=0) (F:=_) g qM (λf i j l=>?b) λe d m h=>?_
 case b=>refine' (c5<|d8<|v7 rfl)
 replace h:=x8 h;let{a,b,c,e,rfl,h}:=h;replace h:=x8 h;let{n,o,p,e,rfl,h}:=h;replace h:=p9 h;let{rfl,h}:=h;show h
def y9(g:Y6 K mg "cross_of" jE):t6 P w K mg base 1 "cross_of" 2 u3:=by
 refine' k8 (k:=0) (F:=_) g BA (λp q r s=>?b) λe d t h=>?_
 case b=>refine' (c5<|d8<|v7 rfl)
 replace h:=x8 h;let{a,b,c,e,rfl,h}:=h;replace h:=x8 h;let{u,v,x,e,rfl,h}:=h;replace h:=p9 h;let{rfl,h}:=h;split at h
 .rename_i o;let{{f,i,j},l,m,n}:=o;rw[<-h];simp[l9,j4 (t7.of i n),j4 (t7.of j m),j4 (t7.of j l),j4 (t7.of f n),j4 (t7.of f m),j4 (t7.of i l)]
 cases h
def u4(g:Y6 K mg "product_of" dF):t6 P w K mg base 1 "product_of" 2 l5:=by
 refine' k8 (k:=0) (F:=_) g vC (λp q r s=>?b) λe d u h=>?_
 case b=>refine' (c5<|d8<|v7 rfl)
 replace h:=a0c h;let{a,b,c,t,e,rfl,h}:=h;replace h:=x8 h;let{v,x,y,e,rfl,h}:=h;replace h:=p9 h;let{rfl,h}:=h;split at h
 .rename_i f;let{{i,j,l},m,n,o}:=f;rw[<-h];simp[l9,tx,sj,uw,j4 (t7.of i m),j4 (t7.of j n),j4 (t7.of l o)]
 cases h
def V8(u4:t6 P w K mg base 1 "product_of" 2 l5)(y9:t6 P w K mg base 1 "cross_of" 2 u3)(l8:t6 P w K mg base 1 "way_between" 2 j9)(g:Y6 K mg "lift_of" lN):t6 P w K mg base 2 "lift_of" 4 mS:=by
 refine' k8 (k:=1) (F:=_) g EM (λm A B C=>?b) λn d E h=>?_
 case b=>refine' (c5<|d8<|T5 u4 m (T5 y9 m (T5 l8 m (c8 0)<|c8 1)<|T5 l8 m (c8 0)<|c8 2)<|T5 l8 m (c8 0)<|c8 3)
 replace h:=x8 h;let{a,b,c,n,rfl,h}:=h;replace h:=x8 h;let{d,e,f,n,rfl,h}:=h;replace h:=x8 h;let{g,o,i,n,rfl,h}:=h;replace h:=x8 h;let{j,k,l,n,rfl,h}:=h;replace h:=p9 h;let{rfl,h}:=h;split at h
 .rename_i y;let{p,q,r,s}:=y;rw[<-h];have t:=R5 (u:={d,e,f}-{a,b,c}) (v:={g,o,i}-{a,b,c}) (q.sub p).mono (r.sub p).mono;have x:=Z1 (u:=G.cr ({d,e,f}-{a,b,c}) ({g,o,i}-{a,b,c})) (v:={j,k,l}-{a,b,c}) ((q.sub p).cr (r.sub p)).mono (s.sub p).mono;erw[vd,G.QO,G.WB,G.QN,G.a6a,G.a7z,G.a6c]at t x;have z:∀a b c d e f:Int,j9 [.tup [.int a,.int b,.int c],.tup [.int d,.int e,.int f]]=.ok (.tup [.int (d-a),.int (e-b),.int (f-c)]):=λ_ _ _ _ _ _=>rfl;simp[l9,z,t,x,k9]
 cases h
def C3(J:mg "abs"=none)(g:Y6 K mg "common_divisor" P8):t6 P w K mg base 1 "common_divisor" 1 wG:=by
 refine' k8 (k:=0) (F:=_) g jQ (λL y N j=>?b) λu d O h=>?_
 case b=>
  refine' (b8 (i5 1 u0 j)
   (b8 (B1 aAL rfl (YJ<|c8 0) (j5 2 j) (b8 (i5 3 (uE EQ<|f7 2) j)
   (c5 (gD (vq 3) aAL (j0 (Y2 y) (f7 3) X8) (b8 (i5 4 (v7 rfl) j)
   (b8 (i5 1 (c8 3) j)
   (c5<|i5 3 (c8 4) j)))))))
   (c5<|d8<|c8 1)))
 replace h:=bO h;let{a,u,rfl,h}:=h;replace h:=p9 h;let{rfl,h}:=h;rw[<-h];erw[l9,aAm,aFE,aBF,aDN];erw[kN,TM,R.aa0,NB,C4,aAr,aCe,Nat.reduceAdd,Nat.reduceSub,List.replicate_succ,List.replicate_zero,aCv,aCw];show aV (λrest e=>∃(g:Nat) (n r f:Sl),e=[.v (.tup (a.map D.int)),.v (.int g),n,r,f]/\∃i:List Int,rest=i.map D.int/\i.foldl (λg n=>aDw g n.natAbs) g=AK a) ?_ {0,_,_,_,rfl,a,rfl,rfl} ?_
 .rintro d u e ⟨g,n,r,f,rfl,i,o,l⟩;match i,o,l with
  |x::i,o,l=>
   injection o with A B;subst A B;erw[iZ,aCv,aCw,AZ,JC,CZ,zk,R.aa0,UW,C4];have C:(if x<0 then-x else x)=(x.natAbs:Int):=by split<;>lia
   rw[C];show qG (λm e=>∃(p q:Nat) (f:Sl),e=[.v (.tup (a.map D.int)),.v (.int p),.v (.int x),.v (.int q),f]/\q<m/\aDw p q=aDw g x.natAbs) ?_ (by rintro e ⟨p,q,f,_,h,_⟩;lia) {g,x.natAbs,f,rfl,by change x.natAbs<((x.natAbs:Int).natAbs)+2;lia,rfl} ?_
   .rintro m e ⟨p,q,f,rfl,E,t⟩;by_cases s:(q:Int)=0
    .show .inl (by simp[s])
    have H:q≠0:=by lia
    show .inr {by simp[H],_,?_,q,p%q,Sl.v (.int ((p%q:Nat):Int)),rfl,?_,?_}
    .have em:eV (.int (p:Int)) (.int (q:Int))=.ok (.int ((p%q:Nat):Int)):=by rw[sH s,aFu _ (by lia)];rfl
     simp[em]
    .have:=aFd p (show 0<q by lia)
     lia
    rw[aGu,<-Nat.gcd_rec,aGu];show t
   rintro m e ⟨p,q,f,rfl,E,t⟩ I;have s:q=0:=by
    by_cases z:q=0
    .show z
    simp[z]at I
   subst s;show{p,_,_,_,rfl,i,rfl,?_};rw[<-l,aEk,<-t,Nat.gcd_zero_right]
 rintro e ⟨g,n,r,f,rfl,i,o,l⟩;have:i=[]:=by exists o.symm
 subst this;simp at l;simp[l]
def T2(y9:t6 P w K mg base 1 "cross_of" 2 u3)(l8:t6 P w K mg base 1 "way_between" 2 j9)(C3:t6 P w K mg base 1 "common_divisor" 1 wG)(u4:t6 P w K mg base 1 "product_of" 2 l5)(g:Y6 K mg "plane_through" S9):t6 P w K mg base 2 "plane_through" 3 T0:=by
 refine' k8 (k:=1) (F:=_) g mC (λl Y dc s=>?b) λA d hl h=>?_
 case b=>
  refine' (b8 (i5 3 (T5 y9 l (T5 l8 l (c8 0)<|c8 1)<|T5 l8 l (c8 0)<|c8 2) s)
   (b8 (i5 4 (tZ C3 l<|c8 3) s)
   (b8 (m5 (j0 (L6 Y) (f7 4) X8) (c5 mJ) j2)
   (b8 (i5 5 (v7 rfl) s)
   (c5<|d8<|FX<|i4 (v7 rfl)<|i4 (v7 rfl)<|i4 (v7 rfl)<|i4 (T5 u4 l (c8 5)<|c8 0) o9)))))
 replace h:=x8 h;let{a,b,c,A,rfl,h}:=h;replace h:=x8 h;let{d,e,f,A,rfl,h}:=h;replace h:=x8 h;let{g,J,i,A,rfl,h}:=h;replace h:=p9 h;let{rfl,h}:=h
 skip
 split at h
 .rename_i hz;let{{p,q,r},n}:=hz;rw[<-h];obtain⟨P,B⟩:∃P:G.V,P=⟨a,b,c⟩:={_,rfl};obtain⟨Q,E⟩:∃P:G.V,P=⟨d,e,f⟩:={_,rfl};obtain⟨j,H⟩:∃P:G.V,P=⟨g,J,i⟩:={_,rfl};rw[<-B]at p n;rw[<-E]at q n;rw[<-H]at r n;have vP:(.tup [.int a,.int b,.int c]:D)=vd P:=by rw[B]
  have vQ:(.tup [.int d,.int e,.int f]:D)=vd Q:=by rw[E]
  have vR:(.tup [.int g,.int J,.int i]:D)=vd j:=by rw[H]
  rw[vP,vQ,vR,<-B,<-E,<-H];have o:=(q.sub p).cr (r.sub p);have c1:=R5 (u:=Q-P) (v:=j-P) (q.sub p).mono (r.sub p).mono;let{L,g1,g2}:=G.nN n;have m:((G.B5 (G.cr (Q-P)<|j-P):Nat):Int)≠0:=by lia
  have gb:zW ((G.B5 (G.cr (Q-P)<|j-P):Nat):Int):={m,f9 (MK o)};have dv:=CP (G.cr (Q-P)<|j-P);have pl:G.j6 P Q j=(G.mI (G.cr (Q-P)<|j-P) (G.B5<|G.cr (Q-P)<|j-P),G.c6 (G.mI (G.cr (Q-P)<|j-P)<|G.B5<|G.cr (Q-P)<|j-P) P):=rfl;rw[pl];generalize hC:G.cr (Q-P) (j-P)=C at*
  have sn:Sz 2003 (G.mI C<|G.B5 C):=by have N:=bits_fdiv (b:=(G.B5 C:Int)) o.1;have O:=bits_fdiv (b:=(G.B5 C:Int)) o.2.1;have T:=bits_fdiv (b:=(G.B5 C:Int)) o.2.2;rw[qE L]at N O T;show{N,O,T}
  have d1:∀t:Int,T7 (.int t) (.int (G.B5 C:Nat))=.ok (.int (t/(G.B5 C:Nat))):=λt=>by rw[aX gb,qE L]
  have U:=Z1 (u:=G.mI C (G.B5 C)) (v:=P) sn.mono p.mono;have e0:(((G.B5 C:Nat):Int)==0)=false:=by exists m
  erw[G.mI]at U;have I:l5 [.tup [.int (C.x/(G.B5 C:Nat)),.int (C.y/(G.B5 C:Nat)),.int (C.z/(G.B5 C:Nat))],vd P]=_:=U;simp[l9,c1,dv,e0,d1,I,G.mI]
 cases h
def nE(g:Y6 K mg "side_of" mF):t6 P w K mg base 1 "side_of" 2 bD:=by
 refine' k8 (k:=0) (F:=_) g GP (λv A B s=>?b) λq d C h=>?_
 case b=>
  refine' (b8 (i5 2 (v7 rfl) s)
   (b8 (m5 (j0 iI (f7 2) X8) (c5<|d8 u0) j2)
   (b8 (m5 (j0 AO (f7 2) X8) (c5<|d8<|rO u0) j2)
   (c5<|d8 u0))))
 replace h:=uj h;let{a,b,c,d,q,rfl,h}:=h;replace h:=x8 h;let{x,y,z,q,rfl,h}:=h;replace h:=p9 h;let{rfl,h}:=h
 skip
 split at h
 .rename_i u;let{{e,f,i},j,l,m}:=u;rw[<-h];obtain⟨t,r⟩:∃t,a*x+b*y+c*z-d=t:={_,rfl};have o:NP (.int (a*x+b*y+c*z)) (.int d)=.ok (.int t):=by rw[<-r];rfl
  rw[r];unfold sgn;by_cases p:0<t
  .simp[-yZ,l9,j4 (t7.of e j),j4 (t7.of f l),j4 (t7.of i m),p,o]
  by_cases n:t<0
  .simp[-yZ,l9,j4 (t7.of e j),j4 (t7.of f l),j4 (t7.of i m),p,n,o]
  simp[-yZ,l9,j4 (t7.of e j),j4 (t7.of f l),j4 (t7.of i m),p,n,o]
 cases h
def J1(j:UJ K mg "NO_WAY" [0,0,0])(g:Y6 K mg "first_real_way" P3):t6 P w K mg base 1 "first_real_way" 1 y7:=by
 refine' k8 (k:=0) (F:=_) g lA (λp l q m=>?b) λn d r h=>?_
 case b=>
  refine' (b8 (B1 aAL rfl (n8<|c8 0) (j5 1 m)<|c5<|m5 (j0 (Y2 l) (f7 1)<|PD.pb<|xL j) (c5<|d8<|c8 1) j2)
   (c5<|d8 iS))
 match n,h with
 |[.lst Y],h=>
  erw[y7]at h;split at h
  .rename_i f i;rw[t8 i];rw[<-h];simp[l9];generalize Sl.v (D.lst<|aDF vd f)=a;generalize Sl.no=b;clear h i;induction f generalizing b with
   |nil=>rfl
   |cons v f o=>
    rw[aAm,G.A7];by_cases e:v=0
    .rw[N2 (ρ2:=[a,.v (vd v)]) rfl (by simp[-FD,ne0,e]),o];simp[e]
    rw[kJ (x:=vd v) rfl (by simp[-FD,ne0,e])];simp[e,DW]
  cases h
def G5(l8:t6 P w K mg base 1 "way_between" 2 j9)(J1:t6 P w K mg base 1 "first_real_way" 1 y7)(y9:t6 P w K mg base 1 "cross_of" 2 u3)(u4:t6 P w K mg base 1 "product_of" 2 l5)(bf:mg "len"=none)(O:mg "any"=none)(g:Y6 K mg "dimension_of" C8):t6 P w K mg base 2 "dimension_of" 1 D1:=by
 refine' k8 (k:=1) (F:=_) g pA (λz hu dc Q=>?b) λo d hl h=>?_
 case b=>
  refine' (b8 (m5 (j0 (L6 hu) (PD.pb<|uE K5<|f7 0) X8) (c5 mJ) j2)
   (b8 (fK 1 ["P"] ["points"] [0] Q rfl (D7 (sc:=b9 C8) (N:=N8)) (n8<|c8 0) (FZ λ_ _ _ _ _=>(T5 l8 z (v7 rfl)<|c8 0))<|λ_=>p8)
   (b8 (i5 2 (tZ J1 z<|c8 1) Q)
   (b8 (m5 (j0 GR (f7 2)<|PD.pb iS) (c5<|d8 u0) j2)
   (b8 (i5 3 (tZ J1 z<|G8 ["way"] ["along"] [2] rfl (D7 (sc:=b9 C8) (N:=N8)) (n8<|c8 1) (FZ λ_ _ _ _ _=>(T5 y9 z (c8 1)<|c8 0))<|λ_=>p8) Q)
   (b8 (m5 (j0 GR (f7 3)<|PD.pb iS) (c5<|d8 u0) j2)
   (b8 (m5 (Q4<|uE (a3b rfl)<|PD.pb<|G8 ["way"] ["upright"] [3] rfl (D7 (sc:=b9 C8) (N:=N8)) (n8<|c8 1) (FZ λ_ _ _ _ _=>(iR (Y2 hu) (PD.pb<|T5 u4 z (c8 1)<|c8 0) X8))<|λ_=>p8) (c5<|d8 u0) j2)
   (c5<|d8 u0))))))))
 match o,h with
 |[.lst Y],h=>
  erw[D1]at h;split at h
  .rename_i J l;rw[t8 l];split at h
   .rename_i hz;rw[<-h];let{ai,E}:=hz;match J,ai with
    |p::r,_=>
    obtain⟨a,f⟩:∃a,(p::r).map vd=a:={_,rfl};have i0:V6 (.lst a) (.int 0)=.ok (vd p):=dH (by rw[W6 (by symm),<-f];rfl);have H:x9 (λd e=>R.ok (aEr e 0<|Sl.v d)) (λx=>R.ok true) (λe=>(((iD 1 e).bind λx=>V6 x (D.int 0)).bind λd=>((M1 0 e).bind λd=>R.ok [d]).bind λo=>R.ok (d::o)).bind j9) [.no,.v (.lst a)] a=.ok (((p::r).map (· -p)).map vd):=by rw[aAK];rw[show x9 _ _ _ _ a=x9 _ _ _ _ ((p::r).map vd)by rw[f]];show gH vd _ _ λq m=>{[.v (vd q),Sl.v (.lst a)],rfl,?_};change((V6 (.lst a)<|.int 0).bind _).bind _=_;rw[i0];rfl
    have l:∀w∈(p::r).map (· -p),Sz 1001 w:=λw l=>by let{q,m,rfl}:=aAj.mp l;show(E.1 q m).sub (E.1 p (.head _))
    have I:(((p::r).map (· -p)).map vd).length<=sizeLine:=by rw[aAg,aAg];show small E.2
    have L:a.length<=sizeLine:=by rw[<-f,aAg];show small E.2
    have i:((a.length:Int)==0)=false:=by rw[<-f];simp;lia
    have t:=GC ((p::r).map (· -p));unfold G.U5;dsimp only;rw[f];generalize(p::r).map (· -p)=W at*
    have n:=λu=>GC (W.map<|G.cr u);cases T:G.A7 W with
    |none=>rw[T]at t;simp[l9,i6,L,i,H,t,DW,VC]
    |some s=>
     rw[T]at t;let{hm,_}:=G.u5 T;have A:=l s hm;have B:x9 (λd e=>R.ok (aEr e 0<|Sl.v d)) (λx=>R.ok true) (λe=>((M1 1 e).bind λd=>((M1 0 e).bind λd=>R.ok [d]).bind λo=>R.ok (d::o)).bind u3) [.no,.v (vd s)] (W.map vd)=.ok ((W.map<|G.cr s).map vd):=by rw[aAK];show gH vd _ _ λq m=>{[.v (vd q),Sl.v (vd s)],rfl,?_};change u3 [vd s,vd q]=_;show R5 A.mono (l q m).mono
     have n:=GC (W.map<|G.cr s);have eW:(W.map vd).length=W.length:=aAg ..;rw[eW]at I;cases C:G.A7 (W.map<|G.cr s)with
     |none=>rw[C]at n;erw[aAK]at B n;erw[C];simp[l9,i6,L,i,H,t,DW,VC,I,B,n]
     |some j=>
      rw[C]at n;let{jt,_}:=G.u5 C;have U:Sz 2003 j:=by let{q,m,rfl}:=aAj.mp jt;show(A.cr<|l q m).mono
      have c3:x9 (λd e=>R.ok (aEr e 0<|Sl.v d)) (λx=>R.ok true) (λe=>(((M1 1 e).bind λd=>((M1 0 e).bind λd=>R.ok [d]).bind λo=>R.ok (d::o)).bind l5).bind λx=>OK x (D.int 0)) [.no,.v (vd j)] (W.map vd)=.ok ((W.map λw=>decide (G.c6 j w≠0)).map D.bl):=by rw[aAK];show gH vd _ _ λq m=>{[.v (vd q),Sl.v (vd j)],rfl,?_};change(l5 [vd j,vd q]).bind _=_;rw[Z1 U.mono (l q m).mono,R.aa0,DP];congr 2;rw[aEp];simp
      have y:=a2m (W.map λw=>decide (G.c6 j w≠0));have ean:(W.map λw=>decide (G.c6 j w≠0)).any id=W.any λw=>decide (G.c6 j w≠0):=by rw[List.any_map];rfl
      rw[ean]at y;erw[aAK]at B n c3 y;erw[C];generalize(λw=>decide (G.c6 j w≠0))=Bf at*
      cases hc:W.any Bf with
      |false=>rw[hc]at y;simp[l9,i6,L,i,H,t,DW,VC,I,B,n,c3,y]
      |true=>rw[hc]at y;simp[l9,i6,L,i,H,t,DW,VC,I,B,n,c3,y]
   cases h
  cases h
def aE(G5:t6 P w K mg base 2 "dimension_of" 1 D1)(g:Y6 K mg "refuse_flat" aD):t6 P w K mg base 3 "refuse_flat" 1 E9:=by
 refine' k8 (k:=2) (F:=_) g qV (λf o p q=>?b) λi d r h=>?_
 case b=>refine' (c5<|m5 (j0 AO (PD.pb<|tZ G5 f<|c8 0) X8) (c5 mJ) j2)
 match i,h with
 |[.lst Y],h=>
  erw[E9]at h;split at h
  .rename_i J j;rw[t8 j];split at h
   .rename_i l;rw[<-h];let{m,a}:=l;have n:J≠[]:=λe=>by subst e;cases a
    have e:=RY n m;rw[a]at e;simp[l9,e]
   cases h
  cases h
def G3(nE:t6 P w K mg base 1 "side_of" 2 bD)(g:Y6 K mg "points_on" Z3):t6 P w K mg base 2 "points_on" 2 x6:=by
 refine' k8 (k:=1) (F:=_) g zN (λj l o p=>?b) λf d q h=>?_
 case b=>refine' (c5<|d8<|G8 ["P"] ["plane"] [0] rfl (D7 (sc:=b9 Z3) (N:=nV)) (n8<|c8 1) (hxt λ_ _ _ _ _=>{(j0 (L6 l) (PD.pb<|T5 nE j (c8 1)<|c8 0) X8),(c8 0)})<|λ_=>p8)
 replace h:=uj h;let{a,b,c,d,f,rfl,h}:=h;replace h:=mO h;let{Y,f,rfl,h}:=h;replace h:=p9 h;let{rfl,h}:=h
 skip
 split at h
 .rename_i J m;rw[t8 m];split at h
  .rename_i i;rw[<-h];have e:=gF vd (G:=λd ρ=>R.ok (aEr ρ 0<|Sl.v d)) (ft:=λρ=>((((M1 1 ρ).bind λd=>((M1 0 ρ).bind λd=>R.ok [d]).bind λf=>R.ok (d::f)).bind bD).bind λx=>XI x (D.int 0)).bind OP) (fe:=M1 0) (ρ:=[.no,.v (.tup [D.int a,D.int b,D.int c,D.int d])])
    (λX=>decide (G.c6 {a,b,c} X=d)) vd J λP n=>{[.v (vd P),Sl.v (D.tup [D.int a,D.int b,D.int c,D.int d])],rfl,by simp[az i.1.mono (i.2.1 P n).mono,a9s,G.c6];show decide_eq_decide.mpr (by lia),λ_=>rfl}
   simp[l9,i6,small i.2.2,e];rfl
  cases h
 cases h
def K0(l8:t6 P w K mg base 1 "way_between" 2 j9)(u4:t6 P w K mg base 1 "product_of" 2 l5)(y9:t6 P w K mg base 1 "cross_of" 2 u3)(T2:t6 P w K mg base 2 "plane_through" 3 T0)(U:UJ K mg "NO_WAY" [0,0,0])(g:Y6 K mg "plane_about" aF):t6 P w K mg base 3 "plane_about" 2 E8:=by
 refine' k8 (k:=2) (F:=_) g rR (λr hu dc p=>?b) λI d hl h=>?_
 case b=>
  refine' (b8 (i5 2 (T5 l8 r (v7 rfl)<|v7 rfl) p)
   (b8 (i5 3 (xL U) p)
   (b8 (i5 4 (v7 rfl) p)
   (b8 (B1 aAL rfl (n8<|c8 1) (j5 5 p) (b8 (i5 6 (T5 l8 r (v7 rfl)<|c8 5) p)
   (c5 (m5 (xA.pt<|S7 (j0 (L6 hu) (f7 3)<|PD.pb<|xL U)<|bN<|j0 iI (PD.pb<|T5 u4 r (c8 3)<|c8 6) X8) (b8 (i5 3 (T5 y9 r (c8 2)<|c8 6) p)
   (c5<|i5 4 (c8 5) p)) j2))))
   (c5<|d8<|pc3 T2 r (v7 rfl) (v7 rfl)<|c8 4)))))
 replace h:=qF h;let{ys,I,rfl,h}:=h;replace h:=mO h;let{Y,I,rfl,h}:=h;replace h:=p9 h;let{rfl,h}:=h;replace h:=x8 h;let{a,b,c,ys,rfl,h}:=h;replace h:=x8 h;let{d,e,f,ys,rfl,h}:=h;replace h:=p9 h;let{rfl,h}:=h
 skip
 split at h
 .rename_i J hw;rw[t8 hw];split at h
  .rename_i hz;rw[<-h];let{q,E,hs,L}:=hz;have vA:(.tup [.int a,.int b,.int c]:D)=vd ⟨a,b,c⟩:=rfl;have vB:(.tup [.int d,.int e,.int f]:D)=vd ⟨d,e,f⟩:=rfl;rw[vA,vB];generalize({a,b,c}:G.V)=A at*
   generalize({d,e,f}:G.V)=B at*
   simp[l9];have z0:(.tup [.int 0,.int 0,.int 0]:D)=vd 0:=rfl;rw[z0];show aV (λrest N=>∃(j i:G.V) (l:List G.V) (x y:Sl),N=[.v (.tup [vd A,vd B]),.v (.lst (aDF vd J)),.v (vd<|B-A),.v (vd j),.v (vd i),x,y]/\rest=l.map vd/\Sz 2003 j/\Sz 1000 i/\(∀X∈l,Sz 1000 X)/\G.F6 (B-A) A l j i=G.F6 (B-A) A J 0 A) ?_ {0,A,J,_,_,rfl,rfl,{by symm,by symm,by symm},q,hs.1,rfl} ?_
   .rintro d I N ⟨j,i,l,x,y,rfl,s,O,Q,t,m⟩;match l,s with
    |P::l,s=>
     injection s with e3 e4;subst e3 e4;have T:=t P (.head _);have H:=T.sub q;have e0:=eq0 j;rw[show(.tup [.int 0,.int 0,.int 0]:D)=vd 0 from rfl]at e0;have c1:=R5 (u:=B-A) (v:=P-A) (E.sub q).mono H.mono;have p1:=Z1 (u:=j) (v:=P-A) O.mono H.mono;have w1:=lD A P;have i0:V6 (.tup [vd A,vd B]) (.int 0)=.ok (vd A):=rfl
     conv at m=>lhs;unfold G.F6
     erw[iZ,aCv,aCw,CZ,zk,qS,kN,R.aa0,i0,w1,C4,e0,JH,p1,yY];by_cases n:j=0
     .rw[km (.inl n)]at m;show{_,?_,G.cr (B-A) (P-A),P,l,.v (vd P),.v (vd<|P-A),rfl,rfl,(((E.sub q).cr H).mono),T,λX C=>t X (.tail _ C),m};rw[lg n];erw[if_true,R.aa0,c1,C4,aCv,aCw,qS,kN]
     rw[lb n];by_cases o:0<G.c6 j (P-A)
     .rw[km (.inr o)]at m;show{_,?_,G.cr (B-A) (P-A),P,l,.v (vd P),.v (vd<|P-A),rfl,rfl,(((E.sub q).cr H).mono),T,λX C=>t X (.tail _ C),m};rw[lg o];erw[if_true,aAB,if_false,R.aa0,c1,C4,aCv,aCw,qS,kN]
     rw[kn (λz=>z.elim n o)]at m;show{_,?_,j,i,l,.v (vd P),.v (vd<|P-A),rfl,rfl,O,Q,λX C=>t X (.tail _ C),m};rw[lb o];erw[aAB,if_false,R.aa0]
   rintro N ⟨j,i,l,x,y,rfl,s,O,Q,t,m⟩;have:l=[]:=by exists s.symm
   subst this;have m:(j,i)=G.F6 (B-A) A J 0 A:=m;have eo:(G.F6 (B-A) A J 0 A).2=i:=by rw[<-m]
   unfold G.b7 at L⊢;rw[eo]at L⊢;have pl:=TZ {q,E,Q} (fy L);simp[pl]
  cases h
 cases h
def cB(G3:t6 P w K mg base 2 "points_on" 2 x6)(K0:t6 P w K mg base 3 "plane_about" 2 E8)(G5:t6 P w K mg base 2 "dimension_of" 1 D1)(lh:mg "min"=none)(g:Y6 K mg "first_pair" cJ):t6 P w K mg base 8 "first_pair" 1 G9:=by
 refine' k8 (k:=7) (F:=_) g vG (λf v dc l=>?b) λz d hl h=>?_
 case b=>
  have A:=f.ae0 (by symm);refine' (b8 (i5 1 (eJ (ZZ rfl A)<|t5 (f7 0) w9) l)
   (b8 (i5 2 (v7 rfl) l)
   (b8 (i5 3 (T5 G3 f (T5 K0 f (c8 2)<|c8 0)<|c8 0) l)
   (b8 (m5 (j0 (L6 v) (PD.pb<|tZ G5 f<|c8 3) X8) (c5<|d8<|c8 2) j2)
   (c5<|d8<|v7 rfl)))))
 match z,h with
 |[.lst Y],h=>
  erw[G9]at h;split at h
  .rename_i m J B;rw[t8 B];split at h
   .rename_i a;rw[<-h];have t:=a2k a.good.ord;have i:bB 1000 (m::J):=a.sz.mono;have j:Sz 900 m:=a.sz.1 m (.head _);let{C,E,H,I,N}:=G.CL a.good.solid a.good.mem a.good.least;have o:=W3 j.mono (RJ j) i C;have p:=BE j.mono (RJ j) i;rw[a6w]at o;have u:=kE (d:=(G.b7 m (m+G.kk) (m::J)).2) p.mono i;let{x,y,r,e}:=TR E I N;have O:=WT (n:=(G.b7 m (m+G.kk) (m::J)).1) (d:=(G.b7 m (m+G.kk) (m::J)).2) i;have q:=RY (J:=G.x5 (G.b7 m (m+G.kk) (m::J)).1 (G.b7 m (m+G.kk) (m::J)).2 (m::J)) (by rw[e];simp) O;have Q:V6 (.lst ((G.x5 (G.b7 m (m+G.kk) (m::J)).1 (G.b7 m (m+G.kk) (m::J)).2 (m::J)).map vd)) (.int 0)=.ok (vd x):=dH (by rw[e];show a5j _ _);have T:V6 (.lst ((G.x5 (G.b7 m (m+G.kk) (m::J)).1 (G.b7 m (m+G.kk) (m::J)).2 (m::J)).map vd)) (.int 1)=.ok (vd y):=dH (by rw[e];show a7k _ _ _);unfold G.d9;dsimp only;by_cases s:G.U5 (G.x5 (G.b7 m (m+G.kk) (m::J)).1 (G.b7 m (m+G.kk) (m::J)).2 (m::J))=2
    .rw[km s];rw[s]at q;generalize(m::J).map vd=L at*
     generalize(G.x5 (G.b7 m (m+G.kk) (m::J)).1 (G.b7 m (m+G.kk) (m::J)).2 (m::J)).map vd=L2 at*
     generalize(G.b7 m (m+G.kk) (m::J)).1=pn at*
     generalize(G.b7 m (m+G.kk) (m::J)).2=U at*
     simp[l9,t,o,u,q,G.kk]
    rw[kn s];have e0:(G.x5 (G.b7 m (m+G.kk) (m::J)).1 (G.b7 m (m+G.kk) (m::J)).2 (m::J)).getD 0 0=x:=by rw[e];rfl
    have e1:(G.x5 (G.b7 m (m+G.kk) (m::J)).1 (G.b7 m (m+G.kk) (m::J)).2 (m::J)).getD 1 0=y:=by rw[e];rfl
    rw[e0,e1];have hb:((G.U5 (G.x5 (G.b7 m (m+G.kk) (m::J)).1 (G.b7 m (m+G.kk) (m::J)).2 (m::J)):Int)==2)=false:=by rw[beq_eq_false_iff_ne];lia
    generalize(m::J).map vd=L at*
    generalize(G.x5 (G.b7 m (m+G.kk) (m::J)).1 (G.b7 m (m+G.kk) (m::J)).2 (m::J)).map vd=L2 at*
    generalize(G.U5 (G.x5 (G.b7 m (m+G.kk) (m::J)).1 (G.b7 m (m+G.kk) (m::J)).2 (m::J)):Int)=dd at*
    generalize(G.b7 m (m+G.kk) (m::J)).1=pn at*
    generalize(G.b7 m (m+G.kk) (m::J)).2=U at*
    simp[l9,t,o,u,q,hb,Q,T]
   cases h
  cases h
def lZ(u4:t6 P w K mg base 1 "product_of" 2 l5)(y9:t6 P w K mg base 1 "cross_of" 2 u3)(l8:t6 P w K mg base 1 "way_between" 2 j9)(g:Y6 K mg "turn_of" nQ):t6 P w K mg base 2 "turn_of" 4 gK:=by
 refine' k8 (k:=1) (F:=_) g EF (λm A B C=>?b) λn d E h=>?_
 case b=>refine' (c5<|d8<|T5 u4 m (c8 0)<|T5 y9 m (T5 l8 m (c8 1)<|c8 2)<|T5 l8 m (c8 2)<|c8 3)
 replace h:=x8 h;let{a,b,c,n,rfl,h}:=h;replace h:=x8 h;let{d,e,f,n,rfl,h}:=h;replace h:=x8 h;let{g,o,i,n,rfl,h}:=h;replace h:=x8 h;let{j,k,l,n,rfl,h}:=h;replace h:=p9 h;let{rfl,h}:=h
 skip
 split at h
 .rename_i y;let{p,q,r,s}:=y;rw[<-h];have t:=R5 (u:={g,o,i}-{d,e,f}) (v:={j,k,l}-{g,o,i}) (r.sub q).mono (s.sub r).mono;have x:=Z1 (u:={a,b,c}) (v:=G.cr ({g,o,i}-{d,e,f}) ({j,k,l}-{g,o,i})) p.mono ((r.sub q).cr (s.sub r)).mono;erw[vd,G.QO,G.WB,G.QN,G.a6a,G.a7z,G.a6c]at t x;have z:∀a b c d e f:Int,j9 [.tup [.int a,.int b,.int c],.tup [.int d,.int e,.int f]]=.ok (.tup [.int (d-a),.int (e-b),.int (f-c)]):=λ_ _ _ _ _ _=>rfl;simp[l9,z,t,x,G.turn,G.i7]
 cases h
def U9(lZ:t6 P w K mg base 2 "turn_of" 4 gK)(bf:mg "len"=none)(g:Y6 K mg "left_chain" bQ):t6 P w K mg base 3 "left_chain" 2 U3:=by
 refine' k8 (k:=2) (F:=_) g uZ (λhr hu dc T=>?b) λj d I h=>?_
 case b=>
  refine' (b8 (Z5 2 (fI o9) T)
   (b8 (B1 aAL rfl (n8<|c8 1) (j5 3 T) (b8 (gD (λ_=>1001) aAL (xA.pt<|pK (j0 iI (PD.pb<|uE K5<|f7 2) X8)<|jO<|j0 a0d (PD.pb<|pc4 lZ hr (c8 0) (KY (f7 2)<|rO u0) (KY (f7 2)<|rO u0)<|c8 3) X8)<|c5<|ZS 2)
   (c5<|L0 2<|c8 3)))
   (c5<|kQ 2<|d8<|c8 2)))
 replace h:=x8 h;let{a,b,c,j,rfl,h}:=h;replace h:=mO h;let{Y,j,rfl,h}:=h;replace h:=p9 h;let{rfl,h}:=h
 skip
 split at h
 .rename_i J hw;rw[t8 hw];split at h
  .rename_i L;rw[<-h];let{U,hs}:=L;have vn:(.tup [.int a,.int b,.int c]:D)=vd ⟨a,b,c⟩:=rfl;rw[vn];generalize({a,b,c}:G.V)=n at*
   simp[l9];show aV (λrest ρ=>∃(c i:List G.V) (x:Sl),ρ=[.v (vd n),.v (.lst (aDF vd J)),.o (c.reverse.map vd),x]/\rest=i.map vd/\(∀X∈c,Sz 1000 X)/\(∀X∈i,Sz 1000 X)/\c.length+i.length<=1000/\i.foldl (λc P=>P::G.Y7 n P c) c=G.v8 n J) ?_ {[],J,_,rfl,rfl,λX l=>by(cases l),hs.1,by simpa using hs.2,rfl} ?_
   .rintro d j ρ ⟨c,i,x,rfl,t,sc,N,I,u⟩;match i,t with
    |P::i,t=>
     injection t with e3 e4;subst e3 e4;have O:=N P (.head _);erw[aAr]at I;erw[iZ,aCv,aCw];show Exists.elim (qG (n:=1001) (ρ:=[.v (vd n),.v (.lst (aDF vd J)),.o (c.reverse.map vd),.v (vd P)]) (Post:=λρ=>∃e,ρ=[.v (vd n),.v (.lst (aDF vd J)),.o (e.reverse.map vd),.v (vd P)]/\(∀X∈e,Sz 1000 X)/\e.length<=c.length/\e=G.Y7 n P c)
      (c:=AB (λρ=>((((iD 2 ρ).bind λd=>R.ok [d]).bind kU).bind λx=>gtR x (D.int 1)).bind OP) λρ=>((((M1 0 ρ).bind λd=>(((iD 2 ρ).bind λx=>V6 x (D.int (-2))).bind λd=>(((iD 2 ρ).bind λx=>V6 x (D.int (-1))).bind λd=>((M1 3 ρ).bind λd=>R.ok [d]).bind λj=>R.ok (d::j)).bind λj=>R.ok (d::j)).bind λj=>R.ok (d::j)).bind gK).bind λx=>leR x (D.int 0)).bind OP) (F:=λρ=>(FU 2 ρ).bind λz=>R.ok (Out.nx z.snd))
      (λm ρ=>∃e,ρ=[.v (vd n),.v (.lst (aDF vd J)),.o (e.reverse.map vd),.v (vd P)]/\(∀X∈e,Sz 1000 X)/\e.length<=c.length/\e.length<m/\G.Y7 n P e=G.Y7 n P c) ?_ (by rintro ρ ⟨e,_,_,_,h,_⟩;lia) {c,rfl,sc,aAi _,by lia,rfl} ?_) ?_
     .rintro m ρ ⟨e,rfl,sub,p,q,f⟩;match e,sub,p,q,f with
      |[],_,_,_,_=>show .inl (by simp)
      |[a],_,_,_,_=>show .inl (by simp)
      |b::a::r,sub,p,q,f=>
       have s:(b::a::r).reverse.map vd=r.reverse.map vd++[vd a,vd b]:=by simp
       have A:V6 (.lst ((b::a::r).reverse.map vd)) (.int (-1))=.ok (vd b):=dH (by rw[s];show wz _ _ _);have B:V6 (.lst ((b::a::r).reverse.map vd)) (.int (-2))=.ok (vd a):=dH (by rw[s];show yz _ _ _);have C:=IR U (sub a<|.tail _ (.head _)) (sub b<|.head _) O;have E:(1:Int)<(aDF vd (b::a::r).reverse).length:=by rw[aAg,aCm];simp;lia
       by_cases Q:G.turn n a b P<=0
       .show .inr {?_,[.v (vd n),.v (.lst (aDF vd J)),.o ((a::r).reverse.map vd),.v (vd P)],?_,a::r,rfl,λX l=>sub X (.tail _ l),?_,?_,?_}
        .erw[xM,CZ,GW,R.aa0,DR,yY,lg E,JH,if_true,kN,qS,A,B,C,EX,lg Q]
        .change(match(aDF vd (b::a::r).reverse)[(aDF vd (b::a::r).reverse).length-1]? with|some d=>_|none=>_:R (D×Ev)).bind _=_;rw[s];simp
        .erw[aAr]at p⊢;lia
        .erw[aAr]at q⊢;lia
        rw[<-f]
        conv=>rhs;unfold G.Y7
        rw[km Q]
       show .inl ?_;erw[xM,CZ,GW,R.aa0,DR,yY,lg E,JH,if_true,kN,qS,A,B,C,EX,lb Q]
     .rintro m ρ ⟨e,rfl,sub,p,q,f⟩ H;show{e,rfl,sub,p,?_};match e,sub,p,q,f,H with
      |[],_,_,_,f,_=>show f
      |[a],_,_,_,f,_=>show f
      |b::a::r,sub,p,q,f,H=>
       have s:(b::a::r).reverse.map vd=r.reverse.map vd++[vd a,vd b]:=by simp
       have A:V6 (.lst ((b::a::r).reverse.map vd)) (.int (-1))=.ok (vd b):=dH (by rw[s];show wz _ _ _);have B:V6 (.lst ((b::a::r).reverse.map vd)) (.int (-2))=.ok (vd a):=dH (by rw[s];show yz _ _ _);have C:=IR U (sub a<|.tail _ (.head _)) (sub b<|.head _) O;have E:(1:Int)<(aDF vd (b::a::r).reverse).length:=by rw[aAg,aCm];simp;lia
       erw[xM,CZ,GW,R.aa0,DR,yY,lg E,JH,if_true,kN,qS,A,B,C,EX,RU,decide_eq_false_iff_not]at H;rw[<-f]
       conv=>rhs;unfold G.Y7
       rw[kn H]
     rintro ρ2 ⟨ew,e,rfl,sub,p,y⟩;show{[.v (vd n),.v (.lst (aDF vd J)),.o ((P::e).reverse.map vd),.v (vd P)],?_,P::e,i,_,rfl,rfl,?_,λX l=>N X (.tail _ l),?_,?_}
     .rw[ew];have L:(aDF vd e.reverse).length<sizeLine:=by rw[aAg,aCm];show aDC (show e.length<=1000 by lia) (by symm)
      erw[C4,qS,kN,R.aa0];change(if(aDF vd e.reverse).length<sizeLine then _ else _)=_;rw[km L];simp
     .intro X l;rcases aAe.mp l with rfl|l
      .show O
      show sub X l
     .simp;lia
     rw[<-u,aEk,y]
   rintro ρ ⟨c,i,x,rfl,t,sc,N,I,u⟩;have:i=[]:=by exists t.symm
   subst this;have u:c=G.v8 n J:=u;subst u;simp[QS]
  cases h
 cases h
def lQ(U9:t6 P w K mg base 3 "left_chain" 2 U3)(x:mg "list"=none)(y:mg "reversed"=none)(g:Y6 K mg "ring_of" nK):t6 P w K mg base 4 "ring_of" 2 P6:=by
 refine' k8 (k:=3) (F:=_) g GQ (λi z A j=>?b) λm d B h=>?_
 case b=>
  refine' (b8 (i5 2 (T5 U9 i (c8 0)<|c8 1) j)
   (b8 (i5 3 (T5 U9 i (c8 0)<|PF.pd<|HQ (f7 1) rfl) j)
   (c5<|d8<|jB lJ (PD.pb<|kZ (f7 2) W8<|G2<|rO u0)<|PD.pb<|kZ (f7 3) W8<|G2<|rO u0)))
 replace h:=x8 h;let{a,b,c,m,rfl,h}:=h;replace h:=mO h;let{Y,m,rfl,h}:=h;replace h:=p9 h;let{rfl,h}:=h
 skip
 split at h
 .rename_i J p;rw[t8 p];split at h
  .rename_i q;rw[<-h];let{o,e}:=q;have r:(.tup [.int a,.int b,.int c]:D)=vd ⟨a,b,c⟩:=rfl;rw[r];generalize({a,b,c}:G.V)=n at*
   have s:=vk o e;have f:bB 1000 J.reverse:=e.sub (λP t=>by exists t) (by simp);have l2:=vk o f;rw[aGg (l:=J)]at l2;have C:=vS n J;have u:=vS n J.reverse;rw[aCm]at u;have v:tR (.lst ((G.v8 n J).reverse.map vd).dropLast) (.lst ((G.v8 n J.reverse).reverse.map vd).dropLast)=.ok (.lst ((G.l7 n J).map vd)):=by rw[zM (by erw[List.length_dropLast,aAg,aCm];show aAo (show _<=2000 by have:=e.2;lia) (by symm))];unfold G.l7;rw[aBk,List.map_dropLast,List.map_dropLast]
   simp[-aGg,l9,s,l2,YS,v,a5f]
  cases h
 cases h
def aO(l:mg "list"=none)(m:mg "zip"=none)(g:Y6 K mg "pairs_round" aQ):t6 P w K mg base 1 "pairs_round" 1 y3:=by
 refine' k8 (k:=0) (F:=_) g rZ (λn o p q=>?b) λf d r h=>?_
 case b=>refine' (c5<|d8<|PF.pd<|IA (f7 0) (PD.pb<|jB lJ (PD.pb<|kZ (f7 0) (G2 u0) W8)<|PD.pb<|kZ (f7 0) W8<|G2 u0) rfl)
 match f,h with
 |[.lst Y],h=>
  erw[y3]at h;split at h
  .rename_i J i;rw[t8 i];split at h
   .rename_i s;rw[<-h];have j:tR (.lst (J.map vd).tail) (.lst ((J.map vd).take 1))=.ok (.lst ((J.tail++J.take 1).map vd)):=by rw[zM (by erw[List.length_tail,aBR,aAg];show VN (by lia))];rw[aBk,List.map_tail,List.map_take]
    have a:(J.map vd).length=((J.tail++J.take 1).map vd).length:=by
     erw[aAg,aAv,List.length_tail,aBR]
     lia
    have e:ZG [.lst (J.map vd),.lst ((J.tail++J.take 1).map vd)]=.ok ((G.T4 J).map G6):=by change(if _ then _ else _)=_;rw[km a,vJ (β:=Unit)];rfl
    simp[-aBk,-List.map_tail,-List.map_take,l9,YG,a2t,j,e]
   cases h
  cases h
def cO(K0:t6 P w K mg base 3 "plane_about" 2 E8)(lQ:t6 P w K mg base 4 "ring_of" 2 P6)(aO:t6 P w K mg base 1 "pairs_round" 1 y3)(B:mg "len"=none)(C:mg "sorted"=none)(g:Y6 K mg "faces_from" bR):rz P w K mg base 8 3 "faces_from" I9:=by
 let{f,I,p,j}:=g;refine' cj (k:=7) (F:=_) j gT rfl (j.binds λ_ _ _ _ _ _ q r=>match q,r with|[_,_,_],_=>rfl) p (λT A e s H E a=>?hb) ?hm
 case hb=>
  have L:=a.units;have l:=a.ad9;have t:=a.ae0 (by symm);have b:=gT.nd;refine' (b8 (Z5 3 (fI o9) b)
   (b8 (TF 4 b)
   (b8 (Z5 5 (fI<|i4 (c8 0) o9) b)
   (b8 (gD (λ_=>5000) aAL (j0 iI (PD.pb<|uE K5<|f7 5) X8) (b8 (HI 6 5 b)
   (c5 (m5 (LJ 4 (c8 6) l) (b8 (i5 7 (T5 K0 a (c8 6) (BS 1 (k:=3) (Φ:=OO P w K mg base 3 1) rfl (i4 (v7 rfl) o9) (u8 S4) (a.mono (by symm)))) b)
   (b8 (i5 8 (T5 lQ a (kZ (f7 7) W8<|G2 u0) (BS 2 (k:=3) (Φ:=OO P w K mg base 3 1) rfl (i4 (c8 7) o9) (u8 S4) (a.mono (by symm)))) b)
   (b8 (L0 3<|v7 rfl)
   (c5 (B1 aAL rfl (n8<|tZ aO a<|c8 8) (j5 9 b) (b8 (DS 4 Y5 (c8 9) l)
   (c5<|L0 5<|v7 rfl))))))) j2))))
   (c5<|d8<|PF.pd<|DQ (f7 3) rfl t)))))
 case hm=>
  intro d N O Q h;erw[I9]at h;split at h
  .rename_i Y u;split at h
   .rename_i m J v;split at h
    .rename_i i;rw[<-h];let{i,x,y,n,o}:=i;rw[t8 v]at n o;subst y n o;have z:(1:Nat)<=sizeLine:=by decide
     erw[lI,kN,AZ,JC,R.aa0,aAr,aCe,aEb,z,if_true,C4];show a6e (Φ:=OO P w K mg base 3 1) i x
    cases h
   cases h
  cases h
def vV:Nst:={"about",KS,C1 fO,p5 fO,b9 fO,JX fO,["corner"],[],["spread"],[1],(λa=>(M1 1 a).bind λd=>.ok (.rt d)),J8,2}
def fM:Nst:={"touched_by",kG,C1 J7,p5 J7,b9 J7,JX J7,["plane"],[],["spread"],[1],(λa=>((o8 (M1 0) (o8 (M1 1) P9) a).bind x6).bind λd=>.ok (.rt d)),D4,3}
def ML{f:a9}{T:au}{A:bt}{a:List Env}{s:aL}{H:Hp}{E:XK}:NstOk (QU P w K mg base jC "faces_of" (b9 K7) f T A a s H E) 2 vV where
 sc:={rfl,rfl,rfl,by decide+kernel,by decide+kernel,by decide+kernel,λx h=>IL h,by decide+kernel}
 one:=rfl
 body:=λt k e A a s H l=>by have u:=l.units;show(c5<|d8<|c8 1)
 mm:=by
  intro m n d b g h;match m,n,b,g,h with
  |[_],[_],_,_,h=>cases h;rfl
 bind:=λe o v k p q r=>match q,r with|[_],_=>rfl
 len:=rfl
 at_:=λi j x b g=>match i,b,g with
  |0,b,g=>by obtain rfl:1=j:=Option.some.inj b;obtain rfl:("spread":Str)=x:=Option.some.inj g;show{rfl,rfl}
  |i+1,b,_=>nomatch(show(none:Option Nat)=some j from b)
 d0:=rfl
 k0:=rfl
 nm:=rfl
 lc:=.inl rfl
 st:=.inl rfl
 dbg:=by decide
 cdt:=by decide
def rX(G3:t6 P w K mg base 2 "points_on" 2 x6){f:a9}{T:au}{A:bt}{a:List Env}{s:aL}{H:Hp}{E:XK}:NstOk (QU P w K mg base jC "faces_of" (b9 K7) f T A a s H E) 2 fM where
 sc:={rfl,rfl,rfl,by decide+kernel,by decide+kernel,by decide+kernel,λx h=>IL h,by decide+kernel}
 one:=rfl
 body:=λy m g A a s H l=>by have z:=l.units;show(c5<|d8<|T5 G3 l (c8 0)<|c8 1)
 mm:=by
  intro n o d b k h;match n,o,b,k,h with
  |[w],[p],_,_,h=>have h:x6 [p,w]=.ok d:=h;change F7 (((o8 (M1 0) (o8 (M1 1) P9) [.v p,.v w]).bind x6).bind λd=>.ok (.rt d))=.ok d;have e:o8 (M1 0) (o8 (M1 1) P9) [.v p,.v w]=.ok [p,w]:=rfl;rw[e,R.aa0,h];rfl
 bind:=λg q B m r t u=>match t,u with|[_],_=>rfl
 len:=rfl
 at_:=λi j x b k=>match i,b,k with
  |0,b,k=>by obtain rfl:1=j:=Option.some.inj b;obtain rfl:("spread":Str)=x:=Option.some.inj k;show{rfl,rfl}
  |i+1,b,_=>nomatch(show(none:Option Nat)=some j from b)
 d0:=rfl
 k0:=rfl
 nm:=rfl
 lc:=.inl rfl
 st:=.inl rfl
 dbg:=by decide
 cdt:=by decide
def Y4{q:a9}(G3:t6 P w K mg base 2 "points_on" 2 x6)(aE:t6 P w K mg base 3 "refuse_flat" 1 E9)(cB:t6 P w K mg base 8 "first_pair" 1 G9)(cO:rz P w K mg base 8 3 "faces_from" I9)(bg:mg "sorted"=none)(lu:mg "set"=none)(O:kY mg base)(i:(q,tbK)∈Tabs.tbs)(g:a8c K mg "faces_of" K7 q):t6 P w K mg base 9 "faces_of" 1 Q3:=by
 let{f,fd,cd,Q,T,t}:=g;refine' YI (k:=8) (F:=_) t oB (t.fn.binds λ_ _ _ _ _ _ U u=>match U,u with|[_],_=>rfl) Q (λA j s H E a=>?hb) ?hm
 case hb=>
  have hu:=a.units;have dc:=a.ad9;have yb:=a.ae0 (by symm);have y:=oB.nd;refine' (b8 (VP<|tZ aE a<|c8 0)
   (b8 (i5 1 (PF.pd<|bX (f7 0) rfl yb) y)
   (HS (n1:=vV) (n2:=fM) (clos1:=[("spread",s.heap.objs.size+1)]) (clos2:=[("spread",s.heap.objs.size+1)]) (tb:=tbK) ML (rX G3) ?co1 ?co2 ?hA O rfl T i (by decide+kernel) (by decide+kernel) (by decide+kernel) (by decide+kernel) (by symm) y cO (a.mono (by symm)) (tZ cB a<|c8 1) (λ_=>rfl))))
  case co1=>show{rfl,rfl,rfl,λx c h=>h,λx l=>{_,by obtain rfl:x= "spread":=aAU.mp l;rfl}}
  case co2=>show{rfl,rfl,rfl,λx c h=>h,λx l=>{_,by obtain rfl:x= "spread":=aAU.mp l;rfl}}
  case hA=>show LW
 case hm=>
  intro o d u h;match o,h with
  |[.lst Y],h=>
   erw[Q3]at h;split at h
   .rename_i J hw;rw[t8 hw];split at h
    .rename_i hz;rw[<-h];let{z,B,C}:=hz;let{m,r,e,L}:=bZ z B (by lia);have p:=SK (J:=J) (by lia);have fl:=cz (z.mono (n:=1000)) B;rw[e]at C p⊢;have I:=a7i L;have N:=a2g L C;obtain⟨b,eL⟩:∃b,(m::r).map vd=b:={_,rfl};rw[eL]at p I N;change F7 (A3 ((E9 [D.lst (J.map vd)]).bind λ_=>R.ok (Out.nx [.v (.lst (J.map vd)),.no,.no,.no])) _)=_;rw[fl,R.aa0,C4];change F7 (A3 (((ssR<|.lst (J.map vd)).bind λo=>R.ok (D.lst o)).bind λd=>R.ok (Out.nx [.v (.lst (J.map vd)),.v d,.no,.no])) _)=_;rw[p,R.aa0,R.aa0,C4];change F7 (((G9 [D.lst b]).bind λd1=>(R.ok [D.lst b]).bind λw1=>(R.ok [D.lst b]).bind λw2=>I9 d1 (J8 w1) (D4 w2)).bind λd=>R.ok (Out.rt d))=_;rw[I,R.aa0,R.aa0,R.aa0,N];rfl
    cases h
   cases h
def cG(r:mg "sorted"=none)(s:mg "set"=none)(g:Y6 K mg "corners_in" cU):t6 P w K mg base 8 "corners_in" 1 J0:=by
 refine' k8 (k:=7) (F:=_) g uV (λj t u f=>?b) λl d x h=>?_
 case b=>
  have m:=j.ae0 (by symm);refine' (b8 (Z5 1 (fI o9) f)
   (b8 (B1 aAL rfl (n8<|c8 0) (V4 (n:=2) rfl<|n9 (j5 2 f)<|n9 (j5 3 f) N3)<|c5<|tH 1<|c8 3)
   (c5<|d8<|PF.pd<|bX (f7 1) rfl m)))
 match l,h with
 |[.lst Y],h=>
  erw[J0]at h;split at h
  .rename_i o p;split at h
   .rename_i i;rw[<-h];let{y,z,e}:=oD (a:=Sl.v (D.lst Y)) Y o [] Sl.no Sl.no p (by exists i.1);rw[aFE,aDN]at e;have q:=SK i.2;simp[l9,-List.map_flatten,e,q]
   cases h
  cases h
def nM(cG:t6 P w K mg base 8 "corners_in" 1 J0)(Y4:t6 P w K mg base 9 "faces_of" 1 Q3)(g:Y6 K mg "body_of" nC):t6 P w K mg base 10 "body_of" 1 bI:=by
 refine' k8 (k:=9) (F:=_) g GZ (λf s t u=>?b) λl d v h=>?_
 case b=>refine' (c5<|d8<|tZ cG f<|tZ Y4 f<|c8 0)
 match l,h with
 |[.lst Y],h=>
  erw[bI]at h;split at h
  .rename_i J n;rw[t8 n];split at h
   .rename_i o;rw[<-h];let{i,j,a}:=o;let{m,r,e,L}:=bZ i j (by lia);have p:=AY i j a;have x:((n6<|e9 J).flatMap (G.i8<|e9 J)).length<=200/\(e9<|(n6<|e9 J).flatMap (G.i8<|e9 J)).length<=14:=by rw[e]at a⊢;show wD L a
    have q:=EO (J:=e9 J) (fs:=n6 (e9 J)) (by lia) (by lia);simp[l9,p,q,B8]
   cases h
  cases h
end
section
variable [Tabs]
variable{P:bc}{w:bM}{K:lM}{mg:dM}{base:cf}
def aG(C3:t6 P w K mg base 1 "common_divisor" 1 wG)(g:Y6 K mg "fraction_of" aN):t6 P w K mg base 2 "fraction_of" 2 IF:=by
 refine' k8 (k:=1) (F:=_) g sF (λf n o i=>?b) λe d p h=>?_
 case b=>
  refine' (b8 (i5 2 (tZ C3 f<|v7 rfl) i)
   (c5<|d8<|v7 rfl))
 replace h:=K6 h;let{a,e,rfl,h}:=h;replace h:=K6 h;let{b,e,rfl,h}:=h;replace h:=p9 h;let{rfl,h}:=h;replace h:=M8 h;let{j,rfl}:=h;let{l,m}:=PL j;show f6 (i9 (WF [a,b]) rfl) (jY<|i9 (t4 l<|t4 m rfl) rfl)
def eG(cb:mg "range"=none)(bf:mg "len"=none)(g:Y6 K mg "wedges_in" Z6):t6 P w K mg base 1 "wedges_in" 1 jW:=by
 refine' k8 (k:=0) (F:=_) g xR (λhr Q dc f=>?b) λL d hl h=>?_
 case b=>
  refine' (b8 (i5 1 (v7 rfl) f)
   (b8 (Z5 2 (fI o9) f)
   (b8 (B1 aAL rfl (n8<|c8 0) (V4 (n:=2) rfl<|n9 (j5 3 f)<|n9 (j5 4 f) N3)<|c5<|m5 (j0 (DJ Q) (f7 1)<|f7 4) (c5<|tH 2<|G8 ["k"] ["apex", "ring"] [1,4] rfl (D7 (sc:=b9 Z6) (N:=nT)) (G7<|t5 X8<|t5 (PD.pb<|jB UR (PD.pb<|uE K5<|f7 4) X8) w9) (FZ λ_ _ _ _ _=>(v7 rfl))<|λ_=>p8) j2)
   (c5<|kQ 2<|d8<|c8 2))))
 replace h:=bO h;let{l,L,rfl,h}:=h;replace h:=p9 h;let{rfl,h}:=h;replace h:=M8 h;let{{T,h2,r},rfl}:=h;obtain⟨s,l0,t⟩:∃p u,l=p::u:=by
  cases l with
  |nil=>show k7 rfl T
  |cons p u=>show{p,u,rfl}
 have p3:=(r s (by rw[t];show .head _)).1;have U:V6 (.lst (s.2.map vd)) (.int 0)=.ok (vd<|lK l):=by rw[t];show rE (i:=0) (getD_at (by lia))
 have ll:=AN (lK l) l λp Y=>(r p Y).2.1;have iA:V6 (OS l) (.int 0)=.ok (fR s):=by rw[t];show dH (by rw[W6 (by lia)];rfl)
 generalize lK l=A at*
 show f6 (i9 (i9 (i9 iA rfl) U) rfl) ?_;show f6 rfl ?_;show xN (x:=l.map fR) rfl ?_;show aV (λrest y=>∃z C B l2,y=[.v (OS l),.v (vd A),.o (B.map w4),z,C]/\rest=l2.map fR/\B++Y1 A l2=Y1 A l/\∀p∈l2,p∈l) ?_ {_,_,[],l,rfl,rfl,rfl,λ_ h=>h} ?_
 .rintro d L y ⟨z,C,B,l2,rfl,j,e,E⟩;cases l2 with
  |nil=>cases j
  |cons p l2=>
   injection j with e3 e4;subst e3 e4;have ew:Y1 A (p::l2)=(if A∈p.2 then[]else oR A p.2)++Y1 A l2:=aEy;rw[ew]at e;let{q1,q2,q3}:=r p (E p<|.head _);have O:∀q∈l2,q∈l:=λq hq=>E q (.tail _ hq);show a7u rfl ?_;by_cases m:A∈p.2
   .have H:inR true (vd A) (.lst (p.2.map vd))=.ok (.bl false):=by rw[lE,lb (λn=>n m)]
    rw[km m,aDN]at e;show{_,D2 (i9 H rfl),_,_,B,l2,rfl,rfl,e,O}
   have H:inR true (vd A) (.lst (p.2.map vd))=.ok (.bl true):=by rw[lE,lg m]
   rw[kn m,<-aED]at e;have rg:fP [.int 1,.int ((p.2.length:Int)-1)]=.ok ((aCP 1<|p.2.length-1-1).map λ(k:Nat)=>D.int (k:Int)):=by have:=a9f (a:=1) (b:=p.2.length-1) (by lia) (by lia);rw[show((p.2.length-1:Nat):Int)=(p.2.length:Int)-1 by lia]at this;show this
   have lr:kU [.lst (p.2.map vd)]=.ok (.int (p.2.length:Int)):=by erw[kU,aAg]
   have I:∀k:Nat,k<p.2.length->V6 (.lst (p.2.map vd)) (.int (k:Int))=.ok (vd<|p.2.getD k 0):=λk J=>rE (getD_at J);have le:=kM aFY e;rw[aAv,aAv]at le;have xt:∀{a b c:Sl},XU 2 [a,b,.o (B.map w4),.v p.1,c] (.lst ((oR A p.2).map w4))=.ok (.nx [a,b,.o ((B++oR A p.2).map w4),.v p.1,c]):=λ{a b c}=>by change(if(B.map w4).length+((oR A p.2).map w4).length<=sizeLine then R.ok (Out.nx _)else _)=_;rw[km (by rw[aAg,aAg];change _<=2^24;lia),<-aBk];rfl
   show tj (i9 H rfl) {_,i9 (i9 (i9 (t4 rfl<|t4 (i9 (i9 (t4 rfl rfl) lr) rfl) rfl) rg) ((Q5 (λ(k:Nat)=>D.int (k:Int)) w4 (λk=>(p.2.getD k 0,p.2.getD 0 0,p.2.getD (k+1) 0,A)) (aCP 1<|p.2.length-1-1) (by rw[aFI];lia) λk J=>{_,rfl,?_}).trans rfl)) xt,_,_,B++oR A p.2,l2,rfl,rfl,e,O};rw[aCK]at J;show i9 (t4 (I k (by lia)) (t4 (I 0 (by lia)) (t4 (I (k+1) (by lia))<|t4 rfl rfl))) rfl
 rintro y ⟨z,C,B,l2,rfl,j,e,E⟩;have:l2=[]:=by exists j.symm
 subst this;rw[<-e];simp[Y1];rfl
def cE(V8:t6 P w K mg base 2 "lift_of" 4 mS)(g:Y6 K mg "weights_in" cV):t6 P w K mg base 3 "weights_in" 2 nJ:=by
 refine' k8 (k:=2) (F:=_) g uS (λe r s t=>?b) λn d u h=>?_
 case b=>refine' (c5<|d8<|qK<|i4 (pc4 V8 e (c8 1) (v7 rfl) (v7 rfl)<|v7 rfl)<|i4 (pc4 V8 e (v7 rfl) (c8 1) (v7 rfl)<|v7 rfl)<|i4 (pc4 V8 e (v7 rfl) (v7 rfl) (c8 1)<|v7 rfl)<|i4 (pc4 V8 e (v7 rfl) (v7 rfl) (v7 rfl)<|c8 1) o9)
 replace h:=bO h;let{w,n,rfl,h}:=h;replace h:=x8 h;let{x,y,z,n,rfl,h}:=h;replace h:=p9 h;let{rfl,h}:=h;replace h:=M8 h;let{{{f,i,j,l},a},rfl}:=h;obtain⟨o,m⟩:∃P:G.V,P=⟨x,y,z⟩:={_,rfl};rw[show(.tup [.int x,.int y,.int z]:D)=vd o by rw[m],<-m];rw[<-m]at a;let{A,B,C,E}:=w;have p:=qC a.mono i.mono j.mono l.mono;have l2:=qC f.mono a.mono j.mono l.mono;have l3:=qC f.mono i.mono a.mono l.mono;have q:=qC f.mono i.mono j.mono a.mono;show jY (i9 (t4 p<|t4 l2<|t4 l3<|t4 q rfl) rfl)
def bY(eG:t6 P w K mg base 1 "wedges_in" 1 jW)(cE:t6 P w K mg base 3 "weights_in" 2 nJ)(Y:mg "min"=none)(yc:mg "dict"=none)(tf:mg "zip"=none)(g:Y6 K mg "weights_by" U4):t6 P w K mg base 4 "weights_by" 2 RG:=by
 refine' k8 (k:=3) (F:=_) g vD (λe hu H r=>?b) λs d hl h=>?_
 case b=>
  refine' (b8 (B1 aAL rfl (n8<|tZ eG e<|c8 0) (j5 2 r) (b8 (i5 3 (T5 cE e (c8 2)<|c8 1) r)
   (c5 (m5 (j0 tw (PD.pb<|eJ (IQ rfl)<|t5 (f7 3) w9) X8) (c5 (d8 (fZ (iq rfl H) (t5 (PD.pb (G8 ["corner", "weight"] [] [] rfl (D7 (sc:=b9 U4) (N:=jT)) (VD (c8 2)<|c8 3) (by rintro t fp X2 ⟨s0,H1,C,rfl⟩;show{(V4 (n:=2) rfl (n9 (j5 0 (show(["corner", "weight"]:List Str).Nodup by decide+kernel)) (n9 (j5 1 (show(["corner", "weight"]:List Str).Nodup by decide+kernel)) N3))),(KI<|j0 iI (f7 1) X8),(v7 rfl)})<|λ_=>DG)) w9)))) j2))))
   (c5<|d8 iS))
 replace h:=bO h;let{l,s,rfl,h}:=h;replace h:=x8 h;let{x,y,z,s,rfl,h}:=h;replace h:=p9 h;let{rfl,h}:=h;replace h:=M8 h;let{{e,u,I},rfl}:=h;obtain⟨a,f⟩:∃P:G.V,P=⟨x,y,z⟩:={_,rfl};rw[show(.tup [.int x,.int y,.int z]:D)=vd a by rw[f],<-f];rw[<-f]at u;have J:=HD e;show xN (x:=(Y1 (lK l) l).map w4) (i9 (i9 (A4 rfl)<|ON e) rfl) ?_;show rS w4 (fits a) (λw=>XG (mH w a)) (λi=>∃j m,i=[.v (OS l),.v (vd a),j,m]) (by rintro i ⟨j,m,rfl⟩;rfl) _ _ {_,_,rfl} ?_;rintro w A i ⟨j,m,rfl⟩;let{L,O,Q,T}:=J w A;have B:=ER (w:=w) (P:=a) {L.mono,O.mono,Q.mono,T.mono} u;have E:CU [.lst ((wZ w a).map D.int)]=.ok (.int (oV<|wZ w a)):=rfl;show{λo=>?_,λo=>{[.v (OS l),.v (vd a),.v (w4 w),.v (.lst ((wZ w a).map D.int))],?_,_,_,rfl}}
 .have q:geR (.int (oV<|wZ w a)) (.int 0)=.ok (.bl true):=by rw[RF];show kM (λb=>R.ok (D.bl b)) o
  have U:=jq (AW (P:=a)<|I w A) (aAo (WW w a) (by symm));show xq (i9 (i9 (A2 rfl rfl) B) rfl) ?_;show oQ (i9 (i9 (i9 (A4 rfl) E) q) rfl) ?_;show i9 (i9 (A4<|i9 (i9 (A2 rfl rfl)<|a7q w a)<|(km<|a1p w a).trans (i9 (M.gF (λp:G.V×Int=>D.tup [vd p.1,.int p.2]) (λp=>decide (p.2>0)) (λp=>D.tup [vd p.1,.int p.2]) (aq w a) λp hp=>{_,rfl,rfl,λ_=>rfl}) rfl)) U) rfl
 have q:geR (.int (oV<|wZ w a)) (.int 0)=.ok (.bl false):=by rw[RF];show kM (λb=>R.ok (D.bl b)) o
 show xq (i9 (i9 (A2 rfl rfl) B) rfl) (D2<|i9 (i9 (i9 (A4 rfl) E) q) rfl)
def bS(aG:t6 P w K mg base 2 "fraction_of" 2 IF)(r:mg "sum"=none)(s:mg "sorted"=none)(g:Y6 K mg "shares_by" Z0):HE P w K mg base 8 "shares_by" 1 zO:=by
 refine' WX (k:=7) (F:=_) g xS (λe t f i=>?b) λj d u h=>?_
 case b=>
  have m:=e.ae0 (by symm);refine' (LP (i5 1 (YM 0 rfl) i)
   (SC<|YL ["corner"] ["whole", "weights"] [1,0] rfl (D7 (sc:=b9 Z0) (N:=oM)) (n8<|PF.pd<|GX (f7 0) rfl m) (FZ λ_ _ _ _ _=>(YN (c8 0)<|T5 aG e (a2z 2 0 (c8 0) f)<|c8 1))<|λ_=>p8))
 replace h:=bO h;let{l,j,rfl,h}:=h;replace h:=p9 h;let{rfl,h}:=h;replace h:=M8 h;let{a,rfl}:=h;have n:=jD (l.map (·.1));rw[aAg]at n;have x:=a.1;show nq (i9 (a2p l) rfl) (IJ ?_);show i9 (i9 (i9 (a0u a.1) rfl) rfl) (YA vd IX (λv=>(v,gM (oO l v) (gP l))) (e9 (l.map (·.1))) (by lia) λv o=>{_,rfl,?_});let{p,q}:=VS a (t9.mp o);show i9 (A2 rfl<|i9 (A2 p rfl)<|YB q) rfl
def bL(bY:t6 P w K mg base 4 "weights_by" 2 RG)(Y4:t6 P w K mg base 9 "faces_of" 1 Q3)(bS:HE P w K mg base 8 "shares_by" 1 zO)(g:Y6 K mg "shares_of" fB):HW P w K mg base 10 "shares_of" 2 qW:=by
 refine' SF (k:=9) (F:=_) g zI (λi t u r=>?b) λo d v h=>?_
 case b=>
  refine' (wE (i5 2 (T5 bY i (tZ Y4 i<|c8 0)<|c8 1) r)
   (wE (m5 (j0 GR (f7 2)<|PD.pb iS) (c5<|d8 iS) j2)
   (UL (a3a bS (i.mono (by symm)) (i4 (c8 2) o9)<|u8 S4))))
 replace h:=sV h;let{l,o,rfl,h}:=h;replace h:=x8 h;let{x,y,z,o,rfl,h}:=h;replace h:=p9 h;let{rfl,h}:=h;replace h:=M8 h;let{{a,j},rfl}:=h;obtain⟨f,m⟩:∃P:G.V,P=⟨x,y,z⟩:={_,rfl};rw[show(.tup [.int x,.int y,.int z]:D)=vd f by rw[m],<-m];rw[<-m]at j;have n:=AY a.1 a.2.1 a.2.2;rw[a2h]at n;have p:=xj a;have e:=a3o p j (OU a);unfold wby at e;unfold NT;cases q:wOf l f with
 |none=>have q:(Y1 (lK<|gS l)<|gS l).find? (fits f)=none:=q;rw[q]at e;show{EK (i9 (i9 (A2 (i9 (A4 rfl) n) rfl) e) rfl) ?_,rfl};rfl
 |some w=>have q:(Y1 (lK<|gS l)<|gS l).find? (fits f)=some w:=q;rw[q]at e;have s:=ZN (xz (HD p w<|aCZ q) j);show{EK (i9 (i9 (A2 (i9 (A4 rfl) n) rfl) e) rfl) (EK rfl ?_),rfl};show IJ (i9 (A4 rfl)<|kM unl s)
end
section
variable [Tabs]
variable{P:bc}{w:bM}{K:lM}{mg:dM}{base:cf}
def C7(m:mg "len"=none)(g:Y6 K mg "_law_cell_at" Y3):t6 P w K mg base 1 "_law_cell_at" 2 E6:=by
 refine' k8 (k:=0) (F:=_) g oW (λn o p q=>?b) λf d r h=>?_
 case b=>
  refine' (b8 (m5 (j0 AO (f7 1)<|PD.pb<|uE K5<|f7 0) (c5<|d8<|v7 rfl) j2)
   (c5<|d8 u0))
 match f,h with
 |[.lst Y,.int k],h=>
  erw[E6]at h;split at h
  .rename_i i;let{j,s}:=i;rw[<-h];by_cases a:k<Y.length
   .have e:Y[k.toNat]?=some Y[k.toNat]:=aAk (by lia);have l:tY Y k=some Y[k.toNat]:=by rw[W6 j,e]
    simp[l9,a,dH l,BI,e]
   have e:Y[k.toNat]?=none:=aCo.mpr (by lia);simp[l9,a,BI,e]
  cases h
def D6(g:Y6 K mg "_law_way" iY):t6 P w K mg base 1 "_law_way" 2 j9:=by
 refine' k8 (k:=0) (F:=_) g BD (λf i j l=>?b) λe d m h=>?_
 case b=>refine' (c5<|d8<|v7 rfl)
 replace h:=x8 h;let{a,b,c,e,rfl,h}:=h;replace h:=x8 h;let{n,o,p,e,rfl,h}:=h;replace h:=p9 h;let{rfl,h}:=h;show h
def I0(g:Y6 K mg "_law_cross" dD):t6 P w K mg base 1 "_law_cross" 2 u3:=by
 refine' k8 (k:=0) (F:=_) g uI (λp q r s=>?b) λe d t h=>?_
 case b=>refine' (c5<|d8<|v7 rfl)
 replace h:=x8 h;let{a,b,c,e,rfl,h}:=h;replace h:=x8 h;let{u,v,x,e,rfl,h}:=h;replace h:=p9 h;let{rfl,h}:=h;split at h
 .rename_i o;let{{f,i,j},l,m,n}:=o;rw[<-h];simp[l9,j4 (t7.of i n),j4 (t7.of j m),j4 (t7.of j l),j4 (t7.of f n),j4 (t7.of f m),j4 (t7.of i l)]
 cases h
def z8(g:Y6 K mg "_law_product" X4):t6 P w K mg base 1 "_law_product" 2 l5:=by
 refine' k8 (k:=0) (F:=_) g pF (λp q r s=>?b) λe d u h=>?_
 case b=>refine' (c5<|d8<|v7 rfl)
 replace h:=a0c h;let{a,b,c,t,e,rfl,h}:=h;replace h:=x8 h;let{v,x,y,e,rfl,h}:=h;replace h:=p9 h;let{rfl,h}:=h;split at h
 .rename_i f;let{{i,j,l},m,n,o}:=f;rw[<-h];simp[l9,tx,sj,uw,j4 (t7.of i m),j4 (t7.of j n),j4 (t7.of l o)]
 cases h
def dE(g:Y6 K mg "_law_great" cR):t6 P w K mg base 1 "_law_great" 1 pM:=by
 refine' k8 (k:=0) (F:=_) g uB (λj l m a=>?b) λe d n h=>?_
 case b=>
  refine' (b8 (i5 1 (v7 rfl) a)
   (b8 (i5 2 (v7 rfl) a)
   (b8 (i5 3 (v7 rfl) a)
   (c5<|d8<|v7 rfl))))
 match e,h with
 |[.int c],h=>
  erw[pM]at h;split at h
  .rename_i f;rw[<-h]
   haveI:Bd c 2000000:=⟨f⟩
   have i:FJ (.int 10) (.int 12)=.ok (.int 1000000000000):=rfl;have o:(2000000000000:Int)+1=2000000000001:=rfl;simp[l9,i,Y9,R7,xB,ez,M12]
  cases h
def dW(C7:t6 P w K mg base 1 "_law_cell_at" 2 E6)(dE:t6 P w K mg base 1 "_law_great" 1 pM)(cb:mg "range"=none)(g:Y6 K mg "_law_near" G4):t6 P w K mg base 2 "_law_near" 1 GM:=by
 refine' k8 (k:=1) (F:=_) g xW (λhr u dc f=>?b) λds d hl h=>?_
 case b=>
  refine' (b8 (i5 1 (T5 C7 hr (c8 0) u0) f)
   (b8 (i5 2 (v7 rfl) f)
   (b8 (i5 3 (v7 rfl) f)
   (b8 (i5 4 (v7 rfl) f)
   (b8 (m5 (j0 (L6 u) (DN rfl) X8) (c5<|JP (v7 rfl)<|V4 (n:=3) rfl<|n9 (j5 2 f)<|n9 (j5 3 f)<|n9 (j5 4 f) N3) j2)
   (b8 (i5 5 (v7 rfl) f)
   (b8 (m5 (j0 (L6 u) (f7 5) X8) (c5<|d8<|G8 ["k"] ["a", "b", "c"] [2,3,4] rfl (D7 (sc:=b9 G4) (N:=R1)) (G7<|t5 X8 w9) (FZ λ_ _ _ _ _=>(v7 rfl))<|λ_=>p8) j2)
   (b8 (m5 (j0 (L6 u) (f7 5) X8) (c5<|d8<|qK<|i4 (v7 rfl)<|i4 (v7 rfl)<|i4 (v7 rfl)<|i4 (v7 rfl)<|i4 (v7 rfl)<|i4 (v7 rfl) o9) j2)
   (b8 (m5 (j0 (L6 u) (f7 5) X8) (b8 (Z5 6 (fI<|i4 (v7 rfl)<|i4 (v7 rfl)<|i4 (v7 rfl) o9) f)
   (c5<|kQ 6<|d8<|jB lJ (PD.pb<|G8 ["spot"] [] [] rfl (D7 (sc:=b9 G4) (N:=R1)) (n8<|c8 6) (FZ λ_ _ _ _ _=>(v7 rfl))<|λ_=>p8)<|PD.pb<|G8 ["spot"] ["c", "a", "b"] [4,2,3] rfl (D7 (sc:=b9 G4) (N:=R1)) (n8<|c8 6) (FZ λ_ _ _ _ _=>(v7 rfl))<|λ_=>p8)) j2)
   (b8 (m5 (j0 (L6 u) (f7 5) X8) (c5<|d8<|jB lJ (PD.pb<|G8 ["k"] [] [] rfl (D7 (sc:=b9 G4) (N:=R1)) (G7<|t5 (DN rfl) w9) (FZ λ_ _ _ _ _=>(v7 rfl))<|λ_=>p8)<|PD.pb<|qK<|i4 (v7 rfl) o9) j2)
   (b8 (Z5 6 (fI<|i4 (v7 rfl)<|i4 (v7 rfl)<|i4 (v7 rfl)<|i4 (v7 rfl) o9) f)
   (b8 (B1 aAL rfl (n8<|kZ (f7 0) (G2 u0)<|G2 u0) (j5 1 f)<|c5<|m5 (xA.pt<|S7 (j0 (L6 u) (f7 5) X8)<|bN<|xA.pt<|pK (j0 (L6 u) (f7 5) X8)<|jO<|j0 (L6 u) (DN rfl) X8) (c5<|L0 6<|tZ dE hr<|v7 rfl)<|c5<|L0 6<|v7 rfl)
   (c5<|kQ 6<|d8<|c8 6)))))))))))))
 match ds,h with
 |[.lst Y],h=>
 have O:dZ 1048576 Y:=aDX λn=>by cases(kn n).symm.trans h
 replace h:R.ok _=_:=(km O).symm.trans h;rw[<-h];let{Q,hb}:=UN O 0 (by symm);have Q:E6 [.lst Y,.int 0]=.ok (.int (cI Y 0)):=Q;generalize cI Y 0=c at*
 have hp:=xI c;have l:∀{b c:Bool},b=c->(R.ok (D.bl b):R D)=.ok (.bl c):=λh=>by rw[h]
 have y:∀{x w:Int},0<w->w<1000000000000000->T7 (.int x) (.int w)=.ok (.int (x.fdiv w)):=λw0 w1=>nH w0 w1;have p:∀{x w:Int},0<w->eV (.int x) (.int w)=.ok (.int (x.fmod w)):=λh=>R7 h;have T:∀{w:Int},0<w->w<1000000000000000->(T7 (.int c)<|.int w).bind (λx=>eV x (.int 3))=.ok (.int ((c.fdiv w).fmod 3)):=λa b=>i9 (y a b) (p (by symm));show f6 (i9 (i9 (A2 rfl rfl) Q) rfl) ?_;show f6 (i9 (i9 rfl (i9 (T (w:=14) (by symm) (by symm)) rfl)) rfl) ?_;show f6 (i9 (i9 rfl (i9 (T (w:=42) (by symm) (by symm)) rfl)) rfl) ?_;show f6 (i9 (i9 rfl (i9 (T (w:=126) (by symm) (by symm)) rfl)) rfl) ?_;have d7:=y (x:=c) (w:=7) (by symm) (by symm);have m2:=p (x:=c.fdiv 7) (w:=2) (by symm);show f6 (ρ:=[.v (.lst Y),.v (.int c),.v (.int (eU c).1),.v (.int (eU c).2.1),.v (.int (eU c).2.2),.no,.no]) ?_ ?_
 .have U:∀{x w:Int},0<=x->x<3->bits w<=40->lH (.int (1+x)) (.int w)=.ok (.int ((1+x)*w)):=λa b h=>j4 (t7.of (m:=10) (y6 (by lia) (by lia)) h);have f1:=w5 (a:=c.fdiv 14) (b:=3) (by symm);have f2:=w5 (a:=c.fdiv 42) (b:=3) (by symm);have f3:=w5 (a:=c.fdiv 126) (b:=3) (by symm);unfold eU;by_cases C:(c.fdiv 7).fmod 2=1
  .rw[km C];show oQ (i9 (i9 (i9 d7 m2) ((qU _ _).trans (l (by rw[C];rfl)))) rfl) (i9 (i9 (t4 (i9 (i9 rfl (U (w:=1000000) f1.1 f1.2 (by symm))) rfl) (t4 (i9 (i9 rfl (U (w:=10000000) f2.1 f2.2 (by symm))) rfl) (t4 (i9 (i9 rfl (U (w:=100000000) f3.1 f3.2 (by symm))) rfl) rfl))) rfl) rfl)
  rw[kn C];show D2 (i9 (i9 (i9 d7 m2)<|(qU _ _).trans (l<|beq_false_of_ne C)) rfl)
 unfold N4;generalize(eU c).1=a at*
 generalize(eU c).2.1=b at*
 generalize(eU c).2.2=e at*
 let{{a0,a1},{b0,b1},{c0,c1}}:=hp;have c7:=p (x:=c) (w:=7) (by symm);have r:∀k:Int,XI (.int (c.fmod 7)) (.int k)=.ok (.bl (decide (c.fmod 7=k))):=λk=>qU _ _;show f6 (i9 c7 rfl) ?_;by_cases E:c.fmod 7=0
 .rw[km E];show N6 (oQ (i9 ((r 0).trans (l<|lg E)) rfl) (i9 (x:=.lst ((PJ a b e).map vd)) (i9 (x:=R8 0 8) rfl ((Q5 (λ(k:Nat)=>D.int (k:Int)) vd (λk=>{(k:Int).fmod 2*a,((k:Int).fdiv 2).fmod 2*b,(k:Int).fdiv 4*e}) (aCP 0 8) (by symm) λk hk=>{_,rfl,?_}).trans rfl)) rfl));rw[aCK]at hk;have bk:∀{x w:Int},0<=x->x<=8->0<w->w<1000000000->lH (.int x) (.int w)=.ok (.int (x*w)):=λh1 h2 h3 h4=>j4 (t7.of (m:=10) (n:=40) (y6 (by lia) (by lia)) (y6 (by lia) (by lia)));have r1:=w5 (a:=(k:Int)) (b:=2) (by symm);have r2:=w5 (a:=(k:Int).fdiv 2) (b:=2) (by symm);have r4:0<=(k:Int).fdiv 4/\(k:Int).fdiv 4<=8:=by rw[aFs _ (by symm)];lia
  show i9 (t4 (i9 (p (x:=(k:Int)) (w:=2) (by symm)) (bk r1.1 (by lia) a0 a1)) (t4 (i9 (i9 (y (x:=(k:Int)) (w:=2) (by symm) (by symm)) (p (x:=(k:Int).fdiv 2) (w:=2) (by symm))) (bk r2.1 (by lia) b0 b1)) (t4 (i9 (y (x:=(k:Int)) (w:=4) (by symm) (by symm))<|bk r4.1 r4.2 c0 c1) rfl))) rfl
 rw[kn E];show f6 (D2<|i9 ((r 0).trans (l<|lb E)) rfl) ?_;by_cases H:c.fmod 7=1
 .rw[km H];show N6 (oQ (i9 ((r 1).trans (l<|lg H)) rfl) rfl)
 rw[kn H];show f6 (D2<|i9 ((r 1).trans (l<|lb H)) rfl) ?_;by_cases I:c.fmod 7=2
 .rw[km I];show N6 (oQ (i9 ((r 2).trans (l<|lg I)) rfl) rfl)
 rw[kn I];show f6 (D2<|i9 ((r 2).trans (l<|lb I)) rfl) ?_;by_cases J:c.fmod 7=3
 .rw[km J];have r8:=w5 (a:=c.fdiv 378) (b:=8) (by symm);have d3:=i9 (F:=λx=>eV x (.int 8)) (y (x:=c) (w:=378) (by symm) (by symm)) (p (by symm));generalize(c.fdiv 378).fmod 8=t at*
  obtain⟨n,en⟩:∃n:Nat,(n:Int)=3+t:={(3+t).toNat,by lia};rw[<-en,aBI];have rg:fP [.int (3+t)]=.ok (R8 0 n):=by rw[<-en];show SB (by lia)
  rw[show(GJ n a b e).map vd=((aCP 0 n).map λ(k:Nat)=>({(k:Int),(k:Int)*(k:Int),0}:G.V)).map vd++[vd {a,b,e}]by unfold GJ;rw[aBk,aGE];rfl];show N6 (oQ (i9 ((r 3).trans (l<|lg J)) rfl) (i9 (i9 (x:=.lst (((aCP 0 n).map λ(k:Nat)=>({(k:Int),(k:Int)*(k:Int),0}:G.V)).map vd)) (i9 (x:=R8 0 n) (i9 (A4<|i9 rfl<|i9 d3 rfl) rg) ((Q5 (λ(k:Nat)=>D.int (k:Int)) vd (λ(k:Nat)=>({(k:Int),(k:Int)*(k:Int),0}:G.V)) (aCP 0 n) (by rw[aFI];lia) λk hk=>{_,rfl,?_}).trans rfl)) (i9 rfl (zM (by simp;change _<=2^24;lia)))) rfl));rw[aCK]at hk;have bk:bits (k:Int)<=10:=y6 (by lia) (by lia);show i9 (t4 rfl<|t4 (j4<|t7.of bk bk)<|t4 rfl rfl) rfl
 rw[kn J];show f6 (D2<|i9 ((r 3).trans (l<|lb J)) rfl) ?_;show f6 rfl ?_;let{t1,t2,t3}:=mK O;have sl:=WD Y 4 9 (by symm);rw[show 9-4=5 from rfl,t1]at sl;generalize bH Y=A at*
 show xN (x:=A.map D.int) (i9 (i9 rfl<|i9 rfl<|i9 rfl sl) rfl) ?_;show aV (λrest ρ=>∃B s a1,ρ=[.v (.lst Y),a1,.v (.int a),.v (.int b),.v (.int e),.v (.int (c.fmod 7)),.o (B.map vd)]/\rest=s.map D.int/\(∀j∈s,bits j<=1048576)/\B++s.map (HK c)=uW a b e++A.map (HK c)/\B.length+s.length<=9) ?_ {uW a b e,A,_,rfl,rfl,t3,rfl,by change 4+_<=9;lia} ?_
 .rintro d ds ρ ⟨B,s,z,rfl,L,e2,e3,e4⟩;cases s with
  |nil=>cases L
  |cons i s=>
   injection L with e5 e6;subst e5 e6;rw[aAr]at e4;have ap:∀{v:G.V},zF 6 [.v (.lst Y),.v (.int i),.v (.int a),.v (.int b),.v (.int e),.v (.int (c.fmod 7)),.o (B.map vd)] (vd v)=.ok (.nx [.v (.lst Y),.v (.int i),.v (.int a),.v (.int b),.v (.int e),.v (.int (c.fmod 7)),.o ((B++[v]).map vd)]):=λ{v}=>by change(if(B.map vd).length<sizeLine then R.ok (Out.nx _)else _)=_;rw[km (by rw[aAg];change _<2^24;lia),aBk];rfl
   have m2i:=p (x:=i) (w:=2) (by symm);have bi:=e2 i (.head _);show HR rfl {[.v (.lst Y),.v (.int i),.v (.int a),.v (.int b),.v (.int e),.v (.int (c.fmod 7)),.o ((B++[HK c i]).map vd)],?_,B++[HK c i],s,_,rfl,rfl,λj hj=>e2 j (.tail _ hj),by rw[<-e3];simp,by rw[aAv,List.length_singleton];lia};unfold HK;show a3c (b:=decide (c.fmod 7=5)||(decide (c.fmod 7=6)&&(i.fmod 2==1))) (a0x (i9 (r 5) rfl)<|xD (i9 (r 6) rfl)<|i9 (i9 m2i<|qU _ 1) rfl) (λq=>?_) λq=>?_
   .rw[km (by exists q)];show i9 (i9 (A4 (y (x:=i) (w:=2) (by symm) (by symm)))<|km<|f9<|bits_fdiv bi) ap
   rw[kn (by exists q)];show i9 (i9 (t4 (i9 (p (x:=i) (w:=7) (by symm)) rfl) (t4 (i9 (i9 (y (x:=i) (w:=7) (by symm) (by symm)) (p (x:=i.fdiv 7) (w:=7) (by symm))) rfl) (t4 (i9 (i9 (y (x:=i) (w:=49) (by symm) (by symm)) (p (x:=i.fdiv 49) (w:=7) (by symm))) rfl) rfl))) rfl) (ap (v:={i.fmod 7-3,(i.fdiv 7).fmod 7-3,(i.fdiv 49).fmod 7-3}))
 rintro ρ ⟨B,s,z,rfl,L,_,e3,_⟩;have:s=[]:=by exists L.symm
 subst this;rw[<-e3,aFE,aCd];rfl
def V1(C7:t6 P w K mg base 1 "_law_cell_at" 2 E6)(g:Y6 K mg "_law_moved" bU):t6 P w K mg base 2 "_law_moved" 2 pL:=by
 refine' k8 (k:=1) (F:=_) g vE (λhr hu dc e=>?b) λds d hl h=>?_
 case b=>
  refine' (b8 (JP (c8 0)<|V4 (n:=3) rfl<|n9 (j5 2 e)<|n9 (j5 3 e)<|n9 (j5 4 e) N3)
   (b8 (i5 5 (T5 C7 hr (c8 1) u0) e)
   (b8 (i5 6 (KY (PD.pb<|qK<|i4 u0<|i4 (v7 rfl) o9)<|v7 rfl) e)
   (b8 (i5 2 (v7 rfl) e)
   (b8 (i5 3 (v7 rfl) e)
   (b8 (i5 4 (v7 rfl) e)
   (b8 (m5 (j0 (L6 hu) (DN rfl) X8) (c5<|BU 2 4 rfl e<|i4 (c8 4)<|i4 (c8 2) o9) j2)
   (b8 (i5 7 (T5 C7 hr (c8 1) u0) e)
   (b8 (i5 6 (v7 rfl) e)
   (b8 (i5 2 (v7 rfl) e)
   (b8 (i5 3 (v7 rfl) e)
   (c5<|d8<|v7 rfl))))))))))))
 match ds,h with
 |[.tup [.int a,.int b,.int c],.lst Y],h=>
  erw[pL]at h;split at h
  .rename_i hz;let{hi,B}:=hz;rw[<-h];let{C,E}:=UN hi 1 (by symm);let{H,h2}:=UN hi 2 (by symm);have C:E6 [.lst Y,.int 1]=.ok (.int (cI Y 1)):=C;have H:E6 [.lst Y,.int 2]=.ok (.int (cI Y 2)):=H;generalize cI Y 1=k at*
   generalize cI Y 2=f at*
   let{I,jt,J}:=SX k
   haveI:Bd k 1048576:=⟨E⟩
   haveI:Bd f 1048576:=⟨h2⟩
   haveI:Bd a 100:=⟨B.1⟩
   haveI:Bd b 100:=⟨B.2.1⟩
   haveI:Bd c 100:=⟨B.2.2⟩
   have p6:FJ (.int 10) (.int 6)=.ok (.int 1000000):=rfl;have i:FJ (.int 10) (.int 20)=.ok (.int 100000000000000000000):=rfl;have L:∀x:Int,eV (.int x) (.int 2)=.ok (.int (x.fmod 2)):=λx=>R7 (by symm);have N:∀x:Int,eV (.int x) (.int (KB k))=.ok (.int (x.fmod<|KB k)):=λx=>R7 jt;have q:∀x:Int,Bd (x.fmod<|KB k) 20:=λx=>⟨L9 jt J⟩;have y:∀(x:Int) {j:Int},0<j->j<100->T7 (.int x) (.int j)=.ok (.int (x.fdiv j)):=λx j E h2=>nH E (by lia);have d4:=λx=>y x (show(0:Int)<4 by symm) (by symm);have d2:=λx=>y x (show(0:Int)<2 by symm) (by symm);have O:=λx=>y x (show(0:Int)<16 by symm) (by symm);clear y;unfold dJ;dsimp only
   haveI:=q (k.fdiv 4)
   haveI:=q ((k*k).fdiv 16)
   haveI:=q ((k*48611).fdiv 4)
   generalize KB k=Mk at*
   erw[l9,aAm,aFE,aBF,aDN,aAr,aCe,Nat.reduceAdd,Nat.reduceSub,List.replicate_succ,List.replicate_zero];show f6 (by simp[ZJ,fC,F4,kW];rfl) ?_;show f6 (by simp[C];rfl) ?_;show f6 (by simp[p6,L,I];rfl) ?_;obtain⟨s,m⟩:∃s,(k.fdiv 4).fmod Mk=s:={_,rfl};obtain⟨z,Q⟩:∃z,((k*k).fdiv 16).fmod Mk=z:={_,rfl};obtain⟨A,o⟩:∃A,((k*48611).fdiv 4).fmod Mk=A:={_,rfl};rw[m,Q,o]
   haveI:Bd s 20:=m▸q _
   haveI:Bd z 20:=Q▸q _
   haveI:Bd A 20:=o▸q _
   obtain⟨l,p⟩:∃l,a+s*b=l:={_,rfl}
   haveI:Bd l 300:=⟨by rw[<-p];show f9 (Bd.h (a:=a+s*b))⟩
   obtain⟨T,t⟩:∃T,b-z*c=T:={_,rfl};obtain⟨r,u⟩:∃r,c+A*l=r:={_,rfl};rw[p,t,u];show f6 (by simp[d4,N,Y9,m,p];rfl) ?_;show f6 (by simp[O,N,Y9,Q,t];rfl) ?_;show f6 (by simp[d4,N,Y9,o,u];rfl) ?_;show f6 (ρ:=[.v (.tup [.int a,.int b,.int c]),.v (.lst Y),.v (.int (if(k.fdiv 2).fmod 2=1 then r else l)),.v (.int T),.v (.int (if(k.fdiv 2).fmod 2=1 then l else r)),.v (.int k),.v (.int Mk),.no]) ?_ ?_
   .by_cases hq:(k.fdiv 2).fmod 2=1
    .simp[d2,L,hq,ZJ,fC,F4,kW]
    simp[d2,L,hq]
   generalize(if(k.fdiv 2).fmod 2=1 then r else l)=x2;generalize(if(k.fdiv 2).fmod 2=1 then l else r)=z2;have eM:(2:Int)*100000000000000000000+1=XJ:=rfl;have U:∀x:Int,eV (.int x) (.int XJ)=.ok (.int (x.fmod XJ)):=λx=>R7 (by symm);have eT:(100000000000000000000:Int)=KP:=rfl;show f6 (by simp[H];rfl) ?_;show f6 (by erw[TM,R.aa0,i,Y9 (show(2:Nat)<=60000000 by symm) (show(67:Nat)<=60000000 by symm),qz,eM,aCv,aCw];rfl) ?_;show f6 (by rw[<-eT]at*;simp[i,U,Y9];rfl) ?_;show f6 (by rw[<-eT]at*;simp[i,U,Y9];rfl) ?_;rw[<-eT];simp[i,U,Y9]
  cases h
def cP(J:mg "len"=none)(O:mg "tuple"=none)(Q:mg "range"=none)(g:Y6 K mg "_law_asked" V0):t6 P w K mg base 1 "_law_asked" 3 pU:=by
 refine' k8 (k:=0) (F:=_) g uC (λT q U m=>?b) λr d Y h=>?_
 case b=>
  refine' (b8 (i5 3 (uE K5<|f7 1) m)
   (b8 (i5 4 (v7 rfl) m)
   (b8 (i5 5 (v7 rfl) m)
   (b8 (i5 6 (v7 rfl) m)
   (b8 (m5 (j0 (L6 q) (DN rfl) X8) (c5<|d8<|c8 4) j2)
   (b8 (m5 (j0 (L6 q) (DN rfl) X8) (c5<|d8<|v7 rfl) j2)
   (b8 (m5 (j0 (L6 q) (DN rfl) X8) (c5<|d8<|fZ QR<|t5 (PD.pb<|G8 ["k"] ["three", "one", "two"] [6,4,5] rfl (D7 (sc:=b9 V0) (N:=kK)) (G7<|t5 X8 w9) (FZ λ_ _ _ _ _=>(v7 rfl))<|λ_=>p8) w9) j2)
   (c5<|d8<|v7 rfl))))))))
 replace h:=bO h;let{d0,r,rfl,h}:=h;replace h:=sV h;let{L,r,rfl,h}:=h;replace h:=K6 h;let{c,r,rfl,h}:=h;replace h:=p9 h;let{rfl,h}:=h;replace h:=M8 h;let{n,rfl}:=h;have l0:0<L.length:=aEt λz=>n (aBS z);have v:kU [.lst (L.map vd)]=.ok (.int (L.length:Int)):=by erw[kU,aAg]
 have s:∀x:Int,eV (.int x) (.int (L.length:Int))=.ok (.int (x.fmod L.length)):=λx=>R7 (by lia);have i:eV (.int c) (.int 4)=.ok (.int (c.fmod 4)):=R7 (by symm);have e:∀x:Int,eV (.int x) (.int 41)=.ok (.int (x.fmod 41)):=λx=>R7 (by symm);have f:∀{x w:Int},0<w->w<1000000000000000->T7 (.int x) (.int w)=.ok (.int (x.fdiv w)):=λE H=>nH E H;have t:∀x:Int,T7 (.int x) (.int 2)=.ok (.int (x.fdiv 2)):=λx=>f (by symm) (by symm);have I:∀x:Int,T7 (.int x) (.int 3)=.ok (.int (x.fdiv 3)):=λx=>f (by symm) (by symm);have j:∀k:Int,XI (.int (c.fmod 4)) (.int k)=.ok (.bl (decide (c.fmod 4=k))):=λk=>qU _ _;have u:=f (x:=c) (w:=4) (by symm) (by symm);show f6 (i9 (i9 (A4 rfl) v) rfl) ?_;show f6 (i9 (i9 rfl<|i9 (i9 u<|s _)<|OX n<|c.fdiv 4) rfl) ?_;show f6 (i9 (i9 rfl (i9 (i9 (f (w:=40) (by symm) (by symm))<|s _)<|OX n<|c.fdiv 40)) rfl) ?_;show f6 (i9 (i9 rfl (i9 (i9 (f (w:=400) (by symm) (by symm))<|s _)<|OX n<|c.fdiv 400)) rfl) ?_;unfold HF;generalize pQ L (c.fdiv 4)=A at*
 generalize pQ L (c.fdiv 40)=B at*
 generalize pQ L (c.fdiv 400)=C at*
 by_cases c0:c.fmod 4=0
 .rw[km c0];show N6 (oQ (i9 (i9 i<|(j 0).trans (kM (λb=>R.ok (D.bl b))<|lg c0)) rfl) rfl)
 rw[kn c0];show f6 (D2<|i9 (i9 i<|(j 0).trans (kM (λb=>R.ok (D.bl b))<|lb c0)) rfl) ?_;by_cases o:c.fmod 4=1
 .rw[km o];show N6 (oQ (i9 (i9 i<|(j 1).trans (kM (λb=>R.ok (D.bl b))<|lg o)) rfl)<|i9 (i9 (t4 (t<|A.x+B.x)<|t4 (t<|A.y+B.y)<|t4 (t<|A.z+B.z) rfl) rfl) rfl)
 rw[kn o];show f6 (D2<|i9 (i9 i<|(j 1).trans (kM (λb=>R.ok (D.bl b))<|lb o)) rfl) ?_;by_cases p:c.fmod 4=2
 .rw[km p];show N6 (oQ (i9 (i9 i<|(j 2).trans (kM (λb=>R.ok (D.bl b))<|lg p)) rfl)<|i9 (x:=vd {(A.x+B.x+C.x).fdiv 3,(A.y+B.y+C.y).fdiv 3,(A.z+B.z+C.z).fdiv 3}) (i9 (A4 (a:=.lst [.int ((A.x+B.x+C.x).fdiv 3),.int ((A.y+B.y+C.y).fdiv 3),.int ((A.z+B.z+C.z).fdiv 3)])<|i9 (x:=R8 0 3) rfl ?_) rfl) rfl);show(Q5 (λ(k:Nat)=>D.int (k:Int)) D.int (λk=>(qA A k+qA B k+qA C k).fdiv 3) (aCP 0 3) (by symm) λk l=>{_,rfl,?_}).trans rfl;rw[aCK]at l;have l:k<3:=by lia
  show i9 (i9 (i9 (sE l)<|i9 (sE l) rfl)<|i9 (sE l) rfl) (I _)
 rw[kn p];show f6 (D2<|i9 (i9 i<|(j 2).trans (kM (λb=>R.ok (D.bl b))<|lb p)) rfl) ?_;show jY (i9 (t4 (i9 (i9 u<|e _) rfl) (t4 (i9 (i9 (f (w:=164) (by symm) (by symm))<|e _) rfl) (t4 (i9 (i9 (f (w:=6724) (by symm) (by symm))<|e _) rfl) rfl))) rfl)
def Z7(I0:t6 P w K mg base 1 "_law_cross" 2 u3)(D6:t6 P w K mg base 1 "_law_way" 2 j9)(z8:t6 P w K mg base 1 "_law_product" 2 l5)(cb:mg "range"=none)(bf:mg "len"=none)(Q:mg "max"=none)(lh:mg "min"=none)(g:Y6 K mg "_law_planes" Q8):t6 P w K mg base 2 "_law_planes" 1 EU:=by
 refine' k8 (k:=1) (F:=_) g qY (λt hu dc s=>?b) λds d hl h=>?_
 case b=>
  refine' (b8 (Z5 1 (fI o9) s)
   (b8 (B1 aAL rfl (G7<|t5 (PD.pb<|uE K5<|f7 0) w9) (j5 2 s) (c5 (B1 aAL rfl (G7<|t5 (f7 2) w9) (j5 3 s) (c5 (B1 aAL rfl (G7<|t5 (f7 3) w9) (j5 4 s) (b8 (i5 5 (T5 I0 t (T5 D6 t (v7 rfl)<|v7 rfl)<|T5 D6 t (v7 rfl)<|v7 rfl) s)
   (b8 (fK 6 ["P"] ["normal", "land", "i"] [5,0,2] s rfl (D7 (sc:=b9 Q8) (N:=iE)) (n8<|c8 0) (FZ λ_ _ _ _ _=>(T5 z8 t (c8 1)<|T5 D6 t (v7 rfl)<|c8 0))<|λ_=>p8)
   (b8 (m5 (xA.pt<|pK (j0 (Y2 hu) (f7 5)<|DN rfl)<|jO<|j0 a0d (PD.pb<|eJ (cw rfl)<|t5 (f7 6) w9) X8) (c5<|L0 1<|v7 rfl) j2)
   (c5<|m5 (xA.pt<|pK (j0 (Y2 hu) (f7 5)<|DN rfl)<|jO<|j0 tw (PD.pb<|eJ (IQ rfl)<|t5 (f7 6) w9) X8) (c5<|L0 1<|v7 rfl) j2)))))))))
   (c5<|kQ 1<|d8<|c8 1)))
 replace h:=sV h;let{S,ds,rfl,h}:=h;replace h:=p9 h;let{rfl,h}:=h;replace h:=M8 h;let{{sz,sn,sv},rfl}:=h;have rI:∀i:Nat,i<=S.length->fP [.int (i:Int)]=.ok (R8 0 i):=λi L=>SB (by lia);have lL:kU [.lst (S.map vd)]=.ok (.int (S.length:Int)):=by erw[kU,aAg]
 show f6 rfl ?_;show xN (x:=R8 0 S.length) (i9 (A4<|i9 (A4 rfl) lL)<|rI _<|aAi _) ?_;show JE (λi ρ=>∃u q p f e,ρ=[.v (.lst (S.map vd)),.o ((lp i (uk S) []).map pn),u,q,p,f,e]) ?_ {_,_,_,_,_,rfl} ?_
 .rintro i _ L ρ ⟨u,q,p,f,e,rfl⟩;have L:i<S.length:=by lia
  have n1:=mB (a:=[]) (m:=S.length) (λk T x=>a3n (S:=S) (i:=k) (ps:=x) (by lia)) (n:=i) (by lia);show HR (ρ':=[.v (.lst (S.map vd)),.o ((lp i (uk S) []).map pn),.v (.int (i:Int)),q,p,f,e]) rfl ?_;show∃r:Ev,_/\∃u q p f e,r=[.v (.lst (S.map vd)),.o ((lp i (XZ S i)<|lp i (uk S) []).map pn),u,q,p,f,e];generalize lp i (uk S) []=fs at*
  rw[aCe]at n1;show a5i (x:=R8 0 i) (i9 (A4 rfl) (rI i (by lia))) ?_;show QI (λj ρ=>∃q p f e,ρ=[.v (.lst (S.map vd)),.o ((lp j (XZ S i) fs).map pn),.v (.int (i:Int)),q,p,f,e]) ?_ {_,_,_,_,rfl} ?_
  .rintro j _ hj ρ ⟨q,p,f,e,rfl⟩;have hj:j<i:=by lia
   have n2:=mB (a:=fs) (m:=i) (λk T x=>SR (S:=S) (i:=i) (j:=k) (ps:=x) (by lia)) (n:=j) (by lia);show HR (ρ':=[.v (.lst (S.map vd)),.o ((lp j (XZ S i) fs).map pn),.v (.int (i:Int)),.v (.int (j:Int)),p,f,e]) rfl ?_;show∃r:Ev,_/\∃q p f e,r=[.v (.lst (S.map vd)),.o ((lp j (DX S i j)<|lp j (XZ S i) fs).map pn),.v (.int (i:Int)),q,p,f,e];generalize lp j (XZ S i) fs=E at*
   show a5i (x:=R8 0 j) (i9 (A4 rfl) (rI j (by lia))) ?_;show QI (λk ρ=>∃p f e,ρ=[.v (.lst (S.map vd)),.o ((lp k (DX S i j) E).map pn),.v (.int (i:Int)),.v (.int (j:Int)),p,f,e]) ?_ {_,_,_,rfl} ?_
   .rintro k _ T ρ ⟨p,f,e,rfl⟩;have T:k<j:=by lia
    have n3:=mB (a:=E) (m:=j) (λl hl x=>UB S i j l x) (n:=k) (by lia);show HR (ρ':=[.v (.lst (S.map vd)),.o ((lp k (DX S i j) E).map pn),.v (.int (i:Int)),.v (.int (j:Int)),.v (.int (k:Int)),f,e]) rfl ?_;show∃r:Ev,_/\∃p f e,r=[.v (.lst (S.map vd)),.o ((DX S i j k<|lp k (DX S i j) E).map pn),.v (.int (i:Int)),.v (.int (j:Int)),p,f,e];generalize lp k (DX S i j) E=H at*
    have I:V6 (.lst (S.map vd)) (.int (i:Int))=.ok (vd<|S.getD i 0):=rE (getD_at L);have iB:V6 (.lst (S.map vd)) (.int (j:Int))=.ok (vd<|S.getD j 0):=rE (getD_at (by lia));have iC:V6 (.lst (S.map vd)) (.int (k:Int))=.ok (vd<|S.getD k 0):=rE (getD_at (by lia));have J:=sz _ (B9 L);have sB:=sz _ (B9 (show j<S.length by lia));have sC:=sz _ (B9 (show k<S.length by lia));unfold DX;generalize S.getD i 0=A at*
    generalize S.getD j 0=B at*
    generalize S.getD k 0=C at*
    have w1:=lD A B;have w2:=lD A C;have cc:=R5 (F9 sB J).mono (F9 sC J).mono;have sN:Sz 2003 (G.cr (B-A)<|C-A):=(JL (F9 sB J)<|F9 sC J).mono;have pr:∀X∈S,j9 [vd A,vd X]=.ok (vd<|X-A)/\l5 [vd (G.cr (B-A)<|C-A),vd (X-A)]=.ok (.int (G.c6 (G.cr (B-A)<|C-A)<|X-A)):=λX O=>{lD A X,Z1 sN.mono (F9 (sz X O) J).mono};generalize G.cr (B-A) (C-A)=N at*
    let{mx,mi}:=ZV (c:=N) (A:=A) sn;show Z9 (ρ:=[.v (.lst (S.map vd)),.o (H.map pn),.v (.int (i:Int)),.v (.int (j:Int)),.v (.int (k:Int)),.v (vd N),e]) (i9 (i9 (A2 (i9 (A2 I iB) w1)<|i9 (A2 I iC) w2) cc) rfl) ?_;show Z9 (ρ:=[.v (.lst (S.map vd)),.o (H.map pn),.v (.int (i:Int)),.v (.int (j:Int)),.v (.int (k:Int)),.v (vd N),.v (.lst ((jA S N A).map D.int))]) ?_ ?_
    .show i9 (x:=.lst ((jA S N A).map D.int)) (i9 (x:=S.map vd) rfl ?_) rfl;show(Q5 vd D.int (λX=>G.c6 N (X-A)) S (by lia) λX O=>{_,rfl,?_}).trans rfl;show i9 (A2 rfl<|i9 (A2 I rfl) (pr X O).1) (pr X O).2
    have l1:=(GV S N A H).1;show Z9 (ρ:=[.v (.lst (S.map vd)),.o ((OQ S N A H).map pn),.v (.int (i:Int)),.v (.int (j:Int)),.v (.int (k:Int)),.v (vd N),.v (.lst ((jA S N A).map D.int))]) ?_ {[.v (.lst (S.map vd)),.o ((XO S N A<|OQ S N A H).map pn),.v (.int (i:Int)),.v (.int (j:Int)),.v (.int (k:Int)),.v (vd N),.v (.lst ((jA S N A).map D.int))],?_,_,_,_,rfl}
    .show a3c (xD (i9 (TV N 0) rfl)<|i9 (i9 (i9 (A4 rfl) mx) rfl) rfl) (λz=>?_) λz=>?_
     .let{U,Y}:=(aAI _ _).mp z;unfold OQ;rw[km {of_decide_eq_true U,of_decide_eq_true Y},aBk];show i9 (i9 (A2 rfl I) rfl) (a5y (by rw[aAg];change _<2^24;lia))
     unfold OQ;rw[kn λy=>?_];rw[lg y.1,lg y.2]at z;cases z
    show a3c (xD (i9 (TV N 0) rfl)<|i9 (i9 (i9 (A4 rfl) mi) rfl) rfl) (λz=>?_) λz=>?_
    .let{U,Y}:=(aAI _ _).mp z;unfold XO;rw[km {of_decide_eq_true U,of_decide_eq_true Y},aBk];show i9 (i9 (A2 (i9 (t4 rfl<|t4 rfl<|t4 rfl rfl) rfl) I) rfl) (a5y (by rw[aAg];change _<2^24;lia))
    unfold XO;rw[kn λy=>?_];rw[lg y.1,lg y.2]at z;cases z
   rintro ρ ⟨p,f,e,rfl⟩;rw[aEb];show{_,_,_,_,rfl}
  rintro ρ ⟨q,p,f,e,rfl⟩;rw[aEb];show{_,_,_,_,_,rfl}
 rintro ρ ⟨u,q,p,f,e,rfl⟩;rw[aEb];rfl
def W9(z8:t6 P w K mg base 1 "_law_product" 2 l5)(D6:t6 P w K mg base 1 "_law_way" 2 j9)(g:Y6 K mg "_law_outside" X9):t6 P w K mg base 2 "_law_outside" 2 EL:=by
 refine' k8 (k:=1) (F:=_) g pB (λr E H s=>?b) λt d e h=>?_
 case b=>
  refine' (b8 (B1 aAL rfl (n8<|c8 0) (V4 (n:=2) rfl<|n9 (j5 2 s)<|n9 (j5 3 s) N3)<|c5<|m5 (j0 iI (PD.pb<|T5 z8 r (c8 2)<|T5 D6 r (c8 3)<|c8 1) X8) (c5<|d8 Y5) j2)
   (c5<|d8 Y5))
 replace h:=bO h;let{l,t,rfl,h}:=h;replace h:=x8 h;let{x,y,z,t,rfl,h}:=h;replace h:=p9 h;let{rfl,h}:=h;replace h:=M8 h;let{{e,u},rfl}:=h;obtain⟨a,f⟩:∃P:G.V,P=⟨x,y,z⟩:={_,rfl};rw[show(.tup [.int x,.int y,.int z]:D)=vd a by rw[f],<-f];rw[<-f]at u;show xN (x:=l.map pn) rfl ?_;have B:∀q:G.V×G.V,q∈l->l5 [vd q.1,vd (a-q.2)]=.ok (.int (G.c6 q.1 (a-q.2))):=λq A=>Z1 (e q A).1.mono (F9 u (e q A).2).mono;show a1n pn (λp=>0<G.c6 p.1 (a-p.2)) (λi=>∃j m,i=[.v (lw l),.v (vd a),j,m]) ?_ l _ {_,_,rfl} ?_
 .rintro i ⟨j,m,rfl⟩;rfl
 rintro p C i ⟨j,m,rfl⟩;have w:=B p C;show{λo=>?_,λo=>{[.v (lw l),.v (vd a),.v (vd p.1),.v (vd p.2)],?_,_,_,rfl}}
 .show oQ (i9 (i9 (i9 (A2 rfl<|i9 (A2 rfl rfl)<|lD p.2 a) w)<|kM (λb=>R.ok (D.bl b))<|lg o) rfl) rfl
 show D2 (i9 (i9 (i9 (A2 rfl<|i9 (A2 rfl rfl)<|lD p.2 a) w)<|kM (λb=>R.ok (D.bl b))<|lb o) rfl)
def V3(f:mg "isinstance"=none)(i:mg "bool"=none)(a:mg "int"=none)(g:Y6 K mg "_law_whole" cZ):t6 P w K mg base 1 "_law_whole" 1 fD:=by
 refine' k8 (k:=0) (F:=_) g uN (λj l m n=>?b) λe d o h=>?_
 case b=>refine' (c5<|d8<|GN (tQ ZH<|f7 0)<|RB<|a0j<|tQ RO<|f7 0)
 match e,h with
 |[x],h=>rw[<-h];cases x<;>rfl
def aU(V3:t6 P w K mg base 1 "_law_whole" 1 fD)(B:mg "len"=none)(C:mg "isinstance"=none)(E:mg "tuple"=none)(H:mg "abs"=none)(g:Y6 K mg "_law_lowest" Z8):t6 P w K mg base 2 "_law_lowest" 1 GY:=by
 refine' k8 (k:=1) (F:=_) g qH (λl n I i=>?b) λr d L h=>?_
 case b=>
  refine' (b8 (m5 (xA.pt<|S7 (Z2<|Q4<|tQ wS<|f7 0)<|S7 (j0 (Y2 n) (PD.pb<|uE K5<|f7 0) X8)<|S7 (Z2<|Q4<|tZ V3 l<|v7 rfl)<|bN<|Z2<|Q4<|tZ V3 l<|v7 rfl) (c5<|d8 Y5) j2)
   (b8 (i5 1 (uE EQ<|DN rfl) i)
   (b8 (i5 2 (uE EQ<|DN rfl) i)
   (b8 (gD (vq 2) aAL (j0 iI (f7 2) X8)<|c5<|BU 1 2 rfl i<|i4 (c8 2)<|i4 (v7 rfl) o9)
   (c5<|d8<|GN (iR iI (DN rfl) X8)<|GN (iR iI (DN rfl) X8)<|RB<|iR (L6 n) (f7 1) X8)))))
 replace h:=qF h;let{Y,r,rfl,h}:=h;replace h:=K6 h;let{a,N,rfl,h}:=h;replace h:=K6 h;let{b,O,rfl,h}:=h;replace h:=p9 h;let{rfl,h}:=h;replace h:=p9 h;let{rfl,h}:=h;replace h:=M8 h;let{{s,t,u},rfl}:=h;show f6 (D2<|iH (eS rfl)<|iH rfl<|iH (eS rfl)<|eS rfl) ?_;have o:∀x:Int,a1f [.int x]=.ok (.int (x.natAbs:Int)):=λx=>by rw[UW];congr 2;split<;>lia
 show f6 (i9 (i9 (A4 rfl)<|o a) rfl) ?_;show f6 (i9 (i9 (A4 rfl)<|o b) rfl) ?_;show GD (J:=λe=>e=[.v (.tup [.int a,.int b]),.v (.int 1),.v (.int 0)]) (qG (λm e=>∃p q:Nat,e=[.v (.tup [.int a,.int b]),.v (.int p),.v (.int q)]/\q<m/\aDw p q=1) ?_ (by rintro e ⟨p,q,_,h,_⟩;lia) {a.natAbs,b.natAbs,rfl,by change b.natAbs<((b.natAbs:Int).natAbs)+2;lia,u} ?_) ?_
 .rintro m e ⟨p,q,rfl,y,f⟩;by_cases j:q=0
  .show .inl (by simp[j])
  show .inr {by simp;lia,_,?_,q,p%q,rfl,?_,?_}
  .have em:eV (.int (p:Int)) (.int (q:Int))=.ok (.int ((p%q:Nat):Int)):=by rw[sH (by lia),aFu _ (by lia)];rfl
   show i9 (A2 rfl em) rfl
  .have:=aFd p (show 0<q by lia)
   lia
  rw[aGu,<-Nat.gcd_rec,aGu];show f
 .rintro m e ⟨p,q,rfl,y,f⟩ A;have j:q=0:=by
   by_cases z:q=0
   .show z
   simp at A;lia
  subst j;rw[Nat.gcd_zero_right]at f;subst f;rfl
 rintro e rfl;show jY (uq (kM (λb=>R.ok (D.bl b))<|lg t)<|uq (kM (λb=>R.ok (D.bl b))<|lg s) rfl)
def aK(D6:t6 P w K mg base 1 "_law_way" 2 j9)(I0:t6 P w K mg base 1 "_law_cross" 2 u3)(z8:t6 P w K mg base 1 "_law_product" 2 l5)(p:mg "len"=none)(g:Y6 K mg "_law_spread" Q7):t6 P w K mg base 2 "_law_spread" 1 ET:=by
 refine' k8 (k:=1) (F:=_) g qT (λf i r m=>?b) λn d s h=>?_
 case b=>
  refine' (b8 (fK 1 ["P"] ["corners"] [0] m rfl (D7 (sc:=b9 Q7) (N:=iF)) (n8<|kZ (f7 0) (G2 u0) W8) (FZ λ_ _ _ _ _=>(T5 D6 f (v7 rfl)<|c8 0))<|λ_=>p8)
   (b8 (m5 (j0 (L6 i) (PD.pb<|uE K5<|f7 1) X8) (c5<|d8<|iR (Y2 i) (PD.pb<|T5 I0 f (v7 rfl)<|v7 rfl)<|DN rfl) j2)
   (b8 (m5 (j0 (L6 i) (PD.pb<|uE K5<|f7 1) X8) (c5<|d8<|iR (Y2 i) (PD.pb<|T5 z8 f (T5 I0 f (v7 rfl)<|v7 rfl)<|v7 rfl) X8) j2)
   (c5<|d8<|iR AO (PD.pb<|uE K5<|f7 1) X8))))
 replace h:=sV h;let{l,n,rfl,h}:=h;replace h:=p9 h;let{rfl,h}:=h;replace h:=M8 h;let{{e,q},rfl}:=h;rcases q with⟨a,rfl⟩|⟨a,b,rfl⟩|⟨a,b,c,rfl,q⟩|⟨a,b,c,d,rfl,q⟩
 .show f6 rfl (f6 (D2 rfl)<|f6 (D2 rfl) rfl)
 .show f6 (ρ:=[.v (.lst [vd a,vd b]),.v (.lst [vd (b-a)])]) rfl (f6 (D2 rfl)<|f6 (D2 rfl) rfl)
 .show f6 (ρ:=[.v (.lst [vd a,vd b,vd c]),.v (.lst [vd (b-a),vd (c-a)])]) rfl (N6<|oQ rfl ?_);have j:=F9 (e b<|.tail _ (.head _)) (e a<|.head _);have sc:=F9 (e c<|.tail _ (.tail _ (.head _))) (e a<|.head _);show i9 (i9 (i9 (A2 rfl rfl)<|R5 j.mono sc.mono)<|(TV _ 0).trans (kM (λb=>R.ok (D.bl b))<|lg q)) rfl
 show f6 (ρ:=[.v (.lst [vd a,vd b,vd c,vd d]),.v (.lst [vd (b-a),vd (c-a),vd (d-a)])]) rfl (f6 (D2 rfl)<|N6<|oQ rfl ?_);have j:=F9 (e b<|.tail _ (.head _)) (e a<|.head _);have sc:=F9 (e c<|.tail _ (.tail _ (.head _))) (e a<|.head _);have o:=F9 (e d<|.tail _ (.tail _ (.tail _ (.head _)))) (e a<|.head _);show i9 (i9 (i9 (A2 (i9 (A2 rfl rfl)<|R5 j.mono sc.mono) rfl)<|Z1 (JL j sc).mono o.mono) ((DP _ _).trans (kM (λb=>R.ok (D.bl b)) (by simp[q])))) rfl
def X3(ua:mg "sum"=none)(cb:mg "range"=none)(bf:mg "len"=none)(g:Y6 K mg "_law_come_to" G1):t6 P w K mg base 1 "_law_come_to" 2 xJ:=by
 refine' k8 (k:=0) (F:=_) g pC (λhr J dc o=>?b) λB d hl h=>?_
 case b=>
  refine' (b8 (i5 2 u0 o)
   (b8 (B1 aAL rfl (n8<|c8 0) (V4 (n:=2) rfl<|n9 (j5 3 o)<|n9 (j5 4 o) N3)<|c5<|i5 2 (v7 rfl) o)
   (b8 (i5 5 (G8 ["corner", "share"] ["bottom"] [2] rfl (D7 (sc:=b9 G1) (N:=X7)) (n8<|c8 0) (by rintro L fp X2 ⟨s0,H1,C,rfl⟩;show{(V4 (n:=2) rfl (n9 (j5 0 (show(["corner", "share", "bottom"]:List Str).Nodup by decide+kernel)) (n9 (j5 1 (show(["corner", "share", "bottom"]:List Str).Nodup by decide+kernel)) N3))),xO,(v7 rfl)})<|λ_=>DG) o)
   (b8 (m5 (j0 (Y2 J) (PD.pb<|uE (QQ rfl)<|f7 5)<|f7 2) (c5<|d8 Y5) j2)
   (b8 (B1 aAL rfl (G7<|t5 X8 w9) (j5 6 o)<|c5<|m5 (j0 (Y2 J) (PD.pb<|uE (QQ rfl)<|PD.pb<|G8 ["j"] ["tops", "k", "found"] [5,6,0] rfl (D7 (sc:=b9 G1) (N:=X7)) (G7<|t5 (PD.pb<|uE K5<|f7 0) w9) (FZ λ_ _ _ _ _=>(v7 rfl))<|λ_=>p8)<|DN rfl) (c5<|d8 Y5) j2)
   (c5<|d8 Y5))))))
 replace h:=bO h;let{l,B,rfl,h}:=h;replace h:=x8 h;let{x,y,z,B,rfl,h}:=h;replace h:=p9 h;let{rfl,h}:=h;replace h:=M8 h;let{{{fl,u},O,sm,Q},rfl}:=h;obtain⟨a,T⟩:∃P:G.V,P=⟨x,y,z⟩:={_,rfl};rw[show(.tup [.int x,.int y,.int z]:D)=vd a by rw[T]];rw[<-T]at O Q;have U:bits (lB l)<=40000:=m9 (zZ (b:=1) (n:=1) (by symm) λp e=>(u p e).2.2.2) (by lia);show f6 rfl ?_;show xN (x:=l.map IX) rfl ?_;show aV (λrest ρ=>∃b f i l2,ρ=[.v (dP l),.v (vd a),.v (.int b),f,i,.no,.no]/\rest=l2.map IX/\l2.foldl (λb p=>b*p.2.2) b=lB l/\bits b+9000*l2.length<=40000/\∀p∈l2,p∈l) ?_ {1,_,_,l,rfl,rfl,rfl,by change 1+9000*l.length<=40000;lia,λ_ h=>h} ?_
 .rintro d B ρ ⟨b,f,i,l2,rfl,A,t,Y,E⟩;cases l2 with
  |nil=>cases A
  |cons p l2=>injection A with e4 e5;subst e4 e5;rw[aAr,Nat.mul_succ]at Y;have pb:=(u p<|E p<|.head _).2.2.2;have H:lH (.int b) (.int p.2.2)=.ok (.int (b*p.2.2)):=j4 (t7.of (show bits b<=40000 by lia) pb);have:=bits_mul (aAi<|bits b) pb;show a7u rfl {_,i9 H rfl,b*p.2.2,_,_,l2,rfl,rfl,t,by lia,λq hq=>E q (.tail _ hq)}
 rintro ρ ⟨b,f,i,l2,rfl,A,t,Y,E⟩;have:l2=[]:=by exists A.symm
 subst this;have t:b=lB l:=t;subst t;have dv:∀p∈l,T7 (.int (lB l)) (.int p.2.2)=.ok (.int ((lB l).fdiv p.2.2))/\lH (.int p.2.1) (.int ((lB l).fdiv p.2.2))=.ok (.int (p.2.1*(lB l).fdiv p.2.2))/\bits (p.2.1*(lB l).fdiv p.2.2)<=50000:=λp e=>by let{q1,q2,q3,q4}:=u p e;have bd:bits ((lB l).fdiv p.2.2)<=40000:=bits_fdiv U;show{aX {by lia,f9 q4},j4 (t7.of q3 bd),m9 (bits_mul q3 bd) (by symm)}
 show f6 (ρ:=[.v (dP l),.v (vd a),.v (.int (lB l)),f,i,.v (.lst ((dR l).map D.int)),.no]) (i9 (x:=.lst ((dR l).map D.int)) (i9 (x:=l.map IX) rfl ?_) rfl) ?_
 .show(Q5 IX D.int (λp=>p.2.1*(lB l).fdiv p.2.2) l (by lia) λp e=>{_,rfl,?_}).trans rfl;let{q1,q2,_}:=dv p e;show i9 rfl (i9 (i9 rfl q1) q2)
 show f6 (D2<|i9 (i9 (i9 (A4 rfl)<|UE<|dR l)<|yj sm) rfl) ?_;show xN (x:=R8 0 3) rfl ?_;show JE (λk ρ=>∃I,ρ=[.v (dP l),.v (vd a),.v (.int (lB l)),f,i,.v (.lst ((dR l).map D.int)),I]) ?_ {_,rfl} ?_
 .rintro k _ r ρ ⟨I,rfl⟩;have r:k<3:=by lia
  show HR (ρ':=[.v (dP l),.v (vd a),.v (.int (lB l)),f,i,.v (.lst ((dR l).map D.int)),.v (.int (k:Int))]) rfl {[.v (dP l),.v (vd a),.v (.int (lB l)),f,i,.v (.lst ((dR l).map D.int)),.v (.int (k:Int))],?_,_,rfl};have lL:kU [dP l]=.ok (.int (l.length:Int)):=by erw[kU,aAg]
  have rg:fP [.int (l.length:Int)]=.ok ((aCP 0 l.length).map λ(k:Nat)=>D.int (k:Int)):=SB (by lia);have mP:lH (.int (lB l)) (.int (qA a k))=.ok (.int (lB l*qA a k)):=j4 (t7.of U<|AA O r);show D2 (i9 (i9 (i9 (A4<|i9 (i9 (A4<|i9 (A4 rfl) lL) rg) ?_)<|UE _)<|i9 (i9 rfl<|i9 (sE r) mP)<|yj<|Q k r) rfl);show(Q5 (λ(k:Nat)=>D.int (k:Int)) D.int (λj=>(dR l).getD j 0*qA (l.getD j (0,0,0)).1 k) (aCP 0 l.length) (by rw[aFI];lia) λj s=>{_,rfl,?_}).trans rfl;rw[aCK]at s;have s:j<l.length:=by lia
  have i1:V6 (.lst ((dR l).map D.int)) (.int (j:Int))=.ok (.int ((dR l).getD j 0)):=RM (by rw[BN];show s);have i2:V6 (dP l) (.int (j:Int))=.ok (IX<|l.getD j (0,0,0)):=RM s;let{p,e,et}:=aAj.mp (wj (z:=0) (show j<(dR l).length by rw[BN];show s));have H:lH (.int ((dR l).getD j 0)) (.int (qA (l.getD j (0,0,0)).1 k))=.ok (.int ((dR l).getD j 0*qA (l.getD j (0,0,0)).1 k)):=j4 (t7.of (m:=50000) (show bits ((dR l).getD j 0)<=50000 from et▸(dv p e).2.2)<|AA (u _<|wj s).1 r);show i9 i1 (i9 (i9 (i9 i2 rfl)<|sE r) H)
 rintro ρ ⟨I,rfl⟩;rfl
def bP(aU:t6 P w K mg base 2 "_law_lowest" 1 GY)(aK:t6 P w K mg base 2 "_law_spread" 1 ET)(X3:t6 P w K mg base 1 "_law_come_to" 2 xJ)(U:mg "len"=none)(Y:mg "isinstance"=none)(gu:mg "list"=none)(ic:mg "tuple"=none)(bg:mg "sorted"=none)(lu:mg "set"=none)(g:Y6 K mg "_law_right" U1):t6 P w K mg base 8 "_law_right" 3 xG:=by
 refine' k8 (k:=7) (F:=_) g uH (λa j dc q=>?b) λm d hl h=>?_
 case b=>
  have A:=a.ae0 (by symm);refine' (b8 (m5 (xA.pt<|S7 (Z2<|Q4<|tQ UM<|f7 0)<|S7 (j0 AO (PD.pb<|uE K5<|f7 0) X8)<|bN<|j0 iI (PD.pb<|uE K5<|f7 0) X8) (c5<|d8 Y5) j2)
   (b8 (B1 aAL rfl (n8<|c8 0) (j5 3 q)<|c5<|m5 (xA.pt<|S7 (Z2<|Q4<|tQ wS<|f7 3)<|S7 (j0 (Y2 j) (PD.pb<|uE K5<|f7 3) X8)<|S7 (j0 (DJ j) (DN rfl)<|f7 1)<|bN<|Z2<|Q4<|tZ aU a<|v7 rfl) (c5<|d8 Y5) j2)
   (b8 (fK 4 ["pair"] [] [] q rfl (D7 (sc:=b9 U1) (N:=jI)) (n8<|c8 0) (FZ λ_ _ _ _ _=>(v7 rfl))<|λ_=>p8)
   (b8 (m5 (xA.pt<|S7 (j0 (Y2 j) (PD.pb<|PF.pd<|bX (f7 4) rfl A)<|f7 4)<|bN<|Z2<|Q4<|tZ aK a<|c8 4) (c5<|d8 Y5) j2)
   (c5<|d8<|T5 X3 a (c8 0)<|c8 2)))))
 replace h:=bO h;let{l,m,rfl,h}:=h;replace h:=sV h;let{B,m,rfl,h}:=h;replace h:=x8 h;let{x,y,z,m,rfl,h}:=h;replace h:=p9 h;let{rfl,h}:=h;replace h:=M8 h;let{{l1,e,C,r,E},rfl}:=h;obtain⟨o,s⟩:∃P:G.V,P=⟨x,y,z⟩:={_,rfl};rw[show(.tup [.int x,.int y,.int z]:D)=vd o by rw[s]];rw[<-s]at e;have l4:=e.1.1;have t:kU [dP l]=.ok (.int (l.length:Int)):=by erw[kU,aAg]
 have lt:ltR (.int (l.length:Int)) (.int 1)=.ok (.bl false):=kM (λb=>R.ok (D.bl b)) (lb (by lia));have H:gtR (.int (l.length:Int)) (.int 4)=.ok (.bl false):=kM (λb=>R.ok (D.bl b)) (lb (by lia));show f6 (D2<|iH (eS rfl)<|iH (i9 (i9 (i9 (A4 rfl) t) lt) rfl)<|i9 (i9 (i9 (A4 rfl) t) H) rfl) ?_;show xN (x:=l.map IX) rfl ?_;show GD (lP (λρ=>∃f,ρ=[.v (dP l),.v (.lst (B.map vd)),.v (vd o),f,.no]) ?_ {_,rfl}) ?_
 .rintro d I ρ ⟨f,rfl⟩;let{p,i,rfl}:=aAj.mp I;let{L,O}:=C p i;have Q:inR true (vd p.1) (.lst (B.map vd))=.ok (.bl false):=by rw[lE,lb (λn=>n L)]
  show HR rfl {_,D2 (iH (eS rfl)<|iH rfl<|iH (i9 (i9 rfl Q) rfl)<|eS<|i9 (i9 (A4 rfl)<|mz O) rfl),_,rfl}
 rintro ρ ⟨f,rfl⟩;show f6 (ρ:=[.v (dP l),.v (.lst (B.map vd)),.v (vd o),f,.v (.lst ((l.map (·.1)).map vd))]) (i9 (x:=.lst ((l.map (·.1)).map vd)) (i9 (x:=l.map IX) rfl ((Q5 IX vd (·.1) l (by lia) λp i=>{_,rfl,rfl}).trans rfl)) rfl) ?_;have u:=SK (J:=l.map (·.1)) (by rw[r,aAg];lia);rw[r]at u;have sz:∀X∈l.map (·.1),Sz 900 X:=λX T=>by let{p,i,rfl}:=aAj.mp T;show(e.1.2 p i).1
 have ne:=xT (KR (l.map (·.1)));show f6 (D2<|iH (i9 (i9 (i9 (i9 rfl u) rfl) ne) rfl)<|eS<|i9 (i9 (A4 rfl)<|YC sz E) rfl) (jY<|i9 (A2 rfl rfl)<|YY e)
section
seal PySem.eval
def o_law{f:a9}{fd:dI}(dW:t6 P w K mg base 2 "_law_near" 1 GM)(nM:t6 P w K mg base 10 "body_of" 1 bI)(V1:t6 P w K mg base 2 "_law_moved" 2 pL)(Z7:t6 P w K mg base 2 "_law_planes" 1 EU)(cP:t6 P w K mg base 1 "_law_asked" 3 pU)(W9:t6 P w K mg base 2 "_law_outside" 2 EL)(bP:t6 P w K mg base 8 "_law_right" 3 xG)(a:t6 P w K mg base 10 "shares_of" 2 qW)(bL:HW P w K mg base 10 "shares_of" 2 qW)(gu:mg "list"=none)(F0:Fun K "law" "law" fJ f fd):FnOk P w K mg base uF 11 f fd ["script"] (spD K 1 pR):=by
 refine' fnD (k:=10) (F:=_) F0 WC (λT A q s H E e=>?b) λds d hl h=>?_
 case b=>
  have r:=e.units;have dc:=e.ad9;have g:=WC.nd;refine' (b8 (fK 1 ["x", "y", "z"] [] [] g rfl (D7 (sc:=b9 fJ) (N:=PN)) (n8<|tZ dW e<|c8 0) (by rintro pins fp X2 ⟨s0,H1,C,rfl⟩;show{(V4 (n:=3) rfl (n9 (j5 0 (show(["x", "y", "z"]:List Str).Nodup by decide+kernel)) (n9 (j5 1 (show(["x", "y", "z"]:List Str).Nodup by decide+kernel)) (n9 (j5 2 (show(["x", "y", "z"]:List Str).Nodup by decide+kernel)) N3)))),xO,(v7 rfl)})<|λ_=>FA)
   (b8 (i5 2 (tZ nM e<|G8 ["spot"] ["script"] [0] rfl (D7 (sc:=b9 fJ) (N:=PN)) (n8<|c8 1) (FZ λ_ _ _ _ _=>(T5 V1 e (c8 0)<|c8 1))<|λ_=>p8) g)
   (b8 (i5 3 (tZ Z7 e<|c8 2) g)
   (b8 (i5 4 (fZ KD<|t5 (f7 2) w9) g)
   (b8 (B1 aAL rfl (n8<|kZ (PD.pb<|jB lJ (PD.pb<|kZ (f7 0) (G2 u0)<|G2 u0)<|PD.pb<|qK<|i4 u0 o9) W8<|G2 u0) (j5 5 g) (b8 (i5 6 (T5 V1 e (pc3 cP e (c8 0) (c8 1)<|c8 5)<|c8 0) g)
   (b8 (UV 7 (a3x bL (e.mono (by symm)) (i4 (c8 4)<|i4 (c8 6) o9)<|u8<|u8 S4) g)
   (b8 (m5 (j0 (Y2 r) (f7 4)<|f7 2) (c5<|d8 Y5) j2)
   (c5 (m5 (Q4<|T5 W9 e (c8 3)<|c8 6) (c5<|m5 (j0 gk (f7 7)<|PD.pb iS) (c5<|d8 Y5) j2) (c5 (m5 (jj 7<|Z2<|Q4<|pc3 bP e (c8 7) (c8 2)<|c8 6) (c5<|d8 Y5) (b8 (i5 8 (fZ KD<|t5 (f7 7) w9) g)
   (b8 (NM 7)
   (c5<|m5 (xA.pt<|S7 (j0 (Y2 r) (PD.pb<|T5 a e (c8 4)<|c8 6)<|f7 8)<|bN<|j0 (Y2 r) (f7 4)<|f7 2) (c5<|d8 Y5) j2)))))))))))
   (c5<|d8 Y5))))))
 replace h:=mO h;let{Y,ds,rfl,h}:=h;replace h:=p9 h;let{rfl,h}:=h;replace h:=M8 h;let{{hl,j},rfl}:=h;have NR:GM [.lst Y]=.ok (.lst ((N4 (cI Y 0)<|bH Y).map vd)):=km j;let{y1,y2}:=zU (cI Y 0) (mK j).2.1;let{z1,z2,z3,k1,k2}:=a3p (cI Y 0) (cI Y 1) (cI Y 2) (mK j).2.1;have k4:(e9<|((N4 (cI Y 0)<|bH Y).map (G.yS 6)).map (dJ (cI Y 1)<|cI Y 2)).length<=14:=aAo (jD _) (by rw[aAg];lia);have BO:=iy k1 k2 k4;have B:=a7h k1 k2 k4;have MV:∀P,Sz 100 P->pL [vd P,.lst Y]=.ok (vd<|dJ (cI Y 1) (cI Y 2) P):=λP i=>km {j,i};let{cs,c9}:=a0y j;have sl:NQ (.lst Y) (some 9) (some 12)=.ok (.lst ((Y.drop 9).take 3)):=WD Y 9 12 (by symm);have t:∀{x:Int},bits x<=80->lH (.int 6) (.int x)=.ok (.int (6*x)):=λh=>j4 (t7.of (show bits 6<=10 by symm) h);show f6 (ρ:=[.v (.lst Y),.v (.lst (((N4 (cI Y 0)<|bH Y).map (G.yS 6)).map vd)),.no,.no,.no,.no,.no,.no,.no]) (i9 (x:=.lst (((N4 (cI Y 0)<|bH Y).map (G.yS 6)).map vd)) (i9 (i9 (i9 (A4 rfl) NR) rfl) ?_) rfl) ?_
 .show(Q5 vd vd (G.yS 6) (N4 (cI Y 0)<|bH Y) (by lia) λP i=>{_,rfl,?_}).trans rfl;let{b1,b2,b3}:=y1 P i;show i9 (t4 (t b1)<|t4 (t b2)<|t4 (t b3) rfl) rfl
 generalize(N4 (cI Y 0)<|bH Y).map (G.yS 6)=J at*
 have u:B8 (J.map<|dJ (cI Y 1)<|cI Y 2)≠[]:=λz=>by let{A,hA,_}:=B.sol;rw[z]at hA;cases hA
 show f6 (ρ:=[.v (.lst Y),.v (.lst (J.map vd)),.v (.lst ((B8<|J.map<|dJ (cI Y 1)<|cI Y 2).map vd)),.no,.no,.no,.no,.no,.no]) (i9 (i9 (A4<|i9 (x:=J.map vd) rfl ?_) BO) rfl) ?_
 .show(Q5 vd vd (dJ (cI Y 1)<|cI Y 2) J (by lia) λP i=>{[.v (vd P),.v (.lst Y)],rfl,i9 (A2 rfl rfl) (MV P (z1 P i).mono)}).trans rfl
 generalize B8 (J.map<|dJ (cI Y 1)<|cI Y 2)=L at*
 have I:YO L:={B.sz.1,u,B.len};have O:=xT (KR L);have LS:=λ{P:G.V} (i:Sz 2000 P)=>qj (l:=jx L) (λp hp=>{(UC I p hp).2.1.mono,(B.sz.1 _ (UC I p hp).1).mono}) i;show f6 (i9 (i9 (A4 rfl)<|ZO I) rfl) ?_;show f6 rfl ?_;show xN (x:=cs.map D.int) (i9 (a3z (r':=tR (.lst ((Y.drop 9).take 3)) (.lst [.int 1])) (i9 (x:=.lst ((Y.drop 9).take 3)) (i9 (x:=.lst Y) rfl<|i9 (x:=some 9) rfl<|i9 (x:=some 12) rfl sl) rfl) c9) rfl) ?_;show GD (lP (λρ=>∃Q U a7 a8,ρ=[.v (.lst Y),.v (.lst (J.map vd)),.v (.lst (L.map vd)),.v (lw<|jx L),.v (.lst (L.map vd)),Q,U,a7,a8]) ?_ {_,_,_,_,rfl}) ?_
 .rintro d hd ρ ⟨Q,U,a7,a8,rfl⟩;let{c,_,rfl}:=aAj.mp hd;show HR rfl ?_;have AS:=RV (d:=.lst Y) (c:=c) z2;have aS:=a3g (c:=c) z2 z1;have PS:Sz 2000 (dJ (cI Y 1) (cI Y 2)<|HF J c):=(QV _ _ aS.mono).mono;show Z9 (i9 (i9 (A2 (i9 (t4 rfl<|t4 rfl<|t4 rfl rfl) AS) rfl)<|MV _ aS.mono) rfl) ?_;generalize dJ (cI Y 1) (cI Y 2) (HF J c)=P' at*
  have m:=ZK (KA B) PS;have o:=LS PS;rcases a9m B PS with⟨e1,e2⟩|⟨l,e1,R,e2⟩
  .rw[e1]at m;rw[e2]at o;show Z9 (i9 (i9 (A2 rfl rfl) m) rfl) ?_;show Z9 (D2<|i9 O rfl) ?_;show tj (i9 (i9 (A2 rfl rfl) o) rfl) {_,D2 rfl,_,_,_,_,rfl}
  rw[e1]at m;rw[e2]at o;have nk:=xT (jy l);show Z9 (i9 (i9 (A2 rfl rfl) m) rfl) ?_;show Z9 (D2<|i9 O rfl) ?_;show a5k (i9 (i9 (A2 rfl rfl) o) rfl) ?_;show a5k (eS<|i9 (i9 (t4 rfl<|t4 rfl<|t4 rfl rfl)<|WH R) rfl) ?_;show Z9 rfl (Z9 rfl {_,D2 (iH (i9 (i9 (i9 (A2 rfl rfl) m) nk) rfl)<|i9 O rfl),_,_,_,_,rfl})
 rintro ρ ⟨Q,U,a7,a8,rfl⟩;rfl
end
end
end K31
section
namespace K31
open PySem L2 DL M
def truth(ns:List Int)(a:ns.length<=63)(b:∀x∈ns,aBd x<=1048576):pR [.lst (ns.map D.int)]=.ok (.bl true):=by unfold pR;show km {by simpa using a,qy b}
section
variable [Tabs]
def all_mk{l:PySem.W.OpenLaw}{w:bM}{K:lM}{h:cf}{mg:dM}{fa f42 Pt:a9}(X:K.In h)(G:h.Ns be mg)(hfa:mg "law"=some (.ref fa))
  (g0:Got K "way_between" aJ)
  (g1:Got K "cross_of" jE)
  (g2:Got K "product_of" dF)
  (g3:Got K "lift_of" lN)
  (g4:Got K "common_divisor" P8)
  (g5:Got K "plane_through" S9)
  (g6:Got K "side_of" mF)
  (g7:Got K "first_real_way" P3)
  (g8:Got K "dimension_of" C8)
  (g9:Got K "refuse_flat" aD)
  (g10:Got K "points_on" Z3)
  (g11:Got K "plane_about" aF)
  (g12:Got K "first_pair" cJ)
  (g13:Got K "turn_of" nQ)
  (g14:Got K "left_chain" bQ)
  (g15:Got K "ring_of" nK)
  (g16:Got K "pairs_round" aQ)
  (g17:Got K "faces_from" bR)
  (g18:YE K "faces_of" K7 Pt)
  (g19:Got K "corners_in" cU)
  (g20:Got K "body_of" nC)
  (g21:Got K "fraction_of" aN)
  (g22:Got K "wedges_in" Z6)
  (g23:Got K "weights_in" cV)
  (g24:Got K "weights_by" U4)
  (g25:Got K "shares_by" Z0)
  (g26:Got K "shares_of" fB)
  (g27:Got K "_law_cell_at" Y3)
  (g28:Got K "_law_way" iY)
  (g29:Got K "_law_cross" dD)
  (g30:Got K "_law_product" X4)
  (g31:Got K "_law_great" cR)
  (g32:Got K "_law_near" G4)
  (g33:Got K "_law_moved" bU)
  (g34:Got K "_law_asked" V0)
  (g35:Got K "_law_planes" Q8)
  (g36:Got K "_law_outside" X9)
  (g37:Got K "_law_whole" cZ)
  (g38:Got K "_law_lowest" Z8)
  (g39:Got K "_law_spread" Q7)
  (g40:Got K "_law_come_to" G1)
  (g41:Got K "_law_right" U1)
  {od42 an42:Option a9}{sl42:Array (Option au)}{oc42 kV42 dc42 pm42 cd42 ct42:au}
  (a42:PySem.W.nsIn K be "law"=some (some (.ref f42))) (l42:K.lookup f42=some {oc42,od42,.func (PySem.W.fnOf "law" "law" (C1 fJ) (p5 fJ) (b9 fJ) .none kV42 dc42 pm42 an42 cd42 ct42),sl42}) (e42:PySem.W.codeIn K cd42 "law"=true) (k42:PySem.W.keepIn K (.ref f42)=true)
  (z_abs:PySem.W.nsIn K be "abs"=some none)
  (z_len:PySem.W.nsIn K be "len"=some none)
  (z_any:PySem.W.nsIn K be "any"=some none)
  (z_min:PySem.W.nsIn K be "min"=some none)
  (z_list:PySem.W.nsIn K be "list"=some none)
  (L:PySem.W.nsIn K be "reversed"=some none)
  (z_zip:PySem.W.nsIn K be "zip"=some none)
  (z_sorted:PySem.W.nsIn K be "sorted"=some none)
  (z_set:PySem.W.nsIn K be "set"=some none)
  (z_range:PySem.W.nsIn K be "range"=some none)
  (z_dict:PySem.W.nsIn K be "dict"=some none)
  (z_sum:PySem.W.nsIn K be "sum"=some none)
  (z_tuple:PySem.W.nsIn K be "tuple"=some none)
  (z_max:PySem.W.nsIn K be "max"=some none)
  (o:PySem.W.nsIn K be "isinstance"=some none)
  (z_bool:PySem.W.nsIn K be "bool"=some none)
  (z_int:PySem.W.nsIn K be "int"=some none)
  {me:a9}{T:Option a9}{N O Q:Tok}{U:Nat}{Y:Array (Option au)}
  (ca_NO_WAY:PySem.W.nsIn K be "NO_WAY"=some (some (.ref me))) (cl_NO_WAY:K.lookup me=some {.type "tuple",T,.seq #[.int 0 N,.int 0 O,.int 0 Q] U,Y})
  (nt:(Pt,tbK)∈Tabs.tbs)
  (truth:∀ns:List Int,ns.length<=63->(∀x∈ns,aBd x<=1048576)->pR [.lst (ns.map D.int)]=.ok (.bl true)):
  ∃fd:dI,(∀(s:aL) (v:au),BindsTo s fd {[v],[]} [("script",v)])/\∀base:cf,K.In base->base.Ns be mg->kY mg base->FnOk l.prog w K mg base uF 11 fa fd ["script"] (yX K):=by
 have e:=hfa.symm.trans (PySem.W.mg_of X G a42);cases e;have td:=PySem.W.mg_none_of X G z_abs;have bf:=PySem.W.mg_none_of X G z_len;have b_any:=PySem.W.mg_none_of X G z_any;have lh:=PySem.W.mg_none_of X G z_min;have gu:=PySem.W.mg_none_of X G z_list;have kh:=PySem.W.mg_none_of X G L;have tf:=PySem.W.mg_none_of X G z_zip;have bg:=PySem.W.mg_none_of X G z_sorted;have lu:=PySem.W.mg_none_of X G z_set;have cb:=PySem.W.mg_none_of X G z_range;have yc:=PySem.W.mg_none_of X G z_dict;have ua:=PySem.W.mg_none_of X G z_sum;have ic:=PySem.W.mg_none_of X G z_tuple;have b_max:=PySem.W.mg_none_of X G z_max;have av:=PySem.W.mg_none_of X G o;have yd:=PySem.W.mg_none_of X G z_bool;have b_int:=PySem.W.mg_none_of X G z_int;have dg:UJ K mg "NO_WAY" [0,0,0]:=a0k (PySem.W.mg_of X G ca_NO_WAY) cl_NO_WAY;show{PySem.W.fnOf "law" "law" (C1 fJ) (p5 fJ) (b9 fJ) .none kV42 dc42 pm42 an42 cd42 ct42,λs v=>.of_eq rfl,λbase _ _ hB=>?_};have bh:t6 l.prog w K mg base 1 "way_between" 2 j9:=l8 (g0.def X G);have dh:t6 l.prog w K mg base 1 "cross_of" 2 u3:=y9 (g1.def X G);have br:t6 l.prog w K mg base 1 "product_of" 2 l5:=u4 (g2.def X G);have r_lift_of:=V8 br dh bh (g3.def X G);have eu:t6 l.prog w K mg base 1 "common_divisor" 1 wG:=C3 td (g4.def X G);have b:=T2 dh bh eu br (g5.def X G);have r_side_of:t6 l.prog w K mg base 1 "side_of" 2 bD:=nE (g6.def X G);have a:t6 l.prog w K mg base 1 "first_real_way" 1 y7:=J1 dg (g7.def X G);have gv:=G5 bh a dh br bf b_any (g8.def X G);have g:=aE gv (g9.def X G);have ji:=G3 r_side_of (g10.def X G);have ie:=K0 bh br dh b dg (g11.def X G);have p:=cB ji ie gv lh (g12.def X G);have r_turn_of:=lZ br dh bh (g13.def X G);have q:=U9 r_turn_of bf (g14.def X G);have r_ring_of:=lQ q gu kh (g15.def X G);have i:t6 l.prog w K mg base 1 "pairs_round" 1 y3:=aO gu tf (g16.def X G);have r:=cO ie r_ring_of i bf bg (g17.def X G);have ki:=Y4 ji g p r bg lu hB nt (g18.def X G);have t:t6 l.prog w K mg base 8 "corners_in" 1 J0:=cG bg lu (g19.def X G);have r_body_of:=nM t ki (g20.def X G);have j:=aG eu (g21.def X G);have H:t6 l.prog w K mg base 1 "wedges_in" 1 jW:=eG cb bf (g22.def X G);have u:=cE r_lift_of (g23.def X G);have y:=bY H u lh yc tf (g24.def X G);have iu:HE l.prog w K mg base 8 "shares_by" 1 zO:=bS j ua bg (g25.def X G);have r_shares_by:=iu.cal;have ja:HW l.prog w K mg base 10 "shares_of" 2 qW:=bL y ki iu (g26.def X G);have I:=ja.cal;have ia:t6 l.prog w K mg base 1 "_law_cell_at" 2 E6:=C7 bf (g27.def X G);have ir:t6 l.prog w K mg base 1 "_law_way" 2 j9:=D6 (g28.def X G);have jb:t6 l.prog w K mg base 1 "_law_cross" 2 u3:=I0 (g29.def X G);have dn:t6 l.prog w K mg base 1 "_law_product" 2 l5:=z8 (g30.def X G);have z:t6 l.prog w K mg base 1 "_law_great" 1 pM:=dE (g31.def X G);have J:=dW ia z cb (g32.def X G);have A:=V1 ia (g33.def X G);have B:t6 l.prog w K mg base 1 "_law_asked" 3 pU:=cP bf ic cb (g34.def X G);have k:=Z7 jb ir dn cb bf b_max lh (g35.def X G);have d:=W9 dn ir (g36.def X G);have C:t6 l.prog w K mg base 1 "_law_whole" 1 fD:=V3 av yd b_int (g37.def X G);have m:=aU C bf av ic td (g38.def X G);have n:=aK ir jb dn bf (g39.def X G);have f:t6 l.prog w K mg base 1 "_law_come_to" 2 xJ:=X3 ua cb bf (g40.def X G);have E:=bP m n f bf av gu ic bg lu (g41.def X G);show ZD (o_law J r_body_of A k B d E I ja gu<|RN (st:=fJ) l42 e42 k42) truth
end
end K31
namespace PySem.W.Fast
def tw13961139725008056401:=0
def tw4263370896970338608:=0
def tw7897397670124741632:=0
def tw10564243110479606912:=0
def tw15576245438426920539:=0
def tw15683613993601786325:=0
def tw3168793079886833464:=0
def tw15982059180671073863:=0
def tw3863022620994689591:=0
def tw9318082255066997974:=0
def tw1254879646991993086:=0
def tw7739101756415934605:=0
def tw3531068149073535515:=0
def tw12251626617665077482:=0
def tw3917101047585224304:=0
def tw7017146394800665436:=0
def tw1516660619796765425:=0
def tw16472008209486086375:=0
def tw7251011450846281262:=0
def tw14886117871436467644:=0
def tw4195145393284487484:=0
def tw3766697185245728567:=0
def tw2542892789928615598:=0
def tw10317297112029345323:=0
def tw13036344012439176455:=0
def tw3886091722656059732:=0
def tw5746735583167047662:=0
def tw13584567778625519797:=0
def tw15142461221484233262:=0
def tw8551790077574878485:=0
def tw12389264807254774651:=0
def tw3101019765112634049:=0
def tw1352357309410696921:=0
def tw3559670754290127214:=0
def tw12542822682561987494:=0
def tw17325492160404350342:=0
def tw7751340409187474757:=0
def tw6657331825958677215:=0
def tw6028710798135270894:=0
def tw4215349629248549087:=0
def tw5933558386854074971:=0
def tw16930665884410767753:=0
def tw15718823846657077107:=0
def tw11633634987320834362:=0
def tw8428415551996080601:=0
def tw16566679325743091388:=0
def tw943769116074284040:=0
def tw12343518807219194432:=0
def tw8868392735961004090:=0
def tw5107665877025081267:=0
def tw8646586674080972682:=0
def tw7654313474723639959:=0
def tw5191751105337979429:=0
def tw2599230587254022124:=0
def tw5076123575343743359:=0
def tw12543544021519335732:=0
def tw399344257431561325:=0
def tw11592472581390236763:=0
def tw6965346386836350447:=0
def tw3978770639843246436:=0
def tw4758216356838954892:=0
def tw9318888213843827497:=0
def tw5671564980775695134:=0
def tw3333992643616652488:=0
def tw12967453740566856115:=0
def tw9133631297063698198:=0
def tw9386991727365628340:=0
def tw2873504567167075789:=0
def tw3096052131596300918:=0
def tw9613624007215858105:=0
def tw18392276501790995247:=0
def tw521504453803625779:=0
def tw7300696076402245486:=0
def tw14653919847941497378:=0
def tw4256535971486751960:=0
def tw4163540466129455932:=0
def tw12782826466909941684:=0
def tw3466811239293711589:=0
def tw7906713389611002311:=0
def tw5656019440250152204:=0
def tw5383837685311487139:=0
def tw12684628343834793242:=0
def tw6902498186701598501:=0
def tw12198568279342340044:=0
def tw5889833248391666347:=0
def tw13734967618525869753:=0
def tw2828159355581591450:=0
def tw15318648216850595004:=0
def tw15254542284924535996:=0
def tw5503451638989388741:=0
def tw6277616933787749895:=0
def tw6352950839222226117:=0
def tw7927363865206707892:=0
def tw6156763113093175553:=0
def tw4061288330043771751:=0
def tw4149137247776683955:=0
def tw15905717717890818072:=0
def tw9581610978633918122:=0
def tw11067866681836280308:=0
def tw6697924275480047731:=0
def tw10808921740731878089:=0
def tw16024121492647919961:=0
def tw5094063925625309884:=0
def tw69403163441121366:=0
def tw16073528808254243472:=0
def tw12147712922090955156:=0
def tw794291331981783494:=0
def tw12781177935144099249:=0
def tw16257284858468967092:=0
def tw7905098761572864229:=0
def tw6882745983159089893:=0
def tw901503639616912236:=0
def tw8306404496715010000:=0
def tw8168099161907786101:=0
def tw11066725580719850148:=0
def tw10765245699195474846:=0
def tw13888438879245511979:=0
def tw14172283095181406073:=0
def tw5262328278956966105:=0
def tw4180360894419138845:=0
def tw10314893654997819907:=0
def tw10388242878021987588:=0
def tw222190953656453037:=0
def tw8319513382247457366:=0
def tw313162536950772249:=0
def tw17143655369811979191:=0
def tw18318233197778199341:=0
def tw13233476193505957382:=0
def tw7072427450366521011:=0
def tw16661677823421984305:=0
def tw2596033035163965199:=0
def tw2694984303179579144:=0
def tw11807572680379690156:=0
def tw6926153522075505959:=0
def tw16332303473947852997:=0
def tw4185583422565613753:=0
def tw14692643501770440817:=0
def tw15459618716119924378:=0
def tw5873082966028562352:=0
def tw4527677686190532544:=0
def tw12559040518217169323:=0
def tw11952858075480577171:=0
def tw15296958283174121429:=0
def tw3765585566871406326:=0
def tw8735046775303372032:=0
def tw13917077160685253138:=0
def tw1667041932701792991:=0
def tw10247167497062826004:=0
def tw14931809932544694757:=0
def tw13109593770609415897:=0
def tw5664856080161079890:=0
def tw17433401621631053631:=0
def tw1242663490771649864:=0
def tw9376034373116167950:=0
def tw16588774417969337471:=0
def tw5707864448078077292:=0
def tw12604512966876171517:=0
def tw16715569262757488106:=0
def tw12114699651359284084:=0
def tw4118557266639241423:=0
def tw7590612151090848795:=0
def tw10679948472014673764:=0
def tw16851838991576872995:=0
def tw1156192527385822659:=0
def tw13240207211831731484:=0
def tw13626938027611389342:=0
def tw1479460436653867901:=0
def tw15870593095544113056:=0
def tw16518187211474254647:=0
def tw2567912283792873767:=0
def tw7179351333684288900:=0
def tw8719136136713390944:=0
def tw17122479881440433868:=0
def tw15959602755861543178:=0
def tw10954977279988462483:=0
def tw14888164605090667258:=0
def tw11526653895595723789:=0
def tw3158424008212141872:=0
def tw17424514428755035062:=0
def tw12850959632650732490:=0
def tw3706032265489593468:=0
def tw5387152362899774695:=0
def tw7661370795890690547:=0
def tw8345866597034232717:=0
def tw10693066843788786270:=0
def tw11911233318844861429:=0
def tw3896427567899767931:=0
def tw8485905843314813465:=0
def tw11676041188343689330:=0
def tw12837557481734790613:=0
def tw16227632591866668094:=0
def tw3466082552802868809:=0
def tw3648434260407687075:=0
def tw4690744928876018850:=0
def tw8335627210987264067:=0
def tw18014202633888899483:=0
def tw13185628567801695268:=0
def tw16096594419998225628:=0
def tw4392659855200143516:=0
def tw8869835660100310081:=0
def tw1661839667329522649:=0
def tw6106386077646794608:=0
def tw6155902226547220908:=0
def tw1838394216669338496:=0
def tw6945299186322272676:=0
def tw16631686277022955406:=0
def tw2039677581754701044:=0
def tw5104520145634476984:=0
def tw7252436329401644489:=0
def tw4327837403578001602:=0
def tw3616595063388146525:=0
def tw18314654928626427854:=0
def tw12191161055190783408:=0
def tw14082163875478830666:=0
def tw12240248748481946757:=0
def tw4389754412957459768:=0
def tw14410957831414340686:=0
def tw13962009182291138547:=0
def tw7586393934549835262:=0
def tw8697817035340978466:=0
def tw2776273078284824022:=0
def tw2441669891032978368:=0
def tw14202209310901328035:=0
def tw15593159110160035620:=0
def tw10220648391042433771:=0
def tw11984529185265977715:=0
def tw14764653712886795673:=0
def tw378952673939827292:=0
def tw5422000663098956366:=0
def tw10475629905273286422:=0
def tw10644715511869602093:=0
def tw11072197222954744988:=0
def tw11087093211004339512:=0
def tw1130197298804198295:=0
def tw11344521149782144490:=0
def tw11366559704196288200:=0
def tw11454981722872928010:=0
def tw12045727038002273445:=0
def tw12062395190631719835:=0
def tw12489854187316595195:=0
def tw12544807096940279725:=0
def tw12551872948955678354:=0
def tw12676409461326226141:=0
def tw13116017703629810447:=0
def tw13302760043568116072:=0
def tw13384696063923549447:=0
def tw13927247160441535198:=0
def tw13946297530289357412:=0
def tw14850726747084957592:=0
def tw1489005702756439967:=0
def tw15035293818318355538:=0
def tw15056970763465845347:=0
def tw15062191910550914769:=0
def tw15078402275824857360:=0
def tw15084932375755286126:=0
def tw15136124565418164004:=0
def tw15198521763500907116:=0
def tw15490604875982000519:=0
def tw15493993112069747013:=0
def tw15553432459004358769:=0
def tw15834553597510317805:=0
def tw15854739575330257437:=0
def tw1596108731236162578:=0
def tw16213940348521488832:=0
def tw16726747193492532246:=0
end PySem.W.Fast
open PySem PySem.W PyProof.Rows
set_option maxRecDepth 100000 in
theorem PySem.Challenge.cw_stakebodies_k31_shares_told_holds : PySem.Challenge.rw_stakebodies_k31_shares_told.Holds := by
 w_on;o_law;k_head;(case hw=>w_witness2)
 k_fill
 letI tabs9:DL.Tabs:=⟨[(176,K31.tbK)]⟩
 show DL.fx (l:=PySem.Challenge.rw_stakebodies_k31_shares_told) (k:=11) rfl rfl {rfl,by decide,by decide} (λw h Y=>{PySem.W.km_in_of Y,PySem.W.km_tabs_of Y}) (DL.mj (c:=180) (by k_mem) (λw=>by kernel_rfl)) (aAZ.mpr {aAR,aCY}) (λw=>by kernel_rfl) ?F
 case F=>
  intro w mg fa h KX G hmg;refine' K31.all_mk KX G hmg ?_ ?_ ?_ ?_ ?_ ?_ ?_ ?_ ?_ ?_ ?_ ?_ ?_ ?_ ?_ ?_ ?_ ?_ ?_ ?_ ?_ ?_ ?_ ?_ ?_ ?_ ?_ ?_ ?_ ?_ ?_ ?_ ?_ ?_ ?_ ?_ ?_ ?_ ?_ ?_ ?_ ?_ ?a42 ?l42 ?e42 ?k42 ?z_abs ?z_len ?z_any ?z_min ?z_list ?z_reversed ?z_zip ?z_sorted ?z_set ?z_range ?z_dict ?z_sum ?z_tuple ?z_max ?z_isinstance ?z_bool ?z_int ?ca_NO_WAY ?cl_NO_WAY (aAU.mpr rfl) K31.truth
  all_goals first|(refine' DL.a1t ?a ?l ?c ?k;(case a=>k_is);(case l=>k_is);(case c=>k_is);(case k=>k_is))|(refine' DL.bz ?a ?l ?c ?k rfl ?n;(case a=>k_is);(case l=>k_is);(case c=>k_is);(case k=>k_is);(case n=>kernel_rfl))|k_is|skip
end
