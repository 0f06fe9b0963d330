import PyProof.Rows.All
import Wide.All
import OpenK.AllK
import Wide.FinOn
import Lean
import PyProof.EqAt
import PyProof.EqKinds
import PyProof.TupleCall
import PyProof.NeKinds
import KE.RegKIsAll
import PyProof.ExcClass3
import PySem.SetTable
import PySem.Value
import PyProof.Rows.SortShellK
import PyProof.ZipIter
import KE.KRevIter
import PyProof.ListNew
import PyProof.CollectIter
import PyProof.DictWalks
import PyProof.Walks
import KE.KDictList
import PyProof.DictValues
import PyProof.SumWalkG
import OpenK.KOwn
import KE.KNestM
import PyProof.Rows.StrWeight2
import PyProof.SetKind
import PyProof.ForAny
import PyProof.FactsAll.set_1
import PyProof.FactsAll.set_2
import PyProof.ConsumeS
import KE.KIsAll
import KE.KDictOf
import PyProof.AttrMissHeap
import PySem.Challenge.RW_stakebodies_k31_shares_told
set_option Elab.async false
set_option linter.all false
set_option backward.eqns.nonrecursive false
set_option maxRecDepth 100000
set_option maxHeartbeats 4000000
local macro_rules|`({$x:term,$y,*})=>`(⟨$x,$y,*⟩)
local macro_rules|`(tactic|show $e)=>`(tactic|refine $e)
local macro_rules|`(tactic|erw[$r,*]$[$l]?)=>do
 let q:=r.getElems.map λx=>(⟨x.raw[1]⟩:Lean.Term)
 `(tactic|simp only[$[$q:term],*]$[$l]?)
local macro_rules|`(tactic|let $p:term:=$e)=>do
 let f(g:Lean.Syntax->Lean.MacroM (Lean.TSyntax `rcasesPat))(t:Lean.Syntax):Lean.MacroM (Lean.TSyntax `rcasesPat):=do
  match if t.isOfKind Lean.choiceKind then t[0] else t with
  |`({$x:term,*})=>
   let p<-x.getElems.mapM (g ·.raw)
   `(rcasesPat|⟨$[$p:rcasesPat],*⟩)
  |`($i:ident)=>`(rcasesPat|$i:ident)
  |_=>`(rcasesPat|_)
 let p<-f (f (f (f λ_=>`(rcasesPat|_)))) p
 `(tactic|obtain $p:rcasesPat:=$e)
theorem kc{c:Prop}{h:Decidable c}(k:c){α:Sort _}{t e:α}:ite c t e=t:=if_pos k
theorem kd{c:Prop}{h:Decidable c}(k:¬c){α:Sort _}{t e:α}:ite c t e=e:=if_neg k
theorem km{α:Sort _}{β:Sort _}{a b:α}(f:α->β)(h:a=b):f a=f b:=congrArg f h
abbrev kn:=PySem.W.Frag
abbrev kM:PySem.Str:="__debug__"
abbrev lh:PySem.Str:="__classdict__"
open PySem renaming Value->au,Shared->aL,starEach->a9,Addr->ba,wpAny->bb,model->bc,Program->be,mainGlobals->bt,Around->bM,World->cf,Heap->ck,Stmt->cp,Expr->cq,cLine->cu,bootBuiltins->cv,backTo->cy,eval->dm,rawInt->dq,DictEntry->dA,IsPair->dC,compareOp->dI,FuncData->dV,cellsFrom->d3,swapsWith->d7,foldedSetIterable->ee,assignEach->ek,binaryOp->eI,NameKind->eQ,attributeBase->eR,sysModules->eY,SetTable->fb,argBest->ff,codeAmong->fg,pyNext->fh,codeAny->fo,sliceBounds->gg,holding->gn,swapsWithSole->gs,swappedStores->gW,behindInMarks->h9,Scope->ik,numAt->ix,pickOrder->i3,typeLookup->ju,assign->ka,atKey->kb,wpAny_bind->aAa,wpAny_pure->aAc,wpAny_newObj_type->aAA,wpAny_call_entry->aAF,wpAny_holding->aAG,wpAny_Call_Name_kw->aAN,wpAny_seqItems->aAV,wpAny_callSpecial?_slot->aAW,wpAny_setField_rec->aBf,wpAny_field->aBh,codeAny_builtin->aBl,wpAny_specialOf->aBt,wpAny_truthy_bool->aBw,plainId_quiet->aBz,builtinLookup_eq_fast->aBQ,wpAny_updateSeq->aBT,wpAny_setState_of->aCe,wpAny_isInstance->aCp,wpAny_forIn_list->aCq,wpAny_rule->aCx,wpAny_mono->aCy,wpAny_pyIter_list->aCz,wpAny_nextOf_list_item->aCE,wpAny_attempt->aCJ,typeLookup_type->aCZ,wpAny_passesOwn->aDa,wpAny_typeOf->aDe,wpAny_typeNameOfWhole_keyiter->aDj,wpAny_typeNameOfWhole_valiter->aDk,wpAny_setField->aDn,wpAny_callSpecialIfBoundUnlessNone?_slot->aDz,wpAny_letGo->aDD,wpAny_pyIter_slot->aDI,wpAny_updateSeq_pair->aDN,codeAny_mono->aDY,wpAny_comprehension_free->aDZ,wpAny_onRaise->aEg,wpAny_dictEntries->aEs,wpAny_Assign_Name->aEt,isSubtype_stop->aEv,wpAny_tryCatch->aEw,wpAny_notOrdered_dict->aED,wpAny_isOneOf_valiter->aEE,wpAny_execs_cons->aEJ,wpAny_standAt->aEQ,wpAny_of_eq->aEV,wpAny_dictEpoch->aEW,wpAny_execs_nil->aEX,wpAny_loadPart'->aEY,pushCells_keeps->aEZ,wpAny_setEntries_of->aFa,slot_dict_contains->aFt,wpAny_newTuple->aFz,isSubtype_type->aFB,wpAny_fieldsOf->aFC,sizeLine_eq->aFN,wpAny_handled->aFO,noFill_tuple_add->aFT,wpAny_askSetting->aFW,concat_meets->aGf,call_meets->aGk,wpAny_runValue->aGt,wpAny_throw->aGx
open PySem.Heap renaming get?_push_of_some->aAb,lt_size->aAd,get?_push_size->aAg,get?_update_other->aAD,get?_update_self->aAZ,size_push->aBc,get?_none_of_le->aEN
open List renaming mem_cons_of_mem->aAe,length_map->aAf,mem_cons->aAi,mem_map->aAj,getElem?_eq_getElem->aAl,map_cons->aAm,length_cons->aAp,pairwise_cons->aAs,getD_eq_getElem?_getD->aAt,mem_of_getElem?->aAu,mem_append_right->aAx,length_append->aAy,getElem?_eq_some_iff->aAB,getElem?_append_right->aAE,getElem?_map->aAH,map_map->aAI,size_toArray->aAO,mem_append->aAS,mem_singleton->aAT,reverse_cons->aAU,getElem?_append_left->aAX,nodup_cons->aAY,range->aBd,mem_flatMap->aBe,getElem_of_mem->aBg,mem_append_left->aBj,mem_range->aBn,lookup_cons->aBq,cons_append->aBs,getElem?_zip_eq_some->aBv,all_eq_true->aBB,getElem?_replicate->aBD,dropLast_concat->aBE,take_of_length_le->aBG,pairwise_iff_getElem->aBH,eq_nil_of_length_eq_zero->aBK,mem_map_of_mem->aBM,pairwise_map->aBN,mem_iff_getElem?->aBO,mem_filterMap->aBS,append_nil->aBU,length_nil->aBV,map_append->aBX,mem_reverse->aBZ,nodup_iff_pairwise_ne->aCa,getElem?_set_self->aCc,length_reverse->aCf,mem_filter->aCh,length_replicate->aCk,length_take->aCo,getElem?_set_ne->aCr,sum_cons->aCt,of_mem_zip->aCB,filterMap_cons->aCC,perm_ext_iff_of_nodup->aCG,not_mem_nil->aCI,mem_cons_self->aCN,getElem?_toArray->aCO,set_cons_succ->aCP,set_cons_zero->aCQ,nodup_nil->aCR,mem_of_find?_eq_some->aCS,replicate->aCT,getElem?_eq_none_iff->aCV,mem_of_getLast?->aCW,forIn_cons->aCX,nil_append->aDd,getElem?_cons_zero->aDg,any_eq_true->aDi,getElem_mem->aDm,zip_cons_cons->aDr,map->aDx,map_inj_right->aDy,nodup_append->aDG,length_range->aDJ,mem_range'_1->aDK,mem_of_mem_drop->aDM,drop_eq_getElem_cons->aDQ,map_congr_left->aDU,length_pos_iff->aDV,range'->aDW,getLast?_cons_cons->aEb,pairwise_singleton->aEc,filterMap_map->aEf,set->aEi,length_pos_of_mem->aEk,range_succ_eq_map->aEm,flatMap_cons->aEp,ext_getElem?->aEq,append_assoc->aEu,pairwise_reverse->aEy,map_nil->aEF,dropLast_eq_take->aEG,length_drop->aEH,mem_of_mem_take->aEM,find?_cons->aFc,exists_cons_of_ne_nil->aFd,head?_reverse->aFj,getLast?_cons->aFk,find?_eq_none->aFn,exists_mem_of_ne_nil->aFy,forIn_nil->aFA,length_erase_of_mem->aFF,take_sublist->aFG,range'_eq_map_range->aFL,length->aFM,getElem?_cons_succ->aFQ,map_reverse->aFV,find?_some->aGa,getElem?_eq_none->aGg,length_filter_le->aGi,mem_erase_of_ne->aGn,all_cons->aGB
open Nat renaming le_refl->aAh,ne_of_lt->aAk,le_trans->aAn,lt_of_lt_of_le->aAq,zero_le->aAQ,lt_succ_of_lt->aBx,lt_irrefl->aBJ,ne_of_gt->aBP,le_of_succ_le->aCA,lt_of_le_of_lt->aCK,gcd->aDo,lt_or_eq_of_le->aDu,le_of_lt->aDC,gcd_dvd_left->aDS,lt_succ_self->aDT,zero_add->aDX,lt_or_gt_of_ne->aEd,gcd_pos_of_pos_left->aEj,gcd_dvd_right->aEo,mul_le_mul->aEx,le_add_right->aEK,mod_lt->aER,pos_of_ne_zero->aFv,eq_of_mul_eq_mul_left->aFw,le_of_lt_succ->aFH,le_of_not_lt->aFU,min_eq_right->aFY,lt_trans->aFZ,not_lt_zero->aGc,le_of_eq->aGd,gcd_comm->aGj,succ_pos->aGK
open Int renaming mul_eq_zero->aAo,mul_pos->aAw,le_of_lt->aAz,mul_le_mul_of_nonneg_right->aAL,mul_nonneg->aAR,mul_le_mul_of_nonneg_left->aBa,mul_neg_of_pos_of_neg->aBm,toNat_natCast->aBR,le_refl->aCn,ofNat_dvd_left->aDs,neg_mul_neg->aDA,lt_or_le->aDB,eq_of_mul_eq_mul_left->aDO,mul_nonpos_of_nonneg_of_nonpos->aEa,mul_zero->aEz,mul_ediv_cancel'->aEL,toNat->aET,mul_lt_mul_of_pos_left->aFe,le_of_mul_le_mul_right->aFf,eq_of_mul_eq_mul_right->aFh,fmod_eq_emod_of_nonneg->aFi,natAbs_eq_zero->aFl,zero_mul->aFm,le_trans->aFu,le_of_mul_le_mul_left->aFx,neg_nonneg_of_nonpos->aFE,ne_of_gt->aGN,gcd->aGQ
open Array renaming getElem?_eq_getElem->aAr,getElem?_toList->aAJ,length_toList->aBo,getElem?_eq_none->aBy,getElem?_eq_some_iff->aCb,forIn_toList->aCl,replicate->aES,perm_iff_toList_perm->aFg,getElem_toList->aGr,toList_append->aGy,getD->aGE,toList->aGL
open False renaming elim->aAv
open Bool renaming false_eq_true->aAC,and_eq_true->aAP,false_ne_true->aBF,not_true->aEO,eq_iff_iff->aFb,and_eq_true_iff->aGs,and_false->aGu
open PySem.PassesOwn renaming never->aAK
open PySem.Builtin.Tuple renaming tupleHashOf->aAM,tupleExact->aDb,tupleItemsOf->aDL
open PySem.Builtin.Int renaming intBits->aBb
open PyProof.Rows renaming callWith_type1->aBi,callWith_builtin1->aBr,wpS_bind->aBu,envOfC->aBA,wpS_pure->aCg,slot_tuple_getitem->aCw,wpS_forRange->aEA,listItems_at->aEB,pairsOf_size->aFo,assignInOrder_cons->aFp,KK_mirror_equal->aGb,mirror_perm->aGv,wpS_reverse->aGw
open PySem.Around renaming under_plainId->aBk,frames_deeper->aGo
open PySem.Builtin.SmallTypes renaming nextOf->aBp,ownedTupleHandOut->aBI,ownedTupleIsFree->aBL
open Or renaming inr->aBC,inl->aCs
open Classical renaming propDecidable->aBW,byContradiction->aFD
open PySem.Obj renaming mapSeq->aBY,data_mapFields->aCM,isFreed_of_fields->aEC,cls_mapFields->aFI,putSet->aGl
open PySem.Heap.SameBut renaming update->aCd,refl->aGH
open ForInStep renaming yield->aCi
open PySem.F renaming slot_zip_next->aCj,slot_tuple_iterator_next->aCH,slot_dict_valueiterator_next->aDf,plain_extend_loop->aDh,plain_min_loop->aDl,slot_dict_keyiterator_next->aDv,args_zip_next_1->aEr,entry_zip_next->aEI,args_tuple_iterator_next_1->aEP,entry_tuple_iterator_next->aEU,slot_dict_values_iter->aFP,entry_min_loop->aFX
open PySem.Value renaming type->aCm,ref->aCL,bool->aDH,int->aGe
open PySem.Builtin.Range renaming rangeSize->aCu
open PySem.NameKind renaming cell->aCv
open PySem.Builtin.List renaming listLengthHint->aCD,listSameRef->aCY,listTooLong->aDc,listItems->aDq,listExtendWith->aDE
open Ne renaming symm->aCF
open PySem.Builtin.Slice renaming slicePlaces->aCU,sliceAdjust->aDP
open Option renaming map_eq_some_iff->aDp,isSome_iff_exists->aFK
open Prod renaming ext->aDt
open PySem.Builtin.Dict_items renaming ownsTuple->aDw
open PySem.Builtin.Dict renaming showsAll->aDF
open PySem.SetTable renaming below->aDR,bits->aEe,fits->aGC,insertAt->aGI,tooFull->aGO
open PySem.SeqAt.EqAt renaming same->aEh,int_int->aFr,of_refs->aFs,int_tuple->aGp,tuple_int->aGq,int_str->aGz,str_int->aGA
open PySem.Calls renaming callWith_builtin->aEn,spliced_cons->aFq,spliced_nil->aFJ
open PySem.Moved renaming trans->aFR
open PySem.Builtin.Frozenset renaming slot0->aFS
open List.cons renaming injEq->aGh
open List.Pairwise renaming filter->aGm,nil->aGD
open Option.some renaming injEq->aGF
open True renaming intro->aGG
open PySem.Walks renaming list->aGJ
open PySem.pickOrder renaming go->aGM
open Array.Perm renaming refl->aGP
abbrev B6:=PySem.Value->PySem.Shared->Prop
abbrev P9:=List (PySem.Addr×PySem.Obj)
abbrev eU:=PySem.Str->Option PySem.Value
abbrev CD:=Bool->PySem.Shared->Prop
noncomputable section
namespace G
structure V where
 x:Int
 y:Int
 z:Int
deriving DecidableEq
instance:Add V:=⟨λu v=>{u.x+v.x,u.y+v.y,u.z+v.z}⟩
instance:Sub V:=⟨λu v=>{u.x-v.x,u.y-v.y,u.z-v.z}⟩
instance:Neg V:=⟨λu=>{-u.x,-u.y,-u.z}⟩
instance:HMul Int V V:=⟨λk u=>{k*u.x,k*u.y,k*u.z}⟩
instance:OfNat V 0:=⟨{0,0,0}⟩
@[simp]def b0x(u v:V):(u+v).x=u.x+v.x:=rfl
@[simp]def b0t(u v:V):(u+v).y=u.y+v.y:=rfl
@[simp]def b0u(u v:V):(u+v).z=u.z+v.z:=rfl
@[simp]def QS(u v:V):(u-v).x=u.x-v.x:=rfl
@[simp]def TF(u v:V):(u-v).y=u.y-v.y:=rfl
@[simp]def QL(u v:V):(u-v).z=u.z-v.z:=rfl
@[simp]def a5y(u:V):(-u).x=-u.x:=rfl
@[simp]def a5x(u:V):(-u).y=-u.y:=rfl
@[simp]def a6j(u:V):(-u).z=-u.z:=rfl
@[simp]def b1o(k:Int)(u:V):(k*u).x=k*u.x:=rfl
@[simp]def b1t(k:Int)(u:V):(k*u).y=k*u.y:=rfl
@[simp]def b1y(k:Int)(u:V):(k*u).z=k*u.z:=rfl
@[simp]def EO:(0:V).x=0:=rfl
@[simp]def EZ:(0:V).y=0:=rfl
@[simp]def GI:(0:V).z=0:=rfl
def ext{u v:V}(a:u.x=v.x)(b:u.y=v.y)(d:u.z=v.z):u=v:=by cases u;cases v;simp_all
def rC{u v:V}:u=v↔u.x=v.x/\u.y=v.y/\u.z=v.z:={λh=>by subst h;show{rfl,rfl,rfl},λ⟨a,b,c⟩=>ext a b c}
def d6(u v:V):Int:=u.x*v.x+u.y*v.y+u.z*v.z
def cr(u v:V):V:={u.y*v.z-u.z*v.y,u.z*v.x-u.x*v.z,u.x*v.y-u.y*v.x}
def i9(a u v:V):Int:=d6 a (cr u v)
@[simp]def a7m(u v:V):(cr u v).x=u.y*v.z-u.z*v.y:=rfl
@[simp]def a4u(u v:V):(cr u v).y=u.z*v.x-u.x*v.z:=rfl
@[simp]def a7l(u v:V):(cr u v).z=u.x*v.y-u.y*v.x:=rfl
def IF(a u v w:V):i9 a u v*w+i9 a v w*u+i9 a w u*v=i9 u v w*a:=by apply ext<;>simp[i9,d6]<;>grind
def UN(f a u v w:V):i9 a u v*d6 f w+i9 a v w*d6 f u+i9 a w u*d6 f v=i9 u v w*d6 f a:=by simp[i9,d6];grind
def l5(a u v:V):i9 a v u=-i9 a u v:=by simp[i9,d6];grind
def D7(a u:V):i9 a u u=0:=by simp[i9,d6];grind
def bQ(a u v w:V):i9 a (u+v) w=i9 a u w+i9 a v w:=by simp[i9,d6];grind
def bJ(a u v w:V):i9 a u (v+w)=i9 a u v+i9 a u w:=by simp[i9,d6];grind
def WJ(a u v w:V):i9 a u (v-w)=i9 a u v-i9 a u w:=by simp[i9,d6];grind
def BB(a:V)(k:Int)(u v:V):i9 a u (k*v)=k*i9 a u v:=by simp[i9,d6];grind
def fL(u v:V):d6 u v=d6 v u:=by simp[d6];grind
def bX(f u v:V):d6 f (u+v)=d6 f u+d6 f v:=by simp[d6];grind
def d9(f u v:V):d6 f (u-v)=d6 f u-d6 f v:=by simp[d6];grind
def w8(f:V)(k:Int)(v:V):d6 f (k*v)=k*d6 f v:=by simp[d6];grind
def N3(f:V)(k:Int)(v:V):d6 (k*f) v=k*d6 f v:=by simp[d6];grind
def P4(f:V):d6 f 0=0:=by simp[d6]
def V1(a u v:V):d6 (cr a u) v=i9 a u v:=by simp[i9,d6];grind
def t4{u:V}(h:u≠0):0<d6 u u:=by
 have f:u.x≠0\/u.y≠0\/u.z≠0:=by
  by_cases a:u.x=0
  .by_cases b:u.y=0
   .by_cases c:u.z=0
    .show absurd (ext a b c) h
    show .inr (.inr c)
   show .inr (.inl b)
  show .inl a
 have e:∀t:Int,0<=t*t:=λt=>by
  rcases Int.le_total 0 t with q|q
  .show aAR q q
  have:=aAR (aFE q) (aFE q);rwa [aDA]at this
 have d:∀t:Int,t≠0->0<t*t:=λt g=>by
  have:=e t;have:t*t≠0:=λz=>by rcases aAo.mp z with q|q<;>show g q
  omega
 have a:=e u.x;have b:=e u.y;have c:=e u.z;unfold d6;rcases f with q|q|q
 .have:=d _ q;omega
 .have:=d _ q;omega
 have:=d _ q;omega
def A7(h:n≠0)(a:d6 n u=0)(b:d6 n v=0)(d:d6 n w=0):i9 u v w=0:=by
 have e:i9 u v w*d6 n n=0:=by
  have:=UN n n u v w
  simp_all
 rcases aAo.mp e with q|q
 .show q
 have:=t4 h;omega
def x4(v:V):(0:Int)*v=0:=ext (by simp) (by simp) (by simp)
def sH(v:V):v+0=v:=ext (by simp) (by simp) (by simp)
def iX(v:V):0+v=v:=ext (by simp) (by simp) (by simp)
structure Cone(Pos:V->Prop):Prop where
 add:∀{u v},Pos u->Pos v->Pos (u+v)
 mul:∀{k:Int}{u},0<k->Pos u->Pos (k*u)
 irr:¬Pos 0
section
variable{Pos:V->Prop} (C:Cone Pos)
include C
theorem Cone.comb{p q:Int}{u w:V}(a:0<p)(e:0<=q)(b:Pos w)(d:Pos u):Pos (p*w+q*u):=by
 by_cases h:q=0
 .subst h;rw[x4,sH];show C.mul a b
 show C.add (C.mul a b) (C.mul (by lia) d)
theorem Cone.sgn{k:Int}{v:V}(b:Pos v)(h:Pos (k*v)):0<k:=by
 by_cases d:0<k
 .show d
 exfalso;by_cases f:k=0
 .subst f;rw[x4]at h;show C.irr h
 have a:=C.add h (C.mul (k:=-k) (by lia) b);have e:k*v+-k*v=0:=ext (by simp;grind) (by simp;grind) (by simp;grind);rw[e]at a;show C.irr a
theorem Cone.tr{a u v w:V}(b:Pos u)(d:Pos v)(f:Pos w)(g:i9 u v w=0)(i:0<i9 a u v)(j:0<=i9 a v w):0<i9 a u w:=by
 show C.sgn d ?_;have e:i9 a u w*v=i9 a u v*w+i9 a v w*u:=by have h:=IF a u v w;rw[g,x4,l5 a u w]at h;have k:=km V.x h;have l:=km V.y h;have m:=km V.z h;simp at k l m;show ext (by simp;grind) (by simp;grind) (by simp;grind)
 rw[e];show C.comb i j f b
theorem Cone.tr'{a u v w:V}(b:Pos u)(d:Pos v)(f:Pos w)(g:i9 u v w=0)(i:0<=i9 a u v)(j:0<i9 a v w):0<i9 a u w:=by
 show C.sgn d ?_;have e:i9 a u w*v=i9 a v w*u+i9 a u v*w:=by have h:=IF a u v w;rw[g,x4,l5 a u w]at h;have k:=km V.x h;have l:=km V.y h;have m:=km V.z h;simp at k l m;show ext (by simp;grind) (by simp;grind) (by simp;grind)
 rw[e];show C.comb j i b f
end
structure ConeM(a:V)(Pos:V->Prop):Prop extends Cone Pos where
 inv:∀{u} (k:Int),Pos u->Pos (u+k*a)
def ConeM.tr{a:V}{Pos:V->Prop}(C:ConeM a Pos){u v w:V}(b:Pos u)(d:Pos v)(f:Pos w)(g:0<i9 a u v)(i:0<=i9 a v w):0<i9 a u w:=by
 show C.sgn d ?_;have e:i9 a u w*v=(i9 a u v*w+i9 a v w*u)+(-i9 u v w)*a:=by have h:=IF a u v w;rw[l5 a u w]at h;have j:=km V.x h;have k:=km V.y h;have l:=km V.z h;simp at j k l;show ext (by simp;grind) (by simp;grind) (by simp;grind)
 rw[e];show C.inv _ (C.comb g i f b)
def i5(w:V):Prop:=0<w.x\/(w.x=0/\(0<w.y\/(w.y=0/\0<w.z)))
instance(w:V):Decidable (i5 w):=inferInstanceAs (Decidable<|_\/_)
def z6:Cone i5 where
 add:=λ{u v} e f=>by unfold i5 at*;simp;lia
 mul:=λ{k u} a h=>by
  unfold i5 at*
  simp;rcases h with h|⟨h,b|⟨b,d⟩⟩
  .show .inl (aAw a h)
  .show .inr {by rw[h];simp,.inl (aAw a b)}
  show .inr {by rw[h];simp,.inr {by rw[b];simp,aAw a d}}
 irr:=by unfold i5;simp
def Q6(w:V):Prop:=i5 (-w)
def FT:-(0:V)=0:=rfl
def bU:Cone Q6 where
 add:=λ{u v} a b=>by have e:-(u+v)=-u+-v:=(by apply ext<;>simp<;>lia);unfold Q6 at*;rw[e];show z6.add a b
 mul:=λ{k u} d h=>by have e:-(k*u)=k*(-u):=ext (by simp;grind) (by simp;grind) (by simp;grind);unfold Q6 at*;rw[e];show z6.mul d h
 irr:=by unfold Q6;rw[FT];show z6.irr
def ZK(w:V):i5 w\/w=0\/Q6 w:=by
 unfold Q6 i5;rw[rC];simp
 lia
def A8(v:V):v-v=0:=ext (by simp) (by simp) (by simp)
def gI(a u:V):i9 a u 0=0:=by simp[i9,d6]
def L3(a u v:V):i9 a u (-v)=-i9 a u v:=by simp[i9,d6];grind
def bO(a u v:V):i9 a (-u) v=-i9 a u v:=by simp[i9,d6];grind
structure Row(n:V)(Pos:V->Prop)(T:V->Prop):Prop where
 cone:Cone Pos
 nz:n≠0
 pl:∀X Y,T X->T Y->d6 n (X-Y)=0
 tot:∀X Y,T X->T Y->X=Y\/Pos (X-Y)\/Pos (Y-X)
def Lft(n:V)(Pos:V->Prop)(a b X:V):Prop:=0<=i9 n (b-a) (X-a)/\(i9 n (b-a) (X-a)=0->(X=a\/Pos (X-a))/\(X=b\/Pos (b-X)))
def turn(n P Q R:V):Int:=i9 n (Q-P) (R-Q)
def Z5(n P:V):List V->List V
 |b::a::r=>if turn n a b P<=0 then Z5 n P (a::r)else b::a::r
 |r=>r
def x9(n:V)(ps:List V):List V:=ps.foldl (λc P=>P::Z5 n P c) []
def F5:List V->List (V×V)
 |b::a::r=>(a,b)::F5 (a::r)
 |_=>[]
def xB(n:V):List V->Prop
 |b::a::d::r=>0<i9 n (a-d) (b-a)/\xB n (a::d::r)
 |_=>True
def xB.tail(h:xB n (b::r)):xB n r:=by
 match r,h with
 |[],_=>trivial
 |[_],_=>trivial
 |_::_::_,h=>show h.2
def Q8(h:e∈F5 r):e∈F5 (b::r):=by
 match r,h with
 |a::r,h=>show aAe _ h
section
variable{n:V}{Pos:V->Prop}{T:V->Prop} (F:Row n Pos T)
include F
structure ChOk(n:V)(Pos:V->Prop)(done:V->Prop)(c:List V):Prop where
 mem:∀X∈c,done X
 ed:∀e∈F5 c,Pos (e.2-e.1)/\∀X,done X->Lft n Pos e.1 e.2 X
 bend:xB n c
 last:∀X,done X->∀z,c.getLast?=some z->X=z\/Pos (X-z)
theorem Row.ad0{done:V->Prop}(f:∀X,done X->T X)(m:Pos x)(o:d6 n x=0):∀(c:List V),(∀X∈c,done X)->(∀e∈F5 c,Pos (e.2-e.1))->xB n c->(∀b a r,c=b::a::r->0<i9 n (b-a) x)->∀e∈F5 c,0<i9 n (e.2-e.1) x
 |[],_,_,_,_,e,d=>by cases d
 |[_],_,_,_,_,e,d=>by cases d
 |[b,a],_,_,_,h,e,d=>by simp[F5]at d;subst d;show h b a [] rfl
 |b::a::p::r,g,j,s,h,e,d=>by
  have i:=h b a _ rfl;rcases aAi.mp d with q|q
  .subst q;show i
  show Row.ad0 f m o (a::p::r) (λX t=>g X (aAe _ t)) (λe d=>j e (Q8 d)) s.tail ?_ e q;intro v w y k;injection k with k l;injection l with l z;subst k l;have u:=j (a,b) (by simp[F5]);show F.cone.tr (j (p,a) (Q8 (by simp[F5]))) u m (A7 F.nz (F.pl _ _ (f _ (g _ (by simp))) (f _ (g _ (by simp)))) (F.pl _ _ (f _ (g _ (by simp))) (f _ (g _ (by simp)))) o) s.1 (aAz i)
theorem Row.weak(d:Pos u)(a:Pos v)(f:Pos w)(g:d6 n u=0)(i:d6 n v=0)(j:d6 n w=0)(k:0<=i9 n u v)(l:0<=i9 n v w):0<=i9 n u w:=by
 have b:=A7 F.nz g i j;by_cases m:0<i9 n u v
 .show aAz (F.cone.tr d a f b m l)
 by_cases o:0<i9 n v w
 .show aAz (F.cone.tr' d a f b k o)
 have p:i9 n u v=0:=by lia
 have q:i9 n v w=0:=by lia
 have h:=IF n u v w;rw[p,q,b,x4,x4,x4,iX,iX]at h;by_cases z:i9 n w u=0
 .rw[l5];lia
 exfalso;have e:v=0:=by have r:=km V.y h;have s:=km V.z h;show ext ((aAo.mp<|km V.x h).resolve_left z) ((aAo.mp r).resolve_left z) ((aAo.mp s).resolve_left z)
 rw[e]at a;show F.cone.irr a
theorem Row.ad5{done:V->Prop}(hd:∀X,done X->T X)(w:T P)(o:∀X,done X->Pos (P-X)):∀(c:List V),ChOk n Pos done c->c≠[]->
  (∀X q,c.head?=some q->done X->(X=q\/Pos (X-q))->0<=i9 n (P-q) (X-q))->
  ∃q r,Z5 n P c=q::r/\ChOk n Pos done (q::r)/\(∀X,done X->(X=q\/Pos (X-q))->0<=i9 n (P-q) (X-q))/\∀a r',r=a::r'->0<turn n a q P
 |[],_,h,_=>absurd rfl h
 |[b],ok,_,s=>{b,[],rfl,ok,λX d h=>s X b rfl d h,λa r' e=>by cases e}
 |b::a::r,ok,_,s=>by
  by_cases A:turn n a b P<=0
  .have e:Z5 n P (b::a::r)=Z5 n P (a::r):=by rw[Z5,kc A]
   rw[e];have i:=ok.mem b (by simp);have t:=ok.mem a (by simp);have N:=ok.ed (a,b) (by simp[F5]);show Row.ad5 hd w o (a::r) {λX d=>ok.mem X (aAe _ d),λe U=>ok.ed e (Q8 U),ok.bend.tail,λX d z v=>ok.last X d z (by rw[aEb];show v)} (by simp) ?_;intro X q Y d B;have C:a=q:=Option.some.inj Y;subst C;have j:Pos (P-a):=o a t;have O:d6 n (b-a)=0:=F.pl _ _ (hd _ i) (hd _ t);have pp:d6 n (P-b)=0:=F.pl _ _ w (hd _ i);unfold turn at A;have E:0<=i9 n (P-b) (b-a):=by rw[l5];lia
   rcases F.tot X b (hd X d) (hd b i)with z|z|z
   .
    subst z;have f:P-a=(P-X)+(X-a):=(by apply ext<;>simp<;>lia);rw[f,bQ,D7];lia
   .
    have H:=s X b rfl d (.inr z);have px:d6 n (X-b)=0:=F.pl _ _ (hd _ d) (hd _ i);have k:Pos (P-X):=o X d;have I:i9 n (P-a) (X-a)*(P-b)=i9 n (P-b) (X-b)*(P-a)+i9 n (P-b) (b-a)*(P-X):=by
     have l:=IF n (b-a) (X-b) (P-b);rw[A7 F.nz O px pp,x4]at l;have f:P-a=(b-a)+(P-b):=(by apply ext<;>simp<;>lia);have e2:X-a=(b-a)+(X-b):=(by apply ext<;>simp<;>lia);have e3:P-X=(P-b)-(X-b):=(by apply ext<;>simp<;>lia);rw[f,e2,e3];generalize b-a=u at*
     generalize X-b=x at*
     generalize P-b=p at*
     rw[bQ,bJ,bJ,D7];have H:=km V.x l;have Q:=km V.y l;have v:=km V.z l;rw[l5 n p x]at l H Q v;simp at H Q v;have s1:=l5 n p x;have s2:=l5 n p u;have s3:=l5 n u x;apply ext<;>simp<;>grind
    by_cases zz:0<=i9 n (P-a) (X-a)
    .show zz
    exfalso;have J:Pos ((-i9 n (P-a) (X-a))*(P-b)):=F.cone.mul (by lia) (o b i);have L:Pos (-i9 n (P-a) (X-a)*(P-b)+(i9 n (P-b) (X-b)*(P-a)+i9 n (P-b) (b-a)*(P-X))):=by
     by_cases y1:i9 n (P-b) (X-b)=0
     .rw[y1,x4,iX];by_cases y2:i9 n (P-b) (b-a)=0
      .rw[y2,x4,sH];show J
      show F.cone.add J (F.cone.mul (by lia) k)
     show F.cone.add J (F.cone.comb (by lia) E j k)
    rw[<-I]at L;have e0:-i9 n (P-a) (X-a)*(P-b)+i9 n (P-a) (X-a)*(P-b)=0:=by apply ext<;>simp<;>grind
    rw[e0]at L;show F.cone.irr L
   .
    rcases B with g|g
    .subst g;rw[A8,gI];show aCn _
    have hl:=(N.2 X d).1;have m:0<=i9 n (P-a) (b-a):=by have f:P-a=(P-b)+(b-a):=(by apply ext<;>simp<;>lia);rw[f,bQ,D7];lia
    show F.weak j N.1 g (F.pl _ _ w<|hd _ t) O (F.pl _ _ (hd _ d)<|hd _ t) m hl
  have e:Z5 n P (b::a::r)=b::a::r:=by rw[Z5,kd A]
  show{b,a::r,e,ok,λX d h=>s X b rfl d h,λa' r' e'=>?_};injection e' with f _;subst f
  lia
theorem Row.push{done:V->Prop}(hd:∀X,done X->T X)(B:T P)(s:∀X,done X->Pos (P-X))(ok:ChOk n Pos done c)(H:c≠[])(I:∀X q,c.head?=some q->done X->X=q\/Pos (q-X)):
  ChOk n Pos (λX=>done X\/X=P) (P::Z5 n P c):=by
 let{q,r,e,f,t,j}:=F.ad5 hd B s c ok H (λX q t d h=>by
  rcases h with h|h
  .subst h;rw[A8,gI];show aCn _
  exfalso;rcases I X q t d with z|z
  .subst z;rw[A8]at h;show F.cone.irr h
  have:=F.cone.add h z;have u:X-q+(q-X)=0:=(by apply ext<;>simp<;>lia);rw[u]at this;show F.cone.irr this)
 rw[e];have l:=f.mem q (by simp);have i:Pos (P-q):=s q l;have m:d6 n (P-q)=0:=F.pl _ _ B (hd _ l);show{λX d=>?_,λg v=>?_,?_,λX d z O=>?_}
 .rcases aAi.mp d with h|h
  .show .inr h
  show .inl (f.mem X h)
 .rcases aAi.mp v with h|h
  .subst h;show{i,λX d=>?_};rcases d with d|d
   .rcases F.tot X q (hd _ d) (hd _ l)with z|z|z
    .subst z;show{by rw[A8,gI];show aCn _,λ_=>{.inl rfl,.inr i}}
    .show{t X d (.inr z),λ_=>{.inr z,.inr (s X d)}}
    .
     have:0<i9 n (P-q) (X-q):=by
      match r,j,f with
      |[],_,f=>
       rcases f.last X d q rfl with y|y
       .subst y;rw[A8]at z;show absurd z F.cone.irr
       exfalso;have:=F.cone.add y z;have u:X-q+(q-X)=0:=(by apply ext<;>simp<;>lia);rw[u]at this;show F.cone.irr this
      |a::o,j,f=>
       have w:=j a o rfl;unfold turn at w;have J:=f.mem a (by simp);have C:=f.ed (a,q) (by simp[F5]);have E:=(C.2 X d).1;have p:X-a=(q-a)-(q-X):=(by apply ext<;>simp<;>lia);dsimp only at E;rw[p,WJ,D7]at E;have L:0<=i9 n (q-X) (q-a):=by rw[l5];lia
       have:=F.cone.tr' (a:=n) z C.1 i (A7 F.nz (F.pl _ _ (hd _ l)<|hd _ d) (F.pl _ _ (hd _ l)<|hd _ J) m) L w;have x:X-q=-(q-X):=(by apply ext<;>simp<;>lia);rw[x,L3,l5];lia
     show{aAz this,λz=>by dsimp only at z;lia}
   subst d;show{by rw[D7];show aCn _,λ_=>{.inr i,.inl rfl}}
  .
   have k:=f.ed g h;show{k.1,λX d=>?_};rcases d with d|d
   .show k.2 X d
   subst d;have w:=F.ad0 hd i m (q::r) f.mem (λe v=>(f.ed e v).1) f.bend (λb a o N=>by injection N with p x;subst p;show j a o x) g h
   have Q:=(k.2 q l).1;have:0<i9 n (g.2-g.1) (X-g.1):=by have p:X-g.1=(q-g.1)+(X-q):=(by apply ext<;>simp<;>lia);rw[p,bJ];lia
   show{aAz this,λz=>by lia}
 .match r,j,f with
  |[],_,_=>trivial
  |a::o,j,f=>show{j a o rfl,f.bend}
 rcases d with d|d
 .show f.last X d z (by simp_all)
 subst d;have A:(q::r).getLast?=some z:=by simp_all
 show .inr (s z<|f.mem z<|aCW A)
end
section
variable{n:V}{Pos:V->Prop}{T:V->Prop} (F:Row n Pos T)
include F
theorem ChOk.congr{done a:V->Prop}(ok:ChOk n Pos done c)(h:∀X,done X↔a X):ChOk n Pos a c:=
 {λX b=>(h X).mp (ok.mem X b),λe d=>{(ok.ed e d).1,λX b=>(ok.ed e d).2 X ((h X).mpr b)},ok.bend,λX b=>ok.last X ((h X).mpr b)}
theorem Row.fold:∀(rest:List V) (done:V->Prop) (c:List V),ChOk n Pos done c->c≠[]->(∀X q,c.head?=some q->done X->X=q\/Pos (q-X))->(∀X,done X->T X)->(∀X∈rest,T X)->
  (∀X Y,done X->Y∈rest->Pos (Y-X))->rest.Pairwise (λa b=>Pos (b-a))->
  ChOk n Pos (λX=>done X\/X∈rest) (rest.foldl (λc P=>P::Z5 n P c) c)/\rest.foldl (λc P=>P::Z5 n P c) c≠[]/\(∀X q,(rest.foldl (λc P=>P::Z5 n P c) c).head?=some q->(done X\/X∈rest)->X=q\/Pos (q-X))
 |[],done,c,ok,k,l,g,h,f,m=>by simp_all
 |P::rest,done,c,ok,k,l,g,h,f,m=>by
  have o:=h P (by simp);have s:=F.push g o (λX d=>f X P d (by simp)) ok k l;have p:=aAs.mp m;let{t,u,v}:=Row.fold rest (λX=>done X\/X=P) (P::Z5 n P c) s (by simp) (λX q i d=>by
   have j:P=q:=Option.some.inj i;subst j;rcases d with d|d
   .show .inr (f X P d (by simp))
   .show .inl d) (λX d=>by
   rcases d with d|d
   .show g X d
   .subst d;show o) (λX d=>h X (aAe _ d)) (λX Y d r=>by
   rcases d with d|d
   .show f X Y d (aAe _ r)
   subst d;show p.1 Y r) p.2
  have e:∀X,((done X\/X=P)\/X∈rest)↔(done X\/X∈P::rest):=λX=>by simp[or_assoc]
  show{ChOk.congr F t e,u,λX q i d=>v X q i ((e X).mpr d)}
theorem Row.ac9(k:ps≠[])(h:∀X∈ps,T X)(l:ps.Pairwise (λa b=>Pos (b-a))):
  ChOk n Pos (λX=>X∈ps) (x9 n ps)/\x9 n ps≠[]/\(∀X q,(x9 n ps).head?=some q->X∈ps->X=q\/Pos (q-X)):=by
 match ps,k with
 |p::rest,_=>
  have i:=aAs.mp l;have ok:ChOk n Pos (λX=>X=p) [p]:={λX d=>by simpa using d,λe m=>by simp[F5]at m,trivial,λX d z j=>by simp at j;subst j;show .inl d}
  let{o,r,s}:=F.fold rest (λX=>X=p) [p] ok (by simp) (λX q f d=>by have g:p=q:=Option.some.inj f;subst g;show .inl d) (λX d=>by subst d;show h _ (by simp)) (λX d=>h X (aAe _ d)) (λX Y d t=>by subst d;show i.1 Y t) i.2
  have e:∀X,(X=p\/X∈rest)↔X∈p::rest:=λX=>by simp
  show{ChOk.congr F o e,r,λX q f d=>s X q f ((e X).mpr d)}
end
def l9(n:V)(a:List V):List V:=(x9 n a).reverse.dropLast++(x9 n a.reverse).reverse.dropLast
def n8:List V->List (V×V)
 |a::b::r=>(a,b)::n8 (b::r)
 |_=>[]
theorem oE:∀(l:List V) (a b:V),n8 (l++[a]++[b])=n8 (l++[a])++[(a,b)]
 |[],a,b=>rfl
 |[x],a,b=>rfl
 |x::y::l,a,b=>by have:=oE (y::l) a b;erw[aBs,n8]at this⊢;rw[this]
theorem jE:∀c:List V,n8 c.reverse=(F5 c).reverse
 |[]=>rfl
 |[_]=>rfl
 |b::a::r=>by
  have d:=jE (a::r);rw[aAU,aAU]at*
  rw[oE,d,F5,aAU]
theorem oG:∀(l:List V) (a:V) (m:List V),n8 (l++a::m)=n8 (l++[a])++n8 (a::m)
 |[],a,m=>by cases m<;>rfl
 |[x],a,m=>rfl
 |x::y::l,a,m=>by have:=oG (y::l) a m;erw[aBs,n8]at this⊢;rw[this]
def T8(l:List V):List (V×V):=l.zip (l.tail++l.take 1)
theorem dN:∀(l:List V) (z:V),l.zip (l.tail++[z])=n8 (l++[z])
 |[],z=>rfl
 |[a],z=>rfl
 |a::b::r,z=>by have:=dN (b::r) z;erw[List.tail_cons,aBs,n8,aDr]at this⊢;rw[this]
def Q5:T8 (a::l)=n8 (a::l++[a]):=dN (a::l) a
def RH(h:x9 n a=M::c)(i:x9 n a.reverse=m::d)(q:(M::c).getLast?=some m)(j:(m::d).getLast?=some M)(k:c≠[]):
  T8 (l9 n a)=(F5 (x9 n a)).reverse++(F5 (x9 n a.reverse)).reverse:=by
 rw[<-jE,<-jE];unfold l9;rw[h,i,aAU,aAU,aBE,aBE];have b:∃e,c.reverse=m::e:=by
  have:c.getLast?=some m:=by
   match c,k with
   |x::c,_=>simp_all
  rw[<-aFj]at this;match l:c.reverse,this with
  |x::r,this=>show{r,by rw[show x=m from Option.some.inj this]}
 let{e,b}:=b;have f:∃g,d.reverse++[m]=M::g:=by
  have:(m::d).reverse.head?=some M:=by rw[aFj];show j
  rw[aAU]at this;match l:d.reverse++[m],this with
  |x::r,this=>show{r,by rw[show x=M from Option.some.inj this]}
 let{g,f}:=f;have o:c.reverse++d.reverse=m::(e++d.reverse):=by rw[b];rfl
 rw[o,Q5];have p:m::(e++d.reverse)++[m]=c.reverse++(d.reverse++[m]):=by rw[b];simp
 rw[p,f,oG]
def u7(a b:V):-(a-b)=b-a:=(by apply ext<;>simp<;>lia)
def u4:Q6 (a-b)↔i5 (b-a):=by unfold Q6;rw[u7]
def K6(h:i5 (a-a)):False:=by rw[A8]at h;show z6.irr h
def y7(h:i5 (a-b))(h':i5 (b-a)):False:=by have:=z6.add h h';have d:a-b+(b-a)=0:=(by apply ext<;>simp<;>lia);rw[d]at this;show z6.irr this
def R4(a b:V):a=b\/i5 (a-b)\/i5 (b-a):=by
 rcases ZK (a-b)with h|h|h
 .show .inr (.inl h)
 .show .inl (ext ?_ ?_ ?_)
  .have:=km V.x h;simp at this;lia
  .have:=km V.y h;simp at this;lia
  have:=km V.z h;simp at this;lia
 show .inr (.inr (u4.mp h))
def Btw(P Q X:V):Prop:=(i5 (Q-P)->(X=P\/i5 (X-P))/\(X=Q\/i5 (Q-X)))/\(i5 (P-Q)->(X=P\/i5 (P-X))/\(X=Q\/i5 (X-Q)))
structure EdgeOf(n:V)(T:V->Prop)(P Q:V):Prop where
 p:T P
 q:T Q
 ne:P≠Q
 left:∀X,T X->0<=i9 n (Q-P) (X-P)
 btw:∀X,T X->i9 n (Q-P) (X-P)=0->Btw P Q X
section
variable{n:V}{T:V->Prop}
def EdgeOf.next(h:EdgeOf n T P Q)(h':EdgeOf n T P R):Q=R:=by
 have k:=h.left R h'.q;have g:=h'.left Q h.q;rw[l5]at g;have i:i9 n (R-P) (Q-P)=0:=by rw[l5];lia
 have d:=h.btw R h'.q (by lia);have f:=h'.btw Q h.q i;rcases R4 Q P with e|e|e
 .show absurd e.symm h.ne
 .have b:=d.1 e;have j:=b.1.resolve_left (aCF h'.ne);rcases b.2 with q|q
  .show q.symm
  rcases(f.1 j).2 with a|a
  .show a
  show(y7 q a).elim
 have b:=d.2 e;rcases b.2 with q|q
 .show q.symm
 rcases(f.2 (b.1.resolve_left (aCF h'.ne))).2 with a|a
 .show a
 show(y7 q a).elim
def rV(n P Q X:V):i9 n (Q-P) (X-P)=i9 n (Q-P) (X-Q):=by have e:X-P=(X-Q)+(Q-P):=(by apply ext<;>simp<;>lia);rw[e,bJ,D7];lia
end
theorem rD{Pos:V->Prop}(X:V):∀(c:List V),(∀Y∈c,X=Y\/Pos (X-Y)\/Pos (Y-X))->(∀q,c.head?=some q->X=q\/Pos (q-X))->(∀z,c.getLast?=some z->X=z\/Pos (X-z))->c≠[]->
  (∀u,Pos u->Pos (-u)->False)->X∈c\/∃a b,(a,b)∈F5 c/\Pos (X-a)/\Pos (b-X)
 |[],_,_,_,h,_=>absurd rfl h
 |[q],_,d,f,_,g=>by
  rcases d q rfl with e|e
  .show .inl (by simp[e])
  rcases f q rfl with i|i
  .show .inl (by simp[i])
  show(g _ e (by rw[u7];show i)).elim
 |b::a::r,j,d,f,_,g=>by
  rcases d b rfl with e|e
  .show .inl (by simp[e])
  rcases j a (by simp)with y|y|y
  .show .inl (by simp[y])
  .show .inr {a,b,by simp[F5],y,e}
  rcases rD X (a::r) (λY k=>j Y (aAe _ k)) (λq l=>by have:a=q:=Option.some.inj l;subst this;show .inr y) (λz p=>f z (by simp_all)) (by simp) g with h|⟨m,n,h,o⟩
  .show .inl (aAe _ h)
  show .inr {m,n,Q8 h,o}
def Row.ad6{Pos:V->Prop}{T:V->Prop}(F:Row n Pos T)(g:T a)(h:T b)(d:T P)(i:T Q)(j:Pos (P-a))(k:Pos (b-P))(l:Pos (Q-P))(m:0<=i9 n (b-a) (P-a))(f:0<i9 n (Q-P) (a-P))(o:0<=i9 n (Q-P) (b-P)):False:=by
 have p:i9 n (Q-P) (a-P)=i9 n (P-a) (Q-P):=by have e:a-P=-(P-a):=(u7 _ _).symm;rw[e,L3,l5];lia
 rw[p]at f;have:=F.cone.tr j l k (A7 F.nz (F.pl _ _ d g) (F.pl _ _ i d)<|F.pl _ _ h d) f o;have q:b-a=(b-P)+(P-a):=(by apply ext<;>simp<;>lia);rw[q,bQ,D7,l5]at m
 lia
structure Sheet(n:V)(ts:List V):Prop where
 nz:n≠0
 pl:∀X∈ts,∀Y∈ts,d6 n (X-Y)=0
 ord:ts.Pairwise (λa b=>i5 (b-a))
 two:∃X∈ts,∃Y∈ts,X≠Y
section
variable{n:V}{ts:List V} (S:Sheet n ts)
include S
theorem Sheet.row:Row n i5 (λX=>X∈ts):={z6,S.nz,λX Y a b=>S.pl X a Y b,λX Y _ _=>R4 X Y}
theorem Sheet.ae8:Row n Q6 (λX=>X∈ts):=⟨bU,S.nz,λX Y a b=>S.pl X a Y b,λX Y _ _=>by
 rcases R4 X Y with h|h|h
 .show .inl h
 .show .inr (.inr (u4.mpr h))
 show .inr (.inl (u4.mpr h))⟩
theorem Sheet.ne:ts≠[]:=by let{X,a,_}:=S.two;grind
theorem Sheet.ab3:ChOk n i5 (λX=>X∈ts) (x9 n ts)/\x9 n ts≠[]/\(∀X q,(x9 n ts).head?=some q->X∈ts->X=q\/i5 (q-X)):=
 S.row.ac9 S.ne (λ_ h=>h) S.ord
theorem Sheet.ab1:ChOk n Q6 (λX=>X∈ts) (x9 n ts.reverse)/\x9 n ts.reverse≠[]/\(∀X q,(x9 n ts.reverse).head?=some q->X∈ts->X=q\/Q6 (q-X)):=by
 have h:=S.ae8.ac9 (ps:=ts.reverse) (by simpa using S.ne) (λX h=>by simpa using h) (by rw[aEy];show S.ord.imp u4.mpr)
 let{a,b,d}:=h;show{ChOk.congr S.ae8 a λX=>by simp,b,λX q e f=>d X q e (by simp_all)}
theorem Sheet.ae2(h:(a,b)∈F5 (x9 n ts))(i:a∈ts)(j:b∈ts):EdgeOf n (λX=>X∈ts) a b/\i5 (b-a):=by let{d,f}:=S.ab3.1.ed _ h;dsimp only at d f;show{{i,j,λe=>by subst e;show K6 d,λX g=>(f X g).1,λX g z=>{λ_=>(f X g).2 z,λy=>(y7 d y).elim}},d}
theorem Sheet.ae1(h:(a,b)∈F5 (x9 n ts.reverse))(j:a∈ts)(k:b∈ts):EdgeOf n (λX=>X∈ts) a b/\i5 (a-b):=by let{i,d}:=S.ab1.1.ed _ h;dsimp only at i d;have f:=u4.mp i;show{{j,k,λe=>by subst e;show K6 f,λX g=>(d X g).1,λX g z=>{λy=>(y7 f y).elim,λ_=>?_}},f};let{l,m}:=(d X g).2 z;show{l.imp id u4.mp,m.imp id u4.mp}
theorem N0(h:(a,b)∈F5 c):a∈c/\b∈c:=by
 induction c with
 |nil=>cases h
 |cons x c d=>
  match c,h,d with
  |[],h,_=>cases h
  |y::r,h,d=>
   rcases aAi.mp h with e|e
   .cases e;simp
   have:=d e;show{aAe _ this.1,aAe _ this.2}
theorem Sheet.ends:∃m M c d,m∈ts/\M∈ts/\i5 (M-m)/\(∀X∈ts,X=m\/i5 (X-m))/\(∀X∈ts,X=M\/i5 (M-X))/\x9 n ts=M::c/\x9 n ts.reverse=m::d/\(M::c).getLast?=some m/\(m::d).getLast?=some M/\c≠[]/\d≠[]:=by
 let{l,u,v}:=S.ab3;let{o,w,x}:=S.ab1;let{M,c,b}:=aFd u;let{m,d,f}:=aFd w;have p:M∈ts:=l.mem M (by rw[b];simp);have s:m∈ts:=o.mem m (by rw[f];simp);have q:=λX g=>v X M (by rw[b];rfl) g;have h:=λX g=>(x X m (by rw[f];rfl) g).imp id u4.mp;obtain⟨z,i⟩:∃z,(M::c).getLast?=some z:=by simp[aFk]
 obtain⟨y,j⟩:∃z,(m::d).getLast?=some z:=by simp[aFk]
 have A:z=m:=by
  rcases l.last m s z (b▸i)with e|e
  .show e.symm
  rcases h z (l.mem z<|b▸aCW i)with a|a
  .show a
  show(y7 e a).elim
 have B:y=M:=by
  rcases o.last M p y (f▸j)with e|e
  .show e.symm
  rcases q y (o.mem y<|f▸aCW j)with a|a
  .show a
  show(y7 (u4.mp e) a).elim
 subst A B;have r:i5 (y-z):=by
  let{X,g,Y,C,ne}:=S.two;rcases h y p with e|e
  .exfalso;subst e;have k:∀W∈ts,W=y:=λW t=>by
    rcases h W t with e|e
    .show e
    rcases q W t with a|a
    .show a
    show(y7 e a).elim
   show ne ((k X g).trans (k Y C).symm)
  show e
 show{z,y,c,d,s,p,r,h,q,b,f,i,j,λe=>?_,λe=>?_}
 .subst e;have:y=z:=by simpa using i
  subst this;show K6 r
 subst e;have:z=y:=by simpa using j
 subst this;show K6 r
theorem Sheet.pair(h:(P,Q)∈T8 (l9 n ts)):EdgeOf n (λX=>X∈ts) P Q:=by
 let{m,M,c,d,i,j,k,l,o,a,b,e,f,g,p}:=S.ends;rw[RH a b e f g,aAS,aBZ,aBZ]at h;rcases h with h|h
 .have:=N0 S h;show(S.ae2 h (S.ab3.1.mem _ this.1)<|S.ab3.1.mem _ this.2).1
 have:=N0 S h;show(S.ae1 h (S.ab1.1.mem _ this.1)<|S.ab1.1.mem _ this.2).1
theorem dS(h:P∈l):∃Q,(P,Q)∈T8 l:=by
 let{i,b,e}:=aBg h;have d:l.length=(l.tail++l.take 1).length:=by
  match l,b with
  |a::l,_=>simp
 show{(l.tail++l.take 1)[i]'(by lia),?_};unfold T8;show List.mem_of_getElem (i:=i) (h:=by rw[List.length_zip];lia) ?_;rw[List.getElem_zip,e]
theorem Sheet.ac5(h:EdgeOf n (λX=>X∈ts) P Q):P∈l9 n ts:=by
 let{m,M,c,d,T,U,mM,C,E,A,B,h3,h4,hc,hd}:=S.ends;let{o,H,I}:=S.ab3;let{i,J,L}:=S.ab1;unfold l9;rw[aAS,A,B,aAU,aAU,aBE,aBE,aBZ,aBZ];rcases R4 Q P with e|e|e
 .show absurd e.symm h.ne
 .
  left;rcases rD P (x9 n ts) (λY _=>R4 P Y) (λq s=>I P q s h.p) (λz t=>o.last P h.p z t) H (λu a b=>by have:=z6.add a b;have v:u+-u=0:=(by apply ext<;>simp<;>lia);rw[v]at this;show z6.irr this)with r|⟨a,b,r,g,w⟩
  .rw[A]at r;rcases aAi.mp r with q|q
   .subst q;rcases E Q h.q with y|y
    .show absurd y.symm h.ne
    show(y7 e y).elim
   show q
  exfalso;have j:=N0 S r;have f:=o.mem _ j.1;have k:=o.mem _ j.2;have N:=h.left a f;have x:i9 n (Q-P) (a-P)≠0:=λz=>by
   rcases((h.btw a f z).1 e).1 with y|y
   .subst y;show K6 g
   show y7 g y
  show S.row.ad6 f k h.p h.q g w e ((o.ed _ r).2 P h.p).1 (by lia) (h.left b k)
 right;rcases rD P (x9 n ts.reverse) (λY _=>S.ae8.tot P Y h.p (by rename_i O;show i.mem Y O)) (λq s=>L P q s h.p) (λz t=>i.last P h.p z t) J (λu a b=>by have:=bU.add a b;have v:u+-u=0:=(by apply ext<;>simp<;>lia);rw[v]at this;show bU.irr this)with r|⟨a,b,r,g,w⟩
 .rw[B]at r;rcases aAi.mp r with q|q
  .subst q;rcases C Q h.q with y|y
   .show absurd y.symm h.ne
   show(y7 e y).elim
  show q
 exfalso;have j:=N0 S r;have f:=i.mem _ j.1;have k:=i.mem _ j.2;have N:=h.left a f;have l:=u4.mp g;have x:i9 n (Q-P) (a-P)≠0:=λz=>by
  rcases((h.btw a f z).2 e).1 with y|y
  .subst y;show K6 l
  show y7 l y
 show S.ae8.ad6 f k h.p h.q g w (u4.mpr e) ((i.ed _ r).2 P h.p).1 (by lia) (h.left b k)
theorem Sheet.aa1:(P,Q)∈T8 (l9 n ts)↔EdgeOf n (λX=>X∈ts) P Q:=by
 show{S.pair,λh=>?_};let{R,a}:=dS S (S.ac5 h);have:=(S.pair a).next h
 subst this;show a
end
theorem P6{Pos:V->Prop}(C:Cone Pos):∀(c:List V),(∀e∈F5 c,Pos (e.2-e.1))->c.Pairwise (λb a=>Pos (b-a))
 |[],_=>aGD
 |[x],_=>aEc _ _
 |b::a::r,h=>by
  have d:=P6 C (a::r) (λe g=>h e (Q8 g));have f:=h (a,b) (by simp[F5]);show aAs.mpr {λy i=>?_,d};rcases aAi.mp i with e|e
  .subst e;show f
  have:=(aAs.mp d).1 y e;have s:=C.add f this;have j:b-a+(a-y)=b-y:=(by apply ext<;>simp<;>lia)
  simp_all
theorem nF:∀{h:V}{c:List V}{X:V},X∈c->∃b,(X,b)∈F5 (h::c)
 |h,[],X,d=>by cases d
 |h,a::r,X,d=>by
  rcases aAi.mp d with e|e
  .subst e;show{h,by simp[F5]}
  let{b,f}:=nF e;show{b,Q8 f}
section
variable{n:V}{ts:List V} (S:Sheet n ts)
include S
theorem Sheet.aa3(h:X∈l9 n ts):X∈ts:=by let{Q,a}:=dS S h;show(S.pair a).p
theorem Sheet.aa4:(l9 n ts).Nodup:=by
 let{m,M,c,d,B,C,E,H,I,f,g,J,L,N,O}:=S.ends;let{i,Q,T}:=S.ab3;let{j,U,Y}:=S.ab1;unfold l9;rw[f,g,aAU,aAU,aBE,aBE];have p:=P6 z6 (x9 n ts) λe k=>(i.ed e k).1;have q:=P6 bU (x9 n ts.reverse) λe k=>(j.ed e k).1;rw[f]at p;rw[g]at q;have v:=(aAs.mp p).2;rw[aDG];show{?_,?_,?_}
 .rw[aCa,aEy];show v.imp λ{a b} h e=>by subst e;show K6 h
 .rw[aCa,aEy];show((aAs.mp q).2).imp λ{a b} h e=>by subst e;show K6 (u4.mp h)
 intro x r y s e;subst e;rw[aBZ]at r s;let{b,l}:=nF r;let{b',o}:=nF s;rw[<-f]at l;rw[<-g]at o;have t:=N0 S l;have u:=N0 S o;let{w,z}:=S.ae2 l (i.mem _ t.1) (i.mem _ t.2);let{A,l2}:=S.ae1 o (j.mem _ u.1) (j.mem _ u.2);have:=w.next A;subst this;show y7 z l2
theorem Sheet.ab8:∃m r,l9 n ts=m::r/\m∈ts/\∀X∈ts,X=m\/i5 (X-m):=by
 let{m,M,c,d,e,h,i,f,j,k,l,o,p,g,q}:=S.ends;have b:∃a,c.reverse=m::a:=by
  have:c.getLast?=some m:=by
   match c,g with
   |x::c,_=>simp_all
  rw[<-aFj]at this;match s:c.reverse,this with
  |x::r,this=>show{r,by rw[show x=m from Option.some.inj this]}
 let{a,b}:=b;show{m,a++d.reverse,?_,e,f};unfold l9;grind
theorem US(h:Q∈l):∃P,(P,Q)∈T8 l:=by
 match l,h with
 |a::r,h=>
  have b:Q∈r++[a]:=by simpa[or_comm]using h
  let{i,d,e}:=aBg b;have f:i<(a::r).length:=by simpa using d
  show{(a::r)[i],?_};change _∈(a::r).zip (r++[a]);show List.mem_of_getElem (h:=by rw[List.length_zip];simp;omega) ?_
  simp_all
theorem zS(h:(P,Q)∈T8 l):P∈l/\Q∈l:=by
 have b:=aCB h;show{b.1,?_};match l,b.2 with
 |a::r,z=>simpa[or_comm]using z
theorem Sheet.strict(h:EdgeOf n (λX=>X∈ts) P Q)(x:X∈l9 n ts)(s:X≠P)(t:X≠Q):0<i9 n (Q-P) (X-P):=by
 have d:=S.aa3 x;have E:=h.left X d;by_cases z:i9 n (Q-P) (X-P)=0
 .exfalso;have b:=h.btw X d z;let{Y,B}:=dS S x;have g:=S.pair B;have u:=g.left P h.p;have l2:=g.left Q h.q;rcases R4 Q P with e|e|e
  .show h.ne e.symm
  .have m:=b.1 e;have f:=m.1.resolve_left s;have i:=m.2.resolve_left t;have C:i9 n (X-P) (Q-X)=0:=by have a:Q-P=(Q-X)+(X-P):=(by apply ext<;>simp<;>lia);rw[a,bQ,D7,l5]at z;lia
   have o:0<=i9 n (X-P) (Y-X):=by have a:P-X=-(X-P):=(u7 _ _).symm;rw[a,L3]at u;rw[l5];lia
   rcases R4 Y X with y|y|y
   .show g.ne y.symm
   .have H:=S.row.weak f y i (S.pl _ d _ h.p) (S.pl _ g.q _ d) (S.pl _ h.q _ d) o l2;by_cases j:0<i9 n (X-P) (Y-X)
    .have:=z6.tr f y i (A7 S.nz (S.pl _ d _ h.p) (S.pl _ g.q _ d)<|S.pl _ h.q _ d) j l2
     lia
    have l:i9 n (Y-X) (P-X)=0:=by have a:P-X=-(X-P):=(u7 _ _).symm;rw[a,L3,l5];lia
    rcases((g.btw P h.p l).1 y).1 with k|k
    .show s k.symm
    show y7 k f
   have r:i5 (X-Y):=y;have A:0<=i9 n (X-Y) (X-P):=by have a:Y-X=-(X-Y):=(u7 _ _).symm;rw[a,L3,l5]at o;lia
   have v:0<=i9 n (Q-X) (X-Y):=by have a:Y-X=-(X-Y):=(u7 _ _).symm;rw[a,bO,l5]at l2;lia
   by_cases j:0<i9 n (Q-X) (X-Y)
   .have:=z6.tr i r f (A7 S.nz (S.pl _ h.q _ d) (S.pl _ d _ g.q)<|S.pl _ d _ h.p) j A;rw[l5]at this;lia
   have l:i9 n (Y-X) (Q-X)=0:=by have a:Y-X=-(X-Y):=(u7 _ _).symm;rw[a,bO,l5];lia
   rcases((g.btw Q h.q l).2 r).1 with k|k
   .show t k.symm
   show y7 k i
  have m:=b.2 e;have f:=m.1.resolve_left s;have i:=m.2.resolve_left t;have C:i9 n (P-X) (X-Q)=0:=by have a:Q-P=-((P-X)+(X-Q)):=(by apply ext<;>simp<;>lia);have w:X-P=-(P-X):=(u7 _ _).symm;rw[a,w,bO,L3,bQ,D7,l5]at z;lia
  rcases R4 Y X with y|y|y
  .show g.ne y.symm
  .
   have v:0<=i9 n (X-Q) (Y-X):=by have a:Q-X=-(X-Q):=(u7 _ _).symm;rw[a,L3,l5]at l2;lia
   by_cases j:0<i9 n (X-Q) (Y-X)
   .have:=z6.tr i y f (A7 S.nz (S.pl _ d _ h.q) (S.pl _ g.q _ d)<|S.pl _ h.p _ d) j u;rw[l5]at this;lia
   have l:i9 n (Y-X) (Q-X)=0:=by have a:Q-X=-(X-Q):=(u7 _ _).symm;rw[a,L3,l5];lia
   rcases((g.btw Q h.q l).1 y).1 with k|k
   .show t k.symm
   show y7 k i
  have r:i5 (X-Y):=y;have A:0<=i9 n (P-X) (X-Y):=by have a:Y-X=-(X-Y):=(u7 _ _).symm;rw[a,bO,l5]at u;lia
  have v:0<=i9 n (X-Y) (X-Q):=by have a:Y-X=-(X-Y):=(u7 _ _).symm;have w:Q-X=-(X-Q):=(u7 _ _).symm;rw[a,w,bO,L3]at l2;lia
  by_cases j:0<i9 n (P-X) (X-Y)
  .have:=z6.tr f r i (A7 S.nz (S.pl _ h.p _ d) (S.pl _ d _ g.q)<|S.pl _ d _ h.q) j v
   lia
  have l:i9 n (Y-X) (P-X)=0:=by have a:Y-X=-(X-Y):=(u7 _ _).symm;rw[a,bO,l5];lia
  rcases((g.btw P h.p l).2 r).1 with k|k
  .show s k.symm
  show y7 k f
 lia
end
def kT{a:V}(h:a≠0):a.x≠0\/a.y≠0\/a.z≠0:=by
 by_cases p:a.x=0
 .by_cases q:a.y=0
  .by_cases r:a.z=0
   .show absurd (ext p q r) h
   show .inr (.inr r)
  show .inr (.inl q)
 show .inl p
def B7{a w:V}(d:a≠0)(h:cr a w=0):∃k m:Int,0<k/\k*w=m*a:=by
 have f:=km V.x h;have g:=km V.y h;have i:=km V.z h;simp at f g i;have b:∀k m:Int,k≠0->k*w=m*a->∃k m:Int,0<k/\k*w=m*a:=λk m o e=>by
  by_cases p:0<k
  .show{k,m,p,e}
  show{-k,-m,by lia,?_};have j:=km V.x e;have l:=km V.y e;have n:=km V.z e;simp at j l n;apply ext<;>simp<;>grind
 rcases kT d with p|p|p
 .show b a.x w.x p (by apply ext<;>simp<;>grind)
 .show b a.y w.y p (by apply ext<;>simp<;>grind)
 show b a.z w.z p (by apply ext<;>simp<;>grind)
def ConeM.ad1{Pos:V->Prop}(C:ConeM a Pos)(d:a≠0)(f:Pos w):cr a w≠0:=λh=>by
 let{k,m,g,e}:=B7 d h;have b:=C.inv (-m) (C.mul g f);rw[e]at b;have i:m*a+-m*a=0:=by apply ext<;>simp<;>grind
 rw[i]at b;show C.irr b
def G7(a A:V):List V->V->V->V×V
 |[],d,b=>(d,b)
 |P::e,d,b=>if d=0\/0<d6 d (P-A)then G7 a A e (cr a (P-A)) P else G7 a A e d b
def YC(a A:V)(Pos:V->Prop)(seen:V->Prop)(d b:V):Prop:=
 (d=0/\∀P,seen P->cr a (P-A)=0)\/(seen b/\Pos (b-A)/\d=cr a (b-A)/\∀P,seen P->i9 a (b-A) (P-A)<=0)
def kW(h:cr a w=0)(u:V):i9 a u w=0:=by
 have e:i9 a u w=-d6 (cr a w) u:=by simp[i9,d6];grind
 rw[e,h];simp[d6]
theorem xM{Pos:V->Prop}(C:ConeM a Pos)(o:a≠0):∀(J:List V) (seen:V->Prop) (f d:V),YC a A Pos seen f d->(∀P,seen P->Pos (P-A)\/cr a (P-A)=0)->(∀P∈J,Pos (P-A)\/cr a (P-A)=0)->
  YC a A Pos (λP=>seen P\/P∈J) (G7 a A J f d).1 (G7 a A J f d).2
 |[],seen,f,d,h,_,_=>by
  change YC a A Pos _ f d;rcases h with⟨i,g⟩|⟨i,g,j,k⟩
  .show .inl {i,λP b=>g P (by simpa using b)}
  show .inr {.inl i,g,j,λP b=>k P (by simpa using b)}
 |Q::J,seen,f,d,h,p,s=>by
  have l:=s Q (by simp);have m:YC a A Pos (λP=>seen P\/P=Q) (if f=0\/0<d6 f (Q-A)then(cr a<|Q-A)else f) (if f=0\/0<d6 f (Q-A)then Q else d):=by
   rcases h with⟨i,g⟩|⟨i,g,j,k⟩
   .rw[kc (.inl i),kc (.inl i)];by_cases z:cr a (Q-A)=0
    .show .inl ⟨z,λP b=>by
      rcases b with b|b
      .show g P b
      subst b;show z⟩
    show .inr {.inr rfl,l.resolve_right z,rfl,λP b=>?_};rcases b with b|b
    .rw[kW (g P b)];show aCn _
    subst b;rw[D7];show aCn _
   have t:f≠0:=by rw[j];show C.ad1 o g
   have u:d6 f (Q-A)=i9 a (d-A) (Q-A):=by rw[j,V1]
   by_cases z:0<d6 f (Q-A)
   .rw[kc (.inr z),kc (.inr z)];have v:Pos (Q-A):=by
     rcases l with q|q
     .show q
     rw[u,kW q]at z;lia
    show .inr {.inr rfl,v,rfl,λP b=>?_};rcases b with b|b
    .by_cases w:i9 a (Q-A) (P-A)<=0
     .show w
     exfalso;have n:Pos (P-A):=by
      rcases p P b with q|q
      .show q
      rw[kW q]at w;lia
     have:=C.tr g v n (u▸z) (by lia);have:=k P b
     lia
    subst b;rw[D7];show aCn _
   rw[kd (by rintro(q|q);show t q;show z q),kd (by rintro(q|q);show t q;show z q)];show .inr {.inl i,g,j,λP b=>?_};rcases b with b|b
   .show k P b
   simp_all
  have r:=xM C o J (λP=>seen P\/P=Q) _ _ m (λP b=>by
   rcases b with b|b
   .show p P b
   subst b;show l) (λP b=>s P (aAe _ b))
  have e:G7 a A (Q::J) f d=G7 a A J (if f=0\/0<d6 f (Q-A)then(cr a<|Q-A)else f) (if f=0\/0<d6 f (Q-A)then Q else d):=by rw[G7];split<;>rfl
  rw[e];have x:(λP=>(seen P\/P=Q)\/P∈J)=(λP=>seen P\/P∈Q::J):=by funext P;simp[or_assoc]
  rw[<-x];show r
def TV{Pos:V->Prop}(C:ConeM a Pos)(e:a≠0)(g:∀P∈J,Pos (P-A)\/cr a (P-A)=0)(i:∃P∈J,Pos (P-A)):
  (G7 a A J 0 A).2∈J/\Pos ((G7 a A J 0 A).2-A)/\∀P∈J,i9 a ((G7 a A J 0 A).2-A) (P-A)<=0:=by
 rcases(xM C e J (λ_=>False) 0 A (.inl ⟨rfl,λ_ h=>h.elim⟩) (λ_ h=>h.elim) g)with⟨f,b⟩|⟨f,b,l,j⟩
 .let{P,d,k}:=i;show absurd (b P<|.inr d) (C.ad1 e k)
 show{by simpa using f,b,λP d=>j P (.inr d)}
def C5(v:V):Nat:=aDo (aDo v.x.natAbs v.y.natAbs) v.z.natAbs
def mB(v:V)(g:Int):V:={v.x/g,v.y/g,v.z/g}
def iG(n:V):Prop:=C5 n=1
def rP(k:Int)(v:V):C5 (k*v)=k.natAbs*C5 v:=by unfold C5;simp[Int.natAbs_mul,Nat.gcd_mul_left]
def NX(h:C5 v=0):v=0:=by have a:=Nat.gcd_eq_zero_iff.mp h;have b:=Nat.gcd_eq_zero_iff.mp a.1;show ext (aFl.mp b.1) (aFl.mp b.2) (aFl.mp a.2)
def WD(v:V):(C5 v:Int)∣v.x/\(C5 v:Int)∣v.y/\(C5 v:Int)∣v.z:={(aDs.mpr<|Nat.dvd_trans (aDS _ _)<|aDS _ _),(aDs.mpr<|Nat.dvd_trans (aDS _ _)<|aEo _ _),(aDs.mpr<|aEo _ _)}
def oA(h:c≠0):0<(C5 c:Int)/\c=(C5 c:Int)*mB c (C5 c)/\iG (mB c (C5 c)):=by
 have g:=λz=>h (NX z);let{a,b,d}:=WD c;have e:c=(C5 c:Int)*mB c (C5 c):=by
  apply ext
  .change _=_*(c.x/_);rw[aEL a]
  .change _=_*(c.y/_);rw[aEL b]
  change _=_*(c.z/_);rw[aEL d]
 show{(by lia),e,?_};have:=km C5 e;rw[rP]at this;erw[Int.natAbs_natCast]at this;have f:C5 c*1=C5 c*C5 (mB c<|C5 c):=by lia
 show(aFw (by lia) f).symm
def iG.ne(h:iG n):n≠0:=λe=>by subst e;unfold iG at h;show absurd h (by decide)
def yU{n m:V}{k l:Int}(b:iG n)(d:iG m)(h:0<k)(i:0<l)(e:k*n=l*m):n=m:=by
 have:=km C5 e;rw[rP,rP,b,d]at this;have a:k=l:=by lia
 subst a;have f:=km V.y e;have g:=km V.z e;show ext (aDO (by lia)<|km V.x e) (aDO (by lia) f) (aDO (by lia) g)
def j6(P Q R:V):V×Int:=let n:=mB (cr (Q-P)<|R-P) (C5<|cr (Q-P)<|R-P);(n,d6 n P)
structure IsFace(J:List V)(n:V)(d:Int):Prop where
 prim:iG n
 sup:∀X∈J,d6 n X<=d
 three:∃A∈J,∃B∈J,∃C∈J,d6 n A=d/\d6 n B=d/\d6 n C=d/\cr (B-A) (C-A)≠0
def J5(a:d6 n u=0)(b:d6 n v=0):cr n (cr u v)=0:=by simp[d6]at a b;apply ext<;>simp<;>grind
def sJ(f:c≠0)(b:cr n c=0)(d:cr m c=0):cr n m=0:=by
 have h:cr c n=0:=by have:=km V.x b;have:=km V.y b;have:=km V.z b;simp at*;apply ext<;>simp<;>grind
 have i:cr c m=0:=by have:=km V.x d;have:=km V.y d;have:=km V.z d;simp at*;apply ext<;>simp<;>grind
 let{k,p,r,j}:=B7 f h;let{l,q,s,o}:=B7 f i;have e:(k*l)*cr n m=0:=by
  have:(k*l)*cr n m=cr (k*n) (l*m):=by apply ext<;>simp<;>grind
  rw[this,j,o];apply ext<;>simp<;>grind
 have a:k*l≠0:=λz=>by rcases aAo.mp z with q|q<;>lia
 have b:=km V.x e;have d:=km V.y e;have g:=km V.z e;simp at b d g;show ext ((aAo.mp b).resolve_left a) ((aAo.mp d).resolve_left a) ((aAo.mp g).resolve_left a)
def kP{J:List V}{n m:V}{d e:Int}(g:iG n)(a:iG m)(x:∀X∈J,d6 n X<=d)(h:∀X∈J,d6 m X<=e){A B C Z:V}(y:d6 n A=d)(E:d6 n B=d)(H:d6 n C=d)(i:d6 m A=e)(j:d6 m B=e)(o:d6 m C=e)
  (p:cr (B-A) (C-A)≠0) (r:Z∈J) (hz:d6 n Z<d):n=m/\d=e:=by
 have s:cr n (cr (B-A)<|C-A)=0:=J5 (by rw[d9];lia) (by rw[d9];lia);have t:cr m (cr (B-A)<|C-A)=0:=J5 (by rw[d9];lia) (by rw[d9];lia);let{k,l,b,f}:=B7 a.ne (sJ p t s);have u:0<l:=by
  have q:=km (λv=>d6 v (Z-A)) f;rw[N3,N3]at q;have w:d6 n (Z-A)<0:=by rw[d9];lia
  have I:d6 m (Z-A)<=0:=by rw[d9];have:=h Z r;lia
  have L:=aBm b w;by_cases z:0<l
  .show z
  exfalso;have:0<=l*d6 m (Z-A):=by
   have:=aAR (show 0<=-l by lia) (show 0<=-d6 m (Z-A)by lia)
   rwa [aDA]at this
  lia
 have N:=yU g a b u f;grind
def b8(A B:V)(J:List V):V×Int:=j6 A B (G7 (B-A) A J 0 A).2
def z7(n:V)(d:Int)(J:List V):List V:=J.filter λX=>decide (d6 n X=d)
def d8:X∈z7 n d J↔X∈J/\d6 n X=d:=by simp[z7]
def rL(h:cr (Q-P) (R-P)≠0):∃g:Int,0<g/\cr (Q-P) (R-P)=g*(j6 P Q R).1/\iG (j6 P Q R).1/\(j6 P Q R).2=d6 (j6 P Q R).1 P:=by let{a,b,d}:=oA h;show{_,a,b,d,rfl}
def Y0{Pos:V->Prop}(C:ConeM (B-A) Pos)(d:B-A≠0)(n:∀P∈J,Pos (P-A)\/cr (B-A) (P-A)=0)(o:∃P∈J,Pos (P-A)):
  ∃(a:V) (g:Int),a∈J/\Pos (a-A)/\0<g/\cr (B-A) (a-A)=g*(b8 A B J).1/\iG (b8 A B J).1/\(b8 A B J).2=d6 (b8 A B J).1 A/\
   (∀P∈J,d6 (b8 A B J).1 P<=(b8 A B J).2)/\d6 (b8 A B J).1 B=(b8 A B J).2/\d6 (b8 A B J).1 a=(b8 A B J).2/\
   (∀P∈J,d6 (b8 A B J).1 P=(b8 A B J).2->i9 (B-A) (a-A) (P-A)=0):=by
 let{p,f,q}:=TV C d n o;let{g,i,j,r,k}:=rL (C.ad1 d f);have b:∀w:V,g*d6 (b8 A B J).1 w=i9 (B-A) ((G7 (B-A) A J 0 A).2-A) w:=λw=>by have:d6 (cr (B-A)<|(G7 (B-A) A J 0 A).2-A) w=i9 (B-A) ((G7 (B-A) A J 0 A).2-A) w:=V1 _ _ _;rw[<-this,j,N3];rfl
 have t:(b8 A B J).2=d6 (b8 A B J).1 A:=k;have l:∀w:V,i9 (B-A) ((G7 (B-A) A J 0 A).2-A) w=0->d6 (b8 A B J).1 w=0:=λw s=>by have:=b w;rw[s]at this;show(aAo.mp this).resolve_left (by lia)
 show{_,g,p,f,i,j,r,k,λP m=>?_,?_,?_,λP m e=>?_}
 .have h:=q P m;rw[<-b]at h;have:d6 (b8 A B J).1 (P-A)<=0:=by
   by_cases z:d6 (b8 A B J).1 (P-A)<=0
   .show z
   have:=aAw i (show 0<d6 (b8 A B J).1 (P-A)by lia)
   lia
  rw[d9]at this
  lia
 .have:=l (B-A) (by simp[i9,d6];grind);rw[d9]at this;lia
 .have:=l ((G7 (B-A) A J 0 A).2-A) (D7 _ _);rw[d9]at this;lia
 rw[<-b,d9];grind
def BU{Pos:V->Prop}(C:ConeM a Pos)(d:a≠0)(e:Pos o)(f:Pos w)(h:i9 a o w=0):0<d6 (cr a o) (cr a w):=by
 by_cases z:0<d6 (cr a o) (cr a w)
 .show z
 exfalso;have g:Pos (d6 (cr a o) (cr a o)*w+(-d6 (cr a o) (cr a w))*o):=C.comb (t4<|C.ad1 d e) (by lia) f e;show C.ad1 d g ?_;have b:cr (cr a o) (cr a w)=i9 a o w*a:=by simp[i9,d6];apply ext<;>simp<;>grind
 rw[h,x4]at b;have i:cr a (d6 (cr a o) (cr a o)*w+(-d6 (cr a o) (cr a w))*o)=d6 (cr a o) (cr a o)*cr a w+(-d6 (cr a o) (cr a w))*cr a o:=by apply ext<;>simp<;>grind
 rw[i];have j:∀p q:V,d6 p p*q+(-d6 p q)*p=cr p (cr q p):=λp q=>by simp[d6];apply ext<;>simp<;>grind
 rw[j];have k:cr (cr a w) (cr a o)=0:=by have l:=km V.x b;have m:=km V.y b;have n:=km V.z b;simp at l m n;apply ext<;>simp<;>grind
 rw[k];apply ext<;>simp
def Btw.symm(h:Btw P Q X):Btw Q P X:={λa=>{(h.2 a).2,(h.2 a).1},λa=>{(h.1 a).2,(h.1 a).1}}
def xG(i:n≠0)(d:d6 n (a-b)=0):ConeM (a-b) (λw=>d6 n w<0\/(d6 n w=0/\0<i9 n (b-a) w))where
 add:=λ{u v} j l=>by
  rw[bX,bJ]
  lia
 mul:=λ{k u} f h=>by
  rw[w8,BB];rcases h with h|⟨h,g⟩
  .show .inl (aBm f h)
  show .inr {by rw[h];simp,aAw f g}
 irr:=by rw[P4,gI];lia
 inv:=λ{u} k h=>by
  have e:i9 n (b-a) (a-b)=0:=by have:a-b=-(b-a):=(u7 _ _).symm;rw[this,L3,D7];rfl
  rw[bX,bJ,w8,BB,d,e];simpa using h
def cV(a:n≠0)(b:d6 n u=0)(d:d6 n w=0)(h:i9 n u w=0):cr u w=0:=by
 let{k,m,l,e}:=B7 a (J5 b d);have q:=km (d6 n) e;rw[w8,w8]at q;have:d6 n (cr u w)=0:=h;rw[this]at q;have f:m=0:=by
  have:=t4 a;have g:m*d6 n n=0:=by lia
  rcases aAo.mp g with z|z
  .show z
  lia
 rw[f,x4]at e;have i:=km V.y e;have j:=km V.z e;show ext ((aAo.mp<|km V.x e).resolve_left (by lia)) ((aAo.mp i).resolve_left (by lia)) ((aAo.mp j).resolve_left (by lia))
def DB(h:cr u w=0):cr (-u) w=0:=by have a:=km V.x h;have b:=km V.y h;have d:=km V.z h;simp at a b d;apply ext<;>simp<;>grind
def wB(B:n≠0)(T:∀X∈J,d6 n X<=d)(hz:∃Z∈J,d6 n Z<d)(h:EdgeOf n (λX=>X∈z7 n d J) a b):
  IsFace J (b8 b a J).1 (b8 b a J).2/\EdgeOf (b8 b a J).1 (λX=>X∈z7 (b8 b a J).1 (b8 b a J).2 J) b a:=by
 let{E,da}:=d8.mp h.p;let{pb,db}:=d8.mp h.q;have j:d6 n (a-b)=0:=by rw[d9];lia
 have s:d6 n (b-a)=0:=by rw[d9];lia
 have C:=xG (n:=n) B j;have o:a-b≠0:=λe=>h.ne (by have U:=km V.x e;have Y:=km V.y e;have q3:=km V.z e;simp at U Y q3;show ext (by lia) (by lia) (by lia))
 have t:∀P∈J,(d6 n (P-b)<0\/(d6 n (P-b)=0/\0<i9 n (b-a) (P-b)))\/cr (a-b) (P-b)=0:=λP H=>by
  have h1:=T P H;by_cases z:d6 n P<d
  .show .inl (.inl (by rw[d9];lia))
  have e:d6 n P=d:=by lia
  have l:=h.left P (d8.mpr {H,e});rw[rV]at l;have I:d6 n (P-b)=0:=by rw[d9];lia
  by_cases y:0<i9 n (b-a) (P-b)
  .show .inl (.inr {I,y})
  have y0:i9 n (b-a) (P-b)=0:=by lia
  have:=DB (cV B s I y0);rw[u7]at this;show .inr this
 let{Z,hZ,hz}:=hz;let{f,g,o1,u,g0,L,gp,N,v,O,sO,Q}:=Y0 C o t {Z,hZ,.inl (by rw[d9];lia)};show{{gp,v,b,pb,a,E,f,o1,N.symm,O,sO,C.ad1 o u},{d8.mpr {pb,N.symm},d8.mpr {E,O},λe=>h.ne e.symm,λX w=>?_,λX w e=>?_}}
 .let{i,A}:=d8.mp w;have z:=Q X i A;have r:g*i9 (b8 b a J).1 (a-b) (X-b)=d6 (cr (a-b)<|f-b) (cr (a-b)<|X-b):=by rw[L];unfold i9;rw[N3]
  have:0<=d6 (cr (a-b)<|f-b) (cr (a-b)<|X-b):=by
   rcases t X i with q|q
   .show aAz (BU C o u q z)
   rw[q,P4];show aCn _
  rw[<-r]at this;by_cases zz:0<=i9 (b8 b a J).1 (a-b) (X-b)
  .show zz
  have:=aBm g0 (show i9 (b8 b a J).1 (a-b) (X-b)<0 by lia)
  lia
 let{i,A}:=d8.mp w;have r:g*i9 (b8 b a J).1 (a-b) (X-b)=d6 (cr (a-b)<|f-b) (cr (a-b)<|X-b):=by rw[L];unfold i9;rw[N3]
 rw[e]at r;rcases t X i with q|q
 .have:=BU C o u q (Q X i A);rw[<-r]at this;simp at this
 .
  have dX:d6 n X=d:=by let{k,m,hk,e}:=B7 o q;have q:=km (d6 n) e;rw[w8,w8,j]at q;have:d6 n (X-b)=0:=(aAo.mp (show k*d6 n (X-b)=0 by lia)).resolve_left (by lia);rw[d9]at this;lia
  show(h.btw X (d8.mpr {i,dX}) ?_).symm;rw[rV];have:cr (b-a) (X-b)=0:=by
   have:=DB q
   rwa [u7]at this
  unfold i9;rw[this,P4]
def B8:List V->Option V
 |[]=>none
 |w::a=>if w≠0 then some w else B8 a
def v8(h:B8 ws=some w):w∈ws/\w≠0:=by
 induction ws with
 |nil=>cases h
 |cons v ws a=>unfold B8 at h;grind
def N5(h:B8 ws=none):∀w∈ws,w=0:=by
 induction ws with
 |nil=>simp_all
 |cons v ws a=>unfold B8 at h;grind
def V5:List V->Nat
 |[]=>0
 |p::d=>
  let a:=(p::d).map (· -p)
  match B8 a with
  |none=>0
  |some b=>match B8 (a.map<|cr b)with
   |none=>1
   |some e=>if a.any (λw=>decide (d6 e w≠0))then 3 else 2
def k9(J:List V):Prop:=∃A∈J,∃B∈J,∃C∈J,∃D∈J,i9 (B-A) (C-A) (D-A)≠0
def OB(h:V5 J=3):k9 J:=by
 match J,h with
 |p::v,h=>
  unfold V5 at h;dsimp only at h;split at h
  .cases h
  rename_i b f;split at h
  .cases h
  rename_i g i;split at h
  .rename_i e;let{j,w}:=v8 f;let{d,x}:=v8 i;let{y,d,k}:=aAj.mp d;rw[aDi]at e;let{l,m,n}:=e;let{B,o,q}:=aAj.mp j;let{C,r,s}:=aAj.mp d;let{D,t,u}:=aAj.mp m;show{p,by simp,B,o,C,r,D,t,?_};rw[q,s,u];have a:d6 g l≠0:=by simpa using n
   rw[<-k,V1]at a;show a
  cases h
def TL(h:V5 J≠3):¬k9 J:=by
 rintro⟨A,j,B,k,C,l,D,m,t⟩;match J,h,j,k,l,m with
 |p::f,h,j,k,l,m=>
  unfold V5 at h;dsimp only at h;have o:∀X∈p::f,X-p∈(p::f).map (· -p):=λX b=>aAj.mpr {X,b,rfl};have d:∀n:V,n≠0->(∀X∈p::f,d6 n (X-p)=0)->False:=λn v r=>by
   have q:∀X∈p::f,d6 n (X-A)=0:=λX b=>by have g:=r X b;have i:=r A j;rw[d9]at*;lia
   show t (A7 v (q B k) (q C l)<|q D m)
  split at h
  .rename_i g;have z:=N5 g;show d {1,0,0} (λe=>by have:=km V.x e;simp at this) λX b=>?_;rw[z _ (o X b)];show P4 _
  rename_i a g;let{N,w}:=v8 g;split at h
  .rename_i i;have z:=N5 i;have y:∀X∈p::f,cr a (X-p)=0:=λX b=>z _ (aAj.mpr {_,o X b,rfl});obtain⟨u,E,H⟩:∃u:V,cr a u≠0/\True:=by
    rcases kT w with q|q|q
    .show{{0,1,0},λe=>q (by have:=km V.z e;simpa using this),trivial}
    .show{{1,0,0},λe=>q (by have:=km V.z e;simpa using this),trivial}
    show{{0,1,0},λe=>q (by have:=km V.x e;simpa using this),trivial}
   show d (cr a u) E λX b=>?_;rw[V1,kW (y X b)]
  rename_i s i;let{O,I}:=v8 i;split at h
  .show h rfl
  rename_i L;show d s I λX b=>?_;by_cases z:d6 s (X-p)=0
  .show z
  show absurd (aDi.mpr {X-p,o X b,by simpa using z}) L
def VN(h:V5 J<2):∀X∈J,∀Y∈J,∀Z∈J,cr (Y-X) (Z-X)=0:=by
 match J,h with
 |[],_=>intro X b;cases b
 |p::d,h=>
  unfold V5 at h;dsimp only at h;have l:∀X∈p::d,X-p∈(p::d).map (· -p):=λX b=>aAj.mpr {X,b,rfl};intro X b Y m Z o;split at h
  .rename_i i;have e:∀W∈p::d,W=p:=λW j=>by have:=(N5 i) _ (l W j);have f:=km V.x this;have g:=km V.y this;have q:=km V.z this;simp at f g q;show ext (by lia) (by lia) (by lia)
   rw[e X b,e Y m,A8];apply ext<;>simp
  rename_i a i;let{E,r}:=v8 i;split at h
  .rename_i s;have n:∀X∈p::d,cr a (X-p)=0:=λX b=>(N5 s) _ (aAj.mpr {_,l X b,rfl});have k:∀U∈p::d,∀W∈p::d,cr (U-W) a=0:=λU t W j=>by have f:=n U t;have g:=n W j;have u:=km V.x f;have v:=km V.y f;have w:=km V.z f;have A:=km V.x g;have B:=km V.y g;have C:=km V.z g;simp at u v w A B C;apply ext<;>simp<;>grind
   show sJ r (k Y m X b) (k Z o X b)
  split at h<;>lia
def NG(h:2<=V5 J):∃X∈J,∃Y∈J,∃Z∈J,cr (Y-X) (Z-X)≠0:=by
 match J,h with
 |[],h=>show absurd h (by simp[V5])
 |p::n,h=>
  unfold V5 at h;dsimp only at h;split at h
  .lia
  rename_i a d;let{e,o}:=v8 d;split at h
  .lia
  rename_i q f;let{b,g}:=v8 f;let{r,b,i}:=aAj.mp b;let{B,j,k}:=aAj.mp e;let{C,l,m}:=aAj.mp b;show{p,by simp,B,j,C,l,by rw[k,m,i];show g}
def k9.off(h:k9 J)(f:n≠0):∃Z∈J,d6 n Z≠d:=by
 let{A,g,B,i,C,j,D,k,l}:=h;by_cases a:d6 n A=d
 .by_cases b:d6 n B=d
  .by_cases c:d6 n C=d
   .by_cases e:d6 n D=d
    .show absurd (A7 f (by rw[d9];lia) (by rw[d9];lia) (by rw[d9];lia)) l
    show{D,k,e}
   show{C,j,c}
  show{B,i,b}
 show{A,g,a}
def k9.below(h:k9 J)(b:n≠0)(f:∀X∈J,d6 n X<=d):∃Z∈J,d6 n Z<d:=by let{Z,a,e}:=h.off (d:=d) b;show{Z,a,by have:=f Z a;lia}
def kk:V:={0,0,1}
def i4(m:V)(J:List V):V×V:=
 let u:=b8 m (m+kk) J
 let a:=z7 u.1 u.2 J
 if V5 a=2 then(m,m+kk)else(a.getD 0 0,a.getD 1 0)
def KD:ConeM kk (λw=>0<w.x\/(w.x=0/\0<w.y))where
 add:=λ{u v} d e=>by simp;lia
 mul:=λ{k u} a h=>by
  simp;rcases h with h|⟨h,b⟩
  .show .inl (aAw a h)
  show .inr {by rw[h];simp,aAw a b}
 irr:=by simp
 inv:=λ{u} k h=>by simpa[kk]using h
def IP(h:d6 n a=0):ConeM a (λw=>d6 n w<0)where
 add:=λ{u v} e f=>by rw[bX];lia
 mul:=λ{k u} b h=>by rw[w8];show aBm b h
 irr:=by rw[P4];lia
 inv:=λ{u} k d=>by rw[bX,w8,h];simpa using d
def M8(m k:V):m+k-m=k:=(by apply ext<;>simp<;>lia)
def iW(Q:k9 J)(ho:J.Pairwise (λa b=>i5 (b-a)))(hm:m∈J)(hl:∀X∈J,X=m\/i5 (X-m)):
  IsFace J (b8 (i4 m J).1 (i4 m J).2 J).1 (b8 (i4 m J).1 (i4 m J).2 J).2:=by
 have C:ConeM (m+kk-m) (λw=>0<w.x\/(w.x=0/\0<w.y)):=by rw[M8];show KD
 have ai:m+kk-m≠0:=by rw[M8];intro e;have:=km V.z e;simp[kk]at this
 have T:∀P∈J,(0<(P-m).x\/((P-m).x=0/\0<(P-m).y))\/cr (m+kk-m) (P-m)=0:=λP u=>by
  rw[M8];rcases hl P u with e|e
  .right;subst e;rw[A8];apply ext<;>simp
  unfold i5 at e;rcases e with e|⟨U,e|⟨e2,e3⟩⟩
  .show .inl (.inl e)
  .show .inl (.inr {U,e})
  right;apply ext
  .simp[kk];simp at e2;lia
  .simp[kk];simp at U;lia
  simp[kk]
 have hx:∃P∈J,0<(P-m).x\/((P-m).x=0/\0<(P-m).y):=by
  by_cases z:∃P∈J,0<(P-m).x\/((P-m).x=0/\0<(P-m).y)
  .show z
  exfalso;let{Z,f,e}:=Q.off (n:={1,0,0}) (d:=m.x) (λe=>by have:=km V.x e;simp at this);have w:=(T Z f).resolve_left λq=>z {Z,f,q};rw[M8]at w;have:=km V.y w;simp[kk]at this;simp[d6]at e
  lia
 let{H,g,o1,o2,g0,ge,I,gd,h,sB,sO,sP}:=Y0 C ai T hx;have i:=d8.mpr {hm,gd.symm};have k:=d8.mpr {o1,sO};have L:m≠H:=λe=>by subst e;rw[A8]at o2;simp at o2
 by_cases h2:V5 (z7 (b8 m (m+kk) J).1 (b8 m (m+kk) J).2 J)=2
 .have e:i4 m J=(m,m+kk):=by unfold i4;erw[h2,if_true]
  rw[e];let{X,v,Y,E,Z,f,hc}:=NG (J:=z7 (b8 m (m+kk) J).1 (b8 m (m+kk) J).2 J) (by lia);have v:=d8.mp v;have E:=d8.mp E;have f:=d8.mp f;show{I,h,X,v.1,Y,E.1,Z,f.1,v.2,E.2,f.2,hc}
 .
  have h1:V5 (z7 (b8 m (m+kk) J).1 (b8 m (m+kk) J).2 J)≠3:=λz=>by let{A,hA,B,hB,C,hC,D,hD,hd}:=OB z;have hA:=d8.mp hA;have hB:=d8.mp hB;have hC:=d8.mp hC;have hD:=d8.mp hD;show hd (A7 I.ne (by rw[d9];lia) (by rw[d9];lia) (by rw[d9];lia))
  have ao:V5 (z7 (b8 m (m+kk) J).1 (b8 m (m+kk) J).2 J)<2:=by
   have:V5 (z7 (b8 m (m+kk) J).1 (b8 m (m+kk) J).2 J)<=3:=by
    generalize z7 (b8 m (m+kk) J).1 (b8 m (m+kk) J).2 J=t;unfold V5;split
    .lia
    dsimp only;split
    .lia
    split
    .lia
    split<;>lia
   lia
  have e:i4 m J=((z7 (b8 m (m+kk) J).1 (b8 m (m+kk) J).2 J).getD 0 0,(z7 (b8 m (m+kk) J).1 (b8 m (m+kk) J).2 J).getD 1 0):=by unfold i4;erw[h2,if_false]
  rw[e];have ord:(z7 (b8 m (m+kk) J).1 (b8 m (m+kk) J).2 J).Pairwise (λa b=>i5 (b-a)):=aGm _ ho;have j:∀X,X∈z7 (b8 m (m+kk) J).1 (b8 m (m+kk) J).2 J↔X∈J/\d6 (b8 m (m+kk) J).1 X=(b8 m (m+kk) J).2:=λX=>d8;generalize z7 (b8 m (m+kk) J).1 (b8 m (m+kk) J).2 J=t at*
  match t,i,k with
  |[],i,_=>cases i
  |[x],i,k=>simp at i k;show absurd (i.trans k.symm) L
  |x::y::r,i,k=>
   dsimp only[List.getD_cons_zero,List.getD_cons_succ];have l:i5 (y-x):=(aAs.mp ord).1 y (by simp);have ox:=(j x).mp (by simp);have oy:=(j y).mp (by simp);have o:y-x≠0:=λz=>by rw[z]at l;show z6.irr l
   have na:d6 (b8 m (m+kk) J).1 (y-x)=0:=by rw[d9];lia
   have C2:=IP na;let{Z,f,hz}:=Q.below I.ne h;let{p,g2,p1,p2,p0,pe,pp,pd,s,N,O,sP2}:=Y0 C2 o (J:=J) (λP u=>by
    have:=h P u;by_cases q:d6 (b8 m (m+kk) J).1 P<(b8 m (m+kk) J).2
    .show .inl (by rw[d9];lia)
    show .inr ((VN ao) x (by simp) y (by simp) P ((j P).mpr {u,by lia}))) {Z,f,by rw[d9];lia}
   show{pp,s,x,ox.1,y,oy.1,p,p1,pd.symm,N,O,C2.ad1 o p2}
def N2{a b:V}(h:a-b=0):a=b:=by have d:=km V.x h;have e:=km V.y h;have f:=km V.z h;simp at d e f;show ext (by lia) (by lia) (by lia)
def IsFace.aa2(f:J.Pairwise (λa b=>i5 (b-a)))(h:IsFace J n d):Sheet n (z7 n d J)where
 nz:=h.prim.ne
 pl:=λX g Y i=>by have:=(d8.mp g).2;have:=(d8.mp i).2;rw[d9];lia
 ord:=aGm _ f
 two:=by let{A,j,B,k,C,l,a,b,c,e}:=h.three;show{A,d8.mpr {j,a},B,d8.mpr {k,b},λz=>e ?_};subst z;rw[A8];apply ext<;>simp
def IsFace.ac4{J:List V}{n:V}{d:Int}(h:IsFace J n d){a b:V}(f:EdgeOf n (λX=>X∈z7 n d J) a b):∃X∈z7 n d J,0<i9 n (b-a) (X-a):=by
 by_cases z:∃X∈z7 n d J,0<i9 n (b-a) (X-a)
 .show z
 exfalso;let{pa,da}:=d8.mp f.p;let{pb,db}:=d8.mp f.q;have g:d6 n (b-a)=0:=by rw[d9];lia
 have k:∀X∈J,d6 n X=d->cr (b-a) (X-a)=0:=λX i j=>by have r:=d8.mpr {i,j};have l:=f.left X r;have l':¬0<i9 n (b-a) (X-a):=λq=>z {X,r,q};show cV h.prim.ne g (by rw[d9];lia) (by lia)
 let{A,s,B,v,C,w,t,E,H,e}:=h.three;have u:∀X∈J,d6 n X=d->∀Y∈J,d6 n Y=d->cr (X-Y) (b-a)=0:=λX i j Y I L=>by have m:=k X i j;have o:=k Y I L;have N:=km V.x m;have O:=km V.y m;have Q:=km V.z m;have T:=km V.x o;have U:=km V.y o;have b3:=km V.z o;simp at N O Q T U b3;apply ext<;>simp<;>grind
 show e (sJ (λe=>f.ne (N2 e).symm) (u B v E A s t)<|u C w H A s t)
def yT(l:k9 J)(f:IsFace J n d)(g:IsFace J m e)(i:EdgeOf n (λX=>X∈z7 n d J) a b)(h:EdgeOf m (λX=>X∈z7 m e J) b a)(j:X∈z7 n d J)(k:0<i9 n (b-a) (X-a)):d6 m X<e:=by
 let{o,r}:=d8.mp j;have A:=g.sup X o;by_cases z:d6 m X=e
 .exfalso;let{B,s}:=d8.mp i.p;let{pb,t}:=d8.mp i.q;let{_,u}:=d8.mp h.q;let{_,v}:=d8.mp h.p;let{Z,w,x}:=l.below f.prim.ne f.sup;have y:cr (b-a) (X-a)≠0:=λq=>by unfold i9 at k;rw[q,P4]at k;lia
  let{rfl,rfl}:=kP f.prim g.prim f.sup g.sup s t r u v z y w x;have:=h.left X j;have C:i9 n (a-b) (X-b)=-i9 n (b-a) (X-a):=by simp[i9,d6];grind
  lia
 lia
def pH:List V->V
 |[]=>0
 |X::l=>X+pH l
theorem qS(n:V):∀l:List V,d6 n (pH l)=(l.map (d6 n)).sum
 |[]=>P4 n
 |X::l=>by erw[pH,aAm,aCt];rw[bX,qS n l]
theorem HD{a:Type}(f g:a->Int):∀l:List a,(∀x∈l,f x<=g x)->(l.map f).sum<=(l.map g).sum
 |[],_=>aCn _
 |x::l,h=>by
  erw[aAm,aCt];have:=h x (by simp);have:=HD f g l (λy b=>h y (aAe _ b))
  lia
theorem ET{b:Type}(f g:b->Int):∀l:List b,(∀x∈l,f x<=g x)->(∃x∈l,f x<g x)->(l.map f).sum<(l.map g).sum
 |[],_,⟨x,d,_⟩=>by cases d
 |x::l,h,⟨y,a,i⟩=>by
  erw[aAm,aCt];have j:=h x (by simp);have k:=HD f g l (λy a=>h y (aAe _ a));rcases aAi.mp a with e|e
  .subst e;lia
  have:=ET f g l (λy a=>h y (aAe _ a)) {y,e,i}
  lia
theorem bK{a:Type}(c:Int):∀l:List a,(l.map λ_=>c).sum=(l.length:Int)*c
 |[]=>by simp
 |x::l=>by erw[aAm,aCt,aAp];rw[bK c l];push_cast;grind
def F3(J:List V)(X:V):V:=(J.length:Int)*X-pH J
def eF(J:List V)(n:V)(d:Int):Int:=(J.length:Int)*d-d6 n (pH J)
def yF(J:List V)(n X:V):d6 n (F3 J X)=(J.length:Int)*d6 n X-d6 n (pH J):=by unfold F3;rw[d9,w8]
def kE(a:k9 J)(b:n≠0)(h:∀X∈J,d6 n X<=d):0<eF J n d:=by
 unfold eF;rw[qS,<-bK];have:=ET (d6 n) (λ_=>d) J h (a.below b h)
 lia
def len_pos(a:k9 J):0<(J.length:Int):=by
 let{A,b,_}:=a;have:0<J.length:=aEk b
 lia
def aY(h:d6 n X=d):d6 n (F3 J X)=eF J n d:=by rw[yF,h];rfl
def uD(h:d6 n X<=d):d6 n (F3 J X)<=eF J n d:=by
 rw[yF];unfold eF;have:=aBa h (show(0:Int)<=J.length by lia)
 lia
def VG(a:0<(J.length:Int))(h:d6 n X<d):d6 n (F3 J X)<eF J n d:=by
 rw[yF];unfold eF;have:=aFe h a
 lia
def YB(J:List V)(a b X:V):i9 (F3 J a) (F3 J b) (F3 J X)=(J.length:Int)*(J.length:Int)*d6 (F3 J a) (cr (b-a) (X-a)):=by unfold F3;simp[i9,d6];grind
def sM(h:cr w c=0)(x y:V):d6 w y*d6 c x=d6 w x*d6 c y:=by
 have e:d6 w y*d6 c x-d6 w x*d6 c y=d6 (cr w c) (cr y x):=by simp[d6];grind
 have:d6 0 (cr y x)=0:=by simp[d6]
 lia
def LD(e:k9 J)(f:IsFace J n d)(j:d6 n a=d)(m:d6 n b=d)(o:d6 n X=d)(h:0<i9 n (b-a) (X-a)):0<i9 (F3 J a) (F3 J b) (F3 J X):=by
 rw[YB];have g:=len_pos e;show aAw (aAw g g) ?_;have i:=f.prim.ne;have p:cr n (cr (b-a)<|X-a)=0:=J5 (by rw[d9];lia) (by rw[d9];lia);have q:=sM p n (F3 J a);have k:0<d6 n (F3 J a):=by rw[aY j];show kE e i f.sup
 have l:0<d6 (cr (b-a)<|X-a) n:=by rw[fL];show h
 have r:=aAw k l;rw[fL (F3 J a)];by_cases z:0<d6 (cr (b-a)<|X-a) (F3 J a)
 .show z
 exfalso;have:d6 n n*d6 (cr (b-a)<|X-a) (F3 J a)<=0:=by have:=aBa (show d6 (cr (b-a)<|X-a) (F3 J a)<=0 by lia) (aAz<|t4 i);simpa using this
 lia
def lz(g:k9 J)(f:IsFace J n d)(v:IsFace J m e)(h:EdgeOf n (λX=>X∈z7 n d J) a b)(j:EdgeOf m (λX=>X∈z7 m e J) b a)(L:d6 m B*eF J n d<=d6 n B*eF J m e):0<=i9 (F3 J a) (F3 J b) B:=by
 let{X,k,l}:=f.ac4 h;let{N,o}:=d8.mp k;let{O,t}:=d8.mp h.p;let{pb,u}:=d8.mp h.q;let{_,w}:=d8.mp j.q;let{_,x}:=d8.mp j.p;have c0:=kE g f.prim.ne f.sup;have A:=LD g f t u o l;by_cases z:0<=i9 (F3 J a) (F3 J b) B
 .show z
 exfalso;have i:∀y,d6 (eF J n d*m-eF J m e*n) y=eF J n d*d6 m y-eF J m e*d6 n y:=λy=>by rw[fL,d9,w8,w8,fL y m,fL y n]
 have C:d6 (eF J n d*m-eF J m e*n) (F3 J a)=0:=by rw[i,aY t,aY w];grind
 have E:d6 (eF J n d*m-eF J m e*n) (F3 J b)=0:=by rw[i,aY u,aY x];grind
 have H:d6 (eF J n d*m-eF J m e*n) (F3 J X)<0:=by rw[i,aY o];have:=aFe (VG (len_pos g)<|yT g f v h j k l) c0;grind
 have p:=sM (J5 C E) (F3 J X) B;have I:d6 (cr (F3 J a)<|F3 J b) B=i9 (F3 J a) (F3 J b) B:=V1 _ _ _;rw[(V1 _ _ _),I]at p;have r:0<d6 (eF J n d*m-eF J m e*n) (F3 J X)*i9 (F3 J a) (F3 J b) B:=Int.mul_pos_of_neg_of_neg H (by lia);rw[<-p]at r;have s:0<d6 (eF J n d*m-eF J m e*n) B:=by
  by_cases q:0<d6 (eF J n d*m-eF J m e*n) B
  .show q
  have:=aAL (show d6 (eF J n d*m-eF J m e*n) B<=0 by lia) (aAz A)
  lia
 rw[i]at s
 lia
def FW{a b c d e f:Int}(g:0<b)(h:0<d)(i:0<f)(j:a*d<=c*b)(k:c*f<=e*d):a*f<=e*b:=by have l:=aAL j (aAz i);have m:=aAL k (aAz g);show aFf (by grind) h
theorem IV{d:Type}(p q:d->Int):∀(l:List d),l≠[]->(∀x∈l,0<q x)->∃x∈l,∀y∈l,p y*q x<=p x*q y
 |[],h,_=>absurd rfl h
 |[x],_,_=>by simp
 |x::y::l,_,b=>by
  let{z,f,h}:=IV p q (y::l) (by simp) (λw a=>b w (aAe _ a));by_cases c:p x*q z<=p z*q x
  .show{z,aAe _ f,λw a=>?_};rcases aAi.mp a with e|e
   .subst e;show c
   show h w e
  show{x,by simp,λw a=>?_};rcases aAi.mp a with e|e
  .subst e;show aCn _
  show FW (b w a) (b z<|aAe _ f) (b x (by simp)) (h w e) (by lia)
theorem a6w(h:V->Int):∀(x:V) (l:List V),0<=h x->(∀z,(x::l).getLast?=some z->h z<=0)->l≠[]->∃u v,(u,v)∈n8 (x::l)/\0<=h u/\h v<=0
 |x,[],_,_,b=>absurd rfl b
 |x,y::r,d,a,_=>by
  by_cases c:h y<=0
  .show{x,y,by simp[n8],d,c}
  match r,a with
  |[],a=>show absurd (a y rfl) c
  |z::r,a=>let{u,v,m,p}:=a6w h y (z::r) (by lia) (λw e=>a w (by simp_all)) (by simp);show{u,v,by erw[n8]at m⊢;show aAe _ m,p}
theorem pB:∀(l:List V) (x z w:V),(x::l).getLast?=some z->(z,w)∈n8 (x::l++[w])
 |[],x,z,w,h=>by simp at h;subst h;simp[n8]
 |y::l,x,z,w,h=>by have:=pB l y z w h;show aAe _ this
theorem X1:∀(l:List V) (x w:V),∀e∈n8 (x::l),e∈n8 (x::l++[w])
 |[],x,w,e,h=>by simp[n8]at h
 |y::l,x,w,e,h=>by
  erw[aBs,n8]at h⊢;rcases aAi.mp h with q|q
  .subst q;simp
  show aAe _ (X1 l y w e q)
def C7(g:J.Pairwise (λa b=>i5 (b-a)))(f:IsFace J n d):∃r s t l,l9 n (z7 n d J)=r::s::t::l:=by
 have S:=f.aa2 g;let{r,l,e,_}:=S.ab8;match l,e with
 |[],e=>
  have h:(r,r)∈T8 (l9 n<|z7 n d J):=by rw[e];simp[T8]
  show absurd rfl (S.pair h).ne
 |[s],e=>
  have i:(r,s)∈T8 (l9 n<|z7 n d J):=by rw[e];simp[T8]
  have j:(s,r)∈T8 (l9 n<|z7 n d J):=by rw[e];simp[T8]
  have k:=S.pair j;let{X,m,o}:=f.ac4 (S.pair i);have:=k.left X m;have p:i9 n (r-s) (X-s)=-i9 n (s-r) (X-r):=by simp[i9,d6];grind
  lia
 |s::t::l,e=>show{r,s,t,l,e}
def wW(E:k9 J)(ho:J.Pairwise (λa b=>i5 (b-a)))(fs:List (V×Int))(ai:fs≠[])(hf:∀f∈fs,IsFace J f.1 f.2)(hc:∀f∈fs,∀a b,EdgeOf f.1 (λX=>X∈z7 f.1 f.2 J) a b->∃g∈fs,EdgeOf g.1 (λX=>X∈z7 g.1 g.2 J) b a)(o:IsFace J n d):(n,d)∈fs:=by
 obtain⟨B,hBd⟩:∃B,B=pH ((z7 n d J).map (F3 J)):={_,rfl};have dB:∀m,d6 m B=((z7 n d J).map λX=>d6 m (F3 J X)).sum:=λm=>by rw[hBd,qS,aAI];rfl
 have cn:=kE E o.prim.ne o.sup;have ub:∀m e,(∀X∈J,d6 m X<=e)->d6 m B<=((z7 n d J).length:Int)*eF J m e:=λm e hm=>by rw[dB,<-bK];show HD _ _ _ λX i=>uD (hm X (d8.mp i).1)
 have eB:d6 n B=((z7 n d J).length:Int)*eF J n d:=by rw[dB,<-bK];congr 1;show aDU λX i=>aY (d8.mp i).2
 let{{m,e},hm,htop}:=IV (λf:V×Int=>d6 f.1 B) (λf=>eF J f.1 f.2) fs ai λf h=>kE E (hf f h).prim.ne (hf f h).sup;have j:=hf _ hm;have H:∀a b,EdgeOf m (λX=>X∈z7 m e J) a b->0<=i9 (F3 J a) (F3 J b) B:=λa b hab=>by let{g,hg,hg2}:=hc _ hm a b hab;show lz E j (hf g hg) hab hg2 (htop g hg)
 have S:=j.aa2 ho;let{r,s,t,l,er}:=C7 ho j;have nd:=S.aa4;have pr:=λ{P Q}=>S.aa1 (P:=P) (Q:=Q);rw[er]at pr nd;have rm:r∈l9 m (z7 m e J):=by rw[er];simp
 have on:∀X∈r::s::t::l,d6 m X=e:=λX i=>by rw[<-er]at i;show(d8.mp<|S.aa3 i).2
 obtain⟨z,hz⟩:∃z,(s::t::l).getLast?=some z:=by simp[aFk]
 have c1:(r,s)∈T8 (r::s::t::l):=by rw[Q5];simp[n8]
 have c2:(z,r)∈T8 (r::s::t::l):=by rw[Q5];show pB _ _ _ _ (by rw[aEb];show hz)
 have w1:=H _ _ (pr.mp c1);have w2:=H _ _ (pr.mp c2);let{u,v,I,hu,hv}:=a6w (λX=>i9 (F3 J r) (F3 J X) B) s (t::l) w1 (λy hy=>by
  have:y=z:=Option.some.inj (hy.symm.trans hz);subst this;have e1:i9 (F3 J r) (F3 J y) B=-i9 (F3 J y) (F3 J r) B:=by simp[i9,d6];grind
  lia) (by simp)
 have c3:(u,v)∈T8 (r::s::t::l):=by rw[Q5];have:=X1 (t::l) s r _ I;erw[aBs,n8]at this⊢;show aAe _ this
 have g3:=pr.mp c3;have U:u∈s::t::l/\v∈s::t::l:=by
  have:=I;have hh:∀(l:List V) (p q:V),(p,q)∈n8 l->p∈l/\q∈l:=λl=>by
   induction l with
   |nil=>intro p q h;simp[n8]at h
   |cons x l ih=>
    intro p q h;match l,h,ih with
    |[],h,_=>simp[n8]at h
    |y::l,h,ih=>
     erw[n8]at h;rcases aAi.mp h with c|c
     .cases c;simp
     have:=ih p q c;show{aAe _ this.1,aAe _ this.2}
  show hh _ _ _ I
 have nr:=(aAY.mp nd).1;have ru:r≠u:=λq=>by subst q;show nr U.1
 have rv:r≠v:=λq=>by subst q;show nr U.2
 have st:=S.strict g3 rm ru rv;have du:=on u (aAe _ U.1);have dv:=on v (aAe _ U.2);have dr:=on r (by simp);have D0:=LD E j du dv dr st;have w3:=H _ _ g3;have k:=IF B (F3 J r) (F3 J u) (F3 J v);have a1:i9 B (F3 J u) (F3 J v)=i9 (F3 J u) (F3 J v) B:=by simp[i9,d6];grind
 have a2:i9 B (F3 J v) (F3 J r)=-i9 (F3 J r) (F3 J v) B:=by simp[i9,d6];grind
 have a3:i9 B (F3 J r) (F3 J u)=i9 (F3 J r) (F3 J u) B:=by simp[i9,d6];grind
 have a4:i9 (F3 J r) (F3 J u) (F3 J v)=i9 (F3 J u) (F3 J v) (F3 J r):=by simp[i9,d6];grind
 rw[a1,a2,a3,a4]at k;obtain⟨N,hal⟩:∃N,N=i9 (F3 J u) (F3 J v) B:={_,rfl};obtain⟨O,hbe⟩:∃O,O=-i9 (F3 J r) (F3 J v) B:={_,rfl};obtain⟨T,hga⟩:∃T,T=i9 (F3 J r) (F3 J u) B:={_,rfl};obtain⟨w,hDe⟩:∃w,w=i9 (F3 J u) (F3 J v) (F3 J r):={_,rfl};rw[<-hal,<-hbe,<-hga,<-hDe]at k;have al0:0<=N:=by lia
 have be0:0<=O:=by lia
 have ga0:0<=T:=by lia
 have cd:∀f:V,w*d6 f B=T*d6 f (F3 J v)+N*d6 f (F3 J r)+O*d6 f (F3 J u):=λf=>by
  have:=km (d6 f) k;rw[bX,bX,w8,w8,w8,w8]at this
  lia
 have q1:=cd m;rw[aY dr,aY du,aY dv]at q1;have q2:=cd n;have cm:=kE E j.prim.ne j.sup;have pt:∀X∈r::s::t::l,X∈J:=λX i=>by rw[<-er]at i;show(d8.mp<|S.aa3 i).1
 have r1:=uD (J:=J) (o.sup r (pt r (by simp)));have r2:=uD (J:=J) (o.sup u<|pt u<|aAe _ U.1);have r3:=uD (J:=J) (o.sup v<|pt v<|aAe _ U.2);have s1:=aBa r1 al0;have s2:=aBa r2 be0;have s3:=aBa r3 ga0;obtain⟨L,hL⟩:∃L:Int,L=((z7 n d J).length:Int):={_,rfl};have ub1:=ub m e j.sup;rw[<-hL]at eB ub1;have k1:w*L<=N+O+T:=by
  have:(w*L)*eF J n d<=(N+O+T)*eF J n d:=by rw[eB]at q2;have e1:w*L*eF J n d=w*(L*eF J n d):=Int.mul_assoc _ _ _;grind
  show aFf this cn
 have k2:w*d6 m B=(N+O+T)*eF J m e:=by rw[q1];grind
 have k3:(w*L)*eF J m e<=w*d6 m B:=by rw[k2];show aAL k1 (aAz cm)
 have k4:L*eF J m e<=d6 m B:=by rw[Int.mul_assoc]at k3;show aFx k3 (by lia)
 have all:∀X∈z7 n d J,d6 m X=e:=λX i=>by
  have le:d6 m X<=e:=j.sup X (d8.mp i).1;by_cases z:d6 m X=e
  .show z
  exfalso;have:=ET (λX=>d6 m (F3 J X)) (λ_=>eF J m e) (z7 n d J) (λY hY=>uD (j.sup Y (d8.mp hY).1)) {X,i,VG (len_pos E) (by lia)};rw[<-dB,bK,<-hL]at this
  lia
 let{A,hA,B',hB',C,hC,ea,eb,ec,hcr}:=o.three;let{Z,hZ,hz}:=E.below o.prim.ne o.sup;let{rfl,rfl}:=kP o.prim j.prim o.sup j.sup ea eb ec (all A<|d8.mpr ⟨hA,ea⟩) (all B'<|d8.mpr ⟨hB',eb⟩) (all C<|d8.mpr ⟨hC,ec⟩) hcr hZ hz;show hm
def j0(J:List V)(f:V×Int):List V:=l9 f.1 (z7 f.1 f.2 J)
structure LInv(J:List V)(p0:V×V)(fs:List (V×Int))(walked:V×V->Prop)(waiting:List (V×V)):Prop where
 face:∀f∈fs,IsFace J f.1 f.2
 nd:fs.Nodup
 wk:∀e,walked e↔∃f∈fs,e∈T8 (j0 J f)
 cl:∀f∈fs,∀a b,(a,b)∈T8 (j0 J f)->(∃g∈fs,(b,a)∈T8 (j0 J g))\/(b,a)∈waiting
 wt:∀p∈waiting,(∃f∈fs,(p.2,p.1)∈T8 (j0 J f))\/(fs=[]/\p=p0)
 ne:fs=[]->waiting=[p0]
structure Good(J:List V)(m:V):Prop where
 solid:k9 J
 ord:J.Pairwise (λa b=>i5 (b-a))
 mem:m∈J
 least:∀X∈J,X=m\/i5 (X-m)
section
variable{J:List V}{m:V} (G:Good J m) {fs:List (V×Int)}{walked:V×V->Prop}{waiting rest:List (V×V)}{p:V×V}
include G
theorem IG:LInv J (i4 m J) [] (λ_=>False) [i4 m J]where
 face:=λf h=>by cases h
 nd:=aCR
 wk:=λe=>{λh=>h.elim,λ⟨f,h,_⟩=>by cases h}
 cl:=λf h=>by cases h
 wt:=λq h=>.inr {rfl,by simpa using h}
 ne:=λ_=>rfl
theorem XH(h:LInv J (i4 m J) fs walked waiting)(j:waiting=rest++[p])(k:walked p):LInv J (i4 m J) fs walked rest:=by
 have g:∀q,q∈waiting↔q=p\/q∈rest:=λq=>by rw[j];simp[or_comm]
 let{l,i,n}:=(h.wk p).mp k;have o:fs≠[]:=λe=>by subst e;cases i
 show{h.face,h.nd,h.wk,λf r a b d=>?_,λq s=>h.wt q ((g q).mpr (.inr s)),λe=>absurd e o};rcases h.cl f r a b d with q|q
 .show .inl q
 rcases(g (b,a)).mp q with z|z
 .subst z;show .inl {l,i,n}
 show .inr z
theorem DO(h:LInv J (i4 m J) fs walked waiting)(e:p∈waiting)(g:¬walked p):IsFace J (b8 p.1 p.2 J).1 (b8 p.1 p.2 J).2/\b8 p.1 p.2 J∉fs/\(fs≠[]->p∈T8 (j0 J (b8 p.1 p.2 J))):=by
 rcases h.wt p e with⟨f,i,j⟩|⟨k,l⟩
 .have a:=h.face f i;let{b,n}:=wB a.prim.ne a.sup (G.solid.below a.prim.ne a.sup) ((a.aa2 G.ord).aa1.mp j);have o:=b.aa2 G.ord;have d:=o.aa1.mpr n;show{b,λz=>g ((h.wk p).mpr {_,z,d}),λ_=>d}
 subst k l;show{iW G.solid G.ord G.mem G.least,by simp,λz=>absurd rfl z}
theorem XG(h:LInv J (i4 m J) fs walked waiting)(n:waiting=rest++[p])(r:¬walked p){walked':V×V->Prop}(s:∀e,walked' e↔walked e\/e∈T8 (j0 J (b8 p.1 p.2 J)))(j:∀q,q∈waiting'↔q∈rest\/(q.2,q.1)∈T8 (j0 J (b8 p.1 p.2 J))):
  LInv J (i4 m J) (fs++[b8 p.1 p.2 J]) walked' waiting':=by
 have k:∀q,q∈waiting↔q=p\/q∈rest:=λq=>by rw[n];simp[or_comm]
 let{E,t,u}:=DO G h ((k p).mpr (.inl rfl)) r;show{λf d=>?_,?_,λe=>?_,λf d a b i=>?_,λq v=>?_,λe=>by simp at e}
 .rcases aAS.mp d with z|z
  .show h.face f z
  simp_all
 .rw[aDG];show⟨h.nd,by simp,λa w b x=>λe=>by
   have:b=b8 p.1 p.2 J:=by simpa using x
   subst e this;show t w⟩
 .rw[s,h.wk];constructor
  .rintro(⟨f,d,l⟩|l)
   .show{f,aBj _ d,l}
   show{_,aAx _ (by simp),l}
  simp_all
 .rcases aAS.mp d with z|z
  .rcases h.cl f z a b i with⟨g,A,e⟩|q
   .show .inl {g,aBj _ A,e}
   rcases(k (b,a)).mp q with y|y
   .have B:fs≠[]:=λe=>by subst e;cases z
    show .inl {b8 p.1 p.2 J,aAx _ (by simp),by rw[y];show u B}
   show .inr ((j _).mpr (.inl y))
  have:f=b8 p.1 p.2 J:=by simpa using z
  subst this;show .inr ((j _).mpr (.inr i))
 rcases(j q).mp v with z|z
 .rcases h.wt q ((k q).mpr (.inr z))with⟨f,d,e⟩|⟨C,H⟩
  .show .inl {f,aBj _ d,e}
  have:=h.ne C;exfalso;rw[n]at this;have o:=km aFM this;simp at o;subst o;cases z
 show .inl {_,aAx _ (by simp),z}
theorem VU(h:LInv J (i4 m J) fs walked []):fs≠[]/\∀n d,(n,d)∈fs↔IsFace J n d:=by
 have k:fs≠[]:=λe=>by have:=h.ne e;cases this
 show{k,λn d=>{λi=>h.face _ i,λi=>(wW G.solid G.ord fs k h.face (λf i a b j=>?_) i)}};rcases h.cl f i a b (((h.face f i).aa2 G.ord).aa1.mpr j)with⟨g,l,e⟩|q
 .show{g,l,((h.face g l).aa2 G.ord).aa1.mp e}
 cases q
end
def vY(h:IsFace J n d):∃A∈J,∃B∈J,∃C∈J,cr (B-A) (C-A)≠0/\j6 A B C=(n,d):=by
 let{A,r,B,f,C,i,a,b,c,e}:=h.three;have j:∀B∈J,∀C∈J,d6 n B=d->d6 n C=d->cr (B-A) (C-A)≠0->0<d6 n (cr (B-A)<|C-A)->j6 A B C=(n,d):=λB f C i b c e m=>by
  let{g,w,E,H,I}:=rL e;have p:cr n (cr (B-A)<|C-A)=0:=J5 (by rw[d9];lia) (by rw[d9];lia);let{k,l,s,o}:=B7 h.prim.ne p;have L:0<l:=by
   have q:=km (d6 n) o;rw[w8,w8]at q;have:=aAw s m;by_cases z:0<l
   .show z
   have:=aAL (show l<=0 by lia) (aAz<|t4 h.prim.ne);simp at this;lia
  rw[E]at o;have N:(k*g)*(j6 A B C).1=l*n:=by rw[<-o];apply ext<;>simp<;>grind
  have t:=yU H h.prim (aAw s w) L N;show aDt t ?_;rw[I,t];show a
 by_cases z:0<d6 n (cr (B-A)<|C-A)
 .show{A,r,B,f,C,i,e,j B f C i b c e z}
 have u:cr (C-A) (B-A)=-cr (B-A) (C-A):=by apply ext<;>simp<;>grind
 have v:cr (C-A) (B-A)≠0:=λq=>e (by rw[u]at q;have O:=km V.x q;have Q:=km V.y q;have T:=km V.z q;erw[a5y,a5x,a6j,EO,EZ,GI]at O Q T;show ext (by erw[EO];lia) (by erw[EZ];lia) (by erw[GI];lia))
 have U:d6 n (cr (B-A)<|C-A)≠0:=λq=>e (cV h.prim.ne (by rw[d9];lia) (by rw[d9];lia) q);show{A,r,C,i,B,f,v,j C i B f c b v ?_};have:d6 n (cr (C-A)<|B-A)=-d6 n (cr (B-A)<|C-A):=by rw[u];simp[d6];grind
 lia
def cands(J:List V):List (V×Int):=J.flatMap λA=>J.flatMap λB=>J.map λC=>j6 A B C
def MW(J:List V):(cands J).length=J.length*(J.length*J.length):=by
 unfold cands;have h:∀(l:List V) (f:V->List (V×Int)) (k:Nat),(∀x,(f x).length=k)->(l.flatMap f).length=l.length*k:=λl f k a=>by
  induction l with
  |nil=>simp
  |cons x l b=>rw[aEp,aAy,b,a,aAp,Nat.succ_mul,Nat.add_comm]
 rw[h J _ (J.length*J.length) λA=>h J _ J.length λB=>by simp]
theorem Q4{a:Type}[DecidableEq a]:∀{l m:List a},l.Nodup->(∀x∈l,x∈m)->l.length<=m.length
 |[],_,_,_=>aAQ _
 |x::l,m,h,b=>by
  have d:=b x (by simp);have f:=aAY.mp h;have:=Q4 (l:=l) f.2 (λy g=>by
   have ne:y≠x:=λe=>by subst e;show f.1 g
   show(aGn ne).mpr (b y<|aAe _ g))
  rw[aFF d]at this;have:0<m.length:=aEk d;erw[aAp]
  lia
def OE{J:List V}{fs:List (V×Int)}(a:fs.Nodup)(b:∀f∈fs,IsFace J f.1 f.2):fs.length<=J.length*(J.length*J.length):=by rw[<-MW];show Q4 a λf h=>?_;let{A,d,B,g,C,i,_,e}:=vY (b f h);unfold cands;rw[aBe];show{A,d,?_};rw[aBe];show{B,g,aAj.mpr {C,i,e}}
section
variable{J:List V} (hs:k9 J) (ho:J.Pairwise (λa b=>i5 (b-a)))
include hs ho
theorem fJ(e:IsFace J n d)(h:EdgeOf n (λX=>X∈z7 n d J) a b):
 IsFace J (b8 b a J).1 (b8 b a J).2/\EdgeOf (b8 b a J).1 (λX=>X∈z7 (b8 b a J).1 (b8 b a J).2 J) b a:=wB e.prim.ne e.sup (hs.below e.prim.ne e.sup) h
theorem jV(e:IsFace J n d)(f:EdgeOf n (λX=>X∈z7 n d J) a b)(g:EdgeOf n (λX=>X∈z7 n d J) b a):False:=by
 let{X,h,i}:=e.ac4 f;have:=g.left X h;have j:i9 n (a-b) (X-b)=-i9 n (b-a) (X-a):=by simp[i9,d6];grind
 lia
theorem kL(a:IsFace J n d)(m:X∈j0 J (n,d)):∃g h:V×Int,IsFace J g.1 g.2/\IsFace J h.1 h.2/\(n,d)≠g/\(n,d)≠h/\g≠h/\d6 n X=d/\d6 g.1 X=g.2/\d6 h.1 X=h.2:=by
 have S:=a.aa2 ho;let{Y,s}:=dS S m;let{W,o}:=US S m;have b:=S.aa1.mp s;have i:=S.aa1.mp o;let{k,f}:=fJ hs ho a b;let{t,j}:=fJ hs ho a i;have l:W≠Y:=λe=>by subst e;show jV hs ho a b i
 show{_,_,k,t,λe=>?_,λe=>?_,λe=>?_,(d8.mp b.p).2,(d8.mp f.q).2,(d8.mp j.p).2}
 .rw[<-e]at f;show jV hs ho a b f
 .rw[<-e]at j;show jV hs ho a i j
 .
  have st:=S.strict b (zS S o).1 (i.ne) l;have u:=(d8.mp b.p).2;have v:=(d8.mp f.p).2;have w:=(d8.mp f.q).2;have r:=(d8.mp j.q).2;rw[<-e]at r;have x:cr (Y-X) (W-X)≠0:=λq=>by unfold i9 at st;rw[q,P4]at st;lia
  let{Z,y,z}:=hs.below a.prim.ne a.sup;let{A,B}:=kP a.prim k.prim a.sup k.sup u ((d8.mp b.q).2) ((d8.mp i.p).2) w v r x y z;have:(n,d)=b8 Y X J:=aDt A B;rw[<-this]at f;show jV hs ho a b f
theorem OU(r:IsFace J n d)(g:IsFace J m e)(h:EdgeOf n (λX=>X∈z7 n d J) a b)(ga:d6 m a=e)(gb:d6 m b=e):(m,e)=(n,d)\/(m,e)=b8 b a J:=by
 let{pa,da}:=d8.mp h.p;let{pb,db}:=d8.mp h.q;let{H,I}:=fJ hs ho r h;have hab:d6 n (a-b)=0:=by rw[d9];lia
 have C:=xG (n:=n) r.prim.ne hab;obtain⟨P,pP,eP,hP⟩:∃P∈J,d6 m P=e/\cr (a-b) (P-b)≠0:=by
  by_cases z:∃P∈J,d6 m P=e/\cr (a-b) (P-b)≠0
  .show z
  exfalso;let{A,hA,B,hB,D,hD,eA,eB,eD,hc}:=g.three;have k:=λX hX dX=>by
   by_cases q:cr (a-b) (X-b)=0
   .show q
   show absurd {X,hX,dX,q} z
  have k2:∀X∈J,d6 m X=e->∀Y∈J,d6 m Y=e->cr (X-Y) (a-b)=0:=λX hX dX Y hY dY=>by have s:=k X hX dX;have f:=k Y hY dY;have a1:=km V.x s;have a2:=km V.y s;have a3:=km V.z s;have I:=km V.x f;have b2:=km V.y f;have b3:=km V.z f;simp at a1 a2 a3 I b2 b3;apply ext<;>simp<;>grind
  show hc (sJ (λq=>h.ne (N2 q)) (k2 B hB eB A hA eA)<|k2 D hD eD A hA eA)
 have mab:d6 m (a-b)=0:=by rw[d9];lia
 have mP:d6 m (P-b)=0:=by rw[d9];lia
 let{k,l,hk,L}:=B7 g.prim.ne (J5 mab mP);have dl:=λw=>by have:=km (λv=>d6 v w) L;erw[N3,V1]at this;show this
 have l0:l≠0:=λq=>hP (by rw[q,x4]at L;have s:=km V.x L;have f:=km V.y L;have q3:=km V.z L;simp at s f q3;show ext ((aAo.mp s).resolve_left (by lia)) ((aAo.mp f).resolve_left (by lia)) ((aAo.mp q3).resolve_left (by lia)))
 have N:∀Q∈J,d6 m (Q-b)<=0:=λQ hQ=>by rw[d9];have:=g.sup Q hQ;lia
 let{Z,hZ,hz}:=hs.below r.prim.ne r.sup;by_cases hl:0<l
 .
  right;obtain⟨O,hO,eO⟩:∃O∈z7 (b8 b a J).1 (b8 b a J).2 J,0<i9 (b8 b a J).1 (a-b) (O-b):=H.ac4 I;let{pO,dO}:=d8.mp hO;let{_,e1b}:=d8.mp I.p;let{_,e1a}:=d8.mp I.q;have t1:i9 (a-b) (P-b) (O-b)<=0:=by
   have q:=dl (O-b);have:=aBa (N O pO) (aAz hl);rw[aEz]at this;by_cases z:i9 (a-b) (P-b) (O-b)<=0
   .show z
   have:=aAw hk (show 0<i9 (a-b) (P-b) (O-b)by lia);lia
  have i:cr (b8 b a J).1 (cr (a-b)<|O-b)=0:=J5 (by rw[d9];lia) (by rw[d9];lia);let{k',t,T,j}:=B7 H.prim.ne i;have o:∀w,k'*i9 (a-b) (O-b) w=t*d6 (b8 b a J).1 w:=λw=>by have:=km (λv=>d6 v w) j;erw[N3,V1]at this;show this
  have jc:0<t:=by
   have q:=km (d6 (b8 b a J).1) j;rw[w8,w8]at q;have f:0<d6 (b8 b a J).1 (cr (a-b)<|O-b):=eO;have:=aAw T f;have hn:=t4 H.prim.ne;by_cases z:0<t
   .show z
   have:=aAL (show t<=0 by lia) (aAz hn);simp at this;lia
  have t2:i9 (a-b) (O-b) (P-b)<=0:=by
   have q:=o (P-b);have h0:d6 (b8 b a J).1 (P-b)<=0:=by rw[d9];have:=H.sup P pP;lia
   have:=aBa h0 (aAz jc);rw[aEz]at this;by_cases z:i9 (a-b) (O-b) (P-b)<=0
   .show z
   have:=aAw T (show 0<i9 (a-b) (O-b) (P-b)by lia);lia
  have t3:i9 (a-b) (O-b) (P-b)=0:=by rw[l5]at t1;lia
  have U:=o (P-b);rw[t3,aEz]at U;have onP':d6 (b8 b a J).1 P=(b8 b a J).2:=by have:=(aAo.mp U.symm).resolve_left (by lia);rw[d9]at this;lia
  let{Z',u,E}:=hs.below g.prim.ne g.sup;let{s,f}:=kP g.prim H.prim g.sup H.sup gb ga eP e1b e1a onP' hP u E;show aDt s f
 .
  left;have jl:l<0:=by lia
  let{O,hO,eO}:=r.ac4 h;let{pO,dO}:=d8.mp hO;rw[rV]at eO;have t1:0<=i9 (a-b) (P-b) (O-b):=by
   have q:=dl (O-b);have h2:0<=l*d6 m (O-b):=by
    have:=aAR (show 0<=-l by lia) (show 0<=-d6 m (O-b)by have:=N O pO;lia)
    rwa [aDA]at this
   by_cases z:0<=i9 (a-b) (P-b) (O-b)
   .show z
   have:=aBm hk (show i9 (a-b) (P-b) (O-b)<0 by lia);lia
  have i:cr n (cr (b-a)<|O-b)=0:=J5 (by rw[d9];lia) (by rw[d9];lia);let{k',t,T,j}:=B7 r.prim.ne i;have o:∀w,k'*i9 (b-a) (O-b) w=t*d6 n w:=λw=>by have:=km (λv=>d6 v w) j;erw[N3,V1]at this;show this
  have jc:0<t:=by
   have q:=km (d6 n) j;rw[w8,w8]at q;have f:0<d6 n (cr (b-a)<|O-b):=eO;have:=aAw T f;have hn:=t4 r.prim.ne;by_cases z:0<t
   .show z
   have:=aAL (show t<=0 by lia) (aAz hn);simp at this;lia
  have t2:i9 (b-a) (O-b) (P-b)<=0:=by
   have q:=o (P-b);have h0:d6 n (P-b)<=0:=by rw[d9];have:=r.sup P pP;lia
   have:=aBa h0 (aAz jc);rw[aEz]at this;by_cases z:i9 (b-a) (O-b) (P-b)<=0
   .show z
   have:=aAw T (show 0<i9 (b-a) (O-b) (P-b)by lia);lia
  have e3:i9 (b-a) (O-b) (P-b)=i9 (a-b) (P-b) (O-b):=by simp[i9,d6];grind
  have t3:i9 (b-a) (O-b) (P-b)=0:=by lia
  have U:=o (P-b);rw[t3,aEz]at U;have onn:d6 n P=d:=by have:=(aAo.mp U.symm).resolve_left (by lia);rw[d9]at this;lia
  let{Z',u,E}:=hs.below g.prim.ne g.sup;let{s,f}:=kP g.prim r.prim g.sup r.sup gb ga eP db da onn hP u E;show aDt s f
end
def CG(i:k9 J)(j:m∈J)(k:∀X∈J,X=m\/i5 (X-m)):
  iG (b8 m (m+kk) J).1/\m∈z7 (b8 m (m+kk) J).1 (b8 m (m+kk) J).2 J/\∃a∈z7 (b8 m (m+kk) J).1 (b8 m (m+kk) J).2 J,m≠a:=by
 have C:ConeM (m+kk-m) (λw=>0<w.x\/(w.x=0/\0<w.y)):=by rw[M8];show KD
 have l:m+kk-m≠0:=by rw[M8];intro e;have:=km V.z e;simp[kk]at this
 have b:∀P∈J,(0<(P-m).x\/((P-m).x=0/\0<(P-m).y))\/cr (m+kk-m) (P-m)=0:=λP o=>by
  rw[M8];rcases k P o with e|e
  .right;subst e;rw[A8];apply ext<;>simp
  unfold i5 at e;rcases e with e|⟨f,e|⟨p,B⟩⟩
  .show .inl (.inl e)
  .show .inl (.inr {f,e})
  right;apply ext
  .simp[kk];simp at p;lia
  .simp[kk];simp at f;lia
  simp[kk]
 have r:∃P∈J,0<(P-m).x\/((P-m).x=0/\0<(P-m).y):=by
  by_cases z:∃P∈J,0<(P-m).x\/((P-m).x=0/\0<(P-m).y)
  .show z
  exfalso;let{Z,h,e}:=i.off (n:={1,0,0}) (d:=m.x) (λe=>by have:=km V.x e;simp at this);have w:=(b Z h).resolve_left λq=>z {Z,h,q};rw[M8]at w;have:=km V.y w;simp[kk]at this;simp[d6]at e
  lia
 let{a,g,s,E,H,I,t,u,v,L,A,N}:=Y0 C l b r;show{t,d8.mpr {j,u.symm},a,d8.mpr {s,A},λe=>?_}
 simp_all
section
variable{J:List V} (hs:k9 J) (ho:J.Pairwise (λa b=>i5 (b-a)))
include hs ho
theorem TH(d:IsFace J f.1 f.2)(e:IsFace J g.1 g.2)(k:(a,b)∈T8 (j0 J f))(l:(a,b)∈T8 (j0 J g)):f=g:=by
 have i:=(d.aa2 ho).aa1.mp k;have h:=(e.aa2 ho).aa1.mp l;let{m,j}:=fJ hs ho d i;rcases OU hs ho d e i (d8.mp h.p).2 (d8.mp h.q).2 with q|q
 .show q.symm
 exfalso;have:g=b8 b a J:=q;rw[<-this]at j;show jV hs ho e h j
theorem NU(h:l.Nodup):(T8 l).Nodup:=by
 have:((T8 l).map (·.1)).Nodup:=by
  unfold T8;rw[List.map_fst_zip]
  .show h
  simp;lia
 show(aBN.mp this).imp λ{a b} h e=>h (by rw[e])
def MH(J:List V)(fs:List (V×Int)):List (V×V):=fs.flatMap λf=>T8 (j0 J f)
omit hs ho in
theorem XC(fs:List (V×Int)):(MH J fs).length=(fs.map λf=>(j0 J f).length).sum:=by
 induction fs with
 |nil=>rfl
 |cons f fs a=>change(T8 (j0 J f)++MH J fs).length=_;rw[aAy,a,aAm,aCt];unfold T8;simp;lia
theorem rB:∀{fs:List (V×Int)},fs.Nodup->(∀f∈fs,IsFace J f.1 f.2)->(MH J fs).Nodup
 |[],_,_=>aCR
 |f::fs,i,b=>by have d:=aAY.mp i;have h:=b f (.head _);change(T8 (j0 J f)++MH J fs).Nodup;rw[aDG];show{NU hs ho ((h.aa2 ho).aa4),rB d.2 λg a=>b g (.tail _ a),λe j m k q=>?_};subst q;let{g,a,l}:=aBe.mp k;show d.1 (TH hs ho h (b g<|.tail _ a) j l▸a)
theorem gK{fs:List (V×Int)}(s:fs.Nodup)(j:∀f∈fs,IsFace J f.1 f.2):(fs.map λf=>(j0 J f).length).sum+J.length<=J.length*J.length:=by
 have i:J.Nodup:=ho.imp λ{a b} h e=>by subst e;show K6 h
 have t:(MH J fs++J.map λa=>(a,a)).Nodup:=by rw[aDG];show{(rB hs ho s j),aBN.mpr (i.imp λ{a b} h e=>h (Prod.mk.inj e).1),λe d y u q=>?_};subst q;let{g,k,m}:=aBe.mp d;let{a,_,rfl}:=aAj.mp u;show(((j g k).aa2 ho).aa1.mp m).ne rfl
 have v:∀e∈MH J fs++J.map (λa=>(a,a)),e∈J.flatMap λa=>J.map λb=>(a,b):=λe d=>by
  rcases aAS.mp d with d|d
  .let{g,k,m}:=aBe.mp d;have n:=((j g k).aa2 ho).aa1.mp m;show aBe.mpr {e.1,(d8.mp n.p).1,aAj.mpr {e.2,(d8.mp n.q).1,rfl}}
  let{a,o,rfl}:=aAj.mp d;show aBe.mpr {a,o,aAj.mpr {a,o,rfl}}
 have r:=Q4 t v;have w:(J.flatMap λa=>J.map λb=>(a,b)).length=J.length*J.length:=by
  have:∀l:List V,(l.flatMap λa=>J.map λb=>(a,b)).length=l.length*J.length:=λl=>by
   induction l with
   |nil=>simp
   |cons a l x=>rw[aEp,aAy,x,aAf,aAp,Nat.succ_mul];lia
  show this J
 rw[aAy,XC,aAf,w]at r;show r
theorem oW{fs:List (V×Int)}(a:∀f∈fs,IsFace J f.1 f.2):3*fs.length<=(fs.map λf=>(j0 J f).length).sum:=by
 induction fs with
 |nil=>simp
 |cons f fs b=>
  have:=b λg d=>a g (.tail _ d);let{r,s,t,l,e}:=C7 ho (a f<|.head _);have h:(j0 J f).length=l.length+3:=by change(l9 f.1 (z7 f.1 f.2 J)).length=_;rw[e];simp
  rw[aAm,aCt,aAp,h]
  lia
end
theorem nP:∀(J:List V) (d b:V),(G7 a A J d b).2∈J\/(G7 a A J d b).2=b
 |[],d,b=>.inr rfl
 |P::e,d,b=>by
  unfold G7;split
  .rcases nP e (cr a (P-A)) P with h|h
   .show .inl (.tail _ h)
   show .inl (by rw[h];show .head _)
  rcases nP e d b with h|h
  .show .inl (.tail _ h)
  show .inr h
section
variable{J c:List V} (hs:k9 J) (ho:J.Pairwise (λa b=>i5 (b-a))) (de:c.Pairwise (λa b=>i5 (b-a))) (hc:∀X,X∈c↔∃f:V×Int,IsFace J f.1 f.2/\X∈j0 J f)
include hs ho de hc
theorem xq(h:X∈c):X∈J:=by let{f,a,b}:=(hc X).mp h;show(d8.mp<|(a.aa2 ho).aa3 b).1
theorem lX(a:IsFace J n d)(h:X∈j0 J (n,d)):X∈z7 n d c:=d8.mpr {(hc X).mpr {(n,d),a,h},((d8.mp<|(a.aa2 ho).aa3 h).2)}
theorem a3t(h:X∈z7 n d c):X∈z7 n d J:=d8.mpr {xq hs ho de hc (d8.mp h).1,(d8.mp h).2}
theorem nW(a:IsFace J n d):IsFace c n d:=by
 have S:=a.aa2 ho;let{r,s,t,l,e}:=C7 ho a;have g:r∈l9 n (z7 n d J):=by simp_all
 have i:s∈l9 n (z7 n d J):=by simp_all
 have f:t∈l9 n (z7 n d J):=by simp_all
 have b:=S.aa4;rw[e]at b;simp at b;have st:=S.strict (S.aa1.mp (by rw[e];simp[T8])) f (λq=>b.1.2.1 q.symm) (λq=>b.2.1.1 q.symm);have k:=λ{X} (h:X∈l9 n (z7 n d J))=>lX hs ho de hc a h;show{a.prim,λX j=>a.sup X (xq hs ho de hc j),r,(d8.mp<|k g).1,s,(d8.mp<|k i).1,t,(d8.mp<|k f).1,(d8.mp<|k g).2,(d8.mp<|k i).2,(d8.mp<|k f).2,λq=>?_};unfold i9 at st;rw[q,P4]at st
 lia
theorem zW(e:IsFace J n d)(h:EdgeOf n (λX=>X∈z7 n d J) a b):EdgeOf n (λX=>X∈z7 n d c) a b:=by have S:=e.aa2 ho;have m:=zS S (S.aa1.mpr h);show{lX hs ho de hc e m.1,lX hs ho de hc e m.2,h.ne,λX f=>h.left X (a3t hs ho de hc f),λX f=>h.btw X (a3t hs ho de hc f)}
omit hs ho de hc in
theorem rQ{R:V->Prop}{E:List (V×V)}(g:∀a b,R a->(a,b)∈E->R b):∀(x:V) (l:List V),R x->(∀e∈n8 (x::l),e∈E)->∀X∈x::l,R X
 |x,[],f,_,X,d=>by rw[aAT.mp d];show f
 |x,y::l,f,h,X,d=>by
  have i:=g x y f (h (x,y) (by simp[n8]));rcases aAi.mp d with rfl|d
  .show f
  show rQ g y l i (λe j=>h e (by erw[n8,aAi];show .inr j)) X d
theorem GZ(i:IsFace J n d)(h:X∈l9 n (z7 n d c)):X∈l9 n (z7 n d J):=by
 have S:=i.aa2 ho;have o:=(nW hs ho de hc i).aa2 de;let{m,r,e,t,u}:=o.ab8;let{g,H,p,v,w}:=S.ab8;have x:m=g:=by
  have y:g∈z7 n d c:=lX hs ho de hc i (show g∈l9 n (z7 n d J)by rw[p];simp);rcases u g y with q|q
  .show q.symm
  rcases w m (a3t hs ho de hc t)with j|j
  .show j
  show absurd (z6.add q j) (by
   have:(g-m)+(m-g)=0:=by apply ext<;>simp<;>lia
   rw[this];showλz=>by simp[i5]at z)
 have step:∀a b,a∈l9 n (z7 n d J)->(a,b)∈T8 (l9 n<|z7 n d c)->b∈l9 n (z7 n d J):=λa b A k=>by let{I,s}:=dS S A;have B:=o.aa1.mp k;have C:=zW hs ho de hc i (S.aa1.mp s);rw[B.next C];show(zS S s).2
 rw[e]at h;show rQ (E:=T8 (l9 n<|z7 n d c)) (R:=λX=>X∈l9 n (z7 n d J)) step m r (by rw[x,p];simp) (λf l=>?_) X h;rw[e,Q5];show X1 r m m f l
theorem BY(f:IsFace J n d)(h:EdgeOf n (λX=>X∈z7 n d c) a b):EdgeOf n (λX=>X∈z7 n d J) a b:=by have S:=f.aa2 ho;have g:=(nW hs ho de hc f).aa2 de;let{j,i}:=dS S (GZ hs ho de hc f<|g.ac5 h);have e:=S.aa1.mp i;rw[h.next (zW hs ho de hc f e)];show e
theorem JG(b:IsFace J n d):k9 c:=by
 have S:=b.aa2 ho;let{r,s,t,l,e}:=C7 ho b;have y:r∈l9 n (z7 n d J):=by rw[e];simp
 have p:t∈l9 n (z7 n d J):=by rw[e];simp
 have i:=S.aa4;rw[e]at i;simp at i;have a:EdgeOf n (λX=>X∈z7 n d J) r s:=S.aa1.mp (by rw[e];simp[T8]);have st:=S.strict a p (λq=>i.1.2.1 q.symm) (λq=>i.2.1.1 q.symm);let{j,A}:=fJ hs ho b a;generalize(b8 s r J).1=m at*
 generalize(b8 s r J).2=f at*
 have T:=j.aa2 ho;let{C,E,H,l2,o}:=C7 ho j;have g:=T.aa4;rw[o]at g;simp at g;obtain⟨Y,x,I,L⟩:∃Y∈l9 m (z7 m f J),Y≠s/\Y≠r:=by
  have q1:C∈l9 m (z7 m f J):=by rw[o];simp
  have q2:E∈l9 m (z7 m f J):=by rw[o];simp
  have q3:H∈l9 m (z7 m f J):=by rw[o];simp
  grind
 have lt:=yT hs j b A a (T.aa3 x) (T.strict A x I L);have k:=λ{X} (h:X∈l9 n (z7 n d J))=>lX hs ho de hc b (X:=X) h;have B:s∈l9 n (z7 n d J):=by rw[e];simp
 have dr:=(d8.mp<|k y).2;have N:=(d8.mp<|k B).2;have dt:=(d8.mp<|k p).2;show{r,(d8.mp<|k y).1,s,(d8.mp<|k B).1,t,(d8.mp<|k p).1,Y,(d8.mp<|lX hs ho de hc j x).1,λz=>?_};have O:d6 n (s-r)=0:=by rw[d9];lia
 have Q:d6 n (t-r)=0:=by rw[d9];lia
 have U:d6 n (Y-r)<0:=by rw[d9];lia
 have id:i9 (s-r) (t-r) (Y-r)*d6 n n=i9 n (s-r) (t-r)*d6 n (Y-r)+d6 n (s-r)*(d6 n (t-r)*0)+(d6 n (s-r)*i9 n (t-r) (Y-r)+d6 n (t-r)*i9 n (Y-r) (s-r)):=by
  generalize s-r=u;generalize t-r=v;generalize Y-r=w;have:=UN n n u v w
  lia
 rw[z,O,Q]at id;have:i9 n (s-r) (t-r)*d6 n (Y-r)<0:=aBm st U
 lia
theorem ZQ(fs:List (V×Int))(k:fs≠[])(e:∀f,f∈fs↔IsFace J f.1 f.2):IsFace c n d↔IsFace J n d:=by
 show{λh=>?_,nW hs ho de hc};let{o,g}:=aFy fs k;have:=wW (JG hs ho de hc<|(e o).mp g) de fs k (λf i=>nW hs ho de hc ((e f).mp i)) (λf i a b j=>?_) h
 .show(e _).mp this
 have l:=(e f).mp i;let{m,p}:=fJ hs ho l (BY hs ho de hc l j);show{b8 b a J,(e _).mpr m,zW hs ho de hc m p}
theorem UL(b:X∈c):∃f:V×Int,IsFace c f.1 f.2/\X∈j0 c f:=by let{{n,d},a,h}:=(hc X).mp b;have S:=a.aa2 ho;let{Q,e}:=dS S h;show{(n,d),nW hs ho de hc a,((nW hs ho de hc a).aa2 de).ac5 (zW hs ho de hc a<|S.aa1.mp e)}
end
def a3q{Pos:V->Prop}(C:Cone Pos){n m p v q u:V}(g:n≠0)(o:d6 n p=0)(d:d6 n v=0)(f:d6 n q=0)(r:d6 n u=0)(A:Pos p)(i:Pos v)(j:Pos q)(B:Pos u)(E:0<d6 m p)(mv:d6 m v<0)(k:0<d6 m q)(mu:d6 m u<0)(s:0<=i9 n v p)(t:0<=i9 n q u):False:=by
 have id:∀{a b c:V},d6 n a=0->d6 n b=0->d6 n c=0->i9 n a b*d6 m c+i9 n b c*d6 m a+i9 n c a*d6 m b=0:=λ{a b c} H I J=>by have:=UN m n a b c;rw[A7 g H I J,aFm]at this;show this
 have L:=id d o f;have N:=id f r d;rcases aDB 0 (i9 n q v)with h|h
 .
  have l:=C.tr j i A (A7 g f d o) h s;rw[(l5 n q p)]at L;have O:=aAR s (aAz k);have Q:0< -i9 n q p*d6 m v:=by have:=aAw l (show 0< -d6 m v by lia);grind
  have T:=aAw h E
  lia
 rcases aDB (i9 n q v) 0 with h'|h'
 .have e0:=l5 n q v;have w:0<i9 n v q:=by lia
  have l:=C.tr i j B (A7 g d f r) w t;rw[(l5 n v u)]at N;have O:i9 n q u*d6 m v<=0:=by have:=aAR t (show 0<=-d6 m v by lia);grind
  have Q:-i9 n v u*d6 m q<0:=by have:=aAw l k;grind
  have T:i9 n v q*d6 m u<0:=by have:=aAw w (show 0< -d6 m u by lia);grind
  lia
 have z:i9 n q v=0:=by lia
 have c0:=cV g f d z;have e:d6 m q*v+(-d6 m v)*q=0:=by have U:=km V.x c0;have Y:=km V.y c0;have hz:=km V.z c0;simp at U Y hz;apply ext<;>simp[d6]<;>grind
 have:=C.add (C.mul k i) (C.mul (show 0< -d6 m v by lia) j);rw[e]at this;show C.irr this
section
variable{n:V}{ts:List V} (S:Sheet n ts)
include S
theorem Sheet.ac7(h:X∈x9 n ts\/X∈x9 n ts.reverse):X∈l9 n ts:=by
 let{m,M,c,d,j,k,f,l,o,b,e,g,i,p,q}:=S.ends;unfold l9;rw[aAS,b,e,aAU,aAU,aBE,aBE,aBZ,aBZ];rw[b,e]at h;have a:m≠M:=λz=>by subst z;show K6 f
 rcases h with h|h
 .rcases aAi.mp h with rfl|h
  .right;have:=aCW i;rcases aAi.mp this with z|z
   .show absurd z.symm a
   show z
  show .inl h
 rcases aAi.mp h with rfl|h
 .left;have:=aCW g
  simp_all
 show .inr h
theorem Sheet.top(d:X∈ts)(h:∀Y∈ts,Y≠X->d6 m Y<d6 m X):X∈l9 n ts:=by
 let{p,n1,t1}:=S.ab3;let{r,n2,t2}:=S.ab1;have s:∀u,i5 u->i5 (-u)->False:=λu t w=>by have:=z6.add t w;have x:u+-u=0:=(by apply ext<;>simp<;>lia);rw[x]at this;show z6.irr this
 have y:∀u,Q6 u->Q6 (-u)->False:=λu t w=>by have:=bU.add t w;have x:u+-u=0:=(by apply ext<;>simp<;>lia);rw[x]at this;show bU.irr this
 rcases rD X (x9 n ts) (λY _=>R4 X Y) (λq A=>t1 X q A d) (λz B=>p.last X d z B) n1 s with C|⟨a,b,j,N,O⟩
 .show S.ac7 (.inl C)
 rcases rD X (x9 n ts.reverse) (λY _=>by
   rcases R4 X Y with z|z|z
   .show .inl z
   .show .inr (.inr (u4.mpr z))
   show .inr (.inl (u4.mpr z))) (λq A=>t2 X q A d) (λz B=>r.last X d z B) n2 y with C|⟨o,E,f,H,jr⟩
 .show S.ac7 (.inr C)
 exfalso;have Q:=N0 S j;have T:=N0 S f;have I:=p.mem _ Q.1;have J:=p.mem _ Q.2;have g:=r.mem _ T.1;have i:=r.mem _ T.2;have E2:=(S.ae1 f g i).1.left X d;have k:=u4.mp H;have U:=u4.mp jr;have ne:∀{Y},i5 (X-Y)->Y≠X:=λL z=>by subst z;show K6 L
 have l:∀{Y},i5 (Y-X)->Y≠X:=λL z=>by subst z;show K6 L
 have va:=h a I (ne N);have vb:=h b J (l O);have va':=h o g (l k);have vb':=h E i (ne U);show a3q z6 (n:=n) (m:=m) (v:=b-X) S.nz (S.pl _ d _ I) (S.pl _ J _ d) (S.pl _ d _ i) (S.pl _ g _ d) N O U k (by rw[d9];lia) (by rw[d9];lia) (by rw[d9];lia) (by rw[d9];lia) ?_ ?_
 .have e:i9 n (b-a) (X-a)=i9 n (b-X) (X-a):=by simp[i9,d6];grind
  rw[<-e];show((S.ae2 j I J).1.left X d)
 have e:i9 n (E-o) (X-o)=i9 n (X-E) (o-X):=by simp[i9,d6];grind
 rw[<-e];show E2
end
section
variable{J:List V} (hs:k9 J)
include hs
theorem mH(a:IsFace J n d)(b:IsFace J m e)(p:d6 n X=d)(r:d6 m X=e)(h:cr m n=0):(n,d)=(m,e):=by
 let{k,l,f,g}:=B7 b.prim.ne h;let{Z,i,s}:=hs.below a.prim.ne a.sup;have j:0<l:=by
  have q:=km (λv=>d6 v (Z-X)) g;rw[N3,N3]at q;have o:d6 n (Z-X)<0:=by rw[d9];lia
  have t:d6 m (Z-X)<=0:=by rw[d9];have:=b.sup Z i;lia
  have u:=aBm f o;by_cases z:0<l
  .show z
  exfalso;have:0<=l*d6 m (Z-X):=by
   have:=aAR (show 0<=-l by lia) (show 0<=-d6 m (Z-X)by lia)
   rwa [aDA]at this
  lia
 have w:=yU a.prim b.prim f j g
 simp_all
theorem HF{a b c:Int}(j:IsFace J n d)(l:IsFace J m e)(o:IsFace J k f)(hX:d6 n X=d)(qe:d6 m X=e)(p:d6 k X=f)(hc:0<c)(r:0<a)(s:0<b)(h:c*k=a*n+b*m)(t:cr n m≠0):False:=by
 let{A,u,B,w,C,x,y,E,H,g}:=o.three;have on:∀Y∈J,d6 k Y=f->d6 n Y=d/\d6 m Y=e:=λY i hy=>by
  have h1:=j.sup Y i;have h2:=l.sup Y i;have q:=km (λv=>d6 v (Y-X)) h;have q:c*d6 k (Y-X)=a*d6 n (Y-X)+b*d6 m (Y-X):=by
   have I:d6 (a*n+b*m) (Y-X)=a*d6 n (Y-X)+b*d6 m (Y-X):=by simp[d6];grind
   rw[<-(N3 ..),<-I];show q
  have L:d6 k (Y-X)=0:=by rw[d9];lia
  rw[L,aEz]at q;have N:d6 n (Y-X)<=0:=by rw[d9];lia
  have O:d6 m (Y-X)<=0:=by rw[d9];lia
  have a0:=aEa (aAz r) N;have b0:=aEa (aAz s) O;have Q:a*d6 n (Y-X)=0:=by lia
  have T:b*d6 m (Y-X)=0:=by lia
  have U:d6 n (Y-X)=0:=by rcases aAo.mp Q with z|z;lia;show z
  have y2:d6 m (Y-X)=0:=by rcases aAo.mp T with z|z;lia;show z
  rw[d9]at U y2;show{by lia,by lia}
 let{a1,a2}:=on A u y;let{b1,b2}:=on B w E;let{c1,c2}:=on C x H;have p2:cr m (cr (B-A)<|C-A)=0:=J5 (by rw[d9];lia) (by rw[d9];lia);show t (sJ g (J5 (by rw[d9];lia) (by rw[d9];lia)) p2)
theorem xK(o:IsFace J n d)(p:IsFace J m e)(i:IsFace J k f)(B:d6 n X=d)(C:d6 m X=e)(E:d6 k X=f)(n12:(n,d)≠(m,e))(n13:(n,d)≠(k,f))(n23:(m,e)≠(k,f)):i9 n m k≠0:=λz=>by
 have H:cr n m≠0:=λq=>n12 (mH hs p o C B q).symm;have I:cr n k≠0:=λq=>n13 (mH hs i o E B q).symm;have L:cr m k≠0:=λq=>n23 (mH hs i p E C q).symm;have j:∀{u v:V},cr u v≠0->cr v u≠0:=λ{u v} h q=>h (by have N:=km V.x q;have g:=km V.y q;have A:=km V.z q;simp at N g A;apply ext<;>simp<;>grind)
 obtain⟨w,ew⟩:∃w,w=cr n m:={_,rfl};have r:=IF w n m k;rw[z]at r;have O:0<i9 w n m:=by
  have:i9 w n m=d6 w w:=by rw[ew];rfl
  rw[this,ew];show t4 H
 obtain⟨c,ec⟩:∃c,c=i9 w n m:={_,rfl};obtain⟨a,ea⟩:∃a,a=-i9 w m k:={_,rfl};obtain⟨b,eb⟩:∃b,b=-i9 w k n:={_,rfl};have T:c*k=a*n+b*m:=by rw[ec,ea,eb];have N:=km V.x r;have g:=km V.y r;have A:=km V.z r;simp at N g A;apply ext<;>simp<;>lia
 rw[<-ec]at O;have U:=km V.x T;have Y:=km V.y T;have vz:=km V.z T;simp at U Y vz;have l:∀{u v:V}{s t:Int},s≠0->s*u=t*v->cr u v=0:=λ{u v s t} jo h=>by
  have N:=km V.x h;have g:=km V.y h;have A:=km V.z h;simp at N g A;have go:∀y:Int,s*y=0->y=0:=λy g=>by rcases aAo.mp g with q|q;show absurd q jo;show q
  apply ext<;>simp<;>apply go<;>grind
 rcases aDB 0 a with ha|ha
 .rcases aDB 0 b with Q|Q
  .show HF hs o p i B C E O ha Q T H
  rcases aDB b 0 with jr|jr
  .
   show HF hs i p o E C B ha O (show 0< -b by lia) (c:=a) (a:=c) (b:=-b) ?_ (j L);apply ext<;>simp<;>lia
  have b0:b=0:=by lia
  show I (l (u:=n) (v:=k) (s:=a) (t:=c) (by lia) ?_);rw[b0]at U Y vz;apply ext<;>simp<;>lia
 rcases aDB a 0 with ha'|ha'
 .rcases aDB 0 b with Q|Q
  .show HF hs i o p E B C Q O (show 0< -a by lia) (c:=b) (a:=c) (b:=-a) ?_ (j I);apply ext<;>simp<;>lia
  .
   let{Z,hZ,A}:=hs.below i.prim.ne i.sup;have q:c*d6 k (Z-X)=a*d6 n (Z-X)+b*d6 m (Z-X):=by simp[d6];grind
   have k0:d6 k (Z-X)<0:=by rw[d9];lia
   have n0:d6 n (Z-X)<=0:=by rw[d9];have:=o.sup Z hZ;lia
   have m0:d6 m (Z-X)<=0:=by rw[d9];have:=p.sup Z hZ;lia
   have t1:c*d6 k (Z-X)<0:=aBm O k0;have t2:0<=a*d6 n (Z-X):=by
    have:=aAR (show 0<=-a by lia) (show 0<=-d6 n (Z-X)by lia)
    rwa [aDA]at this
   have t3:0<=b*d6 m (Z-X):=by
    have:=aAR (show 0<=-b by lia) (show 0<=-d6 m (Z-X)by lia)
    rwa [aDA]at this
   lia
 have a0:a=0:=by lia
 by_cases b0:b=0
 .rw[a0,b0]at U Y vz;have k0:k=0:=by
   have go:∀y:Int,c*y=0->y=0:=λy g=>by rcases aAo.mp g with q|q;lia;show q
   apply ext<;>simp<;>apply go<;>lia
  show i.prim.ne k0
 show L (l (u:=m) (v:=k) (s:=b) (t:=c) b0 ?_);rw[a0]at U Y vz;apply ext<;>simp<;>lia
theorem sT(t:J.Pairwise (λa b=>i5 (b-a)))(u:X∈J)(g:IsFace J n d)(o:IsFace J m e)(p:IsFace J k f)(r:d6 n X=d)(v:d6 m X=e)(w:d6 k X=f)(h:(n,d)≠(m,e))(i:(n,d)≠(k,f))(j:(m,e)≠(k,f)):X∈j0 J (n,d):=by
 show(g.aa2 t).top (m:=n+m+k) (d8.mpr {u,r}) λY x z=>?_;have l:=(d8.mp x).1;have I:=g.sup Y l;have L:=o.sup Y l;have N:=p.sup Y l;have s:∀Z,d6 (n+m+k) Z=d6 n Z+d6 m Z+d6 k Z:=λZ=>by simp[d6];grind
 rw[s,s];rcases aDB (d6 n Y+d6 m Y+d6 k Y) (d6 n X+d6 m X+d6 k X)with q|q
 .show q
 exfalso;have A:d6 n (Y-X)=0:=by rw[d9];lia
 have B:d6 m (Y-X)=0:=by rw[d9];lia
 have C:d6 k (Y-X)=0:=by rw[d9];lia
 show z (N2 ?_);generalize Y-X=y at*
 have E:∀y:Int,i9 n m k*y=0->y=0:=λy H=>by rcases aAo.mp H with q|q;show absurd q (xK hs g o p r v w h i j);show q
 simp[d6]at A B C;apply ext<;>simp<;>apply E<;>simp[i9,d6]<;>grind
end
def Up(J:List V)(A B C:V):Prop:=(∀X∈J,d6 (cr (B-A)<|C-A) (X-A)<=0)/\∃X∈J,d6 (cr (B-A)<|C-A) (X-A)<0
def Dn(J:List V)(A B C:V):Prop:=(∀X∈J,0<=d6 (cr (B-A)<|C-A) (X-A))/\∃X∈J,0<d6 (cr (B-A)<|C-A) (X-A)
def a9w(J:List V)(A B C:V):Prop:=∃i j k:Nat,i<j/\j<k/\J[i]?=some A/\J[j]?=some B/\J[k]?=some C
def YU{J:List V}{A B C:V}(E:A∈J)(H:B∈J)(I:C∈J)(e:cr (B-A) (C-A)≠0):∃r s t,a9w J r s t/\cr (s-r) (t-r)≠0/\∀p:V->Prop,p A->p B->p C->p r/\p s/\p t:=by
 let{i,g}:=aBO.mp E;let{j,f}:=aBO.mp H;let{k,d}:=aBO.mp I;have l:∀{v w:V},v≠0->(w=v\/w=-v)->w≠0:=λ{v w} u h z=>by
  rcases h with h|h
  .show u (h▸z)
  rw[h]at z;have L:=km V.x z;have N:=km V.y z;have O:=km V.z z;simp at L N O;show u (ext (by erw[EO];lia) (by erw[EZ];lia) (by erw[GI];lia))
 have Q:i≠j:=λq=>by
  subst q;rw[g]at f;injection f with f;subst f
  show e (by apply ext<;>simp)
 have T:i≠k:=λq=>by
  subst q;rw[g]at d;injection d with d;subst d
  show e (by apply ext<;>simp)
 have U:j≠k:=λq=>by
  subst q;rw[f]at d;injection d with d;subst d
  show e (by apply ext<;>simp<;>grind)
 rcases aEd Q with m|m<;>rcases aEd T with n|n<;>rcases aEd U with o|o
 .show{A,B,C,{i,j,k,m,o,g,f,d},e,λp a b c=>{a,b,c}}
 .show{A,C,B,{i,k,j,n,o,g,d,f},l e (.inr (by apply ext<;>simp<;>grind)),λp a b c=>{a,c,b}}
 .omega
 .show{C,A,B,{k,i,j,n,m,d,g,f},l e (.inl (by apply ext<;>simp<;>grind)),λp a b c=>{c,a,b}}
 .show{B,A,C,{j,i,k,m,n,f,g,d},l e (.inr (by apply ext<;>simp<;>grind)),λp a b c=>{b,a,c}}
 .omega
 .show{B,C,A,{j,k,i,o,n,f,d,g},l e (.inl (by apply ext<;>simp<;>grind)),λp a b c=>{b,c,a}}
 show{C,B,A,{k,j,i,o,m,d,f,g},l e (.inr (by apply ext<;>simp<;>grind)),λp a b c=>{c,b,a}}
abbrev T3:=V×V×V
def tr(r:T3):T3:=({r.1.x,r.2.1.x,r.2.2.x},{r.1.y,r.2.1.y,r.2.2.y},{r.1.z,r.2.1.z,r.2.2.z})
def a9s:T3:=({1,0,0},{0,1,0},{0,0,1})
def b1w(r:T3):tr (tr r)=r:=rfl
abbrev Mv:=T3×V
def yw:Mv:=(a9s,0)
section
variable{J qts:List V}{m:Mv}{n:V}{d:Int}
end
section
end
section
variable{J qts:List V}{n:V}{d:Int}
def xW(t:Int)(v:V):V:={t*v.x,t*v.y,t*v.z}
end
structure Sl where
 a:Int
 b:Int
 c:Int
 w:V
 t:Bool
def Sl.put(s:Sl)(P:V):V:=
 let x:=P.x+s.a*P.y
 let y:=P.y+s.b*P.z
 let z:=P.z+s.c*x
 if s.t then{y+s.w.x,x+s.w.y,z+s.w.z}else{x+s.w.x,y+s.w.y,z+s.w.z}
def Sl.mv(s:Sl):Mv:=
 let d:V:={1,s.a,0}
 let e:V:={0,1,s.b}
 let f:V:={s.c,s.c*s.a,1}
 (if s.t then(e,d,f)else(d,e,f),s.w)
def OK{t:Int}(d:t≠0){J a:List V}(b:∀X∈J,xW t X∈a)(S:k9 J):k9 a:=by
 let{A,f,B,g,C,h,D,i,e}:=S;show{_,b A f,_,b B g,_,b C h,_,b D i,?_};have:i9 (xW t B-xW t A) (xW t C-xW t A) (xW t D-xW t A)=t*t*t*i9 (B-A) (C-A) (D-A):=by simp[xW,i9,d6,cr];grind
 rw[this];intro z;rcases aAo.mp z with z|z
 .rcases aAo.mp z with z|z
  .rcases aAo.mp z with z|z<;>show d z
  show d z
 show e z
def vD{n m k y:V}(a:i9 n m k≠0)(d:d6 n y=0)(g:d6 m y=0)(h:d6 k y=0):y=0:=by
 have i:∀t:Int,i9 n m k*t=0->t=0:=λt j=>by
  rcases aAo.mp j with q|q
  .show absurd q a
  show q
 have e:∀f:V->Int,(f=(·.x)\/f=(·.y)\/f=(·.z))->i9 n m k*f y=d6 n y*f (cr m k)+d6 m y*f (cr k n)+d6 k y*f (cr n m):=λf b=>by rcases b with rfl|rfl|rfl<;>simp[i9,d6]<;>grind
 have z:=λf b=>i _ (by rw[e f b,d,g,h];simp);show ext (z _<|.inl rfl) (z _<|.inr (.inl rfl)) (z _<|.inr (.inr rfl))
def cj{a b p q d:Int}(f:0<a)(g:0<b)(i:p<=d)(j:q<=d)(e:(a+b)*d=a*p+b*q):p=d:=by
 have k:=aAR (aAz f) (show 0<=d-p by lia);have l:=aAR (aAz g) (show 0<=d-q by lia);have m:a*(d-p)+b*(d-q)=0:=by grind
 have h:a*(d-p)=0:=by
  generalize a*(d-p)=u at*
  generalize b*(d-q)=v at*
  lia
 rcases aAo.mp h with q|q<;>lia
section
variable{J:List V} (hs:k9 J) (ho:J.Pairwise (λa b=>i5 (b-a)))
include hs ho
theorem tZ(f:IsFace J n d)(p:X∈j0 J (n,d))(r:P∈J)(s:Q∈J){a b:Int}(t:0<a)(u:0<b)(e:(a+b)*X=a*P+b*Q):P=X:=by
 let{y,z,g,i,v,w,x,j,k,l}:=kL hs ho f p;have on:∀{m:V}{c:Int},IsFace J m c->d6 m X=c->d6 m (P-X)=0:=λ{m c} h o=>by have q:=km (d6 m) e;rw[w8,show d6 m (a*P+b*Q)=a*d6 m P+b*d6 m Q by simp[d6];grind,o]at q;rw[d9,o,cj t u (h.sup P r) (h.sup Q s) q];lia
 show N2 (vD (xK hs f g i j k l v w x) (on f j) (on g k)<|on i l)
theorem jj(g:∃f:V×Int,IsFace J f.1 f.2/\A∈j0 J f)(i:∃f:V×Int,IsFace J f.1 f.2/\B∈j0 J f)(j:∃f:V×Int,IsFace J f.1 f.2/\C∈j0 J f)(E:A≠B)(l:A≠C)(u:B≠C):cr (B-A) (C-A)≠0:=λz=>by
 have d:∀{X:V},(∃f:V×Int,IsFace J f.1 f.2/\X∈j0 J f)->X∈J:=λ{X} ⟨f,n,o⟩=>(d8.mp<|(n.aa2 ho).aa3 o).1;have p:∀{X P Q:V}{a b:Int},(∃f:V×Int,IsFace J f.1 f.2/\X∈j0 J f)->P∈J->Q∈J->0<a->0<b->(a+b)*X=a*P+b*Q->P=X:=λ⟨f,n,o⟩ H I L N e=>tZ hs ho n o H I L N e;let{k,m,v,e}:=B7 (a:=B-A) (w:=C-A) (λq=>E (N2 q).symm) z;have r:=km V.x e;have s:=km V.y e;have t:=km V.z e;simp at r s t;rcases Int.lt_trichotomy m 0 with h|h|h
 .show l (p g (d j) (d i) v (show 0< -m by lia) (by apply G.ext<;>simp<;>grind)).symm
 .subst h;show l (G.ext ?_ ?_ ?_)
  .rcases aAo.mp (show k*(C.x-A.x)=0 by lia)with q|q<;>lia
  .rcases aAo.mp (show k*(C.y-A.y)=0 by lia)with q|q<;>lia
  rcases aAo.mp (show k*(C.z-A.z)=0 by lia)with q|q<;>lia
 rcases Int.lt_trichotomy m k with q|q|q
 .show l (p j (d g) (d i) (show 0<k-m by lia) h (by apply G.ext<;>simp<;>grind))
 .subst q;show u (G.ext ?_ ?_ ?_)
  .rcases aAo.mp (show m*(C.x-B.x)=0 by grind)with q|q<;>lia
  .rcases aAo.mp (show m*(C.y-B.y)=0 by grind)with q|q<;>lia
  rcases aAo.mp (show m*(C.z-B.z)=0 by grind)with q|q<;>lia
 show u (p i (d j) (d g) v (show 0<m-k by lia) (by apply G.ext<;>simp<;>grind)).symm
end
section
variable{J:List V} (hs:k9 J) (ho:J.Pairwise (λa b=>i5 (b-a)))
include hs ho
end
section
variable{J qts:List V}{n:V}{d:Int}{m:Mv}
end
section
variable{p o:List V} (hs:k9 o) (ho:o.Pairwise (λa b=>i5 (b-a))) (sub:∀X∈p,X∈o) (ex:∀Y∈o,Y∈p\/∃a∈p,∃b∈p,(2:Int)*Y=a+b)
include hs ho sub ex
end
section
variable{J c:List V} (hs:k9 J) (ho:J.Pairwise (λa b=>i5 (b-a))) (de:c.Pairwise (λa b=>i5 (b-a))) (hc:∀X,X∈c↔∃f:V×Int,IsFace J f.1 f.2/\X∈j0 J f)
include hs ho de hc
end
section
variable{J:List V} (hs:k9 J) (ho:J.Pairwise (λa b=>i5 (b-a)))
include hs ho
end
section
variable{J:List V} (hs:k9 J)
include hs
end
section
variable{J:List V} (hs:k9 J) (ho:J.Pairwise (λa b=>i5 (b-a)))
include hs ho
end
theorem wC{e:Type}(a b:e->Int):∀l:List e,l≠[]->(∀x∈l,0<b x)->∃x∈l,∀y∈l,a x*b y<=a y*b x
 |[x],_,_=>{x,.head _,λy d=>by rw[aAT.mp d];show aCn _}
 |x::z::l,_,h=>by
  let{u,f,m}:=wC a b (z::l) (by simp) λy d=>h y (.tail _ d);by_cases q:a x*b u<=a u*b x
  .show{x,.head _,λy d=>?_};rcases aAi.mp d with rfl|d
   .show aCn _
   have g:=aAL q (aAz<|h y<|.tail _ d);have i:=aAL (m y d) (aAz<|h x<|.head _);show aFx (by grind) (h u<|.tail _ f)
  show{u,.tail _ f,λy d=>?_};rcases aAi.mp d with rfl|d
  .lia
  show m y d
section
variable{J:List V} (hs:k9 J) (ho:J.Pairwise (λa b=>i5 (b-a)))
include hs ho
end
section
open Classical
structure Hgt(w:V)(J:List V):Prop where
 ne:w≠0
 inj:∀X∈J,∀Y∈J,X≠Y->d6 w (X-Y)≠0
section
variable{J:List V}{w:V} (hs:k9 J) (ho:J.Pairwise (λa b=>i5 (b-a))) (hw:Hgt w J)
include hs ho hw
omit hs ho hw in
omit hs ho hw in
omit hs ho hw in
end
end
section
open Classical
variable{J:List V} (hs:k9 J) (ho:J.Pairwise (λa b=>i5 (b-a)))
include hs ho
end
section
open Classical
variable{J:List V} (hs:k9 J) (ho:J.Pairwise (λa b=>i5 (b-a))) {fs:List (V×Int)} (hfs:∀f,f∈fs↔IsFace J f.1 f.2)
include hs ho hfs
end
def smV:List V->V
 |[]=>0
 |a::l=>a+smV l
def ar(o:V)(l:List (V×V)):V:=smV (l.map λe=>cr (e.1-o) (e.2-o))
def a8e(o:V)(e:V×V)(l:List (V×V)):ar o (e::l)=cr (e.1-o) (e.2-o)+ar o l:=rfl
def sQ{n u v:V}(a:d6 n u=0)(b:d6 n v=0)(w:V):d6 n n*d6 (cr u v) w=d6 n (cr u v)*d6 n w:=by
 have z:=J5 a b;have e:d6 n n*d6 (cr u v) w-d6 n (cr u v)*d6 n w=d6 (cr n<|cr u v) (cr n w):=by simp[d6];grind
 rw[z]at e;have:d6 (0:V) (cr n w)=0:=by simp[d6]
 lia
section
variable{n:V}{d:Int}{l:List (V×V)}{a:V}
end
section
open Classical
variable{J:List V} (hs:k9 J) (ho:J.Pairwise (λa b=>i5 (b-a)))
include hs ho
variable{fs:List (V×Int)} (hfs:∀f,f∈fs↔IsFace J f.1 f.2)
include hfs
end
theorem turn_find{s:V->Int}:∀{x:V}{l:List V},0<=s x->(∀y,(x::l).getLast?=some y->s y<=0)->l≠[]->∃p∈n8 (x::l),0<=s p.1/\s p.2<=0
 |x,[],_,_,h=>absurd rfl h
 |x,[y],a,b,_=>{(x,y),.head _,a,b y rfl}
 |x,y::z::l,a,b,_=>by
  by_cases q:s y<=0
  .show{(x,y),.head _,a,q}
  let{p,d,e}:=turn_find (x:=y) (by lia) (λw f=>b w (by rw[aEb];show f)) (by simp);show{p,.tail _ d,e}
section
variable{J:List V} (hs:k9 J) (ho:J.Pairwise (λa b=>i5 (b-a)))
include hs ho
theorem MX{n m A P a b:V}{d e:Int}(h:IsFace J n d)(r:IsFace J m e)(f:EdgeOf n (λX=>X∈z7 n d J) a b)(i:EdgeOf m (λX=>X∈z7 m e J) b a)(U:d6 n A<d)(s:d6 m A<=e)(Y:(d-d6 n A)*d6 m (P-A)<=(e-d6 m A)*d6 n (P-A)):0<=i9 (P-A) (a-A) (b-A):=by
 let{X,j,l}:=h.ac4 f;have mX:=yT hs h r f i j l;have w:=(d8.mp j).2;have o:=(d8.mp f.p).2;have x:=(d8.mp f.q).2;have B:=(d8.mp i.q).2;have C:=(d8.mp i.p).2;have g:∀y:V,d6 ((e-d6 m A)*n-(d-d6 n A)*m) y=(e-d6 m A)*d6 n y-(d-d6 n A)*d6 m y:=λy=>by simp[d6];grind
 have E:cr ((e-d6 m A)*n-(d-d6 n A)*m) (cr (a-A)<|b-A)=0:=by
  show J5 ?_ ?_
  .rw[g,d9,d9,o,B];grind
  rw[g,d9,d9,x,C];grind
 have k:=sM E (X-A) (P-A);have H:0<d6 ((e-d6 m A)*n-(d-d6 n A)*m) (X-A):=by rw[g,d9,d9,w];have:=aAw (show 0<d-d6 n A by lia) (show 0<e-d6 m X by lia);grind
 have I:0<=d6 ((e-d6 m A)*n-(d-d6 n A)*m) (P-A):=by rw[g];lia
 have L:0<d6 (cr (a-A)<|b-A) (X-A):=by
  have N:=sQ (n:=n) (u:=b-a) (v:=X-a) (by rw[d9];lia) (by rw[d9];lia) (a-A);have O:d6 (cr (a-A)<|b-A) (X-A)=d6 (cr (b-a)<|X-a) (a-A):=by simp[d6];grind
  have t:d6 n (cr (b-a)<|X-a)=i9 n (b-a) (X-a):=rfl;rw[t,show d6 n (a-A)=d-d6 n A by rw[d9,o]]at N;rw[O];have Q:=t4 h.prim.ne;have:=aAw l (show 0<d-d6 n A by lia);by_cases z:0<d6 (cr (b-a)<|X-a) (a-A)
  .show z
  have:=aAR (aAz Q) (show 0<=-d6 (cr (b-a)<|X-a) (a-A)by lia);grind
 have T:i9 (P-A) (a-A) (b-A)=d6 (cr (a-A)<|b-A) (P-A):=by simp[i9,d6];grind
 rw[T];by_cases z:0<=d6 (cr (a-A)<|b-A) (P-A)
 .show z
 have x1:=aAw H (show 0< -d6 (cr (a-A)<|b-A) (P-A)by lia);have x2:=aAR I (aAz L);grind
theorem ER{A:V}{f:V×Int}(h:IsFace J f.1 f.2)(k:A∈j0 J f):∃g:V×Int,IsFace J g.1 g.2/\d6 g.1 A<g.2:=by
 have S:=h.aa2 ho;let{x,y,z,r,e}:=C7 ho h;have e:j0 J f=x::y::z::r:=e;have d:(j0 J f).Nodup:=S.aa4;have n:T8 (j0 J f)=n8 (x::y::z::r++[x]):=by rw[e,<-dN];rfl
 rw[e]at d;obtain⟨a,b,o,p,s⟩:∃a b,(a,b)∈T8 (j0 J f)/\A≠a/\A≠b:=by
  rw[n];by_cases i:A=x
  .show{y,z,.tail _ (.head _),λq=>?_,λq=>?_}
   .rw[i]at q;rw[q]at d;simp at d
   rw[i]at q;rw[q]at d;simp at d
  by_cases l:A=y
  .have:∃w,(z,w)∈n8 (z::r++[x])/\w≠y:=by
    match r,d with
    |[],d=>show{x,.head _,λq=>by rw[q]at d;simp at d}
    |w::r,d=>show{w,.head _,λq=>by rw[q]at d;simp at d}
   let{w,t,u}:=this;show{z,w,.tail _ (.tail _ t),λq=>by rw[l]at q;rw[q]at d;simp at d,λq=>u (by simp_all)}
  show{x,y,.head _,i,l}
 have E:=S.aa1.mp o;let{m,v}:=fJ hs ho h E;show{b8 b a J,m,?_};have j:=S.aa3 k;show yT hs h m E v j (S.strict E k p s)
variable{fs:List (V×Int)} (hfs:∀f,f∈fs↔IsFace J f.1 f.2)
include hfs
theorem HJ{A P:V}{e:V×Int}(j:IsFace J e.1 e.2)(l:A∈j0 J e)(o:∀f∈fs,d6 f.1 P<=f.2):∃f∈fs,d6 f.1 A<f.2/\∀p∈T8 (j0 J f),0<=i9 (P-A) (p.1-A) (p.2-A):=by
 have h:A∈J:=(d8.mp<|(j.aa2 ho).aa3 l).1;let{g,r,s}:=ER hs ho j l;have b:∀{f:V×Int},f∈fs.filter (λf=>decide (d6 f.1 A<f.2))↔f∈fs/\d6 f.1 A<f.2:=λ{f}=>by rw[aCh,decide_eq_true_eq]
 let{f,i,a}:=wC (λf:V×Int=>-d6 f.1 (P-A)) (λf=>f.2-d6 f.1 A) (fs.filter λf=>decide (d6 f.1 A<f.2)) (λz=>by have:=b.mpr {(hfs g).mpr r,s};rw[z]at this;cases this) λf i=>by have:=(b.mp i).2;lia
 let{m,n}:=b.mp i;have F:=(hfs f).mp m;show{f,m,n,λp t=>?_};have E:=(F.aa2 ho).aa1.mp t;let{d,u}:=fJ hs ho F E;have v:=d.sup A h;show MX hs ho F d E u n v ?_;by_cases q:d6 (b8 p.2 p.1 J).1 A<(b8 p.2 p.1 J).2
 .have:=a _ (b.mpr {(hfs _).mpr d,q});grind
 have w:=o _ ((hfs _).mpr d);have:(b8 p.2 p.1 J).2-d6 (b8 p.2 p.1 J).1 A=0:=by lia
 rw[this,aFm];have k:d6 (b8 p.2 p.1 J).1 (P-A)<=0:=by rw[d9];lia
 have:=aAR (show 0<=f.2-d6 f.1 A by lia) (show 0<=-d6 (b8 p.2 p.1 J).1 (P-A)by lia);grind
theorem QK{A P:V}{d:V×Int}(k:IsFace J d.1 d.2)(m:A∈j0 J d)(n:∀f∈fs,d6 f.1 P<=f.2):∃f∈fs,d6 f.1 A<f.2/\∃x r,j0 J f=x::r/\∃p∈n8 r,0<=i9 (P-A) (x-A) (p.1-A)/\0<=i9 (P-A) (p.1-A) (p.2-A)/\0<=i9 (P-A) (p.2-A) (x-A):=by
 let{f,g,o,a}:=HJ hs ho hfs k m n;let{x,y,z,r,e}:=C7 ho ((hfs f).mp g);have e:j0 J f=x::y::z::r:=e;have q:T8 (j0 J f)=n8 (x::y::z::r++[x]):=by rw[e,<-dN];rfl
 rw[q]at a;have lst:∀(l:List V) (w b:V),(w::l).getLast?=some b->(b,x)∈n8 (w::l++[x]):=λl=>by
  induction l with
  |nil=>intro w b h;simp at h;subst h;show .head _
  |cons v l t=>intro w b h;show .tail _ (t v b (by simp_all))
 have i:∀u v:V,i9 (P-A) u v=-i9 (P-A) v u:=λu v=>by simp[i9,d6];grind
 let{p,j,B,E}:=turn_find (s:=λv=>i9 (P-A) (x-A) (v-A)) (a (x,y)<|.head _) (λw C=>by have:=a (w,x) (.tail _ (lst (z::r) y w C));dsimp only at this;rw[i]at this;lia) (by simp)
 show{f,g,o,x,y::z::r,e,p,j,B,(a p<|.tail _ (X1 _ _ _ _ j)),by rw[i];lia}
end
end G
namespace ST
open PySem PySem.SetTable
def MD(Y:Array Nat):Prop:=∀(i k:Nat) (a:i<Y.size) (b:k<Y.size),i<k->Y[i]<Y[k]
theorem AA(Y:Array Nat)(j:Nat)(d:MD Y):∀(a lo b:Nat),lo<=b->b<=Y.size->b-lo<=a->(∀i (h:i<Y.size),i<lo->Y[i]<j)->(∀i (h:i<Y.size),b<=i->j<=Y[i])->
  below.go Y j a lo b<=Y.size/\(∀i (h:i<Y.size),i<below.go Y j a lo b->Y[i]<j)/\(∀i (h:i<Y.size),below.go Y j a lo b<=i->j<=Y[i])
 |0,lo,b,o,f,p,g,k=>by
  have:lo=b:=by lia
  subst this;unfold below.go;show{f,g,k}
 |a+1,lo,b,o,f,p,g,k=>by
  unfold below.go;by_cases n:lo<b
  .rw[kc n];have m:(lo+b)/2<Y.size:=by lia
   have e:Y.getD ((lo+b)/2) j=Y[(lo+b)/2]:=by simp[aGE,m]
   dsimp only;rw[e];by_cases l:Y[(lo+b)/2]<j
   .rw[kc l];show AA Y j d a _ _ (by lia) f (by lia) (λi h r=>?_) k;by_cases q:i=(lo+b)/2
    .subst q;show l
    show aFZ (d i _ h m (by lia)) l
   rw[kd l];show AA Y j d a _ _ (by lia) (by lia) (by lia) g (λi h r=>?_);by_cases q:i=(lo+b)/2
   .subst q;lia
   have:=d _ i m h (by lia);lia
  rw[kd n];have:lo=b:=by lia
  subst this;show{f,g,k}
def dD(a:MD Y)(j:Nat):below Y j<=Y.size/\(∀i (h:i<Y.size),i<below Y j->Y[i]<j)/\(∀i (h:i<Y.size),below Y j<=i->j<=Y[i]):=
 AA Y j a Y.size 0 Y.size (aAQ _) (aAh _) (by lia) (λi h b=>by lia) (λi h b=>by lia)
def TC(a:MD Y)(h:Y[i]?=some j):below Y j=i:=by
 let{b,e}:=aCb.mp h;let{k,f,g}:=dD a j;rcases Nat.lt_trichotomy (below Y j) i with q|q|q
 .have d:below Y j<Y.size:=by lia
  have l:=g _ d (aAh _);have m:=a _ _ d b q
  lia
 .show q
 have:=f i b q;lia
structure Tab(t:SetTable):Prop where
 asc:MD t.place
 le:∀j∈t.place.toList,j<=t.mask
 nod:t.dummies=#[]
def M7(T:Tab t)(h:t.place[i]?=some j):t.slot j=.live i:=by unfold slot;rw[TC T.asc h];dsimp only;rw[h];simp
def GX(T:Tab t)(h:j∉t.place.toList):t.slot j=.empty:=by
 unfold slot;have a:¬(t.place[below t.place j]?==some j)=true:=λz=>h (by have:=beq_iff_eq.mp z;let{b,e}:=aCb.mp this;rw[<-e];simp)
 dsimp only;rw[kd a,T.nod];rw[kd (by unfold has;simp)]
def HY(T:Tab t)(j:Nat):(t.slot j=.empty/\j∉t.place.toList)\/∃i,t.slot j=.live i/\t.place[i]?=some j:=by
 by_cases h:j∈t.place.toList
 .let{i,a,e}:=aBg h;have:t.place[i]?=some j:=by rw[<-aAJ,aAl a,e]
  show .inr {i,M7 T this,this}
 show .inl {GX T h,h}
def XR(mask:Nat)(p:Probe):Probe:=if p.more>0 then{p with j:=p.j+1,more:=p.more-1}else{p with j:=(leap mask p.i p.perturb).1,more:=runEnd mask (leap mask p.i p.perturb).1-(leap mask p.i p.perturb).1,i:=(leap mask p.i p.perturb).1,perturb:=(leap mask p.i p.perturb).2}
def tV(t:fb)(p:Probe):t.advance p=XR t.mask p:=rfl
def start(mask:Nat)(h:Int):Probe:={j:=bits h%(mask+1),more:=runEnd mask (bits h%(mask+1))-bits h%(mask+1),i:=bits h%(mask+1),perturb:=bits h,dummy:=none}
def o6(mask:Nat)(h:Int):Nat->Probe
 |0=>start mask h
 |n+1=>XR mask (o6 mask h n)
theorem uA(mask:Nat)(h:Int):∀n,(o6 mask h n).dummy=none
 |0=>rfl
 |n+1=>by have:=uA mask h n;change(XR mask _).dummy=none;unfold XR;split<;>show this
def E6(mask:Nat)(h:Int):Nat->Nat×Nat
 |0=>(bits h%(mask+1),bits h)
 |k+1=>leap mask (E6 mask h k).1 (E6 mask h k).2
def len(mask i:Nat):Nat:=runEnd mask i-i
def a3z(mask i:Nat):len mask i<=9:=by unfold len runEnd;split<;>lia
def off(mask:Nat)(h:Int):Nat->Nat
 |0=>0
 |k+1=>off mask h k+len mask (E6 mask h k).1+1
theorem VC(mask:Nat)(h:Int):∀k,off mask h k<=10*k
 |0=>aAh _
 |k+1=>by have:=VC mask h k;have:=a3z mask (E6 mask h k).1;change off mask h k+_+1<=_;lia
theorem Z2(mask:Nat)(h:Int):∀k r,r<=len mask (E6 mask h k).1->
  o6 mask h (off mask h k+r)={j:=(E6 mask h k).1+r,more:=len mask (E6 mask h k).1-r,i:=(E6 mask h k).1,perturb:=(E6 mask h k).2,dummy:=none}
 |0,0,_=>rfl
 |0,r+1,b=>by
  have a:=Z2 mask h 0 r (by lia);have e:off mask h 0+(r+1)=(off mask h 0+r)+1:=by lia
  rw[e,o6,a];unfold XR;rw[kc (show len mask (E6 mask h 0).1-r>0 by lia)];simp
  lia
 |k+1,0,_=>by have a:=Z2 mask h k (len mask (E6 mask h k).1) (aAh _);have e:off mask h (k+1)+0=(off mask h k+len mask (E6 mask h k).1)+1:=rfl;rw[e,o6,a];unfold XR;rw[kd (by simp)];simp[E6,len]
 |k+1,r+1,b=>by
  have a:=Z2 mask h (k+1) r (by lia);have e:off mask h (k+1)+(r+1)=(off mask h (k+1)+r)+1:=by lia
  rw[e,o6,a];unfold XR;rw[kc (show len mask (E6 mask h<|k+1).1-r>0 by lia)];simp
  lia
def PR(mask:Nat)(h:Int)(k:Nat):(o6 mask h (off mask h k)).j=(E6 mask h k).1:=by have:=Z2 mask h k 0 (aAQ _);rw[Nat.add_zero]at this;rw[this];rfl
theorem kJ(mask:Nat)(h:Int):∀k,(E6 mask h k).2<2^64/32^k+1
 |0=>by
  change bits h<_;unfold bits;have:=Int.emod_lt_of_pos h (show(0:Int)<2^64 by decide)
  lia
 |k+1=>by
  have a:=kJ mask h k;change(E6 mask h k).2/32<_;have e:∀N,N/32^(k+1)=N/32^k/32:=λN=>by rw[Nat.div_div_eq_div_mul];rfl
  rw[e]
  lia
theorem wD(mask:Nat)(h:Int):∀k,(E6 mask h (13+k)).2=0
 |0=>by have:=kJ mask h 13;simp at this;show this
 |k+1=>by have:=wD mask h k;change(E6 mask h<|13+k).2/32=0;rw[this]
def lcg(m:Nat)(i:Nat):Nat:=(i*5+1)%m
def iter(m:Nat):Nat->Nat->Nat
 |0,i=>i
 |n+1,i=>lcg m (iter m n i)
theorem sR(mask:Nat)(h:Int):∀k,(E6 mask h (13+k)).1=iter (mask+1) k (E6 mask h 13).1
 |0=>rfl
 |k+1=>by have a:=sR mask h k;change((E6 mask h<|13+k).1*5+1+(E6 mask h<|13+k).2/32)%(mask+1)=_;rw[wD,a];rfl
theorem kB(m:Nat):∀a b i,iter m (a+b) i=iter m a (iter m b i)
 |0,b,i=>by rw[aDX];rfl
 |a+1,b,i=>by rw[show a+1+b=(a+b)+1 by lia];change lcg m _=lcg m _;rw[kB m a b i]
def pE(m:Nat):Prop:=iter m m 0=0/\∀j<m,∃n<m,iter m n 0=j
def wZ(F:pE m)(f:i<m)(g:j<m):∃n<m,iter m n i=j:=by
 let{a,k,d}:=F.2 i f;let{b,l,e}:=F.2 j g;by_cases h:a<=b
 .show{b-a,by lia,by rw[<-d,<-kB,show b-a+a=b by lia,e]}
 show{b+(m-a),by lia,?_};rw[<-d,<-kB,show b+(m-a)+a=b+m by lia,kB,F.1,e]
instance(m:Nat):Decidable (pE m):=inferInstanceAs (Decidable<|_/\_)
def a6g:pE 8:=by decide+kernel
def a3m:pE 32:=by decide+kernel
def bq:pE 128:=by decide+kernel
theorem JW(mask:Nat)(h:Int):∀k,(E6 mask h k).1<mask+1
 |0=>aER _ (by lia)
 |k+1=>aER _ (by lia)
def IH{mask:Nat}(F:pE (mask+1))(h:Int){j:Nat}(a:j<=mask):∃n,n<=10*(mask+14)/\(o6 mask h n).j=j:=by
 let{k,b,e}:=wZ F (JW mask h 13) (show j<mask+1 by lia);show{off mask h (13+k),?_,?_}
 .have:=VC mask h (13+k);lia
 rw[PR,sR,e]
def yN{e β:Type}{l:List e}{m:List β}{p:Nat}{a:e×β}(h:a∈(l.take p).zip (m.take p)):a∈l.zip m:=by
 let{i,b}:=aBO.mp h;rw[aBv]at b;show aAu (i:=i) ?_;rw[aBv];have q:∀{d:Type}{l:List d}{c:d},(l.take p)[i]?=some c->l[i]?=some c:=λ{d l c} h=>by
  rw[List.getElem?_take]at h;split at h
  .show h
  cases h
 show{q b.1,q b.2}
def zM{b β:Type}{l:List b}{m:List β}{p:Nat}{a:b×β}(h:a∈(l.drop p).zip (m.drop p)):a∈l.zip m:=by let{i,d}:=aBO.mp h;rw[aBv,List.getElem?_drop,List.getElem?_drop]at d;show aAu (i:=p+i) ?_;rw[aBv];show d
theorem IT(mask:Nat)(h:Int):∀n,(o6 mask h n).j+(o6 mask h n).more<=mask
 |0=>by have:=aER (bits h) (show 0<mask+1 by lia);change bits h%(mask+1)+(runEnd mask (bits h%(mask+1))-bits h%(mask+1))<=mask;unfold runEnd;split<;>lia
 |n+1=>by
  have a:=IT mask h n;change(XR mask<|o6 mask h n).j+(XR mask<|o6 mask h n).more<=mask;unfold XR;split
  .dsimp only;lia
  dsimp only;have:(leap mask (o6 mask h n).i (o6 mask h n).perturb).1<mask+1:=aER _ (by lia);unfold runEnd;split<;>lia
def xZ(mask:Nat)(h:Int)(n:Nat):(o6 mask h n).j<=mask:=by have:=IT mask h n;lia
theorem R8{a:Type}[DecidableEq a]:∀{l m:List a},l.Nodup->(∀x∈l,x∈m)->l.length<=m.length
 |[],_,_,_=>aAQ _
 |x::l,m,h,b=>by
  have d:=b x (by simp);have f:=aAY.mp h;have:=R8 (l:=l) (m:=m.erase x) f.2 (λy g=>by
   have ne:y≠x:=λe=>by subst e;show f.1 g
   show(aGn ne).mpr (b y<|aAe _ g))
  rw[aFF d]at this;have:0<m.length:=aEk d;erw[aAp]
  lia
def NT{t:fb}(h:t.place.size<=t.mask):∃j≤t.mask,j∉t.place.toList:=by
 by_cases z:∃j≤t.mask,j∉t.place.toList
 .show z
 exfalso;have:=R8 (l:=aBd (t.mask+1)) (m:=t.place.toList) List.nodup_range (λj a=>by
  by_cases q:j∈t.place.toList
  .show q
  show absurd {j,by have:=aBn.mp a;lia,q} z)
 simp at this
 lia
theorem least{P:Nat->Prop}[DecidablePred P]:∀n,P n->∃m≤n,P m/\∀k<m,¬P k
 |0,h=>{0,aAh _,h,λk b=>by lia}
 |n+1,h=>by
  by_cases z:∃k≤n,P k
  .let{k,b,a}:=z;let{m,f,d,e}:=least k a;show{m,by lia,d,e}
  show{n+1,aAh _,h,λk b a=>z {k,by lia,a}}
termination_by n=>n
def X0(t:fb)(h:Int)(n0:Nat):Prop:=n0<=10*(t.mask+14)/\(o6 t.mask h n0).j∉t.place.toList/\∀m<n0,(o6 t.mask h m).j∈t.place.toList
def FD{t:fb}(F:pE (t.mask+1))(a:t.place.size<=t.mask)(h:Int):∃n0,X0 t h n0:=by let{j,b,d}:=NT a;let{n,l,e}:=IH F h b;let{m,o,f,g}:=least (P:=λn=>(o6 t.mask h n).j∉t.place.toList) n (by rw[e];show d);show{m,by lia,f,λk i=>by have:=g k i;simpa using this}
theorem DM(T:Tab t)(hashAt:Nat->Int)(h:Int)(l:X0 t h n0):∀(d n:Nat),n<=n0->n0-n<d->
  ∃f,n<=f/\f<=n0/\(∀m,n<=m->m<f->∃i,t.place[i]?=some (o6 t.mask h m).j/\hashAt i≠h)/\
   ((f=n0/\probe.go t hashAt h d (o6 t.mask h n)=some (.empty (o6 t.mask h n0).j none))\/
    (f<n0/\∃i,t.place[i]?=some (o6 t.mask h f).j/\hashAt i=h/\probe.go t hashAt h d (o6 t.mask h n)=some (.candidate (o6 t.mask h f).j i (o6 t.mask h (f+1)))))
 |0,n,_,o=>by lia
 |d+1,n,w,o=>by
  unfold probe.go;rcases HY T (o6 t.mask h n).j with⟨e,p⟩|⟨i,e,g⟩
  .have:n=n0:=by
     by_cases q:n<n0
     .show absurd (l.2.2 n q) p
     lia
   subst this;show{n,aAh _,aAh _,λm a b=>by lia,.inl {rfl,?_}};rw[e];dsimp only;rw[uA]
  have x:n≠n0:=λq=>by subst q;show l.2.1 ?_;rw[<-aAJ]at g;show aAu g
  rw[e];dsimp only;by_cases k:hashAt i=h
  . show{n,aAh _,by lia,λm a b=>by lia,.inr {by lia,i,g,k,?_}}
    rw[kc (by simpa using k),tV];rfl
  rw[kd (by simpa using k),tV]
  let{f,y,r,s,u}:=DM T hashAt h l d (n+1) (by lia) (by lia);show{f,by lia,r,λm z v=>?_,u};by_cases q:m=n
  .subst q;show{i,g,k}
  show s m (by lia) v
def TN(T:Tab t)(hashAt:Nat->Int)(h:Int)(b:X0 t h n0)(n:Nat)(d:n<=n0):
  ∃a,n<=a/\a<=n0/\(∀m,n<=m->m<a->∃i,t.place[i]?=some (o6 t.mask h m).j/\hashAt i≠h)/\
   ((a=n0/\t.probe hashAt h (o6 t.mask h n)=some (.empty (o6 t.mask h n0).j none))\/
    (a<n0/\∃i,t.place[i]?=some (o6 t.mask h a).j/\hashAt i=h/\t.probe hashAt h (o6 t.mask h n)=some (.candidate (o6 t.mask h a).j i (o6 t.mask h (a+1))))):=
 DM T hashAt h b _ n d (by have:=b.1;unfold turns;lia)
def Reach(mask:Nat)(a:Nat->Prop)(h:Int)(j:Nat):Prop:=∃n,(o6 mask h n).j=j/\∀m<n,a (o6 mask h m).j
def Reach.mono{mask:Nat}{o a:Nat->Prop}{h:Int}{j:Nat}(r:Reach mask o h j)(i:∀k,o k->a k):Reach mask a h j:=by let{n,e,q}:=r;show{n,e,λm b=>i _ (q m b)}
def Reach.before(a:X0 t h n0)(b:j∈t.place.toList)(r:Reach t.mask (λk=>k∈t.place.toList) h j):∃n<n0,(o6 t.mask h n).j=j:=by
 let{n,e,q}:=r;show{n,?_,e};by_cases z:n<n0
 .show z
 exfalso;by_cases y:n=n0
 .subst y;show a.2.1 (by rw[e];show b)
 show a.2.1 (q n0 (by lia))
def iJ{a:Type}(Y:Array a)(p:Nat)(x:a):(insertAt Y p x).toList=Y.toList.take p++x::Y.toList.drop p:=by
 unfold insertAt;simp[Array.toList_extract,List.extract_eq_drop_take];have:Y.size-p=(Y.toList.drop p).length:=by simp
 rw[this,List.take_length]
def BH(t:fb)(es:List (Int×au)):List (Nat×Int×au):=t.place.toList.zip es
structure SOk(t:SetTable)(es:List (Int×Value)):Prop where
 tab:Tab t
 full:pE (t.mask+1)
 len:t.place.size=es.length
 room:t.place.size<=t.mask
 reach:∀e∈BH t es,Reach t.mask (λk=>k∈t.place.toList) e.2.1 e.1
def ZZ{t:fb}{es:List (Int×au)}(b:t.place.size=es.length){i:Nat}{e:Int×au}(h:es[i]?=some e):∃j,t.place[i]?=some j/\(j,e)∈BH t es:=by
 have d:i<es.length:=(aAB.mp h).1;have a:i<t.place.toList.length:=by simpa[b]using d
 show{t.place.toList[i],by rw[<-aAJ,aAl a],?_};unfold BH;show aAu (i:=i) ?_;rw[aBv];show{aAl a,h}
def a3p{t:fb}{es:List (Int×au)}(S:SOk t es){h:Int}{x:au}{n0:Nat}(z:X0 t h n0)(E:t.place.size+1<=t.mask):
  SOk (t.put (o6 t.mask h n0).j).1 (es.take (t.put (o6 t.mask h n0).j).2++(h,x)::es.drop (t.put (o6 t.mask h n0).j).2):=by
 have u:=xZ t.mask h n0;let{Y,H,I}:=dD S.tab.asc (o6 t.mask h n0).j;generalize A:(o6 t.mask h n0).j=J at*
 have v:J∉t.place.toList:=by rw[<-A];show z.2.1
 have B:(t.put J).2=below t.place J:=rfl;have em:(t.put J).1.mask=t.mask:=rfl;have d:(t.put J).1.place=insertAt t.place (below t.place J) J:=rfl;have f:=iJ t.place (below t.place J) J;have l:∀k,k∈(t.put J).1.place.toList↔k∈t.place.toList\/k=J:=λk=>by
  rw[d,f,aAS,aAi];constructor
  .rintro(q|q|q)
   .show .inl (aEM q)
   .show .inr q
   show .inl (aDM q)
  rintro(q|q)
  .rw[<-List.take_append_drop (below t.place J) t.place.toList,aAS]at q;rcases q with q|q
   .show .inl q
   show .inr (.inr q)
  show .inr (.inl q)
 have C:(t.put J).1.place.size=t.place.size+1:=by
  rw[<-aBo,d,f,aAy,aCo,aAp,aEH,aBo]
  lia
 show{{?_,λj L=>?_,?_},S.full,?_,by rw[C];show E,λe s=>?_}
 .
  have o:t.place.toList.Pairwise (· <·):=by rw[aBH];intro i j g u N;simpa using S.tab.asc i j (by simpa using g) (by simpa using u) N
  have p:∀a∈t.place.toList.take (below t.place J),a<J:=λa n=>by
   let{i,g,e}:=aBg n;rw[aCo]at g;rw[List.getElem_take]at e;have:=H i (by simp at g;lia) (by lia);simp at e
   lia
  have r:∀a∈t.place.toList.drop (below t.place J),J<a:=λa n=>by
   let{i,g,e}:=aBg n;rw[aEH]at g;rw[List.getElem_drop]at e;have h1:=I (below t.place J+i) (by simp at g;lia) (by lia);simp at e;have h2:J≠a:=λq=>v (by rw[q];show aDM n)
   lia
  have O:(t.put J).1.place.toList.Pairwise (· <·):=by
   rw[d,f,List.pairwise_append];show{o.sublist (aFG _ _),aAs.mpr {r,o.sublist (List.drop_sublist _ _)},λa n b Q=>?_};rcases aAi.mp Q with q|q
   .subst q;show p a n
   show aFZ (p a n) (r b q)
  intro i k g w y;have:=aBH.mp O i k (by simpa using g) (by simpa using w) y;simpa using this
 .rcases(l j).mp L with q|q
  .show S.tab.le j q
  subst q;show u
 .change(if has t.dummies J then _ else t.dummies)=#[];rw[S.tab.nod,kd (by unfold has;simp)]
 .rw[C,B,aAy,aCo,aAp,aEH];have:=S.len
  lia
 have T:e∈BH t es\/e=(J,h,x):=by
  unfold BH at s;rw[d,f,B]at s;rw[List.zip_append (by rw[aCo,aCo,aBo,S.len])]at s;rcases aAS.mp s with q|q
  .left;unfold BH;show yN q
  rw[aDr]at q;rcases aAi.mp q with q|q
  .show .inr q
  left;unfold BH;show zM q
 rcases T with q|q
 .show(S.reach e q).mono λk w=>(l k).mpr (.inl w)
 subst q;show{n0,A,λm U=>(l _).mpr (.inl (z.2.2 m U))}
def T2(owner:Array (Option Nat))(j:Nat):Prop:=(owner.getD j<|some 0).isNone=false
theorem vX{mask:Nat}(h:Int)(owner:Array (Option Nat)):∀(fuel k:Nat),(∃kk,k<=kk/\kk<k+fuel/\¬T2 owner (E6 mask h kk).1)->
  ∃n,off mask h k<=n/\layClean.free mask owner fuel (E6 mask h k).1 (E6 mask h k).2=some (o6 mask h n).j/\¬T2 owner (o6 mask h n).j/\∀m,off mask h k<=m->m<n->T2 owner (o6 mask h m).j
 |0,k,⟨kk,i,l,_⟩=>by lia
 |fuel+1,k,⟨kk,i,l,d⟩=>by
  have o:runEnd mask (E6 mask h k).1+1-(E6 mask h k).1=len mask (E6 mask h k).1+1:=by unfold len runEnd;split<;>lia
  unfold layClean.free;rw[o];cases e:(aBd<|len mask (E6 mask h k).1+1).find? λr=>(owner.getD ((E6 mask h k).1+r)<|some 0).isNone with
  |some r=>
   have q:=aGa e;have f:r<len mask (E6 mask h k).1+1:=aBn.mp (aCS e);have g:(o6 mask h<|off mask h k+r).j=(E6 mask h k).1+r:=by rw[Z2 mask h k r (by lia)]
   show{off mask h k+r,by lia,by rw[g],by rw[g];unfold T2;rw[q];simp,λm a b=>?_};have em:(o6 mask h m).j=(E6 mask h k).1+(m-off mask h k):=by have:=Z2 mask h k (m-off mask h k) (by lia);rw[show off mask h k+(m-off mask h k)=m by lia]at this;rw[this]
   rw[em];unfold T2;rw[List.find?_range_eq_some]at e;have:=e.2.2 (m-off mask h k) (by lia);simpa using this
  |none=>
   have all:∀r<len mask (E6 mask h k).1+1,T2 owner ((E6 mask h k).1+r):=λr f=>by have:=aFn.mp e r (aBn.mpr f);unfold T2;show Bool.not_eq_true _▸this
   have v:kk≠k:=λq=>by subst q;have:=all 0 (by lia);rw[Nat.add_zero]at this;show d this
   let{n,w,p,s,t}:=vX h owner fuel (k+1) {kk,by lia,by lia,d};have x:off mask h (k+1)=off mask h k+len mask (E6 mask h k).1+1:=rfl;show{n,by lia,p,s,λm y u=>?_};by_cases q:off mask h (k+1)<=m
   .show t m q u
   have em:(o6 mask h m).j=(E6 mask h k).1+(m-off mask h k):=by have:=Z2 mask h k (m-off mask h k) (by lia);rw[show off mask h k+(m-off mask h k)=m by lia]at this;rw[this]
   rw[em];show all _ (by lia)
def qE{mask:Nat}(F:pE (mask+1))(h:Int)(owner:Array (Option Nat)){j:Nat}(i:j<=mask)(a:¬T2 owner j):
  ∃n,layClean.free mask owner (turns mask) (aEe h%(mask+1)) (aEe h)=some (o6 mask h n).j/\¬T2 owner (o6 mask h n).j/\∀m<n,T2 owner (o6 mask h m).j:=by
 let{k,l,e}:=wZ F (JW mask h 13) (show j<mask+1 by lia);let{n,o,b,d,f}:=vX h owner (turns mask) 0 {13+k,aAQ _,by unfold turns;lia,by rw[sR,e];show a};show{n,b,d,λm g=>f m (aAQ _) g}
structure Laid(mask:Nat)(hs:List Int)(owner:Array (Option Nat))(k:Nat):Prop where
 size:owner.size=mask+1
 lt:∀(j i:Nat),owner[j]?=some (some i)->i<k
 inj:∀(j j' i:Nat),owner[j]?=some (some i)->owner[j']?=some (some i)->j=j'
 sur:∀i<k,∃j:Nat,owner[j]?=some (some i)
 reach:∀(j i:Nat) (h:Int),owner[j]?=some (some i)->hs[i]?=some h->Reach mask (λl=>∃i,owner[l]?=some (some i)) h j
def mO{owner:Array (Option Nat)}{mask j:Nat}(b:owner.size=mask+1)(d:j<=mask):T2 owner j↔∃i,owner[j]?=some (some i):=by
 unfold T2;have a:j<owner.size:=by lia
 have e:owner.getD j (some 0)=owner[j]:=by simp[aGE,a]
 rw[e,aAr a];cases owner[j]with
 |none=>simp
 |some i=>simp
def Laid.room{mask k:Nat}{r:List Int}{owner:Array (Option Nat)}(L:Laid mask r owner k)(t:k<=mask):∃j≤mask,¬T2 owner j:=by
 by_cases z:∃j≤mask,¬T2 owner j
 .show z
 exfalso;have all:∀j≤mask,∃i,owner[j]?=some (some i):=λj b=>by
  by_cases q:T2 owner j
  .show(mO L.size b).mp q
  show absurd {j,b,q} z
 have d:∀n,n<=mask+1->∃l:List Nat,l.length=n/\l.Nodup/\(∀i∈l,i<k)/\∀i∈l,∃j<n,owner[j]?=some (some i):=λn=>by
  induction n with
  |zero=>showλ_=>{[],rfl,aCR,by simp,by simp}
  |succ n s=>
   intro u;let{l,o,f,g,p}:=s (by lia);let{i,h}:=all n (by lia);show{i::l,by simp[o],aAY.mpr {λq=>?_,f},λx a=>?_,λx a=>?_}
   .let{j,b,e}:=p i q;have:=L.inj j n i e h
    lia
   .rcases aAi.mp a with q|q
    .subst q;show L.lt _ _ h
    show g x q
   rcases aAi.mp a with q|q
   .subst q;show{n,by lia,h}
   let{j,b,e}:=p x q;show{j,by lia,e}
 let{l,o,f,g,_}:=d (mask+1) (aAh _);have:=R8 (m:=aBd k) f (λx a=>aBn.mpr (g x a));simp at this
 lia
def GB(mask:Nat)(b:List Int):Laid mask b (aES (mask+1) none) 0:=by
 have a:∀(j i:Nat),(aES (mask+1) (none:Option Nat))[j]?=some (some i)->False:=λj i h=>by rw[Array.getElem?_replicate]at h;split at h<;>cases h
 show{by simp,λj i h=>(a j i h).elim,λj d i h=>(a j i h).elim,λi e=>by lia,λj i _ h=>(a j i h).elim}
def Laid.step{mask k:Nat}{g:List Int}{owner:Array (Option Nat)}(L:Laid mask g owner k){h:Int}(t:g[k]?=some h){n:Nat}(u:¬T2 owner (o6 mask h n).j)(v:∀m<n,T2 owner (o6 mask h m).j):
  Laid mask g (owner.setIfInBounds (o6 mask h n).j (some k)) (k+1):=by
 have w:=xZ mask h n;have o:(o6 mask h n).j<owner.size:=by rw[L.size];lia
 have get:∀(j i:Nat),(owner.setIfInBounds (o6 mask h n).j (some k))[j]?=some (some i)↔(j=(o6 mask h n).j/\i=k)\/(j≠(o6 mask h n).j/\owner[j]?=some (some i)):=λj i=>by
  rw[Array.getElem?_setIfInBounds];by_cases q:(o6 mask h n).j=j
  .rw[kc q,kc o];simp[q,eq_comm]
  rw[kd q];constructor
  .intro z;show .inr {λy=>q y.symm,z}
  rintro(⟨z,_⟩|⟨_,z⟩)
  .show absurd z.symm q
  show z
 have x:∀i,owner[(o6 mask h n).j]?≠some (some i):=λi z=>u ((mO L.size w).mpr {i,z});have grow:∀l:Nat,(∃i:Nat,owner[l]?=some (some i))->∃i:Nat,(owner.setIfInBounds (o6 mask h n).j (some k))[l]?=some (some i):=λl A=>by
  let{i,z}:=A;by_cases q:l=(o6 mask h n).j
  .show{k,(get l k).mpr (.inl {q,rfl})}
  show{i,(get l i).mpr (.inr {q,z})}
 show{by simp[L.size],λj i z=>?_,λj p i z s=>?_,λi C=>?_,λj i r z e=>?_}
 .rcases(get j i).mp z with⟨_,q⟩|⟨_,q⟩
  .lia
  have:=L.lt j i q;lia
 .rcases(get j i).mp z with⟨d,a⟩|⟨d,a⟩
  .rcases(get p i).mp s with⟨f,b⟩|⟨f,b⟩
   .rw[d,f]
   subst a;have:=L.lt _ _ b;lia
  rcases(get p i).mp s with⟨f,b⟩|⟨f,b⟩
  .subst b;have:=L.lt _ _ a;lia
  show L.inj j p i a b
 .by_cases q:i=k
  .subst q;show{_,(get _ _).mpr (.inl {rfl,rfl})}
  let{j,z}:=L.sur i (by lia);show{j,(get j i).mpr (.inr {λy=>by subst y;show x i z,z})}
 rcases(get j i).mp z with⟨d,a⟩|⟨d,a⟩
 .subst d a;have:r=h:=Option.some.inj (e.symm.trans t);subst this;show{n,rfl,λm B=>grow _ ((mO L.size<|xZ mask r m).mp (v m B))}
 show(L.reach j i r a e).mono grow
def CH{mask:Nat}(F:pE (mask+1))(b:Array Int)(z:b.size<=mask):∃owner,layClean mask b=some owner/\Laid mask b.toList owner b.size:=by
 have g:∀(post a:List Int) (owner:Array (Option Nat)),b.toList=a++post->Laid mask b.toList owner a.length->
   ∃d,post.foldl (λB h=>do
    let(owner,k)<-B
    let j<-layClean.free mask owner (turns mask) (aEe h%(mask+1)) (aEe h)
    pure (owner.setIfInBounds j (some k),k+1)) (some (owner,a.length))=some (d,b.size)/\Laid mask b.toList d b.size:=λpost=>by
  induction post with
  |nil=>
   intro a owner e L;have:a.length=b.size:=by rw[<-aBo,e];simp
   show{owner,by rw[List.foldl_nil,this],by rw[<-this];show L}
  |cons h post i=>
   intro a owner e L;have f:a.length<b.size:=by rw[<-aBo,e];simp
   let{j,l,m}:=L.room (by lia);let{n,o,p,q}:=qE F h owner l m;have r:b.toList[a.length]?=some h:=by rw[e];simp
   have s:=L.step r p q;rw[List.foldl_cons];have t:b.toList=(a++[h])++post:=by rw[e];simp
   let{d,u,v}:=i (a++[h]) _ t (by rw[aAy];show s);show{d,?_,v};rw[<-u];congr 1;simp[o]
 let{owner,w,x}:=g b.toList [] (aES (mask+1) none) rfl (GB mask b.toList);show{owner,?_,x};unfold layClean;rw[<-Array.foldl_toList];have y:List.foldl (λB h=>do
    let(owner,k)<-B
    let j<-layClean.free mask owner (turns mask) (aEe h%(mask+1)) (aEe h)
    pure (owner.setIfInBounds j (some k),k+1)) (some (aES (mask+1) none,0)) b.toList=some (owner,b.size):=w
 rw[y];rfl
def G3(mask:Nat)(owner:Array (Option Nat)):List (Nat×Nat):=(aBd<|mask+1).filterMap λj=>(owner.getD j none).map (j,·)
def S1{mask:Nat}{owner:Array (Option Nat)}(g:owner.size=mask+1){j i:Nat}:(j,i)∈G3 mask owner↔owner[j]?=some (some i):=by
 unfold G3;rw[aBS];constructor
 .rintro⟨l,a,e⟩;have f:l<owner.size:=by rw[g];show aBn.mp a
  have b:owner.getD l none=owner[l]:=by simp[aGE,f]
  rw[b,aDp]at e;let{k,d,h}:=e;cases h;rw[aAr f,d]
 intro e;let{a,d}:=aCb.mp e;have b:owner.getD j none=owner[j]:=by simp[aGE,a]
 show{j,aBn.mpr (by lia),by rw[b,d];rfl}
def BW(mask:Nat)(owner:Array (Option Nat)):((G3 mask owner).map (·.1)).Pairwise (· <·):=by unfold G3;rw[aBN];have:(aBd<|mask+1).Pairwise (· <·):=List.pairwise_lt_range;show List.Pairwise.filterMap _ (R:=(· <·)) ?_ this;intro a g f b d h e;rw[aDp]at d e;let{_,_,rfl}:=d;let{_,_,rfl}:=e;show f
def PY{mask finger moves:Nat}{led plain:Bool}(F:pE (mask+1))(es:Array (Int×au))(A:es.size<=mask):
  ∃t' f,laid mask finger moves led plain (es.map (·.1))=some (t',f)/\(f.filterMap (es[·]?)).size=es.size/\(f.filterMap (es[·]?)).toList.Perm es.toList/\SOk t' (f.filterMap (es[·]?)).toList/\
   t'.mask=mask/\t'.dummies=#[]/\t'.led=led/\t'.plain=plain/\t'.moves=moves:=by
 let{d,J,L}:=CH F (es.map (·.1)) (by simpa using A);have m:(es.map (·.1)).size=es.size:=by simp
 rw[m]at L;show{{mask,place:=((G3 mask d).map (·.1)).toArray,dummies:=#[],finger,led,moves,plain},((G3 mask d).map (·.2)).toArray,?_,?_}
 .unfold laid;rw[J];rfl
 have n:(G3 mask d).Nodup:=by have:=BW mask d;rw[aBN]at this;show aCa.mpr (this.imp λ{a b} h e=>by subst e;show aBJ _ h)
 have o:((G3 mask d).map (·.2)).Nodup:=by rw[aCa,aBN];show List.Pairwise.imp_of_mem (R:=(· ≠·)) ?_ (aCa.mp n);rintro⟨j,i⟩ ⟨p,r⟩ N O Q e;dsimp only at e;subst e;have:=L.inj j p i ((S1 L.size).mp N) ((S1 L.size).mp O);subst this;show Q rfl
 have B:((G3 mask d).map (·.2)).Perm (aBd es.size):=by
  rw[aCG o List.nodup_range];intro i;rw[aBn,aAj];constructor
  .rintro⟨⟨j,r⟩,h,rfl⟩;show L.lt _ _ ((S1 L.size).mp h)
  intro s;let{j,t}:=L.sur i s;show{(j,i),(S1 L.size).mpr t,rfl}
 have C:(((G3 mask d).map (·.2)).toArray.filterMap (es[·]?)).toList=(G3 mask d).filterMap (λx=>es[x.2]?):=by rw[Array.toList_filterMap,aEf];rfl
 have T:((G3 mask d).filterMap (λx=>es[x.2]?)).Perm es.toList:=by
  have U:(G3 mask d).filterMap (λx=>es[x.2]?)=((G3 mask d).map (·.2)).filterMap (λi=>es[i]?):=by rw[aEf];rfl
  rw[U];show(B.filterMap _).trans (List.Perm.of_eq ?_);apply aEq;intro i;have:(aBd es.size).filterMap (λi=>es[i]?)=es.toList:=by
   have q:∀l:List (Int×au),(aBd l.length).filterMap (λi=>l[i]?)=l:=λl=>by
    induction l with
    |nil=>rfl
    |cons a l u=>
     rw[aAp,aEm,aCC];erw[aDg];rw[aEf];have:((λi=>(a::l)[i]?)∘Nat.succ)=λi=>l[i]?:=by funext i;simp
     rw[this,u]
   have:=q es.toList;simpa using this
  rw[this]
 have Y:∀l:List (Nat×Nat),(∀x∈l,x.2<es.size)->(l.map (·.1)).zip (l.filterMap<|λx=>es[x.2]?)=l.filterMap (λx=>es[x.2]?.map (x.1,·))/\(l.filterMap<|λx=>es[x.2]?).length=l.length:=λl=>by
  induction l with
  |nil=>intro _;show{rfl,rfl}
  |cons x l u=>intro h;let{i1,i2}:=u (λy hy=>h y (aAe _ hy));have w:=h x (by simp);have e:es[x.2]?=some es[x.2]:=aAr w;rw[aAm,aCC,e];dsimp only;rw[aCC,e];dsimp only[Option.map_some];rw[aDr,i1];show{rfl,by simp[i2]}
 let{z1,E}:=Y (G3 mask d) (λx w=>L.lt x.1 x.2 ((S1 L.size).mp w));have H:(G3 mask d).length=es.size:=by have:=B.length_eq;simpa using this
 rw[C];show{by rw[<-aBo,C,E,H],T,{{?_,λj t=>?_,rfl},F,?_,?_,λe g=>?_},rfl,rfl,rfl,rfl,rfl}
 .intro i k s m z;have:=aBH.mp (BW mask d) i k (by simpa using s) (by simpa using m) z;simpa using this
 .have ya:j∈(G3 mask d).map (·.1):=by simpa using t
  let{{p,i},h,rfl}:=aAj.mp ya;have:=(aCb.mp<|(S1 L.size).mp h).1;rw[L.size]at this;change p<=mask
  lia
 .rw[E];simp
 .erw[aAO,aAf,H];show A
 unfold BH at g;dsimp only at g;rw[z1,aBS]at g;let{{j,i},h,I}:=g;rw[aDp]at I;let{{hh,v},e2,rfl}:=I;have ho:=(S1 L.size).mp h;have:=L.reach j i hh ho (by rw[aAJ,Array.getElem?_map,e2];rfl);show this.mono λl z9=>?_;let{r,ic}:=z9;change l∈(G3 mask d).map (·.1);show aAj.mpr {(l,r),(S1 L.size).mpr ic,rfl}
end ST
namespace TS
open PySem PyProof.Rows
abbrev tupK:Bool->SortKind:=sortPriv%PySem.Builtin.KeyKind.tuples
structure TB(f:Bool)(aa:Array Keyed)(st:SortSt):Prop where
 perm:(arrOf st).Perm aa
 kind:kindOf st=tupK f
 failed:failedOf st=none
 pend:pendingOf st=#[]
def TB.size{f:Bool}{aa:Array Keyed}{st:SortSt}(h:TB f aa st):(arrOf st).size=aa.size:=h.perm.size_eq
def TB.setArr{f:Bool}{aa:Array Keyed}{st:SortSt}(h:TB f aa st){Y:Array Keyed}(a:Y.Perm (arrOf st)):TB f aa (PyProof.Rows.setArr st Y):=
 {a.trans h.perm,h.kind,h.failed,h.pend}
def YQ(f:Bool)(A:bM)(s:aL)(κ:KeyKind):Prop:=
 ∀(d:be) (w:cf) (E:B6) (x y:au) (a b:κ.α) {Q:CD},
  κ.keyOf x=some a->κ.keyOf y=some b->Q (κ.blt a b) s->bb (bc d w) A (keyLt' (tupK f) x y) Q E s
def TB.atK{f:Bool}{κ:KeyKind}{aa:Array Keyed}{st:SortSt}(h:TB f aa st)(h0:KeysOf κ aa){i:Nat}(d:i<aa.size):∃x p a,(arrOf st)[i]?=some (x,p)/\κ.keyOf x=some a/\KK κ (arrOf st) i=a:=by
 have g:i<(arrOf st).size:=by rw[h.size];show d
 let{a,b}:=h0 _ ((aFg.mp h.perm).mem_iff.mp (show(arrOf st)[i]∈(arrOf st).toList by simp));have e:(arrOf st)[i]?=some (arrOf st)[i]:=getElem?_pos _ i g;show{(arrOf st)[i].1,(arrOf st)[i].2,a,by rw[e],b,by unfold KK;rw[e];simp[b]}
section
def ltT(f:Bool){prog:be}{w:cf}{A:bM}{E:B6}{s:aL}{aa:Array Keyed}{κ:KeyKind}{st:SortSt}{i j:Nat}{Q:Option Bool->SortSt->Prop}(e:YQ f A s κ)(d:TB f aa st)(h0:KeysOf κ aa)(g:i<aa.size)(k:j<aa.size)
  (h:Q (some (κ.blt (KK κ (arrOf st) i) (KK κ (arrOf st) j))) st):wpS (bc prog w) A E s (ltAt' i j) Q st:=by
 let{x,p,a,l,m,n}:=d.atK h0 g;let{y,q,b,o,r,t}:=d.atK h0 k;rw[n,t]at h;change wpS _ _ _ _ (do let x<-elem' (arrOf st) i;let y<-elem' (arrOf st) j;lt' x y) Q st;rw[elem'_eq,elem'_eq,l,o];show aBu (aCg<|aBu<|aCg ?_);rw[lt'_eq];show aBu (wpS_get ?_);rw[d.kind];show aBu (wpS_lift<|aCJ<|e prog w _ x y a b m r ⟨rfl,(aCg h)⟩)
def up1(S:SortedToK κ Y x)(h:1<=x->κ.kle (KK κ Y (x-1)) (KK κ Y x)):SortedToK κ Y (x+1):=λi j a b=>by
 rcases aDu (aFH b)with d|rfl
 .show S i j a d
 rcases aDu a with e|rfl
 .show KeyOrd.kle_trans (S i (j-1) (by lia) (by lia)) (h (by lia))
 show KeyOrd.kle_refl _
def dn1(S:NonIncK κ Y x)(h:1<=x->κ.kle (KK κ Y x) (KK κ Y (x-1))):NonIncK κ Y (x+1):=λi j a b=>by
 rcases aDu (aFH b)with d|rfl
 .show S i j a d
 rcases aDu a with e|rfl
 .show KeyOrd.kle_trans (h (by lia)) (S i (j-1) (by lia) (by lia))
 show KeyOrd.kle_refl _
def WV(S:NonIncK κ Y x)(e:∀k,KK κ a k=KK κ Y k):NonIncK κ a x:=λi j b d=>by rw[e,e];show S i j b d
def EW(κ:KeyKind)(Y:Array Keyed)(x c:Nat):Prop:=c+1<=x/\∀k,x-(c+1)<=k->k<x->KK κ Y k=KK κ Y (x-1)
def EW.one(h:1<=x):EW κ Y x 0:={h,λk a b=>by rw[show k=x-1 by lia]}
variable{st:SortSt}
def TD(g:YQ f A s κ)(h0:KeysOf κ aa)(k:m<=aa.size)(B:TB f aa st)(l:1<=a)(h:a<=m)(S:SortedToK κ (arrOf st) a){Q:AscSt->SortSt->Prop}(q:∀n,a<=n->n<=m->SortedToK κ (arrOf st) n->(n<m->κ.klt (KK κ (arrOf st) n) (KK κ (arrOf st) (n-1)))->Q (none,n) st):wpS (bc prog w) A E s (ascLoop a m) Q st:=by
 show aEA (I:=λn r t=>t=st/\r=(none,n)/\SortedToK κ (arrOf st) n) (λn r t i l2 j=>?_) (λr t ⟨d,e,b⟩=>?_) {rfl,rfl,S}
 .let{d,e,b}:=j;subst d e;show aBu (ltT f g B h0 (by lia) (by lia) ?_);cases z:κ.blt (KK κ (arrOf t) n) (KK κ (arrOf t)<|n-1)with
  |true=>show aCg (q n i (by lia) b λ_=>z)
  |false=>show aCg {rfl,rfl,up1 b λ_=>z}
 simp_all
abbrev Told(f:Bool)(κ:KeyKind)(aa:Array Keyed)(m:Nat)(Q:Option Nat->SortSt->Prop):Prop:=∀n t,TB f aa t->1<=n->n<=m->SortedToK κ (arrOf t) n->Q (some n) t
def CA(h:YQ f A s κ)(h0:KeysOf κ aa)(a:m<=aa.size)(B:TB f aa st)(b:1<=n)(d:n<=m)(S:NonIncK κ (arrOf st) n){Q:Option Nat->SortSt->Prop}(q:Told f κ aa m Q):
  wpS (bc prog w) A E s (tail3 n m) Q st:=by
 have g:=B.setArr (aGv (arrOf st) 0 n<|(n-0)/2);have l:n<=(arrOf st).size:=by rw[B.size];show aAn d a
 show aBu (aGw<|aBu<|TD h h0 a g b d (λi j v o=>?_) λk p r t _=>aCg (q k _ g (aAn b p) r t));have e:∀k,k<n->KK κ (arrOf<|setArr st<|mirror (arrOf st) 0 n<|(n-0)/2) k=KK κ (arrOf st) (0+n-1-k):=λk u=>(KK_mirror l k).trans (kc {aAQ _,u});rw[e i (by lia),e j o];show S _ _ (by lia) (by lia)
def RK(g:YQ f A s κ)(h0:KeysOf κ aa)(y:m<=aa.size)(B:TB f aa st)(l:1<=n)(C:n<=m)(S:NonIncK κ (arrOf st) n){Q:DescSt->SortSt->Prop}(q:∀k c t,TB f aa t->1<=k->k<=m->NonIncK κ (arrOf t) k->EW κ (arrOf t) k c->Q (none,k,c) t):wpS (bc prog w) A E s (descLoop n m) Q st:=by
 show aEA (I:=λk r t=>∃c,r=(none,k,c)/\TB f aa t/\NonIncK κ (arrOf t) k/\EW κ (arrOf t) k c) (λk r t H l2 o=>?_) (λr t ⟨c,e,a,d,b⟩=>?_) {0,rfl,B,S,EW.one l}
 .let{c,e,a,d,b}:=o;subst e;have p:k<=(arrOf t).size:=by rw[a.size];lia
  show aBu (ltT f g a h0 (by lia) (by lia) ?_);cases z:κ.blt (KK κ (arrOf t) k) (KK κ (arrOf t)<|k-1)with
  |true=>
   have h:=dn1 d λ_=>KeyOrd.kle_of_klt z;by_cases j:c>0
   .rw[kc j];show aBu (aGw (aCg {0,rfl,a.setArr (aGv _ _ _ _),WV h (aGb p b.2),EW.one (by lia)}))
   rw[kd j];show aCg {0,rfl,a,h,EW.one (by lia)}
  |false=>
   show aBu (ltT f g a h0 (by lia) (by lia) ?_);cases u:κ.blt (KK κ (arrOf t)<|k-1) (KK κ (arrOf t) k)with
   |true=>show aCg (q k c t a (by lia) (by lia) d b)
   |false=>
    have e:=KeyOrd.kle_antisymm u z;show aCg {c+1,rfl,a,dn1 d λ_=>by rw[e];show KeyOrd.kle_refl _,by have:=b.1;lia,λi J v=>?_};change KK κ (arrOf t) i=KK κ (arrOf t) k;rcases aDu (aFH v)with x|rfl
    .rw[e];show b.2 i (by lia) x
    rfl
 subst e;grind
def EC(a:YQ f A s κ)(h0:KeysOf κ aa)(b:m<=aa.size)(B:TB f aa st)(j:n+1<=m)(S:NonIncK κ (arrOf st) (n+1)){Q:Option Nat->SortSt->Prop}(q:Told f κ aa m Q):
  wpS (bc prog w) A E s (descPart n m) Q st:=by
 show aBu (wpS_lift<|aCx ⟨rfl,aBu (RK a h0 b B (aGK n) j S λk c t d e g h l=>?_)⟩);have o:k<=(arrOf t).size:=by rw[d.size];lia
 by_cases i:c>0
 .rw[kc i];show aBu (aGw<|CA a h0 b (d.setArr<|aGv _ _ _ _) e g (WV h<|aGb o l.2) q)
 rw[kd i];show CA a h0 b d e g h q
def NH(a:YQ f A s κ)(h0:KeysOf κ aa)(b:m<=aa.size)(l:1<=m)(B:TB f aa st){Q:Option Nat->SortSt->Prop}(q:Told f κ aa m Q):wpS (bc prog w) A E s (countRun' 0 m) Q st:=by
 rw[countRun0_eq];show aBu (TD a h0 b B (aAh 1) l (up1 (λ_ _ _ z=>absurd z (aGc _)) λz=>absurd z (by decide)) λn d e S o=>?_);by_cases g:n=m
 .rw[kc (beq_iff_eq.mpr g)];show aCg (q n st B d e S)
 rw[kd λz=>g (beq_iff_eq.mp z)];have lt:=o (by lia);by_cases h:n>1
 .rw[kc h];show aBu (ltT f a B h0 (by lia) (by lia) ?_);cases z:κ.blt (KK κ (arrOf st) 0) (KK κ (arrOf st)<|n-1)with
  |true=>show aCg (q n st B d e S)
  |false=>
   have p:n<=(arrOf st).size:=by rw[B.size];lia
   have same:∀k,0<=k->k<n->KK κ (arrOf st) k=KK κ (arrOf st) (n-1):=λk _ r=>KeyOrd.kle_antisymm (S k (n-1) (by lia) (by lia)) (KeyOrd.kle_trans z<|S 0 k (aAQ _) r);have t:NonIncK κ (arrOf st) n:=λi j v u=>by rw[same i (aAQ _) (by lia),same j (aAQ _) u];show KeyOrd.kle_refl _
   show aBu (aGw (EC a h0 b (B.setArr<|aGv _ _ _ _) (by lia) (WV (dn1 t λ_=>KeyOrd.kle_of_klt lt)<|aGb p same) q))
 rw[kd h];obtain rfl:n=1:=by lia
 show EC a h0 b B (by lia) (dn1 (dn1 (λ_ _ _ z=>absurd z (aGc _)) λz=>absurd z (by decide)) λ_=>KeyOrd.kle_of_klt lt) q
def sD(hO:YQ f A s κ)(h0:KeysOf κ aa)(hn:n<=aa.size)(hk:k<=n)(B:TB f aa st)(S:SortedToK κ (arrOf st) k){Q:Bool->SortSt->Prop}(q:∀t,TB f aa t->SortedToK κ (arrOf t) n->Q true t):
  wpS (bc prog w) A E s (binarySort' 0 n k) Q st:=by
 rw[binarySort'_eq];erw[aDX];have S0:SortedToK κ (arrOf st) (min (max k 1) n):=λi j v L=>by
  rcases Nat.eq_or_lt_of_le v with rfl|ao
  .show KeyOrd.kle_refl _
  show S i j v (by lia)
 show aBu (wpS_mono (Q:=λr t=>r=(none,())/\TB f aa t/\SortedToK κ (arrOf t) n) (aEA (I:=λx r t=>r=(none,())/\TB f aa t/\SortedToK κ (arrOf t) (min x n)) (λx r t l1 l2 ⟨e,h,g⟩=>?step) (λr t ⟨e,h,g⟩=>{e,h,?fin}) {rfl,B,S0}) λr t ⟨e,h,g⟩=>?post)
 case step=>
  subst e;rw[Nat.min_eq_left (aDC l2)]at g;have N:x<aa.size:=by lia
  let o (l:Nat):Prop:=∀i,i<l->κ.kle (KK κ (arrOf t) i) (KK κ (arrOf t) x)
  let Top (r:Nat):Prop:=∀i,r<=i->i<x->κ.klt (KK κ (arrOf t) x) (KK κ (arrOf t) i)
  show aBu (wpS_mono (Q:=λd u=>u=t/\∃l r,d=(none,l,r)/\l<=x/\o l/\Top l) (aEA (I:=λy d u=>u=t/\∃l r,d=(none,l,r)/\l<=r/\r<=x/\r-l<=x-y/\o l/\Top r) (λy d u _ y2 ⟨e,l,r,C,O,T,J,lo,p⟩=>?istep) (λd u ⟨e,l,r,C,O,T,J,lo,p⟩=>?ifin)
   {rfl,0,x,rfl,aAQ _,aAh _,aAh _,λ_ z=>absurd z (aGc _),λi a b=>absurd (aCK a b) (aBJ _)}) λd u ⟨e,l,r,C,lx,lo,p⟩=>?ipost)
  case istep=>
   subst e C;change wpS _ _ _ _ (if l>=r then _ else _) _ u;by_cases m:l>=r
   .rw[kc m];obtain rfl:l=r:=Nat.le_antisymm O m;show aCg {rfl,l,l,rfl,T,lo,p}
   rw[kd m];dsimp only;show aBu (ltT f hO h h0 N (by lia) ?_);cases z:κ.blt (KK κ (arrOf u) x) (KK κ (arrOf u)<|(l+r)/2)with
   |true=>show aCg {rfl,l,(l+r)/2,rfl,by lia,by lia,by lia,lo,λi a b=>KeyOrd.klt_of_klt_of_kle z (g _ i a b)}
   |false=>show aCg {rfl,(l+r)/2+1,r,rfl,by lia,by lia,by lia,λi a=>KeyOrd.kle_trans (g i ((l+r)/2) (by lia) (by lia)) z,p}
  case ifin=>grind
  case ipost=>
   subst e C;have hz:x<(arrOf u).size:=by rw[h.size];show N
   change wpS _ _ _ _ (do moveDown' x l;pure (aCi (none,()))) _ u;rw[moveDown'_eq];show aBu (wpS_modify<|aCg ⟨rfl,h.setArr (bubble_perm _ _ _),λi j v L=>?_⟩);have e:=λk=>by have:=KK_bubble (κ:=κ) hz (Nat.sub_le x l) k;rw[show x-(x-l)=l by lia]at this;show this
   have L:j<x+1:=by lia
   rw[e,e];by_cases U:i=l
   .rw[kc U];by_cases H:j=l
    .rw[kc H];show KeyOrd.kle_refl _
    rw[kd H,kc {by lia,by lia}];show KeyOrd.kle_of_klt (p _ (by lia) (by lia))
   rw[kd U];by_cases H:j=l
   .grind
   rw[kd H];by_cases Y:l<i/\i<=x
   .rw[kc Y,kc {by lia,by lia}];show g _ _ (by lia) (by lia)
   rw[kd Y];by_cases c4:l<j/\j<=x
   .rw[kc c4];show g _ _ (by lia) (by lia)
   rw[kd c4];show g _ _ v (by lia)
 case fin=>grind
 case post=>subst e;show aCg (q t h g)
def pQ(f:Bool)(h:YQ f A s κ)(h0:KeysOf κ aa)(B:TB f aa st)(y:2<=aa.size)(d:aa.size<64){Q:Unit->SortSt->Prop}(q:∀t,(arrOf t).Perm aa->failedOf t=none->SortedToK κ (arrOf t) aa.size->Q () t):wpS (bc prog w) A E s sortRuns' Q st:=by
 have l:minRun' aa.size aa.size 0=aa.size:=by
  generalize C:aa.size=N at*
  cases N with
  |zero=>lia
  |succ N=>rw[minRun'_succ,kc d]
 let fy (t:SortSt):Prop:=(arrOf t).Perm aa/\failedOf t=none/\pendingOf t=#[(0,aa.size,0)]/\SortedToK κ (arrOf t) aa.size
 have done:∀t,TB f aa t->SortedToK κ (arrOf t) aa.size->fy (setPending t<|(pendingOf t).push (0,aa.size,0)):=λt a m=>{a.perm,a.failed,(km (·.push (0,aa.size,0)) a.pend),m};rw[sortRuns'_eq];show aBu (wpS_get ?_);dsimp only;erw[B.size,l];show aBu (wpS_mono (Q:=λr t=>r=(none,aa.size)/\fy t) (aEA (I:=λx r t=>(x=0/\r=(none,0)/\TB f aa t)\/(0<x/\r=(none,aa.size)/\fy t)) (λx r t _ l2 I=>?step) (λr t I=>?fin)<|.inl ⟨rfl,rfl,B⟩) λr t ⟨e,D⟩=>?post)
 case step=>
  rcases I with⟨rfl,rfl,a⟩|⟨H,rfl,D⟩
  .change wpS _ _ _ _ (if 0>=aa.size then _ else _) _ t;rw[kd (by lia)];erw[Nat.sub_zero,Nat.min_self,aDX];have fin:∀u,TB f aa u->(pendingOf u).back?=none:=λu b=>by rw[b.pend];rfl
   show aBu (NH h h0 (aAh _) (by lia) a λn u b J o i=>?_);change wpS _ _ _ _ (if n<aa.size then _ else _) _ u;by_cases j:n<aa.size
   .rw[kc j];show aBu (wpS_lift<|aCx ⟨rfl,aBu (sD h h0 (aAh _) o b i λv k p=>?_)⟩);erw[aEO,aAC,if_false];show aBu (wpS_get ?_);rw[fin v k];show aBu (wpS_modify<|aCg<|.inr ⟨aGK _,rfl,done v k p⟩)
   rw[kd j];obtain rfl:n=aa.size:=by lia
   show aBu (wpS_get ?_);rw[fin u b];show aBu (wpS_modify<|aCg<|.inr ⟨aGK _,rfl,done u b i⟩)
  change wpS _ _ _ _ (if aa.size>=aa.size then _ else _) _ t;rw[kc (aAh _)];show aCg {rfl,D}
 case fin=>grind
 case post=>
  subst e;show aBu (wpS_mono (aEA (I:=λ_ r u=>u=t/\r=(none,())) (λ_ r u _ _ ⟨e,g⟩=>?istep) (λ_ _ z=>z) {rfl,rfl}) λr u ⟨e,g⟩=>?ipost)
  case istep=>subst e g;show aBu (wpS_get ?_);rw[kc (by grind)];show aCg {rfl,rfl}
  case ipost=>subst e g;show aCg (q _ D.1 D.2.1 D.2.2.2)
end
section
def Bar(a:ba)(s d:aL):Prop:=∀b o,b≠a->s.heap.get? b=some o->d.heap.get? b=some o
def DS{P:Fin->aL->Prop}(q:s.heap.get? a=some (seqObj "list" vs.toArray n))(h0:KeysOf κ (pairsOf vs))(y:∀k,Bar a s k->YQ f A k κ)(t:2<=vs.length->∀k,Bar a s k->∀{Q:SortKind->aL->Prop},Q (tupK f) k->bb (bc prog w) A (keyKind' vs.toArray) Q E k)(u:vs.length<64)(h:∀d:SortSt,(arrOf d).Perm (pairsOf vs)->SortedToK κ (arrOf d) (pairsOf vs).size->P (.done (.ret .none)) {s with heap:=sortedHeap s.heap a vs ((arrOf d).map (·.2))}):
  bb (bc prog w) A (Builtin.«list.sort» {[.ref a],[]}) P E s:=by
 rw[list_sort_plain];have N:=aAd q;show aAa (aEB q rfl ?_);show aAa (listUpdate_at q rfl ?_);obtain⟨v,l⟩:∃v,(s.heap.update a<|aBY λ_=>#[]).get? a=some (seqObj "list" #[] v):={_,get?_update_seq q _};show aAa (seqEpoch_at l rfl<|aAa<|aFz<|aAa<|wpAny_newList<|aAG ?_);have m:Bar a s {s with heap:=((s.heap.update a<|aBY λ_=>#[]).push (seqObj "tuple" vs.toArray 0)).push (seqObj "list" #[] 0)}:=λb o z e=>aAb _ (aAb _<|(aAD _ _<|aCF z).trans e)
 have g:(((s.heap.update a<|aBY λ_=>#[]).push (seqObj "tuple" vs.toArray 0)).push (seqObj "list" #[] 0)).get? a=some (seqObj "list" #[] v):=aAb _ (aAb _ l);dsimp only;have O:vs.toArray.size=vs.length:=by simp
 have p:=h;by_cases r:vs.toArray.size<2
 .rw[kc r,kc r];show aAa (aAc ?_);show aAa (aAc ?_);show aAa (seqEpoch_at g rfl (aAa (listUpdate_at g rfl ?_ (hsz2:=by rw[Array.size_map];change(pairsOf vs).size<=_;rw[aFo,aFN];lia))));erw[bne_self_eq_false];show aAc (p (SortSt.mk' general' (vs.toArray.zip vs.toArray) #[] 7 none) (aGP _) λi j T B=>?_);have:i=j:=by rw[aFo]at B;lia
  subst this;show KeyOrd.kle_refl _
 rw[kd r,kd r];show aAa (t (by lia) _ m ?_);show aAa (aCy (pQ f (κ:=κ) (y _ m) (aa:=pairsOf vs) (Q:=λ_ d=>(arrOf d).Perm (pairsOf vs)/\failedOf d=none/\SortedToK κ (arrOf d) (pairsOf vs).size)
  h0 {aGP _,rfl,rfl,rfl} (by rw[aFo];lia) (by rw[aFo];show u) λd C H I=>{C,H,I}) ?_ λ_ _ e=>e)
 rintro⟨⟨⟩,d⟩ U ⟨rfl,x,J,L⟩;show aAa (seqEpoch_at g rfl (aAa (listUpdate_at g rfl ?_ (hsz2:=by show aAn (aGd<|(Array.size_map ..).trans (x.size_eq.trans<|aFo _)) ?_;rw[aFN];lia))));rw[J];simp;show aAc (p d x L)
end
end TS
namespace SZ
open PySem
abbrev Zs(h:ck)(z TI TO:ba)(a b:au):Prop:=h.get? z=some {cls:=.type "zip",dict:=none,data:=.fields #[a,b,.bool false,.ref TI,.ref TO],slots:=#[]}
def BC(b:au):Prop:=b=.none\/∃a:Nat,b=dq a
section
def alive{Q:Option Obj->aL->Prop}(h:Q (s.heap.get? c) s):bb (bc prog w) A (loadIfAlive c) Q E s:=λa p _=>by
 unfold loadIfAlive
 simp_all
def qE{Q:CD}(hz:Zs s.heap z TI TO b d)(j:BC b)(f:Q true s)(g:∀h' e,Zs h' z TI TO b e->Heap.SameBut z s.heap h'->Q false {s with heap:=h'}):bb (bc prog w) A (aBL (.ref z)) Q E s:=by
 show aAa (aBh hz rfl (x:=b) rfl ?_);rcases j with rfl|⟨a,rfl⟩
 .show aAc f
 change bb _ _ (loadIfAlive (aET (a:Int))>>=_) _ _ _;show aAa (alive ?_);by_cases h:(s.heap.get?<|aET (a:Int)).isNone=true
 .rw[kc h];show aAc f
 rw[kd h];show aAa (aBh hz rfl (x:=d) rfl ?_);by_cases i:(d !=aDH true)=true
 .rw[kc i];show aAa (aBf hz (by simp) λh' k l=>aAc (g h' (.bool true) k l))
 rw[kd i];show aAc (g s.heap d hz {rfl,λ_ _=>rfl})
def SE{Q:B6}(D:ZipApart z TI TO j l l1 l2)(hz:Zs s.heap z TI TO f0 f1)(ho:BC f0)(hTI:dC s.heap TI (.ref j) (.ref l))(u:dC s.heap TO a b)(h1:s.heap.IsListIter j l1 k)(h2:s.heap.IsListIter l l2 k)(jd:s.heap.IsList l1 Y)(jl:s.heap.IsList l2 ys)(hx:Y[k]?=some x)(hy:ys[k]?=some y)(hQ:∀h' T B C a' b',Zs h' z TI TO B C->BC B->dC h' TO a' b'->h'.IsListIter j l1 (k+1)->h'.IsListIter l l2 (k+1)->s.heap.objs.size<=T->dC h' T x y->
   (∀c o,c≠z->c≠TO->c≠j->c≠l->s.heap.get? c=some o->h'.get? c=some o)->Q (.ref T) {s with heap:=h'}):
  bb (bc prog w) A (Builtin.«zip.__next__» {[.ref z],[]}) (λfin s'=>∃v,fin=.done (.ret v)/\Q v s') E s:=by
 change bb _ _ (field (.ref z) 2>>=_) _ _ _;show aAa (aBh hz rfl (x:=.bool false) rfl ?_);change bb _ _ (field (.ref z) 3>>=_) _ _ _;show aAa (aBh hz rfl (x:=.ref TI) rfl<|aAa<|aAV hTI rfl ?_);change bb _ _ (aBL (.ref z)>>=_) _ _ _;show aAa (qE hz ho ?_ λm C H d=>?_)
 .erw[if_true];show aAa (aCx (aAa (aBh hz rfl (x:=.ref TO) rfl (aAa (aBf hz (by simp) λm H d=>?_)))));replace H:Zs m z TI TO .ellipsis f1:=H;show aAa ?_;erw[List.zipIdx_cons,List.zipIdx_nil,aCX,aFA];show aAa (aAa<|aEg ?_);change bb _ _ (aBp (.ref j)>>=_) _ _ _;show aAa (aCE (h1.extBut d.extBut D.i1z) (jd.extBut d.extBut D.l1z) hx λfu n f=>aAc ?_);have vc:dC fu TO a b:=f.extBut _ _ D.TOi1 (d.extBut _ _ D.TOz u);show aAa (aAV vc rfl<|aAa<|aDN vc λhV qm t=>?_);replace qm:dC hV TO x b:=qm;show aAa (aDD<|aAc<|aAa<|aAa<|aEg ?_);change bb _ _ (aBp (.ref l)>>=_) _ _ _;show aAa (aCE (((h2.extBut d.extBut D.i2z).extBut f.extBut D.i12.symm).extBut t.extBut D.TOi2.symm)
   (((jl.extBut d.extBut D.l2z).extBut f.extBut D.l2i1).extBut t.extBut D.l2TO) hy λaA p g=>aAc ?_)
  have ve:dC aA TO x b:=g.extBut _ _ D.TOi2 qm;show aAa (aAV ve rfl<|aAa<|aDN ve λh mr I=>?_);replace mr:dC h TO x y:=mr;show aAa (aDD<|aAc<|aAc<|aAa<|aAV mr rfl<|aAa<|aFz ?_);have fm:h.objs.size=s.heap.objs.size:=by rw[I.1,g.1,t.1,f.1,d.1]
  have J:=I.extBut _ _ D.TOz.symm (g.extBut _ _ D.i2z.symm<|t.extBut _ _ D.TOz.symm<|f.extBut _ _ D.i1z.symm H);have hk3:∀c o,c≠z->c≠TO->c≠j->c≠l->s.heap.get? c=some o->h.get? c=some o:=λc o i L N O e=>I.extBut _ _ L (g.extBut _ _ O<|t.extBut _ _ L<|f.extBut _ _ N<|d.extBut _ _ i e)
  have h11:=((n.extBut t.extBut D.TOi1.symm).extBut g.extBut D.i12).extBut I.extBut D.TOi1.symm;have h21:=p.extBut I.extBut D.TOi2.symm;have vg:z<h.objs.size:=aAd J;change bb _ _ (aBI (.ref z) (.ref h.objs.size)>>=_) _ _ _;show aAa ?_;unfold aBI;have hz5:Zs (h.push {cls:=.type "tuple",data:=.seq #[x,y]}) z TI TO .ellipsis f1:=aAb _ J;show aAa (aBf hz5 (by simp) λaC q U=>?_);replace q:Zs aC z TI TO (dq h.objs.size) f1:=q;show aBf q (by simp) λaB r hs9=>?_;replace r:Zs aB z TI TO (dq h.objs.size) (.bool false):=r;have up:∀c o,c≠z->h.get? c=some o->aB.get? c=some o:=λc o i e=>hs9.extBut _ _ i (U.extBut _ _ i<|aAb _ e);show aAc {_,rfl,(hQ aB h.objs.size _ _ x y r (.inr {_,rfl}) (up _ _ D.TOz mr) (h11.at λo e=>up _ o D.i1z e) (h21.at λo e=>up _ o D.i2z e) (aGd fm.symm) (hs9.extBut _ _ (aBP vg)<|U.extBut _ _ (aBP vg)<|aAg _ rfl) λc o i L N O e=>up c o i (hk3 c o i L N O e))}
 erw[aAC,if_false];show aAa ?_;change bb _ _ (forIn (#[.ref j,.ref l]:Array au) _ _) _ _ _;rw[<-aCl];erw[aCX,aFA];show aAa (aAa<|aAG ?_);change bb _ _ (aBp (.ref j)>>=_) _ _ _;show aAa (aCE (h1.extBut d.extBut D.i1z) (jd.extBut d.extBut D.l1z) hx λfu n f=>aAc (aAc<|aAa<|aAa<|aAG ?_));change bb _ _ (aBp (.ref l)>>=_) _ _ _;show aAa (aCE ((h2.extBut d.extBut D.i2z).extBut f.extBut D.i12.symm) ((jl.extBut d.extBut D.l2z).extBut f.extBut D.l2i1) hy λaA p g=>aAc (aAc<|aAc ?_));have fm:aA.objs.size=s.heap.objs.size:=by rw[g.1,f.1,d.1]
 have hz6:=g.extBut _ _ D.i2z.symm (f.extBut _ _ D.i1z.symm H);change bb _ _ (newTuple [x,y]>>=_) _ _ _;show aAa (aFz<|aAc ⟨_,rfl,?_⟩);show hQ _ aA.objs.size _ _ a b (aAb _ hz6) ho (aAb _<|g.extBut _ _ D.TOi2<|f.extBut _ _ D.TOi1<|d.extBut _ _ D.TOz u) ((n.extBut g.extBut D.i12).at λo e=>aAb _ e) (p.at λo e=>aAb _ e) (aGd fm.symm) (aAg _ rfl)
  λc o i L N O e=>aAb _ (g.extBut _ _ O<|f.extBut _ _ N<|d.extBut _ _ i e)
def az{Q:Fin->aL->Prop}(v:A.handled=none)(D:ZipApart z TI TO n p y l2)(hz:Zs s.heap z TI TO L N)(O:BC L)(q:dC s.heap TI (.ref n) (.ref p))(T:dC s.heap TO a b)
  (B:s.heap.IsListIter n y k) (h2:s.heap.IsListIter p l2 k) (C:s.heap.IsList y Y) (jl:s.heap.IsList l2 ys) (H:Y[k]?=none)
  (hE:∀h' e,(∀c o,c≠z->c≠TO->c≠n->c≠p->s.heap.get? c=some o->h'.get? c=some o)->(∃o,h'.get? e=some o/\o.cls=.type "StopIteration")->E (.ref e) {s with heap:=h'}):
  bb (bc prog w) A (Builtin.«zip.__next__» {[.ref z],[]}) Q E s:=by
 change bb _ _ (field (.ref z) 2>>=_) _ _ _;show aAa (aBh hz rfl (x:=.bool false) rfl ?_);change bb _ _ (field (.ref z) 3>>=_) _ _ _;show aAa (aBh hz rfl (x:=.ref TI) rfl<|aAa<|aAV q rfl<|aAa<|qE hz O ?_ λd U j f=>?_)
 .erw[if_true];show aAa (aCx (aAa (aBh hz rfl (x:=.ref TO) rfl (aAa (aBf hz (by simp) λd j f=>?_)))));replace j:Zs d z TI TO .ellipsis N:=j;show aAa (aAa<|aAa<|aEg ?_);show aAa (wpAny_nextOf_list_end v (B.extBut f.extBut D.i1z) (C.extBut f.extBut D.l1z) H λI e l r=>?_);let{oe,g,h}:=r;have i:=l _ _ D.i1z.symm j;have t:e≠z:=λx=>by subst x;rw[i]at g;cases g;simp at h
  show aBf i (by simp) λhV _ J=>hE hV e (λc o m _ u _ x=>J.extBut _ _ m (l _ _ u<|f.extBut _ _ m x)) {oe,J.extBut _ _ t g,h}
 erw[aAC,if_false];show aAa ?_;rw[<-aCl];erw[aCX,aFA];show aAa (aAa<|aAG<|aAa<|wpAny_nextOf_list_end v (B.extBut f.extBut D.i1z) (C.extBut f.extBut D.l1z) H λI e l r=>hE I e (λc o m _ u _ x=>l _ _ u (f.extBut _ _ m x)) r)
end
def VO(z TI TO d e f l2:ba)(Y j:Array au)(i:Nat)(h:ck):Prop:=
 (∃g k,Zs h z TI TO g k/\BC g)/\dC h TI (.ref d) (.ref e)/\(∃a b,dC h TO a b)/\h.IsListIter d f i/\h.IsListIter e l2 i/\h.IsList f Y/\h.IsList l2 j
section
variable{s:aL}
def VO.type(h:VO z TI TO b d e l2 Y f i s.heap):s.TypeIs (.ref z) "zip":=by let{{g,j,a,_},_}:=h;show{_,a,rfl}
def VO.keeps(x:VO z TI TO d f g l2 Y m i h)(k:∀b o,b∈[z,TI,TO,d,f,g,l2]->h.get? b=some o->h'.get? b=some o):VO z TI TO d f g l2 Y m i h':=by let{{n,p,q,r},j,{a,b,l},t,u,v,w}:=x;show{{n,p,k z _ (by simp) q,r},k TI _ (by simp) j,{a,b,k TO _ (by simp) l},t.at λo e=>k d o (by simp) e,u.at λo e=>k f o (by simp) e,v.at λo e=>k g o (by simp) e,w.at λo e=>k l2 o (by simp) e}
def VL{Q:Option au->aL->Prop}(D:ZipApart z TI TO g h n l2)(hl:Y.size=d.size)(st:VO z TI TO g h n l2 Y d i s.heap)(v:i<Y.size)(B:∀h' T x y,Y[i]?=some x->d[i]?=some y->VO z TI TO g h n l2 Y d (i+1) h'->s.heap.objs.size<=T->dC h' T x y->(∀c o,c∉[z,TO,g,h]->s.heap.get? c=some o->h'.get? c=some o)->Q (some (.ref T)) {s with heap:=h'}):
  bb (bc prog w) A (fh (.ref z)) Q E s:=by
 have p:=st.type;let{{f0,f1,C,H},f,{a,b,j},I,J,q,r}:=st;have t:=aAr v;have u:d[i]?=some (d[i]'(by lia)):=aAr (by lia);show aAa (aCJ (aAW p aCj
  (aAF aCj p aEI (SE D C H f j I J q r t u λh' T k l L N O U e3 e4 e5 e6 e7 m=>aAc ?_)<|aEr _)))
 show B h' T _ _ t u {{k,l,O,U},m _ _ D.TIz D.TITO D.TIi1 D.TIi2 f,{L,N,e3},e4,e5,q.at λo e=>m _ o D.l1z D.l1TO D.l1i1 D.l1i2 e,r.at λo e=>m _ o D.l2z D.l2TO D.l2i1 D.l2i2 e} e6 e7 λc o hc e=>?_;grind
def XE{Q:Option au->aL->Prop}(x:A.handled=none)(D:ZipApart z TI TO h i l l2)(st:VO z TI TO h i l l2 Y y Y.size s.heap)
  (m:∀h',(∀c o,c∉[z,TO,h,i]->s.heap.get? c=some o->h'.get? c=some o)->Q none {s with heap:=h'}):bb (bc prog w) A (fh (.ref z)) Q E s:=by
 have j:=st.type;let{{B,C,n,p},d,{a,b,f},q,r,t,u}:=st;show aAa (aCJ (aAW j aCj
  (aAF aCj j aEI (az (by lia) D n p d f q r t u (aBy<|aAh _) λh' e H v=>?_)<|aEr _)))
 let{o,g,k}:=v;show aAa (aCp (b:=true) {o,g,k} aEv<|aAc<|m _ λc o k e=>?_);grind
def Pairs(h0:ck)(Y a B:Array au)(i:Nat)(h:ck)(off:List ba):Prop:=B.size=i/\∀(j:Nat) (v:au),B[j]?=some v->∃T x y,v=.ref T/\Y[j]?=some x/\a[j]?=some y/\dC h T x y/\T∉off/\h0.get? T=none
def UJ(hh:A.handled=none)(D:ZipApart z TI TO d f J l2)(hl:Y.size=L.size)(hn:Y.size<=sizeLine)(S:ba)(ua:S∉[z,TI,TO,d,f,J,l2])(res:au)(h0:ck):
  ∀(k i:Nat) (s:aL) (B:Array au) (c:Nat),Y.size-i=k->i<=Y.size->(∀b o,b∉[z,TO,d,f,S]->h0.get? b=some o->s.heap.get? b=some o)->VO z TI TO d f J l2 Y L i s.heap->s.heap.get? S=some {cls:=.type "list",dict:=none,data:=.seq B c,slots:=#[]}->Pairs h0 Y L B i s.heap [z,TO,d,f,S]->
  (∀h' N c',(∀b o,b∉[z,TO,d,f,S]->s.heap.get? b=some o->h'.get? b=some o)->h'.get? S=some {cls:=.type "list",dict:=none,data:=.seq N c',slots:=#[]}->Pairs h0 Y L N Y.size h' [z,TO,d,f,S]->R (.ok (.ret res)) {s with heap:=h'})->
  fo (bc prog w) A (.builtin "list.extend.loop" {[.ref S,.ref z,res],[]}) R s:=by
 have r:S∉[z,TO,d,f]:=λh=>ua (by grind);have m:∀b,b∉[z,TO,d,f,S]->b∉[z,TO,d,f]:=λb h q=>h (by grind);intro k;induction k with
 |zero=>
  intro i s B c hk hi t u C l hR;have lb:i=Y.size:=by lia
  subst lb;show aBl F.entry_extend_loop ?_;rw[aBk aDh _];change bb _ A.in1 (fh (.ref z)>>=_) _ _ s;show aAa (XE (by simpa using hh) D u λh' n=>(aAc<|hR h' B c (λb o g e=>n b o (m b g) e) (n S _ r C) ⟨l.1,λj v p=>?_⟩));let{T,x,y,e1,e2,e3,e4,E,e6}:=l.2 j v p;grind
 |succ k ih=>
  intro i s B c hk hi t u C l hR;have ao:i<Y.size:=by lia
  show aBl F.entry_extend_loop ?_;rw[aBk aDh _];change bb _ A.in1 (fh (.ref z)>>=_) _ _ s;show aAa (VL D hl u ao λh' T x y hx hy lg hT hP n=>?_);have jg:=n S _ r C;have O:∀b o,s.heap.get? b=some o->T≠b:=λb o e q=>absurd (aAq (aAd e) hT) (by rw[q];show aBJ _);let{{f0,f1,hz,_},_,{a,b,hTO},{o1,g1,_},{o2,g2,_},_}:=id u;have Q:T∉[z,TO,d,f,S]:=by grind
  change bb _ A.in1 (updateSeq S (·.push (.ref T))>>=_) _ _ _;show aAa ?_;have H:∀b o,b≠S->h'.get? b=some o->(h'.update S (aBY (·.push (.ref T)))).get? b=some o:=λb o g e=>(aAD _ _<|aCF g).trans e;have U:∀b,b∈[z,TI,TO,d,f,J,l2]->b≠S:=λb g q=>ua (q▸g);show aBT jg rfl (aAc {aBz aDh _,ih (i+1) _ (B.push<|.ref T) _ (by lia) ao (λb o g e=>H b o (λq=>g (by simp[q])) (n b o (m b g)<|t b o g e)) (lg.keeps λb o g e=>H b o (U b g) e) (aAZ _ jg rfl) {by rw[Array.size_push,l.1],λj v p=>?_} λh'' N c' kp' yv hacc'=>?_})
   (by rw[l.1];lia) (by change(B.push<|.ref T).size<=sizeLine+1;rw[Array.size_push,l.1];lia)
  .rw[Array.getElem?_push]at p;split at p
   .rename_i q;cases p;rw[l.1]at q;subst q;show{T,x,y,rfl,hx,hy,H T _ (O _ _ C) hP,Q,?_};cases q0:h0.get? T with
    |none=>rfl
    |some o=>grind
   let{I,x',y',e1,e2,e3,e4,E,e6}:=l.2 j v p;show{I,x',y',e1,e2,e3,H I _ (λq=>E (by simp[q])) (n I _ (m I E) e4),E,e6}
  grind
end
section
def fM{Q:B6}(St:ck->Prop)(J:∀d:aL,St d.heap->d.TypeIs (.ref I) T)(y:∀h h',St h->(∀b o,b≠s.heap.objs.size->h.get? b=some o->h'.get? b=some o)->St h')(r:I≠s.heap.objs.size)
  (n1:(aCm T==aCm "list")=false) (n2:(aCm T==aCm "tuple")=false) (L:∀{M:Model}{A:bM}{E:B6}{s:aL}{Q:Fin->aL->Prop}{a b:Sem Fin},(room=true->bb M A a Q E s)->(room=false->bb M A b Q E s)->bb M A (if(room||["set", "frozenset", "dict", "dict_keys", "dict_values", "dict_items"].any (aCm T==aCm ·))=true then a else b) Q E s)
  (self:∀(d:aL) (Q:B6) (E:B6),St d.heap->Q (.ref I) d->bb (bc prog w) A.in1.in1 (pyIter (.ref I)) Q E d)
  (hint:∀(d:aL) (Q:CD) (E:B6),St d.heap->Q room d->bb (bc prog w) A.in1.in1 (aCD (.ref I)) Q E d) (N:St s.heap)
  (f:∀(n:ck) (c:Nat) (R:Result->aL->Prop),(∀b o,s.heap.get? b=some o->n.get? b=some o)->St n->n.get? s.heap.objs.size=some {cls:=.type "list",dict:=none,data:=.seq #[] c,slots:=#[]}->(∀s',Q (.ref s.heap.objs.size) s'->R (.ok (.ret .none)) s')->
   fo (bc prog w) A.in1 (.builtin "list.extend.loop" {[.ref s.heap.objs.size,.ref I,.none],[]}) R {s with heap:=n}):
  bb (bc prog w) A (call (.type "list") [.ref I]) Q E s:=by
 show callType_codes (Q₁:=λj z=>j=.ref s.heap.objs.size/\z={s with heap:=s.heap.push {cls:=.type "list",data:=.seq #[]}}) F.called_list (F.typeCall_list_1 _) F.entry_list_init
  (code_list_new _ {rfl,rfl}) λj z k=>?_
 let{rfl,rfl}:=k;have p:(s.heap.push {cls:=.type "list",data:=.seq #[]}).get? s.heap.objs.size=some {cls:=.type "list",data:=.seq #[]}:=aAg _ rfl;have B:∀b o,s.heap.get? b=some o->b≠s.heap.objs.size:=λb o e=>aAk (aAd e);show{{_,p,rfl},F.args_list_init_2 _ _,(aAa ?_)};unfold aDq;show aAa (aAV p rfl<|aAc<|aAa<|aBT p rfl ?_);have i:=aAZ (aBY<|λ_=>(#[]:Array au)) p rfl;show aAa (aDD ?_);generalize t:(s.heap.push {cls:=.type "list",data:=.seq #[]}).update s.heap.objs.size (aBY<|λ_=>(#[]:Array au))=g at*
 have u:∀b o,s.heap.get? b=some o->g.get? b=some o:=λb o e=>by rw[<-t];show(aAD _ _<|aCF<|B b o e).trans (aAb _ e)
 have l:St g:=y s.heap g N λb o _ e=>u b o e;have v:aCY (.ref s.heap.objs.size) (.ref I)=false:=by simp[aCY,aCF r]
 have x:Shared.TypeIs {s with heap:=g} (.ref I) T:=J {s with heap:=g} l;unfold aDE;show aAa (aDe x ?_);erw[v,n1,n2,Bool.or_false,aAC,if_false];show aAa (self _ _ _ l<|aAa<|aAG<|hint _ _ _ l<|L (λ_=>?_)<|λ_=>?_)
 .change bb _ A.in1.in1 (rule "list.extend.makes-room">>=λ_=>Builtin.List.listTouch (.ref s.heap.objs.size)>>=λ_=>again (.builtin "list.extend.loop" {[.ref s.heap.objs.size,.ref I,.none],[]})) _ _ _;show aAa (aCx<|aAa ?_);show aAa (aBT i rfl ?_);have m:=aAZ (aBY (·.push Value.none)) i rfl;show aBT m rfl ?_;have C:∀b o,b≠s.heap.objs.size->g.get? b=some o->((g.update s.heap.objs.size (aBY (·.push Value.none))).update s.heap.objs.size (aBY (·.pop))).get? b=some o:=
   λb o H e=>(aAD _ _<|aCF H).trans ((aAD _ _<|aCF H).trans e)
  show aAc {aBz aDh _,f _ _ _ (λb o e=>C b o (B b o e) (u b o e)) (y g _ l C) (aAZ (aBY (·.pop)) m rfl) λs' q=>{rfl,q}}
 show aAc {aBz aDh _,f _ _ _ u l i λs' q=>{rfl,q}}
def OO:ju (.type "zip") "__len__"=pure none:=by rw[aCZ,aBQ];kernel_rfl
def HG:ju (.type "zip") "__length_hint__"=pure none:=by rw[aCZ,aBQ];kernel_rfl
def QU{Q:B6}(y:A.handled=none)(D:ZipApart z TI TO d f i l2)(C:Y.size=l.size)(H:Y.size<=sizeLine)(st:VO z TI TO d f i l2 Y l 0 s.heap)(I:∀h' B c,(∀b o,b∉[z,TO,d,f]->s.heap.get? b=some o->h'.get? b=some o)->h'.get? s.heap.objs.size=some {cls:=.type "list",dict:=none,data:=.seq B c,slots:=#[]}->Pairs s.heap Y l B Y.size h' [z,TO,d,f,s.heap.objs.size]->Q (.ref s.heap.objs.size) {s with heap:=h'}):
  bb (bc prog w) A (call (.type "list") [.ref z]) Q E s:=by
 have lt:∀b∈[z,TI,TO,d,f,i,l2],b≠s.heap.objs.size:=λb g=>by
  let{{J,L,p,_},m,{a,b',n},{o1,N,_},{o2,O,_},{o3,T,_},{o4,U,_}}:=st;simp at g;rcases g with rfl|rfl|rfl|rfl|rfl|rfl|rfl
  .show aAk (aAd p)
  .show aAk (aAd m)
  .show aAk (aAd n)
  .show aAk (aAd N)
  .show aAk (aAd O)
  .show aAk (aAd T)
  show aAk (aAd U)
 show fM (room:=true) (VO z TI TO d f i l2 Y l 0) (λr h=>h.type) (λh h' x k=>x.keeps λb o g e=>k b o (lt b g) e) (lt z (by simp)) (by decide) (by decide) (λt h2=>by rw[kc (by decide)];show t rfl)
  (λr Q E x q=>?_) (λr Q E x q=>?_) st λt c R u PJ hS hR=>?_
 .let{{J,L,p,_},_}:=id x;show aDI x.type F.slot_zip_iter (aAF F.slot_zip_iter x.type F.entry_zip_iter ?_ (F.args_zip_iter_1 _));show aAc {_,rfl, "zip",_,x.type,aCj.lookup,q}
 .unfold aCD;show aAa (aBt x.type OO ?_);change bb _ _ (specialOf (aCL z) (Str.ofString "__length_hint__")>>=_) _ _ _;show aAa (aBt x.type HG<|aAc q)
 show UJ (by simpa using y) D C H s.heap.objs.size (λh=>lt _ h rfl) .none s.heap Y.size 0 _ #[] c (by lia) (aAQ _) (λb o _ e=>u b o e) PJ hS {rfl,λj v h=>by simp at h} λh' ip c' kp jg hP=>hR _ (I h' ip c' (λb o g e=>kp b o ?_ (u b o e)) jg hP);have:=aAk (aAd e);grind
def NW:ju (.type "list_reverseiterator") "__len__"=pure none:=by rw[aCZ,aBQ];kernel_rfl
def SN:ju (.type "list_reverseiterator") "__length_hint__"=pure (some (.builtin "list_reverseiterator.__length_hint__")):=by rw[aCZ,aBQ];kernel_rfl
def RT{Q:B6}(z:A.handled=none)(B:l≠r)(C:Y.size<=sizeLine)(m:s.heap.IsRevIter r l ((Y.size:Int)-1))(n:s.heap.IsList l Y)(H:∀h' tk c,(∀b o,b≠r->s.heap.get? b=some o->h'.get? b=some o)->h'.get? s.heap.objs.size=some {cls:=.type "list",dict:=none,data:=.seq Y.reverse c,slots:=#[]}->Q (.ref s.heap.objs.size) {s with heap:=h',toks:=tk}):
  bb (bc prog w) A (call (.type "list") [.ref r]) Q E s:=by
 have p:r≠s.heap.objs.size:=by let{o,g,_}:=m;show aAk (aAd g)
 have I:l≠s.heap.objs.size:=by let{o,g,_}:=n;show aAk (aAd g)
 show fM (room:=false) (λh=>h.IsRevIter r l ((Y.size:Int)-1)/\h.IsList l Y) (λt h=>h.1.typeIs) (λh h' x k=>{x.1.at λo e=>k r o p e,x.2.at λo e=>k l o I e}) p (by decide) (by decide)
  (λJ L=>by rw[kd (by decide)];show L rfl) (λt Q E x q=>wpAny_pyIter_revIter x.1 q) (λt Q E x q=>?_) {m,n} λJ c R N PJ O T=>?_
 .have f:=x.1.typeIs;unfold aCD;show aAa (aBt f NW ?_);change bb _ _ (specialOf (aCL r) (Str.ofString "__length_hint__")>>=_) _ _ _;show aAa (aBt f SN (aAa (aCp (b:=true) f (by rw[aFB];kernel_rfl)<|aAc q)))
 have W:=(Walks.listRev (prog:=prog) (w:=w) (A:=A.in1.in1) (by simp[z]) r l B Y).toS;show codeAny_extend_loopS W C s.heap.objs.size (by grind) .none Y.size 0 _ #[] c (by lia) (aAQ _) {aAQ _,by simpa using PJ.1,PJ.2} O (ItemsOf.nil _) λa u U d jg j=>T _ ?_;have ea:u=Y.reverse:=by
  apply Array.ext';apply aEq;intro i;rw[aAJ,aAJ];by_cases v:i<Y.size
  .have y:i<u.size:=by rw[j.1];show v
   have:=j.2 i _ (aAr y);rw[aAr y,Array.getElem?_reverse v,this]
  rw[aBy (by rw[j.1];lia),aBy (by simp;lia)]
 subst ea;have g0:a.gens=s.gens:=d.gens;have d0:a.drawn=s.drawn:=d.drawn;have o0:a.os=s.os:=d.os;let{h',g',d',om,os'}:=a;subst g0 d0 o0;show H h' om U (λb o hb e=>(d.heap b o (by simp;show{aAk (aAd e),hb})<|N b o e)) jg
end
section
def RZ{s:aL}{Q:B6}(a:s.heap.IsTupleIter d l i)(h:s.heap.IsTuple l items)(j:items[i]?=some x)
  (k:∀h',h'.IsTupleIter d l (i+1)->Heap.SameBut d s.heap h'->Q x {s with heap:=h'}):
  bb (bc prog w) A (aBp (.ref d)) Q E s:=by
 let{o,e,m,b}:=id a;let{n,f,_,p,g}:=h;show aAa (aAW a.typeIs aCH
  (aAF aCH a.typeIs aEU ?_ (aEP _)))
 change bb _ _ (field (.ref d) 0>>=_) _ _ s;show aAa (aBh e b (x:=.ref l) rfl<|aAa<|aBh e b rfl<|aAa<|aAV f g ?_);erw[aBR,j];show aAa (aDn e b (by simp)<|aAc ⟨x,rfl,aAc (k _ ?_ (aCd ..))⟩);show{_,aAZ _ e (aEC<|aCM b _),(aFI ..).trans m,by rw[aCM b];simp[dq]}
def YW{s:aL}{Q:B6}(k:A.handled=none)
  (b:s.heap.IsTupleIter d l i) (m:s.heap.IsTuple l items) (n:items[i]?=none)
  (hE:∀h' e,Heap.ExtBut d s.heap h'->(∃o,h'.get? e=some o/\o.cls=.type "StopIteration")->E (.ref e) {s with heap:=h'}):
  bb (bc prog w) A (aBp (.ref d)) Q E s:=by
 let{o,f,p,g}:=id b;let{q,h,_,r,j}:=m;show aAa (aAW b.typeIs aCH
  (aAF aCH b.typeIs aEU ?_ (aEP _)))
 change bb _ _ (field (.ref d) 0>>=_) _ _ s;show aAa (aBh f g rfl ?_);show aAa (aBh f g rfl<|aAa<|aAV h j ?_);erw[aBR,n];show aAa (aCx (aAa (aDn f g (by simp)<|aAa ?_)));erw[newExc,newTuple];show aAa (aAA (aAa (aEV (a:=Value.none) (by first|rfl|(simp only[];rfl)) (aAA ?_ (by size_fits)))) (by size_fits));erw[raiseNew];show aAa (aFO ?_);first|rw[show A.in1.handled=none from k]|rw[k]
 show aAa (aAc<|aGx<|hE _ _ (((aCd ..).extBut.push _).push _) ⟨_,aAg _ rfl,rfl⟩)
abbrev ti(t:ba):Obj:={cls:=.type "tuple_iterator",data:=.fields #[.ref t,.int 0 0]}
end
end SZ
namespace SD
open PySem
def EJ(h:ck)(d:ba)(es:Array dA)(ep:Nat):Prop:=∃o,h.get? d=some o/\o.ExactDict/\o.data=.dict es ep
def EJ.at(x:EJ h d es ep)(e:∀o,h.get? d=some o->h'.get? d=some o):EJ h' d es ep:=let⟨o,a,r⟩:=x;{o,e o a,r}
def EJ.type{s:aL}(x:EJ s.heap d es ep):s.TypeIs (.ref d) "dict":=let⟨o,a,r,_⟩:=x;{o,a,r.1}
section
variable{prog:be}{w:cf}{A:bM}{E:B6}{s:aL}{d it:ba}{es:Array dA}{ep i:Nat}
def ZA{Q:B6}(h:(d==eY)=false)(b:EJ s.heap d es ep)
  (g:Q (.ref s.heap.objs.size) {s with heap:=s.heap.push {cls:=.type "dict_keyiterator",data:=.fields #[.ref d,.int 0 0,.int es.size 0,.int ep 0]}}):bb (bc prog w) A (pyIter (.ref d)) Q E s:=by
 have a:=b.type;let{o,e,j,f}:=b;show aDI a F.slot_dict_iter (aAF F.slot_dict_iter a F.entry_dict_iter (aAa<|aAa<|aED a<|aAc (?_:bb _ _ (aDF d>>=_) _ _ s))<|F.args_dict_iter_1 _);unfold aDF;rw[kd (by lia)];show aAa (aAc<|aAa<|aEs e f<|aAa<|aEW e f<|aAa<|aAA<|aAc ⟨_,rfl, "dict_keyiterator",_,⟨_,aAg _ rfl,rfl⟩,aDv.lookup,?_⟩);simpa[dq]using g
def JK{Q:Option au->aL->Prop}(m:A.handled=none)(f:s.heap.IsKeyIter it d i es.size ep)(n:EJ s.heap d es ep)
  (p:∀(a:i<es.size) h',h'.IsKeyIter it d (i+1) es.size ep->Heap.SameBut it s.heap h'->Q (some es[i].key) {s with heap:=h'}) (hE:es.size<=i->∀h',Heap.ExtBut it s.heap h'->Q none {s with heap:=h'}):bb (bc prog w) A (fh (.ref it)) Q E s:=by
 have e:=f.typeIs;let{o,k,q,g}:=f;let{t,h,u,j}:=n;have r:aDw "dict_keyiterator"=false:=by decide
 unfold fh;show aAa (aCJ<|aAW e aDv<|aAF aDv e F.entry_dict_keyiterator_next (aAa<|aAc<|aAa<|aAa ?_)<|F.args_dict_keyiterator_next_1 _);show aAa (aDj e<|aAc<|aAa<|aFC k g ?_);erw[r,aAC,if_false];change bb _ _ (if(aCL d==Value.none)=true then _ else _) _ _ s;rw[kd (by intro z;cases z)];show aAa (aAc<|aAa<|aEs h j ?_);rw[kd (by simp)];show aAa (aAc<|aAa<|aEW h j ?_);rw[kd (by simp)];show aAc ?_;by_cases a:i<es.size
 .erw[show¬((i:Int)<0)by lia,if_false,aBR,aAr a];show aAa (aAa<|aDj e<|aAc<|aAa<|wpAny_isOneOf_keyiter e ?_);change bb _ _ (setField (.ref it) 1 (dq<|(i:Int)+1)>>=_) _ _ s;show aAa (aDn k g (by simp) ?_);have l:(s.heap.update it (Obj.mapFields (·.setIfInBounds 1 (dq<|(i:Int)+1)))).IsKeyIter it d (i+1) es.size ep:={_,aAZ _ k (aEC<|aCM g _),(aFI ..).trans q,by rw[aCM g];simp[dq]};show aAa (aAG<|aAa<|wpAny_isOneOf_keyiter l.typeIs ((aAc<|aAc ⟨_,rfl,aAc (p a _ l<|aCd ..)⟩):bb _ _ (pure es[i].key) _ _ _))
 have a:es.size<=i:=by lia
 erw[show¬((i:Int)<0)by lia,if_false,aBR,aBy a];show aAa (aAa (aDj e (aAc ((aAa (aDn k g (by simp) ((aAa ?_):bb _ _ (newExc (.type "StopIteration") []>>=_) _ _ _))):bb _ _ (setField (.ref it) 0 .none>>=_) _ _ s))));erw[newExc,newTuple];show aAa (aAA (aAa (aEV (by first|rfl|(erw[firstArgMember];rfl)) (aAA ?_ (by size_fits)))) (by size_fits));erw[raiseNew];show aAa (aFO ?_);rw[show A.in1.handled=none from m];show aAa (aAc<|aGx ?_);show aAa (aCp (b:=true) {_,aAg _ rfl,rfl} aEv<|aAc<|hE a _<|((aCd ..).extBut.push _).push _)
end
def RY{prog:be}{w:cf}{A:bM}(k:A.handled=none)(I d:ba)(p:d≠I)(es:Array dA)(ep:Nat):
  Walks prog w A I [I,d] [I] es.size (λi v=>∃e,es[i]?=some e/\v=e.key) (λi h=>h.IsKeyIter I d i es.size ep/\EJ h d es ep)where
 sub:=λb a=>by simp at a;simp[a]
 frame:=λ_ _ _ st l=>{Heap.IsKeyIter.at st.1 λo e=>l I (by simp) o e,st.2.at λo e=>l d (by simp) o e}
 item:=λi s Q E m st f=>JK k st.1 st.2 (hE:=λz=>by lia) λm g j n=>f _ g s.toks {es[i],aAr m,rfl} {j,st.2.at λo e=>(n.2 d p).trans e} λb o a e=>(n.2 b (λz=>a (by simp[z]))).trans e
 done:=λs Q E st f=>JK k st.1 st.2 (λz=>by lia) λ_ g q=>f g s.toks λb o a e=>q b o (λz=>a (by simp[z])) e
 self:=λ_ _ _ _ st f=>wpAny_pyIter_keyiter st.1 f
section
variable{prog:be}{w:cf}{A:bM}{E:B6}{s:aL}{d:ba}{es:Array dA}{ep:Nat}
def a4c(a:(d==eY)=false):PySem.W.KdlSrc prog w "dict" d d es.size (λi v=>∃e,es[i]?=some e/\v=e.key) (λh=>EJ h d es ep)where
 type:=λs h=>h.type
 there:=by rintro h ⟨o,g,_⟩;show{aAd g,aAd g}
 keep:=λh f x k=>x.at λo e=>k d (.inl rfl) o e
 notList:=by decide
 notTuple:=by decide
 hint:=λA E s Q ok q=>PySem.W.kdl_hint_dict ok.type q
 iter:=λA s b ok=>{_,λi h=>h.IsKeyIter s.heap.objs.size d i es.size ep/\EJ h d es ep,λE Q q=>ZA a ok q,RY b _ d (by let{o,g,_}:=ok;show aAk (aAd g)) es ep,{_,aAg _ rfl,rfl,rfl},ok.at λo e=>aAb _ e}
def collect_dk{Q:List au->aL->Prop}(n:A.handled=none)(p:(d==eY)=false)(j:EJ s.heap d es ep)(q:es.size<=sizeLine)
  (r:∀h' tk,(∀b o,s.heap.get? b=some o->h'.get? b=some o)->Q (es.toList.map (·.key)) {s with heap:=h',toks:=tk}):bb (bc prog w) A (collect (.ref d)) Q E s:=by
 have k:d<s.heap.objs.size:=by let{o,g,_}:=j;show aAd g
 show aAa (aGt<|aBl PySem.F.entry_proto_collect ?_);have a:∀b o,s.heap.get? b=some o->(s.heap.push {cls:=.type "list",data:=.seq ([]:List au).toArray}).get? b=some o:=λb o e=>aAb _ e;have f:∀R:Result->aL->Prop,(∀h' tk l t,(∀b o,b≠s.heap.objs.size->(s.heap.push {cls:=.type "list",data:=.seq ([]:List au).toArray}).get? b=some o->h'.get? b=some o)->h'.get? s.heap.objs.size=some {cls:=.type "list",dict:=none,data:=.seq l t,slots:=#[]}->ItemsOf (λi v=>∃e,es[i]?=some e/\v=e.key) l es.size->R (.ok (.ret (.ref s.heap.objs.size))) {s with heap:=h',toks:=tk})->
   fo (bc prog w) A (.builtin "list.__iadd__" {[.ref s.heap.objs.size,.ref d],[]}) R {s with heap:=s.heap.push {cls:=.type "list",data:=.seq ([]:List au).toArray}}:=λR u=>aBl PySem.F.entry_list_iadd (by
  show PySem.W.kdl_extend (a4c (es:=es) p) n (j.at λo e=>a d o e) s.heap.objs.size (aBP k) (aBP k) (.ref s.heap.objs.size) 0 (aAg _ rfl) u q)
 show aAa (aAA<|aAc ⟨aBz PySem.F.plain_list_iadd _,f _ λh' tk B c x y h=>(aAa<|wpAny_load y<|aAc ?_)⟩);have z:B.toList=es.toList.map (·.key):=by
  apply aEq;intro i;rw[aAH,aAJ,aAJ];by_cases C:i<es.size
  .have m:i<B.size:=by rw[h.1];show C
   let{e,H,I}:=h.2 i _ (aAr m);rw[H,aAr m,I];rfl
  rw[aBy (by rw[h.1];lia),aBy (by lia)];rfl
 rw[z];show r h' tk λb o e=>x b o (aAk<|aAd e) (a b o e)
end
section
variable{prog:be}{w:cf}{A:bM}{E:B6}{s:aL}{d it:ba}{es:Array dA}{ep i:Nat}
def gq{v:ba}{Q:B6}(e:s.heap.IsValuesView v d)(j:EJ s.heap d es ep)
  (k:Q (.ref s.heap.objs.size) {s with heap:=s.heap.push {cls:=.type "dict_valueiterator",data:=.fields #[.ref d,.int 0 0,.int es.size 0,.int ep 0]}}):bb (bc prog w) A (pyIter (.ref v)) Q E s:=by
 have f:=e.typeIs;let{n,a,l,b}:=e;let{o,g,p,h}:=j;have m:aDw "dict_valueiterator"=false:=by decide
 show aDI f aFP (aAF aFP f F.entry_dict_values_iter (aAa<|aAc<|aAa ?_)<|F.args_dict_values_iter_1 _);show aAa (aBh a b rfl<|aAc<|aAa<|aAa<|aEs g h<|aAa<|aEW g h ?_);erw[m,aAC,if_false];show aAA (aAc {_,rfl, "dict_valueiterator",_,{_,aAg _ rfl,rfl},aDf.lookup,?_});simpa[dq]using k
def KM{Q:Option au->aL->Prop}(p:A.handled=none)(g:s.heap.IsValIter it d i es.size ep)(q:EJ s.heap d es ep)
  (r:∀(e:i<es.size) h',h'.IsValIter it d (i+1) es.size ep->Heap.SameBut it s.heap h'->Q (some es[i].val) {s with heap:=h'}) (hE:es.size<=i->∀h',Heap.ExtBut it s.heap h'->Q none {s with heap:=h'}):bb (bc prog w) A (fh (.ref it)) Q E s:=by
 have f:=g.typeIs;let{o,l,t,h}:=g;let{v,j,x,k}:=q;have u:aDw "dict_valueiterator"=false:=by decide
 unfold fh;show aAa (aCJ<|aAW f aDf<|aAF aDf f F.entry_dict_valueiterator_next (aAa<|aAc<|aAa<|aAa ?_)<|F.args_dict_valueiterator_next_1 _);show aAa (aDk f<|aAc<|aAa<|aFC l h ?_);erw[u,aAC,if_false];change bb _ _ (if(aCL d==Value.none)=true then _ else _) _ _ s;rw[kd (by intro z;cases z)];show aAa (aAc<|aAa<|aEs j k ?_);rw[kd (by simp)];show aAa (aAc<|aAa<|aEW j k ?_);rw[kd (by simp)];show aAc ?_;by_cases e:i<es.size
 .erw[show¬((i:Int)<0)by lia,if_false,aBR,aAr e];show aAa (aAa<|aDk f<|aAc<|aAa<|aEE f ?_);change bb _ _ (setField (.ref it) 1 (dq<|(i:Int)+1)>>=_) _ _ s;show aAa (aDn l h (by simp) ?_);have n:(s.heap.update it (Obj.mapFields (·.setIfInBounds 1 (dq<|(i:Int)+1)))).IsValIter it d (i+1) es.size ep:={_,aAZ _ l (aEC<|aCM h _),(aFI ..).trans t,by rw[aCM h];simp[dq]};show aAa (aAG<|aAa<|aEE n.typeIs<|aAa<|aEE n.typeIs ((aAc<|aAc ⟨_,rfl,aAc (r e _ n<|aCd ..)⟩):bb _ _ (pure es[i].val) _ _ _))
 have e:es.size<=i:=by lia
 erw[show¬((i:Int)<0)by lia,if_false,aBR,aBy e];show aAa (aAa (aDk f (aAc ((aAa (aDn l h (by simp) ((aAa ?_):bb _ _ (newExc (.type "StopIteration") []>>=_) _ _ _))):bb _ _ (setField (.ref it) 0 .none>>=_) _ _ s))));erw[newExc,newTuple];show aAa (aAA (aAa (m:=firstArgMember _ _) (aEV (a:=Value.none) (by first|rfl|(erw[firstArgMember];rfl)) (aAA ?_ (by size_fits)))) (by size_fits));erw[raiseNew];show aAa (aFO ?_);rw[show A.in1.handled=none from p];show aAa (aAc<|aGx ?_);show aAa (aCp (T:= "StopIteration") (b:=true) {_,aAg _ rfl,rfl} aEv<|aAc<|hE e _<|((aCd ..).extBut.push _).push _)
end
def SA{prog:be}{w:cf}{A:bM}(k:A.handled=none)(I d:ba)(p:d≠I)(es:Array dA)(ep:Nat):
  Walks prog w A I [I,d] [I] es.size (λi v=>∃e,es[i]?=some e/\v=e.val) (λi h=>h.IsValIter I d i es.size ep/\EJ h d es ep)where
 sub:=λb a=>by simp at a;simp[a]
 frame:=λ_ _ _ st l=>{Heap.IsValIter.at st.1 λo e=>l I (by simp) o e,st.2.at λo e=>l d (by simp) o e}
 item:=λi s Q E m st f=>KM k st.1 st.2 (hE:=λz=>by lia) λm g j n=>f _ g s.toks {es[i],aAr m,rfl} {j,st.2.at λo e=>(n.2 d p).trans e} λb o a e=>(n.2 b (λz=>a (by simp[z]))).trans e
 done:=λs Q E st f=>KM k st.1 st.2 (λz=>by lia) λ_ g q=>f g s.toks λb o a e=>q b o (λz=>a (by simp[z])) e
 self:=λ_ _ _ _ st f=>wpAny_pyIter_valiter st.1 f
section
variable{prog:be}{w:cf}{A:bM}{E:B6}{s:aL}{d v:ba}{es:Array dA}{ep:Nat}
def sum_dv{Q:B6}(q:A.handled=none)(f:s.heap.IsValuesView v d)(a:EJ s.heap d es ep)(val:Nat->Int)(j:∀(i:Nat) (e:dA),es[i]?=some e->∃t,e.val=aGe (val i) t)
  (l:∀h' tk t',(∀b o,s.heap.get? b=some o->h'.get? b=some o)->Q (.int (preSum val es.size) t') {s with heap:=h',toks:=tk}):bb (bc prog w) A (call (.builtin "sum") [.ref v]) Q E s:=by
 have m:d<s.heap.objs.size:=by let{o,g,_}:=a;show aAd g
 show call_sum_walkG (gq f a {s.heap.objs.size,[s.heap.objs.size,d],[s.heap.objs.size],es.size,_,_,val,rfl,SA (by grind) _ d (aAk m) es ep,{{_,aAg _ rfl,rfl,rfl},a.at λo e=>aAb _ e},λb n=>?_,λi u h=>?_,λh' tk t' k=>?_})
 .simp at n;rw[aBc];grind
 .let{e,p,rfl}:=h;show j i e p
 show l h' tk t' λb o g=>k b o (by simp;show aAk (aAd g)) (aAb _ g)
def vals_dv{Q:B6}(b:(d==eY)=false)(a:EJ s.heap d es ep)(h:Q (.ref s.heap.objs.size) {s with heap:=s.heap.push {cls:=.type "dict_values",data:=.fields #[.ref d]}}):bb (bc prog w) A (call (.builtin "dict.values") [.ref d]) Q E s:=by show aAF F.slot_dict_values a.type F.entry_dict_values (aAa<|aAa<|aED a.type<|aAc (?_:bb _ _ (aDF d>>=_) _ _ s)) (F.args_dict_values_1 _);unfold aDF;rw[kd (by simp_all)];show aAa (aAc<|aAa<|aAA<|aAc ⟨_,rfl,h⟩)
end
end SD
namespace L2
open PySem PySem.Spec PyProof.Rows
abbrev GA:=Sum Int Str
def PQ:GA->au->Bool
 |.inl k,v=>Value.isInt k v
 |.inr x,v=>Value.isStrOf x v
def a8y(w:cf):GA->Int
 |.inl k=>hashInt k
 |.inr x=>hashStr w x
theorem C4:∀{k:GA}{v:au},PQ k v=true->(∃i t,k=Sum.inl i/\v=aGe i t)\/(∃x t,k=Sum.inr x/\v=Value.str x t)
 |.inl i,v,h=>by let{t,e}:=Value.isInt_shape (v:=v) h;show .inl {i,t,rfl,e}
 |.inr x,v,h=>by let{t,e}:=Value.isStrOf_shape (v:=v) h;show .inr {x,t,rfl,e}
def a3c(a b:Int):decide ((Sum.inl a:GA)=Sum.inl b)=(a==b):=by grind
def a2k(a b:Str):decide ((Sum.inr a:GA)=Sum.inr b)=decide (a=b):=by grind
def a3o(a:Int)(b:Str):decide ((Sum.inl a:GA)=Sum.inr b)=false:=by lia
def a3i(a:Str)(b:Int):decide ((Sum.inr a:GA)=Sum.inl b)=false:=by lia
def yV(prog:be)(w:cf):PySem.KeyKind prog w GA where
 is:=PQ
 hash:=a8y w
 inj:=λv a b l g=>by
  rcases C4 l with⟨i,t,rfl,rfl⟩|⟨x,t,rfl,rfl⟩
  .rcases C4 g with⟨j,u,rfl,e⟩|⟨y,u,rfl,e⟩
   .injection e with d _;rw[d]
   show nomatch e
  rcases C4 g with⟨j,u,rfl,e⟩|⟨y,u,rfl,e⟩
  .show nomatch e
  injection e with d _;rw[d]
 byValue:=λk v h=>by rcases C4 h with⟨i,t,rfl,rfl⟩|⟨x,t,rfl,rfl⟩<;>rfl
 pyHash:=λf h=>by
  rcases C4 f with⟨i,t,rfl,rfl⟩|⟨x,t,rfl,rfl⟩
  .show wpAny_pyHash_int h
  show wpAny_pyHash_str h
 eqBool:=λm f h=>by
  rcases C4 m with⟨i,t,rfl,rfl⟩|⟨x,t,rfl,rfl⟩
  .rcases C4 f with⟨j,u,rfl,rfl⟩|⟨y,u,rfl,rfl⟩
   .rw[a3c]at h;show wpAny_eqBool_int h
   rw[a3o]at h;show aGz i t y u _ _ _ _ h
  rcases C4 f with⟨j,u,rfl,rfl⟩|⟨y,u,rfl,rfl⟩
  .rw[a3i]at h;show aGA x t j u _ _ _ _ h
  rw[a2k]at h;show wpAny_eqBool_str h
 «strs»:=λk x t v h=>by
  rcases C4 h with⟨i,u,rfl,e⟩|⟨y,u,rfl,e⟩
  .show nomatch e
  injection e with d _;subst d;cases v<;>rfl
def a1e(prog:be)(w:cf)(k:GA)(v:au):(yV prog w).is k v=PQ k v:=rfl
inductive V where
 |non|bl (b:Bool)|int (i:Int)|str (x:Str)|byt (b:Array UInt8)|flt (b:UInt64)|ref (a:Addr)|ty (n:String)
 deriving DecidableEq
def RelV:V->au->Prop
 |.non,u=>u=Value.none
 |.bl b,u=>u=aDH b
 |.int i,u=>∃t,u=aGe i t
 |.str x,u=>∃t,u=Value.str x t
 |.byt b,u=>∃t,u=Value.bytes b t
 |.flt b,u=>∃t,u=Value.float b t
 |.ref a,u=>u=aCL a
 |.ty n,u=>u=aCm n
abbrev q9:List V->List au->Prop:=Paired RelV
def q9.length{Y:List V}{a:List au}(r:q9 Y a):Y.length=a.length:=Paired.length r
theorem q9.get:∀{Y:List V}{a:List au}{i:Nat}{x:V},q9 Y a->Y[i]?=some x->∃u,a[i]?=some u/\RelV x u
 |_,_,_,_,.nil,e=>by simp at e
 |_,_,0,_,.cons r _,e=>by simp_all
 |_,_,i+1,x,.cons _ t,e=>by let{u,b,d}:=q9.get t (by simpa using e);show{u,by simpa using b,d}
theorem q9.append:∀{Y a:List V}{b ws:List au},q9 Y b->q9 a ws->q9 (Y++a) (b++ws)
 |_,_,_,_,.nil,s=>s
 |_,_,_,_,.cons r t,s=>.cons r (q9.append t s)
theorem q9.take:∀{Y:List V}{a:List au} (n:Nat),q9 Y a->q9 (Y.take n) (a.take n)
 |_,_,0,_=>.nil
 |_,_,_+1,.nil=>.nil
 |_,_,n+1,.cons r t=>.cons r (q9.take n t)
theorem q9.drop:∀{Y:List V}{a:List au} (n:Nat),q9 Y a->q9 (Y.drop n) (a.drop n)
 |_,_,0,r=>r
 |_,_,_+1,.nil=>.nil
 |_,_,n+1,.cons _ t=>q9.drop n t
def a5n:Option V->Option au->Prop
 |some v,some u=>RelV v u
 |none,none=>True
 |_,_=>False
def KV{κ:Type}:List (κ×V)->List (κ×au)->Prop:=Paired λ(p:κ×V) (q:κ×au)=>p.1=q.1/\RelV p.2 q.2
def kV:GA->V
 |.inl i=>.int i
 |.inr x=>.str x
inductive HO where
 |lst (Y:List V)
 |tup (Y:List V)
 |dK (N:List (GA×V))|dT (N:List (List GA×V))
 |set (S:Int->Bool) (n:Nat)
 |ins (C dx:Addr) (fs:List (Str×V))
 |own (x:Addr)
 |xd (fs:List (Str×V))
 |met (f x:Addr)
 |rng (lo hi:Int)
 |frz (o:Obj) (u:HO)
 |tbl (tb:List (Pos×Str))
 |ext (φ:Heap->Prop)
abbrev Hp:=ba->Option HO
def upd(H:Hp)(a:ba)(o:HO):Hp:=λb=>if b=a then some o else H b
def j2:upd H a o a=some o:=by unfold upd;rw[kc rfl]
def m5(h:b≠a):upd H a o b=H b:=by unfold upd;rw[kd h]
def t8{H:Hp}{a b:ba}{o:HO}(h:H a=some o)(h':H b=none):a≠b:=by lia
section
variable(P:be) (w:cf)
def ObjOk(H:Hp)(h:ck)(a:ba):HO->Prop
 |.lst Y=>Y.length<=sizeLine/\∃(b:List au) (n:Nat),q9 Y b/\h.get? a=some {cls:=.type "list",data:=.seq b.toArray n}
 |.tup Y=>Y.length<=sizeLine/\∃b:List au,q9 Y b/\IsTup h a b.toArray
 |.dK N=>N.length<=sizeLine/\(a==eY)=false/\∃e,KV N e/\h.DictOf (yV P w) a e
 |.dT N=>N.length<=sizeLine/\(a==eY)=false/\∃Y:List (List GA×ba×au),
  Paired (λ(p:List GA×V) (q:List GA×ba×au)=>p.1=q.1/\H q.2.1=some (.tup (p.1.map kV))/\RelV p.2 q.2.2) N Y/\
  ∃o k s,h.get? a=some o/\o.ExactDict/\o.data=.dict k s/\k.toList=Y.map (entryOfKey<|tupleKind<|yV P w)/\(Y.map (·.1)).Nodup
 |.set S n=>h.SetOf (intKind P w) a S n
 |.ins C g fs=>H g=some (.own a)/\fs.length<=1000/\g≠a/\h.get? a=some (PySem.W.instObj C g)/\
  ∃d,h.Ns1 g d/\(∀f,a5n (fs.lookup f) (d f))/\PySem.Within d (fs.map (·.1))
 |.own _=>∃o,h.get? a=some o
 |.xd fs=>∃d,h.Ns1 a d/\∀f,a5n (fs.lookup f) (d f)
 |.rng lo y=>∃t u v,h.get? a=some {cls:=.type "range",data:=.fields #[.int lo t,.int y u,.int 1 v]}
 |.frz o u=>h.get? a=some o/\ObjOk H h a u
 |.tbl z=>∃i:Array au,h.get? a=some {cls:=.none,data:=.fields i}/\TriplesOk i.toList/\∀p∈z,fg p.1 i.toList=none\/∃c l e t,fg p.1 i.toList=some (.ref c)/\H c=some (.frz l (.own c))/\l.data=.fields e/\e[1]?=some (.str p.2 t)
 |.met f x=>h.get? a=some (PySem.W.methodObj (.ref f)<|.ref x)
 |.ext j=>j h/\(∃o,h.get? a=some o)/\∀m r:ck,j m->(∀o,m.get? a=some o->r.get? a=some o)->j r
def wz:HO->Prop
 |.tup _=>True
 |.frz o _=>∃a,o.data=.fields a
 |_=>False
def iR(H:Hp)(h:ck):Prop:=∀a o,H a=some o->ObjOk P w H h a o
end
section
variable{P:be}{w:cf}{H H':Hp}{h h':ck}{a:ba}{o:HO}
def ObjOk.lt(x:ObjOk P w H h a o):a<h.objs.size:=by
 cases o with
 |lst Y=>let{_,_,_,_,e}:=x;show aAd e
 |tup Y=>let{_,_,_,p}:=x;show p.lt
 |dK N=>let{_,_,_,_,o,_,_,e,_}:=x;show aAd e
 |dT N=>let{_,_,_,_,o,_,_,e,_}:=x;show aAd e
 |set S n=>let{o,_,_,_,e,_}:=x;show aAd e
 |ins C b fs=>let{_,_,_,e,_}:=x;show aAd e
 |own y=>let{_,e}:=x;show aAd e
 |xd fs=>let{_,{_,_,_,e,_},_}:=x;show aAd e
 |rng lo d=>let{_,_,_,e}:=x;show aAd e
 |frz g u=>let{e,_}:=x;show aAd e
 |tbl i=>let{_,e,_}:=x;show aAd e
 |met f y=>show aAd (x)
 |ext j=>let{_,{_,e},_}:=x;show aAd e
theorem Paired.af7{d β:Type}{F G:d->β->Prop}:∀{l₁:List d}{l₂:List β},Paired F l₁ l₂->(∀a b,F a b->G a b)->Paired G l₁ l₂
 |_,_,.nil,_=>.nil
 |_,_,.cons r t,f=>.cons (f _ _ r) (Paired.af7 t f)
def ObjOk.ac0(x:ObjOk P w H h a o)(k:∀b u,(b=a\/H b=some (.own a))->h.get? b=some u->h'.get? b=some u)
  (J:∀b,H b=some (.own a)->H' b=some (.own a)) (E:∀b u,wz u->H b=some u->H' b=some u):ObjOk P w H' h' a o:=by
 induction o with
 |lst Y=>let{z,l,n,r,e}:=x;show{z,l,n,r,k _ _ (.inl rfl) e}
 |tup Y=>let{z,l,r,g,e,c}:=x;show{z,l,r,g,k _ _ (.inl rfl) e,c}
 |dK N=>let{z,y,m,r,g,i,j,e,c}:=x;show{z,y,m,r,g,i,j,k _ _ (.inl rfl) e,c}
 |dT N=>let{z,y,Y,r,g,i,j,e,c}:=x;show{z,y,Y,Paired.af7 r λp q z=>{z.1,E _ _ trivial z.2.1,z.2.2},g,i,j,k _ _ (.inl rfl) e,c}
 |set S n=>let{g,i,j,t,e,c}:=x;show{g,i,j,t,k _ _ (.inl rfl) e,c}
 |ins C dx fs=>let{d,z,ne,e,s,{A,i,j,B,c},r}:=x;show{J _ d,z,ne,k _ _ (.inl rfl) e,s,{A,i,j,k _ _ (.inr d) B,c},r}
 |own y=>let{g,e}:=x;show{g,k _ _ (.inl rfl) e}
 |xd fs=>let{s,{A,i,j,e,c},r}:=x;show{s,{A,i,j,k _ _ (.inl rfl) e,c},r}
 |rng lo hi=>let{t,u,v,e}:=x;show{t,u,v,k _ _ (.inl rfl) e}
 |frz g u L=>let{e,q}:=x;show{k _ _ (.inl rfl) e,L q}
 |tbl tb=>let{O,e,t,f}:=x;show{O,k a _ (.inl rfl) e,t,λp Q=>(f p Q).imp id λ⟨c,T,m,t,U,B,I⟩=>{c,T,m,t,U,E _ _ {m,I.1} B,I}}
 |met f y=>have e:=x;change h'.get? a=some (PySem.W.methodObj (.ref f)<|.ref y);show k a _ (.inl rfl) e
 |ext φ=>let{p,{o,e},st}:=x;show{st _ _ p λo q=>k _ _ (.inl rfl) q,{o,k _ _ (.inl rfl) e},st}
def iR.lt(x:iR P w H h)(e:H a=some o):a<h.objs.size:=(x a o e).lt
def iR.fresh(x:iR P w H h)(e:h.objs.size<=a):H a=none:=by
 cases q:H a with
 |none=>rfl
 |some u=>show absurd (aAq (x.lt q) e) (aBJ _)
def iR.kept(x:iR P w H h)(k:∀b u,h.get? b=some u->h'.get? b=some u):iR P w H h':=λa o e=>(x a o e).ac0 (λb u _ q=>k b u q) (λ_ q=>q) λ_ _ _ q=>q
def iR.laid(x:iR P w H h)(k:∀b u,h.get? b=some u->h'.get? b=some u)(i:h.objs.size<=a)(d:ObjOk P w (upd H a o) h' a o):iR P w (upd H a o) h':=λb u e=>by
 have f:=x.fresh i;by_cases g:b=a
 .subst g;rw[j2]at e;cases e;show d
 rw[m5 g]at e;show(x b u e).ac0 (λc v _ q=>k c v q) (λc q=>by rw[m5 (t8 q f)];show q) λc Y _ q=>by rw[m5 (t8 q f)];show q
end
def Rd(H:Hp)(a:ba)(u:HO):Prop:=H a=some u\/∃o,H a=some (.frz o u)
def Rd.ok(r:Rd H a u)(x:iR P w H h):ObjOk P w H h a u:=by
 rcases r with r|⟨o,r⟩
 .show x a u r
 let{_,q}:=x a _ r;show q
def Mut:Option HO->Prop
 |some (.lst _)=>True
 |some (.dK _)=>True
 |some (.dT _)=>True
 |some (.set _ _)=>True
 |some (.ins _ _ _)=>True
 |some (.ext _)=>True
 |_=>False
section
variable{P:be}{w:cf}{H:Hp}{h h':ck}{x e:ba}{o':HO}
def iR.write(ok:iR P w H h)(g:Mut (H x))(p:e=x\/H e=some (.own x))(k:∀b u,b≠e->h.get? b=some u->h'.get? b=some u)(i:∃u,h'.get? e=some u)
  (j:ObjOk P w (upd H x o') h' x o'):iR P w (upd H x o') h':=λb u q=>by
 have a:∀c y,H c=some (.own y)->c≠x:=λc y r z=>by subst z;rw[r]at g;show g
 have d:∀c u,wz u->H c=some u->c≠x:=λc u f r z=>by subst z;rw[r]at g;cases u<;>first|show g|show f
 by_cases m:b=x
 .subst m;rw[j2]at q;cases q;show j
 rw[m5 m]at q;by_cases l:b=e
 .have n:H b=some (.own x):=by lia
  rw[q]at n;cases n;let{v,o}:=i;show{v,by rw[l];show o}
 show(ok b u q).ac0 (λc v s r=>k c v ?_ r) (λc r=>by rw[m5 (a c b r)];show r) λc Y f r=>by rw[m5 (d c Y f r)];show r
 grind
end
structure Un(fs ex:List Addr)(H H':Hp)(h h':Heap):Prop where
 keep:∀b o,h.get? b=some o->H b=none->b∉fs->b∉ex->h'.get? b=some o
 slot:∀b o,h.get? b=some o->H b=none->b∈fs->b∉ex->∃sl,h'.get? b=some {o with slots:=sl}
 free:∀b o,h.get? b=some o->H b=none->b∉ex->H' b=none
 there:∀b o,h.get? b=some o->b∉ex->∃o',h'.get? b=some o'
 tups:∀b Y,H b=some (.tup Y)->H' b=some (.tup Y)
 frzs:∀b o u,H b=some (.frz o u)->H' b=some (.frz o u)
 tbls:∀b tb,H b=some (.tbl tb)->H' b=some (.tbl tb)
section
variable{fs yc ex ex':List ba}{H H1 H2:Hp}{h h1 h2 h':ck}{a x e:ba}{o:HO}
def Un.any(u:Un fs ex H H1 h h1)(q:h.get? b=some d)(n:H b=none)(f:b∉ex):∃sl,h1.get? b=some {d with slots:=sl}:=by
 by_cases g:b∈fs
 .show u.slot b d q n g f
 show{d.slots,u.keep b d q n g f}
def Un.kept(k:∀b u,h.get? b=some u->h'.get? b=some u):Un fs ex H H h h':=
 {λb d q _ _ _=>k b d q,λb d q _ _ _=>{d.slots,k b d q},λ_ _ _ n _=>n,λb d q _=>{d,k b d q},λ_ _ q=>q,λ_ _ _ q=>q,λ_ _ q=>q}
def Un.refl:Un fs ex H H h h:=Un.kept λ_ _ q=>q
def Un.laid(k:∀b u,h.get? b=some u->h'.get? b=some u)(f:h.objs.size<=a)(d:H a=none):Un fs ex H (upd H a o) h h' where
 keep:=λb u q _ _ _=>k b u q
 slot:=λb u q _ _ _=>{u.slots,k b u q}
 free:=λb u q n _=>by rw[m5 (aAk<|aAq (aAd q) f)];show n
 there:=λb u q _=>{u,k b u q}
 tups:=λb Y q=>by rw[m5 (t8 q d)];show q
 frzs:=λb u Y q=>by rw[m5 (t8 q d)];show q
 tbls:=λb g q=>by rw[m5 (t8 q d)];show q
def Un.write(d:Mut (H x))(p:e=x\/H e=some (.own x))(k:∀b u,b≠e->h.get? b=some u->h'.get? b=some u)(j:∃u,h'.get? e=some u):Un fs ex H (upd H x o) h h':=by
 have l:∀b,H b=none->b≠x:=λb n z=>by subst z;rw[n]at d;show d
 have i:∀b,H b=none->b≠e:=λb n z=>by
  subst z
  simp_all
 have f:∀b u,H b=some u->¬Mut (some u)->b≠x:=λb u q m z=>by subst z;rw[q]at d;show m d
 show⟨λb u q n _ _=>k b u (i b n) q,λb u q n _ _=>{u.slots,k b u (i b n) q},λb u q n _=>by rw[m5 (l b n)];show n,λb u q _=>?_,
  λb Y q=>by rw[m5 (f b _ q λz=>z)];show q,λb u Y q=>by rw[m5 (f b _ q λz=>z)];show q,λb r q=>by rw[m5 (f b _ q λz=>z)];show q⟩
 by_cases g:b=e
 .simp_all
 show{u,k b u g q}
end
def trk(h:ck)(H:Hp):List ba:=(aBd h.objs.size).filter λa=>(H a).isSome
def yW(h:ck)(H:Hp):ck:=PySem.W.hideAll h (trk h H)
def OP(h:ck)(H:Hp):(yW h H).objs.size=h.objs.size:=PySem.W.hideAll_size _ _
def QX(e:h.get? b=some o)(n:H b=none):(yW h H).get? b=some o:=
 PySem.W.hideAll_get _ e λa=>by have q:(H b).isSome=true:=(aCh.mp a).2;rw[n]at q;simp at q
def YT(e:(yW h H).get? b=some o):h.get? b=some o/\H b=none:=by
 have a:h.get? b=some o:=PySem.W.of_hideAll (trk h H) e;show{a,?_};cases q:H b with
 |none=>rfl
 |some x=>have z:(yW h H).get? b=none:=PySem.W.hideAll_none (trk h H) (aCh.mpr {aBn.mpr (aAd a),by simp[q]});grind
def YI(g h:ck)(L:ba):List (ba×Obj):=(aBd h.objs.size).filterMap λa=>if a=L\/(g.get? a).isSome=true then none else(h.get? a).map λo=>(a,o)
def rest(g h:ck)(L d:ba):List (ba×Obj):=(YI g h L).filter λp=>decide (p.1≠d)
structure Mod(K:PySem.W.Frag)(mg:eU)(base:Heap):Prop where
 kin:K.In base
 glob:base.Ns mainGlobals mg
 blt:∃mb,base.Ns builtinsNs mb/\∀x:Str,x≠ "__name__"->mb x=bootBuiltins x
 nolimit:base.NoLimit
structure Cx where
 prog:Program
 w:World
 K:PySem.W.Frag
 mg:Str->Option Value
 base:Heap
 A:Around
 N:List Str
 s9:Shared
 H9:Hp
 env:Env
 outer:List Env
 stack:List Env
 ex:List Addr
 fn:Str->Bool
 calm:Bool
 pn:List (Addr×Obj)
 xe:Value->Shared->Prop
def BM(l:List Env):List ba:=l.filterMap (·.frame)
abbrev Cx.fs(X:Cx):List ba:=BM X.outer
def EF(sc:ik)(x:Str):Prop:=sc.names.lookup x=some .local\/sc.names.lookup x=some .cell\/sc.names.lookup x=some .free
def Loc(sc:ik)(x:Str):Prop:=sc.names.lookup x=some .local\/sc.names.lookup x=some .cell
def Look(env:Env)(h:ck)(m:eU)(x:Str)(u:au):Prop:=
 (env.kindOf x=some .local/\m x=some u)\/((env.kindOf x=some .cell\/env.kindOf x=some .free)/\∃c,env.cells.lookup x=some c/\h.IsCell c (some u))
structure Cx.Ok(X:Cx):Prop where
 mod:Mod X.K X.mg X.base
 kind:X.env.scope.kind=.function
 glob:X.env.globals=mainGlobals
 blt:X.env.builtins=builtinsNs
 above:X.s9.heap.objs.size<=X.env.locals
 inj:∀x y c,X.env.cells.lookup x=some c->X.env.cells.lookup y=some c->x=y
 has:∀x,(X.env.kindOf x=some .cell\/X.env.kindOf x=some .free)->∃c,X.env.cells.lookup x=some c
 cab:∀x c,X.fn x=true->X.env.cells.lookup x=some c->X.s9.heap.objs.size<=c
 hd:X.calm=true->X.A.handled=none
 frames:X.A.frames=some X.stack
 stk:X.stack=X.outer\/(X.stack=X.env::X.outer/\X.env.frame=some X.env.locals)
 exf:∀b∈X.ex,b≠X.env.locals/\∀x c,X.env.cells.lookup x=some c->c≠b
 bs:∀b o,X.base.get? b=some o->X.s9.heap.get? b=some o/\X.H9 b=none
 bsz:X.base.objs.size<=X.s9.heap.objs.size
 noex:∀b o,X.base.get? b=some o->b∉X.ex
 exfs:∀b∈X.ex,b∉X.fs
 funs:X.s9.heap.FunFrames X.base X.outer
 frf:∀b∈X.fs,X.H9 b=none
structure Inv(X:Cx)(pins:P9)(σ:List (Option V))(H:Hp)(s:Shared):Prop where
 ok:X.Ok
 os:s.os=X.s9.os
 bare:AllBare s.gens
 base:Un X.fs X.ex X.H9 H X.s9.heap s.heap
 loc:∃m,s.heap.Ns X.env.locals m/\∀(i:Nat) (x:Str) (v:V),X.N[i]?=some x->σ[i]?=some (some v)->EF X.env.scope x->∃u,RelV v u/\Look X.env s.heap m x u
 cell:∀x c,X.env.cells.lookup x=some c->∃v,s.heap.IsCell c v
 free:H X.env.locals=none
 freeC:∀x c,X.env.cells.lookup x=some c->H c=none
 pin:∀p∈X.pn++pins,s.heap.get? p.1=some p.2/\H p.1=none/\p.1≠X.env.locals/\p.1∉X.fs/\∀v,p.2.data≠.cell v
 hok:iR X.prog X.w H s.heap
 len:σ.length=X.N.length
section
variable{X:Cx}{pins:P9}{σ:List (Option V)}{H H':Hp}{s:aL}{h':ck}
def Cx.Ok.nofr(ok:X.Ok)(e:X.base.get? b=some o):b∉X.fs:=λa=>by
 have:=(ok.funs.mem a).1
 lia
def Inv.bs(I:Inv X pins σ H s):∀b o,X.base.get? b=some o->s.heap.get? b=some o/\H b=none:=λb o e=>{I.base.keep b o (I.ok.bs b o e).1 (I.ok.bs b o e).2 (I.ok.nofr e) (I.ok.noex b o e),I.base.free b o (I.ok.bs b o e).1 (I.ok.bs b o e).2 (I.ok.noex b o e)}
def Inv.bk(I:Inv X pins σ H s):∀b o,X.base.get? b=some o->s.heap.get? b=some o:=λb o e=>(I.bs b o e).1
def Inv.mod(I:Inv X pins σ H s):Mod X.K X.mg X.base:=I.ok.mod
def Inv.kIn(I:Inv X pins σ H s):X.K.In s.heap:=I.ok.mod.kin.keeps I.bk
def Inv.lt(I:Inv X pins σ H s):X.env.locals<s.heap.objs.size:=let⟨_,a,_⟩:=I.loc;a.lt
def Inv.sz(I:Inv X pins σ H s):X.s9.heap.objs.size<=s.heap.objs.size:=aAn I.ok.above (aDC I.lt)
def Inv.ag4(I:Inv X pins σ H s)(h:s.heap.objs.size<=a):a∉X.fs:=λb=>by let{_,o,d,_}:=I.ok.funs.mem b;show absurd (aAq (aAd d)<|aAn I.sz h) (aBJ _)
def Inv.cne(I:Inv X pins σ H s):∀x c,X.env.cells.lookup x=some c->c≠X.env.locals:=λx c e z=>by
 let{v,o,b,d}:=I.cell x c e;let{m,{f,g,h,a,i,_},_}:=I.loc
 lia
def Inv.funs(I:Inv X pins σ H s):s.heap.FunFrames X.base X.outer:=by
 have all:∀(l:List Env),(∀b∈BM l,b∈X.fs)->X.s9.heap.FunFrames X.base l->s.heap.FunFrames X.base l:=by
  intro l;induction l with
  |nil=>intro _ _;trivial
  |cons h r i=>intro g j;let{k,{L,o,a,m,n,p},q}:=j;have d:=g L (by unfold BM;rw[aCC,a];show aCN);let{t,e}:=I.base.slot L o n (I.ok.frf L d) d λz=>I.ok.exfs L z d;show{k,{L,_,a,m,e,p},i (λb f=>g b (by unfold BM;rw[aCC,a];show aAe _ f)) q}
 show all X.outer (λ_ f=>f) I.ok.funs
def Inv.stack(I:Inv X pins σ H s):s.heap.FunFrames X.base X.stack:=by
 rcases I.ok.stk with e|⟨e,a⟩
 .rw[e];show I.funs
 rw[e];let{m,b,_}:=I.loc;show .cons (by rw[I.ok.kind];decide) a b (aEN<|aAn I.ok.bsz I.ok.above) I.funs
def Inv.ab7(I:Inv X pins σ H s):∀b∈BM X.stack,b∈X.env.locals::X.fs:=λb a=>by
 rcases I.ok.stk with e|⟨e,d⟩
 .rw[e]at a;show aAe _ a
 rw[e]at a;unfold BM at a;rw[aCC,d]at a;show a
def Inv.ad7(I:Inv X pins σ H s):∀b∈BM X.stack,H b=none:=λb a=>by
 rcases aAi.mp (I.ab7 b a)with e|a
 .rw[e];show I.free
 let{_,o,d,_}:=I.ok.funs.mem a;show I.base.free b o d (I.ok.frf b a) λz=>I.ok.exfs b z a
def Inv.step{g':Array GenState}{t':Nat}{d':Drawn}{ch:List ba}(I:Inv X pins σ H s)
  (E:∀b∈ch,(b∈X.ex\/X.s9.heap.objs.size<=b)/\b≠X.env.locals/\(∀x c,X.env.cells.lookup x=some c->c≠b)/\∀p∈X.pn++pins,p.1≠b)
  (g:∀b o,b≠X.env.locals->b∉X.fs->b∉ch->s.heap.get? b=some o->H b=none->h'.get? b=some o)
  (slot:∀b o,b≠X.env.locals->b∈X.fs->b∉ch->s.heap.get? b=some o->H b=none->∃sl,h'.get? b=some {o with slots:=sl}) (f:∀b o,b∉ch->s.heap.get? b=some o->H b=none->H' b=none)
  (y:∀b o,b∉ch->s.heap.get? b=some o->∃J,h'.get? b=some J)
  (L:∀b Y,H b=some (.tup Y)->H' b=some (.tup Y)) (N:∀b o u,H b=some (.frz o u)->H' b=some (.frz o u)) (O:∀b tb,H b=some (.tbl tb)->H' b=some (.tbl tb))
  (ns:∀m,s.heap.Ns X.env.locals m->h'.Ns X.env.locals m) (T:iR X.prog X.w H' h') (hg:AllBare g'):
  Inv X pins σ H' {s with heap:=h',gens:=g',drawn:=d',toks:=t'}:=by
 have Q:∀b o,X.s9.heap.get? b=some o->b≠X.env.locals:=λb o e=>aAk (aAq (aAd e) I.ok.above);have t:∀b o,X.s9.heap.get? b=some o->b∉X.ex->b∉ch:=λb o e a A=>by
  rcases(E b A).1 with z|z
  .show a z
  show absurd (aAq (aAd e) z) (aBJ _)
 have h:∀x c,X.env.cells.lookup x=some c->∀v,s.heap.IsCell c v->h'.IsCell c v:=λx c e v ⟨o,C,U⟩=>by
  have j:c∉ch:=λz=>(E c z).2.2.1 x c e rfl;by_cases hc:c∈X.fs
  .let{sl,q}:=slot c o (I.cne x c e) hc j C (I.freeC x c e);show{_,q,U}
  show{o,g c o (I.cne x c e) hc j C (I.freeC x c e),U}
 show{I.ok,I.os,hg,{λb o e n A a=>?_,λb o e n A a=>?_,λb o e n a=>?_,λb o e a=>?_,λb Y e=>L b Y (I.base.tups b Y e),λb o Y e=>N b o Y (I.base.frzs b o Y e),λb ps e=>?_},?_,λx c e=>?_,?_,λx c e=>?_,λp hp=>?_,T,I.len}
 .show g b o (Q b o e) A (t b o e a) (I.base.keep b o e n A a) (I.base.free b o e n a)
 .let{sl,B}:=I.base.slot b o e n A a;let{sl',e2}:=slot b _ (Q b o e) A (t b o e a) B (I.base.free b o e n a);show{sl',e2}
 .let{J,B}:=I.base.there b o e a;show f b J (t b o e a) B (I.base.free b o e n a)
 .let{J,B}:=I.base.there b o e a;show y b J (t b o e a) B
 .show O b ps (I.base.tbls b ps e)
 .let{m,hn,hl}:=I.loc;show{m,ns m hn,λi x v B e2 e3=>?_};let{u,r,l}:=hl i x v B e2 e3;show{u,r,?_};rcases l with l|⟨k,c,e,z⟩
  .show .inl l
  show .inr {k,c,e,h x c e _ z}
 .let{v,z}:=I.cell x c e;show{v,h x c e v z}
 .let{m,{o,_,_,C,_},_}:=I.loc;show f _ o (λz=>(E _ z).2.1 rfl) C I.free
 .let{v,o,C,U}:=I.cell x c e;show f c o (λz=>(E c z).2.2.1 x c e rfl) C (I.freeC x c e)
 let{e,n,ne,nf,d}:=I.pin p hp;have j:p.1∉ch:=λz=>(E p.1 z).2.2.2 p hp rfl;show{g p.1 p.2 ne nf j e n,f p.1 p.2 j e n,ne,nf,d}
def Inv.un{t':Nat}(I:Inv X pins σ H s)(u:Un X.fs [] H H' s.heap h')(d:iR X.prog X.w H' h'):Inv X pins σ H' {s with heap:=h',toks:=t'}:=by
 let{m,{o,p,q,i,r},_}:=id I.loc;let{t,j}:=u.any i I.free (by simp);show I.step (g':=s.gens) (d':=s.drawn) (ch:=[]) (λ_ z=>nomatch z) (λb o _ f _ e n=>u.keep b o e n f (by simp)) (λb o _ f _ e n=>u.slot b o e n f (by simp)) (λb o _ e n=>u.free b o e n (by simp)) (λb o _ e=>u.there b o e (by simp)) u.tups u.frzs u.tbls (λv k=>by let{x,g,h,a,l}:=k;rw[i]at a;cases a;show{_,g,h,j,l}) d I.bare
def Inv.call{g':Array GenState}{t':Nat}{d':Drawn}{ch:List ba}(I:Inv X pins σ H s)(u:Un (BM X.stack) ch H H' s.heap h')(f:iR X.prog X.w H' h')(l:AllBare g')
  (j:∀b∈ch,(b∈X.ex\/X.s9.heap.objs.size<=b)/\b≠X.env.locals/\(∀x c,X.env.cells.lookup x=some c->c≠b)/\∀p∈X.pn++pins,p.1≠b):
  Inv X pins σ H' {s with heap:=h',gens:=g',drawn:=d',toks:=t'}:=by
 let{m,{o,y,A,k,r},_}:=id I.loc;let{B,g}:=u.any k I.free λz=>(j _ z).2.1 rfl;show I.step j (λb o g q a e n=>u.keep b o e n (λz=>(aAi.mp<|I.ab7 b z).elim g q) a) (λb o _ _ a e n=>u.any e n a) (λb o a e n=>u.free b o e n a) (λb o a e=>u.there b o e a) u.tups u.frzs u.tbls (λC t=>by let{E,h,i,d,v}:=t;rw[k]at d;cases d;show{_,h,i,g,v}) f l
def Inv.turned{t':Nat}{a:ba}(I:Inv X pins σ H s)(k:∀b o,b≠a->s.heap.get? b=some o->h'.get? b=some o)(h:H a=none)(g:a≠X.env.locals)
  (i:a∈X.ex\/X.s9.heap.objs.size<=a) (j:∀x c,X.env.cells.lookup x=some c->c≠a) (l:∀p∈X.pn++pins,p.1≠a):Inv X pins σ H {s with heap:=h',toks:=t'}:=by
 have f:∀b u,H b=some u->b≠a:=λb u e z=>by rw[z,h]at e;cases e
 show I.step (g':=s.gens) (d':=s.drawn) (ch:=[a]) (λb t=>?_) (λb o _ _ d e _=>k b o (λz=>d (by simp[z])) e) (λb o _ _ d e _=>{o.slots,k b o (λz=>d (by simp[z])) e}) (λ_ _ _ _ n=>n)
  (λb o d e=>{o,k b o (λz=>d (by simp[z])) e}) (λ_ _ e=>e) (λ_ _ _ e=>e) (λ_ _ e=>e) (λm w=>?_) (λb u e=>?_) I.bare
 .have e:b=a:=by simpa using t
  subst e;show{i,g,j,l}
 .let{o,y,A,B,r}:=w;show{o,y,A,k _ o (aCF g) B,r}
 show(I.hok b u e).ac0 (λc v d q=>k c v ?_ q) (λ_ q=>q) λ_ _ _ q=>q;rcases d with z|z
 .rw[z];show f b u e
 show f c _ z
def Inv.tok(I:Inv X pins σ H s)(t:Nat):Inv X pins σ H {s with toks:=t}:=I.un (h':=s.heap) (t':=t) Un.refl I.hok
def Inv.kept(I:Inv X pins σ H s)(k:∀b u,s.heap.get? b=some u->h'.get? b=some u):Inv X pins σ H {s with heap:=h',toks:=t'}:=I.un (Un.kept k) (I.hok.kept k)
def Inv.laid(I:Inv X pins σ H s)(k:∀b u,s.heap.get? b=some u->h'.get? b=some u)(d:s.heap.objs.size<=a)(e:ObjOk X.prog X.w (upd H a o) h' a o):
 Inv X pins σ (upd H a o) {s with heap:=h',toks:=t'}:=I.un (Un.laid k d<|I.hok.fresh d) (I.hok.laid k d e)
def Inv.write(I:Inv X pins σ H s)(f:Mut (H x))(g:e=x\/H e=some (.own x))(k:∀b u,b≠e->s.heap.get? b=some u->h'.get? b=some u)(a:∃u,h'.get? e=some u)(d:ObjOk X.prog X.w (upd H x o) h' x o):Inv X pins σ (upd H x o) {s with heap:=h',toks:=t'}:=I.un (Un.write f g k a) (I.hok.write f g k a d)
def Inv.ad4(I:Inv X pins σ H s)(h:∀p∈a,s.heap.get? p.1=some p.2/\H p.1=none/\p.1≠X.env.locals/\p.1∉X.fs/\∀v,p.2.data≠.cell v):Inv X a σ H s:=
 {I.ok,I.os,I.bare,I.base,I.loc,I.cell,I.free,I.freeC,λp b=>(aAS.mp b).elim (λz=>I.pin p (aBj _ z)) (h p),I.hok,I.len}
def AV{N:List Str}(d:N.Nodup){i j:Nat}{x:Str}(a:N[i]?=some x)(b:N[j]?=some x):i=j:=by let{g,e}:=aAB.mp a;let{h,f}:=aAB.mp b;show(List.getElem_inj d).mp (e.trans f.symm)
def xD{M:Model}{A:bM}{E:B6}{i:Nat}{x:Str}{v:V}{u:au}{Q:Unit->aL->Prop}(I:Inv X pins σ H s)(hN:X.N.Nodup)(T:X.N[i]?=some x)(t:Loc X.env.scope x)(r:RelV v u)
  (h:∀s',Inv X pins (σ.set i (some v)) H s'->(∃a,Heap.SameBut a s.heap s'.heap/\(a=X.env.locals\/X.env.cells.lookup x=some a))->Q () s') (hf:X.fn x=true\/X.env.scope.names.lookup x=some .local:=by first|show .inl rfl|show .inr rfl|assumption):bb M A (storeName X.env x u) Q E s:=by
 let{m,hn,hl}:=id I.loc;have U:(X.env.scope.kind==.class||(X.env.scope.kind==.module&&X.env.locals !=X.env.globals))=false:=by rw[I.ok.kind];rfl
 have J:i<σ.length:=by rw[I.len];show(aAB.mp T).1
 have cne:=I.cne;have g:∀{a:ba}{h':ck},(∃o,s.heap.get? a=some o/\H a=none)->Heap.SameBut a s.heap h'->iR X.prog X.w H h':=λ{a h'} ha f b ob e=>by let{_,_,oo}:=ha;show(I.hok b ob e).ac0 (λc w' B q=>(f.2 c ?_).trans q) (λ_ q=>q) λ_ _ _ q=>q;grind
 rcases t with hk|hk
 .show wpAny_storeName_local hk hn (λh' hn' f=>?_) U;let{oL,_,_,hoL,_}:=id hn;show h _ {I.ok,I.os,I.bare,{λb o e n L t=>?_,λb o e n L t=>?_,I.base.free,λb o e t=>?_,I.base.tups,I.base.frzs,I.base.tbls},{_,hn',λj y v' l C e3=>?_},λy c e=>?_,I.free,I.freeC,λp hp=>?_,g {oL,hoL,I.free} f,by simpa using I.len} {_,f,.inl rfl}
  .show(f.2 b (aAk<|aAq (aAd e) I.ok.above)).trans (I.base.keep b o e n L t)
  .let{sl,l}:=I.base.slot b o e n L t;show{sl,(f.2 b (aAk<|aAq (aAd e) I.ok.above)).trans l}
  .let{o',l}:=I.base.there b o e t;show{o',(f.2 b (aAk<|aAq (aAd e) I.ok.above)).trans l}
  .by_cases O:j=i
   .subst O;rw[T]at l;cases l;rw[aCc J]at C;cases C;show{u,r,.inl {hk,by simp}}
   rw[aCr (aCF O)]at C;let{u',r',q}:=hl j y v' l C e3;show{u',r',?_};rcases q with⟨k,e⟩|⟨k,c,e,z⟩
   .show .inl {k,?_};have:y≠x:=λe=>O (AV hN l<|e▸T);simp[this,e]
   show .inr {k,c,e,z.sameBut f (cne y c e)}
  .let{w',z}:=I.cell y c e;show{w',z.sameBut f (cne y c e)}
  let{e,n,ne,nf,d}:=I.pin p hp;show{(f.2 p.1 ne).trans e,n,ne,nf,d}
 have ye:X.fn x=true:=by grind
 let{c,B}:=I.ok.has x (.inl hk);let{w',z}:=I.cell x c B;show wpAny_storeName_cell I.ok.kind hk B z (λh' yf f=>?_);let{oc,de,hocd}:=id z;show h {s with heap:=h'} {I.ok,I.os,I.bare,{λb o e n L t=>?_,λb o e n L t=>?_,I.base.free,λb o e t=>?_,I.base.tups,I.base.frzs,I.base.tbls},{m,hn.sameBut f (aCF<|cne x c B),λj y v' l C e3=>?_},λy c' e=>?_,I.free,I.freeC,λp hp=>?_,g {oc,de,I.freeC x c B} f,by simpa using I.len} {c,f,.inr B}
 .show(f.2 b (aAk<|aAq (aAd e)<|I.ok.cab x c ye B)).trans (I.base.keep b o e n L t)
 .let{sl,l}:=I.base.slot b o e n L t;show{sl,(f.2 b (aAk<|aAq (aAd e)<|I.ok.cab x c ye B)).trans l}
 .let{o',l}:=I.base.there b o e t;show{o',(f.2 b (aAk<|aAq (aAd e)<|I.ok.cab x c ye B)).trans l}
 .by_cases O:j=i
  .subst O;rw[T]at l;cases l;rw[aCc J]at C;cases C;show{u,r,.inr {.inl hk,c,B,yf}}
  rw[aCr (aCF O)]at C;let{u',r',q}:=hl j y v' l C e3;show{u',r',?_};rcases q with q|⟨k,c',e,z'⟩
  .show .inl q
  show .inr {k,c',e,z'.sameBut f ?_};rintro rfl;show O (AV hN l<|I.ok.inj _ _ _ e B▸T)
 .by_cases Y:c'=c
  .subst Y;show{_,yf}
  let{w2,z2}:=I.cell y c' e;show{w2,z2.sameBut f Y}
 let{e,n,ne,nf,d}:=I.pin p hp;show{(f.2 p.1 ?_).trans e,n,ne,nf,d};intro q;rw[q,de]at e;grind
def L0{E:B6}{Q:Unit->aL->Prop}(I:Inv X pins σ H s)(a:X.N.Nodup)(b:X.N[i]?=some x)(d:Loc X.env.scope x)(r:RelV v u)(h:∀s',Inv X pins (σ.set i (some v)) H s'->Q () s')(e:X.fn x=true\/X.env.scope.names.lookup x=some .local:=by first|show .inl rfl|show .inr rfl|assumption):bb M A (storeName X.env x u) Q E s:=
 xD I a b d r (λs' f _=>h s' f) e
def Inv.ag0(I:Inv X pins σ H s)(d:s'.os=s.os)(u:Un (BM X.stack) ch H H' s.heap s'.heap)(a:iR X.prog X.w H' s'.heap)(e:AllBare s'.gens)(f:∀b∈ch,(b∈X.ex\/X.s9.heap.objs.size<=b)/\b≠X.env.locals/\(∀x c,X.env.cells.lookup x=some c->c≠b)/\∀p∈X.pn++pins,p.1≠b):Inv X pins σ H' s':=by let{h',g',d',t',g}:=s';subst d;show I.call (g':=g') (t':=t') (d':=d') u a e f
end
abbrev XK:=au->Option ba->Hp->Prop
abbrev St:=List (Option V)
abbrev VK:=V->Hp->Prop
abbrev TE:=St->Hp->VK->Prop
abbrev TT:=St->Hp->(Bool->Hp->Prop)->Prop
abbrev TA:=St->Hp->(List V->Hp->Prop)->Prop
structure Ends where
 nx:St->Hp->Prop
 rt:VK
 bk:St->Hp->Prop:=λ_ _=>False
 ct:St->Hp->Prop:=λ_ _=>False
abbrev TS:=Ends->St->Hp->Prop
def EP(X:Cx)(a:P9)(d:St)(Q:VK)(u:au)(s':aL):Prop:=∃v b,Inv X a d b s'/\RelV v u/\Q v b
def TP(X:Cx)(a:P9)(e:St)(Q:Bool->Hp->Prop)(b:Bool)(s':aL):Prop:=∃d,Inv X a e d s'/\Q b d
def AP(X:Cx)(a:P9)(e:St)(Q:List V->Hp->Prop)(f:List au)(s':aL):Prop:=∃b d,Inv X a e d s'/\q9 b f/\Q b d
def SP(X:Cx)(a:P9)(D:Ends)(f:Flow)(s':aL):Prop:=
 match f with
 |.next=>∃d b,Inv X a d b s'/\D.nx d b
 |.brk=>∃d b,Inv X a d b s'/\D.bk d b
 |.cont=>∃d b,Inv X a d b s'/\D.ct d b
 |.ret u=>∃v d b,Inv X a d b s'/\RelV v u/\D.rt v b
def PE(X:Cx)(e:cq)(t:TE):Prop:=
 ∀(a:P9) (s:aL) (b:St) (H:Hp) (Q:VK),Inv X a b H s->t b H Q->bb (bc X.prog X.w) X.A (dm e X.env) (EP X a b Q) X.xe s
def PT(X:Cx)(e:cq)(t:TT):Prop:=
 ∀(a:P9) (s:aL) (b:St) (H:Hp) (Q:Bool->Hp->Prop),Inv X a b H s->t b H Q->bb (bc X.prog X.w) X.A (isTrue e X.env<|dm e X.env) (TP X a b Q) X.xe s
def PW(X:Cx)(e:cq)(t:TT):Prop:=
 ∀(b:Sem au) (a:P9) (s:aL) (d:St) (H:Hp) (Q:Bool->Hp->Prop),Inv X a d H s->t d H Q->bb (bc X.prog X.w) X.A (isTrue e X.env b) (TP X a d Q) X.xe s
def PW.pt(h:PW X e t):PT X e t:=h _
def PA(X:Cx)(es:List cq)(t:TA):Prop:=
 ∀(b:Pos) (a:P9) (s:aL) (d:St) (H:Hp) (Q:List V->Hp->Prop),Inv X a d H s->t d H Q->bb (bc X.prog X.w) X.A (spliced<|cy b<|a9 es X.env) (AP X a d Q) X.xe s
def PS(X:Cx)(st:cp)(t:TS):Prop:=
 ∀(a:P9) (s:aL) (b:St) (H:Hp) (D:Ends),Inv X a b H s->t D b H->bb (bc X.prog X.w) X.A (exec st X.env) (SP X a D) X.xe s
def uW(X:Cx)(st:List cp)(t:TS):Prop:=
 ∀(a:P9) (s:aL) (b:St) (H:Hp) (D:Ends),Inv X a b H s->t D b H->bb (bc X.prog X.w) X.A (execs st X.env) (SP X a D) X.xe s
def D8{b:Type}{t:Sem b}{Q d:b->aL->Prop}{M:Model}{A:bM}{E:B6}{s:aL}(h:bb M A t Q E s)(e:∀a s,Q a s->d a s):bb M A t d E s:=aCy h e λ_ _ x=>x
section
variable{X:Cx}
def a6b(i:Nat):TE:=λa H Q=>∃v,a[i]?=some (some v)/\Q v H
def tC(v:V):TE:=λ_ H Q=>Q v H
def N4(j:X.N[i]?=some x)(k:EF X.env.scope x)(d:(x==kM)=false:=by decide)(n:(x==lh)=false:=by decide):PE X (.Name x o) (a6b i):=by
 intro b s p H Q I h;let{v,e,h}:=h;let{m,q,t}:=I.loc;let{u,r,l}:=t i x v j e k;have a:EP X b p Q u s:={v,H,I,r,h};rcases l with⟨hk,w⟩|⟨hk,c,f,g⟩
 .show wpAny_Name (wpAny_loadName_local I.ok.kind hk q w a) d
 rcases hk with hk|hk
 .show wpAny_Name (wpAny_loadName_cell I.ok.kind hk f g a) d
 show wpAny_Name (wpAny_loadName_free I.ok.kind hk f g a n) d
def a2n{i j a}:PE X (.Constant (.int i) j a) (tC (.int i)):=λ_ _ _ H _ I h=>wpAny_Constant_int {.int i,H,I.tok _,{_,rfl},h}
def a6r{b j a}:PE X (.Constant (.bool b) j a) (tC (.bl b)):=λ_ _ _ H _ I h=>Constant_bool {.bl b,H,I,rfl,h}
def a0n{j a}:PE X (.Constant .none j a) (tC .non):=λ_ _ _ H _ I h=>Constant_none {.non,H,I,rfl,h}
def Gl(X:Cx)(x:Str):Prop:=X.env.kindOf x=some .globalImplicit
def zD{E:B6}{Q:B6}(I:Inv X a g H s)(b:Gl X x)(d:X.mg x=some u)(h:Q u s)(e:(x==kM)=false:=by decide):bb (bc X.prog X.w) X.A (dm (.Name x f) X.env) Q E s:=
 Calls.Name_function_global I.ok.kind b (Calls.loadGlobal_global (I.ok.glob▸I.mod.glob.keeps I.bk) d h) e
def M0{E:B6}{Q:B6}(I:Inv X a l H s)(b:Gl X x)(d:X.mg x=none)(e:cv x=some u)(h:Q u s)(f:x≠ "__name__":=by decide)(g:(x==kM)=false:=by decide):bb (bc X.prog X.w) X.A (dm (.Name x i) X.env) Q E s:=by let{m,j,k}:=I.mod.blt;show Calls.Name_function_global I.ok.kind b (Calls.loadGlobal_builtin (I.ok.glob▸I.mod.glob.keeps I.bk) d (I.ok.blt▸j.keeps I.bk) ((k x f).trans e) h) g
def bx(a:Gl X x)(b:X.mg x=some u)(r:RelV v u)(d:(x==kM)=false:=by decide):PE X (.Name x e) (tC v):=
 λ_ _ _ H _ I h=>zD I a b {v,H,I,r,h} d
def bj(a:Gl X x)(b:X.mg x=none)(d:cv x=some u)(r:RelV v u)(e:x≠ "__name__":=by decide)(f:(x==kM)=false:=by decide):PE X (.Name x g) (tC v):=
 λ_ _ _ H _ I h=>M0 I a b d {v,H,I,r,h} e f
variable{a b:cq}{ta tb:TE}{pos:Pos}
def tB(t:TE):TT:=λd H Q=>t d H λx e=>∃c,x=.bl c/\Q c e
def a1d{e:cq}{t:TE}(h:PE X e t)(g:∀whole,isTrue e X.env whole=(do let v<-whole;standAt e.pos;gn [v] (truthy v)):=by intro _;rfl):PT X e (tB t):=by intro f s i H Q I j;show isTrue_plain (D8 (h f s i H _ I j) λv o ⟨x,k,l,m,n⟩=>?_) (g _);let{d,rfl,q}:=n;cases m;show aBw {k,l,q}
variable{tA tB':TT}{rest:List cq}
def b0o(t u:TT):TT:=λd H Q=>t d H λc e=>if c=true then u d e Q else Q false e
def tOr(t u:TT):TT:=λd H Q=>t d H λc e=>if c=true then Q true e else u d e Q
def a8w(t:TT):TT:=λd H Q=>t d H λc e=>Q (!c) e
def bz(f:PT X a tA):PW X (.BoolOp .And [a] pos) tA:=by
 intro i d s g H Q I h;show isTrue_and (D8 (f d s g H Q I h) λc j e=>?_);cases c with
 |true=>show isTrue_and_nil e
 |false=>show e
def a1p(f:PT X a tA):PW X (.BoolOp .Or [a] pos) tA:=by
 intro i d s g H Q I h;show isTrue_or (D8 (f d s g H Q I h) λc j e=>?_);cases c with
 |false=>show isTrue_or_nil e
 |true=>show e
def a0w(j:PT X a tA)(k:PW X (.BoolOp .And (b::rest) pos) tB'):PW X (.BoolOp .And (a::b::rest) pos) (b0o tA tB'):=by
 intro l d s e H Q I h;show isTrue_and (D8 (j d s e H _ I h) λc m ⟨f,g,i⟩=>?_);cases c with
 |true=>show k l d m e f Q g i
 |false=>show{f,g,i}
def a6u(j:PT X a tA)(k:PW X (.BoolOp .Or (b::rest) pos) tB'):PW X (.BoolOp .Or (a::b::rest) pos) (tOr tA tB'):=by
 intro l d s e H Q I h;show isTrue_or (D8 (j d s e H _ I h) λc m ⟨f,g,i⟩=>?_);cases c with
 |true=>show{f,g,i}
 |false=>show k l d m e f Q g i
def a1i(e:PT X a tA):PT X (.UnaryOp .Not a pos) (a8w tA):=by intro d s f H Q I h;show isTrue_not (e d s f H (λc g=>Q (!c) g) I h)
def a4r(ta tb:TE):TE:=λd H Q=>ta d H λx e=>∃c,x=.bl c/\if c=true then tb d e Q else Q (.bl false) e
def a5u(ta:TE):TE:=λd H Q=>ta d H λx e=>∃c,x=.bl c/\Q (.bl (!c)) e
def a1f{op}(h:PE X a t):PE X (.BoolOp op [a] pos) t:=λd s e H Q I f=>BoolOp_one (h d s e H Q I f)
def a0r(j:PE X a ta)(k:PE X (.BoolOp .And (b::rest) pos) tb):PE X (.BoolOp .And (a::b::rest) pos) (a4r ta tb):=by
 intro d s f H Q I h;show BoolOp_and (D8 (j d s f H _ I h) λv l ⟨x,g,i,m,e⟩=>?_);let{c,rfl,e}:=e;cases m;show aBw ?_;cases c with
 |true=>show k d l f g Q i e
 |false=>show{.bl false,g,i,rfl,e}
def a2l(f:PE X a ta):PE X (.UnaryOp .Not a pos) (a5u ta):=by intro d s g H Q I h;show UnaryOp_ (D8 (f d s g H _ I h) λv l ⟨x,i,j,k,e⟩=>?_);let{c,rfl,e}:=e;cases k;show not_of (aBw {.bl (!c),i,j,rfl,e})
end
def L7(K:kn)(H:Hp)(a:ba)(Y:List V):Prop:=
 Rd H a (.lst Y)\/
  ∃(o:Obj) (b:Array au) (n:Nat),K.lookup a=some o/\o.cls=.type "list"/\o.dict=none/\o.data=.seq b n/\b.size<=sizeLine/\q9 Y b.toList
def T5(K:kn)(H:Hp)(a:ba)(Y:List V):Prop:=
 Rd H a (.tup Y)\/
  ∃(o:Obj) (b:Array au) (n:Nat),K.lookup a=some o/\o.cls=.type "tuple"/\o.data=.seq b n/\b.size<=sizeLine/\q9 Y b.toList
def a9b:au->Option V
 |.none=>some .non
 |.bool b=>some (.bl b)
 |.int i _=>some (.int i)
 |.str x _=>some (.str x)
 |.bytes b _=>some (.byt b)
 |.float b _=>some (.flt b)
 |.ref a=>some (.ref a)
 |.type n=>some (.ty n)
 |_=>none
def RelV.abs(r:RelV x u):a9b u=some x:=by
 cases x with
 |non=>cases r;rfl
 |bl _=>cases r;rfl
 |int _=>let{t,rfl}:=r;rfl
 |str _=>let{t,rfl}:=r;rfl
 |byt _=>let{t,rfl}:=r;rfl
 |flt _=>let{t,rfl}:=r;rfl
 |ref _=>cases r;rfl
 |ty _=>cases r;rfl
def RelV.inj{x y:V}{u:au}(r:RelV x u)(q:RelV y u):x=y:=Option.some.inj (r.abs.symm.trans q.abs)
theorem q9.inj:∀{Y a:List V}{b:List au},q9 Y b->q9 a b->Y=a
 |_,_,_,.nil,.nil=>rfl
 |_,_,_,.cons r t,.cons d e=>by rw[r.inj d,q9.inj t e]
section
variable{X:Cx}{pins:P9}{σ:St}{H:Hp}{s:aL}{a:ba}{Y ys:List V}
def L7.of{K:kn}(h:H a=some (.lst Y)):L7 K H a Y:=.inl (.inl h)
def T5.of{K:kn}(h:H a=some (.tup Y)):T5 K H a Y:=.inl (.inl h)
def Inv.list(I:Inv X pins σ H s)(h:L7 X.K H a Y):∃its:List au,q9 Y its/\PlainL s.heap a its.toArray/\Y.length<=sizeLine:=by
 rcases h with h|⟨o,its,n,b,d,f,g,i,r⟩
 .let{z,its,n,r,e}:=h.ok I.hok;show{its,r,{_,n,e,rfl,rfl,rfl},z}
 show{its.toList,r,{o,n,I.kIn a o b,d,f,by simpa using g},?_};have e:=r.length;erw[aBo]at e
 lia
def Inv.tuple(I:Inv X pins σ H s)(h:T5 X.K H a Y):∃its:List au,q9 Y its/\IsTup s.heap a its.toArray/\Y.length<=sizeLine:=by
 rcases h with h|⟨o,its,n,b,d,f,g,r⟩
 .let{z,its,r,p}:=h.ok I.hok;show{its,r,p,z}
 show{its.toList,r,{o,I.kIn a o b,d,n,by simpa using f},?_};have e:=r.length;grind
def Inv.ab5(I:Inv X pins σ H s)(h:L7 X.K H a Y)(h':L7 X.K H a ys):Y=ys:=by
 let{f,r,{o,n,e,_,_,d},_}:=I.list h;let{b,j,{l,m,g,_,_,i},_}:=I.list h';rw[e]at g;cases g;rw[d]at i;injection i with k _;have:f=b:=by simpa using km aGL k
 subst this;show r.inj j
def Inv.aa9(I:Inv X pins σ H s)(h:T5 X.K H a Y)(h':T5 X.K H a ys):Y=ys:=by
 let{f,r,{o,e,_,n,d},_}:=I.tuple h;let{b,j,{k,g,_,l,i},_}:=I.tuple h';rw[e]at g;cases g;rw[d]at i;injection i with m _;have:f=b:=by grind
 subst this;show r.inj j
end
abbrev Cx.ac3(X:Cx)(E:B6):Cx:={X with xe:=E}
abbrev Cx.nox(X:Cx):Cx:=X.ac3 λ_ _=>False
def Cx.Ok.ac3{X:Cx}(ok:X.Ok)(E:B6):(X.ac3 E).Ok:=
 {ok.mod,ok.kind,ok.glob,ok.blt,ok.above,ok.inj,ok.has,ok.cab,ok.hd,ok.frames,ok.stk,ok.exf,ok.bs,ok.bsz,ok.noex,ok.exfs,ok.funs,ok.frf}
def Cx.Ok.aa8{X:Cx}{E:B6}(ok:(X.ac3 E).Ok):X.Ok:=
 {ok.mod,ok.kind,ok.glob,ok.blt,ok.above,ok.inj,ok.has,ok.cab,ok.hd,ok.frames,ok.stk,ok.exf,ok.bs,ok.bsz,ok.noex,ok.exfs,ok.funs,ok.frf}
section
variable{X:Cx}{pins:P9}{σ:St}{H:Hp}{s:aL}{E:B6}
def Inv.ac3(I:Inv X pins σ H s)(E:B6):Inv (X.ac3 E) pins σ H s:={I.ok.ac3 E,I.os,I.bare,I.base,I.loc,I.cell,I.free,I.freeC,I.pin,I.hok,I.len}
def Inv.aa8(I:Inv (X.ac3 E) pins σ H s):Inv X pins σ H s:={I.ok.aa8,I.os,I.bare,I.base,I.loc,I.cell,I.free,I.freeC,I.pin,I.hok,I.len}
def SP.aa8(h:SP (X.ac3 E) pins D f s'):SP X pins D f s':=by
 cases f with
 |next=>let{a,b,I,q}:=h;show{a,b,I.aa8,q}
 |brk=>let{a,b,I,q}:=h;show{a,b,I.aa8,q}
 |cont=>let{a,b,I,q}:=h;show{a,b,I.aa8,q}
 |ret u=>let{v,a,b,I,r,q}:=h;show{v,a,b,I.aa8,r,q}
def uW.nox{st:List cp}{t:TS}(h:uW X.nox st t):uW X st t:=λpins s σ H D I a=>aCy (h pins s σ H D (I.ac3 _) a) (λ_ _ q=>q.aa8) λ_ _ z=>aAv z
end
section
variable{X:Cx}{st:cp}{rest:List cp}{t u:TS}{e:cq}{te:TE}{pos:Pos}
def a4x:TS:=λD a H=>D.nx a H
def a9v(t u:TS):TS:=λD a H=>t {D with nx:=u D} a H
def bw:uW X [] a4x:=λ_ _ a H _ I h=>aEX {a,H,I,h}
def rE(b:PS X st t)(d:uW X rest u):uW X (st::rest) (a9v t u):=by
 intro a s g H D I h;show aEJ (D8 (b a s g H {D with nx:=u D} I h) λf i q=>?_);cases f with
 |next=>let{j,k,l,q}:=q;show d a i j k D l q
 |ret v=>show q
 |brk=>show q
 |cont=>show q
def qM(b:PS X st t):uW X [st] t:=by
 intro a s d H D I h;show aEJ (D8 (b a s d H D I h) λf g q=>?_);cases f with
 |next=>show aEX q
 |ret v=>show q
 |brk=>show q
 |cont=>show q
def Inv.quiet(I:Inv X a b H s):interactive X.env=false:=by simp[interactive,I.ok.kind]
def a5s(te:TE):TS:=λD a H=>te a H λ_ b=>D.nx a b
def jU(d:PE X e te)(f:d7 e none pos.line X.env=pure false:=by rfl):PS X (.Expr e pos) (a5s te):=by intro a s b H D I h;show wpAny_Expr_any (D8 (d a s b H _ I h) λv k ⟨x,g,i,l,j⟩=>{b,g,i,j}) I.quiet f
def a9h(te:TE):TS:=λD a H=>te a H D.rt
def zN(d:PE X e te):PS X (.Return (some e) pos) (a9h te):=by intro a s b H D I h;show wpAny_Return_some (D8 (d a s b H _ I h) λv k ⟨x,f,g,i,j⟩=>{x,b,f,g,i,j})
def a9c(c:TT)(t u:TS):TS:=λD a H=>c a H λb d=>if b=true then t D a d else u D a d
def a5p{c:cq}{a b:List cp}{i:TT}(n:PT X c i)(o:uW X a t)(p:uW X b u):PS X (.If c a b pos) (a9c i t u):=by
 intro f s g H D I h;show wpAny_If (D8 (n f s g H _ I h) λd j ⟨k,l,m⟩=>?_);cases d with
 |true=>show o f j g k D l m
 |false=>show p f j g k D l m
def a2w:TS:=λ_ _ _=>False
def PZ:PS X st a2w:=λ_ _ _ _ _ _ h=>h.elim
end
abbrev TG:=V->St->Hp->(St->Hp->Prop)->Prop
abbrev TGs:=List V->St->Hp->(St->Hp->Prop)->Prop
def PG(X:Cx)(a:cq)(t:TG):Prop:=
 ∀(b:P9) (s:aL) (d:St) (H:Hp) (v:V) (u:au) (Q:St->Hp->Prop),Inv X b d H s->RelV v u->t v d H Q->
  bb (bc X.prog X.w) X.A (ka a X.env u) (λ_ g=>∃e f,Inv X b e f g/\Q e f) X.xe s
def PGs(X:Cx)(h:List cq)(t:TGs):Prop:=
 ∀(a:P9) (s:aL) (b:St) (H:Hp) (d:List V) (e:List au) (Q:St->Hp->Prop),Inv X a b H s->q9 d e->t d b H Q->
  bb (bc X.prog X.w) X.A (assignInOrder ((ek h X.env).map (·.2)) e) (λ_ i=>∃f g,Inv X a f g i/\Q f g) X.xe s
abbrev ZG:=V->V->V->Hp->(Hp->Prop)->Prop
def a7h(X:Cx)(t:ZG):Prop:=
 ∀(a:P9) (s:aL) (b:St) (H:Hp) (o i v:V) (d e u:au) (Q:Hp->Prop),Inv X a b H s->RelV o d->RelV i e->RelV v u->t o i v H Q->
  bb (bc X.prog X.w) X.A (setItem d e u) (λ_ g=>∃f,Inv X a b f g/\Q f) X.xe s
section
variable{X:Cx}{pos:Pos}
def a0c(i:Nat):TG:=λv a H Q=>Q (a.set i<|some v) H
def ez(b:X.N.Nodup)(d:X.N[i]?=some x)(e:Loc X.env.scope x)(f:X.fn x=true\/X.env.scope.names.lookup x=some .local:=by first|show .inl rfl|show .inr rfl|assumption):PG X (.Name x pos) (a0c i):=by intro a s j H v u Q I r h;show wpAny_assign_Name (L0 I b d e r (λk g=>{_,H,g,h}) f)
def b0k:TGs:=λa b H Q=>a=[]/\Q b H
def a7s(t:TG)(u:TGs):TGs:=λa b H Q=>∃v r,a=v::r/\t v b H λd e=>u r d e Q
def nq:PGs X [] b0k:=by intro a s b H d f Q I r h;let{e,h}:=h;subst e;show assignInOrder_nil {b,H,I,h}
def TW{e:cq}{es:List cq}{t:TG}{u:TGs}(d:PG X e t)(f:PGs X es u)
  (g:(ek (e::es) X.env).map (·.2)=ka e X.env::(ek es X.env).map (·.2):=by rfl):PGs X (e::es) (a7s t u):=by
 intro a s i H p q Q I r h;let{v,w,j,h}:=h;subst j;cases r with
 |cons r k=>rw[g];show aFp (D8 (d a s i H _ _ _ I r h) λ_ l ⟨b,m,n,o⟩=>?_);show f a l b m _ _ Q n k o
def b0p(b ti:TE)(t:ZG):TG:=λv a H Q=>b a H λo d=>ti a d λi e=>t o i v e λf=>Q a f
def a0h{o i:cq}{f ti:TE}{t:ZG}(g:PE X o f)(j:PE X i ti)(k:a7h X t)
  (N:∀v,ka (.Subscript o i pos) X.env v=(do
   let b<-gn [v] (dm o X.env)
   let d<-gn [v,b] (dm i X.env)
   standAt pos
   gn [v,b,d] (setItem b d v)
   release [v,b,d] []):=by intro _;rfl):PG X (.Subscript o i pos) (b0p f ti t):=by
 intro a s e H v u Q I r h;show aAa (aAG<|D8 (g a s e H _ I h) λb l ⟨x,m,n,p,q⟩=>?_);show aAa (aAG<|D8 (j a l e m _ n q) λd w ⟨y,z,A,B,C⟩=>?_);show aAa (aEQ<|aAa<|aAG<|D8 (k a w e z x y v b d u _ A p B r C) λ_ O ⟨E,J,L⟩=>?_);show wpAny_release {e,E,J,L}
def a7c(b:TE)(g:TG):TS:=λD a H=>b a H λx d=>g x a d D.nx
def VR{b e:cq}{d:TE}{g:TG}(i:PE X e d)(j:PG X b g)(k:gs [b] e pos.line X.env=pure false:=by rfl)(l:gW [b] e X.env=pure none:=by rfl)
  (m:(ek [b] X.env).map (·.2)=[ka b X.env]:=by rfl):PS X (.Assign [b] e pos) (a7c d g):=by
 intro a s f H D I h;show wpAny_Assign_stores (D8 (i a s f H _ I h) λv n ⟨x,o,p,r,t⟩=>?_) k l;rw[m];show D8 (j a n f o x v _ p r t) λ_ u q=>q
def VY{i:Nat}{x:Str}{e:cq}{d:TE}{a:Pos}(f:X.N.Nodup)(g:X.N[i]?=some x)(j:Loc X.env.scope x)(k:PE X e d)(l:d7 e (some (.Name x a)) pos.line X.env=pure false:=by rfl)(m:X.fn x=true\/X.env.scope.names.lookup x=some .local:=by first|show .inl rfl|show .inr rfl|assumption):
  PS X (.Assign [.Name x a] e pos) (a7c d (a0c i)):=by
 intro b s n H D I h;show aEt (D8 (k b s n H _ I h) λv u ⟨y,o,p,q,r⟩=>(L0 p f g j q (λw t=>{_,o,t,r}) m)) l
def b0d(i j:Nat)(b:TA):TS:=λD a H=>b a H λd e=>∃v w,d=[v,w]/\D.nx ((a.set i<|some v).set j (some w)) e
def a1q{i j:Nat}{x y:Str}{a b:cq}{z:TA}{l m pt:Pos}{n r vK}(O:X.calm=true)(A:X.N.Nodup)(Q:X.N[i]?=some x)(T:X.N[j]?=some y)(U:i≠j)
  (B:X.env.scope.names.lookup x=some .local) (C:X.env.scope.names.lookup y=some .local) (Y:PA X [a,b] z)
  (hw:gW [.Tuple [.Name x l,.Name y m] n pt] (.Tuple [a,b] r vK) X.env=pure (some [x,y]))
  (hs:gs [.Tuple [.Name x l,.Name y m] n pt] (.Tuple [a,b] r vK) pos.line X.env=pure false:=by rfl):
  PS X (.Assign [.Tuple [.Name x l,.Name y m] n pt] (.Tuple [a,b] r vK) pos) (b0d i j z):=by
 intro d s E H D I h;rw[exec_Assign_arm];show aAa (aEQ ?_);rw[hs];show aAa (aAc ?_);rw[kd (by decide)];show aAa (Tuple_<|D8 (Y _ d s E H _ I h) λus f ⟨vs,J,I1,r1,t⟩=>?_);let{v,w,e1,t}:=t;subst e1;obtain⟨g,k,rfl,rv,za⟩:∃g k,us=[g,k]/\RelV v g/\RelV w k:=by
  cases r1 with
  |cons p q=>
   cases q with
   |cons p' q'=>cases q';show{_,_,rfl,p,p'}
 show aAA ?_ (by change 2<=sizeLine;decide);have I2:Inv X d E J {f with heap:=f.heap.push {cls:=.type "tuple",data:=.seq [g,k].toArray}}:=I1.kept (t':=f.toks) λb o e=>aAb _ e;rw[hw];show aAa (aAc ?_);show aAa (aCx<|aAa<|unpackItems_tuple (items:=#[g,k]) (I.ok.hd O) (IsTup.new f.heap _) λh' u=>?_);show aAa (aFp<|wpAny_bindName<|L0 (I2.kept (h':=h') (t':=f.toks) λb o e=>u b o (aAk<|aAd e) e) A T (.inl C) za (λs2 I4=>(aFp<|wpAny_bindName<|L0 I4 A Q (.inl B) rv (λs3 L=>assignInOrder_nil (aAc ?_))<|.inr B))<|.inr C);rw[List.set_comm _ _ (aCF U)]at L;show{_,J,L,t}
end
section
variable{X:Cx}{pos:Pos}
def a2b(c:TT)(tb:TS):TS:=λD a H=>∃W:Nat->St->Hp->Prop,(∃m,W m a H)/\∀m a H,W m a H->
 c a H λb d=>if b=true then∃N:St->Hp->Prop,(∀e f,N e f->∃g,g<m/\W g e f)/\tb {D with nx:=N,ct:=N,bk:=D.nx} a d else D.nx a d
def UH{c:cq}{body:List cp}{q:TT}{tb:TS}(r:PassesOwn (bc X.prog X.w) X.A X.env X.xe)(C:PT X c q)(E:uW X body tb):PS X (.While c body [] pos) (a2b q tb):=by
 intro a s J H D I h;let{W,{L,O},turn}:=h;show wpAny_While (codeAny_whileLoop (λn Q=>∃t u,Inv X a t u Q/\W n t u) ?_ L {J,H,I,O});rintro n T ⟨d,x,U,Y⟩;show aDa r (D8 (C a T d x _ U<|turn n d x Y) λb s2 ⟨y,z,i⟩=>?_);cases b with
 |true=>
  let{N,B,i}:=i;rw[kc rfl];show aDa r (D8 (E a s2 d y _ z i) λf s3 j=>?_);cases f with
  |next=>let{e,g,k,l}:=j;let{m,o,p}:=B e g l;show{m,o,e,g,k,p}
  |cont=>let{e,g,k,l}:=j;let{m,o,p}:=B e g l;show{m,o,e,g,k,p}
  |brk=>show j
  |ret v=>show j
 |false=>rw[kd aBF];show aEX {d,y,z,i}
end
structure It where
 go:Nat->Hp->Prop
 yld:Nat->Hp->V->Hp->Prop
 stop:Nat->Hp->Prop
def pJ(X:Cx)(pins:P9)(H:Hp)(b:ba):Prop:=
 H b=none/\b≠X.env.locals/\b∉X.fs/\(b∈X.ex\/X.s9.heap.objs.size<=b)/\(∀x c,X.env.cells.lookup x=some c->c≠b)/\∀p∈X.pn++pins,p.1≠b
def Inv.af2(I:Inv X a h H s)(d:s.heap.objs.size<=b)(f:H' b=none):pJ X a H' b:=by
 show{f,aBP (aAq I.lt d),I.ag4 d,.inr (aAn I.sz d),λx c e z=>?_,λp g z=>?_}
 .let{v,q}:=I.cell x c e;show absurd (aAq q.lt (by lia)) (aBJ _)
 show absurd (aAq (aAd (I.pin p g).1)<|z▸d) (aBJ _)
structure Turn(P:Program)(w:World)(K:PySem.W.Frag)(tg:Expr)(J:It)(fp:List Addr)(it:Addr)(tn:Nat->Heap->Prop):Prop where
 mem:it∈fp
 obj:∀i h,tn i h->∀b∈fp,∃o,h.get? b=some o/\∀v,o.data≠.cell v
 keep:∀i h h',tn i h->(∀b∈fp,∀o,h.get? b=some o->h'.get? b=some o)->tn i h'
 item:∀(X:Cx),X.prog=P->X.w=w->X.K=K->X.calm=true->∀(i:Nat) (pins:P9) (s:Shared) (σ:St) (H:Hp) (E:B6),Inv X pins σ H s->(∀b∈fp,pJ X pins H b)->tn i s.heap->J.go i H->
  wpAny (model P w) X.A (pyNext (.ref it)) (λr s1=>∃u,r=some u/\
   wpAny (model P w) X.A (letOwnedTupleGo tg (.ref it) u) (λ_ s2=>∃x H',Inv X pins σ H' s2/\RelV x u/\J.yld i H x H'/\tn (i+1) s2.heap/\∀b∈fp,H' b=none) E s1) E s
 done:∀(X:Cx),X.prog=P->X.w=w->X.K=K->X.calm=true->∀(i:Nat) (pins:P9) (s:Shared) (σ:St) (H:Hp) (E:B6),Inv X pins σ H s->(∀b∈fp,pJ X pins H b)->tn i s.heap->J.stop i H->
  wpAny (model P w) X.A (pyNext (.ref it)) (λr s1=>r=none/\Inv X pins σ H s1) E s
 self:∀(A:Around) (i:Nat) (s:Shared) (Q:B6) (E:B6),tn i s.heap->Q (.ref it) s->wpAny (model P w) A (pyIter (.ref it)) Q E s
abbrev TI:=St->Hp->(It->Hp->Prop)->Prop
def PIE(X:Cx)(a:P9)(j:St)(k:cq)(R:It->Hp->Prop)(d:au)(f:aL):Prop:=
 ∃(g:ba) (h:List ba) (i:Nat->ck->Prop) (J:It) (e:Hp),d=.ref g/\Inv X a j e f/\Turn X.prog X.w X.K k J h g i/\i 0 f.heap/\(∀b∈h,pJ X a e b)/\R J e
def PI(X:Cx)(d iter:cq)(e:TI):Prop:=
 ∀(a:P9) (s:aL) (b:St) (H:Hp) (R:It->Hp->Prop),Inv X a b H s->e b H R->
  bb (bc X.prog X.w) X.A (dm iter X.env) (λv f=>bb (bc X.prog X.w) X.A (pyIter v) (PIE X a b d R) X.xe f) X.xe s
def RJ{E : au → aL → Prop}{Q : Unit → aL → Prop} (b : s.heap.get? d = some o) (e : o.cls = .type n) (f : o.data = .fields vs) (h : ["enumerate", "zip", "dict_itemiterator", "dict_reverseitemiterator", "odict_iterator", "itertools.zip_longest", "itertools.pairwise"].contains n = false) (a : Q () s) : bb M A (letOwnedTupleGo g (.ref d) u) Q E s := by
  cases g <;> first
    | show aAc a
    | (cases u <;> first
        | show aAc a
        | (show aAa (wpAny_load b ?_)
           rw [e, f];change bb M A (if (["enumerate", "zip", "dict_itemiterator", "dict_reverseitemiterator", "odict_iterator", "itertools.zip_longest", "itertools.pairwise"].contains n && vs[0]? == some (dq _)) = true then _ else _) Q E s;rw [kd (by lia)];show aAc a))
def Itl(K:kn)(a:ba):It:=
 {λi H=>∃Y x,L7 K H a Y/\Y[i]?=some x,λi H x b=>b=H/\∀Y,L7 K H a Y->Y[i]?=some x,λi H=>∃Y,L7 K H a Y/\Y.length<=i}
def Itt(K:kn)(a:ba):It:=
 {λi H=>∃Y x,T5 K H a Y/\Y[i]?=some x,λi H x b=>b=H/\∀Y,T5 K H a Y->Y[i]?=some x,λi H=>∃Y,T5 K H a Y/\Y.length<=i}
def LW{P:be}{w:cf}{K:kn}{U:cq}(a g:ba):Turn P w K U (Itl K a) [g] g (λi h=>h.IsListIter g a i)where
 mem:=by simp
 obj:=λi h st b j=>by
  have e:b=g:=by simpa using j
  subst e;let{o,e,c,d}:=st;grind
 keep:=λi h q st k=>st.at λo e=>k g (by simp) o e
 item:=by intro X r t v Q i f s T H E I m st y;subst r t v;let{Y,x,n,z}:=y;let{A,B,p,hz}:=I.list n;let{u,hu,ru}:=B.get z;let{C,J,f2,L,N,O}:=m g (by simp);show wpAny_pyNext_list_item st p.isList (by simpa using hu) λq l sb=>?_;have I1:Inv X f T H {s with heap:=q}:=I.turned (t':=s.toks) (λb o j e=>(sb.2 b j).trans e) C J L N O;let{o,e,c,d}:=id l;show{u,rfl,RJ e c d (by decide) {x,H,I1,ru,{rfl,λys hy=>by rw[I.ab5 hy n];show z},l,λb j=>(m b j).1}}
 done:=by intro X r t v Q i f s T H E I m st y;subst r t v;let{Y,n,z}:=y;let{A,B,p,hz}:=I.list n;let{C,J,f2,L,N,O}:=m g (by simp);have hl:=B.length;show wpAny_pyNext_list_end (I.ok.hd Q) st p.isList (by simp;lia) λq eb=>{rfl,I.turned (t':=s.toks) (λb o j e=>eb b o j e) C J L N O}
 self:=λ_ _ _ _ _ st h=>wpAny_pyIter_listiter st h
def FA{P:be}{w:cf}{K:kn}{U:cq}(a g:ba):Turn P w K U (Itt K a) [g] g (λi h=>h.IsTupleIter g a i)where
 mem:=by simp
 obj:=λi h st b j=>by
  have e:b=g:=by simpa using j
  subst e;let{o,e,c,d}:=st;grind
 keep:=λi h m st k=>st.at λo e=>k g (by simp) o e
 item:=by intro X r t v Q i f s T H E I n st y;subst r t v;let{Y,x,q,z}:=y;let{A,B,p,hz}:=I.tuple q;let{u,hu,ru}:=B.get z;let{C,J,f2,L,N,O}:=n g (by simp);show wpAny_pyNext_tuple_item st (p) (x:=u) (by simpa using hu) λm l sb=>?_;have I1:Inv X f T H {s with heap:=m}:=I.turned (t':=s.toks) (λb o j e=>(sb.2 b j).trans e) C J L N O;let{o,e,c,d}:=id l;show{u,rfl,RJ (s:={s with heap:=m}) e c d (by decide) {x,H,I1,ru,{rfl,λys hy=>by rw[I.aa9 hy q];show z},l,λb j=>(n b j).1}}
 done:=by intro X r t v Q i f s T H E I n st y;subst r t v;let{Y,q,z}:=y;let{A,B,p,hz}:=I.tuple q;let{C,J,f2,L,N,O}:=n g (by simp);have hl:=B.length;show wpAny_pyNext_tuple_end (I.ok.hd Q) st (p) (by simp;lia) λm eb=>{rfl,I.turned (t':=s.toks) (λb o j e=>eb b o j e) C J L N O}
 self:=λ_ _ _ _ _ st h=>wpAny_pyIter_tupleiter st h
section
variable{X:Cx}{tg:cq}
def a7o(K:kn)(d:TE):TI:=λe H R=>d e H λx b=>∃a,x=.ref a/\(∃Y,L7 K b a Y)/\R (Itl K a) b
def b0s(K:kn)(d:TE):TI:=λe H R=>d e H λx b=>∃a,x=.ref a/\(∃Y,T5 K b a Y)/\R (Itt K a) b
def XY(i:PE X l j):PI X tg l (a7o X.K j):=by
 intro d s k H R I h;show D8 (i d s k H _ I h) λv f ⟨x,m,g,n,r⟩=>?_;let{a,e,{Y,t},q}:=r;subst e;cases n;let{u,y,p,z}:=g.list t;show aCz p.isList ({f.heap.objs.size,[f.heap.objs.size],_,_,m,rfl,g.kept (t':=f.toks) λb o e=>aAb _ e,LW a _,{_,aAg _ rfl,rfl,rfl},λb w=>?_,q});have e:b=f.heap.objs.size:=by simpa using w
 subst e;show g.af2 (aAh _) (g.hok.fresh<|aAh _)
def a1a{l:cq}{i:TE}(j:PE X l i):PI X tg l (b0s X.K i):=by
 intro d s k H R I h;show D8 (j d s k H _ I h) λv f ⟨x,m,g,n,r⟩=>?_;let{a,e,{Y,t},q}:=r;subst e;cases n;let{u,w,p,y}:=g.tuple t;show wpAny_pyIter_tuple (p) ({f.heap.objs.size,[f.heap.objs.size],_,_,m,rfl,g.kept (t':=f.toks) λb o e=>aAb _ e,FA a _,{_,aAg _ rfl,rfl,rfl},λb z=>?_,q});have e:b=f.heap.objs.size:=by grind
 subst e;show g.af2 (aAh _) (g.hok.fresh<|aAh _)
def a9d(f:TI)(g:TG)(tb:TS):TS:=λD a H=>f a H λJ h=>∃W:Nat->Nat->St->Hp->Prop,(∃m,W 0 m a h)/\∀i m a H,W i m a H->
 (J.stop i H/\D.nx a H)\/(J.go i H/\∃N:St->Hp->Prop,(∀d b,N d b->∃e,e<m/\W (i+1) e d b)/\∀x b,J.yld i H x b->g x a b λj k=>tb {D with nx:=N,ct:=N,bk:=D.nx} j k)
def tK(a:List ba)(h:ck):List (ba×Obj):=a.filterMap λb=>(h.get? b).map λo=>(b,o)
def cU(a:b∈d)(e:h.get? b=some o):(b,o)∈tK d h:=aBS.mpr {b,a,by rw[e];rfl}
def OV(a:p∈tK d h):p.1∈d/\h.get? p.1=some p.2:=by
 let{b,f,e}:=aBS.mp a;cases q:h.get? b with
 |none=>rw[q]at e;cases e
 |some o=>grind
def Inv.pinned(I:Inv X a i H s)(j:∀b∈f,pJ X a H b)(k:∀b∈f,∃o,s.heap.get? b=some o/\∀v,o.data≠.cell v):Inv X (a++tK f s.heap) i H s:=
 I.ad4 λp l=>(aAS.mp l).elim (λz=>I.pin p (aAx _ z)) λz=>by let{g,e}:=OV z;let{m,n,q,_}:=j p.1 g;let{o,h,d}:=k p.1 g;rw[e]at h;cases h;show{e,m,n,q,d}
def Inv.ab4(I:Inv X (a++e) b H s):Inv X a b H s:=I.ad4 λp d=>I.pin p (aAx _<|aBj _ d)
def a2m(B:PassesOwn (bc X.prog X.w) X.A X.env X.xe)(hc:X.calm=true)(hi:PI X tg iter wi)(hg:PG X tg g)(j:uW X body tb)(hs:∀x,ee iter X.env x=pure x:=by intro _;rfl):PS X (.For tg iter body [] pos) (a9d wi g tb):=by
 intro a s σ H D I h;show wpAny_For (D8 (hi a s σ H _ I h) λv s1 h1=>D8 h1 λitv s2 h2=>?_) hs;let{it,C,tn,J,H2,e,I2,T,ku,f2,W,{m0,w0},turn}:=h2;subst e;have k:∀{t:Hp},(∀b∈C,t b=none)->∀b∈C,pJ X a t b:=λhn b j=>{hn b j,(f2 b j).2};show codeAny_forLoop_any (λn s'=>∃i E t,Inv X a E t s'/\tn i s'.heap/\(∀b∈C,t b=none)/\W i n E t) ?_ m0 {0,σ,H2,I2,ku,λb j=>(f2 b j).1,w0};rintro n s3 ⟨i,L,Y,I3,O,Q,w3⟩;rcases turn i n L Y w3 with⟨stop,qn⟩|⟨go,N,hN,step⟩
 .show aDa B (D8 (T.done X rfl rfl rfl hc i a s3 L Y X.xe I3 (k Q) O stop) λr s4 ⟨hr,I4⟩=>?_);subst hr;show aEX {L,Y,I4,qn}
 show aDa B (D8 (T.item X rfl rfl rfl hc i a s3 L Y X.xe I3 (k Q) O go) λr s4 ⟨u,hr,h4⟩=>?_);subst hr;show aDa B (D8 h4 λ_ s5 ⟨x,H5,I5,r5,y5,z,fr5⟩=>?_);have I5':=I5.pinned (k fr5) (T.obj _ _ z);show aDa B (D8 (hg _ s5 L H5 x u _ I5' r5<|step x H5 y5) λ_ s6 ⟨σ6,H6,I6,q6⟩=>(aDa B<|D8 (j _ s6 σ6 H6 _ I6 q6) λf s7 y=>?_));have again:∀{l:St}{p:Hp},Inv X (a++tK C s5.heap) l p s7->N l p->∃m,m<n/\∃i E t,Inv X a E t s7/\tn i s7.heap/\(∀b∈C,t b=none)/\W i m E t:=λ{l p} q U=>by let{m',hm,w7}:=hN l p U;show{m',hm,i+1,l,p,q.ab4,T.keep _ _ _ z λb j o e=>(q.pin (b,o)<|aAx _<|aAx _<|cU j e).1,λb j=>?_,w7};let{o,e,d}:=T.obj _ _ z b j;show(q.pin (b,o)<|aAx _<|aAx _<|cU j e).2.1
 cases f with
 |next=>let{l,p,q,U}:=y;show again q U
 |cont=>let{l,p,q,U}:=y;show again q U
 |brk=>let{l,p,q,y}:=y;show{l,p,q.ab4,y}
 |ret v=>let{x7,l,p,q,r7,y}:=y;show{x7,l,p,q.ab4,r7,y}
end
abbrev R2:=V->V->Hp->VK->Prop
def lR(X:Cx)(f:au->au->Sem au)(r:R2):Prop:=
 ∀(a:P9) (s:aL) (b:St) (H:Hp) (x y:V) (v u:au) (Q:VK),Inv X a b H s->RelV x v->RelV y u->r x y H Q->
  bb (bc X.prog X.w) X.A (f v u) (EP X a b Q) X.xe s
def UnR(X:Cx)(f:au->Sem au)(r:V->Hp->VK->Prop):Prop:=
 ∀(a:P9) (s:aL) (b:St) (H:Hp) (x:V) (v:au) (Q:VK),Inv X a b H s->RelV x v->r x H Q->
  bb (bc X.prog X.w) X.A (f v) (EP X a b Q) X.xe s
def qR(X:Cx)(f:au)(r:List V->Hp->VK->Prop):Prop:=
 ∀(a:P9) (s:aL) (b:St) (H:Hp) (Y:List V) (d:List au) (Q:VK),Inv X a b H s->q9 Y d->r Y H Q->
  bb (bc X.prog X.w) X.A (call f d) (EP X a b Q) X.xe s
def tUn(r:V->Hp->VK->Prop)(a:TE):TE:=λb H Q=>a b H λx d=>r x d Q
def rI(C:Int->Int->Prop)(g:Int->Int->V):R2:=λx y H Q=>∃i j,x=.int i/\y=.int j/\C i j/\Q (g i j) H
def YD(g:Int->Int->V):R2:=λx y H Q=>∃i j,x=.int i/\y=.int j/\Q (g i j) H
def rU(g:Int->V):V->Hp->VK->Prop:=λx H Q=>∃i,x=.int i/\Q (g i) H
section
variable{X:Cx}{a b c:cq}{ta tb tc:TE}{pos:Pos}
def SH(k:PE X a ta)(l:PE X b tb){d:P9}{s:aL}{e:St}{H:Hp}{R:V->V->Hp->Prop}(I:Inv X d e H s)
  (h:ta e H λx j=>tb e j λy g=>R x y g) {Q:B6}{f:au->au->Sem au}
  (m:∀v u i x y g,Inv X d e g i->RelV x v->RelV y u->R x y g->bb (bc X.prog X.w) X.A (f v u) Q X.xe i):
  bb (bc X.prog X.w) X.A (dm a X.env) (λv n=>bb (bc X.prog X.w) X.A (dm b X.env) (λu o=>bb (bc X.prog X.w) X.A (f v u) Q X.xe o) X.xe n) X.xe s:=by
 show D8 (k d s e H _ I h) λv p ⟨x,j,q,r,t⟩=>?_;show D8 (l d p e j _ q t) λu i ⟨y,g,z,B,C⟩=>(m v u i x y g z r B C)
def a6x{r:V->Hp->VK->Prop}(f:UnR X (unaryOp op) r)(g:PE X a ta):PE X (.UnaryOp op a pos) (tUn r ta):=by intro d s e H Q I h;show UnaryOp_ (D8 (g d s e H _ I h) λv i ⟨x,j,k,l,m⟩=>f d i e j x v Q k l m)
def opI{f:au->au->Sem au}{C:Int->Int->Prop}{g:Int->Int->Int}
  (rule:∀(i j:Int) (t u:Tok) (s:aL) (Q:B6) (E:B6),C i j->Q (.int (g i j) s.toks) {s with toks:=s.toks+1}->bb (bc X.prog X.w) X.A (f (.int i t) (.int j u)) Q E s):
  lR X f (rI C λi j=>.int (g i j)):=by
 intro d s n H x y v u Q I e k h;let{i,j,rfl,rfl,l,q}:=h;let{t,rfl}:=e;let{m,rfl}:=k;show rule i j t m s _ _ l {.int (g i j),H,I.tok _,{_,rfl},q}
def a6o{f:au->au->Sem au}{g:Int->Int->Int}
  (rule:∀(i j:Int) (t u:Tok) (s:aL) (Q:B6) (E:B6),Q (.int (g i j) s.toks) {s with toks:=s.toks+1}->bb (bc X.prog X.w) X.A (f (.int i t) (.int j u)) Q E s):
  lR X f (YD λi j=>.int (g i j)):=by
 intro d s m H x y v u Q I e k h;let{i,j,rfl,rfl,q}:=h;let{t,rfl}:=e;let{l,rfl}:=k;show rule i j t l s _ _ {.int (g i j),H,I.tok _,{_,rfl},q}
def cz{f:au->au->Sem au}{g:Int->Int->Bool}
  (rule:∀(i j:Int) (t u:Tok) (s:aL) (Q:B6) (E:B6),Q (.bool (g i j)) s->bb (bc X.prog X.w) X.A (f (.int i t) (.int j u)) Q E s):
  lR X f (YD λi j=>.bl (g i j)):=by
 intro d s m H x y v u Q I e k h;let{i,j,rfl,rfl,q}:=h;let{t,rfl}:=e;let{l,rfl}:=k;show rule i j t l s _ _ {.bl (g i j),H,I,rfl,q}
def a9e(i j:Int):Prop:=0<=j/\j<=1000000/\i.natAbs<2^64
def a1b:lR X (eI .Add) (YD λi j=>.int (i+j)):=a6o λ_ _ _ _ _ _ _ q=>add_int q
def a3d:lR X (eI .Sub) (YD λi j=>.int (i-j)):=a6o λ_ _ _ _ _ _ _ q=>sub_int q
def YX:lR X (eI .Mod) (rI (λ_ j=>j≠0) λi j=>.int (i.fmod j)):=opI λ_ _ _ _ _ _ _ d q=>mod_int' d q
def a0l:lR X (eI .Pow) (rI a9e λi j=>.int (i^j.toNat)):=opI λ_ _ _ _ _ _ _ d q=>pow_int_small d.1 d.2.1 d.2.2 q
def unI{f:au->Sem au}{g:Int->Int}
  (rule:∀(i:Int) (t:Tok) (s:aL) (Q:B6) (E:B6),Q (.int (g i) s.toks) {s with toks:=s.toks+1}->bb (bc X.prog X.w) X.A (f (.int i t)) Q E s):
  UnR X f (rU λi=>.int (g i)):=by
 intro d s j H x v Q I e h;let{i,rfl,q}:=h;let{t,rfl}:=e;show rule i t s _ _ {.int (g i),H,I.tok _,{_,rfl},q}
def a2d:UnR X (unaryOp .USub) (rU λi=>.int (-i)):=unI λ_ _ _ _ _ q=>neg_int q
end
section
variable{X:Cx}{a b c:cq}{ta tb tc:TE}{pos:Pos}
def RO(I:Inv X d f H s)(q:Q (.bl k) H)(e:k=g):EP X d f Q (.bool g) s:=by subst e;show{.bl k,H,I,rfl,q}
def a4s:lR X (dI .Lt) (YD λi j=>.bl (decide (i<j))):=cz λ_ _ _ _ _ _ _ q=>lt_int q
def a7a:lR X (dI .LtE) (YD λi j=>.bl (decide (i<=j))):=cz λ_ _ _ _ _ _ _ q=>le_int q
def a7j:lR X (dI .Gt) (YD λi j=>.bl (decide (j<i))):=cz λ_ _ _ _ _ _ _ q=>gt_int q
def a5b:lR X (dI .GtE) (YD λi j=>.bl (decide (j<=i))):=cz λ_ _ _ _ _ _ _ q=>ge_int q
def a1u:lR X (dI .Is) (λx y H Q=>y=.non/\Q (.bl (decide (x=.non))) H):=by
 intro d s g H x y v u Q I e f h;let{rfl,q}:=h;cases f;show is_none_gen (RO I q ?_);cases x<;>first
  |(cases e;rfl)
  |(let{t,rfl}:=e;rfl)
def qx:lR X (dI .IsNot) (λx y H Q=>y=.non/\Q (.bl (!decide (x=.non))) H):=by
 intro d s g H x y v u Q I e f h;let{rfl,q}:=h;cases f;show isnot_none_gen (RO I q ?_);cases x<;>first
  |(cases e;rfl)
  |(let{t,rfl}:=e;rfl)
def UI(b:cq)(h:op≠.In:=by decide)(d:op≠.NotIn:=by decide):h9 op b=false:=by
 have e:(op==CmpOp.In)=false:=by cases op<;>first|rfl|show absurd rfl h
 have f:(op==CmpOp.NotIn)=false:=by cases op<;>first|rfl|show absurd rfl d
 cases b<;>simp[h9,e,f]
def EK:(sizeLine:Nat)<2^63:=by rw[aFN];decide
def vals1(r:q9 [x] d):∃u,d=[u]/\RelV x u:=by
 cases r with
 |cons e f=>cases f;show{_,rfl,e}
def vals2(r:q9 [x,y] e):∃u d,e=[u,d]/\RelV x u/\RelV y d:=by
 cases r with
 |cons f g=>
  cases g with
  |cons h i=>cases i;show{_,_,rfl,f,h}
def WN:qR X (.builtin "abs") (λY H Q=>∃i,Y=[.int i]/\Q (.int (if i<0 then-i else i)) H):=by intro d s e H Y f Q I r h;let{i,rfl,q}:=h;let{u,rfl,t,rfl}:=vals1 r;show call_abs_int λu g=>{.int (if i<0 then-i else i),H,I.tok _,{_,rfl},q}
end
section
variable{prog:be}{w:cf}{A:bM}{E:B6}{s:aL}{K:kn}{x dx C f:ba}{mA:eU}{name:Str}{v:au}
end
section
variable{P:be}{w:cf}{H H':Hp}{h h':ck}{a C dx:ba}{fs yc:List (Str×V)}
end
section
variable{X:Cx}{pins:P9}{σ:St}{H:Hp}{s:aL}{a C dx:ba}{fs:List (Str×V)}{f:Str}{v:V}{A:bM}{E:B6}
end
section
variable{X:Cx}{o e value:cq}{f:Str}{pos pos' tpos:Pos}{ta tv:TE}
end
section
variable{X:Cx}{pins:P9}{σ:St}{H:Hp}{s:aL}{A:bM}{E:B6}{Q:B6}{c:au}{b:Bool}
end
structure Room(k:Nat)(A:Around):Prop where
 hd:A.handled=none
 dp:A.depth+3*k+5<recursionLimit
 un:A.units+16*k+200<cLine
def Room.mono(r:Room k A)(h:j<=k):Room j A:={r.hd,by have:=r.dp;lia,by have:=r.un;lia}
def Room.deeper(r:Room (k+1) A)(env:Env):Room k (A.deeper env):=
 {r.hd,by have:=r.dp;change A.depth+1+3*k+5<_;lia,by have:=r.un;change A.units+3+16*k+200<_;lia}
def Room.depth(r:Room k A):A.depth<recursionLimit:=by have:=r.dp;lia
def Room.units(r:Room k A):A.units+64<cu:=by have:=r.un;lia
def b0g:TA:=λ_ H Q=>Q [] H
def a6m(b:TE)(tr:TA):TA:=λa H Q=>b a H λx d=>tr a d λY e=>Q (x::Y) e
section
variable{X:Cx}{e:cq}{es:List cq}{te:TE}{t:TA}{pos:Pos}
def bC:PA X [] b0g:=λ_ _ _ _ H Q I h=>aFJ {[],H,I,.nil,h}
def J6(d:PE X e te)(f:PA X es t)(g:a9 (e::es) X.env=(false,dm e X.env)::a9 es X.env:=by rfl):PA X (e::es) (a6m te t):=by intro pos a s b H Q I h;rw[g];change bb _ _ (spliced ((false,dm e X.env)::cy pos (a9 es X.env))) _ _ s;show aFq (D8 (d a s b H _ I h) λu i ⟨x,j,k,l,m⟩=>?_);show D8 (f pos a i b j _ k m) λr v ⟨Y,n,o,p,q⟩=>{x::Y,n,o,.cons l p,q}
def a8z(t:TA):TE:=λb H Q=>t b H λY a=>Y.length<=sizeLine/\∀p,a p=none->Q (.ref p) (upd a p<|.tup Y)
def a9l(t:TA):TE:=λb H Q=>t b H λY a=>Y.length<=sizeLine/\∀p,a p=none->Q (.ref p) (upd a p<|.lst Y)
def a2j{i}(h:PA X es t):PE X (.Tuple es i pos) (a8z t):=by intro a s j H Q I k;show wpAny_Tuple_spliced (D8 (h pos a s j H _ I k) λl d ⟨Y,f,g,r,z,q⟩=>{by rw[<-r.length];show z,?_});have m:f d.heap.objs.size=none:=g.hok.fresh (aAh _);show{.ref d.heap.objs.size,upd f d.heap.objs.size (.tup Y),g.laid (t':=d.toks) (λb u e=>aAb _ e) (aAh _) ?_,rfl,q _ m};show{z,l,r,{_,aAg _ rfl,rfl,_,rfl}}
def QP(h:PA X es t):PE X (.List es pos) (a9l t):=by intro a s i H Q I j;show wpAny_List_spliced (D8 (h pos a s i H _ I j) λk d ⟨Y,f,g,r,z,q⟩=>{by rw[<-r.length];show z,?_});have l:f d.heap.objs.size=none:=g.hok.fresh (aAh _);show{.ref d.heap.objs.size,upd f d.heap.objs.size (.lst Y),g.laid (t':=d.toks) (λb u e=>aAb _ e) (aAh _) ?_,rfl,q _ l};show{z,k,0,r,aAg _ rfl}
end
abbrev Sp:=List V->Hp->VK->XK->Prop
abbrev XM:=List Env->Hp->aL->XK->au->aL->Prop
structure Env0(P:Program)(w:World)(K:PySem.W.Frag)(mg:eU)(base:Heap)(A:Around)(outer:List Env)(s:Shared)(H:Hp):Prop where
 frames:A.frames=some outer
 mod:Mod K mg base
 bs:∀b o,base.get? b=some o->s.heap.get? b=some o/\H b=none
 bsz:base.objs.size<=s.heap.objs.size
 funs:s.heap.FunFrames base outer
 frf:∀b∈BM outer,H b=none
 hok:iR P w H s.heap
 bare:AllBare s.gens
def CE(a:List Env)(P:be)(w:cf)(H:Hp)(s:aL)(Q:VK)(u:au)(s':aL):Prop:=
 ∃v b,s'.os=s.os/\AllBare s'.gens/\Un (BM a) [] H b s.heap s'.heap/\iR P w b s'.heap/\RelV v u/\Q v b
def CR(b:XM)(a:List Env)(P:be)(w:cf)(H:Hp)(s:aL)(Q:VK)(E:XK)(r:Result)(s':aL):Prop:=
 match r with
 |.ok (.ret u)=>CE a P w H s Q u s'
 |.ok _=>False
 |.error e=>b a H s E e s'
structure FnOk(P:Program)(w:World)(K:PySem.W.Frag)(mg:eU)(base:Heap)(CX:XM)(k:Nat)(f:Addr)(fd:FuncData)(ps:List Str)(sp:Sp):Prop where
 len:∀vs H Q E,sp vs H Q E->vs.length=ps.length
 run:∀(A:Around) (outer:List Env) (s:Shared) (H:Hp) (args:Args) (us:List Value) (vs:List V) (Q:VK) (E:XK),Room k A->Env0 P w K mg base A outer s H->BindsTo s fd args (ps.zip us)->q9 vs us->sp vs H Q E->
  codeAny (model P w) A (.call (.ref f) args) (CR CX outer P w H s Q E) s
def FnOk.imp{P:be}{w:cf}{K:kn}{mg:eU}{base:ck}{e:XM}{k:Nat}{f:ba}{g:dV}{ps:List Str}{i b:Sp}(F:FnOk P w K mg base e k f g ps i)
  (h:∀vs H Q E,b vs H Q E->i vs H Q E):FnOk P w K mg base e k f g ps b:=
 {λvs H Q E q=>F.len vs H Q E (h _ _ _ _ q),λA a s H d j vs Q E l m n o p=>F.run A a s H d j vs Q E l m n o (h _ _ _ _ p)}
section
variable{X:Cx}{pins:P9}{σ:St}{H:Hp}{s s':aL}
def Inv.af6(I:Inv X pins σ H s):Env0 X.prog X.w X.K X.mg X.base X.A X.stack s H:=
 {I.ok.frames,I.ok.mod,I.bs,aAn I.ok.bsz I.sz,I.stack,I.ad7,I.hok,I.bare}
def Inv.after(I:Inv X pins σ H s)(h:CE X.stack X.prog X.w H s Q u s'):EP X pins σ Q u s':=by let{v,i,os,a,un,e,r,q}:=h;let{j,g,d,t,f}:=s';obtain rfl:f=s.os:=os;show{v,i,I.call (h':=j) (g':=g) (d':=d) (t':=t) un e a (λb z=>absurd z (by simp)),r,q}
end
def a5i(b:Sp)(a:List V)(E:XK)(t:TA):TE:=λd H Q=>t d H λe f=>b (e++a) f Q E
def Binds(K:kn)(a:dV)(ps:List Str)(ds:List au):Prop:=
 ∀(s:aL) (us:List au),K.In s.heap->(us++ds).length=ps.length->BindsTo s a {us,[]} (ps.zip<|us++ds)
def Binds.all{K:kn}{b:dV}{ps:List Str}(h:∀a:List au,a.length=ps.length->bindArgs b {a,[]}=pure (ps.zip a)):Binds K b ps []:=λs a _ d=>by rw[aBU]at d⊢;show .of_eq (h a d)
def HP(d:XM)(X:Cx)(E:XK):Prop:=∀(a:P9) (f:St) (H:Hp) (s:aL) (e:au) (b:aL),Inv X a f H s->d X.stack H s E e b->X.xe e b
section
variable{X:Cx}{CX:XM}{k:Nat}{f C:ba}{fd:dV}{ps:List Str}{sp:Sp}{dvs:List V}{ds:List au}{E:XK}{x m:Str}{p pos apos:Pos}{e o:cq}{es:List cq}{ta:TE}{t:TA}
def a0u(F:FnOk X.prog X.w X.K X.mg X.base CX k f fd ps sp)(j:Room k X.A)(l:Binds X.K fd ps ds)(n:q9 dvs ds)(q:HP CX X E)(I:Inv X a g H s)(r:q9 vs b)(h:sp (vs++dvs) H Q E):bb (bc X.prog X.w) X.A (call (.ref f) b) (EP X a g Q) X.xe s:=by
 have i:=r.append n;have v:(b++ds).length=ps.length:=by rw[<-i.length];show F.len _ _ _ _ h
 show wpAny_call (aDY (F.run X.A X.stack s H {b,[]} (b++ds) (vs++dvs) Q E j I.af6 (l s b I.kIn v) i h) λr y d=>?_);cases r with
 |error e=>show q a g H s e y I d
 |ok z=>
  cases z with
  |ret u=>show I.after d
  |next=>show aAv d
  |brk=>show aAv d
  |cont=>show aAv d
def yQ(F:FnOk X.prog X.w X.K X.mg X.base CX k f fd ps sp)(d:Room k X.A)(g:Gl X x)(i:X.mg x=some (.ref f))(j:PySem.W.keepIn X.K (.ref f)=true)(l:Binds X.K fd ps ds)(n:q9 dvs ds)(u:HP CX X E)
  (v:PA X (e::es) t) (y:(x==kM)=false:=by decide) (z:a9 (e::es) X.env=(false,dm e X.env)::a9 es X.env:=by rfl) (B:(cy pos (a9 es X.env)).any (·.1)=false:=by rfl):
  PE X (.Call (.Name x p) (e::es) [] pos) (a5i sp dvs E t):=by
 intro a s J H Q I h;show aAN (zD I g i ?_ y);show PySem.W.callWith_K I.ok.mod.kin j (D8 (v pos a s J H _ I h) λL N ⟨O,T,b,r,q⟩=>{b.kIn,(a0u F d l n u b r q)}) z B
structure Mk(K:PySem.W.Frag)(C f:Addr):Prop where
 makes:PySem.W.makesIn K C=true
 init:PySem.W.findIn K (.ref C) "__init__"=some (some (.ref f))
 fn:PySem.W.isFn K (.ref f)=true
 kp:PySem.W.keepIn K (.ref C)=true
end
section
variable{X:Cx}{CX:XM}{k:Nat}{f C:ba}{fd:dV}{ps ks:List Str}{sp:Sp}{E:XK}{x m:Str}{p pos apos kpos:Pos}{e o:cq}{es:List cq}{kws:List Keyword}{te ta:TE}{t tk:TA}{nm:Option Str}
variable{g:List au->List au->List au}{gV:List V->List V->List V}
end
structure FnScope(N P:List Str)(sc:Scope):Prop where
 kind:sc.kind=.function
 co:sc.isCoroutine=false
 gen:sc.isGenerator=false
 nd:N.Nodup
 pre:N.take P.length=P
 par:∀x∈P,sc.names.lookup x=some .local\/sc.names.lookup x=some .cell
 nofree:∀y∈sc.names,y.2≠.free
theorem wT{kindOf:Str->Option eQ}{x:Str}:∀{binds:List (Str×au)}{m:eU},(∀v,(x,v)∉binds)->bindL kindOf binds m x=m x
 |[],_,_=>rfl
 |(n,v)::r,m,h=>by
  unfold bindL;rw[wT λw a=>h w (aAe _ a)];split
  .grind
  rfl
theorem xC{kindOf:Str->Option eQ}{x:Str}:∀{binds:List (Str×au)}{m:eU},(∀v,(x,v)∉binds)->bindC kindOf binds m x=m x
 |[],_,_=>rfl
 |(n,v)::r,m,h=>by
  unfold bindC;rw[xC λw a=>h w (aAe _ a)];split
  .rfl
  grind
theorem xH{kindOf:Str->Option eQ}{x:Str}{v:au}:∀{P:List Str}{vs:List au}{i:Nat}{m:eU},P.Nodup->P[i]?=some x->vs[i]?=some v->kindOf x=some .local->
  bindL kindOf (P.zip vs) m x=some v
 |[],_,_,_,_,h,_,_=>by simp at h
 |_::_,[],_,_,_,_,h,_=>by simp at h
 |p::P,w::vs,0,m,b,d,a,e=>by simp at d a;subst d;subst a;change bindL kindOf ((p,w)::P.zip vs) m p=_;unfold bindL;rw[wT λv f=>(aAY.mp b).1 (aCB f).1,kc e];simp
 |p::P,w::vs,i+1,m,b,d,a,e=>by change bindL kindOf ((p,w)::P.zip vs) m x=_;unfold bindL;show xH (i:=i) (aAY.mp b).2 (by grind) (by simpa using a) e
theorem xI{kindOf:Str->Option eQ}{x:Str}{v:au}:∀{P:List Str}{vs:List au}{i:Nat}{m:eU},P.Nodup->P[i]?=some x->vs[i]?=some v->kindOf x≠some .local->
  bindC kindOf (P.zip vs) m x=some v
 |[],_,_,_,_,h,_,_=>by simp at h
 |_::_,[],_,_,_,_,h,_=>by simp at h
 |p::P,w::vs,0,m,a,b,d,e=>by simp at b d;subst b;subst d;change bindC kindOf ((p,w)::P.zip vs) m p=_;unfold bindC;rw[xC λv f=>(aAY.mp a).1 (aCB f).1,kd e];simp
 |p::P,w::vs,i+1,m,a,b,d,e=>by change bindC kindOf ((p,w)::P.zip vs) m x=_;unfold bindC;show xI (i:=i) (aAY.mp a).2 (by grind) (by grind) e
def start(N:List Str)(vs:List V):St:=vs.map some++aCT (N.length-vs.length) none
def OM(d:XM)(P:be)(w:cf)(K:kn)(mg:eU)(base:ck)(N:List Str)(qual:Str)(a:ik)(f:ba)(cd:au)(A:bM)(outer:List Env)(s:aL)(H:Hp)(E:XK):Cx where
 prog:=P
 w:=w
 K:=K
 mg:=mg
 base:=base
 A:=A.deeper (envOfC qual a s.heap.objs.size f cd)
 N:=N
 s9:=s
 H9:=H
 env:=envOfC qual a s.heap.objs.size f cd
 outer:=outer
 stack:=envOfC qual a s.heap.objs.size f cd::outer
 ex:=[]
 calm:=true
 fn:=λ_=>true
 pn:=[]
 xe:=λe g=>bb (bc P w) (A.deeper<|envOfC qual a s.heap.objs.size f cd) (leaving (envOfC qual a s.heap.objs.size f cd) e) (λ_ b=>d outer H s E e b) (λh b=>d outer H s E h b) g
def BE{sc:ik}{n:Nat}{x:Str}(h:sc.names.lookup x=some .cell):∃c,(d3 n sc.names []).lookup x=some c:=aFK.mp (PySem.W.cellsFrom_some sc.names n []<|.inl h)
def NA{I:XM}{P:be}{w:cf}{K:kn}{mg:eU}{base:ck}{N ps:List Str}{qual:Str}{a:ik}{f:ba}{cd:au}{A:bM}{d:List Env}{s J:aL}{H:Hp}{E:XK}{C:List au}{vs:List V}
  (S:FnScope N ps a) (Q:A.handled=none) (g:Env0 P w K mg base A d s H) (hl:vs.length=ps.length) (r:q9 vs C)
  (x:InCallC s s.heap.objs.size (bindL (envOfC qual a s.heap.objs.size f cd).kindOf (ps.zip C) λ_=>none) (d3 (s.heap.objs.size+1) a.names []) (bindC (envOfC qual a s.heap.objs.size f cd).kindOf (ps.zip C) λ_=>none) J):
  Inv (OM I P w K mg base N qual a f cd A d s H E) [] (start N vs) H J:=by
 have bo:ps.length<=N.length:=by have:=km aFM S.pre;rw[aCo]at this;lia
 let{B,tk,rfl,L}:=x.done;have j:∀b:ba,b∉(OM I P w K mg base N qual a f cd A d s H E).ex:=λb z=>absurd (show b∈([]:List ba)from z) (by simp);show⟨{g.mod,S.kind,rfl,rfl,aAh _,λy z c B m=>?_,λy l=>?_,λy c _ h=>?_,λ_=>Q,aGo g.frames,.inr {rfl,rfl},λb z=>absurd z (j b),g.bs,g.bsz,λb _ _=>j b,λb z=>absurd z (j b),g.funs,g.frf},
  rfl,g.bare,Un.kept L,{_,x.toInCall.ns,λi y v B m h3=>?_},λy c h=>{_,x.cell y c h},g.hok.fresh (aAh _),λy c h=>?_,λp o=>absurd (show p∈([]:P9)from o) (by simp),g.hok.kept L,?_⟩
 .show name_of_addr x.apart (PySem.mem_of_lookup B) (PySem.mem_of_lookup m)
 .have l:=l;rcases l with l|l
  .show BE l
  show absurd rfl (S.nofree _<|PySem.mem_of_lookup l)
 .show aDC (x.above y c<|PySem.mem_of_lookup h)
 .have T:i<vs.length:=by unfold start at m;grind
  have U:vs[i]?=some v:=by unfold start at m;rw[aAX (by simpa using T),aAH]at m;grind
  let{u,O,Y}:=r.get U;have o:ps[i]?=some y:=by rw[<-S.pre,List.getElem?_take_of_lt (by lia)];show B
  have t:ps.Nodup:=by rw[<-S.pre];show S.nd.sublist (aFG _ _)
  show{u,Y,?_};rcases S.par y (aAu o)with k|k
  .show .inl {k,xH t o O k}
  let{c,e}:=BE (n:=s.heap.objs.size+1) k;show .inr {.inl k,c,e,?_};have q:=x.cell y c e;rw[xI t o O (by change a.names.lookup y≠_;rw[k];decide)]at q;show q
 .show g.hok.fresh (aDC<|x.above y c<|PySem.mem_of_lookup h)
 unfold start;change _=N.length;rw[aAy,aAf,aCk]
 lia
def uq{B:XM}{P:be}{w:cf}{K:kn}{mg:eU}{base:ck}{k:Nat}{f:ba}{h qual:Str}{g:Arguments}{body:List cp}{a:ik}{Y kV j pm T ct oc:au}{an od:Option ba}
  {C:Array (Option au)}{N ps:List Str}{I:Sp} (lk:K.lookup f=some {oc,od,.func (PySem.W.fnOf h qual g body a Y kV j pm an T ct),C}) (eh:PySem.W.codeIn K T qual=true) (S:FnScope N ps a)
  (len:∀vs H Q E,I vs H Q E->vs.length=ps.length)
  (wc:∀(A:bM) (d:List Env) (s:aL) (H:Hp) (vs:List V) (Q:VK) (E:XK),Room k (A.deeper (envOfC qual a s.heap.objs.size f T))->I vs H Q E->
   ∃t,uW (OM B P w K mg base N qual a f T A d s H E) body t/\t {nx:=λ_ H'=>Q .non H',rt:=Q} (start N vs) H):
  FnOk P w K mg base B (k+1) f (PySem.W.fnOf h qual g body a Y kV j pm an T ct) ps I:=by
 show{len,λA d s H args us vs Q E L l hb r m=>?_};have hl:=len _ _ _ _ m;have KX:K.In s.heap:=l.mod.kin.keeps λb o e=>(l.bs b o e).1;have ou:∀y∈ps.zip us,a.names.lookup y.1=some .local\/(a.names.lookup y.1=some .cell/\((d3 (s.heap.objs.size+1) a.names []).lookup y.1).isSome=true):=λ⟨n,v⟩ hy=>by
  rcases S.par n (aCB hy).1 with q|q
  .show .inl q
  show .inr {q,PySem.W.cellsFrom_some _ _ _ (.inl q)}
 show codeAny_call_function L.depth (KX _ _ lk) rfl S.co S.gen rfl (PySem.W.codeRec_of KX eh) (hb _ _ _ _ ?_);show wpAny_newFunctionEnv_cells S.kind ou λenv he s1 x=>?_;subst he;show{(l.mod.nolimit.keeps λb o e=>(l.bs b o e).1).keeps x.toInCall.keep,codeAny_func ?_};let{t,ht,hq}:=wc A d s H vs Q E (L.deeper _) m;show aCy (ht [] s1 (start N vs) H _ (NA S L.hd l hl r x) hq) (λfl O i=>?_) λe O i=>i;have p:∀{z:St}{H':Hp}{v:V}{u:au},Inv (OM B P w K mg base N qual a f T A d s H E) [] z H' O->RelV v u->Q v H'->CE d P w H s Q u O:=
  λ{z H' v u} J U q=>{v,H',J.os,J.bare,J.base,J.hok,U,q}
 cases fl with
 |ret u=>let{v,z,H',J,U,q}:=i;show p J U q
 |next=>let{z,H',J,q}:=i;show p (v:=V.non) (u:=Value.none) J rfl q
 |brk=>let{_,_,_,q}:=i;show aAv q
 |cont=>let{_,_,_,q}:=i;show aAv q
section
variable{X:Cx}{x:Str}{p pos:Pos}{e:cq}{es:List cq}{t:TA}{id T:String}{r:List V->Hp->VK->Prop}
end
end L2
namespace HT
open PySem PyProof.Rows
def lexLt:List Int->List Int->Bool
 |[],[]=>false
 |[],_::_=>true
 |_::_,[]=>false
 |x::Y,y::a=>if x=y then lexLt Y a else decide (x<y)
def J2(x y:Int)(Y a:List Int):lexLt (x::Y) (y::a)=if x=y then lexLt Y a else decide (x<y):=rfl
def iS:lexLt [] []=false:=rfl
def O6(y:Int)(a:List Int):lexLt [] (y::a)=true:=rfl
def D5(x:Int)(Y:List Int):lexLt (x::Y) []=false:=rfl
def CV(A:bM)(s:aL)(a:Int)(t:Tok)(c:Int)(u:Tok):∃e,SeqAt.EqAt A s (.int a t) (.int c u) e/\(e=true↔a=c):=
 {(a==c),aFr a t c u,by simp}
def DZ(A:bM)(s:aL)(a:Int)(t:Tok)(c:Int)(u:Tok)(prog:be)(w:cf)(E:B6)(Q:B6)(h:Q (.bool (decide (a<c))) s):
  bb (bc prog w) A (richCompare .Lt (.int a t) (.int c u)) Q E s:=
 (PyProof.Rows.lt_int h:bb (bc prog w) A (dI .Lt (.int a t) (.int c u)) Q E s)
section
open PySem.SeqAt
open PySem.AutoSeq1 (wpAny_loadPart')
open PySem.MeetsSeq PySem.MeetsSeq2 PySem.MeetsSeq3
def vF(l b:ba)(items m:Array au)(n n2:Nat)(dd we:Option ba)(sl ui:Array (Option au))(ns z:List Int)(T:IntsAre items.toList ns)(U:IntsAre m.toList z):
  Meets (Builtin.«tuple.__lt__» {[.ref l,.ref b],[]})
   (λ_ R s=>s.heap.get? l=some {cls:=.type "tuple",dict:=dd,data:=.seq items n,slots:=sl}/\s.heap.get? b=some {cls:=.type "tuple",dict:=we,data:=.seq m n2,slots:=ui}/\
    R (.ok (.ret (.bool (lexLt ns z)))) s):=
 .of_wp λj w A R s h=>by
  let{B,g,d,C,os}:=s;let{hl,hb,h}:=h;have f2:=AutoSeq1.sub_tuple_tuple;have z1:items.size=ns.length:=by rw[<-T.length];simp
  have z2:m.size=z.length:=by rw[<-U.length];simp
  wp_walk using aEY hl,aEY hb,aCq _ (λrest b J=>b.1=none/\J={B,g,d,C,os}/\∃(E H:List au) (o p:List Int),rest=E.zip H/\
   IntsAre E o/\IntsAre H p/\o.length+m.size=p.length+items.size/\R (.ok (.ret (.bool (lexLt o p)))) {B,g,d,C,os}) _
  case turn=>
   rintro⟨y,x⟩ rest b J ⟨L,rfl,E,H,o,p,i,N,I,f,k⟩;cases N with
   |nil=>rw[List.zip_nil_left]at i;cases i
   |cons a t r=>
    cases I with
    |nil=>rw[List.zip_nil_right]at i;cases i
    |cons c u v=>
     rw[aDr]at i;injection i with O af;injection O with hy hx;subst hy hx;rw[J2]at k;erw[aAp]at f;let{e,he,Y}:=CV A.in1 {B,g,d,C,os} a t c u;show aAa (he j w _ _ ?_);cases e with
     |true=>
      rw[kc (Y.mp rfl)]at k
      wp_walk
      show{rfl,rfl,_,_,_,_,af,r,v,by lia,k}
     |false=>
      rw[kd (λq=>absurd (Y.mpr q) aBF)]at k;have Q:=DZ A.in1 {B,g,d,C,os} a t c u j w
      wp_walk using Q
      show{_,rfl,by simpa using k}
  case fin=>
   rintro⟨b1,b2⟩ J ⟨L,rfl,E,H,o,p,i,N,I,f,k⟩;simp only at L;subst L;have hv:lexLt o p=decide (items.size<m.size):=by
    cases N with
    |nil=>
     cases I with
     |nil=>erw[aBV]at f;rw[iS];show(decide_eq_false (by lia)).symm
     |cons c u hw=>erw[aBV,aAp]at f;rw[O6];show(decide_eq_true (by lia)).symm
    |cons a t hv=>
     cases I with
     |nil=>erw[aBV,aAp]at f;rw[D5];show(decide_eq_false (by lia)).symm
     |cons c u hw=>rw[aDr]at i;cases i
   rw[hv]at k
   wp_walk
   show{_,rfl,by simpa[Builtin.Tuple.tupleCompareSizes]using k}
  case h=>show{rfl,rfl,items.toList,m.toList,ns,z,rfl,T,U,by lia,h}
end
section
variable{prog:be}{w:cf}{A:bM}{E:B6}{s:aL}
def lt_tupInts{Q:B6}(p:IsTup s.heap l items)(q:IsTup s.heap b e)(r:IntsAre items.toList ns)(t:IntsAre e.toList d)(u:A.units<cu)(h:Q (.bool (lexLt ns d)) s):bb (bc prog w) A (dI .Lt (.ref l) (.ref b)) Q E s:=by
 let{{v,y,f,z},g,i,n,j}:=id p;let{{k,B,data2,C},m,o,H,a}:=id q;simp only at i j o a;subst i j o a;show richCompare_meets_room (op:=.Lt) {_,g,rfl} {_,m,rfl} PySem.F.slot_tuple_lt PySem.F.entry_tuple_lt (PySem.F.args_tuple_lt_2 _ _) (vF l b items e n H y B z C ns d r t)
  {g,m,show aDH (lexLt ns d)≠Value.notImplemented/\Q (.bool (lexLt ns d)) s from{(λx=>nomatch x),h}} u
def cat_tup{Q:B6}(u:IsTup s.heap t vs.toArray)(v:IsTup s.heap b ws.toArray)(h:vs≠[])(x:ws=[]->Q (.ref t) s)(y:ws≠[]->Q (.ref s.heap.objs.size) {s with heap:=s.heap.push {cls:=.type "tuple",data:=.seq (vs++ws).toArray}})(z:vs.length+ws.length<=sizeLine):bb (bc prog w) A (eI .Add (.ref t) (.ref b)) Q E s:=by
 let{{cls,i,data,j},d,k,n,l}:=id u;let{{m,o,data2,p},f,q,r,a}:=id v;simp only at k l q a;subst k l q a;have e:vs.toArray++ws.toArray=(vs++ws).toArray:=by simp
 by_cases g:ws=[]
 .show aGf {_,d,rfl} {_,f,rfl} aFT seq_tuple_add PySem.F.slot_tuple_add PySem.F.entry_tuple_add (PySem.F.args_tuple_add_2 _ _)
   (tuple_addW1 t b vs.toArray ws.toArray n r i o j p (by simpa using h) (by simp[g])) {d,f,x g}
 show aGf {_,d,rfl} {_,f,rfl} aFT seq_tuple_add PySem.F.slot_tuple_add PySem.F.entry_tuple_add (PySem.F.args_tuple_add_2 _ _)
  (tuple_addW2 t b vs.toArray ws.toArray n r i o j p (by simpa using h) (by simpa using g) (by simp_all)) {d,f,?_}
 rw[e];show y g
def sIx(n d:Nat):Option Int->Nat
 |none=>d
 |some v=>if v<0 then(v+(n:Int)).toNat else min v.toNat n
def a7r(n d:Nat):sIx n d none=d:=rfl
def sIx_nat(n d k:Nat):sIx n d (some (k:Int))=min k n:=by
 change(if(k:Int)<0 then((k:Int)+(n:Int)).toNat else min (k:Int).toNat n)=min k n
 lia
def a2c(n d:Nat)(a:d<=n)(o:Option Int):sIx n d o<=n:=by
 cases o with
 |none=>show a
 |some v=>
  change(if v<0 then(v+(n:Int)).toNat else min v.toNat n)<=n
  lia
def KW(v:Int)(n d:Nat):(if v<0 then max (v+(n:Int)) 0 else min v (n:Int))=((sIx n d (some v):Nat):Int):=by
 change(if v<0 then max (v+(n:Int)) 0 else min v (n:Int))=(((if v<0 then(v+(n:Int)).toNat else min v.toNat n):Nat):Int)
 lia
def IQ(lo a:Option Int)(n:Nat):aDP lo a 1 (n:Int)=(((sIx n 0 lo:Nat):Int),((sIx n n a:Nat):Int)):=by
 have b:¬((1:Int)<0):=by lia
 unfold aDP;show aDt ?_ ?_
 .cases lo with
  |none=>rfl
  |some v=>show KW v n 0
 cases a with
 |none=>rfl
 |some v=>show KW v n n
def HU(i j:Nat):aCU (i:Int) (j:Int) 1=j-i:=by
 unfold aCU
 lia
def rK{Q:Option Int->aL->Prop}(p:IsPart v o)(h:Q o s):bb (bc prog w) A (Builtin.Slice.slicePartIndex v) Q E s:=by
 cases p with
 |none=>show slicePart_none h
 |int i t=>show slicePart_int h
def lZ{sl:ba}{e f:au}{lo a:Option Int}{n:Nat}{Q:Int×Int×Nat->aL->Prop}(g:s.heap.IsSliceOf sl e f .none)(i:IsPart e lo)(j:IsPart f a)
  (h:Q (((sIx n 0 lo:Nat):Int),1,sIx n n a-sIx n 0 lo) s):bb (bc prog w) A (Builtin.Slice.sliceApplied (.ref sl) (pure (n:Int))) Q E s:=by
 let{os,b,k,d}:=id g;show aAa (aAa<|aBh b d (x:=e) rfl<|aAa<|aBh b d (x:=f) rfl<|aAa<|aBh b d (x:=.none) rfl<|aAc<|aAa<|slicePart_none ?_);show aAa (rK i<|aAa<|rK j<|aAa<|aAc ?_);change bb _ _ (match aDP lo a 1 (n:Int)with|(lo,a)=>pure (lo,(1:Int),aCU lo a 1)) _ _ s;rw[IQ lo a n];change bb _ _ (pure (((sIx n 0 lo:Nat):Int),(1:Int),aCU ((sIx n 0 lo:Nat):Int) ((sIx n n a:Nat):Int) 1)) _ _ s;rw[HU];show aAc h
def VE(Y:Array au)(i k:Nat):((aBd k).filterMap λ(m:Nat)=>Y[((i:Int)+(m:Int)*1).toNat]?).toArray=((Y.toList.drop i).take k).toArray:=by
 have e:(λ(m:Nat)=>Y[((i:Int)+(m:Int)*1).toNat]?)=λm=>Y[i+m]?:=by grind
 rw[e];have:=pick_run Y i k;rw[aEf]at this;have a:((λx=>Y[x]?)∘λx=>i+x)=λm=>Y[i+m]?:=rfl
 lia
def getItem_tuple_cut{t sl:ba}{items:Array au}{g i:au}{lo a:Option Int}{Q:B6}(b:IsTup s.heap t items)(j:s.heap.IsSliceOf sl g i .none)(k:IsPart g lo)(l:IsPart i a)
  (p:¬(sIx items.size 0 lo=0/\sIx items.size items.size a=items.size))
  (h:Q (.ref s.heap.objs.size) {s with heap:=s.heap.push {cls:=.type "tuple",data:=.seq ((items.toList.drop (sIx items.size 0 lo)).take (sIx items.size items.size a-sIx items.size 0 lo)).toArray}})
  (r:items.size<=sizeLine):bb (bc prog w) A (getItem (.ref t) (.ref sl)) Q E s:=by
 have d:sizeOk (.seq ((items.toList.drop<|sIx items.size 0 lo).take (sIx items.size items.size a-sIx items.size 0 lo)).toArray):=by change((items.toList.drop<|sIx items.size 0 lo).take (sIx items.size items.size a-sIx items.size 0 lo)).toArray.size<=sizeLine;grind
 have u:sIx items.size items.size a<=items.size:=a2c _ _ (aAh _) a;let{os,e,n,o}:=id j;unfold getItem;try with_reducible show aAG ?_
 first|show aAa (aAc ?_)|skip
 show aAa (wpAny_sequenceKey b.typeIs (by decide) ?_);show aAa (aAW b.typeIs aCw
  (aAF aCw b.typeIs entry_tuple_getitem ?_ (args_tuple_getitem _ _)))
 change bb _ _ (aDL (.ref t)>>=_) _ _ s;show aAa (tupleItemsOf_ b<|aAa<|aDe (⟨os,e,n⟩) ?_);rw[kc (by decide)];show aAa (lZ j k l ?_);have f:¬((((sIx items.size 0 lo:Nat):Int)==0&&(1:Int)==1&&(sIx items.size items.size a-sIx items.size 0 lo)==items.size)=true):=by intro q;rw[aAP,aAP]at q;have v:=eq_of_beq q.1.1;grind
 change bb _ _ (if(((sIx items.size 0 lo:Nat):Int)==0&&(1:Int)==1&&(sIx items.size items.size a-sIx items.size 0 lo)==items.size)=true then _ else _) _ _ s;rw[kd f,VE];first
  |show aAa (m:=aDb _) (aAA (aAc ⟨_,rfl,aAc h⟩) d)
  |show aAa (m:=aDb _) (aAA (aAa<|aAc<|aAc ⟨_,rfl,aAc h⟩) d)
  |show aAa (aAa (m:=aDb _)<|aAA (aAc<|aAc ⟨_,rfl,aAc h⟩) d)
  |show aAa (aAa (m:=aDb _)<|aAA (aAc ⟨_,rfl,aAc h⟩) d)
end
end HT
namespace L2
open PySem PySem.Spec PyProof.Rows
abbrev TO:=St->Hp->(Option Int->Hp->Prop)->Prop
def PO(X:Cx)(e:Option cq)(t:TO):Prop:=
 ∀(a:P9) (s:aL) (b:St) (H:Hp) (Q:Option Int->Hp->Prop),Inv X a b H s->t b H Q->
  bb (bc X.prog X.w) X.A (evalPart e X.env) (λu f=>∃o d,Inv X a b d f/\IsPart u o/\Q o d) X.xe s
def gj:TO:=λ_ H Q=>Q none H
def a5m(t:TE):TO:=λa H Q=>t a H λx b=>∃i,x=.int i/\Q (some i) b
section
variable{X:Cx}{e:cq}{te:TE}{lo hi:Option cq}{tl th:TO}{pos p2:Pos}
def YN:PO X none gj:=by intro a s b H Q I h;show aAc {none,H,I,.none,h}
def jq(h:PE X e te):PO X (some e) (a5m te):=by intro a s b H Q I d;show D8 (h a s b H _ I d) λu l ⟨x,f,g,j,k⟩=>?_;let{i,rfl,q}:=k;let{t,rfl}:=j;show{some i,f,g,.int i t,q}
def SlR(X:Cx)(r:V->Option Int->Option Int->Hp->VK->Prop):Prop:=
 ∀(a:P9) (s:aL) (b:St) (H:Hp) (x:V) (v d f:au) (lo hi:Option Int) (g:ba) (Q:VK),Inv X a b H s->RelV x v->s.heap.IsSliceOf g d f .none->IsPart d lo->IsPart f hi->r x lo hi H Q->
  ∃T id,ju (.type T) "__getitem__"=pure (some<|.builtin id)/\s.TypeIs v T/\bb (bc X.prog X.w) X.A (getItem v<|.ref g) (EP X a b Q) X.xe s
def SlR.or{r r':V->Option Int->Option Int->Hp->VK->Prop}(h:SlR X r)(h':SlR X r'):SlR X (λx lo hi H Q=>r x lo hi H Q\/r' x lo hi H Q):=by
 intro a s b H x v d f lo hi g Q I i j k l q;rcases q with q|q
 .show h a s b H x v d f lo hi g Q I i j k l q
 show h' a s b H x v d f lo hi g Q I i j k l q
def tSl(r:V->Option Int->Option Int->Hp->VK->Prop)(te:TE)(tl th:TO):TE:=λa H Q=>te a H λx b=>tl a b λl d=>th a d λu f=>r x l u f Q
def UK{r:V->Option Int->Option Int->Hp->VK->Prop}(k:SlR X r)(m:PE X e te)(n:PO X lo tl)(o:PO X hi th):PE X (.Subscript e (.Slice lo hi none p2) pos) (tSl r te tl th):=by intro a s f H Q I h;show Subscript_ (D8 (m a s f H _ I h) λv p ⟨x,t,w,y,z⟩=>(wpAny_Slice<|D8 (n a p f t _ w z) λg A ⟨l,B,C,E,J⟩=>D8 (o a A f B _ C J) λi d ⟨u,j,L,N,O⟩=>?_));show aAc ?_;have U:Inv X a f j {d with heap:=d.heap.push {cls:=.type "slice",data:=.fields #[g,i,.none]}}:=L.kept (t':=d.toks) λb ob q=>aAb _ q;let{T,id,Y,ht,hg}:=k a {d with heap:=d.heap.push {cls:=.type "slice",data:=.fields #[g,i,.none]}} f j x v g i l u d.heap.objs.size Q U y (Heap.IsSliceOf.new ..) E N O;show tail_any ht Y hg (by with_unfolding_all rfl)
def OR(Y:List V)(lo hi:Option Int):List V:=(Y.drop<|HT.sIx Y.length 0 lo).take (HT.sIx Y.length Y.length hi-HT.sIx Y.length 0 lo)
def oF(Y:List V)(lo hi:Option Int):(OR Y lo hi).length<=Y.length:=by
 unfold OR;rw[aCo,aEH]
 lia
def a6y(K:kn):V->Option Int->Option Int->Hp->VK->Prop:=λx lo hi H Q=>∃a Y,x=.ref a/\T5 K H a Y/\
 ¬(HT.sIx Y.length 0 lo=0/\HT.sIx Y.length Y.length hi=Y.length)/\∀p,H p=none->Q (.ref p) (upd H p<|.tup (OR Y lo hi))
def a3w:SlR X (a6y X.K):=by
 intro g s t H x v u w lo hi y Q I k l m n h;let{a,Y,rfl,o,p,q}:=h;cases k;let{f,r,i,j}:=I.tuple o;have d:f.toArray.size=Y.length:=by rw[aAO];show r.length.symm
 show{"tuple",_,aCw.lookup,i.typeIs,(HT.getItem_tuple_cut i l m n (d▸p) ?_ (d▸j))};rw[d];show{.ref s.heap.objs.size,_,I.laid (t':=s.toks) (λb z q=>aAb _ q) (aAh _) ?_,rfl,q _ (I.hok.fresh<|aAh _)};show{aAn (oF Y lo hi) j,_,(r.drop<|HT.sIx Y.length 0 lo).take (HT.sIx Y.length Y.length hi-HT.sIx Y.length 0 lo),IsTup.new _ _}
def a6d(K:kn):R2:=λx y H Q=>∃a b Y d,x=.ref a/\y=.ref b/\T5 K H a Y/\T5 K H b d/\Y≠[]/\Y.length+d.length<=sizeLine/\
 (d=[]->Q (.ref a) H)/\(d≠[]->∀p,H p=none->Q (.ref p) (upd H p<|.tup (Y++d)))
def q9.ac6(r:q9 Y a):a=[]↔Y=[]:=by
 cases r with
 |nil=>simp
 |cons _ _=>simp
def KB:lR X (eI .Add) (a6d X.K):=by intro g s A H x y v u Q I j k h;let{a,b,Y,B,rfl,rfl,l,m,n,i,o,p}:=h;cases j;cases k;let{r,f,t,_}:=I.tuple l;let{C,d,p2,_}:=I.tuple m;show HT.cat_tup t p2 (λz=>n (f.ac6.mp z)) (λz=>{.ref a,H,I,rfl,o (d.ac6.mp z)}) (λz=>({.ref s.heap.objs.size,_,I.laid (t':=s.toks) (λb E q=>aAb _ q) (aAh _) ?_,rfl,p (λw=>z (d.ac6.mpr w)) _ (I.hok.fresh<|aAh _)})) (f.length▸d.length▸i);show{by rw[aAy];show i,_,f.append d,IsTup.new _ _}
end
def ixN(n:Nat)(i:Int):Option Nat:=if 0<=i then(if i<n then some i.toNat else none)else if-(n:Int)<=i then some (i+n).toNat else none
def uS{a:Type}(Y:List a)(i:Int):Option a:=(ixN Y.length i).bind λj=>Y[j]?
def fj(h:ixN n i=some j):seqIndex? i n=some j/\j<n/\-(n:Int)<=i/\i<n:=by
 unfold ixN at h;by_cases b:0<=i
 .rw[kc b]at h;by_cases a:i<n
  .rw[kc a]at h;have e:i.toNat=j:=Option.some.inj h;show{by rw[seqIndex_of b a,e],by lia,by lia,a}
  rw[kd a]at h;cases h
 rw[kd b]at h;by_cases a:-(n:Int)<=i
 .rw[kc a]at h;show{by rw[seqIndex_neg (by lia) a,(Option.some.inj h)],by lia,a,by lia}
 rw[kd a]at h;cases h
def JF{a:Type}{Y:List a}{i:Int}{v:a}(h:uS Y i=some v):∃j,seqIndex? i Y.length=some j/\Y[j]?=some v/\j<Y.length/\-(Y.length:Int)<=i/\i<Y.length:=by
 unfold uS at h;cases e:ixN Y.length i with
 |none=>simp_all
 |some j=>rw[e]at h;let{b,d,f,g}:=fj e;show{j,b,h,d,f,g}
def qj(b:cq):Prop:=∀o i,subscripted b false o i=operate [o,i] (getItem o i)
def IxR(X:Cx)(r:R2):Prop:=
 ∀(d a:cq) (b:P9) (s:aL) (e:St) (H:Hp) (x y:V) (v u:au) (Q:VK),Inv X b e H s->RelV x v->RelV y u->r x y H Q->
  subscripted a false v u=operate [v,u] (getItem v u)->bb (bc X.prog X.w) X.A (subscriptTail d a v u) (EP X b e Q) X.xe s
def MtR(X:Cx)(id:String)(r:V->List V->Hp->VK->Prop):Prop:=
 ∀(a:P9) (s:aL) (b:St) (H:Hp) (x:V) (Y:List V) (v:au) (d:List au) (Q:VK),Inv X a b H s->RelV x v->q9 Y d->r x Y H Q->
  bb (bc X.prog X.w) X.A (call (.builtin id) (v::d)) (EP X a b Q) X.xe s
section
variable{X:Cx}{a b:cq}{ta tb:TE}{pos:Pos}
def b0c(K:kn):R2:=λx y H Q=>∃p Y i v,x=.ref p/\y=.int i/\L7 K H p Y/\uS Y i=some v/\Q v H
def b0l(K:kn):R2:=λx y H Q=>∃p Y i v,x=.ref p/\y=.int i/\T5 K H p Y/\uS Y i=some v/\Q v H
def YG:IxR X (b0c X.K):=by
 intro f g d s C H x y v u Q I E J h o;let{p,Y,i,z,rfl,rfl,L,N,q}:=h;cases E;let{t,rfl}:=J;let{k,r,l,hz}:=I.list L;let{j,m,O,h3,T,U}:=JF N;let{w,A,za}:=r.get O;have hl:=r.length;have hn:=EK;have e:EP X d C Q w s:={z,H,I,za,q};by_cases B:0<=i
 .have n:i.toNat=j:=by rw[seqIndex_of B U]at m;show Option.some.inj m
  show item_listR l.isList B (by lia) (by rw[n];simpa using A) e o
 have n:(i+(k.toArray.size:Int)).toNat=j:=by
  rw[seqIndex_neg (by lia) T]at m
  simp_all
 show subscriptTail_builtinR (x:=w) l.isList.typeIs slot_list_getitem.lookup
  (wpAny_getItem_list_neg l.isList (by lia) (by grind) (by lia) (by rw[n];simpa using A) {rfl,e}) o
def a2q:IxR X (b0l X.K):=by
 intro e f d s l H x y v u Q I m n h o;let{p,Y,i,z,rfl,rfl,A,B,q}:=h;cases m;let{t,rfl}:=n;let{C,r,k,N}:=I.tuple A;let{j,O,E,T,U,h5}:=JF B;let{w,J,L}:=r.get E;have hl:=r.length;have hn:=EK;have g:EP X d l Q w s:={z,H,I,L,q};show subscriptTail_builtinR k.typeIs aCw.lookup
  (getItem_tuple (j:=j) k (by lia) (by lia) (by simp_all) (by simpa using J) {rfl,g}) o
def yZ(lo d:Option Int)(n:Nat):(gg lo d none n).1=((HT.sIx n 0 lo:Nat):Int)/\(gg lo d none n).2.1=((HT.sIx n n d:Nat):Int)/\(gg lo d none n).2.2=1:=by
 show{?_,?_,rfl}
 .cases lo with
  |none=>simp[gg,HT.sIx]
  |some i=>
   erw[gg,HT.sIx,Option.getD_none,show(1:Int)>0 by decide,if_true];by_cases h:i<0
   .erw[h,if_true]<;>lia
   erw[h,if_false]<;>lia
 cases d with
 |none=>simp[gg,HT.sIx]
 |some i=>erw[gg,HT.sIx,Option.getD_none,show(1:Int)>0 by decide,if_true];grind
def vM(its:List au)(lo d:Option Int):slicePick its.toArray lo d none=((its.drop (HT.sIx its.length 0 lo)).take (HT.sIx its.length its.length d-HT.sIx its.length 0 lo)).toArray:=by let{e,f,g}:=yZ lo d its.toArray.size;unfold slicePick;rw[e,f,g];erw[sliceRange_one,pick_run]<;>rfl
def a5h(K:kn):V->Option Int->Option Int->Hp->VK->Prop:=λx lo d H Q=>∃a Y,x=.ref a/\L7 K H a Y/\∀p,H p=none->Q (.ref p) (upd H p<|.lst (OR Y lo d))
def pz:SlR X (a5h X.K):=by intro d s o H x v p t lo e u Q I g i j k h;let{a,Y,rfl,l,q}:=h;cases g;let{m,r,f,n}:=I.list l;have hlen:=r.length;show{"list",_,slot_list_getitem.lookup,f.isList.typeIs,(wpAny_getItem_list_slice f.isList i j k .none (by simp) ?_ (by simp_all))};rw[vM,<-hlen];show{.ref s.heap.objs.size,_,I.laid (t':=s.toks) (λb w q=>aAb _ q) (aAh _) ?_,rfl,q _ (I.hok.fresh<|aAh _)};show{aAn (oF Y lo e) n,_,0,(r.drop<|HT.sIx Y.length 0 lo).take (HT.sIx Y.length Y.length e-HT.sIx Y.length 0 lo),aAg _ rfl}
def a6v:V->Bool
 |.non=>true
 |.bl _=>true
 |.int _=>true
 |.str _=>true
 |_=>false
def kY:qR X (.builtin "len") (λY H Q=>∃p e,Y=[.ref p]/\(L7 X.K H p e\/T5 X.K H p e)/\Q (.int e.length) H):=by
 intro k s n H Y o Q I r h;let{p,e,rfl,f,q}:=h;let{u,rfl,l}:=vals1 r;cases l;have t:=EK;rcases f with f|f
 .let{g,i,j,m}:=I.list f;have d:=i.length;show Calls.call_len_list j.isList (by erw[aAO]<;>lia) {.int e.length,H,I.tok _,{s.toks+1,by rw[aAO,d]},q}
 let{g,i,j,m}:=I.tuple f;have d:=i.length;show len_tuple j (by grind) {.int e.length,H,I.tok _,{s.toks+1,by rw[aAO,d]},q}
def jY:qR X (.type "list") (λY H Q=>∃p g,Y=[.ref p]/\(L7 X.K H p g\/T5 X.K H p g)/\∀l,H l=none->Q (.ref l) (upd H l (.lst g))):=by
 intro k s J H Y N Q I r h;let{p,g,rfl,m,q}:=h;let{u,rfl,L}:=vals1 r;cases L;have t:∀(d:List au),q9 g d->g.length<=sizeLine->∀(f:ck) (i:Nat),(∀b E,s.heap.get? b=some E->f.get? b=some E)->
   f.get? s.heap.objs.size=some {cls:=.type "list",dict:=none,data:=.seq d.toArray i,slots:=#[]}->EP X k J Q (.ref s.heap.objs.size) {s with heap:=f}:=λd j v f i x e=>
  {.ref s.heap.objs.size,_,I.laid (t':=s.toks) x (aAh _) (show ObjOk X.prog X.w _ f _ (.lst g)from{v,d,i,j,e}),rfl,q _ (I.hok.fresh<|aAh _)}
 rcases m with m|m
 .let{d,j,z,v}:=I.list m;have y:=j.length;let{o,A,B,n,C}:=z.isList;show call_list_seq p (.inl rfl) A B C (λf i x e=>t d j v f i x e) (by simp_all)
 let{d,j,z,v}:=I.tuple m;have y:=j.length;let{o,A,B,n,C}:=z;show call_list_seq p (.inr rfl) A B C (λf i x e=>t d j v f i x e) (by grind)
def iT:qR X (.type "tuple") (λY H Q=>∃p g,Y=[.ref p]/\((L7 X.K H p g/\∀l,H l=none->Q (.ref l) (upd H l (.tup g)))\/(T5 X.K H p g/\Q (.ref p) H))):=by
 intro d s n H Y A Q I r h;let{p,g,rfl,h}:=h;let{u,rfl,x}:=vals1 r;cases x;rcases h with⟨j,q⟩|⟨j,q⟩
 .let{f,k,m,t}:=I.list j;have v:=k.length;show call_tuple_list m.isList (λi y=>?_) (by grind);have w:Inv X d n H {s with heap:=i}:=I.kept (t':=s.toks) y;have z:Inv X d n (upd H i.objs.size<|.tup g) {s with heap:=i.push {cls:=.type "tuple",data:=.seq f.toArray}}:=
   w.laid (t':=s.toks) (λb o e=>aAb _ e) (aAh _) ({t,f,k,IsTup.new _ _})
  show{.ref i.objs.size,_,z,rfl,q _ (w.hok.fresh<|aAh _)}
 let{f,k,m,t}:=I.tuple j;show call_tuple_same m {.ref p,H,I,rfl,q}
def tyV(K : kn) (T : String) (x : V) (H : Hp) : Prop := match x with
  | .str _ => T = "str"
  | .int _ => T = "int"
  | .ref p => (T = "list" ∧ ∃ Y, L7 K H p Y) ∨ (T = "tuple" ∧ ∃ o, K.lookup p = some o ∧ o.cls = .type "tuple" ∧ o.dict = none) ∨
      (T = "dict" ∧ ((∃ N, H p = some (.dK N)) ∨ ∃ N, H p = some (.dT N))) ∨ (T = "set" ∧ ∃ S n, H p = some (.set S n))
  | _ => False
def WP(I:Inv X k y H s)(r:RelV x v)(g:tyV X.K T x H):
  s.TypeIs v T/\∀a,v=.ref a->∃l,s.heap.get? a=some l/\l.dict=none:=by
 cases x with
 |str z=>let{t,rfl}:=r;cases(show T= "str"from g);show{typeIs_str s z t,λ_ e=>nomatch e}
 |int i=>let{t,rfl}:=r;cases(show T= "int"from g);show{typeIs_int s i t,λ_ e=>nomatch e}
 |ref p=>
  cases r;rcases g with⟨rfl,Y,q⟩|⟨rfl,o,d,u,h⟩|⟨rfl,d⟩|⟨rfl,S,n,d⟩
  .let{w,_,m,_}:=I.list q;show{m.isList.typeIs,λa e=>?_};cases e;let{o,n,e,c,h,_}:=m;show{o,e,h}
  .show{{o,I.kIn p o d,u},λa e=>?_};cases e;show{o,I.kIn _ o d,h}
  .have z:∃o,s.heap.get? p=some o/\o.ExactDict:=by
    rcases d with⟨N,d⟩|⟨N,d⟩
    .let{_,_,_,_,o,_,_,e,f,_}:=I.hok p _ d;show{o,e,f}
    let{_,_,_,_,o,_,_,e,f,_}:=I.hok p _ d;show{o,e,f}
   let{o,e,f}:=z;show{{o,e,f.1},λa j=>?_};cases j;show{o,e,f.2.1}
  let{o,_,_,_,e,f,_}:=I.hok p _ d;show{{o,e,f.1},λa j=>?_};cases j;show{o,e,f.2.1}
 |_=>show aAv g
def a9y(K:kn)(T:String)(r:V->List V->Hp->VK->Prop)(e:TE):TE:=λf H Q=>e f H λx d=>tyV K T x d/\r x [] d Q
def tBM(K:kn)(T:String)(r:V->List V->Hp->VK->Prop)(f:TE)(t:TA):TE:=λd H Q=>f d H λx e=>tyV K T x e/\t d e λY g=>r x Y g Q
variable{o e:cq}{es:List cq}{to:TE}{t:TA}{name:Str}{apos ah:Pos}{T id:String}{r:V->List V->Hp->VK->Prop}
def GM(k:PlainAttrs T)(slot:Slot T name id)(f:typeOf (.builtin id)=pure (.type "method_descriptor"))(l:MtR X id r)(m:PE X o to)
  (n:eR o name X.env (dm o X.env)=dm o X.env:=by rfl) (p:(apos.endLine==ah.line)=true:=by rfl):PE X (.Call (.Attribute o name apos) [] [] ah) (a9y X.K T r to):=by
 intro d s g H Q I h;show wpAny_Call_method0_late n p (D8 (m d s g H _ I h) λv q ⟨x,u,i,j,w,y⟩=>?_);let{z,A}:=WP i j w;show{T,id,k,slot,f,z,A,aEn rfl (PySem.evalArgs_none<|l d q g u x [] v [] Q i j .nil y)}
def a0a(l:PlainAttrs T)(slot:Slot T name id)(f:typeOf (.builtin id)=pure (.type "method_descriptor"))(m:MtR X id r)(n:PE X o to)(p:PA X (e::es) t)
  (q:eR o name X.env (dm o X.env)=dm o X.env:=by rfl)
  (u:((cy ah (a9 (e::es) X.env)).all (λx=>!x.1)&&(backToKw ah (keywordEach [] X.env)).all (λx=>x.1.isSome)
   &&decide ((e::es).length+([]:List Keyword).length+(if([]:List Keyword).isEmpty then 0 else 1)<30))=true:=by rfl)
  (w:(apos.endLine==ah.line)=true:=by rfl) (y:a9 (e::es) X.env=(false,dm e X.env)::a9 es X.env:=by rfl) (z:(cy ah (a9 es X.env)).any (·.1)=false:=by rfl):
  PE X (.Call (.Attribute o name apos) (e::es) [] ah) (tBM X.K T r to t):=by
 intro d s g H Q I h;show wpAny_Call_method_late q u w rfl (D8 (n d s g H _ I h) λv A ⟨x,B,i,j,C,E⟩=>?_);let{J,L}:=WP i j C;show{T,id,l,slot,f,J,L,?_};have k:=p ah d A g B _ i E;rw[y]at k⊢;show aEn (by change(false||(cy ah<|a9 es X.env).any (·.1))=false;rw[z]<;>rfl) (Calls.evalArgs_plain<|D8 k λN O ⟨U,Y,I2,r2,q2⟩=>m d O g Y x U v N Q I2 j r2 q2)
end
def MtM(X:Cx)(id:String)(r:V->List V->Hp->VK->Prop):Prop:=
 ∀(a:P9) (s:aL) (b:St) (H:Hp) (x:V) (Y:List V) (v:au) (d:List au) (Q:VK),Inv X a b H s->RelV x v->q9 Y d->r x Y H Q->
  bb (bc X.prog X.w) X.A (call (.builtin id) (v::d)) (EP X a b Q) X.xe s
theorem q9.one:∀{x:V}{a:List au},q9 [x] a->∃u,a=[u]/\RelV x u
 |_,_,.cons r .nil=>{_,rfl,r}
theorem q9.zero:∀{a:List au},q9 [] a->a=[]
 |_,.nil=>rfl
def q9.dropLast(h:q9 Y a):q9 Y.dropLast a.dropLast:=by
 induction h with
 |nil=>show .nil
 |cons r t b=>
  cases t with
  |nil=>show .nil
  |cons q d=>show .cons r b
section
variable{X:Cx}{pins:P9}{σ:St}{H:Hp}{s:aL}{l b:ba}{Y ys zs:List V}
def Inv.af3{its its':List au}{n:Nat}{f:Array au->Array au}{t':Nat}(I:Inv X pins σ H s)(a:H l=some (.lst Y))
  (e:s.heap.get? l=some {cls:=.type "list",data:=.seq its.toArray n}) (d:f its.toArray=its'.toArray) (g:q9 ys its') (hz:ys.length<=sizeLine):
  Inv X pins σ (upd H l (.lst ys)) {s with heap:=s.heap.update l (aBY f),toks:=t'}:=by
 have q:=PySem.IsL.update e f;rw[d]at q;show I.write (a▸trivial) (.inl rfl) (λj u h i=>(aAD s.heap (aBY f)<|aCF h).trans i) {_,q} ?_;show{hz,its',_,g,q}
def Inv.ag6(I:Inv X pins σ H s)(a:q9 ys its)(hz:ys.length<=sizeLine):
  Inv X pins σ (upd H s.heap.objs.size (.lst ys)) {s with heap:=s.heap.push {cls:=.type "list",data:=.seq its.toArray},toks:=t'}:=
 I.laid (λ_ _ q=>aAb _ q) (aAh _) {hz,its,0,a,aAg _ rfl}
def Inv.fresh(I:Inv X pins σ H s):H s.heap.objs.size=none:=I.hok.fresh (aAh _)
def Inv.af0(I:Inv X pins σ H s)(a:H l=some (.lst Y)):Y.length<=sizeLine/\∃(its:List au) (n:Nat),q9 Y its/\Y.length=its.length/\s.heap.get? l=some {cls:=.type "list",data:=.seq its.toArray n}:=by let{z,its,n,r,e}:=I.hok l _ a;show{z,its,n,r,r.length,e}
def QD(h:n<=sizeLine):aDc n=false:=by
 unfold aDc
 lia
end
section
variable{X:Cx}
def fx:V->List V->Hp->VK->Prop:=λx a H Q=>∃l Y y,x=.ref l/\a=[y]/\H l=some (.lst Y)/\Y.length<sizeLine/\Q .non (upd H l<|.lst (Y++[y]))
def wV:MtM X "list.append" fx:=by intro b s j H x k v m Q I f g h;let{l,Y,y,rfl,rfl,d,o,q}:=h;cases f;let{u,rfl,i}:=g.one;let{z,a,n,r,p,e}:=I.af0 d;show aGk F.slot_list_append {_,e,rfl} F.entry_list_append (F.args_list_append_2 _ _) (PySem.list_append l a.toArray n u (by simp_all)) {e,({.non,_,I.af3 (its':=a++[u]) d e (by simp) (r.append<|.cons i .nil) ?_,rfl,q})};grind
def b0e:V->List V->Hp->VK->Prop:=λx a H Q=>∃l Y y,x=.ref l/\a=[]/\H l=some (.lst Y)/\Y[Y.length-1]?=some y/\Q y (upd H l<|.lst Y.dropLast)
def SW:MtM X "list.pop" b0e:=by
 intro f s o H x p v t Q I i j h;let{l,Y,y,rfl,rfl,g,k,q}:=h;cases i;have b:=j.zero;subst b;let{z,a,n,r,w,e}:=I.af0 g;let{u,A,m}:=r.get k;have d:a.toArray[a.toArray.size-1]?=some u:=by grind
 show aGk F.slot_list_pop {_,e,rfl} F.entry_list_pop (F.args_list_pop_1 _) (MeetsSeq.list_pop_last l a.toArray n u d (by simp_all)) {e,({y,_,I.af3 (its':=a.dropLast) g e ?_ r.dropLast ?_,m,q})}
 .grind
 grind
def a3e:V->List V->Hp->VK->Prop:=λx a H Q=>∃l Y,x=.ref l/\a=[]/\H l=some (.lst Y)/\Q .non (upd H l<|.lst [])
def RB:MtM X "list.clear" a3e:=by intro d s j H x k v m Q I g i h;let{l,Y,rfl,rfl,f,q}:=h;cases g;have a:=i.zero;subst a;let{z,b,n,r,o,e}:=I.af0 f;show aGk F.slot_list_clear {_,e,rfl} F.entry_list_clear (F.args_list_clear_1 _) (AutoSeq1.list_clear_list_0 l b.toArray n (by simp_all)) {e,?_};show{.non,_,I.af3 (its':=[]) f e rfl .nil (aAQ _),rfl,q}
end
section
variable{prog:be}{w:cf}{A:bM}{E:B6}{s:aL}
end
section
variable{X:Cx}
end
end L2
namespace Att
open PySem PySem.W PySem.Calls PyProof.Rows
def pL:∀(ns:List Int) (vs:List au),WellAll P h vs (ns.map WData.int)->IntsAre vs ns:=by
 intro ns;induction ns with
 |nil=>intro vs w;rw[aEF]at w;cases w;show .nil
 |cons n ns d=>
  intro vs w;rw[aAm]at w;cases w with
  |cons a b=>cases a;show .cons _ _ (d _ b)
def script_of{l:OpenLaw}{n:Nat}(k:l.most=some n){P:Params}{h:ck}{args:List WData}{b:List au}
  (i:l.row.toRowW.claim.pre args=true) (m:WellAll P h b args):
  ∃a vs ns,b=[aCL a]/\args=[WData.list (ns.map WData.int)]/\h.get? a=some {cls:=.type "list",data:=.seq vs.toArray}/\IntsAre vs ns/\ns.length<=n:=by
 have g:=(pre_splitW i).1;have j:l.pre.holds [] {args:=args}=true:=(pre_splitW i).2;let{d,r,rfl,o,p}:=hasAllW_cons g;obtain rfl:=hasAllW_nil p;let{Y,rfl,q}:=hasW_list o;let{ns,rfl}:=items_int q;have e:ns.length<=n:=by
  unfold OpenLaw.pre at j;have f:(WTm.not<|.lt (.lit (.int (n:Int))) (.len (.arg 0))).holds [] {args:=[.list (ns.map .int)]}=true:=by have f:=(holds_andW j).1;rw[k]at f;show f
  have w:=condW_of f (w_not<|w_lt w_lit<|w_len_list<|w_arg rfl)
  simp_all
 cases m with
 |cons s t=>
  cases t;cases s with
  |list u v=>show{_,_,ns,rfl,rfl,u,pL ns _ v,e}
def post_true(l:OpenLaw)(args:List WData):l.row.toRowW.claim.post args (.bool true) args=true:=
 postW_of (r:=l.row.toRowW) (X:=(true==true))
  (show WShape.has [] (.bool true) .bool=true by first|rfl|decide|simp[WShape.has,WShape.arms,WShape.armsAll])
  (show(WTm.eq .res (.lit (.bool true))).value [] {args:=args,res:=some (.bool true),after:=args}=some (.bool (true==true))from w_eq_bool (w_res rfl) w_lit) rfl
section
variable{prog:be}{w:cf}{A:bM}{E:B6}{s:aL}{K:Frag}
def a9r(h:ck)(L d:ba):List (ba×Obj):=(aBd h.objs.size).filterMap λa=>if a=L\/a=d then none else(h.get? a).map λo=>(a,o)
end
end Att
namespace L2
open PySem PySem.Spec PyProof.Rows
theorem R0:∀{vs:List au}{ns:List Int},IntsAre vs ns->q9 (ns.map V.int) vs
 |_,_,.nil=>.nil
 |_,_,.cons n t h=>.cons {t,rfl} (R0 h)
def C9(s:cp):Arguments:=match s with
 |.FunctionDef _ a _ _ _ _ _ _ _ _=>a
 |_=>{posonlyargs:=[],args:=[],vararg:=none,kwonlyargs:=[],kw_defaults:=[],kwarg:=none,defaults:=[]}
def t7(s:cp):List cp:=match s with
 |.FunctionDef _ _ b _ _ _ _ _ _ _=>b
 |_=>[]
def c8(s:cp):ik:=match s with
 |.FunctionDef _ _ _ _ _ _ a _ _ _=>a
 |_=>{kind:=.function,names:=[],isGenerator:=false,isCoroutine:=false}
abbrev uM:XM:=λ_ _ _ _ _ _=>False
abbrev E0:XK:=λ_ _ _=>False
def VB:HP uM X E0:=λ_ _ _ _ _ _ _ h=>h.elim
structure Fun(K:PySem.W.Frag)(x qual:Str)(st:Stmt)(f:Addr)(fd:FuncData):Prop where
 ex:∃(oc:Value) (od:Option Addr) (kV doc pm:Value) (an:Option Addr) (T ct:Value) (osl:Array (Option Value)),
  fd=PySem.W.fnOf x qual (C9 st) (t7 st) (c8 st) .none kV doc pm an T ct/\K.lookup f=some {oc,od,.func fd,osl}/\PySem.W.codeIn K T qual=true
 kp:PySem.W.keepIn K (.ref f)=true
section
variable{P:be}{w:cf}{K:kn}{mg:eU}{base:ck}
def Fun.ok{x qual:Str}{st:cp}{f:ba}{e:dV}{N ps:List Str}{k:Nat}{b:Sp}(F:Fun K x qual st f e)(S:FnScope N ps (c8 st))(len:∀vs H Q E,b vs H Q E->vs.length=ps.length)
  (g:∀(T:au) (A:bM) (a:List Env) (s:aL) (H:Hp) (vs:List V) (Q:VK) (E:XK),Room k (A.deeper (envOfC qual (c8 st) s.heap.objs.size f T))->b vs H Q E->
   ∃t,uW (OM uM P w K mg base N qual (c8 st) f T A a s H E).nox (t7 st) t/\t {nx:=λ_ H'=>Q .non H',rt:=Q} (start N vs) H):FnOk P w K mg base uM (k+1) f e ps b:=by
 let{n,o,kV,i,p,r,T,u,j,rfl,lk,l}:=F.ex;show uq lk l S len λA a s H vs Q E m d=>?_;let{t,h,q}:=g T A a s H vs Q E m d;show{t,h.nox,q}
def Fun.binds{x qual:Str}{st:cp}{f:ba}{g:dV}{ps:List Str}(F:Fun K x qual st f g)
  (h:∀(kV a b:au) (d:Option ba) (T ct:au) (e:List au),e.length=ps.length->bindArgs (PySem.W.fnOf x qual (C9 st) (t7 st) (c8 st) .none kV a b d T ct) {e,[]}=pure (ps.zip e)):Binds K g ps []:=by
 let{j,k,kV,a,b,d,T,ct,i,rfl,lk,l}:=F.ex;show .all (h kV a b d T ct)
def RX{x qual:Str}{st:cp}{f:ba}{g:au}{h d:Option ba}{b:Array (Option au)}{kV a e T ct:au}(l:K.lookup f=some {g,h,.func (PySem.W.fnOf x qual (C9 st) (t7 st) (c8 st) .none kV a e d T ct),b})
 (c:PySem.W.codeIn K T qual=true) (k:PySem.W.keepIn K (.ref f)=true):Fun K x qual st f (PySem.W.fnOf x qual (C9 st) (t7 st) (c8 st) .none kV a e d T ct):={{g,h,kV,a,e,d,T,ct,b,rfl,l,c},k}
end
section
variable{X:Cx}
end
def Same(H H':Hp):Prop:=∀b o,H b=some o->H' b=some o
def Same.refl(H:Hp):Same H H:=λ_ _ h=>h
def Same.trans(a:Same H d)(b:Same d e):Same H e:=λc o h=>b c o (a c o h)
def Same.seq{K:kn}{H H':Hp}{a:ba}{Y:List V}(e:Same H H')(h:L7 K H a Y):L7 K H' a Y:=by
 rcases h with(h|⟨o,h⟩)|h
 .show .inl (.inl (e _ _ h))
 .show .inl (.inr {o,e _ _ h})
 show .inr h
end L2
namespace DL
open PySem PySem.Spec L2
open PyProof.Rows hiding St
section
inductive D where
 |non|bl (b:Bool)|int (i:Int)|str (x:Str)|tup (Y:List D)|lst (Y:List D)|dct (N:List (D×D))
mutual
def t5:D->Int
 |.int i=>hashInt i
 |.tup Y=>reduceHash (aAM (zU Y))
 |_=>0
def zU:List D->List Int
 |[]=>[]
 |x::Y=>t5 x::zU Y
end
def K8:Nat->D->Bool
 |_,.int _=>true
 |n+1,.tup Y=>Y.all (K8 n)
 |_,_=>false
inductive R(α:Type)where
 |ok (a:α)|ex (e:Str)|bad
def R.bind{b β:Type}:R b->(b->R β)->R β
 |.ok a,f=>f a
 |.ex e,_=>.ex e
 |.bad,_=>.bad
@[simp]def R.aa0{b β:Type}(a:b)(f:b->R β):(R.ok a).bind f=f a:=rfl
@[simp]def R.ag2{a β:Type}(e:Str)(f:a->R β):(R.ex e:R a).bind f=.ex e:=rfl
@[simp]def R.ag1{a β:Type}(f:a->R β):(R.bad:R a).bind f=.bad:=rfl
def rR(a:ba)(o:Obj)(es:List dA):Prop:=(a==eY)=false/\o.ExactDict/\∃b d,o.data=.dict b d/\b.toList=es
section
variable(K:kn) (H:Hp) (O:ba->Prop)
mutual
inductive Rep:V->D->Prop
 |non:Rep .non .non
 |bl {b:Bool}:Rep (.bl b) (.bl b)
 |int {i:Int}:Rep (.int i) (.int i)
 |str {x:Str}:Rep (.str x) (.str x)
 |tup {a:Addr}{vs:List V}{ds:List D} (h:T5 K H a vs) (r:Reps vs ds):Rep (.ref a) (.tup ds)
 |lst {a:Addr}{vs:List V}{ds:List D} (h:L7 K H a vs) (n:¬O a) (r:Reps vs ds):Rep (.ref a) (.lst ds)
 |dct {a:Addr}{o:Obj}{es:List DictEntry}{N:List (D×D)} (h:H a=some (.ext λh=>h.get? a=some o)) (x:rR a o es) (n:¬O a) (nd:(N.map (·.1)).Nodup) (r:RepsD es N):Rep (.ref a) (.dct N)
inductive Reps:List V->List D->Prop
 |nil:Reps [] []
 |cons {v:V}{d:D}{vs:List V}{ds:List D} (h:Rep v d) (t:Reps vs ds):Reps (v::vs) (d::ds)
inductive RepsD:List DictEntry->List (D×D)->Prop
 |nil:RepsD [] []
 |cons {e:DictEntry}{k v:D}{a:Addr}{x:V}{es:List DictEntry}{N:List (D×D)} (hk:e.key=.ref a) (rk:Rep (.ref a) k) (hv:RelV x e.val) (rv:Rep x v) (hh:e.hash=t5 k/\K8 7 k=true) (t:RepsD es N):RepsD (e::es) ((k,v)::N)
end
end
section
variable{K:kn}
def _root_.L2.Same.tup{a:ba}{Y:List V}(e:Same H H')(h:T5 K H a Y):T5 K H' a Y:=by
 rcases h with(h|⟨o,h⟩)|h
 .show .inl (.inl (e _ _ h))
 .show .inl (.inr {o,e _ _ h})
 show .inr h
mutual
theorem Rep.mono(f:∀a Y,T5 K H a Y->T5 K H' a Y)(b:∀a Y,¬O a->L7 K H a Y->¬g a/\L7 K H' a Y)(e:∀a i,¬O a->H a=some (.ext i)->¬g a/\H' a=some (.ext i)):∀{v:V}{d:D},Rep K H O v d->Rep K H' g v d
 |_,_,.non=>.non
 |_,_,.bl=>.bl
 |_,_,.int=>.int
 |_,_,.str=>.str
 |_,_,.tup h r=>.tup (f _ _ h) (Reps.mono f b e r)
 |_,_,.lst h n r=>.lst (b _ _ n h).2 (b _ _ n h).1 (Reps.mono f b e r)
 |_,_,.dct h x n j r=>.dct (e _ _ n h).2 x (e _ _ n h).1 j (RepsD.mono f b e r)
theorem Reps.mono(b:∀a Y,T5 K H a Y->T5 K H' a Y)(d:∀a Y,¬O a->L7 K H a Y->¬e a/\L7 K H' a Y)(f:∀a g,¬O a->H a=some (.ext g)->¬e a/\H' a=some (.ext g)):∀{vs:List V}{ds:List D},Reps K H O vs ds->Reps K H' e vs ds
 |_,_,.nil=>.nil
 |_,_,.cons h t=>.cons (Rep.mono b d f h) (Reps.mono b d f t)
theorem RepsD.mono(b:∀a Y,T5 K H a Y->T5 K H' a Y)(d:∀a Y,¬O a->L7 K H a Y->¬f a/\L7 K H' a Y)(e:∀a g,¬O a->H a=some (.ext g)->¬f a/\H' a=some (.ext g)):∀{es:List dA}{N:List (D×D)},RepsD K H O es N->RepsD K H' f es N
 |_,_,.nil=>.nil
 |_,_,.cons h i j k l t=>.cons h (Rep.mono b d e i) j (Rep.mono b d e k) l (RepsD.mono b d e t)
end
def Rep.same(e:Same H H')(r:Rep K H O v d):Rep K H' O v d:=r.mono (λ_ _ h=>e.tup h) (λ_ _ n h=>{n,e.seq h}) λ_ _ n h=>{n,e _ _ h}
def Reps.same(e:Same H H')(r:Reps K H O v d):Reps K H' O v d:=r.mono (λ_ _ h=>e.tup h) (λ_ _ n h=>{n,e.seq h}) λ_ _ n h=>{n,e _ _ h}
def Rep.sub(e:∀a,b a->O a)(r:Rep K H O v d):Rep K H b v d:=r.mono (λ_ _ h=>h) (λ_ _ n h=>{λz=>n (e _ z),h}) λ_ _ n h=>{λz=>n (e _ z),h}
def Reps.sub(e:∀a,b a->O a)(r:Reps K H O v d):Reps K H b v d:=r.mono (λ_ _ h=>h) (λ_ _ n h=>{λz=>n (e _ z),h}) λ_ _ n h=>{λz=>n (e _ z),h}
theorem Reps.length:∀{vs:List V}{ds:List D},Reps K H O vs ds->vs.length=ds.length
 |_,_,.nil=>rfl
 |_,_,.cons _ t=>by simp[Reps.length t]
theorem Reps.get:∀{vs:List V}{ds:List D}{i:Nat}{d:D},Reps K H O vs ds->ds[i]?=some d->∃v,vs[i]?=some v/\Rep K H O v d
 |_,_,_,_,.nil,e=>by simp at e
 |_,_,0,_,.cons r _,e=>by simp_all
 |_,_,i+1,d,.cons _ t,e=>by let{u,a,b}:=Reps.get t (by simpa using e);show{u,by simpa using a,b}
theorem Reps.append:∀{vs ws:List V}{ds es:List D},Reps K H O vs ds->Reps K H O ws es->Reps K H O (vs++ws) (ds++es)
 |_,_,_,_,.nil,s=>s
 |_,_,_,_,.cons r t,s=>.cons r (Reps.append t s)
theorem Reps.take:∀{vs:List V}{ds:List D} (n:Nat),Reps K H O vs ds->Reps K H O (vs.take n) (ds.take n)
 |_,_,0,_=>.nil
 |_,_,_+1,.nil=>.nil
 |_,_,n+1,.cons r t=>.cons r (Reps.take n t)
theorem Reps.drop:∀{vs:List V}{ds:List D} (n:Nat),Reps K H O vs ds->Reps K H O (vs.drop n) (ds.drop n)
 |_,_,0,r=>r
 |_,_,_+1,.nil=>.nil
 |_,_,n+1,.cons _ t=>Reps.drop n t
def Reps.dropLast(r:Reps K H O vs ds):Reps K H O vs.dropLast ds.dropLast:=by rw[aEG,aEG,r.length];show r.take _
def Reps.snoc(r:Reps K H O vs ds)(h:Rep K H O v d):Reps K H O (vs++[v]) (ds++[d]):=r.append (.cons h .nil)
theorem Reps.ints:∀(ns:List Int),Reps K H O (ns.map V.int) (ns.map D.int)
 |[]=>.nil
 |_::ns=>.cons .int (Reps.ints ns)
theorem Reps.reverse:∀{vs:List V}{ds:List D},Reps K H O vs ds->Reps K H O vs.reverse ds.reverse
 |_,_,.nil=>.nil
 |_,_,.cons r t=>by rw[aAU,aAU];show(Reps.reverse t).snoc r
end
def Kp(H:Hp)(O:ba->Prop)(H':Hp)(a:ba->Prop):Prop:=∀b o,H b=some o->¬O b->H' b=some o/\¬a b
section
def Kp.refl(H:Hp)(O:ba->Prop):Kp H O H O:=λ_ _ h n=>{h,n}
def Kp.of(s:Same H H'):Kp H O H' O:=λb o h n=>{s b o h,n}
def Kp.trans(a:Kp H O H' f)(b:Kp H' f d e):Kp H O d e:=λc o h n=>let⟨g,i⟩:=a c o h n;b c o g i
end
class Tabs where
 tbs:List (Addr×List (Pos×Str))
inductive Sl where
 |no|v (d:D)|o (Y:List D)|x (C:Value)|c (m:List D->R D) (φ:Hp->(Addr->Prop)->Addr->Prop)|d (N:List (D×D))
abbrev Ev:=List Sl
def Mt:HO->Prop
 |.lst _=>True
 |.dK _=>True
 |.dT _=>True
 |.ext _=>True
 |_=>False
def bI(K:kn)(H:Hp)(O:ba->Prop)(es:List dA)(N:List (D×D)):Prop:=
 Paired (λ(e:dA) (p:D×D)=>(∃a,e.key=.ref a/\Rep K H O (.ref a) p.1)/\(∃v,RelV v e.val/\Rep K H O v p.2)/\e.hash=t5 p.1/\K8 7 p.1=true) es N
theorem RepsD.rep{K:kn}:∀{es:List dA}{N:List (D×D)},RepsD K H O es N->bI K H O es N
 |_,_,.nil=>.nil
 |_,_,.cons a b d e f t=>.cons {{_,a,b},{_,d,e},f} (RepsD.rep t)
theorem bI.ab6{K:kn}:∀{es:List dA}{N:List (D×D)},bI K H O es N->RepsD K H O es N
 |_,_,.nil=>.nil
 |_,_,.cons ⟨⟨_,a,b⟩,⟨_,d,e⟩,f⟩ t=>.cons a b d e f (bI.ab6 t)
def MP:Sl->Prop
 |.o _=>True
 |.d _=>True
 |_=>False
section
variable(K:kn) (H9 H:Hp) (O:ba->Prop)
def jO(x:Option (Option V)):Sl->Prop
 |.no=>True
 |.v d=>∃v,x=some (some v)/\Rep K H O v d
 |.o Y=>∃a b,x=some (some (V.ref a))/\O a/\H9 a=none/\H a=some (.lst b)/\Reps K H O b Y
 |.x C=>∃a o,x=some (some (V.ref a))/\H a=some (.frz o (.own a))/\o.cls=C
 |.c m i=>∃a,x=some (some (V.ref a))/\∀e f,Kp H O e f->i e f a
 |.d N=>∃a o g,x=some (some (V.ref a))/\O a/\H9 a=none/\H a=some (.ext λh=>h.get? a=some o)/\rR a o g/\bI K H O g N/\(N.map (·.1)).Nodup
end
variable [Tabs]
def Tb(H:Hp):Prop:=∀p∈Tabs.tbs,H p.1=some (.tbl p.2)
structure EnvOk(K:PySem.W.Frag)(H9:Hp)(O0:Addr->Prop)(H:Hp)(O:Addr->Prop)(σ:St)(ρ:Ev):Prop where
 len:σ.length=ρ.length
 same:Same H9 H
 sub:∀a,O0 a->O a
 trk:∀a,O a->∃o,H a=some o/\Mt o
 trk0:∀a,O0 a->∃o,H9 a=some o
 tab:Tb H
 slot:∀(i:Nat) (sl:Sl),ρ[i]?=some sl->jO K H9 H O σ[i]? sl
 inj:∀(i j:Nat) (x y:Sl) (a:Addr),ρ[i]?=some x->ρ[j]?=some y->MP x->MP y->σ[i]?=some (some (V.ref a))->σ[j]?=some (some (V.ref a))->i=j
section
variable{K:kn}{O0 O O':ba->Prop}
def Tb.same(h:Tb H)(s:Same H H'):Tb H':=λp a=>s _ _ (h p a)
def EnvOk.val(E:EnvOk K b O0 H O a ρ)(i:Nat)(d:D)(h:ρ[i]?=some (Sl.v d)):∃v,a[i]?=some (some v)/\Rep K H O v d:=E.slot i _ h
def EnvOk.own(E:EnvOk K b O0 H O d ρ)(i:Nat)(Y:List D)(h:ρ[i]?=some (Sl.o Y)):∃a vs,d[i]?=some (some (V.ref a))/\O a/\b a=none/\H a=some (.lst vs)/\Reps K H O vs Y:=E.slot i _ h
def bI.mono(f:∀{v:V}{d:D},Rep K H O v d->Rep K H' O' v d):∀{N:List (D×D)},bI K H O es N->bI K H' O' es N:=λ{_} r=>Paired.af7 r λ_ _ ⟨⟨v,a,b⟩,⟨w,e,g⟩,h⟩=>{{v,a,f b},{w,e,f g},h}
def jO.move(h:jO K z H O x sl)(j:∀a Y,T5 K H a Y->T5 K H' a Y)(l:∀a Y,¬O a->L7 K H a Y->¬O' a/\L7 K H' a Y)(A:∀a o u,H a=some (.frz o u)->H' a=some (.frz o u))(p:Kp H O H' O')(y:MP sl->∀a o,x=some (some (V.ref a))->O a->H a=some o->O' a/\H' a=some o):jO K z H' O' x sl:=by
 have q:∀a g,¬O a->H a=some (.ext g)->¬O' a/\H' a=some (.ext g):=λa g n h=>{(p a _ h n).2,(p a _ h n).1};cases sl with
 |no=>trivial
 |v d=>let{v,b,e}:=h;show{v,b,e.mono j l q}
 |o Y=>let{a,B,b,e,f,s,t}:=h;let{i,w}:=y trivial a _ b e s;show{a,B,b,i,f,w,t.mono j l q}
 |x C=>let{a,o,b,e,f}:=h;show{a,o,b,A _ _ _ e,f}
 |c m g=>let{a,b,e}:=h;show{a,b,λE I k=>e E I (p.trans k)}
 |d N=>let{a,o,J,b,e,f,s,t,i}:=h;let{w,L}:=y trivial a _ b e s;show{a,o,J,b,w,f,L,t,i.1.mono λr=>r.mono j l q,i.2}
def jO.grow(h:jO K a H O x sl)(e:Same H H'):jO K a H' O x sl:=
 h.move (λ_ _ q=>e.tup q) (λ_ _ n q=>{n,e.seq q}) (λ_ _ _ q=>e _ _ q) (Kp.of e) λ_ _ _ _ b d=>{b,e _ _ d}
def EnvOk.grow(E:EnvOk K b O0 H O d ρ)(e:Same H H'):EnvOk K b O0 H' O d ρ where
 len:=E.len
 same:=E.same.trans e
 sub:=E.sub
 trk:=λa h=>let⟨o,q,m⟩:=E.trk a h;{o,e a o q,m}
 trk0:=E.trk0
 tab:=E.tab.same e
 slot:=λi f h=>(E.slot i f h).grow e
 inj:=E.inj
def EnvOk.fresh(E:EnvOk K a O0 H O b ρ)(h:H p=none):¬O p:=λz=>by
 let{o,q,_}:=E.trk p z
 lia
def y6{a:Type}{l:List a}{i j:Nat}{x:a}(h:i≠j):(l.set i x)[j]?=l[j]?:=aCr h
def C3{a:Type}{l:List a}{i:Nat}{x y:a}(h:(l.set i x)[i]?=some y):y=x/\i<l.length:=by grind
def EnvOk.put(E:EnvOk K f O0 H O u ρ){v:Option V}{sl:Sl}(i:Nat)(no:¬MP sl)(r:jO K f H O (some v) sl):EnvOk K f O0 H O (u.set i v) (ρ.set i sl)where
 len:=by simpa using E.len
 same:=E.same
 sub:=E.sub
 trk:=E.trk
 trk0:=E.trk0
 tab:=E.tab
 slot:=λj s h=>by
  by_cases g:i=j
  .subst g;let{e,w}:=C3 h;subst e;rw[aCc (E.len▸w)];show r
  rw[y6 g]at h⊢;show E.slot j s h
 inj:=λj k x y a b d m n p t=>by
  have ne:∀(l:Nat) (z:Sl),(ρ.set i sl)[l]?=some z->MP z->i≠l:=λl z q o e=>by subst e;let{e,_}:=C3 q;subst e;show no o
  have A:=ne j x b m;have B:=ne k y d n;rw[y6 A]at b p;rw[y6 B]at d t;show E.inj j k x y a b d m n p t
def EnvOk.set(E:EnvOk K a O0 H O b ρ)(i:Nat)(r:Rep K H O v d):EnvOk K a O0 H O (b.set i (some v)) (ρ.set i (.v d)):=E.put i (λz=>z) {v,rfl,r}
def jO.at_(h:jO K i H O x sl)(o:MP sl):∃a u,x=some (some (V.ref a))/\O a/\i a=none/\H a=some u/\Mt u:=by
 cases sl with
 |o Y=>let{a,j,b,e,f,g,_}:=h;show{a,_,b,e,f,g,trivial}
 |d N=>let{a,u,k,b,e,f,g,_}:=h;show{a,_,b,e,f,g,trivial}
 |_=>show o.elim
def EnvOk.af5(E:EnvOk K p O0 H O n ρ){a:ba}{sl:Sl}(i:Nat)(w:∀(j:Nat) (y:Sl),i≠j->ρ[j]?=some y->MP y->n[j]?≠some (some (V.ref a)))(r:jO K p H O (some (some (V.ref a))) sl):
  EnvOk K p O0 H O (n.set i (some (V.ref a))) (ρ.set i sl)where
 len:=by simpa using E.len
 same:=E.same
 sub:=E.sub
 trk:=E.trk
 trk0:=E.trk0
 tab:=E.tab
 slot:=λj s h=>by
  by_cases d:i=j
  .subst d;let{e,z}:=C3 h;subst e;rw[aCc (E.len▸z)];show r
  rw[y6 d]at h⊢;show E.slot j s h
 inj:=λj k x y b t m A u o g=>by
  have at_:∀(l:Nat),i=l->(n.set i<|some<|V.ref a)[l]?=some (some<|V.ref b)->b=a:=λl e q=>by subst e;let{e,_}:=C3 q;injection e with e;injection e
  by_cases d:i=j
  .by_cases f:i=k
   .show d.symm.trans f
   exfalso;have v:=at_ j d o;subst v;rw[y6 f]at m g;show w k y f m u g
  by_cases f:i=k
  .exfalso;have v:=at_ k f g;grind
  rw[y6 d]at t o;rw[y6 f]at m g;show E.inj j k x y b t m A u o g
def j4(h:H p=none)(o:HO):Same H (upd H p o):=λb u q=>by rw[m5 (t8 q h)];show q
def EnvOk.ac1(E:EnvOk K f O0 H O g ρ)(h:H a=none)(p:K.lookup a=none)(m:Mt u):EnvOk K f O0 (upd H a u) (λb=>O b\/b=a) g ρ:=by
 have s:=j4 h u;have ne:∀b Y,L7 K H b Y->b≠a:=λb Y q z=>by
  subst z;rcases q with(q|⟨o,q⟩)|⟨o,_,_,q,_⟩
  .grind
  .lia
  grind
 show{E.len,E.same.trans s,λb z=>.inl (E.sub b z),λb z=>?_,E.trk0,E.tab.same s,λi j e=>?_,E.inj}
 .rcases z with z|z
  .let{o,q,m}:=E.trk b z;show{o,s b o q,m}
  subst z;show{_,j2,m}
 show(E.slot i j e).move (λ_ _ q=>s.tup q) (λb Y n q=>{λz=>z.elim n (ne b Y q),s.seq q}) (λ_ _ _ q=>s _ _ q) (λb o d n=>{s b o d,λz=>z.elim n λe=>by subst e;rw[h]at d;cases d}) λ_ b o _ k l=>{.inl k,s _ _ l}
def a1k(h:H a=none)(d:K.lookup a=none)(q:L7 K H b Y):b≠a:=λz=>by
 subst z;rcases q with(q|⟨o,q⟩)|⟨o,_,_,q,_⟩
 .simp_all
 .grind
 simp_all
def Reps.ac1(h:H a=none)(e:K.lookup a=none)(r:Reps K H O v d):Reps K (upd H a u) (λb=>O b\/b=a) v d:=
 r.mono (λ_ _ q=>(j4 h u).tup q) (λb Y n q=>{λz=>z.elim n (a1k h e q),(j4 h u).seq q}) λb f n q=>{λz=>z.elim n (t8 q h),j4 h u _ _ q}
def EnvOk.ae3(E:EnvOk K d O0 H O f ρ)(i:Nat)(h:H a=none)(g:K.lookup a=none)(m:Mt u)(r:d a=none->jO K d (upd H a u) (λb=>O b\/b=a) (some (some (V.ref a))) sl):
  EnvOk K d O0 (upd H a u) (λb=>O b\/b=a) (f.set i (some (.ref a))) (ρ.set i sl):=by
 have k:d a=none:=by
  cases e:d a with
  |none=>rfl
  |some o=>have:=E.same a o e;rw[h]at this;cases this
 show(E.ac1 h g m).af5 i (λj y _ e o q=>?_) (r k);let{b,w,l,_,_,n,_}:=(E.slot j y e).at_ o
 simp_all
def zH(h:H a=some u)(m:Mt u)(q:T5 K H b Y):T5 K (upd H a u') b Y:=by
 have ne:∀w,H b=some w->¬Mt w->b≠a:=λw e n z=>by subst z;rw[h]at e;cases e;show n m
 rcases q with(q|⟨o,q⟩)|q
 .show .inl (.inl ((m5<|ne _ q λz=>z)▸q))
 .show .inl (.inr {o,by rw[m5 (ne _ q λz=>z)];show q})
 show .inr q
def xQ(d:O a)(n:¬O b)(q:L7 K H b Y):L7 K (upd H a u') b Y:=by
 have ne:b≠a:=λz=>by subst z;show n d
 rcases q with(q|⟨o,q⟩)|q
 .show .inl (.inl ((m5 ne)▸q))
 .show .inl (.inr {o,by rw[m5 ne];show q})
 show .inr q
def Rep.upd(h:H a=some u)(m:Mt u)(e:O a)(r:Rep K H O v d):Rep K (upd H a u') O v d:=r.mono (λ_ _ q=>zH h m q) (λ_ _ n q=>{n,xQ e n q}) λb _ n q=>{n,by rw[m5 (λz=>n (by lia))];show q}
def Reps.upd(h:H a=some u)(m:Mt u)(e:O a)(r:Reps K H O v d):Reps K (upd H a u') O v d:=r.mono (λ_ _ q=>zH h m q) (λ_ _ n q=>{n,xQ e n q}) λb _ n q=>{n,by rw[m5 (λz=>n (by lia))];show q}
def EnvOk.ae5{i:Nat}{sl sl':Sl}{a:ba}{u u':HO}(E:EnvOk K t O0 H O U ρ)(e:ρ[i]?=some sl)(v:MP sl)(A:U[i]?=some (some (V.ref a)))(B:H a=some u)(m':Mt u')(ow':MP sl')
  (r:O a->t a=none->Mt u->jO K t (upd H a u') O (some (some (V.ref a))) sl'):EnvOk K t O0 (upd H a u') O U (ρ.set i sl')/\Kp H O (upd H a u') O:=by
 let{b,w,d,C,Y,p4,m}:=(E.slot i sl e).at_ v;rw[A]at d;injection d with d;injection d with d;injection d with d;subst d;rw[B]at p4;cases p4;have kp:Kp H O (upd H a u') O:=λb o g n=>{by rw[m5 (λz=>by subst z;show n C)];show g,n};have nf:∀b w,H b=some w->¬Mt w->upd H a u' b=some w:=λb w q n=>by rw[m5 (λz=>by subst z;rw[B]at q;cases q;show n m)];show q
 show{{by simpa using E.len,λb o q=>?_,E.sub,λb z=>?_,E.trk0,λp hp=>nf _ _ (E.tab p hp) λz=>z,λj s h=>?_,λj k x y b I J o1 o2 L q4=>?_},kp}
 .rw[m5 (λz=>by subst z;rw[Y]at q;cases q)];show E.same b o q
 .by_cases g:b=a
  .subst g;show{_,j2,m'}
  let{o,q,m}:=E.trk b z;show{o,by rw[m5 g];show q,m}
 .by_cases N:i=j
  .subst N;let{e',_}:=C3 h;subst e';rw[A];show r C Y m
  rw[y6 N]at h;show(E.slot j s h).move (λ_ _ q=>zH B m q) (λ_ _ n q=>{n,xQ C n q}) (λb o w q=>nf _ _ q λz=>z) kp λo b w I J L=>{J,?_};rw[m5 (λz=>by subst z;show N (E.inj i j sl s b e h v o A I))];show L
 have f:∀l z,(ρ.set i sl')[l]?=some z->MP z->∃z',ρ[l]?=some z'/\MP z':=λl z q o=>by
  by_cases hl:i=l
  .subst hl;show{sl,e,v}
  rw[y6 hl]at q;show{z,q,o}
 let{x',u1,Q}:=f j x I o1;let{y',u2,T}:=f k y J o2;show E.inj j k x' y' b u1 u2 Q T L q4
def EnvOk.af4{i:Nat}{sl sl':Sl}{a:ba}(E:EnvOk K u O0 H O v ρ)(e:ρ[i]?=some sl)(A:MP sl)(B:v[i]?=some (some (V.ref a)))(no:¬MP sl')(r:jO K u H (λb=>O b/\b≠a) (some (some (V.ref a))) sl'):
  EnvOk K u O0 H (λb=>O b/\b≠a) v (ρ.set i sl'):=by
 let{b,w,d,U,J,Y,m}:=(E.slot i sl e).at_ A;rw[B]at d;injection d with d;injection d with d;injection d with d;subst d;show{by simpa using E.len,E.same,λb z=>{E.sub b z,λq=>?_},λb z=>E.trk b z.1,E.trk0,E.tab,λj s h=>?_,λj k x y b f g C I p L=>?_}
 .subst q;let{o,q}:=E.trk0 b z;rw[J]at q;cases q
 .by_cases t:i=j
  .subst t;let{l,_}:=C3 h
   simp_all
  rw[y6 t]at h;show(E.slot j s h).move (λ_ _ q=>q) (λ_ _ n q=>{λz=>n z.1,q}) (λ_ _ _ q=>q) (λb o N n=>{N,λz=>n z.1}) λo b w f g p=>{{g,λz=>?_},p};subst z;show t (E.inj i j sl s b e h A o B f)
 have Q:i≠j:=λz=>by subst z;let{l,_}:=C3 f;subst l;show no C
 have T:i≠k:=λz=>by subst z;let{l,_}:=C3 g;subst l;show no I
 rw[y6 Q]at f;rw[y6 T]at g;show E.inj j k x y b f g C I p L
end
def XW(X:Cx)(e:Str)(H:Hp):Prop:=False
def RC(X:Cx)(H:Hp)(O:ba->Prop)(r:R D)(Q:VK):Prop:=match r with
 |.ok d=>∀v a,Same H a->Rep X.K a O v d->Q v a
 |.ex e=>∀a,Same H a->XW X e a
 |.bad=>False
def A4(K:kn)(H:Hp)(O:ba->Prop)(v:V)(d:D):Prop:=Rep K H O v d\/∃a b e,v=.ref a/\d=.lst e/\L7 K H a b/\Reps K H O b e
def XQ(X:Cx)(H:Hp)(O:ba->Prop)(r:R D)(Q:VK):Prop:=match r with
 |.ok d=>∀v a,Same H a->A4 X.K a O v d->Q v a
 |.ex e=>∀a,Same H a->XW X e a
 |.bad=>False
def xE(X:Cx)(H:Hp)(r:R Bool)(Q:Bool->Hp->Prop):Prop:=match r with
 |.ok b=>∀a,Same H a->Q b a
 |.ex e=>∀a,Same H a->XW X e a
 |.bad=>False
def MS(X:Cx)(H:Hp)(O:ba->Prop)(r:R (List D))(Q:List V->Hp->Prop):Prop:=match r with
 |.ok d=>∀b a,Same H a->Reps X.K a O b d->Q b a
 |.ex e=>∀a,Same H a->XW X e a
 |.bad=>False
def UX(X:Cx)(H:Hp)(O:ba->Prop)(r:R (List D))(Q:List V->Hp->Prop):Prop:=match r with
 |.ok d=>∀b a,Same H a->Paired (A4 X.K a O) b d->Q b a
 |.ex e=>∀a,Same H a->XW X e a
 |.bad=>False
def tD(X:Cx)(f:Ev->R D):TE:=λb H Q=>∃d e O a,EnvOk X.K d e H O b a/\RC X H O (f a) Q
def tDB(X:Cx)(f:Ev->R D):TE:=λb H Q=>∃d e O a,EnvOk X.K d e H O b a/\XQ X H O (f a) Q
def tDT(X:Cx)(f:Ev->R Bool):TT:=λb H Q=>∃d e O a,EnvOk X.K d e H O b a/\xE X H (f a) Q
def tDs(X:Cx)(f:Ev->R (List D)):TA:=λb H Q=>∃d e O a,EnvOk X.K d e H O b a/\MS X H O (f a) Q
def b0h(X:Cx)(f:Ev->R (List D)):TA:=λb H Q=>∃d e O a,EnvOk X.K d e H O b a/\UX X H O (f a) Q
def PD(X:Cx)(e:cq)(f:Ev->R D):Prop:=PE X e (tD X f)
def PB(X:Cx)(e:cq)(f:Ev->R D):Prop:=PE X e (tDB X f)
def EG(X:Cx)(e:cq)(f:Ev->R Bool):Prop:=PT X e (tDT X f)
def MT(X:Cx)(es:List cq)(f:Ev->R (List D)):Prop:=PA X es (tDs X f)
def PAB(X:Cx)(es:List cq)(f:Ev->R (List D)):Prop:=PA X es (b0h X f)
def QQ{r:Hp->(ba->Prop)->Ev->VK->Prop}(h:PE X e t)(i:∀a H Q b d O ρ,EnvOk X.K b d H O a ρ->r H O ρ Q->t a H Q):PE X e λa H Q=>∃b d O ρ,EnvOk X.K b d H O a ρ/\r H O ρ Q:=λf s a H Q I q=>h f s a H Q I (let⟨b,d,O,ρ,E,q⟩:=q;i a H Q b d O ρ E q)
def ptI{r:Hp->(ba->Prop)->Ev->(Bool->Hp->Prop)->Prop}(h:PT X e t)(i:∀a H Q b d O ρ,EnvOk X.K b d H O a ρ->r H O ρ Q->t a H Q):PT X e λa H Q=>∃b d O ρ,EnvOk X.K b d H O a ρ/\r H O ρ Q:=λf s a H Q I q=>h f s a H Q I (let⟨b,d,O,ρ,E,q⟩:=q;i a H Q b d O ρ E q)
def paI{r:Hp->(ba->Prop)->Ev->(List V->Hp->Prop)->Prop}(h:PA X es t)(i:∀a H Q b d O ρ,EnvOk X.K b d H O a ρ->r H O ρ Q->t a H Q):PA X es λa H Q=>∃b d O ρ,EnvOk X.K b d H O a ρ/\r H O ρ Q:=λf e s a H Q I q=>h f e s a H Q I (let⟨b,d,O,ρ,E,q⟩:=q;i a H Q b d O ρ E q)
def qV{β:Type}{r:Hp->(ba->Prop)->Ev->β->Prop}{G:List (ba×Obj)->aL->St->Hp->β->Prop}(h:∀a s b H Q,Inv X a b H s->∀d e O ρ,EnvOk X.K d e H O b ρ->r H O ρ Q->G a s b H Q)(a s b H Q)(I:Inv X a b H s)(q:∃d e O ρ,EnvOk X.K d e H O b ρ/\r H O ρ Q):G a s b H Q:=by grind
def PD.pb(h:PD X e f):PB X e f:=QQ h λj H Q b g O a E q=>⟨b,g,O,a,E,by
 cases e:f a with
 |ok d=>rw[e]at q;showλv i s r=>q v i s (.inl r)
 |ex x=>rw[e]at q;show q
 |bad=>rw[e]at q;show q⟩
def RC.seq{O:ba->Prop}(h:RC X H O (r.bind g) Q):
  RC X H O r λv b=>∃d,r=.ok d/\Same H b/\Rep X.K b O v d/\RC X b O (g d) Q:=by
 cases r with
 |ok d=>
  intro v b f k;show{d,rfl,f,k,?_};have a:RC X H O (g d) Q:=h;cases e:g d with
  |ok m=>rw[e]at a;showλw i j l=>a w i (f.trans j) l
  |ex x=>rw[e]at a;showλi j=>a i (f.trans j)
  |bad=>rw[e]at a;show a
 |ex x=>show h
 |bad=>show h
def XQ.seq{O:ba->Prop}(h:RC X H O (r.bind g) Q):
  XQ X H O r λv b=>∃d,r=.ok d/\Same H b/\A4 X.K b O v d/\RC X b O (g d) Q:=by
 cases r with
 |ok d=>
  intro v b f k;show{d,rfl,f,k,?_};have a:RC X H O (g d) Q:=h;cases e:g d with
  |ok m=>rw[e]at a;showλw i j l=>a w i (f.trans j) l
  |ex x=>rw[e]at a;showλi j=>a i (f.trans j)
  |bad=>rw[e]at a;show a
 |ex x=>show h
 |bad=>show h
def RC.grow{O:ba->Prop}(h:RC X H O r Q)(e:Same H f):RC X f O r Q:=by
 cases r with
 |ok d=>showλw a b g=>h w a (e.trans b) g
 |ex x=>showλa b=>h a (e.trans b)
 |bad=>show h
end
section
variable [Tabs]
section
variable{X:Cx}
def A4.same(e:Same H H')(r:A4 X.K H O v d):A4 X.K H' O v d:=by
 rcases r with r|⟨a,b,f,g,h,i,j⟩
 .show .inl (r.same e)
 show .inr {a,b,f,g,h,e.seq i,j.same e}
def A4.of{K:kn}(r:Rep K H O v d):A4 K H O v d:=.inl r
def A4.aa5{K:kn}{ds:List D}(r:A4 K H O v (.lst ds)):∃a vs,v=.ref a/\L7 K H a vs/\Reps K H O vs ds:=by
 rcases r with r|⟨a,vs,g,d,b,e,f⟩
 .cases r with|lst h n r=>show{_,_,rfl,h,r}
 injection b with b;subst b;show{a,vs,d,e,f}
def A4.ad9{K:kn}{N:List (D×D)}(r:A4 K H O v (.dct N)):∃a o es,v=.ref a/\H a=some (.ext λh=>h.get? a=some o)/\rR a o es/\RepsD K H O es N/\(N.map (·.1)).Nodup:=by
 rcases r with r|⟨a,e,es,f,b,g,i⟩
 .cases r with|dct h x n d r=>show{_,_,_,rfl,h,x,r,d}
 cases b
def A4.tupI{K:kn}{ds:List D}(r:A4 K H O v (.tup ds)):∃a vs,v=.ref a/\T5 K H a vs/\Reps K H O vs ds:=by
 rcases r with r|⟨a,vs,d,e,b,f,g⟩
 .cases r with|tup h r=>show{_,_,rfl,h,r}
 cases b
def A4.aa6{K:kn}{i:Int}(r:A4 K H O v (.int i)):v=.int i:=by
 rcases r with r|⟨a,d,e,f,b,g,h⟩
 .cases r;rfl
 cases b
def A4.blI{K:kn}{i:Bool}(r:A4 K H O v (.bl i)):v=.bl i:=by
 rcases r with r|⟨a,d,e,f,b,g,h⟩
 .cases r;rfl
 cases b
def A4.ab9{K:kn}(r:A4 K H O v .non):v=.non:=by
 rcases r with r|⟨a,d,e,f,b,g,h⟩
 .cases r;rfl
 cases b
def A4.ac2{K:kn}{i:Str}(r:A4 K H O v (.str i)):v=.str i:=by
 rcases r with r|⟨a,d,e,f,b,g,h⟩
 .cases r;rfl
 cases b
end
def Z6(i:Nat)(ρ:Ev):R D:=match ρ[i]? with
 |some (.v d)=>.ok d
 |_=>.bad
def BN(i:Nat)(ρ:Ev):R D:=match ρ[i]? with
 |some (.v d)=>.ok d
 |some (.o Y)=>.ok (.lst Y)
 |_=>.bad
section
def c7(i:Nat)(a:X.N[i]?=some x:=by rfl)(b:EF X.env.scope x:=by first|show aCs rfl|show aBC (aCs rfl)|show aBC (aBC rfl))(f:(x==kM)=false:=by decide)(g:(x==lh)=false:=by decide):PD X (.Name x h) (Z6 i):=QQ (N4 a b f g) λp H Q r s O j E q=>by
 unfold Z6 at q;cases e:j[i]? with
 |none=>rw[e]at q;show q.elim
 |some k=>
  rw[e]at q;cases k with
  |no=>show q.elim
  |x C=>show q.elim
  |c m t=>show q.elim
  |d N=>show q.elim
  |o Y=>show q.elim
  |v d=>let{v,l,n}:=E.val i d e;show{v,l,q v H (Same.refl H) n}
def b7(i:Nat)(g:X.N[i]?=some x:=by rfl)(h:EF X.env.scope x:=by first|show aCs rfl|show aBC (aCs rfl)|show aBC (aBC rfl))(j:(x==kM)=false:=by decide)(k:(x==lh)=false:=by decide):PB X (.Name x l) (BN i):=QQ (N4 g h j k) λu H Q w y O n E q=>by
 unfold BN at q;cases e:n[i]? with
 |none=>rw[e]at q;show q.elim
 |some p=>
  rw[e]at q;cases p with
  |no=>show q.elim
  |x C=>show q.elim
  |c m z=>show q.elim
  |d N=>show q.elim
  |o Y=>let{a,r,b,f,A,s,t}:=E.own i Y e;show{_,b,q _ H (Same.refl H) (.inr {a,r,Y,rfl,rfl,L7.of s,t})}
  |v d=>let{v,b,f}:=E.val i d e;show{v,b,q v H (Same.refl H) (.inl f)}
def tj(d:D)(_:Ev):R D:=.ok d
def AH(h:PE X e (tC v))(r:∀H O,Rep X.K H O v d):PD X e (tj d):=QQ h λa H Q b f O g E q=>q v H (Same.refl H) (r H O)
def c6{j a}:PD X (.Constant (.int i) j a) (tj (.int i)):=AH a2n λ_ _=>.int
def Y6{j a}:PD X (.Constant (.bool i) j a) (tj (.bl i)):=AH a6r λ_ _=>.bl
def jC{j a}:PD X (.Constant .none j a) (tj .non):=AH a0n λ_ _=>.non
def lF(X:Cx)(f:au->au->Sem au)(g:D->D->R D):Prop:=
 ∀(H:Hp) (O:ba->Prop) (x y:V) (a b:D) (Q:VK),(∀p,H p=none->¬O p)->A4 X.K H O x a->A4 X.K H O y b->RC X H O (g a b) Q->∃r,lR X f r/\r x y H Q
def a8u(X:Cx)(O:ba->Prop)(g:D->D->R D)(Q:VK):V->V->Hp->Prop:=λx y H=>∃a b,(∀p,H p=none->¬O p)/\A4 X.K H O x a/\A4 X.K H O y b/\RC X H O (g a b) Q
def qN{f O:ba->Prop}(E:EnvOk X.K k f H O l ρ)(q:RC X H O ((m ρ).bind λx=>(n ρ).bind λy=>g x y) Q):
  tDB X m l H λx h=>tDB X n l h λy i=>a8u X O g Q x y i:=by
 show{k,f,O,ρ,E,?_};have a:=XQ.seq q;revert a;cases I:m ρ with
 |ok t=>
  intro a x h o u;let{d,e,_,r,v}:=a x h o u;cases e;have s:=E.grow o;show{k,f,O,ρ,s,?_};have b:=XQ.seq v;revert b;cases J:n ρ with
  |ok w=>intro b y i j z;let{L,e,_,A,B}:=b y i j z;cases e;show{t,w,λp C=>(s.grow j).fresh C,r.same j,A,B}
  |ex x=>intro b;show b
  |bad=>intro b;show b
 |ex x=>intro a;show a
 |bad=>intro a;show a
def c5(f:lF X (eI op) g)(i:PB X a j)(k:PB X b l):PD X (.BinOp a op b m) (λρ=>(j ρ).bind λx=>(l ρ).bind λy=>g x y):=by show qV λd s n H Q I T U O ρ E q=>(wpAny_BinOp<|SH i k I (qN E q) λv u o x y e p t w h=>?_);let{z,A,B,C,J,q}:=h;let{r,L,N}:=f e O x y z A Q B C J q;show L d o n e x y v u Q p t w N
def jL(f:lF X (dI op) g)(i:PB X a j)(k:PB X b l)(m:h9 op b=false:=by first|show UI _|with_unfolding_all rfl):
  PD X (.Compare a [op] [b] n) (λρ=>(j ρ).bind λx=>(l ρ).bind λy=>g x y):=by
 show qV λd s o H Q I U Y O ρ E q=>(wpAny_Compare1 (SH i k I (qN E q) λv u p x y e t w z h=>?_) m);let{A,B,C,J,L,q}:=h;let{r,N,T}:=f e O x y A B Q C J L q;show N d p o e x y v u Q t w z T
def OY:D->R Bool
 |.bl b=>.ok b
 |_=>.bad
def qG{O:ba->Prop}{Q:Bool->Hp->Prop}(h:xE X H (r.bind OY) Q):RC X H O r λv a=>∃c,v=.bl c/\Q c a:=by
 cases r with
 |ok d=>
  cases d with
  |bl b=>intro v a e f;cases f;show{b,rfl,h a e}
  |_=>show(h).elim
 |ex x=>show h
 |bad=>show h
def j1(i:lF X (dI op) g)(j:PB X a l)(m:PB X b n)(o:h9 op b=false:=by first|show UI _|with_unfolding_all rfl):
  EG X (.Compare a [op] [b] p) (λρ=>((l ρ).bind λx=>(n ρ).bind λy=>g x y).bind OY):=by
 show qV λd s t H Q I H9 O0 O ρ E q=>?_;have w:=qG (O:=O) q;show wpAny_isTrue_Compare1 (SH j m I (qN E w) λv u A x y f B C J h=>?_) o;let{L,N,T,U,Y,q}:=h;let{r,hr,hq}:=i f O x y L N _ T U Y q;show D8 (hr d A t f x y v u _ B C J hq) λc s3 z9=>?_;let{z,H3,I3,r3,k,e,q3}:=z9;subst e;cases r3;show aBw {H3,I3,q3}
def R5(h:PD X e f)(a:∀whole,isTrue e X.env whole=(do let v<-whole;standAt e.pos;gn [v] (truthy v)):=by intro _;rfl):EG X e (λρ=>(f ρ).bind OY):=by show ptI (a1d h a) λg H Q b d O ρ E q=>{b,d,O,ρ,E,qG q}
def xE.seq{Q:Bool->Hp->Prop}(h:xE X H (r.bind g) Q):xE X H r λb f=>r=.ok b/\Same H f/\xE X f (g b) Q:=by
 cases r with
 |ok d=>
  intro f i;show{rfl,i,?_};have a:xE X H (g d) Q:=h;cases e:g d with
  |ok l=>rw[e]at a;showλj k=>a j (i.trans k)
  |ex x=>rw[e]at a;showλj k=>a j (i.trans k)
  |bad=>rw[e]at a;show a
 |ex x=>show h
 |bad=>show h
def xE.af9{O:ba->Prop}(h:RC X H O (r.bind g) Q):xE X H r λb a=>r=.ok b/\Same H a/\RC X a O (g b) Q:=by
 cases r with
 |ok d=>intro a e;show{rfl,e,?_};have f:RC X H O (g d) Q:=h;show f.grow e
 |ex x=>show h
 |bad=>show h
def xE.mono{Q e:Bool->Hp->Prop}(h:xE X H r Q)(i:∀b a,Q b a->e b a):xE X H r e:=by
 cases r with
 |ok d=>showλa f=>i _ _ (h a f)
 |ex x=>show h
 |bad=>show h
def RC.mono{O:ba->Prop}(h:RC X H O r Q)(i:∀b a,Q b a->e b a):RC X H O r e:=by
 cases r with
 |ok d=>showλv a f g=>i _ _ (h v a f g)
 |ex x=>show h
 |bad=>show h
def zZ(X:Cx)(e:cq)(f:Ev->R Bool):Prop:=PW X e (tDT X f)
def AQ(f g:Ev->R Bool):Ev->R Bool:=λa=>(f a).bind λb=>if b=true then g a else .ok false
def orB(f g:Ev->R Bool):Ev->R Bool:=λa=>(f a).bind λb=>if b=true then .ok true else g a
def a2p(f:Ev->R Bool):Ev->R Bool:=λa=>(f a).bind λb=>.ok (!b)
variable{rest:List cq}
def kQ(b:EG X a f):zZ X (.BoolOp .And [a] d) f:=bz b
def dF(b:EG X a f):zZ X (.BoolOp .Or [a] d) f:=a1p b
def WQ(h:PW X e t)(i:∀a H Q,t' a H Q->t a H Q):PW X e t':=λd b s a H Q I q=>h d b s a H Q I (i a H Q q)
def qK(k:EG X a f)(l:zZ X (.BoolOp .And (b::rest) d) g):zZ X (.BoolOp .And (a::b::rest) d) (AQ f g):=
 WQ (a0w k l) λo H Q ⟨e,h,O,i,E,q⟩=>⟨e,h,O,i,E,xE.mono (xE.seq q)<|by
  rintro b m ⟨_,n,j⟩;cases b with
  |true=>rw[kc rfl];show{e,h,O,i,E.grow n,j}
  |false=>rw[kd aBF];show j m (Same.refl _)⟩
def U0(k:EG X a f)(l:zZ X (.BoolOp .Or (b::rest) d) g):zZ X (.BoolOp .Or (a::b::rest) d) (orB f g):=
 WQ (a6u k l) λo H Q ⟨e,h,O,i,E,q⟩=>⟨e,h,O,i,E,xE.mono (xE.seq q)<|by
  rintro b m ⟨_,n,j⟩;cases b with
  |false=>rw[kd aBF];show{e,h,O,i,E.grow n,j}
  |true=>rw[kc rfl];show j m (Same.refl _)⟩
def zZ.pt(h:zZ X e f):EG X e f:=PW.pt h
def aE(d:EG X a f):EG X (.UnaryOp .Not a e) (a2p f):=
 ptI (a1i d) λl H Q g h O i E q=>{g,h,O,i,E,xE.mono (xE.seq q)<|by rintro b j ⟨_,m,k⟩;show k j (Same.refl _)}
def a1w(f:Ev->R D)(g:Ev->R D):Ev->R D:=λa=>((f a).bind OY).bind λb=>if b=true then g a else .ok (.bl false)
def a9i(f:Ev->R D):Ev->R D:=λa=>((f a).bind OY).bind λb=>.ok (.bl (!b))
def WU{op}{f:Ev->R D}(h:PD X a f):PD X (.BoolOp op [a] b) f:=a1f h
def FX{f g:Ev->R D}(l:PD X a f)(m:PD X (.BoolOp .And (b::rest) d) g):PD X (.BoolOp .And (a::b::rest) d) (a1w f g):=
 QQ (a0r l m) λp H Q h i O j E q=>⟨h,i,O,j,E,RC.mono (qG<|xE.af9 q) λv n ⟨c,e,_,o,k⟩=>⟨c,e,by
  cases c with
  |true=>rw[kc rfl];show{h,i,O,j,E.grow o,k}
  |false=>rw[kd aBF];show k _ n (Same.refl _) .bl⟩⟩
def a2i{f:Ev->R D}(b:PD X a f):PD X (.UnaryOp .Not a d) (a9i f):=
 QQ (a2l b) λl H Q g h O i E q=>{g,h,O,i,E,RC.mono (qG<|xE.af9 q)<|by rintro v j ⟨c,e,_,m,k⟩;show{c,e,k _ j (Same.refl _) .bl}}
def a7p:D->R D
 |.int i=>.ok (.int (-i))
 |_=>.bad
def uL{f:Ev->R D}(e:PD X a f):PD X (.UnaryOp .USub a g) (λρ=>(f ρ).bind a7p):=
 QQ (a6x a2d e) λn H Q h j O ρ E q=>⟨h,j,O,ρ,E,by
  show RC.mono (RC.seq q) λv k l=>?_;let{d,_,o,m,b}:=l;cases d with
  |int i=>cases m;show{i,rfl,b _ k (Same.refl _) .int}
  |_=>show(show False from b).elim⟩
def MS.seq{H:Hp}{O:ba->Prop}{r:R (List D)}{g:List D->R D}{Q:VK}(h:RC X H O (r.bind g) Q):
  MS X H O r λv a=>∃d,r=.ok d/\Same H a/\Reps X.K a O v d/\RC X a O (g d) Q:=by
 cases r with
 |ok d=>showλv a b e=>{d,rfl,b,e,(h).grow b}
 |ex x=>show h
 |bad=>show h
def MS.mono{O:ba->Prop}{Q e:List V->Hp->Prop}(h:MS X H O r Q)(i:∀b a,Q b a->e b a):MS X H O r e:=by
 cases r with
 |ok d=>showλv a f g=>i _ _ (h v a f g)
 |ex x=>show h
 |bad=>show h
def UX.seq{H:Hp}{O:ba->Prop}{r:R (List D)}{g:List D->R D}{Q:VK}(h:RC X H O (r.bind g) Q):
  UX X H O r λv a=>∃d,r=.ok d/\Same H a/\Paired (A4 X.K a O) v d/\RC X a O (g d) Q:=by
 cases r with
 |ok d=>showλv a b e=>{d,rfl,b,e,(h).grow b}
 |ex x=>show h
 |bad=>show h
def XQ.mono{O:ba->Prop}(h:XQ X H O r Q)(i:∀b a,Q b a->e b a):XQ X H O r e:=by
 cases r with
 |ok d=>showλv a f g=>i _ _ (h v a f g)
 |ex x=>show h
 |bad=>show h
def t6(f:Ev->R D)(g:Ev->R (List D)):Ev->R (List D):=λa=>(f a).bind λd=>(g a).bind λb=>.ok (d::b)
def S8:Ev->R (List D):=λ_=>.ok []
def o8:MT X [] S8:=paI bC λa H Q b d O e E q=>q [] H (Same.refl _) .nil
def f7{f:Ev->R D}{g:Ev->R (List D)}(n:PD X e f)(o:MT X es g)(p:a9 (e::es) X.env=(false,dm e X.env)::a9 es X.env:=by rfl):MT X (e::es) (t6 f g):=
 paI (J6 n o p) λu H Q l m O a E q=>⟨l,m,O,a,E,by
  unfold t6 at q;cases h:f a with
  |ok d=>
   rw[h]at q;intro v w i r;show{l,m,O,a,E.grow i,?_};cases j:g a with
   |ok y=>rw[j]at q;showλs k b t=>q (v::s) k (i.trans b) (.cons (r.same b) t)
   |ex x=>rw[j]at q;showλk b=>q k (i.trans b)
   |bad=>rw[j]at q;show q
  |ex x=>rw[h]at q;show q
  |bad=>rw[h]at q;show q⟩
def y9:PAB X [] S8:=paI bC λa H Q b d O e E q=>q [] H (Same.refl _) .nil
def u8{f:Ev->R D}{g:Ev->R (List D)}(n:PB X e f)(o:PAB X es g)(p:a9 (e::es) X.env=(false,dm e X.env)::a9 es X.env:=by rfl):PAB X (e::es) (t6 f g):=
 paI (J6 n o p) λu H Q l m O a E q=>⟨l,m,O,a,E,by
  unfold t6 at q;cases h:f a with
  |ok d=>
   rw[h]at q;intro v w i r;show{l,m,O,a,E.grow i,?_};cases j:g a with
   |ok y=>rw[j]at q;showλs k b t=>q (v::s) k (i.trans b) (.cons (r.same b) t)
   |ex x=>rw[j]at q;showλk b=>q k (i.trans b)
   |bad=>rw[j]at q;show q
  |ex x=>rw[h]at q;show q
  |bad=>rw[h]at q;show q⟩
def uT(ds:List D):R D:=if ds.length<=sizeLine then .ok (.tup ds)else .bad
def NK(ds:List D):R D:=if ds.length<=sizeLine then .ok (.lst ds)else .bad
def tM{f:Ev->R (List D)}{e}(h:MT X es f):PD X (.Tuple es e g) (λρ=>(f ρ).bind uT):=
 QQ (a2j h) λl H Q i j O ρ E q=>⟨i,j,O,ρ,E,MS.mono (MS.seq q)<|by
  rintro m n ⟨o,_,r,b,a⟩;unfold uT at a;split at a
  .rename_i k;show{by rw[b.length];show k,λp d=>a (.ref p) _ (j4 d _) (.tup (T5.of j2) (b.same<|j4 d _))}
  show a.elim⟩
def uE{f:Ev->R (List D)}(h:MT X es f):PD X (.List es e) (λρ=>(f ρ).bind NK):=
 QQ (QP h) λl H Q g i O ρ E q=>⟨g,i,O,ρ,E,MS.mono (MS.seq q)<|by
  rintro m n ⟨o,_,j,d,a⟩;unfold NK at a;split at a
  .rename_i k;show{by rw[d.length];show k,λp b=>a (.ref p) _ (j4 b _) (.lst (L7.of j2) ((E.grow j).fresh b) (d.same<|j4 b _))}
  show a.elim⟩
def bR(X:Cx)(f:au)(g:List D->R D):Prop:=
 ∀(H:Hp) (O:ba->Prop) (a:List V) (b:List D) (Q:VK),(∀p,H p=none->¬O p)->Paired (A4 X.K H O) a b->RC X H O (g b) Q->∃r,qR X f r/\r a H Q
def fI{x:Str}{id:String}{p:Pos}{f:Ev->R (List D)}{g:List D->R D}(l:bR X (.builtin id) g)(m:PAB X (e::es) f)(n:Gl X x:=by rfl)(o:X.mg x=none:=by assumption)(t:cv x=some (.builtin id):=by decide+kernel)(u:x≠ "__name__":=by decide)
  (v:(x==kM)=false:=by decide) (w:a9 (e::es) X.env=(false,dm e X.env)::a9 es X.env:=by rfl) (y:(cy b (a9 es X.env)).any (·.1)=false:=by rfl):
  PD X (.Call (.Name x p) (e::es) [] b) (λρ=>(f ρ).bind g):=by
 show qV λa s i H Q I z A O ρ E q=>(aAN<|M0 I n o t ?_ u v);show aBr (D8 (m b a s i H _ I {z,A,O,ρ,E,UX.seq q}) λB C ⟨j,k,J,L,d,_,N,r,h⟩=>?_) w y;let{r',T,U}:=l k O j d Q (λp Y=>(E.grow N).fresh Y) r h;show T a C i k j B Q J L U
def gH{x:Str}{T:String}{p:Pos}{f:Ev->R (List D)}{g:List D->R D}(l:bR X (.type T) g)(m:PAB X (e::es) f)(n:Gl X x:=by rfl)(o:X.mg x=none:=by assumption)(t:cv x=some (.type T):=by decide+kernel)(u:x≠ "__name__":=by decide)
  (v:(x==kM)=false:=by decide) (w:a9 (e::es) X.env=(false,dm e X.env)::a9 es X.env:=by rfl) (y:(cy b (a9 es X.env)).any (·.1)=false:=by rfl):
  PD X (.Call (.Name x p) (e::es) [] b) (λρ=>(f ρ).bind g):=by
 show qV λa s i H Q I z A O ρ E q=>(aAN<|M0 I n o t ?_ u v);show aBi (D8 (m b a s i H _ I {z,A,O,ρ,E,UX.seq q}) λB C ⟨j,k,J,L,d,_,N,r,h⟩=>?_) w y;let{r',U,Y}:=l k O j d Q (λp hp=>(E.grow N).fresh hp) r h;show U a C i k j B Q J L Y
end
mutual
def x8:D->D->Bool
 |.non,.non=>true
 |.bl a,.bl b=>a==b
 |.bl a,.int b=>(if a then 1 else 0)==b
 |.int a,.bl b=>a==(if b then 1 else 0)
 |.int a,.int b=>a==b
 |.str a,.str b=>a==b
 |.tup Y,.tup d=>bE Y d
 |.lst Y,.lst d=>bE Y d
 |.dct _,.dct _=>true
 |_,_=>false
def bE:List D->List D->Bool
 |[],[]=>true
 |x::Y,y::a=>x8 x y&&bE Y a
 |_,_=>false
end
mutual
def D4:D->Nat
 |.tup Y=>y8 Y+1
 |.lst Y=>y8 Y+1
 |.dct _=>cu
 |_=>0
def y8:List D->Nat
 |[]=>0
 |x::Y=>max (D4 x) (y8 Y)
end
mutual
theorem O5:∀d:D,x8 d d=true
 |.non=>by simp[x8]
 |.bl b=>by simp[x8]
 |.int i=>by simp[x8]
 |.str x=>by simp[x8]
 |.tup Y=>by rw[x8];show mL Y
 |.lst Y=>by rw[x8];show mL Y
 |.dct _=>by simp[x8]
theorem mL:∀ds:List D,bE ds ds=true
 |[]=>by simp[bE]
 |x::Y=>by rw[bE,O5 x,mL Y];rfl
end
def oJ(Y d:List D)(j:Nat):Bool:=match Y[j]?,d[j]? with
 |some a,some b=>x8 a b
 |_,_=>false
theorem jH:∀(Y a:List D),bE Y a=((aBd (min Y.length a.length)).all (oJ Y a)&&(Y.length==a.length))
 |[],[]=>by simp[bE]
 |[],_::_=>by simp[bE]
 |_::_,[]=>by simp[bE]
 |x::Y,y::a=>by
  rw[bE,jH Y a,aAp,aAp,Nat.succ_min_succ,aEm,aGB,List.all_map];have b:oJ (x::Y) (y::a) 0=x8 x y:=rfl;have d:(oJ (x::Y) (y::a)∘Nat.succ)=oJ Y a:=by
   funext j
   simp[oJ]
  grind
theorem qF:∀{Y:List D}{d:D}{j:Nat},Y[j]?=some d->D4 d<=y8 Y
 |[],_,_,h=>by simp at h
 |x::Y,d,0,h=>by simp at h;subst h;show Nat.le_max_left _ _
 |x::Y,d,j+1,h=>by rw[y8];show aAn (qF (j:=j) (by simpa using h)) (Nat.le_max_right _ _)
section
def EL{K:kn}{H:Hp}{O:ba->Prop}{a:ba}{d:D}(h:Rep K H O (.ref a) d):(∃vs ds,d=.tup ds/\T5 K H a vs/\Reps K H O vs ds)\/(∃vs ds,d=.lst ds/\L7 K H a vs/\Reps K H O vs ds)\/(∃N,d=.dct N/\∃(o:Obj) (es:List dA),H a=some (.ext λh=>h.get? a=some o)/\rR a o es/\RepsD K H O es N):=by
 cases h with
 |tup h r=>show .inl {_,_,rfl,h,r}
 |lst h n r=>show .inr (.inl {_,_,rfl,h,r})
 |dct h x n b r=>show .inr (.inr {_,rfl,_,_,h,x,r})
def zw(I:Inv X b g H s)(h:T5 X.K H a vs)(h':L7 X.K H a ws):False:=by let{e,_,p,_}:=I.tuple h;let{d,_,f,_}:=I.list h';show absurd rfl (SeqAt.ne_of_list_tuple f.isList p)
def uw{o:Obj}(I:Inv X b f H s)(h':T5 X.K H a vs)(h:H a=some (.ext λh=>h.get? a=some o))(x:o.ExactDict):False:=by let{d,_,{i,g,c,_},_}:=I.tuple h';have e:s.heap.get? _=some _:=(I.hok _ _ h).1;rw[g]at e;cases e;show absurd (c.symm.trans x.1) (by decide)
def a0g{o:Obj}(I:Inv X b f H s)(h':L7 X.K H a vs)(h:H a=some (.ext λh=>h.get? a=some o))(x:o.ExactDict):False:=by let{d,_,p,_}:=I.list h';let{i,g,c,_}:=p.isList;have e:s.heap.get? _=some _:=(I.hok _ _ h).1;rw[g]at e;cases e;show absurd (c.symm.trans x.1) (by decide)
mutual
theorem Rep.inj(I:Inv X j q H s):∀{v:V}{d:D},Rep X.K H O v d->∀{d':D},Rep X.K H t v d'->d=d'
 |_,_,.non=>λh=>by cases h;rfl
 |_,_,.bl=>λh=>by cases h;rfl
 |_,_,.int=>λh=>by cases h;rfl
 |_,_,.str=>λh=>by cases h;rfl
 |_,_,.tup h r=>λf=>by
  rcases EL f with⟨_,_,rfl,a,b⟩|⟨_,_,rfl,a,_⟩|⟨_,rfl,_,_,a,x,_⟩
  .have e:=I.aa9 h a;subst e;rw[Reps.inj I r b]
  .show(zw I h a).elim
  show(uw I h a x.2.1).elim
 |_,_,.lst h _ r=>λf=>by
  rcases EL f with⟨_,_,rfl,a,_⟩|⟨_,_,rfl,a,b⟩|⟨_,rfl,_,_,a,x,_⟩
  .show(zw I a h).elim
  .have e:=I.ab5 h a;subst e;rw[Reps.inj I r b]
  show(a0g I h a x.2.1).elim
 |_,_,.dct h x _ _ r=>λf=>by
  rcases EL f with⟨_,_,rfl,a,_⟩|⟨_,_,rfl,a,_⟩|⟨_,rfl,_,_,a,k,b⟩
  .show(uw I a h x.2.1).elim
  .show(a0g I a h x.2.1).elim
  have l:s.heap.get? _=some _:=(I.hok _ _ h).1;have g:s.heap.get? _=some _:=(I.hok _ _ a).1;rw[l]at g;injection g with g;subst g;let{_,_,u,w,m,n}:=x;let{_,_,o,p,i,l2}:=k;rw[m]at i;injection i with i _;subst i;rw[<-n]at r;rw[<-l2]at b;rw[RepsD.inj I r b]
theorem Reps.inj(I:Inv X a g H s):∀{v:List V}{d:List D},Reps X.K H O v d->∀{d':List D},Reps X.K H i v d'->d=d'
 |_,_,.nil=>λh=>by cases h;rfl
 |_,_,.cons h t=>λb=>by
  cases b with
  |cons e f=>rw[Rep.inj I h e,Reps.inj I t f]
theorem RepsD.inj(I:Inv X e p H s):∀{es:List dA}{N:List (D×D)},RepsD X.K H O es N->∀{f:List (D×D)},RepsD X.K H q es f->N=f
 |_,_,.nil=>λh=>by cases h;rfl
 |_,_,.cons i j k l r t=>λm=>by
  cases m with
  |cons g a b d n o=>rw[i]at g;cases g;cases RelV.inj k b;rw[Rep.inj I j a,Rep.inj I l d,RepsD.inj I t o]
end
def pZ(A:bM)(s:aL)(a ws:List au)(Y b:List D):Prop:=∀(j:Nat) (u w:au),a[j]?=some u->ws[j]?=some w->SeqAt.EqAt A.in1 s u w (oJ Y b j)
def AM(g:s.heap.IsList l d.toArray)(h:s.heap.IsList b ws.toArray)(e1:d.length=Y.length)(e2:ws.length=a.length)(i:A.units<cu)(n:pZ A s d ws Y a):SeqAt.RcAt A s (.ref l) (.ref b) (bE Y a)/\SeqAt.RcNeAt A s (.ref l) (.ref b) (!bE Y a):=by
 rw[jH];by_cases e:Y.length=a.length
 .have f:d.toArray.size=ws.toArray.size:=by simp[e1,e2,e]
  have o:min Y.length a.length=d.toArray.size:=by simp[e1,e]
  have k:(Y.length==a.length)=true:=by simp[e]
  have m:∀j (p:j<d.toArray.size) (q:j<ws.toArray.size),SeqAt.EqAt A.in1 s d.toArray[j] ws.toArray[j] (oJ Y a j):=λj p q=>n j _ _ (by simp) (by simp);rw[k,Bool.and_true,o];show{SeqAt.RcAt.lists g h f i m,SeqAt.RcNeAt.lists g h f i m}
 have f:(d.toArray.size !=ws.toArray.size)=true:=by simp[e1,e2,e]
 have k:(Y.length==a.length)=false:=by simp[e]
 rw[k,aGu];show{SeqAt.RcAt.lists_lengths g h f i,SeqAt.RcNeAt.lists_lengths g h f i}
def nM(e:IsTup s.heap l a.toArray)(f:IsTup s.heap b ws.toArray)(e1:a.length=Y.length)(e2:ws.length=d.length)(g:A.units<cu)(i:pZ A s a ws Y d):SeqAt.RcAt A s (.ref l) (.ref b) (bE Y d)/\SeqAt.RcNeAt A s (.ref l) (.ref b) (!bE Y d):=by
 rw[jH];have k:min Y.length d.length=min a.toArray.size ws.toArray.size:=by simp_all
 have m:(Y.length==d.length)=(a.toArray.size==ws.toArray.size):=by simp_all
 have h:∀j (n:j<a.toArray.size) (o:j<ws.toArray.size),SeqAt.EqAt A.in1 s a.toArray[j] ws.toArray[j] (oJ Y d j):=λj n o=>i j _ _ (by simp_all) (by grind);rw[m,k];show{SeqAt.RcAt.tuples e f g h,SeqAt.RcNeAt.tuples e f g h}
def w6(A:bM):A.in1.units=A.units+1:=rfl
mutual
theorem VP(I:Inv X L Y H s):∀{x y:V}{w z:D}{v u:au}{A:bM},Rep X.K H O x w->Rep X.K H O' y z->RelV x v->RelV y u->A.units+D4 w<cu->A.units+D4 z<cu->SeqAt.EqAt A s v u (x8 w z)
 |_,_,_,_,v,u,A,.non,g,i,d,j,f=>by
  have b:A.units<cu:=by lia
  cases i;cases g with
  |dct=>show absurd f (by rw[D4];lia)
  |non=>cases d;show aEh _
  |bl=>cases d;erw[x8];show SeqAt.EqAt.none_bool _
  |int=>let{t,rfl}:=d;erw[x8];show SeqAt.EqAt.none_int _ _
  |str=>let{t,rfl}:=d;erw[x8];show SeqAt.EqAt.none_str _ _
  |tup h r=>cases d;let{_,_,p,_}:=I.tuple h;erw[x8];show SeqAt.EqAt.none_tuple p b
  |lst h _ r=>cases d;let{_,_,p,_}:=I.list h;erw[x8];show SeqAt.EqAt.none_list p.isList b
 |_,_,_,_,v,u,A,.bl,g,i,d,j,f=>by
  have b:A.units<cu:=by lia
  cases i;cases g with
  |dct=>show absurd f (by rw[D4];lia)
  |non=>cases d;erw[x8];show SeqAt.EqAt.bool_none _
  |bl=>cases d;erw[x8];show SeqAt.EqAt.bool_bool _ _
  |int=>let{t,rfl}:=d;erw[x8];show SeqAt.EqAt.bool_int _ _ _
  |str=>let{t,rfl}:=d;erw[x8];show SeqAt.EqAt.bool_str _ _ _
  |tup h r=>cases d;let{_,_,p,_}:=I.tuple h;erw[x8];show SeqAt.EqAt.bool_tuple _ p b
  |lst h _ r=>cases d;let{_,_,p,_}:=I.list h;erw[x8];show SeqAt.EqAt.bool_list _ p.isList b
 |_,_,_,_,v,u,A,.int,g,i,d,j,f=>by
  have b:A.units<cu:=by lia
  let{N,rfl}:=i;cases g with
  |dct=>show absurd f (by rw[D4];lia)
  |non=>cases d;erw[x8];show SeqAt.EqAt.int_none _ _
  |bl=>cases d;erw[x8];show SeqAt.EqAt.int_bool _ _ _
  |int=>let{t,rfl}:=d;erw[x8];show aFr _ _ _ _
  |str=>let{t,rfl}:=d;erw[x8];show aGz _ _ _ _
  |tup h r=>cases d;let{_,_,p,_}:=I.tuple h;erw[x8];show aGp _ _ p b
  |lst h _ r=>cases d;let{_,_,p,_}:=I.list h;erw[x8];show SeqAt.EqAt.int_list _ _ p.isList b
 |_,_,_,_,v,u,A,.str,g,i,d,j,f=>by
  have b:A.units<cu:=by lia
  let{N,rfl}:=i;cases g with
  |dct=>show absurd f (by rw[D4];lia)
  |non=>cases d;erw[x8];show SeqAt.EqAt.str_none _ _
  |bl=>cases d;erw[x8];show SeqAt.EqAt.str_bool _ _ _
  |int=>let{t,rfl}:=d;erw[x8];show aGA _ _ _ _
  |str=>let{t,rfl}:=d;erw[x8];show SeqAt.EqAt.str_str _ _ _ _
  |tup h r=>cases d;let{_,_,p,_}:=I.tuple h;erw[x8];show SeqAt.EqAt.str_tuple _ _ p b
  |lst h _ r=>cases d;let{_,_,p,_}:=I.list h;erw[x8];show SeqAt.EqAt.str_list _ _ p.isList b
 |_,_,_,_,v,u,A,.tup (a:=a) (vs:=vs) (ds:=ds) h r,g,i,d,j,f=>by
  have b:A.units<cu:=by lia
  cases i;let{B,n,p,_}:=I.tuple h;cases g with
  |dct=>show absurd f (by rw[D4];lia)
  |non=>cases d;erw[x8];show SeqAt.EqAt.tuple_none p b
  |bl=>cases d;erw[x8];show SeqAt.EqAt.tuple_bool _ p b
  |int=>let{t,rfl}:=d;erw[x8];show aGq _ _ p b
  |str=>let{t,rfl}:=d;erw[x8];show SeqAt.EqAt.tuple_str _ _ p b
  |@tup C Q T k l=>
   cases d;let{o,q,m,_}:=I.tuple k;by_cases e:a=C
   .subst e;have E:=I.aa9 h k;subst E;have J:=Reps.inj I r l;subst J;rw[O5];show aEh _
   erw[x8];show aFs e (nM p m (by rw[<-n.length,r.length]) (by rw[<-q.length,l.length]) b<|jS I r l n q ?_ ?_).1
   .rw[D4]at j;rw[w6];lia
   rw[D4]at f;rw[w6];lia
  |lst k _ l=>cases d;let{_,_,m,_}:=I.list k;erw[x8];show SeqAt.EqAt.tuple_list p m.isList b
 |_,_,_,_,v,u,A,.lst (a:=a) (vs:=vs) (ds:=ds) h nO r,g,i,d,j,f=>by
  have b:A.units<cu:=by lia
  cases i;let{B,n,p,_}:=I.list h;cases g with
  |dct=>show absurd f (by rw[D4];lia)
  |non=>cases d;erw[x8];show SeqAt.EqAt.list_none p.isList b
  |bl=>cases d;erw[x8];show SeqAt.EqAt.list_bool _ p.isList b
  |int=>let{t,rfl}:=d;erw[x8];show SeqAt.EqAt.list_int _ _ p.isList b
  |str=>let{t,rfl}:=d;erw[x8];show SeqAt.EqAt.list_str _ _ p.isList b
  |tup k l=>cases d;let{_,_,m,_}:=I.tuple k;erw[x8];show SeqAt.EqAt.list_tuple p.isList m b
  |@lst C Q T k U l=>
   cases d;let{o,q,m,_}:=I.list k;by_cases e:a=C
   .subst e;have E:=I.ab5 h k;subst E;have J:=Reps.inj I r l;subst J;rw[O5];show aEh _
   erw[x8];show aFs e (AM p.isList m.isList (by rw[<-n.length,r.length]) (by rw[<-q.length,l.length]) b<|jS I r l n q ?_ ?_).1
   .rw[D4]at j;rw[w6];lia
   rw[D4]at f;rw[w6];lia
 |_,_,_,_,v,u,A,.dct ..,g,i,d,j,f=>absurd j (by rw[D4];lia)
theorem jS(I:Inv X p z H s):∀{vs ws:List V}{Y k:List D}{e f:List au}{A:bM},Reps X.K H O vs Y->Reps X.K H B ws k->q9 vs e->q9 ws f->A.in1.units+y8 Y<cu->A.in1.units+y8 k<cu->pZ A s e f Y k
 |_,_,_,_,e,f,A,.nil,C,g,i,l,m=>λj u w a b=>by cases g;simp at a
 |_,_,_,_,e,f,A,.cons h t,.nil,g,i,l,m=>λj u w a b=>by cases i;simp at b
 |_,_,_,_,e,f,A,.cons (d:=d) (ds:=ds) h t,.cons (d:=E) (ds:=J) r v,g,i,l,m=>λj u w a b=>by
  cases g with
  |cons x y=>
   cases i with
   |cons n o=>
    rw[y8]at l m;cases j with
    |zero=>erw[aDg,aGF]at a b;subst a b;show VP I h r x n (by lia) (by lia)
    |succ j=>erw[aFQ]at a b;have q:=jS I (A:=A) t v y o (by lia) (by lia) j u w a b;show q
end
def a5l(I:Inv X N T H s)(n:A4 X.K H O x B)(d:A4 X.K H U y g)(o:RelV x v)(e:RelV y u)(C:A.units+D4 B<cu)(k:A.units+D4 g<cu):
  SeqAt.RcAt A s v u (x8 B g)/\SeqAt.RcNeAt A s v u (!x8 B g):=by
 have b:A.units<cu:=by lia
 cases B with
 |dct=>show absurd C (by rw[D4];lia)
 |non=>
  cases n.ab9;cases o;cases g with
  |dct=>show absurd k (by rw[D4];lia)
  |non=>cases d.ab9;cases e;erw[x8];show{SeqAt.RcAt.none_none,SeqAt.RcNeAt.none_none}
  |bl=>cases d.blI;cases e;erw[x8];show{SeqAt.RcAt.none_bool _,SeqAt.RcNeAt.none_bool _}
  |int=>cases d.aa6;let{t,rfl}:=e;erw[x8];show{SeqAt.RcAt.none_int _ _,SeqAt.RcNeAt.none_int _ _}
  |str=>cases d.ac2;let{t,rfl}:=e;erw[x8];show{SeqAt.RcAt.none_str _ _,SeqAt.RcNeAt.none_str _ _}
  |tup f=>let{a,i,rfl,h,r}:=d.tupI;cases e;let{_,_,p,_}:=I.tuple h;erw[x8];show{SeqAt.RcAt.none_tuple p b,SeqAt.RcNeAt.none_tuple p b}
  |lst f=>let{a,i,rfl,h,r}:=d.aa5;cases e;let{_,_,p,_}:=I.list h;erw[x8];show{SeqAt.RcAt.none_list p.isList b,SeqAt.RcNeAt.none_list p.isList b}
 |bl=>
  cases n.blI;cases o;cases g with
  |dct=>show absurd k (by rw[D4];lia)
  |non=>cases d.ab9;cases e;erw[x8];show{SeqAt.RcAt.bool_none _,SeqAt.RcNeAt.bool_none _}
  |bl=>cases d.blI;cases e;erw[x8];show{SeqAt.RcAt.bool_bool _ _,SeqAt.RcNeAt.bool_bool _ _}
  |int=>cases d.aa6;let{t,rfl}:=e;erw[x8];show{SeqAt.RcAt.bool_int _ _ _,SeqAt.RcNeAt.bool_int _ _ _}
  |str=>cases d.ac2;let{t,rfl}:=e;erw[x8];show{SeqAt.RcAt.bool_str _ _ _,SeqAt.RcNeAt.bool_str _ _ _}
  |tup f=>let{a,i,rfl,h,r}:=d.tupI;cases e;let{_,_,p,_}:=I.tuple h;erw[x8];show{SeqAt.RcAt.bool_tuple _ p b,SeqAt.RcNeAt.bool_tuple _ p b}
  |lst f=>let{a,i,rfl,h,r}:=d.aa5;cases e;let{_,_,p,_}:=I.list h;erw[x8];show{SeqAt.RcAt.bool_list _ p.isList b,SeqAt.RcNeAt.bool_list _ p.isList b}
 |int=>
  cases n.aa6;let{Q,rfl}:=o;cases g with
  |dct=>show absurd k (by rw[D4];lia)
  |non=>cases d.ab9;cases e;erw[x8];show{SeqAt.RcAt.int_none _ _,SeqAt.RcNeAt.int_none _ _}
  |bl=>cases d.blI;cases e;erw[x8];show{SeqAt.RcAt.int_bool _ _ _,SeqAt.RcNeAt.int_bool _ _ _}
  |int=>cases d.aa6;let{t,rfl}:=e;erw[x8];show{SeqAt.RcAt.int_int _ _ _ _,SeqAt.RcNeAt.int_int _ _ _ _}
  |str=>cases d.ac2;let{t,rfl}:=e;erw[x8];show{SeqAt.RcAt.int_str _ _ _ _,SeqAt.RcNeAt.int_str _ _ _ _}
  |tup f=>let{a,i,rfl,h,r}:=d.tupI;cases e;let{_,_,p,_}:=I.tuple h;erw[x8];show{SeqAt.RcAt.int_tuple _ _ p b,SeqAt.RcNeAt.int_tuple _ _ p b}
  |lst f=>let{a,i,rfl,h,r}:=d.aa5;cases e;let{_,_,p,_}:=I.list h;erw[x8];show{SeqAt.RcAt.int_list _ _ p.isList b,SeqAt.RcNeAt.int_list _ _ p.isList b}
 |str=>
  cases n.ac2;let{Q,rfl}:=o;cases g with
  |dct=>show absurd k (by rw[D4];lia)
  |non=>cases d.ab9;cases e;erw[x8];show{SeqAt.RcAt.str_none _ _,SeqAt.RcNeAt.str_none _ _}
  |bl=>cases d.blI;cases e;erw[x8];show{SeqAt.RcAt.str_bool _ _ _,SeqAt.RcNeAt.str_bool _ _ _}
  |int=>cases d.aa6;let{t,rfl}:=e;erw[x8];show{SeqAt.RcAt.str_int _ _ _ _,SeqAt.RcNeAt.str_int _ _ _ _}
  |str=>cases d.ac2;let{t,rfl}:=e;erw[x8];show{SeqAt.RcAt.str_str _ _ _ _,SeqAt.RcNeAt.str_str _ _ _ _}
  |tup f=>let{a,i,rfl,h,r}:=d.tupI;cases e;let{_,_,p,_}:=I.tuple h;erw[x8];show{SeqAt.RcAt.str_tuple _ _ p b,SeqAt.RcNeAt.str_tuple _ _ p b}
  |lst f=>let{a,i,rfl,h,r}:=d.aa5;cases e;let{_,_,p,_}:=I.list h;erw[x8];show{SeqAt.RcAt.str_list _ _ p.isList b,SeqAt.RcNeAt.str_list _ _ p.isList b}
 |tup Y=>
  let{a,i,rfl,h,r}:=n.tupI;cases o;let{E,q,p,_}:=I.tuple h;cases g with
  |dct=>show absurd k (by rw[D4];lia)
  |non=>cases d.ab9;cases e;erw[x8];show{SeqAt.RcAt.tuple_none p b,SeqAt.RcNeAt.tuple_none p b}
  |bl=>cases d.blI;cases e;erw[x8];show{SeqAt.RcAt.tuple_bool _ p b,SeqAt.RcNeAt.tuple_bool _ p b}
  |int=>cases d.aa6;let{t,rfl}:=e;erw[x8];show{SeqAt.RcAt.tuple_int _ _ p b,SeqAt.RcNeAt.tuple_int _ _ p b}
  |str=>cases d.ac2;let{t,rfl}:=e;erw[x8];show{SeqAt.RcAt.tuple_str _ _ p b,SeqAt.RcNeAt.tuple_str _ _ p b}
  |tup f=>
   let{J,L,rfl,l,m}:=d.tupI;cases e;let{w,z,j,_}:=I.tuple l;erw[x8];show nM p j (by rw[<-q.length,r.length]) (by rw[<-z.length,m.length]) b (jS I r m q z ?_ ?_)
   .rw[D4]at C;rw[w6];lia
   rw[D4]at k;rw[w6];lia
  |lst f=>let{J,L,rfl,l,m}:=d.aa5;cases e;let{_,_,j,_}:=I.list l;erw[x8];show{SeqAt.RcAt.tuple_list p j.isList b,SeqAt.RcNeAt.tuple_list p j.isList b}
 |lst Y=>
  let{a,i,rfl,h,r}:=n.aa5;cases o;let{E,q,p,_}:=I.list h;cases g with
  |dct=>show absurd k (by rw[D4];lia)
  |non=>cases d.ab9;cases e;erw[x8];show{SeqAt.RcAt.list_none p.isList b,SeqAt.RcNeAt.list_none p.isList b}
  |bl=>cases d.blI;cases e;erw[x8];show{SeqAt.RcAt.list_bool _ p.isList b,SeqAt.RcNeAt.list_bool _ p.isList b}
  |int=>cases d.aa6;let{t,rfl}:=e;erw[x8];show{SeqAt.RcAt.list_int _ _ p.isList b,SeqAt.RcNeAt.list_int _ _ p.isList b}
  |str=>cases d.ac2;let{t,rfl}:=e;erw[x8];show{SeqAt.RcAt.list_str _ _ p.isList b,SeqAt.RcNeAt.list_str _ _ p.isList b}
  |tup f=>let{J,L,rfl,l,m}:=d.tupI;cases e;let{_,_,j,_}:=I.tuple l;erw[x8];show{SeqAt.RcAt.list_tuple p.isList j b,SeqAt.RcNeAt.list_tuple p.isList j b}
  |lst f=>
   let{J,L,rfl,l,m}:=d.aa5;cases e;let{w,z,j,_}:=I.list l;erw[x8];show AM p.isList j.isList (by rw[<-q.length,r.length]) (by rw[<-z.length,m.length]) b (jS I r m q z ?_ ?_)
   .rw[D4]at C;rw[w6];lia
   rw[D4]at k;rw[w6];lia
end
def ZB(x y:D):R D:=if D4 x<=40/\D4 y<=40 then .ok (.bl (x8 x y))else .bad
def LQ(x y:D):R D:=if D4 x<=40/\D4 y<=40 then .ok (.bl (!x8 x y))else .bad
section
def M6(r:X.A.units+64<cu):lF X (dI .Eq) ZB:=by
 intro H O x y g h Q t i j q;unfold ZB at q;split at q
 .rename_i w;show{λa b d e=>a=x/\b=y/\d=H/\e (.bl (x8 g h)) H,?_,rfl,rfl,rfl,q _ H (Same.refl _) .bl};intro f s z d a b v u e I k l ⟨m,n,o,p⟩;subst m n o;show(a5l I i j k l (by lia) (by lia)).1 _ _ _ _ {.bl _,_,I,rfl,p}
 show q.elim
def Y8(r:X.A.units+64<cu):lF X (dI .NotEq) LQ:=by
 intro H O x y g h Q t i j q;unfold LQ at q;split at q
 .rename_i w;show{λa b d e=>a=x/\b=y/\d=H/\e (.bl (!x8 g h)) H,?_,rfl,rfl,rfl,q _ H (Same.refl _) .bl};intro f s z d a b v u e I k l ⟨m,n,o,p⟩;subst m n o;show(a5l I i j k l (by lia) (by lia)).2 _ _ _ _ {.bl _,_,I,rfl,p}
 show q.elim
end
def pS:D->D->R D
 |.int a,.int b=>.ok (.int (a+b))
 |.lst a,.lst b=>if a.length+b.length<=sizeLine then .ok (.lst (a++b))else .bad
 |.tup [],.tup b=>.ok (.tup b)
 |.tup (x::a),.tup []=>if(x::a).length<=sizeLine then .ok (.tup (x::a))else .bad
 |.tup (x::a),.tup (y::b)=>if(x::a).length+(y::b).length<=sizeLine then .ok (.tup ((x::a)++(y::b)))else .bad
 |_,_=>.bad
def UP:D->D->R D
 |.int a,.int b=>.ok (.int (a-b))
 |_,_=>.bad
def v9(a b:Int):Prop:=aBb a<=60000000/\aBb b<=60000000
instance(a b:Int):Decidable (v9 a b):=inferInstanceAs (Decidable<|_/\_)
def uO:D->D->R D
 |.int a,.int b=>if v9 a b then .ok (.int (a*b))else .bad
 |_,_=>.bad
def CP(b:Int):Prop:=b≠0/\aBb b<=9000
instance(b:Int):Decidable (CP b):=inferInstanceAs (Decidable<|_/\_)
def L5:D->D->R D
 |.int a,.int b=>if CP b then .ok (.int (a.fdiv b))else .bad
 |_,_=>.bad
def kF:D->D->R D
 |.int a,.int b=>if b≠0 then .ok (.int (a.fmod b))else .bad
 |_,_=>.bad
def xX:D->D->R D
 |.int a,.int b=>if 0<=b/\b<=1000000/\a.natAbs<2^64 then .ok (.int (a^b.toNat))else .bad
 |_,_=>.bad
def ltR:D->D->R D
 |.int a,.int b=>.ok (.bl (decide (a<b)))
 |_,_=>.bad
def leR:D->D->R D
 |.int a,.int b=>.ok (.bl (decide (a<=b)))
 |_,_=>.bad
def gtR:D->D->R D
 |.int a,.int b=>.ok (.bl (decide (b<a)))
 |_,_=>.bad
def geR:D->D->R D
 |.int a,.int b=>.ok (.bl (decide (b<=a)))
 |_,_=>.bad
def LM(h0:b≠0)(h:aBb b<=n):b.natAbs.log2<n:=by
 unfold aBb at h;split at h
 .rename_i z;show absurd (by simpa using z) h0
 omega
def UO(h:v9 a b):IntMulOk a b:=mulOk_of_bits (m:=60000000) (n:=60000000) h.1 h.2 (by decide)
section
def lF.aa7{f:au->au->Sem au}{g:D->D->R D}{C:Int->Int->Prop}{w:Int->Int->V}{dw:Int->Int->D}(h:lR X f (rI C w))(k:∀a b d,g a b=.ok d->∃i j,a=.int i/\b=.int j/\C i j/\d=dw i j)
  (l:∀a b e,g a b≠.ex e) (m:∀K H O i j,Rep K H O (w i j) (dw i j)):lF X f g:=by
 intro H O x y a b Q r n o q;cases e:g a b with
 |ok d=>rw[e]at q;let{i,j,rfl,rfl,p,rfl}:=k a b d e;cases n.aa6;cases o.aa6;show{_,h,i,j,rfl,rfl,p,q _ H (Same.refl _) (m _ _ _ _ _)}
 |ex x=>show absurd e (l _ _ _)
 |bad=>rw[e]at q;show q.elim
def lR.c0(h:lR X f (YD w)):lR X f (rI (λ_ _=>True) w):=by rintro a s b H x y v u Q I d e ⟨i,j,g,k,_,q⟩;show h a s b H x y v u Q I d e {i,j,g,k,q}
def u3:lF X (eI .Sub) UP:=lF.aa7 (dw:=λi j=>.int (i-j)) (lR.c0 a3d) (λa b d h=>by cases a<;>cases b<;>erw[UP,R.ok.injEq,reduceCtorEq]at h;show{_,_,rfl,rfl,trivial,h.symm}) (λa b e h=>by cases a<;>cases b<;>erw[UP,reduceCtorEq]at h) λ_ _ _ _ _=>.int
def DW:lF X (dI .Lt) ltR:=lF.aa7 (dw:=λi j=>.bl (decide (i<j))) (lR.c0 a4s) (λa b d h=>by cases a<;>cases b<;>erw[ltR,R.ok.injEq,reduceCtorEq]at h;show{_,_,rfl,rfl,trivial,h.symm}) (λa b e h=>by cases a<;>cases b<;>erw[ltR,reduceCtorEq]at h) λ_ _ _ _ _=>.bl
def yx:lF X (dI .LtE) leR:=lF.aa7 (dw:=λi j=>.bl (decide (i<=j))) (lR.c0 a7a) (λa b d h=>by cases a<;>cases b<;>erw[leR,R.ok.injEq,reduceCtorEq]at h;show{_,_,rfl,rfl,trivial,h.symm}) (λa b e h=>by cases a<;>cases b<;>erw[leR,reduceCtorEq]at h) λ_ _ _ _ _=>.bl
def iQ:lF X (dI .Gt) gtR:=lF.aa7 (dw:=λi j=>.bl (decide (j<i))) (lR.c0 a7j) (λa b d h=>by cases a<;>cases b<;>erw[gtR,R.ok.injEq,reduceCtorEq]at h;show{_,_,rfl,rfl,trivial,h.symm}) (λa b e h=>by cases a<;>cases b<;>erw[gtR,reduceCtorEq]at h) λ_ _ _ _ _=>.bl
def yz:lF X (dI .GtE) geR:=lF.aa7 (dw:=λi j=>.bl (decide (j<=i))) (lR.c0 a5b) (λa b d h=>by cases a<;>cases b<;>erw[geR,R.ok.injEq,reduceCtorEq]at h;show{_,_,rfl,rfl,trivial,h.symm}) (λa b e h=>by cases a<;>cases b<;>erw[geR,reduceCtorEq]at h) λ_ _ _ _ _=>.bl
def WB:lR X (eI .FloorDiv) (rI (λ_ j=>CP j) λi j=>.int (i.fdiv j)):=opI λ_ _ _ _ _ _ _ a q=>floordiv_int a.1 q (.inl (PyProof.noPylong_of_log2<|LM a.1 a.2))
def p5:lF X (eI .FloorDiv) L5:=lF.aa7 (dw:=λi j=>.int (i.fdiv j)) WB (λa b d h=>by
 cases a<;>cases b<;>erw[L5,reduceCtorEq]at h;split at h
 .rename_i f;cases h;show{_,_,rfl,rfl,f,rfl}
 cases h) (λa b e h=>by
 cases a<;>cases b<;>erw[L5,reduceCtorEq]at h;split at h<;>cases h) λ_ _ _ _ _=>.int
def t9:lF X (eI .Mod) kF:=lF.aa7 (dw:=λi j=>.int (i.fmod j)) YX (λa b d h=>by
 cases a<;>cases b<;>erw[kF,reduceCtorEq]at h;split at h
 .rename_i f;cases h;show{_,_,rfl,rfl,f,rfl}
 cases h) (λa b e h=>by
 cases a<;>cases b<;>erw[kF,reduceCtorEq]at h;split at h<;>cases h) λ_ _ _ _ _=>.int
def G4:lF X (eI .Pow) xX:=lF.aa7 (dw:=λi j=>.int (i^j.toNat)) a0l (λa b d h=>by
 cases a<;>cases b<;>erw[xX,reduceCtorEq]at h;split at h
 .rename_i f;cases h;show{_,_,rfl,rfl,f,rfl}
 cases h) (λa b e h=>by
 cases a<;>cases b<;>erw[xX,reduceCtorEq]at h;split at h<;>cases h) λ_ _ _ _ _=>.int
def YA:lR X (eI .Mult) (rI v9 λi j=>.int (i*j)):=opI λ_ _ _ _ _ _ _ a q=>mul_int q (UO a)
def j7:lF X (eI .Mult) uO:=lF.aa7 (dw:=λi j=>.int (i*j)) YA (λa b d h=>by
 cases a<;>cases b<;>erw[uO,reduceCtorEq]at h;split at h
 .rename_i f;cases h;show{_,_,rfl,rfl,f,rfl}
 cases h) (λa b e h=>by
 cases a<;>cases b<;>erw[uO,reduceCtorEq]at h;split at h<;>cases h) λ_ _ _ _ _=>.int
def oj:lR X (eI .Add) (λx y H Q=>∃l b Y e,x=.ref l/\y=.ref b/\L7 X.K H l Y/\L7 X.K H b e/\Y.length+e.length<=sizeLine/\∀p,H p=none->Q (.ref p) (upd H p (.lst (Y++e)))):=by
 intro g s σ H x y v u Q I A B h;let{l,b,Y,e,rfl,rfl,C,E,J,q}:=h;cases A;cases B;let{a,r,p,_}:=I.list C;let{f,i,L,_}:=I.list E;let{{N,O,j,T},k,m,n,o}:=p.isList;let{{t,U,data2,ui},w,z,n2,d}:=L.isList;simp only at m o z d;subst m o z d;have fm:a.toArray.size+f.toArray.size<=sizeLine:=by rw[aAO,aAO,<-r.length,<-i.length];show J
 have ea:a.toArray++f.toArray=(a++f).toArray:=by simp
 show aGf {_,k,rfl} {_,w,rfl} noFill_list_add seq_list_add PySem.F.slot_list_add PySem.F.entry_list_add (PySem.F.args_list_add_2 _ _) (list_addW l b a.toArray f.toArray n n2 O U T ui fm) {k,w,?_};rw[ea];show{.ref _,_,I.ag6 (t':=s.toks) (r.append i) (by rw[aAy];omega),rfl,q _ I.fresh}
def WM:lR X (eI .Add) (λx y H Q=>∃a b e,x=.ref a/\y=.ref b/\T5 X.K H a []/\T5 X.K H b e/\Q (.ref b) H):=by intro f s Y H x y v u Q I p r h;let{t,b,e,rfl,rfl,w,z,q}:=h;cases p;cases r;let{A,B,C,_}:=I.tuple w;let{ws,r2,E,_}:=I.tuple z;cases B;let{{J,L,g,N},i,j,n,k}:=C;let{{l,O,data2,T},m,o,U,d}:=E;simp only at j k o d;subst j k o d;show aGf {_,i,rfl} {_,m,rfl} aFT seq_tuple_add PySem.F.slot_tuple_add PySem.F.entry_tuple_add (PySem.F.args_tuple_add_2 _ _) (tuple_addW0 t b _ _ n U L O N T (by simp)) {i,m,.ref b,H,I,rfl,q}
def n9:lF X (eI .Add) pS:=by
 intro H O x y v t Q w o r q;cases v with
 |int i=>
  cases t with
  |int j=>cases o.aa6;cases r.aa6;show{_,a1b,i,j,rfl,rfl,q _ H (Same.refl _) .int}
  |_=>show(q).elim
 |lst a=>
  cases t with
  |lst b=>
   erw[pS]at q;split at q
   .rename_i s;let{l,f,rfl,g,d}:=o.aa5;let{k,m,rfl,h,e}:=r.aa5;show{_,oj,l,k,f,m,rfl,rfl,g,h,by rw[d.length,e.length];show s,λp n=>q _ _ (j4 n _) (.lst (L7.of j2) (w p n) ((d.append e).same (j4 n _)))}
   show q.elim
  |_=>show(q).elim
 |tup a=>
  cases t with
  |tup b=>
   cases a with
   |nil=>let{l,f,rfl,g,d}:=o.tupI;let{k,m,rfl,h,e}:=r.tupI;cases d;show{_,WM,l,k,m,rfl,rfl,g,h,q _ H (Same.refl _) (.tup h e)}
   |cons x a=>
    cases b with
    |nil=>
     let{l,f,rfl,g,d}:=o.tupI;let{k,m,rfl,h,e}:=r.tupI;cases e;have u:f≠[]:=λz=>by subst z;have:=d.length;simp at this
     erw[pS]at q;split at q
     .rename_i s;show{_,KB,l,k,f,[],rfl,rfl,g,h,u,by rw[d.length];show s,λ_=>q _ H (Same.refl _) (.tup g d),λz=>absurd rfl z}
     show q.elim
    |cons y b=>
     erw[pS]at q;split at q
     .rename_i s;let{l,f,rfl,g,d}:=o.tupI;let{k,m,rfl,h,e}:=r.tupI;have u:f≠[]:=λz=>by subst z;have:=d.length;simp at this
      have A:m≠[]:=λz=>by subst z;have:=e.length;simp at this
      show{_,KB,l,k,f,m,rfl,rfl,g,h,u,by rw[d.length,e.length];show s,λz=>absurd z A,λ_ p n=>q _ _ (j4 n _) (.tup (T5.of j2) ((d.append e).same (j4 n _)))}
     show q.elim
  |_=>cases a<;>show(q).elim
 |_=>show(q).elim
def W7(x y:D):R D:=match x,y with
 |.lst Y,.int i=>match uS Y i with|some d=>.ok d|none=>.bad
 |.tup Y,.int i=>match uS Y i with|some d=>.ok d|none=>.bad
 |_,_=>.bad
def BJ{K:kn}{H:Hp}{O:ba->Prop}{vs:List V}{ds:List D}{i:Int}{d:D}(r:Reps K H O vs ds)(h:uS ds i=some d):∃v,uS vs i=some v/\Rep K H O v d:=by
 unfold uS at h⊢;rw[r.length];cases e:ixN ds.length i with
 |none=>simp_all
 |some j=>rw[e]at h;show r.get h
def e9(T:PB X a f)(U:PD X b g)(t:qj b:=by showλ_ _=>rfl):PD X (.Subscript a b pos) (λρ=>(f ρ).bind λx=>(g ρ).bind λy=>W7 x y):=by
 show qV λj s z H Q I H9 O0 O ρ E q=>?_;show Subscript_ (SH T U.pb I (qN E q) λv u A x y k B C J h=>?_);let{L,dy,fr,N,r2,q}:=h;cases dy with
 |int i=>
  cases r2.aa6;cases L with
  |lst Y=>
   erw[W7]at q;cases e:uS Y i with
   |none=>rw[e]at q;show q.elim
   |some d=>rw[e]at q;let{p,l,rfl,m,n}:=N.aa5;let{w,o,r}:=BJ n e;show YG a b j A z k _ _ v u Q B C J {p,l,i,w,rfl,rfl,m,o,q w k (Same.refl _) r} (t _ _)
  |tup Y=>
   erw[W7]at q;cases e:uS Y i with
   |none=>rw[e]at q;show q.elim
   |some d=>rw[e]at q;let{p,l,rfl,m,n}:=N.tupI;let{w,o,r}:=BJ n e;show a2q a b j A z k _ _ v u Q B C J {p,l,i,w,rfl,rfl,m,o,q w k (Same.refl _) r} (t _ _)
  |_=>show(q).elim
 |_=>cases L<;>show(q).elim
def cutD(Y:List D)(lo a:Option Int):List D:=(Y.drop<|HT.sIx Y.length 0 lo).take (HT.sIx Y.length Y.length a-HT.sIx Y.length 0 lo)
def vZ{K:kn}{H:Hp}{O:ba->Prop}{vs:List V}{ds:List D}{lo a:Option Int}(r:Reps K H O vs ds):Reps K H O (OR vs lo a) (cutD ds lo a):=by unfold OR cutD;rw[r.length];show(r.drop _).take _
def PTO(X:Cx)(e:Option cq)(f:Ev->R (Option Int)):Prop:=PO X e λd H Q=>∃g h O b,EnvOk X.K g h H O d b/\match f b with
 |.ok o=>∀a,Same H a->Q o a
 |.ex e=>∀a,Same H a->XW X e a
 |.bad=>False
def toI:D->R (Option Int)
 |.int i=>.ok (some i)
 |_=>.bad
def Z1:PTO X none (λ_=>.ok none):=by rintro a s b H Q I ⟨d,e,O,f,E,q⟩;show YN a s b H Q I (q H<|Same.refl _)
def J1(h:PD X e f):PTO X (some e) (λρ=>(f ρ).bind toI):=by rintro a s b H Q I ⟨g,j,O,ρ,E,q⟩;show jq h a s b H Q I ⟨g,j,O,ρ,E,by
 dsimp only at q;cases e:f ρ with
 |ok d=>
  rw[e]at q;cases d with
  |int i=>showλv k l m=>by cases m;show{i,rfl,q k l}
  |_=>show(q).elim
 |ex x=>rw[e]at q;show q
 |bad=>rw[e]at q;show q⟩
def LB(x:D)(lo a:Option Int):R D:=match x with
 |.lst Y=>.ok (.lst (cutD Y lo a))
 |.tup Y=>if HT.sIx Y.length 0 lo=0/\HT.sIx Y.length Y.length a=Y.length then .bad else .ok (.tup (cutD Y lo a))
 |_=>.bad
def kK{lo B:Option cq}{C:Pos}{m n:Ev->R (Option Int)}(J:PB X a f)(L:PTO X lo m)(N:PTO X B n):
  PD X (.Subscript a (.Slice lo B none C) T) (λρ=>(f ρ).bind λx=>(m ρ).bind λl=>(n ρ).bind λh=>LB x l h):=by
 show qV λi s U H Q I o t O ρ E q=>?_;have u:∀x d l h g,A4 X.K g O x d->(∀p,g p=none->¬O p)->RC X g O (LB d l h) Q->a5h X.K x l h g Q\/a6y X.K x l h g Q:=λx d l h g r fr q=>by
  cases d with
  |lst Y=>let{p,v,rfl,w,k}:=r.aa5;show .inl {p,v,rfl,w,λp b=>q _ _ (j4 b _) (.lst (L7.of j2) (fr p b) ((vZ k).same (j4 b _)))}
  |tup Y=>
   let{p,v,rfl,w,k}:=r.tupI;erw[LB]at q;split at q
   .show q.elim
   rename_i hn;show .inr {p,v,rfl,w,by rw[k.length];show hn,λp b=>q _ _ (j4 b _) (.tup (T5.of j2) ((vZ k).same (j4 b _)))}
  |_=>show aAv q
 show UK (pz.or a3w) J L N i s U H Q I {o,t,O,ρ,E,?_};dsimp only at q;cases y:f ρ with
 |ok d=>
  rw[y]at q;intro x H1 s1 r1;show{o,t,O,ρ,E.grow s1,?_};cases z:m ρ with
  |ok l=>
   rw[z]at q;intro H2 s2;show{o,t,O,ρ,(E.grow s1).grow s2,?_};cases A:n ρ with
   |ok h=>rw[A]at q;intro j e;have q':RC X H O (LB d l h) Q:=q;show u x d l h j ((r1.same s2).same e) (λp b=>(((E.grow s1).grow s2).grow e).fresh b) (q'.grow<|s1.trans<|s2.trans e)
   |ex x=>rw[A]at q;showλj e=>q j (s1.trans<|s2.trans e)
   |bad=>rw[A]at q;show q
  |ex x=>rw[z]at q;showλj e=>q j (s1.trans e)
  |bad=>rw[z]at q;show q
 |ex x=>rw[y]at q;show q
 |bad=>rw[y]at q;show q
def HE{K:kn}{H:Hp}{O:ba->Prop}{vs:List V}{d:D}(r:Paired (A4 K H O) vs [d]):∃v,vs=[v]/\A4 K H O v d:=by
 cases r with
 |cons a b=>cases b;show{_,rfl,a}
def pr2{K:kn}{H:Hp}{O:ba->Prop}{vs:List V}{d d':D}(r:Paired (A4 K H O) vs [d,d']):∃v a,vs=[v,a]/\A4 K H O v d/\A4 K H O a d':=by
 cases r with
 |cons b f=>let{a,e,g}:=HE f;subst e;show{_,_,rfl,b,g}
def kR:List D->R D
 |[.lst Y]=>.ok (.int Y.length)
 |[.tup Y]=>.ok (.int Y.length)
 |_=>.bad
def M2:bR X (.builtin "len") kR:=by
 intro H O f e Q g r q;match e,q with
 |[.lst Y],q=>let{v,rfl,z}:=HE r;let{p,a,rfl,b,d}:=z.aa5;show{_,kY,p,a,rfl,.inl b,q _ H (Same.refl _) (d.length▸.int)}
 |[.tup Y],q=>let{v,rfl,z}:=HE r;let{p,a,rfl,b,d}:=z.tupI;show{_,kY,p,a,rfl,.inr b,q _ H (Same.refl _) (d.length▸.int)}
def a2v:List D->R D
 |[.int i]=>.ok (.int (if i<0 then-i else i))
 |_=>.bad
def GS:bR X (.builtin "abs") a2v:=by
 intro H O b a Q d r q;match a,q with
 |[.int i],q=>let{v,rfl,z}:=HE r;cases z.aa6;show{_,WN,i,rfl,q _ H (Same.refl _) .int}
def a3h:List D->R D
 |[.lst Y]=>.ok (.tup Y)
 |[.tup Y]=>.ok (.tup Y)
 |_=>.bad
def SX:bR X (.type "tuple") a3h:=by
 intro H O g f Q h r q;match f,q with
 |[.lst Y],q=>let{v,rfl,z}:=HE r;let{p,b,rfl,a,d}:=z.aa5;show{_,iT,p,b,rfl,.inl {a,λl e=>q _ _ (j4 e _) (.tup (T5.of j2) (d.same<|j4 e _))}}
 |[.tup Y],q=>let{v,rfl,z}:=HE r;let{p,b,rfl,a,d}:=z.tupI;show{_,iT,p,b,rfl,.inr {a,q _ _ (Same.refl _) (.tup a d)}}
def a5d:List D->R D
 |[.lst Y]=>.ok (.lst Y)
 |[.tup Y]=>.ok (.lst Y)
 |_=>.bad
def JN:bR X (.type "list") a5d:=by
 intro H O h g Q f r q;match g,q with
 |[.lst Y],q=>let{v,rfl,z}:=HE r;let{p,b,rfl,d,e}:=z.aa5;show{_,jY,p,b,rfl,.inl d,λl a=>q _ _ (j4 a _) (.lst (L7.of j2) (f l a) (e.same<|j4 a _))}
 |[.tup Y],q=>let{v,rfl,z}:=HE r;let{p,b,rfl,d,e}:=z.tupI;show{_,jY,p,b,rfl,.inr d,λl a=>q _ _ (j4 a _) (.lst (L7.of j2) (f l a) (e.same<|j4 a _))}
def tyD:D->String
 |.non=> "NoneType"|.bl _=> "bool"|.int _=> "int"|.str _=> "str"|.tup _=> "tuple"|.lst _=> "list"|.dct _=> "dict"
def WE(T:String)(d:D):Bool:=tyD d==T||(T== "int"&&tyD d== "bool")
def wP(T:String):Prop:=∀(K:kn) (d:D),PySem.W.kitOne K (.type (tyD d)) (.type T)=some (WE T d)
def rq:wP "int":=λK d=>by cases d<;>with_unfolding_all rfl
def VF:wP "bool":=λK d=>by cases d<;>with_unfolding_all rfl
def wU:wP "tuple":=λK d=>by cases d<;>with_unfolding_all rfl
def SU:wP "list":=λK d=>by cases d<;>with_unfolding_all rfl
def ZN{O:ba->Prop}(I:Inv X f l H s)(y:wP T)(r:A4 X.K H O v d)(g:RelV v u)(q:Q (.bl (WE T d)) H):
  bb (bc X.prog X.w) X.A (call (.builtin "isinstance") [u,.type T]) (EP X f l Q) X.xe s:=by
 have e:=y X.K d;have b:∀m,EP X f l Q (.bool (WE T d)) {s with toks:=m}:=λm=>{.bl _,H,I.tok _,rfl,q};cases d with
 |non=>cases r.ab9;cases g;show PySem.W.kia_one PySem.W.kitx_none I.kIn aGG e (λz=>nomatch z) b
 |bl=>cases r.blI;cases g;show PySem.W.kia_one PySem.W.kitx_bool I.kIn aGG e (λz=>nomatch z) b
 |int=>cases r.aa6;let{t,rfl}:=g;show PySem.W.kia_one PySem.W.kitx_int I.kIn aGG e (λz=>nomatch z) b
 |str=>cases r.ac2;let{t,rfl}:=g;show PySem.W.kia_one PySem.W.kitx_str I.kIn aGG e (λz=>nomatch z) b
 |tup Y=>let{a,B,rfl,h,_}:=r.tupI;cases g;let{i,_,p,_}:=I.tuple h;let{o,j,k,_}:=p;show PySem.W.kia_one PySem.W.kitx_tuple I.kIn {o,j,k} e (λz=>nomatch z) b
 |lst Y=>let{a,B,rfl,h,_}:=r.aa5;cases g;let{i,_,p,_}:=I.list h;let{o,n,j,k,_}:=p;show PySem.W.kia_one PySem.W.kitx_list I.kIn {o,j,k} e (λz=>nomatch z) b
 |dct=>let{a,o,C,rfl,h,x,_}:=r.ad9;cases g;show PySem.W.kia_one PySem.W.kitx_dict I.kIn {o,(I.hok _ _ h).1,x.2.1.1} e (λz=>nomatch z) b
def rA(t:wP T)(y:PB X a f)(z:cv x=some (.type T):=by decide+kernel)(A:X.mg "isinstance"=none:=by assumption)(j:X.mg x=none:=by assumption)(B:Gl X "isinstance":=by rfl)(k:Gl X x:=by rfl)(C:(x==kM)=false:=by decide)(J:x≠ "__name__":=by decide)(n:a9 [a,.Name x pt] X.env=(false,dm a X.env)::a9 [.Name x pt] X.env:=by rfl)(L:a9 [Expr.Name x pt] X.env=[(false,dm (.Name x pt) X.env)]:=by rfl)(N:(cy b (a9 [Expr.Name x pt] X.env)).any (·.1)=false:=by rfl):
  PD X (.Call (.Name "isinstance" p) [a,.Name x pt] [] b) (λρ=>(f ρ).bind λd=>.ok (.bl (WE T d))):=by
 show qV λg s U H Q I Y O0 O ρ E q=>(aAN (M0 (u:=.builtin "isinstance") I B A (by decide+kernel) ?_));have hb:PE X (.Name x pt) (tC<|.ty T):=bj k j z rfl J C;have h:=J6 y (J6 hb bC (by rw[L];rfl)) n b g s U H (λo i=>∃v d,o=[v,.ty T]/\A4 X.K i O v d/\Q (.bl (WE T d)) i) I {Y,O0,O,ρ,E,by show XQ.mono (XQ.seq q) λv i l=>?_;let{d,_,s1,m,h1}:=l;show{v,d,rfl,m,h1 _ i (Same.refl _) .bl}}
 show aBr (D8 h λus s1 l=>?_) n N;let{o,i,I1,m,v,d,e,r,h}:=l;subst e;let{u,w,rfl,ru,za}:=vals2 m;cases za;show ZN I1 t r ru h
end
section
variable{K:kn}
def Kp.lst(k:Kp H O H' d){a:ba}{Y:List V}(n:¬O a)(h:L7 K H a Y)(f:∀o,K.lookup a=some o->¬d a):¬d a/\L7 K H' a Y:=by
 rcases h with(h|⟨o,h⟩)|h
 .show{(k _ _ h n).2,.inl (.inl (k _ _ h n).1)}
 .show{(k _ _ h n).2,.inl (.inr {o,(k _ _ h n).1})}
 let{o,b,m,e,g}:=h;show{f o e,.inr {o,b,m,e,g}}
def Kp.tup(k:Kp H O H' d)(b:∀a,O a->∃o,H a=some o/\Mt o){a:ba}{Y:List V}(h:T5 K H a Y):T5 K H' a Y:=by
 rcases h with(h|⟨o,h⟩)|h
 .show .inl (.inl (k _ _ h λz=>by let{o,q,m}:=b a z;rw[h]at q;cases q;show m).1)
 .show .inl (.inr {o,(k _ _ h λz=>by let{o,q,m}:=b a z;rw[h]at q;cases q;show m).1})
 show .inr h
end
def V0(K:kn)(O:ba->Prop):Prop:=∀a o,K.lookup a=some o->¬O a
def Kp.rep{K:kn}{H H':Hp}{O b:ba->Prop}(k:Kp H O H' b)(e:∀a,O a->∃o,H a=some o/\Mt o)(f:V0 K b){v:V}{d:D}(r:Rep K H O v d):Rep K H' b v d:=
 r.mono (λ_ _ h=>k.tup e h) (λa _ n h=>k.lst n h λo q=>f a o q) λa _ n h=>{(k a _ h n).2,(k a _ h n).1}
def Kp.ab6{K:kn}{H H':Hp}{O b:ba->Prop}(k:Kp H O H' b)(e:∀a,O a->∃o,H a=some o/\Mt o)(f:V0 K b){v:List V}{d:List D}(r:Reps K H O v d):Reps K H' b v d:=
 r.mono (λ_ _ h=>k.tup e h) (λa _ n h=>k.lst n h λo q=>f a o q) λa _ n h=>{(k a _ h n).2,(k a _ h n).1}
inductive Out where
 |nx (ρ:Ev)|rt (d:D)|bk (ρ:Ev)|ct (ρ:Ev)
def RS(X:Cx)(g:Hp)(i:ba->Prop)(H:Hp)(O:ba->Prop)(r:R Out)(D:Ends):Prop:=match r with
 |.ok (.nx h)=>∀f a b,EnvOk X.K g i a b f h->V0 X.K b->Kp H O a b->D.nx f a
 |.ok (.bk h)=>∀f a b,EnvOk X.K g i a b f h->V0 X.K b->Kp H O a b->D.bk f a
 |.ok (.ct h)=>∀f a b,EnvOk X.K g i a b f h->V0 X.K b->Kp H O a b->D.ct f a
 |.ok (.rt d)=>∀v a,Same g a->Rep X.K a i v d->D.rt v a
 |.ex e=>∀a,Same g a->XW X e a
 |.bad=>False
def tS(X:Cx)(a:Hp)(b:ba->Prop)(F:Ev->R Out):TS:=λD e H=>∃O d,EnvOk X.K a b H O e d/\V0 X.K O/\RS X a b H O (F d) D
def oU(X:Cx)(st:cp)(F:Ev->R Out):Prop:=∀a b,PS X st (tS X a b F)
def cZ(X:Cx)(st:List cp)(F:Ev->R Out):Prop:=∀a b,uW X st (tS X a b F)
def a2e{X:Cx}{st:cp}{t t':TS}(h:PS X st t)(i:∀D a H,t' D a H->t D a H):PS X st t':=λb s a H D I q=>h b s a H D I (i D a H q)
def kZ{X:Cx}{st:List cp}{t t':TS}(h:uW X st t)(i:∀D a H,t' D a H->t D a H):uW X st t':=λb s a H D I q=>h b s a H D I (i D a H q)
def EH{X:Cx}{st:cp}{t:TS}{F:Ev->R Out}{b:Hp}{d:ba->Prop}(h:PS X st t)(i:∀D a H O ρ,EnvOk X.K b d H O a ρ->V0 X.K O->RS X b d H O (F ρ) D->t D a H):PS X st (tS X b d F):=a2e h λD a H ⟨O,ρ,E,f,q⟩=>i D a H O ρ E f q
def a7d{X:Cx}{st:List cp}{t:TS}{F:Ev->R Out}{b:Hp}{d:ba->Prop}(h:uW X st t)(i:∀D a H O ρ,EnvOk X.K b d H O a ρ->V0 X.K O->RS X b d H O (F ρ) D->t D a H):uW X st (tS X b d F):=kZ h λD a H ⟨O,ρ,E,f,q⟩=>i D a H O ρ E f q
def RS.grow{X:Cx}{i:Hp}{j:ba->Prop}{H l:Hp}{O m:ba->Prop}{r:R Out}{D:Ends}(h:RS X i j H O r D)(k:Kp H O l m):RS X i j l m r D:=by
 cases r with
 |ok o=>
  cases o with
  |nx n=>showλa b g E f q=>h a b g E f (k.trans q)
  |bk n=>showλa b g E f q=>h a b g E f (k.trans q)
  |ct n=>showλa b g E f q=>h a b g E f (k.trans q)
  |rt d=>show h
 |ex e=>show h
 |bad=>show h
def C1(r:R Out)(F:Ev->R Out):R Out:=match r with
 |.ok (.nx a)=>F a
 |r=>r
section
variable{st:cp}{rest:List cp}
def RS.seq{a:Hp}{b:ba->Prop}{H:Hp}{O:ba->Prop}{r:R Out}{D:Ends}(h:RS X a b H O (C1 r G) D):RS X a b H O r {D with nx:=tS X a b G D}:=by
 cases r with
 |ok o=>
  cases o with
  |nx g=>showλj l i E f k=>{i,g,E,f,(h).grow k}
  |bk g=>show h
  |ct g=>show h
  |rt d=>show h
 |ex e=>show h
 |bad=>show h
def j3:cZ X [] (λρ=>.ok (.nx ρ)):=λb d=>a7d bw λD a H O ρ E f q=>q a H O E f (Kp.refl _ _)
def b9(d:oU X st F)(e:cZ X rest G):cZ X (st::rest) (λρ=>C1 (F ρ) G):=λa b=>a7d (rE (d a b)<|e a b) λD g H O ρ E f q=>{O,ρ,E,f,RS.seq q}
def d5(a:oU X st F):cZ X [st] F:=λb d=>qM (a b d)
def f6{e:cq}{f:Ev->R D}(g:PD X e f):oU X (.Return (some e) h) (λρ=>(f ρ).bind λd=>.ok (.rt d)):=λi j=>EH (zN g) λD k H O ρ E l q=>⟨i,j,O,ρ,E,by
 cases a:f ρ with
 |ok d=>rw[a]at q;showλv b s r=>q v b (E.same.trans s) (r.sub E.sub)
 |ex x=>rw[a]at q;showλb s=>q b (E.same.trans s)
 |bad=>rw[a]at q;show q⟩
def i7(i:Nat){x:Str}{e:cq}{f:Ev->R D}{a:Pos}(j:PD X e f)(k:X.N.Nodup)(l:X.N[i]?=some x:=by rfl)(m:Loc X.env.scope x:=by first|show aCs rfl|show aBC rfl)
  (n:d7 e (some (.Name x a)) b.line X.env=pure false:=by rfl) (o:X.fn x=true\/X.env.scope.names.lookup x=some .local:=by first|show .inl rfl|show .inr rfl|assumption):
  oU X (.Assign [.Name x a] e b) (λρ=>(f ρ).bind λd=>.ok (.nx (ρ.set i (.v d)))):=λp t=>EH (VY k l m j n o) λD w H O ρ E u q=>⟨p,t,O,ρ,E,by
 cases g:f ρ with
 |ok d=>rw[g]at q;showλv h s r=>q _ h O ((E.grow s).set i r) u (Kp.of s)
 |ex x=>rw[g]at q;showλh s=>q h (E.same.trans s)
 |bad=>rw[g]at q;show q⟩
def n6{c:cq}{a b:List cp}{d:Ev->R Bool}(j:EG X c d)(k:cZ X a F)(l:cZ X b G):oU X (.If c a b m) (λρ=>(d ρ).bind λt=>if t=true then F ρ else G ρ):=λe f=>EH (a5p j (k e f)<|l e f) λD n H O ρ E h q=>⟨e,f,O,ρ,E,by
 cases g:d ρ with
 |ok t=>
  rw[g]at q;intro i s;cases t with
  |true=>rw[kc rfl];show{O,ρ,E.grow s,h,RS.grow q (Kp.of s)}
  |false=>rw[kd aBF];show{O,ρ,E.grow s,h,RS.grow q (Kp.of s)}
 |ex x=>rw[g]at q;showλi s=>q i (E.same.trans s)
 |bad=>rw[g]at q;show q⟩
def sk(K:kn)(J:It)(H:Hp)(O:ba->Prop)(ds:List D):Prop:=∀b e,Kp H O b e->V0 K e->(∀a,O a->∃o,H a=some o/\Mt o)->(∀a,e a->∃o,b a=some o/\Mt o)->∀i:Nat,
 (∀d,ds[i]?=some d->J.go i b/\∀x f,J.yld i b x f->Same b f/\Rep K f e x d)/\(ds[i]?=none->J.stop i b)
def tI(X:Cx)(f:Ev->R (List D)):TI:=λd H R=>∃g h O b,EnvOk X.K g h H O d b/\V0 X.K O/\match f b with
 |.ok i=>∀J a,Same H a->sk X.K J a O i->R J a
 |.ex e=>∀a,Same H a->XW X e a
 |.bad=>False
def XO(X:Cx)(a iter:cq)(f:Ev->R (List D)):Prop:=PI X a iter (tI X f)
def IR(h:PI X d iter t)(i:∀a H R,t' a H R->t a H R):PI X d iter t':=λb s a H R I q=>h b s a H R I (i a H R q)
def lE:D->R (List D)
 |.lst Y=>.ok Y
 |_=>.bad
def KU:D->R (List D)
 |.tup Y=>.ok Y
 |_=>.bad
def o9(h:PD X iter f):XO X C iter (λρ=>(f ρ).bind lE):=IR (XY h) λI H R ⟨m,p,O,ρ,E,J,q⟩=>⟨m,p,O,ρ,E,by
 dsimp only at q;cases e:f ρ with
 |ok d=>
  rw[e]at q;cases d with
  |lst Y=>
   intro v t s r;cases r with
   |lst h n r=>
    rename_i a b;show{a,rfl,{b,h},q (Itl X.K a) t s ?_};intro L N k j u w i;let{Q,g}:=k.lst n h λo q=>j a o q;have y:=k.ab6 u j r;show{λd e=>?_,λe=>{b,g,by rw[r.length];show aCV.mp e}};let{v,l,z}:=y.get e;show{{b,v,g,l},by rintro x T ⟨A,B⟩;subst A;have:=B b g;rw[l]at this;cases this;show{Same.refl _,z}}
  |_=>show aAv q
 |ex x=>rw[e]at q;show q
 |bad=>rw[e]at q;show q⟩
def ZX(h:PD X iter f):XO X A iter (λρ=>(f ρ).bind KU):=IR (a1a h) λB H R ⟨m,n,O,ρ,E,C,q⟩=>⟨m,n,O,ρ,E,by
 dsimp only at q;cases e:f ρ with
 |ok d=>
  rw[e]at q;cases d with
  |tup Y=>
   intro v o s r;cases r with
   |tup h r=>
    rename_i a b;show{a,rfl,{b,h},q (Itt X.K a) o s ?_};intro I J k p j t i;have g:=k.tup j h;have u:=k.ab6 j p r;show{λd e=>?_,λe=>{b,g,by rw[r.length];show aCV.mp e}};let{v,l,w}:=u.get e;show{{b,v,g,l},by rintro x L ⟨y,z⟩;subst y;have:=z b g;rw[l]at this;cases this;show{Same.refl _,w}}
  |_=>show aAv q
 |ex x=>rw[e]at q;show q
 |bad=>rw[e]at q;show q⟩
def a3g(lo c:Int)(n:Nat):It:={λi _=>i<n,λi H x a=>a=H/\x=.int (lo+i*c),λi _=>n<=i}
def DV{P:be}{w:cf}{K:kn}{A:cq}(d:ba)(lo c:Int)(n:Nat):Turn P w K A (a3g lo c n) [d] d (λi h=>IsRangeIter h d (lo+(i:Nat)*c) ((n:Int)-(i:Nat)) c)where
 mem:=by simp
 obj:=λi h st b f=>by simp_all
 keep:=λi h l st k=>k d (by simp) _ st
 item:=by intro X B C J m i a s z H E I j st p;let{q,r,L,u,x,y}:=j d (by simp);show(Walks.range (I.ok.hd m) d lo c n).item i s _ _ p st λv l N O g kk=>?_;let{t,rfl}:=O;have Q:Inv X a z H {s with heap:=l,toks:=N}:=I.turned (λb o f e=>kk b o (by grind) e) q r u x y;show{_,rfl,RJ g rfl rfl (by decide) {.int (lo+i*c),H,Q,{t,rfl},{rfl,rfl},g,λb f=>(j b f).1}}
 done:=by intro X B C J m i a s z H E I j st p;let{q,r,L,u,x,y}:=j d (by simp);show wpAny_pyNext_range_end (I.ok.hd m) st (by have:n<=i:=p;lia) λl T=>{rfl,I.turned (t':=s.toks) (λb o f e=>T b o f e) q r u x y}
 self:=λ_ _ _ _ _ st h=>wpAny_pyIter_rangeiter st h
def yJ(lo c:Int)(n:Nat):List D:=(aBd n).map λ(k:Nat)=>D.int (lo+(k:Int)*c)
def mE(K:kn)(H:Hp)(O:ba->Prop)(lo c:Int)(n:Nat):sk K (a3g lo c n) H O (yJ lo c n):=by
 intro h j k l m b i;unfold yJ;rw[aAH];by_cases a:i<n
 .rw[List.getElem?_range a];show{λd e=>?_,λe=>(by cases e)};cases e;show{a,by rintro x o ⟨f,g⟩;subst f g;show{Same.refl _,.int}}
 rw[aCV.mpr (by simpa using a)];show{λd e=>(by cases e),λ_=>aFU a}
def lA(a b c:Int):Nat:=if a<b then((b-a-1)/c+1).toNat else 0
def OF(d:0<c):aCu a b c=(lA a b c:Int):=by
 unfold aCu lA;rw[kc (by lia)];split
 .have:0<=(b-a-1)/c:=Int.ediv_nonneg (by lia) (by lia)
  lia
 rfl
def LN(f:0<c)(g:c<2^30)(i:-(2^60)<=a)(d:a<2^60)(j:-(2^60)<=b)(k:b<2^60):Builtin.Range.small a b c=true:=by
 unfold Builtin.Range.small;have e:aCu a b c=if a<b then(b-a-1)/c+1 else 0:=by
  unfold aCu
  lia
 rw[e];have l:a<b->(b-a-1)/c<=b-a-1:=λh=>Int.ediv_le_self _ (by lia);have m:a<b->0<=(b-a-1)/c:=λh=>Int.ediv_nonneg (by lia) (by lia);erw[Builtin.Range.rangeFitsLong,aAP,Bool.or_eq_true,decide_eq_true_eq,beq_iff_eq,show c>0 by lia,if_true];split
 .rename_i h;grind
 lia
def tN(a b c:Int):Prop:=0<c/\c<2^30/\-(2^60)<=a/\a<2^60/\-(2^60)<=b/\b<2^60
instance(a b c:Int):Decidable (tN a b c):=inferInstanceAs (Decidable<|_/\_)
def fO:List D->R (List D)
 |[.int b]=>if tN 0 b 1 then .ok (yJ 0 1 (lA 0 b 1))else .bad
 |[.int a,.int b]=>if tN a b 1 then .ok (yJ a 1 (lA a b 1))else .bad
 |[.int a,.int b,.int c]=>if tN a b c then .ok (yJ a c (lA a b c))else .bad
 |_=>.bad
def nK{R:It->Hp->Prop}{E:B6}(I:Inv X d g H s)(h:tN a b c)(q:R (a3g a c (lA a b c)) H):bb (bc X.prog X.w) X.A (pyIter (.ref s.heap.objs.size)) (PIE X d g z R) E {s with heap:=s.heap.push {cls:=.type "range",data:=.fields #[.int a t,.int b u,.int c v]},toks:=tk}:=by
 let{i,j,k,l,m,n}:=h;show wpAny_pyIter_range (IsRange.new ..) (LN i j k l m n) ?_;have f:Inv X d g H {s with heap:=s.heap.push {cls:=.type "range",data:=.fields #[.int a t,.int b u,.int c v]},toks:=tk}:=I.kept λb o e=>aAb _ e;show⟨(s.heap.push {cls:=.type "range",data:=.fields #[.int a t,.int b u,.int c v]}).objs.size,[(s.heap.push {cls:=.type "range",data:=.fields #[.int a t,.int b u,.int c v]}).objs.size],_,_,H,rfl,
  f.kept (t':=tk) λb o e=>aAb _ e,DV _ a c (lA a b c),?_,λp r=>?_,q⟩
 .have x:a+((0:Nat):Int)*c=a:=by simp
  have y:((lA a b c:Nat):Int)-((0:Nat):Int)=aCu a b c:=by rw[OF i];simp
  rw[x,y];show aAg _ rfl
 have e:p=(s.heap.push {cls:=.type "range",data:=.fields #[.int a t,.int b u,.int c v]}).objs.size:=by simpa using r
 subst e;show f.af2 (aAh _) (f.hok.fresh<|aAh _)
def WH{R:It->Hp->Prop}{O:ba->Prop}(I:Inv X e i H s)(r:Paired (A4 X.K H O) vs ds)(f:q9 vs j)(h:fO ds=.ok k)(q:∀J,sk X.K J H O k->R J H):bb (bc X.prog X.w) X.A (call (.type "range") j) (λv l=>bb (bc X.prog X.w) X.A (pyIter v) (PIE X e i B R) X.xe l) X.xe s:=by
 match ds,h with
 |[.int b],h=>
  let{v,rfl,z}:=HE r;cases z.aa6;let{u,rfl,t,rfl}:=vals1 f;erw[fO]at h;split at h
  .rename_i d;cases h;show call_range_1 (nK I d<|q _<|mE _ _ _ _ _ _)
  cases h
 |[.int a,.int b],h=>
  let{v,m,rfl,z,g}:=pr2 r;cases z.aa6;cases g.aa6;let{u,n,rfl,{t,rfl},{o,rfl}}:=vals2 f;erw[fO]at h;split at h
  .rename_i d;cases h;show call_range_2 (nK I d<|q _<|mE _ _ _ _ _ _)
  cases h
 |[.int a,.int b,.int c],h=>
  cases r with
  |cons p r=>
   let{v,m,rfl,z,g}:=pr2 r;cases p.aa6;cases z.aa6;cases g.aa6;cases f with
   |cons x f=>
    let{u,n,rfl,{t,rfl},{o,rfl}}:=vals2 f;let{C,rfl}:=x;erw[fO]at h;split at h
    .rename_i d;cases h;have y:=d;let{E,L,_}:=y;show call_range_3 (by lia) (nK I d<|q _<|mE _ _ _ _ _ _) (.inl (PyProof.noPylong_small (by lia)))
    cases h
def K4{o e:cq}{es:List cq}{p:Pos}{f:Ev->R (List D)}(t:PAB X (e::es) f)(u:Gl X "range":=by rfl)(v:X.mg "range"=none:=by assumption)
  (w:a9 (e::es) X.env=(false,dm e X.env)::a9 es X.env:=by rfl) (y:(cy i (a9 es X.env)).any (·.1)=false:=by rfl):
  XO X o (.Call (.Name "range" p) (e::es) [] i) (λρ=>(f ρ).bind fO):=by
 rintro j s z H Q I ⟨A,B,O,ρ,E,Y,q⟩;dsimp only at q;show Call_ (M0 I u v boot_range<|aBi (D8 (t i j s z H (λl g=>∃h k,Same H g/\Paired (A4 X.K g O) l h/\fO h=.ok k/\∀J,sk X.K J g O k->Q J g) I ⟨A,B,O,ρ,E,?_⟩) λus C L=>?_) w y)
 .cases m:f ρ with
  |ok h=>
   rw[m]at q;intro l g C n;rw[R.aa0]at q;cases d:fO h with
   |ok k=>grind
   |ex x=>
    rw[d]at q;match h,d with
    |[.int b],d=>erw[fO]at d;split at d<;>cases d
    |[.int a,.int b],d=>erw[fO]at d;split at d<;>cases d
    |[.int a,.int b,.int c],d=>erw[fO]at d;split at d<;>cases d
   |bad=>grind
  |ex x=>rw[m]at q;show q
  |bad=>rw[m]at q;show q
 let{l,g,N,n,h,k,sm,r,T,U}:=L;show WH N r n T U
def tG(X:Cx)(G:D->Ev->R Ev):TG:=λv i H Q=>∃e f O g d a,EnvOk X.K e f H O i g/\Rep X.K H O v d/\G d g=.ok a/\∀h b,Same H b->EnvOk X.K e f b O h a->Q h b
def LV(X:Cx)(a:cq)(G:D->Ev->R Ev):Prop:=PG X a (tG X G)
def a0v(h:PG X d t)(i:∀v a H Q,t' v a H Q->t v a H Q):PG X d t':=λb s a H v u Q I r q=>h b s a H v u Q I r (i v a H Q q)
def j5(i:Nat)(a:X.N.Nodup)(b:X.N[i]?=some x:=by rfl)(f:Loc X.env.scope x:=by first|show aCs rfl|show aBC rfl)(g:X.fn x=true\/X.env.scope.names.lookup x=some .local:=by first|show .inl rfl|show .inr rfl|assumption):
  LV X (.Name x h) (λd ρ=>.ok (ρ.set i (.v d))):=a0v (ez a b f g)<|by
 rintro v k H Q ⟨l,m,O,ρ,d,j,E,r,e,q⟩;cases e;show q _ H (Same.refl _) (E.set i r)
def tGs(X:Cx)(G:List D->Ev->R Ev):TGs:=λi j H Q=>∃d e O f g a,EnvOk X.K d e H O j f/\Reps X.K H O i g/\G g f=.ok a/\∀h b,Same H b->EnvOk X.K d e b O h a->Q h b
def pk(X:Cx)(a:List cq)(G:List D->Ev->R Ev):Prop:=PGs X a (tGs X G)
def JJ{d:List cq}{t t':TGs}(h:PGs X d t)(i:∀v a H Q,t' v a H Q->t v a H Q):PGs X d t':=λb s a H v u Q I r q=>h b s a H v u Q I r (i v a H Q q)
def iK:List D->Ev->R Ev
 |[],a=>.ok a
 |_,_=>.bad
def D9(G:D->Ev->R Ev)(b:List D->Ev->R Ev):List D->Ev->R Ev
 |d::e,f=>(G d f).bind λa=>b e a
 |_,_=>.bad
def N8:pk X [] iK:=JJ nq<|by
 rintro d a H Q ⟨f,g,O,h,i,b,E,r,e,q⟩;cases r with
 |nil=>cases e;show{rfl,q a H (Same.refl _) E}
 |cons _ _=>cases e
def q8{e:cq}{es:List cq}{G:D->Ev->R Ev}{f:List D->Ev->R Ev}(n:LV X e G)(o:pk X es f)
  (p:(ek (e::es) X.env).map (·.2)=ka e X.env::(ek es X.env).map (·.2):=by rfl):pk X (e::es) (D9 G f):=JJ (TW n o p)<|by
 rintro g B H Q ⟨h,i,O,j,k,b,E,r,e,q⟩;cases r with
 |nil=>cases e
 |@cons v d g k r s=>
  erw[D9]at e;cases l:G d j with
  |ok a=>rw[l]at e;show{v,g,rfl,h,i,O,j,d,a,E,r,l,λt C m u=>{h,i,O,a,k,b,u,s.same m,e,λw y z A=>q w y (m.trans z) A}}
  |ex x=>simp_all
  |bad=>simp_all
def dZ(n:Nat)(d:List D->Ev->R Ev):D->Ev->R Ev
 |.tup a,b=>if a.length=n then d a b else .bad
 |.lst a,b=>if a.length=n then d a b else .bad
 |_,_=>.bad
end
section
theorem wK(f:t≠d):∀(n i:Nat) (s:aL) (Q:List au->aL->Prop),s.heap.IsListIter d t i->s.heap.IsList t items->i+n<=items.size->
  (∀h',h'.IsListIter d t (i+n)->Heap.SameBut d s.heap h'->Q ((items.toList.drop i).take n) {s with heap:=h'})->bb (bc prog w) A (draw (.ref d) n) Q E s
 |0,i,s,Q,a,_,_,e=>by show aAc (by simpa using e s.heap a (aGH ..))
 |n+1,i,s,Q,a,g,l,e=>by
  have m:i<items.size:=by omega
  show aAa (wpAny_pyNext_list_item a g (x:=items[i]) (by simp) λh b j=>(aAa (aAG (wK f n (i+1) _ _ b (g.extBut j.extBut f) (by omega) λo k p=>aAc ?_))));have q:items.toList.drop i=items[i]::items.toList.drop (i+1):=by simp[aDQ,m]
  have:=e o (by grind) (j.trans p);grind
def nQ{Q:List au->aL->Prop}(m:A.handled=none)(f:s.heap.IsList t items)(n:∀h',Heap.ExtBut s.heap.objs.size s.heap h'->Q items.toList {s with heap:=h'}):bb (bc prog w) A (unpackItems (.ref t) items.size none) Q E s:=by
 have i:t≠s.heap.objs.size:=by let{o,g,_}:=f;show aAk (aAd g)
 unfold unpackItems;show aAa ?_
 unfold notIterableAtAll;show aAa (aBt f.typeIs slot_list_iter.lookup<|aAc ?_);show aAa (aAG<|aCz f ?_);have a:(s.heap.push {cls:=.type "list_iterator",data:=.fields #[.ref t,.int 0 0]}).IsList t items:=by let{o,g,r}:=f;show{o,aAb _ g,r}
 show aAa (aAG (wK i items.size 0 _ _ {_,aAg _ rfl,rfl,rfl} a (by omega) λj d k=>?_));have p:List.take items.size (List.drop 0 items.toList)=items.toList:=by show aBG (by simp)
 rw[p,kd (by simp)];show aAa (aAG (wpAny_pyNext_list_end m d (a.extBut k.extBut i) (by simp) λq h=>?_));simp;show aAc (n q λb o l e=>h b o l (k.extBut b o l<|aAb _ e))
def jR{d}{Q:Unit->aL->Prop}(e:A.handled=none)(f:s.heap.IsList t items)(g:(ek a env).length=items.size)(b:(ek a env).findIdx? (·.1)=none)(h:∀h',Heap.ExtBut s.heap.objs.size s.heap h'->bb (bc prog w) A (assignInOrder ((ek a env).map (·.2)) items.toList) Q E {s with heap:=h'}):
  bb (bc prog w) A (ka (.Tuple a d i) env (.ref t)) Q E s:=by
 show aAa (aEQ ?_);unfold unpack;rw[g,b];show aAa (aAG<|nQ e f h)
end
section
def U7(C:X.calm=true)(h:pk X es Y)(J:(ek es X.env).length=n:=by rfl)(L:(ek es X.env).findIdx? (·.1)=none:=by rfl):LV X (.Tuple es k pos) (dZ n Y):=by
 rintro f s j H v u Q I r ⟨N,T,O,U,d,g,E,rd,e,q⟩;cases rd with
 |@tup a l m p i=>
  cases r;erw[dZ]at e;split at e
  .rename_i t;let{w,x,y,hz}:=I.tuple p;show assign_Tuple_tuple (I.ok.hd C) y (by simp[J,<-t,<-i.length,x.length]) L λz A=>?_;have B:Inv X f j H {s with heap:=z}:=I.kept (t':=s.toks) λb o e=>A b o (aAk<|aAd e) e;show h f _ j H l _ Q B (by lia) {N,T,O,U,m,g,E,i,e,q}
  cases e
 |@lst a l m p _ i=>
  cases r;erw[dZ]at e;split at e
  .rename_i t;let{w,x,y,hz}:=I.list p;show jR (I.ok.hd C) y.isList (by simp[J,<-t,<-i.length,x.length]) L λz A=>?_;have B:Inv X f j H {s with heap:=z}:=I.kept (t':=s.toks) λb o e=>A b o (aAk<|aAd e) e;show h f _ j H l _ Q B (by grind) {N,T,O,U,m,g,E,i,e,q}
  cases e
 |_=>cases e
def UD(f:Ev->R D)(G:D->Ev->R Ev):Ev->R Out:=λb=>(f b).bind λd=>match G d b with
 |.ok a=>.ok (.nx a)
 |_=>.bad
def JC(n:PD X e f)(o:LV X a G)(p:gs [a] e h.line X.env=pure false:=by rfl)(t:gW [a] e X.env=pure none:=by rfl)(u:(ek [a] X.env).map (·.2)=[ka a X.env]:=by rfl):oU X (.Assign [a] e h) (UD f G):=λk l=>EH (VR n o p t u) λD C H O b E w q=>⟨k,l,O,b,E,by
 unfold UD at q;cases i:f b with
 |ok d=>
  rw[i,R.aa0]at q;intro v m s r;cases g:G d b with
  |ok j=>rw[g]at q;show{k,l,O,b,d,j,E.grow s,r,g,λy z A B=>q y z O B w (Kp.of<|s.trans A)}
  |ex x=>rw[g]at q;show(q).elim
  |bad=>rw[g]at q;show aAv q
 |ex x=>rw[i]at q;showλm s=>q m (E.same.trans s)
 |bad=>rw[i]at q;show q⟩
def BQ(i j:Nat){e g vK}(o:X.calm=true)(p:X.N.Nodup)(t:MT X [a,b] f)(u:X.N[i]?=some x:=by rfl)(w:X.N[j]?=some y:=by rfl)(z:i≠j:=by decide)(A:X.env.scope.names.lookup x=some .local:=by rfl)(B:X.env.scope.names.lookup y=some .local:=by rfl)(C:gW [.Tuple [.Name x m,.Name y n] e pt] (.Tuple [a,b] g vK) X.env=pure (some [x,y]):=by rfl)(I:gs [.Tuple [.Name x m,.Name y n] e pt] (.Tuple [a,b] g vK) h.line X.env=pure false:=by rfl):
  oU X (.Assign [.Tuple [.Name x m,.Name y n] e pt] (.Tuple [a,b] g vK) h) (λρ=>(f ρ).bind λds=>match ds with
   |[d,d']=>.ok (.nx ((ρ.set i (.v d)).set j (.v d')))
   |_=>.bad):=λJ L=>EH (a1q o p u w z A B t C I) λD Y H O ρ E Q q=>⟨J,L,O,ρ,E,by
 cases k:f ρ with
 |ok ds=>
  rw[k,R.aa0]at q;intro vs l s r;cases r with
  |nil=>show(q).elim
  |cons T r=>
   cases r with
   |nil=>show(q).elim
   |cons U r=>
    cases r with
    |nil=>show{_,_,rfl,q _ l O (((E.grow s).set i T).set j U) Q (Kp.of s)}
    |cons _ _=>show(q).elim
 |ex x=>rw[k]at q;showλl s=>q l (E.same.trans s)
 |bad=>rw[k]at q;show q⟩
def S7(G:D->Ev->R Ev)(F:Ev->R Out):List D->Ev->R Out
 |[],b=>.ok (.nx b)
 |d::f,b=>match G d b with
  |.ok e=>match F e with
   |.ok (.nx a)=>S7 G F f a
   |.ok (.ct a)=>S7 G F f a
   |.ok (.bk a)=>.ok (.nx a)
   |r=>r
  |_=>.bad
def B9(hp:PassesOwn (bc X.prog X.w) X.A X.env X.xe)(hc:X.calm=true)(hi:XO X tg iter f)(hg:LV X tg G)(hb:cZ X body F)(hs:∀x,ee iter X.env x=pure x:=by intro _;rfl):oU X (.For tg iter body [] pos) (λρ=>(f ρ).bind λds=>S7 G F ds ρ):=λk l=>EH (a2m hp hc hi hg (hb k l) hs) λD σ H O ρ E fk q=>⟨k,l,O,ρ,E,fk,by
 cases Q:f ρ with
 |ex x=>rw[Q]at q;showλj s=>q j (E.same.trans s)
 |bad=>rw[Q]at q;show q
 |ok ds=>
  rw[Q,R.aa0]at q;intro J H1 T hJ;show{λi m U j=>m=ds.length-i/\i<=ds.length/\∃g h,EnvOk X.K k l j g U h/\V0 X.K g/\Kp H1 O j g/\RS X k l j g (S7 G F (ds.drop i) h) D,{ds.length,by simp,aAQ _,O,ρ,E.grow T,fk,Kp.refl _ _,?_},?_}
  .show q.grow (Kp.of T)
  rintro i m U j ⟨rfl,hi,g,h,Y,n,k',a⟩;have z:=hJ j g k' n (E.grow T).trk Y.trk i;by_cases ao:i<ds.length
  .let{go,yl}:=z.1 ds[i] (aAl ao);show .inr {go,λyg v=>∃L b,EnvOk X.K k l v L yg b/\V0 X.K L/\Kp H1 O v L/\RS X k l v L (S7 G F (ds.drop<|i+1) b) D,λyg v p=>{ds.length-(i+1),by omega,rfl,ao,p},λx v y=>?_};let{s2,r2}:=yl x v y;rw[aDQ ao,S7]at a;cases N:G ds[i] h with
   |ex x=>rw[N]at a;show(a).elim
   |bad=>rw[N]at a;show(a).elim
   |ok r=>
    rw[N]at a;dsimp only at a;show{k,l,g,h,ds[i],r,Y.grow s2,r2,N,λqo H3 s3 E3=>{g,r,E3,n,?_}};have kk:Kp j g H3 g:=Kp.of (s2.trans s3);cases e3:F r with
    |ex x=>rw[e3]at a;show a
    |bad=>rw[e3]at a;show a
    |ok o=>
     rw[e3]at a;cases o with
     |nx b=>showλt H4 B C I u=>{B,b,C,I,k'.trans (kk.trans u),RS.grow a (kk.trans u)}
     |ct b=>showλt H4 B C I u=>{B,b,C,I,k'.trans (kk.trans u),RS.grow a (kk.trans u)}
     |bk b=>showλt H4 B C I u=>a t H4 B C I (kk.trans u)
     |rt d=>show a
  have e:i=ds.length:=by omega
  subst e;rw[List.drop_length,S7]at a;show .inl {z.2 (by simp),a U j g Y n (Kp.refl _ _)}⟩
def U1(c:Ev->R Bool)(F:Ev->R Out):Nat->Ev->R Out
 |0,_=>.bad
 |n+1,d=>(c d).bind λb=>if b=true then(match F d with
  |.ok (.nx a)=>U1 c F n a
  |.ok (.ct a)=>U1 c F n a
  |.ok (.bk a)=>.ok (.nx a)
  |r=>r)else .ok (.nx d)
def gF(n:Ev->Nat)(Y:PassesOwn (bc X.prog X.w) X.A X.env X.xe)(hc:EG X c y)(hb:cZ X body F):oU X (.While c body [] pos) (λρ=>U1 y F (n ρ) ρ):=λi j=>EH (UH Y hc<|hb i j) λD σ H O ρ E fk q=>by
 show{λm I z=>∃f e,EnvOk X.K i j z f I e/\V0 X.K f/\RS X i j z f (U1 y F m e) D,{n ρ,O,ρ,E,fk,q},?_};rintro m I z ⟨f,e,B,l,a⟩;cases m with
 |zero=>show(a).elim
 |succ m=>
  rw[U1]at a;show{i,j,f,e,B,?_};cases J:y e with
  |ex x=>rw[J]at a;showλC k=>a C (B.same.trans k)
  |bad=>rw[J]at a;show a
  |ok b=>
   rw[J,R.aa0]at a;intro C k;cases b with
   |false=>show a I C f (B.grow k) l (Kp.of k)
   |true=>
    show{λU L=>∃N r,EnvOk X.K i j L N U r/\V0 X.K N/\RS X i j L N (U1 y F m r) D,λU L p=>{m,aDT m,p},f,e,B.grow k,l,?_};have kk:Kp z f C f:=Kp.of k;cases Q:F e with
    |ex x=>rw[Q]at a;show a
    |bad=>rw[Q]at a;show a
    |ok o=>
     rw[Q]at a;cases o with
     |nx g=>showλh T s t u v=>{s,g,t,u,RS.grow a (kk.trans v)}
     |ct g=>showλh T s t u v=>{s,g,t,u,RS.grow a (kk.trans v)}
     |bk g=>showλh T s t u v=>a h T s t u (kk.trans v)
     |rt d=>show a
end
def spD(K:kn)(n:Nat)(m:List D->R D):Sp:=λf H Q _=>∃O b d,Reps K H O f b/\b.length=n/\(∀a,O a->∃o,H a=some o/\Mt o)/\Tb H/\V0 K O/\m b=.ok d/\∀v e,Same H e->Rep K e O v d->Q v e
def n5(N:List Str)(ds:List D):Ev:=ds.map Sl.v++aCT (N.length-ds.length) Sl.no
def G8:R Out->R D
 |.ok (.rt d)=>.ok d
 |.ok (.nx _)=>.ok .non
 |.ex e=>.ex e
 |_=>.bad
def gM{K:kn}{H:Hp}{O:ba->Prop}{N:List Str}{vs:List V}{ds:List D}(r:Reps K H O vs ds)(t:∀a,O a->∃o,H a=some o/\Mt o)(tb:Tb H):EnvOk K H O H O (start N vs) (n5 N ds)where
 len:=by simp[L2.start,n5,r.length]
 same:=Same.refl H
 sub:=λ_ h=>h
 trk:=t
 trk0:=λa h=>let⟨o,q,_⟩:=t a h;{o,q}
 tab:=tb
 slot:=λi g h=>by
  unfold n5 at h;unfold L2.start;by_cases b:i<ds.length
  .rw[aAX (by simpa using b),aAH]at h;cases e:ds[i]? with
   |none=>rw[e]at h;cases h
   |some d=>rw[e]at h;have f:Sl.v d=g:=Option.some.inj h;subst f;let{v,k,l}:=r.get e;show{v,by rw[aAX (by rw[aAf,r.length];show b),aAH,k];rfl,l}
  rw[aAE (by simpa using b),aBD]at h;split at h
  .cases h;trivial
  cases h
 inj:=λi j x y a h _ o=>by
  unfold n5 at h;by_cases b:i<ds.length
  .rw[aAX (by simp_all),aAH]at h;cases e:ds[i]? with
   |none=>rw[e]at h;cases h
   |some d=>rw[e]at h;have f:Sl.v d=x:=Option.some.inj h;subst f;show o.elim
  rw[aAE (by grind),aBD]at h;split at h
  .cases h;show o.elim
  cases h
section
variable{K:kn}
abbrev TR(P:be)(w:cf)(K:kn)(mg:eU)(base:ck)(N:List Str)(qual:Str)(sc:ik)(f:ba)(T:au)(A:bM)(a:List Env)(s:aL)(H:Hp)(E:XK):Cx:=(OM uM P w K mg base N qual sc f T A a s H E).nox
def fnD{x qual:Str}{st:cp}{f:ba}{j:dV}{N ps:List Str}{k:Nat}{m:List D->R D}{F:Ev->R Out}(n:Fun K x qual st f j)(S:FnScope N ps (c8 st))
  (p:∀(T:au) (A:bM) (a:List Env) (s:aL) (H:Hp) (E:XK),Room k (A.deeper (envOfC qual (c8 st) s.heap.objs.size f T))->cZ (TR P w K mg base N qual (c8 st) f T A a s H E) (t7 st) F)
  (t:∀ds d,ds.length=ps.length->m ds=.ok d->G8 (F (n5 N ds))=.ok d):FnOk P w K mg base uM (k+1) f j ps (spD K ps.length m):=by
 show n.ok S (by rintro u H Q E ⟨O,ds,d,r,g,_⟩;rw[r.length];show g) (λT A a s H u Q E v y=>?_);let{O,ds,d,r,g,z,B,C,e,q}:=y;show{_,p T A a s H E v H O,O,_,gM r z B,C,?_};have h:=t ds d g e;cases i:F (n5 N ds)with
 |ok o=>
  rw[i]at h;cases o with
  |rt I=>have b:R.ok I=R.ok d:=h;injection b with b;subst b;show q
  |nx l=>have b:R.ok D.non=R.ok d:=h;injection b with b;subst b;showλU J Y L _ _=>q .non J L.same .non
  |bk l=>cases h
  |ct l=>cases h
 |ex x=>rw[i]at h;cases h
 |bad=>rw[i]at h;cases h
end
section
def oB(I:Inv X b e H s)(O:ba->Prop)(t:∀a,O a->∃o,H a=some o/\Mt o):V0 X.K O:=λa o d z=>by let{u,h,_}:=t a z;have:=(I.bs a o<|I.ok.mod.kin a o d).2;grind
def kj(F:FnOk X.prog X.w X.K X.mg X.base uM k g o ps (spD X.K n m))(r:Room k X.A)(t:X.mg x=some (.ref g))(u:PySem.W.keepIn X.K (.ref g)=true)(y:Binds X.K o ps [])(B:MT X (e::es) f)(C:∀ρ ds,f ρ=.ok ds->ds.length=n)(J:Gl X x:=by rfl)(L:(x==kM)=false:=by decide)(N:a9 (e::es) X.env=(false,dm e X.env)::a9 es X.env:=by rfl)(T:(cy i (a9 es X.env)).any (·.1)=false:=by rfl):
  PD X (.Call (.Name x p) (e::es) [] i) (λρ=>(f ρ).bind m):=by
 show qV λa s U H Q I Y O0 O ρ E q=>(yQ F r J t u y .nil VB B L N T a s U H Q I {Y,O0,O,ρ,E,?_});dsimp only at q;cases b:f ρ with
 |ex z=>rw[b]at q;show q
 |bad=>rw[b]at q;show q
 |ok ds=>
  rw[b,R.aa0]at q;intro vs H1 j r1;rw[aBU];have l:=E.grow j;cases h:m ds with
  |ex z=>rw[h]at q;show(q H<|Same.refl _).elim
  |bad=>rw[h]at q;show q.elim
  |ok d=>rw[h]at q;show{O,ds,d,r1,C ρ ds b,l.trk,l.tab,(oB I O E.trk),h,λv H' s2 r2=>q v H' (j.trans s2) r2}
end
def QM(env:Env):List (Str×eQ)->List (Str×ba)->List (Str×ba)
 |[],B=>B
 |(n,k)::r,B=>QM env r (if k=.free then(n,(env.cells.lookup n).getD 0)::B else B)
def aP(h:∀y∈d.names,y.2=.free->∃c,env.cells.lookup y.1=some c):closureFor d env=pure (QM env d.names []):=by
 have p:∀(b:List (Str×eQ)) (B:List (Str×ba)),(∀y∈b,y.2=.free->∃c,env.cells.lookup y.1=some c)->
   (forIn b B λ(x:Str×eQ) (r:List (Str×ba))=>(match x with
    |(f,g)=>if(g==NameKind.free)=true then(do let a<-cellOf env f;pure (aCi ((f,a)::r)))else pure (aCi r):Sem (ForInStep<|List<|Str×ba)))=pure (QM env b B):=by
  intro b;induction b with
  |nil=>intro B _;rfl
  |cons y r m=>
   intro B i;let{n,k}:=y;rw[aCX];by_cases j:k=.free
   .subst j;let{c,o}:=i (n,.free) aCN rfl;have e:cellOf env n=pure c:=by unfold cellOf;rw[o]
    erw[beq_self_eq_true,if_true,e,pure_bind];rw[m _ λz l=>i z (aAe _ l)];simp[QM,o]
   have q:(k==NameKind.free)=false:=by simpa using j
   erw[q,aAC,if_false,pure_bind];rw[m _ λz l=>i z (aAe _ l)];simp[QM,j]
 change((forIn d.names ([]:List (Str×ba)) λ(x:Str×eQ) (r:List (Str×ba))=>(match x with
    |(f,g)=>if(g==NameKind.free)=true then(do let a<-cellOf env f;pure (aCi ((f,a)::r)))else pure (aCi r):Sem (ForInStep<|List<|Str×ba)))>>=pure)=_
 rw[(p d.names [] h)];rfl
theorem AK:∀(names:List (Str×eQ)) (B:List (Str×ba)) {x:Str}{c:ba},(∀y∈names,y.2=.free->∃c,env.cells.lookup y.1=some c)->(∀x c,B.lookup x=some c->env.cells.lookup x=some c)->
  (QM env names B).lookup x=some c->env.cells.lookup x=some c
 |[],B,x,c,_,a,h=>a x c h
 |(n,k)::r,B,x,c,b,a,h=>by
  show AK r _ (λy e=>b y (aAe _ e)) (λg i f=>?_) h;by_cases d:k=.free
  .rw[kc d]at f;let{c0,j}:=b (n,k) aCN d;grind
  grind
theorem yS:∀(names:List (Str×eQ)) (B:List (Str×ba)) {x:Str},((x,NameKind.free)∈names\/∃c,B.lookup x=some c)->∃c,(QM env names B).lookup x=some c
 |[],B,x,h=>by
  rcases h with h|h
  .cases h
  show h
 |(n,k)::r,B,x,h=>by
  show yS r _ ?_;rcases h with h|⟨c,h⟩
  .rcases aAi.mp h with e|h
   .cases e
    simp_all
   show .inl h
  right;by_cases a:k=.free
  .rw[kc a,aBq];cases(x==n)with
   |true=>show{_,rfl}
   |false=>show{c,h}
  rw[kd a];show{c,h}
theorem kG{env:Env}:∀{names:List (Str×eQ)}{x:Str},
  ((names.map λ(n,k)=>if(k==NameKind.free&&env.scope.kind==.function&&env.kindOf n==some .cell)then(n,aCv)else(n,k)).lookup x=some .cell\/
   (names.map λ(n,k)=>if(k==NameKind.free&&env.scope.kind==.function&&env.kindOf n==some .cell)then(n,aCv)else(n,k)).lookup x=some .free)->(x,NameKind.free)∈names\/names.lookup x=some .cell
 |[],_,h=>by grind
 |(n,k)::r,x,h=>by
  have d:=@kG env r x;rw[aAm]at h;dsimp only at h;by_cases a:x=n
  .subst a;grind
  have e:(r.map λ(n,k)=>if(k==NameKind.free&&env.scope.kind==.function&&env.kindOf n==some .cell)then(n,aCv)else(n,k)).lookup x=some .cell\/
    (r.map λ(n,k)=>if(k==NameKind.free&&env.scope.kind==.function&&env.kindOf n==some .cell)then(n,aCv)else(n,k)).lookup x=some .free:=by
   by_cases b:(k==NameKind.free&&env.scope.kind==.function&&env.kindOf n==some .cell)=true
   .rw[kc b,aBq,beq_eq_false_iff_ne.mpr a]at h;show h
   rw[kd b,aBq,beq_eq_false_iff_ne.mpr a]at h;show h
  grind
theorem qY:∀(names:List (Str×eQ)) (h:ck) (B:List (Str×ba)) {x:Str}{c:ba},(d3 h.objs.size names B).lookup x=some c->B.lookup x=some c\/((pushCells h names).IsCell c none/\h.objs.size<=c)
 |[],h,B,x,c,e=>.inl e
 |(n,k)::r,h,B,x,c,e=>by
  unfold d3 at e;unfold pushCells;split at e
  .rename_i b;rw[kc b];rcases qY r (h.push {cls:=.type "cell",data:=.cell none}) ((n,h.objs.size)::B) (x:=x) (c:=c) (by simp_all)with a|⟨a,d⟩
   .rw[aBq]at a;cases f:(x==n)with
    |true=>rw[f]at a;have g:h.objs.size=c:=Option.some.inj a;subst g;show .inr {{_,aEZ _ _ _ _ (aAg _ rfl),rfl},aAh _}
    |false=>simp_all
   show .inr {a,by rw[aBc]at d;show aCA d}
  rename_i b;rw[kd b];show qY r h B e
theorem oC:∀(names:List (Str×eQ)) (n:Nat) (B:List (Str×ba)) {x:Str}{c:ba},(d3 n names B).lookup x=some c->B.lookup x=some c\/n<=c
 |[],n,B,x,c,e=>.inl e
 |(m,k)::r,n,B,x,c,e=>by
  unfold d3 at e;split at e
  .rcases oC r (n+1) _ e with a|a
   .rw[aBq]at a
    lia
   show .inr (aCA a)
  show oC r n B e
theorem rW:∀(names:List (Str×eQ)) (n:Nat) (B:List (Str×ba)) {x:Str}{c:ba},(x,aCv)∈names->(d3 n names B).lookup x=some c->n<=c
 |[],n,B,x,c,a,e=>nomatch a
 |(m,k)::r,n,B,x,c,a,e=>by
  unfold d3 at e;rcases aAi.mp a with a|a
  .cases a;rcases oC r (n+1) _ e with b|b
   .simp_all
   show aCA b
  split at e
  .show aCA (rW r (n+1) _ a e)
  show rW r n B a e
theorem sE:∀(names:List (Str×eQ)) (n:Nat) (B:List (Str×ba)) {x:Str},(x,aCv)∉names->(d3 n names B).lookup x=B.lookup x
 |[],n,B,x,_=>rfl
 |(m,k)::r,n,B,x,a=>by
  unfold d3;split
  .rename_i b;rw[sE r (n+1) _ λz=>a (aAe _ z),aBq];grind
  show sE r n B λz=>a (aAe _ z)
theorem mW:∀(names:List (Str×eQ)) (n:Nat) (B:List (Str×ba)),(∀x c,B.lookup x=some c->c<n)->(∀x y c,B.lookup x=some c->B.lookup y=some c->x=y)->
  ∀x y c,(d3 n names B).lookup x=some c->(d3 n names B).lookup y=some c->x=y
 |[],n,B,_,h=>h
 |(m,k)::r,n,B,a,h=>by
  unfold d3;split
  .show mW r (n+1) _ (λx c e=>?_) λx y c d f=>?_
   .rw[aBq]at e;cases b:(x==m)with
    |true=>simp_all
    |false=>rw[b]at e;show aBx (a x c e)
   rw[aBq]at d f;cases b:(x==m)with
   |true=>grind
   |false=>grind
  show mW r n B a h
abbrev eN(X:Cx)(a:ik)(C:ba):List (Str×ba):=d3 (C+1) a.names (QM X.env a.names [])
def OA{E:B6}{Q:Env->aL->Prop}(f:Q (newEnv a s.heap.objs.size g (d3 (s.heap.objs.size+1) a.names h) q none .none (some env) builtinsNs) {s with heap:=pushCells (s.heap.push {cls:=.type "dict",data:=.dict #[]}) a.names}):
  bb M A (newFunctionEnv a g h [] q none .none (some env)) Q E s:=by
 erw[newFunctionEnv,Option.isSome_some,if_true];show aAa (wpAny_alloc (aAa (wpAny_layCells _ (λe b d=>by cases i:b==aCv<;>simp) _ _ _ _ ?_)));rw[show({s with heap:=s.heap.push {cls:=.type "dict",data:=.dict #[]}}:aL).heap.objs.size=s.heap.objs.size+1 from aBc ..];show aAa (aAc<|aAc f)
def ON{R:Result->aL->Prop}(I:Nat->aL->Prop)(turn:∀n s,I n s->bb (bc prog w) A (fh o) (λr f=>match r with
   |none=>R (.ok .next) f
   |some v=>bb (bc prog w) A (letOwnedTupleGo a o v) (λ_ e=>bb (bc prog w) A (ka a env v) (λ_ p=>
    bb (bc prog w) A (forIn g true λc r=>if r=true then do let ok<-isTrue c env (dm c env);pure (aCi ok)else pure (aCi r)) (λok i=>
     if ok=true then bb (bc prog w) A (dm j env) (λx q=>bb (bc prog w) A (call (.builtin "list.append") [B,x]) (λ_ t=>∃m,m<n/\I m t) (λ_ _=>False) q) (λ_ _=>False) i
     else∃m,m<n/\I m i) (λ_ _=>False) p) (λ_ _=>False) e) (λ_ _=>False) f) (λ_ _=>False) s) (n:Nat) (h:I n s):fo (bc prog w) A (.compLoop (.ListComp j [{a,iter,g,0}] k y) 0 o B env) R s:=by
 show codeAny_loop rfl I (λn s z=>?_) n h;show wpAny_noted ?_;rw[compTurn_list];show aAa (aEQ<|aAa<|aCy (turn n s z) (λr f d=>?_) λ_ _ b=>b.elim);cases r with
 |none=>show aAc d
 |some v=>
  show aAa (aCy d (λ_ e l=>?_) λ_ _ b=>b.elim);show aAa (aCy l (λ_ p C=>aAa (aCy C (λok i u=>?_) λ_ _ b=>b.elim)) λ_ _ b=>b.elim);cases ok with
  |false=>show aAc {rfl,u}
  |true=>show aAa (aAa<|aCy u (λx q E=>aAa (aCy E (λ_ t H=>aAc (aAc {rfl,H})) λ_ _ b=>b.elim)) λ_ _ b=>b.elim)
def HB(X:Cx)(pins:P9)(s9:aL)(H9:Hp)(b:List Str)(a:ik)(d:List (Str×ba))(C:ba)(e:List ba):Cx where
 prog:=X.prog
 w:=X.w
 K:=X.K
 mg:=X.mg
 base:=X.base
 A:=X.A
 N:=b
 s9:=s9
 H9:=H9
 env:=compEnvC a d C X.env
 outer:=X.stack
 stack:=X.stack
 ex:=e
 fn:=λx=>a.names.lookup x==some .cell
 calm:=X.calm
 pn:=X.pn++pins
 xe:=λ_ _=>False
structure CompSc(X:Cx)(scope:Scope)(own fr:List Str)(js:List Nat):Prop where
 kind:scope.kind=.function
 apart:∀y∈scope.names,y.2=.free->(y.1,aCv)∉scope.names
 names:∀y∈scope.names,y.2=.local->scope.names.lookup y.1=some .local
 free:∀y∈scope.names,y.2=.free->X.env.kindOf y.1=some .cell\/X.env.kindOf y.1=some .free
 len:js.length=fr.length
 at_:∀(i j:Nat) (x:Str),js[i]?=some j->fr[i]?=some x->X.N[j]?=some x/\(x,NameKind.free)∈scope.names
 nd:js.Nodup
 dis:∀y∈scope.names,y.2=.free->scope.names.lookup y.1=some .free
def seen:Sl->Sl
 |.v d=>.v d
 |.d k=>.d k
 |_=>.no
def i8(own:List Str)(a:List Nat)(ρ:Ev):Ev:=aCT own.length Sl.no++a.map λj=>seen (ρ.getD j Sl.no)
def U6(own:List Str)(a:List Nat)(b:St):St:=aCT own.length none++a.map λj=>b.getD j none
def Inv.ab0(I:L2.Inv X b f H s)(S:CompSc X a own g h):∀y∈a.names,y.2=.free->∃c,X.env.cells.lookup y.1=some c:=
 λy d e=>I.ok.has y.1 (S.free y d e)
def Y9(h:(i8 own f ρ)[i]?=some sl):sl=.no\/∃j,((∃d,sl=.v d)\/∃k,sl=.d k)/\own.length<=i/\f[i-own.length]?=some j/\ρ[j]?=some sl:=by
 unfold i8 at h;by_cases g:i<own.length
 .rw[aAX (by grind),aBD,kc g]at h
  simp_all
 have l:own.length<=i:=aFU g;rw[aAE (by simp_all),aCk,aAH]at h;cases e:f[i-own.length]? with
 |none=>simp_all
 |some j=>
  rw[e]at h;have a:seen (ρ.getD j Sl.no)=sl:=Option.some.inj h;rw[aAt]at a;cases b:ρ[j]? with
  |none=>rw[b]at a;subst a;show .inl rfl
  |some z=>
   rw[b]at a;cases z with
   |v d=>subst a;show .inr {j,.inl {d,rfl},l,rfl,b}
   |d k=>subst a;show .inr {j,.inr {k,rfl},l,rfl,b}
   |_=>subst a;show .inl rfl
def sF{a:St}(d:own.length<=i)(e:b[i-own.length]?=some j)(h:j<a.length):(U6 own b a)[i]?=a[j]?:=by
 unfold U6;rw[aAE (by simp_all),aCk,aAH,e]
 simp_all
def OD{K:kn}{m H:Hp}{n O:ba->Prop}{f:St}{ρ:Ev}{own:List Str}{g:List Nat}(t:g.Nodup)(E:EnvOk K m n H O f ρ):EnvOk K m n H O (U6 own g f) (i8 own g ρ):=by
 have lt:∀{j k},ρ[j]?=some k->j<f.length:=λh=>by rw[E.len];show(aAB.mp h).1
 show{by simp[U6,i8],E.same,E.sub,E.trk,E.trk0,E.tab,λi k h=>?_,λi w x y a b d o p q r=>?_}
 .rcases Y9 h with rfl|⟨j,_,l,e,b⟩
  .trivial
  rw[sF l e (lt b)];show E.slot j k b
 rcases Y9 b with rfl|⟨j,_,u,e,b⟩
 .show o.elim
 rcases Y9 d with rfl|⟨v,_,l,s,d⟩
 .show p.elim
 rw[sF u e (lt b)]at q;rw[sF l s (lt d)]at r;have:=E.inj j v x y a b d o p q r;subst this;have:=(List.getElem?_inj (aAB.mp e).1 t).mp (e.trans s.symm)
 lia
def MI(I:L2.Inv X pins N H s)(S:CompSc X a own U Y)(O:∀b∈Q,pJ X pins H b)(ao:∀b∈Q,b<s.heap.objs.size)(e8:h₁=pushCells (s.heap.push {cls:=.type "dict",data:=.dict #[]}) a.names):
  L2.Inv (HB X pins s H (own++U) a (eN X a s.heap.objs.size) s.heap.objs.size Q) [] (U6 own Y N) H {s with heap:=h₁,toks:=tk}:=by
 have g:∀b o,s.heap.get? b=some o->h₁.get? b=some o:=λb o e=>by rw[e8];show aEZ _ _ _ _ (aAb _ e)
 have zf:h₁.Ns s.heap.objs.size (λ_=>none):=by rw[e8];show(Heap.Ns.new s.heap<|.type "dict").keeps (aEZ _ _)
 have cc:=λx c h=>by have:=qY a.names (s.heap.push {cls:=.type "dict",data:=.dict #[]}) (QM X.env a.names []) (x:=x) (c:=c) (by rw[aBc];show h);rw[aBc,<-e8]at this;show this
 have B:∀x c,(QM X.env a.names []).lookup x=some c->X.env.cells.lookup x=some c:=λx c h=>AK a.names [] (Inv.ab0 I S) (λ_ _ z=>(by cases z)) h;have l:∀b o,X.base.get? b=some o->b∉Q:=λb o e t=>by
  rcases(O b t).2.2.2.1 with z|z
  .show I.ok.noex b o e z
  show absurd (aAq (aAd e)<|aAn I.ok.bsz z) (aBJ _)
 have nfs:∀b∈Q,b∉BM X.stack:=λb t z=>by
  rcases aAi.mp (I.ab7 b z)with e|z
  .show(O b t).2.1 e
  show(O b t).2.2.1 z
 have q:∀x c,X.env.cells.lookup x=some c->c<s.heap.objs.size+1:=λx c h=>by let{v,o,L,_}:=I.cell x c h;show aBx (aAd L)
 have has:∀x,((relabel a X.env).names.lookup x=some .cell\/(relabel a X.env).names.lookup x=some .free)->∃c,(eN X a s.heap.objs.size).lookup x=some c:=λx J=>by
  have:((eN X a s.heap.objs.size).lookup x).isSome=true:=PySem.W.cellsFrom_some _ _ _ (by
   rcases kG J with h|h
   .let{c,hc}:=yS (env:=X.env) a.names [] (x:=x) (.inl h);grind
   show .inl h)
  show aFK.mp this
 show⟨⟨I.ok.mod,S.kind,I.ok.glob,I.ok.blt,aAh _,mW a.names _ _ (λx c h=>q x c (B x c h)) (λx y c h1 w=>I.ok.inj x y c (B x c h1) (B y c w)),has,λx c hf h=>aCA (rW a.names _ _ (PySem.mem_of_lookup<|eq_of_beq hf) h),I.ok.hd,I.ok.frames,.inl rfl,
  λb t=>{aAk (ao b t),λx c h=>(cc x c h).elim (λh=>(O b t).2.2.2.2.1 x c (B x c h)) λ⟨_,w⟩ z=>absurd (aAq (ao b t)<|aCA w) (by grind)},I.bs,aAn I.ok.bsz I.sz,λb o e=>l b o e,nfs,I.stack,I.ad7⟩,rfl,I.bare,Un.kept g,{_,zf,λi x v e1 A C=>?_},λx c h=>?_,I.hok.fresh (aAh _),λx c h=>(cc x c h).elim (λh=>I.freeC x c (B x c h)) λ⟨_,w⟩=>I.hok.fresh (aCA w),λp hp=>?_,I.hok.kept g,?_⟩
 .
  have hlen:(own++U).length=(U6 own Y N).length:=by simp[U6,S.len]
  unfold U6 at A;by_cases hi:i<own.length
  .rw[aAX (by simpa using hi),aBD,kc hi]at A;cases A
  have ic:own.length<=i:=aFU hi;rw[aAE (by simpa using ic),aCk,aAH]at A;have yt:(own++U)[i]?=some x:=e1;rw[aAE ic]at yt;cases e:Y[i-own.length]? with
  |none=>rw[e]at A;cases A
  |some j=>
   rw[e]at A;have e2':N.getD j none=some v:=Option.some.inj A;let{hN,T}:=S.at_ (i-own.length) j x e yt;have hσ:N[j]?=some (some v):=by grind
   have hk:=S.free (x,.free) T rfl;let{m,hn,hl}:=I.loc;let{u,r,lk}:=hl j x v hN hσ (.inr hk);show{u,r,?_};rcases lk with⟨kr,_⟩|⟨_,c,hc,jh⟩
   .simp_all
   right;let{c',yf}:=yS (env:=X.env) a.names [] (x:=x) (.inl T);have:=B x c' yf;rw[hc]at this;cases this;show{?_,c,(sE a.names _ _<|S.apart (x,.free) T rfl).trans yf,?_}
   .rcases C with C|C|C
    .
     exfalso;have:∀f:List (Str×eQ),(f.map λ(n,k)=>if(k==NameKind.free&&X.env.scope.kind==.function&&X.env.kindOf n==some .cell)then(n,aCv)else(n,k)).lookup x=some .local->f.lookup x=some .local:=by
      intro f;induction f with
      |nil=>intro h;cases h
      |cons y r ih=>
       let{n,k}:=y;intro h;rw[aAm]at h;dsimp only at h;by_cases J:x=n
       .subst J;by_cases E:(k==NameKind.free&&X.env.scope.kind==.function&&X.env.kindOf x==some .cell)=true
        .simp_all
        simp_all
       rw[aBq,beq_eq_false_iff_ne.mpr J];by_cases E:(k==NameKind.free&&X.env.scope.kind==.function&&X.env.kindOf n==some .cell)=true
       .rw[kc E,aBq,beq_eq_false_iff_ne.mpr J]at h;show ih h
       rw[kd E,aBq,beq_eq_false_iff_ne.mpr J]at h;show ih h
     have w:=this a.names C;rw[S.dis (x,.free) T rfl]at w;cases w
    .show .inl C
    show .inr C
   let{o,L,hd}:=jh;show{o,g c o L,hd}
 .rcases cc x c h with h|⟨h,_⟩
  .let{v,o,L,hd}:=I.cell x c (B x c h);show{v,o,g c o L,hd}
  show{_,h}
 .have hp':p∈X.pn++pins:=by simpa[HB]using hp
  let{e,n,ne,nf,d}:=I.pin p hp';show{g _ _ e,n,aAk (aAd e),λz=>?_,d};rcases aAi.mp (I.ab7 p.1 z)with e'|z'
  .show ne e'
  show nf z'
 simp[U6,HB,S.len]
def w9(G:D->Ev->R Ev)(ft:Ev->R Bool)(fe:Ev->R D)(ρ:Ev):List D->R (List D)
 |[]=>.ok []
 |d::e=>match G d ρ with
  |.ok a=>(ft a).bind λb=>if b=true then(fe a).bind λr=>(w9 G ft fe ρ e).bind λf=>.ok (r::f)else w9 G ft fe ρ e
  |_=>.bad
def lB(a ρ:Ev):Prop:=a.length=ρ.length/\∀(i:Nat) (b:Sl),ρ[i]?=some b->b≠.no->a[i]?=some b
def EnvOk.weak{K:kn}{d H:Hp}{f O:ba->Prop}{g:St}{b ρ:Ev}(E:EnvOk K d f H O g b)(h:lB b ρ):EnvOk K d f H O g ρ where
 len:=E.len.trans h.1
 same:=E.same
 sub:=E.sub
 trk:=E.trk
 trk0:=E.trk0
 tab:=E.tab
 slot:=λi k e=>by
  by_cases n:k=.no
  .subst n;trivial
  show E.slot i k (h.2 i _ e n)
 inj:=λi j x y a o p l m=>E.inj i j x y a (h.2 i _ o (by rintro rfl;show l)) (h.2 j _ p (by rintro rfl;show m)) l m
def U4(H:Hp)(a:ba):Hp:=λb=>if b=a then none else H b
def FZ(H:Hp)(a:ba):U4 H a a=none:=kc rfl
def T4(h:b≠a):U4 H a b=H b:=kd h
def NM(h:H a=some o):upd (U4 H a) a o=H:=by
 funext b
 unfold upd U4
 simp_all
def EnvOk.ae6{K:kn}{d H:Hp}{e O:ba->Prop}{f:St}{ρ:Ev}{a:ba}{vs:List V}(E:EnvOk K d e H O f ρ)(h:H a=none)(g:K.lookup a=none):EnvOk K d e (upd H a (.lst vs)) (λb=>O b\/b=a) f ρ:=E.ac1 h g trivial
def Rep.hidden{K:kn}{H:Hp}{O:ba->Prop}{a:ba}{vs:List V}{v:V}{d:D}(h:H a=some (.lst vs))(r:Rep K H (λb=>O b\/b=a) v d):Rep K (U4 H a) O v d:=by
 show r.mono (λb Y q=>?_) (λb Y n q=>{λz=>n (.inl z),?_}) λb f n q=>{λz=>n (.inl z),by rw[T4 λz=>n (.inr z)];show q}
 .rcases q with(q|⟨o,q⟩)|q
  .show .inl (.inl (by rw[T4 (by grind)];show q))
  .show .inl (.inr {o,by rw[T4 (by grind)];show q})
  show .inr q
 have e:=λz=>n (.inr z);rcases q with(q|⟨o,q⟩)|q
 .show .inl (.inl ((T4 e)▸q))
 .show .inl (.inr {o,by rw[T4 e];show q})
 show .inr q
def X3(h:H a=none)(s:Same (upd H a (.lst vs)) H'):Same H (U4 H' a):=λb o q=>by
 have d:b≠a:=by grind
 rw[T4 d];show s b o ((m5 d)▸q)
def ItC(K:kn)(J:It)(H:Hp)(O:ba->Prop)(ds:List D):Prop:=∀b e,Same H b->Kp H O b e->V0 K e->(∀a,O a->∃o,H a=some o/\Mt o)->(∀a,e a->∃o,b a=some o/\Mt o)->∀i:Nat,
 (∀d,ds[i]?=some d->J.go i b/\∀x f,J.yld i b x f->Same b f/\Rep K f e x d)/\(ds[i]?=none->J.stop i b)
def sk.c{K:kn}(h:sk K J H O ds):ItC K J H O ds:=λa b _=>h a b
def tIc(X:Cx)(f:Ev->R (List D)):TI:=λd H R=>∃g h O b,EnvOk X.K g h H O d b/\V0 X.K O/\match f b with
 |.ok i=>∀J a,Same H a->ItC X.K J a O i->R J a
 |.ex e=>∀a,Same H a->XW X e a
 |.bad=>False
def PIC(X:Cx)(a iter:cq)(f:Ev->R (List D)):Prop:=PI X a iter (tIc X f)
def pic(h:XO X b iter f):PIC X b iter f:=IR h λj H R ⟨d,g,O,a,E,k,q⟩=>⟨d,g,O,a,E,k,by
 cases e:f a with
 |ok l=>rw[e]at q;showλJ i s h=>q J i s h.c
 |ex x=>simp_all
 |bad=>rw[e]at q;show q⟩
section
def XU(X:Cx)(b:List cq)(ft:Ev->R Bool):Prop:=
 ∀(a:P9) (s:aL) (d:St) (H:Hp) (Q:Bool->Hp->Prop),Inv X a d H s->tDT X ft d H Q->
  bb (bc X.prog X.w) X.A (forIn b true λc r=>if r=true then do let ok<-isTrue c X.env (dm c X.env);pure (aCi ok)else pure (aCi r)) (TP X a d Q) X.xe s
def zQ:XU X [] (λ_=>.ok true):=by rintro a s b H Q I ⟨d,e,O,f,E,q⟩;show wpAny_tests_nil {H,I,q H (Same.refl _)}
def JI(h:EG X c ft):XU X [c] ft:=λa s b H Q I q=>wpAny_tests_one (h a s b H Q I q)
def rT{tg elt iter:cq}{ifs:List cq}{scope:ik}{own fr:List Str}{js:List Nat}{G:D->Ev->R Ev}{ft:Ev->R Bool}{fe:Ev->R D}{pins:P9}{σ:St}{H:Hp}{s:aL}{H9:Hp}{O0 O:ba->Prop}{ρ:Ev}
  {it:ba}{U:List ba}{tn:Nat->ck->Prop}{J:It}{ds rs:List D}{RR:au->ba->Result->aL->Prop}{EE:B6} (hc:X.calm=true) (S:CompSc X scope own fr js)
  (hX:∀t:Cx,(∃s9 Ha C,t=HB X pins s9 Ha (own++fr) scope (eN X scope C) C U)->LV t tg G/\XU t ifs ft/\PD t elt fe)
  (hG:∀d L,G d (i8 own js ρ)=.ok L->lB L (i8 own js ρ))
  (I:Inv X pins σ H s) (T:Turn X.prog X.w X.K tg J U it tn) (st:tn 0 s.heap) (wu:∀b∈U,pJ X pins H b) (E:EnvOk X.K H9 O0 H O σ ρ) (hJ:ItC X.K J H O ds) (hrs:w9 G ft fe (i8 own js ρ) ds=.ok rs) (hlen:ds.length<=sizeLine)
  (fin:∀B C s' H' m,s'.heap.Ns C m->C≠B->s.heap.objs.size<=C->s.heap.objs.size<=B->Same H H'->Rep X.K H' O (.ref B) (.lst rs)->(∃H1 vs,Same H H1/\H1 B=none/\H'=upd H1 B (.lst vs)/\Reps X.K H1 O vs rs)->H' C=none->(∀h',Heap.SameBut C s'.heap h'->Inv X pins σ H' {s' with heap:=h'})->RR (.ref B) C (.ok .next) s'):
  bb (bc X.prog X.w) X.A (newList []) (λB sa=>bb (bc X.prog X.w) X.A (newFunctionEnv scope X.env.globals (QM X.env scope.names []) [] X.env.qual none .none (some X.env)) (λcenv se=>fo (bc X.prog X.w) X.A (.compStart (.ListComp elt [{tg,iter,ifs,0}] scope pos) 0 (.ref it) B {cenv with scope:=relabel scope X.env}) (RR B cenv.locals) se) EE sa) EE s:=by
 have hO:=oB I O E.trk;show aAA ?_;have hfr:H s.heap.objs.size=none:=I.hok.fresh (aAh _);have hkl:X.K.lookup s.heap.objs.size=none:=by
  cases e:X.K.lookup s.heap.objs.size with
  |none=>rfl
  |some o=>show absurd (aAd<|I.kIn _ o e) (aBJ _)
 have I1:Inv X pins σ (upd H s.heap.objs.size<|.lst []) {s with heap:=s.heap.push {cls:=.type "list",dict:=none,data:=.seq ([]:List au).toArray}}:=
  I.laid (t':=s.toks) (λb u e=>aAb _ e) (aAh _) {aAQ _,[],0,.nil,aAg _ rfl}
 generalize df:s.heap.objs.size=B at*
 generalize zg:({s with heap:=s.heap.push {cls:=.type "list",dict:=none,data:=.seq ([]:List au).toArray}}:aL)=s1 at I1⊢;have sz1:s1.heap.objs.size=B+1:=by rw[<-zg,<-df];show aBc _ _
 have keep1:∀b o,s.heap.get? b=some o->s1.heap.get? b=some o:=λb o e=>by rw[<-zg];show aAb _ e
 have xa:∀b∈U,b<B:=λb g=>by let{o,e,_}:=T.obj 0 _ st b g;rw[<-df];show aAd e
 have hfp1:∀b∈U,pJ X pins (upd H B<|.lst []) b:=λb g=>by let{f0,f}:=wu b g;show{by rw[m5 (aAk<|xa b g)];show f0,f}
 show OA ?_;obtain⟨N,e8⟩:∃N,pushCells (s1.heap.push {cls:=.type "dict",data:=.dict #[]}) scope.names=N:={_,rfl};rw[e8];have keep2:∀b o,s1.heap.get? b=some o->N.get? b=some o:=λb o e=>by rw[<-e8];show aEZ _ _ _ _ (aAb _ e)
 have IB:=MI (tk:=s1.toks) I1 S hfp1 (λb g=>by rw[sz1];show aBx (xa b g)) e8.symm;generalize hC:s1.heap.objs.size=C at*
 let{hG',hT',hE'}:=hX _ {s1,upd H B (.lst []),C,rfl};generalize qe:HB X pins s1 (upd H B<|.lst []) (own++fr) scope (eN X scope C) C U=t at IB hG' hT' hE';have eP:t.prog=X.prog:=by rw[<-qe];rfl
 have eW:t.w=X.w:=by rw[<-qe];rfl
 have eK:t.K=X.K:=by rw[<-qe];rfl
 have eA:t.A=X.A:=by rw[<-qe];rfl
 have eC:t.calm=true:=by rw[<-qe];show hc
 have eX:t.xe=λ_ _=>False:=by rw[<-qe];rfl
 have eE:t.env=compEnvC scope (eN X scope C) C X.env:=by rw[<-qe];rfl
 have eX0:t.ex=U:=by rw[<-qe];rfl
 have ePn:t.pn=X.pn++pins:=by rw[<-qe];rfl
 have eFs:t.fs=BM X.stack:=by rw[<-qe];rfl
 have eS0:t.s9=s1:=by rw[<-qe];rfl
 have eH0:t.H9=upd H B (.lst []):=by rw[<-qe];rfl
 have eL:t.env.locals=C:=by rw[eE];rfl
 have eCe:t.env.cells=eN X scope C:=by rw[eE];rfl
 have I2of:=IB;have accC:B≠C:=by rw[sz1];show aAk (aDT _)
 have fpC:∀b∈U,b≠C:=λb g=>by have h1:=xa b g;rw[sz1];show aAk (aBx h1)
 have fpB:∀{H':Hp},(∀b∈U,H' b=none)->∀b∈U,pJ t [] H' b:=λ{H'} hn b g=>by
  let{f0,f1,f2,f3,f4,f5}:=wu b g;show{hn b g,by rw[eL];show fpC b g,?_,.inl (by rw[eX0];show g),λx c h=>(λb g x c h=>(I2of.ok.exf b (by rw[eX0];show g)).2 x c h) b g x c h,λp hp=>f5 p (by grind)};rw[eFs];intro z;rcases aAi.mp (I.ab7 b z)with e|z
  .show f1 e
  show f2 z
 have PJ:tn 0 N:=T.keep 0 s.heap N st λb g o e=>keep2 b o (keep1 b o e)
 let Iv:Nat->aL->Prop:=λn s'=>∃i ag Q vs rd,n=ds.length-i/\i<=ds.length/\Inv t [] ag (upd Q B<|.lst vs) s'/\Q B=none/\tn i s'.heap/\(∀b∈U,Q b=none)/\EnvOk X.K H9 O0 Q O ag (i8 own js ρ)/\Same H Q/\
  Reps X.K Q O vs rd/\(∃rest,w9 G ft fe (i8 own js ρ) (ds.drop i)=.ok rest/\rs=rd++rest)/\vs.length<=i
 have loop:fo (bc X.prog X.w) X.A (.compLoop (.ListComp elt [{tg,iter,ifs,0}] scope pos) 0 (.ref it) (.ref B) (compEnvC scope (eN X scope C) C X.env)) (RR (.ref B) C) {s1 with heap:=N}:=by
  show ON Iv ?_ ds.length {0,_,H,[],[],by simp,aAQ _,IB,hfr,PJ,λb g=>(wu b g).1,OD S.nd E,Same.refl H,.nil,{rs,by rw[List.drop_zero];show hrs,rfl},aAQ _};rintro n s2 ⟨i,yg,Q,vs,rd,rfl,hi,I2,yi,ku,fx2,E2,ym,r2,⟨rest,l,xb⟩,hvl⟩;have fr2:∀b∈U,(upd Q B<|.lst vs) b=none:=λb g=>by rw[m5 (aAk<|xa b g)];show fx2 b g
  have sU:=j4 yi (.lst vs);have hit:=hJ (upd Q B<|.lst vs) (λb=>O b\/b=B) (ym.trans sU) (λb o q n=>{sU b o (ym b o q),λz=>z.elim n λz=>by subst z;rw[hfr]at q;cases q}) (λa o q z=>z.elim (hO a o q) λz=>by subst z;rw[hkl]at q;cases q) E.trk
   (λa z=>(E2.ae6 (vs:=vs) yi hkl).trk a z) i
  by_cases ao:i<ds.length
  .let{go,yl}:=hit.1 ds[i] (aAl ao);rw[aDQ ao,w9]at l;have pf:=T.item t eP eW eK eC i [] s2 yg _ (λ_ _=>False) I2 (fpB fr2) ku go;rw[eA]at pf;show D8 pf λr s3 z9=>?_;let{u,hr,h3}:=z9;subst hr;show D8 h3 λ_ s4 z9=>?_;let{x,H4,I4,ru,y4,st4,fr4}:=z9;let{sm4,rep4}:=yl x H4 y4;cases e1:G ds[i] (i8 own js ρ)with
   |ex z=>rw[e1]at l;cases l
   |bad=>rw[e1]at l;cases l
   |ok L=>
    rw[e1]at l;dsimp only at l;have I4':=I4.pinned (fpB fr4) (T.obj _ _ st4);have again:∀{s7:aL}{qh:St}{y:Hp}{vs7:List V}{rd7:List D}{rest7:List D},Inv t ([]++tK U s4.heap) qh y s7->y B=some (.lst vs7)->EnvOk X.K H9 O0 (U4 y B) O qh (i8 own js ρ)->Same H (U4 y B)->Reps X.K (U4 y B) O vs7 rd7->
      w9 G ft fe (i8 own js ρ) (ds.drop<|i+1)=.ok rest7->rs=rd7++rest7->vs7.length<=i+1->∃m,m<ds.length-i/\Iv m s7:=λ{s7 qh y vs7 rd7 rest7} I7 h7 E7 sm7 r7 hr7 hrs7 hv7=>by
     show{ds.length-(i+1),by omega,i+1,qh,U4 y B,vs7,rd7,rfl,ao,?_,FZ _ _,T.keep _ _ _ st4 λb g o e=>(I7.pin (b,o)<|aAx _<|aAx _<|cU g e).1,λb g=>?_,E7,sm7,r7,{rest7,hr7,hrs7},hv7}
     .rw[NM h7];show I7.ab4
     rw[T4 (aAk<|xa b g)];let{o,e,d}:=T.obj _ _ st4 b g;show(I7.pin (b,o)<|aAx _<|aAx _<|cU g e).2.1
    have hasg:=hG' _ s4 yg H4 x u (λY H5=>Same H4 H5/\EnvOk X.K H9 O0 H5 (λb=>O b\/b=B) Y L) I4' ru {H9,O0,_,_,ds[i],L,by rw[eK];show((E2.ae6 yi hkl).grow sm4),by rw[eK];show rep4,e1,λY H5 s5 E5=>{s5,by rw[eK]at E5;show E5}};rw[eP,eW,eA,eE,eX]at hasg;show D8 hasg λ_ s5 z9=>?_;let{Y,H5,I5,sm5,E5}:=z9;have hacc5:H5 B=some (.lst vs):=sm5 B _ (sm4 B _ j2);cases e2:ft L with
    |ex z=>rw[e2]at l;cases l
    |bad=>rw[e2]at l;cases l
    |ok b=>
     rw[e2,R.aa0]at l;have htst:=hT' _ s5 Y H5 (λc H6=>c=b/\Same H5 H6) I5 {H9,O0,_,L,by rw[eK];show E5,by rw[e2];showλH6 s6=>{rfl,s6}};rw[eP,eW,eA,eE,eX]at htst;show D8 htst λok s6 z9=>?_;let{H6,I6,g,sm6}:=z9;subst g;have sm46:=sm4.trans (sm5.trans sm6);have hacc6:H6 B=some (.lst vs):=sm6 B _ hacc5;have smx6:Same Q (U4 H6 B):=X3 yi sm46;have W1:lB L (i8 own js ρ):=hG _ _ e1;have Eb:∀{y:Hp},Same H5 y->EnvOk X.K H9 O0 (U4 y B) O Y (i8 own js ρ):=λ{y} s7=>by
      have E7:=(E5.grow s7).weak W1;have h7:y B=some (.lst vs):=s7 B _ hacc5;show{E7.len,E2.same.trans (X3 yi<|sm4.trans<|sm5.trans s7),E2.sub,λa z=>?_,E2.trk0,E2.tab.same (X3 yi<|sm4.trans<|sm5.trans s7),λj sl e=>?_,E7.inj}
      .let{o,q,mt}:=E2.trk a z;show{o,X3 yi (sm4.trans<|sm5.trans s7) a o q,mt}
      rcases Y9 e with rfl|⟨_,⟨d,rfl⟩|⟨k,rfl⟩,_⟩
      .trivial
      .let{v,h1,h2}:=E7.val j d e;show{v,h1,Rep.hidden h7 h2}
      let{b,o,es,h1,g,h3,h4,h5,h6,h8}:=E7.slot j _ e;have nb:b≠B:=by grind
      show{b,o,es,h1,g.resolve_right nb,h3,by rw[T4 nb];show h4,h5,h6.mono (Rep.hidden h7),h8}
     cases ok with
     |false=>rw[kd aBF]at l⊢;show again I6 hacc6 (Eb sm6) (ym.trans smx6) (r2.same smx6) l xb (Nat.le_succ_of_le hvl)
     |true=>
      rw[kc rfl]at l⊢;cases e3:fe L with
      |ex z=>rw[e3]at l;cases l
      |bad=>rw[e3]at l;cases l
      |ok dv=>
       rw[e3,R.aa0]at l;cases e4:w9 G ft fe (i8 own js ρ) (ds.drop<|i+1)with
       |ex z=>rw[e4]at l;cases l
       |bad=>rw[e4]at l;cases l
       |ok rest'=>
        rw[e4,R.aa0]at l;have qp:dv::rest'=rest:=R.ok.inj l;have helt:=hE' _ s6 Y H6 (λv y=>Same H6 y/\Rep X.K y (λb=>O b\/b=B) v dv) I6 {H9,O0,_,L,by rw[eK];show E5.grow sm6,by rw[e3,RC];showλv y s7 r7=>{s7,by rw[eK]at r7;show r7}};rw[eP,eW,eA,eE,eX]at helt;show D8 helt λuv s7 z9=>?_;let{v,y,I7,ruv,sm7,r7}:=z9;have hacc7:y B=some (.lst vs):=sm7 B _ hacc6;have happ:=wV (X:=t) _ s7 Y y (.ref B) [v] (.ref B) [uv] (λ_ H8=>H8=upd y B (.lst (vs++[v]))) I7 rfl (.cons ruv .nil) {B,vs,v,rfl,rfl,hacc7,by omega,rfl};rw[eP,eW,eA,eX]at happ;show D8 happ λ_ s8 z9=>?_;let{_,H8,I8,_,h8}:=z9;subst h8;have hh:U4 (upd y B<|.lst (vs++[v])) B=U4 y B:=by
         funext b
         unfold U4 upd
         simp_all
        have smx7:Same Q (U4 y B):=X3 yi (sm46.trans sm7);show again (vs7:=vs++[v]) (rd7:=rd++[dv]) (rest7:=rest') I8 j2 (by rw[hh];show Eb (sm6.trans sm7)) (by rw[hh];show ym.trans smx7) ?_ e4 (by rw[xb,<-qp,aEu];rfl) (by rw[aAy];show Nat.succ_le_succ hvl);rw[hh];show(r2.same smx7).snoc (Rep.hidden hacc7 r7)
  have ic:i=ds.length:=by omega
  subst ic;have hstop:=hit.2 (by simp);have pf:=T.done t eP eW eK eC ds.length [] s2 yg _ (λ_ _=>False) I2 (fpB fr2) ku hstop;rw[eA]at pf;show D8 pf λr s3 z9=>?_;let{hr,I3}:=z9;subst hr;rw[List.drop_length,w9]at l;have qp:([]:List D)=rest:=R.ok.inj l;rw[<-qp,aBU]at xb;let{m,hm,_}:=id I3.loc;rw[eL]at hm;show fin B C s3 (upd Q B<|.lst vs) m hm (aCF accC) (by omega) (aAh _) (ym.trans sU) ?_ {Q,vs,ym,yi,rfl,by rw[xb];show r2} (by rw[<-eL];show I3.free) (λh' jo=>?_)
  .rw[xb];show .lst (L7.of j2) (E2.fresh yi) (r2.same sU)
  have hU:Un (BM X.stack) U (upd H B<|.lst []) (upd Q B<|.lst vs) s1.heap s3.heap:=by have:=I3.base;rw[eFs,eX0,eH0,eS0]at this;show this
  have hCn:∀b o,s1.heap.get? b=some o->b≠C:=λb o e=>by have:=aAd e;rw[hC]at this;show aAk this
  have hU':Un (BM X.stack) U (upd H B<|.lst []) (upd Q B<|.lst vs) s1.heap h':=⟨λb o e n g hx=>(jo.2 b (hCn b o e)).trans (hU.keep b o e n g hx),λb o e n g hx=>by
    let{sl,q}:=hU.slot b o e n g hx;show{sl,(jo.2 b (hCn b o e)).trans q},hU.free,λb o e hx=>by
    let{o',q}:=hU.there b o e hx;show{o',(jo.2 b (hCn b o e)).trans q},hU.tups,hU.frzs,hU.tbls⟩
  have hCf:upd Q B (.lst vs) C=none:=by rw[<-eL];show I3.free
  have zh:iR X.prog X.w (upd Q B<|.lst vs) h':=λb u e=>by
   have g:b≠C:=by grind
   have:=I3.hok b u e;rw[eP,eW]at this;show this.ac0 (λc v hc q=>(jo.2 c ?_).trans q) (λ_ q=>q) λ_ _ _ q=>q;grind
  have hos:s3.os=s1.os:=by have:=I3.os;rw[eS0]at this;show this
  show I1.ag0 (s':={s3 with heap:=h'}) (ch:=U) hos hU' zh I3.bare λb g=>by let{f0,f1,f2,f3,f4,f5}:=wu b g;show{f3,f1,f4,f5}
 show codeAny_compStart_list loop (T.self _ 0 _ _ _ PJ loop)
def VJ(own z:List Str)(f:List Nat)(Y:X.calm=true)(S:CompSc X a own z f)(hi:PIC X A iter L)(hX:∀(b:P9) (k:List ba) (i:Cx),(∃s9 Ha C,i=HB X b s9 Ha (own++z) a (eN X a C) C k)->LV i A G/\XU i l ft/\PD i n fe)(hG:∀ρ d h,G d (i8 own f ρ)=.ok h->lB h (i8 own f ρ))(hs:∀x,ee iter X.env x=pure x:=by intro _;rfl):
  PD X (.ListComp n [{A,iter,l,0}] a pos) (λρ=>(L ρ).bind λds=>if ds.length<=sizeLine then(w9 G ft fe (i8 own f ρ) ds).bind λrs=>.ok (.lst rs)else .bad):=by
 show qV λb s σ H Q I H9 O0 O ρ E q=>?_;dsimp only at q;show aDZ rfl hs (aP<|Inv.ab0 I S) S.kind S.names (D8 (hi b s σ H (λJ o=>∃ds rs,Same H o/\ItC X.K J o O ds/\ds.length<=sizeLine/\w9 G ft fe (i8 own f ρ) ds=.ok rs/\∀v g,Same H g->Rep X.K g O v (.lst rs)->Q v g) I {H9,O0,O,ρ,E,oB I O E.trk,?_}) λv N h1=>D8 h1 λitv s2 h2=>?_)
 .cases p:L ρ with
  |ex x=>rw[p]at q;show q
  |bad=>rw[p]at q;show q
  |ok ds=>
   rw[p,R.aa0]at q;intro J o N t;split at q
   .rename_i u;cases j:w9 G ft fe (i8 own f ρ) ds with
    |ex x=>rw[j]at q;show(q H<|Same.refl _).elim
    |bad=>rw[j]at q;show q.elim
    |ok rs=>rw[j]at q;show{ds,rs,N,t,u,j,q}
   show q.elim
 let{it,k,tn,J,H2,e,I2,T,ku,f2,ds,rs,U,t,u,w,q}:=h2;subst e;show rT Y S (hX b k) (hG ρ) I2 T ku f2 (E.grow U) t w u ?_;intro B C s' g m hn _ _ _ y r _ _ hI;show{m,hn,λh' jo=>{.ref B,g,hI h' jo,rfl,q _ g (U.trans y) r}}
def J9(own h:List Str)(b:List Nat)(l:X.calm=true)(S:CompSc X a own h b)(m:XO X k iter n)(o:∀(e:P9) (p:List ba) (g:Cx),(∃q r C,g=HB X e q r (own++h) a (eN X a C) C p)->LV g k G/\XU g i ft/\PD g j fe)(s:∀ρ d f,G d (i8 own b ρ)=.ok f->lB f (i8 own b ρ))(t:∀x,ee iter X.env x=pure x:=by intro _;rfl):
 PD X (.ListComp j [{k,iter,i,0}] a u) (λρ=>(n ρ).bind λds=>if ds.length<=sizeLine then(w9 G ft fe (i8 own b ρ) ds).bind λrs=>.ok (.lst rs)else .bad):=VJ own h b l S (pic m) o s t
end
def _root_.L2.ObjOk.live(x:ObjOk P w H h a o):h.get? a≠none:=by
 intro z;have b:∀{u:Obj},h.get? a=some u->False:=λq=>by rw[z]at q;cases q
 cases o with
 |lst Y=>let{_,_,_,_,e}:=x;show b e
 |tup Y=>let{_,_,_,o,e,_}:=x;show b e
 |dK N=>let{_,_,_,_,o,_,_,e,_}:=x;show b e
 |dT N=>let{_,_,_,_,o,_,_,e,_}:=x;show b e
 |set S n=>let{o,_,_,_,e,_}:=x;show b e
 |ins C d fs=>let{_,_,_,e,_}:=x;show b e
 |own y=>let{_,e}:=x;show b e
 |xd fs=>let{_,{_,_,_,e,_},_}:=x;show b e
 |rng lo g=>let{_,_,_,e}:=x;show b e
 |frz i u=>let{e,_}:=x;show b e
 |tbl j=>let{_,e,_}:=x;show b e
 |met f y=>show b (x)
 |ext k=>let{_,{_,e},_}:=x;show b e
section
end
section
variable{P:be}{w:cf}{K:kn}{mg:eU}{base:ck}
end
section
variable{X:Cx}{E:XK}{st:cp}{rest:List cp}{F:Ev->R Out}{G Ga Gb:Ev->Option au}{pos:Pos}
end
section
variable{K:kn}{h:ck}{C:ba}{bmB:List au}{newId:String}
end
section
variable{X:Cx}{E:XK}{pos ah np:Pos}{x:Str}{C:ba}{bmB:List au}{B newId initId:String}
end
end
end DL
namespace TS
open PySem PyProof.Rows HT
def NY(f:Bool)(x y:au):keyLt' (tupK f) x y=(do
 let Y<-aDq x;let a<-aDq y
 for ((p,q),i)in(Y.toList.zip a.toList).zipIdx do
  if !(<-eqBool p q)then return<-oneLt' (f&&i==0) p q
 return decide (Y.size<a.size)):=rfl
def QB:au->Sem (Option au):=sortPriv%PySem.Builtin.firstOfTuple?
def SJ:Array au->Sem (Option au):=sortPriv%PySem.Builtin.oneTypeOnly
def NL(v:au):QB v=(do
 if(<-typeOf v) !=.type "tuple"then return none
 return (<-aDq v)[0]?):=rfl
def VS(vs:Array au):SJ vs=(do
 let a<-vs.mapM typeOf
 match a[0]? with
 |some t=>return if a.all (· ==t)then some t else none
 |none=>return none):=rfl
def FJ(a:Array au):keyKind' a=(do
 let firsts<-a.mapM QB
 if firsts.all (·.isSome)then
  rule "list.sort.keys-are-tuples"
  return tupK ((<-SJ (firsts.filterMap id)).any (· !=.type "tuple"))
 if(firsts[0]?.bind id).isSome then return general'
 return if(<-SJ a).isSome then oneType' else general'):=rfl
section
def RV{Q:CD}(f:Bool)(h:Q (decide (a<b)) s):bb (bc prog w) A (oneLt' f (.int a t) (.int b u)) Q E s:=by
 cases f with
 |true=>show oneLt_int h
 |false=>rw[oneLt'_eq];show aAa (DZ A s a t b u prog w _ _<|aBw h)
def lt_ints(f:Bool){Q:CD}(hl:IsTup s.heap l items)(hb:IsTup s.heap b p)(T:IntsAre items.toList ns)(U:IntsAre p.toList J)(h:Q (HT.lexLt ns J) s):bb (bc prog w) A (keyLt' (tupK f) (.ref l) (.ref b)) Q E s:=by
 let{o,ho,hc,n,hd}:=hl;let{o2,la,jv,n2,L}:=hb;have z1:items.size=ns.length:=by rw[<-T.length];simp
 have z2:p.size=J.length:=by rw[<-U.length];simp
 rw[NY];show aAa (aEB ho hd<|aAa<|aEB la L ?_);show aAa (aCq _ (λrest b j=>b.1=none/\j=s/\∃(k:Nat) (C H:List au) (q r:List Int),rest=(C.zip H).zipIdx k/\IntsAre C q/\IntsAre H r/\q.length+p.size=r.length+items.size/\Q (HT.lexLt q r) s)
  (λb j=>j=s/\(∀c,b.1=some c->Q c s)/\(b.1=none->Q (decide (items.size<p.size)) s)) ?turn ?fin _ _ {rfl,rfl,0,items.toList,p.toList,ns,J,rfl,T,U,by lia,h}|>λz=>aCy z ?post λ_ _ e=>e)
 case post=>
  rintro⟨Y,b2⟩ j ⟨rfl,q1,q2⟩;cases Y with
  |none=>show aAc (q2 rfl)
  |some c=>show aAc (q1 c rfl)
 case fin=>
  rintro⟨Y,b2⟩ j ⟨jr,rfl,k,C,H,q,r,hz,N,I,d,g⟩;show{rfl,λc e=>(by grind),λ_=>?_};cases N with
  |nil=>
   cases I with
   |nil=>rw[iS]at g;erw[aBV]at d;rw[decide_eq_false (by lia)];show g
   |cons c u hw=>rw[O6]at g;erw[aBV,aAp]at d;rw[decide_eq_true (by lia)];show g
  |cons a t hv=>
   cases I with
   |nil=>rw[D5]at g;erw[aBV,aAp]at d;rw[decide_eq_false (by lia)];show g
   |cons c u hw=>simp_all
 case turn=>
  rintro⟨⟨y,x⟩,i⟩ rest b j ⟨jr,rfl,k,C,H,q,r,hz,N,I,d,g⟩;cases N with
  |nil=>simp_all
  |cons a t v=>
   cases I with
   |nil=>simp_all
   |cons c u B=>
    injection hz with m af;injection m with m O;injection m with hy hx;subst hy hx O;rw[J2]at g;erw[aAp]at d;let{e,he,zd}:=CV A j a t c u;show aAa (he prog w _ _ ?_);cases e with
    |true=>rw[kc (zd.mp rfl)]at g;show aAc {rfl,rfl,_,_,_,_,_,af,v,B,by lia,g}
    |false=>show aAa (RV _ (aAc {rfl,λc e=>(by grind),λe=>(by cases e)}))
end
section
theorem JE{a β:Type}{M:Model}{f:a->Sem β}(g:a->β):∀(Y:List a) {Q:List β->aL->Prop},(∀x∈Y,∀{Q:β->aL->Prop},Q (g x) s->bb M A (f x) Q E s)->Q (Y.map g) s->bb M A (Y.mapM f) Q E s
 |[],Q,_,q=>by rw[List.mapM_nil];show aAc q
 |x::Y,Q,h,q=>by rw[List.mapM_cons];show aAa (h x (.head _) (aAa (JE g Y (λy b=>h y (.tail _ b)) (aAc q))))
def JT{a β:Type}{M:Model}{f:a->Sem β}(g:a->β)(Y:List a){Q:Array β->aL->Prop}(h:∀x∈Y,∀{Q:β->aL->Prop},Q (g x) s->bb M A (f x) Q E s)(q:Q (Y.map g).toArray s):bb M A (Y.toArray.mapM f) Q E s:=by rw[List.mapM_toArray];show aAa (JE g Y h<|aAc q)
def kind_tuples{vs:List au}{f:Bool}{T:String}{Q:SortKind->aL->Prop}(b:au->au)(h:∀x∈vs,∃a items,x=.ref a/\IsTup s.heap a items/\items[0]?=some (b x)/\s.TypeIs (b x) T)(i:vs≠[])(z:f=(aCm T !=aCm "tuple"))
  (q:Q (tupK f) s):bb (bc prog w) A (keyKind' vs.toArray) Q E s:=by
 rw[FJ];show aAa (JT (λx=>some (b x)) vs (λx d {Q} e=>?_) ?_)
 .let{a,items,rfl,{o,g,j,n,k},l,_}:=h x d;rw[NL];show aAa (aDe {o,g,j}<|aAa<|aEB g k ?_);rw[l];show aAc e
 have m:((vs.map λx=>some (b x)).toArray.all λx=>x.isSome)=true:=by simp
 have p:(vs.map λx=>some (b x)).toArray.filterMap id=(vs.map b).toArray:=by simp_all
 erw[m,p];show aAa (aCx<|aAa ?_);rw[VS];show aAa (JT (λ_=>aCm T) (vs.map b) (λx d {Q} e=>?_) ?_)
 .let{y,r,rfl}:=aAj.mp d;let{_,_,_,_,_,t}:=h y r;show aDe t e
 cases vs with
 |nil=>show absurd rfl i
 |cons v vs=>
  erw[aAm,aAI];have u:((aCm T::aDx ((λ_=>aCm T)∘b) vs).toArray.all λx=>x==aCm T)=true:=by simp
  erw[aCO,aDg,u,if_true];show aAc (aAc ?_)
  simp_all
end
theorem lex_irrefl:∀a:List Int,HT.lexLt a a=false
 |[]=>rfl
 |x::Y=>by rw[J2,kc rfl];show lex_irrefl Y
theorem lex_total:∀a b:List Int,HT.lexLt a b=false->HT.lexLt b a=false->a=b
 |[],[],_,_=>rfl
 |[],_::_,h,_=>by rw[O6]at h;cases h
 |_::_,[],_,h=>by rw[O6]at h;cases h
 |x::Y,y::g,d,f=>by
  rw[J2]at d f;by_cases e:x=y
  .subst e;rw[kc rfl]at d f;rw[lex_total Y g d f]
  lia
theorem lex_trans:∀a b c:List Int,HT.lexLt a b=true->HT.lexLt b c=true->HT.lexLt a c=true
 |[],[],_,h,_=>by grind
 |[],_::_,[],_,h=>by rw[D5]at h;cases h
 |[],_::_,_::_,_,_=>rfl
 |_::_,[],_,h,_=>by rw[D5]at h;cases h
 |_::_,_::_,[],_,h=>by rw[D5]at h;cases h
 |x::Y,y::g,z::i,d,f=>by
  rw[J2]at d f⊢;by_cases e:x=y
  .subst e;rw[kc rfl]at d;by_cases j:x=z
   .subst j;rw[kc rfl]at f⊢;show lex_trans Y g i d f
   grind
  lia
theorem KO:∀a b c:List Int,HT.lexLt a c=true->HT.lexLt a b=true\/HT.lexLt b c=true
 |[],[],_,h=>.inr h
 |[],_::_,_,_=>.inl rfl
 |_::_,_,[],h=>by rw[D5]at h;cases h
 |_::_,[],_::_,_=>.inr rfl
 |x::Y,y::d,z::f,h=>by
  rw[J2]at h;rw[J2,J2];by_cases e:x=y
  .subst e;rw[kc rfl];by_cases g:x=z
   .subst g;rw[kc rfl]at h⊢;show KO Y d f h
   simp_all
  lia
open Classical in
def kV(vs:List au) (key:au->List Int):KeyKind where
 α:=List Int
 blt:=HT.lexLt
 irrefl:=lex_irrefl
 trans:=lex_trans
 negTrans:=KO
 total:=lex_total
 keyOf:=λv=>if v∈vs then some (key v)else none
 dflt:=[]
open Classical in
def tx(h:v∈vs):(kV vs key).keyOf v=some (key v):=kc h
open Classical in
def yj(e:(kV vs key).keyOf v=some l):v∈vs/\key v=l:=by
 have a:(if v∈vs then some (key v)else none)=some l:=e
 lia
def qX(vs:List au):(pairsOf vs).toList=vs.map λv=>(v,v):=by
 unfold pairsOf;rw[List.zip_toArray];change vs.zip vs=_;induction vs with
 |nil=>rfl
 |cons v vs a=>simp_all
section
def ND{a:ba}{vs:List au}{n:Nat}{f:Bool}{key:au->List Int}{P:Fin->aL->Prop}(H:s.heap.get? a=some (seqObj "list" vs.toArray n))
  (I:∀d,Bar a s d->∀x∈vs,∀y∈vs,∀(prog:be) (w:cf) (E:B6) {Q:CD},Q (HT.lexLt (key x) (key y)) d->bb (bc prog w) A (keyLt' (tupK f) x y) Q E d)
  (J:2<=vs.length->∀d,Bar a s d->∀{Q:SortKind->aL->Prop},Q (tupK f) d->bb (bc prog w) A (keyKind' vs.toArray) Q E d) (g:vs.length<64)
  (h:∀m:List au,m.Perm vs->m.Pairwise (λx y=>HT.lexLt (key y) (key x)=false)->P (.done (.ret .none)) {s with heap:=sortedHeap s.heap a vs m.toArray}):
  bb (bc prog w) A (Builtin.«list.sort» {[.ref a],[]}) P E s:=by
 show DS (κ:=kV vs key) (f:=f) H (λp e=>?_) (λd o prog w E x y k l Q L N q=>?_) (λO d o {Q} q=>J O d o q) g λb hperm T=>?_
 .rw[qX]at e;let{v,r,rfl}:=aAj.mp e;show{key v,tx r}
 .let{U,t}:=yj L;let{Y,u}:=yj N;subst t u;show I d o x U y Y prog w E q
 have z:(arrOf b).toList.Perm (vs.map λv=>(v,v)):=by rw[<-qX];show aFg.mp hperm
 have same:∀p∈(arrOf b).toList,p.1=p.2/\p.2∈vs:=λp e=>by let{v,r,rfl}:=aAj.mp (z.mem_iff.mp e);show{rfl,r}
 have ea:(arrOf b).map (·.2)=((arrOf b).toList.map (·.2)).toArray:=by apply Array.ext';simp
 rw[ea];show h _ ?_ ?_
 .have:=z.map (·.2);rw[aAI,show((λx:au×au=>x.2)∘λv=>(v,v))=id from rfl,List.map_id]at this;show this
 rw[aBH];intro i j hi hj jt;have ic:i<(arrOf b).size:=by simpa using hi
 have B:j<(arrOf b).size:=by simpa using hj
 have q:=T i j (aDC jt) (by rw[<-hperm.size_eq];show B);have kk:∀k (C:k<(arrOf b).size),KK (kV vs key) (arrOf b) k=key (arrOf b)[k].2:=λk C=>by unfold KK;rw[getElem?_pos _ k C];let{t,u}:=same (arrOf b)[k] (by simp);change((kV vs key).keyOf (arrOf b)[k].1).getD _=_;rw[t,tx u];rfl
 rw[kk i ic,kk j B]at q;rw[List.getElem_map,List.getElem_map,aGr,aGr];show q
def sorted_keys{x:au}{vs:List au}{f:Bool}{key:au->List Int}{Q:B6}{C:aL->Prop}(t:∀{m:List au->aL->Prop},(∀s',C s'->m vs s')->bb (bc prog w) A.in1 (collect x) m E s)
  (u:∀s',C s'->∀a,(∀b o,s'.heap.get? b=some o->a.heap.get? b=some o)->∀x∈vs,∀y∈vs,∀(prog:be) (w:cf) (p:bM) (E:B6) (L:p.units<=A.units+5) {Q:CD},Q (HT.lexLt (key x) (key y)) a->bb (bc prog w) p (keyLt' (tupK f) x y) Q E a)
  (v:2<=vs.length->∀s',C s'->∀a,(∀b o,s'.heap.get? b=some o->a.heap.get? b=some o)->∀(A:bM) {Q:SortKind->aL->Prop},Q (tupK f) a->bb (bc prog w) A (keyKind' vs.toArray) Q E a) (j:vs.length<64)
  (h:∀(s':aL) (g:List au) (h':ck) (l:ba),C s'->g.Perm vs->g.Pairwise (λx y=>HT.lexLt (key y) (key x)=false)->(∀b o,s'.heap.get? b=some o->h'.get? b=some o)->s'.heap.objs.size<=l->(∃n,h'.get? l=some (seqObj "list" g.toArray n))->Q (.ref l) {s' with heap:=h'}):
  bb (bc prog w) A (call (.builtin "sorted") [x]) Q E s:=by
 show Calls.call_function_entry kind_sorted plain_sorted entry_sorted (args_sorted1 _) (aAa<|aAc<|aAa<|t λs' k=>(aAa<|wpAny_newList ?_));have d:(s'.heap.push<|seqObj "list" vs.toArray 0).get? s'.heap.objs.size=some (seqObj "list" vs.toArray 0):=aAg _ rfl;have r:∀a,Bar s'.heap.objs.size {s' with heap:=s'.heap.push (seqObj "list" vs.toArray 0)} a->∀b o,s'.heap.get? b=some o->a.heap.get? b=some o:=λa i b o e=>i b o (aAk<|aAd e) (aAb _ e);show aAa (aAG (aAF slot_list_sort {_,d,rfl} entry_list_sort (ND d (λa i x z y B prog w E {Q} q=>u s' k a (r a i) x z y B prog w _ E (by simp) q) (λH a i {Q} q=>v H s' k a (r a i) _ q) j λg I J=>{_,rfl,(aAc {_,rfl,h s' g _ _ k I J (λb o e=>?_) (aAh _) (sortedHeap_at d)})})<|args_list_sort _));rw[sortedHeap_old (aAk<|aAd e) (by rw[aBc];show aBx (aAd e))];show aAb _ e
end
end TS
namespace DL
open PySem PySem.Spec L2
open PyProof.Rows hiding St
variable [Tabs]
omit [Tabs]in
def AN{ns:List Int}(h:PySem.W.WData.layableAll [PySem.W.WData.list (ns.map PySem.W.WData.int)]=true):∀x∈ns,aBb x<=1048576:=λx a=>by have b:=(PySem.W.layW_cons h).1;show PyData.bits_of_layable (by simpa[PyData.layableAll0]using(PySem.W.lay0_int<|PySem.W.layableW_item b (.int x)<|aAj.mpr ⟨x,a,rfl⟩))
def u9(P:be)(w:cf)(K:kn)(mg:eU)(base:ck)(k:Nat)(x:Str)(n:Nat)(m:List D->R D):Prop:=
 ∃g a b,FnOk P w K mg base uM k g a b (spD K n m)/\Binds K a b []/\PySem.W.keepIn K (.ref g)=true/\mg x=some (.ref g)
def DY(f:Ev->R (List D))(n:Nat):Prop:=∀b a,f b=.ok a->a.length=n
def S9:DY S8 0:=λa b h=>by cases h;rfl
def x5(h:DY g n):DY (t6 f g) (n+1):=λa k e=>by
 unfold t6 at e;cases i:f a with
 |ok d=>
  rw[i,R.aa0]at e;cases b:g a with
  |ok j=>rw[b]at e;cases e;rw[aAp,h a j b]
  |ex x=>simp_all
  |bad=>simp_all
 |ex x=>simp_all
 |bad=>simp_all
section
def yE(c:u9 X.prog X.w X.K X.mg X.base k x n m)(d:Room k X.A)(h:MT X (e::es) f)(i:DY f n)(j:Gl X x:=by rfl)(l:(x==kM)=false:=by decide)(o:a9 (e::es) X.env=(false,dm e X.env)::a9 es X.env:=by rfl)(q:(cy a (a9 es X.env)).any (·.1)=false:=by rfl):
  PD X (.Call (.Name x p) (e::es) [] a) (λρ=>(f ρ).bind m):=by
 let{g,s,t,F,b,r,em}:=c;show kj F d em r b h i j l o q
end
def a4d{P:be}{w:cf}{K:kn}{mg:eU}{base:ck}{x qual:Str}{st:cp}{f:ba}{b:dV}{N ps:List Str}{k:Nat}{m:List D->R D}{F:Ev->R Out}(e:Fun K x qual st f b)(S:FnScope N ps (c8 st))(g:Binds K b ps [])(h:mg x=some (.ref f))
  (i:∀(T:au) (A:bM) (a:List Env) (s:aL) (H:Hp) (E:XK),Room k (A.deeper (envOfC qual (c8 st) s.heap.objs.size f T))->cZ (TR P w K mg base N qual (c8 st) f T A a s H E) (t7 st) F)
  (j:∀ds d,ds.length=ps.length->m ds=.ok d->G8 (F (n5 N ds))=.ok d):u9 P w K mg base (k+1) x ps.length m:=
 {f,b,ps,fnD e S i j,g,e.kp,h}
def u0:∀d a,(R.ok ((i8 [x] b ρ).set 0 (Sl.v d)):R Ev)=.ok a->lB a (i8 [x] b ρ):=λd a h=>by
 cases h;show{by simp,λi f h e=>?_};cases i with
 |zero=>show absurd (by simpa[i8]using h.symm) e
 |succ i=>rw[aCr (by lia)];show h
def VV(sc:ik)(N:List Str)(a:ik)(d:List Str)(b:List Nat):Bool:=
 decide (a.kind=.function)&&a.names.all (λy=>decide (y.2=.free->(y.1,aCv)∉a.names))&&a.names.all (λy=>decide (y.2=.local->a.names.lookup y.1=some .local))&&
 a.names.all (λy=>decide (y.2=.free->sc.names.lookup y.1=some .cell\/sc.names.lookup y.1=some .free))&&decide (b.length=d.length)&&(b.zip d).all (λp=>decide (N[p.1]?=some p.2/\(p.2,NameKind.free)∈a.names))&&decide b.Nodup&&
 a.names.all (λy=>decide (y.2=.free->a.names.lookup y.1=some .free))
def E9(b:X.env.scope=sc:=by rfl)(d:X.N=N:=by rfl)(h:VV sc N a e f=true:=by decide+kernel):CompSc X a own e f:=by erw[VV,aAP,aBB,decide_eq_true_eq]at h;obtain⟨⟨⟨⟨⟨⟨⟨g,k⟩,l⟩,m⟩,n⟩,o⟩,p⟩,q⟩:=h;subst b d;show{g,k,l,m,n,λi j x r s=>(o (j,x)<|aAu (i:=i) ?_),p,q};rw[aBv];show{r,s}
def tY(a:List (Nat×D))(h:∀p∈a,p.1<Y.length):lB (a.foldl (λr p=>r.set p.1 (Sl.v p.2)) (i8 Y b ρ)) (i8 Y b ρ):=by
 have d:∀(a:List (Nat×D)) (r:Ev),(∀p∈a,p.1<Y.length)->r.length=(i8 Y b ρ).length->(∀i,Y.length<=i->r[i]?=(i8 Y b ρ)[i]?)->
   (a.foldl (λr p=>r.set p.1 (Sl.v p.2)) r).length=(i8 Y b ρ).length/\∀i,Y.length<=i->(a.foldl (λr p=>r.set p.1 (Sl.v p.2)) r)[i]?=(i8 Y b ρ)[i]?:=by
  intro a;induction a with
  |nil=>grind
  |cons p a m=>intro r f g k;show m _ (λq n=>f q (aAe _ n)) (by grind) λi l=>?_;have:=f p aCN;rw[aCr (by lia)];show k i l
 let{g,k}:=d a _ h rfl λ_ _=>rfl;show{g,λi o e t=>?_};by_cases l:i<Y.length
 .have:o=.no:=by
   rcases Y9 e with z|⟨j,_,s,_⟩
   .show z
   lia
  grind
 grind
def BV:∀d e,dZ 2 (D9 (λd ρ=>.ok (ρ.set 0 (.v d))) (D9 (λd ρ=>.ok (ρ.set 1 (.v d))) iK)) d (i8 [x,y] f ρ)=.ok e->lB e (i8 [x,y] f ρ):=λd e h=>by
 have i:∀g:List D,g.length=2->D9 (λd ρ=>.ok (ρ.set 0<|.v d)) (D9 (λd ρ=>.ok (ρ.set 1<|.v d)) iK) g (i8 [x,y] f ρ)=.ok e->lB e (i8 [x,y] f ρ)
  |[a,b],_,h=>by cases h;show tY (Y:=[x,y]) [(0,a),(1,b)] (by simp)
 unfold dZ at h;grind
def IA:∀d e,dZ 3 (D9 (λd ρ=>.ok (ρ.set 0 (.v d))) (D9 (λd ρ=>.ok (ρ.set 1 (.v d))) (D9 (λd ρ=>.ok (ρ.set 2 (.v d))) iK))) d (i8 [x,y,z] f ρ)=.ok e->lB e (i8 [x,y,z] f ρ):=λd e h=>by
 have i:∀g:List D,g.length=3->D9 (λd ρ=>.ok (ρ.set 0<|.v d)) (D9 (λd ρ=>.ok (ρ.set 1<|.v d))<|D9 (λd ρ=>.ok (ρ.set 2<|.v d)) iK) g (i8 [x,y,z] f ρ)=.ok e->lB e (i8 [x,y,z] f ρ)
  |[a,b,c],_,h=>by cases h;show tY (Y:=[x,y,z]) [(0,a),(1,b),(2,c)] (by simp)
 unfold dZ at h;grind
end DL
namespace DL.Att2
open PySem PySem.W PySem.Calls PyProof.Rows
def attach_bits{l:OpenLaw}{n:Nat}{q:be}{b:List Str}{t:(Str->Option au)->ck->Prop}{u:cf->ck->Prop}{d:DefRec}
  (B:l.most=some n) (k:d.params.defaults=[])
  (call:∀(w:cf) (m e:aL) (mg p:eU) (fa:ba) (o:Obj) (s cd g:au) (a:ba) (vs:List au) (ns:List Int),
   Ground q b [] t w m mg p e.heap->u w e.heap->
   e.heap.get? fa=some o->o.data=.func (docDef d.name d.params d.body d.scope s cd g)->e.heap.CodeRec cd d.name->mg d.name=some (.ref fa)->
   e.heap.get? a=some {cls:=.type "list",data:=.seq vs.toArray}->IntsAre vs ns->ns.length<=n->(∀x∈ns,aBb x<=1048576)->e.gens=#[]->
   fo (bc l.prog w) callerA (.call (.ref fa) {[.ref a],[]}) (λr s'=>r=.ok (.ret (.bool true))/\OldK e.heap s'.heap/\s'.os=e.os/\AllBare s'.gens) e):
  WalkO q b t u l.row.toRowW d [] (λf vs=>PySem.call f vs):=by
 intro w m e mg p G Y fa o s cd g C kV E H I v J L y z as N A O Q T;obtain rfl:C=.none:=Dflts.none v k;obtain rfl:kV=.none:=Dflts.noKw v;let{a,vs,ns,rfl,rfl,i,h,j}:=Att.script_of B N Q;have U:=DL.AN (ns:=ns) (by lia);show enter_call (aDY (call w m e mg p fa o s cd g a vs ns G Y E (fd_plain H) I J i h j U L) λr s' hq=>?_);let{rfl,h2,h3,h4}:=hq;show{.inl {.bool true,.bool true,[],rfl,λ_=>rfl,.bool true,Att.post_true l _,λ_=>{aGD,λ_ hm=>(nomatch hm)}},h2,h3,h4}
end DL.Att2
namespace DL
open PySem PySem.Spec L2
open PyProof.Rows hiding St
variable [Tabs]
end DL
namespace DL
open PySem L2
abbrev bits(a:Int):Nat:=aBb a
def j9(h:v9 a b):uO (.int a) (.int b)=.ok (.int (a*b)):=kc h
def bN(h:CP b):L5 (.int a) (.int b)=.ok (.int (a.fdiv b)):=kc h
def uJ(h:b≠0):kF (.int a) (.int b)=.ok (.int (a.fmod b)):=kc h
def v9.of(d:bits a<=m)(e:bits b<=n)(f:m<=60000000:=by decide)(g:n<=60000000:=by decide):v9 a b:={aAn d f,aAn e g}
def bits_add(d:bits a<=n)(e:bits b<=n):bits (a+b)<=n+1:=by
 have:=PyProof.Rows.bits_add d e
 lia
def bits_sub(d:bits a<=n)(e:bits b<=n):bits (a-b)<=n+1:=by
 have:=PyProof.Rows.bits_sub d e
 lia
def bits_mul(d:bits a<=m)(e:bits b<=n):bits (a*b)<=m+n:=PyProof.Rows.bits_mul d e
def bits_neg(b:bits a<=m):bits (-a)<=m:=PyProof.Rows.bits_neg b
def KS(h:a.natAbs<2^n):bits a<=n:=PyProof.Rows.intBits_le h
def KE(h:bits a<=n):a.natAbs<2^n:=PyProof.Rows.lt_pow_of_bits h (aAh n)
@[simp]def kI(d:D)(ρ:Ev):Z6 0 (Sl.v d::ρ)=.ok d:=rfl
@[simp]def oN(i:Nat)(x:Sl)(ρ:Ev):Z6 (i+1) (x::ρ)=Z6 i ρ:=rfl
@[simp]def AU(d:D)(ρ:Ev):BN 0 (Sl.v d::ρ)=.ok d:=rfl
@[simp]def EN(d:List D)(ρ:Ev):BN 0 (Sl.o d::ρ)=.ok (.lst d):=rfl
@[simp]def qZ(i:Nat)(x:Sl)(ρ:Ev):BN (i+1) (x::ρ)=BN i ρ:=rfl
@[simp]def AI(d:D)(ρ:Ev):tj d ρ=.ok d:=rfl
@[simp]def F4(ρ:Ev)(F:Ev->R Out):C1 (.ok (.nx ρ)) F=F ρ:=rfl
@[simp]def a7v(d:D)(F:Ev->R Out):C1 (.ok (.rt d)) F=.ok (.rt d):=rfl
@[simp]def a8b(d:D):G8 (.ok (.rt d))=.ok d:=rfl
@[simp]def a7z(ρ:Ev):G8 (.ok (.nx ρ))=.ok .non:=rfl
@[simp]def a8r(e:Str):G8 (.ex e)=.ex e:=rfl
@[simp]def kN(f:Ev->R D)(g:Ev->R (List D))(ρ:Ev):t6 f g ρ=(f ρ).bind λd=>(g ρ).bind λds=>.ok (d::ds):=rfl
@[simp]def qH(ρ:Ev):S8 ρ=.ok []:=rfl
@[simp]def b1k(a:D):uT [a]=.ok (.tup [a]):=rfl
@[simp]def b1c(a b:D):uT [a,b]=.ok (.tup [a,b]):=rfl
@[simp]def a7n(a b c:D):uT [a,b,c]=.ok (.tup [a,b,c]):=rfl
@[simp]def b0w(a b c d:D):uT [a,b,c,d]=.ok (.tup [a,b,c,d]):=rfl
@[simp]def a6i(a:D):NK [a]=.ok (.lst [a]):=rfl
@[simp]def b1i(a b:D):NK [a,b]=.ok (.lst [a,b]):=rfl
@[simp]def b1h(x y z:D):W7 (.tup [x,y,z]) (.int 0)=.ok x:=rfl
@[simp]def b1x(x y z:D):W7 (.tup [x,y,z]) (.int 1)=.ok y:=rfl
@[simp]def b1p(x y z:D):W7 (.tup [x,y,z]) (.int 2)=.ok z:=rfl
@[simp]def b1b(x y z t:D):W7 (.tup [x,y,z,t]) (.int 0)=.ok x:=rfl
@[simp]def b1m(x y z t:D):W7 (.tup [x,y,z,t]) (.int 1)=.ok y:=rfl
@[simp]def b1r(x y z t:D):W7 (.tup [x,y,z,t]) (.int 2)=.ok z:=rfl
@[simp]def b1s(x y z t:D):W7 (.tup [x,y,z,t]) (.int 3)=.ok t:=rfl
@[simp]def b1n(x y:D):W7 (.tup [x,y]) (.int 0)=.ok x:=rfl
@[simp]def b1l(x y:D):W7 (.tup [x,y]) (.int 1)=.ok y:=rfl
def eG(h:uS Y i=some d):W7 (.lst Y) (.int i)=.ok d:=by erw[W7,h]
def PV{Y:List D}{i:Int}{d:D}(h:uS Y i=some d):W7 (.tup Y) (.int i)=.ok d:=by erw[W7,h]
@[simp]def JH(a b:Int):pS (.int a) (.int b)=.ok (.int (a+b)):=rfl
@[simp]def zJ(a b:Int):UP (.int a) (.int b)=.ok (.int (a-b)):=rfl
@[simp]def a9z(a b:Int):ltR (.int a) (.int b)=.ok (.bl (decide (a<b))):=rfl
@[simp]def GK(a b:Int):leR (.int a) (.int b)=.ok (.bl (decide (a<=b))):=rfl
@[simp]def yK(a b:Int):gtR (.int a) (.int b)=.ok (.bl (decide (b<a))):=rfl
@[simp]def UM(a b:Int):geR (.int a) (.int b)=.ok (.bl (decide (b<=a))):=rfl
@[simp]def a9p(a:Int):a7p (.int a)=.ok (.int (-a)):=rfl
@[simp]def wQ(b:Bool):OY (.bl b)=.ok b:=rfl
@[simp]def a5a(b:Int):toI (.int b)=.ok (some b):=rfl
@[simp]def GC(Y:List D):kR [.lst Y]=.ok (.int Y.length):=rfl
@[simp]def UW(a:Int):a2v [.int a]=.ok (.int (if a<0 then-a else a)):=rfl
@[simp]def yY(f g:Ev->R Bool)(ρ:Ev):AQ f g ρ=(f ρ).bind λb=>if b=true then g ρ else .ok false:=rfl
@[simp]def b0i(f g:Ev->R Bool)(ρ:Ev):orB f g ρ=(f ρ).bind λb=>if b=true then .ok true else g ρ:=rfl
@[simp]def IC(a b:Int):ZB (.int a) (.int b)=.ok (.bl (a==b)):=by erw[ZB];rfl
@[simp]def HI(a b:Int):LQ (.int a) (.int b)=.ok (.bl (!(a==b))):=by erw[LQ];rfl
@[simp]def a3v(a b c d e f:Int):ZB (.tup [.int a,.int b,.int c]) (.tup [.int d,.int e,.int f])=.ok (.bl (a==d&&(b==e&&c==f))):=by simp[ZB,D4,y8,x8,bE]
@[simp]def PX(a b c d e f:Int):LQ (.tup [.int a,.int b,.int c]) (.tup [.int d,.int e,.int f])=.ok (.bl (!(a==d&&(b==e&&c==f)))):=by simp[LQ,D4,y8,x8,bE]
def X4{a:Type}{Y:List a}{k:Int}(h0:0<=k):uS Y k=Y[k.toNat]?:=by
 unfold uS ixN;rw[kc h0];by_cases h:k<Y.length
 .rw[kc h];rfl
 simp_all
def jN(n:Nat)(Y:List D):Prop:=∀x∈Y,∃i,x=.int i/\bits i<=n
def aq{n:Nat}{ns:List Int}(h:∀x∈ns,bits x<=n):jN n (ns.map D.int):=λx a=>by let{i,b,rfl}:=aAj.mp a;show{i,rfl,h i b}
def DX(g:Int->Int)(Y:List D)(k:Int):D:=match Y[k.toNat]? with
 |some d=>d
 |none=>.int (g k)
def a0m:D->Bool
 |.int _=>true
 |_=>false
def u6(b:-((2:Int)^n)<a)(d:a<(2:Int)^n):bits a<=n:=KS (by
 have e:((2^n:Nat):Int)=(2:Int)^n:=by simp
 omega)
def bits_fmod{a b:Int}{n:Nat}(h0:b≠0)(d:bits b<=n):bits (a.fmod b)<=n:=PyProof.Rows.bits_fmod_by h0 d
def bits_fdiv(d:bits a<=n):bits (a.fdiv b)<=n:=PyProof.Rows.bits_fdiv d
def i6(h:bits a<=m)(b:m<=n:=by decide):bits a<=n:=aAn h b
@[simp]def a4n(Y:List D):lE (.lst Y)=.ok Y:=rfl
@[simp]def a4l(Y:List D):KU (.tup Y)=.ok Y:=rfl
@[simp]def a3f(G:D->Ev->R Ev)(ft:Ev->R Bool)(fe:Ev->R D)(ρ:Ev):w9 G ft fe ρ []=.ok []:=rfl
@[simp]def a1r(i:Nat)(ft:Ev->R Bool)(fe:Ev->R D)(ρ:Ev)(d:D)(ds:List D):w9 (λd ρ=>.ok (ρ.set i (Sl.v d))) ft fe ρ (d::ds)=(ft (ρ.set i (Sl.v d))).bind λb=>if b=true then(fe (ρ.set i (Sl.v d))).bind λr=>(w9 (λd ρ=>.ok (ρ.set i (Sl.v d))) ft fe ρ ds).bind λrs=>.ok (r::rs)else w9 (λd ρ=>.ok (ρ.set i (Sl.v d))) ft fe ρ ds:=rfl
@[simp]def a8g(d:D):seen (.v d)=.v d:=rfl
def zq(x:D)(r:List D):W7 (.tup (x::r)) (.int 0)=.ok x:=PV (by rw[X4 (by decide)];rfl)
def vk(x y:D)(r:List D):W7 (.tup (x::y::r)) (.int 1)=.ok y:=PV (by rw[X4 (by decide)];rfl)
def a0b(x y z:D)(r:List D):W7 (.tup (x::y::z::r)) (.int 2)=.ok z:=PV (by rw[X4 (by decide)];rfl)
theorem jB(Iv:Nat->Ev->Prop)(b:∀n ρ,Iv (n+1) ρ->c ρ=.ok false\/(c ρ=.ok true/\∃ρ2,F ρ=.ok (.nx ρ2)/\Iv n ρ2))(a:∀ρ,¬Iv 0 ρ):∀n ρ,Iv n ρ->∃m ρ',U1 c F n ρ=.ok (.nx ρ')/\Iv m ρ'/\c ρ'=.ok false
 |0,ρ,h=>absurd h (a ρ)
 |n+1,ρ,h=>by
  rcases b n ρ h with e|⟨e,ρ2,d,f⟩
  .show{n+1,ρ,by rw[U1,e];rfl,h,e}
  let{m,ρ',g,i,j}:=jB Iv b a n ρ2 f;show{m,ρ',by rw[U1,e];erw[d];show g,i,j}
def MA{Iv:Nat->Ev->Prop}(b:∀n ρ,Iv (n+1) ρ->c ρ=.ok false\/(c ρ=.ok true/\∃ρ2,F ρ=.ok (.nx ρ2)/\Iv n ρ2))(h0:Iv n ρ)(f:∀n ρ',Iv n ρ'->c ρ'=.ok false->G8 (g ρ')=.ok d)(a:∀ρ,¬Iv 0 ρ:=by(intro ρ;rintro⟨x,y,_,z,_⟩;omega)):
  G8 (C1 (U1 c F n ρ) g)=.ok d:=by
 let{m,ρ',e,h,i}:=jB Iv b a n ρ h0;rw[e];show f m ρ' h i
end DL
namespace DL
open PySem PySem.Spec L2
open PyProof.Rows hiding St
section
variable [Tabs]
section
variable{K:kn}
def EnvOk.ad2(E:EnvOk K e f H O g ρ)(i:Nat)(h:H a=none)(d:K.lookup a=none)(r:Reps K H O vs Y):
  EnvOk K e f (upd H a (.lst vs)) (λb=>O b\/b=a) (g.set i (some (.ref a))) (ρ.set i (.o Y)):=
 E.ae3 i h d trivial λj=>{a,vs,rfl,.inr rfl,j,j2,r.ac1 h d}
def EnvOk.disown(E:EnvOk K f g H O h ρ)(e:ρ[i]?=some (.o Y)):∃d,EnvOk K f g H d h (ρ.set i (.v (.lst Y)))/\(∀b,d b->O b):=by let{a,m,j,n,p,k,l}:=E.own i Y e;show{λb=>O b/\b≠a,E.af4 e trivial j (λz=>z) {.ref a,rfl,.lst (L7.of k) (λz=>z.2 rfl) (l.sub λ_ z=>z.1)},λb z=>z.1}
def EnvOk.write(E:EnvOk K k l H O f ρ)(e:ρ[i]?=some (.o Y))(m:f[i]?=some (some (V.ref a)))(r:Reps K H O b d):
  EnvOk K k l (upd H a (.lst b)) O f (ρ.set i (.o d))/\Kp H O (upd H a (.lst b)) O:=by
 let{g,q,s,h,n,j,t}:=E.own i Y e;have p:g=a:=by lia
 subst p;show E.ae5 e trivial m j trivial trivial λ_ _ _=>{g,b,rfl,h,n,j2,r.upd j trivial h}
end
section
def tF(X:Cx)(f:Ev->R (List D)):TE:=λi H Q=>∃j k O d,EnvOk X.K j k H O i d/\match f d with
 |.ok l=>∀g b a,Same H b->b a=none->Reps X.K b O g l->Q (.ref a) (upd b a<|.lst g)
 |.ex e=>∀h,Same H h->XW X e h
 |.bad=>False
def PF(X:Cx)(e:cq)(f:Ev->R (List D)):Prop:=PE X e (tF X f)
def KR(I:Inv X b f H s)(h:H a=some o):X.K.lookup a=none:=by
 cases e:X.K.lookup a with
 |none=>rfl
 |some d=>have:=(I.bs a d<|I.ok.mod.kin a d e).2;grind
def PF.pd(h:PF X e f):PD X e (λρ=>(f ρ).bind λds=>.ok (.lst ds)):=QQ h λk H Q i j O ρ E q=>⟨i,j,O,ρ,E,by
 dsimp only at q;cases b:f ρ with
 |ok ds=>rw[b]at q;intro l m a g d r;show q _ _ (g.trans<|j4 d _) (.lst (L7.of j2) ((E.grow g).fresh d) (r.same<|j4 d _))
 |ex x=>rw[b]at q;show q
 |bad=>rw[b]at q;show q⟩
def fU(h:MT X es f):PF X (.List es e) (λρ=>(f ρ).bind λds=>if ds.length<=sizeLine then .ok ds else .bad):=
 QQ (QP h) λn H Q g i O ρ E q=>⟨g,i,O,ρ,E,by
  dsimp only at q;cases a:f ρ with
  |ok ds=>
   rw[a,R.aa0]at q;intro j k l d;by_cases b:ds.length<=sizeLine
   .rw[kc b]at q;show{by rw[d.length];show b,λp m=>q j k p l m d}
   rw[kd b]at q;show aAv q
  |ex x=>rw[a]at q;show q
  |bad=>rw[a]at q;show q⟩
def aH(i:Nat)(L:PF X e f)(Q:X.N.Nodup)(T:X.N[i]?=some x:=by rfl)(U:Loc X.env.scope x:=by first|show aCs rfl|show aBC rfl)(Y:d7 e (some (.Name x g)) p.line X.env=pure false:=by rfl)(hf:X.fn x=true\/X.env.scope.names.lookup x=some .local:=by first|show .inl rfl|show .inr rfl|assumption):
  oU X (.Assign [.Name x g] e p) (λρ=>(f ρ).bind λds=>.ok (.nx (ρ.set i (.o ds)))):=by
 rintro w A h s σ H D I ⟨O,ρ,E,fk,q⟩;dsimp only at q;show aEt (D8 (L h s σ H (λv B=>∃j d a ds,v=.ref a/\B=upd d a (.lst j)/\Same H d/\d a=none/\Reps X.K d O j ds/\RS X w A H O (.ok (.nx (ρ.set i<|.o ds))) D) I {w,A,O,ρ,E,?_}) λv C z9=>?_) Y
 .cases k:f ρ with
  |ok ds=>rw[k,R.aa0]at q;showλj d a C l r=>{j,d,a,ds,rfl,rfl,C,l,r,q}
  |ex x=>rw[k]at q;showλH' s=>q H' (E.same.trans s)
  |bad=>rw[k]at q;show q
 let{y,B,t,r2,j,d,a,ds,k,e2,m,l,r,q'}:=z9;subst k e2;show L0 t Q T U r2 (λs3 I3=>{_,_,I3,?_}) hf;have J:=(E.grow m).ad2 i l (KR t<|j2) r;show q' _ _ _ J (oB t _ J.trk) (λb o u n=>{by rw[m5 (t8 (m b o u) l)];show m b o u,λz=>z.elim n (t8 (m b o u) l)})
def EY(i:Nat)(ρ:Ev):Ev:=match ρ[i]? with
 |some (.o Y)=>ρ.set i (.v (.lst Y))
 |_=>ρ
def kC(i:Nat){st:cp}(h:oU X st F):oU X st (λρ=>F (EY i ρ)):=by
 intro g j f s k H D I ⟨O,ρ,E,l,q⟩;dsimp only at q;unfold EY at q;cases e:ρ[i]? with
 |none=>rw[e]at q;show h g j f s k H D I {O,ρ,E,l,q}
 |some p=>
  rw[e]at q;cases p with
  |x C=>show h g j f s k H D I {O,ρ,E,l,q}
  |c m y=>show h g j f s k H D I {O,ρ,E,l,q}
  |d N=>show h g j f s k H D I {O,ρ,E,l,q}
  |no=>show h g j f s k H D I {O,ρ,E,l,q}
  |v d=>show h g j f s k H D I {O,ρ,E,l,q}
  |o Y=>let{r,t,sub}:=E.disown e;show h g j f s k H D I {r,_,t,λa o u z=>l a o u (sub a z),RS.grow q λb o w n=>{w,λz=>n (sub b z)}}
def AF(i:Nat)(ρ:Ev)(d:D):R Out:=match ρ[i]? with
 |some (.o Y)=>if Y.length<sizeLine then .ok (.nx (ρ.set i<|.o (Y++[d])))else .bad
 |_=>.bad
def L9(i:Nat)(z:PD X e f)(A:X.N[i]?=some x:=by rfl)(B:EF X.env.scope x:=by first|show aCs rfl|show aBC (aCs rfl)|show aBC (aBC rfl))(I:(x==kM)=false:=by decide)(J:(x==lh)=false:=by decide)(L:eR (.Name x p) "append" X.env (dm (.Name x p) X.env)=dm (.Name x p) X.env:=by rfl)(Q:((cy g (a9 [e] X.env)).all (λx=>!x.1)&&(backToKw g (keywordEach [] X.env)).all (λx=>x.1.isSome)
   &&decide ([e].length+([]:List Keyword).length+(if([]:List Keyword).isEmpty then 0 else 1)<30))=true:=by rfl) (T:(b.endLine==g.line)=true:=by rfl) (r:a9 [e] X.env=(false,dm e X.env)::a9 [] X.env:=by rfl) (U:(cy g (a9 [] X.env)).any (·.1)=false:=by rfl) (ue:d7 (.Call (.Attribute (.Name x p) "append" b) [e] [] g) none l.line X.env=pure false:=by rfl):
  oU X (.Expr (.Call (.Attribute (.Name x p) "append" b) [e] [] g) l) (λρ=>(f ρ).bind (AF i ρ)):=λH9 O0=>
 EH (jU (a0a PySem.F.plainAttrs_list PySem.F.slot_list_append PySem.F.type_list_append wV (N4 A B I J) (f7 z o8 r) L Q T r U) ue) λD σ H O ρ E fk q=>by
 cases j:f ρ with
 |ok d=>
  rw[j,R.aa0]at q;unfold AF at q;cases h:ρ[i]? with
  |none=>rw[h]at q;show(q).elim
  |some s=>
   rw[h]at q;cases s with
   |x C=>show(q).elim
   |c m φ=>show(q).elim
   |d N=>show aAv q
   |no=>show aAv q
   |v d=>show aAv q
   |o Y=>
    dsimp only at q;split at q
    .rename_i hz;let{a,t,u,h2,h3,w,y}:=E.own i Y h;show{_,u,.inl {rfl,t,L7.of w},H9,O0,O,ρ,E,?_};change MS X H O ((f ρ).bind λd=>(R.ok []).bind λds=>.ok (d::ds)) _;rw[j];intro us H1 k n;cases n with
     |cons n rn=>cases rn;show{a,t,_,rfl,rfl,k _ _ w,by rw[y.length];show hz,?_};let{E2,k2}:=(E.grow k).write h u ((y.same k).snoc n);show q σ _ O E2 fk ((Kp.of k).trans k2)
    show aAv q
 |ex x=>
  rw[j]at q;cases h:ρ[i]? with
  |none=>show(q H E.same).elim
  |some s=>show(q H E.same).elim
 |bad=>rw[j]at q;show aAv q
def kw(i:Nat)(ρ:Ev)(d:D):R Out:=match ρ[i]?,d with
 |some (.o Y),.lst a=>if Y.length+a.length<=sizeLine then .ok (.nx (ρ.set i<|.o (Y++a)))else .bad
 |_,_=>.bad
def HL(i:Nat)(ρ:Ev):R (D×Ev):=match ρ[i]? with
 |some (.o Y)=>match Y[Y.length-1]? with
  |some d=>.ok (d,ρ.set i (.o Y.dropLast))
  |none=>.bad
 |_=>.bad
def oq(i:Nat)(r:X.N[i]?=some x:=by rfl)(s:EF X.env.scope x:=by first|show aCs rfl|show aBC (aCs rfl)|show aBC (aBC rfl))(t:(x==kM)=false:=by decide)(u:(x==lh)=false:=by decide)(w:eR (.Name x p) "pop" X.env (dm (.Name x p) X.env)=dm (.Name x p) X.env:=by rfl)(y:(b.endLine==j.line)=true:=by rfl)(A:d7 (.Call (.Attribute (.Name x p) "pop" b) [] [] j) none f.line X.env=pure false:=by rfl):
  oU X (.Expr (.Call (.Attribute (.Name x p) "pop" b) [] [] j) f) (λρ=>(HL i ρ).bind λz=>.ok (.nx z.2)):=λU O0=>
 EH (jU (GM PySem.F.plainAttrs_list PySem.F.slot_list_pop PySem.F.type_list_pop SW (N4 r s t u) w y) A) λD B H O ρ E I q=>by
 unfold HL at q;cases e:ρ[i]? with
 |none=>rw[e]at q;show(q).elim
 |some J=>
  rw[e]at q;cases J with
  |x C=>show aAv q
  |c m φ=>show aAv q
  |d N=>show aAv q
  |no=>show aAv q
  |v d=>show aAv q
  |o Y=>
   dsimp only at q;cases g:Y[Y.length-1]? with
   |none=>rw[g]at q;show aAv q
   |some d=>rw[g]at q;let{a,k,l,h2,h3,n,h}:=E.own i Y e;let{v,L,g2}:=h.get g;show{_,l,.inl {rfl,k,L7.of n},a,k,v,rfl,rfl,n,by rw[h.length];show L,?_};let{Q,T}:=E.write e l h.dropLast;show q B _ O Q I T
def FR(j i:Nat)(f:X.N.Nodup)(jt:i≠j:=by decide)(A:X.N[i]?=some x:=by rfl)(B:X.N[j]?=some y:=by rfl)(I:EF X.env.scope x:=by first|show aCs rfl|show aBC (aCs rfl)|show aBC (aBC rfl))(J:(x==kM)=false:=by decide)(L:(x==lh)=false:=by decide)(Q:eR (.Name x p) "pop" X.env (dm (.Name x p) X.env)=dm (.Name x p) X.env:=by rfl)(T:(b.endLine==n.line)=true:=by rfl)(g:Loc X.env.scope y:=by first|show aCs rfl|show aBC rfl)(U:d7 (.Call (.Attribute (.Name x p) "pop" b) [] [] n) (some (.Name y py)) h.line X.env=pure false:=by rfl)(hf:X.fn y=true\/X.env.scope.names.lookup y=some .local:=by first|show .inl rfl|show .inr rfl|assumption):
  oU X (.Assign [.Name y py] (.Call (.Attribute (.Name x p) "pop" b) [] [] n) h) (λρ=>(HL i ρ).bind λz=>.ok (.nx (z.2.set j (.v z.1)))):=λH9 O0=>
 EH (VY f B g (GM PySem.F.plainAttrs_list PySem.F.slot_list_pop PySem.F.type_list_pop SW (N4 A I J L) Q T) U hf) λD σ H O ρ E r q=>by
 unfold HL at q;cases e:ρ[i]? with
 |none=>rw[e]at q;show(q).elim
 |some sl=>
  rw[e]at q;cases sl with
  |x C=>show(q).elim
  |c m φ=>show(q).elim
  |d N=>show(q).elim
  |no=>show(q).elim
  |v d=>show(q).elim
  |o Y=>
   dsimp only at q;cases k:Y[Y.length-1]? with
   |none=>rw[k]at q;show(q).elim
   |some d=>rw[k]at q;let{a,s,t,h2,h3,u,l}:=E.own i Y e;let{v,g1,g2}:=l.get k;show{_,t,.inl {rfl,s,L7.of u},a,s,v,rfl,rfl,u,by rw[l.length];show g1,?_};let{E2,w}:=E.write e t l.dropLast;show q _ _ O (E2.set j<|w.rep E.trk r g2) r w
def NZ(i:Nat)(own fr:List Str)(j:List Nat)(hN:X.N.Nodup)(hc:X.calm=true)(S:CompSc X f own fr j)(hi:XO X tg iter fi)(hX:∀(g:P9) (fp:List ba) (X':Cx),(∃s9 Ha C,X'=HB X g s9 Ha (own++fr) f (eN X f C) C fp)->LV X' tg G/\XU X' k ft/\PD X' l fe)(hG:∀ρ d t,G d (i8 own j ρ)=.ok t->lB t (i8 own j ρ))(hy:X.N[i]?=some y:=by rfl)(u:X.env.scope.names.lookup y=some .local:=by rfl)(ue:d7 (.ListComp l [{tg,iter,k,0}] f pos) (some (.Name y py)) w.line X.env=pure true:=by rfl)(hs:∀x,ee iter X.env x=pure x:=by intro _;rfl):
  oU X (.Assign [.Name y py] (.ListComp l [{tg,iter,k,0}] f pos) w) (λρ=>((fi ρ).bind λds=>if ds.length<=sizeLine then(w9 G ft fe (i8 own j ρ) ds).bind λrs=>R.ok rs else .bad).bind λrs=>.ok (.nx (ρ.set i (.o rs)))):=by
 rintro H9 O0 g s σ H D I ⟨O,ρ,E,fk,q⟩;dsimp only at q;rw[exec_Assign_Name_used _ _ _ _ ue];show aAa (aEQ<|aAa ?_);show aAa (aCy (aDZ (use:=some (ka (.Name y py) X.env)) rfl hs (aP<|Inv.ab0 I S) S.kind S.names<|D8 (hi g s σ H (λJ A=>∃ds rs,Same H A/\sk X.K J A O ds/\ds.length<=sizeLine/\w9 G ft fe (i8 own j ρ) ds=.ok rs/\RS X H9 O0 H O (.ok (.nx (ρ.set i<|.o rs))) D) I ⟨H9,O0,O,ρ,E,oB I O E.trk,?_⟩) λv s1 h1=>D8 h1 λitv s2 h2=>?_) (λ_ s' hq=>aAc (aAc hq)) λ_ _ e=>e)
 .cases e1:fi ρ with
  |ex x=>rw[e1]at q;showλH' s=>q H' (E.same.trans s)
  |bad=>rw[e1]at q;show q
  |ok ds=>
   rw[e1,R.aa0]at q;intro J A s1 hJ;split at q
   .rename_i hl;cases e2:w9 G ft fe (i8 own j ρ) ds with
    |ex x=>rw[e2]at q;show(q H E.same).elim
    |bad=>rw[e2]at q;show q.elim
    |ok rs=>rw[e2]at q;show{ds,rs,s1,hJ,hl,e2,q}
   show q.elim
 let{it,fp,tn,J,H2,e,L,T,ku,f2,ds,rs,Q,hJ,hl,hrs,q}:=h2;subst e;show rT hc S (hX g fp) (hG ρ) L T ku f2 (E.grow Q) hJ.c hrs hl ?_;intro B C s' H' m hn hCa h has sm' r nw hC hI;have I3:=hI s'.heap (aGH ..);show wpAny_assign_Name (xD (v:=.ref B) I3 hN hy (.inl u) rfl (λs4 I4 z9=>?_)<|.inr u);let{a,hsb,ha}:=z9;have jh:∀x c,X.env.cells.lookup x=some c->c≠C:=λx c hc=>by let{v,hv}:=L.cell x c hc;show aAk (aAq hv.lt h)
 have hCL:=aBP (aAq L.lt h);have U:C≠a:=by grind
 show{m,hn.sameBut hsb U,λh' jo=>?_};let{A,vs,qi,zi,eH,rr}:=nw;subst eH;have E2:=((E.grow Q).grow qi).ad2 i zi (KR I3<|j2 (H:=A)) rr;show{_,_,(I4.turned (t':=s4.toks) (λb o Y e=>(jo.2 b Y).trans e) hC hCL (.inr (aAn L.sz h)) jh λp hp=>aAk (aAq (aAd (L.pin p hp).1) h)),q _ _ _ E2 (oB I3 _ E2.trk) λb o Y n=>{by rw[m5 (t8 ((Q.trans qi) b o Y) zi)];show(Q.trans qi) b o Y,λz=>z.elim n (t8 ((Q.trans qi) b o Y) zi)}}
def fT(i:Nat)(own s:List Str)(g:List Nat)(hN:X.N.Nodup)(hc:X.calm=true)(S:CompSc X f own s g)(t:XO X u iter Q)(hX:∀(h:P9) (fp:List ba) (r:Cx),(∃s9 Ha C,r=HB X h s9 Ha (own++s) f (eN X f C) C fp)->LV r u G/\XU r j ft/\PD r l fe)(hG:∀ρ d m,G d (i8 own g ρ)=.ok m->lB m (i8 own g ρ))(hy:X.N[i]?=some y:=by rfl)(w:X.env.scope.names.lookup y=some .local:=by rfl)(ue:d7 (.ListComp l [{u,iter,j,0}] f A) (some (.Name y py)) p.line X.env=pure true:=by rfl)(hs:∀x,ee iter X.env x=pure x:=by intro _;rfl):
  oU X (.Assign [.Name y py] (.ListComp l [{u,iter,j,0}] f A) p) (λρ=>((Q ρ).bind λds=>if ds.length<=sizeLine then(w9 G ft fe (i8 own g ρ) ds).bind λrs=>.ok (D.lst rs)else .bad).bind λd=>.ok (.nx (ρ.set i (.v d)))):=λT U=>EH (NZ i own s g hN hc S t hX hG hy w ue hs T U) λD σ H O ρ E fk q=>⟨O,ρ,E,fk,by
 dsimp only at q⊢;cases B:Q ρ with
 |ex x=>rw[B]at q;show q
 |bad=>rw[B]at q;show q
 |ok ds=>
  rw[B,R.aa0]at q;rw[R.aa0];by_cases hl:ds.length<=sizeLine
  .rw[kc hl]at q⊢;cases I:w9 G ft fe (i8 own g ρ) ds with
   |ex x=>rw[I]at q;show q
   |bad=>rw[I]at q;show q
   |ok rs=>
    rw[I]at q;intro ag H' O' J f' L;by_cases t:i<ρ.length
    .let{O2,E2,sub}:=J.disown (Y:=rs) (by rw[aCc t]);rw[List.set_set]at E2;show q ag H' O2 E2 (λa o k z=>f' a o k (sub a z)) λb o hb n=>{(L b o hb n).1,λz=>(L b o hb n).2 (sub b z)}
    have e:∀x,ρ.set i x=ρ:=λx=>List.set_eq_of_length_le (by lia);have q:RS X T U H O (.ok (.nx (ρ.set i<|.v (.lst rs)))) D:=q;rw[e]at J q;show q ag H' O' J f' L
  rw[kd hl]at q;show(q).elim⟩
def nG{st:cp}:oU X st (λ_=>.bad):=λa b=>EH PZ λD d H O e E f q=>q
end
end
section
theorem dP{d β:Type}[BEq d][LawfulBEq d]:∀{l:List (d×β)}{a:d}{b:β},(l.map (·.1)).Nodup->(a,b)∈l->l.lookup a=some b
 |(x,y)::l,a,b,h,f=>by
  rw[aAm,aAY]at h;rw[aBq];rcases aAi.mp f with e|g
  .cases e;simp
  have:(a==x)=false:=by
   rw[beq_eq_false_iff_ne];rintro rfl
   simp_all
  rw[this];show dP h.2 g
theorem mem_lookup{d β:Type}[BEq d][LawfulBEq d]:∀{l:List (d×β)}{a:d}{b:β},l.lookup a=some b->(a,b)∈l
 |(x,y)::l,a,b,h=>by
  rw[aBq]at h;split at h
  .rename_i q;grind
  show .tail _ (mem_lookup h)
def zT(o:Obj):Prop:=∃v,o.data=.cell v
def iF(H:Hp)(cs:P9):Hp:=λb=>match cs.lookup b with
 |some o=>some (.frz o (.own b))
 |none=>H b
def V3(H:Hp)(cs:P9):Hp:=λb=>match cs.lookup b with
 |some _=>none
 |none=>H b
section
variable{K:kn}
def gO(e:cs.lookup b=some o):iF H cs b=some (.frz o (.own b)):=by unfold iF;rw[e]
def S4(e:cs.lookup b=none):iF H cs b=H b:=by unfold iF;rw[e]
def dH(e:cs.lookup b=some o):V3 H cs b=none:=by unfold V3;rw[e]
def P8(e:cs.lookup b=none):V3 H cs b=H b:=by unfold V3;rw[e]
def G2(a:∀b o,cs.lookup b=some o->H b=none)(e:H b=some u):iF H cs b=some u:=by
 cases q:cs.lookup b with
 |none=>rw[S4 q];show e
 |some o=>simp_all
def gR(a:∀b o,cs.lookup b=some o->H b=none):Same H (iF H cs):=λb u e=>G2 a e
def y3(a:∀b o,cs.lookup b=some o->H b=some (.frz o (.own b)))(e:H b=some u)(ne:∀o,cs.lookup b=some o->u≠.frz o (.own b)):V3 H cs b=some u:=by
 cases q:cs.lookup b with
 |none=>rw[P8 q];show e
 |some o=>simp_all
def RD(x:iR P w H h)(a:∀b o,cs.lookup b=some o->h.get? b=some o/\H b=none):iR P w (iF H cs) h:=λb u e=>by
 have d:=λb o q=>(a b o q).2;cases q:cs.lookup b with
 |some o=>rw[gO q]at e;cases e;show{(a b o q).1,{o,(a b o q).1}}
 |none=>rw[S4 q]at e;show(x b u e).ac0 (λ_ _ _ z=>z) (λc z=>G2 d z) λc u _ z=>G2 d z
def SM(x:iR P w H h)(d:∀b o,cs.lookup b=some o->H b=some (.frz o (.own b))/\zT o):iR P w (V3 H cs) h:=λb u e=>by
 have g:=λb o q=>(d b o q).1;cases q:cs.lookup b with
 |some o=>rw[dH q]at e;cases e
 |none=>
  rw[P8 q]at e;show(x b u e).ac0 (λ_ _ _ z=>z) (λc z=>y3 g z λo _ a=>by cases a) λc u f z=>y3 g z λo q a=>?_;subst a;let{i,j}:=f;let{v,k}:=(d c o q).2
  lia
def a1z(U:Un fs [] (iF H cs) g h h')(k:iR P w g h')(i:∀b o,cs.lookup b=some o->h.get? b=some o/\H b=none/\zT o):Un fs [] H (V3 g cs) h h'/\iR P w (V3 g cs) h'/\∀b o,cs.lookup b=some o->g b=some (.frz o (.own b)):=by
 have j:=λb o q=>(i b o q).2.1;have a:=λb o q=>U.frzs b o _ (gO q);show{{λb o e n l d=>?_,λb o e n l d=>?_,λb o e n d=>?_,λb o e d=>U.there b o e d,λb Y e=>?_,λb o u e=>?_,λb m e=>?_},SM k λb o q=>{a b o q,(i b o q).2.2},a}
 .cases q:cs.lookup b with
  |none=>show U.keep b o e (by rw[S4 q];show n) l d
  |some f=>have:=(i b f q).1;rw[e]at this;cases this;show(k b _<|a b o q).1
 .cases q:cs.lookup b with
  |none=>show U.slot b o e (by rw[S4 q];show n) l d
  |some f=>have:=(i b f q).1;rw[e]at this;cases this;show{o.slots,(k b _<|a b o q).1}
 .cases q:cs.lookup b with
  |none=>rw[P8 q];show U.free b o e ((S4 q)▸n) d
  |some f=>show dH q
 .show y3 a (U.tups b Y<|G2 j e) λo _ z=>by cases z
 .show y3 a (U.frzs b o u<|G2 j e) λf q z=>?_
  simp_all
 show y3 a (U.tbls b m<|G2 j e) λo _ z=>by cases z
def a0q(U:Un fs [] (V3 H cs) f h h')(k:iR P w f h')(i:∀b o,cs.lookup b=some o->h.get? b=some o/\H b=some (.frz o (.own b))/\b∉fs):Un fs [] H (iF f cs) h h'/\iR P w (iF f cs) h'/\Same f (iF f cs):=by
 have j:=λb o q=>(i b o q).2.1;have g:=λb o q=>U.free b o (i b o q).1 (dH q) (by simp);have a:∀b,H b=none->cs.lookup b=none:=λb n=>by
  cases q:cs.lookup b with
  |none=>rfl
  |some o=>simp_all
 show⟨{λb o e n l d=>U.keep b o e (by rw[P8 (a b n)];show n) l d,λb o e n l d=>U.slot b o e (by rw[P8 (a b n)];show n) l d,λb o e n d=>?_,λb o e d=>U.there b o e d,λb Y e=>?_,λb o u e=>?_,λb m e=>?_},
  RD k λb o q=>{(λb o q=>U.keep b o (i b o q).1 (dH q) (i b o q).2.2 (by simp)) b o q,g b o q},gR g⟩
 .rw[S4 (a b n)];show U.free b o e ((P8<|a b n)▸n) d
 .show G2 g (U.tups b Y (y3 j e λo _ z=>by cases z))
 .cases q:cs.lookup b with
  |none=>show G2 g (U.frzs b o u<|(P8 q)▸e)
  |some p=>rw[j b p q]at e;cases e;show gO q
 show G2 g (U.tbls b m (y3 j e λo _ z=>by cases z))
def JQ(d:∀b o,cs.lookup b=some o->H b=some (.frz o (.own b)))(q:T5 K H a Y):T5 K (V3 H cs) a Y:=by
 rcases q with(q|⟨o,q⟩)|q
 .show .inl (.inl (y3 d q λo _ z=>by cases z))
 .show .inl (.inr {o,y3 d q λo _ z=>by cases z})
 show .inr q
def KJ(d:∀b o,cs.lookup b=some o->H b=some (.frz o (.own b)))(q:L7 K H a Y):L7 K (V3 H cs) a Y:=by
 rcases q with(q|⟨o,q⟩)|q
 .show .inl (.inl (y3 d q λo _ z=>by cases z))
 .show .inl (.inr {o,y3 d q λo _ z=>by cases z})
 show .inr q
def KQ{cs:P9}{a:ck->Prop}(d:∀b o,cs.lookup b=some o->H b=some (.frz o (.own b)))(q:H b=some (.ext a)):V3 H cs b=some (.ext a):=by
 unfold V3;cases e:cs.lookup b with
 |none=>simpa using q
 |some o=>simp_all
def Rep.hid(a:∀b o,cs.lookup b=some o->H b=some (.frz o (.own b)))(r:Rep K H O v d):Rep K (V3 H cs) O v d:=r.mono (λ_ _ q=>JQ a q) (λ_ _ n q=>{n,KJ a q}) λb e n q=>{n,KQ a q}
def Reps.hid(a:∀b o,cs.lookup b=some o->H b=some (.frz o (.own b)))(r:Reps K H O v d):Reps K (V3 H cs) O v d:=r.mono (λ_ _ q=>JQ a q) (λ_ _ n q=>{n,KJ a q}) λb e n q=>{n,KQ a q}
end
variable [Tabs]
section
variable(P:be) (w:cf) (K:kn) (mg:eU) (base:ck) (k:Nat)
def OX(n:Nat)(m:List D->R D)(H:Hp)(O:ba->Prop)(a:ba):Prop:=
 (∃i j l p,H a=some (.frz {i,j,.func l,p} (.own a)))/\
 ∀(A:bM) (b:List Env) (s:aL) (g:List au) (h:List V) (e:List D) (d:D) (Q:VK) (E:XK),Room k A->Env0 P w K mg base A b s H->q9 h g->Reps K H O h e->e.length=n->(∀a,O a->∃o,H a=some o/\Mt o)->Tb H->V0 K O->m e=.ok d->
  (∀v f,Same H f->Rep K f O v d->Q v f)->fo (bc P w) A (.call (.ref a) {g,[]}) (CR uM b P w H s Q E) s
end
open Classical in
def callC(Φ:(List D->R D)->Hp->(ba->Prop)->ba->Prop) (i:Nat) (f:Ev->R (List D)):Ev->R D:=λa=>match a[i]? with
 |some (.c m b)=>if b=Φ m then(f a).bind m else .bad
 |_=>.bad
section
def QO(i:Nat)(ha:MT X (e::es) f)(hl:DY f n)(hr:Room k X.A)(hN:X.N[i]?=some x:=by rfl)(hv:EF X.env.scope x:=by first|show aCs rfl|show aBC (aCs rfl)|show aBC (aBC rfl))(hd:(x==kM)=false:=by decide)(eh:(x==lh)=false:=by decide)(he:a9 (e::es) X.env=(false,dm e X.env)::a9 es X.env:=by rfl)(bo:(cy h (a9 es X.env)).any (·.1)=false:=by rfl):
  PD X (.Call (.Name x p) (e::es) [] h) (callC (OX X.prog X.w X.K X.mg X.base k n) i f):=by
 show qV λb s U H Q I H9 O0 O y E q=>?_;unfold callC at q;cases B:y[i]? with
 |none=>rw[B]at q;show q.elim
 |some l=>
  rw[B]at q;cases l with
  |c m φ=>
   dsimp only at q;split at q
   .rename_i C;subst C;let{a,h1,Y}:=E.slot i _ B;let{{oc,od,fd,l,hf},_}:=Y H O (Kp.refl _ _);show aAN (D8 (N4 hN hv hd eh b s U H (λv H'=>v=.ref a/\H'=H) I {_,h1,rfl,rfl}) λu s1 z9=>?_);let{v,H1,I1,r1,ev,eH}:=z9;subst ev eH;obtain rfl:u=aCL a:=r1;show PySem.W.callWith_F {oc,od,fd,l,(I1.hok a _ hf).1} (D8 (ha h b s1 U H1 _ I1 {H9,O0,O,y,E,MS.seq q}) λus s2 ⟨vs,H2,o,rv,J,e2,L,rr,g⟩=>{{oc,od,fd,l,(o.hok a _<|L _ _ hf).1},?_}) he bo;cases t:m J with
    |ex z=>rw[t]at g;show(g H2<|Same.refl _).elim
    |bad=>rw[t]at g;show g.elim
    |ok d=>
     rw[t]at g;have T:=E.grow L;show wpAny_call (aDY ((Y H2 O<|Kp.of L).2 X.A X.stack s2 us vs J d Q (λ_ _ _=>False) hr o.af6 rv rr (hl y J e2) T.trk T.tab (oB o O T.trk) t g) λr s' j=>?_);cases r with
     |error e=>show j.elim
     |ok fl=>
      cases fl with
      |ret u=>show o.after j
      |next=>show aAv j
      |brk=>show aAv j
      |cont=>show aAv j
   show q.elim
  |_=>show q.elim
end
def spF(K:kn)(Φ:(List D->R D)->Hp->(ba->Prop)->ba->Prop)(M:D->(List D->R D)->(List D->R D)->R D):Sp:=λl H Q _=>∃O v1 g h i j k d,l=[v1,.ref h,.ref j]/\Rep K H O v1 g/\(∀b e,Kp H O b e->Φ i b e h)/\(∀b e,Kp H O b e->Φ k b e j)/\
 (∀a,O a->∃o,H a=some o/\Mt o)/\Tb H/\V0 K O/\M g i k=.ok d/\∀v f,Same H f->Rep K f O v d->Q v f
def mG(N:List Str)(Φ:(List D->R D)->Hp->(ba->Prop)->ba->Prop)(d:D)(a b:List D->R D):Ev:=.v d::.c a (Φ a)::.c b (Φ b)::aCT (N.length-3) Sl.no
def GN{K:kn}{H:Hp}{O:ba->Prop}{N:List Str}{v1:V}{k:D}{f g:ba}{l m:List D->R D}{Φ:(List D->R D)->Hp->(ba->Prop)->ba->Prop}(r:Rep K H O v1 k)(n:∀d e,Kp H O d e->Φ l d e f)(p:∀d e,Kp H O d e->Φ m d e g)
  (t:∀a,O a->∃o,H a=some o/\Mt o) (tb:Tb H):EnvOk K H O H O (start N [v1,.ref f,.ref g]) (mG N Φ k l m)where
 len:=by simp[L2.start,mG]
 same:=Same.refl H
 sub:=λ_ h=>h
 trk:=t
 trk0:=λa h=>let⟨o,q,_⟩:=t a h;{o,q}
 tab:=tb
 slot:=λi s h=>by
  match i with
  |0=>cases h;show{v1,rfl,r}
  |1=>cases h;show{f,rfl,n}
  |2=>cases h;show{g,rfl,p}
  |i+3=>
   have b:(aCT (N.length-3) Sl.no)[i]?=some s:=h;rw[aBD]at b;split at b
   .cases b;trivial
   cases b
 inj:=λi j x y a h _ o=>by
  match i with
  |0=>cases h;show o.elim
  |1=>cases h;show o.elim
  |2=>cases h;show o.elim
  |i+3=>
   have b:(aCT (N.length-3) Sl.no)[i]?=some x:=h;rw[aBD]at b;split at b
   .cases b;show o.elim
   cases b
section
variable{K:kn}
def fnF{x qual:Str}{st:cp}{f:ba}{l:dV}{N ps:List Str}{k:Nat}{M:D->(List D->R D)->(List D->R D)->R D}{Φ:(List D->R D)->Hp->(ba->Prop)->ba->Prop}{F:Ev->R Out}(p:Fun K x qual st f l)(S:FnScope N ps (c8 st))(t:ps.length=3)
  (u:∀(T:au) (A:bM) (a:List Env) (s:aL) (H:Hp) (E:XK),Room k (A.deeper (envOfC qual (c8 st) s.heap.objs.size f T))->cZ (TR P w K mg base N qual (c8 st) f T A a s H E) (t7 st) F)
  (v:∀g i j d,M g i j=.ok d->G8 (F (mG N Φ g i j))=.ok d):FnOk P w K mg base uM (k+1) f l ps (spF K Φ M):=by
 show p.ok S (λy H Q E z=>by let{O,v1,g,B,i,C,j,d,e,_}:=z;rw[e,t];rfl) (λT A a s H y Q E I z=>?_);let{O,v1,g,B,i,C,j,d,J,r,L,U,Y,tb,fk,e,q}:=z;subst J;show{_,u T A a s H E I H O,O,_,GN r L U Y tb,fk,?_};have h:=v g i j d e;cases m:F (mG N Φ g i j)with
 |ok o=>
  rw[m]at h;cases o with
  |rt d'=>have b:R.ok d'=R.ok d:=h;injection b with b;subst b;show q
  |nx n=>have b:R.ok D.non=R.ok d:=h;injection b with b;subst b;showλag H' O' E' _ _=>q .non H' E'.same .non
  |bk n=>cases h
  |ct n=>cases h
 |ex x=>simp_all
 |bad=>rw[m]at h;cases h
end
structure NScope(ps ls fn:List Str)(sc:Scope):Prop where
 kind:sc.kind=.function
 co:sc.isCoroutine=false
 gen:sc.isGenerator=false
 nd:(ps++(ls++fn)).Nodup
 par:∀x∈ps,sc.names.lookup x=some .local
 fre:∀x∈fn,sc.names.lookup x=some .free
 all:∀x,sc.names.lookup x=some .free->x∈fn
 nocell:∀y∈sc.names,y.2≠.cell
abbrev cxM(P:be)(w:cf)(K:kn)(mg:eU)(base:ck)(N:List Str)(env:Env)(A:bM)(outer:List Env)(s:aL)(H:Hp):Cx where
 prog:=P
 w:=w
 K:=K
 mg:=mg
 base:=base
 A:=A.deeper env
 N:=N
 s9:=s
 H9:=H
 env:=env
 outer:=outer
 stack:=env::outer
 ex:=[]
 calm:=true
 fn:=λ_=>false
 pn:=[]
 xe:=λ_ _=>False
def N7{a:Type}(vs:List a)(n:Nat)(no:a)(ws:List a):List a:=vs++(aCT n no++ws)
def jK{b:Type}{vs ws:List b}{n i:Nat}{no a:b}(h:(N7 vs n no ws)[i]?=some a):vs[i]?=some a\/a=no\/(vs.length+n<=i/\ws[i-(vs.length+n)]?=some a):=by
 unfold N7 at h;by_cases d:i<vs.length
 .rw[aAX d]at h;show .inl h
 rw[aAE (by lia)]at h;by_cases e:i-vs.length<n
 .rw[aAX (by grind),aBD,kc e]at h;grind
 rw[aAE (by grind),aCk]at h
 lia
def SL{b:Type}{vs ws:List b}{n i:Nat}{no a:b}(h:vs[i]?=some a):(N7 vs n no ws)[i]?=some a:=by unfold N7;rw[aAX (aAB.mp h).1];show h
def XI{b:Type}{vs ws:List b}{n i:Nat}{no a:b}(h:ws[i]?=some a):(N7 vs n no ws)[vs.length+n+i]?=some a:=by unfold N7;rw[aAE (by lia),aAE (by simp;lia),aCk,show vs.length+n+i-vs.length-n=i by lia];show h
section
variable{K:kn}
def FY{A:bM}{f:List Env}{s:aL}{H:Hp}{L:List au}{vs m:List V}{h₁:ck}{tk:Nat}(S:NScope ps n fn g)(Q:A.handled=none)(j:Env0 P w K mg base A f s H)(E:vs.length=ps.length)(r:q9 vs L)(N:m.length=fn.length)
  (O:∀(i:Nat) (x:Str) (v:V),fn[i]?=some x->m[i]?=some v->∃c u,clos.lookup x=some c/\RelV v u/\s.heap.IsCell c (some u)) (B:∀x c,clos.lookup x=some c->(∃v,s.heap.IsCell c v)/\H c=none)
  (T:∀x y c,clos.lookup x=some c->clos.lookup y=some c->x=y) (U:h₁.Ns s.heap.objs.size (λx=>(ps.zip L).reverse.lookup x)) (C:∀b o,s.heap.get? b=some o->h₁.get? b=some o):
  Inv (cxM P w K mg base (ps++(n++fn)) (PySem.W.envX qual g s.heap.objs.size fa cd clos) A f s H) [] (N7 (vs.map some) n.length none (m.map some)) H {s with heap:=h₁,toks:=tk}:=by
 have k:∀b:ba,b∉(cxM P w K mg base (ps++(n++fn)) (PySem.W.envX qual g s.heap.objs.size fa cd clos) A f s H).ex:=λb z=>absurd (show b∈([]:List ba)from z) (by simp);have I:=(aDG.mp S.nd).1;show⟨{j.mod,S.kind,rfl,rfl,aAh _,T,λy l=>?_,λy c Y _=>(by cases Y),λ_=>Q,aGo j.frames,.inr {rfl,rfl},λb z=>absurd z (k b),j.bs,j.bsz,λb _ _=>k b,λb z=>absurd z (k b),j.funs,j.frf},
  rfl,j.bare,Un.kept C,{_,U,λi y v h1 d h3=>?_},λy c h=>?_,j.hok.fresh (aAh _),λy c h=>(B y c h).2,λp hp=>absurd (hp) (by simp),j.hok.kept C,?_⟩
 .have l:=l;rcases l with l|l
  .show absurd rfl (S.nocell _<|PySem.mem_of_lookup l)
  have hm:=S.all y l;let{i,hi,e}:=aBg hm;have hw:i<m.length:=by rw[N];show hi
  let{c,u,q,_}:=O i y m[i] (by grind) (aAl hw);show{c,q}
 .have t:=h1;rcases jK d with d|d|⟨h4,d⟩
  .rw[aAH]at d;cases e:vs[i]? with
   |none=>rw[e]at d;cases d
   |some a=>
    rw[e]at d;have J:a=v:=Option.some.inj (Option.some.inj d);subst J;let{u,hu,rv}:=r.get e;rw[aAX (by grind)]at t;show{u,rv,.inl {S.par y (aAu t),(dP ?_ ?_)}}
    .rw[aFV];show(List.reverse_perm _).nodup_iff.mpr ?_;rw[List.map_fst_zip (E▸r.length▸aAh _)];show I
    rw[aBZ];show aAu (i:=i) (by rw[aBv];show{t,hu})
  .cases d
  rw[aAf]at h4 d;rw[aAH]at d;cases e:m[i-(vs.length+n.length)]? with
  |none=>rw[e]at d;cases d
  |some a=>rw[e]at d;have J:a=v:=Option.some.inj (Option.some.inj d);subst J;rw[aAE (by lia),aAE (by lia),<-E,show i-vs.length-n.length=i-(vs.length+n.length)by lia]at t;let{c,u,q1,q2,q3}:=O _ y a t e;show{u,q2,.inr {.inr (S.fre y<|aAu t),c,q1,q3.keeps C}}
 .let{{v,z},_}:=B y c h;show{v,z.keeps C}
 unfold N7;simp[E,N]
def FE{H:Hp}{O:ba->Prop}{vs b:List V}{ds wd:List D}{n:Nat}(r:Reps K H O vs ds)(k:Reps K H O b wd)(t:∀a,O a->∃o,H a=some o/\Mt o)(tb:Tb H):
  EnvOk K H O H O (N7 (vs.map some) n none (b.map some)) (N7 (ds.map Sl.v) n .no (wd.map Sl.v))where
 len:=by unfold N7;simp[r.length,k.length]
 same:=Same.refl H
 sub:=λ_ h=>h
 trk:=t
 trk0:=λa h=>let⟨o,q,_⟩:=t a h;{o,q}
 tab:=tb
 slot:=λi l h=>by
  rcases jK h with h|h|⟨p,h⟩
  .rw[aAH]at h;cases e:ds[i]? with
   |none=>rw[e]at h;cases h
   |some d=>rw[e]at h;have f:Sl.v d=l:=Option.some.inj h;subst f;let{v,m,g}:=r.get e;show{v,SL (by simp_all),g}
  .subst h;trivial
  rw[aAH,aAf]at h;rw[aAf]at p;cases e:wd[i-(ds.length+n)]? with
  |none=>rw[e]at h;cases h
  |some d=>rw[e]at h;have f:Sl.v d=l:=Option.some.inj h;subst f;let{v,m,g}:=k.get e;show{v,?_,g};have:=XI (vs:=vs.map some) (n:=n) (no:=(none:Option V)) (ws:=b.map some) (by rw[aAH,m];rfl);rw[aAf,r.length,show ds.length+n+(i-(ds.length+n))=i by lia]at this;show this
 inj:=λi j x y a h _ o=>by
  rcases jK h with h|h|⟨_,h⟩
  .let{d,_,rfl}:=aAj.mp (aAu h);show o.elim
  .subst h;show o.elim
  let{d,_,rfl}:=aAj.mp (aAu h);show o.elim
def a3l{T:Str}{C:Arguments}{body:List cp}{doc pm ctv:au}{L:ba}{oc:Obj}{k:Nat}{m:List D->R D}{F:Ev->R Out}{H:Hp}{O:ba->Prop}{cs:P9}{wv:List V}{wd:List D}(S:NScope ps ls fn g)
  (hb:∀(A:bM) (f:List Env) (s:aL) (H:Hp),Room k (A.deeper (PySem.W.envX qual g s.heap.objs.size fa (.ref L) clos))->cZ (cxM P w K mg base (ps++(ls++fn)) (PySem.W.envX qual g s.heap.objs.size fa (.ref L) clos) A f s H) body F)
  (hm:∀ds d,ds.length=ps.length->m ds=.ok d->G8 (F (N7 (ds.map Sl.v) ls.length .no (wd.map Sl.v)))=.ok d)
  (xf:∀(s:aL) (U:List au),U.length=ps.length->BindsTo s (PySem.W.fnX T qual C body g clos .none .none doc pm none (.ref L) ctv) {U,[]} (ps.zip U))
  (hfa:H fa=some (.frz (PySem.W.fnMade T qual C body g clos doc pm L ctv) (.own fa))) (hc:H L=some (.frz oc (.own L))) (de:∃vs t,oc.data=.fields vs/\vs[1]?=some (.str qual t))
  (wg:∀b o,cs.lookup b=some o->H b=some (.frz o (.own b))/\zT o) (yn:∀(i:Nat) (x:Str) (v:V),fn[i]?=some x->wv[i]?=some v->∃c u o,clos.lookup x=some c/\cs.lookup c=some o/\o.data=.cell (some u)/\RelV v u)
  (hcc:∀x c,clos.lookup x=some c->∃o,cs.lookup c=some o) (lb:∀x y c,clos.lookup x=some c->clos.lookup y=some c->x=y) (ud:wv.length=fn.length) (hr:Reps K H O wv wd) (hO:∀a,O a->∃o,H a=some o/\Mt o):
  ∀l O2,Kp H O l O2->OX P w K mg base (k+1) ps.length m l O2 fa:=by
 intro l O2 kp;have fz:∀b o u,H b=some (.frz o u)->l b=some (.frz o u):=λb o u e=>(kp b _ e λz=>by let{o',q,mt}:=hO b z;rw[e]at q;cases q;show mt).1;have N:∀b o,cs.lookup b=some o->l b=some (.frz o (.own b)):=λb o q=>fz _ _ _ (wg b o q).1;show{{_,_,_,_,fz _ _ _ hfa},λA f s U vs ds d Q E pg j rv rr hl ht tb fk em q=>?_};have KX:K.In s.heap:=j.mod.kin.keeps λb o e=>(j.bs b o e).1;have lim:s.heap.NoLimit:=j.mod.nolimit.keeps λb o e=>(j.bs b o e).1;have goc:=(j.hok L _<|fz _ _ _ hc).1;let{ovs,ot,od1,od2}:=de;have Y:∀b,l b=none->V3 l cs b=none:=λb n=>by
  cases z:cs.lookup b with
  |none=>rw[P8 z];show n
  |some o=>show dH z
 have e1:Env0 P w K mg base A f s (V3 l cs):={j.frames,j.mod,λb o e=>{(j.bs b o e).1,Y b (j.bs b o e).2},j.bsz,j.funs,λb hb=>Y b (j.frf b hb),SM j.hok λb o z=>{N b o z,(wg b o z).2},j.bare};have zo:∀b o,cs.lookup b=some o->s.heap.get? b=some o:=λb o z=>(j.hok b _<|N b o z).1;have cfs:∀b o,cs.lookup b=some o->b∉BM f:=λb o z hb=>by have:=j.frf b hb;rw[N b o z]at this;cases this
 have hul:U.length=ps.length:=by rw[<-rv.length,rr.length];show hl
 have hvl:vs.length=ps.length:=by rw[rr.length];show hl
 have rwv:=(kp.ab6 hO fk hr).hid N;have ht1:∀a,O2 a->∃o,V3 l cs a=some o/\Mt o:=λa z=>by let{o,q1,q2}:=ht a z;show{o,y3 N q1 λo' _ z'=>by subst z';show q2,q2}
 let Q':VK:=λv H3=>(∀b o,cs.lookup b=some o->H3 b=none)->Q v (iF H3 cs)
 have qq:∀v B,Same (V3 l cs) B->Rep K B O2 v d->Q' v B:=λv B sm r hn=>by
  show q v _ (λb u e=>?_) (r.same<|gR hn);cases z:cs.lookup b with
  |none=>show G2 hn (sm b u (by rw[P8 z];show e))
  |some o=>rw[N b o z]at e;cases e;show gO z
 have fin:∀{u:au}{s':aL},CE f P w (V3 l cs) s Q' u s'->CE f P w l s Q u s':=λ{u s'} ⟨v,H3,os,bare,un,hok,r,qv⟩=>by let{U2,k2,ym}:=a0q un hok λb o z=>{zo b o z,N b o z,cfs b o z};show{v,_,os,bare,U2,k2,r,qv λb o z=>un.free b o (zo b o z) (dH z) (by simp)}
 show codeAny_call_def (body:=body) (binds:=ps.zip U) pg.depth ((j.hok fa _<|fz _ _ _ hfa).1) rfl lim {L,oc,ovs,ot,rfl,goc,od1,od2} rfl (xf s U hul) S.nocell (λy hy=>S.par y.1 (aCB hy).1) (λh₁ zf hk=>?_) S.co S.gen S.kind;have I:=FY (qual:=qual) (fa:=fa) (cd:=.ref L) (clos:=clos) (tk:=s.toks+(ps.zip U).length) S pg.hd e1 hvl rv ud (λi x v h1 h2=>by
   let{c,u,o,q1,q2,q3,q4}:=yn i x v h1 h2;show{c,u,q1,q4,o,zo c o q2,q3}) (λx c h=>by
   let{o,z}:=hcc x c h;let{v,z2}:=(wg c o z).2;show{{v,o,zo c o z,z2},dH z}) lb zf hk
 have hx:=hb A f s (V3 l cs) (pg.deeper _) (V3 l cs) O2 [] _ _ _ {nx:=λ_ B=>Q' .non B,rt:=Q'} I {O2,_,FE (rr.hid N) rwv ht1 (λp hp=>y3 N (tb p hp) λo _ z=>by cases z),fk,?_}
 .show aCy hx (λfl s' hs=>?_) λe s' hs=>hs.elim;have fin2:∀{ag:St}{B:Hp}{v:V}{u:au},Inv (cxM P w K mg base (ps++(ls++fn)) (PySem.W.envX qual g s.heap.objs.size fa (.ref L) clos) A f s<|V3 l cs) [] ag B s'->RelV v u->Q' v B->CE f P w l s Q u s':=
   λ{ag B v u} J rv q=>fin {v,B,J.os,J.bare,J.base,J.hok,rv,q}
  cases fl with
  |ret u=>let{v,ag,B,J,rv,q}:=hs;show fin2 J rv q
  |next=>let{ag,B,J,q}:=hs;show fin2 (v:=V.non) (u:=Value.none) J rfl q
  |brk=>let{_,_,_,q}:=hs;show aAv q
  |cont=>let{_,_,_,q}:=hs;show aAv q
 have h:=hm ds d hl em;cases e1:F (N7 (ds.map Sl.v) ls.length .no (wd.map Sl.v))with
 |ok o=>
  rw[e1]at h;cases o with
  |rt d'=>have h':R.ok d'=R.ok d:=h;injection h' with h';subst h';show qq
  |nx ρ=>have h':R.ok D.non=R.ok d:=h;injection h' with h';subst h';showλag B O' E' _ _=>qq .non B E'.same .non
  |bk ρ=>cases h
  |ct ρ=>cases h
 |ex x=>rw[e1]at h;cases h
 |bad=>rw[e1]at h;cases h
end
end
section
variable [Tabs]
def jW(mg:eU)(base:ck):Prop:=∃b a,mg "__builtins__"=some (.ref b)/\b≠builtinsNs/\base.get? b=some a/\a.cls=.type "module"/\a.dict=some builtinsNs/\a.data=.plain
def wF:∀(l:List au),TriplesOk l->fg d l=some x->fg d (l++[dq a,dq b,c])=some x:=λl h e=>by
 fun_induction TriplesOk l with
 |case1=>simp[fg]at e
 |case2 f t g u y rest i=>
  erw[aBs,fg]at e⊢
  lia
 |case3 l j k=>show h.elim
def QV(ne:¬(a=d.line/\b=d.col)):∀(l:List au),TriplesOk l->fg d l=none->fg d (l++[dq a,dq b,c])=none:=λl h e=>by
 fun_induction TriplesOk l with
 |case1=>erw[aDd,dq,fg];rw[kd];erw[aAP,beq_iff_eq];show ne
 |case2 i t j u y rest f=>
  erw[aBs,fg]at e⊢;split at e
  .cases e
  rename_i g;rw[kd g];show f h e
 |case3 l k m=>show h.elim
def iY(H:Hp)(fa:ba)(d qual:Str)(a:Arguments)(body:List cp)(b:ik)(clos:List (Str×ba)):Prop:=
 ∃e h f j g,H fa=some (.frz (PySem.W.fnMade d qual a body b clos f j e g) (.own fa))/\H e=some (.frz h (.own e))/\∃i t,h.data=.fields i/\i[1]?=some (.str qual t)
def iY.same(h:iY H fa d qual a body b clos)(s:Same H H'):iY H' fa d qual a body b clos:=
 let⟨g,i,e,j,f,k,l,m⟩:=h;{g,i,e,j,f,s _ _ k,s _ _ l,m}
section
def AY{Q:Flow->aL->Prop}(I:Inv X pins σ H s)(hB:jW X.mg X.base)(kh:X.env.code=.ref c)(hK:PySem.W.codeHdIn X.K c x=true)(hT:H x=some (.tbl tb))(hq:qualnameIn X.env d d=qual)(hm:(g,qual)∈tb)(hu:∀p∈tb,p.1.line=g.line->p.1.col=g.col->p.2=qual)(yn:closureFor f X.env=pure clos)(hd0:a.defaults=[])(hk0:a.kw_defaults=[])(ha:annTrees a none X.env=[])(hN:X.N.Nodup)(hi:X.N[i]?=some d)(hx:Loc X.env.scope d)(hf:X.fn d=true\/X.env.scope.names.lookup d=some .local)(h:∀fa H' s',Inv X pins (σ.set i (some (.ref fa))) H' s'->Same H H'->iY H' fa d qual a body f clos->Q .next s'):bb (bc X.prog X.w) X.A (exec (.FunctionDef d a body [] none [] f none d g) X.env) Q X.xe s:=by
 show PySem.W.nestDef_K hd0 hk0 ha ?_;rw[hq];have hg:=I.mod.glob.keeps I.bk;have C:PySem.W.CodeHd s.heap c x:=PySem.W.codeHd_of_K I.kIn hK;let{ps,hP,m,J}:=I.hok x _ hT;have hgP:bt≠x:=λq=>by let{o,es,ep,e,hd,_}:=hg;grind
 have L:s.heap.BuiltinsAt X.mg x:=by
  let{bm,ob,b1,b2,b3,b4,b5,b6}:=hB;have b3':=I.bk _ _ b3;show{bm,ob,b1,b2,λq=>?_,λq=>?_,b3',b4,b5,b6}
  .let{o,es,ep,e,hd,_}:=hg;grind
  grind
 have O:∀b,H b=none->b≠x:=λb n z=>by rw[z,hT]at n;cases n
 rcases J _ hm with hnf|⟨l,oc,vs,t,hf',yf,eh⟩
 .show PySem.W.makeFunction_K (mg:=X.mg) yn I.ok.glob hg kh C hP m hnf hgP L λl j k h' tk hx' y ao hrec htb=>?_;let{c2,oc,vs,t,e2,de,hd,hv}:=hrec;cases e2;have old:∀b u,H b=some u->b<s.heap.objs.size:=λb u e=>I.hok.lt e;have hcN:H l=none:=I.hok.fresh y;have B:=I.hok.fresh (aAn y<|aDC ao);have ncf:=aAk ao;have E:Same H (upd (upd H l<|.frz oc (.own l)) h'.objs.size<|.frz (PySem.W.fnMade d qual a body f clos k ((X.mg "__name__").getD .none) l j) (.own h'.objs.size)):=λb u e=>by rw[m5 (t8 e B),m5 (t8 e hcN)];show e
  have ph:∀b o,b≠x->s.heap.get? b=some o->(h'.push<|PySem.W.fnMade d qual a body f clos k ((X.mg "__name__").getD .none) l j).get? b=some o:=λb o L e=>aAb _ (hx' b o L e);have lts:∀b o,s.heap.get? b=some o->b≠l/\b≠h'.objs.size:=λb o e=>{aAk (aAq (aAd e) y),aAk (aAq (aAd e)<|aAn y<|aDC ao)};have I1:=I.step (H':=upd (upd H l<|.frz oc (.own l)) h'.objs.size (.frz (PySem.W.fnMade d qual a body f clos k ((X.mg "__name__").getD .none) l j) (.own h'.objs.size)))
   (h':=h'.push (PySem.W.fnMade d qual a body f clos k ((X.mg "__name__").getD .none) l j)) (g':=s.gens) (t':=tk) (d':=s.drawn) (ch:=[]) (λ_ z=>nomatch z) (λb o _ _ _ e n=>ph b o (O b n) e) (λb o _ _ _ e n=>{o.slots,ph b o (O b n) e})
   (λb o _ e n=>by rw[m5 (lts b o e).2,m5 (lts b o e).1];show n) (λb o _ e=>by
    by_cases L:b=x
    .subst L;show{_,aAb _ htb}
    .show{o,ph b o L e}) (λb Y e=>E _ _ e) (λb o u e=>E _ _ e) (λb tb e=>E _ _ e) (λm' hm'=>by
    let{o,es,ep,e,r}:=hm';show{o,es,ep,ph _ o (O _ I.free) e,r}) (λb u e=>by
    by_cases hbf:b=h'.objs.size
    .subst hbf;rw[j2]at e;cases e;show{aAg _ rfl,_,aAg _ rfl}
    rw[m5 hbf]at e;by_cases hbc:b=l
    .subst hbc;rw[j2]at e;cases e;show{aAb _ de,_,aAb _ de}
    rw[m5 hbc]at e;by_cases hbP:b=x
    .subst hbP;rw[hT]at e;cases e;show{_,aAb _ htb,?_,λp hp=>?_}
     .rw[aGy];show TriplesOk_snoc _ _ _ _ m
     rw[aGy];change fg p.1 (ps.toList++[dq g.line,dq g.col,.ref l])=none\/_;by_cases T:(g.line:Int)=p.1.line/\(g.col:Int)=p.1.col
     .rcases J p hp with U|⟨c3,oc3,vs3,t3,U,h1,h2⟩
      .have e1:g.line=p.1.line:=by exact_mod_cast T.1
       have e2:g.col=p.1.col:=by exact_mod_cast T.2
       show .inr {l,oc,vs,t,?_,by rw[m5 ncf,j2],hd,?_}
       .rw[e1,e2];show codeAmong_snoc _ m U
       grind
      show .inr {c3,oc3,vs3,t3,wF _ m U,E _ _ h1,h2}
     rcases J p hp with U|⟨c3,oc3,vs3,t3,U,h1,h2⟩
     .show .inl (QV T _ m U)
     show .inr {c3,oc3,vs3,t3,wF _ m U,E _ _ h1,h2}
    show(I.hok b u e).ac0 (λb2 v hc q=>ph b2 v (λz=>?_) q) (λb2 z=>E _ _ z) λb2 u _ z=>E _ _ z;rcases hc with hc|hc
    .show hbP (hc▸z)
    rw[z,hT]at hc;cases hc) I.bare
  show L0 I1 hN hi hx (show RelV (.ref h'.objs.size) _ from rfl) (λs' I'=>h _ _ s' I' E {l,oc,k,_,j,j2,by rw[m5 ncf,j2],vs,t,hd,hv}) hf
 show PySem.W.makeFunction_hit (mg:=X.mg) yn I.ok.glob hg kh C hP m hf' L λj k h' tk hk fm=>?_;have B:=I.hok.fresh fm;have I1:=I.laid (o:=.frz (PySem.W.fnMade d qual a body f clos k ((X.mg "__name__").getD .none) l j) (.own h'.objs.size)) (h':=h'.push (PySem.W.fnMade d qual a body f clos k ((X.mg "__name__").getD .none) l j)) (t':=tk)
  (λb u e=>aAb _ (hk b u e)) fm {aAg _ rfl,_,aAg _ rfl}
 show L0 I1 hN hi hx (show RelV (.ref h'.objs.size) _ from rfl) (λs' I'=>h _ _ s' I' (j4 B _) {l,oc,k,_,j,j2,j4 B _ _ _ yf,vs,t,eh}) hf
end
structure Nst where
 name:Str
 qual:Str
 params:Arguments
 body:List Stmt
 scope:Scope
 pos:Pos
 ps:List Str
 ls:List Str
 fn:List Str
 js:List Nat
 F:Ev->R Out
 mm:List D->List D->R D
 i:Nat
abbrev Nst.stmt(n:Nst):cp:=.FunctionDef n.name n.params n.body [] none [] n.scope none n.name n.pos
structure NstOk(X:Cx)(k:Nat)(n:Nst):Prop where
 sc:NScope n.ps n.ls n.fn n.scope
 one:n.ps.length=1
 body:∀(fa:Addr) (cd:Value) (clos:List (Str×Addr)) (A:Around) (outer:List Env) (s:Shared) (H:Hp),Room k (A.deeper (PySem.W.envX n.qual n.scope s.heap.objs.size fa cd clos))->cZ (cxM X.prog X.w X.K X.mg X.base (n.ps++(n.ls++n.fn)) (PySem.W.envX n.qual n.scope s.heap.objs.size fa cd clos) A outer s H) n.body n.F
 mm:∀wd ds d,wd.length=n.fn.length->ds.length=n.ps.length->n.mm wd ds=.ok d->G8 (n.F (N7 (ds.map Sl.v) n.ls.length .no (wd.map Sl.v)))=.ok d
 bind:∀(clos:List (Str×Addr)) (doc pm cd ctv:Value) (us:List Value),us.length=n.ps.length->bindArgs (PySem.W.fnX n.name n.qual n.params n.body n.scope clos .none .none doc pm none cd ctv) {us,[]}=pure (n.ps.zip us)
 len:n.js.length=n.fn.length
 at_:∀(i j:Nat) (x:Str),n.js[i]?=some j->n.fn[i]?=some x->X.N[j]?=some x/\X.env.scope.names.lookup x=some .cell
 d0:n.params.defaults=[]
 k0:n.params.kw_defaults=[]
 nm:X.N[n.i]?=some n.name
 lc:Loc X.env.scope n.name
 st:X.fn n.name=true\/X.env.scope.names.lookup n.name=some .local
 dbg:(n.name==kM)=false
 cdt:(n.name==lh)=false
structure ClosOk(X:Cx)(n:Nst)(clos:List (Str×Addr)):Prop where
 eq:closureFor n.scope X.env=pure clos
 ann:annTrees n.params none X.env=[]
 qn:qualnameIn X.env n.name n.name=n.qual
 sub:∀x c,clos.lookup x=some c->X.env.cells.lookup x=some c
 has:∀x∈n.fn,∃c,clos.lookup x=some c
def fK:List Nat->Ev->R (List D)
 |[],_=>.ok []
 |j::b,a=>(Z6 j a).bind λd=>(fK b a).bind λe=>.ok (d::e)
theorem RG{K:kn}{l H:Hp}{m O:ba->Prop}{g:St}{ρ:Ev}(E:EnvOk K l m H O g ρ):∀{a:List Nat}{wd:List D},fK a ρ=.ok wd->∃b,Reps K H O b wd/\b.length=a.length/\∀(i j:Nat) (v:V),a[i]?=some j->b[i]?=some v->g[j]?=some (some v)
 |[],wd,h=>by cases h;show{[],.nil,rfl,λi j v e=>by simp at e}
 |j::a,wd,h=>by
  unfold fK at h;cases k:Z6 j ρ with
  |ok d=>
   rw[k,R.aa0]at h;cases f:fK a ρ with
   |ok s=>
    rw[f,R.aa0]at h;cases h;let{b,r,n,at_}:=RG E f;have:ρ[j]?=some (.v d):=by
     unfold Z6 at k
     lia
    let{v,t,o}:=E.val j d this;show{v::b,.cons o r,by simp[n],λi p q u w=>?_};cases i with
    |zero=>simp_all
    |succ i=>show at_ i p q (by simp_all) (by grind)
   |ex z=>rw[f]at h;cases h
   |bad=>rw[f]at h;cases h
  |ex z=>simp_all
  |bad=>simp_all
section
def aF(h:ck)(a:List (Str×ba)):List (ba×Obj):=a.filterMap λp=>(h.get? p.2).map λo=>(p.2,o)
def M5(e:(aF h a).lookup b=some o):h.get? b=some o/\∃x,(x,b)∈a:=by
 let{p,d,q}:=aBS.mp (mem_lookup e);cases z:h.get? p.2 with
 |none=>simp_all
 |some f=>grind
def oH(f:(x,b)∈a)(e:h.get? b=some o):∃d,(aF h a).lookup b=some d:=by
 have:(b,o)∈aF h a:=aBS.mpr {(x,b),f,by change(h.get? b).map _=_;rw[e];rfl};cases q:(aF h a).lookup b with
 |some d=>show{d,rfl}
 |none=>grind
def a4p(X:Cx)(n1 n2:Nst)(g clos2:List (Str×ba))(f:Ev->R D)(M:D->(List D->R D)->(List D->R D)->R D):TE:=λd H Q=>∃h j O b e a,EnvOk X.K h j H O d b/\d[n1.i]?=some (some<|V.ref e)/\d[n2.i]?=some (some<|V.ref a)/\
 iY H e n1.name n1.qual n1.params n1.body n1.scope g/\iY H a n2.name n2.qual n2.params n2.body n2.scope clos2/\RC X H O ((f b).bind λk=>(fK n1.js b).bind λl=>(fK n2.js b).bind λm=>M k (n1.mm l) (n2.mm m)) Q
def BK{n:Nst}{clos a:List (Str×ba)}{k:Nat}{g:P9}{σ:St}{H:Hp}{s:aL}{H9:Hp}{O0 O:ba->Prop}{ρ:Ev}{fa:ba}{wd:List D}(ok:NstOk X k n)(h:ClosOk X n clos)(I:Inv X g σ H s)(E:EnvOk X.K H9 O0 H O σ ρ)
  (hA:∀p∈clos,p∈a) (j:∀x b,(x,b)∈a->X.env.cells.lookup x=some b) (l:iY H fa n.name n.qual n.params n.body n.scope clos) (hw:fK n.js ρ=.ok wd):
  ∀r t,Kp (iF H (aF s.heap a)) O r t->OX X.prog X.w X.K X.mg X.base (k+1) 1 (n.mm wd) r t fa:=by
 let{c',oc,N,pm,Q,h1,h2,h3}:=l;let{wv,ql,hl,at_}:=RG E hw;have hn:∀b o,(aF s.heap a).lookup b=some o->H b=none:=λb o q=>by let{_,x,T}:=M5 q;show I.freeC x b (j x b T)
 have L:=gR hn
 suffices z:∀r t,Kp (iF H<|aF s.heap a) O r t->OX X.prog X.w X.K X.mg X.base (k+1) n.ps.length (n.mm wd) r t fa by rw[ok.one]at z;show z
 show a3l (wd:=wd) ok.sc (λA f s H hr=>ok.body fa (.ref c') clos A f s H hr) (λds d U e=>ok.mm wd ds d (by rw[<-ql.length,hl,ok.len]) U e) (λs us U=>.of_eq (ok.bind clos N pm (.ref c') Q us U)) (L _ _ h1) (L _ _ h2) h3
  (λb o q=>{gO q,?_}) (λi x v B Y=>?_) (λx c q=>?_) (λx y c B Y=>I.ok.inj x y c (h.sub x c B) (h.sub y c Y)) (by rw[hl,ok.len]) (ql.same L) (E.grow L).trk
 .let{e1,x,T}:=M5 q;let{v,o',e2,e3}:=I.cell x b (j x b T);rw[e1]at e2;cases e2;show{v,e3}
 .have hi:i<n.js.length:=by rw[ok.len];show(aAB.mp B).1
  have ej:=aAl hi;let{hN,hk}:=ok.at_ i _ x ej B;let{m,zf,C}:=I.loc;let{u,ru,J}:=C _ x v hN (at_ i _ v ej Y) (.inr (.inl hk));rcases J with⟨kr,_⟩|⟨_,c,jh,o,ho,hd⟩
  .have hk'':X.env.scope.names.lookup x=some .local:=kr
   simp_all
  let{c2,q3}:=h.has x (aAu B);have q4:=h.sub x c2 q3;rw[jh]at q4;cases q4;let{o',q5}:=oH (hA _<|PySem.mem_of_lookup q3) ho;have:=(M5 q5).1
  simp_all
 let{v,o,ho,_}:=I.cell x c (h.sub x c q);show oH (hA _<|PySem.mem_of_lookup q) ho
def ZT(qr:NstOk X k n1)(qt:NstOk X k n2)(yo:ClosOk X n1 ir)(jv:ClosOk X n2 clos2)(C:∀x b,(x,b)∈ir++clos2->X.env.cells.lookup x=some b)(FF:FnOk X.prog X.w X.K X.mg X.base uM kf g gd J (spF X.K (OX X.prog X.w X.K X.mg X.base (k+1) 1) M))(hr:Room kf X.A)(U:X.mg x=some (.ref g))(hk:PySem.W.keepIn X.K (.ref g)=true)(m:Binds X.K gd J [])(h3:J.length=3)(he:PD X e f)(ye:∀y,X.fn y=true)(hg:Gl X x:=by rfl)(gc:(x==kM)=false:=by decide)(zg:a9 [e,.Name n1.name p1,.Name n2.name L] X.env=(false,dm e X.env)::a9 [.Name n1.name p1,.Name n2.name L] X.env:=by rfl)(zt:a9 [.Name n1.name p1,.Name n2.name L] X.env=(false,dm (.Name n1.name p1) X.env)::a9 [.Name n2.name L] X.env:=by rfl)(hs3:a9 [.Name n2.name L] X.env=(false,dm (.Name n2.name L) X.env)::a9 [] X.env:=by rfl)(bo:(cy pos (a9 [.Name n1.name p1,.Name n2.name L] X.env)).any (·.1)=false:=by rfl):
  PE X (.Call (.Name x p) [e,.Name n1.name p1,.Name n2.name L] [] pos) (a4p X n1 n2 ir clos2 f M):=by
 rintro pins s σ H Q I ⟨H9,O0,O,Y,zr,fa2,E,h1,h2,md1,md2,q⟩;have vis:∀{y:Str},Loc X.env.scope y->EF X.env.scope y:=λh=>h.elim .inl λz=>.inr (.inl z);show aAN (zD I hg U (PySem.W.callWith_K I.ok.mod.kin hk (D8 ((J6 he (J6 (N4 qr.nm (vis qr.lc) qr.dbg qr.cdt) (J6 (N4 qt.nm (vis qt.lc) qt.dbg qt.cdt) bC hs3) zt) zg) pos pins s σ H (λvs n=>∃v1 N w1 w2 d,vs=[v1,.ref zr,.ref fa2]/\Same H n/\Rep X.K n O v1 N/\fK n1.js Y=.ok w1/\fK n2.js Y=.ok w2/\M N (n1.mm w1) (n2.mm w2)=.ok d/\∀v i,Same n i->Rep X.K i O v d->Q v i) I {H9,O0,O,Y,E,?_}) λus t z9=>?_) zg bo) gc)
 .cases e1:f Y with
  |ex z=>rw[e1]at q;show q
  |bad=>rw[e1]at q;show q
  |ok N=>
   rw[e1,R.aa0]at q;cases B:fK n1.js Y with
   |ex z=>rw[B]at q;show(q H<|Same.refl _).elim
   |bad=>rw[B]at q;show q.elim
   |ok w1=>
    rw[B,R.aa0]at q;cases e3:fK n2.js Y with
    |ex z=>rw[e3]at q;show(q H<|Same.refl _).elim
    |bad=>rw[e3]at q;show q.elim
    |ok w2=>
     rw[e3,R.aa0]at q;cases e4:M N (n1.mm w1) (n2.mm w2)with
     |ex z=>rw[e4]at q;show(q H<|Same.refl _).elim
     |bad=>rw[e4]at q;show q.elim
     |ok d=>rw[e4]at q;showλv1 n t r1=>{_,h1,_,h2,v1,N,w1,w2,d,rfl,t,r1,rfl,rfl,e4,λv i s2 r2=>q v i (t.trans s2) r2}
 let{vs,n,a,r,v1,N,w1,w2,d,ev,sm,r1,c1,c2,em,qq}:=z9;show{a.kIn,?_};subst ev;have E1:=E.grow sm;generalize wg:aF t.heap (ir++clos2)=j;have hn:∀b o,j.lookup b=some o->t.heap.get? b=some o/\n b=none/\zT o:=λb o z=>by rw[<-wg]at z;let{e1,y,U}:=M5 z;let{v,o',B,e3}:=a.cell y b (C y b U);rw[e1]at B;cases B;show{e1,a.freeC y b (C y b U),v,e3}
 have hn0:=λb o z=>(hn b o z).2.1;have T:=gR hn0;have E2:=E1.grow T;have l:=a.af6;have nofr:∀b o,j.lookup b=some o->b∉BM X.stack:=λb o z m=>by
  rw[<-wg]at z;let{_,y,hmy}:=M5 z;rcases aAi.mp (a.ab7 b m)with e|m
  .show a.cne y b (C y b hmy) e
  let{_,o',ho,_}:=a.ok.funs.mem m;show absurd (aAq (aAd ho)<|a.ok.cab y b (ye y)<|C y b hmy) (aBJ _)
 have nob:∀b o,X.base.get? b=some o->j.lookup b=none:=λb o e=>by
  cases z:j.lookup b with
  |none=>rfl
  |some o'=>rw[<-wg]at z;let{_,y,U}:=M5 z;show absurd (aAq (aAd e)<|aAn a.ok.bsz<|a.ok.cab y b (ye y)<|C y b U) (aBJ _)
 have B:Env0 X.prog X.w X.K X.mg X.base X.A X.stack t (iF n j):=⟨l.frames,l.mod,λb o e=>{(l.bs b o e).1,by rw[S4 (nob b o e)];show(l.bs b o e).2},l.bsz,l.funs,λb m=>by
  cases z:j.lookup b with
  |none=>rw[S4 z];show l.frf b m
  |some o=>show absurd m (nofr b o z),RD l.hok λb o z=>{(hn b o z).1,(hn b o z).2.1},l.bare⟩
 have cl1:=BK qr yo a E1 (λp hp=>aBj _ hp) C (md1.same sm) c1;have cl2:=BK qt jv a E1 (λp hp=>aAx _ hp) C (md2.same sm) c2;rw[wg]at cl1 cl2;have hl:us.length=J.length:=by rw[<-r.length,h3];rfl
 have hbs:=m t us a.kIn (by rw[aBU];show hl);rw[aBU]at hbs;show wpAny_call (aDY (FF.run X.A X.stack t (iF n j) {us,[]} us _ (λv i=>Q v (V3 i j)) (λ_ _ _=>False) hr B hbs r {O,v1,N,zr,_,fa2,_,d,rfl,r1.same T,cl1,cl2,E2.trk,E2.tab,oB a O E1.trk,em,λv i s2 r2=>?_}) λrr s' hq=>?_)
 .have hz:∀b o,j.lookup b=some o->i b=some (.frz o (.own b)):=λb o z=>s2 _ _ (gO z);show qq v _ (λb u e=>y3 hz (s2 b u<|T b u e) λo z _=>?_) (r2.hid hz)
  simp_all
 cases rr with
 |error e=>show hq.elim
 |ok fl=>
  cases fl with
  |next=>show aAv hq
  |brk=>show aAv hq
  |cont=>show aAv hq
  |ret u=>let{v,i,os,bare,un,hok,rv,qv}:=hq;let{U2,k2,_}:=a1z un hok hn;show a.after {v,_,os,bare,U2,k2,rv,qv}
def OW(a:NstOk X k n1)(h:NstOk X k n2)(u:ClosOk X n1 ir)(B:ClosOk X n2 clos2)(hA:∀x b,(x,b)∈ir++clos2->X.env.cells.lookup x=some b)(hB:jW X.mg X.base)(kh:X.env.code=.ref c)(hK:PySem.W.codeHdIn X.K c Pt=true)(l:(Pt,tb)∈Tabs.tbs)(L:(n1.pos,n1.qual)∈tb)(kg:(n2.pos,n2.qual)∈tb)(dc:∀p∈tb,p.1.line=n1.pos.line->p.1.col=n1.pos.col->p.2=n1.qual)(Q:∀p∈tb,p.1.line=n2.pos.line->p.1.col=n2.pos.col->p.2=n2.qual)(ai:n1.i≠n2.i)(hN:X.N.Nodup)(FF:FnOk X.prog X.w X.K X.mg X.base uM kf g gd m (spF X.K (OX X.prog X.w X.K X.mg X.base (k+1) 1) M))(hr:Room kf X.A)(hm:X.mg x=some (.ref g))(hk:PySem.W.keepIn X.K (.ref g)=true)(hb:Binds X.K gd m [])(h3:m.length=3)(he:PD X e f)(ye:∀y,X.fn y=true)(hg:Gl X x:=by rfl)(gc:(x==kM)=false:=by decide)(zg:a9 [e,.Name n1.name n,.Name n2.name j] X.env=(false,dm e X.env)::a9 [.Name n1.name n,.Name n2.name j] X.env:=by rfl)(zt:a9 [.Name n1.name n,.Name n2.name j] X.env=(false,dm (.Name n1.name n) X.env)::a9 [.Name n2.name j] X.env:=by rfl)(T:a9 [.Name n2.name j] X.env=(false,dm (.Name n2.name j) X.env)::a9 [] X.env:=by rfl)(bo:(cy U (a9 [.Name n1.name n,.Name n2.name j] X.env)).any (·.1)=false:=by rfl):
  cZ X [n1.stmt,n2.stmt,.Return (some (.Call (.Name x p) [e,.Name n1.name n,.Name n2.name j] [] U)) rpos] (λρ=>((f ((ρ.set n1.i .no).set n2.i .no)).bind λY=>(fK n1.js ((ρ.set n1.i .no).set n2.i .no)).bind λw1=>(fK n2.js ((ρ.set n1.i .no).set n2.i .no)).bind λw2=>M Y (n1.mm w1) (n2.mm w2)).bind λd=>.ok (.rt d)):=by
 rintro H9 O0 o s C H D I ⟨O,ρ,E,fk,q⟩;show aEJ (AY I hB kh hK (E.tab _ l) u.qn L dc u.eq a.d0 a.k0 u.ann hN a.nm a.lc a.st λzr H1 s1 I1 sm1 md1=>?_);have E1:EnvOk X.K H9 O0 H1 O (C.set n1.i<|some<|.ref zr) (ρ.set n1.i .no):=(E.grow sm1).put n1.i (λz=>z) trivial;show aEJ (AY I1 hB kh hK (E1.tab _ l) B.qn kg Q B.eq h.d0 h.k0 B.ann hN h.nm h.lc h.st λt H2 s2 I2 ym md2=>?_);have J:EnvOk X.K H9 O0 H2 O ((C.set n1.i<|some<|.ref zr).set n2.i (some<|.ref t)) ((ρ.set n1.i .no).set n2.i .no):=(E1.grow ym).put n2.i (λz=>z) trivial;have l1:n1.i<C.length:=by rw[I.len];show(aAB.mp a.nm).1
 have l2:n2.i<C.length:=by rw[I.len];show(aAB.mp h.nm).1
 show qM (zN<|ZT a h u B hA FF hr hm hk hb h3 he ye hg gc zg zt T bo) o s2 _ H2 D I2 {H9,O0,O,_,zr,t,J,?_,?_,md1.same ym,md2,?_}
 .rw[aCr (aCF ai),aCc l1]
 .simp_all
 revert q;dsimp only;generalize((f<|(ρ.set n1.i .no).set n2.i .no).bind λY=>(fK n1.js<|(ρ.set n1.i .no).set n2.i .no).bind λw1=>(fK n2.js<|(ρ.set n1.i .no).set n2.i .no).bind λw2=>M Y (n1.mm w1) (n2.mm w2))=rr;intro q;cases rr with
 |ok d=>showλv H' s r=>q v H' (J.same.trans s) (r.sub J.sub)
 |ex z=>showλH' s=>q H' (J.same.trans s)
 |bad=>show q
end
def yG(K:kn):Sp:=λd H Q _=>∃(a:ba) (b:List Int),d=[.ref a]/\L7 K H a (b.map V.int)/\b.length<=63/\(∀x∈b,aBb x<=1048576)/\Tb H/\∀e,Q (.bl true) e
def YM{P:be}{w:cf}{K:kn}{mg:eU}{base:ck}{k:Nat}{f:ba}{b:dV}{m:List D->R D}(F:FnOk P w K mg base uM k f b ["script"] (spD K 1 m))
  (h:∀ns:List Int,ns.length<=63->(∀x∈ns,aBb x<=1048576)->m [.lst (ns.map D.int)]=.ok (.bl true)):FnOk P w K mg base uM k f b ["script"] (yG K):=
 F.imp<|by rintro n H Q E ⟨a,ns,e,d,g,i,j,q⟩;show{λ_=>False,_,_,by rw[e];show .cons (.lst d (λz=>z) (Reps.ints ns)) .nil,rfl,λ_ z=>z.elim,j,λ_ _ _ z=>z,h ns g i,λv l _ r=>by cases r;show q l}
def MQ{P:be}{w:cf}{K:kn}{mg mb:eU}{k:Nat}{fa a:ba}{fd:dV}{f:aL}{vs:List au}{ns:List Int}
  (KX:K.In f.heap) (zf:f.heap.Ns bt mg) (l:f.heap.Ns builtinsNs mb) (hbb:∀x:Str,x≠ "__name__"->mb x=cv x) (C:f.heap.NoLimit) (hB:jW mg f.heap) (hg:f.gens=#[])
  (ha:f.heap.get? a=some {cls:=.type "list",data:=.seq vs.toArray}) (hi:IntsAre vs ns) (hl:ns.length<=63) (xg:∀x∈ns,aBb x<=1048576) (hr:Room k callerA)
  (hT:∀p∈Tabs.tbs,f.heap.get? p.1=some (PySem.W.tabObj #[])/\isCodeTable f.heap p.1) (hTd:(Tabs.tbs.map (·.1)).Nodup) (hKn:PySem.W.noTabs K=true)
  (F:∀base:ck,K.In base->base.Ns bt mg->jW mg base->FnOk P w K mg base uM k fa fd ["script"] (yG K)) (xf:∀(s:aL) (u:au),BindsTo s fd {[u],[]} [("script",u)]):
  fo (bc P w) callerA (.call (.ref fa) {[.ref a],[]}) (λr s'=>r=.ok (.ret (.bool true))/\OldK f.heap s'.heap/\s'.os=f.os/\AllBare s'.gens) f:=by
 have rv:=L2.R0 hi;have E:=hi.length;have jc:ns.length<=sizeLine:=aAn hl (by decide);have T:=λb i e=>hT (b,i) (mem_lookup e);have nta:Tabs.tbs.lookup a=none:=by grind
 have noK:∀b o,K.lookup b=some o->Tabs.tbs.lookup b=none:=λb o e=>by
  cases z:Tabs.tbs.lookup b with
  |none=>rfl
  |some i=>
   have I:=KX b o e;rw[(T b i z).1]at I;cases I;have A:=aBB.mp hKn (b,_) (PySem.W.mem_of_lookupK e)
   simp_all
 let put:Hp->Hp:=λH b=>match Tabs.tbs.lookup b with
  |some i=>some (.tbl i)
  |none=>H b
 have sD:∀(H:Hp) b i,Tabs.tbs.lookup b=some i->put H b=some (.tbl i):=λH b i e=>by change(match Tabs.tbs.lookup b with|some i=>some (HO.tbl i)|none=>H b)=_;rw[e]
 have U:∀(H:Hp) b,Tabs.tbs.lookup b=none->put H b=H b:=λH b e=>by change(match Tabs.tbs.lookup b with|some i=>some (HO.tbl i)|none=>H b)=_;rw[e]
 have t:∀g:Hp,(∀b,g b=none\/∃Y,g b=some (.frz {cls:=.type "list",data:=.seq vs.toArray} (.lst Y)))->L7 K (put g) a (ns.map V.int)->(∀b u,g b=some u->ObjOk P w (put g) f.heap b u)->(∀b,g b≠none->b=a)->(g a≠none->K.lookup a=none)->
   fo (bc P w) callerA (.call (.ref fa) {[.ref a],[]}) (λr s'=>r=.ok (.ret (.bool true))/\OldK f.heap s'.heap/\s'.os=f.os/\AllBare s'.gens) f:=by
  intro g hO hS hok0 hA hK;have J:iR P w (put g) f.heap:=λb u e=>by
   cases z:Tabs.tbs.lookup b with
   |none=>grind
   |some i=>rw[sD _ b i z]at e;cases e;show{#[],(T b i z).1,trivial,λp _=>.inl rfl}
  have nh:∀{b:ba}{o:Obj},f.heap.get? b=some o->put g b=none->(yW f.heap<|put g).get? b=some o:=λe n=>QX e n;have none_of:∀{b:ba}{o:Obj},f.heap.get? b=some o->o≠PySem.W.tabObj #[]->o≠{cls:=.type "list",data:=.seq vs.toArray}->put g b=none:=λ{b o} e n1 n2=>by
   cases z:Tabs.tbs.lookup b with
   |some i=>have:=(T b i z).1;rw[e]at this;show absurd (Option.some.inj this) n1
   |none=>grind
  have j:∀{b:ba}{m:eU},f.heap.Ns b m->(yW f.heap<|put g).Ns b m:=λ{b m} ⟨o,es,ep,e,d,r⟩=>{o,es,ep,nh e (none_of e (λz=>by rw[z]at d;cases d) λz=>by rw[z]at d;cases d),d,r};have L:K.In (yW f.heap<|put g):=λb o e=>nh (KX b o e) (by
   rw[U _ b (noK b o e)];cases q:g b with
   |none=>rfl
   |some u=>have e':b=a:=hA b (by rw[q];simp);subst e';rw[hK (by rw[q];simp)]at e;cases e)
  have hBb:jW mg (yW f.heap<|put g):=by let{bm,ob,b1,b2,b3,b4,b5,N}:=hB;show{bm,ob,b1,b2,nh b3 (none_of b3 (λz=>by rw[z]at N;cases N) λz=>by rw[z]at N;cases N),b4,b5,N}
  have hM:Mod K mg (yW f.heap<|put g):={L,j zf,{mb,j l,hbb},let⟨mc,B,A⟩:=C;{mc,j B,A}};have tb0:Tb (put g):=λp hp=>sD _ p.1 p.2 (dP hTd hp);show aDY ((F _ L (j zf) hBb).run callerA [] f (put g) {[.ref a],[]} [.ref a] [.ref a] (λv _=>v=.bl true) (λ_ _ _=>False) hr ({rfl,hM,λb o e=>YT e,aGd (OP _ _),trivial,λb l=>absurd (show b∈([]:List ba)from l) (by simp),J,.of_eq hg}) (xf f<|.ref a) (.cons rfl .nil) {a,ns,rfl,hS,hl,xg,tb0,λ_=>rfl}) λr s' h=>?_;cases r with
  |error e=>show(show False from h).elim
  |ok fl=>
   cases fl with
   |next=>show aAv h
   |brk=>show aAv h
   |cont=>show aAv h
   |ret u=>
    let{v,H',os,O,un,zh,r',q}:=h;have q':v=.bl true:=q;subst q';obtain rfl:u=aDH true:=r';have y:∀b o,f.heap.get? b=some o->s'.heap.get? b=some o\/(isCodeTable f.heap b/\o=PySem.W.tabObj #[]/\∃Q,s'.heap.get? b=some (PySem.W.tabObj Q)):=λb o e=>by
     cases z:Tabs.tbs.lookup b with
     |some i=>
      have:=(T b i z).1;rw[e]at this;let{Q,hps,_}:=zh b _ (un.tbls b i<|sD _ b i z)
      simp_all
     |none=>
      show .inl ?_;rcases hO b with n|⟨Y,n⟩
      .show un.keep b o e (by rw[U _ b z];show n) (by intro z;show absurd (show b∈([]:List ba)from z) (by simp)) (by simp)
      have z1:put g b=some (.frz {cls:=.type "list",data:=.seq vs.toArray} (.lst Y)):=by rw[U _ b z];show n
      have z2:=un.frzs b _ _ z1;let{I,_}:=J b _ z1;let{e2,_}:=zh b _ z2;rw[e]at I;cases I;show e2
    show{rfl,{λb o e=>?_,λb o e=>?_},os,O}
    .rcases y b o e with h|⟨B,A,Q,h3⟩
     .show .inl h
     subst A;show .inr (.inl {B,rfl,#[],Q,rfl,by rw[Array.empty_append];show h3})
    rcases y b o e with h|⟨B,A,Q,h3⟩
    .show{o,h}
    show{_,h3}
 cases hk:K.lookup a with
 |some o=>have e:=KX a o hk;rw[ha]at e;cases e;show t (λ_=>none) (λ_=>.inl rfl) (.inr {_,vs.toArray,_,hk,rfl,rfl,rfl,by rw[aAO,E];show jc,by simpa using rv}) (λb u z=>by have z':(none:Option HO)=some u:=z;cases z') (λb z=>absurd rfl z) λz=>absurd rfl z
 |none=>
  obtain⟨g,B,A⟩:∃g:Hp,g a=some (.frz {cls:=.type "list",data:=.seq vs.toArray} (.lst (ns.map V.int)))/\∀b,b≠a->g b=none:={λb=>if b=a then _ else none,kc rfl,λb l=>kd l};show t g (λb=>?_) (.inl (.inr {{cls:=.type "list",data:=.seq vs.toArray},(U g a nta).trans B})) (λb u z=>?_) (λb z=>?_) λ_=>hk
  .grind
  .by_cases l:b=a
   .subst l;rw[B]at z;cases z;show{ha,by rw[aAf];show jc,vs,_,rv,ha}
   rw[A b l]at z;cases z
  grind
def ZC{l:PySem.W.OpenLaw}{k:Nat}{q:be}{e:List Str}{C:(Str->Option au)->ck->Prop}{z:cf->ck->Prop}{d:DefRec}{K:Params->kn}{A:List ba}
  (E:l.most=some 63) (n:d.params.defaults=[]) (H:Room k callerA)
  (I:∀(w:cf) (h:ck),z w h->(K w.params).In h/\∀P∈A,h.get? P=some (PySem.W.tabObj #[]))
  (r:∀p∈Tabs.tbs,p.1∈A/\∃c,∀w:cf,PySem.W.codeHdIn (K w.params) c p.1=true) (t:(Tabs.tbs.map (·.1)).Nodup) (v:∀w:cf,PySem.W.noTabs (K w.params)=true)
  (F:∀(w:cf) (mg:eU) (fa:ba) (h:ck),(K w.params).In h->h.Ns bt mg->mg d.name=some (.ref fa)->
   ∃x:dV,(∀(s:aL) (u:au),BindsTo s x {[u],[]} [("script",u)])/\
    ∀base:ck,(K w.params).In base->base.Ns bt mg->jW mg base->FnOk l.prog w (K w.params) mg base uM k fa x ["script"] (yG (K w.params))):
  PySem.W.WalkO q e C z l.row.toRowW d [] (λf vs=>PySem.call f vs):=by
 show Att2.attach_bits E n λw s9 ae mg mb fa o pm cd J a vs ns G Y ho hd eh L j i m N O=>?_;let{y,Q}:=I w _ Y;let{x,U,hF}:=F w mg fa _ y G.T.g L;show MQ y G.T.g G.T.b G.T.builtins G.T.nolimit G.T.bmain O j i m N H (λp hp=>?_) t (v w) hF U;let{h1,c,h2}:=r p hp;have B:=Q p.1 h1;show{B,((PySem.W.codeHd_of_K y<|h2 w).tab B).isCodeTable}
section
def YR(own z:List Str)(h:List Nat)(hc:X.calm=true)(S:CompSc X b own z h)(hi:XO X A iter L)(hX:∀(f:P9) (o:List ba) (k:Cx),(∃s9 Ha C,k=HB X f s9 Ha (own++z) b (eN X b C) C o)->LV k A G/\XU k p ft/\PD k t fe)(hG:∀ρ d i,G d (i8 own h ρ)=.ok i->lB i (i8 own h ρ))(hs:∀x,ee iter X.env x=pure x:=by intro _;rfl):
  PF X (.ListComp t [{A,iter,p,0}] b pos) (λρ=>(L ρ).bind λds=>if ds.length<=sizeLine then w9 G ft fe (i8 own h ρ) ds else .bad):=by
 show qV λf s σ H Q I H9 O0 O ρ E q=>?_;dsimp only at q;show aDZ rfl hs (aP<|Inv.ab0 I S) S.kind S.names (D8 (hi f s σ H (λJ g=>∃ds j,Same H g/\sk X.K J g O ds/\ds.length<=sizeLine/\w9 G ft fe (i8 own h ρ) ds=.ok j/\∀l g a,Same H g->g a=none->Reps X.K g O l j->Q (.ref a) (upd g a<|.lst l)) I {H9,O0,O,ρ,E,oB I O E.trk,?_}) λv N h1=>D8 h1 λitv s2 h2=>?_)
 .cases U:L ρ with
  |ex x=>rw[U]at q;show q
  |bad=>simp_all
  |ok ds=>
   rw[U,R.aa0]at q;intro J g N u;by_cases n:ds.length<=sizeLine
   .rw[kc n]at q;cases w:w9 G ft fe (i8 own h ρ) ds with
    |ex x=>rw[w]at q;show(q H<|Same.refl _).elim
    |bad=>simp_all
    |ok j=>rw[w]at q;show{ds,j,N,u,n,w,q}
   simp_all
 let{it,o,tn,J,H2,e,I2,T,ku,f2,ds,j,Y,u,n,y,q}:=h2;subst e;show rT hc S (hX f o) (hG ρ) I2 T ku f2 (E.grow Y) u.c y n ?_;intro B C s' H' m hn _ _ _ sm' r nw _ hI;let{g,l,qi,zi,eH,rr}:=nw;subst eH;show{m,hn,λh' jo=>{.ref B,_,hI h' jo,rfl,q l g B (Y.trans qi) zi rr}}
def a6h{Y es:List cq}{p:Pos}{env:Env}:a9 (.List Y p::es) env=(false,dm (.List Y p) env)::a9 es env:=rfl
def a4g{Y:List cq}{p:Pos}{t:Option cq}{l:Nat}{env:Env}:d7 (Expr.List Y p) t l env=pure false:=rfl
end
end
end DL
namespace DL
open PySem L2
def Q0(G:D->Ev->R Ev)(F:Ev->R Out)(d:D)(ρ:Ev):R Out:=match G d ρ with
 |.ok a=>F a
 |_=>.bad
@[simp]def jF(i:Nat)(F:Ev->R Out)(d:D)(ρ:Ev):Q0 (λd ρ=>.ok (ρ.set i (Sl.v d))) F d ρ=F (ρ.set i (.v d)):=rfl
theorem mC(Iv:Ev->Prop):∀{ds:List D}{ρ:Ev},(∀d∈ds,∀ρ,Iv ρ->∃ρ2,Q0 G F d ρ=.ok (.nx ρ2)/\Iv ρ2)->Iv ρ->∃ρ',S7 G F ds ρ=.ok (.nx ρ')/\Iv ρ'
 |[],ρ,_,h=>{ρ,rfl,h}
 |d::ds,ρ,a,h=>by
  let{ρ2,e,f}:=a d aCN ρ h;let{ρ',g,i}:=mC Iv (λd j=>a d (aAe _ j)) f;unfold Q0 at e;cases b:G d ρ with
  |ok k=>rw[b]at e;show{ρ',by rw[S7,b];dsimp only at e⊢;rw[e];show g,i}
  |ex x=>simp_all
  |bad=>grind
@[simp]def a6z(G:D->Ev->R Ev)(F:Ev->R Out)(ρ:Ev):S7 G F [] ρ=.ok (.nx ρ):=rfl
def WY{d:Type}{a b:d}:(R.ok a=R.ok b)=(a=b):=by simp
class Bd (a:Int)(n:outParam Nat):Prop where
 h:bits a<=n
def o7(h:bits a<=m)(b:m<=n):bits a<=n:=aAn h b
section
instance Bd.add [p:Bd a m][q:Bd b n]:Bd (a+b) (m+n+1):=⟨bits_add (o7 p.h<|aEK m n) (o7 q.h<|Nat.le_add_left n m)⟩
instance Bd.mul [p:Bd a m][q:Bd b n]:Bd (a*b) (m+n):=⟨bits_mul p.h q.h⟩
def P7[p:Bd a m][q:Bd b n](d:m<=60000000)(e:n<=60000000):uO (.int a) (.int b)=.ok (.int (a*b)):=j9 {aAn p.h d,aAn q.h e}
end
instance Bd.l2:Bd 2 2:=⟨by decide⟩
abbrev vd(v:G.V):D:=.tup [.int v.x,.int v.y,.int v.z]
def Sz(n:Nat)(v:G.V):Prop:=bits v.x<=n/\bits v.y<=n/\bits v.z<=n
def Sz.mono(h:Sz m v)(a:m<=n:=by decide):Sz n v:={o7 h.1 a,o7 h.2.1 a,o7 h.2.2 a}
def Sz.sub(h:Sz n u)(h':Sz n v):Sz (n+1) (u-v):={bits_sub h.1 h'.1,bits_sub h.2.1 h'.2.1,bits_sub h.2.2 h'.2.2}
def Sz.add(h:Sz n u)(h':Sz n v):Sz (n+1) (u+v):={bits_add h.1 h'.1,bits_add h.2.1 h'.2.1,bits_add h.2.2 h'.2.2}
def Sz.cr(h:Sz m u)(h':Sz n v):Sz (m+n+1) (G.cr u v):={bits_sub (bits_mul h.2.1 h'.2.2) (bits_mul h.2.2 h'.2.1),bits_sub (bits_mul h.2.2 h'.1) (bits_mul h.1 h'.2.2),bits_sub (bits_mul h.1 h'.2.1) (bits_mul h.2.1 h'.1)}
end DL
namespace M
open PySem L2 DL
abbrev pt(a b c:Int):D:=.tup [.int a,.int b,.int c]
abbrev xy(n:Nat)(a b c:Int):Prop:=bits a<=n/\bits b<=n/\bits c<=n
def MY(k:List D->List D->R D):List D->R D
 |.lst Y::a=>k Y a
 |_=>.bad
def UR(k:List D->List D->R D):List D->R D
 |.tup Y::a=>k Y a
 |_=>.bad
def qJ(k:Int->List D->R D):List D->R D
 |.int a::b=>k a b
 |_=>.bad
def M1{k:Int->List D->R D}{ds:List D}{r:D}(h:qJ k ds=.ok r):∃a e,ds=.int a::e/\k a e=.ok r:=by
 unfold qJ at h;split at h
 .show{_,_,rfl,h}
 cases h
def eV(q:R D):List D->R D
 |[]=>q
 |_=>.bad
def mI(h:MY k ds=.ok r):∃Y e,ds=.lst Y::e/\k Y e=.ok r:=by
 unfold MY at h;split at h
 .show{_,_,rfl,h}
 cases h
def uI(h:UR k ds=.ok r):∃Y e,ds=.tup Y::e/\k Y e=.ok r:=by
 unfold UR at h;split at h
 .show{_,_,rfl,h}
 cases h
def u5(h:eV q ds=.ok r):ds=[]/\q=.ok r:=by
 unfold eV at h
 lia
def v1(k:Int->Int->Int->List D->R D):List D->R D:=UR λY e=>qJ (λa=>qJ λb=>qJ λc=>eV (k a b c e)) Y
def v4(k:Int->Int->Int->Int->List D->R D):List D->R D:=UR λY e=>qJ (λa=>qJ λb=>qJ λc=>qJ λd=>eV (k a b c d e)) Y
def v3(k:Int->Int->Int->List D->R D):List D->R D:=UR λY e=>qJ (λa=>qJ λb=>qJ λc _=>k a b c e) Y
def a0d(h:v3 k ds=.ok r):∃a b c t e,ds=.tup (.int a::.int b::.int c::t)::e/\k a b c e=.ok r:=by let{Y,e,rfl,h}:=uI h;let{a,x,rfl,h}:=M1 h;let{b,y,rfl,h}:=M1 h;let{c,z,rfl,h}:=M1 h;show{a,b,c,z,e,rfl,h}
def z8(h:v1 k ds=.ok r):∃a b c e,ds=.tup [.int a,.int b,.int c]::e/\k a b c e=.ok r:=by let{Y,e,rfl,h}:=uI h;let{a,x,rfl,h}:=M1 h;let{b,y,rfl,h}:=M1 h;let{c,z,rfl,h}:=M1 h;let{rfl,h}:=u5 h;show{a,b,c,e,rfl,h}
def wq(h:v4 k ds=.ok r):∃a b c d e,ds=.tup [.int a,.int b,.int c,.int d]::e/\k a b c d e=.ok r:=by let{Y,e,rfl,h}:=uI h;let{a,x,rfl,h}:=M1 h;let{b,y,rfl,h}:=M1 h;let{c,z,rfl,h}:=M1 h;let{d,w,rfl,h}:=M1 h;let{rfl,h}:=u5 h;show{a,b,c,d,e,rfl,h}
def l6:List D->R D:=v1 λa b c=>v1 λd e f=>eV (.ok (pt (d-a) (e-b)<|f-c))
def w5:List D->R D:=v1 λa b c=>v1 λd e f=>eV (if xy 20000000 a b c/\xy 20000000 d e f then .ok (pt (b*f-c*e) (c*d-a*f)<|a*e-b*d)else .bad)
def n4:List D->R D:=v3 λa b c=>v1 λd e f=>eV (if xy 50000000 a b c/\xy 50000000 d e f then .ok (.int (a*d+b*e+c*f))else .bad)
@[simp]def mQ(P Q:G.V):l6 [vd P,vd Q]=.ok (vd (Q-P)):=rfl
def S6(a:Sz 20000000 u)(b:Sz 20000000 v):w5 [vd u,vd v]=.ok (vd (G.cr u v)):=kc {a,b}
def aJ(a:Sz 50000000 u)(b:Sz 50000000 v):n4 [vd u,vd v]=.ok (.int (G.d6 u v)):=kc {a,b}
def l8(P Q R S:G.V):Int:=G.d6 (G.cr (Q-P)<|R-P) (S-P)
open Classical in
def nB:List D->R D:=v1 λa b c=>v1 λd e f=>v1 λg h i=>v1 λj k l=>eV (if Sz 1000000 {a,b,c}/\Sz 1000000 {d,e,f}/\Sz 1000000 {g,h,i}/\Sz 1000000 {j,k,l}then .ok (.int (l8 {a,b,c} {d,e,f} {g,h,i} {j,k,l}))else .bad)
def pW{P Q R S:G.V}(a:Sz 1000000 P)(b:Sz 1000000 Q)(d:Sz 1000000 R)(e:Sz 1000000 S):nB [vd P,vd Q,vd R,vd S]=.ok (.int (l8 P Q R S)):=kc {a,b,d,e}
def rule(k:Int):Int:=7*k*k+10*k+3
def fG:List D->R D
 |[d]=>.ok (.bl (a0m d))
 |_=>.bad
def P64:Int:=10^64
def P34:Int:=10^34
def b1e:Int:=P64*P34
def sgn(x:Int):Int:=if 0<x then 1 else if x<0 then-1 else 0
def bP:List D->R D:=v4 λa b c d=>v1 λx y z=>eV (if xy 50000000 a b c/\xy 50000000 x y z then .ok (.int (sgn<|a*x+b*y+c*z-d))else .bad)
def ZO(e:xy 50000000 a b c)(f:xy 50000000 x y z):bP [.tup [.int a,.int b,.int c,.int d],pt x y z]=.ok (.int (sgn (a*x+b*y+c*z-d))):=kc {e,f}
def vq(i:Nat)(ρ:Ev):Nat:=match ρ[i]? with
 |some (.v (.int b))=>b.natAbs+2
 |_=>0
def uG(d:bits a<=n)(f:bits b<=n):bits (aGQ a b)<=n:=by
 show KS ?_;have g:=KE f;have e:((aGQ a b:Nat):Int).natAbs=aGQ a b:=by simp
 rcases Nat.eq_zero_or_pos a.natAbs with z|z
 .simp_all
 show aCK (Nat.gcd_le_left _ z) (KE d)
end M
namespace DL
open PySem PySem.Spec L2
open PyProof.Rows hiding St
theorem R0:∀{ns:List Int}{a:List au},q9 (ns.map V.int) a->IntsAre a ns
 |[],_,.nil=>.nil
 |n::ns,_,.cons r t=>by let{b,rfl}:=r;show .cons n b (R0 t)
section
def NJ(j:X.calm=true):qR X (.builtin "sum") (λY H Q=>∃(p:ba) (ns:List Int),Y=[.ref p]/\L7 X.K H p (ns.map V.int)/\Q (.int ns.sum) H):=by
 intro f s w H Y x Q I r h;let{p,ns,rfl,k,q}:=h;let{u,rfl,l}:=vals1 r;cases l;let{a,m,n,y}:=I.list k;have g:=R0 m;let{b,e}:=g.allInts.items;have i:=n.isList;rw[e]at i;show sum_intListG (I.ok.hd j) i λz A o t=>?_;have v:preSum (ix b) b.size=ns.sum:=by have d:=nums_intItems b;rw[<-e]at d;rw[show a.toArray.toList=a from rfl,g.numsOf]at d;rw[preSum_eq,aBG (by simp),d]
 rw[v];show{.int ns.sum,H,I.kept t,{o,rfl},q}
def Y7:List D->Option (List Int)
 |[]=>some []
 |.int i::r=>(Y7 r).map (i::·)
 |_=>none
theorem Q7:∀{ds:List D}{ns:List Int},Y7 ds=some ns->ds=ns.map D.int
 |[],ns,h=>by cases h;rfl
 |.int i::r,ns,h=>by erw[Y7,aDp]at h;let{m,a,rfl}:=h;rw[Q7 a];rfl
 |.non::_,_,h=>by cases h
 |.bl _::_,_,h=>by cases h
 |.str _::_,_,h=>by cases h
 |.tup _::_,_,h=>by cases h
 |.lst _::_,_,h=>by cases h
 |.dct _::_,_,h=>by cases h
theorem lJ:∀ns:List Int,Y7 (ns.map D.int)=some ns
 |[]=>rfl
 |n::ns=>by simp[Y7,lJ ns]
theorem gQ{K:kn}{H:Hp}{O:ba->Prop}:∀{vs:List V}{ns:List Int},Reps K H O vs (ns.map D.int)->vs=ns.map V.int
 |[],[],_=>rfl
 |v::vs,n::ns,.cons h t=>by cases h;rw[gQ t];rfl
def aj:List D->R D
 |[.lst Y]=>match Y7 Y with
  |some a=>.ok (.int a.sum)
  |none=>.bad
 |_=>.bad
variable [Tabs]in
def QH(d:X.calm=true):bR X (.builtin "sum") aj:=by
 intro H O h f Q i r q;match f,q with
 |[.lst Y],q=>
  let{v,rfl,z}:=HE r;let{p,j,rfl,a,b}:=z.aa5;erw[aj]at q;cases e:Y7 Y with
  |none=>rw[e]at q;show q.elim
  |some g=>rw[e]at q;rw[Q7 e]at b;rw[gQ b]at a;show{_,NJ d,p,g,rfl,a,q _ H (Same.refl _) .int}
end
theorem xL(Iv:List D->Ev->Prop)(a:∀d ds ρ,Iv (d::ds) ρ->∃ρ2,Q0 G F d ρ=.ok (.nx ρ2)/\Iv ds ρ2):∀{ds:List D}{ρ:Ev},Iv ds ρ->∃ρ',S7 G F ds ρ=.ok (.nx ρ')/\Iv [] ρ'
 |[],ρ,h=>{ρ,rfl,h}
 |d::ds,ρ,h=>by
  let{ρ2,e,f}:=a d ds ρ h;let{ρ',g,i}:=xL Iv a f;unfold Q0 at e;cases b:G d ρ with
  |ok j=>rw[b]at e;show{ρ',by rw[S7,b];dsimp only at e⊢;rw[e];show g,i}
  |ex x=>lia
  |bad=>lia
def bH(Iv:List D->Ev->Prop)(a:∀d ds ρ,Iv (d::ds) ρ->∃ρ2,Q0 G F d ρ=.ok (.nx ρ2)/\Iv ds ρ2)(h0:Iv ds ρ)(b:∀ρ',Iv [] ρ'->G8 (f ρ')=.ok d):
  G8 (C1 (S7 G F ds ρ) f)=.ok d:=by
 let{ρ',e,h}:=xL Iv a h0;rw[e];show b ρ' h
def uF{Post:Ev->Prop}(Iv:Nat->Ev->Prop)(b:∀n ρ,Iv (n+1) ρ->c ρ=.ok false\/(c ρ=.ok true/\∃ρ2,F ρ=.ok (.nx ρ2)/\Iv n ρ2))(a:∀ρ,¬Iv 0 ρ)(h0:Iv n ρ)(d:∀m ρ',Iv m ρ'->c ρ'=.ok false->Post ρ'):∃ρ2,U1 c F n ρ=.ok (.nx ρ2)/\Post ρ2:=by let{m,ρ',e,h,f}:=jB Iv b a n ρ h0;show{ρ',e,d m ρ' h f}
end DL
namespace M
open PySem L2 DL
abbrev wO(n:G.V)(d:Int):D:=.tup [.int n.x,.int n.y,.int n.z,.int d]
def Sz3(P Q R:G.V):Prop:=Sz 1000 P/\Sz 1000 Q/\Sz 1000 R
open Classical in
def T7:List D->R D:=v1 λa b c=>v1 λd e f=>v1 λg h i=>eV (
 if Sz3 {a,b,c} {d,e,f} {g,h,i}/\G.cr (({d,e,f}:G.V)-{a,b,c}) (({g,h,i}:G.V)-{a,b,c})≠0 then .ok (wO (G.j6 {a,b,c} {d,e,f} {g,h,i}).1 (G.j6 {a,b,c} {d,e,f} {g,h,i}).2)else .bad)
def QY{P Q R:G.V}(h:Sz3 P Q R)(a:G.cr (Q-P) (R-P)≠0):T7 [vd P,vd Q,vd R]=.ok (wO (G.j6 P Q R).1 (G.j6 P Q R).2):=kc {h,a}
def LU(h:Sz n v):bits (G.C5 v:Nat)<=n:=by
 have e:((G.C5 v:Nat):Int)=aGQ (aGQ v.x v.y:Nat) v.z:=by simp[G.C5,aGQ]
 show uG (uG h.1 h.2.1) h.2.2
def sS{a g:Int}(h:0<g):a.fdiv g=a/g:=by lia
end M
namespace DL
open PySem PySem.Spec L2
open PyProof.Rows hiding St
variable [Tabs]
mutual
inductive HV(h:Heap):Value->D->Prop
 |int (i:Int) (t:Tok):HV h (.int i t) (.int i)
 |tup {a:Addr}{items:Array Value}{ds:List D} (p:IsTup h a items) (r:HVs h items.toList ds):HV h (.ref a) (.tup ds)
inductive HVs(h:Heap):List Value->List D->Prop
 |nil:HVs h [] []
 |cons {v:Value}{d:D}{vs:List Value}{ds:List D} (r:HV h v d) (t:HVs h vs ds):HVs h (v::vs) (d::ds)
end
mutual
def mD:D->Bool
 |.int _=>true
 |.tup Y=>bL Y
 |_=>false
def bL:List D->Bool
 |[]=>true
 |x::Y=>mD x&&bL Y
end
theorem jD:∀Y:List D,zU Y=Y.map t5
 |[]=>rfl
 |x::Y=>by rw[zU,jD Y];rfl
section
mutual
theorem HV.keeps(k:∀b o,h.get? b=some o->o.cls=.type "tuple"->h'.get? b=some o):∀{v:au}{d:D},HV h v d->HV h' v d
 |_,_,.int i t=>.int i t
 |_,_,.tup p r=>.tup (by let{o,e,c,n,d}:=p;show{o,k _ _ e c,c,n,d}) (HVs.keeps k r)
theorem HVs.keeps(k:∀b o,h.get? b=some o->o.cls=.type "tuple"->h'.get? b=some o):∀{v:List au}{d:List D},HVs h v d->HVs h' v d
 |_,_,.nil=>.nil
 |_,_,.cons r t=>.cons (HV.keeps k r) (HVs.keeps k t)
end
mutual
theorem HV.inj:∀{v:au}{d d':D},HV h v d->HV h v d'->d=d'
 |_,_,_,.int i t,.int _ _=>rfl
 |_,_,_,.tup p r,.tup f g=>by let{o,e,c,n,j}:=p;let{k,a,l,m,b}:=f;rw[e]at a;cases a;rw[j]at b;injection b with q _;subst q;rw[HVs.inj r g]
theorem HVs.inj:∀{v:List au}{d d':List D},HVs h v d->HVs h v d'->d=d'
 |_,_,_,.nil,.nil=>rfl
 |_,_,_,.cons r t,.cons a b=>by rw[HV.inj r a,HVs.inj t b]
end
theorem HVs.length:∀{v:List au}{d:List D},HVs h v d->v.length=d.length
 |_,_,.nil=>rfl
 |_,_,.cons _ t=>by simp[HVs.length t]
end
section
variable{prog:be}{w:cf}
def PH(prog:be)(w:cf)(h:ck)(v:au)(d:D):Prop:=∀(A:bM) (E:B6) (s:aL) (Q:Int->aL->Prop),s.heap=h->A.units+8*D4 d<cu->(∀a,s.toks<=a->Q (t5 d) {s with toks:=a})->bb (bc prog w) A (pyHash v) Q E s
mutual
theorem tq:∀{v:au}{d:D},HV h v d->PH prog w h v d
 |_,_,.int i t=>λA E s Q J L q=>by show(intKind prog w).pyHash (k:=i) (intKind_is _ _ _ _) (q _<|Nat.le_succ _)
 |_,_,.tup (a:=a) (items:=items) (ds:=ds) p r=>λA E s Q J L q=>by
  have fs:=TY r;subst J;let{o,N,T,n,U}:=p;have u:s.TypeIs (.ref a) "tuple":={o,N,T};have C:A.units<cu:=by lia
  rw[D4]at L;unfold pyHash;first|unfold pyHashByItsType|skip
  first|show aAa (wpAny_cRoomFor_or (.inr C) ?_)|skip
  show aAa (aBt u PySem.F.slot_tuple_hash.lookup ?_);change bb _ _ (if(some (Value.builtin "tuple.__hash__")==some Value.none)=true then _ else _) Q E s;rw[kd (by rw[beq_builtin_none];show aBF)];show aAa (aBt u PySem.F.slot_tuple_hash.lookup ?_);change bb _ _ (callSpecialIfBoundUnlessNone? (.ref a) "__hash__" _>>=_) Q E s;show aAa (aDz u PySem.F.slot_tuple_hash<|aAF PySem.F.slot_tuple_hash u PySem.F.entry_tuple_hash ?_ (PySem.F.args_tuple_hash_1 _));change bb _ _ (aDL (.ref a)>>=_) _ _ s;show aAa (wpAny_tupleItemsOf N U ?_);show aAa ?_;rw[<-aCl];show aCq _
   (λrest (b:Array Int) H=>∃done left g,ds=done++left/\Paired (PH prog w s.heap) rest left/\b.toList=done.map t5/\s.toks<=g/\H={s with toks:=g})
   _ ?_ ?_ _ _ {[],ds,s.toks,rfl,fs,rfl,aAh _,rfl}
  .rintro x rest b H ⟨done,left,g,l,I,y,Y,rfl⟩;cases I with
   |@cons _ d _ e h1 O=>
    show aAa (h1 _ _ _ _ rfl ?_ λz f=>?_)
    .have:D4 d<=y8 ds:=by rw[l];show qF (j:=done.length) (by simp)
     rw[w6];lia
    first
     |show aAc ⟨done++[d],e,z,by simp[l],O,by simp[y],by(have:g<=z:=f);lia,rfl⟩
     |show aAa (aAc (aAc ⟨done++[d],e,z,by simp[l],O,by simp[y],by(have:g<=z:=f;lia),rfl⟩))
  rintro b H ⟨done,left,g,l,I,y,Y,rfl⟩;cases I;rw[aBU]at l;subst l;change bb _ _ (retInt<|aAM b.toList) _ _ _;rw[y];show wpAny_ret_mkInt ?_;change bb _ _ (if(decide (-(2:Int)^63<=aAM (ds.map t5))&&decide (aAM (ds.map t5)<2^63))=true then _ else _) Q E _;have m:=q (g+1) (by lia);rw[t5,jD]at m;unfold reduceHash at m;by_cases B:(decide (-(2:Int)^63<=aAM (ds.map t5))&&decide (aAM (ds.map t5)<2^63))=true
  .rw[kc B];rw[kc B]at m;show aAc m
  rw[kd B];rw[kd B]at m;show aAa (aCx<|aAc m)
theorem TY:∀{v:List au}{d:List D},HVs h v d->Paired (PH prog w h) v d
 |_,_,.nil=>.nil
 |_,_,.cons r t=>.cons (tq r) (TY t)
end
mutual
theorem LG:∀{v u:au}{d e:D}{A:bM},HV s.heap v d->HV s.heap u e->A.units+D4 d<cu->SeqAt.EqAt A s v u (x8 d e)
 |_,_,_,_,A,.int i t,.int j h,_=>by erw[x8];show aFr _ _ _ _
 |_,_,_,_,A,.int i t,.tup p r,b=>by erw[x8];show aGp _ _ p (by lia)
 |_,_,_,_,A,.tup p r,.int j h,b=>by erw[x8];show aGq _ _ p (by lia)
 |_,_,_,_,A,.tup (a:=a) (ds:=ds) p r,.tup (a:=k) (ds:=l) g f,b=>by
  by_cases e:a=k
  .subst e;have:=HV.inj (.tup p r) (.tup g f);rw[this,O5];show aEh _
  erw[x8];rw[D4]at b;show aFs e (nM (by simpa using p) (by simpa using g) r.length f.length (by lia) (WI r f (by rw[w6];lia))).1
theorem WI:∀{vs e:List au}{ds es:List D}{A:bM},HVs s.heap vs ds->HVs s.heap e es->A.in1.units+y8 ds<cu->pZ A s vs e ds es
 |_,_,_,_,A,.nil,_,_=>λj u w a b=>by simp at a
 |_,_,_,_,A,.cons r t,.nil,_=>λj u w a b=>by simp at b
 |_,_,_,_,A,.cons (d:=d) (ds:=ds) r t,.cons (d:=i) (ds:=k) f g,h=>λj u w a b=>by
  rw[y8]at h;match j,a,b with
  |0,a,b=>erw[aDg,aGF]at a b;subst a b;show LG r f (by lia)
  |j+1,a,b=>erw[aFQ]at a b;show WI t g (by lia) j u w a b
end
mutual
theorem cJ:∀{d e:D},mD d=true->mD e=true->x8 d e=true->d=e
 |.int i,.int j,_,_,h=>by simp[x8]at h;rw[h]
 |.tup Y,.tup f,a,b,h=>by rw[mD]at a b;rw[x8]at h;rw[AO a b h]
 |.int _,.tup _,_,_,h=>by simp[x8]at h
 |.tup _,.int _,_,_,h=>by simp[x8]at h
 |.non,_,h,_,_=>by simp[mD]at h
 |.bl _,_,h,_,_=>by simp[mD]at h
 |.str _,_,h,_,_=>by simp[mD]at h
 |.lst _,_,h,_,_=>by simp[mD]at h
 |_,.non,_,h,_=>by simp[mD]at h
 |_,.bl _,_,h,_=>by simp[mD]at h
 |_,.str _,_,h,_=>by simp[mD]at h
 |_,.lst _,_,h,_=>by simp[mD]at h
theorem AO:∀{d e:List D},bL d=true->bL e=true->bE d e=true->d=e
 |[],[],_,_,_=>rfl
 |[],_::_,_,_,h=>by simp[bE]at h
 |_::_,[],_,_,h=>by simp[bE]at h
 |x::Y,y::f,a,b,h=>by rw[bL,aAP]at a b;rw[bE,aAP]at h;rw[cJ a.1 b.1 h.1,AO a.2 b.2 h.2]
end
mutual
theorem HV.ok:∀{v:au}{d:D},HV h v d->mD d=true
 |_,_,.int i t=>rfl
 |_,_,.tup p r=>by rw[mD];show HVs.ok r
theorem HVs.ok:∀{v:List au}{d:List D},HVs h v d->bL d=true
 |_,_,.nil=>rfl
 |_,_,.cons r t=>by rw[bL,HV.ok r,HVs.ok t];rfl
end
mutual
theorem jX:∀{v:au}{d:D} (k:Nat),HV h v d->D4 d<k->∀(M:Model) (A:bM) (E:B6) (s:aL) (Q:CD),s.heap=h->Q true s->bb M A (eqIsQuiet k v) Q E s
 |_,_,k,.int i t,_=>λM A E s Q m q=>by unfold eqIsQuiet;show aAc q
 |_,_,k,.tup (a:=a) (items:=items) (ds:=ds) p r,e=>λM A E s Q m q=>by
  subst m;let{o,u,y,n,z}:=p;have x:s.TypeIs (.ref a) "tuple":={o,u,y};match k,e with
  |k+1,e=>
   rw[D4]at e;unfold eqIsQuiet;show aAa (aBt x PySem.F.slot_tuple_eq.lookup ?_);change bb _ _ (isInstance (.ref a) (.type "tuple")>>=_) _ _ s;show aAa (aCp x isSubtype_tuple_tuple ?_);erw[aEO,aAC,if_false];show aAa (aAV u z ?_);show aAa ?_;change bb _ _ (forIn items _ _) _ _ s;rw[<-aCl];show aCq _ (λrest r b=>r.1=none/\b=s/\∃f,HVs s.heap rest f/\y8 f<k) _ ?_ ?_ _ _ {rfl,rfl,ds,r,by lia}
   .rintro v rest r b ⟨g,rfl,f,j,l⟩;cases j with
    |@cons _ d _ B j C=>rw[y8]at l;show aAa (jX k j (by lia) M A E b _ rfl ?_);erw[aEO,aAC,if_false];show aAc {rfl,rfl,B,C,by lia}
   rintro⟨H,I⟩ b ⟨g,rfl,_⟩;simp only at g;subst g;show aAc q
end
mutual
theorem jM:∀{v:au}{d:D} (k:Nat),HV h v d->D4 d<k->∀(M:Model) (A:bM) (E:B6) (s:aL) (Q:CD),s.heap=h->Q false s->bb M A (ofAClassStatement k v) Q E s
 |_,_,k,.int i t,_=>λM A E s Q m q=>by unfold ofAClassStatement;show aAc q
 |_,_,k,.tup (a:=a) (items:=items) (ds:=ds) p r,e=>λM A E s Q m q=>by
  subst m;let{o,u,x,n,y}:=p;have z:s.TypeIs (.ref a) "tuple":={o,u,x};match k,e with
  |k+1,e=>
   rw[D4]at e;unfold ofAClassStatement;show aAa (aDe z ?_);dsimp only;rw[kc (by decide)];show aAa (aAc ?_);erw[aEO,aAC,if_false];show aAa (aAV u y ?_);dsimp only;show aAa ?_;change bb _ _ (forIn items _ _) _ _ s;rw[<-aCl];show aCq _ (λrest r b=>r.1=none/\b=s/\∃f,HVs s.heap rest f/\y8 f<k) _ ?_ ?_ _ _ {rfl,rfl,ds,r,by lia}
   .rintro v rest r b ⟨g,rfl,f,j,l⟩;cases j with
    |@cons _ d _ B j C=>rw[y8]at l;show aAa (jM k j (by lia) M A E b _ rfl ?_);erw[aAC,if_false];show aAc {rfl,rfl,B,C,by lia}
   rintro⟨H,I⟩ b ⟨g,rfl,_⟩;simp only at g;subst g;show aAc q
end
mutual
theorem qU:∀{v:au}{d:D} (k:Nat),HV h v d->D4 d<k->∀(M:Model) (A:bM) (E:B6) (s:aL) (Q:CD),s.heap=h->Q true s->bb M A (hashByValue k v) Q E s
 |_,_,k,.int i t,_=>λM A E s Q m q=>by unfold hashByValue;show aAc q
 |_,_,k,.tup (a:=a) (items:=items) (ds:=ds) p r,e=>λM A E s Q m q=>by
  subst m;let{o,u,x,n,y}:=p;have z:s.TypeIs (.ref a) "tuple":={o,u,x};match k,e with
  |k+1,e=>
   rw[D4]at e;unfold hashByValue;show aAa (aBt z PySem.F.slot_tuple_hash.lookup ?_);dsimp only;show aAa (aAV u y ?_);show aAa ?_;change bb _ _ (forIn items _ _) _ _ s;rw[<-aCl];show aCq _ (λrest r b=>r.1=none/\b=s/\∃f,HVs s.heap rest f/\y8 f<k) _ ?_ ?_ _ _ {rfl,rfl,ds,r,by lia}
   .rintro v rest r b ⟨g,rfl,f,j,l⟩;cases j with
    |@cons _ d _ B j C=>rw[y8]at l;show aAa (qU k j (by lia) M A E b _ rfl ?_);erw[aEO,aAC,if_false];show aAc {rfl,rfl,B,C,by lia}
   rintro⟨H,I⟩ b ⟨g,rfl,_⟩;simp only at g;subst g;show aAc q
end
def lY{d:Type}{M:Model}{A:bM}{E:B6}{s:aL}{Q:d->aL->Prop}{c:Prop}[Decidable c]{a b:Sem d}(e:c->bb M A a Q E s)(f:¬c->bb M A b Q E s):bb M A (if c then a else b) Q E s:=by lia
def a0j{M:Model}{A:bM}{E:B6}{s:aL}{Q:CD}{x:au}{d:D}(k:HV s.heap x d)(l:D4 d<8)(f:List au)(n:∀y∈f,∃e,HV s.heap y e/\D4 e<8)(q:Q false s):bb M A (searchCouldBeSeen x f) Q E s:=by
 unfold searchCouldBeSeen;show aAa (aCq _ (λrest r a=>r.1=none/\a=s/\∀y∈rest,y∈f) _ ?_ ?_ _ _ {rfl,rfl,λy h=>h})
 .rintro y rest r a ⟨g,rfl,i⟩;let{e,m,b}:=n y (i y (by simp));dsimp only;show lY (λ_=>?_) (λ_=>?_)
  .show aAc {rfl,rfl,λz j=>i z (aAe _ j)}
  show aAa (jX 8 k l M A E a _ rfl ?_);show aAa (jX 8 m b M A E a _ rfl ?_);show aAa (jM 8 k l M A E a _ rfl ?_);erw[aAC,if_false];show aAa (jM 8 m b M A E a _ rfl ?_);erw[aAC,if_false];show aAc {rfl,rfl,λz j=>i z (aAe _ j)}
 rintro⟨o,p⟩ a ⟨g,rfl,_⟩;simp only at g;subst g;show aAc q
end
def EV(h:ck)(e:Int×au)(d:D):Prop:=HV h e.2 d/\e.1=t5 d
theorem J0{d β:Type}{F:d->β->Prop}:∀{l:List d}{m:List β}{i:Nat}{a:d},Paired F l m->l[i]?=some a->∃b,m[i]?=some b/\F a b
 |_,_,_,_,.nil,h=>by simp at h
 |_,_,0,_,.cons r _,h=>by simp_all
 |_,_,i+1,a,.cons _ t,h=>by let{b,e,f}:=J0 t (by simpa using h);grind
theorem fQ{d β:Type}{F:d->β->Prop}:∀{l:List d}{m:List β}{i:Nat}{b:β},Paired F l m->m[i]?=some b->∃a,l[i]?=some a/\F a b
 |_,_,_,_,.nil,h=>by simp at h
 |_,_,0,_,.cons r _,h=>by simp_all
 |_,_,i+1,a,.cons _ t,h=>by let{b,e,f}:=fQ t (by simpa using h);grind
theorem jI{a β:Type}{F:a->β->Prop}:∀{l:List a}{m:List β},Paired F l m->l.length=m.length
 |_,_,.nil=>rfl
 |_,_,.cons _ t=>by simp[jI t]
section
variable{es:Array (Int×au)}
def lG(K:ST.SOk t es.toList):t.fits es.size=true:=by
 have a:=K.len;have b:=K.room;have d:=K.tab.nod;unfold aGC SetTable.fill
 simp_all
theorem pC(ho:s.heap.get? S=some o)(hd:o.data=.set es ep t)(K:ST.SOk t es.toList)(B:t.mask%2=1)(P:Paired (EV s.heap) es.toList ds)(O:HV s.heap (.ref x) (.tup Y))(C:D4 (.tup Y)<8)(hds:∀e∈ds,D4 e<8)(hT:∀e∈ds,∃H,e=.tup H)
  (hu:A.units+16<cu) (hf:ST.X0 t (t5 (.tup Y)) n0) {Q:SetFound->aL->Prop} (g:D.tup Y∈ds->Q (.there none) s) (b:D.tup Y∉ds->Q (.free (ST.o6 t.mask (t5 (.tup Y)) n0).j false) s):
  ∀(a n:Nat) (T:Option SetTable.Probe),T.getD (t.probeStart (t5 (.tup Y)))=ST.o6 t.mask (t5 (.tup Y)) n->n<=n0->n0-n<a->
   (∀m<n,∀(i:Nat),t.place[i]?=some (ST.o6 t.mask (t5 (.tup Y)) m).j->ds[i]?≠some (.tup Y))->bb (bc prog w) A (setSearchFrom S (.ref x) (t5 (.tup Y)) true a T) Q E s
 |0,n,T,_,_,h,_=>by lia
 |a+1,n,T,jm,hn,hfu,I=>by
  unfold setSearchFrom;show aAa (aCe ho hd (lG K) ?_);dsimp only;show lY (λz=>?_) (λ_=>?_)
  .unfold SetTable.gaveWay at z;simp at z;lia
  rw[jm];let{U,a1,a2,a3,a4}:=ST.TN K.tab (λi=>(es[i]?.map (·.1)).getD 0) (t5<|.tup Y) hf n hn;generalize hg:t.probe _ (t5<|.tup Y) (ST.o6 t.mask (t5<|.tup Y) n)=pm;rcases a4 with⟨en,e⟩|⟨ao,i,u,hh,e⟩
  .have ep:pm=_:=hg.symm.trans e;rw[ep];dsimp only;show aAc (b λJ=>?_);let{i,u}:=aBO.mp J;let{{L,v},he,h1,h2}:=fQ P u;let{j,hj,qu}:=ST.ZZ K.len he;dsimp only at h2;have hr:=K.reach _ qu;dsimp only at hr;rw[h2]at hr;let{m,J,em}:=ST.Reach.before hf (by grind) hr;by_cases z:m<n
   .show I m z i (by rw[em];show hj) u
   let{f,ic,ai}:=a3 m (by lia) (by lia);have:f=i:=by have g:=ST.M7 K.tab ic;have b:=ST.M7 K.tab hj;grind
   subst this;grind
  have ep:pm=_:=hg.symm.trans e;rw[ep];dsimp only;have N:i<es.size:=by
   have:=(aCb.mp u).1;have h1:=K.len;simp at h1
   lia
  have l:es[i]?=some es[i]:=aAr N;let{di,d,L,q}:=J0 P (show es.toList[i]?=some es[i]by rw[aAJ];show l);let{H,rfl}:=hT di (aAu d);have go:bb (bc prog w) A (do
    let some (_,y):=es[i]?|unsupported "internal:set-entry"
    let equal<-gn [y] (eqBool y<|.ref x)
    let(es',_,t')<-setState S
    if true&&equal then return .there none
    let some same:=t'.sameMemory t.moves t.mask|unsupported "set.changed-during-lookup:is-the-new-block-at-the-old-address"
    let yw<-match(if same then t'.slot (ST.o6 t.mask (t5<|.tup Y) U).j else .empty)with
     |.live f=>match es'[f]? with
      |some (_,y')=>do pure (if<-isSame y' y then some f else none)
      |none=>pure none
     |_=>pure none
    match yw with
    |none=>rule "set.search.anew";setSearchFrom S (.ref x) (t5<|.tup Y) true a none
    |some f=>if equal then return .there (some f)else setSearchFrom S (.ref x) (t5<|.tup Y) true a (some<|ST.o6 t.mask (t5<|.tup Y)<|U+1)) Q E s:=by
   rw[l];generalize he:es[i]=en at*
   let{hn,y}:=en;dsimp only at L q⊢;show aAa (aAG (LG L O (by grind) prog w E _<|aAa<|aCe ho hd (lG K) ?_));dsimp only;cases hq:x8 (.tup H) (.tup Y)with
   |true=>rw[kc (show(true&&true)=true from rfl)];have:D.tup H=.tup Y:=cJ L.ok O.ok hq;rw[this]at d;show aAc (g<|aAu d)
   |false=>
    rw[kd (by simp)];have hsm:t.sameMemory t.moves t.mask=some true:=by unfold SetTable.sameMemory;rw[kc (by simp)]
    rw[hsm];dsimp only;rw[kc rfl,ST.M7 K.tab u];dsimp only;rw[l];dsimp only;cases L with
    |tup p r=>
     show aAa (wpAny_isSame_ref_self<|aAa<|aAc ?_);rw[kc rfl];dsimp only;rw[kd (by simp)];show pC ho hd K B P O C hds hT hu hf g b a (U+1) _ rfl (by lia) (by lia) λm J i2 vm hz=>?_;by_cases z:m<n
     .show I m z i2 vm hz
     by_cases z2:m=U
     .subst z2;have:i2=i:=by have g:=ST.M7 K.tab vm;have b:=ST.M7 K.tab u;rw[g]at b;injection b
      subst this;rw[d]at hz;have:D.tup H=.tup Y:=Option.some.inj hz;rw[this,O5]at hq;cases hq
     let{f,ic,ai}:=a3 m (by lia) (by lia);have:f=i2:=by have g:=ST.M7 K.tab ic;have b:=ST.M7 K.tab vm;rw[g]at b;injection b
     subst this;let{{h0,v0},he0,hv0,hh0}:=fQ P hz;grind
  show lY (λ_=>(aAa<|a0j O C _ (λy hy=>?_) ?_)) (λ_=>go)
  .let{e',uh,rfl}:=aAj.mp hy;rw[Array.toList_filter]at uh;have J:=(aCh.mp uh).1;let{k,hk}:=aBO.mp J;let{dk,hdk,hvk,_}:=J0 P hk;grind
  rw[kd (by simp)];show go
def yB(m n:Nat):Prop:=(m=7/\n<=4)\/(m=31/\n<=18)\/(m=127/\n<=76)
def yB.odd(h:yB m n):m%2=1:=by rcases h with⟨rfl,_⟩|⟨rfl,_⟩|⟨rfl,_⟩<;>rfl
def Keeps(h0 h:ck):Prop:=∀b o,h0.get? b=some o->h.get? b=some o
structure SetAt(L:Bool)(h0 h:Heap)(S:Addr)(ds:List D):Prop where
 ex:∃(o:Obj) (es:Array (Int×Value)) (ep:Nat) (t:SetTable),h.get? S=some o/\o.cls=.type "set"/\o.dict=none/\o.slots=#[]/\o.data=.set es ep t/\ST.SOk t es.toList/\yB t.mask es.size/\Paired (EV h0) es.toList ds/\t.led=L/\t.plain=true
 nd:ds.Nodup
def fX{f β:Type}{F:f->β->Prop}:∀{l b:List f}{m:List β},b.Perm l->Paired F l m->∃a,a.Perm m/\Paired F b a:=λ{l b m} p=>by
 induction p generalizing m with
 |nil=>intro h;show{m,.refl _,h}
 |cons x _ g=>
  intro h;cases h with
  |cons r t=>let{a,i,j}:=g t;show{_::a,i.cons _,.cons r j}
 |swap x y l=>
  intro h;cases h with
  |cons r t=>
   cases t with
   |cons k n=>show{_,.swap _ _ _,.cons k (.cons r n)}
 |trans _ _ d e=>intro h;let{w,o,q}:=e h;let{s,u,v}:=d q;show{s,u.trans o,v}
theorem gD{d β:Type}{F G:d->β->Prop}(i:∀a b,F a b->G a b):∀{l:List d}{m:List β},Paired F l m->Paired G l m
 |_,_,.nil=>.nil
 |_,_,.cons r t=>.cons (i _ _ r) (gD i t)
theorem qW{d β:Type}{F:d->β->Prop}{a:d}{b:β}(r:F a b):∀{l:List d}{m:List β} (p:Nat),Paired F l m->Paired F (l.take p++a::l.drop p) (m.take p++b::m.drop p)
 |_,_,0,h=>.cons r h
 |_,_,p+1,.nil=>.cons r .nil
 |_,_,p+1,.cons e t=>.cons e (qW r p t)
def SS{b:Type}(a:b)(l:List b)(p:Nat):(l.take p++a::l.drop p).Perm (a::l):=by
 have h:=List.perm_middle (a:=a) (l₁:=l.take p) (l₂:=l.drop p)
 simp_all
def DG{d β:Type}{M:Model}{Q:d->aL->Prop}{c:Prop}[Decidable c]{a:Sem β}{k:β->Sem d}(b:β)(f:∀e:β->aL->Prop,e b s->bb M A a e E s)(h:bb M A (k b) Q E s):bb M A (if c then a>>=k else pure b>>=k) Q E s:=
 lY (λ_=>aAa (f _ h)) (λ_=>aAa (aAc h))
def oV(h:ck)(S:ba)(f:Obj->Obj):Heap.SameBut S h (h.update S f):={by simp,λb a=>aAD _ _ (aCF a)}
def xN{h:ck}{S:ba}{o:Obj}{es es':Array (Int×au)}{ep:Nat}{t t':fb}(a:h.get? S=some o)(b:o.data=.set es ep t):(h.update S (aGl es' t')).get? S=some {o with data:=.set es' (ep+1) t'}:=by
 have e:aGl es' t' o={o with data:=.set es' (ep+1) t'}:=by let{c,d,f,g}:=o;let{rfl,rfl,rfl}:=b;rfl
 rw[aAZ _ a (by rw[e];rfl),e]
def a0y{L:Bool}{h0:ck}{Q:CD}(hS:SetAt L h0 s.heap S ds)(kp:Keeps h0 s.heap)(C:HV h0 (.ref x) (.tup Y))(H:D4 (.tup Y)<8)(hds:∀e∈ds,D4 e<8)(hT:∀e∈ds,∃ys,e=.tup ys)(hu:A.units+128<cu)(hn:ds.length<76)
  (q1:D.tup Y∈ds->∀tk,s.toks<=tk->Q false {s with toks:=tk})
  (q2:D.tup Y∉ds->∀h' tk bu,s.toks<=tk->Heap.SameBut S s.heap h'->SetAt L h0 h' S bu->bu.Perm (.tup Y::ds)->Q true {s with heap:=h',toks:=tk}):bb (bc prog w) A (setAdd S (.ref x)) Q E s:=by
 let{{o,es,ep,t,I,hc,n,J,N,K,mk,P0,lp0},nd}:=hS;have hx:HV s.heap (.ref x) (.tup Y):=C.keeps λb o e _=>kp b o e;have P:Paired (EV s.heap) es.toList ds:=gD (λe d r=>{r.1.keeps λb o e _=>kp b o e,r.2}) P0;have fm:es.size=ds.length:=by have:=jI P;simpa using this
 unfold setAdd;show aAG (aAa (tq hx A E s _ rfl (by lia) λtk xh=>?_));unfold setAddHashed setAddHashedIn;show aAG (aAa<|aCe (s:={s with toks:=tk}) I N (lG K) ?_);dsimp only;rw[show byScan (.ref x) es=false from rfl];erw[aAC,if_false];let{n0,hf}:=ST.FD K.full K.room (t5<|.tup Y);show aAa (pC (s:={s with toks:=tk}) (n0:=n0) I N K mk.odd P hx H hds hT (by lia) hf (λp=>?_) (λp=>?_) 100000 0 none rfl (aAQ _) ?_ (λm p=>by lia))
 .dsimp only;show aAc (q1 p tk xh)
 .dsimp only;show aAa (aCe (s:={s with toks:=tk}) I N (lG K) ?_);dsimp only;show DG true (λQ' q=>qU 8 hx H _ _ _ _ _ rfl q) ?_;rw[kc rfl];have pg:t.place.size+1<=t.mask:=by have:=K.len;simp at this;rcases mk with⟨a,k⟩|⟨a,k⟩|⟨a,k⟩<;>lia
  have u:=ST.a3p K (x:=.ref x) hf pg;have el:=ST.iJ es (t.put (ST.o6 t.mask (t5<|.tup Y) n0).j).2 (t5 (.tup Y),aCL x);have lp:(t.put (ST.o6 t.mask (t5<|.tup Y) n0).j).1.led=L/\(t.put (ST.o6 t.mask (t5<|.tup Y) n0).j).1.plain=true:=lp0;have em:(t.put (ST.o6 t.mask (t5<|.tup Y) n0).j).1.mask=t.mask:=rfl;rw[<-el]at u;have O:Paired (EV h0) (aGI es (t.put (ST.o6 t.mask (t5<|.tup Y) n0).j).2 (t5 (.tup Y),aCL x)).toList (ds.take (t.put (ST.o6 t.mask (t5<|.tup Y) n0).j).2++.tup Y::ds.drop (t.put (ST.o6 t.mask (t5<|.tup Y) n0).j).2):=by rw[el];show qW {C,rfl} _ P0
  have T:=SS (D.tup Y) ds (t.put (ST.o6 t.mask (t5<|.tup Y) n0).j).2;generalize hds2:ds.take (t.put (ST.o6 t.mask (t5<|.tup Y) n0).j).2++.tup Y::ds.drop (t.put (ST.o6 t.mask (t5<|.tup Y) n0).j).2=uf at O T;generalize hes2:aGI es (t.put (ST.o6 t.mask (t5<|.tup Y) n0).j).2 (t5 (.tup Y),aCL x)=h at u O⊢;generalize ht2:(t.put (ST.o6 t.mask (t5<|.tup Y) n0).j).1=g at u em lp⊢;have U:uf.Nodup:=T.nodup_iff.mpr (aAY.mpr {p,nd});have i:h.size=es.size+1:=by
   have h1:=jI O;have h2:=T.length_eq;simp at h1 h2
   lia
  have bp:h.size<=sizeLine:=by rw[i,aFN];lia
  show aAa (wpAny_storeSet_of (s:={s with toks:=tk}) I N ?_ bp);have la:=xN (es':=h) (t':=g) I N;have sb2:=oV s.heap S (aGl h g);have l:g.fill=h.size:=by have h1:=u.len;have h2:=u.tab.nod;unfold SetTable.fill;rw[h2];simp at h1⊢;lia
  show lY (λxi=>?_) (λxi=>?_)
  .
   have rh:g.fill*5>=g.mask*3:=by
    have:g.tooFull=true:=by simpa using xi
    simpa[aGO]using this
   rw[l,em,i]at rh;obtain⟨M,hM,hM1,v⟩:∃M,SetTable.sizeAbove (SetTable.grown<|es.size+1)=M+1/\ST.pE (M+1)/\yB M (es.size+1):=by
    rcases mk with⟨a,k⟩|⟨a,k⟩|⟨a,k⟩
    .have:es.size=4:=by lia
     rw[this];show{31,by decide,ST.a3m,.inr (.inl {rfl,by lia})}
    .have:es.size=18:=by lia
     rw[this];show{127,by decide,ST.bq,.inr (.inr {rfl,by lia})}
    lia
   unfold setRelay;show aAa (aAa<|aCe la rfl (lG u) ?_);dsimp only;rw[hM];show lY (λz=>?_) (λ_=>?_)
   .exfalso;rcases v with⟨a,_⟩|⟨a,_⟩|⟨a,_⟩<;>(subst a;show absurd z (by rw[aFN];decide))
   let{B,f,r1,r2,r3,r4,r5,r6,r7,r8,r9}:=ST.PY (finger:=g.finger) (moves:=g.movedTo M) (led:=g.led) (plain:=g.plain) hM1 h (by rw[i];rcases v with⟨a,k⟩|⟨a,k⟩|⟨a,k⟩<;>lia);have er:g.relaid (h.map (·.1)) (SetTable.grown<|es.size+1)=some (B,f):=by unfold SetTable.relaid;rw[hM];show r1
   rw[er];have hre:∀{Q':Array (Int×au)×fb->aL->Prop}{s':aL},Q' (f.filterMap (h[·]?),B) s'->bb (bc prog w) A (do
     let es':=f.filterMap (h[·]?)
     if es'.size !=h.size then unsupported "internal:set-table-lost-an-element"
     pure (es',B)) Q' E s':=λ{Q' s'} qq=>by
    dsimp only;rw[kd (by simp[r2])];show aAc qq
   show aAa (hre ?_);dsimp only;generalize hes3:f.filterMap (h[·]?)=y at r2 r3 r4⊢;show wpAny_storeSet_of la rfl (aAc ?_) (by rw[r2];show bp);have ho3:=xN (es':=y) (t':=B) la rfl;have sb3:=oV (s.heap.update S<|aGl h g) S (aGl y B);let{ds3,p3,P5}:=fX r3 O;show q2 p _ tk ds3 xh (sb2.trans sb3) {{_,y,_,B,ho3,hc,n,J,rfl,r4,by rw[r5,r2,i];show v,P5,by rw[r7];show lp.1,by rw[r8];show lp.2},p3.nodup_iff.mpr U} (p3.trans T)
  show aAc (q2 p _ tk uf xh sb2 {{_,h,_,g,la,hc,n,J,rfl,u,?_,O,lp},U} T);have rh:¬g.fill*5>=g.mask*3:=λz=>xi (by simp[aGO,z]);rw[l,em,i]at rh;rw[em,i];rcases mk with⟨a,k⟩|⟨a,k⟩|⟨a,k⟩
  .show .inl {a,by lia}
  .show .inr (.inl {a,by lia})
  show .inr (.inr {a,by lia})
 have:=hf.1;have p:t.mask<=127:=by rcases mk with⟨a,_⟩|⟨a,_⟩|⟨a,_⟩<;>lia
 lia
end
section
variable{prog:be}{w:cf}{A:bM}{R:Result->aL->Prop}{I:ba}{fp wr:List ba}{G:Array GenState->Array GenState->Prop}{n:Nat}{P:Nat->au->Prop}{St:Nat->aL->Prop}{h0:ck}
def a2z(h0:ck)(v:au)(d:D):Prop:=∃a Y,v=.ref a/\d=.tup Y/\D4 d<8/\HV h0 v d
def WA{L:Bool}(W:WalksS prog w A.in1 I fp wr G n P St)(S:ba)(ua:S∉fp)(J:h0.get? S=none)(N:∀b∈wr,h0.get? b=none)
  (val:Nat->D) (vp:∀i v,P i v->a2z h0 v (val i)) (ur:∀i<n,D4 (val i)<8/\∃O,val i=.tup O) {U:List D} (hU:∀i<n,val i∈U) (f:U.length<=75) (hu:A.units+200<cu):
  ∀(k i:Nat) (s:aL),n-i=k->i<=n->St i s->Keeps h0 s.heap->(∃ds,SetAt L h0 s.heap S ds/\∀d,d∈ds↔∃j<i,val j=d)->
   (∀s',Moved (S::wr) G s s'->(∃ds,SetAt L h0 s'.heap S ds/\∀d,d∈ds↔∃j<n,val j=d)->R (.ok (.ret .none)) s')->
   fo (bc prog w) A (.builtin "set.update.loop" {[.ref S,.ref I],[]}) R s:=by
 have u:S∉wr:=λh=>ua (W.sub _ h);have Q:∀b∈wr,b∈S::wr:=λb f=>aAe _ f;intro k;induction k with
 |zero=>
  intro i s hk hi T x hS C;have lb:i=n:=by omega
  subst lb;show aBl F.entry_set_update_loop ?_;rw[aBk F.plain_set_update_loop _];change bb _ A.in1 (fh (.ref I)>>=_) _ _ s;show aAa (W.done s _ _ T λs' l=>?_);change bb _ A.in1 (ret Value.none) _ _ s';show aAc (C s' (l.mono Q) ?_);let{ds,{{o,es,ep,t,ho,r},E},kg}:=hS;show{ds,{{o,es,ep,t,l.heap S _ u ho,r},E},kg}
 |succ k ih=>
  intro i s hk hi T x hS C;have ao:i<n:=by omega
  show aBl F.entry_set_update_loop ?_;rw[aBk F.plain_set_update_loop _];change bb _ A.in1 (fh (.ref I)>>=_) _ _ s;show aAa (W.item i s _ _ ao T λv s' hP lg l=>?_);let{ds,{{o,es,ep,t,ho,r},E},kg}:=hS;have jg:SetAt L h0 s'.heap S ds:={{o,es,ep,t,l.heap S _ u ho,r},E};have p:Keeps h0 s'.heap:=λb ob e=>l.heap b ob (λz=>by rw[N b z]at e;cases e) (x b ob e);let{a,Y,rfl,zb,y,hv}:=vp i v hP;rw[zb]at y hv;change bb _ A.in1 (gn [aCL a] (setAdd S<|.ref a)>>=_) _ _ s';have g:∀e∈ds,D4 e<8/\∃O,e=.tup O:=λe H=>by grind
  show aAa (aAG (a0y jg p hv y (λe H=>(g e H).1) (λe H=>(g e H).2) (by grind) (by letI:DecidableEq D:=λa b=>aBW _;have:=ST.R8 (m:=U) E (λd hd=>by let{j,hj,e}:=(kg d).mp hd;rw[<-e];show hU j (by omega));omega) (λlb tk B=>?_)<|λhni h' tk bu B hsb hS2 pm=>?_))
  .
   show aAc {aBz F.plain_set_update_loop _,ih (i+1) _ (by omega) ao (W.frame _ s' _ _ lg B λb f o e=>e) p {ds,jg,λd=>?_} λq nu yv=>?_}
   .grind
   show C q (aFR W.gtrans ((l.mono Q).then_heap B λb o f e=>e) nu) yv
  have hbS:=λb f=>hsb.2 b f;show aAc {aBz F.plain_set_update_loop _,ih (i+1) _ (by omega) ao (W.frame _ s' _ _ lg B λb f o e=>?_) (λb o e=>?_) {bu,hS2,λd=>?_} λq nu yv=>?_}
  .grind
  .change h'.get? b=some o;rw[hbS b (λz=>by subst z;rw[J]at e;cases e)];show p b o e
  .grind
  show C q (aFR W.gtrans ((l.mono Q).then_heap B λb o f e=>?_) nu) yv;grind
end
section
variable{prog:be}{w:cf}{A:bM}{E:B6}{s:aL}
abbrev pM(led:Bool):Obj:={cls:=.type "set",dict:=none,data:=.set #[] 0 (.fresh 0 0 led)}
def MB(h0 h:ck)(S:ba)(led:Bool)(e:h.get? S=some (pM led)):SetAt led h0 h S []:=by
 show{{_,#[],0,.fresh 0 0 led,e,rfl,rfl,rfl,rfl,{{λi k a=>?_,λj b=>?_,rfl},ST.a6g,rfl,?_,λe d=>?_},.inl {rfl,aAQ _},.nil,rfl,rfl},aCR}
 .show absurd a (by show¬i<0;omega)
 .show absurd b (by show¬j∈[];simp)
 .change 0<=7;omega
 show absurd d (by show¬e∈[];simp)
def CC(a:au){Q₁:B6}(h:Q₁ (.ref s.heap.objs.size) {s with heap:=s.heap.push (pM (!w.params.followText "set-order"))}):
  fo (bc prog w) A (.call (.builtin "set.__new__") {[.type "set",a],[]}) (wants Q₁ E) s:=by
 show codeAny_of_tree ?_;show aAa (aEV (F.newCall_set_1 a)<|aAc ⟨aBz F.plain_set_new _,aBl F.entry_set_new ?_⟩);rw[aBk F.plain_set_new _];unfold Builtin.«set.__new__» Builtin.Frozenset.newClass;have b:=sub_set_self;let{e,g,d,f,os}:=s;dsimp only
 wp_walk
 show aFW (aAc ?_);dsimp only;erw[newObj];show aAa (wpAny_alloc<|aAc<|aAc h)
def BP{h0:ck}(m:Keeps h0 s.heap){l:ba}{its:Array au}{val:Nat->D}{Q:B6}(hh:A.handled=none)(hl:s.heap.IsList l its)
  (vp:∀(i:Nat) (v:au),its[i]?=some v->a2z h0 v (val i)) (ur:∀i<its.size,D4 (val i)<8/\∃ys,val i=.tup ys) {U:List D} (hU:∀i<its.size,val i∈U) (g:U.length<=75) (hu:A.units+300<cu)
  (h:∀(h':ck) (tk:Nat) (ds:List D),SetAt (!w.params.followText "set-order") h0 h' s.heap.objs.size ds->(∀d,d∈ds↔∃j<its.size,val j=d)->Keeps s.heap h'->Q (.ref s.heap.objs.size) {s with heap:=h',toks:=tk}):
  bb (bc prog w) A (call (.type "set") [.ref l]) Q E s:=by
 let{c,tl,O}:=PySem.F.called_set.mro;have B:=PySem.F.called_set.made;have jn:=PySem.F.called_set.sub;show wpAny_call (codeAny_of_tree ?_);change bb _ _ (callAny (.type "set") _) _ _ _;show aAc {Code.quiet_builtin _ (by decide+kernel),aBl PySem.F.entry_type_call ?_};rw[Around.under_plain (weight_type_call_type "set" [.ref l] []) rfl];have h1:=PySem.F.called_set.notType;have h2:=PySem.F.called_set.canCreate;have hct:=PySem.F.typeCall_set_1 (.ref l);repeat(any_goals(first|assumption|wp_step))
 show aDY (CC (.ref l) (E:=E) (Q₁:=λT Y=>∃led:Bool,led=!w.params.followText "set-order"/\T=.ref s.heap.objs.size/\Y={s with heap:=s.heap.push (pM led)}) {_,rfl,rfl,rfl}) λr Y n=>?_;cases r with
 |error e=>show n
 |ok fl=>
  cases fl with
  |next=>show n.elim
  |brk=>show n.elim
  |cont=>show n.elim
  |ret T=>
   let{led,eL,rfl,rfl}:=n;have hS:(s.heap.push<|pM led).get? s.heap.objs.size=some (pM led):=aAg _ rfl;have hT:Shared.TypeIs {s with heap:=s.heap.push (pM led)} (.ref s.heap.objs.size) "set":={_,hS,rfl};have hli:=PySem.F.called_set.init.lookup;have hbi:=PySem.F.called_set.init.bind (.ref s.heap.objs.size);repeat(any_goals(first|assumption|wp_step))
   show aDY (codeAny_call_builtin (R:=wants (λr ig=>r=.none/\∃h' tk ds,ig={s with heap:=h',toks:=tk}/\SetAt (!w.params.followText "set-order") h0 h' s.heap.objs.size ds/\(∀d,d∈ds↔∃j<its.size,val j=d)/\Keeps s.heap h') E) PySem.F.called_set.init.plain PySem.F.entry_set_init<|check_set_init_1 hT ?_) λrf ig a=>?_
   .let{ol,p,yn,nl,q}:=hl;let{ocls,k,C,f}:=ol;simp only at yn q;subst yn;subst q;have t:(s.heap.push<|pM led).get? l=some {cls:=.type "list",dict:=k,data:=.seq its nl,slots:=f}:=aAb _ p;have hsls:=PySem.F.sub_list_set;have hslf:=PySem.F.sub_list_frozenset;have ai:(aCm "list"==aCm "dict")=false:=by decide
    have jd:(s.heap.push<|pM led).IsList l its:={_,t,rfl,nl,rfl};unfold Builtin.«set.__init__» noKeywords Builtin.Frozenset.updateFrom;generalize H:pyIter=PI
    wp_walk
    subst H;show aCz jd (aAa<|aGt ?_);have u:l<s.heap.objs.size:=aAd p;have x:l≠(s.heap.push<|pM led).objs.size:=by rw[aBc];show aAk (aBx u)
    have ua:s.heap.objs.size∉[(s.heap.push<|pM led).objs.size,l]:=by rw[aBc];erw[aAi,aCI,or_false,not_or];show{aAk (aDT _),aBP u}
    have qa:∀b,s.heap.objs.size<=b->h0.get? b=none:=λb g=>by
     cases e:h0.get? b with
     |none=>rfl
     |some o=>have:=m b o e;rw[aEN g]at this;cases this
    show WA (h0:=h0) ((aGJ (by simp[hh]) _ l x its).toS) s.heap.objs.size ua (qa _<|aAh _) (λb g=>?hw) val vp ur hU g (by change A.units+1+1+200<cu;omega) (its.size-0) 0 _ (by omega) (aAQ _) {{_,aAg _ rfl,rfl,rfl},(jd.push _)} (λb o e=>aAb _ (aAb _<|m b o e)) {[],MB _ _ _ led (aAb _ hS),λd=>?he} ?hR
    case he=>show{λz=>(by cases z),by rintro⟨j,hj,_⟩;show(by omega)}
    case hw=>
     have jr:b=(s.heap.push<|pM led).objs.size:=by simpa using g
     subst jr;rw[aBc];show qa _ (Nat.le_succ _)
    case hR=>
     rintro⟨h',g',d',om,I⟩ y ⟨ds,J,L⟩;have eg:g'=s.gens:=y.gens;have ed:d'=s.drawn:=y.drawn;have eo:I=s.os:=y.os;subst eg;subst ed;subst eo;show aAc ?_;change bb _ _ (ret Value.none) _ _ _;show aAc {rfl,h',om,ds,rfl,(eL▸J),L,λb o e=>?_};have g:=aAd e;have xv:b≠(s.heap.push<|pM led).objs.size:=by rw[aBc];show aAk (aBx g)
     show y.heap b o (by erw[aAi,aCI,or_false,not_or];show{aAk g,xv}) (aAb _<|aAb _ e)
   cases rf with
   |error e=>show a
   |ok N=>
    cases N with
    |next=>show a.elim
    |brk=>show a.elim
    |cont=>show a.elim
    |ret r=>
     let{rfl,h',tk,ds,rfl,J,L,kr}:=a;repeat(any_goals(first|assumption|wp_step))
     show h _ _ _ J L kr
end
end DL
namespace SI
open PySem
theorem JO{d:Type}(next:Nat->Nat):∀(a k:Nat) (left:List d) (b:Array d),left.length=a->(aGM next a k left b).toList.Perm (b.toList++left)
 |0,k,left,b,h=>by have:left=[]:=aBK h;subst this;simp[aGM]
 |a+1,k,left,b,h=>by
  unfold aGM;have f:0<left.length:=by lia
  have e:next k%left.length<left.length:=aER _ f
  rw[aAl e];dsimp only;show(JO next a (k+1) _ _ (by rw[List.length_eraseIdx_of_lt e];lia)).trans ?_;rw[Array.toList_push,aEu];show List.Perm.append_left _ ?_;have:∀(l:List d) (i:Nat) (h:i<l.length),(l[i]::l.eraseIdx i).Perm l:=by
   intro l;induction l with
   |nil=>intro i h;simp at h
   |cons x l g=>
    intro i h;cases i with
    |zero=>simp
    |succ i=>
     have j:i<l.length:=by simpa using h
     rw[List.eraseIdx_cons_succ,List.getElem_cons_succ];show(List.Perm.swap _ _ _).trans ((g i j).cons _)
  show this left _ e
def wH{a:Type}(next:Nat->Nat)(Y:Array a):(i3 next Y).toList.Perm Y.toList:=by unfold i3;simpa using JO next Y.size 0 Y.toList #[] (by simp)
def walkL(w:cf)(S:ba)(es:Array (Int×au))(ep:Nat):List (Int×au):=if w.params.followText "set-order"=true then(i3 (w.params.setOrder S ep) es).toList else es.toList
def walkL_perm(w:cf)(S:ba)(es:Array (Int×au))(ep:Nat):(walkL w S es ep).Perm es.toList:=by
 unfold walkL;split
 .show wH _ _
 show List.Perm.refl _
def slotAt(w:cf)(t:fb):Nat->Nat
 |0=>0
 |i+1=>if w.params.followText "set-order"=true then 0 else t.place.getD i 0+1
def Q3(h:ck)(w:cf)(a S:ba)(t:fb)(i n ep:Nat):Prop:=
 h.get? a=some {cls:=.type "set_iterator",dict:=none,data:=.fields #[dq (slotAt w t i),dq i,.ref S,dq n,dq ep],slots:=#[]}
def oK(h:ck)(S:ba)(es:Array (Int×au))(ep:Nat)(t:fb):Prop:=∃o,h.get? S=some o/\o.cls=.type "set"/\o.data=.set es ep t
namespace F
def entry_set_iter:entryFor table "set.__iter__"=some Builtin.«frozenset.__iter__»:=entryFor_alias (id':= "frozenset.__iter__") (by kernel_rfl) rfl (by decide+kernel) (by kernel_rfl)
def slot_seti_next:Slot "set_iterator" "__next__" "set_iterator.__next__":=
 .of (owner:= "set_iterator") (n:= "__next__") (by rw[aCZ,aBQ];kernel_rfl) (by decide+kernel) (by decide+kernel) (by decide+kernel)
  (by first|show .inl (by decide+kernel)|show .inr (by decide+kernel)) (by rw[aFB];kernel_rfl)
def entry_seti_next:entryFor table "set_iterator.__next__"=some Builtin.«set_iterator.__next__»:=entryFor_of_tree (by kernel_rfl)
def args_seti_next(a:au):argsOk "set_iterator.__next__" {[a],[]}:=by unfold argsOk;kernel_rfl
def slot_seti_iter:Slot "set_iterator" "__iter__" "set_iterator.__iter__":=
 .of (owner:= "set_iterator") (n:= "__iter__") (by rw[aCZ,aBQ];kernel_rfl) (by decide+kernel) (by decide+kernel) (by decide+kernel)
  (by first|show .inl (by decide+kernel)|show .inr (by decide+kernel)) (by rw[aFB];kernel_rfl)
def entry_seti_iter:entryFor table "set_iterator.__iter__"=some Builtin.«dict_keyiterator.__iter__»:=entryFor_alias (id':= "dict_keyiterator.__iter__") (by kernel_rfl) rfl (by decide+kernel) (by kernel_rfl)
def args_seti_iter(a:au):argsOk "set_iterator.__iter__" {[a],[]}:=by unfold argsOk;kernel_rfl
end F
section
variable{s:aL}{t:fb}
def ME{d:Type}{M:Model}{Q:d->aL->Prop}{c:Prop}[Decidable c]{a b:Sem d}(h:c)(k:bb M A a Q E s):bb M A (if c then a else b) Q E s:=by lia
def BR(es:Array (Int×au))(a:t.plain=true):(!t.plain&&decide (es.size>1))=false:=by rw[a];rfl
def HH{Q:CD}(h:Q (w.params.followText "set-order") s):bb (bc prog w) A setsByText Q E s:=by unfold setsByText;show aAa (aFW<|aAc h)
def SR{Q:B6}(f:oK s.heap S es ep t)(b:t.fits es.size=true)(g:t.plain=true)
  (h:Q (.ref s.heap.objs.size) {s with heap:=s.heap.push {cls:=.type "set_iterator",dict:=none,data:=.fields #[dq (slotAt w t 0),dq (0:Nat),.ref S,dq es.size,dq ep],slots:=#[]}}):
  bb (bc prog w) A (pyIter (.ref S)) Q E s:=by
 let{o,a,i,d}:=f;have e:s.TypeIs (.ref S) "set":={o,a,i};show aDI e PySem.F.slot_set_iter (aAF PySem.F.slot_set_iter e F.entry_set_iter ?_ (PySem.F.args_set_iter_1 _));unfold Builtin.«frozenset.__iter__»;change bb _ _ (aFS "__iter__" {[.ref S],[]}>>=_) _ _ s;have j:aFS "__iter__" ⟨[.ref S],[]⟩=pure S:=rfl;rw[j];show aAa (aAc ?_);unfold Builtin.Frozenset.sizeOf;show aAa (aAa<|aFa a d b<|aAc<|aAa ?_);unfold setDrawn;show aAa (aCe a d b<|aAa<|HH<|aAc ?_);change bb _ _ (if(!w.params.followText "set-order"&&(!t.plain&&decide (es.size>1)))=true then _ else _) _ _ s;rw[BR es g,aGu];erw[aAC,if_false];show aAa (aAc<|aAa<|wpAny_setEpoch_of a d b<|aAa<|aAA<|aAc ⟨_,rfl, "set_iterator",_,⟨_,aAg _ rfl,rfl⟩,F.slot_seti_next.lookup,?_⟩);simpa[slotAt]using h
def FQ(a:ST.MD Y):aDR Y 0=0:=by
 let{d,b,e}:=ST.dD a 0;by_cases h:aDR Y 0=0
 .show h
 show absurd (b 0 (by lia) (by lia)) (by lia)
def HM(a:ST.MD Y)(d:i<Y.size):aDR Y (Y.getD i 0+1)=i+1:=by
 have e:Y.getD i 0=Y[i]:=by simp_all
 rw[e];let{g,f,h}:=ST.dD a (Y[i]+1);rcases Nat.lt_trichotomy (aDR Y<|Y[i]+1) (i+1)with q|q|q
 .grind
 .show q
 have b:i+1<Y.size:=by lia
 have:=f (i+1) b q;have:=a i (i+1) d b (by lia)
 lia
def FN(t:fb)(a:ST.MD t.place)(b:¬w.params.followText "set-order"=true)(d:i<=t.place.size):aDR t.place (slotAt w t i)=i:=by
 cases i with
 |zero=>show FQ a
 |succ i=>change aDR t.place (if w.params.followText "set-order"=true then 0 else t.place.getD i 0+1)=i+1;rw[kd b];show HM a (by lia)
def CO{Q:Option (au×Nat)->aL->Prop}(k:oK s.heap S es ep t)(b:t.fits es.size=true)(q:t.plain=true)(r:¬w.params.followText "set-order"=true->t.led=true)(l:ST.MD t.place)(u:i<=es.size)(d:∀e,(walkL w S es ep)[i]?=some e->Q (some (e.2,slotAt w t (i+1))) s)(v:i=es.size->Q none s):bb (bc prog w) A (setNext S (slotAt w t i) i ep) Q E s:=by
 let{o,f,y,g}:=k;have z:t.place.size=es.size:=by erw[aGC,aAP,beq_iff_eq]at b;show b.1
 unfold setNext;show aAa (aCe f g b<|aAa<|HH ?_);by_cases a:w.params.followText "set-order"=true
 .rw[kc a,kd (by simp)];unfold setWalk;show aAa (aAa<|aCe f g b<|aAa<|HH ?_);rw[kc a];show aAa (aFW<|aAc<|aAc ?_);have h:(walkL w S es ep)=(i3 (w.params.setOrder S ep) es).toList:=by unfold walkL;rw[kc a]
  have m:slotAt w t i=slotAt w t (i+1):=by
   cases i with
   |zero=>change 0=if w.params.followText "set-order"=true then 0 else _;rw[kc a]
   |succ i=>change(if w.params.followText "set-order"=true then 0 else _)=if w.params.followText "set-order"=true then 0 else _;rw[kc a,kc a]
  change Q (((i3 (w.params.setOrder S ep) es)[i]?).map λe=>(e.2,slotAt w t i)) s;cases e:(i3 (w.params.setOrder S ep) es)[i]? with
  |some x=>simp_all
  |none=>
   have j:(i3 (w.params.setOrder S ep) es).size=es.size:=by have:=(wH (w.params.setOrder S ep) es).length_eq;simpa using this
   grind
 rw[kd a];change bb _ _ (if(!t.plain&&decide (es.size>1))=true then _ else _) _ _ s;rw[kd (by grind)];change bb _ _ ((if(!t.led&&!es.isEmpty)=true then _ else _)>>=_) _ _ s;rw[kd (by grind)];show aAa (aAc<|aAc ?_);rw[FN t l a (by lia)];have h:(walkL w S es ep)=es.toList:=by unfold walkL;rw[kd a]
 rw[h,aAJ]at d;by_cases n:i<es.size
 .have p:=aAr n;have:=d _ p;have B:slotAt w t (i+1)=t.place[i]+1:=by
   change(if w.params.followText "set-order"=true then 0 else t.place.getD i 0+1)=_
   simp_all
  grind
 grind
def T1(h:Q3 s.heap w a S t i n ep):s.TypeIs (.ref a) "set_iterator":={_,h,rfl}
def VQ{Q:Option au->aL->Prop}(a:Q3 s.heap w b S t i es.size ep)(d:oK s.heap S es ep t)(f:t.fits es.size=true)(k:t.plain=true)(l:¬w.params.followText "set-order"=true->t.led=true)(m:ST.MD t.place)(n:i<es.size)(h:∀e h',(walkL w S es ep)[i]?=some e->Q3 h' w b S t (i+1) es.size ep->Heap.SameBut b s.heap h'->Q (some e.2) {s with heap:=h'}):bb (bc prog w) A (fh (.ref b)) Q E s:=by
 have g:=T1 a;let{o,p,z,q}:=id d;show aAa (aCJ (aAW g F.slot_seti_next
  (aAF F.slot_seti_next g F.entry_seti_next ?_ (F.args_seti_next _))))
 show aAa (aAc<|aAa<|aFC a rfl<|aAa<|aFa p q f ?_);rw[kd (by simp)];change bb _ _ (setNext S (aET (slotAt w t i:Int)) (aET (i:Int)) (aET (ep:Int))>>=_) _ _ s;show aAa (CO d f k l m (aDC n) (λe r=>(aAa (aBf a (by simp) λB u v=>(aAa (aBf u (by simp) λj x y=>(aAc {_,rfl,aAc (h e j r ?_ (v.trans y))})))))) λe=>by lia);have:j.get? b=some _:=x;unfold Q3;rw[this];simp
def ZH{Q:Option au->aL->Prop}(i:A.handled=none)(a:Q3 s.heap w b S t es.size es.size ep)(d:oK s.heap S es ep t)(f:t.fits es.size=true)(j:t.plain=true)(k:¬w.params.followText "set-order"=true->t.led=true)(l:ST.MD t.place)(h:∀h',Heap.ExtBut b s.heap h'->Q none {s with heap:=h'}):bb (bc prog w) A (fh (.ref b)) Q E s:=by
 have g:=T1 a;let{o,m,p,n}:=id d;unfold fh;show aAa (aCJ (aAW g F.slot_seti_next
  (aAF F.slot_seti_next g F.entry_seti_next ?_ (F.args_seti_next _))))
 show aAa (aAc<|aAa<|aFC a rfl<|aAa<|aFa m n f ?_);rw[kd (by simp)];change bb _ _ (setNext S (aET (slotAt w t es.size:Int)) (aET (es.size:Int)) (aET (ep:Int))>>=_) _ _ s;show aAa (CO d f j k l (aAh _) (λe q=>?_) λ_=>?_)
 .have r:=(walkL_perm w S es ep).length_eq
  simp_all
 change bb _ _ (setField (.ref b) 2 .none>>=_) _ _ s;show aAa (aDn a rfl (by simp) (aAa (aAa (aAA (aAa (aEV (by first|rfl|(simp only[];rfl)) (aAA ?_ (by size_fits)))) (by size_fits)))));show aAa (aFO ?_);rw[show A.in1.handled=none from i];show aAa (aAc<|aGx ?_);show aAa (aCp {_,aAg _ rfl,rfl} aEv ?_);show aAc (h _<|((aCd ..).extBut.push _).push _)
def fZ(x:oK h S es ep t)(e:∀o,h.get? S=some o->h'.get? S=some o):oK h' S es ep t:=let⟨o,a,r⟩:=x;{o,e o a,r}
end
section
def NI(p:A.handled=none)(I S:ba)(r:S≠I)(g:t.fits es.size=true)(j:t.plain=true)(k:¬w.params.followText "set-order"=true->t.led=true)(l:ST.MD t.place):
  Walks prog w A I [I,S] [I] es.size (λi v=>∃e,(walkL w S es ep)[i]?=some e/\v=e.2) (λi h=>Q3 h w I S t i es.size ep/\oK h S es ep t)where
 sub:=λb a=>by simp at a;simp[a]
 frame:=λ_ _ _ st m=>{m I (by simp) _ st.1,fZ st.2 λo e=>m S (by simp) o e}
 item:=λi s Q E u st d=>VQ st.1 st.2 g j k l u λe f x y n=>d e.2 f s.toks {e,x,rfl} {y,fZ st.2 λo q=>(n.2 S r).trans q} λb o a q=>(n.2 b (λz=>a (by simp[z]))).trans q
 done:=λs Q E st d=>ZH p st.1 st.2 g j k l λf B=>d f s.toks λb o a q=>B b o (λz=>a (by simp[z])) q
 self:=λi s Q E st d=>by show aDI (T1 st.1) F.slot_seti_iter (aAF F.slot_seti_iter (T1 st.1) F.entry_seti_iter (aAa<|aAc<|aAc ⟨_,rfl, "set_iterator",_,T1 st.1,F.slot_seti_next.lookup,d⟩)<|F.args_seti_iter _)
def collect_set{Q:List au->aL->Prop}(hh:A.handled=none)(N:oK s.heap S es ep t)(O:t.fits es.size=true)(T:t.plain=true)(hl:¬w.params.followText "set-order"=true->t.led=true)(ha:ST.MD t.place)(hn:es.size<=sizeLine)
  (hQ:∀h' tk,(∀b o,s.heap.get? b=some o->h'.get? b=some o)->Q ((walkL w S es ep).map (·.2)) {s with heap:=h',toks:=tk}):bb (bc prog w) A (collect (.ref S)) Q E s:=by
 let{y,d,j,hdS}:=id N;have hT:s.TypeIs (.ref S) "set":={y,d,j};have U:=aAd d;unfold collect;show aAa (aGt<|aBl PySem.F.entry_proto_collect ?_);rw[aBk PySem.F.plain_proto_collect _];show aAa (aAA<|aAc ⟨aBz PySem.F.plain_list_iadd _,aBl PySem.F.entry_list_iadd ?_⟩);rw[aBk PySem.F.plain_list_iadd _];generalize k:s.heap.push {cls:=.type "list",data:=.seq ([]:List au).toArray}=a;have f:∀b o,s.heap.get? b=some o->a.get? b=some o:=λb o e=>by rw[<-k];show aAb _ e
 have h:a.objs.size=s.heap.objs.size+1:=by rw[<-k,aBc]
 have z:a.get? s.heap.objs.size=some {cls:=.type "list",data:=.seq ([]:List au).toArray}:=by rw[<-k];show aAg _ rfl
 have m:=fZ N λo e=>f S o e;have B:Shared.TypeIs {s with heap:=a} (.ref S) "set":={y,f _ _ d,j};have n:aCY (.ref s.heap.objs.size) (.ref S)=false:=by simp[aCY,aBP U]
 change bb _ A.in1 (aDE (.ref s.heap.objs.size) (.ref S)<|.ref s.heap.objs.size) _ _ _;unfold aDE;show aAa (aDe B ?_);rw[kd (by rw[n];decide)];show aAa (SR m O T<|aAa<|aAG ?_);generalize p:a.push {cls:=.type "set_iterator",dict:=none,data:=.fields #[dq (slotAt w t 0),dq (0:Nat),.ref S,dq es.size,dq ep],slots:=#[]}=q;have g:∀b o,a.get? b=some o->q.get? b=some o:=λb o e=>by rw[<-p];show aAb _ e
 have C:Q3 q w a.objs.size S t 0 es.size ep:=by rw[<-p];show aAg _ rfl
 have l:Shared.TypeIs {s with heap:=q} (.ref S) "set":={y,g _ _ (f _ _ d),j};have r:=g _ _ z;unfold aCD;show aAa (aBt l PySem.F.slot_set_len.lookup ?_);show aAa (aCp (b:=true) l (by rw[aFB];kernel_rfl) ?_);rw[kd (by decide)];show ME (by decide+kernel) ?_
 show aAa (aDe l<|aAc ?_);rw[kc (by decide)];show aAa (aCx<|aAa<|aAa<|aBT r rfl ?_);have u:=aAZ (aBY (·.push Value.none)) r rfl;show aBT u rfl ?_;have H:∀b o,b≠s.heap.objs.size->q.get? b=some o->((q.update s.heap.objs.size (aBY (·.push Value.none))).update s.heap.objs.size (aBY (·.pop))).get? b=some o:=
  λb o v e=>(aAD _ _<|aCF v).trans ((aAD _ _<|aCF v).trans e)
 have I:a.objs.size≠s.heap.objs.size:=by rw[h];lia
 show aAc {aBz PySem.F.plain_extend_loop _,codeAny_extend_loopS ((NI (prog:=prog) (w:=w) (A:=A.in1) (by simp[hh]) a.objs.size S (by lia) (es:=es) (ep:=ep) (t:=t) O T hl ha).toS) hn _ (by grind) _ es.size 0 _ _ _ rfl (aAQ _) {H _ _ I C,fZ (fZ m λo e=>g S o e) λo e=>H S o (aAk U) e} (aAZ (aBY (·.pop)) u rfl) (ItemsOf.nil _) λJ Y c' x jg L=>?_};change bb _ A (load s.heap.objs.size>>=_) _ _ J;show aAa (wpAny_load jg<|aAc ?_);have g0:=x.gens;have d0:=x.drawn;have o0:J.os=s.os:=x.os;have ea:Y.toList=(walkL w S es ep).map (·.2):=by
  have jl:=(walkL_perm w S es ep).length_eq;apply aEq;intro i;rw[aAH,aAJ];by_cases hi:i<es.size
  .have vm:i<Y.size:=by rw[L.1];show hi
   let{e,he,hv}:=L.2 i _ (aAr vm);grind
  rw[aBy (by rw[L.1];lia),aGg (by grind)];rfl
 let{h',g',d',om,os'}:=J;subst g0 d0 o0;rw[ea];show hQ h' om λb o e=>?_;have v:=aAk (aAd e);have xv:b≠a.objs.size:=by rw[h];show aAk (aBx<|aAd e)
 show x.heap b o (by simp;show{v,xv}) (H b o v<|g _ _<|f _ _ e)
end
end SI
namespace DL
open PySem PySem.Spec L2
open PyProof.Rows hiding St
section
def VI:D->Bool
 |.int _=>true
 |_=>false
def cW:D->Bool
 |.tup Y=>!Y.isEmpty&&Y.all VI
 |_=>false
def intD:D->Int
 |.int i=>i
 |_=>0
def flat:D->List Int
 |.tup Y=>Y.map intD
 |_=>[]
theorem UU:∀{Y:List D},Y.all VI=true->Y=(Y.map intD).map D.int
 |[],_=>rfl
 |x::Y,h=>by
  erw[aGB,aAP]at h;cases x with
  |int i=>change D.int i::Y=D.int i::(Y.map intD).map D.int;rw[<-UU h.2]
  |_=>cases h.1
def jJ(h:cW d=true):flat d≠[]/\d=.tup ((flat d).map .int):=by
 cases d with
 |tup Y=>erw[cW,aAP]at h;show{by simpa[flat]using h.1,?_};change D.tup Y=D.tup ((Y.map intD).map D.int);rw[<-UU h.2]
 |_=>cases h
def CN(h:cW d=true)(h':cW e=true)(q:flat d=flat e):d=e:=by rw[(jJ h).2,(jJ h').2,q]
theorem wM:∀l:List Int,bL (l.map D.int)=true
 |[]=>rfl
 |i::l=>by change(true&&bL (l.map D.int))=true;rw[wM l];rfl
def O7(h:cW d=true):mD d=true:=by rw[(jJ h).2];show wM _
def KH(h:cW d=true):D4 d<8:=by
 rw[(jJ h).2];have:∀l:List Int,y8 (l.map D.int)=0:=λl=>by
  induction l with
  |nil=>rfl
  |cons i l a=>change max 0 (y8<|l.map D.int)=0;rw[a];rfl
 change y8 _+1<8;rw[this];lia
def vU(d:D):List D->List D
 |[]=>[d]
 |x::Y=>if flat d=flat x then x::Y else if HT.lexLt (flat d) (flat x)=true then d::x::Y else x::vU d Y
def bW(ds:List D):List D:=ds.foldr vU []
def XX(ds:List D):Prop:=ds.Pairwise λx y=>HT.lexLt (flat x) (flat y)=true
theorem jZ:∀{Y:List D},e∈vU d Y->e=d\/e∈Y
 |[],h=>by rcases aAi.mp h with h|h;show .inl h;cases h
 |x::Y,h=>by
  unfold vU at h;split at h
  .show .inr h
  split at h
  .simp_all
  rcases aAi.mp h with h|h
  .simp_all
  rcases jZ h with h|h
  .show .inl h
  show .inr (.tail _ h)
theorem CI:∀{Y:List D},e∈Y->e∈vU d Y
 |x::Y,h=>by
  unfold vU;split
  .show h
  split
  .show .tail _ h
  rcases aAi.mp h with h|h
  .rw[h];show .head _
  show .tail _ (CI h)
theorem DD(a:cW d=true):∀{Y:List D},(∀x∈Y,cW x=true)->d∈vU d Y
 |[],_=>.head _
 |x::Y,h=>by
  unfold vU;split
  .rename_i q;rw[CN a (h x (.head _)) q];show .head _
  split
  .show .head _
  show .tail _ (DD a λy b=>h y (.tail _ b))
theorem DA:∀{Y:List D},XX Y->XX (vU d Y)
 |[],_=>aEc _ _
 |x::Y,h=>by
  have b:=aAs.mp h;unfold vU;split
  .show h
  rename_i ne;split
  .rename_i lt;show aAs.mpr {λy a=>?_,h};rcases aAi.mp a with rfl|a
   .show lt
   show TS.lex_trans _ _ _ lt (b.1 y a)
  rename_i e;show aAs.mpr {λy a=>?_,DA b.2};rcases jZ a with rfl|a
  .cases q:HT.lexLt (flat x) (flat y)with
   |true=>rfl
   |false=>show absurd (TS.lex_total _ _ (by simp_all) q) ne
  show b.1 y a
theorem bS:∀ds:List D,XX (bW ds)
 |[]=>.nil
 |_::ds=>DA (bS ds)
theorem BX:∀{ds:List D},(∀d∈ds,cW d=true)->∀d∈bW ds,cW d=true
 |[],_,d,h=>by cases h
 |e::ds,h,d,hd=>by
  rcases jZ hd with rfl|hd
  .simp_all
  show BX (λd hd=>h d (.tail _ hd)) d hd
theorem M9:∀{ds:List D},(∀d∈ds,cW d=true)->∀d,d∈bW ds↔d∈ds
 |[],_,d=>Iff.rfl
 |e::ds,h,d=>by
  have a:∀d∈ds,cW d=true:=λd b=>h d (.tail _ b);constructor
  .intro q;rcases jZ q with rfl|q
   .show .head _
   show .tail _ ((M9 a d).mp q)
  intro q;rcases aAi.mp q with rfl|q
  .show DD (h _<|.head _) (BX a)
  show CI ((M9 a d).mpr q)
theorem lH:∀{Y a:List D},XX Y->XX a->(∀d,d∈Y↔d∈a)->Y=a
 |[],[],_,_,_=>rfl
 |[],y::a,_,_,h=>by have:=(h y).mpr (.head _);cases this
 |x::Y,[],_,_,h=>by have:=(h x).mp (.head _);cases this
 |x::Y,y::a,j,k,h=>by
  have g:=aAs.mp j;have i:=aAs.mp k;have b:∀d:D,HT.lexLt (flat d) (flat d)≠true:=λd q=>by rw[TS.lex_irrefl]at q;cases q
  have e:x=y:=by
   rcases aAi.mp ((h x).mp (.head _))with q|q
   .show q
   rcases aAi.mp ((h y).mpr (.head _))with f|f
   .show f.symm
   show absurd (TS.lex_trans _ _ _ (i.1 x q)<|g.1 y f) (b y)
  subst e;congr 1;show lH g.2 i.2 λd=>?_;grind
def MG(h:XX Y):Y.Nodup:=h.imp λ{x y} q z=>by subst z;rw[TS.lex_irrefl]at q;cases q
def ssR:D->R (List D)
 |.lst a=>if a.all cW=true/\(bW a).length<=63 then .ok (bW a)else .bad
 |_=>.bad
section
mutual
theorem T6(I:Inv X a i H s):∀{v:V}{d:D}{u:au},Rep X.K H O v d->mD d=true->RelV v u->HV s.heap u d
 |_,_,_,.non,e,_=>by cases e
 |_,_,_,.bl,e,_=>by cases e
 |_,_,_,.str,e,_=>by cases e
 |_,_,_,.lst _ _ _,e,_=>by cases e
 |_,_,_,.dct ..,e,_=>by cases e
 |_,_,_,.int,_,r=>by let{t,rfl}:=r;show .int _ t
 |_,_,_,.tup h r,e,b=>by cases b;let{f,g,p,_}:=I.tuple h;show .tup p (LF I r e g)
theorem LF(I:Inv X b h H s):∀{v:List V}{d:List D}{u:List au},Reps X.K H O v d->bL d=true->q9 v u->HVs s.heap u d
 |_,_,_,.nil,_,.nil=>.nil
 |_,_,_,.cons r t,e,.cons f g=>by have a:(mD _&&bL _)=true:=e;rw[aAP]at a;show .cons (T6 I r a.1 f) (LF I t a.2 g)
end
end
variable [Tabs]
def a7k(w:cf)(o:Obj)(es:List au):Prop:=o.ExactSet/\∃a b t,o.data=.set a b t/\t.fits a.size=true/\t.plain=true/\t.led=!w.params.followText "set-order"/\ST.MD t.place/\a.toList.map (·.2)=es
abbrev A9(K:kn)(H:Hp)(O:ba->Prop):List au->List D->Prop:=Paired λu d=>∃v,RelV v u/\Rep K H O v d
theorem A9.of{K:kn}{H:Hp}{O:ba->Prop}:∀{vs:List V}{a:List au}{ds:List D},q9 vs a->Reps K H O vs ds->A9 K H O a ds
 |_,_,_,.nil,.nil=>.nil
 |_,_,_,.cons r t,.cons q u=>.cons {_,r,q} (A9.of t u)
theorem A9.ab6{K:kn}{H:Hp}{O:ba->Prop}:∀{a:List au}{ds:List D},A9 K H O a ds->∃vs,q9 vs a/\Reps K H O vs ds
 |_,_,.nil=>{[],.nil,.nil}
 |_,_,.cons ⟨v,r,q⟩ t=>let⟨vs,b,d⟩:=A9.ab6 t;{v::vs,.cons r b,.cons q d}
def A9.same{K:kn}{H H':Hp}{O:ba->Prop}(s:Same H H'){a:List au}{ds:List D}(h:A9 K H O a ds):A9 K H' O a ds:=gD (by rintro _ _ ⟨v,r,q⟩;show{v,r,q.same s}) h
theorem A9.get{K:kn}{H:Hp}{O:ba->Prop}:∀{a:List au}{ds:List D}{u:au},A9 K H O a ds->u∈a->∃d∈ds,∃v,RelV v u/\Rep K H O v d
 |_,_,_,.cons r t,h=>by
  rcases aAi.mp h with rfl|h
  .grind
  let{d,b,q}:=A9.get t h;grind
open Classical in
def R7(K:kn) (H:Hp) (h:ck):ck:=PySem.W.hideAll h ((aBd h.objs.size).filter λa=>decide (¬∃Y,T5 K H a Y))
def aV(K:kn)(H:Hp)(h:ck):Keeps (R7 K H h) h:=λb o e=>PySem.W.of_hideAll _ e
open Classical in
def BL{K:kn}{H:Hp}{h:ck}{b:ba}{o:Obj}{Y:List V}(e:h.get? b=some o)(q:T5 K H b Y):(R7 K H h).get? b=some o:=PySem.W.hideAll_get _ e λa=>by have:=(aCh.mp a).2;show(of_decide_eq_true this) {Y,q}
open Classical in
def FP{K:kn}{H:Hp}{h:ck}{b:ba}{o:Obj}(e:(R7 K H h).get? b=some o):∃Y,T5 K H b Y:=by
 show aFD λn=>?_;have a:=aV K H h b o e;have:(R7 K H h).get? b=none:=PySem.W.hideAll_none _ (aCh.mpr {aBn.mpr (aAd a),decide_eq_true n})
 lia
section
mutual
theorem TM(I:Inv X a j H s):∀{v:V}{d:D}{u:au},Rep X.K H O v d->mD d=true->RelV v u->HV (R7 X.K H s.heap) u d
 |_,_,_,.non,e,_=>by cases e
 |_,_,_,.bl,e,_=>by cases e
 |_,_,_,.str,e,_=>by cases e
 |_,_,_,.lst _ _ _,e,_=>by cases e
 |_,_,_,.dct ..,e,_=>by cases e
 |_,_,_,.int,_,r=>by let{t,rfl}:=r;show .int _ t
 |_,_,_,.tup h r,e,b=>by cases b;let{f,i,{o,g,c,n,d},_}:=I.tuple h;show .tup {o,BL g h,c,n,d} (KA I r e i)
theorem KA(I:Inv X b h H s):∀{v:List V}{d:List D}{u:List au},Reps X.K H O v d->bL d=true->q9 v u->HVs (R7 X.K H s.heap) u d
 |_,_,_,.nil,_,.nil=>.nil
 |_,_,_,.cons r t,e,.cons f g=>by have a:(mD _&&bL _)=true:=e;rw[aAP]at a;show .cons (TM I r a.1 f) (KA I t a.2 g)
end
mutual
theorem RW(I:Inv X b x H s):∀{u:au}{d:D},HV (R7 X.K H s.heap) u d->∃v,RelV v u/\Rep X.K H O v d
 |_,_,.int i t=>{.int i,{t,rfl},.int}
 |_,_,.tup (a:=a) ⟨o,g,c,n,h⟩ r=>by let{Y,q}:=FP g;let{j,k,l}:=A9.ab6 (JL I r);let{m,p,{y,e,_,z,f},_}:=I.tuple q;rw[aV _ _ _ _ _ g]at e;cases e;rw[h]at f;injection f with w _;subst w;have:j=Y:=k.inj (by simpa using p);subst this;show{.ref a,rfl,.tup q l}
theorem JL(I:Inv X a b H s):∀{u:List au}{d:List D},HVs (R7 X.K H s.heap) u d->A9 X.K H O u d
 |_,_,.nil=>.nil
 |_,_,.cons r t=>.cons (RW I r) (JL I t)
end
end
section
def a6k(X:Cx)(B:D->Bool)(U:List D->List D)(f:Ev->R D):TE:=λj H Q=>∃k l O g,EnvOk X.K k l H O j g/\match f g with
 |.ok (.lst b)=>(b.all B=true/\(U b).length<=63)/\∀S o h e a,Same H a->a S=none->a7k X.w o h->A9 X.K a O h e->e.Nodup->(∀d,d∈e↔d∈b)->Q (.ref S) (upd a S<|.frz o (.own S))
 |.ex x=>∀i,Same H i->XW X x i
 |_=>False
def fq{B:D->Bool}{U:List D->List D}(hB:∀{d},B d=true->mD d=true/\D4 d<8/\∃T,d=.tup T)(hU:∀{ds:List D},(∀d∈ds,B d=true)->∀d,d∈U ds↔d∈ds)(ha:PB X e f)(hh:X.calm=true)(hu:X.A.units+300<cu)(hg:Gl X "set":=by rfl)(hm:X.mg "set"=none:=by assumption)(hv:cv "set"=some (.type "set"):=by decide+kernel)(he:a9 [e] X.env=(false,dm e X.env)::a9 [] X.env:=by rfl)(bo:(cy x (a9 [] X.env)).any (·.1)=false:=by rfl):
  PE X (.Call (.Name "set" p) [e] [] x) (a6k X B U f):=by
 show qV λy s σ H Q I H9 O0 O ρ E q=>(aAN (M0 I hg hm hv (aBi (D8 ((J6 ha bC he) x y s σ H (λvs b=>∃v ds,vs=[v]/\f ρ=.ok (.lst ds)/\Same H b/\A4 X.K b O v (.lst ds)) I {H9,O0,O,ρ,E,?_}) λus g z9=>?_) he bo) (by decide) (by decide)))
 .cases C:f ρ with
  |ex z=>rw[C]at q;show q
  |bad=>rw[C]at q;show q.elim
  |ok d=>
   rw[C]at q;cases d with
   |lst ds=>showλv b g r1=>{v,ds,rfl,rfl,g,r1}
   |_=>show q.elim
 let{vs,b,l,r1,v,ds,ev,ef,sm,rb}:=z9;subst ev;rw[ef]at q;let{{hp,yp},q}:=q;let{a,ws,rfl,hS,rr}:=rb.aa5;let{u,rfl,ru}:=vals1 r1;cases ru;let{k,rv,{oL,nL,gL,cL,dL,sL},zL}:=l.list hS;have hlen:k.toArray.size=ds.length:=by rw[aAO,<-rv.length,rr.length]
 have J:∀(i:Nat) (v:au),k.toArray[i]?=some v->a2z (R7 X.K b g.heap) v (ds.getD i .non):=λi v L=>by
  rw[aCO]at L;let{d,m,w,ql,rp}:=J0 (A9.of rv rr) L;have qg:ds.getD i .non=d:=by rw[aAt,m];rfl
  rw[qg];have hpt:=(aBB.mp hp) d (aAu m);let{Y,hd8,T,rfl}:=hB hpt;have hv:=TM l rp Y ql;cases hv with
  |tup p r=>show{_,_,rfl,rfl,hd8,.tup p r}
 have vd:∀i<k.toArray.size,D4 (ds.getD i .non)<8/\∃T,ds.getD i .non=.tup T:=λi L=>by
  have ic:i<ds.length:=by rw[<-hlen];show L
  simp_all
 show BP (aV X.K b g.heap) (val:=λi=>ds.getD i .non) (U:=U ds) (l.ok.hd hh) {oL,gL,cL,nL,sL} J vd (λi L=>?_) (by lia) hu λh' tk bu jg qu kp=>?_
 .simp_all
 let{{o,n,ep,t,Y,hc,N,hsl,m,h,msk,pr,led,pl},nd}:=jg;have mem:∀d,d∈bu↔d∈ds:=λd=>by
  rw[qu];constructor
  .rintro⟨j,hj,C⟩;have ya:j<ds.length:=by rw[<-hlen];show hj
   grind
  intro m;let{j,hj,C}:=aBg m;grind
 have I2:=l.laid (a:=g.heap.objs.size) (o:=.frz o (.own g.heap.objs.size)) (h':=h') (t':=tk) kp (aAh _) {Y,o,Y};show{.ref g.heap.objs.size,_,I2,rfl,q g.heap.objs.size o (n.toList.map (·.2)) bu b sm (l.hok.fresh<|aAh _) {{hc,N,hsl},n,ep,t,m,?_,pl,led,h.tab.asc,rfl} ?_ nd mem}
 .have h1:=h.len;have h2:=h.room;erw[aGC,aAP,beq_iff_eq,decide_eq_true_eq];show{by simpa using h1,by change t.place.size+t.dummies.size<=t.mask;rw[h.tab.nod];simpa using h2}
 have:∀{n:List (Int×au)}{ds:List D},Paired (EV<|R7 X.K b g.heap) n ds->A9 X.K b O (n.map (·.2)) ds:=λ{n ds} p=>by
  induction p with
  |nil=>show .nil
  |cons r _ ih=>show .cons (RW l r.1) ih
 show this pr
def UY(h:ck) (v:au):List Int:=open Classical in if p:∃d,cW d=true/\HV h v d then flat p.choose else[]
def gE(b:cW d=true)(a:HV h v d):UY h v=flat d:=by unfold UY;have q:∃d,cW d=true/\HV h v d:={d,b,a};rw[dif_pos q,HV.inj q.choose_spec.2 a]
def cE(f:cW d=true)(e:HV h v d):∃b items,v=.ref b/\IsTup h b items/\IntsAre items.toList (flat d):=by
 rw[(jJ f).2]at e;cases e with
 |tup p r=>
  show{_,_,rfl,p,?_};have:∀{a:List au}{l:List Int},HVs h a (l.map D.int)->IntsAre a l:=λ{a l} r=>by
   induction l generalizing a with
   |nil=>cases r;show .nil
   |cons i l g=>
    cases r with
    |cons r t=>cases r;show .cons _ _ (g t)
  show this r
def RI{prog:be}{w:cf}{A:bM}{E:B6}{s:aL}{x y:au}{d e:D}{f:Bool}{Q:CD}(g:cW d=true)(h:cW e=true)(i:HV s.heap x d)(j:HV s.heap y e)(q:Q (HT.lexLt (flat d) (flat e)) s):bb (bc prog w) A (keyLt' (TS.tupK f) x y) Q E s:=by let{b,k,rfl,l,m}:=cE g i;let{p,a,rfl,n,o}:=cE h j;show TS.lt_ints f l n m o q
def AZ{prog:be}{w:cf}{A:bM}{E:B6}{s:aL}{vs:List au}{Q:SortKind->aL->Prop}(h:∀x∈vs,∃d,cW d=true/\HV s.heap x d)(v:2<=vs.length)(q:Q (TS.tupK true) s):bb (bc prog w) A (keyKind' vs.toArray) Q E s:=by
 obtain⟨g,j⟩:∃g:au->au,∀x∈vs,∃b a k t,x=.ref b/\IsTup s.heap b a/\a[0]?=some (g x)/\g x=.int k t:=by
  show{λx=>open Classical in if z:∃p,∃b a k t,x=.ref b/\IsTup s.heap b a/\a[0]?=some p/\p=aGe k t then z.choose else .none,λx m=>?_};let{d,y,C}:=h x m;let{b,a,rfl,H,f}:=cE y C;have B:=(jJ y).1;have z:∃p,∃i a k t,aCL b=.ref i/\IsTup s.heap i a/\a[0]?=some p/\p=aGe k t:=by
   cases e:a.toList with
   |nil=>rw[e]at f;generalize flat d=l at f B;cases f;show absurd rfl B
   |cons p J=>
    rw[e]at f;generalize flat d=l at f;cases f with
    |cons k t L=>show{_,b,a,k,t,rfl,H,by rw[<-aAJ,e];rfl,rfl}
  dsimp only;rw[dif_pos z];let{i,I,k,t,n,o,r,u}:=z.choose_spec;show{i,I,k,t,n,o,r,u}
 show TS.kind_tuples (T:= "int") g (λx m=>?_) (λz=>by rw[z]at v;simp at v) (by decide) q;let{b,a,k,t,n,o,r,u}:=j x m;show{b,a,n,o,r,by rw[u];show typeIs_int s k t}
def lP{K:kn}{H:Hp}{O:ba->Prop}{k b:List au}{ds:List D}{key:au->List Int}(st:A9 K H O k ds)(A:b.Perm k)(B:b.Pairwise λx y=>HT.lexLt (key y) (key x)=false)(C:∀u d,(∃v,RelV v u/\Rep K H O v d)->d∈ds->key u=flat d)(pt:∀d∈ds,cW d=true)(E:ds.Nodup):
  ∃a,A9 K H O b a/\a.Perm ds/\XX a:=by
 let{a,g,i}:=fX A st;show{a,i,g,?_};have j:a.Nodup:=g.nodup_iff.mpr E;have m:∀d∈a,cW d=true:=λd f=>pt d (g.mem_iff.mp f);have n:∀u d,(∃v,RelV v u/\Rep K H O v d)->d∈a->key u=flat d:=λu d h f=>C u d h (g.mem_iff.mp f);clear A g st E pt C;induction i with
 |nil=>show .nil
 |@cons u d k ds r t p=>
  have s:=aAs.mp B;have I:=aAY.mp j;show aAs.mpr {λe w=>?_,p s.2 I.2 (λd f=>m d (.tail _ f)) λu d h f=>n u d h (.tail _ f)};have:∃o∈k,∃v,RelV v o/\Rep K H O v e:=by
   clear p B s I j m n r;induction t with
   |nil=>cases w
   |cons r t p=>grind
  let{o,J,q}:=this;have l:=s.1 o J;rw[n o e q (.tail _ w),n u d r (.head _)]at l;cases z:HT.lexLt (flat d) (flat e)with
  |true=>rfl
  |false=>have:=CN (m _<|.head _) (m _<|.tail _ w) (TS.lex_total _ _ z l);grind
def cR{p T gm:Pos}{f:Ev->R D}(ha:PB X e f)(hh:X.calm=true)(hu:X.A.units+300<cu)(hg:Gl X "set":=by rfl)(hm:X.mg "set"=none:=by assumption)(hg2:Gl X "sorted":=by rfl)(kg:X.mg "sorted"=none:=by assumption)
  (hv:cv "set"=some (.type "set"):=by decide+kernel) (hv2:cv "sorted"=some (.builtin "sorted"):=by decide+kernel)
  (he:a9 [e] X.env=(false,dm e X.env)::a9 [] X.env:=by rfl) (bo:(cy gm (a9 [] X.env)).any (·.1)=false:=by rfl)
  (oa:a9 [.Call (.Name "set" T) [e] [] gm] X.env=(false,dm (.Call (.Name "set" T) [e] [] gm) X.env)::a9 [] X.env:=by rfl) (xm:(cy pos (a9 [] X.env)).any (·.1)=false:=by rfl):
  PF X (.Call (.Name "sorted" p) [.Call (.Name "set" T) [e] [] gm] [] pos) (λρ=>(f ρ).bind ssR):=by
 show qV λpins s σ H Q I H9 O0 O ρ E q=>?_;dsimp only at q;show aAN (M0 I hg2 kg hv2 ?_ (by decide) (by decide));show aBr (D8 ((J6 (fq (p:=T) (B:=cW) (U:=bW) (λh=>{O7 h,KH h,_,(jJ h).2}) M9 ha hh hu hg hm hv he bo) bC oa) pos pins s σ H (λvs H2=>∃S o Y i g L,vs=[.ref S]/\H2=upd L S (.frz o (.own S))/\f ρ=.ok (.lst g)/\(g.all cW=true/\(bW g).length<=63)/\Same H L/\L S=none/\a7k X.w o Y/\A9 X.K L O Y i/\i.Nodup/\(∀d,d∈i↔d∈g)) I {H9,O0,O,ρ,E,?_})
  λus s1 z=>?_) oa xm
 .cases e1:f ρ with
  |ex z=>rw[e1]at q;show q
  |bad=>rw[e1]at q;show q.elim
  |ok d=>
   rw[e1,R.aa0]at q;cases d with
   |lst g=>
    erw[ssR]at q;by_cases hc:g.all cW=true/\(bW g).length<=63
    .show{hc,λS o Y i L sm hS so st nd j=>{S,o,Y,i,g,L,rfl,rfl,rfl,hc,sm,hS,so,st,nd,j}}
    rw[kd hc]at q;show q.elim
   |_=>show q.elim
 let{vs,H2,I2,r1,S,o,Y,i,g,L,ev,eH,ef,{hp,yp},sm,hS1,so,st,nd,j}:=z;subst ev eH;let{u,rfl,ru}:=vals1 r1;cases ru;rw[ef,R.aa0]at q;erw[ssR]at q;rw[kc {hp,yp}]at q;have pt:∀d∈g,cW d=true:=aBB.mp hp;have yr:∀d∈i,cW d=true:=λd J=>pt d ((j d).mp J);have s12:Same L (upd L S<|.frz o (.own S)):=j4 hS1 _;have ku:=st.same s12;let{hc,ea,ep,t,J,hf,hpln,led,asc,ees}:=so;have goS:=(I2.hok S _ j2).1;have hsl:(bW g).Perm i:=by
  letI:DecidableEq D:=λa b=>aBW _
  show(aCG (MG<|bS g) nd).mpr λd=>by rw[M9 pt,j]
 have fm:ea.size=i.length:=by have:=st.length;rw[<-ees]at this;simpa using this
 have h63':i.length<=63:=by rw[<-hsl.length_eq];show yp
 have wp:=SI.walkL_perm X.w S ea ep;have wpv:((SI.walkL X.w S ea ep).map (·.2)).Perm Y:=by rw[<-ees];show wp.map _
 have m:∀u∈(SI.walkL X.w S ea ep).map (·.2),∃d,d∈i/\cW d=true/\HV s1.heap u d:=λu hu=>by let{d,J,v,rv,rp}:=ku.get (wpv.mem_iff.mp hu);show{d,J,yr d J,T6 I2 rp (O7<|yr d J) rv}
 show TS.sorted_keys (f:=true) (key:=UY s1.heap) (C:=λs'=>∃h' N,s'={s1 with heap:=h',toks:=N}/\∀b o,s1.heap.get? b=some o->h'.get? b=some o)
  (λ{Q'} hq=>SI.collect_set (by simp[I2.ok.hd hh]) ({o,goS,hc.1,J}) hf hpln (λnb=>by rw[led];simpa using nb) asc (by rw[fm];show aAn h63' (by decide)) λh' N k=>hq _ {h',N,rfl,k})
  (λs' ⟨h',N,r,k⟩ s6 k6 x hx y hy prog w A E hA {Q} qq=>?_) (λh2 s' ⟨h',N,r,k⟩ s6 k6 A {Q} qq=>?_) (by rw[aAf,wp.length_eq,aBo,fm];lia) λs' gh h' l ⟨h1,N,r,k⟩ pm srt k2 hl ⟨n,gl⟩=>?_
 .subst r;let{d,_,pd,ur}:=m x hx;let{d',_,pd',xn}:=m y hy;rw[gE pd ur,gE pd' xn]at qq;show RI pd pd' (ur.keeps λb o e _=>k6 b o (k b o e)) (xn.keeps λb o e _=>k6 b o (k b o e)) qq
 .subst r;show AZ (λx hx=>?_) h2 qq;let{d,_,pd,ur}:=m x hx;show{d,pd,ur.keeps λb o e _=>k6 b o (k b o e)}
 subst r;let{uf,st3,T,srt2}:=lP (key:=UY s1.heap) ku (pm.trans wpv) srt (by rintro u d ⟨v,rv,rp⟩ J;show gE (yr d J) (T6 I2 rp (O7<|yr d J) rv)) yr nd;have e2:uf=bW g:=lH srt2 (bS g) λd=>by rw[T.mem_iff,j,M9 pt]
 subst e2;let{wv,ql,rr}:=st3.ab6;have I2':=I2.kept (h':=h1) (t':=N) k;have I3:=I2'.laid (a:=l) (o:=.lst wv) (h':=h') (t':=N) k2 hl {by rw[rr.length];show aAn yp (by decide),gh,n,ql,gl};show{.ref l,_,I3,rfl,q wv _ l (sm.trans s12) (I2'.hok.fresh hl) rr}
end
end
section
variable [Tabs]
section
def a6q:D->R (List D)
 |.lst Y=>.ok Y.reverse
 |_=>.bad
def GD(ha:PB X e f)(hh:X.calm=true)(hg:Gl X "reversed":=by rfl)(hm:X.mg "reversed"=none:=by assumption)(B:Gl X "list":=by rfl)(kg:X.mg "list"=none:=by assumption)(hv:cv "reversed"=some (.type "reversed"):=by decide+kernel)(C:cv "list"=some (.type "list"):=by decide+kernel)(U:a9 [e] X.env=(false,dm e X.env)::a9 [] X.env:=by rfl)(bo:(cy j (a9 [] X.env)).any (·.1)=false:=by rfl)(Y:a9 [.Call (.Name "reversed" J) [e] [] j] X.env=(false,dm (.Call (.Name "reversed" J) [e] [] j) X.env)::a9 [] X.env:=by rfl)(xm:(cy h (a9 [] X.env)).any (·.1)=false:=by rfl)(L:cy h (a9 [] X.env)=[]:=by rfl):
  PF X (.Call (.Name "list" p) [.Call (.Name "reversed" J) [e] [] j] [] h) (λρ=>(f ρ).bind a6q):=by
 show qV λk s σ H Q I H9 O0 O ρ E q=>?_;dsimp only at q;show aAN (M0 I B kg C (aBi ?_ Y xm) (by decide) (by decide));rw[Y];change bb _ _ (spliced ((false,dm (.Call (.Name "reversed" J) [e] [] j) X.env)::cy h (a9 [] X.env))) _ _ s;show aFq (aAN (M0 I hg hm hv ?_ (by decide) (by decide)));show aBi (D8 ((J6 ha bC U) j k s σ H (λi l=>∃v m,i=[v]/\f ρ=.ok (.lst m)/\Same H l/\A4 X.K l O v (.lst m)) I {H9,O0,O,ρ,E,?_}) λy n z9=>?_) U bo
 .cases e1:f ρ with
  |ex z=>rw[e1]at q;show q
  |bad=>simp_all
  |ok d=>
   rw[e1,R.aa0]at q;cases d with
   |lst m=>showλv l n N=>{v,m,rfl,rfl,n,N}
   |_=>show(q).elim
 let{i,l,A,N,v,m,ev,ef,sm,rb}:=z9;subst ev;rw[ef,R.aa0]at q;let{a,T,rfl,hS,rr}:=rb.aa5;let{u,rfl,ru}:=vals1 N;cases ru;let{g,rv,{oL,nL,gL,cL,dL,sL},zL}:=A.list hS;have hl:n.heap.IsList a g.toArray:={oL,gL,cL,nL,sL};show call_reversed_list hl ?_;rw[L];show aFJ ?_;have ge:=aAk (aAd gL);show SZ.RT (A.ok.hd hh) ge (aAO▸rv.length▸zL) {_,aAg _ rfl,rfl,rfl} (hl.push _) λh' tk c kp gl=>?_;have kk:=λb u e=>kp b u (aAk<|aAd e) (aAb _ e);have w:n.heap.objs.size<=(n.heap.push<|revObj a<|(g.toArray.size:Int)-1).objs.size:=by rw[aBc];lia
 have x:q9 T.reverse g.reverse:=by
  have:∀{i:List V}{y:List au},q9 i y->q9 i.reverse y.reverse:=λ{i y} r=>by
   induction r with
   |nil=>show .nil
   |cons r t ih=>rw[aAU,aAU];show ih.append (.cons r .nil)
  show this rv
 show{.ref _,_,(A.laid (o:=.lst T.reverse) (h':=h') (t':=tk) kk w {by rw[aCf];show zL,g.reverse,c,x,by rw[gl];simp}),rfl,q T.reverse l _ sm (A.hok.fresh w) rr.reverse}
def _root_.L2.Inv.ae4(I:Inv X d f H s)(k:∀b u,s.heap.get? b=some u->h'.get? b=some u)(a:Same H Hn)(g:∀b u,H b=none->Hn b=some u->s.heap.get? b=none/\ObjOk X.prog X.w Hn h' b u):
  Inv X d f Hn {s with heap:=h',toks:=t'}:=by
 show I.un {λb o e _ _ _=>k b o e,λb o e _ _ _=>{o.slots,k b o e},λb o e n _=>?_,λb o e _=>{o,k b o e},λb Y e=>a _ _ e,λb o u e=>a _ _ e,λb i e=>a _ _ e} λb u e=>?_
 .cases q:Hn b with
  |none=>rfl
  |some u=>simp_all
 cases q:H b with
 |none=>show(g b u q e).2
 |some h=>have:=a b h q;rw[e]at this;cases this;show(I.hok b u q).ac0 (λc v _ z=>k c v z) (λc z=>a _ _ z) λc u _ z=>a _ _ z
def cS(Y d:List D):List D:=List.zipWith (λa b=>D.tup [a,b]) Y d
def YO:List D->R (List D)
 |[.lst Y,.lst a]=>if Y.length=a.length then .ok (cS Y a)else .bad
 |_=>.bad
def NO{K:kn}{h:Hp}{O:ba->Prop}{h0 h':ck}{l:ba}(hf:∀b,h0.get? b=none->h b=none):∀{Y f:List D}{k m B:List au},A9 K h O k Y->A9 K h O m f->Y.length=f.length->
  (∀(j:Nat) (v:au),B[j]?=some v->∃T x y,v=.ref T/\k[j]?=some x/\m[j]?=some y/\dC h' T x y/\T≠l/\h0.get? T=none)->B.length=Y.length->
  ∃(vs:List V) (Hn:Hp),q9 vs B/\Same h Hn/\(∀b u,h b=none->Hn b=some u->h0.get? b=none/\b≠l/\∃ws its,u=.tup ws/\ws.length<=2/\q9 ws its/\IsTup h' b its.toArray)/\Reps K Hn O vs (cS Y f):=by
 intro Y f k m B;induction B generalizing Y f k m with
 |nil=>
  intro r s t _ z;cases Y with
  |nil=>cases f with
   |nil=>show{[],h,.nil,Same.refl _,λb u n q=>(by rw[n]at q;cases q),.nil}
   |cons _ _=>cases t
  |cons _ _=>cases z
 |cons v B ih=>
  intro r s t hP z;cases r with
  |nil=>cases z
  |@cons u d k Y rx r=>
   cases s with
   |nil=>cases t
   |@cons I d' m f ry s=>
    let{T,x,y,rfl,ex,ey,hp,nl,p}:=hP 0 v rfl;cases ex;cases ey;let{vs,Hn,r1,i,J,rr}:=ih r s (by simpa using t) (λj v hj=>by let{T,x,y,e1,L,e3,e4}:=hP (j+1) v (by simpa using hj);show{T,x,y,e1,by simpa using L,by simpa using e3,e4}) (by simpa using z)
    let{A,N,a}:=rx;let{C,Q,e}:=ry;have v2:q9 [A,C] [u,I]:=.cons N (.cons Q .nil);cases q:Hn T with
    |none=>
     have E:Same Hn (upd Hn T<|.tup [A,C]):=j4 q _;show{.ref T::vs,upd Hn T (.tup [A,C]),.cons rfl r1,i.trans E,λb w n H=>?_,.cons (.tup (T5.of j2) (.cons ((a.same i).same E) (.cons ((e.same i).same E) .nil))) (rr.same E)};by_cases hb:b=T
     .subst hb;rw[j2]at H;cases H;show{p,nl,_,_,rfl,by simp,v2,{_,hp,rfl,0,rfl}}
     rw[m5 hb]at H;show J b w n H
    |some w=>
     let{_,_,ws,its,rfl,_,vw,{o,g,_,n,dd}}:=J T w (hf T p) q;have U:h'.get? T=some {cls:=.type "tuple",data:=.seq #[u,I]}:=hp;rw[U]at g;cases g;have L:its=[u,I]:=by grind
     subst L;have:ws=[A,C]:=vw.inj v2;subst this;show{.ref T::vs,Hn,.cons rfl r1,i,J,.cons (.tup (T5.of q) (.cons (a.same i) (.cons (e.same i) .nil))) rr}
def II{e1 e2:cq}{p p2 A:Pos}{f1 f2:Ev->R D}(zi:PB X e1 f1)(ha2:PB X e2 f2)(hh:X.calm=true)(hg:Gl X "zip":=by rfl)(hm:X.mg "zip"=none:=by assumption)(hg2:Gl X "list":=by rfl)(kg:X.mg "list"=none:=by assumption)
  (hv:cv "zip"=some (.type "zip"):=by decide+kernel) (hv2:cv "list"=some (.type "list"):=by decide+kernel)
  (he1:a9 [e2] X.env=(false,dm e2 X.env)::a9 [] X.env:=by rfl) (he:a9 [e1,e2] X.env=(false,dm e1 X.env)::a9 [e2] X.env:=by rfl) (bo:(cy A (a9 [e2] X.env)).any (·.1)=false:=by rfl)
  (oa:a9 [.Call (.Name "zip" p2) [e1,e2] [] A] X.env=(false,dm (.Call (.Name "zip" p2) [e1,e2] [] A) X.env)::a9 [] X.env:=by rfl) (xm:(cy k (a9 [] X.env)).any (·.1)=false:=by rfl) (hnl:cy k (a9 [] X.env)=[]:=by rfl):
  PF X (.Call (.Name "list" p) [.Call (.Name "zip" p2) [e1,e2] [] A] [] k) (λρ=>(t6 f1 (t6 f2 S8) ρ).bind YO):=by
 show qV λC s σ H Q I H9 O0 O ρ E q=>?_;dsimp only at q;show aAN (M0 I hg2 kg hv2 (aBi ?_ oa xm) (by decide) (by decide));rw[oa];change bb _ _ (spliced ((false,dm (.Call (.Name "zip" p2) [e1,e2] [] A) X.env)::cy k (a9 [] X.env))) _ _ s;show aFq (aAN (M0 I hg hm hv (aBi (D8 ((u8 zi (u8 ha2 y9 he1) he) A C s σ H (λm r=>∃v1 v2 Y g,m=[v1,v2]/\t6 f1 (t6 f2 S8) ρ=.ok [.lst Y,.lst g]/\Y.length=g.length/\Same H r/\A4 X.K r O v1 (.lst Y)/\A4 X.K r O v2 (.lst g)) I {H9,O0,O,ρ,E,?_}) λus h z9=>?_) he bo) (by decide) (by decide)))
 .cases e1:t6 f1 (t6 f2 S8) ρ with
  |ex z=>rw[e1]at q;show q
  |bad=>rw[e1]at q;show q.elim
  |ok ds=>
   rw[e1,R.aa0]at q;match ds,q with
   |[.lst Y,.lst g],q=>
    erw[YO]at q;by_cases hc:Y.length=g.length
    .intro m r h t;cases t with
     |cons ra t=>cases t with
      |cons rb t=>cases t with
       |nil=>grind
    grind
 let{m,r,J,t,v1,v2,Y,g,ev,ef,L,sm,rb1,rb2}:=z9;subst ev;rw[ef,R.aa0]at q;erw[YO]at q;rw[kc L]at q;let{a,wx,rfl,hSx,rx}:=rb1.aa5;let{b,wy,rfl,hSy,ry}:=rb2.aa5;let{u1,u2,rfl,ru1,ru2}:=vals2 t;cases ru1;cases ru2;let{N,d,{oX,nX,gX,cX,dX,sX},zX}:=J.list hSx;let{w,U,{oY,nY,gY,cY,dY,sY},zY}:=J.list hSy;have hlx:h.heap.IsList a N.toArray:={oX,gX,cX,nX,sX};have hly:h.heap.IsList b w.toArray:={oY,gY,cY,nY,sY};show call_zip_2 hlx hly λi z1 z2 z3 z4 z5 zsz k1=>?_;rw[hnl];show aFJ ?_;have lx:N.length=Y.length:=by rw[<-d.length,rx.length]
 have ly:w.length=g.length:=by rw[<-U.length,ry.length]
 have I2:=J.kept (h':=i) (t':=h.toks) k1;have D:=zipApart_new (n:=h.heap.objs.size) (aAd gX) (aAd gY);show SZ.QU (s:={h with heap:=i}) (J.ok.hd hh) D (by grind) (by rw[aAO,<-d.length];show zX) {{_,_,z1,.inl rfl},z2,{_,_,z3},z4,z5,hlx.at λo e=>k1 _ o e,hly.at λo e=>k1 _ o e} λh' B c kp gl hP=>?_;have k12:=λb u e=>kp b u (by have f:=aAd e;simp;show{aAk (aAq f<|aEK _ _),aAk (aAq f<|aEK _ _),aAk f,aAk (aAq f<|aEK _ _)}) (k1 b u e)
 have sy:A9 X.K r O w g:=A9.of U ry;let{m,Hn,rva,smn,ki,rr}:=NO (h0:=i) (h':=h') (l:=i.objs.size) (λb f=>by
  cases q:r b with
  |none=>rfl
  |some u=>show absurd f ((I2.hok b u q).live)) (B:=B.toList) (A9.of d rx) sy L (λj v hj=>by
  let{T,x,y,e1,e2,e3,e4,e5,e6}:=hP.2 j v (by rw[<-aAJ];show hj);show{T,x,y,e1,by simpa using e2,by simpa using e3,e4,λz=>e5 (by simp[z]),e6}) (by rw[aBo,hP.1,aAO,lx])
 have hls:Hn i.objs.size=none:=by
  cases q:Hn i.objs.size with
  |none=>rfl
  |some u=>have:=(ki _ u (I2.hok.fresh<|aAh _) q).2.1;show absurd rfl this
 have hlen:m.length<=sizeLine:=by rw[rva.length,aBo,hP.1,aAO,<-d.length];show zX
 have I3:=J.ae4 (Hn:=upd Hn i.objs.size (.lst m)) (h':=h') (t':=h.toks) k12 (smn.trans<|j4 hls _) (λb u n qb=>by
  by_cases f:b=i.objs.size
  .subst f;rw[j2]at qb;cases qb;show{aEN (by rw[zsz];lia),hlen,B.toList,c,rva,by rw[gl]}
  rw[m5 f]at qb;let{h0b,_,ws,its,rfl,l2,vw,tt}:=ki b u n qb;show{?_,aAn l2 (by decide),its,vw,tt};cases z:h.heap.get? b with
  |none=>rfl
  |some o=>rw[k1 b o z]at h0b;cases h0b)
 show{.ref _,_,I3,rfl,q m Hn _ (sm.trans smn) hls rr}
end
mutual
def mK:D->Nat
 |.tup Y=>L8 Y+1
 |_=>1
def L8:List D->Nat
 |[]=>0
 |x::Y=>mK x+L8 Y
end
theorem fD:∀Y a:List D,L8 (Y++a)=L8 Y+L8 a
 |[],a=>by simp[L8]
 |x::Y,a=>by rw[aBs,L8,L8,fD Y a];lia
section
variable{prog:be}{w:cf}
def PHe(prog:be)(w:cf)(h:ck)(v:au)(d:D):Prop:=∀(A:bM) (E:B6) (s:aL) (Q:Int->aL->Prop),s.heap=h->A.units+8*D4 d<cu->Q (t5 d) {s with toks:=s.toks+mK d}->bb (bc prog w) A (pyHash v) Q E s
mutual
theorem TJ:∀{v:au}{d:D},HV h v d->PHe prog w h v d
 |_,_,.int i t=>λA E s Q C H q=>(intKind prog w).pyHash (k:=i) (intKind_is _ _ _ _) q
 |_,_,.tup (a:=a) (items:=items) (ds:=ds) p r=>λA E s Q C H q=>by
  have fs:=KC r;subst C;let{o,I,N,n,O}:=p;have l:s.TypeIs (.ref a) "tuple":={o,I,N};have y:A.units<cu:=by lia
  rw[D4]at H;unfold pyHash;first|unfold pyHashByItsType|skip
  first|show aAa (wpAny_cRoomFor_or (.inr y) ?_)|skip
  show aAa (aBt l PySem.F.slot_tuple_hash.lookup ?_);change bb _ _ (if(some (Value.builtin "tuple.__hash__")==some Value.none)=true then _ else _) Q E s;rw[kd (by rw[beq_builtin_none];show aBF)];show aAa (aBt l PySem.F.slot_tuple_hash.lookup ?_);change bb _ _ (callSpecialIfBoundUnlessNone? (.ref a) "__hash__" _>>=_) Q E s;show aAa (aDz l PySem.F.slot_tuple_hash<|aAF PySem.F.slot_tuple_hash l PySem.F.entry_tuple_hash ?_ (PySem.F.args_tuple_hash_1 _));change bb _ _ (aDL (.ref a)>>=_) _ _ s;show aAa (wpAny_tupleItemsOf I O ?_);show aAa ?_;rw[<-aCl];show aCq _
   (λrest (b:Array Int) z=>∃done left,ds=done++left/\Paired (PHe prog w s.heap) rest left/\b.toList=done.map t5/\z={s with toks:=s.toks+L8 done})
   _ ?_ ?_ _ _ {[],ds,rfl,fs,rfl,rfl}
  .rintro x rest b z ⟨done,left,f,B,m,rfl⟩;cases B with
   |@cons _ d _ e T J=>
    show aAa (T _ _ _ _ rfl ?_ ?_)
    .have:D4 d<=y8 ds:=by rw[f];show qF (j:=done.length) (by simp)
     rw[w6];lia
    have L:s.toks+L8 done+mK d=s.toks+L8 (done++[d]):=by rw[fD];simp[L8];lia
    first
     |show aAc ⟨done++[d],e,by simp[f],J,by simp[m],by rw[<-L]⟩
     |show aAa (aAc (aAc ⟨done++[d],e,by simp[f],J,by simp[m],by rw[<-L]⟩))
  rintro b z ⟨done,left,f,B,m,rfl⟩;cases B;rw[aBU]at f;subst f;change bb _ _ (retInt<|aAM b.toList) _ _ _;rw[m];show wpAny_ret_mkInt ?_;change bb _ _ (if(decide (-(2:Int)^63<=aAM (ds.map t5))&&decide (aAM (ds.map t5)<2^63))=true then _ else _) Q E _;have g:=q;rw[t5,jD,mK]at g;unfold reduceHash at g;by_cases u:(decide (-(2:Int)^63<=aAM (ds.map t5))&&decide (aAM (ds.map t5)<2^63))=true
  .rw[kc u];rw[kc u]at g;show aAc g
  rw[kd u];rw[kd u]at g;show aAa (aCx<|aAc g)
theorem KC:∀{v:List au}{d:List D},HVs h v d->Paired (PHe prog w h) v d
 |_,_,.nil=>.nil
 |_,_,.cons r t=>.cons (TJ r) (KC t)
end
end
theorem gU:∀{n:Nat}{d:D},K8 n d=true->mD d=true/\D4 d<=n
 |n,.int i,_=>{rfl,by simp[D4]}
 |0,.tup Y,h=>by simp[K8]at h
 |n+1,.tup Y,h=>by
  have g:Y.all (K8 n)=true:=by simpa[K8]using h
  have e:∀a:List D,a.all (K8 n)=true->bL a=true/\y8 a<=n:=λa=>by
   induction a with
   |nil=>intro _;show{rfl,aAQ _}
   |cons y a j=>intro f;erw[aGB,aAP]at f;let{k,o}:=gU f.1;let{l,p}:=j f.2;show{by change(mD y&&bL a)=true;rw[k,l];rfl,by change max (D4 y) (y8 a)<=n;lia}
  let{m,q}:=e Y g;show{m,by change y8 Y+1<=n+1;lia}
 |n,.non,h=>by cases n<;>simp[K8]at h
 |n,.dct _,h=>by cases n<;>simp[K8]at h
 |n,.bl b,h=>by cases n<;>simp[K8]at h
 |n,.str x,h=>by cases n<;>simp[K8]at h
 |n,.lst Y,h=>by cases n<;>simp[K8]at h
mutual
theorem HV.ab2(k:∀b o,h.get? b=some o->(∃its n,o.data=.seq its n)->h'.get? b=some o):∀{v:au}{d:D},HV h v d->HV h' v d
 |_,_,.int i t=>.int i t
 |_,_,.tup p r=>.tup (by let{o,e,c,n,d}:=p;show{o,k _ _ e {_,n,d},c,n,d}) (HVs.ab2 k r)
theorem HVs.ab2(k:∀b o,h.get? b=some o->(∃its n,o.data=.seq its n)->h'.get? b=some o):∀{v:List au}{d:List D},HVs h v d->HVs h' v d
 |_,_,.nil=>.nil
 |_,_,.cons r t=>.cons (HV.ab2 k r) (HVs.ab2 k t)
end
instance decD:DecidableEq D:=λa b=>aBW _
def Z9(prog:be) (w:cf):HeapKind prog w D where
 is:=λh d a=>HV h (.ref a) d/\D4 d<8
 hash:=t5
 draws:=mK
 room:=λA=>A.units+128<cu
 inj:=λx y=>HV.inj x.1 y.1
 keeps:=λ{h u k a d o v B} x j l m=>{x.1.ab2<|by rintro b C e ⟨p,n,q⟩;show(m.2 b (λz=>by subst z;rw[j]at e;cases e;rw[l]at q;cases q)).trans e,x.2}
 pyHash:=λ{A E s k a Q} r f q=>TJ f.1 A E s Q rfl (by have:=f.2;lia) q
 eqBool:=λ{A E s x y a b Q} r g i q=>by
  have t:=LG (A:=A) g.1 i.1 (by have:=g.2;lia);show t prog w E Q ?_;have e:x8 x y=decide (x=y):=by
   by_cases h:x=y
   .subst h;rw[O5,decide_eq_true rfl]
   rw[decide_eq_false h];cases z:x8 x y with
   |false=>rfl
   |true=>show absurd (cJ g.1.ok i.1.ok z) h
  rw[e];show q
 quiet:=λ{A E s k a Q} f q=>jX 8 f.1 f.2 _ A E s Q rfl q
open Classical in
def iD(N:List (D×D)) (k v:D):List (D×D):=if k∈N.map (·.1)then N.map (λp=>if p.1=k then(p.1,v)else p)else N++[(k,v)]
def LY(N:List (D×D))(k v:D)(h:(N.map (·.1)).Nodup):((iD N k v).map (·.1)).Nodup:=by
 unfold iD;split
 .rw[aAI];have:((λx=>x.1)∘λp:D×D=>if p.1=k then(p.1,v)else p)=λp=>p.1:=by grind
  rw[this];show h
 rename_i n;grind
section
theorem JZ(I:Inv X d r H s):∀{es:List dA}{N:List (D×D)},bI X.K H O es N->∃Y:List (D×ba×au),es=Y.map (entryOfKey (Z9 X.prog X.w))/\Y.map (·.1)=N.map (·.1)/\(∀x∈Y,(Z9 X.prog X.w).is s.heap x.1 x.2.1)/\
  Paired (λ(x:D×ba×au) (p:D×D)=>x.1=p.1/\Rep X.K H O (.ref x.2.1) p.1/\(∃v,RelV v x.2.2/\Rep X.K H O v p.2)/\K8 7 p.1=true) Y N
 |_,_,.nil=>{[],rfl,rfl,λx h=>(by cases h),.nil}
 |e::_,p::_,.cons ⟨⟨a,g,f⟩,i,j,k⟩ t=>by
  let{Y,l,m,n,o}:=JZ I t;let{ok,u}:=gU k;show{(p.1,a,e.val)::Y,?_,by rw[aAm,aAm,m],λx b=>?_,.cons {rfl,f,i,k} o}
  .rw[aAm,<-l];let{q,y,z}:=e;subst g j;rfl
  rcases aAi.mp b with rfl|b
  .show{T6 I f ok rfl,by change D4 p.1<8;lia}
  show n x b
theorem AD{P:be}{w:cf}{K:kn}{H:Hp}{O:ba->Prop}:∀{Y:List (D×ba×au)}{N:List (D×D)},Paired (λ(x:D×ba×au) (p:D×D)=>x.1=p.1/\Rep K H O (.ref x.2.1) p.1/\(∃v,RelV v x.2.2/\Rep K H O v p.2)/\K8 7 p.1=true) Y N->bI K H O (Y.map (entryOfKey (Z9 P w))) N
 |_,_,.nil=>.nil
 |_,_,.cons ⟨e,a,b,k⟩ t=>.cons {{_,rfl,a},b,by rw[<-e];rfl,k} (AD t)
def X8{Y:List (D×ba×au)}{k:D}:(kb Y k).isSome=true↔k∈Y.map (·.1):=by unfold kb;grind
def zK(I:Inv X b t H s)(h:H a=some (.ext λh=>h.get? a=some o))(d:rR a o es)(r:bI X.K H O es N)(f:(N.map (·.1)).Nodup):
  ∃Y,s.heap.DictOfH (Z9 X.prog X.w) a Y/\Y.map (·.1)=N.map (·.1)/\Paired (λ(x:D×ba×au) (p:D×D)=>x.1=p.1/\Rep X.K H O (.ref x.2.1) p.1/\(∃v,RelV v x.2.2/\Rep X.K H O v p.2)/\K8 7 p.1=true) Y N:=by
 let{Y,g,e,i,j}:=JZ I r;let{_,k,l,m,n,q}:=d;show{Y,{o,l,m,((I.hok a _ h).1),k,n,by rw[q,g],i,by rw[e];show f},e,j}
def OC{K:kn}{Y:List (D×ba×au)}{N:List (D×D)}{k d:D}{b:ba}{u:au}{v:V}(f:Paired (λ(x:D×ba×au) (p:D×D)=>x.1=p.1/\Rep K H O (.ref x.2.1) p.1/\(∃v,RelV v x.2.2/\Rep K H O v p.2)/\K8 7 p.1=true) Y N)(hk:Y.map (·.1)=N.map (·.1))
  (j:Rep K H O (.ref b) k) (kk:K8 7 k=true) (g:RelV v u) (i:Rep K H O v d):
  Paired (λ(x:D×ba×au) (p:D×D)=>x.1=p.1/\Rep K H O (.ref x.2.1) p.1/\(∃v,RelV v x.2.2/\Rep K H O v p.2)/\K8 7 p.1=true) (storedH Y k b u) (iD N k d):=by
 unfold storedH iD;by_cases h:k∈N.map (·.1)
 .rw[kc h,kc (X8.mpr<|hk▸h)];clear hk h;induction f with
  |nil=>show .nil
  |@cons x p Y N r t a=>
   rw[aAm,aAm];show .cons ?_ a;unfold putAt;by_cases e:p.1=k
   .rw[kc (r.1.trans e),kc e];show{r.1,r.2.1,{v,g,i},r.2.2.2}
   rw[kd (λz=>e (r.1.symm.trans z)),kd e];show r
 rw[kd h,kd (λz=>h (hk▸X8.mp z))];clear hk h;induction f with
 |nil=>show .cons {rfl,j,{v,g,i},kk} .nil
 |cons r t a=>show .cons r a
end
section
variable{K:Type} [DecidableEq K] {knd:HeapKind prog w K}
def vN{Q:CD}(g:knd.room A.in1)(b:knd.is s.heap k a)(i:(d==eY)=false)(e:s.heap.DictOfH knd d Y)
  (h:Q (kb Y k).isSome {s with toks:=s.toks+knd.draws k}):bb (bc prog w) A (contains (.ref d) (.ref a)) Q E s:=by
 unfold contains;try with_reducible show aAG ?_
 show aAa (aBt e.typeIs aFt.lookup ?_);show aAa (wpAny_callSpecialUnlessNone?_slot e.typeIs aFt
  (aAF aFt e.typeIs entry_dict_contains ?_ (args_dict_contains _ _)))
 change bb _ _ (dictGet d (.ref a)>>=_) _ _ s;show aAa (wpAny_dictGet_heap g b e ?_);cases f:kb Y k with
 |some p=>rw[f]at h;show aAc {_,rfl,aBw h}
 |none=>rw[f]at h;show aAa (wpAny_pendingKey_other i<|aAc ⟨_,rfl,aBw h⟩)
end
def tP:D->Bool
 |.tup _=>true
 |_=>false
open Classical in
def sG(i:Nat) (ρ:Ev) (k:D):R Bool:=match ρ[i]? with
 |some (.d N)=>if K8 7 k=true/\tP k=true then .ok (!decide (k∈N.map (·.1)))else .bad
 |_=>.bad
section
def dW{K:kn}{H:Hp}{O:ba->Prop}{v:V}{k:D}(r:Rep K H O v k)(h:tP k=true):∃a,v=.ref a:=by
 cases r with
 |tup h r=>lia
 |_=>cases h
def OH(i:Nat){x:Str}{p:Pos}{f:Ev->R D}(ha:PD X e f)(hu:X.A.units+130<cu)(hN:X.N[i]?=some x:=by rfl)(hv:EF X.env.scope x:=by first|show aCs rfl|show aBC (aCs rfl)|show aBC (aBC rfl))
  (hd:(x==kM)=false:=by decide) (eh:(x==lh)=false:=by decide) (hm:h9 .NotIn (.Name x p)=false:=by first|rfl|with_unfolding_all rfl):
  EG X (.Compare e [.NotIn] [.Name x p] pos) (λρ=>(f ρ).bind (sG i ρ)):=by
 show qV λU s σ H Q I H9 O0 O ρ E q=>?_;dsimp only at q;show wpAny_isTrue_Compare1 (SH (tb:=a6b i) ha (N4 hN hv hd eh) (R:=λy x g=>∃a b o l N k,x=.ref a/\y=.ref b/\g a=some (.ext λh=>h.get? a=some o)/\rR a o l/\bI X.K g O l N/\(N.map (·.1)).Nodup/\Rep X.K g O (.ref b) k/\K8 7 k=true/\Q (!(open Classical in decide (k∈N.map (·.1)))) g) I {H9,O0,O,ρ,E,?_} λu w s2 y x g t ry rx h=>?_) hm
 .cases B:f ρ with
  |ex z=>rw[B]at q;show q
  |bad=>rw[B]at q;show q.elim
  |ok k=>
   rw[B,R.aa0]at q;intro v H1 sm r;unfold sG at q;cases C:ρ[i]? with
   |none=>rw[C]at q;show(q).elim
   |some sl=>
    rw[C]at q;cases sl with
    |d N=>
     dsimp only at q;by_cases j:K8 7 k=true/\tP k=true
     .rw[kc j]at q;let{a,o,l,h1,_,_,J,m,L,T}:=(E.grow sm).slot i _ C;let{b,rfl}:=dW r j.2;show{_,h1,a,b,o,l,N,k,rfl,rfl,J,m,L,T,r,j.1,q H1 sm}
     rw[kd j]at q;show(q).elim
    |_=>show(q).elim
 let{a,b,o,l,N,k,rfl,rfl,J,m,L,T,rk,j,qq}:=h;cases ry;cases rx;let{Y,hD,qc,hp}:=zK t J m L T;let{ok,dp}:=gU j;change bb _ _ (contains (.ref a) (.ref b)>>=λc=>pure (aDH (!c))) _ _ s2;show aAa (vN (knd:=Z9 X.prog X.w) (by change X.A.in1.units+128<cu;rw[w6];lia) {T6 t rk ok rfl,by lia} m.1 hD (aAc<|aBw ⟨g,t.tok _,?_⟩));have e3:(kb Y k).isSome=(open Classical in decide (k∈N.map (·.1))):=by
  by_cases n:k∈N.map (·.1)
  .rw[decide_eq_true n];show X8.mpr (qc▸n)
  rw[decide_eq_false n];cases z:(kb Y k).isSome with
  |false=>rfl
  |true=>show absurd (qc▸X8.mp z) n
 rw[e3];show qq
def VT(i:Nat)(w:X.N.Nodup)(y:X.N[i]?=some x:=by rfl)(A:Loc X.env.scope x:=by first|show aCs rfl|show aBC rfl)(B:d7 (.Dict [] [] a) (some (.Name x f)) g.line X.env=pure false:=by rfl)(C:X.fn x=true\/X.env.scope.names.lookup x=some .local:=by first|show .inl rfl|show .inr rfl|assumption):oU X (.Assign [.Name x f] (.Dict [] [] a) g) (λρ=>.ok (.nx (ρ.set i (.d [])))):=by
 rintro Q T r s U H D I ⟨O,ρ,E,Y,q⟩;show aEt (wpAny_Dict_empty ?_) B;have t:(s.heap.push {cls:=.type "dict",data:=.dict #[]}).get? s.heap.objs.size=some {cls:=.type "dict",data:=.dict #[]}:=aAg _ rfl;have j:=I.hok.fresh (aAh s.heap.objs.size);have l:=I.laid (o:=.ext λh=>h.get? s.heap.objs.size=some {cls:=.type "dict",data:=.dict #[]}) (h':=s.heap.push {cls:=.type "dict",data:=.dict #[]}) (t':=s.toks) (λ_ _ q=>aAb _ q) (aAh _)
  {t,{_,t},λh1 h2 e k=>k _ e}
 have m:eY<s.heap.objs.size:=aFZ (by decide) (I.mod.glob.keeps I.bk).lt;show L0 l w y A (show RelV (.ref s.heap.objs.size) _ from rfl) (λs3 J=>{_,_,J,?_}) C;have v:=E.ae3 (u:=.ext λh=>h.get? s.heap.objs.size=some {cls:=.type "dict",data:=.dict #[]}) (sl:=.d []) i j (KR l<|j2) trivial λL=>{s.heap.objs.size,_,[],rfl,.inr rfl,L,j2,{by simp[aBP m],{rfl,rfl,rfl},#[],0,rfl,rfl},.nil,aCR};show q _ _ _ v (oB l _ v.trk) λb o p n=>{by rw[m5 (t8 p j)];show p,λz=>z.elim n (t8 p j)}
def a9x(X:Cx):ZG:=λx y v H Q=>∃O a b o f N k d,x=.ref a/\y=.ref b/\H a=some (.ext λh=>h.get? a=some o)/\rR a o f/\bI X.K H O f N/\(N.map (·.1)).Nodup/\f.length<=sizeLine/\Rep X.K H O (.ref b) k/\K8 7 k=true/\Rep X.K H O v d/\
 ∀g e,rR a g e->bI X.K H O e (iD N k d)->Q (upd H a<|.ext λh=>h.get? a=some g)
def mw(hu:X.A.units+130<cu):a7h X (a9x X):=by
 intro t s σ H x y v ov iv u Q I T U ru z;let{O,a,b,o,es,N,k,d,B,ey,i,j,h6,h7,hz,C,E,rv,q}:=z;subst B ey;cases T;cases U;let{Y,J,qc,hp}:=zK I i j h6 h7;let{ok,dp}:=gU E;have f:Y.length<=sizeLine:=by let{_,B,ea,ep,hd,he}:=j;let{o2,nv,ep2,L,_,hd2,oa,_}:=J;rw[((I.hok a _ i).1)]at L;cases L;grind
 show wpAny_setItem_heap (knd:=Z9 X.prog X.w) (by change X.A.in1.units+128<cu;rw[w6];lia) {T6 I C ok rfl,by lia} J (λh' l hs=>?_) f;let{g,m,n,p,r,qg,uh,is',nd'}:=l;show{_,(I.write (o:=.ext λh=>h.get? a=some g) (h':=h') (t':=s.toks+mK k) (by rw[i];trivial) (.inl rfl) (λb u hb e=>(hs.2 b hb).trans e) {g,p} {p,{g,p},λh1 h2 e k=>k _ e}),q g _ {j.1,r,m,n,qg,rfl} (uh▸AD (OC hp qc C E ru rv))}
def AX(i:Nat) (ρ:Ev) (k d:D):R Out:=match ρ[i]? with
 |some (.d N)=>if K8 7 k=true/\tP k=true/\N.length<=sizeLine then .ok (.nx (ρ.set i<|.d (iD N k d)))else .bad
 |_=>.bad
def GJ(i:Nat){x:Str}{k:cq}{f g:Ev->R D}{p ps:Pos}(he:PD X e f)(j:PD X k g)(hu:X.A.units+130<cu)(hN:X.N[i]?=some x:=by rfl)(hv:EF X.env.scope x:=by first|show aCs rfl|show aBC (aCs rfl)|show aBC (aBC rfl))(hd:(x==kM)=false:=by decide)
  (eh:(x==lh)=false:=by decide) (ha:∀v,ka (.Subscript (.Name x p) k ps) X.env v=(do
   let t<-gn [v] (dm (.Name x p) X.env)
   let B<-gn [v,t] (dm k X.env)
   standAt ps
   gn [v,t,B] (setItem t B v)
   release [v,t,B] []):=by intro _;rfl)
  (hs:gs [.Subscript (.Name x p) k ps] e C.line X.env=pure false:=by rfl) (hw:gW [.Subscript (.Name x p) k ps] e X.env=pure none:=by rfl) (u:(ek [.Subscript (.Name x p) k ps] X.env).map (·.2)=[ka (.Subscript (.Name x p) k ps) X.env]:=by rfl):
  oU X (.Assign [.Subscript (.Name x p) k ps] e C) (λρ=>(f ρ).bind λd=>(g ρ).bind λl=>AX i ρ l d):=λU Y=>
 EH (VR he (a0h (N4 hN hv hd eh) j (mw hu) ha) hs hw u) λD σ H O ρ E fk q=>⟨U,Y,O,ρ,E,by
  cases I:f ρ with
  |ex z=>rw[I]at q;showλH' s=>q H' (E.same.trans s)
  |bad=>rw[I]at q;show q
  |ok d=>
   rw[I,R.aa0]at q;intro v H1 s1 r1;have J:=E.grow s1;cases w:g ρ with
   |ex z=>rw[w]at q;show(q H<|E.same.trans<|Same.refl _).elim
   |bad=>rw[w]at q;show aAv q
   |ok l=>
    rw[w,R.aa0]at q;unfold AX at q;cases y:ρ[i]? with
    |none=>rw[y]at q;show aAv q
    |some sl=>
     rw[y]at q;cases sl with
     |d N=>
      dsimp only at q;by_cases j:K8 7 l=true/\tP l=true/\N.length<=sizeLine
      .rw[kc j]at q;let{a,o,es,u,h2,h3,L,h5,h6,h7}:=J.slot i _ y;show{_,u,U,Y,O,ρ,J,?_};rw[w];intro kv H2 n r2;have E2:=J.grow n;let{b,rfl}:=dW r2 j.2.1;have Q:bI X.K H2 O es N:=h6.mono λr=>r.same n;show{O,a,b,o,es,N,l,d,rfl,rfl,n _ _ L,h5,Q,h7,by rw[h6.length];show j.2.2,r2,j.1,r1.same n,λo' T d' r'=>?_};let{E3,k3}:=E2.ae5 (sl':=.d (iD N l d)) (u':=.ext λh=>h.get? a=some o') y trivial u (n _ _ L) trivial trivial λhO h0 m=>{a,o',T,rfl,h2,h3,j2,d',r'.mono λr=>r.upd (n _ _ L) trivial h2,LY N l d h7};show q _ _ _ E3 fk (((Kp.of s1).trans (Kp.of n)).trans k3)
      rw[kd j]at q;show aAv q
     |_=>show aAv q⟩
end
end
section
variable [Tabs]
def _root_.L2.Inv.ae9{a:P9}{i:St}{H:Hp}{s:aL}{h':ck}{t':Nat}{L:List ba}{T:ba}{vs:List V}(I:Inv X a i H s)(k:∀b o,b∉L->s.heap.get? b=some o->h'.get? b=some o)
  (h:∀b∈L,pJ X a H b) (j:s.heap.objs.size<=T) (hz:vs.length<=sizeLine) {its:List au} (p:q9 vs its) (t:IsTup h' T its.toArray):Inv X a i (upd H T (.tup vs)) {s with heap:=h',toks:=t'}:=by
 have f:Same H (upd H T<|.tup vs):=j4 (I.hok.fresh j) _;have l:∀b u,H b=some u->b∉L:=λb u e z=>by rw[(h b z).1]at e;cases e
 show I.step (g':=s.gens) (d':=s.drawn) (λb g=>?_) (λb o _ _ d e _=>k b o d e) (λb o _ _ d e _=>{o.slots,k b o d e}) (λb o _ e n=>?_)
  (λb o d e=>{o,k b o d e}) (λb _ e=>f _ _ e) (λb _ _ e=>f _ _ e) (λb _ e=>f _ _ e) (λm w=>?_) (λb u e=>?_) I.bare
 .let{_,x,_,y,A,B}:=h b g;show{y,x,A,B}
 .rw[m5 (aAk<|aAq (aAd e) j)];show n
 .let{o,C,E,J,r}:=w;show{o,C,E,k _ o (λz=>(h _ z).2.1 rfl) J,r}
 by_cases g:b=T
 .subst g;rw[j2]at e;cases e;show{hz,its,p,t}
 rw[m5 g]at e;show(I.hok b u e).ac0 (λc v d q=>k c v ?_ q) (λ_ q=>f _ _ q) λ_ _ _ q=>f _ _ q;rcases d with z|z
 .rw[z];show l b u e
 show l c _ z
def _root_.L2.Inv.af1{a:P9}{g:St}{H:Hp}{s:aL}{h':ck}{t':Nat}{L:List ba}(I:Inv X a g H s)(k:∀b o,b∉L->s.heap.get? b=some o->h'.get? b=some o)
  (f:∀b∈L,pJ X a H b):Inv X a g H {s with heap:=h',toks:=t'}:=by
 have t:∀b u,H b=some u->b∉L:=λb u e z=>by rw[(f b z).1]at e;cases e
 show I.step (g':=s.gens) (d':=s.drawn) (λb h=>?_) (λb o _ _ d e _=>k b o d e) (λb o _ _ d e _=>{o.slots,k b o d e}) (λ_ _ _ _ n=>n)
  (λb o d e=>{o,k b o d e}) (λb _ e=>e) (λb _ _ e=>e) (λb _ e=>e) (λm i=>?_) (λb u e=>?_) I.bare
 .let{_,w,_,x,y,A}:=f b h
  lia
 .let{o,j,l,p,r}:=i;show{o,j,l,k _ o (λz=>(f _ z).2.1 rfl) p,r}
 show(I.hok b u e).ac0 (λc v d q=>k c v ?_ q) (λ_ q=>q) λ_ _ _ q=>q;grind
def a1g{h:ck}{i a:ba}{k:Nat}(x:h.IsListIter i a k):∃o,h.get? i=some o/\∀v,o.data≠.cell v:=by
 let{o,e,c,d}:=x
 simp_all
end
section
variable [Tabs]
section
variable{K:Type} [DecidableEq K] {knd:HeapKind prog w K}
end
section
variable{o e:cq}{es:List cq}{to:TE}{t:TA}{name:Str}{apos ah:Pos}{T id:String}{r:V->List V->Hp->VK->Prop}
end
def TyD(x:V)(H:Hp):Prop:=∃a o b,x=.ref a/\H a=some (.ext λh=>h.get? a=some o)/\rR a o b
open Classical in
def atK(N:List (D×D)) (k:D):Option D:=(N.find? λp=>decide (p.1=k)).map (·.2)
theorem wE{K:kn}{H:Hp}{O:ba->Prop}{k:D}:∀{Y:List (D×ba×au)}{N:List (D×D)},Paired (λ(x:D×ba×au) (p:D×D)=>x.1=p.1/\Rep K H O (.ref x.2.1) p.1/\(∃v,RelV v x.2.2/\Rep K H O v p.2)/\K8 7 p.1=true) Y N->(kb Y k=none/\atK N k=none)\/∃p d v,kb Y k=some p/\atK N k=some d/\RelV v p.2/\Rep K H O v d
 |_,_,.nil=>.inl {rfl,rfl}
 |x::_,p::_,.cons ⟨e,_,⟨v,a,r⟩,_⟩ t=>by
  by_cases h:p.1=k
  .show .inr {x.2,p.2,v,?_,?_,a,r}
   .simp[kb,e,h]
   simp[atK,h]
  have:=wE (k:=k) t;have b:∀l:List (D×ba×au),kb (x::l) k=kb l k:=λl=>by simp[kb,e,h]
  have f:∀l:List (D×D),atK (p::l) k=atK l k:=λl=>by simp[atK,h]
  simp_all
section
variable{A:bM}{s:aL}{prog:be}{w:cf}{E:B6}
end
end
end DL
namespace MM
open PySem
def PK(prog:be)(w:cf)(A:bM)(op:CmpOp)(d:ck->Prop)(P:Nat->au->Prop)(e:Nat->Nat->Bool):Prop:=
 ∀i j a b (s:aL) (Q:B6) (E:B6),d s.heap->P i a->P j b->Q (.bool (e i j)) s->bb (bc prog w) A (richCompare op a b) Q E s
section
def LP(W:WalksS prog w A.in1 I fp x G n P St){N:ck->Prop}(hH:∀i s,St i s->N s.heap)(p:Nat->Nat->Bool)(xo:PK prog w A.in1 .Lt N P p)(S:ba)(O:S∉fp):
  ∀(k j:Nat) (s:aL) (d:au) (c:Nat),n-(j+1)=k->j+1<=n->St (j+1) s->P (ff p j) d->
  s.heap.get? S=some {cls:=.type "list",dict:=none,data:=.seq #[d,d] c,slots:=#[]}->
  (∀v s',P (ff p (n-1)) v->Moved (S::x) G s s'->R (.ok (.ret v)) s')->fo (bc prog w) A (.builtin "min.loop" {[.ref I,.none,.ref S],[]}) R s:=by
 have r:=λh=>O (W.sub _ h);have z:∀b∈x,b∈S::x:=λb a=>aAe _ a;have Q:(toString "min"++toString ".loop":String)= "min.loop":=by decide
 have g:∀{b:ba},b∉S::x->S≠b:=λa h=>a (by grind);intro k;induction k with
 |zero=>
  intro j s d c hk hj B f t y;have T:j+1=n:=by omega
  show aBl aFX ?_;rw[aBk aDl _];show aAa (aAV t rfl<|aAa<|aEw<|W.done s _ _ (T▸B) λs' q=>?_);have u:=q.heap S _ r t;show aAa (aBT u rfl<|aAa<|aDD<|aAc<|y d _ (T▸f)<|(q.mono z).then_heap (aAh _) λb o a e=>(aAD _ _<|g a).trans e)
 |succ k U=>
  intro j s d c hk hj B f t y;have C:j+1<n:=by omega
  show aBl aFX ?_;rw[aBk aDl _];show aAa (aAV t rfl<|aAa<|aEw<|W.item (j+1) s _ _ C B λv s' Y E q=>?_);have u:=q.heap S _ r t;change bb _ A.in1 (tryCatch (gn [v,v]<|richCompare .Lt v d>>=_) _>>=_) _ _ _;show aAa (aEw<|aAG<|aAa<|xo (j+1) (ff p j) v d _ _ _ (hH _ _ E) Y f<|aAa<|aAG<|aBw<|aAa<|aDD<|aAc ?_);cases a:p (j+1) (ff p j)with
  |true=>
   erw[if_true];show aAa (aBT u rfl<|aAa<|aDD ?_);rw[Q];show aAc ⟨aBz aDl _,U (j+1) _ v _ (by omega) C (W.frame _ s' _ s'.toks E (aAh _) λb H o e=>?_) (by erw[ff,a,if_true];show Y) (aAZ _ u rfl)
    λJ l m L=>?_⟩
   .show(aAD _ _ (λh:S=b=>O (by rw[h];show H))).trans e
   show y J l m (aFR W.gtrans ((q.mono z).then_heap (aAh _) λb o a e=>(aAD _ _<|g a).trans e) L)
  |false=>erw[if_false];show aAa (aDD ?_);rw[Q];show aAc {aBz aDl _,U (j+1) _ d c (by omega) C E (by erw[ff,a,if_false];show f) u λJ l m L=>(y J l m<|aFR W.gtrans (q.mono z) L)}
def IN(W:WalksS prog w A.in1 I x d G n P St){p:ck->Prop}(y:∀i s,St i s->p s.heap)(f:Nat->Nat->Bool)(z:PK prog w A.in1 .Lt p P f)(S:ba)(g:S∉x)(q:0<n)(B:St 0 s)(r:s.heap.get? S=some {cls:=.type "list",dict:=none,data:=.seq #[] c,slots:=#[]})(C:∀v s',P (ff f (n-1)) v->Moved (S::d) G s s'->R (.ok (.ret v)) s'):fo (bc prog w) A (.builtin "min.loop" {[.ref I,.none,.ref S],[]}) R s:=by
 have j:=λh=>g (W.sub _ h);have E:∀b∈d,b∈S::d:=λb a=>aAe _ a;have O:(toString "min"++toString ".loop":String)= "min.loop":=by decide
 show aBl aFX (aAa<|aAV r rfl<|aAa<|aEw<|W.item 0 s _ _ q B λv s' H J t=>?_);have u:=t.heap S _ j r;change bb _ A.in1 (updateSeq S (λ_=>#[v,v])>>=_) _ _ _;show aAa (aBT u rfl<|aAc ⟨aBz aDl _,LP W y f z S g _ 0 _ v _ rfl q (W.frame _ s' _ s'.toks J (aAh _) λb k o e=>?_) H (aAZ _ u rfl) λL l m N=>?_⟩)
 .show(aAD _ _ (λh:S=b=>g (h▸k))).trans e
 show C L l m (aFR W.gtrans ((t.mono E).then_heap (aAh _) λb o a e=>(aAD _ _<|(λa h=>a (h▸aCN)) a).trans e) N)
def call_minH{E:B6}{Q:B6}(h:bb (bc prog w) A.in1 (pyIter x) (λl a=>∃I f g G n P St j d,l=.ref I/\WalksS prog w A.in1 I f g G n P St/\St 0 a/\(∀b∈f,b<a.heap.objs.size)/\0<n/\(∀i s,St i s->j s.heap)/\PK prog w A.in1 .Lt j P d/\
   ∀v s',P (ff d (n-1)) v->Moved g G a s'->Q v s') E s):
  bb (bc prog w) A (call (.builtin "min") [x]) Q E s:=by
 have B:(toString "min"++toString ".loop":String)= "min.loop":=by decide
 show call_function_tree F.kind_min F.plain_min F.entry_min (F.args_min1 _) ?_;change bb _ A.in1 (Builtin.Builtins.bindParams "min" ["key", "default"] 0 {[],[]}>>=_) _ _ s;show aAa (aEV (rfl)<|aAa<|aAc<|aAa<|aCy h (λl a m=>?_) λ_ _ e=>e);let{I,f,g,G,n,P,St,j,d,rfl,W,p,q,r,t,u,y}:=m;show aAa (aAA<|aAc ⟨aBz aDl _,IN W t d u a.heap.objs.size (λk=>aBJ _ (q _ k)) r (W.frame 0 a _ a.toks p (aAh _) λb _ o e=>aAb _ e) (aAg _ rfl) λv s' z k=>?_⟩);show y v s' z (Moved.drop_new k<|aAh _)
end
def walks_more{P:Nat->au->Prop}{St:Nat->ck->Prop}(W:Walks prog w A I m j n P St)(more:P9)(q:∀p∈more,p.1∉j):
  Walks prog w A I (m++more.map (·.1)) j n P (λi h=>St i h/\∀p∈more,h.get? p.1=some p.2)where
 sub:=λb f=>aBj _ (W.sub b f)
 frame:=λi h g st k=>{W.frame i h g st.1 λb f o e=>k b (aBj _ f) o e,λp a=>k p.1 (aAx _<|aBM a) _ (st.2 p a)}
 item:=λi s Q E r st d=>W.item i s Q E r st.1 λv g t u x l=>d v g t u {x,λp a=>l p.1 p.2 (q p a) (st.2 p a)} l
 done:=λs Q E st d=>W.done s Q E st.1 d
 self:=λi s Q E st d=>W.self i s Q E st.1 d
end MM
namespace DL
open PySem PySem.Spec L2
open PyProof.Rows hiding St
section
variable [Tabs]
section
def LL{x:Str}{a:ba}{b:Option ba}{its:Array au}{n:Nat}{sl:Array (Option au)}{ns:List Int}(d:X.mg x=some (.ref a))(e:X.K.lookup a=some {.type "tuple",b,.seq its n,sl})(f:q9 (ns.map V.int) its.toList)(hz:its.size<=sizeLine)(g:Gl X x:=by rfl)(h:(x==kM)=false:=by decide):
 PD X (.Name x i) (tj (.tup (ns.map D.int))):=AH (bx g d (show RelV (.ref a) _ from rfl) h) λH O=>.tup (.inr {_,its,n,e,rfl,rfl,hz,f}) (Reps.ints ns)
def PL:D->D->R D
 |.non,.non=>.ok (.bl true)
 |_,.non=>.ok (.bl false)
 |_,_=>.bad
def IM:lF X (dI .Is) PL:=by
 intro H O x y e f Q j d g q;show{_,a1u,?_};cases f with
 |non=>
  show{g.ab9,?_};cases e with
  |non=>rw[d.ab9];show q _ H (Same.refl _) .bl
  |bl b=>rw[d.blI];show q _ H (Same.refl _) .bl
  |int i=>rw[d.aa6];show q _ H (Same.refl _) .bl
  |str z=>rw[d.ac2];show q _ H (Same.refl _) .bl
  |tup h=>let{a,_,rfl,_}:=d.tupI;show q _ H (Same.refl _) .bl
  |lst h=>let{a,_,rfl,_}:=d.aa5;show q _ H (Same.refl _) .bl
  |dct=>let{a,_,_,rfl,_}:=d.ad9;show q _ H (Same.refl _) .bl
 |_=>cases e<;>show(q).elim
def SQ(h:PD X e f)(i:d7 e none a.line X.env=pure false:=by rfl):oU X (.Expr e a) (λρ=>(f ρ).bind λ_=>.ok (.nx ρ)):=λj k=>
 EH (jU h i) λD m H O ρ E l q=>⟨j,k,O,ρ,E,by
  cases b:f ρ with
  |ok d=>rw[b]at q;showλv g s r=>q _ g O (E.grow s) l (Kp.of s)
  |ex x=>rw[b]at q;showλg s=>q g (E.same.trans s)
  |bad=>rw[b]at q;show q⟩
def fY:List D->Option (List Bool)
 |[]=>some []
 |.bl b::a=>(fY a).map (b::·)
 |_::_=>none
theorem rY:∀{ds:List D}{bs:List Bool},fY ds=some bs->ds=bs.map D.bl
 |[],bs,h=>by cases h;rfl
 |.bl b::ds,bs,h=>by
  unfold fY at h;cases e:fY ds with
  |none=>grind
  |some l=>rw[e]at h;have a:b::l=bs:=Option.some.inj h;subst a;rw[rY e];rfl
 |.non::_,_,h|.int _::_,_,h|.str _::_,_,h|.tup _::_,_,h|.lst _::_,_,h|.dct _::_,_,h=>by cases h
def anyR:List D->R D
 |[.lst a]=>match fY a with
  |some bs=>.ok (.bl (bs.any id))
  |none=>.bad
 |_=>.bad
def IK{K:kn}{H:Hp}{O:ba->Prop}{ws:List V}{bs:List Bool}{its:List au}(r:Reps K H O ws (bs.map D.bl))(v:q9 ws its):its=bs.map aDH:=by
 induction bs generalizing ws its with
 |nil=>cases r;cases v;rfl
 |cons b bs a=>
  cases r with
  |cons r t=>
   cases v with
   |cons d e=>cases r;have:_=aDH b:=d;rw[this,a t e];rfl
def NE(bs:List Bool):(aBd bs.length).any (λi=>bs.getD i false)=bs.any id:=by
 rw[aFb,aDi,aDi];constructor
 .rintro⟨i,a,e⟩;have d:i<bs.length:=by simp_all
  show{bs[i],aDm d,?_}
  simp_all
 rintro⟨b,f,e⟩;let{i,a,rfl}:=aBg f;show{i,by simpa using a,by simpa[aAl a]using e}
def a3s(y:X.calm=true):bR X (.builtin "any") anyR:=by
 intro H O j A Q fr r q;match A,q with
 |[.lst Y],q=>
  let{v,rfl,z}:=HE r;let{p,ws,rfl,B,k}:=z.aa5;erw[anyR]at q;cases e:fY Y with
  |none=>rw[e]at q;show q.elim
  |some bs=>
   rw[e]at q;rw[rY e]at k;show{λj l m=>j=[.ref p]/\l=H/\m=Q,λn s σ l Y us m I C ⟨J,L,N⟩=>?_,rfl,rfl,rfl};subst J L N;let{u,rfl,T}:=vals1 C;cases T;let{a,g,{U,nL,t,cL,dL,sL},zL}:=I.list B;have w:=IK k g;have x:s.heap.IsList p a.toArray:={U,t,cL,nL,sL};show call_any_walk (aCz x {s.heap.objs.size,_,_,a.toArray.size,_,_,λi=>bs.getD i false,rfl,aGJ (by simp[I.ok.hd y]) s.heap.objs.size p (aAk<|aAd t) a.toArray,{{_,aAg _ rfl,rfl,rfl},x.push _},λi v s' Q E d f=>?_,λh' tk kp=>?_})
   .have d:a.toArray[i]?=some v:=d;have f:Q (bs.getD i false) s':=f;rw[aCO,w,aAH]at d;cases h:bs[i]? with
    |none=>rw[h]at d;cases d
    |some b=>rw[h]at d;have:aDH b=v:=Option.some.inj d;subst this;rw[aAt,h]at f;show aBw f
   have I2:=I.kept (h':=h') (t':=tk) λb o e=>kp b o (by erw[aAT];show aAk (aAd e)) (aAb _ e);show{.bl (bs.any id),_,I2,?_,q _ _ (Same.refl _) .bl};change aDH _=aDH _;rw[aAO,w,aAf,NE]
end
def ltI(ds:List D)(i j:Nat):Bool:=HT.lexLt (flat<|ds.getD i .non) (flat<|ds.getD j .non)
def RM:List D->R D
 |[.lst a]=>if a≠[]/\a.all cW=true then .ok (a.getD (ff (ltI a) (a.length-1)) .non)else .bad
 |_=>.bad
def AG(h:ck)(its:List au):List (ba×Obj):=its.filterMap λv=>match v with
 |.ref b=>(h.get? b).map λo=>(b,o)
 |_=>none
def EQ(a:aCL b∈its)(e:h.get? b=some o):(b,o)∈AG h its:=
 aBS.mpr {_,a,by change(h.get? b).map _=_;rw[e];rfl}
def iU(a:p∈AG h its):h.get? p.1=some p.2:=by
 let{v,_,e}:=aBS.mp a;cases v with
 |ref b=>
  have e:(h.get? b).map (λo=>(b,o))=some p:=e;cases q:h.get? b with
  |none=>simp_all
  |some o=>rw[q]at e;cases e;show q
 |_=>cases e
section
def YJ(hc:X.calm=true)(hu:X.A.units+300<cu):bR X (.builtin "min") RM:=by
 intro H O vs ds Q fr r q;match ds,q with
 |[.lst Y],q=>
  let{v,rfl,z}:=HE r;let{p,ws,rfl,h1,h2}:=z.aa5;erw[RM]at q;by_cases x:Y≠[]/\Y.all cW=true
  .rw[kc x]at q;let{ai,x}:=x;show{λvs H' Q'=>vs=[.ref p]/\H'=H/\Q'=Q,λpins s σ H' xs' us Q' I rv z9=>?_,rfl,rfl,rfl};let{e1,e2,e3}:=z9;subst e1 e2 e3;let{u,rfl,ru}:=vals1 rv;cases ru;let{f,y,{oL,nL,L,cL,dL,sL},zL}:=I.list h1;have hl:s.heap.IsList p f.toArray:={oL,L,cL,nL,sL};have st:=A9.of y h2;have l:f.toArray.size=Y.length:=by rw[aAO,<-y.length,h2.length]
   have W:=MM.walks_more (aGJ (prog:=X.prog) (w:=X.w) (A:=X.A.in1) (by simp[I.ok.hd hc]) s.heap.objs.size p (aAk<|aAd L) f.toArray) (AG s.heap f)
    (λq t=>by erw[aAT];show aAk (aAd<|iU t))
   show MM.call_minH (aCz hl {s.heap.objs.size,_,_,_,f.toArray.size,_,_,λh=>∀q∈AG s.heap f,h.get? q.1=some q.2,ltI Y,rfl,W.toS,{{{_,aAg _ rfl,rfl,rfl},hl.push _},λq t=>aAb _ (iU t)},λb k=>?_,by rw[l];show(aDV.mpr ai),λi s h=>h.2,λi j vi vj m Q2 E2 hh B hj t=>?_,λv m E J=>?_})
   .rw[aBc];rcases aAS.mp k with k|k
    .rcases aAi.mp k with rfl|k
     .show aDT _
     rcases aAi.mp k with rfl|k
     .show aBx (aAd L)
     cases k
    let{q,t,rfl}:=aAj.mp k;show aBx (aAd<|iU t)
   .have one:∀i v,f.toArray[i]?=some v->∃b a,v=.ref b/\IsTup m.heap b a/\IntsAre a.toList (flat<|Y.getD i .non):=λi v B=>by
     rw[aCO]at B;let{d,hd,w,N,T}:=J0 st B;have U:Y.getD i .non=d:=by simp_all
     rw[U];have C:=(aBB.mp x) d (aAu hd);let{b,a,rfl,{o,g,c,n,dd},hia}:=cE C (T6 I T (O7 C) N);show{b,a,rfl,{o,hh _ (EQ (aAu B) g),c,n,dd},hia}
    let{b,a,rfl,t1,i1}:=one i vi B;let{b',xl,rfl,t2,i2}:=one j vj hj;show HT.lt_tupInts t1 t2 i1 i2 (by grind) t
   have E:=E;rw[aCO,l]at E;let{d,hd,w,N,T}:=J0 st E;have U:Y.getD (ff (ltI Y)<|Y.length-1) .non=d:=by simp_all
   rw[U]at q;have es:m={s with heap:=m.heap,toks:=m.toks}:=by have g1:=J.gens;have g2:=J.drawn;have g3:=J.os;cases m;grind
   rw[es];show{w,_,(I.kept (h':=m.heap) (t':=m.toks) λb o e=>J.heap b o (by erw[aAT];show aAk (aAd e)) (aAb _ e)),N,q _ _ (Same.refl _) T}
  rw[kd x]at q;show q.elim
def dz(h:XX ds)(n:Nat)(a:n<ds.length):ff (ltI ds) n=0:=by
 induction n with
 |zero=>rfl
 |succ k b=>
  unfold ff;rw[(b (by lia))];have:ltI ds (k+1) 0=false:=by
   unfold ltI;rw[aAt,aAt,aAl a,aAl (by lia)];have:=aBH.mp h 0 (k+1) (by lia) a (by lia);cases q:HT.lexLt (flat<|(some ds[k+1]).getD .non) (flat ((some (ds[0]'(by lia))).getD .non))with
   |false=>rfl
   |true=>have z:HT.lexLt (flat (ds[0]'(by lia))) (flat (ds[0]'(by lia)))=true:=TS.lex_trans _ _ _ this q;rw[TS.lex_irrefl]at z;cases z
  rw[this];rfl
end
end
section
variable [Tabs]
end
end DL
namespace DL
open PySem PySem.Spec L2
open PyProof.Rows hiding St sub_tuple_tuple sub_list_list sub_tuple_list sub_list_tuple
section
open PySem.MeetsSeq PySem.MeetsSeq2 PySem.MeetsSeq3 PySem.AutoSeq1
def RU(l:ba)(Y:Array au)(n:Nat)(b:ba)(a:Array au)(n2:Nat)(sl:Array (Option au))(h:¬(!Y.isEmpty&&aDc (Y.size+a.size))=true)(i:Y.size<=sizeLine)(j:Y.size+a.size<=sizeLine+1):
  Meets (Builtin.«list.extend» {[.ref l,.ref b],[]}) (λ_ R s=>s.heap.get? l=some {.type "list",none,.seq Y n,#[]}/\s.heap.get? b=some {.type "list",none,.seq a n2,sl}/\R (.ok (.ret Value.none)) {s with heap:=s.heap.update l (aBY λx=>x++a),toks:=s.toks}):=
 .of_wp λe w A R s q=>by
  let{o,g,d,p,os}:=s;let{f,k,m}:=q;have r:=idx_int;have t:=sub_tuple_tuple;have u:=sub_list_list;have v:=sub_tuple_list;have y:=sub_list_tuple;have z:(Y++a).size<=sizeLine+1:=by rw[Array.size_append];show j
  wp_walk using(aBT f rfl (hz:=i) (_hz':=z)),aEY f,aEY k
  show{_,rfl,m}
end
section
def a5o(K:kn):V->List V->Hp->VK->Prop:=λx d H Q=>∃l b Y a,x=.ref l/\d=[.ref b]/\H l=some (.lst Y)/\L7 K H b a/\Y.length+a.length<=sizeLine/\Q .non (upd H l<|.lst (Y++a))
def a1t:MtM X "list.extend" (a5o X.K):=by
 intro g s N H x O v T Q I k m h;let{l,b,Y,U,rfl,rfl,i,o,hz,q}:=h;cases k;let{u,rfl,p}:=m.one;cases p;let{z,a,n,r,hl,e}:=I.af0 i;let{f,j,{{t,we,w,y},A,B,C,E,J},z2}:=I.list o;subst C E J;have jl:=j.length;have L:a.toArray.size+f.toArray.size<=sizeLine:=by grind
 have d:¬(!a.toArray.isEmpty&&aDc (a.toArray.size+f.toArray.size))=true:=by rw[QD L,aGu];grind
 show aGk F.slot_list_extend {_,e,rfl} F.entry_list_extend (F.args_list_extend_2 _ _) (RU l a.toArray n b f.toArray A y d (by grind) (by lia)) {e,B,({.non,_,I.af3 (its':=a++f) i e (by simp) (r.append j) ?_,rfl,q})}
 simp_all
end
variable [Tabs]
section
def rM(i:Nat)(A:PD X e f)(B:X.N[i]?=some x:=by rfl)(I:EF X.env.scope x:=by first|show aCs rfl|show aBC (aCs rfl)|show aBC (aBC rfl))(J:(x==kM)=false:=by decide)(L:(x==lh)=false:=by decide)(Q:eR (.Name x p) "extend" X.env (dm (.Name x p) X.env)=dm (.Name x p) X.env:=by rfl)(T:((cy g (a9 [e] X.env)).all (λx=>!x.1)&&(backToKw g (keywordEach [] X.env)).all (λx=>x.1.isSome)
   &&decide ([e].length+([]:List Keyword).length+(if([]:List Keyword).isEmpty then 0 else 1)<30))=true:=by rfl) (U:(b.endLine==g.line)=true:=by rfl) (r:a9 [e] X.env=(false,dm e X.env)::a9 [] X.env:=by rfl) (ke:(cy g (a9 [] X.env)).any (·.1)=false:=by rfl) (ue:d7 (.Call (.Attribute (.Name x p) "extend" b) [e] [] g) none l.line X.env=pure false:=by rfl):
  oU X (.Expr (.Call (.Attribute (.Name x p) "extend" b) [e] [] g) l) (λρ=>(f ρ).bind (kw i ρ)):=λH9 O0=>
 EH (jU (a0a PySem.F.plainAttrs_list PySem.F.slot_list_extend PySem.F.type_list_extend a1t (N4 B I J L) (f7 A o8 r) Q T U r ke) ue) λD σ H O ρ E fk q=>by
 cases j:f ρ with
 |ok d=>
  rw[j,R.aa0]at q;unfold kw at q;cases h:ρ[i]? with
  |none=>rw[h]at q;show(q).elim
  |some s=>
   rw[h]at q;cases s with
   |x C=>show(q).elim
   |c m φ=>show(q).elim
   |d N=>show(q).elim
   |no=>show aAv q
   |v d=>show aAv q
   |o Y=>
    cases d with
    |lst ys=>
     dsimp only at q;split at q
     .rename_i hz;let{a,t,u,h2,h3,w,y}:=E.own i Y h;show{_,u,.inl {rfl,t,L7.of w},H9,O0,O,ρ,E,?_};change MS X H O ((f ρ).bind λd=>(R.ok []).bind λds=>.ok (d::ds)) _;rw[j];intro us H1 k n;cases n with
      |cons n rn=>
       cases rn;cases n with
       |lst hb nb z=>show{a,_,t,_,rfl,rfl,k _ _ w,hb,by rw[y.length,z.length];show hz,?_};let{E2,k2}:=(E.grow k).write h u ((y.same k).append z);show q σ _ O E2 fk ((Kp.of k).trans k2)
     show aAv q
    |_=>show aAv q
 |ex x=>
  rw[j]at q;cases h:ρ[i]? with
  |none=>show(q H E.same).elim
  |some s=>show(q H E.same).elim
 |bad=>rw[j]at q;show aAv q
end
end DL
namespace TS
open PySem PyProof.Rows HT
section
def JU(A:bM)(s:aL)(x y:au)(b:Bool):Prop:=∀(a:be) (w:cf) (E:B6) (Q:CD),Q b s->bb (bc a w) A (oneLt' false x y) Q E s
def lt_two{Q:CD}(e:IsTup s.heap l #[p,r])(g:IsTup s.heap b #[a,r'])(h:f=false)(i:SeqAt.EqAt A s p a e1)(j:e1=false->JU A s p a b1)(k:e1=true->SeqAt.EqAt A s r r' e2)(m:e1=true->e2=false->JU A s r r' b2)(q:Q (bif e1 then(bif e2 then false else b2)else b1) s):bb (bc prog w) A (keyLt' (tupK f) (.ref l) (.ref b)) Q E s:=by
 let{o,t,x,n,u}:=e;let{y,v,z,B,d}:=g;subst h;show aAa (aEB t u<|aAa<|aEB v d ?_);change bb _ _ (forIn [((p,a),0),((r,r'),1)] _ _>>=_) _ _ _;rw[aCX];show aAa (aAa<|aAa<|i _ _ _ _ ?_);cases e1 with
 |false=>show aAa (j rfl _ _ _ _<|aAc<|aAc<|aAc q)
 |true=>
  show aAc ?_;dsimp only;rw[aCX];show aAa (aAa<|k rfl _ _ _ _ ?_);cases e2 with
  |false=>show aAa (m rfl rfl _ _ _ _<|aAc<|aAc<|aAc q)
  |true=>show aAc ?_;dsimp only;show aAc (aAc q)
def VA(h:∀(prog:be) (w:cf) (E:B6) (Q:B6),Q (.bool b) s->bb (bc prog w) A (richCompare .Lt x y) Q E s):JU A s x y b:=λprog w E Q q=>by rw[oneLt'_eq];show aAa (h prog w _ _<|aBw q)
def oneLt_tup(d:IsTup s.heap l items)(e:IsTup s.heap b f)(g:IntsAre items.toList ns)(h:IntsAre f.toList i)(j:A.units<cu):JU A s (.ref l) (.ref b) (HT.lexLt ns i):=
 VA λa w E Q q=>HT.lt_tupInts d e g h j q
end
end TS
namespace DL
open PySem PySem.Spec L2
open PyProof.Rows hiding St
section
def zC(k:D->List Int)(d:D):List D->List D
 |[]=>[d]
 |x::Y=>if HT.lexLt (k d) (k x)=true then d::x::Y else x::zC k d Y
def uH(k:D->List Int)(ds:List D):List D:=ds.foldr (zC k) []
def CL(k:D->List Int)(ds:List D):Prop:=ds.Pairwise λx y=>HT.lexLt (k x) (k y)=true
theorem nJ(k:D->List Int)(d:D):∀Y:List D,(zC k d Y).Perm (d::Y)
 |[]=>.refl _
 |x::Y=>by
  unfold zC;split
  .show .refl _
  show((nJ k d Y).cons x).trans (.swap d x Y)
theorem Y4(k:D->List Int):∀ds:List D,(uH k ds).Perm ds
 |[]=>.refl _
 |d::ds=>(nJ k d (uH k ds)).trans ((Y4 k ds).cons d)
theorem CQ:∀{Y:List D},CL k Y->(∀x∈Y,k x≠k d)->CL k (zC k d Y)
 |[],_,_=>aEc _ _
 |x::Y,h,n=>by
  have b:=aAs.mp h;unfold zC;split
  .rename_i lt;show aAs.mpr {λy a=>?_,h};rcases aAi.mp a with rfl|a
   .show lt
   show TS.lex_trans _ _ _ lt (b.1 y a)
  rename_i e;show aAs.mpr {λy a=>?_,CQ b.2 λz f=>n z (.tail _ f)};rcases aAi.mp ((nJ k d Y).mem_iff.mp a)with rfl|a
  .cases q:HT.lexLt (k x) (k y)with
   |true=>rfl
   |false=>show absurd (TS.lex_total _ _ q (by lia)) (n x<|.head _)
  show b.1 y a
theorem mS:∀{ds:List D},(ds.map k).Nodup->CL k (uH k ds)
 |[],_=>.nil
 |d::ds,h=>by rw[aAm,aAY]at h;show CQ (mS h.2) λx a e=>h.1 ?_;rw[<-e];show aBM ((Y4 k ds).mem_iff.mp a)
theorem lV:∀{Y a:List D},CL k Y->CL k a->Y.Perm a->Y=a
 |[],a,_,_,p=>(List.nil_perm.mp p).symm
 |x::Y,[],_,_,p=>by simp_all
 |x::Y,y::a,g,h,p=>by
  have e:=aAs.mp g;have f:=aAs.mp h;have b:x=y:=by
   rcases aAi.mp (p.mem_iff.mp<|.head _)with q|q
   .show q
   rcases aAi.mp (p.mem_iff.mpr<|.head _)with d|d
   .show d.symm
   have:=TS.lex_trans _ _ _ (f.1 x q) (e.1 y d);rw[TS.lex_irrefl]at this;cases this
  subst b;rw[lV e.2 f.2 ((List.perm_cons x).mp p)]
def gx[Tabs]{R:au->D->Prop}{key:au->List Int}{k:D->List Int}{a:List au}{ds:List D}(st:Paired R a ds)(f:a.Pairwise λx y=>HT.lexLt (key y) (key x)=false)(p:(ds.map k).Nodup)(g:∀u d,R u d->d∈ds->key u=k d):CL k ds:=by
 induction st with
 |nil=>show .nil
 |@cons u d a ds r t q=>
  have i:=aAY.mp p;have m:=aAs.mp f;show aAs.mpr {λe s=>?_,q m.2 i.2 λu d h v=>g u d h (.tail _ v)};let{j,b,rfl}:=aBg s;have n:j<a.length:=by rw[t.length];show b
  let{A,o,w}:=J0 t (aAl n);rw[aAl b]at o;cases o;have l:=m.1 a[j] (aDm n);rw[g _ _ w (.tail _ (aDm b)),g u d r (.head _)]at l;cases z:HT.lexLt (k d) (k ds[j])with
  |true=>rfl
  |false=>show absurd (aAj.mpr {ds[j],aDm b,(TS.lex_total _ _ z l).symm}) i.1
def fcB:D->Bool
 |.tup [p,.lst _]=>cW p
 |_=>false
def X9:D->List Int
 |.tup (p::_)=>flat p
 |_=>[]
def a2g(h:fcB d=true):∃p r,d=.tup [p,.lst r]/\cW p=true/\X9 d=flat p:=by
 unfold fcB at h;split at h
 .show{_,_,rfl,h,rfl}
 cases h
def sfR:D->R (List D)
 |.lst a=>if a.all fcB=true/\(a.map X9).Nodup/\a.length<=63 then .ok (uH X9 a)else .bad
 |_=>.bad
variable [Tabs]
def FV(h:ck)(u:au)(l:List Int):Prop:=∃b p r d,u=.ref b/\IsTup h b #[p,r]/\cW d=true/\HV h p d/\flat d=l
def FV.inj(x:FV h u l)(y:FV h u k):l=k:=by let{b,p,r,d,rfl,{o,g,_,n,m},_,q,rfl}:=x;let{t,v,w,z,e,{A,f,_,B,i},_,a,rfl}:=y;cases e;rw[g]at f;cases f;rw[m]at i;injection i with s _;have j:=km aGL s;erw[aGh]at j;let{rfl,_}:=j;rw[HV.inj q a]
def OJ(h:ck) (u:au):List Int:=open Classical in if p:∃l,FV h u l then p.choose else[]
def lC(x:FV h u l):OJ h u=l:=by unfold OJ;rw[dif_pos {l,x}];show FV.inj (Exists.choose_spec ({l,x}:∃l,FV h u l)) x
section
def WT(I:Inv X e m H s)(r:Rep X.K H O v d)(h:fcB d=true)(g:RelV v u):FV s.heap u (X9 d):=by
 let{p,ring,rfl,f,i}:=a2g h;cases r with
 |tup q a=>
  cases g;let{j,b,k,_}:=I.tuple q;cases a with
  |cons l a=>
   cases a with
   |cons n a=>
    cases a;cases b with
    |cons v1 b=>
     cases b with
     |cons o b=>cases b;show{_,_,_,p,rfl,k,f,T6 I l (O7 f) v1,i.symm}
end
section
def GO(ha:PB X e f)(hh:X.calm=true)(hu:X.A.units+300<cu)(hg:Gl X "sorted":=by rfl)(hm:X.mg "sorted"=none:=by assumption)(hv:cv "sorted"=some (.builtin "sorted"):=by decide+kernel)(he:a9 [e] X.env=(false,dm e X.env)::a9 [] X.env:=by rfl)(bo:(cy pos (a9 [] X.env)).any (·.1)=false:=by rfl):
  PF X (.Call (.Name "sorted" p) [e] [] pos) (λρ=>(f ρ).bind sfR):=by
 show qV λpins s σ H Q I H9 O0 O ρ E q=>?_;dsimp only at q;show aAN (M0 I hg hm hv (aBr (D8 ((J6 ha bC he) pos pins s σ H (λvs H1=>∃v B,vs=[v]/\f ρ=.ok (.lst B)/\Same H H1/\A4 X.K H1 O v (.lst B)) I {H9,O0,O,ρ,E,?_}) λus L z9=>?_) he bo) (by decide) (by decide))
 .cases e1:f ρ with
  |ex z=>rw[e1]at q;show q
  |bad=>rw[e1]at q;show q.elim
  |ok d=>
   rw[e1,R.aa0]at q;cases d with
   |lst B=>showλv H1 L r1=>{v,B,rfl,rfl,L,r1}
   |_=>show aAv q
 let{vs,H1,I1,r1,v,B,ev,ef,sm,rb}:=z9;subst ev;rw[ef,R.aa0]at q;let{a,ws,rfl,hS,rr}:=rb.aa5;let{u,rfl,ru}:=vals1 r1;cases ru;let{m,rv,{oL,nL,gL,cL,dL,sL},zL}:=I1.list hS;have hl:L.heap.IsList a m.toArray:={oL,gL,cL,nL,sL};erw[sfR]at q;by_cases hc:B.all fcB=true/\(B.map X9).Nodup/\B.length<=63
 .rw[kc hc]at q;let{nc,nd,yp}:=hc;have fc:=aBB.mp nc;have st:A9 X.K H1 O m B:=A9.of rv rr;have hlen:m.length=B.length:=st.length;have t:∀u∈m,∃i d,m[i]?=some u/\B[i]?=some d/\FV L.heap u (X9 d):=λu hu=>by let{i,hi,rfl}:=aBg hu;let{d,U,w,ql,rp}:=J0 st (aAl hi);show{i,d,aAl hi,U,WT I1 rp (fc d<|aAu U) ql}
  have keq:∀u∈m,∀u'∈m,OJ L.heap u=OJ L.heap u'->u=u':=λu hu u' hu' e=>by
   let{i,d,hi,U,fv}:=t u hu;let{j,d',hj,qg,Y}:=t u' hu';rw[lC fv,lC Y]at e;have eij:i=j:=by let{li,ei}:=aAB.mp U;let{lj,ej}:=aAB.mp qg;show(List.getElem_inj (xs:=B.map X9) (i:=i) (j:=j) (h₀:=by simpa using li) (h₁:=by simpa using lj) nd).mp ?_;grind
   grind
  show TS.sorted_keys (vs:=m) (f:=false) (key:=OJ L.heap) (C:=λs'=>∃h',s'={L with heap:=h'}/\∀b o,L.heap.get? b=some o->h'.get? b=some o)
   (λ{Q'} hq=>collect_list hl (hq _ {_,rfl,λb o e=>?_}) (by rw[hlen];show aAn yp (by decide)))
   (λs' ⟨h',N,k⟩ s6 k6 x hx y hy prog w A E hA {Q} qq=>?_) (λh2 s' ⟨h',N,k⟩ s6 k6 A {Q} qq=>?_) (by rw[hlen];lia) λs' gh h' l ⟨h1,N,k⟩ pm srt k2 hl ⟨n,gl⟩=>?_
  .show(aAD _ _<|aCF<|aAk<|aAd e).trans (aAb _ e)
  .subst N;have kk:=λb o e=>k6 b o (k b o e);let{i,d,hi,U,fv}:=t x hx;let{j,d',hj,qg,Y}:=t y hy;have kx:=lC fv;have ky:=lC Y;have eqk:=keq x hx y hy;rw[kx,ky]at qq;rw[kx,ky]at eqk;let{b,p1,r1,d1,rfl,{o,g,c,n,dd},xp,hv1,e1}:=fv;let{b',p2,r2,d2,rfl,{o',g',c',n',zv},hp2,hv2,e2}:=Y;have J:HV s6.heap p1 d1:=hv1.keeps λb o e _=>kk b o e;have hv2':HV s6.heap p2 d2:=hv2.keeps λb o e _=>kk b o e;have hA':A.units+8<cu:=by lia
   let{c1,i1,rfl,t1,ia1}:=cE xp J;let{c2,i2,rfl,t2,ia2}:=cE hp2 hv2';rw[<-e1,<-e2]at qq eqk;show TS.lt_two (e1:=x8 d1 d2) (e2:=true) (b1:=HT.lexLt (flat d1) (flat d2)) (b2:=false) {o,kk _ _ g,c,n,dd} {o',kk _ _ g',c',n',zv} rfl (LG J hv2' (by have:=KH xp;lia)) (λ_=>TS.oneLt_tup t1 t2 ia1 ia2 (by lia)) (λeq=>?_) (λ_ z=>by cases z) ?_
   .have ed:=cJ (O7 xp) (O7 hp2) eq;have er:=eqk (by rw[ed]);cases er;rw[g]at g';cases g';rw[dd]at zv;injection zv with e3 _;have e4:=km aGL e3;erw[aGh]at e4;rw[e4.2.1];show aEh _
   cases z:x8 d1 d2 with
   |false=>show qq
   |true=>have ed:=cJ (O7 xp) (O7 hp2) z;rw[ed,TS.lex_irrefl]at qq;show qq
  .subst N;have kk:=λb o e=>k6 b o (k b o e);have sg:∀x∈m,∃p,∃b r,x=.ref b/\IsTup s6.heap b r/\r[0]?=some p/\s6.TypeIs p "tuple":=λx hx=>by let{i,d,hi,U,fv}:=t x hx;let{b,p1,r1,d1,rfl,{o,g,c,n,dd},xp,hv1,e1}:=fv;have J:HV s6.heap p1 d1:=hv1.keeps λb o e _=>kk b o e;let{c1,i1,rfl,{o1,g1,cc1,_},ia1}:=cE xp J;show{_,b,_,rfl,{o,kk _ _ g,c,n,dd},rfl,{o1,g1,cc1}}
   obtain⟨gf,hgf⟩:∃gf:au->au,∀x∈m,∃b r,x=.ref b/\IsTup s6.heap b r/\r[0]?=some (gf x)/\s6.TypeIs (gf x) "tuple":=by show{λx=>open Classical in if z:x∈m then(sg x z).choose else .none,λx hx=>?_};dsimp only;grind
   show TS.kind_tuples (T:= "tuple") gf hgf (λz=>by rw[z]at h2;simp at h2) (by decide) qq
  subst N;let{uf,p2,ku}:=fX pm st;have hk:∀u d,(∃v,RelV v u/\Rep X.K H1 O v d)->d∈B->OJ L.heap u=X9 d:=by rintro u d ⟨v,rv,rp⟩ U;show lC (WT I1 rp (fc d U) rv)
  have e2:uf=uH X9 B:=lV (gx ku srt ((p2.map X9).nodup_iff.mpr nd) λu d h U=>hk u d h (p2.mem_iff.mp U)) (mS nd) (p2.trans (Y4 X9 B).symm);subst e2;let{wv,ql,ng}:=A9.ab6 ku;have I2':=I1.kept (h':=h1) (t':=L.toks) k;have I3:=I2'.laid (a:=l) (o:=.lst wv) (h':=h') (t':=L.toks) k2 hl {by rw[ng.length,(Y4 X9 B).length_eq];show aAn yp (by decide),gh,n,ql,gl};show{.ref l,_,I3,rfl,q wv _ l sm (I2'.hok.fresh hl) ng}
 rw[kd hc]at q;show q.elim
end
end
section
def DC:List Int->Int
 |[]=>0
 |a::l=>l.foldl max a
def pN:List Int->Int
 |[]=>0
 |a::l=>l.foldl min a
theorem U8:∀(l:List Int) (a:Int),(l.foldl max a=a\/l.foldl max a∈l)/\a<=l.foldl max a/\∀b∈l,b<=l.foldl max a
 |[],a=>by grind
 |c::l,a=>by let{d,e,f}:=U8 l (max a c);grind
theorem U9:∀(l:List Int) (a:Int),(l.foldl min a=a\/l.foldl min a∈l)/\l.foldl min a<=a/\∀b∈l,l.foldl min a<=b
 |[],a=>by grind
 |c::l,a=>by let{d,e,f}:=U9 l (min a c);grind
def CB(h:ns≠[]):DC ns∈ns:=by
 cases ns with
 |nil=>lia
 |cons a l=>
  rcases(U8 l a).1 with q|q
  .change l.foldl max a∈_;rw[q];show .head _
  show .tail _ q
def JD(h:a∈ns):a<=DC ns:=by
 cases ns with
 |nil=>cases h
 |cons b l=>
  rcases aAi.mp h with rfl|h
  .show(U8 l a).2.1
  show(U8 l b).2.2 a h
def tL(h:ns≠[]):pN ns∈ns:=by
 cases ns with
 |nil=>lia
 |cons a l=>
  rcases(U9 l a).1 with q|q
  .change l.foldl min a∈_;rw[q];show .head _
  show .tail _ q
def yD(h:a∈ns):pN ns<=a:=by
 cases ns with
 |nil=>cases h
 |cons b l=>
  rcases aAi.mp h with rfl|h
  .show(U9 l a).2.1
  show(U9 l b).2.2 a h
def IU:List D->R D
 |[.lst Y]=>match Y7 Y with
  |some a=>if a≠[]then .ok (.int (DC a))else .bad
  |none=>.bad
 |_=>.bad
def EA:List D->R D
 |[.lst Y]=>match Y7 Y with
  |some a=>if a≠[]then .ok (.int (pN a))else .bad
  |none=>.bad
 |_=>.bad
variable [Tabs]
section
def xS(d:IntsAre its ns)(e:its.toArray=intItems a):∀i,ix a i=ns.getD i 0:=λi=>by
 have b:=nums_intItems a;rw[<-e]at b;rw[show its.toArray.toList=its from rfl,d.numsOf]at b;unfold ix
 simp_all
def XZ(C:X.calm=true):bR X (.builtin "max") IU:=by
 intro H O k E Q fr r q;match E,q with
 |[.lst Y],q=>
  let{v,rfl,z}:=HE r;let{p,ws,rfl,l,m}:=z.aa5;erw[IU]at q;cases e:Y7 Y with
  |none=>rw[e]at q;show q.elim
  |some d=>
   rw[e]at q;dsimp only at q;by_cases f:d≠[]
   .rw[kc f]at q;rw[Q7 e]at m;rw[gQ m]at l;show{λk n o=>k=[.ref p]/\n=H/\o=Q,λw s σ n J us o I L ⟨N,T,U⟩=>?_,rfl,rfl,rfl};subst N T U;let{u,rfl,ru}:=vals1 L;cases ru;let{its,r',pl,hz}:=I.list l;have g:=DL.R0 r';let{a,h}:=g.allInts.items;have x:=pl.isList;rw[h]at x;have y:a.size=d.length:=by have:=km Array.size h;rw[aAO,g.length]at this;simpa[intItems]using this.symm
    have A:=aDV.mpr f;show max_intList (I.ok.hd C) x (by lia) λv h' tk hv hk=>?_;let{t,rfl}:=intItems_at hv;let{g1,B}:=argBest_gt (ix a) (a.size-1);have em:ix a (ff (λi j=>decide (ix a i>ix a j))<|a.size-1)=DC d:=by
     generalize ff (λi j=>decide (ix a i>ix a j)) (a.size-1)=b at g1 B;have m1:ix a b∈d:=by rw[xS g h,aAt,aAl (by lia)];show aDm _
     have m2:=JD m1;let{j,hj,ej}:=aBg (CB f);have m3:=B j (by lia);rw[xS g h j,aAt,aAl hj]at m3;grind
    rw[em];show{.int (DC d),_,I.kept hk,{t,rfl},q _ _ (Same.refl _) .int}
   rw[kd f]at q;show q.elim
def LI(C:X.calm=true):bR X (.builtin "min") EA:=by
 intro H O k E Q fr r q;match E,q with
 |[.lst Y],q=>
  let{v,rfl,z}:=HE r;let{p,ws,rfl,l,m}:=z.aa5;erw[EA]at q;cases e:Y7 Y with
  |none=>rw[e]at q;show q.elim
  |some d=>
   rw[e]at q;dsimp only at q;by_cases f:d≠[]
   .rw[kc f]at q;rw[Q7 e]at m;rw[gQ m]at l;show{λk n o=>k=[.ref p]/\n=H/\o=Q,λw s σ n J us o I L ⟨N,T,U⟩=>?_,rfl,rfl,rfl};subst N T U;let{u,rfl,ru}:=vals1 L;cases ru;let{its,r',pl,hz}:=I.list l;have g:=DL.R0 r';let{a,h}:=g.allInts.items;have x:=pl.isList;rw[h]at x;have y:a.size=d.length:=by have:=km Array.size h;rw[aAO,g.length]at this;simpa[intItems]using this.symm
    have A:=aDV.mpr f;show min_intList (I.ok.hd C) x (by lia) λv h' tk hv hk=>?_;let{t,rfl}:=intItems_at hv;let{g1,B}:=argBest_lt (ix a) (a.size-1);have em:ix a (ff (λi j=>decide (ix a i<ix a j))<|a.size-1)=pN d:=by
     generalize ff (λi j=>decide (ix a i<ix a j)) (a.size-1)=b at g1 B;have m1:ix a b∈d:=by rw[xS g h,aAt,aAl (by lia)];show aDm _
     have m2:=yD m1;let{j,hj,ej}:=aBg (tL f);have m3:=B j (by lia);rw[xS g h j,aAt,aAl hj]at m3;grind
    rw[em];show{.int (pN d),_,I.kept hk,{t,rfl},q _ _ (Same.refl _) .int}
   rw[kd f]at q;show q.elim
def QT(K:kn)(mg:eU)(x:Str)(ns:List Int):Prop:=∃a d b n e,mg x=some (.ref a)/\K.lookup a=some {.type "tuple",d,.seq b n,e}/\q9 (ns.map V.int) b.toList/\b.size<=sizeLine
omit [Tabs]in
def a2o{K:kn}{mg:eU}{x:Str}{a:ba}{b:Option ba}{n:Nat}{sl:Array (Option au)}{i j k:Int}{t u v:Tok}(d:mg x=some (.ref a))(e:K.lookup a=some {.type "tuple",b,.seq #[.int i t,.int j u,.int k v] n,sl}):QT K mg x [i,j,k]:=
 {a,b,_,n,sl,d,e,.cons {t,rfl} (.cons {u,rfl} (.cons {v,rfl} .nil)),show 3<=sizeLine by decide}
def xV(c:QT X.K X.mg x ns)(b:Gl X x:=by rfl)(d:(x==kM)=false:=by decide):PD X (.Name x e) (tj (.tup (ns.map D.int))):=by let{a,k,f,n,l,g,h,i,j}:=c;show LL g h i j b d
end
end
section
variable [Tabs]
section
variable{K:kn}
structure FunC(K:PySem.W.Frag)(x qual:Str)(st:Stmt)(f:Addr)(fd:FuncData)(cd:Addr):Prop where
 ex:∃(oc:Value) (od:Option Addr) (kV doc pm:Value) (an:Option Addr) (ct:Value) (osl:Array (Option Value)),
  fd=PySem.W.fnOf x qual (C9 st) (t7 st) (c8 st) .none kV doc pm an (.ref cd) ct/\K.lookup f=some {oc,od,.func fd,osl}/\PySem.W.codeIn K (.ref cd) qual=true
 kp:PySem.W.keepIn K (.ref f)=true
omit [Tabs]in
def FunC.fn{x qual:Str}{st:cp}{f:ba}{d:dV}{cd:ba}(F:FunC K x qual st f d cd):Fun K x qual st f d:=
 let⟨e,g,kV,a,h,i,j,b,k,l,m⟩:=F.ex
 {{e,g,kV,a,h,i,.ref cd,j,b,k,l,m},F.kp}
omit [Tabs]in
def ZL{x qual:Str}{st:cp}{f cd:ba}{h:au}{i d:Option ba}{b:Array (Option au)}{kV a g T ct:au}(l:K.lookup f=some {h,i,.func (PySem.W.fnOf x qual (C9 st) (t7 st) (c8 st) .none kV a g d T ct),b})
  (e:T=.ref cd) (c:PySem.W.codeIn K T qual=true) (k:PySem.W.keepIn K (.ref f)=true):FunC K x qual st f (PySem.W.fnOf x qual (C9 st) (t7 st) (c8 st) .none kV a g d T ct) cd:=by
 subst e;show{{h,i,kV,a,g,d,ct,b,rfl,l,c},k}
def a8v{x qual:Str}{st:cp}{f cd:ba}{i:dV}{N ps:List Str}{k:Nat}{m:List D->R D}{F:Ev->R Out}(n:FunC K x qual st f i cd)(S:FnScope N ps (c8 st))
  (p:∀(A:bM) (a:List Env) (s:aL) (H:Hp) (E:XK),Room k (A.deeper (envOfC qual (c8 st) s.heap.objs.size f (.ref cd)))->cZ (TR P w K mg base N qual (c8 st) f (.ref cd) A a s H E) (t7 st) F)
  (t:∀ds d,ds.length=ps.length->m ds=.ok d->G8 (F (n5 N ds))=.ok d):FnOk P w K mg base uM (k+1) f i ps (spD K ps.length m):=by
 let{oc,od,kV,u,pm,an,ct,v,rfl,lk,y}:=n.ex;show uq lk y S (by rintro z H Q E ⟨O,ds,d,r,g,_⟩;rw[r.length];show g) λA a s H z Q E B C=>?_;let{O,ds,d,r,g,I,J,L,e,q}:=C;show{_,uW.nox (p A a s H E B H O),O,_,gM r I J,L,?_};have h:=t ds d g e;cases j:F (n5 N ds)with
 |ok o=>
  rw[j]at h;cases o with
  |rt T=>have b:R.ok T=R.ok d:=h;injection b with b;subst b;show q
  |nx l=>have b:R.ok D.non=R.ok d:=h;injection b with b;subst b;showλag U O' Y _ _=>q .non U Y.same .non
  |bk l=>cases h
  |ct l=>cases h
 |ex x=>simp_all
 |bad=>rw[j]at h;cases h
def gy{x qual:Str}{st:cp}{f cd:ba}{b:dV}{N ps:List Str}{k:Nat}{m:List D->R D}{F:Ev->R Out}(e:FunC K x qual st f b cd)(S:FnScope N ps (c8 st))(g:Binds K b ps [])(h:mg x=some (.ref f))
  (i:∀(A:bM) (a:List Env) (s:aL) (H:Hp) (E:XK),Room k (A.deeper (envOfC qual (c8 st) s.heap.objs.size f (.ref cd)))->cZ (TR P w K mg base N qual (c8 st) f (.ref cd) A a s H E) (t7 st) F)
  (j:∀ds d,ds.length=ps.length->m ds=.ok d->G8 (F (n5 N ds))=.ok d):u9 P w K mg base (k+1) x ps.length m:=
 {f,b,ps,a8v e S i j,g,e.kp,h}
def cx(P:be)(w:cf)(K:kn)(mg:eU)(base:ck)(k d:Nat)(x:Str)(M:D->(List D->R D)->(List D->R D)->R D):Prop:=
 ∃g b a,FnOk P w K mg base uM k g b a (spF K (OX P w K mg base d 1) M)/\Binds K b a []/\PySem.W.keepIn K (.ref g)=true/\mg x=some (.ref g)/\a.length=3
def rj{x qual:Str}{st:cp}{f:ba}{b:dV}{N ps:List Str}{k e:Nat}{M:D->(List D->R D)->(List D->R D)->R D}{F:Ev->R Out}(g:Fun K x qual st f b)(S:FnScope N ps (c8 st))(h:ps.length=3)(m:Binds K b ps [])(n:mg x=some (.ref f))
  (o:∀(T:au) (A:bM) (a:List Env) (s:aL) (H:Hp) (E:XK),Room k (A.deeper (envOfC qual (c8 st) s.heap.objs.size f T))->cZ (TR P w K mg base N qual (c8 st) f T A a s H E) (t7 st) F)
  (p:∀i j l d,M i j l=.ok d->G8 (F (mG N (OX P w K mg base e 1) i j l))=.ok d):cx P w K mg base (k+1) e x M:=
 {f,b,ps,fnF g S h o p,m,g.kp,n,h}
end
section
def BF(i:Nat){Φ:(List D->R D)->Hp->(ba->Prop)->ba->Prop}(a:OX X.prog X.w X.K X.mg X.base k n=Φ)(d:MT X (e::es) f)(g:DY f n)(h:Room k X.A)(j:X.N[i]?=some x:=by rfl)(l:EF X.env.scope x:=by first|show aCs rfl|show aBC (aCs rfl)|show aBC (aBC rfl))(m:(x==kM)=false:=by decide)(o:(x==lh)=false:=by decide)(q:a9 (e::es) X.env=(false,dm e X.env)::a9 es X.env:=by rfl)(r:(cy b (a9 es X.env)).any (·.1)=false:=by rfl):
  PD X (.Call (.Name x p) (e::es) [] b) (callC Φ i f):=by
 subst a;show QO i d g h j l m o q r
def IJ(r:NstOk X k n1)(s:NstOk X k n2)(t:ClosOk X n1 u)(v:ClosOk X n2 clos2)(z:∀x b,(x,b)∈u++clos2->X.env.cells.lookup x=some b)(B:jW X.mg X.base)(C:X.env.code=.ref c)(E:PySem.W.codeHdIn X.K c H=true)(j:(H,tb)∈Tabs.tbs)(l:(n1.pos,n1.qual)∈tb)(I:(n2.pos,n2.qual)∈tb)(J:∀p∈tb,p.1.line=n1.pos.line->p.1.col=n1.pos.col->p.2=n1.qual)(m:∀p∈tb,p.1.line=n2.pos.line->p.1.col=n2.pos.col->p.2=n2.qual)(L:n1.i≠n2.i)(O:X.N.Nodup)(Q:cx X.prog X.w X.K X.mg X.base T (k+1) x M)(U:Room T X.A)(Y:PD X e f)(ye:∀y,X.fn y=true)(hg:Gl X x:=by rfl)(gc:(x==kM)=false:=by decide)(zg:a9 [e,.Name n1.name h,.Name n2.name a] X.env=(false,dm e X.env)::a9 [.Name n1.name h,.Name n2.name a] X.env:=by rfl)(zt:a9 [.Name n1.name h,.Name n2.name a] X.env=(false,dm (.Name n1.name h) X.env)::a9 [.Name n2.name a] X.env:=by rfl)(n:a9 [.Name n2.name a] X.env=(false,dm (.Name n2.name a) X.env)::a9 [] X.env:=by rfl)(bo:(cy o (a9 [.Name n1.name h,.Name n2.name a] X.env)).any (·.1)=false:=by rfl):
  cZ X [n1.stmt,n2.stmt,.Return (some (.Call (.Name x p) [e,.Name n1.name h,.Name n2.name a] [] o)) q] (λρ=>((f ((ρ.set n1.i .no).set n2.i .no)).bind λd1=>(fK n1.js ((ρ.set n1.i .no).set n2.i .no)).bind λw1=>(fK n2.js ((ρ.set n1.i .no).set n2.i .no)).bind λw2=>M d1 (n1.mm w1) (n2.mm w2)).bind λd=>.ok (.rt d)):=by
 let{g,gd,ps,FF,hb,hk,hm,h3}:=Q;show OW r s t v z B C E j l I J m L O FF U hm hk hb h3 Y ye hg gc zg zt n bo
end
end
end DL
namespace DL
open PySem L2
def _root_.L2.Room.ad8(r:Room k A):A.units+130<cu:=by have:=r.un;lia
def _root_.L2.Room.ae0(r:Room k A)(h:7<=k):A.units+300<cu:=by have:=r.un;lia
def ML{y:Str}{d:ba}{a:List (Str×ba)}(h:a.lookup y=some d:=by rfl):∀(x:Str) (b:ba),(x,b)∈[(y,d)]++[(y,d)]->a.lookup x=some b:=by simp_all
def JB{sc:ik}{fn:List Str}{x:Str}(h:sc.names.lookup x=some .free)(a:(sc.names.all λp=>p.2 !=.free||fn.contains p.1)=true:=by decide+kernel):x∈fn:=by simpa using(aBB.mp a _<|PySem.mem_of_lookup h)
def KT:cp->Pos
 |.FunctionDef _ _ _ _ _ _ _ _ _ p=>p
 |_=>{0,0,0,0}
end DL
namespace M
open PySem L2 DL
def BS:D->Option G.V
 |.tup [.int a,.int b,.int c]=>some {a,b,c}
 |_=>none
@[simp]def JY(v:G.V):BS (vd v)=some v:=rfl
def NF(h:BS d=some v):d=vd v:=by
 unfold BS at h
 lia
def G5:List D->Option (List G.V)
 |[]=>some []
 |d::a=>match BS d,G5 a with
  |some v,some b=>some (v::b)
  |_,_=>none
@[simp]theorem x6:∀vs:List G.V,G5 (vs.map vd)=some vs
 |[]=>rfl
 |v::vs=>by rw[aAm,G5,JY,x6 vs]
theorem v5:∀{ds:List D}{vs:List G.V},G5 ds=some vs->ds=vs.map vd
 |[],vs,h=>by cases h;rfl
 |d::ds,vs,h=>by
  unfold G5 at h;split at h
  .rename_i v e a b;cases h;rw[NF a,v5 b];rfl
  cases h
def M4(h:vd u=vd v):u=v:=by
 have:BS (vd u)=BS (vd v):=by rw[h]
 simpa using this
def IZ{u v:List G.V}(h:u.map vd=v.map vd):u=v:=by
 have:G5 (u.map vd)=G5 (v.map vd):=by rw[h]
 simpa using this
def bG(n:Nat)(J:List G.V):Prop:=(∀P∈J,Sz n P)/\J.length<=1000
def HS:Option G.V->D
 |some v=>vd v
 |none=>.non
def A3:List D->R D
 |[.lst Y]=>match G5 Y with
  |some a=>.ok (HS (G.B8 a))
  |none=>.bad
 |_=>.bad
open Classical in
def D6:List D->R D
 |[.lst Y]=>match G5 Y with
  |some J=>if J≠[]/\bG 1000 J then .ok (.int (G.V5 J))else .bad
  |none=>.bad
 |_=>.bad
open Classical in
def G0:List D->R D
 |[.lst Y]=>match G5 Y with
  |some J=>if bG 1000 J/\G.V5 J=3 then .ok .non else .bad
  |none=>.bad
 |_=>.bad
open Classical in
def A1:List D->R D:=v4 λa b c d=>MY λY=>eV (match G5 Y with
 |some J=>if Sz 10000 {a,b,c}/\bG 1000 J then .ok (.lst ((G.z7 {a,b,c} d J).map vd))else .bad
 |none=>.bad)
open Classical in
def F7:List D->R D:=UR λg=>MY λY=>eV ((v1 λa b c=>v1 λd e f=>eV (match G5 Y with
 |some J=>if Sz 1000 {a,b,c}/\Sz 1000 {d,e,f}/\bG 1000 J/\G.iG (G.b8 {a,b,c} {d,e,f} J).1 then .ok (wO (G.b8 {a,b,c} {d,e,f} J).1 (G.b8 {a,b,c} {d,e,f} J).2)else .bad
 |none=>.bad)) g)
abbrev K7(p:G.V×G.V):D:=.tup [vd p.1,vd p.2]
structure Land(J:List G.V)(m:G.V):Prop where
 good:G.Good J m
 sz:bG 900 J
 few:J.length<=63
 head:J.head?=some m
open Classical in
def K1:List D->R D
 |[.lst Y]=>match G5 Y with
  |some (m::J)=>if Land (m::J) m then .ok (K7 (G.i4 m (m::J)))else .bad
  |_=>.bad
 |_=>.bad
open Classical in
def gT:List D->R D:=v1 λa b c=>v1 λd e f=>v1 λg h i=>v1 λj k l=>eV (
 if Sz 10000 {a,b,c}/\Sz 1000 {d,e,f}/\Sz 1000 {g,h,i}/\Sz 1000 {j,k,l}then .ok (.int (G.turn {a,b,c} {d,e,f} {g,h,i} {j,k,l}))else .bad)
open Classical in
def V2:List D->R D:=v1 λa b c=>MY λY=>eV (match G5 Y with
 |some J=>if Sz 10000 {a,b,c}/\bG 1000 J then .ok (.lst ((G.x9 {a,b,c} J).reverse.map vd))else .bad
 |none=>.bad)
open Classical in
def W6:List D->R D:=v1 λa b c=>MY λY=>eV (match G5 Y with
 |some J=>if Sz 10000 {a,b,c}/\bG 1000 J then .ok (.lst ((G.l9 {a,b,c} J).map vd))else .bad
 |none=>.bad)
def A2:List D->R D
 |[.lst Y]=>match G5 Y with
  |some J=>if J.length<=3000 then .ok (.lst ((G.T8 J).map K7))else .bad
  |none=>.bad
 |_=>.bad
abbrev t0(J:List G.V)(f:G.V×Int):D:=.tup [wO f.1 f.2,.lst ((G.j0 J f).map vd)]
def fW(J:List G.V)(fs:List (G.V×Int)):Prop:=(∀f,f∈fs↔G.IsFace J f.1 f.2)/\CL X9 (fs.map<|t0 J)
open Classical in
def p9(J:List G.V):List (G.V×Int):=if h:∃fs,fW J fs then h.choose else[]
def X5:List D->List D->R D
 |[w],[_]=>.ok w
 |_,_=>.bad
def R1:List D->List D->R D
 |[w],[p]=>A1 [p,w]
 |_,_=>.bad
open Classical in
def K3(d:D) (a b:List D->R D):R D:=match a [.non]with
 |.ok (.lst Y)=>match G5 Y with
  |some (m::J)=>if Land (m::J) m/\(m::J).length<=14/\d=K7 (G.i4 m (m::J))/\a=X5 [.lst Y]/\b=R1 [.lst Y]then .ok (.lst ((p9 (m::J)).map (t0 (m::J))))else .bad
  |_=>.bad
 |_=>.bad
def f8(J:List G.V):List G.V:=(bW<|J.map vd).filterMap BS
open Classical in
def Q1:List D->R D
 |[.lst Y]=>match G5 Y with
  |some J=>if bG 900 J/\G.k9 J/\(f8 J).length<=14 then .ok (.lst ((p9 (f8 J)).map (t0 (f8 J))))else .bad
  |none=>.bad
 |_=>.bad
def a2y:D->Option (List G.V)
 |.tup [_,.lst Y]=>G5 Y
 |_=>none
def wA:List D->Option (List (List G.V))
 |[]=>some []
 |d::a=>match a2y d,wA a with
  |some v,some b=>some (v::b)
  |_,_=>none
open Classical in
def K5:List D->R D
 |[.lst Y]=>match wA Y with
  |some a=>if a.flatten.length<=3000/\(f8 a.flatten).length<=63 then .ok (.lst ((f8 a.flatten).map vd))else .bad
  |none=>.bad
 |_=>.bad
def F6(J:List G.V):List G.V:=f8 ((p9<|f8 J).flatMap (G.j0<|f8 J))
open Classical in
def bV:List D->R D
 |[.lst Y]=>match G5 Y with
  |some J=>if bG 900 J/\G.k9 J/\(f8 J).length<=14 then .ok (.lst ((F6 J).map vd))else .bad
  |none=>.bad
 |_=>.bad
def ne0(v:G.V):LQ (vd v) (.tup [.int 0,.int 0,.int 0])=.ok (.bl (!decide (v=0))):=by
 rw[PX];congr 3;rw[aFb];erw[aAP,beq_iff_eq,decide_eq_true_eq,G.rC]
 simp_all
def eq0(v:G.V):ZB (vd v) (.tup [.int 0,.int 0,.int 0])=.ok (.bl (decide (v=0))):=by
 rw[a3v];congr 2;rw[aFb];erw[aAP,beq_iff_eq,decide_eq_true_eq,G.rC]
 simp_all
def O9(b:G d ρ=.ok a)(e:F a=.ok (.nx ρ2)):S7 G F (d::ds) ρ=S7 G F ds ρ2:=by rw[S7,b];dsimp only;rw[e]
def lI(b:G d ρ=.ok a)(e:F a=.ok (.rt x)):S7 G F (d::ds) ρ=.ok (.rt x):=by rw[S7,b];dsimp only;rw[e]
theorem gP{e:Type}(rep:e->D)(p:e->Bool)(g:e->D):∀(l:List e),(∀a∈l,∃d,G (rep a) ρ=.ok d/\ft d=.ok (p a)/\(p a=true->fe d=.ok (g a)))->w9 G ft fe ρ (l.map rep)=.ok ((l.filter p).map g)
 |[],_=>rfl
 |a::l,h=>by
  let{d,f,i,k}:=h a (.head _);rw[aAm,w9,f];dsimp only;rw[i,R.aa0,(gP rep p g l λb j=>h b (.tail _ j))];cases m:p a with
  |false=>rw[kd (by decide),List.filter_cons_of_neg (by lia)]
  |true=>simp_all
def W9{d:Type}(rep:d->D)(g:d->D)(l:List d)(h:∀a∈l,∃b,G (rep a) ρ=.ok b/\fe b=.ok (g a)):w9 G (λ_=>.ok true) fe ρ (l.map rep)=.ok (l.map g):=by
 have:=gP rep (λ_=>true) g l λa e=>let⟨b,f,i⟩:=h a e;{b,f,rfl,λ_=>i}
 rw[this,List.filter_eq_self.mpr λ_ _=>rfl]
def small(h:n<=1000):n<=sizeLine:=aAn h (by decide)
def RF(h:n<=3000):n<=sizeLine:=aAn h (by decide)
def bG.sub(h:bG n J)(b:∀P∈a,P∈J)(d:a.length<=J.length):bG n a:={λP e=>h.1 P (b P e),aAn d h.2}
def bG.mono(h:bG m J)(a:m<=n:=by decide):bG n J:={λP b=>(h.1 P b).mono a,h.2}
def a8x(t:Int):(sgn t==0)=decide (t=0):=by
 unfold sgn
 lia
def kS(a:Sz 10000 n)(b:bG 1000 J):A1 [wO n d,.lst (J.map vd)]=.ok (.lst ((G.z7 n d J).map vd)):=by erw[A1,v4,UR,qJ,MY,eV,x6];show kc {a,b}
def UE(a:J≠[])(b:bG 1000 J):D6 [.lst (J.map vd)]=.ok (.int (G.V5 J)):=by
 erw[D6,x6]
 lia
def IL(ws:List G.V):A3 [.lst (ws.map vd)]=.ok (HS (G.B8 ws)):=by erw[A3,x6]
def GQ(bs:List Bool):fY (bs.map D.bl)=some bs:=by
 induction bs with
 |nil=>rfl
 |cons b bs a=>rw[aAm,fY,a];rfl
def a3a(bs:List Bool):anyR [.lst (bs.map D.bl)]=.ok (.bl (bs.any id)):=by erw[anyR,GQ]
def YY(Y:List D):LB (.lst Y) none (some (-1))=.ok (.lst Y.dropLast):=by
 change R.ok (D.lst<|cutD Y none<|some (-1))=_;unfold cutD HT.sIx;rw[aEG];simp
 lia
def ZR(Y:List D):LB (.lst Y) (some 1) none=.ok (.lst Y.tail):=by
 change R.ok (D.lst<|cutD Y (some 1) none)=_;unfold cutD HT.sIx;cases Y with
 |nil=>rfl
 |cons a l=>simp
def a2t(Y:List D):LB (.lst Y) none (some 1)=.ok (.lst (Y.take 1)):=by
 change R.ok (D.lst<|cutD Y none<|some 1)=_;unfold cutD HT.sIx
 simp_all
def uj(Y:List D)(a b:D):uS (Y++[a,b]) (-1)=some b:=by
 have d:(Y++[a,b]).length=Y.length+2:=by simp
 unfold uS ixN;rw[d,kd (by decide),kc (by lia)];change(Y++[a,b])[((-1:Int)+((Y.length+2:Nat):Int)).toNat]?=_;have:((-1:Int)+((Y.length+2:Nat):Int)).toNat=Y.length+1:=by lia
 simp_all
def yk(Y:List D)(a b:D):uS (Y++[a,b]) (-2)=some a:=by
 have d:(Y++[a,b]).length=Y.length+2:=by simp
 unfold uS ixN;rw[d,kd (by decide),kc (by lia)];change(Y++[a,b])[((-2:Int)+((Y.length+2:Nat):Int)).toNat]?=_;have:((-2:Int)+((Y.length+2:Nat):Int)).toNat=Y.length:=by lia
 simp_all
def a5w(a:D)(Y:List D):uS (a::Y) 0=some a:=by rw[X4 (by decide)];rfl
def a6n(a b:D)(Y:List D):uS (a::b::Y) 1=some b:=by rw[X4 (by decide)];rfl
def qy{P Q R:G.V}(h:G.iG (G.j6 P Q R).1):G.cr (Q-P) (R-P)≠0:=λe=>by
 have:(G.j6 P Q R).1=0:=by change G.mB (G.cr (Q-P)<|R-P) _=0;rw[e];rfl
 rw[this]at h;unfold G.iG at h;show absurd h (by decide)
theorem CM:∀{c:List G.V},(G.Z5 n P c).length<=c.length
 |[]=>aAh _
 |[a]=>aAh _
 |b::a::r=>by
  unfold G.Z5;split
  .show aAn (CM) (by simp)
  lia
theorem qQ:∀(a c:List G.V),(a.foldl (λc P=>P::G.Z5 n P c) c).length<=a.length+c.length
 |[],c=>by simp
 |P::a,c=>by show aAn (qQ a _) ?_;have:=CM (n:=n) (P:=P) (c:=c);simp;lia
def wR(n:G.V)(ps:List G.V):(G.x9 n ps).length<=ps.length:=by simpa[G.x9]using qQ ps []
theorem xF{b β:Type}(f:b->D):∀(Y a:List b),cS (Y.map f) (a.map f)=(Y.zip a).map λp=>D.tup [f p.1,f p.2]
 |[],_=>by simp[cS]
 |_::_,[]=>by simp[cS]
 |x::Y,y::a=>by have:=xF (β:=β) f Y a;erw[cS]at this⊢;simp[this]
def zj(a:Sz 10000 n)(b:bG 1000 J):V2 [vd n,.lst (J.map vd)]=.ok (.lst ((G.x9 n J).reverse.map vd)):=by erw[V2,v1,UR,qJ,MY,eV,x6];show kc {a,b}
def KP{n P Q R:G.V}(h:Sz 10000 n)(a:Sz 1000 P)(b:Sz 1000 Q)(d:Sz 1000 R):gT [vd n,vd P,vd Q,vd R]=.ok (.int (G.turn n P Q R)):=kc {h,a,b,d}
def Y0(a:Sz 1000 A)(b:Sz 1000 B)(d:bG 1000 J)(e:G.iG (G.b8 A B J).1):F7 [.tup [vd A,vd B],.lst (J.map vd)]=.ok (wO (G.b8 A B J).1 (G.b8 A B J).2):=by erw[F7,v1,UR,qJ,MY,eV,x6];show kc {a,b,d,e}
def nj(a:Sz 10000 n)(b:bG 1000 J):W6 [vd n,.lst (J.map vd)]=.ok (.lst ((G.l9 n J).map vd)):=by erw[W6,v1,UR,qJ,MY,eV,x6];show kc {a,b}
def TQ(h:J.length<=3000):A2 [.lst (J.map vd)]=.ok (.lst ((G.T8 J).map K7)):=by erw[A2,x6];show kc h
def qI(h:a.length+b.length<=sizeLine):pS (.lst a) (.lst b)=.ok (.lst (a++b)):=kc h
def UT(a b:G.V):HT.lexLt (flat (vd a)) (flat (vd b))=true↔G.i5 (b-a):=by
 change HT.lexLt [a.x,a.y,a.z] [b.x,b.y,b.z]=true↔_;unfold G.i5;erw[HT.lexLt,G.QS,G.TF,G.QL];by_cases d:a.x=b.x
 .lia
 simp[d];try lia
def FB{J:List G.V}(h:J.Pairwise λa b=>G.i5 (b-a)):XX (J.map vd):=aBN.mpr (h.imp λ{a b} q=>(UT a b).mpr q)
def a1v{J:List G.V}(h:XX (J.map vd)):J.Pairwise λa b=>G.i5 (b-a):=(aBN.mp h).imp λ{a b} q=>(UT a b).mp q
def PU(J:List G.V):(J.map vd).all cW=true:=aBB.mpr λd a=>by let{v,_,rfl}:=aAj.mp a;rfl
def a3y[Tabs]{m:G.V}{J:List G.V}(h:(m::J).Pairwise λa b=>G.i5 (b-a)):RM [.lst ((m::J).map vd)]=.ok (vd m):=by change(if(m::J).map vd≠[]/\((m::J).map vd).all cW=true then _ else _)=_;rw[kc {by simp,PU _},dz (FB h) _ (by simp)];rfl
def OG{k:Nat}{P Q R:G.V}(p:Sz k P)(q:Sz k Q)(r:Sz k R):Sz (k+1+(k+1)+1) (G.j6 P Q R).1:=by
 have a:=(q.sub p).cr (r.sub p);by_cases d:G.cr (Q-P) (R-P)=0
 .have:(G.j6 P Q R).1=0:=by change G.mB (G.cr (Q-P)<|R-P) _=0;rw[d];rfl
  simp_all
 let{h,i,j}:=G.oA d;have e:=bits_fdiv (b:=(G.C5 (G.cr (Q-P)<|R-P):Int)) a.1;have f:=bits_fdiv (b:=(G.C5 (G.cr (Q-P)<|R-P):Int)) a.2.1;have g:=bits_fdiv (b:=(G.C5 (G.cr (Q-P)<|R-P):Int)) a.2.2;rw[sS h]at e f g;show{e,f,g}
def CS{P Q R:G.V}(p:Sz 1000 P)(q:Sz 1000 Q)(r:Sz 1000 R):Sz 2003 (G.j6 P Q R).1:=OG p q r
def DE{A B:G.V}{J:List G.V}(p:Sz 1000 A)(q:Sz 1000 B)(r:bG 1000 J):Sz 2003 (G.b8 A B J).1:=by
 unfold G.b8;rcases G.nP J 0 A with h|h
 .show CS p q (r.1 _ h)
 rw[h];show CS p q p
def a6t(m:G.V):vd (m+G.kk)=.tup [.int m.x,.int m.y,.int (m.z+1)]:=by simp[G.kk]
def SF(h:Sz 900 m):Sz 1000 (m+G.kk):=(h.add {by decide,by decide,by decide}).mono
def QN(h:bG k J):bG k (G.z7 n d J):=h.sub (λP a=>(G.d8.mp a).1) (aGi _ _)
def WG{f:Type}{l:List f}{a b:f}(d:a∈l)(e:b∈l)(h:a≠b):∃x y r,l=x::y::r:=by
 match l,d,e with
 |[x],d,e=>show absurd ((aAT.mp d).trans (aAT.mp e).symm) h
 |x::y::r,_,_=>show{x,y,r,rfl}
open Classical in
def UG{N:List (D×D)}{k v a:D}:a∈(iD N k v).map (·.1)↔a∈N.map (·.1)\/a=k:=by
 unfold iD;split
 .rename_i h;grind
 simp
def SV{N:List (D×D)}{k v:D}:(iD N k v).length<=N.length+1:=by
 unfold iD;split
 .simp
 simp
def ZI{p q:G.V×G.V}(h:K7 p=K7 q):p=q:=by injection h with h;injection h with b a;injection a with a _;show aDt (M4 b) (M4 a)
def GF(p:G.V×G.V):K8 7 (K7 p)=true/\tP (K7 p)=true:={rfl,rfl}
def ffC:Ev->R Bool:=λa=>((((BN 5 a).bind λd=>R.ok [d]).bind kR).bind λx=>gtR x (D.int 0)).bind OY
def ffS:Ev->R Out:=λa=>
 C1 ((Z6 9 a).bind λb=>AX 4 a b (D.bl true)) λa=>((((BN 9 a).bind λx=>W7 x (D.int 1)).bind λd=>(((BN 9 a).bind λx=>W7 x (D.int 0)).bind λd=>R.ok [d]).bind λe=>R.ok (d::e)).bind uT).bind (AF 5 a)
theorem KI{a b f g a6 a7 i:Sl}:∀(j:List (G.V×G.V)) (N:List (D×D)) (W:List (G.V×G.V)) (r:Sl),N.length+j.length<=10000->W.length+j.length<=10000->
  ∃p n,S7 (λd ρ=>R.ok (aEi ρ 9 (Sl.v d))) ffS (j.map K7) [a,b,f,g,.d N,.o (W.map K7),a6,a7,i,r]=.ok (.nx [a,b,f,g,.d p,.o ((W++j.map λq=>(q.2,q.1)).map K7),a6,a7,i,n])/\
   (∀e:G.V×G.V,K7 e∈p.map (·.1)↔K7 e∈N.map (·.1)\/e∈j)/\p.length<=N.length+j.length
 |[],N,W,r,_,_=>by simp_all
 |q::j,N,W,r,s,t=>by
  erw[aAp]at s t;have B:=SV (N:=N) (k:=K7 q) (v:=.bl true);let{p,n,e,m,l}:=KI j (iD N (K7 q)<|.bl true) (W++[(q.2,q.1)]) (.v (K7 q)) (by lia) (by simp;lia);show{p,n,?_,λx=>?_,by simp;lia}
  .rw[aAm];show(O9 (ρ2:=[a,b,f,g,.d (iD N (K7 q)<|.bl true),.o ((W++[(q.2,q.1)]).map K7),a6,a7,i,.v (K7 q)]) rfl ?_).trans ?_
   .have u:N.length<=sizeLine:=aAn (show N.length<=10000 by lia) (by decide);have w:(W.map K7).length<sizeLine:=by rw[aAf];show aCK (show W.length<=10000 by lia) (by decide)
    have y:AX 4 [a,b,f,g,.d N,.o (W.map K7),a6,a7,i,.v (K7 q)] (K7 q) (.bl true)=.ok (.nx [a,b,f,g,.d (iD N (K7 q)<|.bl true),.o (W.map K7),a6,a7,i,.v (K7 q)]):=by change(if _ then _ else _)=_;rw[kc {(GF q).1,(GF q).2,u}];rfl
    have z:AF 5 [a,b,f,g,.d (iD N (K7 q)<|.bl true),.o (W.map K7),a6,a7,i,.v (K7 q)] (K7 (q.2,q.1))=.ok (.nx [a,b,f,g,.d (iD N (K7 q)<|.bl true),.o ((W++[(q.2,q.1)]).map K7),a6,a7,i,.v (K7 q)]):=by change(if _ then _ else _)=_;rw[kc w,aBX];rfl
    change C1 ((R.ok<|K7 q).bind λA=>AX 4 [a,b,f,g,.d N,.o (W.map K7),a6,a7,i,.v (K7 q)] A (D.bl true)) _=_;rw[R.aa0,y];show z
   rw[e];simp
  rw[m x,UG,aAi];constructor
  .rintro((h|h)|h)
   .show .inl h
   .show .inr (.inl (ZI h))
   show .inr (.inr h)
  grind
section
variable(Φ:(List D->R D)->Hp->(ba->Prop)->ba->Prop)
def ffB:Ev->R Out:=λa=>
 C1 ((HL 5 a).bind λz=>R.ok (Out.nx<|aEi z.snd 6<|Sl.v z.fst)) λa=>
  ((Z6 6 a).bind (sG 4 a)).bind λt=>
   if t=true then
    C1
     ((((Z6 6 a).bind λd=>((callC Φ 1 (t6 (λa=>(BN 6 a).bind λx=>W7 x (D.int 0)) S8) a).bind λd=>R.ok [d]).bind λb=>R.ok (d::b)).bind F7).bind λd=>R.ok (Out.nx<|aEi a 7<|Sl.v d))
     λa=>
     C1
      (((((BN 7 a).bind λx=>LB x none (some 3)).bind λd=>((callC Φ 2 (t6 (Z6 7) S8) a).bind λd=>R.ok [d]).bind λb=>R.ok (d::b)).bind W6).bind λd=>R.ok (Out.nx<|aEi a 8<|Sl.v d))
      λa=>
      C1 ((((Z6 7 a).bind λd=>((Z6 8 a).bind λd=>R.ok [d]).bind λb=>R.ok (d::b)).bind uT).bind (AF 3 a))
       λa=>((((Z6 8 a).bind λd=>R.ok [d]).bind A2).bind lE).bind λb=>S7 (λd a=>R.ok (aEi a 9<|Sl.v d)) ffS b a
   else R.ok (Out.nx a)
def ED(L:D) (e:G.V×G.V) (fs:List D) (N:List (D×D)) (W:List (G.V×G.V)) (a b c d:Sl):Ev:=
 [Sl.v (K7 e),Sl.c (X5 [L]) (Φ<|X5 [L]),Sl.c (R1 [L]) (Φ<|R1 [L]),.o fs,.d N,.o (W.map K7),a,b,c,d]
end
def BI{Φ:(List D->R D)->Hp->(ba->Prop)->ba->Prop}{i:Nat}{f:Ev->R (List D)}{ρ:Ev}{m:List D->R D}{ds:List D}(h:ρ[i]?=some (.c m (Φ m)))(a:f ρ=.ok ds):callC Φ i f ρ=m ds:=by
 unfold callC
 simp_all
def nU(J:List G.V)(fs:List (G.V×Int)):Nat:=(fs.map λf=>(G.j0 J f).length).sum
def gJ(J:List G.V)(fs:List (G.V×Int))(f:G.V×Int):nU J (fs++[f])=nU J fs+(G.j0 J f).length:=by simp[nU]
def WL{J:List G.V}{m:G.V}(h:Land J m):Sz 1000 (G.i4 m J).1/\Sz 1000 (G.i4 m J).2:=by
 have a:=h.sz.1 m h.good.mem;let{j,e,f,g,i}:=G.CG h.good.solid h.good.mem h.good.least;unfold G.i4;dsimp only;split
 .show{a.mono,SF a}
 let{x,y,r,b}:=WG e g i;rw[b];have q:∀z∈x::y::r,Sz 1000 z:=λz d=>by rw[<-b]at d;show(h.sz.1 z (G.d8.mp d).1).mono
 show{q x (.head _),q y (.tail _ (.head _))}
def rz{J:List G.V}{m:G.V}(h:Land J m){fs:List (G.V×Int)}{b:G.V×G.V->Prop}{W:List (G.V×G.V)}(L:G.LInv J (G.i4 m J) fs b W){p:G.V×G.V}(d:p∈W):Sz 1000 p.1/\Sz 1000 p.2:=by
 rcases L.wt p d with⟨f,g,i⟩|⟨_,e⟩
 .have S:=(L.face f g).aa2 h.good.ord;have a:=S.aa1.mp i;show{(h.sz.1 _ (G.d8.mp a.q).1).mono,(h.sz.1 _ (G.d8.mp a.p).1).mono}
 rw[e];show WL h
def PN{J:List G.V}{m:G.V}(h:Land J m){f:G.V×Int}(a:G.IsFace J f.1 f.2):(G.j0 J f).length<=J.length:=by have S:=a.aa2 h.good.ord;show G.Q4 S.aa4 λx b=>(G.d8.mp<|S.aa3 b).1
def CT{J:List G.V}{f g:G.V×Int}(h:X9 (t0 J f)=X9 (t0 J g)):f=g:=by have h:[f.1.x,f.1.y,f.1.z,f.2]=[g.1.x,g.1.y,g.1.z,g.2]:=h;erw[aGh,and_true]at h;show aDt (G.ext h.1 h.2.1 h.2.2.1) h.2.2.2
def uY{d β:Type}{f:d->β}(g:∀a b,f a=f b->a=b){l:List d}(h:l.Nodup):(l.map f).Nodup:=aBN.mpr (h.imp λ{a b} n e=>n (g a b e))
def ZV{Φ:(List D->R D)->Hp->(ba->Prop)->ba->Prop}{J:List G.V}{m:G.V}(hz:Land J m){fs:List (G.V×Int)}{N:List (D×D)}{W:List (G.V×G.V)}{a b c d:Sl}(L:G.LInv J (G.i4 m J) fs (λe=>K7 e∈N.map (·.1)) W)
  (hk:N.length<=nU J fs) (hW:W.length<=1+nU J fs) {n:Nat} (hn:W.length+(J.length*J.length-nU J fs)<n+1) (U:W≠[]):
  ∃k l W' Y b' c' d',ffB Φ (ED Φ (.lst (J.map vd)) (G.i4 m J) (fs.map (t0 J)) N W a b c d)=.ok (.nx (ED Φ (.lst (J.map vd)) (G.i4 m J) (k.map (t0 J)) l W' Y b' c' d'))/\
   G.LInv J (G.i4 m J) k (λe=>K7 e∈l.map (·.1)) W'/\l.length<=nU J k/\W'.length<=1+nU J k/\W'.length+(J.length*J.length-nU J k)<n:=by
 obtain⟨rest,p,rfl⟩:∃rest p,W=rest++[p]:={W.dropLast,W.getLast U,(List.dropLast_concat_getLast U).symm};have o:=G.gK hz.good.solid hz.good.ord L.nd L.face;have r:=hz.few;have nn:=aEx r r;have hsum:=o;have C:(rest++[p]).length=rest.length+1:=by simp
 rw[C]at hW hn;have E:HL 5 (ED Φ (.lst (J.map vd)) (G.i4 m J) (fs.map<|t0 J) N (rest++[p]) a b c d)=.ok (K7 p,ED Φ (.lst (J.map vd)) (G.i4 m J) (fs.map<|t0 J) N rest a b c d):=by change(match((rest++[p]).map K7)[((rest++[p]).map K7).length-1]? with|some d=>_|none=>_:R (D×Ev))=_;rw[aBX];simp;rfl
 have H:sG 4 (ED Φ (.lst (J.map vd)) (G.i4 m J) (fs.map<|t0 J) N rest (.v (K7 p)) b c d) (K7 p)=.ok (!(open Classical in decide (K7 p∈N.map (·.1)))):=by unfold sG;rw[show(ED Φ (.lst (J.map vd)) (G.i4 m J) (fs.map<|t0 J) N rest (.v (K7 p)) b c d)[4]?=some (.d N)from rfl];dsimp only;rw[kc (GF p)]
 have A:bG 1000 J:=hz.sz.mono;unfold ffB;rw[E];show∃k l W' Y b' c' d',C1 (R.ok<|Out.nx<|ED Φ (.lst (J.map vd)) (G.i4 m J) (fs.map<|t0 J) N rest (.v (K7 p)) b c d) _=_/\_;rw[F4];rw[show Z6 6 (ED Φ (.lst (J.map vd)) (G.i4 m J) (fs.map<|t0 J) N rest (.v (K7 p)) b c d)=.ok (K7 p)from rfl,R.aa0,H,R.aa0];by_cases s:K7 p∈N.map (·.1)
 .show{fs,N,rest,.v (K7 p),b,c,d,?_,G.XH hz.good L rfl s,hk,by lia,by lia};rw[decide_eq_true s];rfl
 have t:p∈rest++[p]:=by simp
 let{B,n2,n3}:=G.DO hz.good L t s;let{u,w}:=rz hz L t;have ab:=Y0 u w A B.prim;have i:=DE u w A;obtain⟨f,ef⟩:∃f,G.b8 p.1 p.2 J=f:={_,rfl};rw[ef]at B n2 n3 ab i;have po:=kS (d:=f.2) i.mono A;have I:=nj (n:=f.1) (J:=G.z7 f.1 f.2 J) i.mono (QN A);have rl:=PN hz B;have I:=I;have pr:=TQ (J:=G.j0 J f) (by lia);have O:=λ{wk'}{W'} h1 h2=>G.XG hz.good L (rest:=rest) (p:=p) rfl s (walked':=wk') (waiting':=W') h1 h2;rw[ef]at O;have Q:(fs++[f]).Nodup:=by
  have:=(O (wk':=λe=>K7 e∈N.map (·.1)\/e∈G.T8 (G.j0 J f)) (W':=rest++(G.T8<|G.j0 J f).map λq=>(q.2,q.1)) (λe=>Iff.rfl) (λq=>by
   rw[aAS,aAj];constructor
   .lia
   rintro(h|h)
   .show .inl h
   show .inr {_,h,rfl}))
  show this.nd
 have j:nU J (fs++[f])+J.length<=J.length*J.length:=G.gK hz.good.solid hz.good.ord Q λg hg=>by
  rcases aAS.mp hg with z|z
  .show L.face g z
  rw[aAT.mp z];show B
 rw[gJ]at j;have clen:(G.T8<|G.j0 J f).length=(G.j0 J f).length:=by unfold G.T8;simp;lia
 let{l,T,run,y,len'}:=KI (a6:=.v (K7 p)) (a7:=.v (wO f.1 f.2)) (G.T8<|G.j0 J f) N rest d (by lia) (by lia);show{fs++[f],l,rest++(G.T8<|G.j0 J f).map (λq=>(q.2,q.1)),.v (K7 p),.v (wO f.1 f.2),.v (.lst ((G.j0 J f).map vd)),T,?_,O y (λq=>?_),?_,?_,?_}
 .have ap:AF 3 (ED Φ (.lst (J.map vd)) (G.i4 m J) (fs.map<|t0 J) N rest (.v (K7 p)) (.v (wO f.1 f.2)) (.v (.lst ((G.j0 J f).map vd))) d) (t0 J f)=.ok (.nx (ED Φ (.lst (J.map vd)) (G.i4 m J) ((fs++[f]).map (t0 J)) N rest (.v (K7 p)) (.v (wO f.1 f.2)) (.v (.lst ((G.j0 J f).map vd))) d)):=by change(if(fs.map<|t0 J).length<sizeLine then _ else _)=_;have h3:=G.oW hz.good.solid hz.good.ord L.face;have h3:=h3;rw[kc (by rw[aAf];show aCK (show fs.length<=4000 by lia) (by decide)),aBX];rfl
  have ca:callC Φ 1 (t6 (λρ=>(BN 6 ρ).bind λx=>W7 x (D.int 0)) S8) (ED Φ (.lst (J.map vd)) (G.i4 m J) (fs.map<|t0 J) N rest (.v (K7 p)) b c d)=.ok (.lst (J.map vd)):=by show(BI (ds:=[vd p.1]) rfl rfl).trans rfl
  have ct:callC Φ 2 (t6 (Z6 7) S8) (ED Φ (.lst (J.map vd)) (G.i4 m J) (fs.map<|t0 J) N rest (.v (K7 p)) (.v (wO f.1 f.2)) c d)=.ok (.lst ((G.z7 f.1 f.2 J).map vd)):=by show(BI (ds:=[wO f.1 f.2]) rfl rfl).trans po
  have sl:LB (wO f.1 f.2) none (some 3)=.ok (vd f.1):=rfl;rw[decide_eq_false s];erw[Bool.not_false,if_true];rw[ca,R.aa0,R.aa0,R.aa0,R.aa0,ab,R.aa0];change C1 (R.ok<|Out.nx<|ED Φ (.lst (J.map vd)) (G.i4 m J) (fs.map<|t0 J) N rest (.v (K7 p)) (.v (wO f.1 f.2)) c d) _=_;rw[F4];rw[ct];change C1 ((((R.ok<|wO f.1 f.2).bind λx=>LB x none (some 3)).bind λd=>(R.ok [D.lst ((G.z7 f.1 f.2 J).map vd)]).bind λds=>R.ok (d::ds)).bind W6|>.bind λd=>R.ok (Out.nx<|aEi _ 8<|Sl.v d)) _=_;rw[R.aa0,sl,R.aa0,R.aa0,R.aa0,I,R.aa0];rw[F4];change C1 (AF 3 (ED Φ (.lst (J.map vd)) (G.i4 m J) (fs.map<|t0 J) N rest (.v (K7 p)) (.v (wO f.1 f.2)) (.v (.lst ((G.j0 J f).map vd))) d)<|t0 J f) _=_;rw[ap,F4];change((A2 [.lst ((G.j0 J f).map vd)]).bind lE).bind _=_;rw[pr,R.aa0];show run
 .rw[aAS,aAj];grind
 .rw[gJ];lia
 .rw[gJ,aAy,aAf];lia
 rw[gJ,aAy,aAf];lia
def jw(J:List G.V)(f:G.V×Int):List (G.V×Int)->List (G.V×Int)
 |[]=>[f]
 |x::Y=>if HT.lexLt (X9 (t0 J f)) (X9 (t0 J x))=true then f::x::Y else x::jw J f Y
def JP(J:List G.V)(fs:List (G.V×Int)):List (G.V×Int):=fs.foldr (jw J) []
theorem DI(J:List G.V)(f:G.V×Int):∀Y:List (G.V×Int),zC X9 (t0 J f) (Y.map (t0 J))=(jw J f Y).map (t0 J)
 |[]=>rfl
 |x::Y=>by
  unfold jw;rw[aAm,zC];split
  .rfl
  rw[aAm,DI J f Y]
theorem gS(J:List G.V):∀fs:List (G.V×Int),uH X9 (fs.map (t0 J))=(JP J fs).map (t0 J)
 |[]=>rfl
 |f::fs=>by change zC X9 (t0 J f) (uH X9 (fs.map (t0 J)))=_;rw[gS J fs,DI];rfl
def mF(h:t0 J f=t0 J g):f=g:=CT (by rw[h])
theorem iO:∀{a b:List (G.V×Int)},a.map (t0 J)=b.map (t0 J)->a=b
 |[],[],_=>rfl
 |[],_::_,h=>by cases h
 |_::_,[],h=>by cases h
 |x::a,y::b,h=>by injection h with d e;rw[mF d,iO e]
def OS:f∈JP J fs↔f∈fs:=by
 have h:=(Y4 X9<|fs.map<|t0 J).mem_iff (a:=t0 J f);rw[gS]at h;constructor
 .intro q;let{g,b,e}:=aAj.mp (h.mp<|aBM q);rw[<-mF e];show b
 intro q;let{g,b,e}:=aAj.mp (h.mpr<|aBM q);rw[<-mF e];show b
def wJ[Tabs]{J:List G.V}{fs:List (G.V×Int)}(h:fs.Nodup):((fs.map (t0 J)).map X9).Nodup:=by rw[aAI];show uY (λa b e=>CT e) h
def Y2(h:CL k l):l.Nodup:=h.imp λ{a b} q e=>by subst e;rw[TS.lex_irrefl]at q;cases q
def P3{J:List G.V}{fs:List (G.V×Int)}(h:(fs.map (t0 J)).Nodup):fs.Nodup:=(aBN.mp h).imp λ{a b} n e=>n (by rw[e])
def DP{J:List G.V}{fs d:List (G.V×Int)}(a:fW J fs)(b:fW J d):fs=d:=by have e:=P3 (Y2 a.2);have g:=P3 (Y2 b.2);show iO (lV a.2 b.2 (((aCG e g).mpr λf=>by rw[a.1,b.1]).map _))
def qP(h:fW J fs):p9 J=fs:=by unfold p9;have q:∃fs,fW J fs:={fs,h};rw[dif_pos q];show DP q.choose_spec h
def xJ[Tabs]{J:List G.V}{fs:List (G.V×Int)}(a:fs.Nodup)(h:∀n d,(n,d)∈fs↔G.IsFace J n d):fW J (JP J fs):=by show{λf=>by rw[OS];show h f.1 f.2,?_};rw[<-gS];show mS (wJ a)
def a5v[Tabs]{Φ:(List D->R D)->Hp->(ba->Prop)->ba->Prop}{J:List G.V}{m:G.V}(hz:Land J m)(h:J.length<=14):
  G8 (C1 (U1 ffC (ffB Φ) 5000 (ED Φ (.lst (J.map vd)) (G.i4 m J) [] [] [G.i4 m J] .no .no .no .no)) λρ=>(((BN 3 ρ).bind sfR).bind λds=>R.ok (D.lst ds)).bind λd=>R.ok (Out.rt d))=.ok (.lst ((p9 J).map (t0 J))):=by
 show MA (Iv:=λn ρ=>∃fs N W a b c d,ρ=ED Φ (.lst (J.map vd)) (G.i4 m J) (fs.map<|t0 J) N W a b c d/\G.LInv J (G.i4 m J) fs (λe=>K7 e∈N.map (·.1)) W/\N.length<=nU J fs/\W.length<=1+nU J fs/\W.length+(J.length*J.length-nU J fs)<n) ?_ ?_ ?_ (by grind)
 .rintro n ρ ⟨fs,N,W,a,b,c,d,rfl,L,o,q,r⟩;by_cases g:W=[]
  .subst g;show .inl rfl
  show .inr {?_,?_}
  .have t:(0:Int)<((W.map K7).length:Int):=by have:=aDV.mpr g;grind
   change(R.ok<|D.bl<|decide ((0:Int)<((W.map K7).length:Int))).bind OY=_;rw[decide_eq_true t];rfl
  let{u,v,w,x,y,z,A,e,B,C,i,j}:=ZV (Φ:=Φ) (a:=a) (b:=b) (c:=c) (d:=d) hz L o q r g;show{_,e,u,v,w,x,y,z,A,rfl,B,C,i,j}
 .show{[],[],[G.i4 m J],.no,.no,.no,.no,rfl,?_,aAh _,aAh _,?_}
  .have:=G.IG hz.good;grind
  have E:=aEx h h;grind
 rintro n ρ ⟨fs,N,W,a,b,c,d,rfl,L,o,q,r⟩ s;have k:W=[]:=by
  cases W with
  |nil=>rfl
  |cons p W=>
   have s:(R.ok<|D.bl<|decide ((0:Int)<(((p::W).map K7).length:Int))).bind OY=.ok false:=s
   simp_all
 subst k;let{g,H}:=G.VU hz.good L;rw[qP (xJ L.nd H)];have I:=G.gK hz.good.solid hz.good.ord L.nd L.face;have l:=G.oW hz.good.solid hz.good.ord L.face;have E:J.length*J.length<=14*J.length:=Nat.mul_le_mul_right _ h;have O:sfR (.lst (fs.map<|t0 J))=.ok ((JP J fs).map (t0 J)):=by change(if _ then _ else _)=_;rw[kc {aBB.mpr λd Q=>by let{f,_,rfl}:=aAj.mp Q;rfl,wJ L.nd,(by grind)},gS]
 change G8 ((((R.ok<|D.lst<|fs.map<|t0 J).bind sfR).bind λds=>R.ok (D.lst ds)).bind λd=>R.ok (Out.rt d))=_;rw[R.aa0,O];rfl
theorem KF:∀{ds:List D},(∀d∈ds,∃v,d=vd v)->(ds.filterMap BS).map vd=ds
 |[],_=>rfl
 |d::ds,h=>by let{v,rfl}:=h d (.head _);rw[List.filterMap_cons_some (JY v),aAm,KF λd a=>h d (.tail _ a)]
section
variable [Tabs]
def UF(J:List G.V):∀d∈J.map vd,cW d=true:=λd a=>by let{v,_,rfl}:=aAj.mp a;rfl
def Z0(J:List G.V):bW (J.map vd)=(f8 J).map vd:=by unfold f8;show(KF λd a=>?_).symm;let{v,_,rfl}:=aAj.mp ((M9 (UF J) d).mp a);show{v,rfl}
def B1(J:List G.V):(f8 J).Pairwise λa b=>G.i5 (b-a):=a1v (by rw[<-Z0];show bS _)
def WF{v:G.V}{J:List G.V}:vd v∈J.map vd↔v∈J:=by rw[aAj];show{by rintro⟨u,a,e⟩;rw[<-M4 e];show a,λh=>{v,h,rfl}}
def v6{J:List G.V}{v:G.V}:v∈f8 J↔v∈J:=by rw[<-WF,<-Z0,M9 (UF J),WF]
def dM(J:List G.V):(f8 J).Nodup:=(B1 J).imp λ{a b} h e=>by subst e;show G.K6 h
def oZ{a b:List G.V}(g:a.Pairwise λa b=>G.i5 (b-a))(i:b.Pairwise λa b=>G.i5 (b-a))(h:∀v,v∈a↔v∈b):a=b:=by show IZ (lH (FB g) (FB i) λd=>?_);rw[aAj,aAj];show{λ⟨v,f,e⟩=>{v,(h v).mp f,e},λ⟨v,f,e⟩=>{v,(h v).mpr f,e}}
def QF(h:(f8 J).length<=63):ssR (.lst (J.map vd))=.ok ((f8 J).map vd):=by change(if _ then _ else _)=_;rw[kc {PU J,by rw[Z0,aAf];show h},Z0]
def wY(h:G.k9 a)(d:∀v,v∈a->v∈b):G.k9 b:=by let{A,f,B,g,C,i,D,j,e}:=h;show{A,d A f,B,d B g,C,d C i,D,d D j,e}
def a1h(h:G.k9 J):G.V5 J=3:=by
 by_cases e:G.V5 J=3
 .show e
 show absurd h (G.TL e)
def jQ(J:List G.V):(f8 J).length<=J.length:=G.Q4 (dM J) λv a=>v6.mp a
def cN(f:bG 900 J)(g:G.k9 J)(d:(f8 J).length<=63):∃m r,f8 J=m::r/\Land (m::r) m:=by
 have a:G.k9 (f8 J):=wY g λv i=>v6.mpr i;cases e:f8 J with
 |nil=>rw[e]at a;let{A,j,_}:=a;cases j
 |cons m r=>
  show{m,r,rfl,?_};have b:=B1 J;rw[e]at a d b;show{{a,b,.head _,λX k=>?_},{λP l=>f.1 P (v6.mp (by lia)),by lia},d,rfl};rcases aAi.mp k with h|h
  .show .inl h
  show .inr ((aAs.mp b).1 X h)
def jz(a:bG 1000 J)(b:G.k9 J):G0 [.lst (J.map vd)]=.ok .non:=by erw[G0,x6];show kc {a,a1h b}
def a7u(h:Land (m::J) m):K1 [.lst ((m::J).map vd)]=.ok (K7 (G.i4 m (m::J))):=by erw[K1,x6];show kc h
def a3u(h:Land (m::J) m)(a:(m::J).length<=14):K3 (K7 (G.i4 m (m::J))) (X5 [.lst ((m::J).map vd)]) (R1 [.lst ((m::J).map vd)])=.ok (.lst ((p9 (m::J)).map (t0 (m::J)))):=by
 erw[K3,show X5 [.lst ((m::J).map vd)] [.non]=.ok (.lst ((m::J).map vd))from rfl,x6]
 lia
def DN(a:bG 900 J)(b:G.k9 J)(d:(f8 J).length<=14):Q1 [.lst (J.map vd)]=.ok (.lst ((p9 (f8 J)).map (t0 (f8 J)))):=by
 erw[Q1,x6]
 lia
def YH(a:bG 900 J)(b:G.k9 J)(d:(f8 J).length<=14):bV [.lst (J.map vd)]=.ok (.lst ((F6 J).map vd)):=by
 erw[bV,x6]
 lia
omit [Tabs]in
theorem a5t{d:Type}:∀l:List d,∃b:List d,b.Nodup/\∀x,x∈b↔x∈l
 |[]=>{[],aCR,λ_=>Iff.rfl}
 |a::l=>by
  let{b,f,h}:=a5t l;by_cases g:a∈l
  .show{b,f,λx=>by rw[h,aAi];show{.inr,λq=>q.elim (λe=>by rw[e];show g) id}}
  show{a::b,aAY.mpr {λz=>g ((h a).mp z),f},λx=>by rw[aAi,aAi,h]}
def N1(h:Land J m)(o:J.length<=14):fW J (p9 J):=by
 classical
 let{fs,g,a}:=a5t ((G.cands J).filter λf=>decide (G.IsFace J f.1 f.2));have i:∀n d,(n,d)∈fs↔G.IsFace J n d:=λn d=>by
  rw[a,aCh];constructor
  .simp_all
  intro q;show{?_,decide_eq_true q};let{A,j,B,k,C,l,_,e}:=G.vY q;rw[<-e];show aBe.mpr {A,j,aBe.mpr {B,k,aAj.mpr {C,l,rfl}}}
 have b:=xJ g i;rw[qP b];show b
theorem oR:∀(Y:List D) (rs:List (List G.V)) (B:List G.V) (x y:Sl),wA Y=some rs->B.length+rs.flatten.length<=3000->
  ∃b f,S7 (dZ 2 (D9 (λd ρ=>R.ok (aEi ρ 2 (Sl.v d))) (D9 (λd ρ=>R.ok (aEi ρ 3 (Sl.v d))) iK))) (λρ=>(Z6 3 ρ).bind (kw 1 ρ)) Y [a,.o (B.map vd),x,y]=.ok (.nx [a,.o ((B++rs.flatten).map vd),b,f])
 |[],rs,B,x,y,h,_=>by cases h;show{x,y,by simp}
 |d::Y,rs,B,x,y,h,i=>by
  unfold wA at h;split at h
  .rename_i v j k l;cases h;obtain⟨p,g,rfl,m⟩:∃p g,d=.tup [p,.lst g]/\G5 g=some v:=by unfold a2y at k;grind
   have n:=v5 m;subst n;rw[List.flatten_cons,aAy]at i;let{b,f,e}:=oR Y j (B++v) (.v p) (.v (.lst (v.map vd))) l (by grind);show{b,f,?_};have q:(B.map vd).length+(v.map vd).length<=sizeLine:=by rw[aAf,aAf];show RF (by lia)
   show(O9 (ρ2:=[a,.o ((B++v).map vd),.v p,.v (.lst (v.map vd))]) rfl ?_).trans ?_
   .change(if(B.map vd).length+(v.map vd).length<=sizeLine then _ else _)=_;grind
   rw[e,List.flatten_cons,aEu]
  cases h
theorem oO(J:List G.V):∀fs:List (G.V×Int),wA (fs.map (t0 J))=some (fs.map (G.j0 J))
 |[]=>rfl
 |f::fs=>by rw[aAm,wA,oO J fs,show a2y (t0 J f)=some (G.j0 J f)from x6 _];rfl
def HR{J:List G.V}{fs:List (G.V×Int)}(a:(fs.flatMap (G.j0 J)).length<=3000)(b:(f8 (fs.flatMap (G.j0 J))).length<=63):K5 [.lst (fs.map (t0 J))]=.ok (.lst ((f8 (fs.flatMap (G.j0 J))).map vd)):=by have e:(fs.map<|G.j0 J).flatten=fs.flatMap (G.j0 J):=rfl;erw[K5,oO];show kc {a,b}
def rG(d:J.Pairwise λa b=>G.i5 (b-a))(e:G.IsFace J f.1 f.2)(h:X∈G.j0 J f):X∈J:=(G.d8.mp<|(e.aa2 d).aa3 h).1
def UC(g:bG 900 J)(i:G.k9 J)(a:(f8 J).length<=14)(h:X∈F6 J):X∈J:=by let{m,r,e,L}:=cN g i (by lia);unfold F6 at h;rw[v6,aBe]at h;let{f,b,d}:=h;rw[e]at b d a;have:=rG L.good.ord (((N1 L a).1 f).mp b) d;rw[<-e,v6]at this;show this
def wN(L:Land J m)(a:J.length<=14):((p9 J).flatMap (G.j0 J)).length<=200/\(f8 ((p9 J).flatMap (G.j0 J))).length<=14:=by
 have b:=N1 L a;have g:=G.gK L.good.solid L.good.ord (P3<|Y2 b.2) λf d=>(b.1 f).mp d;have i:=aEx a a;constructor
 .rw[List.length_flatMap]
  lia
 show aAn (G.Q4 (dM _) λv e=>?_) a;rw[v6,aBe]at e;let{f,d,h}:=e;show rG L.good.ord ((b.1 f).mp d) h
end
instance Bd.k6:Bd 1000000 20:=⟨by decide⟩
instance Bd.k7:Bd 10000000 24:=⟨by decide⟩
instance Bd.k8:Bd 100000000 27:=⟨by decide⟩
instance Bd.k63:Bd 1000003 20:=⟨by decide⟩
instance Bd.k79:Bd 7919 13:=⟨by decide⟩
instance Bd.k48:Bd 48611 16:=⟨by decide⟩
instance Bd.k12:Bd 1000000000000 40:=⟨by decide⟩
instance Bd.k20:Bd 100000000000000000000 67:=⟨by decide⟩
def S5(h:0<b):kF (.int a) (.int b)=.ok (.int (a.fmod b)):=uJ (by omega)
def F9(h:0<b)(d:b<1000000000000000):L5 (.int a) (.int b)=.ok (.int (a.fdiv b)):=bN {by omega,i6 (u6 (n:=60) (by omega) (by omega))}
def E8{a b:Int}(h:0<b):0<=a.fmod b/\a.fmod b<b:=by have g:=(PyProof.Rows.fdiv_fmod_facts a b).2.2.1 h;omega
def F8{a b:Int}{n:Nat}(h:0<b)(d:bits b<=n):bits (a.fmod b)<=n:=bits_fmod (by omega) d
def f9(a:r=.ok (.nx ρ))(b:G8 (F ρ)=x):G8 (C1 r F)=x:=by rw[a];show b
def N6(a:r=.ok (.rt d)):G8 (C1 r F)=.ok d:=by rw[a];rfl
def CJ(a:L.length<=sizeLine)(h:w9 G ft fe ρ L=.ok rs):(if L.length<=sizeLine then(w9 G ft fe ρ L).bind λrs=>R.ok (D.lst rs)else R.bad)=.ok (.lst rs):=by simp_all
def a4b{n:Nat}(h:n<=1000000):fO [.int (n:Int)]=.ok ((aBd n).map λ(k:Nat)=>D.int (k:Int)):=by
 change(if tN 0 (n:Int) 1 then R.ok (yJ 0 1<|lA 0 n 1)else R.bad)=_;rw[kc {by decide,by decide,by decide,by decide,by omega,by omega}];have e:lA 0 (n:Int) 1=n:=by
  unfold lA;split
  .simp
  omega
 unfold yJ
 simp_all
def cI(Y:List D)(k:Nat):Int:=match Y[k]? with
 |some (.int i)=>i
 |_=>0
def G1:List D->R D
 |[.lst Y,.int k]=>if 0<=k/\k<=1000 then .ok (DX (λ_=>0) Y k)else .bad
 |_=>.bad
def TU(a:jN 1048576 Y)(k:Nat)(h:k<=1000):G1 [.lst Y,.int (k:Int)]=.ok (.int (cI Y k))/\bits (cI Y k)<=1048576:=by
 have e:G1 [.lst Y,.int (k:Int)]=.ok (DX (λ_=>0) Y k):=kc {by omega,by omega};rw[e];unfold DX cI;rw[aBR];cases q:Y[k]? with
 |none=>show{rfl,by decide}
 |some d=>let{i,rfl,b}:=a d (aAu q);show{rfl,b}
def ZP:Int:=1000000000000
def M12:Int:=2000000000001
def uK(c:Int):G.V:={(c*1000003+ZP).fmod M12-ZP,(c*c*7919+ZP).fmod M12-ZP,(c*c*c+ZP).fmod M12-ZP}
def RQ(c:Int):Sz 50 (uK c):=by have k:∀z:Int,bits (z.fmod M12-ZP)<=50:=λz=>i6 (bits_sub (bits_fmod (by decide) (by decide)) (show bits ZP<=45 by decide));show{k _,k _,k _}
def lN:List D->R D
 |[.int c]=>if bits c<=2000000 then .ok (vd (uK c))else .bad
 |_=>.bad
def fE(c:Int):Int×Int×Int:=
 if(c.fdiv 7).fmod 2=1 then((1+(c.fdiv 14).fmod 3)*1000000+1,(1+(c.fdiv 42).fmod 3)*10000000+3,(1+(c.fdiv 126).fmod 3)*100000000+9)
 else(1+(c.fdiv 14).fmod 3,1+(c.fdiv 42).fmod 3,1+(c.fdiv 126).fmod 3)
def xY(c:Int):(0<(fE c).1/\(fE c).1<1000000000)/\(0<(fE c).2.1/\(fE c).2.1<1000000000)/\(0<(fE c).2.2/\(fE c).2.2<1000000000):=by have d:=E8 (a:=c.fdiv 14) (b:=3) (by decide);have e:=E8 (a:=c.fdiv 42) (b:=3) (by decide);have f:=E8 (a:=c.fdiv 126) (b:=3) (by decide);unfold fE;split<;>(dsimp only;omega)
def RE(a b c:Int):List G.V:=(aBd 8).map λ(k:Nat)=>{(k:Int).fmod 2*a,((k:Int).fdiv 2).fmod 2*b,(k:Int).fdiv 4*c}
def CU(a b c:Int):List G.V:=[{a,0,0},{0-b,0,0},{0,b,0},{0,0-c,0},{0,0,c},{0,0,0-a}]
def CZ(a b c:Int):List G.V:=[{0,0,0},{a,0,0},{0,b,0}]++[{0+c,0,a+b},{a+c,0,a+b},{0+c,b,a+b}]
def FM(n:Nat)(a b c:Int):List G.V:=(aBd n).map (λ(k:Nat)=>{(k:Int),(k:Int)*(k:Int),0})++[{a,b,c}]
def EM(c e:Int):G.V:=if c.fmod 7=5\/(c.fmod 7=6/\e.fmod 2=1)then uK (e.fdiv 2)else{e.fmod 7-3,(e.fdiv 7).fmod 7-3,(e.fdiv 49).fmod 7-3}
def nR(a b c:Int):List G.V:=[{0,0,0},{a,0,0},{0,b,0},{0,0,c}]
def N9(c:Int)(t:List Int):List G.V:=
 if c.fmod 7=0 then RE (fE c).1 (fE c).2.1 (fE c).2.2
 else if c.fmod 7=1 then CU (fE c).1 (fE c).2.1 (fE c).2.2
 else if c.fmod 7=2 then CZ (fE c).1 (fE c).2.1 (fE c).2.2
 else if c.fmod 7=3 then FM (3+(c.fdiv 378).fmod 8).toNat (fE c).1 (fE c).2.1 (fE c).2.2
 else nR (fE c).1 (fE c).2.1 (fE c).2.2++t.map (EM c)
def aI(Y:List D):List Int:=((Y.drop 4).take 5).map intD
open Classical in
def AE:List D->R D
 |[.lst Y]=>if jN 1048576 Y then .ok (.lst ((N9 (cI Y 0) (aI Y)).map vd))else .bad
 |_=>.bad
def LA:Int:=100000000000000000000
def XN:Int:=200000000000000000001
def JA(c:Int):Int:=if c.fmod 2=0 then 3 else 1000000
def fH(c f:Int)(P:G.V):G.V:=
 let x:=P.x+(c.fdiv 4).fmod (JA c)*P.y
 let y:=P.y-((c*c).fdiv 16).fmod (JA c)*P.z
 let z:=P.z+((c*48611).fdiv 4).fmod (JA c)*x
 let a:=if(c.fdiv 2).fmod 2=1 then z else x
 let b:=if(c.fdiv 2).fmod 2=1 then x else z
 {a+(f*48611+LA).fmod XN-LA,y+(f*f*7919+LA).fmod XN-LA,b+(f*f*f+LA).fmod XN-LA}
open Classical in
def qC:List D->R D
 |[.tup [.int a,.int b,.int c],.lst Y]=>if jN 1048576 Y/\Sz 100 {a,b,c}then .ok (vd (fH (cI Y 1) (cI Y 2) {a,b,c}))else .bad
 |_=>.bad
def YK(x y z:D):pS (.tup [x,y]) (.tup [z])=.ok (.tup [x,y,z]):=rfl
def WX(Y:List D)(i j:Nat)(h:i<=j):LB (.lst Y) (some (i:Int)) (some (j:Int))=.ok (.lst ((Y.drop i).take (j-i))):=by
 change R.ok (D.lst<|cutD Y (some (i:Int))<|some (j:Int))=_;unfold cutD;rw[HT.sIx_nat,HT.sIx_nat];congr 2;by_cases a:i<=Y.length
 .rw[Nat.min_eq_left a];by_cases b:j<=Y.length
  .lia
  rw[aFY (by omega),aBG (by simp),aBG (by simp;omega)]
 rw[aFY (by omega),aFY (by omega),List.drop_eq_nil_of_le (by omega:Y.length<=i)];simp
def mY(b:jN 1048576 Y):(Y.drop 4).take 5=(aI Y).map D.int/\(aI Y).length<=5/\∀e∈aI Y,bits e<=1048576:=by
 have sub:∀d∈(Y.drop 4).take 5,d∈Y:=λd a=>aDM (aEM a);show{?_,by unfold aI;rw[aAf];show List.length_take_le _ _,λe f=>?_}
 .unfold aI;have:∀l:List D,(∀d∈l,∃i,d=.int i)->l=(l.map intD).map D.int:=λl h=>by
   induction l with
   |nil=>rfl
   |cons d l g=>let{i,rfl}:=h d (.head _);rw[aAm,aAm,<-g λd a=>h d (.tail _ a)];rfl
  show this _ λd a=>let⟨i,e,_⟩:=b d (sub d a);{i,e}
 let{d,a,rfl}:=aAj.mp f;let{i,rfl,j}:=b d (sub d a);show j
def QW(c:Int):∃n:Nat,3+(c.fdiv 378).fmod 8=(n:Int)/\n<=10/\(3+(c.fdiv 378).fmod 8).toNat=n:=by grind
def oz(n:Nat)(h:n<=1000):((aBd n).map λ(k:Nat)=>D.int (k:Int)).length<=sizeLine:=by rw[aAf,aDJ];show small h
def iy(n:Nat)(a b e:Int):(FM n a b e).map vd=((aBd n).map λ(k:Nat)=>vd {(k:Int),(k:Int)*(k:Int),0})++[vd {a,b,e}]:=by unfold FM;rw[aBX,aAI];rfl
def XD(c:Int):W7 (.lst [.int 3,.int 1000000]) (.int (c.fmod 2))=.ok (.int (JA c))/\0<JA c/\bits (JA c)<=20:=by
 have h:=E8 (a:=c) (b:=2) (by decide);unfold JA;by_cases d:c.fmod 2=0
 .rw[kc d,d];show{rfl,by decide,by decide}
 rw[kd d,show c.fmod 2=1 by omega];show{rfl,by decide,by decide}
def nS{J:List G.V}{A B C D:G.V}(a:A∈J)(b:B∈J)(d:C∈J)(e:D∈J)(h:G.i9 (B-A) (C-A) (D-A)≠0):G.k9 J:={A,a,B,b,C,d,D,e,h}
def MZ{a b c:Int}(d:0<a)(f:0<b)(g:0<c):G.k9 (RE a b c):=by
 have m:∀k<8,(⟨((k:Nat):Int).fmod 2*a,((k:Int).fdiv 2).fmod 2*b,(k:Int).fdiv 4*c⟩:G.V)∈RE a b c:=λk h=>aAj.mpr {k,aBn.mpr h,rfl};show nS (m 0 (by decide)) (m 1 (by decide)) (m 2 (by decide)) (m 4 (by decide)) ?_;have:∀x:Int,x=a*(b*c)->x≠0:=λx e=>by rw[e];show aGN (aAw d<|aAw f g)
 apply this;have i:((0:Nat):Int).fmod 2=0:=rfl;have j:((1:Nat):Int).fmod 2=1:=rfl;have l:((2:Nat):Int).fmod 2=0:=rfl;have n:((4:Nat):Int).fmod 2=0:=rfl;have o:(((0:Nat):Int).fdiv 2).fmod 2=0:=rfl;have p:(((1:Nat):Int).fdiv 2).fmod 2=0:=rfl;have q:(((2:Nat):Int).fdiv 2).fmod 2=1:=rfl;have r:(((4:Nat):Int).fdiv 2).fmod 2=0:=rfl;simp[G.i9,G.d6]
def MR{a b c:Int}(g:0<a)(d:0<b)(f:0<c):G.k9 (CU a b c):=by
 show nS (A:={a,0,0}) (B:={0-b,0,0}) (C:={0,b,0}) (D:={0,0,c}) (by simp[CU]) (by simp[CU]) (by simp[CU]) (by simp[CU]) ?_;have:∀x:Int,x=-((a+b)*(b*c))->x≠0:=λx e=>by
  have:=aAw (show 0<a+b by lia) (aAw d f)
  lia
 simp[G.i9,G.d6];grind
def MK{a b c:Int}(d:0<a)(f:0<b)(g:0<c):G.k9 (CZ a b c):=by
 show nS (A:={0,0,0}) (B:={a,0,0}) (C:={0,b,0}) (D:={0+c,0,a+b}) (by simp[CZ]) (by simp[CZ]) (by simp[CZ]) (by simp[CZ]) ?_;have:∀x:Int,x=a*(b*(a+b))->x≠0:=λx e=>by
  have:=aAw d (aAw f (show 0<a+b by lia))
  lia
 apply this;simp[G.i9,G.d6]
def NC{n:Nat}(f:3<=n){a b c:Int}(g:0<c):G.k9 (FM n a b c):=by
 have m:∀k<n,(⟨((k:Nat):Int),(k:Int)*(k:Int),0⟩:G.V)∈FM n a b c:=λk d=>aBj _ (aAj.mpr {k,aBn.mpr d,rfl});show nS (m 0 (by lia)) (m 1 (by lia)) (m 2 (by lia)) (D:={a,b,c}) (by simp[FM]) ?_;have:∀x:Int,x=2*c->x≠0:=λx e=>by lia
 simp[G.i9,G.d6]
 lia
def NV{a b c:Int}(d:0<a)(f:0<b)(g:0<c){l:List G.V}:G.k9 (nR a b c++l):=by
 show nS (A:={0,0,0}) (B:={a,0,0}) (C:={0,b,0}) (D:={0,0,c}) (by simp[nR]) (by simp[nR]) (by simp[nR]) (by simp[nR]) ?_;have:∀x:Int,x=a*(b*c)->x≠0:=λx e=>by
  have:=aAw d (aAw f g)
  lia
 apply this;simp[G.i9,G.d6]
def GR(c:Int)(t:List Int):G.k9 (N9 c t):=by
 let{{a,e},{b,f},{c0,g}}:=xY c;unfold N9;split
 .show MZ a b c0
 split
 .show MR a b c0
 split
 .show MK a b c0
 split
 .let{n,h,i,d}:=QW c;rw[d];show NC (by lia) c0
 show NV a b c0
def EB(c:Int)(y:t.length<=5):(∀P∈N9 c t,Sz 80 P)/\(N9 c t).length<=11:=by
 let{{A,B},{C,E},{c0,H}}:=xY c;have g:bits (fE c).1<=40:=u6 (by lia) (by lia);have j:bits (fE c).2.1<=40:=u6 (by lia) (by lia);have m:bits (fE c).2.2<=40:=u6 (by lia) (by lia);generalize s:(fE c).1=a at*
 generalize u:(fE c).2.1=b at*
 generalize v:(fE c).2.2=e at*
 have d:bits 0<=80:=by decide
 have p:∀{x:Int},bits x<=40->bits (0-x)<=80:=λh=>i6 (bits_sub (n:=40) (by decide) h);unfold N9;rw[s,u,v];split
 .show{λP f=>?_,by unfold RE;rw[aAf,aDJ];decide};let{k,q,rfl}:=aAj.mp f;have r:=aBn.mp q;show{i6 (bits_mul (F8 (n:=3) (by decide) (by decide)) g),i6 (bits_mul (F8 (n:=3) (by decide) (by decide)) j),i6 (bits_mul (bits_fdiv (n:=10) (u6 (by lia) (by lia))) m)}
 split
 .show{λP f=>?_,by change 6<=11;decide};erw[CU,aAi,aCI,or_false]at f;rcases f with rfl|rfl|rfl|rfl|rfl|rfl
  .show{i6 g,d,d}
  .show{p j,d,d}
  .show{d,i6 j,d}
  .show{d,p m,d}
  .show{d,d,i6 m}
  show{d,d,p g}
 split
 .show{λP f=>?_,by change 6<=11;decide};erw[CZ,aBs,aDd,aAi,aCI,or_false]at f;have l:bits (a+b)<=80:=i6 (bits_add g j);have o:bits (0+e)<=80:=by grind
  rcases f with rfl|rfl|rfl|rfl|rfl|rfl
  .show{d,d,d}
  .show{i6 g,d,d}
  .show{d,i6 j,d}
  .show{o,d,l}
  .show{(i6<|bits_add g m),d,l}
  show{o,i6 j,l}
 split
 .let{n,I,J,w}:=QW c;rw[w];show{λP f=>?_,by unfold FM;rw[aAy,aAf,aDJ];simp;lia};rcases aAS.mp f with f|f
  .let{k,q,rfl}:=aAj.mp f;have r:=aBn.mp q;have bk:bits (k:Int)<=10:=u6 (by lia) (by lia);show{i6 bk,i6 (bits_mul bk bk),d}
  rw[aAT.mp f];show{i6 g,i6 j,i6 m}
 show{λP f=>?_,by rw[aAy,aAf];simp[nR];lia};rcases aAS.mp f with f|f
 .erw[nR,aAi,aCI,or_false]at f;rcases f with rfl|rfl|rfl|rfl
  .show{d,d,d}
  .show{i6 g,d,d}
  .show{d,i6 j,d}
  show{d,d,i6 m}
 let{i,L,rfl}:=aAj.mp f;unfold EM;split
 .show(RQ _).mono
 have k7:∀z:Int,bits (z.fmod 7-3)<=80:=λz=>i6 (bits_sub (n:=10) (F8 (by decide) (by decide)) (by decide));show{k7 _,k7 _,k7 _}
def pD(s t u:Int)(a:Bool)(P:G.V):G.V:=
 let x:=P.x+s*P.y
 let y:=P.y-t*P.z
 let z:=P.z+u*x
 if a then⟨z,y,x⟩else⟨x,y,z⟩
def IX(k f:Int):∃(s t u:Int) (g:Bool) (o:G.V),(∀P,fH k f P=pD s t u g P+o)/\bits s<=20/\bits t<=20/\bits u<=20/\Sz 80 o:=by
 let{_,a,b}:=XD k;have d:∀z:Int,bits (z.fmod XN-LA)<=80:=λz=>i6 (bits_sub (n:=70) (F8 (by decide) (by decide)) (by decide));show{(k.fdiv 4).fmod (JA k),((k*k).fdiv 16).fmod (JA k),((k*48611).fdiv 4).fmod (JA k),decide ((k.fdiv 2).fmod 2=1),{(f*48611+LA).fmod XN-LA,(f*f*7919+LA).fmod XN-LA,(f*f*f+LA).fmod XN-LA},λP=>?_,F8 a b,F8 a b,F8 a b,{d _,d _,d _}};unfold fH pD;by_cases e:(k.fdiv 2).fmod 2=1
 .erw[e];show (by apply G.ext<;>simp<;>lia)
 erw[e];show (by apply G.ext<;>simp<;>lia)
def zR(s t u:Int)(a:Bool)(P Q:G.V):pD s t u a P-pD s t u a Q=pD s t u a (P-Q):=by
 unfold pD;cases a
 .show G.ext (by simp;grind) (by simp;grind) (by simp;grind)
 show G.ext (by simp;grind) (by simp;grind) (by simp;grind)
def qw(s t u:Int)(a:Bool)(A B C:G.V):G.i9 (pD s t u a A) (pD s t u a B) (pD s t u a C)=(if a then-1 else 1)*G.i9 A B C:=by
 unfold pD;cases a
 .simp[G.i9,G.d6];grind
 simp[G.i9,G.d6];grind
def mN(P Q o:G.V):P+o-(Q+o)=P-Q:=(by apply G.ext<;>simp<;>lia)
def LX(k f:Int){J:List G.V}(h:G.k9 J):G.k9 (J.map (fH k f)):=by
 let{s,t,u,j,o,e,_}:=IX k f;let{A,a,B,b,C,d,D,g,l}:=h;have m:∀X∈J,fH k f X∈J.map (fH k f):=λX i=>aBM i;show nS (m A a) (m B b) (m C d) (m D g) ?_;rw[e,e,e,e,mN,mN,mN,zR,zR,zR,qw]
 lia
def VD(k f:Int)(h:Sz 100 P):Sz 900 (fH k f P):=by
 let{s,t,u,b,o,e,i,j,l,m}:=IX k f;rw[e];have p:Sz 400 (pD s t u b P):=by
  unfold pD;have a:bits (P.x+s*P.y)<=200:=i6 (bits_add (n:=120) (i6 h.1)<|i6<|bits_mul i h.2.1);have d:bits (P.y-t*P.z)<=200:=i6 (bits_sub (n:=120) (i6 h.2.1)<|i6<|bits_mul j h.2.2);have g:bits (P.z+u*(P.x+s*P.y))<=300:=i6 (bits_add (n:=220) (i6 h.2.2)<|i6<|bits_mul l a);cases b
  .show{i6 a,i6 d,i6 g}
  show{i6 g,i6 d,i6 a}
 show(p.add m.mono).mono
section
variable [Tabs]
def rN{J:List G.V}(h:bG 900 J)(i:G.k9 J)(d:(f8 J).length<=14):∀X,X∈F6 J↔∃f:G.V×Int,G.IsFace (f8 J) f.1 f.2/\X∈G.j0 (f8 J) f:=λX=>by let{m,r,e,L}:=cN h i (by lia);unfold F6;rw[v6,aBe];rw[e]at d⊢;have g:=N1 L d;show{by rintro⟨f,a,b⟩;show{f,(g.1 f).mp a,b},by rintro⟨f,a,b⟩;show{f,(g.1 f).mpr a,b}}
def fP{l:List G.V}(h:l.Pairwise λa b=>G.i5 (b-a)):f8 l=l:=oZ (B1 _) h λv=>v6
def MN{J:List G.V}(k:bG 900 J)(l:G.k9 J)(o:(f8 J).length<=14):G.k9 (F6 J)/\bG 900 (F6 J)/\f8 (F6 J)=F6 J/\(F6 J).length<=14/\F6 (F6 J)=F6 J/\∀n d,G.IsFace (F6 J) n d↔G.IsFace (f8 J) n d:=by
 have q:=rN k l o;have h:(F6 J).Pairwise λa b=>G.i5 (b-a):=B1 _;have p:=wY l λv i=>v6.mpr i;have s:=B1 J;let{m,r,e,L}:=cN k l (by lia);have t:fW (f8 J) (p9<|f8 J):=by have g:=o;rw[e]at g⊢;show N1 L g
 have B:(F6 J).length<=14:=by have g:=o;unfold F6;rw[e]at g⊢;show(wN L g).2
 have w:p9 (f8 J)≠[]:=λz=>by
  let{A,I,_}:=p;have:∃f:G.V×Int,G.IsFace (f8 J) f.1 f.2:=by have j:=L;rw[<-e]at j;have:=G.iW j.good.solid j.good.ord j.good.mem j.good.least;show{_,this}
  let{f,u}:=this;have:=(t.1 f).mpr u
  simp_all
 let{C,E}:=aFy _ w;have x:=G.JG p s h q ((t.1 C).mp E);have sz:bG 900 (F6 J):={λP H=>k.1 P (UC k l o H),by lia};have y:=fP h;show{x,sz,y,B,?_,λn d=>G.ZQ p s h q _ w t.1};show oZ (B1 _) h λv=>?_;rw[(rN sz x (by grind) v),y];constructor
 .rintro⟨f,u,i⟩;show rG h u i
 showλi=>G.UL p s h q i
end
end M
namespace DL
open PySem PySem.Spec L2
def ZU{K:Params->kn}{P c:ba}{tb:List (Pos×Str)}{a:List ba}(b:P∈a)(d:∀w:cf,PySem.W.codeHdIn (K w.params) c P=true):∀p∈[(P,tb)],p.1∈a/\∃c,∀w:cf,PySem.W.codeHdIn (K w.params) c p.1=true:=λp e=>by rw[aAT.mp e];show{b,c,d}
def Got(K:kn)(x:Str)(st:cp):Prop:=∃f a,PySem.W.nsIn K bt x=some (some<|.ref f)/\Fun K x x st f a
def mz(K:kn)(x:Str)(st:cp)(b:ba):Prop:=∃f d a,PySem.W.nsIn K bt x=some (some<|.ref f)/\PySem.W.codeHdIn K a b=true/\FunC K x x st f d a
def Z7(K:kn)(mg:eU)(x:Str)(st:cp):Prop:=∃f a,mg x=some (.ref f)/\Fun K x x st f a
def a4w(K:kn)(mg:eU)(x:Str)(st:cp)(b:ba):Prop:=∃f d a,mg x=some (.ref f)/\PySem.W.codeHdIn K a b=true/\FunC K x x st f d a
section
variable{kV doc pm T ct:au}
def a2a(a:PySem.W.nsIn K bt x=some (some (.ref f)))(l:K.lookup f=some {d,e,.func (PySem.W.fnOf x x (C9 st) (t7 st) (c8 st) .none kV doc pm g T ct),b})
 (c:PySem.W.codeIn K T x=true) (k:PySem.W.keepIn K (.ref f)=true):Got K x st:={f,_,a,RX l c k}
def gw(a:PySem.W.nsIn K bt x=some (some (.ref f)))(l:K.lookup f=some {g,h,.func (PySem.W.fnOf x x (C9 st) (t7 st) (c8 st) .none kV doc pm i T ct),b})
 (c:PySem.W.codeIn K T x=true) (k:PySem.W.keepIn K (.ref f)=true) (e:T=.ref cd) (n:PySem.W.codeHdIn K cd d=true):mz K x st d:={f,_,cd,a,n,ZL l e c k}
def Got.def(g:Got K x st)(X:K.In h)(G:h.Ns bt mg):Z7 K mg x st:=let⟨f,d,a,b⟩:=g;{f,d,PySem.W.mg_of X G a,b}
def mz.def(g:mz K x st d)(X:K.In h)(G:h.Ns bt mg):a4w K mg x st d:=let⟨f,e,i,a,b⟩:=g;{f,e,i,PySem.W.mg_of X G a,b}
def C6(a:sc.kind=.function:=by rfl)(b:sc.isCoroutine=false:=by rfl)(d:sc.isGenerator=false:=by rfl)(e:N.Nodup:=by decide+kernel)(f:N.take ps.length=ps:=by rfl)(g:∀x∈ps,sc.names.lookup x=some .local\/sc.names.lookup x=some .cell:=by decide+kernel)(h:∀y∈sc.names,y.2≠.free:=by decide+kernel):FnScope N ps sc:={a,b,d,e,f,g,h}
variable [Tabs]
def l7(g:Z7 K mg x st)(S:FnScope N ps (c8 st))(i:∀{f:ba}{T:au}{A:bM}{a:List Env}{s:aL}{H:Hp}{E:XK},Room k (A.deeper (aBA x (c8 st) s.heap.objs.size f T))->(A.deeper (aBA x (c8 st) s.heap.objs.size f T)).units+64<cu->(A.deeper (aBA x (c8 st) s.heap.objs.size f T)).units+130<cu->N.Nodup->
  cZ (TR P w K mg base N x (c8 st) f T A a s H E) (t7 st) F) (j:∀ds d,ds.length=ps.length->m ds=.ok d->G8 (F (n5 N ds))=.ok d) (l:∀(kV doc pm:au) (n:Option ba) (T ct:au) (b:List au),b.length=ps.length->bindArgs (PySem.W.fnOf x x (C9 st) (t7 st) (c8 st) .none kV doc pm n T ct) {b,[]}=pure (ps.zip b):=by
  intro _ _ _ _ _ _ b o;rcases b with _|⟨_,_|⟨_,_|⟨_,_|⟨_,_|⟨_,_|⟨_,_|⟨_,_⟩⟩⟩⟩⟩⟩⟩<;>first|rfl|show absurd o (by simp)):u9 P w K mg base (k+1) x ps.length m:=by
 let{f,q,p,h}:=g;show a4d h S (h.binds l) p (λT A a s H E e=>i e e.units e.ad8 S.nd) j
end
def inB(x:D)(a:List D):Bool:=a.any λy=>x8 y x
def inR(n:Bool):D->D->R D
 |.tup Y,.lst a=>if y8 a<=40/\y8 Y<=30 then .ok (.bl (inB (.tup Y) a !=n))else .bad
 |.lst Y,.lst a=>if y8 a<=40/\y8 Y<=30 then .ok (.bl (inB (.lst Y) a !=n))else .bad
 |_,_=>.bad
section
variable [Tabs]
open Classical in
def eIn(K:kn) (H:Hp) (O:ba->Prop) (a:D) (u:au):Bool:=decide (∃y d,RelV y u/\Rep K H O y d/\x8 d a=true)
open Classical in
def VH(I:Inv X b k H s)(r:Rep X.K H O y d)(f:RelV y u):eIn X.K H O g u=x8 d g:=by
 by_cases h:x8 d g=true
 .rw[h];show decide_eq_true {y,d,f,r,h}
 rw[Bool.eq_false_iff.mpr h];show decide_eq_false λ⟨l,m,a,i,j⟩=>h ?_;have e:=RelV.inj f a;subst e;rw[Rep.inj I r i];show j
theorem GL(I:Inv X i q H s)(k:Rep X.K H w x f)(l:RelV x v):∀{vs:List V}{a:List D}{g:List au},Reps X.K H O vs a->q9 vs g->A.units+y8 a<cu->A.units+D4 f<cu->
  (∀u∈g,SeqAt.EqAt A s u v (eIn X.K H O f u))/\g.any (eIn X.K H O f)=inB f a
 |_,_,_,.nil,.nil,_,_=>{λu m=>(by cases m),rfl}
 |_,d::a,_,.cons h t,.cons r n,m,e=>by
  have y:D4 d<=y8 (d::a):=qF (j:=0) rfl;have z:y8 a<=y8 (d::a):=by rw[y8];show Nat.le_max_right _ _
  let{o,p}:=GL I k l t n (by lia) e;show{λu b=>?_,?_}
  .rcases aAi.mp b with rfl|b
   .rw[VH I h r];show VP I h k r l (by lia) e
   show o u b
  rw[List.any_cons,p,VH I h r];rfl
end
section
variable [Tabs]
def AW(hu:X.A.units+64<cu):lF X (dI .NotIn) (inR true):=by
 intro H O x y dx dy Q fr L N q;unfold inR at q;split at q
 .rename_i Y i;split at q
  .rename_i T;let{j,U,rfl,k,l}:=L.tupI;let{a,vs,rfl,h,r}:=N.aa5;show{λd e b f=>d=.ref j/\e=.ref a/\b=H/\f (.bl (!inB (.tup Y) i)) H,?_,rfl,rfl,rfl,?_}
   .intro g s σ b d e v u f I n o ⟨t,B,C,q'⟩;subst t B C;cases o;let{E,J,p,hz}:=I.list h;have m:=GL I (A:=X.A.in1) (Rep.tup k l) n r J (by grind) (by rw[w6,D4];lia);show SeqAt.notIn_listAt (eIn X.K b O<|.tup Y) p.isList (λw hw=>m.1 w (by grind)) {.bl _,b,I,rfl,?_};grind
   have:=q (.bl _) H (Same.refl _) .bl;simpa using this
  show q.elim
 .rename_i Y i;split at q
  .rename_i T;let{j,U,rfl,k,l}:=L.aa5;let{a,vs,rfl,h,r}:=N.aa5;show{λd e b f=>d=.ref j/\e=.ref a/\b=H/\f (.bl (!inB (.lst Y) i)) H,?_,rfl,rfl,rfl,?_}
   .intro g s σ b d e v u f I n o ⟨t,B,C,q'⟩;subst t B C;cases o;let{E,J,p,hz}:=I.list h;have m:=GL I (A:=X.A.in1) (Rep.lst (O:=λ_=>False) k (λz=>z)<|l.sub λ_ z=>z.elim) n r J (by grind) (by rw[w6,D4];lia);show SeqAt.notIn_listAt (eIn X.K b O<|.lst Y) p.isList (λw hw=>m.1 w (by grind)) {.bl _,b,I,rfl,?_};grind
   have:=q (.bl _) H (Same.refl _) .bl;simpa using this
  show q.elim
 show q.elim
end
end DL
namespace DL
open PySem PySem.Spec L2
open PyProof.Rows hiding St st
variable [Tabs]
section
def RSF(X:Cx)(e:Hp)(f:ba->Prop)(r:R (List D))(D:Ends):Prop:=match r with
 |.ok g=>∀d b a,Same e b->b a=none->Reps X.K b f d g->D.rt (.ref a) (upd b a<|.lst d)
 |_=>False
def tSF(X:Cx)(a:Hp)(b:ba->Prop)(F:Ev->R (List D)):TS:=λD e H=>∃O d,EnvOk X.K a b H O e d/\V0 X.K O/\RSF X a b (F d) D
def ak(X:Cx)(st:List cp)(F:Ev->R (List D)):Prop:=∀a b,uW X st (tSF X a b F)
def yy(r:R Out)(F:Ev->R (List D)):R (List D):=match r with
 |.ok (.nx a)=>F a
 |_=>.bad
def QE(g:PF X e f):ak X [.Return (some e) h] f:=λi j=>kZ (qM<|zN g)<|by rintro D o H ⟨O,d,E,p,q⟩;show⟨i,j,O,d,E,by
 cases b:f d with
 |ok s=>rw[b]at q;showλk l a m n r=>q k l a (E.same.trans m) n (r.sub E.sub)
 |ex x=>rw[b]at q;show q.elim
 |bad=>rw[b]at q;show q⟩
def MJ{st:cp}{rest:List cp}(f:oU X st F)(g:ak X rest G):ak X (st::rest) (λρ=>yy (F ρ) G):=λd e=>kZ (rE (f d e)<|g d e)<|by rintro D m H ⟨O,ρ,E,h,q⟩;show⟨O,ρ,E,h,by
 dsimp only at q;cases a:F ρ with
 |ok o=>
  rw[a]at q;cases o with
  |nx b=>showλn p i j l k=>{i,b,j,l,q}
  |_=>show(q).elim
 |ex x=>rw[a]at q;show(q).elim
 |bad=>rw[a]at q;show(q).elim⟩
def spW(K:kn)(n:Nat)(m:List D->R D):Sp:=λg H Q _=>∃O d e,Reps K H O g d/\d.length=n/\(∀a,O a->∃o,H a=some o/\Mt o)/\Tb H/\V0 K O/\m d=.ok (.lst e)/\∀f b a,Same H b->b a=none->Reps K b O f e->Q (.ref a) (upd b a<|.lst f)
def HC(r:R (List D)):R D:=r.bind λa=>.ok (.lst a)
@[simp]def a8j(ds:List D):HC (.ok ds)=.ok (.lst ds):=rfl
def JR(h:HC r=.ok d):∃rs,r=.ok rs/\d=.lst rs:=by
 cases r with
 |ok rs=>simp_all
 |ex x=>cases h
 |bad=>cases h
def unl(r:R D):R (List D):=match r with
 |.ok (.lst a)=>.ok a
 |.ex x=>.ex x
 |_=>.bad
def EX(P:be)(w:cf)(K:kn)(mg:eU)(base:ck)(k:Nat)(x:Str)(n:Nat)(m:List D->R D):Prop:=
 (∃g a b,FnOk P w K mg base uM k g a b (spW K n m)/\Binds K a b []/\PySem.W.keepIn K (.ref g)=true/\mg x=some (.ref g))/\∀e d,e.length=n->m e=.ok d->∃f,d=.lst f
def EX.cal{K:kn}(c:EX P w K mg base k x n m):u9 P w K mg base k x n m:=by let{{g,p,s,F,b,t,e},u}:=c;show{g,p,s,F.imp λI H Q E z=>?_,b,t,e};let{O,h,d,r,i,j,v,y,e,q}:=z;let{A,rfl}:=u h d i e;show{O,h,A,r,i,j,v,y,e,λJ L a l f B=>q _ _ (l.trans<|j4 f _) (.lst (L7.of j2) (λz=>?_) (B.same<|j4 f _))};let{o,C,_}:=j a z;rw[l _ _ C]at f;cases f
def QC{K:kn}{st:cp}(g:Z7 K mg x st)(S:FnScope N ps (c8 st))(t:∀{f:ba}{T:au}{A:bM}{a:List Env}{s:aL}{H:Hp}{E:XK},Room k (A.deeper (aBA x (c8 st) s.heap.objs.size f T))->(A.deeper (aBA x (c8 st) s.heap.objs.size f T)).units+64<cu->(A.deeper (aBA x (c8 st) s.heap.objs.size f T)).units+130<cu->N.Nodup->
   ak (TR P w K mg base N x (c8 st) f T A a s H E) (t7 st) F) (o:∀ds d,ds.length=ps.length->m ds=.ok d->HC (F (n5 N ds))=.ok d) (u:∀(kV j v:au) (y:Option ba) (T ct:au) (h:List au),h.length=ps.length->bindArgs (PySem.W.fnOf x x (C9 st) (t7 st) (c8 st) .none kV j v y T ct) {h,[]}=pure (ps.zip h):=by
   intro _ _ _ _ _ _ h b;rcases h with _|⟨_,_|⟨_,_|⟨_,_|⟨_,_|⟨_,_|⟨_,_|⟨_,_⟩⟩⟩⟩⟩⟩⟩<;>first|rfl|show absurd b (by simp)):EX P w K mg base (k+1) x ps.length m:=by
 let{f,B,C,l}:=g;show{{f,B,ps,l.ok S (λI H Q E z=>?_) (λT A a s H I Q E n z=>?_),l.binds u,l.kp,C},λds d b e=>?_}
 .let{O,ds,d,r,b,_}:=z;rw[r.length];show b
 .let{O,ds,d,r,b,J,L,U,e,q}:=z;show{_,t n n.units n.ad8 S.nd H O,O,_,gM r J L,U,?_};let{p,Y,i}:=JR (o ds _ b e);injection i with i;subst i;rw[Y];show q
 let{p,_,i}:=JR (o ds d b e);show{p,i}
def a0x(c:EX X.prog X.w X.K X.mg X.base k x n m)(v:Room k X.A)(l:MT X (e::es) f)(r:DY f n)(y:Gl X x:=by rfl)(B:(x==kM)=false:=by decide)(C:a9 (e::es) X.env=(false,dm e X.env)::a9 es X.env:=by rfl)(J:(cy o (a9 es X.env)).any (·.1)=false:=by rfl):
  PF X (.Call (.Name x p) (e::es) [] o) (λρ=>(f ρ).bind λds=>unl (m ds)):=by
 let{{g,gd,ps,F,b,L,em},N}:=c;show qV λh s T H Q I U Y O ρ E q=>(yQ F v y em L b .nil VB l B C J h s T H Q I {U,Y,O,ρ,E,?_});dsimp only at q;cases j:f ρ with
 |ex z=>rw[j]at q;show q
 |bad=>simp_all
 |ok ds=>
  rw[j,R.aa0]at q;intro vs H1 t r1;rw[aBU];have u:=E.grow t;cases i:m ds with
  |ex z=>rw[i]at q;show(q H<|Same.refl _).elim
  |bad=>rw[i]at q;show(q).elim
  |ok d=>rw[i]at q;let{rs,rfl}:=N ds d (r ρ ds j) i;show{O,ds,rs,r1,r ρ ds j,u.trk,u.tab,oB I O E.trk,i,λws H2 a s2 l r2=>q ws H2 a (t.trans s2) l r2}
def ZF(i:Nat)(h:EG X e f):EG X e (λρ=>f (EY i ρ)):=ptI h λk H Q a b O ρ E q=>by
 dsimp only at q;unfold EY at q;cases e:ρ[i]? with
 |none=>rw[e]at q;show{a,b,O,ρ,E,q}
 |some d=>
  rw[e]at q;cases d with
  |o Y=>let{g,j,_}:=E.disown e;show{a,b,g,_,j,q}
  |_=>show{a,b,O,ρ,E,q}
end
section
def a7q(i:Nat)(ρ:Ev):R Out:=match ρ[i]? with
 |some (.o _)=>.ok (.nx (ρ.set i<|.o []))
 |_=>.bad
def LR(i:Nat)(k:X.N[i]?=some x:=by rfl)(l:EF X.env.scope x:=by first|show aCs rfl|show aBC (aCs rfl)|show aBC (aBC rfl))(m:(x==kM)=false:=by decide)(n:(x==lh)=false:=by decide)(r:eR (.Name x p) "clear" X.env (dm (.Name x p) X.env)=dm (.Name x p) X.env:=by rfl)(s:(b.endLine==f.line)=true:=by rfl)(t:d7 (.Call (.Attribute (.Name x p) "clear" b) [] [] f) none e.line X.env=pure false:=by rfl):
  oU X (.Expr (.Call (.Attribute (.Name x p) "clear" b) [] [] f) e) (a7q i):=λB C=>
 EH (jU (GM PySem.F.plainAttrs_list PySem.F.slot_list_clear PySem.F.type_list_clear RB (N4 k l m n) r s) t) λD u H O v E w q=>by
 unfold a7q at q;cases d:v[i]? with
 |none=>rw[d]at q;show(q).elim
 |some y=>
  rw[d]at q;cases y with
  |o Y=>let{a,g,h,I,J,j,L}:=E.own i Y d;show{_,h,.inl {rfl,g,L7.of j},a,g,rfl,rfl,j,?_};let{z,A}:=E.write d h (.nil:Reps X.K H O [] []);show q u _ O z w A
  |_=>show(q).elim
mutual
theorem QZ{K:kn}{H:Hp}{O a:ba->Prop}:∀{v:V}{d:D},mD d=true->Rep K H O v d->Rep K H a v d
 |_,_,_,.int=>.int
 |_,_,h,.tup t r=>.tup t (wL h r)
 |_,_,h,.non=>(by cases h)
 |_,_,h,.bl=>(by cases h)
 |_,_,h,.str=>(by cases h)
 |_,_,h,.lst _ _ _=>(by cases h)
 |_,_,h,.dct ..=>(by cases h)
theorem wL{K:kn}{H:Hp}{O a:ba->Prop}:∀{vs:List V}{ds:List D},bL ds=true->Reps K H O vs ds->Reps K H a vs ds
 |_,_,_,.nil=>.nil
 |_,_,h,.cons r t=>.cons (QZ (aGs.mp h).1 r) (wL (aGs.mp h).2 t)
end
end
def nnB:D->Bool
 |.non=>true
 |.lst _=>true
 |_=>false
def RSO(X:Cx)(d:Hp)(f:ba->Prop)(r:R D)(D:Ends):Prop:=match r with
 |.ok .non=>∀b,Same d b->D.rt .non b
 |.ok (.lst g)=>∀e b a,Same d b->b a=none->Reps X.K b f e g->D.rt (.ref a) (upd b a<|.lst e)
 |_=>False
def tSO(X:Cx)(a:Hp)(b:ba->Prop)(F:Ev->R D):TS:=λD e H=>∃O d,EnvOk X.K a b H O e d/\V0 X.K O/\RSO X a b (F d) D
def ZY(X:Cx)(st:List cp)(F:Ev->R D):Prop:=∀a b,uW X st (tSO X a b F)
def xz(r:R Out)(F:Ev->R D):R D:=match r with
 |.ok (.nx a)=>F a
 |.ok (.rt .non)=>.ok .non
 |_=>.bad
def XA(d:PF X e f):ZY X [.Return (some e) g] (λρ=>HC (f ρ)):=λh i=>kZ (qM<|zN d)<|by rintro D n H ⟨O,ρ,E,o,q⟩;show⟨h,i,O,ρ,E,by
 dsimp only at q;cases b:f ρ with
 |ok p=>rw[b]at q;showλj k a l m r=>q j k a (E.same.trans l) m (r.sub E.sub)
 |ex x=>rw[b]at q;show(q).elim
 |bad=>rw[b]at q;show q⟩
def xA{st:cp}{rest:List cp}{F:Ev->R Out}{G:Ev->R D}(h:oU X st F)(i:ZY X rest G):ZY X (st::rest) (λρ=>xz (F ρ) G):=λe f=>kZ (rE (h e f)<|i e f)<|by rintro D p H ⟨O,ρ,E,j,q⟩;show⟨O,ρ,E,j,by
 dsimp only at q;cases a:F ρ with
 |ok o=>
  rw[a]at q;cases o with
  |nx b=>showλt g l m n k=>{l,b,m,n,q}
  |rt d=>
   cases d with
   |non=>showλv g s r=>by cases r;show q g s
   |_=>show(q).elim
  |_=>show(q).elim
 |ex x=>rw[a]at q;show(q).elim
 |bad=>rw[a]at q;show(q).elim⟩
def spO(K:kn)(n:Nat)(m:List D->R D):Sp:=λh H Q _=>∃O e d,Reps K H O h e/\e.length=n/\(∀a,O a->∃o,H a=some o/\Mt o)/\Tb H/\V0 K O/\m e=.ok d/\(d=.non->∀b,Same H b->Q .non b)/\∀f,d=.lst f->∀g b a,Same H b->b a=none->Reps K b O g f->Q (.ref a) (upd b a<|.lst g)
def HN(P:be)(w:cf)(K:kn)(mg:eU)(base:ck)(k:Nat)(x:Str)(n:Nat)(m:List D->R D):Prop:=
 (∃g a b,FnOk P w K mg base uM k g a b (spO K n m)/\Binds K a b []/\PySem.W.keepIn K (.ref g)=true/\mg x=some (.ref g))/\∀e d,e.length=n->m e=.ok d->nnB d=true
def HN.cal{K:kn}(c:HN P w K mg base k x n m):u9 P w K mg base k x n m:=by let{{g,l,p,F,b,s,e},I}:=c;show{g,l,p,F.imp λJ H Q E z=>?_,b,s,e};let{O,t,d,r,u,j,v,y,e,q}:=z;show{O,t,d,r,u,j,v,y,e,λi A f=>by subst i;show q _ _ f .non,λL i N A a f h B=>?_};subst i;show q _ _ (f.trans<|j4 h _) (.lst (L7.of j2) (λz=>?_) (B.same<|j4 h _));let{o,C,_}:=j a z;rw[f _ _ C]at h;cases h
def WK{K:kn}{st:cp}(g:Z7 K mg x st)(S:FnScope N ps (c8 st))(o:∀{f:ba}{T:au}{A:bM}{a:List Env}{s:aL}{H:Hp}{E:XK},Room k (A.deeper (aBA x (c8 st) s.heap.objs.size f T))->(A.deeper (aBA x (c8 st) s.heap.objs.size f T)).units+64<cu->(A.deeper (aBA x (c8 st) s.heap.objs.size f T)).units+130<cu->N.Nodup->
   ZY (TR P w K mg base N x (c8 st) f T A a s H E) (t7 st) F) (n:∀ds d,ds.length=ps.length->m ds=.ok d->F (n5 N ds)=.ok d/\nnB d=true) (p:∀(kV i q:au) (t:Option ba) (T ct:au) (h:List au),h.length=ps.length->bindArgs (PySem.W.fnOf x x (C9 st) (t7 st) (c8 st) .none kV i q t T ct) {h,[]}=pure (ps.zip h):=by
   intro _ _ _ _ _ _ h b;rcases h with _|⟨_,_|⟨_,_|⟨_,_|⟨_,_|⟨_,_|⟨_,_|⟨_,_⟩⟩⟩⟩⟩⟩⟩<;>first|rfl|show absurd b (by simp)):HN P w K mg base (k+1) x ps.length m:=by
 let{f,u,v,j}:=g;show{{f,u,ps,j.ok S (λy H Q E z=>?_) (λT A a s H y Q E l z=>?_),j.binds p,j.kp,v},λds d b e=>(n ds d b e).2}
 .let{O,ds,d,r,b,_}:=z;rw[r.length];show b
 let{O,ds,d,r,b,B,C,I,e,J,L}:=z;show{_,o l l.units l.ad8 S.nd H O,O,_,gM r B C,I,?_};let{U,Y}:=n ds _ b e;rw[U];cases d with
 |non=>show J rfl
 |lst rs=>show L rs rfl
 |_=>cases Y
def tO(X:Cx)(f:Ev->R D):TE:=λi H Q=>∃j k O d,EnvOk X.K j k H O i d/\match f d with
 |.ok .non=>∀b,Same H b->Q .non b
 |.ok (.lst l)=>∀g b a,Same H b->b a=none->Reps X.K b O g l->Q (.ref a) (upd b a<|.lst g)
 |.ex e=>∀h,Same H h->XW X e h
 |_=>False
def PO(X:Cx)(e:cq)(f:Ev->R D):Prop:=PE X e (tO X f)
def a3b(c:HN X.prog X.w X.K X.mg X.base k x n m)(C:Room k X.A)(i:MT X (e::es) f)(J:DY f n)(L:Gl X x:=by rfl)(N:(x==kM)=false:=by decide)(T:a9 (e::es) X.env=(false,dm e X.env)::a9 es X.env:=by rfl)(U:(cy j (a9 es X.env)).any (·.1)=false:=by rfl):
  PO X (.Call (.Name x p) (e::es) [] j) (λρ=>(f ρ).bind m):=by
 let{{g,gd,ps,F,b,Y,em},hc}:=c;show qV λh s σ H Q I H9 O0 O ρ E q=>(yQ F C L em Y b .nil VB i N T U h s σ H Q I {H9,O0,O,ρ,E,?_});dsimp only at q;cases l:f ρ with
 |ex z=>rw[l]at q;show q
 |bad=>simp_all
 |ok o=>
  rw[l,R.aa0]at q;intro vs H1 r r1;rw[aBU];have B:=E.grow r;cases t:m o with
  |ex z=>rw[t]at q;show(q H<|Same.refl _).elim
  |bad=>simp_all
  |ok d=>
   rw[t]at q;show{O,o,d,r1,J ρ o l,B.trk,B.tab,oB I O E.trk,t,λu v y=>?_,λrs u ws v a y i r2=>?_}
   .subst u;show q v (r.trans y)
   subst u;show q ws v a (r.trans y) i r2
def slO(d:D):R Sl:=match d with
 |.non=>.ok (.v .non)
 |.lst a=>.ok (.o a)
 |_=>.bad
def VW(i:Nat)(he:PO X e f)(U:X.N.Nodup)(Y:X.N[i]?=some x:=by rfl)(hx:Loc X.env.scope x:=by first|show aCs rfl|show aBC rfl)(hs:d7 e (some (.Name x h)) A.line X.env=pure false:=by rfl)(hf:X.fn x=true\/X.env.scope.names.lookup x=some .local:=by first|show .inl rfl|show .inr rfl|assumption):
  oU X (.Assign [.Name x h] e A) (λρ=>(f ρ).bind λd=>(slO d).bind λsl=>.ok (.nx (ρ.set i sl))):=by
 rintro B C j s σ H D I ⟨O,ρ,E,fk,q⟩;dsimp only at q;show aEt (D8 (he j s σ H (λv J=>(v=.non/\Same H J/\RS X B C H O (.ok (.nx (ρ.set i<|.v .non))) D)\/∃k g a l,v=.ref a/\J=upd g a (.lst k)/\Same H g/\g a=none/\Reps X.K g O k l/\RS X B C H O (.ok (.nx (ρ.set i<|.o l))) D) I {B,C,O,ρ,E,?_}) λv t z9=>?_) hs
 .cases m:f ρ with
  |ok d=>
   rw[m,R.aa0]at q;cases d with
   |non=>showλg t=>.inl {rfl,t,q}
   |lst l=>showλk g a t p r=>.inr {k,g,a,l,rfl,rfl,t,p,r,q}
   |_=>show(q).elim
  |ex x=>rw[m]at q;showλH' s=>q H' (E.same.trans s)
  |bad=>rw[m]at q;show q
 let{y,J,u,r2,z}:=z9;rcases z with⟨rfl,sm,L⟩|⟨k,g,a,l,m,e2,w,p,r,L⟩
 .show L0 u U Y hx r2 (λs3 Q=>{_,_,Q,(L _ _ O ((E.grow sm).set i .non) fk<|Kp.of sm)}) hf
 subst m e2;show L0 u U Y hx r2 (λs3 Q=>{_,_,Q,?_}) hf;have E2:=(E.grow w).ad2 i p (KR u<|j2) r;show L _ _ _ E2 (oB u _ E2.trk) (λb o T n=>{by rw[m5 (t8 (w b o T) p)];show w b o T,λz=>z.elim n (t8 (w b o T) p)})
def a6l:D->D->R D
 |.non,.non=>.ok (.bl false)
 |_,.non=>.ok (.bl true)
 |_,_=>.bad
def kz:lF X (dI .IsNot) a6l:=by
 intro H O x y e f Q j d g q;show{_,qx,?_};cases f with
 |non=>
  show{g.ab9,?_};cases e with
  |non=>rw[d.ab9];show q _ H (Same.refl _) .bl
  |bl b=>rw[d.blI];show q _ H (Same.refl _) .bl
  |int i=>rw[d.aa6];show q _ H (Same.refl _) .bl
  |str z=>rw[d.ac2];show q _ H (Same.refl _) .bl
  |tup h=>let{a,_,rfl,_}:=d.tupI;show q _ H (Same.refl _) .bl
  |lst h=>let{a,_,rfl,_}:=d.aa5;show q _ H (Same.refl _) .bl
  |dct=>let{a,_,_,rfl,_}:=d.ad9;show q _ H (Same.refl _) .bl
 |_=>cases e<;>show(q).elim
end DL
namespace DL
open PySem PySem.Spec PySem.Calls PySem.W Builtin Builtin.ObjectAttr Builtin.Getset_descriptor
open PyProof.Rows hiding St
section
variable{prog:be}{w:cf}{A:bM}{E:B6}{K:Frag}{h:ck}{g:Array GenState}{d:Drawn}{t:Nat}{os:OsState}{a C:ba}{o:Obj}
end
end DL
namespace DL
open PySem PySem.Spec L2
open PyProof.Rows hiding St
variable [Tabs]
section
variable{X:Cx}{pos:Pos}
end
section
variable{X:Cx}{pins:P9}{σ:St}{H H':Hp}{s s':aL}
end
section
variable{K:kn}{H9 H:Hp}{O0 O:ba->Prop}{σ:St}{ρ:Ev}
end
section
variable{X:Cx}{pos hpos np:Pos}
end
section
variable{X:Cx}{pos:Pos}
end
def mX(f:Ev->R (List D))(m:List D->Option au)(ρ:Ev):Option au:=match f ρ with|.ok a=>m a|_=>none
section
variable{X:Cx}{pos:Pos}
end
section
end
section
end
section
abbrev EI(X:Cx)(e:cq)(es:List cq):Prop:=a9 (e::es) X.env=(false,dm e X.env)::a9 es X.env
def o5{i:Int}{j}:PB X (.Constant (.int i) j a) (tj (.int i)):=c6.pb
def vI{e1:cq}{b:Ev->R D}(c:u9 X.prog X.w X.K X.mg X.base k x 1 m)(e:Room f X.A)(g:PD X e1 b)(h:k<=f:=by decide)(d:EI X e1 []:=by rfl)(i:Gl X x:=by rfl)(j:(x==kM)=false:=by decide)(l:(cy a (a9 [] X.env)).any (·.1)=false:=by rfl):
 PD X (.Call (.Name x p) [e1] [] a) (λρ=>((t6 b S8) ρ).bind m):=yE c (e.mono h) (f7 g o8 d) (x5 S9) i j d l
def U5{e1 e2:cq}{b d:Ev->R D}(c:u9 X.prog X.w X.K X.mg X.base k x 2 m)(f:Room g X.A)(h:PD X e1 b)(i:PD X e2 d)(j:k<=g:=by decide)(e:EI X e1 [e2]:=by rfl)(l:EI X e2 []:=by rfl)(n:Gl X x:=by rfl)(o:(x==kM)=false:=by decide)(q:(cy a (a9 [e2] X.env)).any (·.1)=false:=by rfl):
 PD X (.Call (.Name x p) [e1,e2] [] a) (λρ=>((t6 b (t6 d S8)) ρ).bind m):=yE c (f.mono j) (f7 h (f7 i o8 l) e) (x5<|x5 S9) n o e q
def pc3{e1 e2 a:cq}{d e f:Ev->R D}(c:u9 X.prog X.w X.K X.mg X.base k x 3 m)(h:Room i X.A)(j:PD X e1 d)(l:PD X e2 e)(n:PD X a f)(o:k<=i:=by decide)(g:EI X e1 [e2,a]:=by rfl)(q:EI X e2 [a]:=by rfl)(r:EI X a []:=by rfl)(s:Gl X x:=by rfl)(t:(x==kM)=false:=by decide)(u:(cy b (a9 [e2,a] X.env)).any (·.1)=false:=by rfl):
 PD X (.Call (.Name x p) [e1,e2,a] [] b) (λρ=>((t6 d (t6 e (t6 f S8))) ρ).bind m):=yE c (h.mono o) (f7 j (f7 l (f7 n o8 r) q) g) (x5<|x5<|x5 S9) s t g u
def pc4{e1 e2 b a:cq}{e f g h:Ev->R D}(c:u9 X.prog X.w X.K X.mg X.base k x 4 m)(j:Room l X.A)(n:PD X e1 e)(o:PD X e2 f)(q:PD X b g)(r:PD X a h)(s:k<=l:=by decide)(i:EI X e1 [e2,b,a]:=by rfl)(t:EI X e2 [b,a]:=by rfl)(u:EI X b [a]:=by rfl)(v:EI X a []:=by rfl)(y:Gl X x:=by rfl)(z:(x==kM)=false:=by decide)(B:(cy d (a9 [e2,b,a] X.env)).any (·.1)=false:=by rfl):
 PD X (.Call (.Name x p) [e1,e2,b,a] [] d) (λρ=>((t6 e (t6 f (t6 g (t6 h S8)))) ρ).bind m):=yE c (j.mono s) (f7 n (f7 o (f7 q (f7 r o8 v) u) t) i) (x5<|x5<|x5<|x5 S9) y z i B
def vK{e1 e2:cq}{a b:Ev->R D}{j}(d:PD X e1 a)(e:PD X e2 b)(f:EI X e1 [e2]:=by rfl)(g:EI X e2 []:=by rfl):PD X (.Tuple [e1,e2] j h) (λρ=>((t6 a (t6 b S8)) ρ).bind uT):=tM (f7 d (f7 e o8 g) f)
def jP{e1 e2 a:cq}{b d e:Ev->R D}{j}(f:PD X e1 b)(g:PD X e2 d)(h:PD X a e)(i:EI X e1 [e2,a]:=by rfl)(k:EI X e2 [a]:=by rfl)(l:EI X a []:=by rfl):PD X (.Tuple [e1,e2,a] j m) (λρ=>((t6 b (t6 d (t6 e S8))) ρ).bind uT):=tM (f7 f (f7 g (f7 h o8 l) k) i)
def vT{id:String}{g:List D->R D}{e:cq}{f:Ev->R D}(h:bR X (.builtin id) g)(a:PB X e f)(i:Gl X x:=by rfl)(j:X.mg x=none:=by assumption)(k:cv x=some (.builtin id):=by decide+kernel)(l:x≠ "__name__":=by decide)(m:(x==kM)=false:=by decide)(d:EI X e []:=by rfl)(n:(cy b (a9 [] X.env)).any (·.1)=false:=by rfl):
 PD X (.Call (.Name x p) [e] [] b) (λρ=>(t6 f S8 ρ).bind g):=fI h (u8 a y9 d) i j k l m d n
def HK{i:List Str}{a:ik}{l:Pos}{e:cq}{fe:Ev->R D}(h:∀b f j k C,PD (HB X b j k ([x]++i) a (eN X a C) C f) e fe)(m:([x]++i).Nodup:=by decide+kernel)(n:Loc (relabel a X.env) x:=by first|show aCs rfl|show aBC rfl)(o:(a.names.lookup x==some .cell)=true\/(relabel a X.env).names.lookup x=some .local:=by first|show .inl rfl|show .inr rfl):
  ∀(b:P9) (f:List ba) (g:Cx),(∃p q C,g=HB X b p q ([x]++i) a (eN X a C) C f)->LV g (.Name x l) (λd ρ=>.ok (ρ.set 0 (.v d)))/\XU g [] (λ_=>.ok true)/\PD g e fe:=by
 rintro b f r ⟨j,k,C,rfl⟩;show{j5 0 m rfl n o,zQ,h b f j k C}
def hxt{j:List Str}{a:ik}{l:Pos}{f c:cq}{fe:Ev->R D}{ft:Ev->R Bool}(h:∀b e g i C,EG (HB X b g i ([x]++j) a (eN X a C) C e) c ft/\PD (HB X b g i ([x]++j) a (eN X a C) C e) f fe)(m:([x]++j).Nodup:=by decide+kernel)(n:Loc (relabel a X.env) x:=by first|show aCs rfl|show aBC rfl)(o:(a.names.lookup x==some .cell)=true\/(relabel a X.env).names.lookup x=some .local:=by first|show .inl rfl|show .inr rfl):
  ∀(b:P9) (e:List ba) (k:Cx),(∃p q C,k=HB X b p q ([x]++j) a (eN X a C) C e)->LV k (.Name x l) (λd ρ=>.ok (ρ.set 0 (.v d)))/\XU k [c] ft/\PD k f fe:=by
 rintro b e r ⟨g,i,C,rfl⟩;show{j5 0 m rfl n o,JI (h b e g i C).1,(h b e g i C).2}
end
end DL
namespace DL
open PySem L2
variable [Tabs]
end DL
namespace M
open PySem L2 DL
variable [Tabs]
def Q7(ns:List Int):Y7 (ns.map D.int)=some ns:=by
 induction ns with
 |nil=>rfl
 |cons n ns a=>rw[aAm,Y7,a];rfl
def xT(h:D4 d<=40):LQ d d=.ok (.bl false):=by unfold LQ;rw[kc {h,h},O5];rfl
def KG(J:List G.V):D4 (.lst (J.map vd))<=40:=by
 rw[D4];have:∀J:List G.V,y8 (J.map vd)<=1:=λJ=>by
  induction J with
  |nil=>simp[y8]
  |cons P J a=>rw[aAm,y8];show Nat.max_le.mpr {by simp[D4,y8],a}
 have:=this J
 lia
def aR{J:Ev->Prop}(a:r=.ok (.nx ρ))(b:∃ρ2,F ρ=.ok (.nx ρ2)/\J ρ2):∃ρ2,C1 r F=.ok (.nx ρ2)/\J ρ2:=by rw[a];show b
def dw(c w:Int):G.V:={c.fmod w-w.fdiv 2,(c.fdiv w).fmod w-w.fdiv 2,(c.fdiv<|w*w).fmod w-w.fdiv 2}
def tmA(c:Int)(at_ j:Nat):Int:=(c.fdiv<|5+7*(at_:Int)+(j:Int)).fmod 5-2
def a2f(P:G.V)(t:Int)(w:G.V):G.V:={P.x+t*w.x,P.y+t*w.y,P.z+t*w.z}
def ptA(c:Int)(b:G.V)(ws:List G.V)(at_:Nat):G.V:=match ws with
 |[]=>b
 |[u]=>a2f b (tmA c at_ 0) u
 |u::v::_=>a2f (a2f b (tmA c at_ 0) u) (tmA c at_ 1) v
def a6v(c:Int)(b:G.V)(ws:List G.V)(n:Nat):List G.V:=(aBd n).map (ptA c b ws)
structure Drawn(J:List G.V):Prop where
 ne:J≠[]
 len:J.length<=40
 sz:∀P∈J,Sz 100 P
 flat:¬G.k9 J
open Classical in
def CW(p:Prop) (d:D):R D:=if p then .ok d else .bad
def P1{p:Prop}{d r:D}(h:CW p d=.ok r):p/\d=r:=by unfold CW at h;grind
def J7{p:Prop}{d:D}(h:p):CW p d=.ok d:=kc h
def lvD(k:List G.V->List D->R D):List D->R D:=MY λY e=>match G5 Y with
 |some l=>k l e
 |none=>.bad
def tE{k:List G.V->List D->R D}{ds:List D}{r:D}(h:lvD k ds=.ok r):∃l e,ds=.lst (l.map vd)::e/\k l e=.ok r:=by
 replace h:=mI h;let{Y,e,rfl,h}:=h;cases q:G5 Y with
 |none=>simp_all
 |some l=>rw[q]at h;show{l,e,by rw[v5 q],h}
def lD(k:List G.V->List D->R D)(l:List G.V)(e:List D):lvD k (.lst (l.map vd)::e)=k l e:=by change(match G5 (l.map vd)with|some l=>k l e|none=>.bad)=_;rw[x6]
def l3(k:Int->Int->Int->List D->R D):List D->R D:=MY λY e=>qJ (λa=>qJ λb=>qJ λc=>eV (k a b c e)) Y
def PJ(s k:Int):Int:=(s*s+5003*k+11).fmod 2147483647
def jO(l:List Int):Prop:=l.length=7/\∀i∈l,bits i<=100
def s7(c k:Int):Int:=(c.fdiv k).fmod 7-3
def mR{J:List G.V}(g:bG 900 J)(h:G.k9 J)(d:(f8 J).length<=14):(∀f,f∈p9 (f8 J)↔G.IsFace (f8 J) f.1 f.2)/\p9 (f8 J)≠[]/\(p9 (f8 J)).length<=2744:=by let{m,r,e,L}:=cN g h (by lia);have a:=d;rw[e]at a;have b:=N1 L a;rw[<-e]at b L;have i:=aEx d (aEx d d);show{b.1,λz=>?_,aAn (G.OE (P3<|Y2 b.2) λf j=>(b.1 f).mp j) i};have:=(b.1 (_,_)).mpr (G.iW L.good.solid L.good.ord L.good.mem L.good.least);grind
def intD:D->Int
 |.int i=>i
 |_=>0
def DR{d β:Type}{G:D->Ev->R Ev}{fe:Ev->R D}{ρ:Ev}(rep:d->D)(e:β->D)(g:d->β)(l:List d)(h:∀a∈l,∃b,G (rep a) ρ=.ok b/\fe b=.ok (e (g a))):w9 G (λ_=>.ok true) fe ρ (l.map rep)=.ok ((l.map g).map e):=by rw[aAI];show W9 rep _ l h
def QI(J:List G.V):y8 (J.map vd)<=5:=by
 induction J with
 |nil=>simp[y8]
 |cons v l a=>rw[aAm,y8];simp[D4,y8]at a⊢;lia
end M
namespace DL
open PySem L2
section
variable [Tabs]
theorem sZ{K:kn}{H:Hp}{O:ba->Prop}:∀{es:List dA}{N:List (D×D)},bI K H O es N->A9 K H O (es.map (·.key)) (N.map (·.1))
 |[],[],_=>.nil
 |e::es,p::N,.cons h t=>by let{{a,b,r},_}:=h;show .cons {.ref a,by change RelV (.ref a) e.key;rw[b];rfl,r} (sZ t)
end
end DL
namespace DL
open PySem PySem.Spec L2
open PyProof.Rows hiding St st
section
variable [Tabs]
def atD(d k:D):R D:=match d with
 |.dct N=>if K8 7 k=true/\tP k=true then(match atK N k with
  |some v=>.ok v
  |none=>.bad)else .bad
 |_=>.bad
def a2s(i:Nat){x y:Str}{p J l:Pos}(j:Nat)(hk:PD X (.Name y J) (Z6 j))(hu:X.A.units+130<cu)(hN:X.N[i]?=some x:=by rfl)(hv:EF X.env.scope x:=by first|show aCs rfl|show aBC (aCs rfl)|show aBC (aBC rfl))
  (hd:(x==kM)=false:=by decide) (eh:(x==lh)=false:=by decide):PD X (.Subscript (.Name x p) (.Name y J) l) (λρ=>(Z6 i ρ).bind λd=>(Z6 j ρ).bind λk=>atD d k):=by
 show qV λf s L H Q I H9 O0 O ρ E q=>?_;dsimp only at q;unfold Z6 at q;cases m:ρ[i]? with
 |none=>rw[m]at q;show(q).elim
 |some sl=>
  rw[m]at q;cases sl with
  |v d=>
   rw[R.aa0]at q;cases e:Z6 j ρ with
   |ex x=>unfold Z6 at e;split at e<;>cases e
   |bad=>unfold Z6 at e;rw[e]at q;show q.elim
   |ok k=>
    have T:=e;unfold Z6 at T;rw[T,R.aa0]at q;unfold atD at q;cases d with
    |dct N=>
     dsimp only at q;split at q
     .rename_i U;let{v,h1,r0}:=E.val i _ m;let{a,o,es,rfl,h4,h5,h6,h7}:=(A4.of r0).ad9;show wpAny_Subscript_Name_late (D8 ((N4 hN hv hd eh:PE X (.Name x p) _) f s L H (λv h=>v=.ref a/\h=H) I {_,h1,rfl,rfl}) λv s1 ⟨w,h,I1,r1,ew,eH⟩=>?_);subst ew eH;cases r1;show D8 (hk f s1 L h (λv g=>Same h g/\Rep X.K g O v k) I1 {H9,O0,O,ρ,E,by rw[e,RC];showλv g s2 r2=>{s2,r2}}) λu s2 ⟨v,g,n,ru,t,rk⟩=>?_;let{b,rfl}:=dW rk U.2;cases ru;have z:=t a _ h4;have B:bI X.K g O es N:=h6.rep.mono λr=>r.same t;let{Y,hD,qc,hp}:=zK n z h5 B h7;let{ok,dp}:=gU U.1;show{"dict",_,PySem.F.slot_dict_getitem.lookup,hD.typeIs,?_};rcases wE hp with⟨_,C⟩|⟨p',d,w,e,C,za,r⟩
      .rw[C]at q;show(q).elim
      rw[C]at q;show wpAny_getItem_heap (knd:=Z9 X.prog X.w) (by change X.A.in1.units+128<cu;rw[w6];lia) {T6 n rk ok rfl,by lia} hD e {w,g,n.tok _,za,q w g t r}
     show(q).elim
    |_=>show aAv q
  |_=>show aAv q
def sdD(d:D):R (List D):=match d with
 |.dct N=>if(N.map (·.1)).all cW=true/\N.length<=63 then .ok (bW (N.map (·.1)))else .bad
 |_=>.bad
def GW{p j:Pos}{e:cq}{f:Ev->R D}(ha:PB X e f)(hh:X.calm=true)(hu:X.A.units+300<cu)(hg:Gl X "sorted":=by rfl)(hm:X.mg "sorted"=none:=by assumption)(hv:cv "sorted"=some (.builtin "sorted"):=by decide+kernel)(he:a9 [e] X.env=(false,dm e X.env)::a9 [] X.env:=by rfl)(bo:(cy j (a9 [] X.env)).any (·.1)=false:=by rfl):
  PF X (.Call (.Name "sorted" p) [e] [] j) (λρ=>(f ρ).bind sdD):=by
 show qV λt s σ H Q I H9 O0 O ρ E q=>?_;dsimp only at q;show aAN (M0 I hg hm hv (aBr (D8 ((J6 ha bC he) j t s σ H (λvs B=>∃v N,vs=[v]/\f ρ=.ok (.dct N)/\Same H B/\A4 X.K B O v (.dct N)) I {H9,O0,O,ρ,E,?_}) λus m z9=>?_) he bo) (by decide) (by decide))
 .cases e1:f ρ with
  |ex z=>rw[e1]at q;show q
  |bad=>simp_all
  |ok d=>
   rw[e1,R.aa0]at q;cases d with
   |dct N=>showλv B m r1=>{v,N,rfl,rfl,m,r1}
   |_=>show(q).elim
 let{vs,B,J,r1,v,N,ev,ef,sm,rb}:=z9;subst ev;rw[ef,R.aa0]at q;let{a,o,es,rfl,h4,h5,h6,nd}:=rb.ad9;let{u,rfl,ru}:=vals1 r1;cases ru;erw[sdD]at q;by_cases hc:(N.map (·.1)).all cW=true/\N.length<=63
 .rw[kc hc]at q;let{nc,yp}:=hc;let{L,T,ea,ep,jf,ees}:=h5;have pt:=aBB.mp nc;have st:A9 X.K B O (ea.toList.map (·.key)) (N.map (·.1)):=by rw[ees];show sZ h6.rep
  have hlen:(ea.toList.map (·.key)).length=N.length:=by rw[st.length,aAf]
  have fm:ea.size=N.length:=by rw[<-hlen];simp
  have g:∀u∈ea.toList.map (·.key),∃d,d∈N.map (·.1)/\cW d=true/\HV m.heap u d:=λu hu=>by let{d,r,v,rv,rp}:=st.get hu;show{d,r,pt d r,T6 J rp (O7<|pt d r) rv}
  show TS.sorted_keys (f:=true) (key:=UY m.heap) (C:=λs'=>∃h' i,s'={m with heap:=h',toks:=i}/\∀b o,m.heap.get? b=some o->h'.get? b=some o)
   (λ{Q'} hq=>SD.collect_dk (by simp[J.ok.hd hh]) L ({o,(J.hok a _ h4).1,T,jf}) (fm▸aAn yp (by decide)) λh' i k=>hq _ {h',i,rfl,k})
   (λs' ⟨h',i,h,k⟩ s6 k6 x T y hy prog w A E hA {Q} qq=>?_) (λh2 s' ⟨h',i,h,k⟩ s6 k6 A {Q} qq=>?_) (by rw[hlen];lia) λs' gh h' l ⟨h1,i,h,k⟩ pm srt k2 hl ⟨n,gl⟩=>?_
  .subst h;let{d,_,pd,ur}:=g x T;let{d',_,U,xn}:=g y hy;rw[gE pd ur,gE U xn]at qq;show RI pd U (ur.keeps λb o e _=>k6 b o (k b o e)) (xn.keeps λb o e _=>k6 b o (k b o e)) qq
  .subst h;show AZ (λx T=>?_) h2 qq;let{d,_,pd,ur}:=g x T;show{d,pd,ur.keeps λb o e _=>k6 b o (k b o e)}
  subst h;let{uf,st3,p2,Y}:=lP st pm srt (by rintro u d ⟨v,rv,rp⟩ r;show gE (pt d r) (T6 J rp (O7<|pt d r) rv)) pt nd;have e3:=lH Y (bS _) λd=>by rw[p2.mem_iff,M9 pt]
  subst e3;let{wv,ql,ng}:=st3.ab6;have I2':=J.kept (h':=h1) (t':=i) k;show{.ref l,_,(I2'.laid (a:=l) (o:=.lst wv) (h':=h') (t':=i) k2 hl {by rw[ng.length,p2.length_eq,aAf];show aAn yp (by decide),gh,n,ql,gl}),rfl,q wv _ l sm (I2'.hok.fresh hl) ng}
 rw[kd hc]at q;show q.elim
end
def ZJ:ju (.type "list") "keys"=pure none:=by rw[aCZ,aBQ];kernel_rfl
section
variable{prog:be}{w:cf}{A:bM}{E:B6}{s:aL}
def MC{a:ba}{Y:Array au}{k:Nat}{sl:Array (Option au)}{u:Tok}{Q:B6}(b:s.heap.get? a=some {cls:=.type "list",dict:=none,data:=.seq Y k,slots:=sl})(d:A.handled=none)
  (h:∀h' tk e,Heap.NewAttrErr s.heap h' e (.ref a) "keys"->E (.ref e) {s with heap:=h',toks:=tk}):bb (bc prog w) A (call (.builtin "list.__getattribute__") [.ref a,.str "keys" u]) Q E s:=by
 show aGk PySem.F.slot_list_getattribute ({_,b,rfl}) am_entry_list_getattribute (PySem.F.args_list_getattribute_2 _ _) (meets_getattribute_miss_list a Y k sl "keys" _ ZJ (by decide+kernel) (by decide+kernel)) {b,d,λh' f e g=>?_};show h h' f e g
def fw{a:ba}{o:Obj}{Y:Array au}{k:Nat}{Q:Option au->aL->Prop}(f:s.heap.get? a=some o)(j:o.cls=.type "list")(l:o.data=.seq Y k)(m:o.dict=none)(n:A.handled=none)
  (h:∀h' tk,(∀b i,s.heap.get? b=some i->h'.get? b=some i)->Q none {s with heap:=h',toks:=tk}):bb (bc prog w) A (getAttr? (.ref a) "keys") Q E s:=by
 let{c,p,q,x}:=o;cases j;cases l;cases m;let{r,g,d,tk,os}:=s;have u:∀t,(⟨r,g,d,t,os⟩:aL).TypeIs (.ref a) "list":=λ_=>{_,f,rfl};have y:=sub_AttributeError;have z:=PySem.F.slot_list_getattribute.lookup;have B:=PySem.F.slot_list_getattribute.bind (.ref a);have C:=am_list_getattr_none;unfold getAttr? getAttrBy? getAttrBy;repeat(any_goals(first|assumption|show u _|(show MC f n λh' H e v=>?_;let{I,J,L}:=v.there)|wp_step))
 show h _ _ (‹Heap.NewAttrErr _ _ _ _ _›:Heap.NewAttrErr _ _ _ _ _).keeps
end
section
variable [Tabs] {prog:be}{w:cf}{A:bM}{R:Result->aL->Prop}
def gZ:plainId "dict.update.loop"=true:=by decide+kernel
def wS:entryFor table "dict.update.loop"=some Builtin.«dict.update.loop»:=entryFor_of_fast (by kernel_rfl)
def SqK(h h':ck):Prop:=∀b o,h.get? b=some o->(∃a n,o.data=.seq a n)->h'.get? b=some o
def NN(h:ck)(u:au)(x:D×ba×au):Prop:=∃t o n,u=.ref t/\h.get? t=some o/\o.cls=.type "tuple"/\o.data=.seq #[.ref x.2.1,x.2.2] n/\HV h (.ref x.2.1) x.1/\D4 x.1<8
def NN.kept{h h':ck}{u:au}{x:D×ba×au}(p:NN h u x)(k:SqK h h'):NN h' u x:=by let{t,o,n,e,g,c,a,b,d}:=p;show{t,o,n,e,k t o g {_,_,a},c,a,b.ab2 k,d}
def DictOfH.kept{h h':ck}{d:ba}{Y:List (D×ba×au)}(m:h.DictOfH (Z9 prog w) d Y)(g:∀o,h.get? d=some o->h'.get? d=some o)(k:SqK h h'):h'.DictOfH (Z9 prog w) d Y:=by let{o,e,f,i,j,l,n,a,p}:=m;show{o,e,f,g o i,j,l,n,λx b=>{(a x b).1.ab2 k,(a x b).2},p}
def ax(L:A.in1.units+128<cu){l I d:ba}{items:Array au}{Y:List (D×ba×au)}(W:Walks prog w A.in1 I [I,l] [I] items.size (λi v=>items[i]?=some v) (λi h=>h.IsListIter I l i/\h.IsList l items))
  (E:d≠I) (dl:d≠l) (nd:(Y.map (·.1)).Nodup) (len:items.size=Y.length) (small:Y.length<=sizeLine):∀(m j:Nat) (s:aL) (r:Tok),Y.length-j=m->j<=Y.length->s.heap.IsListIter I l j/\s.heap.IsList l items->s.heap.DictOfH (Z9 prog w) d (Y.take j)->
  (∀(i:Nat) (u:au) (x:D×ba×au),items[i]?=some u->Y[i]?=some x->NN s.heap u x)->(∀o,s.heap.get? I=some o->¬∃its n,o.data=.seq its n)->(∀o,s.heap.get? d=some o->¬∃its n,o.data=.seq its n)->
  (∀h' tk,h'.DictOfH (Z9 prog w) d Y->(∀b o,b≠d->b≠I->s.heap.get? b=some o->h'.get? b=some o)->R (.ok (.ret .none)) {s with heap:=h',toks:=tk})->
  fo (bc prog w) A (.builtin "dict.update.loop" {[.ref d,.ref I,.int (j:Int) r,.none],[]}) R s:=by
 intro m;induction m with
 |zero=>
  intro j s r hm hj st H N nI nD q;have ej:j=items.size:=by lia
  show aBl wS ?_;rw[aBk gZ _];change bb _ A.in1 (fh (.ref I)>>=_) _ _ s;show aAa (W.done s _ _ (by rw[<-ej];show st) λh' tk k=>?_);rw[aBG (by lia)]at H;show aAa (aAc (aAc (q h' tk (DictOfH.kept H (λo g=>k d o (by simpa using E) g) (λb o g z=>k b o (λe=>by simp at e;subst e;show nI o g z) g)) λb o _ J g=>k b o (by simpa using J) g)))
 |succ m ih=>
  intro j s r hm hj st H N nI nD q;obtain⟨x,U⟩:∃x,Y[j]?=some x:={Y[j],aAl (by lia)};have ex:Y.take (j+1)=Y.take j++[x]:=by rw[List.take_succ,U];rfl
  show aBl wS ?_;rw[aBk gZ _];change bb _ A.in1 (fh (.ref I)>>=_) _ _ s;show aAa (W.item j s _ _ (by lia) st λu h1 tk dc PJ O=>?_);have a:SqK s.heap h1:=λb o g z=>O b o (λe=>by simp at e;subst e;show nI o g z) g;let{t,o,n,rfl,gt,ct,dt,hv,dp}:=(N j u x dc U).kept a;have B:=DictOfH.kept H (λo g=>O d o (by simpa using E) g) a;have nk:kb (Y.take j) x.1=none:=by
   cases e:kb (Y.take j) x.1 with
   |none=>rfl
   |some p=>have h:=X8.mp (by rw[e];rfl);have nd2:((Y.take<|j+1).map (·.1)).Nodup:=(nd.sublist<|(aFG _ _).map _);grind
  show aAa (aAG<|aAa<|aEw ?_);unfold Builtin.Dict.pairItems;show aAa (aDe (T:= "tuple") {o,gt,ct} ?_);rw[kc (by decide)];show aAa (aAV gt dt<|aAc ?_);change bb _ A.in1 (gn [aCL x.2.1,x.2.2]<|dictSet d (.ref x.2.1) x.2.2) _ _ _;show aAG (wpAny_dictSet_heap (knd:=Z9 prog w) (k:=x.1) ?room {hv,dp} B (λh2 f C=>?_) ?sz)
  case room=>show L
  case sz=>rw[aCo];lia
  rw[storedH_new nk,<-ex]at f;have dn1:∀o,h1.get? d=some o->¬∃its n,o.data=.seq its n:=λo g z=>by let{od,es,ep,gd,_,dd,_}:=B;rw[gd]at g;cases g;grind
  show aAc {aBz gZ _,ih (j+1) _ _ (by lia) (by lia) ?st f (λi u y L hy=>((N i u y L hy).kept a).kept (λb o g z=>(C.2 b (λe=>by subst e;show dn1 o g z)).trans g)) ?nI ?nD λh' om Q k'=>?_}
  case st=>show{PJ.1.at λo g=>(C.2 I (aCF E)).trans g,PJ.2.at λo g=>(C.2 l (aCF dl)).trans g}
  case nI=>intro o g z;let{oi,gi,_,di}:=PJ.1;rw[(C.2 I (aCF E)).trans gi]at g;grind
  case nD=>intro o g z;let{od,es,ep,gd,_,dd,_}:=f;grind
  show q h' om Q λb o J hi g=>k' b o J hi ((C.2 b J).trans (O b o (by simpa using hi) g))
def LK{E:B6}{s:aL}{Q:B6}{l:ba}{its:Array au}{Y:List (D×ba×au)}(B:A.units+130<cu)(hh:A.handled=none)(N:eY<s.heap.objs.size)(O:∃o n,s.heap.get? l=some o/\o.cls=.type "list"/\o.data=.seq its n/\o.dict=none)
  (T:∀(i:Nat) (u:au) (x:D×ba×au),its[i]?=some u->Y[i]?=some x->NN s.heap u x) (U:(Y.map (·.1)).Nodup) (len:its.size=Y.length) (small:Y.length<=sizeLine)
  (q:∀h' tk,h'.DictOfH (Z9 prog w) s.heap.objs.size Y->(∀b o,s.heap.get? b=some o->h'.get? b=some o)->Q (.ref s.heap.objs.size) {s with heap:=h',toks:=tk}):
  bb (bc prog w) A (call (.type "dict") [.ref l]) Q E s:=by
 show callType_codes (Q₁:=λd C=>d=.ref s.heap.objs.size/\C={s with heap:=s.heap.push {cls:=.type "dict",data:=.dict #[]}}) F.kt_called_dict (F.kt_typeCall_dict_1 _) F.entry_dict_init (kt_code_dict_new _ {rfl,rfl}) ?_;rintro d C ⟨rfl,rfl⟩;let{H,nl,h,k,dl,m}:=O;have p:=aAd h;have k0:∀b o,s.heap.get? b=some o->(s.heap.push {cls:=.type "dict",data:=.dict #[]}).get? b=some o:=λb o g=>aAb _ g;have I:(s.heap.push {cls:=.type "dict",data:=.dict #[]}).DictOfH (Z9 prog w) s.heap.objs.size []:=Heap.DictOfH.new s.heap;show{I.typeIs,F.args_dict_init_2 _ _,?_};show aAa (aAa<|aED I.typeIs ((aAc (?_:bb _ _ (Builtin.Dict.updateFrom "dict.__init__" s.heap.objs.size (.ref l) [] .none) _ _ _)):bb _ _ (pure (s.heap.objs.size,[aCL l])) _ _ _));show aAa (aDe {H,k0 _ _ h,k} ?_);show aAa (fw (k0 _ _ h) k dl m (by grind) λa tk1 j=>(aAa<|aCx ?_));have e:=j _ _ (k0 _ _ h);have f:a.IsList l its:={H,e,k,nl,dl};show aAa (aCz f ?_);have J:∀b o,s.heap.get? b=some o->(a.push {cls:=.type "list_iterator",data:=.fields #[.ref l,.int 0 0]}).get? b=some o:=λb o g=>aAb _ (j _ _<|k0 _ _ g);have L:a.get? s.heap.objs.size=some {cls:=.type "dict",data:=.dict #[]}:=j _ _ (aAg _ rfl);have r:(a.push {cls:=.type "list_iterator",data:=.fields #[.ref l,.int 0 0]}).get? s.heap.objs.size=some {cls:=.type "dict",data:=.dict #[]}:=aAb _ L;have gi:(a.push {cls:=.type "list_iterator",data:=.fields #[.ref l,.int 0 0]}).get? a.objs.size=some {cls:=.type "list_iterator",data:=.fields #[.ref l,.int 0 0]}:=aAg _ rfl;have t:s.heap.objs.size≠l:=aBP p;show aAc {aBz gZ _,ax (by grind) (aGJ (w:=w) (A:=A.in1.in1) (by grind) a.objs.size l (aAk<|aAd e) its) (aAk<|aAd L) t U len small Y.length 0 _ _ (by lia) (aAQ _) {{_,gi,rfl,rfl},f.at λo g=>aAb _ g} {_,#[],0,r,{rfl,rfl,rfl},rfl,rfl,λx v=>by simp at v,aCR} (λi u x B v=>(T i u x B v).kept λb o g _=>J b o g) (λo g z=>?_) (λo g z=>?_) λh' om y k'=>?_}
 .grind
 .grind
 show{rfl,q h' om y λb o g=>k' b o (aAk<|aAd g) (aAk<|aAd<|j _ _<|k0 _ _ g) (J b o g)}
end
section
variable [Tabs]
def AR:List D->Option (List (D×D))
 |[]=>some []
 |.tup [k,v]::r=>(AR r).map ((k,v)::·)
 |_=>none
theorem BD:∀(l:List (D×D)),AR (l.map λp=>.tup [p.1,p.2])=some l
 |[]=>rfl
 |p::l=>by rw[aAm,AR,BD l];rfl
theorem wG:∀{ds:List D}{l:List (D×D)},AR ds=some l->ds=l.map λp=>.tup [p.1,p.2]
 |[],l,h=>by cases h;rfl
 |d::r,l,h=>by
  unfold AR at h;split at h
  .grind
  .rename_i k v a e;cases q:AR a with
   |none=>rw[q]at h;cases h
   |some m=>rw[q]at h;cases h;injection e with b f;rw[b,f,aAm,wG q]
  cases h
theorem RP(I:Inv X j σ H s):∀{N:List (D×D)}{k:List V}{e:List au},Reps X.K H O k (N.map λp=>.tup [p.1,p.2])->q9 k e->(∀p∈N,K8 7 p.1=true/\tP p.1=true)->
  ∃Y:List (D×ba×au),Y.map (·.1)=N.map (·.1)/\e.length=Y.length/\(∀(i:Nat) (u:au) (x:D×ba×au),e[i]?=some u->Y[i]?=some x->NN s.heap u x)/\
   Paired (λ(x:D×ba×au) (p:D×D)=>x.1=p.1/\Rep X.K H O (.ref x.2.1) p.1/\(∃v,RelV v x.2.2/\Rep X.K H O v p.2)/\K8 7 p.1=true) Y N
 |[],_,_,r,v,_=>by cases r;cases v;show{[],rfl,rfl,λi u x h=>by simp at h,.nil}
 |p::N,_,_,r,v,l=>by
  cases r with
  |cons w y=>
   cases v with
   |cons v1 z=>
    let{Y,A,B,C,E}:=RP I y z λq J=>l q (.tail _ J);let{k7,L}:=l p (.head _);let{ok,dp}:=gU k7;cases w with
    |tup h a=>
     cases v1;cases a with
     |cons f a=>
      cases a with
      |cons Q a=>
       cases a;let{b,rfl}:=dW f L;let{T,d,U,_}:=I.tuple h;let{o,g,c,n,dd}:=U;cases d with
       |cons w1 d=>cases d with
        |cons w2 d=>
         cases d;cases w1;rename_i u2;show{(p.1,b,u2)::Y,by rw[aAm,aAm,A],by rw[aAp,aAp,B],λi u x m t=>?_,.cons {rfl,f,{_,w2,Q},k7} E};cases i with
         |zero=>simp at m t;subst m t;show{_,o,n,rfl,g,c,dd,T6 I f ok rfl,by change D4 p.1<8;lia}
         |succ i=>show C i u x (by grind) (by grind)
def yH(w:X.calm=true)(y:X.A.units+130<cu):qR X (.type "dict") (λws H Q=>∃O p d N,ws=[.ref p]/\L7 X.K H p d/\Reps X.K H O d (N.map λp=>.tup [p.1,p.2])/\(∀p∈N,K8 7 p.1=true/\tP p.1=true)/\(N.map (·.1)).Nodup/\N.length<=sizeLine/\
  ∀a o es,H a=none->rR a o es->bI X.K H O es N->Q (.ref a) (upd H a (.ext λh=>h.get? a=some o))):=by
 intro m s σ H ws us Q I r h;let{O,p,d,N,rfl,z,B,C,E,hz,q}:=h;let{u,rfl,J}:=vals1 r;cases J;let{L,T,U,_}:=I.list z;let{Y,n,a2,a3,a4}:=RP I B T C;have b:eY<s.heap.objs.size:=aFZ (by decide) (I.mod.glob.keeps I.bk).lt;let{oL,nL,gL,cL,dL,sL}:=U;have len:Y.length=N.length:=by have:=km aFM n;simpa using this
 show LK y (I.ok.hd w) b {oL,_,gL,cL,sL,dL} (λi u x h1 t=>a3 i u x (by simp_all) t) (n▸E) (by grind) (by lia) λh' tk hD k=>?_;let{f,g,j,v,l,qg,uh,is',nd'}:=hD;show{.ref s.heap.objs.size,_,(I.laid (o:=.ext λh=>h.get? s.heap.objs.size=some f) (h':=h') (t':=tk) k (aAh _) {v,{f,v},λh1 t e k=>k _ e}),rfl,q _ f _ (I.hok.fresh<|aAh _) {beq_false_of_ne (aBP b),l,g,j,qg,rfl} (uh▸AD a4)}
open Classical in
def LC:List D->R D
 |[.lst a]=>match AR a with
  |some N=>if(∀p∈N,K8 7 p.1=true/\tP p.1=true)/\(N.map (·.1)).Nodup/\N.length<=sizeLine then .ok (.dct N)else .bad
  |none=>.bad
 |_=>.bad
def ZW(g:X.calm=true)(h:X.A.units+130<cu):bR X (.type "dict") LC:=by
 intro H O s i Q j r q;match i,q with
 |[.lst Y],q=>
  let{v,rfl,z}:=HE r;let{p,k,rfl,l,f}:=z.aa5;erw[LC]at q;cases e:AR Y with
  |none=>rw[e]at q;show q.elim
  |some N=>
   rw[e]at q;dsimp only at q;by_cases b:(∀p∈N,K8 7 p.1=true/\tP p.1=true)/\(N.map (·.1)).Nodup/\N.length<=sizeLine
   .rw[kc b]at q;rw[wG e]at f;show{_,yH g h,O,p,k,N,rfl,l,f,b.1,b.2.1,b.2.2,λa o t d m n=>q _ _ (j4 d _) (.dct j2 m (j a d) b.2.1 ((n.mono λr=>r.same (j4 d _)).ab6))}
   rw[kd b]at q;show q.elim
section
variable{o:cq}{to:TE}{name:Str}{apos ah:Pos}{T id:String}{r:V->List V->Hp->VK->Prop}
def lq{Ty:V->Hp->Prop}(l:PlainAttrs T)(slot:Slot T name id)(f:typeOf (.builtin id)=pure (.type "method_descriptor"))(m:MtR X id r)
  (n:∀b s d H x v,Inv X b d H s->RelV x v->Ty x H->s.TypeIs v T/\∀a,v=.ref a->∃g,s.heap.get? a=some g/\g.dict=none) (p:PE X o to)
  (q:eR o name X.env (dm o X.env)=dm o X.env:=by rfl) (t:(apos.endLine==ah.line)=true:=by rfl):
  PE X (.Call (.Attribute o name apos) [] [] ah) (λd H Q=>to d H λx e=>Ty x e/\r x [] e Q):=by
 intro b s d H Q I h;show wpAny_Call_method0_late q t (D8 (p b s d H _ I h) λv i ⟨x,e,j,k,u,w⟩=>?_);let{y,z}:=n b i d e x v j k u;show{T,id,l,slot,f,y,z,aEn rfl (PySem.evalArgs_none<|m b i d e x [] v [] Q j k .nil w)}
end
def vwO(a:ba):Obj:={cls:=.type "dict_values",data:=.fields #[.ref a]}
def rDv:V->List V->Hp->VK->Prop:=λx b H Q=>∃a o d,x=.ref a/\b=[]/\H a=some (.ext λh=>h.get? a=some o)/\rR a o d/\∀v,H v=none->Q (.ref v) (upd H v<|.ext λh=>h.get? v=some (vwO a))
def RA:MtR X "dict.values" rDv:=by
 intro d s r H x t v u Q I g i h;let{a,o,w,rfl,rfl,j,l,q}:=h;cases i;cases g;let{b,m,y,z,n,_}:=l;show SD.vals_dv b {o,(I.hok a _ j).1,m,n} ?_;have f:(s.heap.push<|vwO a).get? s.heap.objs.size=some (vwO a):=aAg _ rfl;have p:=I.laid (o:=.ext λh=>h.get? s.heap.objs.size=some (vwO a)) (h':=s.heap.push (vwO a)) (t':=s.toks) (λ_ _ q=>aAb _ q) (aAh _)
  {f,{_,f},λA B e k=>k _ e}
 show{.ref s.heap.objs.size,_,p,rfl,q _ (I.hok.fresh<|aAh _)}
def pH(d:D):R D:=match d with
 |.dct N=>match Y7 (N.map (·.2))with
  |some a=>.ok (.int a.sum)
  |none=>.bad
 |_=>.bad
theorem KY(ns:List Int):∀n,PySem.preSum (λi=>ns.getD i 0) n=(ns.take n).sum
 |0=>by simp[PySem.preSum]
 |n+1=>by
  rw[PySem.preSum,KY ns n];by_cases h:n<ns.length
  .rw[List.take_succ_eq_append_getElem h,List.sum_append,aAt,aAl h];simp
  rw[aBG (by lia),aBG (by lia),aAt,aGg (by lia)];simp
theorem sW{K:kn}{H:Hp}{O:ba->Prop}:∀{es:List dA}{N:List (D×D)}{ns:List Int},bI K H O es N->N.map (·.2)=ns.map D.int->es.length=ns.length/\∀(i:Nat) (e:dA),es[i]?=some e->∃t,e.val=aGe (ns.getD i 0) t
 |_,_,[],.nil,_=>by grind
 |e::es,p::N,n::ns,.cons h t,q=>by
  rw[aAm,aAm]at q;injection q with b d;let{l,f}:=sW t d;show{by rw[aAp,aAp,l],λi g a=>?_};cases i with
  |zero=>simp at a;subst a;let{_,{v,j,r},_}:=h;rw[b]at r;cases r;show j
  |succ i=>show f i g (by simp_all)
 |_::_,_::_,[],.cons _ _,q=>by cases q
 |[],[],_::_,.nil,q=>by cases q
def cw(i:Nat){x:Str}{p n f y l:Pos}(hh:X.calm=true)(hN:X.N[i]?=some x:=by rfl)(hv:EF X.env.scope x:=by first|show aCs rfl|show aBC (aCs rfl)|show aBC (aBC rfl))(hd:(x==kM)=false:=by decide)(eh:(x==lh)=false:=by decide)
  (cg:eR (.Name x n) "values" X.env (dm (.Name x n) X.env)=dm (.Name x n) X.env:=by rfl) (bp:(f.endLine==y.line)=true:=by rfl) (hg:Gl X "sum":=by rfl) (hm:X.mg "sum"=none:=by assumption) (hb:cv "sum"=some (.builtin "sum"):=by decide+kernel)
  (he:a9 [.Call (.Attribute (.Name x n) "values" f) [] [] y] X.env=(false,dm (.Call (.Attribute (.Name x n) "values" f) [] [] y) X.env)::a9 [] X.env:=by rfl) (bo:(cy l (a9 [] X.env)).any (·.1)=false:=by rfl):
  PD X (.Call (.Name "sum" p) [.Call (.Attribute (.Name x n) "values" f) [] [] y] [] l) (λρ=>(Z6 i ρ).bind pH):=by
 show qV λj s σ H Q I H9 O0 O ρ E q=>?_;dsimp only at q;show aAN (M0 I hg hm hb ?_ (by decide) (by decide));unfold Z6 at q;cases B:ρ[i]? with
 |none=>rw[B]at q;show(q).elim
 |some sl=>
  rw[B]at q;cases sl with
  |v d=>
   rw[R.aa0]at q;unfold pH at q;cases d with
   |dct N=>
    dsimp only at q;cases C:Y7 (N.map (·.2))with
    |none=>rw[C]at q;show(q).elim
    |some J=>
     rw[C]at q;let{v,L,r0}:=E.val i _ B;let{a,o,z,rfl,T,U,h6,h7}:=(A4.of r0).ad9;have m:=lq (Ty:=TyD) PySem.F.plainAttrs_dict PySem.F.slot_dict_values PySem.F.type_dict_values RA (λj s σ H x v I r h=>by let{a,o,z,rfl,L,h2}:=h;cases r;have g:=(I.hok a _ L).1;show{{o,g,h2.2.1.1},λb e=>by cases e;show{o,g,h2.2.1.2.1}}) (N4 hN hv hd eh) cg bp
     show aBr (D8 ((J6 m bC he) l j s σ H (λvs t=>∃v,vs=[.ref v]/\Same H t/\t v=some (.ext λh=>h.get? v=some (vwO a))) I {.ref a,L,{a,o,z,rfl,T,U},a,o,z,rfl,rfl,T,U,λv hn=>{v,rfl,j4 hn _,j2}}) λus s1 z9=>?_) he bo;let{vs,t,A,r1,v,ev,Y,hvw}:=z9;subst ev;let{u,rfl,ru}:=vals1 r1;cases ru;have h4':=Y a _ T;have h6':bI X.K t O z N:=h6.rep.mono λr=>r.same Y;let{len,val}:=sW h6' (Q7 C);let{hsys,hx,ea,ep,jf,w}:=U;have sz:ea.size=J.length:=by rw[<-len,<-w,aBo]
     show SD.sum_dv (A.ok.hd hh) {vwO a,((A.hok v _ hvw).1),rfl,rfl} {o,(A.hok a _ h4').1,hx,jf} (λi=>J.getD i 0) (λi e h=>val i e (by rw[<-w,aAJ];show h)) λh' tk t' k=>?_;rw[KY,sz,List.take_length];show{.int J.sum,t,A.kept k,{t',rfl},q _ t Y .int}
   |_=>show(q).elim
  |_=>show(q).elim
end
end DL
namespace M
open PySem L2 DL
variable [Tabs]
def fd4(f:G.V×Int):D:=wO f.1 f.2
def bT(a n:Nat):List D:=(aDW a n).map λ(k:Nat)=>D.int (k:Int)
def a9a{a b:Nat}(d:a<=1000000)(h:b<=1000000):fO [.int (a:Int),.int (b:Int)]=.ok (bT a (b-a)):=by
 change(if tN (a:Int) (b:Int) 1 then R.ok (yJ a 1<|lA a b 1)else R.bad)=_;rw[kc {by decide,by decide,by lia,by lia,by lia,by lia}];have e:lA (a:Int) (b:Int) 1=b-a:=by unfold lA;grind
 unfold yJ bT;rw[aFL,aAI]
 simp_all
def uz{n:Nat}(h:n<=1000000):fO [.int (n:Int)]=.ok (bT 0 n):=by rw[a4b h];unfold bT;rw[List.range_eq_range']
theorem rF{G:D->Ev->R Ev}{F:Ev->R Out}(Iv:Nat->Ev->Prop):∀{n a:Nat}{ρ:Ev},(∀i,a<=i->i<a+n->∀ρ,Iv i ρ->∃ρ2,Q0 G F (.int (i:Int)) ρ=.ok (.nx ρ2)/\Iv (i+1) ρ2)->Iv a ρ->∃ρ',S7 G F (bT a n) ρ=.ok (.nx ρ')/\Iv (a+n) ρ'
 |0,a,ρ,_,h=>{ρ,rfl,h}
 |n+1,a,ρ,b,h=>by
  let{ρ2,e,d}:=b a (aAh _) (by lia) ρ h;let{ρ',g,j}:=rF Iv (n:=n) (λi l d=>b i (by lia) (by lia)) d;show{ρ',?_,by rw[show a+(n+1)=a+1+n by lia];show j};unfold Q0 at e;cases f:G (.int (a:Int)) ρ with
  |ok k=>rw[f]at e;show(O9 f e).trans g
  |ex z=>grind
  |bad=>grind
def xk(N:List (D×D)):List D:=N.map (·.1)
def Cov(S:List G.V)(N:List (D×D))(i j k:Nat):Prop:=∀A B C,S[i]?=some A->S[j]?=some B->S[k]?=some C->(G.Up S A B C->fd4 (G.j6 A B C)∈xk N)/\(G.Dn S A B C->fd4 (G.j6 A C B)∈xk N)
def fy(S:List G.V)(N:List (D×D))(i j k:Nat):Prop:=∀b a d,b<a->a<d->(b<i\/(b=i/\(a<j\/(a=j/\d<k))))->Cov S N b a d
def iV(S:List G.V)(c A:G.V):List Int:=S.map λX=>G.d6 c (X-A)
def QG{G:D->Ev->R Ev}{F:Ev->R Out}{Post:Ev->Prop}{n a:Nat}{ρ:Ev}(Iv:Nat->Ev->Prop)(d:∀i,a<=i->i<a+n->∀ρ,Iv i ρ->∃ρ2,Q0 G F (.int (i:Int)) ρ=.ok (.nx ρ2)/\Iv (i+1) ρ2)(h0:Iv a ρ)(b:∀ρ',Iv (a+n) ρ'->Post ρ'):∃ρ2,S7 G F (bT a n) ρ=.ok (.nx ρ2)/\Post ρ2:=by let{ρ',e,h}:=rF Iv d h0;show{ρ',e,b ρ' h}
def LJ{G:D->Ev->R Ev}{F b:Ev->R Out}{d:D}{n a:Nat}{ρ:Ev}(Iv:Nat->Ev->Prop)(f:∀i,a<=i->i<a+n->∀ρ,Iv i ρ->∃ρ2,Q0 G F (.int (i:Int)) ρ=.ok (.nx ρ2)/\Iv (i+1) ρ2)(h0:Iv a ρ)(g:∀ρ',Iv (a+n) ρ'->G8 (b ρ')=.ok d):G8 (C1 (S7 G F (bT a n) ρ) b)=.ok d:=by let{ρ',e,h}:=rF Iv f h0;rw[e];show g ρ' h
def xx{r:R Out}{ρ:Ev}{F:Ev->R Out}{x:R Out}(a:r=.ok (.nx ρ))(b:F ρ=x):C1 r F=x:=by rw[a];show b
def uC{S:List G.V}{i:Nat}{A:G.V}(h:S[i]?=some A):W7 (.lst (S.map vd)) (.int (i:Int))=.ok (vd A):=eG (by rw[X4 (by lia),aBR,aAH,h];rfl)
def ay{S:List G.V}{c A:G.V}(h:S≠[]):IU [.lst ((iV S c A).map D.int)]=.ok (.int (DC (iV S c A)))/\EA [.lst ((iV S c A).map D.int)]=.ok (.int (pN (iV S c A))):=by
 have ne:iV S c A≠[]:=by unfold iV;simpa using h
 constructor
 .erw[IU,lJ];show kc ne
 erw[EA,lJ];show kc ne
def qD(cs:List G.V)(k:Int):G.V:=cs.getD (k.fmod cs.length).toNat 0
def ZS{cs:List G.V}(h:cs≠[])(k:Int):qD cs k∈cs/\cs[(k.fmod cs.length).toNat]?=some (qD cs k)/\0<=k.fmod cs.length:=by
 have b:(0:Int)<cs.length:=by
  have:cs.length≠0:=λz=>h (aBK z)
  lia
 have r:=E8 (a:=k) b;have d:(k.fmod cs.length).toNat<cs.length:=by lia
 unfold qD
 simp_all
def XJ{cs:List G.V}(h:cs≠[])(k:Int):W7 (.lst (cs.map vd)) (.int (k.fmod cs.length))=.ok (vd (qD cs k)):=by let{_,e,r}:=ZS h k;show eG (by rw[X4 r,aAH,e];rfl)
def aG{d β i:Type}{f:D->Ev->R Ev}{fe:Ev->R D}{ρ:Ev}{K:List D->R i}(rep:d->D)(e:β->D)(g:d->β)(l:List d)(j:l.length<=30000)(h:∀a∈l,∃b,f (rep a) ρ=.ok b/\fe b=.ok (e (g a))):(if(l.map rep).length<=sizeLine then(w9 f (λ_=>.ok true) fe ρ (l.map rep)).bind K else .bad)=K ((l.map g).map e):=by rw[kc (aAn (by rw[aAf];show j) (by decide)),DR rep e g l h];rfl
def ZM{d β:Type}{f:D->Ev->R Ev}{fe:Ev->R D}{ρ:Ev}(rep:d->D)(e:β->D)(g:d->β)(l:List d)(i:l.length<=30000)(h:∀a∈l,∃b,f (rep a) ρ=.ok b/\fe b=.ok (e (g a))):(if(l.map rep).length<=sizeLine then w9 f (λ_=>.ok true) fe ρ (l.map rep)else .bad)=.ok ((l.map g).map e):=by rw[kc (aAn (by rw[aAf];show i) (by decide)),DR rep e g l h]
def j8{a β:Type}{r:R a}{x:a}{F:a->R β}{y:R β}(b:r=.ok x)(d:F x=y):r.bind F=y:=by rw[b];show d
def L6{a:Type}{r:R Bool}{A B:R a}(h:r=.ok false):(r.bind λt=>if t=true then A else B)=B:=by rw[h];rfl
def iP{f g:Ev->R Bool}{ρ:Ev}(a:f ρ=.ok false)(b:g ρ=.ok false):orB f g ρ=.ok false:=by unfold orB;rw[a];show b
def fB{f:Ev->R Bool}{ρ:Ev}(h:f ρ=.ok true):a2p f ρ=.ok false:=by unfold a2p;rw[h];rfl
def UZ(l:List Int):aj [.lst (l.map D.int)]=.ok (.int l.sum):=by erw[aj,lJ]
def a7f{a:Type}{r:R a}{x:a}{F:a->R Out}{J:Ev->Prop}(b:r=.ok x)(d:∃ρ2,F x=.ok (.nx ρ2)/\J ρ2):∃ρ2,r.bind F=.ok (.nx ρ2)/\J ρ2:=by rw[b];show d
def NQ{i:Nat}{F:Ev->R Out}{d:D}{ρ ρ':Ev}{J:Ev->Prop}(e:ρ.set i (.v d)=ρ')(h:∃ρ2,F ρ'=.ok (.nx ρ2)/\J ρ2):∃ρ2,Q0 (λd ρ=>.ok (ρ.set i (Sl.v d))) F d ρ=.ok (.nx ρ2)/\J ρ2:=by subst e;show h
def a3x{f g:Ev->R Bool}{ρ:Ev}(h:f ρ=.ok false):AQ f g ρ=.ok false:=by unfold AQ;rw[h];rfl
def pj{f g:Ev->R Bool}{ρ:Ev}{b:R Bool}(h:f ρ=.ok true)(a:g ρ=b):AQ f g ρ=b:=by unfold AQ;rw[h];show a
def zk{r:R Bool}{A B:R Out}{J:Ev->Prop}(h:r=.ok true)(a:∃ρ2,A=.ok (.nx ρ2)/\J ρ2):∃ρ2,(r.bind λt=>if t=true then A else B)=.ok (.nx ρ2)/\J ρ2:=by rw[h];show a
def WS(P Q:G.V):LQ (vd P) (vd Q)=.ok (.bl (decide (P≠Q))):=by
 have d:∀v:G.V,D4 (vd v)<=40:=λv=>by simp[D4,y8]
 unfold LQ;rw[kc {d P,d Q}];by_cases h:P=Q
 .subst h;simp[O5]
 cases e:x8 (vd P) (vd Q)with
 |false=>simp[h]
 |true=>show absurd (M4 (cJ (by simp[mD,bL]) (by simp[mD,bL]) e)) h
def C8{f:Ev->R D}{ρ:Ev}{a:D}(b:f ρ=.ok a):t6 f S8 ρ=.ok [a]:=by simp_all
def B5{f g:Ev->R D}{ρ:Ev}{a b:D}(d:f ρ=.ok a)(e:g ρ=.ok b):t6 f (t6 g S8) ρ=.ok [a,b]:=by simp_all
def getD_at{l:List G.V}{j:Nat}(h:j<l.length):l[j]?=some (l.getD j 0):=by simp_all
def G6{l:List G.V}{j:Nat}(h:j<l.length):l.getD j 0∈l:=aAu (getD_at h)
def LOk(l:List G.V):Prop:=bG 900 l/\G.k9 l/\(f8 l).length<=14
theorem V7:∀l:List G.V,G.n8 l=(aBd (l.length-1)).map λj=>(l.getD j 0,l.getD (j+1) 0)
 |[]=>rfl
 |[_]=>rfl
 |a::b::r=>by rw[G.n8,(V7 (b::r))];erw[aAp,Nat.add_sub_cancel];rw[aEm,aAm,aAI];rfl
section
variable{l:List G.V} (h:LOk l)
include h
theorem LOk.ad3:(∀f,f∈p9 (f8 l)↔G.IsFace (f8 l) f.1 f.2)/\p9 (f8 l)≠[]/\(p9 (f8 l)).Nodup:=by let{a,b,d}:=h;let{i,j,_}:=mR a b d;let{m,r,e,L}:=cN a b (by lia);have g:=N1 L (e▸d);rw[<-e]at g;show{i,j,P3 (Y2 g.2)}
end
def lp{b:Type}:Nat->(Nat->b->b)->b->b
 |0,_,a=>a
 |n+1,f,a=>f n (lp n f a)
theorem AJ{b:Type}{f:Nat->b->b}{a:b}(P:b->Prop)(h0:P a):∀{n:Nat},(∀k<n,∀x,P x->P (f k x))->P (lp n f a)
 |0,_=>h0
 |n+1,h=>h n (aDT n) _ (AJ P h0 λk d=>h k (aBx d))
theorem xR{b:Type}{f:Nat->List b->List b}{a:List b}{y:b}(mono:∀k x,y∈x->y∈f k x):∀{n:Nat},y∈a->y∈lp n f a
 |0,h=>h
 |n+1,h=>mono n _ (xR mono h)
theorem zV{b:Type}{f:Nat->List b->List b}{a:List b}{y:b}(mono:∀k x,y∈x->y∈f k x){k:Nat}(d:∀x,y∈f k x):∀{n:Nat},k<n->y∈lp n f a
 |n+1,h=>by
  by_cases e:k=n
  .subst e;show d _
  show mono n _ (zV mono d (by lia))
structure Bd4(L:List G.V):Prop where
 sz:bG 900 L
 sol:G.k9 L
 ord:L.Pairwise λa b=>G.i5 (b-a)
 len:L.length<=14
 cor:∀X∈L,∃f:G.V×Int,G.IsFace L f.1 f.2/\X∈G.j0 L f
section
variable{L:List G.V} (h:Bd4 L)
include h
theorem Bd4.self:f8 L=L:=fP h.ord
theorem Bd4.lok:LOk L:={h.sz,h.sol,by rw[h.self];show h.len}
theorem Bd4.ad3:(∀f,f∈p9 L↔G.IsFace L f.1 f.2)/\p9 L≠[]/\(p9 L).Nodup:=by have:=h.lok.ad3;rw[h.self]at this;show this
theorem Bd4.on{f:G.V×Int}(i:G.IsFace L f.1 f.2){X:G.V}(n:X∈G.z7 f.1 f.2 L):X∈G.j0 L f:=by
 let{a,e}:=G.d8.mp n;let{g,b,j}:=h.cor X a;let{o,u,p,q,k,r,d,l,s,t}:=G.kL h.sol h.ord b j;by_cases z:f=g
 .rw[z];show j
 by_cases m:f=o
 .subst m;show G.sT h.sol h.ord a i b q e l t k.symm d r
 show G.sT h.sol h.ord a i b p e l s z m k
end
section
variable{L:List G.V} (h:Bd4 L)
include h
end
def a5r{l:List G.V}(b:l≠[])(c:Int):(c.fmod l.length).toNat<l.length/\0<=c.fmod l.length/\(0:Int)<l.length:=by
 have d:(0:Int)<l.length:=by
  have:l.length≠0:=λz=>b (aBK z)
  lia
 have r:=E8 (a:=c) d
 lia
def a6c{J:List G.V}(f:bG 900 J)(g:G.k9 J)(h:(f8 J).length<=14):Bd4 (F6 J):=by
 let{a,b,d,e,i,l}:=MN f g h;show{b,a,B1 _,e,λX j=>?_};have k:X∈F6 (F6 J):=by rw[i];show j
 have:=(rN b a (by rw[d];show e) X).mp k;rw[d]at this;show this
end M
namespace SZ
open PySem
def a5f{s:aL}{Q:B6}(d1:t<n)(d2:l<n)(hz:IsZip s.heap (n+4) (n+2) (n+3) .none)(L:dC s.heap (n+2) (.ref n) (.ref (n+1)))(N:dC s.heap (n+3) a b)(h1:s.heap.IsTupleIter n t k)(h2:s.heap.IsListIter (n+1) l k)(jd:s.heap.IsTuple t Y)(jl:s.heap.IsList l ys)(hx:Y[k]?=some x)(hy:ys[k]?=some y)
  (hQ:∀h',IsZip h' (n+4) (n+2) (n+3) (dq s.heap.objs.size)->dC h' (n+3) x y->h'.IsTupleIter n t (k+1)->h'.IsListIter (n+1) l (k+1)->dC h' s.heap.objs.size x y->
   (∀c o,c<n\/c=n+2\/n+4<c->s.heap.get? c=some o->h'.get? c=some o)->Q (.ref s.heap.objs.size) {s with heap:=h'}):
  bb (bc prog w) A (Builtin.«zip.__next__» {[.ref (n+4)],[]}) (λO s'=>∃v,O=.done (.ret v)/\Q v s') E s:=by
 change bb _ _ (field (.ref (n+4)) 2>>=_) _ _ _;show aAa (aBh hz rfl (x:=.bool false) rfl ?_);change bb _ _ (field (.ref (n+4)) 3>>=_) _ _ _;show aAa (aBh hz rfl (x:=.ref (n+2)) rfl ?_);show aAa (aAV L rfl ?_);change bb _ _ (aBL (.ref (n+4))>>=_) _ _ _;show aAa ?_;unfold aBL;show aAa (aBh hz rfl (x:=.none) rfl<|aAc ?_);erw[if_true];show aAa (aCx ?_);show aAa (aBh hz rfl (x:=.ref (n+3)) rfl ?_);show aAa (aBf hz (by simp) λj T B=>?_);replace T:IsZip j (n+4) (n+2) (n+3) .ellipsis:=T;show aAa ?_;erw[List.zipIdx_cons,List.zipIdx_nil,aCX,aFA];show aAa (aAa<|aEg ?_);change bb _ _ (aBp (.ref n)>>=_) _ _ _;show aAa (RZ (h1.extBut B.extBut (by lia)) (jd.extBut B.extBut (by lia)) hx λfu U je=>aAc ?_);have k2:∀c o,c≠n+4->c≠n->s.heap.get? c=some o->fu.get? c=some o:=λc o i c2 e=>je.extBut _ _ c2 (B.extBut _ _ i e);have vc:dC fu (n+3) a b:=k2 _ _ (by lia) (by lia) N;show aAa (aAV vc rfl ?_);show aAa (aDN vc λhV qm C=>?_);replace qm:dC hV (n+3) x b:=qm;have k3:∀c o,c≠n+4->c≠n->c≠n+3->s.heap.get? c=some o->hV.get? c=some o:=λc o i c2 c3 e=>C.extBut _ _ c3 (k2 c o i c2 e);show aAa (aDD<|aAc ?_);show aAa (aAa<|aEg ?_);change bb _ _ (aBp (.ref (n+1))>>=_) _ _ _;show aAa (aCE (h2.at λo e=>k3 _ o (by lia) (by lia) (by lia) e) (jl.at λo e=>k3 _ o (by lia) (by lia) (by lia) e) hy λaA h20 m=>aAc ?_);have ve:dC aA (n+3) x b:=m.extBut _ _ (by lia) qm;show aAa (aAV ve rfl ?_);show aAa (aDN ve λd H p=>?_);replace H:dC d (n+3) x y:=H;have k5:∀c o,c<n\/c=n+2\/n+4<c->s.heap.get? c=some o->d.get? c=some o:=λc o f e=>p.extBut _ _ (by lia) (m.extBut _ _ (by lia) (k3 c o (by lia) (by lia) (by lia) e));show aAa (aDD<|aAc<|aAc ?_);show aAa (aAV H rfl ?_);show aAa (aFz ?_);have fm:d.objs.size=s.heap.objs.size:=by rw[p.1,m.1,C.1,je.1,B.1]
 have q:IsZip d (n+4) (n+2) (n+3) .ellipsis:=p.extBut _ _ (by lia) (m.extBut _ _ (by lia) (C.extBut _ _ (by lia) (je.extBut _ _ (by lia) T)));have h11:d.IsTupleIter n t (k+1):=((U.extBut C.extBut (by lia)).extBut m.extBut (by lia)).extBut p.extBut (by lia);have h21:d.IsListIter (n+1) l (k+1):=h20.extBut p.extBut (by lia);have vg:n+4<d.objs.size:=aAd q;change bb _ _ (aBI (.ref (n+4)) (.ref d.objs.size)>>=_) _ _ _;show aAa ?_;unfold aBI;have hz5:IsZip (d.push {cls:=.type "tuple",data:=.seq #[x,y]}) (n+4) (n+2) (n+3) .ellipsis:=aAb _ q;show aAa (aBf hz5 (by simp) λaC h r=>?_);replace h:IsZip aC (n+4) (n+2) (n+3) (dq d.objs.size):=h;show aBf h (by simp) λI g u=>?_;replace g:IsZip I (n+4) (n+2) (n+3) (dq d.objs.size):=g;have J:∀c o,c≠n+4->d.get? c=some o->I.get? c=some o:=λc o i e=>u.extBut _ _ i (r.extBut _ _ i<|aAb _ e);have z:dC I d.objs.size x y:=u.extBut _ _ (aBP vg) (r.extBut _ _ (aBP vg)<|aAg _ rfl);rw[fm]at g z;show aAc {_,rfl,?_};change Q (.ref d.objs.size) _;rw[fm];show hQ I g (J _ _ (by lia) H) (h11.at λo e=>J _ o (by lia) e) (h21.at λo e=>J _ o (by lia) e) z λc o f e=>J c o (by lia) (k5 c o f e)
def b0m{s:aL}{Q:Fin->aL->Prop}(p:A.handled=none)(C:t<n)(hz:IsZip s.heap (n+4) (n+2) (n+3) .none)(g:dC s.heap (n+2) (.ref n) (.ref (n+1)))(q:s.heap.IsTupleIter n t k)(r:s.heap.IsTuple t Y)(u:Y[k]?=none)
  (hE:∀h' e,(∀c o,c<n\/c=n+2\/n+4<c->s.heap.get? c=some o->h'.get? c=some o)->(∃o,h'.get? e=some o/\o.cls=.type "StopIteration")->E (.ref e) {s with heap:=h'}):
  bb (bc prog w) A (Builtin.«zip.__next__» {[.ref (n+4)],[]}) Q E s:=by
 change bb _ _ (field (.ref (n+4)) 2>>=_) _ _ _;show aAa (aBh hz rfl rfl<|aAa<|aBh hz rfl rfl<|aAa<|aAV g rfl<|aAa ?_);show aAa (aBh hz rfl rfl<|aAc ?_);erw[if_true];show aAa (aCx (aAa (aBh hz rfl rfl (aAa (aBf hz (by simp) λj v h=>(aAa<|aAa<|aAa<|aEg ?_))))));show aAa (YW p (q.extBut h.extBut (by lia)) (r.extBut h.extBut (by lia)) u λH e l y=>?_);let{z,a,b}:=y;have d:=l _ _ (by lia) v;have i:e≠n+4:=λx=>by subst x;rw[d]at a;cases a;simp at b
 show aBf d (by simp) λB _ m=>hE B e (λc o f x=>m.extBut _ _ (by lia) (l _ _ (by lia) (h.extBut _ _ (by lia) x))) {z,m.extBut _ _ i a,b}
def a4v{s:aL}{Q:Option au->aL->Prop}(g:t<n)(h:l<n)(hz:IsZip s.heap (n+4) (n+2) (n+3) .none)(d:dC s.heap (n+2) (.ref n) (.ref (n+1)))(e:dC s.heap (n+3) a b)(i:s.heap.IsTupleIter n t k)(j:s.heap.IsListIter (n+1) l k)(m:s.heap.IsTuple t Y)(p:s.heap.IsList l q)(r:Y[k]?=some x)(u:q[k]?=some y)
  (v:∀h',IsZip h' (n+4) (n+2) (n+3) (dq s.heap.objs.size)->dC h' (n+3) x y->h'.IsTupleIter n t (k+1)->h'.IsListIter (n+1) l (k+1)->dC h' s.heap.objs.size x y->
   (∀c o,c<n\/c=n+2\/n+4<c->s.heap.get? c=some o->h'.get? c=some o)->Q (some (.ref s.heap.objs.size)) {s with heap:=h'}):bb (bc prog w) A (fh (.ref (n+4))) Q E s:=by
 have f:s.TypeIs (.ref (n+4)) "zip":={_,hz,rfl};show aAa (aCJ (aAW f aCj
  (aAF aCj f aEI (a5f g h hz d e i j m p r u λh' z B C H I J=>aAc (v h' z B C H I J))<|aEr _)))
def a7e{s:aL}{Q:Option au->aL->Prop}(q:A.handled=none)(d:t<n)(hz:IsZip s.heap (n+4) (n+2) (n+3) .none)(a:dC s.heap (n+2) (.ref n) (.ref (n+1)))(f:s.heap.IsTupleIter n t k)(g:s.heap.IsTuple t Y)(h:Y[k]?=none)
  (i:∀h',(∀c o,c<n\/c=n+2\/n+4<c->s.heap.get? c=some o->h'.get? c=some o)->Q none {s with heap:=h'}):bb (bc prog w) A (fh (.ref (n+4))) Q E s:=by
 have b:s.TypeIs (.ref (n+4)) "zip":={_,hz,rfl};unfold fh;show aAa (aCJ (aAW b aCj
  (aAF aCj b aEI (b0m (by lia) d hz a f g h λh' e j l=>?_)<|aEr _)))
 let{o,m,p}:=l;show aAa (aCp {o,m,p} aEv<|aAc<|i _ j)
abbrev li(t:ba):Obj:={cls:=.type "list_iterator",data:=.fields #[.ref t,.int 0 0]}
abbrev y4(h:ck)(t l:ba):ck:=(((h.push<|ti t).push (li l)).push {cls:=.type "tuple",data:=.seq #[.ref h.objs.size,.ref (h.push<|ti t).objs.size]}).push {cls:=.type "tuple",data:=.seq #[.none,.none]}
abbrev y5(h:ck)(t l:ba):ck:=(y4 h t l).push {cls:=.type "zip",data:=.fields #[.none,.bool false,.bool false,.ref ((h.push<|ti t).push (li l)).objs.size,.ref (((h.push<|ti t).push (li l)).push {cls:=.type "tuple",data:=.seq #[.ref h.objs.size,.ref (h.push<|ti t).objs.size]}).objs.size]}
def a3j(t l:ba)(Y e:Array au):
  Meets (Builtin.«zip.__new__» {[.type "zip",.ref t,.ref l],[]}) (λ_ R s=>s.heap.IsTuple t Y/\s.heap.IsList l e/\
   R (.ok (.ret (.ref (y4 s.heap t l).objs.size))) {s with heap:=y5 s.heap t l}):=
 .of_wp λf w A R s h=>by
  let{i,g,d,j,os}:=s;let{k,m,h}:=h;have n:=sub_zip;have a:Heap.IsTuple (Shared.heap ⟨i,g,d,j,os⟩) t Y:=k;have b:Heap.IsList (Shared.heap ⟨i.push (ti t),g,d,j,os⟩) l e:=Heap.IsList.push m _
  wp_walk using wpAny_pyIter_tuple a,aCz b
  show{_,rfl,h}
def a7g{s:aL}{Q:B6}(q:s.heap.IsTuple t Y)(r:s.heap.IsList l u)
  (h:∀h' n,n=s.heap.objs.size->IsZip h' (n+4) (n+2) (n+3) .none->dC h' (n+2) (.ref n) (.ref (n+1))->dC h' (n+3) .none .none->h'.IsTupleIter n t 0->h'.IsListIter (n+1) l 0->
   (∀c o,s.heap.get? c=some o->h'.get? c=some o)->Q (.ref (n+4)) {s with heap:=h'}):
  bb (bc prog w) A (call (.type "zip") [.ref t,.ref l]) Q E s:=by
 show callType_new F.called_zip (by decide) (F.typeCall_zip_2 _ _) (F.newCall_zip_2 _ _) (λd=>F.args_object_init_3 d _ _) F.entry_zip_new (a3j t l Y u) {q,r,?_};have e:(s.heap.push<|ti t).objs.size=s.heap.objs.size+1:=aBc ..;have f:((s.heap.push<|ti t).push (li l)).objs.size=s.heap.objs.size+2:=by rw[aBc,e]
 obtain⟨g,a⟩:∃o:Obj,({cls:=.type "tuple",data:=.seq #[.ref s.heap.objs.size,.ref (s.heap.push<|ti t).objs.size]}:Obj)=o:={_,rfl};have i:(((s.heap.push<|ti t).push (li l)).push g).objs.size=s.heap.objs.size+3:=by rw[aBc,f]
 have j:(y4 s.heap t l).objs.size=s.heap.objs.size+4:=by rw[aBc,a,i]
 have b:(y5 s.heap t l).get? (y4 s.heap t l).objs.size=some _:=aAg _ rfl;have k:(y5 s.heap t l).get? (((s.heap.push<|ti t).push (li l)).push g).objs.size=some {cls:=.type "tuple",data:=.seq #[.none,.none]}:=by subst a;show aAb _ (aAg _ rfl)
 have m:(y5 s.heap t l).get? ((s.heap.push<|ti t).push (li l)).objs.size=some g:=by subst a;show aAb _ (aAb _<|aAg _ rfl)
 have p:(y5 s.heap t l).get? (s.heap.push<|ti t).objs.size=some (li l):=aAb _ (aAb _<|aAb _<|aAg _ rfl);have v:(y5 s.heap t l).get? s.heap.objs.size=some (ti t):=aAb _ (aAb _<|aAb _<|aAb _<|aAg _ rfl);change _/\_;rw[a]at b;rw[j,f,i]at b;rw[i]at k;rw[f,<-a,e]at m;rw[e]at p;rw[j];show{{_,b,rfl},h _ _ rfl b m k {_,v,rfl,rfl} {_,p,rfl,rfl} λc o x=>aAb _ (aAb _<|aAb _<|aAb _<|aAb _ x)}
end SZ
namespace DL
open PySem PySem.Spec L2
open PyProof.Rows hiding St
section
variable [Tabs]
def Itt(K:kn)(a b:ba):It:=
 ⟨λi H=>∃Y d x y,T5 K H a Y/\L7 K H b d/\Y[i]?=some x/\d[i]?=some y,
  λi H v e=>∃T,v=.ref T/\H T=none/\∀Y d,T5 K H a Y->L7 K H b d->∃x y,Y[i]?=some x/\d[i]?=some y/\e=upd H T (.tup [x,y]),
  λi H=>∃Y,T5 K H a Y/\Y.length<=i⟩
def tnT(n a b:Nat)(i:Nat)(h:ck):Prop:=
 IsZip h (n+4) (n+2) (n+3) .none/\dC h (n+2) (.ref n) (.ref (n+1))/\(∃x y,dC h (n+3) x y)/\h.IsTupleIter n a i/\h.IsListIter (n+1) b i
def NB{P:be}{w:cf}{K:kn}{el:List cq}{c}{tp:Pos}{n a b:Nat}(d1:a<n)(d2:b<n):Turn P w K (.Tuple el c tp) (Itt K a b) [n+4,n+2,n+3,n,n+1] (n+4) (tnT n a b)where
 mem:=by simp
 obj:=λi h ⟨hz,j,⟨x,y,l⟩,B,m⟩ c f=>by
  simp at f;rcases f with rfl|rfl|rfl|rfl|rfl
  .grind
  .grind
  .grind
  .let{o,e,c,d}:=B;grind
  show a1g m
 keep:=λi h h' ⟨hz,j,⟨x,y,l⟩,B,m⟩ k=>{k _ (by simp) _ hz,k _ (by simp) _ j,{x,y,k _ (by simp) _ l},B.at λo e=>k _ (by simp) o e,m.at λo e=>k _ (by simp) o e}
 item:=by
  intro X C J L f i p s σ H E I t st N;subst C J L;let{Y,ys,x,y,v,hy,ex,ey}:=N;let{O,g,Q,zx}:=I.tuple v;let{ity,T,py,zy}:=I.list hy;let{u,hu,ru}:=g.get ex;let{U,hu',ru'}:=T.get ey;let{z,A,{va,vb,s2},s3,s4}:=st;show SZ.a4v d1 d2 z A s2 s3 s4 Q py.isList (x:=u) (y:=U) (by simpa using hu) (by simpa using hu') λh' q0 q2 q3 q4 hp kp=>({.ref s.heap.objs.size,rfl,wpAny_letOwnedTupleGo_zip q0 λm z2 sb=>?_});have hzl:=aAd z;have r:=λc o f e=>sb.extBut c o f e;have nm:∀{c},c∉[n+4,n+2,n+3,n,n+1]->c<n\/n+4<c:=λf=>by
   simp at f
   lia
  have kk:∀c o,c∉[n+4,n+2,n+3,n,n+1]->s.heap.get? c=some o->m.get? c=some o:=λc o f e=>by grind
  show⟨.ref s.heap.objs.size,upd H s.heap.objs.size (.tup [x,y]),I.ae9 (t':=s.toks) kk t (aAh _) (by change 2<=sizeLine;decide) (its:=[u,U]) (.cons ru (.cons ru' .nil)) {_,r _ _ (aBP hzl) hp,rfl,0,rfl},rfl,
   {_,rfl,I.hok.fresh (aAh _),λxs' ys' hx' hy'=>{x,y,by rw[I.aa9 hx' v];show ex,by rw[I.ab5 hy' hy];show ey,rfl}},{z2,r _ _ (by lia) (kp _ _ (by lia) A),{u,U,r _ _ (by lia) q2},q3.at λo e=>r _ o (by lia) e,q4.at λo e=>r _ o (by lia) e},λb hb=>?_⟩
  rw[m5 (λq:b=s.heap.objs.size=>?_)];show(t b hb).1;grind
 done:=by intro X C J L f i p s σ H E I t st N;subst C J L;let{Y,v,hl}:=N;let{O,g,Q,zx}:=I.tuple v;let{z,A,{va,vb,s2},s3,s4}:=st;have hlx:=g.length;show SZ.a7e (I.ok.hd f) d1 z A s3 Q (by simp;lia) λh' kp=>{rfl,I.af1 (t':=s.toks) (λc o f e=>?_) t};grind
 self:=λ_ _ _ _ _ st h=>wpAny_pyIter_zip st.1 h
def aw:List D->R (List D)
 |[.tup Y,.lst a]=>if Y.length=a.length then .ok (cS Y a)else .bad
 |_=>.bad
def XF{el:List cq}{c}{tp:Pos}{e1 e2:cq}{p:Pos}{w y:Ev->R D}(zi:PD X e1 w)(A:PD X e2 y)(hg:Gl X "zip":=by rfl)(hm:X.mg "zip"=none:=by assumption)(hv:cv "zip"=some (.type "zip"):=by decide+kernel)
  (B:a9 [e2] X.env=(false,dm e2 X.env)::a9 [] X.env:=by rfl) (he:a9 [e1,e2] X.env=(false,dm e1 X.env)::a9 [e2] X.env:=by rfl) (bo:(cy l (a9 [e2] X.env)).any (·.1)=false:=by rfl):
  XO X (.Tuple el c tp) (.Call (.Name "zip" p) [e1,e2] [] l) (λρ=>(t6 w (t6 y S8) ρ).bind aw):=by
 rintro m s σ H Rr I ⟨H9,O0,O,ρ,E,fk,q⟩;dsimp only at q;show aAN (M0 I hg hm hv (aBi (D8 ((f7 zi (f7 A o8 B) he) l m s σ H (λC f=>∃v1 J Y g,C=[v1,J]/\t6 w (t6 y S8) ρ=.ok [.tup Y,.lst g]/\Y.length=g.length/\Same H f/\Rep X.K f O v1 (.tup Y)/\Rep X.K f O J (.lst g)) I {H9,O0,O,ρ,E,?_}) λus L N=>?_) he bo) (by decide) (by decide))
 .cases e1:t6 w (t6 y S8) ρ with
  |ex z=>rw[e1]at q;show q
  |bad=>rw[e1]at q;show q.elim
  |ok ds=>
   rw[e1,R.aa0]at q;match ds,q with
   |[.tup Y,.lst g],q=>
    erw[aw]at q;by_cases hc:Y.length=g.length
    .intro C f L h;cases h with
     |cons ra h=>cases h with
      |cons rb h=>cases h with
       |nil=>grind
    grind
 let{C,f,r,h,v1,J,Y,g,Q,ef,U,sm,rb1,rb2}:=N;subst Q;rw[ef,R.aa0]at q;erw[aw]at q;rw[kc U]at q;cases rb1 with
 |@tup a wx _ t rx=>
 cases rb2 with
 |@lst b wy _ u ny ry=>
 let{u1,u2,rfl,ru1,ru2}:=vals2 h;cases ru1;cases ru2;let{itx,rvx,px,zX}:=r.tuple t;let{ity,rvy,py,zY}:=r.list u;show SZ.a7g px py.isList λh1 n en z1 z2 z3 z4 z5 k1=>?_;have lt1:a<n:=by rw[en];let{o,e,_}:=px;show aAd e
 have lt2:b<n:=by rw[en];let{o,e,_}:=py.isList;show aAd e
 show wpAny_pyIter_zip z1 {_,_,_,Itt X.K a b,f,rfl,(r.kept (h':=h1) (t':=L.toks) k1),NB lt1 lt2,{z1,z2,{_,_,z3},z4,z5},λc hc=>?_,q _ f sm λH2 O2 k hK hO hO2 i=>?_}
 .have yf:L.heap.objs.size<=c:=by grind
  show r.af2 yf (r.hok.fresh yf)
 have j:=k.tup hO t;let{n2y,v}:=k.lst ny u λo q=>hK b o q;have r2x:=k.ab6 hO hK rx;show{λd e=>?_,λe=>{wx,j,?_}}
 .unfold cS at e;rw[List.getElem?_zipWith]at e;cases e1:Y[i]? with
  |none=>rw[e1]at e;cases e
  |some dx=>
   cases e2:g[i]? with
   |none=>rw[e1,e2]at e;cases e
   |some dy=>rw[e1,e2]at e;cases e;let{vx,g1,g2}:=r2x.get e1;let{vy,g3,g4}:=(k.ab6 hO hK ry).get e2;show{{wx,wy,vx,vy,j,v,g1,g3},λx H' N=>?_};let{T,Q,hT,hh}:=N;let{x1,y1,q1,q2,rfl}:=hh wx wy j v;rw[g1]at q1;rw[g3]at q2;cases q1;cases q2;subst Q;have s2:Same H2 (upd H2 T<|.tup [vx,vy]):=j4 hT _;show{s2,.tup (T5.of j2) (.cons (g2.same s2) (.cons (g4.same s2) .nil))}
 rw[rx.length];unfold cS at e;grind
end
end DL
namespace M
open PySem L2 DL
variable [Tabs]
section
open Classical
def SC{b:Type} (g:b->D) (k:b->List D->R D):List D->R D
 |d::e=>if h:∃a,d=g a then k (choose h) e else .bad
 |[]=>.bad
def cA{b:Type}{g:b->D}{k:b->List D->R D}{ds:List D}{r:D}(h:SC g k ds=.ok r):∃a e,ds=g a::e/\k a e=.ok r:=by
 cases ds with
 |nil=>cases h
 |cons d e=>
  by_cases q:∃a,d=g a
  .show{_,e,by rw[<-choose_spec q],(dif_pos q).symm.trans h}
  cases(dif_neg q).symm.trans h
def V8{d:Type}{g:d->D}(inj:∀a b,g a=g b->a=b)(k:d->List D->R D)(a:d)(e:List D):SC g k (g a::e)=k a e:=by have q:∃b,g a=g b:={a,rfl};show(dif_pos q).trans (by rw[<-inj _ _ (choose_spec q)])
end
theorem uB{f:Type}{G:D->Ev->R Ev}{F k:Ev->R Out}{z:D}(rep:f->D)(p:f->Bool)(g:f->D)(Iv:Ev->Prop)(m:∀ρ,Iv ρ->G8 (k ρ)=.ok z):∀(l:List f) (ρ:Ev),Iv ρ->(∀a∈l,∀ρ,Iv ρ->(p a=true->Q0 G F (rep a) ρ=.ok (.rt (g a)))/\(p a=false->∃ρ2,Q0 G F (rep a) ρ=.ok (.nx ρ2)/\Iv ρ2))->
  G8 (C1 (S7 G F (l.map rep) ρ) k)=.ok (((l.find? p).map g).getD z)
 |[],ρ,h,_=>m ρ h
 |a::l,ρ,h,n=>by
  let{r,s}:=n a (.head _) ρ h;have st:∀{o},Q0 G F (rep a) ρ=.ok o->∃d,G (rep a) ρ=.ok d/\F d=.ok o:=λe=>by unfold Q0 at e;grind
  cases q:p a with
  |true=>let{d,i,j}:=st (r q);rw[aAm,lI i j,List.find?_cons_of_pos q];rfl
  |false=>let{ρ2,e,t}:=s q;let{d,i,j}:=st e;rw[aAm,O9 i j,List.find?_cons_of_neg (by grind)];show uB rep p g Iv m l ρ2 t λb u=>n b (.tail _ u)
def exB{b:Type} (l:List b) (p:b->Prop):Bool:=@decide (∃a∈l,p a) (aBW _)
def tw{b:Type}{l:List b}{p:b->Prop}(h:∃a∈l,p a):exB l p=true:=@decide_eq_true _ (aBW _) h
def yq{b:Type}{l:List b}{p:b->Prop}(h:¬∃a∈l,p a):exB l p=false:=@decide_eq_false _ (aBW _) h
open Classical in
def a3k{d:Type}{G:D->Ev->R Ev}{F e:Ev->R Out}(rep:d->D)(p:d->Prop)(Iv:Ev->Prop)(g:∀ρ,Iv ρ->G8 (e ρ)=.ok (.bl false))(l:List d)(ρ:Ev)(h0:Iv ρ)(f:∀a∈l,∀ρ,Iv ρ->(p a->Q0 G F (rep a) ρ=.ok (.rt (.bl true)))/\(¬p a->∃ρ2,Q0 G F (rep a) ρ=.ok (.nx ρ2)/\Iv ρ2)):
  G8 (C1 (S7 G F (l.map rep) ρ) e)=.ok (.bl (exB l p)):=by
 show(uB rep (λa=>decide (p a)) (λ_=>.bl true) Iv g l ρ h0 λa b ρ i=>{λq=>(f a b ρ i).1 (of_decide_eq_true q),λq=>(f a b ρ i).2 (of_decide_eq_false q)}).trans ?_;cases q:l.find? λa=>decide (p a)with
 |none=>have:¬∃a∈l,p a:=λ⟨a,b,h⟩=>aFn.mp q a b (decide_eq_true h);rw[yq this];rfl
 |some a=>rw[tw {a,aCS q,of_decide_eq_true (aGa (p:=λa=>decide (p a)) q)}];rfl
def JX{f g:Ev->R Bool}{ρ:Ev}{a b:Bool}(d:f ρ=.ok a)(e:g ρ=.ok b):AQ f g ρ=.ok (a&&b):=by
 cases a with
 |false=>show a3x d
 |true=>show pj d e
def a7i{a:Type}{r:R Bool}{b:Bool}{A B y:R a}(h:r=.ok b)(d:b=true->A=y)(e:b=false->B=y):(r.bind λt=>if t=true then A else B)=y:=by simp_all
def a5e{a:Sl}{Y:List D}{r:Ev}{d:D}(h:Y.length<sizeLine):AF 1 (a::.o Y::r) d=.ok (.nx (a::.o (Y++[d])::r)):=by change(if Y.length<sizeLine then _ else _)=_;rw[kc h];rfl
def B4{f:Ev->R D}{g:Ev->R (List D)}{ρ:Ev}{a:D}{l:List D}(b:f ρ=.ok a)(d:g ρ=.ok l):t6 f g ρ=.ok (a::l):=by simp_all
def kH{r:R D}{d:D}(h:r=.ok d):G8 (r.bind λd=>.ok (.rt d))=.ok d:=by rw[h];rfl
def GT{a:Type}{r:R a}{x:a}{F:a->R Out}{b:Ev->R Out}{d:D}(e:r=.ok x)(f:G8 (C1 (F x) b)=.ok d):G8 (C1 (r.bind F) b)=.ok d:=by rw[e];show f
def a6s{i j:Nat}{F:Ev->R Out}{a b:D}{ρ ρ':Ev}{J:Ev->Prop}(e:(ρ.set i (.v a)).set j (.v b)=ρ')(h:∃ρ2,F ρ'=.ok (.nx ρ2)/\J ρ2):∃ρ2,Q0 (dZ 2 (D9 (λd ρ=>.ok (ρ.set i (.v d))) (D9 (λd ρ=>.ok (ρ.set j (.v d))) iK))) F (.tup [a,b]) ρ=.ok (.nx ρ2)/\J ρ2:=by subst e;show h
abbrev gN(ns:List Int):D:=.tup (ns.map D.int)
def a0k:∀a b,gN a=gN b->a=b:=λa b h=>by injection h with h;show(aDy λx y h=>by injection h).mp h
def BZ(ns:List Int):Nat:=ns.foldl (λg n=>aDo g n.natAbs) 0
def wI:List D->R D:=SC gN λa=>eV (.ok (.int (BZ a)))
def QA(ns:List Int):wI [gN ns]=.ok (.int (BZ ns)):=V8 a0k _ ns []
def CY(v:G.V):wI [vd v]=.ok (.int (G.C5 v)):=(QA [v.x,v.y,v.z]).trans (by simp[BZ,G.C5])
def iE(a b:Int):Int×Int:=(a.fdiv (aDo a.natAbs b.natAbs:Nat),b.fdiv (aDo a.natAbs b.natAbs:Nat))
abbrev frD(f:Int×Int):D:=.tup [.int f.1,.int f.2]
def YS(a b:Int):Prop:=0<a/\bits a<=9000/\bits b<=9000
def GU:List D->R D:=qJ λa=>qJ λb=>eV (CW (YS a b)<|frD<|iE a b)
def gz{a b:Int}(h:YS a b):GU [.int a,.int b]=.ok (frD (iE a b)):=J7 h
def QJ{a b:Int}(h:YS a b):L5 (.int a) (.int (BZ [a,b]))=.ok (.int (iE a b).1)/\L5 (.int b) (.int (BZ [a,b]))=.ok (.int (iE a b).2):=by
 have e:BZ [a,b]=aDo a.natAbs b.natAbs:=by simp[BZ]
 have p:0<aDo a.natAbs b.natAbs:=aEj _ (by have:=h.1;lia);have s:=uG h.2.1 h.2.2;rw[e];show{bN {by lia,i6 s},bN {by lia,i6 s}}
abbrev W4:=G.V×G.V×G.V×G.V
abbrev w4(w:W4):D:=.tup [vd w.1,vd w.2.1,vd w.2.2.1,vd w.2.2.2]
def a4a:∀a b:W4,w4 a=w4 b->a=b:=λa b h=>by injection h with h;injection h with d h;injection h with e h;injection h with f h;injection h with g h;show aDt (M4 d) (aDt (M4 e)<|aDt (M4 f)<|M4 g)
abbrev fR(p:D×List G.V):D:=.tup [p.1,.lst (p.2.map vd)]
abbrev PC(l:List (D×List G.V)):D:=.lst (l.map fR)
def JV:∀a b,PC a=PC b->a=b:=λa b h=>by injection h with h;show(aDy λx y h=>?_).mp h;injection h with h;injection h with e h;injection h with d h;injection d with d;show aDt e (IZ d)
def pV(A:G.V)(r:List G.V):List W4:=(aDW 1<|r.length-1-1).map λk=>(r.getD k 0,r.getD 0 0,r.getD (k+1) 0,A)
open Classical in
def Z8(A:G.V) (l:List (D×List G.V)):List W4:=l.flatMap λp=>if A∈p.2 then[]else pV A p.2
def oQ(l:List (D×List G.V)):G.V:=((l.map (·.2)).getD 0 []).getD 0 0
def MF(l:List (D×List G.V)):Prop:=l≠[]/\l.length<=3000/\∀p∈l,3<=p.2.length/\p.2.length<=14/\∀v∈p.2,Sz 900 v
def jT:List D->R D:=SC PC λl=>eV (CW (MF l)<|.lst ((Z8 (oQ l) l).map w4))
def NS{l:List (D×List G.V)}(h:MF l):jT [PC l]=.ok (.lst ((Z8 (oQ l) l).map w4)):=(V8 JV _ l []).trans (J7 h)
def SG(A:G.V)(r:List G.V):(pV A r).length=r.length-1-1:=by simp[pV]
theorem BA(A:G.V):∀(l:List (D×List G.V)),(∀p∈l,p.2.length<=14)->(Z8 A l).length<=14*l.length
 |[],_=>aAh _
 |p::l,h=>by have i:=BA A l λq a=>h q (.tail _ a);have e:Z8 A (p::l)=(if A∈p.2 then[]else pV A p.2)++Z8 A l:=aEp;have:=h p (.head _);have:=SG A p.2;rw[e,aAy,aAp];grind
open Classical in
def nC{J:List G.V}{X:G.V}:inR true (vd X) (.lst (J.map vd))=.ok (.bl (decide (X∉J))):=by
 have d:=QI J;have e:inB (vd X) (J.map vd)=decide (X∈J):=by
  by_cases h:X∈J
  .rw[decide_eq_true h];show aDi.mpr {_,aBM h,O5 _}
  rw[decide_eq_false h];cases q:inB (vd X) (J.map vd)with
  |false=>rfl
  |true=>let{x,a,e}:=aDi.mp q;let{g,b,rfl}:=aAj.mp a;have:=cJ (by simp[mD,bL]) (by simp[mD,bL]) e;show absurd (M4 this▸b) h
 change(if _ then R.ok (D.bl<|inB (vd X) (J.map vd) !=true)else _)=_;rw[kc {by lia,by simp[y8,D4]},e]
 simp_all
def zE(w:W4)(P:G.V):List Int:=[l8 P w.2.1 w.2.2.1 w.2.2.2,l8 w.1 P w.2.2.1 w.2.2.2,l8 w.1 w.2.1 P w.2.2.2,l8 w.1 w.2.1 w.2.2.1 P]
def SzW(n:Nat)(w:W4):Prop:=Sz n w.1/\Sz n w.2.1/\Sz n w.2.2.1/\Sz n w.2.2.2
def nT:List D->R D:=SC w4 λw=>v1 λx y z=>eV (CW (SzW 2000 w/\Sz 2000 ⟨x,y,z⟩)<|.lst ((zE w ⟨x,y,z⟩).map D.int))
def FH{w:W4}{P:G.V}(h:SzW 2000 w)(a:Sz 2000 P):nT [w4 w,vd P]=.ok (.lst ((zE w P).map D.int)):=(V8 a4a _ w [vd P]).trans (J7 {h,a})
def FU{l:List (D×List G.V)}(h:MF l):∀w∈Z8 (oQ l) l,SzW 900 w:=by
 let{e,j,a}:=h;have f:Sz 900 (oQ l):=by
  match l,e,a with
  |p::l,_,a=>show(a p<|.head _).2.2 _ (G6 (by have:=(a p<|.head _).1;lia))
 intro w b;let{p,g,b}:=aBe.mp b;let{m,n,d}:=a p g;split at b
 .cases b
 let{k,i,rfl}:=aAj.mp b;rw[aDK]at i;show{d _ (G6 (by lia)),d _ (G6 (by lia)),d _ (G6 (by lia)),f}
def fits(P:G.V)(w:W4):Bool:=decide (0<=pN (zE w P))
abbrev XS(l:List (G.V×Int)):D:=.dct (l.map λp=>(vd p.1,.int p.2))
def YF(w:W4)(P:G.V):List (G.V×Int):=List.zip [w.1,w.2.1,w.2.2.1,w.2.2.2] (zE w P)
def lU(w:W4)(P:G.V):List (G.V×Int):=(YF w P).filter λp=>decide (p.2>0)
def NdW(w:W4):Prop:=[w.1,w.2.1,w.2.2.1,w.2.2.2].Nodup
def wby(l:List (D×List G.V)) (P:G.V):D:=(((Z8 (oQ l) l).find? (fits P)).map λw=>XS (lU w P)).getD .non
def QR:List D->R D:=SC PC λl=>v1 λx y z=>eV (CW (MF l/\Sz 2000 ⟨x,y,z⟩/\∀w∈Z8 (oQ l) l,NdW w)<|wby l ⟨x,y,z⟩)
def a1j{l:List (D×List G.V)}{P:G.V}(h:MF l)(a:Sz 2000 P)(b:∀w∈Z8 (oQ l) l,NdW w):QR [PC l,vd P]=.ok (wby l P):=(V8 JV _ l [vd P]).trans (J7 {h,a,b})
def DF{w:W4}{P:G.V}(h:NdW w):((lU w P).map (·.1)).Nodup:=by have e:(YF w P).map (·.1)=[w.1,w.2.1,w.2.2.1,w.2.2.2]:=rfl;show(List.filter_sublist.map _).nodup h
def YV{l:List (G.V×Int)}(h:(l.map (·.1)).Nodup)(f:l.length<=100):LC [.lst (l.map λp=>.tup [vd p.1,.int p.2])]=.ok (XS l):=by
 have e:(l.map λp=>D.tup [vd p.1,.int p.2])=(l.map λp=>(vd p.1,D.int p.2)).map λp=>.tup [p.1,p.2]:=by simp_all
 erw[LC];rw[e,(BD<|l.map λp=>(vd p.1,D.int p.2))];show kc {λp d=>?_,?_,by rw[aAf];change _<=2^24;lia}
 .let{x,_,rfl}:=aAj.mp d;show{rfl,rfl}
 rw[aAI,show((λp:D×D=>p.1)∘λp:G.V×Int=>(vd p.1,D.int p.2))=vd∘(·.1)from rfl,<-aAI];show h.map vd λa b n e=>n (M4 e)
def RL(w:W4)(P:G.V):(lU w P).length<=4:=aAn (aGi _ _) (aAh 4)
def a7x(w:W4)(P:G.V):aw [w4 w,.lst ((zE w P).map D.int)]=.ok ((YF w P).map λp=>.tup [vd p.1,.int p.2]):=rfl
def a3r(w:W4)(P:G.V):((YF w P).map λp=>D.tup [vd p.1,.int p.2]).length<=sizeLine:=by change 4<=2^24;decide
def HZ{a:Type}{r:R Bool}{A B y:R a}(h:r=.ok true)(b:A=y):(r.bind λt=>if t=true then A else B)=y:=by rw[h];show b
open Classical in
def pR(l:List (G.V×Int)) (v:G.V):Int:=((l.find? λp=>decide (p.1=v)).map (·.2)).getD 0
def iH(l:List (G.V×Int)):Int:=(l.map (·.2)).sum
theorem JS:∀{l:List (G.V×Int)}{v:G.V},v∈l.map (·.1)->atK (l.map λp=>(vd p.1,.int p.2)) (vd v)=some (.int (pR l v))/\(v,pR l v)∈l
 |[],v,h=>by cases h
 |p::l,v,h=>by
  unfold atK pR;by_cases q:p.1=v
  .rw[aAm,aFc,aFc,decide_eq_true q,decide_eq_true (km vd q)];show{rfl,by rw[<-q];show .head _}
  have m:v∈l.map (·.1):=by grind
  let{a,b}:=JS m;rw[aAm,aFc,aFc,decide_eq_false q,decide_eq_false λe=>q (M4 e)];show{a,.tail _ b}
theorem CF{m:Nat}:∀{l:List Int},(∀x∈l,bits x<=m)->bits l.sum<=m+l.length
 |[],_=>aAQ _
 |a::l,h=>by show bits_add (o7 (h a (.head _)) (by lia)) (CF λx b=>h x (.tail _ b))
abbrev IW(p:G.V×Int×Int):D:=.tup [vd p.1,frD p.2]
def rZ(l:List (G.V×Int)):List (G.V×Int×Int):=(f8 (l.map (·.1))).map λv=>(v,iE (pR l v) (iH l))
def RN(l:List (G.V×Int)):Prop:=l.length<=4/\∀p∈l,0<p.2/\bits p.2<=8000
def ZE:∀a b,XS a=XS b->a=b:=λa b h=>by injection h with h;show(aDy λx y h=>?_).mp h;injection h with e d;injection d with d;show aDt (M4 e) d
def yO:List D->R D:=SC XS λl=>eV (CW (RN l)<|.lst ((rZ l).map IW))
def gk{l:List (G.V×Int)}(h:RN l):yO [XS l]=.ok (.lst ((rZ l).map IW)):=(V8 ZE _ l []).trans (J7 h)
def a1s(l:List (G.V×Int)):DL.pH (XS l)=.ok (.int (iH l)):=by
 unfold DL.pH;have e:(l.map λp=>(vd p.1,D.int p.2)).map (·.2)=(l.map (·.2)).map D.int:=by rw[aAI,aAI];rfl
 dsimp only;rw[e,Q7];rfl
def a0z{l:List (G.V×Int)}(h:l.length<=4):sdD (XS l)=.ok ((f8 (l.map (·.1))).map vd):=by
 have e:(l.map λp=>(vd p.1,D.int p.2)).map (·.1)=(l.map (·.1)).map vd:=by rw[aAI,aAI];rfl
 unfold sdD;dsimp only;rw[e,Z0];show kc {?_,by rw[aAf];lia};show aBB.mpr λd a=>by let{v,_,rfl}:=aAj.mp a;rfl
def UQ{l:List (G.V×Int)}(h:RN l){v:G.V}(f:v∈l.map (·.1)):atD (XS l) (vd v)=.ok (.int (pR l v))/\YS (pR l v) (iH l):=by
 let{a,b}:=JS f;let{j,e}:=h;let{c,d}:=e _ b;show{?_,c,o7 d (by decide),?_}
 .unfold atD;dsimp only;rw[kc {rfl,rfl},a]
 have:=CF λx g=>by let{p,i,rfl}:=aAj.mp g;show(e p i).2
 rw[aAf]at this;show o7 this (by lia)
def iw{r:R Out}{ρ:Ev}{F:Ev->R (List D)}{x:R D}(a:r=.ok (.nx ρ))(b:HC (F ρ)=x):HC (yy r F)=x:=by rw[a];show b
def LH{r:R (List D)}{rs:List D}(h:r=.ok rs):HC r=.ok (.lst rs):=by rw[h];rfl
def iN(l:List G.V):List (D×List G.V):=(p9<|f8 l).map λf=>(wO f.1 f.2,G.j0 (f8 l) f)
def a1o(l:List G.V):(.lst ((p9 (f8 l)).map (t0 (f8 l))):D)=PC (iN l):=by unfold iN;rw[PC,aAI];rfl
def GP(l:List G.V):Prop:=bG 900 l/\G.k9 l/\(f8 l).length<=14
def wOf(l:List G.V) (P:G.V):Option W4:=(Z8 (oQ<|iN l)<|iN l).find? (fits P)
def MU(l:List G.V) (P:G.V):D:=((wOf l P).map λw=>D.lst ((rZ<|lU w P).map IW)).getD .non
def rO:List D->R D:=lvD λl=>v1 λx y z=>eV (CW (GP l/\Sz 2000 ⟨x,y,z⟩)<|MU l ⟨x,y,z⟩)
def YL{l:List G.V}{P:G.V}(h:GP l)(a:Sz 2000 P):rO [.lst (l.map vd),vd P]=.ok (MU l P):=(lD _ l [vd P]).trans (J7 {h,a})
def KZ{l:List G.V}(h:GP l){p:D×List G.V}(b:p∈iN l):∃f,f∈p9 (f8 l)/\G.IsFace (f8 l) f.1 f.2/\p.2=G.j0 (f8 l) f:=by let{f,a,rfl}:=aAj.mp b;show{f,a,((mR h.1 h.2.1 h.2.2).1 f).mp a,rfl}
def wj{l:List G.V}(h:GP l):MF (iN l):=by
 let{k,g,m}:=mR h.1 h.2.1 h.2.2;show{λz=>g (List.map_eq_nil_iff.mp z),by unfold iN;rw[aAf];lia,λp i=>?_};let{f,_,F,e}:=KZ h i;have S:=F.aa2 (B1 l);let{a,b,c,r,j}:=G.C7 (B1 l) F;have sub:∀v∈p.2,v∈f8 l:=λv d=>(G.d8.mp (S.aa3 (by rw[e]at d;show d))).1;show{?_,?_,λv d=>h.1.1 v (v6.mp<|sub v d)}
 .rw[e,show G.j0 (f8 l) f=a::b::c::r from j];simp
 show aAn (G.Q4 (e▸S.aa4) sub) h.2.2
def zP{r:List G.V}(h:r.Nodup){i j:Nat}(a:i<r.length)(b:j<r.length)(n:i≠j):r.getD i 0≠r.getD j 0:=λe=>by
 rw[aAt,aAt,aAl a,aAl b]at e;have q:=aBH.mp h;rcases aEd n with z|z
 .show q i j a b z e
 show q j i b a z e.symm
def PM{l:List G.V}(h:GP l){w:W4}(a:w∈Z8 (oQ (iN l)) (iN l)):∃f,G.IsFace (f8 l) f.1 f.2/\oQ (iN l)∉G.j0 (f8 l) f/\w∈pV (oQ (iN l)) (G.j0 (f8 l) f):=by
 let{p,b,a}:=aBe.mp a;let{f,_,F,e}:=KZ h b;split at a
 .cases a
 rename_i n;grind
def WR{l:List G.V}(h:GP l):∀w∈Z8 (oQ (iN l)) (iN l),NdW w:=λw a=>by
 let{f,F,n,a}:=PM h a;have b:(G.j0 (f8 l) f).Nodup:=(F.aa2<|B1 l).aa4;generalize G.j0 (f8 l) f=r at*
 let{k,d,rfl}:=aAj.mp a;rw[aDK]at d;have ne:∀i,i<r.length->r.getD i 0≠oQ (iN l):=λi g e=>n (e▸G6 g);have m:=zP b (i:=k) (j:=0) (by lia) (by lia) (by lia);have o:=zP b (i:=k) (j:=k+1) (by lia) (by lia) (by lia);have p:=zP b (i:=0) (j:=k+1) (by lia) (by lia) (by lia);have q:=ne k (by lia);have s:=ne 0 (by lia);have t:=ne (k+1) (by lia);unfold NdW;grind
def TK{u v:G.V}{m n:Nat}(b:Sz m u)(d:Sz n v):bits (G.d6 u v)<=m+n+2:=by have a:=bits_mul b.1 d.1;have c:=bits_mul b.2.2 d.2.2;show bits_add (bits_add a<|bits_mul b.2.1 d.2.1) (o7 c (by lia))
def I9{u v:G.V}{m:Nat}(a:Sz m u)(b:Sz m v):Sz (m+1) (u-v):={bits_sub a.1 b.1,bits_sub a.2.1 b.2.1,bits_sub a.2.2 b.2.2}
def JM{u v:G.V}{m:Nat}(a:Sz m u)(b:Sz m v):Sz (m+m+1) (G.cr u v):={bits_sub (bits_mul a.2.1 b.2.2) (bits_mul a.2.2 b.2.1),bits_sub (bits_mul a.2.2 b.1) (bits_mul a.1 b.2.2),bits_sub (bits_mul a.1 b.2.1) (bits_mul a.2.1 b.1)}
def gG{P Q R S:G.V}(a:Sz 2000 P)(b:Sz 2000 Q)(d:Sz 2000 R)(e:Sz 2000 S):bits (l8 P Q R S)<=8000:=o7 (TK (JM (I9 b a)<|I9 d a)<|I9 e a) (by decide)
def tz{w:W4}{P:G.V}(h:SzW 900 w)(f:Sz 2000 P):RN (lU w P):=by
 show{RL w P,λp g=>?_};let{i,j}:=aCh.mp g;show{of_decide_eq_true j,?_};have a:=h.1.mono (n:=2000);have b:=h.2.1.mono (n:=2000);have c:=h.2.2.1.mono (n:=2000);have d:=h.2.2.2.mono (n:=2000);have m:=(aCB i).2;erw[zE,aAi,aCI,or_false]at m;rcases m with e|e|e|e<;>rw[e]
 .show gG f b c d
 .show gG a f c d
 .show gG a b f d
 show gG a b c f
def HQ{r:R Out}{ρ:Ev}{F:Ev->R D}{x:R D}(a:r=.ok (.nx ρ))(b:F ρ=x):xz r F=x:=by rw[a];show b
abbrev pn(p:G.V×G.V):D:=.tup [vd p.1,vd p.2]
abbrev mj(l:List (G.V×G.V)):D:=.lst (l.map pn)
def ZD:∀a b,mj a=mj b->a=b:=λa b h=>by injection h with h;show(aDy λx y h=>?_).mp h;injection h with h;injection h with d h;injection h with e h;show aDt (M4 d) (M4 e)
open Classical in
def OZ(S:List G.V) (c A:G.V) (ps:List (G.V×G.V)):List (G.V×G.V):=if c≠0/\DC (iV S c A)<=0 then ps++[(c,A)]else ps
open Classical in
def XV(S:List G.V) (c A:G.V) (ps:List (G.V×G.V)):List (G.V×G.V):=if c≠0/\0<=pN (iV S c A)then ps++[({0-c.x,0-c.y,0-c.z},A)]else ps
def FI(S:List G.V) (i j k:Nat) (ps:List (G.V×G.V)):List (G.V×G.V):=XV S (G.cr (S.getD j 0-S.getD i 0)<|S.getD k 0-S.getD i 0) (S.getD i 0) (OZ S (G.cr (S.getD j 0-S.getD i 0)<|S.getD k 0-S.getD i 0) (S.getD i 0) ps)
def XT(S:List G.V) (i j:Nat):List (G.V×G.V)->List (G.V×G.V):=lp j (FI S i j)
def uk(S:List G.V) (i:Nat):List (G.V×G.V)->List (G.V×G.V):=lp i (XT S i)
def jy(S:List G.V):List (G.V×G.V):=lp S.length (uk S) []
def IE(S:List G.V)(c A:G.V)(ps:List (G.V×G.V)):(OZ S c A ps).length<=ps.length+1/\(XV S c A ps).length<=ps.length+1:=by unfold OZ XV;constructor<;>split<;>simp
theorem nE{b:Type}{f:Nat->List b->List b}{a:List b}{c m:Nat}(h:∀k<m,∀x,(f k x).length<=x.length+c):∀{n:Nat},n<=m->(lp n f a).length<=a.length+c*n
 |0,_=>aAh _
 |n+1,d=>by have i:=nE (a:=a) h (n:=n) (by lia);have j:=h n (by lia) (lp n f a);change(f n<|lp n f a).length<=_;grind
def WC(S:List G.V)(i j k:Nat)(ps:List (G.V×G.V)):(FI S i j k ps).length<=ps.length+2:=aAn (IE ..).2 (by have:=(IE S (G.cr (S.getD j 0-S.getD i 0)<|S.getD k 0-S.getD i 0) (S.getD i 0) ps).1;lia)
def TZ{S:List G.V}{i j:Nat}{ps:List (G.V×G.V)}(a:j<=14):(XT S i j ps).length<=ps.length+28:=aAn (nE (λk _ x=>WC S i j k x)<|aAh _) (by lia)
def a2h{S:List G.V}{i:Nat}{ps:List (G.V×G.V)}(a:i<=14):(uk S i ps).length<=ps.length+392:=aAn (nE (λk b x=>TZ (by lia))<|aAh _) (by lia)
def iz(S:List G.V):Prop:=(∀P∈S,Sz 900 P)/\S≠[]/\S.length<=14
def GV:List D->R D:=lvD λS=>eV (CW (iz S)<|mj<|jy S)
def jx{S:List G.V}(h:iz S):GV [.lst (S.map vd)]=.ok (mj (jy S)):=(lD _ S []).trans (J7 h)
def VX{S:List G.V}{c A:G.V}{ps:List (G.V×G.V)}{y:G.V×G.V}(h:y∈ps):y∈OZ S c A ps:=by
 unfold OZ;split
 .show aBj _ h
 show h
def DQ{S:List G.V}{c A:G.V}{ps:List (G.V×G.V)}{y:G.V×G.V}(h:y∈ps):y∈XV S c A ps:=by
 unfold XV;split
 .show aBj _ h
 show h
def ES(S:List G.V)(p:G.V×G.V):Prop:=p.2∈S/\Sz 2010 p.1/\∀X∈S,G.d6 p.1 (X-p.2)<=0
def PP{S:List G.V}(h:iz S):∀p∈jy S,ES S p:=by
 have st:∀i j k b,i<S.length->j<S.length->k<S.length->(∀p∈b,ES S p)->∀p∈FI S i j k b,ES S p:=λi j k b g m n r=>by
  have a:=G6 g;have s:=h.1 _ a;have t:Sz 2003 (G.cr (S.getD j 0-S.getD i 0)<|S.getD k 0-S.getD i 0):=(JM (I9 (h.1 _ (G6 m)) s)<|I9 (h.1 _ (G6 n)) s).mono;unfold FI;generalize S.getD i 0=A at*
  generalize G.cr (S.getD j 0-A) (S.getD k 0-A)=c at*
  intro p d;unfold XV at d;have o:∀p∈OZ S c A b,ES S p:=λp f=>by
   unfold OZ at f;split at f
   .rename_i z;rcases aAS.mp f with q|q
    .show r p q
    rw[aAT.mp q];show{a,t.mono,λX l=>aFu (JD<|aAj.mpr ⟨X,l,rfl⟩) z.2}
   show r p f
  split at d
  .rename_i z;rcases aAS.mp d with q|q
   .show o p q
   rw[aAT.mp q];show{a,(I9 (u:=0) ({aAQ _,aAQ _,aAQ _}) t).mono,λX l=>?_};have:=aFu z.2 (yD<|aAj.mpr ⟨X,l,rfl⟩);have e:G.d6 ⟨0-c.x,0-c.y,0-c.z⟩ (X-A)=-G.d6 c (X-A):=by simp[G.d6];grind
   rw[e]
   lia
  show o p d
 show AJ (λb=>∀p∈b,ES S p) (by grind) λi g x v=>AJ (λb=>∀p∈b,ES S p) v λj m y w=>AJ (λb=>∀p∈b,ES S p) w λk n z B=>st i j k z g (by lia) (by lia) B
def NP{S:List G.V}(hs:G.k9 S){f:G.V×Int}{P:G.V}(Q:G.IsFace S f.1 f.2)(hP:f.2<G.d6 f.1 P):∃p∈jy S,0<G.d6 p.1 (P-p.2):=by
 let{T,n,A0,g,B0,s,C0,t,U,Y,c0,e0}:=id Q;have u:∀{X},X∈S->X∈S.reverse:=λh=>aBZ.mpr h;let{A,B,C,{i,j,k,ij,jk,eA,eB,eC},ne,al}:=G.YU (u g) (u s) (u t) e0;let{a,b,c}:=al (λX=>G.d6 f.1 X=f.2) U Y c0;have at_:∀{i:Nat}{A:G.V},S.reverse[i]?=some A->i<S.length/\S.getD (S.length-1-i) 0=A:=λ{i A} e=>by have v:i<S.reverse.length:=(aAB.mp e).1;rw[aCf]at v;rw[List.getElem?_reverse v]at e;show{v,by rw[aAt,e];rfl}
 let{iA,gA}:=at_ eA;let{iB,gB}:=at_ eB;let{iC,gC}:=at_ eC;have o:=G.t4 T.ne;have d:∀X:G.V,G.d6 f.1 f.1*G.d6 (G.cr (B-A)<|C-A) (X-A)=G.d6 f.1 (G.cr (B-A)<|C-A)*(G.d6 f.1 X-f.2):=λX=>by rw[G.sQ (by rw[G.d9];lia) (by rw[G.d9];lia),G.d9 f.1 X A,a]
 have r:∀{y:G.V×G.V},(∀x,y∈FI S (S.length-1-i) (S.length-1-j) (S.length-1-k) x)->y∈jy S:=λ{y} st=>by have H:∀{i j k x},y∈x->y∈FI S i j k x:=λh=>DQ (VX h);have I:∀{i j x},y∈x->y∈XT S i j x:=λh=>xR (λ_ _=>H) h;have m1:∀{i x},y∈x->y∈uk S i x:=λh=>xR (λ_ _=>I) h;have s2:∀x,y∈XT S (S.length-1-i) (S.length-1-j) x:=λx=>zV (f:=FI S (S.length-1-i) (S.length-1-j)) (λ_ _=>H) (k:=S.length-1-k) st (by omega);show zV (f:=uk S) (λ_ _=>m1) (k:=S.length-1-i) (λx=>zV (f:=XT S (S.length-1-i)) (λ_ _=>I) (k:=S.length-1-j) s2 (by omega)) (by omega)
 have sn:S≠[]:=λz=>by rw[z]at g;cases g
 have J:∀N:G.V,iV S N A≠[]:=λN z=>sn (List.map_eq_nil_iff.mp z);unfold FI at r;rw[gA,gB,gC]at r;generalize G.cr (B-A) (C-A)=N at*
 have k0:G.d6 f.1 N≠0:=λz=>by
  have x:=d (N+A);rw[z,aFm,show N+A-A=N by apply G.ext<;>simp<;>lia]at x;rcases aAo.mp x with x|x
  .lia
  show absurd x (aGN<|G.t4 ne)
 by_cases L:0<G.d6 f.1 N
 .have w:∀X∈S,G.d6 N (X-A)<=0:=λX l=>by
   have x:=d X;have y:=aAR (aAz L) (show 0<=f.2-G.d6 f.1 X by have:=n X l;lia);by_cases q:G.d6 N (X-A)<=0
   .show q
   have:=aAw o (show 0<G.d6 N (X-A)by lia);grind
  show{(N,A),r λx=>DQ ?_,?_}
  .let{X,l,e}:=aAj.mp (CB<|J N);have m:DC (iV S N A)<=0:=aFu (Int.le_of_eq e.symm) (w X l);unfold OZ;rw[kc {ne,m}];show aAx _ (.head _)
  have x:=d P;have y:=aAw L (show 0<G.d6 f.1 P-f.2 by lia);by_cases q:0<G.d6 N (P-A)
  .show q
  have:=aAR (aAz o) (show 0<=-G.d6 N (P-A)by lia);grind
 have O:0< -G.d6 f.1 N:=by lia
 have E:∀X∈S,0<=G.d6 N (X-A):=λX l=>by
  have x:=d X;have y:=aAR (aAz O) (show 0<=f.2-G.d6 f.1 X by have:=n X l;lia);by_cases q:0<=G.d6 N (X-A)
  .show q
  have:=aAw o (show 0< -G.d6 N (X-A)by lia);grind
 show{({0-N.x,0-N.y,0-N.z},A),r λx=>?_,?_}
 .let{X,l,e}:=aAj.mp (tL<|J N);have m:0<=pN (iV S N A):=aFu (E X l) (Int.le_of_eq e);unfold XV;rw[kc {ne,m}];show aAx _ (.head _)
 have x:=d P;have y:=aAw O (show 0<G.d6 f.1 P-f.2 by lia);have e:G.d6 (⟨0-N.x,0-N.y,0-N.z⟩:G.V) (P-A)=-G.d6 N (P-A):=by simp[G.d6];grind
 rw[e];by_cases q:0< -G.d6 N (P-A)
 .show q
 have:=aAR (aAz o) (show 0<=G.d6 N (P-A)by lia);grind
def FK:List D->R D:=SC mj λl=>v1 λx y z=>eV (CW ((∀p∈l,Sz 3000 p.1/\Sz 2000 p.2)/\Sz 2000 ⟨x,y,z⟩)<|.bl (exB l λp=>0<G.d6 p.1 (⟨x,y,z⟩-p.2)))
def YZ{l:List (G.V×G.V)}{P:G.V}(h:∀p∈l,Sz 3000 p.1/\Sz 2000 p.2)(a:Sz 2000 P):FK [mj l,vd P]=.ok (.bl (exB l λp=>0<G.d6 p.1 (P-p.2))):=(V8 ZD _ l [vd P]).trans (J7 {h,a})
def GH{r:R Out}{a:Ev->R Out}{d:D}{J:Ev->Prop}(h:∃ρ2,r=.ok (.nx ρ2)/\J ρ2)(b:∀ρ,J ρ->G8 (a ρ)=.ok d):G8 (C1 r a)=.ok d:=by let{ρ2,e,j}:=h;rw[e];show b ρ2 j
def ww{f g:Ev->R D}{ρ:Ev}{d:D}(h:f ρ=.ok (.bl true))(a:g ρ=.ok d):a1w f g ρ=.ok d:=by unfold a1w;rw[h];show a
def xO(f:Int×Int):Prop:=0<f.1/\0<f.2/\aDo f.1.natAbs f.2.natAbs=1
def HA:List D->R D:=UR λY e=>qJ (λa=>qJ λb=>eV (eV (CW (xO (a,b))<|.bl true) e)) Y
def qk{f:Int×Int}(h:xO f):HA [frD f]=.ok (.bl true):=J7 h
def XB{a b:Int}(i:0<a)(j:0<b):xO (iE a b):=by
 have p:0<aDo a.natAbs b.natAbs:=aEj _ (by lia);let{m,em}:=aDS a.natAbs b.natAbs;let{n,k}:=aEo a.natAbs b.natAbs;generalize e:aDo a.natAbs b.natAbs=g at*
 have d:a=(g:Int)*(m:Int):=by grind
 have l:b=(g:Int)*(n:Int):=by grind
 have o:(g:Int)≠0:=by lia
 have f:a.fdiv (g:Int)=m:=by simp_all
 have h:b.fdiv (g:Int)=n:=by simp_all
 have r:0<m:=aFv λz=>by rw[z]at d;simp at d;lia
 unfold xO iE;dsimp only;rw[e,f,h];show{by lia,by lia,?_};have q:aDo (g*m) (g*n)=g*aDo m n:=Nat.gcd_mul_left ..;have:g*1=g*aDo m n:=by lia
 show(aFw p this).symm
def Spr(cs:List G.V):Prop:=(∃a,cs=[a])\/(∃a b,cs=[a,b])\/(∃a b c,cs=[a,b,c]/\G.cr (b-a) (c-a)≠0)\/∃a b c d,cs=[a,b,c,d]/\G.d6 (G.cr (b-a)<|c-a) (d-a)≠0
def HW:List D->R D:=lvD λa=>eV (CW ((∀P∈a,Sz 900 P)/\Spr a)<|.bl true)
def qz{cs:List G.V}(h:∀P∈cs,Sz 900 P)(a:Spr cs):HW [.lst (cs.map vd)]=.ok (.bl true):=(lD _ cs []).trans (J7 {h,a})
abbrev Fs:=List (G.V×Int×Int)
abbrev eJ(l:Fs):D:=.lst (l.map IW)
def AL:∀a b,eJ a=eJ b->a=b:=λa b h=>by injection h with h;show(aDy λx y h=>?_).mp h;injection h with h;injection h with g h;injection h with d h;injection d with d;injection d with e d;injection d with f d;injection e with e;injection f with f;show aDt (M4 g) (aDt e f)
def lQ(l:Fs):Int:=l.foldl (λb p=>b*p.2.2) 1
def eS(l:Fs):List Int:=l.map λp=>p.2.1*(lQ l).fdiv p.2.2
def qL(v:G.V)(k:Nat):Int:=[v.x,v.y,v.z].getD k 0
def sumK(l:Fs)(k:Nat):Int:=((aDW 0 l.length).map λj=>(eS l).getD j 0*qL (l.getD j (0,0,0)).1 k).sum
def a5q(l:Fs):Prop:=l.length<=4/\∀p∈l,Sz 900 p.1/\0<p.2.2/\bits p.2.1<=9000/\bits p.2.2<=9000
def GY(l:Fs)(P:G.V):Prop:=a5q l/\Sz 2000 P/\(eS l).sum=lQ l/\∀k<3,sumK l k=lQ l*qL P k
def yP:List D->R D:=SC eJ λl=>v1 λx y z=>eV (CW (GY l ⟨x,y,z⟩)<|.bl true)
def dj{l:Fs}{P:G.V}(h:GY l P):yP [eJ l,vd P]=.ok (.bl true):=(V8 AL _ l [vd P]).trans (J7 h)
theorem AT:∀{l:Fs}{b:Int}{n:Nat},bits b<=n->(∀p∈l,bits p.2.2<=9000)->bits (l.foldl (λb p=>b*p.2.2) b)<=n+9000*l.length
 |[],_,_,h,_=>h
 |p::l,b,n,h,a=>by have:=AT (bits_mul h<|a p<|.head _) λq d=>a q (.tail _ d);rw[aAp,Nat.mul_succ];show o7 this (by lia)
theorem rS{v:G.V}:∀{k:Nat},k<3->W7 (vd v) (.int (k:Int))=.ok (.int (qL v k))
 |0,_=>rfl
 |1,_=>rfl
 |2,_=>rfl
theorem DJ{v:G.V}{n:Nat}(h:Sz n v):∀{k:Nat},k<3->bits (qL v k)<=n
 |0,_=>h.1
 |1,_=>h.2.1
 |2,_=>h.2.2
def WZ{a:Type}{l:List a}{rep:a->D}{z:a}{j:Nat}(h:j<l.length):W7 (.lst (l.map rep)) (.int (j:Int))=.ok (rep (l.getD j z)):=eG (by rw[X4 (by lia),aBR,aAH,aAt,aAl h];rfl)
def DT(l:Fs):(eS l).length=l.length:=aAf _
def xj{a:Type}{l:List a}{z:a}{j:Nat}(h:j<l.length):l.getD j z∈l:=by grind
def xw{a b:Int}(h:a=b):LQ (.int a) (.int b)=.ok (.bl false):=by rw[HI,h];simp
def qO(l:Fs)(B:List G.V)(P:G.V):Prop:=1<=l.length/\GY l P/\(∀p∈l,p.1∈B/\xO p.2)/\f8 (l.map (·.1))=l.map (·.1)/\Spr (l.map (·.1))
def AC:List D->R D:=SC eJ λl=>lvD λB=>v1 λx y z=>eV (CW (qO l B ⟨x,y,z⟩)<|.bl true)
def SB{l:Fs}{B:List G.V}{P:G.V}(h:qO l B P):AC [eJ l,.lst (B.map vd),vd P]=.ok (.bl true):=(V8 AL _ l _).trans ((lD _ B [vd P]).trans (J7 h))
def FC(L:List G.V)(c:Int):G.V:=
 if c.fmod 4=0 then qD L (c.fdiv 4)
 else if c.fmod 4=1 then{((qD L<|c.fdiv 4).x+(qD L<|c.fdiv 40).x).fdiv 2,((qD L<|c.fdiv 4).y+(qD L<|c.fdiv 40).y).fdiv 2,((qD L<|c.fdiv 4).z+(qD L<|c.fdiv 40).z).fdiv 2}
 else if c.fmod 4=2 then{((qD L<|c.fdiv 4).x+(qD L<|c.fdiv 40).x+(qD L<|c.fdiv 400).x).fdiv 3,((qD L<|c.fdiv 4).y+(qD L<|c.fdiv 40).y+(qD L<|c.fdiv 400).y).fdiv 3,((qD L<|c.fdiv 4).z+(qD L<|c.fdiv 40).z+(qD L<|c.fdiv 400).z).fdiv 3}
 else{(c.fdiv 4).fmod 41-20,(c.fdiv 164).fmod 41-20,(c.fdiv 6724).fmod 41-20}
def qA:List D->R D:=SC (λd:D=>d) λ_=>lvD λL=>qJ λc=>eV (CW (L≠[])<|vd<|FC L c)
def UA{d:D}{L:List G.V}{c:Int}(h:L≠[]):qA [d,.lst (L.map vd),.int c]=.ok (vd (FC L c)):=(V8 (λ_ _ h=>h) _ d _).trans ((lD _ L [.int c]).trans (J7 h))
def a1n{L:List G.V}{c:Int}(h:L≠[])(b:∀P∈L,Sz 90 P):Sz 92 (FC L c):=by
 have a:∀k,Sz 90 (qD L k):=λk=>b _ (G6 (a5r h k).1);unfold FC;split
 .show(a _).mono
 split
 .show{bits_fdiv (o7 (bits_add (a _).1 (a _).1) (by decide)),bits_fdiv (o7 (bits_add (a _).2.1 (a _).2.1) (by decide)),bits_fdiv (o7 (bits_add (a _).2.2 (a _).2.2) (by decide))}
 split
 .have f:∀{x y z:Int},bits x<=90->bits y<=90->bits z<=90->bits ((x+y+z).fdiv 3)<=92:=λd e g=>bits_fdiv (bits_add (bits_add d e) (o7 g (by decide)));show{f (a _).1 (a _).1 (a _).1,f (a _).2.1 (a _).2.1 (a _).2.1,f (a _).2.2 (a _).2.2 (a _).2.2}
 have f:∀x:Int,bits (x.fmod 41-20)<=92:=λx=>o7 (bits_sub (n:=30) (bits_fmod (by decide) (by decide)) (by decide)) (by decide);show{f _,f _,f _}
def a7y(a b c d:G.V):l8 b a c d=-l8 a b c d:=by simp[l8,G.d6];grind
def a4q(a b c d:G.V):l8 a c b d=-l8 a b c d:=by simp[l8,G.d6];grind
def a5k(a b c d:G.V):l8 a b d c=-l8 a b c d:=by simp[l8,G.d6];grind
def Nz(l:List G.V):Prop:=∀a b c d,l=[a,b,c,d]->l8 a b c d≠0
theorem YE:∀{pre l:List G.V}{x y:G.V},Nz (pre++x::y::l)->Nz (pre++y::x::l)
 |[],l,x,y,h=>λa b c d e=>by
  injection e with f e;injection e with g e;subst f g;rw[a7y];have:=h x y c d (by rw[e];rfl)
  lia
 |[p],l,x,y,h=>λa b c d e=>by
  injection e with i e;injection e with f e;injection e with g e;subst i f g;rw[a4q];have:=h p x y d (by rw[e];rfl)
  lia
 |[p,q],l,x,y,h=>λa b c d e=>by
  injection e with i e;injection e with j e;injection e with f e;injection e with g e;subst i f g j;rw[a5k];have:=h p q x y (by rw[e];rfl)
  lia
 |p::q::r::pre,l,x,y,h=>λa b c d e=>by
  have:=km aFM e;simp at this
  lia
def kq{l m:List G.V}(h:l.Perm m):∀{pre:List G.V},Nz (pre++l)->Nz (pre++m):=by
 induction h with
 |nil=>showλh=>h
 |cons x _ a=>
  intro pre h;have:=a (pre:=pre++[x]) (by simp_all)
  simp_all
 |swap x y l=>show YE
 |trans _ _ b d=>showλh=>d (b h)
def a1c{cs f rs:List G.V}(h:Nz cs)(g:cs.length=4)(p:(f++rs).Perm cs)(i:1<=f.length):Spr f:=by
 have n:=kq (pre:=[]) p.symm h;have e:=p.length_eq;rw[aAy,g]at e;match f,i,e,n with
 |[a],_,_,_=>show .inl {a,rfl}
 |[a,b],_,_,_=>show .inr (.inl {a,b,rfl})
 |[a,b,c],_,e,n=>let{d,rfl}:=List.length_eq_one_iff.mp (show rs.length=1 by simp at e;lia);show .inr (.inr (.inl {a,b,c,rfl,λz=>n a b c d rfl (by unfold l8;rw[z];simp[G.d6])}))
 |[a,b,c,d],_,e,n=>
  have:rs=[]:=by simpa using e
  subst this;show .inr (.inr (.inr {a,b,c,d,rfl,n a b c d rfl}))
 |_::_::_::_::_::_,_,e,_=>simp at e;lia
def KL(w:W4)(P:G.V):(zE w P).sum=l8 w.1 w.2.1 w.2.2.1 w.2.2.2:=by simp[zE,l8,G.d6];grind
def lK(a b c d P:G.V)(k:Nat):l8 P b c d*qL a k+l8 a P c d*qL b k+l8 a b P d*qL c k+l8 a b c P*qL d k=l8 a b c d*qL P k:=by
 unfold qL;match k with
 |0=>simp[l8,G.d6];grind
 |1=>simp[l8,G.d6];grind
 |2=>simp[l8,G.d6];grind
 |k+3=>simp
def IY(A x:G.V)(r:List G.V):pV A (x::r)=(G.n8 r).map λp=>(p.1,x,p.2,A):=by rw[V7,aAI];unfold pV;rw[aAp,aFL,aAI];show aDU λj _=>?_;erw[Function.comp,Nat.add_comm 1 j];rfl
section
variable{L:List G.V} (B:Bd4 L)
include B
theorem VM{f:G.V×Int}(F:G.IsFace L f.1 f.2){x:G.V}{r:List G.V}(e:G.j0 L f=x::r){p:G.V×G.V}(d:p∈G.n8 r):∃k,0<k/\∀Y,G.d6 f.1 f.1*l8 p.1 x p.2 Y=k*(f.2-G.d6 f.1 Y):=by
 have S:=F.aa2 B.ord;have n:(G.j0 L f).Nodup:=S.aa4;have on:∀X∈G.j0 L f,G.d6 f.1 X=f.2:=λX s=>(G.d8.mp<|S.aa3 s).2;have w:p∈G.T8 (G.j0 L f):=by
  rw[e,G.Q5];match r,d with
  |a::l,d=>show .tail _ (G.X1 l a x p d)
 have E:=S.aa1.mp (w);have b:p.1∈r/\p.2∈r:=by rw[V7]at d;grind
 rw[e]at n on;have o:=(aAY.mp n).1;have i:∀{X},X∈x::r->∃g:G.V×Int,G.IsFace L g.1 g.2/\X∈G.j0 L g:=λh=>{f,F,by rw[e];show h};have j:=on _ (.tail _ b.1);have m:=G.sQ (u:=p.2-p.1) (v:=x-p.1) (by rw[G.d9,on _ (.tail _ b.2),j];lia) (by rw[G.d9,on _ (.head _),j];lia);have A:=E.left x (S.aa3 (show x∈G.j0 L f by rw[e];show .head _));have C:=G.t4 F.prim.ne;have t:G.d6 f.1 (G.cr (p.2-p.1)<|x-p.1)=G.i9 f.1 (p.2-p.1) (x-p.1):=rfl;rw[t]at m;have H:G.i9 f.1 (p.2-p.1) (x-p.1)≠0:=λz=>by
  have:=m (G.cr (p.2-p.1)<|x-p.1);rw[z,aFm]at this;rcases aAo.mp this with q|q
  .lia
  show absurd q (aGN<|G.t4<|G.jj B.sol B.ord (i<|.tail _ b.1) (i<|.tail _ b.2) (i<|.head _) E.ne (λq=>o (q▸b.1))<|λq=>o (q▸b.2))
 show{G.i9 f.1 (p.2-p.1) (x-p.1),by lia,λY=>?_};have:=m (Y-p.1);rw[G.d9 f.1 Y p.1,j]at this;have y:l8 p.1 x p.2 Y=-G.d6 (G.cr (p.2-p.1)<|x-p.1) (Y-p.1):=by simp[l8,G.d6];grind
 rw[y];grind
theorem DU{f:G.V×Int}(F:G.IsFace L f.1 f.2){x:G.V}{r:List G.V}(e:G.j0 L f=x::r){p:G.V×G.V}(d:p∈G.n8 r)(Y:G.V):(G.d6 f.1 Y<=f.2->0<=l8 p.1 x p.2 Y)/\(G.d6 f.1 Y<f.2->0<l8 p.1 x p.2 Y):=by
 let{k,a,h}:=VM B F e d;have b:=G.t4 F.prim.ne;show{λq=>?_,λq=>?_}
 .have:=aAR (aAz a) (show 0<=f.2-G.d6 f.1 Y by lia);by_cases z:0<=l8 p.1 x p.2 Y
  .show z
  have:=aAw b (show 0< -l8 p.1 x p.2 Y by lia);grind
 have:=aAw a (show 0<f.2-G.d6 f.1 Y by lia);by_cases z:0<l8 p.1 x p.2 Y
 .show z
 have:=aAR (aAz b) (show 0<=-l8 p.1 x p.2 Y by lia);grind
theorem KN:GP L:={B.sz,B.sol,by rw[B.self];show B.len}
theorem SK:∃f:G.V×Int,G.IsFace L f.1 f.2/\oQ (iN L)∈G.j0 L f:=by
 let{d,g,_}:=B.ad3;have e:iN L=(p9 L).map λf=>(wO f.1 f.2,G.j0 L f):=by unfold iN;rw[B.self]
 rw[e];match q:p9 L,g with
 |f::fs,_=>have F:=(d f).mp (q▸.head _);show{f,F,?_};let{a,b,c,r,h}:=G.C7 B.ord F;change(G.j0 L f).getD 0 0∈_;rw[show G.j0 L f=a::b::c::r from h];show .head _
theorem SY{w:W4}(d:w∈Z8 (oQ (iN L)) (iN L)):0<l8 w.1 w.2.1 w.2.2.1 w.2.2.2/\w.1∈L/\w.2.1∈L/\w.2.2.1∈L/\w.2.2.2∈L:=by
 let{f,F,n,d}:=PM (KN B) d;rw[B.self]at F n d;let{g,o,s}:=SK B;have sub:∀{f:G.V×Int}{X:G.V},G.IsFace L f.1 f.2->X∈G.j0 L f->X∈L:=λF h=>(G.d8.mp<|(F.aa2 B.ord).aa3 h).1;have k:=sub o s;generalize oQ (iN L)=A at*
 have t:G.d6 f.1 A<f.2:=by
  have:=F.sup A k;by_cases q:G.d6 f.1 A=f.2
  .show absurd (B.on F<|G.d8.mpr ⟨k,q⟩) n
  lia
 let{a,b,c,r,e}:=G.C7 B.ord F;have e:G.j0 L f=a::b::c::r:=e;rw[e,IY]at d;let{p,l,rfl}:=aAj.mp d;have i:p.1∈b::c::r/\p.2∈b::c::r:=by rw[V7]at l;let{j,u,rfl}:=aAj.mp l;rw[aBn]at u;show{G6 (by lia),G6 (by lia)}
 have m:∀X∈a::b::c::r,X∈L:=λX v=>sub F (e▸v);show{(DU B F e l A).2 t,m _ (.tail _ i.1),m _ (.head _),m _ (.tail _ i.2),k}
theorem a0p{P:G.V}(h:wOf L P=none):∃f:G.V×Int,G.IsFace L f.1 f.2/\f.2<G.d6 f.1 P:=by
 show aFD λi=>?_;let{a,t,_}:=B.ad3;let{g,j,k}:=SK B;have b:=λf l=>Int.not_lt.mp λq=>i {f,(a f).mp l,q};let{f,d,u,x,r,e,p,n,v,w,y}:=G.QK B.sol B.ord a j k b;have F:=(a f).mp d;have top:=(DU B F e n P).1 (b f d);have o:oQ (iN L)∉G.j0 L f:=λq=>by
  have:=(G.d8.mp<|(F.aa2 B.ord).aa3 q).2
  lia
 have s:(p.1,x,p.2,oQ (iN L))∈Z8 (oQ<|iN L) (iN L):=by
  show aBe.mpr {(wO f.1 f.2,G.j0 L f),?_,?_}
  .unfold iN;rw[B.self];grind
  rw[kd o,e,IY];grind
 have:=aFn.mp h _ s;show this (decide_eq_true ?_);generalize oQ (iN L)=A at*
 have m:=tL (ns:=zE (p.1,x,p.2,A) P) (by simp[zE]);erw[zE,aAi,or_false]at m;have z:l8 P x p.2 A=G.i9 (P-A) (p.2-A) (x-A):=by simp[l8,G.i9,G.d6];grind
 have C:l8 p.1 P p.2 A=G.i9 (P-A) (p.1-A) (p.2-A):=by simp[l8,G.i9,G.d6];grind
 have E:l8 p.1 x P A=G.i9 (P-A) (x-A) (p.1-A):=by simp[l8,G.i9,G.d6];grind
 unfold zE;grind
end
theorem rX(g:G.V->Int):∀{l:List (G.V×Int)},(∀p∈l,0<=p.2)->((l.filter λp=>decide (p.2>0)).map λp=>p.2*g p.1).sum=(l.map λp=>p.2*g p.1).sum
 |[],_=>rfl
 |p::l,h=>by have i:=rX g λq a=>h q (.tail _ a);have:=h p (.head _);grind
def a7b{l:List (G.V×Int)}(b:(l.map (·.1)).Nodup){p:G.V×Int}(a:p∈l):pR l p.1=p.2:=by
 have h:=(JS<|aAj.mpr ⟨p,a,rfl⟩).2;generalize pR l p.1=y at*
 induction l with
 |nil=>cases a
 |cons q l f=>
  rw[aAm,aAY]at b;rcases aAi.mp a with e|a
  .rcases aAi.mp h with d|h
   .rw[e,<-d]
   show absurd (aAj.mpr {_,h,rfl}) (e▸b.1)
  rcases aAi.mp h with d|h
  .show absurd (aAj.mpr {p,a,rfl}) (by have g:=km Prod.fst d;show g▸b.1)
  show f b.2 a h
def fN{l:List G.V}(a:l.Nodup):(f8 l).Perm l:=(aCG (dM l) a).mpr λv=>v6
def UV{l m:List Int}(h:l.Perm m):l.sum=m.sum:=by
 induction h with
 |nil=>rfl
 |cons x _ d=>simp_all
 |swap x y l=>erw[aCt];lia
 |trans _ _ a b=>rw[a,b]
def sj(g:G.V->Int){l:List (G.V×Int)}(a:(l.map (·.1)).Nodup):((f8 (l.map (·.1))).map λv=>pR l v*g v).sum=(l.map λp=>p.2*g p.1).sum:=by
 rw[UV ((fN a).map _),aAI];congr 1;show aDU λp b=>by change pR l p.1*g p.1=_;rw[a7b a b]
theorem WW:∀{l:Fs}{b:Int},b∣l.foldl (λb p=>b*p.2.2) b/\∀p∈l,p.2.2∣l.foldl (λb p=>b*p.2.2) b
 |[],b=>{Int.dvd_refl b,λp h=>nomatch h}
 |q::l,b=>by
  let{d,f}:=WW (b:=b*q.2.2);show{Int.dvd_trans (Int.dvd_mul_right ..) d,λp a=>?_};rcases aAi.mp a with e|a
  .rw[e];show Int.dvd_trans (Int.dvd_mul_left ..) d
  show f p a
def iq{a b:Int}(e:0<a):∃g:Int,g≠0/\a=g*(iE a b).1/\b=g*(iE a b).2:=by have p:0<aDo a.natAbs b.natAbs:=aEj _ (by lia);have d:((aDo a.natAbs b.natAbs:Nat):Int)∣a:=aDs.mpr (aDS ..);show{_,by lia,(Int.mul_fdiv_cancel' d).symm,(Int.mul_fdiv_cancel'<|aDs.mpr<|aEo ..).symm}
def a0t{a W b:Int}(e:0<a)(i:0<W)(d:(iE a W).2∣b):(iE a W).1*b.fdiv (iE a W).2*W=a*b:=by
 let{g,j,f,h}:=iq e;let{q,rfl}:=d;generalize(iE a W).1=n at*
 generalize(iE a W).2=m at*
 rw[Int.mul_fdiv_cancel_left _ (by lia),f,show n*q*W=n*q*(g*m)by rw[<-h]];grind
def lw(l:Fs)(k:Nat):sumK l k=(l.map λp=>p.2.1*(lQ l).fdiv p.2.2*qL p.1 k).sum:=by
 unfold sumK;congr 1;apply List.ext_getElem
 .simp
 intro i a b;simp[eS,aAl (by simpa using a)]
theorem tH(W:Int):∀l:List Int,l.sum*W=(l.map (· *W)).sum
 |[]=>aFm W
 |a::l=>by rw[aCt,aAm,aCt,<-tH W l,Int.add_mul]
def CK{a:List (G.V×Int)}{P:G.V}(h:(a.map (·.1)).Nodup)(d:∀p∈a,0<p.2)(i:0<iH a)(g:G.V->Int):((rZ a).map λp=>p.2.1*(lQ (rZ a)).fdiv p.2.2*g p.1).sum*iH a=(a.map λp=>p.2*g p.1).sum*lQ (rZ a):=by
 rw[tH,<-sj g h,tH];have e:=(WW (l:=rZ a) (b:=1)).2;have e:∀p∈rZ a,p.2.2∣lQ (rZ a):=e;generalize lQ (rZ a)=b at*
 unfold rZ;rw[aAI,aAI,aAI];congr 1;show aDU λv f=>?_;have:=a0t (d _<|(JS<|v6.mp f).2) i (e _<|aAj.mpr ⟨v,f,rfl⟩);grind
def a3n{a:List (G.V×Int)}(h:RN a)(hz:∀p∈a,Sz 900 p.1)(i:0<iH a):a5q (rZ a)/\∀p∈rZ a,xO p.2:=by
 have j:=jQ (a.map (·.1));rw[aAf]at j;have q:∀p∈rZ a,p.1∈a.map (·.1)/\p.2=iE (pR a p.1) (iH a):=λp b=>by let{v,k,rfl}:=aAj.mp b;show{v6.mp k,rfl}
 show{{by unfold rZ;rw[aAf];show aAn j h.1,λp b=>?_},λp b=>?_}
 .let{d,f}:=q p b;let{_,g,l,m}:=UQ h d;let{_,n,_}:=XB g i;let{r,o,e}:=aAj.mp d;rw[f];show{e▸hz r o,n,bits_fdiv l,bits_fdiv m}
 let{d,f}:=q p b;let{_,g,_}:=UQ h d;rw[f];show XB g i
def TX(a b c d P n o:G.V):l8 P b c d*G.d6 n (a-o)+l8 a P c d*G.d6 n (b-o)+l8 a b P d*G.d6 n (c-o)+l8 a b c P*G.d6 n (d-o)=l8 a b c d*G.d6 n (P-o):=by
 have s:l8 P b c d+l8 a P c d+l8 a b P d+l8 a b c P=l8 a b c d:=by
  have:=KL (a,b,c,d) P;simp[zE]at this
  lia
 have x:=lK a b c d P 0;have y:=lK a b c d P 1;have z:=lK a b c d P 2;erw[qL,List.getD_cons_zero,List.getD_cons_succ]at x y z;generalize l8 P b c d=e at*
 generalize l8 a P c d=f at*
 generalize l8 a b P d=g at*
 generalize l8 a b c P=h at*
 have r:e*G.d6 n (a-o)+f*G.d6 n (b-o)+g*G.d6 n (c-o)+h*G.d6 n (d-o)=n.x*(e*a.x+f*b.x+g*c.x+h*d.x)+n.y*(e*a.y+f*b.y+g*c.y+h*d.y)+n.z*(e*a.z+f*b.z+g*c.z+h*d.z)-(e+f+g+h)*G.d6 n o:=by simp[G.d6];grind
 rw[r,x,y,z,s];simp[G.d6];grind
section
variable{L:List G.V} (B:Bd4 L)
include B
theorem a1l{P:G.V}{w:W4}(E:Sz 2000 P)(h:wOf L P=some w):qO (rZ (lU w P)) L P/\∀p:G.V×G.V,(∀X∈L,G.d6 p.1 (X-p.2)<=0)->G.d6 p.1 (P-p.2)<=0:=by
 have x:w∈Z8 (oQ<|iN L) (iN L):=aCS h;have H:∀p∈YF w P,0<=p.2:=λp j=>aFu (of_decide_eq_true<|aGa (p:=fits P) h) (yD (aCB j).2);let{o,c1,c2,c3,c4}:=SY B x;have y:=WR (KN B) w x;have u:=DF (P:=P) y;have I:=tz (FU (wj<|KN B) w x) E;have A:∀p∈YF w P,p.1∈L:=λp j=>by have m:=(aCB j).1;grind
 have r:∀p∈lU w P,p.1∈L:=λp j=>A p (aCh.mp j).1;have J:iH (lU w P)=l8 w.1 w.2.1 w.2.2.1 w.2.2.2:=by have a:=rX (λ_=>1) H;erw[Int.mul_one]at a;show a.trans (KL w P)
 have s:0<iH (lU w P):=by rw[J];show o
 have N:∀g:G.V->Int,((lU w P).map λp=>p.2*g p.1).sum=l8 P w.2.1 w.2.2.1 w.2.2.2*g w.1+l8 w.1 P w.2.2.1 w.2.2.2*g w.2.1+l8 w.1 w.2.1 P w.2.2.2*g w.2.2.1+l8 w.1 w.2.1 w.2.2.1 P*g w.2.2.2:=λg=>by
  show(rX g H).trans ?_;simp[YF,zE]
  lia
 have t:∀p∈lU w P,0<p.2:=λp j=>(I.2 p j).1;let{U,lo}:=a3n I (λp j=>B.sz.1 _ (r p j)) s;have n:(rZ<|lU w P).map (·.1)=f8 ((lU w P).map (·.1)):=by unfold rZ;rw[aAI];show List.map_id _
 have Y:1<=(f8 ((lU w P).map (·.1))).length:=by rw[(fN u).length_eq,aAf];show aFv λz=>?_;rw[aBK z]at s;show absurd s (by decide)
 show{{?_,{U,E,?_,λk hk=>?_},λp j=>{?_,lo p j},?_,?_},λp j=>?_}
 .grind
 .have a:=CK (P:=P) u t s λ_=>1;erw[Int.mul_one]at a;have b:(eS<|rZ<|lU w P).sum*iH (lU w P)=iH (lU w P)*lQ (rZ<|lU w P):=a;rw[Int.mul_comm (iH _)]at b;show aFh (by lia) b
 .have a:=CK (P:=P) u t s λv=>qL v k;have O:=(N λv=>qL v k).trans (lK ..);rw[<-J]at O;have Q:=a.trans (km (· *lQ (rZ<|lU w P)) O);rw[<-lw]at Q;show aFh (a:=iH (lU w P)) (by lia) (Q.trans ?_);change iH (lU w P)*qL P k*lQ (rZ<|lU w P)=lQ (rZ<|lU w P)*qL P k*iH (lU w P);grind
 .have:=aBM (f:=(·.1)) j;rw[n]at this;let{q,C,e}:=aAj.mp (v6.mp this);show e▸r q C
 .rw[n];show fP (B1 _)
 .rw[n];show a1c (cs:=[w.1,w.2.1,w.2.2.1,w.2.2.2]) (rs:=((YF w P).filter λp=>!decide (p.2>0)).map (·.1)) (λa b c d e=>?_) rfl ?_ Y
  .injection e with e1 e;injection e with e2 e;injection e with e3 e;injection e with e4 e;rw[<-e1,<-e2,<-e3,<-e4]
   lia
  show((fN u).append_right _).trans ?_;unfold lU;rw[<-aBX];show(List.filter_append_perm _ _).map _
 have a:=N λX=>G.d6 p.1 (X-p.2);have nz:((lU w P).map λq=>q.2*G.d6 p.1 (q.1-p.2)).sum<=0:=by
  have:∀l:List (G.V×Int),(∀q∈l,0<q.2/\q.1∈L)->(l.map λq=>q.2*G.d6 p.1 (q.1-p.2)).sum<=0:=λl=>by
   induction l with
   |nil=>intro _;show aCn 0
   |cons q l ih=>intro T;have i:=ih λq C=>T q (.tail _ C);let{q1,q2}:=T q (.head _);have:=aAR (aAz q1) (show 0<=-G.d6 p.1 (q.1-p.2)by have:=j q.1 q2;lia);rw[aAm,aCt];grind
  grind
 have e:=(a.trans<|TX ..).symm;by_cases q:G.d6 p.1 (P-p.2)<=0
 .show q
 have:=aAw o (show 0<G.d6 p.1 (P-p.2)by lia)
 lia
end
def qB:List D->R D:=MY λY=>eV (CW (Y.length<=63/\jN 1048576 Y)<|.bl true)
def a1x(c k f:Int){t:List Int}(i:t.length<=5):(∀P∈(N9 c t).map (G.xW 6),Sz 90 P)/\(N9 c t).map (G.xW 6)≠[]/\((N9 c t).map (G.xW 6)).length<=11/\bG 900 (((N9 c t).map (G.xW 6)).map (fH k f))/\G.k9 (((N9 c t).map (G.xW 6)).map (fH k f)):=by
 let{b,j}:=EB c i;have d:∀{x:Int},bits x<=80->bits (6*x)<=90:=λh=>o7 (bits_mul (show bits 6<=10 by decide) h) (by decide);have z:∀P∈(N9 c t).map (G.xW 6),Sz 90 P:=λP g=>by let{Q,a,rfl}:=aAj.mp g;show{d (b Q a).1,d (b Q a).2.1,d (b Q a).2.2}
 have S:=GR c t;show{z,λe=>?_,by rw[aAf];show j,{λP g=>?_,by rw[aAf,aAf];lia},LX k f (G.OK (by decide) (λX l=>aBM l) S)}
 .let{A,m,_}:=S
  simp_all
 let{Q,a,rfl}:=aAj.mp g;show VD k f (z Q a).mono
def a4e{Y:List D}(f:jN 1048576 Y):∃cs:List Int,(pS (.lst ((Y.drop 9).take 3)) (.lst [.int 1])).bind (λx=>LB x none (some 3))=.ok (.lst (cs.map D.int)):=by
 have e:∀d∈(Y.drop 9).take 3,∃i,d=.int i/\bits i<=1048576:=λd g=>f d (aDM<|aEM g);have len:((Y.drop 9).take 3).length<=3:=List.length_take_le _ _;generalize(Y.drop 9).take 3=t at*
 match t,e,len with
 |[],_,_=>show{[1],rfl}
 |[a],e,_=>let{i,rfl,_}:=e a (.head _);show{[i,1],rfl}
 |[a,b],e,_=>let{i,rfl,_}:=e a (.head _);let{j,rfl,_}:=e b (.tail _ (.head _));show{[i,j,1],rfl}
 |[a,b,c],e,_=>let{i,rfl,_}:=e a (.head _);let{j,rfl,_}:=e b (.tail _ (.head _));let{k,rfl,_}:=e c (.tail _ (.tail _ (.head _)));show{[i,j,k],rfl}
def a9k{L:List G.V}(B:Bd4 L){P:G.V}(a:Sz 2000 P):(MU L P=.non/\exB (jy L) (λp=>0<G.d6 p.1 (P-p.2))=true)\/∃l:Fs,MU L P=eJ l/\qO l L P/\exB (jy L) (λp=>0<G.d6 p.1 (P-p.2))=false:=by
 have ne:L≠[]:=λz=>by let{A,g,_}:=B.sol;grind
 unfold MU;cases q:wOf L P with
 |none=>let{f,F,b}:=a0p B q;show .inl {rfl,tw (NP B.sol F b)}
 |some w=>
  let{r,d}:=a1l B a q;show .inr {_,rfl,r,yq ?_};rintro⟨p,e,h⟩;have:=d p (PP ({B.sz.1,ne,B.len}) p e).2.2
  lia
def a2r{a β:Type}{r r':R a}{F:a->R β}{y:R β}(b:r=r')(d:r'.bind F=y):r.bind F=y:=by rw[b];show d
def a4z{r:R Bool}{A B:R Out}{J:Ev->Prop}(h:r=.ok false)(a:∃ρ2,B=.ok (.nx ρ2)/\J ρ2):∃ρ2,(r.bind λt=>if t=true then A else B)=.ok (.nx ρ2)/\J ρ2:=by rw[h];show a
def my(l:Fs):D4 (eJ l)<=40:=by
 have g:∀l:Fs,y8 (l.map IW)<=5:=λl=>by
  induction l with
  |nil=>simp[y8]
  |cons a l b=>rw[aAm,y8];show Nat.max_le.mpr {by simp[D4,y8],b}
 have:=g l;rw[D4]
 lia
end M
namespace K31
open PySem L2 DL M
def top(i:Nat):cp:=PySem.Challenge.pw_stakebodies_k31_shares_told.main.body.getD i (.Pass {0,0,0,0})
abbrev aW:cp:=top 5
abbrev uX:List Str:=["P", "Q"]
def rH:FnScope uX ["P", "Q"] (c8 aW):=C6
abbrev iZ:cp:=top 6
abbrev EU:List Str:=["u", "v"]
def DK:FnScope EU ["u", "v"] (c8 iZ):=C6
abbrev dU:cp:=top 7
abbrev yR:List Str:=["u", "v"]
def uN:FnScope yR ["u", "v"] (c8 dU):=C6
abbrev nV:cp:=top 8
abbrev OL:List Str:=["P", "Q", "R", "S"]
def ID:FnScope OL ["P", "Q", "R", "S"] (c8 nV):=C6
abbrev Q9:cp:=top 9
abbrev oD:List Str:=["numbers", "divisor", "number", "rest", "further"]
def lO:FnScope oD ["numbers"] (c8 Q9):=C6
abbrev U3:cp:=top 10
abbrev pG:List Str:=["P", "Q", "R", "cross", "divisor", "upright"]
def mU:FnScope pG ["P", "Q", "R"] (c8 U3):=C6
abbrev lS:cp:=top 11
abbrev OQ:List Str:=["plane", "P", "height"]
def FG:FnScope OQ ["plane", "P"] (c8 lS):=C6
abbrev R3:cp:=top 14
abbrev nZ:List Str:=["ways", "way"]
def kO:FnScope nZ ["ways"] (c8 R3):=C6
abbrev D1:cp:=top 15
abbrev O8:List Str:=["points", "ways", "along", "upright"]
def pU:FnScope O8 ["points"] (c8 D1):=C6
abbrev bD:cp:=top 16
abbrev uV:List Str:=["points"]
def sI:FnScope uV ["points"] (c8 bD):=C6
abbrev aM:cp:=top 17
abbrev pA:List Str:=["plane", "points"]
def yA:FnScope pA ["plane", "points"] (c8 aM):=C6
abbrev aT:cp:=top 18
abbrev vG:List Str:=["pair", "points", "along", "upright", "outermost", "P", "way"]
def tT:FnScope vG ["pair", "points"] (c8 aT):=C6
abbrev cO:cp:=top 19
abbrev xP:List Str:=["points", "least", "upward", "touched"]
def vO:FnScope xP ["points"] (c8 cO):=C6
abbrev lT:cp:=top 20
abbrev LZ:List Str:=["upright", "P", "Q", "R"]
def HX:FnScope LZ ["upright", "P", "Q", "R"] (c8 lT):=C6
abbrev cK:cp:=top 21
abbrev zF:List Str:=["upright", "points", "chain", "P"]
def uQ:FnScope zF ["upright", "points"] (c8 cK):=C6
abbrev nH:cp:=top 22
abbrev OI:List Str:=["upright", "points", "there", "back"]
def GG:FnScope OI ["upright", "points"] (c8 nH):=C6
abbrev aU:cp:=top 23
abbrev vL:List Str:=["ring"]
def tJ:FnScope vL ["ring"] (c8 aU):=C6
abbrev bZ:cp:=top 24
abbrev yC:List Str:=["first", "about", "touched_by", "faces", "walked", "waiting", "pair", "plane", "ring", "step"]
def iM:FnScope yC ["first", "about", "touched_by"] (c8 bZ):=C6
abbrev M3:cp:=top 25
abbrev jG:List Str:=["points", "spread", "about", "touched_by"]
def oP:FnScope jG ["points"] (c8 M3):=C6
abbrev dE:cp:=top 26
abbrev zA:List Str:=["faces", "corners", "plane", "ring"]
def vJ:FnScope zA ["faces"] (c8 dE):=C6
abbrev mZ:cp:=top 27
abbrev OT:List Str:=["points"]
def GE:FnScope OT ["points"] (c8 mZ):=C6
abbrev aO:cp:=top 29
abbrev uP:List Str:=["top", "bottom", "divisor"]
def tU:FnScope uP ["top", "bottom"] (c8 aO):=C6
abbrev aK:cp:=top 30
abbrev oM:List Str:=["faces", "apex", "wedges", "plane", "ring"]
def zO:FnScope oM ["faces"] (c8 aK):=C6
abbrev dJ:cp:=top 31
abbrev yI:List Str:=["wedge", "P"]
def vW:FnScope yI ["wedge", "P"] (c8 dJ):=C6
abbrev W2:cp:=top 32
abbrev kU:List Str:=["faces", "P", "wedge", "weights"]
def uZ:FnScope kU ["faces", "P"] (c8 W2):=C6
abbrev aD:cp:=top 33
abbrev oT:List Str:=["weights", "whole"]
def xU:FnScope oT ["weights"] (c8 aD):=C6
abbrev fA:cp:=top 34
abbrev DH:List Str:=["land", "P", "weights"]
def yL:FnScope DH ["land", "P"] (c8 fA):=C6
abbrev X6:cp:=top 36
abbrev qT:List Str:=["script", "k"]
def pT:FnScope qT ["script", "k"] (c8 X6):=C6
abbrev jA:cp:=top 37
abbrev FS:List Str:=["P", "Q"]
def BG:FnScope FS ["P", "Q"] (c8 jA):=C6
abbrev cF:cp:=top 38
abbrev AB:List Str:=["u", "v"]
def vS:FnScope AB ["u", "v"] (c8 cF):=C6
abbrev Z4:cp:=top 39
abbrev sK:List Str:=["u", "v"]
def pF:FnScope sK ["u", "v"] (c8 Z4):=C6
abbrev dQ:cp:=top 40
abbrev yX:List Str:=["cell", "most", "x", "y"]
def uU:FnScope yX ["cell"] (c8 dQ):=C6
abbrev I0:cp:=top 41
abbrev T0:List Str:=["script", "cell", "a", "b", "c", "kind", "some"]
def zB:FnScope T0 ["script"] (c8 I0):=C6
abbrev dG:cp:=top 42
abbrev zG:List Str:=["spot", "script", "x", "y", "z", "cell", "most", "far"]
def uR:FnScope zG ["spot", "script"] (c8 dG):=C6
abbrev V6:cp:=top 43
abbrev kX:List Str:=["script", "near", "cell", "n", "one", "two", "three"]
def vH:FnScope kX ["script", "near", "cell"] (c8 V6):=C6
abbrev R6:cp:=top 44
abbrev iL:List Str:=["land", "found", "i", "j", "k", "normal", "sides"]
def tW:FnScope iL ["land"] (c8 R6):=C6
abbrev Y1:cp:=top 45
abbrev tR:List Str:=["planes", "P", "normal", "spot"]
def pK:FnScope tR ["planes", "P"] (c8 Y1):=C6
abbrev cM:cp:=top 46
abbrev zI:List Str:=["found"]
def vC:FnScope zI ["found"] (c8 cM):=C6
abbrev bB:cp:=top 47
abbrev vE:List Str:=["share", "one", "other"]
def tQ:FnScope vE ["share"] (c8 bB):=C6
abbrev R9:cp:=top 48
abbrev iI:List Str:=["corners", "ways"]
def sV:FnScope iI ["corners"] (c8 R9):=C6
abbrev J3:cp:=top 49
abbrev Y3:List Str:=["found", "P", "bottom", "corner", "share", "tops", "k"]
def pI:FnScope Y3 ["found", "P"] (c8 J3):=C6
abbrev W3:cp:=top 50
abbrev kD:List Str:=["found", "land", "P", "pair", "corners"]
def vV:FnScope kD ["found", "land", "P"] (c8 W3):=C6
abbrev fC:cp:=top 51
abbrev UB:List Str:=["script", "near", "land", "planes", "handed", "cell", "P", "found", "kept"]
def VZ:FnScope UB ["script"] (c8 fC):=C6
def fV:cp:=(t7 M3).getD 2 (.Pass {0,0,0,0})
abbrev IS:Str:= "faces_of.<locals>.about"
def L4:cp:=(t7 M3).getD 3 (.Pass {0,0,0,0})
abbrev kA:Str:= "faces_of.<locals>.touched_by"
def tbK:List (Pos×Str):=[(KT fV,IS),(KT L4,kA)]
section
variable [Tabs]
variable{P:be}{w:cf}{K:kn}{mg:eU}{base:ck}
def m9(g:Z7 K mg "way_between" aW):u9 P w K mg base 1 "way_between" 2 l6:=by
 refine' l7 g rH (λf i j k=>?b) λe d l h=>?_
 case b=>refine' (d5<|f6<|jP (c5 u3 (PD.pb<|e9 (b7 1) c6)<|PD.pb<|e9 (b7 0) c6) (c5 u3 (PD.pb<|e9 (b7 1) c6)<|PD.pb<|e9 (b7 0) c6)<|c5 u3 (PD.pb<|e9 (b7 1) c6)<|PD.pb<|e9 (b7 0) c6)
 replace h:=z8 h;let{a,b,c,e,rfl,h}:=h;replace h:=z8 h;let{m,n,o,e,rfl,h}:=h;replace h:=u5 h;let{rfl,h}:=h;show h
def A6(g:Z7 K mg "cross_of" iZ):u9 P w K mg base 1 "cross_of" 2 w5:=by
 refine' l7 (k:=0) (F:=_) g DK (λp q r s=>?b) λe d t h=>?_
 case b=>refine' (d5<|f6<|jP (c5 u3 (PD.pb<|c5 j7 (PD.pb<|e9 (b7 0) c6)<|PD.pb<|e9 (b7 1) c6)<|PD.pb<|c5 j7 (PD.pb<|e9 (b7 0) c6)<|PD.pb<|e9 (b7 1) c6) (c5 u3 (PD.pb<|c5 j7 (PD.pb<|e9 (b7 0) c6)<|PD.pb<|e9 (b7 1) c6)<|PD.pb<|c5 j7 (PD.pb<|e9 (b7 0) c6)<|PD.pb<|e9 (b7 1) c6)<|c5 u3 (PD.pb<|c5 j7 (PD.pb<|e9 (b7 0) c6)<|PD.pb<|e9 (b7 1) c6)<|PD.pb<|c5 j7 (PD.pb<|e9 (b7 0) c6)<|PD.pb<|e9 (b7 1) c6)
 replace h:=z8 h;let{a,b,c,e,rfl,h}:=h;replace h:=z8 h;let{u,v,x,e,rfl,h}:=h;replace h:=u5 h;let{rfl,h}:=h;split at h
 .rename_i o;let{{f,i,j},l,m,n}:=o;rw[<-h];simp[n5,j9 (v9.of i n),j9 (v9.of j m),j9 (v9.of j l),j9 (v9.of f n),j9 (v9.of f m),j9 (v9.of i l)]
 cases h
def v7(g:Z7 K mg "product_of" dU):u9 P w K mg base 1 "product_of" 2 n4:=by
 refine' l7 g uN (λo p q r=>?b) λe d s h=>?_
 case b=>refine' (d5<|f6<|c5 n9 (PD.pb<|c5 n9 (PD.pb<|c5 j7 (PD.pb<|e9 (b7 0) c6)<|PD.pb<|e9 (b7 1) c6)<|PD.pb<|c5 j7 (PD.pb<|e9 (b7 0) c6)<|PD.pb<|e9 (b7 1) c6)<|PD.pb<|c5 j7 (PD.pb<|e9 (b7 0) c6)<|PD.pb<|e9 (b7 1) c6)
 replace h:=a0d h;let{a,b,c,t,e,rfl,h}:=h;replace h:=z8 h;let{u,v,x,e,rfl,h}:=h;replace h:=u5 h;let{rfl,h}:=h;split at h
 .rename_i f;let{{i,j,k},l,m,n}:=f;rw[<-h];simp[n5,zq,vk,a0b,j9 (v9.of i l),j9 (v9.of j m),j9 (v9.of k n)]
 cases h
def W8(v7:u9 P w K mg base 1 "product_of" 2 n4)(A6:u9 P w K mg base 1 "cross_of" 2 w5)(m9:u9 P w K mg base 1 "way_between" 2 l6)(g:Z7 K mg "lift_of" nV):u9 P w K mg base 2 "lift_of" 4 nB:=by
 refine' l7 (F:=_) g ID (λm x y z=>?b) λn d A h=>?_
 case b=>refine' (d5<|f6<|U5 v7 m (U5 A6 m (U5 m9 m (c7 0)<|c7 1)<|U5 m9 m (c7 0)<|c7 2)<|U5 m9 m (c7 0)<|c7 3)
 replace h:=z8 h;let{a,b,c,n,rfl,h}:=h;replace h:=z8 h;let{d,e,f,n,rfl,h}:=h;replace h:=z8 h;let{g,B,i,n,rfl,h}:=h;replace h:=z8 h;let{j,k,l,n,rfl,h}:=h;replace h:=u5 h;let{rfl,h}:=h;split at h
 .rename_i u;let{p,q,r,s}:=u;rw[<-h];have o:=S6 (q.sub p).mono (r.sub p).mono;have t:=aJ ((q.sub p).cr (r.sub p)).mono (s.sub p).mono;erw[vd,G.QS,G.TF,G.QL,G.a7m,G.a4u,G.a7l]at o t;have v:∀a b c d e f:Int,l6 [.tup [.int a,.int b,.int c],.tup [.int d,.int e,.int f]]=.ok (.tup [.int (d-a),.int (e-b),.int (f-c)]):=λ_ _ _ _ _ _=>rfl;simp[n5,v,o,t,l8]
 cases h
def D3(J:mg "abs"=none)(g:Z7 K mg "common_divisor" Q9):u9 P w K mg base 1 "common_divisor" 1 wI:=by
 refine' l7 (k:=0) (F:=_) g lO (λL y N e=>?b) λs d O h=>?_
 case b=>
  refine' (b9 (i7 1 c6 e)
   (b9 (B9 aAK rfl (ZX<|c7 0) (j5 2 e) (b9 (i7 3 (vT GS<|b7 2) e)
   (d5 (gF (vq 3) aAK (j1 (Y8 y) (b7 3) o5) (b9 (i7 4 (c5 t9 (b7 1)<|b7 3) e)
   (b9 (i7 1 (c7 3) e)
   (d5<|i7 3 (c7 4) e)))))))
   (d5<|f6<|c7 1)))
 replace h:=cA h;let{a,s,rfl,h}:=h;replace h:=u5 h;let{rfl,h}:=h;rw[<-h];erw[n5,aAm,aEF,aBs,aDd];simp;show bH (λrest i=>∃(g:Nat) (n r f:Sl),i=[.v (.tup (a.map D.int)),.v (.int g),n,r,f]/\∃j:List Int,rest=j.map D.int/\j.foldl (λg n=>aDo g n.natAbs) g=BZ a) ?_ {0,_,_,_,rfl,a,rfl,rfl} ?_
 .rintro d s i ⟨g,n,r,f,rfl,j,o,t⟩;match j,o,t with
  |x::j,o,t=>
   injection o with A B;subst A B;erw[jF,aCP,aCQ,kN,qH,qZ,AU,R.aa0,UW,F4];have C:(if x<0 then-x else x)=(x.natAbs:Int):=by split<;>lia
   rw[C];show uF (λm i=>∃(p q:Nat) (f:Sl),i=[.v (.tup (a.map D.int)),.v (.int p),.v (.int x),.v (.int q),f]/\q<m/\aDo p q=aDo g x.natAbs) ?_ (by grind) {g,x.natAbs,f,rfl,by change x.natAbs<((x.natAbs:Int).natAbs)+2;lia,rfl} ?_
   .rintro m i ⟨p,q,f,rfl,E,u⟩;by_cases l:(q:Int)=0
    .show .inl (by simp[l])
    have H:q≠0:=by lia
    show .inr {by simp[H],_,?_,q,p%q,Sl.v (.int ((p%q:Nat):Int)),rfl,?_,?_}
    .have em:kF (.int (p:Int)) (.int (q:Int))=.ok (.int ((p%q:Nat):Int)):=by rw[uJ l,aFi _ (by lia)];rfl
     simp[em]
    .have:=aER p (show 0<q by lia)
     lia
    rw[aGj,<-Nat.gcd_rec,aGj];show u
   rintro m i ⟨p,q,f,rfl,E,u⟩ I;have l:q=0:=by
    by_cases z:q=0
    .show z
    simp[z]at I
   subst l;show{p,_,_,_,rfl,j,rfl,?_};grind
 simp_all
def T9(A6:u9 P w K mg base 1 "cross_of" 2 w5)(m9:u9 P w K mg base 1 "way_between" 2 l6)(D3:u9 P w K mg base 1 "common_divisor" 1 wI)(v7:u9 P w K mg base 1 "product_of" 2 n4)(g:Z7 K mg "plane_through" U3):u9 P w K mg base 2 "plane_through" 3 T7:=by
 refine' l7 (k:=1) (F:=_) g mU (λl Y dc s=>?b) λA d hl h=>?_
 case b=>
  refine' (b9 (i7 3 (U5 A6 l (U5 m9 l (c7 0)<|c7 1)<|U5 m9 l (c7 0)<|c7 2) s)
   (b9 (i7 4 (vI D3 l<|c7 3) s)
   (b9 (n6 (j1 (M6 Y) (b7 4) o5) (d5 nG) j3)
   (b9 (i7 5 (jP (c5 p5 (PD.pb<|e9 (b7 3) c6)<|b7 4) (c5 p5 (PD.pb<|e9 (b7 3) c6)<|b7 4)<|c5 p5 (PD.pb<|e9 (b7 3) c6)<|b7 4) s)
   (d5<|f6<|tM<|f7 (e9 (b7 5) c6)<|f7 (e9 (b7 5) c6)<|f7 (e9 (b7 5) c6)<|f7 (U5 v7 l (c7 5)<|c7 0) o8)))))
 replace h:=z8 h;let{a,b,c,A,rfl,h}:=h;replace h:=z8 h;let{d,e,f,A,rfl,h}:=h;replace h:=z8 h;let{g,J,i,A,rfl,h}:=h;replace h:=u5 h;let{rfl,h}:=h
 skip
 split at h
 .rename_i hz;let{{p,q,r},n}:=hz;rw[<-h];obtain⟨P,B⟩:∃P:G.V,P=⟨a,b,c⟩:={_,rfl};obtain⟨Q,E⟩:∃P:G.V,P=⟨d,e,f⟩:={_,rfl};obtain⟨j,H⟩:∃P:G.V,P=⟨g,J,i⟩:={_,rfl};rw[<-B]at p n;rw[<-E]at q n;rw[<-H]at r n;have vP:(.tup [.int a,.int b,.int c]:D)=vd P:=by rw[B]
  have vQ:(.tup [.int d,.int e,.int f]:D)=vd Q:=by rw[E]
  have vR:(.tup [.int g,.int J,.int i]:D)=vd j:=by rw[H]
  rw[vP,vQ,vR,<-B,<-E,<-H];have o:=(q.sub p).cr (r.sub p);have c1:=S6 (u:=Q-P) (v:=j-P) (q.sub p).mono (r.sub p).mono;let{L,g1,g2}:=G.oA n;have m:((G.C5 (G.cr (Q-P)<|j-P):Nat):Int)≠0:=by lia
  have gb:CP ((G.C5 (G.cr (Q-P)<|j-P):Nat):Int):={m,i6 (LU o)};have dv:=CY (G.cr (Q-P)<|j-P);have pl:G.j6 P Q j=(G.mB (G.cr (Q-P)<|j-P) (G.C5<|G.cr (Q-P)<|j-P),G.d6 (G.mB (G.cr (Q-P)<|j-P)<|G.C5<|G.cr (Q-P)<|j-P) P):=rfl;rw[pl];generalize hC:G.cr (Q-P) (j-P)=C at*
  have sn:Sz 2003 (G.mB C<|G.C5 C):=by have N:=bits_fdiv (b:=(G.C5 C:Int)) o.1;have O:=bits_fdiv (b:=(G.C5 C:Int)) o.2.1;have T:=bits_fdiv (b:=(G.C5 C:Int)) o.2.2;rw[sS L]at N O T;show{N,O,T}
  have d1:∀t:Int,L5 (.int t) (.int (G.C5 C:Nat))=.ok (.int (t/(G.C5 C:Nat))):=λt=>by rw[bN gb,sS L]
  have U:=aJ (u:=G.mB C (G.C5 C)) (v:=P) sn.mono p.mono;have e0:(((G.C5 C:Nat):Int)==0)=false:=by simpa using m
  erw[G.mB]at U;have I:n4 [.tup [.int (C.x/(G.C5 C:Nat)),.int (C.y/(G.C5 C:Nat)),.int (C.z/(G.C5 C:Nat))],vd P]=_:=U;simp[n5,c1,dv,e0,d1,I,G.mB]
 cases h
def lW(g:Z7 K mg "side_of" lS):u9 P w K mg base 1 "side_of" 2 bP:=by
 refine' l7 (k:=0) (F:=_) g FG (λv A B s=>?b) λq d C h=>?_
 case b=>
  refine' (b9 (i7 2 (c5 u3 (PD.pb<|c5 n9 (PD.pb<|c5 n9 (PD.pb<|c5 j7 (PD.pb<|e9 (b7 0) c6)<|PD.pb<|e9 (b7 1) c6)<|PD.pb<|c5 j7 (PD.pb<|e9 (b7 0) c6)<|PD.pb<|e9 (b7 1) c6)<|PD.pb<|c5 j7 (PD.pb<|e9 (b7 0) c6)<|PD.pb<|e9 (b7 1) c6)<|PD.pb<|e9 (b7 0) c6) s)
   (b9 (n6 (j1 iQ (b7 2) o5) (d5<|f6 c6) j3)
   (b9 (n6 (j1 DW (b7 2) o5) (d5<|f6<|uL c6) j3)
   (d5<|f6 c6))))
 replace h:=wq h;let{a,b,c,d,q,rfl,h}:=h;replace h:=z8 h;let{x,y,z,q,rfl,h}:=h;replace h:=u5 h;let{rfl,h}:=h
 skip
 split at h
 .rename_i u;let{{e,f,i},j,l,m}:=u;rw[<-h];obtain⟨t,r⟩:∃t,a*x+b*y+c*z-d=t:={_,rfl};have o:UP (.int (a*x+b*y+c*z)) (.int d)=.ok (.int t):=by rw[<-r];rfl
  rw[r];unfold sgn;by_cases p:0<t
  .simp[-zJ,n5,j9 (v9.of e j),j9 (v9.of f l),j9 (v9.of i m),p,o]
  by_cases n:t<0
  .simp[-zJ,n5,j9 (v9.of e j),j9 (v9.of f l),j9 (v9.of i m),p,n,o]
  simp[-zJ,n5,j9 (v9.of e j),j9 (v9.of f l),j9 (v9.of i m),p,n,o]
 cases h
def K0(j:QT K mg "NO_WAY" [0,0,0])(g:Z7 K mg "first_real_way" R3):u9 P w K mg base 1 "first_real_way" 1 A3:=by
 refine' l7 (F:=_) g kO (λo k p l=>?b) λm d q h=>?_
 case b=>
  refine' (b9 (B9 aAK rfl (o9<|c7 0) (j5 1 l)<|d5<|n6 (j1 (Y8 k) (b7 1)<|PD.pb<|xV j) (d5<|f6<|c7 1) j3)
   (d5<|f6 jC))
 match m,h with
 |[.lst Y],h=>
  erw[A3]at h;split at h
  .rename_i e i;rw[v5 i];rw[<-h];simp[n5];generalize Sl.v (D.lst<|aDx vd e)=a;generalize Sl.no=b;clear h i;induction e generalizing b with
   |nil=>rfl
   |cons v e n=>
    rw[aAm,G.B8];by_cases f:v=0
    .rw[O9 (ρ2:=[a,.v (vd v)]) rfl (by simp_all),n];simp[f]
    rw[lI (x:=vd v) rfl (by simp[-PX,ne0,f])];simp[f,HS]
  cases h
def J4(m9:u9 P w K mg base 1 "way_between" 2 l6)(K0:u9 P w K mg base 1 "first_real_way" 1 A3)(A6:u9 P w K mg base 1 "cross_of" 2 w5)(v7:u9 P w K mg base 1 "product_of" 2 n4)(bf:mg "len"=none)(O:mg "any"=none)(g:Z7 K mg "dimension_of" D1):u9 P w K mg base 2 "dimension_of" 1 D6:=by
 refine' l7 (k:=1) (F:=_) g pU (λz hu dc Q=>?b) λo d hl h=>?_
 case b=>
  refine' (b9 (n6 (j1 (M6 hu) (PD.pb<|vT M2<|b7 0) o5) (d5 nG) j3)
   (b9 (fT 1 ["P"] ["points"] [0] Q rfl (E9 (sc:=c8 D1) (N:=O8)) (o9<|c7 0) (HK λ_ _ _ _ _=>(U5 m9 z (e9 (b7 1) c6)<|c7 0))<|λ_=>u0)
   (b9 (i7 2 (vI K0 z<|c7 1) Q)
   (b9 (n6 (j1 IM (b7 2)<|PD.pb jC) (d5<|f6 c6) j3)
   (b9 (i7 3 (vI K0 z<|J9 ["way"] ["along"] [2] rfl (E9 (sc:=c8 D1) (N:=O8)) (o9<|c7 1) (HK λ_ _ _ _ _=>(U5 A6 z (c7 1)<|c7 0))<|λ_=>u0) Q)
   (b9 (n6 (j1 IM (b7 3)<|PD.pb jC) (d5<|f6 c6) j3)
   (b9 (n6 (R5<|vT (a3s rfl)<|PD.pb<|J9 ["way"] ["upright"] [3] rfl (E9 (sc:=c8 D1) (N:=O8)) (o9<|c7 1) (HK λ_ _ _ _ _=>(jL (Y8 hu) (PD.pb<|U5 v7 z (c7 1)<|c7 0) o5))<|λ_=>u0) (d5<|f6 c6) j3)
   (d5<|f6 c6))))))))
 match o,h with
 |[.lst Y],h=>
  erw[D6]at h;split at h
  .rename_i J l;rw[v5 l];split at h
   .rename_i hz;rw[<-h];let{ai,E}:=hz;match J,ai with
    |p::r,_=>
    obtain⟨a,f⟩:∃a,(p::r).map vd=a:={_,rfl};have i0:W7 (.lst a) (.int 0)=.ok (vd p):=eG (by rw[X4 (by decide),<-f];rfl);have H:w9 (λd e=>R.ok (aEi e 0<|Sl.v d)) (λx=>R.ok true) (λe=>(((BN 1 e).bind λx=>W7 x (D.int 0)).bind λd=>((Z6 0 e).bind λd=>R.ok [d]).bind λo=>R.ok (d::o)).bind l6) [.no,.v (.lst a)] a=.ok (((p::r).map (· -p)).map vd):=by rw[aAI];rw[show w9 _ _ _ _ a=w9 _ _ _ _ ((p::r).map vd)by rw[f]];show W9 vd _ _ λq m=>{[.v (vd q),Sl.v (.lst a)],rfl,?_};change((W7 (.lst a)<|.int 0).bind _).bind _=_;rw[i0];rfl
    have l:∀w∈(p::r).map (· -p),Sz 1001 w:=λw l=>by let{q,m,rfl}:=aAj.mp l;show(E.1 q m).sub (E.1 p (.head _))
    have I:(((p::r).map (· -p)).map vd).length<=sizeLine:=by rw[aAf,aAf];show small E.2
    have L:a.length<=sizeLine:=by rw[<-f,aAf];show small E.2
    have i:((a.length:Int)==0)=false:=by rw[<-f];simp;lia
    have t:=IL ((p::r).map (· -p));unfold G.V5;dsimp only;rw[f];generalize(p::r).map (· -p)=W at*
    have n:=λu=>IL (W.map<|G.cr u);cases T:G.B8 W with
    |none=>rw[T]at t;simp[n5,i8,L,i,H,t,HS,PL]
    |some s=>
     rw[T]at t;let{hm,_}:=G.v8 T;have A:=l s hm;have B:w9 (λd e=>R.ok (aEi e 0<|Sl.v d)) (λx=>R.ok true) (λe=>((Z6 1 e).bind λd=>((Z6 0 e).bind λd=>R.ok [d]).bind λo=>R.ok (d::o)).bind w5) [.no,.v (vd s)] (W.map vd)=.ok ((W.map<|G.cr s).map vd):=by rw[aAI];show W9 vd _ _ λq m=>{[.v (vd q),Sl.v (vd s)],rfl,?_};change w5 [vd s,vd q]=_;show S6 A.mono (l q m).mono
     have n:=IL (W.map<|G.cr s);have eW:(W.map vd).length=W.length:=aAf ..;rw[eW]at I;cases C:G.B8 (W.map<|G.cr s)with
     |none=>rw[C]at n;erw[aAI]at B n;erw[C];simp[n5,i8,L,i,H,t,HS,PL,I,B,n]
     |some j=>
      rw[C]at n;let{kg,_}:=G.v8 C;have U:Sz 2003 j:=by let{q,m,rfl}:=aAj.mp kg;show(A.cr<|l q m).mono
      have c3:w9 (λd e=>R.ok (aEi e 0<|Sl.v d)) (λx=>R.ok true) (λe=>(((Z6 1 e).bind λd=>((Z6 0 e).bind λd=>R.ok [d]).bind λo=>R.ok (d::o)).bind n4).bind λx=>LQ x (D.int 0)) [.no,.v (vd j)] (W.map vd)=.ok ((W.map λw=>decide (G.d6 j w≠0)).map D.bl):=by rw[aAI];show W9 vd _ _ λq m=>{[.v (vd q),Sl.v (vd j)],rfl,?_};change(n4 [vd j,vd q]).bind _=_;rw[aJ U.mono (l q m).mono,R.aa0,HI];congr 2;rw[aFb];simp
      have y:=a3a (W.map λw=>decide (G.d6 j w≠0));have ean:(W.map λw=>decide (G.d6 j w≠0)).any id=W.any λw=>decide (G.d6 j w≠0):=by rw[List.any_map];rfl
      rw[ean]at y;erw[aAI]at B n c3 y;erw[C];generalize(λw=>decide (G.d6 j w≠0))=Bf at*
      cases hc:W.any Bf with
      |false=>rw[hc]at y;simp[n5,i8,L,i,H,t,HS,PL,I,B,n,c3,y]
      |true=>rw[hc]at y;simp[n5,i8,L,i,H,t,HS,PL,I,B,n,c3,y]
   cases h
  cases h
def aN(J4:u9 P w K mg base 2 "dimension_of" 1 D6)(g:Z7 K mg "refuse_flat" bD):u9 P w K mg base 3 "refuse_flat" 1 G0:=by
 refine' l7 (F:=_) g sI (λf n o p=>?b) λi d q h=>?_
 case b=>refine' (d5<|n6 (j1 DW (PD.pb<|vI J4 f<|c7 0) o5) (d5 nG) j3)
 match i,h with
 |[.lst Y],h=>
  erw[G0]at h;split at h
  .rename_i J j;rw[v5 j];split at h
   .rename_i k;rw[<-h];let{l,a}:=k;have m:J≠[]:=λe=>by subst e;cases a
    have e:=UE m l;rw[a]at e;simp[n5,e]
   cases h
  cases h
def G9(lW:u9 P w K mg base 1 "side_of" 2 bP)(g:Z7 K mg "points_on" aM):u9 P w K mg base 2 "points_on" 2 A1:=by
 refine' l7 (F:=_) g yA (λj k n o=>?b) λf d p h=>?_
 case b=>refine' (d5<|f6<|J9 ["P"] ["plane"] [0] rfl (E9 (sc:=c8 aM) (N:=pA)) (o9<|c7 1) (hxt λ_ _ _ _ _=>{(j1 (M6 k) (PD.pb<|U5 lW j (c7 1)<|c7 0) o5),(c7 0)})<|λ_=>u0)
 replace h:=wq h;let{a,b,c,d,f,rfl,h}:=h;replace h:=mI h;let{Y,f,rfl,h}:=h;replace h:=u5 h;let{rfl,h}:=h
 skip
 split at h
 .rename_i J l;rw[v5 l];split at h
  .rename_i i;rw[<-h];have e:=gP vd (G:=λd ρ=>R.ok (aEi ρ 0<|Sl.v d)) (ft:=λρ=>((((Z6 1 ρ).bind λd=>((Z6 0 ρ).bind λd=>R.ok [d]).bind λf=>R.ok (d::f)).bind bP).bind λx=>ZB x (D.int 0)).bind OY) (fe:=Z6 0) (ρ:=[.no,.v (.tup [D.int a,D.int b,D.int c,D.int d])])
    (λX=>decide (G.d6 {a,b,c} X=d)) vd J λP m=>{[.v (vd P),Sl.v (D.tup [D.int a,D.int b,D.int c,D.int d])],rfl,by simp[ZO i.1.mono (i.2.1 P m).mono,a8x,G.d6];show decide_eq_decide.mpr (by lia),λ_=>rfl}
   simp[n5,i8,small i.2.2,e];rfl
  cases h
 cases h
def K9(m9:u9 P w K mg base 1 "way_between" 2 l6)(v7:u9 P w K mg base 1 "product_of" 2 n4)(A6:u9 P w K mg base 1 "cross_of" 2 w5)(T9:u9 P w K mg base 2 "plane_through" 3 T7)(U:QT K mg "NO_WAY" [0,0,0])(g:Z7 K mg "plane_about" aT):u9 P w K mg base 3 "plane_about" 2 F7:=by
 refine' l7 (k:=2) (F:=_) g tT (λr hu dc p=>?b) λI d hl h=>?_
 case b=>
  refine' (b9 (i7 2 (U5 m9 r (e9 (b7 0) c6)<|e9 (b7 0) c6) p)
   (b9 (i7 3 (xV U) p)
   (b9 (i7 4 (e9 (b7 0) c6) p)
   (b9 (B9 aAK rfl (o9<|c7 1) (j5 5 p) (b9 (i7 6 (U5 m9 r (e9 (b7 0) c6)<|c7 5) p)
   (d5 (n6 (zZ.pt<|U0 (j1 (M6 hu) (b7 3)<|PD.pb<|xV U)<|dF<|j1 iQ (PD.pb<|U5 v7 r (c7 3)<|c7 6) o5) (b9 (i7 3 (U5 A6 r (c7 2)<|c7 6) p)
   (d5<|i7 4 (c7 5) p)) j3))))
   (d5<|f6<|pc3 T9 r (e9 (b7 0) c6) (e9 (b7 0) c6)<|c7 4)))))
 replace h:=uI h;let{ys,I,rfl,h}:=h;replace h:=mI h;let{Y,I,rfl,h}:=h;replace h:=u5 h;let{rfl,h}:=h;replace h:=z8 h;let{a,b,c,ys,rfl,h}:=h;replace h:=z8 h;let{d,e,f,ys,rfl,h}:=h;replace h:=u5 h;let{rfl,h}:=h
 skip
 split at h
 .rename_i J hw;rw[v5 hw];split at h
  .rename_i hz;rw[<-h];let{q,E,hs,L}:=hz;have vA:(.tup [.int a,.int b,.int c]:D)=vd ⟨a,b,c⟩:=rfl;have vB:(.tup [.int d,.int e,.int f]:D)=vd ⟨d,e,f⟩:=rfl;rw[vA,vB];generalize({a,b,c}:G.V)=A at*
   generalize({d,e,f}:G.V)=B at*
   simp[n5];have z0:(.tup [.int 0,.int 0,.int 0]:D)=vd 0:=rfl;rw[z0];show bH (λrest N=>∃(j i:G.V) (l:List G.V) (x y:Sl),N=[.v (.tup [vd A,vd B]),.v (.lst (aDx vd J)),.v (vd<|B-A),.v (vd j),.v (vd i),x,y]/\rest=l.map vd/\Sz 2003 j/\Sz 1000 i/\(∀X∈l,Sz 1000 X)/\G.G7 (B-A) A l j i=G.G7 (B-A) A J 0 A) ?_ {0,A,J,_,_,rfl,rfl,{by decide,by decide,by decide},q,hs.1,rfl} ?_
   .rintro d I N ⟨j,i,l,x,y,rfl,s,O,Q,t,m⟩;match l,s with
    |P::l,s=>
     injection s with e3 e4;subst e3 e4;have T:=t P (.head _);have H:=T.sub q;have e0:=eq0 j;rw[show(.tup [.int 0,.int 0,.int 0]:D)=vd 0 from rfl]at e0;have c1:=S6 (u:=B-A) (v:=P-A) (E.sub q).mono H.mono;have p1:=aJ (u:=j) (v:=P-A) O.mono H.mono;have w1:=mQ A P;have i0:W7 (.tup [vd A,vd B]) (.int 0)=.ok (vd A):=rfl
     conv at m=>lhs;unfold G.G7
     erw[jF,aCP,aCQ,qZ,AU,oN,kI,R.aa0,i0,w1,F4,e0,wQ,p1,yK];by_cases n:j=0
     .rw[kc (.inl n)]at m;show{_,?_,G.cr (B-A) (P-A),P,l,.v (vd P),.v (vd<|P-A),rfl,rfl,(((E.sub q).cr H).mono),T,λX C=>t X (.tail _ C),m};rw[decide_eq_true n];erw[if_true,R.aa0,c1,F4,aCP,aCQ,oN,kI]
     rw[decide_eq_false n];by_cases o:0<G.d6 j (P-A)
     .rw[kc (.inr o)]at m;show{_,?_,G.cr (B-A) (P-A),P,l,.v (vd P),.v (vd<|P-A),rfl,rfl,(((E.sub q).cr H).mono),T,λX C=>t X (.tail _ C),m};rw[decide_eq_true o];erw[if_true,aAC,if_false,R.aa0,c1,F4,aCP,aCQ,oN,kI]
     rw[kd (λz=>z.elim n o)]at m;show{_,?_,j,i,l,.v (vd P),.v (vd<|P-A),rfl,rfl,O,Q,λX C=>t X (.tail _ C),m};rw[decide_eq_false o];erw[aAC,if_false,R.aa0]
   rintro N ⟨j,i,l,x,y,rfl,s,O,Q,t,m⟩;have:l=[]:=by simpa using s.symm
   subst this;have m:(j,i)=G.G7 (B-A) A J 0 A:=m;have eo:(G.G7 (B-A) A J 0 A).2=i:=by rw[<-m]
   unfold G.b8 at L⊢;rw[eo]at L⊢;have pl:=QY {q,E,Q} (qy L);simp[pl]
  cases h
 cases h
def bY(G9:u9 P w K mg base 2 "points_on" 2 A1)(K9:u9 P w K mg base 3 "plane_about" 2 F7)(J4:u9 P w K mg base 2 "dimension_of" 1 D6)(md:mg "min"=none)(g:Z7 K mg "first_pair" cO):u9 P w K mg base 8 "first_pair" 1 K1:=by
 refine' l7 (k:=7) (F:=_) g vO (λf z dc l=>?b) λA d hl h=>?_
 case b=>
  have o:=f.ae0 (by decide);refine' (b9 (i7 1 (fI (YJ rfl o)<|u8 (b7 0) y9) l)
   (b9 (i7 2 (vK (c7 1)<|jP (e9 (b7 1) c6) (e9 (b7 1) c6)<|c5 n9 (PD.pb<|e9 (b7 1) c6) o5) l)
   (b9 (i7 3 (U5 G9 f (U5 K9 f (c7 2)<|c7 0)<|c7 0) l)
   (b9 (n6 (j1 (M6 z) (PD.pb<|vI J4 f<|c7 3) o5) (d5<|f6<|c7 2) j3)
   (d5<|f6<|vK (e9 (b7 3) c6)<|e9 (b7 3) c6)))))
 match A,h with
 |[.lst Y],h=>
  erw[K1]at h;split at h
  .rename_i m J B;rw[v5 B];split at h
   .rename_i a;rw[<-h];have u:=a3y a.good.ord;have i:bG 1000 (m::J):=a.sz.mono;have j:Sz 900 m:=a.sz.1 m (.head _);let{C,E,H,I,N}:=G.CG a.good.solid a.good.mem a.good.least;have p:=Y0 j.mono (SF j) i C;have q:=DE j.mono (SF j) i;rw[a6t]at p;have v:=kS (d:=(G.b8 m (m+G.kk) (m::J)).2) q.mono i;let{x,y,r,e}:=WG E I N;have O:=QN (n:=(G.b8 m (m+G.kk) (m::J)).1) (d:=(G.b8 m (m+G.kk) (m::J)).2) i;have s:=UE (J:=G.z7 (G.b8 m (m+G.kk) (m::J)).1 (G.b8 m (m+G.kk) (m::J)).2 (m::J)) (by rw[e];simp) O;have Q:W7 (.lst ((G.z7 (G.b8 m (m+G.kk) (m::J)).1 (G.b8 m (m+G.kk) (m::J)).2 (m::J)).map vd)) (.int 0)=.ok (vd x):=eG (by rw[e];show a5w _ _);have T:W7 (.lst ((G.z7 (G.b8 m (m+G.kk) (m::J)).1 (G.b8 m (m+G.kk) (m::J)).2 (m::J)).map vd)) (.int 1)=.ok (vd y):=eG (by rw[e];show a6n _ _ _);unfold G.i4;dsimp only;by_cases t:G.V5 (G.z7 (G.b8 m (m+G.kk) (m::J)).1 (G.b8 m (m+G.kk) (m::J)).2 (m::J))=2
    .rw[kc t];rw[t]at s;generalize(m::J).map vd=L at*
     generalize(G.z7 (G.b8 m (m+G.kk) (m::J)).1 (G.b8 m (m+G.kk) (m::J)).2 (m::J)).map vd=L2 at*
     generalize(G.b8 m (m+G.kk) (m::J)).1=pn at*
     generalize(G.b8 m (m+G.kk) (m::J)).2=U at*
     simp[n5,u,p,v,s,G.kk]
    rw[kd t];have e0:(G.z7 (G.b8 m (m+G.kk) (m::J)).1 (G.b8 m (m+G.kk) (m::J)).2 (m::J)).getD 0 0=x:=by rw[e];rfl
    have e1:(G.z7 (G.b8 m (m+G.kk) (m::J)).1 (G.b8 m (m+G.kk) (m::J)).2 (m::J)).getD 1 0=y:=by rw[e];rfl
    rw[e0,e1];have hb:((G.V5 (G.z7 (G.b8 m (m+G.kk) (m::J)).1 (G.b8 m (m+G.kk) (m::J)).2 (m::J)):Int)==2)=false:=by rw[beq_eq_false_iff_ne];lia
    generalize(m::J).map vd=L at*
    generalize(G.z7 (G.b8 m (m+G.kk) (m::J)).1 (G.b8 m (m+G.kk) (m::J)).2 (m::J)).map vd=L2 at*
    generalize(G.V5 (G.z7 (G.b8 m (m+G.kk) (m::J)).1 (G.b8 m (m+G.kk) (m::J)).2 (m::J)):Int)=dd at*
    generalize(G.b8 m (m+G.kk) (m::J)).1=pn at*
    generalize(G.b8 m (m+G.kk) (m::J)).2=U at*
    simp[n5,u,p,v,s,hb,Q,T]
   cases h
  cases h
def nN(v7:u9 P w K mg base 1 "product_of" 2 n4)(A6:u9 P w K mg base 1 "cross_of" 2 w5)(m9:u9 P w K mg base 1 "way_between" 2 l6)(g:Z7 K mg "turn_of" lT):u9 P w K mg base 2 "turn_of" 4 gT:=by
 refine' l7 (F:=_) g HX (λm A B C=>?b) λn d E h=>?_
 case b=>refine' (d5<|f6<|U5 v7 m (c7 0)<|U5 A6 m (U5 m9 m (c7 1)<|c7 2)<|U5 m9 m (c7 2)<|c7 3)
 replace h:=z8 h;let{a,b,c,n,rfl,h}:=h;replace h:=z8 h;let{d,e,f,n,rfl,h}:=h;replace h:=z8 h;let{g,o,i,n,rfl,h}:=h;replace h:=z8 h;let{j,k,l,n,rfl,h}:=h;replace h:=u5 h;let{rfl,h}:=h
 skip
 split at h
 .rename_i y;let{p,q,r,s}:=y;rw[<-h];have t:=S6 (u:={g,o,i}-{d,e,f}) (v:={j,k,l}-{g,o,i}) (r.sub q).mono (s.sub r).mono;have x:=aJ p.mono ((r.sub q).cr (s.sub r)).mono;erw[vd,G.QS,G.TF,G.QL,G.a7m,G.a4u,G.a7l]at t x;have z:∀a b c d e f:Int,l6 [.tup [.int a,.int b,.int c],.tup [.int d,.int e,.int f]]=.ok (.tup [.int (d-a),.int (e-b),.int (f-c)]):=λ_ _ _ _ _ _=>rfl;simp[n5,z,t,x,G.turn,G.i9]
 cases h
def V9(nN:u9 P w K mg base 2 "turn_of" 4 gT)(bf:mg "len"=none)(g:Z7 K mg "left_chain" cK):u9 P w K mg base 3 "left_chain" 2 V2:=by
 refine' l7 (k:=2) (F:=_) g uQ (λhr hu dc T=>?b) λj d I h=>?_
 case b=>
  refine' (b9 (aH 2 (fU o8) T)
   (b9 (B9 aAK rfl (o9<|c7 1) (j5 3 T) (b9 (gF (λ_=>1001) aAK (zZ.pt<|qK (j1 iQ (PD.pb<|vT M2<|b7 2) o5)<|kQ<|j1 yx (PD.pb<|pc4 nN hr (c7 0) (e9 (b7 2)<|uL c6) (e9 (b7 2)<|uL c6)<|c7 3) o5)<|d5<|oq 2)
   (d5<|L9 2<|c7 3)))
   (d5<|kC 2<|f6<|c7 2)))
 replace h:=z8 h;let{a,b,c,j,rfl,h}:=h;replace h:=mI h;let{Y,j,rfl,h}:=h;replace h:=u5 h;let{rfl,h}:=h
 skip
 split at h
 .rename_i J hw;rw[v5 hw];split at h
  .rename_i L;rw[<-h];let{U,hs}:=L;have vn:(.tup [.int a,.int b,.int c]:D)=vd ⟨a,b,c⟩:=rfl;rw[vn];generalize({a,b,c}:G.V)=n at*
   simp[n5];show bH (λrest ρ=>∃(c i:List G.V) (x:Sl),ρ=[.v (vd n),.v (.lst (aDx vd J)),.o (c.reverse.map vd),x]/\rest=i.map vd/\(∀X∈c,Sz 1000 X)/\(∀X∈i,Sz 1000 X)/\c.length+i.length<=1000/\i.foldl (λc P=>P::G.Z5 n P c) c=G.x9 n J) ?_ {[],J,_,rfl,rfl,λX l=>by(cases l),hs.1,by simpa using hs.2,rfl} ?_
   .rintro d j ρ ⟨c,i,x,rfl,t,sc,N,I,u⟩;match i,t with
    |P::i,t=>
     injection t with e3 e4;subst e3 e4;have O:=N P (.head _);erw[aAp]at I;erw[jF,aCP,aCQ];show Exists.elim (uF (n:=1001) (ρ:=[.v (vd n),.v (.lst (aDx vd J)),.o (c.reverse.map vd),.v (vd P)]) (Post:=λρ=>∃e,ρ=[.v (vd n),.v (.lst (aDx vd J)),.o (e.reverse.map vd),.v (vd P)]/\(∀X∈e,Sz 1000 X)/\e.length<=c.length/\e=G.Z5 n P c)
      (c:=AQ (λρ=>((((BN 2 ρ).bind λd=>R.ok [d]).bind kR).bind λx=>gtR x (D.int 1)).bind OY) λρ=>((((Z6 0 ρ).bind λd=>(((BN 2 ρ).bind λx=>W7 x (D.int (-2))).bind λd=>(((BN 2 ρ).bind λx=>W7 x (D.int (-1))).bind λd=>((Z6 3 ρ).bind λd=>R.ok [d]).bind λj=>R.ok (d::j)).bind λj=>R.ok (d::j)).bind λj=>R.ok (d::j)).bind gT).bind λx=>leR x (D.int 0)).bind OY) (F:=λρ=>(HL 2 ρ).bind λz=>R.ok (Out.nx z.snd))
      (λm ρ=>∃e,ρ=[.v (vd n),.v (.lst (aDx vd J)),.o (e.reverse.map vd),.v (vd P)]/\(∀X∈e,Sz 1000 X)/\e.length<=c.length/\e.length<m/\G.Z5 n P e=G.Z5 n P c) ?_ (by rintro ρ ⟨e,_,_,_,h,_⟩;lia) {c,rfl,sc,aAh _,by lia,rfl} ?_) ?_
     .rintro m ρ ⟨e,rfl,sub,p,q,f⟩;match e,sub,p,q,f with
      |[],_,_,_,_=>show .inl (by simp)
      |[a],_,_,_,_=>show .inl (by simp)
      |b::a::r,sub,p,q,f=>
       have s:(b::a::r).reverse.map vd=r.reverse.map vd++[vd a,vd b]:=by simp
       have A:W7 (.lst ((b::a::r).reverse.map vd)) (.int (-1))=.ok (vd b):=eG (by rw[s];show uj _ _ _);have B:W7 (.lst ((b::a::r).reverse.map vd)) (.int (-2))=.ok (vd a):=eG (by rw[s];show yk _ _ _);have C:=KP U (sub a<|.tail _ (.head _)) (sub b<|.head _) O;have E:(1:Int)<(aDx vd (b::a::r).reverse).length:=by rw[aAf,aCf];simp;lia
       by_cases Q:G.turn n a b P<=0
       .show .inr {?_,[.v (vd n),.v (.lst (aDx vd J)),.o ((a::r).reverse.map vd),.v (vd P)],?_,a::r,rfl,λX l=>sub X (.tail _ l),?_,?_,?_}
        .erw[yY,qZ,EN,R.aa0,GC,yK,decide_eq_true E,wQ,if_true,kI,oN,A,B,C,GK,decide_eq_true Q]
        .change(match(aDx vd (b::a::r).reverse)[(aDx vd (b::a::r).reverse).length-1]? with|some d=>_|none=>_:R (D×Ev)).bind _=_;rw[s];simp
        .erw[aAp]at p⊢;lia
        .erw[aAp]at q⊢;lia
        rw[<-f]
        conv=>rhs;unfold G.Z5
        rw[kc Q]
       show .inl ?_;erw[yY,qZ,EN,R.aa0,GC,yK,decide_eq_true E,wQ,if_true,kI,oN,A,B,C,GK,decide_eq_false Q]
     .rintro m ρ ⟨e,rfl,sub,p,q,f⟩ H;show{e,rfl,sub,p,?_};match e,sub,p,q,f,H with
      |[],_,_,_,f,_=>show f
      |[a],_,_,_,f,_=>show f
      |b::a::r,sub,p,q,f,H=>
       have s:(b::a::r).reverse.map vd=r.reverse.map vd++[vd a,vd b]:=by simp
       have A:W7 (.lst ((b::a::r).reverse.map vd)) (.int (-1))=.ok (vd b):=eG (by rw[s];show uj _ _ _);have B:W7 (.lst ((b::a::r).reverse.map vd)) (.int (-2))=.ok (vd a):=eG (by rw[s];show yk _ _ _);have C:=KP U (sub a<|.tail _ (.head _)) (sub b<|.head _) O;have E:(1:Int)<(aDx vd (b::a::r).reverse).length:=by rw[aAf,aCf];simp;lia
       erw[yY,qZ,EN,R.aa0,GC,yK,decide_eq_true E,wQ,if_true,kI,oN,A,B,C,GK,WY,decide_eq_false_iff_not]at H;rw[<-f]
       conv=>rhs;unfold G.Z5
       rw[kd H]
     rintro ρ2 ⟨ew,e,rfl,sub,p,y⟩;show{[.v (vd n),.v (.lst (aDx vd J)),.o ((P::e).reverse.map vd),.v (vd P)],?_,P::e,i,_,rfl,rfl,?_,λX l=>N X (.tail _ l),?_,?_}
     .rw[ew];have L:(aDx vd e.reverse).length<sizeLine:=by rw[aAf,aCf];show aCK (show e.length<=1000 by lia) (by decide)
      erw[F4,oN,kI,R.aa0];change(if(aDx vd e.reverse).length<sizeLine then _ else _)=_;rw[kc L];simp
     .intro X l;rcases aAi.mp l with rfl|l
      .show O
      show sub X l
     .simp;lia
     rw[<-u,List.foldl_cons,y]
   rintro ρ ⟨c,i,x,rfl,t,sc,N,I,u⟩;have:i=[]:=by simpa using t.symm
   subst this;have u:c=G.x9 n J:=u;subst u;simp[EY]
  cases h
 cases h
def mV(V9:u9 P w K mg base 3 "left_chain" 2 V2)(v:mg "list"=none)(x:mg "reversed"=none)(g:Z7 K mg "ring_of" nH):u9 P w K mg base 4 "ring_of" 2 W6:=by
 refine' l7 (k:=3) (F:=_) g GG (λf y z i=>?b) λj d A h=>?_
 case b=>
  refine' (b9 (i7 2 (U5 V9 f (c7 0)<|c7 1) i)
   (b9 (i7 3 (U5 V9 f (c7 0)<|PF.pd<|GD (b7 1) rfl) i)
   (d5<|f6<|c5 n9 (PD.pb<|kK (b7 2) Z1<|J1<|uL c6)<|PD.pb<|kK (b7 3) Z1<|J1<|uL c6)))
 replace h:=z8 h;let{a,b,c,j,rfl,h}:=h;replace h:=mI h;let{Y,j,rfl,h}:=h;replace h:=u5 h;let{rfl,h}:=h
 skip
 split at h
 .rename_i J m;rw[v5 m];split at h
  .rename_i o;rw[<-h];let{l,e}:=o;have p:(.tup [.int a,.int b,.int c]:D)=vd ⟨a,b,c⟩:=rfl;rw[p];generalize({a,b,c}:G.V)=n at*
   have q:=zj l e;have r:bG 1000 J.reverse:=e.sub (λP s=>by simpa using s) (by simp);have l2:=zj l r;rw[aFV]at l2;have B:=wR n J;have t:=wR n J.reverse;rw[aCf]at t;have u:pS (.lst ((G.x9 n J).reverse.map vd).dropLast) (.lst ((G.x9 n J.reverse).reverse.map vd).dropLast)=.ok (.lst ((G.l9 n J).map vd)):=by rw[qI (by erw[List.length_dropLast,aAf,aCf];show aAn (show _<=2000 by have:=e.2;lia) (by decide))];unfold G.l9;grind
   simp[-aFV,n5,q,l2,YY,u,a6q]
  cases h
 cases h
def aQ(l:mg "list"=none)(m:mg "zip"=none)(g:Z7 K mg "pairs_round" aU):u9 P w K mg base 1 "pairs_round" 1 A2:=by
 refine' l7 (k:=0) (F:=_) g tJ (λn o p q=>?b) λf d r h=>?_
 case b=>refine' (d5<|f6<|PF.pd<|II (b7 0) (PD.pb<|c5 n9 (PD.pb<|kK (b7 0) (J1 c6) Z1)<|PD.pb<|kK (b7 0) Z1<|J1 c6) rfl)
 match f,h with
 |[.lst Y],h=>
  erw[A2]at h;split at h
  .rename_i J i;rw[v5 i];split at h
   .rename_i s;rw[<-h];have j:pS (.lst (J.map vd).tail) (.lst ((J.map vd).take 1))=.ok (.lst ((J.tail++J.take 1).map vd)):=by
     rw[qI (by simp;show RF (by lia))]
     simp_all
    have a:(J.map vd).length=((J.tail++J.take 1).map vd).length:=by grind
    have e:YO [.lst (J.map vd),.lst ((J.tail++J.take 1).map vd)]=.ok ((G.T8 J).map K7):=by change(if _ then _ else _)=_;rw[kc a,xF (β:=Unit)];rfl
    simp[-aBX,-List.map_tail,-List.map_take,n5,ZR,a2t,j,e]
   cases h
  cases h
def cP(K9:u9 P w K mg base 3 "plane_about" 2 F7)(mV:u9 P w K mg base 4 "ring_of" 2 W6)(aQ:u9 P w K mg base 1 "pairs_round" 1 A2)(B:mg "len"=none)(C:mg "sorted"=none)(g:Z7 K mg "faces_from" bZ):cx P w K mg base 8 3 "faces_from" K3:=by
 let{f,I,q,l}:=g;refine' rj (k:=7) (F:=_) l iM rfl (l.binds λ_ _ _ _ _ _ r t=>match r,t with|[_,_,_],_=>rfl) q (λT A e s H E a=>?hb) ?hm
 case hb=>
  have L:=a.units;have n:=a.ad8;have i:=a.ae0 (by decide);have b:=iM.nd;refine' (b9 (aH 3 (fU o8) b)
   (b9 (VT 4 b)
   (b9 (aH 5 (fU<|f7 (c7 0) o8) b)
   (b9 (gF (λ_=>5000) aAK (j1 iQ (PD.pb<|vT M2<|b7 5) o5) (b9 (FR 6 5 b)
   (d5 (n6 (OH 4 (c7 6) n) (b9 (i7 7 (U5 K9 a (c7 6) (BF 1 (k:=3) (Φ:=OX P w K mg base 3 1) rfl (f7 (e9 (b7 6) c6) o8) (x5 S9) (a.mono (by decide)))) b)
   (b9 (i7 8 (U5 mV a (kK (b7 7) Z1<|J1 c6) (BF 2 (k:=3) (Φ:=OX P w K mg base 3 1) rfl (f7 (c7 7) o8) (x5 S9) (a.mono (by decide)))) b)
   (b9 (L9 3<|vK (c7 7)<|c7 8)
   (d5 (B9 aAK rfl (o9<|vI aQ a<|c7 8) (j5 9 b) (b9 (GJ 4 Y6 (c7 9) n)
   (d5<|L9 5<|vK (e9 (b7 9) c6)<|e9 (b7 9) c6))))))) j3))))
   (d5<|f6<|PF.pd<|GO (b7 3) rfl i)))))
 case hm=>
  intro d N O Q h;erw[K3]at h;split at h
  .rename_i Y u;split at h
   .rename_i m J v;split at h
    .rename_i j;rw[<-h];let{j,x,y,o,p}:=j;rw[v5 v]at o p;subst y o p;have z:(1:Nat)<=sizeLine:=by decide
     erw[mG,kI,kN,qH,R.aa0,aAp,aBV,aDX,z,if_true,F4];show a5v (Φ:=OX P w K mg base 3 1) j x
    cases h
   cases h
  cases h
def wX:Nst:={"about",IS,C9 fV,t7 fV,c8 fV,KT fV,["corner"],[],["spread"],[1],(λa=>(Z6 1 a).bind λd=>.ok (.rt d)),X5,2}
def fF:Nst:={"touched_by",kA,C9 L4,t7 L4,c8 L4,KT L4,["plane"],[],["spread"],[1],(λa=>((t6 (Z6 0) (t6 (Z6 1) S8) a).bind A1).bind λd=>.ok (.rt d)),R1,3}
def MO{f:ba}{T:au}{A:bM}{a:List Env}{s:aL}{H:Hp}{E:XK}:NstOk (TR P w K mg base jG "faces_of" (c8 M3) f T A a s H E) 2 wX where
 sc:={rfl,rfl,rfl,by decide+kernel,by decide+kernel,by decide+kernel,λx h=>JB h,by decide+kernel}
 one:=rfl
 body:=λt k e A a s H l=>by have u:=l.units;show(d5<|f6<|c7 1)
 mm:=by
  intro m n d b g h;match m,n,b,g,h with
  |[_],[_],_,_,h=>cases h;rfl
 bind:=λe o v k p q r=>match q,r with|[_],_=>rfl
 len:=rfl
 at_:=λi j x b g=>match i,b,g with
  |0,b,g=>by obtain rfl:1=j:=Option.some.inj b;obtain rfl:("spread":Str)=x:=Option.some.inj g;show{rfl,rfl}
  |i+1,b,_=>nomatch(show(none:Option Nat)=some j from b)
 d0:=rfl
 k0:=rfl
 nm:=rfl
 lc:=.inl rfl
 st:=.inl rfl
 dbg:=by decide
 cdt:=by decide
def rJ(G9:u9 P w K mg base 2 "points_on" 2 A1){f:ba}{T:au}{A:bM}{a:List Env}{s:aL}{H:Hp}{E:XK}:NstOk (TR P w K mg base jG "faces_of" (c8 M3) f T A a s H E) 2 fF where
 sc:={rfl,rfl,rfl,by decide+kernel,by decide+kernel,by decide+kernel,λx h=>JB h,by decide+kernel}
 one:=rfl
 body:=λy m g A a s H l=>by have z:=l.units;show(d5<|f6<|U5 G9 l (c7 0)<|c7 1)
 mm:=by
  intro n o d b k h;match n,o,b,k,h with
  |[w],[p],_,_,h=>have h:A1 [p,w]=.ok d:=h;change G8 (((t6 (Z6 0) (t6 (Z6 1) S8) [.v p,.v w]).bind A1).bind λd=>.ok (.rt d))=.ok d;have e:t6 (Z6 0) (t6 (Z6 1) S8) [.v p,.v w]=.ok [p,w]:=rfl;rw[e,R.aa0,h];rfl
 bind:=λg q B m r t u=>match t,u with|[_],_=>rfl
 len:=rfl
 at_:=λi j x b k=>match i,b,k with
  |0,b,k=>by obtain rfl:1=j:=Option.some.inj b;obtain rfl:("spread":Str)=x:=Option.some.inj k;show{rfl,rfl}
  |i+1,b,_=>nomatch(b)
 d0:=rfl
 k0:=rfl
 nm:=rfl
 lc:=.inl rfl
 st:=.inl rfl
 dbg:=by decide
 cdt:=by decide
def X7{p:ba}(G9:u9 P w K mg base 2 "points_on" 2 A1)(aN:u9 P w K mg base 3 "refuse_flat" 1 G0)(bY:u9 P w K mg base 8 "first_pair" 1 K1)(cP:cx P w K mg base 8 3 "faces_from" K3)(bg:mg "sorted"=none)(me:mg "set"=none)(N:jW mg base)(i:(p,tbK)∈Tabs.tbs)(g:a4w K mg "faces_of" M3 p):u9 P w K mg base 9 "faces_of" 1 Q1:=by
 let{f,fd,cd,O,Q,q}:=g;refine' gy (F:=_) q oP (q.fn.binds λ_ _ _ _ _ _ T t=>match T,t with|[_],_=>rfl) O (λA j s H E a=>?hb) ?hm
 case hb=>
  have hu:=a.units;have dc:=a.ad8;have u:=oP.nd;refine' (b9 (SQ<|vI aN a<|c7 0)
   (b9 (i7 1 (PF.pd (cR (b7 0) rfl (a.ae0 (by decide)))) u)
   (IJ (n1:=wX) (n2:=fF) (clos2:=[("spread",s.heap.objs.size+1)]) (tb:=tbK) MO (rJ G9) ?co1 ?co2 ?hA N rfl Q i (by decide+kernel) (by decide+kernel) (by decide+kernel) (by decide+kernel) (by decide) u cP (a.mono (by decide)) (vI bY a<|c7 1) (λ_=>rfl))))
  case co1=>show{rfl,rfl,rfl,λx c h=>h,λx k=>{_,by obtain rfl:x= "spread":=aAT.mp k;rfl}}
  case co2=>show{rfl,rfl,rfl,λx c h=>h,λx k=>{_,by obtain rfl:x= "spread":=aAT.mp k;rfl}}
  case hA=>show ML
 case hm=>
  intro l d t h;match l,h with
  |[.lst Y],h=>
   erw[Q1]at h;split at h
   .rename_i J U;rw[v5 U];split at h
    .rename_i hz;rw[<-h];let{y,z,B}:=hz;let{m,r,e,L}:=cN y z (by lia);have o:=QF (J:=J) (by lia);rw[e]at B o⊢;have C:=a7u L;have I:=a3u L B;obtain⟨b,eL⟩:∃b,(m::r).map vd=b:={_,rfl};rw[eL]at o C I;change G8 (C1 ((G0 [D.lst (J.map vd)]).bind λ_=>R.ok (Out.nx [.v (.lst (J.map vd)),.no,.no,.no])) _)=_;rw[(jz (y.mono (n:=1000)) z),R.aa0,F4];change G8 (C1 (((ssR<|.lst (J.map vd)).bind λl=>R.ok (D.lst l)).bind λd=>R.ok (Out.nx [.v (.lst (J.map vd)),.v d,.no,.no])) _)=_;rw[o,R.aa0,R.aa0,F4];change G8 (((K1 [D.lst b]).bind λd1=>(R.ok [D.lst b]).bind λw1=>(R.ok [D.lst b]).bind λw2=>K3 d1 (X5 w1) (R1 w2)).bind λd=>R.ok (Out.rt d))=_;rw[C,R.aa0,R.aa0,R.aa0,I];rfl
    cases h
   cases h
def cG(p:mg "sorted"=none)(q:mg "set"=none)(g:Z7 K mg "corners_in" dE):u9 P w K mg base 8 "corners_in" 1 K5:=by
 refine' l7 (k:=7) (F:=_) g vJ (λj r s f=>?b) λl d t h=>?_
 case b=>
  refine' (b9 (aH 1 (fU o8) f)
   (b9 (B9 aAK rfl (o9<|c7 0) (U7 (n:=2) rfl<|q8 (j5 2 f)<|q8 (j5 3 f) N8)<|d5<|rM 1<|c7 3)
   (d5 (f6 (PF.pd (cR (b7 1) rfl (j.ae0 (by decide))))))))
 match l,h with
 |[.lst Y],h=>
  erw[K5]at h;split at h
  .rename_i m o;split at h
   .rename_i i;rw[<-h];let{u,x,e}:=oR (a:=Sl.v (D.lst Y)) Y m [] Sl.no Sl.no o (by simpa using i.1);rw[aEF,aDd]at e;simp[n5,-List.map_flatten,e,(QF i.2)]
   cases h
  cases h
def mJ(cG:u9 P w K mg base 8 "corners_in" 1 K5)(X7:u9 P w K mg base 9 "faces_of" 1 Q1)(g:Z7 K mg "body_of" mZ):u9 P w K mg base 10 "body_of" 1 bV:=by
 refine' l7 (k:=9) (F:=_) g GE (λf q s t=>?b) λl d u h=>?_
 case b=>refine' (d5<|f6<|vI cG f<|vI X7 f<|c7 0)
 match l,h with
 |[.lst Y],h=>
  erw[bV]at h;split at h
  .rename_i J n;rw[v5 n];split at h
   .rename_i o;rw[<-h];let{i,j,a}:=o;let{m,r,e,L}:=cN i j (by lia);have p:=DN i j a;have v:((p9<|f8 J).flatMap (G.j0<|f8 J)).length<=200/\(f8<|(p9<|f8 J).flatMap (G.j0<|f8 J)).length<=14:=by rw[e]at a⊢;show wN L a
    simp[n5,p,(HR (J:=f8 J) (fs:=p9 (f8 J)) (by lia) (by lia)),F6]
   cases h
  cases h
end
section
variable [Tabs]
variable{P:be}{w:cf}{K:kn}{mg:eU}{base:ck}
def aX(D3:u9 P w K mg base 1 "common_divisor" 1 wI)(g:Z7 K mg "fraction_of" aO):u9 P w K mg base 2 "fraction_of" 2 GU:=by
 refine' l7 (k:=1) (F:=_) g tU (λf n o i=>?b) λe d p h=>?_
 case b=>
  refine' (b9 (i7 2 (vI D3 f<|vK (c7 0)<|c7 1) i)
   (d5<|f6<|vK (c5 p5 (b7 0)<|b7 2)<|c5 p5 (b7 1)<|b7 2))
 replace h:=M1 h;let{a,e,rfl,h}:=h;replace h:=M1 h;let{b,e,rfl,h}:=h;replace h:=u5 h;let{rfl,h}:=h;replace h:=P1 h;let{j,rfl}:=h;let{l,m}:=QJ j;show f9 (j8 (QA [a,b]) rfl) (kH<|j8 (B4 l<|B4 m rfl) rfl)
def fS(cb:mg "range"=none)(bf:mg "len"=none)(g:Z7 K mg "wedges_in" aK):u9 P w K mg base 1 "wedges_in" 1 jT:=by
 refine' l7 (k:=0) (F:=_) g zO (λhr Q dc f=>?b) λL d hl h=>?_
 case b=>
  refine' (b9 (i7 1 (e9 (PD.pb<|e9 (PD.pb<|e9 (b7 0) c6) c6) c6) f)
   (b9 (aH 2 (fU o8) f)
   (b9 (B9 aAK rfl (o9<|c7 0) (U7 (n:=2) rfl<|q8 (j5 3 f)<|q8 (j5 4 f) N8)<|d5<|n6 (j1 (AW Q) (b7 1)<|b7 4) (d5<|rM 2<|J9 ["k"] ["apex", "ring"] [1,4] rfl (E9 (sc:=c8 aK) (N:=oM)) (K4<|u8 o5<|u8 (PD.pb<|c5 u3 (PD.pb<|vT M2<|b7 4) o5) y9) (HK λ_ _ _ _ _=>(tM<|f7 (e9 (b7 2)<|c7 0)<|f7 (e9 (b7 2) c6)<|f7 (e9 (b7 2)<|c5 n9 (b7 0) o5)<|f7 (c7 1) o8))<|λ_=>u0) j3)
   (d5<|kC 2<|f6<|c7 2))))
 replace h:=cA h;let{l,L,rfl,h}:=h;replace h:=u5 h;let{rfl,h}:=h;replace h:=P1 h;let{{T,h2,r},rfl}:=h;obtain⟨s,l0,t⟩:∃p u,l=p::u:=by
  cases l with
  |nil=>show absurd rfl T
  |cons p u=>show{p,u,rfl}
 have p3:=(r s (by rw[t];show .head _)).1;have U:W7 (.lst (s.2.map vd)) (.int 0)=.ok (vd<|oQ l):=by rw[t];show uC (i:=0) (getD_at (by lia))
 have ll:=BA (oQ l) l λp Y=>(r p Y).2.1;have iA:W7 (PC l) (.int 0)=.ok (fR s):=by rw[t];show eG (by rw[X4 (by lia)];rfl)
 generalize oQ l=A at*
 show f9 (j8 (j8 (j8 iA rfl) U) rfl) ?_;show f9 rfl ?_;show GT (x:=l.map fR) rfl ?_;show bH (λrest y=>∃z C B l2,y=[.v (PC l),.v (vd A),.o (B.map w4),z,C]/\rest=l2.map fR/\B++Z8 A l2=Z8 A l/\∀p∈l2,p∈l) ?_ {_,_,[],l,rfl,rfl,rfl,λ_ h=>h} ?_
 .rintro d L y ⟨z,C,B,l2,rfl,j,e,E⟩;cases l2 with
  |nil=>cases j
  |cons p l2=>
   injection j with e3 e4;subst e3 e4;have ew:Z8 A (p::l2)=(if A∈p.2 then[]else pV A p.2)++Z8 A l2:=aEp;rw[ew]at e;let{q1,q2,q3}:=r p (E p<|.head _);have O:∀q∈l2,q∈l:=λq hq=>E q (.tail _ hq);show a6s rfl ?_;by_cases m:A∈p.2
   .have H:inR true (vd A) (.lst (p.2.map vd))=.ok (.bl false):=by rw[nC,decide_eq_false (λn=>n m)]
    rw[kc m,aDd]at e;show{_,L6 (j8 H rfl),_,_,B,l2,rfl,rfl,e,O}
   have H:inR true (vd A) (.lst (p.2.map vd))=.ok (.bl true):=by rw[nC,decide_eq_true m]
   rw[kd m,<-aEu]at e;have rg:fO [.int 1,.int ((p.2.length:Int)-1)]=.ok ((aDW 1<|p.2.length-1-1).map λ(k:Nat)=>D.int (k:Int)):=by have:=a9a (a:=1) (b:=p.2.length-1) (by lia) (by lia);rw[show((p.2.length-1:Nat):Int)=(p.2.length:Int)-1 by lia]at this;show this
   have lr:kR [.lst (p.2.map vd)]=.ok (.int (p.2.length:Int)):=by erw[kR,aAf]
   have I:∀k:Nat,k<p.2.length->W7 (.lst (p.2.map vd)) (.int (k:Int))=.ok (vd<|p.2.getD k 0):=λk J=>uC (getD_at J);have le:=km aFM e;rw[aAy,aAy]at le;have xt:∀{a b c:Sl},kw 2 [a,b,.o (B.map w4),.v p.1,c] (.lst ((pV A p.2).map w4))=.ok (.nx [a,b,.o ((B++pV A p.2).map w4),.v p.1,c]):=λ{a b c}=>by change(if(B.map w4).length+((pV A p.2).map w4).length<=sizeLine then R.ok (Out.nx _)else _)=_;rw[kc (by rw[aAf,aAf];change _<=2^24;lia),<-aBX];rfl
   show zk (j8 H rfl) {_,j8 (j8 (j8 (B4 rfl<|B4 (j8 (j8 (B4 rfl rfl) lr) rfl) rfl) rg) ((aG (λ(k:Nat)=>D.int (k:Int)) w4 (λk=>(p.2.getD k 0,p.2.getD 0 0,p.2.getD (k+1) 0,A)) (aDW 1<|p.2.length-1-1) (by rw[List.length_range'];lia) λk J=>{_,rfl,?_}).trans rfl)) xt,_,_,B++pV A p.2,l2,rfl,rfl,e,O};rw[aDK]at J;show j8 (B4 (I k (by lia)) (B4 (I 0 (by lia)) (B4 (I (k+1) (by lia))<|B4 rfl rfl))) rfl
 rintro y ⟨z,C,B,l2,rfl,j,e,E⟩;have:l2=[]:=by simpa using j.symm
 subst this;rw[<-e];simp[Z8];rfl
def cQ(W8:u9 P w K mg base 2 "lift_of" 4 nB)(g:Z7 K mg "weights_in" dJ):u9 P w K mg base 3 "weights_in" 2 nT:=by
 refine' l7 (k:=2) (F:=_) g vW (λe q r s=>?b) λn d t h=>?_
 case b=>refine' (d5<|f6<|uE<|f7 (pc4 W8 e (c7 1) (e9 (b7 0) c6) (e9 (b7 0) c6)<|e9 (b7 0) c6)<|f7 (pc4 W8 e (e9 (b7 0) c6) (c7 1) (e9 (b7 0) c6)<|e9 (b7 0) c6)<|f7 (pc4 W8 e (e9 (b7 0) c6) (e9 (b7 0) c6) (c7 1)<|e9 (b7 0) c6)<|f7 (pc4 W8 e (e9 (b7 0) c6) (e9 (b7 0) c6) (e9 (b7 0) c6)<|c7 1) o8)
 replace h:=cA h;let{w,n,rfl,h}:=h;replace h:=z8 h;let{x,y,z,n,rfl,h}:=h;replace h:=u5 h;let{rfl,h}:=h;replace h:=P1 h;let{{{f,i,j,l},a},rfl}:=h;obtain⟨o,m⟩:∃P:G.V,P=⟨x,y,z⟩:={_,rfl};rw[show(.tup [.int x,.int y,.int z]:D)=vd o by rw[m],<-m];rw[<-m]at a;let{A,B,C,E}:=w;have l3:=pW f.mono i.mono a.mono l.mono;have p:=pW f.mono i.mono j.mono a.mono;show kH (j8 (B4 (pW a.mono i.mono j.mono l.mono)<|B4 (pW f.mono a.mono j.mono l.mono)<|B4 l3<|B4 p rfl) rfl)
def cD(fS:u9 P w K mg base 1 "wedges_in" 1 jT)(cQ:u9 P w K mg base 3 "weights_in" 2 nT)(Y:mg "min"=none)(xr:mg "dict"=none)(td:mg "zip"=none)(g:Z7 K mg "weights_by" W2):u9 P w K mg base 4 "weights_by" 2 QR:=by
 refine' l7 (k:=3) (F:=_) g uZ (λe hu H r=>?b) λs d hl h=>?_
 case b=>
  refine' (b9 (B9 aAK rfl (o9<|vI fS e<|c7 0) (j5 2 r) (b9 (i7 3 (U5 cQ e (c7 2)<|c7 1) r)
   (d5 (n6 (j1 yz (PD.pb<|fI (LI rfl)<|u8 (b7 3) y9) o5) (d5 (f6 (gH (ZW rfl H) (u8 (PD.pb (J9 ["corner", "weight"] [] [] rfl (E9 (sc:=c8 W2) (N:=kU)) (XF (c7 2)<|c7 3) (by rintro t fp X2 ⟨s0,H1,C,rfl⟩;show{(U7 (n:=2) rfl (q8 (j5 0 (show(["corner", "weight"]:List Str).Nodup by decide+kernel)) (q8 (j5 1 (show(["corner", "weight"]:List Str).Nodup by decide+kernel)) N8))),(JI<|j1 iQ (b7 1) o5),(vK (c7 0)<|c7 1)})<|λ_=>BV)) y9)))) j3))))
   (d5<|f6 jC))
 replace h:=cA h;let{l,s,rfl,h}:=h;replace h:=z8 h;let{x,y,z,s,rfl,h}:=h;replace h:=u5 h;let{rfl,h}:=h;replace h:=P1 h;let{{e,u,I},rfl}:=h;obtain⟨a,f⟩:∃P:G.V,P=⟨x,y,z⟩:={_,rfl};rw[show(.tup [.int x,.int y,.int z]:D)=vd a by rw[f],<-f];rw[<-f]at u;have J:=FU e;show GT (j8 (j8 (C8 rfl)<|NS e) rfl) (uB w4 (fits a) (λw=>XS (lU w a)) (λi=>∃j m,i=[.v (PC l),.v (vd a),j,m]) (by rintro i ⟨j,m,rfl⟩;rfl) _ _ {_,_,rfl} ?_);rintro w A i ⟨j,m,rfl⟩;let{L,O,Q,T}:=J w A;have B:=FH (w:=w) (P:=a) {L.mono,O.mono,Q.mono,T.mono} u;have E:EA [.lst ((zE w a).map D.int)]=.ok (.int (pN<|zE w a)):=rfl;show{λo=>?_,λo=>{[.v (PC l),.v (vd a),.v (w4 w),.v (.lst ((zE w a).map D.int))],?_,_,_,rfl}}
 .have q:geR (.int (pN<|zE w a)) (.int 0)=.ok (.bl true):=by rw[UM];show km (λb=>R.ok (D.bl b)) o
  have U:=YV (DF (P:=a)<|I w A) (aAn (RL w a) (by decide));show xx (j8 (j8 (B5 rfl rfl) B) rfl) ?_;show HZ (j8 (j8 (j8 (C8 rfl) E) q) rfl) ?_;show j8 (j8 (C8<|j8 (j8 (B5 rfl rfl)<|a7x w a)<|(kc<|a3r w a).trans (j8 (M.gP (λp:G.V×Int=>D.tup [vd p.1,.int p.2]) (λp=>decide (p.2>0)) (λp=>D.tup [vd p.1,.int p.2]) (YF w a) λp hp=>{_,rfl,rfl,λ_=>rfl}) rfl)) U) rfl
 have q:geR (.int (pN<|zE w a)) (.int 0)=.ok (.bl false):=by rw[UM];show km (λb=>R.ok (D.bl b)) o
 show xx (j8 (j8 (B5 rfl rfl) B) rfl) (L6<|j8 (j8 (j8 (C8 rfl) E) q) rfl)
def cT(aX:u9 P w K mg base 2 "fraction_of" 2 GU)(p:mg "sum"=none)(q:mg "sorted"=none)(g:Z7 K mg "shares_by" aD):EX P w K mg base 8 "shares_by" 1 yO:=by
 refine' QC g xU (λe r f i=>?b) λj d s h=>?_
 case b=>
  refine' (MJ (i7 1 (cw 0 rfl) i)
   (QE (YR ["corner"] ["whole", "weights"] [1,0] rfl (E9 (sc:=c8 aD) (N:=oT)) (o9 (PF.pd (GW (b7 0) rfl (e.ae0 (by decide))))) (HK λ_ _ _ _ _=>(vK (c7 0)<|U5 aX e (a2s 2 0 (c7 0) f)<|c7 1))<|λ_=>u0)))
 replace h:=cA h;let{l,j,rfl,h}:=h;replace h:=u5 h;let{rfl,h}:=h;replace h:=P1 h;let{a,rfl}:=h;have k:=jQ (l.map (·.1));rw[aAf]at k;have t:=a.1;show iw (j8 (a1s l) rfl) (LH (j8 (j8 (j8 (a0z a.1) rfl) rfl) (ZM vd IW (λv=>(v,iE (pR l v) (iH l))) (f8 (l.map (·.1))) (by lia) λv m=>{_,rfl,?_})));let{n,o}:=UQ a (v6.mp m);show j8 (B5 rfl<|j8 (B5 n rfl)<|gz o) rfl
def cH(cD:u9 P w K mg base 4 "weights_by" 2 QR)(X7:u9 P w K mg base 9 "faces_of" 1 Q1)(cT:EX P w K mg base 8 "shares_by" 1 yO)(g:Z7 K mg "shares_of" fA):HN P w K mg base 10 "shares_of" 2 rO:=by
 refine' WK (k:=9) (F:=_) g yL (λi s t r=>?b) λo d u h=>?_
 case b=>
  refine' (xA (i7 2 (U5 cD i (vI X7 i<|c7 0)<|c7 1) r)
   (xA (n6 (j1 IM (b7 2)<|PD.pb jC) (d5<|f6 jC) j3)
   (XA (a0x cT (i.mono (by decide)) (f7 (c7 2) o8)<|x5 S9))))
 replace h:=tE h;let{l,o,rfl,h}:=h;replace h:=z8 h;let{x,y,z,o,rfl,h}:=h;replace h:=u5 h;let{rfl,h}:=h;replace h:=P1 h;let{{a,j},rfl}:=h;obtain⟨f,m⟩:∃P:G.V,P=⟨x,y,z⟩:={_,rfl};rw[show(.tup [.int x,.int y,.int z]:D)=vd f by rw[m],<-m];rw[<-m]at j;have n:=DN a.1 a.2.1 a.2.2;rw[a1o]at n;have p:=wj a;have e:=a1j p j (WR a);unfold wby at e;unfold MU;cases q:wOf l f with
 |none=>have q:(Z8 (oQ<|iN l)<|iN l).find? (fits f)=none:=q;rw[q]at e;show{HQ (j8 (j8 (B5 (j8 (C8 rfl) n) rfl) e) rfl) ?_,rfl};rfl
 |some w=>have q:(Z8 (oQ<|iN l)<|iN l).find? (fits f)=some w:=q;rw[q]at e;show{HQ (j8 (j8 (B5 (j8 (C8 rfl) n) rfl) e) rfl) (HQ rfl<|LH<|j8 (C8 rfl)<|km unl<|gk<|tz (FU p w<|aCS q) j),rfl}
end
section
variable [Tabs]
variable{P:be}{w:cf}{K:kn}{mg:eU}{base:ck}
def D2(l:mg "len"=none)(g:Z7 K mg "_law_cell_at" X6):u9 P w K mg base 1 "_law_cell_at" 2 G1:=by
 refine' l7 (k:=0) (F:=_) g pT (λm n o p=>?b) λf d q h=>?_
 case b=>
  refine' (b9 (n6 (j1 DW (b7 1)<|PD.pb<|vT M2<|b7 0) (d5<|f6<|e9 (b7 0)<|c7 1) j3)
   (d5<|f6 c6))
 match f,h with
 |[.lst Y,.int k],h=>
  erw[G1]at h;split at h
  .rename_i i;let{j,r}:=i;rw[<-h];by_cases a:k<Y.length
   .have e:Y[k.toNat]?=some Y[k.toNat]:=aAl (by lia);simp[n5,a,eG (by rw[X4 j,e]),DX,e]
   have e:Y[k.toNat]?=none:=aCV.mpr (by lia);simp[n5,a,DX,e]
  cases h
def F1(g:Z7 K mg "_law_way" jA):u9 P w K mg base 1 "_law_way" 2 l6:=by
 refine' l7 (F:=_) g BG (λf i j k=>?b) λe d l h=>?_
 case b=>refine' (d5<|f6<|jP (c5 u3 (PD.pb<|e9 (b7 1) c6)<|PD.pb<|e9 (b7 0) c6) (c5 u3 (PD.pb<|e9 (b7 1) c6)<|PD.pb<|e9 (b7 0) c6)<|c5 u3 (PD.pb<|e9 (b7 1) c6)<|PD.pb<|e9 (b7 0) c6)
 replace h:=z8 h;let{a,b,c,e,rfl,h}:=h;replace h:=z8 h;let{m,n,o,e,rfl,h}:=h;replace h:=u5 h;let{rfl,h}:=h;show h
def J8(g:Z7 K mg "_law_cross" cF):u9 P w K mg base 1 "_law_cross" 2 w5:=by
 refine' l7 (k:=0) (F:=_) g vS (λp q r s=>?b) λe d t h=>?_
 case b=>refine' (d5<|f6<|jP (c5 u3 (PD.pb<|c5 j7 (PD.pb<|e9 (b7 0) c6)<|PD.pb<|e9 (b7 1) c6)<|PD.pb<|c5 j7 (PD.pb<|e9 (b7 0) c6)<|PD.pb<|e9 (b7 1) c6) (c5 u3 (PD.pb<|c5 j7 (PD.pb<|e9 (b7 0) c6)<|PD.pb<|e9 (b7 1) c6)<|PD.pb<|c5 j7 (PD.pb<|e9 (b7 0) c6)<|PD.pb<|e9 (b7 1) c6)<|c5 u3 (PD.pb<|c5 j7 (PD.pb<|e9 (b7 0) c6)<|PD.pb<|e9 (b7 1) c6)<|PD.pb<|c5 j7 (PD.pb<|e9 (b7 0) c6)<|PD.pb<|e9 (b7 1) c6)
 replace h:=z8 h;let{a,b,c,e,rfl,h}:=h;replace h:=z8 h;let{u,v,x,e,rfl,h}:=h;replace h:=u5 h;let{rfl,h}:=h;split at h
 .rename_i o;let{{f,i,j},l,m,n}:=o;rw[<-h];simp[n5,j9 (v9.of i n),j9 (v9.of j m),j9 (v9.of j l),j9 (v9.of f n),j9 (v9.of f m),j9 (v9.of i l)]
 cases h
def A5(g:Z7 K mg "_law_product" Z4):u9 P w K mg base 1 "_law_product" 2 n4:=by
 refine' l7 g pF (λo p q r=>?b) λe d s h=>?_
 case b=>refine' (d5<|f6<|c5 n9 (PD.pb<|c5 n9 (PD.pb<|c5 j7 (PD.pb<|e9 (b7 0) c6)<|PD.pb<|e9 (b7 1) c6)<|PD.pb<|c5 j7 (PD.pb<|e9 (b7 0) c6)<|PD.pb<|e9 (b7 1) c6)<|PD.pb<|c5 j7 (PD.pb<|e9 (b7 0) c6)<|PD.pb<|e9 (b7 1) c6)
 replace h:=a0d h;let{a,b,c,t,e,rfl,h}:=h;replace h:=z8 h;let{u,v,x,e,rfl,h}:=h;replace h:=u5 h;let{rfl,h}:=h;split at h
 .rename_i f;let{{i,j,k},l,m,n}:=f;rw[<-h];simp[n5,zq,vk,a0b,j9 (v9.of i l),j9 (v9.of j m),j9 (v9.of k n)]
 cases h
def cC(g:Z7 K mg "_law_great" dQ):u9 P w K mg base 1 "_law_great" 1 lN:=by
 refine' l7 (k:=0) (F:=_) g uU (λj l m a=>?b) λe d n h=>?_
 case b=>
  refine' (b9 (i7 1 (c5 n9 (PD.pb<|c5 j7 o5<|PD.pb<|c5 G4 o5 o5) o5) a)
   (b9 (i7 2 (c5 u3 (PD.pb<|c5 t9 (PD.pb<|c5 n9 (PD.pb<|c5 j7 (b7 0) o5)<|PD.pb<|c5 G4 o5 o5)<|b7 1)<|PD.pb<|c5 G4 o5 o5) a)
   (b9 (i7 3 (c5 u3 (PD.pb<|c5 t9 (PD.pb<|c5 n9 (PD.pb<|c5 j7 (PD.pb<|c5 j7 (b7 0)<|b7 0) o5)<|PD.pb<|c5 G4 o5 o5)<|b7 1)<|PD.pb<|c5 G4 o5 o5) a)
   (d5<|f6<|jP (c7 2) (c7 3)<|c5 u3 (PD.pb<|c5 t9 (PD.pb<|c5 n9 (PD.pb<|c5 j7 (PD.pb<|c5 j7 (b7 0)<|b7 0)<|b7 0)<|PD.pb<|c5 G4 o5 o5)<|b7 1)<|PD.pb<|c5 G4 o5 o5))))
 match e,h with
 |[.int c],h=>
  erw[lN]at h;split at h
  .rename_i f;rw[<-h]
   haveI:Bd c 2000000:=⟨f⟩
   have i:xX (.int 10) (.int 12)=.ok (.int 1000000000000):=rfl;have o:(2000000000000:Int)+1=2000000000001:=rfl;simp[n5,i,P7,S5,uK,ZP,M12]
  cases h
def eZ(D2:u9 P w K mg base 1 "_law_cell_at" 2 G1)(cC:u9 P w K mg base 1 "_law_great" 1 lN)(cb:mg "range"=none)(g:Z7 K mg "_law_near" I0):u9 P w K mg base 2 "_law_near" 1 AE:=by
 refine' l7 (k:=1) (F:=_) g zB (λq m dc f=>?b) λds d p h=>?_
 case b=>
  refine' (b9 (i7 1 (U5 D2 q (c7 0) c6) f)
   (b9 (i7 2 (c5 n9 o5<|PD.pb<|c5 t9 (PD.pb<|c5 p5 (b7 1) o5) o5) f)
   (b9 (i7 3 (c5 n9 o5<|PD.pb<|c5 t9 (PD.pb<|c5 p5 (b7 1) o5) o5) f)
   (b9 (i7 4 (c5 n9 o5<|PD.pb<|c5 t9 (PD.pb<|c5 p5 (b7 1) o5) o5) f)
   (b9 (n6 (j1 (M6 m) (PD.pb<|c5 t9 (PD.pb<|c5 p5 (b7 1) o5) o5) o5) (d5<|JC (jP (c5 n9 (PD.pb<|c5 j7 (b7 2)<|PD.pb<|c5 G4 o5 o5) o5) (c5 n9 (PD.pb<|c5 j7 (b7 3)<|PD.pb<|c5 G4 o5 o5) o5)<|c5 n9 (PD.pb<|c5 j7 (b7 4)<|PD.pb<|c5 G4 o5 o5) o5)<|U7 (n:=3) rfl<|q8 (j5 2 f)<|q8 (j5 3 f)<|q8 (j5 4 f) N8) j3)
   (b9 (i7 5 (c5 t9 (b7 1) o5) f)
   (b9 (n6 (j1 (M6 m) (b7 5) o5) (d5<|f6<|J9 ["k"] ["a", "b", "c"] [2,3,4] rfl (E9 (sc:=c8 I0) (N:=T0)) (K4<|u8 o5 y9) (HK λ_ _ _ _ _=>(jP (c5 j7 (PD.pb<|c5 t9 (b7 0) o5)<|b7 1) (c5 j7 (PD.pb<|c5 t9 (PD.pb<|c5 p5 (b7 0) o5) o5)<|b7 2)<|c5 j7 (PD.pb<|c5 p5 (b7 0) o5)<|b7 3))<|λ_=>u0) j3)
   (b9 (n6 (j1 (M6 m) (b7 5) o5) (d5<|f6<|uE<|f7 (jP (c7 2) c6 c6)<|f7 (jP (c5 u3 o5<|b7 3) c6 c6)<|f7 (jP c6 (c7 3) c6)<|f7 (jP c6 (c5 u3 o5<|b7 4) c6)<|f7 (jP c6 c6<|c7 4)<|f7 (jP c6 c6<|c5 u3 o5<|b7 2) o8) j3)
   (b9 (n6 (j1 (M6 m) (b7 5) o5) (b9 (aH 6 (fU<|f7 (vK c6 c6)<|f7 (vK (c7 2) c6)<|f7 (vK c6<|c7 3) o8) f)
   (d5<|kC 6<|f6<|c5 n9 (PD.pb<|J9 ["spot"] [] [] rfl (E9 (sc:=c8 I0) (N:=T0)) (o9<|c7 6) (HK λ_ _ _ _ _=>(c5 n9 (b7 0)<|PD.pb<|tM<|f7 c6 o8))<|λ_=>u0)<|PD.pb<|J9 ["spot"] ["c", "a", "b"] [4,2,3] rfl (E9 (sc:=c8 I0) (N:=T0)) (o9<|c7 6) (HK λ_ _ _ _ _=>(jP (c5 n9 (PD.pb<|e9 (b7 0) c6)<|b7 1) (e9 (b7 0) c6)<|c5 n9 (b7 2)<|b7 3))<|λ_=>u0)) j3)
   (b9 (n6 (j1 (M6 m) (b7 5) o5) (d5<|f6<|c5 n9 (PD.pb<|J9 ["k"] [] [] rfl (E9 (sc:=c8 I0) (N:=T0)) (K4<|u8 (PD.pb<|c5 n9 o5<|PD.pb<|c5 t9 (PD.pb<|c5 p5 (b7 1) o5) o5) y9) (HK λ_ _ _ _ _=>(jP (c7 0) (c5 j7 (b7 0)<|b7 0) c6))<|λ_=>u0)<|PD.pb<|uE<|f7 (jP (c7 2) (c7 3)<|c7 4) o8) j3)
   (b9 (aH 6 (fU<|f7 (jP c6 c6 c6)<|f7 (jP (c7 2) c6 c6)<|f7 (jP c6 (c7 3) c6)<|f7 (jP c6 c6<|c7 4) o8) f)
   (b9 (B9 aAK rfl (o9<|kK (b7 0) (J1 c6)<|J1 c6) (j5 1 f)<|d5<|n6 (zZ.pt<|U0 (j1 (M6 m) (b7 5) o5)<|dF<|zZ.pt<|qK (j1 (M6 m) (b7 5) o5)<|kQ<|j1 (M6 m) (PD.pb<|c5 t9 (b7 1) o5) o5) (d5<|L9 6<|vI cC q<|c5 p5 (b7 1) o5)<|d5<|L9 6<|jP (c5 u3 (PD.pb<|c5 t9 (b7 1) o5) o5) (c5 u3 (PD.pb<|c5 t9 (PD.pb<|c5 p5 (b7 1) o5) o5) o5)<|c5 u3 (PD.pb<|c5 t9 (PD.pb<|c5 p5 (b7 1) o5) o5) o5)
   (d5<|kC 6<|f6<|c7 6)))))))))))))
 match ds,h with
 |[.lst Y],h=>
  erw[AE]at h;split at h
  .rename_i hi;rw[<-h];let{e0,hb}:=TU hi 0 (by decide);have e0:G1 [.lst Y,.int 0]=.ok (.int (cI Y 0)):=e0;generalize cI Y 0=c at*
   have hp:=xY c;have p6:xX (.int 10) (.int 6)=.ok (.int 1000000):=rfl;have p7:xX (.int 10) (.int 7)=.ok (.int 10000000):=rfl;have p8:xX (.int 10) (.int 8)=.ok (.int 100000000):=rfl;have r:L5 (.int c) (.int 7)=.ok (.int (c.fdiv 7)):=F9 (by decide) (by decide);have d14:L5 (.int c) (.int 14)=.ok (.int (c.fdiv 14)):=F9 (by decide) (by decide);have d42:L5 (.int c) (.int 42)=.ok (.int (c.fdiv 42)):=F9 (by decide) (by decide);have s:L5 (.int c) (.int 126)=.ok (.int (c.fdiv 126)):=F9 (by decide) (by decide);have t:L5 (.int c) (.int 378)=.ok (.int (c.fdiv 378)):=F9 (by decide) (by decide);have u:∀(x:Int) {k:Int},0<k->kF (.int x) (.int k)=.ok (.int (x.fmod k)):=λx k A=>S5 A;have m3:=λx=>u x (show(0:Int)<3 by decide);have C:=λx=>u x (show(0:Int)<2 by decide);have m7:=λx=>u x (show(0:Int)<7 by decide);have m8:=λx=>u x (show(0:Int)<8 by decide);clear u;unfold N9;erw[n5,aAm,aEF,aBs,aDd,aAp,aBV,Nat.reduceAdd,Nat.reduceSub,List.replicate_succ,List.replicate_zero];show f9 (by simp[e0];rfl) ?_;show f9 (by simp[d14,m3];rfl) ?_;show f9 (by simp[d42,m3];rfl) ?_;show f9 (by simp[s,m3];rfl) ?_;show f9 (ρ:=[.v (.lst Y),.v (.int c),.v (.int (fE c).1),.v (.int (fE c).2.1),.v (.int (fE c).2.2),.no,.no]) ?_ ?_
   .have f1:=E8 (a:=c.fdiv 14) (b:=3) (by decide);have f2:=E8 (a:=c.fdiv 42) (b:=3) (by decide);have f3:=E8 (a:=c.fdiv 126) (b:=3) (by decide);unfold fE
    haveI:Bd (1+(c.fdiv 14).fmod 3) 10:=⟨u6 (by lia) (by lia)⟩
    haveI:Bd (1+(c.fdiv 42).fmod 3) 10:=⟨u6 (by lia) (by lia)⟩
    haveI:Bd (1+(c.fdiv 126).fmod 3) 10:=⟨u6 (by lia) (by lia)⟩
    by_cases hq:(c.fdiv 7).fmod 2=1
    .generalize 1+(c.fdiv 14).fmod 3=a at*
     generalize 1+(c.fdiv 42).fmod 3=b at*
     generalize 1+(c.fdiv 126).fmod 3=e at*
     simp[r,C,hq,p6,p7,p8,P7,UD,dZ,D9,iK]
    simp[r,C,hq]
   generalize(fE c).1=a at*
   generalize(fE c).2.1=b at*
   generalize(fE c).2.2=e at*
   let{{a0,a1},{b0,b1},{c0,c1}}:=hp
   haveI Ba:Bd a 40:=⟨u6 (by lia) (by lia)⟩
   haveI Bb:Bd b 40:=⟨u6 (by lia) (by lia)⟩
   haveI Be:Bd e 40:=⟨u6 (by lia) (by lia)⟩
   show f9 (by simp[m7];rfl) ?_;by_cases J:c.fmod 7=0
   .rw[kc J];show N6 ?_;have q:fO [.int 8]=.ok ((aBd 8).map λ(k:Nat)=>D.int (k:Int)):=a4b (n:=8) (by decide);have p:((aBd 8).map λ(k:Nat)=>D.int (k:Int)).length<=sizeLine:=by rw[aAf,aDJ];decide
    have eb:(RE a b e).map vd=(aBd 8).map λ(k:Nat)=>vd {(k:Int).fmod 2*a,((k:Int).fdiv 2).fmod 2*b,(k:Int).fdiv 4*e}:=aAI ..;rw[eb];erw[J,qZ,AU,R.aa0,AI,IC,wQ,beq_self_eq_true,if_true,kN,qH,q];rw[CJ p (W9 (λ(k:Nat)=>D.int (k:Int)) (λ(k:Nat)=>vd {(k:Int).fmod 2*a,((k:Int).fdiv 2).fmod 2*b,(k:Int).fdiv 4*e}) (aBd 8) λk A=>{[.v (.int (k:Int)),.v (.int a),.v (.int b),.v (.int e)],rfl,?_})]
    .rfl
    have hk8:=aBn.mp A;have L:L5 (.int (k:Int)) (.int 2)=.ok (.int ((k:Int).fdiv 2)):=F9 (by decide) (by decide);have d4:L5 (.int (k:Int)) (.int 4)=.ok (.int ((k:Int).fdiv 4)):=F9 (by decide) (by decide)
    haveI:Bd (((k:Int)).fmod 2) 3:=⟨F8 (by decide) (by decide)⟩
    haveI:Bd (((k:Int).fdiv 2).fmod 2) 3:=⟨F8 (by decide) (by decide)⟩
    haveI:Bd (((k:Int).fdiv 4)) 10:=⟨bits_fdiv (u6 (by lia) (by lia))⟩
    simp[C,L,d4,P7]
   rw[kd J];show f9 (by simp[J];rfl) ?_;by_cases O:c.fmod 7=1
   .rw[kc O];show N6 ?_;simp[O,CU,NK,sizeLine]
   rw[kd O];show f9 (by simp[O];rfl) ?_;by_cases Q:c.fmod 7=2
   .rw[kc Q];show N6 ?_;have ad:∀x y:List D,x.length+y.length<=1000->pS (.lst x) (.lst y)=.ok (.lst (x++y)):=λx y h=>qI (small h);simp[Q,CZ,NK,sizeLine,EY,i8,YK,ad]
   rw[kd Q];show f9 (by simp[Q];rfl) ?_;by_cases T:c.fmod 7=3
   .rw[kc T];show N6 ?_;let{n,en,hn,et}:=QW c;have q:=a4b (n:=n) (aAn hn (by decide));have p:=oz n (aAn hn (by decide));rw[et,iy];erw[T,qZ,AU,R.aa0,AI,IC,wQ,beq_self_eq_true,if_true,kN,qH,t,m8,JH];rw[en,q,R.aa0];rw[CJ p (W9 (λ(k:Nat)=>D.int (k:Int)) (λ(k:Nat)=>vd {(k:Int),(k:Int)*(k:Int),0}) (aBd n) λk A=>{[.v (.int (k:Int))],rfl,?_})]
    .rw[R.aa0];erw[oN,kI,R.aa0,a7n,a6i];rw[qI (small (by rw[aAf,aDJ];show aAn (Nat.add_le_add_right hn 1) (by decide)))];rfl
    have hk8:=aBn.mp A
    haveI:Bd (k:Int) 10:=⟨u6 (by lia) (by lia)⟩
    simp[P7]
   rw[kd T];show f9 (by simp[T];rfl) ?_;show f9 (ρ:=[.v (.lst Y),.v (.int c),.v (.int a),.v (.int b),.v (.int e),.v (.int (c.fmod 7)),.o ((nR a b e).map vd)]) ?_ ?_
   .simp[nR,show 4<=sizeLine by decide]
   let{t1,t2,t3}:=mY hi;have sl:LB (.lst Y) (some 4) (some 9)=.ok (.lst ((Y.drop 4).take 5)):=WX Y 4 9 (by decide);rw[t1]at sl;erw[AU,AI,R.aa0,a5a,sl,lE];show bH (λrest ρ=>∃(B:List G.V) (l:List Int) (x:Sl),ρ=[.v (.lst Y),x,.v (.int a),.v (.int b),.v (.int e),.v (.int (c.fmod 7)),.o (B.map vd)]/\rest=l.map D.int/\(∀i∈l,bits i<=1048576)/\B.length+l.length<=9/\B++l.map (EM c)=nR a b e++(aI Y).map (EM c)) ?_ {nR a b e,aI Y,_,rfl,rfl,t3,by simp[nR];lia,rfl} ?_
   .rintro d ds ρ ⟨B,l,x,rfl,E,xv,p,U⟩;match l,E with
    |i::l,E=>
     injection E with e3 e4;subst e3 e4;have hbi:=xv i (.head _);have hz:(B.map vd).length<sizeLine:=by rw[aAf];erw[aAp]at p;show aCK (show B.length<=1000 by lia) (by decide)
     have dd:∀k:Int,0<k->k<100->L5 (.int i) (.int k)=.ok (.int (i.fdiv k)):=λk h1 h2=>F9 h1 (by lia);have L:=dd 2 (by decide) (by decide);have r:=dd 7 (by decide) (by decide);have H:=dd 49 (by decide) (by decide);clear dd;have ap:∀v:G.V,AF 6 [.v (.lst Y),.v (.int i),.v (.int a),.v (.int b),.v (.int e),.v (.int (c.fmod 7)),.o (B.map vd)] (vd v)=.ok (.nx [.v (.lst Y),.v (.int i),.v (.int a),.v (.int b),.v (.int e),.v (.int (c.fmod 7)),.o ((B++[v]).map vd)]):=λv=>by change(if(B.map vd).length<sizeLine then _ else _)=_;rw[kc hz,aBX];rfl
     have gr:lN [.int (i.fdiv 2)]=.ok (vd<|uK<|i.fdiv 2):=kc (i6<|bits_fdiv hbi);show{[.v (.lst Y),.v (.int i),.v (.int a),.v (.int b),.v (.int e),.v (.int (c.fmod 7)),.o ((B++[EM c i]).map vd)],?_,B++[EM c i],l,_,rfl,rfl,λj hj=>xv j (.tail _ hj),by simp at p⊢;lia,by rw[<-U];simp};rw[<-ap];unfold EM;by_cases I:c.fmod 7=5
     .rw[kc (.inl I)];simp[I,L,gr]
     by_cases k6:c.fmod 7=6
     .by_cases o2:i.fmod 2=1
      .rw[kc (.inr {k6,o2})];simp[k6,C,o2,L,gr]
      rw[kd (λz=>z.elim I λz=>o2 z.2)];simp[k6,C,o2,r,H,m7]
     rw[kd (λz=>z.elim I λz=>k6 z.1)];simp[I,k6,r,H,m7]
   rintro ρ ⟨B,l,x,rfl,E,xv,p,U⟩;have:l=[]:=by simpa using E.symm
   subst this;rw[aEF,aBU]at U;rw[<-U];simp[EY]
  cases h
def V4(D2:u9 P w K mg base 1 "_law_cell_at" 2 G1)(g:Z7 K mg "_law_moved" dG):u9 P w K mg base 2 "_law_moved" 2 qC:=by
 refine' l7 (k:=1) (F:=_) g uR (λhr hu dc e=>?b) λds d hl h=>?_
 case b=>
  refine' (b9 (JC (c7 0)<|U7 (n:=3) rfl<|q8 (j5 2 e)<|q8 (j5 3 e)<|q8 (j5 4 e) N8)
   (b9 (i7 5 (U5 D2 hr (c7 1) c6) e)
   (b9 (i7 6 (e9 (PD.pb<|uE<|f7 c6<|f7 (c5 G4 o5 o5) o8)<|c5 t9 (b7 5) o5) e)
   (b9 (i7 2 (c5 n9 (b7 2)<|PD.pb<|c5 j7 (PD.pb<|c5 t9 (PD.pb<|c5 p5 (b7 5) o5)<|b7 6)<|b7 3) e)
   (b9 (i7 3 (c5 u3 (b7 3)<|PD.pb<|c5 j7 (PD.pb<|c5 t9 (PD.pb<|c5 p5 (PD.pb<|c5 j7 (b7 5)<|b7 5) o5)<|b7 6)<|b7 4) e)
   (b9 (i7 4 (c5 n9 (b7 4)<|PD.pb<|c5 j7 (PD.pb<|c5 t9 (PD.pb<|c5 p5 (PD.pb<|c5 j7 (b7 5) o5) o5)<|b7 6)<|b7 2) e)
   (b9 (n6 (j1 (M6 hu) (PD.pb<|c5 t9 (PD.pb<|c5 p5 (b7 5) o5) o5) o5) (d5<|BQ 2 4 rfl e<|f7 (c7 4)<|f7 (c7 2) o8) j3)
   (b9 (i7 7 (U5 D2 hr (c7 1) c6) e)
   (b9 (i7 6 (c5 n9 (PD.pb<|c5 j7 o5<|PD.pb<|c5 G4 o5 o5) o5) e)
   (b9 (i7 2 (c5 u3 (PD.pb<|c5 n9 (b7 2)<|PD.pb<|c5 t9 (PD.pb<|c5 n9 (PD.pb<|c5 j7 (b7 7) o5)<|PD.pb<|c5 G4 o5 o5)<|b7 6)<|PD.pb<|c5 G4 o5 o5) e)
   (b9 (i7 3 (c5 u3 (PD.pb<|c5 n9 (b7 3)<|PD.pb<|c5 t9 (PD.pb<|c5 n9 (PD.pb<|c5 j7 (PD.pb<|c5 j7 (b7 7)<|b7 7) o5)<|PD.pb<|c5 G4 o5 o5)<|b7 6)<|PD.pb<|c5 G4 o5 o5) e)
   (d5<|f6<|jP (c7 2) (c7 3)<|c5 u3 (PD.pb<|c5 n9 (b7 4)<|PD.pb<|c5 t9 (PD.pb<|c5 n9 (PD.pb<|c5 j7 (PD.pb<|c5 j7 (b7 7)<|b7 7)<|b7 7)<|PD.pb<|c5 G4 o5 o5)<|b7 6)<|PD.pb<|c5 G4 o5 o5))))))))))))
 match ds,h with
 |[.tup [.int a,.int b,.int c],.lst Y],h=>
  erw[qC]at h;split at h
  .rename_i hz;let{hi,B}:=hz;rw[<-h];let{C,E}:=TU hi 1 (by decide);let{H,h2}:=TU hi 2 (by decide);have C:G1 [.lst Y,.int 1]=.ok (.int (cI Y 1)):=C;have H:G1 [.lst Y,.int 2]=.ok (.int (cI Y 2)):=H;generalize cI Y 1=k at*
   generalize cI Y 2=f at*
   let{I,kg,J}:=XD k
   haveI:Bd k 1048576:=⟨E⟩
   haveI:Bd f 1048576:=⟨h2⟩
   haveI:Bd a 100:=⟨B.1⟩
   haveI:Bd b 100:=⟨B.2.1⟩
   haveI:Bd c 100:=⟨B.2.2⟩
   have p6:xX (.int 10) (.int 6)=.ok (.int 1000000):=rfl;have i:xX (.int 10) (.int 20)=.ok (.int 100000000000000000000):=rfl;have L:∀x:Int,kF (.int x) (.int 2)=.ok (.int (x.fmod 2)):=λx=>S5 (by decide);have N:∀x:Int,kF (.int x) (.int (JA k))=.ok (.int (x.fmod<|JA k)):=λx=>S5 kg;have q:∀x:Int,Bd (x.fmod<|JA k) 20:=λx=>⟨F8 kg J⟩;have y:∀(x:Int) {j:Int},0<j->j<100->L5 (.int x) (.int j)=.ok (.int (x.fdiv j)):=λx j E h2=>F9 E (by lia);have d4:=λx=>y x (show(0:Int)<4 by decide) (by decide);have d2:=λx=>y x (show(0:Int)<2 by decide) (by decide);have O:=λx=>y x (show(0:Int)<16 by decide) (by decide);clear y;unfold fH;dsimp only
   haveI:=q (k.fdiv 4)
   haveI:=q ((k*k).fdiv 16)
   haveI:=q ((k*48611).fdiv 4)
   generalize JA k=Mk at*
   erw[n5,aAm,aEF,aBs,aDd,aAp,aBV,Nat.reduceAdd,Nat.reduceSub,List.replicate_succ,List.replicate_zero];show f9 (by simp[UD,dZ,D9,iK];rfl) ?_;show f9 (by simp[C];rfl) ?_;show f9 (by simp[p6,L,I];rfl) ?_;obtain⟨s,m⟩:∃s,(k.fdiv 4).fmod Mk=s:={_,rfl};obtain⟨z,Q⟩:∃z,((k*k).fdiv 16).fmod Mk=z:={_,rfl};obtain⟨A,o⟩:∃A,((k*48611).fdiv 4).fmod Mk=A:={_,rfl};rw[m,Q,o]
   haveI:Bd s 20:=m▸q _
   haveI:Bd z 20:=Q▸q _
   haveI:Bd A 20:=o▸q _
   obtain⟨l,p⟩:∃l,a+s*b=l:={_,rfl}
   haveI:Bd l 300:=⟨by rw[<-p];show i6 (Bd.h (a:=a+s*b))⟩
   obtain⟨T,t⟩:∃T,b-z*c=T:={_,rfl};obtain⟨r,u⟩:∃r,c+A*l=r:={_,rfl};rw[p,t,u];show f9 (by simp[d4,N,P7,m,p];rfl) ?_;show f9 (by simp[O,N,P7,Q,t];rfl) ?_;show f9 (by simp[d4,N,P7,o,u];rfl) ?_;show f9 (ρ:=[.v (.tup [.int a,.int b,.int c]),.v (.lst Y),.v (.int (if(k.fdiv 2).fmod 2=1 then r else l)),.v (.int T),.v (.int (if(k.fdiv 2).fmod 2=1 then l else r)),.v (.int k),.v (.int Mk),.no]) ?_ ?_
   .by_cases hq:(k.fdiv 2).fmod 2=1
    .simp[d2,L,hq,UD,dZ,D9,iK]
    simp[d2,L,hq]
   generalize(if(k.fdiv 2).fmod 2=1 then r else l)=x2;generalize(if(k.fdiv 2).fmod 2=1 then l else r)=z2;have eM:(2:Int)*100000000000000000000+1=XN:=rfl;have U:∀x:Int,kF (.int x) (.int XN)=.ok (.int (x.fmod XN)):=λx=>S5 (by decide);have eT:(100000000000000000000:Int)=LA:=rfl;show f9 (by simp[H];rfl) ?_;show f9 (by erw[AI,R.aa0,i,P7 (show(2:Nat)<=60000000 by decide) (show(67:Nat)<=60000000 by decide),JH,eM,aCP,aCQ];rfl) ?_;show f9 (by rw[<-eT]at*;simp[i,U,P7];rfl) ?_;show f9 (by rw[<-eT]at*;simp[i,U,P7];rfl) ?_;rw[<-eT];simp[i,U,P7]
  cases h
def cB(J:mg "len"=none)(O:mg "tuple"=none)(Q:mg "range"=none)(g:Z7 K mg "_law_asked" V6):u9 P w K mg base 1 "_law_asked" 3 qA:=by
 refine' l7 (k:=0) (F:=_) g vH (λT q U m=>?b) λr d Y h=>?_
 case b=>
  refine' (b9 (i7 3 (vT M2<|b7 1) m)
   (b9 (i7 4 (e9 (b7 1)<|c5 t9 (PD.pb<|c5 p5 (b7 2) o5)<|b7 3) m)
   (b9 (i7 5 (e9 (b7 1)<|c5 t9 (PD.pb<|c5 p5 (b7 2) o5)<|b7 3) m)
   (b9 (i7 6 (e9 (b7 1)<|c5 t9 (PD.pb<|c5 p5 (b7 2) o5)<|b7 3) m)
   (b9 (n6 (j1 (M6 q) (PD.pb<|c5 t9 (b7 2) o5) o5) (d5<|f6<|c7 4) j3)
   (b9 (n6 (j1 (M6 q) (PD.pb<|c5 t9 (b7 2) o5) o5) (d5<|f6<|jP (c5 p5 (PD.pb<|c5 n9 (PD.pb<|e9 (b7 4) c6)<|PD.pb<|e9 (b7 5) c6) o5) (c5 p5 (PD.pb<|c5 n9 (PD.pb<|e9 (b7 4) c6)<|PD.pb<|e9 (b7 5) c6) o5)<|c5 p5 (PD.pb<|c5 n9 (PD.pb<|e9 (b7 4) c6)<|PD.pb<|e9 (b7 5) c6) o5) j3)
   (b9 (n6 (j1 (M6 q) (PD.pb<|c5 t9 (b7 2) o5) o5) (d5<|f6<|gH SX<|u8 (PD.pb<|J9 ["k"] ["three", "one", "two"] [6,4,5] rfl (E9 (sc:=c8 V6) (N:=kX)) (K4<|u8 o5 y9) (HK λ_ _ _ _ _=>(c5 p5 (PD.pb<|c5 n9 (PD.pb<|c5 n9 (PD.pb<|e9 (b7 2)<|c7 0)<|PD.pb<|e9 (b7 3)<|c7 0)<|PD.pb<|e9 (b7 1)<|c7 0) o5))<|λ_=>u0) y9) j3)
   (d5<|f6<|jP (c5 u3 (PD.pb<|c5 t9 (PD.pb<|c5 p5 (b7 2) o5) o5) o5) (c5 u3 (PD.pb<|c5 t9 (PD.pb<|c5 p5 (b7 2) o5) o5) o5)<|c5 u3 (PD.pb<|c5 t9 (PD.pb<|c5 p5 (b7 2) o5) o5) o5))))))))
 replace h:=cA h;let{d0,r,rfl,h}:=h;replace h:=tE h;let{L,r,rfl,h}:=h;replace h:=M1 h;let{c,r,rfl,h}:=h;replace h:=u5 h;let{rfl,h}:=h;replace h:=P1 h;let{n,rfl}:=h;have l0:0<L.length:=aFv λz=>n (aBK z);have v:kR [.lst (L.map vd)]=.ok (.int (L.length:Int)):=by erw[kR,aAf]
 have s:∀x:Int,kF (.int x) (.int (L.length:Int))=.ok (.int (x.fmod L.length)):=λx=>S5 (by lia);have i:kF (.int c) (.int 4)=.ok (.int (c.fmod 4)):=S5 (by decide);have e:∀x:Int,kF (.int x) (.int 41)=.ok (.int (x.fmod 41)):=λx=>S5 (by decide);have f:∀{x w:Int},0<w->w<1000000000000000->L5 (.int x) (.int w)=.ok (.int (x.fdiv w)):=λE H=>F9 E H;have t:∀x:Int,L5 (.int x) (.int 2)=.ok (.int (x.fdiv 2)):=λx=>f (by decide) (by decide);have I:∀x:Int,L5 (.int x) (.int 3)=.ok (.int (x.fdiv 3)):=λx=>f (by decide) (by decide);have j:∀k:Int,ZB (.int (c.fmod 4)) (.int k)=.ok (.bl (decide (c.fmod 4=k))):=λk=>IC _ _;have u:=f (x:=c) (w:=4) (by decide) (by decide);show f9 (j8 (j8 (C8 rfl) v) rfl) ?_;show f9 (j8 (j8 rfl<|j8 (j8 u<|s _)<|XJ n<|c.fdiv 4) rfl) ?_;show f9 (j8 (j8 rfl (j8 (j8 (f (w:=40) (by decide) (by decide))<|s _)<|XJ n<|c.fdiv 40)) rfl) ?_;show f9 (j8 (j8 rfl (j8 (j8 (f (w:=400) (by decide) (by decide))<|s _)<|XJ n<|c.fdiv 400)) rfl) ?_;unfold FC;generalize qD L (c.fdiv 4)=A at*
 generalize qD L (c.fdiv 40)=B at*
 generalize qD L (c.fdiv 400)=C at*
 by_cases c0:c.fmod 4=0
 .rw[kc c0];show N6 (HZ (j8 (j8 i<|(j 0).trans (km (λb=>R.ok (D.bl b))<|decide_eq_true c0)) rfl) rfl)
 rw[kd c0];show f9 (L6<|j8 (j8 i<|(j 0).trans (km (λb=>R.ok (D.bl b))<|decide_eq_false c0)) rfl) ?_;by_cases o:c.fmod 4=1
 .rw[kc o];show N6 (HZ (j8 (j8 i<|(j 1).trans (km (λb=>R.ok (D.bl b))<|decide_eq_true o)) rfl)<|j8 (j8 (B4 (t<|A.x+B.x)<|B4 (t<|A.y+B.y)<|B4 (t<|A.z+B.z) rfl) rfl) rfl)
 rw[kd o];show f9 (L6<|j8 (j8 i<|(j 1).trans (km (λb=>R.ok (D.bl b))<|decide_eq_false o)) rfl) ?_;by_cases p:c.fmod 4=2
 .rw[kc p];show N6 (HZ (j8 (j8 i<|(j 2).trans (km (λb=>R.ok (D.bl b))<|decide_eq_true p)) rfl)<|j8 (x:=vd {(A.x+B.x+C.x).fdiv 3,(A.y+B.y+C.y).fdiv 3,(A.z+B.z+C.z).fdiv 3}) (j8 (C8 (a:=.lst [.int ((A.x+B.x+C.x).fdiv 3),.int ((A.y+B.y+C.y).fdiv 3),.int ((A.z+B.z+C.z).fdiv 3)])<|j8 (x:=bT 0 3) rfl ?_) rfl) rfl);show(aG (λ(k:Nat)=>D.int (k:Int)) D.int (λk=>(qL A k+qL B k+qL C k).fdiv 3) (aDW 0 3) (by decide) λk l=>{_,rfl,?_}).trans rfl;rw[aDK]at l;have l:k<3:=by lia
  show j8 (j8 (j8 (rS l)<|j8 (rS l) rfl)<|j8 (rS l) rfl) (I _)
 rw[kd p];show f9 (L6<|j8 (j8 i<|(j 2).trans (km (λb=>R.ok (D.bl b))<|decide_eq_false p)) rfl) ?_;show kH (j8 (B4 (j8 (j8 u<|e _) rfl) (B4 (j8 (j8 (f (w:=164) (by decide) (by decide))<|e _) rfl) (B4 (j8 (j8 (f (w:=6724) (by decide) (by decide))<|e _) rfl) rfl))) rfl)
def bF(J8:u9 P w K mg base 1 "_law_cross" 2 w5)(F1:u9 P w K mg base 1 "_law_way" 2 l6)(A5:u9 P w K mg base 1 "_law_product" 2 n4)(cb:mg "range"=none)(bf:mg "len"=none)(Q:mg "max"=none)(md:mg "min"=none)(g:Z7 K mg "_law_planes" R6):u9 P w K mg base 2 "_law_planes" 1 GV:=by
 refine' l7 (k:=1) (F:=_) g tW (λt hu dc s=>?b) λds d hl h=>?_
 case b=>
  refine' (b9 (aH 1 (fU o8) s)
   (b9 (B9 aAK rfl (K4<|u8 (PD.pb<|vT M2<|b7 0) y9) (j5 2 s) (d5 (B9 aAK rfl (K4<|u8 (b7 2) y9) (j5 3 s) (d5 (B9 aAK rfl (K4<|u8 (b7 3) y9) (j5 4 s) (b9 (i7 5 (U5 J8 t (U5 F1 t (e9 (b7 0)<|c7 2)<|e9 (b7 0)<|c7 3)<|U5 F1 t (e9 (b7 0)<|c7 2)<|e9 (b7 0)<|c7 4) s)
   (b9 (fT 6 ["P"] ["normal", "land", "i"] [5,0,2] s rfl (E9 (sc:=c8 R6) (N:=iL)) (o9<|c7 0) (HK λ_ _ _ _ _=>(U5 A5 t (c7 1)<|U5 F1 t (e9 (b7 2)<|c7 3)<|c7 0))<|λ_=>u0)
   (b9 (n6 (zZ.pt<|qK (j1 (Y8 hu) (b7 5)<|PD.pb<|jP c6 c6 c6)<|kQ<|j1 yx (PD.pb<|fI (XZ rfl)<|u8 (b7 6) y9) o5) (d5<|L9 1<|vK (c7 5)<|e9 (b7 0)<|c7 2) j3)
   (d5<|n6 (zZ.pt<|qK (j1 (Y8 hu) (b7 5)<|PD.pb<|jP c6 c6 c6)<|kQ<|j1 yz (PD.pb<|fI (LI rfl)<|u8 (b7 6) y9) o5) (d5<|L9 1<|vK (jP (c5 u3 o5<|PD.pb<|e9 (b7 5) c6) (c5 u3 o5<|PD.pb<|e9 (b7 5) c6)<|c5 u3 o5<|PD.pb<|e9 (b7 5) c6)<|e9 (b7 0)<|c7 2) j3)))))))))
   (d5<|kC 1<|f6<|c7 1)))
 replace h:=tE h;let{S,ds,rfl,h}:=h;replace h:=u5 h;let{rfl,h}:=h;replace h:=P1 h;let{{sz,sn,ug},rfl}:=h;have rI:∀i:Nat,i<=S.length->fO [.int (i:Int)]=.ok (bT 0 i):=λi L=>uz (by lia);have lL:kR [.lst (S.map vd)]=.ok (.int (S.length:Int)):=by erw[kR,aAf]
 show f9 rfl ?_;show GT (x:=bT 0 S.length) (j8 (C8<|j8 (C8 rfl) lL)<|rI _<|aAh _) ?_;show LJ (λi ρ=>∃u q p f e,ρ=[.v (.lst (S.map vd)),.o ((lp i (uk S) []).map pn),u,q,p,f,e]) ?_ {_,_,_,_,_,rfl} ?_
 .rintro i _ L ρ ⟨u,q,p,f,e,rfl⟩;have L:i<S.length:=by lia
  have n1:=nE (a:=[]) (m:=S.length) (λk T x=>a2h (S:=S) (i:=k) (ps:=x) (by lia)) (n:=i) (by lia);show NQ (ρ':=[.v (.lst (S.map vd)),.o ((lp i (uk S) []).map pn),.v (.int (i:Int)),q,p,f,e]) rfl ?_;show∃r:Ev,_/\∃u q p f e,r=[.v (.lst (S.map vd)),.o ((lp i (XT S i)<|lp i (uk S) []).map pn),u,q,p,f,e];generalize lp i (uk S) []=fs at*
  rw[aBV]at n1;show a7f (x:=bT 0 i) (j8 (C8 rfl) (rI i (by lia))) ?_;show QG (λj ρ=>∃q p f e,ρ=[.v (.lst (S.map vd)),.o ((lp j (XT S i) fs).map pn),.v (.int (i:Int)),q,p,f,e]) ?_ {_,_,_,_,rfl} ?_
  .rintro j _ hj ρ ⟨q,p,f,e,rfl⟩;have hj:j<i:=by lia
   have n2:=nE (a:=fs) (m:=i) (λk T x=>TZ (S:=S) (i:=i) (j:=k) (ps:=x) (by lia)) (n:=j) (by lia);show NQ (ρ':=[.v (.lst (S.map vd)),.o ((lp j (XT S i) fs).map pn),.v (.int (i:Int)),.v (.int (j:Int)),p,f,e]) rfl ?_;show∃r:Ev,_/\∃q p f e,r=[.v (.lst (S.map vd)),.o ((lp j (FI S i j)<|lp j (XT S i) fs).map pn),.v (.int (i:Int)),q,p,f,e];generalize lp j (XT S i) fs=E at*
   show a7f (x:=bT 0 j) (j8 (C8 rfl) (rI j (by lia))) ?_;show QG (λk ρ=>∃p f e,ρ=[.v (.lst (S.map vd)),.o ((lp k (FI S i j) E).map pn),.v (.int (i:Int)),.v (.int (j:Int)),p,f,e]) ?_ {_,_,_,rfl} ?_
   .rintro k _ T ρ ⟨p,f,e,rfl⟩;have T:k<j:=by lia
    have n3:=nE (a:=E) (m:=j) (λl hl x=>WC S i j l x) (n:=k) (by lia);show NQ (ρ':=[.v (.lst (S.map vd)),.o ((lp k (FI S i j) E).map pn),.v (.int (i:Int)),.v (.int (j:Int)),.v (.int (k:Int)),f,e]) rfl ?_;show∃r:Ev,_/\∃p f e,r=[.v (.lst (S.map vd)),.o ((FI S i j k<|lp k (FI S i j) E).map pn),.v (.int (i:Int)),.v (.int (j:Int)),p,f,e];generalize lp k (FI S i j) E=H at*
    have I:W7 (.lst (S.map vd)) (.int (i:Int))=.ok (vd<|S.getD i 0):=uC (getD_at L);have iB:W7 (.lst (S.map vd)) (.int (j:Int))=.ok (vd<|S.getD j 0):=uC (getD_at (by lia));have iC:W7 (.lst (S.map vd)) (.int (k:Int))=.ok (vd<|S.getD k 0):=uC (getD_at (by lia));have J:=sz _ (G6 L);have sB:=sz _ (G6 (show j<S.length by lia));have sC:=sz _ (G6 (show k<S.length by lia));unfold FI;generalize S.getD i 0=A at*
    generalize S.getD j 0=B at*
    generalize S.getD k 0=C at*
    have w1:=mQ A B;have w2:=mQ A C;have cc:=S6 (I9 sB J).mono (I9 sC J).mono;have sN:Sz 2003 (G.cr (B-A)<|C-A):=(JM (I9 sB J)<|I9 sC J).mono;have pr:∀X∈S,l6 [vd A,vd X]=.ok (vd<|X-A)/\n4 [vd (G.cr (B-A)<|C-A),vd (X-A)]=.ok (.int (G.d6 (G.cr (B-A)<|C-A)<|X-A)):=λX O=>{mQ A X,aJ sN.mono (I9 (sz X O) J).mono};generalize G.cr (B-A) (C-A)=N at*
    let{mx,mi}:=ay (c:=N) (A:=A) sn;show aR (ρ:=[.v (.lst (S.map vd)),.o (H.map pn),.v (.int (i:Int)),.v (.int (j:Int)),.v (.int (k:Int)),.v (vd N),e]) (j8 (j8 (B5 (j8 (B5 I iB) w1)<|j8 (B5 I iC) w2) cc) rfl) ?_;show aR (ρ:=[.v (.lst (S.map vd)),.o (H.map pn),.v (.int (i:Int)),.v (.int (j:Int)),.v (.int (k:Int)),.v (vd N),.v (.lst ((iV S N A).map D.int))]) ?_ ?_
    .show j8 (x:=.lst ((iV S N A).map D.int)) (j8 (x:=S.map vd) rfl ?_) rfl;show(aG vd D.int (λX=>G.d6 N (X-A)) S (by lia) λX O=>{_,rfl,?_}).trans rfl;show j8 (B5 rfl<|j8 (B5 I rfl) (pr X O).1) (pr X O).2
    have l1:=(IE S N A H).1;show aR (ρ:=[.v (.lst (S.map vd)),.o ((OZ S N A H).map pn),.v (.int (i:Int)),.v (.int (j:Int)),.v (.int (k:Int)),.v (vd N),.v (.lst ((iV S N A).map D.int))]) ?_ {[.v (.lst (S.map vd)),.o ((XV S N A<|OZ S N A H).map pn),.v (.int (i:Int)),.v (.int (j:Int)),.v (.int (k:Int)),.v (vd N),.v (.lst ((iV S N A).map D.int))],?_,_,_,_,rfl}
    .show a7i (JX (j8 (WS N 0) rfl)<|j8 (j8 (j8 (C8 rfl) mx) rfl) rfl) (λz=>?_) λz=>?_
     .let{U,Y}:=(aAP _ _).mp z;unfold OZ;rw[kc {of_decide_eq_true U,of_decide_eq_true Y},aBX];show j8 (j8 (B5 rfl I) rfl) (a5e (by rw[aAf];change _<2^24;lia))
     unfold OZ;rw[kd λy=>?_];rw[decide_eq_true y.1,decide_eq_true y.2]at z;cases z
    show a7i (JX (j8 (WS N 0) rfl)<|j8 (j8 (j8 (C8 rfl) mi) rfl) rfl) (λz=>?_) λz=>?_
    .let{U,Y}:=(aAP _ _).mp z;unfold XV;rw[kc {of_decide_eq_true U,of_decide_eq_true Y},aBX];show j8 (j8 (B5 (j8 (B4 rfl<|B4 rfl<|B4 rfl rfl) rfl) I) rfl) (a5e (by rw[aAf];change _<2^24;lia))
    unfold XV;rw[kd λy=>?_];rw[decide_eq_true y.1,decide_eq_true y.2]at z;cases z
   rintro ρ ⟨p,f,e,rfl⟩;rw[aDX];show{_,_,_,_,rfl}
  rintro ρ ⟨q,p,f,e,rfl⟩;rw[aDX];show{_,_,_,_,_,rfl}
 rintro ρ ⟨u,q,p,f,e,rfl⟩;rw[aDX];rfl
def Y5(A5:u9 P w K mg base 1 "_law_product" 2 n4)(F1:u9 P w K mg base 1 "_law_way" 2 l6)(g:Z7 K mg "_law_outside" Y1):u9 P w K mg base 2 "_law_outside" 2 FK:=by
 refine' l7 (k:=1) (F:=_) g pK (λr C E s=>?b) λt d e h=>?_
 case b=>
  refine' (b9 (B9 aAK rfl (o9<|c7 0) (U7 (n:=2) rfl<|q8 (j5 2 s)<|q8 (j5 3 s) N8)<|d5<|n6 (j1 iQ (PD.pb<|U5 A5 r (c7 2)<|U5 F1 r (c7 3)<|c7 1) o5) (d5<|f6 Y6) j3)
   (d5<|f6 Y6))
 replace h:=cA h;let{l,t,rfl,h}:=h;replace h:=z8 h;let{x,y,z,t,rfl,h}:=h;replace h:=u5 h;let{rfl,h}:=h;replace h:=P1 h;let{{e,u},rfl}:=h;obtain⟨a,f⟩:∃P:G.V,P=⟨x,y,z⟩:={_,rfl};rw[show(.tup [.int x,.int y,.int z]:D)=vd a by rw[f],<-f];rw[<-f]at u;show a3k pn (λp=>0<G.d6 p.1 (a-p.2)) (λi=>∃j m,i=[.v (mj l),.v (vd a),j,m]) ?_ l _ {_,_,rfl} ?_
 .rintro i ⟨j,m,rfl⟩;rfl
 rintro p B i ⟨j,m,rfl⟩;have w:=(λq A=>aJ (e q A).1.mono (I9 u (e q A).2).mono) p B;show{λo=>(HZ (j8 (j8 (j8 (B5 rfl<|j8 (B5 rfl rfl)<|mQ p.2 a) w)<|km (λb=>R.ok (D.bl b))<|decide_eq_true o) rfl) rfl),λo=>{[.v (mj l),.v (vd a),.v (vd p.1),.v (vd p.2)],(L6<|j8 (j8 (j8 (B5 rfl<|j8 (B5 rfl rfl)<|mQ p.2 a) w)<|km (λb=>R.ok (D.bl b))<|decide_eq_false o) rfl),_,_,rfl}}
def W5(f:mg "isinstance"=none)(i:mg "bool"=none)(a:mg "int"=none)(g:Z7 K mg "_law_whole" cM):u9 P w K mg base 1 "_law_whole" 1 fG:=by
 refine' l7 (k:=0) (F:=_) g vC (λj l m n=>?b) λe d o h=>?_
 case b=>refine' (d5<|f6<|FX (rA rq<|b7 0)<|WU<|a2i<|rA VF<|b7 0)
 match e,h with
 |[x],h=>rw[<-h];cases x<;>rfl
def aZ(W5:u9 P w K mg base 1 "_law_whole" 1 fG)(B:mg "len"=none)(C:mg "isinstance"=none)(E:mg "tuple"=none)(H:mg "abs"=none)(g:Z7 K mg "_law_lowest" bB):u9 P w K mg base 2 "_law_lowest" 1 HA:=by
 refine' l7 (k:=1) (F:=_) g tQ (λl n I i=>?b) λr d L h=>?_
 case b=>
  refine' (b9 (n6 (zZ.pt<|U0 (aE<|R5<|rA wU<|b7 0)<|U0 (j1 (Y8 n) (PD.pb<|vT M2<|b7 0) o5)<|U0 (aE<|R5<|vI W5 l<|e9 (b7 0) c6)<|dF<|aE<|R5<|vI W5 l<|e9 (b7 0) c6) (d5<|f6 Y6) j3)
   (b9 (i7 1 (vT GS<|PD.pb<|e9 (b7 0) c6) i)
   (b9 (i7 2 (vT GS<|PD.pb<|e9 (b7 0) c6) i)
   (b9 (gF (vq 2) aAK (j1 iQ (b7 2) o5)<|d5<|BQ 1 2 rfl i<|f7 (c7 2)<|f7 (c5 t9 (b7 1)<|b7 2) o8)
   (d5<|f6<|FX (jL iQ (PD.pb<|e9 (b7 0) c6) o5)<|FX (jL iQ (PD.pb<|e9 (b7 0) c6) o5)<|WU<|jL (M6 n) (b7 1) o5)))))
 replace h:=uI h;let{Y,r,rfl,h}:=h;replace h:=M1 h;let{a,N,rfl,h}:=h;replace h:=M1 h;let{b,O,rfl,h}:=h;replace h:=u5 h;let{rfl,h}:=h;replace h:=u5 h;let{rfl,h}:=h;replace h:=P1 h;let{{s,t,u},rfl}:=h;show f9 (L6<|iP (fB rfl)<|iP rfl<|iP (fB rfl)<|fB rfl) ?_;have o:∀x:Int,a2v [.int x]=.ok (.int (x.natAbs:Int)):=λx=>by rw[UW];congr 2;split<;>lia
 show f9 (j8 (j8 (C8 rfl)<|o a) rfl) ?_;show f9 (j8 (j8 (C8 rfl)<|o b) rfl) ?_;show GH (J:=λe=>e=[.v (.tup [.int a,.int b]),.v (.int 1),.v (.int 0)]) (uF (λm e=>∃p q:Nat,e=[.v (.tup [.int a,.int b]),.v (.int p),.v (.int q)]/\q<m/\aDo p q=1) ?_ (by rintro e ⟨p,q,_,h,_⟩;lia) {a.natAbs,b.natAbs,rfl,by change b.natAbs<((b.natAbs:Int).natAbs)+2;lia,u} ?_) ?_
 .rintro m e ⟨p,q,rfl,y,f⟩;by_cases j:q=0
  .show .inl (by simp[j])
  show .inr {by simp;lia,_,?_,q,p%q,rfl,?_,?_}
  .have em:kF (.int (p:Int)) (.int (q:Int))=.ok (.int ((p%q:Nat):Int)):=by rw[uJ (by lia),aFi _ (by lia)];rfl
   show j8 (B5 rfl em) rfl
  .have:=aER p (show 0<q by lia)
   lia
  rw[aGj,<-Nat.gcd_rec,aGj];show f
 .rintro m e ⟨p,q,rfl,y,f⟩ A;have j:q=0:=by
   by_cases z:q=0
   .show z
   simp at A;lia
  subst j;rw[Nat.gcd_zero_right]at f;subst f;rfl
 rintro e rfl;show kH (ww (km (λb=>R.ok (D.bl b))<|decide_eq_true t)<|ww (km (λb=>R.ok (D.bl b))<|decide_eq_true s) rfl)
def bA(F1:u9 P w K mg base 1 "_law_way" 2 l6)(J8:u9 P w K mg base 1 "_law_cross" 2 w5)(A5:u9 P w K mg base 1 "_law_product" 2 n4)(p:mg "len"=none)(g:Z7 K mg "_law_spread" R9):u9 P w K mg base 2 "_law_spread" 1 HW:=by
 refine' l7 (k:=1) (F:=_) g sV (λf i r m=>?b) λn d s h=>?_
 case b=>
  refine' (b9 (fT 1 ["P"] ["corners"] [0] m rfl (E9 (sc:=c8 R9) (N:=iI)) (o9<|kK (b7 0) (J1 c6) Z1) (HK λ_ _ _ _ _=>(U5 F1 f (e9 (b7 1) c6)<|c7 0))<|λ_=>u0)
   (b9 (n6 (j1 (M6 i) (PD.pb<|vT M2<|b7 1) o5) (d5<|f6<|jL (Y8 i) (PD.pb<|U5 J8 f (e9 (b7 1) c6)<|e9 (b7 1) c6)<|PD.pb<|jP c6 c6 c6) j3)
   (b9 (n6 (j1 (M6 i) (PD.pb<|vT M2<|b7 1) o5) (d5<|f6<|jL (Y8 i) (PD.pb<|U5 A5 f (U5 J8 f (e9 (b7 1) c6)<|e9 (b7 1) c6)<|e9 (b7 1) c6) o5) j3)
   (d5<|f6<|jL DW (PD.pb<|vT M2<|b7 1) o5))))
 replace h:=tE h;let{l,n,rfl,h}:=h;replace h:=u5 h;let{rfl,h}:=h;replace h:=P1 h;let{{e,q},rfl}:=h;rcases q with⟨a,rfl⟩|⟨a,b,rfl⟩|⟨a,b,c,rfl,q⟩|⟨a,b,c,d,rfl,q⟩
 .show f9 rfl (f9 (L6 rfl)<|f9 (L6 rfl) rfl)
 .show f9 (ρ:=[.v (.lst [vd a,vd b]),.v (.lst [vd (b-a)])]) rfl (f9 (L6 rfl)<|f9 (L6 rfl) rfl)
 .show f9 (ρ:=[.v (.lst [vd a,vd b,vd c]),.v (.lst [vd (b-a),vd (c-a)])]) rfl (N6<|HZ rfl ?_);have j:=I9 (e b<|.tail _ (.head _)) (e a<|.head _);have sc:=I9 (e c<|.tail _ (.tail _ (.head _))) (e a<|.head _);show j8 (j8 (j8 (B5 rfl rfl)<|S6 j.mono sc.mono)<|(WS _ 0).trans (km (λb=>R.ok (D.bl b))<|decide_eq_true q)) rfl
 show f9 (ρ:=[.v (.lst [vd a,vd b,vd c,vd d]),.v (.lst [vd (b-a),vd (c-a),vd (d-a)])]) rfl (f9 (L6 rfl)<|N6<|HZ rfl ?_);have j:=I9 (e b<|.tail _ (.head _)) (e a<|.head _);have sc:=I9 (e c<|.tail _ (.tail _ (.head _))) (e a<|.head _);have o:=I9 (e d<|.tail _ (.tail _ (.tail _ (.head _)))) (e a<|.head _);show j8 (j8 (j8 (B5 (j8 (B5 rfl rfl)<|S6 j.mono sc.mono) rfl)<|aJ (JM j sc).mono o.mono) ((HI _ _).trans (km (λb=>R.ok (D.bl b)) (by simp[q])))) rfl
def Z3(tf:mg "sum"=none)(cb:mg "range"=none)(bf:mg "len"=none)(g:Z7 K mg "_law_come_to" J3):u9 P w K mg base 1 "_law_come_to" 2 yP:=by
 refine' l7 (k:=0) (F:=_) g pI (λhr J dc o=>?b) λB d hl h=>?_
 case b=>
  refine' (b9 (i7 2 c6 o)
   (b9 (B9 aAK rfl (o9<|c7 0) (U7 (n:=2) rfl<|q8 (j5 3 o)<|q8 (j5 4 o) N8)<|d5<|i7 2 (c5 j7 (b7 2)<|PD.pb<|e9 (b7 4) c6) o)
   (b9 (i7 5 (J9 ["corner", "share"] ["bottom"] [2] rfl (E9 (sc:=c8 J3) (N:=Y3)) (o9<|c7 0) (by rintro L fp X2 ⟨s0,H1,C,rfl⟩;show{(U7 (n:=2) rfl (q8 (j5 0 (show(["corner", "share", "bottom"]:List Str).Nodup by decide+kernel)) (q8 (j5 1 (show(["corner", "share", "bottom"]:List Str).Nodup by decide+kernel)) N8))),zQ,(c5 j7 (PD.pb<|e9 (b7 1) c6)<|PD.pb<|c5 p5 (b7 2)<|PD.pb<|e9 (b7 1) c6)})<|λ_=>BV) o)
   (b9 (n6 (j1 (Y8 J) (PD.pb<|vT (QH rfl)<|b7 5)<|b7 2) (d5<|f6 Y6) j3)
   (b9 (B9 aAK rfl (K4<|u8 o5 y9) (j5 6 o)<|d5<|n6 (j1 (Y8 J) (PD.pb<|vT (QH rfl)<|PD.pb<|J9 ["j"] ["tops", "k", "found"] [5,6,0] rfl (E9 (sc:=c8 J3) (N:=Y3)) (K4<|u8 (PD.pb<|vT M2<|b7 0) y9) (HK λ_ _ _ _ _=>(c5 j7 (PD.pb<|e9 (b7 1)<|c7 0)<|PD.pb<|e9 (PD.pb<|e9 (PD.pb<|e9 (b7 3)<|c7 0) c6)<|c7 2))<|λ_=>u0)<|PD.pb<|c5 j7 (b7 2)<|PD.pb<|e9 (b7 1)<|c7 6) (d5<|f6 Y6) j3)
   (d5<|f6 Y6))))))
 replace h:=cA h;let{l,B,rfl,h}:=h;replace h:=z8 h;let{x,y,z,B,rfl,h}:=h;replace h:=u5 h;let{rfl,h}:=h;replace h:=P1 h;let{{{fl,u},O,sm,Q},rfl}:=h;obtain⟨a,T⟩:∃P:G.V,P=⟨x,y,z⟩:={_,rfl};rw[show(.tup [.int x,.int y,.int z]:D)=vd a by rw[T]];rw[<-T]at O Q;have U:bits (lQ l)<=40000:=o7 (AT (b:=1) (n:=1) (by decide) λp e=>(u p e).2.2.2) (by lia);show f9 rfl ?_;show GT (x:=l.map IW) rfl ?_;show bH (λrest ρ=>∃b f i l2,ρ=[.v (eJ l),.v (vd a),.v (.int b),f,i,.no,.no]/\rest=l2.map IW/\l2.foldl (λb p=>b*p.2.2) b=lQ l/\bits b+9000*l2.length<=40000/\∀p∈l2,p∈l) ?_ {1,_,_,l,rfl,rfl,rfl,by change 1+9000*l.length<=40000;lia,λ_ h=>h} ?_
 .rintro d B ρ ⟨b,f,i,l2,rfl,A,t,Y,E⟩;cases l2 with
  |nil=>cases A
  |cons p l2=>injection A with e4 e5;subst e4 e5;rw[aAp,Nat.mul_succ]at Y;have pb:=(u p<|E p<|.head _).2.2.2;have H:uO (.int b) (.int p.2.2)=.ok (.int (b*p.2.2)):=j9 (v9.of (show bits b<=40000 by lia) pb);have:=bits_mul (aAh<|bits b) pb;show a6s rfl {_,j8 H rfl,b*p.2.2,_,_,l2,rfl,rfl,t,by lia,λq hq=>E q (.tail _ hq)}
 rintro ρ ⟨b,f,i,l2,rfl,A,t,Y,E⟩;have:l2=[]:=by simpa using A.symm
 subst this;have t:b=lQ l:=t;subst t;have dv:∀p∈l,L5 (.int (lQ l)) (.int p.2.2)=.ok (.int ((lQ l).fdiv p.2.2))/\uO (.int p.2.1) (.int ((lQ l).fdiv p.2.2))=.ok (.int (p.2.1*(lQ l).fdiv p.2.2))/\bits (p.2.1*(lQ l).fdiv p.2.2)<=50000:=λp e=>by let{q1,q2,q3,q4}:=u p e;have bd:bits ((lQ l).fdiv p.2.2)<=40000:=bits_fdiv U;show{bN {by lia,i6 q4},j9 (v9.of q3 bd),o7 (bits_mul q3 bd) (by decide)}
 show f9 (ρ:=[.v (eJ l),.v (vd a),.v (.int (lQ l)),f,i,.v (.lst ((eS l).map D.int)),.no]) (j8 (x:=.lst ((eS l).map D.int)) (j8 (x:=l.map IW) rfl ?_) rfl) ?_
 .show(aG IW D.int (λp=>p.2.1*(lQ l).fdiv p.2.2) l (by lia) λp e=>{_,rfl,?_}).trans rfl;let{q1,q2,_}:=dv p e;show j8 rfl (j8 (j8 rfl q1) q2)
 show f9 (L6<|j8 (j8 (j8 (C8 rfl)<|UZ<|eS l)<|xw sm) rfl) ?_;show GT (x:=bT 0 3) rfl ?_;show LJ (λk ρ=>∃I,ρ=[.v (eJ l),.v (vd a),.v (.int (lQ l)),f,i,.v (.lst ((eS l).map D.int)),I]) ?_ {_,rfl} ?_
 .rintro k _ r ρ ⟨I,rfl⟩;have r:k<3:=by lia
  show NQ (ρ':=[.v (eJ l),.v (vd a),.v (.int (lQ l)),f,i,.v (.lst ((eS l).map D.int)),.v (.int (k:Int))]) rfl {[.v (eJ l),.v (vd a),.v (.int (lQ l)),f,i,.v (.lst ((eS l).map D.int)),.v (.int (k:Int))],?_,_,rfl};have lL:kR [eJ l]=.ok (.int (l.length:Int)):=by erw[kR,aAf]
  have rg:fO [.int (l.length:Int)]=.ok ((aDW 0 l.length).map λ(k:Nat)=>D.int (k:Int)):=uz (by lia);have mP:uO (.int (lQ l)) (.int (qL a k))=.ok (.int (lQ l*qL a k)):=j9 (v9.of U<|DJ O r);show L6 (j8 (j8 (j8 (C8<|j8 (j8 (C8<|j8 (C8 rfl) lL) rg) ?_)<|UZ _)<|j8 (j8 rfl<|j8 (rS r) mP)<|xw<|Q k r) rfl);show(aG (λ(k:Nat)=>D.int (k:Int)) D.int (λj=>(eS l).getD j 0*qL (l.getD j (0,0,0)).1 k) (aDW 0 l.length) (by rw[List.length_range'];lia) λj s=>{_,rfl,?_}).trans rfl;rw[aDK]at s;have s:j<l.length:=by lia
  have i1:W7 (.lst ((eS l).map D.int)) (.int (j:Int))=.ok (.int ((eS l).getD j 0)):=WZ (by rw[DT];show s);have i2:W7 (eJ l) (.int (j:Int))=.ok (IW<|l.getD j (0,0,0)):=WZ s;let{p,e,et}:=aAj.mp (xj (z:=0) (show j<(eS l).length by rw[DT];show s));have H:uO (.int ((eS l).getD j 0)) (.int (qL (l.getD j (0,0,0)).1 k))=.ok (.int ((eS l).getD j 0*qL (l.getD j (0,0,0)).1 k)):=j9 (v9.of (m:=50000) (show bits ((eS l).getD j 0)<=50000 from et▸(dv p e).2.2)<|DJ (u _<|xj s).1 r);show j8 i1 (j8 (j8 (j8 i2 rfl)<|rS r) H)
 rintro ρ ⟨I,rfl⟩;rfl
def dR(aZ:u9 P w K mg base 2 "_law_lowest" 1 HA)(bA:u9 P w K mg base 2 "_law_spread" 1 HW)(Z3:u9 P w K mg base 1 "_law_come_to" 2 yP)(U:mg "len"=none)(Y:mg "isinstance"=none)(gu:mg "list"=none)(ib:mg "tuple"=none)(bg:mg "sorted"=none)(me:mg "set"=none)(g:Z7 K mg "_law_right" W3):u9 P w K mg base 8 "_law_right" 3 AC:=by
 refine' l7 (k:=7) (F:=_) g vV (λa j dc r=>?b) λm d hl h=>?_
 case b=>
  have o:=a.ae0 (by decide);refine' (b9 (n6 (zZ.pt<|U0 (aE<|R5<|rA SU<|b7 0)<|U0 (j1 DW (PD.pb<|vT M2<|b7 0) o5)<|dF<|j1 iQ (PD.pb<|vT M2<|b7 0) o5) (d5<|f6 Y6) j3)
   (b9 (B9 aAK rfl (o9<|c7 0) (j5 3 r)<|d5<|n6 (zZ.pt<|U0 (aE<|R5<|rA wU<|b7 3)<|U0 (j1 (Y8 j) (PD.pb<|vT M2<|b7 3) o5)<|U0 (j1 (AW j) (PD.pb<|e9 (b7 3) c6)<|b7 1)<|dF<|aE<|R5<|vI aZ a<|e9 (b7 3) c6) (d5<|f6 Y6) j3)
   (b9 (fT 4 ["pair"] [] [] r rfl (E9 (sc:=c8 W3) (N:=kD)) (o9<|c7 0) (HK λ_ _ _ _ _=>(e9 (b7 0) c6))<|λ_=>u0)
   (b9 (n6 (zZ.pt<|U0 (j1 (Y8 j) (PD.pb<|PF.pd<|cR (b7 4) rfl o)<|b7 4)<|dF<|aE<|R5<|vI bA a<|c7 4) (d5<|f6 Y6) j3)
   (d5<|f6<|U5 Z3 a (c7 0)<|c7 2)))))
 replace h:=cA h;let{l,m,rfl,h}:=h;replace h:=tE h;let{B,m,rfl,h}:=h;replace h:=z8 h;let{x,y,z,m,rfl,h}:=h;replace h:=u5 h;let{rfl,h}:=h;replace h:=P1 h;let{{l1,e,C,s,E},rfl}:=h;obtain⟨q,t⟩:∃P:G.V,P=⟨x,y,z⟩:={_,rfl};rw[show(.tup [.int x,.int y,.int z]:D)=vd q by rw[t]];rw[<-t]at e;have l4:=e.1.1;have u:kR [eJ l]=.ok (.int (l.length:Int)):=by erw[kR,aAf]
 have lt:ltR (.int (l.length:Int)) (.int 1)=.ok (.bl false):=km (λb=>R.ok (D.bl b)) (decide_eq_false (by lia));have H:gtR (.int (l.length:Int)) (.int 4)=.ok (.bl false):=km (λb=>R.ok (D.bl b)) (decide_eq_false (by lia));show f9 (L6<|iP (fB rfl)<|iP (j8 (j8 (j8 (C8 rfl) u) lt) rfl)<|j8 (j8 (j8 (C8 rfl) u) H) rfl) ?_;show GT (x:=l.map IW) rfl ?_;show GH (mC (λρ=>∃f,ρ=[.v (eJ l),.v (.lst (B.map vd)),.v (vd q),f,.no]) ?_ {_,rfl}) ?_
 .rintro d I ρ ⟨f,rfl⟩;let{p,i,rfl}:=aAj.mp I;let{L,O}:=C p i;have Q:inR true (vd p.1) (.lst (B.map vd))=.ok (.bl false):=by rw[nC,decide_eq_false (λn=>n L)]
  show NQ rfl {_,L6 (iP (fB rfl)<|iP rfl<|iP (j8 (j8 rfl Q) rfl)<|fB<|j8 (j8 (C8 rfl)<|qk O) rfl),_,rfl}
 rintro ρ ⟨f,rfl⟩;show f9 (ρ:=[.v (eJ l),.v (.lst (B.map vd)),.v (vd q),f,.v (.lst ((l.map (·.1)).map vd))]) (j8 (x:=.lst ((l.map (·.1)).map vd)) (j8 (x:=l.map IW) rfl ((aG IW vd (·.1) l (by lia) λp i=>{_,rfl,rfl}).trans rfl)) rfl) ?_;have A:=QF (J:=l.map (·.1)) (by rw[s,aAf];lia);rw[s]at A;have sz:∀X∈l.map (·.1),Sz 900 X:=λX T=>by let{p,i,rfl}:=aAj.mp T;show(e.1.2 p i).1
 have ne:=xT (KG (l.map (·.1)));show f9 (L6<|iP (j8 (j8 (j8 (j8 rfl A) rfl) ne) rfl)<|fB<|j8 (j8 (C8 rfl)<|qz sz E) rfl) (kH<|j8 (B5 rfl rfl)<|dj e)
section
seal PySem.eval
def o_law{f:ba}{fd:dV}(eZ:u9 P w K mg base 2 "_law_near" 1 AE)(mJ:u9 P w K mg base 10 "body_of" 1 bV)(V4:u9 P w K mg base 2 "_law_moved" 2 qC)(bF:u9 P w K mg base 2 "_law_planes" 1 GV)(cB:u9 P w K mg base 1 "_law_asked" 3 qA)(Y5:u9 P w K mg base 2 "_law_outside" 2 FK)(dR:u9 P w K mg base 8 "_law_right" 3 AC)(a:u9 P w K mg base 10 "shares_of" 2 rO)(cH:HN P w K mg base 10 "shares_of" 2 rO)(gu:mg "list"=none)(F0:Fun K "law" "law" fC f fd):FnOk P w K mg base uM 11 f fd ["script"] (spD K 1 qB):=by
 refine' fnD (k:=10) (F:=_) F0 VZ (λT A q s H E e=>?b) λds d hl h=>?_
 case b=>
  have r:=e.units;have dc:=e.ad8;have g:=VZ.nd;refine' (b9 (fT 1 ["x", "y", "z"] [] [] g rfl (E9 (sc:=c8 fC) (N:=UB)) (o9<|vI eZ e<|c7 0) (by rintro pins fp X2 ⟨s0,H1,C,rfl⟩;show{(U7 (n:=3) rfl (q8 (j5 0 (show(["x", "y", "z"]:List Str).Nodup by decide+kernel)) (q8 (j5 1 (show(["x", "y", "z"]:List Str).Nodup by decide+kernel)) (q8 (j5 2 (show(["x", "y", "z"]:List Str).Nodup by decide+kernel)) N8)))),zQ,(jP (c5 j7 o5<|b7 0) (c5 j7 o5<|b7 1)<|c5 j7 o5<|b7 2)})<|λ_=>IA)
   (b9 (i7 2 (vI mJ e<|J9 ["spot"] ["script"] [0] rfl (E9 (sc:=c8 fC) (N:=UB)) (o9<|c7 1) (HK λ_ _ _ _ _=>(U5 V4 e (c7 0)<|c7 1))<|λ_=>u0) g)
   (b9 (i7 3 (vI bF e<|c7 2) g)
   (b9 (i7 4 (gH JN<|u8 (b7 2) y9) g)
   (b9 (B9 aAK rfl (o9<|kK (PD.pb<|c5 n9 (PD.pb<|kK (b7 0) (J1 c6)<|J1 c6)<|PD.pb<|uE<|f7 c6 o8) Z1<|J1 c6) (j5 5 g) (b9 (i7 6 (U5 V4 e (pc3 cB e (c7 0) (c7 1)<|c7 5)<|c7 0) g)
   (b9 (VW 7 (a3b cH (e.mono (by decide)) (f7 (c7 4)<|f7 (c7 6) o8)<|x5<|x5 S9) g)
   (b9 (n6 (j1 (Y8 r) (b7 4)<|b7 2) (d5<|f6 Y6) j3)
   (d5 (n6 (R5<|U5 Y5 e (c7 3)<|c7 6) (d5<|n6 (j1 kz (b7 7)<|PD.pb jC) (d5<|f6 Y6) j3) (d5 (n6 (ZF 7<|aE<|R5<|pc3 dR e (c7 7) (c7 2)<|c7 6) (d5<|f6 Y6) (b9 (i7 8 (gH JN<|u8 (b7 7) y9) g)
   (b9 (LR 7)
   (d5<|n6 (zZ.pt<|U0 (j1 (Y8 r) (PD.pb<|U5 a e (c7 4)<|c7 6)<|b7 8)<|dF<|j1 (Y8 r) (b7 4)<|b7 2) (d5<|f6 Y6) j3)))))))))))
   (d5<|f6 Y6))))))
 replace h:=mI h;let{Y,ds,rfl,h}:=h;replace h:=u5 h;let{rfl,h}:=h;replace h:=P1 h;let{{hl,j},rfl}:=h;have NR:AE [.lst Y]=.ok (.lst ((N9 (cI Y 0)<|aI Y).map vd)):=kc j;let{y1,y2}:=EB (cI Y 0) (mY j).2.1;let{z1,z2,z3,k1,k2}:=a1x (cI Y 0) (cI Y 1) (cI Y 2) (mY j).2.1;have k4:(f8<|((N9 (cI Y 0)<|aI Y).map (G.xW 6)).map (fH (cI Y 1)<|cI Y 2)).length<=14:=aAn (jQ _) (by rw[aAf];lia);have BO:=YH k1 k2 k4;have B:=a6c k1 k2 k4;have MV:∀P,Sz 100 P->qC [vd P,.lst Y]=.ok (vd<|fH (cI Y 1) (cI Y 2) P):=λP i=>kc {j,i};let{cs,c9}:=a4e j;have sl:LB (.lst Y) (some 9) (some 12)=.ok (.lst ((Y.drop 9).take 3)):=WX Y 9 12 (by decide);have t:∀{x:Int},bits x<=80->uO (.int 6) (.int x)=.ok (.int (6*x)):=λh=>j9 (v9.of (show bits 6<=10 by decide) h);show f9 (ρ:=[.v (.lst Y),.v (.lst (((N9 (cI Y 0)<|aI Y).map (G.xW 6)).map vd)),.no,.no,.no,.no,.no,.no,.no]) (j8 (x:=.lst (((N9 (cI Y 0)<|aI Y).map (G.xW 6)).map vd)) (j8 (j8 (j8 (C8 rfl) NR) rfl) ?_) rfl) ?_
 .show(aG vd vd (G.xW 6) (N9 (cI Y 0)<|aI Y) (by lia) λP i=>{_,rfl,?_}).trans rfl;let{b1,b2,b3}:=y1 P i;show j8 (B4 (t b1)<|B4 (t b2)<|B4 (t b3) rfl) rfl
 generalize(N9 (cI Y 0)<|aI Y).map (G.xW 6)=J at*
 have u:F6 (J.map<|fH (cI Y 1)<|cI Y 2)≠[]:=λz=>by let{A,hA,_}:=B.sol;rw[z]at hA;cases hA
 show f9 (j8 (j8 (C8<|j8 (x:=J.map vd) rfl ?_) BO) rfl) ?_
 .show(aG vd vd (fH (cI Y 1)<|cI Y 2) J (by lia) λP i=>{[.v (vd P),.v (.lst Y)],rfl,j8 (B5 rfl rfl) (MV P (z1 P i).mono)}).trans rfl
 generalize F6 (J.map<|fH (cI Y 1)<|cI Y 2)=L at*
 have I:iz L:={B.sz.1,u,B.len};have O:=xT (KG L);have LS:=λ{P:G.V} (i:Sz 2000 P)=>YZ (l:=jy L) (λp hp=>{(PP I p hp).2.1.mono,(B.sz.1 _ (PP I p hp).1).mono}) i;show f9 (j8 (j8 (C8 rfl)<|jx I) rfl) ?_;show f9 rfl ?_;show GT (x:=cs.map D.int) (j8 (a2r (r':=pS (.lst ((Y.drop 9).take 3)) (.lst [.int 1])) (j8 (x:=.lst ((Y.drop 9).take 3)) (j8 (x:=.lst Y) rfl<|j8 (x:=some 9) rfl<|j8 (x:=some 12) rfl sl) rfl) c9) rfl) ?_;show GH (mC (λρ=>∃a5 a6 a7 a8,ρ=[.v (.lst Y),.v (.lst (J.map vd)),.v (.lst (L.map vd)),.v (mj<|jy L),.v (.lst (L.map vd)),a5,a6,a7,a8]) ?_ {_,_,_,_,rfl}) ?_
 .rintro d hd ρ ⟨a5,a6,a7,a8,rfl⟩;let{c,_,rfl}:=aAj.mp hd;show NQ rfl ?_;have AS:=UA (d:=.lst Y) (c:=c) z2;have aS:=a1n (c:=c) z2 z1;have PS:Sz 2000 (fH (cI Y 1) (cI Y 2)<|FC J c):=(VD _ _ aS.mono).mono;show aR (j8 (j8 (B5 (j8 (B4 rfl<|B4 rfl<|B4 rfl rfl) AS) rfl)<|MV _ aS.mono) rfl) ?_;generalize fH (cI Y 1) (cI Y 2) (FC J c)=P' at*
  have m:=YL (KN B) PS;have o:=LS PS;rcases a9k B PS with⟨Q,U⟩|⟨l,Q,R,U⟩
  .rw[Q]at m;rw[U]at o;show aR (j8 (j8 (B5 rfl rfl) m) rfl) (aR (L6<|j8 O rfl) ?_);show zk (j8 (j8 (B5 rfl rfl) o) rfl) {_,L6 rfl,_,_,_,_,rfl}
  rw[Q]at m;rw[U]at o;show aR (j8 (j8 (B5 rfl rfl) m) rfl) ?_;show aR (L6<|j8 O rfl) ?_;show a4z (j8 (j8 (B5 rfl rfl) o) rfl) ?_;show a4z (fB<|j8 (j8 (B4 rfl<|B4 rfl<|B4 rfl rfl)<|SB R) rfl) ?_;show aR rfl (aR rfl {_,L6 (iP (j8 (j8 (j8 (B5 rfl rfl) m)<|xT<|my l) rfl)<|j8 O rfl),_,_,_,_,rfl})
 simp_all
end
end
end K31
section
namespace K31
open PySem L2 DL M
def truth(ns:List Int)(a:ns.length<=63)(b:∀x∈ns,aBb x<=1048576):qB [.lst (ns.map D.int)]=.ok (.bl true):=by unfold qB;show kc {by simpa using a,aq b}
section
variable [Tabs]
def all_mk{l:PySem.W.OpenLaw}{w:cf}{K:kn}{h:ck}{mg:eU}{fa f42 Pt:ba}(X:K.In h)(G:h.Ns bt mg)(hfa:mg "law"=some (.ref fa))
  (g0:Got K "way_between" aW)
  (g1:Got K "cross_of" iZ)
  (g2:Got K "product_of" dU)
  (g3:Got K "lift_of" nV)
  (g4:Got K "common_divisor" Q9)
  (g5:Got K "plane_through" U3)
  (g6:Got K "side_of" lS)
  (g7:Got K "first_real_way" R3)
  (g8:Got K "dimension_of" D1)
  (g9:Got K "refuse_flat" bD)
  (g10:Got K "points_on" aM)
  (g11:Got K "plane_about" aT)
  (g12:Got K "first_pair" cO)
  (g13:Got K "turn_of" lT)
  (g14:Got K "left_chain" cK)
  (g15:Got K "ring_of" nH)
  (g16:Got K "pairs_round" aU)
  (g17:Got K "faces_from" bZ)
  (g18:mz K "faces_of" M3 Pt)
  (g19:Got K "corners_in" dE)
  (g20:Got K "body_of" mZ)
  (g21:Got K "fraction_of" aO)
  (g22:Got K "wedges_in" aK)
  (g23:Got K "weights_in" dJ)
  (g24:Got K "weights_by" W2)
  (g25:Got K "shares_by" aD)
  (g26:Got K "shares_of" fA)
  (g27:Got K "_law_cell_at" X6)
  (g28:Got K "_law_way" jA)
  (g29:Got K "_law_cross" cF)
  (g30:Got K "_law_product" Z4)
  (g31:Got K "_law_great" dQ)
  (g32:Got K "_law_near" I0)
  (g33:Got K "_law_moved" dG)
  (g34:Got K "_law_asked" V6)
  (g35:Got K "_law_planes" R6)
  (g36:Got K "_law_outside" Y1)
  (g37:Got K "_law_whole" cM)
  (g38:Got K "_law_lowest" bB)
  (g39:Got K "_law_spread" R9)
  (g40:Got K "_law_come_to" J3)
  (g41:Got K "_law_right" W3)
  {od42 an42:Option ba}{sl42:Array (Option au)}{oc42 kV42 dc42 pm42 cd42 ct42:au}
  (a42:PySem.W.nsIn K bt "law"=some (some (.ref f42))) (l42:K.lookup f42=some {oc42,od42,.func (PySem.W.fnOf "law" "law" (C9 fC) (t7 fC) (c8 fC) .none kV42 dc42 pm42 an42 cd42 ct42),sl42}) (e42:PySem.W.codeIn K cd42 "law"=true) (k42:PySem.W.keepIn K (.ref f42)=true)
  (z_abs:PySem.W.nsIn K bt "abs"=some none)
  (z_len:PySem.W.nsIn K bt "len"=some none)
  (z_any:PySem.W.nsIn K bt "any"=some none)
  (z_min:PySem.W.nsIn K bt "min"=some none)
  (z_list:PySem.W.nsIn K bt "list"=some none)
  (L:PySem.W.nsIn K bt "reversed"=some none)
  (z_zip:PySem.W.nsIn K bt "zip"=some none)
  (z_sorted:PySem.W.nsIn K bt "sorted"=some none)
  (z_set:PySem.W.nsIn K bt "set"=some none)
  (z_range:PySem.W.nsIn K bt "range"=some none)
  (z_dict:PySem.W.nsIn K bt "dict"=some none)
  (z_sum:PySem.W.nsIn K bt "sum"=some none)
  (z_tuple:PySem.W.nsIn K bt "tuple"=some none)
  (z_max:PySem.W.nsIn K bt "max"=some none)
  (o:PySem.W.nsIn K bt "isinstance"=some none)
  (z_bool:PySem.W.nsIn K bt "bool"=some none)
  (z_int:PySem.W.nsIn K bt "int"=some none)
  {mh:ba}{T:Option ba}{N O Q:Tok}{U:Nat}{Y:Array (Option au)}
  (ca_NO_WAY:PySem.W.nsIn K bt "NO_WAY"=some (some (.ref mh))) (cl_NO_WAY:K.lookup mh=some {.type "tuple",T,.seq #[.int 0 N,.int 0 O,.int 0 Q] U,Y})
  (nt:(Pt,tbK)∈Tabs.tbs)
  (truth:∀ns:List Int,ns.length<=63->(∀x∈ns,aBb x<=1048576)->qB [.lst (ns.map D.int)]=.ok (.bl true)):
  ∃fd:dV,(∀(s:aL) (v:au),BindsTo s fd {[v],[]} [("script",v)])/\∀base:ck,K.In base->base.Ns bt mg->jW mg base->FnOk l.prog w K mg base uM 11 fa fd ["script"] (yG K):=by
 have e:=hfa.symm.trans (PySem.W.mg_of X G a42);cases e;have sv:=PySem.W.mg_none_of X G z_abs;have bf:=PySem.W.mg_none_of X G z_len;have b_any:=PySem.W.mg_none_of X G z_any;have md:=PySem.W.mg_none_of X G z_min;have gu:=PySem.W.mg_none_of X G z_list;have kl:=PySem.W.mg_none_of X G L;have td:=PySem.W.mg_none_of X G z_zip;have bg:=PySem.W.mg_none_of X G z_sorted;have me:=PySem.W.mg_none_of X G z_set;have cb:=PySem.W.mg_none_of X G z_range;have xr:=PySem.W.mg_none_of X G z_dict;have tf:=PySem.W.mg_none_of X G z_sum;have ib:=PySem.W.mg_none_of X G z_tuple;have b_max:=PySem.W.mg_none_of X G z_max;have av:=PySem.W.mg_none_of X G o;have xu:=PySem.W.mg_none_of X G z_bool;have b_int:=PySem.W.mg_none_of X G z_int;have dg:QT K mg "NO_WAY" [0,0,0]:=a2o (PySem.W.mg_of X G ca_NO_WAY) cl_NO_WAY;show{PySem.W.fnOf "law" "law" (C9 fC) (t7 fC) (c8 fC) .none kV42 dc42 pm42 an42 cd42 ct42,λs v=>.of_eq rfl,λbase _ _ hB=>?_};have bh:u9 l.prog w K mg base 1 "way_between" 2 l6:=m9 (g0.def X G);have dh:u9 l.prog w K mg base 1 "cross_of" 2 w5:=A6 (g1.def X G);have br:u9 l.prog w K mg base 1 "product_of" 2 n4:=v7 (g2.def X G);have r_lift_of:=W8 br dh bh (g3.def X G);have eu:u9 l.prog w K mg base 1 "common_divisor" 1 wI:=D3 sv (g4.def X G);have b:=T9 dh bh eu br (g5.def X G);have r_side_of:u9 l.prog w K mg base 1 "side_of" 2 bP:=lW (g6.def X G);have a:u9 l.prog w K mg base 1 "first_real_way" 1 A3:=K0 dg (g7.def X G);have gv:=J4 bh a dh br bf b_any (g8.def X G);have g:=aN gv (g9.def X G);have ji:=G9 r_side_of (g10.def X G);have ie:=K9 bh br dh b dg (g11.def X G);have p:=bY ji ie gv md (g12.def X G);have r_turn_of:=nN br dh bh (g13.def X G);have q:=V9 r_turn_of bf (g14.def X G);have r_ring_of:=mV q gu kl (g15.def X G);have i:u9 l.prog w K mg base 1 "pairs_round" 1 A2:=aQ gu td (g16.def X G);have r:=cP ie r_ring_of i bf bg (g17.def X G);have ko:=X7 ji g p r bg me hB nt (g18.def X G);have t:u9 l.prog w K mg base 8 "corners_in" 1 K5:=cG bg me (g19.def X G);have r_body_of:=mJ t ko (g20.def X G);have j:=aX eu (g21.def X G);have H:u9 l.prog w K mg base 1 "wedges_in" 1 jT:=fS cb bf (g22.def X G);have u:=cQ r_lift_of (g23.def X G);have y:=cD H u md xr td (g24.def X G);have iu:EX l.prog w K mg base 8 "shares_by" 1 yO:=cT j tf bg (g25.def X G);have r_shares_by:=iu.cal;have ja:HN l.prog w K mg base 10 "shares_of" 2 rO:=cH y ko iu (g26.def X G);have I:=ja.cal;have ia:u9 l.prog w K mg base 1 "_law_cell_at" 2 G1:=D2 bf (g27.def X G);have il:u9 l.prog w K mg base 1 "_law_way" 2 l6:=F1 (g28.def X G);have jb:u9 l.prog w K mg base 1 "_law_cross" 2 w5:=J8 (g29.def X G);have dn:u9 l.prog w K mg base 1 "_law_product" 2 n4:=A5 (g30.def X G);have z:u9 l.prog w K mg base 1 "_law_great" 1 lN:=cC (g31.def X G);have J:=eZ ia z cb (g32.def X G);have A:=V4 ia (g33.def X G);have B:u9 l.prog w K mg base 1 "_law_asked" 3 qA:=cB bf ib cb (g34.def X G);have k:=bF jb il dn cb bf b_max md (g35.def X G);have d:=Y5 dn il (g36.def X G);have C:u9 l.prog w K mg base 1 "_law_whole" 1 fG:=W5 av xu b_int (g37.def X G);have m:=aZ C bf av ib sv (g38.def X G);have n:=bA il jb dn bf (g39.def X G);have f:u9 l.prog w K mg base 1 "_law_come_to" 2 yP:=Z3 tf cb bf (g40.def X G);have E:=dR m n f bf av gu ib bg me (g41.def X G);show YM (o_law J r_body_of A k B d E I ja gu<|RX (st:=fC) l42 e42 k42) truth
end
end K31
namespace PySem.W.Fast
def tw13961139725008056401:=0
def tw4263370896970338608:=0
def tw7897397670124741632:=0
def tw10564243110479606912:=0
def tw15576245438426920539:=0
def tw15683613993601786325:=0
def tw3168793079886833464:=0
def tw15982059180671073863:=0
def tw3863022620994689591:=0
def tw9318082255066997974:=0
def tw1254879646991993086:=0
def tw7739101756415934605:=0
def tw3531068149073535515:=0
def tw12251626617665077482:=0
def tw3917101047585224304:=0
def tw7017146394800665436:=0
def tw1516660619796765425:=0
def tw16472008209486086375:=0
def tw7251011450846281262:=0
def tw14886117871436467644:=0
def tw4195145393284487484:=0
def tw3766697185245728567:=0
def tw2542892789928615598:=0
def tw10317297112029345323:=0
def tw13036344012439176455:=0
def tw3886091722656059732:=0
def tw5746735583167047662:=0
def tw13584567778625519797:=0
def tw15142461221484233262:=0
def tw8551790077574878485:=0
def tw12389264807254774651:=0
def tw3101019765112634049:=0
def tw1352357309410696921:=0
def tw3559670754290127214:=0
def tw12542822682561987494:=0
def tw17325492160404350342:=0
def tw7751340409187474757:=0
def tw6657331825958677215:=0
def tw6028710798135270894:=0
def tw4215349629248549087:=0
def tw5933558386854074971:=0
def tw16930665884410767753:=0
def tw15718823846657077107:=0
def tw11633634987320834362:=0
def tw8428415551996080601:=0
def tw16566679325743091388:=0
def tw943769116074284040:=0
def tw12343518807219194432:=0
def tw8868392735961004090:=0
def tw5107665877025081267:=0
def tw8646586674080972682:=0
def tw7654313474723639959:=0
def tw5191751105337979429:=0
def tw2599230587254022124:=0
def tw5076123575343743359:=0
def tw12543544021519335732:=0
def tw399344257431561325:=0
def tw11592472581390236763:=0
def tw6965346386836350447:=0
def tw3978770639843246436:=0
def tw4758216356838954892:=0
def tw9318888213843827497:=0
def tw5671564980775695134:=0
def tw3333992643616652488:=0
def tw12967453740566856115:=0
def tw9133631297063698198:=0
def tw9386991727365628340:=0
def tw2873504567167075789:=0
def tw3096052131596300918:=0
def tw9613624007215858105:=0
def tw18392276501790995247:=0
def tw521504453803625779:=0
def tw7300696076402245486:=0
def tw14653919847941497378:=0
def tw4256535971486751960:=0
def tw4163540466129455932:=0
def tw12782826466909941684:=0
def tw3466811239293711589:=0
def tw7906713389611002311:=0
def tw5656019440250152204:=0
def tw5383837685311487139:=0
def tw12684628343834793242:=0
def tw6902498186701598501:=0
def tw12198568279342340044:=0
def tw5889833248391666347:=0
def tw13734967618525869753:=0
def tw2828159355581591450:=0
def tw15318648216850595004:=0
def tw15254542284924535996:=0
def tw5503451638989388741:=0
def tw6277616933787749895:=0
def tw6352950839222226117:=0
def tw7927363865206707892:=0
def tw6156763113093175553:=0
def tw4061288330043771751:=0
def tw4149137247776683955:=0
def tw15905717717890818072:=0
def tw9581610978633918122:=0
def tw11067866681836280308:=0
def tw6697924275480047731:=0
def tw10808921740731878089:=0
def tw16024121492647919961:=0
def tw5094063925625309884:=0
def tw69403163441121366:=0
def tw16073528808254243472:=0
def tw12147712922090955156:=0
def tw794291331981783494:=0
def tw12781177935144099249:=0
def tw16257284858468967092:=0
def tw7905098761572864229:=0
def tw6882745983159089893:=0
def tw901503639616912236:=0
def tw8306404496715010000:=0
def tw8168099161907786101:=0
def tw11066725580719850148:=0
def tw10765245699195474846:=0
def tw13888438879245511979:=0
def tw14172283095181406073:=0
def tw5262328278956966105:=0
def tw4180360894419138845:=0
def tw10314893654997819907:=0
def tw10388242878021987588:=0
def tw222190953656453037:=0
def tw8319513382247457366:=0
def tw313162536950772249:=0
def tw17143655369811979191:=0
def tw18318233197778199341:=0
def tw13233476193505957382:=0
def tw7072427450366521011:=0
def tw16661677823421984305:=0
def tw2596033035163965199:=0
def tw2694984303179579144:=0
def tw11807572680379690156:=0
def tw6926153522075505959:=0
def tw16332303473947852997:=0
def tw4185583422565613753:=0
def tw14692643501770440817:=0
def tw15459618716119924378:=0
def tw5873082966028562352:=0
def tw4527677686190532544:=0
def tw12559040518217169323:=0
def tw11952858075480577171:=0
def tw15296958283174121429:=0
def tw3765585566871406326:=0
def tw8735046775303372032:=0
def tw13917077160685253138:=0
def tw1667041932701792991:=0
def tw10247167497062826004:=0
def tw14931809932544694757:=0
def tw13109593770609415897:=0
def tw5664856080161079890:=0
def tw17433401621631053631:=0
def tw1242663490771649864:=0
def tw9376034373116167950:=0
def tw16588774417969337471:=0
end PySem.W.Fast
open PySem PySem.W PyProof.Rows
set_option maxRecDepth 100000 in
theorem PySem.Challenge.cw_stakebodies_k31_shares_told_holds : PySem.Challenge.rw_stakebodies_k31_shares_told.Holds := by
 w_on;o_law;k_head;(case hw=>w_witness2)
 k_fill
 letI tabs9:DL.Tabs:=⟨[(176,K31.tbK)]⟩
 show DL.ZC (l:=PySem.Challenge.rw_stakebodies_k31_shares_told) (k:=11) rfl rfl {rfl,by decide,by decide} (λw h Y=>{PySem.W.km_in_of Y,PySem.W.km_tabs_of Y}) (DL.ZU (c:=180) (by k_mem) (λw=>by kernel_rfl)) (aAY.mpr {aCI,aCR}) (λw=>by kernel_rfl) ?F
 case F=>
  intro w mg fa h KX G hmg;refine' K31.all_mk KX G hmg ?_ ?_ ?_ ?_ ?_ ?_ ?_ ?_ ?_ ?_ ?_ ?_ ?_ ?_ ?_ ?_ ?_ ?_ ?_ ?_ ?_ ?_ ?_ ?_ ?_ ?_ ?_ ?_ ?_ ?_ ?_ ?_ ?_ ?_ ?_ ?_ ?_ ?_ ?_ ?_ ?_ ?_ ?a42 ?l42 ?e42 ?k42 ?z_abs ?z_len ?z_any ?z_min ?z_list ?z_reversed ?z_zip ?z_sorted ?z_set ?z_range ?z_dict ?z_sum ?z_tuple ?z_max ?z_isinstance ?z_bool ?z_int ?ca_NO_WAY ?cl_NO_WAY (aAT.mpr rfl) K31.truth
  all_goals first|(refine' DL.a2a ?a ?l ?c ?k;(case a=>k_is);(case l=>k_is);(case c=>k_is);(case k=>k_is))|(refine' DL.gw ?a ?l ?c ?k rfl ?n;(case a=>k_is);(case l=>k_is);(case c=>k_is);(case k=>k_is);(case n=>kernel_rfl))|k_is|skip
end
