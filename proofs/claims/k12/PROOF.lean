import PyProof.Rows.All
import Wide.All
import OpenK.AllK
import Wide.FinOn
import Lean
import PyProof.EqAt
import PyProof.EqKinds
import PyProof.TupleCall
import PyProof.NeKinds
import KE.RegKIsAll
import PyProof.ExcClass3
import PySem.SetTable
import PySem.Value
import PyProof.Rows.SortShellK
import PyProof.ZipIter
import KE.KRevIter
import PyProof.ListNew
import PyProof.CollectIter
import PyProof.DictWalks
import PyProof.Walks
import KE.KDictList
import PyProof.DictValues
import PyProof.SumWalkG
import OpenK.KOwn
import KE.KNestM
import PyProof.Rows.StrWeight2
import KE.KRevSl
import PyProof.SetKind
import PyProof.ForAny
import PyProof.FactsAll.set_1
import PyProof.FactsAll.set_2
import PyProof.ConsumeS
import KE.KIsAll
import KE.KDictOf
import PyProof.AttrMissHeap
import PySem.Challenge.RW_stakebodies_k12_faces_by_all_planes
set_option Elab.async false
set_option linter.all false
set_option backward.eqns.nonrecursive false
set_option maxRecDepth 100000
set_option maxHeartbeats 4000000
set_option compiler.extract_closed false
local macro_rules|`({$x:term,$y,*})=>`(⟨$x,$y,*⟩)
local macro_rules|`(tactic|show $e)=>`(tactic|refine $e)
local macro_rules|`(tactic|symm)=>`(tactic|decide)
local macro_rules|`(tactic|nofun)=>`(tactic|simp_all)
local macro_rules|`(tactic|exists $e)=>`(tactic|simpa using $e)
local macro_rules|`(tactic|erw[$r,*]$[$l]?)=>do
 let q:=r.getElems.map λx=>(⟨x.raw[1]⟩:Lean.Term)
 `(tactic|simp only[$[$q:term],*]$[$l]?)
local macro_rules|`(tactic|let $p:term:=$e)=>do
 let f(g:Lean.Syntax->Lean.MacroM (Lean.TSyntax `rcasesPat))(t:Lean.Syntax):Lean.MacroM (Lean.TSyntax `rcasesPat):=do
  match if t.isOfKind Lean.choiceKind then t[0] else t with
  |`({$x:term,*})=>
   let p<-x.getElems.mapM (g ·.raw)
   `(rcasesPat|⟨$[$p:rcasesPat],*⟩)
  |`($i:ident)=>`(rcasesPat|$i:ident)
  |_=>`(rcasesPat|_)
 let p<-f (f (f (f λ_=>`(rcasesPat|_)))) p
 `(tactic|obtain $p:rcasesPat:=$e)
theorem jk{c:Prop}{h:Decidable c}(k:c){α:Sort _}{t e:α}:ite c t e=t:=if_pos k
theorem jl{c:Prop}{h:Decidable c}(k:¬c){α:Sort _}{t e:α}:ite c t e=e:=if_neg k
theorem ka{α:Sort _}{β:Sort _}{a b:α}(f:α->β)(h:a=b):f a=f b:=congrArg f h
def kb{a:Prop}{b:Sort _}(h:a)(k:¬a):b:=absurd h k
theorem kc{p:Prop}[i:Decidable p](h:¬p):decide p=false:=decide_eq_false h
theorem kd{p:Prop}[i:Decidable p](h:p):decide p=true:=decide_eq_true h
abbrev km:=PySem.W.Frag
abbrev lb:PySem.Str:="__debug__"
abbrev lh:PySem.Str:="__classdict__"
open PySem renaming Value->av,starEach->a5,Shared->a9,Addr->bb,wpAny->bc,model->be,Program->bo,mainGlobals->bt,Around->cp,World->cq,Expr->cv,Heap->cy,Stmt->df,bootBuiltins->dm,backTo->dq,cLine->dA,eval->dC,argBest->d3,assignEach->d9,cellsFrom->ee,rawInt->et,binaryOp->eu,FuncData->eO,foldedSetIterable->eQ,compareOp->eY,NameKind->eZ,DictEntry->ff,swapsWith->fg,SetTable->fh,codeAmong->fu,attributeBase->gc,codeAny->gi,holding->gn,swapsWithSole->gs,swappedStores->gW,sysModules->h9,sliceBounds->ij,IsPair->ik,Scope->i3,pyNext->i4,behindInMarks->i5,numAt->i6,assign->ja,pickOrder->je,wpAny_bind->aAa,wpAny_pure->aAb,wpAny_holding->aAJ,wpAny_Call_Name_kw->aAK,wpAny_newObj_type->aAQ,wpAny_call_entry->aBc,codeAny_builtin->aBr,wpAny_specialOf->aBs,wpAny_truthy_bool->aBD,wpAny_seqItems->aBO,plainId_quiet->aBR,wpAny_setField_rec->aBU,wpAny_callSpecial?_slot->aBV,wpAny_setState_of->aBZ,wpAny_updateSeq->aCf,builtinLookup_eq_fast->aCg,wpAny_forIn_list->aCo,wpAny_mono->aCx,wpAny_field->aCJ,wpAny_passesOwn->aCS,wpAny_isInstance->aDa,wpAny_typeNameOfWhole_keyiter->aDb,wpAny_nextOf_list_item->aDe,wpAny_callSpecialIfBoundUnlessNone?_slot->aDj,typeLookup_type->aDq,wpAny_rule->aDu,wpAny_pyIter_list->aDv,wpAny_typeOf->aDL,codeAny_mono->aDM,wpAny_attempt->aDV,wpAny_letGo->aEc,wpAny_pyIter_slot->aEd,wpAny_execs_cons->aEn,wpAny_standAt->aEt,wpAny_execs_nil->aEx,pushCells_keeps->aEy,wpAny_setEntries_of->aEz,slot_dict_contains->aES,isSubtype_type->aEV,wpAny_tryCatch->aEX,wpAny_Assign_Name->aFb,sizeLine_eq->aFg,noFill_tuple_add->aFk,wpAny_askSetting->aFm,concat_meets->aFz,wpAny_newTuple->aFL,isSubtype_stop->aFN,wpAny_fieldsOf->aFO,wpAny_setField->aFP,wpAny_runValue->aFQ,wpAny_of_eq->aFU
open PySem.Heap renaming get?_push_of_some->aAc,lt_size->aAf,get?_push_size->aAp,get?_update_other->aAx,get?_update_self->aAX,size_push->aBw,get?_none_of_le->aEr
open List renaming getElem?_eq_getElem->aAd,mem_cons_of_mem->aAe,mem_cons->aAg,length_map->aAh,mem_of_getElem?->aAi,getElem?_eq_some_iff->aAn,mem_map->aAo,getD_eq_getElem?_getD->aAr,forall_mem_cons->aAs,length_cons->aAt,getElem?_map->aAu,pairwise_cons->aAv,getElem?_append_right->aAy,map_cons->aAz,size_toArray->aAD,mem_append_right->aAE,getElem?_append_left->aAG,length_append->aAM,reverse_cons->aAN,nodup_cons->aAP,mem_append->aAV,getElem?_zip_eq_some->aAW,not_mem_nil->aAY,lookup_cons->aAZ,getElem_of_mem->aBa,getElem?_set_self->aBf,length_take->aBh,mem_singleton->aBj,mem_iff_getElem?->aBk,range->aBm,mem_map_of_mem->aBo,mem_flatMap->aBq,all_eq_true->aBt,pairwise_map->aBv,map_map->aBx,mem_cons_self->aBA,getElem_mem->aBC,getElem?_replicate->aBE,dropLast_concat->aBH,mem_append_left->aBI,set_cons_succ->aBJ,set_cons_zero->aBK,length_eq_one_iff->aBM,map_append->aBP,cons_append->aBQ,mem_filterMap->aBS,append_nil->aBW,nodup_iff_pairwise_ne->aBX,pairwise_iff_getElem->aCa,getElem?_eq_none_iff->aCc,mem_filter->aCh,length_replicate->aCi,length_nil->aCj,mem_reverse->aCn,getElem?_cons_succ->aCq,map->aCt,mem_range->aCu,filterMap_cons->aCB,length_reverse->aCD,getElem?_toArray->aCH,set->aCI,replicate->aCL,drop_eq_getElem_cons->aCN,mem_of_getLast?->aCO,getElem?_set_ne->aCP,nodup_append->aCQ,getElem?_cons_zero->aCV,length_pos_iff->aCX,any_eq_true->aCY,length_drop->aCZ,nodup_nil->aDd,zip_cons_cons->aDg,of_mem_zip->aDl,foldl_cons->aDn,forIn_cons->aDo,getElem?_eq_none->aDs,ext_getElem?->aDt,perm_ext_iff_of_nodup->aDw,mem_of_mem_drop->aDz,getElem?_take_of_lt->aDN,getLast?_cons_cons->aDP,pairwise_singleton->aDQ,sum_cons->aDR,getElem?_drop->aDS,filterMap_map->aDU,length_pos_of_mem->aEa,take_of_length_le->aEb,pairwise_reverse->aEf,dropLast_eq_take->aEk,lookup_cons_self->aEm,getElem_map->aEo,mem_of_mem_take->aEq,getElem?_of_mem->aEs,exists_cons_of_ne_nil->aEB,head?_reverse->aEG,getLast?_cons->aEH,exists_mem_of_ne_nil->aET,length_erase_of_mem->aEZ,map_reverse->aFl,range_succ_eq_map->aFo,drop_eq_nil_of_le->aFq,take_append_drop->aFt,nil_append->aFA,mem_erase_of_ne->aFF,forIn_nil->aFM,all_cons->aFZ,map_take->aGb,map_nil->aGk
open Nat renaming le_refl->aAj,le_trans->aAk,ne_of_lt->aAl,lt_of_lt_of_le->aAm,zero_le->aAT,lt_irrefl->aBg,le_of_lt_succ->aBi,lt_succ_of_lt->aBF,lt_of_le_of_lt->aBT,le_of_lt->aCd,lt_of_le_of_ne->aCk,le_of_succ_le->aCz,le_of_not_lt->aCF,ne_of_gt->aCG,lt_or_eq_of_le->aDh,le_sub_one_of_lt->aDA,le_add_right->aDF,lt_succ_self->aDG,zero_add->aDI,mod_lt->aDJ,mul_le_mul->aEe,lt_or_gt_of_ne->aEK,lt_trans->aEL,le_of_eq->aEN,sub_lt_left_of_lt_add->aEU,gcd_dvd_left->aFj,le_antisymm->aFs,succ_pos->aFu,not_lt_zero->aFw,min_eq_left->aFx,gcd_comm->aFC,gcd->aFR
open Option.some renaming inj->aAq,injEq->aGd
open Array renaming getElem?_eq_getElem->aAw,getElem?_toList->aAB,length_toList->aBn,getElem?_eq_none->aBz,getElem?_eq_some_iff->aBY,forIn_toList->aCl,replicate->aEu,perm_iff_toList_perm->aEE,getD->aFa,getElem_toList->aFJ,toList_append->aFW,toList->aGj
open False renaming elim->aAA
open Int renaming mul_eq_zero->aAC,mul_le_mul_of_nonneg_right->aAO,mul_pos->aAR,mul_le_mul_of_nonneg_left->aAS,le_of_lt->aAU,mul_neg_of_pos_of_neg->aBd,mul_nonneg->aBN,toNat_natCast->aCy,le_refl->aCA,neg_mul_neg->aDk,lt_or_le->aDm,fmod_eq_emod_of_nonneg->aDy,eq_of_mul_eq_mul_left->aDB,mul_nonpos_of_nonneg_of_nonpos->aDO,mul_zero->aEg,mul_ediv_cancel'->aEp,toNat->aEv,mul_lt_mul_of_pos_left->aEC,le_of_mul_le_mul_right->aED,ne_of_gt->aEF,natAbs_eq_zero->aEI,ofNat_dvd_left->aEJ,neg_nonneg_of_nonpos->aEY,mul_assoc->aFe,sub_eq_zero->aFr,le_total->aGh,add_comm->aGi,gcd->aGp
open Bool renaming false_eq_true->aAF,and_eq_true->aAH,false_ne_true->aBB,eq_iff_iff->aCU,not_true->aDW,and_eq_true_iff->aFK
open PySem.Builtin.Tuple renaming tupleHashOf->aAI,tupleExact->aCT,tupleItemsOf->aDx
open PySem.PassesOwn renaming never->aAL
open PyProof.Rows renaming callWith_type1->aBb,callWith_builtin1->aBl,wpS_bind->aBu,wpS_pure->aCb,slot_tuple_getitem->aCv,wpS_forRange->aEh,listItems_at->aEi,envOfC->aEA,pairsOf_size->aEM,assignInOrder_cons->aEO,KK_mirror_equal->aFv,mirror_perm->aFS,wpS_reverse->aFT
open PySem.Builtin.Int renaming intBits->aBe
open Option renaming bind_eq_some_iff->aBp,map_eq_some_iff->aCE,isSome_iff_exists->aFd
open PySem.Around renaming under_plainId->aBy,frames_deeper->aFG
open Or renaming inr->aBG,inl->aCw
open PySem.Obj renaming mapSeq->aBL,putSet->aFD
open ForInStep renaming yield->aCe
open PySem.Value renaming type->aCm,ref->aDr,bool->aDK,int->aGo
open Ne renaming symm->aCp
open PySem.Builtin.Range renaming rangeSize->aCr,small->aFV
open PySem.NameKind renaming cell->aCs
open PySem.Builtin.List renaming listLengthHint->aCC,listSameRef->aCR,listItems->aDf,listExtendWith->aDp
open PySem.Builtin.SmallTypes renaming nextOf->aCK,ownedTupleHandOut->aDC,ownedTupleIsFree->aDH
open PySem.Builtin.Slice renaming slicePlaces->aCM,sliceAdjust->aDD
open PySem.F renaming plain_extend_loop->aCW,plain_min_loop->aDc,slot_dict_keyiterator_next->aDi,slot_zip_next->aDX,entry_min_loop->aFn
open PySem.SetTable renaming below->aDE,bits->aDT,fits->aGa,insertAt->aGg,tooFull->aGm
open PySem.SeqAt.EqAt renaming same->aDY,int_int->aEQ,of_refs->aER,int_tuple->aFH,tuple_int->aFI,int_str->aFX,str_int->aFY
open Classical renaming propDecidable->aDZ,byContradiction->aEW
open PySem.Str renaming ofString->aEj
open PySem.Heap.SameBut renaming update->aEw,refl->aGf
open PySem.Calls renaming spliced_cons->aEP,spliced_nil->aFc,callWith_builtin->aFp
open Prod renaming ext->aFf
open PySem.Moved renaming trans->aFh
open PySem.Builtin.Frozenset renaming slot0->aFi
open PySem.Builtin.Dict renaming showsAll->aFy
open List.cons renaming injEq->aFB
open List.Pairwise renaming filter->aFE,nil->aGc
open True renaming intro->aGe
open PySem.pickOrder renaming go->aGl
open Array.Perm renaming refl->aGn
abbrev B4:=PySem.Value->PySem.Shared->Prop
abbrev N7:=List (PySem.Addr×PySem.Obj)
abbrev fD:=PySem.Str->Option PySem.Value
abbrev BA:=Bool->PySem.Shared->Prop
theorem z0(_:0=0:=by rfl)(_:0=0:=by decide)(_:0=0:=by decide+kernel)(_:0=0:=by assumption)(_:0=0:=by first|show aCw rfl|show aBG (aCw rfl)|show aBG (aBG rfl))(_:0=0:=by intro _;rfl)(_:0=0:=by first|show .inl rfl|show .inr rfl|assumption)(_:0=0:=by first|show aCw rfl|show aBG rfl):0=0:=rfl
local macro_rules|`($t<|>1)=>`(autoParam $t z0._auto_1)|`($t<|>2)=>`(autoParam $t z0._auto_2)|`($t<|>3)=>`(autoParam $t z0._auto_3)|`($t<|>4)=>`(autoParam $t z0._auto_4)|`($t<|>5)=>`(autoParam $t z0._auto_5)|`($t<|>6)=>`(autoParam $t z0._auto_6)|`($t<|>7)=>`(autoParam $t z0._auto_7)|`($t<|>8)=>`(autoParam $t z0._auto_8)
set_option bootstrap.genMatcherCode false
noncomputable section
local macro_rules|`(command|def $i:declId $s:optDeclSig $v:declVal)=>`(command|noncomputable def $i $s:optDeclSig $v:declVal)
namespace G
structure V where
 x:Int
 y:Int
 z:Int
deriving DecidableEq
instance:Add V:=⟨λu v=>{u.x+v.x,u.y+v.y,u.z+v.z}⟩
instance:Sub V:=⟨λu v=>{u.x-v.x,u.y-v.y,u.z-v.z}⟩
instance:Neg V:=⟨λu=>{-u.x,-u.y,-u.z}⟩
instance:HMul Int V V:=⟨λk u=>{k*u.x,k*u.y,k*u.z}⟩
instance:OfNat V 0:=⟨{0,0,0}⟩
@[simp]def a4g(u v:V):(u+v).x=u.x+v.x:=rfl
@[simp]def a4e(u v:V):(u+v).y=u.y+v.y:=rfl
@[simp]def a4d(u v:V):(u+v).z=u.z+v.z:=rfl
@[simp]def XU(u v:V):(u-v).x=u.x-v.x:=rfl
@[simp]def XA(u v:V):(u-v).y=u.y-v.y:=rfl
@[simp]def YL(u v:V):(u-v).z=u.z-v.z:=rfl
@[simp]def a5n(u:V):(-u).x=-u.x:=rfl
@[simp]def a4p(u:V):(-u).y=-u.y:=rfl
@[simp]def a5o(u:V):(-u).z=-u.z:=rfl
@[simp]def a5a(k:Int)(u:V):(k*u).x=k*u.x:=rfl
@[simp]def a4k(k:Int)(u:V):(k*u).y=k*u.y:=rfl
@[simp]def a5r(k:Int)(u:V):(k*u).z=k*u.z:=rfl
@[simp]def mz:(0:V).x=0:=rfl
@[simp]def ZD:(0:V).y=0:=rfl
@[simp]def ZT:(0:V).z=0:=rfl
def ext{u v:V}(a:u.x=v.x)(b:u.y=v.y)(d:u.z=v.z):u=v:=by cases u;cases v;nofun
def qC{u v:V}:u=v↔u.x=v.x/\u.y=v.y/\u.z=v.z:={λh=>by subst h;show{rfl,rfl,rfl},by rintro⟨a,b,c⟩;show ext a b c}
def c6(u v:V):Int:=u.x*v.x+u.y*v.y+u.z*v.z
def cr(u v:V):V:={u.y*v.z-u.z*v.y,u.z*v.x-u.x*v.z,u.x*v.y-u.y*v.x}
def f7(a u v:V):Int:=c6 a (cr u v)
@[simp]def a3g(u v:V):(cr u v).x=u.y*v.z-u.z*v.y:=rfl
@[simp]def a3f(u v:V):(cr u v).y=u.z*v.x-u.x*v.z:=rfl
@[simp]def a2s(u v:V):(cr u v).z=u.x*v.y-u.y*v.x:=rfl
def DP(a u v w:V):f7 a u v*w+f7 a v w*u+f7 a w u*v=f7 u v w*a:=by apply ext<;>simp[f7,c6]<;>grind
def QZ(f a u v w:V):f7 a u v*c6 f w+f7 a v w*c6 f u+f7 a w u*c6 f v=f7 u v w*c6 f a:=by simp[f7,c6];grind
def j6(a u v:V):f7 a v u=-f7 a u v:=by simp[f7,c6];grind
def A9(a u:V):f7 a u u=0:=by simp[f7,c6];grind
def aJ(a u v w:V):f7 a (u+v) w=f7 a u w+f7 a v w:=by simp[f7,c6];grind
def aN(a u v w:V):f7 a u (v+w)=f7 a u v+f7 a u w:=by simp[f7,c6];grind
def SA(a u v w:V):f7 a u (v-w)=f7 a u v-f7 a u w:=by simp[f7,c6];grind
def zD(a:V)(k:Int)(u v:V):f7 a u (k*v)=k*f7 a u v:=by simp[f7,c6];grind
def R1(u v:V):c6 u v=c6 v u:=by simp[c6];grind
def X8(f u v:V):c6 f (u+v)=c6 f u+c6 f v:=by simp[c6];grind
def d5(f u v:V):c6 f (u-v)=c6 f u-c6 f v:=by simp[c6];grind
def t4(f:V)(k:Int)(v:V):c6 f (k*v)=k*c6 f v:=by simp[c6];grind
def D5(f:V)(k:Int)(v:V):c6 (k*f) v=k*c6 f v:=by simp[c6];grind
def N1(f:V):c6 f 0=0:=by simp[c6]
def T2(a u v:V):c6 (cr a u) v=f7 a u v:=by simp[f7,c6];grind
def x6{u:V}(h:u≠0):0<c6 u u:=by
 have d:u.x≠0\/u.y≠0\/u.z≠0:=by
  by_cases a:u.x=0
  .by_cases b:u.y=0
   .by_cases c:u.z=0
    .show kb (ext a b c) h
    show .inr (.inr c)
   show .inr (.inl b)
  show .inl a
 have sq:∀t:Int,0<=t*t:=λt=>by
  rcases aGh 0 t with q|q
  .show aBN q q
  have:=aBN (aEY q) (aEY q);rwa [aDk]at this
 have sqp:∀t:Int,t≠0->0<t*t:=λt e=>by
  have:=sq t;have:t*t≠0:=λz=>by rcases aAC.mp z with q|q<;>show e q
  omega
 have a:=sq u.x;have b:=sq u.y;have c:=sq u.z;unfold c6;rcases d with q|q|q
 .have:=sqp _ q;omega
 .have:=sqp _ q;omega
 have:=sqp _ q;omega
def x4(h:n≠0)(a:c6 n u=0)(b:c6 n v=0)(d:c6 n w=0):f7 u v w=0:=by
 have e:f7 u v w*c6 n n=0:=by
  have:=QZ n n u v w
  nofun
 rcases aAC.mp e with q|q
 .show q
 have:=x6 h;omega
def G1{a b:V}(h:a-b=0):a=b:=ext (aFr.mp<|ka V.x h) (aFr.mp<|ka V.y h) (aFr.mp<|ka V.z h)
def uK{k:Int}{v:V}(a:0<k)(h:k*v=0):v=0:=ext ((aAC.mp<|ka V.x h).resolve_left (aEF a)) ((aAC.mp<|ka V.y h).resolve_left (aEF a)) ((aAC.mp<|ka V.z h).resolve_left (aEF a))
def nU(u v:V):cr u v=-cr v u:=by apply ext<;>simp<;>grind
def p7(v:V):(0:Int)*v=0:=ext (by simp) (by simp) (by simp)
def gE(v:V):v+0=v:=ext (by simp) (by simp) (by simp)
def gH(v:V):0+v=v:=ext (by simp) (by simp) (by simp)
structure Cone(Pos:V->Prop):Prop where
 add:∀{u v},Pos u->Pos v->Pos (u+v)
 mul:∀{k:Int}{u},0<k->Pos u->Pos (k*u)
 irr:¬Pos 0
section
variable{Pos:V->Prop} (C:Cone Pos)
include C
theorem Cone.comb{p q:Int}{u w:V}(a:0<p)(e:0<=q)(b:Pos w)(d:Pos u):Pos (p*w+q*u):=by
 by_cases h:q=0
 .subst h;rw[p7,gE];show C.mul a b
 show C.add (C.mul a b) (C.mul (by lia) d)
theorem Cone.sgn{k:Int}{v:V}(b:Pos v)(h:Pos (k*v)):0<k:=by
 by_cases d:0<k
 .show d
 exfalso;by_cases f:k=0
 .subst f;rw[p7]at h;show C.irr h
 have a:=C.add h (C.mul (k:=-k) (by lia) b);have e:k*v+-k*v=0:=ext (by simp;grind) (by simp;grind) (by simp;grind);rw[e]at a;show C.irr a
theorem Cone.tr{a u v w:V}(b:Pos u)(d:Pos v)(f:Pos w)(g:f7 u v w=0)(k:0<f7 a u v)(l:0<=f7 a v w):0<f7 a u w:=by
 show C.sgn d ?_;have e:f7 a u w*v=f7 a u v*w+f7 a v w*u:=by have h:=DP a u v w;rw[g,p7,j6 a u w]at h;have m:=ka V.x h;have n:=ka V.y h;have o:=ka V.z h;simp at m n o;show ext (by simp;grind) (by simp;grind) (by simp;grind)
 rw[e];show C.comb k l f b
theorem Cone.tr'{a u v w:V}(b:Pos u)(d:Pos v)(f:Pos w)(g:f7 u v w=0)(k:0<=f7 a u v)(l:0<f7 a v w):0<f7 a u w:=by
 show C.sgn d ?_;have e:f7 a u w*v=f7 a v w*u+f7 a u v*w:=by have h:=DP a u v w;rw[g,p7,j6 a u w]at h;have m:=ka V.x h;have n:=ka V.y h;have o:=ka V.z h;simp at m n o;show ext (by simp;grind) (by simp;grind) (by simp;grind)
 rw[e];show C.comb l k b f
end
structure ConeM(a:V)(Pos:V->Prop):Prop extends Cone Pos where
 inv:∀{u} (k:Int),Pos u->Pos (u+k*a)
def ConeM.tr{a:V}{Pos:V->Prop}(C:ConeM a Pos){u v w:V}(b:Pos u)(d:Pos v)(f:Pos w)(g:0<f7 a u v)(k:0<=f7 a v w):0<f7 a u w:=by
 show C.sgn d ?_;have e:f7 a u w*v=(f7 a u v*w+f7 a v w*u)+(-f7 u v w)*a:=by have h:=DP a u v w;rw[j6 a u w]at h;have l:=ka V.x h;have m:=ka V.y h;have n:=ka V.z h;simp at l m n;show ext (by simp;grind) (by simp;grind) (by simp;grind)
 rw[e];show C.inv _ (C.comb g k f b)
def d6(w:V):Prop:=0<w.x\/(w.x=0/\(0<w.y\/(w.y=0/\0<w.z)))
instance(w:V):Decidable (d6 w):=inferInstanceAs (Decidable<|_\/_)
def x9:Cone d6 where
 add:=λ{u v} e f=>by unfold d6 at*;simp;lia
 mul:=λ{k u} a h=>by
  unfold d6 at*
  simp;rcases h with h|⟨h,b|⟨b,d⟩⟩
  .show .inl (aAR a h)
  .show .inr {by rw[h];simp,.inl (aAR a b)}
  show .inr {by rw[h];simp,.inr {by rw[b];simp,aAR a d}}
 irr:=by unfold d6;simp
def P6(w:V):Prop:=d6 (-w)
def BL:-(0:V)=0:=rfl
def aR:Cone P6 where
 add:=λ{u v} a b=>by have e:-(u+v)=-u+-v:=(by apply ext<;>simp<;>lia);unfold P6 at*;rw[e];show x9.add a b
 mul:=λ{k u} d h=>by have e:-(k*u)=k*(-u):=ext (by simp;grind) (by simp;grind) (by simp;grind);unfold P6 at*;rw[e];show x9.mul d h
 irr:=by unfold P6;rw[BL];show x9.irr
def TH(w:V):d6 w\/w=0\/P6 w:=by
 unfold P6 d6;rw[qC];simp
 lia
def y7(v:V):v-v=0:=ext (by simp) (by simp) (by simp)
def fE(a u:V):f7 a u 0=0:=by simp[f7,c6]
def G6(a u v:V):f7 a u (-v)=-f7 a u v:=by simp[f7,c6];grind
def aQ(a u v:V):f7 a (-u) v=-f7 a u v:=by simp[f7,c6];grind
structure Row(n:V)(Pos:V->Prop)(T:V->Prop):Prop where
 cone:Cone Pos
 nz:n≠0
 pl:∀X Y,T X->T Y->c6 n (X-Y)=0
 tot:∀X Y,T X->T Y->X=Y\/Pos (X-Y)\/Pos (Y-X)
def Lft(n:V)(Pos:V->Prop)(a b X:V):Prop:=0<=f7 n (b-a) (X-a)/\(f7 n (b-a) (X-a)=0->(X=a\/Pos (X-a))/\(X=b\/Pos (b-X)))
def turn(n P Q R:V):Int:=f7 n (Q-P) (R-Q)
def X5(n P:V):List V->List V
 |b::a::r=>if turn n a b P<=0 then X5 n P (a::r)else b::a::r
 |r=>r
def w5(n:V)(ps:List V):List V:=ps.foldl (λc P=>P::X5 n P c) []
def C6:List V->List (V×V)
 |b::a::r=>(a,b)::C6 (a::r)
 |_=>[]
def uB(n:V):List V->Prop
 |b::a::d::r=>0<f7 n (a-d) (b-a)/\uB n (a::d::r)
 |_=>True
def uB.tail(h:uB n (b::r)):uB n r:=by
 match r,h with
 |[],_=>trivial
 |[_],_=>trivial
 |_::_::_,h=>show h.2
def O9(h:e∈C6 r):e∈C6 (b::r):=by
 match r,h with
 |a::r,h=>show aAe _ h
section
variable{n:V}{Pos:V->Prop}{T:V->Prop} (F:Row n Pos T)
include F
structure ChOk(n:V)(Pos:V->Prop)(done:V->Prop)(c:List V):Prop where
 mem:∀X∈c,done X
 ed:∀e∈C6 c,Pos (e.2-e.1)/\∀X,done X->Lft n Pos e.1 e.2 X
 bend:uB n c
 last:∀X,done X->∀z,c.getLast?=some z->X=z\/Pos (X-z)
theorem Row.ac8{done:V->Prop}(f:∀X,done X->T X)(p:Pos x)(s:c6 n x=0):∀(c:List V),(∀X∈c,done X)->(∀e∈C6 c,Pos (e.2-e.1))->uB n c->(∀b a r,c=b::a::r->0<f7 n (b-a) x)->∀e∈C6 c,0<f7 n (e.2-e.1) x
 |[],_,_,_,_,e,d=>by cases d
 |[_],_,_,_,_,e,d=>by cases d
 |[b,a],_,_,_,h,e,d=>by simp[C6]at d;subst d;show h b a [] rfl
 |b::a::t::r,g,l,u,h,e,d=>by
  have k:=h b a _ rfl;rcases aAg.mp d with q|q
  .subst q;show k
  show Row.ac8 f p s (a::t::r) (λX v=>g X (aAe _ v)) (λe d=>l e (O9 d)) u.tail ?_ e q;intro y z A m;injection m with m o;injection o with o B;subst m o;have w:=l (a,b) (by simp[C6]);show F.cone.tr (l (t,a) (O9 (by simp[C6]))) w p (x4 F.nz (F.pl _ _ (f _ (g _ (by simp))) (f _ (g _ (by simp)))) (F.pl _ _ (f _ (g _ (by simp))) (f _ (g _ (by simp)))) s) u.1 (aAU k)
theorem Row.weak(d:Pos u)(a:Pos v)(f:Pos w)(g:c6 n u=0)(k:c6 n v=0)(l:c6 n w=0)(m:0<=f7 n u v)(o:0<=f7 n v w):0<=f7 n u w:=by
 have b:=x4 F.nz g k l;by_cases p:0<f7 n u v
 .show aAU (F.cone.tr d a f b p o)
 by_cases q:0<f7 n v w
 .show aAU (F.cone.tr' d a f b m q)
 have r:f7 n u v=0:=by lia
 have s:f7 n v w=0:=by lia
 have h:=DP n u v w;rw[r,s,b,p7,p7,p7,gH,gH]at h;by_cases z:f7 n w u=0
 .rw[j6];lia
 exfalso;have e:v=0:=by have t:=ka V.y h;have A:=ka V.z h;show ext ((aAC.mp<|ka V.x h).resolve_left z) ((aAC.mp t).resolve_left z) ((aAC.mp A).resolve_left z)
 rw[e]at a;show F.cone.irr a
theorem Row.ad5{done:V->Prop}(hd:∀X,done X->T X)(A:T P)(s:∀X,done X->Pos (P-X)):∀(c:List V),ChOk n Pos done c->c≠[]->
  (∀X q,c.head?=some q->done X->(X=q\/Pos (X-q))->0<=f7 n (P-q) (X-q))->
  ∃q r,X5 n P c=q::r/\ChOk n Pos done (q::r)/\(∀X,done X->(X=q\/Pos (X-q))->0<=f7 n (P-q) (X-q))/\∀a B,r=a::B->0<turn n a q P
 |[],_,h,_=>kb rfl h
 |[b],ok,_,t=>{b,[],rfl,ok,λX d h=>t X b rfl d h,λa B e=>by cases e}
 |b::a::r,ok,_,t=>by
  by_cases C:turn n a b P<=0
  .have e:X5 n P (b::a::r)=X5 n P (a::r):=by rw[X5,jk C]
   rw[e];have k:=ok.mem b (by simp);have v:=ok.mem a (by simp);have Q:=ok.ed (a,b) (by simp[C6]);show Row.ad5 hd A s (a::r) {λX d=>ok.mem X (aAe _ d),λe he=>ok.ed e (O9 he),ok.bend.tail,λX d z w=>ok.last X d z (by rw[aDP];show w)} (by simp) ?_;intro X q hq d E;have H:a=q:=aAq hq;subst H;have U:Pos (P-a):=s a v;have Y:c6 n (b-a)=0:=F.pl _ _ (hd _ k) (hd _ v);unfold turn at C;have I:0<=f7 n (P-b) (b-a):=by rw[j6];lia
   rcases F.tot X b (hd X d) (hd b k)with z|z|z
   .
    subst z;have f:P-a=(P-X)+(X-a):=(by apply ext<;>simp<;>lia);rw[f,aJ,A9];lia
   .
    have J:=t X b rfl d (.inr z);have px:c6 n (X-b)=0:=F.pl _ _ (hd _ d) (hd _ k);have l:Pos (P-X):=s X d;have L:f7 n (P-a) (X-a)*(P-b)=f7 n (P-b) (X-b)*(P-a)+f7 n (P-b) (b-a)*(P-X):=by
     have m:=DP n (b-a) (X-b) (P-b);rw[x4 F.nz Y px (F.pl _ _ A<|hd _ k),p7]at m;have f:P-a=(b-a)+(P-b):=(by apply ext<;>simp<;>lia);have e2:X-a=(b-a)+(X-b):=(by apply ext<;>simp<;>lia);have e3:P-X=(P-b)-(X-b):=(by apply ext<;>simp<;>lia);rw[f,e2,e3];generalize b-a=u at*
     generalize X-b=x at*
     generalize P-b=p at*
     rw[aJ,aN,aN,A9];have J:=ka V.x m;have hy:=ka V.y m;have w:=ka V.z m;rw[j6 n p x]at m J hy w;simp at J hy w;have s1:=j6 n p x;have s2:=j6 n p u;have s3:=j6 n u x;apply ext<;>simp<;>grind
    by_cases zz:0<=f7 n (P-a) (X-a)
    .show zz
    exfalso;have N:Pos ((-f7 n (P-a) (X-a))*(P-b)):=F.cone.mul (by lia) (s b k);have O:Pos (-f7 n (P-a) (X-a)*(P-b)+(f7 n (P-b) (X-b)*(P-a)+f7 n (P-b) (b-a)*(P-X))):=by
     by_cases y1:f7 n (P-b) (X-b)=0
     .rw[y1,p7,gH];by_cases y2:f7 n (P-b) (b-a)=0
      .rw[y2,p7,gE];show N
      show F.cone.add N (F.cone.mul (by lia) l)
     show F.cone.add N (F.cone.comb (by lia) I U l)
    rw[<-L]at O;have e0:-f7 n (P-a) (X-a)*(P-b)+f7 n (P-a) (X-a)*(P-b)=0:=by apply ext<;>simp<;>grind
    rw[e0]at O;show F.cone.irr O
   .
    rcases E with g|g
    .subst g;rw[y7,fE];show aCA _
    have hl:=(Q.2 X d).1;have o:0<=f7 n (P-a) (b-a):=by have f:P-a=(P-b)+(b-a):=(by apply ext<;>simp<;>lia);rw[f,aJ,A9];lia
    show F.weak U Q.1 g (F.pl _ _ A<|hd _ v) Y (F.pl _ _ (hd _ d)<|hd _ v) o hl
  have e:X5 n P (b::a::r)=b::a::r:=by rw[X5,jl C]
  show{b,a::r,e,ok,λX d h=>t X b rfl d h,λa' B e'=>?_};injection e' with f _;subst f
  lia
theorem Row.push{done:V->Prop}(hd:∀X,done X->T X)(E:T P)(u:∀X,done X->Pos (P-X))(ok:ChOk n Pos done c)(J:c≠[])(L:∀X q,c.head?=some q->done X->X=q\/Pos (q-X)):
  ChOk n Pos (λX=>done X\/X=P) (P::X5 n P c):=by
 let{q,r,e,f,v,l}:=F.ad5 hd E u c ok J (λX q v d h=>by
  rcases h with h|h
  .subst h;rw[y7,fE];show aCA _
  exfalso;rcases L X q v d with z|z
  .subst z;rw[y7]at h;show F.cone.irr h
  have:=F.cone.add h z;have w:X-q+(q-X)=0:=(by apply ext<;>simp<;>lia);rw[w]at this;show F.cone.irr this)
 rw[e];have o:=f.mem q (by simp);have k:Pos (P-q):=u q o;have p:c6 n (P-q)=0:=F.pl _ _ E (hd _ o);show{λX d=>?_,λg x=>?_,?_,λX d z U=>?_}
 .rcases aAg.mp d with h|h
  .show .inr h
  show .inl (f.mem X h)
 .rcases aAg.mp x with h|h
  .subst h;show{k,λX d=>?_};rcases d with d|d
   .rcases F.tot X q (hd _ d) (hd _ o)with z|z|z
    .subst z;show{by rw[y7,fE];show aCA _,λ_=>{.inl rfl,.inr k}}
    .show{v X d (.inr z),λ_=>{.inr z,.inr (u X d)}}
    .
     have:0<f7 n (P-q) (X-q):=by
      match r,l,f with
      |[],_,f=>
       rcases f.last X d q rfl with y|y
       .subst y;rw[y7]at z;show kb z F.cone.irr
       exfalso;have:=F.cone.add y z;have w:X-q+(q-X)=0:=(by apply ext<;>simp<;>lia);rw[w]at this;show F.cone.irr this
      |a::s,l,f=>
       have A:=l a s rfl;unfold turn at A;have N:=f.mem a (by simp);have H:=f.ed (a,q) (by simp[C6]);have I:=(H.2 X d).1;have t:X-a=(q-a)-(q-X):=(by apply ext<;>simp<;>lia);dsimp only at I;rw[t,SA,A9]at I;have O:0<=f7 n (q-X) (q-a):=by rw[j6];lia
       have:=F.cone.tr' (a:=n) z H.1 k (x4 F.nz (F.pl _ _ (hd _ o)<|hd _ d) (F.pl _ _ (hd _ o)<|hd _ N) p) O A;have B:X-q=-(q-X):=(by apply ext<;>simp<;>lia);rw[B,G6,j6];lia
     show{aAU this,λz=>by dsimp only at z;lia}
   subst d;show{by rw[A9];show aCA _,λ_=>{.inr k,.inl rfl}}
  .
   have m:=f.ed g h;show{m.1,λX d=>?_};rcases d with d|d
   .show m.2 X d
   subst d;have A:=F.ac8 hd k p (q::r) f.mem (λe x=>(f.ed e x).1) f.bend (λb a s Q=>by injection Q with t B;subst t;show l a s B) g h
   have Y:=(m.2 q o).1;have:0<f7 n (g.2-g.1) (X-g.1):=by have t:X-g.1=(q-g.1)+(X-q):=(by apply ext<;>simp<;>lia);rw[t,aN];lia
   show{aAU this,λz=>by lia}
 .match r,l,f with
  |[],_,_=>trivial
  |a::s,l,f=>show{l a s rfl,f.bend}
 rcases d with d|d
 .show f.last X d z (by nofun)
 subst d;have C:(q::r).getLast?=some z:=by nofun
 show .inr (u z<|f.mem z<|aCO C)
end
section
variable{n:V}{Pos:V->Prop}{T:V->Prop} (F:Row n Pos T)
include F
theorem ChOk.congr{done b:V->Prop}(ok:ChOk n Pos done c)(h:∀X,done X↔b X):ChOk n Pos b c:=
 {λX a=>(h X).mp (ok.mem X a),λe d=>{(ok.ed e d).1,λX a=>(ok.ed e d).2 X ((h X).mpr a)},ok.bend,λX a=>ok.last X ((h X).mpr a)}
theorem Row.fold:∀(rest:List V) (done:V->Prop) (c:List V),ChOk n Pos done c->c≠[]->(∀X q,c.head?=some q->done X->X=q\/Pos (q-X))->(∀X,done X->T X)->(∀X∈rest,T X)->
  (∀X Y,done X->Y∈rest->Pos (Y-X))->rest.Pairwise (λa b=>Pos (b-a))->
  ChOk n Pos (λX=>done X\/X∈rest) (rest.foldl (λc P=>P::X5 n P c) c)/\rest.foldl (λc P=>P::X5 n P c) c≠[]/\(∀X q,(rest.foldl (λc P=>P::X5 n P c) c).head?=some q->(done X\/X∈rest)->X=q\/Pos (q-X)):=by
 intro r done c ok s t k l f u;cases r with
 |nil=>nofun
 |cons P rest=>
  have m:=l P (by simp);have v:=F.push k m (λX d=>f X P d (by simp)) ok s t;have o:=aAv.mp u;let{w,x,y}:=Row.fold rest (λX=>done X\/X=P) (P::X5 n P c) v (by simp) (λX q g d=>by
   have h:P=q:=aAq g;subst h;rcases d with d|d
   .show .inr (f X P d (by simp))
   .show .inl d) (λX d=>by
   rcases d with d|d
   .show k X d
   .subst d;show m) (λX d=>l X (aAe _ d)) (λX Y d p=>by
   rcases d with d|d
   .show f X Y d (aAe _ p)
   subst d;show o.1 Y p) o.2
  have e:∀X,((done X\/X=P)\/X∈rest)↔(done X\/X∈P::rest):=λX=>by simp[or_assoc]
  show{ChOk.congr F w e,x,λX q g d=>y X q g ((e X).mpr d)}
theorem Row.ac7(m:ps≠[])(h:∀X∈ps,T X)(o:ps.Pairwise (λa b=>Pos (b-a))):
  ChOk n Pos (λX=>X∈ps) (w5 n ps)/\w5 n ps≠[]/\(∀X q,(w5 n ps).head?=some q->X∈ps->X=q\/Pos (q-X)):=by
 match ps,m with
 |p::rest,_=>
  have k:=aAv.mp o;have ok:ChOk n Pos (λX=>X=p) [p]:={λX d=>by simpa using d,λe r=>by simp[C6]at r,trivial,λX d z l=>by simp at l;subst l;show .inl d}
  let{s,t,u}:=F.fold rest (λX=>X=p) [p] ok (by simp) (λX q f d=>by have g:p=q:=aAq f;subst g;show .inl d) (λX d=>by subst d;show h _ (by simp)) (λX d=>h X (aAe _ d)) (λX Y d v=>by subst d;show k.1 Y v) k.2
  have e:∀X,(X=p\/X∈rest)↔X∈p::rest:=λX=>by simp
  show{ChOk.congr F s e,t,λX q f d=>u X q f ((e X).mpr d)}
end
def k9(n:V)(a:List V):List V:=(w5 n a).reverse.dropLast++(w5 n a.reverse).reverse.dropLast
def t9:List V->List (V×V)
 |a::b::r=>(a,b)::t9 (b::r)
 |_=>[]
theorem mC:∀(l:List V) (a b:V),t9 (l++[a]++[b])=t9 (l++[a])++[(a,b)]
 |[],a,b=>rfl
 |[x],a,b=>rfl
 |x::y::l,a,b=>by have:=mC (y::l) a b;erw[aBQ,t9]at this⊢;rw[this]
theorem gM:∀c:List V,t9 c.reverse=(C6 c).reverse
 |[]=>rfl
 |[_]=>rfl
 |b::a::r=>by
  have d:=gM (a::r);rw[aAN,aAN]at*
  rw[mC,d,C6,aAN]
theorem mG:∀(l:List V) (a:V) (m:List V),t9 (l++a::m)=t9 (l++[a])++t9 (a::m)
 |[],a,m=>by cases m<;>rfl
 |[x],a,m=>rfl
 |x::y::l,a,m=>by have:=mG (y::l) a m;erw[aBQ,t9]at this⊢;rw[this]
def U8(l:List V):List (V×V):=l.zip (l.tail++l.take 1)
theorem pA:∀(l:List V) (z:V),l.zip (l.tail++[z])=t9 (l++[z])
 |[],z=>rfl
 |[a],z=>rfl
 |a::b::r,z=>by have:=pA (b::r) z;erw[List.tail_cons,aBQ,t9,aDg]at this⊢;rw[this]
def W2:U8 (a::l)=t9 (a::l++[a]):=pA (a::l) a
def QC(h:w5 n a=M::c)(k:w5 n a.reverse=m::d)(t:(M::c).getLast?=some m)(l:(m::d).getLast?=some M)(o:c≠[]):
  U8 (k9 n a)=(C6 (w5 n a)).reverse++(C6 (w5 n a.reverse)).reverse:=by
 rw[<-gM,<-gM];unfold k9;rw[h,k,aAN,aAN,aBH,aBH];have b:∃e,c.reverse=m::e:=by
  have:c.getLast?=some m:=by
   match c,o with
   |x::c,_=>nofun
  rw[<-aEG]at this;match p:c.reverse,this with
  |x::r,this=>show{r,by rw[show x=m from aAq this]}
 let{e,b}:=b;have f:∃g,d.reverse++[m]=M::g:=by
  have:(m::d).reverse.head?=some M:=by rw[aEG];show l
  rw[aAN]at this;match p:d.reverse++[m],this with
  |x::r,this=>show{r,by rw[show x=M from aAq this]}
 let{g,f}:=f;have q:c.reverse++d.reverse=m::(e++d.reverse):=by rw[b];rfl
 rw[q,W2];have s:m::(e++d.reverse)++[m]=c.reverse++(d.reverse++[m]):=by rw[b];simp
 rw[s,f,mG]
def p8(a b:V):-(a-b)=b-a:=(by apply ext<;>simp<;>lia)
def p6:P6 (a-b)↔d6 (b-a):=by unfold P6;rw[p8]
def G2(h:d6 (a-a)):False:=by rw[y7]at h;show x9.irr h
def x5(h:d6 (a-b))(h':d6 (b-a)):False:=by have:=x9.add h h';have d:a-b+(b-a)=0:=(by apply ext<;>simp<;>lia);rw[d]at this;show x9.irr this
def P9(a b:V):a=b\/d6 (a-b)\/d6 (b-a):=by
 rcases TH (a-b)with h|h|h
 .show .inr (.inl h)
 .show .inl (G1 h)
 show .inr (.inr (p6.mp h))
def Btw(P Q X:V):Prop:=(d6 (Q-P)->(X=P\/d6 (X-P))/\(X=Q\/d6 (Q-X)))/\(d6 (P-Q)->(X=P\/d6 (P-X))/\(X=Q\/d6 (X-Q)))
structure EdgeOf(n:V)(T:V->Prop)(P Q:V):Prop where
 p:T P
 q:T Q
 ne:P≠Q
 left:∀X,T X->0<=f7 n (Q-P) (X-P)
 btw:∀X,T X->f7 n (Q-P) (X-P)=0->Btw P Q X
section
variable{n:V}{T:V->Prop}
def EdgeOf.next(h:EdgeOf n T P Q)(h':EdgeOf n T P R):Q=R:=by
 have m:=h.left R h'.q;have g:=h'.left Q h.q;rw[j6]at g;have k:f7 n (R-P) (Q-P)=0:=by rw[j6];lia
 have d:=h.btw R h'.q (by lia);have f:=h'.btw Q h.q k;rcases P9 Q P with e|e|e
 .show kb e.symm h.ne
 .have b:=d.1 e;have l:=b.1.resolve_left (aCp h'.ne);rcases b.2 with q|q
  .show q.symm
  rcases(f.1 l).2 with a|a
  .show a
  show(x5 q a).elim
 have b:=d.2 e;rcases b.2 with q|q
 .show q.symm
 rcases(f.2 (b.1.resolve_left (aCp h'.ne))).2 with a|a
 .show a
 show(x5 q a).elim
def qZ(n P Q X:V):f7 n (Q-P) (X-P)=f7 n (Q-P) (X-Q):=by have e:X-P=(X-Q)+(Q-P):=(by apply ext<;>simp<;>lia);rw[e,aN,A9];lia
end
theorem qA{Pos:V->Prop}(X:V):∀(c:List V),(∀Y∈c,X=Y\/Pos (X-Y)\/Pos (Y-X))->(∀q,c.head?=some q->X=q\/Pos (q-X))->(∀z,c.getLast?=some z->X=z\/Pos (X-z))->c≠[]->
  (∀u,Pos u->Pos (-u)->False)->X∈c\/∃a b,(a,b)∈C6 c/\Pos (X-a)/\Pos (b-X)
 |[],_,_,_,h,_=>kb rfl h
 |[q],_,d,f,_,g=>by
  rcases d q rfl with e|e
  .show .inl (by simp[e])
  rcases f q rfl with k|k
  .show .inl (by simp[k])
  show(g _ e (by rw[p8];show k)).elim
 |b::a::r,l,d,f,_,g=>by
  rcases d b rfl with e|e
  .show .inl (by simp[e])
  rcases l a (by simp)with y|y|y
  .show .inl (by simp[y])
  .show .inr {a,b,by simp[C6],y,e}
  rcases qA X (a::r) (λY m=>l Y (aAe _ m)) (λq n=>by have:a=q:=aAq n;subst this;show .inr y) (λz t=>f z (by nofun)) (by simp) g with h|⟨o,p,h,s⟩
  .show .inl (aAe _ h)
  show .inr {o,p,O9 h,s}
def Row.ad6{Pos:V->Prop}{T:V->Prop}(F:Row n Pos T)(g:T a)(h:T b)(d:T P)(k:T Q)(l:Pos (P-a))(m:Pos (b-P))(o:Pos (Q-P))(p:0<=f7 n (b-a) (P-a))(f:0<f7 n (Q-P) (a-P))(q:0<=f7 n (Q-P) (b-P)):False:=by
 have r:f7 n (Q-P) (a-P)=f7 n (P-a) (Q-P):=by have e:a-P=-(P-a):=(p8 _ _).symm;rw[e,G6,j6];lia
 rw[r]at f;have:=F.cone.tr l o m (x4 F.nz (F.pl _ _ d g) (F.pl _ _ k d)<|F.pl _ _ h d) f q;have s:b-a=(b-P)+(P-a):=(by apply ext<;>simp<;>lia);rw[s,aJ,A9,j6]at p
 lia
structure Sheet(n:V)(ts:List V):Prop where
 nz:n≠0
 pl:∀X∈ts,∀Y∈ts,c6 n (X-Y)=0
 ord:ts.Pairwise (λa b=>d6 (b-a))
 two:∃X∈ts,∃Y∈ts,X≠Y
section
variable{n:V}{ts:List V} (S:Sheet n ts)
include S
theorem Sheet.row:Row n d6 (λX=>X∈ts):={x9,S.nz,λX Y a b=>S.pl X a Y b,λX Y _ _=>P9 X Y}
theorem Sheet.af0:Row n P6 (λX=>X∈ts):=⟨aR,S.nz,λX Y a b=>S.pl X a Y b,λX Y _ _=>by
 rcases P9 X Y with h|h|h
 .show .inl h
 .show .inr (.inr (p6.mpr h))
 show .inr (.inl (p6.mpr h))⟩
theorem Sheet.ne:ts≠[]:=by let{X,a,_}:=S.two;grind
theorem Sheet.ab1:ChOk n d6 (λX=>X∈ts) (w5 n ts)/\w5 n ts≠[]/\(∀X q,(w5 n ts).head?=some q->X∈ts->X=q\/d6 (q-X)):=
 S.row.ac7 S.ne (λ_ h=>h) S.ord
theorem Sheet.ab0:ChOk n P6 (λX=>X∈ts) (w5 n ts.reverse)/\w5 n ts.reverse≠[]/\(∀X q,(w5 n ts.reverse).head?=some q->X∈ts->X=q\/P6 (q-X)):=by
 have h:=S.af0.ac7 (ps:=ts.reverse) (by exists S.ne) (λX h=>by exists h) (by rw[aEf];show S.ord.imp p6.mpr)
 let{a,b,d}:=h;show{ChOk.congr S.af0 a λX=>by simp,b,λX q e f=>d X q e (by nofun)}
theorem Sheet.ae0(h:(a,b)∈C6 (w5 n ts))(k:a∈ts)(l:b∈ts):EdgeOf n (λX=>X∈ts) a b/\d6 (b-a):=by let{d,f}:=S.ab1.1.ed _ h;dsimp only at d f;show{{k,l,λe=>by subst e;show G2 d,λX g=>(f X g).1,λX g z=>{λ_=>(f X g).2 z,λy=>(x5 d y).elim}},d}
theorem Sheet.ae1(h:(a,b)∈C6 (w5 n ts.reverse))(l:a∈ts)(m:b∈ts):EdgeOf n (λX=>X∈ts) a b/\d6 (a-b):=by let{k,f}:=S.ab0.1.ed _ h;dsimp only at k f;have d:=p6.mp k;show{{l,m,λe=>by subst e;show G2 d,λX g=>(f X g).1,λX g z=>{λy=>(x5 d y).elim,λ_=>?_}},d};let{o,p}:=(f X g).2 z;show{o.imp id p6.mp,p.imp id p6.mp}
theorem L5(h:(a,b)∈C6 c):a∈c/\b∈c:=by
 induction c with
 |nil=>cases h
 |cons x c d=>
  match c,h,d with
  |[],h,_=>cases h
  |y::r,h,d=>
   rcases aAg.mp h with e|e
   .cases e;simp
   have:=d e;show{aAe _ this.1,aAe _ this.2}
theorem Sheet.ends:∃m M c d,m∈ts/\M∈ts/\d6 (M-m)/\(∀X∈ts,X=m\/d6 (X-m))/\(∀X∈ts,X=M\/d6 (M-X))/\w5 n ts=M::c/\w5 n ts.reverse=m::d/\(M::c).getLast?=some m/\(m::d).getLast?=some M/\c≠[]/\d≠[]:=by
 let{p,w,x}:=S.ab1;let{q,A,B}:=S.ab0;let{M,c,b}:=aEB w;let{m,d,f}:=aEB A;have r:M∈ts:=p.mem M (by rw[b];simp);have u:m∈ts:=q.mem m (by rw[f];simp);have s:=λX g=>x X M (by rw[b];rfl) g;have h:=λX g=>(B X m (by rw[f];rfl) g).imp id p6.mp;obtain⟨z,l⟩:∃z,(M::c).getLast?=some z:=by simp[aEH]
 obtain⟨y,o⟩:∃z,(m::d).getLast?=some z:=by simp[aEH]
 have C:z=m:=by
  rcases p.last m u z (b▸l)with e|e
  .show e.symm
  rcases h z (p.mem z<|b▸aCO l)with a|a
  .show a
  show(x5 e a).elim
 have E:y=M:=by
  rcases q.last M r y (f▸o)with e|e
  .show e.symm
  rcases s y (q.mem y<|f▸aCO o)with a|a
  .show a
  show(x5 (p6.mp e) a).elim
 subst C E;have t:d6 (y-z):=by
  let{X,g,Y,H,ne}:=S.two;rcases h y r with e|e
  .exfalso;subst e;have k:∀W∈ts,W=y:=λW v=>by
    rcases h W v with e|e
    .show e
    rcases s W v with a|a
    .show a
    show(x5 e a).elim
   show ne ((k X g).trans (k Y H).symm)
  show e
 show{z,y,c,d,u,r,t,h,s,b,f,l,o,λe=>?_,λe=>?_}
 .subst e;have:y=z:=by exists l
  subst this;show G2 t
 subst e;have:z=y:=by exists o
 subst this;show G2 t
theorem Sheet.pair(h:(P,Q)∈U8 (k9 n ts)):EdgeOf n (λX=>X∈ts) P Q:=by
 let{m,M,c,d,k,l,o,p,q,a,b,e,f,g,r}:=S.ends;rw[QC a b e f g,aAV,aCn,aCn]at h;rcases h with h|h
 .have:=L5 S h;show(S.ae0 h (S.ab1.1.mem _ this.1)<|S.ab1.1.mem _ this.2).1
 have:=L5 S h;show(S.ae1 h (S.ab0.1.mem _ this.1)<|S.ab0.1.mem _ this.2).1
theorem cB(h:P∈l):∃Q,(P,Q)∈U8 l:=by
 let{i,b,e}:=aBa h;have d:l.length=(l.tail++l.take 1).length:=by
  match l,b with
  |a::l,_=>simp
 show{(l.tail++l.take 1)[i]'(by lia),?_};unfold U8;show List.mem_of_getElem (i:=i) (h:=by rw[List.length_zip];lia) ?_;rw[List.getElem_zip,e]
theorem Sheet.ac5(h:EdgeOf n (λX=>X∈ts) P Q):P∈k9 n ts:=by
 let{m,M,c,d,hm,hM,mM,H,I,C,E,h3,h4,hc,hd}:=S.ends;let{t,J,L}:=S.ab1;let{k,N,O}:=S.ab0;unfold k9;rw[aAV,C,E,aAN,aAN,aBH,aBH,aCn,aCn];rcases P9 Q P with e|e|e
 .show kb e.symm h.ne
 .
  left;rcases qA P (w5 n ts) (λY _=>P9 P Y) (λq v=>L P q v h.p) (λz w=>t.last P h.p z w) J (λu a b=>by have:=x9.add a b;have x:u+-u=0:=(by apply ext<;>simp<;>lia);rw[x]at this;show x9.irr this)with r|⟨a,b,r,g,A⟩
  .rw[C]at r;rcases aAg.mp r with q|q
   .subst q;rcases I Q h.q with y|y
    .show kb y.symm h.ne
    show(x5 e y).elim
   show q
  exfalso;have l:=L5 S r;have f:=t.mem _ l.1;have o:=t.mem _ l.2;have T:=h.left a f;have B:f7 n (Q-P) (a-P)≠0:=λz=>by
   rcases((h.btw a f z).1 e).1 with y|y
   .subst y;show G2 g
   show x5 g y
  show S.row.ad6 f o h.p h.q g A e ((t.ed _ r).2 P h.p).1 (by lia) (h.left b o)
 right;rcases qA P (w5 n ts.reverse) (λY _=>S.af0.tot P Y h.p (by rename_i U;show k.mem Y U)) (λq v=>O P q v h.p) (λz w=>k.last P h.p z w) N (λu a b=>by have:=aR.add a b;have x:u+-u=0:=(by apply ext<;>simp<;>lia);rw[x]at this;show aR.irr this)with r|⟨a,b,r,g,A⟩
 .rw[E]at r;rcases aAg.mp r with q|q
  .subst q;rcases H Q h.q with y|y
   .show kb y.symm h.ne
   show(x5 e y).elim
  show q
 exfalso;have l:=L5 S r;have f:=k.mem _ l.1;have o:=k.mem _ l.2;have T:=h.left a f;have s:=p6.mp g;have B:f7 n (Q-P) (a-P)≠0:=λz=>by
  rcases((h.btw a f z).2 e).1 with y|y
  .subst y;show G2 s
  show x5 s y
 show S.af0.ad6 f o h.p h.q g A (p6.mpr e) ((k.ed _ r).2 P h.p).1 (by lia) (h.left b o)
theorem Sheet.aa1:(P,Q)∈U8 (k9 n ts)↔EdgeOf n (λX=>X∈ts) P Q:=by
 show{S.pair,λh=>?_};let{R,a}:=cB S (S.ac5 h);have:=(S.pair a).next h
 subst this;show a
end
theorem N4{Pos:V->Prop}(C:Cone Pos):∀(c:List V),(∀e∈C6 c,Pos (e.2-e.1))->c.Pairwise (λb a=>Pos (b-a))
 |[],_=>aGc
 |[x],_=>aDQ _ _
 |b::a::r,h=>by
  have d:=N4 C (a::r) (λe g=>h e (O9 g));have f:=h (a,b) (by simp[C6]);show aAv.mpr {λy k=>?_,d};rcases aAg.mp k with e|e
  .subst e;show f
  have:=(aAv.mp d).1 y e;have s:=C.add f this;have l:b-a+(a-y)=b-y:=(by apply ext<;>simp<;>lia)
  nofun
theorem kX:∀{h:V}{c:List V}{X:V},X∈c->∃b,(X,b)∈C6 (h::c):=by
 intro h f X d;cases f with
 |nil=>cases d
 |cons a r=>
  rcases aAg.mp d with e|e
  .subst e;show{h,by simp[C6]}
  let{b,g}:=kX e;show{b,O9 g}
section
variable{n:V}{ts:List V} (S:Sheet n ts)
include S
theorem Sheet.aa3(h:X∈k9 n ts):X∈ts:=by let{Q,a}:=cB S h;show(S.pair a).p
theorem Sheet.aa4:(k9 n ts).Nodup:=by
 let{m,M,c,d,E,H,I,J,L,f,g,N,O,Q,T}:=S.ends;let{k,U,Y}:=S.ab1;let{l,n2,t2}:=S.ab0;unfold k9;rw[f,g,aAN,aAN,aBH,aBH];have r:=N4 x9 (w5 n ts) λe o=>(k.ed e o).1;have s:=N4 aR (w5 n ts.reverse) λe o=>(l.ed e o).1;rw[f]at r;rw[g]at s;rw[aCQ];show{?_,?_,?_}
 .rw[aBX,aEf];show((aAv.mp r).2).imp λ{a b} h e=>by subst e;show G2 h
 .rw[aBX,aEf];show((aAv.mp s).2).imp λ{a b} h e=>by subst e;show G2 (p6.mp h)
 intro x t y u e;subst e;rw[aCn]at t u;let{b,p}:=kX t;let{b',q}:=kX u;rw[<-f]at p;rw[<-g]at q;have v:=L5 S p;have w:=L5 S q;let{z,A}:=S.ae0 p (k.mem _ v.1) (k.mem _ v.2);let{B,C}:=S.ae1 q (l.mem _ w.1) (l.mem _ w.2);have:=z.next B;subst this;show x5 A C
theorem Sheet.aa9:∃m r,k9 n ts=m::r/\m∈ts/\∀X∈ts,X=m\/d6 (X-m):=by
 let{m,M,c,d,e,h,k,f,l,o,p,q,s,g,t}:=S.ends;have b:∃a,c.reverse=m::a:=by
  have:c.getLast?=some m:=by
   match c,g with
   |x::c,_=>nofun
  rw[<-aEG]at this;match u:c.reverse,this with
  |x::r,this=>show{r,by rw[show x=m from aAq this]}
 let{a,b}:=b;show{m,a++d.reverse,?_,e,f};unfold k9;grind
theorem NE(h:Q∈l):∃P,(P,Q)∈U8 l:=by
 match l,h with
 |a::r,h=>
  have b:Q∈r++[a]:=by simpa[or_comm]using h
  let{i,d,e}:=aBa b;have f:i<(a::r).length:=by exists d
  show{(a::r)[i],?_};change _∈(a::r).zip (r++[a]);show List.mem_of_getElem (h:=by rw[List.length_zip];simp;omega) ?_
  nofun
theorem vZ(h:(P,Q)∈U8 l):P∈l/\Q∈l:=by
 have b:=aDl h;show{b.1,?_};match l,b.2 with
 |a::r,z=>simpa[or_comm]using z
theorem Sheet.strict(h:EdgeOf n (λX=>X∈ts) P Q)(C:X∈k9 n ts)(v:X≠P)(w:X≠Q):0<f7 n (Q-P) (X-P):=by
 have d:=S.aa3 C;have J:=h.left X d;by_cases z:f7 n (Q-P) (X-P)=0
 .exfalso;have b:=h.btw X d z;let{Y,H}:=cB S C;have g:=S.pair H;have x:=g.left P h.p;have r:=g.left Q h.q;rcases P9 Q P with e|e|e
  .show h.ne e.symm
  .have s:=b.1 e;have f:=s.1.resolve_left v;have l:=s.2.resolve_left w;have I:f7 n (X-P) (Q-X)=0:=by have a:Q-P=(Q-X)+(X-P):=(by apply ext<;>simp<;>lia);rw[a,aJ,A9,j6]at z;lia
   have t:0<=f7 n (X-P) (Y-X):=by have a:P-X=-(X-P):=(p8 _ _).symm;rw[a,G6]at x;rw[j6];omega
   rcases P9 Y X with y|y|y
   .show g.ne y.symm
   .have L:=S.row.weak f y l (S.pl _ d _ h.p) (S.pl _ g.q _ d) (S.pl _ h.q _ d) t r;by_cases m:0<f7 n (X-P) (Y-X)
    .have:=x9.tr f y l (x4 S.nz (S.pl _ d _ h.p) (S.pl _ g.q _ d)<|S.pl _ h.q _ d) m r
     lia
    have o:f7 n (Y-X) (P-X)=0:=by have a:P-X=-(X-P):=(p8 _ _).symm;rw[a,G6,j6];lia
    rcases((g.btw P h.p o).1 y).1 with k|k
    .show v k.symm
    show x5 k f
   have u:d6 (X-Y):=y;have E:0<=f7 n (X-Y) (X-P):=by have a:Y-X=-(X-Y):=(p8 _ _).symm;rw[a,G6,j6]at t;lia
   have A:0<=f7 n (Q-X) (X-Y):=by have a:Y-X=-(X-Y):=(p8 _ _).symm;rw[a,aQ,j6]at r;lia
   by_cases m:0<f7 n (Q-X) (X-Y)
   .have:=x9.tr l u f (x4 S.nz (S.pl _ h.q _ d) (S.pl _ d _ g.q)<|S.pl _ d _ h.p) m E;rw[j6]at this;lia
   have o:f7 n (Y-X) (Q-X)=0:=by have a:Y-X=-(X-Y):=(p8 _ _).symm;rw[a,aQ,j6];lia
   rcases((g.btw Q h.q o).2 u).1 with k|k
   .show w k.symm
   show x5 k l
  have s:=b.2 e;have f:=s.1.resolve_left v;have l:=s.2.resolve_left w;have I:f7 n (P-X) (X-Q)=0:=by have a:Q-P=-((P-X)+(X-Q)):=(by apply ext<;>simp<;>lia);have B:X-P=-(P-X):=(p8 _ _).symm;rw[a,B,aQ,G6,aJ,A9,j6]at z;lia
  rcases P9 Y X with y|y|y
  .show g.ne y.symm
  .
   have A:0<=f7 n (X-Q) (Y-X):=by have a:Q-X=-(X-Q):=(p8 _ _).symm;rw[a,G6,j6]at r;lia
   by_cases m:0<f7 n (X-Q) (Y-X)
   .have:=x9.tr l y f (x4 S.nz (S.pl _ d _ h.q) (S.pl _ g.q _ d)<|S.pl _ h.p _ d) m x;rw[j6]at this;lia
   have o:f7 n (Y-X) (Q-X)=0:=by have a:Q-X=-(X-Q):=(p8 _ _).symm;rw[a,G6,j6];lia
   rcases((g.btw Q h.q o).1 y).1 with k|k
   .show w k.symm
   show x5 k l
  have u:d6 (X-Y):=y;have E:0<=f7 n (P-X) (X-Y):=by have a:Y-X=-(X-Y):=(p8 _ _).symm;rw[a,aQ,j6]at x;lia
  have A:0<=f7 n (X-Y) (X-Q):=by have a:Y-X=-(X-Y):=(p8 _ _).symm;have B:Q-X=-(X-Q):=(p8 _ _).symm;rw[a,B,aQ,G6]at r;lia
  by_cases m:0<f7 n (P-X) (X-Y)
  .have:=x9.tr f u l (x4 S.nz (S.pl _ h.p _ d) (S.pl _ d _ g.q)<|S.pl _ d _ h.q) m A
   lia
  have o:f7 n (Y-X) (P-X)=0:=by have a:Y-X=-(X-Y):=(p8 _ _).symm;rw[a,aQ,j6];lia
  rcases((g.btw P h.p o).2 u).1 with k|k
  .show v k.symm
  show x5 k f
 lia
end
def jO{a:V}(h:a≠0):a.x≠0\/a.y≠0\/a.z≠0:=by
 by_cases p:a.x=0
 .by_cases q:a.y=0
  .by_cases r:a.z=0
   .show kb (ext p q r) h
   show .inr (.inr r)
  show .inr (.inl q)
 show .inl p
def A1{a w:V}(d:a≠0)(h:cr a w=0):∃k m:Int,0<k/\k*w=m*a:=by
 have f:=ka V.x h;have g:=ka V.y h;have l:=ka V.z h;simp at f g l;have b:∀k m:Int,k≠0->k*w=m*a->∃k m:Int,0<k/\k*w=m*a:=λk m r e=>by
  by_cases p:0<k
  .show{k,m,p,e}
  show{-k,-m,by lia,?_};have n:=ka V.x e;have o:=ka V.y e;have q:=ka V.z e;simp at n o q;apply ext<;>simp<;>grind
 rcases jO d with p|p|p
 .show b a.x w.x p (by apply ext<;>simp<;>grind)
 .show b a.y w.y p (by apply ext<;>simp<;>grind)
 show b a.z w.z p (by apply ext<;>simp<;>grind)
def ConeM.ad1{Pos:V->Prop}(C:ConeM a Pos)(d:a≠0)(f:Pos w):cr a w≠0:=λh=>by
 let{k,m,g,e}:=A1 d h;have b:=C.inv (-m) (C.mul g f);rw[e]at b;have l:m*a+-m*a=0:=by apply ext<;>simp<;>grind
 rw[l]at b;show C.irr b
def D4(a A:V):List V->V->V->V×V
 |[],d,b=>(d,b)
 |P::e,d,b=>if d=0\/0<c6 d (P-A)then D4 a A e (cr a (P-A)) P else D4 a A e d b
def VD(a A:V)(Pos:V->Prop)(seen:V->Prop)(d b:V):Prop:=
 (d=0/\∀P,seen P->cr a (P-A)=0)\/(seen b/\Pos (b-A)/\d=cr a (b-A)/\∀P,seen P->f7 a (b-A) (P-A)<=0)
def jJ(h:cr a w=0)(u:V):f7 a u w=0:=by
 have e:f7 a u w=-c6 (cr a w) u:=by simp[f7,c6];grind
 rw[e,h];simp[c6]
theorem tL{Pos:V->Prop}(C:ConeM a Pos)(s:a≠0):∀(J:List V) (seen:V->Prop) (d f:V),VD a A Pos seen d f->(∀P,seen P->Pos (P-A)\/cr a (P-A)=0)->(∀P∈J,Pos (P-A)\/cr a (P-A)=0)->
  VD a A Pos (λP=>seen P\/P∈J) (D4 a A J d f).1 (D4 a A J d f).2:=by
 intro B seen d f h t u;cases B with
 |nil=>
  change VD a A Pos _ d f;rcases h with⟨k,g⟩|⟨k,g,l,m⟩
  .show .inl {k,λP b=>g P (by exists b)}
  show .inr {.inl k,g,l,λP b=>m P (by exists b)}
 |cons Q J=>
  have n:=u Q (by simp);have o:VD a A Pos (λP=>seen P\/P=Q) (if d=0\/0<c6 d (Q-A)then(cr a<|Q-A)else d) (if d=0\/0<c6 d (Q-A)then Q else f):=by
   rcases h with⟨k,g⟩|⟨k,g,l,m⟩
   .rw[jk (.inl k),jk (.inl k)];by_cases z:cr a (Q-A)=0
    .show .inl ⟨z,λP b=>by
      rcases b with b|b
      .show g P b
      subst b;show z⟩
    show .inr {.inr rfl,n.resolve_right z,rfl,λP b=>?_};rcases b with b|b
    .rw[jJ (g P b)];show aCA _
    subst b;rw[A9];show aCA _
   have v:d≠0:=by rw[l];show C.ad1 s g
   have w:c6 d (Q-A)=f7 a (f-A) (Q-A):=by rw[l,T2]
   by_cases z:0<c6 d (Q-A)
   .rw[jk (.inr z),jk (.inr z)];have x:Pos (Q-A):=by
     rcases n with q|q
     .show q
     rw[w,jJ q]at z;lia
    show .inr {.inr rfl,x,rfl,λP b=>?_};rcases b with b|b
    .by_cases y:f7 a (Q-A) (P-A)<=0
     .show y
     exfalso;have p:Pos (P-A):=by
      rcases t P b with q|q
      .show q
      rw[jJ q]at y;lia
     have:=C.tr g x p (w▸z) (by lia);have:=m P b
     lia
    subst b;rw[A9];show aCA _
   rw[jl (by rintro(q|q);show v q;show z q),jl (by rintro(q|q);show v q;show z q)];show .inr {.inl k,g,l,λP b=>?_};rcases b with b|b
   .show m P b
   nofun
  have r:=tL C s J (λP=>seen P\/P=Q) _ _ o (λP b=>by
   rcases b with b|b
   .show t P b
   subst b;show n) (λP b=>u P (aAe _ b))
  have e:D4 a A (Q::J) d f=D4 a A J (if d=0\/0<c6 d (Q-A)then(cr a<|Q-A)else d) (if d=0\/0<c6 d (Q-A)then Q else f):=by rw[D4];split<;>rfl
  rw[e];have E:(λP=>(seen P\/P=Q)\/P∈J)=(λP=>seen P\/P∈Q::J):=by funext P;simp[or_assoc]
  rw[<-E];show r
def MT{Pos:V->Prop}(C:ConeM a Pos)(e:a≠0)(g:∀P∈J,Pos (P-A)\/cr a (P-A)=0)(k:∃P∈J,Pos (P-A)):
  (D4 a A J 0 A).2∈J/\Pos ((D4 a A J 0 A).2-A)/\∀P∈J,f7 a ((D4 a A J 0 A).2-A) (P-A)<=0:=by
 rcases(tL C e J (λ_=>False) 0 A (.inl ⟨rfl,λ_ h=>h.elim⟩) (λ_ h=>h.elim) g)with⟨f,b⟩|⟨f,b,n,l⟩
 .let{P,d,m}:=k;show kb (b P<|.inr d) (C.ad1 e m)
 show{by simpa using f,b,λP d=>l P (.inr d)}
def t7(v:V):Nat:=aFR (aFR v.x.natAbs v.y.natAbs) v.z.natAbs
def cK(v:V)(g:Int):V:={v.x/g,v.y/g,v.z/g}
def fL(n:V):Prop:=t7 n=1
def qV(k:Int)(v:V):t7 (k*v)=k.natAbs*t7 v:=by unfold t7;simp[Int.natAbs_mul,Nat.gcd_mul_left]
def KM(h:t7 v=0):v=0:=by have a:=Nat.gcd_eq_zero_iff.mp h;have b:=Nat.gcd_eq_zero_iff.mp a.1;show ext (aEI.mp b.1) (aEI.mp b.2) (aEI.mp a.2)
def OK(v:V):(t7 v:Int)∣v.x/\(t7 v:Int)∣v.y/\(t7 v:Int)∣v.z:={(aEJ.mpr<|Nat.dvd_trans (aFj _ _)<|aFj _ _),(aEJ.mpr<|Nat.dvd_trans (aFj _ _)<|Nat.gcd_dvd_right _ _),(aEJ.mpr<|Nat.gcd_dvd_right _ _)}
def fC(h:c≠0):0<(t7 c:Int)/\c=(t7 c:Int)*cK c (t7 c)/\fL (cK c (t7 c)):=by
 have g:=λz=>h (KM z);let{a,b,d}:=OK c;have e:c=(t7 c:Int)*cK c (t7 c):=by
  apply ext
  .change _=_*(c.x/_);rw[aEp a]
  .change _=_*(c.y/_);rw[aEp b]
  change _=_*(c.z/_);rw[aEp d]
 show{(by lia),e,?_};have:=ka t7 e;rw[qV]at this;erw[Int.natAbs_natCast]at this;have f:t7 c*1=t7 c*t7 (cK c<|t7 c):=by lia
 show(Nat.eq_of_mul_eq_mul_left (by lia) f).symm
def fL.ne(h:fL n):n≠0:=λe=>by subst e;unfold fL at h;show kb h (by symm)
def nF{n m:V}{k l:Int}(b:fL n)(d:fL m)(h:0<k)(o:0<l)(e:k*n=l*m):n=m:=by
 have:=ka t7 e;rw[qV,qV,b,d]at this;have a:k=l:=by lia
 subst a;have f:=ka V.y e;have g:=ka V.z e;show ext (aDB (by lia)<|ka V.x e) (aDB (by lia) f) (aDB (by lia) g)
def c9(P Q R:V):V×Int:=let n:=cK (cr (Q-P)<|R-P) (t7<|cr (Q-P)<|R-P);(n,c6 n P)
structure IsFace(J:List V)(n:V)(d:Int):Prop where
 prim:fL n
 sup:∀X∈J,c6 n X<=d
 three:∃A∈J,∃B∈J,∃C∈J,c6 n A=d/\c6 n B=d/\c6 n C=d/\cr (B-A) (C-A)≠0
def J2(a:c6 n u=0)(b:c6 n v=0):cr n (cr u v)=0:=by simp[c6]at a b;apply ext<;>simp<;>grind
def RO{a A U W:V}(h:cr a (U-A)=0)(k:cr a (W-A)=0):cr (U-W) a=0:=by have b:=ka V.x h;have d:=ka V.y h;have e:=ka V.z h;have f:=ka V.x k;have g:=ka V.y k;have l:=ka V.z k;simp at b d e f g l;apply ext<;>simp<;>grind
def qK(f:c≠0)(b:cr n c=0)(d:cr m c=0):cr n m=0:=by
 have h:cr c n=0:=by have:=ka V.x b;have:=ka V.y b;have:=ka V.z b;simp at*;apply ext<;>simp<;>grind
 have o:cr c m=0:=by have:=ka V.x d;have:=ka V.y d;have:=ka V.z d;simp at*;apply ext<;>simp<;>grind
 let{k,p,t,r}:=A1 f h;let{l,q,u,s}:=A1 f o;have e:(k*l)*cr n m=0:=by
  have:(k*l)*cr n m=cr (k*n) (l*m):=by apply ext<;>simp<;>grind
  rw[this,r,s];apply ext<;>simp<;>grind
 have a:k*l≠0:=λz=>by rcases aAC.mp z with q|q<;>lia
 have b:=ka V.x e;have d:=ka V.y e;have g:=ka V.z e;simp at b d g;show ext ((aAC.mp b).resolve_left a) ((aAC.mp d).resolve_left a) ((aAC.mp g).resolve_left a)
def jS{J:List V}{n m:V}{d e:Int}(g:fL n)(a:fL m)(E:∀X∈J,c6 n X<=d)(h:∀X∈J,c6 m X<=e){A B C Z:V}(H:c6 n A=d)(I:c6 n B=d)(L:c6 n C=d)(o:c6 m A=e)(p:c6 m B=e)(r:c6 m C=e)
  (s:cr (B-A) (C-A)≠0) (t:Z∈J) (N:c6 n Z<d):n=m/\d=e:=by
 have u:cr n (cr (B-A)<|C-A)=0:=J2 (by rw[d5];lia) (by rw[d5];lia);have w:cr m (cr (B-A)<|C-A)=0:=J2 (by rw[d5];lia) (by rw[d5];lia);let{k,l,b,f}:=A1 a.ne (qK s w u);have x:0<l:=by
  have q:=ka (λv=>c6 v (Z-A)) f;rw[D5,D5]at q;have y:c6 n (Z-A)<0:=by rw[d5];lia
  have O:c6 m (Z-A)<=0:=by rw[d5];have:=h Z t;lia
  have Q:=aBd b y;by_cases z:0<l
  .show z
  exfalso;have:0<=l*c6 m (Z-A):=by
   have:=aBN (show 0<=-l by lia) (show 0<=-c6 m (Z-A)by lia)
   rwa [aDk]at this
  lia
 have T:=nF g a b x f;grind
def b7(A B:V)(J:List V):V×Int:=c9 A B (D4 (B-A) A J 0 A).2
def y6(n:V)(d:Int)(J:List V):List V:=J.filter λX=>decide (c6 n X=d)
def c8:X∈y6 n d J↔X∈J/\c6 n X=d:=by simp[y6]
def bL(h:cr (Q-P) (R-P)≠0):∃g:Int,0<g/\cr (Q-P) (R-P)=g*(c9 P Q R).1/\fL (c9 P Q R).1/\(c9 P Q R).2=c6 (c9 P Q R).1 P:=by let{a,b,d}:=fC h;show{_,a,b,d,rfl}
def W8{Pos:V->Prop}(C:ConeM (B-A) Pos)(d:B-A≠0)(p:∀P∈J,Pos (P-A)\/cr (B-A) (P-A)=0)(q:∃P∈J,Pos (P-A)):
  ∃(a:V) (g:Int),a∈J/\Pos (a-A)/\0<g/\cr (B-A) (a-A)=g*(b7 A B J).1/\fL (b7 A B J).1/\(b7 A B J).2=c6 (b7 A B J).1 A/\
   (∀P∈J,c6 (b7 A B J).1 P<=(b7 A B J).2)/\c6 (b7 A B J).1 B=(b7 A B J).2/\c6 (b7 A B J).1 a=(b7 A B J).2/\
   (∀P∈J,c6 (b7 A B J).1 P=(b7 A B J).2->f7 (B-A) (a-A) (P-A)=0):=by
 let{r,f,s}:=MT C d p q;let{g,k,l,t,m}:=bL (C.ad1 d f);have b:∀w:V,g*c6 (b7 A B J).1 w=f7 (B-A) ((D4 (B-A) A J 0 A).2-A) w:=λw=>by have:c6 (cr (B-A)<|(D4 (B-A) A J 0 A).2-A) w=f7 (B-A) ((D4 (B-A) A J 0 A).2-A) w:=T2 _ _ _;rw[<-this,l,D5];rfl
 have v:(b7 A B J).2=c6 (b7 A B J).1 A:=m;have n:∀w:V,f7 (B-A) ((D4 (B-A) A J 0 A).2-A) w=0->c6 (b7 A B J).1 w=0:=λw u=>by have:=b w;rw[u]at this;show(aAC.mp this).resolve_left (by lia)
 show{_,g,r,f,k,l,t,m,λP o=>?_,?_,?_,λP o e=>?_}
 .have h:=s P o;rw[<-b]at h;have:c6 (b7 A B J).1 (P-A)<=0:=by
   by_cases z:c6 (b7 A B J).1 (P-A)<=0
   .show z
   have:=aAR k (show 0<c6 (b7 A B J).1 (P-A)by lia)
   lia
  rw[d5]at this
  lia
 .have:=n (B-A) (by simp[f7,c6];grind);rw[d5]at this;lia
 .have:=n ((D4 (B-A) A J 0 A).2-A) (A9 _ _);rw[d5]at this;lia
 rw[<-b,d5];grind
def AJ{Pos:V->Prop}(C:ConeM a Pos)(d:a≠0)(e:Pos o)(f:Pos w)(h:f7 a o w=0):0<c6 (cr a o) (cr a w):=by
 by_cases z:0<c6 (cr a o) (cr a w)
 .show z
 exfalso;have g:Pos (c6 (cr a o) (cr a o)*w+(-c6 (cr a o) (cr a w))*o):=C.comb (x6<|C.ad1 d e) (by lia) f e;show C.ad1 d g ?_;have b:cr (cr a o) (cr a w)=f7 a o w*a:=by simp[f7,c6];apply ext<;>simp<;>grind
 rw[h,p7]at b;have k:cr a (c6 (cr a o) (cr a o)*w+(-c6 (cr a o) (cr a w))*o)=c6 (cr a o) (cr a o)*cr a w+(-c6 (cr a o) (cr a w))*cr a o:=by apply ext<;>simp<;>grind
 rw[k];have l:∀p q:V,c6 p p*q+(-c6 p q)*p=cr p (cr q p):=λp q=>by simp[c6];apply ext<;>simp<;>grind
 rw[l];have m:cr (cr a w) (cr a o)=0:=by have n:=ka V.x b;have r:=ka V.y b;have s:=ka V.z b;simp at n r s;apply ext<;>simp<;>grind
 rw[m];apply ext<;>simp
def Btw.symm(h:Btw P Q X):Btw Q P X:={λa=>{(h.2 a).2,(h.2 a).1},λa=>{(h.1 a).2,(h.1 a).1}}
def tJ(l:n≠0)(d:c6 n (a-b)=0):ConeM (a-b) (λw=>c6 n w<0\/(c6 n w=0/\0<f7 n (b-a) w))where
 add:=λ{u v} m o=>by
  rw[X8,aN]
  lia
 mul:=λ{k u} f h=>by
  rw[t4,zD];rcases h with h|⟨h,g⟩
  .show .inl (aBd f h)
  show .inr {by rw[h];simp,aAR f g}
 irr:=by rw[N1,fE];lia
 inv:=λ{u} k h=>by
  have e:f7 n (b-a) (a-b)=0:=by have:a-b=-(b-a):=(p8 _ _).symm;rw[this,G6,A9];rfl
  rw[X8,aN,t4,zD,d,e];exists h
def V9(a:n≠0)(b:c6 n u=0)(d:c6 n w=0)(h:f7 n u w=0):cr u w=0:=by
 let{k,m,f,e}:=A1 a (J2 b d);have q:=ka (c6 n) e;rw[t4,t4]at q;have:c6 n (cr u w)=0:=h;rw[this]at q;have g:m=0:=by
  have:=x6 a;have l:m*c6 n n=0:=by lia
  rcases aAC.mp l with z|z
  .show z
  lia
 rw[g,p7]at e;show uK f e
def BF(h:cr u w=0):cr (-u) w=0:=by have a:=ka V.x h;have b:=ka V.y h;have d:=ka V.z h;simp at a b d;apply ext<;>simp<;>grind
def uJ(E:n≠0)(Y:∀X∈J,c6 n X<=d)(H:∃Z∈J,c6 n Z<d)(h:EdgeOf n (λX=>X∈y6 n d J) a b):
  IsFace J (b7 b a J).1 (b7 b a J).2/\EdgeOf (b7 b a J).1 (λX=>X∈y6 (b7 b a J).1 (b7 b a J).2 J) b a:=by
 let{I,da}:=c8.mp h.p;let{pb,db}:=c8.mp h.q;have r:c6 n (a-b)=0:=by rw[d5];lia
 have u:c6 n (b-a)=0:=by rw[d5];lia
 have C:=tJ (n:=n) E r;have s:a-b≠0:=λe=>h.ne (G1 e);have v:∀P∈J,(c6 n (P-b)<0\/(c6 n (P-b)=0/\0<f7 n (b-a) (P-b)))\/cr (a-b) (P-b)=0:=λP L=>by
  have h1:=Y P L;by_cases z:c6 n P<d
  .show .inl (.inl (by rw[d5];lia))
  have e:c6 n P=d:=by lia
  have l:=h.left P (c8.mpr {L,e});rw[qZ]at l;have N:c6 n (P-b)=0:=by rw[d5];lia
  by_cases y:0<f7 n (b-a) (P-b)
  .show .inl (.inr {N,y})
  have y0:f7 n (b-a) (P-b)=0:=by lia
  have:=BF (V9 E u N y0);rw[p8]at this;show .inr this
 let{Z,hZ,H}:=H;let{f,g,o1,w,g0,O,gp,Q,x,T,sO,U}:=W8 C s v {Z,hZ,.inl (by rw[d5];lia)};show{{gp,x,b,pb,a,I,f,o1,Q.symm,T,sO,C.ad1 s w},{c8.mpr {pb,Q.symm},c8.mpr {I,T},λe=>h.ne e.symm,λX A=>?_,λX A e=>?_}}
 .let{o,B}:=c8.mp A;have z:=U X o B;have t:g*f7 (b7 b a J).1 (a-b) (X-b)=c6 (cr (a-b)<|f-b) (cr (a-b)<|X-b):=by rw[O];unfold f7;rw[D5]
  have:0<=c6 (cr (a-b)<|f-b) (cr (a-b)<|X-b):=by
   rcases v X o with q|q
   .show aAU (AJ C s w q z)
   rw[q,N1];show aCA _
  rw[<-t]at this;by_cases zz:0<=f7 (b7 b a J).1 (a-b) (X-b)
  .show zz
  have:=aBd g0 (show f7 (b7 b a J).1 (a-b) (X-b)<0 by lia)
  lia
 let{o,B}:=c8.mp A;have t:g*f7 (b7 b a J).1 (a-b) (X-b)=c6 (cr (a-b)<|f-b) (cr (a-b)<|X-b):=by rw[O];unfold f7;rw[D5]
 rw[e]at t;rcases v X o with q|q
 .have:=AJ C s w q (U X o B);rw[<-t]at this;simp at this
 .
  have dX:c6 n X=d:=by let{k,m,hk,e}:=A1 s q;have q:=ka (c6 n) e;rw[t4,t4,r]at q;have:c6 n (X-b)=0:=(aAC.mp (show k*c6 n (X-b)=0 by lia)).resolve_left (by lia);rw[d5]at this;lia
  show(h.btw X (c8.mpr {o,dX}) ?_).symm;rw[qZ];have:cr (b-a) (X-b)=0:=by
   have:=BF q
   rwa [p8]at this
  unfold f7;rw[this,N1]
def z8:List V->Option V
 |[]=>none
 |w::a=>if w≠0 then some w else z8 a
def u8(h:z8 ws=some w):w∈ws/\w≠0:=by
 induction ws with
 |nil=>cases h
 |cons v ws a=>unfold z8 at h;grind
def M9(h:z8 ws=none):∀w∈ws,w=0:=by
 induction ws with
 |nil=>nofun
 |cons v ws a=>unfold z8 at h;grind
def U0:List V->Nat
 |[]=>0
 |p::d=>
  let a:=(p::d).map (· -p)
  match z8 a with
  |none=>0
  |some b=>match z8 (a.map<|cr b)with
   |none=>1
   |some e=>if a.any (λw=>decide (c6 e w≠0))then 3 else 2
def i9(J:List V):Prop:=∃A∈J,∃B∈J,∃C∈J,∃D∈J,f7 (B-A) (C-A) (D-A)≠0
def IJ(h:U0 J=3):i9 J:=by
 match J,h with
 |p::x,h=>
  unfold U0 at h;dsimp only at h;split at h
  .cases h
  rename_i b f;split at h
  .cases h
  rename_i g k;split at h
  .rename_i e;let{l,y}:=u8 f;let{d,z}:=u8 k;let{A,d,m}:=aAo.mp d;rw[aCY]at e;let{n,o,q}:=e;let{B,r,s}:=aAo.mp l;let{C,t,u}:=aAo.mp d;let{D,v,w}:=aAo.mp o;show{p,by simp,B,r,C,t,D,v,?_};rw[s,u,w];have a:c6 g n≠0:=by exists q
   rw[<-m,T2]at a;show a
  cases h
def PK(h:U0 J≠3):¬i9 J:=by
 rintro⟨A,l,B,m,C,o,D,r,w⟩;match J,h,l,m,o,r with
 |p::f,h,l,m,o,r=>
  unfold U0 at h;dsimp only at h;have s:∀X∈p::f,X-p∈(p::f).map (· -p):=λX b=>aAo.mpr {X,b,rfl};have d:∀n:V,n≠0->(∀X∈p::f,c6 n (X-p)=0)->False:=λn y t=>by
   have q:∀X∈p::f,c6 n (X-A)=0:=λX b=>by have g:=t X b;have k:=t A l;rw[d5]at*;lia
   show w (x4 y (q B m) (q C o)<|q D r)
  split at h
  .rename_i g;have z:=M9 g;show d {1,0,0} (λe=>by have:=ka V.x e;simp at this) λX b=>?_;rw[z _ (s X b)];show N1 _
  rename_i a g;let{O,E}:=u8 g;split at h
  .rename_i k;have z:=M9 k;have H:∀X∈p::f,cr a (X-p)=0:=λX b=>z _ (aAo.mpr {_,s X b,rfl});obtain⟨u,I,Q⟩:∃u:V,cr a u≠0/\True:=by
    rcases jO E with q|q|q
    .show{{0,1,0},λe=>q (by have:=ka V.z e;exists this),trivial}
    .show{{1,0,0},λe=>q (by have:=ka V.z e;exists this),trivial}
    show{{0,1,0},λe=>q (by have:=ka V.x e;exists this),trivial}
   show d (cr a u) I λX b=>?_;rw[T2,jJ (H X b)]
  rename_i v k;let{T,L}:=u8 k;split at h
  .show h rfl
  rename_i N;show d v L λX b=>?_;by_cases z:c6 v (X-p)=0
  .show z
  show kb (aCY.mpr {X-p,s X b,by simpa using z}) N
def RI(h:U0 J<2):∀X∈J,∀Y∈J,∀Z∈J,cr (Y-X) (Z-X)=0:=by
 match J,h with
 |[],_=>intro X b;cases b
 |p::d,h=>
  unfold U0 at h;dsimp only at h;have mm:∀X∈p::d,X-p∈(p::d).map (· -p):=λX b=>aAo.mpr {X,b,rfl};intro X b Y l Z n;split at h
  .rename_i f;have e:∀W∈p::d,W=p:=λW g=>G1 (M9 f _<|mm W g);rw[e X b,e Y l,y7];apply ext<;>simp
  rename_i a f;let{s,o}:=u8 f;split at h
  .rename_i q;have m:∀X∈p::d,cr a (X-p)=0:=λX b=>(M9 q) _ (aAo.mpr {_,mm X b,rfl});have k:∀U∈p::d,∀W∈p::d,cr (U-W) a=0:=λU r W g=>RO (m U r) (m W g);show qK o (k Y l X b) (k Z n X b)
  split at h<;>lia
def IM(h:2<=U0 J):∃X∈J,∃Y∈J,∃Z∈J,cr (Y-X) (Z-X)≠0:=by
 match J,h with
 |[],h=>show kb h (by simp[U0])
 |p::q,h=>
  unfold U0 at h;dsimp only at h;split at h
  .lia
  rename_i a d;let{e,r}:=u8 d;split at h
  .lia
  rename_i s f;let{b,g}:=u8 f;let{t,b,k}:=aAo.mp b;let{B,l,m}:=aAo.mp e;let{C,n,o}:=aAo.mp b;show{p,by simp,B,l,C,n,by rw[m,o,k];show g}
def i9.off(h:i9 J)(f:n≠0):∃Z∈J,c6 n Z≠d:=by
 let{A,g,B,k,C,l,D,m,o}:=h;by_cases a:c6 n A=d
 .by_cases b:c6 n B=d
  .by_cases c:c6 n C=d
   .by_cases e:c6 n D=d
    .show kb (x4 f (by rw[d5];lia) (by rw[d5];lia) (by rw[d5];lia)) o
    show{D,m,e}
   show{C,l,c}
  show{B,k,b}
 show{A,g,a}
def i9.below(h:i9 J)(b:n≠0)(f:∀X∈J,c6 n X<=d):∃Z∈J,c6 n Z<d:=by let{Z,a,e}:=h.off (d:=d) b;show{Z,a,by have:=f Z a;lia}
def kk:V:={0,0,1}
def d7(m:V)(J:List V):V×V:=
 let u:=b7 m (m+kk) J
 let a:=y6 u.1 u.2 J
 if U0 a=2 then(m,m+kk)else(a.getD 0 0,a.getD 1 0)
def EW:ConeM kk (λw=>0<w.x\/(w.x=0/\0<w.y))where
 add:=λ{u v} d e=>by simp;lia
 mul:=λ{k u} a h=>by
  simp;rcases h with h|⟨h,b⟩
  .show .inl (aAR a h)
  show .inr {by rw[h];simp,aAR a b}
 irr:=by simp
 inv:=λ{u} k h=>by simpa[kk]using h
def DM(h:c6 n a=0):ConeM a (λw=>c6 n w<0)where
 add:=λ{u v} e f=>by rw[X8];lia
 mul:=λ{k u} b h=>by rw[t4];show aBd b h
 irr:=by rw[N1];lia
 inv:=λ{u} k d=>by rw[X8,t4,h];exists d
def K8(m k:V):m+k-m=k:=(by apply ext<;>simp<;>lia)
def gP(T:i9 J)(ho:J.Pairwise (λa b=>d6 (b-a)))(hm:m∈J)(hl:∀X∈J,X=m\/d6 (X-m)):
  IsFace J (b7 (d7 m J).1 (d7 m J).2 J).1 (b7 (d7 m J).1 (d7 m J).2 J).2:=by
 have C:ConeM (m+kk-m) (λw=>0<w.x\/(w.x=0/\0<w.y)):=by rw[K8];show EW
 have ag:m+kk-m≠0:=by rw[K8];intro e;have:=ka V.z e;simp[kk]at this
 have U:∀P∈J,(0<(P-m).x\/((P-m).x=0/\0<(P-m).y))\/cr (m+kk-m) (P-m)=0:=λP v=>by
  rw[K8];rcases hl P v with e|e
  .right;subst e;rw[y7];apply ext<;>simp
  unfold d6 at e;rcases e with e|⟨e1,e|⟨e2,e3⟩⟩
  .show .inl (.inl e)
  .show .inl (.inr {e1,e})
  right;apply ext
  .simp[kk];simp at e2;lia
  .simp[kk];simp at e1;lia
  simp[kk]
 have hx:∃P∈J,0<(P-m).x\/((P-m).x=0/\0<(P-m).y):=by
  by_cases z:∃P∈J,0<(P-m).x\/((P-m).x=0/\0<(P-m).y)
  .show z
  exfalso;let{Z,f,e}:=T.off (n:={1,0,0}) (d:=m.x) (λe=>by have:=ka V.x e;simp at this);have w:=(U Z f).resolve_left λq=>z {Z,f,q};rw[K8]at w;have:=ka V.y w;simp[kk]at this;simp[c6]at e
  lia
 let{I,g,o1,o2,g0,ge,L,gd,h,sB,sO,sP}:=W8 C ag U hx;have k:=c8.mpr {hm,gd.symm};have o:=c8.mpr {o1,sO};have N:m≠I:=λe=>by subst e;rw[y7]at o2;simp at o2
 by_cases h2:U0 (y6 (b7 m (m+kk) J).1 (b7 m (m+kk) J).2 J)=2
 .have e:d7 m J=(m,m+kk):=by unfold d7;erw[h2,if_true]
  rw[e];let{X,E,Y,H,Z,f,hc}:=IM (J:=y6 (b7 m (m+kk) J).1 (b7 m (m+kk) J).2 J) (by lia);have E:=c8.mp E;have H:=c8.mp H;have f:=c8.mp f;show{L,h,X,E.1,Y,H.1,Z,f.1,E.2,H.2,f.2,hc}
 .
  have h1:U0 (y6 (b7 m (m+kk) J).1 (b7 m (m+kk) J).2 J)≠3:=λz=>by let{A,hA,B,hB,C,hC,D,hD,hd}:=IJ z;have hA:=c8.mp hA;have hB:=c8.mp hB;have hC:=c8.mp hC;have hD:=c8.mp hD;show hd (x4 L.ne (by rw[d5];lia) (by rw[d5];lia) (by rw[d5];lia))
  have ai:U0 (y6 (b7 m (m+kk) J).1 (b7 m (m+kk) J).2 J)<2:=by
   have:U0 (y6 (b7 m (m+kk) J).1 (b7 m (m+kk) J).2 J)<=3:=by
    generalize y6 (b7 m (m+kk) J).1 (b7 m (m+kk) J).2 J=t;unfold U0;split
    .lia
    dsimp only;split
    .lia
    split
    .lia
    split<;>lia
   lia
  have e:d7 m J=((y6 (b7 m (m+kk) J).1 (b7 m (m+kk) J).2 J).getD 0 0,(y6 (b7 m (m+kk) J).1 (b7 m (m+kk) J).2 J).getD 1 0):=by unfold d7;erw[h2,if_false]
  rw[e];have ord:(y6 (b7 m (m+kk) J).1 (b7 m (m+kk) J).2 J).Pairwise (λa b=>d6 (b-a)):=aFE _ ho;have l:∀X,X∈y6 (b7 m (m+kk) J).1 (b7 m (m+kk) J).2 J↔X∈J/\c6 (b7 m (m+kk) J).1 X=(b7 m (m+kk) J).2:=λX=>c8;generalize y6 (b7 m (m+kk) J).1 (b7 m (m+kk) J).2 J=t at*
  match t,k,o with
  |[],k,_=>cases k
  |[x],k,o=>simp at k o;show kb (k.trans o.symm) N
  |x::y::r,k,o=>
   dsimp only[List.getD_cons_zero,List.getD_cons_succ];have p:d6 (y-x):=(aAv.mp ord).1 y (by simp);have ox:=(l x).mp (by simp);have oy:=(l y).mp (by simp);have zl:y-x≠0:=λz=>by rw[z]at p;show x9.irr p
   have na:c6 (b7 m (m+kk) J).1 (y-x)=0:=by rw[d5];lia
   have C2:=DM na;let{Z,f,hz}:=T.below L.ne h;let{s,g2,p1,p2,p0,pe,pp,pd,u,O,Q,sP2}:=W8 C2 zl (J:=J) (λP v=>by
    have:=h P v;by_cases q:c6 (b7 m (m+kk) J).1 P<(b7 m (m+kk) J).2
    .show .inl (by rw[d5];lia)
    show .inr ((RI ai) x (by simp) y (by simp) P ((l P).mpr {v,by lia}))) {Z,f,by rw[d5];lia}
   show{pp,u,x,ox.1,y,oy.1,s,p1,pd.symm,O,Q,C2.ad1 zl p2}
def IsFace.aa2(f:J.Pairwise (λa b=>d6 (b-a)))(h:IsFace J n d):Sheet n (y6 n d J)where
 nz:=h.prim.ne
 pl:=λX g Y k=>by have:=(c8.mp g).2;have:=(c8.mp k).2;rw[d5];lia
 ord:=aFE _ f
 two:=by let{A,l,B,m,C,o,a,b,c,e}:=h.three;show{A,c8.mpr {l,a},B,c8.mpr {m,b},λz=>e ?_};subst z;rw[y7];apply ext<;>simp
def IsFace.ac9{J:List V}{n:V}{d:Int}(h:IsFace J n d){a b:V}(f:EdgeOf n (λX=>X∈y6 n d J) a b):∃X∈y6 n d J,0<f7 n (b-a) (X-a):=by
 by_cases z:∃X∈y6 n d J,0<f7 n (b-a) (X-a)
 .show z
 exfalso;let{I,L}:=c8.mp f.p;let{pb,N}:=c8.mp f.q;have g:c6 n (b-a)=0:=by rw[d5];lia
 have k:∀X∈J,c6 n X=d->cr (b-a) (X-a)=0:=λX m o=>by have r:=c8.mpr {m,o};have l:=f.left X r;have O:¬0<f7 n (b-a) (X-a):=λq=>z {X,r,q};show V9 h.prim.ne g (by rw[d5];lia) (by lia)
 let{A,s,B,v,C,w,t,x,y,e}:=h.three;have u:∀X∈J,c6 n X=d->∀Y∈J,c6 n Y=d->cr (X-Y) (b-a)=0:=λX m o Y E H=>RO (k X m o) (k Y E H);show e (qK (λe=>f.ne (G1 e).symm) (u B v x A s t)<|u C w y A s t)
def PM(r:i9 J)(f:IsFace J n d)(g:IsFace J m e)(k:EdgeOf n (λX=>X∈y6 n d J) a b)(h:EdgeOf m (λX=>X∈y6 m e J) b a)(l:X∈y6 n d J)(o:0<f7 n (b-a) (X-a)):c6 m X<e:=by
 let{s,t}:=c8.mp l;have C:=g.sup X s;by_cases z:c6 m X=e
 .exfalso;let{E,u}:=c8.mp k.p;let{pb,v}:=c8.mp k.q;let{_,w}:=c8.mp h.q;let{_,x}:=c8.mp h.p;let{Z,y,A}:=r.below f.prim.ne f.sup;have B:cr (b-a) (X-a)≠0:=λq=>by unfold f7 at o;rw[q,N1]at o;lia
  let{rfl,rfl}:=jS f.prim g.prim f.sup g.sup u v t w x z B y A;have:=h.left X l;have H:f7 n (a-b) (X-b)=-f7 n (b-a) (X-a):=by simp[f7,c6];grind
  lia
 lia
def yL:List V->V
 |[]=>0
 |X::l=>X+yL l
theorem pM(n:V):∀l:List V,c6 n (yL l)=(l.map (c6 n)).sum
 |[]=>N1 n
 |X::l=>by erw[yL,aAz,aDR];rw[X8,pM n l]
theorem ES{a:Type}(f g:a->Int):∀l:List a,(∀x∈l,f x<=g x)->(l.map f).sum<=(l.map g).sum:=by
 intro b h;cases b with
 |nil=>show aCA _
 |cons x l=>
  erw[aAz,aDR];have:=h x (by simp);have:=ES f g l (λy d=>h y (aAe _ d))
  lia
theorem CC{b:Type}(f g:b->Int):∀l:List b,(∀x∈l,f x<=g x)->(∃x∈l,f x<g x)->(l.map f).sum<(l.map g).sum
 |[],_,⟨x,d,_⟩=>by cases d
 |x::l,h,⟨y,a,k⟩=>by
  erw[aAz,aDR];have m:=h x (by simp);have n:=ES f g l (λy a=>h y (aAe _ a));rcases aAg.mp a with e|e
  .subst e;lia
  have:=CC f g l (λy a=>h y (aAe _ a)) {y,e,k}
  lia
theorem aS{a:Type}(c:Int):∀l:List a,(l.map λ_=>c).sum=(l.length:Int)*c
 |[]=>by simp
 |x::l=>by erw[aAz,aDR,aAt];rw[aS c l];push_cast;grind
def C5(J:List V)(X:V):V:=(J.length:Int)*X-yL J
def cG(J:List V)(n:V)(d:Int):Int:=(J.length:Int)*d-c6 n (yL J)
def vI(J:List V)(n X:V):c6 n (C5 J X)=(J.length:Int)*c6 n X-c6 n (yL J):=by unfold C5;rw[d5,t4]
def jM(a:i9 J)(b:n≠0)(h:∀X∈J,c6 n X<=d):0<cG J n d:=by
 unfold cG;rw[pM,<-aS];have:=CC (c6 n) (λ_=>d) J h (a.below b h)
 lia
def len_pos(a:i9 J):0<(J.length:Int):=by
 let{A,b,_}:=a;have:0<J.length:=aEa b
 lia
def Z0(h:c6 n X=d):c6 n (C5 J X)=cG J n d:=by rw[vI,h];rfl
def qS(h:c6 n X<=d):c6 n (C5 J X)<=cG J n d:=by
 rw[vI];unfold cG;have:=aAS h (show(0:Int)<=J.length by lia)
 lia
def QW(a:0<(J.length:Int))(h:c6 n X<d):c6 n (C5 J X)<cG J n d:=by
 rw[vI];unfold cG;have:=aEC h a
 lia
def WM(J:List V)(a b X:V):f7 (C5 J a) (C5 J b) (C5 J X)=(J.length:Int)*(J.length:Int)*c6 (C5 J a) (cr (b-a) (X-a)):=by unfold C5;simp[f7,c6];grind
def yD(h:cr w c=0)(x y:V):c6 w y*c6 c x=c6 w x*c6 c y:=by
 have e:c6 w y*c6 c x-c6 w x*c6 c y=c6 (cr w c) (cr y x):=by simp[c6];grind
 have:c6 0 (cr y x)=0:=by simp[c6]
 lia
def FX(e:i9 J)(f:IsFace J n d)(l:c6 n a=d)(r:c6 n b=d)(s:c6 n X=d)(h:0<f7 n (b-a) (X-a)):0<f7 (C5 J a) (C5 J b) (C5 J X):=by
 rw[WM];have g:=len_pos e;show aAR (aAR g g) ?_;have k:=f.prim.ne;have p:cr n (cr (b-a)<|X-a)=0:=J2 (by rw[d5];lia) (by rw[d5];lia);have q:=yD p n (C5 J a);have m:0<c6 n (C5 J a):=by rw[Z0 l];show jM e k f.sup
 have o:0<c6 (cr (b-a)<|X-a) n:=by rw[R1];show h
 have t:=aAR m o;rw[R1 (C5 J a)];by_cases z:0<c6 (cr (b-a)<|X-a) (C5 J a)
 .show z
 exfalso;have:c6 n n*c6 (cr (b-a)<|X-a) (C5 J a)<=0:=by have:=aAS (show c6 (cr (b-a)<|X-a) (C5 J a)<=0 by lia) (aAU<|x6 k);exists this
 lia
def WT(g:i9 J)(f:IsFace J n d)(x:IsFace J m e)(h:EdgeOf n (λX=>X∈y6 n d J) a b)(l:EdgeOf m (λX=>X∈y6 m e J) b a)(O:c6 m B*cG J n d<=c6 n B*cG J m e):0<=f7 (C5 J a) (C5 J b) B:=by
 let{X,o,t}:=f.ac9 h;let{Q,u}:=c8.mp o;let{T,v}:=c8.mp h.p;let{pb,w}:=c8.mp h.q;let{_,A}:=c8.mp l.q;let{_,C}:=c8.mp l.p;have c0:=jM g f.prim.ne f.sup;have E:=FX g f v w u t;by_cases z:0<=f7 (C5 J a) (C5 J b) B
 .show z
 exfalso;have k:∀y,c6 (cG J n d*m-cG J m e*n) y=cG J n d*c6 m y-cG J m e*c6 n y:=λy=>by rw[R1,d5,t4,t4,R1 y m,R1 y n]
 have H:c6 (cG J n d*m-cG J m e*n) (C5 J a)=0:=by rw[k,Z0 v,Z0 A];grind
 have I:c6 (cG J n d*m-cG J m e*n) (C5 J b)=0:=by rw[k,Z0 w,Z0 C];grind
 have L:c6 (cG J n d*m-cG J m e*n) (C5 J X)<0:=by rw[k,Z0 u];have:=aEC (QW (len_pos g)<|PM g f x h l o t) c0;grind
 have p:=yD (J2 H I) (C5 J X) B;have N:c6 (cr (C5 J a)<|C5 J b) B=f7 (C5 J a) (C5 J b) B:=T2 _ _ _;rw[(T2 _ _ _),N]at p;have r:0<c6 (cG J n d*m-cG J m e*n) (C5 J X)*f7 (C5 J a) (C5 J b) B:=Int.mul_pos_of_neg_of_neg L (by lia);rw[<-p]at r;have s:0<c6 (cG J n d*m-cG J m e*n) B:=by
  by_cases q:0<c6 (cG J n d*m-cG J m e*n) B
  .show q
  have:=aAO (show c6 (cG J n d*m-cG J m e*n) B<=0 by lia) (aAU E)
  lia
 rw[k]at s
 lia
def DZ{a b c d e f:Int}(g:0<b)(h:0<d)(k:0<f)(l:a*d<=c*b)(m:c*f<=e*d):a*f<=e*b:=by have n:=aAO l (aAU k);have o:=aAO m (aAU g);show aED (by grind) h
theorem GO{d:Type}(p q:d->Int):∀(l:List d),l≠[]->(∀x∈l,0<q x)->∃x∈l,∀y∈l,p y*q x<=p x*q y
 |[],h,_=>kb rfl h
 |[x],_,_=>by simp
 |x::y::l,_,b=>by
  let{z,f,h}:=GO p q (y::l) (by simp) (λw a=>b w (aAe _ a));by_cases c:p x*q z<=p z*q x
  .show{z,aAe _ f,λw a=>?_};rcases aAg.mp a with e|e
   .subst e;show c
   show h w e
  show{x,by simp,λw a=>?_};rcases aAg.mp a with e|e
  .subst e;show aCA _
  show DZ (b w a) (b z<|aAe _ f) (b x (by simp)) (h w e) (by lia)
theorem uk(h:V->Int):∀(x:V) (l:List V),0<=h x->(∀z,(x::l).getLast?=some z->h z<=0)->l≠[]->∃u v,(u,v)∈t9 (x::l)/\0<=h u/\h v<=0:=by
 intro x b d a e;cases b with
 |nil=>show kb rfl e
 |cons y r=>
  by_cases c:h y<=0
  .show{x,y,by simp[t9],d,c}
  match r,a with
  |[],a=>show kb (a y rfl) c
  |z::r,a=>let{u,v,m,p}:=uk h y (z::r) (by lia) (λw f=>a w (by rw[aDP];show f)) (by simp);show{u,v,by erw[t9]at m⊢;show aAe _ m,p}
theorem mH:∀(l:List V) (x z w:V),(x::l).getLast?=some z->(z,w)∈t9 (x::l++[w]):=by
 intro a x z w h;cases a with
 |nil=>simp at h;subst h;simp[t9]
 |cons y l=>have:=mH l y z w h;show aAe _ this
theorem gS:∀(l:List V) (x w:V),∀e∈t9 (x::l),e∈t9 (x::l++[w]):=by
 intro a x w e h;cases a with
 |nil=>simp[t9]at h
 |cons y l=>
  erw[aBQ,t9]at h⊢;rcases aAg.mp h with q|q
  .subst q;simp
  show aAe _ (gS l y w e q)
def O7(g:J.Pairwise (λa b=>d6 (b-a)))(f:IsFace J n d):∃r s t l,k9 n (y6 n d J)=r::s::t::l:=by
 have S:=f.aa2 g;let{r,l,e,_}:=S.aa9;match l,e with
 |[],e=>
  have h:(r,r)∈U8 (k9 n<|y6 n d J):=by rw[e];simp[U8]
  show kb rfl (S.pair h).ne
 |[s],e=>
  have k:(r,s)∈U8 (k9 n<|y6 n d J):=by rw[e];simp[U8]
  have m:(s,r)∈U8 (k9 n<|y6 n d J):=by rw[e];simp[U8]
  have o:=S.pair m;let{X,p,q}:=f.ac9 (S.pair k);have:=o.left X p;have u:f7 n (r-s) (X-s)=-f7 n (s-r) (X-r):=by simp[f7,c6];grind
  lia
 |s::t::l,e=>show{r,s,t,l,e}
def uX(I:i9 J)(ho:J.Pairwise (λa b=>d6 (b-a)))(fs:List (V×Int))(ag:fs≠[])(hf:∀f∈fs,IsFace J f.1 f.2)(hc:∀f∈fs,∀a b,EdgeOf f.1 (λX=>X∈y6 f.1 f.2 J) a b->∃g∈fs,EdgeOf g.1 (λX=>X∈y6 g.1 g.2 J) b a)(E:IsFace J n d):(n,d)∈fs:=by
 obtain⟨B,hBd⟩:∃B,B=yL ((y6 n d J).map (C5 J)):={_,rfl};have dB:∀m,c6 m B=((y6 n d J).map λX=>c6 m (C5 J X)).sum:=λm=>by rw[hBd,pM,aBx];rfl
 have cn:=jM I E.prim.ne E.sup;have ub:∀m e,(∀X∈J,c6 m X<=e)->c6 m B<=((y6 n d J).length:Int)*cG J m e:=λm e hm=>by rw[dB,<-aS];show ES _ _ _ λX k=>qS (hm X (c8.mp k).1)
 have eB:c6 n B=((y6 n d J).length:Int)*cG J n d:=by rw[dB,<-aS];congr 1;show List.map_congr_left λX k=>Z0 (c8.mp k).2
 let{{m,e},hm,htop}:=GO (λf:V×Int=>c6 f.1 B) (λf=>cG J f.1 f.2) fs ag λf h=>jM I (hf f h).prim.ne (hf f h).sup;have o:=hf _ hm;have N:∀a b,EdgeOf m (λX=>X∈y6 m e J) a b->0<=f7 (C5 J a) (C5 J b) B:=λa b hab=>by let{g,hg,hg2}:=hc _ hm a b hab;show WT I o (hf g hg) hab hg2 (htop g hg)
 have S:=o.aa2 ho;let{r,s,t,l,er}:=O7 ho o;have nd:=S.aa4;have pr:=λ{P Q}=>S.aa1 (P:=P) (Q:=Q);rw[er]at pr nd;have rm:r∈k9 m (y6 m e J):=by rw[er];simp
 have on:∀X∈r::s::t::l,c6 m X=e:=λX k=>by rw[<-er]at k;show(c8.mp<|S.aa3 k).2
 obtain⟨z,hz⟩:∃z,(s::t::l).getLast?=some z:=by simp[aEH]
 have c1:(r,s)∈U8 (r::s::t::l):=by rw[W2];simp[t9]
 have c2:(z,r)∈U8 (r::s::t::l):=by rw[W2];show mH _ _ _ _ (by rw[aDP];show hz)
 have w1:=N _ _ (pr.mp c1);have w2:=N _ _ (pr.mp c2);let{u,v,O,hu,hv}:=uk (λX=>f7 (C5 J r) (C5 J X) B) s (t::l) w1 (λy hy=>by
  have:y=z:=aAq (hy.symm.trans hz);subst this;have e1:f7 (C5 J r) (C5 J y) B=-f7 (C5 J y) (C5 J r) B:=by simp[f7,c6];grind
  lia) (by simp)
 have c3:(u,v)∈U8 (r::s::t::l):=by rw[W2];have:=gS (t::l) s r _ O;erw[aBQ,t9]at this⊢;show aAe _ this
 have g3:=pr.mp c3;have mu:u∈s::t::l/\v∈s::t::l:=by
  have:=O;have hh:∀(l:List V) (p q:V),(p,q)∈t9 l->p∈l/\q∈l:=λl=>by
   induction l with
   |nil=>intro p q h;simp[t9]at h
   |cons x l ih=>
    intro p q h;match l,h,ih with
    |[],h,_=>simp[t9]at h
    |y::l,h,ih=>
     erw[t9]at h;rcases aAg.mp h with c|c
     .cases c;simp
     have:=ih p q c;show{aAe _ this.1,aAe _ this.2}
  show hh _ _ _ O
 have nr:=(aAP.mp nd).1;have ru:r≠u:=λq=>by subst q;show nr mu.1
 have rv:r≠v:=λq=>by subst q;show nr mu.2
 have st:=S.strict g3 rm ru rv;have du:=on u (aAe _ mu.1);have dv:=on v (aAe _ mu.2);have dr:=on r (by simp);have D0:=FX I o du dv dr st;have w3:=N _ _ g3;have w:=DP B (C5 J r) (C5 J u) (C5 J v);have a1:f7 B (C5 J u) (C5 J v)=f7 (C5 J u) (C5 J v) B:=by simp[f7,c6];grind
 have a2:f7 B (C5 J v) (C5 J r)=-f7 (C5 J r) (C5 J v) B:=by simp[f7,c6];grind
 have a3:f7 B (C5 J r) (C5 J u)=f7 (C5 J r) (C5 J u) B:=by simp[f7,c6];grind
 have a4:f7 (C5 J r) (C5 J u) (C5 J v)=f7 (C5 J u) (C5 J v) (C5 J r):=by simp[f7,c6];grind
 rw[a1,a2,a3,a4]at w;obtain⟨T,hal⟩:∃T,T=f7 (C5 J u) (C5 J v) B:={_,rfl};obtain⟨U,hbe⟩:∃U,U=-f7 (C5 J r) (C5 J v) B:={_,rfl};obtain⟨ga,hga⟩:∃ga,ga=f7 (C5 J r) (C5 J u) B:={_,rfl};obtain⟨H,hDe⟩:∃H,H=f7 (C5 J u) (C5 J v) (C5 J r):={_,rfl};rw[<-hal,<-hbe,<-hga,<-hDe]at w;have al0:0<=T:=by lia
 have be0:0<=U:=by lia
 have ga0:0<=ga:=by lia
 have cd:∀f:V,H*c6 f B=ga*c6 f (C5 J v)+T*c6 f (C5 J r)+U*c6 f (C5 J u):=λf=>by
  have:=ka (c6 f) w;rw[X8,X8,t4,t4,t4,t4]at this
  lia
 have q1:=cd m;rw[Z0 dr,Z0 du,Z0 dv]at q1;have q2:=cd n;have cm:=jM I o.prim.ne o.sup;have pt:∀X∈r::s::t::l,X∈J:=λX k=>by rw[<-er]at k;show(c8.mp<|S.aa3 k).1
 have r1:=qS (J:=J) (E.sup r (pt r (by simp)));have r2:=qS (J:=J) (E.sup u<|pt u<|aAe _ mu.1);have r3:=qS (J:=J) (E.sup v<|pt v<|aAe _ mu.2);have s1:=aAS r1 al0;have s2:=aAS r2 be0;have s3:=aAS r3 ga0;obtain⟨L,hL⟩:∃L:Int,L=((y6 n d J).length:Int):={_,rfl};have ub1:=ub m e o.sup;rw[<-hL]at eB ub1;have k1:H*L<=T+U+ga:=by
  have:(H*L)*cG J n d<=(T+U+ga)*cG J n d:=by rw[eB]at q2;have e1:H*L*cG J n d=H*(L*cG J n d):=aFe _ _ _;grind
  show aED this cn
 have k2:H*c6 m B=(T+U+ga)*cG J m e:=by rw[q1];grind
 have k3:(H*L)*cG J m e<=H*c6 m B:=by rw[k2];show aAO k1 (aAU cm)
 have k4:L*cG J m e<=c6 m B:=by rw[aFe]at k3;show Int.le_of_mul_le_mul_left k3 (by lia)
 have all:∀X∈y6 n d J,c6 m X=e:=λX k=>by
  have le:c6 m X<=e:=o.sup X (c8.mp k).1;by_cases z:c6 m X=e
  .show z
  exfalso;have:=CC (λX=>c6 m (C5 J X)) (λ_=>cG J m e) (y6 n d J) (λY hY=>qS (o.sup Y (c8.mp hY).1)) {X,k,QW (len_pos I) (by lia)};rw[<-dB,aS,<-hL]at this
  lia
 let{A,hA,B',hB',C,hC,ea,eb,ec,hcr}:=E.three;let{Z,hZ,hz}:=I.below E.prim.ne E.sup;let{rfl,rfl}:=jS E.prim o.prim E.sup o.sup ea eb ec (all A<|c8.mpr ⟨hA,ea⟩) (all B'<|c8.mpr ⟨hB',eb⟩) (all C<|c8.mpr ⟨hC,ec⟩) hcr hZ hz;show hm
def j1(J:List V)(f:V×Int):List V:=k9 f.1 (y6 f.1 f.2 J)
structure LInv(J:List V)(p0:V×V)(fs:List (V×Int))(walked:V×V->Prop)(waiting:List (V×V)):Prop where
 face:∀f∈fs,IsFace J f.1 f.2
 nd:fs.Nodup
 wk:∀e,walked e↔∃f∈fs,e∈U8 (j1 J f)
 cl:∀f∈fs,∀a b,(a,b)∈U8 (j1 J f)->(∃g∈fs,(b,a)∈U8 (j1 J g))\/(b,a)∈waiting
 wt:∀p∈waiting,(∃f∈fs,(p.2,p.1)∈U8 (j1 J f))\/(fs=[]/\p=p0)
 ne:fs=[]->waiting=[p0]
structure Good(J:List V)(m:V):Prop where
 solid:i9 J
 ord:J.Pairwise (λa b=>d6 (b-a))
 mem:m∈J
 least:∀X∈J,X=m\/d6 (X-m)
section
variable{J:List V}{m:V} (G:Good J m) {fs:List (V×Int)}{walked:V×V->Prop}{waiting rest:List (V×V)}{p:V×V}
include G
theorem EM:LInv J (d7 m J) [] (λ_=>False) [d7 m J]where
 face:=λf h=>by cases h
 nd:=aDd
 wk:=λe=>{λh=>h.elim,by rintro⟨f,h,_⟩;cases h}
 cl:=λf h=>by cases h
 wt:=λq h=>.inr {rfl,by simpa using h}
 ne:=λ_=>rfl
theorem ND(h:LInv J (d7 m J) fs walked waiting)(l:waiting=rest++[p])(n:walked p):LInv J (d7 m J) fs walked rest:=by
 have k:∀q,q∈waiting↔q=p\/q∈rest:=λq=>by rw[l];simp[or_comm]
 let{o,d,r}:=(h.wk p).mp n;have s:fs≠[]:=λe=>by subst e;cases d
 show{h.face,h.nd,h.wk,λf t a b g=>?_,λq u=>h.wt q ((k q).mpr (.inr u)),λe=>kb e s};rcases h.cl f t a b g with q|q
 .show .inl q
 rcases(k (b,a)).mp q with z|z
 .subst z;show .inl {o,d,r}
 show .inr z
theorem yU(h:LInv J (d7 m J) fs walked waiting)(e:p∈waiting)(g:¬walked p):IsFace J (b7 p.1 p.2 J).1 (b7 p.1 p.2 J).2/\b7 p.1 p.2 J∉fs/\(fs≠[]->p∈U8 (j1 J (b7 p.1 p.2 J))):=by
 rcases h.wt p e with⟨f,k,l⟩|⟨n,o⟩
 .have a:=h.face f k;let{b,q}:=uJ a.prim.ne a.sup (G.solid.below a.prim.ne a.sup) ((a.aa2 G.ord).aa1.mp l);have r:=b.aa2 G.ord;have d:=r.aa1.mpr q;show{b,λz=>g ((h.wk p).mpr {_,z,d}),λ_=>d}
 subst n o;show{gP G.solid G.ord G.mem G.least,by simp,λz=>kb rfl z}
theorem MZ(h:LInv J (d7 m J) fs walked waiting)(r:waiting=rest++[p])(t:¬walked p){walked':V×V->Prop}(u:∀e,walked' e↔walked e\/e∈U8 (j1 J (b7 p.1 p.2 J)))(l:∀q,q∈waiting'↔q∈rest\/(q.2,q.1)∈U8 (j1 J (b7 p.1 p.2 J))):
  LInv J (d7 m J) (fs++[b7 p.1 p.2 J]) walked' waiting':=by
 have n:∀q,q∈waiting↔q=p\/q∈rest:=λq=>by rw[r];simp[or_comm]
 let{I,v,w}:=yU G h ((n p).mpr (.inl rfl)) t;show{λf d=>?_,?_,λe=>?_,λf d a b k=>?_,λq x=>?_,λe=>by simp at e}
 .rcases aAV.mp d with z|z
  .show h.face f z
  nofun
 .rw[aCQ];show⟨h.nd,by simp,λa A b B=>λe=>by
   have:b=b7 p.1 p.2 J:=by exists B
   subst e this;show v A⟩
 .rw[u,h.wk];constructor
  .rintro(⟨f,d,o⟩|o)
   .show{f,aBI _ d,o}
   show{_,aAE _ (by simp),o}
  nofun
 .rcases aAV.mp d with z|z
  .rcases h.cl f z a b k with⟨g,C,e⟩|q
   .show .inl {g,aBI _ C,e}
   rcases(n (b,a)).mp q with y|y
   .have E:fs≠[]:=λe=>by subst e;cases z
    show .inl {b7 p.1 p.2 J,aAE _ (by simp),by rw[y];show w E}
   show .inr ((l _).mpr (.inl y))
  have:f=b7 p.1 p.2 J:=by exists z
  subst this;show .inr ((l _).mpr (.inr k))
 rcases(l q).mp x with z|z
 .rcases h.wt q ((n q).mpr (.inr z))with⟨f,d,e⟩|⟨H,L⟩
  .show .inl {f,aBI _ d,e}
  have:=h.ne H;exfalso;rw[r]at this;have s:=ka List.length this;simp at s;subst s;cases z
 show .inl {_,aAE _ (by simp),z}
theorem QK(h:LInv J (d7 m J) fs walked []):fs≠[]/\∀n d,(n,d)∈fs↔IsFace J n d:=by
 have o:fs≠[]:=λe=>by have:=h.ne e;cases this
 show{o,λn d=>{λk=>h.face _ k,λk=>(uX G.solid G.ord fs o h.face (λf k a b l=>?_) k)}};rcases h.cl f k a b (((h.face f k).aa2 G.ord).aa1.mpr l)with⟨g,r,e⟩|q
 .show{g,r,((h.face g r).aa2 G.ord).aa1.mp e}
 cases q
end
def lL(h:IsFace J n d):∃A∈J,∃B∈J,∃C∈J,cr (B-A) (C-A)≠0/\c9 A B C=(n,d):=by
 let{A,t,B,f,C,m,a,b,c,e}:=h.three;have o:∀B∈J,∀C∈J,c6 n B=d->c6 n C=d->cr (B-A) (C-A)≠0->0<c6 n (cr (B-A)<|C-A)->c9 A B C=(n,d):=λB f C m b c e r=>by
  let{g,x,y,E,H}:=bL e;have p:cr n (cr (B-A)<|C-A)=0:=J2 (by rw[d5];lia) (by rw[d5];lia);let{k,l,u,s}:=A1 h.prim.ne p;have I:0<l:=by
   have q:=ka (c6 n) s;rw[t4,t4]at q;have:=aAR u r;by_cases z:0<l
   .show z
   have:=aAO (show l<=0 by nofun) (aAU<|x6 h.prim.ne);simp at this;lia
  rw[y]at s;have L:(k*g)*(c9 A B C).1=l*n:=by rw[<-s];apply ext<;>simp<;>grind
  have v:=nF E h.prim (aAR u x) I L;show aFf v ?_;rw[H,v];show a
 by_cases z:0<c6 n (cr (B-A)<|C-A)
 .show{A,t,B,f,C,m,e,o B f C m b c e z}
 have N:=nU (C-A) (B-A);have w:cr (C-A) (B-A)≠0:=λq=>e (by rw[nU,q];rfl);have O:c6 n (cr (B-A)<|C-A)≠0:=λq=>e (V9 h.prim.ne (by rw[d5];lia) (by rw[d5];lia) q);show{A,t,C,m,B,f,w,o C m B f c b w ?_};have:c6 n (cr (C-A)<|B-A)=-c6 n (cr (B-A)<|C-A):=by rw[N];simp[c6];grind
 lia
def cands(J:List V):List (V×Int):=J.flatMap λA=>J.flatMap λB=>J.map λC=>c9 A B C
def KA(J:List V):(cands J).length=J.length*(J.length*J.length):=by
 unfold cands;have h:∀(l:List V) (f:V->List (V×Int)) (k:Nat),(∀x,(f x).length=k)->(l.flatMap f).length=l.length*k:=λl f k a=>by
  induction l with
  |nil=>simp
  |cons x l b=>rw[List.flatMap_cons,aAM,b,a,aAt,Nat.succ_mul,Nat.add_comm]
 rw[h J _ (J.length*J.length) λA=>h J _ J.length λB=>by simp]
theorem K4{a:Type}[DecidableEq a]:∀{l m:List a},l.Nodup->(∀x∈l,x∈m)->l.length<=m.length:=by
 intro k m h b;cases k with
 |nil=>show aAT _
 |cons x l=>
  have d:=b x (by simp);have f:=aAP.mp h;have:=K4 (l:=l) f.2 (λy g=>by
   have ne:y≠x:=λe=>by subst e;show f.1 g
   show(aFF ne).mpr (b y<|aAe _ g))
  rw[aEZ d]at this;have:0<m.length:=aEa d;erw[aAt]
  lia
def KG{J:List V}{fs:List (V×Int)}(a:fs.Nodup)(b:∀f∈fs,IsFace J f.1 f.2):fs.length<=J.length*(J.length*J.length):=by rw[<-KA];show K4 a λf h=>?_;let{A,d,B,g,C,k,_,e}:=lL (b f h);unfold cands;rw[aBq];show{A,d,?_};rw[aBq];show{B,g,aAo.mpr {C,k,e}}
section
variable{J:List V} (hs:i9 J) (ho:J.Pairwise (λa b=>d6 (b-a)))
include hs ho
theorem kD(e:IsFace J n d)(h:EdgeOf n (λX=>X∈y6 n d J) a b):
 IsFace J (b7 b a J).1 (b7 b a J).2/\EdgeOf (b7 b a J).1 (λX=>X∈y6 (b7 b a J).1 (b7 b a J).2 J) b a:=uJ e.prim.ne e.sup (hs.below e.prim.ne e.sup) h
theorem jK(e:IsFace J n d)(f:EdgeOf n (λX=>X∈y6 n d J) a b)(g:EdgeOf n (λX=>X∈y6 n d J) b a):False:=by
 let{X,h,k}:=e.ac9 f;have:=g.left X h;have l:f7 n (a-b) (X-b)=-f7 n (b-a) (X-a):=by simp[f7,c6];grind
 lia
theorem jG(a:IsFace J n d)(r:X∈j1 J (n,d)):∃g h:V×Int,IsFace J g.1 g.2/\IsFace J h.1 h.2/\(n,d)≠g/\(n,d)≠h/\g≠h/\c6 n X=d/\c6 g.1 X=g.2/\c6 h.1 X=h.2:=by
 have S:=a.aa2 ho;let{Y,u}:=cB S r;let{W,s}:=NE S r;have b:=S.aa1.mp u;have k:=S.aa1.mp s;let{m,f}:=kD hs ho a b;let{v,l}:=kD hs ho a k;have o:W≠Y:=λe=>by subst e;show jK hs ho a b k
 show{_,_,m,v,λe=>?_,λe=>?_,λe=>?_,(c8.mp b.p).2,(c8.mp f.q).2,(c8.mp l.p).2}
 .rw[<-e]at f;show jK hs ho a b f
 .rw[<-e]at l;show jK hs ho a k l
 .
  have st:=S.strict b (vZ S s).1 (k.ne) o;have w:=(c8.mp b.p).2;have x:=(c8.mp f.p).2;have y:=(c8.mp f.q).2;have t:=(c8.mp l.q).2;rw[<-e]at t;have z:cr (Y-X) (W-X)≠0:=λq=>by unfold f7 at st;rw[q,N1]at st;lia
  let{Z,A,B}:=hs.below a.prim.ne a.sup;let{C,E}:=jS a.prim m.prim a.sup m.sup w ((c8.mp b.q).2) ((c8.mp k.p).2) y x t z A B;have:(n,d)=b7 Y X J:=aFf C E;rw[<-this]at f;show jK hs ho a b f
theorem IP(s:IsFace J n d)(f:IsFace J m e)(h:EdgeOf n (λX=>X∈y6 n d J) a b)(ga:c6 m a=e)(gb:c6 m b=e):(m,e)=(n,d)\/(m,e)=b7 b a J:=by
 let{pa,da}:=c8.mp h.p;let{pb,db}:=c8.mp h.q;let{E,U}:=kD hs ho s h;have hab:c6 n (a-b)=0:=by rw[d5];lia
 have C:=tJ (n:=n) s.prim.ne hab;obtain⟨P,pP,eP,hP⟩:∃P∈J,c6 m P=e/\cr (a-b) (P-b)≠0:=by
  by_cases z:∃P∈J,c6 m P=e/\cr (a-b) (P-b)≠0
  .show z
  exfalso;let{A,hA,B,hB,D,hD,eA,eB,eD,hc}:=f.three;have k:=λX hX dX=>by
   by_cases q:cr (a-b) (X-b)=0
   .show q
   show kb {X,hX,dX,q} z
  have k2:∀X∈J,c6 m X=e->∀Y∈J,c6 m Y=e->cr (X-Y) (a-b)=0:=λX hX dX Y hY dY=>RO (k X hX dX) (k Y hY dY);show hc (qK (λq=>h.ne (G1 q)) (k2 B hB eB A hA eA)<|k2 D hD eD A hA eA)
 have mab:c6 m (a-b)=0:=by rw[d5];lia
 have mP:c6 m (P-b)=0:=by rw[d5];lia
 let{k,l,hk,ek}:=A1 f.prim.ne (J2 mab mP);have dl:=λw=>by have:=ka (λv=>c6 v w) ek;erw[D5,T2]at this;show this
 have l0:l≠0:=λq=>hP (by rw[q,p7]at ek;show uK hk ek)
 have H:∀Q∈J,c6 m (Q-b)<=0:=λQ hQ=>by rw[d5];have:=f.sup Q hQ;lia
 let{Z,hZ,hz}:=hs.below s.prim.ne s.sup;by_cases hl:0<l
 .
  right;obtain⟨O,hO,T⟩:∃O∈y6 (b7 b a J).1 (b7 b a J).2 J,0<f7 (b7 b a J).1 (a-b) (O-b):=E.ac9 U;let{pO,dO}:=c8.mp hO;let{_,e1b}:=c8.mp U.p;let{_,e1a}:=c8.mp U.q;have t1:f7 (a-b) (P-b) (O-b)<=0:=by
   have q:=dl (O-b);have:=aAS (H O pO) (aAU hl);rw[aEg]at this;by_cases z:f7 (a-b) (P-b) (O-b)<=0
   .show z
   have:=aAR hk (show 0<f7 (a-b) (P-b) (O-b)by lia);lia
  have g:cr (b7 b a J).1 (cr (a-b)<|O-b)=0:=J2 (by rw[d5];lia) (by rw[d5];lia);let{k',t,I,o}:=A1 E.prim.ne g;have r:∀w,k'*f7 (a-b) (O-b) w=t*c6 (b7 b a J).1 w:=λw=>by have:=ka (λv=>c6 v w) o;erw[D5,T2]at this;show this
  have jb:0<t:=by
   have q:=ka (c6 (b7 b a J).1) o;rw[t4,t4]at q;have u:0<c6 (b7 b a J).1 (cr (a-b)<|O-b):=T;have:=aAR I u;have hn:=x6 E.prim.ne;by_cases z:0<t
   .show z
   have:=aAO (show t<=0 by lia) (aAU hn);simp at this;lia
  have t2:f7 (a-b) (O-b) (P-b)<=0:=by
   have q:=r (P-b);have h0:c6 (b7 b a J).1 (P-b)<=0:=by rw[d5];have:=E.sup P pP;lia
   have:=aAS h0 (aAU jb);rw[aEg]at this;by_cases z:f7 (a-b) (O-b) (P-b)<=0
   .show z
   have:=aAR I (show 0<f7 (a-b) (O-b) (P-b)by lia);lia
  have t3:f7 (a-b) (O-b) (P-b)=0:=by rw[j6]at t1;lia
  have L:=r (P-b);rw[t3,aEg]at L;have N:c6 (b7 b a J).1 P=(b7 b a J).2:=by have:=(aAC.mp L.symm).resolve_left (by lia);rw[d5]at this;lia
  let{Z',x,y}:=hs.below f.prim.ne f.sup;let{q1,u}:=jS f.prim E.prim f.sup E.sup gb ga eP e1b e1a N hP x y;show aFf q1 u
 .
  left;have mi:l<0:=by lia
  let{O,hO,T}:=s.ac9 h;let{pO,dO}:=c8.mp hO;rw[qZ]at T;have t1:0<=f7 (a-b) (P-b) (O-b):=by
   have q:=dl (O-b);have h2:0<=l*c6 m (O-b):=by
    have:=aBN (show 0<=-l by lia) (show 0<=-c6 m (O-b)by have:=H O pO;lia)
    rwa [aDk]at this
   by_cases z:0<=f7 (a-b) (P-b) (O-b)
   .show z
   have:=aBd hk (show f7 (a-b) (P-b) (O-b)<0 by lia);lia
  have g:cr n (cr (b-a)<|O-b)=0:=J2 (by rw[d5];lia) (by rw[d5];lia);let{k',t,I,o}:=A1 s.prim.ne g;have r:∀w,k'*f7 (b-a) (O-b) w=t*c6 n w:=λw=>by have:=ka (λv=>c6 v w) o;erw[D5,T2]at this;show this
  have jb:0<t:=by
   have q:=ka (c6 n) o;rw[t4,t4]at q;have u:0<c6 n (cr (b-a)<|O-b):=T;have:=aAR I u;have hn:=x6 s.prim.ne;by_cases z:0<t
   .show z
   have:=aAO (show t<=0 by lia) (aAU hn);simp at this;lia
  have t2:f7 (b-a) (O-b) (P-b)<=0:=by
   have q:=r (P-b);have h0:c6 n (P-b)<=0:=by rw[d5];have:=s.sup P pP;lia
   have:=aAS h0 (aAU jb);rw[aEg]at this;by_cases z:f7 (b-a) (O-b) (P-b)<=0
   .show z
   have:=aAR I (show 0<f7 (b-a) (O-b) (P-b)by lia);lia
  have e3:f7 (b-a) (O-b) (P-b)=f7 (a-b) (P-b) (O-b):=by simp[f7,c6];grind
  have t3:f7 (b-a) (O-b) (P-b)=0:=by lia
  have L:=r (P-b);rw[t3,aEg]at L;have onn:c6 n P=d:=by have:=(aAC.mp L.symm).resolve_left (by lia);rw[d5]at this;lia
  let{Z',x,y}:=hs.below f.prim.ne f.sup;let{q1,u}:=jS f.prim s.prim f.sup s.sup gb ga eP db da onn hP x y;show aFf q1 u
end
def xW(k:i9 J)(l:m∈J)(o:∀X∈J,X=m\/d6 (X-m)):
  fL (b7 m (m+kk) J).1/\m∈y6 (b7 m (m+kk) J).1 (b7 m (m+kk) J).2 J/\∃a∈y6 (b7 m (m+kk) J).1 (b7 m (m+kk) J).2 J,m≠a:=by
 have C:ConeM (m+kk-m) (λw=>0<w.x\/(w.x=0/\0<w.y)):=by rw[K8];show EW
 have p:m+kk-m≠0:=by rw[K8];intro e;have:=ka V.z e;simp[kk]at this
 have b:∀P∈J,(0<(P-m).x\/((P-m).x=0/\0<(P-m).y))\/cr (m+kk-m) (P-m)=0:=λP r=>by
  rw[K8];rcases o P r with e|e
  .right;subst e;rw[y7];apply ext<;>simp
  unfold d6 at e;rcases e with e|⟨f,e|⟨s,H⟩⟩
  .show .inl (.inl e)
  .show .inl (.inr {f,e})
  right;apply ext
  .simp[kk];simp at s;omega
  .simp[kk];simp at f;omega
  simp[kk]
 have t:∃P∈J,0<(P-m).x\/((P-m).x=0/\0<(P-m).y):=by
  by_cases z:∃P∈J,0<(P-m).x\/((P-m).x=0/\0<(P-m).y)
  .show z
  exfalso;let{Z,h,e}:=k.off (n:={1,0,0}) (d:=m.x) (λe=>by have:=ka V.x e;simp at this);have w:=(b Z h).resolve_left λq=>z {Z,h,q};rw[K8]at w;have:=ka V.y w;simp[kk]at this;simp[c6]at e
  lia
 let{a,g,u,I,L,N,v,A,B,O,E,Q}:=W8 C p b t;show{v,c8.mpr {l,A.symm},a,c8.mpr {u,E},λe=>?_}
 nofun
section
variable{J:List V} (hs:i9 J) (ho:J.Pairwise (λa b=>d6 (b-a)))
include hs ho
theorem xU(d:IsFace J f.1 f.2)(e:IsFace J g.1 g.2)(m:(a,b)∈U8 (j1 J f))(n:(a,b)∈U8 (j1 J g)):f=g:=by
 have k:=(d.aa2 ho).aa1.mp m;have h:=(e.aa2 ho).aa1.mp n;let{o,l}:=kD hs ho d k;rcases IP hs ho d e k (c8.mp h.p).2 (c8.mp h.q).2 with q|q
 .show q.symm
 exfalso;have:g=b7 b a J:=q;rw[<-this]at l;show jK hs ho e h l
theorem KP(h:l.Nodup):(U8 l).Nodup:=by
 have:((U8 l).map (·.1)).Nodup:=by
  unfold U8;rw[List.map_fst_zip]
  .show h
  simp;lia
 show(aBv.mp this).imp λ{a b} h e=>h (by rw[e])
def KZ(J:List V)(fs:List (V×Int)):List (V×V):=fs.flatMap λf=>U8 (j1 J f)
omit hs ho in
theorem PR(fs:List (V×Int)):(KZ J fs).length=(fs.map λf=>(j1 J f).length).sum:=by
 induction fs with
 |nil=>rfl
 |cons f fs a=>change(U8 (j1 J f)++KZ J fs).length=_;rw[aAM,a,aAz,aDR];unfold U8;simp;lia
theorem qE:∀{fs:List (V×Int)},fs.Nodup->(∀f∈fs,IsFace J f.1 f.2)->(KZ J fs).Nodup:=by
 intro k l b;cases k with
 |nil=>show aDd
 |cons f fs=>have d:=aAP.mp l;have h:=b f (.head _);change(U8 (j1 J f)++KZ J fs).Nodup;rw[aCQ];show{KP hs ho ((h.aa2 ho).aa4),qE d.2 λg a=>b g (.tail _ a),λe m p n q=>?_};subst q;let{g,a,o}:=aBq.mp n;show d.1 (xU hs ho h (b g<|.tail _ a) m o▸a)
theorem aV{fs:List (V×Int)}(u:fs.Nodup)(m:∀f∈fs,IsFace J f.1 f.2):(fs.map λf=>(j1 J f).length).sum+J.length<=J.length*J.length:=by
 have k:J.Nodup:=ho.imp λ{a b} h e=>by subst e;show G2 h
 have v:(KZ J fs++J.map λa=>(a,a)).Nodup:=by rw[aCQ];show{(qE hs ho u m),aBv.mpr (k.imp λ{a b} h e=>h (Prod.mk.inj e).1),λe d A w q=>?_};subst q;let{g,n,o}:=aBq.mp d;let{a,_,rfl}:=aAo.mp w;show(((m g n).aa2 ho).aa1.mp o).ne rfl
 have x:∀e∈KZ J fs++J.map (λa=>(a,a)),e∈J.flatMap λa=>J.map λb=>(a,b):=λe d=>by
  rcases aAV.mp d with d|d
  .let{g,n,o}:=aBq.mp d;have r:=((m g n).aa2 ho).aa1.mp o;show aBq.mpr {e.1,(c8.mp r.p).1,aAo.mpr {e.2,(c8.mp r.q).1,rfl}}
  let{a,s,rfl}:=aAo.mp d;show aBq.mpr {a,s,aAo.mpr {a,s,rfl}}
 have t:=K4 v x;have y:(J.flatMap λa=>J.map λb=>(a,b)).length=J.length*J.length:=by
  have:∀l:List V,(l.flatMap λa=>J.map λb=>(a,b)).length=l.length*J.length:=λl=>by
   induction l with
   |nil=>simp
   |cons a l z=>rw[List.flatMap_cons,aAM,z,aAh,aAt,Nat.succ_mul];lia
  show this J
 rw[aAM,PR,aAh,y]at t;show t
theorem cZ{fs:List (V×Int)}(a:∀f∈fs,IsFace J f.1 f.2):3*fs.length<=(fs.map λf=>(j1 J f).length).sum:=by
 induction fs with
 |nil=>simp
 |cons f fs b=>
  have:=b λg d=>a g (.tail _ d);let{r,s,t,l,e}:=O7 ho (a f<|.head _);have h:(j1 J f).length=l.length+3:=by change(k9 f.1 (y6 f.1 f.2 J)).length=_;rw[e];simp
  rw[aAz,aDR,aAt,h]
  lia
end
theorem kI:∀(J:List V) (d b:V),(D4 a A J d b).2∈J\/(D4 a A J d b).2=b:=by
 intro f d b;cases f with
 |nil=>show .inr rfl
 |cons P e=>
  unfold D4;split
  .rcases kI e (cr a<|P-A) P with h|h
   .show .inl (.tail _ h)
   show .inl (by rw[h];show .head _)
  rcases kI e d b with h|h
  .show .inl (.tail _ h)
  show .inr h
section
variable{J c:List V} (hs:i9 J) (ho:J.Pairwise (λa b=>d6 (b-a))) (dg:c.Pairwise (λa b=>d6 (b-a))) (hc:∀X,X∈c↔∃f:V×Int,IsFace J f.1 f.2/\X∈j1 J f)
include hs ho dg hc
theorem XR(h:X∈c):X∈J:=by let{f,a,b}:=(hc X).mp h;show(c8.mp<|(a.aa2 ho).aa3 b).1
theorem kJ(a:IsFace J n d)(h:X∈j1 J (n,d)):X∈y6 n d c:=c8.mpr {(hc X).mpr {(n,d),a,h},((c8.mp<|(a.aa2 ho).aa3 h).2)}
theorem ZS(h:X∈y6 n d c):X∈y6 n d J:=c8.mpr {XR hs ho dg hc (c8.mp h).1,(c8.mp h).2}
theorem kB(a:IsFace J n d):IsFace c n d:=by
 have S:=a.aa2 ho;let{r,s,t,l,e}:=O7 ho a;have g:r∈k9 n (y6 n d J):=by nofun
 have m:s∈k9 n (y6 n d J):=by nofun
 have f:t∈k9 n (y6 n d J):=by nofun
 have b:=S.aa4;rw[e]at b;simp at b;have st:=S.strict (S.aa1.mp (by rw[e];simp[U8])) f (λq=>b.1.2.1 q.symm) (λq=>b.2.1.1 q.symm);have k:=λ{X} (h:X∈k9 n (y6 n d J))=>kJ hs ho dg hc a h;show{a.prim,λX o=>a.sup X (XR hs ho dg hc o),r,(c8.mp<|k g).1,s,(c8.mp<|k m).1,t,(c8.mp<|k f).1,(c8.mp<|k g).2,(c8.mp<|k m).2,(c8.mp<|k f).2,λq=>?_};unfold f7 at st;rw[q,N1]at st
 lia
theorem vH(e:IsFace J n d)(h:EdgeOf n (λX=>X∈y6 n d J) a b):EdgeOf n (λX=>X∈y6 n d c) a b:=by have S:=e.aa2 ho;have m:=vZ S (S.aa1.mpr h);show{kJ hs ho dg hc e m.1,kJ hs ho dg hc e m.2,h.ne,λX f=>h.left X (ZS hs ho dg hc f),λX f=>h.btw X (ZS hs ho dg hc f)}
omit hs ho dg hc in
theorem oF{R:V->Prop}{E:List (V×V)}(g:∀a b,R a->(a,b)∈E->R b):∀(x:V) (l:List V),R x->(∀e∈t9 (x::l),e∈E)->∀X∈x::l,R X:=by
 intro x k f h X d;cases k with
 |nil=>rw[aBj.mp d];show f
 |cons y l=>
  have m:=g x y f (h (x,y) (by simp[t9]));rcases aAg.mp d with rfl|d
  .show f
  show oF g y l m (λe n=>h e (by erw[t9,aAg];show .inr n)) X d
theorem BN(k:IsFace J n d)(h:X∈k9 n (y6 n d c)):X∈k9 n (y6 n d J):=by
 have S:=k.aa2 ho;have s:=(kB hs ho dg hc k).aa2 dg;let{m,r,e,v,w}:=s.aa9;let{g,L,t,x,y}:=S.aa9;have A:m=g:=by
  have B:g∈y6 n d c:=kJ hs ho dg hc k (show g∈k9 n (y6 n d J)by rw[t];simp);rcases w g B with q|q
  .show q.symm
  rcases y m (ZS hs ho dg hc v)with l|l
  .show l
  show kb (x9.add q l) (by
   have:(g-m)+(m-g)=0:=by apply ext<;>simp<;>lia
   rw[this];showλz=>by simp[d6]at z)
 have step:∀a b,a∈k9 n (y6 n d J)->(a,b)∈U8 (k9 n<|y6 n d c)->b∈k9 n (y6 n d J):=λa b C o=>by let{N,u}:=cB S C;have H:=s.aa1.mp o;have I:=vH hs ho dg hc k (S.aa1.mp u);rw[H.next I];show(vZ S u).2
 rw[e]at h;show oF (E:=U8 (k9 n<|y6 n d c)) (R:=λX=>X∈k9 n (y6 n d J)) step m r (by rw[A,t];simp) (λf p=>?_) X h;rw[e,W2];show gS r m m f p
theorem yS(f:IsFace J n d)(h:EdgeOf n (λX=>X∈y6 n d c) a b):EdgeOf n (λX=>X∈y6 n d J) a b:=by have S:=f.aa2 ho;have g:=(kB hs ho dg hc f).aa2 dg;let{l,k}:=cB S (BN hs ho dg hc f<|g.ac5 h);have e:=S.aa1.mp k;rw[h.next (vH hs ho dg hc f e)];show e
theorem GL(b:IsFace J n d):i9 c:=by
 have S:=b.aa2 ho;let{r,s,t,l,e}:=O7 ho b;have B:r∈k9 n (y6 n d J):=by rw[e];simp
 have y:t∈k9 n (y6 n d J):=by rw[e];simp
 have o:=S.aa4;rw[e]at o;simp at o;have a:EdgeOf n (λX=>X∈y6 n d J) r s:=S.aa1.mp (by rw[e];simp[U8]);have st:=S.strict a y (λq=>o.1.2.1 q.symm) (λq=>o.2.1.1 q.symm);let{p,C}:=kD hs ho b a;generalize(b7 s r J).1=m at*
 generalize(b7 s r J).2=f at*
 have T:=p.aa2 ho;let{H,I,L,l2,x}:=O7 ho p;have g:=T.aa4;rw[x]at g;simp at g;obtain⟨Y,A,N,O⟩:∃Y∈k9 m (y6 m f J),Y≠s/\Y≠r:=by
  have q1:H∈k9 m (y6 m f J):=by rw[x];simp
  have q2:I∈k9 m (y6 m f J):=by rw[x];simp
  have q3:L∈k9 m (y6 m f J):=by rw[x];simp
  grind
 have lt:=PM hs p b C a (T.aa3 A) (T.strict C A N O);have k:=λ{X} (h:X∈k9 n (y6 n d J))=>kJ hs ho dg hc b (X:=X) h;have E:s∈k9 n (y6 n d J):=by rw[e];simp
 have dr:=(c8.mp<|k B).2;have Q:=(c8.mp<|k E).2;have dt:=(c8.mp<|k y).2;show{r,(c8.mp<|k B).1,s,(c8.mp<|k E).1,t,(c8.mp<|k y).1,Y,(c8.mp<|kJ hs ho dg hc p A).1,λz=>?_};have U:c6 n (s-r)=0:=by rw[d5];lia
 have p2:c6 n (t-r)=0:=by rw[d5];lia
 have pY:c6 n (Y-r)<0:=by rw[d5];lia
 have id:f7 (s-r) (t-r) (Y-r)*c6 n n=f7 n (s-r) (t-r)*c6 n (Y-r)+c6 n (s-r)*(c6 n (t-r)*0)+(c6 n (s-r)*f7 n (t-r) (Y-r)+c6 n (t-r)*f7 n (Y-r) (s-r)):=by
  generalize s-r=u;generalize t-r=v;generalize Y-r=w;have:=QZ n n u v w
  lia
 rw[z,U,p2]at id;have:f7 n (s-r) (t-r)*c6 n (Y-r)<0:=aBd st pY
 nofun
theorem VT(fs:List (V×Int))(m:fs≠[])(e:∀f,f∈fs↔IsFace J f.1 f.2):IsFace c n d↔IsFace J n d:=by
 show{λh=>?_,kB hs ho dg hc};let{q,g}:=aET fs m;have:=uX (GL hs ho dg hc<|(e q).mp g) dg fs m (λf k=>kB hs ho dg hc ((e f).mp k)) (λf k a b l=>?_) h
 .show(e _).mp this
 have o:=(e f).mp k;let{p,r}:=kD hs ho o (yS hs ho dg hc o l);show{b7 b a J,(e _).mpr p,vH hs ho dg hc p r}
theorem PC(b:X∈c):∃f:V×Int,IsFace c f.1 f.2/\X∈j1 c f:=by let{{n,d},a,h}:=(hc X).mp b;have S:=a.aa2 ho;let{Q,e}:=cB S h;show{(n,d),kB hs ho dg hc a,((kB hs ho dg hc a).aa2 dg).ac5 (vH hs ho dg hc a<|S.aa1.mp e)}
end
def ZL{Pos:V->Prop}(C:Cone Pos){n m p v q u:V}(g:n≠0)(s:c6 n p=0)(d:c6 n v=0)(f:c6 n q=0)(t:c6 n u=0)(E:Pos p)(k:Pos v)(l:Pos q)(H:Pos u)(I:0<c6 m p)(mv:c6 m v<0)(o:0<c6 m q)(mu:c6 m u<0)(w:0<=f7 n v p)(A:0<=f7 n q u):False:=by
 have id:∀{a b c:V},c6 n a=0->c6 n b=0->c6 n c=0->f7 n a b*c6 m c+f7 n b c*c6 m a+f7 n c a*c6 m b=0:=λ{a b c} J L N=>by have:=QZ m n a b c;rw[x4 g J L N,Int.zero_mul]at this;show this
 have O:=id d s f;have Q:=id f t d;rcases aDm 0 (f7 n q v)with h|h
 .
  have r:=C.tr l k E (x4 g f d s) h w;rw[(j6 n q p)]at O;have T:=aBN w (aAU o);have U:0< -f7 n q p*c6 m v:=by have:=aAR r (show 0< -c6 m v by lia);grind
  have Y:=aAR h I
  lia
 rcases aDm (f7 n q v) 0 with h'|h'
 .have e0:=j6 n q v;have B:0<f7 n v q:=by lia
  have r:=C.tr k l H (x4 g d f t) B A;rw[(j6 n v u)]at Q;have T:f7 n q u*c6 m v<=0:=by have:=aBN A (show 0<=-c6 m v by lia);grind
  have U:-f7 n v u*c6 m q<0:=by have:=aAR r o;grind
  have Y:f7 n v q*c6 m u<0:=by have:=aAR B (show 0< -c6 m u by lia);grind
  lia
 have z:f7 n q v=0:=by lia
 have c0:=V9 g f d z;have e:c6 m q*v+(-c6 m v)*q=0:=by have hx:=ka V.x c0;have hy:=ka V.y c0;have hz:=ka V.z c0;simp at hx hy hz;apply ext<;>simp[c6]<;>grind
 have:=C.add (C.mul o k) (C.mul (show 0< -c6 m v by lia) l);rw[e]at this;show C.irr this
section
def XJ{a b c:Int}{k n m:V}(h:c*k=a*n+b*m):a*n=c*k+-b*m:=by rw[h];apply ext<;>simp<;>lia
def XC{a b c:Int}{k n m:V}(h:c*k=a*n+b*m)(z:b=0):a*n=c*k:=by rw[h,z,p7,gE]
variable{n:V}{ts:List V} (S:Sheet n ts)
include S
theorem Sheet.ac6(h:X∈w5 n ts\/X∈w5 n ts.reverse):X∈k9 n ts:=by
 let{m,M,c,d,l,o,f,p,q,b,e,g,k,r,s}:=S.ends;unfold k9;rw[aAV,b,e,aAN,aAN,aBH,aBH,aCn,aCn];rw[b,e]at h;have a:m≠M:=λz=>by subst z;show G2 f
 rcases h with h|h
 .rcases aAg.mp h with rfl|h
  .right;have:=aCO k;rcases aAg.mp this with z|z
   .show kb z.symm a
   show z
  show .inl h
 rcases aAg.mp h with rfl|h
 .left;have:=aCO g
  nofun
 show .inr h
theorem Sheet.top(d:X∈ts)(h:∀Y∈ts,Y≠X->c6 m Y<c6 m X):X∈k9 n ts:=by
 let{s,n1,t1}:=S.ab1;let{t,n2,t2}:=S.ab0;have w:∀u,d6 u->d6 (-u)->False:=λu x y=>by have:=x9.add x y;have A:u+-u=0:=(by apply ext<;>simp<;>lia);rw[A]at this;show x9.irr this
 have B:∀u,P6 u->P6 (-u)->False:=λu x y=>by have:=aR.add x y;have A:u+-u=0:=(by apply ext<;>simp<;>lia);rw[A]at this;show aR.irr this
 rcases qA X (w5 n ts) (λY _=>P9 X Y) (λq C=>t1 X q C d) (λz E=>s.last X d z E) n1 w with H|⟨a,b,l,Q,T⟩
 .show S.ac6 (.inl H)
 rcases qA X (w5 n ts.reverse) (λY _=>by
   rcases P9 X Y with z|z|z
   .show .inl z
   .show .inr (.inr (p6.mpr z))
   show .inr (.inl (p6.mpr z))) (λq C=>t2 X q C d) (λz E=>t.last X d z E) n2 B with H|⟨r,I,f,J,iu⟩
 .show S.ac6 (.inr H)
 exfalso;have U:=L5 S l;have m2:=L5 S f;have L:=s.mem _ U.1;have N:=s.mem _ U.2;have g:=t.mem _ m2.1;have k:=t.mem _ m2.2;have E2:=(S.ae1 f g k).1.left X d;have o:=p6.mp J;have xh:=p6.mp iu;have ne:∀{Y},d6 (X-Y)->Y≠X:=λO z=>by subst z;show G2 O
 have p:∀{Y},d6 (Y-X)->Y≠X:=λO z=>by subst z;show G2 O
 have va:=h a L (ne Q);have vb:=h b N (p T);have va':=h r g (p o);have vb':=h I k (ne xh);show ZL x9 (n:=n) (m:=m) (v:=b-X) S.nz (S.pl _ d _ L) (S.pl _ N _ d) (S.pl _ d _ k) (S.pl _ g _ d) Q T xh o (by rw[d5];lia) (by rw[d5];lia) (by rw[d5];lia) (by rw[d5];lia) ?_ ?_
 .have e:f7 n (b-a) (X-a)=f7 n (b-X) (X-a):=by simp[f7,c6];grind
  rw[<-e];show((S.ae0 l L N).1.left X d)
 have e:f7 n (I-r) (X-r)=f7 n (X-I) (r-X):=by simp[f7,c6];grind
 rw[<-e];show E2
end
section
variable{J:List V} (hs:i9 J)
include hs
theorem kN(a:IsFace J n d)(b:IsFace J m e)(s:c6 n X=d)(t:c6 m X=e)(h:cr m n=0):(n,d)=(m,e):=by
 let{k,l,f,g}:=A1 b.prim.ne h;let{Z,o,u}:=hs.below a.prim.ne a.sup;have p:0<l:=by
  have q:=ka (λv=>c6 v (Z-X)) g;rw[D5,D5]at q;have r:c6 n (Z-X)<0:=by rw[d5];lia
  have w:c6 m (Z-X)<=0:=by rw[d5];have:=b.sup Z o;lia
  have x:=aBd f r;by_cases z:0<l
  .show z
  exfalso;have:0<=l*c6 m (Z-X):=by
   have:=aBN (show 0<=-l by lia) (show 0<=-c6 m (Z-X)by lia)
   rwa [aDk]at this
  lia
 have y:=nF a.prim b.prim f p g
 nofun
theorem EB{a b c:Int}(p:IsFace J n d)(r:IsFace J m e)(s:IsFace J k f)(hX:c6 n X=d)(pg:c6 m X=e)(t:c6 k X=f)(hc:0<c)(u:0<a)(w:0<b)(h:c*k=a*n+b*m)(x:cr n m≠0):False:=by
 let{A,y,B,E,C,H,I,L,N,g}:=s.three;have l:∀Y∈J,c6 k Y=f->c6 n Y=d/\c6 m Y=e:=λY o hy=>by
  have h1:=p.sup Y o;have h2:=r.sup Y o;have q:=ka (λv=>c6 v (Y-X)) h;have q:c*c6 k (Y-X)=a*c6 n (Y-X)+b*c6 m (Y-X):=by
   have O:c6 (a*n+b*m) (Y-X)=a*c6 n (Y-X)+b*c6 m (Y-X):=by simp[c6];grind
   rw[<-(D5 ..),<-O];show q
  have k0:c6 k (Y-X)=0:=by rw[d5];lia
  rw[k0,aEg]at q;have Q:c6 n (Y-X)<=0:=by rw[d5];lia
  have T:c6 m (Y-X)<=0:=by rw[d5];lia
  have a0:=aDO (aAU u) Q;have b0:=aDO (aAU w) T;have U:a*c6 n (Y-X)=0:=by lia
  have z2:b*c6 m (Y-X)=0:=by lia
  have y1:c6 n (Y-X)=0:=by rcases aAC.mp U with z|z;lia;show z
  have y2:c6 m (Y-X)=0:=by rcases aAC.mp z2 with z|z;lia;show z
  rw[d5]at y1 y2;show{by lia,by lia}
 let{a1,a2}:=l A y I;let{b1,b2}:=l B E L;let{c1,c2}:=l C H N;have p2:cr m (cr (B-A)<|C-A)=0:=J2 (by rw[d5];lia) (by rw[d5];lia);show x (qK g (J2 (by rw[d5];lia) (by rw[d5];lia)) p2)
theorem sQ(A:IsFace J n d)(B:IsFace J m e)(l:IsFace J k f)(E:c6 n X=d)(H:c6 m X=e)(I:c6 k X=f)(n12:(n,d)≠(m,e))(n13:(n,d)≠(k,f))(n23:(m,e)≠(k,f)):f7 n m k≠0:=λz=>by
 have L:cr n m≠0:=λq=>n12 (kN hs B A H E q).symm;have N:cr n k≠0:=λq=>n13 (kN hs l A I E q).symm;have O:cr m k≠0:=λq=>n23 (kN hs l B I H q).symm;have o:∀{u v:V},cr u v≠0->cr v u≠0:=λh q=>h (by rw[nU,q];rfl);obtain⟨w,ew⟩:∃w,w=cr n m:={_,rfl};have r:=DP w n m k;rw[z]at r;have C:0<f7 w n m:=by
  have:f7 w n m=c6 w w:=by rw[ew];rfl
  rw[this,ew];show x6 L
 obtain⟨c,ec⟩:∃c,c=f7 w n m:={_,rfl};obtain⟨a,ea⟩:∃a,a=-f7 w m k:={_,rfl};obtain⟨b,eb⟩:∃b,b=-f7 w k n:={_,rfl};have g:c*k=a*n+b*m:=by rw[ec,ea,eb];have hx:=ka V.x r;have Q:=ka V.y r;have hz:=ka V.z r;simp at hx Q hz;apply ext<;>simp<;>lia
 rw[<-ec]at C;have r2:=(g.trans (ext (aGi _ _) (aGi _ _) (aGi _ _)):c*k=b*m+a*n);have p:∀{u v:V}{s t:Int},s≠0->s*u=t*v->cr u v=0:=λ{u v s t} kg h=>by
  have hx:=ka V.x h;have Q:=ka V.y h;have hz:=ka V.z h;simp at hx Q hz;have T:∀y:Int,s*y=0->y=0:=λy Q=>by rcases aAC.mp Q with q|q;show kb q kg;show q
  apply ext<;>simp<;>apply T<;>grind
 rcases aDm 0 a with ha|ha
 .rcases aDm 0 b with U|U
  .show EB hs A B l E H I C ha U g L
  rcases aDm b 0 with iu|iu
  .
   show EB hs l B A I H E ha C (Int.neg_pos_of_neg iu) (XJ g) (o O)
  have b0:b=0:=by lia
  show N (p (aEF ha)<|XC g b0)
 rcases aDm a 0 with Y|Y
 .rcases aDm 0 b with U|U
  .show EB hs l A B I E H U C (Int.neg_pos_of_neg Y) (XJ r2) (o N)
  .
   let{Z,hZ,hz}:=hs.below l.prim.ne l.sup;have q:c*c6 k (Z-X)=a*c6 n (Z-X)+b*c6 m (Z-X):=by rw[<-D5,g,R1,X8,t4,t4,R1 n,R1 m]
   have k0:c6 k (Z-X)<0:=by rw[d5];lia
   have n0:c6 n (Z-X)<=0:=by rw[d5];have:=A.sup Z hZ;lia
   have m0:c6 m (Z-X)<=0:=by rw[d5];have:=B.sup Z hZ;lia
   have t1:c*c6 k (Z-X)<0:=aBd C k0;have t2:0<=a*c6 n (Z-X):=by
    have:=aBN (show 0<=-a by lia) (show 0<=-c6 n (Z-X)by lia)
    rwa [aDk]at this
   have t3:0<=b*c6 m (Z-X):=by
    have:=aBN (show 0<=-b by lia) (show 0<=-c6 m (Z-X)by lia)
    rwa [aDk]at this
   lia
 have a0:a=0:=by lia
 by_cases b0:b=0
 .rw[a0,b0,p7,p7]at g;have T:=λy (h:c*y=0)=>(aAC.mp h).resolve_left (aEF C);show l.prim.ne (ext (T _<|ka V.x g) (T _<|ka V.y g) (T _<|ka V.z g))
 show O (p b0<|XC r2 a0)
theorem JB(l:IsFace J n d)(o:IsFace J m e)(p:IsFace J k f)(s:c6 n X=d)(t:c6 m X=e)(u:c6 k X=f)(a:(n,d)≠(m,e))(b:(n,d)≠(k,f))(g:(m,e)≠(k,f)){Y:V}(h:Y∈J)(v:Y≠X):c6 (n+m+k) Y<c6 (n+m+k) X:=by
 have C:=l.sup Y h;have E:=o.sup Y h;have H:=p.sup Y h;have r:∀Z,c6 (n+m+k) Z=c6 n Z+c6 m Z+c6 k Z:=λZ=>by simp[c6];grind
 rw[r,r];rcases aDm (c6 n Y+c6 m Y+c6 k Y) (c6 n X+c6 m X+c6 k X)with q|q
 .show q
 exfalso;have w:c6 n (Y-X)=0:=by rw[d5];lia
 have x:c6 m (Y-X)=0:=by rw[d5];lia
 have z:c6 k (Y-X)=0:=by rw[d5];lia
 show v (G1 ?_);generalize Y-X=y at*
 have A:∀y:Int,f7 n m k*y=0->y=0:=λy B=>by rcases aAC.mp B with q|q;show kb q (sQ hs l o p s t u a b g);show q
 simp[c6]at w x z;apply ext<;>simp<;>apply A<;>simp[f7,c6]<;>grind
theorem DO(q:J.Pairwise (λa b=>d6 (b-a)))(r:X∈J)(o:IsFace J n d)(s:IsFace J m e)(t:IsFace J k f)(p:c6 n X=d)(u:c6 m X=e)(v:c6 k X=f)(g:(n,d)≠(m,e))(h:(n,d)≠(k,f))(l:(m,e)≠(k,f)):X∈j1 J (n,d):=by show(o.aa2 q).top (m:=n+m+k) (c8.mpr {r,p}) λY w x=>JB hs o s t p u v g h l (c8.mp w).1 x
end
def Up(J:List V)(A B C:V):Prop:=(∀X∈J,c6 (cr (B-A)<|C-A) (X-A)<=0)/\∃X∈J,c6 (cr (B-A)<|C-A) (X-A)<0
def Dn(J:List V)(A B C:V):Prop:=(∀X∈J,0<=c6 (cr (B-A)<|C-A) (X-A))/\∃X∈J,0<c6 (cr (B-A)<|C-A) (X-A)
def xB(A B C:V):cr (C-A) (B-A)=-cr (B-A) (C-A):=nU _ _
def zR{J:List V}{A B C:V}:Dn J A B C↔Up J A C B:=by
 have e:∀X:V,c6 (cr (C-A)<|B-A) X=-c6 (cr (B-A)<|C-A) X:=λX=>by rw[xB];simp[c6];grind
 constructor
 .rintro⟨h,X,a,l⟩;show{λY b=>by have:=h Y b;rw[e];lia,X,a,by rw[e];lia}
 rintro⟨h,X,a,l⟩;show{λY b=>by have:=h Y b;rw[e]at this;lia,X,a,by rw[e]at l;lia}
def nS{J:List V}{A B C:V}(d:A∈J)(e:B∈J)(f:C∈J)(h:Up J A B C):IsFace J (c9 A B C).1 (c9 A B C).2:=by
 let{k,X,q,a}:=h;have ne:cr (B-A) (C-A)≠0:=λz=>by rw[z]at a;simp[c6]at a
 let{g,l,m,n,o}:=bL ne;have b:∀Y:V,c6 (cr (B-A)<|C-A) (Y-A)=g*(c6 (c9 A B C).1 Y-(c9 A B C).2):=λY=>by rw[o,m,D5,d5]
 have zero:∀Y:V,c6 (cr (B-A)<|C-A) (Y-A)=0->c6 (c9 A B C).1 Y=(c9 A B C).2:=λY h=>by rw[b]at h;rcases aAC.mp h with h|h<;>lia
 show{n,λY p=>?_,A,d,B,e,C,f,zero A ?_,zero B ?_,zero C ?_,ne}
 .have:=k Y p;rw[b]at this;by_cases z:c6 (c9 A B C).1 Y<=(c9 A B C).2
  .show z
  have:=aAR l (show 0<c6 (c9 A B C).1 Y-(c9 A B C).2 by lia);lia
 .simp[c6]
 .simp[c6];grind
 simp[c6];grind
def FP{J:List V}{n:V}{d:Int}(S:i9 J)(h:IsFace J n d){A B C:V}(hA:A∈J)(a:c6 n A=d)(b:c6 n B=d)(c:c6 n C=d)(m:0<c6 n (cr (B-A) (C-A))):Up J A B C/\c9 A B C=(n,d):=by
 have e:cr (B-A) (C-A)≠0:=λz=>by rw[z]at m;simp[c6]at m
 let{g,o,t,w,x}:=bL e;have p:cr n (cr (B-A)<|C-A)=0:=J2 (by rw[d5];lia) (by rw[d5];lia);let{k,l,u,r}:=A1 h.prim.ne p;have y:0<l:=by
  have q:=ka (c6 n) r;rw[t4,t4]at q;have:=aAR u m;have E:=x6 h.prim.ne;by_cases z:0<l
  .show z
  have:=aAO (show l<=0 by lia) (aAU E);simp at this;lia
 rw[t]at r;have H:(k*g)*(c9 A B C).1=l*n:=by rw[<-r];apply ext<;>simp<;>grind
 have s:=nF w h.prim (aAR u o) y H;have I:(c9 A B C).2=d:=by rw[x,s];show a
 have v:∀Y:V,c6 (cr (B-A)<|C-A) (Y-A)=g*(c6 n Y-d):=λY=>by rw[<-a,t,s,D5,d5]
 show{{λX f=>?_,?_},aFf s I}
 .rw[v];have:=aBN (aAU o) (show 0<=d-c6 n X by have:=h.sup X f;lia);have L:g*(d-c6 n X)=-(g*(c6 n X-d)):=by grind
  lia
 by_cases q:∃X∈J,c6 n X<d
 .let{X,f,l}:=q;show{X,f,?_};rw[v];have:=aAR o (show 0<d-c6 n X by lia);have L:g*(d-c6 n X)=-(g*(c6 n X-d)):=by grind
  lia
 exfalso;have all:∀X∈J,c6 n X=d:=λX f=>by
  have:=h.sup X f;by_cases l:c6 n X<d
  .show kb {X,f,l} q
  lia
 let{P,N,Q,O,R,U,T,hT,dz}:=S;have z:∀X∈J,c6 n (X-P)=0:=λX f=>by rw[d5,all X f,all P N];lia
 show dz (x4 h.prim.ne (z Q O) (z R U)<|z T hT)
def DV{J:List V}{n:V}{d:Int}(S:i9 J)(h:IsFace J n d){A B C:V}(f:A∈J)(a:c6 n A=d)(b:c6 n B=d)(c:c6 n C=d)(e:cr (B-A) (C-A)≠0):(Up J A B C/\c9 A B C=(n,d))\/(Dn J A B C/\c9 A C B=(n,d)):=by
 by_cases z:0<c6 n (cr (B-A)<|C-A)
 .show .inl (FP S h f a b c z)
 have g:c6 n (cr (B-A)<|C-A)≠0:=λq=>e (V9 h.prim.ne (by rw[d5];lia) (by rw[d5];lia) q);have t:c6 n (cr (C-A)<|B-A)=-c6 n (cr (B-A)<|C-A):=by rw[xB];simp[c6];grind
 have:=FP S h f a c b (by lia);show .inr {zR.mpr this.1,this.2}
def a0i(J:List V)(A B C:V):Prop:=∃i j k:Nat,i<j/\j<k/\J[i]?=some A/\J[j]?=some B/\J[k]?=some C
def WE{J:List V}{A B C:V}(E:A∈J)(H:B∈J)(I:C∈J)(e:cr (B-A) (C-A)≠0):∃r s t,a0i J r s t/\cr (s-r) (t-r)≠0/\∀p:V->Prop,p A->p B->p C->p r/\p s/\p t:=by
 let{i,g}:=aBk.mp E;let{j,f}:=aBk.mp H;let{k,d}:=aBk.mp I;have l:∀{v w:V},v≠0->(w=v\/w=-v)->w≠0:=λ{v w} u h z=>by
  rcases h with h|h
  .show u (h▸z)
  rw[h]at z;have L:=ka V.x z;have N:=ka V.y z;have O:=ka V.z z;simp at L N O;show u (ext (by erw[mz];lia) (by erw[ZD];lia) (by erw[ZT];lia))
 have Q:i≠j:=λq=>by
  subst q;rw[g]at f;injection f with f;subst f
  show e (by apply ext<;>simp)
 have T:i≠k:=λq=>by
  subst q;rw[g]at d;injection d with d;subst d
  show e (by apply ext<;>simp)
 have U:j≠k:=λq=>by
  subst q;rw[f]at d;injection d with d;subst d
  show e (by apply ext<;>simp<;>grind)
 rcases aEK Q with m|m<;>rcases aEK T with n|n<;>rcases aEK U with o|o
 .show{A,B,C,{i,j,k,m,o,g,f,d},e,λp a b c=>{a,b,c}}
 .show{A,C,B,{i,k,j,n,o,g,d,f},l e (.inr (by apply ext<;>simp<;>grind)),λp a b c=>{a,c,b}}
 .omega
 .show{C,A,B,{k,i,j,n,m,d,g,f},l e (.inl (by apply ext<;>simp<;>grind)),λp a b c=>{c,a,b}}
 .show{B,A,C,{j,i,k,m,n,f,g,d},l e (.inr (by apply ext<;>simp<;>grind)),λp a b c=>{b,a,c}}
 .omega
 .show{B,C,A,{j,k,i,o,n,f,d,g},l e (.inl (by apply ext<;>simp<;>grind)),λp a b c=>{b,c,a}}
 show{C,B,A,{k,j,i,o,m,d,f,g},l e (.inr (by apply ext<;>simp<;>grind)),λp a b c=>{c,b,a}}
def HZ{J:List V}(S:i9 J){n:V}{d:Int}:IsFace J n d↔∃A B C,a0i J A B C/\((Up J A B C/\c9 A B C=(n,d))\/(Dn J A B C/\c9 A C B=(n,d))):=by
 constructor
 .intro h;let{A,m,B,o,C,p,a,b,c,e}:=h.three;let{q,r,s,t,u,v}:=WE m o p e;let{w,x,y}:=v (λX=>c6 n X=d) a b c;let{i,j,k,_,_,f,g,l}:=id t;show{q,r,s,t,DV S h (aAi f) w x y u}
 rintro⟨A,B,C,⟨i,j,k,_,_,f,g,l⟩,h|h⟩
 .have:=nS (aAi f) (aAi g) (aAi l) h.1;rw[h.2]at this;show this
 have:=nS (aAi f) (aAi l) (aAi g) (zR.mp h.1);rw[h.2]at this;show this
abbrev T3:=V×V×V
def UW(r:T3)(v:V):V:={c6 r.1 v,c6 r.2.1 v,c6 r.2.2 v}
def tr(r:T3):T3:=({r.1.x,r.2.1.x,r.2.2.x},{r.1.y,r.2.1.y,r.2.2.y},{r.1.z,r.2.1.z,r.2.2.z})
def yq(f:V->V)(r:T3):T3:=(f r.1,f r.2.1,f r.2.2)
def wV(r:T3):Int:=c6 r.1 (cr r.2.1 r.2.2)
def a2t:T3:=({1,0,0},{0,1,0},{0,0,1})
def a4x(r:T3):tr (tr r)=r:=rfl
def SY(r c:T3):wV (yq (UW r) c)=wV r*wV c:=by let{{a,b,t},{d,e,f},{g,h,i}}:=r;let{{j,k,l},{m,n,o},{p,q,s}}:=c;simp[wV,yq,UW,c6];grind
def SQ(r:T3)(u v:V):UW r (u-v)=UW r u-UW r v:=by apply ext<;>simp[UW,c6]<;>grind
abbrev Mv:=T3×V
def cD(m:Mv)(P:V):V:=UW m.1 P+m.2
def YD:Mv:=(a2t,0)
def XD(r:T3):Prop:=wV r=1\/wV r=-1
def oT(m:Mv)(P Q:V):cD m P-cD m Q=UW m.1 (P-Q):=by rw[SQ];apply ext<;>simp[cD]<;>lia
def MY(m:Mv)(A B C D:V):f7 (cD m B-cD m A) (cD m C-cD m A) (cD m D-cD m A)=wV m.1*f7 (B-A) (C-A) (D-A):=by rw[oT,oT,oT];show SY m.1 (B-A,C-A,D-A)
section
variable{J qts:List V}{m:Mv}{n:V}{d:Int}
end
section
def nI{u:V}(h:d6 u):¬d6 (-u):=λa=>by simp[d6]at h a;lia
end
section
variable{J qts:List V}{n:V}{d:Int}
end
structure Sl where
 a:Int
 b:Int
 c:Int
 w:V
 t:Bool
def Sl.put(s:Sl)(P:V):V:=
 let x:=P.x+s.a*P.y
 let y:=P.y+s.b*P.z
 let z:=P.z+s.c*x
 if s.t then{y+s.w.x,x+s.w.y,z+s.w.z}else{x+s.w.x,y+s.w.y,z+s.w.z}
def Sl.mv(s:Sl):Mv:=
 let d:V:={1,s.a,0}
 let e:V:={0,1,s.b}
 let f:V:={s.c,s.c*s.a,1}
 (if s.t then(e,d,f)else(d,e,f),s.w)
def Sl.ae4(s:Sl)(P:V):s.put P=cD s.mv P:=by let{a,b,c,w,t}:=s;cases t<;>apply ext<;>simp[Sl.put,Sl.mv,cD,UW,c6]<;>grind
def Sl.unit(s:Sl):XD s.mv.1:=by
 let{a,b,c,w,t}:=s;cases t
 .left;simp[Sl.mv,wV,c6,cr];try grind
 right;simp[Sl.mv,wV,c6,cr];try grind
def RE{m:Mv}(h:XD m.1){J a:List V}(b:∀X∈J,cD m X∈a)(S:i9 J):i9 a:=by
 let{A,d,B,f,C,g,D,k,e}:=S;show{_,b A d,_,b B f,_,b C g,_,b D k,?_};rw[MY];intro z;rcases aAC.mp z with z|z
 .rcases h with h|h<;>lia
 show e z
def zG(P:V){J:List V}(h:P∈J):i9 (J++[{P.x+1,P.y,P.z},{P.x,P.y+1,P.z},{P.x,P.y,P.z+1}]):=by
 show{P,by simp[h],{P.x+1,P.y,P.z},by simp,{P.x,P.y+1,P.z},by simp,{P.x,P.y,P.z+1},by simp,?_};have:f7 ((⟨P.x+1,P.y,P.z⟩:V)-P) (⟨P.x,P.y+1,P.z⟩-P) (⟨P.x,P.y,P.z+1⟩-P)=1:=by simp[f7,c6,cr];try grind
 rw[this];symm
def qN{P:V}{J:List V}(h:P∈J):i9 J↔∃u∈J,∃v∈J,cr (u-P) (v-P)≠0/\∃w∈J,c6 (cr (u-P) (v-P)) (w-P)≠0:=by
 have g:∀u v w:V,f7 w u v=c6 (cr u v) w:=λu v w=>by simp[f7,c6,cr];grind
 have k:∀u v w:V,f7 w u v=f7 u v w:=λu v w=>by simp[f7,c6,cr];grind
 constructor
 .rintro⟨A,a,B,b,C,d,D,f,e⟩;have id:f7 (B-A) (C-A) (D-A)=f7 (B-P) (C-P) (D-P)-f7 (A-P) (C-P) (D-P)+f7 (A-P) (B-P) (D-P)-f7 (A-P) (B-P) (C-P):=by simp[f7,c6,cr];grind
  have mk:∀{X Y Z:V},X∈J->Y∈J->Z∈J->f7 (X-P) (Y-P) (Z-P)≠0->∃u∈J,∃v∈J,cr (u-P) (v-P)≠0/\∃w∈J,c6 (cr (u-P)<|v-P) (w-P)≠0:=λ{X Y Z} l m n q=>by rw[<-k,g]at q;show{X,l,Y,m,λz=>q (by rw[z];simp[c6]),Z,n,q}
  by_cases o:f7 (B-P) (C-P) (D-P)=0
  .by_cases p:f7 (A-P) (C-P) (D-P)=0
   .by_cases r:f7 (A-P) (B-P) (D-P)=0
    .show mk a b d (by lia)
    show mk a b f r
   show mk a d f p
  show mk b d f o
 rintro⟨u,s,v,t,_,w,x,q⟩;show{P,h,u,s,v,t,w,x,by rw[<-k,g];show q}
section
variable{J qts:List V}{n:V}{d:Int}{m:Mv}
end
def rG{n m k y:V}(a:f7 n m k≠0)(d:c6 n y=0)(g:c6 m y=0)(h:c6 k y=0):y=0:=by
 have l:∀t:Int,f7 n m k*t=0->t=0:=λt o=>by
  rcases aAC.mp o with q|q
  .show kb q a
  show q
 have e:∀f:V->Int,(f=(·.x)\/f=(·.y)\/f=(·.z))->f7 n m k*f y=c6 n y*f (cr m k)+c6 m y*f (cr k n)+c6 k y*f (cr n m):=λf b=>by rcases b with rfl|rfl|rfl<;>simp[f7,c6]<;>grind
 have z:=λf b=>l _ (by rw[e f b,d,g,h];simp);show ext (z _<|.inl rfl) (z _<|.inr (.inl rfl)) (z _<|.inr (.inr rfl))
section
variable{J:List V} (hs:i9 J) (ho:J.Pairwise (λa b=>d6 (b-a)))
include hs ho
end
section
variable{J:List V} (hs:i9 J) (ho:J.Pairwise (λa b=>d6 (b-a)))
include hs ho
theorem VZ{n m k X Y:V}{d e f:Int}(g:IsFace J n d)(h:IsFace J m e)(l:IsFace J k f)(u:c6 n X=d)(v:c6 m X=e)(w:c6 k X=f)(o:(n,d)≠(m,e))(p:(n,d)≠(k,f))(q:(m,e)≠(k,f))(r:Y∈J)(ne:Y≠X):c6 n Y<d\/c6 m Y<e\/c6 k Y<f:=by
 have t:=sQ hs g h l u v w o p q;have a:=g.sup Y r;have b:=h.sup Y r;have c:=l.sup Y r;by_cases z:c6 n Y<d\/c6 m Y<e\/c6 k Y<f
 .show z
 have s:∀{n:V}{d:Int},c6 n X=d->c6 n Y=d->c6 n (Y-X)=0:=λ{n d} g h=>by
  have:c6 n (Y-X)=c6 n Y-c6 n X:=by simp[c6];grind
  lia
 have:=rG t (s u (by lia)) (s v (by lia)) (s w (by lia));show kb (by have g:=ka V.x this;have h:=ka V.y this;have l:=ka V.z this;simp at g h l;show ext (by lia) (by lia) (by lia)) ne
end
section
variable{p o:List V} (hs:i9 o) (ho:o.Pairwise (λa b=>d6 (b-a))) (sub:∀X∈p,X∈o) (ex:∀Y∈o,Y∈p\/∃a∈p,∃b∈p,(2:Int)*Y=a+b)
include hs ho sub ex
end
section
variable{J c:List V} (hs:i9 J) (ho:J.Pairwise (λa b=>d6 (b-a))) (dg:c.Pairwise (λa b=>d6 (b-a))) (hc:∀X,X∈c↔∃f:V×Int,IsFace J f.1 f.2/\X∈j1 J f)
include hs ho dg hc
end
section
variable{J:List V} (hs:i9 J) (ho:J.Pairwise (λa b=>d6 (b-a)))
include hs ho
end
section
variable{J:List V} (hs:i9 J)
include hs
end
section
variable{J:List V} (hs:i9 J) (ho:J.Pairwise (λa b=>d6 (b-a)))
include hs ho
end
section
variable{J:List V} (hs:i9 J) (ho:J.Pairwise (λa b=>d6 (b-a)))
include hs ho
theorem AF{v:V}(s:∃f:V×Int,IsFace J f.1 f.2/\v∈j1 J f){n:V}{d:Int}(t:IsFace J n d)(e:c6 n v=d):v∈j1 J (n,d):=by
 let{f,h,p}:=s;let{l,o,q,r,u,w,x,y,z,A}:=jG hs ho h p;have B:=(c8.mp<|(h.aa2 ho).aa3 p).1;show(t.aa2 ho).top (m:=f.1+l.1+o.1) (c8.mpr {B,e}) λY g ne=>?_;have g:=(c8.mp g).1;have a:=h.sup Y g;have b:=q.sup Y g;have c:=r.sup Y g;have k:=VZ hs ho h q r y z A u w x g ne;have ad:∀Z:V,c6 (f.1+l.1+o.1) Z=c6 f.1 Z+c6 l.1 Z+c6 o.1 Z:=λZ=>by simp[c6];grind
 rw[ad,ad]
 lia
end
section
open Classical
structure Hgt(w:V)(J:List V):Prop where
 ne:w≠0
 inj:∀X∈J,∀Y∈J,X≠Y->c6 w (X-Y)≠0
section
variable{J:List V}{w:V} (hs:i9 J) (ho:J.Pairwise (λa b=>d6 (b-a))) (hw:Hgt w J)
include hs ho hw
omit hs ho hw in
omit hs ho hw in
omit hs ho hw in
end
end
section
open Classical
variable{J:List V} (hs:i9 J) (ho:J.Pairwise (λa b=>d6 (b-a)))
include hs ho
end
section
open Classical
variable{J:List V} (hs:i9 J) (ho:J.Pairwise (λa b=>d6 (b-a))) {fs:List (V×Int)} (hfs:∀f,f∈fs↔IsFace J f.1 f.2)
include hs ho hfs
end
def smV:List V->V
 |[]=>0
 |a::l=>a+smV l
def ar(o:V)(l:List (V×V)):V:=smV (l.map λe=>cr (e.1-o) (e.2-o))
def a1k(o:V)(e:V×V)(l:List (V×V)):ar o (e::l)=cr (e.1-o) (e.2-o)+ar o l:=rfl
section
variable{n:V}{d:Int}{l:List (V×V)}{a:V}
end
section
open Classical
variable{J:List V} (hs:i9 J) (ho:J.Pairwise (λa b=>d6 (b-a)))
include hs ho
variable{fs:List (V×Int)} (hfs:∀f,f∈fs↔IsFace J f.1 f.2)
include hfs
end
section
variable{J:List V} (hs:i9 J) (ho:J.Pairwise (λa b=>d6 (b-a)))
include hs ho
variable{fs:List (V×Int)} (hfs:∀f,f∈fs↔IsFace J f.1 f.2)
include hfs
end
end G
namespace ST
open PySem PySem.SetTable
def II(Y:Array Nat):Prop:=∀(i k:Nat) (a:i<Y.size) (b:k<Y.size),i<k->Y[i]<Y[k]
def zF{l r:Nat}(h:l<r):l<=(l+r)/2/\(l+r)/2<r:=by lia
theorem xJ(Y:Array Nat)(j:Nat)(k:II Y):∀(a lo b:Nat),lo<=b->b<=Y.size->b-lo<=a->(∀i (h:i<Y.size),i<lo->Y[i]<j)->(∀i (h:i<Y.size),b<=i->j<=Y[i])->
  below.go Y j a lo b<=Y.size/\(∀i (h:i<Y.size),i<below.go Y j a lo b->Y[i]<j)/\(∀i (h:i<Y.size),below.go Y j a lo b<=i->j<=Y[i])
 |0,lo,b,p,f,l,m,n=>by obtain rfl:=aFs p (Nat.sub_eq_zero_iff_le.mp<|Nat.le_zero.mp l);unfold below.go;show{f,m,n}
 |a+1,lo,b,p,f,l,m,n=>by
  unfold below.go;by_cases g:lo<b
  .rw[jk g];let{r,s}:=zF g;have o:=aAm s f;have e:Y.getD ((lo+b)/2) j=Y[(lo+b)/2]:=by simp[aFa,o]
   dsimp only;rw[e];by_cases d:Y[(lo+b)/2]<j
   .rw[jk d];show xJ Y j k a _ _ s f (aBi<|aAm (Nat.sub_lt_sub_left g<|Nat.lt_succ_of_le r) l) (λi h t=>?_) n;by_cases q:i=(lo+b)/2
    .subst q;show d
    show aEL (k i _ h o<|aCk (aBi t) q) d
   rw[jl d];have d:=aCF d;show xJ Y j k a _ _ r (aCd o) (aBi<|aAm (Nat.sub_lt_sub_right r s) l) m (λi h t=>?_);by_cases q:i=(lo+b)/2
   .subst q;show d
   show aAk d (aCd<|k _ i o h<|aCk t<|aCp q)
  rw[jl g];obtain rfl:=aFs p (aCF g);show{f,m,n}
def bO(a:II Y)(j:Nat):below Y j<=Y.size/\(∀i (h:i<Y.size),i<below Y j->Y[i]<j)/\(∀i (h:i<Y.size),below Y j<=i->j<=Y[i]):=
 xJ Y j a Y.size 0 Y.size (aAT _) (aAj _) (by lia) (λi h b=>by lia) (λi h b=>by lia)
def NF(a:II Y)(h:Y[i]?=some j):below Y j=i:=by
 let{b,e}:=aBY.mp h;let{k,f,g}:=bO a j;rcases Nat.lt_trichotomy (below Y j) i with q|q|q
 .have d:below Y j<Y.size:=by lia
  have l:=g _ d (aAj _);have m:=a _ _ d b q
  lia
 .show q
 have:=f i b q;lia
structure Tab(t:SetTable):Prop where
 asc:II t.place
 le:∀j∈t.place.toList,j<=t.mask
 nod:t.dummies=#[]
def L3(T:Tab t)(h:t.place[i]?=some j):t.slot j=.live i:=by unfold slot;rw[NF T.asc h];dsimp only;rw[h];simp
def BJ(T:Tab t)(h:j∉t.place.toList):t.slot j=.empty:=by
 unfold slot;have a:¬(t.place[below t.place j]?==some j)=true:=λz=>h (by have:=beq_iff_eq.mp z;let{b,e}:=aBY.mp this;rw[<-e];simp)
 dsimp only;rw[jl a,T.nod];rw[jl (by unfold has;simp)]
def CQ(T:Tab t)(j:Nat):(t.slot j=.empty/\j∉t.place.toList)\/∃i,t.slot j=.live i/\t.place[i]?=some j:=by
 by_cases h:j∈t.place.toList
 .let{i,a,e}:=aBa h;have:t.place[i]?=some j:=by rw[<-aAB,aAd a,e]
  show .inr {i,L3 T this,this}
 show .inl {BJ T h,h}
def SK(mask:Nat)(p:Probe):Probe:=if p.more>0 then{p with j:=p.j+1,more:=p.more-1}else{p with j:=(leap mask p.i p.perturb).1,more:=runEnd mask (leap mask p.i p.perturb).1-(leap mask p.i p.perturb).1,i:=(leap mask p.i p.perturb).1,perturb:=(leap mask p.i p.perturb).2}
def oO(t:fh)(p:Probe):t.advance p=SK t.mask p:=rfl
def start(mask:Nat)(h:Int):Probe:={j:=bits h%(mask+1),more:=runEnd mask (bits h%(mask+1))-bits h%(mask+1),i:=bits h%(mask+1),perturb:=bits h,dummy:=none}
def n4(mask:Nat)(h:Int):Nat->Probe
 |0=>start mask h
 |n+1=>SK mask (n4 mask h n)
theorem oJ(mask:Nat)(h:Int):∀n,(n4 mask h n).dummy=none
 |0=>rfl
 |n+1=>by have:=oJ mask h n;change(SK mask _).dummy=none;unfold SK;split<;>show this
def C1(mask:Nat)(h:Int):Nat->Nat×Nat
 |0=>(bits h%(mask+1),bits h)
 |k+1=>leap mask (C1 mask h k).1 (C1 mask h k).2
def len(mask i:Nat):Nat:=runEnd mask i-i
def ZK(mask i:Nat):len mask i<=9:=by unfold len runEnd;split<;>lia
def off(mask:Nat)(h:Int):Nat->Nat
 |0=>0
 |k+1=>off mask h k+len mask (C1 mask h k).1+1
theorem LQ(mask:Nat)(h:Int):∀k,off mask h k<=10*k
 |0=>aAj _
 |k+1=>by have:=LQ mask h k;have:=ZK mask (C1 mask h k).1;change off mask h k+_+1<=_;lia
theorem aL(mask:Nat)(h:Int):∀k r,r<=len mask (C1 mask h k).1->
  n4 mask h (off mask h k+r)={j:=(C1 mask h k).1+r,more:=len mask (C1 mask h k).1-r,i:=(C1 mask h k).1,perturb:=(C1 mask h k).2,dummy:=none}
 |0,0,_=>rfl
 |0,r+1,b=>by
  have a:=aL mask h 0 r (by lia);have e:off mask h 0+(r+1)=(off mask h 0+r)+1:=by lia
  rw[e,n4,a];unfold SK;rw[jk (show len mask (C1 mask h 0).1-r>0 by lia)];simp
  lia
 |k+1,0,_=>by have a:=aL mask h k (len mask (C1 mask h k).1) (aAj _);have e:off mask h (k+1)+0=(off mask h k+len mask (C1 mask h k).1)+1:=rfl;rw[e,n4,a];unfold SK;rw[jl (by simp)];simp[C1,len]
 |k+1,r+1,b=>by
  have a:=aL mask h (k+1) r (by lia);have e:off mask h (k+1)+(r+1)=(off mask h (k+1)+r)+1:=by lia
  rw[e,n4,a];unfold SK;rw[jk (show len mask (C1 mask h<|k+1).1-r>0 by lia)];simp
  lia
def NM(mask:Nat)(h:Int)(k:Nat):(n4 mask h (off mask h k)).j=(C1 mask h k).1:=by have:=aL mask h k 0 (aAT _);rw[Nat.add_zero]at this;rw[this];rfl
theorem jN(mask:Nat)(h:Int):∀k,(C1 mask h k).2<2^64/32^k+1
 |0=>by
  change bits h<_;unfold bits;have:=Int.emod_lt_of_pos h (show(0:Int)<2^64 by symm)
  lia
 |k+1=>by
  have a:=jN mask h k;change(C1 mask h k).2/32<_;have e:∀N,N/32^(k+1)=N/32^k/32:=λN=>by rw[Nat.div_div_eq_div_mul];rfl
  rw[e]
  lia
theorem uF(mask:Nat)(h:Int):∀k,(C1 mask h (13+k)).2=0
 |0=>by have:=jN mask h 13;simp at this;show this
 |k+1=>by have:=uF mask h k;change(C1 mask h<|13+k).2/32=0;rw[this]
def lcg(m:Nat)(i:Nat):Nat:=(i*5+1)%m
def iter(m:Nat):Nat->Nat->Nat
 |0,i=>i
 |n+1,i=>lcg m (iter m n i)
theorem oG(mask:Nat)(h:Int):∀k,(C1 mask h (13+k)).1=iter (mask+1) k (C1 mask h 13).1
 |0=>rfl
 |k+1=>by have a:=oG mask h k;change((C1 mask h<|13+k).1*5+1+(C1 mask h<|13+k).2/32)%(mask+1)=_;rw[uF,a];rfl
theorem iX(m:Nat):∀a b i,iter m (a+b) i=iter m a (iter m b i)
 |0,b,i=>by rw[aDI];rfl
 |a+1,b,i=>by rw[show a+1+b=(a+b)+1 by lia];change lcg m _=lcg m _;rw[iX m a b i]
def mT(m:Nat):Prop:=iter m m 0=0/\∀j<m,∃n<m,iter m n 0=j
def sN(F:mT m)(f:i<m)(g:j<m):∃n<m,iter m n i=j:=by
 let{a,k,d}:=F.2 i f;let{b,l,e}:=F.2 j g;by_cases h:a<=b
 .show{b-a,by lia,by rw[<-d,<-iX,show b-a+a=b by lia,e]}
 show{b+(m-a),by lia,?_};rw[<-d,<-iX,show b+(m-a)+a=b+m by lia,iX,F.1,e]
instance(m:Nat):Decidable (mT m):=inferInstanceAs (Decidable<|_/\_)
def rj:mT 8:=by decide+kernel
def ZW:mT 32:=by decide+kernel
def VJ:mT 128:=by decide+kernel
theorem FT(mask:Nat)(h:Int):∀k,(C1 mask h k).1<mask+1
 |0=>aDJ _ (by lia)
 |k+1=>aDJ _ (by lia)
def CY{mask:Nat}(F:mT (mask+1))(h:Int){j:Nat}(a:j<=mask):∃n,n<=10*(mask+14)/\(n4 mask h n).j=j:=by
 let{k,b,e}:=sN F (FT mask h 13) (show j<mask+1 by lia);show{off mask h (13+k),?_,?_}
 .have:=LQ mask h (13+k);lia
 rw[NM,oG,e]
def vV{e β:Type}{l:List e}{m:List β}{p:Nat}{a:e×β}(h:a∈(l.take p).zip (m.take p)):a∈l.zip m:=by
 let{i,b}:=aBk.mp h;rw[aAW]at b;show aAi (i:=i) ?_;rw[aAW];have q:∀{d:Type}{l:List d}{c:d},(l.take p)[i]?=some c->l[i]?=some c:=λ{d l c} h=>by
  rw[List.getElem?_take]at h;split at h
  .show h
  cases h
 show{q b.1,q b.2}
def vN{b β:Type}{l:List b}{m:List β}{p:Nat}{a:b×β}(h:a∈(l.drop p).zip (m.drop p)):a∈l.zip m:=by let{i,d}:=aBk.mp h;rw[aAW,aDS,aDS]at d;show aAi (i:=p+i) ?_;rw[aAW];show d
theorem GB(mask:Nat)(h:Int):∀n,(n4 mask h n).j+(n4 mask h n).more<=mask
 |0=>by have:=aDJ (bits h) (show 0<mask+1 by lia);change bits h%(mask+1)+(runEnd mask (bits h%(mask+1))-bits h%(mask+1))<=mask;unfold runEnd;split<;>lia
 |n+1=>by
  have a:=GB mask h n;change(SK mask<|n4 mask h n).j+(SK mask<|n4 mask h n).more<=mask;unfold SK;split
  .dsimp only;lia
  dsimp only;have:(leap mask (n4 mask h n).i (n4 mask h n).perturb).1<mask+1:=aDJ _ (by lia);unfold runEnd;split<;>lia
def wA(mask:Nat)(h:Int)(n:Nat):(n4 mask h n).j<=mask:=by have:=GB mask h n;lia
theorem P7{a:Type}[DecidableEq a]:∀{l m:List a},l.Nodup->(∀x∈l,x∈m)->l.length<=m.length:=by
 intro k m h b;cases k with
 |nil=>show aAT _
 |cons x l=>
  have d:=b x (by simp);have f:=aAP.mp h;have:=P7 (l:=l) (m:=m.erase x) f.2 (λy g=>by
   have ne:y≠x:=λe=>by subst e;show f.1 g
   show(aFF ne).mpr (b y<|aAe _ g))
  rw[aEZ d]at this;have:0<m.length:=aEa d;erw[aAt]
  lia
def IF{t:fh}(h:t.place.size<=t.mask):∃j≤t.mask,j∉t.place.toList:=by
 by_cases z:∃j≤t.mask,j∉t.place.toList
 .show z
 exfalso;have:=P7 (l:=aBm (t.mask+1)) (m:=t.place.toList) List.nodup_range (λj a=>by
  by_cases q:j∈t.place.toList
  .show q
  show kb {j,by have:=aCu.mp a;lia,q} z)
 simp at this
 lia
theorem least{P:Nat->Prop}[DecidablePred P]:∀n,P n->∃m≤n,P m/\∀k<m,¬P k:=by
 intro d h;cases d with
 |zero=>show{0,aAj _,h,λk b=>by lia}
 |succ n=>
  by_cases z:∃k≤n,P k
  .let{k,b,a}:=z;let{m,g,e,f}:=least k a;show{m,by lia,e,f}
  show{n+1,aAj _,h,λk b a=>z {k,by lia,a}}
termination_by n=>n
def U6(t:fh)(h:Int)(n0:Nat):Prop:=n0<=10*(t.mask+14)/\(n4 t.mask h n0).j∉t.place.toList/\∀m<n0,(n4 t.mask h m).j∈t.place.toList
def ER{t:fh}(F:mT (t.mask+1))(a:t.place.size<=t.mask)(h:Int):∃n0,U6 t h n0:=by let{j,b,d}:=IF a;let{n,o,e}:=CY F h b;let{m,p,f,g}:=least (P:=λn=>(n4 t.mask h n).j∉t.place.toList) n (by rw[e];show d);show{m,by lia,f,λk l=>by have:=g k l;simpa using this}
theorem BC(T:Tab t)(hashAt:Nat->Int)(h:Int)(l:U6 t h n0):∀(d n:Nat),n<=n0->n0-n<d->
  ∃f,n<=f/\f<=n0/\(∀m,n<=m->m<f->∃i,t.place[i]?=some (n4 t.mask h m).j/\hashAt i≠h)/\
   ((f=n0/\probe.go t hashAt h d (n4 t.mask h n)=some (.empty (n4 t.mask h n0).j none))\/
    (f<n0/\∃i,t.place[i]?=some (n4 t.mask h f).j/\hashAt i=h/\probe.go t hashAt h d (n4 t.mask h n)=some (.candidate (n4 t.mask h f).j i (n4 t.mask h (f+1)))))
 |0,n,_,o=>by lia
 |d+1,n,w,o=>by
  unfold probe.go;rcases CQ T (n4 t.mask h n).j with⟨e,p⟩|⟨i,e,g⟩
  .have:n=n0:=by
     by_cases q:n<n0
     .show kb (l.2.2 n q) p
     lia
   subst this;show{n,aAj _,aAj _,λm a b=>by lia,.inl {rfl,?_}};rw[e];dsimp only;rw[oJ]
  have x:n≠n0:=λq=>by subst q;show l.2.1 ?_;rw[<-aAB]at g;show aAi g
  rw[e];dsimp only;by_cases k:hashAt i=h
  . show{n,aAj _,by lia,λm a b=>by lia,.inr {by lia,i,g,k,?_}}
    rw[jk (by exists k),oO];rfl
  rw[jl (by exists k),oO]
  let{f,y,r,s,u}:=BC T hashAt h l d (n+1) (by lia) (by lia);show{f,by lia,r,λm z v=>?_,u};by_cases q:m=n
  .subst q;show{i,g,k}
  show s m (by lia) v
def NL(T:Tab t)(hashAt:Nat->Int)(h:Int)(b:U6 t h n0)(n:Nat)(d:n<=n0):
  ∃a,n<=a/\a<=n0/\(∀m,n<=m->m<a->∃i,t.place[i]?=some (n4 t.mask h m).j/\hashAt i≠h)/\
   ((a=n0/\t.probe hashAt h (n4 t.mask h n)=some (.empty (n4 t.mask h n0).j none))\/
    (a<n0/\∃i,t.place[i]?=some (n4 t.mask h a).j/\hashAt i=h/\t.probe hashAt h (n4 t.mask h n)=some (.candidate (n4 t.mask h a).j i (n4 t.mask h (a+1))))):=
 BC T hashAt h b _ n d (by have:=b.1;unfold turns;lia)
def Reach(mask:Nat)(a:Nat->Prop)(h:Int)(j:Nat):Prop:=∃n,(n4 mask h n).j=j/\∀m<n,a (n4 mask h m).j
def Reach.mono{mask:Nat}{o a:Nat->Prop}{h:Int}{j:Nat}(r:Reach mask o h j)(i:∀k,o k->a k):Reach mask a h j:=by let{n,e,q}:=r;show{n,e,λm b=>i _ (q m b)}
def Reach.before(a:U6 t h n0)(b:j∈t.place.toList)(r:Reach t.mask (λk=>k∈t.place.toList) h j):∃n<n0,(n4 t.mask h n).j=j:=by
 let{n,e,q}:=r;show{n,?_,e};by_cases z:n<n0
 .show z
 exfalso;by_cases y:n=n0
 .subst y;show a.2.1 (by rw[e];show b)
 show a.2.1 (q n0 (by lia))
def fX{a:Type}(Y:Array a)(p:Nat)(x:a):(insertAt Y p x).toList=Y.toList.take p++x::Y.toList.drop p:=by
 unfold insertAt;simp[Array.toList_extract,List.extract_eq_drop_take];have:Y.size-p=(Y.toList.drop p).length:=by simp
 rw[this,List.take_length]
def zZ(t:fh)(es:List (Int×av)):List (Nat×Int×av):=t.place.toList.zip es
structure SOk(t:SetTable)(es:List (Int×Value)):Prop where
 tab:Tab t
 full:mT (t.mask+1)
 len:t.place.size=es.length
 room:t.place.size<=t.mask
 reach:∀e∈zZ t es,Reach t.mask (λk=>k∈t.place.toList) e.2.1 e.1
def TJ{t:fh}{es:List (Int×av)}(b:t.place.size=es.length){i:Nat}{e:Int×av}(h:es[i]?=some e):∃j,t.place[i]?=some j/\(j,e)∈zZ t es:=by
 have d:i<es.length:=(aAn.mp h).1;have a:i<t.place.toList.length:=by simpa[b]using d
 show{t.place.toList[i],by rw[<-aAB,aAd a],?_};unfold zZ;show aAi (i:=i) ?_;rw[aAW];show{aAd a,h}
def gj{t:fh}{es:List (Int×av)}(S:SOk t es){h:Int}{x:av}{n0:Nat}(A:U6 t h n0)(E:t.place.size+1<=t.mask):
  SOk (t.put (n4 t.mask h n0).j).1 (es.take (t.put (n4 t.mask h n0).j).2++(h,x)::es.drop (t.put (n4 t.mask h n0).j).2):=by
 have v:=wA t.mask h n0;let{Y,H,I}:=bO S.tab.asc (n4 t.mask h n0).j;generalize B:(n4 t.mask h n0).j=J at*
 have w:J∉t.place.toList:=by rw[<-B];show A.2.1
 have C:(t.put J).2=below t.place J:=rfl;have em:(t.put J).1.mask=t.mask:=rfl;have d:(t.put J).1.place=insertAt t.place (below t.place J) J:=rfl;have f:=fX t.place (below t.place J) J;have l:∀k,k∈(t.put J).1.place.toList↔k∈t.place.toList\/k=J:=λk=>by
  rw[d,f,aAV,aAg];constructor
  .rintro(q|q|q)
   .show .inl (aEq q)
   .show .inr q
   show .inl (aDz q)
  rintro(q|q)
  .rw[<-aFt (below t.place J) t.place.toList,aAV]at q;rcases q with q|q
   .show .inl q
   show .inr (.inr q)
  show .inr (.inl q)
 have o:(t.put J).1.place.size=t.place.size+1:=by
  rw[<-aBn,d,f,aAM,aBh,aAt,aCZ,aBn]
  lia
 show{{?_,λj L=>?_,?_},S.full,?_,by rw[o];show E,λe u=>?_}
 .
  have p:t.place.toList.Pairwise (· <·):=by rw[aCa];intro i j g v N;exists S.tab.asc i j (by exists g) (by exists v) N
  have r:∀a∈t.place.toList.take (below t.place J),a<J:=λa n=>by
   let{i,g,e}:=aBa n;rw[aBh]at g;rw[List.getElem_take]at e;have:=H i (by simp at g;lia) (by lia);simp at e
   lia
  have s:∀a∈t.place.toList.drop (below t.place J),J<a:=λa n=>by
   let{i,g,e}:=aBa n;rw[aCZ]at g;rw[List.getElem_drop]at e;have h1:=I (below t.place J+i) (by simp at g;lia) (by lia);simp at e;have h2:J≠a:=λq=>w (by rw[q];show aDz n)
   lia
  have O:(t.put J).1.place.toList.Pairwise (· <·):=by
   rw[d,f,List.pairwise_append];show{p.sublist (List.take_sublist _ _),aAv.mpr {s,p.sublist (List.drop_sublist _ _)},λa n b Q=>?_};rcases aAg.mp Q with q|q
   .subst q;show r a n
   show aEL (r a n) (s b q)
  intro i k g y z;have:=aCa.mp O i k (by exists g) (by exists y) z;exists this
 .rcases(l j).mp L with q|q
  .show S.tab.le j q
  subst q;show v
 .change(if has t.dummies J then _ else t.dummies)=#[];rw[S.tab.nod,jl (by unfold has;simp)]
 .rw[o,C,aAM,aBh,aAt,aCZ];have:=S.len
  lia
 have T:e∈zZ t es\/e=(J,h,x):=by
  unfold zZ at u;rw[d,f,C]at u;rw[List.zip_append (by rw[aBh,aBh,aBn,S.len])]at u;rcases aAV.mp u with q|q
  .left;unfold zZ;show vV q
  rw[aDg]at q;rcases aAg.mp q with q|q
  .show .inr q
  left;unfold zZ;show vN q
 rcases T with q|q
 .show(S.reach e q).mono λk y=>(l k).mpr (.inl y)
 subst q;show{n0,B,λm U=>(l _).mpr (.inl (A.2.2 m U))}
def R3(owner:Array (Option Nat))(j:Nat):Prop:=(owner.getD j<|some 0).isNone=false
def FN{mask k m:Nat}{h:Int}(a:off mask h k<=m)(b:m-off mask h k<=len mask (C1 mask h k).1):(n4 mask h m).j=(C1 mask h k).1+(m-off mask h k):=by have:=aL mask h k _ b;rw[Nat.add_sub_of_le a]at this;rw[this]
theorem uI{mask:Nat}(h:Int)(owner:Array (Option Nat)):∀(fuel k:Nat),(∃kk,k<=kk/\kk<k+fuel/\¬R3 owner (C1 mask h kk).1)->
  ∃n,off mask h k<=n/\layClean.free mask owner fuel (C1 mask h k).1 (C1 mask h k).2=some (n4 mask h n).j/\¬R3 owner (n4 mask h n).j/\∀m,off mask h k<=m->m<n->R3 owner (n4 mask h m).j
 |0,k,⟨kk,f,g,_⟩=>kb f (Nat.not_le_of_lt g)
 |fuel+1,k,⟨kk,f,g,l⟩=>by
  have s:runEnd mask (C1 mask h k).1+1-(C1 mask h k).1=len mask (C1 mask h k).1+1:=by unfold len runEnd;split<;>lia
  unfold layClean.free;rw[s];cases e:(aBm<|len mask (C1 mask h k).1+1).find? λr=>(owner.getD ((C1 mask h k).1+r)<|some 0).isNone with
  |some r=>
   have q:=List.find?_some e;have d:=aBi (aCu.mp<|List.mem_of_find?_eq_some e);have o:(n4 mask h<|off mask h k+r).j=(C1 mask h k).1+r:=by rw[aL mask h k r d]
   show{off mask h k+r,aDF _ _,by rw[o],by rw[o];unfold R3;rw[q];simp,λm a b=>?_};have b:=aEU a b;rw[FN a (aCd<|aAm b d)];unfold R3;rw[List.find?_range_eq_some]at e;have:=e.2.2 (m-off mask h k) b;exists this
  |none=>
   have all:∀r<len mask (C1 mask h k).1+1,R3 owner ((C1 mask h k).1+r):=λr d=>by have:=List.find?_eq_none.mp e r (aCu.mpr d);unfold R3;show Bool.not_eq_true _▸this
   have t:k≠kk:=λq=>by subst q;show l (all 0<|aFu _)
   let{n,u,v,w,x}:=uI h owner fuel (k+1) {kk,aCk f t,(Nat.succ_add_eq_add_succ k fuel).symm▸g,l};show{n,aAk (aDF _<|len mask (C1 mask h k).1+1) u,v,w,λm p y=>?_};by_cases q:off mask h (k+1)<=m
   .show x m q y
   have q:m<off mask h k+(len mask (C1 mask h k).1+1):=Nat.lt_of_not_le q;have q:=aEU p q;rw[FN p (aBi q)];show all _ q
def nV{mask:Nat}(F:mT (mask+1))(h:Int)(owner:Array (Option Nat)){j:Nat}(l:j<=mask)(a:¬R3 owner j):
  ∃n,layClean.free mask owner (turns mask) (aDT h%(mask+1)) (aDT h)=some (n4 mask h n).j/\¬R3 owner (n4 mask h n).j/\∀m<n,R3 owner (n4 mask h m).j:=by
 let{k,o,e}:=sN F (FT mask h 13) (show j<mask+1 by lia);let{n,p,b,d,f}:=uI h owner (turns mask) 0 {13+k,aAT _,by unfold turns;lia,by rw[oG,e];show a};show{n,b,d,λm g=>f m (aAT _) g}
structure Laid(mask:Nat)(hs:List Int)(owner:Array (Option Nat))(k:Nat):Prop where
 size:owner.size=mask+1
 lt:∀(j i:Nat),owner[j]?=some (some i)->i<k
 inj:∀(j j' i:Nat),owner[j]?=some (some i)->owner[j']?=some (some i)->j=j'
 sur:∀i<k,∃j:Nat,owner[j]?=some (some i)
 reach:∀(j i:Nat) (h:Int),owner[j]?=some (some i)->hs[i]?=some h->Reach mask (λl=>∃i,owner[l]?=some (some i)) h j
def kR{owner:Array (Option Nat)}{mask j:Nat}(b:owner.size=mask+1)(d:j<=mask):R3 owner j↔∃i,owner[j]?=some (some i):=by
 unfold R3;have a:j<owner.size:=by lia
 have e:owner.getD j (some 0)=owner[j]:=by simp[aFa,a]
 rw[e,aAw a];cases owner[j]with
 |none=>simp
 |some i=>simp
def Laid.room{mask k:Nat}{r:List Int}{owner:Array (Option Nat)}(L:Laid mask r owner k)(t:k<=mask):∃j≤mask,¬R3 owner j:=by
 by_cases z:∃j≤mask,¬R3 owner j
 .show z
 exfalso;have all:∀j≤mask,∃i,owner[j]?=some (some i):=λj b=>by
  by_cases q:R3 owner j
  .show(kR L.size b).mp q
  show kb {j,b,q} z
 have d:∀n,n<=mask+1->∃l:List Nat,l.length=n/\l.Nodup/\(∀i∈l,i<k)/\∀i∈l,∃j<n,owner[j]?=some (some i):=λn=>by
  induction n with
  |zero=>showλ_=>{[],rfl,aDd,by simp,by simp}
  |succ n s=>
   intro u;let{l,o,f,g,p}:=s (by lia);let{i,h}:=all n (by lia);show{i::l,by simp[o],aAP.mpr {λq=>?_,f},λx a=>?_,λx a=>?_}
   .let{j,b,e}:=p i q;have:=L.inj j n i e h
    lia
   .rcases aAg.mp a with q|q
    .subst q;show L.lt _ _ h
    show g x q
   rcases aAg.mp a with q|q
   .subst q;show{n,by lia,h}
   let{j,b,e}:=p x q;show{j,by lia,e}
 let{l,o,f,g,_}:=d (mask+1) (aAj _);have:=P7 (m:=aBm k) f (λx a=>aCu.mpr (g x a));simp at this
 lia
def BM(mask:Nat)(a:List Int):Laid mask a (aEu (mask+1) none) 0:=by
 have no:∀(j i:Nat),(aEu (mask+1) (none:Option Nat))[j]?=some (some i)->False:=λj i h=>by rw[Array.getElem?_replicate]at h;split at h<;>cases h
 show{by simp,λj i h=>(no j i h).elim,λj b i h=>(no j i h).elim,λi d=>by lia,λj i _ h=>(no j i h).elim}
def Laid.step{mask k:Nat}{g:List Int}{owner:Array (Option Nat)}(L:Laid mask g owner k){h:Int}(t:g[k]?=some h){n:Nat}(u:¬R3 owner (n4 mask h n).j)(v:∀m<n,R3 owner (n4 mask h m).j):
  Laid mask g (owner.setIfInBounds (n4 mask h n).j (some k)) (k+1):=by
 have w:=wA mask h n;have o:(n4 mask h n).j<owner.size:=by rw[L.size];lia
 have get:∀(j i:Nat),(owner.setIfInBounds (n4 mask h n).j (some k))[j]?=some (some i)↔(j=(n4 mask h n).j/\i=k)\/(j≠(n4 mask h n).j/\owner[j]?=some (some i)):=λj i=>by
  rw[Array.getElem?_setIfInBounds];by_cases q:(n4 mask h n).j=j
  .rw[jk q,jk o];simp[q,eq_comm]
  rw[jl q];constructor
  .intro z;show .inr {λy=>q y.symm,z}
  rintro(⟨z,_⟩|⟨_,z⟩)
  .show kb z.symm q
  show z
 have x:∀i,owner[(n4 mask h n).j]?≠some (some i):=λi z=>u ((kR L.size w).mpr {i,z});have grow:∀l:Nat,(∃i:Nat,owner[l]?=some (some i))->∃i:Nat,(owner.setIfInBounds (n4 mask h n).j (some k))[l]?=some (some i):=λl A=>by
  let{i,z}:=A;by_cases q:l=(n4 mask h n).j
  .show{k,(get l k).mpr (.inl {q,rfl})}
  show{i,(get l i).mpr (.inr {q,z})}
 show{by simp[L.size],λj i z=>?_,λj p i z s=>?_,λi C=>?_,λj i r z e=>?_}
 .rcases(get j i).mp z with⟨_,q⟩|⟨_,q⟩
  .lia
  have:=L.lt j i q;lia
 .rcases(get j i).mp z with⟨d,a⟩|⟨d,a⟩
  .rcases(get p i).mp s with⟨f,b⟩|⟨f,b⟩
   .rw[d,f]
   subst a;have:=L.lt _ _ b;lia
  rcases(get p i).mp s with⟨f,b⟩|⟨f,b⟩
  .subst b;have:=L.lt _ _ a;lia
  show L.inj j p i a b
 .by_cases q:i=k
  .subst q;show{_,(get _ _).mpr (.inl {rfl,rfl})}
  let{j,z}:=L.sur i (by lia);show{j,(get j i).mpr (.inr {λy=>by subst y;show x i z,z})}
 rcases(get j i).mp z with⟨d,a⟩|⟨d,a⟩
 .subst d a;have:r=h:=aAq (e.symm.trans t);subst this;show{n,rfl,λm B=>grow _ ((kR L.size<|wA mask r m).mp (v m B))}
 show(L.reach j i r a e).mono grow
def zQ{mask:Nat}(F:mT (mask+1))(b:Array Int)(A:b.size<=mask):∃owner,layClean mask b=some owner/\Laid mask b.toList owner b.size:=by
 have g:∀(post a:List Int) (owner:Array (Option Nat)),b.toList=a++post->Laid mask b.toList owner a.length->
   ∃d,post.foldl (λB h=>do
    let(owner,k)<-B
    let j<-layClean.free mask owner (turns mask) (aDT h%(mask+1)) (aDT h)
    pure (owner.setIfInBounds j (some k),k+1)) (some (owner,a.length))=some (d,b.size)/\Laid mask b.toList d b.size:=λpost=>by
  induction post with
  |nil=>
   intro a owner e L;have:a.length=b.size:=by rw[<-aBn,e];simp
   show{owner,by rw[List.foldl_nil,this],by rw[<-this];show L}
  |cons h post l=>
   intro a owner e L;have f:a.length<b.size:=by rw[<-aBn,e];simp
   let{j,m,o}:=L.room (by lia);let{n,p,q,r}:=nV F h owner m o;have s:b.toList[a.length]?=some h:=by rw[e];simp
   have t:=L.step s q r;rw[aDn];have u:b.toList=(a++[h])++post:=by rw[e];simp
   let{d,v,w}:=l (a++[h]) _ u (by rw[aAM];show t);show{d,?_,w};rw[<-v];congr 1;simp[p]
 let{owner,x,y}:=g b.toList [] (aEu (mask+1) none) rfl (BM mask b.toList);show{owner,?_,y};unfold layClean;rw[<-Array.foldl_toList];have z:List.foldl (λB h=>do
    let(owner,k)<-B
    let j<-layClean.free mask owner (turns mask) (aDT h%(mask+1)) (aDT h)
    pure (owner.setIfInBounds j (some k),k+1)) (some (aEu (mask+1) none,0)) b.toList=some (owner,b.size):=x
 rw[z];rfl
def D2(mask:Nat)(owner:Array (Option Nat)):List (Nat×Nat):=(aBm<|mask+1).filterMap λj=>(owner.getD j none).map (j,·)
def Q4{mask:Nat}{owner:Array (Option Nat)}(g:owner.size=mask+1){j i:Nat}:(j,i)∈D2 mask owner↔owner[j]?=some (some i):=by
 unfold D2;rw[aBS];constructor
 .rintro⟨l,a,e⟩;have f:l<owner.size:=by rw[g];show aCu.mp a
  have b:owner.getD l none=owner[l]:=by simp[aFa,f]
  rw[b,aCE]at e;let{k,d,h}:=e;cases h;rw[aAw f,d]
 intro e;let{a,d}:=aBY.mp e;have b:owner.getD j none=owner[j]:=by simp[aFa,a]
 show{j,aCu.mpr (by lia),by rw[b,d];rfl}
def xT(mask:Nat)(owner:Array (Option Nat)):((D2 mask owner).map (·.1)).Pairwise (· <·):=by unfold D2;rw[aBv];have:(aBm<|mask+1).Pairwise (· <·):=List.pairwise_lt_range;show List.Pairwise.filterMap _ (R:=(· <·)) ?_ this;intro a g f b d h e;rw[aCE]at d e;let{_,_,rfl}:=d;let{_,_,rfl}:=e;show f
def PX{mask finger moves:Nat}{led plain:Bool}(F:mT (mask+1))(es:Array (Int×av))(B:es.size<=mask):
  ∃t' f,laid mask finger moves led plain (es.map (·.1))=some (t',f)/\(f.filterMap (es[·]?)).size=es.size/\(f.filterMap (es[·]?)).toList.Perm es.toList/\SOk t' (f.filterMap (es[·]?)).toList/\
   t'.mask=mask/\t'.dummies=#[]/\t'.led=led/\t'.plain=plain/\t'.moves=moves:=by
 let{d,J,L}:=zQ F (es.map (·.1)) (by exists B);have n:(es.map (·.1)).size=es.size:=by simp
 rw[n]at L;show{{mask,place:=((D2 mask d).map (·.1)).toArray,dummies:=#[],finger,led,moves,plain},((D2 mask d).map (·.2)).toArray,?_,?_}
 .unfold laid;rw[J];rfl
 have o:(D2 mask d).Nodup:=by have:=xT mask d;rw[aBv]at this;show aBX.mpr (this.imp λ{a b} h e=>by subst e;show aBg _ h)
 have p:((D2 mask d).map (·.2)).Nodup:=by rw[aBX,aBv];show List.Pairwise.imp_of_mem (R:=(· ≠·)) ?_ (aBX.mp o);rintro⟨j,i⟩ ⟨r,s⟩ N O Q e;dsimp only at e;subst e;have:=L.inj j r i ((Q4 L.size).mp N) ((Q4 L.size).mp O);subst this;show Q rfl
 have C:((D2 mask d).map (·.2)).Perm (aBm es.size):=by
  rw[aDw p List.nodup_range];intro i;rw[aCu,aAo];constructor
  .rintro⟨⟨j,s⟩,h,rfl⟩;show L.lt _ _ ((Q4 L.size).mp h)
  intro t;let{j,u}:=L.sur i t;show{(j,i),(Q4 L.size).mpr u,rfl}
 have E:(((D2 mask d).map (·.2)).toArray.filterMap (es[·]?)).toList=(D2 mask d).filterMap (λx=>es[x.2]?):=by rw[Array.toList_filterMap,aDU];rfl
 have T:((D2 mask d).filterMap (λx=>es[x.2]?)).Perm es.toList:=by
  have U:(D2 mask d).filterMap (λx=>es[x.2]?)=((D2 mask d).map (·.2)).filterMap (λi=>es[i]?):=by rw[aDU];rfl
  rw[U];show(C.filterMap _).trans (List.Perm.of_eq ?_);apply aDt;intro i;have:(aBm es.size).filterMap (λi=>es[i]?)=es.toList:=by
   have q:∀l:List (Int×av),(aBm l.length).filterMap (λi=>l[i]?)=l:=λl=>by
    induction l with
    |nil=>rfl
    |cons a l w=>
     rw[aAt,aFo,aCB];erw[aCV];rw[aDU];have:((λi=>(a::l)[i]?)∘Nat.succ)=λi=>l[i]?:=by funext i;simp
     rw[this,w]
   have:=q es.toList;exists this
  rw[this]
 have Y:∀l:List (Nat×Nat),(∀x∈l,x.2<es.size)->(l.map (·.1)).zip (l.filterMap<|λx=>es[x.2]?)=l.filterMap (λx=>es[x.2]?.map (x.1,·))/\(l.filterMap<|λx=>es[x.2]?).length=l.length:=λl=>by
  induction l with
  |nil=>intro _;show{rfl,rfl}
  |cons x l w=>intro h;let{i1,i2}:=w (λy hy=>h y (aAe _ hy));have z:=h x (by simp);have e:es[x.2]?=some es[x.2]:=aAw z;rw[aAz,aCB,e];dsimp only;rw[aCB,e];dsimp only[Option.map_some];rw[aDg,i1];show{rfl,by simp[i2]}
 let{z1,H}:=Y (D2 mask d) (λx z=>L.lt x.1 x.2 ((Q4 L.size).mp z));have g:(D2 mask d).length=es.size:=by have:=C.length_eq;exists this
 rw[E];show{by rw[<-aBn,E,H,g],T,{{?_,λj u=>?_,rfl},F,?_,?_,λe m=>?_},rfl,rfl,rfl,rfl,rfl}
 .intro i k t n A;have:=aCa.mp (xT mask d) i k (by exists t) (by exists n) A;exists this
 .have um:j∈(D2 mask d).map (·.1):=by exists u
  let{{r,i},h,rfl}:=aAo.mp um;have:=(aBY.mp<|(Q4 L.size).mp h).1;rw[L.size]at this;change r<=mask
  lia
 .rw[H];simp
 .erw[aAD,aAh,g];show B
 unfold zZ at m;dsimp only at m;rw[z1,aBS]at m;let{{j,i},h,I}:=m;rw[aCE]at I;let{{hh,v},e2,rfl}:=I;have ho:=(Q4 L.size).mp h;have:=L.reach j i hh ho (by rw[aAB,Array.getElem?_map,e2];rfl);show this.mono λl z9=>?_;let{s,fo}:=z9;change l∈(D2 mask d).map (·.1);show aAo.mpr {(l,s),(Q4 L.size).mpr fo,rfl}
end ST
namespace TS
open PySem PyProof.Rows
abbrev tupK:Bool->SortKind:=sortPriv%PySem.Builtin.KeyKind.tuples
structure TB(f:Bool)(aa:Array Keyed)(st:SortSt):Prop where
 perm:(arrOf st).Perm aa
 kind:kindOf st=tupK f
 failed:failedOf st=none
 pend:pendingOf st=#[]
def TB.size{f:Bool}{aa:Array Keyed}{st:SortSt}(h:TB f aa st):(arrOf st).size=aa.size:=h.perm.size_eq
def TB.setArr{f:Bool}{aa:Array Keyed}{st:SortSt}(h:TB f aa st){Y:Array Keyed}(a:Y.Perm (arrOf st)):TB f aa (PyProof.Rows.setArr st Y):=
 {a.trans h.perm,h.kind,h.failed,h.pend}
def WW(f:Bool)(A:cp)(s:a9)(κ:KeyKind):Prop:=
 ∀(d:bo) (w:cq) (E:B4) (x y:av) (a b:κ.α) {Q:BA},
  κ.keyOf x=some a->κ.keyOf y=some b->Q (κ.blt a b) s->bc (be d w) A (keyLt' (tupK f) x y) Q E s
def TB.atK{f:Bool}{κ:KeyKind}{aa:Array Keyed}{st:SortSt}(h:TB f aa st)(h0:KeysOf κ aa){i:Nat}(d:i<aa.size):∃x p a,(arrOf st)[i]?=some (x,p)/\κ.keyOf x=some a/\KK κ (arrOf st) i=a:=by
 have g:i<(arrOf st).size:=by rw[h.size];show d
 let{a,b}:=h0 _ ((aEE.mp h.perm).mem_iff.mp (show(arrOf st)[i]∈(arrOf st).toList by simp));have e:(arrOf st)[i]?=some (arrOf st)[i]:=getElem?_pos _ i g;show{(arrOf st)[i].1,(arrOf st)[i].2,a,by rw[e],b,by unfold KK;rw[e];simp[b]}
section
def ltT(f:Bool){prog:bo}{w:cq}{A:cp}{E:B4}{s:a9}{aa:Array Keyed}{κ:KeyKind}{st:SortSt}{i j:Nat}{Q:Option Bool->SortSt->Prop}(e:WW f A s κ)(d:TB f aa st)(h0:KeysOf κ aa)(g:i<aa.size)(k:j<aa.size)
  (h:Q (some (κ.blt (KK κ (arrOf st) i) (KK κ (arrOf st) j))) st):wpS (be prog w) A E s (ltAt' i j) Q st:=by
 let{x,p,a,l,m,n}:=d.atK h0 g;let{y,q,b,o,r,t}:=d.atK h0 k;rw[n,t]at h;change wpS _ _ _ _ (do let x<-elem' (arrOf st) i;let y<-elem' (arrOf st) j;lt' x y) Q st;rw[elem'_eq,elem'_eq,l,o];show aBu (aCb<|aBu<|aCb ?_);rw[lt'_eq];show aBu (wpS_get ?_);rw[d.kind];show aBu (wpS_lift<|aDV<|e prog w _ x y a b m r ⟨rfl,(aCb h)⟩)
def up1(S:SortedToK κ Y x)(h:1<=x->κ.kle (KK κ Y (x-1)) (KK κ Y x)):SortedToK κ Y (x+1):=λi j a b=>by
 rcases aDh (aBi b)with d|rfl
 .show S i j a d
 rcases aDh a with e|rfl
 .show KeyOrd.kle_trans (S i (j-1) (by lia) (by lia)) (h (by lia))
 show KeyOrd.kle_refl _
def xq(S:NonIncK κ Y x)(h:1<=x->κ.kle (KK κ Y x) (KK κ Y (x-1))):NonIncK κ Y (x+1):=λi j a b=>by
 rcases aDh (aBi b)with d|rfl
 .show S i j a d
 rcases aDh a with e|rfl
 .show KeyOrd.kle_trans (h (by lia)) (S i (j-1) (by lia) (by lia))
 show KeyOrd.kle_refl _
def RT(S:NonIncK κ Y x)(e:∀k,KK κ a k=KK κ Y k):NonIncK κ a x:=λi j b d=>by rw[e,e];show S i j b d
def BR(κ:KeyKind)(Y:Array Keyed)(x c:Nat):Prop:=c+1<=x/\∀k,x-(c+1)<=k->k<x->KK κ Y k=KK κ Y (x-1)
def BR.one(h:1<=x):BR κ Y x 0:={h,λk a b=>by rw[show k=x-1 by lia]}
variable{st:SortSt}
def LN(g:WW f A s κ)(h0:KeysOf κ aa)(o:m<=aa.size)(B:TB f aa st)(p:1<=a)(h:a<=m)(S:SortedToK κ (arrOf st) a){Q:AscSt->SortSt->Prop}(q:∀n,a<=n->n<=m->SortedToK κ (arrOf st) n->(n<m->κ.klt (KK κ (arrOf st) n) (KK κ (arrOf st) (n-1)))->Q (none,n) st):wpS (be prog w) A E s (ascLoop a m) Q st:=by
 show aEh (I:=λn r t=>t=st/\r=(none,n)/\SortedToK κ (arrOf st) n) (λn r t k u l=>?_) (λr t ⟨d,e,b⟩=>?_) {rfl,rfl,S}
 .let{d,e,b}:=l;subst d e;show aBu (ltT f g B h0 (by lia) (by lia) ?_);cases z:κ.blt (KK κ (arrOf t) n) (KK κ (arrOf t)<|n-1)with
  |true=>show aCb (q n k (by lia) b λ_=>z)
  |false=>show aCb {rfl,rfl,up1 b λ_=>z}
 nofun
abbrev Told(f:Bool)(κ:KeyKind)(aa:Array Keyed)(m:Nat)(Q:Option Nat->SortSt->Prop):Prop:=∀n t,TB f aa t->1<=n->n<=m->SortedToK κ (arrOf t) n->Q (some n) t
def AX(h:WW f A s κ)(h0:KeysOf κ aa)(a:m<=aa.size)(B:TB f aa st)(b:1<=n)(d:n<=m)(S:NonIncK κ (arrOf st) n){Q:Option Nat->SortSt->Prop}(q:Told f κ aa m Q):
  wpS (be prog w) A E s (tail3 n m) Q st:=by
 have g:=B.setArr (aFS (arrOf st) 0 n<|(n-0)/2);have l:n<=(arrOf st).size:=by rw[B.size];show aAk d a
 show aBu (aFT<|aBu<|LN h h0 a g b d (λi j v o=>?_) λk p r t _=>aCb (q k _ g (aAk b p) r t));have e:∀k,k<n->KK κ (arrOf<|setArr st<|mirror (arrOf st) 0 n<|(n-0)/2) k=KK κ (arrOf st) (0+n-1-k):=λk u=>(KK_mirror l k).trans (jk {aAT _,u});rw[e i (by lia),e j o];show S _ _ (by omega) (by omega)
def MN(g:WW f A s κ)(h0:KeysOf κ aa)(H:m<=aa.size)(B:TB f aa st)(h:1<=n)(l:n<=m)(S:NonIncK κ (arrOf st) n){Q:DescSt->SortSt->Prop}(q:∀k c t,TB f aa t->1<=k->k<=m->NonIncK κ (arrOf t) k->BR κ (arrOf t) k c->Q (none,k,c) t):wpS (be prog w) A E s (descLoop n m) Q st:=by
 show aEh (I:=λk r t=>∃c,r=(none,k,c)/\TB f aa t/\NonIncK κ (arrOf t) k/\BR κ (arrOf t) k c) (λk r t J L u=>?_) (λr t ⟨c,e,a,d,b⟩=>?_) {0,rfl,B,S,BR.one h}
 .let{c,e,a,d,b}:=u;subst e;have v:k<=(arrOf t).size:=by rw[a.size];lia
  dsimp only;show aBu (ltT f g a h0 (by lia) (by lia) ?_);cases z:κ.blt (KK κ (arrOf t) k) (KK κ (arrOf t)<|k-1)with
  |true=>
   have o:NonIncK κ (arrOf t) (k+1):=xq d λ_=>KeyOrd.kle_of_klt z;change wpS _ _ _ _ (if c>0 then _ else _) _ t;by_cases p:c>0
   .rw[jk p];show aBu (aFT (aCb {0,rfl,a.setArr (aFS _ _ _ _),RT o (aFv v b.2),BR.one (by lia)}))
   rw[jl p];show aCb {0,rfl,a,o,BR.one (by lia)}
  |false=>
   dsimp only;erw[aAF,if_false];show aBu (ltT f g a h0 (by lia) (by lia) ?_);cases x:κ.blt (KK κ (arrOf t)<|k-1) (KK κ (arrOf t) k)with
   |true=>show aCb (q k c t a (by lia) (by lia) d b)
   |false=>
    have e:KK κ (arrOf t) k=KK κ (arrOf t) (k-1):=KeyOrd.kle_antisymm x z;show aCb {c+1,rfl,a,xq d λ_=>by rw[e];show KeyOrd.kle_refl _,by have:=b.1;lia,λi N y=>?_};change KK κ (arrOf t) i=KK κ (arrOf t) k;rcases aDh (aBi y)with C|rfl
    .rw[e];show b.2 i (by lia) C
    rfl
 subst e;have e:max n m=m:=Nat.max_eq_right l;rw[e]at d b⊢;show q m c t a (aAk h l) (aAj _) d b
def zV(a:WW f A s κ)(h0:KeysOf κ aa)(b:m<=aa.size)(B:TB f aa st)(o:n+1<=m)(S:NonIncK κ (arrOf st) (n+1)){Q:Option Nat->SortSt->Prop}(q:Told f κ aa m Q):
  wpS (be prog w) A E s (descPart n m) Q st:=by
 show aBu (wpS_lift<|aDu ⟨rfl,aBu (MN a h0 b B (aFu n) o S λk c t d e g h p=>?_)⟩);have r:k<=(arrOf t).size:=by rw[d.size];lia
 by_cases l:c>0
 .rw[jk l];show aBu (aFT<|AX a h0 b (d.setArr<|aFS _ _ _ _) e g (RT h<|aFv r p.2) q)
 rw[jl l];show AX a h0 b d e g h q
def KN(a:WW f A s κ)(h0:KeysOf κ aa)(b:m<=aa.size)(l:1<=m)(B:TB f aa st){Q:Option Nat->SortSt->Prop}(q:Told f κ aa m Q):wpS (be prog w) A E s (countRun' 0 m) Q st:=by
 rw[countRun0_eq];show aBu (LN a h0 b B (aAj 1) l (up1 (λ_ _ _ z=>kb z (aFw _)) λz=>kb z (by symm)) λn d e S o=>?_);by_cases g:n=m
 .rw[jk (beq_iff_eq.mpr g)];show aCb (q n st B d e S)
 rw[jl λz=>g (beq_iff_eq.mp z)];have lt:=o (by lia);by_cases h:n>1
 .rw[jk h];show aBu (ltT f a B h0 (by lia) (by lia) ?_);cases z:κ.blt (KK κ (arrOf st) 0) (KK κ (arrOf st)<|n-1)with
  |true=>show aCb (q n st B d e S)
  |false=>
   have p:n<=(arrOf st).size:=by rw[B.size];lia
   have same:∀k,0<=k->k<n->KK κ (arrOf st) k=KK κ (arrOf st) (n-1):=λk _ r=>KeyOrd.kle_antisymm (S k (n-1) (by lia) (by lia)) (KeyOrd.kle_trans z<|S 0 k (aAT _) r);have t:NonIncK κ (arrOf st) n:=λi j v u=>by rw[same i (aAT _) (by lia),same j (aAT _) u];show KeyOrd.kle_refl _
   show aBu (aFT (zV a h0 b (B.setArr<|aFS _ _ _ _) (by lia) (RT (xq t λ_=>KeyOrd.kle_of_klt lt)<|aFv p same) q))
 rw[jl h];obtain rfl:n=1:=by lia
 show zV a h0 b B (by lia) (xq (xq (λ_ _ _ z=>kb z (aFw _)) λz=>kb z (by symm)) λ_=>KeyOrd.kle_of_klt lt) q
def QO{l j x:Nat}(h:l<j)(a:j<x+1):j-1<x:=by lia
def kA(hO:WW f A s κ)(h0:KeysOf κ aa)(hn:n<=aa.size)(hk:k<=n)(B:TB f aa st)(S:SortedToK κ (arrOf st) k){Q:Bool->SortSt->Prop}(q:∀t,TB f aa t->SortedToK κ (arrOf t) n->Q true t):
  wpS (be prog w) A E s (binarySort' 0 n k) Q st:=by
 rw[binarySort'_eq];erw[aDI];have S0:SortedToK κ (arrOf st) (min (max k 1) n):=λi j h p=>by
  rcases Nat.eq_or_lt_of_le h with rfl|ai
  .show KeyOrd.kle_refl _
  show S i j h (by lia)
 show aBu (wpS_mono (Q:=λr t=>r=(none,())/\TB f aa t/\SortedToK κ (arrOf t) n) (aEh (I:=λx r t=>r=(none,())/\TB f aa t/\SortedToK κ (arrOf t) (min x n)) (λx r t l1 l2 z=>?step) (λr t z=>{z.1,z.2.1,?fin}) {rfl,B,S0}) λr t z=>?post)
 case step=>
  let{e,J,m}:=z;subst e;rw[aFx (aCd l2)]at m;have hx:x<aa.size:=by lia
  let L (l:Nat):Prop:=∀i,i<l->κ.kle (KK κ (arrOf t) i) (KK κ (arrOf t) x)
  let Top (r:Nat):Prop:=∀i,r<=i->i<x->κ.klt (KK κ (arrOf t) x) (KK κ (arrOf t) i)
  show aBu (wpS_mono (Q:=λd u=>u=t/\∃l r,d=(none,l,r)/\l<=x/\L l/\Top l) (aEh (I:=λy d u=>u=t/\∃l r,d=(none,l,r)/\l<=r/\r<=x/\r-l<=x-y/\L l/\Top r) (λy d u _ y2 z=>?istep) (λd u z=>?ifin)
   {rfl,0,x,rfl,aAT _,aAj _,aAj _,λ_ z=>kb z (aFw _),λi a b=>kb (aBT a b) (aBg _)}) λd u z=>?ipost)
  case istep=>
   let{e,l,r,N,lr,O,C,lo,H}:=z;subst e N;change wpS _ _ _ _ (if l>=r then _ else _) _ u;by_cases g:l>=r
   .rw[jk g];obtain rfl:l=r:=aFs lr g;show aCb {rfl,l,l,rfl,O,lo,H}
   rw[jl g];dsimp only;have g:=Nat.lt_of_not_le g;let{m1,m2}:=ST.zF g;have mx:=aAm m2 O;show aBu (ltT f hO J h0 hx (aEL mx hx) ?_);cases z:κ.blt (KK κ (arrOf u) x) (KK κ (arrOf u)<|(l+r)/2)with
   |true=>show aCb {rfl,l,(l+r)/2,rfl,m1,aCd mx,aDA (aAm (Nat.sub_lt_sub_right m1 m2) C),lo,λi a b=>KeyOrd.klt_of_klt_of_kle z (m _ i a b)}
   |false=>show aCb {rfl,(l+r)/2+1,r,rfl,m2,O,aDA (aAm (Nat.sub_lt_sub_left g<|Nat.lt_succ_of_le m1) C),λi a=>KeyOrd.kle_trans (m i ((l+r)/2) (aBi a) mx) z,H}
  case ifin=>
   let{e,l,r,N,lr,O,C,lo,H}:=z;subst e N;obtain rfl:l=r:=by lia
   show{rfl,l,l,rfl,O,lo,H}
  case ipost=>
   let{e,l,r,N,lx,lo,H}:=z;subst e N;have hz:x<(arrOf u).size:=by rw[J.size];show hx
   change wpS _ _ _ _ (do moveDown' x l;pure (aCe (none,()))) _ u;rw[moveDown'_eq];show aBu (wpS_modify<|aCb ⟨rfl,J.setArr (bubble_perm _ _ _),λi j h p=>?_⟩);have e:∀k,KK κ (arrOf<|setArr u<|bubble (arrOf u) x<|x-l) k=if k=l then KK κ (arrOf u) x else if l<k/\k<=x then KK κ (arrOf u) (k-1)else KK κ (arrOf u) k:=λk=>by have:=KK_bubble (κ:=κ) hz (Nat.sub_le x l) k;rw[show x-(x-l)=l by lia]at this;show this
   have p:j<x+1:=by lia
   rw[e,e];by_cases T:i=l
   .rw[jk T];by_cases v:j=l
    .rw[jk v];show KeyOrd.kle_refl _
    have o:=aCk (T▸h) (aCp v);rw[jl v,jk {o,aBi p}];show KeyOrd.kle_of_klt (H _ (aDA o)<|QO o p)
   rw[jl T];by_cases v:j=l
   .rw[v]at h;rw[jk v,jl λz=>Nat.not_lt_of_le h z.1];show lo i (aCk h T)
   rw[jl v];by_cases Y:l<i/\i<=x
   .have o:=aAm Y.1 h;rw[jk Y,jk {o,aBi p}];show m _ _ (Nat.sub_le_sub_right h 1) (QO o p)
   rw[jl Y];have h2:=aBi p;by_cases U:l<j/\j<=x
   .have o:=aCk (aCF λz=>Y {z,aAk h h2}) T;rw[jk U];show m _ _ (aDA<|aEL o U.1) (QO U.1 p)
   have o:=aCF λz=>U {z,h2};rw[jl U];show m _ _ h (aAm (aCk o v) lx)
 case fin=>have m:=z.2.2;rw[show min (max (max k 1) n) n=n by lia]at m;show m
 case post=>let{e,J,m}:=z;subst e;show aCb (q t J m)
def mU(f:Bool)(h:WW f A s κ)(h0:KeysOf κ aa)(B:TB f aa st)(H:2<=aa.size)(d:aa.size<64){Q:Unit->SortSt->Prop}(q:∀t,(arrOf t).Perm aa->failedOf t=none->SortedToK κ (arrOf t) aa.size->Q () t):wpS (be prog w) A E s sortRuns' Q st:=by
 have o:minRun' aa.size aa.size 0=aa.size:=by
  generalize J:aa.size=N at*
  cases N with
  |zero=>lia
  |succ N=>rw[minRun'_succ,jk d]
 let S5 (t:SortSt):Prop:=(arrOf t).Perm aa/\failedOf t=none/\pendingOf t=#[(0,aa.size,0)]/\SortedToK κ (arrOf t) aa.size
 have done:∀t,TB f aa t->SortedToK κ (arrOf t) aa.size->S5 (setPending t<|(pendingOf t).push (0,aa.size,0)):=λt a p=>{a.perm,a.failed,(ka (·.push (0,aa.size,0)) a.pend),p};rw[sortRuns'_eq];show aBu (wpS_get ?_);dsimp only;erw[B.size,o];show aBu (wpS_mono (Q:=λr t=>r=(none,aa.size)/\S5 t) (aEh (I:=λx r t=>(x=0/\r=(none,0)/\TB f aa t)\/(0<x/\r=(none,aa.size)/\S5 t)) (λx r t _ L I=>?step) (λr t I=>?fin)<|.inl ⟨rfl,rfl,B⟩) λr t ⟨e,D⟩=>?post)
 case step=>
  rcases I with⟨rfl,rfl,a⟩|⟨O,rfl,D⟩
  .change wpS _ _ _ _ (if 0>=aa.size then _ else _) _ t;rw[jl (by lia)];erw[Nat.sub_zero,Nat.min_self,aDI];have fin:∀u,TB f aa u->(pendingOf u).back?=none:=λu b=>by rw[b.pend];rfl
   show aBu (KN h h0 (aAj _) (by lia) a λn u b T y k=>?_);change wpS _ _ _ _ (if n<aa.size then _ else _) _ u;by_cases l:n<aa.size
   .rw[jk l];show aBu (wpS_lift<|aDu ⟨rfl,aBu (kA h h0 (aAj _) y b k λv m C=>?_)⟩);erw[aDW,aAF,if_false];show aBu (wpS_get ?_);rw[fin v m];show aBu (wpS_modify<|aCb<|.inr ⟨aFu _,rfl,done v m C⟩)
   rw[jl l];obtain rfl:n=aa.size:=by lia
   show aBu (wpS_get ?_);rw[fin u b];show aBu (wpS_modify<|aCb<|.inr ⟨aFu _,rfl,done u b k⟩)
  change wpS _ _ _ _ (if aa.size>=aa.size then _ else _) _ t;rw[jk (aAj _)];show aCb {rfl,D}
 case fin=>
  rcases I with⟨z,_⟩|⟨_,e,D⟩
  .lia
  show{e,D}
 case post=>
  subst e;show aBu (wpS_mono (Q:=λr u=>u=t/\r=(none,())) (aEh (I:=λ_ r u=>u=t/\r=(none,())) (λ_ r u _ _ ⟨e,g⟩=>?istep) (λ_ _ z=>z) {rfl,rfl}) λr u ⟨e,g⟩=>?ipost)
  case istep=>subst e g;show aBu (wpS_get ?_);rw[jk (by rw[D.2.2.1];show aAj 1)];show aCb {rfl,rfl}
  case ipost=>subst e g;show aCb (q _ D.1 D.2.1 D.2.2.2)
end
section
def qw(a:bb)(s d:a9):Prop:=∀b o,b≠a->s.heap.get? b=some o->d.heap.get? b=some o
def zI{P:Fin->a9->Prop}(q:s.heap.get? a=some (seqObj "list" vs.toArray n))(h0:KeysOf κ (pairsOf vs))(y:∀k,qw a s k->WW f A k κ)(t:2<=vs.length->∀k,qw a s k->∀{Q:SortKind->a9->Prop},Q (tupK f) k->bc (be prog w) A (keyKind' vs.toArray) Q E k)(u:vs.length<64)(h:∀d:SortSt,(arrOf d).Perm (pairsOf vs)->SortedToK κ (arrOf d) (pairsOf vs).size->P (.done (.ret .none)) {s with heap:=sortedHeap s.heap a vs ((arrOf d).map (·.2))}):
  bc (be prog w) A (Builtin.«list.sort» {[.ref a],[]}) P E s:=by
 rw[list_sort_plain];have O:=aAf q;show aAa (aEi q rfl ?_);show aAa (listUpdate_at q rfl ?_);obtain⟨v,l⟩:∃v,(s.heap.update a<|aBL λ_=>#[]).get? a=some (seqObj "list" #[] v):={_,get?_update_seq q _};show aAa (seqEpoch_at l rfl<|aAa<|aFL<|aAa<|wpAny_newList<|aAJ ?_);have m:qw a s {s with heap:=((s.heap.update a<|aBL λ_=>#[]).push (seqObj "tuple" vs.toArray 0)).push (seqObj "list" #[] 0)}:=λb o z e=>aAc _ (aAc _<|(aAx _ _<|aCp z).trans e)
 have g:(((s.heap.update a<|aBL λ_=>#[]).push (seqObj "tuple" vs.toArray 0)).push (seqObj "list" #[] 0)).get? a=some (seqObj "list" #[] v):=aAc _ (aAc _ l);dsimp only;have B:vs.toArray.size=vs.length:=by simp
 have p:=h;by_cases r:vs.toArray.size<2
 .rw[jk r,jk r];show aAa (aAb ?_);show aAa (aAb ?_);show aAa (seqEpoch_at g rfl (aAa (listUpdate_at g rfl ?_ (hsz2:=by rw[Array.size_map];change(pairsOf vs).size<=_;rw[aEM,aFg];lia))));erw[bne_self_eq_false];show aAb (p (SortSt.mk' general' (vs.toArray.zip vs.toArray) #[] 7 none) (aGn _) λi j T C=>?_);have:i=j:=by rw[aEM]at C;lia
  subst this;show KeyOrd.kle_refl _
 rw[jl r,jl r];show aAa (t (by lia) _ m ?_);show aAa (aCx (mU f (κ:=κ) (y _ m) (aa:=pairsOf vs) (Q:=λ_ d=>(arrOf d).Perm (pairsOf vs)/\failedOf d=none/\SortedToK κ (arrOf d) (pairsOf vs).size)
  h0 {aGn _,rfl,rfl,rfl} (by rw[aEM];lia) (by rw[aEM];show u) λd H I J=>{H,I,J}) ?_ λ_ _ e=>e)
 rintro⟨⟨⟩,d⟩ U ⟨rfl,x,L,N⟩;show aAa (seqEpoch_at g rfl (aAa (listUpdate_at g rfl ?_ (hsz2:=by show aAk (aEN<|(Array.size_map ..).trans (x.size_eq.trans<|aEM _)) ?_;rw[aFg];lia))));rw[L];simp;show aAb (p d x N)
end
end TS
namespace SZ
open PySem
abbrev Zs(h:cy)(z TI TO:bb)(a b:av):Prop:=h.get? z=some {cls:=.type "zip",dict:=none,data:=.fields #[a,b,.bool false,.ref TI,.ref TO],slots:=#[]}
def AA(b:av):Prop:=b=.none\/∃a:Nat,b=et a
section
def alive{Q:Option Obj->a9->Prop}(h:Q (s.heap.get? c) s):bc (be prog w) A (loadIfAlive c) Q E s:=λa p _=>by
 unfold loadIfAlive
 nofun
def nV{Q:BA}(b:Zs s.heap z TI TO d e)(m:AA d)(g:Q true s)(h:∀h' f,Zs h' z TI TO d f->Heap.SameBut z s.heap h'->Q false {s with heap:=h'}):bc (be prog w) A (aDH (.ref z)) Q E s:=by
 show aAa (aCJ b rfl (x:=d) rfl ?_);rcases m with rfl|⟨a,rfl⟩
 .show aAb g
 change bc _ _ (loadIfAlive (aEv (a:Int))>>=_) _ _ _;show aAa (alive ?_);by_cases k:(s.heap.get?<|aEv (a:Int)).isNone=true
 .rw[jk k];show aAb g
 rw[jl k];show aAa (aCJ b rfl (x:=e) rfl ?_);by_cases l:(e !=aDK true)=true
 .rw[jk l];show aAa (aBU b (by simp) λh' n o=>aAb (h h' (.bool true) n o))
 rw[jl l];show aAb (h s.heap e b {rfl,λ_ _=>rfl})
def MH{Q:B4}(D:ZipApart z TI TO p q l1 l2)(O:Zs s.heap z TI TO f0 f1)(ho:AA f0)(uo:ik s.heap TI (.ref p) (.ref q))(uc:ik s.heap TO a b)(h1:s.heap.IsListIter p l1 k)(h2:s.heap.IsListIter q l2 k)(ma:s.heap.IsList l1 Y)(mi:s.heap.IsList l2 ys)(hx:Y[k]?=some x)(hy:ys[k]?=some y)(hQ:∀h' T U f1' a' b',Zs h' z TI TO U f1'->AA U->ik h' TO a' b'->h'.IsListIter p l1 (k+1)->h'.IsListIter q l2 (k+1)->s.heap.objs.size<=T->ik h' T x y->
   (∀c o,c≠z->c≠TO->c≠p->c≠q->s.heap.get? c=some o->h'.get? c=some o)->Q (.ref T) {s with heap:=h'}):
  bc (be prog w) A (Builtin.«zip.__next__» {[.ref z],[]}) (λfin s'=>∃v,fin=.done (.ret v)/\Q v s') E s:=by
 change bc _ _ (field (.ref z) 2>>=_) _ _ _;show aAa (aCJ O rfl (x:=.bool false) rfl ?_);change bc _ _ (field (.ref z) 3>>=_) _ _ _;show aAa (aCJ O rfl (x:=.ref TI) rfl<|aAa<|aBO uo rfl ?_);change bc _ _ (aDH (.ref z)>>=_) _ _ _;show aAa (nV O ho ?_ λr f1' xl d=>?_)
 .erw[if_true];show aAa (aDu (aAa (aCJ O rfl (x:=.ref TO) rfl (aAa (aBU O (by simp) λr xl d=>?_)))));replace xl:Zs r z TI TO .ellipsis f1:=xl;show aAa ?_;erw[List.zipIdx_cons,List.zipIdx_nil,aDo,aFM];show aAa (aAa<|wpAny_onRaise ?_);change bc _ _ (aCK (.ref p)>>=_) _ _ _;show aAa (aDe (h1.extBut d.extBut D.i1z) (ma.extBut d.extBut D.l1z) hx λjc C f=>aAb ?_);have t:ik jc TO a b:=f.extBut _ _ D.TOi1 (d.extBut _ _ D.TOz uc);show aAa (aBO t rfl<|aAa<|wpAny_updateSeq_pair t λhV g N=>?_);replace g:ik hV TO x b:=g;show aAa (aEc<|aAb<|aAa<|aAa<|wpAny_onRaise ?_);change bc _ _ (aCK (.ref q)>>=_) _ _ _;show aAa (aDe (((h2.extBut d.extBut D.i2z).extBut f.extBut D.i12.symm).extBut N.extBut D.TOi2.symm)
   (((mi.extBut d.extBut D.l2z).extBut f.extBut D.l2i1).extBut N.extBut D.l2TO) hy λaA H h=>aAb ?_)
  have u:ik aA TO x b:=h.extBut _ _ D.TOi2 g;show aAa (aBO u rfl<|aAa<|wpAny_updateSeq_pair u λm yg l=>?_);replace yg:ik m TO x y:=yg;show aAa (aEc<|aAb<|aAb<|aAa<|aBO yg rfl<|aAa<|aFL ?_);have I:m.objs.size=s.heap.objs.size:=by rw[l.1,h.1,N.1,f.1,d.1]
  have hz3:=l.extBut _ _ D.TOz.symm (h.extBut _ _ D.i2z.symm<|N.extBut _ _ D.TOz.symm<|f.extBut _ _ D.i1z.symm xl);have hk3:∀c o,c≠z->c≠TO->c≠p->c≠q->s.heap.get? c=some o->m.get? c=some o:=λc o n c2 c3 c4 e=>l.extBut _ _ c2 (h.extBut _ _ c4<|N.extBut _ _ c2<|f.extBut _ _ c3<|d.extBut _ _ n e)
  have h11:=((C.extBut N.extBut D.TOi1.symm).extBut h.extBut D.i12).extBut l.extBut D.TOi1.symm;have h21:=H.extBut l.extBut D.TOi2.symm;have B:z<m.objs.size:=aAf hz3;change bc _ _ (aDC (.ref z) (.ref m.objs.size)>>=_) _ _ _;show aAa ?_;unfold aDC;have hz5:Zs (m.push {cls:=.type "tuple",data:=.seq #[x,y]}) z TI TO .ellipsis f1:=aAc _ hz3;show aAa (aBU hz5 (by simp) λaC J hs8=>?_);replace J:Zs aC z TI TO (et m.objs.size) f1:=J;show aBU J (by simp) λaB L hs9=>?_;replace L:Zs aB z TI TO (et m.objs.size) (.bool false):=L;have up:∀c o,c≠z->m.get? c=some o->aB.get? c=some o:=λc o n e=>hs9.extBut _ _ n (hs8.extBut _ _ n<|aAc _ e);show aAb {_,rfl,(hQ aB m.objs.size _ _ x y L (.inr {_,rfl}) (up _ _ D.TOz yg) (h11.at λo e=>up _ o D.i1z e) (h21.at λo e=>up _ o D.i2z e) (aEN I.symm) (hs9.extBut _ _ (aCG B)<|hs8.extBut _ _ (aCG B)<|aAp _ rfl) λc o n c2 c3 c4 e=>up c o n (hk3 c o n c2 c3 c4 e))}
 erw[aAF,if_false];show aAa ?_;change bc _ _ (forIn (#[.ref p,.ref q]:Array av) _ _) _ _ _;rw[<-aCl];erw[aDo,aFM];show aAa (aAa<|aAJ ?_);change bc _ _ (aCK (.ref p)>>=_) _ _ _;show aAa (aDe (h1.extBut d.extBut D.i1z) (ma.extBut d.extBut D.l1z) hx λjc C f=>aAb (aAb<|aAa<|aAa<|aAJ ?_));change bc _ _ (aCK (.ref q)>>=_) _ _ _;show aAa (aDe ((h2.extBut d.extBut D.i2z).extBut f.extBut D.i12.symm) ((mi.extBut d.extBut D.l2z).extBut f.extBut D.l2i1) hy λaA H h=>aAb (aAb<|aAb ?_));have I:aA.objs.size=s.heap.objs.size:=by rw[h.1,f.1,d.1]
 have hz6:=h.extBut _ _ D.i2z.symm (f.extBut _ _ D.i1z.symm xl);change bc _ _ (newTuple [x,y]>>=_) _ _ _;show aAa (aFL<|aAb ⟨_,rfl,?_⟩);show hQ _ aA.objs.size _ _ a b (aAc _ hz6) ho (aAc _<|h.extBut _ _ D.TOi2<|f.extBut _ _ D.TOi1<|d.extBut _ _ D.TOz uc) ((C.extBut h.extBut D.i12).at λo e=>aAc _ e) (H.at λo e=>aAc _ e) (aEN I.symm) (aAp _ rfl)
  λc o n c2 c3 c4 e=>aAc _ (h.extBut _ _ c4<|f.extBut _ _ c3<|d.extBut _ _ n e)
def VO{Q:Fin->a9->Prop}(B:A.handled=none)(D:ZipApart z TI TO r t C H)(h:Zs s.heap z TI TO T U)(ho:AA T)(uo:ik s.heap TI (.ref r) (.ref t))(uc:ik s.heap TO a b)
  (I:s.heap.IsListIter r C k) (h2:s.heap.IsListIter t H k) (J:s.heap.IsList C Y) (mi:s.heap.IsList H ys) (L:Y[k]?=none)
  (hE:∀h' e,(∀c o,c≠z->c≠TO->c≠r->c≠t->s.heap.get? c=some o->h'.get? c=some o)->(∃o,h'.get? e=some o/\o.cls=.type "StopIteration")->E (.ref e) {s with heap:=h'}):
  bc (be prog w) A (Builtin.«zip.__next__» {[.ref z],[]}) Q E s:=by
 change bc _ _ (field (.ref z) 2>>=_) _ _ _;show aAa (aCJ h rfl (x:=.bool false) rfl ?_);change bc _ _ (field (.ref z) 3>>=_) _ _ _;show aAa (aCJ h rfl (x:=.ref TI) rfl<|aAa<|aBO uo rfl<|aAa<|nV h ho ?_ λd f1' n f=>?_)
 .erw[if_true];show aAa (aDu (aAa (aCJ h rfl (x:=.ref TO) rfl (aAa (aBU h (by simp) λd n f=>?_)))));replace n:Zs d z TI TO .ellipsis U:=n;show aAa (aAa<|aAa<|wpAny_onRaise ?_);show aAa (wpAny_nextOf_list_end B (I.extBut f.extBut D.i1z) (J.extBut f.extBut D.l1z) L λN e p u=>?_);let{oe,g,l}:=u;have m:=p _ _ D.i1z.symm n;have v:e≠z:=λx=>by subst x;rw[m]at g;cases g;simp at l
  show aBU m (by simp) λhV _ O=>hE hV e (λc o q _ y _ x=>O.extBut _ _ q (p _ _ y<|f.extBut _ _ q x)) {oe,O.extBut _ _ v g,l}
 erw[aAF,if_false];show aAa ?_;rw[<-aCl];erw[aDo,aFM];show aAa (aAa<|aAJ<|aAa<|wpAny_nextOf_list_end B (I.extBut f.extBut D.i1z) (J.extBut f.extBut D.l1z) L λN e p u=>hE N e (λc o q _ y _ x=>p _ _ y (f.extBut _ _ q x)) u)
end
def OI(z TI TO d e f g:bb)(Y l:Array av)(i:Nat)(h:cy):Prop:=
 (∃k m,Zs h z TI TO k m/\AA k)/\ik h TI (.ref d) (.ref e)/\(∃a b,ik h TO a b)/\h.IsListIter d f i/\h.IsListIter e g i/\h.IsList f Y/\h.IsList g l
section
variable{s:a9}
def OI.type(h:OI z TI TO b d e f Y g i s.heap):s.TypeIs (.ref z) "zip":=by let{{k,l,a,_},_}:=h;show{_,a,rfl}
def OI.keeps(x:OI z TI TO d f g l Y m i h)(k:∀b o,b∈[z,TI,TO,d,f,g,l]->h.get? b=some o->h'.get? b=some o):OI z TI TO d f g l Y m i h':=by let{{n,p,q,r},t,{a,b,u},v,w,y,A}:=x;show{{n,p,k z _ (by simp) q,r},k TI _ (by simp) t,{a,b,k TO _ (by simp) u},v.at λo e=>k d o (by simp) e,w.at λo e=>k f o (by simp) e,y.at λo e=>k g o (by simp) e,A.at λo e=>k l o (by simp) e}
def NY{Q:Option av->a9->Prop}(D:ZipApart z TI TO h k n p)(hl:Y.size=d.size)(st:OI z TI TO h k n p Y d i s.heap)(C:i<Y.size)(H:∀h' T x y,Y[i]?=some x->d[i]?=some y->OI z TI TO h k n p Y d (i+1) h'->s.heap.objs.size<=T->ik h' T x y->(∀c o,c∉[z,TO,h,k]->s.heap.get? c=some o->h'.get? c=some o)->Q (some (.ref T)) {s with heap:=h'}):
  bc (be prog w) A (i4 (.ref z)) Q E s:=by
 have q:=st.type;let{{f0,f1,I,J},r,{a,b,L},N,O,t,u}:=st;have v:Y[i]?=some Y[i]:=aAw C;have B:d[i]?=some (d[i]'(by lia)):=aAw (by lia);unfold i4;show aAa (aDV (aBV (name:=aEj "__next__") q aDX
  (aBc aDX q F.entry_zip_next (MH D I J r L N O t u v B λh' T l m U b' e1 e2 e3 e4 e5 e6 e7 g=>aAb ?_)<|F.args_zip_next_1 _)))
 show H h' T _ _ v B {{l,m,e1,e2},g _ _ D.TIz D.TITO D.TIi1 D.TIi2 r,{U,b',e3},e4,e5,t.at λo e=>g _ o D.l1z D.l1TO D.l1i1 D.l1i2 e,u.at λo e=>g _ o D.l2z D.l2TO D.l2i1 D.l2i2 e} e6 e7 λc o f e=>?_;erw[aAg,aAY,or_false,not_or]at f;show g c o f.1 f.2.1 f.2.2.1 f.2.2.2 e
def PN{Q:Option av->a9->Prop}(k:A.handled=none)(D:ZipApart z TI TO f g l m)(st:OI z TI TO f g l m Y I Y.size s.heap)
  (n:∀h',(∀c o,c∉[z,TO,f,g]->s.heap.get? c=some o->h'.get? c=some o)->Q none {s with heap:=h'}):bc (be prog w) A (i4 (.ref z)) Q E s:=by
 have h:=st.type;let{{J,L,p,q},r,{a,b,t},u,v,x,y}:=st;unfold i4;show aAa (aDV (aBV (name:=aEj "__next__") h aDX
  (aBc aDX h F.entry_zip_next (VO (by exists k) D p q r t u v x y (aBz<|aAj _) λh' e B C=>?_)<|F.args_zip_next_1 _)))
 let{o,H,d}:=C;show aAa (aDa (T:= "StopIteration") (b:=true) {o,H,d} aFN ?_);show aAb (n _ λc o d e=>?_);erw[aAg,aAY,or_false,not_or]at d;show B c o d.1 d.2.1 d.2.2.1 d.2.2.2 e
def Pairs(h0:cy)(Y a B:Array av)(i:Nat)(h:cy)(off:List bb):Prop:=B.size=i/\∀(j:Nat) (v:av),B[j]?=some v->∃T x y,v=.ref T/\Y[j]?=some x/\a[j]?=some y/\ik h T x y/\T∉off/\h0.get? T=none
def NA(hh:A.handled=none)(D:ZipApart z TI TO g l O Q)(hl:Y.size=U.size)(hn:Y.size<=sizeLine)(S:bb)(ud:S∉[z,TI,TO,g,l,O,Q])(res:av)(h0:cy):
  ∀(k i:Nat) (s:a9) (B:Array av) (c:Nat),Y.size-i=k->i<=Y.size->(∀b o,b∉[z,TO,g,l,S]->h0.get? b=some o->s.heap.get? b=some o)->OI z TI TO g l O Q Y U i s.heap->s.heap.get? S=some {cls:=.type "list",dict:=none,data:=.seq B c,slots:=#[]}->Pairs h0 Y U B i s.heap [z,TO,g,l,S]->
  (∀h' L c',(∀b o,b∉[z,TO,g,l,S]->s.heap.get? b=some o->h'.get? b=some o)->h'.get? S=some {cls:=.type "list",dict:=none,data:=.seq L c',slots:=#[]}->Pairs h0 Y U L Y.size h' [z,TO,g,l,S]->R (.ok (.ret res)) {s with heap:=h'})->
  gi (be prog w) A (.builtin "list.extend.loop" {[.ref S,.ref z,res],[]}) R s:=by
 have C:S∉[z,TO,g,l]:=λh=>ud (by erw[aAg,aAY,or_false]at h⊢;rcases h with h|h|h|h<;>simp[h]);have m:∀b,b∉[z,TO,g,l,S]->b∉[z,TO,g,l]:=λb h q=>h (by erw[aAg,aAY,or_false]at q⊢;rcases q with q|q|q|q<;>simp[q]);intro k;induction k with
 |zero=>
  intro i s B c hk hi p N E n hR;have ph:i=Y.size:=by lia
  subst ph;show aBr F.entry_extend_loop ?_;rw[aBy aCW _];change bc _ A.in1 (i4 (.ref z)>>=_) _ _ s;show aAa (PN (by exists hh) D N λh' kp=>?_);show aAb (hR h' B c (λb o d e=>kp b o (m b d) e) (kp S _ C E) {n.1,λj v t=>?_});let{T,x,y,e1,e2,e3,e4,u,e6}:=n.2 j v t;show{T,x,y,e1,e2,e3,kp T _ (m T u) e4,u,e6}
 |succ k ih=>
  intro i s B c hk hi p N E n hR;have ai:i<Y.size:=by lia
  show aBr F.entry_extend_loop ?_;rw[aBy aCW _];change bc _ A.in1 (i4 (.ref z)>>=_) _ _ s;show aAa (NY D hl N ai λh' T x y hx hy kl hT hP kp=>?_);have jd:=kp S _ C E;have f:∀b o,s.heap.get? b=some o->T≠b:=λb o e q=>kb (aAm (aAf e) hT) (by rw[q];show aBg _);let{{f0,f1,hz,_},_,{a,b,uc},{o1,g1,_},{o2,g2,_},_}:=id N;have H:T∉[z,TO,g,l,S]:=by erw[aAg,aAY,or_false,not_or];show{f _ _ hz,f _ _ uc,f _ _ g1,f _ _ g2,f _ _ E}
  change bc _ A.in1 (updateSeq S (·.push (.ref T))>>=_) _ _ _;show aAa ?_;have I:∀b o,b≠S->h'.get? b=some o->(h'.update S (aBL (·.push (.ref T)))).get? b=some o:=λb o d e=>(aAx _ _<|aCp d).trans e;have neS:∀b,b∈[z,TI,TO,g,l,O,Q]->b≠S:=λb d q=>ud (q▸d);show aCf jd rfl (aAb {aBR aCW _,ih (i+1) _ (B.push<|.ref T) _ (by lia) ai (λb o d e=>I b o (λq=>d (by simp[q])) (kp b o (m b d)<|p b o d e)) (kl.keeps λb o d e=>I b o (neS b d) e) (aAX _ jd rfl) {by rw[Array.size_push,n.1],λj v t=>?_} λh'' L c' kp' vg r=>?_})
   (by rw[n.1];lia) (by change(B.push<|.ref T).size<=sizeLine+1;rw[Array.size_push,n.1];lia)
  .rw[Array.getElem?_push]at t;split at t
   .rename_i q;cases t;rw[n.1]at q;subst q;show{T,x,y,rfl,hx,hy,I T _ (f _ _ E) hP,H,?_};cases q0:h0.get? T with
    |none=>rfl
    |some o=>show kb rfl (f T o<|p T o H q0)
   let{J,x',y',e1,e2,e3,e4,u,e6}:=n.2 j v t;have n5:J≠S:=λq=>u (by simp[q]);show{J,x',y',e1,e2,e3,I J _ n5 (kp J _ (m J u) e4),u,e6}
  show hR h'' L c' (λb o d e=>kp' b o d (I b o (λq=>d (by simp[q]))<|kp b o (m b d) e)) vg r
end
section
def cV{Q:B4}(St:cy->Prop)(N:∀d:a9,St d.heap->d.TypeIs (.ref I) T)(C:∀h h',St h->(∀b o,b≠s.heap.objs.size->h.get? b=some o->h'.get? b=some o)->St h')(v:I≠s.heap.objs.size)
  (n1:(aCm T==aCm "list")=false) (n2:(aCm T==aCm "tuple")=false) (O:∀{M:Model}{A:cp}{E:B4}{s:a9}{Q:Fin->a9->Prop}{a b:Sem Fin},(room=true->bc M A a Q E s)->(room=false->bc M A b Q E s)->bc M A (if(room||["set", "frozenset", "dict", "dict_keys", "dict_values", "dict_items"].any (aCm T==aCm ·))=true then a else b) Q E s)
  (l:∀(d:a9) (Q:B4) (E:B4),St d.heap->Q (.ref I) d->bc (be prog w) A.in1.in1 (pyIter (.ref I)) Q E d)
  (hint:∀(d:a9) (Q:BA) (E:B4),St d.heap->Q room d->bc (be prog w) A.in1.in1 (aCC (.ref I)) Q E d) (U:St s.heap)
  (f:∀(t:cy) (c:Nat) (R:Result->a9->Prop),(∀b o,s.heap.get? b=some o->t.get? b=some o)->St t->t.get? s.heap.objs.size=some {cls:=.type "list",dict:=none,data:=.seq #[] c,slots:=#[]}->(∀s',Q (.ref s.heap.objs.size) s'->R (.ok (.ret .none)) s')->
   gi (be prog w) A.in1 (.builtin "list.extend.loop" {[.ref s.heap.objs.size,.ref I,.none],[]}) R {s with heap:=t}):
  bc (be prog w) A (call (.type "list") [.ref I]) Q E s:=by
 show callType_codes (Q₁:=λm H=>m=.ref s.heap.objs.size/\H={s with heap:=s.heap.push {cls:=.type "list",data:=.seq #[]}}) F.called_list (F.typeCall_list_1 _) F.entry_list_init
  (code_list_new _ {rfl,rfl}) λm H n=>?_
 let{rfl,rfl}:=n;have u:(s.heap.push {cls:=.type "list",data:=.seq #[]}).get? s.heap.objs.size=some {cls:=.type "list",data:=.seq #[]}:=aAp _ rfl;have ks:∀b o,s.heap.get? b=some o->b≠s.heap.objs.size:=λb o e=>aAl (aAf e);show{{_,u,rfl},F.args_list_init_2 _ _,(aAa ?_)};unfold aDf;show aAa (aBO u rfl<|aAb<|aAa<|aCf u rfl ?_);have k:=aAX (aBL<|λ_=>(#[]:Array av)) u rfl;show aAa (aEc ?_);generalize x:(s.heap.push {cls:=.type "list",data:=.seq #[]}).update s.heap.objs.size (aBL<|λ_=>(#[]:Array av))=g at*
 have y:∀b o,s.heap.get? b=some o->g.get? b=some o:=λb o e=>by rw[<-x];show(aAx _ _<|aCp<|ks b o e).trans (aAc _ e)
 have p:St g:=C s.heap g U λb o _ e=>y b o e;have z:aCR (.ref s.heap.objs.size) (.ref I)=false:=by simp[aCR,aCp v]
 have B:Shared.TypeIs {s with heap:=g} (.ref I) T:=N {s with heap:=g} p;unfold aDp;show aAa (aDL B ?_);erw[z,n1,n2,Bool.or_false,aAF,if_false];show aAa (l _ _ _ p<|aAa<|aAJ<|hint _ _ _ p<|O (λ_=>?_)<|λ_=>?_)
 .change bc _ A.in1.in1 (rule "list.extend.makes-room">>=λ_=>Builtin.List.listTouch (.ref s.heap.objs.size)>>=λ_=>again (.builtin "list.extend.loop" {[.ref s.heap.objs.size,.ref I,.none],[]})) _ _ _;show aAa (aDu<|aAa ?_);show aAa (aCf k rfl ?_);have r:=aAX (aBL (·.push Value.none)) k rfl;show aCf r rfl ?_;have J:∀b o,b≠s.heap.objs.size->g.get? b=some o->((g.update s.heap.objs.size (aBL (·.push Value.none))).update s.heap.objs.size (aBL (·.pop))).get? b=some o:=
   λb o L e=>(aAx _ _<|aCp L).trans ((aAx _ _<|aCp L).trans e)
  show aAb {aBR aCW _,f _ _ _ (λb o e=>J b o (ks b o e) (y b o e)) (C g _ p J) (aAX (aBL (·.pop)) r rfl) λs' q=>{rfl,q}}
 show aAb {aBR aCW _,f _ _ _ y p k λs' q=>{rfl,q}}
def JO:typeLookup (.type "zip") "__len__"=pure none:=by rw[aDq,aCg];kernel_rfl
def DS:typeLookup (.type "zip") "__length_hint__"=pure none:=by rw[aDq,aCg];kernel_rfl
def OU{Q:B4}(y:A.handled=none)(D:ZipApart z TI TO d f l m)(C:Y.size=n.size)(H:Y.size<=sizeLine)(st:OI z TI TO d f l m Y n 0 s.heap)(I:∀h' B c,(∀b o,b∉[z,TO,d,f]->s.heap.get? b=some o->h'.get? b=some o)->h'.get? s.heap.objs.size=some {cls:=.type "list",dict:=none,data:=.seq B c,slots:=#[]}->Pairs s.heap Y n B Y.size h' [z,TO,d,f,s.heap.objs.size]->Q (.ref s.heap.objs.size) {s with heap:=h'}):
  bc (be prog w) A (call (.type "list") [.ref z]) Q E s:=by
 have lt:∀b∈[z,TI,TO,d,f,l,m],b≠s.heap.objs.size:=λb g=>by
  let{{J,L,p,_},N,{a,b',O},{o1,T,_},{o2,U,_},{o3,g3,_},{o4,g4,_}}:=st;simp at g;rcases g with rfl|rfl|rfl|rfl|rfl|rfl|rfl
  .show aAl (aAf p)
  .show aAl (aAf N)
  .show aAl (aAf O)
  .show aAl (aAf T)
  .show aAl (aAf U)
  .show aAl (aAf g3)
  show aAl (aAf g4)
 show cV (room:=true) (OI z TI TO d f l m Y n 0) (λr h=>h.type) (λh h' x k=>x.keeps λb o g e=>k b o (lt b g) e) (lt z (by simp)) (by symm) (by symm) (λt h2=>by rw[jk (by symm)];show t rfl)
  (λr Q E x q=>?_) (λr Q E x q=>?_) st λt c R u nJ hS hR=>?_
 .let{{J,L,p,_},_}:=id x;show aEd x.type F.slot_zip_iter (aBc F.slot_zip_iter x.type F.entry_zip_iter ?_ (F.args_zip_iter_1 _));show aAb {_,rfl, "zip",_,x.type,aDX.lookup,q}
 .unfold aCC;show aAa (aBs x.type JO ?_);change bc _ _ (specialOf (aDr z) (aEj "__length_hint__")>>=_) _ _ _;show aAa (aBs x.type DS<|aAb q)
 show NA (by exists y) D C H s.heap.objs.size (λh=>lt _ h rfl) .none s.heap Y.size 0 _ #[] c (by lia) (aAT _) (λb o _ e=>u b o e) nJ hS {rfl,λj v h=>by simp at h} λh' ie c' kp jd hP=>hR _ (I h' ie c' (λb o g e=>kp b o ?_ (u b o e)) jd hP);have:=aAl (aAf e);grind
def KR:typeLookup (.type "list_reverseiterator") "__len__"=pure none:=by rw[aDq,aCg];kernel_rfl
def OQ:typeLookup (.type "list_reverseiterator") "__length_hint__"=pure (some (.builtin "list_reverseiterator.__length_hint__")):=by rw[aDq,aCg];kernel_rfl
def QQ{Q:B4}(B:A.handled=none)(C:l≠r)(H:Y.size<=sizeLine)(n:s.heap.IsRevIter r l ((Y.size:Int)-1))(p:s.heap.IsList l Y)(I:∀h' tk c,(∀b o,b≠r->s.heap.get? b=some o->h'.get? b=some o)->h'.get? s.heap.objs.size=some {cls:=.type "list",dict:=none,data:=.seq Y.reverse c,slots:=#[]}->Q (.ref s.heap.objs.size) {s with heap:=h',toks:=tk}):
  bc (be prog w) A (call (.type "list") [.ref r]) Q E s:=by
 have t:r≠s.heap.objs.size:=by let{o,g,_}:=n;show aAl (aAf g)
 have J:l≠s.heap.objs.size:=by let{o,g,_}:=p;show aAl (aAf g)
 show cV (room:=false) (λh=>h.IsRevIter r l ((Y.size:Int)-1)/\h.IsList l Y) (λu h=>h.1.typeIs) (λh h' x k=>{x.1.at λo e=>k r o t e,x.2.at λo e=>k l o J e}) t (by symm) (by symm)
  (λL N=>by rw[jl (by symm)];show N rfl) (λu Q E x q=>wpAny_pyIter_revIter x.1 q) (λu Q E x q=>?_) {n,p} λL c R O nJ T U=>?_
 .have f:=x.1.typeIs;unfold aCC;show aAa (aBs f KR ?_);change bc _ _ (specialOf (aDr r) (aEj "__length_hint__")>>=_) _ _ _;show aAa (aBs f OQ (aAa (aDa (b:=true) f (by rw[aEV];kernel_rfl)<|aAb q)))
 have W:=(Walks.listRev (prog:=prog) (w:=w) (A:=A.in1.in1) (by simp[B]) r l C Y).toS;show codeAny_extend_loopS W H s.heap.objs.size (by grind) .none Y.size 0 _ #[] c (by lia) (aAT _) {aAT _,by simpa using nJ.1,nJ.2} T (ItemsOf.nil _) λa v c' d jd m=>U _ ?_;have ea:v=Y.reverse:=by
  apply Array.ext';apply aDt;intro i;rw[aAB,aAB];by_cases y:i<Y.size
  .have z:i<v.size:=by rw[m.1];show y
   have:=m.2 i _ (aAw z);rw[aAw z,Array.getElem?_reverse y,this]
  rw[aBz (by rw[m.1];lia),aBz (by simp;lia)]
 subst ea;have g0:a.gens=s.gens:=d.gens;have d0:a.drawn=s.drawn:=d.drawn;have o0:a.os=s.os:=d.os;let{h',g',d',xm,os'}:=a;subst g0 d0 o0;show I h' xm c' (λb o hb e=>(d.heap b o (by simp;show{aAl (aAf e),hb})<|O b o e)) jd
end
section
abbrev ti(t:bb):Obj:={cls:=.type "tuple_iterator",data:=.fields #[.ref t,.int 0 0]}
end
end SZ
namespace SD
open PySem
def IsD(h:cy)(d:bb)(es:Array ff)(ep:Nat):Prop:=∃o,h.get? d=some o/\o.ExactDict/\o.data=.dict es ep
def IsD.at(x:IsD h d es ep)(e:∀o,h.get? d=some o->h'.get? d=some o):IsD h' d es ep:=by let{o,a,r}:=x;show{o,e o a,r}
def IsD.type{s:a9}(x:IsD s.heap d es ep):s.TypeIs (.ref d) "dict":=by let{o,a,r,_}:=x;show{o,a,r.1}
section
variable{prog:bo}{w:cq}{A:cp}{E:B4}{s:a9}{d it:bb}{es:Array ff}{ep i:Nat}
def VM{Q:B4}(g:(d==h9)=false)(b:IsD s.heap d es ep)
  (h:Q (.ref s.heap.objs.size) {s with heap:=s.heap.push {cls:=.type "dict_keyiterator",data:=.fields #[.ref d,.int 0 0,.int es.size 0,.int ep 0]}}):bc (be prog w) A (pyIter (.ref d)) Q E s:=by
 have a:=b.type;let{o,e,k,f}:=b;show aEd a F.slot_dict_iter (aBc F.slot_dict_iter a F.entry_dict_iter (aAa ?_)<|F.args_dict_iter_1 _);unfold Builtin.Dict.dictSlotNone;show aAa (wpAny_notOrdered_dict a<|aAb (?_:bc _ _ (aFy d>>=_) _ _ s));unfold aFy;rw[jl (by rw[g];symm)];show aAa (aAb<|aAa<|wpAny_dictEntries e f<|aAa<|wpAny_dictEpoch e f<|aAa<|aAQ<|aAb ⟨_,rfl, "dict_keyiterator",_,⟨_,aAp _ rfl,rfl⟩,aDi.lookup,?_⟩);simpa[et]using h
def FJ{Q:Option av->a9->Prop}(p:A.handled=none)(g:s.heap.IsKeyIter it d i es.size ep)(q:IsD s.heap d es ep)
  (r:∀(e:i<es.size) h',h'.IsKeyIter it d (i+1) es.size ep->Heap.SameBut it s.heap h'->Q (some es[i].key) {s with heap:=h'}) (hE:es.size<=i->∀h',Heap.ExtBut it s.heap h'->Q none {s with heap:=h'}):bc (be prog w) A (i4 (.ref it)) Q E s:=by
 have f:=g.typeIs;let{o,n,t,h}:=g;let{u,k,v,l}:=q;have m:Builtin.Dict_items.ownsTuple "dict_keyiterator"=false:=by decide
 unfold i4;show aAa (aDV<|aBV f aDi<|aBc aDi f F.entry_dict_keyiterator_next (aAa<|aAb<|aAa<|aAa ?_)<|F.args_dict_keyiterator_next_1 _);show aAa (aDb f<|aAb<|aAa<|aFO n h ?_);erw[m,aAF,if_false];change bc _ _ (if(aDr d==Value.none)=true then _ else _) _ _ s;rw[jl (by intro z;cases z)];show aAa (aAb<|aAa<|wpAny_dictEntries k l ?_);rw[jl (by simp)];show aAa (aAb<|aAa<|wpAny_dictEpoch k l ?_);rw[jl (by simp)];show aAb ?_;by_cases e:i<es.size
 .erw[show¬((i:Int)<0)by lia,if_false,aCy,aAw e];show aAa (aAa<|aDb f<|aAb<|aAa<|wpAny_isOneOf_keyiter f ?_);change bc _ _ (setField (.ref it) 1 (et<|(i:Int)+1)>>=_) _ _ s;show aAa (aFP n h (by simp) ?_);have a:(s.heap.update it (Obj.mapFields (·.setIfInBounds 1 (et<|(i:Int)+1)))).IsKeyIter it d (i+1) es.size ep:={_,aAX _ n (Obj.isFreed_of_fields<|Obj.data_mapFields h _),(Obj.cls_mapFields ..).trans t,by rw[Obj.data_mapFields h];simp[et]};show aAa (aAJ<|aAa<|wpAny_isOneOf_keyiter a.typeIs ((aAb<|aAb ⟨_,rfl,aAb (r e _ a<|aEw ..)⟩):bc _ _ (pure es[i].key) _ _ _))
 have e:es.size<=i:=by nofun
 erw[show¬((i:Int)<0)by lia,if_false,aCy,aBz e];show aAa (aAa (aDb f (aAb ((aAa (aFP n h (by simp) ((aAa ?_):bc _ _ (newExc (.type "StopIteration") []>>=_) _ _ _))):bc _ _ (setField (.ref it) 0 .none>>=_) _ _ s))));erw[newExc,newTuple];show aAa (aAQ (aAa (aFU (by first|rfl|(erw[firstArgMember];rfl)) (aAQ ?_ (by size_fits)))) (by size_fits));erw[raiseNew];show aAa (wpAny_handled ?_);rw[show A.in1.handled=none from p];show aAa (aAb<|wpAny_throw ?_);show aAa (aDa (b:=true) {_,aAp _ rfl,rfl} aFN<|aAb<|hE e _<|((aEw ..).extBut.push _).push _)
end
def OX{prog:bo}{w:cq}{A:cp}(l:A.handled=none)(I d:bb)(q:d≠I)(es:Array ff)(ep:Nat):
  Walks prog w A I [I,d] [I] es.size (λi v=>∃e,es[i]?=some e/\v=e.key) (λi h=>h.IsKeyIter I d i es.size ep/\IsD h d es ep)where
 sub:=λb a=>by simp at a;simp[a]
 frame:=λ_ _ _ st m=>{Heap.IsKeyIter.at st.1 λo e=>m I (by simp) o e,st.2.at λo e=>m d (by simp) o e}
 item:=λi s Q E n st f=>FJ l st.1 st.2 (hE:=λz=>by lia) λn g k p=>f _ g s.toks {es[i],aAw n,rfl} {k,st.2.at λo e=>(p.2 d q).trans e} λb o a e=>(p.2 b (λz=>a (by simp[z]))).trans e
 done:=λs Q E st f=>FJ l st.1 st.2 (λz=>by lia) λ_ g r=>f g s.toks λb o a e=>r b o (λz=>a (by simp[z])) e
 self:=λ_ _ _ _ st f=>wpAny_pyIter_keyiter st.1 f
section
variable{prog:bo}{w:cq}{A:cp}{E:B4}{s:a9}{d:bb}{es:Array ff}{ep:Nat}
def ZI(a:(d==h9)=false):PySem.W.KdlSrc prog w "dict" d d es.size (λi v=>∃e,es[i]?=some e/\v=e.key) (λh=>IsD h d es ep)where
 type:=λs h=>h.type
 there:=by rintro h ⟨o,g,_⟩;show{aAf g,aAf g}
 keep:=λh f x k=>x.at λo e=>k d (.inl rfl) o e
 notList:=by decide
 notTuple:=by decide
 hint:=λA E s Q ok q=>PySem.W.kdl_hint_dict ok.type q
 iter:=λA s b ok=>{_,λi h=>h.IsKeyIter s.heap.objs.size d i es.size ep/\IsD h d es ep,λE Q q=>VM a ok q,OX b _ d (by let{o,g,_}:=ok;show aAl (aAf g)) es ep,{_,aAp _ rfl,rfl,rfl},ok.at λo e=>aAc _ e}
def collect_dk{Q:List av->a9->Prop}(p:A.handled=none)(q:(d==h9)=false)(k:IsD s.heap d es ep)(r:es.size<=sizeLine)
  (t:∀h' tk,(∀b o,s.heap.get? b=some o->h'.get? b=some o)->Q (es.toList.map (·.key)) {s with heap:=h',toks:=tk}):bc (be prog w) A (collect (.ref d)) Q E s:=by
 have l:d<s.heap.objs.size:=by let{o,g,_}:=k;show aAf g
 show aAa (aFQ<|aBr PySem.F.entry_proto_collect ?_);have a:∀b o,s.heap.get? b=some o->(s.heap.push {cls:=.type "list",data:=.seq ([]:List av).toArray}).get? b=some o:=λb o e=>aAc _ e;have f:∀R:Result->a9->Prop,(∀h' tk m u,(∀b o,b≠s.heap.objs.size->(s.heap.push {cls:=.type "list",data:=.seq ([]:List av).toArray}).get? b=some o->h'.get? b=some o)->h'.get? s.heap.objs.size=some {cls:=.type "list",dict:=none,data:=.seq m u,slots:=#[]}->ItemsOf (λi v=>∃e,es[i]?=some e/\v=e.key) m es.size->R (.ok (.ret (.ref s.heap.objs.size))) {s with heap:=h',toks:=tk})->
   gi (be prog w) A (.builtin "list.__iadd__" {[.ref s.heap.objs.size,.ref d],[]}) R {s with heap:=s.heap.push {cls:=.type "list",data:=.seq ([]:List av).toArray}}:=λR x=>aBr PySem.F.entry_list_iadd (by
  show PySem.W.kdl_extend (ZI (es:=es) q) p (k.at λo e=>a d o e) s.heap.objs.size (aCG l) (aCG l) (.ref s.heap.objs.size) 0 (aAp _ rfl) x r)
 show aAa (aAQ<|aAb ⟨aBR PySem.F.plain_list_iadd _,f _ λh' tk B c y z h=>(aAa<|wpAny_load z<|aAb ?_)⟩);have C:B.toList=es.toList.map (·.key):=by
  apply aDt;intro i;rw[aAu,aAB,aAB];by_cases H:i<es.size
  .have n:i<B.size:=by rw[h.1];show H
   let{e,I,J}:=h.2 i _ (aAw n);rw[I,aAw n,J];rfl
  rw[aBz (by rw[h.1];lia),aBz (by lia)];rfl
 rw[C];show t h' tk λb o e=>y b o (aAl<|aAf e) (a b o e)
end
section
variable{prog:bo}{w:cq}{A:cp}{E:B4}{s:a9}{d it:bb}{es:Array ff}{ep i:Nat}
end
section
variable{prog:bo}{w:cq}{A:cp}{E:B4}{s:a9}{d v:bb}{es:Array ff}{ep:Nat}
end
end SD
namespace L2
open PySem PySem.Spec PyProof.Rows
abbrev BY:=Sum Int Str
def OV:BY->av->Bool
 |.inl k,v=>Value.isInt k v
 |.inr x,v=>Value.isStrOf x v
def a3z(w:cq):BY->Int
 |.inl k=>hashInt k
 |.inr x=>hashStr w x
theorem A2:∀{k:BY}{v:av},OV k v=true->(∃i t,k=Sum.inl i/\v=aGo i t)\/(∃x t,k=Sum.inr x/\v=Value.str x t)
 |.inl i,v,h=>by let{t,e}:=Value.isInt_shape (v:=v) h;show .inl {i,t,rfl,e}
 |.inr x,v,h=>by let{t,e}:=Value.isStrOf_shape (v:=v) h;show .inr {x,t,rfl,e}
def iq(a b:Int):decide ((Sum.inl a:BY)=Sum.inl b)=(a==b):=by grind
def oj(a b:Str):decide ((Sum.inr a:BY)=Sum.inr b)=decide (a=b):=by grind
def ZH(a:Int)(b:Str):decide ((Sum.inl a:BY)=Sum.inr b)=false:=by lia
def YR(a:Str)(b:Int):decide ((Sum.inr a:BY)=Sum.inl b)=false:=by lia
def wJ(prog:bo)(w:cq):PySem.KeyKind prog w BY where
 is:=OV
 hash:=a3z w
 inj:=λv a b l g=>by
  rcases A2 l with⟨i,t,rfl,rfl⟩|⟨x,t,rfl,rfl⟩
  .rcases A2 g with⟨j,u,rfl,e⟩|⟨y,u,rfl,e⟩
   .injection e with d _;rw[d]
   show nomatch e
  rcases A2 g with⟨j,u,rfl,e⟩|⟨y,u,rfl,e⟩
  .show nomatch e
  injection e with d _;rw[d]
 byValue:=λk v h=>by rcases A2 h with⟨i,t,rfl,rfl⟩|⟨x,t,rfl,rfl⟩<;>rfl
 pyHash:=λf h=>by
  rcases A2 f with⟨i,t,rfl,rfl⟩|⟨x,t,rfl,rfl⟩
  .show wpAny_pyHash_int h
  show wpAny_pyHash_str h
 eqBool:=λm f h=>by
  rcases A2 m with⟨i,t,rfl,rfl⟩|⟨x,t,rfl,rfl⟩
  .rcases A2 f with⟨j,u,rfl,rfl⟩|⟨y,u,rfl,rfl⟩
   .rw[iq]at h;show wpAny_eqBool_int h
   rw[ZH]at h;show aFX i t y u _ _ _ _ h
  rcases A2 f with⟨j,u,rfl,rfl⟩|⟨y,u,rfl,rfl⟩
  .rw[YR]at h;show aFY x t j u _ _ _ _ h
  rw[oj]at h;show wpAny_eqBool_str h
 «strs»:=λk x t v h=>by
  rcases A2 h with⟨i,u,rfl,e⟩|⟨y,u,rfl,e⟩
  .show nomatch e
  injection e with d _;subst d;cases v<;>rfl
def ZJ(prog:bo)(w:cq)(k:BY)(v:av):(wJ prog w).is k v=OV k v:=rfl
inductive V where
 |non|bl (b:Bool)|int (i:Int)|str (x:Str)|byt (b:Array UInt8)|flt (b:UInt64)|ref (a:Addr)|ty (n:String)
 deriving DecidableEq
def RelV:V->av->Prop
 |.non,u=>u=Value.none
 |.bl b,u=>u=aDK b
 |.int i,u=>∃t,u=aGo i t
 |.str x,u=>∃t,u=Value.str x t
 |.byt b,u=>∃t,u=Value.bytes b t
 |.flt b,u=>∃t,u=Value.float b t
 |.ref a,u=>u=aDr a
 |.ty n,u=>u=aCm n
abbrev m9:List V->List av->Prop:=Paired RelV
def m9.length{Y:List V}{a:List av}(r:m9 Y a):Y.length=a.length:=Paired.length r
theorem m9.get:∀{Y:List V}{a:List av}{i:Nat}{x:V},m9 Y a->Y[i]?=some x->∃u,a[i]?=some u/\RelV x u:=by
 intro _ _ b x d e;cases d with
 |nil=>simp at e
 |cons r t=>
  cases b with
  |zero=>nofun
  |succ i=>let{u,f,g}:=m9.get t (by exists e);show{u,by simpa using f,g}
theorem m9.set(r:RelV x u):∀{Y:List V}{a:List av} (i:Nat),m9 Y a->m9 (Y.set i x) (a.set i u)
 |_,_,_,.nil=>.nil
 |_,_,0,.cons _ t=>.cons r t
 |_,_,i+1,.cons q t=>.cons q (m9.set r i t)
theorem m9.append:∀{Y a:List V}{b ws:List av},m9 Y b->m9 a ws->m9 (Y++a) (b++ws):=by
 intro _ _ _ _ d s;cases d with
 |nil=>show s
 |cons r t=>show .cons r (m9.append t s)
theorem m9.take:∀{Y:List V}{a:List av} (n:Nat),m9 Y a->m9 (Y.take n) (a.take n):=by
 intro _ _ b d;cases b with
 |zero=>show .nil
 |succ n=>
  cases d with
  |nil=>show .nil
  |cons r t=>show .cons r (m9.take n t)
theorem m9.drop:∀{Y:List V}{a:List av} (n:Nat),m9 Y a->m9 (Y.drop n) (a.drop n)
 |_,_,0,r=>r
 |_,_,_+1,.nil=>.nil
 |_,_,n+1,.cons _ t=>m9.drop n t
def a0n:Option V->Option av->Prop
 |some v,some u=>RelV v u
 |none,none=>True
 |_,_=>False
def KV{κ:Type}:List (κ×V)->List (κ×av)->Prop:=Paired λ(p:κ×V) (q:κ×av)=>p.1=q.1/\RelV p.2 q.2
def kV:BY->V
 |.inl i=>.int i
 |.inr x=>.str x
inductive HO where
 |lst (Y:List V)
 |tup (Y:List V)
 |dK (U:List (BY×V))|dT (U:List (List BY×V))
 |set (S:Int->Bool) (n:Nat)
 |ins (C dx:Addr) (fs:List (Str×V))
 |own (x:Addr)
 |xd (fs:List (Str×V))
 |met (f x:Addr)
 |rng (lo hi:Int)
 |frz (o:Obj) (u:HO)
 |tbl (tb:List (Pos×Str))
 |ext (φ:Heap->Prop)
abbrev Hp:=bb->Option HO
def upd(H:Hp)(a:bb)(o:HO):Hp:=λb=>if b=a then some o else H b
def j2:upd H a o a=some o:=by unfold upd;rw[jk rfl]
def k7(h:b≠a):upd H a o b=H b:=by unfold upd;rw[jl h]
def t5{H:Hp}{a b:bb}{o:HO}(h:H a=some o)(h':H b=none):a≠b:=by lia
section
variable(P:bo) (w:cq)
def ObjOk(H:Hp)(h:cy)(a:bb):HO->Prop
 |.lst Y=>Y.length<=sizeLine/\∃(b:List av) (n:Nat),m9 Y b/\h.get? a=some {cls:=.type "list",data:=.seq b.toArray n}
 |.tup Y=>Y.length<=sizeLine/\∃b:List av,m9 Y b/\IsTup h a b.toArray
 |.dK U=>U.length<=sizeLine/\(a==h9)=false/\∃e,KV U e/\h.DictOf (wJ P w) a e
 |.dT U=>U.length<=sizeLine/\(a==h9)=false/\∃Y:List (List BY×bb×av),
  Paired (λ(p:List BY×V) (q:List BY×bb×av)=>p.1=q.1/\H q.2.1=some (.tup (p.1.map kV))/\RelV p.2 q.2.2) U Y/\
  ∃o m z,h.get? a=some o/\o.ExactDict/\o.data=.dict m z/\m.toList=Y.map (entryOfKey<|tupleKind<|wJ P w)/\(Y.map (·.1)).Nodup
 |.set S n=>h.SetOf (intKind P w) a S n
 |.ins C g fs=>H g=some (.own a)/\fs.length<=1000/\g≠a/\h.get? a=some (PySem.W.instObj C g)/\
  ∃d,h.Ns1 g d/\(∀f,a0n (fs.lookup f) (d f))/\PySem.Within d (fs.map (·.1))
 |.own _=>∃o,h.get? a=some o
 |.xd fs=>∃d,h.Ns1 a d/\∀f,a0n (fs.lookup f) (d f)
 |.rng lo A=>∃t u v,h.get? a=some {cls:=.type "range",data:=.fields #[.int lo t,.int A u,.int 1 v]}
 |.frz o u=>h.get? a=some o/\ObjOk H h a u
 |.tbl B=>∃k:Array av,h.get? a=some {cls:=.none,data:=.fields k}/\TriplesOk k.toList/\∀p∈B,fu p.1 k.toList=none\/∃c r e t,fu p.1 k.toList=some (.ref c)/\H c=some (.frz r (.own c))/\r.data=.fields e/\e[1]?=some (.str p.2 t)
 |.met f x=>h.get? a=some (PySem.W.methodObj (.ref f)<|.ref x)
 |.ext l=>l h/\(∃o,h.get? a=some o)/\∀s y:cy,l s->(∀o,s.get? a=some o->y.get? a=some o)->l y
def XG:HO->Prop
 |.tup _=>True
 |.frz o _=>∃a,o.data=.fields a
 |_=>False
def fQ(H:Hp)(h:cy):Prop:=∀a o,H a=some o->ObjOk P w H h a o
end
section
variable{P:bo}{w:cq}{H H':Hp}{h h':cy}{a:bb}{o:HO}
def ObjOk.lt(x:ObjOk P w H h a o):a<h.objs.size:=by
 cases o with
 |lst Y=>let{_,_,_,_,e}:=x;show aAf e
 |tup Y=>let{_,_,_,p}:=x;show p.lt
 |dK U=>let{_,_,_,_,o,_,_,e,_}:=x;show aAf e
 |dT U=>let{_,_,_,_,o,_,_,e,_}:=x;show aAf e
 |set S n=>let{o,_,_,_,e,_}:=x;show aAf e
 |ins C b fs=>let{_,_,_,e,_}:=x;show aAf e
 |own y=>let{_,e}:=x;show aAf e
 |xd fs=>let{_,{_,_,_,e,_},_}:=x;show aAf e
 |rng lo d=>let{_,_,_,e}:=x;show aAf e
 |frz g u=>let{e,_}:=x;show aAf e
 |tbl k=>let{_,e,_}:=x;show aAf e
 |met f y=>show aAf (x)
 |ext l=>let{_,{_,e},_}:=x;show aAf e
theorem Paired.af6{d β:Type}{F G:d->β->Prop}:∀{l₁:List d}{l₂:List β},Paired F l₁ l₂->(∀a b,F a b->G a b)->Paired G l₁ l₂:=by
 intro _ _ e f;cases e with
 |nil=>show .nil
 |cons r t=>show .cons (f _ _ r) (Paired.af6 t f)
def ObjOk.ab7(x:ObjOk P w H h a o)(k:∀b u,(b=a\/H b=some (.own a))->h.get? b=some u->h'.get? b=some u)
  (N:∀b,H b=some (.own a)->H' b=some (.own a)) (J:∀b u,XG u->H b=some u->H' b=some u):ObjOk P w H' h' a o:=by
 induction o with
 |lst Y=>let{z,s,n,r,e}:=x;show{z,s,n,r,k _ _ (.inl rfl) e}
 |tup Y=>let{z,s,r,g,e,c}:=x;show{z,s,r,g,k _ _ (.inl rfl) e,c}
 |dK U=>let{z,y,A,r,g,l,m,e,c}:=x;show{z,y,A,r,g,l,m,k _ _ (.inl rfl) e,c}
 |dT U=>let{z,y,Y,r,g,l,m,e,c}:=x;show{z,y,Y,Paired.af6 r λp q z=>{z.1,J _ _ trivial z.2.1,z.2.2},g,l,m,k _ _ (.inl rfl) e,c}
 |set S n=>let{g,l,m,t,e,c}:=x;show{g,l,m,t,k _ _ (.inl rfl) e,c}
 |ins C dx fs=>let{d,z,ne,e,B,{E,l,m,I,c},r}:=x;show{N _ d,z,ne,k _ _ (.inl rfl) e,B,{E,l,m,k _ _ (.inr d) I,c},r}
 |own y=>let{g,e}:=x;show{g,k _ _ (.inl rfl) e}
 |xd fs=>let{B,{E,l,m,e,c},r}:=x;show{B,{E,l,m,k _ _ (.inl rfl) e,c},r}
 |rng lo hi=>let{t,u,v,e}:=x;show{t,u,v,k _ _ (.inl rfl) e}
 |frz g u O=>let{e,q}:=x;show{k _ _ (.inl rfl) e,O q}
 |tbl tb=>let{Q,e,t,f}:=x;show{Q,k a _ (.inl rfl) e,t,λp T=>(f p T).imp id λ⟨c,oc,A,t,e1,I,L⟩=>{c,oc,A,t,e1,J _ _ {A,L.1} I,L}}
 |met f y=>have e:=x;change h'.get? a=some (PySem.W.methodObj (.ref f)<|.ref y);show k a _ (.inl rfl) e
 |ext φ=>let{p,{o,e},st}:=x;show{st _ _ p λo q=>k _ _ (.inl rfl) q,{o,k _ _ (.inl rfl) e},st}
def fQ.lt(x:fQ P w H h)(e:H a=some o):a<h.objs.size:=(x a o e).lt
def fQ.fresh(x:fQ P w H h)(e:h.objs.size<=a):H a=none:=by
 cases q:H a with
 |none=>rfl
 |some u=>show kb (aAm (x.lt q) e) (aBg _)
def fQ.kept(x:fQ P w H h)(k:∀b u,h.get? b=some u->h'.get? b=some u):fQ P w H h':=λa o e=>(x a o e).ab7 (λb u _ q=>k b u q) (λ_ q=>q) λ_ _ _ q=>q
def fQ.laid(x:fQ P w H h)(k:∀b u,h.get? b=some u->h'.get? b=some u)(l:h.objs.size<=a)(d:ObjOk P w (upd H a o) h' a o):fQ P w (upd H a o) h':=λb u e=>by
 have f:=x.fresh l;by_cases g:b=a
 .subst g;rw[j2]at e;cases e;show d
 rw[k7 g]at e;show(x b u e).ab7 (λc v _ q=>k c v q) (λc q=>by rw[k7 (t5 q f)];show q) λc Y _ q=>by rw[k7 (t5 q f)];show q
end
def Rd(H:Hp)(a:bb)(u:HO):Prop:=H a=some u\/∃o,H a=some (.frz o u)
def Rd.ok(r:Rd H a u)(x:fQ P w H h):ObjOk P w H h a u:=by
 rcases r with r|⟨o,r⟩
 .show x a u r
 let{_,q}:=x a _ r;show q
def Mut:Option HO->Prop
 |some (.lst _)=>True
 |some (.dK _)=>True
 |some (.dT _)=>True
 |some (.set _ _)=>True
 |some (.ins _ _ _)=>True
 |some (.ext _)=>True
 |_=>False
section
variable{P:bo}{w:cq}{H:Hp}{h h':cy}{x e:bb}{o':HO}
def fQ.write(ok:fQ P w H h)(g:Mut (H x))(t:e=x\/H e=some (.own x))(k:∀b u,b≠e->h.get? b=some u->h'.get? b=some u)(l:∃u,h'.get? e=some u)
  (m:ObjOk P w (upd H x o') h' x o'):fQ P w (upd H x o') h':=λb u q=>by
 have a:∀c y,H c=some (.own y)->c≠x:=λc y r z=>by subst z;rw[r]at g;show g
 have d:∀c u,XG u->H c=some u->c≠x:=λc u f r z=>by subst z;rw[r]at g;cases u<;>first|show g|show f
 by_cases o:b=x
 .subst o;rw[j2]at q;cases q;show m
 rw[k7 o]at q;by_cases n:b=e
 .have p:H b=some (.own x):=by lia
  rw[q]at p;cases p;let{v,s}:=l;show{v,by rw[n];show s}
 show(ok b u q).ab7 (λc v A r=>k c v ?_ r) (λc r=>by rw[k7 (a c b r)];show r) λc Y f r=>by rw[k7 (d c Y f r)];show r
 grind
end
structure Un(fs ex:List Addr)(H H':Hp)(h h':Heap):Prop where
 keep:∀b o,h.get? b=some o->H b=none->b∉fs->b∉ex->h'.get? b=some o
 slot:∀b o,h.get? b=some o->H b=none->b∈fs->b∉ex->∃sl,h'.get? b=some {o with slots:=sl}
 free:∀b o,h.get? b=some o->H b=none->b∉ex->H' b=none
 there:∀b o,h.get? b=some o->b∉ex->∃o',h'.get? b=some o'
 tups:∀b Y,H b=some (.tup Y)->H' b=some (.tup Y)
 frzs:∀b o u,H b=some (.frz o u)->H' b=some (.frz o u)
 tbls:∀b tb,H b=some (.tbl tb)->H' b=some (.tbl tb)
section
variable{fs xn ex ex':List bb}{H H1 H2:Hp}{h h1 h2 h':cy}{a x e:bb}{o:HO}
def Un.any(u:Un fs ex H H1 h h1)(q:h.get? b=some d)(n:H b=none)(f:b∉ex):∃sl,h1.get? b=some {d with slots:=sl}:=by
 by_cases g:b∈fs
 .show u.slot b d q n g f
 show{d.slots,u.keep b d q n g f}
def Un.kept(k:∀b u,h.get? b=some u->h'.get? b=some u):Un fs ex H H h h':=
 {λb d q _ _ _=>k b d q,λb d q _ _ _=>{d.slots,k b d q},λ_ _ _ n _=>n,λb d q _=>{d,k b d q},λ_ _ q=>q,λ_ _ _ q=>q,λ_ _ q=>q}
def Un.refl:Un fs ex H H h h:=Un.kept λ_ _ q=>q
def Un.laid(k:∀b u,h.get? b=some u->h'.get? b=some u)(f:h.objs.size<=a)(d:H a=none):Un fs ex H (upd H a o) h h' where
 keep:=λb u q _ _ _=>k b u q
 slot:=λb u q _ _ _=>{u.slots,k b u q}
 free:=λb u q n _=>by rw[k7 (aAl<|aAm (aAf q) f)];show n
 there:=λb u q _=>{u,k b u q}
 tups:=λb Y q=>by rw[k7 (t5 q d)];show q
 frzs:=λb u Y q=>by rw[k7 (t5 q d)];show q
 tbls:=λb g q=>by rw[k7 (t5 q d)];show q
def Un.write(d:Mut (H x))(s:e=x\/H e=some (.own x))(k:∀b u,b≠e->h.get? b=some u->h'.get? b=some u)(m:∃u,h'.get? e=some u):Un fs ex H (upd H x o) h h':=by
 have p:∀b,H b=none->b≠x:=λb n z=>by subst z;rw[n]at d;show d
 have l:∀b,H b=none->b≠e:=λb n z=>by
  subst z
  nofun
 have f:∀b u,H b=some u->¬Mut (some u)->b≠x:=λb u q r z=>by subst z;rw[q]at d;show r d
 show⟨λb u q n _ _=>k b u (l b n) q,λb u q n _ _=>{u.slots,k b u (l b n) q},λb u q n _=>by rw[k7 (p b n)];show n,λb u q _=>?_,
  λb Y q=>by rw[k7 (f b _ q λz=>z)];show q,λb u Y q=>by rw[k7 (f b _ q λz=>z)];show q,λb t q=>by rw[k7 (f b _ q λz=>z)];show q⟩
 by_cases g:b=e
 .nofun
 show{u,k b u g q}
end
def trk(h:cy)(H:Hp):List bb:=(aBm h.objs.size).filter λa=>(H a).isSome
def rM(h:cy)(H:Hp):cy:=PySem.W.hideAll h (trk h H)
def IA(h:cy)(H:Hp):(rM h H).objs.size=h.objs.size:=PySem.W.hideAll_size _ _
def LU(e:h.get? b=some o)(n:H b=none):(rM h H).get? b=some o:=
 PySem.W.hideAll_get _ e λa=>by have q:(H b).isSome=true:=(aCh.mp a).2;rw[n]at q;simp at q
def UY(e:(rM h H).get? b=some o):h.get? b=some o/\H b=none:=by
 have a:h.get? b=some o:=PySem.W.of_hideAll (trk h H) e;show{a,?_};cases q:H b with
 |none=>rfl
 |some x=>have d:b∈trk h H:=aCh.mpr {aCu.mpr (aAf a),by simp[q]};have z:(rM h H).get? b=none:=PySem.W.hideAll_none (trk h H) d;rw[z]at e;cases e
def SO(g h:cy)(L:bb):List (bb×Obj):=(aBm h.objs.size).filterMap λa=>if a=L\/(g.get? a).isSome=true then none else(h.get? a).map λo=>(a,o)
def rest(g h:cy)(L d:bb):List (bb×Obj):=(SO g h L).filter λp=>decide (p.1≠d)
structure Mod(K:PySem.W.Frag)(mg:fD)(base:Heap):Prop where
 kin:K.In base
 glob:base.Ns mainGlobals mg
 blt:∃mb,base.Ns builtinsNs mb/\∀x:Str,x≠ "__name__"->mb x=bootBuiltins x
 nolimit:base.NoLimit
structure Cx where
 prog:Program
 w:World
 K:PySem.W.Frag
 mg:Str->Option Value
 base:Heap
 A:Around
 N:List Str
 s9:Shared
 H9:Hp
 env:Env
 outer:List Env
 stack:List Env
 ex:List Addr
 fn:Str->Bool
 calm:Bool
 pn:List (Addr×Obj)
 xe:Value->Shared->Prop
def zU(l:List Env):List bb:=l.filterMap (·.frame)
abbrev Cx.fs(X:Cx):List bb:=zU X.outer
def xO(sc:i3)(x:Str):Prop:=sc.names.lookup x=some .local\/sc.names.lookup x=some .cell\/sc.names.lookup x=some .free
def Loc(sc:i3)(x:Str):Prop:=sc.names.lookup x=some .local\/sc.names.lookup x=some .cell
def Look(env:Env)(h:cy)(m:fD)(x:Str)(u:av):Prop:=
 (env.kindOf x=some .local/\m x=some u)\/((env.kindOf x=some .cell\/env.kindOf x=some .free)/\∃c,env.cells.lookup x=some c/\h.IsCell c (some u))
structure Cx.Ok(X:Cx):Prop where
 mod:Mod X.K X.mg X.base
 kind:X.env.scope.kind=.function
 glob:X.env.globals=mainGlobals
 blt:X.env.builtins=builtinsNs
 above:X.s9.heap.objs.size<=X.env.locals
 inj:∀x y c,X.env.cells.lookup x=some c->X.env.cells.lookup y=some c->x=y
 has:∀x,(X.env.kindOf x=some .cell\/X.env.kindOf x=some .free)->∃c,X.env.cells.lookup x=some c
 cab:∀x c,X.fn x=true->X.env.cells.lookup x=some c->X.s9.heap.objs.size<=c
 hd:X.calm=true->X.A.handled=none
 frames:X.A.frames=some X.stack
 stk:X.stack=X.outer\/(X.stack=X.env::X.outer/\X.env.frame=some X.env.locals)
 exf:∀b∈X.ex,b≠X.env.locals/\∀x c,X.env.cells.lookup x=some c->c≠b
 bs:∀b o,X.base.get? b=some o->X.s9.heap.get? b=some o/\X.H9 b=none
 bsz:X.base.objs.size<=X.s9.heap.objs.size
 noex:∀b o,X.base.get? b=some o->b∉X.ex
 exfs:∀b∈X.ex,b∉X.fs
 funs:X.s9.heap.FunFrames X.base X.outer
 frf:∀b∈X.fs,X.H9 b=none
structure Inv(X:Cx)(pins:N7)(σ:List (Option V))(H:Hp)(s:Shared):Prop where
 ok:X.Ok
 os:s.os=X.s9.os
 bare:AllBare s.gens
 base:Un X.fs X.ex X.H9 H X.s9.heap s.heap
 loc:∃m,s.heap.Ns X.env.locals m/\∀(i:Nat) (x:Str) (v:V),X.N[i]?=some x->σ[i]?=some (some v)->xO X.env.scope x->∃u,RelV v u/\Look X.env s.heap m x u
 cell:∀x c,X.env.cells.lookup x=some c->∃v,s.heap.IsCell c v
 free:H X.env.locals=none
 freeC:∀x c,X.env.cells.lookup x=some c->H c=none
 pin:∀p∈X.pn++pins,s.heap.get? p.1=some p.2/\H p.1=none/\p.1≠X.env.locals/\p.1∉X.fs/\∀v,p.2.data≠.cell v
 hok:fQ X.prog X.w H s.heap
 len:σ.length=X.N.length
section
variable{X:Cx}{pins:N7}{σ:List (Option V)}{H H':Hp}{s:a9}{h':cy}
def Cx.Ok.nofr(ok:X.Ok)(e:X.base.get? b=some o):b∉X.fs:=λa=>by
 have:=(ok.funs.mem a).1
 lia
def Inv.bs(I:Inv X pins σ H s):∀b o,X.base.get? b=some o->s.heap.get? b=some o/\H b=none:=λb o e=>{I.base.keep b o (I.ok.bs b o e).1 (I.ok.bs b o e).2 (I.ok.nofr e) (I.ok.noex b o e),I.base.free b o (I.ok.bs b o e).1 (I.ok.bs b o e).2 (I.ok.noex b o e)}
def Inv.bk(I:Inv X pins σ H s):∀b o,X.base.get? b=some o->s.heap.get? b=some o:=λb o e=>(I.bs b o e).1
def Inv.mod(I:Inv X pins σ H s):Mod X.K X.mg X.base:=I.ok.mod
def Inv.kIn(I:Inv X pins σ H s):X.K.In s.heap:=I.ok.mod.kin.keeps I.bk
def Inv.lt(I:Inv X pins σ H s):X.env.locals<s.heap.objs.size:=let⟨_,a,_⟩:=I.loc;a.lt
def Inv.sz(I:Inv X pins σ H s):X.s9.heap.objs.size<=s.heap.objs.size:=aAk I.ok.above (aCd I.lt)
def Inv.ag5(I:Inv X pins σ H s)(h:s.heap.objs.size<=a):a∉X.fs:=λb=>by let{_,o,d,_}:=I.ok.funs.mem b;show kb (aAm (aAf d)<|aAk I.sz h) (aBg _)
def Inv.cne(I:Inv X pins σ H s):∀x c,X.env.cells.lookup x=some c->c≠X.env.locals:=λx c e z=>by
 let{v,o,a,b}:=I.cell x c e;let{m,{d,f,g,h,k,_},_}:=I.loc
 lia
def Inv.funs(I:Inv X pins σ H s):s.heap.FunFrames X.base X.outer:=by
 have all:∀(l:List Env),(∀b∈zU l,b∈X.fs)->X.s9.heap.FunFrames X.base l->s.heap.FunFrames X.base l:=by
  intro l;induction l with
  |nil=>intro _ _;trivial
  |cons h r k=>intro g m;let{n,{L,o,a,p,q,t},u}:=m;have d:=g L (by unfold zU;rw[aCB,a];show aBA);let{v,e}:=I.base.slot L o q (I.ok.frf L d) d λz=>I.ok.exfs L z d;show{n,{L,_,a,p,e,t},k (λb f=>g b (by unfold zU;rw[aCB,a];show aAe _ f)) u}
 show all X.outer (λ_ f=>f) I.ok.funs
def Inv.stack(I:Inv X pins σ H s):s.heap.FunFrames X.base X.stack:=by
 rcases I.ok.stk with e|⟨e,a⟩
 .rw[e];show I.funs
 rw[e];let{m,b,_}:=I.loc;show .cons (by rw[I.ok.kind];symm) a b (aEr<|aAk I.ok.bsz I.ok.above) I.funs
def Inv.ab5(I:Inv X pins σ H s):∀b∈zU X.stack,b∈X.env.locals::X.fs:=λb a=>by
 rcases I.ok.stk with e|⟨e,d⟩
 .rw[e]at a;show aAe _ a
 rw[e]at a;unfold zU at a;rw[aCB,d]at a;show a
def Inv.ad3(I:Inv X pins σ H s):∀b∈zU X.stack,H b=none:=λb a=>by
 rcases aAg.mp (I.ab5 b a)with e|a
 .rw[e];show I.free
 let{_,o,d,_}:=I.ok.funs.mem a;show I.base.free b o d (I.ok.frf b a) λz=>I.ok.exfs b z a
def Inv.step{g':Array GenState}{t':Nat}{d':Drawn}{ch:List bb}(I:Inv X pins σ H s)
  (J:∀b∈ch,(b∈X.ex\/X.s9.heap.objs.size<=b)/\b≠X.env.locals/\(∀x c,X.env.cells.lookup x=some c->c≠b)/\∀p∈X.pn++pins,p.1≠b)
  (g:∀b o,b≠X.env.locals->b∉X.fs->b∉ch->s.heap.get? b=some o->H b=none->h'.get? b=some o)
  (slot:∀b o,b≠X.env.locals->b∈X.fs->b∉ch->s.heap.get? b=some o->H b=none->∃sl,h'.get? b=some {o with slots:=sl}) (f:∀b o,b∉ch->s.heap.get? b=some o->H b=none->H' b=none)
  (A:∀b o,b∉ch->s.heap.get? b=some o->∃L,h'.get? b=some L)
  (N:∀b Y,H b=some (.tup Y)->H' b=some (.tup Y)) (O:∀b o u,H b=some (.frz o u)->H' b=some (.frz o u)) (Q:∀b tb,H b=some (.tbl tb)->H' b=some (.tbl tb))
  (ns:∀m,s.heap.Ns X.env.locals m->h'.Ns X.env.locals m) (U:fQ X.prog X.w H' h') (hg:AllBare g'):
  Inv X pins σ H' {s with heap:=h',gens:=g',drawn:=d',toks:=t'}:=by
 have T:∀b o,X.s9.heap.get? b=some o->b≠X.env.locals:=λb o e=>aAl (aAm (aAf e) I.ok.above);have y:∀b o,X.s9.heap.get? b=some o->b∉X.ex->b∉ch:=λb o e a B=>by
  rcases(J b B).1 with z|z
  .show a z
  show kb (aAm (aAf e) z) (aBg _)
 have h:∀x c,X.env.cells.lookup x=some c->∀v,s.heap.IsCell c v->h'.IsCell c v:=λx c e v ⟨o,E,hd⟩=>by
  have t:c∉ch:=λz=>(J c z).2.2.1 x c e rfl;by_cases hc:c∈X.fs
  .let{sl,q}:=slot c o (I.cne x c e) hc t E (I.freeC x c e);show{_,q,hd}
  show{o,g c o (I.cne x c e) hc t E (I.freeC x c e),hd}
 show{I.ok,I.os,hg,{λb o e n B a=>?_,λb o e n B a=>?_,λb o e n a=>?_,λb o e a=>?_,λb Y e=>N b Y (I.base.tups b Y e),λb o Y e=>O b o Y (I.base.frzs b o Y e),λb ps e=>?_},?_,λx c e=>?_,?_,λx c e=>?_,λp hp=>?_,U,I.len}
 .show g b o (T b o e) B (y b o e a) (I.base.keep b o e n B a) (I.base.free b o e n a)
 .let{sl,C}:=I.base.slot b o e n B a;let{sl',e2}:=slot b _ (T b o e) B (y b o e a) C (I.base.free b o e n a);show{sl',e2}
 .let{L,C}:=I.base.there b o e a;show f b L (y b o e a) C (I.base.free b o e n a)
 .let{L,C}:=I.base.there b o e a;show A b L (y b o e a) C
 .show Q b ps (I.base.tbls b ps e)
 .let{m,hn,hl}:=I.loc;show{m,ns m hn,λi x v C e2 e3=>?_};let{u,r,l}:=hl i x v C e2 e3;show{u,r,?_};rcases l with l|⟨k,c,e,z⟩
  .show .inl l
  show .inr {k,c,e,h x c e _ z}
 .let{v,z}:=I.cell x c e;show{v,h x c e v z}
 .let{m,{o,_,_,E,_},_}:=I.loc;show f _ o (λz=>(J _ z).2.1 rfl) E I.free
 .let{v,o,E,hd}:=I.cell x c e;show f c o (λz=>(J c z).2.2.1 x c e rfl) E (I.freeC x c e)
 let{e,n,ne,nf,d}:=I.pin p hp;have t:p.1∉ch:=λz=>(J p.1 z).2.2.2 p hp rfl;show{g p.1 p.2 ne nf t e n,f p.1 p.2 t e n,ne,nf,d}
def Inv.un{t':Nat}(I:Inv X pins σ H s)(u:Un X.fs [] H H' s.heap h')(a:fQ X.prog X.w H' h'):Inv X pins σ H' {s with heap:=h',toks:=t'}:=by
 let{m,{o,t,v,h,r},_}:=id I.loc;let{x,l}:=u.any h I.free (by simp);show I.step (g':=s.gens) (d':=s.drawn) (ch:=[]) (λ_ z=>nomatch z) (λb o _ d _ e n=>u.keep b o e n d (by simp)) (λb o _ d _ e n=>u.slot b o e n d (by simp)) (λb o _ e n=>u.free b o e n (by simp)) (λb o _ e=>u.there b o e (by simp)) u.tups u.frzs u.tbls (λy p=>by let{A,f,g,k,q}:=p;rw[h]at k;cases k;show{_,f,g,l,q}) a I.bare
def Inv.call{g':Array GenState}{t':Nat}{d':Drawn}{ch:List bb}(I:Inv X pins σ H s)(u:Un (zU X.stack) ch H H' s.heap h')(d:fQ X.prog X.w H' h')(t:AllBare g')
  (k:∀b∈ch,(b∈X.ex\/X.s9.heap.objs.size<=b)/\b≠X.env.locals/\(∀x c,X.env.cells.lookup x=some c->c≠b)/\∀p∈X.pn++pins,p.1≠b):
  Inv X pins σ H' {s with heap:=h',gens:=g',drawn:=d',toks:=t'}:=by
 let{m,{o,B,C,l,r},_}:=id I.loc;let{E,f}:=u.any l I.free λz=>(k _ z).2.1 rfl;show I.step k (λb o f v a e n=>u.keep b o e n (λz=>(aAg.mp<|I.ab5 b z).elim f v) a) (λb o _ _ a e n=>u.any e n a) (λb o a e n=>u.free b o e n a) (λb o a e=>u.there b o e a) u.tups u.frzs u.tbls (λJ y=>by let{L,g,h,q,A}:=y;rw[l]at q;cases q;show{_,g,h,f,A}) d t
def Inv.turned{t':Nat}{a:bb}(I:Inv X pins σ H s)(k:∀b o,b≠a->s.heap.get? b=some o->h'.get? b=some o)(h:H a=none)(g:a≠X.env.locals)
  (l:a∈X.ex\/X.s9.heap.objs.size<=a) (t:∀x c,X.env.cells.lookup x=some c->c≠a) (w:∀p∈X.pn++pins,p.1≠a):Inv X pins σ H {s with heap:=h',toks:=t'}:=by
 have f:∀b u,H b=some u->b≠a:=λb u e z=>by rw[z,h]at e;cases e
 show I.step (g':=s.gens) (d':=s.drawn) (ch:=[a]) (λb y=>?_) (λb o _ _ d e _=>k b o (λz=>d (by simp[z])) e) (λb o _ _ d e _=>{o.slots,k b o (λz=>d (by simp[z])) e}) (λ_ _ _ _ n=>n)
  (λb o d e=>{o,k b o (λz=>d (by simp[z])) e}) (λ_ _ e=>e) (λ_ _ _ e=>e) (λ_ _ e=>e) (λm A=>?_) (λb u e=>?_) I.bare
 .have e:b=a:=by exists y
  subst e;show{l,g,t,w}
 .let{o,B,C,E,r}:=A;show{o,B,C,k _ o (aCp g) E,r}
 show(I.hok b u e).ab7 (λc v d q=>k c v ?_ q) (λ_ q=>q) λ_ _ _ q=>q;rcases d with z|z
 .rw[z];show f b u e
 show f c _ z
def Inv.tok(I:Inv X pins σ H s)(t:Nat):Inv X pins σ H {s with toks:=t}:=I.un (h':=s.heap) (t':=t) Un.refl I.hok
def Inv.kept(I:Inv X pins σ H s)(k:∀b u,s.heap.get? b=some u->h'.get? b=some u):Inv X pins σ H {s with heap:=h',toks:=t'}:=I.un (Un.kept k) (I.hok.kept k)
def Inv.laid(I:Inv X pins σ H s)(k:∀b u,s.heap.get? b=some u->h'.get? b=some u)(d:s.heap.objs.size<=a)(e:ObjOk X.prog X.w (upd H a o) h' a o):
 Inv X pins σ (upd H a o) {s with heap:=h',toks:=t'}:=I.un (Un.laid k d<|I.hok.fresh d) (I.hok.laid k d e)
def Inv.write(I:Inv X pins σ H s)(f:Mut (H x))(g:e=x\/H e=some (.own x))(k:∀b u,b≠e->s.heap.get? b=some u->h'.get? b=some u)(a:∃u,h'.get? e=some u)(d:ObjOk X.prog X.w (upd H x o) h' x o):Inv X pins σ (upd H x o) {s with heap:=h',toks:=t'}:=I.un (Un.write f g k a) (I.hok.write f g k a d)
def Inv.ad4(I:Inv X pins σ H s)(h:∀p∈a,s.heap.get? p.1=some p.2/\H p.1=none/\p.1≠X.env.locals/\p.1∉X.fs/\∀v,p.2.data≠.cell v):Inv X a σ H s:=
 {I.ok,I.os,I.bare,I.base,I.loc,I.cell,I.free,I.freeC,λp b=>(aAV.mp b).elim (λz=>I.pin p (aBI _ z)) (h p),I.hok,I.len}
def AS{N:List Str}(d:N.Nodup){i j:Nat}{x:Str}(a:N[i]?=some x)(b:N[j]?=some x):i=j:=by let{g,e}:=aAn.mp a;let{h,f}:=aAn.mp b;show(List.getElem_inj d).mp (e.trans f.symm)
def tV{M:Model}{A:cp}{E:B4}{i:Nat}{x:Str}{v:V}{u:av}{Q:Unit->a9->Prop}(I:Inv X pins σ H s)(hN:X.N.Nodup)(T:X.N[i]?=some x)(t:Loc X.env.scope x)(r:RelV v u)
  (h:∀s',Inv X pins (σ.set i (some v)) H s'->(∃a,Heap.SameBut a s.heap s'.heap/\(a=X.env.locals\/X.env.cells.lookup x=some a))->Q () s') (hf:X.fn x=true\/X.env.scope.names.lookup x=some .local<|>7):bc M A (storeName X.env x u) Q E s:=by
 let{m,hn,hl}:=id I.loc;have U:(X.env.scope.kind==.class||(X.env.scope.kind==.module&&X.env.locals !=X.env.globals))=false:=by rw[I.ok.kind];rfl
 have J:i<σ.length:=by rw[I.len];show(aAn.mp T).1
 have cne:=I.cne;have g:∀{a:bb}{h':cy},(∃o,s.heap.get? a=some o/\H a=none)->Heap.SameBut a s.heap h'->fQ X.prog X.w H h':=λ{a h'} ha f b ob e=>by let{_,_,nu}:=ha;show(I.hok b ob e).ab7 (λc w' B q=>(f.2 c ?_).trans q) (λ_ q=>q) λ_ _ _ q=>q;grind
 rcases t with hk|hk
 .show wpAny_storeName_local hk hn (λh' hn' f=>?_) U;let{oL,_,_,hoL,_}:=id hn;show h _ {I.ok,I.os,I.bare,{λb o e n L t=>?_,λb o e n L t=>?_,I.base.free,λb o e t=>?_,I.base.tups,I.base.frzs,I.base.tbls},{_,hn',λj y v' l C e3=>?_},λy c e=>?_,I.free,I.freeC,λp hp=>?_,g {oL,hoL,I.free} f,by simpa using I.len} {_,f,.inl rfl}
  .show(f.2 b (aAl<|aAm (aAf e) I.ok.above)).trans (I.base.keep b o e n L t)
  .let{sl,l}:=I.base.slot b o e n L t;show{sl,(f.2 b (aAl<|aAm (aAf e) I.ok.above)).trans l}
  .let{o',l}:=I.base.there b o e t;show{o',(f.2 b (aAl<|aAm (aAf e) I.ok.above)).trans l}
  .by_cases O:j=i
   .subst O;rw[T]at l;cases l;rw[aBf J]at C;cases C;show{u,r,.inl {hk,by simp}}
   rw[aCP (aCp O)]at C;let{u',r',q}:=hl j y v' l C e3;show{u',r',?_};rcases q with⟨k,e⟩|⟨k,c,e,z⟩
   .show .inl {k,?_};have:y≠x:=λe=>O (AS hN l<|e▸T);simp[this,e]
   show .inr {k,c,e,z.sameBut f (cne y c e)}
  .let{w',z}:=I.cell y c e;show{w',z.sameBut f (cne y c e)}
  let{e,n,ne,nf,d}:=I.pin p hp;show{(f.2 p.1 ne).trans e,n,ne,nf,d}
 have xp:X.fn x=true:=by grind
 let{c,B}:=I.ok.has x (.inl hk);let{w',z}:=I.cell x c B;show wpAny_storeName_cell I.ok.kind hk B z (λh' xr f=>?_);let{oc,dg,hocd}:=id z;show h {s with heap:=h'} {I.ok,I.os,I.bare,{λb o e n L t=>?_,λb o e n L t=>?_,I.base.free,λb o e t=>?_,I.base.tups,I.base.frzs,I.base.tbls},{m,hn.sameBut f (aCp<|cne x c B),λj y v' l C e3=>?_},λy c' e=>?_,I.free,I.freeC,λp hp=>?_,g {oc,dg,I.freeC x c B} f,by simpa using I.len} {c,f,.inr B}
 .show(f.2 b (aAl<|aAm (aAf e)<|I.ok.cab x c xp B)).trans (I.base.keep b o e n L t)
 .let{sl,l}:=I.base.slot b o e n L t;show{sl,(f.2 b (aAl<|aAm (aAf e)<|I.ok.cab x c xp B)).trans l}
 .let{o',l}:=I.base.there b o e t;show{o',(f.2 b (aAl<|aAm (aAf e)<|I.ok.cab x c xp B)).trans l}
 .by_cases O:j=i
  .subst O;rw[T]at l;cases l;rw[aBf J]at C;cases C;show{u,r,.inr {.inl hk,c,B,xr}}
  rw[aCP (aCp O)]at C;let{u',r',q}:=hl j y v' l C e3;show{u',r',?_};rcases q with q|⟨k,c',e,z'⟩
  .show .inl q
  show .inr {k,c',e,z'.sameBut f ?_};rintro rfl;show O (AS hN l<|I.ok.inj _ _ _ e B▸T)
 .by_cases Y:c'=c
  .subst Y;show{_,xr}
  let{w2,z2}:=I.cell y c' e;show{w2,z2.sameBut f Y}
 let{e,n,ne,nf,d}:=I.pin p hp;show{(f.2 p.1 ?_).trans e,n,ne,nf,d};intro q;rw[q,dg]at e;grind
def Q9{E:B4}{Q:Unit->a9->Prop}(I:Inv X pins σ H s)(a:X.N.Nodup)(b:X.N[i]?=some x)(d:Loc X.env.scope x)(r:RelV v u)(h:∀s',Inv X pins (σ.set i (some v)) H s'->Q () s')(e:X.fn x=true\/X.env.scope.names.lookup x=some .local<|>7):bc M A (storeName X.env x u) Q E s:=
 tV I a b d r (λs' f _=>h s' f) e
def Inv.ag0(I:Inv X pins σ H s)(d:s'.os=s.os)(u:Un (zU X.stack) ch H H' s.heap s'.heap)(a:fQ X.prog X.w H' s'.heap)(e:AllBare s'.gens)(f:∀b∈ch,(b∈X.ex\/X.s9.heap.objs.size<=b)/\b≠X.env.locals/\(∀x c,X.env.cells.lookup x=some c->c≠b)/\∀p∈X.pn++pins,p.1≠b):Inv X pins σ H' s':=by let{h',g',d',t',g}:=s';subst d;show I.call (g':=g') (t':=t') (d':=d') u a e f
end
abbrev XK:=av->Option bb->Hp->Prop
abbrev St:=List (Option V)
abbrev VK:=V->Hp->Prop
abbrev TE:=St->Hp->VK->Prop
abbrev TT:=St->Hp->(Bool->Hp->Prop)->Prop
abbrev TA:=St->Hp->(List V->Hp->Prop)->Prop
structure Ends where
 nx:St->Hp->Prop
 rt:VK
 bk:St->Hp->Prop:=λ_ _=>False
 ct:St->Hp->Prop:=λ_ _=>False
abbrev TS:=Ends->St->Hp->Prop
def EP(X:Cx)(a:N7)(d:St)(Q:VK)(u:av)(s':a9):Prop:=∃v b,Inv X a d b s'/\RelV v u/\Q v b
def TP(X:Cx)(a:N7)(e:St)(Q:Bool->Hp->Prop)(b:Bool)(s':a9):Prop:=∃d,Inv X a e d s'/\Q b d
def AP(X:Cx)(a:N7)(e:St)(Q:List V->Hp->Prop)(f:List av)(s':a9):Prop:=∃b d,Inv X a e d s'/\m9 b f/\Q b d
def SP(X:Cx)(a:N7)(D:Ends)(f:Flow)(s':a9):Prop:=
 match f with
 |.next=>∃d b,Inv X a d b s'/\D.nx d b
 |.brk=>∃d b,Inv X a d b s'/\D.bk d b
 |.cont=>∃d b,Inv X a d b s'/\D.ct d b
 |.ret u=>∃v d b,Inv X a d b s'/\RelV v u/\D.rt v b
def PE(X:Cx)(e:cv)(t:TE):Prop:=
 ∀(a:N7) (s:a9) (b:St) (H:Hp) (Q:VK),Inv X a b H s->t b H Q->bc (be X.prog X.w) X.A (dC e X.env) (EP X a b Q) X.xe s
def PT(X:Cx)(e:cv)(t:TT):Prop:=
 ∀(a:N7) (s:a9) (b:St) (H:Hp) (Q:Bool->Hp->Prop),Inv X a b H s->t b H Q->bc (be X.prog X.w) X.A (isTrue e X.env<|dC e X.env) (TP X a b Q) X.xe s
def PW(X:Cx)(e:cv)(t:TT):Prop:=
 ∀(b:Sem av) (a:N7) (s:a9) (d:St) (H:Hp) (Q:Bool->Hp->Prop),Inv X a d H s->t d H Q->bc (be X.prog X.w) X.A (isTrue e X.env b) (TP X a d Q) X.xe s
def PW.pt(h:PW X e t):PT X e t:=h _
def PA(X:Cx)(es:List cv)(t:TA):Prop:=
 ∀(b:Pos) (a:N7) (s:a9) (d:St) (H:Hp) (Q:List V->Hp->Prop),Inv X a d H s->t d H Q->bc (be X.prog X.w) X.A (spliced<|dq b<|a5 es X.env) (AP X a d Q) X.xe s
def PS(X:Cx)(st:df)(t:TS):Prop:=
 ∀(a:N7) (s:a9) (b:St) (H:Hp) (D:Ends),Inv X a b H s->t D b H->bc (be X.prog X.w) X.A (exec st X.env) (SP X a D) X.xe s
def rB(X:Cx)(st:List df)(t:TS):Prop:=
 ∀(a:N7) (s:a9) (b:St) (H:Hp) (D:Ends),Inv X a b H s->t D b H->bc (be X.prog X.w) X.A (execs st X.env) (SP X a D) X.xe s
def D6{b:Type}{t:Sem b}{Q d:b->a9->Prop}{M:Model}{A:cp}{E:B4}{s:a9}(h:bc M A t Q E s)(e:∀a s,Q a s->d a s):bc M A t d E s:=aCx h e λ_ _ x=>x
section
variable{X:Cx}
def a0j(i:Nat):TE:=λa H Q=>∃v,a[i]?=some (some v)/\Q v H
def tC(v:V):TE:=λ_ H Q=>Q v H
def N5(k:X.N[i]?=some x)(n:xO X.env.scope x)(d:(x==lb)=false<|>2)(o:(x==lh)=false<|>2):PE X (.Name x p) (a0j i):=by
 intro b s q H Q I h;let{v,e,h}:=h;let{m,t,w}:=I.loc;let{u,r,l}:=w i x v k e n;have a:EP X b q Q u s:={v,H,I,r,h};rcases l with⟨hk,y⟩|⟨hk,c,f,g⟩
 .show wpAny_Name (wpAny_loadName_local I.ok.kind hk t y a) d
 rcases hk with hk|hk
 .show wpAny_Name (wpAny_loadName_cell I.ok.kind hk f g a) d
 show wpAny_Name (wpAny_loadName_free I.ok.kind hk f g a o) d
def my{i j a}:PE X (.Constant (.int i) j a) (tC (.int i)):=λ_ _ _ H _ I h=>wpAny_Constant_int {.int i,H,I.tok _,{_,rfl},h}
def tw{b j a}:PE X (.Constant (.bool b) j a) (tC (.bl b)):=λ_ _ _ H _ I h=>Constant_bool {.bl b,H,I,rfl,h}
def ZY{j a}:PE X (.Constant .none j a) (tC .non):=λ_ _ _ H _ I h=>Constant_none {.non,H,I,rfl,h}
def Gl(X:Cx)(x:Str):Prop:=X.env.kindOf x=some .globalImplicit
def wP{E:B4}{Q:B4}(I:Inv X a g H s)(b:Gl X x)(d:X.mg x=some u)(h:Q u s)(e:(x==lb)=false<|>2):bc (be X.prog X.w) X.A (dC (.Name x f) X.env) Q E s:=
 Calls.Name_function_global I.ok.kind b (Calls.loadGlobal_global (I.ok.glob▸I.mod.glob.keeps I.bk) d h) e
def K0{E:B4}{Q:B4}(I:Inv X a n H s)(b:Gl X x)(d:X.mg x=none)(e:dm x=some u)(h:Q u s)(f:x≠ "__name__"<|>2)(g:(x==lb)=false<|>2):bc (be X.prog X.w) X.A (dC (.Name x k) X.env) Q E s:=by let{o,l,m}:=I.mod.blt;show Calls.Name_function_global I.ok.kind b (Calls.loadGlobal_builtin (I.ok.glob▸I.mod.glob.keeps I.bk) d (I.ok.blt▸l.keeps I.bk) ((m x f).trans e) h) g
def UK(a:Gl X x)(b:X.mg x=some u)(r:RelV v u)(d:(x==lb)=false<|>2):PE X (.Name x e) (tC v):=
 λ_ _ _ H _ I h=>wP I a b {v,H,I,r,h} d
def TW(a:Gl X x)(b:X.mg x=none)(d:dm x=some u)(r:RelV v u)(e:x≠ "__name__"<|>2)(f:(x==lb)=false<|>2):PE X (.Name x g) (tC v):=
 λ_ _ _ H _ I h=>K0 I a b d {v,H,I,r,h} e f
variable{a b:cv}{ta tb:TE}{pos:Pos}
def tB(t:TE):TT:=λd H Q=>t d H λx e=>∃c,x=.bl c/\Q c e
def nq{e:cv}{t:TE}(h:PE X e t)(g:(∀whole,isTrue e X.env whole=(do let v<-whole;standAt e.pos;gn [v] (truthy v)))<|>6):PT X e (tB t):=by intro f s k H Q I l;show isTrue_plain (D6 (h f s k H _ I l) λv r ⟨x,m,n,o,p⟩=>?_) (g _);let{d,rfl,q}:=p;cases o;show aBD {m,n,q}
variable{tA tB':TT}{rest:List cv}
def a2x(t u:TT):TT:=λd H Q=>t d H λc e=>if c=true then u d e Q else Q false e
def tOr(t u:TT):TT:=λd H Q=>t d H λc e=>if c=true then Q true e else u d e Q
def a2v(t:TT):TT:=λd H Q=>t d H λc e=>Q (!c) e
def WP(f:PT X a tA):PW X (.BoolOp .And [a] pos) tA:=by
 intro k d s g H Q I h;show isTrue_and (D6 (f d s g H Q I h) λc l e=>?_);cases c with
 |true=>show isTrue_and_nil e
 |false=>show e
def YZ(f:PT X a tA):PW X (.BoolOp .Or [a] pos) tA:=by
 intro k d s g H Q I h;show isTrue_or (D6 (f d s g H Q I h) λc l e=>?_);cases c with
 |false=>show isTrue_or_nil e
 |true=>show e
def YM(l:PT X a tA)(m:PW X (.BoolOp .And (b::rest) pos) tB'):PW X (.BoolOp .And (a::b::rest) pos) (a2x tA tB'):=by
 intro n d s e H Q I h;show isTrue_and (D6 (l d s e H _ I h) λc o ⟨f,g,k⟩=>?_);cases c with
 |true=>show m n d o e f Q g k
 |false=>show{f,g,k}
def uq(l:PT X a tA)(m:PW X (.BoolOp .Or (b::rest) pos) tB'):PW X (.BoolOp .Or (a::b::rest) pos) (tOr tA tB'):=by
 intro n d s e H Q I h;show isTrue_or (D6 (l d s e H _ I h) λc o ⟨f,g,k⟩=>?_);cases c with
 |true=>show{f,g,k}
 |false=>show m n d o e f Q g k
def YS(e:PT X a tA):PT X (.UnaryOp .Not a pos) (a2v tA):=by intro d s f H Q I h;show isTrue_not (e d s f H (λc g=>Q (!c) g) I h)
def a0e(ta tb:TE):TE:=λd H Q=>ta d H λx e=>∃c,x=.bl c/\if c=true then tb d e Q else Q (.bl false) e
def YQ{op}(h:PE X a t):PE X (.BoolOp op [a] pos) t:=λd s e H Q I f=>BoolOp_one (h d s e H Q I f)
def cj(l:PE X a ta)(m:PE X (.BoolOp .And (b::rest) pos) tb):PE X (.BoolOp .And (a::b::rest) pos) (a0e ta tb):=by
 intro d s f H Q I h;show BoolOp_and (D6 (l d s f H _ I h) λv n ⟨x,g,k,o,e⟩=>?_);let{c,rfl,e}:=e;cases o;show aBD ?_;cases c with
 |true=>show m d n f g Q k e
 |false=>show{.bl false,g,k,rfl,e}
end
def aF(K:km)(H:Hp)(a:bb)(Y:List V):Prop:=
 Rd H a (.lst Y)\/
  ∃(o:Obj) (b:Array av) (n:Nat),K.lookup a=some o/\o.cls=.type "list"/\o.dict=none/\o.data=.seq b n/\b.size<=sizeLine/\m9 Y b.toList
def R4(K:km)(H:Hp)(a:bb)(Y:List V):Prop:=
 Rd H a (.tup Y)\/
  ∃(o:Obj) (b:Array av) (n:Nat),K.lookup a=some o/\o.cls=.type "tuple"/\o.data=.seq b n/\b.size<=sizeLine/\m9 Y b.toList
def a2g:av->Option V
 |.none=>some .non
 |.bool b=>some (.bl b)
 |.int i _=>some (.int i)
 |.str x _=>some (.str x)
 |.bytes b _=>some (.byt b)
 |.float b _=>some (.flt b)
 |.ref a=>some (.ref a)
 |.type n=>some (.ty n)
 |_=>none
def RelV.abs(r:RelV x u):a2g u=some x:=by
 cases x with
 |non=>cases r;rfl
 |bl _=>cases r;rfl
 |int _=>let{t,rfl}:=r;rfl
 |str _=>let{t,rfl}:=r;rfl
 |byt _=>let{t,rfl}:=r;rfl
 |flt _=>let{t,rfl}:=r;rfl
 |ref _=>cases r;rfl
 |ty _=>cases r;rfl
def RelV.inj{x y:V}{u:av}(r:RelV x u)(q:RelV y u):x=y:=aAq (r.abs.symm.trans q.abs)
theorem m9.inj:∀{Y a:List V}{b:List av},m9 Y b->m9 a b->Y=a:=by
 intro _ _ _ e d;cases e with
 |nil=>
  cases d with
  |nil=>rfl
 |cons r t=>
  cases d with
  |cons f g=>rw[r.inj f,m9.inj t g]
section
variable{X:Cx}{pins:N7}{σ:St}{H:Hp}{s:a9}{a:bb}{Y ys:List V}
def aF.of{K:km}(h:H a=some (.lst Y)):aF K H a Y:=.inl (.inl h)
def R4.of{K:km}(h:H a=some (.tup Y)):R4 K H a Y:=.inl (.inl h)
def Inv.list(I:Inv X pins σ H s)(h:aF X.K H a Y):∃its:List av,m9 Y its/\PlainL s.heap a its.toArray/\Y.length<=sizeLine:=by
 rcases h with h|⟨o,its,n,b,d,f,g,k,r⟩
 .let{z,its,n,r,e}:=h.ok I.hok;show{its,r,{_,n,e,rfl,rfl,rfl},z}
 show{its.toList,r,{o,n,I.kIn a o b,d,f,by simpa using g},?_};have e:=r.length;erw[aBn]at e
 lia
def Inv.tuple(I:Inv X pins σ H s)(h:R4 X.K H a Y):∃its:List av,m9 Y its/\IsTup s.heap a its.toArray/\Y.length<=sizeLine:=by
 rcases h with h|⟨o,its,n,b,d,f,g,r⟩
 .let{z,its,r,p}:=h.ok I.hok;show{its,r,p,z}
 show{its.toList,r,{o,I.kIn a o b,d,n,by simpa using f},?_};have e:=r.length;grind
def Inv.ab2(I:Inv X pins σ H s)(h:aF X.K H a Y)(h':aF X.K H a ys):Y=ys:=by
 let{f,r,{o,n,e,_,_,d},_}:=I.list h;let{b,l,{p,q,g,_,_,k},_}:=I.list h';rw[e]at g;cases g;rw[d]at k;injection k with m _;have:f=b:=by exists ka aGj m
 subst this;show r.inj l
def Inv.ab4(I:Inv X pins σ H s)(h:R4 X.K H a Y)(h':R4 X.K H a ys):Y=ys:=by
 let{f,r,{o,e,_,n,d},_}:=I.tuple h;let{b,l,{m,g,_,p,k},_}:=I.tuple h';rw[e]at g;cases g;rw[d]at k;injection k with q _;have:f=b:=by grind
 subst this;show r.inj l
end
abbrev Cx.ac2(X:Cx)(E:B4):Cx:={X with xe:=E}
abbrev Cx.nox(X:Cx):Cx:=X.ac2 λ_ _=>False
def Cx.Ok.ac2{X:Cx}(ok:X.Ok)(E:B4):(X.ac2 E).Ok:=
 {ok.mod,ok.kind,ok.glob,ok.blt,ok.above,ok.inj,ok.has,ok.cab,ok.hd,ok.frames,ok.stk,ok.exf,ok.bs,ok.bsz,ok.noex,ok.exfs,ok.funs,ok.frf}
def Cx.Ok.aa8{X:Cx}{E:B4}(ok:(X.ac2 E).Ok):X.Ok:=
 {ok.mod,ok.kind,ok.glob,ok.blt,ok.above,ok.inj,ok.has,ok.cab,ok.hd,ok.frames,ok.stk,ok.exf,ok.bs,ok.bsz,ok.noex,ok.exfs,ok.funs,ok.frf}
section
variable{X:Cx}{pins:N7}{σ:St}{H:Hp}{s:a9}{E:B4}
def Inv.ac2(I:Inv X pins σ H s)(E:B4):Inv (X.ac2 E) pins σ H s:={I.ok.ac2 E,I.os,I.bare,I.base,I.loc,I.cell,I.free,I.freeC,I.pin,I.hok,I.len}
def Inv.aa8(I:Inv (X.ac2 E) pins σ H s):Inv X pins σ H s:={I.ok.aa8,I.os,I.bare,I.base,I.loc,I.cell,I.free,I.freeC,I.pin,I.hok,I.len}
def SP.aa8(h:SP (X.ac2 E) pins D f s'):SP X pins D f s':=by
 cases f with
 |next=>let{a,b,I,q}:=h;show{a,b,I.aa8,q}
 |brk=>let{a,b,I,q}:=h;show{a,b,I.aa8,q}
 |cont=>let{a,b,I,q}:=h;show{a,b,I.aa8,q}
 |ret u=>let{v,a,b,I,r,q}:=h;show{v,a,b,I.aa8,r,q}
def rB.nox{st:List df}{t:TS}(h:rB X.nox st t):rB X st t:=λpins s σ H D I a=>aCx (h pins s σ H D (I.ac2 _) a) (λ_ _ q=>q.aa8) λ_ _ z=>aAA z
end
section
variable{X:Cx}{st:df}{rest:List df}{t u:TS}{e:cv}{te:TE}{pos:Pos}
def zq:TS:=λD a H=>D.nx a H
def a1v(t u:TS):TS:=λD a H=>t {D with nx:=u D} a H
def UO:rB X [] zq:=λ_ _ a H _ I h=>aEx {a,H,I,h}
def iW(b:PS X st t)(d:rB X rest u):rB X (st::rest) (a1v t u):=by
 intro a s g H D I h;show aEn (D6 (b a s g H {D with nx:=u D} I h) λf k q=>?_);cases f with
 |next=>let{l,m,n,q}:=q;show d a k l m D n q
 |ret v=>show q
 |brk=>show q
 |cont=>show q
def nT(b:PS X st t):rB X [st] t:=by
 intro a s d H D I h;show aEn (D6 (b a s d H D I h) λf g q=>?_);cases f with
 |next=>show aEx q
 |ret v=>show q
 |brk=>show q
 |cont=>show q
def Inv.quiet(I:Inv X a b H s):interactive X.env=false:=by simp[interactive,I.ok.kind]
def vz(te:TE):TS:=λD a H=>te a H λ_ b=>D.nx a b
def jI(d:PE X e te)(f:fg e none pos.line X.env=pure false<|>1):PS X (.Expr e pos) (vz te):=by intro a s b H D I h;show wpAny_Expr_any (D6 (d a s b H _ I h) λv m ⟨x,g,k,n,l⟩=>{b,g,k,l}) I.quiet f
def a3l(te:TE):TS:=λD a H=>te a H D.rt
def NU(d:PE X e te):PS X (.Return (some e) pos) (a3l te):=by intro a s b H D I h;show wpAny_Return_some (D6 (d a s b H _ I h) λv m ⟨x,f,g,k,l⟩=>{x,b,f,g,k,l})
def a3s(c:TT)(t u:TS):TS:=λD a H=>c a H λb d=>if b=true then t D a d else u D a d
def a0m{c:cv}{a b:List df}{k:TT}(p:PT X c k)(q:rB X a t)(r:rB X b u):PS X (.If c a b pos) (a3s k t u):=by
 intro f s g H D I h;show wpAny_If (D6 (p f s g H _ I h) λd l ⟨m,n,o⟩=>?_);cases d with
 |true=>show q f l g m D n o
 |false=>show r f l g m D n o
def YU:TS:=λ_ _ _=>False
def NW:PS X st YU:=λ_ _ _ _ _ _ h=>h.elim
end
abbrev TG:=V->St->Hp->(St->Hp->Prop)->Prop
abbrev ZV:=List V->St->Hp->(St->Hp->Prop)->Prop
def PG(X:Cx)(a:cv)(t:TG):Prop:=
 ∀(b:N7) (s:a9) (d:St) (H:Hp) (v:V) (u:av) (Q:St->Hp->Prop),Inv X b d H s->RelV v u->t v d H Q->
  bc (be X.prog X.w) X.A (ja a X.env u) (λ_ g=>∃e f,Inv X b e f g/\Q e f) X.xe s
def qy(X:Cx)(h:List cv)(t:ZV):Prop:=
 ∀(a:N7) (s:a9) (b:St) (H:Hp) (d:List V) (e:List av) (Q:St->Hp->Prop),Inv X a b H s->m9 d e->t d b H Q->
  bc (be X.prog X.w) X.A (assignInOrder ((d9 h X.env).map (·.2)) e) (λ_ k=>∃f g,Inv X a f g k/\Q f g) X.xe s
abbrev WJ:=V->V->V->Hp->(Hp->Prop)->Prop
def ZF(X:Cx)(t:WJ):Prop:=
 ∀(a:N7) (s:a9) (b:St) (H:Hp) (o i v:V) (d e u:av) (Q:Hp->Prop),Inv X a b H s->RelV o d->RelV i e->RelV v u->t o i v H Q->
  bc (be X.prog X.w) X.A (setItem d e u) (λ_ g=>∃f,Inv X a b f g/\Q f) X.xe s
section
variable{X:Cx}{pos:Pos}
def YE(i:Nat):TG:=λv a H Q=>Q (a.set i<|some v) H
def TQ(b:X.N.Nodup)(d:X.N[i]?=some x)(e:Loc X.env.scope x)(f:X.fn x=true\/X.env.scope.names.lookup x=some .local<|>7):PG X (.Name x pos) (YE i):=by intro a s k H v u Q I r h;show wpAny_assign_Name (Q9 I b d e r (λl g=>{_,H,g,h}) f)
def a3p:ZV:=λa b H Q=>a=[]/\Q b H
def tx(t:TG)(u:ZV):ZV:=λa b H Q=>∃v r,a=v::r/\t v b H λd e=>u r d e Q
def TD:qy X [] a3p:=by intro a s b H d f Q I r h;let{e,h}:=h;subst e;show assignInOrder_nil {b,H,I,h}
def PJ{e:cv}{es:List cv}{t:TG}{u:ZV}(d:PG X e t)(f:qy X es u)
  (g:(d9 (e::es) X.env).map (·.2)=ja e X.env::(d9 es X.env).map (·.2)<|>1):qy X (e::es) (tx t u):=by
 intro a s k H w x Q I r h;let{v,y,l,h}:=h;subst l;cases r with
 |cons r m=>rw[g];show aEO (D6 (d a s k H _ _ _ I r h) λ_ n ⟨b,o,p,q⟩=>?_);show f a n b o _ _ Q p m q
def a2k(b ti:TE)(t:WJ):TG:=λv a H Q=>b a H λo d=>ti a d λi e=>t o i v e λf=>Q a f
def QY{o i:cv}{f ti:TE}{t:WJ}(g:PE X o f)(k:PE X i ti)(l:ZF X t)
  (O:(∀v,ja (.Subscript o i pos) X.env v=(do
   let b<-gn [v] (dC o X.env)
   let d<-gn [v,b] (dC i X.env)
   standAt pos
   gn [v,b,d] (setItem b d v)
   release [v,b,d] []))<|>6):PG X (.Subscript o i pos) (a2k f ti t):=by
 intro a s e H v u Q I r h;show aAa (aAJ<|D6 (g a s e H _ I h) λb m ⟨x,n,p,q,w⟩=>?_);show aAa (aAJ<|D6 (k a m e n _ p w) λd z ⟨y,A,B,C,E⟩=>?_);show aAa (aEt<|aAa<|aAJ<|D6 (l a z e A x y v b d u _ B q C r E) λ_ T ⟨J,L,N⟩=>?_);show wpAny_release {e,J,L,N}
def a0c(b:TE)(g:TG):TS:=λD a H=>b a H λx d=>g x a d D.nx
def EK{b e:cv}{d:TE}{g:TG}(k:PE X e d)(l:PG X b g)(m:gs [b] e pos.line X.env=pure false<|>1)(n:gW [b] e X.env=pure none<|>1)
  (o:(d9 [b] X.env).map (·.2)=[ja b X.env]<|>1):PS X (.Assign [b] e pos) (a0c d g):=by
 intro a s f H D I h;show wpAny_Assign_stores (D6 (k a s f H _ I h) λv p ⟨x,r,t,u,w⟩=>?_) m n;rw[o];show D6 (l a p f r x v _ t u w) λ_ y q=>q
def RV{i:Nat}{x:Str}{e:cv}{d:TE}{a:Pos}(f:X.N.Nodup)(g:X.N[i]?=some x)(k:Loc X.env.scope x)(l:PE X e d)(m:fg e (some (.Name x a)) pos.line X.env=pure false<|>1)(n:X.fn x=true\/X.env.scope.names.lookup x=some .local<|>7):
  PS X (.Assign [.Name x a] e pos) (a0c d (YE i)):=by
 intro b s o H D I h;show aFb (D6 (l b s o H _ I h) λv w ⟨y,p,q,r,t⟩=>(Q9 q f g k r (λz u=>{_,p,u,t}) n)) m
def a1x(i j:Nat)(b:TA):TS:=λD a H=>b a H λd e=>∃v w,d=[v,w]/\D.nx ((a.set i<|some v).set j (some w)) e
def ay{i j:Nat}{x y:Str}{a b:cv}{A:TA}{l m pt:Pos}{n r SN}(Q:X.calm=true)(B:X.N.Nodup)(T:X.N[i]?=some x)(U:X.N[j]?=some y)(Y:i≠j)
  (C:X.env.scope.names.lookup x=some .local) (E:X.env.scope.names.lookup y=some .local) (ha:PA X [a,b] A)
  (hw:gW [.Tuple [.Name x l,.Name y m] n pt] (.Tuple [a,b] r SN) X.env=pure (some [x,y]))
  (hs:gs [.Tuple [.Name x l,.Name y m] n pt] (.Tuple [a,b] r SN) pos.line X.env=pure false<|>1):
  PS X (.Assign [.Tuple [.Name x l,.Name y m] n pt] (.Tuple [a,b] r SN) pos) (a1x i j A):=by
 intro d s J H D I h;rw[exec_Assign_arm];show aAa (aEt ?_);rw[hs];show aAa (aAb ?_);rw[jl (by symm)];show aAa (Tuple_<|D6 (ha _ d s J H _ I h) λus f ⟨vs,L,I1,r1,t⟩=>?_);let{v,w,e1,t}:=t;subst e1;obtain⟨g,k,rfl,rv,u⟩:∃g k,us=[g,k]/\RelV v g/\RelV w k:=by
  cases r1 with
  |cons p q=>
   cases q with
   |cons p' q'=>cases q';show{_,_,rfl,p,p'}
 show aAQ ?_ (by change 2<=sizeLine;symm);have I2:Inv X d J L {f with heap:=f.heap.push {cls:=.type "tuple",data:=.seq [g,k].toArray}}:=I1.kept (t':=f.toks) λb o e=>aAc _ e;rw[hw];show aAa (aAb ?_);show aAa (aDu<|aAa<|unpackItems_tuple (items:=#[g,k]) (I.ok.hd Q) (IsTup.new f.heap _) λh' z=>?_);show aAa (aEO<|wpAny_bindName<|Q9 (I2.kept (h':=h') (t':=f.toks) λb o e=>z b o (aAl<|aAf e) e) B U (.inl E) u (λs2 I4=>(aEO<|wpAny_bindName<|Q9 I4 B T (.inl C) rv (λs3 O=>assignInOrder_nil (aAb ?_))<|.inr C))<|.inr E);rw[List.set_comm _ _ (aCp Y)]at O;show{_,L,O,t}
end
section
variable{X:Cx}{pos:Pos}
def mj(c:TT)(tb:TS):TS:=λD a H=>∃W:Nat->St->Hp->Prop,(∃m,W m a H)/\∀m a H,W m a H->
 c a H λb d=>if b=true then∃N:St->Hp->Prop,(∀e f,N e f->∃g,g<m/\W g e f)/\tb {D with nx:=N,ct:=N,bk:=D.nx} a d else D.nx a d
def SB{c:cv}{body:List df}{t:TT}{tb:TS}(u:PassesOwn (be X.prog X.w) X.A X.env X.xe)(J:PT X c t)(L:rB X body tb):PS X (.While c body [] pos) (mj t tb):=by
 intro a s O H D I h;let{W,{Q,T},turn}:=h;show wpAny_While (codeAny_whileLoop (λn U=>∃x y,Inv X a x y U/\W n x y) ?_ Q {O,H,I,T});rintro n Y ⟨d,z,I1,w1⟩;show aCS u (D6 (J a Y d z _ I1<|turn n d z w1) λb s2 ⟨B,C,k⟩=>?_);cases b with
 |true=>
  let{N,E,k}:=k;rw[jk rfl];show aCS u (D6 (L a s2 d B _ C k) λf s3 l=>?_);cases f with
  |next=>let{e,g,m,o}:=l;let{p,q,r}:=E e g o;show{p,q,e,g,m,r}
  |cont=>let{e,g,m,o}:=l;let{p,q,r}:=E e g o;show{p,q,e,g,m,r}
  |brk=>show l
  |ret v=>show l
 |false=>rw[jl aBB];show aEx {d,B,C,k}
end
structure It where
 go:Nat->Hp->Prop
 yld:Nat->Hp->V->Hp->Prop
 stop:Nat->Hp->Prop
def nB(X:Cx)(pins:N7)(H:Hp)(b:bb):Prop:=
 H b=none/\b≠X.env.locals/\b∉X.fs/\(b∈X.ex\/X.s9.heap.objs.size<=b)/\(∀x c,X.env.cells.lookup x=some c->c≠b)/\∀p∈X.pn++pins,p.1≠b
def Inv.ae9(I:Inv X a h H s)(d:s.heap.objs.size<=b)(f:H' b=none):nB X a H' b:=by
 show{f,aCG (aAm I.lt d),I.ag5 d,.inr (aAk I.sz d),λx c e z=>?_,λp g z=>?_}
 .let{v,q}:=I.cell x c e;show kb (aAm q.lt (by lia)) (aBg _)
 show kb (aAm (aAf (I.pin p g).1)<|z▸d) (aBg _)
structure Turn(P:Program)(w:World)(K:PySem.W.Frag)(tg:Expr)(J:It)(fp:List Addr)(it:Addr)(tn:Nat->Heap->Prop):Prop where
 mem:it∈fp
 obj:∀i h,tn i h->∀b∈fp,∃o,h.get? b=some o/\∀v,o.data≠.cell v
 keep:∀i h h',tn i h->(∀b∈fp,∀o,h.get? b=some o->h'.get? b=some o)->tn i h'
 item:∀(X:Cx),X.prog=P->X.w=w->X.K=K->X.calm=true->∀(i:Nat) (pins:N7) (s:Shared) (σ:St) (H:Hp) (E:B4),Inv X pins σ H s->(∀b∈fp,nB X pins H b)->tn i s.heap->J.go i H->
  wpAny (model P w) X.A (pyNext (.ref it)) (λr s1=>∃u,r=some u/\
   wpAny (model P w) X.A (letOwnedTupleGo tg (.ref it) u) (λ_ s2=>∃x H',Inv X pins σ H' s2/\RelV x u/\J.yld i H x H'/\tn (i+1) s2.heap/\∀b∈fp,H' b=none) E s1) E s
 done:∀(X:Cx),X.prog=P->X.w=w->X.K=K->X.calm=true->∀(i:Nat) (pins:N7) (s:Shared) (σ:St) (H:Hp) (E:B4),Inv X pins σ H s->(∀b∈fp,nB X pins H b)->tn i s.heap->J.stop i H->
  wpAny (model P w) X.A (pyNext (.ref it)) (λr s1=>r=none/\Inv X pins σ H s1) E s
 self:∀(A:Around) (i:Nat) (s:Shared) (Q:B4) (E:B4),tn i s.heap->Q (.ref it) s->wpAny (model P w) A (pyIter (.ref it)) Q E s
abbrev TI:=St->Hp->(It->Hp->Prop)->Prop
def PIE(X:Cx)(a:N7)(l:St)(m:cv)(R:It->Hp->Prop)(d:av)(f:a9):Prop:=
 ∃(g:bb) (h:List bb) (k:Nat->cy->Prop) (J:It) (e:Hp),d=.ref g/\Inv X a l e f/\Turn X.prog X.w X.K m J h g k/\k 0 f.heap/\(∀b∈h,nB X a e b)/\R J e
def PI(X:Cx)(d iter:cv)(e:TI):Prop:=
 ∀(a:N7) (s:a9) (b:St) (H:Hp) (R:It->Hp->Prop),Inv X a b H s->e b H R->
  bc (be X.prog X.w) X.A (dC iter X.env) (λv f=>bc (be X.prog X.w) X.A (pyIter v) (PIE X a b d R) X.xe f) X.xe s
def QJ{E : av → a9 → Prop}{Q : Unit → a9 → Prop} (b : s.heap.get? d = some o) (e : o.cls = .type n) (f : o.data = .fields vs) (h : ["enumerate", "zip", "dict_itemiterator", "dict_reverseitemiterator", "odict_iterator", "itertools.zip_longest", "itertools.pairwise"].contains n = false) (a : Q () s) : bc M A (letOwnedTupleGo g (.ref d) u) Q E s := by
  cases g <;> first
    | show aAb a
    | (cases u <;> first
        | show aAb a
        | (show aAa (wpAny_load b ?_)
           rw [e, f];change bc M A (if (["enumerate", "zip", "dict_itemiterator", "dict_reverseitemiterator", "odict_iterator", "itertools.zip_longest", "itertools.pairwise"].contains n && vs[0]? == some (et _)) = true then _ else _) Q E s;rw [jl (by lia)];show aAb a))
def Itl(K:km)(a:bb):It:=
 {λi H=>∃Y x,aF K H a Y/\Y[i]?=some x,λi H x b=>b=H/\∀Y,aF K H a Y->Y[i]?=some x,λi H=>∃Y,aF K H a Y/\Y.length<=i}
def Itt(K:km)(a:bb):It:=
 {λi H=>∃Y x,R4 K H a Y/\Y[i]?=some x,λi H x b=>b=H/\∀Y,R4 K H a Y->Y[i]?=some x,λi H=>∃Y,R4 K H a Y/\Y.length<=i}
def HS{P:bo}{w:cq}{K:km}{tg:cv}(a g:bb):Turn P w K tg (Itl K a) [g] g (λi h=>h.IsListIter g a i)where
 mem:=by simp
 obj:=λi h st b l=>by
  have e:b=g:=by exists l
  subst e;let{o,e,c,d}:=st;grind
 keep:=λi h r st k=>st.at λo e=>k g (by simp) o e
 item:=by intro X t v y T i f s U H E I n st z;subst t v y;let{Y,x,q,A}:=z;let{B,C,p,hz}:=I.list q;let{u,hu,ru}:=C.get A;let{J,L,f2,N,O,Q}:=n g (by simp);show wpAny_pyNext_list_item st p.isList (by exists hu) λr m sb=>?_;have I1:Inv X f U H {s with heap:=r}:=I.turned (t':=s.toks) (λb o l e=>(sb.2 b l).trans e) J L N O Q;let{o,e,c,d}:=id m;show{u,rfl,QJ e c d (by symm) {x,H,I1,ru,{rfl,λys hy=>by rw[I.ab2 hy q];show A},m,λb l=>(n b l).1}}
 done:=by intro X t v y T i f s U H E I n st z;subst t v y;let{Y,q,A}:=z;let{B,C,p,hz}:=I.list q;let{J,L,f2,N,O,Q}:=n g (by simp);have hl:=C.length;show wpAny_pyNext_list_end (I.ok.hd T) st p.isList (by simp;lia) λr eb=>{rfl,I.turned (t':=s.toks) (λb o l e=>eb b o l e) J L N O Q}
 self:=λ_ _ _ _ _ st h=>wpAny_pyIter_listiter st h
def EG{P:bo}{w:cq}{K:km}{tg:cv}(a g:bb):Turn P w K tg (Itt K a) [g] g (λi h=>h.IsTupleIter g a i)where
 mem:=by simp
 obj:=λi h st b l=>by
  have e:b=g:=by exists l
  subst e;let{o,e,c,d}:=st;grind
 keep:=λi h n st k=>st.at λo e=>k g (by simp) o e
 item:=by intro X t v y T i f s U H E I q st z;subst t v y;let{Y,x,r,A}:=z;let{B,C,p,hz}:=I.tuple r;let{u,hu,ru}:=C.get A;let{J,L,f2,N,O,Q}:=q g (by simp);show wpAny_pyNext_tuple_item st (p) (x:=u) (by exists hu) λn m sb=>?_;have I1:Inv X f U H {s with heap:=n}:=I.turned (t':=s.toks) (λb o l e=>(sb.2 b l).trans e) J L N O Q;let{o,e,c,d}:=id m;show{u,rfl,QJ (s:={s with heap:=n}) e c d (by symm) {x,H,I1,ru,{rfl,λys hy=>by rw[I.ab4 hy r];show A},m,λb l=>(q b l).1}}
 done:=by intro X t v y T i f s U H E I q st z;subst t v y;let{Y,r,A}:=z;let{B,C,p,hz}:=I.tuple r;let{J,L,f2,N,O,Q}:=q g (by simp);have hl:=C.length;show wpAny_pyNext_tuple_end (I.ok.hd T) st (p) (by simp;lia) λn eb=>{rfl,I.turned (t':=s.toks) (λb o l e=>eb b o l e) J L N O Q}
 self:=λ_ _ _ _ _ st h=>wpAny_pyIter_tupleiter st h
section
variable{X:Cx}{tg:cv}
def a0d(K:km)(d:TE):TI:=λe H R=>d e H λx b=>∃a,x=.ref a/\(∃Y,aF K b a Y)/\R (Itl K a) b
def a3m(K:km)(d:TE):TI:=λe H R=>d e H λx b=>∃a,x=.ref a/\(∃Y,R4 K b a Y)/\R (Itt K a) b
def UM(k:PE X l m):PI X tg l (a0d X.K m):=by
 intro d s n H R I h;show D6 (k d s n H _ I h) λv f ⟨x,r,g,t,u⟩=>?_;let{a,e,{Y,w},q}:=u;subst e;cases t;let{y,A,p,B}:=g.list w;show aDv p.isList ({f.heap.objs.size,[f.heap.objs.size],_,_,r,rfl,g.kept (t':=f.toks) λb o e=>aAc _ e,HS a _,{_,aAp _ rfl,rfl,rfl},λb z=>?_,q});have e:b=f.heap.objs.size:=by exists z
 subst e;show g.ae9 (aAj _) (g.hok.fresh<|aAj _)
def pj{l:cv}{k:TE}(m:PE X l k):PI X tg l (a3m X.K k):=by
 intro d s n H R I h;show D6 (m d s n H _ I h) λv f ⟨x,r,g,t,u⟩=>?_;let{a,e,{Y,w},q}:=u;subst e;cases t;let{y,z,p,A}:=g.tuple w;show wpAny_pyIter_tuple (p) ({f.heap.objs.size,[f.heap.objs.size],_,_,r,rfl,g.kept (t':=f.toks) λb o e=>aAc _ e,EG a _,{_,aAp _ rfl,rfl,rfl},λb B=>?_,q});have e:b=f.heap.objs.size:=by grind
 subst e;show g.ae9 (aAj _) (g.hok.fresh<|aAj _)
def a3c(f:TI)(g:TG)(tb:TS):TS:=λD a H=>f a H λJ h=>∃W:Nat->Nat->St->Hp->Prop,(∃m,W 0 m a h)/\∀i m a H,W i m a H->
 (J.stop i H/\D.nx a H)\/(J.go i H/\∃N:St->Hp->Prop,(∀d b,N d b->∃e,e<m/\W (i+1) e d b)/\∀x b,J.yld i H x b->g x a b λk l=>tb {D with nx:=N,ct:=N,bk:=D.nx} k l)
def qO(a:List bb)(h:cy):List (bb×Obj):=a.filterMap λb=>(h.get? b).map λo=>(b,o)
def bB(a:b∈d)(e:h.get? b=some o):(b,o)∈qO d h:=aBS.mpr {b,a,by rw[e];rfl}
def HY(a:p∈qO d h):p.1∈d/\h.get? p.1=some p.2:=by
 let{b,f,e}:=aBS.mp a;cases q:h.get? b with
 |none=>rw[q]at e;cases e
 |some o=>grind
def Inv.pinned(I:Inv X a k H s)(l:∀b∈f,nB X a H b)(m:∀b∈f,∃o,s.heap.get? b=some o/\∀v,o.data≠.cell v):Inv X (a++qO f s.heap) k H s:=
 I.ad4 λp n=>(aAV.mp n).elim (λz=>I.pin p (aAE _ z)) λz=>by let{g,e}:=HY z;let{q,r,t,_}:=l p.1 g;let{o,h,d}:=m p.1 g;rw[e]at h;cases h;show{e,q,r,t,d}
def Inv.ab3(I:Inv X (a++e) b H s):Inv X a b H s:=I.ad4 λp d=>I.pin p (aAE _<|aBI _ d)
def RX(C:PassesOwn (be X.prog X.w) X.A X.env X.xe)(hc:X.calm=true)(hi:PI X tg iter wi)(hg:PG X tg g)(k:rB X body tb)(hs:(∀x,eQ iter X.env x=pure x)<|>6):PS X (.For tg iter body [] pos) (a3c wi g tb):=by
 intro a s σ H D I h;show wpAny_For (D6 (hi a s σ H _ I h) λv s1 h1=>D6 h1 λitv s2 h2=>?_) hs;let{it,E,tn,J,H2,e,I2,T,kn,f2,W,{m0,w0},turn}:=h2;subst e;have l:∀{y:Hp},(∀b∈E,y b=none)->∀b∈E,nB X a y b:=λhn b k=>{hn b k,(f2 b k).2};show codeAny_forLoop_any (λn s'=>∃i L y,Inv X a L y s'/\tn i s'.heap/\(∀b∈E,y b=none)/\W i n L y) ?_ m0 {0,σ,H2,I2,kn,λb k=>(f2 b k).1,w0};rintro n s3 ⟨i,O,Y,I3,zr,Q,w3⟩;rcases turn i n O Y w3 with⟨stop,qn⟩|⟨go,N,hN,step⟩
 .show aCS C (D6 (T.done X rfl rfl rfl hc i a s3 O Y X.xe I3 (l Q) zr stop) λr s4 ⟨hr,I4⟩=>?_);subst hr;show aEx {O,Y,I4,qn}
 show aCS C (D6 (T.item X rfl rfl rfl hc i a s3 O Y X.xe I3 (l Q) zr go) λr s4 ⟨u,hr,h4⟩=>?_);subst hr;show aCS C (D6 h4 λ_ s5 ⟨x,H5,I5,r5,y5,B,fr5⟩=>?_);have I5':=I5.pinned (l fr5) (T.obj _ _ B);show aCS C (D6 (hg _ s5 O H5 x u _ I5' r5<|step x H5 y5) λ_ s6 ⟨σ6,H6,I6,q6⟩=>(aCS C<|D6 (k _ s6 σ6 H6 _ I6 q6) λf s7 z=>?_));have again:∀{p:St}{q:Hp},Inv X (a++qO E s5.heap) p q s7->N p q->∃m,m<n/\∃i L y,Inv X a L y s7/\tn i s7.heap/\(∀b∈E,y b=none)/\W i m L y:=λ{p q} t U=>by let{m',hm,w7}:=hN p q U;show{m',hm,i+1,p,q,t.ab3,T.keep _ _ _ B λb k o e=>(t.pin (b,o)<|aAE _<|aAE _<|bB k e).1,λb k=>?_,w7};let{o,e,d}:=T.obj _ _ B b k;show(t.pin (b,o)<|aAE _<|aAE _<|bB k e).2.1
 cases f with
 |next=>let{p,q,t,U}:=z;show again t U
 |cont=>let{p,q,t,U}:=z;show again t U
 |brk=>let{p,q,t,z}:=z;show{p,q,t.ab3,z}
 |ret v=>let{x7,p,q,t,r7,z}:=z;show{x7,p,q,t.ab3,r7,z}
end
abbrev R2:=V->V->Hp->VK->Prop
def mY(X:Cx)(f:av->av->Sem av)(r:R2):Prop:=
 ∀(a:N7) (s:a9) (b:St) (H:Hp) (x y:V) (v u:av) (Q:VK),Inv X a b H s->RelV x v->RelV y u->r x y H Q->
  bc (be X.prog X.w) X.A (f v u) (EP X a b Q) X.xe s
def UnR(X:Cx)(f:av->Sem av)(r:V->Hp->VK->Prop):Prop:=
 ∀(a:N7) (s:a9) (b:St) (H:Hp) (x:V) (v:av) (Q:VK),Inv X a b H s->RelV x v->r x H Q->
  bc (be X.prog X.w) X.A (f v) (EP X a b Q) X.xe s
def xZ(X:Cx)(f:av)(r:List V->Hp->VK->Prop):Prop:=
 ∀(a:N7) (s:a9) (b:St) (H:Hp) (Y:List V) (d:List av) (Q:VK),Inv X a b H s->m9 Y d->r Y H Q->
  bc (be X.prog X.w) X.A (call f d) (EP X a b Q) X.xe s
def tUn(r:V->Hp->VK->Prop)(a:TE):TE:=λb H Q=>a b H λx d=>r x d Q
def rI(C:Int->Int->Prop)(g:Int->Int->V):R2:=λx y H Q=>∃i j,x=.int i/\y=.int j/\C i j/\Q (g i j) H
def YK(g:Int->Int->V):R2:=λx y H Q=>∃i j,x=.int i/\y=.int j/\Q (g i j) H
def rU(g:Int->V):V->Hp->VK->Prop:=λx H Q=>∃i,x=.int i/\Q (g i) H
section
variable{X:Cx}{a b c:cv}{ta tb tc:TE}{pos:Pos}
def LK(m:PE X a ta)(n:PE X b tb){d:N7}{s:a9}{e:St}{H:Hp}{R:V->V->Hp->Prop}(I:Inv X d e H s)
  (h:ta e H λx l=>tb e l λy g=>R x y g) {Q:B4}{f:av->av->Sem av}
  (o:∀v u k x y g,Inv X d e g k->RelV x v->RelV y u->R x y g->bc (be X.prog X.w) X.A (f v u) Q X.xe k):
  bc (be X.prog X.w) X.A (dC a X.env) (λv p=>bc (be X.prog X.w) X.A (dC b X.env) (λu q=>bc (be X.prog X.w) X.A (f v u) Q X.xe q) X.xe p) X.xe s:=by
 show D6 (m d s e H _ I h) λv r ⟨x,l,t,z,B⟩=>?_;show D6 (n d r e l _ t B) λu k ⟨y,g,C,E,J⟩=>(o v u k x y g C z E J)
def a0o{r:V->Hp->VK->Prop}(f:UnR X (unaryOp op) r)(g:PE X a ta):PE X (.UnaryOp op a pos) (tUn r ta):=by intro d s e H Q I h;show UnaryOp_ (D6 (g d s e H _ I h) λv k ⟨x,l,m,n,o⟩=>f d k e l x v Q m n o)
def opI{f:av->av->Sem av}{C:Int->Int->Prop}{g:Int->Int->Int}
  (rule:∀(i j:Int) (t u:Tok) (s:a9) (Q:B4) (E:B4),C i j->Q (.int (g i j) s.toks) {s with toks:=s.toks+1}->bc (be X.prog X.w) X.A (f (.int i t) (.int j u)) Q E s):
  mY X f (rI C λi j=>.int (g i j)):=by
 intro d s n H x y v u Q I e k h;let{i,j,rfl,rfl,l,q}:=h;let{t,rfl}:=e;let{m,rfl}:=k;show rule i j t m s _ _ l {.int (g i j),H,I.tok _,{_,rfl},q}
def vk{f:av->av->Sem av}{g:Int->Int->Int}
  (rule:∀(i j:Int) (t u:Tok) (s:a9) (Q:B4) (E:B4),Q (.int (g i j) s.toks) {s with toks:=s.toks+1}->bc (be X.prog X.w) X.A (f (.int i t) (.int j u)) Q E s):
  mY X f (YK λi j=>.int (g i j)):=by
 intro d s m H x y v u Q I e k h;let{i,j,rfl,rfl,q}:=h;let{t,rfl}:=e;let{l,rfl}:=k;show rule i j t l s _ _ {.int (g i j),H,I.tok _,{_,rfl},q}
def gq{f:av->av->Sem av}{g:Int->Int->Bool}
  (rule:∀(i j:Int) (t u:Tok) (s:a9) (Q:B4) (E:B4),Q (.bool (g i j)) s->bc (be X.prog X.w) X.A (f (.int i t) (.int j u)) Q E s):
  mY X f (YK λi j=>.bl (g i j)):=by
 intro d s m H x y v u Q I e k h;let{i,j,rfl,rfl,q}:=h;let{t,rfl}:=e;let{l,rfl}:=k;show rule i j t l s _ _ {.bl (g i j),H,I,rfl,q}
def a4b(i j:Int):Prop:=0<=j/\j<=1000000/\i.natAbs<2^64
def iy:mY X (eu .Add) (YK λi j=>.int (i+j)):=vk λ_ _ _ _ _ _ _ q=>add_int q
def bq:mY X (eu .Sub) (YK λi j=>.int (i-j)):=vk λ_ _ _ _ _ _ _ q=>sub_int q
def UJ:mY X (eu .Mod) (rI (λ_ j=>j≠0) λi j=>.int (i.fmod j)):=opI λ_ _ _ _ _ _ _ d q=>mod_int' d q
def ZX:mY X (eu .Pow) (rI a4b λi j=>.int (i^j.toNat)):=opI λ_ _ _ _ _ _ _ d q=>pow_int_small d.1 d.2.1 d.2.2 q
def unI{f:av->Sem av}{g:Int->Int}
  (rule:∀(i:Int) (t:Tok) (s:a9) (Q:B4) (E:B4),Q (.int (g i) s.toks) {s with toks:=s.toks+1}->bc (be X.prog X.w) X.A (f (.int i t)) Q E s):
  UnR X f (rU λi=>.int (g i)):=by
 intro d s k H x v Q I e h;let{i,rfl,q}:=h;let{t,rfl}:=e;show rule i t s _ _ {.int (g i),H,I.tok _,{_,rfl},q}
def aq:UnR X (unaryOp .USub) (rU λi=>.int (-i)):=unI λ_ _ _ _ _ q=>neg_int q
end
section
variable{X:Cx}{a b c:cv}{ta tb tc:TE}{pos:Pos}
def YV(I:Inv X d f H s)(q:Q (.bl k) H)(e:k=g):EP X d f Q (.bool g) s:=by subst e;show{.bl k,H,I,rfl,q}
def a0z:mY X (eY .Lt) (YK λi j=>.bl (decide (i<j))):=gq λ_ _ _ _ _ _ _ q=>lt_int q
def zy:mY X (eY .LtE) (YK λi j=>.bl (decide (i<=j))):=gq λ_ _ _ _ _ _ _ q=>le_int q
def a0g:mY X (eY .Gt) (YK λi j=>.bl (decide (j<i))):=gq λ_ _ _ _ _ _ _ q=>gt_int q
def YX:mY X (eY .Is) (λx y H Q=>y=.non/\Q (.bl (decide (x=.non))) H):=by
 intro d s g H x y v u Q I e f h;let{rfl,q}:=h;cases f;show is_none_gen (YV I q ?_);cases x<;>first
  |(cases e;rfl)
  |(let{t,rfl}:=e;rfl)
def QB(b:cv)(h:op≠.In<|>2)(d:op≠.NotIn<|>2):i5 op b=false:=by
 have e:(op==CmpOp.In)=false:=by cases op<;>first|rfl|show kb rfl h
 have f:(op==CmpOp.NotIn)=false:=by cases op<;>first|rfl|show kb rfl d
 cases b<;>simp[i5,e,f]
def uY:(sizeLine:Nat)<2^63:=by rw[aFg];symm
def vals1(r:m9 [x] d):∃u,d=[u]/\RelV x u:=by
 cases r with
 |cons e f=>cases f;show{_,rfl,e}
def vals2(r:m9 [x,y] e):∃u d,e=[u,d]/\RelV x u/\RelV y d:=by
 cases r with
 |cons f g=>
  cases g with
  |cons h k=>cases k;show{_,_,rfl,f,h}
def QX:xZ X (.builtin "abs") (λY H Q=>∃i,Y=[.int i]/\Q (.int (if i<0 then-i else i)) H):=by intro d s e H Y f Q I r h;let{i,rfl,q}:=h;let{u,rfl,t,rfl}:=vals1 r;show call_abs_int λu g=>{.int (if i<0 then-i else i),H,I.tok _,{_,rfl},q}
end
section
variable{prog:bo}{w:cq}{A:cp}{E:B4}{s:a9}{K:km}{x dx C f:bb}{mA:fD}{name:Str}{v:av}
end
section
variable{P:bo}{w:cq}{H H':Hp}{h h':cy}{a C dx:bb}{fs xn:List (Str×V)}
end
section
variable{X:Cx}{pins:N7}{σ:St}{H:Hp}{s:a9}{a C dx:bb}{fs:List (Str×V)}{f:Str}{v:V}{A:cp}{E:B4}
end
section
variable{X:Cx}{o e value:cv}{f:Str}{pos pos' tpos:Pos}{ta tv:TE}
end
section
variable{X:Cx}{pins:N7}{σ:St}{H:Hp}{s:a9}{A:cp}{E:B4}{Q:B4}{c:av}{b:Bool}
end
structure Room(k:Nat)(A:Around):Prop where
 hd:A.handled=none
 dp:A.depth+3*k+5<recursionLimit
 un:A.units+16*k+200<cLine
def Room.mono(r:Room k A)(h:j<=k):Room j A:={r.hd,by have:=r.dp;lia,by have:=r.un;lia}
def Room.deeper(r:Room (k+1) A)(env:Env):Room k (A.deeper env):=
 {r.hd,by have:=r.dp;change A.depth+1+3*k+5<_;lia,by have:=r.un;change A.units+3+16*k+200<_;lia}
def Room.depth(r:Room k A):A.depth<recursionLimit:=by have:=r.dp;lia
def Room.units(r:Room k A):A.units+64<dA:=by have:=r.un;lia
def a3v:TA:=λ_ H Q=>Q [] H
def xy(b:TE)(tr:TA):TA:=λa H Q=>b a H λx d=>tr a d λY e=>Q (x::Y) e
section
variable{X:Cx}{e:cv}{es:List cv}{te:TE}{t:TA}{pos:Pos}
def Z5:PA X [] a3v:=λ_ _ _ _ H Q I h=>aFc {[],H,I,.nil,h}
def G0(d:PE X e te)(f:PA X es t)(g:a5 (e::es) X.env=(false,dC e X.env)::a5 es X.env<|>1):PA X (e::es) (xy te t):=by intro pos a s b H Q I h;rw[g];change bc _ _ (spliced ((false,dC e X.env)::dq pos (a5 es X.env))) _ _ s;show aEP (D6 (d a s b H _ I h) λu k ⟨x,l,m,n,o⟩=>?_);show D6 (f pos a k b l _ m o) λw y ⟨Y,p,q,r,v⟩=>{x::Y,p,q,.cons n r,v}
def a3x(t:TA):TE:=λb H Q=>t b H λY a=>Y.length<=sizeLine/\∀p,a p=none->Q (.ref p) (upd a p<|.tup Y)
def a2h(t:TA):TE:=λb H Q=>t b H λY a=>Y.length<=sizeLine/\∀p,a p=none->Q (.ref p) (upd a p<|.lst Y)
def ZZ{k}(h:PA X es t):PE X (.Tuple es k pos) (a3x t):=by intro a s l H Q I m;show wpAny_Tuple_spliced (D6 (h pos a s l H _ I m) λn d ⟨Y,f,g,r,z,q⟩=>{by rw[<-r.length];show z,?_});have o:f d.heap.objs.size=none:=g.hok.fresh (aAj _);show{.ref d.heap.objs.size,upd f d.heap.objs.size (.tup Y),g.laid (t':=d.toks) (λb u e=>aAc _ e) (aAj _) ?_,rfl,q _ o};show{z,n,r,{_,aAp _ rfl,rfl,_,rfl}}
def QT(h:PA X es t):PE X (.List es pos) (a2h t):=by intro a s k H Q I l;show wpAny_List_spliced (D6 (h pos a s k H _ I l) λm d ⟨Y,f,g,r,z,q⟩=>{by rw[<-r.length];show z,?_});have n:f d.heap.objs.size=none:=g.hok.fresh (aAj _);show{.ref d.heap.objs.size,upd f d.heap.objs.size (.lst Y),g.laid (t':=d.toks) (λb u e=>aAc _ e) (aAj _) ?_,rfl,q _ n};show{z,m,0,r,aAp _ rfl}
end
abbrev Sp:=List V->Hp->VK->XK->Prop
abbrev VQ:=List Env->Hp->a9->XK->av->a9->Prop
structure Env0(P:Program)(w:World)(K:PySem.W.Frag)(mg:fD)(base:Heap)(A:Around)(outer:List Env)(s:Shared)(H:Hp):Prop where
 frames:A.frames=some outer
 mod:Mod K mg base
 bs:∀b o,base.get? b=some o->s.heap.get? b=some o/\H b=none
 bsz:base.objs.size<=s.heap.objs.size
 funs:s.heap.FunFrames base outer
 frf:∀b∈zU outer,H b=none
 hok:fQ P w H s.heap
 bare:AllBare s.gens
def CE(a:List Env)(P:bo)(w:cq)(H:Hp)(s:a9)(Q:VK)(u:av)(s':a9):Prop:=
 ∃v b,s'.os=s.os/\AllBare s'.gens/\Un (zU a) [] H b s.heap s'.heap/\fQ P w b s'.heap/\RelV v u/\Q v b
def CR(b:VQ)(a:List Env)(P:bo)(w:cq)(H:Hp)(s:a9)(Q:VK)(E:XK)(r:Result)(s':a9):Prop:=
 match r with
 |.ok (.ret u)=>CE a P w H s Q u s'
 |.ok _=>False
 |.error e=>b a H s E e s'
structure FnOk(P:Program)(w:World)(K:PySem.W.Frag)(mg:fD)(base:Heap)(CX:VQ)(k:Nat)(f:Addr)(fd:FuncData)(ps:List Str)(sp:Sp):Prop where
 len:∀vs H Q E,sp vs H Q E->vs.length=ps.length
 run:∀(A:Around) (outer:List Env) (s:Shared) (H:Hp) (args:Args) (us:List Value) (vs:List V) (Q:VK) (E:XK),Room k A->Env0 P w K mg base A outer s H->BindsTo s fd args (ps.zip us)->m9 vs us->sp vs H Q E->
  codeAny (model P w) A (.call (.ref f) args) (CR CX outer P w H s Q E) s
section
variable{X:Cx}{pins:N7}{σ:St}{H:Hp}{s s':a9}
def Inv.af3(I:Inv X pins σ H s):Env0 X.prog X.w X.K X.mg X.base X.A X.stack s H:=
 {I.ok.frames,I.ok.mod,I.bs,aAk I.ok.bsz I.sz,I.stack,I.ad3,I.hok,I.bare}
def Inv.after(I:Inv X pins σ H s)(h:CE X.stack X.prog X.w H s Q u s'):EP X pins σ Q u s':=by let{v,k,os,a,un,e,r,q}:=h;let{l,g,d,t,f}:=s';obtain rfl:f=s.os:=os;show{v,k,I.call (h':=l) (g':=g) (d':=d) (t':=t) un e a (λb z=>kb z (by simp)),r,q}
end
def uw(b:Sp)(a:List V)(E:XK)(t:TA):TE:=λd H Q=>t d H λe f=>b (e++a) f Q E
def Binds(K:km)(a:eO)(ps:List Str)(ds:List av):Prop:=
 ∀(s:a9) (us:List av),K.In s.heap->(us++ds).length=ps.length->BindsTo s a {us,[]} (ps.zip<|us++ds)
def Binds.all{K:km}{b:eO}{ps:List Str}(h:∀a:List av,a.length=ps.length->bindArgs b {a,[]}=pure (ps.zip a)):Binds K b ps []:=λs a _ d=>by rw[aBW]at d⊢;show .of_eq (h a d)
def DC(d:VQ)(X:Cx)(E:XK):Prop:=∀(a:N7) (f:St) (H:Hp) (s:a9) (e:av) (b:a9),Inv X a f H s->d X.stack H s E e b->X.xe e b
section
variable{X:Cx}{CX:VQ}{k:Nat}{f C:bb}{fd:eO}{ps:List Str}{sp:Sp}{dvs:List V}{ds:List av}{E:XK}{x m:Str}{p pos apos:Pos}{e o:cv}{es:List cv}{ta:TE}{t:TA}
def ZP(F:FnOk X.prog X.w X.K X.mg X.base CX k f fd ps sp)(n:Room k X.A)(q:Binds X.K fd ps ds)(v:m9 dvs ds)(y:DC CX X E)(I:Inv X a g H s)(r:m9 vs b)(h:sp (vs++dvs) H Q E):bc (be X.prog X.w) X.A (call (.ref f) b) (EP X a g Q) X.xe s:=by
 have l:=r.append v;have z:(b++ds).length=ps.length:=by rw[<-l.length];show F.len _ _ _ _ h
 show wpAny_call (aDM (F.run X.A X.stack s H {b,[]} (b++ds) (vs++dvs) Q E n I.af3 (q s b I.kIn z) l h) λr B d=>?_);cases r with
 |error e=>show y a g H s e B I d
 |ok J=>
  cases J with
  |ret u=>show I.after d
  |next=>show aAA d
  |brk=>show aAA d
  |cont=>show aAA d
def VU(F:FnOk X.prog X.w X.K X.mg X.base CX k f fd ps sp)(d:Room k X.A)(g:Gl X x)(l:X.mg x=some (.ref f))(n:PySem.W.keepIn X.K (.ref f)=true)(u:Binds X.K fd ps ds)(v:m9 dvs ds)(y:DC CX X E)
  (z:PA X (e::es) t) (B:(x==lb)=false<|>2) (J:a5 (e::es) X.env=(false,dC e X.env)::a5 es X.env<|>1) (L:(dq pos (a5 es X.env)).any (·.1)=false<|>1):
  PE X (.Call (.Name x p) (e::es) [] pos) (uw sp dvs E t):=by
 intro a s N H Q I h;show aAK (wP I g l ?_ B);show PySem.W.callWith_K I.ok.mod.kin n (D6 (z pos a s N H _ I h) λO T ⟨U,Y,b,r,q⟩=>{b.kIn,(ZP F d u v y b r q)}) J L
end
section
variable{X:Cx}{CX:VQ}{k:Nat}{f C:bb}{fd:eO}{ps ks:List Str}{sp:Sp}{E:XK}{x m:Str}{p pos apos kpos:Pos}{e o:cv}{es:List cv}{kws:List Keyword}{te ta:TE}{t tk:TA}{nm:Option Str}
variable{g:List av->List av->List av}{gV:List V->List V->List V}
end
structure FnScope(N P:List Str)(sc:Scope):Prop where
 kind:sc.kind=.function
 co:sc.isCoroutine=false
 gen:sc.isGenerator=false
 nd:N.Nodup
 pre:N.take P.length=P
 par:∀x∈P,sc.names.lookup x=some .local\/sc.names.lookup x=some .cell
 nofree:∀y∈sc.names,y.2≠.free
theorem sE{kindOf:Str->Option eZ}{x:Str}:∀{binds:List (Str×av)}{m:fD},(∀v,(x,v)∉binds)->bindL kindOf binds m x=m x
 |[],_,_=>rfl
 |(n,v)::r,m,h=>by
  unfold bindL;rw[sE λw a=>h w (aAe _ a)];split
  .grind
  rfl
theorem uM{kindOf:Str->Option eZ}{x:Str}:∀{binds:List (Str×av)}{m:fD},(∀v,(x,v)∉binds)->bindC kindOf binds m x=m x
 |[],_,_=>rfl
 |(n,v)::r,m,h=>by
  unfold bindC;rw[uM λw a=>h w (aAe _ a)];split
  .rfl
  grind
theorem tY{kindOf:Str->Option eZ}{x:Str}{v:av}:∀{P:List Str}{vs:List av}{i:Nat}{m:fD},P.Nodup->P[i]?=some x->vs[i]?=some v->kindOf x=some .local->
  bindL kindOf (P.zip vs) m x=some v:=by
 intro e f g m b h a d;cases e with
 |nil=>simp at h
 |cons p P=>
  cases f with
  |nil=>simp at a
  |cons w vs=>
   cases g with
   |zero=>simp at h a;subst h;subst a;change bindL kindOf ((p,w)::P.zip vs) m p=_;unfold bindL;rw[sE λv k=>(aAP.mp b).1 (aDl k).1,jk d];simp
   |succ i=>change bindL kindOf ((p,w)::P.zip vs) m x=_;unfold bindL;show tY (i:=i) (aAP.mp b).2 (by grind) (by exists a) d
theorem uA{kindOf:Str->Option eZ}{x:Str}{v:av}:∀{P:List Str}{vs:List av}{i:Nat}{m:fD},P.Nodup->P[i]?=some x->vs[i]?=some v->kindOf x≠some .local->
  bindC kindOf (P.zip vs) m x=some v:=by
 intro e f g m b h a d;cases e with
 |nil=>simp at h
 |cons p P=>
  cases f with
  |nil=>simp at a
  |cons w vs=>
   cases g with
   |zero=>simp at h a;subst h;subst a;change bindC kindOf ((p,w)::P.zip vs) m p=_;unfold bindC;rw[uM λv k=>(aAP.mp b).1 (aDl k).1,jl d];simp
   |succ i=>change bindC kindOf ((p,w)::P.zip vs) m x=_;unfold bindC;show uA (i:=i) (aAP.mp b).2 (by grind) (by grind) d
def start(N:List Str)(vs:List V):St:=vs.map some++aCL (N.length-vs.length) none
def BV(d:VQ)(P:bo)(w:cq)(K:km)(mg:fD)(base:cy)(N:List Str)(qual:Str)(a:i3)(f:bb)(cd:av)(A:cp)(outer:List Env)(s:a9)(H:Hp)(E:XK):Cx where
 prog:=P
 w:=w
 K:=K
 mg:=mg
 base:=base
 A:=A.deeper (envOfC qual a s.heap.objs.size f cd)
 N:=N
 s9:=s
 H9:=H
 env:=envOfC qual a s.heap.objs.size f cd
 outer:=outer
 stack:=envOfC qual a s.heap.objs.size f cd::outer
 ex:=[]
 calm:=true
 fn:=λ_=>true
 pn:=[]
 xe:=λe g=>bc (be P w) (A.deeper<|envOfC qual a s.heap.objs.size f cd) (leaving (envOfC qual a s.heap.objs.size f cd) e) (λ_ b=>d outer H s E e b) (λh b=>d outer H s E h b) g
def BB{sc:i3}{n:Nat}{x:Str}(h:sc.names.lookup x=some .cell):∃c,(ee n sc.names []).lookup x=some c:=by have q:=PySem.W.cellsFrom_some sc.names n [] (.inl h);show aFd.mp q
def LA{J:VQ}{P:bo}{w:cq}{K:km}{mg:fD}{base:cy}{N ps:List Str}{qual:Str}{a:i3}{f:bb}{cd:av}{A:cp}{d:List Env}{s L:a9}{H:Hp}{E:XK}{I:List av}{vs:List V}
  (S:FnScope N ps a) (T:A.handled=none) (g:Env0 P w K mg base A d s H) (hl:vs.length=ps.length) (r:m9 vs I)
  (x:InCallC s s.heap.objs.size (bindL (envOfC qual a s.heap.objs.size f cd).kindOf (ps.zip I) λ_=>none) (ee (s.heap.objs.size+1) a.names []) (bindC (envOfC qual a s.heap.objs.size f cd).kindOf (ps.zip I) λ_=>none) L):
  Inv (BV J P w K mg base N qual a f cd A d s H E) [] (start N vs) H L:=by
 have bh:ps.length<=N.length:=by have:=ka List.length S.pre;rw[aBh]at this;lia
 let{C,tk,rfl,O}:=x.done;have l:∀b:bb,b∉(BV J P w K mg base N qual a f cd A d s H E).ex:=λb z=>kb (show b∈([]:List bb)from z) (by simp);show⟨{g.mod,S.kind,rfl,rfl,aAj _,λy z c C o=>?_,λy m=>?_,λy c _ h=>?_,λ_=>T,aFG g.frames,.inr {rfl,rfl},λb z=>kb z (l b),g.bs,g.bsz,λb _ _=>l b,λb z=>kb z (l b),g.funs,g.frf},
  rfl,g.bare,Un.kept O,{_,x.toInCall.ns,λi y v C o h3=>?_},λy c h=>{_,x.cell y c h},g.hok.fresh (aAj _),λy c h=>?_,λp t=>kb (show p∈([]:N7)from t) (by simp),g.hok.kept O,?_⟩
 .show name_of_addr x.apart (PySem.mem_of_lookup C) (PySem.mem_of_lookup o)
 .have m:=m;rcases m with m|m
  .show BB m
  show kb rfl (S.nofree _<|PySem.mem_of_lookup m)
 .show aCd (x.above y c<|PySem.mem_of_lookup h)
 .have U:i<vs.length:=by unfold start at o;grind
  have Y:vs[i]?=some v:=by unfold start at o;rw[aAG (by exists U),aAu]at o;grind
  let{u,Q,rv}:=r.get Y;have t:ps[i]?=some y:=by rw[<-S.pre,aDN (by lia)];show C
  have B:ps.Nodup:=by rw[<-S.pre];show S.nd.sublist (List.take_sublist _ _)
  show{u,rv,?_};rcases S.par y (aAi t)with k|k
  .show .inl {k,tY B t Q k}
  let{c,e}:=BB (n:=s.heap.objs.size+1) k;show .inr {.inl k,c,e,?_};have q:=x.cell y c e;rw[uA B t Q (by change a.names.lookup y≠_;rw[k];symm)]at q;show q
 .show g.hok.fresh (aCd<|x.above y c<|PySem.mem_of_lookup h)
 unfold start;change _=N.length;rw[aAM,aAh,aCi]
 lia
def XQ{B:VQ}{P:bo}{w:cq}{K:km}{mg:fD}{base:cy}{k:Nat}{f:bb}{name qual:Str}{g:Arguments}{body:List df}{a:i3}{dV kV l pm L ct oc:av}{an od:Option bb}
  {O:Array (Option av)}{N ps:List Str}{T:Sp} (lk:K.lookup f=some {oc,od,.func (PySem.W.fnOf name qual g body a dV kV l pm an L ct),O}) (fm:PySem.W.codeIn K L qual=true) (S:FnScope N ps a)
  (len:∀vs H Q E,T vs H Q E->vs.length=ps.length)
  (vm:∀(A:cp) (d:List Env) (s:a9) (H:Hp) (vs:List V) (Q:VK) (E:XK),Room k (A.deeper (envOfC qual a s.heap.objs.size f L))->T vs H Q E->
   ∃t,rB (BV B P w K mg base N qual a f L A d s H E) body t/\t {nx:=λ_ H'=>Q .non H',rt:=Q} (start N vs) H):
  FnOk P w K mg base B (k+1) f (PySem.W.fnOf name qual g body a dV kV l pm an L ct) ps T:=by
 show{len,λA d s H args us vs Q E U m hb r p=>?_};have hl:=len _ _ _ _ p;have KX:K.In s.heap:=m.mod.kin.keeps λb o e=>(m.bs b o e).1;have Y:s.heap.NoLimit:=m.mod.nolimit.keeps λb o e=>(m.bs b o e).1;have nv:∀y∈ps.zip us,a.names.lookup y.1=some .local\/(a.names.lookup y.1=some .cell/\((ee (s.heap.objs.size+1) a.names []).lookup y.1).isSome=true):=λ⟨n,v⟩ hy=>by
  rcases S.par n (aDl hy).1 with q|q
  .show .inl q
  show .inr {q,PySem.W.cellsFrom_some _ _ _ (.inl q)}
 show codeAny_call_function U.depth (KX _ _ lk) rfl S.co S.gen rfl (PySem.W.codeRec_of KX fm) (hb _ _ _ _ ?_);show wpAny_newFunctionEnv_cells S.kind nv λenv he s1 x=>?_;subst he;show{Y.keeps x.toInCall.keep,codeAny_func ?_};let{t,ht,hq}:=vm A d s H vs Q E (U.deeper _) p;have I:Inv (BV B P w K mg base N qual a f L A d s H E) [] (start N vs) H s1:=LA S U.hd m hl r x;show aCx (ht [] s1 (start N vs) H _ I hq) (λfl s' h=>?_) λe s' h=>h;have z:∀{C:St}{H':Hp}{v:V}{u:av},Inv (BV B P w K mg base N qual a f L A d s H E) [] C H' s'->RelV v u->Q v H'->CE d P w H s Q u s':=
  λ{C H' v u} J rv q=>{v,H',J.os,J.bare,J.base,J.hok,rv,q}
 cases fl with
 |ret u=>let{v,C,H',J,rv,q}:=h;show z J rv q
 |next=>let{C,H',J,q}:=h;show z (v:=V.non) (u:=Value.none) J rfl q
 |brk=>let{_,_,_,q}:=h;show aAA q
 |cont=>let{_,_,_,q}:=h;show aAA q
section
variable{X:Cx}{x:Str}{p pos:Pos}{e:cv}{es:List cv}{t:TA}{id T:String}{r:List V->Hp->VK->Prop}
end
end L2
namespace HT
open PySem PyProof.Rows
def lexLt:List Int->List Int->Bool
 |[],[]=>false
 |[],_::_=>true
 |_::_,[]=>false
 |x::Y,y::a=>if x=y then lexLt Y a else decide (x<y)
def F1(x y:Int)(Y a:List Int):lexLt (x::Y) (y::a)=if x=y then lexLt Y a else decide (x<y):=rfl
def Z8:lexLt [] []=false:=rfl
def M5(y:Int)(a:List Int):lexLt [] (y::a)=true:=rfl
def A6(x:Int)(Y:List Int):lexLt (x::Y) []=false:=rfl
def yK(A:cp)(s:a9)(a:Int)(t:Tok)(c:Int)(u:Tok):∃e,SeqAt.EqAt A s (.int a t) (.int c u) e/\(e=true↔a=c):=
 {(a==c),aEQ a t c u,by simp}
def yZ(A:cp)(s:a9)(a:Int)(t:Tok)(c:Int)(u:Tok)(prog:bo)(w:cq)(E:B4)(Q:B4)(h:Q (.bool (decide (a<c))) s):
  bc (be prog w) A (richCompare .Lt (.int a t) (.int c u)) Q E s:=
 (PyProof.Rows.lt_int h:bc (be prog w) A (eY .Lt (.int a t) (.int c u)) Q E s)
section
open PySem.SeqAt
open PySem.AutoSeq1 (wpAny_loadPart')
open PySem.MeetsSeq PySem.MeetsSeq2 PySem.MeetsSeq3
def rR(l b:bb)(items p:Array av)(n n2:Nat)(dd xt:Option bb)(sl xu:Array (Option av))(ns C:List Int)(U:IntsAre items.toList ns)(Y:IntsAre p.toList C):
  Meets (Builtin.«tuple.__lt__» {[.ref l,.ref b],[]})
   (λ_ R s=>s.heap.get? l=some {cls:=.type "tuple",dict:=dd,data:=.seq items n,slots:=sl}/\s.heap.get? b=some {cls:=.type "tuple",dict:=xt,data:=.seq p n2,slots:=xu}/\
    R (.ok (.ret (.bool (lexLt ns C)))) s):=
 .of_wp λm w A R s h=>by
  let{E,g,d,H,os}:=s;let{hl,hb,h}:=h;have f2:=AutoSeq1.sub_tuple_tuple;have z1:items.size=ns.length:=by rw[<-U.length];simp
  have z2:p.size=C.length:=by rw[<-Y.length];simp
  wp_walk using wpAny_loadPart' hl,wpAny_loadPart' hb,aCo _ (λrest b N=>b.1=none/\N={E,g,d,H,os}/\∃(I J:List av) (r v:List Int),rest=I.zip J/\
   IntsAre I r/\IntsAre J v/\r.length+p.size=v.length+items.size/\R (.ok (.ret (.bool (lexLt r v)))) {E,g,d,H,os}) _
  case turn=>
   rintro⟨y,x⟩ rest b N ⟨O,rfl,I,J,r,v,k,Q,L,f,o⟩;cases Q with
   |nil=>rw[List.zip_nil_left]at k;cases k
   |cons a t z=>
    cases L with
    |nil=>rw[List.zip_nil_right]at k;cases k
    |cons c u B=>
     rw[aDg]at k;injection k with zl ah;injection zl with hy hx;subst hy hx;rw[F1]at o;erw[aAt]at f;let{e,he,yn}:=yK A.in1 {E,g,d,H,os} a t c u;show aAa (he m w _ _ ?_);cases e with
     |true=>
      rw[jk (yn.mp rfl)]at o
      wp_walk
      show{rfl,rfl,_,_,_,_,ah,z,B,by lia,o}
     |false=>
      rw[jl (λq=>kb (yn.mpr q) aBB)]at o;have T:=yZ A.in1 {E,g,d,H,os} a t c u m w
      wp_walk using T
      show{_,rfl,by simpa using o}
  case fin=>
   rintro⟨b1,b2⟩ N ⟨O,rfl,I,J,r,v,k,Q,L,f,o⟩;simp only at O;subst O;have hv:lexLt r v=decide (items.size<p.size):=by
    cases Q with
    |nil=>
     cases L with
     |nil=>erw[aCj]at f;rw[Z8];show(kc (by lia)).symm
     |cons c u hw=>erw[aCj,aAt]at f;rw[M5];show(kd (by lia)).symm
    |cons a t hv=>
     cases L with
     |nil=>erw[aCj,aAt]at f;rw[A6];show(kc (by lia)).symm
     |cons c u hw=>rw[aDg]at k;cases k
   rw[hv]at o
   wp_walk
   show{_,rfl,by simpa[Builtin.Tuple.tupleCompareSizes]using o}
  case h=>show{rfl,rfl,items.toList,p.toList,ns,C,rfl,U,Y,by lia,h}
end
section
variable{prog:bo}{w:cq}{A:cp}{E:B4}{s:a9}
def lt_tupInts{Q:B4}(r:IsTup s.heap l items)(t:IsTup s.heap b e)(u:IntsAre items.toList ns)(v:IntsAre e.toList d)(y:A.units<dA)(h:Q (.bool (lexLt ns d)) s):bc (be prog w) A (eY .Lt (.ref l) (.ref b)) Q E s:=by
 let{{z,B,f,C},g,k,n,m}:=id r;let{{o,H,data2,I},p,q,J,a}:=id t;simp only at k m q a;subst k m q a;show richCompare_meets_room (op:=.Lt) {_,g,rfl} {_,p,rfl} PySem.F.slot_tuple_lt PySem.F.entry_tuple_lt (PySem.F.args_tuple_lt_2 _ _) (rR l b items e n J B H C I ns d u v)
  {g,p,show aDK (lexLt ns d)≠Value.notImplemented/\Q (.bool (lexLt ns d)) s from{(λx=>nomatch x),h}} y
def cat_tup{Q:B4}(x:IsTup s.heap t vs.toArray)(y:IsTup s.heap b ws.toArray)(h:vs≠[])(z:ws=[]->Q (.ref t) s)(B:ws≠[]->Q (.ref s.heap.objs.size) {s with heap:=s.heap.push {cls:=.type "tuple",data:=.seq (vs++ws).toArray}})(C:vs.length+ws.length<=sizeLine):bc (be prog w) A (eu .Add (.ref t) (.ref b)) Q E s:=by
 let{{cls,k,data,l},d,m,n,o}:=id x;let{{p,q,data2,r},f,u,v,a}:=id y;simp only at m o u a;subst m o u a;have e:vs.toArray++ws.toArray=(vs++ws).toArray:=by simp
 by_cases g:ws=[]
 .show aFz {_,d,rfl} {_,f,rfl} aFk seq_tuple_add PySem.F.slot_tuple_add PySem.F.entry_tuple_add (PySem.F.args_tuple_add_2 _ _)
   (tuple_addW1 t b vs.toArray ws.toArray n v k q l r (by exists h) (by simp[g])) {d,f,z g}
 show aFz {_,d,rfl} {_,f,rfl} aFk seq_tuple_add PySem.F.slot_tuple_add PySem.F.entry_tuple_add (PySem.F.args_tuple_add_2 _ _)
  (tuple_addW2 t b vs.toArray ws.toArray n v k q l r (by exists h) (by exists g) (by nofun)) {d,f,?_}
 rw[e];show B g
def sIx(n d:Nat):Option Int->Nat
 |none=>d
 |some v=>if v<0 then(v+(n:Int)).toNat else min v.toNat n
def a0t(n d:Nat):sIx n d none=d:=rfl
def bj(n d:Nat)(a:d<=n)(o:Option Int):sIx n d o<=n:=by
 cases o with
 |none=>show a
 |some v=>
  change(if v<0 then(v+(n:Int)).toNat else min v.toNat n)<=n
  lia
def FA(v:Int)(n d:Nat):(if v<0 then max (v+(n:Int)) 0 else min v (n:Int))=((sIx n d (some v):Nat):Int):=by
 change(if v<0 then max (v+(n:Int)) 0 else min v (n:Int))=(((if v<0 then(v+(n:Int)).toNat else min v.toNat n):Nat):Int)
 lia
def BH(lo a:Option Int)(n:Nat):aDD lo a 1 (n:Int)=(((sIx n 0 lo:Nat):Int),((sIx n n a:Nat):Int)):=by
 have b:¬((1:Int)<0):=by lia
 unfold aDD;show aFf ?_ ?_
 .cases lo with
  |none=>rfl
  |some v=>show FA v n 0
 cases a with
 |none=>rfl
 |some v=>show FA v n n
def DK(i j:Nat):aCM (i:Int) (j:Int) 1=j-i:=by
 unfold aCM
 lia
def oK{Q:Option Int->a9->Prop}(p:IsPart v o)(h:Q o s):bc (be prog w) A (Builtin.Slice.slicePartIndex v) Q E s:=by
 cases p with
 |none=>show slicePart_none h
 |int i t=>show slicePart_int h
def kM{sl:bb}{d e:av}{lo a:Option Int}{n:Nat}{Q:Int×Int×Nat->a9->Prop}(g:s.heap.IsSliceOf sl d e .none)(k:IsPart d lo)(l:IsPart e a)
  (h:Q (((sIx n 0 lo:Nat):Int),1,sIx n n a-sIx n 0 lo) s):bc (be prog w) A (Builtin.Slice.sliceApplied (.ref sl) (pure (n:Int))) Q E s:=by
 let{os,b,m,f}:=id g;show aAa (aAa<|aCJ b f (x:=d) rfl<|aAa<|aCJ b f (x:=e) rfl<|aAa<|aCJ b f (x:=.none) rfl<|aAb<|aAa<|slicePart_none ?_);show aAa (oK k<|aAa<|oK l<|aAa<|aAb ?_);change bc _ _ (match aDD lo a 1 (n:Int)with|(lo,a)=>pure (lo,(1:Int),aCM lo a 1)) _ _ s;rw[BH lo a n];change bc _ _ (pure (((sIx n 0 lo:Nat):Int),(1:Int),aCM ((sIx n 0 lo:Nat):Int) ((sIx n n a:Nat):Int) 1)) _ _ s;rw[DK];show aAb h
def OL(Y:Array av)(i k:Nat):((aBm k).filterMap λ(m:Nat)=>Y[((i:Int)+(m:Int)*1).toNat]?).toArray=((Y.toList.drop i).take k).toArray:=by
 have e:(λ(m:Nat)=>Y[((i:Int)+(m:Int)*1).toNat]?)=λm=>Y[i+m]?:=by grind
 rw[e];have:=pick_run Y i k;rw[aDU]at this;have a:((λx=>Y[x]?)∘λx=>i+x)=λm=>Y[i+m]?:=rfl
 lia
def getItem_tuple_cut{t sl:bb}{items:Array av}{k l:av}{lo a:Option Int}{Q:B4}(b:IsTup s.heap t items)(n:s.heap.IsSliceOf sl k l .none)(o:IsPart k lo)(p:IsPart l a)
  (u:¬(sIx items.size 0 lo=0/\sIx items.size items.size a=items.size))
  (h:Q (.ref s.heap.objs.size) {s with heap:=s.heap.push {cls:=.type "tuple",data:=.seq ((items.toList.drop (sIx items.size 0 lo)).take (sIx items.size items.size a-sIx items.size 0 lo)).toArray}})
  (e:items.size<=sizeLine):bc (be prog w) A (getItem (.ref t) (.ref sl)) Q E s:=by
 have d:sizeOk (.seq ((items.toList.drop<|sIx items.size 0 lo).take (sIx items.size items.size a-sIx items.size 0 lo)).toArray):=by change((items.toList.drop<|sIx items.size 0 lo).take (sIx items.size items.size a-sIx items.size 0 lo)).toArray.size<=sizeLine;erw[aAD,aBh,aCZ];show aAk (Nat.min_le_right _ _) (aAk (Nat.sub_le _ _) e)
 have v:sIx items.size items.size a<=items.size:=bj _ _ (aAj _) a;let{os,f,r,x}:=id n;unfold getItem;try with_reducible show aAJ ?_
 first|show aAa (aAb ?_)|skip
 show aAa (wpAny_sequenceKey b.typeIs (by symm) ?_);show aAa (aBV b.typeIs aCv
  (aBc aCv b.typeIs entry_tuple_getitem ?_ (args_tuple_getitem _ _)))
 change bc _ _ (aDx (.ref t)>>=_) _ _ s;show aAa (tupleItemsOf_ b<|aAa<|aDL (⟨os,f,r⟩) ?_);rw[jk (by symm)];show aAa (kM n o p ?_);have g:¬((((sIx items.size 0 lo:Nat):Int)==0&&(1:Int)==1&&(sIx items.size items.size a-sIx items.size 0 lo)==items.size)=true):=by intro q;rw[aAH,aAH]at q;have y:=eq_of_beq q.1.1;grind
 change bc _ _ (if(((sIx items.size 0 lo:Nat):Int)==0&&(1:Int)==1&&(sIx items.size items.size a-sIx items.size 0 lo)==items.size)=true then _ else _) _ _ s;rw[jl g,OL];first
  |show aAa (m:=aCT _) (aAQ (aAb ⟨_,rfl,aAb h⟩) d)
  |show aAa (m:=aCT _) (aAQ (aAa<|aAb<|aAb ⟨_,rfl,aAb h⟩) d)
  |show aAa (aAa (m:=aCT _)<|aAQ (aAb<|aAb ⟨_,rfl,aAb h⟩) d)
  |show aAa (aAa (m:=aCT _)<|aAQ (aAb ⟨_,rfl,aAb h⟩) d)
end
end HT
namespace L2
open PySem PySem.Spec PyProof.Rows
abbrev TO:=St->Hp->(Option Int->Hp->Prop)->Prop
def PO(X:Cx)(e:Option cv)(t:TO):Prop:=
 ∀(a:N7) (s:a9) (b:St) (H:Hp) (Q:Option Int->Hp->Prop),Inv X a b H s->t b H Q->
  bc (be X.prog X.w) X.A (evalPart e X.env) (λu f=>∃o d,Inv X a b d f/\IsPart u o/\Q o d) X.xe s
def SM:TO:=λ_ H Q=>Q none H
def yj(t:TE):TO:=λa H Q=>t a H λx b=>∃i,x=.int i/\Q (some i) b
section
variable{X:Cx}{e:cv}{te:TE}{lo hi:Option cv}{tl th:TO}{pos p2:Pos}
def VF:PO X none SM:=by intro a s b H Q I h;show aAb {none,H,I,.none,h}
def SX(h:PE X e te):PO X (some e) (yj te):=by intro a s b H Q I d;show D6 (h a s b H _ I d) λu m ⟨x,f,g,k,l⟩=>?_;let{i,rfl,q}:=l;let{t,rfl}:=k;show{some i,f,g,.int i t,q}
def fq(X:Cx)(r:V->Option Int->Option Int->Hp->VK->Prop):Prop:=
 ∀(a:N7) (s:a9) (b:St) (H:Hp) (x:V) (v d f:av) (lo hi:Option Int) (g:bb) (Q:VK),Inv X a b H s->RelV x v->s.heap.IsSliceOf g d f .none->IsPart d lo->IsPart f hi->r x lo hi H Q->
  ∃T id,typeLookup (.type T) "__getitem__"=pure (some<|.builtin id)/\s.TypeIs v T/\bc (be X.prog X.w) X.A (getItem v<|.ref g) (EP X a b Q) X.xe s
def fq.or{r b:V->Option Int->Option Int->Hp->VK->Prop}(h:fq X r)(h':fq X b):fq X (λx lo hi H Q=>r x lo hi H Q\/b x lo hi H Q):=by
 intro a s d H x v f g lo hi k Q I l m n o q;rcases q with q|q
 .show h a s d H x v f g lo hi k Q I l m n o q
 show h' a s d H x v f g lo hi k Q I l m n o q
def tSl(r:V->Option Int->Option Int->Hp->VK->Prop)(te:TE)(tl th:TO):TE:=λa H Q=>te a H λx b=>tl a b λl d=>th a d λu f=>r x l u f Q
def QD{r:V->Option Int->Option Int->Hp->VK->Prop}(n:fq X r)(o:PE X e te)(p:PO X lo tl)(t:PO X hi th):PE X (.Subscript e (.Slice lo hi none p2) pos) (tSl r te tl th):=by intro a s f H Q I h;show Subscript_ (D6 (o a s f H _ I h) λv w ⟨x,y,z,A,B⟩=>(wpAny_Slice<|D6 (p a w f y _ z B) λg C ⟨l,E,J,L,N⟩=>D6 (t a C f E _ J N) λk d ⟨u,m,O,U,Y⟩=>?_));show aAb ?_;have I4:Inv X a f m {d with heap:=d.heap.push {cls:=.type "slice",data:=.fields #[g,k,.none]}}:=O.kept (t':=d.toks) λb ob q=>aAc _ q;let{T,id,hT,ht,hg}:=n a {d with heap:=d.heap.push {cls:=.type "slice",data:=.fields #[g,k,.none]}} f m x v g k l u d.heap.objs.size Q I4 A (Heap.IsSliceOf.new ..) L U Y;show tail_any ht hT hg (by with_unfolding_all rfl)
def ID(Y:List V)(lo hi:Option Int):List V:=(Y.drop<|HT.sIx Y.length 0 lo).take (HT.sIx Y.length Y.length hi-HT.sIx Y.length 0 lo)
def lW(Y:List V)(lo hi:Option Int):(ID Y lo hi).length<=Y.length:=by
 unfold ID;rw[aBh,aCZ]
 lia
def yw(K:km):V->Option Int->Option Int->Hp->VK->Prop:=λx lo hi H Q=>∃a Y,x=.ref a/\R4 K H a Y/\
 ¬(HT.sIx Y.length 0 lo=0/\HT.sIx Y.length Y.length hi=Y.length)/\∀p,H p=none->Q (.ref p) (upd H p<|.tup (ID Y lo hi))
def ZR:fq X (yw X.K):=by
 intro g s w H x v y z lo hi A Q I m n o p h;let{a,Y,rfl,t,u,q}:=h;cases m;let{f,r,k,l}:=I.tuple t;have d:f.toArray.size=Y.length:=by rw[aAD];show r.length.symm
 show{"tuple",_,aCv.lookup,k.typeIs,(HT.getItem_tuple_cut k n o p (d▸u) ?_ (d▸l))};rw[d];show{.ref s.heap.objs.size,_,I.laid (t':=s.toks) (λb B q=>aAc _ q) (aAj _) ?_,rfl,q _ (I.hok.fresh<|aAj _)};show{aAk (lW Y lo hi) l,_,(r.drop<|HT.sIx Y.length 0 lo).take (HT.sIx Y.length Y.length hi-HT.sIx Y.length 0 lo),IsTup.new _ _}
def a0y(K:km):R2:=λx y H Q=>∃a b Y d,x=.ref a/\y=.ref b/\R4 K H a Y/\R4 K H b d/\Y≠[]/\Y.length+d.length<=sizeLine/\
 (d=[]->Q (.ref a) H)/\(d≠[]->∀p,H p=none->Q (.ref p) (upd H p<|.tup (Y++d)))
def m9.ac3(r:m9 Y a):a=[]↔Y=[]:=by
 cases r with
 |nil=>simp
 |cons _ _=>simp
def GJ:mY X (eu .Add) (a0y X.K):=by intro g s J H x y v u Q I l m h;let{a,b,Y,n,rfl,rfl,p,r,t,k,A,B}:=h;cases l;cases m;let{C,f,E,_}:=I.tuple p;let{L,d,p2,_}:=I.tuple r;show HT.cat_tup E p2 (λz=>t (f.ac3.mp z)) (λz=>{.ref a,H,I,rfl,A (d.ac3.mp z)}) (λz=>?_) (by rw[<-f.length,<-d.length];show k);show{.ref s.heap.objs.size,_,I.laid (t':=s.toks) (o:=.tup (Y++n)) (λb N q=>aAc _ q) (aAj _) ?_,rfl,B (λw=>z (d.ac3.mpr w)) _ (I.hok.fresh<|aAj _)};show{by rw[aAM];show k,_,f.append d,IsTup.new _ _}
end
def FG(n:Nat)(i:Int):Option Nat:=if 0<=i then(if i<n then some i.toNat else none)else if-(n:Int)<=i then some (i+n).toNat else none
def qT{a:Type}(Y:List a)(i:Int):Option a:=(FG Y.length i).bind λj=>Y[j]?
def GI(h:FG n i=some j):seqIndex? i n=some j/\j<n/\-(n:Int)<=i/\i<n:=by
 unfold FG at h;by_cases b:0<=i
 .rw[jk b]at h;by_cases a:i<n
  .rw[jk a]at h;have e:i.toNat=j:=aAq h;show{by rw[seqIndex_of b a,e],by lia,by lia,a}
  rw[jl a]at h;cases h
 rw[jl b]at h;by_cases a:-(n:Int)<=i
 .rw[jk a]at h;show{by rw[seqIndex_neg (by lia) a,(aAq h)],by lia,a,by lia}
 rw[jl a]at h;cases h
def HJ{a:Type}{Y:List a}{i:Int}{v:a}(h:qT Y i=some v):∃j,seqIndex? i Y.length=some j/\Y[j]?=some v/\j<Y.length/\-(Y.length:Int)<=i/\i<Y.length:=by
 unfold qT at h;cases e:FG Y.length i with
 |none=>nofun
 |some j=>rw[e]at h;let{b,d,f,g}:=GI e;show{j,b,h,d,f,g}
def WO(b:cv):Prop:=∀o i,subscripted b false o i=operate [o,i] (getItem o i)
def IxR(X:Cx)(r:R2):Prop:=
 ∀(d a:cv) (b:N7) (s:a9) (e:St) (H:Hp) (x y:V) (v u:av) (Q:VK),Inv X b e H s->RelV x v->RelV y u->r x y H Q->
  subscripted a false v u=operate [v,u] (getItem v u)->bc (be X.prog X.w) X.A (subscriptTail d a v u) (EP X b e Q) X.xe s
def MtR(X:Cx)(id:String)(r:V->List V->Hp->VK->Prop):Prop:=
 ∀(a:N7) (s:a9) (b:St) (H:Hp) (x:V) (Y:List V) (v:av) (d:List av) (Q:VK),Inv X a b H s->RelV x v->m9 Y d->r x Y H Q->
  bc (be X.prog X.w) X.A (call (.builtin id) (v::d)) (EP X a b Q) X.xe s
section
variable{X:Cx}{a b:cv}{ta tb:TE}{pos:Pos}
def a1z(K:km):R2:=λx y H Q=>∃p Y i v,x=.ref p/\y=.int i/\aF K H p Y/\qT Y i=some v/\Q v H
def a1w(K:km):R2:=λx y H Q=>∃p Y i v,x=.ref p/\y=.int i/\R4 K H p Y/\qT Y i=some v/\Q v H
def WB:IxR X (a1z X.K):=by
 intro f g d s E H x y v u Q I J L h A;let{p,Y,i,z,rfl,rfl,N,O,q}:=h;cases J;let{t,rfl}:=L;let{k,r,l,hz}:=I.list N;let{j,m,T,h3,U,h5}:=HJ O;let{w,B,n}:=r.get T;have hl:=r.length;have hn:=uY;have e:EP X d E Q w s:={z,H,I,n,q};by_cases C:0<=i
 .have o:i.toNat=j:=by rw[seqIndex_of C h5]at m;show aAq m
  show item_listR l.isList C (by lia) (by rw[o];exists B) e A
 have o:(i+(k.toArray.size:Int)).toNat=j:=by
  rw[seqIndex_neg (by lia) U]at m
  nofun
 show subscriptTail_builtinR (x:=w) l.isList.typeIs slot_list_getitem.lookup
  (wpAny_getItem_list_neg l.isList (by lia) (by grind) (by lia) (by rw[o];exists B) {rfl,e}) A
def cx:IxR X (a1w X.K):=by
 intro e f d s m H x y v u Q I n o h A;let{p,Y,i,z,rfl,rfl,B,C,q}:=h;cases n;let{t,rfl}:=o;let{E,r,l,N}:=I.tuple B;let{j,O,J,T,U,h5}:=HJ C;let{w,L,g}:=r.get J;have hl:=r.length;have hn:=uY;have k:EP X d m Q w s:={z,H,I,g,q};show subscriptTail_builtinR l.typeIs aCv.lookup
  (getItem_tuple (j:=j) l (by lia) (by lia) (by nofun) (by exists L) {rfl,k}) A
def DR(its:List av)(n j:Nat)(u:av):aBL (·.setIfInBounds j u) {cls:=.type "list",data:=.seq its.toArray n}={cls:=.type "list",data:=.seq (its.set j u).toArray n}:=by simp[aBL]
def Inv.lst{d:N7}{f:St}{H:Hp}{s:a9}{p:bb}{Y:List V}(I:Inv X d f H s)(h:H p=some (.lst Y)):
  ∃(its:List av) (n:Nat),m9 Y its/\s.heap.get? p=some {cls:=.type "list",data:=.seq its.toArray n}/\Y.length<=sizeLine:=by
 let{z,its,n,r,e}:=I.hok p _ h;show{its,n,r,e,z}
def Inv.af2{d:N7}{l:St}{H:Hp}{s:a9}{p:bb}{Y g:List V}{its its':List av}{n k:Nat}{f:Obj->Obj}(I:Inv X d l H s)(h:H p=some (.lst Y))
  (o:s.heap.get? p=some {cls:=.type "list",data:=.seq its.toArray n}) (m:f {cls:=.type "list",data:=.seq its.toArray n}={cls:=.type "list",data:=.seq its'.toArray k}) (r:m9 g its') (v:g.length<=sizeLine) (t:Nat):
  Inv X d l (upd H p (.lst g)) {s with heap:=s.heap.update p f,toks:=t}:=by
 have e:(s.heap.update p f).get? p=some {cls:=.type "list",data:=.seq its'.toArray k}:=by rw[aAX f o (by rw[m]<;>rfl),m]
 show I.write (x:=p) (e:=p) (by rw[h];trivial) (.inl rfl) (λb u w q=>(aAx _ _<|aCp w).trans q) {_,e} ?_;show{v,its',k,r,e}
def a0v:V->V->V->Hp->(Hp->Prop)->Prop:=λo i v H Q=>∃p Y k j,o=.ref p/\i=.int k/\H p=some (.lst Y)/\FG Y.length k=some j/\Q (upd H p<|.lst (Y.set j v))
def RA:ZF X a0v:=by
 intro d s B H o i v O T u Q I C E J h;let{p,Y,k,j,rfl,rfl,w,L,q}:=h;cases C;let{t,rfl}:=E;let{e,n,r,g,N}:=I.lst w;let{f,U,x,y}:=GI L;have l:=r.length;have hn:=uY;have z:Inv X d B (upd H p<|.lst (Y.set j v)) {s with heap:=s.heap.update p (aBL (·.setIfInBounds j u))}:=
  I.af2 w g (DR e n j u) (r.set J j) (by rw[List.length_set];show N) s.toks
 by_cases A:0<=k
 .have m:k.toNat=j:=by rw[seqIndex_of A y]at f;show aAq f
  show PySem.W.ki_setAt g A (by lia) (by rw[aAD,<-l];show y) (by rw[m];show{_,z,q})
 have m:(k+(e.toArray.size:Int)).toNat=j:=by rw[seqIndex_neg (by lia) x]at f;rw[aAD,<-l];show aAq f
 show PySem.W.ki_setBack g (by lia) (by rw[aAD,<-l];show x) (by lia) (by rw[m];show{_,z,q})
def wS(lo d:Option Int)(n:Nat):(ij lo d none n).1=((HT.sIx n 0 lo:Nat):Int)/\(ij lo d none n).2.1=((HT.sIx n n d:Nat):Int)/\(ij lo d none n).2.2=1:=by
 have e:∀i:Int,(ij (some i) none none n).1=((HT.sIx n 0 (some i):Nat):Int):=λi=>by
  erw[ij,HT.sIx,Option.getD_none,show(1:Int)>0 by symm,if_true];by_cases h:i<0
  .erw[h,if_true]<;>lia
  erw[h,if_false]<;>lia
 show{?_,?_,rfl}
 .cases lo with
  |none=>simp[ij,HT.sIx]
  |some i=>show e i
 cases d with
 |none=>simp[ij,HT.sIx]
 |some i=>show e i
def rV(its:List av)(lo d:Option Int):slicePick its.toArray lo d none=((its.drop (HT.sIx its.length 0 lo)).take (HT.sIx its.length its.length d-HT.sIx its.length 0 lo)).toArray:=by let{e,f,g}:=wS lo d its.toArray.size;unfold slicePick;rw[e,f,g];erw[sliceRange_one,pick_run]<;>rfl
def zj(K:km):V->Option Int->Option Int->Hp->VK->Prop:=λx lo d H Q=>∃a Y,x=.ref a/\aF K H a Y/\∀p,H p=none->Q (.ref p) (upd H p<|.lst (ID Y lo d))
def WU:fq X (zj X.K):=by intro d s t H x v u w lo e y Q I g k l m h;let{a,Y,rfl,n,q}:=h;cases g;let{o,r,f,p}:=I.list n;have hlen:=r.length;show{"list",_,slot_list_getitem.lookup,f.isList.typeIs,(wpAny_getItem_list_slice f.isList k l m .none (by simp) ?_ (by nofun))};rw[rV,<-hlen];show{.ref s.heap.objs.size,_,I.laid (t':=s.toks) (λb z q=>aAc _ q) (aAj _) ?_,rfl,q _ (I.hok.fresh<|aAj _)};show{aAk (lW Y lo e) p,_,0,(r.drop<|HT.sIx Y.length 0 lo).take (HT.sIx Y.length Y.length e-HT.sIx Y.length 0 lo),aAp _ rfl}
def a0x:V->Bool
 |.non=>true
 |.bl _=>true
 |.int _=>true
 |.str _=>true
 |_=>false
def jT:xZ X (.builtin "len") (λY H Q=>∃p e,Y=[.ref p]/\(aF X.K H p e\/R4 X.K H p e)/\Q (.int e.length) H):=by
 intro m s t H Y v Q I r h;let{p,e,rfl,f,q}:=h;let{u,rfl,n}:=vals1 r;cases n;have w:=uY;rcases f with f|f
 .let{g,k,l,o}:=I.list f;have d:=k.length;show Calls.call_len_list l.isList (by erw[aAD]<;>lia) {.int e.length,H,I.tok _,{s.toks+1,by rw[aAD,d]},q}
 let{g,k,l,o}:=I.tuple f;have d:=k.length;show len_tuple l (by grind) {.int e.length,H,I.tok _,{s.toks+1,by rw[aAD,d]},q}
def jU:xZ X (.type "list") (λY H Q=>∃p g,Y=[.ref p]/\(aF X.K H p g\/R4 X.K H p g)/\∀l,H l=none->Q (.ref l) (upd H l (.lst g))):=by
 intro t s N H Y T Q I r h;let{p,g,rfl,v,q}:=h;let{u,rfl,O}:=vals1 r;cases O;have x:∀(d:List av),m9 g d->g.length<=sizeLine->∀(f:cy) (k:Nat),(∀b L,s.heap.get? b=some L->f.get? b=some L)->
   f.get? s.heap.objs.size=some {cls:=.type "list",dict:=none,data:=.seq d.toArray k,slots:=#[]}->EP X t N Q (.ref s.heap.objs.size) {s with heap:=f}:=λd m y f k z e=>
  {.ref s.heap.objs.size,_,I.laid (t':=s.toks) z (aAj _) (show ObjOk X.prog X.w _ f _ (.lst g)from{y,d,k,m,e}),rfl,q _ (I.hok.fresh<|aAj _)}
 rcases v with v|v
 .let{d,m,B,y}:=I.list v;have A:=m.length;let{o,C,E,n,J}:=B.isList;show call_list_seq p (.inl rfl) C E J (λf k z e=>x d m y f k z e) (by nofun)
 let{d,m,B,y}:=I.tuple v;have A:=m.length;let{o,C,E,n,J}:=B;show call_list_seq p (.inr rfl) C E J (λf k z e=>x d m y f k z e) (by grind)
def fO:xZ X (.type "tuple") (λY H Q=>∃p g,Y=[.ref p]/\((aF X.K H p g/\∀l,H l=none->Q (.ref l) (upd H l (.tup g)))\/(R4 X.K H p g/\Q (.ref p) H))):=by
 intro d s v H Y C Q I r h;let{p,g,rfl,h}:=h;let{u,rfl,z}:=vals1 r;cases z;rcases h with⟨m,q⟩|⟨m,q⟩
 .let{f,n,t,w}:=I.list m;have x:=n.length;show call_tuple_list t.isList (λk A=>?_) (by grind);have y:Inv X d v H {s with heap:=k}:=I.kept (t':=s.toks) A;have B:Inv X d v (upd H k.objs.size<|.tup g) {s with heap:=k.push {cls:=.type "tuple",data:=.seq f.toArray}}:=
   y.laid (t':=s.toks) (λb o e=>aAc _ e) (aAj _) ({w,f,n,IsTup.new _ _})
  show{.ref k.objs.size,_,B,rfl,q _ (y.hok.fresh<|aAj _)}
 let{f,n,t,w}:=I.tuple m;show call_tuple_same t {.ref p,H,I,rfl,q}
def tyV(K : km) (T : String) (x : V) (H : Hp) : Prop := match x with
  | .str _ => T = "str"
  | .int _ => T = "int"
  | .ref p => (T = "list" ∧ ∃ Y, aF K H p Y) ∨ (T = "tuple" ∧ ∃ o, K.lookup p = some o ∧ o.cls = .type "tuple" ∧ o.dict = none) ∨
      (T = "dict" ∧ ((∃ U, H p = some (.dK U)) ∨ ∃ U, H p = some (.dT U))) ∨ (T = "set" ∧ ∃ S n, H p = some (.set S n))
  | _ => False
def NI(I:Inv X l A H s)(r:RelV x v)(g:tyV X.K T x H):
  s.TypeIs v T/\∀a,v=.ref a->∃m,s.heap.get? a=some m/\m.dict=none:=by
 cases x with
 |str z=>let{t,rfl}:=r;cases(show T= "str"from g);show{typeIs_str s z t,λ_ e=>nomatch e}
 |int i=>let{t,rfl}:=r;cases(show T= "int"from g);show{typeIs_int s i t,λ_ e=>nomatch e}
 |ref p=>
  cases r;rcases g with⟨rfl,Y,u⟩|⟨rfl,o,d,w,h⟩|⟨rfl,d⟩|⟨rfl,S,n,d⟩
  .let{y,_,q,_}:=I.list u;show{q.isList.typeIs,λa e=>?_};cases e;let{o,n,e,c,h,_}:=q;show{o,e,h}
  .show{{o,I.kIn p o d,w},λa e=>?_};cases e;show{o,I.kIn _ o d,h}
  .have z:∃o,s.heap.get? p=some o/\o.ExactDict:=by
    rcases d with⟨U,d⟩|⟨U,d⟩
    .let{_,_,_,_,o,_,_,e,f,_}:=I.hok p _ d;show{o,e,f}
    let{_,_,_,_,o,_,_,e,f,_}:=I.hok p _ d;show{o,e,f}
   let{o,e,f}:=z;show{{o,e,f.1},λa k=>?_};cases k;show{o,e,f.2.1}
  let{o,_,_,_,e,f,_}:=I.hok p _ d;show{{o,e,f.1},λa k=>?_};cases k;show{o,e,f.2.1}
 |_=>show aAA g
def a3n(K:km)(T:String)(r:V->List V->Hp->VK->Prop)(e:TE):TE:=λf H Q=>e f H λx d=>tyV K T x d/\r x [] d Q
def tBM(K:km)(T:String)(r:V->List V->Hp->VK->Prop)(f:TE)(t:TA):TE:=λd H Q=>f d H λx e=>tyV K T x e/\t d e λY g=>r x Y g Q
variable{o e:cv}{es:List cv}{to:TE}{t:TA}{name:Str}{apos ao:Pos}{T id:String}{r:V->List V->Hp->VK->Prop}
def BZ(m:PlainAttrs T)(slot:Slot T name id)(f:typeOf (.builtin id)=pure (.type "method_descriptor"))(n:MtR X id r)(p:PE X o to)
  (q:gc o name X.env (dC o X.env)=dC o X.env<|>1) (u:(apos.endLine==ao.line)=true<|>1):PE X (.Call (.Attribute o name apos) [] [] ao) (a3n X.K T r to):=by
 intro d s g H Q I h;show wpAny_Call_method0_late q u (D6 (p d s g H _ I h) λv w ⟨x,y,k,l,z,A⟩=>?_);let{B,C}:=NI k l z;show{T,id,m,slot,f,B,C,aFp rfl (PySem.evalArgs_none<|n d w g y x [] v [] Q k l .nil A)}
def XY(n:PlainAttrs T)(slot:Slot T name id)(f:typeOf (.builtin id)=pure (.type "method_descriptor"))(p:MtR X id r)(q:PE X o to)(u:PA X (e::es) t)
  (w:gc o name X.env (dC o X.env)=dC o X.env<|>1)
  (y:(((dq ao (a5 (e::es) X.env)).all (λx=>!x.1)&&(backToKw ao (keywordEach [] X.env)).all (λx=>x.1.isSome)
   &&decide ((e::es).length+([]:List Keyword).length+(if([]:List Keyword).isEmpty then 0 else 1)<30))=true)<|>1)
  (z:(apos.endLine==ao.line)=true<|>1) (A:a5 (e::es) X.env=(false,dC e X.env)::a5 es X.env<|>1) (B:(dq ao (a5 es X.env)).any (·.1)=false<|>1):
  PE X (.Call (.Attribute o name apos) (e::es) [] ao) (tBM X.K T r to t):=by
 intro d s g H Q I h;show wpAny_Call_method_late w y z rfl (D6 (q d s g H _ I h) λv C ⟨x,E,k,l,J,L⟩=>?_);let{N,O}:=NI k l J;show{T,id,n,slot,f,N,O,?_};have m:=u ao d C g E _ k L;rw[A]at m⊢;show aFp (by change(false||(dq ao<|a5 es X.env).any (·.1))=false;rw[B]<;>rfl) (Calls.evalArgs_plain<|D6 m λU Y ⟨vs,H2,I2,r2,q2⟩=>p d Y g H2 x vs v U Q I2 l r2 q2)
end
def MtM(X:Cx)(id:String)(r:V->List V->Hp->VK->Prop):Prop:=
 ∀(a:N7) (s:a9) (b:St) (H:Hp) (x:V) (Y:List V) (v:av) (d:List av) (Q:VK),Inv X a b H s->RelV x v->m9 Y d->r x Y H Q->
  bc (be X.prog X.w) X.A (call (.builtin id) (v::d)) (EP X a b Q) X.xe s
def m9.one:∀{x:V}{a:List av},m9 [x] a->∃u,a=[u]/\RelV x u:=by
 intro _ _ b;cases b with
 |cons r d=>
  cases d with
  |nil=>show{_,rfl,r}
theorem m9.zero:∀{a:List av},m9 [] a->a=[]
 |_,.nil=>rfl
def m9.dropLast(h:m9 Y a):m9 Y.dropLast a.dropLast:=by
 induction h with
 |nil=>show .nil
 |cons r t b=>
  cases t with
  |nil=>show .nil
  |cons q d=>show .cons r b
section
variable{X:Cx}{pins:N7}{σ:St}{H:Hp}{s:a9}{l b:bb}{Y ys zs:List V}
def Inv.af4{its its':List av}{n:Nat}{f:Array av->Array av}{t':Nat}(I:Inv X pins σ H s)(a:H l=some (.lst Y))
  (e:s.heap.get? l=some {cls:=.type "list",data:=.seq its.toArray n}) (d:f its.toArray=its'.toArray) (g:m9 ys its') (h:ys.length<=sizeLine):
  Inv X pins σ (upd H l (.lst ys)) {s with heap:=s.heap.update l (aBL f),toks:=t'}:=by
 have q:=PySem.IsL.update e f;rw[d]at q;show I.write (a▸trivial) (.inl rfl) (λo u k m=>(aAx s.heap (aBL f)<|aCp k).trans m) {_,q} ?_;show{h,its',_,g,q}
def Inv.ag6(I:Inv X pins σ H s)(a:m9 ys its)(d:ys.length<=sizeLine):
  Inv X pins σ (upd H s.heap.objs.size (.lst ys)) {s with heap:=s.heap.push {cls:=.type "list",data:=.seq its.toArray},toks:=t'}:=
 I.laid (λ_ _ q=>aAc _ q) (aAj _) {d,its,0,a,aAp _ rfl}
def Inv.fresh(I:Inv X pins σ H s):H s.heap.objs.size=none:=I.hok.fresh (aAj _)
def Inv.af5(I:Inv X pins σ H s)(a:H l=some (.lst Y)):Y.length<=sizeLine/\∃(its:List av) (n:Nat),m9 Y its/\Y.length=its.length/\s.heap.get? l=some {cls:=.type "list",data:=.seq its.toArray n}:=by let{z,its,n,r,e}:=I.hok l _ a;show{z,its,n,r,r.length,e}
end
section
variable{X:Cx}
def VY:V->List V->Hp->VK->Prop:=λx a H Q=>∃l Y y,x=.ref l/\a=[y]/\H l=some (.lst Y)/\Y.length<sizeLine/\Q .non (upd H l<|.lst (Y++[y]))
def lJ:MtM X "list.append" VY:=by intro b s m H x o v p Q I f g h;let{l,Y,y,rfl,rfl,d,t,q}:=h;cases f;let{u,rfl,k}:=g.one;let{z,a,n,r,w,e}:=I.af5 d;show call_meets F.slot_list_append {_,e,rfl} F.entry_list_append (F.args_list_append_2 _ _) (PySem.list_append l a.toArray n u (by nofun)) {e,({.non,_,I.af4 (its':=a++[u]) d e (by simp) (r.append<|.cons k .nil) ?_,rfl,q})};grind
def a3b:V->List V->Hp->VK->Prop:=λx a H Q=>∃l Y y,x=.ref l/\a=[]/\H l=some (.lst Y)/\Y[Y.length-1]?=some y/\Q y (upd H l<|.lst Y.dropLast)
def MV:MtM X "list.pop" a3b:=by
 intro f s t H x w v A Q I k m h;let{l,Y,y,rfl,rfl,g,o,q}:=h;cases k;have b:=m.zero;subst b;let{z,a,n,r,B,e}:=I.af5 g;let{u,C,p}:=r.get o;have d:a.toArray[a.toArray.size-1]?=some u:=by grind
 show call_meets F.slot_list_pop {_,e,rfl} F.entry_list_pop (F.args_list_pop_1 _) (MeetsSeq.list_pop_last l a.toArray n u d (by nofun)) {e,({y,_,I.af4 (its':=a.dropLast) g e ?_ r.dropLast ?_,p,q})}
 .grind
 grind
def az:V->List V->Hp->VK->Prop:=λx a H Q=>∃l Y,x=.ref l/\a=[]/\H l=some (.lst Y)/\Q .non (upd H l<|.lst [])
def OF:MtM X "list.clear" az:=by intro d s m H x o v p Q I g k h;let{l,Y,rfl,rfl,f,q}:=h;cases g;have a:=k.zero;subst a;let{z,b,n,r,t,e}:=I.af5 f;show call_meets F.slot_list_clear {_,e,rfl} F.entry_list_clear (F.args_list_clear_1 _) (AutoSeq1.list_clear_list_0 l b.toArray n (by nofun)) {e,?_};show{.non,_,I.af4 (its':=[]) f e rfl .nil (aAT _),rfl,q}
end
section
variable{prog:bo}{w:cq}{A:cp}{E:B4}{s:a9}
end
section
variable{X:Cx}
end
end L2
namespace Att
open PySem PySem.W PySem.Calls PyProof.Rows
def mR:∀(ns:List Int) (vs:List av),WellAll P h vs (ns.map WData.int)->IntsAre vs ns:=by
 intro ns;induction ns with
 |nil=>intro vs w;rw[aGk]at w;cases w;show .nil
 |cons n ns d=>
  intro vs w;rw[aAz]at w;cases w with
  |cons a b=>cases a;show .cons _ _ (d _ b)
def script_of{l:OpenLaw}{n:Nat}(o:l.most=some n){P:Params}{h:cy}{args:List WData}{b:List av}
  (k:l.row.toRowW.claim.pre args=true) (p:WellAll P h b args):
  ∃a vs ns,b=[aDr a]/\args=[WData.list (ns.map WData.int)]/\h.get? a=some {cls:=.type "list",data:=.seq vs.toArray}/\IntsAre vs ns/\ns.length<=n:=by
 have g:=(pre_splitW k).1;have m:l.pre.holds [] {args:=args}=true:=(pre_splitW k).2;let{d,r,rfl,q,s}:=hasAllW_cons g;obtain rfl:=hasAllW_nil s;let{Y,rfl,t}:=hasW_list q;let{ns,rfl}:=items_int t;have e:ns.length<=n:=by
  unfold OpenLaw.pre at m;have f:(WTm.not<|.lt (.lit (.int (n:Int))) (.len (.arg 0))).holds [] {args:=[.list (ns.map .int)]}=true:=by have f:=(holds_andW m).1;rw[o]at f;show f
  have y:=condW_of f (w_not<|w_lt w_lit<|w_len_list<|w_arg rfl)
  nofun
 cases p with
 |cons u v=>
  cases v;cases u with
  |list w x=>show{_,_,ns,rfl,rfl,w,mR ns _ x,e}
def post_true(l:OpenLaw)(args:List WData):l.row.toRowW.claim.post args (.bool true) args=true:=
 postW_of (r:=l.row.toRowW) (X:=(true==true))
  (show WShape.has [] (.bool true) .bool=true by first|rfl|decide|simp[WShape.has,WShape.arms,WShape.armsAll])
  (show(WTm.eq .res (.lit (.bool true))).value [] {args:=args,res:=some (.bool true),after:=args}=some (.bool (true==true))from w_eq_bool (w_res rfl) w_lit) rfl
section
variable{prog:bo}{w:cq}{A:cp}{E:B4}{s:a9}{K:Frag}
def a2l(h:cy)(L d:bb):List (bb×Obj):=(aBm h.objs.size).filterMap λa=>if a=L\/a=d then none else(h.get? a).map λo=>(a,o)
end
end Att
namespace L2
open PySem PySem.Spec PyProof.Rows
theorem U7:∀{vs:List av}{ns:List Int},IntsAre vs ns->m9 (ns.map V.int) vs:=by
 intro _ _ a;cases a with
 |nil=>show .nil
 |cons n t h=>show .cons {t,rfl} (U7 h)
def D3(s:df):Arguments:=match s with
 |.FunctionDef _ a _ _ _ _ _ _ _ _=>a
 |_=>{posonlyargs:=[],args:=[],vararg:=none,kwonlyargs:=[],kw_defaults:=[],kwarg:=none,defaults:=[]}
def q9(s:df):List df:=match s with
 |.FunctionDef _ _ b _ _ _ _ _ _ _=>b
 |_=>[]
def b9(s:df):i3:=match s with
 |.FunctionDef _ _ _ _ _ _ a _ _ _=>a
 |_=>{kind:=.function,names:=[],isGenerator:=false,isCoroutine:=false}
abbrev xP:VQ:=λ_ _ _ _ _ _=>False
abbrev E0:XK:=λ_ _ _=>False
def vq:DC xP X E0:=λ_ _ _ _ _ _ _ h=>h.elim
structure Fun(K:PySem.W.Frag)(x qual:Str)(st:Stmt)(f:Addr)(fd:FuncData):Prop where
 ex:∃(oc:Value) (od:Option Addr) (kV doc pm:Value) (an:Option Addr) (L ct:Value) (osl:Array (Option Value)),
  fd=PySem.W.fnOf x qual (D3 st) (q9 st) (b9 st) .none kV doc pm an L ct/\K.lookup f=some {oc,od,.func fd,osl}/\PySem.W.codeIn K L qual=true
 kp:PySem.W.keepIn K (.ref f)=true
section
variable{P:bo}{w:cq}{K:km}{mg:fD}{base:cy}
def Fun.ok{x qual:Str}{st:df}{f:bb}{e:eO}{N ps:List Str}{k:Nat}{b:Sp}(F:Fun K x qual st f e)(S:FnScope N ps (b9 st))(len:∀vs H Q E,b vs H Q E->vs.length=ps.length)
  (g:∀(L:av) (A:cp) (a:List Env) (s:a9) (H:Hp) (vs:List V) (Q:VK) (E:XK),Room k (A.deeper (envOfC qual (b9 st) s.heap.objs.size f L))->b vs H Q E->
   ∃t,rB (BV xP P w K mg base N qual (b9 st) f L A a s H E).nox (q9 st) t/\t {nx:=λ_ H'=>Q .non H',rt:=Q} (start N vs) H):FnOk P w K mg base xP (k+1) f e ps b:=by
 let{p,r,kV,l,u,v,L,y,m,rfl,lk,n}:=F.ex;show XQ lk n S len λA a s H vs Q E o d=>?_;let{t,h,q}:=g L A a s H vs Q E o d;show{t,h.nox,q}
def Fun.binds{x qual:Str}{st:df}{f:bb}{g:eO}{ps:List Str}(F:Fun K x qual st f g)
  (h:∀(kV a b:av) (d:Option bb) (L ct:av) (e:List av),e.length=ps.length->bindArgs (PySem.W.fnOf x qual (D3 st) (q9 st) (b9 st) .none kV a b d L ct) {e,[]}=pure (ps.zip e)):Binds K g ps []:=by
 let{l,m,kV,a,b,d,L,ct,k,rfl,lk,n}:=F.ex;show .all (h kV a b d L ct)
def SC{x qual:Str}{st:df}{f:bb}{g:av}{h d:Option bb}{b:Array (Option av)}{kV a e L ct:av}(l:K.lookup f=some {g,h,.func (PySem.W.fnOf x qual (D3 st) (q9 st) (b9 st) .none kV a e d L ct),b})
 (c:PySem.W.codeIn K L qual=true) (k:PySem.W.keepIn K (.ref f)=true):Fun K x qual st f (PySem.W.fnOf x qual (D3 st) (q9 st) (b9 st) .none kV a e d L ct):={{g,h,kV,a,e,d,L,ct,b,rfl,l,c},k}
end
section
variable{X:Cx}
end
def Same(H H':Hp):Prop:=∀b o,H b=some o->H' b=some o
def Same.refl(H:Hp):Same H H:=λ_ _ h=>h
def Same.trans(a:Same H d)(b:Same d e):Same H e:=λc o h=>b c o (a c o h)
def Same.seq{K:km}{H H':Hp}{a:bb}{Y:List V}(e:Same H H')(h:aF K H a Y):aF K H' a Y:=by
 rcases h with(h|⟨o,h⟩)|h
 .show .inl (.inl (e _ _ h))
 .show .inl (.inr {o,e _ _ h})
 show .inr h
end L2
namespace DL
open PySem PySem.Spec L2
open PyProof.Rows hiding St
section
inductive D where
 |non|bl (b:Bool)|int (i:Int)|str (x:Str)|tup (Y:List D)|lst (Y:List D)|dct (U:List (D×D))
mutual
def n9:D->Int
 |.int i=>hashInt i
 |.tup Y=>reduceHash (aAI (vO Y))
 |_=>0
def vO:List D->List Int
 |[]=>[]
 |x::Y=>n9 x::vO Y
end
def R0:Nat->D->Bool
 |_,.int _=>true
 |n+1,.tup Y=>Y.all (R0 n)
 |_,_=>false
inductive R(α:Type)where
 |ok (a:α)|ex (e:Str)|bad
def R.bind{b β:Type}:R b->(b->R β)->R β
 |.ok a,f=>f a
 |.ex e,_=>.ex e
 |.bad,_=>.bad
@[simp]def R.aa0{b β:Type}(a:b)(f:b->R β):(R.ok a).bind f=f a:=rfl
@[simp]def R.ag4{a β:Type}(e:Str)(f:a->R β):(R.ex e:R a).bind f=.ex e:=rfl
@[simp]def R.af9{a β:Type}(f:a->R β):(R.bad:R a).bind f=.bad:=rfl
def AY(a:bb)(o:Obj)(es:List ff):Prop:=(a==h9)=false/\o.ExactDict/\∃b d,o.data=.dict b d/\b.toList=es
def eS(K:km)(H:Hp)(a:bb)(vs:List V):Prop:=H a=some (.lst vs)\/aF K H a vs/\∀v∈vs,∃i,v=V.int i
def eS.sq{K:km}(h:eS K H a vs):aF K H a vs:=h.elim aF.of (·.1)
instance{K:km}:Coe (eS K H a vs) (aF K H a vs):=⟨eS.sq⟩
def eS.of{K:km}(h:H a=some (.lst vs)):eS K H a vs:=.inl h
def _root_.L2.Same.sqp{K:km}(e:Same H H')(h:eS K H a vs):eS K H' a vs:=h.imp (e _ _) λz=>{e.seq z.1,z.2}
section
variable(K:km) (H:Hp) (O:bb->Prop)
mutual
inductive Rep:V->D->Prop
 |non:Rep .non .non
 |bl {b:Bool}:Rep (.bl b) (.bl b)
 |int {i:Int}:Rep (.int i) (.int i)
 |str {x:Str}:Rep (.str x) (.str x)
 |tup {a:Addr}{vs:List V}{ds:List D} (h:R4 K H a vs) (r:Reps vs ds):Rep (.ref a) (.tup ds)
 |lst {a:Addr}{vs:List V}{ds:List D} (h:eS K H a vs) (n:¬O a) (r:Reps vs ds):Rep (.ref a) (.lst ds)
 |dct {a:Addr}{o:Obj}{es:List DictEntry}{U:List (D×D)} (h:H a=some (.ext λh=>h.get? a=some o)) (x:AY a o es) (n:¬O a) (nd:(U.map (·.1)).Nodup) (r:RepsD es U):Rep (.ref a) (.dct U)
inductive Reps:List V->List D->Prop
 |nil:Reps [] []
 |cons {v:V}{d:D}{vs:List V}{ds:List D} (h:Rep v d) (t:Reps vs ds):Reps (v::vs) (d::ds)
inductive RepsD:List DictEntry->List (D×D)->Prop
 |nil:RepsD [] []
 |cons {e:DictEntry}{k v:D}{a:Addr}{x:V}{es:List DictEntry}{U:List (D×D)} (hk:e.key=.ref a) (rk:Rep (.ref a) k) (hv:RelV x e.val) (rv:Rep x v) (hh:e.hash=n9 k/\R0 7 k=true) (t:RepsD es U):RepsD (e::es) ((k,v)::U)
end
end
section
variable{K:km}
def _root_.L2.Same.tup{a:bb}{Y:List V}(e:Same H H')(h:R4 K H a Y):R4 K H' a Y:=by
 rcases h with(h|⟨o,h⟩)|h
 .show .inl (.inl (e _ _ h))
 .show .inl (.inr {o,e _ _ h})
 show .inr h
mutual
theorem Rep.mono(f:∀a Y,R4 K H a Y->R4 K H' a Y)(b:∀a Y,¬O a->eS K H a Y->¬g a/\eS K H' a Y)(e:∀a k,¬O a->H a=some (.ext k)->¬g a/\H' a=some (.ext k)):∀{v:V}{d:D},Rep K H O v d->Rep K H' g v d:=by
 intro _ _ l;cases l with
 |non=>show .non
 |bl=>show .bl
 |int=>show .int
 |str=>show .str
 |tup h r=>show .tup (f _ _ h) (Reps.mono f b e r)
 |lst h n r=>show .lst (b _ _ n h).2 (b _ _ n h).1 (Reps.mono f b e r)
 |dct h x n m r=>show .dct (e _ _ n h).2 x (e _ _ n h).1 m (RepsD.mono f b e r)
theorem Reps.mono(b:∀a Y,R4 K H a Y->R4 K H' a Y)(d:∀a Y,¬O a->eS K H a Y->¬e a/\eS K H' a Y)(f:∀a g,¬O a->H a=some (.ext g)->¬e a/\H' a=some (.ext g)):∀{vs:List V}{ds:List D},Reps K H O vs ds->Reps K H' e vs ds:=by
 intro _ _ k;cases k with
 |nil=>show .nil
 |cons h t=>show .cons (Rep.mono b d f h) (Reps.mono b d f t)
theorem RepsD.mono(b:∀a Y,R4 K H a Y->R4 K H' a Y)(d:∀a Y,¬O a->eS K H a Y->¬f a/\eS K H' a Y)(e:∀a g,¬O a->H a=some (.ext g)->¬f a/\H' a=some (.ext g)):∀{es:List ff}{U:List (D×D)},RepsD K H O es U->RepsD K H' f es U
 |_,_,.nil=>.nil
 |_,_,.cons h k l m n t=>.cons h (Rep.mono b d e k) l (Rep.mono b d e m) n (RepsD.mono b d e t)
end
def Rep.same(e:Same H H')(r:Rep K H O v d):Rep K H' O v d:=r.mono (λ_ _ h=>e.tup h) (λ_ _ n h=>{n,e.sqp h}) λ_ _ n h=>{n,e _ _ h}
def Reps.same(e:Same H H')(r:Reps K H O v d):Reps K H' O v d:=r.mono (λ_ _ h=>e.tup h) (λ_ _ n h=>{n,e.sqp h}) λ_ _ n h=>{n,e _ _ h}
def Rep.sub(e:∀a,b a->O a)(r:Rep K H O v d):Rep K H b v d:=r.mono (λ_ _ h=>h) (λ_ _ n h=>{λz=>n (e _ z),h}) λ_ _ n h=>{λz=>n (e _ z),h}
def Reps.sub(e:∀a,b a->O a)(r:Reps K H O v d):Reps K H b v d:=r.mono (λ_ _ h=>h) (λ_ _ n h=>{λz=>n (e _ z),h}) λ_ _ n h=>{λz=>n (e _ z),h}
theorem Reps.length:∀{vs:List V}{ds:List D},Reps K H O vs ds->vs.length=ds.length
 |_,_,.nil=>rfl
 |_,_,.cons _ t=>by simp[Reps.length t]
theorem Reps.get:∀{vs:List V}{ds:List D}{i:Nat}{d:D},Reps K H O vs ds->ds[i]?=some d->∃v,vs[i]?=some v/\Rep K H O v d:=by
 intro _ _ a d b e;cases b with
 |nil=>simp at e
 |cons r t=>
  cases a with
  |zero=>simp at e;subst e;show{_,rfl,r}
  |succ i=>let{u,f,g}:=Reps.get (i:=i) (d:=d) t (by exists e);show{u,by simpa using f,g}
theorem Reps.append:∀{vs ws:List V}{ds es:List D},Reps K H O vs ds->Reps K H O ws es->Reps K H O (vs++ws) (ds++es):=by
 intro _ _ _ _ a s;cases a with
 |nil=>show s
 |cons r t=>show .cons r (Reps.append t s)
theorem Reps.take:∀{vs:List V}{ds:List D} (n:Nat),Reps K H O vs ds->Reps K H O (vs.take n) (ds.take n)
 |_,_,0,_=>.nil
 |_,_,_+1,.nil=>.nil
 |_,_,n+1,.cons r t=>.cons r (Reps.take n t)
theorem Reps.drop:∀{vs:List V}{ds:List D} (n:Nat),Reps K H O vs ds->Reps K H O (vs.drop n) (ds.drop n)
 |_,_,0,r=>r
 |_,_,_+1,.nil=>.nil
 |_,_,n+1,.cons _ t=>Reps.drop n t
theorem Reps.set(r:Rep K H O v d):∀{vs:List V}{ds:List D} (i:Nat),Reps K H O vs ds->Reps K H O (vs.set i v) (ds.set i d)
 |_,_,_,.nil=>.nil
 |_,_,0,.cons _ t=>.cons r t
 |_,_,i+1,.cons q t=>.cons q (Reps.set r i t)
def Reps.dropLast(r:Reps K H O vs ds):Reps K H O vs.dropLast ds.dropLast:=by rw[aEk,aEk,r.length];show r.take _
def Reps.snoc(r:Reps K H O vs ds)(h:Rep K H O v d):Reps K H O (vs++[v]) (ds++[d]):=r.append (.cons h .nil)
theorem Reps.ints:∀(ns:List Int),Reps K H O (ns.map V.int) (ns.map D.int)
 |[]=>.nil
 |_::ns=>.cons .int (Reps.ints ns)
theorem Reps.reverse:∀{vs:List V}{ds:List D},Reps K H O vs ds->Reps K H O vs.reverse ds.reverse
 |_,_,.nil=>.nil
 |_,_,.cons r t=>by rw[aAN,aAN];show(Reps.reverse t).snoc r
end
def Kp(H:Hp)(O:bb->Prop)(H':Hp)(a:bb->Prop):Prop:=∀b o,H b=some o->¬O b->H' b=some o/\¬a b
section
def Kp.refl(H:Hp)(O:bb->Prop):Kp H O H O:=λ_ _ h n=>{h,n}
def Kp.of(s:Same H H'):Kp H O H' O:=λb o h n=>{s b o h,n}
def Kp.trans(a:Kp H O H' f)(b:Kp H' f d e):Kp H O d e:=λc o h n=>by let{g,k}:=a c o h n;show b c o g k
end
class Tabs where
 tbs:List (Addr×List (Pos×Str))
inductive Sl where
 |no|v (d:D)|o (Y:List D)|x (C:Value)|c (m:List D->R D) (φ:Hp->(Addr->Prop)->Addr->Prop)|d (U:List (D×D))
abbrev Ev:=List Sl
def Mt:HO->Prop
 |.lst _=>True
 |.dK _=>True
 |.dT _=>True
 |.ext _=>True
 |_=>False
def mN(K:km)(H:Hp)(O:bb->Prop)(es:List ff)(U:List (D×D)):Prop:=
 Paired (λ(e:ff) (p:D×D)=>(∃a,e.key=.ref a/\Rep K H O (.ref a) p.1)/\(∃v,RelV v e.val/\Rep K H O v p.2)/\e.hash=n9 p.1/\R0 7 p.1=true) es U
def HN:Sl->Prop
 |.o _=>True
 |.d _=>True
 |_=>False
section
variable(K:km) (H9 H:Hp) (O:bb->Prop)
def bK(x:Option (Option V)):Sl->Prop
 |.no=>True
 |.v d=>∃v,x=some (some v)/\Rep K H O v d
 |.o Y=>∃a b,x=some (some (V.ref a))/\O a/\H9 a=none/\H a=some (.lst b)/\Reps K H O b Y
 |.x C=>∃a o,x=some (some (V.ref a))/\H a=some (.frz o (.own a))/\o.cls=C
 |.c m k=>∃a,x=some (some (V.ref a))/\∀e f,Kp H O e f->k e f a
 |.d U=>∃a o g,x=some (some (V.ref a))/\O a/\H9 a=none/\H a=some (.ext λh=>h.get? a=some o)/\AY a o g/\mN K H O g U/\(U.map (·.1)).Nodup
end
variable [Tabs]
def Tb(H:Hp):Prop:=∀p∈Tabs.tbs,H p.1=some (.tbl p.2)
structure EnvOk(K:PySem.W.Frag)(H9:Hp)(O0:Addr->Prop)(H:Hp)(O:Addr->Prop)(σ:St)(ρ:Ev):Prop where
 len:σ.length=ρ.length
 same:Same H9 H
 sub:∀a,O0 a->O a
 trk:∀a,O a->∃o,H a=some o/\Mt o
 trk0:∀a,O0 a->∃o,H9 a=some o
 tab:Tb H
 slot:∀(i:Nat) (sl:Sl),ρ[i]?=some sl->bK K H9 H O σ[i]? sl
 inj:∀(i j:Nat) (x y:Sl) (a:Addr),ρ[i]?=some x->ρ[j]?=some y->HN x->HN y->σ[i]?=some (some (V.ref a))->σ[j]?=some (some (V.ref a))->i=j
section
variable{K:km}{O0 O O':bb->Prop}
def Tb.same(h:Tb H)(s:Same H H'):Tb H':=λp a=>s _ _ (h p a)
def EnvOk.val(E:EnvOk K b O0 H O a ρ)(i:Nat)(d:D)(h:ρ[i]?=some (Sl.v d)):∃v,a[i]?=some (some v)/\Rep K H O v d:=E.slot i _ h
def EnvOk.own(E:EnvOk K b O0 H O d ρ)(i:Nat)(Y:List D)(h:ρ[i]?=some (Sl.o Y)):∃a vs,d[i]?=some (some (V.ref a))/\O a/\b a=none/\H a=some (.lst vs)/\Reps K H O vs Y:=E.slot i _ h
def mN.mono(f:∀{v:V}{d:D},Rep K H O v d->Rep K H' O' v d):∀{U:List (D×D)},mN K H O es U->mN K H' O' es U:=λ{_} r=>Paired.af6 r<|by rintro _ _ ⟨⟨v,a,b⟩,⟨w,e,g⟩,h⟩;show{{v,a,f b},{w,e,f g},h}
def bK.move(h:bK K B H O x sl)(p:∀a Y,R4 K H a Y->R4 K H' a Y)(q:∀a Y,¬O a->eS K H a Y->¬O' a/\eS K H' a Y)(E:∀a o u,H a=some (.frz o u)->H' a=some (.frz o u))(s:Kp H O H' O')(A:HN sl->∀a o,x=some (some (V.ref a))->O a->H a=some o->O' a/\H' a=some o):bK K B H' O' x sl:=by
 have t:∀a g,¬O a->H a=some (.ext g)->¬O' a/\H' a=some (.ext g):=λa g n h=>{(s a _ h n).2,(s a _ h n).1};cases sl with
 |no=>trivial
 |v d=>let{v,b,e}:=h;show{v,b,e.mono p q t}
 |o Y=>let{a,I,b,e,f,w,y}:=h;let{l,z}:=A trivial a _ b e w;show{a,I,b,l,f,z,y.mono p q t}
 |x C=>let{a,o,b,e,f}:=h;show{a,o,b,E _ _ _ e,f}
 |c m g=>let{a,b,e}:=h;show{a,b,λJ L k=>e J L (s.trans k)}
 |d U=>let{a,o,N,b,e,f,w,y,l}:=h;let{z,Q}:=A trivial a _ b e w;show{a,o,N,b,z,f,Q,y,l.1.mono λr=>r.mono p q t,l.2}
def bK.grow(h:bK K a H O x sl)(e:Same H H'):bK K a H' O x sl:=
 h.move (λ_ _ q=>e.tup q) (λ_ _ n q=>{n,e.sqp q}) (λ_ _ _ q=>e _ _ q) (Kp.of e) λ_ _ _ _ b d=>{b,e _ _ d}
def EnvOk.grow(E:EnvOk K b O0 H O d ρ)(e:Same H H'):EnvOk K b O0 H' O d ρ where
 len:=E.len
 same:=E.same.trans e
 sub:=E.sub
 trk:=λa h=>by let{o,q,m}:=E.trk a h;show{o,e a o q,m}
 trk0:=E.trk0
 tab:=E.tab.same e
 slot:=λi f h=>(E.slot i f h).grow e
 inj:=E.inj
def EnvOk.fresh(E:EnvOk K a O0 H O b ρ)(h:H p=none):¬O p:=λz=>by
 let{o,q,_}:=E.trk p z
 lia
def l6{a:Type}{l:List a}{i j:Nat}{x:a}(h:i≠j):(l.set i x)[j]?=l[j]?:=aCP h
def v9{a:Type}{l:List a}{i:Nat}{x y:a}(h:(l.set i x)[i]?=some y):y=x/\i<l.length:=by
 have b:i<l.length:=by have:=(aAn.mp h).1;exists this
 rw[aBf b]at h;show{(aAq h).symm,b}
def EnvOk.put(E:EnvOk K f O0 H O u ρ){v:Option V}{sl:Sl}(i:Nat)(no:¬HN sl)(r:bK K f H O (some v) sl):EnvOk K f O0 H O (u.set i v) (ρ.set i sl)where
 len:=by exists E.len
 same:=E.same
 sub:=E.sub
 trk:=E.trk
 trk0:=E.trk0
 tab:=E.tab
 slot:=λj s h=>by
  by_cases g:i=j
  .subst g;let{e,w}:=v9 h;subst e;rw[aBf (E.len▸w)];show r
  rw[l6 g]at h⊢;show E.slot j s h
 inj:=λj k x y a b d m n p t=>by
  have ne:∀(l:Nat) (z:Sl),(ρ.set i sl)[l]?=some z->HN z->i≠l:=λl z q o e=>by subst e;let{e,_}:=v9 q;subst e;show no o
  have A:=ne j x b m;have B:=ne k y d n;rw[l6 A]at b p;rw[l6 B]at d t;show E.inj j k x y a b d m n p t
def EnvOk.set(E:EnvOk K a O0 H O b ρ)(i:Nat)(r:Rep K H O v d):EnvOk K a O0 H O (b.set i (some v)) (ρ.set i (.v d)):=E.put i (λz=>z) {v,rfl,r}
def bK.at_(h:bK K k H O x sl)(o:HN sl):∃a u,x=some (some (V.ref a))/\O a/\k a=none/\H a=some u/\Mt u:=by
 cases sl with
 |o Y=>let{a,l,b,e,f,g,_}:=h;show{a,_,b,e,f,g,trivial}
 |d U=>let{a,u,m,b,e,f,g,_}:=h;show{a,_,b,e,f,g,trivial}
 |_=>show o.elim
def EnvOk.af7(E:EnvOk K u O0 H O p ρ){a:bb}{sl:Sl}(i:Nat)(v:∀(j:Nat) (y:Sl),i≠j->ρ[j]?=some y->HN y->p[j]?≠some (some (V.ref a)))(r:bK K u H O (some (some (V.ref a))) sl):
  EnvOk K u O0 H O (p.set i (some (V.ref a))) (ρ.set i sl)where
 len:=by exists E.len
 same:=E.same
 sub:=E.sub
 trk:=E.trk
 trk0:=E.trk0
 tab:=E.tab
 slot:=λj s h=>by
  by_cases d:i=j
  .subst d;let{e,A}:=v9 h;subst e;rw[aBf (by rw[E.len];show A)];show r
  rw[l6 d]at h⊢;show E.slot j s h
 inj:=λj k x y b n o w z g m=>by
  have at_:∀(l:Nat),i=l->(p.set i<|some<|V.ref a)[l]?=some (some<|V.ref b)->b=a:=λl e q=>by subst e;let{e,_}:=v9 q;injection e with e;injection e
  by_cases d:i=j
  .by_cases f:i=k
   .show d.symm.trans f
   exfalso;have t:=at_ j d g;subst t;rw[l6 f]at o m;show v k y f o z m
  by_cases f:i=k
  .exfalso;have t:=at_ k f m;subst t;rw[l6 d]at n g;show v j x d n w g
  rw[l6 d]at n g;rw[l6 f]at o m;show E.inj j k x y b n o w z g m
def j5(h:H p=none)(o:HO):Same H (upd H p o):=λb u q=>by rw[k7 (t5 q h)];show q
def EnvOk.ab9(E:EnvOk K f O0 H O g ρ)(h:H a=none)(r:K.lookup a=none)(m:Mt u):EnvOk K f O0 (upd H a u) (λb=>O b\/b=a) g ρ:=by
 have s:=j5 h u;have ne:∀b Y,aF K H b Y->b≠a:=λb Y q z=>by
  subst z;rcases q with(q|⟨o,q⟩)|⟨o,_,_,q,_⟩
  .grind
  .lia
  grind
 show{E.len,E.same.trans s,λb z=>.inl (E.sub b z),λb z=>?_,E.trk0,E.tab.same s,λi k e=>?_,E.inj}
 .rcases z with z|z
  .let{o,q,m}:=E.trk b z;show{o,s b o q,m}
  subst z;show{_,j2,m}
 show(E.slot i k e).move (λ_ _ q=>s.tup q) (λb Y n q=>{λz=>z.elim n (ne b Y q),s.sqp q}) (λ_ _ _ q=>s _ _ q) (λb o d n=>{s b o d,λz=>z.elim n λe=>by subst e;rw[h]at d;cases d}) λ_ b o _ l p=>{.inl l,s _ _ p}
def ZM(h:H a=none)(d:K.lookup a=none)(q:aF K H b Y):b≠a:=λz=>by
 subst z;rcases q with(q|⟨o,q⟩)|⟨o,_,_,q,_⟩
 .nofun
 .grind
 nofun
def Reps.ab9(h:H a=none)(e:K.lookup a=none)(r:Reps K H O v d):Reps K (upd H a u) (λb=>O b\/b=a) v d:=
 r.mono (λ_ _ q=>(j5 h u).tup q) (λb Y n q=>{λz=>z.elim n (ZM h e q.sq),(j5 h u).sqp q}) λb f n q=>{λz=>z.elim n (t5 q h),j5 h u _ _ q}
def EnvOk.ad9(E:EnvOk K d O0 H O f ρ)(i:Nat)(h:H a=none)(g:K.lookup a=none)(m:Mt u)(r:d a=none->bK K d (upd H a u) (λb=>O b\/b=a) (some (some (V.ref a))) sl):
  EnvOk K d O0 (upd H a u) (λb=>O b\/b=a) (f.set i (some (.ref a))) (ρ.set i sl):=by
 have k:d a=none:=by
  cases e:d a with
  |none=>rfl
  |some o=>have:=E.same a o e;rw[h]at this;cases this
 show(E.ab9 h g m).af7 i (λj y _ e o q=>?_) (r k);let{b,w,l,_,_,n,_}:=(E.slot j y e).at_ o
 nofun
def wQ(h:H a=some u)(m:Mt u)(q:R4 K H b Y):R4 K (upd H a u') b Y:=by
 have ne:∀w,H b=some w->¬Mt w->b≠a:=λw e n z=>by subst z;rw[h]at e;cases e;show n m
 rcases q with(q|⟨o,q⟩)|q
 .show .inl (.inl ((k7<|ne _ q λz=>z)▸q))
 .show .inl (.inr {o,by rw[k7 (ne _ q λz=>z)];show q})
 show .inr q
def wW(d:O a)(n:¬O b)(q:eS K H b Y):eS K (upd H a u') b Y:=by
 have ne:b≠a:=λz=>by subst z;show n d
 show q.imp (λq=>(k7 ne)▸q) λz=>{?_,z.2};let{q,_}:=z;rcases q with(q|⟨o,q⟩)|q
 .show .inl (.inl ((k7 ne)▸q))
 .show .inl (.inr {o,by rw[k7 ne];show q})
 show .inr q
def Rep.upd(h:H a=some u)(m:Mt u)(e:O a)(r:Rep K H O v d):Rep K (upd H a u') O v d:=r.mono (λ_ _ q=>wQ h m q) (λ_ _ n q=>{n,wW e n q}) λb _ n q=>{n,by rw[k7 (λz=>n (by rw[z];show e))];show q}
def Reps.upd(h:H a=some u)(m:Mt u)(e:O a)(r:Reps K H O v d):Reps K (upd H a u') O v d:=r.mono (λ_ _ q=>wQ h m q) (λ_ _ n q=>{n,wW e n q}) λb _ n q=>{n,by rw[k7 (λz=>n (by rw[z];show e))];show q}
def EnvOk.ad8{i:Nat}{sl sl':Sl}{a:bb}{u u':HO}(E:EnvOk K t O0 H O U ρ)(e:ρ[i]?=some sl)(v:HN sl)(A:U[i]?=some (some (V.ref a)))(B:H a=some u)(m':Mt u')(ow':HN sl')
  (r:O a->t a=none->Mt u->bK K t (upd H a u') O (some (some (V.ref a))) sl'):EnvOk K t O0 (upd H a u') O U (ρ.set i sl')/\Kp H O (upd H a u') O:=by
 let{b,w,d,C,Y,p4,m}:=(E.slot i sl e).at_ v;rw[A]at d;injection d with d;injection d with d;injection d with d;subst d;rw[B]at p4;cases p4;have kp:Kp H O (upd H a u') O:=λb o g n=>{by rw[k7 (λz=>by subst z;show n C)];show g,n};have nf:∀b w,H b=some w->¬Mt w->upd H a u' b=some w:=λb w q n=>by rw[k7 (λz=>by subst z;rw[B]at q;cases q;show n m)];show q
 show{{by simpa using E.len,λb o q=>?_,E.sub,λb z=>?_,E.trk0,λp hp=>nf _ _ (E.tab p hp) λz=>z,λj s h=>?_,λj k x y b I J o1 o2 L q4=>?_},kp}
 .rw[k7 (λz=>by subst z;rw[Y]at q;cases q)];show E.same b o q
 .by_cases g:b=a
  .subst g;show{_,j2,m'}
  let{o,q,m}:=E.trk b z;show{o,by rw[k7 g];show q,m}
 .by_cases N:i=j
  .subst N;let{e',_}:=v9 h;subst e';rw[A];show r C Y m
  rw[l6 N]at h;show(E.slot j s h).move (λ_ _ q=>wQ B m q) (λ_ _ n q=>{n,wW C n q}) (λb o w q=>nf _ _ q λz=>z) kp λo b w I J L=>{J,?_};rw[k7 (λz=>by subst z;show N (E.inj i j sl s b e h v o A I))];show L
 have f:∀l z,(ρ.set i sl')[l]?=some z->HN z->∃z',ρ[l]?=some z'/\HN z':=λl z q o=>by
  by_cases hl:i=l
  .subst hl;show{sl,e,v}
  rw[l6 hl]at q;show{z,q,o}
 let{x',u1,Q}:=f j x I o1;let{y',u2,T}:=f k y J o2;show E.inj j k x' y' b u1 u2 Q T L q4
def EnvOk.ad2{i:Nat}{sl sl':Sl}{a:bb}(E:EnvOk K u O0 H O v ρ)(e:ρ[i]?=some sl)(A:HN sl)(B:v[i]?=some (some (V.ref a)))(no:¬HN sl')(r:bK K u H (λb=>O b/\b≠a) (some (some (V.ref a))) sl'):
  EnvOk K u O0 H (λb=>O b/\b≠a) v (ρ.set i sl'):=by
 let{b,w,d,U,J,Y,m}:=(E.slot i sl e).at_ A;rw[B]at d;injection d with d;injection d with d;injection d with d;subst d;show{by simpa using E.len,E.same,λb z=>{E.sub b z,λq=>?_},λb z=>E.trk b z.1,E.trk0,E.tab,λj s h=>?_,λj k x y b f g C I p L=>?_}
 .subst q;let{o,q}:=E.trk0 b z;rw[J]at q;cases q
 .by_cases t:i=j
  .subst t;let{l,_}:=v9 h
   nofun
  rw[l6 t]at h;show(E.slot j s h).move (λ_ _ q=>q) (λ_ _ n q=>{λz=>n z.1,q}) (λ_ _ _ q=>q) (λb o N n=>{N,λz=>n z.1}) λo b w f g p=>{{g,λz=>?_},p};subst z;show t (E.inj i j sl s b e h A o B f)
 have Q:i≠j:=λz=>by subst z;let{l,_}:=v9 f;subst l;show no C
 have T:i≠k:=λz=>by subst z;let{l,_}:=v9 g;subst l;show no I
 rw[l6 Q]at f;rw[l6 T]at g;show E.inj j k x y b f g C I p L
end
def XW(X:Cx)(e:Str)(H:Hp):Prop:=False
def RC(X:Cx)(H:Hp)(O:bb->Prop)(r:R D)(Q:VK):Prop:=match r with
 |.ok d=>∀v a,Same H a->Rep X.K a O v d->Q v a
 |.ex e=>∀a,Same H a->XW X e a
 |.bad=>False
def z6(K:km)(H:Hp)(O:bb->Prop)(v:V)(d:D):Prop:=Rep K H O v d\/∃a b e,v=.ref a/\d=.lst e/\eS K H a b/\Reps K H O b e
def SJ(X:Cx)(H:Hp)(O:bb->Prop)(r:R D)(Q:VK):Prop:=match r with
 |.ok d=>∀v a,Same H a->z6 X.K a O v d->Q v a
 |.ex e=>∀a,Same H a->XW X e a
 |.bad=>False
def wB(X:Cx)(H:Hp)(r:R Bool)(Q:Bool->Hp->Prop):Prop:=match r with
 |.ok b=>∀a,Same H a->Q b a
 |.ex e=>∀a,Same H a->XW X e a
 |.bad=>False
def JQ(X:Cx)(H:Hp)(O:bb->Prop)(r:R (List D))(Q:List V->Hp->Prop):Prop:=match r with
 |.ok d=>∀b a,Same H a->Reps X.K a O b d->Q b a
 |.ex e=>∀a,Same H a->XW X e a
 |.bad=>False
def LY(X:Cx)(H:Hp)(O:bb->Prop)(r:R (List D))(Q:List V->Hp->Prop):Prop:=match r with
 |.ok d=>∀b a,Same H a->Paired (z6 X.K a O) b d->Q b a
 |.ex e=>∀a,Same H a->XW X e a
 |.bad=>False
def tD(X:Cx)(f:Ev->R D):TE:=λb H Q=>∃d e O a,EnvOk X.K d e H O b a/\RC X H O (f a) Q
def tDB(X:Cx)(f:Ev->R D):TE:=λb H Q=>∃d e O a,EnvOk X.K d e H O b a/\SJ X H O (f a) Q
def tDT(X:Cx)(f:Ev->R Bool):TT:=λb H Q=>∃d e O a,EnvOk X.K d e H O b a/\wB X H (f a) Q
def tDs(X:Cx)(f:Ev->R (List D)):TA:=λb H Q=>∃d e O a,EnvOk X.K d e H O b a/\JQ X H O (f a) Q
def a2d(X:Cx)(f:Ev->R (List D)):TA:=λb H Q=>∃d e O a,EnvOk X.K d e H O b a/\LY X H O (f a) Q
def PD(X:Cx)(e:cv)(f:Ev->R D):Prop:=PE X e (tD X f)
def PB(X:Cx)(e:cv)(f:Ev->R D):Prop:=PE X e (tDB X f)
def FH(X:Cx)(e:cv)(f:Ev->R Bool):Prop:=PT X e (tDT X f)
def KJ(X:Cx)(es:List cv)(f:Ev->R (List D)):Prop:=PA X es (tDs X f)
def ez(X:Cx)(es:List cv)(f:Ev->R (List D)):Prop:=PA X es (a2d X f)
def SG{r:Hp->(bb->Prop)->Ev->VK->Prop}(h:PE X e t)(i:∀a H Q b d O ρ,EnvOk X.K b d H O a ρ->r H O ρ Q->t a H Q):PE X e λa H Q=>∃b d O ρ,EnvOk X.K b d H O a ρ/\r H O ρ Q:=λf s a H Q I q=>h f s a H Q I (let⟨b,d,O,ρ,E,q⟩:=q;i a H Q b d O ρ E q)
def ptI{r:Hp->(bb->Prop)->Ev->(Bool->Hp->Prop)->Prop}(h:PT X e t)(i:∀a H Q b d O ρ,EnvOk X.K b d H O a ρ->r H O ρ Q->t a H Q):PT X e λa H Q=>∃b d O ρ,EnvOk X.K b d H O a ρ/\r H O ρ Q:=λf s a H Q I q=>h f s a H Q I (let⟨b,d,O,ρ,E,q⟩:=q;i a H Q b d O ρ E q)
def paI{r:Hp->(bb->Prop)->Ev->(List V->Hp->Prop)->Prop}(h:PA X es t)(i:∀a H Q b d O ρ,EnvOk X.K b d H O a ρ->r H O ρ Q->t a H Q):PA X es λa H Q=>∃b d O ρ,EnvOk X.K b d H O a ρ/\r H O ρ Q:=λf e s a H Q I q=>h f e s a H Q I (let⟨b,d,O,ρ,E,q⟩:=q;i a H Q b d O ρ E q)
def wF{β:Type}{r:Hp->(bb->Prop)->Ev->β->Prop}{G:List (bb×Obj)->a9->St->Hp->β->Prop}(h:∀a s b H Q,Inv X a b H s->∀d e O ρ,EnvOk X.K d e H O b ρ->r H O ρ Q->G a s b H Q)(a s b H Q)(I:Inv X a b H s)(q:∃d e O ρ,EnvOk X.K d e H O b ρ/\r H O ρ Q):G a s b H Q:=by grind
def PD.pb(h:PD X e f):PB X e f:=SG h λl H Q b g O a E q=>⟨b,g,O,a,E,by
 cases e:f a with
 |ok d=>rw[e]at q;showλv k s r=>q v k s (.inl r)
 |ex x=>rw[e]at q;show q
 |bad=>rw[e]at q;show q⟩
def RC.seq{O:bb->Prop}(h:RC X H O (r.bind g) Q):
  RC X H O r λv b=>∃d,r=.ok d/\Same H b/\Rep X.K b O v d/\RC X b O (g d) Q:=by
 cases r with
 |ok d=>
  intro v b f m;show{d,rfl,f,m,?_};have a:RC X H O (g d) Q:=h;cases e:g d with
  |ok o=>rw[e]at a;showλw k l n=>a w k (f.trans l) n
  |ex x=>rw[e]at a;showλk l=>a k (f.trans l)
  |bad=>rw[e]at a;show a
 |ex x=>show h
 |bad=>show h
def SJ.seq{O:bb->Prop}(h:RC X H O (r.bind g) Q):
  SJ X H O r λv b=>∃d,r=.ok d/\Same H b/\z6 X.K b O v d/\RC X b O (g d) Q:=by
 cases r with
 |ok d=>
  intro v b f m;show{d,rfl,f,m,?_};have a:RC X H O (g d) Q:=h;cases e:g d with
  |ok o=>rw[e]at a;showλw k l n=>a w k (f.trans l) n
  |ex x=>rw[e]at a;showλk l=>a k (f.trans l)
  |bad=>rw[e]at a;show a
 |ex x=>show h
 |bad=>show h
def RC.grow{O:bb->Prop}(h:RC X H O r Q)(e:Same H f):RC X f O r Q:=by
 cases r with
 |ok d=>showλw a b g=>h w a (e.trans b) g
 |ex x=>showλa b=>h a (e.trans b)
 |bad=>show h
end
section
variable [Tabs]
section
variable{X:Cx}
def z6.same(e:Same H H')(r:z6 X.K H O v d):z6 X.K H' O v d:=by
 rcases r with r|⟨a,b,f,g,h,k,l⟩
 .show .inl (r.same e)
 show .inr {a,b,f,g,h,e.sqp k,l.same e}
def z6.lstP{K:km}{ds:List D}(r:z6 K H O v (.lst ds)):∃a vs,v=.ref a/\eS K H a vs/\Reps K H O vs ds:=by
 rcases r with r|⟨a,vs,g,d,b,e,f⟩
 .cases r with|lst h n r=>show{_,_,rfl,h,r}
 injection b with b;subst b;show{a,vs,d,e,f}
def z6.aa5{K:km}{ds:List D}(r:z6 K H O v (.lst ds)):∃a vs,v=.ref a/\aF K H a vs/\Reps K H O vs ds:=by let{a,vs,e,h,q}:=r.lstP;show{a,vs,e,h.sq,q}
def z6.ag1{K:km}{U:List (D×D)}(r:z6 K H O v (.dct U)):∃a o es,v=.ref a/\H a=some (.ext λh=>h.get? a=some o)/\AY a o es/\RepsD K H O es U/\(U.map (·.1)).Nodup:=by
 rcases r with r|⟨a,e,es,f,b,g,k⟩
 .cases r with|dct h x n d r=>show{_,_,_,rfl,h,x,r,d}
 cases b
def z6.tupI{K:km}{ds:List D}(r:z6 K H O v (.tup ds)):∃a vs,v=.ref a/\R4 K H a vs/\Reps K H O vs ds:=by
 rcases r with r|⟨a,vs,d,e,b,f,g⟩
 .cases r with|tup h r=>show{_,_,rfl,h,r}
 cases b
def z6.aa6{K:km}{i:Int}(r:z6 K H O v (.int i)):v=.int i:=by
 rcases r with r|⟨a,d,e,f,b,g,h⟩
 .cases r;rfl
 cases b
def z6.blI{K:km}{i:Bool}(r:z6 K H O v (.bl i)):v=.bl i:=by
 rcases r with r|⟨a,d,e,f,b,g,h⟩
 .cases r;rfl
 cases b
def z6.ac1{K:km}(r:z6 K H O v .non):v=.non:=by
 rcases r with r|⟨a,d,e,f,b,g,h⟩
 .cases r;rfl
 cases b
def z6.ac4{K:km}{i:Str}(r:z6 K H O v (.str i)):v=.str i:=by
 rcases r with r|⟨a,d,e,f,b,g,h⟩
 .cases r;rfl
 cases b
end
def G9(i:Nat)(ρ:Ev):R D:=match ρ[i]? with
 |some (.v d)=>.ok d
 |_=>.bad
def cM(i:Nat)(ρ:Ev):R D:=match ρ[i]? with
 |some (.v d)=>.ok d
 |some (.o Y)=>.ok (.lst Y)
 |_=>.bad
section
def c5(i:Nat)(a:X.N[i]?=some x<|>1)(b:xO X.env.scope x<|>5)(f:(x==lb)=false<|>2)(g:(x==lh)=false<|>2):PD X (.Name x h) (G9 i):=SG (N5 a b f g) λr H Q s t O k E q=>by
 unfold G9 at q;cases e:k[i]? with
 |none=>rw[e]at q;show q.elim
 |some l=>
  rw[e]at q;cases l with
  |no=>show q.elim
  |x C=>show q.elim
  |c m u=>show q.elim
  |d U=>show q.elim
  |o Y=>show q.elim
  |v d=>let{v,n,p}:=E.val i d e;show{v,n,q v H (Same.refl H) p}
def d8(i:Nat)(g:X.N[i]?=some x<|>1)(h:xO X.env.scope x<|>5)(k:(x==lb)=false<|>2)(l:(x==lh)=false<|>2):PB X (.Name x n) (cM i):=SG (N5 g h k l) λw H Q y z O p E q=>by
 unfold cM at q;cases e:p[i]? with
 |none=>rw[e]at q;show q.elim
 |some r=>
  rw[e]at q;cases r with
  |no=>show q.elim
  |x C=>show q.elim
  |c m A=>show q.elim
  |d U=>show q.elim
  |o Y=>let{a,s,b,f,B,t,u}:=E.own i Y e;show{_,b,q _ H (Same.refl H) (.inr {a,s,Y,rfl,rfl,eS.of t,u})}
  |v d=>let{v,b,f}:=E.val i d e;show{v,b,q v H (Same.refl H) (.inl f)}
def SH(d:D)(_:Ev):R D:=.ok d
def uZ(h:PE X e (tC v))(r:∀H O,Rep X.K H O v d):PD X e (SH d):=SG h λa H Q b f O g E q=>q v H (Same.refl H) (r H O)
def u4{j a}:PD X (.Constant (.int i) j a) (SH (.int i)):=uZ my λ_ _=>.int
def aO{j a}:PD X (.Constant (.bool i) j a) (SH (.bl i)):=uZ tw λ_ _=>.bl
def BX{j a}:PD X (.Constant .none j a) (SH .non):=uZ ZY λ_ _=>.non
def kQ(X:Cx)(f:av->av->Sem av)(g:D->D->R D):Prop:=
 ∀(H:Hp) (O:bb->Prop) (x y:V) (a b:D) (Q:VK),(∀p,H p=none->¬O p)->z6 X.K H O x a->z6 X.K H O y b->RC X H O (g a b) Q->∃r,mY X f r/\r x y H Q
def a2b(X:Cx)(O:bb->Prop)(g:D->D->R D)(Q:VK):V->V->Hp->Prop:=λx y H=>∃a b,(∀p,H p=none->¬O p)/\z6 X.K H O x a/\z6 X.K H O y b/\RC X H O (g a b) Q
def nN{f O:bb->Prop}(E:EnvOk X.K m f H O n ρ)(q:RC X H O ((o ρ).bind λx=>(s ρ).bind λy=>g x y) Q):
  tDB X o n H λx h=>tDB X s n h λy k=>a2b X O g Q x y k:=by
 show{m,f,O,ρ,E,?_};have a:=SJ.seq q;revert a;cases L:o ρ with
 |ok v=>
  intro a x h t w;let{d,e,_,r,z}:=a x h t w;cases e;have u:=E.grow t;show{m,f,O,ρ,u,?_};have b:=SJ.seq z;revert b;cases N:s ρ with
  |ok A=>intro b y k l B;let{T,e,_,C,I}:=b y k l B;cases e;show{v,A,λp J=>(u.grow l).fresh J,r.same l,C,I}
  |ex x=>intro b;show b
  |bad=>intro b;show b
 |ex x=>intro a;show a
 |bad=>intro a;show a
def W6(f:kQ X (eu op) g)(k:PB X a l)(m:PB X b n):PD X (.BinOp a op b o) (λρ=>(l ρ).bind λx=>(n ρ).bind λy=>g x y):=by show wF λd s p H Q I Y O0 O ρ E q=>(wpAny_BinOp<|LK k m I (nN E q) λv u t x y e w z A h=>?_);let{B,C,J,L,N,q}:=h;let{r,T,U}:=f e O x y B C Q J L N q;show T d t p e x y v u Q w z A U
def oP(f:kQ X (eY op) g)(k:PB X a l)(m:PB X b n)(o:i5 op b=false:=by first|show QB _|with_unfolding_all rfl):
  PD X (.Compare a [op] [b] p) (λρ=>(l ρ).bind λx=>(n ρ).bind λy=>g x y):=by
 show wF λd s t H Q I H9 O0 O ρ E q=>(wpAny_Compare1 (LK k m I (nN E q) λv u w x y e z A B h=>?_) o);let{C,J,L,N,T,q}:=h;let{r,U,Y}:=f e O x y C J Q L N T q;show U d w t e x y v u Q z A B Y
def xH:D->R Bool
 |.bl b=>.ok b
 |_=>.bad
def wZ{O:bb->Prop}{Q:Bool->Hp->Prop}(h:wB X H (r.bind xH) Q):RC X H O r λv a=>∃c,v=.bl c/\Q c a:=by
 cases r with
 |ok d=>
  cases d with
  |bl b=>intro v a e f;cases f;show{b,rfl,h a e}
  |_=>show(h).elim
 |ex x=>show h
 |bad=>show h
def j4(l:kQ X (eY op) g)(m:PB X a n)(o:PB X b p)(t:i5 op b=false:=by first|show QB _|with_unfolding_all rfl):
  FH X (.Compare a [op] [b] w) (λρ=>((n ρ).bind λx=>(p ρ).bind λy=>g x y).bind xH):=by
 show wF λd s A H Q I H9 O0 O ρ E q=>?_;have B:=wZ (O:=O) q;show wpAny_isTrue_Compare1 (LK m o I (nN E B) λv u C x y f J L N h=>?_) t;let{T,U,Y,r1,r2,q}:=h;let{r,hr,hq}:=l f O x y T U _ Y r1 r2 q;show D6 (hr d C A f x y v u _ J L N hq) λc s3 z9=>?_;let{z,H3,I3,r3,k,e,q3}:=z9;subst e;cases r3;show aBD {H3,I3,q3}
def J1(h:PD X e f)(a:(∀whole,isTrue e X.env whole=(do let v<-whole;standAt e.pos;gn [v] (truthy v)))<|>6):FH X e (λρ=>(f ρ).bind xH):=by show ptI (nq h a) λg H Q b d O ρ E q=>{b,d,O,ρ,E,wZ q}
def wB.seq{Q:Bool->Hp->Prop}(h:wB X H (r.bind g) Q):wB X H r λb f=>r=.ok b/\Same H f/\wB X f (g b) Q:=by
 cases r with
 |ok d=>
  intro f k;show{rfl,k,?_};have a:wB X H (g d) Q:=h;cases e:g d with
  |ok n=>rw[e]at a;showλl m=>a l (k.trans m)
  |ex x=>rw[e]at a;showλl m=>a l (k.trans m)
  |bad=>rw[e]at a;show a
 |ex x=>show h
 |bad=>show h
def wB.ag7{O:bb->Prop}(h:RC X H O (r.bind g) Q):wB X H r λb a=>r=.ok b/\Same H a/\RC X a O (g b) Q:=by
 cases r with
 |ok d=>intro a e;show{rfl,e,?_};have f:RC X H O (g d) Q:=h;show f.grow e
 |ex x=>show h
 |bad=>show h
def wB.mono{Q e:Bool->Hp->Prop}(h:wB X H r Q)(i:∀b a,Q b a->e b a):wB X H r e:=by
 cases r with
 |ok d=>showλa f=>i _ _ (h a f)
 |ex x=>show h
 |bad=>show h
def RC.mono{O:bb->Prop}(h:RC X H O r Q)(i:∀b a,Q b a->e b a):RC X H O r e:=by
 cases r with
 |ok d=>showλv a f g=>i _ _ (h v a f g)
 |ex x=>show h
 |bad=>show h
def uH(X:Cx)(e:cv)(f:Ev->R Bool):Prop:=PW X e (tDT X f)
def ED(f g:Ev->R Bool):Ev->R Bool:=λa=>(f a).bind λb=>if b=true then g a else .ok false
def orB(f g:Ev->R Bool):Ev->R Bool:=λa=>(f a).bind λb=>if b=true then .ok true else g a
def YY(f:Ev->R Bool):Ev->R Bool:=λa=>(f a).bind λb=>.ok (!b)
variable{rest:List cv}
def dJ(b:FH X a f):uH X (.BoolOp .And [a] d) f:=WP b
def bS(b:FH X a f):uH X (.BoolOp .Or [a] d) f:=YZ b
def QS(h:PW X e t)(i:∀a H Q,t' a H Q->t a H Q):PW X e t':=λd b s a H Q I q=>h d b s a H Q I (i a H Q q)
def iJ(m:FH X a f)(n:uH X (.BoolOp .And (b::rest) d) g):uH X (.BoolOp .And (a::b::rest) d) (ED f g):=
 QS (YM m n) λr H Q ⟨e,h,O,k,E,q⟩=>⟨e,h,O,k,E,wB.mono (wB.seq q)<|by
  rintro b o ⟨_,p,l⟩;cases b with
  |true=>rw[jk rfl];show{e,h,O,k,E.grow p,l}
  |false=>rw[jl aBB];show l o (Same.refl _)⟩
def eN(m:FH X a f)(n:uH X (.BoolOp .Or (b::rest) d) g):uH X (.BoolOp .Or (a::b::rest) d) (orB f g):=
 QS (uq m n) λr H Q ⟨e,h,O,k,E,q⟩=>⟨e,h,O,k,E,wB.mono (wB.seq q)<|by
  rintro b o ⟨_,p,l⟩;cases b with
  |false=>rw[jl aBB];show{e,h,O,k,E.grow p,l}
  |true=>rw[jk rfl];show l o (Same.refl _)⟩
def uH.pt(h:uH X e f):FH X e f:=PW.pt h
def Y0(d:FH X a f):FH X (.UnaryOp .Not a e) (YY f):=
 ptI (YS d) λn H Q g h O k E q=>{g,h,O,k,E,wB.mono (wB.seq q)<|by rintro b l ⟨_,o,m⟩;show m l (Same.refl _)}
def a3y(f:Ev->R D)(g:Ev->R D):Ev->R D:=λa=>((f a).bind xH).bind λb=>if b=true then g a else .ok (.bl false)
def ax{op}{f:Ev->R D}(h:PD X a f):PD X (.BoolOp op [a] b) f:=YQ h
def kj{f g:Ev->R D}(n:PD X a f)(o:PD X (.BoolOp .And (b::rest) d) g):PD X (.BoolOp .And (a::b::rest) d) (a3y f g):=
 SG (cj n o) λs H Q h k O l E q=>⟨h,k,O,l,E,RC.mono (wZ<|wB.ag7 q) λv p ⟨c,e,_,r,m⟩=>⟨c,e,by
  cases c with
  |true=>rw[jk rfl];show{h,k,O,l,E.grow r,m}
  |false=>rw[jl aBB];show m _ p (Same.refl _) .bl⟩⟩
def zw:D->R D
 |.int i=>.ok (.int (-i))
 |_=>.bad
def pI{f:Ev->R D}(e:PD X a f):PD X (.UnaryOp .USub a g) (λρ=>(f ρ).bind zw):=
 SG (a0o aq e) λo H Q h k O ρ E q=>⟨h,k,O,ρ,E,by
  show RC.mono (RC.seq q) λv l m=>?_;let{d,_,p,n,b}:=m;cases d with
  |int i=>cases n;show{i,rfl,b _ l (Same.refl _) .int}
  |_=>show(show False from b).elim⟩
def JQ.seq{H:Hp}{O:bb->Prop}{r:R (List D)}{g:List D->R D}{Q:VK}(h:RC X H O (r.bind g) Q):
  JQ X H O r λv a=>∃d,r=.ok d/\Same H a/\Reps X.K a O v d/\RC X a O (g d) Q:=by
 cases r with
 |ok d=>showλv a b e=>{d,rfl,b,e,(h).grow b}
 |ex x=>show h
 |bad=>show h
def JQ.mono{O:bb->Prop}{Q e:List V->Hp->Prop}(h:JQ X H O r Q)(i:∀b a,Q b a->e b a):JQ X H O r e:=by
 cases r with
 |ok d=>showλv a f g=>i _ _ (h v a f g)
 |ex x=>show h
 |bad=>show h
def LY.seq{H:Hp}{O:bb->Prop}{r:R (List D)}{g:List D->R D}{Q:VK}(h:RC X H O (r.bind g) Q):
  LY X H O r λv a=>∃d,r=.ok d/\Same H a/\Paired (z6 X.K a O) v d/\RC X a O (g d) Q:=by
 cases r with
 |ok d=>showλv a b e=>{d,rfl,b,e,(h).grow b}
 |ex x=>show h
 |bad=>show h
def SJ.mono{O:bb->Prop}(h:SJ X H O r Q)(i:∀b a,Q b a->e b a):SJ X H O r e:=by
 cases r with
 |ok d=>showλv a f g=>i _ _ (h v a f g)
 |ex x=>show h
 |bad=>show h
def p5(f:Ev->R D)(g:Ev->R (List D)):Ev->R (List D):=λa=>(f a).bind λd=>(g a).bind λb=>.ok (d::b)
def N8:Ev->R (List D):=λ_=>.ok []
def o9:KJ X [] N8:=paI Z5 λa H Q b d O e E q=>q [] H (Same.refl _) .nil
def i7{f:Ev->R D}{g:Ev->R (List D)}(p:PD X e f)(r:KJ X es g)(s:a5 (e::es) X.env=(false,dC e X.env)::a5 es X.env<|>1):KJ X (e::es) (p5 f g):=
 paI (G0 p r s) λy H Q n o O a E q=>⟨n,o,O,a,E,by
  unfold p5 at q;cases h:f a with
  |ok d=>
   rw[h]at q;intro v z k t;show{n,o,O,a,E.grow k,?_};cases l:g a with
   |ok A=>rw[l]at q;showλu m b w=>q (v::u) m (k.trans b) (.cons (t.same b) w)
   |ex x=>rw[l]at q;showλm b=>q m (k.trans b)
   |bad=>rw[l]at q;show q
  |ex x=>rw[h]at q;show q
  |bad=>rw[h]at q;show q⟩
def w8:ez X [] N8:=paI Z5 λa H Q b d O e E q=>q [] H (Same.refl _) .nil
def o6{f:Ev->R D}{g:Ev->R (List D)}(p:PB X e f)(r:ez X es g)(s:a5 (e::es) X.env=(false,dC e X.env)::a5 es X.env<|>1):ez X (e::es) (p5 f g):=
 paI (G0 p r s) λy H Q n o O a E q=>⟨n,o,O,a,E,by
  unfold p5 at q;cases h:f a with
  |ok d=>
   rw[h]at q;intro v z k t;show{n,o,O,a,E.grow k,?_};cases l:g a with
   |ok A=>rw[l]at q;showλu m b w=>q (v::u) m (k.trans b) (.cons (t.same b) w)
   |ex x=>rw[l]at q;showλm b=>q m (k.trans b)
   |bad=>rw[l]at q;show q
  |ex x=>rw[h]at q;show q
  |bad=>rw[h]at q;show q⟩
def cI(ds:List D):R D:=if ds.length<=sizeLine then .ok (.tup ds)else .bad
def wD(ds:List D):R D:=if ds.length<=sizeLine then .ok (.lst ds)else .bad
def wM{f:Ev->R (List D)}{e}(h:KJ X es f):PD X (.Tuple es e g) (λρ=>(f ρ).bind cI):=
 SG (ZZ h) λn H Q k l O ρ E q=>⟨k,l,O,ρ,E,JQ.mono (JQ.seq q)<|by
  rintro o r ⟨s,_,t,b,a⟩;unfold cI at a;split at a
  .rename_i m;show{by rw[b.length];show m,λp d=>a (.ref p) _ (j5 d _) (.tup (R4.of j2) (b.same<|j5 d _))}
  show a.elim⟩
def dM{f:Ev->R (List D)}(h:KJ X es f):PD X (.List es e) (λρ=>(f ρ).bind wD):=
 SG (QT h) λn H Q g k O ρ E q=>⟨g,k,O,ρ,E,JQ.mono (JQ.seq q)<|by
  rintro o r ⟨s,_,l,d,a⟩;unfold wD at a;split at a
  .rename_i m;show{by rw[d.length];show m,λp b=>a (.ref p) _ (j5 b _) (.lst (eS.of j2) ((E.grow l).fresh b) (d.same<|j5 b _))}
  show a.elim⟩
def cQ(X:Cx)(f:av)(g:List D->R D):Prop:=
 ∀(H:Hp) (O:bb->Prop) (a:List V) (b:List D) (Q:VK),(∀p,H p=none->¬O p)->Paired (z6 X.K H O) a b->RC X H O (g b) Q->∃r,xZ X f r/\r a H Q
def V8{x:Str}{id:String}{p:Pos}{f:Ev->R (List D)}{g:List D->R D}(n:cQ X (.builtin id) g)(o:ez X (e::es) f)(t:Gl X x<|>1)(u:X.mg x=none<|>4)(v:dm x=some (.builtin id)<|>3)(w:x≠ "__name__"<|>2)
  (y:(x==lb)=false<|>2) (A:a5 (e::es) X.env=(false,dC e X.env)::a5 es X.env<|>1) (B:(dq b (a5 es X.env)).any (·.1)=false<|>1):
  PD X (.Call (.Name x p) (e::es) [] b) (λρ=>(f ρ).bind g):=by
 show wF λa s k H Q I C J O ρ E q=>(aAK<|K0 I t u v ?_ w y);show aBl (D6 (o b a s k H _ I {C,J,O,ρ,E,LY.seq q}) λL N z=>?_) A B;let{l,m,T,U,d,_,Y,r,h}:=z;let{r',hr,hq}:=n m O l d Q (λp hp=>(E.grow Y).fresh hp) r h;show hr a N k m l L Q T U hq
def aK{x:Str}{T:String}{p:Pos}{f:Ev->R (List D)}{g:List D->R D}(n:cQ X (.type T) g)(o:ez X (e::es) f)(t:Gl X x<|>1)(u:X.mg x=none<|>4)(v:dm x=some (.type T)<|>3)(w:x≠ "__name__"<|>2)
  (y:(x==lb)=false<|>2) (A:a5 (e::es) X.env=(false,dC e X.env)::a5 es X.env<|>1) (B:(dq b (a5 es X.env)).any (·.1)=false<|>1):
  PD X (.Call (.Name x p) (e::es) [] b) (λρ=>(f ρ).bind g):=by
 show wF λa s k H Q I C J O ρ E q=>(aAK<|K0 I t u v ?_ w y);show aBb (D6 (o b a s k H _ I {C,J,O,ρ,E,LY.seq q}) λL N z=>?_) A B;let{l,m,U,Y,d,_,sm,r,h}:=z;let{r',hr,hq}:=n m O l d Q (λp hp=>(E.grow sm).fresh hp) r h;show hr a N k m l L Q U Y hq
end
mutual
def v6:D->D->Bool
 |.non,.non=>true
 |.bl a,.bl b=>a==b
 |.bl a,.int b=>(if a then 1 else 0)==b
 |.int a,.bl b=>a==(if b then 1 else 0)
 |.int a,.int b=>a==b
 |.str a,.str b=>a==b
 |.tup Y,.tup d=>X4 Y d
 |.lst Y,.lst d=>X4 Y d
 |.dct _,.dct _=>true
 |_,_=>false
def X4:List D->List D->Bool
 |[],[]=>true
 |x::Y,y::a=>v6 x y&&X4 Y a
 |_,_=>false
end
mutual
def A5:D->Nat
 |.tup Y=>w9 Y+1
 |.lst Y=>w9 Y+1
 |.dct _=>dA
 |_=>0
def w9:List D->Nat
 |[]=>0
 |x::Y=>max (A5 x) (w9 Y)
end
mutual
theorem L9:∀d:D,v6 d d=true:=by
 intro a;cases a with
 |non=>simp[v6]
 |bl b=>simp[v6]
 |int i=>simp[v6]
 |str x=>simp[v6]
 |tup Y=>rw[v6];show lP Y
 |lst Y=>rw[v6];show lP Y
 |dct=>simp[v6]
theorem lP:∀ds:List D,X4 ds ds=true
 |[]=>by simp[X4]
 |x::Y=>by rw[X4,L9 x,lP Y];rfl
end
def lX(Y d:List D)(j:Nat):Bool:=match Y[j]?,d[j]? with
 |some a,some b=>v6 a b
 |_,_=>false
theorem gN:∀(Y a:List D),X4 Y a=((aBm (min Y.length a.length)).all (lX Y a)&&(Y.length==a.length))
 |[],[]=>by simp[X4]
 |[],_::_=>by simp[X4]
 |_::_,[]=>by simp[X4]
 |x::Y,y::a=>by
  rw[X4,gN Y a,aAt,aAt,Nat.succ_min_succ,aFo,aFZ,List.all_map];have b:lX (x::Y) (y::a) 0=v6 x y:=rfl;have d:(lX (x::Y) (y::a)∘Nat.succ)=lX Y a:=by
   funext j
   simp[lX]
  have e:(Y.length+1==a.length+1)=(Y.length==a.length):=by rw[aCU];simp
  rw[b,d,e,Bool.and_assoc]
theorem nQ:∀{Y:List D}{d:D}{j:Nat},Y[j]?=some d->A5 d<=w9 Y:=by
 intro a d b h;cases a with
 |nil=>simp at h
 |cons x Y=>
  cases b with
  |zero=>simp at h;subst h;show Nat.le_max_left _ _
  |succ j=>rw[w9];show aAk (nQ (j:=j) (by exists h)) (Nat.le_max_right _ _)
section
def CJ{K:km}{H:Hp}{O:bb->Prop}{a:bb}{d:D}(h:Rep K H O (.ref a) d):(∃vs ds,d=.tup ds/\R4 K H a vs/\Reps K H O vs ds)\/(∃vs ds,d=.lst ds/\aF K H a vs/\Reps K H O vs ds)\/(∃U,d=.dct U/\∃(o:Obj) (es:List ff),H a=some (.ext λh=>h.get? a=some o)/\AY a o es/\RepsD K H O es U):=by
 cases h with
 |tup h r=>show .inl {_,_,rfl,h,r}
 |lst h n r=>show .inr (.inl {_,_,rfl,h,r})
 |dct h x n b r=>show .inr (.inr {_,rfl,_,_,h,x,r})
def XT(I:Inv X b g H s)(h:R4 X.K H a vs)(h':aF X.K H a ws):False:=by let{e,_,p,_}:=I.tuple h;let{d,_,f,_}:=I.list h';show kb rfl (SeqAt.ne_of_list_tuple f.isList p)
def XE{o:Obj}(I:Inv X b f H s)(h':R4 X.K H a vs)(h:H a=some (.ext λh=>h.get? a=some o))(x:o.ExactDict):False:=by let{d,_,{k,g,c,_},_}:=I.tuple h';have e:s.heap.get? _=some _:=(I.hok _ _ h).1;rw[g]at e;cases e;show kb (c.symm.trans x.1) (by symm)
def YI{o:Obj}(I:Inv X b f H s)(h':aF X.K H a vs)(h:H a=some (.ext λh=>h.get? a=some o))(x:o.ExactDict):False:=by let{d,_,p,_}:=I.list h';let{k,g,c,_}:=p.isList;have e:s.heap.get? _=some _:=(I.hok _ _ h).1;rw[g]at e;cases e;show kb (c.symm.trans x.1) (by symm)
mutual
theorem Rep.inj(I:Inv X l y H s):∀{v:V}{d:D},Rep X.K H O v d->∀{d':D},Rep X.K H z v d'->d=d':=by
 intro _ _ m;cases m with
 |non=>intro _ h;cases h;rfl
 |bl=>intro _ h;cases h;rfl
 |int=>intro _ h;cases h;rfl
 |str=>intro _ h;cases h;rfl
 |tup h r=>
  intro _ f;rcases CJ f with⟨_,_,rfl,a,b⟩|⟨_,_,rfl,a,_⟩|⟨_,rfl,_,_,a,x,_⟩
  .have e:=I.ab4 h a;subst e;rw[Reps.inj I r b]
  .show(XT I h a).elim
  show(XE I h a x.2.1).elim
 |lst h _ r=>
  intro _ f;rcases CJ f with⟨_,_,rfl,a,_⟩|⟨_,_,rfl,a,b⟩|⟨_,rfl,_,_,a,x,_⟩
  .show(XT I a h.sq).elim
  .have e:=I.ab2 h.sq a;subst e;rw[Reps.inj I r b]
  show(YI I h.sq a x.2.1).elim
 |dct h x _ _ r=>
  intro _ f;rcases CJ f with⟨_,_,rfl,a,_⟩|⟨_,_,rfl,a,_⟩|⟨_,rfl,_,_,a,n,b⟩
  .show(XE I a h x.2.1).elim
  .show(YI I a h x.2.1).elim
  have o:s.heap.get? _=some _:=(I.hok _ _ h).1;have g:s.heap.get? _=some _:=(I.hok _ _ a).1;rw[o]at g;injection g with g;subst g;let{_,_,A,B,p,q}:=x;let{_,_,t,u,k,w}:=n;rw[p]at k;injection k with k _;subst k;rw[<-q]at r;rw[<-w]at b;rw[RepsD.inj I r b]
theorem Reps.inj(I:Inv X a k H s):∀{v:List V}{d:List D},Reps X.K H O v d->∀{d':List D},Reps X.K H l v d'->d=d':=by
 intro _ _ b;cases b with
 |nil=>intro _ h;cases h;rfl
 |cons h t=>
  intro _ e;cases e with
  |cons f g=>rw[Rep.inj I h f,Reps.inj I t g]
theorem RepsD.inj(I:Inv X e r H s):∀{es:List ff}{U:List (D×D)},RepsD X.K H O es U->∀{f:List (D×D)},RepsD X.K H u es f->U=f
 |_,_,.nil=>λh=>by cases h;rfl
 |_,_,.cons k l m n v t=>λo=>by
  cases o with
  |cons g a b d p q=>rw[k]at g;cases g;cases RelV.inj m b;rw[Rep.inj I l a,Rep.inj I n d,RepsD.inj I t q]
end
def nR(A:cp)(s:a9)(a ws:List av)(Y b:List D):Prop:=∀(j:Nat) (u w:av),a[j]?=some u->ws[j]?=some w->SeqAt.EqAt A.in1 s u w (lX Y b j)
def yX(g:s.heap.IsList l e.toArray)(h:s.heap.IsList b ws.toArray)(e1:e.length=Y.length)(e2:ws.length=d.length)(k:A.units<dA)(o:nR A s e ws Y d):SeqAt.RcAt A s (.ref l) (.ref b) (X4 Y d)/\SeqAt.RcNeAt A s (.ref l) (.ref b) (!X4 Y d):=by
 rw[gN];by_cases a:Y.length=d.length
 .have f:e.toArray.size=ws.toArray.size:=by simp[e1,e2,a]
  have p:min Y.length d.length=e.toArray.size:=by simp[e1,a]
  have m:(Y.length==d.length)=true:=by simp[a]
  have n:∀j (q:j<e.toArray.size) (r:j<ws.toArray.size),SeqAt.EqAt A.in1 s e.toArray[j] ws.toArray[j] (lX Y d j):=λj q r=>o j _ _ (by simp) (by simp);rw[m,Bool.and_true,p];show{SeqAt.RcAt.lists g h f k n,SeqAt.RcNeAt.lists g h f k n}
 have f:(e.toArray.size !=ws.toArray.size)=true:=by simp[e1,e2,a]
 have m:(Y.length==d.length)=false:=by simp[a]
 rw[m,Bool.and_false];show{SeqAt.RcAt.lists_lengths g h f k,SeqAt.RcNeAt.lists_lengths g h f k}
def kL(e:IsTup s.heap l a.toArray)(f:IsTup s.heap b ws.toArray)(e1:a.length=Y.length)(e2:ws.length=d.length)(g:A.units<dA)(n:nR A s a ws Y d):SeqAt.RcAt A s (.ref l) (.ref b) (X4 Y d)/\SeqAt.RcNeAt A s (.ref l) (.ref b) (!X4 Y d):=by
 rw[gN];have o:min Y.length d.length=min a.toArray.size ws.toArray.size:=by simp[e1,e2]
 have p:(Y.length==d.length)=(a.toArray.size==ws.toArray.size):=by simp[e1,e2]
 have h:∀j (k:j<a.toArray.size) (m:j<ws.toArray.size),SeqAt.EqAt A.in1 s a.toArray[j] ws.toArray[j] (lX Y d j):=λj k m=>n j _ _ (by simp[aAd (show j<a.length by exists k)]) (by simp[aAd (show j<ws.length by exists m)]);rw[p,o];show{SeqAt.RcAt.tuples e f g h,SeqAt.RcNeAt.tuples e f g h}
def t8(A:cp):A.in1.units=A.units+1:=rfl
mutual
theorem OW(I:Inv X Q σ H s):∀{x y:V}{z B:D}{v u:av}{A:cp},Rep X.K H O x z->Rep X.K H O' y B->RelV x v->RelV y u->A.units+A5 z<dA->A.units+A5 B<dA->SeqAt.EqAt A s v u (v6 z B):=by
 intro _ _ _ _ v u A T m n b C k;cases T with
 |non=>
  have d:A.units<dA:=by lia
  cases n;cases m with
  |dct=>show kb k (by rw[A5];lia)
  |non=>cases b;show aDY _
  |bl=>cases b;erw[v6];show SeqAt.EqAt.none_bool _
  |int=>let{t,rfl}:=b;erw[v6];show SeqAt.EqAt.none_int _ _
  |str=>let{t,rfl}:=b;erw[v6];show SeqAt.EqAt.none_str _ _
  |tup h r=>cases b;let{_,_,p,_}:=I.tuple h;erw[v6];show SeqAt.EqAt.none_tuple p d
  |lst h _ r=>cases b;let{_,_,p,_}:=I.list h.sq;erw[v6];show SeqAt.EqAt.none_list p.isList d
 |bl=>
  have d:A.units<dA:=by lia
  cases n;cases m with
  |dct=>show kb k (by rw[A5];lia)
  |non=>cases b;erw[v6];show SeqAt.EqAt.bool_none _
  |bl=>cases b;erw[v6];show SeqAt.EqAt.bool_bool _ _
  |int=>let{t,rfl}:=b;erw[v6];show SeqAt.EqAt.bool_int _ _ _
  |str=>let{t,rfl}:=b;erw[v6];show SeqAt.EqAt.bool_str _ _ _
  |tup h r=>cases b;let{_,_,p,_}:=I.tuple h;erw[v6];show SeqAt.EqAt.bool_tuple _ p d
  |lst h _ r=>cases b;let{_,_,p,_}:=I.list h.sq;erw[v6];show SeqAt.EqAt.bool_list _ p.isList d
 |int=>
  have d:A.units<dA:=by lia
  let{U,rfl}:=n;cases m with
  |dct=>show kb k (by rw[A5];lia)
  |non=>cases b;erw[v6];show SeqAt.EqAt.int_none _ _
  |bl=>cases b;erw[v6];show SeqAt.EqAt.int_bool _ _ _
  |int=>let{t,rfl}:=b;erw[v6];show aEQ _ _ _ _
  |str=>let{t,rfl}:=b;erw[v6];show aFX _ _ _ _
  |tup h r=>cases b;let{_,_,p,_}:=I.tuple h;erw[v6];show aFH _ _ p d
  |lst h _ r=>cases b;let{_,_,p,_}:=I.list h.sq;erw[v6];show SeqAt.EqAt.int_list _ _ p.isList d
 |str=>
  have d:A.units<dA:=by lia
  let{U,rfl}:=n;cases m with
  |dct=>show kb k (by rw[A5];lia)
  |non=>cases b;erw[v6];show SeqAt.EqAt.str_none _ _
  |bl=>cases b;erw[v6];show SeqAt.EqAt.str_bool _ _ _
  |int=>let{t,rfl}:=b;erw[v6];show aFY _ _ _ _
  |str=>let{t,rfl}:=b;erw[v6];show SeqAt.EqAt.str_str _ _ _ _
  |tup h r=>cases b;let{_,_,p,_}:=I.tuple h;erw[v6];show SeqAt.EqAt.str_tuple _ _ p d
  |lst h _ r=>cases b;let{_,_,p,_}:=I.list h.sq;erw[v6];show SeqAt.EqAt.str_list _ _ p.isList d
 |@tup a Y ds h r=>
  have d:A.units<dA:=by lia
  cases n;let{E,o,p,_}:=I.tuple h;cases m with
  |dct=>show kb k (by rw[A5];lia)
  |non=>cases b;erw[v6];show SeqAt.EqAt.tuple_none p d
  |bl=>cases b;erw[v6];show SeqAt.EqAt.tuple_bool _ p d
  |int=>let{t,rfl}:=b;erw[v6];show aFI _ _ p d
  |str=>let{t,rfl}:=b;erw[v6];show SeqAt.EqAt.tuple_str _ _ p d
  |@tup J gm bp f g=>
   cases b;let{q,w,l,_}:=I.tuple f;by_cases e:a=J
   .subst e;have L:=I.ab4 h f;subst L;have N:=Reps.inj I r g;subst N;rw[L9];show aDY _
   erw[v6];show aER e (kL p l (by rw[<-o.length,r.length]) (by rw[<-w.length,g.length]) d<|iY I r g o w ?_ ?_).1
   .rw[A5]at C;rw[t8];lia
   rw[A5]at k;rw[t8];lia
  |lst f _ g=>cases b;let{_,_,l,_}:=I.list f.sq;erw[v6];show SeqAt.EqAt.tuple_list p l.isList d
 |@lst a Y ds h nO r=>
  have d:A.units<dA:=by lia
  cases n;let{E,o,p,_}:=I.list h.sq;cases m with
  |dct=>show kb k (by rw[A5];lia)
  |non=>cases b;erw[v6];show SeqAt.EqAt.list_none p.isList d
  |bl=>cases b;erw[v6];show SeqAt.EqAt.list_bool _ p.isList d
  |int=>let{t,rfl}:=b;erw[v6];show SeqAt.EqAt.list_int _ _ p.isList d
  |str=>let{t,rfl}:=b;erw[v6];show SeqAt.EqAt.list_str _ _ p.isList d
  |tup f g=>cases b;let{_,_,l,_}:=I.tuple f;erw[v6];show SeqAt.EqAt.list_tuple p.isList l d
  |@lst J gm bp f nO' g=>
   cases b;let{q,w,l,_}:=I.list f.sq;by_cases e:a=J
   .subst e;have L:=I.ab2 h.sq f.sq;subst L;have N:=Reps.inj I r g;subst N;rw[L9];show aDY _
   erw[v6];show aER e (yX p.isList l.isList (by rw[<-o.length,r.length]) (by rw[<-w.length,g.length]) d<|iY I r g o w ?_ ?_).1
   .rw[A5]at C;rw[t8];lia
   rw[A5]at k;rw[t8];lia
 |dct=>show kb C (by rw[A5];lia)
theorem iY(I:Inv X l B H s):∀{vs ws:List V}{Y d:List D}{e f:List av}{A:cp},Reps X.K H O vs Y->Reps X.K H C ws d->m9 vs e->m9 ws f->A.in1.units+w9 Y<dA->A.in1.units+w9 d<dA->nR A s e f Y d:=by
 intro _ _ _ _ e f A o p m n q r j u w a b;cases o with
 |nil=>cases m;simp at a
 |cons h t=>
  cases p with
  |nil=>cases n;simp at b
  |cons v x=>
   cases m with
   |cons y z=>
    cases n with
    |cons g k=>
     rw[w9]at q r;cases j with
     |zero=>erw[aCV,aGd]at a b;subst a b;show OW I h v y g (by lia) (by lia)
     |succ j=>erw[aCq]at a b;show iY I (A:=A) t x z k (by lia) (by lia) j u w a b
end
def uz(I:Inv X T σ H s)(q:z6 X.K H O x E)(d:z6 X.K H O' y g)(w:RelV x v)(e:RelV y u)(J:A.units+A5 E<dA)(m:A.units+A5 g<dA):
  SeqAt.RcAt A s v u (v6 E g)/\SeqAt.RcNeAt A s v u (!v6 E g):=by
 have b:A.units<dA:=by lia
 cases E with
 |dct=>show kb J (by rw[A5];lia)
 |non=>
  cases q.ac1;cases w;cases g with
  |dct=>show kb m (by rw[A5];lia)
  |non=>cases d.ac1;cases e;erw[v6];show{SeqAt.RcAt.none_none,SeqAt.RcNeAt.none_none}
  |bl=>cases d.blI;cases e;erw[v6];show{SeqAt.RcAt.none_bool _,SeqAt.RcNeAt.none_bool _}
  |int=>cases d.aa6;let{t,rfl}:=e;erw[v6];show{SeqAt.RcAt.none_int _ _,SeqAt.RcNeAt.none_int _ _}
  |str=>cases d.ac4;let{t,rfl}:=e;erw[v6];show{SeqAt.RcAt.none_str _ _,SeqAt.RcNeAt.none_str _ _}
  |tup f=>let{a,k,rfl,h,r}:=d.tupI;cases e;let{_,_,p,_}:=I.tuple h;erw[v6];show{SeqAt.RcAt.none_tuple p b,SeqAt.RcNeAt.none_tuple p b}
  |lst f=>let{a,k,rfl,h,r}:=d.aa5;cases e;let{_,_,p,_}:=I.list h;erw[v6];show{SeqAt.RcAt.none_list p.isList b,SeqAt.RcNeAt.none_list p.isList b}
 |bl=>
  cases q.blI;cases w;cases g with
  |dct=>show kb m (by rw[A5];lia)
  |non=>cases d.ac1;cases e;erw[v6];show{SeqAt.RcAt.bool_none _,SeqAt.RcNeAt.bool_none _}
  |bl=>cases d.blI;cases e;erw[v6];show{SeqAt.RcAt.bool_bool _ _,SeqAt.RcNeAt.bool_bool _ _}
  |int=>cases d.aa6;let{t,rfl}:=e;erw[v6];show{SeqAt.RcAt.bool_int _ _ _,SeqAt.RcNeAt.bool_int _ _ _}
  |str=>cases d.ac4;let{t,rfl}:=e;erw[v6];show{SeqAt.RcAt.bool_str _ _ _,SeqAt.RcNeAt.bool_str _ _ _}
  |tup f=>let{a,k,rfl,h,r}:=d.tupI;cases e;let{_,_,p,_}:=I.tuple h;erw[v6];show{SeqAt.RcAt.bool_tuple _ p b,SeqAt.RcNeAt.bool_tuple _ p b}
  |lst f=>let{a,k,rfl,h,r}:=d.aa5;cases e;let{_,_,p,_}:=I.list h;erw[v6];show{SeqAt.RcAt.bool_list _ p.isList b,SeqAt.RcNeAt.bool_list _ p.isList b}
 |int=>
  cases q.aa6;let{U,rfl}:=w;cases g with
  |dct=>show kb m (by rw[A5];lia)
  |non=>cases d.ac1;cases e;erw[v6];show{SeqAt.RcAt.int_none _ _,SeqAt.RcNeAt.int_none _ _}
  |bl=>cases d.blI;cases e;erw[v6];show{SeqAt.RcAt.int_bool _ _ _,SeqAt.RcNeAt.int_bool _ _ _}
  |int=>cases d.aa6;let{t,rfl}:=e;erw[v6];show{SeqAt.RcAt.int_int _ _ _ _,SeqAt.RcNeAt.int_int _ _ _ _}
  |str=>cases d.ac4;let{t,rfl}:=e;erw[v6];show{SeqAt.RcAt.int_str _ _ _ _,SeqAt.RcNeAt.int_str _ _ _ _}
  |tup f=>let{a,k,rfl,h,r}:=d.tupI;cases e;let{_,_,p,_}:=I.tuple h;erw[v6];show{SeqAt.RcAt.int_tuple _ _ p b,SeqAt.RcNeAt.int_tuple _ _ p b}
  |lst f=>let{a,k,rfl,h,r}:=d.aa5;cases e;let{_,_,p,_}:=I.list h;erw[v6];show{SeqAt.RcAt.int_list _ _ p.isList b,SeqAt.RcNeAt.int_list _ _ p.isList b}
 |str=>
  cases q.ac4;let{U,rfl}:=w;cases g with
  |dct=>show kb m (by rw[A5];lia)
  |non=>cases d.ac1;cases e;erw[v6];show{SeqAt.RcAt.str_none _ _,SeqAt.RcNeAt.str_none _ _}
  |bl=>cases d.blI;cases e;erw[v6];show{SeqAt.RcAt.str_bool _ _ _,SeqAt.RcNeAt.str_bool _ _ _}
  |int=>cases d.aa6;let{t,rfl}:=e;erw[v6];show{SeqAt.RcAt.str_int _ _ _ _,SeqAt.RcNeAt.str_int _ _ _ _}
  |str=>cases d.ac4;let{t,rfl}:=e;erw[v6];show{SeqAt.RcAt.str_str _ _ _ _,SeqAt.RcNeAt.str_str _ _ _ _}
  |tup f=>let{a,k,rfl,h,r}:=d.tupI;cases e;let{_,_,p,_}:=I.tuple h;erw[v6];show{SeqAt.RcAt.str_tuple _ _ p b,SeqAt.RcNeAt.str_tuple _ _ p b}
  |lst f=>let{a,k,rfl,h,r}:=d.aa5;cases e;let{_,_,p,_}:=I.list h;erw[v6];show{SeqAt.RcAt.str_list _ _ p.isList b,SeqAt.RcNeAt.str_list _ _ p.isList b}
 |tup Y=>
  let{a,k,rfl,h,r}:=q.tupI;cases w;let{L,z,p,_}:=I.tuple h;cases g with
  |dct=>show kb m (by rw[A5];lia)
  |non=>cases d.ac1;cases e;erw[v6];show{SeqAt.RcAt.tuple_none p b,SeqAt.RcNeAt.tuple_none p b}
  |bl=>cases d.blI;cases e;erw[v6];show{SeqAt.RcAt.tuple_bool _ p b,SeqAt.RcNeAt.tuple_bool _ p b}
  |int=>cases d.aa6;let{t,rfl}:=e;erw[v6];show{SeqAt.RcAt.tuple_int _ _ p b,SeqAt.RcNeAt.tuple_int _ _ p b}
  |str=>cases d.ac4;let{t,rfl}:=e;erw[v6];show{SeqAt.RcAt.tuple_str _ _ p b,SeqAt.RcNeAt.tuple_str _ _ p b}
  |tup f=>
   let{N,Q,rfl,n,o}:=d.tupI;cases e;let{B,C,l,_}:=I.tuple n;erw[v6];show kL p l (by rw[<-z.length,r.length]) (by rw[<-C.length,o.length]) b (iY I r o z C ?_ ?_)
   .rw[A5]at J;rw[t8];lia
   rw[A5]at m;rw[t8];lia
  |lst f=>let{N,Q,rfl,n,o}:=d.aa5;cases e;let{_,_,l,_}:=I.list n;erw[v6];show{SeqAt.RcAt.tuple_list p l.isList b,SeqAt.RcNeAt.tuple_list p l.isList b}
 |lst Y=>
  let{a,k,rfl,h,r}:=q.aa5;cases w;let{L,z,p,_}:=I.list h;cases g with
  |dct=>show kb m (by rw[A5];lia)
  |non=>cases d.ac1;cases e;erw[v6];show{SeqAt.RcAt.list_none p.isList b,SeqAt.RcNeAt.list_none p.isList b}
  |bl=>cases d.blI;cases e;erw[v6];show{SeqAt.RcAt.list_bool _ p.isList b,SeqAt.RcNeAt.list_bool _ p.isList b}
  |int=>cases d.aa6;let{t,rfl}:=e;erw[v6];show{SeqAt.RcAt.list_int _ _ p.isList b,SeqAt.RcNeAt.list_int _ _ p.isList b}
  |str=>cases d.ac4;let{t,rfl}:=e;erw[v6];show{SeqAt.RcAt.list_str _ _ p.isList b,SeqAt.RcNeAt.list_str _ _ p.isList b}
  |tup f=>let{N,Q,rfl,n,o}:=d.tupI;cases e;let{_,_,l,_}:=I.tuple n;erw[v6];show{SeqAt.RcAt.list_tuple p.isList l b,SeqAt.RcNeAt.list_tuple p.isList l b}
  |lst f=>
   let{N,Q,rfl,n,o}:=d.aa5;cases e;let{B,C,l,_}:=I.list n;erw[v6];show yX p.isList l.isList (by rw[<-z.length,r.length]) (by rw[<-C.length,o.length]) b (iY I r o z C ?_ ?_)
   .rw[A5]at J;rw[t8];lia
   rw[A5]at m;rw[t8];lia
end
def SL(x y:D):R D:=if A5 x<=40/\A5 y<=40 then .ok (.bl (v6 x y))else .bad
def IK(x y:D):R D:=if A5 x<=40/\A5 y<=40 then .ok (.bl (!v6 x y))else .bad
section
def S7(w:X.A.units+64<dA):kQ X (eY .Eq) SL:=by
 intro H O x y g h Q z k l q;unfold SL at q;split at q
 .rename_i B;show{λa b d e=>a=x/\b=y/\d=H/\e (.bl (v6 g h)) H,?_,rfl,rfl,rfl,q _ H (Same.refl _) .bl};intro f s C d a b v u e I m n ⟨o,p,r,t⟩;subst o p r;show(uz I k l m n (by lia) (by lia)).1 _ _ _ _ {.bl _,_,I,rfl,t}
 show q.elim
def Y3(w:X.A.units+64<dA):kQ X (eY .NotEq) IK:=by
 intro H O x y g h Q z k l q;unfold IK at q;split at q
 .rename_i B;show{λa b d e=>a=x/\b=y/\d=H/\e (.bl (!v6 g h)) H,?_,rfl,rfl,rfl,q _ H (Same.refl _) .bl};intro f s C d a b v u e I m n ⟨o,p,r,t⟩;subst o p r;show(uz I k l m n (by lia) (by lia)).2 _ _ _ _ {.bl _,_,I,rfl,t}
 show q.elim
end
def iS:D->D->R D
 |.int a,.int b=>.ok (.int (a+b))
 |.lst a,.lst b=>if a.length+b.length<=sizeLine then .ok (.lst (a++b))else .bad
 |.tup [],.tup b=>.ok (.tup b)
 |.tup (x::a),.tup []=>if(x::a).length<=sizeLine then .ok (.tup (x::a))else .bad
 |.tup (x::a),.tup (y::b)=>if(x::a).length+(y::b).length<=sizeLine then .ok (.tup ((x::a)++(y::b)))else .bad
 |_,_=>.bad
def JF:D->D->R D
 |.int a,.int b=>.ok (.int (a-b))
 |_,_=>.bad
def m6(a b:Int):Prop:=aBe a<=60000000/\aBe b<=60000000
instance(a b:Int):Decidable (m6 a b):=inferInstanceAs (Decidable<|_/\_)
def R9:D->D->R D
 |.int a,.int b=>if m6 a b then .ok (.int (a*b))else .bad
 |_,_=>.bad
def uT(b:Int):Prop:=b≠0/\aBe b<=9000
instance(b:Int):Decidable (uT b):=inferInstanceAs (Decidable<|_/\_)
def M4:D->D->R D
 |.int a,.int b=>if uT b then .ok (.int (a.fdiv b))else .bad
 |_,_=>.bad
def U1:D->D->R D
 |.int a,.int b=>if b≠0 then .ok (.int (a.fmod b))else .bad
 |_,_=>.bad
def DF:D->D->R D
 |.int a,.int b=>if 0<=b/\b<=1000000/\a.natAbs<2^64 then .ok (.int (a^b.toNat))else .bad
 |_,_=>.bad
def ltR:D->D->R D
 |.int a,.int b=>.ok (.bl (decide (a<b)))
 |_,_=>.bad
def tq:D->D->R D
 |.int a,.int b=>.ok (.bl (decide (a<=b)))
 |_,_=>.bad
def lq:D->D->R D
 |.int a,.int b=>.ok (.bl (decide (b<a)))
 |_,_=>.bad
def JK(h0:b≠0)(h:aBe b<=n):b.natAbs.log2<n:=by
 unfold aBe at h;split at h
 .rename_i z;show kb (by exists z) h0
 omega
def MC(h:m6 a b):IntMulOk a b:=mulOk_of_bits (m:=60000000) (n:=60000000) h.1 h.2 (by symm)
section
def kQ.aa7{f:av->av->Sem av}{g:D->D->R D}{C:Int->Int->Prop}{w:Int->Int->V}{dw:Int->Int->D}(h:mY X f (rI C w))(k:∀a b d,g a b=.ok d->∃i j,a=.int i/\b=.int j/\C i j/\d=dw i j)
  (l:∀a b e,g a b≠.ex e) (m:∀K H O i j,Rep K H O (w i j) (dw i j)):kQ X f g:=by
 intro H O x y a b Q r n o q;cases e:g a b with
 |ok d=>rw[e]at q;let{i,j,rfl,rfl,p,rfl}:=k a b d e;cases n.aa6;cases o.aa6;show{_,h,i,j,rfl,rfl,p,q _ H (Same.refl _) (m _ _ _ _ _)}
 |ex x=>show kb e (l _ _ _)
 |bad=>rw[e]at q;show q.elim
def mY.c0(h:mY X f (YK w)):mY X f (rI (λ_ _=>True) w):=by rintro a s b H x y v u Q I d e ⟨i,j,g,k,_,q⟩;show h a s b H x y v u Q I d e {i,j,g,k,q}
def oq:kQ X (eu .Sub) JF:=kQ.aa7 (dw:=λi j=>.int (i-j)) (mY.c0 bq) (λa b d h=>by cases a<;>cases b<;>erw[JF,R.ok.injEq,reduceCtorEq]at h;show{_,_,rfl,rfl,trivial,h.symm}) (λa b e h=>by cases a<;>cases b<;>erw[JF,reduceCtorEq]at h) λ_ _ _ _ _=>.int
def FD:kQ X (eY .Lt) ltR:=kQ.aa7 (dw:=λi j=>.bl (decide (i<j))) (mY.c0 a0z) (λa b d h=>by cases a<;>cases b<;>erw[ltR,R.ok.injEq,reduceCtorEq]at h;show{_,_,rfl,rfl,trivial,h.symm}) (λa b e h=>by cases a<;>cases b<;>erw[ltR,reduceCtorEq]at h) λ_ _ _ _ _=>.bl
def XV:kQ X (eY .LtE) tq:=kQ.aa7 (dw:=λi j=>.bl (decide (i<=j))) (mY.c0 zy) (λa b d h=>by cases a<;>cases b<;>erw[tq,R.ok.injEq,reduceCtorEq]at h;show{_,_,rfl,rfl,trivial,h.symm}) (λa b e h=>by cases a<;>cases b<;>erw[tq,reduceCtorEq]at h) λ_ _ _ _ _=>.bl
def pH:kQ X (eY .Gt) lq:=kQ.aa7 (dw:=λi j=>.bl (decide (j<i))) (mY.c0 a0g) (λa b d h=>by cases a<;>cases b<;>erw[lq,R.ok.injEq,reduceCtorEq]at h;show{_,_,rfl,rfl,trivial,h.symm}) (λa b e h=>by cases a<;>cases b<;>erw[lq,reduceCtorEq]at h) λ_ _ _ _ _=>.bl
def MP:mY X (eu .FloorDiv) (rI (λ_ j=>uT j) λi j=>.int (i.fdiv j)):=opI λ_ _ _ _ _ _ _ a q=>floordiv_int a.1 q (.inl (PyProof.noPylong_of_log2<|JK a.1 a.2))
def HA:kQ X (eu .FloorDiv) M4:=kQ.aa7 (dw:=λi j=>.int (i.fdiv j)) MP (λa b d h=>by
 cases a<;>cases b<;>erw[M4,reduceCtorEq]at h;split at h
 .rename_i f;cases h;show{_,_,rfl,rfl,f,rfl}
 cases h) (λa b e h=>by
 cases a<;>cases b<;>erw[M4,reduceCtorEq]at h;split at h<;>cases h) λ_ _ _ _ _=>.int
def DQ:kQ X (eu .Mod) U1:=kQ.aa7 (dw:=λi j=>.int (i.fmod j)) UJ (λa b d h=>by
 cases a<;>cases b<;>erw[U1,reduceCtorEq]at h;split at h
 .rename_i f;cases h;show{_,_,rfl,rfl,f,rfl}
 cases h) (λa b e h=>by
 cases a<;>cases b<;>erw[U1,reduceCtorEq]at h;split at h<;>cases h) λ_ _ _ _ _=>.int
def gw:kQ X (eu .Pow) DF:=kQ.aa7 (dw:=λi j=>.int (i^j.toNat)) ZX (λa b d h=>by
 cases a<;>cases b<;>erw[DF,reduceCtorEq]at h;split at h
 .rename_i f;cases h;show{_,_,rfl,rfl,f,rfl}
 cases h) (λa b e h=>by
 cases a<;>cases b<;>erw[DF,reduceCtorEq]at h;split at h<;>cases h) λ_ _ _ _ _=>.int
def VC:mY X (eu .Mult) (rI m6 λi j=>.int (i*j)):=opI λ_ _ _ _ _ _ _ a q=>mul_int q (MC a)
def ZB:kQ X (eu .Mult) R9:=kQ.aa7 (dw:=λi j=>.int (i*j)) VC (λa b d h=>by
 cases a<;>cases b<;>erw[R9,reduceCtorEq]at h;split at h
 .rename_i f;cases h;show{_,_,rfl,rfl,f,rfl}
 cases h) (λa b e h=>by
 cases a<;>cases b<;>erw[R9,reduceCtorEq]at h;split at h<;>cases h) λ_ _ _ _ _=>.int
def TN:mY X (eu .Add) (λx y H Q=>∃l b Y e,x=.ref l/\y=.ref b/\aF X.K H l Y/\aF X.K H b e/\Y.length+e.length<=sizeLine/\∀p,H p=none->Q (.ref p) (upd H p (.lst (Y++e)))):=by
 intro k s σ H x y v u Q I E J h;let{l,b,Y,e,rfl,rfl,L,N,O,q}:=h;cases E;cases J;let{a,r,p,_}:=I.list L;let{f,m,T,_}:=I.list N;let{{U,dd,o,sl},t,w,n,z}:=p.isList;let{{A,xt,data2,xu},B,C,n2,d}:=T.isList;simp only at w z C d;subst w z C d;have g:a.toArray.size+f.toArray.size<=sizeLine:=by rw[aAD,aAD,<-r.length,<-m.length];show O
 have ea:a.toArray++f.toArray=(a++f).toArray:=by simp
 show aFz {_,t,rfl} {_,B,rfl} noFill_list_add seq_list_add PySem.F.slot_list_add PySem.F.entry_list_add (PySem.F.args_list_add_2 _ _) (list_addW l b a.toArray f.toArray n n2 dd xt sl xu g) {t,B,?_};rw[ea];show{.ref _,_,I.ag6 (t':=s.toks) (r.append m) (by rw[aAM];omega),rfl,q _ I.fresh}
def RW:mY X (eu .Add) (λx y H Q=>∃a b e,x=.ref a/\y=.ref b/\R4 X.K H a []/\R4 X.K H b e/\Q (.ref b) H):=by intro f s σ H x y v u Q I w z h;let{t,b,e,rfl,rfl,A,B,q}:=h;cases w;cases z;let{C,E,J,_}:=I.tuple A;let{ws,r2,L,_}:=I.tuple B;cases E;let{{N,O,g,T},k,l,n,m}:=J;let{{o,U,data2,Y},p,r,n2,d}:=L;simp only at l m r d;subst l m r d;show aFz {_,k,rfl} {_,p,rfl} aFk seq_tuple_add PySem.F.slot_tuple_add PySem.F.entry_tuple_add (PySem.F.args_tuple_add_2 _ _) (tuple_addW0 t b _ _ n n2 O U T Y (by simp)) {k,p,.ref b,H,I,rfl,q}
def dW:kQ X (eu .Add) iS:=by
 intro H O x y v t Q w o r q;cases v with
 |int i=>
  cases t with
  |int j=>cases o.aa6;cases r.aa6;show{_,iy,i,j,rfl,rfl,q _ H (Same.refl _) .int}
  |_=>show(q).elim
 |lst a=>
  cases t with
  |lst b=>
   erw[iS]at q;split at q
   .rename_i s;let{l,f,rfl,g,d}:=o.aa5;let{k,m,rfl,h,e}:=r.aa5;show{_,TN,l,k,f,m,rfl,rfl,g,h,by rw[d.length,e.length];show s,λp n=>q _ _ (j5 n _) (.lst (eS.of j2) (w p n) ((d.append e).same (j5 n _)))}
   show q.elim
  |_=>show(q).elim
 |tup a=>
  cases t with
  |tup b=>
   cases a with
   |nil=>let{l,f,rfl,g,d}:=o.tupI;let{k,m,rfl,h,e}:=r.tupI;cases d;show{_,RW,l,k,m,rfl,rfl,g,h,q _ H (Same.refl _) (.tup h e)}
   |cons x a=>
    cases b with
    |nil=>
     let{l,f,rfl,g,d}:=o.tupI;let{k,m,rfl,h,e}:=r.tupI;cases e;have u:f≠[]:=λz=>by subst z;have:=d.length;simp at this
     erw[iS]at q;split at q
     .rename_i s;show{_,GJ,l,k,f,[],rfl,rfl,g,h,u,by rw[d.length];show s,λ_=>q _ H (Same.refl _) (.tup g d),λz=>kb rfl z}
     show q.elim
    |cons y b=>
     erw[iS]at q;split at q
     .rename_i s;let{l,f,rfl,g,d}:=o.tupI;let{k,m,rfl,h,e}:=r.tupI;have u:f≠[]:=λz=>by subst z;have:=d.length;simp at this
      have A:m≠[]:=λz=>by subst z;have:=e.length;simp at this
      show{_,GJ,l,k,f,m,rfl,rfl,g,h,u,by rw[d.length,e.length];show s,λz=>kb z A,λ_ p n=>q _ _ (j5 n _) (.tup (R4.of j2) ((d.append e).same (j5 n _)))}
     show q.elim
  |_=>cases a<;>show(q).elim
 |_=>show(q).elim
def Q1(x y:D):R D:=match x,y with
 |.lst Y,.int i=>match qT Y i with|some d=>.ok d|none=>.bad
 |.tup Y,.int i=>match qT Y i with|some d=>.ok d|none=>.bad
 |_,_=>.bad
def yV{K:km}{H:Hp}{O:bb->Prop}{vs:List V}{ds:List D}{i:Int}{d:D}(r:Reps K H O vs ds)(h:qT ds i=some d):∃v,qT vs i=some v/\Rep K H O v d:=by
 unfold qT at h⊢;rw[r.length];cases e:FG ds.length i with
 |none=>nofun
 |some j=>rw[e]at h;show r.get h
def yY(U:PB X a f)(hb:PD X b g)(z:WO b:=by showλ_ _=>rfl):PD X (.Subscript a b pos) (λρ=>(f ρ).bind λx=>(g ρ).bind λy=>Q1 x y):=by
 show wF λk s A H Q I H9 O0 O ρ E q=>?_;show Subscript_ (LK U hb.pb I (nN E q) λv u B x y l C J L h=>?_);let{N,dy,fr,T,r2,q}:=h;cases dy with
 |int i=>
  cases r2.aa6;cases N with
  |lst Y=>
   erw[Q1]at q;cases e:qT Y i with
   |none=>rw[e]at q;show q.elim
   |some d=>rw[e]at q;let{p,m,rfl,n,o}:=T.aa5;let{w,r,t}:=yV o e;show WB a b k B A l _ _ v u Q C J L {p,m,i,w,rfl,rfl,n,r,q w l (Same.refl _) t} (z _ _)
  |tup Y=>
   erw[Q1]at q;cases e:qT Y i with
   |none=>rw[e]at q;show q.elim
   |some d=>rw[e]at q;let{p,m,rfl,n,o}:=T.tupI;let{w,r,t}:=yV o e;show cx a b k B A l _ _ v u Q C J L {p,m,i,w,rfl,rfl,n,r,q w l (Same.refl _) t} (z _ _)
  |_=>show(q).elim
 |_=>cases N<;>show(q).elim
def cutD(Y:List D)(lo a:Option Int):List D:=(Y.drop<|HT.sIx Y.length 0 lo).take (HT.sIx Y.length Y.length a-HT.sIx Y.length 0 lo)
def sV{K:km}{H:Hp}{O:bb->Prop}{vs:List V}{ds:List D}{lo a:Option Int}(r:Reps K H O vs ds):Reps K H O (ID vs lo a) (cutD ds lo a):=by unfold ID cutD;rw[r.length];show(r.drop _).take _
def PTO(X:Cx)(e:Option cv)(f:Ev->R (Option Int)):Prop:=PO X e λd H Q=>∃g h O b,EnvOk X.K g h H O d b/\match f b with
 |.ok o=>∀a,Same H a->Q o a
 |.ex e=>∀a,Same H a->XW X e a
 |.bad=>False
def toI:D->R (Option Int)
 |.int i=>.ok (some i)
 |_=>.bad
def cN:PTO X none (λ_=>.ok none):=by rintro a s b H Q I ⟨d,e,O,f,E,q⟩;show VF a s b H Q I (q H<|Same.refl _)
def W3(h:PD X e f):PTO X (some e) (λρ=>(f ρ).bind toI):=by rintro a s b H Q I ⟨g,k,O,ρ,E,q⟩;show SX h a s b H Q I ⟨g,k,O,ρ,E,by
 dsimp only at q;cases e:f ρ with
 |ok d=>
  rw[e]at q;cases d with
  |int i=>showλv l m n=>by cases n;show{i,rfl,q l m}
  |_=>show(q).elim
 |ex x=>rw[e]at q;show q
 |bad=>rw[e]at q;show q⟩
def NS(x:D)(lo a:Option Int):R D:=match x with
 |.lst Y=>.ok (.lst (cutD Y lo a))
 |.tup Y=>if HT.sIx Y.length 0 lo=0/\HT.sIx Y.length Y.length a=Y.length then .bad else .ok (.tup (cutD Y lo a))
 |_=>.bad
def sS{lo J:Option cv}{L:Pos}{o t:Ev->R (Option Int)}(N:PB X a f)(T:PTO X lo o)(U:PTO X J t):
  PD X (.Subscript a (.Slice lo J none L) pos) (λρ=>(f ρ).bind λx=>(o ρ).bind λl=>(t ρ).bind λh=>NS x l h):=by
 show wF λk s σ H Q I u v O ρ E q=>?_;have w:∀x d l h g,z6 X.K g O x d->(∀p,g p=none->¬O p)->RC X g O (NS d l h) Q->zj X.K x l h g Q\/yw X.K x l h g Q:=λx d l h g r fr q=>by
  cases d with
  |lst Y=>let{p,y,rfl,z,n}:=r.aa5;show .inl {p,y,rfl,z,λp b=>q _ _ (j5 b _) (.lst (eS.of j2) (fr p b) ((sV n).same (j5 b _)))}
  |tup Y=>
   let{p,y,rfl,z,n}:=r.tupI;erw[NS]at q;split at q
   .show q.elim
   rename_i hn;show .inr {p,y,rfl,z,by rw[n.length];show hn,λp b=>q _ _ (j5 b _) (.tup (R4.of j2) ((sV n).same (j5 b _)))}
  |_=>show(q).elim
 show QD (WU.or ZR) N T U k s σ H Q I {u,v,O,ρ,E,?_};dsimp only at q;cases A:f ρ with
 |ok d=>
  rw[A]at q;intro x H1 s1 r1;show{u,v,O,ρ,E.grow s1,?_};cases B:o ρ with
  |ok l=>
   rw[B]at q;intro H2 s2;show{u,v,O,ρ,(E.grow s1).grow s2,?_};cases C:t ρ with
   |ok h=>rw[C]at q;intro m e;have q':RC X H O (NS d l h) Q:=q;show w x d l h m ((r1.same s2).same e) (λp b=>(((E.grow s1).grow s2).grow e).fresh b) (q'.grow<|s1.trans<|s2.trans e)
   |ex x=>rw[C]at q;showλm e=>q m (s1.trans<|s2.trans e)
   |bad=>rw[C]at q;show q
  |ex x=>rw[B]at q;showλm e=>q m (s1.trans e)
  |bad=>rw[B]at q;show q
 |ex x=>rw[A]at q;show q
 |bad=>rw[A]at q;show q
def JA{K:km}{H:Hp}{O:bb->Prop}{vs:List V}{d:D}(r:Paired (z6 K H O) vs [d]):∃v,vs=[v]/\z6 K H O v d:=by
 cases r with
 |cons a b=>cases b;show{_,rfl,a}
def pr2{K:km}{H:Hp}{O:bb->Prop}{vs:List V}{d d':D}(r:Paired (z6 K H O) vs [d,d']):∃v a,vs=[v,a]/\z6 K H O v d/\z6 K H O a d':=by
 cases r with
 |cons b f=>let{a,e,g}:=JA f;subst e;show{_,_,rfl,b,g}
def BQ:List D->R D
 |[.lst Y]=>.ok (.int Y.length)
 |[.tup Y]=>.ok (.int Y.length)
 |_=>.bad
def N2:cQ X (.builtin "len") BQ:=by
 intro H O f e Q g r q;match e,q with
 |[.lst Y],q=>let{v,rfl,z}:=JA r;let{p,a,rfl,b,d}:=z.aa5;show{_,jT,p,a,rfl,.inl b,q _ H (Same.refl _) (d.length▸.int)}
 |[.tup Y],q=>let{v,rfl,z}:=JA r;let{p,a,rfl,b,d}:=z.tupI;show{_,jT,p,a,rfl,.inr b,q _ H (Same.refl _) (d.length▸.int)}
def yy:List D->R D
 |[.int i]=>.ok (.int (if i<0 then-i else i))
 |_=>.bad
def NV:cQ X (.builtin "abs") yy:=by
 intro H O b a Q d r q;match a,q with
 |[.int i],q=>let{v,rfl,z}:=JA r;cases z.aa6;show{_,QX,i,rfl,q _ H (Same.refl _) .int}
def wG:List D->R D
 |[.lst Y]=>.ok (.tup Y)
 |[.tup Y]=>.ok (.tup Y)
 |_=>.bad
def pE:cQ X (.type "tuple") wG:=by
 intro H O g f Q h r q;match f,q with
 |[.lst Y],q=>let{v,rfl,z}:=JA r;let{p,b,rfl,a,d}:=z.aa5;show{_,fO,p,b,rfl,.inl {a,λl e=>q _ _ (j5 e _) (.tup (R4.of j2) (d.same<|j5 e _))}}
 |[.tup Y],q=>let{v,rfl,z}:=JA r;let{p,b,rfl,a,d}:=z.tupI;show{_,fO,p,b,rfl,.inr {a,q _ _ (Same.refl _) (.tup a d)}}
def xk:List D->R D
 |[.lst Y]=>.ok (.lst Y)
 |[.tup Y]=>.ok (.lst Y)
 |_=>.bad
def FB:cQ X (.type "list") xk:=by
 intro H O h g Q f r q;match g,q with
 |[.lst Y],q=>let{v,rfl,z}:=JA r;let{p,b,rfl,d,e}:=z.aa5;show{_,jU,p,b,rfl,.inl d,λl a=>q _ _ (j5 a _) (.lst (eS.of j2) (f l a) (e.same<|j5 a _))}
 |[.tup Y],q=>let{v,rfl,z}:=JA r;let{p,b,rfl,d,e}:=z.tupI;show{_,jU,p,b,rfl,.inr d,λl a=>q _ _ (j5 a _) (.lst (eS.of j2) (f l a) (e.same<|j5 a _))}
def tyD:D->String
 |.non=> "NoneType"|.bl _=> "bool"|.int _=> "int"|.str _=> "str"|.tup _=> "tuple"|.lst _=> "list"|.dct _=> "dict"
def RM(T:String)(d:D):Bool:=tyD d==T||(T== "int"&&tyD d== "bool")
def uL(T:String):Prop:=∀(K:km) (d:D),PySem.W.kitOne K (.type (tyD d)) (.type T)=some (RM T d)
def UG:uL "int":=λK d=>by cases d<;>with_unfolding_all rfl
def RP:uL "bool":=λK d=>by cases d<;>with_unfolding_all rfl
def tQ:uL "tuple":=λK d=>by cases d<;>with_unfolding_all rfl
def AL:uL "list":=λK d=>by cases d<;>with_unfolding_all rfl
def UR{O:bb->Prop}(I:Inv X f y H s)(C:uL T)(r:z6 X.K H O v d)(g:RelV v u)(q:Q (.bl (RM T d)) H):
  bc (be X.prog X.w) X.A (call (.builtin "isinstance") [u,.type T]) (EP X f y Q) X.xe s:=by
 have e:=C X.K d;have b:∀B,EP X f y Q (.bool (RM T d)) {s with toks:=B}:=λB=>{.bl _,H,I.tok _,rfl,q};cases d with
 |non=>cases r.ac1;cases g;show PySem.W.kia_one PySem.W.kitx_none I.kIn aGe e (λz=>nomatch z) b
 |bl=>cases r.blI;cases g;show PySem.W.kia_one PySem.W.kitx_bool I.kIn aGe e (λz=>nomatch z) b
 |int=>cases r.aa6;let{t,rfl}:=g;show PySem.W.kia_one PySem.W.kitx_int I.kIn aGe e (λz=>nomatch z) b
 |str=>cases r.ac4;let{t,rfl}:=g;show PySem.W.kia_one PySem.W.kitx_str I.kIn aGe e (λz=>nomatch z) b
 |tup Y=>let{a,E,rfl,h,_}:=r.tupI;cases g;let{k,_,p,_}:=I.tuple h;let{o,l,m,_}:=p;show PySem.W.kia_one PySem.W.kitx_tuple I.kIn {o,l,m} e (λz=>nomatch z) b
 |lst Y=>let{a,E,rfl,h,_}:=r.aa5;cases g;let{k,_,p,_}:=I.list h;let{o,n,l,m,_}:=p;show PySem.W.kia_one PySem.W.kitx_list I.kIn {o,l,m} e (λz=>nomatch z) b
 |dct=>let{a,o,J,rfl,h,x,_}:=r.ag1;cases g;show PySem.W.kia_one PySem.W.kitx_dict I.kIn {o,(I.hok _ _ h).1,x.2.1.1} e (λz=>nomatch z) b
def kY(A:uL T)(B:PB X a f)(C:dm x=some (.type T)<|>3)(J:X.mg "isinstance"=none<|>4)(l:X.mg x=none<|>4)(L:Gl X "isinstance"<|>1)(m:Gl X x<|>1)(N:(x==lb)=false<|>2)(U:x≠ "__name__"<|>2)(y:a5 [a,.Name x pt] X.env=(false,dC a X.env)::a5 [.Name x pt] X.env<|>1)(Y:a5 [Expr.Name x pt] X.env=[(false,dC (.Name x pt) X.env)]<|>1)(bh:(dq b (a5 [Expr.Name x pt] X.env)).any (·.1)=false<|>1):
  PD X (.Call (.Name "isinstance" p) [a,.Name x pt] [] b) (λρ=>(f ρ).bind λd=>.ok (.bl (RM T d))):=by
 show wF λg s σ H Q I H9 O0 O ρ E q=>(aAK (K0 (u:=.builtin "isinstance") I L J (by decide+kernel) ?_));have hb:PE X (.Name x pt) (tC<|.ty T):=TW m l C rfl U N;have h:=G0 B (G0 hb Z5 (by rw[Y];rfl)) y b g s σ H (λz k=>∃v d,z=[v,.ty T]/\z6 X.K k O v d/\Q (.bl (RM T d)) k) I {H9,O0,O,ρ,E,by show SJ.mono (SJ.seq q) λv k n=>?_;let{d,_,s1,o,h1}:=n;show{v,d,rfl,o,h1 _ k (Same.refl _) .bl}}
 show aBl (D6 h λus s1 n=>?_) y bh;let{z,k,I1,o,v,d,e,r,h}:=n;subst e;let{u,w,rfl,ru,t}:=vals2 o;cases t;show UR I1 A r ru h
end
section
variable{K:km}
def Kp.lst(k:Kp H O H' b){a:bb}{Y:List V}(n:¬O a)(h:eS K H a Y)(f:∀o,K.lookup a=some o->¬b a):¬b a/\eS K H' a Y:=by
 rcases h with h|⟨h,g⟩
 .show{(k _ _ h n).2,.inl (k _ _ h n).1}
 suffices z:¬b a/\aF K H' a Y from{z.1,.inr {z.2,g}}
 rcases h with(h|⟨o,h⟩)|h
 .show{(k _ _ h n).2,.inl (.inl (k _ _ h n).1)}
 .show{(k _ _ h n).2,.inl (.inr {o,(k _ _ h n).1})}
 let{o,d,m,e,l}:=h;show{f o e,.inr {o,d,m,e,l}}
def Kp.tup(k:Kp H O H' d)(b:∀a,O a->∃o,H a=some o/\Mt o){a:bb}{Y:List V}(h:R4 K H a Y):R4 K H' a Y:=by
 rcases h with(h|⟨o,h⟩)|h
 .show .inl (.inl (k _ _ h λz=>by let{o,q,m}:=b a z;rw[h]at q;cases q;show m).1)
 .show .inl (.inr {o,(k _ _ h λz=>by let{o,q,m}:=b a z;rw[h]at q;cases q;show m).1})
 show .inr h
end
def J7(K:km)(O:bb->Prop):Prop:=∀a o,K.lookup a=some o->¬O a
def Kp.rep{K:km}{H H':Hp}{O b:bb->Prop}(k:Kp H O H' b)(e:∀a,O a->∃o,H a=some o/\Mt o)(f:J7 K b){v:V}{d:D}(r:Rep K H O v d):Rep K H' b v d:=
 r.mono (λ_ _ h=>k.tup e h) (λa _ n h=>k.lst n h λo q=>f a o q) λa _ n h=>{(k a _ h n).2,(k a _ h n).1}
def Kp.ab8{K:km}{H H':Hp}{O b:bb->Prop}(k:Kp H O H' b)(e:∀a,O a->∃o,H a=some o/\Mt o)(f:J7 K b){v:List V}{d:List D}(r:Reps K H O v d):Reps K H' b v d:=
 r.mono (λ_ _ h=>k.tup e h) (λa _ n h=>k.lst n h λo q=>f a o q) λa _ n h=>{(k a _ h n).2,(k a _ h n).1}
inductive Out where
 |nx (ρ:Ev)|rt (d:D)|bk (ρ:Ev)|ct (ρ:Ev)
def RS(X:Cx)(g:Hp)(k:bb->Prop)(H:Hp)(O:bb->Prop)(r:R Out)(D:Ends):Prop:=match r with
 |.ok (.nx h)=>∀f a b,EnvOk X.K g k a b f h->J7 X.K b->Kp H O a b->D.nx f a
 |.ok (.bk h)=>∀f a b,EnvOk X.K g k a b f h->J7 X.K b->Kp H O a b->D.bk f a
 |.ok (.ct h)=>∀f a b,EnvOk X.K g k a b f h->J7 X.K b->Kp H O a b->D.ct f a
 |.ok (.rt d)=>∀v a,Same g a->Rep X.K a k v d->D.rt v a
 |.ex e=>∀a,Same g a->XW X e a
 |.bad=>False
def tS(X:Cx)(a:Hp)(b:bb->Prop)(F:Ev->R Out):TS:=λD e H=>∃O d,EnvOk X.K a b H O e d/\J7 X.K O/\RS X a b H O (F d) D
def mV(X:Cx)(st:df)(F:Ev->R Out):Prop:=∀a b,PS X st (tS X a b F)
def bX(X:Cx)(st:List df)(F:Ev->R Out):Prop:=∀a b,rB X st (tS X a b F)
def xN{X:Cx}{st:df}{t t':TS}(h:PS X st t)(i:∀D a H,t' D a H->t D a H):PS X st t':=λb s a H D I q=>h b s a H D I (i D a H q)
def nG{X:Cx}{st:List df}{t t':TS}(h:rB X st t)(i:∀D a H,t' D a H->t D a H):rB X st t':=λb s a H D I q=>h b s a H D I (i D a H q)
def BG{X:Cx}{st:df}{t:TS}{F:Ev->R Out}{b:Hp}{d:bb->Prop}(h:PS X st t)(i:∀D a H O ρ,EnvOk X.K b d H O a ρ->J7 X.K O->RS X b d H O (F ρ) D->t D a H):PS X st (tS X b d F):=xN h λD a H ⟨O,ρ,E,f,q⟩=>i D a H O ρ E f q
def tz{X:Cx}{st:List df}{t:TS}{F:Ev->R Out}{b:Hp}{d:bb->Prop}(h:rB X st t)(i:∀D a H O ρ,EnvOk X.K b d H O a ρ->J7 X.K O->RS X b d H O (F ρ) D->t D a H):rB X st (tS X b d F):=nG h λD a H ⟨O,ρ,E,f,q⟩=>i D a H O ρ E f q
def RS.grow{X:Cx}{l:Hp}{m:bb->Prop}{H n:Hp}{O p:bb->Prop}{r:R Out}{D:Ends}(h:RS X l m H O r D)(k:Kp H O n p):RS X l m n p r D:=by
 cases r with
 |ok o=>
  cases o with
  |nx s=>showλa b g E f q=>h a b g E f (k.trans q)
  |bk s=>showλa b g E f q=>h a b g E f (k.trans q)
  |ct s=>showλa b g E f q=>h a b g E f (k.trans q)
  |rt d=>show h
 |ex e=>show h
 |bad=>show h
def B0(r:R Out)(F:Ev->R Out):R Out:=match r with
 |.ok (.nx a)=>F a
 |r=>r
section
variable{st:df}{rest:List df}
def RS.seq{a:Hp}{b:bb->Prop}{H:Hp}{O:bb->Prop}{r:R Out}{D:Ends}(h:RS X a b H O (B0 r G) D):RS X a b H O r {D with nx:=tS X a b G D}:=by
 cases r with
 |ok o=>
  cases o with
  |nx g=>showλm n l E f k=>{l,g,E,f,(h).grow k}
  |bk g=>show h
  |ct g=>show h
  |rt d=>show h
 |ex e=>show h
 |bad=>show h
def l5:bX X [] (λρ=>.ok (.nx ρ)):=λb d=>tz UO λD a H O ρ E f q=>q a H O E f (Kp.refl _ _)
def b8(d:mV X st F)(e:bX X rest G):bX X (st::rest) (λρ=>B0 (F ρ) G):=λa b=>tz (iW (d a b)<|e a b) λD g H O ρ E f q=>{O,ρ,E,f,RS.seq q}
def c7(a:mV X st F):bX X [st] F:=λb d=>nT (a b d)
def f6{e:cv}{f:Ev->R D}(g:PD X e f):mV X (.Return (some e) h) (λρ=>(f ρ).bind λd=>.ok (.rt d)):=λk l=>BG (NU g) λD m H O ρ E n q=>⟨k,l,O,ρ,E,by
 cases a:f ρ with
 |ok d=>rw[a]at q;showλv b s r=>q v b (E.same.trans s) (r.sub E.sub)
 |ex x=>rw[a]at q;showλb s=>q b (E.same.trans s)
 |bad=>rw[a]at q;show q⟩
def f8(i:Nat){x:Str}{e:cv}{f:Ev->R D}{a:Pos}(k:PD X e f)(l:X.N.Nodup)(m:X.N[i]?=some x<|>1)(n:Loc X.env.scope x<|>8)
  (o:fg e (some (.Name x a)) b.line X.env=pure false<|>1) (p:X.fn x=true\/X.env.scope.names.lookup x=some .local<|>7):
  mV X (.Assign [.Name x a] e b) (λρ=>(f ρ).bind λd=>.ok (.nx (ρ.set i (.v d)))):=λt u=>BG (RV l m n k o p) λD y H O ρ E w q=>⟨t,u,O,ρ,E,by
 cases g:f ρ with
 |ok d=>rw[g]at q;showλv h s r=>q _ h O ((E.grow s).set i r) w (Kp.of s)
 |ex x=>rw[g]at q;showλh s=>q h (E.same.trans s)
 |bad=>rw[g]at q;show q⟩
def u3{c:cv}{a b:List df}{d:Ev->R Bool}(l:FH X c d)(m:bX X a F)(n:bX X b G):mV X (.If c a b o) (λρ=>(d ρ).bind λt=>if t=true then F ρ else G ρ):=λe f=>BG (a0m l (m e f)<|n e f) λD p H O ρ E h q=>⟨e,f,O,ρ,E,by
 cases g:d ρ with
 |ok t=>
  rw[g]at q;intro k s;cases t with
  |true=>rw[jk rfl];show{O,ρ,E.grow s,h,RS.grow q (Kp.of s)}
  |false=>rw[jl aBB];show{O,ρ,E.grow s,h,RS.grow q (Kp.of s)}
 |ex x=>rw[g]at q;showλk s=>q k (E.same.trans s)
 |bad=>rw[g]at q;show q⟩
def ItD(K:km)(J:It)(H:Hp)(O:bb->Prop)(ds:List D):Prop:=∀b e,Kp H O b e->J7 K e->(∀a,O a->∃o,H a=some o/\Mt o)->(∀a,e a->∃o,b a=some o/\Mt o)->∀i:Nat,
 (∀d,ds[i]?=some d->J.go i b/\∀x f,J.yld i b x f->Same b f/\Rep K f e x d)/\(ds[i]?=none->J.stop i b)
def tI(X:Cx)(f:Ev->R (List D)):TI:=λd H R=>∃g h O b,EnvOk X.K g h H O d b/\J7 X.K O/\match f b with
 |.ok k=>∀J a,Same H a->ItD X.K J a O k->R J a
 |.ex e=>∀a,Same H a->XW X e a
 |.bad=>False
def VR(X:Cx)(a iter:cv)(f:Ev->R (List D)):Prop:=PI X a iter (tI X f)
def xD(h:PI X d iter t)(i:∀a H R,t' a H R->t a H R):PI X d iter t':=λb s a H R I q=>h b s a H R I (i a H R q)
def L8:D->R (List D)
 |.lst Y=>.ok Y
 |_=>.bad
def GZ:D->R (List D)
 |.tup Y=>.ok Y
 |_=>.bad
def q8(h:PD X iter f):VR X J iter (λρ=>(f ρ).bind L8):=xD (UM h) λL H R z=>by
 let{p,t,O,ρ,E,N,q}:=z;show{p,t,O,ρ,E,?_};dsimp only at q;cases e:f ρ with
 |ok d=>
  rw[e]at q;cases d with
  |lst Y=>
   intro v u s r;cases r with
   |lst h n r=>
    rename_i a b;show{a,rfl,{b,h},q (Itl X.K a) u s ?_};intro Q T k l w y i;let{U,g}:=k.lst n h λo q=>l a o q;have A:=k.ab8 w l r;show{λd e=>?_,λe=>{b,g,by rw[r.length];show aCc.mp e}};let{v,m,B}:=A.get e;show{{b,v,g,m},by rintro x H3 ⟨C,I⟩;subst C;have:=I b g;rw[m]at this;cases this;show{Same.refl _,B}}
  |_=>show(q).elim
 |ex x=>rw[e]at q;show q
 |bad=>rw[e]at q;show q
def jL(h:PD X iter f):VR X C iter (λρ=>(f ρ).bind GZ):=xD (pj h) λI H R z=>by
 let{n,o,O,ρ,E,J,q}:=z;show{n,o,O,ρ,E,?_};dsimp only at q;cases e:f ρ with
 |ok d=>
  rw[e]at q;cases d with
  |tup Y=>
   intro v p s r;cases r with
   |tup h r=>
    rename_i a b;show{a,rfl,{b,h},q (Itt X.K a) p s ?_};intro L N k t l u i;have g:=k.tup l h;have w:=k.ab8 l t r;show{λd e=>?_,λe=>{b,g,by rw[r.length];show aCc.mp e}};let{v,m,y}:=w.get e;show{{b,v,g,m},by rintro x Q ⟨A,B⟩;subst A;have:=B b g;rw[m]at this;cases this;show{Same.refl _,y}}
  |_=>show(q).elim
 |ex x=>rw[e]at q;show q
 |bad=>rw[e]at q;show q
def YW(lo c:Int)(n:Nat):It:={λi _=>i<n,λi H x a=>a=H/\x=.int (lo+i*c),λi _=>n<=i}
def AE{P:bo}{w:cq}{K:km}{B:cv}(d:bb)(lo c:Int)(n:Nat):Turn P w K B (YW lo c n) [d] d (λi h=>IsRangeIter h d (lo+(i:Nat)*c) ((n:Int)-(i:Nat)) c)where
 mem:=by simp
 obj:=λi h st b f=>by nofun
 keep:=λi h m st k=>k d (by simp) _ st
 item:=by intro X C J L p i a s A H E I l st q;let{r,u,N,x,y,z}:=l d (by simp);show(Walks.range (I.ok.hd p) d lo c n).item i s _ _ q st λv m O Q g kk=>?_;let{t,rfl}:=Q;have T:Inv X a A H {s with heap:=m,toks:=O}:=I.turned (λb o f e=>kk b o (by nofun) e) r u x y z;show{_,rfl,QJ g rfl rfl (by symm) {.int (lo+i*c),H,T,{t,rfl},{rfl,rfl},g,λb f=>(l b f).1}}
 done:=by intro X C J L p i a s A H E I l st q;let{r,u,N,x,y,z}:=l d (by simp);show wpAny_pyNext_range_end (I.ok.hd p) st (by have:n<=i:=q;lia) λm U=>{rfl,I.turned (t':=s.toks) (λb o f e=>U b o f e) r u x y z}
 self:=λ_ _ _ _ _ st h=>wpAny_pyIter_rangeiter st h
def vL(lo c:Int)(n:Nat):List D:=(aBm n).map λ(k:Nat)=>D.int (lo+(k:Int)*c)
def ItR(K:km)(J:It)(ds:List D):Prop:=∀(a:Hp) (e:bb->Prop) (i:Nat),
 (∀d,ds[i]?=some d->J.go i a/\∀x b,J.yld i a x b->Same a b/\Rep K b e x d)/\(ds[i]?=none->J.stop i a)
def kF(K:km)(lo c:Int)(n:Nat):ItR K (YW lo c n) (vL lo c n):=by
 intro g h i;unfold vL;rw[aAu];by_cases a:i<n
 .rw[List.getElem?_range a];show{λd e=>?_,λe=>(by cases e)};cases e;show{a,by rintro x k ⟨b,f⟩;subst b f;show{Same.refl _,.int}}
 rw[aCc.mpr (by exists a)];show{λd e=>(by cases e),λ_=>aCF a}
def jD(a b c:Int):Nat:=if a<b then((b-a-1)/c+1).toNat else 0
def KB(d:0<c):aCr a b c=(jD a b c:Int):=by
 unfold aCr jD;rw[jk (by lia)];split
 .have:0<=(b-a-1)/c:=Int.ediv_nonneg (by lia) (by lia)
  lia
 rfl
def JG(f:0<c)(g:c<2^30)(k:-(2^60)<=a)(d:a<2^60)(l:-(2^60)<=b)(m:b<2^60):aFV a b c=true:=by
 unfold aFV;have e:aCr a b c=if a<b then(b-a-1)/c+1 else 0:=by
  unfold aCr
  nofun
 rw[e];have n:a<b->(b-a-1)/c<=b-a-1:=λh=>Int.ediv_le_self _ (by lia);have o:a<b->0<=(b-a-1)/c:=λh=>Int.ediv_nonneg (by lia) (by lia);erw[Builtin.Range.rangeFitsLong,aAH,Bool.or_eq_true,decide_eq_true_eq,beq_iff_eq,show c>0 by omega,if_true];omega
def pU(a b c:Int):Prop:=0<c/\c<2^30/\-(2^60)<=a/\a<2^60/\-(2^60)<=b/\b<2^60
instance(a b c:Int):Decidable (pU a b c):=inferInstanceAs (Decidable<|_/\_)
def bA:List D->R (List D)
 |[.int b]=>if pU 0 b 1 then .ok (vL 0 1 (jD 0 b 1))else .bad
 |[.int a,.int b]=>if pU a b 1 then .ok (vL a 1 (jD a b 1))else .bad
 |[.int a,.int b,.int c]=>if pU a b c then .ok (vL a c (jD a b c))else .bad
 |_=>.bad
def ZA(h:bA ds=.ex x):False:=by unfold bA at h;split at h<;>first|cases h|split at h<;>cases h
def nj(h:bA ds=.ok d):(∃b,ds=[.int b])\/(∃a b,ds=[.int a,.int b])\/∃a b c,ds=[.int a,.int b,.int c]:=by
 unfold bA at h;split at h
 .show .inl {_,rfl}
 .show .inr (.inl {_,_,rfl})
 .show .inr (.inr {_,_,_,rfl})
 cases h
def kE{R:It->Hp->Prop}{E:B4}(I:Inv X d g H s)(h:pU a b c)(q:R (YW a c (jD a b c)) H):bc (be X.prog X.w) X.A (pyIter (.ref s.heap.objs.size)) (PIE X d g C R) E {s with heap:=s.heap.push {cls:=.type "range",data:=.fields #[.int a t,.int b u,.int c v]},toks:=tk}:=by
 let{k,l,m,n,p,r}:=h;show wpAny_pyIter_range (IsRange.new ..) (JG k l m n p r) ?_;have f:Inv X d g H {s with heap:=s.heap.push {cls:=.type "range",data:=.fields #[.int a t,.int b u,.int c v]},toks:=tk}:=I.kept λb o e=>aAc _ e;show⟨(s.heap.push {cls:=.type "range",data:=.fields #[.int a t,.int b u,.int c v]}).objs.size,[(s.heap.push {cls:=.type "range",data:=.fields #[.int a t,.int b u,.int c v]}).objs.size],_,_,H,rfl,
  f.kept (t':=tk) λb o e=>aAc _ e,AE _ a c (jD a b c),?_,λx y=>?_,q⟩
 .have z:a+((0:Nat):Int)*c=a:=by simp
  have B:((jD a b c:Nat):Int)-((0:Nat):Int)=aCr a b c:=by rw[KB k];simp
  rw[z,B];show aAp _ rfl
 have e:x=(s.heap.push {cls:=.type "range",data:=.fields #[.int a t,.int b u,.int c v]}).objs.size:=by exists y
 subst e;show f.ae9 (aAj _) (f.hok.fresh<|aAj _)
def QV{R:It->Hp->Prop}{O:bb->Prop}(I:Inv X e k H s)(r:Paired (z6 X.K H O) vs ds)(f:m9 vs l)(h:bA ds=.ok m)(q:∀J,ItR X.K J m->R J H):bc (be X.prog X.w) X.A (call (.type "range") l) (λv n=>bc (be X.prog X.w) X.A (pyIter v) (PIE X e k E R) X.xe n) X.xe s:=by
 rcases nj h with⟨b,rfl⟩|⟨a,b,rfl⟩|⟨a,b,c,rfl⟩
 .let{v,rfl,z}:=JA r;cases z.aa6;let{u,rfl,t,rfl}:=vals1 f;erw[bA]at h;split at h
  .rename_i d;cases h;show call_range_1 (kE I d<|q _<|kF _ _ _ _)
  cases h
 .let{v,o,rfl,z,g}:=pr2 r;cases z.aa6;cases g.aa6;let{u,p,rfl,{t,rfl},{x,rfl}}:=vals2 f;erw[bA]at h;split at h
  .rename_i d;cases h;show call_range_2 (kE I d<|q _<|kF _ _ _ _)
  cases h
 cases r with
 |cons y r=>
  let{v,o,rfl,z,g}:=pr2 r;cases y.aa6;cases z.aa6;cases g.aa6;cases f with
  |cons B f=>
   let{u,p,rfl,{t,rfl},{x,rfl}}:=vals2 f;let{L,rfl}:=B;erw[bA]at h;split at h
   .rename_i d;cases h;have C:=d;let{N,Q,_}:=C;show call_range_3 (by lia) (kE I d<|q _<|kF _ _ _ _) (.inl (PyProof.noPylong_small (by lia)))
   cases h
def tIR(X:Cx)(f:Ev->R (List D)):TI:=λd H R=>∃g h O b,EnvOk X.K g h H O d b/\J7 X.K O/\match f b with
 |.ok k=>∀J a,Same H a->ItR X.K J k->R J a
 |.ex e=>∀a,Same H a->XW X e a
 |.bad=>False
def sZ{t e:cv}{es:List cv}{p:Pos}{f:Ev->R (List D)}(u:ez X (e::es) f)(v:Gl X "range"<|>1)(w:X.mg "range"=none<|>4)
  (y:a5 (e::es) X.env=(false,dC e X.env)::a5 es X.env<|>1) (z:(dq d (a5 es X.env)).any (·.1)=false<|>1):
  PI X t (.Call (.Name "range" p) (e::es) [] d) (tIR X λρ=>(f ρ).bind bA):=by
 rintro g s A H Q I ⟨B,C,O,ρ,E,fk,q⟩;dsimp only at q;show Call_ (K0 I v w boot_range<|aBb (D6 (u d g s A H (λl a=>∃b h,Same H a/\Paired (z6 X.K a O) l b/\bA b=.ok h/\∀J,ItR X.K J h->Q J a) I ⟨B,C,O,ρ,E,?_⟩) λus m L=>?_) y z)
 .cases n:f ρ with
  |ok b=>
   rw[n]at q;intro l a m o;rw[R.aa0]at q;cases k:bA b with
   |ok h=>rw[k]at q;show{b,h,m,o,k,λJ N=>q J a m N}
   |ex x=>rw[k]at q;show(ZA k).elim
   |bad=>rw[k]at q;show q.elim
  |ex x=>rw[n]at q;show q
  |bad=>rw[n]at q;show q
 let{l,a,T,o,b,h,sm,r,U,Y}:=L;show QV T r o U Y
def U9{d e:cv}{es:List cv}{p:Pos}{f:Ev->R (List D)}(g:ez X (e::es) f)(h:Gl X "range"<|>1)(k:X.mg "range"=none<|>4)
  (l:a5 (e::es) X.env=(false,dC e X.env)::a5 es X.env<|>1) (m:(dq a (a5 es X.env)).any (·.1)=false<|>1):
  VR X d (.Call (.Name "range" p) (e::es) [] a) (λρ=>(f ρ).bind bA):=by
 show xD (sZ g h k l m) ?_;rintro y H R ⟨n,o,O,ρ,E,r,q⟩;show{n,o,O,ρ,E,r,?_};dsimp only at q⊢;cases b:(f ρ).bind bA with
 |ok z=>rw[b]at q;showλJ t s u=>q J t s λv w _ _ _ _=>u v w
 |ex x=>rw[b]at q;show q
 |bad=>rw[b]at q;show q
def tG(X:Cx)(G:D->Ev->R Ev):TG:=λv k H Q=>∃e f O g d a,EnvOk X.K e f H O k g/\Rep X.K H O v d/\G d g=.ok a/\∀h b,Same H b->EnvOk X.K e f b O h a->Q h b
def JD(X:Cx)(a:cv)(G:D->Ev->R Ev):Prop:=PG X a (tG X G)
def fw(h:PG X d t)(i:∀v a H Q,t' v a H Q->t v a H Q):PG X d t':=λb s a H v u Q I r q=>h b s a H v u Q I r (i v a H Q q)
def l7(i:Nat)(a:X.N.Nodup)(b:X.N[i]?=some x<|>1)(f:Loc X.env.scope x<|>8)(g:X.fn x=true\/X.env.scope.names.lookup x=some .local<|>7):
  JD X (.Name x h) (λd ρ=>.ok (ρ.set i (.v d))):=fw (TQ a b f g)<|by
 rintro v l H Q ⟨m,n,O,ρ,d,k,E,r,e,q⟩;cases e;show q _ H (Same.refl _) (E.set i r)
def tGs(X:Cx)(G:List D->Ev->R Ev):ZV:=λk l H Q=>∃d e O f g a,EnvOk X.K d e H O l f/\Reps X.K H O k g/\G g f=.ok a/\∀h b,Same H b->EnvOk X.K d e b O h a->Q h b
def TR(X:Cx)(a:List cv)(G:List D->Ev->R Ev):Prop:=qy X a (tGs X G)
def GX{d:List cv}{t t':ZV}(h:qy X d t)(i:∀v a H Q,t' v a H Q->t v a H Q):qy X d t':=λb s a H v u Q I r q=>h b s a H v u Q I r (i v a H Q q)
def tE:List D->Ev->R Ev
 |[],a=>.ok a
 |_,_=>.bad
def gQ(G:D->Ev->R Ev)(b:List D->Ev->R Ev):List D->Ev->R Ev
 |d::e,f=>(G d f).bind λa=>b e a
 |_,_=>.bad
def cW:TR X [] tE:=GX TD<|by
 rintro d a H Q ⟨f,g,O,h,k,b,E,r,e,q⟩;cases r with
 |nil=>cases e;show{rfl,q a H (Same.refl _) E}
 |cons _ _=>cases e
def z7{e:cv}{es:List cv}{G:D->Ev->R Ev}{f:List D->Ev->R Ev}(p:JD X e G)(s:TR X es f)
  (t:(d9 (e::es) X.env).map (·.2)=ja e X.env::(d9 es X.env).map (·.2)<|>1):TR X (e::es) (gQ G f):=GX (PJ p s t)<|by
 rintro g I H Q ⟨h,k,O,l,m,b,E,r,e,q⟩;cases r with
 |nil=>cases e
 |@cons v d g m r u=>
  erw[gQ]at e;cases n:G d l with
  |ok a=>rw[n]at e;show{v,g,rfl,h,k,O,l,d,a,E,r,n,λw J o y=>{h,k,O,a,m,b,y,u.same o,e,λz A B C=>q z A (o.trans B) C}}
  |ex x=>nofun
  |bad=>nofun
def mJ(n:Nat)(d:List D->Ev->R Ev):D->Ev->R Ev
 |.tup a,b=>if a.length=n then d a b else .bad
 |.lst a,b=>if a.length=n then d a b else .bad
 |_,_=>.bad
end
section
theorem tK(f:t≠d):∀(n i:Nat) (s:a9) (Q:List av->a9->Prop),s.heap.IsListIter d t i->s.heap.IsList t items->i+n<=items.size->
  (∀h',h'.IsListIter d t (i+n)->Heap.SameBut d s.heap h'->Q ((items.toList.drop i).take n) {s with heap:=h'})->bc (be prog w) A (draw (.ref d) n) Q E s
 |0,i,s,Q,a,_,_,e=>by show aAb (by exists e s.heap a (aGf ..))
 |n+1,i,s,Q,a,g,m,e=>by
  have o:i<items.size:=by omega
  show aAa (wpAny_pyNext_list_item a g (x:=items[i]) (by simp) λh b k=>(aAa (aAJ (tK f n (i+1) _ _ b (g.extBut k.extBut f) (by omega) λp l q=>aAb ?_))));have r:items.toList.drop i=items[i]::items.toList.drop (i+1):=by simp[aCN,o]
  have:=e p (by grind) (k.trans q);grind
def lA{Q:List av->a9->Prop}(p:A.handled=none)(f:s.heap.IsList t items)(q:∀h',Heap.ExtBut s.heap.objs.size s.heap h'->Q items.toList {s with heap:=h'}):bc (be prog w) A (unpackItems (.ref t) items.size none) Q E s:=by
 have k:t≠s.heap.objs.size:=by let{o,g,_}:=f;show aAl (aAf g)
 show aAa ?_
 unfold notIterableAtAll;show aAa (aBs f.typeIs slot_list_iter.lookup<|aAb ?_);show aAa (aAJ<|aDv f ?_);have a:(s.heap.push {cls:=.type "list_iterator",data:=.fields #[.ref t,.int 0 0]}).IsList t items:=by let{o,g,r}:=f;show{o,aAc _ g,r}
 show aAa (aAJ (tK k items.size 0 _ _ {_,aAp _ rfl,rfl,rfl} a (by simp) λl d m=>?_));have u:List.take items.size (List.drop 0 items.toList)=items.toList:=by show aEb (by simp)
 rw[u,jl (by simp)];show aAa (aAJ (wpAny_pyNext_list_end p d (a.extBut m.extBut k) (by simp) λv h=>?_));show aAb (q v λb o n e=>h b o n (m.extBut b o n<|aAc _ e))
def jH{d}{Q:Unit->a9->Prop}(e:A.handled=none)(f:s.heap.IsList t items)(g:(d9 a env).length=items.size)(b:(d9 a env).findIdx? (·.1)=none)(h:∀h',Heap.ExtBut s.heap.objs.size s.heap h'->bc (be prog w) A (assignInOrder ((d9 a env).map (·.2)) items.toList) Q E {s with heap:=h'}):
  bc (be prog w) A (ja (.Tuple a d k) env (.ref t)) Q E s:=by
 show aAa (aEt ?_);unfold unpack;rw[g,b];show aAa (aAJ<|lA e f h)
end
section
def jR(L:X.calm=true)(h:TR X es Gs)(N:(d9 es X.env).length=n<|>1)(T:(d9 es X.env).findIdx? (·.1)=none<|>1):JD X (.Tuple es k pos) (mJ n Gs):=by
 rintro f s p H v u Q I r ⟨U,Y,O,ρ,d,g,E,rd,e,q⟩;cases rd with
 |@tup a t w x l=>
  cases r;erw[mJ]at e;split at e
  .rename_i y;let{z,m,A,hz}:=I.tuple x;show assign_Tuple_tuple (I.ok.hd L) A (by simp[N,<-y,<-l.length,m.length]) T λB C=>?_;have J:Inv X f p H {s with heap:=B}:=I.kept (t':=s.toks) λb o e=>C b o (aAl<|aAf e) e;show h f _ p H t _ Q J (by exists m) {U,Y,O,ρ,w,g,E,l,e,q}
  cases e
 |@lst a t w x _ l=>
  cases r;erw[mJ]at e;split at e
  .rename_i y;let{z,m,A,hz}:=I.list x.sq;show jH (I.ok.hd L) A.isList (by simp[N,<-y,<-l.length,m.length]) T λB C=>?_;have J:Inv X f p H {s with heap:=B}:=I.kept (t':=s.toks) λb o e=>C b o (aAl<|aAf e) e;show h f _ p H t _ Q J (by exists m) {U,Y,O,ρ,w,g,E,l,e,q}
  cases e
 |_=>cases e
def HW(f:Ev->R D)(G:D->Ev->R Ev):Ev->R Out:=λb=>(f b).bind λd=>match G d b with
 |.ok a=>.ok (.nx a)
 |_=>.bad
def nE(p:PD X e f)(t:JD X a G)(u:gs [a] e h.line X.env=pure false<|>1)(w:gW [a] e X.env=pure none<|>1)(y:(d9 [a] X.env).map (·.2)=[ja a X.env]<|>1):mV X (.Assign [a] e h) (HW f G):=λm n=>BG (EK p t u w y) λD J H O b E z q=>⟨m,n,O,b,E,by
 unfold HW at q;cases k:f b with
 |ok d=>
  rw[k,R.aa0]at q;intro v o s r;cases g:G d b with
  |ok l=>rw[g]at q;show{m,n,O,b,d,l,E.grow s,r,g,λA B C I=>q A B O I z (Kp.of<|s.trans C)}
  |ex x=>rw[g]at q;show(q).elim
  |bad=>rw[g]at q;show aAA q
 |ex x=>rw[k]at q;showλo s=>q o (E.same.trans s)
 |bad=>rw[k]at q;show q⟩
def OR(i j:Nat){e g SN}(o:X.calm=true)(p:X.N.Nodup)(t:KJ X [a,b] f)(u:X.N[i]?=some x<|>1)(w:X.N[j]?=some y<|>1)(z:i≠j<|>2)(A:X.env.scope.names.lookup x=some .local<|>1)(B:X.env.scope.names.lookup y=some .local<|>1)(C:gW [.Tuple [.Name x m,.Name y n] e pt] (.Tuple [a,b] g SN) X.env=pure (some [x,y])<|>1)(I:gs [.Tuple [.Name x m,.Name y n] e pt] (.Tuple [a,b] g SN) h.line X.env=pure false<|>1):
  mV X (.Assign [.Tuple [.Name x m,.Name y n] e pt] (.Tuple [a,b] g SN) h) (λρ=>(f ρ).bind λds=>match ds with
   |[d,d']=>.ok (.nx ((ρ.set i (.v d)).set j (.v d')))
   |_=>.bad):=λJ L=>BG (ay o p u w z A B t C I) λD Y H O ρ E Q q=>⟨J,L,O,ρ,E,by
 cases k:f ρ with
 |ok ds=>
  rw[k,R.aa0]at q;intro vs l s r;cases r with
  |nil=>show(q).elim
  |cons T r=>
   cases r with
   |nil=>show(q).elim
   |cons U r=>
    cases r with
    |nil=>show{_,_,rfl,q _ l O (((E.grow s).set i T).set j U) Q (Kp.of s)}
    |cons _ _=>show(q).elim
 |ex x=>rw[k]at q;showλl s=>q l (E.same.trans s)
 |bad=>rw[k]at q;show q⟩
def M0(G:D->Ev->R Ev)(F:Ev->R Out):List D->Ev->R Out
 |[],b=>.ok (.nx b)
 |d::f,b=>match G d b with
  |.ok e=>match F e with
   |.ok (.nx a)=>M0 G F f a
   |.ok (.ct a)=>M0 G F f a
   |.ok (.bk a)=>.ok (.nx a)
   |r=>r
  |_=>.bad
def C3(hp:PassesOwn (be X.prog X.w) X.A X.env X.xe)(hc:X.calm=true)(hi:VR X tg iter f)(hg:JD X tg G)(hb:bX X body F)(hs:(∀x,eQ iter X.env x=pure x)<|>6):mV X (.For tg iter body [] pos) (λρ=>(f ρ).bind λds=>M0 G F ds ρ):=λl n=>BG (RX hp hc hi hg (hb l n) hs) λD σ H O ρ E fk q=>⟨l,n,O,ρ,E,fk,by
 cases N:f ρ with
 |ex x=>rw[N]at q;showλk s=>q k (E.same.trans s)
 |bad=>rw[N]at q;show q
 |ok ds=>
  rw[N,R.aa0]at q;intro J H1 Q hJ;show{λi m T k=>m=ds.length-i/\i<=ds.length/\∃g h,EnvOk X.K l n k g T h/\J7 X.K g/\Kp H1 O k g/\RS X l n k g (M0 G F (ds.drop i) h) D,{ds.length,by simp,aAT _,O,ρ,E.grow Q,fk,Kp.refl _ _,?_},?_}
  .show q.grow (Kp.of Q)
  rintro i m T k ⟨rfl,hi,g,h,U,Y,k',a⟩;have v:=hJ k g k' Y (E.grow Q).trk U.trk i;by_cases ai:i<ds.length
  .let{go,yl}:=v.1 ds[i] (aAd ai);show .inr {go,λue u=>∃I b,EnvOk X.K l n u I ue b/\J7 X.K I/\Kp H1 O u I/\RS X l n u I (M0 G F (ds.drop<|i+1) b) D,λue u p=>{ds.length-(i+1),by omega,rfl,ai,p},λx u y=>?_};let{s2,r2}:=yl x u y;rw[aCN ai,M0]at a;cases L:G ds[i] h with
   |ex x=>rw[L]at a;show(a).elim
   |bad=>rw[L]at a;show(a).elim
   |ok r=>
    rw[L]at a;dsimp only at a;show{l,n,g,h,ds[i],r,U.grow s2,r2,L,λqa H3 s3 E3=>{g,r,E3,Y,?_}};have kk:Kp k g H3 g:=Kp.of (s2.trans s3);cases e3:F r with
    |ex x=>rw[e3]at a;show a
    |bad=>rw[e3]at a;show a
    |ok o=>
     rw[e3]at a;cases o with
     |nx b=>showλzt H4 z B C t=>{z,b,B,C,k'.trans (kk.trans t),RS.grow a (kk.trans t)}
     |ct b=>showλzt H4 z B C t=>{z,b,B,C,k'.trans (kk.trans t),RS.grow a (kk.trans t)}
     |bk b=>showλzt H4 z B C t=>a zt H4 z B C (kk.trans t)
     |rt d=>show a
  have e:i=ds.length:=by omega
  subst e;rw[List.drop_length,M0]at a;show .inl {v.2 (by simp),a T k g U Y (Kp.refl _ _)}⟩
def S4(c:Ev->R Bool)(F:Ev->R Out):Nat->Ev->R Out
 |0,_=>.bad
 |n+1,d=>(c d).bind λb=>if b=true then(match F d with
  |.ok (.nx a)=>S4 c F n a
  |.ok (.ct a)=>S4 c F n a
  |.ok (.bk a)=>.ok (.nx a)
  |r=>r)else .ok (.nx d)
def fA(n:Ev->Nat)(hp:PassesOwn (be X.prog X.w) X.A X.env X.xe)(hc:FH X c y)(hb:bX X body F):mV X (.While c body [] pos) (λρ=>S4 y F (n ρ) ρ):=λh k=>BG (SB hp hc<|hb h k) λD σ H O ρ E fk q=>by
 show{λm I z=>∃f e,EnvOk X.K h k z f I e/\J7 X.K f/\RS X h k z f (S4 y F m e) D,{n ρ,O,ρ,E,fk,q},?_};rintro m I z ⟨f,e,B,Y,a⟩;cases m with
 |zero=>show(a).elim
 |succ m=>
  rw[S4]at a;show{h,k,f,e,B,?_};cases J:y e with
  |ex x=>rw[J]at a;showλC l=>a C (B.same.trans l)
  |bad=>rw[J]at a;show a
  |ok b=>
   rw[J,R.aa0]at a;intro C l;cases b with
   |false=>show a I C f (B.grow l) Y (Kp.of l)
   |true=>
    show{λqa L=>∃N r,EnvOk X.K h k L N qa r/\J7 X.K N/\RS X h k L N (S4 y F m r) D,λqa L p=>{m,aDG m,p},f,e,B.grow l,Y,?_};have kk:Kp z f C f:=Kp.of l;cases Q:F e with
    |ex x=>rw[Q]at a;show a
    |bad=>rw[Q]at a;show a
    |ok o=>
     rw[Q]at a;cases o with
     |nx g=>showλT U s t u v=>{s,g,t,u,RS.grow a (kk.trans v)}
     |ct g=>showλT U s t u v=>{s,g,t,u,RS.grow a (kk.trans v)}
     |bk g=>showλT U s t u v=>a T U s t u (kk.trans v)
     |rt d=>show a
end
def spD(K:km)(n:Nat)(m:List D->R D):Sp:=λf H Q _=>∃O b d,Reps K H O f b/\b.length=n/\(∀a,O a->∃o,H a=some o/\Mt o)/\Tb H/\J7 K O/\m b=.ok d/\∀v e,Same H e->Rep K e O v d->Q v e
def j3(N:List Str)(ds:List D):Ev:=ds.map Sl.v++aCL (N.length-ds.length) Sl.no
def J9:R Out->R D
 |.ok (.rt d)=>.ok d
 |.ok (.nx _)=>.ok .non
 |.ex e=>.ex e
 |_=>.bad
def kK{K:km}{H:Hp}{O:bb->Prop}{N:List Str}{vs:List V}{ds:List D}(r:Reps K H O vs ds)(t:∀a,O a->∃o,H a=some o/\Mt o)(tb:Tb H):EnvOk K H O H O (start N vs) (j3 N ds)where
 len:=by simp[L2.start,j3,r.length]
 same:=Same.refl H
 sub:=λ_ h=>h
 trk:=t
 trk0:=λa h=>by let{o,q,_}:=t a h;show{o,q}
 tab:=tb
 slot:=λi g h=>by
  unfold j3 at h;unfold L2.start;by_cases b:i<ds.length
  .rw[aAG (by exists b),aAu]at h;cases e:ds[i]? with
   |none=>rw[e]at h;cases h
   |some d=>rw[e]at h;have f:Sl.v d=g:=aAq h;subst f;let{v,k,l}:=r.get e;show{v,by rw[aAG (by rw[aAh,r.length];show b),aAu,k];rfl,l}
  rw[aAy (by exists b),aBE]at h;split at h
  .cases h;trivial
  cases h
 inj:=λi j x y a h _ o=>by
  unfold j3 at h;by_cases b:i<ds.length
  .rw[aAG (by nofun),aAu]at h;cases e:ds[i]? with
   |none=>rw[e]at h;cases h
   |some d=>rw[e]at h;have f:Sl.v d=x:=aAq h;subst f;show o.elim
  rw[aAy (by nofun),aBE]at h;split at h
  .cases h;show o.elim
  cases h
section
variable{K:km}
abbrev SE(P:bo)(w:cq)(K:km)(mg:fD)(base:cy)(N:List Str)(qual:Str)(sc:i3)(f:bb)(L:av)(A:cp)(a:List Env)(s:a9)(H:Hp)(E:XK):Cx:=(BV xP P w K mg base N qual sc f L A a s H E).nox
def fnD{x qual:Str}{st:df}{f:bb}{n:eO}{N ps:List Str}{k:Nat}{m:List D->R D}{F:Ev->R Out}(t:Fun K x qual st f n)(S:FnScope N ps (b9 st))
  (u:∀(L:av) (A:cp) (a:List Env) (s:a9) (H:Hp) (E:XK),Room k (A.deeper (envOfC qual (b9 st) s.heap.objs.size f L))->bX (SE P w K mg base N qual (b9 st) f L A a s H E) (q9 st) F)
  (v:∀ds d,ds.length=ps.length->m ds=.ok d->J9 (F (j3 N ds))=.ok d):FnOk P w K mg base xP (k+1) f n ps (spD K ps.length m):=by
 show t.ok S (by rintro y H Q E ⟨O,ds,d,r,g,_⟩;rw[r.length];show g) (λL A a s H y Q E z B=>?_);let{O,ds,d,r,g,C,I,J,e,q}:=B;show{_,u L A a s H E z H O,O,_,kK r C I,J,?_};have h:=v ds d g e;cases l:F (j3 N ds)with
 |ok o=>
  rw[l]at h;cases o with
  |rt T=>have b:R.ok T=R.ok d:=h;injection b with b;subst b;show q
  |nx p=>have b:R.ok D.non=R.ok d:=h;injection b with b;subst b;showλaf U O' Y _ _=>q .non U Y.same .non
  |bk p=>cases h
  |ct p=>cases h
 |ex x=>rw[l]at h;cases h
 |bad=>rw[l]at h;cases h
end
section
def pL(I:Inv X b e H s)(O:bb->Prop)(t:∀a,O a->∃o,H a=some o/\Mt o):J7 X.K O:=λa o d z=>by let{u,h,_}:=t a z;have:=(I.bs a o<|I.ok.mod.kin a o d).2;grind
def WC(F:FnOk X.prog X.w X.K X.mg X.base xP k g t ps (spD X.K n m))(u:Room k X.A)(y:X.mg x=some (.ref g))(B:PySem.W.keepIn X.K (.ref g)=true)(C:Binds X.K t ps [])(J:KJ X (e::es) f)(L:∀ρ ds,f ρ=.ok ds->ds.length=n)(N:Gl X x<|>1)(T:(x==lb)=false<|>2)(U:a5 (e::es) X.env=(false,dC e X.env)::a5 es X.env<|>1)(Y:(dq l (a5 es X.env)).any (·.1)=false<|>1):
  PD X (.Call (.Name x p) (e::es) [] l) (λρ=>(f ρ).bind m):=by
 show wF λa s σ H Q I H9 O0 O ρ E q=>(VU F u N y B C .nil vq J T U Y a s σ H Q I {H9,O0,O,ρ,E,?_});dsimp only at q;cases b:f ρ with
 |ex z=>rw[b]at q;show q
 |bad=>rw[b]at q;show q
 |ok ds=>
  rw[b,R.aa0]at q;intro vs H1 o r1;rw[aBW];have r:=E.grow o;cases h:m ds with
  |ex z=>rw[h]at q;show(q H<|Same.refl _).elim
  |bad=>rw[h]at q;show q.elim
  |ok d=>rw[h]at q;show{O,ds,d,r1,L ρ ds b,r.trk,r.tab,(pL I O E.trk),h,λv H' s2 r2=>q v H' (o.trans s2) r2}
end
def OH(env:Env):List (Str×eZ)->List (Str×bb)->List (Str×bb)
 |[],B=>B
 |(n,k)::r,B=>OH env r (if k=.free then(n,(env.cells.lookup n).getD 0)::B else B)
def fP(h:∀y∈d.names,y.2=.free->∃c,env.cells.lookup y.1=some c):closureFor d env=pure (OH env d.names []):=by
 have s:∀(b:List (Str×eZ)) (B:List (Str×bb)),(∀y∈b,y.2=.free->∃c,env.cells.lookup y.1=some c)->
   (forIn b B λ(x:Str×eZ) (r:List (Str×bb))=>(match x with
    |(f,g)=>if(g==NameKind.free)=true then(do let a<-cellOf env f;pure (aCe ((f,a)::r)))else pure (aCe r):Sem (ForInStep<|List<|Str×bb)))=pure (OH env b B):=by
  intro b;induction b with
  |nil=>intro B _;rfl
  |cons y r p=>
   intro B l;let{n,k}:=y;rw[aDo];by_cases m:k=.free
   .subst m;let{c,q}:=l (n,.free) aBA rfl;have e:cellOf env n=pure c:=by unfold cellOf;rw[q]
    erw[beq_self_eq_true,if_true,e,pure_bind];rw[p _ λz o=>l z (aAe _ o)];simp[OH,q]
   have t:(k==NameKind.free)=false:=by exists m
   erw[t,aAF,if_false,pure_bind];rw[p _ λz o=>l z (aAe _ o)];simp[OH,m]
 change((forIn d.names ([]:List (Str×bb)) λ(x:Str×eZ) (r:List (Str×bb))=>(match x with
    |(f,g)=>if(g==NameKind.free)=true then(do let a<-cellOf env f;pure (aCe ((f,a)::r)))else pure (aCe r):Sem (ForInStep<|List<|Str×bb)))>>=pure)=_
 rw[(s d.names [] h)];rfl
theorem yB:∀(names:List (Str×eZ)) (B:List (Str×bb)) {x:Str}{c:bb},(∀y∈names,y.2=.free->∃c,env.cells.lookup y.1=some c)->(∀x c,B.lookup x=some c->env.cells.lookup x=some c)->
  (OH env names B).lookup x=some c->env.cells.lookup x=some c
 |[],B,x,c,_,b,h=>b x c h
 |(n,k)::r,B,x,c,f,b,h=>by
  show yB r _ (λy o=>f y (aAe _ o)) (λd g a=>?_) h;by_cases e:k=.free
  .rw[jk e]at a;let{c0,l}:=f (n,k) aBA e;by_cases m:d=n
   .subst m;rw[aEm]at a;rw[l]at a;rw[l];show a
   rw[aAZ,beq_eq_false_iff_ne.mpr m]at a;show b d g a
  rw[jl e]at a;show b d g a
theorem wI:∀(names:List (Str×eZ)) (B:List (Str×bb)) {x:Str},((x,NameKind.free)∈names\/∃c,B.lookup x=some c)->∃c,(OH env names B).lookup x=some c
 |[],B,x,h=>by
  rcases h with h|h
  .cases h
  show h
 |(n,k)::r,B,x,h=>by
  show wI r _ ?_;rcases h with h|⟨c,h⟩
  .rcases aAg.mp h with e|h
   .cases e
    nofun
   show .inl h
  right;by_cases a:k=.free
  .rw[jk a,aAZ];cases(x==n)with
   |true=>show{_,rfl}
   |false=>show{c,h}
  rw[jl a];show{c,h}
theorem jA{env:Env}:∀{names:List (Str×eZ)}{x:Str},
  ((names.map λ(n,k)=>if(k==NameKind.free&&env.scope.kind==.function&&env.kindOf n==some .cell)then(n,aCs)else(n,k)).lookup x=some .cell\/
   (names.map λ(n,k)=>if(k==NameKind.free&&env.scope.kind==.function&&env.kindOf n==some .cell)then(n,aCs)else(n,k)).lookup x=some .free)->(x,NameKind.free)∈names\/names.lookup x=some .cell
 |[],_,h=>by rcases h with h|h<;>cases h
 |(n,k)::r,x,h=>by
  have d:=@jA env r x;rw[aAz]at h;dsimp only at h;by_cases b:x=n
  .subst b;by_cases a:(k==NameKind.free&&env.scope.kind==.function&&env.kindOf x==some .cell)=true
   .have e:k=.free:=by rw[aAH,aAH]at a;exists a.1.1
    subst e;show .inl aBA
   rw[jl a,aEm]at h;rcases h with h|h
   .right;rw[aEm];show h
   have:k=.free:=aAq h;subst this;show .inl aBA
  have f:(r.map λ(n,k)=>if(k==NameKind.free&&env.scope.kind==.function&&env.kindOf n==some .cell)then(n,aCs)else(n,k)).lookup x=some .cell\/
    (r.map λ(n,k)=>if(k==NameKind.free&&env.scope.kind==.function&&env.kindOf n==some .cell)then(n,aCs)else(n,k)).lookup x=some .free:=by
   by_cases a:(k==NameKind.free&&env.scope.kind==.function&&env.kindOf n==some .cell)=true
   .rw[jk a,aAZ,beq_eq_false_iff_ne.mpr b]at h;show h
   rw[jl a,aAZ,beq_eq_false_iff_ne.mpr b]at h;show h
  rcases d f with h|h
  .show .inl (aAe _ h)
  right;rw[aAZ,beq_eq_false_iff_ne.mpr b];show h
theorem qB:∀(names:List (Str×eZ)) (h:cy) (B:List (Str×bb)) {x:Str}{c:bb},(ee h.objs.size names B).lookup x=some c->B.lookup x=some c\/((pushCells h names).IsCell c none/\h.objs.size<=c)
 |[],h,B,x,c,e=>.inl e
 |(n,k)::r,h,B,x,c,e=>by
  unfold ee at e;unfold pushCells;split at e
  .rename_i b;rw[jk b];rcases qB r (h.push {cls:=.type "cell",data:=.cell none}) ((n,h.objs.size)::B) (x:=x) (c:=c) (by rw[aBw];show e)with a|⟨a,d⟩
   .rw[aAZ]at a;cases f:(x==n)with
    |true=>rw[f]at a;have g:h.objs.size=c:=aAq a;subst g;show .inr {{_,aEy _ _ _ _ (aAp _ rfl),rfl},aAj _}
    |false=>rw[f]at a;show .inl a
   show .inr {a,by rw[aBw]at d;show aCz d}
  rename_i b;rw[jl b];show qB r h B e
theorem kO:∀(names:List (Str×eZ)) (n:Nat) (B:List (Str×bb)) {x:Str}{c:bb},(ee n names B).lookup x=some c->B.lookup x=some c\/n<=c
 |[],n,B,x,c,e=>.inl e
 |(m,k)::r,n,B,x,c,e=>by
  unfold ee at e;split at e
  .rcases kO r (n+1) _ e with a|a
   .rw[aAZ]at a;cases b:(x==m)with
    |true=>rw[b]at a;show .inr (aEN (aAq a))
    |false=>rw[b]at a;show .inl a
   show .inr (aCz a)
  show kO r n B e
theorem qF:∀(names:List (Str×eZ)) (n:Nat) (B:List (Str×bb)) {x:Str}{c:bb},(x,aCs)∈names->(ee n names B).lookup x=some c->n<=c
 |[],n,B,x,c,a,e=>nomatch a
 |(m,k)::r,n,B,x,c,a,e=>by
  unfold ee at e;rcases aAg.mp a with a|a
  .cases a;rcases kO r (n+1) _ e with b|b
   .nofun
   show aCz b
  split at e
  .show aCz (qF r (n+1) _ a e)
  show qF r n B a e
theorem pV:∀(names:List (Str×eZ)) (n:Nat) (B:List (Str×bb)) {x:Str},(x,aCs)∉names->(ee n names B).lookup x=B.lookup x
 |[],n,B,x,_=>rfl
 |(m,k)::r,n,B,x,a=>by
  unfold ee;split
  .rename_i b;rw[pV r (n+1) _ λz=>a (aAe _ z),aAZ];cases d:(x==m)with
   |true=>
    have e:x=m:=by exists d
    have f:k=.cell:=by exists b
    show kb (by rw[e,f];show aBA) a
   |false=>rfl
  show pV r n B λz=>a (aAe _ z)
theorem lC:∀(names:List (Str×eZ)) (n:Nat) (B:List (Str×bb)),(∀x c,B.lookup x=some c->c<n)->(∀x y c,B.lookup x=some c->B.lookup y=some c->x=y)->
  ∀x y c,(ee n names B).lookup x=some c->(ee n names B).lookup y=some c->x=y
 |[],n,B,_,h=>h
 |(m,k)::r,n,B,g,h=>by
  unfold ee;split
  .show lC r (n+1) _ (λx c e=>?_) λx y c b a=>?_
   .rw[aAZ]at e;cases d:(x==m)with
    |true=>rw[d]at e;rw[<-aAq e];show aDG _
    |false=>rw[d]at e;show aBF (g x c e)
   rw[aAZ]at b a;cases d:(x==m)with
   |true=>
    rw[d]at b;cases f:(y==m)with
    |true=>rw[show x=m by simpa using d,show y=m by simpa using f]
    |false=>rw[f]at a;rw[<-aAq b]at a;show kb (g y _ a) (aBg _)
   |false=>
    rw[d]at b;cases f:(y==m)with
    |true=>rw[f]at a;rw[<-aAq a]at b;show kb (g x _ b) (aBg _)
    |false=>rw[f]at a;show h x y c b a
  show lC r n B g h
abbrev cU(X:Cx)(a:i3)(C:bb):List (Str×bb):=ee (C+1) a.names (OH X.env a.names [])
def HU{E:B4}{Q:Env->a9->Prop}(f:Q (newEnv a s.heap.objs.size g (ee (s.heap.objs.size+1) a.names h) q none .none (some env) builtinsNs) {s with heap:=pushCells (s.heap.push {cls:=.type "dict",data:=.dict #[]}) a.names}):
  bc M A (newFunctionEnv a g h [] q none .none (some env)) Q E s:=by
 erw[newFunctionEnv,Option.isSome_some,if_true];show aAa (wpAny_alloc (aAa (wpAny_layCells _ (λe b d=>by cases k:b==aCs<;>simp) _ _ _ _ ?_)));rw[show({s with heap:=s.heap.push {cls:=.type "dict",data:=.dict #[]}}:a9).heap.objs.size=s.heap.objs.size+1 from aBw ..];show aAa (aAb<|aAb f)
def KL{R:Result->a9->Prop}(I:Nat->a9->Prop)(turn:∀n s,I n s->bc (be prog w) A (i4 q) (λr f=>match r with
   |none=>R (.ok .next) f
   |some v=>bc (be prog w) A (letOwnedTupleGo a q v) (λ_ e=>bc (be prog w) A (ja a env v) (λ_ t=>
    bc (be prog w) A (forIn g true λc r=>if r=true then do let ok<-isTrue c env (dC c env);pure (aCe ok)else pure (aCe r)) (λok k=>
     if ok=true then bc (be prog w) A (dC l env) (λx u=>bc (be prog w) A (call (.builtin "list.append") [B,x]) (λ_ y=>∃m,m<n/\I m y) (λ_ _=>False) u) (λ_ _=>False) k
     else∃m,m<n/\I m k) (λ_ _=>False) t) (λ_ _=>False) e) (λ_ _=>False) f) (λ_ _=>False) s) (n:Nat) (h:I n s):gi (be prog w) A (.compLoop (.ListComp l [{a,iter,g,0}] o C) 0 q B env) R s:=by
 show codeAny_loop rfl I (λn s E=>?_) n h;show wpAny_noted ?_;rw[compTurn_list];show aAa (aEt<|aAa<|aCx (turn n s E) (λr f d=>?_) λ_ _ b=>b.elim);cases r with
 |none=>show aAb d
 |some v=>
  show aAa (aCx d (λ_ e p=>?_) λ_ _ b=>b.elim);show aAa (aCx p (λ_ t H=>aAa (aCx H (λok k z=>?_) λ_ _ b=>b.elim)) λ_ _ b=>b.elim);cases ok with
  |false=>show aAb {rfl,z}
  |true=>show aAa (aAa<|aCx z (λx u J=>aAa (aCx J (λ_ y L=>aAb (aAb {rfl,L})) λ_ _ b=>b.elim)) λ_ _ b=>b.elim)
def FR(X:Cx)(pins:N7)(s9:a9)(H9:Hp)(b:List Str)(a:i3)(d:List (Str×bb))(C:bb)(e:List bb):Cx where
 prog:=X.prog
 w:=X.w
 K:=X.K
 mg:=X.mg
 base:=X.base
 A:=X.A
 N:=b
 s9:=s9
 H9:=H9
 env:=compEnvC a d C X.env
 outer:=X.stack
 stack:=X.stack
 ex:=e
 fn:=λx=>a.names.lookup x==some .cell
 calm:=X.calm
 pn:=X.pn++pins
 xe:=λ_ _=>False
structure CompSc(X:Cx)(scope:Scope)(own fr:List Str)(js:List Nat):Prop where
 kind:scope.kind=.function
 apart:∀y∈scope.names,y.2=.free->(y.1,aCs)∉scope.names
 names:∀y∈scope.names,y.2=.local->scope.names.lookup y.1=some .local
 free:∀y∈scope.names,y.2=.free->X.env.kindOf y.1=some .cell\/X.env.kindOf y.1=some .free
 len:js.length=fr.length
 at_:∀(i j:Nat) (x:Str),js[i]?=some j->fr[i]?=some x->X.N[j]?=some x/\(x,NameKind.free)∈scope.names
 nd:js.Nodup
 dis:∀y∈scope.names,y.2=.free->scope.names.lookup y.1=some .free
def seen:Sl->Sl
 |.v d=>.v d
 |.d k=>.d k
 |_=>.no
def f9(own:List Str)(a:List Nat)(ρ:Ev):Ev:=aCL own.length Sl.no++a.map λj=>seen (ρ.getD j Sl.no)
def T9(own:List Str)(a:List Nat)(b:St):St:=aCL own.length none++a.map λj=>b.getD j none
def Inv.ab6(I:L2.Inv X b f H s)(S:CompSc X a own g h):∀y∈a.names,y.2=.free->∃c,X.env.cells.lookup y.1=some c:=
 λy d e=>I.ok.has y.1 (S.free y d e)
def aZ(h:(f9 own f ρ)[i]?=some sl):sl=.no\/∃j,((∃d,sl=.v d)\/∃k,sl=.d k)/\own.length<=i/\f[i-own.length]?=some j/\ρ[j]?=some sl:=by
 unfold f9 at h;by_cases g:i<own.length
 .rw[aAG (by nofun),aBE,jk g]at h
  nofun
 have l:own.length<=i:=aCF g;rw[aAy (by nofun),aCi,aAu]at h;cases e:f[i-own.length]? with
 |none=>nofun
 |some j=>
  rw[e]at h;have a:seen (ρ.getD j Sl.no)=sl:=aAq h;rw[aAr]at a;cases b:ρ[j]? with
  |none=>rw[b]at a;subst a;show .inl rfl
  |some z=>
   rw[b]at a;cases z with
   |v d=>subst a;show .inr {j,.inl {d,rfl},l,rfl,b}
   |d k=>subst a;show .inr {j,.inr {k,rfl},l,rfl,b}
   |_=>subst a;show .inl rfl
def qY{a:St}(d:own.length<=i)(e:b[i-own.length]?=some j)(h:j<a.length):(T9 own b a)[i]?=a[j]?:=by
 unfold T9;rw[aAy (by nofun),aCi,aAu,e]
 nofun
def KT{K:km}{m H:Hp}{n O:bb->Prop}{f:St}{ρ:Ev}{own:List Str}{g:List Nat}(t:g.Nodup)(E:EnvOk K m n H O f ρ):EnvOk K m n H O (T9 own g f) (f9 own g ρ):=by
 have lt:∀{j k},ρ[j]?=some k->j<f.length:=λh=>by rw[E.len];show(aAn.mp h).1
 show{by simp[T9,f9],E.same,E.sub,E.trk,E.trk0,E.tab,λi k h=>?_,λi w x y a b d o p q r=>?_}
 .rcases aZ h with rfl|⟨j,_,l,e,b⟩
  .trivial
  rw[qY l e (lt b)];show E.slot j k b
 rcases aZ b with rfl|⟨j,_,u,e,b⟩
 .show o.elim
 rcases aZ d with rfl|⟨v,_,l,s,d⟩
 .show p.elim
 rw[qY u e (lt b)]at q;rw[qY l s (lt d)]at r;have:=E.inj j v x y a b d o p q r;subst this;have:=(List.getElem?_inj (aAn.mp e).1 t).mp (e.trans s.symm);grind
def JR(I:L2.Inv X pins O H s)(S:CompSc X a own Y js)(Q:∀b∈T,nB X pins H b)(ai:∀b∈T,b<s.heap.objs.size)(e8:h₁=pushCells (s.heap.push {cls:=.type "dict",data:=.dict #[]}) a.names):
  L2.Inv (FR X pins s H (own++Y) a (cU X a s.heap.objs.size) s.heap.objs.size T) [] (T9 own js O) H {s with heap:=h₁,toks:=tk}:=by
 have g:∀b o,s.heap.get? b=some o->h₁.get? b=some o:=λb o e=>by rw[e8];show aEy _ _ _ _ (aAc _ e)
 have yr:h₁.Ns s.heap.objs.size (λ_=>none):=by rw[e8];show(Heap.Ns.new s.heap<|.type "dict").keeps (aEy _ _)
 have cc:=λx c h=>by have:=qB a.names (s.heap.push {cls:=.type "dict",data:=.dict #[]}) (OH X.env a.names []) (x:=x) (c:=c) (by rw[aBw];show h);rw[aBw,<-e8]at this;show this
 have B:∀x c,(OH X.env a.names []).lookup x=some c->X.env.cells.lookup x=some c:=λx c h=>yB a.names [] (Inv.ab6 I S) (λ_ _ z=>(by cases z)) h;have l:∀b o,X.base.get? b=some o->b∉T:=λb o e t=>by
  rcases(Q b t).2.2.2.1 with z|z
  .show I.ok.noex b o e z
  show kb (aAm (aAf e)<|aAk I.ok.bsz z) (aBg _)
 have nfs:∀b∈T,b∉zU X.stack:=λb t z=>by
  rcases aAg.mp (I.ab5 b z)with e|z
  .show(Q b t).2.1 e
  show(Q b t).2.2.1 z
 have q:∀x c,X.env.cells.lookup x=some c->c<s.heap.objs.size+1:=λx c h=>by let{v,o,L,_}:=I.cell x c h;show aBF (aAf L)
 have has:∀x,((relabel a X.env).names.lookup x=some .cell\/(relabel a X.env).names.lookup x=some .free)->∃c,(cU X a s.heap.objs.size).lookup x=some c:=λx J=>by
  have:((cU X a s.heap.objs.size).lookup x).isSome=true:=PySem.W.cellsFrom_some _ _ _ (by
   rcases jA J with h|h
   .let{c,hc}:=wI (env:=X.env) a.names [] (x:=x) (.inl h);grind
   show .inl h)
  show aFd.mp this
 show⟨⟨I.ok.mod,S.kind,I.ok.glob,I.ok.blt,aAj _,lC a.names _ _ (λx c h=>q x c (B x c h)) (λx y c h1 w=>I.ok.inj x y c (B x c h1) (B y c w)),has,λx c hf h=>aCz (qF a.names _ _ (PySem.mem_of_lookup<|eq_of_beq hf) h),I.ok.hd,I.ok.frames,.inl rfl,
  λb t=>{aAl (ai b t),λx c h=>(cc x c h).elim (λh=>(Q b t).2.2.2.2.1 x c (B x c h)) λ⟨_,w⟩ z=>kb (aAm (ai b t)<|aCz w) (by grind)},I.bs,aAk I.ok.bsz I.sz,λb o e=>l b o e,nfs,I.stack,I.ad3⟩,rfl,I.bare,Un.kept g,{_,yr,λi x v e1 A C=>?_},λx c h=>?_,I.hok.fresh (aAj _),λx c h=>(cc x c h).elim (λh=>I.freeC x c (B x c h)) λ⟨_,w⟩=>I.hok.fresh (aCz w),λp hp=>?_,I.hok.kept g,?_⟩
 .
  have hlen:(own++Y).length=(T9 own js O).length:=by simp[T9,S.len]
  unfold T9 at A;by_cases hi:i<own.length
  .rw[aAG (by exists hi),aBE,jk hi]at A;cases A
  have fo:own.length<=i:=aCF hi;rw[aAy (by exists fo),aCi,aAu]at A;have N:(own++Y)[i]?=some x:=e1;rw[aAy fo]at N;cases e:js[i-own.length]? with
  |none=>rw[e]at A;cases A
  |some j=>
   rw[e]at A;have e2':O.getD j none=some v:=aAq A;let{hN,U}:=S.at_ (i-own.length) j x e N;have hσ:O[j]?=some (some v):=by grind
   have hk:=S.free (x,.free) U rfl;let{m,hn,hl}:=I.loc;let{u,r,lk}:=hl j x v hN hσ (.inr hk);show{u,r,?_};rcases lk with⟨jn,_⟩|⟨_,c,hc,jf⟩
   .nofun
   right;let{c',xr}:=wI (env:=X.env) a.names [] (x:=x) (.inl U);have:=B x c' xr;rw[hc]at this;cases this;show{?_,c,(pV a.names _ _<|S.apart (x,.free) U rfl).trans xr,?_}
   .rcases C with C|C|C
    .
     exfalso;have:∀f:List (Str×eZ),(f.map λ(n,k)=>if(k==NameKind.free&&X.env.scope.kind==.function&&X.env.kindOf n==some .cell)then(n,aCs)else(n,k)).lookup x=some .local->f.lookup x=some .local:=by
      intro f;induction f with
      |nil=>intro h;cases h
      |cons y r ih=>
       let{n,k}:=y;intro h;rw[aAz]at h;dsimp only at h;by_cases J:x=n
       .subst J;by_cases E:(k==NameKind.free&&X.env.scope.kind==.function&&X.env.kindOf x==some .cell)=true
        .nofun
        nofun
       rw[aAZ,beq_eq_false_iff_ne.mpr J];by_cases E:(k==NameKind.free&&X.env.scope.kind==.function&&X.env.kindOf n==some .cell)=true
       .rw[jk E,aAZ,beq_eq_false_iff_ne.mpr J]at h;show ih h
       rw[jl E,aAZ,beq_eq_false_iff_ne.mpr J]at h;show ih h
     have w:=this a.names C;rw[S.dis (x,.free) U rfl]at w;cases w
    .show .inl C
    show .inr C
   let{o,L,hd}:=jf;show{o,g c o L,hd}
 .rcases cc x c h with h|⟨h,_⟩
  .let{v,o,L,hd}:=I.cell x c (B x c h);show{v,o,g c o L,hd}
  show{_,h}
 .have zu:p∈X.pn++pins:=by simpa[FR]using hp
  let{e,n,ne,nf,d}:=I.pin p zu;show{g _ _ e,n,aAl (aAf e),λz=>?_,d};rcases aAg.mp (I.ab5 p.1 z)with e'|z'
  .show ne e'
  show nf z'
 simp[T9,FR,S.len]
def u6(G:D->Ev->R Ev)(ft:Ev->R Bool)(fe:Ev->R D)(ρ:Ev):List D->R (List D)
 |[]=>.ok []
 |d::e=>match G d ρ with
  |.ok a=>(ft a).bind λb=>if b=true then(fe a).bind λr=>(u6 G ft fe ρ e).bind λf=>.ok (r::f)else u6 G ft fe ρ e
  |_=>.bad
def yA(a ρ:Ev):Prop:=a.length=ρ.length/\∀(i:Nat) (b:Sl),ρ[i]?=some b->b≠.no->a[i]?=some b
def EnvOk.weak{K:km}{d H:Hp}{f O:bb->Prop}{g:St}{b ρ:Ev}(E:EnvOk K d f H O g b)(h:yA b ρ):EnvOk K d f H O g ρ where
 len:=E.len.trans h.1
 same:=E.same
 sub:=E.sub
 trk:=E.trk
 trk0:=E.trk0
 tab:=E.tab
 slot:=λi k e=>by
  by_cases n:k=.no
  .subst n;trivial
  show E.slot i k (h.2 i _ e n)
 inj:=λi j x y a o p l m=>E.inj i j x y a (h.2 i _ o (by rintro rfl;show l)) (h.2 j _ p (by rintro rfl;show m)) l m
def S8(H:Hp)(a:bb):Hp:=λb=>if b=a then none else H b
def EJ(H:Hp)(a:bb):S8 H a a=none:=jk rfl
def M6(h:b≠a):S8 H a b=H b:=jl h
def KS(h:H a=some o):upd (S8 H a) a o=H:=by
 funext b
 unfold upd S8
 nofun
def EnvOk.ae3{K:km}{d H:Hp}{e O:bb->Prop}{f:St}{ρ:Ev}{a:bb}{vs:List V}(E:EnvOk K d e H O f ρ)(h:H a=none)(g:K.lookup a=none):EnvOk K d e (upd H a (.lst vs)) (λb=>O b\/b=a) f ρ:=E.ab9 h g trivial
def Rep.hidden{K:km}{H:Hp}{O:bb->Prop}{a:bb}{vs:List V}{v:V}{d:D}(h:H a=some (.lst vs))(r:Rep K H (λb=>O b\/b=a) v d):Rep K (S8 H a) O v d:=by
 show r.mono (λb Y q=>?_) (λb Y n q=>{λz=>n (.inl z),?_}) λb f n q=>{λz=>n (.inl z),by rw[M6 λz=>n (.inr z)];show q}
 .rcases q with(q|⟨o,q⟩)|q
  .show .inl (.inl (by rw[M6 (by grind)];show q))
  .show .inl (.inr {o,by rw[M6 (by grind)];show q})
  show .inr q
 have e:=λz=>n (.inr z);show q.imp (λq=>(M6 e).trans q) λz=>{?_,z.2};let{q,_}:=z;rcases q with(q|⟨o,q⟩)|q
 .show .inl (.inl ((M6 e)▸q))
 .show .inl (.inr {o,by rw[M6 e];show q})
 show .inr q
def W7(h:H a=none)(s:Same (upd H a (.lst vs)) H'):Same H (S8 H' a):=λb o q=>by
 have d:b≠a:=by grind
 rw[M6 d];show s b o ((k7 d)▸q)
def ItC(K:km)(J:It)(H:Hp)(O:bb->Prop)(ds:List D):Prop:=∀b e,Same H b->Kp H O b e->J7 K e->(∀a,O a->∃o,H a=some o/\Mt o)->(∀a,e a->∃o,b a=some o/\Mt o)->∀i:Nat,
 (∀d,ds[i]?=some d->J.go i b/\∀x f,J.yld i b x f->Same b f/\Rep K f e x d)/\(ds[i]?=none->J.stop i b)
def ItD.c{K:km}(h:ItD K J H O ds):ItC K J H O ds:=λa b _=>h a b
def tIc(X:Cx)(f:Ev->R (List D)):TI:=λd H R=>∃g h O b,EnvOk X.K g h H O d b/\J7 X.K O/\match f b with
 |.ok k=>∀J a,Same H a->ItC X.K J a O k->R J a
 |.ex e=>∀a,Same H a->XW X e a
 |.bad=>False
def PIC(X:Cx)(a iter:cv)(f:Ev->R (List D)):Prop:=PI X a iter (tIc X f)
def pic(h:VR X b iter f):PIC X b iter f:=xD h<|by rintro m H R ⟨d,g,O,a,E,k,q⟩;show⟨d,g,O,a,E,k,by
 cases e:f a with
 |ok n=>rw[e]at q;showλJ l s h=>q J l s h.c
 |ex x=>rw[e]at q;show q
 |bad=>rw[e]at q;show q⟩
section
def SR(X:Cx)(b:List cv)(ft:Ev->R Bool):Prop:=
 ∀(a:N7) (s:a9) (d:St) (H:Hp) (Q:Bool->Hp->Prop),Inv X a d H s->tDT X ft d H Q->
  bc (be X.prog X.w) X.A (forIn b true λc r=>if r=true then do let ok<-isTrue c X.env (dC c X.env);pure (aCe ok)else pure (aCe r)) (TP X a d Q) X.xe s
def WK:SR X [] (λ_=>.ok true):=by rintro a s b H Q I ⟨d,e,O,f,E,q⟩;show wpAny_tests_nil {H,I,q H (Same.refl _)}
def UQ(h:FH X c ft):SR X [c] ft:=λa s b H Q I q=>wpAny_tests_one (h a s b H Q I q)
def zM{tg elt iter:cv}{ifs:List cv}{scope:i3}{own fr:List Str}{js:List Nat}{G:D->Ev->R Ev}{ft:Ev->R Bool}{fe:Ev->R D}{pins:N7}{σ:St}{H:Hp}{s:a9}{H9:Hp}{O0 O:bb->Prop}{ρ:Ev}
  {it:bb}{U:List bb}{tn:Nat->cy->Prop}{J:It}{ds rs:List D}{RR:av->bb->Result->a9->Prop}{EE:B4} (hc:X.calm=true) (S:CompSc X scope own fr js)
  (hX:∀t:Cx,(∃s9 Ha C,t=FR X pins s9 Ha (own++fr) scope (cU X scope C) C U)->JD t tg G/\SR t ifs ft/\PD t elt fe)
  (hG:∀d L,G d (f9 own js ρ)=.ok L->yA L (f9 own js ρ))
  (I:Inv X pins σ H s) (T:Turn X.prog X.w X.K tg J U it tn) (st:tn 0 s.heap) (vv:∀b∈U,nB X pins H b) (E:EnvOk X.K H9 O0 H O σ ρ) (hJ:ItC X.K J H O ds) (yt:u6 G ft fe (f9 own js ρ) ds=.ok rs) (hlen:ds.length<=sizeLine)
  (fin:∀B C s' H' m,s'.heap.Ns C m->C≠B->s.heap.objs.size<=C->s.heap.objs.size<=B->Same H H'->Rep X.K H' O (.ref B) (.lst rs)->(∃H1 vs,Same H H1/\H1 B=none/\H'=upd H1 B (.lst vs)/\Reps X.K H1 O vs rs)->H' C=none->(∀h',Heap.SameBut C s'.heap h'->Inv X pins σ H' {s' with heap:=h'})->RR (.ref B) C (.ok .next) s'):
  bc (be X.prog X.w) X.A (newList []) (λB sa=>bc (be X.prog X.w) X.A (newFunctionEnv scope X.env.globals (OH X.env scope.names []) [] X.env.qual none .none (some X.env)) (λcenv se=>gi (be X.prog X.w) X.A (.compStart (.ListComp elt [{tg,iter,ifs,0}] scope pos) 0 (.ref it) B {cenv with scope:=relabel scope X.env}) (RR B cenv.locals) se) EE sa) EE s:=by
 have hO:=pL I O E.trk;show aAQ ?_;have hfr:H s.heap.objs.size=none:=I.hok.fresh (aAj _);have hkl:X.K.lookup s.heap.objs.size=none:=by
  cases e:X.K.lookup s.heap.objs.size with
  |none=>rfl
  |some o=>show kb (aAf<|I.kIn _ o e) (aBg _)
 have I1:Inv X pins σ (upd H s.heap.objs.size<|.lst []) {s with heap:=s.heap.push {cls:=.type "list",dict:=none,data:=.seq ([]:List av).toArray}}:=
  I.laid (t':=s.toks) (λb u e=>aAc _ e) (aAj _) {aAT _,[],0,.nil,aAp _ rfl}
 generalize dh:s.heap.objs.size=B at*
 generalize yu:({s with heap:=s.heap.push {cls:=.type "list",dict:=none,data:=.seq ([]:List av).toArray}}:a9)=s1 at I1⊢;have sz1:s1.heap.objs.size=B+1:=by rw[<-yu,<-dh];show aBw _ _
 have keep1:∀b o,s.heap.get? b=some o->s1.heap.get? b=some o:=λb o e=>by rw[<-yu];show aAc _ e
 have wc:∀b∈U,b<B:=λb g=>by let{o,e,_}:=T.obj 0 _ st b g;rw[<-dh];show aAf e
 have hfp1:∀b∈U,nB X pins (upd H B<|.lst []) b:=λb g=>by let{f0,f}:=vv b g;show{by rw[k7 (aAl<|wc b g)];show f0,f}
 show HU ?_;obtain⟨N,e8⟩:∃N,pushCells (s1.heap.push {cls:=.type "dict",data:=.dict #[]}) scope.names=N:={_,rfl};rw[e8];have keep2:∀b o,s1.heap.get? b=some o->N.get? b=some o:=λb o e=>by rw[<-e8];show aEy _ _ _ _ (aAc _ e)
 have IB:=JR (tk:=s1.toks) I1 S hfp1 (λb g=>by rw[sz1];show aBF (wc b g)) e8.symm;generalize hC:s1.heap.objs.size=C at*
 let{hG',hT',hE'}:=hX _ {s1,upd H B (.lst []),C,rfl};generalize pg:FR X pins s1 (upd H B<|.lst []) (own++fr) scope (cU X scope C) C U=t at IB hG' hT' hE';have eP:t.prog=X.prog:=by rw[<-pg];rfl
 have eW:t.w=X.w:=by rw[<-pg];rfl
 have eK:t.K=X.K:=by rw[<-pg];rfl
 have eA:t.A=X.A:=by rw[<-pg];rfl
 have eC:t.calm=true:=by rw[<-pg];show hc
 have eX:t.xe=λ_ _=>False:=by rw[<-pg];rfl
 have eE:t.env=compEnvC scope (cU X scope C) C X.env:=by rw[<-pg];rfl
 have eX0:t.ex=U:=by rw[<-pg];rfl
 have ePn:t.pn=X.pn++pins:=by rw[<-pg];rfl
 have eFs:t.fs=zU X.stack:=by rw[<-pg];rfl
 have eS0:t.s9=s1:=by rw[<-pg];rfl
 have eH0:t.H9=upd H B (.lst []):=by rw[<-pg];rfl
 have eL:t.env.locals=C:=by rw[eE];rfl
 have eCe:t.env.cells=cU X scope C:=by rw[eE];rfl
 have I2of:=IB;have accC:B≠C:=by rw[sz1];show aAl (aDG _)
 have fpC:∀b∈U,b≠C:=λb g=>by have h1:=wc b g;rw[sz1];show aAl (aBF h1)
 have fpB:∀{H':Hp},(∀b∈U,H' b=none)->∀b∈U,nB t [] H' b:=λ{H'} hn b g=>by
  let{f0,f1,f2,f3,f4,f5}:=vv b g;show{hn b g,by rw[eL];show fpC b g,?_,.inl (by rw[eX0];show g),λx c h=>(λb g x c h=>(I2of.ok.exf b (by rw[eX0];show g)).2 x c h) b g x c h,λp hp=>f5 p (by grind)};rw[eFs];intro z;rcases aAg.mp (I.ab5 b z)with e|z
  .show f1 e
  show f2 z
 have nJ:tn 0 N:=T.keep 0 s.heap N st λb g o e=>keep2 b o (keep1 b o e)
 let Iv:Nat->a9->Prop:=λn s'=>∃i af Q vs rd,n=ds.length-i/\i<=ds.length/\Inv t [] af (upd Q B<|.lst vs) s'/\Q B=none/\tn i s'.heap/\(∀b∈U,Q b=none)/\EnvOk X.K H9 O0 Q O af (f9 own js ρ)/\Same H Q/\
  Reps X.K Q O vs rd/\(∃rest,u6 G ft fe (f9 own js ρ) (ds.drop i)=.ok rest/\rs=rd++rest)/\vs.length<=i
 have loop:gi (be X.prog X.w) X.A (.compLoop (.ListComp elt [{tg,iter,ifs,0}] scope pos) 0 (.ref it) (.ref B) (compEnvC scope (cU X scope C) C X.env)) (RR (.ref B) C) {s1 with heap:=N}:=by
  show KL Iv ?_ ds.length {0,_,H,[],[],by simp,aAT _,IB,hfr,nJ,λb g=>(vv b g).1,KT S.nd E,Same.refl H,.nil,{rs,by rw[List.drop_zero];show yt,rfl},aAT _};rintro n s2 ⟨i,ue,Q,vs,rd,rfl,hi,I2,yb,kn,fx2,E2,yc,r2,⟨rest,l,qe⟩,hvl⟩;have fr2:∀b∈U,(upd Q B<|.lst vs) b=none:=λb g=>by rw[k7 (aAl<|wc b g)];show fx2 b g
  have sU:=j5 yb (.lst vs);have hit:=hJ (upd Q B<|.lst vs) (λb=>O b\/b=B) (yc.trans sU) (λb o q n=>{sU b o (yc b o q),λz=>z.elim n λz=>by subst z;rw[hfr]at q;cases q}) (λa o q z=>z.elim (hO a o q) λz=>by subst z;rw[hkl]at q;cases q) E.trk
   (λa z=>(E2.ae3 (vs:=vs) yb hkl).trk a z) i
  by_cases ai:i<ds.length
  .let{go,yl}:=hit.1 ds[i] (aAd ai);rw[aCN ai,u6]at l;have oa:=T.item t eP eW eK eC i [] s2 ue _ (λ_ _=>False) I2 (fpB fr2) kn go;rw[eA]at oa;show D6 oa λr s3 z9=>?_;let{u,hr,h3}:=z9;subst hr;show D6 h3 λ_ s4 z9=>?_;let{x,H4,I4,ru,y4,st4,fr4}:=z9;let{sm4,rep4}:=yl x H4 y4;cases e1:G ds[i] (f9 own js ρ)with
   |ex z=>rw[e1]at l;cases l
   |bad=>rw[e1]at l;cases l
   |ok L=>
    rw[e1]at l;dsimp only at l;have I4':=I4.pinned (fpB fr4) (T.obj _ _ st4);have again:∀{s7:a9}{qc:St}{y:Hp}{vs7:List V}{rd7:List D}{rest7:List D},Inv t ([]++qO U s4.heap) qc y s7->y B=some (.lst vs7)->EnvOk X.K H9 O0 (S8 y B) O qc (f9 own js ρ)->Same H (S8 y B)->Reps X.K (S8 y B) O vs7 rd7->
      u6 G ft fe (f9 own js ρ) (ds.drop<|i+1)=.ok rest7->rs=rd7++rest7->vs7.length<=i+1->∃m,m<ds.length-i/\Iv m s7:=λ{s7 qc y vs7 rd7 rest7} I7 h7 E7 sm7 r7 hr7 hrs7 hv7=>by
     show{ds.length-(i+1),by lia,i+1,qc,S8 y B,vs7,rd7,rfl,ai,?_,EJ _ _,T.keep _ _ _ st4 λb g o e=>(I7.pin (b,o)<|aAE _<|aAE _<|bB g e).1,λb g=>?_,E7,sm7,r7,{rest7,hr7,hrs7},hv7}
     .rw[KS h7];show I7.ab3
     rw[M6 (aAl<|wc b g)];let{o,e,d}:=T.obj _ _ st4 b g;show(I7.pin (b,o)<|aAE _<|aAE _<|bB g e).2.1
    have hasg:=hG' _ s4 ue H4 x u (λY H5=>Same H4 H5/\EnvOk X.K H9 O0 H5 (λb=>O b\/b=B) Y L) I4' ru {H9,O0,_,_,ds[i],L,by rw[eK];show((E2.ae3 yb hkl).grow sm4),by rw[eK];show rep4,e1,λY H5 s5 E5=>{s5,by rw[eK]at E5;show E5}};rw[eP,eW,eA,eE,eX]at hasg;show D6 hasg λ_ s5 z9=>?_;let{Y,H5,I5,sm5,E5}:=z9;have zv:H5 B=some (.lst vs):=sm5 B _ (sm4 B _ j2);cases e2:ft L with
    |ex z=>rw[e2]at l;cases l
    |bad=>rw[e2]at l;cases l
    |ok b=>
     rw[e2,R.aa0]at l;have htst:=hT' _ s5 Y H5 (λc H6=>c=b/\Same H5 H6) I5 {H9,O0,_,L,by rw[eK];show E5,by rw[e2];showλH6 s6=>{rfl,s6}};rw[eP,eW,eA,eE,eX]at htst;show D6 htst λok s6 z9=>?_;let{H6,I6,g,sm6}:=z9;subst g;have sm46:=sm4.trans (sm5.trans sm6);have hacc6:H6 B=some (.lst vs):=sm6 B _ zv;have smx6:Same Q (S8 H6 B):=W7 yb sm46;have W1:yA L (f9 own js ρ):=hG _ _ e1;have Eb:∀{y:Hp},Same H5 y->EnvOk X.K H9 O0 (S8 y B) O Y (f9 own js ρ):=λ{y} s7=>by
      have E7:=(E5.grow s7).weak W1;have h7:y B=some (.lst vs):=s7 B _ zv;show{E7.len,E2.same.trans (W7 yb<|sm4.trans<|sm5.trans s7),E2.sub,λa z=>?_,E2.trk0,E2.tab.same (W7 yb<|sm4.trans<|sm5.trans s7),λj sl e=>?_,E7.inj}
      .let{o,q,mt}:=E2.trk a z;show{o,W7 yb (sm4.trans<|sm5.trans s7) a o q,mt}
      rcases aZ e with rfl|⟨_,⟨d,rfl⟩|⟨k,rfl⟩,_⟩
      .trivial
      .let{v,h1,h2}:=E7.val j d e;show{v,h1,Rep.hidden h7 h2}
      let{b,o,es,h1,g,h3,h4,h5,h6,h8}:=E7.slot j _ e;have nb:b≠B:=by grind
      show{b,o,es,h1,g.resolve_right nb,h3,by rw[M6 nb];show h4,h5,h6.mono (Rep.hidden h7),h8}
     cases ok with
     |false=>rw[jl aBB]at l⊢;show again I6 hacc6 (Eb sm6) (yc.trans smx6) (r2.same smx6) l qe (Nat.le_succ_of_le hvl)
     |true=>
      rw[jk rfl]at l⊢;cases e3:fe L with
      |ex z=>rw[e3]at l;cases l
      |bad=>rw[e3]at l;cases l
      |ok dv=>
       rw[e3,R.aa0]at l;cases e4:u6 G ft fe (f9 own js ρ) (ds.drop<|i+1)with
       |ex z=>rw[e4]at l;cases l
       |bad=>rw[e4]at l;cases l
       |ok rest'=>
        rw[e4,R.aa0]at l;have qf:dv::rest'=rest:=R.ok.inj l;have helt:=hE' _ s6 Y H6 (λv y=>Same H6 y/\Rep X.K y (λb=>O b\/b=B) v dv) I6 {H9,O0,_,L,by rw[eK];show E5.grow sm6,by rw[e3,RC];showλv y s7 r7=>{s7,by rw[eK]at r7;show r7}};rw[eP,eW,eA,eE,eX]at helt;show D6 helt λuv s7 z9=>?_;let{v,y,I7,ruv,sm7,r7}:=z9;have hacc7:y B=some (.lst vs):=sm7 B _ hacc6;have happ:=lJ (X:=t) _ s7 Y y (.ref B) [v] (.ref B) [uv] (λ_ H8=>H8=upd y B (.lst (vs++[v]))) I7 rfl (.cons ruv .nil) {B,vs,v,rfl,rfl,hacc7,by lia,rfl};rw[eP,eW,eA,eX]at happ;show D6 happ λ_ s8 z9=>?_;let{_,H8,I8,_,h8}:=z9;subst h8;have hh:S8 (upd y B<|.lst (vs++[v])) B=S8 y B:=by
         funext b
         unfold S8 upd
         nofun
        have smx7:Same Q (S8 y B):=W7 yb (sm46.trans sm7);show again (vs7:=vs++[v]) (rd7:=rd++[dv]) (rest7:=rest') I8 j2 (by rw[hh];show Eb (sm6.trans sm7)) (by rw[hh];show yc.trans smx7) ?_ e4 (by rw[qe,<-qf,List.append_assoc];rfl) (by rw[aAM];show Nat.succ_le_succ hvl);rw[hh];show(r2.same smx7).snoc (Rep.hidden hacc7 r7)
  have fo:i=ds.length:=by lia
  subst fo;have hstop:=hit.2 (by simp);have oa:=T.done t eP eW eK eC ds.length [] s2 ue _ (λ_ _=>False) I2 (fpB fr2) kn hstop;rw[eA]at oa;show D6 oa λr s3 z9=>?_;let{hr,I3}:=z9;subst hr;rw[List.drop_length,u6]at l;have qf:([]:List D)=rest:=R.ok.inj l;rw[<-qf,aBW]at qe;let{m,hm,_}:=id I3.loc;rw[eL]at hm;show fin B C s3 (upd Q B<|.lst vs) m hm (aCp accC) (by lia) (aAj _) (yc.trans sU) ?_ {Q,vs,yc,yb,rfl,by rw[qe];show r2} (by rw[<-eL];show I3.free) (λh' kg=>?_)
  .rw[qe];show .lst (eS.of j2) (E2.fresh yb) (r2.same sU)
  have hU:Un (zU X.stack) U (upd H B<|.lst []) (upd Q B<|.lst vs) s1.heap s3.heap:=by have:=I3.base;rw[eFs,eX0,eH0,eS0]at this;show this
  have hCn:∀b o,s1.heap.get? b=some o->b≠C:=λb o e=>by have:=aAf e;rw[hC]at this;show aAl this
  have hU':Un (zU X.stack) U (upd H B<|.lst []) (upd Q B<|.lst vs) s1.heap h':=⟨λb o e n g hx=>(kg.2 b (hCn b o e)).trans (hU.keep b o e n g hx),λb o e n g hx=>by
    let{sl,q}:=hU.slot b o e n g hx;show{sl,(kg.2 b (hCn b o e)).trans q},hU.free,λb o e hx=>by
    let{o',q}:=hU.there b o e hx;show{o',(kg.2 b (hCn b o e)).trans q},hU.tups,hU.frzs,hU.tbls⟩
  have hCf:upd Q B (.lst vs) C=none:=by rw[<-eL];show I3.free
  have yv:fQ X.prog X.w (upd Q B<|.lst vs) h':=λb u e=>by
   have g:b≠C:=by grind
   have:=I3.hok b u e;rw[eP,eW]at this;show this.ab7 (λc v hc q=>(kg.2 c ?_).trans q) (λ_ q=>q) λ_ _ _ q=>q;grind
  have hos:s3.os=s1.os:=by have:=I3.os;rw[eS0]at this;show this
  show I1.ag0 (s':={s3 with heap:=h'}) (ch:=U) hos hU' yv I3.bare λb g=>by let{f0,f1,f2,f3,f4,f5}:=vv b g;show{f3,f1,f4,f5}
 show codeAny_compStart_list loop (T.self _ 0 _ _ _ nJ loop)
def RN(own L:List Str)(g:List Nat)(hc:X.calm=true)(S:CompSc X a own L g)(hi:PIC X N iter U)(hX:∀(b:N7) (o:List bb) (l:Cx),(∃s9 Ha C,l=FR X b s9 Ha (own++L) a (cU X a C) C o)->JD l N G/\SR l p ft/\PD l t fe)(hG:∀ρ d k,G d (f9 own g ρ)=.ok k->yA k (f9 own g ρ))(hs:(∀x,eQ iter X.env x=pure x)<|>6):
  PD X (.ListComp t [{N,iter,p,0}] a pos) (λρ=>(U ρ).bind λds=>if ds.length<=sizeLine then(u6 G ft fe (f9 own g ρ) ds).bind λf=>.ok (.lst f)else .bad):=by
 show wF λb s σ H Q I H9 O0 O ρ E q=>?_;dsimp only at q;show wpAny_comprehension_free rfl hs (fP<|Inv.ab6 I S) S.kind S.names (D6 (hi b s σ H (λJ u=>∃ds f,Same H u/\ItC X.K J u O ds/\ds.length<=sizeLine/\u6 G ft fe (f9 own g ρ) ds=.ok f/\∀v h,Same H h->Rep X.K h O v (.lst f)->Q v h) I {H9,O0,O,ρ,E,pL I O E.trk,?_}) λv Y h1=>D6 h1 λitv s2 h2=>?_)
 .cases w:U ρ with
  |ex x=>rw[w]at q;show q
  |bad=>rw[w]at q;show q
  |ok ds=>
   rw[w,R.aa0]at q;intro J u Y y;split at q
   .rename_i z;cases n:u6 G ft fe (f9 own g ρ) ds with
    |ex x=>rw[n]at q;show(q H<|Same.refl _).elim
    |bad=>rw[n]at q;show q.elim
    |ok f=>rw[n]at q;show{ds,f,Y,y,z,n,q}
   show q.elim
 let{it,o,tn,J,H2,e,I2,T,kn,f2,ds,f,sm,y,z,yt,q}:=h2;subst e;show zM hc S (hX b o) (hG ρ) I2 T kn f2 (E.grow sm) y yt z ?_;intro B C s' h m hn _ _ _ A r _ _ hI;show{m,hn,λh' kg=>{.ref B,h,hI h' kg,rfl,q _ h (sm.trans A) r}}
def J5(own h:List Str)(b:List Nat)(n:X.calm=true)(S:CompSc X a own h b)(o:VR X m iter p)(q:∀(e:N7) (r:List bb) (g:Cx),(∃s t C,g=FR X e s t (own++h) a (cU X a C) C r)->JD g m G/\SR g k ft/\PD g l fe)(u:∀ρ d f,G d (f9 own b ρ)=.ok f->yA f (f9 own b ρ))(v:(∀x,eQ iter X.env x=pure x)<|>6):
 PD X (.ListComp l [{m,iter,k,0}] a w) (λρ=>(p ρ).bind λds=>if ds.length<=sizeLine then(u6 G ft fe (f9 own b ρ) ds).bind λy=>.ok (.lst y)else .bad):=RN own h b n S (pic o) q u v
end
def _root_.L2.ObjOk.live(x:ObjOk P w H h a o):h.get? a≠none:=by
 intro z;have b:∀{u:Obj},h.get? a=some u->False:=λq=>by rw[z]at q;cases q
 cases o with
 |lst Y=>let{_,_,_,_,e}:=x;show b e
 |tup Y=>let{_,_,_,o,e,_}:=x;show b e
 |dK U=>let{_,_,_,_,o,_,_,e,_}:=x;show b e
 |dT U=>let{_,_,_,_,o,_,_,e,_}:=x;show b e
 |set S n=>let{o,_,_,_,e,_}:=x;show b e
 |ins C d fs=>let{_,_,_,e,_}:=x;show b e
 |own y=>let{_,e}:=x;show b e
 |xd fs=>let{_,{_,_,_,e,_},_}:=x;show b e
 |rng lo g=>let{_,_,_,e}:=x;show b e
 |frz k u=>let{e,_}:=x;show b e
 |tbl l=>let{_,e,_}:=x;show b e
 |met f y=>show b (x)
 |ext m=>let{_,{_,e},_}:=x;show b e
section
end
section
variable{P:bo}{w:cq}{K:km}{mg:fD}{base:cy}
end
section
variable{X:Cx}{E:XK}{st:df}{rest:List df}{F:Ev->R Out}{G Ga Gb:Ev->Option av}{pos:Pos}
end
section
variable{K:km}{h:cy}{C:bb}{bmB:List av}{newId:String}
end
section
variable{X:Cx}{E:XK}{pos ao np:Pos}{x:Str}{C:bb}{bmB:List av}{B newId initId:String}
end
end
end DL
namespace TS
open PySem PyProof.Rows HT
def IW(f:Bool)(x y:av):keyLt' (tupK f) x y=(do
 let Y<-aDf x;let a<-aDf y
 for ((p,q),i)in(Y.toList.zip a.toList).zipIdx do
  if !(<-eqBool p q)then return<-oneLt' (f&&i==0) p q
 return decide (Y.size<a.size)):=rfl
def LM:av->Sem (Option av):=sortPriv%PySem.Builtin.firstOfTuple?
def OZ:Array av->Sem (Option av):=sortPriv%PySem.Builtin.oneTypeOnly
def IS(v:av):LM v=(do
 if(<-typeOf v) !=.type "tuple"then return none
 return (<-aDf v)[0]?):=rfl
def MX(vs:Array av):OZ vs=(do
 let a<-vs.mapM typeOf
 match a[0]? with
 |some t=>return if a.all (· ==t)then some t else none
 |none=>return none):=rfl
def EQ(a:Array av):keyKind' a=(do
 let firsts<-a.mapM LM
 if firsts.all (·.isSome)then
  rule "list.sort.keys-are-tuples"
  return tupK ((<-OZ (firsts.filterMap id)).any (· !=.type "tuple"))
 if(firsts[0]?.bind id).isSome then return general'
 return if(<-OZ a).isSome then oneType' else general'):=rfl
section
def LO{Q:BA}(f:Bool)(h:Q (decide (a<b)) s):bc (be prog w) A (oneLt' f (.int a t) (.int b u)) Q E s:=by
 cases f with
 |true=>show oneLt_int h
 |false=>rw[oneLt'_eq];show aAa (yZ A s a t b u prog w _ _<|aBD h)
def lt_ints(f:Bool){Q:BA}(hl:IsTup s.heap l items)(hb:IsTup s.heap b p)(U:IntsAre items.toList ns)(Y:IntsAre p.toList J)(h:Q (HT.lexLt ns J) s):bc (be prog w) A (keyLt' (tupK f) (.ref l) (.ref b)) Q E s:=by
 let{o,ho,hc,n,hd}:=hl;let{o2,kh,jo,n2,L}:=hb;have z1:items.size=ns.length:=by rw[<-U.length];simp
 have z2:p.size=J.length:=by rw[<-Y.length];simp
 rw[IW];show aAa (aEi ho hd<|aAa<|aEi kh L ?_);show aAa (aCo _ (λrest b m=>b.1=none/\m=s/\∃(k:Nat) (C H:List av) (q r:List Int),rest=(C.zip H).zipIdx k/\IntsAre C q/\IntsAre H r/\q.length+p.size=r.length+items.size/\Q (HT.lexLt q r) s)
  (λb m=>m=s/\(∀c,b.1=some c->Q c s)/\(b.1=none->Q (decide (items.size<p.size)) s)) ?turn ?fin _ _ {rfl,rfl,0,items.toList,p.toList,ns,J,rfl,U,Y,by lia,h}|>λz=>aCx z ?post λ_ _ e=>e)
 case post=>
  rintro⟨b1,b2⟩ m ⟨rfl,q1,q2⟩;cases b1 with
  |none=>show aAb (q2 rfl)
  |some c=>show aAb (q1 c rfl)
 case fin=>
  rintro⟨b1,b2⟩ m ⟨iu,rfl,k,C,H,q,r,hz,N,I,d,g⟩;show{rfl,λc e=>(by grind),λ_=>?_};cases N with
  |nil=>
   cases I with
   |nil=>rw[Z8]at g;erw[aCj]at d;rw[kc (by lia)];show g
   |cons c u hw=>rw[M5]at g;erw[aCj,aAt]at d;rw[kd (by lia)];show g
  |cons a t hv=>
   cases I with
   |nil=>rw[A6]at g;erw[aCj,aAt]at d;rw[kc (by lia)];show g
   |cons c u hw=>nofun
 case turn=>
  rintro⟨⟨y,x⟩,i⟩ rest b m ⟨iu,rfl,k,C,H,q,r,hz,N,I,d,g⟩;cases N with
  |nil=>nofun
  |cons a t v=>
   cases I with
   |nil=>nofun
   |cons c u B=>
    injection hz with O ah;injection O with O T;injection O with hy hx;subst hy hx T;rw[F1]at g;erw[aAt]at d;let{e,he,yn}:=yK A m a t c u;show aAa (he prog w _ _ ?_);cases e with
    |true=>rw[jk (yn.mp rfl)]at g;show aAb {rfl,rfl,_,_,_,_,_,ah,v,B,by lia,g}
    |false=>show aAa (LO _ (aAb {rfl,λc e=>(by grind),λe=>(by cases e)}))
end
section
theorem GR{a β:Type}{M:Model}{f:a->Sem β}(g:a->β):∀(Y:List a) {Q:List β->a9->Prop},(∀x∈Y,∀{Q:β->a9->Prop},Q (g x) s->bc M A (f x) Q E s)->Q (Y.map g) s->bc M A (Y.mapM f) Q E s:=by
 intro b Q h q;cases b with
 |nil=>rw[List.mapM_nil];show aAb q
 |cons x Y=>rw[List.mapM_cons];show aAa (h x (.head _)<|aAa<|GR g Y (λy d=>h y (.tail _ d))<|aAb q)
def EY{a β:Type}{M:Model}{f:a->Sem β}(g:a->β)(Y:List a){Q:Array β->a9->Prop}(h:∀x∈Y,∀{Q:β->a9->Prop},Q (g x) s->bc M A (f x) Q E s)(q:Q (Y.map g).toArray s):bc M A (Y.toArray.mapM f) Q E s:=by rw[List.mapM_toArray];show aAa (GR g Y h<|aAb q)
def kind_tuples{vs:List av}{f:Bool}{T:String}{Q:SortKind->a9->Prop}(b:av->av)(h:∀x∈vs,∃a items,x=.ref a/\IsTup s.heap a items/\items[0]?=some (b x)/\s.TypeIs (b x) T)(k:vs≠[])(C:f=(aCm T !=aCm "tuple"))
  (q:Q (tupK f) s):bc (be prog w) A (keyKind' vs.toArray) Q E s:=by
 rw[EQ];show aAa (EY (λx=>some (b x)) vs (λx d {Q} e=>?_) ?_)
 .let{a,items,rfl,{o,g,l,n,m},p,_}:=h x d;rw[IS];show aAa (aDL {o,g,l}<|aAa<|aEi g m ?_);rw[p];show aAb e
 have r:((vs.map λx=>some (b x)).toArray.all λx=>x.isSome)=true:=by simp
 have t:(vs.map λx=>some (b x)).toArray.filterMap id=(vs.map b).toArray:=by nofun
 erw[r,t];show aAa (aDu<|aAa ?_);rw[MX];show aAa (EY (λ_=>aCm T) (vs.map b) (λx d {Q} e=>?_) ?_)
 .let{y,u,rfl}:=aAo.mp d;let{_,_,_,_,_,z}:=h y u;show aDL z e
 cases vs with
 |nil=>show kb rfl k
 |cons v vs=>
  erw[aAz,aBx];have B:((aCm T::aCt ((λ_=>aCm T)∘b) vs).toArray.all λx=>x==aCm T)=true:=by simp
  erw[aCH,aCV,B,if_true];show aAb (aAb ?_)
  nofun
end
theorem lex_irrefl:∀a:List Int,HT.lexLt a a=false:=by
 intro b;cases b with
 |nil=>rfl
 |cons x Y=>rw[F1,jk rfl];show lex_irrefl Y
theorem lex_total:∀a b:List Int,HT.lexLt a b=false->HT.lexLt b a=false->a=b
 |[],[],_,_=>rfl
 |[],_::_,h,_=>by rw[M5]at h;cases h
 |_::_,[],_,h=>by rw[M5]at h;cases h
 |x::Y,y::g,d,f=>by
  rw[F1]at d f;by_cases e:x=y
  .subst e;rw[jk rfl]at d f;rw[lex_total Y g d f]
  lia
theorem lex_trans:∀a b c:List Int,HT.lexLt a b=true->HT.lexLt b c=true->HT.lexLt a c=true
 |[],[],_,h,_=>by rw[Z8]at h;cases h
 |[],_::_,[],_,h=>by rw[A6]at h;cases h
 |[],_::_,_::_,_,_=>rfl
 |_::_,[],_,h,_=>by rw[A6]at h;cases h
 |_::_,_::_,[],_,h=>by rw[A6]at h;cases h
 |x::Y,y::k,z::l,f,d=>by
  rw[F1]at f d⊢;by_cases e:x=y
  .subst e;rw[jk rfl]at f;by_cases g:x=z
   .subst g;rw[jk rfl]at d⊢;show lex_trans Y k l f d
   rw[jl g]at d⊢;show d
  rw[jl e]at f;have m:=of_decide_eq_true f;by_cases g:y=z
  .subst g;rw[jl e];show f
  rw[jl g]at d;have n:=of_decide_eq_true d;rw[jl (by omega)];show kd (by omega)
theorem nI:∀a b c:List Int,HT.lexLt a c=true->HT.lexLt a b=true\/HT.lexLt b c=true
 |[],[],_,h=>.inr h
 |[],_::_,_,_=>.inl rfl
 |_::_,_,[],h=>by rw[A6]at h;cases h
 |_::_,[],_::_,_=>.inr rfl
 |x::Y,y::d,z::f,h=>by
  rw[F1]at h;rw[F1,F1];by_cases e:x=y
  .subst e;rw[jk rfl];by_cases g:x=z
   .subst g;rw[jk rfl]at h⊢;show nI Y d f h
   nofun
  lia
open Classical in
def kV(vs:List av) (key:av->List Int):KeyKind where
 α:=List Int
 blt:=HT.lexLt
 irrefl:=lex_irrefl
 trans:=lex_trans
 negTrans:=nI
 total:=lex_total
 keyOf:=λv=>if v∈vs then some (key v)else none
 dflt:=[]
open Classical in
def YC(h:v∈vs):(kV vs key).keyOf v=some (key v):=jk h
open Classical in
def XX(e:(kV vs key).keyOf v=some l):v∈vs/\key v=l:=by
 have a:(if v∈vs then some (key v)else none)=some l:=e
 lia
def pJ(vs:List av):(pairsOf vs).toList=vs.map λv=>(v,v):=by
 unfold pairsOf;rw[List.zip_toArray];change vs.zip vs=_;induction vs with
 |nil=>rfl
 |cons v vs a=>nofun
section
def JP{a:bb}{vs:List av}{n:Nat}{f:Bool}{key:av->List Int}{P:Fin->a9->Prop}(H:s.heap.get? a=some (seqObj "list" vs.toArray n))
  (I:∀d,qw a s d->∀x∈vs,∀y∈vs,∀(prog:bo) (w:cq) (E:B4) {Q:BA},Q (HT.lexLt (key x) (key y)) d->bc (be prog w) A (keyLt' (tupK f) x y) Q E d)
  (J:2<=vs.length->∀d,qw a s d->∀{Q:SortKind->a9->Prop},Q (tupK f) d->bc (be prog w) A (keyKind' vs.toArray) Q E d) (g:vs.length<64)
  (h:∀m:List av,m.Perm vs->m.Pairwise (λx y=>HT.lexLt (key y) (key x)=false)->P (.done (.ret .none)) {s with heap:=sortedHeap s.heap a vs m.toArray}):
  bc (be prog w) A (Builtin.«list.sort» {[.ref a],[]}) P E s:=by
 show zI (κ:=kV vs key) (f:=f) H (λp e=>?_) (λd o prog w E x y k l Q L N q=>?_) (λO d o {Q} q=>J O d o q) g λb hperm T=>?_
 .rw[pJ]at e;let{v,r,rfl}:=aAo.mp e;show{key v,YC r}
 .let{U,t}:=XX L;let{Y,u}:=XX N;subst t u;show I d o x U y Y prog w E q
 have z:(arrOf b).toList.Perm (vs.map λv=>(v,v)):=by rw[<-pJ];show aEE.mp hperm
 have same:∀p∈(arrOf b).toList,p.1=p.2/\p.2∈vs:=λp e=>by let{v,r,rfl}:=aAo.mp (z.mem_iff.mp e);show{rfl,r}
 have ea:(arrOf b).map (·.2)=((arrOf b).toList.map (·.2)).toArray:=by apply Array.ext';simp
 rw[ea];show h _ ?_ ?_
 .have:=z.map (·.2);rw[aBx,show((λx:av×av=>x.2)∘λv=>(v,v))=id from rfl,List.map_id]at this;show this
 rw[aCa];intro i j hi hj ic;have fo:i<(arrOf b).size:=by exists hi
 have B:j<(arrOf b).size:=by exists hj
 have q:=T i j (aCd ic) (by rw[<-hperm.size_eq];show B);have kk:∀k (C:k<(arrOf b).size),KK (kV vs key) (arrOf b) k=key (arrOf b)[k].2:=λk C=>by unfold KK;rw[getElem?_pos _ k C];let{t,u}:=same (arrOf b)[k] (by simp);change((kV vs key).keyOf (arrOf b)[k].1).getD _=_;rw[t,YC u];rfl
 rw[kk i fo,kk j B]at q;rw[aEo,aEo,aFJ,aFJ];show q
def sorted_keys{x:av}{vs:List av}{f:Bool}{key:av->List Int}{Q:B4}{C:a9->Prop}(v:∀{r:List av->a9->Prop},(∀s',C s'->r vs s')->bc (be prog w) A.in1 (collect x) r E s)
  (z:∀s',C s'->∀a,(∀b o,s'.heap.get? b=some o->a.heap.get? b=some o)->∀x∈vs,∀y∈vs,∀(prog:bo) (w:cq) (t:cp) (E:B4) (O:t.units<=A.units+5) {Q:BA},Q (HT.lexLt (key x) (key y)) a->bc (be prog w) t (keyLt' (tupK f) x y) Q E a)
  (B:2<=vs.length->∀s',C s'->∀a,(∀b o,s'.heap.get? b=some o->a.heap.get? b=some o)->∀(A:cp) {Q:SortKind->a9->Prop},Q (tupK f) a->bc (be prog w) A (keyKind' vs.toArray) Q E a) (m:vs.length<64)
  (h:∀(s':a9) (g:List av) (h':cy) (l:bb),C s'->g.Perm vs->g.Pairwise (λx y=>HT.lexLt (key y) (key x)=false)->(∀b o,s'.heap.get? b=some o->h'.get? b=some o)->s'.heap.objs.size<=l->(∃n,h'.get? l=some (seqObj "list" g.toArray n))->Q (.ref l) {s' with heap:=h'}):
  bc (be prog w) A (call (.builtin "sorted") [x]) Q E s:=by
 show Calls.call_function_entry kind_sorted plain_sorted entry_sorted (args_sorted1 _) (aAa<|aAb<|aAa<|v λs' p=>(aAa<|wpAny_newList ?_));have d:(s'.heap.push<|seqObj "list" vs.toArray 0).get? s'.heap.objs.size=some (seqObj "list" vs.toArray 0):=aAp _ rfl;have u:∀a,qw s'.heap.objs.size {s' with heap:=s'.heap.push (seqObj "list" vs.toArray 0)} a->∀b o,s'.heap.get? b=some o->a.heap.get? b=some o:=λa k b o e=>k b o (aAl<|aAf e) (aAc _ e);show aAa (aAJ (aBc slot_list_sort {_,d,rfl} entry_list_sort (JP d (λa k x H y I prog w E {Q} q=>z s' p a (u a k) x H y I prog w _ E (by simp) q) (λJ a k {Q} q=>B J s' p a (u a k) _ q) m λg L N=>{_,rfl,(aAb {_,rfl,h s' g _ _ p L N (λb o e=>?_) (aAj _) (sortedHeap_at d)})})<|args_list_sort _));rw[sortedHeap_old (aAl<|aAf e) (by rw[aBw];show aBF (aAf e))];show aAc _ e
end
end TS
namespace DL
open PySem PySem.Spec L2
open PyProof.Rows hiding St
variable [Tabs]
omit [Tabs]in
def zA{ns:List Int}(h:PySem.W.WData.layableAll [PySem.W.WData.list (ns.map PySem.W.WData.int)]=true):∀x∈ns,aBe x<=1048576:=λx a=>by have b:=(PySem.W.layW_cons h).1;show PyData.bits_of_layable (by simpa[PyData.layableAll0]using(PySem.W.lay0_int<|PySem.W.layableW_item b (.int x)<|aAo.mpr ⟨x,a,rfl⟩))
def v5(P:bo)(w:cq)(K:km)(mg:fD)(base:cy)(k:Nat)(x:Str)(n:Nat)(m:List D->R D):Prop:=
 ∃g a b,FnOk P w K mg base xP k g a b (spD K n m)/\Binds K a b []/\PySem.W.keepIn K (.ref g)=true/\mg x=some (.ref g)
def LD(f:Ev->R (List D))(n:Nat):Prop:=∀b a,f b=.ok a->a.length=n
def aM:LD N8 0:=λa b h=>by cases h;rfl
def A0(h:LD g n):LD (p5 f g) (n+1):=λa m e=>by
 unfold p5 at e;cases k:f a with
 |ok d=>
  rw[k,R.aa0]at e;cases b:g a with
  |ok l=>rw[b]at e;cases e;rw[aAt,h a l b]
  |ex x=>nofun
  |bad=>nofun
 |ex x=>nofun
 |bad=>nofun
section
def vS(c:v5 X.prog X.w X.K X.mg X.base k x n m)(d:Room k X.A)(h:KJ X (e::es) f)(l:LD f n)(o:Gl X x<|>1)(q:(x==lb)=false<|>2)(r:a5 (e::es) X.env=(false,dC e X.env)::a5 es X.env<|>1)(s:(dq a (a5 es X.env)).any (·.1)=false<|>1):
  PD X (.Call (.Name x p) (e::es) [] a) (λρ=>(f ρ).bind m):=by
 let{g,u,v,F,b,t,em}:=c;show WC F d em t b h l o q r s
end
def oz{P:bo}{w:cq}{K:km}{mg:fD}{base:cy}{x qual:Str}{st:df}{f:bb}{b:eO}{N ps:List Str}{k:Nat}{m:List D->R D}{F:Ev->R Out}(g:Fun K x qual st f b)(S:FnScope N ps (b9 st))(e:Binds K b ps [])(h:mg x=some (.ref f))
  (l:∀(L:av) (A:cp) (a:List Env) (s:a9) (H:Hp) (E:XK),Room k (A.deeper (envOfC qual (b9 st) s.heap.objs.size f L))->bX (SE P w K mg base N qual (b9 st) f L A a s H E) (q9 st) F)
  (n:∀ds d,ds.length=ps.length->m ds=.ok d->J9 (F (j3 N ds))=.ok d):v5 P w K mg base (k+1) x ps.length m:=
 {f,b,ps,fnD g S l n,e,g.kp,h}
def n8:∀d a,(R.ok ((f9 [x] b ρ).set 0 (Sl.v d)):R Ev)=.ok a->yA a (f9 [x] b ρ):=λd a h=>by
 cases h;show{by simp,λi f h e=>?_};cases i with
 |zero=>show kb (by simpa[f9]using h.symm) e
 |succ i=>rw[aCP (by lia)];show h
def CS(sc:i3)(N:List Str)(a:i3)(d:List Str)(b:List Nat):Bool:=
 decide (a.kind=.function)&&a.names.all (λy=>decide (y.2=.free->(y.1,aCs)∉a.names))&&a.names.all (λy=>decide (y.2=.local->a.names.lookup y.1=some .local))&&
 a.names.all (λy=>decide (y.2=.free->sc.names.lookup y.1=some .cell\/sc.names.lookup y.1=some .free))&&decide (b.length=d.length)&&(b.zip d).all (λp=>decide (N[p.1]?=some p.2/\(p.2,NameKind.free)∈a.names))&&decide b.Nodup&&
 a.names.all (λy=>decide (y.2=.free->a.names.lookup y.1=some .free))
def D1(b:X.env.scope=sc<|>1)(d:X.N=N<|>1)(h:CS sc N a e f=true<|>3):CompSc X a own e f:=by erw[CS,aAH,aBt,decide_eq_true_eq]at h;obtain⟨⟨⟨⟨⟨⟨⟨g,k⟩,l⟩,m⟩,n⟩,o⟩,p⟩,q⟩:=h;subst b d;show{g,k,l,m,n,λi j x r s=>(o (j,x)<|aAi (i:=i) ?_),p,q};rw[aAW];show{r,s}
def UP(h:CS X.env.scope X.N a b d=true:=by first|kernel_rfl|with_unfolding_all rfl):CompSc X a own b d:=D1 rfl rfl h
end DL
namespace DL.Att2
open PySem PySem.W PySem.Calls PyProof.Rows
def attach_bits{l:OpenLaw}{n:Nat}{q:bo}{b:List Str}{v:(Str->Option av)->cy->Prop}{y:cq->cy->Prop}{d:DefRec}
  (E:l.most=some n) (p:d.params.defaults=[])
  (call:∀(w:cq) (s e:a9) (mg t:fD) (fa:bb) (o:Obj) (u cd g:av) (a:bb) (vs:List av) (ns:List Int),
   Ground q b [] v w s mg t e.heap->y w e.heap->
   e.heap.get? fa=some o->o.data=.func (docDef d.name d.params d.body d.scope u cd g)->e.heap.CodeRec cd d.name->mg d.name=some (.ref fa)->
   e.heap.get? a=some {cls:=.type "list",data:=.seq vs.toArray}->IntsAre vs ns->ns.length<=n->(∀x∈ns,aBe x<=1048576)->e.gens=#[]->
   gi (be l.prog w) callerA (.call (.ref fa) {[.ref a],[]}) (λr s'=>r=.ok (.ret (.bool true))/\OldK e.heap s'.heap/\s'.os=e.os/\AllBare s'.gens) e):
  WalkO q b v y l.row.toRowW d [] (λf vs=>PySem.call f vs):=by
 intro w s e mg t G Y fa o u cd g H kV I J L z N O A B as Q C T U hlo;obtain rfl:H=.none:=Dflts.none z p;obtain rfl:kV=.none:=Dflts.noKw z;let{a,vs,ns,rfl,rfl,k,h,m}:=Att.script_of E Q U;have hb:=DL.zA (ns:=ns) (by lia);show enter_call (aDM (call w s e mg t fa o u cd g a vs ns G Y I (fd_plain J) L N k h m hb O) λr s' hq=>?_);let{rfl,h2,h3,h4}:=hq;show{.inl {.bool true,.bool true,[],rfl,λ_=>rfl,.bool true,Att.post_true l _,λ_=>{aGc,λ_ hm=>(nomatch hm)}},h2,h3,h4}
end DL.Att2
namespace DL
open PySem PySem.Spec L2
open PyProof.Rows hiding St
variable [Tabs]
end DL
namespace DL
open PySem L2
abbrev bits(a:Int):Nat:=aBe a
def e9(h:m6 a b):R9 (.int a) (.int b)=.ok (.int (a*b)):=jk h
def V1(h:uT b):M4 (.int a) (.int b)=.ok (.int (a.fdiv b)):=jk h
def pT(h:b≠0):U1 (.int a) (.int b)=.ok (.int (a.fmod b)):=jk h
def zT(h:0<=b/\b<=1000000/\a.natAbs<2^64):DF (.int a) (.int b)=.ok (.int (a^b.toNat)):=jk h
def m6.of(d:bits a<=m)(e:bits b<=n)(f:m<=60000000<|>2)(g:n<=60000000<|>2):m6 a b:={aAk d f,aAk e g}
def bits_add(d:bits a<=n)(e:bits b<=n):bits (a+b)<=n+1:=by have:=PyProof.Rows.bits_add d e;rw[Nat.max_self]at this;show this
def bits_sub(d:bits a<=n)(e:bits b<=n):bits (a-b)<=n+1:=by have:=PyProof.Rows.bits_sub d e;rw[Nat.max_self]at this;show this
def bits_mul(d:bits a<=m)(e:bits b<=n):bits (a*b)<=m+n:=PyProof.Rows.bits_mul d e
def bits_neg(b:bits a<=m):bits (-a)<=m:=PyProof.Rows.bits_neg b
def GU(h:a.natAbs<2^n):bits a<=n:=PyProof.Rows.intBits_le h
def EX(h:bits a<=n):a.natAbs<2^n:=PyProof.Rows.lt_pow_of_bits h (aAj n)
@[simp]def cE(d:D)(ρ:Ev):G9 0 (Sl.v d::ρ)=.ok d:=rfl
@[simp]def jX(i:Nat)(x:Sl)(ρ:Ev):G9 (i+1) (x::ρ)=G9 i ρ:=rfl
@[simp]def HB(d:D)(ρ:Ev):cM 0 (Sl.v d::ρ)=.ok d:=rfl
@[simp]def EF(d:List D)(ρ:Ev):cM 0 (Sl.o d::ρ)=.ok (.lst d):=rfl
@[simp]def qL(i:Nat)(x:Sl)(ρ:Ev):cM (i+1) (x::ρ)=cM i ρ:=rfl
@[simp]def PP(d:D)(ρ:Ev):SH d ρ=.ok d:=rfl
@[simp]def y9(ρ:Ev)(F:Ev->R Out):B0 (.ok (.nx ρ)) F=F ρ:=rfl
@[simp]def yk(d:D)(F:Ev->R Out):B0 (.ok (.rt d)) F=.ok (.rt d):=rfl
@[simp]def a1h(d:D):J9 (.ok (.rt d))=.ok d:=rfl
@[simp]def a1i(ρ:Ev):J9 (.ok (.nx ρ))=.ok .non:=rfl
@[simp]def a1c(e:Str):J9 (.ex e)=.ex e:=rfl
@[simp]def pF(f:Ev->R D)(g:Ev->R (List D))(ρ:Ev):p5 f g ρ=(f ρ).bind λd=>(g ρ).bind λds=>.ok (d::ds):=rfl
@[simp]def wE(ρ:Ev):N8 ρ=.ok []:=rfl
@[simp]def a5g(a b:D):cI [a,b]=.ok (.tup [a,b]):=rfl
@[simp]def a5i(a b c:D):cI [a,b,c]=.ok (.tup [a,b,c]):=rfl
@[simp]def a5p(a b c d:D):cI [a,b,c,d]=.ok (.tup [a,b,c,d]):=rfl
@[simp]def a4n:wD []=.ok (.lst []):=rfl
@[simp]def a4t(a b c:D):wD [a,b,c]=.ok (.lst [a,b,c]):=rfl
@[simp]def a4v(x y z:D):Q1 (.tup [x,y,z]) (.int 0)=.ok x:=rfl
@[simp]def a4m(x y z:D):Q1 (.tup [x,y,z]) (.int 1)=.ok y:=rfl
@[simp]def a4l(x y z:D):Q1 (.tup [x,y,z]) (.int 2)=.ok z:=rfl
@[simp]def a4y(x y z t:D):Q1 (.tup [x,y,z,t]) (.int 0)=.ok x:=rfl
@[simp]def a4c(x y z t:D):Q1 (.tup [x,y,z,t]) (.int 1)=.ok y:=rfl
@[simp]def a4z(x y z t:D):Q1 (.tup [x,y,z,t]) (.int 2)=.ok z:=rfl
@[simp]def a5e(x y z t:D):Q1 (.tup [x,y,z,t]) (.int 3)=.ok t:=rfl
@[simp]def a4i(x y:D):Q1 (.tup [x,y]) (.int 0)=.ok x:=rfl
@[simp]def a5h(x y:D):Q1 (.tup [x,y]) (.int 1)=.ok y:=rfl
def L0(h:qT Y i=some d):Q1 (.lst Y) (.int i)=.ok d:=by erw[Q1,h]
def MO{Y:List D}{i:Int}{d:D}(h:qT Y i=some d):Q1 (.tup Y) (.int i)=.ok d:=by erw[Q1,h]
@[simp]def a1f(a b:Int):iS (.int a) (.int b)=.ok (.int (a+b)):=rfl
@[simp]def wY(a b:Int):JF (.int a) (.int b)=.ok (.int (a-b)):=rfl
@[simp]def a2f(a b:Int):ltR (.int a) (.int b)=.ok (.bl (decide (a<b))):=rfl
@[simp]def xG(a b:Int):tq (.int a) (.int b)=.ok (.bl (decide (a<=b))):=rfl
@[simp]def wH(a b:Int):lq (.int a) (.int b)=.ok (.bl (decide (b<a))):=rfl
@[simp]def a3k(a:Int):zw (.int a)=.ok (.int (-a)):=rfl
@[simp]def FC(b:Bool):xH (.bl b)=.ok b:=rfl
@[simp]def a5j(b:Int):toI (.int b)=.ok (some b):=rfl
@[simp]def oM(Y:List D):BQ [.lst Y]=.ok (.int Y.length):=rfl
@[simp]def MD(a:Int):yy [.int a]=.ok (.int (if a<0 then-a else a)):=rfl
@[simp]def vG(f g:Ev->R Bool)(ρ:Ev):ED f g ρ=(f ρ).bind λb=>if b=true then g ρ else .ok false:=rfl
@[simp]def a2z(f g:Ev->R Bool)(ρ:Ev):orB f g ρ=(f ρ).bind λb=>if b=true then .ok true else g ρ:=rfl
@[simp]def a3i(a b:Int):SL (.int a) (.int b)=.ok (.bl (a==b)):=by erw[SL];rfl
@[simp]def wU(a b:Int):IK (.int a) (.int b)=.ok (.bl (!(a==b))):=by erw[IK];rfl
@[simp]def jz(a b c d e f:Int):SL (.tup [.int a,.int b,.int c]) (.tup [.int d,.int e,.int f])=.ok (.bl (a==d&&(b==e&&c==f))):=by simp[SL,A5,w9,v6,X4]
@[simp]def kW(a b c d e f:Int):IK (.tup [.int a,.int b,.int c]) (.tup [.int d,.int e,.int f])=.ok (.bl (!(a==d&&(b==e&&c==f)))):=by simp[IK,A5,w9,v6,X4]
def X0{a:Type}{Y:List a}{k:Int}(h0:0<=k):qT Y k=Y[k.toNat]?:=by
 unfold qT FG;rw[jk h0];by_cases h:k<Y.length
 .rw[jk h];rfl
 nofun
def M2(n:Nat)(Y:List D):Prop:=∀x∈Y,∃i,x=.int i/\bits i<=n
def UZ{n:Nat}{ns:List Int}(h:∀x∈ns,bits x<=n):M2 n (ns.map D.int):=λx a=>by let{i,b,rfl}:=aAo.mp a;show{i,rfl,h i b}
def uG(g:Int->Int)(Y:List D)(k:Int):D:=match Y[k.toNat]? with
 |some d=>d
 |none=>.int (g k)
def KO(h:M2 n Y)(g:Int->Int)(k:Int):∃i,uG g Y k=.int i/\(bits i<=n\/i=g k):=by
 unfold uG;cases e:Y[k.toNat]? with
 |none=>show{_,rfl,.inr rfl}
 |some d=>let{i,rfl,a}:=h d (aAi e);show{i,rfl,.inl a}
def K3(b:-((2:Int)^n)<a)(d:a<(2:Int)^n):bits a<=n:=GU (by
 have e:((2^n:Nat):Int)=(2:Int)^n:=by simp
 omega)
def bits_fmod{a b:Int}{n:Nat}(h0:b≠0)(d:bits b<=n):bits (a.fmod b)<=n:=PyProof.Rows.bits_fmod_by h0 d
def bits_fdiv(d:bits a<=n):bits (a.fdiv b)<=n:=PyProof.Rows.bits_fdiv d
def n6(h:bits a<=m)(b:m<=n<|>2):bits a<=n:=aAk h b
@[simp]def a6o:bA [.int 3]=.ok [.int 0,.int 1,.int 2]:=rfl
@[simp]def qk(Y:List D):L8 (.lst Y)=.ok Y:=rfl
@[simp]def sT(Y:List D):GZ (.tup Y)=.ok Y:=rfl
@[simp]def fx(G:D->Ev->R Ev)(ft:Ev->R Bool)(fe:Ev->R D)(ρ:Ev):u6 G ft fe ρ []=.ok []:=rfl
@[simp]def lw(i:Nat)(ft:Ev->R Bool)(fe:Ev->R D)(ρ:Ev)(d:D)(ds:List D):u6 (λd ρ=>.ok (ρ.set i (Sl.v d))) ft fe ρ (d::ds)=(ft (ρ.set i (Sl.v d))).bind λb=>if b=true then(fe (ρ.set i (Sl.v d))).bind λr=>(u6 (λd ρ=>.ok (ρ.set i (Sl.v d))) ft fe ρ ds).bind λa=>.ok (r::a)else u6 (λd ρ=>.ok (ρ.set i (Sl.v d))) ft fe ρ ds:=rfl
@[simp]def a1a(d:D):seen (.v d)=.v d:=rfl
def YH(x:D)(r:List D):Q1 (.tup (x::r)) (.int 0)=.ok x:=MO (by rw[X0 (by symm)];rfl)
def YG(x y:D)(r:List D):Q1 (.tup (x::y::r)) (.int 1)=.ok y:=MO (by rw[X0 (by symm)];rfl)
def XB(x y z:D)(r:List D):Q1 (.tup (x::y::z::r)) (.int 2)=.ok z:=MO (by rw[X0 (by symm)];rfl)
theorem gZ(Iv:Nat->Ev->Prop)(b:∀n ρ,Iv (n+1) ρ->c ρ=.ok false\/(c ρ=.ok true/\∃ρ2,F ρ=.ok (.nx ρ2)/\Iv n ρ2))(a:∀ρ,¬Iv 0 ρ):∀n ρ,Iv n ρ->∃m ρ',S4 c F n ρ=.ok (.nx ρ')/\Iv m ρ'/\c ρ'=.ok false
 |0,ρ,h=>kb h (a ρ)
 |n+1,ρ,h=>by
  rcases b n ρ h with e|⟨e,ρ2,d,f⟩
  .show{n+1,ρ,by rw[S4,e];rfl,h,e}
  let{m,ρ',g,k,l}:=gZ Iv b a n ρ2 f;show{m,ρ',by rw[S4,e];erw[d];show g,k,l}
def KC{Iv:Nat->Ev->Prop}(b:∀n ρ,Iv (n+1) ρ->c ρ=.ok false\/(c ρ=.ok true/\∃ρ2,F ρ=.ok (.nx ρ2)/\Iv n ρ2))(h0:Iv n ρ)(f:∀n ρ',Iv n ρ'->c ρ'=.ok false->J9 (g ρ')=.ok d)(a:∀ρ,¬Iv 0 ρ:=by(intro ρ;rintro⟨x,y,_,z,_⟩;omega)):
  J9 (B0 (S4 c F n ρ) g)=.ok d:=by
 let{m,ρ',e,h,k}:=gZ Iv b a n ρ h0;rw[e];show f m ρ' h k
end DL
namespace DL
open PySem PySem.Spec L2
open PyProof.Rows hiding St
section
variable [Tabs]
section
variable{K:km}
def EnvOk.ae5(E:EnvOk K e f H O g ρ)(i:Nat)(h:H a=none)(d:K.lookup a=none)(r:Reps K H O vs Y):
  EnvOk K e f (upd H a (.lst vs)) (λb=>O b\/b=a) (g.set i (some (.ref a))) (ρ.set i (.o Y)):=
 E.ad9 i h d trivial λk=>{a,vs,rfl,.inr rfl,k,j2,r.ab9 h d}
def EnvOk.disown(E:EnvOk K f g H O h ρ)(e:ρ[i]?=some (.o Y)):∃d,EnvOk K f g H d h (ρ.set i (.v (.lst Y)))/\(∀b,d b->O b):=by let{a,n,k,p,q,l,m}:=E.own i Y e;show{λb=>O b/\b≠a,E.ad2 e trivial k (λz=>z) {.ref a,rfl,.lst (eS.of l) (λz=>z.2 rfl) (m.sub λ_ z=>z.1)},λb z=>z.1}
def EnvOk.write(E:EnvOk K l m H O f ρ)(e:ρ[i]?=some (.o Y))(n:f[i]?=some (some (V.ref a)))(r:Reps K H O b d):
  EnvOk K l m (upd H a (.lst b)) O f (ρ.set i (.o d))/\Kp H O (upd H a (.lst b)) O:=by
 let{g,s,t,h,p,k,u}:=E.own i Y e;have q:g=a:=by lia
 subst q;show E.ad8 e trivial n k trivial trivial λ_ _ _=>{g,b,rfl,h,p,j2,r.upd k trivial h}
end
section
def tF(X:Cx)(f:Ev->R (List D)):TE:=λk H Q=>∃l m O d,EnvOk X.K l m H O k d/\match f d with
 |.ok n=>∀g b a,Same H b->b a=none->Reps X.K b O g n->Q (.ref a) (upd b a<|.lst g)
 |.ex e=>∀h,Same H h->XW X e h
 |.bad=>False
def PF(X:Cx)(e:cv)(f:Ev->R (List D)):Prop:=PE X e (tF X f)
def OC(I:Inv X b f H s)(h:H a=some o):X.K.lookup a=none:=by
 cases e:X.K.lookup a with
 |none=>rfl
 |some d=>have:=(I.bs a d<|I.ok.mod.kin a d e).2;grind
def PF.pd(h:PF X e f):PD X e (λρ=>(f ρ).bind λds=>.ok (.lst ds)):=SG h λm H Q k l O ρ E q=>⟨k,l,O,ρ,E,by
 dsimp only at q;cases b:f ρ with
 |ok ds=>rw[b]at q;intro n o a g d r;show q _ _ (g.trans<|j5 d _) (.lst (eS.of j2) ((E.grow g).fresh d) (r.same<|j5 d _))
 |ex x=>rw[b]at q;show q
 |bad=>rw[b]at q;show q⟩
def pR(h:KJ X es f):PF X (.List es e) (λρ=>(f ρ).bind λds=>if ds.length<=sizeLine then .ok ds else .bad):=
 SG (QT h) λr H Q g k O ρ E q=>⟨g,k,O,ρ,E,by
  dsimp only at q;cases a:f ρ with
  |ok ds=>
   rw[a,R.aa0]at q;intro l m n d;by_cases b:ds.length<=sizeLine
   .rw[jk b]at q;show{by rw[d.length];show b,λp o=>q l m p n o d}
   rw[jl b]at q;show aAA q
  |ex x=>rw[a]at q;show q
  |bad=>rw[a]at q;show q⟩
def iE(i:Nat)(Q:PF X e f)(T:X.N.Nodup)(U:X.N[i]?=some x<|>1)(Y:Loc X.env.scope x<|>8)(hs:fg e (some (.Name x g)) t.line X.env=pure false<|>1)(hf:X.fn x=true\/X.env.scope.names.lookup x=some .local<|>7):
  mV X (.Assign [.Name x g] e t) (λρ=>(f ρ).bind λds=>.ok (.nx (ρ.set i (.o ds)))):=by
 rintro A B h s σ H D I ⟨O,ρ,E,fk,q⟩;dsimp only at q;show aFb (D6 (Q h s σ H (λv C=>∃k d a ds,v=.ref a/\C=upd d a (.lst k)/\Same H d/\d a=none/\Reps X.K d O k ds/\RS X A B H O (.ok (.nx (ρ.set i<|.o ds))) D) I {A,B,O,ρ,E,?_}) λv J z9=>?_) hs
 .cases l:f ρ with
  |ok ds=>rw[l,R.aa0]at q;showλk d a J m r=>{k,d,a,ds,rfl,rfl,J,m,r,q}
  |ex x=>rw[l]at q;showλH' s=>q H' (E.same.trans s)
  |bad=>rw[l]at q;show q
 let{y,C,u,r2,k,d,a,ds,l,e2,p,m,r,q'}:=z9;subst l e2;show Q9 u T U Y r2 (λs3 I3=>{_,_,I3,?_}) hf;have L:=(E.grow p).ae5 i m (OC u<|j2) r;show q' _ _ _ L (pL u _ L.trk) (λb o w n=>{by rw[k7 (t5 (p b o w) m)];show p b o w,λz=>z.elim n (t5 (p b o w) m)})
def TZ(i:Nat)(ρ:Ev):Ev:=match ρ[i]? with
 |some (.o Y)=>ρ.set i (.v (.lst Y))
 |_=>ρ
def HE(i:Nat){st:df}(h:mV X st F):mV X st (λρ=>F (TZ i ρ)):=by
 intro g k f s l H D I ⟨O,ρ,E,p,q⟩;dsimp only at q;unfold TZ at q;cases e:ρ[i]? with
 |none=>rw[e]at q;show h g k f s l H D I {O,ρ,E,p,q}
 |some r=>
  rw[e]at q;cases r with
  |x C=>show h g k f s l H D I {O,ρ,E,p,q}
  |c m A=>show h g k f s l H D I {O,ρ,E,p,q}
  |d U=>show h g k f s l H D I {O,ρ,E,p,q}
  |no=>show h g k f s l H D I {O,ρ,E,p,q}
  |v d=>show h g k f s l H D I {O,ρ,E,p,q}
  |o Y=>let{t,u,sub}:=E.disown e;show h g k f s l H D I {t,_,u,λa o w z=>p a o w (sub a z),RS.grow q λb o y n=>{y,λz=>n (sub b z)}}
def yQ(i:Nat)(ρ:Ev)(d:D):R Out:=match ρ[i]? with
 |some (.o Y)=>if Y.length<sizeLine then .ok (.nx (ρ.set i<|.o (Y++[d])))else .bad
 |_=>.bad
def bW(i:Nat)(A:PD X e f)(B:X.N[i]?=some x<|>1)(I:xO X.env.scope x<|>5)(J:(x==lb)=false<|>2)(L:(x==lh)=false<|>2)(Q:gc (.Name x p) "append" X.env (dC (.Name x p) X.env)=dC (.Name x p) X.env<|>1)(T:(((dq g (a5 [e] X.env)).all (λx=>!x.1)&&(backToKw g (keywordEach [] X.env)).all (λx=>x.1.isSome)
   &&decide ([e].length+([]:List Keyword).length+(if([]:List Keyword).isEmpty then 0 else 1)<30))=true)<|>1) (dc:(b.endLine==g.line)=true<|>1) (s:a5 [e] X.env=(false,dC e X.env)::a5 [] X.env<|>1) (jr:(dq g (a5 [] X.env)).any (·.1)=false<|>1) (uf:fg (.Call (.Attribute (.Name x p) "append" b) [e] [] g) none n.line X.env=pure false<|>1):
  mV X (.Expr (.Call (.Attribute (.Name x p) "append" b) [e] [] g) n) (λρ=>(f ρ).bind (yQ i ρ)):=λH9 O0=>
 BG (jI (XY PySem.F.plainAttrs_list PySem.F.slot_list_append PySem.F.type_list_append lJ (N5 B I J L) (i7 A o9 s) Q T dc s jr) uf) λD σ H O ρ E fk q=>by
 cases k:f ρ with
 |ok d=>
  rw[k,R.aa0]at q;unfold yQ at q;cases h:ρ[i]? with
  |none=>rw[h]at q;show(q).elim
  |some t=>
   rw[h]at q;cases t with
   |x C=>show(q).elim
   |c m φ=>show(q).elim
   |d U=>show aAA q
   |no=>show aAA q
   |v d=>show aAA q
   |o Y=>
    dsimp only at q;split at q
    .rename_i hz;let{a,u,w,h2,h3,y,z}:=E.own i Y h;show{_,w,.inl {rfl,u,aF.of y},H9,O0,O,ρ,E,?_};change JQ X H O ((f ρ).bind λd=>(R.ok []).bind λds=>.ok (d::ds)) _;rw[k];intro us H1 l r;cases r with
     |cons r rn=>cases rn;show{a,u,_,rfl,rfl,l _ _ y,by rw[z.length];show hz,?_};let{E2,k2}:=(E.grow l).write h w ((z.same l).snoc r);show q σ _ O E2 fk ((Kp.of l).trans k2)
    show(q).elim
 |ex x=>
  rw[k]at q;cases h:ρ[i]? with
  |none=>show(q H E.same).elim
  |some t=>show(q H E.same).elim
 |bad=>rw[k]at q;show(q).elim
def CH(i:Nat)(ρ:Ev):R (D×Ev):=match ρ[i]? with
 |some (.o Y)=>match Y[Y.length-1]? with
  |some d=>.ok (d,ρ.set i (.o Y.dropLast))
  |none=>.bad
 |_=>.bad
def VP(i:Nat)(s:X.N[i]?=some x<|>1)(t:xO X.env.scope x<|>5)(u:(x==lb)=false<|>2)(w:(x==lh)=false<|>2)(y:gc (.Name x p) "pop" X.env (dC (.Name x p) X.env)=dC (.Name x p) X.env<|>1)(A:(b.endLine==k.line)=true<|>1)(B:fg (.Call (.Attribute (.Name x p) "pop" b) [] [] k) none f.line X.env=pure false<|>1):
  mV X (.Expr (.Call (.Attribute (.Name x p) "pop" b) [] [] k) f) (λρ=>(CH i ρ).bind λz=>.ok (.nx z.2)):=λH9 O0=>
 BG (jI (BZ PySem.F.plainAttrs_list PySem.F.slot_list_pop PySem.F.type_list_pop MV (N5 s t u w) y A) B) λD I H O ρ E J q=>by
 unfold CH at q;cases e:ρ[i]? with
 |none=>rw[e]at q;show(q).elim
 |some L=>
  rw[e]at q;cases L with
  |x C=>show aAA q
  |c m φ=>show aAA q
  |d U=>show aAA q
  |no=>show aAA q
  |v d=>show aAA q
  |o Y=>
   dsimp only at q;cases g:Y[Y.length-1]? with
   |none=>rw[g]at q;show aAA q
   |some d=>rw[g]at q;let{a,l,n,h2,h3,r,h}:=E.own i Y e;let{v,Q,g2}:=h.get g;show{_,n,.inl {rfl,l,aF.of r},a,l,v,rfl,rfl,r,by rw[h.length];show Q,?_};let{T,k2}:=E.write e n h.dropLast;show q I _ O T J k2
def DB(j i:Nat)(f:X.N.Nodup)(ic:i≠j<|>2)(A:X.N[i]?=some x<|>1)(B:X.N[j]?=some y<|>1)(I:xO X.env.scope x<|>5)(J:(x==lb)=false<|>2)(L:(x==lh)=false<|>2)(Q:gc (.Name x p) "pop" X.env (dC (.Name x p) X.env)=dC (.Name x p) X.env<|>1)(T:(b.endLine==n.line)=true<|>1)(g:Loc X.env.scope y<|>8)(uf:fg (.Call (.Attribute (.Name x p) "pop" b) [] [] n) (some (.Name y py)) h.line X.env=pure false<|>1)(hf:X.fn y=true\/X.env.scope.names.lookup y=some .local<|>7):
  mV X (.Assign [.Name y py] (.Call (.Attribute (.Name x p) "pop" b) [] [] n) h) (λρ=>(CH i ρ).bind λz=>.ok (.nx (z.2.set j (.v z.1)))):=λH9 O0=>
 BG (RV f B g (BZ PySem.F.plainAttrs_list PySem.F.slot_list_pop PySem.F.type_list_pop MV (N5 A I J L) Q T) uf hf) λD σ H O ρ E r q=>by
 unfold CH at q;cases e:ρ[i]? with
 |none=>rw[e]at q;show(q).elim
 |some sl=>
  rw[e]at q;cases sl with
  |x C=>show(q).elim
  |c m φ=>show(q).elim
  |d U=>show(q).elim
  |no=>show(q).elim
  |v d=>show(q).elim
  |o Y=>
   dsimp only at q;cases k:Y[Y.length-1]? with
   |none=>rw[k]at q;show(q).elim
   |some d=>rw[k]at q;let{a,s,t,h2,h3,u,l}:=E.own i Y e;let{v,g1,g2}:=l.get k;show{_,t,.inl {rfl,s,aF.of u},a,s,v,rfl,rfl,u,by rw[l.length];show g1,?_};let{E2,w}:=E.write e t l.dropLast;show q _ _ O (E2.set j<|w.rep E.trk r g2) r w
def ZU(i:Nat)(ρ:Ev)(k d:D):R Out:=match ρ[i]?,k with
 |some (.o Y),.int k=>match FG Y.length k with
  |some j=>.ok (.nx (ρ.set i<|.o (Y.set j d)))
  |none=>.bad
 |_,_=>.bad
def IC(i:Nat)(Q:PD X e f)(T:PD X k g)(hN:X.N[i]?=some x<|>1)(hv:xO X.env.scope x<|>5)(hd:(x==lb)=false<|>2)(fm:(x==lh)=false<|>2)(ha:(∀v,ja (.Subscript (.Name x p) k ps) X.env v=(do
   let h<-gn [v] (dC (.Name x p) X.env)
   let t<-gn [v,h] (dC k X.env)
   standAt ps
   gn [v,h,t] (setItem h t v)
   release [v,h,t] []))<|>6) (hs:gs [.Subscript (.Name x p) k ps] e u.line X.env=pure false<|>1) (hw:gW [.Subscript (.Name x p) k ps] e X.env=pure none<|>1) (l:(d9 [.Subscript (.Name x p) k ps] X.env).map (·.2)=[ja (.Subscript (.Name x p) k ps) X.env]<|>1):
  mV X (.Assign [.Subscript (.Name x p) k ps] e u) (λρ=>(f ρ).bind λd=>(g ρ).bind λw=>ZU i ρ w d):=λB I=>
 BG (EK Q (QY (N5 hN hv hd fm) T RA ha) hs hw l) λD σ H O ρ E fk q=>⟨B,I,O,ρ,E,by
  cases y:f ρ with
  |ok d=>
   rw[y,R.aa0]at q;intro v H1 J r1;have z:=E.grow J;cases n:g ρ with
   |ok w=>
    rw[n,R.aa0]at q;unfold ZU at q;cases r:ρ[i]? with
    |none=>rw[r]at q;show aAA q
    |some sl=>
     rw[r]at q;cases sl with
     |x C=>show aAA q
     |c m φ=>show aAA q
     |d U=>show aAA q
     |no=>show aAA q
     |v d=>show aAA q
     |o Y=>
      let{a,vs,l,h2,h3,h4,L}:=z.own i Y r;show{_,l,B,I,O,ρ,z,?_};rw[n];intro kv H2 b r2;have E2:=z.grow b;cases w with
      |int kk=>
       dsimp only at q;cases A:FG Y.length kk with
       |none=>rw[A]at q;show aAA q
       |some j=>rw[A]at q;cases r2;show{a,vs,kk,j,rfl,rfl,b _ _ h4,by rw[L.length];show A,?_};let{E3,k3}:=E2.write r l ((L.same b).set (r1.same b) j);show q σ _ O E3 fk (((Kp.of J).trans (Kp.of b)).trans k3)
      |_=>show aAA q
   |ex x=>rw[n]at q;show(q H E.same).elim
   |bad=>rw[n]at q;show aAA q
  |ex x=>rw[y]at q;showλH' s=>q H' (E.same.trans s)
  |bad=>rw[y]at q;show q⟩
def sW(i:Nat)(own fr:List Str)(t:List Nat)(hN:X.N.Nodup)(hc:X.calm=true)(S:CompSc X f own fr t)(hi:VR X tg iter fi)(hX:∀(g:N7) (fp:List bb) (X':Cx),(∃s9 Ha C,X'=FR X g s9 Ha (own++fr) f (cU X f C) C fp)->JD X' tg G/\SR X' u ft/\PD X' w fe)(hG:∀ρ d A,G d (f9 own t ρ)=.ok A->yA A (f9 own t ρ))(hy:X.N[i]?=some y<|>1)(L:X.env.scope.names.lookup y=some .local<|>1)(uf:fg (.ListComp w [{tg,iter,u,0}] f pos) (some (.Name y py)) Q.line X.env=pure true<|>1)(hs:(∀x,eQ iter X.env x=pure x)<|>6):
  mV X (.Assign [.Name y py] (.ListComp w [{tg,iter,u,0}] f pos) Q) (λρ=>((fi ρ).bind λds=>if ds.length<=sizeLine then(u6 G ft fe (f9 own t ρ) ds).bind λh=>R.ok h else .bad).bind λh=>.ok (.nx (ρ.set i (.o h)))):=by
 rintro H9 O0 g s σ H D I ⟨O,ρ,E,fk,q⟩;dsimp only at q;rw[exec_Assign_Name_used _ _ _ _ uf];show aAa (aEt<|aAa ?_);show aAa (aCx (wpAny_comprehension_free (use:=some (ja (.Name y py) X.env)) rfl hs (fP<|Inv.ab6 I S) S.kind S.names<|D6 (hi g s σ H (λJ U=>∃ds h,Same H U/\ItD X.K J U O ds/\ds.length<=sizeLine/\u6 G ft fe (f9 own t ρ) ds=.ok h/\RS X H9 O0 H O (.ok (.nx (ρ.set i<|.o h))) D) I ⟨H9,O0,O,ρ,E,pL I O E.trk,?_⟩) λv s1 h1=>D6 h1 λitv s2 h2=>?_) (λ_ s' hq=>aAb (aAb hq)) λ_ _ e=>e)
 .cases e1:fi ρ with
  |ex x=>rw[e1]at q;showλH' s=>q H' (E.same.trans s)
  |bad=>rw[e1]at q;show q
  |ok ds=>
   rw[e1,R.aa0]at q;intro J U s1 hJ;split at q
   .rename_i hl;cases e2:u6 G ft fe (f9 own t ρ) ds with
    |ex x=>rw[e2]at q;show(q H E.same).elim
    |bad=>rw[e2]at q;show q.elim
    |ok h=>rw[e2]at q;show{ds,h,s1,hJ,hl,e2,q}
   show q.elim
 let{it,fp,tn,J,H2,e,Y,T,kn,f2,ds,h,sm,hJ,hl,yt,q}:=h2;subst e;show zM hc S (hX g fp) (hG ρ) Y T kn f2 (E.grow sm) hJ.c yt hl ?_;intro B C s' H' m hn hCa k has sm' r nw hC hI;have I3:=hI s'.heap (aGf ..);show wpAny_assign_Name (tV (v:=.ref B) I3 hN hy (.inl L) rfl (λs4 I4 z9=>?_)<|.inr L);let{a,hsb,ha}:=z9;have jf:∀x c,X.env.cells.lookup x=some c->c≠C:=λx c hc=>by let{v,hv}:=Y.cell x c hc;show aAl (aAm hv.lt k)
 have hCL:=aCG (aAm Y.lt k);have hCa2:C≠a:=by grind
 show{m,hn.sameBut hsb hCa2,λh' kg=>?_};let{U,vs,za,l,eH,rr}:=nw;subst eH;have E2:=((E.grow sm).grow za).ae5 i l (OC I3<|j2 (H:=U)) rr;show{_,_,(I4.turned (t':=s4.toks) (λb o hb e=>(kg.2 b hb).trans e) hC hCL (.inr (aAk Y.sz k)) jf λp hp=>aAl (aAm (aAf (Y.pin p hp).1) k)),q _ _ _ E2 (pL I3 _ E2.trk) λb o hb n=>{by rw[k7 (t5 ((sm.trans za) b o hb) l)];show(sm.trans za) b o hb,λz=>z.elim n (t5 ((sm.trans za) b o hb) l)}}
def eF(i:Nat)(own u:List Str)(g:List Nat)(hN:X.N.Nodup)(hc:X.calm=true)(S:CompSc X f own u g)(w:VR X A iter U)(hX:∀(h:N7) (fp:List bb) (s:Cx),(∃s9 Ha C,s=FR X h s9 Ha (own++u) f (cU X f C) C fp)->JD s A G/\SR s l ft/\PD s m fe)(hG:∀ρ d p,G d (f9 own g ρ)=.ok p->yA p (f9 own g ρ))(hy:X.N[i]?=some y<|>1)(B:X.env.scope.names.lookup y=some .local<|>1)(uf:fg (.ListComp m [{A,iter,l,0}] f I) (some (.Name y py)) r.line X.env=pure true<|>1)(hs:(∀x,eQ iter X.env x=pure x)<|>6):
  mV X (.Assign [.Name y py] (.ListComp m [{A,iter,l,0}] f I) r) (λρ=>((U ρ).bind λds=>if ds.length<=sizeLine then(u6 G ft fe (f9 own g ρ) ds).bind λt=>.ok (D.lst t)else .bad).bind λd=>.ok (.nx (ρ.set i (.v d)))):=λH9 O0=>BG (sW i own u g hN hc S w hX hG hy B uf hs H9 O0) λD σ H O ρ E fk q=>⟨O,ρ,E,fk,by
 dsimp only at q⊢;cases J:U ρ with
 |ex x=>rw[J]at q;show q
 |bad=>rw[J]at q;show q
 |ok ds=>
  rw[J,R.aa0]at q;rw[R.aa0];by_cases hl:ds.length<=sizeLine
  .rw[jk hl]at q⊢;cases L:u6 G ft fe (f9 own g ρ) ds with
   |ex x=>rw[L]at q;show q
   |bad=>rw[L]at q;show q
   |ok t=>
    rw[L]at q;intro af H' O' Q f' T;by_cases w:i<ρ.length
    .let{O2,E2,sub}:=Q.disown (Y:=t) (by rw[aBf w]);rw[List.set_set]at E2;show q af H' O2 E2 (λa o k z=>f' a o k (sub a z)) λb o hb n=>{(T b o hb n).1,λz=>(T b o hb n).2 (sub b z)}
    have e:∀x,ρ.set i x=ρ:=λx=>List.set_eq_of_length_le (by lia);have q:RS X H9 O0 H O (.ok (.nx (ρ.set i<|.v (.lst t)))) D:=q;rw[e]at Q q;show q af H' O' Q f' T
  rw[jl hl]at q;show(q).elim⟩
def kS{st:df}:mV X st (λ_=>.bad):=λa b=>BG NW λD d H O e E f q=>q
end
end
section
theorem bQ{d β:Type}[BEq d][LawfulBEq d]:∀{l:List (d×β)}{a:d}{b:β},(l.map (·.1)).Nodup->(a,b)∈l->l.lookup a=some b
 |(x,y)::l,a,b,h,g=>by
  rw[aAz,aAP]at h;rw[aAZ];rcases aAg.mp g with e|f
  .cases e;simp
  have:(a==x)=false:=by rw[beq_eq_false_iff_ne];rintro rfl;show h.1 (aAo.mpr {(a,b),f,rfl})
  rw[this];show bQ h.2 f
theorem mem_lookup{d β:Type}[BEq d][LawfulBEq d]:∀{l:List (d×β)}{a:d}{b:β},l.lookup a=some b->(a,b)∈l
 |(x,y)::l,a,b,h=>by
  rw[aAZ]at h;split at h
  .rename_i q;grind
  show .tail _ (mem_lookup h)
def wN(o:Obj):Prop:=∃v,o.data=.cell v
def fJ(H:Hp)(a:N7):Hp:=λb=>match a.lookup b with
 |some o=>some (.frz o (.own b))
 |none=>H b
def S9(H:Hp)(a:N7):Hp:=λb=>match a.lookup b with
 |some _=>none
 |none=>H b
section
variable{K:km}
def eV(e:a.lookup b=some o):fJ H a b=some (.frz o (.own b)):=by unfold fJ;rw[e]
def Q6(e:a.lookup b=none):fJ H a b=H b:=by unfold fJ;rw[e]
def bN(e:a.lookup b=some o):S9 H a b=none:=by unfold S9;rw[e]
def M3(e:a.lookup b=none):S9 H a b=H b:=by unfold S9;rw[e]
def C8(d:∀b o,a.lookup b=some o->H b=none)(e:H b=some u):fJ H a b=some u:=by
 cases q:a.lookup b with
 |none=>rw[Q6 q];show e
 |some o=>nofun
def fB(a:∀b o,d.lookup b=some o->H b=none):Same H (fJ H d):=λb u e=>C8 a e
def v7(d:∀b o,a.lookup b=some o->H b=some (.frz o (.own b)))(e:H b=some u)(ne:∀o,a.lookup b=some o->u≠.frz o (.own b)):S9 H a b=some u:=by
 cases q:a.lookup b with
 |none=>rw[M3 q];show e
 |some o=>nofun
def MJ(x:fQ P w H h)(a:∀b o,d.lookup b=some o->h.get? b=some o/\H b=none):fQ P w (fJ H d) h:=λb u e=>by
 have f:=λb o q=>(a b o q).2;cases q:d.lookup b with
 |some o=>rw[eV q]at e;cases e;show{(a b o q).1,{o,(a b o q).1}}
 |none=>rw[Q6 q]at e;show(x b u e).ab7 (λ_ _ _ z=>z) (λc z=>C8 f z) λc u _ z=>C8 f z
def MB(x:fQ P w H h)(d:∀b o,g.lookup b=some o->H b=some (.frz o (.own b))/\wN o):fQ P w (S9 H g) h:=λb u e=>by
 have k:=λb o q=>(d b o q).1;cases q:g.lookup b with
 |some o=>rw[bN q]at e;cases e
 |none=>
  rw[M3 q]at e;show(x b u e).ab7 (λ_ _ _ z=>z) (λc z=>v7 k z λo _ a=>by cases a) λc u f z=>v7 k z λo q a=>?_;subst a;let{l,m}:=f;let{v,n}:=(d c o q).2
  lia
def ZG(U:Un fs [] (fJ H a) l h h')(k:fQ P w l h')(m:∀b o,a.lookup b=some o->h.get? b=some o/\H b=none/\wN o):Un fs [] H (S9 l a) h h'/\fQ P w (S9 l a) h'/\∀b o,a.lookup b=some o->l b=some (.frz o (.own b)):=by
 have p:=λb o q=>(m b o q).2.1;have d:=λb o q=>U.frzs b o _ (eV q);show{{λb o e n r f=>?_,λb o e n r f=>?_,λb o e n f=>?_,λb o e f=>U.there b o e f,λb Y e=>?_,λb o u e=>?_,λb s e=>?_},MB k λb o q=>{d b o q,(m b o q).2.2},d}
 .cases q:a.lookup b with
  |none=>show U.keep b o e (by rw[Q6 q];show n) r f
  |some g=>have:=(m b g q).1;rw[e]at this;cases this;show(k b _<|d b o q).1
 .cases q:a.lookup b with
  |none=>show U.slot b o e (by rw[Q6 q];show n) r f
  |some g=>have:=(m b g q).1;rw[e]at this;cases this;show{o.slots,(k b _<|d b o q).1}
 .cases q:a.lookup b with
  |none=>rw[M3 q];show U.free b o e ((Q6 q)▸n) f
  |some g=>show bN q
 .show v7 d (U.tups b Y<|C8 p e) λo _ z=>by cases z
 .show v7 d (U.frzs b o u<|C8 p e) λg q z=>?_
  nofun
 show v7 d (U.tbls b s<|C8 p e) λo _ z=>by cases z
def jj(U:Un fs [] (S9 H d) g h h')(k:fQ P w g h')(m:∀b o,d.lookup b=some o->h.get? b=some o/\H b=some (.frz o (.own b))/\b∉fs):Un fs [] H (fJ g d) h h'/\fQ P w (fJ g d) h'/\Same g (fJ g d):=by
 have p:=λb o q=>(m b o q).2.1;have l:=λb o q=>U.free b o (m b o q).1 (bN q) (by simp);have a:∀b,H b=none->d.lookup b=none:=λb n=>by
  cases q:d.lookup b with
  |none=>rfl
  |some o=>nofun
 show⟨{λb o e n r f=>U.keep b o e (by rw[M3 (a b n)];show n) r f,λb o e n r f=>U.slot b o e (by rw[M3 (a b n)];show n) r f,λb o e n f=>?_,λb o e f=>U.there b o e f,λb Y e=>?_,λb o u e=>?_,λb s e=>?_},
  MJ k λb o q=>{(λb o q=>U.keep b o (m b o q).1 (bN q) (m b o q).2.2 (by simp)) b o q,l b o q},fB l⟩
 .rw[Q6 (a b n)];show U.free b o e ((M3<|a b n)▸n) f
 .show C8 l (U.tups b Y (v7 p e λo _ z=>by cases z))
 .cases q:d.lookup b with
  |none=>show C8 l (U.frzs b o u<|(M3 q)▸e)
  |some t=>rw[p b t q]at e;cases e;show eV q
 show C8 l (U.tbls b s (v7 p e λo _ z=>by cases z))
def GE(d:∀b o,e.lookup b=some o->H b=some (.frz o (.own b)))(q:R4 K H a Y):R4 K (S9 H e) a Y:=by
 rcases q with(q|⟨o,q⟩)|q
 .show .inl (.inl (v7 d q λo _ z=>by cases z))
 .show .inl (.inr {o,v7 d q λo _ z=>by cases z})
 show .inr q
def GY(d:∀b o,e.lookup b=some o->H b=some (.frz o (.own b)))(q:eS K H a Y):eS K (S9 H e) a Y:=by
 rcases q with h|⟨q,f⟩
 .show .inl (v7 d h λ_ _ z=>by cases z)
 show .inr {?_,f};rcases q with(q|⟨o,q⟩)|q
 .show .inl (.inl (v7 d q λo _ z=>by cases z))
 .show .inl (.inr {o,v7 d q λo _ z=>by cases z})
 show .inr q
def GK{a:N7}{d:cy->Prop}(f:∀b o,a.lookup b=some o->H b=some (.frz o (.own b)))(q:H b=some (.ext d)):S9 H a b=some (.ext d):=by
 unfold S9;cases e:a.lookup b with
 |none=>exists q
 |some o=>nofun
def Rep.hid(a:∀b o,e.lookup b=some o->H b=some (.frz o (.own b)))(r:Rep K H O v d):Rep K (S9 H e) O v d:=r.mono (λ_ _ q=>GE a q) (λ_ _ n q=>{n,GY a q}) λb f n q=>{n,GK a q}
def Reps.hid(a:∀b o,e.lookup b=some o->H b=some (.frz o (.own b)))(r:Reps K H O v d):Reps K (S9 H e) O v d:=r.mono (λ_ _ q=>GE a q) (λ_ _ n q=>{n,GY a q}) λb f n q=>{n,GK a q}
end
variable [Tabs]
section
variable(P:bo) (w:cq) (K:km) (mg:fD) (base:cy) (k:Nat)
def LI(n:Nat)(m:List D->R D)(H:Hp)(O:bb->Prop)(a:bb):Prop:=
 (∃l p q r,H a=some (.frz {l,p,.func q,r} (.own a)))/\
 ∀(A:cp) (b:List Env) (s:a9) (g:List av) (h:List V) (e:List D) (d:D) (Q:VK) (E:XK),Room k A->Env0 P w K mg base A b s H->m9 h g->Reps K H O h e->e.length=n->(∀a,O a->∃o,H a=some o/\Mt o)->Tb H->J7 K O->m e=.ok d->
  (∀v f,Same H f->Rep K f O v d->Q v f)->gi (be P w) A (.call (.ref a) {g,[]}) (CR xP b P w H s Q E) s
end
open Classical in
def callC(Φ:(List D->R D)->Hp->(bb->Prop)->bb->Prop) (i:Nat) (f:Ev->R (List D)):Ev->R D:=λa=>match a[i]? with
 |some (.c m b)=>if b=Φ m then(f a).bind m else .bad
 |_=>.bad
section
def LZ(i:Nat)(ha:KJ X (e::es) f)(hl:LD f n)(hr:Room k X.A)(hN:X.N[i]?=some x<|>1)(hv:xO X.env.scope x<|>5)(hd:(x==lb)=false<|>2)(fm:(x==lh)=false<|>2)(he:a5 (e::es) X.env=(false,dC e X.env)::a5 es X.env<|>1)(bh:(dq h (a5 es X.env)).any (·.1)=false<|>1):
  PD X (.Call (.Name x p) (e::es) [] h) (callC (LI X.prog X.w X.K X.mg X.base k n) i f):=by
 show wF λb s Y H Q I H9 O0 O B E q=>?_;unfold callC at q;cases C:B[i]? with
 |none=>rw[C]at q;show q.elim
 |some o=>
  rw[C]at q;cases o with
  |c m φ=>
   dsimp only at q;split at q
   .rename_i J;subst J;let{a,h1,h2}:=E.slot i _ C;let{{oc,od,fd,o,hf},_}:=h2 H O (Kp.refl _ _);show aAK (D6 (N5 hN hv hd fm b s Y H (λv H'=>v=.ref a/\H'=H) I {_,h1,rfl,rfl}) λu s1 z9=>?_);let{v,H1,I1,r1,ev,eH}:=z9;subst ev eH;obtain rfl:u=aDr a:=r1;show PySem.W.callWith_F {oc,od,fd,o,(I1.hok a _ hf).1} (D6 (ha h b s1 Y H1 _ I1 {H9,O0,O,B,E,JQ.seq q}) λus s2 ⟨vs,H2,t,rv,L,e2,T,rr,g⟩=>{{oc,od,fd,o,(t.hok a _<|T _ _ hf).1},?_}) he bh;cases y:m L with
    |ex z=>rw[y]at g;show(g H2<|Same.refl _).elim
    |bad=>rw[y]at g;show g.elim
    |ok d=>
     rw[y]at g;have U:=E.grow T;show wpAny_call (aDM ((h2 H2 O<|Kp.of T).2 X.A X.stack s2 us vs L d Q (λ_ _ _=>False) hr t.af3 rv rr (hl B L e2) U.trk U.tab (pL t O U.trk) y g) λr s' l=>?_);cases r with
     |error e=>show l.elim
     |ok fl=>
      cases fl with
      |ret u=>show t.after l
      |next=>show aAA l
      |brk=>show aAA l
      |cont=>show aAA l
   show q.elim
  |_=>show q.elim
end
def spF(K:km)(Φ:(List D->R D)->Hp->(bb->Prop)->bb->Prop)(M:D->(List D->R D)->(List D->R D)->R D):Sp:=λn H Q _=>∃O v1 g h k l m d,n=[v1,.ref h,.ref l]/\Rep K H O v1 g/\(∀b e,Kp H O b e->Φ k b e h)/\(∀b e,Kp H O b e->Φ m b e l)/\
 (∀a,O a->∃o,H a=some o/\Mt o)/\Tb H/\J7 K O/\M g k m=.ok d/\∀v f,Same H f->Rep K f O v d->Q v f
def lQ(N:List Str)(Φ:(List D->R D)->Hp->(bb->Prop)->bb->Prop)(d:D)(a b:List D->R D):Ev:=.v d::.c a (Φ a)::.c b (Φ b)::aCL (N.length-3) Sl.no
def CD{K:km}{H:Hp}{O:bb->Prop}{N:List Str}{v1:V}{f:D}{a1 a2:bb}{g k:List D->R D}{Φ:(List D->R D)->Hp->(bb->Prop)->bb->Prop}(r:Rep K H O v1 f)(l:∀d e,Kp H O d e->Φ g d e a1)(m:∀d e,Kp H O d e->Φ k d e a2)
  (t:∀a,O a->∃o,H a=some o/\Mt o) (tb:Tb H):EnvOk K H O H O (start N [v1,.ref a1,.ref a2]) (lQ N Φ f g k)where
 len:=by simp[L2.start,lQ]
 same:=Same.refl H
 sub:=λ_ h=>h
 trk:=t
 trk0:=λa h=>let⟨o,q,_⟩:=t a h;{o,q}
 tab:=tb
 slot:=λi n h=>by
  match i with
  |0=>cases h;show{v1,rfl,r}
  |1=>cases h;show{a1,rfl,l}
  |2=>cases h;show{a2,rfl,m}
  |i+3=>
   have b:(aCL (N.length-3) Sl.no)[i]?=some n:=h;rw[aBE]at b;split at b
   .cases b;trivial
   cases b
 inj:=λi j x y a h _ o=>by
  match i with
  |0=>cases h;show o.elim
  |1=>cases h;show o.elim
  |2=>cases h;show o.elim
  |i+3=>
   have b:(aCL (N.length-3) Sl.no)[i]?=some x:=h;rw[aBE]at b;split at b
   .cases b;show o.elim
   cases b
section
variable{K:km}
def fnF{x qual:Str}{st:df}{f:bb}{n:eO}{N ps:List Str}{k:Nat}{M:D->(List D->R D)->(List D->R D)->R D}{Φ:(List D->R D)->Hp->(bb->Prop)->bb->Prop}{F:Ev->R Out}(u:Fun K x qual st f n)(S:FnScope N ps (b9 st))(v:ps.length=3)
  (y:∀(L:av) (A:cp) (a:List Env) (s:a9) (H:Hp) (E:XK),Room k (A.deeper (envOfC qual (b9 st) s.heap.objs.size f L))->bX (SE P w K mg base N qual (b9 st) f L A a s H E) (q9 st) F)
  (B:∀g l m d,M g l m=.ok d->J9 (F (lQ N Φ g l m))=.ok d):FnOk P w K mg base xP (k+1) f n ps (spF K Φ M):=by
 show u.ok S (λC H Q E z=>by let{O,v1,g,I,l,J,m,d,e,_}:=z;rw[e,v];rfl) (λL A a s H C Q E T z=>?_);let{O,v1,g,I,l,J,m,d,U,r,Y,c2,ht,tb,fk,e,q}:=z;subst U;show{_,y L A a s H E T H O,O,_,CD r Y c2 ht tb,fk,?_};have h:=B g l m d e;cases p:F (lQ N Φ g l m)with
 |ok o=>
  rw[p]at h;cases o with
  |rt d'=>have b:R.ok d'=R.ok d:=h;injection b with b;subst b;show q
  |nx t=>have b:R.ok D.non=R.ok d:=h;injection b with b;subst b;showλaf H' O' E' _ _=>q .non H' E'.same .non
  |bk t=>cases h
  |ct t=>cases h
 |ex x=>nofun
 |bad=>rw[p]at h;cases h
end
structure NScope(ps ls fn:List Str)(sc:Scope):Prop where
 kind:sc.kind=.function
 co:sc.isCoroutine=false
 gen:sc.isGenerator=false
 nd:(ps++(ls++fn)).Nodup
 par:∀x∈ps,sc.names.lookup x=some .local
 fre:∀x∈fn,sc.names.lookup x=some .free
 all:∀x,sc.names.lookup x=some .free->x∈fn
 nocell:∀y∈sc.names,y.2≠.cell
abbrev cxM(P:bo)(w:cq)(K:km)(mg:fD)(base:cy)(N:List Str)(env:Env)(A:cp)(outer:List Env)(s:a9)(H:Hp):Cx where
 prog:=P
 w:=w
 K:=K
 mg:=mg
 base:=base
 A:=A.deeper env
 N:=N
 s9:=s
 H9:=H
 env:=env
 outer:=outer
 stack:=env::outer
 ex:=[]
 calm:=true
 fn:=λ_=>false
 pn:=[]
 xe:=λ_ _=>False
def N0{a:Type}(vs:List a)(n:Nat)(no:a)(ws:List a):List a:=vs++(aCL n no++ws)
def gG{b:Type}{vs ws:List b}{n i:Nat}{no a:b}(h:(N0 vs n no ws)[i]?=some a):vs[i]?=some a\/a=no\/(vs.length+n<=i/\ws[i-(vs.length+n)]?=some a):=by
 unfold N0 at h;by_cases d:i<vs.length
 .rw[aAG d]at h;show .inl h
 rw[aAy (by nofun)]at h;by_cases e:i-vs.length<n
 .rw[aAG (by nofun),aBE,jk e]at h
  nofun
 rw[aAy (by nofun),aCi]at h;grind
def PQ{b:Type}{vs ws:List b}{n i:Nat}{no a:b}(h:vs[i]?=some a):(N0 vs n no ws)[i]?=some a:=by unfold N0;rw[aAG (aAn.mp h).1];show h
def QR{b:Type}{vs ws:List b}{n i:Nat}{no a:b}(h:ws[i]?=some a):(N0 vs n no ws)[vs.length+n+i]?=some a:=by unfold N0;rw[aAy (by lia),aAy (by simp;lia),aCi,show vs.length+n+i-vs.length-n=i by lia];show h
section
variable{K:km}
def EH{A:cp}{f:List Env}{s:a9}{H:Hp}{L:List av}{vs n:List V}{h₁:cy}{tk:Nat}(S:NScope ps t fn g)(Q:A.handled=none)(k:Env0 P w K mg base A f s H)(I:vs.length=ps.length)(r:m9 vs L)(N:n.length=fn.length)
  (O:∀(i:Nat) (x:Str) (v:V),fn[i]?=some x->n[i]?=some v->∃c u,clos.lookup x=some c/\RelV v u/\s.heap.IsCell c (some u)) (C:∀x c,clos.lookup x=some c->(∃v,s.heap.IsCell c v)/\H c=none)
  (T:∀x y c,clos.lookup x=some c->clos.lookup y=some c->x=y) (U:h₁.Ns s.heap.objs.size (λx=>(ps.zip L).reverse.lookup x)) (E:∀b o,s.heap.get? b=some o->h₁.get? b=some o):
  Inv (cxM P w K mg base (ps++(t++fn)) (PySem.W.envX qual g s.heap.objs.size fa cd clos) A f s H) [] (N0 (vs.map some) t.length none (n.map some)) H {s with heap:=h₁,toks:=tk}:=by
 have l:∀b:bb,b∉(cxM P w K mg base (ps++(t++fn)) (PySem.W.envX qual g s.heap.objs.size fa cd clos) A f s H).ex:=λb z=>kb (z) (by simp);show⟨{k.mod,S.kind,rfl,rfl,aAj _,T,λy m=>?_,λy c Y _=>(by cases Y),λ_=>Q,aFG k.frames,.inr {rfl,rfl},λb z=>kb z (l b),k.bs,k.bsz,λb _ _=>l b,λb z=>kb z (l b),k.funs,k.frf},
  rfl,k.bare,Un.kept E,{_,U,λi y v h1 d h3=>?_},λy c h=>?_,k.hok.fresh (aAj _),λy c h=>(C y c h).2,λp hp=>kb (hp) (by simp),k.hok.kept E,?_⟩
 .have m:=m;rcases m with m|m
  .show kb rfl (S.nocell _<|PySem.mem_of_lookup m)
  have hm:=S.all y m;let{i,hi,e}:=aBa hm;have hw:i<n.length:=by rw[N];show hi
  let{c,u,q,_}:=O i y n[i] (by nofun) (aAd hw);show{c,q}
 .have B:=h1;rcases gG d with d|d|⟨h4,d⟩
  .rw[aAu]at d;cases e:vs[i]? with
   |none=>rw[e]at d;cases d
   |some a=>
    rw[e]at d;have J:a=v:=aAq (aAq d);subst J;let{u,hu,rv}:=r.get e;rw[aAG (by grind)]at B;show{u,rv,.inl {S.par y (aAi B),(bQ ?_ ?_)}}
    .rw[aFl];show(List.reverse_perm _).nodup_iff.mpr ?_;rw[List.map_fst_zip (I▸r.length▸aAj _)];show((aCQ.mp S.nd).1)
    rw[aCn];show aAi (i:=i) (by rw[aAW];show{B,hu})
  .cases d
  rw[aAh]at h4 d;rw[aAu]at d;cases e:n[i-(vs.length+t.length)]? with
  |none=>rw[e]at d;cases d
  |some a=>rw[e]at d;have J:a=v:=aAq (aAq d);subst J;rw[aAy (by lia),aAy (by lia),<-I,show i-vs.length-t.length=i-(vs.length+t.length)by lia]at B;let{c,u,q1,q2,q3}:=O _ y a B e;show{u,q2,.inr {.inr (S.fre y<|aAi B),c,q1,q3.keeps E}}
 .let{{v,z},_}:=C y c h;show{v,z.keeps E}
 unfold N0;simp[I,N]
def CA{H:Hp}{O:bb->Prop}{vs b:List V}{ds wd:List D}{n:Nat}(r:Reps K H O vs ds)(k:Reps K H O b wd)(t:∀a,O a->∃o,H a=some o/\Mt o)(tb:Tb H):
  EnvOk K H O H O (N0 (vs.map some) n none (b.map some)) (N0 (ds.map Sl.v) n .no (wd.map Sl.v))where
 len:=by unfold N0;simp[r.length,k.length]
 same:=Same.refl H
 sub:=λ_ h=>h
 trk:=t
 trk0:=λa h=>let⟨o,q,_⟩:=t a h;{o,q}
 tab:=tb
 slot:=λi l h=>by
  rcases gG h with h|h|⟨p,h⟩
  .rw[aAu]at h;cases e:ds[i]? with
   |none=>rw[e]at h;cases h
   |some d=>rw[e]at h;have f:Sl.v d=l:=aAq h;subst f;let{v,m,g}:=r.get e;show{v,PQ (by nofun),g}
  .subst h;trivial
  rw[aAu,aAh]at h;rw[aAh]at p;cases e:wd[i-(ds.length+n)]? with
  |none=>rw[e]at h;cases h
  |some d=>rw[e]at h;have f:Sl.v d=l:=aAq h;subst f;let{v,m,g}:=k.get e;show{v,?_,g};have:=QR (vs:=vs.map some) (n:=n) (no:=(none:Option V)) (ws:=b.map some) (by rw[aAu,m];rfl);rw[aAh,r.length,show ds.length+n+(i-(ds.length+n))=i by nofun]at this;show this
 inj:=λi j x y a h _ o=>by
  rcases gG h with h|h|⟨_,h⟩
  .let{d,_,rfl}:=aAo.mp (aAi h);show o.elim
  .subst h;show o.elim
  let{d,_,rfl}:=aAo.mp (aAi h);show o.elim
def ak{name:Str}{N:Arguments}{body:List df}{doc pm ctv:av}{T:bb}{oc:Obj}{k:Nat}{m:List D->R D}{F:Ev->R Out}{H:Hp}{O:bb->Prop}{l:N7}{wv:List V}{wd:List D}(S:NScope ps ls fn g)
  (hb:∀(A:cp) (f:List Env) (s:a9) (H:Hp),Room k (A.deeper (PySem.W.envX qual g s.heap.objs.size fa (.ref T) clos))->bX (cxM P w K mg base (ps++(ls++fn)) (PySem.W.envX qual g s.heap.objs.size fa (.ref T) clos) A f s H) body F)
  (hm:∀ds d,ds.length=ps.length->m ds=.ok d->J9 (F (N0 (ds.map Sl.v) ls.length .no (wd.map Sl.v)))=.ok d)
  (we:∀(s:a9) (Y:List av),Y.length=ps.length->BindsTo s (PySem.W.fnX name qual N body g clos .none .none doc pm none (.ref T) ctv) {Y,[]} (ps.zip Y))
  (hfa:H fa=some (.frz (PySem.W.fnMade name qual N body g clos doc pm T ctv) (.own fa))) (hc:H T=some (.frz oc (.own T))) (dg:∃vs t,oc.data=.fields vs/\vs[1]?=some (.str qual t))
  (vo:∀b o,l.lookup b=some o->H b=some (.frz o (.own b))/\wN o) (yd:∀(i:Nat) (x:Str) (v:V),fn[i]?=some x->wv[i]?=some v->∃c u o,clos.lookup x=some c/\l.lookup c=some o/\o.data=.cell (some u)/\RelV v u)
  (hcc:∀x c,clos.lookup x=some c->∃o,l.lookup c=some o) (ph:∀x y c,clos.lookup x=some c->clos.lookup y=some c->x=y) (qd:wv.length=fn.length) (hr:Reps K H O wv wd) (hO:∀a,O a->∃o,H a=some o/\Mt o):
  ∀C O2,Kp H O C O2->LI P w K mg base (k+1) ps.length m C O2 fa:=by
 intro C O2 kp;have fz:∀b o u,H b=some (.frz o u)->C b=some (.frz o u):=λb o u e=>(kp b _ e λz=>by let{o',q,mt}:=hO b z;rw[e]at q;cases q;show mt).1;have U:∀b o,l.lookup b=some o->C b=some (.frz o (.own b)):=λb o q=>fz _ _ _ (vo b o q).1;show{{_,_,_,_,fz _ _ _ hfa},λA f s Y vs ds d Q E oh B rv rr hl ht tb fk em q=>?_};have KX:K.In s.heap:=B.mod.kin.keeps λb o e=>(B.bs b o e).1;have goc:=(B.hok T _<|fz _ _ _ hc).1;let{ovs,ot,od1,od2}:=dg;have hidn:∀b,C b=none->S9 C l b=none:=λb n=>by
  cases z:l.lookup b with
  |none=>rw[M3 z];show n
  |some o=>show bN z
 have e1:Env0 P w K mg base A f s (S9 C l):={B.frames,B.mod,λb o e=>{(B.bs b o e).1,hidn b (B.bs b o e).2},B.bsz,B.funs,λb hb=>hidn b (B.frf b hb),MB B.hok λb o z=>{U b o z,(vo b o z).2},B.bare};have zc:∀b o,l.lookup b=some o->s.heap.get? b=some o:=λb o z=>(B.hok b _<|U b o z).1;have cfs:∀b o,l.lookup b=some o->b∉zU f:=λb o z hb=>by have:=B.frf b hb;rw[U b o z]at this;cases this
 have hul:Y.length=ps.length:=by rw[<-rv.length,rr.length];show hl
 have hvl:vs.length=ps.length:=by rw[rr.length];show hl
 have rwv:=(kp.ab8 hO fk hr).hid U;have ht1:∀a,O2 a->∃o,S9 C l a=some o/\Mt o:=λa z=>by let{o,q1,q2}:=ht a z;show{o,v7 U q1 λo' _ z'=>by subst z';show q2,q2}
 let Q':VK:=λv H3=>(∀b o,l.lookup b=some o->H3 b=none)->Q v (fJ H3 l)
 have qq:∀v L,Same (S9 C l) L->Rep K L O2 v d->Q' v L:=λv L sm r hn=>by
  show q v _ (λb u e=>?_) (r.same<|fB hn);cases z:l.lookup b with
  |none=>show C8 hn (sm b u (by rw[M3 z];show e))
  |some o=>rw[U b o z]at e;cases e;show eV z
 have fin:∀{u:av}{s':a9},CE f P w (S9 C l) s Q' u s'->CE f P w C s Q u s':=λ{u s'} ⟨v,H3,os,bare,un,hok,r,qv⟩=>by let{U2,k2,yc}:=jj un hok λb o z=>{zc b o z,U b o z,cfs b o z};show{v,_,os,bare,U2,k2,r,qv λb o z=>un.free b o (zc b o z) (bN z) (by simp)}
 show codeAny_call_def (body:=body) (binds:=ps.zip Y) oh.depth ((B.hok fa _<|fz _ _ _ hfa).1) rfl (B.mod.nolimit.keeps λb o e=>(B.bs b o e).1) {T,oc,ovs,ot,rfl,goc,od1,od2} rfl (we s Y hul) S.nocell (λy hy=>S.par y.1 (aDl hy).1) (λh₁ yr hk=>?_) S.co S.gen S.kind;have I:=EH (qual:=qual) (fa:=fa) (cd:=.ref T) (clos:=clos) (tk:=s.toks+(ps.zip Y).length) S oh.hd e1 hvl rv qd (λi x v h1 h2=>by
   let{c,u,o,q1,q2,q3,q4}:=yd i x v h1 h2;show{c,u,q1,q4,o,zc c o q2,q3}) (λx c h=>by
   let{o,z}:=hcc x c h;let{v,z2}:=(vo c o z).2;show{{v,o,zc c o z,z2},bN z}) ph yr hk
 have hx:=hb A f s (S9 C l) (oh.deeper _) (S9 C l) O2 [] _ _ _ {nx:=λ_ L=>Q' .non L,rt:=Q'} I {O2,_,CA (rr.hid U) rwv ht1 (λp hp=>v7 U (tb p hp) λo _ z=>by cases z),fk,?_}
 .show aCx hx (λfl s' hs=>?_) λe s' hs=>hs.elim;have fin2:∀{af:St}{L:Hp}{v:V}{u:av},Inv (cxM P w K mg base (ps++(ls++fn)) (PySem.W.envX qual g s.heap.objs.size fa (.ref T) clos) A f s<|S9 C l) [] af L s'->RelV v u->Q' v L->CE f P w C s Q u s':=
   λ{af L v u} J rv q=>fin {v,L,J.os,J.bare,J.base,J.hok,rv,q}
  cases fl with
  |ret u=>let{v,af,L,J,rv,q}:=hs;show fin2 J rv q
  |next=>let{af,L,J,q}:=hs;show fin2 (v:=V.non) (u:=Value.none) J rfl q
  |brk=>let{_,_,_,q}:=hs;show aAA q
  |cont=>let{_,_,_,q}:=hs;show aAA q
 have h:=hm ds d hl em;cases e1:F (N0 (ds.map Sl.v) ls.length .no (wd.map Sl.v))with
 |ok o=>
  rw[e1]at h;cases o with
  |rt d'=>have h':R.ok d'=R.ok d:=h;injection h' with h';subst h';show qq
  |nx ρ=>have h':R.ok D.non=R.ok d:=h;injection h' with h';subst h';showλaf L O' E' _ _=>qq .non L E'.same .non
  |bk ρ=>cases h
  |ct ρ=>cases h
 |ex x=>rw[e1]at h;cases h
 |bad=>rw[e1]at h;cases h
end
end
section
variable [Tabs]
def iO(mg:fD)(base:cy):Prop:=∃b a,mg "__builtins__"=some (.ref b)/\b≠builtinsNs/\base.get? b=some a/\a.cls=.type "module"/\a.dict=some builtinsNs/\a.data=.plain
def uR:∀(l:List av),TriplesOk l->fu d l=some x->fu d (l++[et a,et b,c])=some x:=λl h e=>by
 fun_induction TriplesOk l with
 |case1=>simp[fu]at e
 |case2 k t m u y rest g=>
  erw[aBQ,fu]at e⊢;split at e
  .rename_i f;rw[jk f];show e
  rename_i f;rw[jl f];show g h e
 |case3 l n o=>show h.elim
def QH(ne:¬(a=d.line/\b=d.col)):∀(l:List av),TriplesOk l->fu d l=none->fu d (l++[et a,et b,c])=none:=λl h e=>by
 fun_induction TriplesOk l with
 |case1=>erw[aFA,et,fu];rw[jl];erw[aAH,beq_iff_eq];show ne
 |case2 k t m u y rest f=>
  erw[aBQ,fu]at e⊢;split at e
  .cases e
  rename_i g;rw[jl g];show f h e
 |case3 l n o=>show h.elim
def gF(H:Hp)(fa:bb)(name qual:Str)(a:Arguments)(body:List df)(b:i3)(clos:List (Str×bb)):Prop:=
 ∃d g e k f,H fa=some (.frz (PySem.W.fnMade name qual a body b clos e k d f) (.own fa))/\H d=some (.frz g (.own d))/\∃h t,g.data=.fields h/\h[1]?=some (.str qual t)
def gF.same(h:gF H fa name qual a body b clos)(s:Same H H'):gF H' fa name qual a body b clos:=by let{f,g,d,k,e,l,m,n}:=h;show{f,g,d,k,e,s _ _ l,s _ _ m,n}
section
def AO{Q:Flow->a9->Prop}(I:Inv X pins σ H s)(hB:iO X.mg X.base)(ju:X.env.code=.ref c)(hK:PySem.W.codeHdIn X.K c x=true)(hT:H x=some (.tbl tb))(hq:qualnameIn X.env name name=qual)(hm:(f,qual)∈tb)(hu:∀p∈tb,p.1.line=f.line->p.1.col=f.col->p.2=qual)(yd:closureFor d X.env=pure clos)(hd0:a.defaults=[])(hk0:a.kw_defaults=[])(ha:annTrees a none X.env=[])(hN:X.N.Nodup)(hi:X.N[i]?=some name)(hx:Loc X.env.scope name)(hf:X.fn name=true\/X.env.scope.names.lookup name=some .local)(h:∀fa H' s',Inv X pins (σ.set i (some (.ref fa))) H' s'->Same H H'->gF H' fa name qual a body d clos->Q .next s'):bc (be X.prog X.w) X.A (exec (.FunctionDef name a body [] none [] d none name f) X.env) Q X.xe s:=by
 show PySem.W.nestDef_K hd0 hk0 ha ?_;rw[hq];have hg:=I.mod.glob.keeps I.bk;have C:PySem.W.CodeHd s.heap c x:=PySem.W.codeHd_of_K I.kIn hK;let{ps,hP,m,J}:=I.hok x _ hT;have hgP:bt≠x:=λq=>by let{o,es,ep,e,hd,_}:=hg;grind
 have L:s.heap.BuiltinsAt X.mg x:=by
  let{bm,ob,b1,b2,b3,b4,b5,b6}:=hB;have b3':=I.bk _ _ b3;show{bm,ob,b1,b2,λq=>?_,λq=>?_,b3',b4,b5,b6}
  .let{o,es,ep,e,hd,_}:=hg;grind
  grind
 have O:∀b,H b=none->b≠x:=λb n z=>by rw[z,hT]at n;cases n
 rcases J _ hm with hnf|⟨l,oc,vs,t,hf',xr,fm⟩
 .show PySem.W.makeFunction_K (mg:=X.mg) yd I.ok.glob hg ju C hP m hnf hgP L λl g k h' tk hx' y ai hrec htb=>?_;let{c2,oc,vs,t,e2,dg,hd,hv}:=hrec;cases e2;have old:∀b u,H b=some u->b<s.heap.objs.size:=λb u e=>I.hok.lt e;have B:=I.hok.fresh (aAk y<|aCd ai);have ncf:=aAl ai;have E:Same H (upd (upd H l<|.frz oc (.own l)) h'.objs.size<|.frz (PySem.W.fnMade name qual a body d clos k ((X.mg "__name__").getD .none) l g) (.own h'.objs.size)):=λb u e=>by rw[k7 (t5 e B),k7 (t5 e<|I.hok.fresh y)];show e
  have oi:∀b o,b≠x->s.heap.get? b=some o->(h'.push<|PySem.W.fnMade name qual a body d clos k ((X.mg "__name__").getD .none) l g).get? b=some o:=λb o L e=>aAc _ (hx' b o L e);have lts:∀b o,s.heap.get? b=some o->b≠l/\b≠h'.objs.size:=λb o e=>{aAl (aAm (aAf e) y),aAl (aAm (aAf e)<|aAk y<|aCd ai)};have I1:=I.step (H':=upd (upd H l<|.frz oc (.own l)) h'.objs.size (.frz (PySem.W.fnMade name qual a body d clos k ((X.mg "__name__").getD .none) l g) (.own h'.objs.size)))
   (h':=h'.push (PySem.W.fnMade name qual a body d clos k ((X.mg "__name__").getD .none) l g)) (g':=s.gens) (t':=tk) (d':=s.drawn) (ch:=[]) (λ_ z=>nomatch z) (λb o _ _ _ e n=>oi b o (O b n) e) (λb o _ _ _ e n=>{o.slots,oi b o (O b n) e})
   (λb o _ e n=>by rw[k7 (lts b o e).2,k7 (lts b o e).1];show n) (λb o _ e=>by
    by_cases L:b=x
    .subst L;show{_,aAc _ htb}
    .show{o,oi b o L e}) (λb Y e=>E _ _ e) (λb o u e=>E _ _ e) (λb tb e=>E _ _ e) (λm' hm'=>by
    let{o,es,ep,e,r}:=hm';show{o,es,ep,oi _ o (O _ I.free) e,r}) (λb u e=>by
    by_cases hbf:b=h'.objs.size
    .subst hbf;rw[j2]at e;cases e;show{aAp _ rfl,_,aAp _ rfl}
    rw[k7 hbf]at e;by_cases hbc:b=l
    .subst hbc;rw[j2]at e;cases e;show{aAc _ dg,_,aAc _ dg}
    rw[k7 hbc]at e;by_cases hbP:b=x
    .subst hbP;rw[hT]at e;cases e;show{_,aAc _ htb,?_,λp hp=>?_}
     .rw[aFW];show TriplesOk_snoc _ _ _ _ m
     rw[aFW];change fu p.1 (ps.toList++[et f.line,et f.col,.ref l])=none\/_;by_cases T:(f.line:Int)=p.1.line/\(f.col:Int)=p.1.col
     .rcases J p hp with U|⟨c3,oc3,vs3,t3,U,h1,h2⟩
      .have e1:f.line=p.1.line:=by exact_mod_cast T.1
       have e2:f.col=p.1.col:=by exact_mod_cast T.2
       show .inr {l,oc,vs,t,?_,by rw[k7 ncf,j2],hd,?_}
       .rw[e1,e2];show codeAmong_snoc _ m U
       grind
      show .inr {c3,oc3,vs3,t3,uR _ m U,E _ _ h1,h2}
     rcases J p hp with U|⟨c3,oc3,vs3,t3,U,h1,h2⟩
     .show .inl (QH T _ m U)
     show .inr {c3,oc3,vs3,t3,uR _ m U,E _ _ h1,h2}
    show(I.hok b u e).ab7 (λb2 v hc q=>oi b2 v (λz=>?_) q) (λb2 z=>E _ _ z) λb2 u _ z=>E _ _ z;rcases hc with hc|hc
    .show hbP (hc▸z)
    rw[z,hT]at hc;cases hc) I.bare
  show Q9 I1 hN hi hx (show RelV (.ref h'.objs.size) _ from rfl) (λs' I'=>h _ _ s' I' E {l,oc,k,_,g,j2,by rw[k7 ncf,j2],vs,t,hd,hv}) hf
 show PySem.W.makeFunction_hit (mg:=X.mg) yd I.ok.glob hg ju C hP m hf' L λg k h' tk hk hsz=>?_;have B:=I.hok.fresh hsz;have I1:=I.laid (o:=.frz (PySem.W.fnMade name qual a body d clos k ((X.mg "__name__").getD .none) l g) (.own h'.objs.size)) (h':=h'.push (PySem.W.fnMade name qual a body d clos k ((X.mg "__name__").getD .none) l g)) (t':=tk)
  (λb u e=>aAc _ (hk b u e)) hsz {aAp _ rfl,_,aAp _ rfl}
 show Q9 I1 hN hi hx (show RelV (.ref h'.objs.size) _ from rfl) (λs' I'=>h _ _ s' I' (j5 B _) {l,oc,k,_,g,j2,j5 B _ _ _ xr,vs,t,fm}) hf
end
structure Nst where
 name:Str
 qual:Str
 params:Arguments
 body:List Stmt
 scope:Scope
 pos:Pos
 ps:List Str
 ls:List Str
 fn:List Str
 js:List Nat
 F:Ev->R Out
 mm:List D->List D->R D
 i:Nat
abbrev Nst.stmt(n:Nst):df:=.FunctionDef n.name n.params n.body [] none [] n.scope none n.name n.pos
structure NstOk(X:Cx)(k:Nat)(n:Nst):Prop where
 sc:NScope n.ps n.ls n.fn n.scope
 one:n.ps.length=1
 body:∀(fa:Addr) (cd:Value) (clos:List (Str×Addr)) (A:Around) (outer:List Env) (s:Shared) (H:Hp),Room k (A.deeper (PySem.W.envX n.qual n.scope s.heap.objs.size fa cd clos))->bX (cxM X.prog X.w X.K X.mg X.base (n.ps++(n.ls++n.fn)) (PySem.W.envX n.qual n.scope s.heap.objs.size fa cd clos) A outer s H) n.body n.F
 mm:∀wd ds d,wd.length=n.fn.length->ds.length=n.ps.length->n.mm wd ds=.ok d->J9 (n.F (N0 (ds.map Sl.v) n.ls.length .no (wd.map Sl.v)))=.ok d
 bind:∀(clos:List (Str×Addr)) (doc pm cd ctv:Value) (us:List Value),us.length=n.ps.length->bindArgs (PySem.W.fnX n.name n.qual n.params n.body n.scope clos .none .none doc pm none cd ctv) {us,[]}=pure (n.ps.zip us)
 len:n.js.length=n.fn.length
 at_:∀(i j:Nat) (x:Str),n.js[i]?=some j->n.fn[i]?=some x->X.N[j]?=some x/\X.env.scope.names.lookup x=some .cell
 d0:n.params.defaults=[]
 k0:n.params.kw_defaults=[]
 nm:X.N[n.i]?=some n.name
 lc:Loc X.env.scope n.name
 st:X.fn n.name=true\/X.env.scope.names.lookup n.name=some .local
 dbg:(n.name==lb)=false
 cdt:(n.name==lh)=false
structure ClosOk(X:Cx)(n:Nst)(clos:List (Str×Addr)):Prop where
 eq:closureFor n.scope X.env=pure clos
 ann:annTrees n.params none X.env=[]
 qn:qualnameIn X.env n.name n.name=n.qual
 sub:∀x c,clos.lookup x=some c->X.env.cells.lookup x=some c
 has:∀x∈n.fn,∃c,clos.lookup x=some c
def eI:List Nat->Ev->R (List D)
 |[],_=>.ok []
 |j::b,a=>(G9 j a).bind λd=>(eI b a).bind λe=>.ok (d::e)
theorem NQ{K:km}{l H:Hp}{m O:bb->Prop}{g:St}{ρ:Ev}(E:EnvOk K l m H O g ρ):∀{a:List Nat}{wd:List D},eI a ρ=.ok wd->∃b,Reps K H O b wd/\b.length=a.length/\∀(i j:Nat) (v:V),a[i]?=some j->b[i]?=some v->g[j]?=some (some v):=by
 intro n wd h;cases n with
 |nil=>cases h;show{[],.nil,rfl,λi j v e=>by simp at e}
 |cons j a=>
  unfold eI at h;cases k:G9 j ρ with
  |ok d=>
   rw[k,R.aa0]at h;cases f:eI a ρ with
   |ok t=>
    rw[f,R.aa0]at h;cases h;let{b,r,o,at_}:=NQ E f;have:ρ[j]?=some (.v d):=by
     unfold G9 at k
     lia
    let{v,u,p}:=E.val j d this;show{v::b,.cons p r,by simp[o],λi q s w x=>?_};cases i with
    |zero=>nofun
    |succ i=>show at_ i q s (by nofun) (by nofun)
   |ex z=>rw[f]at h;cases h
   |bad=>rw[f]at h;cases h
  |ex z=>nofun
  |bad=>nofun
section
def Y2(h:cy)(a:List (Str×bb)):List (bb×Obj):=a.filterMap λp=>(h.get? p.2).map λo=>(p.2,o)
def K7(e:(Y2 h a).lookup b=some o):h.get? b=some o/\∃x,(x,b)∈a:=by
 let{p,d,q}:=aBS.mp (mem_lookup e);cases z:h.get? p.2 with
 |none=>nofun
 |some f=>grind
def mE(f:(x,b)∈a)(e:h.get? b=some o):∃d,(Y2 h a).lookup b=some d:=by
 have:(b,o)∈Y2 h a:=aBS.mpr {(x,b),f,by change(h.get? b).map _=_;rw[e];rfl};cases q:(Y2 h a).lookup b with
 |some d=>show{d,rfl}
 |none=>have:=List.lookup_eq_none_iff.mp q (b,o) this;simp at this
def a0b(X:Cx)(n1 n2:Nst)(clos1 clos2:List (Str×bb))(f:Ev->R D)(M:D->(List D->R D)->(List D->R D)->R D):TE:=λd H Q=>∃g h O b e a,EnvOk X.K g h H O d b/\d[n1.i]?=some (some<|V.ref e)/\d[n2.i]?=some (some<|V.ref a)/\
 gF H e n1.name n1.qual n1.params n1.body n1.scope clos1/\gF H a n2.name n2.qual n2.params n2.body n2.scope clos2/\RC X H O ((f b).bind λk=>(eI n1.js b).bind λl=>(eI n2.js b).bind λm=>M k (n1.mm l) (n2.mm m)) Q
def zH{n:Nst}{clos a:List (Str×bb)}{k:Nat}{g:N7}{σ:St}{H:Hp}{s:a9}{H9:Hp}{O0 O:bb->Prop}{ρ:Ev}{fa:bb}{wd:List D}(ok:NstOk X k n)(h:ClosOk X n clos)(I:Inv X g σ H s)(E:EnvOk X.K H9 O0 H O σ ρ)
  (hA:∀p∈clos,p∈a) (l:∀x b,(x,b)∈a->X.env.cells.lookup x=some b) (r:gF H fa n.name n.qual n.params n.body n.scope clos) (hw:eI n.js ρ=.ok wd):
  ∀t z,Kp (fJ H (Y2 s.heap a)) O t z->LI X.prog X.w X.K X.mg X.base (k+1) 1 (n.mm wd) t z fa:=by
 let{c',oc,Q,pm,T,h1,h2,h3}:=r;let{wv,mo,hl,at_}:=NQ E hw;have hn:∀b o,(Y2 s.heap a).lookup b=some o->H b=none:=λb o q=>by let{_,x,U}:=K7 q;show I.freeC x b (l x b U)
 have N:=fB hn
 suffices B:∀t z,Kp (fJ H<|Y2 s.heap a) O t z->LI X.prog X.w X.K X.mg X.base (k+1) n.ps.length (n.mm wd) t z fa by rw[ok.one]at B;show B
 show ak (wd:=wd) ok.sc (λA f s H hr=>ok.body fa (.ref c') clos A f s H hr) (λds d Y e=>ok.mm wd ds d (by rw[<-mo.length,hl,ok.len]) Y e) (λs us Y=>.of_eq (ok.bind clos Q pm (.ref c') T us Y)) (N _ _ h1) (N _ _ h2) h3
  (λb o q=>{eV q,?_}) (λi x v C q2=>?_) (λx c q=>?_) (λx y c C q2=>I.ok.inj x y c (h.sub x c C) (h.sub y c q2)) (by rw[hl,ok.len]) (mo.same N) (E.grow N).trk
 .let{e1,x,U}:=K7 q;let{v,o',e2,e3}:=I.cell x b (l x b U);rw[e1]at e2;cases e2;show{v,e3}
 .have hi:i<n.js.length:=by rw[ok.len];show(aAn.mp C).1
  have ej:=aAd hi;let{hN,hk}:=ok.at_ i _ x ej C;let{m,yr,J}:=I.loc;let{u,ru,L}:=J _ x v hN (at_ i _ v ej q2) (.inr (.inl hk));rcases L with⟨jn,_⟩|⟨_,c,jf,o,ho,hd⟩
  .have hk'':X.env.scope.names.lookup x=some .local:=jn
   nofun
  let{c2,q3}:=h.has x (aAi C);have q4:=h.sub x c2 q3;rw[jf]at q4;cases q4;let{o',q5}:=mE (hA _<|PySem.mem_of_lookup q3) ho;have:=(K7 q5).1
  nofun
 let{v,o,ho,_}:=I.cell x c (h.sub x c q);show mE (hA _<|PySem.mem_of_lookup q) ho
def US(qg:NstOk X k n1)(qh:NstOk X k n2)(hc1:ClosOk X n1 clos1)(jo:ClosOk X n2 clos2)(L:∀x b,(x,b)∈clos1++clos2->X.env.cells.lookup x=some b)(FF:FnOk X.prog X.w X.K X.mg X.base xP kf g gd N (spF X.K (LI X.prog X.w X.K X.mg X.base (k+1) 1) M))(hr:Room kf X.A)(hm:X.mg x=some (.ref g))(hk:PySem.W.keepIn X.K (.ref g)=true)(t:Binds X.K gd N [])(h3:N.length=3)(he:PD X e f)(xp:∀y,X.fn y=true)(hg:Gl X x<|>1)(il:(x==lb)=false<|>2)(yu:a5 [e,.Name n1.name p1,.Name n2.name T] X.env=(false,dC e X.env)::a5 [.Name n1.name p1,.Name n2.name T] X.env<|>1)(hs2:a5 [.Name n1.name p1,.Name n2.name T] X.env=(false,dC (.Name n1.name p1) X.env)::a5 [.Name n2.name T] X.env<|>1)(hs3:a5 [.Name n2.name T] X.env=(false,dC (.Name n2.name T) X.env)::a5 [] X.env<|>1)(bh:(dq pos (a5 [.Name n1.name p1,.Name n2.name T] X.env)).any (·.1)=false<|>1):
  PE X (.Call (.Name x p) [e,.Name n1.name p1,.Name n2.name T] [] pos) (a0b X n1 n2 clos1 clos2 f M):=by
 rintro pins s σ H Q I ⟨H9,O0,O,ρ,zd,fa2,E,h1,h2,md1,md2,q⟩;have vis:∀{y:Str},Loc X.env.scope y->xO X.env.scope y:=λh=>h.elim .inl λz=>.inr (.inl z);show aAK (wP I hg hm (PySem.W.callWith_K I.ok.mod.kin hk (D6 ((G0 he (G0 (N5 qg.nm (vis qg.lc) qg.dbg qg.cdt) (G0 (N5 qh.nm (vis qh.lc) qh.dbg qh.cdt) Z5 hs3) hs2) yu) pos pins s σ H (λvs B=>∃v1 U w1 w2 d,vs=[v1,.ref zd,.ref fa2]/\Same H B/\Rep X.K B O v1 U/\eI n1.js ρ=.ok w1/\eI n2.js ρ=.ok w2/\M U (n1.mm w1) (n2.mm w2)=.ok d/\∀v l,Same B l->Rep X.K l O v d->Q v l) I {H9,O0,O,ρ,E,?_}) λus C z9=>?_) yu bh) il)
 .cases e1:f ρ with
  |ex z=>rw[e1]at q;show q
  |bad=>rw[e1]at q;show q
  |ok U=>
   rw[e1,R.aa0]at q;cases J:eI n1.js ρ with
   |ex z=>rw[J]at q;show(q H<|Same.refl _).elim
   |bad=>rw[J]at q;show q.elim
   |ok w1=>
    rw[J,R.aa0]at q;cases e3:eI n2.js ρ with
    |ex z=>rw[e3]at q;show(q H<|Same.refl _).elim
    |bad=>rw[e3]at q;show q.elim
    |ok w2=>
     rw[e3,R.aa0]at q;cases e4:M U (n1.mm w1) (n2.mm w2)with
     |ex z=>rw[e4]at q;show(q H<|Same.refl _).elim
     |bad=>rw[e4]at q;show q.elim
     |ok d=>rw[e4]at q;showλv1 B C r1=>{_,h1,_,h2,v1,U,w1,w2,d,rfl,C,r1,rfl,rfl,e4,λv l s2 r2=>q v l (C.trans s2) r2}
 let{vs,B,a,r,v1,U,w1,w2,d,ev,sm,r1,c1,c2,em,qq}:=z9;show{a.kIn,?_};subst ev;have E1:=E.grow sm;generalize vo:Y2 C.heap (clos1++clos2)=m;have hn:∀b o,m.lookup b=some o->C.heap.get? b=some o/\B b=none/\wN o:=λb o z=>by rw[<-vo]at z;let{e1,y,hm}:=K7 z;let{v,o',J,e3}:=a.cell y b (L y b hm);rw[e1]at J;cases J;show{e1,a.freeC y b (L y b hm),v,e3}
 have hn0:=λb o z=>(hn b o z).2.1;have Y:=fB hn0;have E2:=E1.grow Y;have n:=a.af3;have nofr:∀b o,m.lookup b=some o->b∉zU X.stack:=λb o z t=>by
  rw[<-vo]at z;let{_,y,hmy}:=K7 z;rcases aAg.mp (a.ab5 b t)with e|t
  .show a.cne y b (L y b hmy) e
  let{_,o',ho,_}:=a.ok.funs.mem t;show kb (aAm (aAf ho)<|a.ok.cab y b (xp y)<|L y b hmy) (aBg _)
 have nob:∀b o,X.base.get? b=some o->m.lookup b=none:=λb o e=>by
  cases z:m.lookup b with
  |none=>rfl
  |some o'=>rw[<-vo]at z;let{_,y,hm}:=K7 z;show kb (aAm (aAf e)<|aAk a.ok.bsz<|a.ok.cab y b (xp y)<|L y b hm) (aBg _)
 have J:Env0 X.prog X.w X.K X.mg X.base X.A X.stack C (fJ B m):=⟨n.frames,n.mod,λb o e=>{(n.bs b o e).1,by rw[Q6 (nob b o e)];show(n.bs b o e).2},n.bsz,n.funs,λb t=>by
  cases z:m.lookup b with
  |none=>rw[Q6 z];show n.frf b t
  |some o=>show kb t (nofr b o z),MJ n.hok λb o z=>{(hn b o z).1,(hn b o z).2.1},n.bare⟩
 have cl1:=zH qg hc1 a E1 (λp hp=>aBI _ hp) L (md1.same sm) c1;have cl2:=zH qh jo a E1 (λp hp=>aAE _ hp) L (md2.same sm) c2;rw[vo]at cl1 cl2;have hl:us.length=N.length:=by rw[<-r.length,h3];rfl
 have hbs:=t C us a.kIn (by rw[aBW];show hl);rw[aBW]at hbs;show wpAny_call (aDM (FF.run X.A X.stack C (fJ B m) {us,[]} us _ (λv l=>Q v (S9 l m)) (λ_ _ _=>False) hr J hbs r {O,v1,U,zd,_,fa2,_,d,rfl,r1.same Y,cl1,cl2,E2.trk,E2.tab,pL a O E1.trk,em,λv l s2 r2=>?_}) λrr s' hq=>?_)
 .have hz:∀b o,m.lookup b=some o->l b=some (.frz o (.own b)):=λb o z=>s2 _ _ (eV z);show qq v _ (λb u e=>v7 hz (s2 b u<|Y b u e) λo z _=>?_) (r2.hid hz)
  nofun
 cases rr with
 |error e=>show hq.elim
 |ok fl=>
  cases fl with
  |next=>show aAA hq
  |brk=>show aAA hq
  |cont=>show aAA hq
  |ret u=>let{v,l,os,bare,un,hok,rv,qv}:=hq;let{U2,k2,_}:=ZG un hok hn;show a.after {v,_,os,bare,U2,k2,rv,qv}
def JX(h:NstOk X k n1)(l:NstOk X k n2)(a:ClosOk X n1 clos1)(C:ClosOk X n2 clos2)(hA:∀x b,(x,b)∈clos1++clos2->X.env.cells.lookup x=some b)(hB:iO X.mg X.base)(ju:X.env.code=.ref c)(hK:PySem.W.codeHdIn X.K c Pt=true)(n:(Pt,tb)∈Tabs.tbs)(Q:(n1.pos,n1.qual)∈tb)(ml:(n2.pos,n2.qual)∈tb)(fb:∀p∈tb,p.1.line=n1.pos.line->p.1.col=n1.pos.col->p.2=n1.qual)(T:∀p∈tb,p.1.line=n2.pos.line->p.1.col=n2.pos.col->p.2=n2.qual)(ag:n1.i≠n2.i)(hN:X.N.Nodup)(FF:FnOk X.prog X.w X.K X.mg X.base xP kf g gd o (spF X.K (LI X.prog X.w X.K X.mg X.base (k+1) 1) M))(hr:Room kf X.A)(hm:X.mg x=some (.ref g))(hk:PySem.W.keepIn X.K (.ref g)=true)(hb:Binds X.K gd o [])(h3:o.length=3)(he:PD X e f)(xp:∀y,X.fn y=true)(hg:Gl X x<|>1)(il:(x==lb)=false<|>2)(yu:a5 [e,.Name n1.name t,.Name n2.name m] X.env=(false,dC e X.env)::a5 [.Name n1.name t,.Name n2.name m] X.env<|>1)(U:a5 [.Name n1.name t,.Name n2.name m] X.env=(false,dC (.Name n1.name t) X.env)::a5 [.Name n2.name m] X.env<|>1)(Y:a5 [.Name n2.name m] X.env=(false,dC (.Name n2.name m) X.env)::a5 [] X.env<|>1)(bh:(dq pos (a5 [.Name n1.name t,.Name n2.name m] X.env)).any (·.1)=false<|>1):
  bX X [n1.stmt,n2.stmt,.Return (some (.Call (.Name x p) [e,.Name n1.name t,.Name n2.name m] [] pos)) rpos] (λρ=>((f ((ρ.set n1.i .no).set n2.i .no)).bind λd1=>(eI n1.js ((ρ.set n1.i .no).set n2.i .no)).bind λw1=>(eI n2.js ((ρ.set n1.i .no).set n2.i .no)).bind λw2=>M d1 (n1.mm w1) (n2.mm w2)).bind λd=>.ok (.rt d)):=by
 rintro H9 O0 u s J H D I ⟨O,ρ,E,fk,q⟩;show aEn (AO I hB ju hK (E.tab _ n) a.qn Q fb a.eq h.d0 h.k0 a.ann hN h.nm h.lc h.st λzd H1 s1 I1 sm1 md1=>?_);have E1:EnvOk X.K H9 O0 H1 O (J.set n1.i<|some<|.ref zd) (ρ.set n1.i .no):=(E.grow sm1).put n1.i (λz=>z) trivial;show aEn (AO I1 hB ju hK (E1.tab _ n) C.qn ml T C.eq l.d0 l.k0 C.ann hN l.nm l.lc l.st λB H2 s2 I2 yc md2=>?_);have L:EnvOk X.K H9 O0 H2 O ((J.set n1.i<|some<|.ref zd).set n2.i (some<|.ref B)) ((ρ.set n1.i .no).set n2.i .no):=(E1.grow yc).put n2.i (λz=>z) trivial;have l1:n1.i<J.length:=by rw[I.len];show(aAn.mp h.nm).1
 have l2:n2.i<J.length:=by rw[I.len];show(aAn.mp l.nm).1
 show nT (NU<|US h l a C hA FF hr hm hk hb h3 he xp hg il yu U Y bh) u s2 _ H2 D I2 {H9,O0,O,_,zd,B,L,?_,?_,md1.same yc,md2,?_}
 .rw[aCP (aCp ag),aBf l1]
 .nofun
 revert q;dsimp only;generalize((f<|(ρ.set n1.i .no).set n2.i .no).bind λd1=>(eI n1.js<|(ρ.set n1.i .no).set n2.i .no).bind λw1=>(eI n2.js<|(ρ.set n1.i .no).set n2.i .no).bind λw2=>M d1 (n1.mm w1) (n2.mm w2))=rr;intro q;cases rr with
 |ok d=>showλv H' s r=>q v H' (L.same.trans s) (r.sub L.sub)
 |ex z=>showλH' s=>q H' (L.same.trans s)
 |bad=>show q
end
def pG(K:km):Sp:=λe H Q _=>∃(a:bb) (d:List Int),e=[.ref a]/\aF K H a (d.map V.int)/\d.length<=63/\(∀x∈d,aBe x<=1048576)/\Tb H/\(∀b Y,H b≠some (.lst Y))/\∀f,Q (.bl true) f
def JJ{P:bo}{w:cq}{K:km}{mg mb:fD}{k:Nat}{fa a:bb}{fd:eO}{f:a9}{vs:List av}{ns:List Int}
  (KX:K.In f.heap) (yr:f.heap.Ns bt mg) (t:f.heap.Ns builtinsNs mb) (hbb:∀x:Str,x≠ "__name__"->mb x=dm x) (N:f.heap.NoLimit) (hB:iO mg f.heap) (hg:f.gens=#[])
  (O:f.heap.get? a=some {cls:=.type "list",data:=.seq vs.toArray}) (hi:IntsAre vs ns) (hl:ns.length<=63) (wg:∀x∈ns,aBe x<=1048576) (hr:Room k callerA)
  (hT:∀p∈Tabs.tbs,f.heap.get? p.1=some (PySem.W.tabObj #[])/\isCodeTable f.heap p.1) (hTd:(Tabs.tbs.map (·.1)).Nodup) (hKn:PySem.W.noTabs K=true)
  (F:∀base:cy,K.In base->base.Ns bt mg->iO mg base->FnOk P w K mg base xP k fa fd ["script"] (pG K)) (we:∀(s:a9) (u:av),BindsTo s fd {[u],[]} [("script",u)]):
  gi (be P w) callerA (.call (.ref fa) {[.ref a],[]}) (λr s'=>r=.ok (.ret (.bool true))/\OldK f.heap s'.heap/\s'.os=f.os/\AllBare s'.gens) f:=by
 have rv:=L2.U7 hi;have Q:=hi.length;have jb:ns.length<=sizeLine:=aAk hl (by symm);have J:∀b l,Tabs.tbs.lookup b=some l->f.heap.get? b=some (PySem.W.tabObj #[])/\isCodeTable f.heap b:=λb l e=>hT (b,l) (mem_lookup e);have nta:Tabs.tbs.lookup a=none:=by
  cases e:Tabs.tbs.lookup a with
  |none=>rfl
  |some l=>have:=(J a l e).1;rw[O]at this;cases this
 have noK:∀b o,K.lookup b=some o->Tabs.tbs.lookup b=none:=λb o e=>by
  cases z:Tabs.tbs.lookup b with
  |none=>rfl
  |some l=>have T:=KX b o e;rw[(J b l z).1]at T;cases T;have y:=aBt.mp hKn (b,_) (PySem.W.mem_of_lookupK e);show kb (show false=true from y) aBB
 let put:Hp->Hp:=λH b=>match Tabs.tbs.lookup b with
  |some l=>some (.tbl l)
  |none=>H b
 have kA:∀(H:Hp) b l,Tabs.tbs.lookup b=some l->put H b=some (.tbl l):=λH b l e=>by change(match Tabs.tbs.lookup b with|some l=>some (HO.tbl l)|none=>H b)=_;rw[e]
 have I:∀(H:Hp) b,Tabs.tbs.lookup b=none->put H b=H b:=λH b e=>by change(match Tabs.tbs.lookup b with|some l=>some (HO.tbl l)|none=>H b)=_;rw[e]
 have B:∀g:Hp,(∀b,g b=none\/∃Y,g b=some (.frz {cls:=.type "list",data:=.seq vs.toArray} (.lst Y)))->aF K (put g) a (ns.map V.int)->(∀b u,g b=some u->ObjOk P w (put g) f.heap b u)->(∀b,g b≠none->b=a)->(g a≠none->K.lookup a=none)->
   gi (be P w) callerA (.call (.ref fa) {[.ref a],[]}) (λr s'=>r=.ok (.ret (.bool true))/\OldK f.heap s'.heap/\s'.os=f.os/\AllBare s'.gens) f:=by
  intro g hO hS U hA hK;have hok:fQ P w (put g) f.heap:=λb u e=>by
   cases z:Tabs.tbs.lookup b with
   |none=>rw[I _ b z]at e;show U b u e
   |some l=>rw[kA _ b l z]at e;cases e;show{#[],(J b l z).1,trivial,λp _=>.inl rfl}
  have me:∀{b:bb}{o:Obj},f.heap.get? b=some o->put g b=none->(rM f.heap<|put g).get? b=some o:=λe n=>LU e n;have none_of:∀{b:bb}{o:Obj},f.heap.get? b=some o->o≠PySem.W.tabObj #[]->o≠{cls:=.type "list",data:=.seq vs.toArray}->put g b=none:=λ{b o} e n1 n2=>by
   cases z:Tabs.tbs.lookup b with
   |some l=>have:=(J b l z).1;rw[e]at this;show kb (aAq this) n1
   |none=>
    rw[I _ b z];cases q:g b with
    |none=>rfl
    |some u=>have e':b=a:=hA b (by rw[q];simp);subst e';rw[O]at e;show kb (aAq e).symm n2
  have A:∀{b:bb}{m:fD},f.heap.Ns b m->(rM f.heap<|put g).Ns b m:=λ{b m} ⟨o,es,ep,e,d,r⟩=>{o,es,ep,me e (none_of e (λz=>by rw[z]at d;cases d) λz=>by rw[z]at d;cases d),d,r};have hKb:K.In (rM f.heap<|put g):=λb o e=>me (KX b o e) (by
   rw[I _ b (noK b o e)];cases q:g b with
   |none=>rfl
   |some u=>have e':b=a:=hA b (by rw[q];simp);subst e';rw[hK (by rw[q];simp)]at e;cases e)
  have hBb:iO mg (rM f.heap<|put g):=by let{bm,ob,b1,b2,b3,b4,b5,b6}:=hB;show{bm,ob,b1,b2,me b3 (none_of b3 (λz=>by rw[z]at b6;cases b6) λz=>by rw[z]at b6;cases b6),b4,b5,b6}
  have hM:Mod K mg (rM f.heap<|put g):={hKb,A yr,{mb,A t,hbb},let⟨mc,C,y⟩:=N;{mc,A C,y}};have e0:Env0 P w K mg (rM f.heap<|put g) callerA [] f (put g):={rfl,hM,λb o e=>UY e,aEN (IA _ _),trivial,λb t=>kb (show b∈([]:List bb)from t) (by simp),hok,.of_eq hg};have nl0:∀b Y,put g b≠some (.lst Y):=λb Y e=>by
   cases z:Tabs.tbs.lookup b with
   |some l=>rw[kA _ b l z]at e;cases e
   |none=>
    rw[I _ b z]at e;rcases hO b with n|⟨ys,n⟩
    .rw[n]at e;cases e
    rw[n]at e;cases e
  have tb0:Tb (put g):=λp hp=>kA _ p.1 p.2 (bQ hTd hp);show aDM ((F _ hKb (A yr) hBb).run callerA [] f (put g) {[.ref a],[]} [.ref a] [.ref a] (λv _=>v=.bl true) (λ_ _ _=>False) hr e0 (we f<|.ref a) (.cons rfl .nil) {a,ns,rfl,hS,hl,wg,tb0,nl0,λ_=>rfl}) λr s' h=>?_;cases r with
  |error e=>show(show False from h).elim
  |ok fl=>
   cases fl with
   |next=>show aAA h
   |brk=>show aAA h
   |cont=>show aAA h
   |ret u=>
    let{v,H',os,bare,un,yv,r',q}:=h;have q':v=.bl true:=q;subst q';obtain rfl:u=aDK true:=r';have E:∀b o,f.heap.get? b=some o->s'.heap.get? b=some o\/(isCodeTable f.heap b/\o=PySem.W.tabObj #[]/\∃L,s'.heap.get? b=some (PySem.W.tabObj L)):=λb o e=>by
     cases z:Tabs.tbs.lookup b with
     |some l=>have:=(J b l z).1;rw[e]at this;let{L,hps,_}:=yv b _ (un.tbls b l<|kA _ b l z);show .inr {(J b l z).2,aAq this,L,hps}
     |none=>
      show .inl ?_;rcases hO b with n|⟨Y,n⟩
      .show un.keep b o e (by rw[I _ b z];show n) (by intro z;show kb (show b∈([]:List bb)from z) (by simp)) (by simp)
      have z1:put g b=some (.frz {cls:=.type "list",data:=.seq vs.toArray} (.lst Y)):=by rw[I _ b z];show n
      have z2:=un.frzs b _ _ z1;let{T,_}:=hok b _ z1;let{e2,_}:=yv b _ z2;rw[e]at T;cases T;show e2
    show{rfl,{λb o e=>?_,λb o e=>?_},os,bare}
    .rcases E b o e with h|⟨C,y,L,h3⟩
     .show .inl h
     subst y;show .inr (.inl {C,rfl,#[],L,rfl,by rw[Array.empty_append];show h3})
    rcases E b o e with h|⟨C,y,L,h3⟩
    .show{o,h}
    show{_,h3}
 cases hk:K.lookup a with
 |some o=>have e:=KX a o hk;rw[O]at e;cases e;show B (λ_=>none) (λ_=>.inl rfl) (.inr {_,vs.toArray,_,hk,rfl,rfl,rfl,by rw[aAD,Q];show jb,by simpa using rv}) (λb u z=>by have z':(none:Option HO)=some u:=z;cases z') (λb z=>kb rfl z) λz=>kb rfl z
 |none=>
  obtain⟨g,C,y⟩:∃g:Hp,g a=some (.frz {cls:=.type "list",data:=.seq vs.toArray} (.lst (ns.map V.int)))/\∀b,b≠a->g b=none:={λb=>if b=a then _ else none,jk rfl,λb t=>jl t};show B g (λb=>?_) (.inl (.inr {{cls:=.type "list",data:=.seq vs.toArray},(I g a nta).trans C})) (λb u z=>?_) (λb z=>?_) λ_=>hk
  .by_cases t:b=a
   .subst t;show .inr {_,C}
   show .inl (y b t)
  .by_cases t:b=a
   .subst t;rw[C]at z;cases z;show{O,by rw[aAh];show jb,vs,_,rv,O}
   rw[y b t]at z;cases z
  by_cases t:b=a
  .show t
  show kb (y b t) z
def UV{l:PySem.W.OpenLaw}{k:Nat}{q:bo}{e:List Str}{H:(Str->Option av)->cy->Prop}{B:cq->cy->Prop}{d:DefRec}{K:Params->km}{C:List bb}
  (I:l.most=some 63) (t:d.params.defaults=[]) (J:Room k callerA)
  (L:∀(w:cq) (h:cy),B w h->(K w.params).In h/\∀P∈C,h.get? P=some (PySem.W.tabObj #[]))
  (v:∀p∈Tabs.tbs,p.1∈C/\∃c,∀w:cq,PySem.W.codeHdIn (K w.params) c p.1=true) (x:(Tabs.tbs.map (·.1)).Nodup) (y:∀w:cq,PySem.W.noTabs (K w.params)=true)
  (F:∀(w:cq) (mg:fD) (fa:bb) (h:cy),(K w.params).In h->h.Ns bt mg->mg d.name=some (.ref fa)->
   ∃z:eO,(∀(s:a9) (u:av),BindsTo s z {[u],[]} [("script",u)])/\
    ∀base:cy,(K w.params).In base->base.Ns bt mg->iO mg base->FnOk l.prog w (K w.params) mg base xP k fa z ["script"] (pG (K w.params))):
  PySem.W.WalkO q e H B l.row.toRowW d [] (λf vs=>PySem.call f vs):=by
 show Att2.attach_bits I t λw s9 ae mg mb fa o pm cd N a vs ns G Y ho hd fm O n m r Q U=>?_;let{A,hT}:=L w _ Y;let{z,hb,hF}:=F w mg fa _ A G.T.g O;show JJ A G.T.g G.T.b G.T.builtins G.T.nolimit G.T.bmain U n m r Q J (λp hp=>?_) x (y w) hF hb;let{h1,c,h2}:=v p hp;have E:=hT p.1 h1;show{E,((PySem.W.codeHd_of_K A<|h2 w).tab E).isCodeTable}
section
def a0a{Y es:List cv}{p:Pos}{env:Env}:a5 (.List Y p::es) env=(false,dC (.List Y p) env)::a5 es env:=rfl
def pz{Y:List cv}{p:Pos}{t:Option cv}{l:Nat}{env:Env}:fg (Expr.List Y p) t l env=pure false:=rfl
end
end
end DL
namespace DL
open PySem L2
def L7(G:D->Ev->R Ev)(F:Ev->R Out)(d:D)(ρ:Ev):R Out:=match G d ρ with
 |.ok a=>F a
 |_=>.bad
@[simp]def X3(i:Nat)(F:Ev->R Out)(d:D)(ρ:Ev):L7 (λd ρ=>.ok (ρ.set i (Sl.v d))) F d ρ=F (ρ.set i (.v d)):=rfl
theorem tM(Iv:Ev->Prop):∀{ds:List D}{ρ:Ev},(∀d∈ds,∀ρ,Iv ρ->∃ρ2,L7 G F d ρ=.ok (.nx ρ2)/\Iv ρ2)->Iv ρ->∃ρ',M0 G F ds ρ=.ok (.nx ρ')/\Iv ρ':=by
 intro f ρ b h;cases f with
 |nil=>show{ρ,rfl,h}
 |cons d ds=>
  let{ρ2,e,g}:=b d aBA ρ h;let{ρ',k,l}:=tM Iv (ds:=ds) (ρ:=ρ2) (λd m=>b d (aAe _ m)) g;unfold L7 at e;cases a:G d ρ with
  |ok n=>rw[a]at e;show{ρ',by rw[M0,a];dsimp only at e⊢;rw[e];show k,l}
  |ex x=>rw[a]at e;cases e
  |bad=>rw[a]at e;cases e
@[simp]def sk(G:D->Ev->R Ev)(F:Ev->R Out)(ρ:Ev):M0 G F [] ρ=.ok (.nx ρ):=rfl
def LS{d:Type}{a b:d}:(R.ok a=R.ok b)=(a=b):=by simp
class Bd (a:Int)(n:outParam Nat):Prop where
 h:bits a<=n
def l8(h:bits a<=m)(b:m<=n):bits a<=n:=aAk h b
section
end
abbrev vd(v:G.V):D:=.tup [.int v.x,.int v.y,.int v.z]
def Sz(n:Nat)(v:G.V):Prop:=bits v.x<=n/\bits v.y<=n/\bits v.z<=n
def Sz.mono(h:Sz m v)(a:m<=n<|>2):Sz n v:={l8 h.1 a,l8 h.2.1 a,l8 h.2.2 a}
def Sz.sub(h:Sz n u)(h':Sz n v):Sz (n+1) (u-v):={bits_sub h.1 h'.1,bits_sub h.2.1 h'.2.1,bits_sub h.2.2 h'.2.2}
def Sz.add(h:Sz n u)(h':Sz n v):Sz (n+1) (u+v):={bits_add h.1 h'.1,bits_add h.2.1 h'.2.1,bits_add h.2.2 h'.2.2}
def Sz.cr(h:Sz m u)(h':Sz n v):Sz (m+n+1) (G.cr u v):={bits_sub (bits_mul h.2.1 h'.2.2) (bits_mul h.2.2 h'.2.1),bits_sub (bits_mul h.2.2 h'.1) (bits_mul h.1 h'.2.2),bits_sub (bits_mul h.1 h'.2.1) (bits_mul h.2.1 h'.1)}
end DL
namespace M
open PySem L2 DL
abbrev pt(a b c:Int):D:=.tup [.int a,.int b,.int c]
abbrev XF(n:Nat)(a b c:Int):Prop:=bits a<=n/\bits b<=n/\bits c<=n
def LH(k:List D->List D->R D):List D->R D
 |.lst Y::a=>k Y a
 |_=>.bad
def SF(k:List D->List D->R D):List D->R D
 |.tup Y::a=>k Y a
 |_=>.bad
def xI(k:Int->List D->R D):List D->R D
 |.int a::b=>k a b
 |_=>.bad
def Y7{k:Int->List D->R D}{ds:List D}{r:D}(h:xI k ds=.ok r):∃a e,ds=.int a::e/\k a e=.ok r:=by
 unfold xI at h;split at h
 .show{_,_,rfl,h}
 cases h
def nP(q:R D):List D->R D
 |[]=>q
 |_=>.bad
def a2o{e:Type}{d:List e}(h:d.length=3):∃a b c,d=[a,b,c]:=by
 match d,h with
 |[a,b,c],_=>show{a,b,c,rfl}
def oU{k:List D->R D}{ds:List D}{d:D}(h:(match ds with|[.lst Y]=>k Y|_=>.bad)=.ok d):∃Y,ds=[.lst Y]/\k Y=.ok d:=by
 split at h
 .show{_,rfl,h}
 cases h
def qI(h:LH k ds=.ok r):∃Y e,ds=.lst Y::e/\k Y e=.ok r:=by
 unfold LH at h;split at h
 .show{_,_,rfl,h}
 cases h
def vM(h:SF k ds=.ok r):∃Y e,ds=.tup Y::e/\k Y e=.ok r:=by
 unfold SF at h;split at h
 .show{_,_,rfl,h}
 cases h
def A8(h:nP q ds=.ok r):ds=[]/\q=.ok r:=by
 unfold nP at h;split at h
 .show{rfl,h}
 cases h
def v1(k:Int->Int->Int->List D->R D):List D->R D:=SF λY e=>xI (λa=>xI λb=>xI λc=>nP (k a b c e)) Y
def v4(k:Int->Int->Int->Int->List D->R D):List D->R D:=SF λY e=>xI (λa=>xI λb=>xI λc=>xI λd=>nP (k a b c d e)) Y
def v3(k:Int->Int->Int->List D->R D):List D->R D:=SF λY e=>xI (λa=>xI λb=>xI λc _=>k a b c e) Y
def YA(h:v3 k ds=.ok r):∃a b c t e,ds=.tup (.int a::.int b::.int c::t)::e/\k a b c e=.ok r:=by let{Y,e,rfl,h}:=vM h;let{a,x,rfl,h}:=Y7 h;let{b,y,rfl,h}:=Y7 h;let{c,z,rfl,h}:=Y7 h;show{a,b,c,z,e,rfl,h}
def B7(h:v1 k ds=.ok r):∃a b c e,ds=.tup [.int a,.int b,.int c]::e/\k a b c e=.ok r:=by let{Y,e,rfl,h}:=vM h;let{a,x,rfl,h}:=Y7 h;let{b,y,rfl,h}:=Y7 h;let{c,z,rfl,h}:=Y7 h;let{rfl,h}:=A8 h;show{a,b,c,e,rfl,h}
def RD(h:v4 k ds=.ok r):∃a b c d e,ds=.tup [.int a,.int b,.int c,.int d]::e/\k a b c d e=.ok r:=by let{Y,e,rfl,h}:=vM h;let{a,x,rfl,h}:=Y7 h;let{b,y,rfl,h}:=Y7 h;let{c,z,rfl,h}:=Y7 h;let{d,w,rfl,h}:=Y7 h;let{rfl,h}:=A8 h;show{a,b,c,d,e,rfl,h}
def l4:List D->R D:=v1 λa b c=>v1 λd e f=>nP (.ok (pt (d-a) (e-b)<|f-c))
def u5:List D->R D:=v1 λa b c=>v1 λd e f=>nP (if XF 20000000 a b c/\XF 20000000 d e f then .ok (pt (b*f-c*e) (c*d-a*f)<|a*e-b*d)else .bad)
def i8:List D->R D:=v3 λa b c=>v1 λd e f=>nP (if XF 50000000 a b c/\XF 50000000 d e f then .ok (.int (a*d+b*e+c*f))else .bad)
@[simp]def DT(P Q:G.V):l4 [vd P,vd Q]=.ok (vd (Q-P)):=rfl
def X1(a:Sz 20000000 u)(b:Sz 20000000 v):u5 [vd u,vd v]=.ok (vd (G.cr u v)):=jk {a,b}
def bE(a:Sz 50000000 u)(b:Sz 50000000 v):i8 [vd u,vd v]=.ok (.int (G.c6 u v)):=jk {a,b}
def FZ(P Q R S:G.V):Int:=G.c6 (G.cr (Q-P)<|R-P) (S-P)
def rule(k:Int):Int:=7*k*k+10*k+3
def P64:Int:=10^64
def P34:Int:=10^34
def a4u:Int:=P64*P34
def sgn(x:Int):Int:=if 0<x then 1 else if x<0 then-1 else 0
def aG:List D->R D:=v4 λa b c d=>v1 λx y z=>nP (if XF 50000000 a b c/\XF 50000000 x y z then .ok (.int (sgn<|a*x+b*y+c*z-d))else .bad)
def UX(e:XF 50000000 a b c)(f:XF 50000000 x y z):aG [.tup [.int a,.int b,.int c,.int d],pt x y z]=.ok (.int (sgn (a*x+b*y+c*z-d))):=jk {e,f}
def YB(i:Nat)(ρ:Ev):Nat:=match ρ[i]? with
 |some (.v (.int b))=>b.natAbs+2
 |_=>0
def yE(d:bits a<=n)(f:bits b<=n):bits (aGp a b)<=n:=by
 show GU ?_;have g:=EX f;have e:((aGp a b:Nat):Int).natAbs=aGp a b:=by simp
 rcases Nat.eq_zero_or_pos a.natAbs with z|z
 .nofun
 show aBT (Nat.gcd_le_left _ z) (EX d)
end M
namespace DL
open PySem PySem.Spec L2
open PyProof.Rows hiding St
theorem U7:∀{ns:List Int}{a:List av},m9 (ns.map V.int) a->IntsAre a ns:=by
 intro d _ b;cases d with
 |nil=>
  cases b with
  |nil=>show .nil
 |cons n ns=>
  cases b with
  |cons r t=>let{e,rfl}:=r;show .cons n e (U7 t)
section
def fT:List D->Option (List Int)
 |[]=>some []
 |.int i::r=>(fT r).map (i::·)
 |_=>none
theorem jZ:∀{ds:List D}{ns:List Int},fT ds=some ns->ds=ns.map D.int
 |[],ns,h=>by cases h;rfl
 |.int i::r,ns,h=>by erw[fT,aCE]at h;let{m,a,rfl}:=h;rw[jZ a];rfl
 |.non::_,_,h=>by cases h
 |.bl _::_,_,h=>by cases h
 |.str _::_,_,h=>by cases h
 |.tup _::_,_,h=>by cases h
 |.lst _::_,_,h=>by cases h
 |.dct _::_,_,h=>by cases h
theorem qW:∀ns:List Int,fT (ns.map D.int)=some ns:=by
 intro a;cases a with
 |nil=>rfl
 |cons n ns=>simp[fT,qW ns]
def uO{K:km}{H:Hp}{O:bb->Prop}:∀{vs:List V}{ns:List Int},Reps K H O vs (ns.map D.int)->vs=ns.map V.int:=by
 intro vs ns h;induction ns generalizing vs with
 |nil=>cases h;rfl
 |cons n ns a=>cases h with
  |cons h t=>cases h;rw[a t];rfl
variable [Tabs]in
end
theorem uW(Iv:List D->Ev->Prop)(b:∀d ds ρ,Iv (d::ds) ρ->∃ρ2,L7 G F d ρ=.ok (.nx ρ2)/\Iv ds ρ2):∀{ds:List D}{ρ:Ev},Iv ds ρ->∃ρ',M0 G F ds ρ=.ok (.nx ρ')/\Iv [] ρ':=by
 intro f ρ h;cases f with
 |nil=>show{ρ,rfl,h}
 |cons d ds=>
  let{ρ2,e,g}:=b d ds ρ h;let{ρ',k,l}:=uW Iv b g;unfold L7 at e;cases a:G d ρ with
  |ok m=>rw[a]at e;show{ρ',by rw[M0,a];dsimp only at e⊢;rw[e];show k,l}
  |ex x=>rw[a]at e;cases e
  |bad=>rw[a]at e;cases e
def dS(Iv:List D->Ev->Prop)(a:∀d ds ρ,Iv (d::ds) ρ->∃ρ2,L7 G F d ρ=.ok (.nx ρ2)/\Iv ds ρ2)(h0:Iv ds ρ)(b:∀ρ',Iv [] ρ'->J9 (f ρ')=.ok d):
  J9 (B0 (M0 G F ds ρ) f)=.ok d:=by
 let{ρ',e,h}:=uW Iv a h0;rw[e];show b ρ' h
def qQ{Post:Ev->Prop}(Iv:Nat->Ev->Prop)(b:∀n ρ,Iv (n+1) ρ->c ρ=.ok false\/(c ρ=.ok true/\∃ρ2,F ρ=.ok (.nx ρ2)/\Iv n ρ2))(a:∀ρ,¬Iv 0 ρ)(h0:Iv n ρ)(d:∀m ρ',Iv m ρ'->c ρ'=.ok false->Post ρ'):∃ρ2,S4 c F n ρ=.ok (.nx ρ2)/\Post ρ2:=by let{m,ρ',e,h,f}:=gZ Iv b a n ρ h0;show{ρ',e,d m ρ' h f}
end DL
namespace M
open PySem L2 DL
abbrev sJ(n:G.V)(d:Int):D:=.tup [.int n.x,.int n.y,.int n.z,.int d]
def F5:List D->R D:=v1 λa b c=>nP (.ok (.int (G.t7 {a,b,c})))
def CZ(v:G.V):F5 [vd v]=.ok (.int (G.t7 v)):=rfl
def Sz3(P Q R:G.V):Prop:=Sz 1000 P/\Sz 1000 Q/\Sz 1000 R
open Classical in
def R5:List D->R D:=v1 λa b c=>v1 λd e f=>v1 λg h i=>nP (
 if Sz3 {a,b,c} {d,e,f} {g,h,i}/\G.cr (({d,e,f}:G.V)-{a,b,c}) (({g,h,i}:G.V)-{a,b,c})≠0 then .ok (sJ (G.c9 {a,b,c} {d,e,f} {g,h,i}).1 (G.c9 {a,b,c} {d,e,f} {g,h,i}).2)else .bad)
def MU{P Q R:G.V}(h:Sz3 P Q R)(a:G.cr (Q-P) (R-P)≠0):R5 [vd P,vd Q,vd R]=.ok (sJ (G.c9 P Q R).1 (G.c9 P Q R).2):=jk {h,a}
def uD(h:Sz n v):bits (G.t7 v:Nat)<=n:=by
 have e:((G.t7 v:Nat):Int)=aGp (aGp v.x v.y:Nat) v.z:=by simp[G.t7,aGp]
 show yE (yE h.1 h.2.1) h.2.2
def cT{a g:Int}(h:0<g):a.fdiv g=a/g:=Int.fdiv_eq_ediv_of_nonneg a (aAU h)
end M
namespace DL
open PySem PySem.Spec L2
open PyProof.Rows hiding St
section
variable [Tabs]
mutual
inductive HV(h:Heap):Value->D->Prop
 |int (i:Int) (t:Tok):HV h (.int i t) (.int i)
 |tup {a:Addr}{items:Array Value}{ds:List D} (p:IsTup h a items) (r:HVs h items.toList ds):HV h (.ref a) (.tup ds)
inductive HVs(h:Heap):List Value->List D->Prop
 |nil:HVs h [] []
 |cons {v:Value}{d:D}{vs:List Value}{ds:List D} (r:HV h v d) (t:HVs h vs ds):HVs h (v::vs) (d::ds)
end
mutual
def mX:D->Bool
 |.int _=>true
 |.tup Y=>cH Y
 |_=>false
def cH:List D->Bool
 |[]=>true
 |x::Y=>mX x&&cH Y
end
theorem gI:∀Y:List D,vO Y=Y.map n9:=by
 intro a;cases a with
 |nil=>rfl
 |cons x Y=>rw[vO,gI Y];rfl
section
mutual
theorem HV.keeps(k:∀b o,h.get? b=some o->o.cls=.type "tuple"->h'.get? b=some o):∀{v:av}{d:D},HV h v d->HV h' v d
 |_,_,.int i t=>.int i t
 |_,_,.tup p r=>.tup (by let{o,e,c,n,d}:=p;show{o,k _ _ e c,c,n,d}) (HVs.keeps k r)
theorem HVs.keeps(k:∀b o,h.get? b=some o->o.cls=.type "tuple"->h'.get? b=some o):∀{v:List av}{d:List D},HVs h v d->HVs h' v d
 |_,_,.nil=>.nil
 |_,_,.cons r t=>.cons (HV.keeps k r) (HVs.keeps k t)
end
mutual
theorem HV.inj:∀{v:av}{d d':D},HV h v d->HV h v d'->d=d':=by
 intro _ _ _ g a;cases g with
 |int i t=>
  cases a with
  |int=>rfl
 |tup p r=>
  cases a with
  |tup k l=>let{o,e,c,n,m}:=p;let{s,b,u,w,f}:=k;rw[e]at b;cases b;rw[m]at f;injection f with q _;subst q;rw[HVs.inj r l]
theorem HVs.inj:∀{v:List av}{d d':List D},HVs h v d->HVs h v d'->d=d'
 |_,_,_,.nil,.nil=>rfl
 |_,_,_,.cons r t,.cons a b=>by rw[HV.inj r a,HVs.inj t b]
end
theorem HVs.length:∀{v:List av}{d:List D},HVs h v d->v.length=d.length:=by
 intro _ _ a;cases a with
 |nil=>rfl
 |cons _ t=>simp[HVs.length t]
end
section
variable{prog:bo}{w:cq}
def PH(prog:bo)(w:cq)(h:cy)(v:av)(d:D):Prop:=∀(A:cp) (E:B4) (s:a9) (Q:Int->a9->Prop),s.heap=h->A.units+8*A5 d<dA->(∀a,s.toks<=a->Q (n9 d) {s with toks:=a})->bc (be prog w) A (pyHash v) Q E s
mutual
theorem WY:∀{v:av}{d:D},HV h v d->PH prog w h v d
 |_,_,.int i t=>λA E s Q I J q=>by show(intKind prog w).pyHash (k:=i) (intKind_is _ _ _ _) (q _<|Nat.le_succ _)
 |_,_,.tup (a:=a) (items:=items) (ds:=ds) p r=>λA E s Q I J q=>by
  have fs:=MR r;subst I;let{o,L,O,n,T}:=p;have u:s.TypeIs (.ref a) "tuple":={o,L,O};have U:A.units<dA:=by lia
  rw[A5]at J;unfold pyHash;first|unfold pyHashByItsType|skip
  first|show aAa (wpAny_cRoomFor_or (.inr U) ?_)|skip
  show aAa (aBs u PySem.F.slot_tuple_hash.lookup ?_);change bc _ _ (if(some (Value.builtin "tuple.__hash__")==some Value.none)=true then _ else _) Q E s;rw[jl (by rw[beq_builtin_none];show aBB)];show aAa (aBs u PySem.F.slot_tuple_hash.lookup ?_);change bc _ _ (callSpecialIfBoundUnlessNone? (.ref a) "__hash__" _>>=_) Q E s;show aAa (aDj u PySem.F.slot_tuple_hash<|aBc PySem.F.slot_tuple_hash u PySem.F.entry_tuple_hash ?_ (PySem.F.args_tuple_hash_1 _));change bc _ _ (aDx (.ref a)>>=_) _ _ s;show aAa (wpAny_tupleItemsOf L T ?_);show aAa ?_;rw[<-aCl];show aCo _
   (λrest (b:Array Int) C=>∃done left g,ds=done++left/\Paired (PH prog w s.heap) rest left/\b.toList=done.map n9/\s.toks<=g/\C={s with toks:=g})
   _ ?_ ?_ _ _ {[],ds,s.toks,rfl,fs,rfl,aAj _,rfl}
  .rintro x rest b C ⟨done,left,g,l,H,y,Y,rfl⟩;cases H with
   |@cons _ d _ e h1 N=>
    show aAa (h1 _ _ _ _ rfl ?_ λz f=>?_)
    .have:A5 d<=w9 ds:=by rw[l];show nQ (j:=done.length) (by simp)
     rw[t8];lia
    first
     |show aAb ⟨done++[d],e,z,by simp[l],N,by simp[y],by(have:g<=z:=f);lia,rfl⟩
     |show aAa (aAb (aAb ⟨done++[d],e,z,by simp[l],N,by simp[y],by(have:g<=z:=f;lia),rfl⟩))
  rintro b C ⟨done,left,g,l,H,y,Y,rfl⟩;cases H;rw[aBW]at l;subst l;change bc _ _ (retInt<|aAI b.toList) _ _ _;rw[y];show wpAny_ret_mkInt ?_;change bc _ _ (if(decide (-(2:Int)^63<=aAI (ds.map n9))&&decide (aAI (ds.map n9)<2^63))=true then _ else _) Q E _;have m:=q (g+1) (by lia);rw[n9,gI]at m;unfold reduceHash at m;by_cases B:(decide (-(2:Int)^63<=aAI (ds.map n9))&&decide (aAI (ds.map n9)<2^63))=true
  .rw[jk B];rw[jk B]at m;show aAb m
  rw[jl B];rw[jl B]at m;show aAa (aDu<|aAb m)
theorem MR:∀{v:List av}{d:List D},HVs h v d->Paired (PH prog w h) v d
 |_,_,.nil=>.nil
 |_,_,.cons r t=>.cons (WY r) (MR t)
end
mutual
theorem GN:∀{v u:av}{d e:D}{A:cp},HV s.heap v d->HV s.heap u e->A.units+A5 d<dA->SeqAt.EqAt A s v u (v6 d e):=by
 intro _ _ _ _ A h f k;cases h with
 |int i t=>
  cases f with
  |int j l=>erw[v6];show aEQ _ _ _ _
  |tup p r=>erw[v6];show aFH _ _ p (by lia)
 |@tup a _ n p r=>
  cases f with
  |int j l=>erw[v6];show aFI _ _ p (by lia)
  |@tup m _ o g b=>
   by_cases e:a=m
   .subst e;have:=HV.inj (.tup p r) (.tup g b);rw[this,L9];show aDY _
   erw[v6];rw[A5]at k;show aER e (kL (by exists p) (by exists g) r.length b.length (by lia) (OD r b (by rw[t8];lia))).1
theorem OD:∀{vs d:List av}{ds es:List D}{A:cp},HVs s.heap vs ds->HVs s.heap d es->A.in1.units+w9 ds<dA->nR A s vs d ds es:=by
 intro _ _ _ _ A e f g j u w a b;cases e with
 |nil=>simp at a
 |cons r t=>
  cases f with
  |nil=>simp at b
  |cons h k=>
   rw[w9]at g;cases j with
   |zero=>erw[aCV,aGd]at a b;subst a b;show GN r h (by lia)
   |succ j=>erw[aCq]at a b;show OD t k (by lia) j u w a b
end
mutual
theorem fI:∀{d e:D},mX d=true->mX e=true->v6 d e=true->d=e
 |.int i,.int j,_,_,h=>by simp[v6]at h;rw[h]
 |.tup Y,.tup f,a,b,h=>by rw[mX]at a b;rw[v6]at h;rw[zN a b h]
 |.int _,.tup _,_,_,h=>by simp[v6]at h
 |.tup _,.int _,_,_,h=>by simp[v6]at h
 |.non,_,h,_,_=>by simp[mX]at h
 |.bl _,_,h,_,_=>by simp[mX]at h
 |.str _,_,h,_,_=>by simp[mX]at h
 |.lst _,_,h,_,_=>by simp[mX]at h
 |_,.non,_,h,_=>by simp[mX]at h
 |_,.bl _,_,h,_=>by simp[mX]at h
 |_,.str _,_,h,_=>by simp[mX]at h
 |_,.lst _,_,h,_=>by simp[mX]at h
theorem zN:∀{d e:List D},cH d=true->cH e=true->X4 d e=true->d=e
 |[],[],_,_,_=>rfl
 |[],_::_,_,_,h=>by simp[X4]at h
 |_::_,[],_,_,h=>by simp[X4]at h
 |x::Y,y::f,a,b,h=>by rw[cH,aAH]at a b;rw[X4,aAH]at h;rw[fI a.1 b.1 h.1,zN a.2 b.2 h.2]
end
mutual
theorem HV.ok:∀{v:av}{d:D},HV h v d->mX d=true
 |_,_,.int i t=>rfl
 |_,_,.tup p r=>by rw[mX];show HVs.ok r
theorem HVs.ok:∀{v:List av}{d:List D},HVs h v d->cH d=true
 |_,_,.nil=>rfl
 |_,_,.cons r t=>by rw[cH,HV.ok r,HVs.ok t];rfl
end
mutual
theorem iZ:∀{v:av}{d:D} (k:Nat),HV h v d->A5 d<k->∀(M:Model) (A:cp) (E:B4) (s:a9) (Q:BA),s.heap=h->Q true s->bc M A (eqIsQuiet k v) Q E s
 |_,_,k,.int i t,_=>λM A E s Q u q=>by unfold eqIsQuiet;show aAb q
 |_,_,k,.tup (a:=a) (items:=items) (ds:=ds) p r,e=>λM A E s Q u q=>by
  subst u;let{o,x,z,n,B}:=p;have y:s.TypeIs (.ref a) "tuple":={o,x,z};match k,e with
  |k+1,e=>
   rw[A5]at e;unfold eqIsQuiet;show aAa (aBs y PySem.F.slot_tuple_eq.lookup ?_);change bc _ _ (isInstance (.ref a) (.type "tuple")>>=_) _ _ s;show aAa (aDa y isSubtype_tuple_tuple ?_);erw[aDW,aAF,if_false];show aAa (aBO x B ?_);show aAa ?_;change bc _ _ (forIn items _ _) _ _ s;rw[<-aCl];show aCo _ (λrest r b=>r.1=none/\b=s/\∃f,HVs s.heap rest f/\w9 f<k) _ ?_ ?_ _ _ {rfl,rfl,ds,r,by lia}
   .rintro v rest r b ⟨g,rfl,f,l,m⟩;cases l with
    |@cons _ d _ C l H=>rw[w9]at m;show aAa (iZ k l (by lia) M A E b _ rfl ?_);erw[aDW,aAF,if_false];show aAb {rfl,rfl,C,H,by lia}
   rintro⟨I,J⟩ b ⟨g,rfl,_⟩;simp only at g;subst g;show aAb q
end
mutual
theorem gC:∀{v:av}{d:D} (k:Nat),HV h v d->A5 d<k->∀(M:Model) (A:cp) (E:B4) (s:a9) (Q:BA),s.heap=h->Q false s->bc M A (ofAClassStatement k v) Q E s
 |_,_,k,.int i t,_=>λM A E s Q u q=>by unfold ofAClassStatement;show aAb q
 |_,_,k,.tup (a:=a) (items:=items) (ds:=ds) p r,e=>λM A E s Q u q=>by
  subst u;let{o,x,y,n,z}:=p;have B:s.TypeIs (.ref a) "tuple":={o,x,y};match k,e with
  |k+1,e=>
   rw[A5]at e;unfold ofAClassStatement;show aAa (aDL B ?_);dsimp only;rw[jk (by symm)];show aAa (aAb ?_);erw[aDW,aAF,if_false];show aAa (aBO x z ?_);dsimp only;show aAa ?_;change bc _ _ (forIn items _ _) _ _ s;rw[<-aCl];show aCo _ (λrest r b=>r.1=none/\b=s/\∃f,HVs s.heap rest f/\w9 f<k) _ ?_ ?_ _ _ {rfl,rfl,ds,r,by lia}
   .rintro v rest r b ⟨g,rfl,f,l,m⟩;cases l with
    |@cons _ d _ C l H=>rw[w9]at m;show aAa (gC k l (by lia) M A E b _ rfl ?_);erw[aAF,if_false];show aAb {rfl,rfl,C,H,by lia}
   rintro⟨I,J⟩ b ⟨g,rfl,_⟩;simp only at g;subst g;show aAb q
end
mutual
theorem oW:∀{v:av}{d:D} (k:Nat),HV h v d->A5 d<k->∀(M:Model) (A:cp) (E:B4) (s:a9) (Q:BA),s.heap=h->Q true s->bc M A (hashByValue k v) Q E s
 |_,_,k,.int i t,_=>λM A E s Q u q=>by unfold hashByValue;show aAb q
 |_,_,k,.tup (a:=a) (items:=items) (ds:=ds) p r,e=>λM A E s Q u q=>by
  subst u;let{o,x,y,n,z}:=p;have B:s.TypeIs (.ref a) "tuple":={o,x,y};match k,e with
  |k+1,e=>
   rw[A5]at e;unfold hashByValue;show aAa (aBs B PySem.F.slot_tuple_hash.lookup ?_);dsimp only;show aAa (aBO x z ?_);show aAa ?_;change bc _ _ (forIn items _ _) _ _ s;rw[<-aCl];show aCo _ (λrest r b=>r.1=none/\b=s/\∃f,HVs s.heap rest f/\w9 f<k) _ ?_ ?_ _ _ {rfl,rfl,ds,r,by lia}
   .rintro v rest r b ⟨g,rfl,f,l,m⟩;cases l with
    |@cons _ d _ C l H=>rw[w9]at m;show aAa (oW k l (by lia) M A E b _ rfl ?_);erw[aDW,aAF,if_false];show aAb {rfl,rfl,C,H,by lia}
   rintro⟨I,J⟩ b ⟨g,rfl,_⟩;simp only at g;subst g;show aAb q
end
def lK{d:Type}{M:Model}{A:cp}{E:B4}{s:a9}{Q:d->a9->Prop}{c:Prop}[Decidable c]{a b:Sem d}(e:c->bc M A a Q E s)(f:¬c->bc M A b Q E s):bc M A (if c then a else b) Q E s:=by
 by_cases h:c
 .rw[jk h];show e h
 rw[jl h];show f h
def dj{M:Model}{A:cp}{E:B4}{s:a9}{Q:BA}{x:av}{d:D}(m:HV s.heap x d)(n:A5 d<8)(f:List av)(p:∀y∈f,∃e,HV s.heap y e/\A5 e<8)(q:Q false s):bc M A (searchCouldBeSeen x f) Q E s:=by
 unfold searchCouldBeSeen;show aAa (aCo _ (λrest r a=>r.1=none/\a=s/\∀y∈rest,y∈f) _ ?_ ?_ _ _ {rfl,rfl,λy h=>h})
 .rintro y rest r a ⟨g,rfl,k⟩;let{e,o,b}:=p y (k y (by simp));dsimp only;show lK (λ_=>?_) (λ_=>?_)
  .show aAb {rfl,rfl,λz l=>k z (aAe _ l)}
  show aAa (iZ 8 m n M A E a _ rfl ?_);show aAa (iZ 8 o b M A E a _ rfl ?_);show aAa (gC 8 m n M A E a _ rfl ?_);erw[aAF,if_false];show aAa (gC 8 o b M A E a _ rfl ?_);erw[aAF,if_false];show aAb {rfl,rfl,λz l=>k z (aAe _ l)}
 rintro⟨t,u⟩ a ⟨g,rfl,_⟩;simp only at g;subst g;show aAb q
end
def EV(h:cy)(e:Int×av)(d:D):Prop:=HV h e.2 d/\e.1=n9 d
def J6{d β:Type}{F:d->β->Prop}:∀{l:List d}{m:List β}{i:Nat}{a:d},Paired F l m->l[i]?=some a->∃b,m[i]?=some b/\F a b:=by
 intro _ _ i b z h;induction z generalizing i with
 |nil=>cases h
 |cons r _ e=>cases i with
  |zero=>cases h;show{_,rfl,r}
  |succ i=>show e h
def mI{d β:Type}{F:d->β->Prop}:∀{l:List d}{m:List β}{i:Nat}{b:β},Paired F l m->m[i]?=some b->∃a,l[i]?=some a/\F a b:=by
 intro _ _ i b z h;induction z generalizing i with
 |nil=>cases h
 |cons r _ e=>cases i with
  |zero=>cases h;show{_,rfl,r}
  |succ i=>show e h
def qR{a β:Type}{F:a->β->Prop}:∀{l:List a}{m:List β},Paired F l m->l.length=m.length:=by
 intro _ _ z;induction z with
 |nil=>rfl
 |cons _ _ b=>simp[b]
section
variable{es:Array (Int×av)}
def iG(K:ST.SOk t es.toList):t.fits es.size=true:=by
 have a:=K.len;have b:=K.room;have d:=K.tab.nod;unfold aGa SetTable.fill
 nofun
theorem mB(ho:s.heap.get? S=some o)(hd:o.data=.set es ep t)(K:ST.SOk t es.toList)(B:t.mask%2=1)(P:Paired (EV s.heap) es.toList ds)(O:HV s.heap (.ref x) (.tup Y))(C:A5 (.tup Y)<8)(xv:∀e∈ds,A5 e<8)(hT:∀e∈ds,∃H,e=.tup H)
  (hu:A.units+16<dA) (hf:ST.U6 t (n9 (.tup Y)) n0) {Q:SetFound->a9->Prop} (g:D.tup Y∈ds->Q (.there none) s) (b:D.tup Y∉ds->Q (.free (ST.n4 t.mask (n9 (.tup Y)) n0).j false) s):
  ∀(a n:Nat) (T:Option SetTable.Probe),T.getD (t.probeStart (n9 (.tup Y)))=ST.n4 t.mask (n9 (.tup Y)) n->n<=n0->n0-n<a->
   (∀m<n,∀(i:Nat),t.place[i]?=some (ST.n4 t.mask (n9 (.tup Y)) m).j->ds[i]?≠some (.tup Y))->bc (be prog w) A (setSearchFrom S (.ref x) (n9 (.tup Y)) true a T) Q E s
 |0,n,T,_,_,h,_=>by lia
 |a+1,n,T,jm,hn,hfu,I=>by
  unfold setSearchFrom;show aAa (aBZ ho hd (iG K) ?_);dsimp only;show lK (λz=>?_) (λ_=>?_)
  .unfold SetTable.gaveWay at z;simp at z;lia
  rw[jm];let{U,a1,a2,a3,a4}:=ST.NL K.tab (λi=>(es[i]?.map (·.1)).getD 0) (n9<|.tup Y) hf n hn;generalize hg:t.probe _ (n9<|.tup Y) (ST.n4 t.mask (n9<|.tup Y) n)=pm;rcases a4 with⟨en,e⟩|⟨ai,i,u,hh,e⟩
  .have ep:pm=_:=hg.symm.trans e;rw[ep];dsimp only;show aAb (b λJ=>?_);let{i,u}:=aBk.mp J;let{{L,v},he,h1,h2}:=mI P u;let{j,hj,qi}:=ST.TJ K.len he;dsimp only at h2;have hr:=K.reach _ qi;dsimp only at hr;rw[h2]at hr;let{m,J,em}:=ST.Reach.before hf (by rw[<-aAB]at hj;show aAi hj) hr;by_cases z:m<n
   .show I m z i (by rw[em];show hj) u
   let{f,fo,ag}:=a3 m (by lia) (by lia);have:f=i:=by have g:=ST.L3 K.tab fo;have b:=ST.L3 K.tab hj;rw[em]at g;rw[g]at b;injection b
   subst this;show ag ?_;change(es[f]?.map (·.1)).getD 0=_;rw[<-aAB,he];show h2
  have ep:pm=_:=hg.symm.trans e;rw[ep];dsimp only;have N:i<es.size:=by
   have:=(aBY.mp u).1;have h1:=K.len;simp at h1
   lia
  have l:es[i]?=some es[i]:=aAw N;let{di,d,L,q}:=J6 P (show es.toList[i]?=some es[i]by rw[aAB];show l);let{H,rfl}:=hT di (aAi d);have go:bc (be prog w) A (do
    let some (_,y):=es[i]?|unsupported "internal:set-entry"
    let equal<-gn [y] (eqBool y<|.ref x)
    let(es',_,t')<-setState S
    if true&&equal then return .there none
    let some same:=t'.sameMemory t.moves t.mask|unsupported "set.changed-during-lookup:is-the-new-block-at-the-old-address"
    let YD<-match(if same then t'.slot (ST.n4 t.mask (n9<|.tup Y) U).j else .empty)with
     |.live f=>match es'[f]? with
      |some (_,y')=>do pure (if<-isSame y' y then some f else none)
      |none=>pure none
     |_=>pure none
    match YD with
    |none=>rule "set.search.anew";setSearchFrom S (.ref x) (n9<|.tup Y) true a none
    |some f=>if equal then return .there (some f)else setSearchFrom S (.ref x) (n9<|.tup Y) true a (some<|ST.n4 t.mask (n9<|.tup Y)<|U+1)) Q E s:=by
   rw[l];generalize he:es[i]=en at*
   let{hn,y}:=en;dsimp only at L q⊢;show aAa (aAJ (GN L O (by have:=xv _ (aAi d);lia) prog w E _ ?_));show aAa (aBZ ho hd (iG K) ?_);dsimp only;cases hq:v6 (.tup H) (.tup Y)with
   |true=>rw[jk (show(true&&true)=true from rfl)];have:D.tup H=.tup Y:=fI L.ok O.ok hq;rw[this]at d;show aAb (g<|aAi d)
   |false=>
    rw[jl (by simp)];have hsm:t.sameMemory t.moves t.mask=some true:=by unfold SetTable.sameMemory;rw[jk (by simp)]
    rw[hsm];dsimp only;rw[jk rfl,ST.L3 K.tab u];dsimp only;rw[l];dsimp only;cases L with
    |tup p r=>
     show aAa (wpAny_isSame_ref_self ?_);show aAa (aAb ?_);rw[jk rfl];dsimp only;rw[jl (by simp)];show mB ho hd K B P O C xv hT hu hf g b a (U+1) _ rfl (by lia) (by lia) λm J i2 vh hz=>?_;by_cases z:m<n
     .show I m z i2 vh hz
     by_cases z2:m=U
     .subst z2;have:i2=i:=by have g:=ST.L3 K.tab vh;have b:=ST.L3 K.tab u;rw[g]at b;injection b
      subst this;rw[d]at hz;have:D.tup H=.tup Y:=aAq hz;rw[this,L9]at hq;cases hq
     let{f,fo,ag}:=a3 m (by lia) (by lia);have:f=i2:=by have g:=ST.L3 K.tab fo;have b:=ST.L3 K.tab vh;rw[g]at b;injection b
     subst this;let{{h0,v0},he0,hv0,hh0}:=mI P hz;show ag ?_;change(es[f]?.map (·.1)).getD 0=_;rw[<-aAB,he0];show hh0
  show lK (λ_=>?_) (λ_=>go);show aAa (dj O C _ (λy hy=>?_) ?_)
  .let{e',xg,rfl}:=aAo.mp hy;rw[Array.toList_filter]at xg;have J:=(aCh.mp xg).1;let{k,hk}:=aBk.mp J;let{dk,hdk,hvk,_}:=J6 P hk;show{dk,hvk,xv _ (aAi hdk)}
  rw[jl (by simp)];show go
def vW(m n:Nat):Prop:=(m=7/\n<=4)\/(m=31/\n<=18)\/(m=127/\n<=76)
def vW.odd(h:vW m n):m%2=1:=by rcases h with⟨rfl,_⟩|⟨rfl,_⟩|⟨rfl,_⟩<;>rfl
def Keeps(h0 h:cy):Prop:=∀b o,h0.get? b=some o->h.get? b=some o
structure SetAt(L:Bool)(h0 h:Heap)(S:Addr)(ds:List D):Prop where
 ex:∃(o:Obj) (es:Array (Int×Value)) (ep:Nat) (t:SetTable),h.get? S=some o/\o.cls=.type "set"/\o.dict=none/\o.slots=#[]/\o.data=.set es ep t/\ST.SOk t es.toList/\vW t.mask es.size/\Paired (EV h0) es.toList ds/\t.led=L/\t.plain=true
 nd:ds.Nodup
def eG{f β:Type}{F:f->β->Prop}:∀{l b:List f}{m:List β},b.Perm l->Paired F l m->∃a,a.Perm m/\Paired F b a:=λ{l b m} p=>by
 induction p generalizing m with
 |nil=>intro h;show{m,.refl _,h}
 |cons x _ g=>
  intro h;cases h with
  |cons r t=>let{a,k,n}:=g t;show{_::a,k.cons _,.cons r n}
 |swap x y l=>
  intro h;cases h with
  |cons r t=>
   cases t with
   |cons o q=>show{_,.swap _ _ _,.cons o (.cons r q)}
 |trans _ _ d e=>intro h;let{A,s,u}:=e h;let{v,w,z}:=d u;show{v,w.trans s,z}
theorem dQ{d β:Type}{F G:d->β->Prop}(i:∀a b,F a b->G a b):∀{l:List d}{m:List β},Paired F l m->Paired G l m
 |_,_,.nil=>.nil
 |_,_,.cons r t=>.cons (i _ _ r) (dQ i t)
theorem oR{d β:Type}{F:d->β->Prop}{a:d}{b:β}(r:F a b):∀{l:List d}{m:List β} (p:Nat),Paired F l m->Paired F (l.take p++a::l.drop p) (m.take p++b::m.drop p):=by
 intro _ _ e h;cases e with
 |zero=>show .cons r h
 |succ p=>
  cases h with
  |nil=>show .cons r .nil
  |cons f t=>show .cons f (oR r p t)
def RY{b:Type}(a:b)(l:List b)(p:Nat):(l.take p++a::l.drop p).Perm (a::l):=by
 have h:=List.perm_middle (a:=a) (l₁:=l.take p) (l₂:=l.drop p)
 nofun
def AZ{d β:Type}{M:Model}{Q:d->a9->Prop}{c:Prop}[Decidable c]{a:Sem β}{k:β->Sem d}(b:β)(f:∀e:β->a9->Prop,e b s->bc M A a e E s)(h:bc M A (k b) Q E s):bc M A (if c then a>>=k else pure b>>=k) Q E s:=
 lK (λ_=>aAa (f _ h)) (λ_=>aAa (aAb h))
def mF(h:cy)(S:bb)(f:Obj->Obj):Heap.SameBut S h (h.update S f):={by simp,λb a=>aAx _ _ (aCp a)}
def tZ{h:cy}{S:bb}{o:Obj}{es es':Array (Int×av)}{ep:Nat}{t t':fh}(a:h.get? S=some o)(b:o.data=.set es ep t):(h.update S (aFD es' t')).get? S=some {o with data:=.set es' (ep+1) t'}:=by
 have e:aFD es' t' o={o with data:=.set es' (ep+1) t'}:=by let{c,d,f,g}:=o;let{rfl,rfl,rfl}:=b;rfl
 rw[aAX _ a (by rw[e];rfl),e]
def kw{L:Bool}{h0:cy}{Q:BA}(hS:SetAt L h0 s.heap S ds)(kp:Keeps h0 s.heap)(C:HV h0 (.ref x) (.tup Y))(H:A5 (.tup Y)<8)(xv:∀e∈ds,A5 e<8)(hT:∀e∈ds,∃ys,e=.tup ys)(hu:A.units+128<dA)(hn:ds.length<76)
  (q1:D.tup Y∈ds->∀tk,s.toks<=tk->Q false {s with toks:=tk})
  (q2:D.tup Y∉ds->∀h' tk bp,s.toks<=tk->Heap.SameBut S s.heap h'->SetAt L h0 h' S bp->bp.Perm (.tup Y::ds)->Q true {s with heap:=h',toks:=tk}):bc (be prog w) A (setAdd S (.ref x)) Q E s:=by
 let{{o,es,ep,t,I,hc,zf,J,N,K,mk,P0,lp0},nd}:=hS;have hx:HV s.heap (.ref x) (.tup Y):=C.keeps λb o e _=>kp b o e;have P:Paired (EV s.heap) es.toList ds:=dQ (λe d r=>{r.1.keeps λb o e _=>kp b o e,r.2}) P0;have hsz:es.size=ds.length:=by have:=qR P;exists this
 unfold setAdd;show aAJ (aAa (WY hx A E s _ rfl (by lia) λtk wo=>?_));unfold setAddHashed setAddHashedIn;show aAJ (aAa<|aBZ (s:={s with toks:=tk}) I N (iG K) ?_);dsimp only;rw[show byScan (.ref x) es=false from rfl];erw[aAF,if_false];let{n0,hf}:=ST.ER K.full K.room (n9<|.tup Y);show aAa (mB (s:={s with toks:=tk}) (n0:=n0) I N K mk.odd P hx H xv hT (by lia) hf (λp=>?_) (λp=>?_) 100000 0 none rfl (aAT _) ?_ (λm p=>by lia))
 .dsimp only;show aAb (q1 p tk wo)
 .dsimp only;show aAa (aBZ (s:={s with toks:=tk}) I N (iG K) ?_);dsimp only;show AZ true (λQ' q=>oW 8 hx H _ _ _ _ _ rfl q) ?_;rw[jk rfl];have oh:t.place.size+1<=t.mask:=by have:=K.len;simp at this;rcases mk with⟨a,l⟩|⟨a,l⟩|⟨a,l⟩<;>lia
  have u:=ST.gj K (x:=.ref x) hf oh;have el:=ST.fX es (t.put (ST.n4 t.mask (n9<|.tup Y) n0).j).2 (n9 (.tup Y),aDr x);have lp:(t.put (ST.n4 t.mask (n9<|.tup Y) n0).j).1.led=L/\(t.put (ST.n4 t.mask (n9<|.tup Y) n0).j).1.plain=true:=lp0;have em:(t.put (ST.n4 t.mask (n9<|.tup Y) n0).j).1.mask=t.mask:=rfl;rw[<-el]at u;have O:Paired (EV h0) (aGg es (t.put (ST.n4 t.mask (n9<|.tup Y) n0).j).2 (n9 (.tup Y),aDr x)).toList (ds.take (t.put (ST.n4 t.mask (n9<|.tup Y) n0).j).2++.tup Y::ds.drop (t.put (ST.n4 t.mask (n9<|.tup Y) n0).j).2):=by rw[el];show oR {C,rfl} _ P0
  have T:=RY (D.tup Y) ds (t.put (ST.n4 t.mask (n9<|.tup Y) n0).j).2;generalize hds2:ds.take (t.put (ST.n4 t.mask (n9<|.tup Y) n0).j).2++.tup Y::ds.drop (t.put (ST.n4 t.mask (n9<|.tup Y) n0).j).2=ng at O T;generalize hes2:aGg es (t.put (ST.n4 t.mask (n9<|.tup Y) n0).j).2 (n9 (.tup Y),aDr x)=h at u O⊢;generalize ht2:(t.put (ST.n4 t.mask (n9<|.tup Y) n0).j).1=g at u em lp⊢;have U:ng.Nodup:=T.nodup_iff.mpr (aAP.mpr {p,nd});have k:h.size=es.size+1:=by
   have h1:=qR O;have h2:=T.length_eq;simp at h1 h2
   lia
  have dc:h.size<=sizeLine:=by rw[k,aFg];lia
  show aAa (wpAny_storeSet_of (s:={s with toks:=tk}) I N ?_ dc);have kh:=tZ (es':=h) (t':=g) I N;have sb2:=mF s.heap S (aFD h g);have n:g.fill=h.size:=by have h1:=u.len;have h2:=u.tab.nod;unfold SetTable.fill;rw[h2];simp at h1⊢;lia
  show lK (λwu=>?_) (λwu=>?_)
  .
   have qm:g.fill*5>=g.mask*3:=by
    have:g.tooFull=true:=by exists wu
    simpa[aGm]using this
   rw[n,em,k]at qm;obtain⟨M,hM,hM1,v⟩:∃M,SetTable.sizeAbove (SetTable.grown<|es.size+1)=M+1/\ST.mT (M+1)/\vW M (es.size+1):=by
    rcases mk with⟨a,l⟩|⟨a,l⟩|⟨a,l⟩
    .have:es.size=4:=by lia
     rw[this];show{31,by symm,ST.ZW,.inr (.inl {rfl,by lia})}
    .have:es.size=18:=by lia
     rw[this];show{127,by symm,ST.VJ,.inr (.inr {rfl,by lia})}
    lia
   unfold setRelay;show aAa (aAa<|aBZ kh rfl (iG u) ?_);dsimp only;rw[hM];show lK (λz=>?_) (λ_=>?_)
   .exfalso;rcases v with⟨a,_⟩|⟨a,_⟩|⟨a,_⟩<;>(subst a;show kb z (by rw[aFg];symm))
   let{B,f,r1,r2,r3,r4,r5,r6,r7,r8,r9}:=ST.PX (finger:=g.finger) (moves:=g.movedTo M) (led:=g.led) (plain:=g.plain) hM1 h (by rw[k];rcases v with⟨a,l⟩|⟨a,l⟩|⟨a,l⟩<;>lia);have er:g.relaid (h.map (·.1)) (SetTable.grown<|es.size+1)=some (B,f):=by unfold SetTable.relaid;rw[hM];show r1
   rw[er];have hre:∀{Q':Array (Int×av)×fh->a9->Prop}{s':a9},Q' (f.filterMap (h[·]?),B) s'->bc (be prog w) A (do
     let es':=f.filterMap (h[·]?)
     if es'.size !=h.size then unsupported "internal:set-table-lost-an-element"
     pure (es',B)) Q' E s':=λ{Q' s'} qq=>by
    dsimp only;rw[jl (by simp[r2])];show aAb qq
   show aAa (hre ?_);dsimp only;generalize hes3:f.filterMap (h[·]?)=y at r2 r3 r4⊢;show wpAny_storeSet_of kh rfl (aAb ?_) (by rw[r2];show dc);have ho3:=tZ (es':=y) (t':=B) kh rfl;have sb3:=mF (s.heap.update S<|aFD h g) S (aFD y B);let{ds3,p3,P5}:=eG r3 O;show q2 p _ tk ds3 wo (sb2.trans sb3) {{_,y,_,B,ho3,hc,zf,J,rfl,r4,by rw[r5,r2,k];show v,P5,by rw[r7];show lp.1,by rw[r8];show lp.2},p3.nodup_iff.mpr U} (p3.trans T)
  show aAb (q2 p _ tk ng wo sb2 {{_,h,_,g,kh,hc,zf,J,rfl,u,?_,O,lp},U} T);have qm:¬g.fill*5>=g.mask*3:=λz=>wu (by simp[aGm,z]);rw[n,em,k]at qm;rw[em,k];rcases mk with⟨a,l⟩|⟨a,l⟩|⟨a,l⟩
  .show .inl {a,by lia}
  .show .inr (.inl {a,by lia})
  show .inr (.inr {a,by lia})
 have:=hf.1;have p:t.mask<=127:=by rcases mk with⟨a,_⟩|⟨a,_⟩|⟨a,_⟩<;>lia
 lia
end
section
variable{prog:bo}{w:cq}{A:cp}{R:Result->a9->Prop}{I:bb}{fp wr:List bb}{G:Array GenState->Array GenState->Prop}{n:Nat}{P:Nat->av->Prop}{St:Nat->a9->Prop}{h0:cy}
def aj(h0:cy)(v:av)(d:D):Prop:=∃a Y,v=.ref a/\d=.tup Y/\A5 d<8/\HV h0 v d
def ME{L:Bool}(W:WalksS prog w A.in1 I fp wr G n P St)(S:bb)(ud:S∉fp)(N:h0.get? S=none)(O:∀b∈wr,h0.get? b=none)
  (val:Nat->D) (u:∀i v,P i v->aj h0 v (val i)) (om:∀i<n,A5 (val i)<8/\∃Q,val i=.tup Q) {U:List D} (hU:∀i<n,val i∈U) (f:U.length<=75) (hu:A.units+200<dA):
  ∀(k i:Nat) (s:a9),n-i=k->i<=n->St i s->Keeps h0 s.heap->(∃ds,SetAt L h0 s.heap S ds/\∀d,d∈ds↔∃j<i,val j=d)->
   (∀s',Moved (S::wr) G s s'->(∃ds,SetAt L h0 s'.heap S ds/\∀d,d∈ds↔∃j<n,val j=d)->R (.ok (.ret .none)) s')->
   gi (be prog w) A (.builtin "set.update.loop" {[.ref S,.ref I],[]}) R s:=by
 have x:S∉wr:=λh=>ud (W.sub _ h);have T:∀b∈wr,b∈S::wr:=λb f=>aAe _ f;intro k;induction k with
 |zero=>
  intro i s hk hi jm y hS E;have ph:i=n:=by lia
  subst ph;show aBr F.entry_set_update_loop ?_;rw[aBy F.plain_set_update_loop _];change bc _ A.in1 (i4 (.ref I)>>=_) _ _ s;show aAa (W.done s _ _ jm λs' l=>?_);change bc _ A.in1 (ret Value.none) _ _ s';show aAb (E s' (l.mono T) ?_);let{ds,{{o,es,ep,t,ho,r},H},ml}:=hS;show{ds,{{o,es,ep,t,l.heap S _ x ho,r},H},ml}
 |succ k ih=>
  intro i s hk hi jm y hS E;have ai:i<n:=by lia
  show aBr F.entry_set_update_loop ?_;rw[aBy F.plain_set_update_loop _];change bc _ A.in1 (i4 (.ref I)>>=_) _ _ s;show aAa (W.item i s _ _ ai jm λv s' hP kl l=>?_);let{ds,{{o,es,ep,t,ho,r},H},ml}:=hS;have jd:SetAt L h0 s'.heap S ds:={{o,es,ep,t,l.heap S _ x ho,r},H};have p:Keeps h0 s'.heap:=λb ob e=>l.heap b ob (λz=>by rw[O b z]at e;cases e) (y b ob e);let{a,Y,rfl,yi,B,hv}:=u i v hP;rw[yi]at B hv;change bc _ A.in1 (gn [aDr a] (setAdd S<|.ref a)>>=_) _ _ s';have g:∀e∈ds,A5 e<8/\∃Q,e=.tup Q:=λe J=>by grind
  show aAa (aAJ (kw jd p hv B (λe J=>(g e J).1) (λe J=>(g e J).2) (by grind) (by letI:DecidableEq D:=λa b=>aDZ _;have:=ST.P7 (m:=U) H (λd hd=>by let{j,hj,e}:=(ml d).mp hd;rw[<-e];show hU j (by lia));lia) (λph tk C=>?_)<|λhni h' tk bp C hsb hS2 pm=>?_))
  .
   show aAb {aBR F.plain_set_update_loop _,ih (i+1) _ (by lia) ai (W.frame _ s' _ _ kl C λb f o e=>e) p {ds,jd,λd=>?_} λq mh vg=>?_}
   .grind
   show E q (aFh W.gtrans ((l.mono T).then_heap C λb o f e=>e) mh) vg
  have hbS:=λb f=>hsb.2 b f;show aAb {aBR F.plain_set_update_loop _,ih (i+1) _ (by lia) ai (W.frame _ s' _ _ kl C λb f o e=>?_) (λb o e=>?_) {bp,hS2,λd=>?_} λq mh vg=>?_}
  .grind
  .change h'.get? b=some o;rw[hbS b (λz=>by subst z;rw[N]at e;cases e)];show p b o e
  .grind
  show E q (aFh W.gtrans ((l.mono T).then_heap C λb o f e=>?_) mh) vg;grind
end
section
variable{prog:bo}{w:cq}{A:cp}{E:B4}{s:a9}
abbrev mZ(led:Bool):Obj:={cls:=.type "set",dict:=none,data:=.set #[] 0 (.fresh 0 0 led)}
def JL(h0 h:cy)(S:bb)(led:Bool)(e:h.get? S=some (mZ led)):SetAt led h0 h S []:=by
 show{{_,#[],0,.fresh 0 0 led,e,rfl,rfl,rfl,rfl,{{λi k a=>?_,λj b=>?_,rfl},ST.rj,rfl,?_,λe d=>?_},.inl {rfl,aAT _},.nil,rfl,rfl},aDd}
 .show kb a (by show¬i<0;lia)
 .show kb b (by show¬j∈[];simp)
 .change 0<=7;lia
 show kb d (by show¬e∈[];simp)
def zE(a:av){Q₁:B4}(h:Q₁ (.ref s.heap.objs.size) {s with heap:=s.heap.push (mZ (!w.params.followText "set-order"))}):
  gi (be prog w) A (.call (.builtin "set.__new__") {[.type "set",a],[]}) (wants Q₁ E) s:=by
 show codeAny_of_tree ?_;show aAa (aFU (F.newCall_set_1 a)<|aAb ⟨aBR F.plain_set_new _,aBr F.entry_set_new ?_⟩);rw[aBy F.plain_set_new _];unfold Builtin.«set.__new__» Builtin.Frozenset.newClass;have b:=sub_set_self;let{e,g,d,f,os}:=s;dsimp only
 wp_walk
 show aFm (aAb ?_);dsimp only;erw[newObj];show aAa (wpAny_alloc<|aAb<|aAb h)
def AM{h0:cy}(m:Keeps h0 s.heap){l:bb}{its:Array av}{val:Nat->D}{Q:B4}(hh:A.handled=none)(hl:s.heap.IsList l its)
  (n:∀(i:Nat) (v:av),its[i]?=some v->aj h0 v (val i)) (om:∀i<its.size,A5 (val i)<8/\∃ys,val i=.tup ys) {U:List D} (hU:∀i<its.size,val i∈U) (g:U.length<=75) (hu:A.units+300<dA)
  (h:∀(h':cy) (tk:Nat) (ds:List D),SetAt (!w.params.followText "set-order") h0 h' s.heap.objs.size ds->(∀d,d∈ds↔∃j<its.size,val j=d)->Keeps s.heap h'->Q (.ref s.heap.objs.size) {s with heap:=h',toks:=tk}):
  bc (be prog w) A (call (.type "set") [.ref l]) Q E s:=by
 let{c,tl,T}:=PySem.F.called_set.mro;have C:=PySem.F.called_set.made;have jv:=PySem.F.called_set.sub;show wpAny_call (codeAny_of_tree ?_);change bc _ _ (callAny (.type "set") _) _ _ _;show aAb {Code.quiet_builtin _ (by decide+kernel),aBr PySem.F.entry_type_call ?_};rw[Around.under_plain (weight_type_call_type "set" [.ref l] []) rfl];have h1:=PySem.F.called_set.notType;have h2:=PySem.F.called_set.canCreate;have hct:=PySem.F.typeCall_set_1 (.ref l);repeat(any_goals(first|assumption|wp_step))
 show aDM (zE (.ref l) (E:=E) (Q₁:=λY ae=>∃led:Bool,led=!w.params.followText "set-order"/\Y=.ref s.heap.objs.size/\ae={s with heap:=s.heap.push (mZ led)}) {_,rfl,rfl,rfl}) λr ae p=>?_;cases r with
 |error e=>show p
 |ok fl=>
  cases fl with
  |next=>show p.elim
  |brk=>show p.elim
  |cont=>show p.elim
  |ret Y=>
   let{led,eL,rfl,rfl}:=p;have hS:(s.heap.push<|mZ led).get? s.heap.objs.size=some (mZ led):=aAp _ rfl;have hT:Shared.TypeIs {s with heap:=s.heap.push (mZ led)} (.ref s.heap.objs.size) "set":={_,hS,rfl};have hli:=PySem.F.called_set.init.lookup;have hbi:=PySem.F.called_set.init.bind (.ref s.heap.objs.size);repeat(any_goals(first|assumption|wp_step))
   show aDM (codeAny_call_builtin (R:=wants (λr ig=>r=.none/\∃h' tk ds,ig={s with heap:=h',toks:=tk}/\SetAt (!w.params.followText "set-order") h0 h' s.heap.objs.size ds/\(∀d,d∈ds↔∃j<its.size,val j=d)/\Keeps s.heap h') E) PySem.F.called_set.init.plain PySem.F.entry_set_init<|check_set_init_1 hT ?_) λr0 ig a=>?_
   .let{ol,q,yd,nl,t}:=hl;let{ocls,k,H,f}:=ol;simp only at yd t;subst yd;subst t;have u:(s.heap.push<|mZ led).get? l=some {cls:=.type "list",dict:=k,data:=.seq its nl,slots:=f}:=aAc _ q;have hsls:=PySem.F.sub_list_set;have hslf:=PySem.F.sub_list_frozenset;have ag:(aCm "list"==aCm "dict")=false:=by decide
    have ma:(s.heap.push<|mZ led).IsList l its:={_,u,rfl,nl,rfl};unfold Builtin.«set.__init__» noKeywords Builtin.Frozenset.updateFrom;generalize I:pyIter=PI
    wp_walk
    subst I;show aDv ma (aAa<|aFQ ?_);have x:l<s.heap.objs.size:=aAf q;have y:l≠(s.heap.push<|mZ led).objs.size:=by rw[aBw];show aAl (aBF x)
    have ud:s.heap.objs.size∉[(s.heap.push<|mZ led).objs.size,l]:=by rw[aBw];erw[aAg,aAY,or_false,not_or];show{aAl (aDG _),aCG x}
    have oo:∀b,s.heap.objs.size<=b->h0.get? b=none:=λb g=>by
     cases e:h0.get? b with
     |none=>rfl
     |some o=>have:=m b o e;rw[aEr g]at this;cases this
    show ME (h0:=h0) ((Walks.list (by simp[hh]) _ l y its).toS) s.heap.objs.size ud (oo _<|aAj _) (λb g=>?hw) val n om hU g (by change A.units+1+1+200<dA;lia) (its.size-0) 0 _ (by lia) (aAT _) {{_,aAp _ rfl,rfl,rfl},(ma.push _)} (λb o e=>aAc _ (aAc _<|m b o e)) {[],JL _ _ _ led (aAc _ hS),λd=>?he} ?hR
    case he=>show{λz=>(by cases z),by rintro⟨j,hj,_⟩;show(by lia)}
    case hw=>
     have iu:b=(s.heap.push<|mZ led).objs.size:=by exists g
     subst iu;rw[aBw];show oo _ (Nat.le_succ _)
    case hR=>
     rintro⟨h',g',d',xm,J⟩ B ⟨ds,L,N⟩;have eg:g'=s.gens:=B.gens;have ed:d'=s.drawn:=B.drawn;have eo:J=s.os:=B.os;subst eg;subst ed;subst eo;show aAb ?_;change bc _ _ (ret Value.none) _ _ _;show aAb {rfl,h',xm,ds,rfl,(eL▸L),N,λb o e=>?_};have g:=aAf e;have xh:b≠(s.heap.push<|mZ led).objs.size:=by rw[aBw];show aAl (aBF g)
     show B.heap b o (by erw[aAg,aAY,or_false,not_or];show{aAl g,xh}) (aAc _<|aAc _ e)
   cases r0 with
   |error e=>show a
   |ok O=>
    cases O with
    |next=>show a.elim
    |brk=>show a.elim
    |cont=>show a.elim
    |ret r=>
     let{rfl,h',tk,ds,rfl,L,N,jn}:=a;repeat(any_goals(first|assumption|wp_step))
     show h _ _ _ L N jn
end
end
section
variable [Tabs]
end
end DL
namespace SI
open PySem
theorem FQ{d:Type}(next:Nat->Nat):∀(a k:Nat) (left:List d) (b:Array d),left.length=a->(aGl next a k left b).toList.Perm (b.toList++left)
 |0,k,left,b,h=>by have:left=[]:=List.eq_nil_of_length_eq_zero h;subst this;simp[aGl]
 |a+1,k,left,b,h=>by
  unfold aGl;have f:0<left.length:=by lia
  have e:next k%left.length<left.length:=aDJ _ f
  rw[aAd e];dsimp only;show(FQ next a (k+1) _ _ (by rw[List.length_eraseIdx_of_lt e];lia)).trans ?_;rw[Array.toList_push,List.append_assoc];show List.Perm.append_left _ ?_;have:∀(l:List d) (i:Nat) (h:i<l.length),(l[i]::l.eraseIdx i).Perm l:=by
   intro l;induction l with
   |nil=>intro i h;simp at h
   |cons x l g=>
    intro i h;cases i with
    |zero=>simp
    |succ i=>
     have m:i<l.length:=by exists h
     rw[List.eraseIdx_cons_succ,List.getElem_cons_succ];show(List.Perm.swap _ _ _).trans ((g i m).cons _)
  show this left _ e
def tP{a:Type}(next:Nat->Nat)(Y:Array a):(je next Y).toList.Perm Y.toList:=by unfold je;exists FQ next Y.size 0 Y.toList #[] (by simp)
def walkL(w:cq)(S:bb)(es:Array (Int×av))(ep:Nat):List (Int×av):=if w.params.followText "set-order"=true then(je (w.params.setOrder S ep) es).toList else es.toList
def walkL_perm(w:cq)(S:bb)(es:Array (Int×av))(ep:Nat):(walkL w S es ep).Perm es.toList:=by
 unfold walkL;split
 .show tP _ _
 show List.Perm.refl _
def slotAt(w:cq)(t:fh):Nat->Nat
 |0=>0
 |i+1=>if w.params.followText "set-order"=true then 0 else t.place.getD i 0+1
def P4(h:cy)(w:cq)(a S:bb)(t:fh)(i n ep:Nat):Prop:=
 h.get? a=some {cls:=.type "set_iterator",dict:=none,data:=.fields #[et (slotAt w t i),et i,.ref S,et n,et ep],slots:=#[]}
def mL(h:cy)(S:bb)(es:Array (Int×av))(ep:Nat)(t:fh):Prop:=∃o,h.get? S=some o/\o.cls=.type "set"/\o.data=.set es ep t
namespace F
def entry_set_iter:entryFor table "set.__iter__"=some Builtin.«frozenset.__iter__»:=entryFor_alias (id':= "frozenset.__iter__") (by kernel_rfl) rfl (by decide+kernel) (by kernel_rfl)
def slot_seti_next:Slot "set_iterator" "__next__" "set_iterator.__next__":=
 .of (owner:= "set_iterator") (n:= "__next__") (by rw[aDq,aCg];kernel_rfl) (by decide+kernel) (by decide+kernel) (by decide+kernel)
  (by first|show .inl (by decide+kernel)|show .inr (by decide+kernel)) (by rw[aEV];kernel_rfl)
def entry_seti_next:entryFor table "set_iterator.__next__"=some Builtin.«set_iterator.__next__»:=entryFor_of_tree (by kernel_rfl)
def args_seti_next(a:av):argsOk "set_iterator.__next__" {[a],[]}:=by unfold argsOk;kernel_rfl
def slot_seti_iter:Slot "set_iterator" "__iter__" "set_iterator.__iter__":=
 .of (owner:= "set_iterator") (n:= "__iter__") (by rw[aDq,aCg];kernel_rfl) (by decide+kernel) (by decide+kernel) (by decide+kernel)
  (by first|show .inl (by decide+kernel)|show .inr (by decide+kernel)) (by rw[aEV];kernel_rfl)
def entry_seti_iter:entryFor table "set_iterator.__iter__"=some Builtin.«dict_keyiterator.__iter__»:=entryFor_alias (id':= "dict_keyiterator.__iter__") (by kernel_rfl) rfl (by decide+kernel) (by kernel_rfl)
def args_seti_iter(a:av):argsOk "set_iterator.__iter__" {[a],[]}:=by unfold argsOk;kernel_rfl
end F
section
variable{s:a9}{t:fh}
def JC{d:Type}{M:Model}{Q:d->a9->Prop}{c:Prop}[Decidable c]{a b:Sem d}(h:c)(k:bc M A a Q E s):bc M A (if c then a else b) Q E s:=by rw[jk h];show k
def AI(es:Array (Int×av))(a:t.plain=true):(!t.plain&&decide (es.size>1))=false:=by rw[a];rfl
def DU{Q:BA}(h:Q (w.params.followText "set-order") s):bc (be prog w) A setsByText Q E s:=by unfold setsByText;show aAa (aFm<|aAb h)
def QN{Q:B4}(f:mL s.heap S es ep t)(b:t.fits es.size=true)(g:t.plain=true)
  (h:Q (.ref s.heap.objs.size) {s with heap:=s.heap.push {cls:=.type "set_iterator",dict:=none,data:=.fields #[et (slotAt w t 0),et (0:Nat),.ref S,et es.size,et ep],slots:=#[]}}):
  bc (be prog w) A (pyIter (.ref S)) Q E s:=by
 let{o,a,k,d}:=f;have e:s.TypeIs (.ref S) "set":={o,a,k};show aEd e PySem.F.slot_set_iter (aBc PySem.F.slot_set_iter e F.entry_set_iter ?_ (PySem.F.args_set_iter_1 _));unfold Builtin.«frozenset.__iter__»;change bc _ _ (aFi "__iter__" {[.ref S],[]}>>=_) _ _ s;have l:aFi "__iter__" ⟨[.ref S],[]⟩=pure S:=rfl;rw[l];show aAa (aAb ?_);unfold Builtin.Frozenset.sizeOf;show aAa (aAa<|aEz a d b<|aAb<|aAa ?_);unfold setDrawn;show aAa (aBZ a d b<|aAa<|DU<|aAb ?_);change bc _ _ (if(!w.params.followText "set-order"&&(!t.plain&&decide (es.size>1)))=true then _ else _) _ _ s;rw[AI es g,Bool.and_false];erw[aAF,if_false];show aAa (aAb<|aAa<|wpAny_setEpoch_of a d b<|aAa<|aAQ<|aAb ⟨_,rfl, "set_iterator",_,⟨_,aAp _ rfl,rfl⟩,F.slot_seti_next.lookup,?_⟩);simpa[slotAt]using h
def EC(a:ST.II Y):aDE Y 0=0:=by
 let{d,b,e}:=ST.bO a 0;by_cases h:aDE Y 0=0
 .show h
 show kb (b 0 (by lia) (by lia)) (by lia)
def DW(b:ST.II Y)(a:i<Y.size):aDE Y (Y.getD i 0+1)=i+1:=by
 have e:Y.getD i 0=Y[i]:=by simp[aFa,a]
 rw[e];let{h,f,g}:=ST.bO b (Y[i]+1);rcases Nat.lt_trichotomy (aDE Y<|Y[i]+1) (i+1)with q|q|q
 .have:=g i a (by lia);lia
 .show q
 have d:i+1<Y.size:=by lia
 have:=f (i+1) d q;have:=b i (i+1) a d (by lia)
 lia
def DX(t:fh)(a:ST.II t.place)(b:¬w.params.followText "set-order"=true)(d:i<=t.place.size):aDE t.place (slotAt w t i)=i:=by
 cases i with
 |zero=>show EC a
 |succ i=>change aDE t.place (if w.params.followText "set-order"=true then 0 else t.place.getD i 0+1)=i+1;rw[jl b];show DW a (by lia)
def AG{Q:Option (av×Nat)->a9->Prop}(q:mL s.heap S es ep t)(d:t.fits es.size=true)(r:t.plain=true)(u:¬w.params.followText "set-order"=true->t.led=true)(v:ST.II t.place)(I:i<=es.size)(f:∀e,(walkL w S es ep)[i]?=some e->Q (some (e.2,slotAt w t (i+1))) s)(l:i=es.size->Q none s):bc (be prog w) A (setNext S (slotAt w t i) i ep) Q E s:=by
 let{o,m,J,n}:=q;have y:t.place.size=es.size:=by erw[aGa,aAH,beq_iff_eq,decide_eq_true_eq]at d;show d.1
 unfold setNext;show aAa (aBZ m n d ?_);show aAa (DU ?_);by_cases a:w.params.followText "set-order"=true
 .rw[jk a,jl (by simp)];unfold setWalk;show aAa (aAa<|aBZ m n d<|aAa<|DU ?_);rw[jk a];show aAa (aFm<|aAb ?_);show aAb ?_;have h:(walkL w S es ep)=(je (w.params.setOrder S ep) es).toList:=by unfold walkL;rw[jk a]
  have k:slotAt w t i=slotAt w t (i+1):=by
   cases i with
   |zero=>change 0=if w.params.followText "set-order"=true then 0 else _;rw[jk a]
   |succ i=>change(if w.params.followText "set-order"=true then 0 else _)=if w.params.followText "set-order"=true then 0 else _;rw[jk a,jk a]
  rw[h,aAB]at f;change Q (((je (w.params.setOrder S ep) es)[i]?).map λe=>(e.2,slotAt w t i)) s;cases e:(je (w.params.setOrder S ep) es)[i]? with
  |some x=>rw[k];show f x e
  |none=>
   have p:(je (w.params.setOrder S ep) es).size=es.size:=by have:=(tP (w.params.setOrder S ep) es).length_eq;exists this
   have:=Array.getElem?_eq_none_iff.mp e;show l (by lia)
 rw[jl a];have z:¬(!t.plain&&decide (es.size>1))=true:=by rw[r];simp
 change bc _ _ (if(!t.plain&&decide (es.size>1))=true then _ else _) _ _ s;rw[jl z];change bc _ _ ((if(!t.led&&!es.isEmpty)=true then _ else _)>>=_) _ _ s;rw[jl (by rw[u a];simp)];show aAa (aAb<|aAb ?_);rw[DX t v a (by lia)];have h:(walkL w S es ep)=es.toList:=by unfold walkL;rw[jl a]
 rw[h,aAB]at f;by_cases B:i<es.size
 .have g:es[i]?=some es[i]:=aAw B;have b:i<t.place.size:=by lia
  have C:t.place[i]?=some t.place[i]:=aAw b;have:=f _ g;rw[g,C];have H:slotAt w t (i+1)=t.place[i]+1:=by change(if w.params.followText "set-order"=true then 0 else t.place.getD i 0+1)=_;rw[jl a];simp[aFa,b]
  rw[H]at this;show this
 have g:es[i]?=none:=aBz (by lia);rw[g];show l (by lia)
def Q5(h:P4 s.heap w a S t i n ep):s.TypeIs (.ref a) "set_iterator":={_,h,rfl}
def LJ{Q:Option av->a9->Prop}(a:P4 s.heap w b S t i es.size ep)(d:mL s.heap S es ep t)(f:t.fits es.size=true)(l:t.plain=true)(m:¬w.params.followText "set-order"=true->t.led=true)(n:ST.II t.place)(p:i<es.size)(h:∀e h',(walkL w S es ep)[i]?=some e->P4 h' w b S t (i+1) es.size ep->Heap.SameBut b s.heap h'->Q (some e.2) {s with heap:=h'}):bc (be prog w) A (i4 (.ref b)) Q E s:=by
 have g:=Q5 a;let{o,q,B,r}:=id d;show aAa (aDV (aBV g F.slot_seti_next
  (aBc F.slot_seti_next g F.entry_seti_next ?_ (F.args_seti_next _))))
 show aAa (aAb<|aAa<|aFO a rfl<|aAa<|aEz q r f ?_);rw[jl (by simp)];change bc _ _ (setNext S (aEv (slotAt w t i:Int)) (aEv (i:Int)) (aEv (ep:Int))>>=_) _ _ s;show aAa (AG d f l m n (aCd p) (λe u=>(aAa (aBU a (by simp) λC v x=>(aAa (aBU v (by simp) λk y z=>(aAb {_,rfl,aAb (h e k u ?_ (x.trans z))})))))) λe=>by lia);have:k.get? b=some _:=y;unfold P4;rw[this];simp
def VS{Q:Option av->a9->Prop}(k:A.handled=none)(a:P4 s.heap w b S t es.size es.size ep)(d:mL s.heap S es ep t)(f:t.fits es.size=true)(l:t.plain=true)(m:¬w.params.followText "set-order"=true->t.led=true)(n:ST.II t.place)(h:∀h',Heap.ExtBut b s.heap h'->Q none {s with heap:=h'}):bc (be prog w) A (i4 (.ref b)) Q E s:=by
 have g:=Q5 a;let{o,p,r,q}:=id d;unfold i4;show aAa (aDV (aBV g F.slot_seti_next
  (aBc F.slot_seti_next g F.entry_seti_next ?_ (F.args_seti_next _))))
 show aAa (aAb<|aAa<|aFO a rfl<|aAa<|aEz p q f ?_);rw[jl (by simp)];change bc _ _ (setNext S (aEv (slotAt w t es.size:Int)) (aEv (es.size:Int)) (aEv (ep:Int))>>=_) _ _ s;show aAa (AG d f l m n (aAj _) (λe u=>?_) λ_=>?_)
 .have v:=(walkL_perm w S es ep).length_eq
  nofun
 change bc _ _ (setField (.ref b) 2 .none>>=_) _ _ s;show aAa (aFP a rfl (by simp) (aAa (aAa (aAQ (aAa (aFU (by first|rfl|(simp only[];rfl)) (aAQ ?_ (by size_fits)))) (by size_fits)))));show aAa (wpAny_handled ?_);rw[show A.in1.handled=none from k];show aAa (aAb<|wpAny_throw ?_);show aAa (aDa {_,aAp _ rfl,rfl} aFN ?_);show aAb (h _<|((aEw ..).extBut.push _).push _)
def eJ(x:mL h S es ep t)(e:∀o,h.get? S=some o->h'.get? S=some o):mL h' S es ep t:=by let{o,a,r}:=x;show{o,e o a,r}
end
section
def LC(r:A.handled=none)(I S:bb)(u:S≠I)(g:t.fits es.size=true)(k:t.plain=true)(l:¬w.params.followText "set-order"=true->t.led=true)(m:ST.II t.place):
  Walks prog w A I [I,S] [I] es.size (λi v=>∃e,(walkL w S es ep)[i]?=some e/\v=e.2) (λi h=>P4 h w I S t i es.size ep/\mL h S es ep t)where
 sub:=λb a=>by simp at a;simp[a]
 frame:=λ_ _ _ st n=>{n I (by simp) _ st.1,eJ st.2 λo e=>n S (by simp) o e}
 item:=λi s Q E x st d=>LJ st.1 st.2 g k l m x λe f y B p=>d e.2 f s.toks {e,y,rfl} {B,eJ st.2 λo q=>(p.2 S u).trans q} λb o a q=>(p.2 b (λz=>a (by simp[z]))).trans q
 done:=λs Q E st d=>VS r st.1 st.2 g k l m λf C=>d f s.toks λb o a q=>C b o (λz=>a (by simp[z])) q
 self:=λi s Q E st d=>by show aEd (Q5 st.1) F.slot_seti_iter (aBc F.slot_seti_iter (Q5 st.1) F.entry_seti_iter (aAa<|aAb<|aAb ⟨_,rfl, "set_iterator",_,Q5 st.1,F.slot_seti_next.lookup,d⟩)<|F.args_seti_iter _)
def collect_set{Q:List av->a9->Prop}(hh:A.handled=none)(O:mL s.heap S es ep t)(T:t.fits es.size=true)(U:t.plain=true)(hl:¬w.params.followText "set-order"=true->t.led=true)(ha:ST.II t.place)(hn:es.size<=sizeLine)
  (hQ:∀h' tk,(∀b o,s.heap.get? b=some o->h'.get? b=some o)->Q ((walkL w S es ep).map (·.2)) {s with heap:=h',toks:=tk}):bc (be prog w) A (collect (.ref S)) Q E s:=by
 let{z,d,k,hdS}:=id O;have hT:s.TypeIs (.ref S) "set":={z,d,k};have Y:=aAf d;unfold collect;show aAa (aFQ<|aBr PySem.F.entry_proto_collect ?_);rw[aBy PySem.F.plain_proto_collect _];show aAa (aAQ<|aAb ⟨aBR PySem.F.plain_list_iadd _,aBr PySem.F.entry_list_iadd ?_⟩);rw[aBy PySem.F.plain_list_iadd _];generalize l:s.heap.push {cls:=.type "list",data:=.seq ([]:List av).toArray}=a;have f:∀b o,s.heap.get? b=some o->a.get? b=some o:=λb o e=>by rw[<-l];show aAc _ e
 have h:a.objs.size=s.heap.objs.size+1:=by rw[<-l,aBw]
 have B:a.get? s.heap.objs.size=some {cls:=.type "list",data:=.seq ([]:List av).toArray}:=by rw[<-l];show aAp _ rfl
 have n:=eJ O λo e=>f S o e;have C:Shared.TypeIs {s with heap:=a} (.ref S) "set":={z,f _ _ d,k};have p:aCR (.ref s.heap.objs.size) (.ref S)=false:=by simp[aCR,aCG Y]
 change bc _ A.in1 (aDp (.ref s.heap.objs.size) (.ref S)<|.ref s.heap.objs.size) _ _ _;unfold aDp;show aAa (aDL C ?_);rw[jl (by rw[p];symm)];show aAa (QN n T U<|aAa<|aAJ ?_);generalize q:a.push {cls:=.type "set_iterator",dict:=none,data:=.fields #[et (slotAt w t 0),et (0:Nat),.ref S,et es.size,et ep],slots:=#[]}=r;have g:∀b o,a.get? b=some o->r.get? b=some o:=λb o e=>by rw[<-q];show aAc _ e
 have H:P4 r w a.objs.size S t 0 es.size ep:=by rw[<-q];show aAp _ rfl
 have m:Shared.TypeIs {s with heap:=r} (.ref S) "set":={z,g _ _ (f _ _ d),k};have u:=g _ _ B;unfold aCC;show aAa (aBs m PySem.F.slot_set_len.lookup ?_);show aAa (aDa (b:=true) m (by rw[aEV];kernel_rfl) ?_);rw[jl (by symm)];show JC (by decide+kernel) ?_
 show aAa (aDL m<|aAb ?_);rw[jk (by symm)];show aAa (aDu<|aAa<|aAa<|aCf u rfl ?_);have v:=aAX (aBL (·.push Value.none)) u rfl;show aCf v rfl ?_;have I:∀b o,b≠s.heap.objs.size->r.get? b=some o->((r.update s.heap.objs.size (aBL (·.push Value.none))).update s.heap.objs.size (aBL (·.pop))).get? b=some o:=
  λb o x e=>(aAx _ _<|aCp x).trans ((aAx _ _<|aCp x).trans e)
 have J:a.objs.size≠s.heap.objs.size:=by rw[h];lia
 show aAb {aBR PySem.F.plain_extend_loop _,codeAny_extend_loopS ((LC (prog:=prog) (w:=w) (A:=A.in1) (by simp[hh]) a.objs.size S (by lia) (es:=es) (ep:=ep) (t:=t) T U hl ha).toS) hn _ (by grind) _ es.size 0 _ _ _ rfl (aAT _) {I _ _ J H,eJ (eJ n λo e=>g S o e) λo e=>I S o (aAl Y) e} (aAX (aBL (·.pop)) v rfl) (ItemsOf.nil _) λL ie c' y jd N=>?_};change bc _ A (load s.heap.objs.size>>=_) _ _ L;show aAa (wpAny_load jd<|aAb ?_);have g0:=y.gens;have d0:=y.drawn;have o0:L.os=s.os:=y.os;have ea:ie.toList=(walkL w S es ep).map (·.2):=by
  have mi:=(walkL_perm w S es ep).length_eq;apply aDt;intro i;rw[aAu,aAB];by_cases hi:i<es.size
  .have vh:i<ie.size:=by rw[N.1];show hi
   let{e,he,hv}:=N.2 i _ (aAw vh);grind
  rw[aBz (by rw[N.1];lia),aDs (by grind)];rfl
 let{h',g',d',xm,os'}:=L;subst g0 d0 o0;rw[ea];show hQ h' xm λb o e=>?_;have x:=aAl (aAf e);have xh:b≠a.objs.size:=by rw[h];show aAl (aBF<|aAf e)
 show y.heap b o (by simp;show{x,xh}) (I b o x<|g _ _<|f _ _ e)
end
end SI
namespace DL
open PySem PySem.Spec L2
open PyProof.Rows hiding St
section
def QP:D->Bool
 |.int _=>true
 |_=>false
def V6:D->Bool
 |.tup Y=>!Y.isEmpty&&Y.all QP
 |_=>false
def intD:D->Int
 |.int i=>i
 |_=>0
def flat:D->List Int
 |.tup Y=>Y.map intD
 |_=>[]
theorem QA:∀{Y:List D},Y.all QP=true->Y=(Y.map intD).map D.int:=by
 intro a h;cases a with
 |nil=>rfl
 |cons x Y=>
  erw[aFZ,aAH]at h;cases x with
  |int i=>change D.int i::Y=D.int i::(Y.map intD).map D.int;rw[<-QA h.2]
  |_=>cases h.1
def gB(h:V6 d=true):flat d≠[]/\d=.tup ((flat d).map .int):=by
 cases d with
 |tup Y=>erw[V6,aAH]at h;show{by simpa[flat]using h.1,?_};change D.tup Y=D.tup ((Y.map intD).map D.int);rw[<-QA h.2]
 |_=>cases h
def pK(h:V6 d=true)(h':V6 e=true)(q:flat d=flat e):d=e:=by rw[(gB h).2,(gB h').2,q]
theorem sH:∀l:List Int,cH (l.map D.int)=true:=by
 intro a;cases a with
 |nil=>rfl
 |cons i l=>change(true&&cH (l.map D.int))=true;rw[sH l];rfl
def G3(h:V6 d=true):mX d=true:=by rw[(gB h).2];show sH _
def FY(h:V6 d=true):A5 d<8:=by
 rw[(gB h).2];have:∀l:List Int,w9 (l.map D.int)=0:=λl=>by
  induction l with
  |nil=>rfl
  |cons i l a=>change max 0 (w9<|l.map D.int)=0;rw[a];rfl
 change w9 _+1<8;rw[this];lia
def rZ(d:D):List D->List D
 |[]=>[d]
 |x::Y=>if flat d=flat x then x::Y else if HT.lexLt (flat d) (flat x)=true then d::x::Y else x::rZ d Y
def K6(ds:List D):List D:=ds.foldr rZ []
def NK(ds:List D):Prop:=ds.Pairwise λx y=>HT.lexLt (flat x) (flat y)=true
theorem iH:∀{Y:List D},e∈rZ d Y->e=d\/e∈Y
 |[],h=>by rcases aAg.mp h with h|h;show .inl h;cases h
 |x::Y,h=>by
  unfold rZ at h;split at h
  .show .inr h
  split at h
  .nofun
  rcases aAg.mp h with h|h
  .nofun
  rcases iH h with h|h
  .show .inl h
  show .inr (.tail _ h)
theorem zO:∀{Y:List D},e∈Y->e∈rZ d Y
 |x::Y,h=>by
  unfold rZ;split
  .show h
  split
  .show .tail _ h
  rcases aAg.mp h with h|h
  .rw[h];show .head _
  show .tail _ (zO h)
theorem AW(a:V6 d=true):∀{Y:List D},(∀x∈Y,V6 x=true)->d∈rZ d Y:=by
 intro b h;cases b with
 |nil=>show .head _
 |cons x Y=>
  unfold rZ;split
  .rename_i q;rw[pK a (h x<|.head _) q];show .head _
  split
  .show .head _
  show .tail _ (AW a λy e=>h y (.tail _ e))
theorem yN:∀{Y:List D},NK Y->NK (rZ d Y):=by
 intro f h;cases f with
 |nil=>show aDQ _ _
 |cons x Y=>
  have b:=aAv.mp h;unfold rZ;split
  .show h
  rename_i ne;split
  .rename_i lt;show aAv.mpr {λy a=>?_,h};rcases aAg.mp a with rfl|a
   .show lt
   show TS.lex_trans _ _ _ lt (b.1 y a)
  rename_i e;show aAv.mpr {λy a=>?_,yN b.2};rcases iH a with rfl|a
  .cases q:HT.lexLt (flat x) (flat y)with
   |true=>rfl
   |false=>show kb (TS.lex_total _ _ (by exists e) q) ne
  show b.1 y a
theorem O6:∀ds:List D,NK (K6 ds):=by
 intro a;cases a with
 |nil=>show .nil
 |cons _ ds=>show yN (O6 ds)
theorem AB:∀{ds:List D},(∀d∈ds,V6 d=true)->∀d∈K6 ds,V6 d=true
 |[],_,d,h=>by cases h
 |e::ds,h,d,hd=>by
  rcases iH hd with rfl|hd
  .show h _ (.head _)
  show AB (λd hd=>h d (.tail _ hd)) d hd
theorem C7:∀{ds:List D},(∀d∈ds,V6 d=true)->∀d,d∈K6 ds↔d∈ds:=by
 intro b h d;cases b with
 |nil=>show Iff.rfl
 |cons e ds=>
  have a:∀d∈ds,V6 d=true:=λd f=>h d (.tail _ f);constructor
  .intro q;rcases iH q with rfl|q
   .show .head _
   show .tail _ ((C7 a d).mp q)
  intro q;rcases aAg.mp q with rfl|q
  .show AW (h _<|.head _) (AB a)
  show zO ((C7 a d).mpr q)
theorem aX:∀{Y a:List D},NK Y->NK a->(∀d,d∈Y↔d∈a)->Y=a:=by
 intro m g n o h;cases m with
 |nil=>
  cases g with
  |nil=>rfl
  |cons y a=>have:=(h y).mpr (.head _);cases this
 |cons x Y=>
  cases g with
  |nil=>have:=(h x).mp (.head _);cases this
  |cons y a=>
   have k:=aAv.mp n;have l:=aAv.mp o;have b:∀d:D,HT.lexLt (flat d) (flat d)≠true:=λd q=>by rw[TS.lex_irrefl]at q;cases q
   have e:x=y:=by
    rcases aAg.mp ((h x).mp (.head _))with q|q
    .show q
    rcases aAg.mp ((h y).mpr (.head _))with f|f
    .show f.symm
    show kb (TS.lex_trans _ _ _ (l.1 x q)<|k.1 y f) (b y)
   subst e;congr 1;show aX k.2 l.2 λd=>?_;grind
def KE(h:NK Y):Y.Nodup:=h.imp λ{x y} q z=>by subst z;rw[TS.lex_irrefl]at q;cases q
def ssR:D->R (List D)
 |.lst a=>if a.all V6=true/\(K6 a).length<=63 then .ok (K6 a)else .bad
 |_=>.bad
section
mutual
theorem R6(I:Inv X a k H s):∀{v:V}{d:D}{u:av},Rep X.K H O v d->mX d=true->RelV v u->HV s.heap u d
 |_,_,_,.non,e,_=>by cases e
 |_,_,_,.bl,e,_=>by cases e
 |_,_,_,.str,e,_=>by cases e
 |_,_,_,.lst _ _ _,e,_=>by cases e
 |_,_,_,.dct ..,e,_=>by cases e
 |_,_,_,.int,_,r=>by let{t,rfl}:=r;show .int _ t
 |_,_,_,.tup h r,e,b=>by cases b;let{f,g,p,_}:=I.tuple h;show .tup p (FU I r e g)
theorem FU(I:Inv X b h H s):∀{v:List V}{d:List D}{u:List av},Reps X.K H O v d->cH d=true->m9 v u->HVs s.heap u d
 |_,_,_,.nil,_,.nil=>.nil
 |_,_,_,.cons r t,e,.cons f g=>by have a:(mX _&&cH _)=true:=e;rw[aAH]at a;show .cons (R6 I r a.1 f) (FU I t a.2 g)
end
end
variable [Tabs]
def a0q(w:cq)(o:Obj)(es:List av):Prop:=o.ExactSet/\∃a b t,o.data=.set a b t/\t.fits a.size=true/\t.plain=true/\t.led=!w.params.followText "set-order"/\ST.II t.place/\a.toList.map (·.2)=es
abbrev y8(K:km)(H:Hp)(O:bb->Prop):List av->List D->Prop:=Paired λu d=>∃v,RelV v u/\Rep K H O v d
theorem y8.of{K:km}{H:Hp}{O:bb->Prop}:∀{vs:List V}{a:List av}{ds:List D},m9 vs a->Reps K H O vs ds->y8 K H O a ds:=by
 intro _ _ _ d b;cases d with
 |nil=>
  cases b with
  |nil=>show .nil
 |cons r t=>
  cases b with
  |cons q u=>show .cons {_,r,q} (y8.of t u)
def y8.ab8{K:km}{H:Hp}{O:bb->Prop}:∀{a:List av}{ds:List D},y8 K H O a ds->∃vs,m9 vs a/\Reps K H O vs ds:=by
 intro _ _ h;induction h with
 |nil=>show{[],.nil,.nil}
 |cons h _ b=>let{v,r,q}:=h;let{vs,d,e}:=b;show{v::vs,.cons r d,.cons q e}
def y8.same{K:km}{H H':Hp}{O:bb->Prop}(s:Same H H'){a:List av}{ds:List D}(h:y8 K H O a ds):y8 K H' O a ds:=dQ (by rintro _ _ ⟨v,r,q⟩;show{v,r,q.same s}) h
def y8.get{K:km}{H:Hp}{O:bb->Prop}:∀{a:List av}{ds:List D}{u:av},y8 K H O a ds->u∈a->∃d∈ds,∃v,RelV v u/\Rep K H O v d:=by
 intro _ _ _ z h;induction z with
 |nil=>cases h
 |cons r _ b=>
  rcases aAg.mp h with rfl|h
  .show{_,.head _,r}
  let{d,e,q}:=b h;show{d,.tail _ e,q}
open Classical in
def P8(K:km) (H:Hp) (h:cy):cy:=PySem.W.hideAll h ((aBm h.objs.size).filter λa=>decide (¬∃Y,R4 K H a Y))
def Y6(K:km)(H:Hp)(h:cy):Keeps (P8 K H h) h:=λb o e=>PySem.W.of_hideAll _ e
open Classical in
def AV{K:km}{H:Hp}{h:cy}{b:bb}{o:Obj}{Y:List V}(e:h.get? b=some o)(q:R4 K H b Y):(P8 K H h).get? b=some o:=PySem.W.hideAll_get _ e λa=>by have:=(aCh.mp a).2;show(of_decide_eq_true this) {Y,q}
open Classical in
def CW{K:km}{H:Hp}{h:cy}{b:bb}{o:Obj}(e:(P8 K H h).get? b=some o):∃Y,R4 K H b Y:=by
 show aEW λn=>?_;have a:=Y6 K H h b o e;have:(P8 K H h).get? b=none:=PySem.W.hideAll_none _ (aCh.mpr {aCu.mpr (aAf a),kd n})
 lia
section
mutual
theorem MA(I:Inv X a l H s):∀{v:V}{d:D}{u:av},Rep X.K H O v d->mX d=true->RelV v u->HV (P8 X.K H s.heap) u d
 |_,_,_,.non,e,_=>by cases e
 |_,_,_,.bl,e,_=>by cases e
 |_,_,_,.str,e,_=>by cases e
 |_,_,_,.lst _ _ _,e,_=>by cases e
 |_,_,_,.dct ..,e,_=>by cases e
 |_,_,_,.int,_,r=>by let{t,rfl}:=r;show .int _ t
 |_,_,_,.tup h r,e,b=>by cases b;let{f,k,{o,g,c,n,d},_}:=I.tuple h;show .tup {o,AV g h,c,n,d} (HH I r e k)
theorem HH(I:Inv X b h H s):∀{v:List V}{d:List D}{u:List av},Reps X.K H O v d->cH d=true->m9 v u->HVs (P8 X.K H s.heap) u d
 |_,_,_,.nil,_,.nil=>.nil
 |_,_,_,.cons r t,e,.cons f g=>by have a:(mX _&&cH _)=true:=e;rw[aAH]at a;show .cons (MA I r a.1 f) (HH I t a.2 g)
end
mutual
theorem PU(I:Inv X b A H s):∀{u:av}{d:D},HV (P8 X.K H s.heap) u d->∃v,RelV v u/\Rep X.K H O v d:=by
 intro _ _ z;cases z with
 |int i t=>show{.int i,{t,rfl},.int}
 |@tup a _ _ p r=>let{o,g,c,n,h}:=p;let{Y,q}:=CW g;let{k,l,m}:=y8.ab8 (GA I r);let{w,x,{B,e,_,C,f},_}:=I.tuple q;rw[Y6 _ _ _ _ _ g]at e;cases e;rw[h]at f;injection f with y _;subst y;have:k=Y:=l.inj (by exists x);subst this;show{.ref a,rfl,.tup q m}
theorem GA(I:Inv X a b H s):∀{u:List av}{d:List D},HVs (P8 X.K H s.heap) u d->y8 X.K H O u d
 |_,_,.nil=>.nil
 |_,_,.cons r t=>.cons (PU I r) (GA I t)
end
end
section
def a0f(X:Cx)(B:D->Bool)(U:List D->List D)(f:Ev->R D):TE:=λl H Q=>∃m n O g,EnvOk X.K m n H O l g/\match f g with
 |.ok (.lst b)=>(b.all B=true/\(U b).length<=63)/\∀S o h e a,Same H a->a S=none->a0q X.w o h->y8 X.K a O h e->e.Nodup->(∀d,d∈e↔d∈b)->Q (.ref S) (upd a S<|.frz o (.own S))
 |.ex x=>∀k,Same H k->XW X x k
 |_=>False
def VE{B:D->Bool}{U:List D->List D}(hB:∀{d},B d=true->mX d=true/\A5 d<8/\∃T,d=.tup T)(hU:∀{ds:List D},(∀d∈ds,B d=true)->∀d,d∈U ds↔d∈ds)(ha:PB X e f)(hh:X.calm=true)(hu:X.A.units+300<dA)(hg:Gl X "set"<|>1)(hm:X.mg "set"=none<|>4)(hv:dm "set"=some (.type "set")<|>3)(he:a5 [e] X.env=(false,dC e X.env)::a5 [] X.env<|>1)(bh:(dq C (a5 [] X.env)).any (·.1)=false<|>1):
  PE X (.Call (.Name "set" p) [e] [] C) (a0f X B U f):=by
 show wF λJ s σ H Q I H9 O0 O ρ E q=>?_;show aAK (K0 I hg hm hv ?_ (by symm) (by symm));have ui:PA X [e] _:=G0 ha Z5 he;show aBb (D6 (ui C J s σ H (λvs g=>∃v ds,vs=[v]/\f ρ=.ok (.lst ds)/\Same H g/\z6 X.K g O v (.lst ds)) I {H9,O0,O,ρ,E,?_}) λus h z9=>?_) he bh
 .cases b:f ρ with
  |ex z=>rw[b]at q;show q
  |bad=>rw[b]at q;show q.elim
  |ok d=>
   rw[b]at q;cases d with
   |lst ds=>showλv g h r1=>{v,ds,rfl,rfl,h,r1}
   |_=>show q.elim
 let{vs,g,m,r1,v,ds,ev,ef,sm,rb}:=z9;subst ev;rw[ef]at q;let{{hp,qo},q}:=q;let{a,ws,rfl,hS,rr}:=rb.aa5;let{u,rfl,ru}:=vals1 r1;cases ru;let{k,rv,{oL,nL,gL,cL,dL,sL},zL}:=m.list hS;have pt:∀d∈ds,B d=true:=aBt.mp hp;have hlen:k.toArray.size=ds.length:=by rw[aAD,<-rv.length,rr.length]
 have st:y8 X.K g O k ds:=y8.of rv rr;have L:∀(i:Nat) (v:av),k.toArray[i]?=some v->aj (P8 X.K g h.heap) v (ds.getD i .non):=λi v n=>by
  rw[aCH]at n;let{d,x,w,mo,rp}:=J6 st n;have qt:ds.getD i .non=d:=by rw[aAr,x];rfl
  rw[qt];have hpt:=pt d (aAi x);let{Y,hd8,T,rfl}:=hB hpt;have hv:=MA m rp Y mo;cases hv with
  |tup p r=>show{_,_,rfl,rfl,hd8,.tup p r}
 have vd:∀i<k.toArray.size,A5 (ds.getD i .non)<8/\∃T,ds.getD i .non=.tup T:=λi n=>by
  have N:i<ds.length:=by rw[<-hlen];show n
  have b:ds.getD i .non=ds[i]:=by rw[aAr,aAd N];rfl
  rw[b];show(hB<|pt _<|aBC N).2
 show AM (Y6 X.K g h.heap) (val:=λi=>ds.getD i .non) (U:=U ds) (m.ok.hd hh) {oL,gL,cL,nL,sL} L vd (λi n=>?_) (by lia) hu λh' tk bp jd qi kp=>?_
 .have N:i<ds.length:=by rw[<-hlen];show n
  rw[hU pt];have b:ds.getD i .non=ds[i]:=by rw[aAr,aAd N];rfl
  change ds.getD i .non∈ds;rw[b];show aBC N
 let{{o,y,ep,t,Y,hc,zf,hsl,x,l,msk,pr,led,pl},nd}:=jd;have mem:∀d,d∈bp↔d∈ds:=λd=>by
  rw[qi];constructor
  .rintro⟨j,hj,b⟩;have um:j<ds.length:=by rw[<-hlen];show hj
   have e2:ds.getD j .non=ds[j]:=by rw[aAr,aAd um];rfl
   rw[<-b,e2];show aBC um
  intro x;let{j,hj,b}:=aBa x;show{j,by rw[hlen];show hj,?_};change ds.getD j .non=d;rw[aAr,aAd hj,<-b];rfl
 have I2:=m.laid (a:=h.heap.objs.size) (o:=.frz o (.own h.heap.objs.size)) (h':=h') (t':=tk) kp (aAj _) {Y,o,Y};show{.ref h.heap.objs.size,_,I2,rfl,q h.heap.objs.size o (y.toList.map (·.2)) bp g sm (m.hok.fresh<|aAj _) {{hc,zf,hsl},y,ep,t,x,?_,pl,led,l.tab.asc,rfl} ?_ nd mem}
 .have h1:=l.len;have h2:=l.room;erw[aGa,aAH,beq_iff_eq,decide_eq_true_eq];show{by simpa using h1,by change t.place.size+t.dummies.size<=t.mask;rw[l.tab.nod];simpa using h2}
 have:∀{y:List (Int×av)}{ds:List D},Paired (EV<|P8 X.K g h.heap) y ds->y8 X.K g O (y.map (·.2)) ds:=λ{y ds} p=>by
  induction p with
  |nil=>show .nil
  |cons r _ ih=>show .cons (PU m r.1) ih
 show this pr
def xS(h:cy) (v:av):List Int:=open Classical in if p:∃d,V6 d=true/\HV h v d then flat p.choose else[]
def T7(b:V6 d=true)(a:HV h v d):xS h v=flat d:=by unfold xS;have q:∃d,V6 d=true/\HV h v d:={d,b,a};rw[dif_pos q,HV.inj q.choose_spec.2 a]
def cC(f:V6 d=true)(e:HV h v d):∃b items,v=.ref b/\IsTup h b items/\IntsAre items.toList (flat d):=by
 rw[(gB f).2]at e;cases e with
 |tup p r=>
  show{_,_,rfl,p,?_};have:∀{a:List av}{l:List Int},HVs h a (l.map D.int)->IntsAre a l:=λ{a l} r=>by
   induction l generalizing a with
   |nil=>cases r;show .nil
   |cons i l g=>
    cases r with
    |cons r t=>cases r;show .cons _ _ (g t)
  show this r
def ET{prog:bo}{w:cq}{A:cp}{E:B4}{s:a9}{x y:av}{d e:D}{f:Bool}{Q:BA}(g:V6 d=true)(h:V6 e=true)(k:HV s.heap x d)(l:HV s.heap y e)(q:Q (HT.lexLt (flat d) (flat e)) s):bc (be prog w) A (keyLt' (TS.tupK f) x y) Q E s:=by let{b,m,rfl,n,o}:=cC g k;let{t,a,rfl,p,r}:=cC h l;show TS.lt_ints f n p o r q
def pS{prog:bo}{w:cq}{A:cp}{E:B4}{s:a9}{vs:List av}{Q:SortKind->a9->Prop}(h:∀x∈vs,∃d,V6 d=true/\HV s.heap x d)(B:2<=vs.length)(q:Q (TS.tupK true) s):bc (be prog w) A (keyKind' vs.toArray) Q E s:=by
 obtain⟨g,n⟩:∃g:av->av,∀x∈vs,∃b a k t,x=.ref b/\IsTup s.heap b a/\a[0]?=some (g x)/\g x=.int k t:=by
  show{λx=>open Classical in if z:∃p,∃b a k t,x=.ref b/\IsTup s.heap b a/\a[0]?=some p/\p=aGo k t then z.choose else .none,λx o=>?_};let{d,C,I}:=h x o;let{b,a,rfl,J,f}:=cC C I;have H:=(gB C).1;have z:∃p,∃m a k t,aDr b=.ref m/\IsTup s.heap m a/\a[0]?=some p/\p=aGo k t:=by
   cases e:a.toList with
   |nil=>rw[e]at f;generalize flat d=l at f H;cases f;show kb rfl H
   |cons p N=>
    rw[e]at f;generalize flat d=l at f;cases f with
    |cons k t O=>show{_,b,a,k,t,rfl,J,by rw[<-aAB,e];rfl,rfl}
  dsimp only;rw[dif_pos z];let{m,L,k,t,r,u,v,y}:=z.choose_spec;show{m,L,k,t,r,u,v,y}
 show TS.kind_tuples (T:= "int") g (λx o=>?_) (λz=>by rw[z]at B;simp at B) (by symm) q;let{b,a,k,t,r,u,v,y}:=n x o;show{b,a,r,u,v,by rw[y];show typeIs_int s k t}
def bH{K:km}{H:Hp}{O:bb->Prop}{p b:List av}{ds:List D}{key:av->List Int}(st:y8 K H O p ds)(I:b.Perm p)(J:b.Pairwise λx y=>HT.lexLt (key y) (key x)=false)(L:∀u d,(∃v,RelV v u/\Rep K H O v d)->d∈ds->key u=flat d)(pt:∀d∈ds,V6 d=true)(N:ds.Nodup):
  ∃a,y8 K H O b a/\a.Perm ds/\NK a:=by
 let{a,m,n}:=eG I st;show{a,n,m,?_};have o:a.Nodup:=m.nodup_iff.mpr N;have s:∀d∈a,V6 d=true:=λd f=>pt d (m.mem_iff.mp f);have w:∀u d,(∃v,RelV v u/\Rep K H O v d)->d∈a->key u=flat d:=λu d h f=>L u d h (m.mem_iff.mp f);clear I m st N pt L;induction n with
 |nil=>show .nil
 |@cons u d p ds r t A=>
  have B:=aAv.mp J;have C:=aAP.mp o;show aAv.mpr {λe g=>?_,A B.2 C.2 (λd f=>s d (.tail _ f)) λu d h f=>w u d h (.tail _ f)};have:∃k∈p,∃v,RelV v k/\Rep K H O v e:=by
   clear A J B C o s w r;induction t with
   |nil=>cases g
   |cons r t A=>
    rcases aAg.mp g with rfl|g
    .show{_,.head _,r}
    let{k,E,q}:=A g;show{k,.tail _ E,q}
  let{k,E,q}:=this;have l:=B.1 k E;rw[w k e q (.tail _ g),w u d r (.head _)]at l;cases z:HT.lexLt (flat d) (flat e)with
  |true=>rfl
  |false=>have:=pK (s _<|.head _) (s _<|.tail _ g) (TS.lex_total _ _ z l);subst this;show kb g C.1
def aY{p p2 gr:Pos}{f:Ev->R D}(ha:PB X e f)(hh:X.calm=true)(hu:X.A.units+300<dA)(hg:Gl X "set"<|>1)(hm:X.mg "set"=none<|>4)(hg2:Gl X "sorted"<|>1)(ml:X.mg "sorted"=none<|>4)
  (hv:dm "set"=some (.type "set")<|>3) (hv2:dm "sorted"=some (.builtin "sorted")<|>3)
  (he:a5 [e] X.env=(false,dC e X.env)::a5 [] X.env<|>1) (bh:(dq gr (a5 [] X.env)).any (·.1)=false<|>1)
  (nh:a5 [.Call (.Name "set" p2) [e] [] gr] X.env=(false,dC (.Call (.Name "set" p2) [e] [] gr) X.env)::a5 [] X.env<|>1) (xb:(dq pos (a5 [] X.env)).any (·.1)=false<|>1):
  PF X (.Call (.Name "sorted" p) [.Call (.Name "set" p2) [e] [] gr] [] pos) (λρ=>(f ρ).bind ssR):=by
 show wF λpins s σ H Q I H9 O0 O ρ E q=>?_;dsimp only at q;show aAK (K0 I hg2 ml hv2 ?_ (by symm) (by symm));show aBl (D6 ((G0 (VE (p:=p2) (B:=V6) (U:=K6) (λh=>{G3 h,FY h,_,(gB h).2}) C7 ha hh hu hg hm hv he bh) Z5 nh) pos pins s σ H (λvs H2=>∃S o es m g T,vs=[.ref S]/\H2=upd T S (.frz o (.own S))/\f ρ=.ok (.lst g)/\(g.all V6=true/\(K6 g).length<=63)/\Same H T/\T S=none/\a0q X.w o es/\y8 X.K T O es m/\m.Nodup/\(∀d,d∈m↔d∈g)) I {H9,O0,O,ρ,E,?_})
  λus s1 z=>?_) nh xb
 .cases e1:f ρ with
  |ex z=>rw[e1]at q;show q
  |bad=>rw[e1]at q;show q.elim
  |ok d=>
   rw[e1,R.aa0]at q;cases d with
   |lst g=>
    erw[ssR]at q;by_cases hc:g.all V6=true/\(K6 g).length<=63
    .show{hc,λS o es m T sm hS so st nd r=>{S,o,es,m,g,T,rfl,rfl,rfl,hc,sm,hS,so,st,nd,r}}
    rw[jl hc]at q;show q.elim
   |_=>show q.elim
 let{vs,H2,I2,r1,S,o,es,m,g,T,ev,eH,ef,{hp,qo},sm,hS1,so,st,nd,r}:=z;subst ev eH;let{u,rfl,ru}:=vals1 r1;cases ru;rw[ef,R.aa0]at q;erw[ssR]at q;rw[jk {hp,qo}]at q;have pt:∀d∈g,V6 d=true:=aBt.mp hp;have ye:∀d∈m,V6 d=true:=λd N=>pt d ((r d).mp N);have s12:Same T (upd T S<|.frz o (.own S)):=j5 hS1 _;have kn:=st.same s12;let{hc,ea,ep,t,N,hf,hpln,led,asc,ees}:=so;have goS:=(I2.hok S _ j2).1;have hsl:(K6 g).Perm m:=by
  letI:DecidableEq D:=λa b=>aDZ _
  show(aDw (KE<|O6 g) nd).mpr λd=>by rw[C7 pt,r]
 have hsz:ea.size=m.length:=by have:=st.length;rw[<-ees]at this;exists this
 have h63':m.length<=63:=by rw[<-hsl.length_eq];show qo
 have wp:=SI.walkL_perm X.w S ea ep;have wpv:((SI.walkL X.w S ea ep).map (·.2)).Perm es:=by rw[<-ees];show wp.map _
 have J:∀u∈(SI.walkL X.w S ea ep).map (·.2),∃d,d∈m/\V6 d=true/\HV s1.heap u d:=λu hu=>by let{d,N,v,rv,rp}:=kn.get (wpv.mem_iff.mp hu);show{d,N,ye d N,R6 I2 rp (G3<|ye d N) rv}
 show TS.sorted_keys (f:=true) (key:=xS s1.heap) (C:=λs'=>∃h' Y,s'={s1 with heap:=h',toks:=Y}/\∀b o,s1.heap.get? b=some o->h'.get? b=some o)
  (λ{Q'} hq=>SI.collect_set (by simp[I2.ok.hd hh]) ({o,goS,hc.1,N}) hf hpln (λnb=>by rw[led];exists nb) asc (by rw[hsz];show aAk h63' (by symm)) λh' Y k=>hq _ {h',Y,rfl,k})
  (λs' ⟨h',Y,L,k⟩ s6 k6 x hx y hy prog w A E hA {Q} qq=>?_) (λh2 s' ⟨h',Y,L,k⟩ s6 k6 A {Q} qq=>?_) (by rw[aAh,wp.length_eq,aBn,hsz];lia) λs' gm h' l ⟨h1,Y,L,k⟩ pm zg k2 hl ⟨n,gl⟩=>?_
 .subst L;let{d,_,pd,om}:=J x hx;let{d',_,pd',ou}:=J y hy;rw[T7 pd om,T7 pd' ou]at qq;show ET pd pd' (om.keeps λb o e _=>k6 b o (k b o e)) (ou.keeps λb o e _=>k6 b o (k b o e)) qq
 .subst L;show pS (λx hx=>?_) h2 qq;let{d,_,pd,om}:=J x hx;show{d,pd,om.keeps λb o e _=>k6 b o (k b o e)}
 subst L;let{ng,zr,p2,qp}:=bH (key:=xS s1.heap) kn (pm.trans wpv) zg (by rintro u d ⟨v,rv,rp⟩ N;show T7 (ye d N) (R6 I2 rp (G3<|ye d N) rv)) ye nd;have e2:ng=K6 g:=aX qp (O6 g) λd=>by rw[p2.mem_iff,r,C7 pt]
 subst e2;let{wv,mo,rr}:=zr.ab8;have I2':=I2.kept (h':=h1) (t':=Y) k;have I3:=I2'.laid (a:=l) (o:=.lst wv) (h':=h') (t':=Y) k2 hl {by rw[rr.length];show aAk qo (by symm),gm,n,mo,gl};show{.ref l,_,I3,rfl,q wv _ l (sm.trans s12) (I2'.hok.fresh hl) rr}
end
end
section
variable [Tabs]
section
def xz:D->R (List D)
 |.lst Y=>.ok Y.reverse
 |_=>.bad
def DI(ha:PB X e f)(hh:X.calm=true)(hg:Gl X "reversed"<|>1)(hm:X.mg "reversed"=none<|>4)(J:Gl X "list"<|>1)(ml:X.mg "list"=none<|>4)(hv:dm "reversed"=some (.type "reversed")<|>3)(L:dm "list"=some (.type "list")<|>3)(he:a5 [e] X.env=(false,dC e X.env)::a5 [] X.env<|>1)(bh:(dq l (a5 [] X.env)).any (·.1)=false<|>1)(nh:a5 [.Call (.Name "reversed" N) [e] [] l] X.env=(false,dC (.Call (.Name "reversed" N) [e] [] l) X.env)::a5 [] X.env<|>1)(xb:(dq h (a5 [] X.env)).any (·.1)=false<|>1)(T:dq h (a5 [] X.env)=[]<|>1):
  PF X (.Call (.Name "list" p) [.Call (.Name "reversed" N) [e] [] l] [] h) (λρ=>(f ρ).bind xz):=by
 show wF λm s σ H Q I H9 O0 O ρ E q=>?_;dsimp only at q;show aAK (K0 I J ml L (aBb ?_ nh xb) (by symm) (by symm));rw[nh];change bc _ _ (spliced ((false,dC (.Call (.Name "reversed" N) [e] [] l) X.env)::dq h (a5 [] X.env))) _ _ s;show aEP (aAK (K0 I hg hm hv ?_ (by symm) (by symm)));show aBb (D6 ((G0 ha Z5 he) l m s σ H (λk n=>∃v w,k=[v]/\f ρ=.ok (.lst w)/\Same H n/\z6 X.K n O v (.lst w)) I {H9,O0,O,ρ,E,?_}) λB x z9=>?_) he bh
 .cases e1:f ρ with
  |ex z=>rw[e1]at q;show q
  |bad=>nofun
  |ok d=>
   rw[e1,R.aa0]at q;cases d with
   |lst w=>showλv n x U=>{v,w,rfl,rfl,x,U}
   |_=>show(q).elim
 let{k,n,C,U,v,w,ev,ef,sm,rb}:=z9;subst ev;rw[ef,R.aa0]at q;let{a,Y,rfl,hS,rr}:=rb.aa5;let{u,rfl,ru}:=vals1 U;cases ru;let{g,rv,{oL,nL,gL,cL,dL,sL},zL}:=C.list hS;have hl:x.heap.IsList a g.toArray:={oL,gL,cL,nL,sL};show call_reversed_list hl ?_;rw[T];show aFc ?_;show SZ.QQ (C.ok.hd hh) (aAl<|aAf gL) (aAD▸rv.length▸zL) {_,aAp _ rfl,rfl,rfl} (hl.push _) λh' tk c kp gl=>?_;have kk:=λb u e=>kp b u (aAl<|aAf e) (aAc _ e);have y:x.heap.objs.size<=(x.heap.push<|revObj a<|(g.toArray.size:Int)-1).objs.size:=by rw[aBw];simp
 have A:m9 Y.reverse g.reverse:=by
  have:∀{k:List V}{B:List av},m9 k B->m9 k.reverse B.reverse:=λ{k B} r=>by
   induction r with
   |nil=>show .nil
   |cons r t ih=>rw[aAN,aAN];show ih.append (.cons r .nil)
  show this rv
 show{.ref _,_,(C.laid (o:=.lst Y.reverse) (h':=h') (t':=tk) kk y {by rw[aCD];show zL,g.reverse,c,A,by rw[gl];simp}),rfl,q Y.reverse n _ sm (C.hok.fresh y) rr.reverse}
def _root_.L2.Inv.ae2(I:Inv X d f H s)(k:∀b u,s.heap.get? b=some u->h'.get? b=some u)(a:Same H Hn)(g:∀b u,H b=none->Hn b=some u->s.heap.get? b=none/\ObjOk X.prog X.w Hn h' b u):
  Inv X d f Hn {s with heap:=h',toks:=t'}:=by
 show I.un {λb o e _ _ _=>k b o e,λb o e _ _ _=>{o.slots,k b o e},λb o e n _=>?_,λb o e _=>{o,k b o e},λb Y e=>a _ _ e,λb o u e=>a _ _ e,λb l e=>a _ _ e} λb u e=>?_
 .cases q:Hn b with
  |none=>rfl
  |some u=>nofun
 cases q:H b with
 |none=>show(g b u q e).2
 |some h=>have:=a b h q;rw[e]at this;cases this;show(I.hok b u q).ab7 (λc v _ z=>k c v z) (λc z=>a _ _ z) λc u _ z=>a _ _ z
def kZ(Y d:List D):List D:=List.zipWith (λa b=>D.tup [a,b]) Y d
def IG:List D->R (List D)
 |[.lst Y,.lst a]=>if Y.length=a.length then .ok (kZ Y a)else .bad
 |_=>.bad
def VG(ds:List D):IG ds=.bad\/∃Y a,ds=[.lst Y,.lst a]:=by
 unfold IG;split
 .show .inr {_,_,rfl}
 show .inl rfl
def IH{K:km}{h:Hp}{O:bb->Prop}{h0 h':cy}{l:bb}(hf:∀b,h0.get? b=none->h b=none):∀{Y f:List D}{m p B:List av},y8 K h O m Y->y8 K h O p f->Y.length=f.length->
  (∀(j:Nat) (v:av),B[j]?=some v->∃T x y,v=.ref T/\m[j]?=some x/\p[j]?=some y/\ik h' T x y/\T≠l/\h0.get? T=none)->B.length=Y.length->
  ∃(vs:List V) (Hn:Hp),m9 vs B/\Same h Hn/\(∀b u,h b=none->Hn b=some u->h0.get? b=none/\b≠l/\∃ws its,u=.tup ws/\ws.length<=2/\m9 ws its/\IsTup h' b its.toArray)/\Reps K Hn O vs (kZ Y f):=by
 intro Y f m p B;induction B generalizing Y f m p with
 |nil=>
  intro s t z _ A;cases Y with
  |nil=>cases f with
   |nil=>show{[],h,.nil,Same.refl _,λb u n q=>(by rw[n]at q;cases q),.nil}
   |cons _ _=>cases z
  |cons _ _=>cases A
 |cons v B ih=>
  intro s t z hP A;cases s with
  |nil=>cases A
  |@cons u d m Y rx s=>
   cases t with
   |nil=>cases z
   |@cons J d' p f ry t=>
    let{T,x,y,rfl,ex,ey,hp,nl,r}:=hP 0 v rfl;cases ex;cases ey;let{vs,Hn,r1,k,L,rr}:=ih s t (by exists z) (λj v hj=>by let{T,x,y,e1,N,e3,e4}:=hP (j+1) v (by exists hj);show{T,x,y,e1,by simpa using N,by simpa using e3,e4}) (by exists A)
    let{C,Q,a}:=rx;let{E,U,e}:=ry;have v2:m9 [C,E] [u,J]:=.cons Q (.cons U .nil);cases q:Hn T with
    |none=>
     have H:Same Hn (upd Hn T<|.tup [C,E]):=j5 q _;show{.ref T::vs,upd Hn T (.tup [C,E]),.cons rfl r1,k.trans H,λb w n I=>?_,.cons (.tup (R4.of j2) (.cons ((a.same k).same H) (.cons ((e.same k).same H) .nil))) (rr.same H)};by_cases hb:b=T
     .subst hb;rw[j2]at I;cases I;show{r,nl,_,_,rfl,by simp,v2,{_,hp,rfl,0,rfl}}
     rw[k7 hb]at I;show L b w n I
    |some w=>
     let{_,_,ws,its,rfl,_,vw,{o,g,_,n,dd}}:=L T w (hf T r) q;have zu:h'.get? T=some {cls:=.type "tuple",data:=.seq #[u,J]}:=hp;rw[zu]at g;cases g;have N:its=[u,J]:=by grind
     subst N;have:ws=[C,E]:=vw.inj v2;subst this;show{.ref T::vs,Hn,.cons rfl r1,k,L,.cons (.tup (R4.of q) (.cons (a.same k) (.cons (e.same k) .nil))) rr}
def CM{e1 e2:cv}{p p2 w:Pos}{f1 f2:Ev->R D}(ha1:PB X e1 f1)(ha2:PB X e2 f2)(hh:X.calm=true)(hg:Gl X "zip"<|>1)(hm:X.mg "zip"=none<|>4)(hg2:Gl X "list"<|>1)(ml:X.mg "list"=none<|>4)
  (hv:dm "zip"=some (.type "zip")<|>3) (hv2:dm "list"=some (.type "list")<|>3)
  (he1:a5 [e2] X.env=(false,dC e2 X.env)::a5 [] X.env<|>1) (he:a5 [e1,e2] X.env=(false,dC e1 X.env)::a5 [e2] X.env<|>1) (bh:(dq w (a5 [e2] X.env)).any (·.1)=false<|>1)
  (nh:a5 [.Call (.Name "zip" p2) [e1,e2] [] w] X.env=(false,dC (.Call (.Name "zip" p2) [e1,e2] [] w) X.env)::a5 [] X.env<|>1) (xb:(dq k (a5 [] X.env)).any (·.1)=false<|>1) (hnl:dq k (a5 [] X.env)=[]<|>1):
  PF X (.Call (.Name "list" p) [.Call (.Name "zip" p2) [e1,e2] [] w] [] k) (λρ=>(p5 f1 (p5 f2 N8) ρ).bind IG):=by
 show wF λC s σ H Q I H9 O0 O ρ E q=>?_;dsimp only at q;show aAK (K0 I hg2 ml hv2 (aBb ?_ nh xb) (by symm) (by symm));rw[nh];change bc _ _ (spliced ((false,dC (.Call (.Name "zip" p2) [e1,e2] [] w) X.env)::dq k (a5 [] X.env))) _ _ s;show aEP (aAK (K0 I hg hm hv (aBb (D6 ((o6 ha1 (o6 ha2 w8 he1) he) w C s σ H (λm A=>∃v1 v2 Y r,m=[v1,v2]/\p5 f1 (p5 f2 N8) ρ=.ok [.lst Y,.lst r]/\Y.length=r.length/\Same H A/\z6 X.K A O v1 (.lst Y)/\z6 X.K A O v2 (.lst r)) I {H9,O0,O,ρ,E,?_}) λus g z9=>?_) he bh) (by symm) (by symm)))
 .cases e1:p5 f1 (p5 f2 N8) ρ with
  |ex z=>rw[e1]at q;show q
  |bad=>rw[e1]at q;show q.elim
  |ok ds=>
   rw[e1,R.aa0]at q;rcases VG ds with z|⟨Y,r,rfl⟩
   .rw[z]at q;show q.elim
   erw[IG]at q;by_cases hc:Y.length=r.length
   .intro m A g t;cases t with
    |cons ra t=>cases t with
     |cons rb t=>cases t with
      |nil=>grind
   nofun
 let{m,A,J,t,v1,v2,Y,r,ev,ef,L,sm,rb1,rb2}:=z9;subst ev;rw[ef,R.aa0]at q;erw[IG]at q;rw[jk L]at q;let{a,wx,rfl,hSx,rx}:=rb1.aa5;let{b,wy,rfl,hSy,ry}:=rb2.aa5;let{u1,u2,rfl,ru1,ru2}:=vals2 t;cases ru1;cases ru2;let{N,d,{oX,nX,gX,cX,dX,sX},zX}:=J.list hSx;let{U,rvy,{oY,nY,gY,cY,dY,sY},zY}:=J.list hSy;have hlx:g.heap.IsList a N.toArray:={oX,gX,cX,nX,sX};have hly:g.heap.IsList b U.toArray:={oY,gY,cY,nY,sY};show call_zip_2 hlx hly λh z1 z2 z3 z4 z5 zsz k1=>?_;rw[hnl];show aFc ?_;have lx:N.length=Y.length:=by rw[<-d.length,rx.length]
 have ly:U.length=r.length:=by rw[<-rvy.length,ry.length]
 have I2:=J.kept (h':=h) (t':=g.toks) k1;have D:=zipApart_new (n:=g.heap.objs.size) (aAf gX) (aAf gY);show SZ.OU (s:={g with heap:=h}) (J.ok.hd hh) D (by grind) (by rw[aAD,<-d.length];show zX) {{_,_,z1,.inl rfl},z2,{_,_,z3},z4,z5,hlx.at λo e=>k1 _ o e,hly.at λo e=>k1 _ o e} λh' B c kp gl hP=>?_;have k12:=λb u e=>kp b u (by have f:=aAf e;simp;show{aAl (aAm f<|aDF _ _),aAl (aAm f<|aDF _ _),aAl f,aAl (aAm f<|aDF _ _)}) (k1 b u e)
 let{m,Hn,rva,smn,pf,rr}:=IH (h0:=h) (h':=h') (l:=h.objs.size) (λb f=>by
  cases q:A b with
  |none=>rfl
  |some u=>show kb f ((I2.hok b u q).live)) (B:=B.toList) (y8.of d rx) (y8.of rvy ry) L (λj v hj=>by
  let{T,x,y,e1,e2,e3,e4,e5,e6}:=hP.2 j v (by rw[<-aAB];show hj);show{T,x,y,e1,by simpa using e2,by simpa using e3,e4,λz=>e5 (by simp[z]),e6}) (by rw[aBn,hP.1,aAD,lx])
 have hls:Hn h.objs.size=none:=by
  cases q:Hn h.objs.size with
  |none=>rfl
  |some u=>have:=(pf _ u (I2.hok.fresh<|aAj _) q).2.1;show kb rfl this
 have hlen:m.length<=sizeLine:=by rw[rva.length,aBn,hP.1,aAD,<-d.length];show zX
 have I3:=J.ae2 (Hn:=upd Hn h.objs.size (.lst m)) (h':=h') (t':=g.toks) k12 (smn.trans<|j5 hls _) (λb u n qb=>by
  by_cases f:b=h.objs.size
  .subst f;rw[j2]at qb;cases qb;show{aEr (by rw[zsz];lia),hlen,B.toList,c,rva,by rw[gl]}
  rw[k7 f]at qb;let{h0b,_,ws,its,rfl,l2,vw,tt}:=pf b u n qb;show{?_,aAk l2 (by symm),its,vw,tt};cases z:g.heap.get? b with
  |none=>rfl
  |some o=>rw[k1 b o z]at h0b;cases h0b)
 show{.ref _,_,I3,rfl,q m Hn _ (sm.trans smn) hls rr}
end
mutual
def kT:D->Nat
 |.tup Y=>J4 Y+1
 |_=>1
def J4:List D->Nat
 |[]=>0
 |x::Y=>kT x+J4 Y
end
theorem cP:∀Y a:List D,J4 (Y++a)=J4 Y+J4 a:=by
 intro b a;cases b with
 |nil=>simp[J4]
 |cons x Y=>rw[aBQ,J4,J4,cP Y a];lia
section
variable{prog:bo}{w:cq}
def PHe(prog:bo)(w:cq)(h:cy)(v:av)(d:D):Prop:=∀(A:cp) (E:B4) (s:a9) (Q:Int->a9->Prop),s.heap=h->A.units+8*A5 d<dA->Q (n9 d) {s with toks:=s.toks+kT d}->bc (be prog w) A (pyHash v) Q E s
mutual
theorem RL:∀{v:av}{d:D},HV h v d->PHe prog w h v d
 |_,_,.int i t=>λA E s Q B C q=>(intKind prog w).pyHash (k:=i) (intKind_is _ _ _ _) q
 |_,_,.tup (a:=a) (items:=items) (ds:=ds) p r=>λA E s Q B C q=>by
  have fs:=GQ r;subst B;let{o,H,L,n,N}:=p;have l:s.TypeIs (.ref a) "tuple":={o,H,L};have O:A.units<dA:=by lia
  rw[A5]at C;unfold pyHash;first|unfold pyHashByItsType|skip
  first|show aAa (wpAny_cRoomFor_or (.inr O) ?_)|skip
  show aAa (aBs l PySem.F.slot_tuple_hash.lookup ?_);change bc _ _ (if(some (Value.builtin "tuple.__hash__")==some Value.none)=true then _ else _) Q E s;rw[jl (by rw[beq_builtin_none];show aBB)];show aAa (aBs l PySem.F.slot_tuple_hash.lookup ?_);change bc _ _ (callSpecialIfBoundUnlessNone? (.ref a) "__hash__" _>>=_) Q E s;show aAa (aDj l PySem.F.slot_tuple_hash<|aBc PySem.F.slot_tuple_hash l PySem.F.entry_tuple_hash ?_ (PySem.F.args_tuple_hash_1 _));change bc _ _ (aDx (.ref a)>>=_) _ _ s;show aAa (wpAny_tupleItemsOf H N ?_);show aAa ?_;rw[<-aCl];show aCo _
   (λrest (b:Array Int) y=>∃done left,ds=done++left/\Paired (PHe prog w s.heap) rest left/\b.toList=done.map n9/\y={s with toks:=s.toks+J4 done})
   _ ?_ ?_ _ _ {[],ds,rfl,fs,rfl,rfl}
  .rintro x rest b y ⟨done,left,f,z,m,rfl⟩;cases z with
   |@cons _ d _ e T I=>
    show aAa (T _ _ _ _ rfl ?_ ?_)
    .have:A5 d<=w9 ds:=by rw[f];show nQ (j:=done.length) (by simp)
     rw[t8];lia
    have J:s.toks+J4 done+kT d=s.toks+J4 (done++[d]):=by rw[cP];simp[J4];lia
    first
     |show aAb ⟨done++[d],e,by simp[f],I,by simp[m],by rw[<-J]⟩
     |show aAa (aAb (aAb ⟨done++[d],e,by simp[f],I,by simp[m],by rw[<-J]⟩))
  rintro b y ⟨done,left,f,z,m,rfl⟩;cases z;rw[aBW]at f;subst f;change bc _ _ (retInt<|aAI b.toList) _ _ _;rw[m];show wpAny_ret_mkInt ?_;change bc _ _ (if(decide (-(2:Int)^63<=aAI (ds.map n9))&&decide (aAI (ds.map n9)<2^63))=true then _ else _) Q E _;have g:=q;rw[n9,gI,kT]at g;unfold reduceHash at g;by_cases u:(decide (-(2:Int)^63<=aAI (ds.map n9))&&decide (aAI (ds.map n9)<2^63))=true
  .rw[jk u];rw[jk u]at g;show aAb g
  rw[jl u];rw[jl u]at g;show aAa (aDu<|aAb g)
theorem GQ:∀{v:List av}{d:List D},HVs h v d->Paired (PHe prog w h) v d
 |_,_,.nil=>.nil
 |_,_,.cons r t=>.cons (RL r) (GQ t)
end
end
theorem nK:∀{n:Nat}{d:D},R0 n d=true->mX d=true/\A5 d<=n
 |n,.int i,_=>{rfl,by simp[A5]}
 |0,.tup Y,h=>by simp[R0]at h
 |n+1,.tup Y,h=>by
  have g:Y.all (R0 n)=true:=by simpa[R0]using h
  have e:∀a:List D,a.all (R0 n)=true->cH a=true/\w9 a<=n:=λa=>by
   induction a with
   |nil=>intro _;show{rfl,aAT _}
   |cons y a k=>intro f;erw[aFZ,aAH]at f;let{l,p}:=nK f.1;let{m,q}:=k f.2;show{by change(mX y&&cH a)=true;rw[l,m];rfl,by change max (A5 y) (w9 a)<=n;lia}
  let{o,r}:=e Y g;show{o,by change w9 Y+1<=n+1;lia}
 |n,.non,h=>by cases n<;>simp[R0]at h
 |n,.dct _,h=>by cases n<;>simp[R0]at h
 |n,.bl b,h=>by cases n<;>simp[R0]at h
 |n,.str x,h=>by cases n<;>simp[R0]at h
 |n,.lst Y,h=>by cases n<;>simp[R0]at h
mutual
theorem HV.ac0(k:∀b o,h.get? b=some o->(∃its n,o.data=.seq its n)->h'.get? b=some o):∀{v:av}{d:D},HV h v d->HV h' v d
 |_,_,.int i t=>.int i t
 |_,_,.tup p r=>.tup (by let{o,e,c,n,d}:=p;show{o,k _ _ e {_,n,d},c,n,d}) (HVs.ac0 k r)
theorem HVs.ac0(k:∀b o,h.get? b=some o->(∃its n,o.data=.seq its n)->h'.get? b=some o):∀{v:List av}{d:List D},HVs h v d->HVs h' v d
 |_,_,.nil=>.nil
 |_,_,.cons r t=>.cons (HV.ac0 k r) (HVs.ac0 k t)
end
instance decD:DecidableEq D:=λa b=>aDZ _
def tW(prog:bo) (w:cq):HeapKind prog w D where
 is:=λh d a=>HV h (.ref a) d/\A5 d<8
 hash:=n9
 draws:=kT
 room:=λA=>A.units+128<dA
 inj:=λx y=>HV.inj x.1 y.1
 keeps:=λ{h B k a d o C H} x m p r=>{x.1.ac0<|by rintro b I e ⟨t,n,q⟩;show(r.2 b (λz=>by subst z;rw[m]at e;cases e;rw[p]at q;cases q)).trans e,x.2}
 pyHash:=λ{A E s k a Q} u f q=>RL f.1 A E s Q rfl (by have:=f.2;lia) q
 eqBool:=λ{A E s x y a b Q} u g l q=>by
  have v:=GN (A:=A) g.1 l.1 (by have:=g.2;lia);show v prog w E Q ?_;have e:v6 x y=decide (x=y):=by
   by_cases h:x=y
   .subst h;rw[L9,kd rfl]
   rw[kc h];cases z:v6 x y with
   |false=>rfl
   |true=>show kb (fI g.1.ok l.1.ok z) h
  rw[e];show q
 quiet:=λ{A E s k a Q} f q=>iZ 8 f.1 f.2 _ A E s Q rfl q
open Classical in
def X6(U:List (D×D)) (k v:D):List (D×D):=if k∈U.map (·.1)then U.map (λp=>if p.1=k then(p.1,v)else p)else U++[(k,v)]
def tN(U:List (D×D))(k v:D)(h:(U.map (·.1)).Nodup):((X6 U k v).map (·.1)).Nodup:=by
 unfold X6;split
 .rw[aBx];have:((λx=>x.1)∘λp:D×D=>if p.1=k then(p.1,v)else p)=λp=>p.1:=by funext p;erw[Function.comp];split<;>rfl
  rw[this];show h
 rename_i n;rw[aBP,aCQ];show{h,by simp,λa f b d=>?_};simp at d;subst d;showλe=>n (e▸f)
section
def WN(I:Inv X d y H s):∀{es:List ff}{U:List (D×D)},mN X.K H O es U->∃Y:List (D×bb×av),es=Y.map (entryOfKey (tW X.prog X.w))/\Y.map (·.1)=U.map (·.1)/\(∀x∈Y,(tW X.prog X.w).is s.heap x.1 x.2.1)/\
  Paired (λ(x:D×bb×av) (p:D×D)=>x.1=p.1/\Rep X.K H O (.ref x.2.1) p.1/\(∃v,RelV v x.2.2/\Rep X.K H O v p.2)/\R0 7 p.1=true) Y U:=by
 intro _ _ h;induction h with
 |nil=>show{[],rfl,rfl,λx h=>(by cases h),.nil}
 |@cons e p _ _ h _ g=>
  let{{a,l,f},m,n,k}:=h;let{Y,o,q,r,t}:=g;let{ok,z}:=nK k;show{(p.1,a,e.val)::Y,?_,by rw[aAz,aAz,q],λx b=>?_,.cons {rfl,f,m,k} t}
  .rw[aAz,<-o];let{u,A,B}:=e;subst l n;rfl
  rcases aAg.mp b with rfl|b
  .show{R6 I f ok rfl,by change A5 p.1<8;lia}
  show r x b
def TU{P:bo}{w:cq}{K:km}{H:Hp}{O:bb->Prop}:∀{Y:List (D×bb×av)}{U:List (D×D)},Paired (λ(x:D×bb×av) (p:D×D)=>x.1=p.1/\Rep K H O (.ref x.2.1) p.1/\(∃v,RelV v x.2.2/\Rep K H O v p.2)/\R0 7 p.1=true) Y U->mN K H O (Y.map (entryOfKey (tW P w))) U:=by
 intro _ _ h;induction h with
 |nil=>show .nil
 |cons h _ a=>let{e,b,d,k}:=h;show .cons {{_,rfl,b},d,by rw[<-e];rfl,k} a
def bR{Y:List (D×bb×av)}{k:D}:(atKey Y k).isSome=true↔k∈Y.map (·.1):=by unfold atKey;grind
def GS(I:Inv X b y H s)(h:H a=some (.ext λh=>h.get? a=some o))(d:AY a o es)(r:mN X.K H O es U)(f:(U.map (·.1)).Nodup):
  ∃Y,s.heap.DictOfH (tW X.prog X.w) a Y/\Y.map (·.1)=U.map (·.1)/\Paired (λ(x:D×bb×av) (p:D×D)=>x.1=p.1/\Rep X.K H O (.ref x.2.1) p.1/\(∃v,RelV v x.2.2/\Rep X.K H O v p.2)/\R0 7 p.1=true) Y U:=by
 let{Y,g,e,k,l}:=WN I r;let{_,m,n,q,t,u}:=d;show{Y,{o,n,q,((I.hok a _ h).1),m,t,by rw[u,g],k,by rw[e];show f},e,l}
def KD{K:km}{Y:List (D×bb×av)}{U:List (D×D)}{k d:D}{b:bb}{u:av}{v:V}(f:Paired (λ(x:D×bb×av) (p:D×D)=>x.1=p.1/\Rep K H O (.ref x.2.1) p.1/\(∃v,RelV v x.2.2/\Rep K H O v p.2)/\R0 7 p.1=true) Y U)(hk:Y.map (·.1)=U.map (·.1))
  (m:Rep K H O (.ref b) k) (kk:R0 7 k=true) (g:RelV v u) (l:Rep K H O v d):
  Paired (λ(x:D×bb×av) (p:D×D)=>x.1=p.1/\Rep K H O (.ref x.2.1) p.1/\(∃v,RelV v x.2.2/\Rep K H O v p.2)/\R0 7 p.1=true) (storedH Y k b u) (X6 U k d):=by
 unfold storedH X6;by_cases h:k∈U.map (·.1)
 .rw[jk h,jk (bR.mpr<|hk▸h)];clear hk h;induction f with
  |nil=>show .nil
  |@cons x p Y U r t a=>
   rw[aAz,aAz];show .cons ?_ a;unfold putAt;by_cases e:p.1=k
   .rw[jk (r.1.trans e),jk e];show{r.1,r.2.1,{v,g,l},r.2.2.2}
   rw[jl (λz=>e (r.1.symm.trans z)),jl e];show r
 rw[jl h,jl (λz=>h (hk▸bR.mp z))];clear hk h;induction f with
 |nil=>show .cons {rfl,m,{v,g,l},kk} .nil
 |cons r t a=>show .cons r a
end
section
variable{K:Type} [DecidableEq K] {knd:HeapKind prog w K}
def rS{Q:BA}(g:knd.room A.in1)(b:knd.is s.heap k a)(l:(d==h9)=false)(e:s.heap.DictOfH knd d Y)
  (h:Q (atKey Y k).isSome {s with toks:=s.toks+knd.draws k}):bc (be prog w) A (contains (.ref d) (.ref a)) Q E s:=by
 unfold contains;try with_reducible show aAJ ?_
 show aAa (aBs e.typeIs aES.lookup ?_);show aAa (wpAny_callSpecialUnlessNone?_slot e.typeIs aES
  (aBc aES e.typeIs entry_dict_contains ?_ (args_dict_contains _ _)))
 change bc _ _ (dictGet d (.ref a)>>=_) _ _ s;show aAa (wpAny_dictGet_heap g b e ?_);cases f:atKey Y k with
 |some p=>rw[f]at h;show aAb {_,rfl,aBD h}
 |none=>rw[f]at h;show aAa (wpAny_pendingKey_other l<|aAb ⟨_,rfl,aBD h⟩)
end
def JT:D->Bool
 |.tup _=>true
 |_=>false
open Classical in
def qM(i:Nat) (ρ:Ev) (k:D):R Bool:=match ρ[i]? with
 |some (.d U)=>if R0 7 k=true/\JT k=true then .ok (!decide (k∈U.map (·.1)))else .bad
 |_=>.bad
section
def qP{K:km}{H:Hp}{O:bb->Prop}{v:V}{k:D}(r:Rep K H O v k)(h:JT k=true):∃a,v=.ref a:=by
 cases r with
 |tup h r=>show{_,rfl}
 |_=>cases h
def KU(i:Nat){x:Str}{p:Pos}{f:Ev->R D}(ha:PD X e f)(hu:X.A.units+130<dA)(hN:X.N[i]?=some x<|>1)(hv:xO X.env.scope x<|>5)
  (hd:(x==lb)=false<|>2) (fm:(x==lh)=false<|>2) (hm:i5 .NotIn (.Name x p)=false:=by first|rfl|with_unfolding_all rfl):
  FH X (.Compare e [.NotIn] [.Name x p] pos) (λρ=>(f ρ).bind (qM i ρ)):=by
 show wF λpins s σ H Q I H9 O0 O ρ E q=>?_;dsimp only at q;show wpAny_isTrue_Compare1 (LK (tb:=a0j i) ha (N5 hN hv hd fm) (R:=λy x g=>∃a b o m U k,x=.ref a/\y=.ref b/\g a=some (.ext λh=>h.get? a=some o)/\AY a o m/\mN X.K g O m U/\(U.map (·.1)).Nodup/\Rep X.K g O (.ref b) k/\R0 7 k=true/\Q (!(open Classical in decide (k∈U.map (·.1)))) g) I {H9,O0,O,ρ,E,?_} λu w s2 y x g B ry rx h=>?_) hm
 .cases C:f ρ with
  |ex z=>rw[C]at q;show q
  |bad=>rw[C]at q;show q.elim
  |ok k=>
   rw[C,R.aa0]at q;intro v H1 sm r;unfold qM at q;cases J:ρ[i]? with
   |none=>rw[J]at q;show(q).elim
   |some sl=>
    rw[J]at q;cases sl with
    |d U=>
     dsimp only at q;by_cases l:R0 7 k=true/\JT k=true
     .rw[jk l]at q;let{a,o,m,h1,_,_,L,n,T,h7}:=(E.grow sm).slot i _ J;let{b,rfl}:=qP r l.2;show{_,h1,a,b,o,m,U,k,rfl,rfl,L,n,T,h7,r,l.1,q H1 sm}
     rw[jl l]at q;show(q).elim
    |_=>show(q).elim
 let{a,b,o,m,U,k,rfl,rfl,L,n,T,h7,rk,l,qq}:=h;cases ry;cases rx;let{Y,hD,sv,hp}:=GS B L n T h7;let{ok,dp}:=nK l;show aAa (rS (knd:=tW X.prog X.w) (by change X.A.in1.units+128<dA;rw[t8];lia) {R6 B rk ok rfl,by lia} n.1 hD (aAb<|aBD ⟨g,B.tok _,?_⟩));have e3:(atKey Y k).isSome=(open Classical in decide (k∈U.map (·.1))):=by
  by_cases t:k∈U.map (·.1)
  .rw[kd t];show bR.mpr (sv▸t)
  rw[kc t];cases z:(atKey Y k).isSome with
  |false=>rfl
  |true=>show kb (sv▸bR.mp z) t
 rw[e3];show qq
def xR(i:Nat)(y:X.N.Nodup)(A:X.N[i]?=some x<|>1)(B:Loc X.env.scope x<|>8)(C:fg (.Dict [] [] a) (some (.Name x f)) g.line X.env=pure false<|>1)(J:X.fn x=true\/X.env.scope.names.lookup x=some .local<|>7):mV X (.Assign [.Name x f] (.Dict [] [] a) g) (λρ=>.ok (.nx (ρ.set i (.d [])))):=by
 rintro T U t s Y H D I ⟨O,ρ,E,fk,q⟩;show aFb (wpAny_Dict_empty ?_) C;have v:(s.heap.push {cls:=.type "dict",data:=.dict #[]}).get? s.heap.objs.size=some {cls:=.type "dict",data:=.dict #[]}:=aAp _ rfl;have l:=I.hok.fresh (aAj s.heap.objs.size);have m:=I.laid (o:=.ext λh=>h.get? s.heap.objs.size=some {cls:=.type "dict",data:=.dict #[]}) (h':=s.heap.push {cls:=.type "dict",data:=.dict #[]}) (t':=s.toks) (λ_ _ q=>aAc _ q) (aAj _)
  {v,{_,v},λh1 h2 e k=>k _ e}
 have p:h9<s.heap.objs.size:=aEL (by symm) (I.mod.glob.keeps I.bk).lt;show Q9 m y A B (show RelV (.ref s.heap.objs.size) _ from rfl) (λs3 L=>{_,_,L,?_}) J;have w:=E.ad9 (u:=.ext λh=>h.get? s.heap.objs.size=some {cls:=.type "dict",data:=.dict #[]}) (sl:=.d []) i l (OC m<|j2) trivial λQ=>{s.heap.objs.size,_,[],rfl,.inr rfl,Q,j2,{by simp[aCG p],{rfl,rfl,rfl},#[],0,rfl,rfl},.nil,aDd};show q _ _ _ w (pL m _ w.trk) λb o r n=>{by rw[k7 (t5 r l)];show r,λz=>z.elim n (t5 r l)}
def a2p(X:Cx):WJ:=λx y v H Q=>∃O a b o f U k d,x=.ref a/\y=.ref b/\H a=some (.ext λh=>h.get? a=some o)/\AY a o f/\mN X.K H O f U/\(U.map (·.1)).Nodup/\f.length<=sizeLine/\Rep X.K H O (.ref b) k/\R0 7 k=true/\Rep X.K H O v d/\
 ∀g e,AY a g e->mN X.K H O e (X6 U k d)->Q (upd H a<|.ext λh=>h.get? a=some g)
def WV(hu:X.A.units+130<dA):ZF X (a2p X):=by
 intro C s σ H x y v ov iv u Q I T ry ru z;let{O,a,b,o,es,U,k,d,E,ey,l,m,h6,h7,hz,J,L,rv,q}:=z;subst E ey;cases T;cases ry;let{Y,N,sv,hp}:=GS I l m h6 h7;let{ok,dp}:=nK L;have f:Y.length<=sizeLine:=by
  let{_,E,ea,ep,hd,he}:=m;let{o2,si,ep2,g2,_,hd2,nh,_}:=N;rw[((I.hok a _ l).1)]at g2
  nofun
 show wpAny_setItem_heap (knd:=tW X.prog X.w) (by change X.A.in1.units+128<dA;rw[t8];lia) {R6 I J ok rfl,by lia} N (λh' n hs=>?_) f;let{g,p,r,t,B,qt,xg,is',nd'}:=n;show{_,(I.write (o:=.ext λh=>h.get? a=some g) (h':=h') (t':=s.toks+kT k) (by rw[l];trivial) (.inl rfl) (λb u hb e=>(hs.2 b hb).trans e) {g,t} {t,{g,t},λh1 h2 e k=>k _ e}),q g _ {m.1,B,p,r,qt,rfl} (xg▸TU (KD hp sv J L ru rv))}
def uS(i:Nat) (ρ:Ev) (k d:D):R Out:=match ρ[i]? with
 |some (.d U)=>if R0 7 k=true/\JT k=true/\U.length<=sizeLine then .ok (.nx (ρ.set i<|.d (X6 U k d)))else .bad
 |_=>.bad
def gO(i:Nat){x:Str}{k:cv}{f g:Ev->R D}{p ps:Pos}(he:PD X e f)(l:PD X k g)(hu:X.A.units+130<dA)(hN:X.N[i]?=some x<|>1)(hv:xO X.env.scope x<|>5)(hd:(x==lb)=false<|>2)
  (fm:(x==lh)=false<|>2) (ha:(∀v,ja (.Subscript (.Name x p) k ps) X.env v=(do
   let u<-gn [v] (dC (.Name x p) X.env)
   let C<-gn [v,u] (dC k X.env)
   standAt ps
   gn [v,u,C] (setItem u C v)
   release [v,u,C] []))<|>6)
  (hs:gs [.Subscript (.Name x p) k ps] e I.line X.env=pure false<|>1) (hw:gW [.Subscript (.Name x p) k ps] e X.env=pure none<|>1) (w:(d9 [.Subscript (.Name x p) k ps] X.env).map (·.2)=[ja (.Subscript (.Name x p) k ps) X.env]<|>1):
  mV X (.Assign [.Subscript (.Name x p) k ps] e I) (λρ=>(f ρ).bind λd=>(g ρ).bind λn=>uS i ρ n d):=λH9 O0=>
 BG (EK he (QY (N5 hN hv hd fm) l (WV hu) ha) hs hw w) λD σ H O ρ E fk q=>⟨H9,O0,O,ρ,E,by
  cases J:f ρ with
  |ex z=>rw[J]at q;showλH' s=>q H' (E.same.trans s)
  |bad=>rw[J]at q;show q
  |ok d=>
   rw[J,R.aa0]at q;intro v H1 s1 r1;have L:=E.grow s1;cases y:g ρ with
   |ex z=>rw[y]at q;show(q H<|E.same.trans<|Same.refl _).elim
   |bad=>rw[y]at q;show(q).elim
   |ok n=>
    rw[y,R.aa0]at q;unfold uS at q;cases B:ρ[i]? with
    |none=>rw[B]at q;show(q).elim
    |some sl=>
     rw[B]at q;cases sl with
     |d U=>
      dsimp only at q;by_cases l:R0 7 n=true/\JT n=true/\U.length<=sizeLine
      .rw[jk l]at q;let{a,o,es,w,h2,h3,Q,h5,h6,h7}:=L.slot i _ B;show{_,w,H9,O0,O,ρ,L,?_};rw[y];intro kv H2 t r2;let{b,rfl}:=qP r2 l.2.1;have T:mN X.K H2 O es U:=h6.mono λr=>r.same t;show{O,a,b,o,es,U,n,d,rfl,rfl,t _ _ Q,h5,T,h7,by rw[h6.length];show l.2.2,r2,l.1,r1.same t,λo' Y d' r'=>?_};let{E3,k3}:=(L.grow t).ad8 (sl':=.d (X6 U n d)) (u':=.ext λh=>h.get? a=some o') B trivial w (t _ _ Q) trivial trivial λhO h0 m=>{a,o',Y,rfl,h2,h3,j2,d',r'.mono λr=>r.upd (t _ _ Q) trivial h2,tN U n d h7};show q _ _ _ E3 fk (((Kp.of s1).trans (Kp.of t)).trans k3)
      rw[jl l]at q;show(q).elim
     |_=>show aAA q⟩
end
end
section
variable [Tabs]
def _root_.L2.Inv.ae7{a:N7}{l:St}{H:Hp}{s:a9}{h':cy}{t':Nat}{L:List bb}{T:bb}{vs:List V}(I:Inv X a l H s)(k:∀b o,b∉L->s.heap.get? b=some o->h'.get? b=some o)
  (h:∀b∈L,nB X a H b) (p:s.heap.objs.size<=T) (w:vs.length<=sizeLine) {its:List av} (x:m9 vs its) (y:IsTup h' T its.toArray):Inv X a l (upd H T (.tup vs)) {s with heap:=h',toks:=t'}:=by
 have f:Same H (upd H T<|.tup vs):=j5 (I.hok.fresh p) _;have t:∀b u,H b=some u->b∉L:=λb u e z=>by rw[(h b z).1]at e;cases e
 show I.step (g':=s.gens) (d':=s.drawn) (λb g=>?_) (λb o _ _ d e _=>k b o d e) (λb o _ _ d e _=>{o.slots,k b o d e}) (λb o _ e n=>?_)
  (λb o d e=>{o,k b o d e}) (λb _ e=>f _ _ e) (λb _ _ e=>f _ _ e) (λb _ e=>f _ _ e) (λm A=>?_) (λb u e=>?_) I.bare
 .let{_,B,_,C,E,J}:=h b g;show{C,B,E,J}
 .rw[k7 (aAl<|aAm (aAf e) p)];show n
 .let{o,N,O,Q,r}:=A;show{o,N,O,k _ o (λz=>(h _ z).2.1 rfl) Q,r}
 by_cases g:b=T
 .subst g;rw[j2]at e;cases e;show{w,its,x,y}
 rw[k7 g]at e;show(I.hok b u e).ab7 (λc v d q=>k c v ?_ q) (λ_ q=>f _ _ q) λ_ _ _ q=>f _ _ q;rcases d with z|z
 .rw[z];show t b u e
 show t c _ z
def _root_.L2.Inv.ae8{a:N7}{g:St}{H:Hp}{s:a9}{h':cy}{t':Nat}{L:List bb}(I:Inv X a g H s)(k:∀b o,b∉L->s.heap.get? b=some o->h'.get? b=some o)
  (f:∀b∈L,nB X a H b):Inv X a g H {s with heap:=h',toks:=t'}:=by
 have h:∀b u,H b=some u->b∉L:=λb u e z=>by rw[(f b z).1]at e;cases e
 show I.step (g':=s.gens) (d':=s.drawn) (ch:=L) (λb l=>?_) (λb o _ _ d e _=>k b o d e) (λb o _ _ d e _=>{o.slots,k b o d e}) (λ_ _ _ _ n=>n)
  (λb o d e=>{o,k b o d e}) (λb _ e=>e) (λb _ _ e=>e) (λb _ e=>e) (λm p=>?_) (λb u e=>?_) I.bare
 .let{_,t,_,w,x,y}:=f b l;show{w,t,x,y}
 .let{o,A,B,C,r}:=p;show{o,A,B,k _ o (λz=>(f _ z).2.1 rfl) C,r}
 show(I.hok b u e).ab7 (λc v d q=>k c v ?_ q) (λ_ q=>q) λ_ _ _ q=>q;rcases d with z|z
 .rw[z];show h b u e
 show h c _ z
def aw{h:cy}{i a:bb}{k:Nat}(x:h.IsListIter i a k):∃o,h.get? i=some o/\∀v,o.data≠.cell v:=by
 let{o,e,c,d}:=x
 nofun
def Ite(K:km)(a:bb):It:=
 ⟨λi H=>∃Y x,aF K H a Y/\Y[i]?=some x,
  λi H v b=>∃T,v=.ref T/\H T=none/\∀Y,aF K H a Y->∃x,Y[i]?=some x/\b=upd H T (.tup [.int i,x]),
  λi H=>∃Y,aF K H a Y/\Y.length<=i⟩
def tnE(e d a:bb)(i:Nat)(h:cy):Prop:=(∃b,IsEnum h e d (i:Int) b)/\h.IsListIter d a i
def JU{P:bo}{w:cq}{K:km}{el:List cv}{c}{tp:Pos}{e m a:bb}(D:e≠m):Turn P w K (.Tuple el c tp) (Ite K a) [e,m] e (tnE e m a)where
 mem:=by simp
 obj:=λi h ⟨⟨f,J⟩,L⟩ c d=>by
  erw[aAg,aAY,or_false]at d;rcases d with rfl|rfl
  .show{_,J,λv z=>nomatch z}
  show aw L
 keep:=λi h t ⟨⟨f,J⟩,L⟩ k=>{{f,k _ (by simp) _ J},L.at λo e=>k _ (by simp) o e}
 item:=by
  intro X N O Q d i p s σ H E I y st T;subst N O Q;let{Y,x,A,ex}:=T;let{U,g,px,zx}:=I.list A;let{u,hu,ru}:=g.get ex;let{{f,B},C}:=st;show wpAny_pyNext_enum_item B C px.isList (x:=u) (by exists hu) D λt q0 q1 hp hsz kp=>?_;show{.ref s.heap.objs.size,rfl,wpAny_letOwnedTupleGo_enum (s:={s with heap:=t,toks:=s.toks+1}) q0 λh2 z2 sb=>?_};have l:e<s.heap.objs.size:=aAf B;have r:m<s.heap.objs.size:=by let{o,e,_}:=C;show aAf e
  have up:∀c o,c≠e->t.get? c=some o->h2.get? c=some o:=λc o d e=>sb.extBut c o d e;have hTf:s.heap.objs.size∉[e,m]:=λn=>by
   erw[aAg,aAY,or_false]at n;rcases n with n|n
   .rw[<-n]at l;show kb l (aBg _)
   rw[<-n]at r;show kb r (aBg _)
  have kk:∀c o,c∉[e,m]->s.heap.get? c=some o->h2.get? c=some o:=λc o d e=>by erw[aAg,aAY,or_false,not_or]at d;show up c o d.1 (kp c o d.1 d.2 e)
  show⟨.ref s.heap.objs.size,upd H s.heap.objs.size (.tup [.int i,x]),I.ae7 (t':=s.toks+1) kk y (aAj _) (by change 2<=sizeLine;symm) (its:=[.int i s.toks,u]) (.cons {_,rfl} (.cons ru .nil)) {_,up _ _ (aCG l) hp,rfl,0,rfl},rfl,
   {_,rfl,I.hok.fresh (aAj _),λxs' hx'=>{x,by rw[I.ab2 hx' A];show ex,rfl}},{{u,?_},q1.at λo e=>up _ o (aCp D) e},λb hb=>?_⟩
  .have:((i+1:Nat):Int)=(i:Int)+1:=by lia
   rw[this];show z2
  rw[k7 (λq:b=s.heap.objs.size=>hTf (q▸hb))];show(y b hb).1
 done:=by intro X N O Q d i p s σ H E I y st T;subst N O Q;let{Y,A,hl}:=T;let{U,g,px,zx}:=I.list A;let{{f,B},C}:=st;have hlx:=g.length;show wpAny_pyNext_enum_end (I.ok.hd d) B C px.isList (by simp;lia) λt kp=>{rfl,I.ae8 (t':=s.toks) (λc o d e=>?_) y};erw[aAg,aAY,or_false,not_or]at d;show kp c o d.2 e
 self:=by rintro _ _ _ _ _ ⟨⟨_,st⟩,_⟩ h;show wpAny_pyIter_enum st h
def FK(Y:List D):List D:=List.zipWith (λ(k:Nat) d=>D.tup [.int (k:Int),d]) (aBm Y.length) Y
def OE:List D->R (List D)
 |[.lst Y]=>.ok (FK Y)
 |_=>.bad
def lU(Y:List D)(i:Nat):(FK Y)[i]?=Y[i]?.map λd=>D.tup [.int (i:Int),d]:=by
 unfold FK;rw[List.getElem?_zipWith];by_cases h:i<Y.length
 .rw[List.getElem?_range h];cases Y[i]?<;>rfl
 rw[aDs (by exists h),aDs (by lia:Y.length<=i)];rfl
def QF{el:List cv}{c}{tp:Pos}{e1:cv}{p:Pos}{g:Ev->R D}(u:PD X e1 g)(hg:Gl X "enumerate"<|>1)(hm:X.mg "enumerate"=none<|>4)(hv:dm "enumerate"=some (.type "enumerate")<|>3)
  (L:a5 [e1] X.env=(false,dC e1 X.env)::a5 [] X.env<|>1) (bh:(dq h (a5 [] X.env)).any (·.1)=false<|>1):
  VR X (.Tuple el c tp) (.Call (.Name "enumerate" p) [e1] [] h) (λρ=>(p5 g N8 ρ).bind OE):=by
 rintro l s σ H Rr I ⟨H9,O0,O,ρ,E,fk,q⟩;dsimp only at q;show aAK (K0 I hg hm hv ?_ (by symm) (by symm));have ui:KJ X [e1] (p5 g N8):=i7 u o9 L;show aBb (D6 (ui h l s σ H (λv f=>∃v1 Y,v=[v1]/\p5 g N8 ρ=.ok [.lst Y]/\Same H f/\Rep X.K f O v1 (.lst Y)) I {H9,O0,O,ρ,E,?_}) λus m w=>?_) L bh
 .cases e1:p5 g N8 ρ with
  |ex z=>rw[e1]at q;show q
  |bad=>rw[e1]at q;show q.elim
  |ok ds=>
   rw[e1,R.aa0]at q;match ds,q with
   |[.lst Y],q=>
    intro v f m n;cases n with
    |cons ra n=>cases n with
     |nil=>show{_,Y,rfl,rfl,m,ra}
 let{v,f,t,n,v1,Y,y,ef,sm,A}:=w;subst y;rw[ef,R.aa0]at q;erw[OE]at q;cases A with
 |@lst a B _ r nx N=>
 let{u1,rfl,C}:=vals1 n;cases C;let{itx,rvx,px,zX}:=t.list r.sq;show call_enumerate_list px.isList λQ U z2 zsz k1=>?_;have I2:=t.kept (h':=Q) (t':=m.toks) k1;show wpAny_pyIter_enum (s:={m with heap:=Q}) U {_,_,_,Ite X.K a,f,rfl,I2,JU (Nat.succ_ne_self _),{{_,U},z2},λc hc=>?_,q _ f sm λH2 O2 k hK hO hO2 i=>?_}
 .have xr:m.heap.objs.size<=c:=by erw[aAg,aAY,or_false]at hc;rcases hc with rfl|rfl<;>lia
  show t.ae9 xr (t.hok.fresh xr)
 let{n2x,b}:=k.lst nx r λo q=>hK a o q;have J:=k.ab8 hO hK N;show{λd e=>?_,λe=>{B,b,?_}}
 .rw[lU]at e;cases e1:Y[i]? with
  |none=>rw[e1]at e;cases e
  |some dx=>rw[e1]at e;cases e;let{vx,g1,g2}:=J.get e1;show{{B,vx,b,g1},λx H' w=>?_};let{T,y,hT,hh}:=w;let{x1,q1,rfl}:=hh B b;rw[g1]at q1;cases q1;subst y;have s2:Same H2 (upd H2 T<|.tup [.int i,vx]):=j5 hT _;show{s2,.tup (R4.of j2) (.cons .int (.cons (g2.same s2) .nil))}
 rw[N.length];rw[lU]at e;cases e1:Y[i]? with
 |none=>show aCc.mp e1
 |some dx=>rw[e1]at e;cases e
end
section
variable [Tabs]
section
variable{K:Type} [DecidableEq K] {knd:HeapKind prog w K}
end
section
variable{o e:cv}{es:List cv}{to:TE}{t:TA}{name:Str}{apos ao:Pos}{T id:String}{r:V->List V->Hp->VK->Prop}
end
open Classical in
def atK(U:List (D×D)) (k:D):Option D:=(U.find? λp=>decide (p.1=k)).map (·.2)
section
variable{A:cp}{s:a9}{prog:bo}{w:cq}{E:B4}
end
end
end DL
namespace MM
open PySem
def MQ(prog:bo)(w:cq)(A:cp)(op:CmpOp)(d:cy->Prop)(P:Nat->av->Prop)(e:Nat->Nat->Bool):Prop:=
 ∀i j a b (s:a9) (Q:B4) (E:B4),d s.heap->P i a->P j b->Q (.bool (e i j)) s->bc (be prog w) A (richCompare op a b) Q E s
section
def JI(W:WalksS prog w A.in1 I fp x G n P St){N:cy->Prop}(hH:∀i s,St i s->N s.heap)(p:Nat->Nat->Bool)(xc:MQ prog w A.in1 .Lt N P p)(S:bb)(O:S∉fp):
  ∀(k j:Nat) (s:a9) (d:av) (c:Nat),n-(j+1)=k->j+1<=n->St (j+1) s->P (d3 p j) d->
  s.heap.get? S=some {cls:=.type "list",dict:=none,data:=.seq #[d,d] c,slots:=#[]}->
  (∀v s',P (d3 p (n-1)) v->Moved (S::x) G s s'->R (.ok (.ret v)) s')->gi (be prog w) A (.builtin "min.loop" {[.ref I,.none,.ref S],[]}) R s:=by
 have r:=λh=>O (W.sub _ h);have z:∀b∈x,b∈S::x:=λb a=>aAe _ a;have Q:(toString "min"++toString ".loop":String)= "min.loop":=by decide
 have g:∀{b:bb},b∉S::x->S≠b:=λa h=>a (by grind);intro k;induction k with
 |zero=>
  intro j s d c hk hj B f t y;have T:j+1=n:=by omega
  show aBr aFn ?_;rw[aBy aDc _];show aAa (aBO t rfl<|aAa<|aEX<|W.done s _ _ (T▸B) λs' q=>?_);have u:=q.heap S _ r t;show aAa (aCf u rfl<|aAa<|aEc<|aAb<|y d _ (T▸f)<|(q.mono z).then_heap (aAj _) λb o a e=>(aAx _ _<|g a).trans e)
 |succ k U=>
  intro j s d c hk hj B f t y;have C:j+1<n:=by omega
  show aBr aFn ?_;rw[aBy aDc _];show aAa (aBO t rfl<|aAa<|aEX<|W.item (j+1) s _ _ C B λv s' Y E q=>?_);have u:=q.heap S _ r t;change bc _ A.in1 (tryCatch (gn [v,v]<|richCompare .Lt v d>>=_) _>>=_) _ _ _;show aAa (aEX<|aAJ<|aAa<|xc (j+1) (d3 p j) v d _ _ _ (hH _ _ E) Y f<|aAa<|aAJ<|aBD<|aAa<|aEc<|aAb ?_);cases a:p (j+1) (d3 p j)with
  |true=>
   erw[if_true];show aAa (aCf u rfl<|aAa<|aEc ?_);rw[Q];show aAb ⟨aBR aDc _,U (j+1) _ v _ (by omega) C (W.frame _ s' _ s'.toks E (aAj _) λb H o e=>?_) (by erw[d3,a,if_true];show Y) (aAX _ u rfl)
    λJ l m L=>?_⟩
   .show(aAx _ _ (λh:S=b=>O (by rw[h];show H))).trans e
   show y J l m (aFh W.gtrans ((q.mono z).then_heap (aAj _) λb o a e=>(aAx _ _<|g a).trans e) L)
  |false=>erw[if_false];show aAa (aEc ?_);rw[Q];show aAb {aBR aDc _,U (j+1) _ d c (by omega) C E (by erw[d3,a,if_false];show f) u λJ l m L=>(y J l m<|aFh W.gtrans (q.mono z) L)}
def CP(W:WalksS prog w A.in1 I y d G n P St){q:cy->Prop}(z:∀i s,St i s->q s.heap)(f:Nat->Nat->Bool)(B:MQ prog w A.in1 .Lt q P f)(S:bb)(g:S∉y)(r:0<n)(C:St 0 s)(t:s.heap.get? S=some {cls:=.type "list",dict:=none,data:=.seq #[] c,slots:=#[]})(E:∀v s',P (d3 f (n-1)) v->Moved (S::d) G s s'->R (.ok (.ret v)) s'):gi (be prog w) A (.builtin "min.loop" {[.ref I,.none,.ref S],[]}) R s:=by
 have k:=λh=>g (W.sub _ h);have H:∀b∈d,b∈S::d:=λb a=>aAe _ a;have Q:(toString "min"++toString ".loop":String)= "min.loop":=by decide
 show aBr aFn (aAa<|aBO t rfl<|aAa<|aEX<|W.item 0 s _ _ r C λv s' J L u=>?_);have x:=u.heap S _ k t;change bc _ A.in1 (updateSeq S (λ_=>#[v,v])>>=_) _ _ _;show aAa (aCf x rfl<|aAb ⟨aBR aDc _,JI W z f B S g _ 0 _ v _ rfl r (W.frame _ s' _ s'.toks L (aAj _) λb l o e=>?_) J (aAX _ x rfl) λN m p O=>?_⟩)
 .show(aAx _ _ (λh:S=b=>g (h▸l))).trans e
 show E N m p (aFh W.gtrans ((u.mono H).then_heap (aAj _) λb o a e=>(aAx _ _<|(λa h=>a (h▸aBA)) a).trans e) O)
def call_minH{E:B4}{Q:B4}(h:bc (be prog w) A.in1 (pyIter x) (λm a=>∃I f g G n P St k d,m=.ref I/\WalksS prog w A.in1 I f g G n P St/\St 0 a/\(∀b∈f,b<a.heap.objs.size)/\0<n/\(∀i s,St i s->k s.heap)/\MQ prog w A.in1 .Lt k P d/\
   ∀v s',P (d3 d (n-1)) v->Moved g G a s'->Q v s') E s):
  bc (be prog w) A (call (.builtin "min") [x]) Q E s:=by
 have C:(toString "min"++toString ".loop":String)= "min.loop":=by decide
 show call_function_tree F.kind_min F.plain_min F.entry_min (F.args_min1 _) ?_;change bc _ A.in1 (Builtin.Builtins.bindParams "min" ["key", "default"] 0 {[],[]}>>=_) _ _ s;show aAa (aFU (rfl)<|aAa<|aAb<|aAa<|aCx h (λm a p=>?_) λ_ _ e=>e);let{I,f,g,G,n,P,St,k,d,rfl,W,q,r,t,u,y,z}:=p;show aAa (aAQ<|aAb ⟨aBR aDc _,CP W u d y a.heap.objs.size (λl=>aBg _ (r _ l)) t (W.frame 0 a _ a.toks q (aAj _) λb _ o e=>aAc _ e) (aAp _ rfl) λv s' B l=>?_⟩);show z v s' B (Moved.drop_new l<|aAj _)
end
def walks_more{P:Nat->av->Prop}{St:Nat->cy->Prop}(W:Walks prog w A I q l n P St)(more:N7)(r:∀p∈more,p.1∉l):
  Walks prog w A I (q++more.map (·.1)) l n P (λi h=>St i h/\∀p∈more,h.get? p.1=some p.2)where
 sub:=λb f=>aBI _ (W.sub b f)
 frame:=λi h g st k=>{W.frame i h g st.1 λb f o e=>k b (aBI _ f) o e,λp a=>k p.1 (aAE _<|aBo a) _ (st.2 p a)}
 item:=λi s Q E t st d=>W.item i s Q E t st.1 λv g u x y m=>d v g u x {y,λp a=>m p.1 p.2 (r p a) (st.2 p a)} m
 done:=λs Q E st d=>W.done s Q E st.1 d
 self:=λi s Q E st d=>W.self i s Q E st.1 d
end MM
namespace DL
open PySem PySem.Spec L2
open PyProof.Rows hiding St
section
variable [Tabs]
section
def KQ{x:Str}{a:bb}{b:Option bb}{its:Array av}{n:Nat}{sl:Array (Option av)}{ns:List Int}(d:X.mg x=some (.ref a))(e:X.K.lookup a=some {.type "tuple",b,.seq its n,sl})(f:m9 (ns.map V.int) its.toList)(g:its.size<=sizeLine)(h:Gl X x<|>1)(k:(x==lb)=false<|>2):
 PD X (.Name x l) (SH (.tup (ns.map D.int))):=uZ (UK h d (show RelV (.ref a) _ from rfl) k) λH O=>.tup (.inr {_,its,n,e,rfl,rfl,g,f}) (Reps.ints ns)
def QE:D->D->R D
 |.non,.non=>.ok (.bl true)
 |_,.non=>.ok (.bl false)
 |_,_=>.bad
def NH:kQ X (eY .Is) QE:=by
 intro H O x y e f Q k d g q;show{_,YX,?_};cases f with
 |non=>
  show{g.ac1,?_};cases e with
  |non=>rw[d.ac1];show q _ H (Same.refl _) .bl
  |bl b=>rw[d.blI];show q _ H (Same.refl _) .bl
  |int i=>rw[d.aa6];show q _ H (Same.refl _) .bl
  |str z=>rw[d.ac4];show q _ H (Same.refl _) .bl
  |tup h=>let{a,_,rfl,_}:=d.tupI;show q _ H (Same.refl _) .bl
  |lst h=>let{a,_,rfl,_}:=d.aa5;show q _ H (Same.refl _) .bl
  |dct=>let{a,_,_,rfl,_}:=d.ag1;show q _ H (Same.refl _) .bl
 |_=>cases e<;>show(q).elim
def NT(h:PD X e f)(k:fg e none a.line X.env=pure false<|>1):mV X (.Expr e a) (λρ=>(f ρ).bind λ_=>.ok (.nx ρ)):=λl m=>
 BG (jI h k) λD o H O ρ E n q=>⟨l,m,O,ρ,E,by
  cases b:f ρ with
  |ok d=>rw[b]at q;showλv g s r=>q _ g O (E.grow s) n (Kp.of s)
  |ex x=>rw[b]at q;showλg s=>q g (E.same.trans s)
  |bad=>rw[b]at q;show q⟩
def cO:List D->Option (List Bool)
 |[]=>some []
 |.bl b::a=>(cO a).map (b::·)
 |_::_=>none
theorem pC:∀{ds:List D}{bs:List Bool},cO ds=some bs->ds=bs.map D.bl
 |[],bs,h=>by cases h;rfl
 |.bl b::ds,bs,h=>by
  unfold cO at h;cases e:cO ds with
  |none=>grind
  |some l=>rw[e]at h;have a:b::l=bs:=aAq h;subst a;rw[pC e];rfl
 |.non::_,_,h|.int _::_,_,h|.str _::_,_,h|.tup _::_,_,h|.lst _::_,_,h|.dct _::_,_,h=>by cases h
def anyR:List D->R D
 |[.lst a]=>match cO a with
  |some bs=>.ok (.bl (bs.any id))
  |none=>.bad
 |_=>.bad
def EL{K:km}{H:Hp}{O:bb->Prop}{ws:List V}{bs:List Bool}{its:List av}(r:Reps K H O ws (bs.map D.bl))(v:m9 ws its):its=bs.map aDK:=by
 induction bs generalizing ws its with
 |nil=>cases r;cases v;rfl
 |cons b bs a=>
  cases r with
  |cons r t=>
   cases v with
   |cons d e=>cases r;have:_=aDK b:=d;rw[this,a t e];rfl
def JV(bs:List Bool):(aBm bs.length).any (λi=>bs.getD i false)=bs.any id:=by
 rw[aCU,aCY,aCY];constructor
 .rintro⟨i,a,e⟩;have d:i<bs.length:=by nofun
  show{bs[i],aBC d,?_}
  nofun
 rintro⟨b,f,e⟩;let{i,a,rfl}:=aBa f;show{i,by simpa using a,by simpa[aAd a]using e}
def gk(A:X.calm=true):cQ X (.builtin "any") anyR:=by
 intro H O k B Q fr r q;match B,q with
 |[.lst Y],q=>
  let{v,rfl,z}:=JA r;let{p,ws,rfl,C,l}:=z.aa5;erw[anyR]at q;cases e:cO Y with
  |none=>rw[e]at q;show q.elim
  |some bs=>
   rw[e]at q;rw[pC e]at l;show{λk m n=>k=[.ref p]/\m=H/\n=Q,λt s σ m Y us n I J ⟨L,N,T⟩=>?_,rfl,rfl,rfl};subst L N T;let{u,rfl,U}:=vals1 J;cases U;let{a,g,{oL,nL,w,cL,dL,sL},zL}:=I.list C;have x:=EL l g;have y:s.heap.IsList p a.toArray:={oL,w,cL,nL,sL};show call_any_walk (aDv y {s.heap.objs.size,_,_,a.toArray.size,_,_,λi=>bs.getD i false,rfl,Walks.list (by simp[I.ok.hd A]) s.heap.objs.size p (aAl<|aAf w) a.toArray,{{_,aAp _ rfl,rfl,rfl},y.push _},λi v s' Q E d f=>?_,λh' tk kp=>?_})
   .have d:a.toArray[i]?=some v:=d;have f:Q (bs.getD i false) s':=f;rw[aCH,x,aAu]at d;cases h:bs[i]? with
    |none=>rw[h]at d;cases d
    |some b=>rw[h]at d;have:aDK b=v:=aAq d;subst this;rw[aAr,h]at f;show aBD f
   have I2:=I.kept (h':=h') (t':=tk) λb o e=>kp b o (by erw[aBj];show aAl (aAf e)) (aAc _ e);show{.bl (bs.any id),_,I2,?_,q _ _ (Same.refl _) .bl};change aDK _=aDK _;rw[aAD,x,aAh,JV]
end
def xQ(ds:List D)(i j:Nat):Bool:=HT.lexLt (flat<|ds.getD i .non) (flat<|ds.getD j .non)
def uN:List D->R D
 |[.lst a]=>if a≠[]/\a.all V6=true then .ok (a.getD (d3 (xQ a) (a.length-1)) .non)else .bad
 |_=>.bad
def wK(h:cy)(its:List av):List (bb×Obj):=its.filterMap λv=>match v with
 |.ref b=>(h.get? b).map λo=>(b,o)
 |_=>none
def BW(a:aDr b∈its)(e:h.get? b=some o):(b,o)∈wK h its:=
 aBS.mpr {_,a,by change(h.get? b).map _=_;rw[e];rfl}
def fY(a:p∈wK h its):h.get? p.1=some p.2:=by
 let{v,_,e}:=aBS.mp a;cases v with
 |ref b=>
  have e:(h.get? b).map (λo=>(b,o))=some p:=e;cases q:h.get? b with
  |none=>nofun
  |some o=>rw[q]at e;cases e;show q
 |_=>cases e
section
def HL(hc:X.calm=true)(hu:X.A.units+300<dA):cQ X (.builtin "min") uN:=by
 intro H O vs ds Q fr r q;match ds,q with
 |[.lst Y],q=>
  let{v,rfl,z}:=JA r;let{p,ws,rfl,h1,h2}:=z.aa5;erw[uN]at q;by_cases x:Y≠[]/\Y.all V6=true
  .rw[jk x]at q;let{ag,x}:=x;show{λvs H' Q'=>vs=[.ref p]/\H'=H/\Q'=Q,λpins s σ H' xs' us Q' I rv z9=>?_,rfl,rfl,rfl};let{e1,e2,e3}:=z9;subst e1 e2 e3;let{u,rfl,ru}:=vals1 rv;cases ru;let{f,y,{oL,nL,L,cL,dL,sL},zL}:=I.list h1;have hl:s.heap.IsList p f.toArray:={oL,L,cL,nL,sL};have st:=y8.of y h2;have l:f.toArray.size=Y.length:=by rw[aAD,<-y.length,h2.length]
   have W:=MM.walks_more (Walks.list (prog:=X.prog) (w:=X.w) (A:=X.A.in1) (by simp[I.ok.hd hc]) s.heap.objs.size p (aAl<|aAf L) f.toArray) (wK s.heap f)
    (λq t=>by erw[aBj];show aAl (aAf<|fY t))
   show MM.call_minH (aDv hl {s.heap.objs.size,_,_,_,f.toArray.size,_,_,λh=>∀q∈wK s.heap f,h.get? q.1=some q.2,xQ Y,rfl,W.toS,{{{_,aAp _ rfl,rfl,rfl},hl.push _},λq t=>aAc _ (fY t)},λb k=>?_,by rw[l];show(aCX.mpr ag),λi s h=>h.2,λi j vi vj m Q2 E2 hh B hj t=>?_,λv m E J=>?_})
   .rw[aBw];rcases aAV.mp k with k|k
    .rcases aAg.mp k with rfl|k
     .show aDG _
     rcases aAg.mp k with rfl|k
     .show aBF (aAf L)
     cases k
    let{q,t,rfl}:=aAo.mp k;show aBF (aAf<|fY t)
   .have one:∀i v,f.toArray[i]?=some v->∃b a,v=.ref b/\IsTup m.heap b a/\IntsAre a.toList (flat<|Y.getD i .non):=λi v B=>by
     rw[aCH]at B;let{d,hd,w,N,T}:=J6 st B;have U:Y.getD i .non=d:=by nofun
     rw[U];have C:=(aBt.mp x) d (aAi hd);let{b,a,rfl,{o,g,c,n,dd},hia}:=cC C (R6 I T (G3 C) N);show{b,a,rfl,{o,hh _ (BW (aAi B) g),c,n,dd},hia}
    let{b,a,rfl,t1,i1}:=one i vi B;let{b',xa,rfl,t2,i2}:=one j vj hj;show HT.lt_tupInts t1 t2 i1 i2 (by grind) t
   have E:=E;rw[aCH,l]at E;let{d,hd,w,N,T}:=J6 st E;have U:Y.getD (d3 (xQ Y)<|Y.length-1) .non=d:=by nofun
   rw[U]at q;have es:m={s with heap:=m.heap,toks:=m.toks}:=by
    have g1:=J.gens;have g2:=J.drawn;have g3:=J.os;cases m
    nofun
   rw[es];show{w,_,(I.kept (h':=m.heap) (t':=m.toks) λb o e=>J.heap b o (by erw[aBj];show aAl (aAf e)) (aAc _ e)),N,q _ _ (Same.refl _) T}
  rw[jl x]at q;show q.elim
def VX(h:NK ds)(n:Nat)(a:n<ds.length):d3 (xQ ds) n=0:=by
 induction n with
 |zero=>rfl
 |succ k b=>
  unfold d3;rw[(b (by lia))];have:xQ ds (k+1) 0=false:=by
   unfold xQ;rw[aAr,aAr,aAd a,aAd (by lia)];have:=aCa.mp h 0 (k+1) (by lia) a (by lia);cases q:HT.lexLt (flat<|(some ds[k+1]).getD .non) (flat ((some (ds[0]'(by lia))).getD .non))with
   |false=>rfl
   |true=>have z:HT.lexLt (flat (ds[0]'(by lia))) (flat (ds[0]'(by lia)))=true:=TS.lex_trans _ _ _ this q;rw[TS.lex_irrefl]at z;cases z
  rw[this];rfl
end
end
section
variable [Tabs]
end
end DL
namespace DL
open PySem PySem.Spec L2
open PyProof.Rows hiding St sub_tuple_tuple sub_list_list sub_tuple_list sub_list_tuple
section
open PySem.MeetsSeq PySem.MeetsSeq2 PySem.MeetsSeq3 PySem.AutoSeq1
end
section
end
variable [Tabs]
section
end
end DL
namespace TS
open PySem PyProof.Rows HT
section
def HG(A:cp)(s:a9)(x y:av)(b:Bool):Prop:=∀(a:bo) (w:cq) (E:B4) (Q:BA),Q b s->bc (be a w) A (oneLt' false x y) Q E s
def lt_two{Q:BA}(g:IsTup s.heap l #[p,r])(h:IsTup s.heap b #[a,d])(k:f=false)(m:SeqAt.EqAt A s p a e1)(t:e1=false->HG A s p a b1)(u:e1=true->SeqAt.EqAt A s r d e2)(v:e1=true->e2=false->HG A s r d b2)(q:Q (bif e1 then(bif e2 then false else b2)else b1) s):bc (be prog w) A (keyLt' (tupK f) (.ref l) (.ref b)) Q E s:=by
 let{o,x,B,n,y}:=g;let{C,z,H,I,e}:=h;subst k;show aAa (aEi x y<|aAa<|aEi z e ?_);change bc _ _ (forIn [((p,a),0),((r,d),1)] _ _>>=_) _ _ _;rw[aDo];show aAa (aAa<|aAa<|m _ _ _ _ ?_);cases e1 with
 |false=>show aAa (t rfl _ _ _ _<|aAb<|aAb<|aAb q)
 |true=>
  show aAb ?_;dsimp only;rw[aDo];show aAa (aAa<|u rfl _ _ _ _ ?_);cases e2 with
  |false=>show aAa (v rfl rfl _ _ _ _<|aAb<|aAb<|aAb q)
  |true=>show aAb ?_;dsimp only;show aAb (aAb q)
def ON(h:∀(prog:bo) (w:cq) (E:B4) (Q:B4),Q (.bool b) s->bc (be prog w) A (richCompare .Lt x y) Q E s):HG A s x y b:=λprog w E Q q=>by rw[oneLt'_eq];show aAa (h prog w _ _<|aBD q)
def oneLt_tup(d:IsTup s.heap l items)(e:IsTup s.heap b f)(g:IntsAre items.toList ns)(h:IntsAre f.toList k)(m:A.units<dA):HG A s (.ref l) (.ref b) (HT.lexLt ns k):=
 ON λa w E Q q=>HT.lt_tupInts d e g h m q
end
end TS
namespace DL
open PySem PySem.Spec L2
open PyProof.Rows hiding St
section
def xA(k:D->List Int)(d:D):List D->List D
 |[]=>[d]
 |x::Y=>if HT.lexLt (k d) (k x)=true then d::x::Y else x::xA k d Y
def pQ(k:D->List Int)(ds:List D):List D:=ds.foldr (xA k) []
def rX(k:D->List Int)(ds:List D):Prop:=ds.Pairwise λx y=>HT.lexLt (k x) (k y)=true
theorem lB(k:D->List Int)(d:D):∀Y:List D,(xA k d Y).Perm (d::Y)
 |[]=>.refl _
 |x::Y=>by
  unfold xA;split
  .show .refl _
  show((lB k d Y).cons x).trans (.swap d x Y)
theorem W5(k:D->List Int):∀ds:List D,(pQ k ds).Perm ds
 |[]=>.refl _
 |d::ds=>(lB k d (pQ k ds)).trans ((W5 k ds).cons d)
theorem yW:∀{Y:List D},rX k Y->(∀x∈Y,k x≠k d)->rX k (xA k d Y):=by
 intro f h n;cases f with
 |nil=>show aDQ _ _
 |cons x Y=>
  have b:=aAv.mp h;unfold xA;split
  .rename_i lt;show aAv.mpr {λy a=>?_,h};rcases aAg.mp a with rfl|a
   .show lt
   show TS.lex_trans _ _ _ lt (b.1 y a)
  rename_i e;show aAv.mpr {λy a=>?_,yW b.2 λz g=>n z (.tail _ g)};rcases aAg.mp ((lB k d Y).mem_iff.mp a)with rfl|a
  .cases q:HT.lexLt (k x) (k y)with
   |true=>rfl
   |false=>show kb (TS.lex_total _ _ q (by exists e)) (n x<|.head _)
  show b.1 y a
theorem lR:∀{ds:List D},(ds.map k).Nodup->rX k (pQ k ds):=by
 intro a h;cases a with
 |nil=>show .nil
 |cons d ds=>rw[aAz,aAP]at h;show yW (lR h.2) λx b e=>h.1 ?_;rw[<-e];show aBo ((W5 k ds).mem_iff.mp b)
theorem lD:∀{Y a:List D},rX k Y->rX k a->Y.Perm a->Y=a:=by
 intro g a h l p;cases g with
 |nil=>show(List.nil_perm.mp p).symm
 |cons x Y=>
  cases a with
  |nil=>nofun
  |cons y a=>
   have e:=aAv.mp h;have f:=aAv.mp l;have b:x=y:=by
    rcases aAg.mp (p.mem_iff.mp<|.head _)with q|q
    .show q
    rcases aAg.mp (p.mem_iff.mpr<|.head _)with d|d
    .show d.symm
    have:=TS.lex_trans _ _ _ (f.1 x q) (e.1 y d);rw[TS.lex_irrefl]at this;cases this
   subst b;rw[lD e.2 f.2 ((List.perm_cons x).mp p)]
def WF[Tabs]{R:av->D->Prop}{key:av->List Int}{k:D->List Int}{a:List av}{ds:List D}(st:Paired R a ds)(p:a.Pairwise λx y=>HT.lexLt (key y) (key x)=false)(q:(ds.map k).Nodup)(f:∀u d,R u d->d∈ds->key u=k d):rX k ds:=by
 induction st with
 |nil=>show .nil
 |@cons u d a ds r t s=>
  have g:=aAP.mp q;have m:=aAv.mp p;show aAv.mpr {λe v=>?_,s m.2 g.2 λu d h w=>f u d h (.tail _ w)};let{j,b,rfl}:=aBa v;have n:j<a.length:=by rw[t.length];show b
  let{B,o,A}:=J6 t (aAd n);rw[aAd b]at o;cases o;have l:=m.1 a[j] (aBC n);rw[f _ _ A (.tail _ (aBC b)),f u d r (.head _)]at l;cases z:HT.lexLt (k d) (k ds[j])with
  |true=>rfl
  |false=>show kb (aAo.mpr {ds[j],aBC b,(TS.lex_total _ _ z l).symm}) g.1
def qj:D->Bool
 |.tup [p,.lst _]=>V6 p
 |_=>false
def R7:D->List Int
 |.tup (p::_)=>flat p
 |_=>[]
def kq(h:qj d=true):∃p r,d=.tup [p,.lst r]/\V6 p=true/\R7 d=flat p:=by
 unfold qj at h;split at h
 .show{_,_,rfl,h,rfl}
 cases h
def yx:D->R (List D)
 |.lst a=>if a.all qj=true/\(a.map R7).Nodup/\a.length<=63 then .ok (pQ R7 a)else .bad
 |_=>.bad
variable [Tabs]
def FV(h:cy)(u:av)(l:List Int):Prop:=∃b p r d,u=.ref b/\IsTup h b #[p,r]/\V6 d=true/\HV h p d/\flat d=l
def FV.inj(x:FV h u l)(y:FV h u q):l=q:=by let{b,p,r,d,rfl,{o,g,_,n,s},_,t,rfl}:=x;let{w,z,A,B,e,{C,f,_,E,k},_,a,rfl}:=y;cases e;rw[g]at f;cases f;rw[s]at k;injection k with v _;have m:=ka aGj v;erw[aFB]at m;let{rfl,_}:=m;rw[HV.inj t a]
def JZ(h:cy) (u:av):List Int:=open Classical in if p:∃l,FV h u l then p.choose else[]
def jC(x:FV h u l):JZ h u=l:=by unfold JZ;rw[dif_pos {l,x}];show FV.inj (Exists.choose_spec ({l,x}:∃l,FV h u l)) x
section
def QM(I:Inv X e o H s)(r:Rep X.K H O v d)(h:qj d=true)(g:RelV v u):FV s.heap u (R7 d):=by
 let{p,ring,rfl,f,k}:=kq h;cases r with
 |tup q a=>
  cases g;let{l,b,m,_}:=I.tuple q;cases a with
  |cons n a=>
   cases a with
   |cons t a=>
    cases a;cases b with
    |cons v1 b=>
     cases b with
     |cons w b=>cases b;show{_,_,_,p,rfl,m,f,R6 I n (G3 f) v1,k.symm}
end
section
def BK(ha:PB X e f)(hh:X.calm=true)(hu:X.A.units+300<dA)(hg:Gl X "sorted"<|>1)(hm:X.mg "sorted"=none<|>4)(hv:dm "sorted"=some (.builtin "sorted")<|>3)(he:a5 [e] X.env=(false,dC e X.env)::a5 [] X.env<|>1)(bh:(dq pos (a5 [] X.env)).any (·.1)=false<|>1):
  PF X (.Call (.Name "sorted" p) [e] [] pos) (λρ=>(f ρ).bind yx):=by
 show wF λpins s σ H Q I H9 O0 O ρ E q=>?_;dsimp only at q;show aAK (K0 I hg hm hv ?_ (by symm) (by symm));have ui:PA X [e] _:=G0 ha Z5 he;show aBl (D6 (ui pos pins s σ H (λvs H1=>∃v t,vs=[v]/\f ρ=.ok (.lst t)/\Same H H1/\z6 X.K H1 O v (.lst t)) I {H9,O0,O,ρ,E,?_}) λus J z9=>?_) he bh
 .cases e1:f ρ with
  |ex z=>rw[e1]at q;show q
  |bad=>rw[e1]at q;show q.elim
  |ok d=>
   rw[e1,R.aa0]at q;cases d with
   |lst t=>showλv H1 J r1=>{v,t,rfl,rfl,J,r1}
   |_=>show aAA q
 let{vs,H1,I1,r1,v,t,ev,ef,sm,rb}:=z9;subst ev;rw[ef,R.aa0]at q;let{a,ws,rfl,hS,rr}:=rb.aa5;let{u,rfl,ru}:=vals1 r1;cases ru;let{m,rv,{oL,nL,gL,cL,dL,sL},zL}:=I1.list hS;have hl:J.heap.IsList a m.toArray:={oL,gL,cL,nL,sL};erw[yx]at q;by_cases hc:t.all qj=true/\(t.map R7).Nodup/\t.length<=63
 .rw[jk hc]at q;let{jt,nd,qo}:=hc;have fc:∀d∈t,qj d=true:=aBt.mp jt;have st:y8 X.K H1 O m t:=y8.of rv rr;have hlen:m.length=t.length:=st.length;have B:∀u∈m,∃i d,m[i]?=some u/\t[i]?=some d/\FV J.heap u (R7 d):=λu hu=>by let{i,hi,rfl}:=aBa hu;let{d,U,w,mo,rp}:=J6 st (aAd hi);show{i,d,aAd hi,U,QM I1 rp (fc d<|aAi U) mo}
  have keq:∀u∈m,∀u'∈m,JZ J.heap u=JZ J.heap u'->u=u':=λu hu u' au e=>by
   let{i,d,hi,U,fv}:=B u hu;let{j,d',hj,qt,fv'}:=B u' au;rw[jC fv,jC fv']at e;have eij:i=j:=by let{li,ei}:=aAn.mp U;let{lj,ej}:=aAn.mp qt;show(List.getElem_inj (xs:=t.map R7) (i:=i) (j:=j) (h₀:=by exists li) (h₁:=by exists lj) nd).mp ?_;rw[aEo,aEo,ei,ej];show e
   subst eij;rw[hi]at hj;cases hj;rfl
  show TS.sorted_keys (vs:=m) (f:=false) (key:=JZ J.heap) (C:=λs'=>∃h',s'={J with heap:=h'}/\∀b o,J.heap.get? b=some o->h'.get? b=some o)
   (λ{Q'} hq=>collect_list hl (hq _ {_,rfl,λb o e=>?_}) (by rw[hlen];show aAk qo (by symm)))
   (λs' ⟨h',N,k⟩ Y k6 x hx y hy prog w A E hA {Q} qq=>?_) (λh2 s' ⟨h',N,k⟩ Y k6 A {Q} qq=>?_) (by rw[hlen];lia) λs' gm h' l ⟨h1,N,k⟩ pm zg k2 hl ⟨n,gl⟩=>?_
  .show(aAx _ _<|aCp<|aAl<|aAf e).trans (aAc _ e)
  .subst N;have kk:∀b o,J.heap.get? b=some o->Y.heap.get? b=some o:=λb o e=>k6 b o (k b o e);let{i,d,hi,U,fv}:=B x hx;let{j,d',hj,qt,fv'}:=B y hy;have kx:=jC fv;have ky:=jC fv';have eqk:=keq x hx y hy;rw[kx,ky]at qq;rw[kx,ky]at eqk;let{b,p1,r1,d1,rfl,{o,g,c,n,dd},L,hv1,e1}:=fv;let{b',p2,r2,d2,rfl,{o',g',c',n',ze},hp2,hv2,e2}:=fv';have zh:HV Y.heap p1 d1:=hv1.keeps λb o e _=>kk b o e;have hv2':HV Y.heap p2 d2:=hv2.keeps λb o e _=>kk b o e;have hA':A.units+8<dA:=by lia
   let{c1,i1,rfl,t1,ia1}:=cC L zh;let{c2,i2,rfl,t2,ia2}:=cC hp2 hv2';rw[<-e1,<-e2]at qq eqk;show TS.lt_two (e1:=v6 d1 d2) (e2:=true) (b1:=HT.lexLt (flat d1) (flat d2)) (b2:=false) {o,kk _ _ g,c,n,dd} {o',kk _ _ g',c',n',ze} rfl (GN zh hv2' (by have:=FY L;lia)) (λ_=>TS.oneLt_tup t1 t2 ia1 ia2 (by lia)) (λeq=>?_) (λ_ z=>by cases z) ?_
   .have ed:=fI (G3 L) (G3 hp2) eq;have er:=eqk (by rw[ed]);cases er;rw[g]at g';cases g';rw[dd]at ze;injection ze with e3 _;have e4:=ka aGj e3;erw[aFB]at e4;rw[e4.2.1];show aDY _
   cases z:v6 d1 d2 with
   |false=>show qq
   |true=>have ed:=fI (G3 L) (G3 hp2) z;rw[ed,TS.lex_irrefl]at qq;show qq
  .subst N;have kk:∀b o,J.heap.get? b=some o->Y.heap.get? b=some o:=λb o e=>k6 b o (k b o e);have sg:∀x∈m,∃p,∃b r,x=.ref b/\IsTup Y.heap b r/\r[0]?=some p/\Y.TypeIs p "tuple":=λx hx=>by let{i,d,hi,U,fv}:=B x hx;let{b,p1,r1,d1,rfl,{o,g,c,n,dd},L,hv1,e1}:=fv;have zh:HV Y.heap p1 d1:=hv1.keeps λb o e _=>kk b o e;let{c1,i1,rfl,{o1,g1,cc1,_},ia1}:=cC L zh;show{_,b,_,rfl,{o,kk _ _ g,c,n,dd},rfl,{o1,g1,cc1}}
   obtain⟨gf,hgf⟩:∃gf:av->av,∀x∈m,∃b r,x=.ref b/\IsTup Y.heap b r/\r[0]?=some (gf x)/\Y.TypeIs (gf x) "tuple":=by show{λx=>open Classical in if z:x∈m then(sg x z).choose else .none,λx hx=>?_};dsimp only;rw[dif_pos hx];show(sg x hx).choose_spec
   show TS.kind_tuples (T:= "tuple") gf hgf (λz=>by rw[z]at h2;simp at h2) (by symm) qq
  subst N;let{ng,p2,kn}:=eG pm st;have hk:∀u d,(∃v,RelV v u/\Rep X.K H1 O v d)->d∈t->JZ J.heap u=R7 d:=by rintro u d ⟨v,rv,rp⟩ U;show jC (QM I1 rp (fc d U) rv)
  have nd2:(ng.map R7).Nodup:=(p2.map R7).nodup_iff.mpr nd;have qp:rX R7 ng:=WF (R:=λu d=>∃v,RelV v u/\Rep X.K H1 O v d) kn zg nd2 λu d h U=>hk u d h (p2.mem_iff.mp U);have e2:ng=pQ R7 t:=lD qp (lR nd) (p2.trans (W5 R7 t).symm);subst e2;let{wv,mo,ki}:=y8.ab8 kn;have I2':=I1.kept (h':=h1) (t':=J.toks) k;have I3:=I2'.laid (a:=l) (o:=.lst wv) (h':=h') (t':=J.toks) k2 hl {by rw[ki.length,(W5 R7 t).length_eq];show aAk qo (by symm),gm,n,mo,gl};show{.ref l,_,I3,rfl,q wv _ l sm (I2'.hok.fresh hl) ki}
 rw[jl hc]at q;show q.elim
end
end
section
def rJ:List Int->Int
 |[]=>0
 |a::l=>l.foldl max a
def oB:List Int->Int
 |[]=>0
 |a::l=>l.foldl min a
theorem T6:∀(l:List Int) (a:Int),(l.foldl max a=a\/l.foldl max a∈l)/\a<=l.foldl max a/\∀b∈l,b<=l.foldl max a
 |[],a=>{.inl rfl,aCA _,λb h=>by cases h}
 |c::l,a=>by
  let{d,g,f}:=T6 l (max a c);rw[aDn];show{?_,by lia,λb e=>?_}
  .rcases d with d|d
   .rw[d];rcases aGh a c with q|q
    .show .inr (by rw[Int.max_eq_right q];show .head _)
    show .inl (Int.max_eq_left q)
   show .inr (.tail _ d)
  rcases aAg.mp e with rfl|e
  .lia
  show f b e
theorem T4:∀(l:List Int) (a:Int),(l.foldl min a=a\/l.foldl min a∈l)/\l.foldl min a<=a/\∀b∈l,l.foldl min a<=b
 |[],a=>{.inl rfl,aCA _,λb h=>by cases h}
 |c::l,a=>by
  let{d,g,f}:=T4 l (min a c);rw[aDn];show{?_,by lia,λb e=>?_}
  .rcases d with d|d
   .rw[d];rcases aGh a c with q|q
    .show .inl (Int.min_eq_left q)
    show .inr (by rw[Int.min_eq_right q];show .head _)
   show .inr (.tail _ d)
  rcases aAg.mp e with rfl|e
  .lia
  show f b e
def yJ(h:ns≠[]):rJ ns∈ns:=by
 cases ns with
 |nil=>show kb rfl h
 |cons a l=>
  rcases(T6 l a).1 with q|q
  .change l.foldl max a∈_;rw[q];show .head _
  show .tail _ q
def xM(h:a∈ns):a<=rJ ns:=by
 cases ns with
 |nil=>cases h
 |cons b l=>
  rcases aAg.mp h with rfl|h
  .show(T6 l a).2.1
  show(T6 l b).2.2 a h
def yP(h:ns≠[]):oB ns∈ns:=by
 cases ns with
 |nil=>show kb rfl h
 |cons a l=>
  rcases(T4 l a).1 with q|q
  .change l.foldl min a∈_;rw[q];show .head _
  show .tail _ q
def vU(h:a∈ns):oB ns<=a:=by
 cases ns with
 |nil=>cases h
 |cons b l=>
  rcases aAg.mp h with rfl|h
  .show(T4 l a).2.1
  show(T4 l b).2.2 a h
def GP:List D->R D
 |[.lst Y]=>match fT Y with
  |some a=>if a≠[]then .ok (.int (rJ a))else .bad
  |none=>.bad
 |_=>.bad
def EU:List D->R D
 |[.lst Y]=>match fT Y with
  |some a=>if a≠[]then .ok (.int (oB a))else .bad
  |none=>.bad
 |_=>.bad
variable [Tabs]
section
def xL(d:IntsAre its ns)(e:its.toArray=intItems a):∀i,i6 a i=ns.getD i 0:=λi=>by
 have b:=nums_intItems a;rw[<-e]at b;rw[show its.toArray.toList=its from rfl,d.numsOf]at b;unfold i6
 nofun
def FE(E:X.calm=true):cQ X (.builtin "max") GP:=by
 intro H O k J Q fr r q;match J,q with
 |[.lst Y],q=>
  let{v,rfl,z}:=JA r;let{p,ws,rfl,l,m}:=z.aa5;erw[GP]at q;cases e:fT Y with
  |none=>rw[e]at q;show q.elim
  |some d=>
   rw[e]at q;dsimp only at q;by_cases f:d≠[]
   .rw[jk f]at q;rw[jZ e]at m;rw[uO m]at l;show{λk n o=>k=[.ref p]/\n=H/\o=Q,λw s σ n L us o I N ⟨T,U,e3⟩=>?_,rfl,rfl,rfl};subst T U e3;let{u,rfl,ru}:=vals1 N;cases ru;let{its,r',pl,hz}:=I.list l;have g:=DL.U7 r';let{a,h}:=g.allInts.items;have x:=pl.isList;rw[h]at x;have y:a.size=d.length:=by have:=ka Array.size h;rw[aAD,g.length]at this;simpa[intItems]using this.symm
    have A:0<d.length:=aCX.mpr f;show max_intList (I.ok.hd E) x (by lia) λv h' tk hv hk=>?_;let{t,rfl}:=intItems_at hv;let{g1,B}:=argBest_gt (i6 a) (a.size-1);have em:i6 a (d3 (λi j=>decide (i6 a i>i6 a j))<|a.size-1)=rJ d:=by
     generalize d3 (λi j=>decide (i6 a i>i6 a j)) (a.size-1)=b at g1 B;have m1:i6 a b∈d:=by rw[xL g h,aAr,aAd (by lia)];show aBC _
     have m2:=xM m1;let{j,hj,ej}:=aBa (yJ f);have C:=B j (by lia);rw[xL g h j,aAr,aAd hj]at C;have m4:d[j]<=i6 a b:=C
     lia
    rw[em];show{.int (rJ d),_,I.kept hk,{t,rfl},q _ _ (Same.refl _) .int}
   rw[jl f]at q;show q.elim
def HF(E:X.calm=true):cQ X (.builtin "min") EU:=by
 intro H O k J Q fr r q;match J,q with
 |[.lst Y],q=>
  let{v,rfl,z}:=JA r;let{p,ws,rfl,l,m}:=z.aa5;erw[EU]at q;cases e:fT Y with
  |none=>rw[e]at q;show q.elim
  |some d=>
   rw[e]at q;dsimp only at q;by_cases f:d≠[]
   .rw[jk f]at q;rw[jZ e]at m;rw[uO m]at l;show{λk n o=>k=[.ref p]/\n=H/\o=Q,λw s σ n L us o I N ⟨T,U,e3⟩=>?_,rfl,rfl,rfl};subst T U e3;let{u,rfl,ru}:=vals1 N;cases ru;let{its,r',pl,hz}:=I.list l;have g:=DL.U7 r';let{a,h}:=g.allInts.items;have x:=pl.isList;rw[h]at x;have y:a.size=d.length:=by have:=ka Array.size h;rw[aAD,g.length]at this;simpa[intItems]using this.symm
    have A:0<d.length:=aCX.mpr f;show min_intList (I.ok.hd E) x (by lia) λv h' tk hv hk=>?_;let{t,rfl}:=intItems_at hv;let{g1,B}:=argBest_lt (i6 a) (a.size-1);have em:i6 a (d3 (λi j=>decide (i6 a i<i6 a j))<|a.size-1)=oB d:=by
     generalize d3 (λi j=>decide (i6 a i<i6 a j)) (a.size-1)=b at g1 B;have m1:i6 a b∈d:=by rw[xL g h,aAr,aAd (by lia)];show aBC _
     have m2:=vU m1;let{j,hj,ej}:=aBa (yP f);have C:=B j (by lia);rw[xL g h j,aAr,aAd hj]at C;have m4:i6 a b<=d[j]:=C
     lia
    rw[em];show{.int (oB d),_,I.kept hk,{t,rfl},q _ _ (Same.refl _) .int}
   rw[jl f]at q;show q.elim
def OO(K:km)(mg:fD)(x:Str)(ns:List Int):Prop:=∃a d b n e,mg x=some (.ref a)/\K.lookup a=some {.type "tuple",d,.seq b n,e}/\m9 (ns.map V.int) b.toList/\b.size<=sizeLine
omit [Tabs]in
def fj{K:km}{mg:fD}{x:Str}{a:bb}{b:Option bb}{n:Nat}{sl:Array (Option av)}{i j k:Int}{t u v:Tok}(d:mg x=some (.ref a))(e:K.lookup a=some {.type "tuple",b,.seq #[.int i t,.int j u,.int k v] n,sl}):OO K mg x [i,j,k]:=
 {a,b,_,n,sl,d,e,.cons {t,rfl} (.cons {u,rfl} (.cons {v,rfl} .nil)),show 3<=sizeLine by symm}
def wR(c:OO X.K X.mg x ns)(b:Gl X x<|>1)(d:(x==lb)=false<|>2):PD X (.Name x e) (SH (.tup (ns.map D.int))):=by let{a,m,f,n,o,g,h,k,l}:=c;show KQ g h k l b d
end
end
section
variable [Tabs]
section
variable{K:km}
structure FunC(K:PySem.W.Frag)(x qual:Str)(st:Stmt)(f:Addr)(fd:FuncData)(cd:Addr):Prop where
 ex:∃(oc:Value) (od:Option Addr) (kV doc pm:Value) (an:Option Addr) (ct:Value) (osl:Array (Option Value)),
  fd=PySem.W.fnOf x qual (D3 st) (q9 st) (b9 st) .none kV doc pm an (.ref cd) ct/\K.lookup f=some {oc,od,.func fd,osl}/\PySem.W.codeIn K (.ref cd) qual=true
 kp:PySem.W.keepIn K (.ref f)=true
omit [Tabs]in
def FunC.fn{x qual:Str}{st:df}{f:bb}{d:eO}{cd:bb}(F:FunC K x qual st f d cd):Fun K x qual st f d:=by let{e,g,kV,a,h,k,l,b,m,n,o}:=F.ex;show{{e,g,kV,a,h,k,.ref cd,l,b,m,n,o},F.kp}
omit [Tabs]in
def WA{x qual:Str}{st:df}{f cd:bb}{h:av}{m d:Option bb}{b:Array (Option av)}{kV a g L ct:av}(l:K.lookup f=some {h,m,.func (PySem.W.fnOf x qual (D3 st) (q9 st) (b9 st) .none kV a g d L ct),b})
  (e:L=.ref cd) (c:PySem.W.codeIn K L qual=true) (k:PySem.W.keepIn K (.ref f)=true):FunC K x qual st f (PySem.W.fnOf x qual (D3 st) (q9 st) (b9 st) .none kV a g d L ct) cd:=by
 subst e;show{{h,m,kV,a,g,d,ct,b,rfl,l,c},k}
def a2m{x qual:Str}{st:df}{f cd:bb}{l:eO}{N ps:List Str}{k:Nat}{m:List D->R D}{F:Ev->R Out}(t:FunC K x qual st f l cd)(S:FnScope N ps (b9 st))
  (u:∀(A:cp) (a:List Env) (s:a9) (H:Hp) (E:XK),Room k (A.deeper (envOfC qual (b9 st) s.heap.objs.size f (.ref cd)))->bX (SE P w K mg base N qual (b9 st) f (.ref cd) A a s H E) (q9 st) F)
  (v:∀ds d,ds.length=ps.length->m ds=.ok d->J9 (F (j3 N ds))=.ok d):FnOk P w K mg base xP (k+1) f l ps (spD K ps.length m):=by
 let{oc,od,kV,y,pm,an,ct,z,rfl,lk,B}:=t.ex;show XQ lk B S (by rintro C H Q E ⟨O,ds,d,r,g,_⟩;rw[r.length];show g) λA a s H C Q E I J=>?_;let{O,ds,d,r,g,L,T,U,e,q}:=J;show{_,rB.nox (u A a s H E I H O),O,_,kK r L T,U,?_};have h:=v ds d g e;cases n:F (j3 N ds)with
 |ok o=>
  rw[n]at h;cases o with
  |rt Y=>have b:R.ok Y=R.ok d:=h;injection b with b;subst b;show q
  |nx p=>have b:R.ok D.non=R.ok d:=h;injection b with b;subst b;showλaf H' O' E' _ _=>q .non H' E'.same .non
  |bk p=>cases h
  |ct p=>cases h
 |ex x=>nofun
 |bad=>rw[n]at h;cases h
def SU{x qual:Str}{st:df}{f cd:bb}{b:eO}{N ps:List Str}{k:Nat}{m:List D->R D}{F:Ev->R Out}(g:FunC K x qual st f b cd)(S:FnScope N ps (b9 st))(e:Binds K b ps [])(h:mg x=some (.ref f))
  (l:∀(A:cp) (a:List Env) (s:a9) (H:Hp) (E:XK),Room k (A.deeper (envOfC qual (b9 st) s.heap.objs.size f (.ref cd)))->bX (SE P w K mg base N qual (b9 st) f (.ref cd) A a s H E) (q9 st) F)
  (n:∀ds d,ds.length=ps.length->m ds=.ok d->J9 (F (j3 N ds))=.ok d):v5 P w K mg base (k+1) x ps.length m:=
 {f,b,ps,a2m g S l n,e,g.kp,h}
def VI(P:bo)(w:cq)(K:km)(mg:fD)(base:cy)(k d:Nat)(x:Str)(M:D->(List D->R D)->(List D->R D)->R D):Prop:=
 ∃g b a,FnOk P w K mg base xP k g b a (spF K (LI P w K mg base d 1) M)/\Binds K b a []/\PySem.W.keepIn K (.ref g)=true/\mg x=some (.ref g)/\a.length=3
def VA{x qual:Str}{st:df}{f:bb}{b:eO}{N ps:List Str}{k g:Nat}{M:D->(List D->R D)->(List D->R D)->R D}{F:Ev->R Out}(h:Fun K x qual st f b)(S:FnScope N ps (b9 st))(l:ps.length=3)(e:Binds K b ps [])(p:mg x=some (.ref f))
  (q:∀(L:av) (A:cp) (a:List Env) (s:a9) (H:Hp) (E:XK),Room k (A.deeper (envOfC qual (b9 st) s.heap.objs.size f L))->bX (SE P w K mg base N qual (b9 st) f L A a s H E) (q9 st) F)
  (r:∀m n o d,M m n o=.ok d->J9 (F (lQ N (LI P w K mg base g 1) m n o))=.ok d):VI P w K mg base (k+1) g x M:=
 {f,b,ps,fnF h S l q r,e,h.kp,p,l}
end
section
def AC(i:Nat){Φ:(List D->R D)->Hp->(bb->Prop)->bb->Prop}(a:LI X.prog X.w X.K X.mg X.base k n=Φ)(d:KJ X (e::es) f)(g:LD f n)(h:Room k X.A)(l:X.N[i]?=some x<|>1)(m:xO X.env.scope x<|>5)(o:(x==lb)=false<|>2)(q:(x==lh)=false<|>2)(r:a5 (e::es) X.env=(false,dC e X.env)::a5 es X.env<|>1)(s:(dq b (a5 es X.env)).any (·.1)=false<|>1):
  PD X (.Call (.Name x p) (e::es) [] b) (callC Φ i f):=by
 subst a;show LZ i d g h l m o q r s
def DN(u:NstOk X k n1)(v:NstOk X k n2)(l:ClosOk X n1 clos1)(z:ClosOk X n2 clos2)(B:∀x b,(x,b)∈clos1++clos2->X.env.cells.lookup x=some b)(C:iO X.mg X.base)(E:X.env.code=.ref c)(H:PySem.W.codeHdIn X.K c I=true)(m:(I,tb)∈Tabs.tbs)(n:(n1.pos,n1.qual)∈tb)(J:(n2.pos,n2.qual)∈tb)(L:∀p∈tb,p.1.line=n1.pos.line->p.1.col=n1.pos.col->p.2=n1.qual)(o:∀p∈tb,p.1.line=n2.pos.line->p.1.col=n2.pos.col->p.2=n2.qual)(O:n1.i≠n2.i)(Q:X.N.Nodup)(T:VI X.prog X.w X.K X.mg X.base U (k+1) x M)(Y:Room U X.A)(he:PD X e f)(xp:∀y,X.fn y=true)(hg:Gl X x<|>1)(il:(x==lb)=false<|>2)(yu:a5 [e,.Name n1.name h,.Name n2.name a] X.env=(false,dC e X.env)::a5 [.Name n1.name h,.Name n2.name a] X.env<|>1)(q:a5 [.Name n1.name h,.Name n2.name a] X.env=(false,dC (.Name n1.name h) X.env)::a5 [.Name n2.name a] X.env<|>1)(r:a5 [.Name n2.name a] X.env=(false,dC (.Name n2.name a) X.env)::a5 [] X.env<|>1)(bh:(dq s (a5 [.Name n1.name h,.Name n2.name a] X.env)).any (·.1)=false<|>1):
  bX X [n1.stmt,n2.stmt,.Return (some (.Call (.Name x p) [e,.Name n1.name h,.Name n2.name a] [] s)) t] (λρ=>((f ((ρ.set n1.i .no).set n2.i .no)).bind λd1=>(eI n1.js ((ρ.set n1.i .no).set n2.i .no)).bind λw1=>(eI n2.js ((ρ.set n1.i .no).set n2.i .no)).bind λw2=>M d1 (n1.mm w1) (n2.mm w2)).bind λd=>.ok (.rt d)):=by
 let{g,gd,ps,FF,hb,hk,hm,h3}:=T;show JX u v l z B C E H m n J L o O Q FF Y hm hk hb h3 he xp hg il yu q r bh
end
end
end DL
namespace DL
open PySem L2
def _root_.L2.Room.af1(r:Room k A):A.units+130<dA:=by have:=r.un;lia
def _root_.L2.Room.ad7(r:Room k A)(h:7<=k):A.units+300<dA:=by have:=r.un;lia
def JE{y:Str}{d:bb}{a:List (Str×bb)}(h:a.lookup y=some d<|>1):∀(x:Str) (b:bb),(x,b)∈[(y,d)]++[(y,d)]->a.lookup x=some b:=by nofun
def GH{sc:i3}{fn:List Str}{x:Str}(h:sc.names.lookup x=some .free)(a:((sc.names.all λp=>p.2 !=.free||fn.contains p.1)=true)<|>3):x∈fn:=by exists (aBt.mp a _<|PySem.mem_of_lookup h)
def GF:df->Pos
 |.FunctionDef _ _ _ _ _ _ _ _ _ p=>p
 |_=>{0,0,0,0}
end DL
namespace M
open PySem L2 DL
def wL:D->Option G.V
 |.tup [.int a,.int b,.int c]=>some {a,b,c}
 |_=>none
@[simp]def wC(v:G.V):wL (vd v)=some v:=rfl
def uQ(h:wL d=some v):d=vd v:=by
 unfold wL at h;split at h
 .cases h;rfl
 cases h
def E8:List D->Option (List G.V)
 |[]=>some []
 |d::a=>match wL d,E8 a with
  |some v,some b=>some (v::b)
  |_,_=>none
@[simp]theorem v8:∀vs:List G.V,E8 (vs.map vd)=some vs:=by
 intro a;cases a with
 |nil=>rfl
 |cons v vs=>rw[aAz,E8,wC,v8 vs]
theorem t6:∀{ds:List D}{vs:List G.V},E8 ds=some vs->ds=vs.map vd:=by
 intro a vs h;cases a with
 |nil=>cases h;rfl
 |cons d ds=>
  unfold E8 at h;split at h
  .rename_i v f b e;cases h;rw[uQ b,t6 e];rfl
  cases h
def kC(h:vd u=vd v):u=v:=by
 have:wL (vd u)=wL (vd v):=by rw[h]
 exists this
def GG{u v:List G.V}(h:u.map vd=v.map vd):u=v:=by
 have:E8 (u.map vd)=E8 (v.map vd):=by rw[h]
 exists this
def U4(n:Nat)(J:List G.V):Prop:=(∀P∈J,Sz n P)/\J.length<=1000
def DY:Option G.V->D
 |some v=>vd v
 |none=>.non
def A7:List D->R D
 |[.lst Y]=>match E8 Y with
  |some a=>.ok (DY (G.z8 a))
  |none=>.bad
 |_=>.bad
open Classical in
def D7:List D->R D
 |[.lst Y]=>match E8 Y with
  |some J=>if J≠[]/\U4 1000 J then .ok (.int (G.U0 J))else .bad
  |none=>.bad
 |_=>.bad
open Classical in
def G8:List D->R D
 |[.lst Y]=>match E8 Y with
  |some J=>if U4 1000 J/\G.U0 J=3 then .ok .non else .bad
  |none=>.bad
 |_=>.bad
open Classical in
def y3:List D->R D:=v4 λa b c d=>LH λY=>nP (match E8 Y with
 |some J=>if Sz 10000 {a,b,c}/\U4 1000 J then .ok (.lst ((G.y6 {a,b,c} d J).map vd))else .bad
 |none=>.bad)
open Classical in
def C9:List D->R D:=SF λg=>LH λY=>nP ((v1 λa b c=>v1 λd e f=>nP (match E8 Y with
 |some J=>if Sz 1000 {a,b,c}/\Sz 1000 {d,e,f}/\U4 1000 J/\G.fL (G.b7 {a,b,c} {d,e,f} J).1 then .ok (sJ (G.b7 {a,b,c} {d,e,f} J).1 (G.b7 {a,b,c} {d,e,f} J).2)else .bad
 |none=>.bad)) g)
abbrev F3(p:G.V×G.V):D:=.tup [vd p.1,vd p.2]
structure Land(J:List G.V)(m:G.V):Prop where
 good:G.Good J m
 sz:U4 900 J
 few:J.length<=63
 head:J.head?=some m
open Classical in
def M7:List D->R D
 |[.lst Y]=>match E8 Y with
  |some (m::J)=>if Land (m::J) m then .ok (F3 (G.d7 m (m::J)))else .bad
  |_=>.bad
 |_=>.bad
open Classical in
def eU:List D->R D:=v1 λa b c=>v1 λd e f=>v1 λg h i=>v1 λj k l=>nP (
 if Sz 10000 {a,b,c}/\Sz 1000 {d,e,f}/\Sz 1000 {g,h,i}/\Sz 1000 {j,k,l}then .ok (.int (G.turn {a,b,c} {d,e,f} {g,h,i} {j,k,l}))else .bad)
open Classical in
def T8:List D->R D:=v1 λa b c=>LH λY=>nP (match E8 Y with
 |some J=>if Sz 10000 {a,b,c}/\U4 1000 J then .ok (.lst ((G.w5 {a,b,c} J).reverse.map vd))else .bad
 |none=>.bad)
open Classical in
def N9:List D->R D:=v1 λa b c=>LH λY=>nP (match E8 Y with
 |some J=>if Sz 10000 {a,b,c}/\U4 1000 J then .ok (.lst ((G.k9 {a,b,c} J).map vd))else .bad
 |none=>.bad)
def A4:List D->R D
 |[.lst Y]=>match E8 Y with
  |some J=>if J.length<=3000 then .ok (.lst ((G.U8 J).map F3))else .bad
  |none=>.bad
 |_=>.bad
abbrev k8(J:List G.V)(f:G.V×Int):D:=.tup [sJ f.1 f.2,.lst ((G.j1 J f).map vd)]
def dZ(J:List G.V)(fs:List (G.V×Int)):Prop:=(∀f,f∈fs↔G.IsFace J f.1 f.2)/\rX R7 (fs.map<|k8 J)
open Classical in
def l9(J:List G.V):List (G.V×Int):=if h:∃fs,dZ J fs then h.choose else[]
def I9:List D->List D->R D
 |[w],[_]=>.ok w
 |_,_=>.bad
def B8:List D->List D->R D
 |[w],[p]=>y3 [p,w]
 |_,_=>.bad
open Classical in
def F8(d:D) (a b:List D->R D):R D:=match a [.non]with
 |.ok (.lst Y)=>match E8 Y with
  |some (m::J)=>if Land (m::J) m/\(m::J).length<=14/\d=F3 (G.d7 m (m::J))/\a=I9 [.lst Y]/\b=B8 [.lst Y]then .ok (.lst ((l9 (m::J)).map (k8 (m::J))))else .bad
  |_=>.bad
 |_=>.bad
def d4(J:List G.V):List G.V:=(K6<|J.map vd).filterMap wL
open Classical in
def bP:List D->R D
 |[.lst Y]=>match E8 Y with
  |some J=>if U4 900 J/\G.i9 J/\(d4 J).length<=14 then .ok (.lst ((l9 (d4 J)).map (k8 (d4 J))))else .bad
  |none=>.bad
 |_=>.bad
def B6(J:List G.V):List G.V:=d4 ((l9<|d4 J).flatMap (G.j1<|d4 J))
def ne0(v:G.V):IK (vd v) (.tup [.int 0,.int 0,.int 0])=.ok (.bl (!decide (v=0))):=by
 rw[kW];congr 3;rw[aCU];erw[aAH,beq_iff_eq,decide_eq_true_eq,G.qC]
 nofun
def eq0(v:G.V):SL (vd v) (.tup [.int 0,.int 0,.int 0])=.ok (.bl (decide (v=0))):=by
 rw[jz];congr 2;rw[aCU];erw[aAH,beq_iff_eq,decide_eq_true_eq,G.qC]
 nofun
def T1(b:G d ρ=.ok a)(e:F a=.ok (.nx ρ2)):M0 G F (d::ds) ρ=M0 G F ds ρ2:=by rw[M0,b];dsimp only;rw[e]
def iM(b:G d ρ=.ok a)(e:F a=.ok (.rt x)):M0 G F (d::ds) ρ=.ok (.rt x):=by rw[M0,b];dsimp only;rw[e]
theorem L4{e:Type}(rep:e->D)(p:e->Bool)(g:e->D):∀(l:List e),(∀a∈l,∃d,G (rep a) ρ=.ok d/\ft d=.ok (p a)/\(p a=true->fe d=.ok (g a)))->u6 G ft fe ρ (l.map rep)=.ok ((l.filter p).map g):=by
 intro f h;cases f with
 |nil=>rfl
 |cons a l=>
  let{d,k,m,o}:=h a (.head _);rw[aAz,u6,k];dsimp only;rw[m,R.aa0,(L4 rep p g l λb n=>h b (.tail _ n))];cases q:p a with
  |false=>rw[jl (by symm),List.filter_cons_of_neg (by lia)]
  |true=>nofun
def K5{d:Type}(rep:d->D)(g:d->D)(l:List d)(h:∀a∈l,∃b,G (rep a) ρ=.ok b/\fe b=.ok (g a)):u6 G (λ_=>.ok true) fe ρ (l.map rep)=.ok (l.map g):=by
 have:=L4 rep (λ_=>true) g l λa e=>by let{b,f,k}:=h a e;show{b,f,rfl,λ_=>k}
 rw[this,List.filter_eq_self.mpr λ_ _=>rfl]
def small(h:n<=1000):n<=sizeLine:=aAk h (by symm)
def ZC(h:n<=3000):n<=sizeLine:=aAk h (by symm)
def U4.sub(h:U4 n J)(b:∀P∈a,P∈J)(d:a.length<=J.length):U4 n a:={λP e=>h.1 P (b P e),aAk d h.2}
def U4.mono(h:U4 m J)(a:m<=n<|>2):U4 n J:={λP b=>(h.1 P b).mono a,h.2}
def a3a(t:Int):(sgn t==0)=decide (t=0):=by
 unfold sgn;by_cases h:0<t
 .rw[jk h];simp;lia
 rw[jl h];by_cases a:t<0
 .rw[jk a];simp;lia
 rw[jl a];simp;lia
def iT(a:Sz 10000 n)(b:U4 1000 J):y3 [sJ n d,.lst (J.map vd)]=.ok (.lst ((G.y6 n d J).map vd)):=by erw[y3,v4,SF,xI,LH,nP,v8];show jk {a,b}
def LX(a:J≠[])(b:U4 1000 J):D7 [.lst (J.map vd)]=.ok (.int (G.U0 J)):=by erw[D7,v8];show jk {a,b}
def DA(ws:List G.V):A7 [.lst (ws.map vd)]=.ok (DY (G.z8 ws)):=by erw[A7,v8]
def CG(bs:List Bool):cO (bs.map D.bl)=some bs:=by
 induction bs with
 |nil=>rfl
 |cons b bs a=>rw[aAz,cO,a];rfl
def gx(bs:List Bool):anyR [.lst (bs.map D.bl)]=.ok (.bl (bs.any id)):=by erw[anyR,CG]
def VH(Y:List D):NS (.lst Y) none (some (-1))=.ok (.lst Y.dropLast):=by
 change R.ok (D.lst<|cutD Y none<|some (-1))=_;unfold cutD HT.sIx;rw[aEk];simp
 lia
def WR(Y:List D):NS (.lst Y) (some 1) none=.ok (.lst Y.tail):=by
 change R.ok (D.lst<|cutD Y (some 1) none)=_;unfold cutD HT.sIx;cases Y with
 |nil=>rfl
 |cons a l=>simp
def nk(Y:List D):NS (.lst Y) none (some 1)=.ok (.lst (Y.take 1)):=by
 change R.ok (D.lst<|cutD Y none<|some 1)=_;unfold cutD HT.sIx
 nofun
def YF(Y:List D)(a b:D):qT (Y++[a,b]) (-1)=some b:=by
 have d:(Y++[a,b]).length=Y.length+2:=by simp
 unfold qT FG;rw[d,jl (by symm),jk (by lia)];change(Y++[a,b])[((-1:Int)+((Y.length+2:Nat):Int)).toNat]?=_;have:((-1:Int)+((Y.length+2:Nat):Int)).toNat=Y.length+1:=by lia
 nofun
def XN(Y:List D)(a b:D):qT (Y++[a,b]) (-2)=some a:=by
 have d:(Y++[a,b]).length=Y.length+2:=by simp
 unfold qT FG;rw[d,jl (by symm),jk (by lia)];change(Y++[a,b])[((-2:Int)+((Y.length+2:Nat):Int)).toNat]?=_;have:((-2:Int)+((Y.length+2:Nat):Int)).toNat=Y.length:=by lia
 rw[this,aAy (by lia),Nat.sub_self];rfl
def yz(a:D)(Y:List D):qT (a::Y) 0=some a:=by rw[X0 (by symm)];rfl
def xj(a b:D)(Y:List D):qT (a::b::Y) 1=some b:=by rw[X0 (by symm)];rfl
def UH{P Q R:G.V}(h:G.fL (G.c9 P Q R).1):G.cr (Q-P) (R-P)≠0:=λe=>by
 have:(G.c9 P Q R).1=0:=by change G.cK (G.cr (Q-P)<|R-P) _=0;rw[e];rfl
 rw[this]at h;unfold G.fL at h;show kb h (by symm)
theorem yO:∀{c:List G.V},(G.X5 n P c).length<=c.length
 |[]=>aAj _
 |[a]=>aAj _
 |b::a::r=>by
  unfold G.X5;split
  .show aAk (yO (c:=a::r)) (by simp)
  show aAj _
theorem oN:∀(a c:List G.V),(a.foldl (λc P=>P::G.X5 n P c) c).length<=a.length+c.length:=by
 intro b c;cases b with
 |nil=>simp
 |cons P a=>show aAk (oN a _) ?_;have:=yO (n:=n) (P:=P) (c:=c);simp;lia
def uC(n:G.V)(ps:List G.V):(G.w5 n ps).length<=ps.length:=by simpa[G.w5]using oN ps []
theorem sD{b β:Type}(f:b->D):∀(Y a:List b),kZ (Y.map f) (a.map f)=(Y.zip a).map λp=>D.tup [f p.1,f p.2]
 |[],_=>by simp[kZ]
 |_::_,[]=>by simp[kZ]
 |x::Y,y::a=>by have:=sD (β:=β) f Y a;erw[kZ]at this⊢;simp[this]
def XS(a:Sz 10000 n)(b:U4 1000 J):T8 [vd n,.lst (J.map vd)]=.ok (.lst ((G.w5 n J).reverse.map vd)):=by erw[T8,v1,SF,xI,LH,nP,v8];show jk {a,b}
def GT{n P Q R:G.V}(h:Sz 10000 n)(a:Sz 1000 P)(b:Sz 1000 Q)(d:Sz 1000 R):eU [vd n,vd P,vd Q,vd R]=.ok (.int (G.turn n P Q R)):=jk {h,a,b,d}
def W8(a:Sz 1000 A)(b:Sz 1000 B)(d:U4 1000 J)(e:G.fL (G.b7 A B J).1):C9 [.tup [vd A,vd B],.lst (J.map vd)]=.ok (sJ (G.b7 A B J).1 (G.b7 A B J).2):=by erw[C9,v1,SF,xI,LH,nP,v8];show jk {a,b,d,e}
def UC(a:Sz 10000 n)(b:U4 1000 J):N9 [vd n,.lst (J.map vd)]=.ok (.lst ((G.k9 n J).map vd)):=by erw[N9,v1,SF,xI,LH,nP,v8];show jk {a,b}
def OT(h:J.length<=3000):A4 [.lst (J.map vd)]=.ok (.lst ((G.U8 J).map F3)):=by erw[A4,v8];show jk h
def FW(h:a.length+b.length<=sizeLine):iS (.lst a) (.lst b)=.ok (.lst (a++b)):=jk h
def CK(a b:G.V):HT.lexLt (flat (vd a)) (flat (vd b))=true↔G.d6 (b-a):=by
 change HT.lexLt [a.x,a.y,a.z] [b.x,b.y,b.z]=true↔_;unfold G.d6;erw[HT.lexLt,G.XU,G.XA,G.YL];by_cases d:a.x=b.x
 .by_cases e:a.y=b.y
  .by_cases f:a.z=b.z
   .simp[d,e,f]
   simp[d,e,f];try lia
  simp[d,e];try lia
 simp[d];try lia
def DJ{J:List G.V}(h:J.Pairwise λa b=>G.d6 (b-a)):NK (J.map vd):=aBv.mpr (h.imp λ{a b} q=>(CK a b).mpr q)
def iz{J:List G.V}(h:NK (J.map vd)):J.Pairwise λa b=>G.d6 (b-a):=(aBv.mp h).imp λ{a b} q=>(CK a b).mp q
def vJ(J:List G.V):(J.map vd).all V6=true:=aBt.mpr λd a=>by let{v,_,rfl}:=aAo.mp a;rfl
def bz[Tabs]{m:G.V}{J:List G.V}(h:(m::J).Pairwise λa b=>G.d6 (b-a)):uN [.lst ((m::J).map vd)]=.ok (vd m):=by change(if(m::J).map vd≠[]/\((m::J).map vd).all V6=true then _ else _)=_;rw[jk {by simp,vJ _},VX (DJ h) _ (by simp)];rfl
def KH{k:Nat}{P Q R:G.V}(p:Sz k P)(q:Sz k Q)(r:Sz k R):Sz (k+1+(k+1)+1) (G.c9 P Q R).1:=by
 have a:=(q.sub p).cr (r.sub p);by_cases d:G.cr (Q-P) (R-P)=0
 .have:(G.c9 P Q R).1=0:=by change G.cK (G.cr (Q-P)<|R-P) _=0;rw[d];rfl
  nofun
 let{h,l,m}:=G.fC d;have e:=bits_fdiv (b:=(G.t7 (G.cr (Q-P)<|R-P):Int)) a.1;have f:=bits_fdiv (b:=(G.t7 (G.cr (Q-P)<|R-P):Int)) a.2.1;have g:=bits_fdiv (b:=(G.t7 (G.cr (Q-P)<|R-P):Int)) a.2.2;rw[cT h]at e f g;show{e,f,g}
def qX{P Q R:G.V}(p:Sz 1000 P)(q:Sz 1000 Q)(r:Sz 1000 R):Sz 2003 (G.c9 P Q R).1:=KH p q r
def yC{A B:G.V}{J:List G.V}(p:Sz 1000 A)(q:Sz 1000 B)(r:U4 1000 J):Sz 2003 (G.b7 A B J).1:=by
 unfold G.b7;rcases G.kI J 0 A with h|h
 .show qX p q (r.1 _ h)
 rw[h];show qX p q p
def xw(m:G.V):vd (m+G.kk)=.tup [.int m.x,.int m.y,.int (m.z+1)]:=by simp[G.kk]
def NZ(h:Sz 900 m):Sz 1000 (m+G.kk):=(h.add {by symm,by symm,by symm}).mono
def MG(h:U4 k J):U4 k (G.y6 n d J):=h.sub (λP a=>(G.c8.mp a).1) (List.length_filter_le _ _)
def OJ{f:Type}{l:List f}{a b:f}(d:a∈l)(e:b∈l)(h:a≠b):∃x y r,l=x::y::r:=by
 match l,d,e with
 |[x],d,e=>show kb ((aBj.mp d).trans (aBj.mp e).symm) h
 |x::y::r,_,_=>show{x,y,r,rfl}
open Classical in
def V2{U:List (D×D)}{k v a:D}:a∈(X6 U k v).map (·.1)↔a∈U.map (·.1)\/a=k:=by
 unfold X6;split
 .rename_i h;rw[aBx];have:((λx=>x.1)∘λp:D×D=>if p.1=k then(p.1,v)else p)=λp=>p.1:=by funext p;erw[Function.comp];split<;>rfl
  rw[this];show{.inl,λq=>q.elim id λe=>by rw[e];show h}
 rw[aBP,aAV];simp
def OA{U:List (D×D)}{k v:D}:(X6 U k v).length<=U.length+1:=by
 unfold X6;split
 .simp
 simp
def TL{p q:G.V×G.V}(h:F3 p=F3 q):p=q:=by injection h with h;injection h with b a;injection a with a _;show aFf (kC b) (kC a)
def CN(p:G.V×G.V):R0 7 (F3 p)=true/\JT (F3 p)=true:={rfl,rfl}
def ffC:Ev->R Bool:=λa=>((((cM 5 a).bind λd=>R.ok [d]).bind BQ).bind λx=>lq x (D.int 0)).bind xH
def ffS:Ev->R Out:=λa=>
 B0 ((G9 9 a).bind λb=>uS 4 a b (D.bl true)) λa=>((((cM 9 a).bind λx=>Q1 x (D.int 1)).bind λd=>(((cM 9 a).bind λx=>Q1 x (D.int 0)).bind λd=>R.ok [d]).bind λe=>R.ok (d::e)).bind cI).bind (yQ 5 a)
theorem HQ{a0 a1 a2 a3 a6 a7 a8:Sl}:∀(a:List (G.V×G.V)) (U:List (D×D)) (W:List (G.V×G.V)) (g:Sl),U.length+a.length<=10000->W.length+a.length<=10000->
  ∃f b,M0 (λd ρ=>R.ok (aCI ρ 9 (Sl.v d))) ffS (a.map F3) [a0,a1,a2,a3,.d U,.o (W.map F3),a6,a7,a8,g]=.ok (.nx [a0,a1,a2,a3,.d f,.o ((W++a.map λq=>(q.2,q.1)).map F3),a6,a7,a8,b])/\
   (∀e:G.V×G.V,F3 e∈f.map (·.1)↔F3 e∈U.map (·.1)\/e∈a)/\f.length<=U.length+a.length:=by
 intro n U W g p r;cases n with
 |nil=>show{U,g,by simp,λe=>by simp,by simp}
 |cons q a=>
  erw[aAt]at p r;have z:=OA (U:=U) (k:=F3 q) (v:=.bl true);let{f,b,e,m,l}:=HQ a (X6 U (F3 q)<|.bl true) (W++[(q.2,q.1)]) (.v (F3 q)) (by lia) (by simp;lia);show{f,b,?_,λx=>?_,by simp;lia}
  .rw[aAz];show(T1 (ρ2:=[a0,a1,a2,a3,.d (X6 U (F3 q)<|.bl true),.o ((W++[(q.2,q.1)]).map F3),a6,a7,a8,.v (F3 q)]) rfl ?_).trans ?_
   .have s:U.length<=sizeLine:=aAk (show U.length<=10000 by lia) (by symm);have t:(W.map F3).length<sizeLine:=by rw[aAh];show aBT (show W.length<=10000 by lia) (by symm)
    have u:uS 4 [a0,a1,a2,a3,.d U,.o (W.map F3),a6,a7,a8,.v (F3 q)] (F3 q) (.bl true)=.ok (.nx [a0,a1,a2,a3,.d (X6 U (F3 q)<|.bl true),.o (W.map F3),a6,a7,a8,.v (F3 q)]):=by change(if _ then _ else _)=_;rw[jk {(CN q).1,(CN q).2,s}];rfl
    have w:yQ 5 [a0,a1,a2,a3,.d (X6 U (F3 q)<|.bl true),.o (W.map F3),a6,a7,a8,.v (F3 q)] (F3 (q.2,q.1))=.ok (.nx [a0,a1,a2,a3,.d (X6 U (F3 q)<|.bl true),.o ((W++[(q.2,q.1)]).map F3),a6,a7,a8,.v (F3 q)]):=by change(if _ then _ else _)=_;rw[jk t,aBP];rfl
    change B0 ((R.ok<|F3 q).bind λy=>uS 4 [a0,a1,a2,a3,.d U,.o (W.map F3),a6,a7,a8,.v (F3 q)] y (D.bl true)) _=_;rw[R.aa0,u];show w
   rw[e];simp
  rw[m x,V2,aAg];constructor
  .rintro((h|h)|h)
   .show .inl h
   .show .inr (.inl (TL h))
   show .inr (.inr h)
  rintro(h|h|h)
  .show .inl (.inl h)
  .show .inl (.inr (by rw[h]))
  show .inr h
section
variable(Φ:(List D->R D)->Hp->(bb->Prop)->bb->Prop)
def ffB:Ev->R Out:=λa=>
 B0 ((CH 5 a).bind λz=>R.ok (Out.nx<|aCI z.snd 6<|Sl.v z.fst)) λa=>
  ((G9 6 a).bind (qM 4 a)).bind λt=>
   if t=true then
    B0
     ((((G9 6 a).bind λd=>((callC Φ 1 (p5 (λa=>(cM 6 a).bind λx=>Q1 x (D.int 0)) N8) a).bind λd=>R.ok [d]).bind λb=>R.ok (d::b)).bind C9).bind λd=>R.ok (Out.nx<|aCI a 7<|Sl.v d))
     λa=>
     B0
      (((((cM 7 a).bind λx=>NS x none (some 3)).bind λd=>((callC Φ 2 (p5 (G9 7) N8) a).bind λd=>R.ok [d]).bind λb=>R.ok (d::b)).bind N9).bind λd=>R.ok (Out.nx<|aCI a 8<|Sl.v d))
      λa=>
      B0 ((((G9 7 a).bind λd=>((G9 8 a).bind λd=>R.ok [d]).bind λb=>R.ok (d::b)).bind cI).bind (yQ 3 a))
       λa=>((((G9 8 a).bind λd=>R.ok [d]).bind A4).bind L8).bind λb=>M0 (λd a=>R.ok (aCI a 9<|Sl.v d)) ffS b a
   else R.ok (Out.nx a)
def yF(L:D) (e:G.V×G.V) (fs:List D) (U:List (D×D)) (W:List (G.V×G.V)) (a b c d:Sl):Ev:=
 [Sl.v (F3 e),Sl.c (I9 [L]) (Φ<|I9 [L]),Sl.c (B8 [L]) (Φ<|B8 [L]),.o fs,.d U,.o (W.map F3),a,b,c,d]
end
def AQ{Φ:(List D->R D)->Hp->(bb->Prop)->bb->Prop}{i:Nat}{f:Ev->R (List D)}{ρ:Ev}{m:List D->R D}{ds:List D}(h:ρ[i]?=some (.c m (Φ m)))(a:f ρ=.ok ds):callC Φ i f ρ=m ds:=by
 unfold callC
 nofun
def gU(J:List G.V)(fs:List (G.V×Int)):Nat:=(fs.map λf=>(G.j1 J f).length).sum
def eT(J:List G.V)(fs:List (G.V×Int))(f:G.V×Int):gU J (fs++[f])=gU J fs+(G.j1 J f).length:=by simp[gU]
def MF{J:List G.V}{m:G.V}(h:Land J m):Sz 1000 (G.d7 m J).1/\Sz 1000 (G.d7 m J).2:=by
 have a:=h.sz.1 m h.good.mem;let{l,e,f,g,k}:=G.xW h.good.solid h.good.mem h.good.least;unfold G.d7;dsimp only;split
 .show{a.mono,NZ a}
 let{x,y,r,b}:=OJ e g k;rw[b];have q:∀z∈x::y::r,Sz 1000 z:=λz d=>by rw[<-b]at d;show(h.sz.1 z (G.c8.mp d).1).mono
 show{q x (.head _),q y (.tail _ (.head _))}
def WH{J:List G.V}{m:G.V}(h:Land J m){fs:List (G.V×Int)}{b:G.V×G.V->Prop}{W:List (G.V×G.V)}(L:G.LInv J (G.d7 m J) fs b W){p:G.V×G.V}(d:p∈W):Sz 1000 p.1/\Sz 1000 p.2:=by
 rcases L.wt p d with⟨f,g,k⟩|⟨_,e⟩
 .have S:=(L.face f g).aa2 h.good.ord;have a:=S.aa1.mp k;show{(h.sz.1 _ (G.c8.mp a.q).1).mono,(h.sz.1 _ (G.c8.mp a.p).1).mono}
 rw[e];show MF h
def LP{J:List G.V}{m:G.V}(h:Land J m){f:G.V×Int}(a:G.IsFace J f.1 f.2):(G.j1 J f).length<=J.length:=by have S:=a.aa2 h.good.ord;show G.K4 S.aa4 λx b=>(G.c8.mp<|S.aa3 b).1
def zS{J:List G.V}{f g:G.V×Int}(h:R7 (k8 J f)=R7 (k8 J g)):f=g:=by have h:[f.1.x,f.1.y,f.1.z,f.2]=[g.1.x,g.1.y,g.1.z,g.2]:=h;erw[aFB,and_true]at h;show aFf (G.ext h.1 h.2.1 h.2.2.1) h.2.2.2
def rW{d β:Type}{f:d->β}(g:∀a b,f a=f b->a=b){l:List d}(h:l.Nodup):(l.map f).Nodup:=aBv.mpr (h.imp λ{a b} n e=>n (g a b e))
def VB{Φ:(List D->R D)->Hp->(bb->Prop)->bb->Prop}{J:List G.V}{m:G.V}(k:Land J m){fs:List (G.V×Int)}{U:List (D×D)}{W:List (G.V×G.V)}{a b c d:Sl}(L:G.LInv J (G.d7 m J) fs (λe=>F3 e∈U.map (·.1)) W)
  (hk:U.length<=gU J fs) (hW:W.length<=1+gU J fs) {n:Nat} (hn:W.length+(J.length*J.length-gU J fs)<n+1) (ag:W≠[]):
  ∃s t W' a' b' c' d',ffB Φ (yF Φ (.lst (J.map vd)) (G.d7 m J) (fs.map (k8 J)) U W a b c d)=.ok (.nx (yF Φ (.lst (J.map vd)) (G.d7 m J) (s.map (k8 J)) t W' a' b' c' d'))/\
   G.LInv J (G.d7 m J) s (λe=>F3 e∈t.map (·.1)) W'/\t.length<=gU J s/\W'.length<=1+gU J s/\W'.length+(J.length*J.length-gU J s)<n:=by
 obtain⟨rest,p,rfl⟩:∃rest p,W=rest++[p]:={W.dropLast,W.getLast ag,(List.dropLast_concat_getLast ag).symm};have u:=G.aV k.good.solid k.good.ord L.nd L.face;have few:=k.few;have nn:J.length*J.length<=63*63:=aEe few few;have hsum:gU J fs+J.length<=J.length*J.length:=u;have I:(rest++[p]).length=rest.length+1:=by simp
 rw[I]at hW hn;have N:CH 5 (yF Φ (.lst (J.map vd)) (G.d7 m J) (fs.map<|k8 J) U (rest++[p]) a b c d)=.ok (F3 p,yF Φ (.lst (J.map vd)) (G.d7 m J) (fs.map<|k8 J) U rest a b c d):=by change(match((rest++[p]).map F3)[((rest++[p]).map F3).length-1]? with|some d=>_|none=>_:R (D×Ev))=_;rw[aBP];simp;rfl
 have O:qM 4 (yF Φ (.lst (J.map vd)) (G.d7 m J) (fs.map<|k8 J) U rest (.v (F3 p)) b c d) (F3 p)=.ok (!(open Classical in decide (F3 p∈U.map (·.1)))):=by unfold qM;rw[show(yF Φ (.lst (J.map vd)) (G.d7 m J) (fs.map<|k8 J) U rest (.v (F3 p)) b c d)[4]?=some (.d U)from rfl];dsimp only;rw[jk (CN p)]
 have E:U4 1000 J:=k.sz.mono;unfold ffB;rw[N];show∃s t W' a' b' c' d',B0 (R.ok<|Out.nx<|yF Φ (.lst (J.map vd)) (G.d7 m J) (fs.map<|k8 J) U rest (.v (F3 p)) b c d) _=_/\_;rw[y9];rw[show G9 6 (yF Φ (.lst (J.map vd)) (G.d7 m J) (fs.map<|k8 J) U rest (.v (F3 p)) b c d)=.ok (F3 p)from rfl,R.aa0,O,R.aa0];by_cases w:F3 p∈U.map (·.1)
 .show{fs,U,rest,.v (F3 p),b,c,d,?_,G.ND k.good L rfl w,hk,by lia,by lia};rw[kd w];rfl
 have y:p∈rest++[p]:=by simp
 let{H,n2,n3}:=G.yU k.good L y w;let{A,B}:=WH k L y;have ab:=W8 A B E H.prim;have l:=yC A B E;obtain⟨f,ef⟩:∃f,G.b7 p.1 p.2 J=f:={_,rfl};rw[ef]at H n2 n3 ab l;have po:=iT (d:=f.2) l.mono E;have Q:=UC (n:=f.1) (J:=G.y6 f.1 f.2 J) l.mono (MG E);have rl:=LP k H;have Q:N9 [vd f.1,.lst ((G.y6 f.1 f.2 J).map vd)]=.ok (.lst ((G.j1 J f).map vd)):=Q;have pr:=OT (J:=G.j1 J f) (by lia);have T:=λ{wk'}{W'} h1 h2=>G.MZ k.good L (rest:=rest) (p:=p) rfl w (walked':=wk') (waiting':=W') h1 h2;rw[ef]at T;have Y:(fs++[f]).Nodup:=by
  have:=(T (wk':=λe=>F3 e∈U.map (·.1)\/e∈G.U8 (G.j1 J f)) (W':=rest++(G.U8<|G.j1 J f).map λq=>(q.2,q.1)) (λe=>Iff.rfl) (λq=>by
   rw[aAV,aAo];constructor
   .rintro(h|⟨x,hx,rfl⟩)
    .show .inl h
    show .inr hx
   rintro(h|h)
   .show .inl h
   show .inr {_,h,rfl}))
  show this.nd
 have r:gU J (fs++[f])+J.length<=J.length*J.length:=G.aV k.good.solid k.good.ord Y λg hg=>by
  rcases aAV.mp hg with z|z
  .show L.face g z
  rw[aBj.mp z];show H
 rw[eT]at r;have clen:(G.U8<|G.j1 J f).length=(G.j1 J f).length:=by unfold G.U8;simp;lia
 let{t,a9',run,C,len'}:=HQ (a0:=Sl.v (F3<|G.d7 m J)) (a1:=Sl.c (I9 [.lst (J.map vd)]) (Φ<|I9 [.lst (J.map vd)])) (a2:=Sl.c (B8 [.lst (J.map vd)]) (Φ<|B8 [.lst (J.map vd)])) (a3:=.o ((fs++[f]).map (k8 J))) (a6:=.v (F3 p)) (a7:=.v (sJ f.1 f.2)) (a8:=.v (.lst ((G.j1 J f).map vd))) (G.U8<|G.j1 J f) U rest d (by lia) (by lia);show{fs++[f],t,rest++(G.U8<|G.j1 J f).map (λq=>(q.2,q.1)),.v (F3 p),.v (sJ f.1 f.2),.v (.lst ((G.j1 J f).map vd)),a9',?_,T C (λq=>?_),?_,?_,?_}
 .have ap:yQ 3 (yF Φ (.lst (J.map vd)) (G.d7 m J) (fs.map<|k8 J) U rest (.v (F3 p)) (.v (sJ f.1 f.2)) (.v (.lst ((G.j1 J f).map vd))) d) (k8 J f)=.ok (.nx (yF Φ (.lst (J.map vd)) (G.d7 m J) ((fs++[f]).map (k8 J)) U rest (.v (F3 p)) (.v (sJ f.1 f.2)) (.v (.lst ((G.j1 J f).map vd))) d)):=by change(if(fs.map<|k8 J).length<sizeLine then _ else _)=_;have h3:=G.cZ k.good.solid k.good.ord L.face;have h3:3*fs.length<=gU J fs:=h3;rw[jk (by rw[aAh];show aBT (show fs.length<=4000 by lia) (by symm)),aBP];rfl
  have ca:callC Φ 1 (p5 (λρ=>(cM 6 ρ).bind λx=>Q1 x (D.int 0)) N8) (yF Φ (.lst (J.map vd)) (G.d7 m J) (fs.map<|k8 J) U rest (.v (F3 p)) b c d)=.ok (.lst (J.map vd)):=by show(AQ (m:=I9 [.lst (J.map vd)]) (ds:=[vd p.1]) rfl rfl).trans rfl
  have ct:callC Φ 2 (p5 (G9 7) N8) (yF Φ (.lst (J.map vd)) (G.d7 m J) (fs.map<|k8 J) U rest (.v (F3 p)) (.v (sJ f.1 f.2)) c d)=.ok (.lst ((G.y6 f.1 f.2 J).map vd)):=by show(AQ (m:=B8 [.lst (J.map vd)]) (ds:=[sJ f.1 f.2]) rfl rfl).trans po
  have sl:NS (sJ f.1 f.2) none (some 3)=.ok (vd f.1):=rfl;rw[kc w];erw[Bool.not_false,if_true];rw[ca,R.aa0,R.aa0,R.aa0,R.aa0,ab,R.aa0];change B0 (R.ok<|Out.nx<|yF Φ (.lst (J.map vd)) (G.d7 m J) (fs.map<|k8 J) U rest (.v (F3 p)) (.v (sJ f.1 f.2)) c d) _=_;rw[y9];rw[ct];change B0 ((((R.ok<|sJ f.1 f.2).bind λx=>NS x none (some 3)).bind λd=>(R.ok [D.lst ((G.y6 f.1 f.2 J).map vd)]).bind λds=>R.ok (d::ds)).bind N9|>.bind λd=>R.ok (Out.nx<|aCI _ 8<|Sl.v d)) _=_;rw[R.aa0,sl,R.aa0,R.aa0,R.aa0,Q,R.aa0];change B0 (R.ok<|Out.nx<|yF Φ (.lst (J.map vd)) (G.d7 m J) (fs.map<|k8 J) U rest (.v (F3 p)) (.v (sJ f.1 f.2)) (.v (.lst ((G.j1 J f).map vd))) d) _=_;rw[y9];change B0 (yQ 3 (yF Φ (.lst (J.map vd)) (G.d7 m J) (fs.map<|k8 J) U rest (.v (F3 p)) (.v (sJ f.1 f.2)) (.v (.lst ((G.j1 J f).map vd))) d)<|k8 J f) _=_;rw[ap,y9];change((A4 [.lst ((G.j1 J f).map vd)]).bind L8).bind _=_;rw[pr,R.aa0];show run
 .rw[aAV,aAo];constructor
  .rintro(h|⟨x,hx,rfl⟩)
   .show .inl h
   show .inr hx
  rintro(h|h)
  .show .inl h
  show .inr {_,h,rfl}
 .rw[eT];lia
 .rw[eT,aAM,aAh];lia
 rw[eT,aAM,aAh];lia
def TF(J:List G.V)(f:G.V×Int):List (G.V×Int)->List (G.V×Int)
 |[]=>[f]
 |x::Y=>if HT.lexLt (R7 (k8 J f)) (R7 (k8 J x))=true then f::x::Y else x::TF J f Y
def HM(J:List G.V)(fs:List (G.V×Int)):List (G.V×Int):=fs.foldr (TF J) []
theorem AR(J:List G.V)(f:G.V×Int):∀Y:List (G.V×Int),xA R7 (k8 J f) (Y.map (k8 J))=(TF J f Y).map (k8 J)
 |[]=>rfl
 |x::Y=>by
  unfold TF;rw[aAz,xA];split
  .rfl
  rw[aAz,AR J f Y]
theorem fH(J:List G.V):∀fs:List (G.V×Int),pQ R7 (fs.map (k8 J))=(HM J fs).map (k8 J)
 |[]=>rfl
 |f::fs=>by change xA R7 (k8 J f) (pQ R7 (fs.map (k8 J)))=_;rw[fH J fs,AR];rfl
def lH(h:k8 J f=k8 J g):f=g:=zS (by rw[h])
theorem fR:∀{a b:List (G.V×Int)},a.map (k8 J)=b.map (k8 J)->a=b:=by
 intro e d h;cases e with
 |nil=>
  cases d with
  |nil=>rfl
  |cons=>cases h
 |cons x a=>
  cases d with
  |nil=>cases h
  |cons y b=>injection h with f g;rw[lH f,fR g]
def IV:f∈HM J fs↔f∈fs:=by
 have h:=(W5 R7<|fs.map<|k8 J).mem_iff (a:=k8 J f);rw[fH]at h;constructor
 .intro q;let{g,b,e}:=aAo.mp (h.mp<|aBo q);rw[<-lH e];show b
 intro q;let{g,b,e}:=aAo.mp (h.mpr<|aBo q);rw[<-lH e];show b
def tH[Tabs]{J:List G.V}{fs:List (G.V×Int)}(h:fs.Nodup):((fs.map (k8 J)).map R7).Nodup:=by rw[aBx];show rW (λa b e=>zS e) h
def O5(h:rX k l):l.Nodup:=h.imp λ{a b} q e=>by subst e;rw[TS.lex_irrefl]at q;cases q
def F6{J:List G.V}{fs:List (G.V×Int)}(h:(fs.map (k8 J)).Nodup):fs.Nodup:=(aBv.mp h).imp λ{a b} n e=>n (by rw[e])
def zK{J:List G.V}{fs d:List (G.V×Int)}(a:dZ J fs)(b:dZ J d):fs=d:=by have e:=F6 (O5 a.2);have g:=F6 (O5 b.2);show fR (lD a.2 b.2 (((aDw e g).mpr λf=>by rw[a.1,b.1]).map _))
def qH(h:dZ J fs):l9 J=fs:=by unfold l9;have q:∃fs,dZ J fs:={fs,h};rw[dif_pos q];show zK q.choose_spec h
def sI[Tabs]{J:List G.V}{fs:List (G.V×Int)}(a:fs.Nodup)(h:∀n d,(n,d)∈fs↔G.IsFace J n d):dZ J (HM J fs):=by show{λf=>by rw[IV];show h f.1 f.2,?_};rw[<-fH];show lR (tH a)
def qz[Tabs]{Φ:(List D->R D)->Hp->(bb->Prop)->bb->Prop}{J:List G.V}{m:G.V}(g:Land J m)(o:J.length<=14):
  J9 (B0 (S4 ffC (ffB Φ) 5000 (yF Φ (.lst (J.map vd)) (G.d7 m J) [] [] [G.d7 m J] .no .no .no .no)) λρ=>(((cM 3 ρ).bind yx).bind λds=>R.ok (D.lst ds)).bind λd=>R.ok (Out.rt d))=.ok (.lst ((l9 J).map (k8 J))):=by
 show KC (Iv:=λn ρ=>∃fs U W a b c d,ρ=yF Φ (.lst (J.map vd)) (G.d7 m J) (fs.map<|k8 J) U W a b c d/\G.LInv J (G.d7 m J) fs (λe=>F3 e∈U.map (·.1)) W/\U.length<=gU J fs/\W.length<=1+gU J fs/\W.length+(J.length*J.length-gU J fs)<n) ?_ ?_ ?_ (by rintro ρ ⟨_,_,_,_,_,_,_,_,_,_,_,h⟩;lia)
 .rintro n ρ ⟨fs,U,W,a,b,c,d,rfl,L,u,v,w⟩;by_cases k:W=[]
  .subst k;show .inl rfl
  show .inr {?_,?_}
  .have x:(0:Int)<((W.map F3).length:Int):=by have:=aCX.mpr k;rw[aAh];lia
   change(R.ok<|D.bl<|decide ((0:Int)<((W.map F3).length:Int))).bind xH=_;rw[kd x];rfl
  let{y,z,A,B,C,E,H,e,I,N,q,r}:=VB (Φ:=Φ) (a:=a) (b:=b) (c:=c) (d:=d) g L u v w k;show{_,e,y,z,A,B,C,E,H,rfl,I,N,q,r}
 .show{[],[],[G.d7 m J],.no,.no,.no,.no,rfl,?_,aAj _,aAj _,?_}
  .have:=G.EM g.good;show{this.face,this.nd,λe=>?_,this.cl,this.wt,this.ne};rw[<-this.wk e];simp
  have O:J.length*J.length<=14*14:=aEe o o;change 1+(J.length*J.length-0)<5000
  lia
 rintro n ρ ⟨fs,U,W,a,b,c,d,rfl,L,u,v,w⟩ l;have s:W=[]:=by
  cases W with
  |nil=>rfl
  |cons p W=>have l:(R.ok<|D.bl<|decide ((0:Int)<(((p::W).map F3).length:Int))).bind xH=.ok false:=l;rw[kd (by simp;try lia)]at l;cases l
 subst s;let{k,Q}:=G.QK g.good L;have T:=sI L.nd Q;rw[qH T];have few:=G.aV g.good.solid g.good.ord L.nd L.face;have t:=G.cZ g.good.solid g.good.ord L.face;have O:J.length*J.length<=14*J.length:=Nat.mul_le_mul_right _ o;have Y:(fs.map<|k8 J).length<=63:=by rw[aAh];lia
 have sf:yx (.lst (fs.map<|k8 J))=.ok ((HM J fs).map (k8 J)):=by change(if _ then _ else _)=_;rw[jk {aBt.mpr λd hd=>by let{f,_,rfl}:=aAo.mp hd;rfl,tH L.nd,Y},fH]
 change J9 ((((R.ok<|D.lst<|fs.map<|k8 J).bind yx).bind λds=>R.ok (D.lst ds)).bind λd=>R.ok (Out.rt d))=_;rw[R.aa0,sf];rfl
theorem GM:∀{ds:List D},(∀d∈ds,∃v,d=vd v)->(ds.filterMap wL).map vd=ds:=by
 intro a h;cases a with
 |nil=>rfl
 |cons d ds=>let{v,rfl}:=h d (.head _);rw[List.filterMap_cons_some (wC v),aAz,GM λd b=>h d (.tail _ b)]
section
variable [Tabs]
def NO(J:List G.V):∀d∈J.map vd,V6 d=true:=λd a=>by let{v,_,rfl}:=aAo.mp a;rfl
def V7(J:List G.V):K6 (J.map vd)=(d4 J).map vd:=by unfold d4;show(GM λd a=>?_).symm;let{v,_,rfl}:=aAo.mp ((C7 (NO J) d).mp a);show{v,rfl}
def u7(J:List G.V):(d4 J).Pairwise λa b=>G.d6 (b-a):=iz (by rw[<-V7];show O6 _)
def QI{v:G.V}{J:List G.V}:vd v∈J.map vd↔v∈J:=by rw[aAo];show{by rintro⟨u,a,e⟩;rw[<-kC e];show a,λh=>{v,h,rfl}}
def o5{J:List G.V}{v:G.V}:v∈d4 J↔v∈J:=by rw[<-QI,<-V7,C7 (NO J),QI]
def iN(J:List G.V):(d4 J).Nodup:=(u7 J).imp λ{a b} h e=>by subst e;show G.G2 h
def X7{a b:List G.V}(g:a.Pairwise λa b=>G.d6 (b-a))(k:b.Pairwise λa b=>G.d6 (b-a))(h:∀v,v∈a↔v∈b):a=b:=by show GG (aX (DJ g) (DJ k) λd=>?_);rw[aAo,aAo];show{λ⟨v,f,e⟩=>{v,(h v).mp f,e},λ⟨v,f,e⟩=>{v,(h v).mpr f,e}}
def RZ(h:(d4 J).length<=63):ssR (.lst (J.map vd))=.ok ((d4 J).map vd):=by change(if _ then _ else _)=_;rw[jk {vJ J,by rw[V7,aAh];show h},V7]
def aH(h:G.i9 a)(d:∀v,v∈a->v∈b):G.i9 b:=by let{A,f,B,g,C,k,D,l,e}:=h;show{A,d A f,B,d B g,C,d C k,D,d D l,e}
def bw(h:G.i9 J):G.U0 J=3:=by
 by_cases e:G.U0 J=3
 .show e
 show kb h (G.PK e)
def DE(J:List G.V):(d4 J).length<=J.length:=G.K4 (iN J) λv a=>o5.mp a
def X9(f:U4 900 J)(g:G.i9 J)(d:(d4 J).length<=63):∃m r,d4 J=m::r/\Land (m::r) m:=by
 have a:G.i9 (d4 J):=aH g λv k=>o5.mpr k;cases e:d4 J with
 |nil=>rw[e]at a;let{A,l,_}:=a;cases l
 |cons m r=>
  show{m,r,rfl,?_};have b:=u7 J;rw[e]at a d b;show{{a,b,.head _,λX n=>?_},{λP o=>f.1 P (o5.mp (by rw[e];show o)),by lia},d,rfl};rcases aAg.mp n with h|h
  .show .inl h
  show .inr ((aAv.mp b).1 X h)
def TC(a:U4 1000 J)(b:G.i9 J):G8 [.lst (J.map vd)]=.ok .non:=by erw[G8,v8];show jk {a,bw b}
def a0k(h:Land (m::J) m):M7 [.lst ((m::J).map vd)]=.ok (F3 (G.d7 m (m::J))):=by erw[M7,v8];show jk h
def ck(h:Land (m::J) m)(a:(m::J).length<=14):F8 (F3 (G.d7 m (m::J))) (I9 [.lst ((m::J).map vd)]) (B8 [.lst ((m::J).map vd)])=.ok (.lst ((l9 (m::J)).map (k8 (m::J)))):=by erw[F8,show I9 [.lst ((m::J).map vd)] [.non]=.ok (.lst ((m::J).map vd))from rfl,v8];show jk {h,a,rfl,rfl,rfl}
def NX(a:U4 900 J)(b:G.i9 J)(d:(d4 J).length<=14):bP [.lst (J.map vd)]=.ok (.lst ((l9 (d4 J)).map (k8 (d4 J)))):=by erw[bP,v8];show jk {a,b,d}
omit [Tabs]in
theorem xx{d:Type}:∀l:List d,∃b:List d,b.Nodup/\∀x,x∈b↔x∈l
 |[]=>{[],aDd,λ_=>Iff.rfl}
 |a::l=>by
  let{b,f,h}:=xx l;by_cases g:a∈l
  .show{b,f,λx=>by rw[h,aAg];show{.inr,λq=>q.elim (λe=>by rw[e];show g) id}}
  show{a::b,aAP.mpr {λz=>g ((h a).mp z),f},λx=>by rw[aAg,aAg,h]}
def B5(h:Land J m)(r:J.length<=14):dZ J (l9 J):=by
 classical
 let{fs,g,a}:=xx ((G.cands J).filter λf=>decide (G.IsFace J f.1 f.2));have k:∀n d,(n,d)∈fs↔G.IsFace J n d:=λn d=>by
  rw[a,aCh];constructor
  .nofun
  intro q;show{?_,kd q};let{A,l,B,o,C,p,_,e}:=G.lL q;rw[<-e];show aBq.mpr {A,l,aBq.mpr {B,o,aAo.mpr {C,p,rfl}}}
 have b:=sI g k;rw[qH b];show b
def oH(d:J.Pairwise λa b=>G.d6 (b-a))(e:G.IsFace J f.1 f.2)(h:X∈G.j1 J f):X∈J:=(G.c8.mp<|(e.aa2 d).aa3 h).1
def ML(g:U4 900 J)(k:G.i9 J)(a:(d4 J).length<=14)(h:X∈B6 J):X∈J:=by let{m,r,e,L}:=X9 g k (by lia);unfold B6 at h;rw[o5,aBq]at h;let{f,b,d}:=h;rw[e]at b d a;have:=oH L.good.ord (((B5 L a).1 f).mp b) d;rw[<-e,o5]at this;show this
def IL(L:Land J m)(a:J.length<=14):((l9 J).flatMap (G.j1 J)).length<=200/\(d4 ((l9 J).flatMap (G.j1 J))).length<=14:=by
 have b:=B5 L a;have few:=G.aV L.good.solid L.good.ord (F6<|O5 b.2) λf d=>(b.1 f).mp d;have h:=aEe a a;constructor
 .rw[List.length_flatMap]
  lia
 show aAk (G.K4 (iN _) λv e=>?_) a;rw[o5,aBq]at e;let{f,d,g}:=e;show oH L.good.ord ((b.1 f).mp d) g
end
def aU(h:0<b):U1 (.int a) (.int b)=.ok (.int (a.fmod b)):=pT (by omega)
def tT(h:0<b)(d:b<1000000000000000):M4 (.int a) (.int b)=.ok (.int (a.fdiv b)):=V1 {by omega,n6 (K3 (n:=60) (by omega) (by omega))}
def qU{a b:Int}(h:0<b):0<=a.fmod b/\a.fmod b<b:=by have g:=(PyProof.Rows.fdiv_fmod_facts a b).2.2.1 h;omega
def dH(a:r=.ok (.nx ρ))(b:J9 (F ρ)=x):J9 (B0 r F)=x:=by rw[a];show b
def sj{n:Nat}(h:n<=1000000):bA [.int (n:Int)]=.ok ((aBm n).map λ(k:Nat)=>D.int (k:Int)):=by
 change(if pU 0 (n:Int) 1 then R.ok (vL 0 1<|jD 0 n 1)else R.bad)=_;rw[jk {by symm,by symm,by symm,by symm,by omega,by omega}];have e:jD 0 (n:Int) 1=n:=by
  unfold jD;split
  .simp
  omega
 unfold vL
 nofun
section
variable [Tabs]
def iI{J:List G.V}(h:U4 900 J)(k:G.i9 J)(d:(d4 J).length<=14):∀X,X∈B6 J↔∃f:G.V×Int,G.IsFace (d4 J) f.1 f.2/\X∈G.j1 (d4 J) f:=λX=>by let{m,r,e,L}:=X9 h k (by lia);unfold B6;rw[o5,aBq];rw[e]at d⊢;have g:=B5 L d;show{by rintro⟨f,a,b⟩;show{f,(g.1 f).mp a,b},by rintro⟨f,a,b⟩;show{f,(g.1 f).mpr a,b}}
def AU{l:List G.V}(h:l.Pairwise λa b=>G.d6 (b-a)):d4 l=l:=X7 (u7 _) h λv=>o5
def uE{J:List G.V}(o:U4 900 J)(p:G.i9 J)(q:(d4 J).length<=14):G.i9 (B6 J)/\U4 900 (B6 J)/\d4 (B6 J)=B6 J/\(B6 J).length<=14/\B6 (B6 J)=B6 J/\∀n d,G.IsFace (B6 J) n d↔G.IsFace (d4 J) n d:=by
 have t:=iI o p q;have g:(B6 J).Pairwise λa b=>G.d6 (b-a):=u7 _;have s:G.i9 (d4 J):=aH p λv h=>o5.mpr h;have u:=u7 J;let{m,r,e,L}:=X9 o p (by lia);have w:dZ (d4 J) (l9<|d4 J):=by have k:=q;rw[e]at k⊢;show B5 L k
 have C:(B6 J).length<=14:=by have k:=q;unfold B6;rw[e]at k⊢;show(IL L k).2
 have E:l9 (d4 J)≠[]:=λz=>by
  let{A,Q,_}:=s;have:∃f:G.V×Int,G.IsFace (d4 J) f.1 f.2:=by have l:=L;rw[<-e]at l;have:=G.gP l.good.solid l.good.ord l.good.mem l.good.least;show{_,this}
  let{f,x}:=this;have:=(w.1 f).mpr x;rw[z]at this;cases this
 let{I,y}:=aET _ E;have H:=G.GL s u g t ((w.1 I).mp y);have sz:U4 900 (B6 J):={λP N=>o.1 P (ML o p q N),by lia};have B:=AU g;show{H,sz,B,C,?_,λn d=>G.VT s u g t _ E w.1};show X7 (u7 _) g λv=>?_;have O:=iI sz H (by rw[B];show C) v;change v∈B6 (B6 J)↔_;rw[O,B];constructor
 .rintro⟨f,x,h⟩;show oH g x h
 showλh=>G.PC s u g t h
end
end M
namespace DL
open PySem PySem.Spec L2
def UU{K:Params->km}{P c:bb}{tb:List (Pos×Str)}{a:List bb}(b:P∈a)(d:∀w:cq,PySem.W.codeHdIn (K w.params) c P=true):∀p∈[(P,tb)],p.1∈a/\∃c,∀w:cq,PySem.W.codeHdIn (K w.params) c p.1=true:=λp e=>by rw[aBj.mp e];show{b,c,d}
def Got(K:km)(x:Str)(st:df):Prop:=∃f a,PySem.W.nsIn K bt x=some (some<|.ref f)/\Fun K x x st f a
def WQ(K:km)(x:Str)(st:df)(b:bb):Prop:=∃f d a,PySem.W.nsIn K bt x=some (some<|.ref f)/\PySem.W.codeHdIn K a b=true/\FunC K x x st f d a
def dU(K:km)(mg:fD)(x:Str)(st:df):Prop:=∃f a,mg x=some (.ref f)/\Fun K x x st f a
def a0u(K:km)(mg:fD)(x:Str)(st:df)(b:bb):Prop:=∃f d a,mg x=some (.ref f)/\PySem.W.codeHdIn K a b=true/\FunC K x x st f d a
section
variable{kV doc pm L ct:av}
def cw(a:PySem.W.nsIn K bt x=some (some (.ref f)))(l:K.lookup f=some {d,e,.func (PySem.W.fnOf x x (D3 st) (q9 st) (b9 st) .none kV doc pm g L ct),b})
 (c:PySem.W.codeIn K L x=true) (k:PySem.W.keepIn K (.ref f)=true):Got K x st:={f,_,a,SC l c k}
def WL(a:PySem.W.nsIn K bt x=some (some (.ref f)))(l:K.lookup f=some {g,h,.func (PySem.W.fnOf x x (D3 st) (q9 st) (b9 st) .none kV doc pm m L ct),b})
 (c:PySem.W.codeIn K L x=true) (k:PySem.W.keepIn K (.ref f)=true) (e:L=.ref cd) (n:PySem.W.codeHdIn K cd d=true):WQ K x st d:={f,_,cd,a,n,WA l e c k}
def Got.def(g:Got K x st)(X:K.In h)(G:h.Ns bt mg):dU K mg x st:=by let{f,d,a,b}:=g;show{f,d,PySem.W.mg_of X G a,b}
def WQ.def(g:WQ K x st d)(X:K.In h)(G:h.Ns bt mg):a0u K mg x st d:=by let{f,e,k,a,b}:=g;show{f,e,k,PySem.W.mg_of X G a,b}
def D9(a:sc.kind=.function<|>1)(b:sc.isCoroutine=false<|>1)(d:sc.isGenerator=false<|>1)(e:N.Nodup<|>3)(f:N.take ps.length=ps<|>1)(g:(∀x∈ps,sc.names.lookup x=some .local\/sc.names.lookup x=some .cell)<|>3)(h:(∀y∈sc.names,y.2≠.free)<|>3):FnScope N ps sc:={a,b,d,e,f,g,h}
variable [Tabs]
def m8(g:dU K mg x st)(S:FnScope N ps (b9 st))(n:∀{f:bb}{L:av}{A:cp}{a:List Env}{s:a9}{H:Hp}{E:XK},Room k (A.deeper (aEA x (b9 st) s.heap.objs.size f L))->(A.deeper (aEA x (b9 st) s.heap.objs.size f L)).units+64<dA->(A.deeper (aEA x (b9 st) s.heap.objs.size f L)).units+130<dA->N.Nodup->
  bX (SE P w K mg base N x (b9 st) f L A a s H E) (q9 st) F) (o:∀ds d,ds.length=ps.length->m ds=.ok d->J9 (F (j3 N ds))=.ok d) (e:∀(kV doc pm:av) (p:Option bb) (L ct:av) (b:List av),b.length=ps.length->bindArgs (PySem.W.fnOf x x (D3 st) (q9 st) (b9 st) .none kV doc pm p L ct) {b,[]}=pure (ps.zip b):=by
  intro _ _ _ _ _ _ b q;rcases b with _|⟨_,_|⟨_,_|⟨_,_|⟨_,_|⟨_,_|⟨_,_|⟨_,_⟩⟩⟩⟩⟩⟩⟩<;>first|rfl|show kb q (by simp)):v5 P w K mg base (k+1) x ps.length m:=by
 let{f,t,r,l}:=g;show oz l S (l.binds e) r (λL A a s H E h=>n h h.units h.af1 S.nd) o
end
def XO(x:D)(a:List D):Bool:=a.any λy=>v6 y x
def inR(n:Bool):D->D->R D
 |.tup Y,.lst a=>if w9 a<=40/\w9 Y<=30 then .ok (.bl (XO (.tup Y) a !=n))else .bad
 |.lst Y,.lst a=>if w9 a<=40/\w9 Y<=30 then .ok (.bl (XO (.lst Y) a !=n))else .bad
 |_,_=>.bad
section
variable [Tabs]
open Classical in
def VW(K:km) (H:Hp) (O:bb->Prop) (a:D) (u:av):Bool:=decide (∃y d,RelV y u/\Rep K H O y d/\v6 d a=true)
open Classical in
def MI(I:Inv X b m H s)(r:Rep X.K H O y d)(f:RelV y u):VW X.K H O g u=v6 d g:=by
 by_cases h:v6 d g=true
 .rw[h];show kd {y,d,f,r,h}
 rw[Bool.eq_false_iff.mpr h];show kc λ⟨n,o,a,k,l⟩=>h ?_;have e:=RelV.inj f a;subst e;rw[Rep.inj I r k];show l
theorem CU(I:Inv X k z H s)(l:Rep X.K H B x e)(m:RelV x v):∀{vs:List V}{a:List D}{f:List av},Reps X.K H O vs a->m9 vs f->A.units+w9 a<dA->A.units+A5 e<dA->
  (∀u∈f,SeqAt.EqAt A s u v (VW X.K H O e u))/\f.any (VW X.K H O e)=XO e a:=by
 intro _ _ _ p n o b;cases p with
 |nil=>cases n;show{λu o=>(by cases o),rfl}
 |@cons _ d _ a h t=>
  cases n with
  |cons r q=>
   have C:A5 d<=w9 (d::a):=nQ (j:=0) rfl;have E:w9 a<=w9 (d::a):=by rw[w9];show Nat.le_max_right _ _
   let{w,y}:=CU I l m t q (by lia) b;show{λu g=>?_,?_}
   .rcases aAg.mp g with rfl|g
    .rw[MI I h r];show OW I h l r m (by lia) b
    show w u g
   rw[List.any_cons,y,MI I h r];rfl
end
section
variable [Tabs]
def NR(hu:X.A.units+64<dA):kQ X (eY .NotIn) (inR true):=by
 intro H O x y dx dy Q fr r1 r2 q;unfold inR at q;split at q
 .rename_i Y l;split at q
  .rename_i hd;let{n,gm,rfl,o,t}:=r1.tupI;let{a,vs,rfl,h,r}:=r2.aa5;show{λe f b g=>e=.ref n/\f=.ref a/\b=H/\g (.bl (!XO (.tup Y) l)) H,?_,rfl,rfl,rfl,?_}
   .intro k s σ b e f v u g I B C ⟨E,J,L,N⟩;subst E J L;cases C;let{d,T,p,hz}:=I.list h;have m:=CU I (A:=X.A.in1) (O:=O) (Rep.tup o t) B r T (by rw[t8];lia) (by rw[t8,A5];lia);show SeqAt.notIn_listAt (VW X.K b O<|.tup Y) p.isList (λw U=>m.1 w (by exists U)) {.bl _,b,I,rfl,?_};rw[show d.toArray.any (VW X.K b O<|.tup Y)=d.any (VW X.K b O<|.tup Y)by simp,m.2];show N
   have:=q (.bl _) H (Same.refl _) .bl;exists this
  show q.elim
 .rename_i Y l;split at q
  .rename_i hd;let{n,gm,rfl,o,t}:=r1.lstP;let{a,vs,rfl,h,r}:=r2.aa5;show{λe f b g=>e=.ref n/\f=.ref a/\b=H/\g (.bl (!XO (.lst Y) l)) H,?_,rfl,rfl,rfl,?_}
   .intro k s σ b e f v u g I B C ⟨E,J,L,N⟩;subst E J L;cases C;let{d,T,p,hz}:=I.list h;have m:=CU I (A:=X.A.in1) (O:=O) (Rep.lst (O:=λ_=>False) o (λz=>z)<|t.sub λ_ z=>z.elim) B r T (by rw[t8];lia) (by rw[t8,A5];lia);show SeqAt.notIn_listAt (VW X.K b O<|.lst Y) p.isList (λw U=>m.1 w (by exists U)) {.bl _,b,I,rfl,?_};rw[show d.toArray.any (VW X.K b O<|.lst Y)=d.any (VW X.K b O<|.lst Y)by simp,m.2];show N
   have:=q (.bl _) H (Same.refl _) .bl;exists this
  show q.elim
 show q.elim
end
end DL
namespace DL
open PySem PySem.Spec L2
open PyProof.Rows hiding St st
variable [Tabs]
section
def a3w(r:R (List D)):R D:=r.bind λa=>.ok (.lst a)
@[simp]def a1g(ds:List D):a3w (.ok ds)=.ok (.lst ds):=rfl
open Classical in
def spR:D->R (List D)
 |.lst a=>if a.all V6=true/\a.Nodup/\a.length<=63 then .ok (K6 a)else .bad
 |_=>.bad
def CI{p J:Pos}{f:Ev->R D}(ha:PB X e f)(hh:X.calm=true)(hu:X.A.units+300<dA)(hg:Gl X "sorted"<|>1)(hm:X.mg "sorted"=none<|>4)(hv:dm "sorted"=some (.builtin "sorted")<|>3)(he:a5 [e] X.env=(false,dC e X.env)::a5 [] X.env<|>1)(bh:(dq J (a5 [] X.env)).any (·.1)=false<|>1):
  PF X (.Call (.Name "sorted" p) [e] [] J) (λρ=>(f ρ).bind spR):=by
 show wF λN s σ H Q I H9 O0 O ρ E q=>?_;dsimp only at q;show aAK (K0 I hg hm hv ?_ (by symm) (by symm));have ui:PA X [e] _:=G0 ha Z5 he;show aBl (D6 (ui J N s σ H (λvs T=>∃v g,vs=[v]/\f ρ=.ok (.lst g)/\Same H T/\z6 X.K T O v (.lst g)) I {H9,O0,O,ρ,E,?_}) λus t z9=>?_) he bh
 .cases e1:f ρ with
  |ex z=>rw[e1]at q;show q
  |bad=>rw[e1]at q;show q.elim
  |ok d=>
   rw[e1,R.aa0]at q;cases d with
   |lst g=>showλv T t r1=>{v,g,rfl,rfl,t,r1}
   |_=>show aAA q
 let{vs,T,I1,r1,v,g,ev,ef,sm,rb}:=z9;subst ev;rw[ef,R.aa0]at q;let{a,ws,rfl,hS,rr}:=rb.aa5;let{u,rfl,ru}:=vals1 r1;cases ru;let{h,U,{oL,nL,gL,cL,dL,sL},zL}:=I1.list hS;have hl:t.heap.IsList a h.toArray:={oL,gL,cL,nL,sL};erw[spR]at q;by_cases hc:g.all V6=true/\g.Nodup/\g.length<=63
 .rw[jk hc]at q;let{jt,nd,qo}:=hc;have pt:∀d∈g,V6 d=true:=aBt.mp jt;have st:y8 X.K T O h g:=y8.of U rr;have B:h.length=g.length:=st.length;have m:∀u∈h,∃d,d∈g/\V6 d=true/\HV t.heap u d:=λu hu=>by let{d,L,v,U,rp}:=st.get hu;show{d,L,pt d L,R6 I1 rp (G3<|pt d L) U}
  show TS.sorted_keys (vs:=h) (f:=true) (key:=xS t.heap) (C:=λs'=>∃h',s'={t with heap:=h'}/\∀b o,t.heap.get? b=some o->h'.get? b=some o)
   (λ{Q'} hq=>collect_list hl (hq _ {_,rfl,λb o e=>?_}) (by rw[B];show aAk qo (by symm)))
   (λs' ⟨h',r,k⟩ s6 k6 x hx y hy prog w A E hA {Q} qq=>?_) (λh2 s' ⟨h',r,k⟩ s6 k6 A {Q} qq=>?_) (by rw[B];lia) λs' gm h' l ⟨h1,r,k⟩ pm zg k2 hl ⟨n,gl⟩=>?_
  .show(aAx _ _<|aCp<|aAl<|aAf e).trans (aAc _ e)
  .subst r;let{d,_,pd,om}:=m x hx;let{d',_,Y,ou}:=m y hy;rw[T7 pd om,T7 Y ou]at qq;show ET pd Y (om.keeps λb o e _=>k6 b o (k b o e)) (ou.keeps λb o e _=>k6 b o (k b o e)) qq
  .subst r;show pS (λx hx=>?_) h2 qq;let{d,_,pd,om}:=m x hx;show{d,pd,om.keeps λb o e _=>k6 b o (k b o e)}
  subst r;let{ng,zr,p2,qp}:=bH (key:=xS t.heap) st pm zg (by rintro u d ⟨v,U,rp⟩ L;show T7 (pt d L) (R6 I1 rp (G3<|pt d L) U)) pt nd;have e2:ng=K6 g:=aX qp (O6 g) λd=>by rw[p2.mem_iff,C7 pt]
  subst e2;let{wv,mo,ki}:=zr.ab8;have I2':=I1.kept (h':=h1) (t':=t.toks) k;have I3:=I2'.laid (a:=l) (o:=.lst wv) (h':=h') (t':=t.toks) k2 hl {by rw[ki.length,p2.length_eq];show aAk qo (by symm),gm,n,mo,gl};show{.ref l,_,I3,rfl,q wv _ l sm (I2'.hok.fresh hl) ki}
 rw[jl hc]at q;show q.elim
end
section
def wz(i:Nat)(ρ:Ev):R Out:=match ρ[i]? with
 |some (.o _)=>.ok (.nx (ρ.set i<|.o []))
 |_=>.bad
def JS(i:Nat)(l:X.N[i]?=some x<|>1)(m:xO X.env.scope x<|>5)(n:(x==lb)=false<|>2)(r:(x==lh)=false<|>2)(s:gc (.Name x p) "clear" X.env (dC (.Name x p) X.env)=dC (.Name x p) X.env<|>1)(t:(b.endLine==f.line)=true<|>1)(u:fg (.Call (.Attribute (.Name x p) "clear" b) [] [] f) none e.line X.env=pure false<|>1):
  mV X (.Expr (.Call (.Attribute (.Name x p) "clear" b) [] [] f) e) (wz i):=λC I=>
 BG (jI (BZ PySem.F.plainAttrs_list PySem.F.slot_list_clear PySem.F.type_list_clear OF (N5 l m n r) s t) u) λD v H O w E y q=>by
 unfold wz at q;cases d:w[i]? with
 |none=>rw[d]at q;show(q).elim
 |some z=>
  rw[d]at q;cases z with
  |o Y=>let{a,g,h,J,L,k,Q}:=E.own i Y d;show{_,h,.inl {rfl,g,aF.of k},a,g,rfl,rfl,k,?_};let{A,B}:=E.write d h (.nil:Reps X.K H O [] []);show q v _ O A y B
  |_=>show(q).elim
mutual
theorem LV{K:km}{H:Hp}{O a:bb->Prop}:∀{v:V}{d:D},mX d=true->Rep K H O v d->Rep K H a v d
 |_,_,_,.int=>.int
 |_,_,h,.tup t r=>.tup t (uP h r)
 |_,_,h,.non=>(by cases h)
 |_,_,h,.bl=>(by cases h)
 |_,_,h,.str=>(by cases h)
 |_,_,h,.lst _ _ _=>(by cases h)
 |_,_,h,.dct ..=>(by cases h)
theorem uP{K:km}{H:Hp}{O a:bb->Prop}:∀{vs:List V}{ds:List D},cH ds=true->Reps K H O vs ds->Reps K H a vs ds
 |_,_,_,.nil=>.nil
 |_,_,h,.cons r t=>.cons (LV (aFK.mp h).1 r) (uP (aFK.mp h).2 t)
end
end
def tO(X:Cx)(f:Ev->R D):TE:=λk H Q=>∃l m O d,EnvOk X.K l m H O k d/\match f d with
 |.ok .non=>∀b,Same H b->Q .non b
 |.ok (.lst n)=>∀g b a,Same H b->b a=none->Reps X.K b O g n->Q (.ref a) (upd b a<|.lst g)
 |.ex e=>∀h,Same H h->XW X e h
 |_=>False
def PO(X:Cx)(e:cv)(f:Ev->R D):Prop:=PE X e (tO X f)
mutual
def GC(a:List D):D->Prop
 |.tup Y=>fK a Y
 |.lst Y=>Y≠a/\fK a Y
 |.dct _=>False
 |_=>True
def fK(a:List D):List D->Prop
 |[]=>True
 |x::Y=>GC a x/\fK a Y
end
def TV(a:List D):Sl->Prop
 |.no=>True
 |.v d=>GC a d
 |.o Y=>fK a Y
 |_=>False
theorem Q8:∀{l:List D},fK a l↔∀d∈l,GC a d
 |[]=>by simp[fK]
 |x::Y=>by simp[fK,Q8 (l:=Y)]
section
variable{X:Cx}{H9 H:Hp}{O0 O:bb->Prop}
mutual
theorem Rep.apart(I:Inv X g l H s)(f:Rep X.K H O (.ref a) (.lst k)):∀{v:V}{d:D},Rep X.K H O v d->GC k d->Rep X.K H (λb=>O b\/b=a) v d:=by
 intro _ _ z n;cases z with
 |non=>show .non
 |bl=>show .bl
 |int=>show .int
 |str=>show .str
 |tup h r=>show .tup h (Reps.apart I f r n)
 |lst h m r=>show .lst h (λz=>z.elim m λe=>by subst e;have:=Rep.inj I (Rep.lst h m r) f;injection this with this;show n.1 this) (Reps.apart I f r n.2)
 |dct h x m o r=>show n.elim
theorem Reps.apart(I:Inv X e k H s)(f:Rep X.K H O (.ref a) (.lst g)):∀{v:List V}{d:List D},Reps X.K H O v d->fK g d->Reps X.K H (λb=>O b\/b=a) v d:=by
 intro _ _ z n;cases z with
 |nil=>show .nil
 |cons h t=>show .cons (Rep.apart I f h n.1) (Reps.apart I f t n.2)
end
theorem Reps.split{K:km}:∀{ds es:List D}{vs:List V},Reps K H O vs (ds++es)->∃e ws,vs=e++ws/\Reps K H O e ds/\Reps K H O ws es
 |[],_,vs,r=>{[],vs,rfl,.nil,r}
 |d::ds,es,_,r=>by
  cases r with
  |cons h t=>let{e,ws,rfl,a,b}:=Reps.split t;show{_::e,ws,rfl,.cons h a,b}
def Rep.plain{K:km}(b:Rep K H O (.ref a) (.lst (.tup t::r))):∃vs,H a=some (.lst vs)/\¬O a/\Reps K H O vs (.tup t::r):=by
 cases b with
 |lst h n q=>
  rcases h with h|⟨h,z⟩
  .show{_,h,n,q}
  cases q with
  |cons d f=>let{i,e}:=z _ (aBA ..);subst e;cases d
def EnvOk.takeOut{ρ':Ev}(E:EnvOk X.K H9 O0 H O B ρ)(I:Inv X N af H s)(nl:∀b Y,H9 b≠some (.lst Y))(i:Nat)(C:B[i]?=some (some (.ref a)))(p:Rep X.K H O (.ref a) (.lst f))(hr:∃t r,f=.tup t::r)(hn:fK f f)(hl:ρ'.length=ρ.length)
  (Q:∀(j:Nat) (sl:Sl),i≠j->ρ'[j]?=some sl->sl=.no\/(ρ[j]?=some sl/\TV f sl)):∃vs,H a=some (.lst vs)/\Reps X.K H (λb=>O b\/b=a) vs f/\EnvOk X.K H9 O0 H (λb=>O b\/b=a) B (ρ'.set i (.o f)):=by
 let{t,r,er}:=hr;obtain⟨vs,u,T,h3⟩:∃vs,H a=some (.lst vs)/\¬O a/\Reps X.K H O vs f:=by subst er;show p.plain
 have h0:H9 a=none:=by
  cases e:H9 a with
  |none=>rfl
  |some o=>have:=E.same a o e;rw[u]at this;cases this;show kb e (nl a vs)
 have U:=Reps.apart I p h3 hn;have own:∀(j:Nat) (y:Sl) (b:bb),i≠j->(ρ'.set i<|.o f)[j]?=some y->HN y->B[j]?=some (some<|.ref b)->ρ[j]?=some y/\O b:=λj y b ne e o q=>by
  rw[l6 ne]at e;rcases Q j y ne e with z|⟨z,_⟩
  .subst z;show o.elim
  let{c,w,p1,p2,_}:=(E.slot j y z).at_ o;rw[q]at p1;cases p1;show{z,p2}
 show{vs,u,U,{by simpa[hl]using E.len,E.same,λb z=>.inl (E.sub b z),λb z=>?_,E.trk0,E.tab,λj sl e=>?_,λj k x y b l m J L g h=>?_}}
 .rcases z with z|z
  .show E.trk b z
  subst z;show{_,u,trivial}
 .by_cases ne:i=j
  .subst ne;let{e',_}:=v9 e;subst e';show{a,vs,C,.inr rfl,h0,u,U}
  rw[l6 ne]at e;rcases Q j sl ne e with z|⟨z,w⟩
  .subst z;trivial
  have q:=E.slot j sl z;cases sl with
  |no=>trivial
  |v d=>let{v,l,m}:=q;show{v,l,Rep.apart I p m w}
  |o Y=>let{b,ws,l,m,g,h,q5}:=q;show{b,ws,l,.inl m,g,h,Reps.apart I p q5 w}
  |_=>show w.elim
 by_cases A:i=j
 .by_cases n:i=k
  .show A.symm.trans n
  subst A;rw[C]at g;cases g;show kb (own k y a n m L h).2 T
 by_cases n:i=k
 .subst n;rw[C]at h;cases h;show kb (own j x a A l J g).2 T
 show E.inj j k x y b (own j x b A l J g).1 (own k y b n m L h).1 J L g h
def Tri(X:Cx)(H9:Hp)(O0:bb->Prop)(st:List df)(P Q:Ev->Prop):Prop:=
 rB X st λD g H=>∃O b,EnvOk X.K H9 O0 H O g b/\J7 X.K O/\P b/\∀a d e f,Q a->EnvOk X.K H9 O0 e f d a->J7 X.K f->D.nx d e
def TY(X:Cx)(H9:Hp)(O0:bb->Prop)(st:List df)(P:Ev->Prop)(d:D):Prop:=
 rB X st λD e H=>∃O b,EnvOk X.K H9 O0 H O e b/\J7 X.K O/\P b/\∀v a,Same H9 a->Rep X.K a O0 v d->D.rt v a
def IN(X:Cx)(H9:Hp)(O0:bb->Prop)(st:df)(P Q:Ev->Prop):Prop:=
 PS X st λD g H=>∃O b,EnvOk X.K H9 O0 H O g b/\J7 X.K O/\P b/\∀a d e f,Q a->EnvOk X.K H9 O0 e f d a->J7 X.K f->D.nx d e
def J3{st:df}(h:mV X st F)(a:∀ρ,P ρ->∃ρ',F ρ=.ok (.nx ρ')/\Q ρ'):IN X H9 O0 st P Q:=xN (h H9 O0)<|by rintro D m H ⟨O,ρ,E,f,p,q⟩;let{ρ',e,w}:=a ρ p;show{O,ρ,E,f,?_};rw[e];showλb d g k l _=>q ρ' b d g w k l
def TM{st:df}(h:mV X st F)(a:∀ρ,P ρ->F ρ=.ok (.rt d)):TY X H9 O0 [st] P d:=nG (nT<|h H9 O0)<|by rintro D b H ⟨O,ρ,E,f,p,q⟩;show{O,ρ,E,f,?_};rw[a ρ p];show q
def jW{st:df}{rest:List df}(b:IN X H9 O0 st P Q)(d:Tri X H9 O0 rest Q W):Tri X H9 O0 (st::rest) P W:=nG (iW b d)<|by rintro D l H ⟨O,e,E,f,p,q⟩;show{O,e,E,f,p,λa m n g w h k=>{g,a,h,k,w,q}}
def F9{st:df}{rest:List df}(b:IN X H9 O0 st P Q)(e:TY X H9 O0 rest Q d):TY X H9 O0 (st::rest) P d:=nG (iW b e)<|by rintro D m H ⟨O,g,E,f,p,q⟩;show{O,g,E,f,p,λa n o h w k l=>{h,a,k,l,w,q}}
def UA(Iv B:Nat->Ev->Prop)(hp:PassesOwn (be X.prog X.w) X.A X.env X.xe)(hc:X.calm=true)(C:PI X L iter (tIR X f))(hg:JD X L G)(hb:∀k,Tri X H9 O0 body (B k) (Iv (k+1)))
  (h0:∀ρ,P ρ->f ρ=.ok ds/\Iv 0 ρ) (hG:∀k ρ d,ds[k]?=some d->Iv k ρ->∃b,G d ρ=.ok b/\B k b) (hQ:∀ρ,Iv ds.length ρ->Q ρ) (hs:(∀x,eQ iter X.env x=pure x)<|>6):IN X H9 O0 (.For L iter body [] pos) P Q:=by
 have iu:rB X body λD t H=>∃k O ρ,EnvOk X.K H9 O0 H O t ρ/\J7 X.K O/\B k ρ/\∀a l h g,Iv (k+1) a->EnvOk X.K H9 O0 h g l a->J7 X.K g->D.nx l h:=λn s t H D I q=>by let{k,q}:=q;show hb k n s t H D I q
 show xN (RX hp hc C hg iu hs) ?_;rintro D t H ⟨O,ρ,E,N,p,q⟩;let{e1,i0}:=h0 ρ p;show{H9,O0,O,ρ,E,N,?_};rw[e1];intro J H1 s1 hJ;show{λi m l h=>m=ds.length-i/\i<=ds.length/\∃g a,EnvOk X.K H9 O0 h g l a/\J7 X.K g/\Iv i a,{ds.length,rfl,aAT _,O,ρ,E.grow s1,N,i0},?_};rintro i m l h ⟨rfl,C,g,a,T,U,Y⟩;have o:=hJ h g i;by_cases v:i<ds.length
 .let{go,yl}:=o.1 ds[i] (aAd v);show .inr {go,λue u=>∃O2 r,EnvOk X.K H9 O0 u O2 ue r/\J7 X.K O2/\Iv (i+1) r,λue u p=>{ds.length-(i+1),by omega,rfl,v,p},λx u y=>?_};let{s2,r2}:=yl x u y;let{b,e2,b1}:=hG i a _ (aAd v) Y;show{H9,O0,g,a,ds[i],b,T.grow s2,r2,e2,λqa H3 s3 E3=>{i,g,b,E3,U,b1,λz zt H4 O4 w E4 f4=>{O4,z,E4,f4,w}}}
 have e:i=ds.length:=by omega
 subst e;show .inl {o.2 (by simp),q a l h g (hQ a Y) T U}
def QL(i:Nat)(s:PD X e f)(t:X.N[i]?=some x<|>1)(u:xO X.env.scope x<|>5)(w:(x==lb)=false<|>2)(y:(x==lh)=false<|>2)(z:gc (.Name x p) "append" X.env (dC (.Name x p) X.env)=dC (.Name x p) X.env<|>1)(A:(((dq g (a5 [e] X.env)).all (λx=>!x.1)&&(backToKw g (keywordEach [] X.env)).all (λx=>x.1.isSome)
   &&decide ([e].length+([]:List Keyword).length+(if([]:List Keyword).isEmpty then 0 else 1)<30))=true)<|>1) (B:(b.endLine==g.line)=true<|>1) (n:a5 [e] X.env=(false,dC e X.env)::a5 [] X.env<|>1) (C:(dq g (a5 [] X.env)).any (·.1)=false<|>1) (I:fg (.Call (.Attribute (.Name x p) "append" b) [e] [] g) none l.line X.env=pure false<|>1):
  PS X (.Expr (.Call (.Attribute (.Name x p) "append" b) [e] [] g) l) λD h H=>∃H9 O0 O ρ a vs d,EnvOk X.K H9 O0 H O h ρ/\h[i]?=some (some (.ref a))/\H a=some (.lst vs)/\vs.length<sizeLine/\f ρ=.ok d/\∀v k,Same H k->Rep X.K k O v d->D.nx h (upd k a (.lst (vs++[v]))):=
 xN (jI (XY PySem.F.plainAttrs_list PySem.F.slot_list_append PySem.F.type_list_append lJ (N5 t u w y) (i7 s o9 n) z A B n C) I)<|by
 rintro D h H ⟨H9,O0,O,ρ,a,vs,d,E,J,o,L,Q,q⟩;show{_,J,.inl {rfl,vs,aF.of o},H9,O0,O,ρ,E,?_};change JQ X H O ((f ρ).bind λd=>(R.ok []).bind λT=>.ok (d::T)) _;rw[Q];intro Y k r m;cases m with
 |cons m U=>cases U;show{a,vs,_,rfl,rfl,r _ _ o,L,q _ _ r m}
structure Lend(iK iR iF:Nat)(f g:Ev->R D)(ρ:Ev)(ks rs fs1 fs2:List D)(pl d z:D):Prop where
 hk:ρ[iK]?=some (.o ks)
 hr:ρ[iR]?=some (.v (.lst rs))
 hf:ρ[iF]?=some (.v (.lst (fs1++.tup [pl,.lst rs]::fs2)))
 kr:iK≠iR
 kf:iK≠iF
 rf:iR≠iF
 no:∀sl∈(ρ.set iF .no).set iR .no,TV rs sl
 n1:fK rs fs1
 n2:fK rs fs2
 np:GC rs pl
 nr:fK rs rs
 ne:fs1++.tup [pl,.lst rs]::fs2≠rs
 tp:∃t r,rs=.tup t::r
 fe:f ((ρ.set iF .no).set iR (.o rs))=.ok d
 ge:g (((ρ.set iF .no).set iR (.o rs)).set iK (.o (ks++[d])))=.ok z
 lk:ks.length<sizeLine
 lr:rs.length<sizeLine
def a0r(h e f:Nat)(ρ:Ev)(k g a b:List D)(l d z:D)(m:List D):Ev:=((((ρ.set f .no).set e (.o g)).set h (.o (k++[d]))).set e (.v (.lst (g++[z])))).set f (.v (.lst (a++.tup [l,.lst m]::b)))
def NB{st st':df}{f g:Ev->R D}(C t u:Nat)(nl:∀b Y,H9 b≠some (.lst Y))
  (hA:PS X st λD l H=>∃H9 O0 O ρ a vs d,EnvOk X.K H9 O0 H O l ρ/\l[C]?=some (some (.ref a))/\H a=some (.lst vs)/\vs.length<sizeLine/\f ρ=.ok d/\∀v B,Same H B->Rep X.K B O v d->D.nx l (upd B a (.lst (vs++[v]))))
  (hB:PS X st' λD l H=>∃H9 O0 O ρ a vs d,EnvOk X.K H9 O0 H O l ρ/\l[t]?=some (some (.ref a))/\H a=some (.lst vs)/\vs.length<sizeLine/\g ρ=.ok d/\∀v B,Same H B->Rep X.K B O v d->D.nx l (upd B a (.lst (vs++[v]))))
  (hp:∀ρ,P ρ->∃J k x y pl d z,Lend C t u f g ρ J k x y pl d z/\∀m,m=k\/m=k++[z]->Q (a0r C t u ρ J k x y pl d z m)):Tri X H9 O0 [st,st'] P Q:=by
 rintro pins s l H D I ⟨O,ρ,E,fk,p,q⟩;let{J,k,x,y,pl,d,z,L,w}:=hp ρ p;let{vR,hR,N}:=E.val t _ L.hr;let{_,hF,rF}:=E.val u _ L.hf;let{b,ws,hK,k2,k3,k4,k5}:=E.own C J L.hk;obtain⟨a,rfl⟩:∃a,vR=V.ref a:=by cases N;show{_,rfl}
 let{vs,h1,yt,T}:=E.takeOut I nl t hR N L.tp L.nr (ρ':=ρ.set u .no) (by simp) λj sl ne e=>by
  by_cases ef:u=j
  .subst ef;show .inl (v9 e).1
  rw[l6 ef]at e;show .inr {e,L.no sl (aAi (i:=j) (by rw[l6 ne,l6 ef];show e))}
 have ab:b≠a:=λz=>by subst z;cases N with|lst h n r=>show n k2
 have A:J7 X.K λb=>O b\/b=a:=pL I _ T.trk;have sK:((ρ.set u .no).set t (.o k))[C]?=some (.o J):=by rw[l6 L.kr.symm,l6 L.kf.symm];show L.hk
 show iW hA (nT hB) pins s l H D I {H9,O0,_,_,b,ws,d,T,hK,k4,by rw[k5.length];show L.lk,L.fe,λv B s1 rv=>?_};let{b',ws',hK',_,_,k4',k5'}:=T.own C J sK;rw[hK]at hK';cases hK';rw[k4]at k4';cases k4';let{E2,kp2}:=(T.grow s1).write sK hK ((k5'.same s1).snoc rv);have kpA:=(Kp.of (O:=λb=>O b\/b=a) s1).trans kp2;have h2:upd B b (.lst (ws++[v])) a=some (.lst vs):=by rw[k7 ab.symm];show s1 _ _ h1
 show{H9,O0,_,_,a,vs,z,E2,hR,h2,by rw[yt.length];show L.lr,L.ge,λv2 H3 s3 rv2=>?_};have sR:(((ρ.set u .no).set t (.o k)).set C (.o (J++[d])))[t]?=some (.o k):=by rw[l6 L.kr,aBf (by rw[List.length_set];show(aAn.mp L.hr).1)]
 have qe:Reps X.K (upd B b<|.lst (ws++[v])) (λb=>O b\/b=a) vs k:=kpA.ab8 T.trk A yt;let{E4,kp4}:=(E2.grow s3).write sR hR ((qe.same s3).snoc rv2);have kp:=kpA.trans ((Kp.of (O:=λb=>O b\/b=a) s3).trans kp4);generalize hH4:upd H3 a (.lst (vs++[v2]))=H4 at*
 have sR4:(((((ρ.set u .no).set t (.o k)).set C (.o (J++[d])))).set t (.o (k++[z])))[t]?=some (.o (k++[z])):=aBf (by exists (aAn.mp L.hr).1);let{a',vs4,q1,_,_,q4,q5}:=E4.own t _ sR4;rw[hR]at q1;cases q1;have rA:Rep X.K H4 (λc=>(O c\/c=a)/\c≠a) (.ref a) (.lst (k++[z])):=.lst (eS.of q4) (λz=>z.2 rfl) (q5.sub λ_ z=>z.1);have E5:=E4.ad2 sR4 trivial hR (sl':=.v (.lst (k++[z]))) (λz=>z) {_,rfl,rA};have sub:∀{v d},Rep X.K H (λb=>O b\/b=a) v d->Rep X.K H4 (λc=>(O c\/c=a)/\c≠a) v d:=λr=>(kp.rep T.trk A r).sub λ_ z=>z.1;have U:∀{v d},Reps X.K H (λb=>O b\/b=a) v d->Reps X.K H4 (λc=>(O c\/c=a)/\c≠a) v d:=λr=>(kp.ab8 T.trk A r).sub λ_ z=>z.1;obtain⟨m,hr',rF'⟩:∃m,(m=k\/m=k++[z])/\∃vF,l[u]?=some (some vF)/\Rep X.K H4 (λc=>(O c\/c=a)/\c≠a) vF (.lst (x++.tup [pl,.lst m]::y)):=by
  cases rF with
  |@lst c us _ hc nc rr=>
   have nca:¬(O c\/c=a):=λz=>z.elim nc λe=>by subst e;have:=Rep.inj I (Rep.lst hc nc rr) N;injection this with this;show L.ne this
   let{hc4n,hc4}:=kp.lst nca hc λo q=>A c o q;let{u1,u2,rfl,r1,r2}:=rr.split;cases r2 with
   |cons rk r2=>
    have g1:=U (Reps.apart I N r1 L.n1);have g2:=U (Reps.apart I N r2 L.n2);cases rk with
    |tup ht rt=>
     have ht4:=kp.tup T.trk ht;cases rt with
     |cons rp rt=>
      cases rt with
      |cons rq rt=>
       cases rt;have gp:=sub (Rep.apart I N rp L.np);have fin:∀{m},Rep X.K H4 (λc=>(O c\/c=a)/\c≠a) _ (.lst m)->∃vF,l[u]?=some (some vF)/\Rep X.K H4 (λc=>(O c\/c=a)/\c≠a) vF (.lst (x++.tup [pl,.lst m]::y)):=λ{m} rz=>{_,hF,.lst hc4 (λz=>hc4n z.1) (g1.append<|.cons (.tup ht4 (.cons gp (.cons rz .nil))) g2)};cases rq with
       |@lst e us2 _ he ne re=>
        by_cases ea:e=a
        .subst ea;show{_,.inr rfl,fin rA}
        show{_,.inl rfl,fin (sub<|.lst he (λz=>z.elim ne ea) (Reps.apart I N re L.nr))}
 let{vF,hvF,rF''}:=rF';have E6:=E5.set u rF'';have eσ:l.set u (some vF)=l:=by let{hl,e}:=aAn.mp hvF;rw[<-e];show List.set_getElem_self hl
 rw[eσ]at E6;show q _ l H4 (λc=>(O c\/c=a)/\c≠a) (w m hr') ?_ λc o hk z=>A c o hk z.1;unfold a0r;rw[List.set_set]at E6;show E6
def UL{st:df}(i:Nat)(l:∀b Y,H9 b≠some (.lst Y))(h:IN X H9 O0 st m Q)(n:∀ρ,P ρ->∃d,ρ[i]?=some (.v (.lst d))/\(∃t r,d=.tup t::r)/\fK d d/\(∀sl∈ρ.set i .no,TV d sl)/\m (ρ.set i (.o d))):IN X H9 O0 st P Q:=by
 rintro f s u H D I ⟨O,ρ,E,B,p,q⟩;let{d,e,w,x,no,y}:=n ρ p;let{z,A,g}:=E.val i _ e;obtain⟨a,rfl⟩:∃a,z=V.ref a:=by cases g;show{_,rfl}
 let{C,J,L,k}:=E.takeOut I l i A g w x (ρ':=ρ) rfl λj sl ne e=>.inr {e,no sl (aAi (i:=j) (by rw[l6 ne];show e))};show h f s u H D I {_,_,k,pL I _ k.trk,y,q}
def fnT{x qual:Str}{st:df}{f:bb}{g:eO}{N:List Str}{k:Nat}{P:bo}{w:cq}{K:km}{mg:fD}{base:cy}(h:Fun K x qual st f g)(S:FnScope N ["script"] (b9 st))
  (l:∀(L:av) (A:cp) (d:List Env) (s:a9) (H:Hp) (E:XK),Room k (A.deeper (envOfC qual (b9 st) s.heap.objs.size f L))->(∀b Y,H b≠some (.lst Y))->∀ns:List Int,ns.length<=63->(∀x∈ns,aBe x<=1048576)->TY (SE P w K mg base N qual (b9 st) f L A d s H E) H (λ_=>False) (q9 st) (λρ=>ρ=j3 N [.lst (ns.map D.int)]) (.bl true)):FnOk P w K mg base xP (k+1) f g ["script"] (pG K):=by
 show h.ok S (by rintro m H Q E ⟨a,ns,rfl,_⟩;rfl) (λL A d s H m Q E n o=>?_);let{a,ns,rfl,p,t,e,u,y,q}:=o;show{_,l L A d s H E n y ns t e,λ_=>False,_,kK (.cons (.lst (.inr {p,λv B=>by let{i,_,rfl}:=aAo.mp B;show{i,rfl}}) (λz=>z) (Reps.ints ns)) .nil) (λ_ z=>z.elim) u,λ_ _ _ z=>z,rfl,λv C _ r=>by cases r;show q C}
end
end DL
namespace DL
open PySem PySem.Spec L2
open PyProof.Rows hiding St
variable [Tabs]
section
abbrev IT(X:Cx)(e:cv)(es:List cv):Prop:=a5 (e::es) X.env=(false,dC e X.env)::a5 es X.env
def gT{i:Int}{j}:PB X (.Constant (.int i) j a) (SH (.int i)):=u4.pb
def IR{e1:cv}{b:Ev->R D}(c:v5 X.prog X.w X.K X.mg X.base k x 1 m)(e:Room f X.A)(a1:PD X e1 b)(g:k<=f<|>2)(d:IT X e1 []<|>1)(h:Gl X x<|>1)(l:(x==lb)=false<|>2)(n:(dq a (a5 [] X.env)).any (·.1)=false<|>1):
 PD X (.Call (.Name x p) [e1] [] a) (λρ=>((p5 b N8) ρ).bind m):=vS c (e.mono g) (i7 a1 o9 d) (A0 aM) h l d n
def R8{e1 e2:cv}{b d:Ev->R D}(c:v5 X.prog X.w X.K X.mg X.base k x 2 m)(f:Room g X.A)(a1:PD X e1 b)(a2:PD X e2 d)(h:k<=g<|>2)(e:IT X e1 [e2]<|>1)(l:IT X e2 []<|>1)(n:Gl X x<|>1)(o:(x==lb)=false<|>2)(q:(dq a (a5 [e2] X.env)).any (·.1)=false<|>1):
 PD X (.Call (.Name x p) [e1,e2] [] a) (λρ=>((p5 b (p5 d N8)) ρ).bind m):=vS c (f.mono h) (i7 a1 (i7 a2 o9 l) e) (A0<|A0 aM) n o e q
def pc3{e1 e2 a:cv}{d e f:Ev->R D}(c:v5 X.prog X.w X.K X.mg X.base k x 3 m)(h:Room l X.A)(a1:PD X e1 d)(a2:PD X e2 e)(a3:PD X a f)(n:k<=l<|>2)(g:IT X e1 [e2,a]<|>1)(o:IT X e2 [a]<|>1)(q:IT X a []<|>1)(r:Gl X x<|>1)(s:(x==lb)=false<|>2)(t:(dq b (a5 [e2,a] X.env)).any (·.1)=false<|>1):
 PD X (.Call (.Name x p) [e1,e2,a] [] b) (λρ=>((p5 d (p5 e (p5 f N8))) ρ).bind m):=vS c (h.mono n) (i7 a1 (i7 a2 (i7 a3 o9 q) o) g) (A0<|A0<|A0 aM) r s g t
def pc4{e1 e2 b a:cv}{e f g h:Ev->R D}(c:v5 X.prog X.w X.K X.mg X.base k x 4 m)(n:Room o X.A)(a1:PD X e1 e)(a2:PD X e2 f)(a3:PD X b g)(q:PD X a h)(r:k<=o<|>2)(l:IT X e1 [e2,b,a]<|>1)(s:IT X e2 [b,a]<|>1)(t:IT X b [a]<|>1)(u:IT X a []<|>1)(v:Gl X x<|>1)(y:(x==lb)=false<|>2)(z:(dq d (a5 [e2,b,a] X.env)).any (·.1)=false<|>1):
 PD X (.Call (.Name x p) [e1,e2,b,a] [] d) (λρ=>((p5 e (p5 f (p5 g (p5 h N8)))) ρ).bind m):=vS c (n.mono r) (i7 a1 (i7 a2 (i7 a3 (i7 q o9 u) t) s) l) (A0<|A0<|A0<|A0 aM) v y l z
def SN{e1 e2:cv}{a b:Ev->R D}{j}(a1:PD X e1 a)(a2:PD X e2 b)(d:IT X e1 [e2]<|>1)(e:IT X e2 []<|>1):PD X (.Tuple [e1,e2] j f) (λρ=>((p5 a (p5 b N8)) ρ).bind cI):=wM (i7 a1 (i7 a2 o9 e) d)
def AT{id:String}{g:List D->R D}{e:cv}{f:Ev->R D}(h:cQ X (.builtin id) g)(a:PB X e f)(k:Gl X x<|>1)(l:X.mg x=none<|>4)(m:dm x=some (.builtin id)<|>3)(n:x≠ "__name__"<|>2)(o:(x==lb)=false<|>2)(d:IT X e []<|>1)(q:(dq b (a5 [] X.env)).any (·.1)=false<|>1):
 PD X (.Call (.Name x p) [e] [] b) (λρ=>(p5 f N8 ρ).bind g):=V8 h (o6 a w8 d) k l m n o d q
def RH{k:List Str}{a:i3}{n:Pos}{e:cv}{fe:Ev->R D}(h:∀b f l m C,PD (FR X b l m ([x]++k) a (cU X a C) C f) e fe)(o:([x]++k).Nodup<|>3)(p:Loc (relabel a X.env) x<|>8)(q:(a.names.lookup x==some .cell)=true\/(relabel a X.env).names.lookup x=some .local:=by first|show .inl rfl|show .inr rfl):
  ∀(b:N7) (f:List bb) (g:Cx),(∃r s C,g=FR X b r s ([x]++k) a (cU X a C) C f)->JD g (.Name x n) (λd ρ=>.ok (ρ.set 0 (.v d)))/\SR g [] (λ_=>.ok true)/\PD g e fe:=by
 rintro b f t ⟨l,m,C,rfl⟩;show{l7 0 o rfl p q,WK,h b f l m C}
def gz{l:List Str}{a:i3}{n:Pos}{f c:cv}{fe:Ev->R D}{ft:Ev->R Bool}(h:∀b e g k C,FH (FR X b g k ([x]++l) a (cU X a C) C e) c ft/\PD (FR X b g k ([x]++l) a (cU X a C) C e) f fe)(o:([x]++l).Nodup<|>3)(p:Loc (relabel a X.env) x<|>8)(q:(a.names.lookup x==some .cell)=true\/(relabel a X.env).names.lookup x=some .local:=by first|show .inl rfl|show .inr rfl):
  ∀(b:N7) (e:List bb) (m:Cx),(∃r s C,m=FR X b r s ([x]++l) a (cU X a C) C e)->JD m (.Name x n) (λd ρ=>.ok (ρ.set 0 (.v d)))/\SR m [c] ft/\PD m f fe:=by
 rintro b e t ⟨g,k,C,rfl⟩;show{l7 0 o rfl p q,UQ (h b e g k C).1,(h b e g k C).2}
end
def fy(sc:i3)(x:Str):Bool:=match sc.names.lookup x with
 |some .local=>true
 |some .cell=>true
 |some .free=>true
 |_=>false
def FI{sc:i3}{x:Str}(h:fy sc x=true):xO sc x:=by unfold fy at h;unfold xO;split at h<;>nofun
def opB:Operator->Option (D->D->R D)
 |.Add=>some iS
 |.Sub=>some JF
 |.Mult=>some R9
 |.FloorDiv=>some M4
 |.Mod=>some U1
 |.Pow=>some DF
 |_=>none
def jx{X:Cx}{op:Operator}{g:D->D->R D}(h:opB op=some g):kQ X (eu op) g:=by cases op<;>cases h<;>first|show dW|show oq|show ZB|show HA|show DQ|show gw
def CF:cv->Bool
 |.Starred ..=>false
 |_=>true
def EO{e:cv}{es:List cv}{env:Env}(h:CF e=true):a5 (e::es) env=(false,dC e env)::a5 es env:=by cases e<;>first|rfl|cases h
def ixB:cv->Bool
 |.Name ..=>true
 |.Constant ..=>true
 |.BinOp ..=>true
 |_=>false
def wq(r:cv->Option (Ev->R D)):List cv->Option (Ev->R (List D))
 |[]=>some N8
 |e::a=>bif CF e then(r e).bind λf=>(wq r a).bind λg=>some (p5 f g)else none
def evq(b:Bool)(i:Nat):Option (Ev->R D):=bif b then[cM 0,cM 1,cM 2,cM 3,cM 4,cM 5,cM 6,cM 7,cM 8,cM 9,cM 10,cM 11,cM 12,cM 13][i]? else[G9 0,G9 1,G9 2,G9 3,G9 4,G9 5,G9 6,G9 7,G9 8,G9 9,G9 10,G9 11,G9 12,G9 13][i]?
def RB{f:Ev->R D}{g:Nat->Ev->R D}{i:Nat}(h:((aBm 14).map g)[i]?=some f):f=g i:=by let{a,b,rfl}:=aCE.mp (aAu.symm.trans h);let{q,rfl}:=aAn.mp b;rw[List.getElem_range]
def YN{b:Bool}{i:Nat}{f:Ev->R D}(h:evq b i=some f):f=bif b then cM i else G9 i:=by
 cases b with
 |true=>show RB h
 |false=>show RB h
def rd(N:List Str)(sc:i3):Nat->Bool->cv->Option (Ev->R D)
 |n+1,b,.Name x _=>bif decide (N[N.findIdx (· ==x)]?=some x)&&(fy sc x&&(!(x==lb)&&!(x==lh)))then evq b (N.findIdx (· ==x))else none
 |n+1,_,.Constant (.int i) _ _=>some (SH (.int i))
 |n+1,_,.BinOp a e c _=>(opB e).bind λg=>(rd N sc n true a).bind λh=>(rd N sc n true c).bind λk=>some λd=>(h d).bind λx=>(k d).bind λy=>g x y
 |n+1,_,.Subscript a c _=>bif ixB c then(rd N sc n true a).bind λf=>(rd N sc n false c).bind λg=>some λd=>(f d).bind λx=>(g d).bind λy=>Q1 x y else none
 |n+1,_,.Tuple l _ _=>(wq (rd N sc n false) l).bind λf=>some λd=>(f d).bind cI
 |_,_,_=>none
theorem PZ{X:Cx}{r:cv->Option (Ev->R D)}(a:∀e f,r e=some f->PD X e f):∀{es:List cv}{f:Ev->R (List D)},wq r es=some f->KJ X es f:=by
 intro b f h;cases b with
 |nil=>cases h;show o9
 |cons e es=>
  unfold wq at h;cases q:CF e with
  |false=>rw[q]at h;cases h
  |true=>rw[q]at h;let{k,d,h}:=aBp.mp h;let{l,g,h}:=aBp.mp h;cases h;show i7 (a _ _ d) (PZ a g) (EO q)
def XZ{X:Cx}(n:Nat):∀(b:Bool) (e:cv) (f:Ev->R D),rd X.N X.env.scope n b e=some f->(b=false->PD X e f)/\PB X e f:=by
 induction n with
 |zero=>intro b e f h;cases e<;>cases(show(none:Option (Ev->R D))=some f from h)
 |succ n l=>
  intro b e f h;have d:∀{f:Ev->R D},PD X e f->(b=false->PD X e f)/\PB X e f:=λh=>{λ_=>h,h.pb};cases e with
  |Name x p=>
   erw[rd,Bool.cond_eq_ite]at h;split at h
   .rename_i q;erw[aAH,decide_eq_true_eq,Bool.not_eq_true']at q;let{w,A,B,C}:=q;rw[YN h];cases b with
    |false=>show d (c5 _ w (FI A) B C)
    |true=>show{λz=>(by cases z),d8 _ w (FI A) B C}
   cases h
  |Constant v j p=>
   cases v with
   |int i=>cases(aAq h:SH (.int i)=f);show d u4
   |_=>cases(show(none:Option (Ev->R D))=some f from h)
  |BinOp a E c p=>let{g,r,h}:=aBp.mp (show((opB E).bind λg=>(rd X.N X.env.scope n true a).bind λm=>(rd X.N X.env.scope n true c).bind λs=>some λo=>(m o).bind λx=>(s o).bind λy=>g x y)=some f from h);let{m,t,h}:=aBp.mp h;let{s,u,h}:=aBp.mp h;cases h;show d (W6 (jx r) (l _ _ _ t).2 (l _ _ _ u).2)
  |Subscript a c p=>
   cases q:ixB c with
   |false=>rw[rd,q]at h;cases h
   |true=>rw[rd,q]at h;let{m,t,h}:=aBp.mp h;let{s,u,h}:=aBp.mp h;cases h;show d (yY (l _ _ _ t).2 ((l _ _ _ u).1 rfl) (by cases c<;>first|showλ_ _=>rfl|cases q))
  |Tuple H k p=>let{m,r,h}:=aBp.mp (show((wq (rd X.N X.env.scope n false) H).bind λf=>some λo=>(f o).bind cI)=some f from h);cases h;show d (wM<|PZ (λe f I=>(l _ _ _ I).1 rfl) r)
  |_=>cases(show(none:Option (Ev->R D))=some f from h)
def F4{X:Cx}{e:cv}{f:Ev->R D}(h:rd X.N X.env.scope 12 false e=some f):PD X e f:=(XZ 12 false e f h).1 rfl
def LG{X:Cx}{e:cv}{f:Ev->R D}(h:rd X.N X.env.scope 12 true e=some f):PB X e f:=(XZ 12 true e f h).2
end DL
namespace DL
open PySem PySem.Spec PySem.Calls PySem.W Builtin Builtin.ObjectAttr Builtin.Getset_descriptor
open PyProof.Rows hiding St
section
variable{prog:bo}{w:cq}{A:cp}{E:B4}{K:Frag}{h:cy}{g:Array GenState}{d:Drawn}{t:Nat}{os:OsState}{a C:bb}{o:Obj}
end
end DL
namespace DL
open PySem PySem.Spec L2
open PyProof.Rows hiding St
variable [Tabs]
section
variable{X:Cx}{pos:Pos}
end
section
variable{X:Cx}{pins:N7}{σ:St}{H H':Hp}{s s':a9}
end
section
variable{K:km}{H9 H:Hp}{O0 O:bb->Prop}{σ:St}{ρ:Ev}
end
section
variable{X:Cx}{pos hpos np:Pos}
end
section
variable{X:Cx}{pos:Pos}
end
section
variable{X:Cx}{pos:Pos}
end
section
end
section
end
end DL
namespace DL
open PySem L2
variable [Tabs]
end DL
namespace M
open PySem L2 DL
variable [Tabs]
def nD(h:A5 d<=40):IK d d=.ok (.bl false):=by unfold IK;rw[jk {h,h},L9];rfl
def HD(J:List G.V):A5 (.lst (J.map vd))<=40:=by
 rw[A5];have:∀J:List G.V,w9 (J.map vd)<=1:=λJ=>by
  induction J with
  |nil=>simp[w9]
  |cons P J a=>rw[aAz,w9];show Nat.max_le.mpr {by simp[A5,w9],a}
 have:=this J
 lia
def xC{J:Ev->Prop}(a:r=.ok (.nx ρ))(b:∃ρ2,F ρ=.ok (.nx ρ2)/\J ρ2):∃ρ2,B0 r F=.ok (.nx ρ2)/\J ρ2:=by rw[a];show b
def AK(k:Int):Int:=6*k*k+5*k+8
def bV:List D->R D
 |[.lst Y,.int k]=>if 0<=k/\k<=1000 then .ok (uG AK Y k)else .bad
 |_=>.bad
def cJ(Y:List D)(k:Int):Int:=match uG AK Y k with
 |.int i=>i
 |_=>0
def OB(d:M2 1048576 Y)(k:Int)(h0:0<=k)(b:k<=100):bV [.lst Y,.int k]=.ok (.int (cJ Y k))/\bits (cJ Y k)<=2000000:=by
 let{c,e,a}:=KO d AK k;have f:cJ Y k=c:=by unfold cJ;rw[e]
 rw[f];show{(jk {h0,by lia}).trans (ka R.ok e),?_};rcases a with a|rfl
 .show n6 a
 unfold AK;have g:0<=k*k:=aBN h0 h0;have h:k*k<=100*100:=Int.mul_le_mul b b h0 (by symm);rw[aFe];show l8 (K3 (n:=30) (by lia) (by lia)) (by symm)
def dw(c w:Int):G.V:={c.fmod w-w.fdiv 2,(c.fdiv w).fmod w-w.fdiv 2,(c.fdiv<|w*w).fmod w-w.fdiv 2}
def tmA(c:Int)(at_ j:Nat):Int:=(c.fdiv<|5+7*(at_:Int)+(j:Int)).fmod 5-2
def lz(P:G.V)(t:Int)(w:G.V):G.V:={P.x+t*w.x,P.y+t*w.y,P.z+t*w.z}
def ptA(c:Int)(b:G.V)(ws:List G.V)(at_:Nat):G.V:=match ws with
 |[]=>b
 |[u]=>lz b (tmA c at_ 0) u
 |u::v::_=>lz (lz b (tmA c at_ 0) u) (tmA c at_ 1) v
def a0x(c:Int)(b:G.V)(ws:List G.V)(n:Nat):List G.V:=(aBm n).map (ptA c b ws)
structure Drawn(J:List G.V):Prop where
 ne:J≠[]
 len:J.length<=40
 sz:∀P∈J,Sz 100 P
 flat:¬G.i9 J
open Classical in
def qx(p:Prop) (d:D):R D:=if p then .ok d else .bad
def BS{p:Prop}{d r:D}(h:qx p d=.ok r):p/\d=r:=by unfold qx at h;grind
def nC{p:Prop}{d:D}(h:p):qx p d=.ok d:=jk h
def lvD(k:List G.V->List D->R D):List D->R D:=LH λY e=>match E8 Y with
 |some l=>k l e
 |none=>.bad
def bx{k:List G.V->List D->R D}{ds:List D}{r:D}(h:lvD k ds=.ok r):∃l e,ds=.lst (l.map vd)::e/\k l e=.ok r:=by
 replace h:=qI h;let{Y,e,rfl,h}:=h;cases q:E8 Y with
 |none=>nofun
 |some l=>rw[q]at h;show{l,e,by rw[t6 q],h}
def VL(k:List G.V->List D->R D)(l:List G.V)(e:List D):lvD k (.lst (l.map vd)::e)=k l e:=by change(match E8 (l.map vd)with|some l=>k l e|none=>.bad)=_;rw[v8]
def l3(k:Int->Int->Int->List D->R D):List D->R D:=LH λY e=>xI (λa=>xI λb=>xI λc=>nP (k a b c e)) Y
def XM(t:Int):Int:=(t*40009+6007).fmod 2147483647
def nJ(s k:Int):Int:=(s*s+5003*k+11).fmod 2147483647
def co4(s:Int):Int:=s.fmod 2000000011-1000000000
def WZ(t:Int):G.V:={co4 (nJ (XM t) 0),co4 (nJ (nJ (XM t) 0) 1),co4 (nJ (nJ (nJ (XM t) 0) 1) 2)}
def cF(way:Int):Int:=if way=0 then 3 else if way=1 then 5 else if way=2 then 9 else 2000000001
def XI(t way:Int):G.V:=if way=4 then WZ t else dw t (cF way)
def jw(t way:Int):Sz 40 (XI t way):=by
 unfold XI;split
 .have a:∀s,bits (co4 s)<=40:=λs=>bits_sub (bits_fmod (by symm) (show bits 2000000011<=39 by symm)) (show bits 1000000000<=39 by symm);show{a _,a _,a _}
 have w:cF way≠0/\bits (cF way)<=39:=by
  unfold cF
  repeat' split
  all_goals decide
 have d:∀c:Int,bits (c.fmod (cF way)-(cF way).fdiv 2)<=40:=λc=>bits_sub (bits_fmod w.1 w.2) (bits_fdiv w.2);show{d _,d _,d _}
open Classical in
def aW:List D->R D
 |[.int t,.int a]=>if bits t<=3000000/\0<=a/\a<=4 then .ok (vd (XI t a))else .bad
 |_=>.bad
def IU{t way:Int}(h:bits t<=3000000)(h0:0<=way)(a:way<=4):aW [.int t,.int way]=.ok (vd (XI t way)):=jk {h,h0,a}
def NJ(l:List Int):List D:=l.map D.int
def fW:List D->Option (List Int)
 |[]=>some []
 |.int i::r=>match fW r with
  |some l=>some (i::l)
  |none=>none
 |_=>none
@[simp]theorem uV:∀l:List Int,fW (NJ l)=some l
 |[]=>rfl
 |i::l=>by have:=uV l;unfold NJ at this;simp[NJ,fW,this]
theorem qD:∀{ds:List D}{l:List Int},fW ds=some l->ds=NJ l
 |[],l,h=>by simp[fW]at h;subst h;rfl
 |.int i::r,l,h=>by
  erw[fW]at h;split at h
  .rename_i a e;injection h with h;subst h;rw[qD e];rfl
  cases h
 |.tup _::_,_,h=>by simp[fW]at h
 |.lst _::_,_,h=>by simp[fW]at h
 |.bl _::_,_,h=>by simp[fW]at h
def xX(l:List Int):G.Sl:={l.getD 0 0,l.getD 1 0,l.getD 2 0,{l.getD 3 0,l.getD 4 0,l.getD 5 0},decide (l.getD 6 0=1)}
def bK(l:List Int):Prop:=l.length=7/\∀i∈l,bits i<=100
open Classical in
def K1:List D->R D
 |[p,.lst Y]=>match wL p,fW Y with
  |some P,some l=>if bK l/\Sz 500 P then .ok (vd ((xX l).put P))else .bad
  |_,_=>.bad
 |_=>.bad
def yH{l:List Int}{P:G.V}(h:bK l)(a:Sz 500 P):K1 [vd P,.lst (NJ l)]=.ok (vd ((xX l).put P)):=by erw[K1,wC,uV];show jk {h,a}
def AH(c:Int):Int:=(c.fdiv 1029*271828182845904523536).fmod 200000000000000000001-100000000000000000000
def s7(c k:Int):Int:=(c.fdiv k).fmod 7-3
def YJ(c:Int):List Int:=(if c.fmod 3=2 then[s7 c 3*7654321,s7 c 21*7654321,s7 c 147*7654321]else[s7 c 3,s7 c 21,s7 c 147])++[AH c,0-(AH c).fdiv 7,(c.fdiv 1029).fmod 50,(c.fdiv 9).fmod 2]
def MW(c:Int):bK (YJ c):=by
 have s:∀k,bits (s7 c k)<=4:=λk=>bits_sub (bits_fmod (by symm) (show bits 7<=3 by symm)) (show bits 3<=3 by symm);have m:∀k,bits (s7 c k*7654321)<=100:=λk=>l8 (bits_mul (s k) (show bits 7654321<=30 by symm)) (by symm);have a:∀k,bits (s7 c k)<=100:=λk=>l8 (s k) (by symm);have f:bits (AH c)<=99:=bits_sub (n:=98) (bits_fmod (by symm) (by symm)) (by symm);have r:∀x∈[AH c,0-(AH c).fdiv 7,(c.fdiv 1029).fmod 50,(c.fdiv 9).fmod 2],bits x<=100:=by erw[aAs];show{l8 f (by symm),bits_sub (show bits 0<=99 by symm) (bits_fdiv f),bits_fmod (by symm) (by symm),bits_fmod (by symm) (by symm),λ_ h=>by cases h}
 unfold YJ;split
 .show{rfl,aAs.mpr {m _,aAs.mpr {m _,aAs.mpr {m _,r}}}}
 show{rfl,aAs.mpr {a _,aAs.mpr {a _,aAs.mpr {a _,r}}}}
open Classical in
def U5:List D->R D
 |[.int c]=>if bits c<=3000000 then .ok (.lst (NJ (YJ c)))else .bad
 |_=>.bad
def DH{c:Int}(h:bits c<=3000000):U5 [.int c]=.ok (.lst (NJ (YJ c))):=jk h
def HC{J:List G.V}{n:G.V}{d:Int}(h:U4 900 J)(a:G.IsFace (d4 J) n d):Sz 2003 n:=by let{A,b,B,f,C,g,_,e}:=G.lL a;have z:∀X∈d4 J,Sz 1000 X:=λX k=>(h.1 X (o5.mp k)).mono;have:=qX (z A b) (z B f) (z C g);rw[e]at this;show this
def lG{J:List G.V}(g:U4 900 J)(h:G.i9 J)(b:(d4 J).length<=14):(∀f,f∈l9 (d4 J)↔G.IsFace (d4 J) f.1 f.2)/\l9 (d4 J)≠[]/\(l9 (d4 J)).length<=2744:=by let{m,r,e,L}:=X9 g h (by lia);have d:=b;rw[e]at d;have a:=B5 L d;rw[<-e]at a L;have k:=aEe b (aEe b b);show{a.1,λz=>?_,aAk (G.KG (F6<|O5 a.2) λf l=>(a.1 f).mp l) k};have:=(a.1 (_,_)).mpr (G.gP L.good.solid L.good.ord L.good.mem L.good.least);grind
def intD:D->Int
 |.int i=>i
 |_=>0
def sM:Nat->List D->List D
 |_,[]=>[]
 |k,d::a=>.tup [.int (k:Int),d]::sM (k+1) a
theorem sF:∀(Y:List D) (k i:Nat),(sM k Y)[i]?=Y[i]?.map λd=>D.tup [.int ((k+i:Nat):Int),d]
 |[],_,_=>rfl
 |d::a,k,0=>rfl
 |d::a,k,i+1=>by rw[sM,aCq,aCq,sF a (k+1) i,Nat.add_right_comm];rfl
def UE(Y:List D):FK Y=sM 0 Y:=aDt λi=>by rw[lU,sF,aDI]
def xY(m:Nat):Nat->List D->List Int->List Int
 |_,[],a=>a
 |k,d::b,a=>xY m (k+1) b (a.set (k%m) (a.getD (k%m) 0+intD d))
def yG(m:Nat):List Int:=(aBm m).map λ(k:Nat)=>5*(k:Int)*k+3*k
def w6(Y:List D)(most:Int):Nat:=(4+(cJ Y 0).fmod (most-3)).toNat
def AD(Y:List D)(most:Int):List Int:=xY (w6 Y most) 0 ((Y.take 63).drop 2) (yG<|w6 Y most)
def gA(Y:List D)(most:Int):List G.V:=(AD Y most).map λt=>XI t ((cJ Y 1).fmod 5)
theorem HP(m:Nat)(e:0<m):∀(ds:List D) (k:Nat) (ts:List Int),M2 1048576 ds->ts.length=m->(∀t∈ts,bits t<=1100000+k)->(xY m k ds ts).length=m/\∀t∈xY m k ds ts,bits t<=1100000+k+ds.length
 |[],k,ts,_,h,b=>{h,b}
 |d::ds,k,ts,f,h,b=>by
  have:=HP m e ds (k+1) (ts.set (k%m)<|ts.getD (k%m) 0+intD d) (λx l=>f x (.tail _ l)) (by exists h) (λt a=>by
   rcases List.mem_or_eq_of_mem_set a with a|rfl
   .show l8 (b t a) (by lia)
   have g:k%m<ts.length:=by rw[h];show aDJ _ e
   have n:bits (ts.getD (k%m) 0)<=1100000+k:=by rw[aAr,aAd g];show b _ (aBC g)
   let{i,rfl,o}:=f d (.head _);show bits_add n (l8 o (by lia)))
  show{this.1,λt a=>l8 (this.2 t a) ?_};erw[aAt];lia
def gR(Y:List D){most:Int}(h0:4<=most):4<=w6 Y most/\(w6 Y most:Int)<=most/\(w6 Y most:Int)=4+(cJ Y 0).fmod (most-3):=by have:=qU (a:=cJ Y 0) (b:=most-3) (by lia);unfold w6;lia
def EZ(m:Nat)(h:m<=20):(yG m).length=m/\∀t∈yG m,bits t<=1100000:=by
 unfold yG;show{by simp,λt a=>?_};let{k,b,rfl}:=aAo.mp a;have d:k<m:=by exists b
 have e:(k:Int)*k<=20*20:=Int.mul_le_mul (by lia) (by lia) (by lia) (by symm);have f:0<=(k:Int)*k:=aBN (by lia) (by lia);rw[aFe];show l8 (K3 (n:=30) (by lia) (by lia)) (by symm)
def RQ{Y:List D}{most:Int}(b:M2 1048576 Y)(h0:4<=most)(f:most<=20):(AD Y most).length=w6 Y most/\∀t∈AD Y most,bits t<=1100061:=by
 have g:=gR Y h0;have a:=EZ (w6 Y most) (by lia);have:=HP (w6 Y most) (by lia) ((Y.take 63).drop 2) 0 (yG<|w6 Y most) (λx d=>b x (aEq<|aDz d)) a.1 a.2;show{this.1,λt e=>l8 (this.2 t e) ?_};have:((Y.take 63).drop 2).length<=61:=by simp;lia
 lia
open Classical in
def fG:List D->R D
 |[.lst Y,.int a]=>if M2 1048576 Y/\Y.length<=63/\4<=a/\a<=20 then .ok (.lst ((gA Y a).map vd))else .bad
 |_=>.bad
def CT{Y:List D}{most:Int}(a:M2 1048576 Y)(b:Y.length<=63)(h0:4<=most)(d:most<=20):fG [.lst Y,.int most]=.ok (.lst ((gA Y most).map vd)):=jk {a,b,h0,d}
def OY{Y:List D}{most:Int}(b:M2 1048576 Y)(h0:4<=most)(d:most<=20):(∀p∈gA Y most,Sz 40 p)/\4<=(gA Y most).length/\((gA Y most).length:Int)<=most:=by have t:=RQ b h0 d;have m:=gR Y h0;unfold gA;show{λp e=>?_,by rw[aAh,t.1];lia,by rw[aAh,t.1];lia};let{a,_,rfl}:=aAo.mp e;show jw ..
def ZQ(Y:List D):NS (.lst Y) (some 2) (some 63)=.ok (.lst ((Y.take 63).drop 2)):=by
 change R.ok (D.lst<|cutD Y (some 2)<|some 63)=_;rw[List.drop_take];change R.ok (D.lst<|List.take (min 63 Y.length-min 2 Y.length)<|List.drop (min 2 Y.length) Y)=_;by_cases h:Y.length<=2
 .rw[aFq (by lia),aFq (by lia)];simp
 rw[aFx (by lia:2<=Y.length)];by_cases a:Y.length<=63
 .rw[aEb (by simp;lia),aEb (by simp;lia)]
 rw[aFx (by lia)]
open Classical in
def fM(J:List G.V):List G.V:=if G.i9 J then J else match J with
 |[]=>[]
 |P::r=>(P::r)++[{P.x+1,P.y,P.z},{P.x,P.y+1,P.z},{P.x,P.y,P.z+1}]
open Classical in
def jF:List D->R D
 |[.lst a]=>match E8 a with
  |some J=>if J≠[]/\(∀p∈J,Sz 300 p)/\J.length<=1000 then .ok (.lst ((fM J).map vd))else .bad
  |_=>.bad
 |_=>.bad
def RU{d β:Type}{G:D->Ev->R Ev}{fe:Ev->R D}{ρ:Ev}(rep:d->D)(e:β->D)(g:d->β)(l:List d)(h:∀a∈l,∃b,G (rep a) ρ=.ok b/\fe b=.ok (e (g a))):u6 G (λ_=>.ok true) fe ρ (l.map rep)=.ok ((l.map g).map e):=by rw[aBx];show K5 rep _ l h
def sG{d:Type}{G:D->Ev->R Ev}{ft:Ev->R Bool}{fe:Ev->R D}{ρ:Ev}(rep:d->D)(l:List d)(h:∀a∈l,∃b,G (rep a) ρ=.ok b/\ft b=.ok false):u6 G ft fe ρ (l.map rep)=.ok []:=by rw[L4 rep (λ_=>false) (λ_=>.non) l λa e=>by let{b,f,g}:=h a e;show{b,f,g,λz=>by cases z}];simp
theorem nZ{m:Type}{G:D->Ev->R Ev}{F:Ev->R Out}{x:D}{Iv:Ev->Prop}(rep:m->D)(p:m->Prop)(k:Ev->Prop)(t:∀ρ,k ρ->Iv ρ):∀(l:List m) (ρ:Ev),k ρ->(∀a∈l,∀ρ,k ρ->(p a/\L7 G F (rep a) ρ=.ok (.rt x))\/(¬p a/\∃ρ2,L7 G F (rep a) ρ=.ok (.nx ρ2)/\k ρ2))->((∃a∈l,p a)/\M0 G F (l.map rep) ρ=.ok (.rt x))\/(¬(∃a∈l,p a)/\∃ρ2,M0 G F (l.map rep) ρ=.ok (.nx ρ2)/\Iv ρ2)
 |[],ρ,h,_=>.inr {by rintro⟨a,q,_⟩;show(by cases q),ρ,rfl,t ρ h}
 |a::l,ρ,h,u=>by
  have v:∀{o},L7 G F (rep a) ρ=.ok o->∃d,G (rep a) ρ=.ok d/\F d=.ok o:=λ{o} e=>by
   unfold L7 at e;cases f:G (rep a) ρ with
   |ok d=>rw[f]at e;show{d,rfl,e}
   |ex z=>rw[f]at e;cases e
   |bad=>rw[f]at e;cases e
  rcases u a (.head _) ρ h with⟨n,e⟩|⟨n,ρ2,e,y⟩
  .let{d,f,r}:=v e;show .inl {{a,.head _,n},iM f r}
  let{d,f,r}:=v e;rw[aAz,T1 f r];rcases nZ rep p k t l ρ2 y (λb g=>u b (.tail _ g))with⟨⟨b,g,q⟩,s⟩|⟨q,s⟩
  .show .inl {{b,.tail _ g,q},s}
  show .inr ⟨by
   rintro⟨b,g,w⟩;cases g with
   |head=>show n w
   |tail _ g=>show q {b,g,w},s⟩
def SW{f:Type}{G:D->Ev->R Ev}{F k:Ev->R Out}{x d:D}{l:List f}{ρ:Ev}(rep:f->D)(p:f->Prop)(b:Ev->Prop)(h:b ρ)(m:∀a∈l,∀ρ,b ρ->(p a/\L7 G F (rep a) ρ=.ok (.rt x))\/(¬p a/\∃ρ2,L7 G F (rep a) ρ=.ok (.nx ρ2)/\b ρ2))(g:(∃a∈l,p a)->x=d)(no:¬(∃a∈l,p a)->∀ρ',b ρ'->J9 (k ρ')=.ok d):J9 (B0 (M0 G F (l.map rep) ρ) k)=.ok d:=by
 rcases nZ (Iv:=b) rep p b (λ_ h=>h) l ρ h m with⟨q,e⟩|⟨q,ρ2,e,n⟩
 .rw[e,<-g q];rfl
 rw[e];show no q ρ2 n
def pW(J:List G.V):w9 (J.map vd)<=5:=by
 induction J with
 |nil=>simp[w9]
 |cons v l a=>rw[aAz,w9];simp[A5,w9]at a⊢;lia
def UF(J:List G.V):IK (.lst (J.map vd)) (.lst [])=.ok (.bl (!J.isEmpty)):=by have:=pW J;unfold IK;rw[jk {by rw[A5];lia,by simp[A5,w9]}];cases J<;>simp[v6,X4]
def pk(W:List G.V)(u v:G.V):Prop:=G.cr u v≠0/\∃w∈W,G.c6 (G.cr u v) w≠0
def ZE(W:List G.V)(u:G.V):Prop:=∃v∈W,pk W u v
def WI{P:G.V}{ps:List G.V}(h:∃u∈(P::ps).map (· -P),ZE ((P::ps).map (· -P)) u):fM (P::ps)=P::ps:=by unfold fM;rw[jk];let{u,d,v,e,c,w,f,q}:=h;let{u,g,rfl}:=aAo.mp d;let{v,a,rfl}:=aAo.mp e;let{w,b,rfl}:=aAo.mp f;show(G.qN<|.head _).mpr {u,g,v,a,c,w,b,q}
def YO{P:G.V}{ps:List G.V}(h:¬∃u∈(P::ps).map (· -P),ZE ((P::ps).map (· -P)) u):fM (P::ps)=(P::ps)++[{P.x+1,P.y,P.z},{P.x,P.y+1,P.z},{P.x,P.y,P.z+1}]:=by unfold fM;rw[jl];intro s;let{u,b,v,d,c,w,e,q}:=(G.qN<|aBA (a:=P)).mp s;show h {_,aBo b,_,aBo d,c,_,aBo e,q}
def LF{J:List G.V}(h:J≠[]):G.i9 (fM J):=by
 match J,h with
 |P::r,_=>
  unfold fM;split
  .assumption
  show G.zG P (.head _)
def KF{J:List G.V}(h:J≠[])(a:∀p∈J,Sz 300 p)(b:J.length<=1000):jF [.lst (J.map vd)]=.ok (.lst ((fM J).map vd)):=by erw[jF,v8];show jk {h,a,b}
def QU{J:List G.V}(d:∀p∈J,Sz 40 p):(∀p∈fM J,Sz 41 p)/\(fM J).length<=J.length+3:=by
 unfold fM;split
 .show{λp a=>(d p a).mono,by lia}
 match J,d with
 |[],d=>show{λp a=>(nomatch a),aAT _}
 |P::r,d=>
  show{λp a=>?_,by simp};have b:=d P (.head _);have m:∀{i:Int},bits i<=40->bits i<=41:=λh=>l8 h (by lia);have e:∀{i:Int},bits i<=40->bits (i+1)<=41:=λh=>bits_add h (show bits 1<=40 by symm);rcases aAV.mp a with a|a
  .show(d p a).mono
  erw[aAg,aAY,or_false]at a;rcases a with rfl|rfl|rfl
  .show{e b.1,m b.2.1,m b.2.2}
  .show{m b.1,e b.2.1,m b.2.2}
  show{m b.1,m b.2.1,e b.2.2}
end M
namespace DL
open PySem L2
section
variable [Tabs]
open Classical in
def sdR(i:Nat) (ρ:Ev):R (List D):=match ρ[i]? with
 |some (.d U)=>if(U.map (·.1)).all V6=true/\U.length<=63 then .ok (K6 (U.map (·.1)))else .bad
 |_=>.bad
def EN{K:km}{H:Hp}{O:bb->Prop}:∀{es:List ff}{U:List (D×D)},mN K H O es U->y8 K H O (es.map (·.key)) (U.map (·.1)):=by
 intro _ _ h;induction h with
 |nil=>show .nil
 |@cons e _ _ _ h _ b=>let{{a,d,r},_}:=h;show .cons {.ref a,by change RelV (.ref a) e.key;rw[d];rfl,r} b
def EI(i:Nat){x:Str}{p t z:Pos}(hh:X.calm=true)(hu:X.A.units+300<dA)(hN:X.N[i]?=some x<|>1)(hv:xO X.env.scope x<|>5)(m:(x==lb)=false<|>2)(fm:(x==lh)=false<|>2)
  (hg:Gl X "sorted"<|>1) (hm:X.mg "sorted"=none<|>4) (hvb:dm "sorted"=some (.builtin "sorted")<|>3) (he:a5 [.Name x t] X.env=(false,dC (.Name x t) X.env)::a5 [] X.env<|>1) (bh:(dq z (a5 [] X.env)).any (·.1)=false<|>1):
  PF X (.Call (.Name "sorted" p) [.Name x t] [] z) (sdR i):=by
 show wF λL s σ H Q I H9 O0 O ρ E q=>?_;unfold sdR at q;cases e2:ρ[i]? with
 |none=>rw[e2]at q;show aAA q
 |some sl=>
  rw[e2]at q;cases sl with
  |d U=>
   dsimp only at q;by_cases hc:(U.map (·.1)).all V6=true/\U.length<=63
   .rw[jk hc]at q;let{a,o,es,h1,_,_,h4,h5,h6,nd}:=E.slot i _ e2;show aAK (K0 I hg hm hvb ?_ (by symm) (by symm));have ui:PA X [.Name x t] _:=G0 (N5 hN hv m fm) Z5 he;show aBl (D6 (ui z L s σ H (λvs H1=>vs=[.ref a]/\H1=H) I {_,h1,rfl,rfl}) λus B z9=>?_) he bh;let{vs,H1,T,r1,ev,eH}:=z9;subst ev eH;let{u,rfl,ru}:=vals1 r1;cases ru;let{jt,qo}:=hc;let{Y,hx,J,ep,yh,ees}:=h5;have hD:SD.IsD B.heap a J ep:={o,(T.hok a _ h4).1,hx,yh};have pt:∀d∈U.map (·.1),V6 d=true:=aBt.mp jt;have st:y8 X.K H1 O (J.toList.map (·.key)) (U.map (·.1)):=by rw[ees];show EN h6
    have hlen:(J.toList.map (·.key)).length=U.length:=by rw[st.length,aAh]
    have hsz:J.size=U.length:=by rw[<-hlen];simp
    have g:∀u∈J.toList.map (·.key),∃d,d∈U.map (·.1)/\V6 d=true/\HV B.heap u d:=λu hu=>by let{d,m,v,rv,rp}:=st.get hu;show{d,m,pt d m,R6 T rp (G3<|pt d m) rv}
    show TS.sorted_keys (vs:=J.toList.map (·.key)) (f:=true) (key:=xS B.heap) (C:=λs'=>∃h' r,s'={B with heap:=h',toks:=r}/\∀b o,B.heap.get? b=some o->h'.get? b=some o)
     (λ{Q'} hq=>SD.collect_dk (by simp[T.ok.hd hh]) Y hD (by rw[hsz];show aAk qo (by symm)) λh' r k=>hq _ {h',r,rfl,k})
     (λs' ⟨h',r,h,k⟩ s6 k6 x hx y hy prog w A E hA {Q} qq=>?_) (λh2 s' ⟨h',r,h,k⟩ s6 k6 A {Q} qq=>?_) (by rw[hlen];lia) λs' gm h' l ⟨h1,r,h,k⟩ pm zg k2 hl ⟨n,gl⟩=>?_
    .subst h;let{d,_,pd,om}:=g x hx;let{d',_,pd',ou}:=g y hy;rw[T7 pd om,T7 pd' ou]at qq;show ET pd pd' (om.keeps λb o e _=>k6 b o (k b o e)) (ou.keeps λb o e _=>k6 b o (k b o e)) qq
    .subst h;show pS (λx hx=>?_) h2 qq;let{d,_,pd,om}:=g x hx;show{d,pd,om.keeps λb o e _=>k6 b o (k b o e)}
    subst h;let{ng,zr,t,qp}:=bH (key:=xS B.heap) st pm zg (by rintro u d ⟨v,rv,rp⟩ m;show T7 (pt d m) (R6 T rp (G3<|pt d m) rv)) pt nd;have e3:ng=K6 (U.map (·.1)):=aX qp (O6 _) λd=>by rw[t.mem_iff,C7 pt]
    subst e3;let{wv,mo,ki}:=zr.ab8;have I2':=T.kept (h':=h1) (t':=r) k;have I3:=I2'.laid (a:=l) (o:=.lst wv) (h':=h') (t':=r) k2 hl {by rw[ki.length,t.length_eq,aAh];show aAk qo (by symm),gm,n,mo,gl};show{.ref l,_,I3,rfl,q wv _ l (Same.refl _) (I2'.hok.fresh hl) ki}
   rw[jl hc]at q;show aAA q
  |_=>show aAA q
end
end DL
namespace DL
open PySem PySem.Spec L2
open PyProof.Rows hiding St st
section
variable [Tabs]
end
section
variable{prog:bo}{w:cq}{A:cp}{E:B4}{s:a9}
end
section
variable [Tabs] {prog:bo}{w:cq}{A:cp}{R:Result->a9->Prop}
end
section
variable [Tabs]
section
variable{o:cv}{to:TE}{name:Str}{apos ao:Pos}{T id:String}{r:V->List V->Hp->VK->Prop}
end
def yL(d:D):R D:=match d with
 |.dct U=>match fT (U.map (·.2))with
  |some a=>.ok (.int a.sum)
  |none=>.bad
 |_=>.bad
end
end DL
namespace M
open PySem L2 DL
variable [Tabs]
def mD(Y:List D) (most:Int):List G.V:=if((cJ Y 1).fdiv 5).fmod 3=0 then fM (gA Y most)else(fM<|gA Y most).map (xX<|YJ<|(cJ Y 1).fdiv 5).put
open Classical in
def nH:List D->R D
 |[.lst Y,.int a]=>if M2 1048576 Y/\Y.length<=63/\4<=a/\a<=20 then .ok (.lst ((mD Y a).map vd))else .bad
 |_=>.bad
def NC{Y:List D}{most:Int}(a:M2 1048576 Y)(b:Y.length<=63)(h0:4<=most)(d:most<=20):nH [.lst Y,.int most]=.ok (.lst ((mD Y most).map vd)):=jk {a,b,h0,d}
def ZO{l:List Int}{P:G.V}(h:bK l)(a:Sz 50 P):Sz 300 ((xX l).put P):=by
 have g:∀k,bits (l.getD k 0)<=100:=λk=>by
  rw[aAr];cases e:l[k]? with
  |none=>show(show bits 0<=100 by symm)
  |some i=>show h.2 i (aAi e)
 have f:bits (P.x+l.getD 0 0*P.y)<=151:=bits_add (l8 a.1 (by symm)) (bits_mul (g 0) a.2.1);have n:bits (P.y+l.getD 1 0*P.z)<=151:=bits_add (l8 a.2.1 (by symm)) (bits_mul (g 1) a.2.2);have m:bits (P.z+l.getD 2 0*(P.x+l.getD 0 0*P.y))<=252:=bits_add (l8 a.2.2 (by symm)) (bits_mul (g 2) f);have ad:∀{x:Int} (k:Nat),bits x<=252->bits (x+l.getD k 0)<=300:=λk h=>l8 (bits_add h (l8 (g k) (by symm))) (by symm);have b:=l8 f (show 151<=252 by symm);have d:=l8 n (show 151<=252 by symm);unfold xX G.Sl.put;dsimp only;split
 .show{ad 3 d,ad 4 b,ad 5 m}
 show{ad 3 b,ad 4 d,ad 5 m}
def IX(s:G.Sl){J:List G.V}(h:G.i9 J):G.i9 (J.map s.put):=G.RE s.unit (λX a=>by rw[<-s.ae4];show aBo a) h
def UD{Y:List D}{most:Int}(e:M2 1048576 Y)(h0:4<=most)(f:most<=20):G.i9 (mD Y most)/\(∀p∈mD Y most,Sz 300 p)/\((mD Y most).length:Int)<=most+3:=by
 let{g,b,k}:=OY e h0 f;have ne:gA Y most≠[]:=λz=>by rw[z]at b;simp at b
 have s:=LF ne;let{d,l}:=QU g;unfold mD;split
 .show{s,λp a=>(d p a).mono,by lia}
 show{IX _ s,λp a=>?_,by rw[aAh];lia};let{q,h,rfl}:=aAo.mp a;show ZO (MW _) (d q h).mono
def VN(c P:G.V):G.V×Int:=(G.cK c (G.t7 c),G.c6 (G.cK c<|G.t7 c) P)
def jP(A B C:G.V):VN (G.cr (B-A) (C-A)) A=G.c9 A B C:=rfl
def M1(f:G.V×Int):D:=sJ f.1 f.2
open Classical in
def jV:List D->R D:=v1 λa b c=>v1 λd e f=>nP (if({a,b,c}:G.V)≠0/\Sz 2003 {a,b,c}/\Sz 1000 {d,e,f}then .ok (M1<|VN ⟨a,b,c⟩ ⟨d,e,f⟩)else .bad)
def tU{c P:G.V}(h:c≠0)(a:Sz 2003 c)(b:Sz 1000 P):jV [vd c,vd P]=.ok (M1 (VN c P)):=jk {h,a,b}
open Classical in
def zk(J:List G.V):List D:=if G.i9 J then(l9<|d4 J).map M1 else[]
def fF:List D->R D:=lvD λJ=>nP (qx (U4 900 J/\(d4 J).length<=14)<|.lst (zk J))
def yI{J:List G.V}(a:U4 900 J)(b:(d4 J).length<=14):fF [.lst (J.map vd)]=.ok (.lst (zk J)):=(VL _ J []).trans (nC {a,b})
def DD{J:List G.V}(a:U4 900 J)(b:G.i9 J)(d:(d4 J).length<=14):fF [.lst (J.map vd)]=.ok (.lst ((l9 (d4 J)).map M1)):=by rw[yI a d,zk,jk b]
def Y4(a n:Nat):List D:=(List.range' a n).map λ(k:Nat)=>D.int (k:Int)
def a3r{a b:Nat}(d:a<=1000000)(h:b<=1000000):bA [.int (a:Int),.int (b:Int)]=.ok (Y4 a (b-a)):=by
 change(if pU (a:Int) (b:Int) 1 then R.ok (vL a 1<|jD a b 1)else R.bad)=_;rw[jk {by symm,by symm,by lia,by lia,by lia,by lia}];have e:jD (a:Int) (b:Int) 1=b-a:=by
  unfold jD;split
  .simp
  lia
 rw[e];unfold vL Y4;rw[List.range'_eq_map_range,aBx];congr 1;show List.map_congr_left λk _=>?_;simp
def MS{n:Nat}(h:n<=1000000):bA [.int (n:Int)]=.ok (Y4 0 n):=by rw[sj h];unfold Y4;rw[List.range_eq_range']
theorem oI{G:D->Ev->R Ev}{F:Ev->R Out}(Iv:Nat->Ev->Prop):∀{n a:Nat}{ρ:Ev},(∀i,a<=i->i<a+n->∀ρ,Iv i ρ->∃ρ2,L7 G F (.int (i:Int)) ρ=.ok (.nx ρ2)/\Iv (i+1) ρ2)->Iv a ρ->∃ρ',M0 G F (Y4 a n) ρ=.ok (.nx ρ')/\Iv (a+n) ρ'
 |0,a,ρ,_,h=>{ρ,rfl,h}
 |n+1,a,ρ,d,h=>by
  let{ρ2,e,f}:=d a (aAj _) (by lia) ρ h;let{ρ',g,k}:=oI Iv (n:=n) (λi m f=>d i (by lia) (by lia)) f;show{ρ',?_,by rw[show a+(n+1)=a+1+n by lia];show k};change M0 G F (.int (a:Int)::Y4 (a+1) n) ρ=_;unfold L7 at e;cases b:G (.int (a:Int)) ρ with
  |ok l=>rw[b]at e;show(T1 b e).trans g
  |ex z=>rw[b]at e;cases e
  |bad=>rw[b]at e;cases e
def M8(U:List (D×D)):List D:=U.map (·.1)
def BO(S:List G.V)(U:List (D×D)):Prop:=((M8 U).Nodup/\(U≠[]->G.i9 S))/\∀x∈M8 U,∃f:G.V×Int,x=M1 f/\G.IsFace S f.1 f.2
def Cov(S:List G.V)(U:List (D×D))(i j k:Nat):Prop:=∀A B C,S[i]?=some A->S[j]?=some B->S[k]?=some C->(G.Up S A B C->M1 (G.c9 A B C)∈M8 U)/\(G.Dn S A B C->M1 (G.c9 A C B)∈M8 U)
def S5(S:List G.V)(U:List (D×D))(i j k:Nat):Prop:=∀b a d,b<a->a<d->(b<i\/(b=i/\(a<j\/(a=j/\d<k))))->Cov S U b a d
def BO.put{S:List G.V}{U:List (D×D)}{f:G.V×Int}{v:D}(h:BO S U)(b:G.i9 S)(d:G.IsFace S f.1 f.2):BO S (X6 U (M1 f) v):=by
 show{{tN _ _ _ h.1.1,λ_=>b},λx a=>?_};rcases V2.mp a with a|rfl
 .show h.2 x a
 show{f,rfl,d}
theorem oC{S:List G.V}:∀{l:List D},l.Nodup->(∀x∈l,∃f:G.V×Int,x=M1 f/\G.IsFace S f.1 f.2)->∃fs:List (G.V×Int),l=fs.map M1/\fs.Nodup/\∀f∈fs,G.IsFace S f.1 f.2
 |[],_,_=>{[],rfl,.nil,λf a=>by cases a}
 |x::l,e,h=>by
  let{f,rfl,a}:=h _ (.head _);let{k,m}:=aAP.mp e;let{fs,rfl,n,b}:=oC m λy o=>h y (.tail _ o);show{f::fs,rfl,aAP.mpr {λz=>k (aBo z),n},λg d=>?_};cases d with
  |head=>show a
  |tail _ d=>show b g d
def BO.few{S:List G.V}{U:List (D×D)}(f:S.Pairwise λa b=>G.d6 (b-a))(l:S.length<=14)(h:BO S U):U.length<=63:=by
 by_cases z:U=[]
 .rw[z];symm
 have g:=h.1.2 z;let{fs,e,m,k}:=oC h.1.1 h.2;have few:=G.aV g f m k;have d:=G.cZ g f k;have n:S.length*S.length<=14*S.length:=Nat.mul_le_mul_right _ l;have:U.length=fs.length:=by have:=ka List.length e;unfold M8 at this;rw[aAh,aAh]at this;show this
 lia
def aT(S:List G.V)(c A:G.V):List Int:=S.map λX=>G.c6 c (X-A)
def LB(c A:G.V):G.c6 c (A-A)=0:=by simp[G.c6]
def GD{S:List G.V}{c A:G.V}(m:A∈S):(((∀X∈S,G.c6 c (X-A)<=0)/\∃X∈S,G.c6 c (X-A)<0)↔rJ (aT S c A)=0/\oB (aT S c A)<0)/\(((∀X∈S,0<=G.c6 c (X-A))/\∃X∈S,0<G.c6 c (X-A))↔oB (aT S c A)=0/\0<rJ (aT S c A)):=by
 have a:∀x,x∈aT S c A↔∃X∈S,G.c6 c (X-A)=x:=λx=>aAo;have d:(0:Int)∈aT S c A:=(a 0).mpr {A,m,LB c A};have ne:aT S c A≠[]:=λz=>by rw[z]at d;cases d
 have e:∀X∈S,G.c6 c (X-A)<=rJ (aT S c A)/\oB (aT S c A)<=G.c6 c (X-A):=λX b=>{xM ((a _).mpr {X,b,rfl}),vU ((a _).mpr {X,b,rfl})};have n:=xM d;have o:=vU d;let{Y,g,p}:=(a _).mp (yJ ne);let{Z,k,q}:=(a _).mp (yP ne);show{{λf=>?_,λh=>{λX b=>?_,Z,k,by lia}},λf=>?_,λh=>{λX b=>?_,Y,g,by lia}}
 .let{h,X,b,l}:=f;have:=h Y g;have:=e X b
  lia
 .have:=e X b
  lia
 .let{h,X,b,l}:=f;have:=h Z k;have:=e X b
  lia
 have:=e X b
 lia
def xV{S:List G.V}{A B C:G.V}(a:A∈S)(b:B∈S)(d:C∈S)(h:G.Up S A B C):G.i9 S:=by
 let{_,X,f,l}:=h;show{A,a,B,b,C,d,X,f,λe=>?_};have:G.f7 (B-A) (C-A) (X-A)=G.c6 (G.cr (B-A)<|C-A) (X-A):=by simp[G.f7,G.c6];try grind
 lia
open Classical in
def OP(S:List G.V) (U:List (D×D)) (A B C:G.V):List (D×D):=if G.Up S A B C then X6 U (M1<|G.c9 A B C) (.bl true)else U
open Classical in
def WS(S:List G.V) (U:List (D×D)) (A B C:G.V):List (D×D):=if G.Dn S A B C then X6 (OP S U A B C) (M1<|G.c9 A C B) (.bl true)else OP S U A B C
def OM{S:List G.V}{U:List (D×D)}{A B C:G.V}(b:A∈S)(d:B∈S)(e:C∈S)(h:BO S U):BO S (OP S U A B C)/\(∀x∈M8 U,x∈M8 (OP S U A B C))/\(G.Up S A B C->M1 (G.c9 A B C)∈M8 (OP S U A B C)):=by
 unfold OP;split
 .rename_i u;show{h.put (xV b d e u) (G.nS b d e u),λx a=>V2.mpr (.inl a),λ_=>V2.mpr (.inr rfl)}
 rename_i u;show{h,λx a=>a,λz=>kb z u}
def jy{S:List G.V}{U:List (D×D)}{A B C:G.V}(a:A∈S)(b:B∈S)(d:C∈S)(h:BO S U):BO S (WS S U A B C)/\(∀x∈M8 U,x∈M8 (WS S U A B C))/\(G.Up S A B C->M1 (G.c9 A B C)∈M8 (WS S U A B C))/\(G.Dn S A B C->M1 (G.c9 A C B)∈M8 (WS S U A B C)):=by
 let{e,f,g}:=OM (B:=B) (C:=C) a b d h;unfold WS;split
 .rename_i u;show{e.put (xV a d b<|G.zR.mp u) (G.nS a d b<|G.zR.mp u),λx k=>V2.mpr (.inl (f x k)),λz=>V2.mpr (.inl (g z)),λ_=>V2.mpr (.inr rfl)}
 rename_i u;show{e,f,g,λz=>kb z u}
def S5.step{S:List G.V}{U f:List (D×D)}{i j k:Nat}(h:S5 S U i j k)(m:∀x∈M8 U,x∈M8 f)(n:Cov S f i j k):S5 S f i j (k+1):=λd e g a b l=>by
 by_cases q:d<i\/(d=i/\(e<j\/(e=j/\g<k)))
 .intro A B C o p r;have:=h d e g a b q A B C o p r;show{λu=>m _ (this.1 u),λu=>m _ (this.2 u)}
 have:d=i/\e=j/\g=k:=by lia
 let{rfl,rfl,rfl}:=this;show n
def S5.j{S:List G.V}{U:List (D×D)}{i j:Nat}(h:S5 S U i j S.length):S5 S U i (j+1) 0:=λf g d a b l A B C k m e=>by have:d<S.length:=(aAn.mp e).1;show h f g d a b (by lia) A B C k m e
def S5.i{S:List G.V}{U:List (D×D)}{i:Nat}(h:S5 S U i S.length 0):S5 S U (i+1) 0 0:=λf d g a b l A B C k e m=>by have:d<S.length:=(aAn.mp e).1;show h f d g a b (by lia) A B C k e m
def S5.j0{S:List G.V}{U:List (D×D)}{i:Nat}(h:S5 S U i 0 0):S5 S U i (i+1) 0:=λd e f a b l=>h d e f a b (by lia)
def S5.k0{S:List G.V}{U:List (D×D)}{i j:Nat}(h:S5 S U i j 0):S5 S U i j (j+1):=λd e f a b l=>h d e f a b (by lia)
def OS{S:List G.V}{U:List (D×D)}(g:G.i9 S)(K:BO S U)(h:S5 S U S.length 0 0)(x:D):x∈M8 U↔∃f:G.V×Int,x=M1 f/\G.IsFace S f.1 f.2:=by
 show{K.2 x,λl=>?_};let{f,e,m}:=l;let{A,B,C,{i,j,k,a,b,d,n,o},q}:=(G.HZ g).mp m;have:=h i j k a b (.inl (aAn.mp d).1) A B C d n o;rw[e];rcases q with⟨u,q⟩|⟨u,q⟩
 .rw[<-show G.c9 A B C=f from q];show this.1 u
 rw[<-show G.c9 A C B=f from q];show this.2 u
def rO{J:List G.V}{U:List (D×D)}(k:U4 900 J)(l:G.i9 J)(n:(d4 J).length<=14)(K:BO (d4 J) U)(h:S5 (d4 J) U (d4 J).length 0 0):K6 (M8 U)=(l9 (d4 J)).map M1:=by
 let{m,r,e,L}:=X9 k l (by lia);have g:=n;rw[e]at g;have a:=B5 L g;rw[<-e]at a L;have pt:∀d∈M8 U,V6 d=true:=λd o=>by let{f,rfl,_}:=K.2 d o;rfl
 show aX (O6 _) ?_ λd=>?_
 .have:=a.2;unfold rX at this;unfold NK;rw[aBv]at this⊢;show this
 rw[C7 pt,OS L.good.solid K h,aAo];constructor
 .rintro⟨f,rfl,b⟩;show{f,(a.1 f).mpr b,rfl}
 rintro⟨f,b,rfl⟩;show{f,rfl,(a.1 f).mp b}
def CV{J:List G.V}{U:List (D×D)}(a:U4 900 J)(b:(d4 J).length<=14)(K:BO (d4 J) U)(h:S5 (d4 J) U (d4 J).length 0 0):K6 (M8 U)=zk J:=by
 unfold zk;by_cases q:G.i9 J
 .rw[jk q];show rO a q b K h
 rw[jl q];have:U=[]:=aEW λz=>q (aH (K.1.2 z) λv d=>o5.mp d);rw[this];rfl
def OG{G:D->Ev->R Ev}{F:Ev->R Out}{Post:Ev->Prop}{n a:Nat}{ρ:Ev}(Iv:Nat->Ev->Prop)(d:∀i,a<=i->i<a+n->∀ρ,Iv i ρ->∃ρ2,L7 G F (.int (i:Int)) ρ=.ok (.nx ρ2)/\Iv (i+1) ρ2)(h0:Iv a ρ)(b:∀ρ',Iv (a+n) ρ'->Post ρ'):∃ρ2,M0 G F (Y4 a n) ρ=.ok (.nx ρ2)/\Post ρ2:=by let{ρ',e,h}:=oI Iv d h0;show{ρ',e,b ρ' h}
def HR{G:D->Ev->R Ev}{F b:Ev->R Out}{d:D}{n a:Nat}{ρ:Ev}(Iv:Nat->Ev->Prop)(f:∀i,a<=i->i<a+n->∀ρ,Iv i ρ->∃ρ2,L7 G F (.int (i:Int)) ρ=.ok (.nx ρ2)/\Iv (i+1) ρ2)(h0:Iv a ρ)(g:∀ρ',Iv (a+n) ρ'->J9 (b ρ')=.ok d):J9 (B0 (M0 G F (Y4 a n) ρ) b)=.ok d:=by let{ρ',e,h}:=oI Iv f h0;rw[e];show g ρ' h
def RK{r:R Out}{ρ:Ev}{F:Ev->R Out}{x:R Out}(a:r=.ok (.nx ρ))(b:F ρ=x):B0 r F=x:=by rw[a];show b
def GW{U:List (D×D)}{f:G.V×Int}{v:D}{a b:Sl}{r:Ev}(h:U.length<=63):uS 2 (a::b::.d U::r) (M1 f) v=.ok (.nx (a::b::.d (X6 U (M1 f) v)::r)):=jk {rfl,rfl,aAk h (by symm)}
def lT{S:List G.V}{i:Nat}{A:G.V}(h:S[i]?=some A):Q1 (.lst (S.map vd)) (.int (i:Int))=.ok (vd A):=L0 (by rw[X0 (by lia),aCy,aAu,h];rfl)
def NP(A B C:G.V):({0-(G.cr (B-A) (C-A)).x,0-(G.cr (B-A) (C-A)).y,0-(G.cr (B-A) (C-A)).z}:G.V)=G.cr (C-A) (B-A):=by rw[G.xB];apply G.ext<;>simp
def SV{S:List G.V}{c A:G.V}(h:S≠[]):GP [.lst ((aT S c A).map D.int)]=.ok (.int (rJ (aT S c A)))/\EU [.lst ((aT S c A).map D.int)]=.ok (.int (oB (aT S c A))):=by
 have ne:aT S c A≠[]:=by unfold aT;exists h
 constructor
 .erw[GP,qW];show jk ne
 erw[EU,qW];show jk ne
def pv1(p:D)(S:List G.V)(i:Nat)(ρ:Ev):Prop:=∃U a b e f g,ρ=[Sl.v p,Sl.v (.lst (S.map vd)),.d U,a,b,e,f,g]/\BO S U/\S5 S U i 0 0
def pv2(p:D)(S:List G.V)(i j:Nat)(ρ:Ev):Prop:=∃U a b e f,ρ=[Sl.v p,Sl.v (.lst (S.map vd)),.d U,.v (.int (i:Int)),a,b,e,f]/\BO S U/\S5 S U i j 0
def pv3(p:D)(S:List G.V)(i j k:Nat)(ρ:Ev):Prop:=∃U a b e,ρ=[Sl.v p,Sl.v (.lst (S.map vd)),.d U,.v (.int (i:Int)),.v (.int (j:Int)),a,b,e]/\BO S U/\S5 S U i j k
open Classical in
def oA:List D->R D:=v4 λa b c d=>v1 λx y z=>nP (if Sz 2003 {a,b,c}/\Sz 1000 ⟨x,y,z⟩then .ok (.bl (decide (G.c6 {a,b,c} ⟨x,y,z⟩=d)))else .bad)
def MK{f:G.V×Int}{P:G.V}(h:Sz 2003 f.1)(a:Sz 1000 P):oA [M1 f,vd P]=.ok (.bl (decide (G.c6 f.1 P=f.2))):=jk {h,a}
def RJ{f:G.V×Int}{P:G.V}(h:Sz 2003 f.1)(a:Sz 1000 P):i8 [M1 f,vd P]=.ok (.int (G.c6 f.1 P)):=jk {{n6 h.1,n6 h.2.1,n6 h.2.2},n6 a.1,n6 a.2.1,n6 a.2.2}
def IY{f:Type}{l:List f}(d:l.Nodup):2<l.length↔∃a b c,a∈l/\b∈l/\c∈l/\a≠b/\a≠c/\b≠c:=by
 constructor
 .intro h;match l,h,d with
  |a::b::c::l,_,d=>
   show{a,b,c,by simp,by simp,by simp,?_,?_,?_}
   .rintro rfl;simp at d
   .rintro rfl;simp at d
   rintro rfl;simp at d
 rintro⟨a,b,c,p,q,r,g,k,n⟩
 classical
 have o:[a,b,c].Nodup:=by simp[g,k,n]
 have:=G.K4 o (m:=l) λv e=>by erw[aAg,aAY,or_false]at e;rcases e with rfl|rfl|rfl<;>assumption
 show this
def UB(fs:List (G.V×Int)) (X:G.V):List (G.V×Int):=fs.filter λf=>decide (G.c6 f.1 X=f.2)
def xF{J:List G.V}(s:U4 900 J)(t:G.i9 J)(u:(d4 J).length<=14):((d4 J).filter λX=>decide (2<(UB (l9 (d4 J)) X).length))=B6 J:=by
 let{m,r,e,L}:=X9 s t (by lia);have v:=u;rw[e]at v;have k:=B5 L v;rw[<-e]at k L;have z:(l9<|d4 J).Nodup:=F6 (O5 k.2);have w:=L.good.solid;have n:=L.good.ord;show X7 ((u7 J).sublist List.filter_sublist) (u7 _) λX=>?_;rw[aCh,decide_eq_true_eq,iI s t u,IY (l:=UB (l9<|d4 J) X) (z.sublist List.filter_sublist)];have d:∀f,f∈UB (l9<|d4 J) X↔G.IsFace (d4 J) f.1 f.2/\G.c6 f.1 X=f.2:=λf=>by unfold UB;rw[aCh,decide_eq_true_eq,k.1]
 constructor
 .rintro⟨g,a,b,c,h,o,p,A,B,C⟩;rw[d]at h o p;show{a,h.1,G.DO w n g h.1 o.1 p.1 h.2 o.2 p.2 A B C}
 rintro⟨f,q,g⟩;let{x,y,E,H,I,N,O,Q,T,U}:=G.jG w n q g;have Y:=(G.c8.mp<|(q.aa2 n).aa3 g).1;show{Y,f,x,y,(d f).mpr {q,Q},(d x).mpr {E,T},(d y).mpr {H,U},I,N,O}
open Classical in
def V5:List D->R D
 |[.lst a,.lst b]=>match E8 a with
  |some J=>if b=(l9 (d4 J)).map M1/\U4 900 J/\G.i9 J/\(d4 J).length<=14 then .ok (.lst ((B6 J).map vd))else .bad
  |_=>.bad
 |_=>.bad
def yR{J:List G.V}(a:U4 900 J)(b:G.i9 J)(d:(d4 J).length<=14):V5 [.lst (J.map vd),.lst ((l9 (d4 J)).map M1)]=.ok (.lst ((B6 J).map vd)):=by erw[V5,v8];show jk {rfl,a,b,d}
theorem HI(ds:List D):∀n:Nat,d3 (xQ ds) n<=n/\∀i≤n,xQ ds i (d3 (xQ ds) n)=false
 |0=>⟨aAj _,λi a=>by
  have:i=0:=by lia
  subst this;show TS.lex_irrefl _⟩
 |n+1=>by
  let{d,b}:=HI ds n;unfold d3;by_cases q:xQ ds (n+1) (d3 (xQ ds) n)=true
  .rw[jk q];show{aAj _,λi a=>?_};by_cases e:i=n+1
   .subst e;show TS.lex_irrefl _
   cases z:xQ ds i (n+1)with
   |false=>rfl
   |true=>have:=TS.lex_trans _ _ _ z q;have h:=b i (by lia);have this:xQ ds i (d3 (xQ ds) n)=true:=this;rw[h]at this;cases this
  rw[jl q];show{by lia,λi a=>?_};by_cases e:i=n+1
  .subst e;exists q
  show b i (by lia)
def LR{L:List G.V}(h:L≠[]):∃b∈L,uN [.lst (L.map vd)]=.ok (vd b)/\∀X∈L,X=b\/G.d6 (X-b):=by
 have m:0<L.length:=aCX.mpr h;let{g,f}:=HI (L.map vd) ((L.map vd).length-1);rw[aAh]at g f;have at_:∀i,i<L.length->(L.map vd).getD i .non=vd (L.getD i 0):=λi a=>by rw[aAr,aAr,aAu,aAd a];rfl
 have d:d3 (xQ<|L.map vd) (L.length-1)<L.length:=by lia
 have em:uN [.lst (L.map vd)]=.ok ((L.map vd).getD (d3 (xQ<|L.map vd)<|L.length-1) .non):=by change(if L.map vd≠[]/\(L.map vd).all V6=true then _ else _)=_;rw[jk {by simpa using h,vJ L},aAh]
 generalize d3 (xQ<|L.map vd) (L.length-1)=j at*
 have e:L.getD j 0∈L:=by rw[aAr,aAd d];show aBC d
 rw[at_ j d]at em;show{_,e,em,λX k=>?_};let{i,a,rfl}:=List.mem_iff_getElem.mp k;have q:=f i (by lia);unfold xQ at q;rw[at_ i a,at_ j d]at q;have l:L.getD i 0=L[i]:=by rw[aAr,aAd a];rfl
 rw[l]at q;cases z:HT.lexLt (flat<|vd<|L.getD j 0) (flat<|vd L[i])with
 |true=>show .inr ((CK _ _).mp z)
 |false=>show .inl (kC<|pK rfl rfl<|TS.lex_total _ _ q z)
def u9{a β:Type}{r:R a}{x:a}{F:a->R β}{y:R β}(b:r=.ok x)(d:F x=y):r.bind F=y:=by rw[b];show d
def iV{a:Type}{r:R Bool}{A B:R a}(h:r=.ok false):(r.bind λt=>if t=true then A else B)=B:=by rw[h];rfl
def uU{f g:Ev->R Bool}{ρ:Ev}(a:f ρ=.ok false)(b:g ρ=.ok false):orB f g ρ=.ok false:=by unfold orB;rw[a];show b
def fZ{f:Ev->R Bool}{ρ:Ev}(h:f ρ=.ok true):YY f ρ=.ok false:=by unfold YY;rw[h];rfl
def a3q{a:Type}{r:R a}{x:a}{F:a->R Out}{J:Ev->Prop}(b:r=.ok x)(d:∃ρ2,F x=.ok (.nx ρ2)/\J ρ2):∃ρ2,r.bind F=.ok (.nx ρ2)/\J ρ2:=by rw[b];show d
def a0s{i:Nat}{F:Ev->R Out}{d:D}{ρ ρ':Ev}{J:Ev->Prop}(e:ρ.set i (.v d)=ρ')(h:∃ρ2,F ρ'=.ok (.nx ρ2)/\J ρ2):∃ρ2,L7 (λd ρ=>.ok (ρ.set i (Sl.v d))) F d ρ=.ok (.nx ρ2)/\J ρ2:=by subst e;show h
def YT{f g:Ev->R Bool}{ρ:Ev}(h:f ρ=.ok false):ED f g ρ=.ok false:=by unfold ED;rw[h];rfl
def WG{f g:Ev->R Bool}{ρ:Ev}{b:R Bool}(h:f ρ=.ok true)(a:g ρ=b):ED f g ρ=b:=by unfold ED;rw[h];show a
def aP{f:Ev->R D}{ρ:Ev}{a:D}(b:f ρ=.ok a):p5 f N8 ρ=.ok [a]:=by nofun
def fU{f g:Ev->R D}{ρ:Ev}{a b:D}(d:f ρ=.ok a)(e:g ρ=.ok b):p5 f (p5 g N8) ρ=.ok [a,b]:=by nofun
def LOk(l:List G.V):Prop:=U4 900 l/\G.i9 l/\(d4 l).length<=14
section
variable{l:List G.V} (h:LOk l)
include h
theorem LOk.ag2:(∀f,f∈l9 (d4 l)↔G.IsFace (d4 l) f.1 f.2)/\l9 (d4 l)≠[]/\(l9 (d4 l)).Nodup:=by let{a,b,d}:=h;let{k,n,_}:=lG a b d;let{m,r,e,L}:=X9 a b (by lia);have g:=B5 L (e▸d);rw[<-e]at g;show{k,n,F6 (O5 g.2)}
end
def lp{b:Type}:Nat->(Nat->b->b)->b->b
 |0,_,a=>a
 |n+1,f,a=>f n (lp n f a)
structure Bd4(L:List G.V):Prop where
 sz:U4 900 L
 sol:G.i9 L
 ord:L.Pairwise λa b=>G.d6 (b-a)
 len:L.length<=14
 cor:∀X∈L,∃f:G.V×Int,G.IsFace L f.1 f.2/\X∈G.j1 L f
section
variable{L:List G.V} (h:Bd4 L)
include h
end
section
variable{L:List G.V} (h:Bd4 L)
include h
end
end M
namespace SZ
open PySem
abbrev li(t:bb):Obj:={cls:=.type "list_iterator",data:=.fields #[.ref t,.int 0 0]}
abbrev y4(h:cy)(t l:bb):cy:=(((h.push<|ti t).push (li l)).push {cls:=.type "tuple",data:=.seq #[.ref h.objs.size,.ref (h.push<|ti t).objs.size]}).push {cls:=.type "tuple",data:=.seq #[.none,.none]}
abbrev y5(h:cy)(t l:bb):cy:=(y4 h t l).push {cls:=.type "zip",data:=.fields #[.none,.bool false,.bool false,.ref ((h.push<|ti t).push (li l)).objs.size,.ref (((h.push<|ti t).push (li l)).push {cls:=.type "tuple",data:=.seq #[.ref h.objs.size,.ref (h.push<|ti t).objs.size]}).objs.size]}
end SZ
namespace DL
open PySem PySem.Spec L2
open PyProof.Rows hiding St
section
variable [Tabs]
def Itt(K:km)(a b:bb):It:=
 ⟨λi H=>∃Y d x y,R4 K H a Y/\aF K H b d/\Y[i]?=some x/\d[i]?=some y,
  λi H v e=>∃T,v=.ref T/\H T=none/\∀Y d,R4 K H a Y->aF K H b d->∃x y,Y[i]?=some x/\d[i]?=some y/\e=upd H T (.tup [x,y]),
  λi H=>∃Y,R4 K H a Y/\Y.length<=i⟩
end
end DL
namespace M
open PySem L2 DL
variable [Tabs]
section
open Classical
end
def PY{f:Ev->R D}{g:Ev->R (List D)}{ρ:Ev}{a:D}{l:List D}(b:f ρ=.ok a)(d:g ρ=.ok l):p5 f g ρ=.ok (a::l):=by nofun
def UI{r:R D}{d:D}(h:r=.ok d):J9 (r.bind λd=>.ok (.rt d))=.ok d:=by rw[h];rfl
def a3j{a:Type}{r:R a}{x:a}{F:a->R Out}{b:Ev->R Out}{d:D}(e:r=.ok x)(f:J9 (B0 (F x) b)=.ok d):J9 (B0 (r.bind F) b)=.ok d:=by rw[e];show f
abbrev W4:=G.V×G.V×G.V×G.V
abbrev w4(w:W4):D:=.tup [vd w.1,vd w.2.1,vd w.2.2.1,vd w.2.2.2]
open Classical in
def KY{J:List G.V}{X:G.V}:inR true (vd X) (.lst (J.map vd))=.ok (.bl (decide (X∉J))):=by
 have d:=pW J;have e:XO (vd X) (J.map vd)=decide (X∈J):=by
  by_cases h:X∈J
  .rw[kd h];show aCY.mpr {_,aBo h,L9 _}
  rw[kc h];cases q:XO (vd X) (J.map vd)with
  |false=>rfl
  |true=>let{x,a,e}:=aCY.mp q;let{g,b,rfl}:=aAo.mp a;have:=fI (by simp[mX,cH]) (by simp[mX,cH]) e;show kb (kC this▸b) h
 change(if _ then R.ok (D.bl<|XO (vd X) (J.map vd) !=true)else _)=_;rw[jk {by lia,by simp[w9,A5]},e]
 nofun
def wts(w:W4)(P:G.V):List Int:=[FZ P w.2.1 w.2.2.1 w.2.2.2,FZ w.1 P w.2.2.1 w.2.2.2,FZ w.1 w.2.1 P w.2.2.2,FZ w.1 w.2.1 w.2.2.1 P]
def fits(P:G.V)(w:W4):Bool:=decide (0<=oB (wts w P))
abbrev pn(p:G.V×G.V):D:=.tup [vd p.1,vd p.2]
def crd(v:G.V)(k:Nat):Int:=[v.x,v.y,v.z].getD k 0
theorem a2y{v:G.V}:∀{k:Nat},k<3->Q1 (vd v) (.int (k:Int))=.ok (.int (crd v k))
 |0,_=>rfl
 |1,_=>rfl
 |2,_=>rfl
open Classical in
def V0(ds:List D):R D:=qx (∃a:List Int,ds=[.tup (a.map D.int),.int (a.length:Int)]/\a.length<=9) (.bl true)
def JH(P:G.V):V0 [vd P,.int 3]=.ok (.bl true):=nC {[P.x,P.y,P.z],rfl,by simp}
def JN(f:G.V×Int):V0 [M1 f,.int 4]=.ok (.bl true):=nC {[f.1.x,f.1.y,f.1.z,f.2],rfl,by simp}
structure Rg12(f:G.V×Int)(R C:List G.V):Prop where
 sf:Sz 2003 f.1
 sr:∀X∈R,Sz 900 X
 sc:∀X∈C,Sz 900 X
 lr:R.length<=14
 lc:C.length<=14
 nd:R.Nodup
 hd:∃m r,R=m::r/\∀X∈R,X=m\/G.d6 (X-m)
 so:K6 (R.map vd)=(C.filter λX=>decide (G.c6 f.1 X=f.2)).map vd
 lf:∀P Q,(P,Q)∈G.U8 R->∀X∈R,X≠P->X≠Q->0<G.c6 f.1 (G.cr (Q-P) (X-P))
def wT(ds:List D):R D:=qx (∃f R C,ds=[M1 f,.lst (R.map vd),.lst (C.map vd)]/\Rg12 f R C) (.bl true)
def PV{f:G.V×Int}{R C:List G.V}(h:Rg12 f R C):wT [M1 f,.lst (R.map vd),.lst (C.map vd)]=.ok (.bl true):=nC {f,R,C,rfl,h}
def UN{R:List G.V}{k:Nat}(b:k<R.length):∃P Q,R[k]?=some Q/\Q1 (.lst (R.map vd)) (.int ((k:Int)-1))=.ok (vd P)/\(P,Q)∈G.U8 R:=by
 cases R with
 |nil=>cases b
 |cons a l=>
  cases k with
  |zero=>
   show{(a::l).getD l.length 0,a,rfl,?_,?_}
   .show L0 ?_;unfold qT FG;rw[aAh,jl (by symm),jk (by simp;lia),show((0:Nat):Int)-1+((a::l).length:Int)=(l.length:Int)by simp;lia,aCy];change((a::l).map vd)[l.length]?=_;rw[aAu,aAr,aAd (by simp)];rfl
   show aBk.mpr {l.length,?_};change((a::l).zip (l++[a]))[l.length]?=_;rw[aAW];simp[aAr]
  |succ j=>
   have d:j<l.length:=by exists b
   show{(a::l)[j],l[j],by simp[d],?_,?_}
   .rw[show((j+1:Nat):Int)-1=(j:Int)by lia];show lT (aAd _)
   show aBk.mpr {j,?_};change((a::l).zip (l++[a]))[j]?=_;rw[aAW];show{aAd _,by rw[aAG d];show aAd _}
def kz{R r:List G.V}{m:G.V}(e:R=m::r)(a:∀X∈R,X=m\/G.d6 (X-m)):uN [.lst (R.map vd)]=.ok (vd m):=by
 let{b,d,q,f}:=LR (L:=R) (by rw[e];show List.cons_ne_nil _ _)
 suffices z:m=b by rw[z];show q
 rcases f m (by rw[e];show .head _)with z|z
 .show z
 rcases a b d with y|y
 .show y.symm
 show(G.nI z ?_).elim;rw[show-(m-b)=b-m by apply G.ext<;>simp<;>lia];show y
def LW{l:List G.V}(h:l.Nodup):(l.map vd).Nodup:=aBv.mpr (h.imp λn e=>n (kC e))
def cz(P:G.V):A5 (vd P)<=40:=by simp[A5,w9]
def gy(f:G.V×Int):A5 (M1 f)<=40:=by simp[M1,sJ,A5,w9]
def WX(l:List G.V):BQ [.lst (l.map vd)]=.ok (.int (l.length:Int)):=by rw[oM,aAh]
def a3e{J:Ev->Prop}{G:D->Ev->R Ev}{F:Ev->R Out}{ds:List D}{ρ:Ev}(Iv:Ev->Prop)(a:∀d∈ds,∀ρ,Iv ρ->∃ρ2,L7 G F d ρ=.ok (.nx ρ2)/\Iv ρ2)(h0:Iv ρ)(b:∀ρ',Iv ρ'->J ρ'):∃ρ2,M0 G F ds ρ=.ok (.nx ρ2)/\J ρ2:=by let{ρ',e,h}:=tM Iv a h0;show{ρ',e,b ρ' h}
def JY{f:G.V×Int}{P:G.V}(h:Sz 2003 f.1)(a:Sz 1803 P):i8 [M1 f,vd P]=.ok (.int (G.c6 f.1 P)):=jk {{n6 h.1,n6 h.2.1,n6 h.2.2},n6 a.1,n6 a.2.1,n6 a.2.2}
def jq(a:List D)(P:G.V):GC a (vd P):={trivial,trivial,trivial,trivial}
def kU(a:List D)(f:G.V×Int):GC a (M1 f):={trivial,trivial,trivial,trivial,trivial}
def jB(a:List D)(l:List G.V):fK a (l.map vd):=Q8.mpr λd b=>by let{v,_,rfl}:=aAo.mp b;show jq a v
def nM{l R:List G.V}(h:l≠R):GC (R.map vd) (.lst (l.map vd)):={λe=>h (GG e),jB _ _}
def NN{f:G.V×Int}{l R:List G.V}(h:l≠R):GC (R.map vd) (.tup [M1 f,.lst (l.map vd)]):={kU _ f,nM h,trivial}
section
variable{J:List G.V} (h1:U4 900 J) (h2:G.i9 J) (h3:(d4 J).length<=14)
include h1 h2 h3
theorem KI{f:G.V×Int}(g:G.IsFace (d4 J) f.1 f.2):Rg12 f (G.j1 (d4 J) f) (B6 J):=by
 have k:=u7 J;have l:G.i9 (d4 J):=aH h2 λv n=>o5.mpr n;have S:=g.aa2 k;let{x,o,y,p,z,A}:=uE h1 h2 h3;have sub:∀X∈G.j1 (d4 J) f,X∈d4 J:=λX d=>(G.c8.mp<|S.aa3 d).1;have q:∀X∈G.j1 (d4 J) f,G.c6 f.1 X=f.2:=λX d=>(G.c8.mp<|S.aa3 d).2;show{HC h1 g,λX d=>h1.1 X (o5.mp<|sub X d),o.1,aAk (G.K4 S.aa4 sub) h3,p,S.aa4,?_,?_,λP Q h X d s t=>S.strict (S.aa1.mp h) d s t}
 .let{m,r,e,_,u}:=S.aa9;show{m,r,e,λX d=>u X (S.aa3 d)}
 have w:(B6 J).Pairwise λa b=>G.d6 (b-a):=u7 _;have:=X7 (a:=d4 (G.j1 (d4 J) f)) (b:=(B6 J).filter λX=>decide (G.c6 f.1 X=f.2)) (u7 _) (w.filter _) λv=>by rw[o5,aCh,decide_eq_true_eq,iI h1 h2 h3];show{λh=>{{f,g,h},q v h},λh=>G.AF l k h.1 g h.2}
 rw[<-this];show(V7 _)
theorem yT{f g:G.V×Int}(h:G.IsFace (d4 J) f.1 f.2)(l:G.IsFace (d4 J) g.1 g.2)(ne:f≠g)(z:List G.V):G.j1 (d4 J) f++z≠G.j1 (d4 J) g:=λe=>by
 have k:=u7 J;have m:G.i9 (d4 J):=aH h2 λv n=>o5.mpr n;let{a,b,c,r,d}:=G.O7 k h;have d:G.j1 (d4 J) f=a::b::c::r:=d;show ne (G.xU m k h l (a:=a) (b:=b) ?_ ?_)
 .rw[d];show .head _
 rw[<-e,d];show .head _
theorem HX{f:G.V×Int}(a:G.IsFace (d4 J) f.1 f.2){l:List G.V}(g:G.i9 l):l≠G.j1 (d4 J) f:=λe=>by let{Z,b,q}:=g.off (d:=f.2) a.prim.ne;rw[e]at b;show q (G.c8.mp<|(a.aa2<|u7 J).aa3 b).2
end
abbrev IE(f:G.V×Int)(W:List G.V):D:=.tup [M1 f,.lst (W.map vd)]
def dI(S:List G.V)(a:List (G.V×Int))(k:Nat)(l:List D):Prop:=l.length=a.length/\∀j f,a[j]?=some f->∃z,l[j]?=some (IE f<|G.j1 S f++z)/\(k<=j->z=[])
section
variable{S:List G.V}{FS:List (G.V×Int)}{k:Nat}{l:List D}
def BD:dI S FS k (FS.map (k8 S)):={aAh ..,λj f e=>{[],by rw[aAu,e,aBW];rfl,λ_=>rfl}}
def dI.at_{f:G.V×Int}(h:dI S FS k l)(e:FS[k]?=some f):l[k]?=some (IE f (G.j1 S f)):=by let{z,q,n}:=h.2 k f e;rw[n (aAj _),aBW]at q;show q
def dI.split{f:G.V×Int}(h:dI S FS k l)(e:FS[k]?=some f):l=l.take k++IE f (G.j1 S f)::l.drop (k+1):=by let{a,q}:=aAn.mp (h.at_ e);rw[<-q,<-aCN a,aFt]
def dI.step{f:G.V×Int}(h:dI S FS k l)(e:FS[k]?=some f)(z:List G.V):dI S FS (k+1) (l.take k++IE f (G.j1 S f++z)::l.drop (k+1)):=by
 let{m,q}:=aAn.mp (h.at_ e);have lt:(l.take k).length=k:=by rw[aBh];lia
 show{by rw[aAM,lt,aAt,aCZ,<-h.1];lia,λj g a=>?_};let{y,q,n}:=h.2 j g a;by_cases b:j<k
 .show{y,by rw[aAG (by lia),aDN b];show q,λz=>by lia}
 rw[aAy (by lia),lt];by_cases d:j=k
 .subst d;rw[e]at a;cases a;show{z,by rw[Nat.sub_self];rfl,λz=>by lia}
 show{y,?_,λ_=>n (by lia)};rw[show j-k=(j-(k+1))+1 by lia,aCq,aDS,show k+1+(j-(k+1))=j by lia];show q
def dI.all{d:D}{j:Nat}(h:dI S FS k l)(e:l[j]?=some d):∃f z,FS[j]?=some f/\d=IE f (G.j1 S f++z):=by have a:=(aAn.mp e).1;rw[h.1]at a;let{z,q,_}:=h.2 j FS[j] (aAd a);rw[e]at q;cases q;show{_,z,aAd a,rfl}
def dI.apart{J:List G.V}{FS:List (G.V×Int)}{f:G.V×Int}(p:U4 900 J)(r:G.i9 J)(s:(d4 J).length<=14)(o:∀g∈FS,G.IsFace (d4 J) g.1 g.2)(t:FS.Nodup)(h:dI (d4 J) FS k l)(e:FS[k]?=some f):fK ((G.j1 (d4 J) f).map vd) (l.take k)/\fK ((G.j1 (d4 J) f).map vd) (l.drop (k+1)):=by
 have one:∀{j d},j≠k->l[j]?=some d->GC ((G.j1 (d4 J) f).map vd) d:=λ{j d} b q=>by let{g,z,m,rfl}:=h.all q;show NN (yT p r s (o g<|aAi m) (o f<|aAi e) (λz=>b ?_) z);subst z;show(List.getElem?_inj (aAn.mp m).1 t).mp (m.trans e.symm)
 show{Q8.mpr λd n=>?_,Q8.mpr λd n=>?_}
 .let{j,a}:=aEs n;have b:j<k:=by have:=(aAn.mp a).1;rw[aBh]at this;lia
  rw[aDN b]at a;show one (by lia) a
 let{j,a}:=aEs n;rw[aDS]at a;show one (by lia) a
def XH{W R:List G.V}{f:G.V×Int}{l:List D}{j:Nat}(e:l[j]?=some (IE f W)):R.map vd≠l:=λq=>by
 rw[<-q,aAu]at e;cases z:R[j]? with
 |none=>rw[z]at e;cases e
 |some P=>rw[z]at e;cases e
def Pl(sl:Sl):Prop:=sl=.no\/(∃i,sl=.v (.int i))\/(∃f,sl=.v (M1 f))\/∃W:List G.V,sl=.v (.lst (W.map vd))
def Pl.no{sl:Sl}{l:List D}(h:Pl sl)(n:∀W:List G.V,W.map vd≠l):TV l sl:=by
 rcases h with rfl|⟨i,rfl⟩|⟨f,rfl⟩|⟨W,rfl⟩
 .trivial
 .trivial
 .show kU _ f
 show{n W,jB _ W}
def QG{ns:List Int}{t:List D}{l:List D}:GC (.tup t::l) (.lst (ns.map D.int)):={λe=>(by cases ns with|nil=>cases e|cons a r=>cases e),Q8.mpr λd b=>by let{i,_,rfl}:=aAo.mp b;trivial}
def GV{FS:List (G.V×Int)}{a:List D}(h:FS.map M1≠a):GC a (.lst (FS.map M1)):={h,Q8.mpr λd b=>by let{f,_,rfl}:=aAo.mp b;show kU _ f}
end
def TX(S:List G.V)(fs:List (G.V×Int)):A5 (.lst (fs.map (k8 S)))<=40:=by
 rw[A5];have:∀l:List (G.V×Int),w9 (l.map<|k8 S)<=9:=λl=>by
  induction l with
  |nil=>simp[w9]
  |cons a l b=>
   have e:=pW (G.j1 S a);rw[aAz,w9];show Nat.max_le.mpr {?_,b};simp[k8,A5,w9]
   lia
 have:=this fs
 lia
def FM{d:D}(h:A5 d<=40):SL d d=.ok (.bl true):=by unfold SL;rw[jk {h,h},L9]
abbrev zW(s:List D)(p C:List G.V)(a:List (G.V×Int))(r:Ev):Ev:=.v (.lst s)::.v (.lst (p.map vd))::.v (.lst (a.map M1))::.v (.lst (C.map vd))::.v (.lst (p.map vd))::r
def ZN(s:List D)(p C S:List G.V)(a:List (G.V×Int))(k:Nat)(ρ:Ev):Prop:=∃l b d e,ρ=zW s p C a [.v (.lst l),.o ((a.take k).map (k8 S)),b,d,e]/\dI S a k l/\Pl b/\Pl d/\Pl e
def ny(s:List D)(p C S:List G.V)(a:List (G.V×Int))(k:Nat)(ρ:Ev):Prop:=∃l f b d,ρ=zW s p C a [.v (.lst l),.o ((a.take k).map (k8 S)),.v (.int (k:Int)),b,d]/\dI S a k l/\a[k]?=some f
def uj(s:List D)(p C S:List G.V)(a:List (G.V×Int))(k:Nat)(ρ:Ev):Prop:=∃l f,ρ=zW s p C a [.v (.lst l),.o ((a.take k).map (k8 S)),.v (.int (k:Int)),.v (M1 f),.v (.lst ((G.j1 S f).map vd))]/\dI S a k l/\a[k]?=some f
def WD(l:List (G.V×Int)):BQ [.lst (l.map M1)]=.ok (.int (l.length:Int)):=by rw[oM,aAh]
def UT{l:List D}{k:Nat}{d:D}(h:l[k]?=some d):Q1 (.lst l) (.int (k:Int))=.ok d:=L0 (by rw[X0 (by lia),aCy,h])
def VV{n k:Nat}{d:D}(h:(Y4 0 n)[k]?=some d):d=.int (k:Int)/\k<n:=by
 unfold Y4 at h;rw[aAu]at h;by_cases a:k<n
 .rw[List.getElem?_range' a]at h;have h:some (D.int ((0+1*k:Nat):Int))=some d:=h;injection h with h;rw[<-h,show 0+1*k=k by lia];show{rfl,a}
 rw[aDs (by exists a)]at h;cases h
end M
namespace K12
open PySem L2 DL M
def top(i:Nat):df:=PySem.Challenge.pw_stakebodies_k12_faces_by_all_planes.main.body.getD i (.Pass {0,0,0,0})
abbrev Z6:df:=top 5
abbrev rY:List Str:=["P", "Q"]
def pD:FnScope rY ["P", "Q"] (b9 Z6):=D9
abbrev gD:df:=top 6
abbrev BI:List Str:=["u", "v"]
def BE:FnScope BI ["u", "v"] (b9 gD):=D9
abbrev bY:df:=top 7
abbrev xK:List Str:=["u", "v"]
def rC:FnScope xK ["u", "v"] (b9 bY):=D9
abbrev P1:df:=top 8
abbrev lI:List Str:=["numbers", "divisor", "number", "rest", "further"]
def jE:FnScope lI ["numbers"] (b9 P1):=D9
abbrev S6:df:=top 9
abbrev mW:List Str:=["P", "Q", "R", "cross", "divisor", "upright"]
def kP:FnScope mW ["P", "Q", "R"] (b9 S6):=D9
abbrev lV:df:=top 10
abbrev JW:List Str:=["plane", "P", "height"]
def BU:FnScope JW ["plane", "P"] (b9 lV):=D9
abbrev P3:df:=top 13
abbrev kG:List Str:=["ways", "way"]
def iD:FnScope kG ["ways"] (b9 P3):=D9
abbrev B1:df:=top 14
abbrev N6:List Str:=["points", "ways", "along", "upright"]
def nA:FnScope N6 ["points"] (b9 B1):=D9
abbrev Y8:df:=top 15
abbrev rQ:List Str:=["points"]
def pB:FnScope rQ ["points"] (b9 Y8):=D9
abbrev Y5:df:=top 16
abbrev mK:List Str:=["plane", "points"]
def vT:FnScope mK ["plane", "points"] (b9 Y5):=D9
abbrev Z3:df:=top 17
abbrev rD:List Str:=["pair", "points", "along", "upright", "outermost", "P", "way"]
def pZ:FnScope rD ["pair", "points"] (b9 Z3):=D9
abbrev bG:df:=top 18
abbrev wO:List Str:=["points", "least", "upward", "touched"]
def rK:FnScope wO ["points"] (b9 bG):=D9
abbrev lN:df:=top 19
abbrev JM:List Str:=["upright", "P", "Q", "R"]
def CL:FnScope JM ["upright", "P", "Q", "R"] (b9 lN):=D9
abbrev bM:df:=top 20
abbrev xE:List Str:=["upright", "points", "chain", "P"]
def rE:FnScope xE ["upright", "points"] (b9 bM):=D9
abbrev lS:df:=top 21
abbrev KW:List Str:=["upright", "points", "there", "back"]
def BP:FnScope KW ["upright", "points"] (b9 lS):=D9
abbrev aD:df:=top 22
abbrev rT:List Str:=["ring"]
def oV:FnScope rT ["ring"] (b9 aD):=D9
abbrev bI:df:=top 23
abbrev vX:List Str:=["first", "about", "touched_by", "faces", "walked", "waiting", "pair", "plane", "ring", "step"]
def fN:FnScope vX ["first", "about", "touched_by"] (b9 bI):=D9
abbrev J8:df:=top 24
abbrev gJ:List Str:=["points", "spread", "about", "touched_by"]
def lY:FnScope gJ ["points"] (b9 J8):=D9
abbrev dE:df:=top 26
abbrev zJ:List Str:=["script", "k"]
def vK:FnScope zJ ["script", "k"] (b9 dE):=D9
abbrev gK:df:=top 27
abbrev EA:List Str:=["one", "other"]
def AN:FnScope EA ["one", "other"] (b9 gK):=D9
abbrev bC:df:=top 28
abbrev vY:List Str:=["u", "v"]
def rH:FnScope vY ["u", "v"] (b9 bC):=D9
abbrev W9:df:=top 29
abbrev qG:List Str:=["u", "v"]
def mQ:FnScope qG ["u", "v"] (b9 W9):=D9
abbrev bD:df:=top 30
abbrev vE:List Str:=["total", "way", "wide", "stir", "found", "k"]
def rL:FnScope vE ["total", "way"] (b9 bD):=D9
abbrev G7:df:=top 31
abbrev Z7:List Str:=["script", "most", "many", "totals", "k", "cell"]
def oE:FnScope Z7 ["script", "most"] (b9 G7):=D9
abbrev L6:df:=top 32
abbrev bJ:List Str:=["points", "ways", "u", "v", "crossed", "x", "y", "z"]
def rN:FnScope bJ ["points"] (b9 L6):=D9
abbrev Q0:df:=top 33
abbrev fS:List Str:=["cell", "slants", "far"]
def qJ:FnScope fS ["cell"] (b9 Q0):=D9
abbrev W0:df:=top 34
abbrev oZ:List Str:=["point", "slants", "x", "y", "z"]
def mS:FnScope oZ ["point", "slants"] (b9 W0):=D9
abbrev Y1:df:=top 35
abbrev lZ:List Str:=["script", "most", "points", "cell"]
def vD:FnScope lZ ["script", "most"] (b9 Y1):=D9
abbrev T5:df:=top 36
abbrev jQ:List Str:=["crossed", "point", "one", "number", "other"]
def rP:FnScope jQ ["crossed", "point"] (b9 T5):=D9
abbrev G5:df:=top 37
abbrev Z9:List Str:=["points", "some", "found", "i", "j", "k", "crossed", "worths"]
def oD:FnScope Z9 ["points"] (b9 G5):=D9
abbrev lE:df:=top 38
abbrev IZ:List Str:=["plane", "point"]
def DG:FnScope IZ ["plane", "point"] (b9 lE):=D9
abbrev N3:df:=top 39
abbrev dR:List Str:=["points", "planes"]
def mO:FnScope dR ["points", "planes"] (b9 N3):=D9
abbrev Q3:df:=top 40
abbrev fV:List Str:=["found", "many"]
def oQ:FnScope fV ["found", "many"] (b9 Q3):=D9
abbrev Q7:df:=top 41
abbrev dD:List Str:=["plane", "ring", "corners", "due", "k", "pair", "side", "one", "way", "turn"]
def wX:FnScope dD ["plane", "ring", "corners"] (b9 Q7):=D9
abbrev iU:df:=top 42
abbrev wj:List Str:=["script", "points", "planes", "corners", "handed", "found", "kept", "k", "plane", "ring"]
def NG:FnScope wj ["script"] (b9 iU):=D9
def cR:df:=(q9 J8).getD 2 (.Pass {0,0,0,0})
abbrev HK:Str:= "faces_of.<locals>.about"
def G4:df:=(q9 J8).getD 3 (.Pass {0,0,0,0})
abbrev iL:Str:= "faces_of.<locals>.touched_by"
def tbK:List (Pos×Str):=[(GF cR,HK),(GF G4,iL)]
section
variable [Tabs]
variable{P:bo}{w:cq}{K:km}{mg:fD}{base:cy}
def o8(g:dU K mg "way_between" Z6):v5 P w K mg base 1 "way_between" 2 l4:=by
 refine' m8 (k:=0) (F:=_) g pD (λf l m n=>?b) λe d o h=>?_
 case b=>refine' (c7<|f6<|F4 rfl)
 replace h:=B7 h;let{a,b,c,e,rfl,h}:=h;replace h:=B7 h;let{p,q,r,e,rfl,h}:=h;replace h:=A8 h;let{rfl,h}:=h;show h
def C0(g:dU K mg "cross_of" gD):v5 P w K mg base 1 "cross_of" 2 u5:=by
 refine' m8 (k:=0) (F:=_) g BE (λr s t u=>?b) λe d v h=>?_
 case b=>refine' (c7<|f6<|F4 rfl)
 replace h:=B7 h;let{a,b,c,e,rfl,h}:=h;replace h:=B7 h;let{x,y,z,e,rfl,h}:=h;replace h:=A8 h;let{rfl,h}:=h;split at h
 .rename_i q;let{{f,l,m},n,o,p}:=q;rw[<-h];simp[j3,e9 (m6.of l p),e9 (m6.of m o),e9 (m6.of m n),e9 (m6.of f p),e9 (m6.of f o),e9 (m6.of l n)]
 cases h
def x8(g:dU K mg "product_of" bY):v5 P w K mg base 1 "product_of" 2 i8:=by
 refine' m8 (k:=0) (F:=_) g rC (λr s u v=>?b) λe d x h=>?_
 case b=>refine' (c7<|f6<|F4 rfl)
 replace h:=YA h;let{a,b,c,t,e,rfl,h}:=h;replace h:=B7 h;let{y,z,A,e,rfl,h}:=h;replace h:=A8 h;let{rfl,h}:=h;split at h
 .rename_i f;let{{l,m,n},o,p,q}:=f;rw[<-h];simp[j3,YH,YG,XB,e9 (m6.of l o),e9 (m6.of m p),e9 (m6.of n q)]
 cases h
def O8(N:mg "abs"=none)(g:dU K mg "common_divisor" P1):v5 P w K mg base 1 "common_divisor" 1 F5:=by
 refine' m8 (k:=0) (F:=_) g jE (λO B Q o=>?b) λA d T h=>?_
 case b=>
  refine' (b8 (f8 1 u4 o)
   (b8 (C3 aAL rfl (jL<|c5 0) (l7 2 o) (b8 (f8 3 (AT NV<|d8 2) o)
   (c7 (fA (YB 3) aAL (j4 (Y3 B) (d8 3) gT) (b8 (f8 4 (F4 rfl) o)
   (b8 (f8 1 (c5 3) o)
   (c7<|f8 3 (c5 4) o)))))))
   (c7<|f6<|c5 1)))
 replace h:=B7 h;let{a,b,c,A,rfl,h}:=h;replace h:=A8 h;let{rfl,h}:=h;rw[<-h];erw[j3,aAz,aGk,aBQ,aFA];erw[cE,PP,R.aa0,sT,y9,aAt,aCj,Nat.reduceAdd,Nat.reduceSub,List.replicate_succ,List.replicate_zero,aBJ,aBK];show dS (λrest e=>∃(g:Nat) (n r f:Sl),e=[.v (.tup [.int a,.int b,.int c]),.v (.int g),n,r,f]/\∃l:List Int,rest=l.map D.int/\l.foldl (λg n=>aFR g n.natAbs) g=G.t7 {a,b,c}) ?_ {0,_,_,_,rfl,[a,b,c],rfl,by simp[G.t7]} ?_
 .rintro d A e ⟨g,n,r,f,rfl,l,t,s⟩;match l,t,s with
  |x::l,t,s=>
   injection t with C E;subst C E;erw[X3,aBJ,aBK,pF,wE,qL,HB,R.aa0,MD,y9];have H:(if x<0 then-x else x)=(x.natAbs:Int):=by split<;>lia
   rw[H];show qQ (λm e=>∃(p q:Nat) (f:Sl),e=[.v (.tup [.int a,.int b,.int c]),.v (.int p),.v (.int x),.v (.int q),f]/\q<m/\aFR p q=aFR g x.natAbs) ?_ (by rintro e ⟨p,q,f,_,h,_⟩;lia) {g,x.natAbs,f,rfl,by change x.natAbs<((x.natAbs:Int).natAbs)+2;lia,rfl} ?_
   .rintro m e ⟨p,q,f,rfl,I,y⟩;by_cases u:(q:Int)=0
    .show .inl (by simp[u])
    have J:q≠0:=by lia
    show .inr {by simp[J],_,?_,q,p%q,Sl.v (.int ((p%q:Nat):Int)),rfl,?_,?_}
    .have em:U1 (.int (p:Int)) (.int (q:Int))=.ok (.int ((p%q:Nat):Int)):=by rw[pT u,aDy _ (by lia)];rfl
     simp[em]
    .have:=aDJ p (show 0<q by lia)
     lia
    rw[aFC,<-Nat.gcd_rec,aFC];show y
   rintro m e ⟨p,q,f,rfl,I,y⟩ L;have u:q=0:=by
    by_cases z:q=0
    .show z
    simp[z]at L
   subst u;show{p,_,_,_,rfl,l,rfl,?_};rw[<-s,aDn,<-y,Nat.gcd_zero_right]
 rintro e ⟨g,n,r,f,rfl,l,t,s⟩;have:l=[]:=by exists t.symm
 subst this;simp at s;simp[s]
def S1(C0:v5 P w K mg base 1 "cross_of" 2 u5)(o8:v5 P w K mg base 1 "way_between" 2 l4)(O8:v5 P w K mg base 1 "common_divisor" 1 F5)(x8:v5 P w K mg base 1 "product_of" 2 i8)(g:dU K mg "plane_through" S6):v5 P w K mg base 2 "plane_through" 3 R5:=by
 refine' m8 (k:=1) (F:=_) g kP (λm hu fb A=>?b) λB d hl h=>?_
 case b=>
  refine' (b8 (f8 3 (R8 C0 m (R8 o8 m (c5 0)<|c5 1)<|R8 o8 m (c5 0)<|c5 2) A)
   (b8 (f8 4 (IR O8 m<|c5 3) A)
   (b8 (u3 (j4 (S7 hu) (d8 4) gT) (c7 kS) l5)
   (b8 (f8 5 (F4 rfl) A)
   (c7<|f6<|wM<|i7 (F4 rfl)<|i7 (F4 rfl)<|i7 (F4 rfl)<|i7 (R8 x8 m (c5 5)<|c5 0) o9)))))
 replace h:=B7 h;let{a,b,c,B,rfl,h}:=h;replace h:=B7 h;let{d,e,f,B,rfl,h}:=h;replace h:=B7 h;let{g,L,i,B,rfl,h}:=h;replace h:=A8 h;let{rfl,h}:=h
 skip
 split at h
 .rename_i hz;let{{p,q,r},o}:=hz;rw[<-h];obtain⟨P,E⟩:∃P:G.V,P=⟨a,b,c⟩:={_,rfl};obtain⟨Q,H⟩:∃P:G.V,P=⟨d,e,f⟩:={_,rfl};obtain⟨l,I⟩:∃P:G.V,P=⟨g,L,i⟩:={_,rfl};rw[<-E]at p o;rw[<-H]at q o;rw[<-I]at r o;have vP:(.tup [.int a,.int b,.int c]:D)=vd P:=by rw[E]
  have vQ:(.tup [.int d,.int e,.int f]:D)=vd Q:=by rw[H]
  have vR:(.tup [.int g,.int L,.int i]:D)=vd l:=by rw[I]
  rw[vP,vQ,vR,<-E,<-H,<-I];have s:=(q.sub p).cr (r.sub p);have c1:=X1 (u:=Q-P) (v:=l-P) (q.sub p).mono (r.sub p).mono;let{N,g1,g2}:=G.fC o;have n:((G.t7 (G.cr (Q-P)<|l-P):Nat):Int)≠0:=by lia
  have gb:uT ((G.t7 (G.cr (Q-P)<|l-P):Nat):Int):={n,n6 (uD s)};have dv:=CZ (G.cr (Q-P)<|l-P);have pl:G.c9 P Q l=(G.cK (G.cr (Q-P)<|l-P) (G.t7<|G.cr (Q-P)<|l-P),G.c6 (G.cK (G.cr (Q-P)<|l-P)<|G.t7<|G.cr (Q-P)<|l-P) P):=rfl;rw[pl];generalize hC:G.cr (Q-P) (l-P)=C at*
  have sn:Sz 2003 (G.cK C<|G.t7 C):=by have O:=bits_fdiv (b:=(G.t7 C:Int)) s.1;have T:=bits_fdiv (b:=(G.t7 C:Int)) s.2.1;have U:=bits_fdiv (b:=(G.t7 C:Int)) s.2.2;rw[cT N]at O T U;show{O,T,U}
  have d1:∀t:Int,M4 (.int t) (.int (G.t7 C:Nat))=.ok (.int (t/(G.t7 C:Nat))):=λt=>by rw[V1 gb,cT N]
  have Y:=bE (u:=G.cK C (G.t7 C)) (v:=P) sn.mono p.mono;have e0:(((G.t7 C:Nat):Int)==0)=false:=by exists n
  erw[G.cK]at Y;have J:i8 [.tup [.int (C.x/(G.t7 C:Nat)),.int (C.y/(G.t7 C:Nat)),.int (C.z/(G.t7 C:Nat))],vd P]=_:=Y;simp[j3,c1,dv,e0,d1,J,G.cK]
 cases h
def lO(g:dU K mg "side_of" lV):v5 P w K mg base 1 "side_of" 2 aG:=by
 refine' m8 (k:=0) (F:=_) g BU (λB C E v=>?b) λs d H h=>?_
 case b=>
  refine' (b8 (f8 2 (F4 rfl) v)
   (b8 (u3 (j4 pH (d8 2) gT) (c7<|f6 u4) l5)
   (b8 (u3 (j4 FD (d8 2) gT) (c7<|f6<|pI u4) l5)
   (c7<|f6 u4))))
 replace h:=RD h;let{a,b,c,d,s,rfl,h}:=h;replace h:=B7 h;let{x,y,z,s,rfl,h}:=h;replace h:=A8 h;let{rfl,h}:=h
 skip
 split at h
 .rename_i A;let{{e,f,l},m,o,q}:=A;rw[<-h];obtain⟨t,u⟩:∃t,a*x+b*y+c*z-d=t:={_,rfl};have r:JF (.int (a*x+b*y+c*z)) (.int d)=.ok (.int t):=by rw[<-u];rfl
  rw[u];unfold sgn;by_cases p:0<t
  .simp[-wY,j3,e9 (m6.of e m),e9 (m6.of f o),e9 (m6.of l q),p,r]
  by_cases n:t<0
  .simp[-wY,j3,e9 (m6.of e m),e9 (m6.of f o),e9 (m6.of l q),p,n,r]
  simp[-wY,j3,e9 (m6.of e m),e9 (m6.of f o),e9 (m6.of l q),p,n,r]
 cases h
def F7(m:OO K mg "NO_WAY" [0,0,0])(g:dU K mg "first_real_way" P3):v5 P w K mg base 1 "first_real_way" 1 A7:=by
 refine' m8 (k:=0) (F:=_) g iD (λq n r o=>?b) λs d t h=>?_
 case b=>
  refine' (b8 (C3 aAL rfl (q8<|c5 0) (l7 1 o)<|c7<|u3 (j4 (Y3 n) (d8 1)<|PD.pb<|wR m) (c7<|f6<|c5 1) l5)
   (c7<|f6 BX))
 replace h:=oU h;let{Y,rfl,h}:=h;split at h
 .rename_i f l;rw[t6 l];rw[<-h];simp[j3];generalize Sl.v (D.lst<|aCt vd f)=a;generalize Sl.no=b;clear h l;induction f generalizing b with
  |nil=>rfl
  |cons v f p=>
   rw[aAz,G.z8];by_cases e:v=0
   .rw[T1 (ρ2:=[a,.v (vd v)]) rfl (by simp[-kW,ne0,e]),p];simp[e]
   rw[iM (x:=vd v) rfl (by simp[-kW,ne0,e])];simp[e,DY]
 cases h
def E9(o8:v5 P w K mg base 1 "way_between" 2 l4)(F7:v5 P w K mg base 1 "first_real_way" 1 A7)(C0:v5 P w K mg base 1 "cross_of" 2 u5)(x8:v5 P w K mg base 1 "product_of" 2 i8)(br:mg "len"=none)(T:mg "any"=none)(g:dU K mg "dimension_of" B1):v5 P w K mg base 2 "dimension_of" 1 D7:=by
 refine' m8 (k:=1) (F:=_) g nA (λB hu fb U=>?b) λy d hl h=>?_
 case b=>
  refine' (b8 (u3 (j4 (S7 hu) (PD.pb<|AT N2<|d8 0) gT) (c7 kS) l5)
   (b8 (eF 1 ["P"] ["points"] [0] U rfl (D1 (sc:=b9 B1) (N:=N6)) (q8<|c5 0) (RH λ_ _ _ _ _=>(R8 o8 B (F4 rfl)<|c5 0))<|λ_=>n8)
   (b8 (f8 2 (IR F7 B<|c5 1) U)
   (b8 (u3 (j4 NH (d8 2)<|PD.pb BX) (c7<|f6 u4) l5)
   (b8 (f8 3 (IR F7 B<|J5 ["way"] ["along"] [2] rfl (D1 (sc:=b9 B1) (N:=N6)) (q8<|c5 1) (RH λ_ _ _ _ _=>(R8 C0 B (c5 1)<|c5 0))<|λ_=>n8) U)
   (b8 (u3 (j4 NH (d8 3)<|PD.pb BX) (c7<|f6 u4) l5)
   (b8 (u3 (J1<|AT (gk rfl)<|PD.pb<|J5 ["way"] ["upright"] [3] rfl (D1 (sc:=b9 B1) (N:=N6)) (q8<|c5 1) (RH λ_ _ _ _ _=>(oP (Y3 hu) (PD.pb<|R8 x8 B (c5 1)<|c5 0) gT))<|λ_=>n8) (c7<|f6 u4) l5)
   (c7<|f6 u4))))))))
 replace h:=oU h;let{Y,rfl,h}:=h;split at h
 .rename_i J n;rw[t6 n];split at h
  .rename_i hz;rw[<-h];let{ag,I}:=hz;match J,ag with
   |p::s,_=>
   obtain⟨a,f⟩:∃a,(p::s).map vd=a:={_,rfl};have i0:Q1 (.lst a) (.int 0)=.ok (vd p):=L0 (by rw[X0 (by symm),<-f];rfl);have L:u6 (λd e=>R.ok (aCI e 0<|Sl.v d)) (λx=>R.ok true) (λe=>(((cM 1 e).bind λx=>Q1 x (D.int 0)).bind λd=>((G9 0 e).bind λd=>R.ok [d]).bind λy=>R.ok (d::y)).bind l4) [.no,.v (.lst a)] a=.ok (((p::s).map (· -p)).map vd):=by rw[aBx];rw[show u6 _ _ _ _ a=u6 _ _ _ _ ((p::s).map vd)by rw[f]];show K5 vd _ _ λq o=>{[.v (vd q),Sl.v (.lst a)],rfl,?_};change((Q1 (.lst a)<|.int 0).bind _).bind _=_;rw[i0];rfl
   have n:∀w∈(p::s).map (· -p),Sz 1001 w:=λw n=>by let{q,o,rfl}:=aAo.mp n;show(I.1 q o).sub (I.1 p (.head _))
   have O:(((p::s).map (· -p)).map vd).length<=sizeLine:=by rw[aAh,aAh];show small I.2
   have Q:a.length<=sizeLine:=by rw[<-f,aAh];show small I.2
   have l:((a.length:Int)==0)=false:=by rw[<-f];simp;lia
   have z:=DA ((p::s).map (· -p));unfold G.U0;dsimp only;rw[f];generalize(p::s).map (· -p)=W at*
   have r:=λu=>DA (W.map<|G.cr u);cases ha:G.z8 W with
   |none=>rw[ha]at z;simp[j3,f9,Q,l,L,z,DY,QE]
   |some t=>
    rw[ha]at z;let{hm,_}:=G.u8 ha;have C:=n t hm;have E:u6 (λd e=>R.ok (aCI e 0<|Sl.v d)) (λx=>R.ok true) (λe=>((G9 1 e).bind λd=>((G9 0 e).bind λd=>R.ok [d]).bind λy=>R.ok (d::y)).bind u5) [.no,.v (vd t)] (W.map vd)=.ok ((W.map<|G.cr t).map vd):=by rw[aBx];show K5 vd _ _ λq o=>{[.v (vd q),Sl.v (vd t)],rfl,?_};change u5 [vd t,vd q]=_;show X1 C.mono (n q o).mono
    have r:=DA (W.map<|G.cr t);have eW:(W.map vd).length=W.length:=aAh ..;rw[eW]at O;cases H:G.z8 (W.map<|G.cr t)with
    |none=>rw[H]at r;erw[aBx]at E r;erw[H];simp[j3,f9,Q,l,L,z,DY,QE,O,E,r]
    |some m=>
     rw[H]at r;let{ml,_}:=G.u8 H;have sup:Sz 2003 m:=by let{q,o,rfl}:=aAo.mp ml;show(C.cr<|n q o).mono
     have c3:u6 (λd e=>R.ok (aCI e 0<|Sl.v d)) (λx=>R.ok true) (λe=>(((G9 1 e).bind λd=>((G9 0 e).bind λd=>R.ok [d]).bind λy=>R.ok (d::y)).bind i8).bind λx=>IK x (D.int 0)) [.no,.v (vd m)] (W.map vd)=.ok ((W.map λw=>decide (G.c6 m w≠0)).map D.bl):=by rw[aBx];show K5 vd _ _ λq o=>{[.v (vd q),Sl.v (vd m)],rfl,?_};change(i8 [vd m,vd q]).bind _=_;rw[bE sup.mono (n q o).mono,R.aa0,wU];congr 2;rw[aCU];simp
     have A:=gx (W.map λw=>decide (G.c6 m w≠0));have ean:(W.map λw=>decide (G.c6 m w≠0)).any id=W.any λw=>decide (G.c6 m w≠0):=by rw[List.any_map];rfl
     rw[ean]at A;erw[aBx]at E r c3 A;erw[H];generalize(λw=>decide (G.c6 m w≠0))=Bf at*
     cases hc:W.any Bf with
     |false=>rw[hc]at A;simp[j3,f9,Q,l,L,z,DY,QE,O,E,r,c3,A]
     |true=>rw[hc]at A;simp[j3,f9,Q,l,L,z,DY,QE,O,E,r,c3,A]
  cases h
 cases h
def Z1(E9:v5 P w K mg base 2 "dimension_of" 1 D7)(g:dU K mg "refuse_flat" Y8):v5 P w K mg base 3 "refuse_flat" 1 G8:=by
 refine' m8 (k:=2) (F:=_) g pB (λf p q r=>?b) λs d t h=>?_
 case b=>refine' (c7<|u3 (j4 FD (PD.pb<|IR E9 f<|c5 0) gT) (c7 kS) l5)
 replace h:=oU h;let{Y,rfl,h}:=h;split at h
 .rename_i J l;rw[t6 l];split at h
  .rename_i m;rw[<-h];let{n,a}:=m;have o:J≠[]:=λe=>by subst e;cases a
   have e:=LX o n;rw[a]at e;simp[j3,e]
  cases h
 cases h
def D8(lO:v5 P w K mg base 1 "side_of" 2 aG)(g:dU K mg "points_on" Y5):v5 P w K mg base 2 "points_on" 2 y3:=by
 refine' m8 (k:=1) (F:=_) g vT (λm n q r=>?b) λf d s h=>?_
 case b=>refine' (c7<|f6<|J5 ["P"] ["plane"] [0] rfl (D1 (sc:=b9 Y5) (N:=mK)) (q8<|c5 1) (gz λ_ _ _ _ _=>{(j4 (S7 n) (PD.pb<|R8 lO m (c5 1)<|c5 0) gT),(c5 0)})<|λ_=>n8)
 replace h:=RD h;let{a,b,c,d,f,rfl,h}:=h;replace h:=qI h;let{Y,f,rfl,h}:=h;replace h:=A8 h;let{rfl,h}:=h
 skip
 split at h
 .rename_i J o;rw[t6 o];split at h
  .rename_i l;rw[<-h];have e:=L4 vd (G:=λd ρ=>R.ok (aCI ρ 0<|Sl.v d)) (ft:=λρ=>((((G9 1 ρ).bind λd=>((G9 0 ρ).bind λd=>R.ok [d]).bind λf=>R.ok (d::f)).bind aG).bind λx=>SL x (D.int 0)).bind xH) (fe:=G9 0) (ρ:=[.no,.v (.tup [D.int a,D.int b,D.int c,D.int d])])
    (λX=>decide (G.c6 {a,b,c} X=d)) vd J λP p=>{[.v (vd P),Sl.v (D.tup [D.int a,D.int b,D.int c,D.int d])],rfl,by simp[UX l.1.mono (l.2.1 P p).mono,a3a,G.c6];show decide_eq_decide.mpr (by lia),λ_=>rfl}
   simp[j3,f9,small l.2.2,e];rfl
  cases h
 cases h
def J0(o8:v5 P w K mg base 1 "way_between" 2 l4)(x8:v5 P w K mg base 1 "product_of" 2 i8)(C0:v5 P w K mg base 1 "cross_of" 2 u5)(S1:v5 P w K mg base 2 "plane_through" 3 R5)(eh:OO K mg "NO_WAY" [0,0,0])(g:dU K mg "plane_about" Z3):v5 P w K mg base 3 "plane_about" 2 C9:=by
 refine' m8 (k:=2) (F:=_) g pZ (λs hu fb q=>?b) λL d hl h=>?_
 case b=>
  refine' (b8 (f8 2 (R8 o8 s (F4 rfl)<|F4 rfl) q)
   (b8 (f8 3 (wR eh) q)
   (b8 (f8 4 (F4 rfl) q)
   (b8 (C3 aAL rfl (q8<|c5 1) (l7 5 q) (b8 (f8 6 (R8 o8 s (F4 rfl)<|c5 5) q)
   (c7 (u3 (uH.pt<|eN (j4 (S7 hu) (d8 3)<|PD.pb<|wR eh)<|bS<|j4 pH (PD.pb<|R8 x8 s (c5 3)<|c5 6) gT) (b8 (f8 3 (R8 C0 s (c5 2)<|c5 6) q)
   (c7<|f8 4 (c5 5) q)) l5))))
   (c7<|f6<|pc3 S1 s (F4 rfl) (F4 rfl)<|c5 4)))))
 replace h:=vM h;let{ys,L,rfl,h}:=h;replace h:=qI h;let{Y,L,rfl,h}:=h;replace h:=A8 h;let{rfl,h}:=h;replace h:=B7 h;let{a,b,c,ys,rfl,h}:=h;replace h:=B7 h;let{d,e,f,ys,rfl,h}:=h;replace h:=A8 h;let{rfl,h}:=h
 skip
 split at h
 .rename_i J hw;rw[t6 hw];split at h
  .rename_i hz;rw[<-h];let{r,E,hs,N}:=hz;have vA:(.tup [.int a,.int b,.int c]:D)=vd ⟨a,b,c⟩:=rfl;have vB:(.tup [.int d,.int e,.int f]:D)=vd ⟨d,e,f⟩:=rfl;rw[vA,vB];generalize({a,b,c}:G.V)=A at*
   generalize({d,e,f}:G.V)=B at*
   simp[j3];have z0:(.tup [.int 0,.int 0,.int 0]:D)=vd 0:=rfl;rw[z0];show dS (λrest O=>∃(m l:G.V) (n:List G.V) (x y:Sl),O=[.v (.tup [vd A,vd B]),.v (.lst (aCt vd J)),.v (vd<|B-A),.v (vd m),.v (vd l),x,y]/\rest=n.map vd/\Sz 2003 m/\Sz 1000 l/\(∀X∈n,Sz 1000 X)/\G.D4 (B-A) A n m l=G.D4 (B-A) A J 0 A) ?_ {0,A,J,_,_,rfl,rfl,{by symm,by symm,by symm},r,hs.1,rfl} ?_
   .rintro d L O ⟨m,l,n,x,y,rfl,t,Q,T,sq,o⟩;match n,t with
    |P::n,t=>
     injection t with e3 e4;subst e3 e4;have U:=sq P (.head _);have H:=U.sub r;have e0:=eq0 m;rw[show(.tup [.int 0,.int 0,.int 0]:D)=vd 0 from rfl]at e0;have c1:=X1 (u:=B-A) (v:=P-A) (E.sub r).mono H.mono;have p1:=bE (u:=m) (v:=P-A) Q.mono H.mono;have w1:=DT A P;have i0:Q1 (.tup [vd A,vd B]) (.int 0)=.ok (vd A):=rfl
     conv at o=>lhs;unfold G.D4
     erw[X3,aBJ,aBK,qL,HB,jX,cE,R.aa0,i0,w1,y9,e0,FC,p1,wH];by_cases I:m=0
     .rw[jk (.inl I)]at o;show{_,?_,G.cr (B-A) (P-A),P,n,.v (vd P),.v (vd<|P-A),rfl,rfl,(((E.sub r).cr H).mono),U,λX C=>sq X (.tail _ C),o};rw[kd I];erw[if_true,R.aa0,c1,y9,aBJ,aBK,jX,cE]
     rw[kc I];by_cases p:0<G.c6 m (P-A)
     .rw[jk (.inr p)]at o;show{_,?_,G.cr (B-A) (P-A),P,n,.v (vd P),.v (vd<|P-A),rfl,rfl,(((E.sub r).cr H).mono),U,λX C=>sq X (.tail _ C),o};rw[kd p];erw[if_true,aAF,if_false,R.aa0,c1,y9,aBJ,aBK,jX,cE]
     rw[jl (λz=>z.elim I p)]at o;show{_,?_,m,l,n,.v (vd P),.v (vd<|P-A),rfl,rfl,Q,T,λX C=>sq X (.tail _ C),o};rw[kc p];erw[aAF,if_false,R.aa0]
   rintro O ⟨m,l,n,x,y,rfl,t,Q,T,sq,o⟩;have:n=[]:=by exists t.symm
   subst this;have o:(m,l)=G.D4 (B-A) A J 0 A:=o;have eo:(G.D4 (B-A) A J 0 A).2=l:=by rw[<-o]
   unfold G.b7 at N⊢;rw[eo]at N⊢;have pl:=MU {r,E,T} (UH N);simp[pl]
  cases h
 cases h
def bU(D8:v5 P w K mg base 2 "points_on" 2 y3)(J0:v5 P w K mg base 3 "plane_about" 2 C9)(E9:v5 P w K mg base 2 "dimension_of" 1 D7)(ko:mg "min"=none)(g:dU K mg "first_pair" bG):v5 P w K mg base 8 "first_pair" 1 M7:=by
 refine' m8 (k:=7) (F:=_) g rK (λf A fb p=>?b) λds d hl h=>?_
 case b=>
  have B:=f.ad7 (by symm);refine' (b8 (f8 1 (V8 (HL rfl B)<|o6 (d8 0) w8) p)
   (b8 (f8 2 (F4 rfl) p)
   (b8 (f8 3 (R8 D8 f (R8 J0 f (c5 2)<|c5 0)<|c5 0) p)
   (b8 (u3 (j4 (S7 A) (PD.pb<|IR E9 f<|c5 3) gT) (c7<|f6<|c5 2) l5)
   (c7<|f6<|F4 rfl)))))
 replace h:=oU h;let{Y,rfl,h}:=h;split at h
 .rename_i m J C;rw[t6 C];split at h
  .rename_i a;rw[<-h];have v:=bz a.good.ord;have l:U4 1000 (m::J):=a.sz.mono;have o:Sz 900 m:=a.sz.1 m (.head _);let{E,H,I,N,O}:=G.xW a.good.solid a.good.mem a.good.least;have q:=W8 o.mono (NZ o) l E;have s:=yC o.mono (NZ o) l;rw[xw]at q;have z:=iT (d:=(G.b7 m (m+G.kk) (m::J)).2) s.mono l;let{x,y,r,e}:=OJ H N O;have Q:=MG (n:=(G.b7 m (m+G.kk) (m::J)).1) (d:=(G.b7 m (m+G.kk) (m::J)).2) l;have t:=LX (J:=G.y6 (G.b7 m (m+G.kk) (m::J)).1 (G.b7 m (m+G.kk) (m::J)).2 (m::J)) (by rw[e];simp) Q;have T:Q1 (.lst ((G.y6 (G.b7 m (m+G.kk) (m::J)).1 (G.b7 m (m+G.kk) (m::J)).2 (m::J)).map vd)) (.int 0)=.ok (vd x):=L0 (by rw[e];show yz _ _);have U:Q1 (.lst ((G.y6 (G.b7 m (m+G.kk) (m::J)).1 (G.b7 m (m+G.kk) (m::J)).2 (m::J)).map vd)) (.int 1)=.ok (vd y):=L0 (by rw[e];show xj _ _ _);unfold G.d7;dsimp only;by_cases u:G.U0 (G.y6 (G.b7 m (m+G.kk) (m::J)).1 (G.b7 m (m+G.kk) (m::J)).2 (m::J))=2
   .rw[jk u];rw[u]at t;generalize(m::J).map vd=L at*
    generalize(G.y6 (G.b7 m (m+G.kk) (m::J)).1 (G.b7 m (m+G.kk) (m::J)).2 (m::J)).map vd=L2 at*
    generalize(G.b7 m (m+G.kk) (m::J)).1=pn at*
    generalize(G.b7 m (m+G.kk) (m::J)).2=pm at*
    simp[j3,v,q,z,t,G.kk]
   rw[jl u];have e0:(G.y6 (G.b7 m (m+G.kk) (m::J)).1 (G.b7 m (m+G.kk) (m::J)).2 (m::J)).getD 0 0=x:=by rw[e];rfl
   have e1:(G.y6 (G.b7 m (m+G.kk) (m::J)).1 (G.b7 m (m+G.kk) (m::J)).2 (m::J)).getD 1 0=y:=by rw[e];rfl
   rw[e0,e1];have hb:((G.U0 (G.y6 (G.b7 m (m+G.kk) (m::J)).1 (G.b7 m (m+G.kk) (m::J)).2 (m::J)):Int)==2)=false:=by rw[beq_eq_false_iff_ne];lia
   generalize(m::J).map vd=L at*
   generalize(G.y6 (G.b7 m (m+G.kk) (m::J)).1 (G.b7 m (m+G.kk) (m::J)).2 (m::J)).map vd=L2 at*
   generalize(G.U0 (G.y6 (G.b7 m (m+G.kk) (m::J)).1 (G.b7 m (m+G.kk) (m::J)).2 (m::J)):Int)=dd at*
   generalize(G.b7 m (m+G.kk) (m::J)).1=pn at*
   generalize(G.b7 m (m+G.kk) (m::J)).2=pm at*
   simp[j3,v,q,z,t,hb,T,U]
  cases h
 cases h
def kH(x8:v5 P w K mg base 1 "product_of" 2 i8)(C0:v5 P w K mg base 1 "cross_of" 2 u5)(o8:v5 P w K mg base 1 "way_between" 2 l4)(g:dU K mg "turn_of" lN):v5 P w K mg base 2 "turn_of" 4 eU:=by
 refine' m8 (k:=1) (F:=_) g CL (λm A B C=>?b) λn d E h=>?_
 case b=>refine' (c7<|f6<|R8 x8 m (c5 0)<|R8 C0 m (R8 o8 m (c5 1)<|c5 2)<|R8 o8 m (c5 2)<|c5 3)
 replace h:=B7 h;let{a,b,c,n,rfl,h}:=h;replace h:=B7 h;let{d,e,f,n,rfl,h}:=h;replace h:=B7 h;let{g,o,i,n,rfl,h}:=h;replace h:=B7 h;let{j,k,l,n,rfl,h}:=h;replace h:=A8 h;let{rfl,h}:=h
 skip
 split at h
 .rename_i y;let{p,q,r,s}:=y;rw[<-h];have t:=X1 (u:={g,o,i}-{d,e,f}) (v:={j,k,l}-{g,o,i}) (r.sub q).mono (s.sub r).mono;have x:=bE (u:={a,b,c}) (v:=G.cr ({g,o,i}-{d,e,f}) ({j,k,l}-{g,o,i})) p.mono ((r.sub q).cr (s.sub r)).mono;erw[vd,G.XU,G.XA,G.YL,G.a3g,G.a3f,G.a2s]at t x;have z:∀a b c d e f:Int,l4 [.tup [.int a,.int b,.int c],.tup [.int d,.int e,.int f]]=.ok (.tup [.int (d-a),.int (e-b),.int (f-c)]):=λ_ _ _ _ _ _=>rfl;simp[j3,z,t,x,G.turn,G.f7]
 cases h
def U3(kH:v5 P w K mg base 2 "turn_of" 4 eU)(br:mg "len"=none)(g:dU K mg "left_chain" bM):v5 P w K mg base 3 "left_chain" 2 T8:=by
 refine' m8 (k:=2) (F:=_) g rE (λhr hu fb U=>?b) λp d N h=>?_
 case b=>
  refine' (b8 (iE 2 (pR o9) U)
   (b8 (C3 aAL rfl (q8<|c5 1) (l7 3 U) (b8 (fA (λ_=>1001) aAL (uH.pt<|iJ (j4 pH (PD.pb<|AT N2<|d8 2) gT)<|dJ<|j4 XV (PD.pb<|pc4 kH hr (c5 0) (yY (d8 2)<|pI u4) (yY (d8 2)<|pI u4)<|c5 3) gT)<|c7<|VP 2)
   (c7<|bW 2<|c5 3)))
   (c7<|HE 2<|f6<|c5 2)))
 replace h:=B7 h;let{a,b,c,p,rfl,h}:=h;replace h:=qI h;let{Y,p,rfl,h}:=h;replace h:=A8 h;let{rfl,h}:=h
 skip
 split at h
 .rename_i J hw;rw[t6 hw];split at h
  .rename_i O;rw[<-h];let{sn,hs}:=O;have vn:(.tup [.int a,.int b,.int c]:D)=vd ⟨a,b,c⟩:=rfl;rw[vn];generalize({a,b,c}:G.V)=n at*
   simp[j3];show dS (λrest ρ=>∃(c l:List G.V) (x:Sl),ρ=[.v (vd n),.v (.lst (aCt vd J)),.o (c.reverse.map vd),x]/\rest=l.map vd/\(∀X∈c,Sz 1000 X)/\(∀X∈l,Sz 1000 X)/\c.length+l.length<=1000/\l.foldl (λc P=>P::G.X5 n P c) c=G.w5 n J) ?_ {[],J,_,rfl,rfl,λX q=>by(cases q),hs.1,by simpa using hs.2,rfl} ?_
   .rintro d p ρ ⟨c,l,x,rfl,y,sc,sq,N,A⟩;match l,y with
    |P::l,y=>
     injection y with e3 e4;subst e3 e4;have Q:=sq P (.head _);erw[aAt]at N;erw[X3,aBJ,aBK];show Exists.elim (qQ (n:=1001) (ρ:=[.v (vd n),.v (.lst (aCt vd J)),.o (c.reverse.map vd),.v (vd P)]) (Post:=λρ=>∃e,ρ=[.v (vd n),.v (.lst (aCt vd J)),.o (e.reverse.map vd),.v (vd P)]/\(∀X∈e,Sz 1000 X)/\e.length<=c.length/\e=G.X5 n P c)
      (c:=ED (λρ=>((((cM 2 ρ).bind λd=>R.ok [d]).bind BQ).bind λx=>lq x (D.int 1)).bind xH) λρ=>((((G9 0 ρ).bind λd=>(((cM 2 ρ).bind λx=>Q1 x (D.int (-2))).bind λd=>(((cM 2 ρ).bind λx=>Q1 x (D.int (-1))).bind λd=>((G9 3 ρ).bind λd=>R.ok [d]).bind λp=>R.ok (d::p)).bind λp=>R.ok (d::p)).bind λp=>R.ok (d::p)).bind eU).bind λx=>tq x (D.int 0)).bind xH) (F:=λρ=>(CH 2 ρ).bind λz=>R.ok (Out.nx z.snd))
      (λm ρ=>∃e,ρ=[.v (vd n),.v (.lst (aCt vd J)),.o (e.reverse.map vd),.v (vd P)]/\(∀X∈e,Sz 1000 X)/\e.length<=c.length/\e.length<m/\G.X5 n P e=G.X5 n P c) ?_ (by rintro ρ ⟨e,_,_,_,h,_⟩;lia) {c,rfl,sc,aAj _,by lia,rfl} ?_) ?_
     .rintro m ρ ⟨e,rfl,sub,s,t,f⟩;match e,sub,s,t,f with
      |[],_,_,_,_=>show .inl (by simp)
      |[a],_,_,_,_=>show .inl (by simp)
      |b::a::r,sub,s,t,f=>
       have u:(b::a::r).reverse.map vd=r.reverse.map vd++[vd a,vd b]:=by simp
       have C:Q1 (.lst ((b::a::r).reverse.map vd)) (.int (-1))=.ok (vd b):=L0 (by rw[u];show YF _ _ _);have E:Q1 (.lst ((b::a::r).reverse.map vd)) (.int (-2))=.ok (vd a):=L0 (by rw[u];show XN _ _ _);have H:=GT sn (sub a<|.tail _ (.head _)) (sub b<|.head _) Q;have I:(1:Int)<(aCt vd (b::a::r).reverse).length:=by rw[aAh,aCD];simp;lia
       by_cases T:G.turn n a b P<=0
       .show .inr {?_,[.v (vd n),.v (.lst (aCt vd J)),.o ((a::r).reverse.map vd),.v (vd P)],?_,a::r,rfl,λX q=>sub X (.tail _ q),?_,?_,?_}
        .erw[vG,qL,EF,R.aa0,oM,wH,kd I,FC,if_true,cE,jX,C,E,H,xG,kd T]
        .change(match(aCt vd (b::a::r).reverse)[(aCt vd (b::a::r).reverse).length-1]? with|some d=>_|none=>_:R (D×Ev)).bind _=_;rw[u];simp
        .erw[aAt]at s⊢;lia
        .erw[aAt]at t⊢;lia
        rw[<-f]
        conv=>rhs;unfold G.X5
        rw[jk T]
       show .inl ?_;erw[vG,qL,EF,R.aa0,oM,wH,kd I,FC,if_true,cE,jX,C,E,H,xG,kc T]
     .rintro m ρ ⟨e,rfl,sub,s,t,f⟩ L;show{e,rfl,sub,s,?_};match e,sub,s,t,f,L with
      |[],_,_,_,f,_=>show f
      |[a],_,_,_,f,_=>show f
      |b::a::r,sub,s,t,f,L=>
       have u:(b::a::r).reverse.map vd=r.reverse.map vd++[vd a,vd b]:=by simp
       have C:Q1 (.lst ((b::a::r).reverse.map vd)) (.int (-1))=.ok (vd b):=L0 (by rw[u];show YF _ _ _);have E:Q1 (.lst ((b::a::r).reverse.map vd)) (.int (-2))=.ok (vd a):=L0 (by rw[u];show XN _ _ _);have H:=GT sn (sub a<|.tail _ (.head _)) (sub b<|.head _) Q;have I:(1:Int)<(aCt vd (b::a::r).reverse).length:=by rw[aAh,aCD];simp;lia
       erw[vG,qL,EF,R.aa0,oM,wH,kd I,FC,if_true,cE,jX,C,E,H,xG,LS,decide_eq_false_iff_not]at L;rw[<-f]
       conv=>rhs;unfold G.X5
       rw[jl L]
     rintro ρ2 ⟨ew,e,rfl,sub,s,B⟩;show{[.v (vd n),.v (.lst (aCt vd J)),.o ((P::e).reverse.map vd),.v (vd P)],?_,P::e,l,_,rfl,rfl,?_,λX q=>sq X (.tail _ q),?_,?_}
     .rw[ew];have O:(aCt vd e.reverse).length<sizeLine:=by rw[aAh,aCD];show aBT (show e.length<=1000 by lia) (by symm)
      erw[y9,jX,cE,R.aa0];change(if(aCt vd e.reverse).length<sizeLine then _ else _)=_;rw[jk O];simp
     .intro X q;rcases aAg.mp q with rfl|q
      .show Q
      show sub X q
     .simp;lia
     rw[<-A,aDn,B]
   rintro ρ ⟨c,l,x,rfl,y,sc,sq,N,A⟩;have:l=[]:=by exists y.symm
   subst this;have A:c=G.w5 n J:=A;subst A;simp[TZ]
  cases h
 cases h
end
section
variable [Tabs]
variable{P:bo}{w:cq}{K:km}{mg:fD}{base:cy}
def jY(U3:v5 P w K mg base 3 "left_chain" 2 T8)(A:mg "list"=none)(B:mg "reversed"=none)(g:dU K mg "ring_of" lS):v5 P w K mg base 4 "ring_of" 2 N9:=by
 refine' m8 (k:=3) (F:=_) g BP (λm C E o=>?b) λp d H h=>?_
 case b=>
  refine' (b8 (f8 2 (R8 U3 m (c5 0)<|c5 1) o)
   (b8 (f8 3 (R8 U3 m (c5 0)<|PF.pd<|DI (d8 1) rfl) o)
   (c7<|f6<|W6 dW (PD.pb<|sS (d8 2) cN<|W3<|pI u4)<|PD.pb<|sS (d8 3) cN<|W3<|pI u4)))
 replace h:=B7 h;let{a,b,c,p,rfl,h}:=h;replace h:=qI h;let{Y,p,rfl,h}:=h;replace h:=A8 h;let{rfl,h}:=h
 skip
 split at h
 .rename_i J s;rw[t6 s];split at h
  .rename_i t;rw[<-h];let{q,e}:=t;have u:(.tup [.int a,.int b,.int c]:D)=vd ⟨a,b,c⟩:=rfl;rw[u];generalize({a,b,c}:G.V)=n at*
   have v:=XS q e;have f:U4 1000 J.reverse:=e.sub (λP x=>by exists x) (by simp);have r:=XS q f;rw[aFl (l:=J)]at r;have I:=uC n J;have y:=uC n J.reverse;rw[aCD]at y;have z:iS (.lst ((G.w5 n J).reverse.map vd).dropLast) (.lst ((G.w5 n J.reverse).reverse.map vd).dropLast)=.ok (.lst ((G.k9 n J).map vd)):=by rw[FW (by erw[List.length_dropLast,aAh,aCD];show aAk (show _<=2000 by have:=e.2;lia) (by symm))];unfold G.k9;rw[aBP,List.map_dropLast,List.map_dropLast]
   simp[-aFl,j3,v,r,VH,z,xz]
  cases h
 cases h
def Z4(n:mg "list"=none)(a:mg "zip"=none)(g:dU K mg "pairs_round" aD):v5 P w K mg base 1 "pairs_round" 1 A4:=by
 refine' m8 (k:=0) (F:=_) g oV (λo p q r=>?b) λs d t h=>?_
 case b=>refine' (c7<|f6<|PF.pd<|CM (d8 0) (PD.pb<|W6 dW (PD.pb<|sS (d8 0) (W3 u4) cN)<|PD.pb<|sS (d8 0) cN<|W3 u4) rfl)
 replace h:=oU h;let{Y,rfl,h}:=h;split at h
 .rename_i J l;rw[t6 l];split at h
  .rename_i u;rw[<-h];have m:iS (.lst (J.map vd).tail) (.lst ((J.map vd).take 1))=.ok (.lst ((J.tail++J.take 1).map vd)):=by rw[FW (by erw[List.length_tail,aBh,aAh];show ZC (by lia))];rw[aBP,List.map_tail,aGb]
   have e:(J.map vd).length=((J.tail++J.take 1).map vd).length:=by
    erw[aAh,aAM,List.length_tail,aBh]
    lia
   have f:IG [.lst (J.map vd),.lst ((J.tail++J.take 1).map vd)]=.ok ((G.U8 J).map F3):=by change(if _ then _ else _)=_;rw[jk e,sD (β:=Unit)];rfl
   simp[-aBP,-List.map_tail,-aGb,j3,WR,nk,m,f]
  cases h
 cases h
def bZ(J0:v5 P w K mg base 3 "plane_about" 2 C9)(jY:v5 P w K mg base 4 "ring_of" 2 N9)(Z4:v5 P w K mg base 1 "pairs_round" 1 A4)(C:mg "len"=none)(I:mg "sorted"=none)(g:dU K mg "faces_from" bI):VI P w K mg base 8 3 "faces_from" F8:=by
 let{f,N,r,n}:=g;refine' VA (k:=7) (F:=_) n fN rfl (n.binds λ_ _ _ _ _ _ O t=>by let{_,_,_,rfl}:=a2o t;rfl) r (λL A e s H E a=>?hb) ?hm
 case hb=>
  have Q:=a.units;have o:=a.af1;have u:=a.ad7 (by symm);have b:=fN.nd;refine' (b8 (iE 3 (pR o9) b)
   (b8 (xR 4 b)
   (b8 (iE 5 (pR<|i7 (c5 0) o9) b)
   (b8 (fA (λ_=>5000) aAL (j4 pH (PD.pb<|AT N2<|d8 5) gT) (b8 (DB 6 5 b)
   (c7 (u3 (KU 4 (c5 6) o) (b8 (f8 7 (R8 J0 a (c5 6) (AC 1 (k:=3) (Φ:=LI P w K mg base 3 1) rfl (i7 (F4 rfl) o9) (A0 aM) (a.mono (by symm)))) b)
   (b8 (f8 8 (R8 jY a (sS (d8 7) cN<|W3 u4) (AC 2 (k:=3) (Φ:=LI P w K mg base 3 1) rfl (i7 (c5 7) o9) (A0 aM) (a.mono (by symm)))) b)
   (b8 (bW 3<|F4 rfl)
   (c7 (C3 aAL rfl (q8<|IR Z4 a<|c5 8) (l7 9 b) (b8 (gO 4 aO (c5 9) o)
   (c7<|bW 5<|F4 rfl))))))) l5))))
   (c7<|f6<|PF.pd<|BK (d8 3) rfl u)))))
 case hm=>
  intro d T U d' h;erw[F8]at h;split at h
  .rename_i Y v;split at h
   .rename_i m J x;split at h
    .rename_i l;rw[<-h];let{l,y,z,p,q}:=l;rw[t6 x]at p q;subst z p q;have B:(1:Nat)<=sizeLine:=by decide
     erw[lQ,cE,pF,wE,R.aa0,aAt,aCj,aDI,B,if_true,y9];show qz (Φ:=LI P w K mg base 3 1) l y
    cases h
   cases h
  cases h
def tR:Nst:={"about",HK,D3 cR,q9 cR,b9 cR,GF cR,["corner"],[],["spread"],[1],(λa=>(G9 1 a).bind λd=>.ok (.rt d)),I9,2}
def dN:Nst:={"touched_by",iL,D3 G4,q9 G4,b9 G4,GF G4,["plane"],[],["spread"],[1],(λa=>((p5 (G9 0) (p5 (G9 1) N8) a).bind y3).bind λd=>.ok (.rt d)),B8,3}
def IQ{f:bb}{L:av}{A:cp}{a:List Env}{s:a9}{H:Hp}{E:XK}:NstOk (SE P w K mg base gJ "faces_of" (b9 J8) f L A a s H E) 2 tR where
 sc:={rfl,rfl,rfl,by decide+kernel,by decide+kernel,by decide+kernel,λx h=>GH h,by decide+kernel}
 one:=rfl
 body:=λp k b A a s H l=>by have q:=l.units;show(c7<|f6<|c5 1)
 mm:=by intro r t d e g h;let{_,rfl}:=aBM.mp e;let{_,rfl}:=aBM.mp g;cases h;rfl
 bind:=λb m u k n v o=>by let{_,rfl}:=aBM.mp o;rfl
 len:=rfl
 at_:=λi j x e g=>by
  cases i with
  |zero=>obtain rfl:1=j:=aAq e;obtain rfl:("spread":Str)=x:=aAq g;show{rfl,rfl}
  |succ i=>show nomatch(show(none:Option Nat)=some j from e)
 d0:=rfl
 k0:=rfl
 nm:=rfl
 lc:=.inl rfl
 st:=.inl rfl
 dbg:=by decide
 cdt:=by decide
def pN(D8:v5 P w K mg base 2 "points_on" 2 y3){f:bb}{L:av}{A:cp}{a:List Env}{s:a9}{H:Hp}{E:XK}:NstOk (SE P w K mg base gJ "faces_of" (b9 J8) f L A a s H E) 2 dN where
 sc:={rfl,rfl,rfl,by decide+kernel,by decide+kernel,by decide+kernel,λx h=>GH h,by decide+kernel}
 one:=rfl
 body:=λr m b A a s H l=>by have t:=l.units;show(c7<|f6<|R8 D8 l (c5 0)<|c5 1)
 mm:=by intro u y d g k h;let{w,rfl}:=aBM.mp g;let{p,rfl}:=aBM.mp k;have h:y3 [p,w]=.ok d:=h;change J9 (((p5 (G9 0) (p5 (G9 1) N8) [.v p,.v w]).bind y3).bind λd=>.ok (.rt d))=.ok d;have e:p5 (G9 0) (p5 (G9 1) N8) [.v p,.v w]=.ok [p,w]:=rfl;rw[e,R.aa0,h];rfl
 bind:=λb n z m o B q=>by let{_,rfl}:=aBM.mp q;rfl
 len:=rfl
 at_:=λi j x g k=>by
  cases i with
  |zero=>obtain rfl:1=j:=aAq g;obtain rfl:("spread":Str)=x:=aAq k;show{rfl,rfl}
  |succ i=>show nomatch(show(none:Option Nat)=some j from g)
 d0:=rfl
 k0:=rfl
 nm:=rfl
 lc:=.inl rfl
 st:=.inl rfl
 dbg:=by decide
 cdt:=by decide
def bF{t:bb}(D8:v5 P w K mg base 2 "points_on" 2 y3)(Z1:v5 P w K mg base 3 "refuse_flat" 1 G8)(bU:v5 P w K mg base 8 "first_pair" 1 M7)(bZ:VI P w K mg base 8 3 "faces_from" F8)(bg:mg "sorted"=none)(ku:mg "set"=none)(T:iO mg base)(l:(t,tbK)∈Tabs.tbs)(g:a0u K mg "faces_of" J8 t):v5 P w K mg base 9 "faces_of" 1 bP:=by
 let{f,fd,cd,U,hK,u}:=g;refine' SU (k:=8) (F:=_) u lY (u.fn.binds λ_ _ _ _ _ _ us y=>by let{_,rfl}:=aBM.mp y;rfl) U (λA o s H E a=>?hb) ?hm
 case hb=>
  have hu:=a.units;have fb:=a.af1;have uh:=a.ad7 (by symm);have z:=lY.nd;refine' (b8 (NT<|IR Z1 a<|c5 0)
   (b8 (f8 1 (PF.pd<|aY (d8 0) rfl uh) z)
   (DN (n1:=tR) (n2:=dN) (clos1:=[("spread",s.heap.objs.size+1)]) (clos2:=[("spread",s.heap.objs.size+1)]) (tb:=tbK) IQ (pN D8) ?co1 ?co2 ?hA T rfl hK l (by decide+kernel) (by decide+kernel) (by decide+kernel) (by decide+kernel) (by symm) z bZ (a.mono (by symm)) (IR bU a<|c5 1) (λ_=>rfl))))
  case co1=>show{rfl,rfl,rfl,λx c h=>h,λx p=>{_,by obtain rfl:x= "spread":=aBj.mp p;rfl}}
  case co2=>show{rfl,rfl,rfl,λx c h=>h,λx p=>{_,by obtain rfl:x= "spread":=aBj.mp p;rfl}}
  case hA=>show JE
 case hm=>
  intro B d y h;replace h:=oU h;let{Y,rfl,h}:=h;split at h
  .rename_i J hw;rw[t6 hw];split at h
   .rename_i hz;rw[<-h];let{C,I,N}:=hz;let{m,r,e,L}:=X9 C I (by lia);have q:=RZ (J:=J) (by lia);have fl:=TC (C.mono (n:=1000)) I;rw[e]at N q⊢;have O:=a0k L;have Q:=ck L N;obtain⟨b,eL⟩:∃b,(m::r).map vd=b:={_,rfl};rw[eL]at q O Q;change J9 (B0 ((G8 [D.lst (J.map vd)]).bind λ_=>R.ok (Out.nx [.v (.lst (J.map vd)),.no,.no,.no])) _)=_;rw[fl,R.aa0,y9];change J9 (B0 (((ssR<|.lst (J.map vd)).bind λB=>R.ok (D.lst B)).bind λd=>R.ok (Out.nx [.v (.lst (J.map vd)),.v d,.no,.no])) _)=_;rw[q,R.aa0,R.aa0,y9];change J9 (((M7 [D.lst b]).bind λd1=>(R.ok [D.lst b]).bind λw1=>(R.ok [D.lst b]).bind λw2=>F8 d1 (I9 w1) (B8 w2)).bind λd=>R.ok (Out.rt d))=_;rw[O,R.aa0,R.aa0,R.aa0,Q];rfl
   cases h
  cases h
end
section
variable [Tabs]
variable{P:bo}{w:cq}{K:km}{mg:fD}{base:cy}
def K9(q:mg "len"=none)(g:dU K mg "_law_cell" dE):v5 P w K mg base 1 "_law_cell" 2 bV:=by
 refine' m8 (k:=0) (F:=_) g vK (λr s t u=>?b) λl d v h=>?_
 case b=>
  refine' (b8 (u3 (j4 FD (d8 1)<|PD.pb<|AT N2<|d8 0) (c7<|f6<|F4 rfl) l5)
   (c7<|f6<|F4 rfl))
 match l,h with
 |[.lst Y,.int k],h=>
  erw[bV]at h;split at h
  .rename_i m;let{n,x}:=m;rw[<-h];have a:bits k<=20:=K3 (by lia) (by lia);have o:bits (6*k)<=30:=K3 (by lia) (by lia);by_cases f:k<Y.length
   .have e:Y[k.toNat]?=some Y[k.toNat]:=aAd (by lia);have p:qT Y k=some Y[k.toNat]:=by rw[X0 n,e]
    simp[j3,f,L0 p,uG,e]
   have e:Y[k.toNat]?=none:=aCc.mpr (by lia);simp[j3,f,uG,e,e9 (m6.of (show bits 6<=10 by symm) a),e9 (m6.of o a),e9 (m6.of (show bits 5<=10 by symm) a),M.AK]
  cases h
def A3(g:dU K mg "_law_way" gK):v5 P w K mg base 1 "_law_way" 2 l4:=by
 refine' m8 (k:=0) (F:=_) g AN (λf l m n=>?b) λe d o h=>?_
 case b=>refine' (c7<|f6<|F4 rfl)
 replace h:=B7 h;let{a,b,c,e,rfl,h}:=h;replace h:=B7 h;let{p,q,r,e,rfl,h}:=h;replace h:=A8 h;let{rfl,h}:=h;show h
def C4(g:dU K mg "_law_cross" bC):v5 P w K mg base 1 "_law_cross" 2 u5:=by
 refine' m8 (k:=0) (F:=_) g rH (λr s t u=>?b) λe d v h=>?_
 case b=>refine' (c7<|f6<|F4 rfl)
 replace h:=B7 h;let{a,b,c,e,rfl,h}:=h;replace h:=B7 h;let{x,y,z,e,rfl,h}:=h;replace h:=A8 h;let{rfl,h}:=h;split at h
 .rename_i q;let{{f,l,m},n,o,p}:=q;rw[<-h];simp[j3,e9 (m6.of l p),e9 (m6.of m o),e9 (m6.of m n),e9 (m6.of f p),e9 (m6.of f o),e9 (m6.of l n)]
 cases h
def o7(g:dU K mg "_law_product" W9):v5 P w K mg base 1 "_law_product" 2 i8:=by
 refine' m8 (k:=0) (F:=_) g mQ (λr s u v=>?b) λe d x h=>?_
 case b=>refine' (c7<|f6<|F4 rfl)
 replace h:=YA h;let{a,b,c,t,e,rfl,h}:=h;replace h:=B7 h;let{y,z,A,e,rfl,h}:=h;replace h:=A8 h;let{rfl,h}:=h;split at h
 .rename_i f;let{{l,m,n},o,p,q}:=f;rw[<-h];simp[j3,YH,YG,XB,e9 (m6.of l o),e9 (m6.of m p),e9 (m6.of n q)]
 cases h
def bT(bu:mg "range"=none)(cb:mg "tuple"=none)(g:dU K mg "_law_point" bD):v5 P w K mg base 1 "_law_point" 2 aW:=by
 refine' m8 (k:=0) (F:=_) g rL (λhr v fb f=>?b) λC d hl h=>?_
 case b=>
  refine' (b8 (u3 (j4 (S7 v) (d8 1) gT) (b8 (f8 2 (F4 rfl) f)
   (c7<|f6<|F4 rfl)) l5)
   (b8 (u3 (j4 (S7 v) (d8 1) gT) (b8 (f8 3 (F4 rfl) f)
   (b8 (iE 4 (pR o9) f)
   (b8 (C3 aAL rfl (U9<|o6 gT w8) (l7 5 f) (b8 (f8 3 (F4 rfl) f)
   (c7<|bW 4<|F4 rfl)))
   (c7<|f6<|aK pE<|o6 (d8 4) w8)))) l5)
   (b8 (f8 2 (yY (PD.pb<|dM<|i7 u4<|i7 u4<|i7 u4 o9)<|c5 1) f)
   (c7<|f6<|F4 rfl))))
 match C,h with
 |[.int t,.int a],h=>
  erw[aW]at h;split at h
  .rename_i r;rw[<-h];let{r,h0,h4}:=r;have y:DF (.int 10) (.int 9)=.ok (.int 1000000000):=(zT {by symm,by symm,by symm}).trans (by rfl);have n:∀{x w:Int},0<w->U1 (.int x) (.int w)=.ok (.int (x.fmod w)):=λE=>aU E;have z:∀{w:Int},0<w->bits w<=80->R9 (.int w) (.int w)=.ok (.int (w*w))/\M4 (.int t) (.int w)=.ok (.int (t.fdiv w))/\M4 (.int t) (.int (w*w))=.ok (.int (t.fdiv<|w*w))/\M4 (.int w) (.int 2)=.ok (.int (w.fdiv 2)):=λ{w} l e=>by have ww:0<w*w:=aAR l l;show{e9 (m6.of e e),V1 {by lia,n6 e},V1 {by lia,n6 (bits_mul e e)},tT (by symm) (by symm)}
   by_cases w4:a=4
   .subst w4;have H:R9 (.int t) (.int 40009)=.ok (.int (t*40009)):=e9 (m6.of r (show bits 40009<=80 by symm));have o:∀x:Int,bits (x.fmod 2147483647)<=80:=λx=>bits_fmod (by symm) (by symm);have I:R9 (.int (XM t)) (.int (XM t))=.ok (.int (XM t*XM t)):=e9 (m6.of (o _)<|o _);have J:∀s k:Int,R9 (.int (nJ s k)) (.int (nJ s k))=.ok (.int (nJ s k*nJ s k)):=λs k=>e9 (m6.of (o _)<|o _);have L:(t*40009+6007).fmod 2147483647=XM t:=rfl;have N:∀s:Int,(s*s+11).fmod 2147483647=nJ s 0:=λs=>by unfold nJ;simp
    have O:∀s:Int,(s*s+5003+11).fmod 2147483647=nJ s 1:=λs=>by unfold nJ;simp
    have Q:∀s:Int,(s*s+10006+11).fmod 2147483647=nJ s 2:=λs=>by unfold nJ;simp
    have m:∀x:Int,U1 (.int x) (.int 2147483647)=.ok (.int (x.fmod 2147483647)):=λx=>n (by symm);have T:∀x:Int,U1 (.int x) (.int 2000000011)=.ok (.int (x.fmod 2000000011)):=λx=>n (by symm);have k0:R9 (.int 5003) (.int 0)=.ok (.int 0):=(e9 (m6.of (show bits 5003<=80 by symm) (show bits 0<=80 by symm))).trans (by rfl);have U:R9 (.int 5003) (.int 1)=.ok (.int 5003):=(e9 (m6.of (show bits 5003<=80 by symm) (show bits 1<=80 by symm))).trans (by rfl);have Y:R9 (.int 5003) (.int 2)=.ok (.int 10006):=(e9 (m6.of (show bits 5003<=80 by symm) (show bits 2<=80 by symm))).trans (by rfl);simp[j3,y,H,m,T,L,N,O,Q,I,J,k0,U,Y,M0,yQ,XI,WZ,co4,vd,wG,cI,sizeLine,wD]
   by_cases A:a=3
   .subst A;have k0:R9 (.int 2) (.int 1000000000)=.ok (.int 2000000000):=(e9 (m6.of (show bits 2<=80 by symm) (show bits 1000000000<=80 by symm))).trans (by rfl);let{p,u,q,B}:=z (w:=2000000001) (by symm) (by symm);have m:∀x:Int,U1 (.int x) (.int 2000000001)=.ok (.int (x.fmod 2000000001)):=λx=>n (by symm);erw[Int.reduceMul]at p q;simp[j3,y,k0,p,u,q,m,XI,cF,dw,vd,cI,sizeLine]
   have wi:Q1 (.lst [.int 3,.int 5,.int 9]) (.int a)=.ok (.int (cF a))/\0<cF a/\bits (cF a)<=80:=by rcases(show a=0\/a=1\/a=2 by lia)with rfl|rfl|rfl<;>show{rfl,by symm,by symm}
   let{iw,l,e}:=wi;have pt:XI t a=dw t (cF a):=jl w4;rw[pt];generalize cF a=w at*
   let{p,u,q,B}:=z l e;have m:∀x:Int,U1 (.int x) (.int w)=.ok (.int (x.fmod w)):=λx=>n l;simp[j3,w4,A,iw,p,u,q,B,m,dw,vd,cI,sizeLine,wD]
  show kb h (by simp)
def aE(K9:v5 P w K mg base 1 "_law_cell" 2 bV)(bT:v5 P w K mg base 1 "_law_point" 2 aW)(bu:mg "range"=none)(jg:mg "enumerate"=none)(g:dU K mg "_law_points" G7):v5 P w K mg base 2 "_law_points" 2 fG:=by
 refine' m8 (k:=1) (F:=_) g oE (λC hu fb z=>?b) λq d hl h=>?_
 case b=>
  refine' (b8 (f8 2 (W6 dW gT<|PD.pb<|W6 DQ (PD.pb<|R8 K9 C (c5 0) u4)<|LG rfl) z)
   (b8 (sW 3 ["k"] [] [] z rfl (D1 (sc:=b9 G7) (N:=Z7)) (U9<|o6 (d8 2) w8) (RH λ_ _ _ _ _=>(F4 rfl))<|λ_=>n8)
   (b8 (C3 aAL rfl (QF<|sS (d8 0) (W3 u4)<|W3 u4) (jR (n:=2) rfl<|z7 (l7 4 z)<|z7 (l7 5 z) cW)<|c7<|IC 3 (W6 dW (PD.pb<|yY (d8 3)<|F4 rfl)<|d8 5)<|F4 rfl)
   (c7<|HE 3<|f6<|J5 ["total"] ["script"] [0] rfl (D1 (sc:=b9 G7) (N:=Z7)) (q8<|c5 3) (RH λ_ _ _ _ _=>(R8 bT C (c5 0)<|W6 DQ (PD.pb<|R8 K9 C (c5 1) u4) gT))<|λ_=>n8))))
 match q,h with
 |[.lst Y,.int e],h=>
  erw[fG]at h;split at h
  .rename_i hc;rw[<-h];let{A,hl,O,h1}:=hc;let{c0,b0}:=OB A 0 (by symm) (by symm);let{c1,b1}:=OB A 1 (by symm) (by symm);have E:=gR Y O;have Q:U1 (.int (cJ Y 0)) (.int (e-3))=.ok (.int ((cJ Y 0).fmod (e-3))):=aU (by lia);have T:bA [.int (4+(cJ Y 0).fmod (e-3))]=.ok ((aBm<|w6 Y e).map λ(k:Nat)=>D.int (k:Int)):=by rw[<-E.2.2];show sj (by lia)
   have t0:=EZ (w6 Y e) (by lia);have cm:u6 (λd f=>R.ok (aCI f 0<|Sl.v d)) (λx=>R.ok true) (λf=>(((cM 0 f).bind λy=>R9 (D.int 5) y).bind λx=>(cM 0 f).bind λy=>R9 x y).bind λx=>((cM 0 f).bind λy=>R9 (D.int 3) y).bind λy=>iS x y) [.no] ((aBm<|w6 Y e).map λ(k:Nat)=>D.int (k:Int))=.ok ((yG<|w6 Y e).map D.int):=by
    unfold yG;rw[aBx];show K5 (λ(k:Nat)=>D.int (k:Int)) _ _ λk H=>{[.v (.int k)],rfl,?_};have jn:k<w6 Y e:=by exists H
    have B:bits (k:Int)<=80:=K3 (by lia) (by lia);have m1:R9 (.int 5) (.int k)=.ok (.int (5*k)):=e9 (m6.of (show bits 5<=80 by symm) B);have m2:R9 (.int (5*(k:Int))) (.int k)=.ok (.int (5*k*k)):=e9 (m6.of (bits_mul (show bits 5<=80 by symm) B) B);have m3:R9 (.int 3) (.int k)=.ok (.int (3*k)):=e9 (m6.of (show bits 3<=80 by symm) B);simp[m1,m2,m3]
   have en:OE [.lst ((Y.take 63).drop 2)]=.ok (sM 0<|(Y.take 63).drop 2):=by rw[<-UE];rfl
   have l1:w6 Y e<=sizeLine:=aAk (show w6 Y e<=20 by lia) (by symm);have hlc:((Y.take 63).drop 2).length<=61:=by simp;lia
   have I:M2 1048576 ((Y.take 63).drop 2):=λx J=>A x (aEq<|aDz J);have U:=RQ A O h1;have q5:=qU (a:=cJ Y 1) (b:=5) (by symm);have m5:U1 (.int (cJ Y 1)) (.int 5)=.ok (.int ((cJ Y 1).fmod 5)):=aU (by symm);have cf:u6 (λd f=>R.ok (aCI f 0<|Sl.v d)) (λx=>R.ok true) (λf=>((G9 0 f).bind λd=>(((((G9 1 f).bind λd=>R.ok [d,D.int 1]).bind bV).bind λx=>U1 x (D.int 5)).bind λd=>R.ok [d]).bind λq=>R.ok (d::q)).bind aW) [.no,.v (.lst Y)] ((AD Y e).map D.int)=.ok ((gA Y e).map vd):=by unfold gA;rw[aBx];show K5 D.int _ _ λt ht=>{[.v (.int t),Sl.v (.lst Y)],rfl,?_};have:=IU (t:=t) (way:=(cJ Y 1).fmod 5) (l8 (U.2 t ht) (by symm)) q5.1 (by lia);simp[c1,m5,this]
   have l2:((AD Y e).map D.int).length<=sizeLine:=by rw[aAh,U.1];show aAk (show w6 Y e<=20 by lia) (by symm)
   have r:0<w6 Y e:=by lia
   simp only[<-E.2.2]at T Q⊢;simp-implicitDefEqProofs [j3,c0,Q,T,cm,l1,f9,ZQ,en,<-E.2.2];show dS (λq f=>∃(k:Nat) (m:List D) (ts:List Int) (a b:Sl),q=sM k m/\f=[.v (.lst Y),.v (.int e),.v (.int (w6 Y e:Int)),.o (ts.map D.int),a,b]/\xY (w6 Y e) k m ts=AD Y e/\ts.length=w6 Y e/\M2 1048576 m) ?_ {0,(Y.take 63).drop 2,yG (w6 Y e),_,_,rfl,rfl,rfl,t0.1,I} ?_
   .rintro d q f ⟨k,m,ts,a,b,p,rfl,l,L,s⟩;match m,p,l,s with
    |y::m,p,l,s=>
     let{i,rfl,hb}:=s _ (.head _);injection p with p e2;subst p e2;have H:k%w6 Y e<ts.length:=by rw[L];show aDJ _ r
     have mk:U1 (.int (k:Int)) (.int (w6 Y e:Int))=.ok (.int ((k%w6 Y e:Nat):Int)):=(aU (by lia)).trans (by rw[aDy _ (by lia)];rfl);have ix:Q1 (.lst (ts.map D.int)) (.int ((k%w6 Y e:Nat):Int))=.ok (.int (ts.getD (k%w6 Y e) 0)):=L0 (by rw[X0 (by lia),aCy,aAu,aAr,aAd H];rfl)
     have u:FG (ts.map D.int).length ((k%w6 Y e:Nat):Int)=some (k%w6 Y e):=by unfold FG;rw[jk (by lia),jk (by rw[aAh];lia),aCy]
     show{[.v (.lst Y),.v (.int e),.v (.int (w6 Y e:Int)),.o ((ts.set (k%w6 Y e)<|ts.getD (k%w6 Y e) 0+i).map D.int),.v (.int (k:Int)),.v (.int i)],?_,k+1,m,_,_,_,rfl,rfl,l,by simpa using L,λx J=>s x (.tail _ J)};clear l;rw[aAh]at u;generalize k%w6 Y e=j at*
     generalize ts.getD j 0=tj at*
     simp[L7,mJ,gQ,tE,mk,ix,ZU,u]
   rintro f ⟨k,m,ts,a,b,p,rfl,l,L,s⟩;match m,p,l with
   |[],_,l=>
    have l:ts=AD Y e:=l;subst l;have l3:(AD Y e).length<=sizeLine:=by rw[aAh]at l2;show l2
    simp[TZ,L8,l3,cf]
  show kb h (by simp)
def cA(A3:v5 P w K mg base 1 "_law_way" 2 l4)(C4:v5 P w K mg base 1 "_law_cross" 2 u5)(o7:v5 P w K mg base 1 "_law_product" 2 i8)(g:dU K mg "_law_solid" L6):v5 P w K mg base 2 "_law_solid" 1 jF:=by
 refine' m8 (k:=1) (F:=_) g rN (λB f fb l=>?b) λs d t h=>?_
 case b=>
  refine' (b8 (eF 1 ["one"] ["points"] [0] l rfl (D1 (sc:=b9 L6) (N:=bJ)) (q8<|c5 0) (RH λ_ _ _ _ _=>(R8 A3 B (F4 rfl)<|c5 0))<|λ_=>n8)
   (b8 (C3 aAL rfl (q8<|c5 1) (l7 2 l) (c7 (C3 aAL rfl (q8<|c5 1) (l7 3 l) (b8 (f8 4 (R8 C4 B (c5 2)<|c5 3) l)
   (c7<|u3 (uH.pt<|iJ (j4 (Y3 f) (d8 4)<|LG rfl)<|dJ<|j4 (Y3 f) (PD.pb<|J5 ["w"] ["crossed"] [4] rfl (D1 (sc:=b9 L6) (N:=bJ)) (q8<|c5 1) (gz λ_ _ _ _ _=>{(j4 (Y3 f) (PD.pb<|R8 o7 B (c5 1)<|c5 0) gT),(c5 0)})<|λ_=>n8)<|PD.pb<|dM o9) (c7<|f6<|c5 0) l5)))))
   (b8 (nE (F4 rfl)<|jR (n:=3) rfl<|z7 (l7 5 l)<|z7 (l7 6 l)<|z7 (l7 7 l) cW)
   (c7<|f6<|W6 dW (d8 0)<|PD.pb<|dM<|i7 (F4 rfl)<|i7 (F4 rfl)<|i7 (F4 rfl) o9))))
 replace h:=oU h;let{Y,rfl,h}:=h;split at h
 .rename_i J e1;rw[t6 e1];split at h
  .rename_i hz;rw[<-h];let{ag,C,t}:=hz;match J,ag with
   |P::ps,_=>
   have o:=WI (P:=P) (ps:=ps);have no:=YO (P:=P) (ps:=ps);obtain⟨J,hpts⟩:∃q,P::ps=q:={_,rfl};have H:Q1 (.lst (J.map vd)) (.int 0)=.ok (vd P):=L0 (by rw[X0 (by symm),<-hpts];rfl);rw[hpts]at o no C t⊢;have c1:u6 (λd e=>R.ok (aCI e 0<|Sl.v d)) (λx=>R.ok true) (λe=>(((cM 1 e).bind λx=>Q1 x (D.int 0)).bind λd=>((G9 0 e).bind λd=>R.ok [d]).bind λs=>R.ok (d::s)).bind l4) [.no,.v (.lst (J.map vd))] (J.map vd)=.ok ((J.map (· -P)).map vd):=by rw[aBx];show K5 vd _ _ λq I=>{[.v (vd q),Sl.v (.lst (J.map vd))],rfl,?_};change((Q1 (.lst (J.map vd))<|.int 0).bind _).bind _=_;rw[H];rfl
   have m:∀w∈J.map (· -P),Sz 301 w:=λw m=>by let{q,I,rfl}:=aAo.mp m;show(C q I).sub (C P (by rw[<-hpts];show .head _))
   have O:J.length<=sizeLine:=aAk t (by symm);have Q:(J.map (· -P)).length<=sizeLine:=by rw[aAh];show O
   generalize J.map (· -P)=W at*
   have c2:∀u∈W,∀v∈W,u6 (λd e=>R.ok (aCI e 0<|Sl.v d)) (λe=>((((G9 1 e).bind λd=>((G9 0 e).bind λd=>R.ok [d]).bind λs=>R.ok (d::s)).bind i8).bind λx=>IK x (D.int 0)).bind xH) (G9 0) [.no,.v (vd<|G.cr u v)] (W.map vd)=.ok ((W.filter λw=>decide (G.c6 (G.cr u v) w≠0)).map vd):=λu f v y=>by show L4 vd _ _ _ λw hW=>{[.v (vd w),Sl.v (vd<|G.cr u v)],rfl,?_,λ_=>rfl};change((i8 [vd (G.cr u v),vd w]).bind _).bind _=_;rw[bE ((m u f).cr (m v y)).mono (m w hW).mono,R.aa0,wU];change R.ok _=_;congr 1;rw[aCU];simp
   simp[j3,f9,O,c1,L8];show SW (x:=.lst (J.map vd)) vd (ZE W) (λe=>∃a b c,e=[.v (.lst (J.map vd)),.v (.lst (W.map vd)),a,b,c,.no,.no,.no]) {_,_,_,rfl} ?_ ?_ ?_
   .rintro u f e ⟨a,b,c,rfl⟩;simp[L8];show nZ vd (pk W u) (λe=>∃b c,e=[.v (.lst (J.map vd)),.v (.lst (W.map vd)),.v (vd u),b,c,.no,.no,.no]) ?_ W _ {_,_,rfl} ?_
    .rintro e ⟨b,c,rfl⟩;show{_,_,_,rfl}
    rintro v y e ⟨b,c,rfl⟩;have E:=X1 (m u f).mono (m v y).mono;have T:=c2 u f v y;have c4:((W.filter λw=>decide (G.c6 (G.cr u v) w≠0)).map vd)=((W.filter λw=>decide (G.c6 (G.cr u v) w≠0)).map vd):=rfl;have U:(!(W.filter λw=>decide (G.c6 (G.cr u v) w≠0)).isEmpty)=true↔∃w∈W,G.c6 (G.cr u v) w≠0:=by rw[Bool.not_eq_true',<-Bool.not_eq_true,List.isEmpty_iff,List.filter_eq_nil_iff];simp
    have A:=UF (W.filter λw=>decide (G.c6 (G.cr u v) w≠0));unfold pk;rw[<-U];clear U c4;generalize(W.filter λw=>decide (G.c6 (G.cr u v) w≠0))=L at*
    generalize G.cr u v=X at*
    have p:=ne0 X;by_cases r:X=0
    .show .inr {λz=>z.1 r,[.v (.lst (J.map vd)),.v (.lst (W.map vd)),.v (vd u),.v (vd v),.v (vd X),.no,.no,.no],?_,_,_,rfl};erw[r,decide_true,aDW]at p;simp[-kW,E,r,p,xH]
    erw[r,decide_false,Bool.not_false]at p;cases hL:L.isEmpty with
    |true=>rw[hL]at A;show .inr {λz=>by simp at z,[.v (.lst (J.map vd)),.v (.lst (W.map vd)),.v (vd u),.v (vd v),.v (vd X),.no,.no,.no],?_,_,_,rfl};simp[-kW,E,p,xH,L8,Q,T,A,seen]
    |false=>rw[hL]at A;show .inl {{r,rfl},?_};simp[-kW,E,p,xH,L8,Q,T,A,seen]
   .intro q;rw[o q]
   rintro q e ⟨a,b,c,rfl⟩;rw[no q];have al:(J.map vd).length+3<=sizeLine:=by rw[aAh];show aAk (Nat.add_le_add_right t 3) (by symm)
   rw[aAh]at al;have s3:3<=sizeLine:=by decide
   simp[H,HW,mJ,gQ,tE,cI,wD,iS,s3,al]
  show kb h (by simp)
 show kb h (by simp)
def Z2(g:dU K mg "_law_slants" Q0):v5 P w K mg base 1 "_law_slants" 1 U5:=by
 refine' m8 (k:=0) (F:=_) g qJ (λhr L fb q=>?b) λO d hl h=>?_
 case b=>
  refine' (b8 (f8 1 (dM<|i7 (F4 rfl)<|i7 (F4 rfl)<|i7 (F4 rfl) o9) q)
   (b8 (u3 (j4 (S7 L) (LG rfl) gT) (c7<|eF 1 ["number"] [] [] q rfl (D1 (sc:=b9 Q0) (N:=fS)) (q8<|c5 1) (RH λ_ _ _ _ _=>(F4 rfl))<|λ_=>n8) l5)
   (b8 (f8 2 (F4 rfl) q)
   (c7<|f6<|W6 dW (d8 1)<|PD.pb<|dM<|i7 (c5 2)<|i7 (F4 rfl)<|i7 (F4 rfl)<|i7 (F4 rfl) o9))))
 match O,h with
 |[.int t],h=>
  erw[U5]at h;split at h
  .rename_i Q;rw[<-h];have f:DF (.int 10) (.int 20)=.ok (.int 100000000000000000000):=(zT {by symm,by symm,by symm}).trans (by rfl);have l:R9 (.int 2) (.int 100000000000000000000)=.ok (.int 200000000000000000000):=(e9 (m6.of (show bits 2<=80 by symm) (show bits 100000000000000000000<=80 by symm))).trans (by rfl);have m:∀{x w:Int},0<w->U1 (.int x) (.int w)=.ok (.int (x.fmod w)):=λT=>aU T;have e:∀{x w:Int},0<w->bits w<=80->M4 (.int x) (.int w)=.ok (.int (x.fdiv w)):=λw0 U=>V1 {by lia,n6 U};have r:M4 (.int t) (.int 3)=.ok (.int (t.fdiv 3)):=e (by symm) (by symm);have o:M4 (.int t) (.int 21)=.ok (.int (t.fdiv 21)):=e (by symm) (by symm);have a:M4 (.int t) (.int 147)=.ok (.int (t.fdiv 147)):=e (by symm) (by symm);have s:M4 (.int t) (.int 9)=.ok (.int (t.fdiv 9)):=e (by symm) (by symm);have u:M4 (.int t) (.int 1029)=.ok (.int (t.fdiv 1029)):=e (by symm) (by symm);have v:M4 (.int (AH t)) (.int 7)=.ok (.int ((AH t).fdiv 7)):=e (by symm) (by symm);have Y:bits (t.fdiv 1029)<=3000000:=bits_fdiv Q;have y:R9 (.int (t.fdiv 1029)) (.int 271828182845904523536)=.ok (.int (t.fdiv 1029*271828182845904523536)):=e9 (m6.of Y (show bits 271828182845904523536<=80 by symm));have z:∀x:Int,U1 (.int x) (.int 7)=.ok (.int (x.fmod 7)):=λx=>m (by symm);have A:∀x:Int,U1 (.int x) (.int 3)=.ok (.int (x.fmod 3)):=λx=>m (by symm);have p:∀x:Int,U1 (.int x) (.int 50)=.ok (.int (x.fmod 50)):=λx=>m (by symm);have B:∀x:Int,U1 (.int x) (.int 2)=.ok (.int (x.fmod 2)):=λx=>m (by symm);have C:∀x:Int,U1 (.int x) (.int 200000000000000000001)=.ok (.int (x.fmod 200000000000000000001)):=λx=>m (by symm);have E:(t.fdiv 1029*271828182845904523536).fmod 200000000000000000001-100000000000000000000=AH t:=rfl;have H:∀k:Int,(t.fdiv k).fmod 7-3=s7 t k:=λk=>rfl;have I:∀k:Int,R9 (.int (s7 t k)) (.int 7654321)=.ok (.int (s7 t k*7654321)):=λk=>by show e9 (m6.of (bits_sub (n:=80) (bits_fmod (by symm) (by symm)) (by symm)) (show bits 7654321<=80 by symm))
   by_cases J:t.fmod 3=2
   .simp[j3,f,l,r,o,a,s,u,v,y,z,A,p,B,C,E,H,I,J,YJ,NJ,sizeLine,wD,iS,f9]
   simp[j3,f,l,r,o,a,s,u,v,y,z,A,p,B,C,E,H,I,J,YJ,NJ,sizeLine,wD,iS,f9]
  show kb h (by simp)
def V4(g:dU K mg "_law_slanted" W0):v5 P w K mg base 1 "_law_slanted" 2 K1:=by
 refine' m8 (k:=0) (F:=_) g mS (λhr T fb o=>?b) λU d hl h=>?_
 case b=>
  refine' (b8 (nE (c5 0)<|jR (n:=3) rfl<|z7 (l7 2 o)<|z7 (l7 3 o)<|z7 (l7 4 o) cW)
   (b8 (f8 2 (F4 rfl) o)
   (b8 (f8 3 (F4 rfl) o)
   (b8 (f8 4 (F4 rfl) o)
   (b8 (u3 (j4 (S7 T) (LG rfl) gT) (c7<|OR 2 3 rfl o<|i7 (c5 3)<|i7 (c5 2) o9) l5)
   (c7<|f6<|F4 rfl))))))
 match U,h with
 |[p,.lst Y],h=>
  erw[K1]at h;split at h
  .rename_i P l e1 e2;rw[uQ e1,qD e2];split at h
   .rename_i r;rw[<-h];let{{t,q},hP}:=r;match l,t,q with
    |[a,b,c,f,m,e,s],_,q=>
     let{x,y,z}:=P;let{hx,u,r}:=hP;have v:bits a<=100:=q a (by simp);have iu:bits b<=100:=q b (by simp);have hc:bits c<=100:=q c (by simp);have A:R9 (.int a) (.int y)=.ok (.int (a*y)):=e9 (m6.of v u);have B:R9 (.int b) (.int z)=.ok (.int (b*z)):=e9 (m6.of iu r);have C:R9 (.int c) (.int (x+a*y))=.ok (.int (c*(x+a*y))):=e9 (m6.of hc<|bits_add (n6 (n:=600) hx)<|bits_mul v u);have E:Q1 (.lst [.int a,.int b,.int c,.int f,.int m,.int e,.int s]) (.int 0)=.ok (.int a):=L0 rfl;have H:Q1 (.lst [.int a,.int b,.int c,.int f,.int m,.int e,.int s]) (.int 1)=.ok (.int b):=L0 rfl;have I:Q1 (.lst [.int a,.int b,.int c,.int f,.int m,.int e,.int s]) (.int 2)=.ok (.int c):=L0 rfl;have J:Q1 (.lst [.int a,.int b,.int c,.int f,.int m,.int e,.int s]) (.int 3)=.ok (.int f):=L0 rfl;have L:Q1 (.lst [.int a,.int b,.int c,.int f,.int m,.int e,.int s]) (.int 4)=.ok (.int m):=L0 rfl;have N:Q1 (.lst [.int a,.int b,.int c,.int f,.int m,.int e,.int s]) (.int 5)=.ok (.int e):=L0 rfl;have O:Q1 (.lst [.int a,.int b,.int c,.int f,.int m,.int e,.int s]) (.int 6)=.ok (.int s):=L0 rfl;by_cases Q:s=1
     .subst Q;simp[j3,vd,NJ,A,B,C,E,H,I,J,L,N,O,xX,G.Sl.put,cI,sizeLine,HW,mJ,gQ,tE]
     simp[j3,vd,NJ,A,B,C,E,H,I,J,L,N,O,xX,G.Sl.put,cI,sizeLine,HW,mJ,gQ,tE,Q]
   show kb h (by simp)
  show kb h (by simp)
def dG(cA:v5 P w K mg base 2 "_law_solid" 1 jF)(aE:v5 P w K mg base 2 "_law_points" 2 fG)(K9:v5 P w K mg base 1 "_law_cell" 2 bV)(V4:v5 P w K mg base 1 "_law_slanted" 2 K1)(Z2:v5 P w K mg base 1 "_law_slants" 1 U5)(g:dU K mg "_law_land" Y1):v5 P w K mg base 3 "_law_land" 2 nH:=by
 refine' m8 (k:=2) (F:=_) g vD (λe J fb n=>?b) λl d o h=>?_
 case b=>
  refine' (b8 (f8 2 (IR cA e<|R8 aE e (c5 0)<|c5 1) n)
   (b8 (f8 3 (W6 HA (PD.pb<|R8 K9 e (c5 0) u4) gT) n)
   (b8 (u3 (j4 (S7 J) (LG rfl) gT) (c7<|f6<|c5 2) l5)
   (c7<|f6<|J5 ["point"] ["cell"] [3] rfl (D1 (sc:=b9 Y1) (N:=lZ)) (q8<|c5 2) (RH λ_ _ _ _ _=>(R8 V4 e (c5 0)<|IR Z2 e<|c5 1))<|λ_=>n8))))
 match l,h with
 |[.lst Y,.int a],h=>
  erw[nH]at h;split at h
  .rename_i L;rw[<-h];let{m,o,r,s}:=L;let{t,O}:=OB m 1 (by symm) (by symm);let{u,y,p3}:=OY m r s;have ne:gA Y a≠[]:=λz=>by rw[z]at y;simp at y
   have A:=CT m o r s;have B:=KF ne (λp Q=>(u p Q).mono) (by lia);have E:M4 (.int (cJ Y 1)) (.int 5)=.ok (.int ((cJ Y 1).fdiv 5)):=tT (by symm) (by symm);have H:U1 (.int ((cJ Y 1).fdiv 5)) (.int 3)=.ok (.int (((cJ Y 1).fdiv 5).fmod 3)):=aU (by symm);have T:=DH (c:=(cJ Y 1).fdiv 5) (bits_fdiv<|n6 O);have U:=MW ((cJ Y 1).fdiv 5);let{q1,q2}:=QU u;have ql:(fM<|gA Y a).length<=sizeLine:=aAk (show(fM<|gA Y a).length<=40 by lia) (by symm);unfold mD;generalize(cJ Y 1).fdiv 5=C at*
   generalize fM (gA Y a)=S at*
   by_cases I:C.fmod 3=0
   .simp-implicitDefEqProofs [j3,t,A,B,E,H,I]
   have cm:u6 (λd f=>R.ok (aCI f 0<|Sl.v d)) (λx=>R.ok true) (λf=>((G9 0 f).bind λd=>((((G9 1 f).bind λd=>R.ok [d]).bind U5).bind λd=>R.ok [d]).bind λl=>R.ok (d::l)).bind K1) [.no,.v (.int C)] (S.map vd)=.ok ((S.map (xX<|YJ C).put).map vd):=by rw[aBx];show K5 vd _ _ λq hq=>{[.v (vd q),Sl.v (.int C)],rfl,?_};have:=yH (P:=q) U ((q1 q hq).mono);erw[cE,jX,R.aa0,T,this];rfl
   simp-implicitDefEqProofs [j3,t,A,B,E,H,I,L8,ql,f9,cm]
  show kb h (by simp)
def T0(o7:v5 P w K mg base 1 "_law_product" 2 i8)(ua:mg "abs"=none)(cb:mg "tuple"=none)(g:dU K mg "_law_plane" T5):v5 P w K mg base 2 "_law_plane" 2 jV:=by
 refine' m8 (k:=1) (F:=_) g rP (λhr hu fb A=>?b) λJ d hl h=>?_
 case b=>
  refine' (b8 (f8 2 u4 A)
   (b8 (C3 aAL rfl (jL<|c5 0) (l7 3 A) (b8 (f8 4 (AT NV<|d8 3) A)
   (c7<|fA (YB 4) aAL (j4 pH (d8 4) gT)<|c7<|nE (F4 rfl)<|jR (n:=2) rfl<|z7 (l7 2 A)<|z7 (l7 4 A) cW)))
   (b8 (f8 0 (aK pE<|o6 (PD.pb<|J5 ["number"] ["one"] [2] rfl (D1 (sc:=b9 T5) (N:=jQ)) (jL<|c5 0) (RH λ_ _ _ _ _=>(F4 rfl))<|λ_=>n8) w8) A)
   (c7<|f6<|W6 dW (d8 0)<|PD.pb<|wM<|i7 (R8 o7 hr (c5 0)<|c5 1) o9))))
 replace h:=B7 h;let{a,b,c,J,rfl,h}:=h;replace h:=B7 h;let{d,e,f,J,rfl,h}:=h;replace h:=A8 h;let{rfl,h}:=h;split at h
 .rename_i hz;let{Y,B,hP}:=hz;rw[<-h];obtain⟨C,L⟩:∃P:G.V,P=⟨a,b,c⟩:={_,rfl};obtain⟨E,O⟩:∃P:G.V,P=⟨d,e,f⟩:={_,rfl};rw[<-L]at Y B;rw[<-O]at hP;have vC:(.tup [.int a,.int b,.int c]:D)=vd C:=by rw[L]
  have vP:(.tup [.int d,.int e,.int f]:D)=vd E:=by rw[O]
  rw[vC,vP,<-L,<-O];let{g0,g1,g2}:=G.fC Y;have Q:((G.t7 C:Nat):Int)≠0:=by lia
  have gb:uT ((G.t7 C:Nat):Int):={Q,n6 (uD B)};erw[j3,aAz,aGk,aBQ,aFA];erw[cE,PP,R.aa0,sT,y9,aAt,aCj,Nat.reduceAdd,Nat.reduceSub,List.replicate_succ,List.replicate_zero,aBJ,aBK];show dS (λrest l=>∃(g:Nat) (n r:Sl),l=[.v (vd C),.v (vd E),.v (.int g),n,r]/\∃o:List Int,rest=o.map D.int/\o.foldl (λg n=>aFR g n.natAbs) g=G.t7 C) ?_ {0,_,_,rfl,[C.x,C.y,C.z],rfl,by simp[G.t7]} ?_
  .rintro d J l ⟨g,n,r,rfl,o,H,s⟩;match o,H,s with
   |x::o,H,s=>
    injection H with e3 e4;subst e3 e4;erw[X3,aBJ,aBK,pF,wE,qL,HB,R.aa0,MD,y9];have ea:(if x<0 then-x else x)=(x.natAbs:Int):=by split<;>lia
    rw[ea];show qQ (λm l=>∃(p q:Nat),l=[.v (vd C),.v (vd E),.v (.int p),.v (.int x),.v (.int q)]/\q<m/\aFR p q=aFR g x.natAbs) ?_ (by rintro l ⟨p,q,_,h,_⟩;lia) {g,x.natAbs,rfl,by change x.natAbs<((x.natAbs:Int).natAbs)+2;lia,rfl} ?_
    .rintro m l ⟨p,q,rfl,hq,T⟩;by_cases I:(q:Int)=0
     .show .inl (by simp[I])
     have h1:q≠0:=by lia
     show .inr {by simp;lia,_,?_,q,p%q,rfl,?_,?_}
     .have em:U1 (.int (p:Int)) (.int (q:Int))=.ok (.int ((p%q:Nat):Int)):=by rw[pT I,aDy _ (by lia)];rfl
      simp[em,HW,mJ,gQ,tE,cI,sizeLine]
     .have:=aDJ p (show 0<q by lia)
      lia
     rw[aFC,<-Nat.gcd_rec,aFC];show T
    rintro m l ⟨p,q,rfl,hq,T⟩ hc;have I:q=0:=by
     by_cases z:q=0
     .show z
     simp at hc;lia
    subst I;show{p,_,_,rfl,o,rfl,?_};rw[<-s,aDn,<-T,Nat.gcd_zero_right]
  rintro l ⟨g,n,r,rfl,o,H,s⟩;have:o=[]:=by exists H.symm
  subst this;have s:g=G.t7 C:=s;subst s;have sn:Sz 2003 (G.cK C<|G.t7 C):=by have f1:=bits_fdiv (b:=(G.t7 C:Int)) B.1;have f2:=bits_fdiv (b:=(G.t7 C:Int)) B.2.1;have f3:=bits_fdiv (b:=(G.t7 C:Int)) B.2.2;rw[cT g0]at f1 f2 f3;show{f1,f2,f3}
  have d1:∀t:Int,M4 (.int t) (.int (G.t7 C:Nat))=.ok (.int (t/(G.t7 C:Nat))):=λt=>by rw[V1 gb,cT g0]
  have p2:=bE (u:=G.cK C (G.t7 C)) (v:=E) sn.mono hP.mono;have U:i8 [.tup [.int (C.x/(G.t7 C:Nat)),.int (C.y/(G.t7 C:Nat)),.int (C.z/(G.t7 C:Nat))],vd E]=_:=p2;have s4:4<=sizeLine:=by decide
  have s3:3<=sizeLine:=by decide
  have s1:1<=sizeLine:=by decide
  simp[d1,f9,U,wG,cI,iS,s4,s3,s1,M1,VN,G.cK]
 cases h
def Y9(C4:v5 P w K mg base 1 "_law_cross" 2 u5)(A3:v5 P w K mg base 1 "_law_way" 2 l4)(o7:v5 P w K mg base 1 "_law_product" 2 i8)(T0:v5 P w K mg base 2 "_law_plane" 2 jV)(bg:mg "sorted"=none)(ku:mg "set"=none)(bu:mg "range"=none)(br:mg "len"=none)(ko:mg "min"=none)(b_max:mg "max"=none)(cb:mg "tuple"=none)(g:dU K mg "_law_planes" G5):v5 P w K mg base 8 "_law_planes" 1 fF:=by
 refine' m8 (k:=7) (F:=_) g oD (λm hu fb p=>?b) λds d hl h=>?_
 case b=>
  have uh:=m.ad7 (by symm);refine' (b8 (f8 1 (PF.pd<|aY (d8 0) rfl uh) p)
   (b8 (xR 2 p)
   (b8 (C3 aAL rfl (U9<|o6 (PD.pb<|AT N2<|d8 1) w8) (l7 3 p) (c7 (C3 aAL rfl (U9<|o6 (LG rfl)<|o6 (PD.pb<|AT N2<|d8 1) w8) (l7 4 p) (c7 (C3 aAL rfl (U9<|o6 (LG rfl)<|o6 (PD.pb<|AT N2<|d8 1) w8) (l7 5 p) (b8 (f8 6 (R8 C4 m (R8 A3 m (F4 rfl)<|F4 rfl)<|R8 A3 m (F4 rfl)<|F4 rfl) p)
   (b8 (eF 7 ["one"] ["crossed", "some", "i"] [6,1,3] p rfl (D1 (sc:=b9 G5) (N:=Z9)) (q8<|c5 1) (RH λ_ _ _ _ _=>(R8 o7 m (c5 1)<|R8 A3 m (F4 rfl)<|c5 0))<|λ_=>n8)
   (b8 (u3 (uH.pt<|iJ (j4 (S7 hu) (PD.pb<|V8 (FE rfl)<|o6 (d8 7) w8) gT)<|dJ<|j4 FD (PD.pb<|V8 (HF rfl)<|o6 (d8 7) w8) gT) (c7<|gO 2 aO (R8 T0 m (c5 6)<|F4 rfl) fb) l5)
   (c7<|u3 (uH.pt<|iJ (j4 (S7 hu) (PD.pb<|V8 (HF rfl)<|o6 (d8 7) w8) gT)<|dJ<|j4 pH (PD.pb<|V8 (FE rfl)<|o6 (d8 7) w8) gT) (c7<|gO 2 aO (R8 T0 m (aK pE<|o6 (PD.pb<|J5 ["number"] [] [] rfl (D1 (sc:=b9 G5) (N:=Z9)) (jL<|c5 6) (RH λ_ _ _ _ _=>(F4 rfl))<|λ_=>n8) w8)<|F4 rfl) fb) l5)))))))))
   (c7<|f6<|PF.pd<|EI 2 rfl uh))))
 replace h:=bx h;let{J,ds,rfl,h}:=h;replace h:=A8 h;let{rfl,h}:=h;replace h:=BS h;let{{h1,Q},rfl}:=h;have SS:=RZ (J:=J) (by lia);have s:=u7 J;have sz:∀X∈d4 J,Sz 900 X:=λX hX=>h1.1 X (o5.mp hX);have PS:=λU=>CV (U:=U) h1 Q;generalize d4 J=S at*
 have hS1:S.length<=sizeLine:=aAk Q (by symm);have r1:=MS (n:=S.length) (by lia);have r2:∀i:Nat,i<S.length->bA [.int ((i:Int)+1),.int (S.length:Int)]=.ok (Y4 (i+1)<|S.length-(i+1)):=λi T=>a3r (a:=i+1) (b:=S.length) (by lia) (by lia);simp-implicitDefEqProofs [j3,SS,r1];show HR (pv1 (.lst (J.map vd)) S) ?_ {[],_,_,_,_,_,rfl,{{.nil,λz=>kb rfl z},λx hx=>by cases hx},λi' j' k' _ _ l=>by lia} ?_
 .rintro i _ T ρ ⟨U,a3,Y,H,I,t,rfl,K,Dn⟩;have T:i<S.length:=by lia
  obtain⟨A,eA⟩:∃A,S[i]?=some A:={S[i],aAd T};have e:=aAi eA;simp-implicitDefEqProofs [r2 i T];show OG (pv2 (.lst (J.map vd)) S i) ?_ {U,_,_,_,_,rfl,K,Dn.j0} ?_
  .rintro j _ hj ρ ⟨U,Y,H,I,t,rfl,K,Dn⟩;have hj:j<S.length:=by lia
   obtain⟨B,eB⟩:∃A,S[j]?=some A:={S[j],aAd hj};have hB:=aAi eB;simp-implicitDefEqProofs [r2 j hj];show OG (pv3 (.lst (J.map vd)) S i j) ?_ {U,_,_,_,rfl,K,Dn.k0} ?_
   .rintro k _ hk ρ ⟨U,H,I,t,rfl,K,Dn⟩;have hk:k<S.length:=by lia
    obtain⟨C,eC⟩:∃A,S[k]?=some A:={S[k],aAd hk};have hC:=aAi eC;let{K2,sub,cu,cd}:=jy e hB hC K;show{[.v (.lst (J.map vd)),.v (.lst (S.map vd)),.d (WS S U A B C),.v (.int (i:Int)),.v (.int (j:Int)),.v (.int (k:Int)),.v (vd<|G.cr (B-A)<|C-A),.v (.lst ((aT S (G.cr (B-A)<|C-A) A).map D.int))],?_,_,_,_,_,rfl,K2,Dn.step sub λA' B' C' x1 x2 x3=>by rw[eA]at x1;rw[eB]at x2;rw[eC]at x3;cases x1;cases x2;cases x3;show{cu,cd}}
    have few:=K.few s Q;have o:=(OM e hB hC K).1.few s Q;have iA:=lT eA;have iB:=lT eB;have iC:=lT eC;have zB:=(sz B hB).sub (sz A e);have zC:=(sz C hC).sub (sz A e);have cc:=X1 zB.mono zC.mono;have sc:Sz 2003 (G.cr (B-A)<|C-A):=(zB.cr zC).mono;have up:G.Up S A B C↔_:=(GD e).1;have dn:G.Dn S A B C↔_:=(GD e).2;have nt:=NP A B C;have pu:=λz=>tU (c:=G.cr (B-A) (C-A)) z sc (sz A e).mono;rw[jP]at pu;have pd:=λz=>tU (c:=G.cr (C-A) (B-A)) z ((zC.cr zB).mono) (sz A e).mono;rw[jP,<-nt]at pd;let{L,O}:=SV (S:=S) (c:=G.cr (B-A) (C-A)) (A:=A) (λz=>by rw[z]at e;cases e);have cne:∀{c X:G.V},G.c6 c X≠0->c≠0:=λ{c X} q z=>q (by rw[z];simp[G.c6]);have dd:=λ(f:G.V×Int) (r:Ev)=>GW (f:=f) (v:=.bl true) (a:=Sl.v (.lst (J.map vd))) (b:=Sl.v (.lst (S.map vd))) (r:=r) few;have dd1:=λ(f:G.V×Int) (r:Ev)=>GW (f:=f) (v:=.bl true) (a:=Sl.v (.lst (J.map vd))) (b:=Sl.v (.lst (S.map vd))) (r:=r) o;have wm:G.Up S A B C->G.cr (B-A) (C-A)≠0:=λ⟨_,X,_,l⟩=>cne (X:=X-A) (by lia);have hd0:G.Dn S A B C->(⟨0-(G.cr (B-A)<|C-A).x,0-(G.cr (B-A)<|C-A).y,0-(G.cr (B-A)<|C-A).z⟩:G.V)≠0:=λv=>by rw[nt];let{_,X,_,l}:=G.zR.mp v;show cne (X:=X-A) (by lia)
    have e1:G.Up S A B C->OP S U A B C=X6 U (M1<|G.c9 A B C) (.bl true):=λu=>jk u;have e2:¬G.Up S A B C->OP S U A B C=U:=λu=>jl u;have f1:G.Dn S A B C->WS S U A B C=X6 (OP S U A B C) (M1<|G.c9 A C B) (.bl true):=λu=>jk u;have f2:¬G.Dn S A B C->WS S U A B C=OP S U A B C:=λu=>jl u;have pq:=λq hq=>bE sc.mono ((sz q hq).sub (sz A e)).mono;clear cu cd sub Dn K2 nt few o cne K zB zC sc sz;generalize rJ (aT S (G.cr (B-A)<|C-A) A)=M at*
    generalize oB (aT S (G.cr (B-A)<|C-A) A)=mm at*
    obtain⟨W,eW⟩:∃W,(aT S (G.cr (B-A)<|C-A) A).map D.int=W:={_,rfl};rw[eW]at L O⊢;unfold aT at eW;generalize G.cr (B-A) (C-A)=c at*
    generalize WS S U A B C=k2 at*
    generalize OP S U A B C=k1 at*
    erw[X3,aBJ,aBK];show RK (ρ:=[.v (.lst (J.map vd)),.v (.lst (S.map vd)),.d U,.v (.int (i:Int)),.v (.int (j:Int)),.v (.int (k:Int)),.v (vd c),t]) (by simp[iA,iB,iC,cc]) ?_;show RK (ρ:=[.v (.lst (J.map vd)),.v (.lst (S.map vd)),.d U,.v (.int (i:Int)),.v (.int (j:Int)),.v (.int (k:Int)),.v (vd c),.v (.lst W)]) ?_ ?_
    .simp-implicitDefEqProofs [f9,hS1];rw[RU vd D.int (λX=>G.c6 c (X-A)) S ?h,eW]
     case h=>intro q hq;show{[.v (vd q),.v (vd c),.v (.lst (S.map vd)),.v (.int (i:Int))],rfl,?_};erw[jX,cE,qL,HB,R.aa0,iA,DT];show pq q hq
     rfl
    clear iB iC cc pq eW;show RK (ρ:=[.v (.lst (J.map vd)),.v (.lst (S.map vd)),.d k1,.v (.int (i:Int)),.v (.int (j:Int)),.v (.int (k:Int)),.v (vd c),.v (.lst W)]) ?_ ?_
    .by_cases u:G.Up S A B C
     .rw[e1 u];simp[L,O,up.mp u,iA,pu (wm u),dd]
     rw[e2 u];by_cases E:M=0
     .have q2:¬mm<0:=λz=>u (up.mpr {E,z});simp[L,O,E,q2]
     simp[L,E]
    clear e1 e2 pu wm up dd;by_cases v:G.Dn S A B C
    .rw[f1 v];have pd:=pd (hd0 v);erw[Int.zero_sub]at pd;have pd:jV [D.tup [D.int (-c.x),D.int (-c.y),D.int (-c.z)],vd A]=_:=pd;have s3:3<=sizeLine:=by decide
     have t3:∀a b c:D,wG [.lst [a,b,c]]=.ok (.tup [a,b,c]):=λ_ _ _=>rfl;simp[L,O,dn.mp v,iA,f9,s3,t3,pd,dd1]
    rw[f2 v];by_cases E:mm=0
    .have q2:¬0<M:=λz=>v (dn.mpr {E,z});simp[L,O,E,q2]
    simp[O,E]
   rintro ρ ⟨U,H,I,t,rfl,K,Dn⟩;rw[show j+1+(S.length-(j+1))=S.length by lia]at Dn;show{U,_,_,_,_,rfl,K,Dn.j}
  rintro ρ ⟨U,Y,H,I,t,rfl,K,Dn⟩;rw[show i+1+(S.length-(i+1))=S.length by lia]at Dn;show{U,_,_,_,_,_,rfl,K,Dn.i}
 rintro ρ ⟨U,a3,Y,H,I,t,rfl,K,Dn⟩;rw[aDI]at Dn;have few:=K.few s Q;have ps:=PS U K Dn;have pt:(U.map (·.1)).all V6=true:=aBt.mpr λd hd=>by let{f,rfl,_}:=K.2 d hd;rfl
 have sd:sdR 2 [.v (.lst (J.map vd)),.v (.lst (S.map vd)),.d U,a3,Y,H,I,t]=.ok (K6<|M8 U):=jk {pt,few};rw[sd,ps];rfl
def aI(o7:v5 P w K mg base 1 "_law_product" 2 i8)(g:dU K mg "_law_on" lE):v5 P w K mg base 2 "_law_on" 2 oA:=by
 refine' m8 (k:=1) (F:=_) g DG (λn o s t=>?b) λl d u h=>?_
 case b=>refine' (c7<|f6<|oP (S7 o) (PD.pb<|R8 o7 n (c5 0)<|c5 1)<|LG rfl)
 replace h:=RD h;let{a,b,c,e,l,rfl,h}:=h;replace h:=B7 h;let{x,y,z,l,rfl,h}:=h;replace h:=A8 h;let{rfl,h}:=h;split at h
 .rename_i m;rw[<-h];have p:i8 [.tup [.int a,.int b,.int c,.int e],.tup [.int x,.int y,.int z]]=_:=RJ (f:=({a,b,c},e)) m.1 m.2;generalize G.c6 _ _=q at*
  have r:Q1 (.tup [.int a,.int b,.int c,.int e]) (.int 3)=.ok (.int e):=rfl;simp-implicitDefEqProofs [j3,p,r];rfl
 cases h
def V3(aI:v5 P w K mg base 2 "_law_on" 2 oA)(L:mg "len"=none)(O:mg "sorted"=none)(Q:mg "set"=none)(g:dU K mg "_law_corners" N3):v5 P w K mg base 8 "_law_corners" 2 V5:=by
 refine' m8 (k:=7) (F:=_) g mO (λr T U nd=>?b) λe d hl h=>?_
 case b=>have y:=r.ad7 (by symm);refine' (c7<|f6<|J5 ["one"] ["planes"] [1] rfl (D1 (sc:=b9 N3) (N:=dR)) (q8<|PF.pd<|aY (d8 0) rfl y) (gz λ_ _ _ _ _=>{(j4 pH (PD.pb<|AT N2<|PD.pb<|J5 ["plane"] ["one"] [0] rfl UP (q8<|c5 1) (gz λ_ _ _ _ _=>{(J1<|R8 aI r (c5 0)<|c5 1),(c5 0)})<|λ_=>n8) gT),(c5 0)})<|λ_=>n8)
 match e,h with
 |[.lst Y,.lst ys],h=>
  erw[V5]at h;split at h
  .rename_i J z;rw[t6 z];split at h
   .rename_i A;rw[<-h];let{rfl,m,s,n}:=A;have B:=RZ (J:=J) (by lia);have t:=xF m s n;let{u,ag,o}:=lG m s n;have sz:∀X∈d4 J,Sz 900 X:=λX l=>m.1 X (o5.mp l);have p:∀f∈l9 (d4 J),Sz 2003 f.1:=λf q=>HC m ((u f).mp q);have C:(d4 J).length<=sizeLine:=aAk n (by symm);have E:(l9<|d4 J).length<=sizeLine:=aAk o (by symm);rw[<-t];clear t u;generalize l9 (d4 J)=fs at*
    generalize d4 J=S at*
    have H:∀X∈S,u6 (λd a=>R.ok (aCI a 0<|Sl.v d)) (λa=>(((G9 0 a).bind λd=>((G9 1 a).bind λd=>R.ok [d]).bind λe=>R.ok (d::e)).bind oA).bind xH) (G9 0) [.no,.v (vd X)] (fs.map M1)=.ok ((UB fs X).map M1):=λX l=>L4 M1 (λf=>decide (G.c6 f.1 X=f.2)) M1 fs λf q=>{[.v (M1 f),.v (vd X)],rfl,by have:=MK (p f q) (sz X l).mono;change(oA [M1 f,vd X]).bind xH=_;rw[this];rfl,λ_=>rfl}
    have I:u6 (λd a=>R.ok (aCI a 0<|Sl.v d)) (λa=>((((((G9 1 a).bind L8).bind λe=>if e.length<=sizeLine then(u6 (λd a=>R.ok (aCI a 0<|Sl.v d)) (λa=>(((G9 0 a).bind λd=>((G9 1 a).bind λd=>R.ok [d]).bind λe=>R.ok (d::e)).bind oA).bind xH) (G9 0) (f9 [aEj "plane"] [0] a) e).bind λe=>R.ok (D.lst e)else R.bad).bind λd=>R.ok [d]).bind BQ).bind λx=>lq x (D.int 2)).bind xH) (G9 0) [.no,.v (.lst (aCt M1 fs))] (S.map vd)=.ok ((S.filter λX=>decide (2<(UB fs X).length)).map vd):=L4 vd (λX=>decide (2<(UB fs X).length)) vd S λX l=>⟨[.v (vd X),Sl.v (D.lst<|aCt M1 fs)],rfl,by
     have:=H X l;have gt:(decide ((2:Int)<((UB fs X).length:Int)))=decide (2<(UB fs X).length):=by rw[aCU];simp;lia
     simp-implicitDefEqProofs [f9,E,this];try lia,λ_=>rfl⟩
    simp-implicitDefEqProofs [j3,B,C];rw[show f9 [aEj "one"] [1] [.v (.lst (aCt vd J)),.v (.lst (aCt M1 fs))]=[.no,.v (.lst (aCt M1 fs))]from rfl,I];rfl
   show kb h (by simp)
  show kb h (by simp)
def I0(n:mg "len"=none)(o:mg "isinstance"=none)(p:mg "tuple"=none)(q:mg "bool"=none)(e:mg "int"=none)(g:dU K mg "_law_wholes" Q3):v5 P w K mg base 1 "_law_wholes" 2 V0:=by
 refine' m8 (k:=0) (F:=_) g oQ (λr f s t=>?b) λu d v h=>?_
 case b=>
  refine' (b8 (u3 (uH.pt<|eN (Y0<|J1<|kY tQ<|d8 0)<|bS<|j4 (Y3 f) (PD.pb<|AT N2<|d8 0)<|d8 1) (c7<|f6 aO) l5)
   (c7<|f6<|oP (S7 f) (PD.pb<|J5 ["number"] [] [] rfl (D1 (sc:=b9 Q3) (N:=fV)) (jL<|c5 0) (gz λ_ _ _ _ _=>{(uH.pt<|eN (Y0<|J1<|kY UG<|d8 0)<|bS<|J1<|kY RP<|d8 0),(c5 0)})<|λ_=>n8)<|PD.pb<|dM o9))
 let{{l,rfl,m},rfl}:=BS h;show dH (iV (uU (fZ rfl) (u9 (x:=.bl false) (u9 (u9 (aP rfl) rfl) (u9 rfl ((wU _ _).trans (by simp)))) rfl))) ?_;show UI (u9 (u9 rfl ((jk (by rw[aAh];show aAk m (by symm))).trans (u9 (sG D.int l λa _=>{_,rfl,rfl}) rfl)))<|u9 rfl rfl)
def eM(aI:v5 P w K mg base 2 "_law_on" 2 oA)(I0:v5 P w K mg base 1 "_law_wholes" 2 V0)(A3:v5 P w K mg base 1 "_law_way" 2 l4)(o7:v5 P w K mg base 1 "_law_product" 2 i8)(C4:v5 P w K mg base 1 "_law_cross" 2 u5)(bg:mg "sorted"=none)(bf:mg "isinstance"=none)(gu:mg "list"=none)(ko:mg "min"=none)(bu:mg "range"=none)(br:mg "len"=none)(g:dU K mg "_law_ring" Q7):v5 P w K mg base 8 "_law_ring" 3 wT:=by
 refine' m8 (k:=7) (F:=_) g wX (λa t fb e=>?b) λds d hl h=>?_
 case b=>
  have I:=a.ad7 (by symm);refine' (b8 (eF 3 ["one"] ["plane"] [0] e rfl (D1 (sc:=b9 Q7) (N:=dD)) (q8<|c5 2) (gz λ_ _ _ _ _=>{(J1<|R8 aI a (c5 1)<|c5 0),(c5 0)})<|λ_=>n8)
   (b8 (u3 (uH.pt<|eN (Y0<|J1<|kY AL<|d8 1)<|bS<|j4 (Y3 t) (PD.pb<|PF.pd<|CI (d8 1) rfl I)<|d8 3) (c7<|f6 aO) l5)
   (b8 (u3 (j4 (Y3 t) (LG rfl)<|PD.pb<|V8 (HL rfl I)<|o6 (d8 1) w8) (c7<|f6 aO) l5)
   (b8 (u3 (j4 (Y3 t) (PD.pb<|J5 ["one"] [] [] rfl (D1 (sc:=b9 Q7) (N:=dD)) (q8<|c5 1) (gz λ_ _ _ _ _=>{(Y0<|J1<|R8 I0 a (c5 0) u4),(c5 0)})<|λ_=>n8)<|PD.pb<|dM o9) (c7<|f6 aO) l5)
   (b8 (C3 aAL rfl (U9<|o6 (PD.pb<|AT N2<|d8 1) w8) (l7 4 e) (b8 (f8 5 (dM<|i7 (F4 rfl)<|i7 (F4 rfl) o9) e)
   (b8 (f8 6 (R8 A3 a (F4 rfl)<|F4 rfl) e)
   (c7 (C3 aAL rfl (q8<|c5 1) (l7 7 e) (b8 (f8 8 (R8 A3 a (F4 rfl)<|c5 7) e)
   (b8 (f8 9 (R8 o7 a (c5 0)<|R8 C4 a (c5 6)<|c5 8) e)
   (c7<|u3 (uH.pt<|iJ (j4 (NR t) (d8 7)<|d8 5)<|dJ<|j4 XV (d8 9) gT) (c7<|f6 aO) l5))))))))
   (c7<|f6 aO))))))
 let{{f,R,C,rfl,B},rfl}:=BS h;let{m,r,J,le}:=B.hd;have hC:(C.map vd).length<=sizeLine:=by rw[aAh];show aAk B.lc (by symm)
 have hR:(R.map vd).length<=sizeLine:=by rw[aAh];show aAk B.lr (by symm)
 have mn:=kz J le;have i0:=lT (S:=R) (i:=0) (A:=m) (by rw[J];rfl);show dH (u9 (x:=.lst ((C.filter λX=>decide (G.c6 f.1 X=f.2)).map vd)) (u9 rfl<|(jk hC).trans (u9 (M.L4 vd (λX=>decide (G.c6 f.1 X=f.2)) vd C λX q=>{_,rfl,?_,λ_=>rfl}) rfl)) rfl) ?_
 .show u9 (u9 (fU rfl rfl)<|MK B.sf (B.sc X q).mono) rfl
 show dH (iV (uU (fZ rfl) (u9 (u9 (u9 (u9 rfl (jk {vJ R,LW B.nd,by rw[aAh];show aAk B.lr (by symm)})) rfl) (u9 rfl (by rw[B.so];show nD (HD _)))) rfl))) ?_;show dH (iV<|u9 (u9 (u9 rfl<|u9 rfl i0)<|u9 (u9 (aP rfl) mn)<|nD<|cz m) rfl) ?_;show dH (iV<|u9 (u9 (u9 rfl<|(jk hR).trans (u9 (sG vd R λX q=>{_,rfl,fZ (u9 (u9 (fU rfl rfl)<|JH X) rfl)}) rfl))<|u9 rfl rfl) rfl) ?_;show a3j (u9 (aP<|u9 (aP rfl)<|WX R) (MS (aAk B.lr (by symm)))) ?_;show HR (λ_ l=>∃u y E n o p,l=[.v (M1 f),.v (.lst (R.map vd)),.v (.lst (C.map vd)),.v (.lst ((C.filter λX=>decide (G.c6 f.1 X=f.2)).map vd)),u,y,E,n,o,p]) ?_ {_,_,_,_,_,_,rfl} ?_
 .rintro k _ L l ⟨u,y,E,n,o,p,rfl⟩;rw[aDI]at L;let{P,Q,O,iP,T}:=UN L;have s:P∈R/\Q∈R:={(aDl<|show(P,Q)∈R.zip _ from T).1,aAi O};have iQ:=lT O;have wk:∀{X Y:G.V},X∈R->Y∈R->l4 [vd X,vd Y]=.ok (vd<|Y-X):=λ_ _=>DT _ _;show a0s rfl ?_;show xC (u9 (u9 (PY (u9 rfl<|u9 (u9 rfl rfl) iP)<|PY (u9 rfl<|u9 rfl iQ) rfl) rfl) rfl) ?_;show xC (u9 (u9 (fU (u9 rfl rfl)<|u9 rfl rfl)<|wk s.1 s.2) rfl) ?_;show a3q rfl ?_;show a3e (λl=>∃n o p,l=[.v (M1 f),.v (.lst (R.map vd)),.v (.lst (C.map vd)),.v (.lst ((C.filter λX=>decide (G.c6 f.1 X=f.2)).map vd)),.v (.int (k:Int)),.v (.lst ([P,Q].map vd)),.v (vd<|Q-P),n,o,p]) ?_ {_,_,_,rfl} ?_
  .rintro d hd l ⟨n,o,p,rfl⟩;let{X,q,rfl}:=aAo.mp hd;have U:=(B.sr Q s.2).sub (B.sr P s.1);have zX:=(B.sr X q).sub (B.sr P s.1);have cc:=X1 U.mono zX.mono;have pp:=JY (f:=f) B.sf (U.cr zX);show a0s rfl ?_;show xC (u9 (u9 (fU (u9 rfl rfl) rfl)<|wk s.1 q) rfl) ?_;show xC (u9 (u9 (fU rfl<|u9 (fU rfl rfl) cc) pp) rfl) ?_;show{_,iV ?_,_,_,_,rfl};have ni:inR true (vd X) (.lst ([P,Q].map vd))=.ok (.bl (decide (X∉[P,Q]))):=KY;by_cases H:X∈[P,Q]
   .show YT (u9 (x:=.bl false) (u9 rfl (u9 rfl (ni.trans (by rw[kc (λz=>z H)])))) rfl)
   have hn:X≠P/\X≠Q:=by exists H
   have pos:=B.lf P Q T X q hn.1 hn.2;show WG (u9 (x:=.bl true) (u9 rfl (u9 rfl (ni.trans (by rw[kd H])))) rfl) (u9 (x:=.bl false) (u9 rfl (u9 rfl ((xG _ _).trans (by rw[kc (by lia)])))) rfl)
  rintro l ⟨n,o,p,rfl⟩;show{_,_,_,_,_,_,rfl}
 rintro l ⟨u,y,E,n,o,p,rfl⟩;rfl
section
seal PySem.eval
def o_law{f:bb}{fd:eO}(dG:v5 P w K mg base 3 "_law_land" 2 nH)(Y9:v5 P w K mg base 8 "_law_planes" 1 fF)(V3:v5 P w K mg base 8 "_law_corners" 2 V5)(bF:v5 P w K mg base 9 "faces_of" 1 bP)(I0:v5 P w K mg base 1 "_law_wholes" 2 V0)(eM:v5 P w K mg base 8 "_law_ring" 3 wT)(gu:mg "list"=none)(br:mg "len"=none)(bf:mg "isinstance"=none)(bu:mg "range"=none)(cb:mg "tuple"=none)(F0:Fun K "law" "law" iU f fd):FnOk P w K mg base xP 10 f fd ["script"] (pG K):=by
 show fnT (k:=9) F0 NG λL A outer s H E O nl y hl hb=>?_;have hu:=O.units;have fb:=O.af1;have T:=NG.nd;have hi:M2 1048576 (y.map D.int):=UZ hb;have ma:(y.map D.int).length<=63:=by exists hl
 have LL:=NC hi ma (most:=8) (by symm) (by symm);let{N,a2,a3}:=UD hi (most:=8) (by symm) (by symm);generalize mD (y.map D.int) 8=J at*
 have U:U4 900 J:={λp hp=>(a2 p hp).mono,by lia};have Y:(d4 J).length<=14:=aAk (DE _) (by lia);have PL:=DD U N Y;have CO:=yR U N Y;have FO:=NX U N Y;let{hf,ag,hfl}:=lG U N Y;have ndF:=(LOk.ag2 {U,N,Y}).2.2;have cS:=(uE U N Y).1;have RG:=λf hF=>KI U N Y (f:=f) ((hf f).mp hF);have RF:=λf hF=>λ{l}=>HX (l:=l) U N Y (f:=f) ((hf f).mp hF);have AP:=λk l f (z:dI (d4 J) (l9<|d4 J) k l) (e:(l9<|d4 J)[k]?=some f)=>z.apart U N Y (λg hg=>(hf g).mp hg) ndF e;have dP:=HD J;generalize B6 J=C at*
 generalize l9 (d4 J)=b at*
 generalize d4 J=S at*
 have dF:=TX S b;have lF:b.length<sizeLine:=aBT hfl (by symm);have hd:∀{k l},dI S b k l->∃f W t,l=IE f W::t:=λ{k l} h=>by
  cases e:b with
  |nil=>show kb e ag
  |cons g t=>
   let{z,q,_}:=h.2 0 g (by rw[e];rfl);cases l with
   |nil=>cases q
   |cons a t=>cases q;show{_,_,_,rfl}
 show F9 (Q:=λu=>u=.v (.lst (y.map D.int))::.v (.lst (J.map vd))::[.no,.no,.no,.no,.no,.no,.no,.no]) (J3 (f8 1 (R8 dG O (c5 0) u4) T) (by rintro u rfl;show{_,u9 (u9 (fU rfl rfl) LL) rfl,rfl})) ?_;show F9 (Q:=λu=>u=.v (.lst (y.map D.int))::.v (.lst (J.map vd))::.v (.lst (b.map M1))::[.no,.no,.no,.no,.no,.no,.no]) (J3 (f8 2 (IR Y9 O<|c5 1) T) (by rintro u rfl;show{_,u9 (u9 (aP rfl) PL) rfl,rfl})) ?_;show F9 (Q:=λu=>u=.v (.lst (y.map D.int))::.v (.lst (J.map vd))::.v (.lst (b.map M1))::.v (.lst (C.map vd))::[.no,.no,.no,.no,.no,.no]) (J3 (f8 3 (R8 V3 O (c5 1)<|c5 2) T) (by rintro u rfl;show{_,u9 (u9 (fU rfl rfl) CO) rfl,rfl})) ?_;show F9 (Q:=λu=>u=zW (y.map D.int) J C b [.no,.no,.no,.no,.no]) (J3 (f8 4 (aK FB<|o6 (d8 1) w8) T) (by rintro u rfl;show{_,u9 (u9 (aP rfl) rfl) rfl,rfl})) ?_;show F9 (Q:=λu=>u=zW (y.map D.int) J C b [.v (.lst (b.map<|k8 S)),.no,.no,.no,.no]) (J3 (f8 5 (IR bF O<|c5 4) T) (by rintro u rfl;show{_,u9 (u9 (aP rfl) FO) rfl,rfl})) ?_;show F9 (Q:=λu=>u=zW (y.map D.int) J C b [.v (.lst (b.map<|k8 S)),.no,.no,.no,.no]) (J3 (u3 (uH.pt<|eN (Y0<|J1<|kY AL<|d8 5)<|eN (j4 (Y3 hu) (PD.pb<|AT N2<|d8 5)<|PD.pb<|AT N2<|d8 2)<|bS<|j4 (Y3 hu) (d8 4)<|d8 1) (c7<|f6 aO) l5) (by rintro u rfl;show{_,iV (uU (fZ rfl)<|uU (u9 (x:=.bl false) (u9 (u9 (aP rfl) rfl)<|u9 (u9 (aP rfl) rfl)<|(wU _ _).trans ?_) rfl)<|u9 (u9 rfl<|u9 rfl<|nD dP) rfl),rfl};rw[aAh,aAh,beq_self_eq_true];rfl)) ?_
 show F9 (Q:=ZN (y.map D.int) J C S b 0) (J3 (iE 6 (pR o9) T) (by rintro u rfl;show{_,u9 (u9 rfl rfl) rfl,_,_,_,_,rfl,BD,.inl rfl,.inl rfl,.inl rfl})) ?_;show F9 (Q:=ZN (y.map D.int) J C S b b.length) (UA (ds:=Y4 0 b.length) (ZN (y.map D.int) J C S b) (ny (y.map D.int) J C S b) aAL rfl (sZ<|o6 (PD.pb<|AT N2<|d8 2) w8) (l7 7 T) (λk=>?body) (λu h=>?h0) (λk u d e h=>?hG)<|λu h=>?hQ) ?_
 case h0=>show{?_,h};let{l,a7,B,I,rfl,_}:=h;show u9 (aP<|u9 (aP rfl)<|WD b) (MS (aAk hfl (by symm)))
 case hG=>let{rfl,hk}:=VV e;let{l,a7,B,I,rfl,F,_}:=h;show{_,rfl,l,b[k],B,I,rfl,F,aAd hk}
 case hQ=>rw[show(Y4 0 b.length).length=b.length by unfold Y4;rw[aAh,List.length_range']]at h;show h
 case body=>
  show jW (Q:=ny (y.map D.int) J C S b k) (J3 (u3 (uH.pt<|eN (Y0<|J1<|kY tQ<|LG rfl)<|bS<|j4 (Y3 hu) (PD.pb<|AT N2<|LG rfl) gT) (c7<|f6 aO) l5) (by rintro u ⟨l,f,B,I,rfl,F,e⟩;have ix:=UT (F.at_ e);show{_,iV (uU (fZ<|u9 (u9 (u9 rfl<|u9 rfl ix) rfl) rfl)<|u9 (u9 (u9 (aP<|u9 rfl<|u9 rfl ix) rfl)<|u9 rfl rfl) rfl),l,f,B,I,rfl,F,e})) ?_
  show jW (Q:=ny (y.map D.int) J C S b k) (J3 (u3 (Y0<|J1<|R8 I0 O (F4 rfl) u4) (c7<|f6 aO) l5) (by rintro u ⟨l,f,B,I,rfl,F,e⟩;have ix:=UT (F.at_ e);show{_,iV (fZ<|u9 (u9 (fU (u9 (u9 rfl<|u9 rfl ix)<|u9 rfl rfl) rfl)<|JN f) rfl),l,f,B,I,rfl,F,e})) ?_
  show jW (Q:=uj (y.map D.int) J C S b k) (J3 (nE (F4 rfl)<|jR (n:=2) rfl<|z7 (l7 8 T)<|z7 (l7 9 T) cW) (by rintro u ⟨l,f,B,I,rfl,F,e⟩;show{_,u9 (u9 rfl<|u9 rfl<|UT<|F.at_ e) rfl,l,f,rfl,F,e})) ?_
  show jW (Q:=uj (y.map D.int) J C S b k) (J3 (u3 (uH.pt<|eN (j4 (Y3 hu) (d8 8)<|LG rfl)<|bS<|Y0<|J1<|pc3 eM O (c5 8) (c5 9)<|c5 3) (c7<|f6 aO) l5) (by rintro u ⟨l,f,rfl,F,e⟩;have ip:Q1 (.lst (b.map M1)) (.int (k:Int))=.ok (M1 f):=UT (by rw[aAu,e];rfl);show{_,iV (uU (u9 (u9 rfl<|u9 (u9 rfl<|u9 rfl ip)<|nD<|gy f) rfl)<|fZ<|u9 (u9 (PY rfl<|fU rfl rfl)<|PV<|RG f<|aAi e) rfl),l,f,rfl,F,e})) ?_
  show NB 6 9 5 nl (QL 6<|SN (c5 8)<|aK FB<|o6 (d8 9) w8) (QL 9<|F4 rfl) ?_;rintro u ⟨l,f,rfl,F,e⟩;have hF:=aAi e;have B9:=RG f hF;have sp:=F.split e;let{ap1,ap2}:=AP k l f F e;have ap3:=(AP k _ f BD e).1;rw[<-aGb]at ap3;let{m,r,eR,_}:=B9.hd;show{(b.take k).map (k8 S),(G.j1 S f).map vd,l.take k,l.drop (k+1),M1 f,IE f (G.j1 S f),vd 0,{rfl,rfl,ka (λz=>some (Sl.v<|.lst z)) sp,by symm,by symm,by symm,?no,ap1,ap2,kU _ f,jB _ _,?ne,{_,_,by rw[eR];rfl},rfl,rfl,?lk,?lr},?post}
  case no=>
   show aAs.mpr {by rw[eR];show QG,aAs.mpr {nM (RF f hF N),aAs.mpr {GV λz=>?_,aAs.mpr {nM (RF f hF cS),aAs.mpr {nM (RF f hF N),aAs.mpr {trivial,aAs.mpr {ap3,aAs.mpr {trivial,aAs.mpr {kU _ f,aAs.mpr {trivial,λ_ h=>nomatch h}}}}}}}}}};rw[eR]at z;cases q:b with
   |nil=>show ag q
   |cons a t=>rw[q]at z;simp[M1,sJ]at z
  case ne=>rw[<-sp];show(XH<|F.at_ e).symm
  case lk=>rw[aAh,aBh];show aBT (Nat.min_le_right _ _) lF
  case lr=>rw[aAh];show aBT B9.lr (by symm)
  case post=>
   intro r' hr';obtain⟨z,rfl⟩:∃z:List G.V,r'=(G.j1 S f++z).map vd:=by
    rcases hr' with rfl|rfl
    .show{[],by rw[aBW]}
    show{[0],by rw[aBP];rfl}
   have e1:(b.take<|k+1).map (k8 S)=(b.take k).map (k8 S)++[IE f (G.j1 S f)]:=by rw[List.take_add_one,e,aBP];rfl
   have e2:(G.j1 S f++[0]).map vd=(G.j1 S f).map vd++[vd 0]:=aBP;show{_,_,_,.v (.lst ((G.j1 S f++[0]).map vd)),?_,F.step e z,.inr (.inl {(k:Int),rfl}),.inr (.inr (.inl {f,rfl})),.inr (.inr (.inr {_,rfl}))};rw[e1,e2];rfl
 show F9 (Q:=λu=>∃a7 B I,u=zW (y.map D.int) J C b [.o [],.o (b.map<|k8 S),a7,B,I]) (UL 5 nl (J3 (P:=λu=>∃l a7 B I,u=zW (y.map D.int) J C b [.o l,.o (b.map<|k8 S),a7,B,I]) (JS 5) (by rintro u ⟨l,a7,B,I,rfl⟩;show{_,rfl,_,_,_,rfl})) ?own) (TM (f6<|kj (oP (S7 hu) (PD.pb<|IR bF O<|c5 4)<|d8 6)<|ax<|oP (S7 hu) (d8 4)<|d8 1) (by rintro u ⟨a7,B,I,rfl⟩;show u9 (u9 (u9 (u9 (u9 (aP rfl) FO)<|u9 rfl<|FM dF) rfl)<|u9 rfl<|u9 rfl<|FM dP) rfl))
 rintro u ⟨l,a7,B,I,rfl,F,j7,j8,j9⟩;rw[List.take_length];let{f,W,t,rfl}:=hd F;have nW:∀R:List G.V,R.map vd≠IE f W::t:=λR=>XH (j:=0) rfl;have nf:∀g W',GC (IE f W::t) (IE g W'):=λg W'=>{kU _ g,{nW W',jB _ _},trivial};have np:∀l:List G.V,GC (IE f W::t) (.lst (l.map vd)):=λl=>{nW l,jB _ l};show{_,rfl,{_,_,rfl},Q8.mpr λd hd=>?_,aAs.mpr {QG,aAs.mpr {np _,aAs.mpr {GV λz=>?_,aAs.mpr {np _,aAs.mpr {np _,aAs.mpr {trivial,aAs.mpr {Q8.mpr λd hd=>?_,aAs.mpr {j7.no nW,aAs.mpr {j8.no nW,aAs.mpr {j9.no nW,λ_ h=>nomatch h}}}}}}}}}},_,_,_,_,rfl}
 .let{j,hj}:=aEs hd;let{g,z,_,rfl}:=F.all hj;show nf g _
 .cases q:b with
  |nil=>show ag q
  |cons a t=>rw[q]at z;cases z
 let{g,_,rfl}:=aAo.mp hd;show nf g _
end
end
end K12
section
namespace K12
open PySem L2 DL M
variable [Tabs]
def all_mk{l:PySem.W.OpenLaw}{w:cq}{K:km}{h:cy}{mg:fD}{fa f34 Pt:bb}(X:K.In h)(G:h.Ns bt mg)(hfa:mg "law"=some (.ref fa))
  (g0:Got K "way_between" Z6)
  (g1:Got K "cross_of" gD)
  (g2:Got K "product_of" bY)
  (g3:Got K "common_divisor" P1)
  (g4:Got K "plane_through" S6)
  (g5:Got K "side_of" lV)
  (g6:Got K "first_real_way" P3)
  (g7:Got K "dimension_of" B1)
  (g8:Got K "refuse_flat" Y8)
  (g9:Got K "points_on" Y5)
  (g10:Got K "plane_about" Z3)
  (g11:Got K "first_pair" bG)
  (g12:Got K "turn_of" lN)
  (g13:Got K "left_chain" bM)
  (g14:Got K "ring_of" lS)
  (g15:Got K "pairs_round" aD)
  (g16:Got K "faces_from" bI)
  (g17:WQ K "faces_of" J8 Pt)
  (g18:Got K "_law_cell" dE)
  (g19:Got K "_law_way" gK)
  (g20:Got K "_law_cross" bC)
  (g21:Got K "_law_product" W9)
  (g22:Got K "_law_point" bD)
  (g23:Got K "_law_points" G7)
  (g24:Got K "_law_solid" L6)
  (g25:Got K "_law_slants" Q0)
  (g26:Got K "_law_slanted" W0)
  (g27:Got K "_law_land" Y1)
  (g28:Got K "_law_plane" T5)
  (g29:Got K "_law_planes" G5)
  (g30:Got K "_law_on" lE)
  (g31:Got K "_law_corners" N3)
  (g32:Got K "_law_wholes" Q3)
  (g33:Got K "_law_ring" Q7)
  {od34 an34:Option bb}{sl34:Array (Option av)}{oc34 kV34 dc34 pm34 cd34 ct34:av}
  (a34:PySem.W.nsIn K bt "law"=some (some (.ref f34))) (l34:K.lookup f34=some {oc34,od34,.func (PySem.W.fnOf "law" "law" (D3 iU) (q9 iU) (b9 iU) .none kV34 dc34 pm34 an34 cd34 ct34),sl34}) (e34:PySem.W.codeIn K cd34 "law"=true) (k34:PySem.W.keepIn K (.ref f34)=true)
  (z_abs:PySem.W.nsIn K bt "abs"=some none)
  (z_len:PySem.W.nsIn K bt "len"=some none)
  (z_any:PySem.W.nsIn K bt "any"=some none)
  (z_min:PySem.W.nsIn K bt "min"=some none)
  (z_list:PySem.W.nsIn K bt "list"=some none)
  (E:PySem.W.nsIn K bt "reversed"=some none)
  (z_zip:PySem.W.nsIn K bt "zip"=some none)
  (z_sorted:PySem.W.nsIn K bt "sorted"=some none)
  (z_set:PySem.W.nsIn K bt "set"=some none)
  (z_range:PySem.W.nsIn K bt "range"=some none)
  (z_tuple:PySem.W.nsIn K bt "tuple"=some none)
  (A:PySem.W.nsIn K bt "enumerate"=some none)
  (z_max:PySem.W.nsIn K bt "max"=some none)
  (q:PySem.W.nsIn K bt "isinstance"=some none)
  (z_bool:PySem.W.nsIn K bt "bool"=some none)
  (z_int:PySem.W.nsIn K bt "int"=some none)
  {la:bb}{N:Option bb}{H I J:Tok}{O:Nat}{Q:Array (Option av)}
  (T:PySem.W.nsIn K bt "NO_WAY"=some (some (.ref la))) (U:K.lookup la=some {.type "tuple",N,.seq #[.int 0 H,.int 0 I,.int 0 J] O,Q})
  (nt:(Pt,tbK)∈Tabs.tbs)
  :
  ∃fd:eO,(∀(s:a9) (v:av),BindsTo s fd {[v],[]} [("script",v)])/\∀base:cy,K.In base->base.Ns bt mg->iO mg base->FnOk l.prog w K mg base xP 10 fa fd ["script"] (pG K):=by
 have e:=hfa.symm.trans (PySem.W.mg_of X G a34);cases e;have ua:=PySem.W.mg_none_of X G z_abs;have br:=PySem.W.mg_none_of X G z_len;have b_any:=PySem.W.mg_none_of X G z_any;have ko:=PySem.W.mg_none_of X G z_min;have gu:=PySem.W.mg_none_of X G z_list;have ke:=PySem.W.mg_none_of X G E;have b_zip:=PySem.W.mg_none_of X G z_zip;have bg:=PySem.W.mg_none_of X G z_sorted;have ku:=PySem.W.mg_none_of X G z_set;have bu:=PySem.W.mg_none_of X G z_range;have cb:=PySem.W.mg_none_of X G z_tuple;have jg:=PySem.W.mg_none_of X G A;have b_max:=PySem.W.mg_none_of X G z_max;have bf:=PySem.W.mg_none_of X G q;have xf:=PySem.W.mg_none_of X G z_bool;have b_int:=PySem.W.mg_none_of X G z_int;have eh:OO K mg "NO_WAY" [0,0,0]:=fj (PySem.W.mg_of X G T) U;show{PySem.W.fnOf "law" "law" (D3 iU) (q9 iU) (b9 iU) .none kV34 dc34 pm34 an34 cd34 ct34,λs v=>.of_eq rfl,λbase _ _ hB=>?_};have cg:v5 l.prog w K mg base 1 "way_between" 2 l4:=o8 (g0.def X G);have gg:v5 l.prog w K mg base 1 "cross_of" 2 u5:=C0 (g1.def X G);have de:v5 l.prog w K mg base 1 "product_of" 2 i8:=x8 (g2.def X G);have a:v5 l.prog w K mg base 1 "common_divisor" 1 F5:=O8 ua (g3.def X G);have d:=S1 gg cg a de (g4.def X G);have Y:v5 l.prog w K mg base 1 "side_of" 2 aG:=lO (g5.def X G);have b:v5 l.prog w K mg base 1 "first_real_way" 1 A7:=F7 eh (g6.def X G);have gv:=E9 cg b gg de br b_any (g7.def X G);have k:=Z1 gv (g8.def X G);have jh:=D8 Y (g9.def X G);have ia:=J0 cg de gg d eh (g10.def X G);have r:=bU jh ia gv ko (g11.def X G);have r_turn_of:=kH de gg cg (g12.def X G);have t:=U3 r_turn_of br (g13.def X G);have r_ring_of:=jY t gu ke (g14.def X G);have m:v5 l.prog w K mg base 1 "pairs_round" 1 A4:=Z4 gu b_zip (g15.def X G);have u:=bZ ia r_ring_of m br bg (g16.def X G);have L:=bF jh k r u bg ku hB nt (g17.def X G);have ji:v5 l.prog w K mg base 1 "_law_cell" 2 bV:=K9 br (g18.def X G);have ir:v5 l.prog w K mg base 1 "_law_way" 2 l4:=A3 (g19.def X G);have gh:v5 l.prog w K mg base 1 "_law_cross" 2 u5:=C4 (g20.def X G);have ba:v5 l.prog w K mg base 1 "_law_product" 2 i8:=o7 (g21.def X G);have x:v5 l.prog w K mg base 1 "_law_point" 2 aW:=bT bu cb (g22.def X G);have n:=aE ji x bu jg (g23.def X G);have y:=cA ir gh ba (g24.def X G);have o:v5 l.prog w K mg base 1 "_law_slants" 1 U5:=Z2 (g25.def X G);have f:v5 l.prog w K mg base 1 "_law_slanted" 2 K1:=V4 (g26.def X G);have B:=dG y n ji f o (g27.def X G);have z:=T0 ba ua cb (g28.def X G);have p:=Y9 gh ir ba z bg ku bu br ko b_max cb (g29.def X G);have lg:=aI ba (g30.def X G);have g:=V3 lg br bg ku (g31.def X G);have ib:v5 l.prog w K mg base 1 "_law_wholes" 2 V0:=I0 br bf cb xf b_int (g32.def X G);have C:=eM lg ib ir ba gh bg bf gu ko bu br (g33.def X G);show o_law B p g L ib C gu br bf bu cb (SC (st:=iU) l34 e34 k34)
end K12
namespace PySem.W.Fast
def tw4509566215081782176:=0
def tw12395079019497457165:=0
def tw12326762743574944021:=0
def tw17556754448241852616:=0
def tw15051574262212880127:=0
def tw1691652356314777095:=0
def tw14336563551364380330:=0
def tw13780069157741159267:=0
def tw12688392322324658331:=0
def tw4185638038196252125:=0
def tw1791674737172114873:=0
def tw6089241066284850695:=0
def tw666772392634979924:=0
def tw12748856637057884747:=0
def tw5721133406363169115:=0
def tw15155144473046807934:=0
def tw15302604850140064225:=0
def tw14782611215268891441:=0
def tw2847894002811114510:=0
def tw444778392265021998:=0
def tw9142108506087241304:=0
def tw4762537949012031992:=0
def tw15525287571511811787:=0
def tw14298060197723844183:=0
def tw8581087383839233197:=0
def tw13102172878550868625:=0
def tw2475553545931207978:=0
def tw9116685207996308056:=0
def tw2647982317096079465:=0
def tw5658735044512785813:=0
def tw1629689357399746072:=0
def tw2393367028478860920:=0
def tw15900384647941467534:=0
def tw17585835166745462127:=0
def tw16860534863894408838:=0
def tw3706750696252102936:=0
def tw4048688964616204266:=0
def tw4198527149150492134:=0
def tw990096922319930892:=0
def tw7179490056967289224:=0
def tw7678084218840866956:=0
def tw8184560727020355659:=0
def tw12043356622629601337:=0
def tw8398356786490876876:=0
def tw588327229970198162:=0
def tw969073429206311910:=0
def tw1426919462361186051:=0
def tw17171884370097358712:=0
def tw17658539582322169762:=0
def tw18237639415389485717:=0
def tw16946534714329187772:=0
def tw15638207121401503833:=0
def tw2139150125325027858:=0
def tw218951749171685916:=0
def tw13033226402309535361:=0
def tw10768501352803346649:=0
def tw17053342220397819171:=0
def tw10288096858445820786:=0
def tw17547401511209967463:=0
def tw8786338994290062438:=0
def tw14371975983163128088:=0
def tw3344852441037404561:=0
def tw13041619273637839965:=0
def tw11733821590937865110:=0
def tw13584642416130521968:=0
def tw4177545033471150690:=0
def tw3523591095501743398:=0
def tw6415173620607142025:=0
def tw5621302879009859461:=0
def tw16069621726095081993:=0
def tw13548437245101620395:=0
def tw13220311891302959866:=0
def tw14225148655005127460:=0
def tw4787726966513842379:=0
def tw7314671589808461842:=0
def tw15358408825689237129:=0
def tw1411725715434615307:=0
def tw2372010456769727888:=0
def tw17059689487407138135:=0
def tw7680277265991635506:=0
def tw1725349917605780568:=0
def tw11505239573626480182:=0
def tw8264275504550990045:=0
def tw4847227611023852849:=0
def tw6401656851900132140:=0
def tw7970377948143982019:=0
def tw12187844797478192504:=0
def tw14953046340779729545:=0
def tw15294406543424779820:=0
def tw8750629254092055473:=0
def tw12389387433410845618:=0
def tw1054742173592659068:=0
def tw17858667936187694993:=0
def tw12097750152250822791:=0
def tw12777626473581977409:=0
def tw15144521942727811365:=0
def tw8015573381840108665:=0
def tw11427527472502601241:=0
def tw7884068907260369678:=0
def tw13848411315916622649:=0
def tw3540303176063274963:=0
def tw6365058179033429217:=0
def tw9121980434360936832:=0
def tw17512815654498317096:=0
def tw18213582148071768340:=0
def tw455202974613900208:=0
def tw5163981592337665607:=0
def tw14309813679472136934:=0
def tw16587789903458585881:=0
def tw17447627171624004931:=0
def tw17076488479608013012:=0
def tw5029622654587804620:=0
def tw7554916345946959487:=0
def tw12168514676517368661:=0
def tw14700539815262959050:=0
def tw13970425651095122378:=0
def tw13656654586347413008:=0
def tw17572623998300611726:=0
def tw119661229433252087:=0
def tw14314993606186819180:=0
def tw4150181328698993635:=0
def tw10074873687441987162:=0
def tw11685425469021480419:=0
def tw6008986221745591712:=0
def tw17321025265629307543:=0
def tw1921291655037575671:=0
def tw808866700592239053:=0
def tw10882462237057724628:=0
def tw12948309147807119890:=0
def tw15879932422784992061:=0
def tw17545799383109784458:=0
def tw2707797054673943384:=0
def tw723354225221584534:=0
def tw7250649451410187781:=0
def tw7501309412325935884:=0
def tw8679396410504434198:=0
def tw11855657156394666494:=0
def tw5502410430979526564:=0
def tw10601270379615863519:=0
def tw11188406317153870112:=0
def tw13516012365039629286:=0
def tw14746059700061846490:=0
def tw15198715933923509881:=0
def tw1594676931331782185:=0
def tw17775831021232918941:=0
def tw18136233195746329206:=0
def tw18386394578447288479:=0
def tw3742593523354512891:=0
def tw425557309418995974:=0
def tw5285047920000781306:=0
def tw5916174750654638712:=0
def tw5972742249352420135:=0
def tw6316990999168856953:=0
def tw6616518522277015101:=0
def tw687097971228381314:=0
def tw6977779238957989845:=0
def tw735949629833194223:=0
def tw862703359238541099:=0
def tw9551294288112898964:=0
def tw9896745462041139809:=0
def tw12632578352568686760:=0
def tw6625333702631867523:=0
def tw7735633768396787580:=0
def tw1876091458917045261:=0
def tw7640272302419141279:=0
def tw12233705443333780253:=0
def tw16726767344180998482:=0
def tw17493727137219274409:=0
def tw6112047986492144861:=0
def tw6985869505187794049:=0
def tw8642488363703068135:=0
def tw18323716161144782543:=0
def tw483118855135462977:=0
def tw16879724067195007160:=0
def tw13071906979887191437:=0
def tw15439556600056717479:=0
def tw7016418013987494734:=0
def tw15782363316663360912:=0
def tw2291475029000034624:=0
def tw6649722309150412076:=0
def tw7535996705242138117:=0
def tw12989099250719362459:=0
def tw17338451831611260684:=0
def tw15273195428310803567:=0
def tw16592514618227056321:=0
def tw1706305518908386283:=0
def tw16044135534925906527:=0
def tw8907198467659724806:=0
def tw12631046795227672470:=0
def tw14137099895595799303:=0
def tw5092877024571783070:=0
def tw10224065550346880200:=0
def tw10600403002617112109:=0
def tw10788622732474524783:=0
def tw10851722951296767868:=0
def tw10874710075434573109:=0
def tw11079997010674634669:=0
def tw11351287829211460566:=0
def tw11761771741916345342:=0
def tw12095845438836524030:=0
def tw12208380000718717618:=0
def tw12481567839755900352:=0
def tw13231808635144380621:=0
def tw13661166454347878405:=0
def tw14180879113532551401:=0
def tw14235431541008898043:=0
def tw14451145891106889949:=0
def tw1454377297193010467:=0
def tw15255705827277077656:=0
def tw15720666838423252175:=0
def tw15960442049202945351:=0
def tw16111848564722917850:=0
def tw16179636548463505955:=0
def tw17051809070924327552:=0
def tw17195532876110055521:=0
def tw17443256873668391903:=0
def tw1749771614009735304:=0
def tw17685333485430956578:=0
def tw18348395277538356161:=0
def tw1998895495913336229:=0
def tw2063859151495239086:=0
def tw2223967250236759711:=0
def tw265738884838994601:=0
def tw2798750406800101016:=0
def tw2981422002147365483:=0
def tw3339682963313553214:=0
def tw3650630456915879416:=0
def tw3900012783673901162:=0
def tw4316167282608339045:=0
def tw43583053817780923:=0
def tw437854079138138704:=0
def tw4492829378202993043:=0
def tw449769418081057911:=0
def tw5491963737093232349:=0
def tw5572927221610340225:=0
def tw5719482747852295718:=0
def tw6417429578574700112:=0
def tw659716548351053259:=0
def tw6730723448761778790:=0
def tw7293814977106002057:=0
def tw7620656485467167843:=0
def tw7660838503495335042:=0
def tw7921640355134802854:=0
def tw7971763670479126506:=0
def tw841621674445682538:=0
def tw8532670283410405803:=0
def tw8668610514657881312:=0
def tw8911405992650775392:=0
def tw8930708086493702941:=0
def tw9231557316751184095:=0
def tw9280956872990723179:=0
def tw9433953919229026971:=0
def tw9483171797647182989:=0
def tw9944060896092219980:=0
end PySem.W.Fast
open PySem PySem.W PyProof.Rows
set_option maxRecDepth 100000 in
theorem PySem.Challenge.cw_stakebodies_k12_faces_by_all_planes_holds : PySem.Challenge.rw_stakebodies_k12_faces_by_all_planes.Holds := by
 w_on;o_law;k_head;(case hw=>w_witness2)
 k_fill
 letI tabs9:DL.Tabs:=⟨[(169,K12.tbK)]⟩
 show DL.UV (l:=PySem.Challenge.rw_stakebodies_k12_faces_by_all_planes) (k:=10) rfl rfl {rfl,by decide,by decide} (λw h Y=>{PySem.W.km_in_of Y,PySem.W.km_tabs_of Y}) (DL.UU (c:=173) (by k_mem) (λw=>by kernel_rfl)) (aAP.mpr {aAY,aDd}) (λw=>by kernel_rfl) ?F
 case F=>
  intro w mg fa h KX G hmg;refine' K12.all_mk KX G hmg ?_ ?_ ?_ ?_ ?_ ?_ ?_ ?_ ?_ ?_ ?_ ?_ ?_ ?_ ?_ ?_ ?_ ?_ ?_ ?_ ?_ ?_ ?_ ?_ ?_ ?_ ?_ ?_ ?_ ?_ ?_ ?_ ?_ ?_ ?a34 ?l34 ?e34 ?k34 ?z_abs ?z_len ?z_any ?z_min ?z_list ?z_reversed ?z_zip ?z_sorted ?z_set ?z_range ?z_tuple ?z_enumerate ?z_max ?z_isinstance ?z_bool ?z_int ?ca_NO_WAY ?cl_NO_WAY (aBj.mpr rfl)
  all_goals first|(refine' DL.cw ?a ?l ?c ?k;(case a=>k_is);(case l=>k_is);(case c=>k_is);(case k=>k_is))|(refine' DL.WL ?a ?l ?c ?k rfl ?n;(case a=>k_is);(case l=>k_is);(case c=>k_is);(case k=>k_is);(case n=>kernel_rfl))|k_is|skip
end
