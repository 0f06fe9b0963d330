import PyProof.Rows.All
import Wide.All
import OpenK.AllK
import Wide.FinOn
import Lean
import PyProof.EqAt
import PyProof.EqKinds
import PyProof.TupleCall
import PyProof.NeKinds
import KE.RegKIsAll
import PyProof.ExcClass3
import PySem.SetTable
import PySem.Value
import PyProof.Rows.SortShellK
import OpenK.KOwn
import KE.KNestM
import PyProof.Rows.StrWeight2
import KE.KRevSl
import PyProof.CollectIter
import PyProof.SetKind
import PyProof.Walks
import PyProof.ForAny
import PyProof.FactsAll.set_1
import PyProof.FactsAll.set_2
import PyProof.ZipIter
import KE.KRevIter
import PyProof.ListNew
import PyProof.ConsumeS
import KE.KIsAll
import PyProof.DictWalks
import KE.KDictList
import PySem.Challenge.RW_stakebodies_k44_whole_shadows_and_faces
set_option Elab.async false
set_option linter.all false
set_option backward.eqns.nonrecursive false
set_option maxRecDepth 100000
set_option maxHeartbeats 4000000
theorem hV{c:Prop}{h:Decidable c}(k:c){α:Sort _}{t e:α}:ite c t e=t:=if_pos k
theorem h9{c:Prop}{h:Decidable c}(k:¬c){α:Sort _}{t e:α}:ite c t e=e:=if_neg k
theorem ip{α:Sort _}{β:Sort _}{a b:α}(f:α->β)(h:a=b):f a=f b:=congrArg f h
abbrev iu:=PySem.W.Frag
abbrev ix:PySem.Str:="__debug__"
abbrev ka:PySem.Str:="__classdict__"
open PySem renaming Value->au,wpAny->a9,Shared->ba,starEach->bb,Addr->bc,model->be,mainGlobals->bt,Program->bM,Around->cf,World->cp,Heap->cq,Expr->cu,Stmt->cv,backTo->cy,cLine->cz,bootBuiltins->de,eval->dm,compareOp->dq,FuncData->dA,assignEach->dC,cellsFrom->d3,foldedSetIterable->d7,binaryOp->ee,NameKind->ek,rawInt->ez,swapsWith->eN,SetTable->eQ,codeAmong->eR,argBest->eY,holding->ff,pyNext->fg,IsPair->fh,swapsWithSole->fm,swappedStores->fo,attributeBase->gk,codeAny->gm,assign->gn,sliceBounds->gs,updateSeq->gv,behindInMarks->gy,Scope->gW,pickOrder->hE,wpAny_bind->aAa,wpAny_pure->aAb,wpAny_holding->aAW,wpAny_Call_Name_kw->aBg,wpAny_truthy_bool->aBu,wpAny_call_entry->aBD,wpAny_specialOf->aBE,wpAny_newObj_type->aBJ,wpAny_seqItems->aBR,codeAny_builtin->aBS,plainId_quiet->aCd,wpAny_setField_rec->aCe,wpAny_updateSeq->aCg,wpAny_setState_of->aCn,builtinLookup_eq_fast->aCu,wpAny_forIn_list->aCA,wpAny_callSpecial?_slot->aCF,wpAny_mono->aCL,wpAny_field->aDb,wpAny_passesOwn->aDd,wpAny_nextOf_list_item->aDn,wpAny_callSpecialIfBoundUnlessNone?_slot->aDs,typeLookup_type->aDz,wpAny_rule->aDA,wpAny_pyIter_list->aDD,wpAny_isInstance->aDR,codeAny_mono->aDU,wpAny_typeOf->aDV,wpAny_comprehension_free->aDW,wpAny_Assign_Name->aEf,wpAny_letGo->aEg,wpAny_execs_cons->aEp,wpAny_attempt->aEx,wpAny_standAt->aEy,wpAny_execs_nil->aED,wpAny_loadPart'->aEE,pushCells_keeps->aEF,wpAny_setEntries_of->aEH,slot_dict_contains->aFb,isSubtype_type->aFe,wpAny_tryCatch->aFf,wpAny_pyIter_slot->aFr,sizeLine_eq->aFu,noFill_tuple_add->aFA,beq_builtin_none->aFC,wpAny_askSetting->aFD,concat_meets->aFV,wpAny_newTuple->aGh
open PySem.Heap renaming get?_push_of_some->aAc,lt_size->aAg,get?_push_size->aAr,get?_update_other->aAF,get?_update_self->aBo,size_push->aBL,get?_none_of_le->aEu
open List renaming mem_cons->aAd,mem_cons_of_mem->aAe,length_map->aAh,getElem?_eq_getElem->aAi,mem_map->aAj,map_cons->aAk,size_toArray->aAn,getD_eq_getElem?_getD->aAo,length_cons->aAq,mem_of_getElem?->aAx,pairwise_cons->aAy,length_append->aAz,getElem?_append_right->aAA,getElem?_eq_some_iff->aAC,mem_append->aAD,getElem?_map->aAG,nodup_cons->aAH,mem_map_of_mem->aAI,cons_append->aAJ,mem_singleton->aAK,mem_append_right->aAN,reverse_cons->aAP,not_mem_nil->aAR,mem_flatMap->aAV,mem_filter->aAX,sum_cons->aAZ,mem_range->aBa,getElem?_append_left->aBb,range->aBc,map_map->aBd,length_nil->aBf,lookup_cons->aBh,map_append->aBi,mem_append_left->aBl,getLast?_cons_cons->aBm,mem_cons_self->aBn,getElem_of_mem->aBp,dropLast_concat->aBq,pairwise_map->aBt,getElem?_replicate->aBA,replicate_succ->aBB,replicate_zero->aBC,nil_append->aBF,getElem?_zip_eq_some->aBH,getElem?_set_self->aBM,lookup_cons_self->aBN,mem_reverse->aBO,perm_ext_iff_of_nodup->aBQ,length_take->aBU,length_reverse->aBW,zip_cons_cons->aBZ,mem_filterMap->aCa,append_nil->aCb,map_nil->aCi,all_eq_true->aCj,nodup_iff_pairwise_ne->aCk,filter_sublist->aCm,pairwise_iff_getElem->aCo,getElem?_eq_none_iff->aCq,length_replicate->aCs,set_cons_succ->aCy,set_cons_zero->aCz,getElem_mem->aCB,getElem?_set_ne->aCC,getElem?_cons_zero->aCE,nodup_append->aCK,length_range->aCN,filterMap_cons->aCO,getElem_map->aCT,getElem?_toArray->aCV,zipWith->aCW,nodup_nil->aCX,replicate->aCZ,mem_of_getLast?->aDc,forIn_cons->aDg,getElem?_cons_succ->aDi,length_pos_of_mem->aDk,take_of_length_le->aDm,filterMap_map->aDp,map->aDr,mem_iff_getElem?->aDv,set->aDE,mem_of_mem_take->aDG,mem_of_mem_drop->aDH,drop_eq_getElem_cons->aDL,any_eq_true->aDN,length_drop->aDP,map_congr_left->aDS,pairwise_singleton->aDY,of_mem_zip->aDZ,range'->aEh,forIn_nil->aEi,pairwise_reverse->aEj,dropLast_eq_take->aEo,zipIdx_cons->aEr,eq_nil_of_length_eq_zero->aEs,length_dropLast->aEv,dropLast_concat_getLast->aEz,foldl_cons->aEC,zipIdx_nil->aEG,length_pos_iff->aEK,map_eq_nil_iff->aEL,exists_cons_of_ne_nil->aEM,perm_append_singleton->aEP,head?_reverse->aES,getLast?_cons->aET,exists_mem_of_ne_nil->aFd,flatMap_cons->aFi,length_erase_of_mem->aFj,ext_getElem?->aFm,append_assoc->aFq,filter_cons_of_pos->aFs,filter_cons_of_neg->aFt,eraseIdx_cons_succ->aFv,map_fst_zip->aFz,map_reverse->aFB,range_succ_eq_map->aFG,getElem_cons_succ->aFI,length_singleton->aFM,length_filter_le->aFO,take_append_drop->aFQ,length_set->aFW,dropLast_sublist->aFY,mem_erase_of_ne->aGa,drop_zero->aGj,all_cons->aGr,map_tail->aGu,map_take->aGv
open False renaming elim->aAf
open Nat renaming le_refl->aAl,ne_of_lt->aAm,le_trans->aAp,lt_of_lt_of_le->aAw,zero_le->aAY,lt_irrefl->aBr,lt_succ_of_lt->aBw,le_add_right->aCh,lt_of_le_of_lt->aCv,reduceAdd->aCH,reduceSub->aCI,le_of_succ_le->aCM,lt_or_eq_of_le->aDq,le_of_lt->aDw,ne_of_gt->aDx,lt_succ_self->aDQ,le_of_eq->aEn,le_of_not_lt->aEq,mul_le_mul->aFg,mod_lt->aFl,le_of_lt_succ->aFn,gcd_dvd_left->aFy,min_eq_right->aFF,le_add_left->aFK,le_antisymm->aFN,zero_add->aFP,not_lt_zero->aFS,min_eq_left->aFT,lt_trans->aGG,succ_pos->aGH
open Int renaming mul_nonpos_of_nonneg_of_nonpos->aAs,mul_neg_of_pos_of_neg->aAt,mul_eq_zero->aAu,mul_le_mul_of_nonneg_left->aAB,le_of_lt->aAL,mul_pos->aAM,mul_le_mul_of_nonneg_right->aAS,mul_nonneg->aBk,le_refl->aBy,mul_pos_of_neg_of_neg->aBG,toNat_natCast->aBK,mul_zero->aBX,lt_or_gt_of_ne->aDo,neg_mul_neg->aDt,eq_of_mul_eq_mul_left->aDI,lt_or_le->aDT,mul_nonneg_of_nonpos_of_nonpos->aDX,mul_ediv_cancel'->aEt,toNat->aEI,mul_lt_mul_of_pos_left->aEN,le_of_mul_le_mul_right->aEO,natAbs_eq_zero->aEU,ofNat_dvd_left->aEV,le_of_mul_le_mul_left->aFc,neg_nonneg_of_nonpos->aFh,add_zero->aFL,gcd->aGC,mul_comm->aGE,zero_mul->aGF
open Bool renaming false_eq_true->aAv,and_eq_true->aAQ,false_ne_true->aAU,not_true->aDB,eq_iff_iff->aEb,and_eq_true_iff->aGf,and_false->aGi
open Array renaming getElem?_toList->aAE,getElem?_eq_getElem->aAO,length_toList->aBj,getElem?_eq_some_iff->aCl,forIn_toList->aCx,getElem?_eq_none->aCS,replicate->aEB,perm_iff_toList_perm->aEQ,getD->aFk,toList->aFU,getElem_toList->aGe,toList_append->aGn
open PySem.Builtin.Tuple renaming tupleHashOf->aAT,tupleExact->aDe,tupleItemsOf->aDF
open PySem.Builtin.Int renaming intBits->aBe
open PySem.Around renaming under_plainId->aBs,frames_deeper->aGb
open PyProof.Rows renaming callWith_type1->aBv,wpS_bind->aBz,wpS_pure->aCp,callWith_builtin1->aCt,slot_tuple_getitem->aCJ,envOfC->aCQ,wpS_forRange->aEk,listItems_at->aEm,pairsOf_size->aEW,assignInOrder_cons->aEX,KK_mirror_equal->aFR,mirror_perm->aGk,wpS_reverse->aGl
open PySem.PassesOwn renaming never->aBx
open PySem.Obj renaming mapSeq->aBI,putSet->aEA
open Or renaming inr->aBP,inl->aCD
open PySem.Builtin.SmallTypes renaming nextOf->aBT,ownedTupleIsFree->aBV,ownedTupleHandOut->aDM
open Ne renaming symm->aBY
open PySem.NameKind renaming cell->aCc
open PySem.Builtin.List renaming listExtendWith->aCf,listLengthHint->aCP,listItems->aCR,listTooLong->aDf,listSameRef->aDh,listTouch->aFJ
open ForInStep renaming yield->aCr
open PySem.Value renaming type->aCw,bool->aDC,ref->aDJ,builtin->aGs,int->aGL
open PySem.Builtin.Range renaming rangeSize->aCG,small->aGm
open PySem.F renaming plain_min_loop->aCU,plain_extend_loop->aDj,slot_zip_next->aEe,entry_min_loop->aFE
open Classical renaming byContradiction->aCY,choose_spec->aDu,choose->aDO,propDecidable->aEd
open PySem.Builtin.Slice renaming slicePlaces->aDa,sliceAdjust->aDK,sliceApplied->aER
open Option renaming map_eq_some_iff->aDl,isSome_iff_exists->aFp
open PySem.Str renaming ofString->aDy
open PySem.SetTable renaming bits->aEa,fits->aGt,insertAt->aGD,tooFull->aGJ
open PySem.SeqAt.EqAt renaming same->aEc,int_int->aEZ,of_refs->aFa,int_tuple->aGc,tuple_int->aGd,int_str->aGp,str_int->aGq
open Prod renaming ext->aEw
open PySem.Builtin.Builtins renaming bindParams->aEJ
open PySem.Calls renaming spliced_cons->aEY,spliced_nil->aFo,callWith_builtin->aFH
open PySem.Moved renaming trans->aFw
open PySem.Builtin.Frozenset renaming slot0->aFx
open List.cons renaming injEq->aFX
open List.Pairwise renaming filter->aFZ,nil->aGw
open List.Perm renaming refl->aGg
open Function renaming comp->aGo
open Sum renaming inl->aGx,inr->aGy
open Option.some renaming injEq->aGz
open True renaming intro->aGA
open PySem.Heap.SameBut renaming refl->aGB
open PySem.pickOrder renaming go->aGI
open Array.Perm renaming refl->aGK
abbrev F8:=PySem.Value->PySem.Shared->Prop
abbrev P4:=List (PySem.Addr×PySem.Obj)
abbrev cM:=PySem.Str->Option PySem.Value
abbrev yJ:=Bool->PySem.Shared->Prop
noncomputable section
namespace G
structure V where
 x:Int
 y:Int
 z:Int
deriving DecidableEq
instance:Add V:=⟨λu v=>⟨u.x+v.x,u.y+v.y,u.z+v.z⟩⟩
instance:Sub V:=⟨λu v=>⟨u.x-v.x,u.y-v.y,u.z-v.z⟩⟩
instance:Neg V:=⟨λu=>⟨-u.x,-u.y,-u.z⟩⟩
instance:HMul Int V V:=⟨λk u=>⟨k*u.x,k*u.y,k*u.z⟩⟩
instance:OfNat V 0:=⟨⟨0,0,0⟩⟩
@[simp]def SJ(u v:V):(u+v).x=u.x+v.x:=rfl
@[simp]def OA(u v:V):(u+v).y=u.y+v.y:=rfl
@[simp]def TU(u v:V):(u+v).z=u.z+v.z:=rfl
@[simp]def NG(u v:V):(u-v).x=u.x-v.x:=rfl
@[simp]def QV(u v:V):(u-v).y=u.y-v.y:=rfl
@[simp]def RZ(u v:V):(u-v).z=u.z-v.z:=rfl
@[simp]def a1h(u:V):(-u).x=-u.x:=rfl
@[simp]def a1f(u:V):(-u).y=-u.y:=rfl
@[simp]def a2b(u:V):(-u).z=-u.z:=rfl
@[simp]def pT(k:Int)(u:V):(k*u).x=k*u.x:=rfl
@[simp]def qE(k:Int)(u:V):(k*u).y=k*u.y:=rfl
@[simp]def pG(k:Int)(u:V):(k*u).z=k*u.z:=rfl
@[simp]def dF:(0:V).x=0:=rfl
@[simp]def cP:(0:V).y=0:=rfl
@[simp]def cU:(0:V).z=0:=rfl
def ext{u v:V}(a:u.x=v.x)(b:u.y=v.y)(d:u.z=v.z):u=v:=by cases u;cases v;simp_all
def pN{u v:V}:u=v↔u.x=v.x/\u.y=v.y/\u.z=v.z:=⟨λh=>by subst h;exact⟨rfl,rfl,rfl⟩,λ⟨a,b,c⟩=>ext a b c⟩
def dot(u v:V):Int:=u.x*v.x+u.y*v.y+u.z*v.z
def cr(u v:V):V:=⟨u.y*v.z-u.z*v.y,u.z*v.x-u.x*v.z,u.x*v.y-u.y*v.x⟩
def i3(a u v:V):Int:=dot a (cr u v)
@[simp]def ZA(u v:V):(cr u v).x=u.y*v.z-u.z*v.y:=rfl
@[simp]def VO(u v:V):(cr u v).y=u.z*v.x-u.x*v.z:=rfl
@[simp]def WN(u v:V):(cr u v).z=u.x*v.y-u.y*v.x:=rfl
def DJ(a u v w:V):i3 a u v*w+i3 a v w*u+i3 a w u*v=i3 u v w*a:=by apply ext<;>simp[i3,dot]<;>grind
def UB(f a u v w:V):i3 a u v*dot f w+i3 a v w*dot f u+i3 a w u*dot f v=i3 u v w*dot f a:=by simp[i3,dot];grind
def j5(a u v:V):i3 a v u=-i3 a u v:=by simp[i3,dot];grind
def C9(a u:V):i3 a u u=0:=by simp[i3,dot];grind
def aH(a u v w:V):i3 a (u+v) w=i3 a u w+i3 a v w:=by simp[i3,dot];grind
def aP(a u v w:V):i3 a u (v+w)=i3 a u v+i3 a u w:=by simp[i3,dot];grind
def QX(a u v w:V):i3 a u (v-w)=i3 a u v-i3 a u w:=by simp[i3,dot];grind
def yC(a:V)(k:Int)(u v:V):i3 a u (k*v)=k*i3 a u v:=by simp[i3,dot];grind
def aN(u v:V):dot u v=dot v u:=by simp[dot];grind
def u5(f u v:V):dot f (u+v)=dot f u+dot f v:=by simp[dot];grind
def d8(f u v:V):dot f (u-v)=dot f u-dot f v:=by simp[dot];grind
def i6(f:V)(k:Int)(v:V):dot f (k*v)=k*dot f v:=by simp[dot];grind
def M7(f:V)(k:Int)(v:V):dot (k*f) v=k*dot f v:=by simp[dot];grind
def C3(f:V):dot f 0=0:=by simp[dot]
def R0(a u v:V):dot (cr a u) v=i3 a u v:=by simp[i3,dot];grind
def u4{u:V}(h:u≠0):0<dot u u:=by
 have f:u.x≠0\/u.y≠0\/u.z≠0:=by
  by_cases a:u.x=0
  .by_cases b:u.y=0
   .by_cases c:u.z=0
    .exact absurd (ext a b c) h
    exact .inr (.inr c)
   exact .inr (.inl b)
  exact .inl a
 have e:∀t:Int,0<=t*t:=λt=>by
  rcases Int.le_total 0 t with q|q
  .exact aBk q q
  have:=aBk (aFh q) (aFh q);rwa [aDt]at this
 have d:∀t:Int,t≠0->0<t*t:=λt g=>by
  have:=e t;have:t*t≠0:=λz=>by rcases aAu.mp z with q|q<;>exact g q
  omega
 have a:=e u.x;have b:=e u.y;have c:=e u.z;unfold dot;rcases f with q|q|q
 .have:=d _ q;omega
 .have:=d _ q;omega
 have:=d _ q;omega
def z7(h:n≠0)(a:dot n u=0)(b:dot n v=0)(d:dot n w=0):i3 u v w=0:=by
 have e:i3 u v w*dot n n=0:=by have:=UB n n u v w;rw[a,b,d]at this;simp at this;omega
 rcases aAu.mp e with q|q
 .exact q
 have:=u4 h;omega
def v6(v:V):(0:Int)*v=0:=ext (by simp) (by simp) (by simp)
def pZ(v:V):v+0=v:=ext (by simp) (by simp) (by simp)
def iA(v:V):0+v=v:=ext (by simp) (by simp) (by simp)
structure Cone(Pos:V->Prop):Prop where
 add:∀{u v},Pos u->Pos v->Pos (u+v)
 mul:∀{k:Int}{u},0<k->Pos u->Pos (k*u)
 irr:¬Pos 0
section
variable{Pos:V->Prop} (C:Cone Pos)
include C
theorem Cone.comb{p q:Int}{u w:V}(a:0<p)(e:0<=q)(b:Pos w)(d:Pos u):Pos (p*w+q*u):=by
 by_cases h:q=0
 .subst h;rw[v6,pZ];exact C.mul a b
 exact C.add (C.mul a b) (C.mul (by lia) d)
theorem Cone.sgn{k:Int}{v:V}(b:Pos v)(h:Pos (k*v)):0<k:=by
 by_cases d:0<k
 .exact d
 exfalso;by_cases f:k=0
 .subst f;rw[v6]at h;exact C.irr h
 have a:=C.add h (C.mul (k:=-k) (by lia) b);have e:k*v+-k*v=0:=ext (by simp;grind) (by simp;grind) (by simp;grind);rw[e]at a;exact C.irr a
theorem Cone.tr{a u v w:V}(b:Pos u)(d:Pos v)(f:Pos w)(g:i3 u v w=0)(i:0<i3 a u v)(j:0<=i3 a v w):0<i3 a u w:=by
 refine C.sgn d (k:=i3 a u w) ?_;have e:i3 a u w*v=i3 a u v*w+i3 a v w*u:=by have h:=DJ a u v w;rw[g,v6,j5 a u w]at h;have l:=ip V.x h;have m:=ip V.y h;have n:=ip V.z h;simp at l m n;exact ext (by simp;grind) (by simp;grind) (by simp;grind)
 rw[e];exact C.comb i j f b
theorem Cone.tr'{a u v w:V}(b:Pos u)(d:Pos v)(f:Pos w)(g:i3 u v w=0)(i:0<=i3 a u v)(j:0<i3 a v w):0<i3 a u w:=by
 refine C.sgn d (k:=i3 a u w) ?_;have e:i3 a u w*v=i3 a v w*u+i3 a u v*w:=by have h:=DJ a u v w;rw[g,v6,j5 a u w]at h;have l:=ip V.x h;have m:=ip V.y h;have n:=ip V.z h;simp at l m n;exact ext (by simp;grind) (by simp;grind) (by simp;grind)
 rw[e];exact C.comb j i b f
end
structure ConeM(a:V)(Pos:V->Prop):Prop extends Cone Pos where
 inv:∀{u} (k:Int),Pos u->Pos (u+k*a)
def ConeM.tr{a:V}{Pos:V->Prop}(C:ConeM a Pos){u v w:V}(b:Pos u)(d:Pos v)(f:Pos w)(g:0<i3 a u v)(i:0<=i3 a v w):0<i3 a u w:=by
 refine C.sgn d (k:=i3 a u w) ?_;have e:i3 a u w*v=(i3 a u v*w+i3 a v w*u)+(-i3 u v w)*a:=by have h:=DJ a u v w;rw[j5 a u w]at h;have j:=ip V.x h;have l:=ip V.y h;have m:=ip V.z h;simp at j l m;exact ext (by simp;grind) (by simp;grind) (by simp;grind)
 rw[e];exact C.inv _ (C.comb g i f b)
def d9(w:V):Prop:=0<w.x\/(w.x=0/\(0<w.y\/(w.y=0/\0<w.z)))
instance(w:V):Decidable (d9 w):=inferInstanceAs (Decidable<|_\/_)
def A1:Cone d9 where
 add:=λ{u v} e f=>by unfold d9 at*;simp;lia
 mul:=λ{k u} a h=>by
  unfold d9 at*
  simp;rcases h with h|⟨h,b|⟨b,d⟩⟩
  .exact .inl (aAM a h)
  .exact .inr ⟨by rw[h];simp,.inl (aAM a b)⟩
  exact .inr ⟨by rw[h];simp,.inr ⟨by rw[b];simp,aAM a d⟩⟩
 irr:=by unfold d9;simp
def N2(w:V):Prop:=d9 (-w)
def DW:-(0:V)=0:=rfl
def aM:Cone N2 where
 add:=λ{u v} a b=>by have e:-(u+v)=-u+-v:=(by apply ext<;>simp<;>lia);unfold N2 at*;rw[e];exact A1.add a b
 mul:=λ{k u} d h=>by have e:-(k*u)=k*(-u):=ext (by simp;grind) (by simp;grind) (by simp;grind);unfold N2 at*;rw[e];exact A1.mul d h
 irr:=by unfold N2;rw[DW];exact A1.irr
def WL(w:V):d9 w\/w=0\/N2 w:=by
 unfold N2 d9;rw[pN];simp
 lia
def t8(v:V):v-v=0:=ext (by simp) (by simp) (by simp)
def fI(a u:V):i3 a u 0=0:=by simp[i3,dot]
def L4(a u v:V):i3 a u (-v)=-i3 a u v:=by simp[i3,dot];grind
def aT(a u v:V):i3 a (-u) v=-i3 a u v:=by simp[i3,dot];grind
structure Row(n:V)(Pos:V->Prop)(T:V->Prop):Prop where
 cone:Cone Pos
 nz:n≠0
 pl:∀X Y,T X->T Y->dot n (X-Y)=0
 tot:∀X Y,T X->T Y->X=Y\/Pos (X-Y)\/Pos (Y-X)
def Lft(n:V)(Pos:V->Prop)(a b X:V):Prop:=0<=i3 n (b-a) (X-a)/\(i3 n (b-a) (X-a)=0->(X=a\/Pos (X-a))/\(X=b\/Pos (b-X)))
def turn(n P Q R:V):Int:=i3 n (Q-P) (R-Q)
def Q1(n P:V):List V->List V
 |b::a::r=>if turn n a b P<=0 then Q1 n P (a::r)else b::a::r
 |r=>r
def w8(n:V)(ps:List V):List V:=ps.foldl (λc P=>P::Q1 n P c) []
def F7:List V->List (V×V)
 |b::a::r=>(a,b)::F7 (a::r)
 |_=>[]
def uN(n:V):List V->Prop
 |b::a::d::r=>0<i3 n (a-d) (b-a)/\uN n (a::d::r)
 |_=>True
def uN.tail(h:uN n (b::r)):uN n r:=by
 match r,h with
 |[],_=>trivial
 |[_],_=>trivial
 |_::_::_,h=>exact h.2
def Q4(h:e∈F7 r):e∈F7 (b::r):=by
 match r,h with
 |a::r,h=>exact aAe _ h
section
variable{n:V}{Pos:V->Prop}{T:V->Prop} (F:Row n Pos T)
include F
structure ChOk(n:V)(Pos:V->Prop)(done:V->Prop)(c:List V):Prop where
 mem:∀X∈c,done X
 ed:∀e∈F7 c,Pos (e.2-e.1)/\∀X,done X->Lft n Pos e.1 e.2 X
 bend:uN n c
 last:∀X,done X->∀z,c.getLast?=some z->X=z\/Pos (X-z)
theorem Row.ad0{done:V->Prop}(f:∀X,done X->T X)(m:Pos x)(o:dot n x=0):∀(c:List V),(∀X∈c,done X)->(∀e∈F7 c,Pos (e.2-e.1))->uN n c->(∀b a r,c=b::a::r->0<i3 n (b-a) x)->∀e∈F7 c,0<i3 n (e.2-e.1) x
 |[],_,_,_,_,e,d=>by cases d
 |[_],_,_,_,_,e,d=>by cases d
 |[b,a],_,_,_,h,e,d=>by simp[F7]at d;subst d;exact h b a [] rfl
 |b::a::p::r,g,j,s,h,e,d=>by
  have i:=h b a _ rfl;rcases aAd.mp d with q|q
  .subst q;exact i
  refine Row.ad0 f m o (a::p::r) (λX t=>g X (aAe _ t)) (λe d=>j e (Q4 d)) s.tail ?_ e q;intro w y z k;injection k with k l;injection l with l A;subst k l;have u:=j (p,a) (Q4 (by simp[F7]));have v:=j (a,b) (by simp[F7]);exact F.cone.tr u v m (z7 F.nz (F.pl _ _ (f _ (g _ (by simp))) (f _ (g _ (by simp)))) (F.pl _ _ (f _ (g _ (by simp))) (f _ (g _ (by simp)))) o) s.1 (aAL i)
theorem Row.weak(d:Pos u)(a:Pos v)(f:Pos w)(k:dot n u=0)(l:dot n v=0)(m:dot n w=0)(o:0<=i3 n u v)(p:0<=i3 n v w):0<=i3 n u w:=by
 have b:=z7 F.nz k l m;by_cases q:0<i3 n u v
 .exact aAL (F.cone.tr d a f b q p)
 by_cases r:0<i3 n v w
 .exact aAL (F.cone.tr' d a f b o r)
 have s:i3 n u v=0:=by lia
 have t:i3 n v w=0:=by lia
 have h:=DJ n u v w;rw[s,t,b,v6,v6,v6,iA,iA]at h;by_cases z:i3 n w u=0
 .rw[j5];lia
 exfalso;have e:v=0:=by have g:=ip V.x h;have i:=ip V.y h;have j:=ip V.z h;simp at g i j;exact ext ((aAu.mp g).resolve_left z) ((aAu.mp i).resolve_left z) ((aAu.mp j).resolve_left z)
 rw[e]at a;exact F.cone.irr a
theorem Row.ad7{done:V->Prop}(hd:∀X,done X->T X)(v:T P)(m:∀X,done X->Pos (P-X)):∀(c:List V),ChOk n Pos done c->c≠[]->
  (∀X q,c.head?=some q->done X->(X=q\/Pos (X-q))->0<=i3 n (P-q) (X-q))->
  ∃q r,Q1 n P c=q::r/\ChOk n Pos done (q::r)/\(∀X,done X->(X=q\/Pos (X-q))->0<=i3 n (P-q) (X-q))/\∀a w,r=a::w->0<turn n a q P
 |[],_,h,_=>absurd rfl h
 |[b],ok,_,o=>⟨b,[],rfl,ok,λX d h=>o X b rfl d h,λa w e=>by cases e⟩
 |b::a::r,ok,_,o=>by
  by_cases A:turn n a b P<=0
  .have e:Q1 n P (b::a::r)=Q1 n P (a::r):=by rw[Q1,hV A]
   rw[e];have i:=ok.mem b (by simp);have s:=ok.mem a (by simp);have O:=ok.ed (a,b) (by simp[F7]);refine Row.ad7 hd v m (a::r) ⟨λX d=>ok.mem X (aAe _ d),λe he=>ok.ed e (Q4 he),ok.bend.tail,λX d z t=>ok.last X d z (by rw[aBm];exact t)⟩ (by simp) ?_;intro X q hq d B;have C:a=q:=Option.some.inj hq;subst C;have hu:Pos (b-a):=O.1;have hp:Pos (P-b):=m b i;have Q:Pos (P-a):=m a s;have U:dot n (b-a)=0:=F.pl _ _ (hd _ i) (hd _ s);have pp:dot n (P-b)=0:=F.pl _ _ v (hd _ i);have E:dot n (P-a)=0:=F.pl _ _ v (hd _ s);unfold turn at A;have H:0<=i3 n (P-b) (b-a):=by rw[j5];lia
   rcases F.tot X b (hd X d) (hd b i)with z|z|z
   .
    subst z;have f:P-a=(P-X)+(X-a):=(by apply ext<;>simp<;>lia);rw[f,aH,C9];lia
   .
    have I:=o X b rfl d (.inr z);have px:dot n (X-b)=0:=F.pl _ _ (hd _ d) (hd _ i);have j:Pos (P-X):=m X d;have J:i3 n (P-a) (X-a)*(P-b)=i3 n (P-b) (X-b)*(P-a)+i3 n (P-b) (b-a)*(P-X):=by
     have k:=DJ n (b-a) (X-b) (P-b);rw[z7 F.nz U px pp,v6]at k;have f:P-a=(b-a)+(P-b):=(by apply ext<;>simp<;>lia);have e2:X-a=(b-a)+(X-b):=(by apply ext<;>simp<;>lia);have e3:P-X=(P-b)-(X-b):=(by apply ext<;>simp<;>lia);rw[f,e2,e3];generalize b-a=u at*
     generalize X-b=x at*
     generalize P-b=p at*
     rw[aH,aP,aP,C9];have I:=ip V.x k;have Y:=ip V.y k;have t:=ip V.z k;rw[j5 n p x]at k I Y t;simp at I Y t;have s1:=j5 n p x;have s2:=j5 n p u;have s3:=j5 n u x;apply ext<;>simp<;>grind
    by_cases zz:0<=i3 n (P-a) (X-a)
    .exact zz
    exfalso;have L:Pos ((-i3 n (P-a) (X-a))*(P-b)):=F.cone.mul (by lia) hp;have N:Pos (-i3 n (P-a) (X-a)*(P-b)+(i3 n (P-b) (X-b)*(P-a)+i3 n (P-b) (b-a)*(P-X))):=by
     by_cases y1:i3 n (P-b) (X-b)=0
     .rw[y1,v6,iA];by_cases y2:i3 n (P-b) (b-a)=0
      .rw[y2,v6,pZ];exact L
      exact F.cone.add L (F.cone.mul (by lia) j)
     exact F.cone.add L (F.cone.comb (by lia) H Q j)
    rw[<-J]at N;have e0:-i3 n (P-a) (X-a)*(P-b)+i3 n (P-a) (X-a)*(P-b)=0:=by apply ext<;>simp<;>grind
    rw[e0]at N;exact F.cone.irr N
   .
    rcases B with g|g
    .subst g;rw[t8,fI];exact aBy _
    have hl:=(O.2 X d).1;have l:0<=i3 n (P-a) (b-a):=by have f:P-a=(P-b)+(b-a):=(by apply ext<;>simp<;>lia);rw[f,aH,C9];lia
    exact F.weak Q hu g E U (F.pl _ _ (hd _ d)<|hd _ s) l hl
  have e:Q1 n P (b::a::r)=b::a::r:=by rw[Q1,h9 A]
  refine⟨b,a::r,e,ok,λX d h=>o X b rfl d h,λa' w e'=>?_⟩;injection e' with f _;subst f
  lia
theorem Row.push{done:V->Prop}(hd:∀X,done X->T X)(C:T P)(s:∀X,done X->Pos (P-X))(ok:ChOk n Pos done c)(I:c≠[])(J:∀X q,c.head?=some q->done X->X=q\/Pos (q-X)):
  ChOk n Pos (λX=>done X\/X=P) (P::Q1 n P c):=by
 obtain⟨q,r,e,f,u,j⟩:=F.ad7 hd C s c ok I (λX q u d h=>by
  rcases h with h|h
  .subst h;rw[t8,fI];exact aBy _
  exfalso;rcases J X q u d with z|z
  .subst z;rw[t8]at h;exact F.cone.irr h
  have:=F.cone.add h z;have v:X-q+(q-X)=0:=(by apply ext<;>simp<;>lia);rw[v]at this;exact F.cone.irr this)
 rw[e];have l:=f.mem q (by simp);have i:Pos (P-q):=s q l;have m:dot n (P-q)=0:=F.pl _ _ C (hd _ l);refine⟨λX d=>?_,λg w=>?_,?_,λX d z t=>?_⟩
 .rcases aAd.mp d with h|h
  .exact .inr h
  exact .inl (f.mem X h)
 .rcases aAd.mp w with h|h
  .subst h;refine⟨i,λX d=>?_⟩;rcases d with d|d
   .rcases F.tot X q (hd _ d) (hd _ l)with z|z|z
    .subst z;exact⟨by rw[t8,fI];exact aBy _,λ_=>⟨.inl rfl,.inr i⟩⟩
    .exact⟨u X d (.inr z),λ_=>⟨.inr z,.inr (s X d)⟩⟩
    .
     have:0<i3 n (P-q) (X-q):=by
      match r,j,f with
      |[],_,f=>
       rcases f.last X d q rfl with y|y
       .subst y;rw[t8]at z;exact absurd z F.cone.irr
       exfalso;have:=F.cone.add y z;have v:X-q+(q-X)=0:=(by apply ext<;>simp<;>lia);rw[v]at this;exact F.cone.irr this
      |a::o,j,f=>
       have x:=j a o rfl;unfold turn at x;have L:=f.mem a (by simp);have E:=f.ed (a,q) (by simp[F7]);have H:=(E.2 X d).1;have p:X-a=(q-a)-(q-X):=(by apply ext<;>simp<;>lia);dsimp only at H;rw[p,QX,C9]at H;have N:0<=i3 n (q-X) (q-a):=by rw[j5];lia
       have:=F.cone.tr' (a:=n) z E.1 i (z7 F.nz (F.pl _ _ (hd _ l)<|hd _ d) (F.pl _ _ (hd _ l)<|hd _ L) m) N x;have A:X-q=-(q-X):=(by apply ext<;>simp<;>lia);rw[A,L4,j5];lia
     exact⟨aAL this,λz=>by dsimp only at z;lia⟩
   subst d;exact⟨by rw[C9];exact aBy _,λ_=>⟨.inr i,.inl rfl⟩⟩
  .
   have k:=f.ed g h;refine⟨k.1,λX d=>?_⟩;rcases d with d|d
   .exact k.2 X d
   subst d;have x:=F.ad0 hd i m (q::r) f.mem (λe w=>(f.ed e w).1) f.bend (λb a o O=>by injection O with p A;subst p;exact j a o A) g h
   have Q:=(k.2 q l).1;have:0<i3 n (g.2-g.1) (X-g.1):=by have p:X-g.1=(q-g.1)+(X-q):=(by apply ext<;>simp<;>lia);rw[p,aP];lia
   exact⟨aAL this,λz=>by lia⟩
 .match r,j,f with
  |[],_,_=>trivial
  |a::o,j,f=>exact⟨j a o rfl,f.bend⟩
 rcases d with d|d
 .exact f.last X d z (by rw[aBm]at t;exact t)
 subst d;have B:(q::r).getLast?=some z:=by rw[aBm]at t;exact t
 exact .inr (s z<|f.mem z<|aDc B)
end
section
variable{n:V}{Pos:V->Prop}{T:V->Prop} (F:Row n Pos T)
include F
theorem ChOk.congr{done a:V->Prop}(ok:ChOk n Pos done c)(h:∀X,done X↔a X):ChOk n Pos a c:=
 ⟨λX b=>(h X).mp (ok.mem X b),λe d=>⟨(ok.ed e d).1,λX b=>(ok.ed e d).2 X ((h X).mpr b)⟩,ok.bend,λX b=>ok.last X ((h X).mpr b)⟩
theorem Row.fold:∀(rest:List V) (done:V->Prop) (c:List V),ChOk n Pos done c->c≠[]->(∀X q,c.head?=some q->done X->X=q\/Pos (q-X))->(∀X,done X->T X)->(∀X∈rest,T X)->
  (∀X Y,done X->Y∈rest->Pos (Y-X))->rest.Pairwise (λa b=>Pos (b-a))->
  ChOk n Pos (λX=>done X\/X∈rest) (rest.foldl (λc P=>P::Q1 n P c) c)/\rest.foldl (λc P=>P::Q1 n P c) c≠[]/\(∀X q,(rest.foldl (λc P=>P::Q1 n P c) c).head?=some q->(done X\/X∈rest)->X=q\/Pos (q-X))
 |[],done,c,ok,h,i,j,k,g,m=>⟨ChOk.congr F ok λX=>by simp,h,λX q f d=>by
   rcases d with d|d
   .exact i X q f d
   cases d⟩
 |P::rest,done,c,ok,h,i,j,k,g,m=>by
  have o:=k P (by simp);have s:=F.push j o (λX d=>g X P d (by simp)) ok h i;have p:=aAy.mp m;obtain⟨t,u,v⟩:=Row.fold rest (λX=>done X\/X=P) (P::Q1 n P c) s (by simp) (λX q f d=>by
    have l:P=q:=Option.some.inj f;subst l;rcases d with d|d
    .exact .inr (g X P d (by simp))
    .exact .inl d) (λX d=>by
    rcases d with d|d
    .exact j X d
    .subst d;exact o) (λX d=>k X (aAe _ d)) (λX Y d r=>by
    rcases d with d|d
    .exact g X Y d (aAe _ r)
    subst d;exact p.1 Y r) p.2
  have e:∀X,((done X\/X=P)\/X∈rest)↔(done X\/X∈P::rest):=λX=>by simp[or_assoc]
  exact⟨ChOk.congr F t e,u,λX q f d=>v X q f ((e X).mpr d)⟩
theorem Row.ac6(k:ps≠[])(h:∀X∈ps,T X)(l:ps.Pairwise (λa b=>Pos (b-a))):
  ChOk n Pos (λX=>X∈ps) (w8 n ps)/\w8 n ps≠[]/\(∀X q,(w8 n ps).head?=some q->X∈ps->X=q\/Pos (q-X)):=by
 match ps,k with
 |p::rest,_=>
  have i:=aAy.mp l;have ok:ChOk n Pos (λX=>X=p) [p]:=⟨λX d=>by simpa using d,λe m=>by simp[F7]at m,trivial,λX d z j=>by simp at j;subst j;exact .inl d⟩
  obtain⟨o,r,s⟩:=F.fold rest (λX=>X=p) [p] ok (by simp) (λX q f d=>by have g:p=q:=Option.some.inj f;subst g;exact .inl d) (λX d=>by subst d;exact h _ (by simp)) (λX d=>h X (aAe _ d)) (λX Y d t=>by subst d;exact i.1 Y t) i.2
  have e:∀X,(X=p\/X∈rest)↔X∈p::rest:=λX=>by simp
  refine⟨ChOk.congr F o e,r,λX q f d=>s X q f ((e X).mpr d)⟩
end
def j0(n:V)(a:List V):List V:=(w8 n a).reverse.dropLast++(w8 n a.reverse).reverse.dropLast
def j7:List V->List (V×V)
 |a::b::r=>(a,b)::j7 (b::r)
 |_=>[]
theorem mJ:∀(l:List V) (a b:V),j7 (l++[a]++[b])=j7 (l++[a])++[(a,b)]
 |[],a,b=>rfl
 |[x],a,b=>rfl
 |x::y::l,a,b=>by have:=mJ (y::l) a b;simp only[aAJ,j7]at this⊢;rw[this]
theorem gZ:∀c:List V,j7 c.reverse=(F7 c).reverse
 |[]=>rfl
 |[_]=>rfl
 |b::a::r=>by
  have d:=gZ (a::r);rw[aAP,aAP]at*
  rw[mJ,d,F7,aAP]
theorem nA:∀(l:List V) (a:V) (m:List V),j7 (l++a::m)=j7 (l++[a])++j7 (a::m)
 |[],a,m=>by cases m<;>rfl
 |[x],a,m=>rfl
 |x::y::l,a,m=>by have:=nA (y::l) a m;simp only[aAJ,j7]at this⊢;rw[this]
def u8(l:List V):List (V×V):=l.zip (l.tail++l.take 1)
theorem bH:∀(l:List V) (z:V),l.zip (l.tail++[z])=j7 (l++[z])
 |[],z=>rfl
 |[a],z=>rfl
 |a::b::r,z=>by have:=bH (b::r) z;simp only[List.tail_cons,aAJ,j7,aBZ]at this⊢;rw[this]
def X4:u8 (a::l)=j7 (a::l++[a]):=bH (a::l) a
def QO(i:w8 n a=M::c)(j:w8 n a.reverse=m::d)(g:(M::c).getLast?=some m)(k:(m::d).getLast?=some M)(l:c≠[]):
  u8 (j0 n a)=(F7 (w8 n a)).reverse++(F7 (w8 n a.reverse)).reverse:=by
 rw[<-gZ,<-gZ];unfold j0;rw[i,j,aAP,aAP,aBq,aBq];have b:∃e,c.reverse=m::e:=by
  have:c.getLast?=some m:=by
   match c,l with
   |x::c,_=>rw[aBm]at g;exact g
  rw[<-aES]at this;match o:c.reverse,this with
  |x::r,this=>exact⟨r,by rw[show x=m from Option.some.inj this]⟩
 obtain⟨e,b⟩:=b;have f:∃h,d.reverse++[m]=M::h:=by
  have:(m::d).reverse.head?=some M:=by rw[aES];exact k
  rw[aAP]at this;match o:d.reverse++[m],this with
  |x::r,this=>exact⟨r,by rw[show x=M from Option.some.inj this]⟩
 obtain⟨h,f⟩:=f;have p:c.reverse++d.reverse=m::(e++d.reverse):=by rw[b];rfl
 rw[p,X4];have q:m::(e++d.reverse)++[m]=c.reverse++(d.reverse++[m]):=by rw[b];simp
 rw[q,f,nA]
def q8(a b:V):-(a-b)=b-a:=(by apply ext<;>simp<;>lia)
def o8:N2 (a-b)↔d9 (b-a):=by unfold N2;rw[q8]
def E9(h:d9 (a-a)):False:=by rw[t8]at h;exact A1.irr h
def u0(h:d9 (a-b))(h':d9 (b-a)):False:=by have:=A1.add h h';have d:a-b+(b-a)=0:=(by apply ext<;>simp<;>lia);rw[d]at this;exact A1.irr this
def K0(a b:V):a=b\/d9 (a-b)\/d9 (b-a):=by
 rcases WL (a-b)with h|h|h
 .exact .inr (.inl h)
 .refine .inl (ext ?_ ?_ ?_)
  .have:=ip V.x h;simp at this;lia
  .have:=ip V.y h;simp at this;lia
  have:=ip V.z h;simp at this;lia
 exact .inr (.inr (o8.mp h))
def zy(P Q X:V):Prop:=(d9 (Q-P)->(X=P\/d9 (X-P))/\(X=Q\/d9 (Q-X)))/\(d9 (P-Q)->(X=P\/d9 (P-X))/\(X=Q\/d9 (X-Q)))
structure EdgeOf(n:V)(T:V->Prop)(P Q:V):Prop where
 p:T P
 q:T Q
 ne:P≠Q
 left:∀X,T X->0<=i3 n (Q-P) (X-P)
 btw:∀X,T X->i3 n (Q-P) (X-P)=0->zy P Q X
section
variable{n:V}{T:V->Prop}
def EdgeOf.next(h:EdgeOf n T P Q)(h':EdgeOf n T P R):Q=R:=by
 have l:=h.left R h'.q;have i:=h'.left Q h.q;rw[j5]at i;have j:i3 n (Q-P) (R-P)=0:=by lia
 have k:i3 n (R-P) (Q-P)=0:=by rw[j5];lia
 have f:=h.btw R h'.q j;have g:=h'.btw Q h.q k;rcases K0 Q P with e|e|e
 .exact absurd e.symm h.ne
 .have b:=f.1 e;have d:d9 (R-P):=b.1.resolve_left (aBY h'.ne);rcases b.2 with q|q
  .exact q.symm
  rcases(g.1 d).2 with a|a
  .exact a
  exact(u0 q a).elim
 have b:=f.2 e;have d:d9 (P-R):=b.1.resolve_left (aBY h'.ne);rcases b.2 with q|q
 .exact q.symm
 rcases(g.2 d).2 with a|a
 .exact a
 exact(u0 q a).elim
def rL(n P Q X:V):i3 n (Q-P) (X-P)=i3 n (Q-P) (X-Q):=by have e:X-P=(X-Q)+(Q-P):=(by apply ext<;>simp<;>lia);rw[e,aP,C9];lia
def EdgeOf.prev(h:EdgeOf n T P R)(h':EdgeOf n T Q R):P=Q:=by
 have k:=h.left Q h'.p;have l:=h'.left P h.p;have m:i3 n (R-Q) (P-Q)=-i3 n (R-P) (Q-P):=by simp[i3,dot];grind
 have i:i3 n (R-P) (Q-P)=0:=by lia
 have j:i3 n (R-Q) (P-Q)=0:=by lia
 have f:=h.btw Q h'.p i;have g:=h'.btw P h.p j;rcases K0 R P with e|e|e
 .exact absurd e.symm h.ne
 .have b:=f.1 e;have d:d9 (R-Q):=b.2.resolve_left h'.ne;rcases b.1 with q|q
  .exact q.symm
  rcases(g.1 d).1 with a|a
  .exact a
  exact(u0 q a).elim
 have b:=f.2 e;have d:d9 (Q-R):=b.2.resolve_left h'.ne;rcases b.1 with q|q
 .exact q.symm
 rcases(g.2 d).1 with a|a
 .exact a
 exact(u0 q a).elim
end
theorem qI{Pos:V->Prop}(X:V):∀(c:List V),(∀Y∈c,X=Y\/Pos (X-Y)\/Pos (Y-X))->(∀q,c.head?=some q->X=q\/Pos (q-X))->(∀z,c.getLast?=some z->X=z\/Pos (X-z))->c≠[]->
  (∀u,Pos u->Pos (-u)->False)->X∈c\/∃a b,(a,b)∈F7 c/\Pos (X-a)/\Pos (b-X)
 |[],_,_,_,h,_=>absurd rfl h
 |[q],_,d,f,_,g=>by
  rcases d q rfl with e|e
  .exact .inl (by simp[e])
  rcases f q rfl with i|i
  .exact .inl (by simp[i])
  exact(g _ e (by rw[q8];exact i)).elim
 |b::a::r,j,d,f,_,g=>by
  rcases d b rfl with e|e
  .exact .inl (by simp[e])
  rcases j a (by simp)with y|y|y
  .exact .inl (by simp[y])
  .exact .inr ⟨a,b,by simp[F7],y,e⟩
  rcases qI X (a::r) (λY k=>j Y (aAe _ k)) (λq l=>by have:a=q:=Option.some.inj l;subst this;exact .inr y) (λz m=>f z (by rw[aBm];exact m)) (by simp) g with h|⟨n,o,h,p⟩
  .exact .inl (aAe _ h)
  exact .inr ⟨n,o,Q4 h,p⟩
def Row.ad4{Pos:V->Prop}{T:V->Prop}(F:Row n Pos T)(g:T a)(h:T b)(d:T P)(i:T Q)(j:Pos (P-a))(k:Pos (b-P))(l:Pos (Q-P))(m:0<=i3 n (b-a) (P-a))(f:0<i3 n (Q-P) (a-P))(o:0<=i3 n (Q-P) (b-P)):False:=by
 have p:i3 n (Q-P) (a-P)=i3 n (P-a) (Q-P):=by have e:a-P=-(P-a):=(q8 _ _).symm;rw[e,L4,j5];lia
 rw[p]at f;have:=F.cone.tr j l k (z7 F.nz (F.pl _ _ d g) (F.pl _ _ i d)<|F.pl _ _ h d) f o;have q:b-a=(b-P)+(P-a):=(by apply ext<;>simp<;>lia);rw[q,aH,C9,j5]at m
 lia
structure Sheet(n:V)(ts:List V):Prop where
 nz:n≠0
 pl:∀X∈ts,∀Y∈ts,dot n (X-Y)=0
 ord:ts.Pairwise (λa b=>d9 (b-a))
 two:∃X∈ts,∃Y∈ts,X≠Y
section
variable{n:V}{ts:List V} (S:Sheet n ts)
include S
theorem Sheet.row:Row n d9 (λX=>X∈ts):=⟨A1,S.nz,λX Y a b=>S.pl X a Y b,λX Y _ _=>K0 X Y⟩
theorem Sheet.ae8:Row n N2 (λX=>X∈ts):=⟨aM,S.nz,λX Y a b=>S.pl X a Y b,λX Y _ _=>by
 rcases K0 X Y with h|h|h
 .exact .inl h
 .exact .inr (.inr (o8.mpr h))
 exact .inr (.inl (o8.mpr h))⟩
theorem Sheet.ne:ts≠[]:=by obtain⟨X,a,_⟩:=S.two;intro e;rw[e]at a;cases a
theorem Sheet.ab3:ChOk n d9 (λX=>X∈ts) (w8 n ts)/\w8 n ts≠[]/\(∀X q,(w8 n ts).head?=some q->X∈ts->X=q\/d9 (q-X)):=
 S.row.ac6 S.ne (λ_ h=>h) S.ord
theorem Sheet.ab2:ChOk n N2 (λX=>X∈ts) (w8 n ts.reverse)/\w8 n ts.reverse≠[]/\(∀X q,(w8 n ts.reverse).head?=some q->X∈ts->X=q\/N2 (q-X)):=by
 have h:=S.ae8.ac6 (ps:=ts.reverse) (by simpa using S.ne) (λX h=>by simpa using h) (by rw[aEj];exact S.ord.imp λh=>o8.mpr h)
 obtain⟨a,b,d⟩:=h;exact⟨ChOk.congr S.ae8 a λX=>by simp,b,λX q e f=>d X q e (by simpa using f)⟩
theorem Sheet.ae0(h:(a,b)∈F7 (w8 n ts))(i:a∈ts)(j:b∈ts):EdgeOf n (λX=>X∈ts) a b/\d9 (b-a):=by obtain⟨d,f⟩:=S.ab3.1.ed _ h;dsimp only at d f;refine⟨⟨i,j,λe=>by subst e;exact E9 d,λX g=>(f X g).1,λX g z=>⟨λ_=>(f X g).2 z,λy=>(u0 d y).elim⟩⟩,d⟩
theorem Sheet.ad8(h:(a,b)∈F7 (w8 n ts.reverse))(j:a∈ts)(k:b∈ts):EdgeOf n (λX=>X∈ts) a b/\d9 (a-b):=by obtain⟨i,f⟩:=S.ab2.1.ed _ h;dsimp only at i f;have d:=o8.mp i;refine⟨⟨j,k,λe=>by subst e;exact E9 d,λX g=>(f X g).1,λX g z=>⟨λy=>(u0 d y).elim,λ_=>?_⟩⟩,d⟩;obtain⟨l,m⟩:=(f X g).2 z;exact⟨l.imp id o8.mp,m.imp id o8.mp⟩
theorem M5(h:(a,b)∈F7 c):a∈c/\b∈c:=by
 induction c with
 |nil=>cases h
 |cons x c d=>
  match c,h,d with
  |[],h,_=>cases h
  |y::r,h,d=>
   rcases aAd.mp h with e|e
   .cases e;simp
   have:=d e;exact⟨aAe _ this.1,aAe _ this.2⟩
theorem Sheet.ends:∃m M c d,m∈ts/\M∈ts/\d9 (M-m)/\(∀X∈ts,X=m\/d9 (X-m))/\(∀X∈ts,X=M\/d9 (M-X))/\w8 n ts=M::c/\w8 n ts.reverse=m::d/\(M::c).getLast?=some m/\(m::d).getLast?=some M/\c≠[]/\d≠[]:=by
 obtain⟨l,u,v⟩:=S.ab3;obtain⟨o,w,x⟩:=S.ab2;obtain⟨M,c,b⟩:=aEM u;obtain⟨m,d,f⟩:=aEM w;have p:M∈ts:=l.mem M (by rw[b];simp);have s:m∈ts:=o.mem m (by rw[f];simp);have q:∀X∈ts,X=M\/d9 (M-X):=λX g=>v X M (by rw[b];rfl) g;have h:∀X∈ts,X=m\/d9 (X-m):=λX g=>(x X m (by rw[f];rfl) g).imp id o8.mp;obtain⟨z,i⟩:∃z,(M::c).getLast?=some z:=by simp[aET]
 obtain⟨y,j⟩:∃z,(m::d).getLast?=some z:=by simp[aET]
 have A:z=m:=by
  have B:z∈ts:=l.mem z (by rw[b];exact aDc i);rcases l.last m s z (by rw[b];exact i)with e|e
  .exact e.symm
  rcases h z B with a|a
  .exact a
  exact(u0 e a).elim
 have C:y=M:=by
  have E:y∈ts:=o.mem y (by rw[f];exact aDc j);rcases o.last M p y (by rw[f];exact j)with e|e
  .exact e.symm
  rcases q y E with a|a
  .exact a
  exact(u0 (o8.mp e) a).elim
 subst A C;have r:d9 (y-z):=by
  obtain⟨X,g,Y,H,ne⟩:=S.two;rcases h y p with e|e
  .exfalso;subst e;have k:∀W∈ts,W=y:=λW t=>by
    rcases h W t with e|e
    .exact e
    rcases q W t with a|a
    .exact a
    exact(u0 e a).elim
   exact ne ((k X g).trans (k Y H).symm)
  exact e
 refine⟨z,y,c,d,s,p,r,h,q,b,f,i,j,λe=>?_,λe=>?_⟩
 .subst e;have:y=z:=by simpa using i
  subst this;exact E9 r
 subst e;have:z=y:=by simpa using j
 subst this;exact E9 r
theorem Sheet.pair(h:(P,Q)∈u8 (j0 n ts)):EdgeOf n (λX=>X∈ts) P Q:=by
 obtain⟨m,M,c,d,i,j,k,l,o,a,b,e,f,g,p⟩:=S.ends;rw[QO a b e f g,aAD,aBO,aBO]at h;rcases h with h|h
 .have:=M5 S h;exact(S.ae0 h (S.ab3.1.mem _ this.1)<|S.ab3.1.mem _ this.2).1
 have:=M5 S h;exact(S.ad8 h (S.ab2.1.mem _ this.1)<|S.ab2.1.mem _ this.2).1
theorem V5(h:P∈l):∃Q,(P,Q)∈u8 l:=by
 obtain⟨i,b,e⟩:=aBp h;have d:l.length=(l.tail++l.take 1).length:=by
  match l,b with
  |a::l,_=>simp
 refine⟨(l.tail++l.take 1)[i]'(by lia),?_⟩;unfold u8;refine List.mem_of_getElem (i:=i) (h:=by rw[List.length_zip];lia) ?_;rw[List.getElem_zip,e]
theorem Sheet.ab0(h:EdgeOf n (λX=>X∈ts) P Q):P∈j0 n ts:=by
 obtain⟨m,M,c,d,T,U,mM,C,E,A,B,h3,h4,hc,hd⟩:=S.ends;obtain⟨o,H,I⟩:=S.ab3;obtain⟨i,J,L⟩:=S.ab2;unfold j0;rw[aAD,A,B,aAP,aAP,aBq,aBq,aBO,aBO];rcases K0 Q P with e|e|e
 .exact absurd e.symm h.ne
 .
  left;rcases qI (Pos:=d9) P (w8 n ts) (λY _=>K0 P Y) (λq s=>I P q s h.p) (λz t=>o.last P h.p z t) H (λu a b=>by have:=A1.add a b;have v:u+-u=0:=(by apply ext<;>simp<;>lia);rw[v]at this;exact A1.irr this)with r|⟨a,b,r,g,w⟩
  .rw[A]at r;rcases aAd.mp r with q|q
   .subst q;rcases E Q h.q with y|y
    .exact absurd y.symm h.ne
    exact(u0 e y).elim
   exact q
  exfalso;have j:=M5 S r;have f:=o.mem _ j.1;have k:=o.mem _ j.2;have N:=h.left a f;have x:i3 n (Q-P) (a-P)≠0:=λz=>by
   rcases((h.btw a f z).1 e).1 with y|y
   .subst y;exact E9 g
   exact u0 g y
  exact S.row.ad4 f k h.p h.q g w e ((o.ed _ r).2 P h.p).1 (by lia) (h.left b k)
 right;rcases qI (Pos:=N2) P (w8 n ts.reverse) (λY _=>S.ae8.tot P Y h.p (by rename_i O;exact i.mem Y O)) (λq s=>L P q s h.p) (λz t=>i.last P h.p z t) J (λu a b=>by have:=aM.add a b;have v:u+-u=0:=(by apply ext<;>simp<;>lia);rw[v]at this;exact aM.irr this)with r|⟨a,b,r,g,w⟩
 .rw[B]at r;rcases aAd.mp r with q|q
  .subst q;rcases C Q h.q with y|y
   .exact absurd y.symm h.ne
   exact(u0 e y).elim
  exact q
 exfalso;have j:=M5 S r;have f:=i.mem _ j.1;have k:=i.mem _ j.2;have N:=h.left a f;have l:=o8.mp g;have x:i3 n (Q-P) (a-P)≠0:=λz=>by
  rcases((h.btw a f z).2 e).1 with y|y
  .subst y;exact E9 l
  exact u0 l y
 exact S.ae8.ad4 f k h.p h.q g w (o8.mpr e) ((i.ed _ r).2 P h.p).1 (by lia) (h.left b k)
theorem Sheet.aa1:(P,Q)∈u8 (j0 n ts)↔EdgeOf n (λX=>X∈ts) P Q:=by
 refine⟨S.pair,λh=>?_⟩;obtain⟨R,a⟩:=V5 S (S.ab0 h);have:=(S.pair a).next h
 subst this;exact a
end
theorem N7{Pos:V->Prop}(C:Cone Pos):∀(c:List V),(∀e∈F7 c,Pos (e.2-e.1))->c.Pairwise (λb a=>Pos (b-a))
 |[],_=>aGw
 |[x],_=>aDY _ _
 |b::a::r,h=>by
  have d:=N7 C (a::r) (λe g=>h e (Q4 g));have f:=h (a,b) (by simp[F7]);refine aAy.mpr ⟨λy i=>?_,d⟩;rcases aAd.mp i with e|e
  .subst e;exact f
  have:=(aAy.mp d).1 y e;have s:=C.add f this;have j:b-a+(a-y)=b-y:=(by apply ext<;>simp<;>lia);dsimp only at s
  rwa [j]at s
theorem kT:∀{h:V}{c:List V}{X:V},X∈c->∃b,(X,b)∈F7 (h::c)
 |h,[],X,d=>by cases d
 |h,a::r,X,d=>by
  rcases aAd.mp d with e|e
  .subst e;exact⟨h,by simp[F7]⟩
  obtain⟨b,f⟩:=kT (h:=a) e;exact⟨b,Q4 f⟩
section
variable{n:V}{ts:List V} (S:Sheet n ts)
include S
theorem Sheet.aa4(h:X∈j0 n ts):X∈ts:=by obtain⟨Q,a⟩:=V5 S h;exact(S.pair a).p
theorem Sheet.aa3:(j0 n ts).Nodup:=by
 obtain⟨m,M,c,d,C,E,H,I,J,f,g,L,N,O,Q⟩:=S.ends;obtain⟨i,T,U⟩:=S.ab3;obtain⟨j,Y,t2⟩:=S.ab2;unfold j0;rw[f,g,aAP,aAP,aBq,aBq];have p:=N7 A1 (w8 n ts) λe k=>(i.ed e k).1;have q:=N7 aM (w8 n ts.reverse) λe k=>(j.ed e k).1;rw[f]at p;rw[g]at q;have v:=(aAy.mp p).2;have w:=(aAy.mp q).2;rw[aCK];refine⟨?_,?_,?_⟩
 .rw[aCk,aEj];exact v.imp λ{a b} h e=>by subst e;exact E9 h
 .rw[aCk,aEj];exact w.imp λ{a b} h e=>by subst e;exact E9 (o8.mp h)
 intro x r y s e;subst e;rw[aBO]at r s;obtain⟨b,l⟩:=kT (h:=M) r;obtain⟨b',o⟩:=kT (h:=m) s;rw[<-f]at l;rw[<-g]at o;have t:=M5 S l;have u:=M5 S o;obtain⟨z,A⟩:=S.ae0 l (i.mem _ t.1) (i.mem _ t.2);obtain⟨B,l2⟩:=S.ad8 o (j.mem _ u.1) (j.mem _ u.2);have:=z.next B;subst this;exact u0 A l2
theorem Sheet.aa7:∃m r,j0 n ts=m::r/\m∈ts/\∀X∈ts,X=m\/d9 (X-m):=by
 obtain⟨m,M,c,d,f,k,l,g,o,h,i,e,p,j,q⟩:=S.ends;have a:∃b,c.reverse=m::b:=by
  have:c.getLast?=some m:=by
   match c,j with
   |x::c,_=>rw[aBm]at e;exact e
  rw[<-aES]at this;match s:c.reverse,this with
  |x::r,this=>exact⟨r,by rw[show x=m from Option.some.inj this]⟩
 obtain⟨b,a⟩:=a;refine⟨m,b++d.reverse,?_,f,g⟩;unfold j0;rw[h,i,aAP,aAP,aBq,aBq,a];rfl
theorem pM(h:Q∈l):∃P,(P,Q)∈u8 l:=by
 match l,h with
 |a::r,h=>
  have b:Q∈r++[a]:=by simpa[or_comm]using h
  obtain⟨i,d,e⟩:=aBp b;have f:i<(a::r).length:=by simpa using d
  refine⟨(a::r)[i],?_⟩;show _∈(a::r).zip (r++[a]);refine List.mem_of_getElem (i:=i) (h:=by rw[List.length_zip];simp;omega) ?_;rw[List.getElem_zip,e]
theorem fG(h:(P,Q)∈u8 l):P∈l/\Q∈l:=by
 have b:=aDZ h;refine⟨b.1,?_⟩;match l,b.2 with
 |a::r,z=>simpa[or_comm]using z
theorem Sheet.strict(h:EdgeOf n (λX=>X∈ts) P Q)(x:X∈j0 n ts)(s:X≠P)(t:X≠Q):0<i3 n (Q-P) (X-P):=by
 have d:=S.aa4 x;have E:=h.left X d;by_cases z:i3 n (Q-P) (X-P)=0
 .exfalso;have b:=h.btw X d z;obtain⟨Y,B⟩:=V5 S x;have g:=S.pair B;have u:=g.left P h.p;have l2:=g.left Q h.q;rcases K0 Q P with e|e|e
  .exact h.ne e.symm
  .have m:=b.1 e;have f:=m.1.resolve_left s;have i:=m.2.resolve_left t;have C:i3 n (X-P) (Q-X)=0:=by have a:Q-P=(Q-X)+(X-P):=(by apply ext<;>simp<;>lia);rw[a,aH,C9,j5]at z;lia
   have o:0<=i3 n (X-P) (Y-X):=by have a:P-X=-(X-P):=(q8 _ _).symm;rw[a,L4]at u;rw[j5];lia
   rcases K0 Y X with y|y|y
   .exact g.ne y.symm
   .have H:=S.row.weak f y i (S.pl _ d _ h.p) (S.pl _ g.q _ d) (S.pl _ h.q _ d) o l2;by_cases j:0<i3 n (X-P) (Y-X)
    .have:=A1.tr f y i (z7 S.nz (S.pl _ d _ h.p) (S.pl _ g.q _ d)<|S.pl _ h.q _ d) j l2
     lia
    have l:i3 n (Y-X) (P-X)=0:=by have a:P-X=-(X-P):=(q8 _ _).symm;rw[a,L4,j5];lia
    rcases((g.btw P h.p l).1 y).1 with k|k
    .exact s k.symm
    exact u0 k f
   have r:d9 (X-Y):=y;have A:0<=i3 n (X-Y) (X-P):=by have a:Y-X=-(X-Y):=(q8 _ _).symm;rw[a,L4,j5]at o;lia
   have v:0<=i3 n (Q-X) (X-Y):=by have a:Y-X=-(X-Y):=(q8 _ _).symm;rw[a,aT,j5]at l2;lia
   by_cases j:0<i3 n (Q-X) (X-Y)
   .have:=A1.tr i r f (z7 S.nz (S.pl _ h.q _ d) (S.pl _ d _ g.q)<|S.pl _ d _ h.p) j A;rw[j5]at this;lia
   have l:i3 n (Y-X) (Q-X)=0:=by have a:Y-X=-(X-Y):=(q8 _ _).symm;rw[a,aT,j5];lia
   rcases((g.btw Q h.q l).2 r).1 with k|k
   .exact t k.symm
   exact u0 k i
  have m:=b.2 e;have f:=m.1.resolve_left s;have i:=m.2.resolve_left t;have C:i3 n (P-X) (X-Q)=0:=by have a:Q-P=-((P-X)+(X-Q)):=(by apply ext<;>simp<;>lia);have w:X-P=-(P-X):=(q8 _ _).symm;rw[a,w,aT,L4,aH,C9,j5]at z;lia
  rcases K0 Y X with y|y|y
  .exact g.ne y.symm
  .
   have v:0<=i3 n (X-Q) (Y-X):=by have a:Q-X=-(X-Q):=(q8 _ _).symm;rw[a,L4,j5]at l2;lia
   by_cases j:0<i3 n (X-Q) (Y-X)
   .have:=A1.tr i y f (z7 S.nz (S.pl _ d _ h.q) (S.pl _ g.q _ d)<|S.pl _ h.p _ d) j u;rw[j5]at this;lia
   have l:i3 n (Y-X) (Q-X)=0:=by have a:Q-X=-(X-Q):=(q8 _ _).symm;rw[a,L4,j5];lia
   rcases((g.btw Q h.q l).1 y).1 with k|k
   .exact t k.symm
   exact u0 k i
  have r:d9 (X-Y):=y;have A:0<=i3 n (P-X) (X-Y):=by have a:Y-X=-(X-Y):=(q8 _ _).symm;rw[a,aT,j5]at u;lia
  have v:0<=i3 n (X-Y) (X-Q):=by have a:Y-X=-(X-Y):=(q8 _ _).symm;have w:Q-X=-(X-Q):=(q8 _ _).symm;rw[a,w,aT,L4]at l2;lia
  by_cases j:0<i3 n (P-X) (X-Y)
  .have:=A1.tr f r i (z7 S.nz (S.pl _ h.p _ d) (S.pl _ d _ g.q)<|S.pl _ d _ h.q) j v
   lia
  have l:i3 n (Y-X) (P-X)=0:=by have a:Y-X=-(X-Y):=(q8 _ _).symm;rw[a,aT,j5];lia
  rcases((g.btw P h.p l).2 r).1 with k|k
  .exact s k.symm
  exact u0 k f
 lia
end
def cD{a:V}(h:a≠0):a.x≠0\/a.y≠0\/a.z≠0:=by
 by_cases p:a.x=0
 .by_cases q:a.y=0
  .by_cases r:a.z=0
   .exact absurd (ext p q r) h
   exact .inr (.inr r)
  exact .inr (.inl q)
 exact .inl p
def A7{a w:V}(d:a≠0)(h:cr a w=0):∃k m:Int,0<k/\k*w=m*a:=by
 have f:=ip V.x h;have g:=ip V.y h;have i:=ip V.z h;simp at f g i;have b:∀k m:Int,k≠0->k*w=m*a->∃k m:Int,0<k/\k*w=m*a:=λk m o e=>by
  by_cases p:0<k
  .exact⟨k,m,p,e⟩
  refine⟨-k,-m,by lia,?_⟩;have j:=ip V.x e;have l:=ip V.y e;have n:=ip V.z e;simp at j l n;apply ext<;>simp<;>grind
 rcases cD d with p|p|p
 .exact b a.x w.x p (by apply ext<;>simp<;>grind)
 .exact b a.y w.y p (by apply ext<;>simp<;>grind)
 exact b a.z w.z p (by apply ext<;>simp<;>grind)
def ConeM.ac5{Pos:V->Prop}(C:ConeM a Pos)(d:a≠0)(f:Pos w):cr a w≠0:=λh=>by
 obtain⟨k,m,g,e⟩:=A7 d h;have b:=C.inv (-m) (C.mul g f);rw[e]at b;have i:m*a+-m*a=0:=by apply ext<;>simp<;>grind
 rw[i]at b;exact C.irr b
def G9(a A:V):List V->V->V->V×V
 |[],up,b=>(up,b)
 |P::d,up,b=>if up=0\/0<dot up (P-A)then G9 a A d (cr a (P-A)) P else G9 a A d up b
def XV(a A:V)(Pos:V->Prop)(seen:V->Prop)(up b:V):Prop:=
 (up=0/\∀P,seen P->cr a (P-A)=0)\/(seen b/\Pos (b-A)/\up=cr a (b-A)/\∀P,seen P->i3 a (b-A) (P-A)<=0)
def jC(h:cr a w=0)(u:V):i3 a u w=0:=by
 have e:i3 a u w=-dot (cr a w) u:=by simp[i3,dot];grind
 rw[e,h];simp[dot]
theorem uG{Pos:V->Prop}(C:ConeM a Pos)(o:a≠0):∀(J:List V) (seen:V->Prop) (up d:V),XV a A Pos seen up d->(∀P,seen P->Pos (P-A)\/cr a (P-A)=0)->(∀P∈J,Pos (P-A)\/cr a (P-A)=0)->
  XV a A Pos (λP=>seen P\/P∈J) (G9 a A J up d).1 (G9 a A J up d).2
 |[],seen,up,d,h,_,_=>by
  show XV a A Pos _ up d;rcases h with⟨g,f⟩|⟨g,f,i,j⟩
  .exact .inl ⟨g,λP b=>f P (by simpa using b)⟩
  exact .inr ⟨.inl g,f,i,λP b=>j P (by simpa using b)⟩
 |Q::J,seen,up,d,h,p,s=>by
  have k:=s Q (by simp);have l:XV a A Pos (λP=>seen P\/P=Q) (if up=0\/0<dot up (Q-A)then(cr a<|Q-A)else up) (if up=0\/0<dot up (Q-A)then Q else d):=by
   rcases h with⟨g,f⟩|⟨g,f,i,j⟩
   .rw[hV (.inl g),hV (.inl g)];by_cases z:cr a (Q-A)=0
    .exact .inl ⟨z,λP b=>by
      rcases b with b|b
      .exact f P b
      subst b;exact z⟩
    refine .inr ⟨.inr rfl,k.resolve_right z,rfl,λP b=>?_⟩;rcases b with b|b
    .rw[jC (f P b)];exact aBy _
    subst b;rw[C9];exact aBy _
   have t:up≠0:=by rw[i];exact C.ac5 o f
   have m:dot up (Q-A)=i3 a (d-A) (Q-A):=by rw[i,R0]
   by_cases z:0<dot up (Q-A)
   .rw[hV (.inr z),hV (.inr z)];have u:Pos (Q-A):=by
     rcases k with q|q
     .exact q
     rw[m,jC q]at z;lia
    refine .inr ⟨.inr rfl,u,rfl,λP b=>?_⟩;rcases b with b|b
    .by_cases v:i3 a (Q-A) (P-A)<=0
     .exact v
     exfalso;have n:Pos (P-A):=by
      rcases p P b with q|q
      .exact q
      rw[jC q]at v;lia
     have:=C.tr f u n (by rw[<-m];exact z) (by lia);have:=j P b
     lia
    subst b;rw[C9];exact aBy _
   rw[h9 (by rintro(q|q);exact t q;exact z q),h9 (by rintro(q|q);exact t q;exact z q)];refine .inr ⟨.inl g,f,i,λP b=>?_⟩;rcases b with b|b
   .exact j P b
   subst b;rw[<-m];lia
  have r:=uG C o J (λP=>seen P\/P=Q) _ _ l (λP b=>by
   rcases b with b|b
   .exact p P b
   subst b;exact k) (λP b=>s P (aAe _ b))
  have e:G9 a A (Q::J) up d=G9 a A J (if up=0\/0<dot up (Q-A)then(cr a<|Q-A)else up) (if up=0\/0<dot up (Q-A)then Q else d):=by rw[G9];split<;>rfl
  rw[e];have w:(λP=>(seen P\/P=Q)\/P∈J)=(λP=>seen P\/P∈Q::J):=by funext P;simp[or_assoc]
  rw[<-w];exact r
def SU{Pos:V->Prop}(C:ConeM a Pos)(e:a≠0)(g:∀P∈J,Pos (P-A)\/cr a (P-A)=0)(i:∃P∈J,Pos (P-A)):
  (G9 a A J 0 A).2∈J/\Pos ((G9 a A J 0 A).2-A)/\∀P∈J,i3 a ((G9 a A J 0 A).2-A) (P-A)<=0:=by
 have h:=uG C e J (λ_=>False) 0 A (.inl ⟨rfl,λ_ h=>h.elim⟩) (λ_ h=>h.elim) g;rcases h with⟨f,b⟩|⟨f,b,l,j⟩
 .obtain⟨P,d,k⟩:=i;exact absurd (b P<|.inr d) (C.ac5 e k)
 exact⟨by simpa using f,b,λP d=>j P (.inr d)⟩
def z8(v:V):Nat:=Nat.gcd (Nat.gcd v.x.natAbs v.y.natAbs) v.z.natAbs
def mF(v:V)(g:Int):V:=⟨v.x/g,v.y/g,v.z/g⟩
def aZ(n:V):Prop:=z8 n=1
def pF(k:Int)(v:V):z8 (k*v)=k.natAbs*z8 v:=by unfold z8;simp[Int.natAbs_mul,Nat.gcd_mul_left]
def IY(h:z8 v=0):v=0:=by unfold z8 at h;have a:=Nat.gcd_eq_zero_iff.mp h;have b:=Nat.gcd_eq_zero_iff.mp a.1;exact ext (aEU.mp b.1) (aEU.mp b.2) (aEU.mp a.2)
def UK(v:V):(z8 v:Int)∣v.x/\(z8 v:Int)∣v.y/\(z8 v:Int)∣v.z:=by
 unfold z8;refine⟨?_,?_,?_⟩
 .exact aEV.mpr (Nat.dvd_trans (aFy _ _)<|aFy _ _)
 .exact aEV.mpr (Nat.dvd_trans (aFy _ _)<|Nat.gcd_dvd_right _ _)
 exact aEV.mpr (Nat.gcd_dvd_right _ _)
def lV(h:c≠0):0<(z8 c:Int)/\c=(z8 c:Int)*mF c (z8 c)/\aZ (mF c (z8 c)):=by
 have i:z8 c≠0:=λz=>h (IY z);have a:0<(z8 c:Int):=by lia
 obtain⟨b,d,f⟩:=UK c;have e:c=(z8 c:Int)*mF c (z8 c):=by
  apply ext
  .show _=_*(c.x/_);rw[aEt b]
  .show _=_*(c.y/_);rw[aEt d]
  show _=_*(c.z/_);rw[aEt f]
 refine⟨a,e,?_⟩;have:=ip z8 e;rw[pF]at this;simp only[Int.natAbs_natCast]at this;unfold aZ;have g:z8 c*1=z8 c*z8 (mF c<|z8 c):=by lia
 exact(Nat.eq_of_mul_eq_mul_left (by lia) g).symm
def aZ.ne(h:aZ n):n≠0:=λe=>by subst e;unfold aZ at h;exact absurd h (by decide)
def vU{n m:V}{k l:Int}(g:aZ n)(h:aZ m)(i:0<k)(j:0<l)(e:k*n=l*m):n=m:=by
 have:=ip z8 e;rw[pF,pF,g,h]at this;have a:k=l:=by lia
 subst a;have b:=ip V.x e;have d:=ip V.y e;have f:=ip V.z e;simp at b d f;exact ext (aDI (by lia) b) (aDI (by lia) d) (aDI (by lia) f)
def j1(P Q R:V):V×Int:=let n:=mF (cr (Q-P)<|R-P) (z8<|cr (Q-P)<|R-P);(n,dot n P)
structure IsFace(J:List V)(n:V)(d:Int):Prop where
 prim:aZ n
 sup:∀X∈J,dot n X<=d
 three:∃A∈J,∃B∈J,∃C∈J,dot n A=d/\dot n B=d/\dot n C=d/\cr (B-A) (C-A)≠0
def B4(a:dot n u=0)(b:dot n v=0):cr n (cr u v)=0:=by simp[dot]at a b;apply ext<;>simp<;>grind
def cQ(f:c≠0)(b:cr n c=0)(d:cr m c=0):cr n m=0:=by
 have h:cr c n=0:=by have:=ip V.x b;have:=ip V.y b;have:=ip V.z b;simp at*;apply ext<;>simp<;>grind
 have i:cr c m=0:=by have:=ip V.x d;have:=ip V.y d;have:=ip V.z d;simp at*;apply ext<;>simp<;>grind
 obtain⟨k,p,r,j⟩:=A7 f h;obtain⟨l,q,s,o⟩:=A7 f i;have e:(k*l)*cr n m=0:=by
  have:(k*l)*cr n m=cr (k*n) (l*m):=by apply ext<;>simp<;>grind
  rw[this,j,o];apply ext<;>simp<;>grind
 have a:k*l≠0:=λz=>by rcases aAu.mp z with q|q<;>lia
 have b:=ip V.x e;have d:=ip V.y e;have g:=ip V.z e;simp only[pT,qE,pG,dF,cP,cU]at b d g;exact ext ((aAu.mp b).resolve_left a) ((aAu.mp d).resolve_left a) ((aAu.mp g).resolve_left a)
def jH{J:List V}{n m:V}{d e:Int}(g:aZ n)(a:aZ m)(E:∀X∈J,dot n X<=d)(h:∀X∈J,dot m X<=e){A B C Z:V}(H:dot n A=d)(I:dot n B=d)(L:dot n C=d)(i:dot m A=e)(j:dot m B=e)(o:dot m C=e)
  (r:cr (B-A) (C-A)≠0) (s:Z∈J) (hz:dot n Z<d):n=m/\d=e:=by
 have t:cr n (cr (B-A)<|C-A)=0:=B4 (by rw[d8];lia) (by rw[d8];lia);have u:cr m (cr (B-A)<|C-A)=0:=B4 (by rw[d8];lia) (by rw[d8];lia);have p:=cQ r u t;obtain⟨k,l,b,f⟩:=A7 a.ne p;have w:0<l:=by
  have q:=ip (λv=>dot v (Z-A)) f;rw[M7,M7]at q;have x:dot n (Z-A)<0:=by rw[d8];lia
  have N:dot m (Z-A)<=0:=by rw[d8];have:=h Z s;lia
  have O:k*dot n (Z-A)<0:=aAt b x;by_cases z:0<l
  .exact z
  exfalso;have:0<=l*dot m (Z-A):=by
   have:=aBk (show 0<=-l by lia) (show 0<=-dot m (Z-A)by lia)
   rwa [aDt]at this
  lia
 have y:=vU g a b w f;subst y;exact⟨rfl,by lia⟩
def b7(A B:V)(J:List V):V×Int:=j1 A B (G9 (B-A) A J 0 A).2
def o6(n:V)(d:Int)(J:List V):List V:=J.filter λX=>decide (dot n X=d)
def c5:X∈o6 n d J↔X∈J/\dot n X=d:=by simp[o6]
def pD(h:cr (Q-P) (R-P)≠0):∃g:Int,0<g/\cr (Q-P) (R-P)=g*(j1 P Q R).1/\aZ (j1 P Q R).1/\(j1 P Q R).2=dot (j1 P Q R).1 P:=by obtain⟨a,b,d⟩:=lV h;exact⟨_,a,b,d,rfl⟩
def N8{Pos:V->Prop}(C:ConeM (B-A) Pos)(d:B-A≠0)(n:∀P∈J,Pos (P-A)\/cr (B-A) (P-A)=0)(o:∃P∈J,Pos (P-A)):
  ∃(a:V) (g:Int),a∈J/\Pos (a-A)/\0<g/\cr (B-A) (a-A)=g*(b7 A B J).1/\aZ (b7 A B J).1/\(b7 A B J).2=dot (b7 A B J).1 A/\
   (∀P∈J,dot (b7 A B J).1 P<=(b7 A B J).2)/\dot (b7 A B J).1 B=(b7 A B J).2/\dot (b7 A B J).1 a=(b7 A B J).2/\
   (∀P∈J,dot (b7 A B J).1 P=(b7 A B J).2->i3 (B-A) (a-A) (P-A)=0):=by
 obtain⟨p,f,q⟩:=SU C d n o;have r:=C.ac5 d f;obtain⟨g,i,j,s,k⟩:=pD r;have b:∀w:V,g*dot (b7 A B J).1 w=i3 (B-A) ((G9 (B-A) A J 0 A).2-A) w:=λw=>by have:dot (cr (B-A)<|(G9 (B-A) A J 0 A).2-A) w=i3 (B-A) ((G9 (B-A) A J 0 A).2-A) w:=R0 _ _ _;rw[<-this,j,M7];rfl
 have u:(b7 A B J).2=dot (b7 A B J).1 A:=k;have l:∀w:V,i3 (B-A) ((G9 (B-A) A J 0 A).2-A) w=0->dot (b7 A B J).1 w=0:=λw t=>by have:=b w;rw[t]at this;exact(aAu.mp this).resolve_left (by lia)
 refine⟨_,g,p,f,i,j,s,k,λP m=>?_,?_,?_,λP m e=>?_⟩
 .have h:=q P m;rw[<-b]at h;have:dot (b7 A B J).1 (P-A)<=0:=by
   by_cases z:dot (b7 A B J).1 (P-A)<=0
   .exact z
   have:=aAM i (show 0<dot (b7 A B J).1 (P-A)by lia)
   lia
  rw[d8]at this
  lia
 .have:=l (B-A) (by simp[i3,dot];grind);rw[d8]at this;lia
 .have:=l ((G9 (B-A) A J 0 A).2-A) (C9 _ _);rw[d8]at this;lia
 rw[<-b,d8];have:dot (b7 A B J).1 P-dot (b7 A B J).1 A=0:=by lia
 rw[this];simp
def zZ{Pos:V->Prop}(C:ConeM a Pos)(d:a≠0)(e:Pos o)(f:Pos w)(h:i3 a o w=0):0<dot (cr a o) (cr a w):=by
 by_cases z:0<dot (cr a o) (cr a w)
 .exact z
 exfalso;have g:=C.ac5 d e;have i:=u4 g;have j:Pos (dot (cr a o) (cr a o)*w+(-dot (cr a o) (cr a w))*o):=C.comb i (by lia) f e;refine C.ac5 d j ?_;have b:cr (cr a o) (cr a w)=i3 a o w*a:=by simp[i3,dot];apply ext<;>simp<;>grind
 rw[h,v6]at b;have k:cr a (dot (cr a o) (cr a o)*w+(-dot (cr a o) (cr a w))*o)=dot (cr a o) (cr a o)*cr a w+(-dot (cr a o) (cr a w))*cr a o:=by apply ext<;>simp<;>grind
 rw[k];have l:∀p q:V,dot p p*q+(-dot p q)*p=cr p (cr q p):=λp q=>by simp[dot];apply ext<;>simp<;>grind
 rw[l];have m:cr (cr a w) (cr a o)=0:=by have n:=ip V.x b;have r:=ip V.y b;have s:=ip V.z b;simp only[ZA,VO,WN,dF,cP,cU]at n r s;apply ext<;>simp only[ZA,VO,WN,dF,cP,cU]<;>grind
 rw[m];apply ext<;>simp
def zy.symm(h:zy P Q X):zy Q P X:=⟨λa=>⟨(h.2 a).2,(h.2 a).1⟩,λa=>⟨(h.1 a).2,(h.1 a).1⟩⟩
def uS(i:n≠0)(d:dot n (a-b)=0):ConeM (a-b) (λw=>dot n w<0\/(dot n w=0/\0<i3 n (b-a) w))where
 add:=λ{u v} j l=>by
  rw[u5,aP]
  lia
 mul:=λ{k u} f h=>by
  rw[i6,yC];rcases h with h|⟨h,g⟩
  .exact .inl (aAt f h)
  exact .inr ⟨by rw[h];simp,aAM f g⟩
 irr:=by rw[C3,fI];lia
 inv:=λ{u} k h=>by
  have e:i3 n (b-a) (a-b)=0:=by have:a-b=-(b-a):=(q8 _ _).symm;rw[this,L4,C9];rfl
  rw[u5,aP,i6,yC,d,e];simpa using h
def W3(a:n≠0)(g:dot n u=0)(i:dot n w=0)(h:i3 n u w=0):cr u w=0:=by
 have j:cr n (cr u w)=0:=B4 g i;obtain⟨k,m,p,e⟩:=A7 a j;have q:=ip (dot n) e;rw[i6,i6]at q;have:dot n (cr u w)=0:=h;rw[this]at q;have l:m=0:=by
  have:=u4 a;have o:m*dot n n=0:=by lia
  rcases aAu.mp o with z|z
  .exact z
  lia
 rw[l,v6]at e;have b:=ip V.x e;have d:=ip V.y e;have f:=ip V.z e;simp only[pT,qE,pG,dF,cP,cU]at b d f;exact ext ((aAu.mp b).resolve_left (by lia)) ((aAu.mp d).resolve_left (by lia)) ((aAu.mp f).resolve_left (by lia))
def zF(h:cr u w=0):cr (-u) w=0:=by have a:=ip V.x h;have b:=ip V.y h;have d:=ip V.z h;simp only[ZA,VO,WN,dF,cP,cU]at a b d;apply ext<;>simp<;>grind
def tR(B:n≠0)(T:∀X∈J,dot n X<=d)(hz:∃Z∈J,dot n Z<d)(h:EdgeOf n (λX=>X∈o6 n d J) a b):
  IsFace J (b7 b a J).1 (b7 b a J).2/\EdgeOf (b7 b a J).1 (λX=>X∈o6 (b7 b a J).1 (b7 b a J).2 J) b a:=by
 obtain⟨E,da⟩:=c5.mp h.p;obtain⟨pb,db⟩:=c5.mp h.q;have j:dot n (a-b)=0:=by rw[d8];lia
 have s:dot n (b-a)=0:=by rw[d8];lia
 have C:=uS (n:=n) B j;have o:a-b≠0:=λe=>h.ne (by have U:=ip V.x e;have Y:=ip V.y e;have q3:=ip V.z e;simp at U Y q3;exact ext (by lia) (by lia) (by lia))
 have t:∀P∈J,(dot n (P-b)<0\/(dot n (P-b)=0/\0<i3 n (b-a) (P-b)))\/cr (a-b) (P-b)=0:=λP H=>by
  have h1:=T P H;by_cases z:dot n P<d
  .exact .inl (.inl (by rw[d8];lia))
  have e:dot n P=d:=by lia
  have tP:P∈o6 n d J:=c5.mpr ⟨H,e⟩;have l:=h.left P tP;rw[rL]at l;have I:dot n (P-b)=0:=by rw[d8];lia
  by_cases y:0<i3 n (b-a) (P-b)
  .exact .inl (.inr ⟨I,y⟩)
  have y0:i3 n (b-a) (P-b)=0:=by lia
  have:=zF (W3 B s I y0);rw[q8]at this;exact .inr this
 obtain⟨Z,hZ,hz⟩:=hz;obtain⟨f,g,o1,u,g0,L,gp,N,v,O,sO,Q⟩:=N8 C o t ⟨Z,hZ,.inl (by rw[d8];lia)⟩;refine⟨⟨gp,v,b,pb,a,E,f,o1,N.symm,O,sO,C.ac5 o u⟩,⟨c5.mpr ⟨pb,N.symm⟩,c5.mpr ⟨E,O⟩,λe=>h.ne e.symm,λX w=>?_,λX w e=>?_⟩⟩
 .obtain⟨i,A⟩:=c5.mp w;have z:=Q X i A;have r:g*i3 (b7 b a J).1 (a-b) (X-b)=dot (cr (a-b)<|f-b) (cr (a-b)<|X-b):=by rw[L];unfold i3;rw[M7]
  have:0<=dot (cr (a-b)<|f-b) (cr (a-b)<|X-b):=by
   rcases t X i with q|q
   .exact aAL (zZ C o u q z)
   rw[q,C3];exact aBy _
  rw[<-r]at this;by_cases zz:0<=i3 (b7 b a J).1 (a-b) (X-b)
  .exact zz
  have:=aAt g0 (show i3 (b7 b a J).1 (a-b) (X-b)<0 by lia)
  lia
 obtain⟨i,A⟩:=c5.mp w;have z:=Q X i A;have r:g*i3 (b7 b a J).1 (a-b) (X-b)=dot (cr (a-b)<|f-b) (cr (a-b)<|X-b):=by rw[L];unfold i3;rw[M7]
 rw[e]at r;rcases t X i with q|q
 .have:=zZ C o u q z;rw[<-r]at this;simp at this
 .
  have dX:dot n X=d:=by obtain⟨k,m,hk,e⟩:=A7 o q;have q:=ip (dot n) e;rw[i6,i6,j]at q;have:dot n (X-b)=0:=(aAu.mp (show k*dot n (X-b)=0 by lia)).resolve_left (by lia);rw[d8]at this;lia
  refine(h.btw X (c5.mpr ⟨i,dX⟩) ?_).symm;rw[rL];have:cr (b-a) (X-b)=0:=by
   have:=zF q
   rwa [q8]at this
  unfold i3;rw[this,C3]
def B7:List V->Option V
 |[]=>none
 |w::a=>if w≠0 then some w else B7 a
def u7(h:B7 ws=some w):w∈ws/\w≠0:=by
 induction ws with
 |nil=>cases h
 |cons v ws a=>
  unfold B7 at h;split at h
  .rename_i b;cases h;exact⟨by simp,b⟩
  have:=a h;exact⟨aAe _ this.1,this.2⟩
def M9(h:B7 ws=none):∀w∈ws,w=0:=by
 induction ws with
 |nil=>intro w a;cases a
 |cons v ws b=>
  unfold B7 at h;split at h
  .cases h
  rename_i d;intro w a;rcases aAd.mp a with e|e
  .subst e;exact Decidable.not_not.mp d
  exact b h w e
def U8:List V->Nat
 |[]=>0
 |p::d=>
  let a:=(p::d).map (· -p)
  match B7 a with
  |none=>0
  |some b=>match B7 (a.map<|cr b)with
   |none=>1
   |some up=>if a.any (λw=>decide (dot up w≠0))then 3 else 2
def i9(J:List V):Prop:=∃A∈J,∃B∈J,∃C∈J,∃D∈J,i3 (B-A) (C-A) (D-A)≠0
def KC(h:U8 J=3):i9 J:=by
 match J,h with
 |p::t,h=>
  unfold U8 at h;dsimp only at h;split at h
  .cases h
  rename_i b f;split at h
  .cases h
  rename_i up g;split at h
  .rename_i e;obtain⟨i,u⟩:=u7 f;obtain⟨d,v⟩:=u7 g;obtain⟨w,d,j⟩:=aAj.mp d;rw[aDN]at e;obtain⟨w3,k,l⟩:=e;obtain⟨B,m,n⟩:=aAj.mp i;obtain⟨C,o,q⟩:=aAj.mp d;obtain⟨D,r,s⟩:=aAj.mp k;refine⟨p,by simp,B,m,C,o,D,r,?_⟩;rw[n,q,s];have a:dot up w3≠0:=by simpa using l
   rw[<-j,R0]at a;exact a
  cases h
def QI(h:U8 J≠3):¬i9 J:=by
 rintro⟨A,j,B,k,C,l,D,m,s⟩;match J,h,j,k,l,m with
 |p::f,h,j,k,l,m=>
  unfold U8 at h;dsimp only at h;have o:∀X∈p::f,X-p∈(p::f).map (· -p):=λX b=>aAj.mpr ⟨X,b,rfl⟩;have d:∀n:V,n≠0->(∀X∈p::f,dot n (X-p)=0)->False:=λn t r=>by
   have q:∀X∈p::f,dot n (X-A)=0:=λX b=>by have g:=r X b;have i:=r A j;rw[d8]at*;lia
   exact s (z7 t (q B k) (q C l)<|q D m)
  split at h
  .rename_i g;have z:=M9 g;refine d ⟨1,0,0⟩ (λe=>by have:=ip V.x e;simp at this) λX b=>?_;rw[z _ (o X b)];exact C3 _
  rename_i a g;obtain⟨I,v⟩:=u7 g;split at h
  .rename_i i;have z:=M9 i;have w:∀X∈p::f,cr a (X-p)=0:=λX b=>z _ (aAj.mpr ⟨_,o X b,rfl⟩);obtain⟨u,y,L⟩:∃u:V,cr a u≠0/\True:=by
    rcases cD v with q|q|q
    .exact⟨⟨0,1,0⟩,λe=>q (by have:=ip V.z e;simpa using this),trivial⟩
    .exact⟨⟨1,0,0⟩,λe=>q (by have:=ip V.z e;simpa using this),trivial⟩
    exact⟨⟨0,1,0⟩,λe=>q (by have:=ip V.x e;simpa using this),trivial⟩
   refine d (cr a u) y λX b=>?_;rw[R0,jC (w X b)]
  rename_i up i;obtain⟨N,E⟩:=u7 i;split at h
  .exact h rfl
  rename_i H;refine d up E λX b=>?_;by_cases z:dot up (X-p)=0
  .exact z
  exact absurd (aDN.mpr ⟨X-p,o X b,by simpa using z⟩) H
def RM(h:U8 J<2):∀X∈J,∀Y∈J,∀Z∈J,cr (Y-X) (Z-X)=0:=by
 match J,h with
 |[],_=>intro X b;cases b
 |p::d,h=>
  unfold U8 at h;dsimp only at h;have l:∀X∈p::d,X-p∈(p::d).map (· -p):=λX b=>aAj.mpr ⟨X,b,rfl⟩;intro X b Y m Z o;split at h
  .rename_i i;have z:=M9 i;have e:∀W∈p::d,W=p:=λW j=>by have:=z _ (l W j);have f:=ip V.x this;have g:=ip V.y this;have q:=ip V.z this;simp at f g q;exact ext (by lia) (by lia) (by lia)
   rw[e X b,e Y m,t8];apply ext<;>simp
  rename_i a i;obtain⟨E,r⟩:=u7 i;split at h
  .rename_i s;have z:=M9 s;have n:∀X∈p::d,cr a (X-p)=0:=λX b=>z _ (aAj.mpr ⟨_,l X b,rfl⟩);have k:∀U∈p::d,∀W∈p::d,cr (U-W) a=0:=λU t W j=>by have f:=n U t;have g:=n W j;have u:=ip V.x f;have v:=ip V.y f;have w:=ip V.z f;have A:=ip V.x g;have B:=ip V.y g;have C:=ip V.z g;simp at u v w A B C;apply ext<;>simp<;>grind
   exact cQ r (k Y m X b) (k Z o X b)
  split at h<;>lia
def JE(h:2<=U8 J):∃X∈J,∃Y∈J,∃Z∈J,cr (Y-X) (Z-X)≠0:=by
 match J,h with
 |[],h=>exact absurd h (by simp[U8])
 |p::n,h=>
  unfold U8 at h;dsimp only at h;split at h
  .lia
  rename_i a d;obtain⟨e,o⟩:=u7 d;split at h
  .lia
  rename_i up f;obtain⟨b,g⟩:=u7 f;obtain⟨q,b,i⟩:=aAj.mp b;obtain⟨B,j,k⟩:=aAj.mp e;obtain⟨C,l,m⟩:=aAj.mp b;exact⟨p,by simp,B,j,C,l,by rw[k,m,i];exact g⟩
def i9.off(h:i9 J)(f:n≠0):∃Z∈J,dot n Z≠d:=by
 obtain⟨A,g,B,i,C,j,D,k,l⟩:=h;by_cases a:dot n A=d
 .by_cases b:dot n B=d
  .by_cases c:dot n C=d
   .by_cases e:dot n D=d
    .exact absurd (z7 f (by rw[d8];lia) (by rw[d8];lia) (by rw[d8];lia)) l
    exact⟨D,k,e⟩
   exact⟨C,j,c⟩
  exact⟨B,i,b⟩
 exact⟨A,g,a⟩
def i9.below(h:i9 J)(b:n≠0)(f:∀X∈J,dot n X<=d):∃Z∈J,dot n Z<d:=by obtain⟨Z,a,e⟩:=h.off (d:=d) b;exact⟨Z,a,by have:=f Z a;lia⟩
def kk:V:=⟨0,0,1⟩
def f7(m:V)(J:List V):V×V:=
 let u:=b7 m (m+kk) J
 let a:=o6 u.1 u.2 J
 if U8 a=2 then(m,m+kk)else(a.getD 0 0,a.getD 1 0)
def IS:ConeM kk (λw=>0<w.x\/(w.x=0/\0<w.y))where
 add:=λ{u v} d e=>by simp;lia
 mul:=λ{k u} a h=>by
  simp;rcases h with h|⟨h,b⟩
  .exact .inl (aAM a h)
  exact .inr ⟨by rw[h];simp,aAM a b⟩
 irr:=by simp
 inv:=λ{u} k h=>by simpa[kk]using h
def iD(h:dot n a=0):ConeM a (λw=>dot n w<0)where
 add:=λ{u v} e f=>by rw[u5];lia
 mul:=λ{k u} b h=>by rw[i6];exact aAt b h
 irr:=by rw[C3];lia
 inv:=λ{u} k d=>by rw[u5,i6,h];simpa using d
def F9(m k:V):m+k-m=k:=(by apply ext<;>simp<;>lia)
def W6(T:i9 J)(ho:J.Pairwise (λa b=>d9 (b-a)))(hm:m∈J)(hl:∀X∈J,X=m\/d9 (X-m)):
  IsFace J (b7 (f7 m J).1 (f7 m J).2 J).1 (b7 (f7 m J).1 (f7 m J).2 J).2:=by
 have C:ConeM (m+kk-m) (λw=>0<w.x\/(w.x=0/\0<w.y)):=by rw[F9];exact IS
 have ag:m+kk-m≠0:=by rw[F9];intro e;have:=ip V.z e;simp[kk]at this
 have U:∀P∈J,(0<(P-m).x\/((P-m).x=0/\0<(P-m).y))\/cr (m+kk-m) (P-m)=0:=λP E=>by
  rw[F9];rcases hl P E with e|e
  .right;subst e;rw[t8];apply ext<;>simp
  unfold d9 at e;rcases e with e|⟨e1,e|⟨e2,e3⟩⟩
  .exact .inl (.inl e)
  .exact .inl (.inr ⟨e1,e⟩)
  right;apply ext
  .simp[kk];simp at e2;lia
  .simp[kk];simp at e1;lia
  simp[kk]
 have hx:∃P∈J,0<(P-m).x\/((P-m).x=0/\0<(P-m).y):=by
  by_cases z:∃P∈J,0<(P-m).x\/((P-m).x=0/\0<(P-m).y)
  .exact z
  exfalso;obtain⟨Z,f,e⟩:=T.off (n:=⟨1,0,0⟩) (d:=m.x) (λe=>by have:=ip V.x e;simp at this);have w:=(U Z f).resolve_left λq=>z ⟨Z,f,q⟩;rw[F9]at w;have:=ip V.y w;simp[kk]at this;simp[dot]at e
  lia
 obtain⟨k,g,o1,o2,g0,ge,L,gd,h,sB,sO,sP⟩:=N8 C ag U hx;have i:m∈o6 (b7 m (m+kk) J).1 (b7 m (m+kk) J).2 J:=c5.mpr ⟨hm,gd.symm⟩;have l:k∈o6 (b7 m (m+kk) J).1 (b7 m (m+kk) J).2 J:=c5.mpr ⟨o1,sO⟩;have N:m≠k:=λe=>by subst e;rw[t8]at o2;simp at o2
 by_cases h2:U8 (o6 (b7 m (m+kk) J).1 (b7 m (m+kk) J).2 J)=2
 .have e:f7 m J=(m,m+kk):=by unfold f7;simp only[h2,if_true]
  rw[e];obtain⟨X,H,Y,I,Z,f,hc⟩:=JE (J:=o6 (b7 m (m+kk) J).1 (b7 m (m+kk) J).2 J) (by lia);have H:=c5.mp H;have I:=c5.mp I;have f:=c5.mp f;exact⟨L,h,X,H.1,Y,I.1,Z,f.1,H.2,I.2,f.2,hc⟩
 .
  have h1:U8 (o6 (b7 m (m+kk) J).1 (b7 m (m+kk) J).2 J)≠3:=λz=>by obtain⟨A,hA,B,hB,C,hC,D,hD,hd⟩:=KC z;have hA:=c5.mp hA;have hB:=c5.mp hB;have hC:=c5.mp hC;have hD:=c5.mp hD;exact hd (z7 L.ne (by rw[d8];lia) (by rw[d8];lia) (by rw[d8];lia))
  have ah:U8 (o6 (b7 m (m+kk) J).1 (b7 m (m+kk) J).2 J)<2:=by
   have:U8 (o6 (b7 m (m+kk) J).1 (b7 m (m+kk) J).2 J)<=3:=by
    generalize o6 (b7 m (m+kk) J).1 (b7 m (m+kk) J).2 J=t;unfold U8;split
    .lia
    dsimp only;split
    .lia
    split
    .lia
    split<;>lia
   lia
  have o:=RM ah;have e:f7 m J=((o6 (b7 m (m+kk) J).1 (b7 m (m+kk) J).2 J).getD 0 0,(o6 (b7 m (m+kk) J).1 (b7 m (m+kk) J).2 J).getD 1 0):=by unfold f7;simp only[h2,if_false]
  rw[e];have ord:(o6 (b7 m (m+kk) J).1 (b7 m (m+kk) J).2 J).Pairwise (λa b=>d9 (b-a)):=aFZ _ ho;have j:∀X,X∈o6 (b7 m (m+kk) J).1 (b7 m (m+kk) J).2 J↔X∈J/\dot (b7 m (m+kk) J).1 X=(b7 m (m+kk) J).2:=λX=>c5;generalize o6 (b7 m (m+kk) J).1 (b7 m (m+kk) J).2 J=t at*
  match t,i,l with
  |[],i,_=>cases i
  |[x],i,l=>simp at i l;exact absurd (i.trans l.symm) N
  |x::y::r,i,l=>
   dsimp only[List.getD_cons_zero,List.getD_cons_succ];have p:d9 (y-x):=(aAy.mp ord).1 y (by simp);have ox:=(j x).mp (by simp);have oy:=(j y).mp (by simp);have s:y-x≠0:=λz=>by rw[z]at p;exact A1.irr p
   have na:dot (b7 m (m+kk) J).1 (y-x)=0:=by rw[d8];lia
   have C2:=iD na;obtain⟨Z,f,hz⟩:=T.below L.ne h;obtain⟨u,g2,p1,p2,p0,pe,pp,pd,v,O,Q,sP2⟩:=N8 C2 s (J:=J) (λP E=>by
    have:=h P E;by_cases q:dot (b7 m (m+kk) J).1 P<(b7 m (m+kk) J).2
    .exact .inl (by rw[d8];lia)
    exact .inr (o x (by simp) y (by simp) P ((j P).mpr ⟨E,by lia⟩))) ⟨Z,f,by rw[d8];lia⟩
   exact⟨pp,v,x,ox.1,y,oy.1,u,p1,pd.symm,O,Q,C2.ac5 s p2⟩
def bW{a b:V}(h:a-b=0):a=b:=by have d:=ip V.x h;have e:=ip V.y h;have f:=ip V.z h;simp at d e f;exact ext (by lia) (by lia) (by lia)
def IsFace.aa2(f:J.Pairwise (λa b=>d9 (b-a)))(h:IsFace J n d):Sheet n (o6 n d J)where
 nz:=h.prim.ne
 pl:=λX g Y i=>by have:=(c5.mp g).2;have:=(c5.mp i).2;rw[d8];lia
 ord:=aFZ _ f
 two:=by obtain⟨A,j,B,k,C,l,a,b,c,e⟩:=h.three;refine⟨A,c5.mpr ⟨j,a⟩,B,c5.mpr ⟨k,b⟩,λz=>e ?_⟩;subst z;rw[t8];apply ext<;>simp
def IsFace.ad2{J:List V}{n:V}{d:Int}(h:IsFace J n d){a b:V}(f:EdgeOf n (λX=>X∈o6 n d J) a b):∃X∈o6 n d J,0<i3 n (b-a) (X-a):=by
 by_cases z:∃X∈o6 n d J,0<i3 n (b-a) (X-a)
 .exact z
 exfalso;have v:=h.prim.ne;obtain⟨pa,da⟩:=c5.mp f.p;obtain⟨pb,db⟩:=c5.mp f.q;have g:dot n (b-a)=0:=by rw[d8];lia
 have w:b-a≠0:=λe=>f.ne (bW e).symm;have k:∀X∈J,dot n X=d->cr (b-a) (X-a)=0:=λX i j=>by have r:=c5.mpr ⟨i,j⟩;have l:=f.left X r;have l':¬0<i3 n (b-a) (X-a):=λq=>z ⟨X,r,q⟩;exact W3 v g (by rw[d8];lia) (by lia)
 obtain⟨A,s,B,E,C,H,t,I,L,e⟩:=h.three;have u:∀X∈J,dot n X=d->∀Y∈J,dot n Y=d->cr (X-Y) (b-a)=0:=λX i j Y N O=>by have m:=k X i j;have o:=k Y N O;have Q:=ip V.x m;have T:=ip V.y m;have U:=ip V.z m;have b1:=ip V.x o;have b2:=ip V.y o;have b3:=ip V.z o;simp at Q T U b1 b2 b3;apply ext<;>simp<;>grind
 exact e (cQ w (u B E I A s t)<|u C H L A s t)
def UJ(l:i9 J)(f:IsFace J n d)(g:IsFace J m e)(i:EdgeOf n (λX=>X∈o6 n d J) a b)(h:EdgeOf m (λX=>X∈o6 m e J) b a)(j:X∈o6 n d J)(k:0<i3 n (b-a) (X-a)):dot m X<e:=by
 obtain⟨o,r⟩:=c5.mp j;have A:=g.sup X o;by_cases z:dot m X=e
 .exfalso;obtain⟨B,s⟩:=c5.mp i.p;obtain⟨pb,t⟩:=c5.mp i.q;obtain⟨_,u⟩:=c5.mp h.q;obtain⟨_,v⟩:=c5.mp h.p;obtain⟨Z,w,x⟩:=l.below f.prim.ne f.sup;have y:cr (b-a) (X-a)≠0:=λq=>by unfold i3 at k;rw[q,C3]at k;lia
  obtain⟨rfl,rfl⟩:=jH f.prim g.prim f.sup g.sup s t r u v z y w x;have:=h.left X j;have C:i3 n (a-b) (X-b)=-i3 n (b-a) (X-a):=by simp[i3,dot];grind
  lia
 lia
def yD:List V->V
 |[]=>0
 |X::l=>X+yD l
theorem oP(n:V):∀l:List V,dot n (yD l)=(l.map (dot n)).sum
 |[]=>C3 n
 |X::l=>by simp only[yD,aAk,aAZ];rw[u5,oP n l]
theorem DK{α:Type}(f g:α->Int):∀l:List α,(∀x∈l,f x<=g x)->(l.map f).sum<=(l.map g).sum
 |[],_=>aBy _
 |x::l,h=>by
  simp only[aAk,aAZ];have:=h x (by simp);have:=DK f g l (λy a=>h y (aAe _ a))
  lia
theorem CO{α:Type}(f g:α->Int):∀l:List α,(∀x∈l,f x<=g x)->(∃x∈l,f x<g x)->(l.map f).sum<(l.map g).sum
 |[],_,⟨x,b,_⟩=>by cases b
 |x::l,h,⟨y,a,d⟩=>by
  simp only[aAk,aAZ];have i:=h x (by simp);have j:=DK f g l (λy a=>h y (aAe _ a));rcases aAd.mp a with e|e
  .subst e;lia
  have:=CO f g l (λy a=>h y (aAe _ a)) ⟨y,e,d⟩
  lia
theorem aI{α:Type}(c:Int):∀l:List α,(l.map λ_=>c).sum=(l.length:Int)*c
 |[]=>by simp
 |x::l=>by simp only[aAk,aAZ,aAq];rw[aI c l];push_cast;grind
def C7(J:List V)(X:V):V:=(J.length:Int)*X-yD J
def U5(J:List V)(n:V)(d:Int):Int:=(J.length:Int)*d-dot n (yD J)
def xF(J:List V)(n X:V):dot n (C7 J X)=(J.length:Int)*dot n X-dot n (yD J):=by unfold C7;rw[d8,i6]
def fE(a:i9 J)(b:n≠0)(h:∀X∈J,dot n X<=d):0<U5 J n d:=by
 unfold U5;rw[oP,<-aI];have:=CO (dot n) (λ_=>d) J h (a.below b h)
 lia
def len_pos(a:i9 J):0<(J.length:Int):=by
 obtain⟨A,b,_⟩:=a;have:0<J.length:=aDk b
 lia
def Z8(h:dot n X=d):dot n (C7 J X)=U5 J n d:=by rw[xF,h];rfl
def qO(h:dot n X<=d):dot n (C7 J X)<=U5 J n d:=by
 rw[xF];unfold U5;have:=aAB h (show(0:Int)<=J.length by lia)
 lia
def OO(a:0<(J.length:Int))(h:dot n X<d):dot n (C7 J X)<U5 J n d:=by
 rw[xF];unfold U5;have:=aEN h a
 lia
def WC(J:List V)(a b X:V):i3 (C7 J a) (C7 J b) (C7 J X)=(J.length:Int)*(J.length:Int)*dot (C7 J a) (cr (b-a) (X-a)):=by unfold C7;generalize(J.length:Int)=N;generalize yD J=s;simp[i3,dot];grind
def zN(h:cr w c=0)(x y:V):dot w y*dot c x=dot w x*dot c y:=by
 have e:dot w y*dot c x-dot w x*dot c y=dot (cr w c) (cr y x):=by simp[dot];grind
 rw[h]at e;have:dot 0 (cr y x)=0:=by simp[dot]
 lia
def IA(e:i9 J)(f:IsFace J n d)(j:dot n a=d)(o:dot n b=d)(r:dot n X=d)(h:0<i3 n (b-a) (X-a)):0<i3 (C7 J a) (C7 J b) (C7 J X):=by
 rw[WC];have g:=len_pos e;refine aAM (aAM g g) ?_;have i:=f.prim.ne;have p:cr n (cr (b-a)<|X-a)=0:=B4 (by rw[d8];lia) (by rw[d8];lia);have q:=zN p n (C7 J a);have k:0<dot n (C7 J a):=by rw[Z8 j];exact fE e i f.sup
 have l:0<dot (cr (b-a)<|X-a) n:=by rw[aN];exact h
 have s:=aAM k l;have m:=u4 i;rw[aN (C7 J a)];by_cases z:0<dot (cr (b-a)<|X-a) (C7 J a)
 .exact z
 exfalso;have:dot n n*dot (cr (b-a)<|X-a) (C7 J a)<=0:=by have:=aAB (show dot (cr (b-a)<|X-a) (C7 J a)<=0 by lia) (aAL m);simpa using this
 lia
def YX(f:i9 J)(g:IsFace J n d)(j:IsFace J m e)(h:EdgeOf n (λX=>X∈o6 n d J) a b)(k:EdgeOf m (λX=>X∈o6 m e J) b a)(Q:dot m B*U5 J n d<=dot n B*U5 J m e):0<=i3 (C7 J a) (C7 J b) B:=by
 obtain⟨X,l,o⟩:=g.ad2 h;have w:=UJ f g j h k l o;obtain⟨T,t⟩:=c5.mp l;obtain⟨U,u⟩:=c5.mp h.p;obtain⟨pb,v⟩:=c5.mp h.q;obtain⟨_,x⟩:=c5.mp k.q;obtain⟨_,A⟩:=c5.mp k.p;have c0:=fE f g.prim.ne g.sup;have Y:=fE f j.prim.ne j.sup;have C:=IA f g u v t o;by_cases z:0<=i3 (C7 J a) (C7 J b) B
 .exact z
 exfalso;have i:∀y,dot (U5 J n d*m-U5 J m e*n) y=U5 J n d*dot m y-U5 J m e*dot n y:=λy=>by rw[aN,d8,i6,i6,aN y m,aN y n]
 have E:dot (U5 J n d*m-U5 J m e*n) (C7 J a)=0:=by rw[i,Z8 u,Z8 x];grind
 have H:dot (U5 J n d*m-U5 J m e*n) (C7 J b)=0:=by rw[i,Z8 v,Z8 A];grind
 have I:dot (U5 J n d*m-U5 J m e*n) (C7 J X)<0:=by
  rw[i,Z8 t];have L:=OO (len_pos f) w;have:=aEN L c0;have e1:U5 J m e*U5 J n d=U5 J n d*U5 J m e:=aGE _ _
  lia
 have p:=zN (B4 E H) (C7 J X) B;have N:dot (cr (C7 J a)<|C7 J b) (C7 J X)=i3 (C7 J a) (C7 J b) (C7 J X):=R0 _ _ _;have O:dot (cr (C7 J a)<|C7 J b) B=i3 (C7 J a) (C7 J b) B:=R0 _ _ _;rw[N,O]at p;have r:0<dot (U5 J n d*m-U5 J m e*n) (C7 J X)*i3 (C7 J a) (C7 J b) B:=aBG I (by lia);rw[<-p]at r;have s:0<dot (U5 J n d*m-U5 J m e*n) B:=by
  by_cases q:0<dot (U5 J n d*m-U5 J m e*n) B
  .exact q
  have:=aAS (show dot (U5 J n d*m-U5 J m e*n) B<=0 by lia) (aAL C);simp at this;lia
 rw[i]at s;have e4:dot m B*U5 J n d=U5 J n d*dot m B:=aGE _ _;have e5:dot n B*U5 J m e=U5 J m e*dot n B:=aGE _ _
 lia
def EW{a b c d e f:Int}(g:0<b)(h:0<d)(i:0<f)(j:a*d<=c*b)(k:c*f<=e*d):a*f<=e*b:=by
 have m:=aAS j (aAL i);have n:=aAS k (aAL g);have l:(a*f)*d<=(e*b)*d:=by grind
 exact aEO l h
theorem HP{α:Type}(p q:α->Int):∀(l:List α),l≠[]->(∀x∈l,0<q x)->∃x∈l,∀y∈l,p y*q x<=p x*q y
 |[],h,_=>absurd rfl h
 |[x],_,_=>⟨x,by simp,λy d=>by simp at d;subst d;exact aBy _⟩
 |x::y::l,_,b=>by
  obtain⟨z,f,h⟩:=HP p q (y::l) (by simp) (λw a=>b w (aAe _ a));by_cases c:p x*q z<=p z*q x
  .refine⟨z,aAe _ f,λw a=>?_⟩;rcases aAd.mp a with e|e
   .subst e;exact c
   exact h w e
  refine⟨x,by simp,λw a=>?_⟩;rcases aAd.mp a with e|e
  .subst e;exact aBy _
  exact EW (b w a) (b z<|aAe _ f) (b x (by simp)) (h w e) (by lia)
theorem a0j(h:V->Int):∀(x:V) (l:List V),0<=h x->(∀z,(x::l).getLast?=some z->h z<=0)->l≠[]->∃u v,(u,v)∈j7 (x::l)/\0<=h u/\h v<=0
 |x,[],_,_,b=>absurd rfl b
 |x,y::r,d,a,_=>by
  by_cases c:h y<=0
  .exact⟨x,y,by simp[j7],d,c⟩
  match r,a with
  |[],a=>exact absurd (a y rfl) c
  |z::r,a=>obtain⟨u,v,m,p⟩:=a0j h y (z::r) (by lia) (λw e=>a w (by rw[aBm];exact e)) (by simp);exact⟨u,v,by simp only[j7]at m⊢;exact aAe _ m,p⟩
theorem mN:∀(l:List V) (x z w:V),(x::l).getLast?=some z->(z,w)∈j7 (x::l++[w])
 |[],x,z,w,h=>by simp at h;subst h;simp[j7]
 |y::l,x,z,w,h=>by rw[aBm]at h;have:=mN l y z w h;simp only[aAJ,j7]at this⊢;exact aAe _ this
theorem bE:∀(l:List V) (x w:V),∀e∈j7 (x::l),e∈j7 (x::l++[w])
 |[],x,w,e,h=>by simp[j7]at h
 |y::l,x,w,e,h=>by
  simp only[aAJ,j7]at h⊢;rcases aAd.mp h with q|q
  .subst q;simp
  exact aAe _ (bE l y w e q)
def J5(g:J.Pairwise (λa b=>d9 (b-a)))(f:IsFace J n d):∃r s t l,j0 n (o6 n d J)=r::s::t::l:=by
 have S:=f.aa2 g;obtain⟨r,l,e,_⟩:=S.aa7;match l,e with
 |[],e=>
  have h:(r,r)∈u8 (j0 n<|o6 n d J):=by rw[e];simp[u8]
  exact absurd rfl (S.pair h).ne
 |[s],e=>
  have i:(r,s)∈u8 (j0 n<|o6 n d J):=by rw[e];simp[u8]
  have j:(s,r)∈u8 (j0 n<|o6 n d J):=by rw[e];simp[u8]
  have k:=S.pair i;have m:=S.pair j;obtain⟨X,o,p⟩:=f.ad2 k;have:=m.left X o;have q:i3 n (r-s) (X-s)=-i3 n (s-r) (X-r):=by simp[i3,dot];grind
  lia
 |s::t::l,e=>exact⟨r,s,t,l,e⟩
def vE(N:i9 J)(ho:J.Pairwise (λa b=>d9 (b-a)))(fs:List (V×Int))(ag:fs≠[])(hf:∀f∈fs,IsFace J f.1 f.2)(hc:∀f∈fs,∀a b,EdgeOf f.1 (λX=>X∈o6 f.1 f.2 J) a b->∃g∈fs,EdgeOf g.1 (λX=>X∈o6 g.1 g.2 J) b a)(w:IsFace J n d):(n,d)∈fs:=by
 obtain⟨B,hBd⟩:∃B,B=yD ((o6 n d J).map (C7 J)):=⟨_,rfl⟩;have dB:∀m,dot m B=((o6 n d J).map λX=>dot m (C7 J X)).sum:=λm=>by rw[hBd,oP,aBd];rfl
 have cn:=fE N w.prim.ne w.sup;have ub:∀m e,(∀X∈J,dot m X<=e)->dot m B<=((o6 n d J).length:Int)*U5 J m e:=λm e hm=>by rw[dB,<-aI];exact DK _ _ _ λX i=>qO (hm X (c5.mp i).1)
 have eB:dot n B=((o6 n d J).length:Int)*U5 J n d:=by rw[dB,<-aI];congr 1;exact aDS λX i=>Z8 (c5.mp i).2
 obtain⟨⟨m,e⟩,hm,htop⟩:=HP (λf:V×Int=>dot f.1 B) (λf=>U5 J f.1 f.2) fs ag λf h=>fE N (hf f h).prim.ne (hf f h).sup;have j:=hf _ hm;have O:∀a b,EdgeOf m (λX=>X∈o6 m e J) a b->0<=i3 (C7 J a) (C7 J b) B:=λa b hab=>by obtain⟨g,hg,hg2⟩:=hc _ hm a b hab;exact YX N j (hf g hg) hab hg2 (htop g hg)
 have S:=j.aa2 ho;obtain⟨r,s,t,l,er⟩:=J5 ho j;have nd:=S.aa3;have pr:=λ{P Q}=>S.aa1 (P:=P) (Q:=Q);rw[er]at pr nd;have rm:r∈j0 m (o6 m e J):=by rw[er];simp
 have on:∀X∈r::s::t::l,dot m X=e:=λX i=>by rw[<-er]at i;exact(c5.mp<|S.aa4 i).2
 obtain⟨z,hz⟩:∃z,(s::t::l).getLast?=some z:=by simp[aET]
 have c1:(r,s)∈u8 (r::s::t::l):=by rw[X4];simp[j7]
 have c2:(z,r)∈u8 (r::s::t::l):=by rw[X4];exact mN _ _ _ _ (by rw[aBm];exact hz)
 have w1:=O _ _ (pr.mp c1);have w2:=O _ _ (pr.mp c2);obtain⟨u,v,T,hu,hv⟩:=a0j (λX=>i3 (C7 J r) (C7 J X) B) s (t::l) w1 (λy hy=>by
  have:y=z:=Option.some.inj (hy.symm.trans hz);subst this;have e1:i3 (C7 J r) (C7 J y) B=-i3 (C7 J y) (C7 J r) B:=by simp[i3,dot];grind
  lia) (by simp)
 have c3:(u,v)∈u8 (r::s::t::l):=by rw[X4];have:=bE (t::l) s r _ T;simp only[aAJ,j7]at this⊢;exact aAe _ this
 have g3:=pr.mp c3;have U:u∈s::t::l/\v∈s::t::l:=by
  have:=T;have hh:∀(l:List V) (p q:V),(p,q)∈j7 l->p∈l/\q∈l:=λl=>by
   induction l with
   |nil=>intro p q h;simp[j7]at h
   |cons x l ih=>
    intro p q h;match l,h,ih with
    |[],h,_=>simp[j7]at h
    |y::l,h,ih=>
     simp only[j7]at h;rcases aAd.mp h with c|c
     .cases c;simp
     have:=ih p q c;exact⟨aAe _ this.1,aAe _ this.2⟩
  exact hh _ _ _ T
 have nr:=(aAH.mp nd).1;have ru:r≠u:=λq=>by subst q;exact nr U.1
 have rv:r≠v:=λq=>by subst q;exact nr U.2
 have st:=S.strict g3 rm ru rv;have du:=on u (aAe _ U.1);have dv:=on v (aAe _ U.2);have dr:=on r (by simp);have D0:=IA N j du dv dr st;have w3:=O _ _ g3;have k:=DJ B (C7 J r) (C7 J u) (C7 J v);have a1:i3 B (C7 J u) (C7 J v)=i3 (C7 J u) (C7 J v) B:=by simp[i3,dot];grind
 have a2:i3 B (C7 J v) (C7 J r)=-i3 (C7 J r) (C7 J v) B:=by simp[i3,dot];grind
 have a3:i3 B (C7 J r) (C7 J u)=i3 (C7 J r) (C7 J u) B:=by simp[i3,dot];grind
 have a4:i3 (C7 J r) (C7 J u) (C7 J v)=i3 (C7 J u) (C7 J v) (C7 J r):=by simp[i3,dot];grind
 rw[a1,a2,a3,a4]at k;obtain⟨E,hal⟩:∃E,E=i3 (C7 J u) (C7 J v) B:=⟨_,rfl⟩;obtain⟨H,yu⟩:∃H,H=-i3 (C7 J r) (C7 J v) B:=⟨_,rfl⟩;obtain⟨I,hga⟩:∃I,I=i3 (C7 J r) (C7 J u) B:=⟨_,rfl⟩;obtain⟨o,hDe⟩:∃o,o=i3 (C7 J u) (C7 J v) (C7 J r):=⟨_,rfl⟩;rw[<-hal,<-yu,<-hga,<-hDe]at k;have al0:0<=E:=by lia
 have be0:0<=H:=by lia
 have ga0:0<=I:=by lia
 have De0:0<o:=by lia
 have cd:∀f:V,o*dot f B=I*dot f (C7 J v)+E*dot f (C7 J r)+H*dot f (C7 J u):=λf=>by
  have:=ip (dot f) k;rw[u5,u5,i6,i6,i6,i6]at this
  lia
 have q1:=cd m;rw[Z8 dr,Z8 du,Z8 dv]at q1;have q2:=cd n;have cm:=fE N j.prim.ne j.sup;have pt:∀X∈r::s::t::l,X∈J:=λX i=>by rw[<-er]at i;exact(c5.mp<|S.aa4 i).1
 have r1:=qO (J:=J) (w.sup r (pt r (by simp)));have r2:=qO (J:=J) (w.sup u<|pt u<|aAe _ U.1);have r3:=qO (J:=J) (w.sup v<|pt v<|aAe _ U.2);have s1:=aAB r1 al0;have s2:=aAB r2 be0;have s3:=aAB r3 ga0;obtain⟨L,hL⟩:∃L:Int,L=((o6 n d J).length:Int):=⟨_,rfl⟩;have ub1:=ub m e j.sup;rw[<-hL]at eB ub1;have k1:o*L<=E+H+I:=by
  have:(o*L)*U5 J n d<=(E+H+I)*U5 J n d:=by
   rw[eB]at q2;have e1:o*L*U5 J n d=o*(L*U5 J n d):=Int.mul_assoc _ _ _;have e2:(E+H+I)*U5 J n d=E*U5 J n d+H*U5 J n d+I*U5 J n d:=by grind
   lia
  exact aEO this cn
 have k2:o*dot m B=(E+H+I)*U5 J m e:=by rw[q1];grind
 have k3:(o*L)*U5 J m e<=o*dot m B:=by rw[k2];exact aAS k1 (aAL cm)
 have k4:L*U5 J m e<=dot m B:=by rw[Int.mul_assoc]at k3;exact aFc k3 De0
 have all:∀X∈o6 n d J,dot m X=e:=λX i=>by
  have le:dot m X<=e:=j.sup X (c5.mp i).1;by_cases z:dot m X=e
  .exact z
  exfalso;have:=CO (λX=>dot m (C7 J X)) (λ_=>U5 J m e) (o6 n d J) (λY hY=>qO (j.sup Y (c5.mp hY).1)) ⟨X,i,OO (len_pos N) (by lia)⟩;rw[<-dB,aI,<-hL]at this
  lia
 obtain⟨A,hA,B',hB',C,hC,ea,eb,ec,hcr⟩:=w.three;obtain⟨Z,hZ,hz⟩:=N.below w.prim.ne w.sup;obtain⟨rfl,rfl⟩:=jH w.prim j.prim w.sup j.sup ea eb ec (all A<|c5.mpr ⟨hA,ea⟩) (all B'<|c5.mpr ⟨hB',eb⟩) (all C<|c5.mpr ⟨hC,ec⟩) hcr hZ hz;exact hm
def c8(J:List V)(f:V×Int):List V:=j0 f.1 (o6 f.1 f.2 J)
structure LInv(J:List V)(p0:V×V)(fs:List (V×Int))(walked:V×V->Prop)(waiting:List (V×V)):Prop where
 face:∀f∈fs,IsFace J f.1 f.2
 nd:fs.Nodup
 wk:∀e,walked e↔∃f∈fs,e∈u8 (c8 J f)
 cl:∀f∈fs,∀a b,(a,b)∈u8 (c8 J f)->(∃g∈fs,(b,a)∈u8 (c8 J g))\/(b,a)∈waiting
 wt:∀p∈waiting,(∃f∈fs,(p.2,p.1)∈u8 (c8 J f))\/(fs=[]/\p=p0)
 ne:fs=[]->waiting=[p0]
structure Good(J:List V)(m:V):Prop where
 solid:i9 J
 ord:J.Pairwise (λa b=>d9 (b-a))
 mem:m∈J
 least:∀X∈J,X=m\/d9 (X-m)
section
variable{J:List V}{m:V} (G:Good J m) {fs:List (V×Int)}{walked:V×V->Prop}{waiting rest:List (V×V)}{p:V×V}
include G
theorem BV:LInv J (f7 m J) [] (λ_=>False) [f7 m J]where
 face:=λf h=>by cases h
 nd:=aCX
 wk:=λe=>⟨λh=>h.elim,λ⟨f,h,_⟩=>by cases h⟩
 cl:=λf h=>by cases h
 wt:=λq h=>.inr ⟨rfl,by simpa using h⟩
 ne:=λ_=>rfl
theorem SK(h:LInv J (f7 m J) fs walked waiting)(j:waiting=rest++[p])(k:walked p):LInv J (f7 m J) fs walked rest:=by
 have i:∀q,q∈waiting↔q=p\/q∈rest:=λq=>by rw[j];simp[or_comm]
 obtain⟨l,d,n⟩:=(h.wk p).mp k;have o:fs≠[]:=λe=>by subst e;cases d
 refine⟨h.face,h.nd,h.wk,λf r a b g=>?_,λq s=>h.wt q ((i q).mpr (.inr s)),λe=>absurd e o⟩;rcases h.cl f r a b g with q|q
 .exact .inl q
 rcases(i (b,a)).mp q with z|z
 .subst z;exact .inl ⟨l,d,n⟩
 exact .inr z
theorem AI(h:LInv J (f7 m J) fs walked waiting)(e:p∈waiting)(g:¬walked p):IsFace J (b7 p.1 p.2 J).1 (b7 p.1 p.2 J).2/\b7 p.1 p.2 J∉fs/\(fs≠[]->p∈u8 (c8 J (b7 p.1 p.2 J))):=by
 rcases h.wt p e with⟨f,i,j⟩|⟨k,l⟩
 .have a:=h.face f i;have S:=a.aa2 G.ord;have n:=S.aa1.mp j;obtain⟨b,o⟩:=tR a.prim.ne a.sup (G.solid.below a.prim.ne a.sup) n;have q:=b.aa2 G.ord;have d:p∈u8 (c8 J<|b7 p.1 p.2 J):=q.aa1.mpr o;exact⟨b,λz=>g ((h.wk p).mpr ⟨_,z,d⟩),λ_=>d⟩
 subst k l;exact⟨W6 G.solid G.ord G.mem G.least,by simp,λz=>absurd rfl z⟩
theorem NY(h:LInv J (f7 m J) fs walked waiting)(n:waiting=rest++[p])(r:¬walked p){walked':V×V->Prop}(s:∀e,walked' e↔walked e\/e∈u8 (c8 J (b7 p.1 p.2 J)))(k:∀q,q∈waiting'↔q∈rest\/(q.2,q.1)∈u8 (c8 J (b7 p.1 p.2 J))):
  LInv J (f7 m J) (fs++[b7 p.1 p.2 J]) walked' waiting':=by
 have l:∀q,q∈waiting↔q=p\/q∈rest:=λq=>by rw[n];simp[or_comm]
 obtain⟨t,u,v⟩:=AI G h ((l p).mpr (.inl rfl)) r;refine⟨λf d=>?_,?_,λe=>?_,λf d a b j=>?_,λq w=>?_,λe=>by simp at e⟩
 .rcases aAD.mp d with z|z
  .exact h.face f z
  have:f=b7 p.1 p.2 J:=by simpa using z
  subst this;exact t
 .rw[aCK];exact⟨h.nd,by simp,λa x b A=>λe=>by
   have:b=b7 p.1 p.2 J:=by simpa using A
   subst e this;exact u x⟩
 .rw[s,h.wk];constructor
  .rintro(⟨f,d,i⟩|i)
   .exact⟨f,aBl _ d,i⟩
   exact⟨_,aAN _ (by simp),i⟩
  rintro⟨f,d,i⟩;rcases aAD.mp d with z|z
  .exact .inl ⟨f,z,i⟩
  have:f=b7 p.1 p.2 J:=by simpa using z
  subst this;exact .inr i
 .rcases aAD.mp d with z|z
  .rcases h.cl f z a b j with⟨g,B,e⟩|q
   .exact .inl ⟨g,aBl _ B,e⟩
   rcases(l (b,a)).mp q with y|y
   .have C:fs≠[]:=λe=>by subst e;cases z
    exact .inl ⟨b7 p.1 p.2 J,aAN _ (by simp),by rw[y];exact v C⟩
   exact .inr ((k _).mpr (.inl y))
  have:f=b7 p.1 p.2 J:=by simpa using z
  subst this;exact .inr ((k _).mpr (.inr j))
 rcases(k q).mp w with z|z
 .rcases h.wt q ((l q).mpr (.inr z))with⟨f,d,e⟩|⟨E,H⟩
  .exact .inl ⟨f,aBl _ d,e⟩
  have:=h.ne E;exfalso;rw[n]at this;have o:=ip List.length this;simp at o;subst o;cases z
 exact .inl ⟨_,aAN _ (by simp),z⟩
theorem TZ(h:LInv J (f7 m J) fs walked []):fs≠[]/\∀n d,(n,d)∈fs↔IsFace J n d:=by
 have k:fs≠[]:=λe=>by have:=h.ne e;cases this
 refine⟨k,λn d=>⟨λi=>h.face _ i,λi=>?_⟩⟩;refine vE G.solid G.ord fs k h.face (λf i a b j=>?_) i;have S:=(h.face f i).aa2 G.ord;rcases h.cl f i a b (S.aa1.mpr j)with⟨g,l,e⟩|q
 .exact⟨g,l,((h.face g l).aa2 G.ord).aa1.mp e⟩
 cases q
end
def uY(h:IsFace J n d):∃A∈J,∃B∈J,∃C∈J,cr (B-A) (C-A)≠0/\j1 A B C=(n,d):=by
 obtain⟨A,r,B,f,C,i,a,b,c,e⟩:=h.three;have j:∀B∈J,∀C∈J,dot n B=d->dot n C=d->cr (B-A) (C-A)≠0->0<dot n (cr (B-A)<|C-A)->j1 A B C=(n,d):=λB f C i b c e m=>by
  obtain⟨g,w,E,H,I⟩:=pD e;have p:cr n (cr (B-A)<|C-A)=0:=B4 (by rw[d8];lia) (by rw[d8];lia);obtain⟨k,l,s,o⟩:=A7 h.prim.ne p;have L:0<l:=by
   have q:=ip (dot n) o;rw[i6,i6]at q;have:=aAM s m;have N:=u4 h.prim.ne;by_cases z:0<l
   .exact z
   have:=aAS (show l<=0 by lia) (aAL N);simp at this;lia
  rw[E]at o;have O:(k*g)*(j1 A B C).1=l*n:=by rw[<-o];apply ext<;>simp<;>grind
  have t:=vU H h.prim (aAM s w) L O;refine aEw t ?_;rw[I,t];exact a
 by_cases z:0<dot n (cr (B-A)<|C-A)
 .exact⟨A,r,B,f,C,i,e,j B f C i b c e z⟩
 have u:cr (C-A) (B-A)=-cr (B-A) (C-A):=by apply ext<;>simp<;>grind
 have v:cr (C-A) (B-A)≠0:=λq=>e (by rw[u]at q;have Q:=ip V.x q;have T:=ip V.y q;have U:=ip V.z q;simp only[a1h,a1f,a2b,dF,cP,cU]at Q T U;exact ext (by simp only[dF];lia) (by simp only[cP];lia) (by simp only[cU];lia))
 have Y:dot n (cr (B-A)<|C-A)≠0:=λq=>e (W3 h.prim.ne (by rw[d8];lia) (by rw[d8];lia) q);refine⟨A,r,C,i,B,f,v,j C i B f c b v ?_⟩;have:dot n (cr (C-A)<|B-A)=-dot n (cr (B-A)<|C-A):=by rw[u];simp[dot];grind
 lia
def cands(J:List V):List (V×Int):=J.flatMap λA=>J.flatMap λB=>J.map λC=>j1 A B C
def LH(J:List V):(cands J).length=J.length*(J.length*J.length):=by
 unfold cands;have h:∀(l:List V) (f:V->List (V×Int)) (k:Nat),(∀x,(f x).length=k)->(l.flatMap f).length=l.length*k:=λl f k a=>by
  induction l with
  |nil=>simp
  |cons x l b=>rw[aFi,aAz,b,a,aAq,Nat.succ_mul,Nat.add_comm]
 rw[h J _ (J.length*J.length) λA=>h J _ J.length λB=>by simp]
theorem B9{α:Type}[DecidableEq α]:∀{l m:List α},l.Nodup->(∀x∈l,x∈m)->l.length<=m.length
 |[],_,_,_=>aAY _
 |x::l,m,h,a=>by
  have b:=a x (by simp);have d:=aAH.mp h;have:=B9 (l:=l) (m:=m.erase x) d.2 (λy f=>by
   have ne:y≠x:=λe=>by subst e;exact d.1 f
   exact(aGa ne).mpr (a y<|aAe _ f))
  rw[aFj b]at this;have:0<m.length:=aDk b;simp only[aAq]
  lia
def KT{J:List V}{fs:List (V×Int)}(a:fs.Nodup)(b:∀f∈fs,IsFace J f.1 f.2):fs.length<=J.length*(J.length*J.length):=by rw[<-LH];refine B9 a λf h=>?_;obtain⟨A,d,B,g,C,i,_,e⟩:=uY (b f h);unfold cands;rw[aAV];refine⟨A,d,?_⟩;rw[aAV];exact⟨B,g,aAj.mpr ⟨C,i,e⟩⟩
section
variable{J:List V} (hs:i9 J) (ho:J.Pairwise (λa b=>d9 (b-a)))
include hs ho
theorem Y9(e:IsFace J n d)(h:EdgeOf n (λX=>X∈o6 n d J) a b):
 IsFace J (b7 b a J).1 (b7 b a J).2/\EdgeOf (b7 b a J).1 (λX=>X∈o6 (b7 b a J).1 (b7 b a J).2 J) b a:=tR e.prim.ne e.sup (hs.below e.prim.ne e.sup) h
theorem bN(e:IsFace J n d)(f:EdgeOf n (λX=>X∈o6 n d J) a b)(g:EdgeOf n (λX=>X∈o6 n d J) b a):False:=by
 obtain⟨X,h,i⟩:=e.ad2 f;have:=g.left X h;have j:i3 n (a-b) (X-b)=-i3 n (b-a) (X-a):=by simp[i3,dot];grind
 lia
theorem aW(a:IsFace J n d)(m:X∈c8 J (n,d)):∃g h:V×Int,IsFace J g.1 g.2/\IsFace J h.1 h.2/\(n,d)≠g/\(n,d)≠h/\g≠h/\dot n X=d/\dot g.1 X=g.2/\dot h.1 X=h.2:=by
 have S:=a.aa2 ho;obtain⟨Y,s⟩:=V5 S m;obtain⟨W,o⟩:=pM S m;have b:=S.aa1.mp s;have i:=S.aa1.mp o;obtain⟨k,f⟩:=Y9 hs ho a b;obtain⟨t,j⟩:=Y9 hs ho a i;have l:W≠Y:=λe=>by subst e;exact bN hs ho a b i
 refine⟨_,_,k,t,λe=>?_,λe=>?_,λe=>?_,(c5.mp b.p).2,(c5.mp f.q).2,(c5.mp j.p).2⟩
 .rw[<-e]at f;exact bN hs ho a b f
 .rw[<-e]at j;exact bN hs ho a i j
 .
  have st:=S.strict b (fG S o).1 (i.ne) l;have u:=(c5.mp i.p).2;have v:=(c5.mp b.p).2;have w:=(c5.mp b.q).2;have x:=(c5.mp f.p).2;have y:=(c5.mp f.q).2;have r:=(c5.mp j.q).2;rw[<-e]at r;have z:cr (Y-X) (W-X)≠0:=λq=>by unfold i3 at st;rw[q,C3]at st;lia
  obtain⟨Z,A,B⟩:=hs.below a.prim.ne a.sup;obtain⟨C,E⟩:=jH a.prim k.prim a.sup k.sup v w u y x r z A B;have:(n,d)=b7 Y X J:=aEw C E;rw[<-this]at f;exact bN hs ho a b f
theorem JL(r:IsFace J n d)(g:IsFace J m e)(h:EdgeOf n (λX=>X∈o6 n d J) a b)(ga:dot m a=e)(gb:dot m b=e):(m,e)=(n,d)\/(m,e)=b7 b a J:=by
 obtain⟨pa,da⟩:=c5.mp h.p;obtain⟨pb,db⟩:=c5.mp h.q;obtain⟨H,I⟩:=Y9 hs ho r h;have hab:dot n (a-b)=0:=by rw[d8];lia
 have C:=uS (n:=n) r.prim.ne hab;have ag:a-b≠0:=λq=>h.ne (bW q);obtain⟨P,pP,eP,hP⟩:∃P∈J,dot m P=e/\cr (a-b) (P-b)≠0:=by
  by_cases z:∃P∈J,dot m P=e/\cr (a-b) (P-b)≠0
  .exact z
  exfalso;obtain⟨A,hA,B,hB,D,hD,eA,eB,eD,hc⟩:=g.three;have k:∀X∈J,dot m X=e->cr (a-b) (X-b)=0:=λX hX dX=>by
   by_cases q:cr (a-b) (X-b)=0
   .exact q
   exact absurd ⟨X,hX,dX,q⟩ z
  have k2:∀X∈J,dot m X=e->∀Y∈J,dot m Y=e->cr (X-Y) (a-b)=0:=λX hX dX Y hY dY=>by have s:=k X hX dX;have f:=k Y hY dY;have a1:=ip V.x s;have a2:=ip V.y s;have a3:=ip V.z s;have I:=ip V.x f;have b2:=ip V.y f;have b3:=ip V.z f;simp at a1 a2 a3 I b2 b3;apply ext<;>simp<;>grind
  exact hc (cQ ag (k2 B hB eB A hA eA)<|k2 D hD eD A hA eA)
 have mab:dot m (a-b)=0:=by rw[d8];lia
 have mP:dot m (P-b)=0:=by rw[d8];lia
 have par:cr m (cr (a-b)<|P-b)=0:=B4 mab mP;obtain⟨k,l,hk,L⟩:=A7 g.prim.ne par;have dl:∀w,k*i3 (a-b) (P-b) w=l*dot m w:=λw=>by have:=ip (λv=>dot v w) L;simp only[M7,R0]at this;exact this
 have l0:l≠0:=λq=>hP (by rw[q,v6]at L;have s:=ip V.x L;have f:=ip V.y L;have q3:=ip V.z L;simp only[pT,qE,pG,dF,cP,cU]at s f q3;exact ext ((aAu.mp s).resolve_left (by lia)) ((aAu.mp f).resolve_left (by lia)) ((aAu.mp q3).resolve_left (by lia)))
 have N:∀Q∈J,dot m (Q-b)<=0:=λQ hQ=>by rw[d8];have:=g.sup Q hQ;lia
 obtain⟨Z,hZ,hz⟩:=hs.below r.prim.ne r.sup;by_cases hl:0<l
 .
  right;obtain⟨O,hO,eO⟩:∃O∈o6 (b7 b a J).1 (b7 b a J).2 J,0<i3 (b7 b a J).1 (a-b) (O-b):=H.ad2 I;obtain⟨pO,dO⟩:=c5.mp hO;obtain⟨_,e1b⟩:=c5.mp I.p;obtain⟨_,e1a⟩:=c5.mp I.q;have t1:i3 (a-b) (P-b) (O-b)<=0:=by
   have q:=dl (O-b);have:=aAB (N O pO) (aAL hl);rw[aBX]at this;by_cases z:i3 (a-b) (P-b) (O-b)<=0
   .exact z
   have:=aAM hk (show 0<i3 (a-b) (P-b) (O-b)by lia);lia
  have i:cr (b7 b a J).1 (cr (a-b)<|O-b)=0:=B4 (by rw[d8];lia) (by rw[d8];lia);obtain⟨k',t,T,j⟩:=A7 H.prim.ne i;have o:∀w,k'*i3 (a-b) (O-b) w=t*dot (b7 b a J).1 w:=λw=>by have:=ip (λv=>dot v w) j;simp only[M7,R0]at this;exact this
  have jc:0<t:=by
   have q:=ip (dot (b7 b a J).1) j;rw[i6,i6]at q;have f:0<dot (b7 b a J).1 (cr (a-b)<|O-b):=eO;have:=aAM T f;have hn:=u4 H.prim.ne;by_cases z:0<t
   .exact z
   have:=aAS (show t<=0 by lia) (aAL hn);simp at this;lia
  have t2:i3 (a-b) (O-b) (P-b)<=0:=by
   have q:=o (P-b);have h0:dot (b7 b a J).1 (P-b)<=0:=by rw[d8];have:=H.sup P pP;lia
   have:=aAB h0 (aAL jc);rw[aBX]at this;by_cases z:i3 (a-b) (O-b) (P-b)<=0
   .exact z
   have:=aAM T (show 0<i3 (a-b) (O-b) (P-b)by lia);lia
  have t3:i3 (a-b) (O-b) (P-b)=0:=by rw[j5]at t1;lia
  have U:=o (P-b);rw[t3,aBX]at U;have onP':dot (b7 b a J).1 P=(b7 b a J).2:=by have:=(aAu.mp U.symm).resolve_left (by lia);rw[d8]at this;lia
  obtain⟨Z',u,E⟩:=hs.below g.prim.ne g.sup;obtain⟨s,f⟩:=jH g.prim H.prim g.sup H.sup gb ga eP e1b e1a onP' hP u E;exact aEw s f
 .
  left;have oi:l<0:=by lia
  obtain⟨O,hO,eO⟩:=r.ad2 h;obtain⟨pO,dO⟩:=c5.mp hO;rw[rL]at eO;have t1:0<=i3 (a-b) (P-b) (O-b):=by
   have q:=dl (O-b);have h2:0<=l*dot m (O-b):=by
    have:=aBk (show 0<=-l by lia) (show 0<=-dot m (O-b)by have:=N O pO;lia)
    rwa [aDt]at this
   by_cases z:0<=i3 (a-b) (P-b) (O-b)
   .exact z
   have:=aAt hk (show i3 (a-b) (P-b) (O-b)<0 by lia);lia
  have i:cr n (cr (b-a)<|O-b)=0:=B4 (by rw[d8];lia) (by rw[d8];lia);obtain⟨k',t,T,j⟩:=A7 r.prim.ne i;have o:∀w,k'*i3 (b-a) (O-b) w=t*dot n w:=λw=>by have:=ip (λv=>dot v w) j;simp only[M7,R0]at this;exact this
  have jc:0<t:=by
   have q:=ip (dot n) j;rw[i6,i6]at q;have f:0<dot n (cr (b-a)<|O-b):=eO;have:=aAM T f;have hn:=u4 r.prim.ne;by_cases z:0<t
   .exact z
   have:=aAS (show t<=0 by lia) (aAL hn);simp at this;lia
  have t2:i3 (b-a) (O-b) (P-b)<=0:=by
   have q:=o (P-b);have h0:dot n (P-b)<=0:=by rw[d8];have:=r.sup P pP;lia
   have:=aAB h0 (aAL jc);rw[aBX]at this;by_cases z:i3 (b-a) (O-b) (P-b)<=0
   .exact z
   have:=aAM T (show 0<i3 (b-a) (O-b) (P-b)by lia);lia
  have e3:i3 (b-a) (O-b) (P-b)=i3 (a-b) (P-b) (O-b):=by simp[i3,dot];grind
  have t3:i3 (b-a) (O-b) (P-b)=0:=by lia
  have U:=o (P-b);rw[t3,aBX]at U;have onn:dot n P=d:=by have:=(aAu.mp U.symm).resolve_left (by lia);rw[d8]at this;lia
  obtain⟨Z',u,E⟩:=hs.below g.prim.ne g.sup;obtain⟨s,f⟩:=jH g.prim r.prim g.sup r.sup gb ga eP db da onn hP u E;exact aEw s f
end
def yF(j:i9 J)(k:m∈J)(l:∀X∈J,X=m\/d9 (X-m)):
  aZ (b7 m (m+kk) J).1/\m∈o6 (b7 m (m+kk) J).1 (b7 m (m+kk) J).2 J/\∃a∈o6 (b7 m (m+kk) J).1 (b7 m (m+kk) J).2 J,m≠a:=by
 have C:ConeM (m+kk-m) (λw=>0<w.x\/(w.x=0/\0<w.y)):=by rw[F9];exact IS
 have o:m+kk-m≠0:=by rw[F9];intro e;have:=ip V.z e;simp[kk]at this
 have b:∀P∈J,(0<(P-m).x\/((P-m).x=0/\0<(P-m).y))\/cr (m+kk-m) (P-m)=0:=λP p=>by
  rw[F9];rcases l P p with e|e
  .right;subst e;rw[t8];apply ext<;>simp
  unfold d9 at e;rcases e with e|⟨f,e|⟨r,E⟩⟩
  .exact .inl (.inl e)
  .exact .inl (.inr ⟨f,e⟩)
  right;apply ext
  .simp[kk];simp at r;lia
  .simp[kk];simp at f;lia
  simp[kk]
 have s:∃P∈J,0<(P-m).x\/((P-m).x=0/\0<(P-m).y):=by
  by_cases z:∃P∈J,0<(P-m).x\/((P-m).x=0/\0<(P-m).y)
  .exact z
  exfalso;obtain⟨Z,h,e⟩:=j.off (n:=⟨1,0,0⟩) (d:=m.x) (λe=>by have:=ip V.x e;simp at this);have w:=(b Z h).resolve_left λq=>z ⟨Z,h,q⟩;rw[F9]at w;have:=ip V.y w;simp[kk]at this;simp[dot]at e
  lia
 obtain⟨a,g,t,i,H,I,u,v,A,L,B,N⟩:=N8 C o b s;refine⟨u,c5.mpr ⟨k,v.symm⟩,a,c5.mpr ⟨t,B⟩,λe=>?_⟩;subst e;rw[t8]at i;simp at i
section
variable{J:List V} (hs:i9 J) (ho:J.Pairwise (λa b=>d9 (b-a)))
include hs ho
theorem zD(d:IsFace J f.1 f.2)(e:IsFace J g.1 g.2)(k:(a,b)∈u8 (c8 J f))(l:(a,b)∈u8 (c8 J g)):f=g:=by
 have i:=(d.aa2 ho).aa1.mp k;have h:=(e.aa2 ho).aa1.mp l;obtain⟨m,j⟩:=Y9 hs ho d i;rcases JL hs ho d e i (c5.mp h.p).2 (c5.mp h.q).2 with q|q
 .exact q.symm
 exfalso;have:g=b7 b a J:=q;rw[<-this]at j;exact bN hs ho e h j
theorem fB(h:l.Nodup):(u8 l).Nodup:=by
 have:((u8 l).map (·.1)).Nodup:=by
  unfold u8;rw[aFz]
  .exact h
  simp;lia
 exact(aBt.mp this).imp λ{a b} h e=>h (by rw[e])
def gH(J:List V)(fs:List (V×Int)):List (V×V):=fs.flatMap λf=>u8 (c8 J f)
omit hs ho in
theorem NI(fs:List (V×Int)):(gH J fs).length=(fs.map λf=>(c8 J f).length).sum:=by
 induction fs with
 |nil=>rfl
 |cons f fs a=>show(u8 (c8 J f)++gH J fs).length=_;rw[aAz,a,aAk,aAZ];congr 1;unfold u8;simp;lia
theorem gN:∀{fs:List (V×Int)},fs.Nodup->(∀f∈fs,IsFace J f.1 f.2)->(gH J fs).Nodup
 |[],_,_=>aCX
 |f::fs,k,h=>by have i:=aAH.mp k;have j:=h f (.head _);show(u8 (c8 J f)++gH J fs).Nodup;rw[aCK];refine⟨fB hs ho ((j.aa2 ho).aa3),gN i.2 λg d=>h g (.tail _ d),λe l o m q=>?_⟩;subst q;obtain⟨g,d,n⟩:=aAV.mp m;exact i.1 (zD hs ho j (h g<|.tail _ d) (a:=e.1) (b:=e.2) l n▸d)
theorem uP{fs:List (V×Int)}(s:fs.Nodup)(k:∀f∈fs,IsFace J f.1 f.2):(fs.map λf=>(c8 J f).length).sum+J.length<=J.length*J.length:=by
 have i:J.Nodup:=ho.imp λ{a b} h e=>by subst e;exact E9 h
 have t:=gN hs ho s k;have u:(gH J fs++J.map λa=>(a,a)).Nodup:=by rw[aCK];refine⟨t,aBt.mpr (i.imp λ{a b} h e=>h (Prod.mk.inj e).1),λe d z v q=>?_⟩;subst q;obtain⟨g,m,j⟩:=aAV.mp d;obtain⟨a,_,rfl⟩:=aAj.mp v;exact(((k g m).aa2 ho).aa1.mp j).ne rfl
 have w:∀e∈gH J fs++J.map (λa=>(a,a)),e∈J.flatMap λa=>J.map λb=>(a,b):=λe d=>by
  rcases aAD.mp d with d|d
  .obtain⟨g,m,j⟩:=aAV.mp d;have j:(e.1,e.2)∈u8 (c8 J g):=j;have n:=((k g m).aa2 ho).aa1.mp j;exact aAV.mpr ⟨e.1,(c5.mp n.p).1,aAj.mpr ⟨e.2,(c5.mp n.q).1,rfl⟩⟩
  obtain⟨a,o,rfl⟩:=aAj.mp d;exact aAV.mpr ⟨a,o,aAj.mpr ⟨a,o,rfl⟩⟩
 have r:=B9 u w;have x:(J.flatMap λa=>J.map λb=>(a,b)).length=J.length*J.length:=by
  have:∀l:List V,(l.flatMap λa=>J.map λb=>(a,b)).length=l.length*J.length:=λl=>by
   induction l with
   |nil=>simp
   |cons a l y=>rw[aFi,aAz,y,aAh,aAq,Nat.succ_mul];lia
  exact this J
 rw[aAz,NI,aAh,x]at r;exact r
theorem mS{fs:List (V×Int)}(a:∀f∈fs,IsFace J f.1 f.2):3*fs.length<=(fs.map λf=>(c8 J f).length).sum:=by
 induction fs with
 |nil=>simp
 |cons f fs b=>
  have:=b λg d=>a g (.tail _ d);obtain⟨r,s,t,l,e⟩:=J5 ho (a f<|.head _);have h:(c8 J f).length=l.length+3:=by show(j0 f.1 (o6 f.1 f.2 J)).length=_;rw[e];simp
  rw[aAk,aAZ,aAq,h]
  lia
end
theorem kW:∀(J:List V) (up b:V),(G9 a A J up b).2∈J\/(G9 a A J up b).2=b
 |[],up,b=>.inr rfl
 |P::d,up,b=>by
  unfold G9;split
  .rcases kW d (cr a (P-A)) P with h|h
   .exact .inl (.tail _ h)
   exact .inl (by rw[h];exact .head _)
  rcases kW d up b with h|h
  .exact .inl (.tail _ h)
  exact .inr h
section
variable{J c:List V} (hs:i9 J) (ho:J.Pairwise (λa b=>d9 (b-a))) (bp:c.Pairwise (λa b=>d9 (b-a))) (hc:∀X,X∈c↔∃f:V×Int,IsFace J f.1 f.2/\X∈c8 J f)
include hs ho bp hc
theorem bj(h:X∈c):X∈J:=by obtain⟨f,a,b⟩:=(hc X).mp h;exact(c5.mp<|(a.aa2 ho).aa4 b).1
theorem lA(a:IsFace J n d)(h:X∈c8 J (n,d)):X∈o6 n d c:=by have b:=(c5.mp<|(a.aa2 ho).aa4 h).2;exact c5.mpr ⟨(hc X).mpr ⟨(n,d),a,h⟩,b⟩
theorem ck(h:X∈o6 n d c):X∈o6 n d J:=c5.mpr ⟨bj hs ho bp hc (c5.mp h).1,(c5.mp h).2⟩
theorem lZ(a:IsFace J n d):IsFace c n d:=by
 have S:=a.aa2 ho;obtain⟨r,s,t,l,e⟩:=J5 ho a;have i:r∈j0 n (o6 n d J):=by rw[e];simp
 have j:s∈j0 n (o6 n d J):=by rw[e];simp
 have f:t∈j0 n (o6 n d J):=by rw[e];simp
 have b:=S.aa3;rw[e]at b;simp only[aAH,aAd,not_or]at b;have g:EdgeOf n (λX=>X∈o6 n d J) r s:=S.aa1.mp (by rw[e];simp[u8]);have st:=S.strict g f (λq=>b.1.2.1 q.symm) (λq=>b.2.1.1 q.symm);have k:=λ{X} (h:X∈j0 n (o6 n d J))=>lA hs ho bp hc a (X:=X) h;refine⟨a.prim,λX m=>a.sup X (bj hs ho bp hc m),r,(c5.mp<|k i).1,s,(c5.mp<|k j).1,t,(c5.mp<|k f).1,(c5.mp<|k i).2,(c5.mp<|k j).2,(c5.mp<|k f).2,λq=>?_⟩;unfold i3 at st;rw[q,C3]at st
 lia
theorem wG(e:IsFace J n d)(h:EdgeOf n (λX=>X∈o6 n d J) a b):EdgeOf n (λX=>X∈o6 n d c) a b:=by have S:=e.aa2 ho;have m:=fG S (S.aa1.mpr h);exact⟨lA hs ho bp hc e m.1,lA hs ho bp hc e m.2,h.ne,λX f=>h.left X (ck hs ho bp hc f),λX f=>h.btw X (ck hs ho bp hc f)⟩
omit hs ho bp hc in
theorem rS{R:V->Prop}{E:List (V×V)}(g:∀a b,R a->(a,b)∈E->R b):∀(x:V) (l:List V),R x->(∀e∈j7 (x::l),e∈E)->∀X∈x::l,R X
 |x,[],f,_,X,d=>by rw[aAK.mp d];exact f
 |x,y::l,f,h,X,d=>by
  have i:=g x y f (h (x,y) (by simp[j7]));rcases aAd.mp d with rfl|d
  .exact f
  exact rS g y l i (λe j=>h e (by simp only[j7,aAd];exact .inr j)) X d
theorem CT(i:IsFace J n d)(h:X∈j0 n (o6 n d c)):X∈j0 n (o6 n d J):=by
 have S:=i.aa2 ho;have o:=(lZ hs ho bp hc i).aa2 bp;obtain⟨m,r,e,t,u⟩:=o.aa7;obtain⟨g,H,p,v,w⟩:=S.aa7;have x:m=g:=by
  have y:g∈o6 n d c:=lA hs ho bp hc i (show g∈j0 n (o6 n d J)by rw[p];simp);rcases u g y with q|q
  .exact q.symm
  rcases w m (ck hs ho bp hc t)with j|j
  .exact j
  exact absurd (A1.add q j) (by
   have:(g-m)+(m-g)=0:=by apply ext<;>simp<;>lia
   rw[this];exactλz=>by simp[d9]at z)
 have step:∀a b,a∈j0 n (o6 n d J)->(a,b)∈u8 (j0 n<|o6 n d c)->b∈j0 n (o6 n d J):=λa b A k=>by obtain⟨I,s⟩:=V5 S A;have B:=o.aa1.mp k;have C:=wG hs ho bp hc i (S.aa1.mp s);rw[B.next C];exact(fG S s).2
 rw[e]at h;refine rS (E:=u8 (j0 n<|o6 n d c)) (R:=λX=>X∈j0 n (o6 n d J)) step m r (by rw[x,p];simp) (λf l=>?_) X h;rw[e,X4];exact bE r m m f l
theorem xZ(f:IsFace J n d)(h:EdgeOf n (λX=>X∈o6 n d c) a b):EdgeOf n (λX=>X∈o6 n d J) a b:=by have S:=f.aa2 ho;have g:=(lZ hs ho bp hc f).aa2 bp;have i:=CT hs ho bp hc f (g.ab0 h);obtain⟨k,j⟩:=V5 S i;have e:=S.aa1.mp j;rw[h.next (wG hs ho bp hc f e)];exact e
theorem GT(j:IsFace J n d):i9 c:=by
 have S:=j.aa2 ho;obtain⟨r,s,t,l,e⟩:=J5 ho j;have I:r∈j0 n (o6 n d J):=by rw[e];simp
 have y:t∈j0 n (o6 n d J):=by rw[e];simp
 have o:=S.aa3;rw[e]at o;simp only[aAH,aAd,not_or]at o;have i:EdgeOf n (λX=>X∈o6 n d J) r s:=S.aa1.mp (by rw[e];simp[u8]);have st:=S.strict i y (λq=>o.1.2.1 q.symm) (λq=>o.2.1.1 q.symm);obtain⟨p,L⟩:=Y9 hs ho j i;generalize(b7 s r J).1=m at*
 generalize(b7 s r J).2=f at*
 have T:=p.aa2 ho;obtain⟨a,b,N,l2,x⟩:=J5 ho p;have g:=T.aa3;rw[x]at g;simp only[aAH,aAd,not_or]at g;obtain⟨Y,A,Q,U⟩:∃Y∈j0 m (o6 m f J),Y≠s/\Y≠r:=by
  have q1:a∈j0 m (o6 m f J):=by rw[x];simp
  have q2:b∈j0 m (o6 m f J):=by rw[x];simp
  have q3:N∈j0 m (o6 m f J):=by rw[x];simp
  by_cases B:a≠s/\a≠r
  .exact⟨a,q1,B⟩
  by_cases C:b≠s/\b≠r
  .exact⟨b,q2,C⟩
  refine⟨N,q3,λz=>?_,λz=>?_⟩
  .subst z;have E:a=r:=by
    by_cases h:a=r
    .exact h
    exact absurd ⟨g.1.2.1,h⟩ B
   have H:b=r:=by
    by_cases h:b=r
    .exact h
    exact absurd ⟨g.2.1.1,h⟩ C
   exact g.1.1 (E.trans H.symm)
  subst z;have E:a=s:=by
   by_cases h:a=s
   .exact h
   exact absurd ⟨h,g.1.2.1⟩ B
  have H:b=s:=by
   by_cases h:b=s
   .exact h
   exact absurd ⟨h,g.2.1.1⟩ C
  exact g.1.1 (E.trans H.symm)
 have sY:=T.strict L A Q U;have lt:=UJ hs p j L i (T.aa4 A) sY;have k:=λ{X} (h:X∈j0 n (o6 n d J))=>lA hs ho bp hc j (X:=X) h;have kY:=lA hs ho bp hc p A;have O:s∈j0 n (o6 n d J):=by rw[e];simp
 have dr:=(c5.mp<|k I).2;have dss:=(c5.mp<|k O).2;have dt:=(c5.mp<|k y).2;refine⟨r,(c5.mp<|k I).1,s,(c5.mp<|k O).1,t,(c5.mp<|k y).1,Y,(c5.mp kY).1,λz=>?_⟩;have p1:dot n (s-r)=0:=by rw[d8];lia
 have p2:dot n (t-r)=0:=by rw[d8];lia
 have pY:dot n (Y-r)<0:=by rw[d8];lia
 have id:i3 (s-r) (t-r) (Y-r)*dot n n=i3 n (s-r) (t-r)*dot n (Y-r)+dot n (s-r)*(dot n (t-r)*0)+(dot n (s-r)*i3 n (t-r) (Y-r)+dot n (t-r)*i3 n (Y-r) (s-r)):=by generalize s-r=u;generalize t-r=v;generalize Y-r=w;have:=UB n n u v w;simp[i3,dot]at this⊢;grind
 rw[z,p1,p2]at id;have:i3 n (s-r) (t-r)*dot n (Y-r)<0:=aAt st pY
 lia
theorem YK(fs:List (V×Int))(k:fs≠[])(e:∀f,f∈fs↔IsFace J f.1 f.2):IsFace c n d↔IsFace J n d:=by
 refine⟨λh=>?_,lZ hs ho bp hc⟩;obtain⟨o,g⟩:=aFd fs k;have p:=GT hs ho bp hc ((e o).mp g);have:=vE p bp fs k (λf i=>lZ hs ho bp hc ((e f).mp i)) (λf i a b j=>?_) h
 .exact(e _).mp this
 have l:=(e f).mp i;obtain⟨m,q⟩:=Y9 hs ho l (xZ hs ho bp hc l j);exact⟨b7 b a J,(e _).mpr m,wG hs ho bp hc m q⟩
theorem PU(b:X∈c):∃f:V×Int,IsFace c f.1 f.2/\X∈c8 c f:=by obtain⟨⟨n,d⟩,a,h⟩:=(hc X).mp b;have S:=a.aa2 ho;obtain⟨Q,e⟩:=V5 S h;exact⟨(n,d),lZ hs ho bp hc a,((lZ hs ho bp hc a).aa2 bp).ab0 (wG hs ho bp hc a<|S.aa1.mp e)⟩
end
def qk{Pos:V->Prop}(C:Cone Pos){n m p v q u:V}(g:n≠0)(r:dot n p=0)(d:dot n v=0)(f:dot n q=0)(s:dot n u=0)(B:Pos p)(i:Pos v)(j:Pos q)(E:Pos u)(H:0<dot m p)(mv:dot m v<0)(k:0<dot m q)(mu:dot m u<0)(t:0<=i3 n v p)(w:0<=i3 n q u):False:=by
 have id:∀{a b c:V},dot n a=0->dot n b=0->dot n c=0->i3 n a b*dot m c+i3 n b c*dot m a+i3 n c a*dot m b=0:=λ{a b c} I J L=>by have:=UB m n a b c;rw[z7 g I J L,aGF]at this;exact this
 have N:=id d r f;have O:=id f s d;rcases aDT 0 (i3 n q v)with h|h
 .
  have l:=C.tr j i B (z7 g f d r) h t;have o:i3 n p q=-i3 n q p:=j5 n q p;rw[o]at N;have Q:0<=i3 n v p*dot m q:=aBk t (aAL k);have T:0< -i3 n q p*dot m v:=by have:=aAM l (show 0< -dot m v by lia);grind
  have U:0<i3 n q v*dot m p:=aAM h H
  lia
 rcases aDT (i3 n q v) 0 with h'|h'
 .have e0:i3 n v q=-i3 n q v:=j5 n q v;have A:0<i3 n v q:=by lia
  have l:=C.tr i j E (z7 g d f s) A w;have o:i3 n u v=-i3 n v u:=j5 n v u;rw[o]at O;have Q:i3 n q u*dot m v<=0:=by have:=aBk w (show 0<=-dot m v by lia);grind
  have T:-i3 n v u*dot m q<0:=by have:=aAM l k;grind
  have U:i3 n v q*dot m u<0:=by have:=aAM A (show 0< -dot m u by lia);grind
  lia
 have z:i3 n q v=0:=by lia
 have c0:=W3 g f d z;have e:dot m q*v+(-dot m v)*q=0:=by have Y:=ip V.x c0;have hy:=ip V.y c0;have hz:=ip V.z c0;simp at Y hy hz;apply ext<;>simp[dot]<;>grind
 have:=C.add (C.mul k i) (C.mul (show 0< -dot m v by lia) j);rw[e]at this;exact C.irr this
section
variable{n:V}{ts:List V} (S:Sheet n ts)
include S
theorem Sheet.ac9(h:X∈w8 n ts\/X∈w8 n ts.reverse):X∈j0 n ts:=by
 obtain⟨m,M,c,d,j,k,f,l,o,b,e,g,i,p,q⟩:=S.ends;unfold j0;rw[aAD,b,e,aAP,aAP,aBq,aBq,aBO,aBO];rw[b,e]at h;have a:m≠M:=λz=>by subst z;exact E9 f
 rcases h with h|h
 .rcases aAd.mp h with rfl|h
  .right;have:=aDc i;rcases aAd.mp this with z|z
   .exact absurd z.symm a
   exact z
  exact .inl h
 rcases aAd.mp h with rfl|h
 .left;have:=aDc g;rcases aAd.mp this with z|z
  .exact absurd z a
  exact z
 exact .inr h
theorem Sheet.top(d:X∈ts)(h:∀Y∈ts,Y≠X->dot m Y<dot m X):X∈j0 n ts:=by
 obtain⟨s,n1,t1⟩:=S.ab3;obtain⟨t,n2,t2⟩:=S.ab2;have w:∀u,d9 u->d9 (-u)->False:=λu x y=>by have:=A1.add x y;have A:u+-u=0:=(by apply ext<;>simp<;>lia);rw[A]at this;exact A1.irr this
 have B:∀u,N2 u->N2 (-u)->False:=λu x y=>by have:=aM.add x y;have A:u+-u=0:=(by apply ext<;>simp<;>lia);rw[A]at this;exact aM.irr this
 rcases qI X (w8 n ts) (λY _=>K0 X Y) (λq C=>t1 X q C d) (λz E=>s.last X d z E) n1 w with H|⟨a,b,j,O,Q⟩
 .exact S.ac9 (.inl H)
 rcases qI X (w8 n ts.reverse) (λY _=>by
   rcases K0 X Y with z|z|z
   .exact .inl z
   .exact .inr (.inr (o8.mpr z))
   exact .inr (.inl (o8.mpr z))) (λq C=>t2 X q C d) (λz E=>t.last X d z E) n2 B with H|⟨k,r,f,I,ji⟩
 .exact S.ac9 (.inr H)
 exfalso;have T:=M5 S j;have U:=M5 S f;have J:=s.mem _ T.1;have L:=s.mem _ T.2;have g:=t.mem _ U.1;have i:=t.mem _ U.2;have E1:=(S.ae0 j J L).1.left X d;have E2:=(S.ad8 f g i).1.left X d;have l:=o8.mp I;have ya:=o8.mp ji;have ne:∀{Y},d9 (X-Y)->Y≠X:=λN z=>by subst z;exact E9 N
 have o:∀{Y},d9 (Y-X)->Y≠X:=λN z=>by subst z;exact E9 N
 have va:=h a J (ne O);have vb:=h b L (o Q);have va':=h k g (o l);have vb':=h r i (ne ya);refine qk A1 (n:=n) (m:=m) (p:=X-a) (v:=b-X) (q:=X-r) (u:=k-X) S.nz (S.pl _ d _ J) (S.pl _ L _ d) (S.pl _ d _ i) (S.pl _ g _ d) O Q ya l (by rw[d8];lia) (by rw[d8];lia) (by rw[d8];lia) (by rw[d8];lia) ?_ ?_
 .have e:i3 n (b-a) (X-a)=i3 n (b-X) (X-a):=by simp[i3,dot];grind
  rw[<-e];exact E1
 have e:i3 n (r-k) (X-k)=i3 n (X-r) (k-X):=by simp[i3,dot];grind
 rw[<-e];exact E2
end
section
variable{J:List V} (hs:i9 J)
include hs
theorem W2(a:IsFace J n d)(b:IsFace J m e)(i:dot n X=d)(j:dot m X=e)(h:cr m n=0):(n,d)=(m,e):=by
 obtain⟨k,l,f,g⟩:=A7 b.prim.ne h;obtain⟨Z,o,t⟩:=hs.below a.prim.ne a.sup;have p:0<l:=by
  have q:=ip (λv=>dot v (Z-X)) g;rw[M7,M7]at q;have r:dot n (Z-X)<0:=by rw[d8];lia
  have u:dot m (Z-X)<=0:=by rw[d8];have:=b.sup Z o;lia
  have w:k*dot n (Z-X)<0:=aAt f r;by_cases z:0<l
  .exact z
  exfalso;have:0<=l*dot m (Z-X):=by
   have:=aBk (show 0<=-l by lia) (show 0<=-dot m (Z-X)by lia)
   rwa [aDt]at this
  lia
 have s:=vU a.prim b.prim f p g;subst s;rw[<-i,<-j]
theorem CS{a b c:Int}(j:IsFace J n d)(l:IsFace J m e)(o:IsFace J k f)(hX:dot n X=d)(oo:dot m X=e)(p:dot k X=f)(hc:0<c)(r:0<a)(s:0<b)(h:c*k=a*n+b*m)(t:cr n m≠0):False:=by
 obtain⟨A,u,B,w,C,x,y,E,H,g⟩:=o.three;have on:∀Y∈J,dot k Y=f->dot n Y=d/\dot m Y=e:=λY i hy=>by
  have h1:=j.sup Y i;have h2:=l.sup Y i;have q:=ip (λv=>dot v (Y-X)) h;have q:c*dot k (Y-X)=a*dot n (Y-X)+b*dot m (Y-X):=by
   have I:dot (c*k) (Y-X)=c*dot k (Y-X):=M7 ..;have L:dot (a*n+b*m) (Y-X)=a*dot n (Y-X)+b*dot m (Y-X):=by simp[dot];grind
   rw[<-I,<-L];exact q
  have N:dot k (Y-X)=0:=by rw[d8];lia
  rw[N,aBX]at q;have O:dot n (Y-X)<=0:=by rw[d8];lia
  have Q:dot m (Y-X)<=0:=by rw[d8];lia
  have a0:a*dot n (Y-X)<=0:=aAs (aAL r) O;have b0:b*dot m (Y-X)<=0:=aAs (aAL s) Q;have T:a*dot n (Y-X)=0:=by lia
  have U:b*dot m (Y-X)=0:=by lia
  have y1:dot n (Y-X)=0:=by rcases aAu.mp T with z|z;lia;exact z
  have y2:dot m (Y-X)=0:=by rcases aAu.mp U with z|z;lia;exact z
  rw[d8]at y1 y2;exact⟨by lia,by lia⟩
 obtain⟨a1,a2⟩:=on A u y;obtain⟨b1,b2⟩:=on B w E;obtain⟨c1,c2⟩:=on C x H;have p1:cr n (cr (B-A)<|C-A)=0:=B4 (by rw[d8];lia) (by rw[d8];lia);have p2:cr m (cr (B-A)<|C-A)=0:=B4 (by rw[d8];lia) (by rw[d8];lia);exact t (cQ g p1 p2)
theorem mC(o:IsFace J n d)(p:IsFace J m e)(i:IsFace J k f)(B:dot n X=d)(C:dot m X=e)(E:dot k X=f)(n12:(n,d)≠(m,e))(n13:(n,d)≠(k,f))(n23:(m,e)≠(k,f)):i3 n m k≠0:=λz=>by
 have H:cr n m≠0:=λq=>n12 (W2 hs p o C B q).symm;have I:cr n k≠0:=λq=>n13 (W2 hs i o E B q).symm;have L:cr m k≠0:=λq=>n23 (W2 hs i p E C q).symm;have j:∀{u v:V},cr u v≠0->cr v u≠0:=λ{u v} h q=>h (by have N:=ip V.x q;have g:=ip V.y q;have A:=ip V.z q;simp at N g A;apply ext<;>simp<;>grind)
 obtain⟨w,ew⟩:∃w,w=cr n m:=⟨_,rfl⟩;have r:=DJ w n m k;rw[z]at r;have O:0<i3 w n m:=by
  have:i3 w n m=dot w w:=by rw[ew];rfl
  rw[this,ew];exact u4 H
 obtain⟨c,ec⟩:∃c,c=i3 w n m:=⟨_,rfl⟩;obtain⟨a,ea⟩:∃a,a=-i3 w m k:=⟨_,rfl⟩;obtain⟨b,eb⟩:∃b,b=-i3 w k n:=⟨_,rfl⟩;have T:c*k=a*n+b*m:=by rw[ec,ea,eb];have N:=ip V.x r;have g:=ip V.y r;have A:=ip V.z r;simp at N g A;apply ext<;>simp<;>lia
 rw[<-ec]at O;have U:=ip V.x T;have Y:=ip V.y T;have vz:=ip V.z T;simp at U Y vz;have l:∀{u v:V}{s t:Int},s≠0->s*u=t*v->cr u v=0:=λ{u v s t} jo h=>by
  have N:=ip V.x h;have g:=ip V.y h;have A:=ip V.z h;simp at N g A;have go:∀y:Int,s*y=0->y=0:=λy g=>by rcases aAu.mp g with q|q;exact absurd q jo;exact q
  apply ext<;>simp<;>apply go<;>grind
 rcases aDT 0 a with ha|ha
 .rcases aDT 0 b with Q|Q
  .exact CS hs o p i B C E O ha Q T H
  rcases aDT b 0 with ji|ji
  .
   refine CS hs i p o E C B ha O (show 0< -b by lia) (c:=a) (a:=c) (b:=-b) ?_ (j L);apply ext<;>simp<;>lia
  have b0:b=0:=by lia
  refine I (l (u:=n) (v:=k) (s:=a) (t:=c) (by lia) ?_);rw[b0]at U Y vz;apply ext<;>simp<;>lia
 rcases aDT a 0 with ha'|ha'
 .rcases aDT 0 b with Q|Q
  .refine CS hs i o p E B C Q O (show 0< -a by lia) (c:=b) (a:=c) (b:=-a) ?_ (j I);apply ext<;>simp<;>lia
  .
   obtain⟨Z,hZ,A⟩:=hs.below i.prim.ne i.sup;have q:c*dot k (Z-X)=a*dot n (Z-X)+b*dot m (Z-X):=by simp[dot];grind
   have k0:dot k (Z-X)<0:=by rw[d8];lia
   have n0:dot n (Z-X)<=0:=by rw[d8];have:=o.sup Z hZ;lia
   have m0:dot m (Z-X)<=0:=by rw[d8];have:=p.sup Z hZ;lia
   have t1:c*dot k (Z-X)<0:=aAt O k0;have t2:0<=a*dot n (Z-X):=by
    have:=aBk (show 0<=-a by lia) (show 0<=-dot n (Z-X)by lia)
    rwa [aDt]at this
   have t3:0<=b*dot m (Z-X):=by
    have:=aBk (show 0<=-b by lia) (show 0<=-dot m (Z-X)by lia)
    rwa [aDt]at this
   lia
 have a0:a=0:=by lia
 by_cases b0:b=0
 .rw[a0,b0]at U Y vz;have k0:k=0:=by
   have go:∀y:Int,c*y=0->y=0:=λy g=>by rcases aAu.mp g with q|q;lia;exact q
   apply ext<;>simp<;>apply go<;>lia
  exact i.prim.ne k0
 refine L (l (u:=m) (v:=k) (s:=b) (t:=c) b0 ?_);rw[a0]at U Y vz;apply ext<;>simp<;>lia
end
def Up(J:List V)(A B C:V):Prop:=(∀X∈J,dot (cr (B-A)<|C-A) (X-A)<=0)/\∃X∈J,dot (cr (B-A)<|C-A) (X-A)<0
def Dn(J:List V)(A B C:V):Prop:=(∀X∈J,0<=dot (cr (B-A)<|C-A) (X-A))/\∃X∈J,0<dot (cr (B-A)<|C-A) (X-A)
abbrev T3:=V×V×V
def tr(r:T3):T3:=(⟨r.1.x,r.2.1.x,r.2.2.x⟩,⟨r.1.y,r.2.1.y,r.2.2.y⟩,⟨r.1.z,r.2.1.z,r.2.2.z⟩)
def a4n:T3:=(⟨1,0,0⟩,⟨0,1,0⟩,⟨0,0,1⟩)
def a6a(r:T3):tr (tr r)=r:=rfl
abbrev Mv:=T3×V
def ay:Mv:=(a4n,0)
section
variable{J qts:List V}{m:Mv}{n:V}{d:Int}
end
section
end
section
variable{J qts:List V}{n:V}{d:Int}
end
structure Sl where
 a:Int
 b:Int
 c:Int
 w:V
 t:Bool
def Sl.put(s:Sl)(P:V):V:=
 let x:=P.x+s.a*P.y
 let y:=P.y+s.b*P.z
 let z:=P.z+s.c*x
 if s.t then⟨y+s.w.x,x+s.w.y,z+s.w.z⟩else⟨x+s.w.x,y+s.w.y,z+s.w.z⟩
def Sl.mv(s:Sl):Mv:=
 let d:V:=⟨1,s.a,0⟩
 let e:V:=⟨0,1,s.b⟩
 let f:V:=⟨s.c,s.c*s.a,1⟩
 (if s.t then(e,d,f)else(d,e,f),s.w)
def aE{n m k y:V}(a:i3 n m k≠0)(d:dot n y=0)(g:dot m y=0)(h:dot k y=0):y=0:=by
 have i:∀t:Int,i3 n m k*t=0->t=0:=λt j=>by
  rcases aAu.mp j with q|q
  .exact absurd q a
  exact q
 have e:∀f:V->Int,(f=(·.x)\/f=(·.y)\/f=(·.z))->i3 n m k*f y=dot n y*f (cr m k)+dot m y*f (cr k n)+dot k y*f (cr n m):=λf b=>by rcases b with rfl|rfl|rfl<;>simp[i3,dot,cr]<;>grind
 have z:∀f:V->Int,(f=(·.x)\/f=(·.y)\/f=(·.z))->f y=0:=λf b=>i _ (by rw[e f b,d,g,h];simp);exact ext (z _<|.inl rfl) (z _<|.inr (.inl rfl)) (z _<|.inr (.inr rfl))
def VY{a b p q d:Int}(f:0<a)(g:0<b)(i:p<=d)(j:q<=d)(e:(a+b)*d=a*p+b*q):p=d:=by
 have k:=aBk (aAL f) (show 0<=d-p by lia);have l:=aBk (aAL g) (show 0<=d-q by lia);have m:a*(d-p)+b*(d-q)=0:=by
  have:a*(d-p)+b*(d-q)=(a+b)*d-(a*p+b*q):=by grind
  lia
 have h:a*(d-p)=0:=by
  clear e;generalize a*(d-p)=u at*
  generalize b*(d-q)=v at*
  lia
 rcases aAu.mp h with q|q<;>lia
section
variable{J:List V} (hs:i9 J) (ho:J.Pairwise (λa b=>d9 (b-a)))
include hs ho
theorem qR(f:IsFace J n d)(p:X∈c8 J (n,d))(r:P∈J)(s:Q∈J){a b:Int}(t:0<a)(u:0<b)(e:(a+b)*X=a*P+b*Q):P=X:=by
 obtain⟨y,z,g,i,v,w,x,j,k,l⟩:=aW hs ho f p;have on:∀{m:V}{c:Int},IsFace J m c->dot m X=c->dot m (P-X)=0:=λ{m c} h o=>by have q:=ip (dot m) e;rw[i6,show dot m (a*P+b*Q)=a*dot m P+b*dot m Q by simp[dot];grind,o]at q;rw[d8,o,VY t u (h.sup P r) (h.sup Q s) q];lia
 exact bW (aE (mC hs f g i j k l v w x) (on f j) (on g k)<|on i l)
end
section
variable{J:List V} (hs:i9 J) (ho:J.Pairwise (λa b=>d9 (b-a)))
include hs ho
theorem rE{a b n:V}{d:Int}(g:IsFace J n d)(h:EdgeOf n (λX=>X∈o6 n d J) a b):∃m e,IsFace J m e/\(n,d)≠(m,e)/\dot m a=e/\dot m b=e:=by obtain⟨i,f⟩:=Y9 hs ho g h;refine⟨_,_,i,λe=>?_,(c5.mp f.q).2,(c5.mp f.p).2⟩;have:(n,d)=b7 b a J:=e;rw[<-this]at f;exact bN hs ho g h f
theorem WH{n m k X Y:V}{d e f:Int}(g:IsFace J n d)(h:IsFace J m e)(i:IsFace J k f)(r:dot n X=d)(t:dot m X=e)(u:dot k X=f)(j:(n,d)≠(m,e))(l:(n,d)≠(k,f))(o:(m,e)≠(k,f))(p:Y∈J)(ne:Y≠X):dot n Y<d\/dot m Y<e\/dot k Y<f:=by
 have q:=mC hs g h i r t u j l o;have a:=g.sup Y p;have b:=h.sup Y p;have c:=i.sup Y p;by_cases z:dot n Y<d\/dot m Y<e\/dot k Y<f
 .exact z
 have s:∀{n:V}{d:Int},dot n X=d->dot n Y=d->dot n (Y-X)=0:=λ{n d} g h=>by
  have:dot n (Y-X)=dot n Y-dot n X:=by simp[dot];grind
  lia
 have:=aE q (s r (by lia)) (s t (by lia)) (s u (by lia));exact absurd (by have g:=ip V.x this;have h:=ip V.y this;have i:=ip V.z this;simp at g h i;exact ext (by lia) (by lia) (by lia)) ne
end
section
variable{J qts:List V}{n:V}{d:Int}{m:Mv}
end
def VV{w:V}(h:w≠0):∃a:V,a≠0/\dot w a=0:=by
 rcases cD h with x|x|x
 .exact⟨⟨-w.y,w.x,0⟩,λe=>x (ip V.y e),by simp[dot];grind⟩
 .exact⟨⟨-w.y,w.x,0⟩,λe=>x (by have:=ip V.x e;simp at this;exact this),by simp[dot];grind⟩
 exact⟨⟨-w.z,0,w.x⟩,λe=>x (by have:=ip V.x e;simp at this;exact this),by simp[dot];grind⟩
def TH{J:List V}{X w:V}(l:i9 J)(s:X∈J)(m:∀Y∈J,Y≠X->dot w Y<dot w X):∃n d,IsFace J n d/\dot n X=d:=by
 have t:w≠0:=λz=>by obtain⟨Z,h,e⟩:=l.off (n:=⟨1,0,0⟩) (d:=X.x) (λe=>by have:=ip V.x e;simp at this);have:=m Z h λq=>e (by rw[q];simp[dot]);rw[z]at this;simp[dot]at this
 obtain⟨a,I,L⟩:=VV t;have C:ConeM (X+a-X) (λv=>dot w v<0):=by rw[F9];exact iD L
 have N:X+a-X≠0:=by rw[F9];exact I
 have O:∀P∈J,dot w (P-X)<0\/cr (X+a-X) (P-X)=0:=λP k=>by
  by_cases e:P=X
  .right;subst e;rw[t8];apply ext<;>simp
  have:=m P k e;exact .inl (by rw[d8];lia)
 obtain⟨Z,h,Q⟩:=l.off (n:=w) (d:=dot w X) t;have T:∃P∈J,dot w (P-X)<0:=⟨Z,h,by have:=m Z h λq=>Q (by rw[q]);rw[d8];lia⟩
 obtain⟨b,g,y,A,g0,ge,B,E,f,sB,U,sP⟩:=N8 C N O T;generalize b7 X (X+a) J=u at*
 obtain⟨n,d⟩:=u;dsimp only at*
 by_cases z:∃Y∈J,dot n Y=d/\cr (b-X) (Y-X)≠0
 .obtain⟨Y,hY,y1,y2⟩:=z;exact⟨n,d,⟨B,f,X,s,b,y,Y,hY,E.symm,U,y1,y2⟩,E.symm⟩
 have na:dot n (b-X)=0:=by rw[d8];lia
 have H:=iD na;have on:b-X≠0:=λq=>by rw[q]at A;simp[dot]at A
 obtain⟨Z,h,hz⟩:=l.below B.ne f;obtain⟨i,g2,p1,p2,p0,pe,pp,pd,j,o,p,sP2⟩:=N8 H on (J:=J) (λP k=>by
  have:=f P k;by_cases q:dot n P<d
  .exact .inl (by rw[d8];lia)
  exact .inr (aCY λr=>z ⟨P,k,by lia,r⟩)) ⟨Z,h,by rw[d8];lia⟩
 exact⟨_,_,⟨pp,j,X,s,b,y,i,p1,pd.symm,o,p,H.ac5 on p2⟩,pd.symm⟩
def NV{J:List V}{X w:V}(j:i9 J)(k:J.Pairwise (λa b=>d9 (b-a)))(g:X∈J)(h:∀Y∈J,Y≠X->dot w Y<dot w X):∃f:V×Int,IsFace J f.1 f.2/\X∈c8 J f:=by obtain⟨n,d,i,e⟩:=TH j g h;exact⟨(n,d),i,(i.aa2 k).top (m:=w) (c5.mpr ⟨g,e⟩) λY l ne=>h Y (c5.mp l).1 ne⟩
section
variable{p o:List V} (hs:i9 o) (ho:o.Pairwise (λa b=>d9 (b-a))) (sub:∀X∈p,X∈o) (ex:∀Y∈o,Y∈p\/∃a∈p,∃b∈p,(2:Int)*Y=a+b)
include hs ho sub ex
end
section
variable{J c:List V} (hs:i9 J) (ho:J.Pairwise (λa b=>d9 (b-a))) (bp:c.Pairwise (λa b=>d9 (b-a))) (hc:∀X,X∈c↔∃f:V×Int,IsFace J f.1 f.2/\X∈c8 J f)
include hs ho bp hc
end
def NF{n a b x:V}(d:n≠0)(e:dot n a=0)(f:dot n b=0)(nx:dot n x=0):i3 n a b*x=i3 n x b*a+i3 n a x*b:=by
 have z:=z7 d e f nx;have g:=ip (λt=>t*n.x) z;have h:=ip (λt=>t*n.y) z;have i:=ip (λt=>t*n.z) z;simp only[i3,dot,cr]at g h i;apply ext
 .simp[i3,dot];grind
 .simp[i3,dot];grind
 simp[i3,dot];grind
def vG:∀ds:List V,∃w:V,∀v∈ds,d9 v->0<dot w v:=by
 intro ds;obtain⟨M,g⟩:∃M:Nat,∀v∈ds,v.y.natAbs<=M/\v.z.natAbs<=M:=by
  induction ds with
  |nil=>exact⟨0,λv d=>nomatch d⟩
  |cons u ds j=>
   obtain⟨M,h⟩:=j;refine⟨M+u.y.natAbs+u.z.natAbs,λv d=>?_⟩;rcases aAd.mp d with rfl|d
   .exact⟨aAp (aFK _ _) (aCh _ _),aFK _ _⟩
   exact⟨aAp (h v d).1 (aAp (aCh _ _)<|aCh _ _),aAp (h v d).2 (aAp (aCh _ _)<|aCh _ _)⟩
 have f:∀{x:Int},x.natAbs<=M->-((M:Int)+1)<x:=λh=>by lia
 obtain⟨N,k,i⟩:∃N:Int,(M:Int)+1=N/\0<N:=⟨_,rfl,by lia⟩;rw[k]at f;refine⟨⟨2*N*(2*N),2*N,1⟩,λv d p=>?_⟩;have l:=f (g v d).1;have m:=f (g v d).2;simp only[dot,Int.one_mul];unfold d9 at p;rcases p with p|⟨p,q|⟨q,r⟩⟩
 .have a:2*N*(2*N)*1<=2*N*(2*N)*v.x:=aAB (by lia) (aBk (by lia) (by lia));have b:2*N*(-N+1)<=2*N*v.y:=aAB (by lia) (by lia);have e:2*N*(-N+1)+2*N*(2*N)*1=2*(N*N)+2*N:=by grind
  have n:0<N*N:=aAM i i
  lia
 .rw[p,aBX];have b:2*N*1<=2*N*v.y:=aAB (by lia) (by lia)
  lia
 rw[p,q,aBX,aBX];lia
section
variable{J:List V} (hs:i9 J) (ho:J.Pairwise (λa b=>d9 (b-a)))
include hs ho
theorem fQ{n:V}{d:Int}{P v Q:V}(b:IsFace J n d)(a:EdgeOf n (λX=>X∈o6 n d J) P v)(f:EdgeOf n (λX=>X∈o6 n d J) v Q):0<i3 n (Q-v) (P-v)/\∀x:V,dot n x=0->i3 n (Q-v) (P-v)*x=i3 n x (P-v)*(Q-v)+i3 n (Q-v) x*(P-v):=by
 have S:=b.aa2 ho;have g:P≠Q:=λe=>bN hs ho b a (e▸f);have on:∀{X:V},X∈o6 n d J->dot n (X-v)=0:=λh=>by rw[d8,(c5.mp h).2,(c5.mp a.q).2];lia
 refine⟨S.strict f (S.ab0 a) a.ne g,λx i=>NF b.prim.ne (on f.q) (on a.p) i⟩
theorem BK{n w:V}{d:Int}{P v Q:V}(i:IsFace J n d)(f:EdgeOf n (λX=>X∈o6 n d J) P v)(h:EdgeOf n (λX=>X∈o6 n d J) v Q)(p:0<=dot w (P-v))(q:0<=dot w (Q-v)){X:V}(g:X∈o6 n d J):0<=dot w (X-v):=by
 obtain⟨j,c⟩:=fQ hs ho i f h;have e:=ip (dot w) (c (X-v) (by rw[d8,(c5.mp g).2,(c5.mp f.q).2];lia));rw[i6,u5,i6,i6]at e;have b:=h.left X g;have a:=f.left X g;have k:i3 n (X-v) (P-v)=i3 n (v-P) (X-P):=by simp[i3,dot];grind
 have u:=aBk (show 0<=i3 n (X-v) (P-v)by lia) q;have l:=aBk b p;by_cases z:0<=dot w (X-v)
 .exact z
 have:=aAt j (show dot w (X-v)<0 by lia)
 lia
theorem CK{n w y:V}{d:Int}{P v Q:V}(u:IsFace J n d)(C:EdgeOf n (λX=>X∈o6 n d J) P v)(E:EdgeOf n (λX=>X∈o6 n d J) v Q)(H:dot n y=0)(I:y≠0)(L:dot w y=0)(i:0<=i3 n y (P-v))(j:0<=i3 n (Q-v) y)(N:dot w (P-v)≠0)(l:dot w (Q-v)≠0):(0<dot w (P-v)/\dot w (Q-v)<0)\/(dot w (P-v)<0/\0<dot w (Q-v)):=by
 obtain⟨D0,c⟩:=fQ hs ho u C E;have a:=c y H;have e:=ip (dot w) a;rw[i6,u5,i6,i6,L,aBX]at e;have m:¬(i3 n y (P-v)=0/\i3 n (Q-v) y=0):=λ⟨O,T⟩=>I (by rw[O,T]at a;have o:=ip V.x a;have r:=ip V.y a;have s:=ip V.z a;simp only[pT,qE,pG,SJ,OA,TU,aGF,aFL]at o r s;have k:∀t:Int,i3 n (Q-v) (P-v)*t=0->t=0:=λt U=>(aAu.mp U).resolve_left (by lia);exact ext (k _ o) (k _ r) (k _ s))
 generalize i3 n y (P-v)=A at*
 generalize i3 n (Q-v) y=B at*
 generalize dot w (P-v)=p at*
 generalize dot w (Q-v)=q at*
 rcases aDo N with f|f
 .rcases aDo l with b|b
  .exfalso;have Y:A*q<=0:=aAs i (by lia);have u2:B*p<=0:=aAs j (by lia);have g:A=0:=by
    rcases aAu.mp (show A*q=0 by lia)with z|z
    .exact z
    lia
   have h:B=0:=by
    rcases aAu.mp (show B*p=0 by lia)with z|z
    .exact z
    lia
   exact m ⟨g,h⟩
  exact .inr ⟨f,b⟩
 rcases aDo l with b|b
 .exact .inl ⟨f,b⟩
 exfalso;have Y:0<=A*q:=aBk i (by lia);have u2:0<=B*p:=aBk j (by lia);have g:A=0:=by
  rcases aAu.mp (show A*q=0 by lia)with z|z
  .exact z
  lia
 have h:B=0:=by
  rcases aAu.mp (show B*p=0 by lia)with z|z
  .exact z
  lia
 exact m ⟨g,h⟩
end
def PV{w a b d n1 n2 n:V}(t:w≠0)(a1:dot w a=0)(a2:dot w b=0)(a3:dot w d=0)(b1:dot n1 a=0)(b2:dot n2 b=0)(y:dot n d=0)(o:dot n1 b<0)(f:dot n1 d<0)(g:dot n2 a<0)(i:dot n2 d<0)(j:dot n a<0)(l:dot n b<0):False:=by
 have e:=NF t a1 a2 a3;have u:=ip (dot n1) e;have v:=ip (dot n2) e;have x:=ip (dot n) e;rw[i6,u5,i6,i6]at u v x;rw[b1]at u;rw[b2]at v;rw[y]at x;have p:a≠0:=λz=>by rw[z]at g;simp[dot]at g
 by_cases z:i3 w a b=0
 .have E:=W3 t a1 a2 z;obtain⟨k,m,H,q⟩:=A7 p E;have I:=ip (dot n1) q;rw[i6,i6,b1]at I;have:=aAt H o
  lia
 generalize i3 w a b=A at*
 generalize i3 w d b=B at*
 generalize i3 w a d=C at*
 rcases aDo z with h|h
 .have J:=aBG h f;have L:=aBG h i;have r:C<0:=by
   by_cases q:C<0
   .exact q
   have:=aAs (show 0<=C by lia) (show dot n1 b<=0 by lia);lia
  have s:B<0:=by
   by_cases q:B<0
   .exact q
   have:=aAs (show 0<=B by lia) (show dot n2 a<=0 by lia);lia
  have:=aBG s j;have:=aBG r l
  lia
 have J:=aAt h f;have L:=aAt h i;have r:0<C:=by
  by_cases q:0<C
  .exact q
  have:=aDX (show C<=0 by lia) (show dot n1 b<=0 by lia);lia
 have s:0<B:=by
  by_cases q:0<B
  .exact q
  have:=aDX (show B<=0 by lia) (show dot n2 a<=0 by lia);lia
 have:=aAt s j;have:=aAt r l
 lia
section
variable{J:List V} (hs:i9 J)
include hs
theorem GZ{n w v A B:V}{d:Int}(j:IsFace J n d)(f:A∈o6 n d J)(g:B∈o6 n d J)(i:dot n v=d)(c:cr (A-v) (B-v)≠0)(a:0<dot w (A-v))(b:dot w (B-v)<0):∃y,dot w y=0/\dot n y=0/\∀m e,IsFace J m e->dot m v=e->(m,e)≠(n,d)->dot m y<0:=by
 have on:∀{X:V},X∈o6 n d J->dot n (X-v)=0:=λk=>by rw[d8,(c5.mp k).2,i];lia
 refine⟨(-dot w (B-v))*(A-v)+dot w (A-v)*(B-v),by rw[u5,i6,i6];grind,by rw[u5,i6,i6,on f,on g];simp,λm e h mv ne=>?_⟩;rw[u5,i6,i6];have l:dot m (A-v)<=0:=by have:=h.sup A (c5.mp f).1;rw[d8];lia
 have o:dot m (B-v)<=0:=by have:=h.sup B (c5.mp g).1;rw[d8];lia
 have u:=aAs (show 0<=-dot w (B-v)by lia) l;have x:=aAs (show 0<=dot w (A-v)by lia) o;by_cases z:dot m (A-v)=0/\dot m (B-v)=0
 .exfalso;have p:=B4 z.1 z.2;have r:=B4 (on f) (on g);exact ne (W2 hs h j mv i<|cQ c r p)
 by_cases s:dot m (A-v)=0
 .have t:dot m (B-v)<0:=by
   have:dot m (B-v)≠0:=λq=>z ⟨s,q⟩
   lia
  have:=aAt a t
  lia
 have:=aAt (show 0< -dot w (B-v)by lia) (show dot m (A-v)<0 by lia)
 lia
end
def kB(w:V)(J:List V)(v:V)(f:V×Int):Prop:=∃P Q,EdgeOf f.1 (λX=>X∈o6 f.1 f.2 J) P v/\EdgeOf f.1 (λX=>X∈o6 f.1 f.2 J) v Q/\((0<dot w (P-v)/\dot w (Q-v)<0)\/(dot w (P-v)<0/\0<dot w (Q-v)))
section
variable{J:List V} (hs:i9 J) (ho:J.Pairwise (λa b=>d9 (b-a)))
include hs ho
theorem kB.way{w v:V}{f:V×Int}(g:IsFace J f.1 f.2)(h:kB w J v f):dot f.1 v=f.2/\∃y,dot w y=0/\dot f.1 y=0/\∀m e,IsFace J m e->dot m v=e->(m,e)≠f->dot m y<0:=by
 obtain⟨P,Q,d,i,c⟩:=h;have j:=(c5.mp d.q).2;have k:=(fQ hs ho g d i).1;have l:cr (Q-v) (P-v)≠0:=λz=>by unfold i3 at k;rw[z,C3]at k;lia
 have n:cr (P-v) (Q-v)≠0:=λz=>l (by have o:=ip V.x z;have r:=ip V.y z;have s:=ip V.z z;simp at o r s;apply ext<;>simp<;>grind)
 refine⟨j,?_⟩;rcases c with⟨a,b⟩|⟨a,b⟩
 .exact GZ hs g d.p i.q j n a b
 exact GZ hs g i.q d.p j l b a
theorem YS{w v:V}{f g k:V×Int}(n:w≠0)(a:IsFace J f.1 f.2)(b:IsFace J g.1 g.2)(d:IsFace J k.1 k.2)(o:kB w J v f)(mg:kB w J v g)(mk:kB w J v k)(e:f≠g)(h:f≠k)(i:g≠k):False:=by obtain⟨v1,x,p,q,j⟩:=o.way hs ho a;obtain⟨v2,y,r,s,l⟩:=mg.way hs ho b;obtain⟨v3,z,t,u,m⟩:=mk.way hs ho d;exact PV n p r t q s u (l _ _ a v1 e) (m _ _ a v1 h) (j _ _ b v2 e.symm) (m _ _ b v2 i) (j _ _ d v3 h.symm) (l _ _ d v3 i.symm)
end
theorem uE{α:Type}(a b:α->Int):∀l:List α,l≠[]->(∀x∈l,0<b x)->∃x∈l,∀y∈l,a x*b y<=a y*b x
 |[x],_,_=>⟨x,.head _,λy d=>by rw[aAK.mp d];exact aBy _⟩
 |x::z::l,_,h=>by
  obtain⟨u,e,m⟩:=uE a b (z::l) (by simp) λy d=>h y (.tail _ d);by_cases q:a x*b u<=a u*b x
  .refine⟨x,.head _,λy d=>?_⟩;rcases aAd.mp d with rfl|d
   .exact aBy _
   have g:=aAS q (aAL<|h y<|.tail _ d);have i:=aAS (m y d) (aAL<|h x<|.head _);have f:b u*(a x*b y)<=b u*(a y*b x):=by
    have j:b u*(a x*b y)=a x*b u*b y:=by grind
    have k:b u*(a y*b x)=a y*b u*b x:=by grind
    have n:a u*b x*b y=a u*b y*b x:=by grind
    lia
   exact aFc f (h u<|.tail _ e)
  refine⟨u,.tail _ e,λy d=>?_⟩;rcases aAd.mp d with rfl|d
  .lia
  exact m y d
section
variable{J:List V} (hs:i9 J) (ho:J.Pairwise (λa b=>d9 (b-a)))
include hs ho
theorem yX{v:V}(q:∃f:V×Int,IsFace J f.1 f.2/\v∈c8 J f){n:V}{d:Int}(r:IsFace J n d)(e:dot n v=d):v∈c8 J (n,d):=by
 obtain⟨f,h,l⟩:=q;obtain⟨i,j,o,p,s,t,u,w,x,y⟩:=aW hs ho h l;have z:=(c5.mp<|(h.aa2 ho).aa4 l).1;refine(r.aa2 ho).top (m:=f.1+i.1+j.1) (c5.mpr ⟨z,e⟩) λY g ne=>?_;have g:=(c5.mp g).1;have a:=h.sup Y g;have b:=o.sup Y g;have c:=p.sup Y g;have k:=WH hs ho h o p w x y s t u g ne;have ad:∀Z:V,dot (f.1+i.1+j.1) Z=dot f.1 Z+dot i.1 Z+dot j.1 Z:=λZ=>by simp[dot];grind
 rw[ad,ad]
 lia
theorem uk{w v y:V}{g:V×Int}(hc:∃f:V×Int,IsFace J f.1 f.2/\v∈c8 J f)(i:∀X∈J,X≠v->dot w (X-v)≠0)(h:IsFace J g.1 g.2)(n:dot g.1 v=g.2)(t:dot g.1 y=0)(wy:dot w y=0)(y0:y≠0)(u:∀m e,IsFace J m e->dot m v=e->dot m y<=0):kB w J v g:=by
 have S:=h.aa2 ho;have C:=yX hs ho hc h n;obtain⟨Q,hQ⟩:=V5 S C;obtain⟨P,hP⟩:=pM S (l:=j0 g.1 (o6 g.1 g.2 J)) C;have b:=S.aa1.mp hQ;have d:=S.aa1.mp hP;obtain⟨j,c⟩:=fQ hs ho h d b;have E:=c y t;have a:∀{A B:V}{m:V}{e:Int},IsFace J m e->dot m A=e->dot m v=e->(m,e)≠g->A∈o6 g.1 g.2 J->B∈o6 g.1 g.2 J->cr (A-v) (B-v)≠0->dot m (A-v)=0/\dot m (B-v)<0:=λ{A B m e} H mA mv ne hA I cn=>by
  have k:dot m (A-v)=0:=by rw[d8];lia
  refine⟨k,?_⟩;have mB:dot m (B-v)<=0:=by have:=H.sup B (c5.mp I).1;rw[d8];lia
  by_cases o:dot m (B-v)=0
  .exfalso;have on:∀{X:V},X∈o6 g.1 g.2 J->dot g.1 (X-v)=0:=λhX=>by rw[d8,(c5.mp hX).2,n];lia
   exact ne (W2 hs H h mv n<|cQ cn (B4 (on hA)<|on I)<|B4 k o)
  lia
 have L:cr (Q-v) (P-v)≠0:=λz=>by unfold i3 at j;rw[z,C3]at j;lia
 have c2:cr (P-v) (Q-v)≠0:=λz=>L (by have x1:=ip V.x z;have x2:=ip V.y z;have x3:=ip V.z z;simp at x1 x2 x3;apply ext<;>simp<;>grind)
 obtain⟨N,e1,O,r,p1,v1⟩:=rE hs ho h d;obtain⟨T,e2,U,s,v2,q2⟩:=rE hs ho h b;obtain⟨k,l1⟩:=a O p1 v1 (λq=>r q.symm) d.p b.q c2;obtain⟨o,l2⟩:=a U q2 v2 (λq=>s q.symm) b.q d.p L;have Y:=ip (dot N) E;have k2:=ip (dot T) E;rw[i6,u5,i6,i6]at Y k2;rw[k,aBX,aFL]at Y;rw[o,aBX,Int.zero_add]at k2;have y1:=u N e1 O v1;have y2:=u T e2 U v2;have A:0<=i3 g.1 y (P-v):=by
  by_cases q:0<=i3 g.1 y (P-v)
  .exact q
  have u1:=aBG (show i3 g.1 y (P-v)<0 by lia) l1;have u2:=aAs (aAL j) y1
  lia
 have B:0<=i3 g.1 (Q-v) y:=by
  by_cases q:0<=i3 g.1 (Q-v) y
  .exact q
  have u1:=aBG (show i3 g.1 (Q-v) y<0 by lia) l2;have u2:=aAs (aAL j) y2
  lia
 exact⟨P,Q,d,b,CK hs ho h d b t y0 wy A B (i P (c5.mp d.p).1 d.ne) (i Q (c5.mp b.q).1 (aBY b.ne))⟩
theorem UX{w v o p:V}(w0:w≠0){fs:List (V×Int)}(n:∀f,f∈fs↔IsFace J f.1 f.2)(hc:∃f:V×Int,IsFace J f.1 f.2/\v∈c8 J f)(Q:∀X∈J,X≠v->dot w (X-v)≠0)(h1:o∈J)(h2:p∈J)(a:0<dot w (o-v))(b:dot w (p-v)<0):∃g∈fs,kB w J v g:=by
 obtain⟨f,L,hr⟩:=id hc;obtain⟨g1,g2,f1,f2,n1,n2,n3,x1,x2,x3⟩:=aW hs ho L hr;have T:=mC hs L f1 f2 x1 x2 x3 n1 n2 n3;obtain⟨d,A⟩:∃y,y=(-dot w (p-v))*(o-v)+dot w (o-v)*(p-v):=⟨_,rfl⟩;have wy:dot w d=0:=by rw[A,u5,i6,i6];grind
 have up:∀{m:V}{e:Int},IsFace J m e->dot m v=e->dot m d<=0:=λ{m e} C mv=>by
  rw[A,u5,i6,i6];have mA:dot m (o-v)<=0:=by have:=C.sup o h1;rw[d8];lia
  have mB:dot m (p-v)<=0:=by have:=C.sup p h2;rw[d8];lia
  have u1:=aAs (show 0<=-dot w (p-v)by lia) mA;have u2:=aAs (show 0<=dot w (o-v)by lia) mB
  lia
 have E:d≠0:=λz=>by
  have e:=qR hs ho L hr h1 h2 (a:=-dot w (p-v)) (b:=dot w (o-v)) (by lia) a (by
   rw[z]at A;have r:=ip V.x A;have N:=ip V.y A;have O:=ip V.z A;simp only[SJ,OA,TU,pT,qE,pG,NG,QV,RZ]at r N O;have z1:(0:V).x=0:=rfl;have z2:(0:V).y=0:=rfl;have z3:(0:V).z=0:=rfl;apply ext
   .simp only[SJ,pT];grind
   .simp only[OA,qE];grind
   simp only[TU,pG];grind)
  rw[e,t8,C3]at a;lia
 obtain⟨i,U⟩:∃t,t=cr w d:=⟨_,rfl⟩;have Y:dot w i=0:=by rw[U];simp[dot];grind
 have yt:dot d i=0:=by rw[U];simp[dot];grind
 have tne:i≠0:=λz=>by
  rw[U]at z;obtain⟨k,m,hk,q⟩:=A7 w0 z;have r:=ip (dot w) q;rw[i6,i6,wy,aBX]at r;have ww:=u4 w0;rcases aAu.mp r.symm with s|s
  .rw[s]at q;have p1:=ip V.x q;have p2:=ip V.y q;have p3:=ip V.z q;simp only[pT,qE,pG,aGF]at p1 p2 p3;have kk:∀t:Int,k*t=0->t=0:=λt ht=>(aAu.mp ht).resolve_left (by lia);exact E (ext (kk _ p1) (kk _ p2) (kk _ p3))
  lia
 have some:∃t,dot w t=0/\dot d t=0/\∃h:V×Int,IsFace J h.1 h.2/\dot h.1 v=h.2/\0<dot h.1 t:=by
  have j:∀{h:V×Int},IsFace J h.1 h.2->dot h.1 v=h.2->dot h.1 i≠0->∃t,dot w t=0/\dot d t=0/\∃h:V×Int,IsFace J h.1 h.2/\dot h.1 v=h.2/\0<dot h.1 t:=λ{h} B hv q=>by
   have ng:∀u:V,dot u (-i)=-dot u i:=λu=>by simp[dot];grind
   rcases aDo q with l|l
   .exact⟨-i,by rw[ng];lia,by rw[ng];lia,h,B,hv,by rw[ng];lia⟩
   exact⟨i,Y,yt,h,B,hv,l⟩
  by_cases r:dot f.1 i=0
  .by_cases N:dot g1.1 i=0
   .by_cases O:dot g2.1 i=0
    .exact absurd (aE T r N O) tne
    exact j f2 x3 O
   exact j f1 x2 N
  exact j L x1 r
 obtain⟨t,Y,yt,h0,hh0,hv0,ht0⟩:=some;obtain⟨h,C,mn⟩:=uE (λh:V×Int=>-dot h.1 d) (λh=>dot h.1 t) (fs.filter λh=>decide (dot h.1 v=h.2)&&decide (0<dot h.1 t)) (λz=>by
  have:h0∈fs.filter λh=>decide (dot h.1 v=h.2)&&decide (0<dot h.1 t):=aAX.mpr ⟨(n h0).mpr hh0,by simp[hv0,ht0]⟩;rw[z]at this;cases this) λx hx=>by have:=(aAX.mp hx).2;simp at this;exact this.2
 have B:=(n h).mp (aAX.mp C).1;have H:=(aAX.mp C).2;simp only[aAQ,decide_eq_true_eq]at H;refine⟨h,(n h).mpr B,uk hs ho hc Q B H.1 (y:=dot h.1 t*d+(-dot h.1 d)*t) (by rw[u5,i6,i6];grind) (by rw[u5,i6,i6,wy,Y];simp) (λz=>?_) λm e I mv=>?_⟩
 .have q:=ip (dot d) z;rw[u5,i6,i6,yt,C3,aBX,aFL]at q;have yy:=u4 E;have:=aAM H.2 yy
  lia
 rw[u5,i6,i6];have u:=up I mv;have un:=up B H.1;by_cases l:0<dot m t
 .have k:=mn (m,e) (aAX.mpr ⟨(n (m,e)).mpr I,by simp[mv,l]⟩);dsimp only at k;have e1:-dot m d*dot h.1 t=-(dot h.1 t*dot m d):=by grind
  lia
 have k1:=aAs (aAL H.2) u;have k2:=aAs (show 0<=-dot h.1 d by lia) (show dot m t<=0 by lia)
 lia
end
section
open Classical
def cnt{α:Type} (p:α->Prop) (l:List α):Nat:=(l.filter λy=>decide (p y)).length
def W0{α:Type}{p q:α->Prop}{l:List α}(h:∀x∈l,p x↔q x):cnt p l=cnt q l:=by unfold cnt;rw[List.filter_congr λx a=>decide_eq_decide.mpr (h x a)]
def WD{α:Type}{p:α->Prop}{l:List α}(h:∀x∈l,p x):cnt p l=l.length:=by unfold cnt;rw[List.filter_eq_self.mpr λx a=>decide_eq_true (h x a)]
def yq{α:Type}{p:α->Prop}{l:List α}(h:∀x∈l,¬p x):cnt p l=0:=by unfold cnt;rw[List.filter_eq_nil_iff.mpr λx a=>by rw[decide_eq_true_eq];exact h x a];rfl
def oE{α:Type}{l:List α}{p:α->Prop}{x:α}(e:l.Nodup)(f:x∈l)(g:p x)(u:∀y∈l,p y->y=x):cnt p l=1:=by
 have sub:∀y,y∈l.filter (λy=>decide (p y))↔y∈[x]:=λy=>by rw[aAX,aAK,decide_eq_true_eq];exact⟨λh=>u y h.1 h.2,λh=>by rw[h];exact⟨f,g⟩⟩
 have a:=B9 (e.sublist aCm) (m:=[x]) λy d=>(sub y).mp d;have b:=B9 (l:=[x]) (by simp) (m:=l.filter λy=>decide (p y)) λy d=>(sub y).mpr d;rw[aFM]at a b;unfold cnt
 lia
def cnt_cons{α:Type}{p:α->Prop}(x:α)(l:List α):cnt p (x::l)=(if p x then 1 else 0)+cnt p l:=by
 unfold cnt;by_cases h:p x
 .rw[aFs (by rw[decide_eq_true_eq];exact h),hV h,aAq];lia
 rw[aFt (by rw[decide_eq_true_eq];exact h),h9 h];lia
theorem bL{α:Type}{p q:α->Prop}:∀l:List α,cnt p l=cnt (λy=>p y/\q y) l+cnt (λy=>p y/\¬q y) l
 |[]=>rfl
 |x::l=>by
  have d:=bL (p:=p) (q:=q) l;rw[cnt_cons,cnt_cons,cnt_cons,d];by_cases a:p x
  .by_cases b:q x
   .simp[a,b];lia
   simp[a,b];lia
  simp[a]
theorem gO(h:V->Int):∀l:List V,l≠[]->∃x∈l,∀y∈l,h y<=h x
 |[x],_=>⟨x,.head _,λy a=>by rw[aAK.mp a];exact aBy _⟩
 |x::z::l,_=>by
  obtain⟨u,b,m⟩:=gO h (z::l) (by simp);by_cases q:h u<=h x
  .refine⟨x,.head _,λy a=>?_⟩;rcases aAd.mp a with rfl|a
   .exact aBy _
   have:=m y a;lia
  refine⟨u,.tail _ b,λy a=>?_⟩;rcases aAd.mp a with rfl|a
  .lia
  exact m y a
def JZ{α β:Type}(R:α->β->Prop)(e:List α):∀bs:List β,(e.map λa=>cnt (R a) bs).sum=(bs.map λb=>cnt (λa=>R a b) e).sum:=by
 intro bs;induction e with
 |nil=>
  induction bs with
  |nil=>rfl
  |cons b bs d=>rw[aAk,aAZ,<-d];rfl
 |cons a e d=>
  rw[aAk,aAZ,d];clear d;induction bs with
  |nil=>rfl
  |cons b bs d=>
   simp only[aAk,aAZ,cnt_cons]at d⊢
   lia
def Nu(w:V)(J:List V)(v:V)(f:V×Int):Prop:=∃Q,EdgeOf f.1 (λX=>X∈o6 f.1 f.2 J) v Q/\0<dot w (Q-v)
def Pu(w:V)(J:List V)(v:V)(f:V×Int):Prop:=∃P,EdgeOf f.1 (λX=>X∈o6 f.1 f.2 J) P v/\0<dot w (P-v)
structure Hgt(w:V)(J:List V):Prop where
 ne:w≠0
 inj:∀X∈J,∀Y∈J,X≠Y->dot w (X-Y)≠0
section
variable{J:List V}{w:V} (hs:i9 J) (ho:J.Pairwise (λa b=>d9 (b-a))) (hw:Hgt w J)
include hs ho hw
theorem aQ{f:V×Int}(h:IsFace J f.1 f.2){v:V}(d:v∈c8 J f):∃P Q,EdgeOf f.1 (λX=>X∈o6 f.1 f.2 J) P v/\EdgeOf f.1 (λX=>X∈o6 f.1 f.2 J) v Q/\(Nu w J v f↔0<dot w (Q-v))/\(Pu w J v f↔0<dot w (P-v))/\dot w (P-v)≠0/\dot w (Q-v)≠0:=by have S:=h.aa2 ho;obtain⟨Q,i⟩:=V5 S d;obtain⟨P,j⟩:=pM S (l:=j0 f.1 (o6 f.1 f.2 J)) d;have b:=S.aa1.mp i;have a:=S.aa1.mp j;have g:=(c5.mp a.q).1;refine⟨P,Q,a,b,⟨λ⟨m,e,l⟩=>by rw[<-e.next b];exact l,λl=>⟨Q,b,l⟩⟩,⟨λ⟨k,e,l⟩=>?_,λl=>⟨P,a,l⟩⟩,hw.inj P (c5.mp a.p).1 v g a.ne,hw.inj Q (c5.mp b.q).1 v g (aBY b.ne)⟩;have:k=P:=e.prev a;rw[<-this];exact l
theorem iT{f:V×Int}(d:IsFace J f.1 f.2){v:V}(e:v∈c8 J f):kB w J v f↔(Nu w J v f↔¬Pu w J v f):=by
 obtain⟨P,Q,a,b,n,p,i,j⟩:=aQ hs ho hw d e;rw[n,p];constructor
 .rintro⟨k,l,g,h,c⟩;rw[g.prev a,h.next b]at c
  lia
 intro c;exact⟨P,Q,a,b,by lia⟩
theorem DP{f:V×Int}(d:IsFace J f.1 f.2):(c8 J f).length=2+cnt (λv=>kB w J v f) (c8 J f):=by
 have S:=d.aa2 ho;have E:(c8 J f).Nodup:=S.aa3;obtain⟨I,L,N,_,_⟩:=S.aa7;have ne:c8 J f≠[]:=λz=>by rw[show c8 J f=I::L from N]at z;cases z
 have sub:∀v∈c8 J f,v∈o6 f.1 f.2 J:=λv m=>S.aa4 m;have l:∀X Y:V,dot w (X-Y)=dot w X-dot w Y:=λX Y=>d8 ..;have s:∀X Y:V,dot (-w) (X-Y)=-dot w (X-Y):=λX Y=>by simp[dot];grind
 obtain⟨a,o,t⟩:=gO (λv=>-dot w v) _ ne;obtain⟨b,r,u⟩:=gO (λv=>dot w v) _ ne;have O:cnt (λv=>Nu w J v f/\Pu w J v f) (c8 J f)=1:=by
  refine oE E o ?_ λy g z=>?_
  .obtain⟨P,Q,i,j,n,p,A,B⟩:=aQ hs ho hw d o;have T:=t P (S.ab0 i);have C:=t Q (fG S<|S.aa1.mpr j).2;rw[n,p];have:=l P a;have:=l Q a
   lia
  obtain⟨P,Q,i,j,n,p,A,B⟩:=aQ hs ho hw d g;have k:=BK hs ho d i j (w:=w) (by have:=p.mp z.2;lia) (by have:=n.mp z.1;lia) (sub a o);have C:=t y g;by_cases e:y=a
  .exact e
  have:=hw.inj a (c5.mp<|sub a o).1 y (c5.mp<|sub y g).1 (aBY e);have:=l a y
  lia
 have H:cnt (λv=>¬Nu w J v f/\¬Pu w J v f) (c8 J f)=1:=by
  refine oE E r ?_ λy g z=>?_
  .obtain⟨P,Q,i,j,n,p,A,B⟩:=aQ hs ho hw d r;have T:=u P (S.ab0 i);have C:=u Q (fG S<|S.aa1.mpr j).2;rw[n,p];have:=l P b;have:=l Q b
   lia
  obtain⟨P,Q,i,j,n,p,A,B⟩:=aQ hs ho hw d g;rw[n,p]at z;have k:=BK hs ho d i j (w:=-w) (by rw[s];lia) (by rw[s];lia) (sub b r);rw[s]at k;have C:=u y g;by_cases e:y=b
  .exact e
  have:=hw.inj b (c5.mp<|sub b r).1 y (c5.mp<|sub y g).1 (aBY e);have:=l b y
  lia
 have U:=bL (p:=λv=>True) (q:=λv=>kB w J v f) (c8 J f);have c2:=bL (p:=λv=>True/\¬kB w J v f) (q:=λv=>Nu w J v f) (c8 J f);have e0:cnt (λ_=>True) (c8 J f)=(c8 J f).length:=WD λ_ _=>trivial;have e1:cnt (λy=>True/\kB w J y f) (c8 J f)=cnt (λv=>kB w J v f) (c8 J f):=W0 λv _=>⟨λh=>h.2,λh=>⟨trivial,h⟩⟩;have e2:cnt (λy=>(True/\¬kB w J y f)/\Nu w J y f) (c8 J f)=cnt (λv=>Nu w J v f/\Pu w J v f) (c8 J f):=W0 λv m=>by rw[iT hs ho hw d m];by_cases x:Nu w J v f<;>by_cases y:Pu w J v f<;>simp[x,y]
 have e3:cnt (λy=>(True/\¬kB w J y f)/\¬Nu w J y f) (c8 J f)=cnt (λv=>¬Nu w J v f/\¬Pu w J v f) (c8 J f):=W0 λv m=>by rw[iT hs ho hw d m];by_cases x:Nu w J v f<;>by_cases y:Pu w J v f<;>simp[x,y]
 lia
omit hs ho hw in
theorem GL{α β:Type}(T:α->β->Prop){l:List α}{m:List β}(f:l.Nodup)(h:∀a∈l,∃b∈m,T a b)(inj:∀a∈l,∀o∈l,∀b,T a b->T o b->a=o):l.length<=m.length:=by
 match l,f,h,inj with
 |[],_,_,_=>exact aAY _
 |x::l,f,h,inj=>
  obtain⟨p,_,_⟩:=h x (.head _)
  let φ:α->β:=λa=>if q:∃b∈m,T a b then q.choose else p
  have g:∀a∈x::l,φ a∈m/\T a (φ a):=λa i=>by have q:=h a i;have e:φ a=q.choose:=dif_pos q;rw[e];exact q.choose_spec
  have j:((x::l).map φ).Nodup:=by
   have n:∀k:List α,(∀a∈k,a∈x::l)->k.Nodup->(k.map φ).Nodup:=λk=>by
    induction k with
    |nil=>intro _ _;exact .nil
    |cons a k r=>intro sub s;obtain⟨t,u⟩:=aAH.mp s;refine aAH.mpr ⟨λz=>?_,r (λb d=>sub b (.tail _ d)) u⟩;obtain⟨b,d,e⟩:=aAj.mp z;have:=inj a (sub a<|.head _) b (sub b<|.tail _ d) (φ a) (g a<|sub a<|.head _).2 (by rw[<-e];exact(g b<|sub b<|.tail _ d).2);exact t (this▸d)
   exact n _ (λ_ h=>h) f
  have:=B9 j (m:=m) λb d=>by obtain⟨a,i,rfl⟩:=aAj.mp d;exact(g a i).1
  rw[aAh]at this;exact this
theorem yZ{f:V×Int}(a:IsFace J f.1 f.2){P Q:V}(h:EdgeOf f.1 (λX=>X∈o6 f.1 f.2 J) P Q):P∈c8 J f/\Q∈c8 J f:=by have S:=a.aa2 ho;exact fG S (S.aa1.mpr h)
theorem uW{f g:V×Int}(a:IsFace J f.1 f.2)(b:IsFace J g.1 g.2){P Q:V}(d:EdgeOf f.1 (λX=>X∈o6 f.1 f.2 J) P Q)(e:EdgeOf g.1 (λX=>X∈o6 g.1 g.2 J) P Q):f=g:=zD hs ho a b ((a.aa2 ho).aa1.mpr d) ((b.aa2 ho).aa1.mpr e)
theorem a2j{fs:List (V×Int)}(t:fs.Nodup)(d:∀f,f∈fs↔IsFace J f.1 f.2)(v:V):cnt (λf=>v∈c8 J f/\Nu w J v f) fs=cnt (λf=>v∈c8 J f/\Pu w J v f) fs:=by
 have h:∀{p:V×Int->Prop}{f:V×Int},f∈fs.filter (λy=>decide (p y))↔f∈fs/\p f:=λ{p f}=>by rw[aAX,decide_eq_true_eq]
 unfold cnt;refine aFN ?_ ?_
 .refine GL (λf g=>∃Q,EdgeOf f.1 (λX=>X∈o6 f.1 f.2 J) v Q/\EdgeOf g.1 (λX=>X∈o6 g.1 g.2 J) Q v/\IsFace J g.1 g.2) (t.sublist aCm) (λf i=>?_) λf i n j g ⟨Q,a,b,_⟩ ⟨o,q,r,_⟩=>?_
  .obtain⟨s,u,Q,e,l⟩:=h.mp i;obtain⟨k,m⟩:=Y9 hs ho ((d f).mp s) e;exact⟨_,h.mpr ⟨(d _).mpr k,(yZ hs ho hw k m).2,Q,m,l⟩,Q,e,m,k⟩
  have:Q=o:=b.prev r;subst this;exact uW hs ho hw ((d f).mp (h.mp i).1) ((d n).mp (h.mp j).1) a q
 refine GL (λf g=>∃P,EdgeOf f.1 (λX=>X∈o6 f.1 f.2 J) P v/\EdgeOf g.1 (λX=>X∈o6 g.1 g.2 J) v P/\IsFace J g.1 g.2) (t.sublist aCm) (λf i=>?_) λf i n j g ⟨Q,a,b,_⟩ ⟨o,q,r,_⟩=>?_
 .obtain⟨s,u,P,e,l⟩:=h.mp i;obtain⟨k,m⟩:=Y9 hs ho ((d f).mp s) e;exact⟨_,h.mpr ⟨(d _).mpr k,(yZ hs ho hw k m).1,P,m,l⟩,P,e,m,k⟩
 have:Q=o:=b.next r;subst this;exact uW hs ho hw ((d f).mp (h.mp i).1) ((d n).mp (h.mp j).1) a q
omit hs ho hw in
theorem VZ{α:Type}{p:α->Prop}{l:List α}(i:l.Nodup)(h:∀a∈l,∀b∈l,∀c∈l,p a->p b->p c->a≠b->a≠c->b≠c->False):cnt p l<=2:=by
 have f:∀k:List α,k.Nodup->(∀a∈k,a∈l/\p a)->k.length<=2:=λk d e=>by
  match k,d,e with
  |[],_,_=>simp
  |[_],_,_=>simp
  |[_,_],_,_=>simp
  |a::b::c::k,d,e=>
   exfalso;obtain⟨j,m⟩:=e a (by simp);obtain⟨n,o⟩:=e b (by simp);obtain⟨q,r⟩:=e c (by simp);refine h a j b n c q m o r ?_ ?_ ?_
   .rintro rfl;simp at d
   .rintro rfl;simp at d
   rintro rfl;simp at d
 exact f _ (i.sublist aCm) λa g=>by rw[aAX,decide_eq_true_eq]at g;exact g
omit hs ho hw in
theorem WT{α:Type}{p:α->Prop}{l:List α}{x:α}(b:x∈l)(d:p x):1<=cnt p l:=aDk (a:=x) (aAX.mpr ⟨b,decide_eq_true d⟩)
theorem CP{fs:List (V×Int)}(l:fs.Nodup)(d:∀f,f∈fs↔IsFace J f.1 f.2){v n o:V}(r:∃f:V×Int,IsFace J f.1 f.2/\v∈c8 J f)(s:n∈J)(t:o∈J)(a:0<dot w (n-v))(b:dot w (o-v)<0):cnt (λf=>v∈c8 J f/\kB w J v f) fs=2:=by
 have u:v∈J:=by obtain⟨f,i,z⟩:=r;exact(c5.mp<|(i.aa2 ho).aa4 z).1
 have e:=a2j hs ho hw l d v;have O:=bL (p:=λf=>v∈c8 J f/\Nu w J v f) (q:=λf=>Pu w J v f) fs;have T:=bL (p:=λf=>v∈c8 J f/\Pu w J v f) (q:=λf=>Nu w J v f) fs;have U:=bL (p:=λf=>v∈c8 J f/\kB w J v f) (q:=λf=>Nu w J v f) fs;have Y:cnt (λf=>(v∈c8 J f/\Nu w J v f)/\Pu w J v f) fs=cnt (λf=>(v∈c8 J f/\Pu w J v f)/\Nu w J v f) fs:=W0 λf _=>⟨λh=>⟨⟨h.1.1,h.2⟩,h.1.2⟩,λh=>⟨⟨h.1.1,h.2⟩,h.1.2⟩⟩;have e2:cnt (λf=>(v∈c8 J f/\kB w J v f)/\Nu w J v f) fs=cnt (λf=>(v∈c8 J f/\Nu w J v f)/\¬Pu w J v f) fs:=W0 λf i=>by
  by_cases q:v∈c8 J f
  .rw[iT hs ho hw ((d f).mp i) q];by_cases x:Nu w J v f<;>by_cases y:Pu w J v f<;>simp[x,y,q]
  simp[q]
 have e3:cnt (λf=>(v∈c8 J f/\kB w J v f)/\¬Nu w J v f) fs=cnt (λf=>(v∈c8 J f/\Pu w J v f)/\¬Nu w J v f) fs:=W0 λf i=>by
  by_cases q:v∈c8 J f
  .rw[iT hs ho hw ((d f).mp i) q];by_cases x:Nu w J v f<;>by_cases y:Pu w J v f<;>simp[x,y,q]
  simp[q]
 have le:cnt (λf=>v∈c8 J f/\kB w J v f) fs<=2:=VZ l λf i g j k A B C E H I L=>YS hs ho hw.ne ((d f).mp i) ((d g).mp j) ((d k).mp A) B.2 C.2 E.2 H I L;have ge:1<=cnt (λf=>v∈c8 J f/\kB w J v f) fs:=by obtain⟨g,j,m⟩:=UX hs ho hw.ne d r (λX N ne=>hw.inj X N v u ne) s t a b;obtain⟨P,Q,p,q,_⟩:=id m;exact WT j ⟨(yZ hs ho hw ((d g).mp j) p).2,m⟩
 lia
end
end
section
open Classical
def XI{α:Type}{p:α->Prop}{l m:List α}(f:l.Nodup)(g:m.Nodup)(sub:∀x∈l,x∈m):cnt p l=cnt (λx=>x∈l/\p x) m:=by
 have a:∀{q:α->Prop}{k:List α}{x:α},x∈k.filter (λy=>decide (q y))↔x∈k/\q x:=λ{q k x}=>by rw[aAX,decide_eq_true_eq]
 unfold cnt;refine aFN (B9 (f.sublist aCm) λx d=>?_) (B9 (g.sublist aCm) λx d=>?_)
 .obtain⟨b,e⟩:=a.mp d;exact a.mpr ⟨sub x b,b,e⟩
 obtain⟨_,b,e⟩:=a.mp d;exact a.mpr ⟨b,e⟩
theorem GV{α:Type}(g:α->Nat)(p:α->Prop):∀l:List α,(∀x∈l,p x->g x=0)->(∀x∈l,¬p x->g x=2)->(l.map g).sum+2*cnt p l=2*l.length
 |[],_,_=>rfl
 |x::l,b,d=>by
  have e:=GV g p l (λy a=>b y (.tail _ a)) λy a=>d y (.tail _ a);rw[aAk,aAZ,cnt_cons,aAq];by_cases q:p x
  .rw[b x (.head _) q,hV q];lia
  rw[d x (.head _) q,h9 q];lia
def oq(J:List V)(d:i9 J):∃w,Hgt w J:=by
 obtain⟨w,h⟩:=vG (J.flatMap λX=>J.map λY=>X-Y);have k:∀X∈J,∀Y∈J,d9 (X-Y)->0<dot w (X-Y):=λX a Y b p=>h _ (aAV.mpr ⟨X,a,aAI b⟩) p;have inj:∀X∈J,∀Y∈J,X≠Y->dot w (X-Y)≠0:=λX a Y b ne=>by
  have j:dot w (X-Y)=-dot w (Y-X):=by simp[dot];grind
  rcases K0 X Y with e|e|e
  .exact absurd e ne
  .have:=k X a Y b e;lia
  have:=k Y b X a e;lia
 refine⟨w,λz=>?_,inj⟩;obtain⟨A,f,B,g,C,l,E,m,e⟩:=d;have i:B≠A:=λq=>e (by rw[q,t8];simp[i3,dot]);exact inj B g A f i (by rw[z];simp[dot])
variable{J:List V} (hs:i9 J) (ho:J.Pairwise (λa b=>d9 (b-a)))
include hs ho
theorem JG{fs:List (V×Int)}(U:fs.Nodup)(d:∀f,f∈fs↔IsFace J f.1 f.2)(ne:fs≠[]){c:List V}(nc:c.Nodup)(I:∀X,X∈c↔∃f:V×Int,IsFace J f.1 f.2/\X∈c8 J f):(fs.map λf=>(c8 J f).length).sum+4=2*fs.length+2*c.length:=by
 obtain⟨w,A⟩:=oq J hs;have C:∀X∈c,X∈J:=λX hX=>by obtain⟨f,u,hr⟩:=(I X).mp hX;exact(c5.mp<|(u.aa2 ho).aa4 hr).1
 have H:∀X Y:V,dot w (X-Y)=dot w X-dot w Y:=λX Y=>d8 ..;obtain⟨j,hf0⟩:∃j,j∈fs:=by
  match fs,ne with
  |f::_,_=>exact⟨f,.head _⟩
 have B:=(d j).mp hf0;obtain⟨r,s,t,l,er⟩:=J5 ho B;have L:r∈c:=(I r).mpr ⟨j,B,by show r∈j0 j.1 (o6 j.1 j.2 J);rw[er];simp⟩;have sc:s∈c:=(I s).mpr ⟨j,B,by show s∈j0 j.1 (o6 j.1 j.2 J);rw[er];simp⟩;have rs:r≠s:=λq=>by have:=(B.aa2 ho).aa3;rw[er,q]at this;simp at this
 have cne:c≠[]:=λz=>by rw[z]at L;cases L
 obtain⟨a,ha,N⟩:=gO (λv=>-dot w v) c cne;obtain⟨b,hb,O⟩:=gO (λv=>dot w v) c cne;have ab:a≠b:=λq=>by
  have e:∀x∈c,dot w x=dot w a:=λx o=>by
   have:=N x o;have:=O x o;rw[<-q]at this
   lia
  exact A.inj r (C r L) s (C s sc) rs (by rw[H,e r L,e s sc];lia)
 have vt:∀f∈fs,∀x∈c8 J f,x∈c:=λf u x o=>(I x).mpr ⟨f,(d f).mp u,o⟩;have s1:(fs.map λf=>(c8 J f).length).sum=2*fs.length+(fs.map λf=>cnt (λv=>v∈c8 J f/\kB w J v f) c).sum:=by
  have key:∀E:List (V×Int),(∀f∈E,f∈fs)->(E.map λf=>(c8 J f).length).sum=2*E.length+(E.map λf=>cnt (λv=>v∈c8 J f/\kB w J v f) c).sum:=λE=>by
   induction E with
   |nil=>intro _;rfl
   |cons f E ih=>
    intro h;have i:=ih λg hg=>h g (.tail _ hg);have u:=(d f).mp (h f<|.head _);have k:=DP hs ho A u;have U:(c8 J f).Nodup:=(u.aa2 ho).aa3;rw[XI (l:=c8 J f) (p:=λv=>kB w J v f) U nc (vt f<|h f<|.head _)]at k;rw[aAk,aAZ,aAk,aAZ,aAq,i,k]
    lia
  exact key fs λ_ h=>h
 have s2:=JZ (λ(f:V×Int) v=>v∈c8 J f/\kB w J v f) fs c;have no:∀x∈c,(x=a\/x=b)->cnt (λf=>x∈c8 J f/\kB w J x f) fs=0:=λx o q=>yq λf u ⟨h1,h2⟩=>by
  have T:=(d f).mp u;obtain⟨P,Q,e1,e2,n,p,p0,q0⟩:=aQ hs ho A T h1;have hP:=vt f u P (yZ hs ho A T e1).1;have hQ:=vt f u Q (yZ hs ho A T e2).2;have m:=(iT hs ho A T h1).mp h2;rw[n,p]at m;have d1:=H P x;have d2:=H Q x;rcases q with rfl|rfl
  .have:=N P hP;have:=N Q hQ;lia
  have:=O P hP;have:=O Q hQ;lia
 have yes:∀x∈c,¬(x=a\/x=b)->cnt (λf=>x∈c8 J f/\kB w J x f) fs=2:=λx o q=>by have n1:=A.inj b (C b hb) x (C x o) (λz=>q (.inr z.symm));have n2:=A.inj a (C a ha) x (C x o) (λz=>q (.inl z.symm));have:=O x o;have:=N x o;rw[H]at n1 n2;exact CP hs ho A U d ((I x).mp o) (C b hb) (C a ha) (by rw[H];lia) (by rw[H];lia)
 have s3:=GV (λv=>cnt (λf=>v∈c8 J f/\kB w J v f) fs) (λx=>x=a\/x=b) c no yes;have two:cnt (λx=>x=a\/x=b) c=2:=by
  have k:=bL (p:=λx=>x=a\/x=b) (q:=λx=>x=a) c;have k1:cnt (λy=>(y=a\/y=b)/\y=a) c=1:=oE nc ha ⟨.inl rfl,rfl⟩ λy _ h=>h.2;have k2:cnt (λy=>(y=a\/y=b)/\¬y=a) c=1:=oE nc hb ⟨.inr rfl,λq=>ab q.symm⟩ λy _ h=>h.1.resolve_left h.2
  lia
 lia
end
section
open Classical
variable{J:List V} (hs:i9 J) (ho:J.Pairwise (λa b=>d9 (b-a))) {fs:List (V×Int)} (hfs:∀f,f∈fs↔IsFace J f.1 f.2)
include hs ho hfs
theorem yQ{P Q:V}:(P,Q)∈gH J fs↔∃f:V×Int,IsFace J f.1 f.2/\EdgeOf f.1 (λX=>X∈o6 f.1 f.2 J) P Q:=by
 unfold gH;rw[aAV];constructor
 .rintro⟨f,a,h⟩;exact⟨f,(hfs f).mp a,(((hfs f).mp a).aa2 ho).aa1.mp h⟩
 rintro⟨f,a,h⟩;exact⟨f,(hfs f).mpr a,(a.aa2 ho).aa1.mpr h⟩
theorem uZ{P Q:V}(h:(P,Q)∈gH J fs):(Q,P)∈gH J fs:=by obtain⟨f,a,e⟩:=(yQ hs ho hfs).mp h;obtain⟨b,d⟩:=Y9 hs ho a e;exact(yQ hs ho hfs).mpr ⟨_,b,d⟩
theorem LX(a:fs.Nodup)(ne:fs≠[]){c:List V}(b:c.Nodup)(d:∀X,X∈c↔∃f:V×Int,IsFace J f.1 f.2/\X∈c8 J f):fs.length+4<=2*c.length/\(fs.map λf=>(c8 J f).length).sum+12<=6*c.length:=by have g:=JG hs ho a hfs ne b d;have h:=mS hs ho (fs:=fs) λf e=>(hfs f).mp e;constructor<;>lia
end
section
open Classical
variable{J:List V} (hs:i9 J) (ho:J.Pairwise λa b=>d9 (b-a)) {fs:List (V×Int)} (hfs:∀f,f∈fs↔IsFace J f.1 f.2)
include hs ho hfs
theorem gS(d:fs.Nodup)(ne:fs≠[]):fs.length+4<=2*J.length/\(fs.map λf=>(c8 J f).length).sum+12<=6*J.length:=by
 have e:J.Nodup:=ho.imp λ{a b} h q=>by rw[q]at h;exact u0 h h
 have g:∀X,X∈J.filter (λX=>decide (∃f:V×Int,IsFace J f.1 f.2/\X∈c8 J f))↔∃f:V×Int,IsFace J f.1 f.2/\X∈c8 J f:=λX=>by rw[aAX,decide_eq_true_eq];exact⟨λh=>h.2,λh=>⟨by obtain⟨f,i,j⟩:=h;exact(c5.mp<|(i.aa2 ho).aa4 j).1,h⟩⟩
 have k:=LX hs ho hfs d ne (e.sublist aCm) g;have:=aFO (λX=>decide (∃f:V×Int,IsFace J f.1 f.2/\X∈c8 J f)) J;constructor<;>lia
end
def kA:List V->V
 |[]=>0
 |a::l=>a+kA l
def FQ(l m:List V):kA (l++m)=kA l+kA m:=by
 induction l with
 |nil=>apply ext<;>simp[kA]
 |cons a l b=>rw[aAJ,kA,kA,b];apply ext<;>simp<;>lia
def qU{l m:List V}(h:l.Perm m):kA l=kA m:=by
 induction h with
 |nil=>rfl
 |cons a _ d=>rw[kA,kA,d]
 |swap a b l=>simp only[kA];apply ext<;>simp<;>lia
 |trans _ _ e f=>exact e.trans f
def ar(o:V)(l:List (V×V)):V:=kA (l.map λe=>cr (e.1-o) (e.2-o))
def R3(o:V)(e:V×V)(l:List (V×V)):ar o (e::l)=cr (e.1-o) (e.2-o)+ar o l:=rfl
def oz(o:V)(l m:List (V×V)):ar o (l++m)=ar o l+ar o m:=by unfold ar;rw[aBi,FQ]
def HI{o:V}{l m:List (V×V)}(h:l.Perm m):ar o l=ar o m:=qU (h.map _)
def jq(o:V)(l:List (V×V)):ar o l=ar 0 l+(kA (l.map λe=>cr o e.1)-kA (l.map λe=>cr o e.2)):=by
 induction l with
 |nil=>apply ext<;>simp[ar,kA]
 |cons e l a=>rw[R3,R3,a];simp only[aAk,kA];apply ext<;>simp<;>grind
def xM(l:List V):(u8 l).map (·.1)=l:=by
 unfold u8;rw[aFz];match l with
 |[]=>simp
 |a::r=>simp
def IN(l:List V):((u8 l).map (·.2)).Perm l:=by
 unfold u8;match l with
 |[]=>exact aGg _
 |a::r=>rw[List.map_snd_zip (by simp)];simp only[List.tail_cons,List.take_succ_cons,List.take_zero];exact aEP a r
def mx(o:V)(l:List V):ar o (u8 l)=ar 0 (u8 l):=by
 have a:(u8 l).map (λe=>cr o e.1)=((u8 l).map (·.1)).map (cr o):=by rw[aBd];rfl
 have b:(u8 l).map (λe=>cr o e.2)=((u8 l).map (·.2)).map (cr o):=by rw[aBd];rfl
 rw[jq,a,b,xM,qU ((IN l).map (cr o))];apply ext<;>simp
def rz(a:V)(r:List V):ar a (u8 (a::r))=ar a (j7 r):=by
 match r with
 |[]=>simp[u8,j7,ar,kA];apply ext<;>simp
 |b::r=>
  have e:u8 (a::b::r)=j7 (a::b::r++[a]):=by rw[<-bH];rfl
  have d:j7 (a::b::r++[a])=(a,b)::j7 (b::r++[a]):=rfl;have g:∀(x:V) (l:List V),ar a (j7 (x::l++[a]))=ar a (j7 (x::l)):=λx l=>by
   induction l generalizing x with
   |nil=>simp[j7,ar,kA];apply ext<;>simp
   |cons y l f=>show ar a ((x,y)::j7 (y::l++[a]))=ar a ((x,y)::j7 (y::l));rw[R3,R3,f]
  rw[e,d,R3,g];apply ext<;>simp
def XG{α:Type}(o:V)(f:α->List (V×V))(l:List α):ar o (l.flatMap f)=kA (l.map λx=>ar o (f x)):=by
 induction l with
 |nil=>rfl
 |cons a l b=>rw[aFi,oz,b];rfl
def nW(w:V)(l:List V):dot (kA l) w=(l.map λv=>dot v w).sum:=by
 induction l with
 |nil=>simp[kA,dot]
 |cons a l b=>rw[aAk,aAZ,<-b,kA];simp[dot];grind
def BG{n u v:V}(a:dot n u=0)(b:dot n v=0)(w:V):dot n n*dot (cr u v) w=dot n (cr u v)*dot n w:=by
 have z:=B4 a b;have e:dot n n*dot (cr u v) w-dot n (cr u v)*dot n w=dot (cr n<|cr u v) (cr n w):=by simp[dot];grind
 rw[z]at e;have:dot (0:V) (cr n w)=0:=by simp[dot]
 lia
section
variable{n:V}{d:Int}{l:List (V×V)}{a:V}
def MS(m:dot n a=d)(b:∀e∈l,dot n e.1=d/\dot n e.2=d)(w:V):dot n n*dot (ar a l) w=dot n (ar a l)*dot n w:=by
 induction l with
 |nil=>simp[ar,kA,dot]
 |cons e l f=>
  have h:=b e (.head _);have i:=f λe g=>b e (.tail _ g);have c:=BG (n:=n) (u:=e.1-a) (v:=e.2-a) (by rw[d8];lia) (by rw[d8];lia) w;rw[R3];have j:∀x y:V,dot (x+y) w=dot x w+dot y w:=λx y=>by simp[dot];grind
  have k:∀x y:V,dot n (x+y)=dot n x+dot n y:=λx y=>by simp[dot];grind
  rw[j,k];grind
end
section
open Classical
variable{J:List V} (hs:i9 J) (ho:J.Pairwise (λa b=>d9 (b-a)))
include hs ho
theorem IJ{f:V×Int}(o:IsFace J f.1 f.2):0<dot f.1 (ar 0 (u8 (c8 J f)))/\∀w,dot f.1 f.1*dot (ar 0 (u8 (c8 J f))) w=dot f.1 (ar 0 (u8 (c8 J f)))*dot f.1 w:=by
 have S:=o.aa2 ho;obtain⟨a,b,c,r,e⟩:=J5 ho o;have e:c8 J f=a::b::c::r:=e;have on:∀X∈c8 J f,dot f.1 X=f.2:=λX k=>(c5.mp<|S.aa4 k).2;have s:(c8 J f).Nodup:=S.aa3;have u:∀p∈u8 (c8 J f),EdgeOf f.1 (λX=>X∈o6 f.1 f.2 J) p.1 p.2:=λp d=>S.pair d;have g:∀p∈u8 (c8 J f),p.1∈c8 J f/\p.2∈c8 J f:=λp d=>by
  constructor
  .rw[<-xM (c8 J f)];exact aAI d
  exact(IN<|c8 J f).mem_iff.mp (aAI d)
 rw[<-mx a];refine⟨?_,MS (on a (by rw[e];exact .head _)) λp d=>⟨on _ (g p d).1,on _ (g p d).2⟩⟩;rw[e,rz];rw[e]at s;have t:∀X∈b::c::r,a≠X:=λX k z=>(aAH.mp s).1 (z▸k);have sub:∀p∈j7 (b::c::r),p∈u8 (c8 J f):=λp d=>by
  have v:u8 (a::b::c::r)=j7 (a::b::c::r++[a]):=by rw[<-bH];rfl
  rw[e,v];exact bE _ _ _ _ (aAe _ d)
 have A:∀(x:V) (l:List V) (p:V×V),p∈j7 (x::l)->p.1∈x::l/\p.2∈x::l:=λx l=>by
  induction l generalizing x with
  |nil=>intro p d;cases d
  |cons y l j=>
   intro p d;rcases aAd.mp d with rfl|d
   .exact⟨.head _,.tail _ (.head _)⟩
   exact⟨.tail _ (j y p d).1,.tail _ (j y p d).2⟩
 have i:∀p∈j7 (b::c::r),0<dot f.1 (cr (p.1-a)<|p.2-a):=λp d=>by
  have m:=A b (c::r) p d;have:=S.strict (u p<|sub p d) (X:=a) (by show a∈c8 J f;rw[e];exact .head _) (t _ m.1) (t _ m.2);have q:i3 f.1 (p.2-p.1) (a-p.1)=dot f.1 (cr (p.1-a)<|p.2-a):=by simp[i3,dot];grind
  lia
 have all:∀l:List (V×V),(∀p∈l,0<dot f.1 (cr (p.1-a)<|p.2-a))->0<=dot f.1 (ar a l):=λl=>by
  induction l with
  |nil=>intro _;simp[ar,kA,dot]
  |cons p l j=>
   intro h;have n:=h p (.head _);have B:=j λq C=>h q (.tail _ C);rw[R3,show∀x y:V,dot f.1 (x+y)=dot f.1 x+dot f.1 y fromλx y=>by simp[dot];grind]
   lia
 have n:=i (b,c) (.head _);have B:=all (j7 (c::r)) λp d=>i p (.tail _ d);show 0<dot f.1 (ar a ((b,c)::j7 (c::r)));rw[R3,show∀x y:V,dot f.1 (x+y)=dot f.1 x+dot f.1 y fromλx y=>by simp[dot];grind];show 0<dot f.1 (cr (b-a)<|c-a)+_;have n:0<dot f.1 (cr (b-a)<|c-a):=n
 lia
variable{fs:List (V×Int)} (hfs:∀f,f∈fs↔IsFace J f.1 f.2)
include hfs
theorem oU(i:fs.Nodup):kA (fs.map λf=>ar 0 (u8 (c8 J f)))=0:=by
 rw[<-XG 0 (λf:V×Int=>u8 (c8 J f))];have e:fs.flatMap (λf=>u8 (c8 J f))=gH J fs:=rfl;rw[e];have g:(gH J fs).Nodup:=gN hs ho i λf j=>(hfs f).mp j;have k:((gH J fs).map λp=>(p.2,p.1)).Nodup:=aBt.mpr (g.imp λ{a b} n q=>n (by injection q with m r;exact aEw r m));have s:(gH J fs).Perm ((gH J fs).map λp=>(p.2,p.1)):=(aBQ g k).mpr λp=>by
  rw[aAj];constructor
  .intro h;exact⟨(p.2,p.1),uZ hs ho hfs (P:=p.1) (Q:=p.2) h,rfl⟩
  rintro⟨q,h,rfl⟩;exact uZ hs ho hfs (P:=q.1) (Q:=q.2) h
 have d:∀l:List (V×V),ar 0 (l.map λp=>(p.2,p.1))=-ar 0 l:=λl=>by
  induction l with
  |nil=>apply ext<;>simp[ar,kA]
  |cons p l t=>rw[aAk,R3,R3,t];apply ext<;>simp<;>grind
 have:=HI (o:=0) s;rw[d]at this;have x:=ip V.x this;have y:=ip V.y this;have z:=ip V.z this;simp at x y z;exact (by apply ext<;>simp<;>lia)
end
section
open Classical
theorem ZB{α:Type}:∀l:List α,∃m:List α,m.Nodup/\∀x,x∈m↔x∈l
 |[]=>⟨[],aCX,λ_=>Iff.rfl⟩
 |a::l=>by
  obtain⟨m,d,b⟩:=ZB l;by_cases h:a∈m
  .refine⟨m,d,λx=>?_⟩;rw[b,aAd];refine⟨.inr,λz=>?_⟩;rcases z with rfl|z
   .exact(b _).mp h
   exact z
  exact⟨a::m,aAH.mpr ⟨h,d⟩,λx=>by rw[aAd,aAd,b]⟩
variable{J:List V} (hs:i9 J)
include hs
theorem GI{n m A B C:V}{d e:Int}(h:IsFace J n d)(i:IsFace J m e)(a:dot n A=d)(b:dot n B=d)(c:dot n C=d)(g:dot m A=e)(j:dot m B=e)(l:dot m C=e)(ne:cr (B-A) (C-A)≠0):(n,d)=(m,e):=by
 have q:∀{k X:V}{f:Int},dot k A=f->dot k X=f->dot k (X-A)=0:=λo p=>by rw[d8];lia
 refine W2 hs h i a g (cQ ne (B4 (q g j)<|q g l)<|B4 (q a b)<|q a c)
theorem oR:∃fs:List (V×Int),(∀f,f∈fs↔IsFace J f.1 f.2)/\fs.Nodup:=by
 let Ok:=λ(t:V×V×V) (f:V×Int)=>IsFace J f.1 f.2/\dot f.1 t.1=f.2/\dot f.1 t.2.1=f.2/\dot f.1 t.2.2=f.2/\cr (t.2.1-t.1) (t.2.2-t.1)≠0
 let F:=λt=>if h:∃f,Ok t f then[aDO h]else[]
 obtain⟨fs,e,g⟩:=ZB ((J.flatMap λA=>J.flatMap λB=>J.map λC=>(A,B,C)).flatMap F);refine⟨fs,λf=>?_,e⟩;rw[g,aAV];constructor
 .rintro⟨t,_,h⟩;by_cases q:∃f,Ok t f
  .have h:f∈(if h:∃f,Ok t f then[aDO h]else[]):=h;rw[dif_pos q,aAK]at h;rw[h];exact(aDu q).1
  have h:f∈(if h:∃f,Ok t f then[aDO h]else[]):=h;rw[dif_neg q]at h;cases h
 intro d;obtain⟨A,i,B,j,C,k,a,b,c,ne⟩:=d.three;have q:∃f,Ok (A,B,C) f:=⟨f,d,a,b,c,ne⟩;refine⟨(A,B,C),aAV.mpr ⟨A,i,aAV.mpr ⟨B,j,aAI k⟩⟩,?_⟩;show f∈(if h:∃f,Ok (A,B,C) f then[aDO h]else[]);rw[dif_pos q,aAK];obtain⟨l,m,n,o,p⟩:=aDu q;exact GI hs d l a b c m n o ne
end
def NJ{l m:List V}(i:l.Pairwise (λa b=>d9 (b-a)))(j:m.Pairwise (λa b=>d9 (b-a)))(h:∀X,X∈l↔X∈m):l=m:=by
 induction l generalizing m with
 |nil=>
  cases m with
  |nil=>rfl
  |cons b m=>cases(h b).mpr (.head _)
 |cons a l k=>
  cases m with
  |nil=>cases(h a).mp (.head _)
  |cons b m=>
   obtain⟨f,n⟩:=aAy.mp i;obtain⟨g,o⟩:=aAy.mp j;have e:a=b:=by
    rcases aAd.mp ((h a).mp (.head _))with z|z
    .exact z
    rcases aAd.mp ((h b).mpr (.head _))with w|w
    .exact w.symm
    exact(u0 (f b w)<|g a z).elim
   subst e;rw[k n o λX=>?_];have d:=h X;rw[aAd,aAd]at d;constructor
   .intro z;rcases d.mp (.inr z)with w|w
    .subst w;exact(E9<|f X z).elim
    exact w
   intro z;rcases d.mpr (.inr z)with w|w
   .subst w;exact(E9<|g X z).elim
   exact w
structure Cap(T S Q:List V)(u:V)(M:Int):Prop where
 pr:aZ u
 uu:dot u u=1
 below:∀X∈T,dot u X<M
 foot:∀Y∈S,∃X∈T,Y=X+(M-dot u X)*u
 cov:∀n,∀X∈T,∃Y∈S,dot n (X+(M-dot u X)*u)<=dot n Y
 three:∃A∈S,∃B∈S,∃C∈S,cr (B-A) (C-A)≠0
 mem:∀X,X∈Q↔X∈T\/X∈S
 oT:T.Pairwise (λa b=>d9 (b-a))
 oQ:Q.Pairwise (λa b=>d9 (b-a))
 sT:i9 T
section
variable{T S Q:List V}{u:V}{M:Int} (C:Cap T S Q u M)
include C
theorem Cap.sQ:i9 Q:=by obtain⟨A,a,B,b,D,d,E,f,e⟩:=C.sT;exact⟨A,(C.mem A).mpr (.inl a),B,(C.mem B).mpr (.inl b),D,(C.mem D).mpr (.inl d),E,(C.mem E).mpr (.inl f),e⟩
theorem Cap.on{Y:V}(h:Y∈S):dot u Y=M:=by obtain⟨X,_,rfl⟩:=C.foot Y h;rw[u5,i6,C.uu];lia
theorem Cap.top:IsFace Q u M:=by
 obtain⟨A,a,B,b,D,d,e⟩:=C.three;refine⟨C.pr,λX f=>?_,A,(C.mem A).mpr (.inr a),B,(C.mem B).mpr (.inr b),D,(C.mem D).mpr (.inr d),C.on a,C.on b,C.on d,e⟩;rcases(C.mem X).mp f with h|h
 .exact aAL (C.below X h)
 exact Int.le_of_eq (C.on h)
theorem Cap.up{n:V}{d:Int}(g:IsFace Q n d)(h:0<dot n u):(n,d)=(u,M):=by
 have f:∀X∈Q,dot n X=d->dot u X=M:=λX j e=>by
  rcases(C.mem X).mp j with i|k
  .obtain⟨Y,l,m⟩:=C.cov n X i;have r:=g.sup Y ((C.mem Y).mpr (.inr l));have b:=C.below X i;have:=aAM (show 0<M-dot u X by lia) h;rw[u5,i6]at m
   lia
  exact C.on k
 obtain⟨A,o,B,p,D,q,a,b,c,ne⟩:=g.three;exact GI C.sQ g C.top a b c (f A o a) (f B p b) (f D q c) ne
theorem Cap.down{n:V}{d:Int}(h:dot n u<0):(IsFace Q n d↔IsFace T n d)/\(IsFace T n d->o6 n d Q=o6 n d T):=by
 have j:∀Y∈S,∃X∈T,dot n Y<dot n X:=λY k=>by obtain⟨X,i,rfl⟩:=C.foot Y k;refine⟨X,i,?_⟩;have b:=C.below X i;have:=aAt (show 0<M-dot u X by lia) h;rw[u5,i6];lia
 have bk:IsFace T n d->IsFace Q n d:=λf=>by
  obtain⟨A,o,B,p,D,q,a,b,c,ne⟩:=f.three;refine⟨f.prim,λX i=>?_,A,(C.mem A).mpr (.inl o),B,(C.mem B).mpr (.inl p),D,(C.mem D).mpr (.inl q),a,b,c,ne⟩;rcases(C.mem X).mp i with z|z
  .exact f.sup X z
  obtain⟨Y,k,l⟩:=j X z;have:=f.sup Y k
  lia
 have g:IsFace Q n d->∀X∈Q,dot n X=d->X∈T:=λf X i e=>by
  rcases(C.mem X).mp i with z|z
  .exact z
  obtain⟨Y,k,l⟩:=j X z;have:=f.sup Y ((C.mem Y).mpr (.inl k))
  lia
 refine⟨⟨λf=>?_,bk⟩,λf=>?_⟩
 .obtain⟨A,o,B,p,D,q,a,b,c,ne⟩:=f.three;exact⟨f.prim,λX i=>f.sup X ((C.mem X).mpr (.inl i)),A,g f A o a,B,g f B p b,D,g f D q c,a,b,c,ne⟩
 refine NJ (C.oQ.filter _) (C.oT.filter _) λX=>?_;rw[c5,c5];exact⟨λ⟨r,m⟩=>⟨g (bk f) X r m,m⟩,λ⟨r,m⟩=>⟨(C.mem X).mpr (.inl r),m⟩⟩
theorem Cap.sum{fs:List (V×Int)}(n:∀f,f∈fs↔IsFace T f.1 f.2)(L:fs.Nodup):(fs.map λf=>max 0 (dot (ar 0 (u8 (c8 T f))) u)).sum=dot (ar 0 (u8 (c8 Q (u,M)))) u/\(fs.map λf=>max 0 (-dot (ar 0 (u8 (c8 T f))) u)).sum=dot (ar 0 (u8 (c8 Q (u,M)))) u:=by
 obtain⟨H,o,I⟩:=oR C.sQ;have z:=oU C.sQ C.oQ o I;have N:∀{J:List V},i9 J->J.Pairwise (λa b=>d9 (b-a))->∀f,IsFace J f.1 f.2->(0<dot f.1 u->0<=dot (ar 0<|u8<|c8 J f) u)/\(dot f.1 u=0->dot (ar 0<|u8<|c8 J f) u=0)/\(dot f.1 u<0->dot (ar 0<|u8<|c8 J f) u<=0):=λY ho f j=>by
  obtain⟨t,E⟩:=IJ Y ho j;have E:=E u;have O:=u4 j.prim.ne;generalize dot (ar 0<|u8<|c8 _ f) u=x at*
  generalize dot f.1 (ar 0<|u8<|c8 _ f)=k at*
  generalize dot f.1 f.1=m at*
  generalize dot f.1 u=y at*
  refine⟨λh=>?_,λh=>?_,λh=>?_⟩
  .by_cases q:0<=x
   .exact q
   have:=aAt O (show x<0 by lia);have:=aAM t h
   lia
  .subst h;rcases aAu.mp (show m*x=0 by rw[E];lia)with z|z
   .lia
   exact z
  by_cases q:x<=0
  .exact q
  have:=aAM O (show 0<x by lia);have:=aAt t h
  lia
 have r:∀{l:List (V×Int)}{p:V×Int->Prop} [DecidablePred p] {f:V×Int},f∈l.filter (λf=>decide (p f))↔f∈l/\p f:=by intro l p _ f;rw[aAX,decide_eq_true_eq]
 have pm:H.Perm ((u,M)::(fs.filter (λf=>decide (dot f.1 u<0))++H.filter (λf=>decide (dot f.1 u=0)))):=by
  refine(aBQ I ?_).mpr λf=>?_
  .refine aAH.mpr ⟨λq=>?_,aCK.mpr ⟨L.filter _,I.filter _,λa ha b hb e=>?_⟩⟩
   .have:=C.uu;rcases aAD.mp q with q|q
    .have:=(r.mp q).2;lia
    have:=(r.mp q).2;lia
   subst e;have t:=(r.mp ha).2;have E:=(r.mp hb).2
   lia
  rw[aAd,aAD,r,r,o,n];constructor
  .intro h;rcases(show 0<dot f.1 u\/dot f.1 u=0\/dot f.1 u<0 by lia)with q|q|q
   .exact .inl (C.up h q)
   .exact .inr (.inr ⟨h,q⟩)
   exact .inr (.inl ⟨(C.down q).1.mp h,q⟩)
  rintro(rfl|⟨h,q⟩|⟨h,_⟩)
  .exact C.top
  .exact(C.down q).1.mpr h
  exact h
 rw[qU (pm.map _),aAk,kA,aBi,FQ]at z;have z:=ip (λv=>dot v u) z;have ad:∀x y:V,dot (x+y) u=dot x u+dot y u:=λx y=>by simp[dot];grind
 simp only[ad,nW,aBd]at z;have v0:((H.filter λf=>decide (dot f.1 u=0)).map ((λv=>dot v u)∘λf=>ar 0 (u8<|c8 Q f))).sum=0:=by
  have:∀l:List (V×Int),(∀f∈l,IsFace Q f.1 f.2/\dot f.1 u=0)->(l.map<|(λv=>dot v u)∘λf=>ar 0 (u8<|c8 Q f)).sum=0:=λl=>by
   induction l with
   |nil=>intro _;rfl
   |cons f l A=>
    intro h;rw[aAk,aAZ,A λg o=>h g (.tail _ o)];have t:=h f (.head _);have:=(N C.sQ C.oQ f t.1).2.1 t.2;show dot (ar 0<|u8<|c8 Q f) u+0=0
    lia
  exact this _ λf j=>by have h:=r.mp j;exact⟨(o f).mp h.1,h.2⟩
 rw[v0,show dot (0:V) u=0 by simp[dot]]at z;have dn:∀l:List (V×Int),(∀f∈l,IsFace T f.1 f.2)->((l.filter λf=>decide (dot f.1 u<0)).map ((λv=>dot v u)∘λf=>ar 0 (u8<|c8 Q f))).sum+(l.map λf=>max 0 (-dot (ar 0<|u8<|c8 T f) u)).sum=0:=λl=>by
  induction l with
  |nil=>intro _;rfl
  |cons f l A=>
   intro h;have i:=A λg o=>h g (.tail _ o);have j:=h f (.head _);have s:=N C.sT C.oT f j;rw[aAk,aAZ];by_cases q:dot f.1 u<0
   .rw[List.filter_cons,hV (decide_eq_true q),aAk,aAZ];have e:c8 Q f=c8 T f:=by unfold c8;rw[(C.down q).2 j]
    show dot (ar 0<|u8<|c8 Q f) u+_+(max 0 (-dot (ar 0<|u8<|c8 T f) u)+_)=0;rw[e];have:=s.2.2 q
    lia
   rw[List.filter_cons,h9 (by simpa using q)];have:0<=dot (ar 0<|u8<|c8 T f) u:=by
    by_cases w:dot f.1 u=0
    .exact Int.le_of_eq (s.2.1 w).symm
    exact s.1 (by lia)
   lia
 have d:=dn fs λf j=>(n f).mp j;have U:=ip (λv=>dot v u) (oU C.sT C.oT n L);simp only[nW,aBd]at U;rw[show dot (0:V) u=0 by simp[dot]]at U;have B:∀l:List (V×Int),(l.map λf=>max 0 (dot (ar 0<|u8<|c8 T f) u)).sum=(l.map<|(λv=>dot v u)∘λf=>ar 0 (u8<|c8 T f)).sum+(l.map λf=>max 0 (-dot (ar 0<|u8<|c8 T f) u)).sum:=λl=>by
  induction l with
  |nil=>rfl
  |cons f l A=>
   simp only[aAk,aAZ,A,aGo]
   lia
 have b:=B fs
 lia
end
end G
namespace ST
open PySem PySem.SetTable
def JJ(Y:Array Nat):Prop:=∀(i k:Nat) (a:i<Y.size) (b:k<Y.size),i<k->Y[i]<Y[k]
theorem wL(Y:Array Nat)(j:Nat)(d:JJ Y):∀(a lo b:Nat),lo<=b->b<=Y.size->b-lo<=a->(∀i (h:i<Y.size),i<lo->Y[i]<j)->(∀i (h:i<Y.size),b<=i->j<=Y[i])->
  below.go Y j a lo b<=Y.size/\(∀i (h:i<Y.size),i<below.go Y j a lo b->Y[i]<j)/\(∀i (h:i<Y.size),below.go Y j a lo b<=i->j<=Y[i])
 |0,lo,b,o,f,p,g,k=>by
  have:lo=b:=by lia
  subst this;unfold below.go;exact⟨f,g,k⟩
 |a+1,lo,b,o,f,p,g,k=>by
  unfold below.go;by_cases n:lo<b
  .rw[hV n];have m:(lo+b)/2<Y.size:=by lia
   have e:Y.getD ((lo+b)/2) j=Y[(lo+b)/2]:=by simp[aFk,m]
   dsimp only;rw[e];by_cases l:Y[(lo+b)/2]<j
   .rw[hV l];refine wL Y j d a _ _ (by lia) f (by lia) (λi h r=>?_) k;by_cases q:i=(lo+b)/2
    .subst q;exact l
    exact aGG (d i _ h m (by lia)) l
   rw[h9 l];refine wL Y j d a _ _ (by lia) (by lia) (by lia) g (λi h r=>?_);by_cases q:i=(lo+b)/2
   .subst q;lia
   have:=d _ i m h (by lia);lia
  rw[h9 n];have:lo=b:=by lia
  subst this;exact⟨f,g,k⟩
def bT(a:JJ Y)(j:Nat):below Y j<=Y.size/\(∀i (h:i<Y.size),i<below Y j->Y[i]<j)/\(∀i (h:i<Y.size),below Y j<=i->j<=Y[i]):=
 wL Y j a Y.size 0 Y.size (aAY _) (aAl _) (by lia) (λi h b=>by lia) (λi h b=>by lia)
def QY(a:JJ Y)(h:Y[i]?=some j):below Y j=i:=by
 obtain⟨b,e⟩:=aCl.mp h;obtain⟨k,f,g⟩:=bT a j;rcases Nat.lt_trichotomy (below Y j) i with q|q|q
 .have d:below Y j<Y.size:=by lia
  have l:=g _ d (aAl _);have m:=a _ _ d b q
  lia
 .exact q
 have:=f i b q;lia
structure Tab(t:SetTable):Prop where
 asc:JJ t.place
 le:∀j∈t.place.toList,j<=t.mask
 nod:t.dummies=#[]
def M0(T:Tab t)(h:t.place[i]?=some j):t.slot j=.live i:=by unfold slot;rw[QY T.asc h];dsimp only;rw[h];simp
def EX(T:Tab t)(h:j∉t.place.toList):t.slot j=.empty:=by
 unfold slot;have a:¬(t.place[below t.place j]?==some j)=true:=λz=>h (by have:=beq_iff_eq.mp z;obtain⟨b,e⟩:=aCl.mp this;rw[<-e];simp)
 dsimp only;rw[h9 a,T.nod];rw[h9 (by unfold has;simp)]
def EJ(T:Tab t)(j:Nat):(t.slot j=.empty/\j∉t.place.toList)\/∃i,t.slot j=.live i/\t.place[i]?=some j:=by
 by_cases h:j∈t.place.toList
 .obtain⟨i,a,e⟩:=aBp h;have:t.place[i]?=some j:=by rw[<-aAE,aAi a,e]
  exact .inr ⟨i,M0 T this,this⟩
 exact .inl ⟨EX T h,h⟩
def US(mask:Nat)(p:Probe):Probe:=if p.more>0 then{p with j:=p.j+1,more:=p.more-1}else{p with j:=(leap mask p.i p.perturb).1,more:=runEnd mask (leap mask p.i p.perturb).1-(leap mask p.i p.perturb).1,i:=(leap mask p.i p.perturb).1,perturb:=(leap mask p.i p.perturb).2}
def pL(t:eQ)(p:Probe):t.advance p=US t.mask p:=rfl
def start(mask:Nat)(h:Int):Probe:={j:=bits h%(mask+1),more:=runEnd mask (bits h%(mask+1))-bits h%(mask+1),i:=bits h%(mask+1),perturb:=bits h,dummy:=none}
def l8(mask:Nat)(h:Int):Nat->Probe
 |0=>start mask h
 |n+1=>US mask (l8 mask h n)
theorem qF(mask:Nat)(h:Int):∀n,(l8 mask h n).dummy=none
 |0=>rfl
 |n+1=>by have:=qF mask h n;show(US mask _).dummy=none;unfold US;split<;>exact this
def D9(mask:Nat)(h:Int):Nat->Nat×Nat
 |0=>(bits h%(mask+1),bits h)
 |k+1=>leap mask (D9 mask h k).1 (D9 mask h k).2
def len(mask i:Nat):Nat:=runEnd mask i-i
def bw(mask i:Nat):len mask i<=9:=by unfold len runEnd;split<;>lia
def off(mask:Nat)(h:Int):Nat->Nat
 |0=>0
 |k+1=>off mask h k+len mask (D9 mask h k).1+1
theorem OX(mask:Nat)(h:Int):∀k,off mask h k<=10*k
 |0=>aAl _
 |k+1=>by have:=OX mask h k;have:=bw mask (D9 mask h k).1;show off mask h k+_+1<=_;lia
theorem X6(mask:Nat)(h:Int):∀k r,r<=len mask (D9 mask h k).1->
  l8 mask h (off mask h k+r)={j:=(D9 mask h k).1+r,more:=len mask (D9 mask h k).1-r,i:=(D9 mask h k).1,perturb:=(D9 mask h k).2,dummy:=none}
 |0,0,_=>rfl
 |0,r+1,b=>by
  have a:=X6 mask h 0 r (by lia);have e:off mask h 0+(r+1)=(off mask h 0+r)+1:=by lia
  rw[e,l8,a];unfold US;rw[hV (show len mask (D9 mask h 0).1-r>0 by lia)];simp
  lia
 |k+1,0,_=>by have a:=X6 mask h k (len mask (D9 mask h k).1) (aAl _);have e:off mask h (k+1)+0=(off mask h k+len mask (D9 mask h k).1)+1:=rfl;rw[e,l8,a];unfold US;rw[h9 (by simp)];simp[D9,len]
 |k+1,r+1,b=>by
  have a:=X6 mask h (k+1) r (by lia);have e:off mask h (k+1)+(r+1)=(off mask h (k+1)+r)+1:=by lia
  rw[e,l8,a];unfold US;rw[hV (show len mask (D9 mask h<|k+1).1-r>0 by lia)];simp
  lia
def QT(mask:Nat)(h:Int)(k:Nat):(l8 mask h (off mask h k)).j=(D9 mask h k).1:=by have:=X6 mask h k 0 (aAY _);rw[Nat.add_zero]at this;rw[this];rfl
theorem iX(mask:Nat)(h:Int):∀k,(D9 mask h k).2<2^64/32^k+1
 |0=>by
  show bits h<_;unfold bits;have:=Int.emod_lt_of_pos h (show(0:Int)<2^64 by decide)
  lia
 |k+1=>by
  have a:=iX mask h k;show(D9 mask h k).2/32<_;have e:∀N,N/32^(k+1)=N/32^k/32:=λN=>by rw[Nat.div_div_eq_div_mul];rfl
  rw[e]
  lia
theorem uO(mask:Nat)(h:Int):∀k,(D9 mask h (13+k)).2=0
 |0=>by have:=iX mask h 13;simp at this;exact this
 |k+1=>by have:=uO mask h k;show(D9 mask h<|13+k).2/32=0;rw[this]
def lcg(m:Nat)(i:Nat):Nat:=(i*5+1)%m
def y8(m:Nat):Nat->Nat->Nat
 |0,i=>i
 |n+1,i=>lcg m (y8 m n i)
theorem qM(mask:Nat)(h:Int):∀k,(D9 mask h (13+k)).1=y8 (mask+1) k (D9 mask h 13).1
 |0=>rfl
 |k+1=>by have a:=qM mask h k;show((D9 mask h<|13+k).1*5+1+(D9 mask h<|13+k).2/32)%(mask+1)=_;rw[uO,a];rfl
theorem jA(m:Nat):∀a b i,y8 m (a+b) i=y8 m a (y8 m b i)
 |0,b,i=>by rw[aFP];rfl
 |a+1,b,i=>by rw[show a+1+b=(a+b)+1 by lia];show lcg m _=lcg m _;rw[jA m a b i]
def nB(m:Nat):Prop:=y8 m m 0=0/\∀j<m,∃n<m,y8 m n 0=j
def vC(F:nB m)(f:i<m)(g:j<m):∃n<m,y8 m n i=j:=by
 obtain⟨a,k,d⟩:=F.2 i f;obtain⟨b,l,e⟩:=F.2 j g;by_cases h:a<=b
 .exact⟨b-a,by lia,by rw[<-d,<-jA,show b-a+a=b by lia,e]⟩
 refine⟨b+(m-a),by lia,?_⟩;rw[<-d,<-jA,show b+(m-a)+a=b+m by lia,jA,F.1,e]
instance(m:Nat):Decidable (nB m):=inferInstanceAs (Decidable<|_/\_)
def a1c:nB 8:=by decide+kernel
def xj:nB 32:=by decide+kernel
def XE:nB 128:=by decide+kernel
theorem GD(mask:Nat)(h:Int):∀k,(D9 mask h k).1<mask+1
 |0=>aFl _ (by lia)
 |k+1=>aFl _ (by lia)
def DU{mask:Nat}(F:nB (mask+1))(h:Int){j:Nat}(a:j<=mask):∃n,n<=10*(mask+14)/\(l8 mask h n).j=j:=by
 obtain⟨k,b,e⟩:=vC F (GD mask h 13) (show j<mask+1 by lia);refine⟨off mask h (13+k),?_,?_⟩
 .have:=OX mask h (13+k);lia
 rw[QT,qM,e]
def wN{α β:Type}{l:List α}{m:List β}{p:Nat}{a:α×β}(h:a∈(l.take p).zip (m.take p)):a∈l.zip m:=by
 obtain⟨i,b⟩:=aDv.mp h;rw[aBH]at b;refine aAx (i:=i) ?_;rw[aBH];have q:∀{γ:Type}{l:List γ}{c:γ},(l.take p)[i]?=some c->l[i]?=some c:=λ{γ l c} h=>by
  rw[List.getElem?_take]at h;split at h
  .exact h
  cases h
 exact⟨q b.1,q b.2⟩
def wY{α β:Type}{l:List α}{m:List β}{p:Nat}{a:α×β}(h:a∈(l.drop p).zip (m.drop p)):a∈l.zip m:=by obtain⟨i,b⟩:=aDv.mp h;rw[aBH,List.getElem?_drop,List.getElem?_drop]at b;refine aAx (i:=p+i) ?_;rw[aBH];exact b
theorem HH(mask:Nat)(h:Int):∀n,(l8 mask h n).j+(l8 mask h n).more<=mask
 |0=>by have:=aFl (bits h) (show 0<mask+1 by lia);show bits h%(mask+1)+(runEnd mask (bits h%(mask+1))-bits h%(mask+1))<=mask;unfold runEnd;split<;>lia
 |n+1=>by
  have a:=HH mask h n;show(US mask<|l8 mask h n).j+(US mask<|l8 mask h n).more<=mask;unfold US;split
  .dsimp only;lia
  dsimp only;have:(leap mask (l8 mask h n).i (l8 mask h n).perturb).1<mask+1:=aFl _ (by lia);unfold runEnd;split<;>lia
def wH(mask:Nat)(h:Int)(n:Nat):(l8 mask h n).j<=mask:=by have:=HH mask h n;lia
theorem Q9{α:Type}[DecidableEq α]:∀{l m:List α},l.Nodup->(∀x∈l,x∈m)->l.length<=m.length
 |[],_,_,_=>aAY _
 |x::l,m,h,a=>by
  have b:=a x (by simp);have d:=aAH.mp h;have:=Q9 (l:=l) (m:=m.erase x) d.2 (λy f=>by
   have ne:y≠x:=λe=>by subst e;exact d.1 f
   exact(aGa ne).mpr (a y<|aAe _ f))
  rw[aFj b]at this;have:0<m.length:=aDk b;simp only[aAq]
  lia
def IW{t:eQ}(h:t.place.size<=t.mask):∃j≤t.mask,j∉t.place.toList:=by
 by_cases z:∃j≤t.mask,j∉t.place.toList
 .exact z
 exfalso;have:=Q9 (l:=aBc (t.mask+1)) (m:=t.place.toList) List.nodup_range (λj a=>by
  by_cases q:j∈t.place.toList
  .exact q
  exact absurd ⟨j,by have:=aBa.mp a;lia,q⟩ z)
 simp at this
 lia
theorem least{P:Nat->Prop}[DecidablePred P]:∀n,P n->∃m≤n,P m/\∀k<m,¬P k
 |0,h=>⟨0,aAl _,h,λk b=>by lia⟩
 |n+1,h=>by
  by_cases z:∃k≤n,P k
  .obtain⟨k,b,a⟩:=z;obtain⟨m,f,d,e⟩:=least k a;exact⟨m,by lia,d,e⟩
  exact⟨n+1,aAl _,h,λk b a=>z ⟨k,by lia,a⟩⟩
termination_by n=>n
def V6(t:eQ)(h:Int)(n0:Nat):Prop:=n0<=10*(t.mask+14)/\(l8 t.mask h n0).j∉t.place.toList/\∀m<n0,(l8 t.mask h m).j∈t.place.toList
def EA{t:eQ}(F:nB (t.mask+1))(a:t.place.size<=t.mask)(h:Int):∃n0,V6 t h n0:=by obtain⟨j,b,d⟩:=IW a;obtain⟨n,l,e⟩:=DU F h b;obtain⟨m,o,f,g⟩:=least (P:=λn=>(l8 t.mask h n).j∉t.place.toList) n (by rw[e];exact d);exact⟨m,by lia,f,λk i=>by have:=g k i;simpa using this⟩
theorem yK(T:Tab t)(hashAt:Nat->Int)(h:Int)(l:V6 t h n0):∀(d n:Nat),n<=n0->n0-n<d->
  ∃f,n<=f/\f<=n0/\(∀m,n<=m->m<f->∃i,t.place[i]?=some (l8 t.mask h m).j/\hashAt i≠h)/\
   ((f=n0/\probe.go t hashAt h d (l8 t.mask h n)=some (.empty (l8 t.mask h n0).j none))\/
    (f<n0/\∃i,t.place[i]?=some (l8 t.mask h f).j/\hashAt i=h/\probe.go t hashAt h d (l8 t.mask h n)=some (.candidate (l8 t.mask h f).j i (l8 t.mask h (f+1)))))
 |0,n,_,o=>by lia
 |d+1,n,w,o=>by
  unfold probe.go;rcases EJ T (l8 t.mask h n).j with⟨e,p⟩|⟨i,e,g⟩
  .have:n=n0:=by
     by_cases q:n<n0
     .exact absurd (l.2.2 n q) p
     lia
   subst this;refine⟨n,aAl _,aAl _,λm a b=>by lia,.inl ⟨rfl,?_⟩⟩;rw[e];dsimp only;rw[qF]
  have x:n≠n0:=λq=>by subst q;refine l.2.1 ?_;rw[<-aAE]at g;exact aAx g
  rw[e];dsimp only;by_cases k:hashAt i=h
  . refine⟨n,aAl _,by lia,λm a b=>by lia,.inr ⟨by lia,i,g,k,?_⟩⟩
    rw[hV (by simpa using k),pL];rfl
  rw[h9 (by simpa using k),pL]
  obtain⟨f,y,r,s,u⟩:=yK T hashAt h l d (n+1) (by lia) (by lia);refine⟨f,by lia,r,λm z v=>?_,u⟩;by_cases q:m=n
  .subst q;exact⟨i,g,k⟩
  exact s m (by lia) v
def NS(T:Tab t)(hashAt:Nat->Int)(h:Int)(b:V6 t h n0)(n:Nat)(d:n<=n0):
  ∃a,n<=a/\a<=n0/\(∀m,n<=m->m<a->∃i,t.place[i]?=some (l8 t.mask h m).j/\hashAt i≠h)/\
   ((a=n0/\t.probe hashAt h (l8 t.mask h n)=some (.empty (l8 t.mask h n0).j none))\/
    (a<n0/\∃i,t.place[i]?=some (l8 t.mask h a).j/\hashAt i=h/\t.probe hashAt h (l8 t.mask h n)=some (.candidate (l8 t.mask h a).j i (l8 t.mask h (a+1))))):=
 yK T hashAt h b _ n d (by have:=b.1;unfold turns;lia)
def Reach(mask:Nat)(a:Nat->Prop)(h:Int)(j:Nat):Prop:=∃n,(l8 mask h n).j=j/\∀m<n,a (l8 mask h m).j
def Reach.mono{mask:Nat}{o a:Nat->Prop}{h:Int}{j:Nat}(r:Reach mask o h j)(i:∀k,o k->a k):Reach mask a h j:=by obtain⟨n,e,q⟩:=r;exact⟨n,e,λm b=>i _ (q m b)⟩
def Reach.before(a:V6 t h n0)(b:j∈t.place.toList)(r:Reach t.mask (λk=>k∈t.place.toList) h j):∃n<n0,(l8 t.mask h n).j=j:=by
 obtain⟨n,e,q⟩:=r;refine⟨n,?_,e⟩;by_cases z:n<n0
 .exact z
 exfalso;by_cases y:n=n0
 .subst y;exact a.2.1 (by rw[e];exact b)
 exact a.2.1 (q n0 (by lia))
def fY{α:Type}(Y:Array α)(p:Nat)(x:α):(insertAt Y p x).toList=Y.toList.take p++x::Y.toList.drop p:=by
 unfold insertAt;simp[Array.toList_extract,List.extract_eq_drop_take];have:Y.size-p=(Y.toList.drop p).length:=by simp
 rw[this,List.take_length]
def AY(t:eQ)(es:List (Int×au)):List (Nat×Int×au):=t.place.toList.zip es
structure SOk(t:SetTable)(es:List (Int×Value)):Prop where
 tab:Tab t
 full:nB (t.mask+1)
 len:t.place.size=es.length
 room:t.place.size<=t.mask
 reach:∀e∈AY t es,Reach t.mask (λk=>k∈t.place.toList) e.2.1 e.1
def XU{t:eQ}{es:List (Int×au)}(b:t.place.size=es.length){i:Nat}{e:Int×au}(h:es[i]?=some e):∃j,t.place[i]?=some j/\(j,e)∈AY t es:=by
 have d:i<es.length:=(aAC.mp h).1;have a:i<t.place.toList.length:=by simpa[b]using d
 refine⟨t.place.toList[i],by rw[<-aAE,aAi a],?_⟩;unfold AY;refine aAx (i:=i) ?_;rw[aBH];exact⟨aAi a,h⟩
def uq{t:eQ}{es:List (Int×au)}(S:SOk t es){h:Int}{x:au}{n0:Nat}(z:V6 t h n0)(E:t.place.size+1<=t.mask):
  SOk (t.put (l8 t.mask h n0).j).1 (es.take (t.put (l8 t.mask h n0).j).2++(h,x)::es.drop (t.put (l8 t.mask h n0).j).2):=by
 have u:=wH t.mask h n0;obtain⟨Y,H,I⟩:=bT S.tab.asc (l8 t.mask h n0).j;generalize A:(l8 t.mask h n0).j=J at*
 have v:J∉t.place.toList:=by rw[<-A];exact z.2.1
 have B:(t.put J).2=below t.place J:=rfl;have em:(t.put J).1.mask=t.mask:=rfl;have d:(t.put J).1.place=insertAt t.place (below t.place J) J:=rfl;have f:=fY t.place (below t.place J) J;have l:∀k,k∈(t.put J).1.place.toList↔k∈t.place.toList\/k=J:=λk=>by
  rw[d,f,aAD,aAd];constructor
  .rintro(q|q|q)
   .exact .inl (aDG q)
   .exact .inr q
   exact .inl (aDH q)
  rintro(q|q)
  .rw[<-aFQ (below t.place J) t.place.toList,aAD]at q;rcases q with q|q
   .exact .inl q
   exact .inr (.inr q)
  exact .inr (.inl q)
 have C:(t.put J).1.place.size=t.place.size+1:=by
  rw[<-aBj,d,f,aAz,aBU,aAq,aDP,aBj]
  lia
 refine⟨⟨?_,λj L=>?_,?_⟩,S.full,?_,by rw[C];exact E,λe s=>?_⟩
 .
  have o:t.place.toList.Pairwise (· <·):=by rw[aCo];intro i j g u N;simpa using S.tab.asc i j (by simpa using g) (by simpa using u) N
  have p:∀a∈t.place.toList.take (below t.place J),a<J:=λa n=>by
   obtain⟨i,g,e⟩:=aBp n;rw[aBU]at g;rw[List.getElem_take]at e;have:=H i (by simp at g;lia) (by lia);simp at e
   lia
  have r:∀a∈t.place.toList.drop (below t.place J),J<a:=λa n=>by
   obtain⟨i,g,e⟩:=aBp n;rw[aDP]at g;rw[List.getElem_drop]at e;have h1:=I (below t.place J+i) (by simp at g;lia) (by lia);simp at e;have h2:J≠a:=λq=>v (by rw[q];exact aDH n)
   lia
  have O:(t.put J).1.place.toList.Pairwise (· <·):=by
   rw[d,f,List.pairwise_append];refine⟨o.sublist (List.take_sublist _ _),aAy.mpr ⟨r,o.sublist (List.drop_sublist _ _)⟩,λa n b Q=>?_⟩;rcases aAd.mp Q with q|q
   .subst q;exact p a n
   exact aGG (p a n) (r b q)
  intro i k g w y;have:=aCo.mp O i k (by simpa using g) (by simpa using w) y;simpa using this
 .rcases(l j).mp L with q|q
  .exact S.tab.le j q
  subst q;exact u
 .show(if has t.dummies J then _ else t.dummies)=#[];rw[S.tab.nod,h9 (by unfold has;simp)]
 .rw[C,B,aAz,aBU,aAq,aDP];have:=S.len
  lia
 have T:e∈AY t es\/e=(J,h,x):=by
  unfold AY at s;rw[d,f,B]at s;rw[List.zip_append (by rw[aBU,aBU,aBj,S.len])]at s;rcases aAD.mp s with q|q
  .left;unfold AY;exact wN q
  rw[aBZ]at q;rcases aAd.mp q with q|q
  .exact .inr q
  left;unfold AY;exact wY q
 rcases T with q|q
 .exact(S.reach e q).mono λk w=>(l k).mpr (.inl w)
 subst q;exact⟨n0,A,λm U=>(l _).mpr (.inl (z.2.2 m U))⟩
def T1(owner:Array (Option Nat))(j:Nat):Prop:=(owner.getD j<|some 0).isNone=false
theorem tM{mask:Nat}(h:Int)(owner:Array (Option Nat)):∀(fuel k:Nat),(∃kk,k<=kk/\kk<k+fuel/\¬T1 owner (D9 mask h kk).1)->
  ∃n,off mask h k<=n/\layClean.free mask owner fuel (D9 mask h k).1 (D9 mask h k).2=some (l8 mask h n).j/\¬T1 owner (l8 mask h n).j/\∀m,off mask h k<=m->m<n->T1 owner (l8 mask h m).j
 |0,k,⟨kk,i,l,_⟩=>by lia
 |fuel+1,k,⟨kk,i,l,d⟩=>by
  have o:runEnd mask (D9 mask h k).1+1-(D9 mask h k).1=len mask (D9 mask h k).1+1:=by unfold len runEnd;split<;>lia
  unfold layClean.free;rw[o];cases e:(aBc<|len mask (D9 mask h k).1+1).find? λr=>(owner.getD ((D9 mask h k).1+r)<|some 0).isNone with
  |some r=>
   have q:=List.find?_some e;have f:r<len mask (D9 mask h k).1+1:=aBa.mp (List.mem_of_find?_eq_some e);have g:(l8 mask h<|off mask h k+r).j=(D9 mask h k).1+r:=by rw[X6 mask h k r (by lia)]
   refine⟨off mask h k+r,by lia,by rw[g],by rw[g];unfold T1;rw[q];simp,λm a b=>?_⟩;have em:(l8 mask h m).j=(D9 mask h k).1+(m-off mask h k):=by have:=X6 mask h k (m-off mask h k) (by lia);rw[show off mask h k+(m-off mask h k)=m by lia]at this;rw[this]
   rw[em];unfold T1;rw[List.find?_range_eq_some]at e;have:=e.2.2 (m-off mask h k) (by lia);simpa using this
  |none=>
   have all:∀r<len mask (D9 mask h k).1+1,T1 owner ((D9 mask h k).1+r):=λr f=>by have:=List.find?_eq_none.mp e r (aBa.mpr f);unfold T1;exact Bool.not_eq_true _▸this
   have v:kk≠k:=λq=>by subst q;have:=all 0 (by lia);rw[Nat.add_zero]at this;exact d this
   obtain⟨n,w,p,s,t⟩:=tM h owner fuel (k+1) ⟨kk,by lia,by lia,d⟩;have x:off mask h (k+1)=off mask h k+len mask (D9 mask h k).1+1:=rfl;refine⟨n,by lia,p,s,λm y u=>?_⟩;by_cases q:off mask h (k+1)<=m
   .exact t m q u
   have em:(l8 mask h m).j=(D9 mask h k).1+(m-off mask h k):=by have:=X6 mask h k (m-off mask h k) (by lia);rw[show off mask h k+(m-off mask h k)=m by lia]at this;rw[this]
   rw[em];exact all _ (by lia)
def oD{mask:Nat}(F:nB (mask+1))(h:Int)(owner:Array (Option Nat)){j:Nat}(i:j<=mask)(a:¬T1 owner j):
  ∃n,layClean.free mask owner (turns mask) (aEa h%(mask+1)) (aEa h)=some (l8 mask h n).j/\¬T1 owner (l8 mask h n).j/\∀m<n,T1 owner (l8 mask h m).j:=by
 obtain⟨k,l,e⟩:=vC F (GD mask h 13) (show j<mask+1 by lia);obtain⟨n,o,b,d,f⟩:=tM h owner (turns mask) 0 ⟨13+k,aAY _,by unfold turns;lia,by rw[qM,e];exact a⟩;exact⟨n,b,d,λm g=>f m (aAY _) g⟩
structure Laid(mask:Nat)(hs:List Int)(owner:Array (Option Nat))(k:Nat):Prop where
 size:owner.size=mask+1
 lt:∀(j i:Nat),owner[j]?=some (some i)->i<k
 inj:∀(j j' i:Nat),owner[j]?=some (some i)->owner[j']?=some (some i)->j=j'
 sur:∀i<k,∃j:Nat,owner[j]?=some (some i)
 reach:∀(j i:Nat) (h:Int),owner[j]?=some (some i)->hs[i]?=some h->Reach mask (λl=>∃i,owner[l]?=some (some i)) h j
def kH{owner:Array (Option Nat)}{mask j:Nat}(b:owner.size=mask+1)(d:j<=mask):T1 owner j↔∃i,owner[j]?=some (some i):=by
 unfold T1;have a:j<owner.size:=by lia
 have e:owner.getD j (some 0)=owner[j]:=by simp[aFk,a]
 rw[e,aAO a];cases owner[j]with
 |none=>simp
 |some i=>simp
def Laid.room{mask k:Nat}{r:List Int}{owner:Array (Option Nat)}(L:Laid mask r owner k)(t:k<=mask):∃j≤mask,¬T1 owner j:=by
 by_cases z:∃j≤mask,¬T1 owner j
 .exact z
 exfalso;have all:∀j≤mask,∃i,owner[j]?=some (some i):=λj b=>by
  by_cases q:T1 owner j
  .exact(kH L.size b).mp q
  exact absurd ⟨j,b,q⟩ z
 have d:∀n,n<=mask+1->∃l:List Nat,l.length=n/\l.Nodup/\(∀i∈l,i<k)/\∀i∈l,∃j<n,owner[j]?=some (some i):=λn=>by
  induction n with
  |zero=>exactλ_=>⟨[],rfl,aCX,by simp,by simp⟩
  |succ n s=>
   intro u;obtain⟨l,o,f,g,p⟩:=s (by lia);obtain⟨i,h⟩:=all n (by lia);refine⟨i::l,by simp[o],aAH.mpr ⟨λq=>?_,f⟩,λx a=>?_,λx a=>?_⟩
   .obtain⟨j,b,e⟩:=p i q;have:=L.inj j n i e h
    lia
   .rcases aAd.mp a with q|q
    .subst q;exact L.lt _ _ h
    exact g x q
   rcases aAd.mp a with q|q
   .subst q;exact⟨n,by lia,h⟩
   obtain⟨j,b,e⟩:=p x q;exact⟨j,by lia,e⟩
 obtain⟨l,o,f,g,_⟩:=d (mask+1) (aAl _);have:=Q9 (m:=aBc k) f (λx a=>aBa.mpr (g x a));simp at this
 lia
def CI(mask:Nat)(b:List Int):Laid mask b (aEB (mask+1) none) 0:=by
 have a:∀(j i:Nat),(aEB (mask+1) (none:Option Nat))[j]?=some (some i)->False:=λj i h=>by rw[Array.getElem?_replicate]at h;split at h<;>cases h
 exact⟨by simp,λj i h=>(a j i h).elim,λj d i h=>(a j i h).elim,λi e=>by lia,λj i _ h=>(a j i h).elim⟩
def Laid.step{mask k:Nat}{g:List Int}{owner:Array (Option Nat)}(L:Laid mask g owner k){h:Int}(t:g[k]?=some h){n:Nat}(u:¬T1 owner (l8 mask h n).j)(v:∀m<n,T1 owner (l8 mask h m).j):
  Laid mask g (owner.setIfInBounds (l8 mask h n).j (some k)) (k+1):=by
 have w:=wH mask h n;have o:(l8 mask h n).j<owner.size:=by rw[L.size];lia
 have get:∀(j i:Nat),(owner.setIfInBounds (l8 mask h n).j (some k))[j]?=some (some i)↔(j=(l8 mask h n).j/\i=k)\/(j≠(l8 mask h n).j/\owner[j]?=some (some i)):=λj i=>by
  rw[Array.getElem?_setIfInBounds];by_cases q:(l8 mask h n).j=j
  .rw[hV q,hV o];simp[q,eq_comm]
  rw[h9 q];constructor
  .intro z;exact .inr ⟨λy=>q y.symm,z⟩
  rintro(⟨z,_⟩|⟨_,z⟩)
  .exact absurd z.symm q
  exact z
 have x:∀i,owner[(l8 mask h n).j]?≠some (some i):=λi z=>u ((kH L.size w).mpr ⟨i,z⟩);have grow:∀l:Nat,(∃i:Nat,owner[l]?=some (some i))->∃i:Nat,(owner.setIfInBounds (l8 mask h n).j (some k))[l]?=some (some i):=λl A=>by
  obtain⟨i,z⟩:=A;by_cases q:l=(l8 mask h n).j
  .exact⟨k,(get l k).mpr (.inl ⟨q,rfl⟩)⟩
  exact⟨i,(get l i).mpr (.inr ⟨q,z⟩)⟩
 refine⟨by simp[L.size],λj i z=>?_,λj p i z s=>?_,λi C=>?_,λj i r z e=>?_⟩
 .rcases(get j i).mp z with⟨_,q⟩|⟨_,q⟩
  .lia
  have:=L.lt j i q;lia
 .rcases(get j i).mp z with⟨d,a⟩|⟨d,a⟩
  .rcases(get p i).mp s with⟨f,b⟩|⟨f,b⟩
   .rw[d,f]
   subst a;have:=L.lt _ _ b;lia
  rcases(get p i).mp s with⟨f,b⟩|⟨f,b⟩
  .subst b;have:=L.lt _ _ a;lia
  exact L.inj j p i a b
 .by_cases q:i=k
  .subst q;exact⟨_,(get _ _).mpr (.inl ⟨rfl,rfl⟩)⟩
  obtain⟨j,z⟩:=L.sur i (by lia);exact⟨j,(get j i).mpr (.inr ⟨λy=>by subst y;exact x i z,z⟩)⟩
 rcases(get j i).mp z with⟨d,a⟩|⟨d,a⟩
 .subst d a;have:r=h:=Option.some.inj (e.symm.trans t);subst this;exact⟨n,rfl,λm B=>grow _ ((kH L.size<|wH mask r m).mp (v m B))⟩
 exact(L.reach j i r a e).mono grow
def AG{mask:Nat}(F:nB (mask+1))(b:Array Int)(z:b.size<=mask):∃owner,layClean mask b=some owner/\Laid mask b.toList owner b.size:=by
 have g:∀(post a:List Int) (owner:Array (Option Nat)),b.toList=a++post->Laid mask b.toList owner a.length->
   ∃d,post.foldl (λB h=>do
    let(owner,k)<-B
    let j<-layClean.free mask owner (turns mask) (aEa h%(mask+1)) (aEa h)
    pure (owner.setIfInBounds j (some k),k+1)) (some (owner,a.length))=some (d,b.size)/\Laid mask b.toList d b.size:=λpost=>by
  induction post with
  |nil=>
   intro a owner e L;have:a.length=b.size:=by rw[<-aBj,e];simp
   exact⟨owner,by rw[List.foldl_nil,this],by rw[<-this];exact L⟩
  |cons h post i=>
   intro a owner e L;have f:a.length<b.size:=by rw[<-aBj,e];simp
   obtain⟨j,l,m⟩:=L.room (by lia);obtain⟨n,o,p,q⟩:=oD F h owner l m;have r:b.toList[a.length]?=some h:=by rw[e];simp
   have s:=L.step r p q;rw[aEC];have t:b.toList=(a++[h])++post:=by rw[e];simp
   obtain⟨d,u,v⟩:=i (a++[h]) _ t (by rw[aAz];exact s);refine⟨d,?_,v⟩;rw[<-u];congr 1;simp[o]
 obtain⟨owner,w,x⟩:=g b.toList [] (aEB (mask+1) none) rfl (CI mask b.toList);refine⟨owner,?_,x⟩;unfold layClean;rw[<-Array.foldl_toList];have y:List.foldl (λB h=>do
    let(owner,k)<-B
    let j<-layClean.free mask owner (turns mask) (aEa h%(mask+1)) (aEa h)
    pure (owner.setIfInBounds j (some k),k+1)) (some (aEB (mask+1) none,0)) b.toList=some (owner,b.size):=w
 rw[y];rfl
def G7(mask:Nat)(owner:Array (Option Nat)):List (Nat×Nat):=(aBc<|mask+1).filterMap λj=>(owner.getD j none).map (j,·)
def R8{mask:Nat}{owner:Array (Option Nat)}(g:owner.size=mask+1){j i:Nat}:(j,i)∈G7 mask owner↔owner[j]?=some (some i):=by
 unfold G7;rw[aCa];constructor
 .rintro⟨l,a,e⟩;have f:l<owner.size:=by rw[g];exact aBa.mp a
  have b:owner.getD l none=owner[l]:=by simp[aFk,f]
  rw[b,aDl]at e;obtain⟨k,d,h⟩:=e;cases h;rw[aAO f,d]
 intro e;obtain⟨a,d⟩:=aCl.mp e;have b:owner.getD j none=owner[j]:=by simp[aFk,a]
 exact⟨j,aBa.mpr (by lia),by rw[b,d];rfl⟩
def BJ(mask:Nat)(owner:Array (Option Nat)):((G7 mask owner).map (·.1)).Pairwise (· <·):=by unfold G7;rw[aBt];have:(aBc<|mask+1).Pairwise (· <·):=List.pairwise_lt_range;refine List.Pairwise.filterMap _ (R:=(· <·)) ?_ this;intro a g f b d h e;rw[aDl]at d e;obtain⟨_,_,rfl⟩:=d;obtain⟨_,_,rfl⟩:=e;exact f
def OV{mask finger moves:Nat}{led plain:Bool}(F:nB (mask+1))(es:Array (Int×au))(A:es.size<=mask):
  ∃t' f,laid mask finger moves led plain (es.map (·.1))=some (t',f)/\(f.filterMap (es[·]?)).size=es.size/\(f.filterMap (es[·]?)).toList.Perm es.toList/\SOk t' (f.filterMap (es[·]?)).toList/\
   t'.mask=mask/\t'.dummies=#[]/\t'.led=led/\t'.plain=plain/\t'.moves=moves:=by
 obtain⟨d,J,L⟩:=AG F (es.map (·.1)) (by simpa using A);have m:(es.map (·.1)).size=es.size:=by simp
 rw[m]at L;refine⟨{mask,place:=((G7 mask d).map (·.1)).toArray,dummies:=#[],finger,led,moves,plain},((G7 mask d).map (·.2)).toArray,?_,?_⟩
 .unfold laid;rw[J];rfl
 have n:(G7 mask d).Nodup:=by have:=BJ mask d;rw[aBt]at this;exact aCk.mpr (this.imp λ{a b} h e=>by subst e;exact aBr _ h)
 have o:((G7 mask d).map (·.2)).Nodup:=by rw[aCk,aBt];refine List.Pairwise.imp_of_mem (R:=(· ≠·)) ?_ (aCk.mp n);rintro⟨j,i⟩ ⟨p,r⟩ N O Q e;dsimp only at e;subst e;have:=L.inj j p i ((R8 L.size).mp N) ((R8 L.size).mp O);subst this;exact Q rfl
 have B:((G7 mask d).map (·.2)).Perm (aBc es.size):=by
  rw[aBQ o List.nodup_range];intro i;rw[aBa,aAj];constructor
  .rintro⟨⟨j,r⟩,h,rfl⟩;exact L.lt _ _ ((R8 L.size).mp h)
  intro s;obtain⟨j,t⟩:=L.sur i s;exact⟨(j,i),(R8 L.size).mpr t,rfl⟩
 have C:(((G7 mask d).map (·.2)).toArray.filterMap (es[·]?)).toList=(G7 mask d).filterMap (λx=>es[x.2]?):=by rw[Array.toList_filterMap,aDp];rfl
 have T:((G7 mask d).filterMap (λx=>es[x.2]?)).Perm es.toList:=by
  have U:(G7 mask d).filterMap (λx=>es[x.2]?)=((G7 mask d).map (·.2)).filterMap (λi=>es[i]?):=by rw[aDp];rfl
  rw[U];refine(B.filterMap _).trans (List.Perm.of_eq ?_);apply aFm;intro i;have:(aBc es.size).filterMap (λi=>es[i]?)=es.toList:=by
   have q:∀l:List (Int×au),(aBc l.length).filterMap (λi=>l[i]?)=l:=λl=>by
    induction l with
    |nil=>rfl
    |cons a l u=>
     rw[aAq,aFG,aCO];simp only[aCE];rw[aDp];have:((λi=>(a::l)[i]?)∘Nat.succ)=λi=>l[i]?:=by funext i;simp
     rw[this,u]
   have:=q es.toList;simpa using this
  rw[this]
 have Y:∀l:List (Nat×Nat),(∀x∈l,x.2<es.size)->(l.map (·.1)).zip (l.filterMap<|λx=>es[x.2]?)=l.filterMap (λx=>es[x.2]?.map (x.1,·))/\(l.filterMap<|λx=>es[x.2]?).length=l.length:=λl=>by
  induction l with
  |nil=>intro _;exact⟨rfl,rfl⟩
  |cons x l u=>intro h;obtain⟨i1,i2⟩:=u (λy hy=>h y (aAe _ hy));have w:=h x (by simp);have e:es[x.2]?=some es[x.2]:=aAO w;rw[aAk,aCO,e];dsimp only;rw[aCO,e];dsimp only[Option.map_some];rw[aBZ,i1];exact⟨rfl,by simp[i2]⟩
 obtain⟨z1,E⟩:=Y (G7 mask d) (λx w=>L.lt x.1 x.2 ((R8 L.size).mp w));have H:(G7 mask d).length=es.size:=by have:=B.length_eq;simpa using this
 rw[C];refine⟨by rw[<-aBj,C,E,H],T,⟨⟨?_,λj t=>?_,rfl⟩,F,?_,?_,λe g=>?_⟩,rfl,rfl,rfl,rfl,rfl⟩
 .intro i k s m z;have:=aCo.mp (BJ mask d) i k (by simpa using s) (by simpa using m) z;simpa using this
 .have uo:j∈(G7 mask d).map (·.1):=by simpa using t
  obtain⟨⟨p,i⟩,h,rfl⟩:=aAj.mp uo;have:=(aCl.mp<|(R8 L.size).mp h).1;rw[L.size]at this;show p<=mask
  lia
 .rw[E];simp
 .simp only[aAn,aAh,H];exact A
 unfold AY at g;dsimp only at g;rw[z1,aCa]at g;obtain⟨⟨j,i⟩,h,I⟩:=g;rw[aDl]at I;obtain⟨⟨hh,v⟩,e2,rfl⟩:=I;have ho:=(R8 L.size).mp h;have:=L.reach j i hh ho (by rw[aAE,Array.getElem?_map,e2];rfl);refine this.mono λl z9=>?_;obtain⟨r,cg⟩:=z9;show l∈(G7 mask d).map (·.1);exact aAj.mpr ⟨(l,r),(R8 L.size).mpr cg,rfl⟩
end ST
namespace TS
open PySem PyProof.Rows
abbrev tupK:Bool->SortKind:=sortPriv%PySem.Builtin.KeyKind.tuples
structure TB(f:Bool)(a5:Array Keyed)(st:SortSt):Prop where
 perm:(arrOf st).Perm a5
 kind:kindOf st=tupK f
 failed:failedOf st=none
 pend:pendingOf st=#[]
def TB.size{f:Bool}{a5:Array Keyed}{st:SortSt}(h:TB f a5 st):(arrOf st).size=a5.size:=h.perm.size_eq
def TB.setArr{f:Bool}{a5:Array Keyed}{st:SortSt}(h:TB f a5 st){Y:Array Keyed}(a:Y.Perm (arrOf st)):TB f a5 (PyProof.Rows.setArr st Y):=
 ⟨a.trans h.perm,h.kind,h.failed,h.pend⟩
def YV(f:Bool)(A:cf)(s:ba)(κ:KeyKind):Prop:=
 ∀(d:bM) (w:cp) (E:F8) (x y:au) (a b:κ.α) {Q:yJ},
  κ.keyOf x=some a->κ.keyOf y=some b->Q (κ.blt a b) s->a9 (be d w) A (keyLt' (tupK f) x y) Q E s
def TB.atK{f:Bool}{κ:KeyKind}{a5:Array Keyed}{st:SortSt}(h:TB f a5 st)(h0:KeysOf κ a5){i:Nat}(d:i<a5.size):∃x p a,(arrOf st)[i]?=some (x,p)/\κ.keyOf x=some a/\KK κ (arrOf st) i=a:=by
 have g:i<(arrOf st).size:=by rw[h.size];exact d
 obtain⟨a,b⟩:=h0 _ ((aEQ.mp h.perm).mem_iff.mp (show(arrOf st)[i]∈(arrOf st).toList by simp));have e:(arrOf st)[i]?=some (arrOf st)[i]:=getElem?_pos _ i g;exact⟨(arrOf st)[i].1,(arrOf st)[i].2,a,by rw[e],b,by unfold KK;rw[e];simp[b]⟩
section
def ltT(f:Bool){prog:bM}{w:cp}{A:cf}{E:F8}{s:ba}{a5:Array Keyed}{κ:KeyKind}{st:SortSt}{i j:Nat}{Q:Option Bool->SortSt->Prop}(e:YV f A s κ)(d:TB f a5 st)(h0:KeysOf κ a5)(g:i<a5.size)(k:j<a5.size)
  (h:Q (some (κ.blt (KK κ (arrOf st) i) (KK κ (arrOf st) j))) st):wpS (be prog w) A E s (ltAt' i j) Q st:=by
 obtain⟨x,p,a,l,m,n⟩:=d.atK h0 g;obtain⟨y,q,b,o,r,t⟩:=d.atK h0 k;rw[n,t]at h;rw[ltAt'_eq];refine aBz (wpS_get ?_);show wpS _ _ _ _ (do let x<-elem' (arrOf st) i;let y<-elem' (arrOf st) j;lt' x y) Q st;rw[elem'_eq,elem'_eq,l,o];refine aBz (aCp<|aBz<|aCp ?_);rw[lt'_eq];refine aBz (wpS_get ?_);rw[d.kind];refine aBz (wpS_lift<|aEx<|e prog w _ x y a b m r ⟨rfl,?_⟩);exact aCp h
def up1(S:SortedToK κ Y x)(h:1<=x->κ.kle (KK κ Y (x-1)) (KK κ Y x)):SortedToK κ Y (x+1):=λi j a b=>by
 rcases aDq (aFn b)with d|rfl
 .exact S i j a d
 rcases aDq a with e|rfl
 .exact KeyOrd.kle_trans (S i (j-1) (by lia) (by lia)) (h (by lia))
 exact KeyOrd.kle_refl _
def dn1(S:NonIncK κ Y x)(h:1<=x->κ.kle (KK κ Y x) (KK κ Y (x-1))):NonIncK κ Y (x+1):=λi j a b=>by
 rcases aDq (aFn b)with d|rfl
 .exact S i j a d
 rcases aDq a with e|rfl
 .exact KeyOrd.kle_trans (h (by lia)) (S i (j-1) (by lia) (by lia))
 exact KeyOrd.kle_refl _
def OT(S:NonIncK κ Y x)(e:∀k,KK κ a k=KK κ Y k):NonIncK κ a x:=λi j b d=>by rw[e,e];exact S i j b d
def DE(κ:KeyKind)(Y:Array Keyed)(x c:Nat):Prop:=c+1<=x/\∀k,x-(c+1)<=k->k<x->KK κ Y k=KK κ Y (x-1)
def DE.one(h:1<=x):DE κ Y x 0:=⟨h,λk a b=>by rw[show k=x-1 by lia]⟩
variable{st:SortSt}
def NQ(i:YV f A s κ)(h0:KeysOf κ a5)(l:m<=a5.size)(B:TB f a5 st)(o:1<=a)(b:a<=m)(S:SortedToK κ (arrOf st) a){Q:AscSt->SortSt->Prop}(q:∀n,a<=n->n<=m->SortedToK κ (arrOf st) n->(n<m->κ.klt (KK κ (arrOf st) n) (KK κ (arrOf st) (n-1)))->Q (none,n) st):wpS (be prog w) A E s (ascLoop a m) Q st:=by
 refine aEk (I:=λn r t=>t=st/\r=(none,n)/\SortedToK κ (arrOf st) n) (λn r t j l2 k=>?_) (λr t ⟨g,h,d⟩=>?_) ⟨rfl,rfl,S⟩
 .obtain⟨g,h,d⟩:=k;subst g h;refine aBz (ltT f i B h0 (by lia) (by lia) ?_);cases z:κ.blt (KK κ (arrOf t) n) (KK κ (arrOf t)<|n-1)with
  |true=>exact aCp (q n j (by lia) d λ_=>z)
  |false=>exact aCp ⟨rfl,rfl,up1 d λ_=>z⟩
 subst g h;have e:max a m=m:=Nat.max_eq_right b;rw[e]at d⊢;exact q m b (aAl _) d λz=>absurd z (aBr _)
abbrev Told(f:Bool)(κ:KeyKind)(a5:Array Keyed)(m:Nat)(Q:Option Nat->SortSt->Prop):Prop:=∀n t,TB f a5 t->1<=n->n<=m->SortedToK κ (arrOf t) n->Q (some n) t
def yB(g:YV f A s κ)(h0:KeysOf κ a5)(a:m<=a5.size)(B:TB f a5 st)(b:1<=n)(d:n<=m)(S:NonIncK κ (arrOf st) n){Q:Option Nat->SortSt->Prop}(q:Told f κ a5 m Q):
  wpS (be prog w) A E s (tail3 n m) Q st:=by
 have B2:=B.setArr (aGk (arrOf st) 0 n<|(n-0)/2);have h:n<=(arrOf st).size:=by rw[B.size];exact aAp d a
 refine aBz (aGl<|aBz<|NQ g h0 a B2 b d (λi j u l=>?_) λk o p r _=>aCp (q k _ B2 (aAp b o) p r));have e:∀k,k<n->KK κ (arrOf<|setArr st<|mirror (arrOf st) 0 n<|(n-0)/2) k=KK κ (arrOf st) (0+n-1-k):=λk t=>(KK_mirror h k).trans (hV ⟨aAY _,t⟩);rw[e i (by lia),e j l];exact S _ _ (by lia) (by lia)
def QL(g:YV f A s κ)(h0:KeysOf κ a5)(C:m<=a5.size)(B:TB f a5 st)(h:1<=n)(j:n<=m)(S:NonIncK κ (arrOf st) n){Q:DescSt->SortSt->Prop}(q:∀k c t,TB f a5 t->1<=k->k<=m->NonIncK κ (arrOf t) k->DE κ (arrOf t) k c->Q (none,k,c) t):wpS (be prog w) A E s (descLoop n m) Q st:=by
 refine aEk (I:=λk r t=>∃c,r=(none,k,c)/\TB f a5 t/\NonIncK κ (arrOf t) k/\DE κ (arrOf t) k c) (λk r t H l2 p=>?_) (λr t ⟨c,e,a,d,b⟩=>?_) ⟨0,rfl,B,S,DE.one h⟩
 .obtain⟨c,e,a,d,b⟩:=p;subst e;have u:k<=(arrOf t).size:=by rw[a.size];lia
  dsimp only;refine aBz (ltT f g a h0 (by lia) (by lia) ?_);cases z:κ.blt (KK κ (arrOf t) k) (KK κ (arrOf t)<|k-1)with
  |true=>
   have l:NonIncK κ (arrOf t) (k+1):=dn1 d λ_=>KeyOrd.kle_of_klt z;show wpS _ _ _ _ (if c>0 then _ else _) _ t;by_cases o:c>0
   .rw[hV o];exact aBz (aGl (aCp ⟨0,rfl,a.setArr (aGk _ _ _ _),OT l (aFR u b.2),DE.one (by lia)⟩))
   rw[h9 o];exact aCp ⟨0,rfl,a,l,DE.one (by lia)⟩
  |false=>
   dsimp only;simp only[aAv,if_false];refine aBz (ltT f g a h0 (by lia) (by lia) ?_);cases v:κ.blt (KK κ (arrOf t)<|k-1) (KK κ (arrOf t) k)with
   |true=>exact aCp (q k c t a (by lia) (by lia) d b)
   |false=>
    have e:KK κ (arrOf t) k=KK κ (arrOf t) (k-1):=KeyOrd.kle_antisymm v z;refine aCp ⟨c+1,rfl,a,dn1 d λ_=>by rw[e];exact KeyOrd.kle_refl _,by have:=b.1;lia,λi J x=>?_⟩;show KK κ (arrOf t) i=KK κ (arrOf t) k;rcases aDq (aFn x)with y|rfl
    .rw[e];exact b.2 i (by lia) y
    rfl
 subst e;have e:max n m=m:=Nat.max_eq_right j;rw[e]at d b⊢;exact q m c t a (aAp h j) (aAl _) d b
def yU(a:YV f A s κ)(h0:KeysOf κ a5)(b:m<=a5.size)(B:TB f a5 st)(j:n+1<=m)(S:NonIncK κ (arrOf st) (n+1)){Q:Option Nat->SortSt->Prop}(q:Told f κ a5 m Q):
  wpS (be prog w) A E s (descPart n m) Q st:=by
 refine aBz (wpS_lift<|aDA ⟨rfl,aBz (QL a h0 b B (aGH n) j S λk c t d e g h l=>?_)⟩);have o:k<=(arrOf t).size:=by rw[d.size];lia
 show wpS _ _ _ _ (if c>0 then _ else _) _ t;by_cases i:c>0
 .rw[hV i];exact aBz (aGl<|yB a h0 b (d.setArr<|aGk _ _ _ _) e g (OT h<|aFR o l.2) q)
 rw[h9 i];exact yB a h0 b d e g h q
def KY(a:YV f A s κ)(h0:KeysOf κ a5)(b:m<=a5.size)(l:1<=m)(B:TB f a5 st){Q:Option Nat->SortSt->Prop}(q:Told f κ a5 m Q):wpS (be prog w) A E s (countRun' 0 m) Q st:=by
 rw[countRun0_eq];refine aBz (NQ a h0 b B (aAl 1) l (up1 (λ_ _ _ z=>absurd z (aFS _)) λz=>absurd z (by decide)) λn d e S o=>?_);show wpS _ _ _ _ (if(n==m)=true then _ else _) _ st;by_cases g:n=m
 .rw[hV (beq_iff_eq.mpr g)];exact aCp (q n st B d e S)
 rw[h9 λz=>g (beq_iff_eq.mp z)];have lt:=o (by lia);by_cases h:n>1
 .rw[hV h];refine aBz (ltT f a B h0 (by lia) (by lia) ?_);cases z:κ.blt (KK κ (arrOf st) 0) (KK κ (arrOf st)<|n-1)with
  |true=>exact aCp (q n st B d e S)
  |false=>
   have p:n<=(arrOf st).size:=by rw[B.size];lia
   have same:∀k,0<=k->k<n->KK κ (arrOf st) k=KK κ (arrOf st) (n-1):=λk _ r=>KeyOrd.kle_antisymm (S k (n-1) (by lia) (by lia)) (KeyOrd.kle_trans z<|S 0 k (aAY _) r);have t:NonIncK κ (arrOf st) n:=λi j v u=>by rw[same i (aAY _) (by lia),same j (aAY _) u];exact KeyOrd.kle_refl _
   exact aBz (aGl (yU a h0 b (B.setArr<|aGk _ _ _ _) (by lia) (OT (dn1 t λ_=>KeyOrd.kle_of_klt lt)<|aFR p same) q))
 rw[h9 h];obtain rfl:n=1:=by lia
 exact yU a h0 b B (by lia) (dn1 (dn1 (λ_ _ _ z=>absurd z (aFS _)) λz=>absurd z (by decide)) λ_=>KeyOrd.kle_of_klt lt) q
def qD(hO:YV f A s κ)(h0:KeysOf κ a5)(hn:n<=a5.size)(hk:k<=n)(B:TB f a5 st)(S:SortedToK κ (arrOf st) k){Q:Bool->SortSt->Prop}(q:∀t,TB f a5 t->SortedToK κ (arrOf t) n->Q true t):
  wpS (be prog w) A E s (binarySort' 0 n k) Q st:=by
 rw[binarySort'_eq];simp only[aFP];have S0:SortedToK κ (arrOf st) (min (max k 1) n):=λi j H N=>by
  rcases Nat.eq_or_lt_of_le H with rfl|ah
  .exact KeyOrd.kle_refl _
  exact S i j H (by lia)
 refine aBz (wpS_mono (Q:=λr t=>r=(none,())/\TB f a5 t/\SortedToK κ (arrOf t) n) (aEk (I:=λx r t=>r=(none,())/\TB f a5 t/\SortedToK κ (arrOf t) (min x n)) (λx r t l1 l2 ⟨e,h,g⟩=>?step) (λr t ⟨e,h,g⟩=>⟨e,h,?fin⟩) ⟨rfl,B,S0⟩) λr t ⟨e,h,g⟩=>?post)
 case step=>
  subst e;rw[aFT (aDw l2)]at g;have O:x<a5.size:=by lia
  let p (l:Nat):Prop:=∀i,i<l->κ.kle (KK κ (arrOf t) i) (KK κ (arrOf t) x)
  let Top (r:Nat):Prop:=∀i,r<=i->i<x->κ.klt (KK κ (arrOf t) x) (KK κ (arrOf t) i)
  refine aBz (wpS_mono (Q:=λd u=>u=t/\∃l r,d=(none,l,r)/\l<=x/\p l/\Top l) (aEk (I:=λy d u=>u=t/\∃l r,d=(none,l,r)/\l<=r/\r<=x/\r-l<=x-y/\p l/\Top r) (λy d u _ y2 ⟨e,l,r,v,T,J,L,lo,o⟩=>?istep) (λd u ⟨e,l,r,v,T,J,L,lo,o⟩=>?ifin)
   ⟨rfl,0,x,rfl,aAY _,aAl _,aAl _,λ_ z=>absurd z (aFS _),λi a b=>absurd (aCv a b) (aBr _)⟩) λd u ⟨e,l,r,v,lx,lo,o⟩=>?ipost)
  case istep=>
   subst e v;show wpS _ _ _ _ (if l>=r then _ else _) _ u;by_cases m:l>=r
   .rw[hV m];obtain rfl:l=r:=aFN T m;exact aCp ⟨rfl,l,l,rfl,J,lo,o⟩
   rw[h9 m];dsimp only;refine aBz (ltT f hO h h0 O (by lia) ?_);cases z:κ.blt (KK κ (arrOf u) x) (KK κ (arrOf u)<|(l+r)/2)with
   |true=>exact aCp ⟨rfl,l,(l+r)/2,rfl,by lia,by lia,by lia,lo,λi a b=>KeyOrd.klt_of_klt_of_kle z (g _ i a b)⟩
   |false=>exact aCp ⟨rfl,(l+r)/2+1,r,rfl,by lia,by lia,by lia,λi a=>KeyOrd.kle_trans (g i ((l+r)/2) (by lia) (by lia)) z,o⟩
  case ifin=>
   subst e v;obtain rfl:l=r:=by lia
   exact⟨rfl,l,l,rfl,J,lo,o⟩
  case ipost=>
   subst e v;have hz:x<(arrOf u).size:=by rw[h.size];exact O
   show wpS _ _ _ _ (do moveDown' x l;pure (aCr (none,()))) _ u;rw[moveDown'_eq];refine aBz (wpS_modify<|aCp ⟨rfl,h.setArr (bubble_perm _ _ _),λi j H N=>?_⟩);have e:∀k,KK κ (arrOf<|setArr u<|bubble (arrOf u) x<|x-l) k=if k=l then KK κ (arrOf u) x else if l<k/\k<=x then KK κ (arrOf u) (k-1)else KK κ (arrOf u) k:=λk=>by have:=KK_bubble (κ:=κ) hz (Nat.sub_le x l) k;rw[show x-(x-l)=l by lia]at this;exact this
   have N:j<x+1:=by lia
   rw[e,e];by_cases U:i=l
   .rw[hV U];by_cases C:j=l
    .rw[hV C];exact KeyOrd.kle_refl _
    rw[h9 C,hV ⟨by lia,by lia⟩];exact KeyOrd.kle_of_klt (o _ (by lia) (by lia))
   rw[h9 U];by_cases C:j=l
   .rw[hV C,h9 λz=>by lia];exact lo i (by lia)
   rw[h9 C];by_cases Y:l<i/\i<=x
   .rw[hV Y,hV ⟨by lia,by lia⟩];exact g _ _ (by lia) (by lia)
   rw[h9 Y];by_cases c4:l<j/\j<=x
   .rw[hV c4];exact g _ _ (by lia) (by lia)
   rw[h9 c4];exact g _ _ H (by lia)
 case fin=>rw[show min (max (max k 1) n) n=n by lia]at g;exact g
 case post=>subst e;exact aCp (q t h g)
def nI(f:Bool)(g:YV f A s κ)(h0:KeysOf κ a5)(B:TB f a5 st)(p:2<=a5.size)(b:a5.size<64){Q:Unit->SortSt->Prop}(q:∀t,(arrOf t).Perm a5->failedOf t=none->SortedToK κ (arrOf t) a5.size->Q () t):wpS (be prog w) A E s sortRuns' Q st:=by
 have k:minRun' a5.size a5.size 0=a5.size:=by
  generalize y:a5.size=N at*
  cases N with
  |zero=>lia
  |succ N=>rw[minRun'_succ,hV b]
 let VM (t:SortSt):Prop:=(arrOf t).Perm a5/\failedOf t=none/\pendingOf t=#[(0,a5.size,0)]/\SortedToK κ (arrOf t) a5.size
 have done:∀t,TB f a5 t->SortedToK κ (arrOf t) a5.size->VM (setPending t<|(pendingOf t).push (0,a5.size,0)):=λt a l=>⟨a.perm,a.failed,(ip (·.push (0,a5.size,0)) a.pend),l⟩;rw[sortRuns'_eq];refine aBz (wpS_get ?_);dsimp only;simp only[B.size,k];refine aBz (wpS_mono (Q:=λr t=>r=(none,a5.size)/\VM t) (aEk (I:=λx r t=>(x=0/\r=(none,0)/\TB f a5 t)\/(0<x/\r=(none,a5.size)/\VM t)) (λx r t _ l2 I=>?step) (λr t I=>?fin)<|.inl ⟨rfl,rfl,B⟩) λr t ⟨e,D⟩=>?post)
 case step=>
  rcases I with⟨rfl,rfl,a⟩|⟨C,rfl,D⟩
  .show wpS _ _ _ _ (if 0>=a5.size then _ else _) _ t;rw[h9 (by lia)];simp only[Nat.sub_zero,Nat.min_self,aFP];have fin:∀u,TB f a5 u->(pendingOf u).back?=none:=λu B2=>by rw[B2.pend];rfl
   refine aBz (KY g h0 (aAl _) (by lia) a λn u B2 H m h=>?_);show wpS _ _ _ _ (if n<a5.size then _ else _) _ u;by_cases i:n<a5.size
   .rw[hV i];refine aBz (wpS_lift<|aDA ⟨rfl,aBz (qD g h0 (aAl _) m B2 h λv j o=>?_)⟩);simp only[aDB,aAv,if_false];refine aBz (wpS_get ?_);rw[fin v j];exact aBz (wpS_modify<|aCp<|.inr ⟨aGH _,rfl,done v j o⟩)
   rw[h9 i];obtain rfl:n=a5.size:=by lia
   refine aBz (wpS_get ?_);rw[fin u B2];exact aBz (wpS_modify<|aCp<|.inr ⟨aGH _,rfl,done u B2 h⟩)
  show wpS _ _ _ _ (if a5.size>=a5.size then _ else _) _ t;rw[hV (aAl _)];exact aCp ⟨rfl,D⟩
 case fin=>
  rcases I with⟨z,_⟩|⟨_,e,D⟩
  .lia
  exact⟨e,D⟩
 case post=>
  subst e;refine aBz (wpS_mono (Q:=λr u=>u=t/\r=(none,())) (aEk (I:=λ_ r u=>u=t/\r=(none,())) (λ_ r u _ _ ⟨e,d⟩=>?istep) (λ_ _ z=>z) ⟨rfl,rfl⟩) λr u ⟨e,d⟩=>?ipost)
  case istep=>subst e d;refine aBz (wpS_get ?_);rw[hV (by rw[D.2.2.1];exact aAl 1)];exact aCp ⟨rfl,rfl⟩
  case ipost=>subst e d;exact aCp (q _ D.1 D.2.1 D.2.2.2)
end
section
def Bar(a:bc)(s d:ba):Prop:=∀b o,b≠a->s.heap.get? b=some o->d.heap.get? b=some o
def AH{P:Fin->ba->Prop}(q:s.heap.get? a=some (seqObj "list" L.toArray n))(h0:KeysOf κ (pairsOf L))(y:∀k,Bar a s k->YV f A k κ)(t:2<=L.length->∀k,Bar a s k->∀{Q:SortKind->ba->Prop},Q (tupK f) k->a9 (be prog w) A (keyKind' L.toArray) Q E k)(u:L.length<64)(h:∀d:SortSt,(arrOf d).Perm (pairsOf L)->SortedToK κ (arrOf d) (pairsOf L).size->P (.done (.ret .none)) {s with heap:=sortedHeap s.heap a L ((arrOf d).map (·.2))}):
  a9 (be prog w) A (Builtin.«list.sort» ⟨[.ref a],[]⟩) P E s:=by
 rw[list_sort_plain];have z:a<s.heap.objs.size:=aAg q;refine aAa (aEm q rfl ?_);refine aAa (listUpdate_at q rfl ?_);obtain⟨v,l⟩:∃v,(s.heap.update a<|aBI λ_=>#[]).get? a=some (seqObj "list" #[] v):=⟨_,get?_update_seq q _⟩;refine aAa (seqEpoch_at l rfl<|aAa<|aGh<|aAa<|wpAny_newList<|aAW ?_);have B:a≠(s.heap.update a<|aBI λ_=>#[]).objs.size:=by rw[Heap.size_update];exact aAm z
 have m:Bar a s {s with heap:=((s.heap.update a<|aBI λ_=>#[]).push (seqObj "tuple" L.toArray 0)).push (seqObj "list" #[] 0)}:=λb o C e=>aAc _ (aAc _<|(aAF _ _<|aBY C).trans e)
 have g:(((s.heap.update a<|aBI λ_=>#[]).push (seqObj "tuple" L.toArray 0)).push (seqObj "list" #[] 0)).get? a=some (seqObj "list" #[] v):=aAc _ (aAc _ l);show a9 (be prog w) A _ P E {s with heap:=((s.heap.update a<|aBI λ_=>#[]).push (seqObj "tuple" L.toArray 0)).push (seqObj "list" #[] 0)};dsimp only;have U:L.toArray.size=L.length:=by simp
 have p:=h;by_cases r:L.toArray.size<2
 .rw[hV r,hV r];refine aAa (aAb ?_);rw[StateT.run_pure];refine aAa (aAb ?_);dsimp only;refine aAa (seqEpoch_at g rfl (aAa (listUpdate_at g rfl ?_ (hsz2:=by rw[Array.size_map];show(pairsOf L).size<=_;rw[aEW,aFu];lia))));simp only[bne_self_eq_false,aAv,if_false];refine aAb (p (SortSt.mk' general' (L.toArray.zip L.toArray) #[] 7 none) (aGK _) λi j Y H=>?_);have:i=j:=by rw[aEW]at H;lia
  subst this;exact KeyOrd.kle_refl _
 rw[h9 r,h9 r];refine aAa (t (by lia) _ m ?_);refine aAa (aCL (nI f (κ:=κ) (y _ m) (a5:=pairsOf L) (st:=SortSt.mk' (tupK f) (L.toArray.zip L.toArray) #[] 7 none) (Q:=λ_ d=>(arrOf d).Perm (pairsOf L)/\failedOf d=none/\SortedToK κ (arrOf d) (pairsOf L).size)
  h0 ⟨aGK _,rfl,rfl,rfl⟩ (by rw[aEW];lia) (by rw[aEW];exact u) λd I J N=>⟨I,J,N⟩) ?_ λ_ _ e=>e)
 rintro⟨⟨⟩,d⟩ s' ⟨rfl,x,O,T⟩;dsimp only;refine aAa (seqEpoch_at g rfl (aAa (listUpdate_at g rfl ?_ (hsz2:=by refine aAp (aEn<|(Array.size_map ..).trans (x.size_eq.trans<|aEW _)) ?_;rw[aFu];lia))));rw[O];simp only[bne_self_eq_false,aAv,if_false];exact aAb (p d x T)
end
end TS
namespace L2
open PySem PySem.Spec PyProof.Rows
abbrev zM:=Sum Int Str
def QJ:zM->au->Bool
 |.inl k,v=>Value.isInt k v
 |.inr x,v=>Value.isStrOf x v
def a4s(w:cp):zM->Int
 |.inl k=>hashInt k
 |.inr x=>hashStr w x
theorem C0:∀{k:zM}{v:au},QJ k v=true->(∃i t,k=aGx i/\v=aGL i t)\/(∃x t,k=aGy x/\v=Value.str x t)
 |.inl i,v,h=>by obtain⟨t,e⟩:=Value.isInt_shape (k:=i) (v:=v) h;exact .inl ⟨i,t,rfl,e⟩
 |.inr x,v,h=>by obtain⟨t,e⟩:=Value.isStrOf_shape (x:=x) (v:=v) h;exact .inr ⟨x,t,rfl,e⟩
def zk(a b:Int):decide ((aGx a:zM)=aGx b)=(a==b):=by
 by_cases e:a=b
 .subst e;simp
 have h:¬(aGx a:zM)=aGx b:=λq=>e (Sum.inl.inj q);rw[decide_eq_false h];exact(beq_eq_false_iff_ne.mpr e).symm
def tw(a b:Str):decide ((aGy a:zM)=aGy b)=decide (a=b):=by
 by_cases e:a=b
 .subst e;simp
 have h:¬(aGy a:zM)=aGy b:=λq=>e (Sum.inr.inj q);rw[decide_eq_false h,decide_eq_false e]
def kw(a:Int)(b:Str):decide ((aGx a:zM)=aGy b)=false:=decide_eq_false (λq=>nomatch q)
def cw(a:Str)(b:Int):decide ((aGy a:zM)=aGx b)=false:=decide_eq_false (λq=>nomatch q)
def wQ(prog:bM)(w:cp):PySem.KeyKind prog w zM where
 is:=QJ
 hash:=a4s w
 inj:=λv a b l g=>by
  rcases C0 l with⟨i,t,rfl,rfl⟩|⟨x,t,rfl,rfl⟩
  .rcases C0 g with⟨j,u,rfl,e⟩|⟨y,u,rfl,e⟩
   .injection e with d _;rw[d]
   exact nomatch e
  rcases C0 g with⟨j,u,rfl,e⟩|⟨y,u,rfl,e⟩
  .exact nomatch e
  injection e with d _;rw[d]
 byValue:=λk v h=>by rcases C0 h with⟨i,t,rfl,rfl⟩|⟨x,t,rfl,rfl⟩<;>rfl
 pyHash:=λf h=>by
  rcases C0 f with⟨i,t,rfl,rfl⟩|⟨x,t,rfl,rfl⟩
  .exact wpAny_pyHash_int h
  exact wpAny_pyHash_str h
 eqBool:=λm f h=>by
  rcases C0 m with⟨i,t,rfl,rfl⟩|⟨x,t,rfl,rfl⟩
  .rcases C0 f with⟨j,u,rfl,rfl⟩|⟨y,u,rfl,rfl⟩
   .rw[zk]at h;exact wpAny_eqBool_int h
   rw[kw]at h;exact aGp i t y u _ _ _ _ h
  rcases C0 f with⟨j,u,rfl,rfl⟩|⟨y,u,rfl,rfl⟩
  .rw[cw]at h;exact aGq x t j u _ _ _ _ h
  rw[tw]at h;exact wpAny_eqBool_str h
 «strs»:=λk x t v h=>by
  rcases C0 h with⟨i,u,rfl,e⟩|⟨y,u,rfl,e⟩
  .exact nomatch e
  injection e with d _;subst d;cases v<;>rfl
def pz(prog:bM)(w:cp)(k:zM)(v:au):(wQ prog w).is k v=QJ k v:=rfl
inductive V where
 |non|bl (b:Bool)|int (i:Int)|str (x:Str)|byt (b:Array UInt8)|flt (b:UInt64)|ref (a:Addr)|ty (n:String)
 deriving DecidableEq
def RelV:V->au->Prop
 |.non,u=>u=Value.none
 |.bl b,u=>u=aDC b
 |.int i,u=>∃t,u=aGL i t
 |.str x,u=>∃t,u=Value.str x t
 |.byt b,u=>∃t,u=Value.bytes b t
 |.flt b,u=>∃t,u=Value.float b t
 |.ref a,u=>u=aDJ a
 |.ty n,u=>u=aCw n
abbrev l7:List V->List au->Prop:=Paired RelV
def l7.length{Y:List V}{a:List au}(r:l7 Y a):Y.length=a.length:=Paired.length r
theorem l7.get:∀{Y:List V}{a:List au}{i:Nat}{x:V},l7 Y a->Y[i]?=some x->∃u,a[i]?=some u/\RelV x u
 |_,_,_,_,.nil,e=>by simp at e
 |_,_,0,_,.cons r _,e=>by simp at e;subst e;exact⟨_,rfl,r⟩
 |_,_,i+1,x,.cons _ t,e=>by obtain⟨u,b,d⟩:=l7.get (i:=i) (x:=x) t (by simpa using e);exact⟨u,by simpa using b,d⟩
theorem l7.set(r:RelV x u):∀{Y:List V}{a:List au} (i:Nat),l7 Y a->l7 (Y.set i x) (a.set i u)
 |_,_,_,.nil=>.nil
 |_,_,0,.cons _ t=>.cons r t
 |_,_,i+1,.cons q t=>.cons q (l7.set r i t)
theorem l7.append:∀{Y a:List V}{b ws:List au},l7 Y b->l7 a ws->l7 (Y++a) (b++ws)
 |_,_,_,_,.nil,s=>s
 |_,_,_,_,.cons r t,s=>.cons r (l7.append t s)
theorem l7.take:∀{Y:List V}{a:List au} (n:Nat),l7 Y a->l7 (Y.take n) (a.take n)
 |_,_,0,_=>.nil
 |_,_,_+1,.nil=>.nil
 |_,_,n+1,.cons r t=>.cons r (l7.take n t)
theorem l7.drop:∀{Y:List V}{a:List au} (n:Nat),l7 Y a->l7 (Y.drop n) (a.drop n)
 |_,_,0,r=>r
 |_,_,_+1,.nil=>.nil
 |_,_,n+1,.cons _ t=>l7.drop n t
def a1i:Option V->Option au->Prop
 |some v,some u=>RelV v u
 |none,none=>True
 |_,_=>False
def KV{κ:Type}:List (κ×V)->List (κ×au)->Prop:=Paired λ(p:κ×V) (q:κ×au)=>p.1=q.1/\RelV p.2 q.2
def kV:zM->V
 |.inl i=>.int i
 |.inr x=>.str x
inductive HO where
 |lst (Y:List V)
 |tup (Y:List V)
 |dK (N:List (zM×V))|dT (N:List (List zM×V))
 |set (S:Int->Bool) (n:Nat)
 |ins (C dx:Addr) (fs:List (Str×V))
 |own (x:Addr)
 |xd (fs:List (Str×V))
 |met (f x:Addr)
 |rng (lo hi:Int)
 |frz (o:Obj) (u:HO)
 |tbl (tb:List (Pos×Str))
 |ext (φ:Heap->Prop)
abbrev Hp:=bc->Option HO
def upd(H:Hp)(a:bc)(o:HO):Hp:=λb=>if b=a then some o else H b
def j2:upd H a o a=some o:=by unfold upd;rw[hV rfl]
def l6(h:b≠a):upd H a o b=H b:=by unfold upd;rw[h9 h]
def n4{H:Hp}{a b:bc}{o:HO}(h:H a=some o)(h':H b=none):a≠b:=by intro e;subst e;rw[h]at h';cases h'
section
variable(P:bM) (w:cp)
def ObjOk(H:Hp)(h:cq)(a:bc):HO->Prop
 |.lst Y=>Y.length<=sizeLine/\∃(b:List au) (n:Nat),l7 Y b/\h.get? a=some {cls:=.type "list",data:=.seq b.toArray n}
 |.tup Y=>Y.length<=sizeLine/\∃b:List au,l7 Y b/\IsTup h a b.toArray
 |.dK N=>N.length<=sizeLine/\(a==sysModules)=false/\∃L,KV N L/\h.DictOf (wQ P w) a L
 |.dT N=>N.length<=sizeLine/\(a==sysModules)=false/\∃Y:List (List zM×bc×au),
  Paired (λ(p:List zM×V) (q:List zM×bc×au)=>p.1=q.1/\H q.2.1=some (.tup (p.1.map kV))/\RelV p.2 q.2.2) N Y/\
  ∃o i m,h.get? a=some o/\o.ExactDict/\o.data=.dict i m/\i.toList=Y.map (entryOfKey<|tupleKind<|wQ P w)/\(Y.map (·.1)).Nodup
 |.set S n=>h.SetOf (intKind P w) a S n
 |.ins C e fs=>H e=some (.own a)/\fs.length<=1000/\e≠a/\h.get? a=some (PySem.W.instObj C e)/\
  ∃d,h.Ns1 e d/\(∀f,a1i (fs.lookup f) (d f))/\PySem.Within d (fs.map (·.1))
 |.own _=>∃o,h.get? a=some o
 |.xd fs=>∃d,h.Ns1 a d/\∀f,a1i (fs.lookup f) (d f)
 |.rng lo r=>∃t u v,h.get? a=some {cls:=.type "range",data:=.fields #[.int lo t,.int r u,.int 1 v]}
 |.frz o u=>h.get? a=some o/\ObjOk H h a u
 |.tbl s=>∃g:Array au,h.get? a=some {cls:=.none,data:=.fields g}/\TriplesOk g.toList/\∀p∈s,eR p.1 g.toList=none\/∃c j L t,eR p.1 g.toList=some (.ref c)/\H c=some (.frz j (.own c))/\j.data=.fields L/\L[1]?=some (.str p.2 t)
 |.met f x=>h.get? a=some (PySem.W.methodObj (.ref f)<|.ref x)
 |.ext φ=>φ h/\(∃o,h.get? a=some o)/\∀k l:cq,φ k->(∀o,k.get? a=some o->l.get? a=some o)->φ l
def ZU:HO->Prop
 |.tup _=>True
 |.frz o _=>∃L,o.data=.fields L
 |_=>False
def fT(H:Hp)(h:cq):Prop:=∀a o,H a=some o->ObjOk P w H h a o
end
section
variable{P:bM}{w:cp}{H H':Hp}{h h':cq}{a:bc}{o:HO}
def ObjOk.lt(x:ObjOk P w H h a o):a<h.objs.size:=by
 cases o with
 |lst Y=>obtain⟨_,_,_,_,e⟩:=x;exact aAg e
 |tup Y=>obtain⟨_,_,_,p⟩:=x;exact p.lt
 |dK N=>obtain⟨_,_,_,_,o,_,_,e,_⟩:=x;exact aAg e
 |dT N=>obtain⟨_,_,_,_,o,_,_,e,_⟩:=x;exact aAg e
 |set S n=>obtain⟨o,_,_,_,e,_⟩:=x;exact aAg e
 |ins C b fs=>obtain⟨_,_,_,e,_⟩:=x;exact aAg e
 |own y=>obtain⟨_,e⟩:=x;exact aAg e
 |xd fs=>obtain⟨_,⟨_,_,_,e,_⟩,_⟩:=x;exact aAg e
 |rng lo d=>obtain⟨_,_,_,e⟩:=x;exact aAg e
 |frz g u=>obtain⟨e,_⟩:=x;exact aAg e
 |tbl i=>obtain⟨_,e,_⟩:=x;exact aAg e
 |met f y=>exact aAg (show h.get? a=some _ from x)
 |ext φ=>obtain⟨_,⟨_,e⟩,_⟩:=x;exact aAg e
theorem Paired.af3{α β:Type}{F G:α->β->Prop}:∀{l₁:List α}{l₂:List β},Paired F l₁ l₂->(∀a b,F a b->G a b)->Paired G l₁ l₂
 |_,_,.nil,_=>.nil
 |_,_,.cons r t,f=>.cons (f _ _ r) (Paired.af3 t f)
def ObjOk.ac2(x:ObjOk P w H h a o)(k:∀b u,(b=a\/H b=some (.own a))->h.get? b=some u->h'.get? b=some u)
  (I:∀b,H b=some (.own a)->H' b=some (.own a)) (B:∀b u,ZU u->H b=some u->H' b=some u):ObjOk P w H' h' a o:=by
 induction o with
 |lst Y=>obtain⟨z,l,n,r,e⟩:=x;exact⟨z,l,n,r,k _ _ (.inl rfl) e⟩
 |tup Y=>obtain⟨z,l,r,g,e,c⟩:=x;exact⟨z,l,r,g,k _ _ (.inl rfl) e,c⟩
 |dK N=>obtain⟨z,y,L,r,g,i,j,e,c⟩:=x;exact⟨z,y,L,r,g,i,j,k _ _ (.inl rfl) e,c⟩
 |dT N=>obtain⟨z,y,Y,r,g,i,j,e,c⟩:=x;exact⟨z,y,Y,Paired.af3 r λp q z=>⟨z.1,B _ _ trivial z.2.1,z.2.2⟩,g,i,j,k _ _ (.inl rfl) e,c⟩
 |set S n=>obtain⟨g,i,j,t,e,c⟩:=x;exact⟨g,i,j,t,k _ _ (.inl rfl) e,c⟩
 |ins C dx fs=>obtain⟨d,z,ne,e,m,⟨s,i,j,A,c⟩,r⟩:=x;exact⟨I _ d,z,ne,k _ _ (.inl rfl) e,m,⟨s,i,j,k _ _ (.inr d) A,c⟩,r⟩
 |own y=>obtain⟨g,e⟩:=x;exact⟨g,k _ _ (.inl rfl) e⟩
 |xd fs=>obtain⟨m,⟨s,i,j,e,c⟩,r⟩:=x;exact⟨m,⟨s,i,j,k _ _ (.inl rfl) e,c⟩,r⟩
 |rng lo hi=>obtain⟨t,u,v,e⟩:=x;exact⟨t,u,v,k _ _ (.inl rfl) e⟩
 |frz g u J=>obtain⟨e,q⟩:=x;exact⟨k _ _ (.inl rfl) e,J q⟩
 |tbl tb=>obtain⟨O,e,t,f⟩:=x;exact⟨O,k a _ (.inl rfl) e,t,λp Q=>(f p Q).imp id λ⟨c,T,L,t,U,A,E⟩=>⟨c,T,L,t,U,B _ _ ⟨L,E.1⟩ A,E⟩⟩
 |met f y=>have e:h.get? a=some (PySem.W.methodObj (.ref f)<|.ref y):=x;show h'.get? a=some (PySem.W.methodObj (.ref f)<|.ref y);exact k a _ (.inl rfl) e
 |ext φ=>obtain⟨p,⟨o,e⟩,st⟩:=x;exact⟨st _ _ p λo q=>k _ _ (.inl rfl) q,⟨o,k _ _ (.inl rfl) e⟩,st⟩
def fT.lt(x:fT P w H h)(e:H a=some o):a<h.objs.size:=(x a o e).lt
def fT.fresh(x:fT P w H h)(e:h.objs.size<=a):H a=none:=by
 cases q:H a with
 |none=>rfl
 |some u=>exact absurd (aAw (x.lt q) e) (aBr _)
def fT.kept(x:fT P w H h)(k:∀b u,h.get? b=some u->h'.get? b=some u):fT P w H h':=λa o e=>(x a o e).ac2 (λb u _ q=>k b u q) (λ_ q=>q) λ_ _ _ q=>q
def fT.laid(x:fT P w H h)(k:∀b u,h.get? b=some u->h'.get? b=some u)(i:h.objs.size<=a)(d:ObjOk P w (upd H a o) h' a o):fT P w (upd H a o) h':=λb u e=>by
 have f:=x.fresh i;by_cases g:b=a
 .subst g;rw[j2]at e;cases e;exact d
 rw[l6 g]at e;exact(x b u e).ac2 (λc v _ q=>k c v q) (λc q=>by rw[l6 (n4 q f)];exact q) λc Y _ q=>by rw[l6 (n4 q f)];exact q
end
def Rd(H:Hp)(a:bc)(u:HO):Prop:=H a=some u\/∃o,H a=some (.frz o u)
def Rd.ok(r:Rd H a u)(x:fT P w H h):ObjOk P w H h a u:=by
 rcases r with r|⟨o,r⟩
 .exact x a u r
 obtain⟨_,q⟩:=x a _ r;exact q
def Mut:Option HO->Prop
 |some (.lst _)=>True
 |some (.dK _)=>True
 |some (.dT _)=>True
 |some (.set _ _)=>True
 |some (.ins _ _ _)=>True
 |some (.ext _)=>True
 |_=>False
section
variable{P:bM}{w:cp}{H:Hp}{h h':cq}{x e:bc}{o':HO}
def fT.write(ok:fT P w H h)(g:Mut (H x))(o:e=x\/H e=some (.own x))(k:∀b u,b≠e->h.get? b=some u->h'.get? b=some u)(m:∃u,h'.get? e=some u)
  (n:ObjOk P w (upd H x o') h' x o'):fT P w (upd H x o') h':=λb u q=>by
 have a:∀c y,H c=some (.own y)->c≠x:=λc y r z=>by subst z;rw[r]at g;exact g
 have d:∀c u,ZU u->H c=some u->c≠x:=λc u f r z=>by subst z;rw[r]at g;cases u<;>first|exact g|exact f
 by_cases i:b=x
 .subst i;rw[j2]at q;cases q;exact n
 rw[l6 i]at q;by_cases j:b=e
 .have p:H b=some (.own x):=by
   rcases o with z|z
   .exact absurd (j.trans z) i
   rw[j];exact z
  rw[q]at p;cases p;obtain⟨v,s⟩:=m;exact⟨v,by rw[j];exact s⟩
 refine(ok b u q).ac2 (λc v l r=>k c v ?_ r) (λc r=>by rw[l6 (a c b r)];exact r) λc Y f r=>by rw[l6 (d c Y f r)];exact r
 rcases l with rfl|l
 .exact j
 rintro rfl;rcases o with z|z
 .exact a c b l z
 rw[l]at z;cases z;exact i rfl
end
structure Un(fs ex:List Addr)(H H':Hp)(h h':Heap):Prop where
 keep:∀b o,h.get? b=some o->H b=none->b∉fs->b∉ex->h'.get? b=some o
 slot:∀b o,h.get? b=some o->H b=none->b∈fs->b∉ex->∃sl,h'.get? b=some {o with slots:=sl}
 free:∀b o,h.get? b=some o->H b=none->b∉ex->H' b=none
 there:∀b o,h.get? b=some o->b∉ex->∃o',h'.get? b=some o'
 tups:∀b Y,H b=some (.tup Y)->H' b=some (.tup Y)
 frzs:∀b o u,H b=some (.frz o u)->H' b=some (.frz o u)
 tbls:∀b tb,H b=some (.tbl tb)->H' b=some (.tbl tb)
section
variable{fs yb ex ex':List bc}{H H1 H2:Hp}{h h1 h2 h':cq}{a x e:bc}{o:HO}
def Un.any(u:Un fs ex H H1 h h1)(q:h.get? b=some d)(n:H b=none)(f:b∉ex):∃sl,h1.get? b=some {d with slots:=sl}:=by
 by_cases g:b∈fs
 .exact u.slot b d q n g f
 exact⟨d.slots,u.keep b d q n g f⟩
def Un.kept(k:∀b u,h.get? b=some u->h'.get? b=some u):Un fs ex H H h h':=
 ⟨λb d q _ _ _=>k b d q,λb d q _ _ _=>⟨d.slots,k b d q⟩,λ_ _ _ n _=>n,λb d q _=>⟨d,k b d q⟩,λ_ _ q=>q,λ_ _ _ q=>q,λ_ _ q=>q⟩
def Un.refl:Un fs ex H H h h:=Un.kept λ_ _ q=>q
def Un.laid(k:∀b u,h.get? b=some u->h'.get? b=some u)(f:h.objs.size<=a)(d:H a=none):Un fs ex H (upd H a o) h h' where
 keep:=λb u q _ _ _=>k b u q
 slot:=λb u q _ _ _=>⟨u.slots,k b u q⟩
 free:=λb u q n _=>by rw[l6 (aAm<|aAw (aAg q) f)];exact n
 there:=λb u q _=>⟨u,k b u q⟩
 tups:=λb Y q=>by rw[l6 (n4 q d)];exact q
 frzs:=λb u Y q=>by rw[l6 (n4 q d)];exact q
 tbls:=λb g q=>by rw[l6 (n4 q d)];exact q
def Un.write(d:Mut (H x))(m:e=x\/H e=some (.own x))(k:∀b u,b≠e->h.get? b=some u->h'.get? b=some u)(f:∃u,h'.get? e=some u):Un fs ex H (upd H x o) h h':=by
 have i:∀b,H b=none->b≠x:=λb n z=>by subst z;rw[n]at d;exact d
 have j:∀b,H b=none->b≠e:=λb n z=>by
  subst z;rcases m with r|r
  .exact i b n r
  rw[n]at r;cases r
 have g:∀b u,H b=some u->¬Mut (some u)->b≠x:=λb u q p z=>by subst z;rw[q]at d;exact p d
 refine⟨λb u q n _ _=>k b u (j b n) q,λb u q n _ _=>⟨u.slots,k b u (j b n) q⟩,λb u q n _=>by rw[l6 (i b n)];exact n,λb u q _=>?_,
  λb Y q=>by rw[l6 (g b _ q λz=>z)];exact q,λb u Y q=>by rw[l6 (g b _ q λz=>z)];exact q,λb s q=>by rw[l6 (g b _ q λz=>z)];exact q⟩
 by_cases l:b=e
 .subst l;exact f
 exact⟨u,k b u l q⟩
end
def trk(h:cq)(H:Hp):List bc:=(aBc h.objs.size).filter λa=>(H a).isSome
def sG(h:cq)(H:Hp):cq:=PySem.W.hideAll h (trk h H)
def LS(h:cq)(H:Hp):(sG h H).objs.size=h.objs.size:=PySem.W.hideAll_size _ _
def PR(e:h.get? b=some o)(n:H b=none):(sG h H).get? b=some o:=
 PySem.W.hideAll_get _ e λa=>by have q:(H b).isSome=true:=(aAX.mp a).2;rw[n]at q;simp at q
def WS(e:(sG h H).get? b=some o):h.get? b=some o/\H b=none:=by
 have a:h.get? b=some o:=PySem.W.of_hideAll (trk h H) e;refine⟨a,?_⟩;cases q:H b with
 |none=>rfl
 |some x=>have d:b∈trk h H:=aAX.mpr ⟨aBa.mpr (aAg a),by simp[q]⟩;have z:(sG h H).get? b=none:=PySem.W.hideAll_none (trk h H) d;rw[z]at e;cases e
def YY(g h:cq)(L:bc):List (bc×Obj):=(aBc h.objs.size).filterMap λa=>if a=L\/(g.get? a).isSome=true then none else(h.get? a).map λo=>(a,o)
def rest(g h:cq)(L d:bc):List (bc×Obj):=(YY g h L).filter λp=>decide (p.1≠d)
structure Mod(K:PySem.W.Frag)(mg:cM)(base:Heap):Prop where
 kin:K.In base
 glob:base.Ns mainGlobals mg
 blt:∃mb,base.Ns builtinsNs mb/\∀x:Str,x≠ "__name__"->mb x=bootBuiltins x
 nolimit:base.NoLimit
structure Cx where
 prog:Program
 w:World
 K:PySem.W.Frag
 mg:Str->Option Value
 base:Heap
 A:Around
 N:List Str
 s9:Shared
 H9:Hp
 env:Env
 outer:List Env
 stack:List Env
 ex:List Addr
 fn:Str->Bool
 calm:Bool
 pn:List (Addr×Obj)
 xe:Value->Shared->Prop
def yV(l:List Env):List bc:=l.filterMap (·.frame)
abbrev Cx.fs(X:Cx):List bc:=yV X.outer
def zI(sc:gW)(x:Str):Prop:=sc.names.lookup x=some .local\/sc.names.lookup x=some .cell\/sc.names.lookup x=some .free
def Loc(sc:gW)(x:Str):Prop:=sc.names.lookup x=some .local\/sc.names.lookup x=some .cell
def Look(env:Env)(h:cq)(m:cM)(x:Str)(u:au):Prop:=
 (env.kindOf x=some .local/\m x=some u)\/((env.kindOf x=some .cell\/env.kindOf x=some .free)/\∃c,env.cells.lookup x=some c/\h.IsCell c (some u))
structure Cx.Ok(X:Cx):Prop where
 mod:Mod X.K X.mg X.base
 kind:X.env.scope.kind=.function
 glob:X.env.globals=mainGlobals
 blt:X.env.builtins=builtinsNs
 above:X.s9.heap.objs.size<=X.env.locals
 inj:∀x y c,X.env.cells.lookup x=some c->X.env.cells.lookup y=some c->x=y
 has:∀x,(X.env.kindOf x=some .cell\/X.env.kindOf x=some .free)->∃c,X.env.cells.lookup x=some c
 cab:∀x c,X.fn x=true->X.env.cells.lookup x=some c->X.s9.heap.objs.size<=c
 hd:X.calm=true->X.A.handled=none
 frames:X.A.frames=some X.stack
 stk:X.stack=X.outer\/(X.stack=X.env::X.outer/\X.env.frame=some X.env.locals)
 exf:∀b∈X.ex,b≠X.env.locals/\∀x c,X.env.cells.lookup x=some c->c≠b
 bs:∀b o,X.base.get? b=some o->X.s9.heap.get? b=some o/\X.H9 b=none
 bsz:X.base.objs.size<=X.s9.heap.objs.size
 noex:∀b o,X.base.get? b=some o->b∉X.ex
 exfs:∀b∈X.ex,b∉X.fs
 funs:X.s9.heap.FunFrames X.base X.outer
 frf:∀b∈X.fs,X.H9 b=none
structure Inv(X:Cx)(pins:P4)(σ:List (Option V))(H:Hp)(s:Shared):Prop where
 ok:X.Ok
 os:s.os=X.s9.os
 bare:AllBare s.gens
 base:Un X.fs X.ex X.H9 H X.s9.heap s.heap
 loc:∃m,s.heap.Ns X.env.locals m/\∀(i:Nat) (x:Str) (v:V),X.N[i]?=some x->σ[i]?=some (some v)->zI X.env.scope x->∃u,RelV v u/\Look X.env s.heap m x u
 cell:∀x c,X.env.cells.lookup x=some c->∃v,s.heap.IsCell c v
 free:H X.env.locals=none
 freeC:∀x c,X.env.cells.lookup x=some c->H c=none
 pin:∀p∈X.pn++pins,s.heap.get? p.1=some p.2/\H p.1=none/\p.1≠X.env.locals/\p.1∉X.fs/\∀v,p.2.data≠.cell v
 hok:fT X.prog X.w H s.heap
 len:σ.length=X.N.length
section
variable{X:Cx}{pins:P4}{σ:List (Option V)}{H H':Hp}{s:ba}{h':cq}
def Cx.Ok.nofr(ok:X.Ok)(e:X.base.get? b=some o):b∉X.fs:=λa=>by have:=(ok.funs.mem a).1;rw[e]at this;cases this
def Inv.bs(I:Inv X pins σ H s):∀b o,X.base.get? b=some o->s.heap.get? b=some o/\H b=none:=λb o e=>⟨I.base.keep b o (I.ok.bs b o e).1 (I.ok.bs b o e).2 (I.ok.nofr e) (I.ok.noex b o e),I.base.free b o (I.ok.bs b o e).1 (I.ok.bs b o e).2 (I.ok.noex b o e)⟩
def Inv.bk(I:Inv X pins σ H s):∀b o,X.base.get? b=some o->s.heap.get? b=some o:=λb o e=>(I.bs b o e).1
def Inv.mod(I:Inv X pins σ H s):Mod X.K X.mg X.base:=I.ok.mod
def Inv.kIn(I:Inv X pins σ H s):X.K.In s.heap:=I.ok.mod.kin.keeps I.bk
def Inv.lt(I:Inv X pins σ H s):X.env.locals<s.heap.objs.size:=let⟨_,a,_⟩:=I.loc;a.lt
def Inv.sz(I:Inv X pins σ H s):X.s9.heap.objs.size<=s.heap.objs.size:=aAp I.ok.above (aDw I.lt)
def Inv.ag2(I:Inv X pins σ H s)(h:s.heap.objs.size<=a):a∉X.fs:=λb=>by obtain⟨_,o,d,_⟩:=I.ok.funs.mem b;exact absurd (aAw (aAg d)<|aAp I.sz h) (aBr _)
def Inv.cne(I:Inv X pins σ H s):∀x c,X.env.cells.lookup x=some c->c≠X.env.locals:=λx c e z=>by obtain⟨v,o,a,b⟩:=I.cell x c e;obtain⟨m,⟨g,h,i,d,f,_⟩,_⟩:=I.loc;rw[z,d]at a;cases a;rw[f]at b;cases b
def Inv.funs(I:Inv X pins σ H s):s.heap.FunFrames X.base X.outer:=by
 have all:∀(l:List Env),(∀b∈yV l,b∈X.fs)->X.s9.heap.FunFrames X.base l->s.heap.FunFrames X.base l:=by
  intro l;induction l with
  |nil=>intro _ _;trivial
  |cons h r i=>intro g j;obtain⟨k,⟨L,o,a,m,n,p⟩,q⟩:=j;have d:L∈X.fs:=g L (by unfold yV;rw[aCO,a];exact aBn);obtain⟨t,e⟩:=I.base.slot L o n (I.ok.frf L d) d λz=>I.ok.exfs L z d;exact⟨k,⟨L,_,a,m,e,p⟩,i (λb f=>g b (by unfold yV;rw[aCO,a];exact aAe _ f)) q⟩
 exact all X.outer (λ_ f=>f) I.ok.funs
def Inv.stack(I:Inv X pins σ H s):s.heap.FunFrames X.base X.stack:=by
 rcases I.ok.stk with e|⟨e,a⟩
 .rw[e];exact I.funs
 rw[e];obtain⟨m,b,_⟩:=I.loc;refine .cons (by rw[I.ok.kind];decide) a b ?_ I.funs;exact aEu (aAp I.ok.bsz I.ok.above)
def Inv.ab6(I:Inv X pins σ H s):∀b∈yV X.stack,b∈X.env.locals::X.fs:=λb a=>by
 rcases I.ok.stk with e|⟨e,d⟩
 .rw[e]at a;exact aAe _ a
 rw[e]at a;unfold yV at a;rw[aCO,d]at a;exact a
def Inv.ad6(I:Inv X pins σ H s):∀b∈yV X.stack,H b=none:=λb a=>by
 rcases aAd.mp (I.ab6 b a)with e|a
 .rw[e];exact I.free
 obtain⟨_,o,d,_⟩:=I.ok.funs.mem a;exact I.base.free b o d (I.ok.frf b a) λz=>I.ok.exfs b z a
def Inv.step{g':Array GenState}{t':Nat}{d':Drawn}{ch:List bc}(I:Inv X pins σ H s)
  (E:∀b∈ch,(b∈X.ex\/X.s9.heap.objs.size<=b)/\b≠X.env.locals/\(∀x c,X.env.cells.lookup x=some c->c≠b)/\∀p∈X.pn++pins,p.1≠b)
  (g:∀b o,b≠X.env.locals->b∉X.fs->b∉ch->s.heap.get? b=some o->H b=none->h'.get? b=some o)
  (slot:∀b o,b≠X.env.locals->b∈X.fs->b∉ch->s.heap.get? b=some o->H b=none->∃sl,h'.get? b=some {o with slots:=sl}) (f:∀b o,b∉ch->s.heap.get? b=some o->H b=none->H' b=none)
  (y:∀b o,b∉ch->s.heap.get? b=some o->∃J,h'.get? b=some J)
  (L:∀b Y,H b=some (.tup Y)->H' b=some (.tup Y)) (N:∀b o u,H b=some (.frz o u)->H' b=some (.frz o u)) (O:∀b tb,H b=some (.tbl tb)->H' b=some (.tbl tb))
  (ns:∀m,s.heap.Ns X.env.locals m->h'.Ns X.env.locals m) (T:fT X.prog X.w H' h') (hg:AllBare g'):
  Inv X pins σ H' {s with heap:=h',gens:=g',drawn:=d',toks:=t'}:=by
 have Q:∀b o,X.s9.heap.get? b=some o->b≠X.env.locals:=λb o e=>aAm (aAw (aAg e) I.ok.above);have t:∀b o,X.s9.heap.get? b=some o->b∉X.ex->b∉ch:=λb o e a A=>by
  rcases(E b A).1 with z|z
  .exact a z
  exact absurd (aAw (aAg e) z) (aBr _)
 have h:∀x c,X.env.cells.lookup x=some c->∀v,s.heap.IsCell c v->h'.IsCell c v:=λx c e v ⟨o,C,U⟩=>by
  have j:c∉ch:=λz=>(E c z).2.2.1 x c e rfl;by_cases hc:c∈X.fs
  .obtain⟨sl,q⟩:=slot c o (I.cne x c e) hc j C (I.freeC x c e);exact⟨_,q,U⟩
  exact⟨o,g c o (I.cne x c e) hc j C (I.freeC x c e),U⟩
 refine⟨I.ok,I.os,hg,⟨λb o e n A a=>?_,λb o e n A a=>?_,λb o e n a=>?_,λb o e a=>?_,λb Y e=>L b Y (I.base.tups b Y e),λb o Y e=>N b o Y (I.base.frzs b o Y e),λb ps e=>?_⟩,?_,λx c e=>?_,?_,λx c e=>?_,λp hp=>?_,T,I.len⟩
 .exact g b o (Q b o e) A (t b o e a) (I.base.keep b o e n A a) (I.base.free b o e n a)
 .obtain⟨sl,B⟩:=I.base.slot b o e n A a;obtain⟨sl',e2⟩:=slot b _ (Q b o e) A (t b o e a) B (I.base.free b o e n a);exact⟨sl',e2⟩
 .obtain⟨J,B⟩:=I.base.there b o e a;exact f b J (t b o e a) B (I.base.free b o e n a)
 .obtain⟨J,B⟩:=I.base.there b o e a;exact y b J (t b o e a) B
 .exact O b ps (I.base.tbls b ps e)
 .obtain⟨m,hn,hl⟩:=I.loc;refine⟨m,ns m hn,λi x v B e2 e3=>?_⟩;obtain⟨u,r,l⟩:=hl i x v B e2 e3;refine⟨u,r,?_⟩;rcases l with l|⟨k,c,e,z⟩
  .exact .inl l
  exact .inr ⟨k,c,e,h x c e _ z⟩
 .obtain⟨v,z⟩:=I.cell x c e;exact⟨v,h x c e v z⟩
 .obtain⟨m,⟨o,_,_,C,_⟩,_⟩:=I.loc;exact f _ o (λz=>(E _ z).2.1 rfl) C I.free
 .obtain⟨v,o,C,U⟩:=I.cell x c e;exact f c o (λz=>(E c z).2.2.1 x c e rfl) C (I.freeC x c e)
 obtain⟨e,n,ne,nf,d⟩:=I.pin p hp;have j:p.1∉ch:=λz=>(E p.1 z).2.2.2 p hp rfl;exact⟨g p.1 p.2 ne nf j e n,f p.1 p.2 j e n,ne,nf,d⟩
def Inv.un{t':Nat}(I:Inv X pins σ H s)(u:Un X.fs [] H H' s.heap h')(a:fT X.prog X.w H' h'):Inv X pins σ H' {s with heap:=h',toks:=t'}:=by
 obtain⟨m,⟨o,p,q,h,r⟩,_⟩:=id I.loc;obtain⟨t,j⟩:=u.any h I.free (by simp);exact I.step (g':=s.gens) (d':=s.drawn) (ch:=[]) (λ_ z=>nomatch z) (λb o _ d _ e n=>u.keep b o e n d (by simp)) (λb o _ d _ e n=>u.slot b o e n d (by simp)) (λb o _ e n=>u.free b o e n (by simp)) (λb o _ e=>u.there b o e (by simp)) u.tups u.frzs u.tbls (λv k=>by obtain⟨x,f,g,i,l⟩:=k;rw[h]at i;cases i;exact⟨_,f,g,j,l⟩) a I.bare
def Inv.call{g':Array GenState}{t':Nat}{d':Drawn}{ch:List bc}(I:Inv X pins σ H s)(u:Un (yV X.stack) ch H H' s.heap h')(d:fT X.prog X.w H' h')(l:AllBare g')
  (i:∀b∈ch,(b∈X.ex\/X.s9.heap.objs.size<=b)/\b≠X.env.locals/\(∀x c,X.env.cells.lookup x=some c->c≠b)/\∀p∈X.pn++pins,p.1≠b):
  Inv X pins σ H' {s with heap:=h',gens:=g',drawn:=d',toks:=t'}:=by
 obtain⟨m,⟨o,y,A,j,r⟩,_⟩:=id I.loc;obtain⟨B,f⟩:=u.any j I.free λz=>(i _ z).2.1 rfl;exact I.step (ch:=ch) i (λb o f q a e n=>u.keep b o e n (λz=>(aAd.mp<|I.ab6 b z).elim f q) a) (λb o _ _ a e n=>u.any e n a) (λb o a e n=>u.free b o e n a) (λb o a e=>u.there b o e a) u.tups u.frzs u.tbls (λC t=>by obtain⟨E,g,h,k,v⟩:=t;rw[j]at k;cases k;exact⟨_,g,h,f,v⟩) d l
def Inv.turned{t':Nat}{it:bc}(I:Inv X pins σ H s)(k:∀b o,b≠it->s.heap.get? b=some o->h'.get? b=some o)(g:H it=none)(f:it≠X.env.locals)
  (h:it∈X.ex\/X.s9.heap.objs.size<=it) (i:∀x c,X.env.cells.lookup x=some c->c≠it) (j:∀p∈X.pn++pins,p.1≠it):Inv X pins σ H {s with heap:=h',toks:=t'}:=by
 have d:∀b u,H b=some u->b≠it:=λb u e z=>by rw[z,g]at e;cases e
 refine I.step (g':=s.gens) (d':=s.drawn) (ch:=[it]) (λb l=>?_) (λb o _ _ a e _=>k b o (λz=>a (by simp[z])) e) (λb o _ _ a e _=>⟨o.slots,k b o (λz=>a (by simp[z])) e⟩) (λ_ _ _ _ n=>n)
  (λb o a e=>⟨o,k b o (λz=>a (by simp[z])) e⟩) (λ_ _ e=>e) (λ_ _ _ e=>e) (λ_ _ e=>e) (λm t=>?_) (λb u e=>?_) I.bare
 .have e:b=it:=by simpa using l
  subst e;exact⟨h,f,i,j⟩
 .obtain⟨o,w,y,A,r⟩:=t;exact⟨o,w,y,k _ o (aBY f) A,r⟩
 refine(I.hok b u e).ac2 (λc v a q=>k c v ?_ q) (λ_ q=>q) λ_ _ _ q=>q;rcases a with z|z
 .rw[z];exact d b u e
 exact d c _ z
def Inv.tok(I:Inv X pins σ H s)(t:Nat):Inv X pins σ H {s with toks:=t}:=I.un (h':=s.heap) (t':=t) Un.refl I.hok
def Inv.kept(I:Inv X pins σ H s)(k:∀b u,s.heap.get? b=some u->h'.get? b=some u):Inv X pins σ H {s with heap:=h',toks:=t'}:=I.un (Un.kept k) (I.hok.kept k)
def Inv.laid(I:Inv X pins σ H s)(k:∀b u,s.heap.get? b=some u->h'.get? b=some u)(d:s.heap.objs.size<=a)(e:ObjOk X.prog X.w (upd H a o) h' a o):
 Inv X pins σ (upd H a o) {s with heap:=h',toks:=t'}:=I.un (Un.laid k d<|I.hok.fresh d) (I.hok.laid k d e)
def Inv.write(I:Inv X pins σ H s)(f:Mut (H x))(g:e=x\/H e=some (.own x))(k:∀b u,b≠e->s.heap.get? b=some u->h'.get? b=some u)(a:∃u,h'.get? e=some u)(d:ObjOk X.prog X.w (upd H x o) h' x o):Inv X pins σ (upd H x o) {s with heap:=h',toks:=t'}:=I.un (Un.write f g k a) (I.hok.write f g k a d)
def Inv.ad5(I:Inv X pins σ H s)(h:∀p∈a,s.heap.get? p.1=some p.2/\H p.1=none/\p.1≠X.env.locals/\p.1∉X.fs/\∀v,p.2.data≠.cell v):Inv X a σ H s:=
 ⟨I.ok,I.os,I.bare,I.base,I.loc,I.cell,I.free,I.freeC,λp b=>(aAD.mp b).elim (λz=>I.pin p (aBl _ z)) (h p),I.hok,I.len⟩
def xV{N:List Str}(d:N.Nodup){i j:Nat}{x:Str}(a:N[i]?=some x)(b:N[j]?=some x):i=j:=by obtain⟨g,e⟩:=aAC.mp a;obtain⟨h,f⟩:=aAC.mp b;exact(List.getElem_inj d).mp (e.trans f.symm)
def uT{M:Model}{A:cf}{E:F8}{i:Nat}{x:Str}{v:V}{u:au}{Q:Unit->ba->Prop}(I:Inv X pins σ H s)(hN:X.N.Nodup)(U:X.N[i]?=some x)(B:Loc X.env.scope x)(r:RelV v u)
  (h:∀s',Inv X pins (σ.set i (some v)) H s'->(∃a,Heap.SameBut a s.heap s'.heap/\(a=X.env.locals\/X.env.cells.lookup x=some a))->Q () s') (hf:X.fn x=true\/X.env.scope.names.lookup x=some .local:=by first|exact .inl rfl|exact .inr rfl|assumption):a9 M A (storeName X.env x u) Q E s:=by
 obtain⟨m,hn,hl⟩:=id I.loc;have Y:(X.env.scope.kind==.class||(X.env.scope.kind==.module&&X.env.locals !=X.env.globals))=false:=by rw[I.ok.kind];rfl
 have J:i<σ.length:=by rw[I.len];exact(aAC.mp U).1
 have cne:=I.cne;have g:∀{a:bc}{h':cq},(∃o,s.heap.get? a=some o/\H a=none)->Heap.SameBut a s.heap h'->fT X.prog X.w H h':=λ{a h'} ha f b ob e=>by
  obtain⟨_,_,ju⟩:=ha;refine(I.hok b ob e).ac2 (λc w' t q=>(f.2 c ?_).trans q) (λ_ q=>q) λ_ _ _ q=>q;rintro rfl;rcases t with rfl|t
  .rw[ju]at e;cases e
  rw[ju]at t;cases t
 rcases B with L|L
 .refine wpAny_storeName_local L hn (λh' hn' f=>?_) Y;obtain⟨oL,_,_,hoL,_⟩:=id hn;refine h _ ⟨I.ok,I.os,I.bare,⟨λb o e n O B=>?_,λb o e n O B=>?_,I.base.free,λb o e B=>?_,I.base.tups,I.base.frzs,I.base.tbls⟩,⟨_,hn',λj y v' l C e3=>?_⟩,λy c e=>?_,I.free,I.freeC,λp hp=>?_,g ⟨oL,hoL,I.free⟩ f,by simpa using I.len⟩ ⟨_,f,.inl rfl⟩
  .exact(f.2 b (aAm<|aAw (aAg e) I.ok.above)).trans (I.base.keep b o e n O B)
  .obtain⟨sl,l⟩:=I.base.slot b o e n O B;exact⟨sl,(f.2 b (aAm<|aAw (aAg e) I.ok.above)).trans l⟩
  .obtain⟨o',l⟩:=I.base.there b o e B;exact⟨o',(f.2 b (aAm<|aAw (aAg e) I.ok.above)).trans l⟩
  .by_cases T:j=i
   .subst T;rw[U]at l;cases l;rw[aBM J]at C;cases C;exact⟨u,r,.inl ⟨L,by simp⟩⟩
   rw[aCC (aBY T)]at C;obtain⟨u',r',q⟩:=hl j y v' l C e3;refine⟨u',r',?_⟩;rcases q with⟨k,e⟩|⟨k,c,e,z⟩
   .refine .inl ⟨k,?_⟩;have:y≠x:=λe=>T (xV hN l<|e▸U);simp[this,e]
   exact .inr ⟨k,c,e,z.sameBut f (cne y c e)⟩
  .obtain⟨w',z⟩:=I.cell y c e;exact⟨w',z.sameBut f (cne y c e)⟩
  obtain⟨e,n,ne,nf,d⟩:=I.pin p hp;exact⟨(f.2 p.1 ne).trans e,n,ne,nf,d⟩
 have yd:X.fn x=true:=by
  rcases hf with z|z
  .exact z
  rw[z]at L;cases L
 obtain⟨c,t⟩:=I.ok.has x (.inl L);obtain⟨w',z⟩:=I.cell x c t;refine wpAny_storeName_cell I.ok.kind L t z (λh' hc' f=>?_);obtain⟨oc,bp,hocd⟩:=id z;refine h {s with heap:=h'} ⟨I.ok,I.os,I.bare,⟨λb o e n O B=>?_,λb o e n O B=>?_,I.base.free,λb o e B=>?_,I.base.tups,I.base.frzs,I.base.tbls⟩,⟨m,hn.sameBut f (aBY<|cne x c t),λj y v' l C e3=>?_⟩,λy c' e=>?_,I.free,I.freeC,λp hp=>?_,g ⟨oc,bp,I.freeC x c t⟩ f,by simpa using I.len⟩ ⟨c,f,.inr t⟩
 .exact(f.2 b (aAm<|aAw (aAg e)<|I.ok.cab x c yd t)).trans (I.base.keep b o e n O B)
 .obtain⟨sl,l⟩:=I.base.slot b o e n O B;exact⟨sl,(f.2 b (aAm<|aAw (aAg e)<|I.ok.cab x c yd t)).trans l⟩
 .obtain⟨o',l⟩:=I.base.there b o e B;exact⟨o',(f.2 b (aAm<|aAw (aAg e)<|I.ok.cab x c yd t)).trans l⟩
 .by_cases T:j=i
  .subst T;rw[U]at l;cases l;rw[aBM J]at C;cases C;exact⟨u,r,.inr ⟨.inl L,c,t,hc'⟩⟩
  rw[aCC (aBY T)]at C;obtain⟨u',r',q⟩:=hl j y v' l C e3;refine⟨u',r',?_⟩;rcases q with q|⟨k,c',e,z'⟩
  .exact .inl q
  refine .inr ⟨k,c',e,z'.sameBut f ?_⟩;rintro rfl;exact T (xV hN l<|I.ok.inj _ _ _ e t▸U)
 .by_cases hcc:c'=c
  .subst hcc;exact⟨_,hc'⟩
  obtain⟨w2,z2⟩:=I.cell y c' e;exact⟨w2,z2.sameBut f hcc⟩
 obtain⟨e,n,ne,nf,d⟩:=I.pin p hp;refine⟨(f.2 p.1 ?_).trans e,n,ne,nf,d⟩;intro q;rw[q,bp]at e;have q':oc=p.2:=Option.some.inj e;exact d w' (by rw[<-q'];exact hocd)
def M6{E:F8}{Q:Unit->ba->Prop}(I:Inv X pins σ H s)(a:X.N.Nodup)(b:X.N[i]?=some x)(d:Loc X.env.scope x)(r:RelV v u)(h:∀s',Inv X pins (σ.set i (some v)) H s'->Q () s')(e:X.fn x=true\/X.env.scope.names.lookup x=some .local:=by first|exact .inl rfl|exact .inr rfl|assumption):a9 M A (storeName X.env x u) Q E s:=
 uT I a b d r (λs' f _=>h s' f) e
def Inv.af8(I:Inv X pins σ H s)(d:s'.os=s.os)(u:Un (yV X.stack) ch H H' s.heap s'.heap)(a:fT X.prog X.w H' s'.heap)(f:AllBare s'.gens)(g:∀b∈ch,(b∈X.ex\/X.s9.heap.objs.size<=b)/\b≠X.env.locals/\(∀x c,X.env.cells.lookup x=some c->c≠b)/\∀p∈X.pn++pins,p.1≠b):Inv X pins σ H' s':=by obtain⟨h',g',d',t',h⟩:=s';have e:h=s.os:=d;subst e;exact I.call (g':=g') (t':=t') (d':=d') u a f g
end
abbrev XK:=au->Option bc->Hp->Prop
abbrev St:=List (Option V)
abbrev VK:=V->Hp->Prop
abbrev TE:=St->Hp->VK->Prop
abbrev TT:=St->Hp->(Bool->Hp->Prop)->Prop
abbrev TA:=St->Hp->(List V->Hp->Prop)->Prop
structure Ends where
 nx:St->Hp->Prop
 rt:VK
 bk:St->Hp->Prop:=λ_ _=>False
 ct:St->Hp->Prop:=λ_ _=>False
abbrev TS:=Ends->St->Hp->Prop
def EP(X:Cx)(a:P4)(σ:St)(Q:VK)(u:au)(s':ba):Prop:=∃v b,Inv X a σ b s'/\RelV v u/\Q v b
def TP(X:Cx)(a:P4)(σ:St)(Q:Bool->Hp->Prop)(b:Bool)(s':ba):Prop:=∃d,Inv X a σ d s'/\Q b d
def AP(X:Cx)(a:P4)(σ:St)(Q:List V->Hp->Prop)(d:List au)(s':ba):Prop:=∃L b,Inv X a σ b s'/\l7 L d/\Q L b
def SP(X:Cx)(a:P4)(D:Ends)(f:Flow)(s':ba):Prop:=
 match f with
 |.next=>∃d b,Inv X a d b s'/\D.nx d b
 |.brk=>∃d b,Inv X a d b s'/\D.bk d b
 |.cont=>∃d b,Inv X a d b s'/\D.ct d b
 |.ret u=>∃v d b,Inv X a d b s'/\RelV v u/\D.rt v b
def PE(X:Cx)(e:cu)(t:TE):Prop:=
 ∀(a:P4) (s:ba) (σ:St) (H:Hp) (Q:VK),Inv X a σ H s->t σ H Q->a9 (be X.prog X.w) X.A (dm e X.env) (EP X a σ Q) X.xe s
def PT(X:Cx)(e:cu)(t:TT):Prop:=
 ∀(a:P4) (s:ba) (σ:St) (H:Hp) (Q:Bool->Hp->Prop),Inv X a σ H s->t σ H Q->a9 (be X.prog X.w) X.A (isTrue e X.env<|dm e X.env) (TP X a σ Q) X.xe s
def PW(X:Cx)(e:cu)(t:TT):Prop:=
 ∀(b:Sem au) (a:P4) (s:ba) (σ:St) (H:Hp) (Q:Bool->Hp->Prop),Inv X a σ H s->t σ H Q->a9 (be X.prog X.w) X.A (isTrue e X.env b) (TP X a σ Q) X.xe s
def PW.pt(h:PW X e t):PT X e t:=h _
def PA(X:Cx)(es:List cu)(t:TA):Prop:=
 ∀(b:Pos) (a:P4) (s:ba) (σ:St) (H:Hp) (Q:List V->Hp->Prop),Inv X a σ H s->t σ H Q->a9 (be X.prog X.w) X.A (spliced<|cy b<|bb es X.env) (AP X a σ Q) X.xe s
def PS(X:Cx)(st:cv)(t:TS):Prop:=
 ∀(a:P4) (s:ba) (σ:St) (H:Hp) (D:Ends),Inv X a σ H s->t D σ H->a9 (be X.prog X.w) X.A (exec st X.env) (SP X a D) X.xe s
def uU(X:Cx)(st:List cv)(t:TS):Prop:=
 ∀(a:P4) (s:ba) (σ:St) (H:Hp) (D:Ends),Inv X a σ H s->t D σ H->a9 (be X.prog X.w) X.A (execs st X.env) (SP X a D) X.xe s
def F5{α:Type}{t:Sem α}{Q b:α->ba->Prop}{M:Model}{A:cf}{E:F8}{s:ba}(h:a9 M A t Q E s)(d:∀a s,Q a s->b a s):a9 M A t b E s:=aCL h d λ_ _ x=>x
section
variable{X:Cx}
def a1x(i:Nat):TE:=λσ H Q=>∃v,σ[i]?=some (some v)/\Q v H
def tC(v:V):TE:=λ_ H Q=>Q v H
def O6(k:X.N[i]?=some x)(n:zI X.env.scope x)(f:(x==ix)=false:=by decide)(o:(x==ka)=false:=by decide):PE X (.Name x p) (a1x i):=by
 intro d s σ H Q I h;obtain⟨v,e,h⟩:=h;obtain⟨m,q,t⟩:=I.loc;obtain⟨u,r,l⟩:=t i x v k e n;have a:EP X d σ Q u s:=⟨v,H,I,r,h⟩;rcases l with⟨b,w⟩|⟨b,c,g,j⟩
 .exact wpAny_Name (wpAny_loadName_local I.ok.kind b q w a) f
 rcases b with b|b
 .exact wpAny_Name (wpAny_loadName_cell I.ok.kind b g j a) f
 exact wpAny_Name (wpAny_loadName_free I.ok.kind b g j a o) f
def DG{i j a}:PE X (.Constant (.int i) j a) (tC (.int i)):=λ_ _ _ H _ I h=>wpAny_Constant_int ⟨.int i,H,I.tok _,⟨_,rfl⟩,h⟩
def a2w{b j a}:PE X (.Constant (.bool b) j a) (tC (.bl b)):=λ_ _ _ H _ I h=>Constant_bool ⟨.bl b,H,I,rfl,h⟩
def qz{j a}:PE X (.Constant .none j a) (tC .non):=λ_ _ _ H _ I h=>Constant_none ⟨.non,H,I,rfl,h⟩
def Gl(X:Cx)(x:Str):Prop:=X.env.kindOf x=some .globalImplicit
def xA{E:F8}{Q:F8}(I:Inv X a σ H s)(b:Gl X x)(d:X.mg x=some u)(h:Q u s)(e:(x==ix)=false:=by decide):a9 (be X.prog X.w) X.A (dm (.Name x f) X.env) Q E s:=
 Calls.Name_function_global I.ok.kind b (Calls.loadGlobal_global (by rw[I.ok.glob];exact I.mod.glob.keeps I.bk) d h) e
def T9{E:F8}{Q:F8}(I:Inv X a σ H s)(b:Gl X x)(d:X.mg x=none)(e:de x=some u)(h:Q u s)(f:x≠ "__name__":=by decide)(g:(x==ix)=false:=by decide):a9 (be X.prog X.w) X.A (dm (.Name x i) X.env) Q E s:=by obtain⟨l,j,k⟩:=I.mod.blt;exact Calls.Name_function_global I.ok.kind b (Calls.loadGlobal_builtin (by rw[I.ok.glob];exact I.mod.glob.keeps I.bk) d (by rw[I.ok.blt];exact j.keeps I.bk) ((k x f).trans e) h) g
def YR(a:Gl X x)(b:X.mg x=some u)(r:RelV v u)(d:(x==ix)=false:=by decide):PE X (.Name x e) (tC v):=
 λ_ _ _ H _ I h=>xA I a b ⟨v,H,I,r,h⟩ d
def YI(a:Gl X x)(b:X.mg x=none)(d:de x=some u)(r:RelV v u)(e:x≠ "__name__":=by decide)(f:(x==ix)=false:=by decide):PE X (.Name x g) (tC v):=
 λ_ _ _ H _ I h=>T9 I a b d ⟨v,H,I,r,h⟩ e f
variable{a b:cu}{ta tb:TE}{pos:Pos}
def tB(t:TE):TT:=λσ H Q=>t σ H λx d=>∃c,x=.bl c/\Q c d
def my{e:cu}{t:TE}(h:PE X e t)(g:∀whole,isTrue e X.env whole=(do let v<-whole;standAt e.pos;ff [v] (truthy v)):=by intro _;rfl):PT X e (tB t):=by intro f s σ H Q I i;refine isTrue_plain (F5 (h f s σ H _ I i) λv n ⟨x,j,k,l,m⟩=>?_) (g _);obtain⟨d,rfl,q⟩:=m;cases l;exact aBu ⟨j,k,q⟩
variable{tA tB':TT}{rest:List cu}
def a3z(t u:TT):TT:=λσ H Q=>t σ H λc d=>if c=true then u σ d Q else Q false d
def tOr(t u:TT):TT:=λσ H Q=>t σ H λc d=>if c=true then Q true d else u σ d Q
def a5f(t:TT):TT:=λσ H Q=>t σ H λc d=>Q (!c) d
def XQ(f:PT X a tA):PW X (.BoolOp .And [a] pos) tA:=by
 intro g d s σ H Q I h;refine isTrue_and (F5 (f d s σ H Q I h) λc i e=>?_);cases c with
 |true=>exact isTrue_and_nil e
 |false=>exact e
def xy(f:PT X a tA):PW X (.BoolOp .Or [a] pos) tA:=by
 intro g d s σ H Q I h;refine isTrue_or (F5 (f d s σ H Q I h) λc i e=>?_);cases c with
 |false=>exact isTrue_or_nil e
 |true=>exact e
def jw(i:PT X a tA)(j:PW X (.BoolOp .And (b::rest) pos) tB'):PW X (.BoolOp .And (a::b::rest) pos) (a3z tA tB'):=by
 intro k d s σ H Q I h;refine isTrue_and (F5 (i d s σ H _ I h) λc l ⟨e,f,g⟩=>?_);cases c with
 |true=>exact j k d l σ e Q f g
 |false=>exact⟨e,f,g⟩
def a1y(i:PT X a tA)(j:PW X (.BoolOp .Or (b::rest) pos) tB'):PW X (.BoolOp .Or (a::b::rest) pos) (tOr tA tB'):=by
 intro k d s σ H Q I h;refine isTrue_or (F5 (i d s σ H _ I h) λc l ⟨e,f,g⟩=>?_);cases c with
 |true=>exact⟨e,f,g⟩
 |false=>exact j k d l σ e Q f g
def iw(e:PT X a tA):PT X (.UnaryOp .Not a pos) (a5f tA):=by intro d s σ H Q I h;exact isTrue_not (e d s σ H (λc f=>Q (!c) f) I h)
def a1e(ta tb:TE):TE:=λσ H Q=>ta σ H λx d=>∃c,x=.bl c/\if c=true then tb σ d Q else Q (.bl false) d
def a1n(ta:TE):TE:=λσ H Q=>ta σ H λx d=>∃c,x=.bl c/\Q (.bl (!c)) d
def qx{op}(h:PE X a t):PE X (.BoolOp op [a] pos) t:=λd s σ H Q I e=>BoolOp_one (h d s σ H Q I e)
def qj(i:PE X a ta)(j:PE X (.BoolOp .And (b::rest) pos) tb):PE X (.BoolOp .And (a::b::rest) pos) (a1e ta tb):=by
 intro d s σ H Q I h;refine BoolOp_and (F5 (i d s σ H _ I h) λv k ⟨x,f,g,l,e⟩=>?_);obtain⟨c,rfl,e⟩:=e;cases l;refine aBu ?_;cases c with
 |true=>exact j d k σ f Q g e
 |false=>exact⟨.bl false,f,g,rfl,e⟩
def cx(f:PE X a ta):PE X (.UnaryOp .Not a pos) (a1n ta):=by intro d s σ H Q I h;refine UnaryOp_ (F5 (f d s σ H _ I h) λv k ⟨x,g,i,j,e⟩=>?_);obtain⟨c,rfl,e⟩:=e;cases j;exact not_of (aBu ⟨.bl (!c),g,i,rfl,e⟩)
end
def P7(K:iu)(H:Hp)(a:bc)(Y:List V):Prop:=
 Rd H a (.lst Y)\/
  ∃(o:Obj) (b:Array au) (n:Nat),K.lookup a=some o/\o.cls=.type "list"/\o.dict=none/\o.data=.seq b n/\b.size<=sizeLine/\l7 Y b.toList
def Y0(K:iu)(H:Hp)(a:bc)(Y:List V):Prop:=
 Rd H a (.tup Y)\/
  ∃(o:Obj) (b:Array au) (n:Nat),K.lookup a=some o/\o.cls=.type "tuple"/\o.data=.seq b n/\b.size<=sizeLine/\l7 Y b.toList
def a4c:au->Option V
 |.none=>some .non
 |.bool b=>some (.bl b)
 |.int i _=>some (.int i)
 |.str x _=>some (.str x)
 |.bytes b _=>some (.byt b)
 |.float b _=>some (.flt b)
 |.ref a=>some (.ref a)
 |.type n=>some (.ty n)
 |_=>none
def RelV.abs(r:RelV x u):a4c u=some x:=by
 cases x with
 |non=>cases r;rfl
 |bl _=>cases r;rfl
 |int _=>obtain⟨t,rfl⟩:=r;rfl
 |str _=>obtain⟨t,rfl⟩:=r;rfl
 |byt _=>obtain⟨t,rfl⟩:=r;rfl
 |flt _=>obtain⟨t,rfl⟩:=r;rfl
 |ref _=>cases r;rfl
 |ty _=>cases r;rfl
def RelV.inj{x y:V}{u:au}(r:RelV x u)(q:RelV y u):x=y:=Option.some.inj (r.abs.symm.trans q.abs)
theorem l7.inj:∀{Y a:List V}{b:List au},l7 Y b->l7 a b->Y=a
 |_,_,_,.nil,.nil=>rfl
 |_,_,_,.cons r t,.cons d e=>by rw[r.inj d,l7.inj t e]
section
variable{X:Cx}{pins:P4}{σ:St}{H:Hp}{s:ba}{a:bc}{Y ys:List V}
def P7.of{K:iu}(h:H a=some (.lst Y)):P7 K H a Y:=.inl (.inl h)
def Y0.of{K:iu}(h:H a=some (.tup Y)):Y0 K H a Y:=.inl (.inl h)
def Inv.list(I:Inv X pins σ H s)(h:P7 X.K H a Y):∃b:List au,l7 Y b/\PlainL s.heap a b.toArray/\Y.length<=sizeLine:=by
 rcases h with h|⟨o,b,n,d,f,g,i,j,r⟩
 .obtain⟨z,b,n,r,e⟩:=h.ok I.hok;exact⟨b,r,⟨_,n,e,rfl,rfl,rfl⟩,z⟩
 refine⟨b.toList,r,⟨o,n,I.kIn a o d,f,g,by simpa using i⟩,?_⟩;have e:=r.length;simp only[aBj]at e
 lia
def Inv.tuple(I:Inv X pins σ H s)(h:Y0 X.K H a Y):∃b:List au,l7 Y b/\IsTup s.heap a b.toArray/\Y.length<=sizeLine:=by
 rcases h with h|⟨o,b,n,d,f,g,i,r⟩
 .obtain⟨z,b,r,p⟩:=h.ok I.hok;exact⟨b,r,p,z⟩
 refine⟨b.toList,r,⟨o,I.kIn a o d,f,n,by simpa using g⟩,?_⟩;have e:=r.length;simp only[aBj]at e
 lia
def Inv.ab9(I:Inv X pins σ H s)(h:P7 X.K H a Y)(h':P7 X.K H a ys):Y=ys:=by
 obtain⟨f,r,⟨o,n,e,_,_,d⟩,_⟩:=I.list h;obtain⟨b,j,⟨l,m,g,_,_,i⟩,_⟩:=I.list h';rw[e]at g;cases g;rw[d]at i;injection i with k _;have:f=b:=by simpa using ip aFU k
 subst this;exact r.inj j
def Inv.ab5(I:Inv X pins σ H s)(h:Y0 X.K H a Y)(h':Y0 X.K H a ys):Y=ys:=by
 obtain⟨f,r,⟨o,e,_,n,d⟩,_⟩:=I.tuple h;obtain⟨b,j,⟨l,g,_,m,i⟩,_⟩:=I.tuple h';rw[e]at g;cases g;rw[d]at i;injection i with k _;have:f=b:=by simpa using ip aFU k
 subst this;exact r.inj j
end
abbrev Cx.ac0(X:Cx)(E:F8):Cx:={X with xe:=E}
abbrev Cx.nox(X:Cx):Cx:=X.ac0 λ_ _=>False
def Cx.Ok.ac0{X:Cx}(ok:X.Ok)(E:F8):(X.ac0 E).Ok:=
 ⟨ok.mod,ok.kind,ok.glob,ok.blt,ok.above,ok.inj,ok.has,ok.cab,ok.hd,ok.frames,ok.stk,ok.exf,ok.bs,ok.bsz,ok.noex,ok.exfs,ok.funs,ok.frf⟩
def Cx.Ok.aa8{X:Cx}{E:F8}(ok:(X.ac0 E).Ok):X.Ok:=
 ⟨ok.mod,ok.kind,ok.glob,ok.blt,ok.above,ok.inj,ok.has,ok.cab,ok.hd,ok.frames,ok.stk,ok.exf,ok.bs,ok.bsz,ok.noex,ok.exfs,ok.funs,ok.frf⟩
section
variable{X:Cx}{pins:P4}{σ:St}{H:Hp}{s:ba}{E:F8}
def Inv.ac0(I:Inv X pins σ H s)(E:F8):Inv (X.ac0 E) pins σ H s:=⟨I.ok.ac0 E,I.os,I.bare,I.base,I.loc,I.cell,I.free,I.freeC,I.pin,I.hok,I.len⟩
def Inv.aa8(I:Inv (X.ac0 E) pins σ H s):Inv X pins σ H s:=⟨I.ok.aa8,I.os,I.bare,I.base,I.loc,I.cell,I.free,I.freeC,I.pin,I.hok,I.len⟩
def SP.aa8(h:SP (X.ac0 E) pins D f s'):SP X pins D f s':=by
 cases f with
 |next=>obtain⟨a,b,I,q⟩:=h;exact⟨a,b,I.aa8,q⟩
 |brk=>obtain⟨a,b,I,q⟩:=h;exact⟨a,b,I.aa8,q⟩
 |cont=>obtain⟨a,b,I,q⟩:=h;exact⟨a,b,I.aa8,q⟩
 |ret u=>obtain⟨v,a,b,I,r,q⟩:=h;exact⟨v,a,b,I.aa8,r,q⟩
def uU.nox{st:List cv}{t:TS}(h:uU X.nox st t):uU X st t:=λpins s σ H D I a=>aCL (h pins s σ H D (I.ac0 _) a) (λ_ _ q=>q.aa8) λ_ _ z=>aAf z
end
section
variable{X:Cx}{st:cv}{rest:List cv}{t u:TS}{e:cu}{te:TE}{pos:Pos}
def a2y:TS:=λD σ H=>D.nx σ H
def a5h(t u:TS):TS:=λD σ H=>t {D with nx:=u D} σ H
def HX:uU X [] a2y:=λ_ _ σ H _ I h=>aED ⟨σ,H,I,h⟩
def oZ(b:PS X st t)(d:uU X rest u):uU X (st::rest) (a5h t u):=by
 intro a s σ H D I h;refine aEp (F5 (b a s σ H {D with nx:=u D} I h) λf g q=>?_);cases f with
 |next=>obtain⟨i,j,k,q⟩:=q;exact d a g i j D k q
 |ret v=>exact q
 |brk=>exact q
 |cont=>exact q
def nR(b:PS X st t):uU X [st] t:=by
 intro a s σ H D I h;refine aEp (F5 (b a s σ H D I h) λf d q=>?_);cases f with
 |next=>exact aED q
 |ret v=>exact q
 |brk=>exact q
 |cont=>exact q
def Inv.quiet(I:Inv X a σ H s):interactive X.env=false:=by simp[interactive,I.ok.kind]
def a0n(te:TE):TS:=λD σ H=>te σ H λ_ a=>D.nx σ a
def nP(b:PE X e te)(d:eN e none pos.line X.env=pure false:=by rfl):PS X (.Expr e pos) (a0n te):=by intro a s σ H D I h;exact wpAny_Expr_any (F5 (b a s σ H _ I h) λv j ⟨x,f,g,k,i⟩=>⟨σ,f,g,i⟩) I.quiet d
def a4z(te:TE):TS:=λD σ H=>te σ H D.rt
def xR(b:PE X e te):PS X (.Return (some e) pos) (a4z te):=by intro a s σ H D I h;exact wpAny_Return_some (F5 (b a s σ H _ I h) λv j ⟨x,d,f,g,i⟩=>⟨x,σ,d,f,g,i⟩)
def a4x(c:TT)(t u:TS):TS:=λD σ H=>c σ H λb a=>if b=true then t D σ a else u D σ a
def ZM{c:cu}{a b:List cv}{g:TT}(m:PT X c g)(n:uU X a t)(o:uU X b u):PS X (.If c a b pos) (a4x g t u):=by
 intro f s σ H D I h;refine wpAny_If (F5 (m f s σ H _ I h) λd i ⟨j,k,l⟩=>?_);cases d with
 |true=>exact n f i σ j D k l
 |false=>exact o f i σ j D k l
def fj:TS:=λ_ _ _=>False
def SX:PS X st fj:=λ_ _ _ _ _ _ h=>h.elim
end
abbrev TG:=V->St->Hp->(St->Hp->Prop)->Prop
abbrev fq:=List V->St->Hp->(St->Hp->Prop)->Prop
def PG(X:Cx)(a:cu)(t:TG):Prop:=
 ∀(b:P4) (s:ba) (σ:St) (H:Hp) (v:V) (u:au) (Q:St->Hp->Prop),Inv X b σ H s->RelV v u->t v σ H Q->
  a9 (be X.prog X.w) X.A (gn a X.env u) (λ_ f=>∃d e,Inv X b d e f/\Q d e) X.xe s
def PGs(X:Cx)(f:List cu)(t:fq):Prop:=
 ∀(a:P4) (s:ba) (σ:St) (H:Hp) (L:List V) (b:List au) (Q:St->Hp->Prop),Inv X a σ H s->l7 L b->t L σ H Q->
  a9 (be X.prog X.w) X.A (assignInOrder ((dC f X.env).map (·.2)) b) (λ_ g=>∃d e,Inv X a d e g/\Q d e) X.xe s
abbrev XD:=V->V->V->Hp->(Hp->Prop)->Prop
def zq(X:Cx)(t:XD):Prop:=
 ∀(a:P4) (s:ba) (σ:St) (H:Hp) (o i v:V) (b d u:au) (Q:Hp->Prop),Inv X a σ H s->RelV o b->RelV i d->RelV v u->t o i v H Q->
  a9 (be X.prog X.w) X.A (setItem b d u) (λ_ f=>∃e,Inv X a σ e f/\Q e) X.xe s
section
variable{X:Cx}{pos:Pos}
def ZZ(i:Nat):TG:=λv σ H Q=>Q (σ.set i<|some v) H
def WB(b:X.N.Nodup)(d:X.N[i]?=some x)(e:Loc X.env.scope x)(f:X.fn x=true\/X.env.scope.names.lookup x=some .local:=by first|exact .inl rfl|exact .inr rfl|assumption):PG X (.Name x pos) (ZZ i):=by intro a s σ H v u Q I r h;exact wpAny_assign_Name (M6 I b d e r (λj g=>⟨_,H,g,h⟩) f)
def a4b:fq:=λL σ H Q=>L=[]/\Q σ H
def a2z(t:TG)(u:fq):fq:=λL σ H Q=>∃v r,L=v::r/\t v σ H λa b=>u r a b Q
def XT:PGs X [] a4b:=by intro a s σ H L b Q I r h;obtain⟨e,h⟩:=h;subst e;cases r;exact assignInOrder_nil ⟨σ,H,I,h⟩
def MK{e:cu}{es:List cu}{t:TG}{u:fq}(d:PG X e t)(f:PGs X es u)
  (g:(dC (e::es) X.env).map (·.2)=gn e X.env::(dC es X.env).map (·.2):=by rfl):PGs X (e::es) (a2z t u):=by
 intro a s σ H L o Q I r h;obtain⟨v,p,i,h⟩:=h;subst i;cases r with
 |cons r j=>rw[g];refine aEX (F5 (d a s σ H _ _ _ I r h) λ_ k ⟨b,l,m,n⟩=>?_);exact f a k b l _ _ Q m j n
def a4u(a b:TE)(t:XD):TG:=λv σ H Q=>a σ H λo d=>b σ d λi e=>t o i v e λf=>Q σ f
def OL{o i:cu}{e f:TE}{t:XD}(g:PE X o e)(j:PE X i f)(k:zq X t)
  (l:∀v,gn (.Subscript o i pos) X.env v=(do
   let b<-ff [v] (dm o X.env)
   let d<-ff [v,b] (dm i X.env)
   standAt pos
   ff [v,b,d] (setItem b d v)
   release [v,b,d] []):=by intro _;rfl):PG X (.Subscript o i pos) (a4u e f t):=by
 intro a s σ H v u Q I r h;rw[l];refine aAa (aAW<|F5 (g a s σ H _ I h) λb m ⟨x,n,p,q,w⟩=>?_);refine aAa (aAW<|F5 (j a m σ n _ p w) λd z ⟨y,A,B,C,E⟩=>?_);refine aAa (aEy<|aAa<|aAW<|F5 (k a z σ A x y v b d u _ B q C r E) λ_ O ⟨J,L,N⟩=>?_);exact wpAny_release ⟨σ,J,L,N⟩
def a0x(a:TE)(g:TG):TS:=λD σ H=>a σ H λx b=>g x σ b D.nx
def DT{b e:cu}{d:TE}{g:TG}(f:PE X e d)(i:PG X b g)(j:fm [b] e pos.line X.env=pure false:=by rfl)(k:fo [b] e X.env=pure none:=by rfl)
  (l:(dC [b] X.env).map (·.2)=[gn b X.env]:=by rfl):PS X (.Assign [b] e pos) (a0x d g):=by
 intro a s σ H D I h;refine wpAny_Assign_stores (F5 (f a s σ H _ I h) λv m ⟨x,n,o,p,r⟩=>?_) j k;rw[l];exact F5 (i a m σ n x v _ o p r) λ_ t q=>q
def MY{i:Nat}{x:Str}{e:cu}{d:TE}{a:Pos}(f:X.N.Nodup)(g:X.N[i]?=some x)(j:Loc X.env.scope x)(k:PE X e d)(l:eN e (some (.Name x a)) pos.line X.env=pure false:=by rfl)(m:X.fn x=true\/X.env.scope.names.lookup x=some .local:=by first|exact .inl rfl|exact .inr rfl|assumption):
  PS X (.Assign [.Name x a] e pos) (a0x d (ZZ i)):=by
 intro b s σ H D I h;refine aEf (F5 (k b s σ H _ I h) λv t ⟨y,n,o,p,q⟩=>?_) l;exact M6 o f g j p (λu r=>⟨_,n,r,q⟩) m
def a5c(i j:Nat)(ta:TA):TS:=λD σ H=>ta σ H λL a=>∃v w,L=[v,w]/\D.nx ((σ.set i<|some v).set j (some w)) a
def nj{i j:Nat}{x y:Str}{a b:cu}{ta:TA}{l m pt:Pos}{n r xS}(Q:X.calm=true)(B:X.N.Nodup)(T:X.N[i]?=some x)(U:X.N[j]?=some y)(Y:i≠j)
  (C:X.env.scope.names.lookup x=some .local) (E:X.env.scope.names.lookup y=some .local) (ha:PA X [a,b] ta)
  (hw:fo [.Tuple [.Name x l,.Name y m] n pt] (.Tuple [a,b] r xS) X.env=pure (some [x,y]))
  (hs:fm [.Tuple [.Name x l,.Name y m] n pt] (.Tuple [a,b] r xS) pos.line X.env=pure false:=by rfl):
  PS X (.Assign [.Tuple [.Name x l,.Name y m] n pt] (.Tuple [a,b] r xS) pos) (a5c i j ta):=by
 intro d s σ H D I h;rw[exec_Assign_arm];refine aAa (aEy ?_);rw[hs];refine aAa (aAb ?_);rw[h9 (by decide)];refine aAa (Tuple_<|F5 (ha _ d s σ H _ I h) λus f ⟨L,J,I1,r1,t⟩=>?_);obtain⟨v,w,e1,t⟩:=t;subst e1;obtain⟨g,k,rfl,rv,u⟩:∃g k,us=[g,k]/\RelV v g/\RelV w k:=by
  cases r1 with
  |cons p q=>
   cases q with
   |cons p' q'=>cases q';exact⟨_,_,rfl,p,p'⟩
 refine aBJ ?_ (by show 2<=sizeLine;decide);have I2:Inv X d σ J {f with heap:=f.heap.push {cls:=.type "tuple",data:=.seq [g,k].toArray}}:=I1.kept (t':=f.toks) λb o e=>aAc _ e;rw[hw];refine aAa (aAb ?_);show a9 (be X.prog X.w) X.A (do rule "assign.swapped-stores";let items<-unpackItems (.ref f.heap.objs.size) 2 none;assignInOrder [λv=>bindName X.env y v,λv=>bindName X.env x v] items.reverse;pure Flow.next) _ _ _;refine aAa (aDA<|aAa<|unpackItems_tuple (items:=#[g,k]) (I.ok.hd Q) (IsTup.new f.heap _) λh' z=>?_);have I3:=I2.kept (h':=h') (t':=f.toks) λb o e=>z b o (aAm<|aAg e) e;show a9 _ _ (assignInOrder [λv=>bindName X.env y v,λv=>bindName X.env x v] [k,g]>>=λ_=>pure Flow.next) _ _ _;refine aAa (aEX<|wpAny_bindName<|M6 I3 B U (.inl E) u (λs2 I4=>?_)<|.inr E);refine aEX (wpAny_bindName<|M6 I4 B T (.inl C) rv (λs3 O=>assignInOrder_nil (aAb ?_))<|.inr C);rw[List.set_comm _ _ (aBY Y)]at O;exact⟨_,J,O,t⟩
end
section
variable{X:Cx}{pos:Pos}
def kz(c:TT)(tb:TS):TS:=λD σ H=>∃W:Nat->St->Hp->Prop,(∃m,W m σ H)/\∀m σ H,W m σ H->
 c σ H λb a=>if b=true then∃N:St->Hp->Prop,(∀d e,N d e->∃f,f<m/\W f d e)/\tb {D with nx:=N,ct:=N,bk:=D.nx} σ a else D.nx σ a
def NM{c:cu}{body:List cv}{p:TT}{tb:TS}(q:PassesOwn (be X.prog X.w) X.A X.env X.xe)(B:PT X c p)(C:uU X body tb):PS X (.While c body [] pos) (kz p tb):=by
 intro a s σ H D I h;obtain⟨W,⟨E,J⟩,turn⟩:=h;refine wpAny_While (codeAny_whileLoop (λn L=>∃r t,Inv X a r t L/\W n r t) ?_ E ⟨σ,H,I,J⟩);rintro n O ⟨d,u,Q,T⟩;refine aDd q (F5 (B a O d u _ Q<|turn n d u T) λb U ⟨x,y,i⟩=>?_);cases b with
 |true=>
  obtain⟨N,z,i⟩:=i;rw[hV rfl];refine aDd q (F5 (C a U d x _ y i) λf Y j=>?_);cases f with
  |next=>obtain⟨e,g,k,l⟩:=j;obtain⟨m,o,w3⟩:=z e g l;exact⟨m,o,e,g,k,w3⟩
  |cont=>obtain⟨e,g,k,l⟩:=j;obtain⟨m,o,w3⟩:=z e g l;exact⟨m,o,e,g,k,w3⟩
  |brk=>exact j
  |ret v=>exact j
 |false=>rw[h9 aAU];exact aED ⟨d,x,y,i⟩
end
structure It where
 go:Nat->Hp->Prop
 yld:Nat->Hp->V->Hp->Prop
 stop:Nat->Hp->Prop
def sF(X:Cx)(pins:P4)(H:Hp)(b:bc):Prop:=
 H b=none/\b≠X.env.locals/\b∉X.fs/\(b∈X.ex\/X.s9.heap.objs.size<=b)/\(∀x c,X.env.cells.lookup x=some c->c≠b)/\∀p∈X.pn++pins,p.1≠b
def Inv.af4(I:Inv X a σ H s)(d:s.heap.objs.size<=b)(f:H' b=none):sF X a H' b:=by
 refine⟨f,aDx (aAw I.lt d),I.ag2 d,.inr (aAp I.sz d),λx c e z=>?_,λp g z=>?_⟩
 .obtain⟨v,q⟩:=I.cell x c e;exact absurd (aAw q.lt (by rw[z];exact d)) (aBr _)
 exact absurd (aAw (aAg (I.pin p g).1) (by rw[z];exact d)) (aBr _)
structure Turn(P:Program)(w:World)(K:PySem.W.Frag)(tg:Expr)(J:It)(fp:List Addr)(it:Addr)(tn:Nat->Heap->Prop):Prop where
 mem:it∈fp
 obj:∀i h,tn i h->∀b∈fp,∃o,h.get? b=some o/\∀v,o.data≠.cell v
 keep:∀i h h',tn i h->(∀b∈fp,∀o,h.get? b=some o->h'.get? b=some o)->tn i h'
 item:∀(X:Cx),X.prog=P->X.w=w->X.K=K->X.calm=true->∀(i:Nat) (pins:P4) (s:Shared) (σ:St) (H:Hp) (E:F8),Inv X pins σ H s->(∀b∈fp,sF X pins H b)->tn i s.heap->J.go i H->
  wpAny (model P w) X.A (pyNext (.ref it)) (λr s1=>∃u,r=some u/\
   wpAny (model P w) X.A (letOwnedTupleGo tg (.ref it) u) (λ_ s2=>∃x H',Inv X pins σ H' s2/\RelV x u/\J.yld i H x H'/\tn (i+1) s2.heap/\∀b∈fp,H' b=none) E s1) E s
 done:∀(X:Cx),X.prog=P->X.w=w->X.K=K->X.calm=true->∀(i:Nat) (pins:P4) (s:Shared) (σ:St) (H:Hp) (E:F8),Inv X pins σ H s->(∀b∈fp,sF X pins H b)->tn i s.heap->J.stop i H->
  wpAny (model P w) X.A (pyNext (.ref it)) (λr s1=>r=none/\Inv X pins σ H s1) E s
 self:∀(A:Around) (i:Nat) (s:Shared) (Q:F8) (E:F8),tn i s.heap->Q (.ref it) s->wpAny (model P w) A (pyIter (.ref it)) Q E s
abbrev TI:=St->Hp->(It->Hp->Prop)->Prop
def PIE(X:Cx)(a:P4)(σ:St)(j:cu)(R:It->Hp->Prop)(d:au)(f:ba):Prop:=
 ∃(g:bc) (h:List bc) (i:Nat->cq->Prop) (J:It) (e:Hp),d=.ref g/\Inv X a σ e f/\Turn X.prog X.w X.K j J h g i/\i 0 f.heap/\(∀b∈h,sF X a e b)/\R J e
def PI(X:Cx)(b y8:cu)(d:TI):Prop:=
 ∀(a:P4) (s:ba) (σ:St) (H:Hp) (R:It->Hp->Prop),Inv X a σ H s->d σ H R->
  a9 (be X.prog X.w) X.A (dm y8 X.env) (λv e=>a9 (be X.prog X.w) X.A (pyIter v) (PIE X a σ b R) X.xe e) X.xe s
def UE{E : au → ba → Prop}{Q : Unit → ba → Prop} (b : s.heap.get? it = some o) (d : o.cls = .type n) (e : o.data = .fields L) (f : ["enumerate", "zip", "dict_itemiterator", "dict_reverseitemiterator", "odict_iterator", "itertools.zip_longest", "itertools.pairwise"].contains n = false) (a : Q () s) : a9 M A (letOwnedTupleGo g (.ref it) u) Q E s := by
  unfold letOwnedTupleGo;cases g <;> first
    | exact aAb a
    | (cases u <;> first
        | exact aAb a
        | (refine aAa (wpAny_load b ?_)
           rw [d, e];show a9 M A (if (["enumerate", "zip", "dict_itemiterator", "dict_reverseitemiterator", "odict_iterator", "itertools.zip_longest", "itertools.pairwise"].contains n && L[0]? == some (ez _)) = true then _ else _) Q E s;rw [h9 (by intro h; rw [f, Bool.false_and] at h; cases h)];exact aAb a))
def Itl(K:iu)(a:bc):It:=
 ⟨λi H=>∃Y x,P7 K H a Y/\Y[i]?=some x,λi H x b=>b=H/\∀Y,P7 K H a Y->Y[i]?=some x,λi H=>∃Y,P7 K H a Y/\Y.length<=i⟩
def Itt(K:iu)(a:bc):It:=
 ⟨λi H=>∃Y x,Y0 K H a Y/\Y[i]?=some x,λi H x b=>b=H/\∀Y,Y0 K H a Y->Y[i]?=some x,λi H=>∃Y,Y0 K H a Y/\Y.length<=i⟩
def LC{P:bM}{w:cp}{K:iu}{U:cu}(a it:bc):Turn P w K U (Itl K a) [it] it (λi h=>h.IsListIter it a i)where
 mem:=by simp
 obj:=λi h st b g=>by
  have e:b=it:=by simpa using g
  subst e;obtain⟨o,e,c,d⟩:=st;exact⟨o,e,λv z=>by rw[d]at z;cases z⟩
 keep:=λi h l st k=>st.at λo e=>k it (by simp) o e
 item:=by intro X q r t T i f s σ H E I m st y;subst q r t;obtain⟨Y,x,n,A⟩:=y;obtain⟨B,C,p,hz⟩:=I.list n;obtain⟨u,hu,ru⟩:=C.get A;obtain⟨J,L,f2,N,O,Q⟩:=m it (by simp);refine wpAny_pyNext_list_item st p.isList (x:=u) (by simpa using hu) λl j sb=>?_;have I1:Inv X f σ H {s with heap:=l}:=I.turned (t':=s.toks) (λb o g e=>(sb.2 b g).trans e) J L N O Q;obtain⟨o,e,c,d⟩:=id j;exact⟨u,rfl,UE (s:={s with heap:=l}) e c d (by decide) ⟨x,H,I1,ru,⟨rfl,λys hy=>by rw[I.ab9 hy n];exact A⟩,j,λb g=>(m b g).1⟩⟩
 done:=by intro X q r t T i f s σ H E I m st y;subst q r t;obtain⟨Y,n,A⟩:=y;obtain⟨B,C,p,hz⟩:=I.list n;obtain⟨J,L,f2,N,O,Q⟩:=m it (by simp);have hl:=C.length;exact wpAny_pyNext_list_end (I.ok.hd T) st p.isList (by simp;lia) λl eb=>⟨rfl,I.turned (t':=s.toks) (λb o g e=>eb b o g e) J L N O Q⟩
 self:=λ_ _ _ _ _ st h=>wpAny_pyIter_listiter st h
def DX{P:bM}{w:cp}{K:iu}{U:cu}(a it:bc):Turn P w K U (Itt K a) [it] it (λi h=>h.IsTupleIter it a i)where
 mem:=by simp
 obj:=λi h st b g=>by
  have e:b=it:=by simpa using g
  subst e;obtain⟨o,e,c,d⟩:=st;exact⟨o,e,λv z=>by rw[d]at z;cases z⟩
 keep:=λi h m st k=>st.at λo e=>k it (by simp) o e
 item:=by intro X r t y T i f s σ H E I n st A;subst r t y;obtain⟨Y,x,q,B⟩:=A;obtain⟨j,C,p,hz⟩:=I.tuple q;obtain⟨u,hu,ru⟩:=C.get B;obtain⟨J,L,f2,N,O,Q⟩:=n it (by simp);refine wpAny_pyNext_tuple_item st (show s.heap.IsTuple a j.toArray from p) (x:=u) (by simpa using hu) λm l sb=>?_;have I1:Inv X f σ H {s with heap:=m}:=I.turned (t':=s.toks) (λb o g e=>(sb.2 b g).trans e) J L N O Q;obtain⟨o,e,c,d⟩:=id l;exact⟨u,rfl,UE (s:={s with heap:=m}) e c d (by decide) ⟨x,H,I1,ru,⟨rfl,λys hy=>by rw[I.ab5 hy q];exact B⟩,l,λb g=>(n b g).1⟩⟩
 done:=by intro X r t y T i f s σ H E I n st A;subst r t y;obtain⟨Y,q,B⟩:=A;obtain⟨j,C,p,hz⟩:=I.tuple q;obtain⟨J,L,f2,N,O,Q⟩:=n it (by simp);have hl:=C.length;exact wpAny_pyNext_tuple_end (I.ok.hd T) st (show s.heap.IsTuple a j.toArray from p) (by simp;lia) λm eb=>⟨rfl,I.turned (t':=s.toks) (λb o g e=>eb b o g e) J L N O Q⟩
 self:=λ_ _ _ _ _ st h=>wpAny_pyIter_tupleiter st h
section
variable{X:Cx}{tg:cu}
def a1q(K:iu)(d:TE):TI:=λσ H R=>d σ H λx b=>∃a,x=.ref a/\(∃Y,P7 K b a Y)/\R (Itl K a) b
def a5o(K:iu)(d:TE):TI:=λσ H R=>d σ H λx b=>∃a,x=.ref a/\(∃Y,Y0 K b a Y)/\R (Itt K a) b
def VJ(i:PE X l j):PI X tg l (a1q X.K j):=by
 intro d s σ H R I h;refine F5 (i d s σ H _ I h) λv f ⟨x,k,g,m,n⟩=>?_;obtain⟨a,e,⟨Y,r⟩,q⟩:=n;subst e;cases m;obtain⟨t,w,p,y⟩:=g.list r;refine aDD p.isList ?_;refine⟨f.heap.objs.size,[f.heap.objs.size],_,_,k,rfl,g.kept (t':=f.toks) λb o e=>aAc _ e,LC a _,⟨_,aAr _ rfl,rfl,rfl⟩,λb u=>?_,q⟩;have e:b=f.heap.objs.size:=by simpa using u
 subst e;exact g.af4 (aAl _) (g.hok.fresh<|aAl _)
def yk{l:cu}{j:TE}(k:PE X l j):PI X tg l (a5o X.K j):=by
 intro d s σ H R I h;refine F5 (k d s σ H _ I h) λv f ⟨x,m,g,n,r⟩=>?_;obtain⟨a,e,⟨Y,t⟩,q⟩:=r;subst e;cases n;obtain⟨i,w,p,y⟩:=g.tuple t;refine wpAny_pyIter_tuple (show f.heap.IsTuple a i.toArray from p) ?_;refine⟨f.heap.objs.size,[f.heap.objs.size],_,_,m,rfl,g.kept (t':=f.toks) λb o e=>aAc _ e,DX a _,⟨_,aAr _ rfl,rfl,rfl⟩,λb u=>?_,q⟩;have e:b=f.heap.objs.size:=by simpa using u
 subst e;exact g.af4 (aAl _) (g.hok.fresh<|aAl _)
def a5q(e:TI)(g:TG)(tb:TS):TS:=λD σ H=>e σ H λJ f=>∃W:Nat->Nat->St->Hp->Prop,(∃m,W 0 m σ f)/\∀i m σ H,W i m σ H->
 (J.stop i H/\D.nx σ H)\/(J.go i H/\∃N:St->Hp->Prop,(∀b a,N b a->∃d,d<m/\W (i+1) d b a)/\∀x a,J.yld i H x a->g x σ a λh j=>tb {D with nx:=N,ct:=N,bk:=D.nx} h j)
def qP(a:List bc)(h:cq):List (bc×Obj):=a.filterMap λb=>(h.get? b).map λo=>(b,o)
def bB(a:b∈d)(e:h.get? b=some o):(b,o)∈qP d h:=aCa.mpr ⟨b,a,by rw[e];rfl⟩
def JN(a:p∈qP d h):p.1∈d/\h.get? p.1=some p.2:=by
 obtain⟨b,f,e⟩:=aCa.mp a;cases q:h.get? b with
 |none=>rw[q]at e;cases e
 |some o=>rw[q]at e;have g:(b,o)=p:=Option.some.inj e;subst g;exact⟨f,q⟩
def Inv.pinned(I:Inv X a σ H s)(i:∀b∈f,sF X a H b)(j:∀b∈f,∃o,s.heap.get? b=some o/\∀v,o.data≠.cell v):Inv X (a++qP f s.heap) σ H s:=
 I.ad5 λp k=>(aAD.mp k).elim (λz=>I.pin p (aAN _ z)) λz=>by obtain⟨g,e⟩:=JN z;obtain⟨l,m,n,_⟩:=i p.1 g;obtain⟨o,h,d⟩:=j p.1 g;rw[e]at h;cases h;exact⟨e,l,m,n,d⟩
def Inv.ab4(I:Inv X (a++d) σ H s):Inv X a σ H s:=I.ad5 λp b=>I.pin p (aAN _<|aBl _ b)
def nq(B:PassesOwn (be X.prog X.w) X.A X.env X.xe)(hc:X.calm=true)(hi:PI X tg y8 wi)(hg:PG X tg g)(j:uU X body tb)(hs:∀x,d7 y8 X.env x=pure x:=by intro _;rfl):PS X (.For tg y8 body [] pos) (a5q wi g tb):=by
 intro a s σ H D I h;refine wpAny_For (F5 (hi a s σ H _ I h) λv s1 h1=>F5 h1 λitv s2 h2=>?_) hs;obtain⟨it,C,tn,J,H2,e,I2,T,kr,f2,W,⟨m0,w0⟩,turn⟩:=h2;subst e;have k:∀{t:Hp},(∀b∈C,t b=none)->∀b∈C,sF X a t b:=λhn b j=>⟨hn b j,(f2 b j).2⟩;refine codeAny_forLoop_any (λn s'=>∃i E t,Inv X a E t s'/\tn i s'.heap/\(∀b∈C,t b=none)/\W i n E t) ?_ m0 ⟨0,σ,H2,I2,kr,λb j=>(f2 b j).1,w0⟩;rintro n s3 ⟨i,L,Y,I3,O,Q,w3⟩;rcases turn i n L Y w3 with⟨stop,qn⟩|⟨go,N,hN,step⟩
 .refine aDd B (F5 (T.done X rfl rfl rfl hc i a s3 L Y X.xe I3 (k Q) O stop) λr s4 ⟨hr,I4⟩=>?_);subst hr;exact aED ⟨L,Y,I4,qn⟩
 refine aDd B (F5 (T.item X rfl rfl rfl hc i a s3 L Y X.xe I3 (k Q) O go) λr s4 ⟨u,hr,h4⟩=>?_);subst hr;refine aDd B (F5 h4 λ_ s5 ⟨x,H5,I5,r5,y5,z,fr5⟩=>?_);have I5':=I5.pinned (k fr5) (T.obj _ _ z);refine aDd B (F5 (hg _ s5 L H5 x u _ I5' r5<|step x H5 y5) λ_ s6 ⟨σ6,H6,I6,q6⟩=>?_);refine aDd B (F5 (j _ s6 σ6 H6 _ I6 q6) λf s7 y=>?_);have again:∀{l:St}{p:Hp},Inv X (a++qP C s5.heap) l p s7->N l p->∃m,m<n/\∃i E t,Inv X a E t s7/\tn i s7.heap/\(∀b∈C,t b=none)/\W i m E t:=λ{l p} q U=>by obtain⟨m',hm,w7⟩:=hN l p U;refine⟨m',hm,i+1,l,p,q.ab4,T.keep _ _ _ z λb j o e=>(q.pin (b,o)<|aAN _<|aAN _<|bB j e).1,λb j=>?_,w7⟩;obtain⟨o,e,d⟩:=T.obj _ _ z b j;exact(q.pin (b,o)<|aAN _<|aAN _<|bB j e).2.1
 cases f with
 |next=>obtain⟨l,p,q,U⟩:=y;exact again q U
 |cont=>obtain⟨l,p,q,U⟩:=y;exact again q U
 |brk=>obtain⟨l,p,q,y⟩:=y;exact⟨l,p,q.ab4,y⟩
 |ret v=>obtain⟨x7,l,p,q,r7,y⟩:=y;exact⟨x7,l,p,q.ab4,r7,y⟩
end
abbrev R2:=V->V->Hp->VK->Prop
def iV(X:Cx)(f:au->au->Sem au)(r:R2):Prop:=
 ∀(a:P4) (s:ba) (σ:St) (H:Hp) (x y:V) (v u:au) (Q:VK),Inv X a σ H s->RelV x v->RelV y u->r x y H Q->
  a9 (be X.prog X.w) X.A (f v u) (EP X a σ Q) X.xe s
def UnR(X:Cx)(f:au->Sem au)(r:V->Hp->VK->Prop):Prop:=
 ∀(a:P4) (s:ba) (σ:St) (H:Hp) (x:V) (v:au) (Q:VK),Inv X a σ H s->RelV x v->r x H Q->
  a9 (be X.prog X.w) X.A (f v) (EP X a σ Q) X.xe s
def tN(X:Cx)(f:au)(r:List V->Hp->VK->Prop):Prop:=
 ∀(a:P4) (s:ba) (σ:St) (H:Hp) (Y:List V) (b:List au) (Q:VK),Inv X a σ H s->l7 Y b->r Y H Q->
  a9 (be X.prog X.w) X.A (call f b) (EP X a σ Q) X.xe s
def tUn(r:V->Hp->VK->Prop)(ta:TE):TE:=λσ H Q=>ta σ H λx a=>r x a Q
def rI(C:Int->Int->Prop)(g:Int->Int->V):R2:=λx y H Q=>∃i j,x=.int i/\y=.int j/\C i j/\Q (g i j) H
def az(g:Int->Int->V):R2:=λx y H Q=>∃i j,x=.int i/\y=.int j/\Q (g i j) H
def rU(g:Int->V):V->Hp->VK->Prop:=λx H Q=>∃i,x=.int i/\Q (g i) H
section
variable{X:Cx}{a b c:cu}{ta tb tc:TE}{pos:Pos}
def MA(j:PE X a ta)(k:PE X b tb){d:P4}{s:ba}{σ:St}{H:Hp}{R:V->V->Hp->Prop}(I:Inv X d σ H s)
  (h:ta σ H λx i=>tb σ i λy e=>R x y e) {Q:F8}{f:au->au->Sem au}
  (l:∀v u g x y e,Inv X d σ e g->RelV x v->RelV y u->R x y e->a9 (be X.prog X.w) X.A (f v u) Q X.xe g):
  a9 (be X.prog X.w) X.A (dm a X.env) (λv m=>a9 (be X.prog X.w) X.A (dm b X.env) (λu n=>a9 (be X.prog X.w) X.A (f v u) Q X.xe n) X.xe m) X.xe s:=by
 refine F5 (j d s σ H _ I h) λv o ⟨x,i,p,q,r⟩=>?_;refine F5 (k d o σ i _ p r) λu g ⟨y,e,t,z,B⟩=>?_;exact l v u g x y e t q z B
def a1z{r:V->Hp->VK->Prop}(e:UnR X (unaryOp op) r)(f:PE X a ta):PE X (.UnaryOp op a pos) (tUn r ta):=by intro d s σ H Q I h;exact UnaryOp_ (F5 (f d s σ H _ I h) λv g ⟨x,i,j,k,l⟩=>e d g σ i x v Q j k l)
def opI{f:au->au->Sem au}{C:Int->Int->Prop}{g:Int->Int->Int}
  (rule:∀(i j:Int) (t u:Tok) (s:ba) (Q:F8) (E:F8),C i j->Q (.int (g i j) s.toks) {s with toks:=s.toks+1}->a9 (be X.prog X.w) X.A (f (.int i t) (.int j u)) Q E s):
  iV X f (rI C λi j=>.int (g i j)):=by
 intro d s σ H x y v u Q I e k h;obtain⟨i,j,rfl,rfl,l,q⟩:=h;obtain⟨t,rfl⟩:=e;obtain⟨m,rfl⟩:=k;exact rule i j t m s _ _ l ⟨.int (g i j),H,I.tok _,⟨_,rfl⟩,q⟩
def a2f{f:au->au->Sem au}{g:Int->Int->Int}
  (rule:∀(i j:Int) (t u:Tok) (s:ba) (Q:F8) (E:F8),Q (.int (g i j) s.toks) {s with toks:=s.toks+1}->a9 (be X.prog X.w) X.A (f (.int i t) (.int j u)) Q E s):
  iV X f (az λi j=>.int (g i j)):=by
 intro d s σ H x y v u Q I e k h;obtain⟨i,j,rfl,rfl,q⟩:=h;obtain⟨t,rfl⟩:=e;obtain⟨l,rfl⟩:=k;exact rule i j t l s _ _ ⟨.int (g i j),H,I.tok _,⟨_,rfl⟩,q⟩
def yj{f:au->au->Sem au}{g:Int->Int->Bool}
  (rule:∀(i j:Int) (t u:Tok) (s:ba) (Q:F8) (E:F8),Q (.bool (g i j)) s->a9 (be X.prog X.w) X.A (f (.int i t) (.int j u)) Q E s):
  iV X f (az λi j=>.bl (g i j)):=by
 intro d s σ H x y v u Q I e k h;obtain⟨i,j,rfl,rfl,q⟩:=h;obtain⟨t,rfl⟩:=e;obtain⟨l,rfl⟩:=k;exact rule i j t l s _ _ ⟨.bl (g i j),H,I,rfl,q⟩
def a3x(i j:Int):Prop:=0<=j/\j<=1000000/\i.natAbs<2^64
def vq:iV X (ee .Add) (az λi j=>.int (i+j)):=a2f λ_ _ _ _ _ _ _ q=>add_int q
def vk:iV X (ee .Sub) (az λi j=>.int (i-j)):=a2f λ_ _ _ _ _ _ _ q=>sub_int q
def WY:iV X (ee .Mod) (rI (λ_ j=>j≠0) λi j=>.int (i.fmod j)):=opI λ_ _ _ _ _ _ _ d q=>mod_int' d q
def pj:iV X (ee .Pow) (rI a3x λi j=>.int (i^j.toNat)):=opI λ_ _ _ _ _ _ _ d q=>pow_int_small d.1 d.2.1 d.2.2 q
def unI{f:au->Sem au}{g:Int->Int}
  (rule:∀(i:Int) (t:Tok) (s:ba) (Q:F8) (E:F8),Q (.int (g i) s.toks) {s with toks:=s.toks+1}->a9 (be X.prog X.w) X.A (f (.int i t)) Q E s):
  UnR X f (rU λi=>.int (g i)):=by
 intro d s σ H x v Q I e h;obtain⟨i,rfl,q⟩:=h;obtain⟨t,rfl⟩:=e;exact rule i t s _ _ ⟨.int (g i),H,I.tok _,⟨_,rfl⟩,q⟩
def yw:UnR X (unaryOp .USub) (rU λi=>.int (-i)):=unI λ_ _ _ _ _ q=>neg_int q
end
section
variable{X:Cx}{a b c:cu}{ta tb tc:TE}{pos:Pos}
def bx(I:Inv X d σ H s)(q:Q (.bl k) H)(e:k=f):EP X d σ Q (.bool f) s:=by subst e;exact⟨.bl k,H,I,rfl,q⟩
def a2i:iV X (dq .Lt) (az λi j=>.bl (decide (i<j))):=yj λ_ _ _ _ _ _ _ q=>lt_int q
def QE:iV X (dq .LtE) (az λi j=>.bl (decide (i<=j))):=yj λ_ _ _ _ _ _ _ q=>le_int q
def a2q:iV X (dq .Gt) (az λi j=>.bl (decide (j<i))):=yj λ_ _ _ _ _ _ _ q=>gt_int q
def wz:iV X (dq .Is) (λx y H Q=>y=.non/\Q (.bl (decide (x=.non))) H):=by
 intro d s σ H x y v u Q I e f h;obtain⟨rfl,q⟩:=h;cases f;refine is_none_gen (bx I q ?_);cases x<;>first
  |(cases e;rfl)
  |(obtain⟨t,rfl⟩:=e;rfl)
def SQ(b:cu)(h:op≠.In:=by decide)(d:op≠.NotIn:=by decide):gy op b=false:=by
 have e:(op==CmpOp.In)=false:=by cases op<;>first|rfl|exact absurd rfl h
 have f:(op==CmpOp.NotIn)=false:=by cases op<;>first|rfl|exact absurd rfl d
 cases b<;>simp[gy,e,f]
def dz(r e:R2)(ta tb tc:TE):TE:=λσ H Q=>ta σ H λx f=>tb σ f λy g=>r x y g λz d=>∃k,z=.bl k/\
 (if k=true then tc σ d λh i=>e y h i Q else Q (.bl false) d)
def MI(n:iV X (dq op) r)(o:iV X (dq g) p)(q:PE X a ta)(t:PE X b tb)(w:PE X c tc)(A:lastMarks [op,g] [b,c]=false:=by with_unfolding_all rfl):PE X (.Compare a [op,g] [b,c] pos) (dz r p ta tb tc):=by
 intro f s σ H Q I h;refine Compare_chain (F5 (q f s σ H _ I h) λv B ⟨x,C,E,J,L⟩=>chain_link (F5 (t f B σ C _ E L) λu N ⟨y,O,T,i,U⟩=>F5 (n f N σ O x y v u _ T J i U) λd Y ⟨z,j,l,r3,k,e,m⟩=>?_)) A
 subst e;cases r3;refine aBu ?_;cases k with
 |false=>exact ite_ff ⟨.bl false,j,l,rfl,m⟩
 |true=>exact ite_tt (chain_last<|F5 (w f Y σ j _ l m) λw' s4 ⟨z',H4,I4,r4,q4⟩=>o f s4 σ H4 y z' u w' Q I4 i r4 q4)
def xN:(sizeLine:Nat)<2^63:=by rw[aFu];decide
def vals1(r:l7 [x] d):∃u,d=[u]/\RelV x u:=by
 cases r with
 |cons e f=>cases f;exact⟨_,rfl,e⟩
def vals2(r:l7 [x,y] e):∃u d,e=[u,d]/\RelV x u/\RelV y d:=by
 cases r with
 |cons f g=>
  cases g with
  |cons h i=>cases i;exact⟨_,_,rfl,f,h⟩
def RH:tN X (.builtin "abs") (λY H Q=>∃i,Y=[.int i]/\Q (.int (if i<0 then-i else i)) H):=by intro d s σ H Y e Q I r h;obtain⟨i,rfl,q⟩:=h;obtain⟨u,rfl,t,rfl⟩:=vals1 r;exact call_abs_int λu f=>⟨.int (if i<0 then-i else i),H,I.tok _,⟨_,rfl⟩,q⟩
def JS(f:X.calm=true):tN X (.builtin "max") (λY H Q=>∃i j,Y=[.int i,.int j]/\Q (.int (if j>i then j else i)) H):=by
 intro e s σ H Y g Q I r h;obtain⟨i,j,rfl,q⟩:=h;obtain⟨u,l,rfl,⟨t,rfl⟩,⟨m,rfl⟩⟩:=vals2 r;refine max_two_ints (I.ok.hd f) λn o k=>⟨_,H,I.kept k,?_,q⟩;by_cases d:j>i
 .rw[hV d,hV d];exact⟨_,rfl⟩
 rw[h9 d,h9 d];exact⟨_,rfl⟩
end
section
variable{prog:bM}{w:cp}{A:cf}{E:F8}{s:ba}{K:iu}{x dx C f:bc}{mA:cM}{name:Str}{v:au}
end
section
variable{P:bM}{w:cp}{H H':Hp}{h h':cq}{a C dx:bc}{fs yb:List (Str×V)}
end
section
variable{X:Cx}{pins:P4}{σ:St}{H:Hp}{s:ba}{a C dx:bc}{fs:List (Str×V)}{f:Str}{v:V}{A:cf}{E:F8}
end
section
variable{X:Cx}{o e value:cu}{f:Str}{pos pos' tpos:Pos}{ta tv:TE}
end
section
variable{X:Cx}{pins:P4}{σ:St}{H:Hp}{s:ba}{A:cf}{E:F8}{Q:F8}{c:au}{b:Bool}
end
structure Room(k:Nat)(A:Around):Prop where
 hd:A.handled=none
 dp:A.depth+3*k+5<recursionLimit
 un:A.units+16*k+200<cLine
def Room.mono(r:Room k A)(h:j<=k):Room j A:=⟨r.hd,by have:=r.dp;lia,by have:=r.un;lia⟩
def Room.deeper(r:Room (k+1) A)(env:Env):Room k (A.deeper env):=
 ⟨r.hd,by have:=r.dp;show A.depth+1+3*k+5<_;lia,by have:=r.un;show A.units+3+16*k+200<_;lia⟩
def Room.depth(r:Room k A):A.depth<recursionLimit:=by have:=r.dp;lia
def Room.units(r:Room k A):A.units+64<cz:=by have:=r.un;lia
def a5j:TA:=λ_ H Q=>Q [] H
def a1v(ta:TE)(tr:TA):TA:=λσ H Q=>ta σ H λx a=>tr σ a λY b=>Q (x::Y) b
section
variable{X:Cx}{e:cu}{es:List cu}{te:TE}{t:TA}{pos:Pos}
def dG:PA X [] a5j:=λ_ _ _ _ H Q I h=>aFo ⟨[],H,I,.nil,h⟩
def O9(b:PE X e te)(d:PA X es t)(f:bb (e::es) X.env=(false,dm e X.env)::bb es X.env:=by rfl):PA X (e::es) (a1v te t):=by intro pos a s σ H Q I h;rw[f];show a9 _ _ (spliced ((false,dm e X.env)::cy pos (bb es X.env))) _ _ s;refine aEY (F5 (b a s σ H _ I h) λu g ⟨x,i,j,k,l⟩=>?_);exact F5 (d pos a g σ i _ j l) λq r ⟨Y,m,n,o,p⟩=>⟨x::Y,m,n,.cons k o,p⟩
def a3w(t:TA):TE:=λσ H Q=>t σ H λY a=>Y.length<=sizeLine/\∀p,a p=none->Q (.ref p) (upd a p<|.tup Y)
def a4l(t:TA):TE:=λσ H Q=>t σ H λY a=>Y.length<=sizeLine/\∀p,a p=none->Q (.ref p) (upd a p<|.lst Y)
def rq{i}(h:PA X es t):PE X (.Tuple es i pos) (a3w t):=by intro a s σ H Q I j;refine wpAny_Tuple_spliced (F5 (h pos a s σ H _ I j) λk d ⟨Y,f,g,r,z,q⟩=>⟨by rw[<-r.length];exact z,?_⟩);have l:f d.heap.objs.size=none:=g.hok.fresh (aAl _);refine⟨.ref d.heap.objs.size,upd f d.heap.objs.size (.tup Y),g.laid (t':=d.toks) (λb u e=>aAc _ e) (aAl _) ?_,rfl,q _ l⟩;exact⟨z,k,r,⟨_,aAr _ rfl,rfl,_,rfl⟩⟩
def OD(h:PA X es t):PE X (.List es pos) (a4l t):=by intro a s σ H Q I i;refine wpAny_List_spliced (F5 (h pos a s σ H _ I i) λj d ⟨Y,f,g,r,z,q⟩=>⟨by rw[<-r.length];exact z,?_⟩);have k:f d.heap.objs.size=none:=g.hok.fresh (aAl _);refine⟨.ref d.heap.objs.size,upd f d.heap.objs.size (.lst Y),g.laid (t':=d.toks) (λb u e=>aAc _ e) (aAl _) ?_,rfl,q _ k⟩;exact⟨z,j,0,r,aAr _ rfl⟩
end
abbrev Sp:=List V->Hp->VK->XK->Prop
abbrev UP:=List Env->Hp->ba->XK->au->ba->Prop
structure Env0(P:Program)(w:World)(K:PySem.W.Frag)(mg:cM)(base:Heap)(A:Around)(outer:List Env)(s:Shared)(H:Hp):Prop where
 frames:A.frames=some outer
 mod:Mod K mg base
 bs:∀b o,base.get? b=some o->s.heap.get? b=some o/\H b=none
 bsz:base.objs.size<=s.heap.objs.size
 funs:s.heap.FunFrames base outer
 frf:∀b∈yV outer,H b=none
 hok:fT P w H s.heap
 bare:AllBare s.gens
def CE(a:List Env)(P:bM)(w:cp)(H:Hp)(s:ba)(Q:VK)(u:au)(s':ba):Prop:=
 ∃v b,s'.os=s.os/\AllBare s'.gens/\Un (yV a) [] H b s.heap s'.heap/\fT P w b s'.heap/\RelV v u/\Q v b
def CR(b:UP)(a:List Env)(P:bM)(w:cp)(H:Hp)(s:ba)(Q:VK)(E:XK)(r:Result)(s':ba):Prop:=
 match r with
 |.ok (.ret u)=>CE a P w H s Q u s'
 |.ok _=>False
 |.error e=>b a H s E e s'
structure FnOk(P:Program)(w:World)(K:PySem.W.Frag)(mg:cM)(base:Heap)(CX:UP)(k:Nat)(f:Addr)(fd:FuncData)(ps:List Str)(sp:Sp):Prop where
 len:∀L H Q E,sp L H Q E->L.length=ps.length
 run:∀(A:Around) (outer:List Env) (s:Shared) (H:Hp) (args:Args) (us:List Value) (L:List V) (Q:VK) (E:XK),Room k A->Env0 P w K mg base A outer s H->BindsTo s fd args (ps.zip us)->l7 L us->sp L H Q E->
  codeAny (model P w) A (.call (.ref f) args) (CR CX outer P w H s Q E) s
def FnOk.imp{P:bM}{w:cp}{K:iu}{mg:cM}{base:cq}{e:UP}{k:Nat}{f:bc}{fd:dA}{ps:List Str}{g b:Sp}(F:FnOk P w K mg base e k f fd ps g)
  (h:∀L H Q E,b L H Q E->g L H Q E):FnOk P w K mg base e k f fd ps b:=
 ⟨λL H Q E q=>F.len L H Q E (h _ _ _ _ q),λA a s H d i L Q E j l m n o=>F.run A a s H d i L Q E j l m n (h _ _ _ _ o)⟩
section
variable{X:Cx}{pins:P4}{σ:St}{H:Hp}{s s':ba}
def Inv.af0(I:Inv X pins σ H s):Env0 X.prog X.w X.K X.mg X.base X.A X.stack s H:=
 ⟨I.ok.frames,I.ok.mod,I.bs,aAp I.ok.bsz I.sz,I.stack,I.ad6,I.hok,I.bare⟩
def Inv.after(I:Inv X pins σ H s)(h:CE X.stack X.prog X.w H s Q u s'):EP X pins σ Q u s':=by obtain⟨v,i,os,a,un,e,r,q⟩:=h;obtain⟨j,g,d,t,f⟩:=s';obtain rfl:f=s.os:=os;exact⟨v,i,I.call (h':=j) (g':=g) (d':=d) (t':=t) (ch:=[]) un e a (λb z=>absurd z (by simp)),r,q⟩
end
def a2t(b:Sp)(a:List V)(E:XK)(t:TA):TE:=λσ H Q=>t σ H λL d=>b (L++a) d Q E
def Binds(K:iu)(fd:dA)(ps:List Str)(ds:List au):Prop:=
 ∀(s:ba) (us:List au),K.In s.heap->(us++ds).length=ps.length->BindsTo s fd ⟨us,[]⟩ (ps.zip<|us++ds)
def Binds.all{K:iu}{fd:dA}{ps:List Str}(h:∀a:List au,a.length=ps.length->bindArgs fd ⟨a,[]⟩=pure (ps.zip a)):Binds K fd ps []:=λs a _ b=>by rw[aCb]at b⊢;exact .of_eq (h a b)
def CB(d:UP)(X:Cx)(E:XK):Prop:=∀(a:P4) (σ:St) (H:Hp) (s:ba) (e:au) (b:ba),Inv X a σ H s->d X.stack H s E e b->X.xe e b
section
variable{X:Cx}{CX:UP}{k:Nat}{f C:bc}{fd:dA}{ps:List Str}{sp:Sp}{dvs:List V}{ds:List au}{E:XK}{x m:Str}{p pos apos:Pos}{e o:cu}{es:List cu}{ta:TE}{t:TA}
def tq(F:FnOk X.prog X.w X.K X.mg X.base CX k f fd ps sp)(i:Room k X.A)(j:Binds X.K fd ps ds)(l:l7 dvs ds)(n:CB CX X E)(I:Inv X a σ H s)(r:l7 L b)(h:sp (L++dvs) H Q E):a9 (be X.prog X.w) X.A (call (.ref f) b) (EP X a σ Q) X.xe s:=by
 have g:l7 (L++dvs) (b++ds):=r.append l;have q:(b++ds).length=ps.length:=by rw[<-g.length];exact F.len _ _ _ _ h
 refine wpAny_call (aDU (F.run X.A X.stack s H ⟨b,[]⟩ (b++ds) (L++dvs) Q E i I.af0 (j s b I.kIn q) g h) λr v d=>?_);cases r with
 |error e=>exact n a σ H s e v I d
 |ok y=>
  cases y with
  |ret u=>exact I.after d
  |next=>exact aAf d
  |brk=>exact aAf d
  |cont=>exact aAf d
def HF(F:FnOk X.prog X.w X.K X.mg X.base CX k f fd ps sp)(d:Room k X.A)(g:Gl X x)(i:X.mg x=some (.ref f))(j:PySem.W.keepIn X.K (.ref f)=true)(l:Binds X.K fd ps ds)(n:l7 dvs ds)(u:CB CX X E)
  (v:PA X (e::es) t) (y:(x==ix)=false:=by decide) (z:bb (e::es) X.env=(false,dm e X.env)::bb es X.env:=by rfl) (B:(cy pos (bb es X.env)).any (·.1)=false:=by rfl):
  PE X (.Call (.Name x p) (e::es) [] pos) (a2t sp dvs E t):=by
 intro a s σ H Q I h;refine aBg (xA I g i ?_ y);refine PySem.W.callWith_K (h₀:=X.base) I.ok.mod.kin j (F5 (v pos a s σ H _ I h) λJ N ⟨L,O,b,r,q⟩=>⟨b.kIn,?_⟩) z B;exact tq F d l n u b r q
structure Mk(K:PySem.W.Frag)(C f:Addr):Prop where
 makes:PySem.W.makesIn K C=true
 init:PySem.W.findIn K (.ref C) "__init__"=some (some (.ref f))
 fn:PySem.W.isFn K (.ref f)=true
 kp:PySem.W.keepIn K (.ref C)=true
end
section
variable{X:Cx}{CX:UP}{k:Nat}{f C:bc}{fd:dA}{ps ks:List Str}{sp:Sp}{E:XK}{x m:Str}{p pos apos kpos:Pos}{e o:cu}{es:List cu}{kws:List Keyword}{te ta:TE}{t tk:TA}{nm:Option Str}
variable{g:List au->List au->List au}{gV:List V->List V->List V}
end
structure FnScope(N P:List Str)(sc:Scope):Prop where
 kind:sc.kind=.function
 co:sc.isCoroutine=false
 gen:sc.isGenerator=false
 nd:N.Nodup
 pre:N.take P.length=P
 par:∀x∈P,sc.names.lookup x=some .local\/sc.names.lookup x=some .cell
 nofree:∀y∈sc.names,y.2≠.free
theorem uK{kindOf:Str->Option ek}{x:Str}:∀{binds:List (Str×au)}{m:cM},(∀v,(x,v)∉binds)->bindL kindOf binds m x=m x
 |[],_,_=>rfl
 |(n,v)::r,m,h=>by
  unfold bindL;rw[uK λw a=>h w (aAe _ a)];split
  .have:x≠n:=by rintro rfl;exact h v aBn
   simp[this]
  rfl
theorem tU{kindOf:Str->Option ek}{x:Str}:∀{binds:List (Str×au)}{m:cM},(∀v,(x,v)∉binds)->bindC kindOf binds m x=m x
 |[],_,_=>rfl
 |(n,v)::r,m,h=>by
  unfold bindC;rw[tU λw a=>h w (aAe _ a)];split
  .rfl
  have:x≠n:=by rintro rfl;exact h v aBn
  simp[this]
theorem tZ{kindOf:Str->Option ek}{x:Str}{v:au}:∀{P:List Str}{L:List au}{i:Nat}{m:cM},P.Nodup->P[i]?=some x->L[i]?=some v->kindOf x=some .local->
  bindL kindOf (P.zip L) m x=some v
 |[],_,_,_,_,h,_,_=>by simp at h
 |_::_,[],_,_,_,_,h,_=>by simp at h
 |p::P,w::L,0,m,d,a,b,e=>by simp at a b;subst a;subst b;show bindL kindOf ((p,w)::P.zip L) m p=_;unfold bindL;rw[uK λv f=>(aAH.mp d).1 (aDZ f).1,hV e];simp
 |p::P,w::L,i+1,m,d,a,b,e=>by show bindL kindOf ((p,w)::P.zip L) m x=_;unfold bindL;exact tZ (i:=i) (aAH.mp d).2 (by simpa using a) (by simpa using b) e
theorem uJ{kindOf:Str->Option ek}{x:Str}{v:au}:∀{P:List Str}{L:List au}{i:Nat}{m:cM},P.Nodup->P[i]?=some x->L[i]?=some v->kindOf x≠some .local->
  bindC kindOf (P.zip L) m x=some v
 |[],_,_,_,_,h,_,_=>by simp at h
 |_::_,[],_,_,_,_,h,_=>by simp at h
 |p::P,w::L,0,m,d,a,b,e=>by simp at a b;subst a;subst b;show bindC kindOf ((p,w)::P.zip L) m p=_;unfold bindC;rw[tU λv f=>(aAH.mp d).1 (aDZ f).1,h9 e];simp
 |p::P,w::L,i+1,m,d,a,b,e=>by show bindC kindOf ((p,w)::P.zip L) m x=_;unfold bindC;exact uJ (i:=i) (aAH.mp d).2 (by simpa using a) (by simpa using b) e
def start(N:List Str)(L:List V):St:=L.map some++aCZ (N.length-L.length) none
def ED(d:UP)(P:bM)(w:cp)(K:iu)(mg:cM)(base:cq)(N:List Str)(qual:Str)(a:gW)(f:bc)(cd:au)(A:cf)(outer:List Env)(s:ba)(H:Hp)(E:XK):Cx where
 prog:=P
 w:=w
 K:=K
 mg:=mg
 base:=base
 A:=A.deeper (envOfC qual a s.heap.objs.size f cd)
 N:=N
 s9:=s
 H9:=H
 env:=envOfC qual a s.heap.objs.size f cd
 outer:=outer
 stack:=envOfC qual a s.heap.objs.size f cd::outer
 ex:=[]
 calm:=true
 fn:=λ_=>true
 pn:=[]
 xe:=λe g=>a9 (be P w) (A.deeper<|envOfC qual a s.heap.objs.size f cd) (leaving (envOfC qual a s.heap.objs.size f cd) e) (λ_ b=>d outer H s E e b) (λh b=>d outer H s E h b) g
def AA{sc:gW}{n:Nat}{x:Str}(h:sc.names.lookup x=some .cell):∃c,(d3 n sc.names []).lookup x=some c:=by have q:=PySem.W.cellsFrom_some sc.names n [] (.inl h);exact aFp.mp q
def JB{O:UP}{P:bM}{w:cp}{K:iu}{mg:cM}{base:cq}{N ps:List Str}{qual:Str}{d:gW}{f:bc}{cd:au}{A:cf}{g:List Env}{s Q:ba}{H:Hp}{E:XK}{J:List au}{L:List V}
  (S:FnScope N ps d) (Y:A.handled=none) (l:Env0 P w K mg base A g s H) (hl:L.length=ps.length) (r:l7 L J)
  (x:InCallC s s.heap.objs.size (bindL (envOfC qual d s.heap.objs.size f cd).kindOf (ps.zip J) λ_=>none) (d3 (s.heap.objs.size+1) d.names []) (bindC (envOfC qual d s.heap.objs.size f cd).kindOf (ps.zip J) λ_=>none) Q):
  Inv (ED O P w K mg base N qual d f cd A g s H E) [] (start N L) H Q:=by
 have bf:ps.length<=N.length:=by have:=ip List.length S.pre;rw[aBU]at this;lia
 obtain⟨C,tk,rfl,T⟩:=x.done;have m:∀b:bc,b∉(ED O P w K mg base N qual d f cd A g s H E).ex:=λb z=>absurd (show b∈([]:List bc)from z) (by simp);refine⟨⟨l.mod,S.kind,rfl,rfl,aAl _,λy z c C j=>?_,λy o=>?_,λy c _ h=>?_,λ_=>Y,aGb l.frames,.inr ⟨rfl,rfl⟩,λb z=>absurd z (m b),l.bs,l.bsz,λb _ _=>m b,λb z=>absurd z (m b),l.funs,l.frf⟩,
  rfl,l.bare,Un.kept T,⟨_,x.toInCall.ns,λi y v C j h3=>?_⟩,λy c h=>⟨_,x.cell y c h⟩,l.hok.fresh (aAl _),λy c h=>?_,λp t=>absurd (show p∈([]:P4)from t) (by simp),l.hok.kept T,?_⟩
 .exact name_of_addr x.apart (PySem.mem_of_lookup C) (PySem.mem_of_lookup j)
 .have o:d.names.lookup y=some .cell\/d.names.lookup y=some .free:=o;rcases o with o|o
  .exact AA o
  exact absurd rfl (S.nofree _<|PySem.mem_of_lookup o)
 .exact aDw (x.above y c<|PySem.mem_of_lookup h)
 .have I:i<L.length:=by
   unfold start at j;by_cases I:i<L.length
   .exact I
   rw[aAA (by simpa using I)]at j;rw[aBA]at j;split at j<;>cases j
  have ha:L[i]?=some v:=by
   unfold start at j;rw[aBb (by simpa using I),aAG]at j;cases e:L[i]? with
   |none=>rw[e]at j;cases j
   |some a=>rw[e]at j;cases j;rfl
  obtain⟨u,U,rv⟩:=r.get ha;have t:ps[i]?=some y:=by rw[<-S.pre,List.getElem?_take_of_lt (by lia)];exact C
  have B:ps.Nodup:=by rw[<-S.pre];exact S.nd.sublist (List.take_sublist _ _)
  refine⟨u,rv,?_⟩;rcases S.par y (aAx t)with k|k
  .exact .inl ⟨k,tZ B t U k⟩
  obtain⟨c,e⟩:=AA (n:=s.heap.objs.size+1) k;refine .inr ⟨.inl k,c,e,?_⟩;have q:=x.cell y c e;rw[uJ B t U (by show d.names.lookup y≠_;rw[k];decide)]at q;exact q
 .exact l.hok.fresh (aDw<|x.above y c<|PySem.mem_of_lookup h)
 unfold start;show _=N.length;rw[aAz,aAh,aCs]
 lia
def ZW{p:UP}{P:bM}{w:cp}{K:iu}{mg:cM}{base:cq}{k:Nat}{f:bc}{name qual:Str}{g:Arguments}{body:List cv}{a:gW}{dV kV i pm C ct oc:au}{an od:Option bc}
  {B:Array (Option au)}{N ps:List Str}{O:Sp} (lk:K.lookup f=some ⟨oc,od,.func (PySem.W.fnOf name qual g body a dV kV i pm an C ct),B⟩) (dc:PySem.W.codeIn K C qual=true) (S:FnScope N ps a)
  (len:∀L H Q E,O L H Q E->L.length=ps.length)
  (we:∀(A:cf) (d:List Env) (s:ba) (H:Hp) (L:List V) (Q:VK) (E:XK),Room k (A.deeper (envOfC qual a s.heap.objs.size f C))->O L H Q E->
   ∃t,uU (ED p P w K mg base N qual a f C A d s H E) body t/\t {nx:=λ_ H'=>Q .non H',rt:=Q} (start N L) H):
  FnOk P w K mg base p (k+1) f (PySem.W.fnOf name qual g body a dV kV i pm an C ct) ps O:=by
 refine⟨len,λA d s H args us L Q E T j hb r l=>?_⟩;have hl:=len _ _ _ _ l;have KX:K.In s.heap:=j.mod.kin.keeps λb o e=>(j.bs b o e).1;have U:s.heap.NoLimit:=j.mod.nolimit.keeps λb o e=>(j.bs b o e).1;have ou:∀y∈ps.zip us,a.names.lookup y.1=some .local\/(a.names.lookup y.1=some .cell/\((d3 (s.heap.objs.size+1) a.names []).lookup y.1).isSome=true):=λ⟨n,v⟩ hy=>by
  rcases S.par n (aDZ hy).1 with q|q
  .exact .inl q
  exact .inr ⟨q,PySem.W.cellsFrom_some _ _ _ (.inl q)⟩
 refine codeAny_call_function T.depth (KX _ _ lk) rfl S.co S.gen rfl (PySem.W.codeRec_of KX dc) (hb _ _ _ _ ?_);refine wpAny_newFunctionEnv_cells S.kind ou λenv he s1 x=>?_;subst he;refine⟨U.keeps x.toInCall.keep,codeAny_func ?_⟩;obtain⟨t,ht,hq⟩:=we A d s H L Q E (T.deeper _) l;have I:Inv (ED p P w K mg base N qual a f C A d s H E) [] (start N L) H s1:=JB S T.hd j hl r x;refine aCL (ht [] s1 (start N L) H _ I hq) (λfl Y h=>?_) λe Y h=>h;have m:∀{z:St}{H':Hp}{v:V}{u:au},Inv (ED p P w K mg base N qual a f C A d s H E) [] z H' Y->RelV v u->Q v H'->CE d P w H s Q u Y:=
  λ{z H' v u} J rv q=>⟨v,H',J.os,J.bare,J.base,J.hok,rv,q⟩
 cases fl with
 |ret u=>obtain⟨v,z,H',J,rv,q⟩:=h;exact m J rv q
 |next=>obtain⟨z,H',J,q⟩:=h;exact m (v:=V.non) (u:=Value.none) J rfl q
 |brk=>obtain⟨_,_,_,q⟩:=h;exact aAf q
 |cont=>obtain⟨_,_,_,q⟩:=h;exact aAf q
section
variable{X:Cx}{x:Str}{p pos:Pos}{e:cu}{es:List cu}{t:TA}{id T:String}{r:List V->Hp->VK->Prop}
end
end L2
namespace HT
open PySem PyProof.Rows
def lexLt:List Int->List Int->Bool
 |[],[]=>false
 |[],_::_=>true
 |_::_,[]=>false
 |x::Y,y::a=>if x=y then lexLt Y a else decide (x<y)
def J4(x y:Int)(Y a:List Int):lexLt (x::Y) (y::a)=if x=y then lexLt Y a else decide (x<y):=rfl
def aF:lexLt [] []=false:=rfl
def O7(y:Int)(a:List Int):lexLt [] (y::a)=true:=rfl
def D6(x:Int)(Y:List Int):lexLt (x::Y) []=false:=rfl
def BF(A:cf)(s:ba)(a:Int)(t:Tok)(c:Int)(u:Tok):∃e,SeqAt.EqAt A s (.int a t) (.int c u) e/\(e=true↔a=c):=
 ⟨(a==c),aEZ a t c u,by simp⟩
def zU(A:cf)(s:ba)(a:Int)(t:Tok)(c:Int)(u:Tok)(prog:bM)(w:cp)(E:F8)(Q:F8)(h:Q (.bool (decide (a<c))) s):
  a9 (be prog w) A (richCompare .Lt (.int a t) (.int c u)) Q E s:=
 (PyProof.Rows.lt_int h:a9 (be prog w) A (dq .Lt (.int a t) (.int c u)) Q E s)
section
open PySem.SeqAt
open PySem.AutoSeq1 (wpAny_loadPart')
open PySem.MeetsSeq PySem.MeetsSeq2 PySem.MeetsSeq3
def rX(l b:bc)(items m:Array au)(n n2:Nat)(dd wg:Option bc)(sl vc:Array (Option au))(ns z:List Int)(T:IntsAre items.toList ns)(U:IntsAre m.toList z):
  Meets (Builtin.«tuple.__lt__» ⟨[.ref l,.ref b],[]⟩)
   (λ_ R s=>s.heap.get? l=some {cls:=.type "tuple",dict:=dd,data:=.seq items n,slots:=sl}/\s.heap.get? b=some {cls:=.type "tuple",dict:=wg,data:=.seq m n2,slots:=vc}/\
    R (.ok (.ret (.bool (lexLt ns z)))) s):=
 .of_wp λj w A R s h=>by
  obtain⟨B,g,d,C,os⟩:=s;obtain⟨hl,hb,h⟩:=h;have f2:=AutoSeq1.sub_tuple_tuple;have z1:items.size=ns.length:=by rw[<-T.length];simp
  have z2:m.size=z.length:=by rw[<-U.length];simp
  wp_walk using aEE hl,aEE hb,aCA _ (λrest b I=>b.1=none/\I=⟨B,g,d,C,os⟩/\∃(L E:List au) (o p:List Int),rest=L.zip E/\
   IntsAre L o/\IntsAre E p/\o.length+m.size=p.length+items.size/\R (.ok (.ret (.bool (lexLt o p)))) ⟨B,g,d,C,os⟩) _
  case turn=>
   rintro⟨y,x⟩ rest b I ⟨J,rfl,L,E,o,p,i,N,H,f,k⟩;cases N with
   |nil=>rw[List.zip_nil_left]at i;cases i
   |cons a t r=>
    cases H with
    |nil=>rw[List.zip_nil_right]at i;cases i
    |cons c u v=>
     rw[aBZ]at i;injection i with O ae;injection O with hy hx;subst hy hx;rw[J4]at k;simp only[aAq]at f;obtain⟨e,he,Y⟩:=BF A.in1 ⟨B,g,d,C,os⟩ a t c u;refine aAa (he j w _ _ ?_);cases e with
     |true=>
      rw[hV (Y.mp rfl)]at k
      wp_walk
      exact⟨rfl,rfl,_,_,_,_,ae,r,v,by lia,k⟩
     |false=>
      rw[h9 (λq=>absurd (Y.mpr q) aAU)]at k;have Q:=zU A.in1 ⟨B,g,d,C,os⟩ a t c u j w
      wp_walk using Q
      exact⟨_,rfl,by simpa using k⟩
  case fin=>
   rintro⟨b1,b2⟩ I ⟨J,rfl,L,E,o,p,i,N,H,f,k⟩;simp only at J;subst J;have hv:lexLt o p=decide (items.size<m.size):=by
    cases N with
    |nil=>
     cases H with
     |nil=>simp only[aBf]at f;rw[aF];exact(decide_eq_false (by lia)).symm
     |cons c u hw=>simp only[aBf,aAq]at f;rw[O7];exact(decide_eq_true (by lia)).symm
    |cons a t hv=>
     cases H with
     |nil=>simp only[aBf,aAq]at f;rw[D6];exact(decide_eq_false (by lia)).symm
     |cons c u hw=>rw[aBZ]at i;cases i
   rw[hv]at k
   wp_walk
   exact⟨_,rfl,by simpa[Builtin.Tuple.tupleCompareSizes]using k⟩
  case h=>exact⟨rfl,rfl,items.toList,m.toList,ns,z,rfl,T,U,by lia,h⟩
end
section
variable{prog:bM}{w:cp}{A:cf}{E:F8}{s:ba}
def lt_tupInts{Q:F8}(p:IsTup s.heap l items)(q:IsTup s.heap b e)(r:IntsAre items.toList ns)(t:IntsAre e.toList d)(u:A.units<cz)(h:Q (.bool (lexLt ns d)) s):a9 (be prog w) A (dq .Lt (.ref l) (.ref b)) Q E s:=by
 obtain⟨⟨v,y,f,z⟩,g,i,n,j⟩:=id p;obtain⟨⟨k,B,data2,C⟩,m,o,H,a⟩:=id q;simp only at i j o a;subst i j o a;exact richCompare_meets_room (op:=.Lt) ⟨_,g,rfl⟩ ⟨_,m,rfl⟩ PySem.F.slot_tuple_lt PySem.F.entry_tuple_lt (PySem.F.args_tuple_lt_2 _ _) (rX l b items e n H y B z C ns d r t)
  ⟨g,m,show aDC (lexLt ns d)≠Value.notImplemented/\Q (.bool (lexLt ns d)) s from⟨(λx=>nomatch x),h⟩⟩ u
def cat_tup{Q:F8}(u:IsTup s.heap t L.toArray)(v:IsTup s.heap b ws.toArray)(h:L≠[])(x:ws=[]->Q (.ref t) s)(y:ws≠[]->Q (.ref s.heap.objs.size) {s with heap:=s.heap.push {cls:=.type "tuple",data:=.seq (L++ws).toArray}})(z:L.length+ws.length<=sizeLine):a9 (be prog w) A (ee .Add (.ref t) (.ref b)) Q E s:=by
 obtain⟨⟨cls,i,data,j⟩,d,k,n,l⟩:=id u;obtain⟨⟨m,o,data2,p⟩,f,q,r,a⟩:=id v;simp only at k l q a;subst k l q a;have e:L.toArray++ws.toArray=(L++ws).toArray:=by simp
 by_cases g:ws=[]
 .exact aFV ⟨_,d,rfl⟩ ⟨_,f,rfl⟩ aFA seq_tuple_add PySem.F.slot_tuple_add PySem.F.entry_tuple_add (PySem.F.args_tuple_add_2 _ _)
   (tuple_addW1 t b L.toArray ws.toArray n r i o j p (by simpa using h) (by simp[g])) ⟨d,f,x g⟩
 refine aFV ⟨_,d,rfl⟩ ⟨_,f,rfl⟩ aFA seq_tuple_add PySem.F.slot_tuple_add PySem.F.entry_tuple_add (PySem.F.args_tuple_add_2 _ _)
  (tuple_addW2 t b L.toArray ws.toArray n r i o j p (by simpa using h) (by simpa using g) (by rw[aAn,aAn];exact z)) ⟨d,f,?_⟩
 rw[e];exact y g
def sIx(n d:Nat):Option Int->Nat
 |none=>d
 |some v=>if v<0 then(v+(n:Int)).toNat else min v.toNat n
def a2u(n d:Nat):sIx n d none=d:=rfl
def sIx_nat(n d k:Nat):sIx n d (some (k:Int))=min k n:=by show(if(k:Int)<0 then((k:Int)+(n:Int)).toNat else min (k:Int).toNat n)=min k n;rw[h9 (by lia),aBK]
def gq(n d:Nat)(b:d<=n)(o:Option Int):sIx n d o<=n:=by
 cases o with
 |none=>exact b
 |some v=>
  show(if v<0 then(v+(n:Int)).toNat else min v.toNat n)<=n;by_cases a:v<0
  .rw[hV a];lia
  rw[h9 a];exact Nat.min_le_right _ _
def GH(v:Int)(n d:Nat):(if v<0 then max (v+(n:Int)) 0 else min v (n:Int))=((sIx n d (some v):Nat):Int):=by
 show(if v<0 then max (v+(n:Int)) 0 else min v (n:Int))=(((if v<0 then(v+(n:Int)).toNat else min v.toNat n):Nat):Int);by_cases a:v<0
 .simp only[hV a];lia
 simp only[h9 a];lia
def FG(lo a:Option Int)(n:Nat):aDK lo a 1 (n:Int)=(((sIx n 0 lo:Nat):Int),((sIx n n a:Nat):Int)):=by
 have b:¬((1:Int)<0):=by lia
 unfold aDK;simp only[b,if_false];refine aEw ?_ ?_
 .cases lo with
  |none=>rfl
  |some v=>exact GH v n 0
 cases a with
 |none=>rfl
 |some v=>exact GH v n n
def EL(i j:Nat):aDa (i:Int) (j:Int) 1=j-i:=by
 unfold aDa;have a:(1:Int)>0:=by lia
 simp only[a,if_true,Int.ediv_one];split<;>lia
def qW{Q:Option Int->ba->Prop}(p:IsPart v o)(h:Q o s):a9 (be prog w) A (Builtin.Slice.slicePartIndex v) Q E s:=by
 cases p with
 |none=>exact slicePart_none h
 |int i t=>exact slicePart_int h
def lL{sl:bc}{d e:au}{lo a:Option Int}{n:Nat}{Q:Int×Int×Nat->ba->Prop}(g:s.heap.IsSliceOf sl d e .none)(i:IsPart d lo)(j:IsPart e a)
  (h:Q (((sIx n 0 lo:Nat):Int),1,sIx n n a-sIx n 0 lo) s):a9 (be prog w) A (aER (.ref sl) (pure (n:Int))) Q E s:=by
 obtain⟨os,b,k,f⟩:=id g;unfold aER Builtin.Slice.sliceFields;refine aAa (aAa<|aDb b f (x:=d) rfl<|aAa<|aDb b f (x:=e) rfl<|aAa<|aDb b f (x:=.none) rfl<|aAb ?_);refine aAa (slicePart_none ?_);show a9 _ _ (if((1:Int)==0)=true then _ else _) _ _ s;rw[h9 (by decide)];refine aAa (qW i<|aAa<|qW j<|aAa<|aAb ?_);show a9 _ _ (match aDK lo a 1 (n:Int)with|(lo,a)=>pure (lo,(1:Int),aDa lo a 1)) _ _ s;rw[FG lo a n];show a9 _ _ (pure (((sIx n 0 lo:Nat):Int),(1:Int),aDa ((sIx n 0 lo:Nat):Int) ((sIx n n a:Nat):Int) 1)) _ _ s;rw[EL];exact aAb h
def NO(Y:Array au)(i k:Nat):((aBc k).filterMap λ(m:Nat)=>Y[((i:Int)+(m:Int)*1).toNat]?).toArray=((Y.toList.drop i).take k).toArray:=by
 have e:(λ(m:Nat)=>Y[((i:Int)+(m:Int)*1).toNat]?)=λm=>Y[i+m]?:=by
  funext m
  have:((i:Int)+(m:Int)*1).toNat=i+m:=by lia
  rw[this]
 rw[e];have:=pick_run Y i k;rw[aDp]at this;have a:((λx=>Y[x]?)∘λx=>i+x)=λm=>Y[i+m]?:=rfl;rw[a]at this;rw[this]
def getItem_tuple_cut{t sl:bc}{items:Array au}{i j:au}{lo a:Option Int}{Q:F8}(b:IsTup s.heap t items)(k:s.heap.IsSliceOf sl i j .none)(l:IsPart i lo)(n:IsPart j a)
  (o:¬(sIx items.size 0 lo=0/\sIx items.size items.size a=items.size))
  (h:Q (.ref s.heap.objs.size) {s with heap:=s.heap.push {cls:=.type "tuple",data:=.seq ((items.toList.drop (sIx items.size 0 lo)).take (sIx items.size items.size a-sIx items.size 0 lo)).toArray}})
  (r:items.size<=sizeLine):a9 (be prog w) A (getItem (.ref t) (.ref sl)) Q E s:=by
 have d:sizeOk (.seq ((items.toList.drop<|sIx items.size 0 lo).take (sIx items.size items.size a-sIx items.size 0 lo)).toArray):=by
  show((items.toList.drop<|sIx items.size 0 lo).take (sIx items.size items.size a-sIx items.size 0 lo)).toArray.size<=sizeLine;rw[aAn,aBU,aDP,aBj]
  lia
 have u:sIx items.size items.size a<=items.size:=gq _ _ (aAl _) a;obtain⟨os,e,p,v⟩:=id k;have f:s.TypeIs (.ref sl) "slice":=⟨os,e,p⟩;unfold getItem;try with_reducible refine aAW ?_
 first|refine aAa (aAb ?_)|skip
 refine aAa (wpAny_sequenceKey b.typeIs (by decide) ?_);refine aAa (aCF (name:=aDy "__getitem__") b.typeIs aCJ
  (aBD aCJ b.typeIs entry_tuple_getitem ?_ (args_tuple_getitem _ _)))
 show a9 _ _ (aDF (.ref t)>>=_) _ _ s;refine aAa (tupleItemsOf_ b ?_);refine aAa (aDV f ?_);rw[hV (by decide)];refine aAa (lL k l n ?_);have g:¬((((sIx items.size 0 lo:Nat):Int)==0&&(1:Int)==1&&(sIx items.size items.size a-sIx items.size 0 lo)==items.size)=true):=by intro q;rw[aAQ,aAQ]at q;have x:((sIx items.size 0 lo:Nat):Int)=0:=eq_of_beq q.1.1;have y:sIx items.size items.size a-sIx items.size 0 lo=items.size:=eq_of_beq q.2;exact o ⟨by lia,by lia⟩
 show a9 _ _ (if(((sIx items.size 0 lo:Nat):Int)==0&&(1:Int)==1&&(sIx items.size items.size a-sIx items.size 0 lo)==items.size)=true then _ else _) _ _ s;rw[h9 g,NO];first
  |exact aAa (m:=aDe _) (aBJ (aAb ⟨_,rfl,aAb h⟩) d)
  |exact aAa (m:=aDe _) (aBJ (aAa<|aAb<|aAb ⟨_,rfl,aAb h⟩) d)
  |exact aAa (aAa (m:=aDe _)<|aBJ (aAb<|aAb ⟨_,rfl,aAb h⟩) d)
  |exact aAa (aAa (m:=aDe _)<|aBJ (aAb ⟨_,rfl,aAb h⟩) d)
end
end HT
namespace L2
open PySem PySem.Spec PyProof.Rows
abbrev TO:=St->Hp->(Option Int->Hp->Prop)->Prop
def PO(X:Cx)(e:Option cu)(t:TO):Prop:=
 ∀(a:P4) (s:ba) (σ:St) (H:Hp) (Q:Option Int->Hp->Prop),Inv X a σ H s->t σ H Q->
  a9 (be X.prog X.w) X.A (evalPart e X.env) (λu d=>∃o b,Inv X a σ b d/\IsPart u o/\Q o b) X.xe s
def XF:TO:=λ_ H Q=>Q none H
def a2v(t:TE):TO:=λσ H Q=>t σ H λx a=>∃i,x=.int i/\Q (some i) a
section
variable{X:Cx}{e:cu}{te:TE}{lo hi:Option cu}{tl th:TO}{pos p2:Pos}
def WP:PO X none XF:=by intro a s σ H Q I h;rw[evalPart_none];exact aAb ⟨none,H,I,.none,h⟩
def WJ(h:PE X e te):PO X (some e) (a2v te):=by intro a s σ H Q I b;rw[evalPart_some];refine F5 (h a s σ H _ I b) λu k ⟨x,d,f,g,j⟩=>?_;obtain⟨i,rfl,q⟩:=j;obtain⟨t,rfl⟩:=g;exact⟨some i,d,f,.int i t,q⟩
def kj(X:Cx)(r:V->Option Int->Option Int->Hp->VK->Prop):Prop:=
 ∀(a:P4) (s:ba) (σ:St) (H:Hp) (x:V) (v b d:au) (lo hi:Option Int) (f:bc) (Q:VK),Inv X a σ H s->RelV x v->s.heap.IsSliceOf f b d .none->IsPart b lo->IsPart d hi->r x lo hi H Q->
  ∃T id,typeLookup (.type T) "__getitem__"=pure (some<|.builtin id)/\s.TypeIs v T/\a9 (be X.prog X.w) X.A (getItem v<|.ref f) (EP X a σ Q) X.xe s
def kj.or{r b:V->Option Int->Option Int->Hp->VK->Prop}(h:kj X r)(h':kj X b):kj X (λx lo hi H Q=>r x lo hi H Q\/b x lo hi H Q):=by
 intro a s σ H x v d f lo hi g Q I i j k l q;rcases q with q|q
 .exact h a s σ H x v d f lo hi g Q I i j k l q
 exact h' a s σ H x v d f lo hi g Q I i j k l q
def tSl(r:V->Option Int->Option Int->Hp->VK->Prop)(te:TE)(tl th:TO):TE:=λσ H Q=>te σ H λx a=>tl σ a λl b=>th σ b λu d=>r x l u d Q
def NN{r:V->Option Int->Option Int->Hp->VK->Prop}(j:kj X r)(k:PE X e te)(m:PO X lo tl)(n:PO X hi th):PE X (.Subscript e (.Slice lo hi none p2) pos) (tSl r te tl th):=by intro a s σ H Q I h;refine Subscript_ (F5 (k a s σ H _ I h) λv o ⟨x,p,t,y,z⟩=>?_);refine wpAny_Slice (F5 (m a o σ p _ t z) λf B ⟨l,C,E,J,L⟩=>F5 (n a B σ C _ E L) λg d ⟨u,i,N,O,U⟩=>?_);rw[evalPart_none];refine aAb ?_;have Y:Inv X a σ i {d with heap:=d.heap.push {cls:=.type "slice",data:=.fields #[f,g,.none]}}:=N.kept (t':=d.toks) λb ob q=>aAc _ q;obtain⟨T,id,hT,ht,hg⟩:=j a {d with heap:=d.heap.push {cls:=.type "slice",data:=.fields #[f,g,.none]}} σ i x v f g l u d.heap.objs.size Q Y y (Heap.IsSliceOf.new ..) J O U;show a9 (be X.prog X.w) X.A (subscriptTail e (.Slice lo hi none p2) v<|.ref d.heap.objs.size) (EP X a σ Q) X.xe {d with heap:=d.heap.push {cls:=.type "slice",data:=.fields #[f,g,.none]}};exact tail_any (ops:=[.ref d.heap.objs.size,v]) ht hT hg (by with_unfolding_all rfl)
def yT(Y:List V)(lo hi:Option Int):List V:=(Y.drop<|HT.sIx Y.length 0 lo).take (HT.sIx Y.length Y.length hi-HT.sIx Y.length 0 lo)
def mK(Y:List V)(lo hi:Option Int):(yT Y lo hi).length<=Y.length:=by
 unfold yT;rw[aBU,aDP]
 lia
def a0z(K:iu):V->Option Int->Option Int->Hp->VK->Prop:=λx lo hi H Q=>∃a Y,x=.ref a/\Y0 K H a Y/\
 ¬(HT.sIx Y.length 0 lo=0/\HT.sIx Y.length Y.length hi=Y.length)/\∀p,H p=none->Q (.ref p) (upd H p<|.tup (yT Y lo hi))
def dj:kj X (a0z X.K):=by
 intro g s σ H x v u w lo hi y Q I k l m n h;obtain⟨a,Y,rfl,p,t,q⟩:=h;cases k;obtain⟨f,r,i,j⟩:=I.tuple p;have d:f.toArray.size=Y.length:=by rw[aAn];exact r.length.symm
 refine⟨"tuple",_,aCJ.lookup,i.typeIs,?_⟩;refine HT.getItem_tuple_cut i l m n (by rw[d];exact t) ?_ (by rw[d];exact j);rw[d];refine⟨.ref s.heap.objs.size,_,I.laid (t':=s.toks) (o:=.tup (yT Y lo hi)) (λb z q=>aAc _ q) (aAl _) ?_,rfl,q _ (I.hok.fresh<|aAl _)⟩;exact⟨aAp (mK Y lo hi) j,_,(r.drop<|HT.sIx Y.length 0 lo).take (HT.sIx Y.length Y.length hi-HT.sIx Y.length 0 lo),IsTup.new _ _⟩
def a3a(K:iu):R2:=λx y H Q=>∃a b Y d,x=.ref a/\y=.ref b/\Y0 K H a Y/\Y0 K H b d/\Y≠[]/\Y.length+d.length<=sizeLine/\
 (d=[]->Q (.ref a) H)/\(d≠[]->∀p,H p=none->Q (.ref p) (upd H p<|.tup (Y++d)))
def l7.ac4(r:l7 Y a):a=[]↔Y=[]:=by
 cases r with
 |nil=>simp
 |cons _ _=>simp
def GE:iV X (ee .Add) (a3a X.K):=by intro g s σ H x y v u Q I j k h;obtain⟨a,b,Y,l,rfl,rfl,m,n,p,i,r,t⟩:=h;cases j;cases k;obtain⟨A,f,B,_⟩:=I.tuple m;obtain⟨C,d,p2,_⟩:=I.tuple n;refine HT.cat_tup B p2 (λz=>p (f.ac4.mp z)) (λz=>⟨.ref a,H,I,rfl,r (d.ac4.mp z)⟩) (λz=>?_) (by rw[<-f.length,<-d.length];exact i);refine⟨.ref s.heap.objs.size,_,I.laid (t':=s.toks) (o:=.tup (Y++l)) (λb E q=>aAc _ q) (aAl _) ?_,rfl,t (λw=>z (d.ac4.mpr w)) _ (I.hok.fresh<|aAl _)⟩;exact⟨by rw[aAz];exact i,_,f.append d,IsTup.new _ _⟩
end
def MD(n:Nat)(i:Int):Option Nat:=if 0<=i then(if i<n then some i.toNat else none)else if-(n:Int)<=i then some (i+n).toNat else none
def rP{α:Type}(Y:List α)(i:Int):Option α:=(MD Y.length i).bind λj=>Y[j]?
def FT(h:MD n i=some j):seqIndex? i n=some j/\j<n/\-(n:Int)<=i/\i<n:=by
 unfold MD at h;by_cases b:0<=i
 .rw[hV b]at h;by_cases a:i<n
  .rw[hV a]at h;have e:i.toNat=j:=Option.some.inj h;exact⟨by rw[seqIndex_of b a,e],by lia,by lia,a⟩
  rw[h9 a]at h;cases h
 rw[h9 b]at h;by_cases a:-(n:Int)<=i
 .rw[hV a]at h;have e:(i+n).toNat=j:=Option.some.inj h;exact⟨by rw[seqIndex_neg (by lia) a,e],by lia,a,by lia⟩
 rw[h9 a]at h;cases h
def ID{α:Type}{Y:List α}{i:Int}{v:α}(h:rP Y i=some v):∃j,seqIndex? i Y.length=some j/\Y[j]?=some v/\j<Y.length/\-(Y.length:Int)<=i/\i<Y.length:=by
 unfold rP at h;cases e:MD Y.length i with
 |none=>rw[e]at h;cases h
 |some j=>rw[e]at h;obtain⟨a,b,d,f⟩:=FT e;exact⟨j,a,h,b,d,f⟩
def XN(b:cu):Prop:=∀o i,subscripted b false o i=operate [o,i] (getItem o i)
def IxR(X:Cx)(r:R2):Prop:=
 ∀(d a:cu) (b:P4) (s:ba) (σ:St) (H:Hp) (x y:V) (v u:au) (Q:VK),Inv X b σ H s->RelV x v->RelV y u->r x y H Q->
  subscripted a false v u=operate [v,u] (getItem v u)->a9 (be X.prog X.w) X.A (subscriptTail d a v u) (EP X b σ Q) X.xe s
def MtR(X:Cx)(id:String)(r:V->List V->Hp->VK->Prop):Prop:=
 ∀(a:P4) (s:ba) (σ:St) (H:Hp) (x:V) (Y:List V) (v:au) (b:List au) (Q:VK),Inv X a σ H s->RelV x v->l7 Y b->r x Y H Q->
  a9 (be X.prog X.w) X.A (call (.builtin id) (v::b)) (EP X a σ Q) X.xe s
section
variable{X:Cx}{a b:cu}{ta tb:TE}{pos:Pos}
def a5p(K:iu):R2:=λx y H Q=>∃p Y i v,x=.ref p/\y=.int i/\P7 K H p Y/\rP Y i=some v/\Q v H
def a4k(K:iu):R2:=λx y H Q=>∃p Y i v,x=.ref p/\y=.int i/\Y0 K H p Y/\rP Y i=some v/\Q v H
def XR:IxR X (a5p X.K):=by
 intro g k d s σ H x y v u Q I E J h A;obtain⟨p,Y,i,z,rfl,rfl,L,N,q⟩:=h;cases E;obtain⟨t,rfl⟩:=J;obtain⟨l,r,m,hz⟩:=I.list L;obtain⟨j,f,O,h3,T,U⟩:=ID N;obtain⟨w,B,n⟩:=r.get O;have hl:=r.length;have hn:=xN;have e:EP X d σ Q w s:=⟨z,H,I,n,q⟩;by_cases C:0<=i
 .have o:i.toNat=j:=by rw[seqIndex_of C U]at f;exact Option.some.inj f
  exact item_listR m.isList C (by lia) (by rw[o];simpa using B) e A
 have o:(i+(l.toArray.size:Int)).toNat=j:=by rw[seqIndex_neg (by lia) T]at f;rw[aAn,<-hl];exact Option.some.inj f
 exact subscriptTail_builtinR (x:=w) m.isList.typeIs slot_list_getitem.lookup
  (wpAny_getItem_list_neg (Q:=λr s'=>r=w/\EP X d σ Q r s') m.isList (by lia) (by rw[aAn]<;>lia) (by lia) (by rw[o];simpa using B) ⟨rfl,e⟩) A
def jk:IxR X (a4k X.K):=by
 intro e f d s σ H x y v u Q I m n h o;obtain⟨p,Y,i,z,rfl,rfl,A,B,q⟩:=h;cases m;obtain⟨t,rfl⟩:=n;obtain⟨C,r,l,T⟩:=I.tuple A;obtain⟨j,E,J,U,h4,h5⟩:=ID B;obtain⟨w,L,g⟩:=r.get J;have N:=r.length;have hn:=xN;have k:EP X d σ Q w s:=⟨z,H,I,g,q⟩;exact subscriptTail_builtinR (x:=w) l.typeIs aCJ.lookup
  (getItem_tuple (j:=j) (Q:=λr O=>r=w/\EP X d σ Q r O) l (by lia) (by lia) (by rw[aAn,<-N];exact E) (by simpa using L) ⟨rfl,k⟩) o
def ES(d:List au)(n j:Nat)(u:au):aBI (·.setIfInBounds j u) {cls:=.type "list",data:=.seq d.toArray n}={cls:=.type "list",data:=.seq (d.set j u).toArray n}:=by simp[aBI]
def Inv.lst{f:P4}{σ:St}{H:Hp}{s:ba}{p:bc}{Y:List V}(I:Inv X f σ H s)(h:H p=some (.lst Y)):
  ∃(d:List au) (n:Nat),l7 Y d/\s.heap.get? p=some {cls:=.type "list",data:=.seq d.toArray n}/\Y.length<=sizeLine:=by
 obtain⟨z,d,n,r,e⟩:=I.hok p _ h;exact⟨d,n,r,e,z⟩
def Inv.af2{d:P4}{σ:St}{H:Hp}{s:ba}{p:bc}{Y i:List V}{g its':List au}{n j:Nat}{f:Obj->Obj}(I:Inv X d σ H s)(h:H p=some (.lst Y))
  (l:s.heap.get? p=some {cls:=.type "list",data:=.seq g.toArray n}) (k:f {cls:=.type "list",data:=.seq g.toArray n}={cls:=.type "list",data:=.seq its'.toArray j}) (r:l7 i its') (hz:i.length<=sizeLine) (t:Nat):
  Inv X d σ (upd H p (.lst i)) {s with heap:=s.heap.update p f,toks:=t}:=by
 have e:(s.heap.update p f).get? p=some {cls:=.type "list",data:=.seq its'.toArray j}:=by rw[aBo f l (by rw[k]<;>rfl),k]
 refine I.write (x:=p) (e:=p) (by rw[h];trivial) (.inl rfl) (λb u m q=>(aAF _ _<|aBY m).trans q) ⟨_,e⟩ ?_;exact⟨hz,its',j,r,e⟩
def a1d:V->V->V->Hp->(Hp->Prop)->Prop:=λo i v H Q=>∃p Y k j,o=.ref p/\i=.int k/\H p=some (.lst Y)/\MD Y.length k=some j/\Q (upd H p<|.lst (Y.set j v))
def SF:zq X a1d:=by
 intro d s σ H o i v N O u Q I B C E h;obtain⟨p,Y,k,j,rfl,rfl,w,J,q⟩:=h;cases B;obtain⟨t,rfl⟩:=C;obtain⟨e,n,r,g,L⟩:=I.lst w;obtain⟨f,T,x,y⟩:=FT J;have l:=r.length;have U:=xN;have z:Inv X d σ (upd H p<|.lst (Y.set j v)) {s with heap:=s.heap.update p (aBI (·.setIfInBounds j u))}:=
  I.af2 w g (ES e n j u) (r.set E j) (by rw[aFW];exact L) s.toks
 by_cases A:0<=k
 .have m:k.toNat=j:=by rw[seqIndex_of A y]at f;exact Option.some.inj f
  exact PySem.W.ki_setAt g A (by lia) (by rw[aAn,<-l];exact y) (by rw[m];exact⟨_,z,q⟩)
 have m:(k+(e.toArray.size:Int)).toNat=j:=by rw[seqIndex_neg (by lia) x]at f;rw[aAn,<-l];exact Option.some.inj f
 exact PySem.W.ki_setBack g (by lia) (by rw[aAn,<-l];exact x) (by lia) (by rw[m];exact⟨_,z,q⟩)
def vM(lo d:Option Int)(n:Nat):(gs lo d none n).1=((HT.sIx n 0 lo:Nat):Int)/\(gs lo d none n).2.1=((HT.sIx n n d:Nat):Int)/\(gs lo d none n).2.2=1:=by
 refine⟨?_,?_,rfl⟩
 .cases lo with
  |none=>simp[gs,HT.sIx]
  |some i=>
   simp only[gs,HT.sIx,Option.getD_none,show(1:Int)>0 by decide,if_true];by_cases h:i<0
   .simp only[h,if_true]<;>lia
   simp only[h,if_false]<;>lia
 cases d with
 |none=>simp[gs,HT.sIx]
 |some i=>
  simp only[gs,HT.sIx,Option.getD_none,show(1:Int)>0 by decide,if_true];by_cases h:i<0
  .simp only[h,if_true]<;>lia
  simp only[h,if_false]<;>lia
def sR(d:List au)(lo e:Option Int):slicePick d.toArray lo e none=((d.drop (HT.sIx d.length 0 lo)).take (HT.sIx d.length d.length e-HT.sIx d.length 0 lo)).toArray:=by obtain⟨f,g,h⟩:=vM lo e d.toArray.size;unfold slicePick;rw[f,g,h];simp only[sliceRange_one,pick_run,aAn]<;>rfl
def a2m(K:iu):V->Option Int->Option Int->Hp->VK->Prop:=λx lo d H Q=>∃a Y,x=.ref a/\P7 K H a Y/\∀p,H p=none->Q (.ref p) (upd H p<|.lst (yT Y lo d))
def UU:kj X (a2m X.K):=by intro e s σ H x v p t lo d u Q I g i j k h;obtain⟨a,Y,rfl,l,q⟩:=h;cases g;obtain⟨m,r,f,n⟩:=I.list l;have hlen:=r.length;refine⟨"list",_,slot_list_getitem.lookup,f.isList.typeIs,?_⟩;refine wpAny_getItem_list_slice f.isList i j k .none (by simp) ?_ (by rw[aAn]<;>lia);rw[sR,<-hlen];refine⟨.ref s.heap.objs.size,_,I.laid (t':=s.toks) (o:=.lst (yT Y lo d)) (λb w q=>aAc _ q) (aAl _) ?_,rfl,q _ (I.hok.fresh<|aAl _)⟩;exact⟨aAp (mK Y lo d) n,_,0,(r.drop<|HT.sIx Y.length 0 lo).take (HT.sIx Y.length Y.length d-HT.sIx Y.length 0 lo),aAr _ rfl⟩
def a2n:V->Bool
 |.non=>true
 |.bl _=>true
 |.int _=>true
 |.str _=>true
 |_=>false
def jK:tN X (.builtin "len") (λY H Q=>∃p e,Y=[.ref p]/\(P7 X.K H p e\/Y0 X.K H p e)/\Q (.int e.length) H):=by
 intro k s σ H Y n Q I r h;obtain⟨p,e,rfl,f,q⟩:=h;obtain⟨u,rfl,l⟩:=vals1 r;cases l;have o:=xN;rcases f with f|f
 .obtain⟨g,i,j,m⟩:=I.list f;have d:=i.length;exact Calls.call_len_list j.isList (by simp only[aAn]<;>lia) ⟨.int e.length,H,I.tok _,⟨s.toks+1,by rw[aAn,d]⟩,q⟩
 obtain⟨g,i,j,m⟩:=I.tuple f;have d:=i.length;exact len_tuple j (by simp only[aAn]<;>lia) ⟨.int e.length,H,I.tok _,⟨s.toks+1,by rw[aAn,d]⟩,q⟩
def jI:tN X (.type "list") (λY H Q=>∃p g,Y=[.ref p]/\(P7 X.K H p g\/Y0 X.K H p g)/\∀l,H l=none->Q (.ref l) (upd H l (.lst g))):=by
 intro k s σ H Y L Q I r h;obtain⟨p,g,rfl,m,q⟩:=h;obtain⟨u,rfl,J⟩:=vals1 r;cases J;have t:∀(d:List au),l7 g d->g.length<=sizeLine->∀(f:cq) (i:Nat),(∀b E,s.heap.get? b=some E->f.get? b=some E)->
   f.get? s.heap.objs.size=some {cls:=.type "list",dict:=none,data:=.seq d.toArray i,slots:=#[]}->EP X k σ Q (.ref s.heap.objs.size) {s with heap:=f}:=λd j v f i x e=>
  ⟨.ref s.heap.objs.size,_,I.laid (t':=s.toks) x (aAl _) (show ObjOk X.prog X.w _ f _ (.lst g)from⟨v,d,i,j,e⟩),rfl,q _ (I.hok.fresh<|aAl _)⟩
 rcases m with m|m
 .obtain⟨d,j,z,v⟩:=I.list m;have y:=j.length;obtain⟨o,A,B,n,C⟩:=z.isList;exact call_list_seq p (.inl rfl) A B C (λf i x e=>t d j v f i x e) (by simp only[aAn]<;>lia)
 obtain⟨d,j,z,v⟩:=I.tuple m;have y:=j.length;obtain⟨o,A,B,n,C⟩:=z;exact call_list_seq p (.inr rfl) A B C (λf i x e=>t d j v f i x e) (by simp only[aAn]<;>lia)
def tyV(K : iu) (T : String) (x : V) (H : Hp) : Prop := match x with
  | .str _ => T = "str"
  | .int _ => T = "int"
  | .ref p => (T = "list" ∧ ∃ Y, P7 K H p Y) ∨ (T = "tuple" ∧ ∃ o, K.lookup p = some o ∧ o.cls = .type "tuple" ∧ o.dict = none) ∨
      (T = "dict" ∧ ((∃ N, H p = some (.dK N)) ∨ ∃ N, H p = some (.dT N))) ∨ (T = "set" ∧ ∃ S n, H p = some (.set S n))
  | _ => False
def TY(I:Inv X k σ H s)(r:RelV x v)(g:tyV X.K T x H):
  s.TypeIs v T/\∀a,v=.ref a->∃l,s.heap.get? a=some l/\l.dict=none:=by
 cases x with
 |str z=>obtain⟨t,rfl⟩:=r;cases(show T= "str"from g);exact⟨typeIs_str s z t,λ_ e=>nomatch e⟩
 |int i=>obtain⟨t,rfl⟩:=r;cases(show T= "int"from g);exact⟨typeIs_int s i t,λ_ e=>nomatch e⟩
 |ref p=>
  cases r;rcases g with⟨rfl,Y,q⟩|⟨rfl,o,d,u,h⟩|⟨rfl,d⟩|⟨rfl,S,n,d⟩
  .obtain⟨w,_,m,_⟩:=I.list q;refine⟨m.isList.typeIs,λa e=>?_⟩;cases e;obtain⟨o,n,e,c,h,_⟩:=m;exact⟨o,e,h⟩
  .refine⟨⟨o,I.kIn p o d,u⟩,λa e=>?_⟩;cases e;exact⟨o,I.kIn _ o d,h⟩
  .have z:∃o,s.heap.get? p=some o/\o.ExactDict:=by
    rcases d with⟨N,d⟩|⟨N,d⟩
    .obtain⟨_,_,_,_,o,_,_,e,f,_⟩:=I.hok p _ d;exact⟨o,e,f⟩
    obtain⟨_,_,_,_,o,_,_,e,f,_⟩:=I.hok p _ d;exact⟨o,e,f⟩
   obtain⟨o,e,f⟩:=z;refine⟨⟨o,e,f.1⟩,λa j=>?_⟩;cases j;exact⟨o,e,f.2.1⟩
  obtain⟨o,_,_,_,e,f,_⟩:=I.hok p _ d;refine⟨⟨o,e,f.1⟩,λa j=>?_⟩;cases j;exact⟨o,e,f.2.1⟩
 |_=>exact aAf g
def a5d(K:iu)(T:String)(r:V->List V->Hp->VK->Prop)(e:TE):TE:=λσ H Q=>e σ H λx d=>tyV K T x d/\r x [] d Q
def tBM(K:iu)(T:String)(r:V->List V->Hp->VK->Prop)(e:TE)(t:TA):TE:=λσ H Q=>e σ H λx d=>tyV K T x d/\t σ d λY f=>r x Y f Q
variable{o e:cu}{es:List cu}{to:TE}{t:TA}{name:Str}{apos ao:Pos}{T id:String}{r:V->List V->Hp->VK->Prop}
def UA(j:PlainAttrs T)(slot:Slot T name id)(f:typeOf (.builtin id)=pure (.type "method_descriptor"))(k:MtR X id r)(l:PE X o to)
  (m:gk o name X.env (dm o X.env)=dm o X.env:=by rfl) (n:(apos.endLine==ao.line)=true:=by rfl):PE X (.Call (.Attribute o name apos) [] [] ao) (a5d X.K T r to):=by
 intro d s σ H Q I h;refine wpAny_Call_method0_late m n (F5 (l d s σ H _ I h) λv p ⟨x,q,g,i,u,w⟩=>?_);obtain⟨y,z⟩:=TY g i u;exact⟨T,id,j,slot,f,y,z,aFH rfl (PySem.evalArgs_none<|k d p σ q x [] v [] Q g i .nil w)⟩
def ZO(k:PlainAttrs T)(slot:Slot T name id)(f:typeOf (.builtin id)=pure (.type "method_descriptor"))(l:MtR X id r)(m:PE X o to)(n:PA X (e::es) t)
  (p:gk o name X.env (dm o X.env)=dm o X.env:=by rfl)
  (q:((cy ao (bb (e::es) X.env)).all (λx=>!x.1)&&(backToKw ao (keywordEach [] X.env)).all (λx=>x.1.isSome)
   &&decide ((e::es).length+([]:List Keyword).length+(if([]:List Keyword).isEmpty then 0 else 1)<30))=true:=by rfl)
  (u:(apos.endLine==ao.line)=true:=by rfl) (w:bb (e::es) X.env=(false,dm e X.env)::bb es X.env:=by rfl) (y:(cy ao (bb es X.env)).any (·.1)=false:=by rfl):
  PE X (.Call (.Attribute o name apos) (e::es) [] ao) (tBM X.K T r to t):=by
 intro d s σ H Q I h;refine wpAny_Call_method_late p q u rfl (F5 (m d s σ H _ I h) λv z ⟨x,A,g,i,B,C⟩=>?_);obtain⟨E,J⟩:=TY g i B;refine⟨T,id,k,slot,f,E,J,?_⟩;have j:=n ao d z σ A _ g C;rw[w]at j⊢;refine aFH (by show(false||(cy ao<|bb es X.env).any (·.1))=false;rw[y]<;>rfl) (Calls.evalArgs_plain ?_);exact F5 j λN O ⟨L,U,Y,r2,q2⟩=>l d O σ U x L v N Q Y i r2 q2
end
def MtM(X:Cx)(id:String)(r:V->List V->Hp->VK->Prop):Prop:=
 ∀(a:P4) (s:ba) (σ:St) (H:Hp) (x:V) (Y:List V) (v:au) (b:List au) (Q:VK),Inv X a σ H s->RelV x v->l7 Y b->r x Y H Q->
  a9 (be X.prog X.w) X.A (call (.builtin id) (v::b)) (EP X a σ Q) X.xe s
theorem l7.one:∀{x:V}{a:List au},l7 [x] a->∃u,a=[u]/\RelV x u
 |_,_,.cons r .nil=>⟨_,rfl,r⟩
theorem l7.zero:∀{a:List au},l7 [] a->a=[]
 |_,.nil=>rfl
def l7.dropLast(h:l7 Y a):l7 Y.dropLast a.dropLast:=by
 induction h with
 |nil=>exact .nil
 |cons r t b=>
  cases t with
  |nil=>exact .nil
  |cons q d=>exact .cons r b
def CF{α:Type}(l:List α):l.eraseIdx (l.length-1)=l.dropLast:=by
 induction l with
 |nil=>rfl
 |cons a r d=>
  cases r with
  |nil=>rfl
  |cons b r=>
   have e:(a::b::r).length-1=((b::r).length-1)+1:=by
    have f:(a::b::r).length=r.length+2:=rfl;have g:(b::r).length=r.length+1:=rfl
    lia
   rw[e,aFv,d]
   all_goals rfl
section
variable{X:Cx}{pins:P4}{σ:St}{H:Hp}{s:ba}{l b:bc}{Y ys zs:List V}
def Inv.af5{a its':List au}{n:Nat}{f:Array au->Array au}{t':Nat}(I:Inv X pins σ H s)(d:H l=some (.lst Y))
  (e:s.heap.get? l=some {cls:=.type "list",data:=.seq a.toArray n}) (g:f a.toArray=its'.toArray) (h:l7 ys its') (hz:ys.length<=sizeLine):
  Inv X pins σ (upd H l (.lst ys)) {s with heap:=s.heap.update l (aBI f),toks:=t'}:=by
 have q:=PySem.IsL.update e f;rw[g]at q;refine I.write (x:=l) (e:=l) (by rw[d];exact trivial) (.inl rfl) (λk u i j=>(aAF s.heap (aBI f)<|aBY i).trans j) ⟨_,q⟩ ?_;exact⟨hz,its',_,h,q⟩
def Inv.ag1(I:Inv X pins σ H s)(d:l7 ys a)(hz:ys.length<=sizeLine):
  Inv X pins σ (upd H s.heap.objs.size (.lst ys)) {s with heap:=s.heap.push {cls:=.type "list",data:=.seq a.toArray},toks:=t'}:=
 I.laid (λ_ _ q=>aAc _ q) (aAl _) ⟨hz,a,0,d,aAr _ rfl⟩
def Inv.fresh(I:Inv X pins σ H s):H s.heap.objs.size=none:=I.hok.fresh (aAl _)
def Inv.ae9(I:Inv X pins σ H s)(d:H l=some (.lst Y)):Y.length<=sizeLine/\∃(a:List au) (n:Nat),l7 Y a/\Y.length=a.length/\s.heap.get? l=some {cls:=.type "list",data:=.seq a.toArray n}:=by obtain⟨z,a,n,r,e⟩:=I.hok l _ d;exact⟨z,a,n,r,r.length,e⟩
def TF(h:n<=sizeLine):aDf n=false:=by unfold aDf;exact decide_eq_false (by lia)
end
section
variable{X:Cx}
def YA:V->List V->Hp->VK->Prop:=λx L H Q=>∃l Y y,x=.ref l/\L=[y]/\H l=some (.lst Y)/\Y.length<sizeLine/\Q .non (upd H l<|.lst (Y++[y]))
def tW:MtM X "list.append" YA:=by
 intro b s σ H x L v j Q I f g h;obtain⟨l,Y,y,rfl,rfl,d,k,q⟩:=h;cases f;obtain⟨u,rfl,i⟩:=g.one;obtain⟨z,a,n,r,m,e⟩:=I.ae9 d;refine call_meets F.slot_list_append ⟨_,e,rfl⟩ F.entry_list_append (F.args_list_append_2 _ _) (PySem.list_append l a.toArray n u (by rw[aAn];lia)) ⟨e,?_⟩;refine⟨.non,_,I.af5 (its':=a++[u]) d e (by simp) (r.append<|.cons i .nil) ?_,rfl,q⟩;rw[aAz,aFM]
 lia
def a4g:V->List V->Hp->VK->Prop:=λx L H Q=>∃l Y y,x=.ref l/\L=[]/\H l=some (.lst Y)/\Y[Y.length-1]?=some y/\Q y (upd H l<|.lst Y.dropLast)
def ON:MtM X "list.pop" a4g:=by
 intro f s σ H x L v t Q I i j h;obtain⟨l,Y,y,rfl,rfl,g,k,q⟩:=h;cases i;have b:=j.zero;subst b;obtain⟨z,a,n,r,m,e⟩:=I.ae9 g;obtain⟨u,o,p⟩:=r.get k;have d:a.toArray[a.toArray.size-1]?=some u:=by show a.toArray[a.length-1]?=some u;rw[<-aAE,<-m];exact o
 refine call_meets F.slot_list_pop ⟨_,e,rfl⟩ F.entry_list_pop (F.args_list_pop_1 _) (MeetsSeq.list_pop_last l a.toArray n u d (by rw[aAn];lia)) ⟨e,?_⟩;refine⟨y,_,I.af5 (its':=a.dropLast) g e ?_ r.dropLast ?_,p,q⟩
 .show a.toArray.eraseIdxIfInBounds (a.toArray.size-1)=a.dropLast.toArray;rw[aAn,List.eraseIdxIfInBounds_toArray,CF]
 rw[aEv]
 lia
end
section
variable{prog:bM}{w:cp}{A:cf}{E:F8}{s:ba}
end
section
variable{X:Cx}
end
end L2
namespace Att
open PySem PySem.W PySem.Calls PyProof.Rows
def nC:∀(ns:List Int) (L:List au),WellAll P h L (ns.map WData.int)->IntsAre L ns:=by
 intro ns;induction ns with
 |nil=>intro L w;rw[aCi]at w;cases w;exact .nil
 |cons n ns d=>
  intro L w;rw[aAk]at w;cases w with
  |cons a b=>cases a;exact .cons _ _ (d _ b)
def script_of{l:OpenLaw}{n:Nat}(m:l.most=some n){P:Params}{h:cq}{args:List WData}{b:List au}
  (j:l.row.toRowW.claim.pre args=true) (o:WellAll P h b args):
  ∃a L ns,b=[aDJ a]/\args=[WData.list (ns.map WData.int)]/\h.get? a=some {cls:=.type "list",data:=.seq L.toArray}/\IntsAre L ns/\ns.length<=n:=by
 have i:WShape.hasAll [] args [.list .int]=true:=(pre_splitW j).1;have k:l.pre.holds [] {args:=args}=true:=(pre_splitW j).2;obtain⟨d,r,rfl,p,s⟩:=hasAllW_cons i;obtain rfl:=hasAllW_nil s;obtain⟨Y,rfl,t⟩:=hasW_list p;obtain⟨ns,rfl⟩:=items_int t;have e:ns.length<=n:=by
  unfold OpenLaw.pre at k;have f:(WTm.not<|.lt (.lit (.int (n:Int))) (.len (.arg 0))).holds [] {args:=[.list (ns.map .int)]}=true:=by have f:=(holds_andW k).1;rw[m]at f;exact f
  have g:=condW_of f (w_not<|w_lt w_lit<|w_len_list<|w_arg rfl);rw[aAh]at g;refine aEq λq=>?_;have u:(n:Int)<((ns.length:Nat):Int):=by lia
  first
   |(rw[decide_eq_true u]at g;exact absurd g (by decide))
   |(simp at g;lia)
 cases o with
 |cons v w=>
  cases w;cases v with
  |list x y=>exact⟨_,_,ns,rfl,rfl,x,nC ns _ y,e⟩
def post_true(l:OpenLaw)(args:List WData):l.row.toRowW.claim.post args (.bool true) args=true:=
 postW_of (r:=l.row.toRowW) (X:=(true==true))
  (show WShape.has [] (.bool true) .bool=true by first|rfl|decide|simp[WShape.has,WShape.arms,WShape.armsAll])
  (show(WTm.eq .res (.lit (.bool true))).value [] {args:=args,res:=some (.bool true),after:=args}=some (.bool (true==true))from w_eq_bool (w_res rfl) w_lit) rfl
section
variable{prog:bM}{w:cp}{A:cf}{E:F8}{s:ba}{K:Frag}
def a4w(h:cq)(L d:bc):List (bc×Obj):=(aBc h.objs.size).filterMap λa=>if a=L\/a=d then none else(h.get? a).map λo=>(a,o)
end
end Att
namespace L2
open PySem PySem.Spec PyProof.Rows
theorem V9:∀{L:List au}{ns:List Int},IntsAre L ns->l7 (ns.map V.int) L
 |_,_,.nil=>.nil
 |_,_,.cons n t h=>.cons ⟨t,rfl⟩ (V9 h)
def F1(s:cv):Arguments:=match s with
 |.FunctionDef _ a _ _ _ _ _ _ _ _=>a
 |_=>{posonlyargs:=[],args:=[],vararg:=none,kwonlyargs:=[],kw_defaults:=[],kwarg:=none,defaults:=[]}
def p9(s:cv):List cv:=match s with
 |.FunctionDef _ _ b _ _ _ _ _ _ _=>b
 |_=>[]
def c6(s:cv):gW:=match s with
 |.FunctionDef _ _ _ _ _ _ a _ _ _=>a
 |_=>{kind:=.function,names:=[],isGenerator:=false,isCoroutine:=false}
abbrev uI:UP:=λ_ _ _ _ _ _=>False
abbrev E0:XK:=λ_ _ _=>False
def ZE:CB uI X E0:=λ_ _ _ _ _ _ _ h=>h.elim
structure Fun(K:PySem.W.Frag)(x qual:Str)(st:Stmt)(f:Addr)(fd:FuncData):Prop where
 ex:∃(oc:Value) (od:Option Addr) (kV doc pm:Value) (an:Option Addr) (C ct:Value) (osl:Array (Option Value)),
  fd=PySem.W.fnOf x qual (F1 st) (p9 st) (c6 st) .none kV doc pm an C ct/\K.lookup f=some ⟨oc,od,.func fd,osl⟩/\PySem.W.codeIn K C qual=true
 kp:PySem.W.keepIn K (.ref f)=true
section
variable{P:bM}{w:cp}{K:iu}{mg:cM}{base:cq}
def Fun.ok{x qual:Str}{st:cv}{f:bc}{fd:dA}{N ps:List Str}{k:Nat}{b:Sp}(F:Fun K x qual st f fd)(S:FnScope N ps (c6 st))(len:∀L H Q E,b L H Q E->L.length=ps.length)
  (e:∀(C:au) (A:cf) (a:List Env) (s:ba) (H:Hp) (L:List V) (Q:VK) (E:XK),Room k (A.deeper (envOfC qual (c6 st) s.heap.objs.size f C))->b L H Q E->
   ∃t,uU (ED uI P w K mg base N qual (c6 st) f C A a s H E).nox (p9 st) t/\t {nx:=λ_ H'=>Q .non H',rt:=Q} (start N L) H):FnOk P w K mg base uI (k+1) f fd ps b:=by
 obtain⟨m,n,kV,g,o,p,C,r,i,rfl,lk,j⟩:=F.ex;refine ZW lk j S len λA a s H L Q E l d=>?_;obtain⟨t,h,q⟩:=e C A a s H L Q E l d;exact⟨t,h.nox,q⟩
def Fun.binds{x qual:Str}{st:cv}{f:bc}{fd:dA}{ps:List Str}(F:Fun K x qual st f fd)
  (h:∀(kV a b:au) (d:Option bc) (C ct:au) (e:List au),e.length=ps.length->bindArgs (PySem.W.fnOf x qual (F1 st) (p9 st) (c6 st) .none kV a b d C ct) ⟨e,[]⟩=pure (ps.zip e)):Binds K fd ps []:=by
 obtain⟨i,j,kV,a,b,d,C,ct,g,rfl,lk,k⟩:=F.ex;exact .all (h kV a b d C ct)
def UH{x qual:Str}{st:cv}{f:bc}{g:au}{h d:Option bc}{b:Array (Option au)}{kV a e C ct:au}(l:K.lookup f=some ⟨g,h,.func (PySem.W.fnOf x qual (F1 st) (p9 st) (c6 st) .none kV a e d C ct),b⟩)
 (c:PySem.W.codeIn K C qual=true) (k:PySem.W.keepIn K (.ref f)=true):Fun K x qual st f (PySem.W.fnOf x qual (F1 st) (p9 st) (c6 st) .none kV a e d C ct):=⟨⟨g,h,kV,a,e,d,C,ct,b,rfl,l,c⟩,k⟩
end
section
variable{X:Cx}
end
def Same(H H':Hp):Prop:=∀b o,H b=some o->H' b=some o
def Same.refl(H:Hp):Same H H:=λ_ _ h=>h
def Same.trans(a:Same H d)(b:Same d e):Same H e:=λc o h=>b c o (a c o h)
def Same.seq{K:iu}{H H':Hp}{a:bc}{Y:List V}(e:Same H H')(h:P7 K H a Y):P7 K H' a Y:=by
 rcases h with(h|⟨o,h⟩)|h
 .exact .inl (.inl (e _ _ h))
 .exact .inl (.inr ⟨o,e _ _ h⟩)
 exact .inr h
end L2
namespace DL
open PySem PySem.Spec L2
open PyProof.Rows hiding St
section
inductive D where
 |non|bl (b:Bool)|int (i:Int)|str (x:Str)|tup (Y:List D)|lst (Y:List D)|dct
mutual
def m8:D->Int
 |.int i=>hashInt i
 |.tup Y=>reduceHash (aAT (xJ Y))
 |_=>0
def xJ:List D->List Int
 |[]=>[]
 |x::Y=>m8 x::xJ Y
end
def U0:Nat->D->Bool
 |_,.int _=>true
 |n+1,.tup Y=>Y.all (U0 n)
 |_,_=>false
inductive R(α:Type)where
 |ok (a:α)|ex (e:Str)|bad
def R.bind{α β:Type}:R α->(α->R β)->R β
 |.ok a,f=>f a
 |.ex e,_=>.ex e
 |.bad,_=>.bad
@[simp]def R.aa0{α β:Type}(a:α)(f:α->R β):(R.ok a).bind f=f a:=rfl
section
variable(K:iu) (H:Hp) (O:bc->Prop)
mutual
inductive Rep:V->D->Prop
 |non:Rep .non .non
 |bl {b:Bool}:Rep (.bl b) (.bl b)
 |int {i:Int}:Rep (.int i) (.int i)
 |str {x:Str}:Rep (.str x) (.str x)
 |tup {a:Addr}{L:List V}{ds:List D} (h:Y0 K H a L) (r:Reps L ds):Rep (.ref a) (.tup ds)
 |lst {a:Addr}{L:List V}{ds:List D} (h:P7 K H a L) (n:¬O a) (r:Reps L ds):Rep (.ref a) (.lst ds)
 |dct {a:Addr}{o:Obj} (h:H a=some (.ext λh=>h.get? a=some o)) (x:o.ExactDict) (n:¬O a):Rep (.ref a) .dct
inductive Reps:List V->List D->Prop
 |nil:Reps [] []
 |cons {v:V}{d:D}{L:List V}{ds:List D} (h:Rep v d) (t:Reps L ds):Reps (v::L) (d::ds)
end
end
section
variable{K:iu}
def _root_.L2.Same.tup{a:bc}{Y:List V}(e:Same H H')(h:Y0 K H a Y):Y0 K H' a Y:=by
 rcases h with(h|⟨o,h⟩)|h
 .exact .inl (.inl (e _ _ h))
 .exact .inl (.inr ⟨o,e _ _ h⟩)
 exact .inr h
mutual
theorem Rep.mono(f:∀a Y,Y0 K H a Y->Y0 K H' a Y)(b:∀a Y,¬O a->P7 K H a Y->¬g a/\P7 K H' a Y)(e:∀a φ,¬O a->H a=some (.ext φ)->¬g a/\H' a=some (.ext φ)):∀{v:V}{d:D},Rep K H O v d->Rep K H' g v d
 |_,_,.non=>.non
 |_,_,.bl=>.bl
 |_,_,.int=>.int
 |_,_,.str=>.str
 |_,_,.tup h r=>.tup (f _ _ h) (Reps.mono f b e r)
 |_,_,.lst h n r=>.lst (b _ _ n h).2 (b _ _ n h).1 (Reps.mono f b e r)
 |_,_,.dct h x n=>.dct (e _ _ n h).2 x (e _ _ n h).1
theorem Reps.mono(b:∀a Y,Y0 K H a Y->Y0 K H' a Y)(d:∀a Y,¬O a->P7 K H a Y->¬e a/\P7 K H' a Y)(f:∀a φ,¬O a->H a=some (.ext φ)->¬e a/\H' a=some (.ext φ)):∀{L:List V}{ds:List D},Reps K H O L ds->Reps K H' e L ds
 |_,_,.nil=>.nil
 |_,_,.cons h t=>.cons (Rep.mono b d f h) (Reps.mono b d f t)
end
def Rep.same(e:Same H H')(r:Rep K H O v d):Rep K H' O v d:=r.mono (λ_ _ h=>e.tup h) (λ_ _ n h=>⟨n,e.seq h⟩) λ_ _ n h=>⟨n,e _ _ h⟩
def Reps.same(e:Same H H')(r:Reps K H O v d):Reps K H' O v d:=r.mono (λ_ _ h=>e.tup h) (λ_ _ n h=>⟨n,e.seq h⟩) λ_ _ n h=>⟨n,e _ _ h⟩
def Rep.sub(e:∀a,b a->O a)(r:Rep K H O v d):Rep K H b v d:=r.mono (λ_ _ h=>h) (λ_ _ n h=>⟨λz=>n (e _ z),h⟩) λ_ _ n h=>⟨λz=>n (e _ z),h⟩
def Reps.sub(e:∀a,b a->O a)(r:Reps K H O v d):Reps K H b v d:=r.mono (λ_ _ h=>h) (λ_ _ n h=>⟨λz=>n (e _ z),h⟩) λ_ _ n h=>⟨λz=>n (e _ z),h⟩
theorem Reps.length:∀{L:List V}{ds:List D},Reps K H O L ds->L.length=ds.length
 |_,_,.nil=>rfl
 |_,_,.cons _ t=>by simp[Reps.length t]
theorem Reps.get:∀{L:List V}{ds:List D}{i:Nat}{d:D},Reps K H O L ds->ds[i]?=some d->∃v,L[i]?=some v/\Rep K H O v d
 |_,_,_,_,.nil,e=>by simp at e
 |_,_,0,_,.cons r _,e=>by simp at e;subst e;exact⟨_,rfl,r⟩
 |_,_,i+1,d,.cons _ t,e=>by obtain⟨u,a,b⟩:=Reps.get (i:=i) (d:=d) t (by simpa using e);exact⟨u,by simpa using a,b⟩
theorem Reps.append:∀{L ws:List V}{ds es:List D},Reps K H O L ds->Reps K H O ws es->Reps K H O (L++ws) (ds++es)
 |_,_,_,_,.nil,s=>s
 |_,_,_,_,.cons r t,s=>.cons r (Reps.append t s)
theorem Reps.take:∀{L:List V}{ds:List D} (n:Nat),Reps K H O L ds->Reps K H O (L.take n) (ds.take n)
 |_,_,0,_=>.nil
 |_,_,_+1,.nil=>.nil
 |_,_,n+1,.cons r t=>.cons r (Reps.take n t)
theorem Reps.drop:∀{L:List V}{ds:List D} (n:Nat),Reps K H O L ds->Reps K H O (L.drop n) (ds.drop n)
 |_,_,0,r=>r
 |_,_,_+1,.nil=>.nil
 |_,_,n+1,.cons _ t=>Reps.drop n t
theorem Reps.set(r:Rep K H O v d):∀{L:List V}{ds:List D} (i:Nat),Reps K H O L ds->Reps K H O (L.set i v) (ds.set i d)
 |_,_,_,.nil=>.nil
 |_,_,0,.cons _ t=>.cons r t
 |_,_,i+1,.cons q t=>.cons q (Reps.set r i t)
def Reps.dropLast(r:Reps K H O L ds):Reps K H O L.dropLast ds.dropLast:=by rw[aEo,aEo,r.length];exact r.take _
def Reps.snoc(r:Reps K H O L ds)(h:Rep K H O v d):Reps K H O (L++[v]) (ds++[d]):=r.append (.cons h .nil)
theorem Reps.ints:∀(ns:List Int),Reps K H O (ns.map V.int) (ns.map D.int)
 |[]=>.nil
 |_::ns=>.cons .int (Reps.ints ns)
theorem Reps.reverse:∀{L:List V}{ds:List D},Reps K H O L ds->Reps K H O L.reverse ds.reverse
 |_,_,.nil=>.nil
 |_,_,.cons r t=>by rw[aAP,aAP];exact(Reps.reverse t).snoc r
end
def Kp(H:Hp)(O:bc->Prop)(H':Hp)(a:bc->Prop):Prop:=∀b o,H b=some o->¬O b->H' b=some o/\¬a b
section
def Kp.refl(H:Hp)(O:bc->Prop):Kp H O H O:=λ_ _ h n=>⟨h,n⟩
def Kp.of(s:Same H H'):Kp H O H' O:=λb o h n=>⟨s b o h,n⟩
def Kp.trans(a:Kp H O H' f)(b:Kp H' f d e):Kp H O d e:=λc o h n=>let⟨g,i⟩:=a c o h n;b c o g i
end
class Tabs where
 tbs:List (Addr×List (Pos×Str))
inductive Sl where
 |no|v (d:D)|o (Y:List D)|x (C:Value)|c (m:List D->R D) (φ:Hp->(Addr->Prop)->Addr->Prop)|d (N:List (D×D))
abbrev Ev:=List Sl
def Mt:HO->Prop
 |.lst _=>True
 |.dK _=>True
 |.dT _=>True
 |.ext _=>True
 |_=>False
def qG(K:iu)(H:Hp)(O:bc->Prop)(es:List DictEntry)(N:List (D×D)):Prop:=
 Paired (λ(e:DictEntry) (p:D×D)=>(∃a,e.key=.ref a/\Rep K H O (.ref a) p.1)/\(∃v,RelV v e.val/\Rep K H O v p.2)/\e.hash=m8 p.1/\U0 7 p.1=true) es N
def NK(a:bc)(o:Obj)(es:List DictEntry):Prop:=(a==sysModules)=false/\o.ExactDict/\∃b d,o.data=.dict b d/\b.toList=es
def LN:Sl->Prop
 |.o _=>True
 |.d _=>True
 |_=>False
section
variable(K:iu) (H9 H:Hp) (O:bc->Prop)
def iG(x:Option (Option V)):Sl->Prop
 |.no=>True
 |.v d=>∃v,x=some (some v)/\Rep K H O v d
 |.o Y=>∃a L,x=some (some (V.ref a))/\O a/\H9 a=none/\H a=some (.lst L)/\Reps K H O L Y
 |.x C=>∃a o,x=some (some (V.ref a))/\H a=some (.frz o (.own a))/\o.cls=C
 |.c m φ=>∃a,x=some (some (V.ref a))/\∀b e,Kp H O b e->φ b e a
 |.d N=>∃a o f,x=some (some (V.ref a))/\O a/\H9 a=none/\H a=some (.ext λh=>h.get? a=some o)/\NK a o f/\qG K H O f N/\(N.map (·.1)).Nodup
end
variable [Tabs]
def Tb(H:Hp):Prop:=∀p∈Tabs.tbs,H p.1=some (.tbl p.2)
structure EnvOk(K:PySem.W.Frag)(H9:Hp)(O0:Addr->Prop)(H:Hp)(O:Addr->Prop)(σ:St)(ρ:Ev):Prop where
 len:σ.length=ρ.length
 same:Same H9 H
 sub:∀a,O0 a->O a
 trk:∀a,O a->∃o,H a=some o/\Mt o
 trk0:∀a,O0 a->∃o,H9 a=some o
 tab:Tb H
 slot:∀(i:Nat) (sl:Sl),ρ[i]?=some sl->iG K H9 H O σ[i]? sl
 inj:∀(i j:Nat) (x y:Sl) (a:Addr),ρ[i]?=some x->ρ[j]?=some y->LN x->LN y->σ[i]?=some (some (V.ref a))->σ[j]?=some (some (V.ref a))->i=j
section
variable{K:iu}{O0 O O':bc->Prop}
def Tb.same(h:Tb H)(s:Same H H'):Tb H':=λp a=>s _ _ (h p a)
def EnvOk.val(E:EnvOk K a O0 H O σ ρ)(i:Nat)(d:D)(h:ρ[i]?=some (Sl.v d)):∃v,σ[i]?=some (some v)/\Rep K H O v d:=E.slot i _ h
def EnvOk.own(E:EnvOk K b O0 H O σ ρ)(i:Nat)(Y:List D)(h:ρ[i]?=some (Sl.o Y)):∃a L,σ[i]?=some (some (V.ref a))/\O a/\b a=none/\H a=some (.lst L)/\Reps K H O L Y:=E.slot i _ h
def qG.mono(f:∀{v:V}{d:D},Rep K H O v d->Rep K H' O' v d):∀{N:List (D×D)},qG K H O es N->qG K H' O' es N:=λ{_} r=>Paired.af3 r λ_ _ ⟨⟨v,a,b⟩,⟨w,e,g⟩,h⟩=>⟨⟨v,a,f b⟩,⟨w,e,f g⟩,h⟩
def iG.move(h:iG K y H O x sl)(i:∀a Y,Y0 K H a Y->Y0 K H' a Y)(j:∀a Y,¬O a->P7 K H a Y->¬O' a/\P7 K H' a Y)(z:∀a o u,H a=some (.frz o u)->H' a=some (.frz o u))(l:Kp H O H' O')(w:LN sl->∀a o,x=some (some (V.ref a))->O a->H a=some o->O' a/\H' a=some o):iG K y H' O' x sl:=by
 have p:∀a φ,¬O a->H a=some (.ext φ)->¬O' a/\H' a=some (.ext φ):=λa φ n h=>⟨(l a _ h n).2,(l a _ h n).1⟩;cases sl with
 |no=>trivial
 |v d=>obtain⟨v,b,e⟩:=h;exact⟨v,b,e.mono i j p⟩
 |o Y=>obtain⟨a,L,b,e,f,q,s⟩:=h;obtain⟨g,t⟩:=w trivial a _ b e q;exact⟨a,L,b,g,f,t,s.mono i j p⟩
 |x C=>obtain⟨a,o,b,e,f⟩:=h;exact⟨a,o,b,z _ _ _ e,f⟩
 |c m φ=>obtain⟨a,b,e⟩:=h;exact⟨a,b,λA B k=>e A B (l.trans k)⟩
 |d N=>obtain⟨a,o,E,b,e,f,q,s,g⟩:=h;obtain⟨t,I⟩:=w trivial a _ b e q;exact⟨a,o,E,b,t,f,I,s,g.1.mono λr=>r.mono i j p,g.2⟩
def iG.grow(h:iG K a H O x sl)(e:Same H H'):iG K a H' O x sl:=
 h.move (λ_ _ q=>e.tup q) (λ_ _ n q=>⟨n,e.seq q⟩) (λ_ _ _ q=>e _ _ q) (Kp.of e) λ_ _ _ _ b d=>⟨b,e _ _ d⟩
def EnvOk.grow(E:EnvOk K b O0 H O σ ρ)(e:Same H H'):EnvOk K b O0 H' O σ ρ where
 len:=E.len
 same:=E.same.trans e
 sub:=E.sub
 trk:=λa h=>let⟨o,q,m⟩:=E.trk a h;⟨o,e a o q,m⟩
 trk0:=E.trk0
 tab:=E.tab.same e
 slot:=λi d h=>(E.slot i d h).grow e
 inj:=E.inj
def EnvOk.fresh(E:EnvOk K a O0 H O σ ρ)(h:H p=none):¬O p:=λz=>by obtain⟨o,q,_⟩:=E.trk p z;rw[h]at q;cases q
def v9{α:Type}{l:List α}{i j:Nat}{x:α}(h:i≠j):(l.set i x)[j]?=l[j]?:=aCC h
def C1{α:Type}{l:List α}{i:Nat}{x y:α}(h:(l.set i x)[i]?=some y):y=x/\i<l.length:=by
 have a:i<l.length:=by have:=(aAC.mp h).1;simpa using this
 rw[aBM a]at h;exact⟨(Option.some.inj h).symm,a⟩
def EnvOk.put(E:EnvOk K f O0 H O σ ρ){v:Option V}{sl:Sl}(i:Nat)(no:¬LN sl)(r:iG K f H O (some v) sl):EnvOk K f O0 H O (σ.set i v) (ρ.set i sl)where
 len:=by simpa using E.len
 same:=E.same
 sub:=E.sub
 trk:=E.trk
 trk0:=E.trk0
 tab:=E.tab
 slot:=λj s h=>by
  by_cases g:i=j
  .subst g;obtain⟨e,u⟩:=C1 h;subst e;rw[aBM (by rw[E.len];exact u)];exact r
  rw[v9 g]at h⊢;exact E.slot j s h
 inj:=λj k x y a b d m n p t=>by
  have ne:∀(l:Nat) (z:Sl),(ρ.set i sl)[l]?=some z->LN z->i≠l:=λl z q o e=>by subst e;obtain⟨e,_⟩:=C1 q;subst e;exact no o
  have w:=ne j x b m;have A:=ne k y d n;rw[v9 w]at b p;rw[v9 A]at d t;exact E.inj j k x y a b d m n p t
def EnvOk.set(E:EnvOk K a O0 H O σ ρ)(i:Nat)(r:Rep K H O v d):EnvOk K a O0 H O (σ.set i (some v)) (ρ.set i (.v d)):=E.put i (λz=>z) ⟨v,rfl,r⟩
def iG.at_(h:iG K i H O x sl)(o:LN sl):∃a u,x=some (some (V.ref a))/\O a/\i a=none/\H a=some u/\Mt u:=by
 cases sl with
 |o Y=>obtain⟨a,L,b,e,f,g,_⟩:=h;exact⟨a,_,b,e,f,g,trivial⟩
 |d N=>obtain⟨a,u,j,b,e,f,g,_⟩:=h;exact⟨a,_,b,e,f,g,trivial⟩
 |_=>exact o.elim
def EnvOk.af1(E:EnvOk K t O0 H O σ ρ){a:bc}{sl:Sl}(i:Nat)(u:∀(j:Nat) (y:Sl),i≠j->ρ[j]?=some y->LN y->σ[j]?≠some (some (V.ref a)))(r:iG K t H O (some (some (V.ref a))) sl):
  EnvOk K t O0 H O (σ.set i (some (V.ref a))) (ρ.set i sl)where
 len:=by simpa using E.len
 same:=E.same
 sub:=E.sub
 trk:=E.trk
 trk0:=E.trk0
 tab:=E.tab
 slot:=λj s h=>by
  by_cases d:i=j
  .subst d;obtain⟨e,z⟩:=C1 h;subst e;rw[aBM (by rw[E.len];exact z)];exact r
  rw[v9 d]at h⊢;exact E.slot j s h
 inj:=λj k x y b n o v w g m=>by
  have at_:∀(l:Nat),i=l->(σ.set i<|some<|V.ref a)[l]?=some (some<|V.ref b)->b=a:=λl e q=>by subst e;obtain⟨e,_⟩:=C1 q;injection e with e;injection e
  by_cases d:i=j
  .by_cases f:i=k
   .exact d.symm.trans f
   exfalso;have p:=at_ j d g;subst p;rw[v9 f]at o m;exact u k y f o w m
  by_cases f:i=k
  .exfalso;have p:=at_ k f m;subst p;rw[v9 d]at n g;exact u j x d n v g
  rw[v9 d]at n g;rw[v9 f]at o m;exact E.inj j k x y b n o v w g m
def j9(h:H p=none)(o:HO):Same H (upd H p o):=λb u q=>by rw[l6 (n4 q h)];exact q
def EnvOk.ab7(E:EnvOk K f O0 H O σ ρ)(h:H a=none)(g:K.lookup a=none)(m:Mt u):EnvOk K f O0 (upd H a u) (λb=>O b\/b=a) σ ρ:=by
 have s:=j9 h u;have ne:∀b Y,P7 K H b Y->b≠a:=λb Y q z=>by
  subst z;rcases q with(q|⟨o,q⟩)|⟨o,_,_,q,_⟩
  .rw[h]at q;cases q
  .rw[h]at q;cases q
  rw[g]at q;cases q
 refine⟨E.len,E.same.trans s,λb z=>.inl (E.sub b z),λb z=>?_,E.trk0,E.tab.same s,λi j e=>?_,E.inj⟩
 .rcases z with z|z
  .obtain⟨o,q,m⟩:=E.trk b z;exact⟨o,s b o q,m⟩
  subst z;exact⟨_,j2,m⟩
 exact(E.slot i j e).move (λ_ _ q=>s.tup q) (λb Y n q=>⟨λz=>z.elim n (ne b Y q),s.seq q⟩) (λ_ _ _ q=>s _ _ q) (λb o d n=>⟨s b o d,λz=>z.elim n λe=>by subst e;rw[h]at d;cases d⟩) λ_ b o _ k l=>⟨.inl k,s _ _ l⟩
def xq(h:H a=none)(d:K.lookup a=none)(q:P7 K H b Y):b≠a:=λz=>by
 subst z;rcases q with(q|⟨o,q⟩)|⟨o,_,_,q,_⟩
 .rw[h]at q;cases q
 .rw[h]at q;cases q
 rw[d]at q;cases q
def Reps.ab7(h:H a=none)(e:K.lookup a=none)(r:Reps K H O v d):Reps K (upd H a u) (λb=>O b\/b=a) v d:=
 r.mono (λ_ _ q=>(j9 h u).tup q) (λb Y n q=>⟨λz=>z.elim n (xq h e q),(j9 h u).seq q⟩) λb φ n q=>⟨λz=>z.elim n (n4 q h),j9 h u _ _ q⟩
def EnvOk.ad9(E:EnvOk K f O0 H O σ ρ)(i:Nat)(h:H a=none)(k:K.lookup a=none)(m:Mt u)(r:f a=none->iG K f (upd H a u) (λb=>O b\/b=a) (some (some (V.ref a))) sl):
  EnvOk K f O0 (upd H a u) (λb=>O b\/b=a) (σ.set i (some (.ref a))) (ρ.set i sl):=by
 have l:f a=none:=by
  cases e:f a with
  |none=>rfl
  |some o=>have:=E.same a o e;rw[h]at this;cases this
 refine(E.ab7 h k m).af1 i (λj y _ e o q=>?_) (r l);obtain⟨b,w,d,_,_,g,_⟩:=(E.slot j y e).at_ o;rw[q]at d;injection d with d;injection d with d;injection d with d;subst d;rw[h]at g;cases g
def xL(h:H a=some u)(m:Mt u)(q:Y0 K H b Y):Y0 K (upd H a u') b Y:=by
 have ne:∀w,H b=some w->¬Mt w->b≠a:=λw e n z=>by subst z;rw[h]at e;cases e;exact n m
 rcases q with(q|⟨o,q⟩)|q
 .exact .inl (.inl (by rw[l6 (ne _ q λz=>z)];exact q))
 .exact .inl (.inr ⟨o,by rw[l6 (ne _ q λz=>z)];exact q⟩)
 exact .inr q
def vI(d:O a)(n:¬O b)(q:P7 K H b Y):P7 K (upd H a u') b Y:=by
 have ne:b≠a:=λz=>by subst z;exact n d
 rcases q with(q|⟨o,q⟩)|q
 .exact .inl (.inl (by rw[l6 ne];exact q))
 .exact .inl (.inr ⟨o,by rw[l6 ne];exact q⟩)
 exact .inr q
def Rep.upd(h:H a=some u)(m:Mt u)(e:O a)(r:Rep K H O v d):Rep K (upd H a u') O v d:=r.mono (λ_ _ q=>xL h m q) (λ_ _ n q=>⟨n,vI e n q⟩) λb _ n q=>⟨n,by rw[l6 (λz=>n (by rw[z];exact e))];exact q⟩
def Reps.upd(h:H a=some u)(m:Mt u)(e:O a)(r:Reps K H O v d):Reps K (upd H a u') O v d:=r.mono (λ_ _ q=>xL h m q) (λ_ _ n q=>⟨n,vI e n q⟩) λb _ n q=>⟨n,by rw[l6 (λz=>n (by rw[z];exact e))];exact q⟩
def EnvOk.ae5{i:Nat}{sl sl':Sl}{a:bc}{u u':HO}(E:EnvOk K t O0 H O σ ρ)(e:ρ[i]?=some sl)(v:LN sl)(A:σ[i]?=some (some (V.ref a)))(B:H a=some u)(m':Mt u')(ow':LN sl')
  (r:O a->t a=none->Mt u->iG K t (upd H a u') O (some (some (V.ref a))) sl'):EnvOk K t O0 (upd H a u') O σ (ρ.set i sl')/\Kp H O (upd H a u') O:=by
 obtain⟨b,w,d,C,U,Y,m⟩:=(E.slot i sl e).at_ v;rw[A]at d;injection d with d;injection d with d;injection d with d;subst d;rw[B]at Y;cases Y;have kp:Kp H O (upd H a u') O:=λb o g n=>⟨by rw[l6 (λz=>by subst z;exact n C)];exact g,n⟩;have nf:∀b w,H b=some w->¬Mt w->upd H a u' b=some w:=λb w q n=>by rw[l6 (λz=>by subst z;rw[B]at q;cases q;exact n m)];exact q
 refine⟨⟨by simpa using E.len,λb o q=>?_,E.sub,λb z=>?_,E.trk0,λp hp=>nf _ _ (E.tab p hp) λz=>z,λj s h=>?_,λj k x y b I J o1 o2 L q4=>?_⟩,kp⟩
 .rw[l6 (λz=>by subst z;rw[U]at q;cases q)];exact E.same b o q
 .by_cases g:b=a
  .subst g;exact⟨_,j2,m'⟩
  obtain⟨o,q,m⟩:=E.trk b z;exact⟨o,by rw[l6 g];exact q,m⟩
 .by_cases N:i=j
  .subst N;obtain⟨e',_⟩:=C1 h;subst e';rw[A];exact r C U m
  rw[v9 N]at h;refine(E.slot j s h).move (λ_ _ q=>xL B m q) (λ_ _ n q=>⟨n,vI C n q⟩) (λb o w q=>nf _ _ q λz=>z) kp λo b w I J L=>⟨J,?_⟩;rw[l6 (λz=>by subst z;exact N (E.inj i j sl s b e h v o A I))];exact L
 have f:∀l z,(ρ.set i sl')[l]?=some z->LN z->∃z',ρ[l]?=some z'/\LN z':=λl z q o=>by
  by_cases hl:i=l
  .subst hl;exact⟨sl,e,v⟩
  rw[v9 hl]at q;exact⟨z,q,o⟩
 obtain⟨x',u1,Q⟩:=f j x I o1;obtain⟨y',u2,T⟩:=f k y J o2;exact E.inj j k x' y' b u1 u2 Q T L q4
def EnvOk.ae7{i:Nat}{sl sl':Sl}{a:bc}(E:EnvOk K v O0 H O σ ρ)(e:ρ[i]?=some sl)(A:LN sl)(p:σ[i]?=some (some (V.ref a)))(no:¬LN sl')(r:iG K v H (λb=>O b/\b≠a) (some (some (V.ref a))) sl'):
  EnvOk K v O0 H (λb=>O b/\b≠a) σ (ρ.set i sl'):=by
 obtain⟨b,w,d,T,I,U,m⟩:=(E.slot i sl e).at_ A;rw[p]at d;injection d with d;injection d with d;injection d with d;subst d;have sub:∀b,(O b/\b≠a)->O b:=λb z=>z.1;refine⟨by simpa using E.len,E.same,λb z=>⟨E.sub b z,λq=>?_⟩,λb z=>E.trk b z.1,E.trk0,E.tab,λj s h=>?_,λj k x y b f g B C t J=>?_⟩
 .subst q;obtain⟨o,q⟩:=E.trk0 b z;rw[I]at q;cases q
 .by_cases u:i=j
  .subst u;obtain⟨l,_⟩:=C1 h;subst l;rw[p];exact r
  rw[v9 u]at h;refine(E.slot j s h).move (λ_ _ q=>q) (λ_ _ n q=>⟨λz=>n z.1,q⟩) (λ_ _ _ q=>q) (λb o L n=>⟨L,λz=>n z.1⟩) λo b w f g t=>⟨⟨g,λz=>?_⟩,t⟩;subst z;exact u (E.inj i j sl s b e h A o p f)
 have N:i≠j:=λz=>by subst z;obtain⟨l,_⟩:=C1 f;subst l;exact no B
 have Q:i≠k:=λz=>by subst z;obtain⟨l,_⟩:=C1 g;subst l;exact no C
 rw[v9 N]at f;rw[v9 Q]at g;exact E.inj j k x y b f g B C t J
end
def XW(X:Cx)(e:Str)(H:Hp):Prop:=False
def RC(X:Cx)(H:Hp)(O:bc->Prop)(r:R D)(Q:VK):Prop:=match r with
 |.ok d=>∀v a,Same H a->Rep X.K a O v d->Q v a
 |.ex e=>∀a,Same H a->XW X e a
 |.bad=>False
def B5(K:iu)(H:Hp)(O:bc->Prop)(v:V)(d:D):Prop:=Rep K H O v d\/∃a L b,v=.ref a/\d=.lst b/\P7 K H a L/\Reps K H O L b
def MT(X:Cx)(H:Hp)(O:bc->Prop)(r:R D)(Q:VK):Prop:=match r with
 |.ok d=>∀v a,Same H a->B5 X.K a O v d->Q v a
 |.ex e=>∀a,Same H a->XW X e a
 |.bad=>False
def sW(X:Cx)(H:Hp)(r:R Bool)(Q:Bool->Hp->Prop):Prop:=match r with
 |.ok b=>∀a,Same H a->Q b a
 |.ex e=>∀a,Same H a->XW X e a
 |.bad=>False
def JR(X:Cx)(H:Hp)(O:bc->Prop)(r:R (List D))(Q:List V->Hp->Prop):Prop:=match r with
 |.ok b=>∀L a,Same H a->Reps X.K a O L b->Q L a
 |.ex e=>∀a,Same H a->XW X e a
 |.bad=>False
def QN(X:Cx)(H:Hp)(O:bc->Prop)(r:R (List D))(Q:List V->Hp->Prop):Prop:=match r with
 |.ok b=>∀L a,Same H a->Paired (B5 X.K a O) L b->Q L a
 |.ex e=>∀a,Same H a->XW X e a
 |.bad=>False
def tD(X:Cx)(f:Ev->R D):TE:=λσ H Q=>∃a b O ρ,EnvOk X.K a b H O σ ρ/\RC X H O (f ρ) Q
def tDB(X:Cx)(f:Ev->R D):TE:=λσ H Q=>∃a b O ρ,EnvOk X.K a b H O σ ρ/\MT X H O (f ρ) Q
def tDT(X:Cx)(f:Ev->R Bool):TT:=λσ H Q=>∃a b O ρ,EnvOk X.K a b H O σ ρ/\sW X H (f ρ) Q
def tDs(X:Cx)(f:Ev->R (List D)):TA:=λσ H Q=>∃a b O ρ,EnvOk X.K a b H O σ ρ/\JR X H O (f ρ) Q
def a4q(X:Cx)(f:Ev->R (List D)):TA:=λσ H Q=>∃a b O ρ,EnvOk X.K a b H O σ ρ/\QN X H O (f ρ) Q
def PD(X:Cx)(e:cu)(f:Ev->R D):Prop:=PE X e (tD X f)
def PB(X:Cx)(e:cu)(f:Ev->R D):Prop:=PE X e (tDB X f)
def yR(X:Cx)(e:cu)(f:Ev->R Bool):Prop:=PT X e (tDT X f)
def MF(X:Cx)(es:List cu)(f:Ev->R (List D)):Prop:=PA X es (tDs X f)
def xw(X:Cx)(es:List cu)(f:Ev->R (List D)):Prop:=PA X es (a4q X f)
def ME{r:Hp->(bc->Prop)->Ev->VK->Prop}(h:PE X e t)(i:∀σ H Q a b O ρ,EnvOk X.K a b H O σ ρ->r H O ρ Q->t σ H Q):PE X e λσ H Q=>∃a b O ρ,EnvOk X.K a b H O σ ρ/\r H O ρ Q:=λd s σ H Q I q=>h d s σ H Q I (let⟨a,b,O,ρ,E,q⟩:=q;i σ H Q a b O ρ E q)
def ptI{r:Hp->(bc->Prop)->Ev->(Bool->Hp->Prop)->Prop}(h:PT X e t)(i:∀σ H Q a b O ρ,EnvOk X.K a b H O σ ρ->r H O ρ Q->t σ H Q):PT X e λσ H Q=>∃a b O ρ,EnvOk X.K a b H O σ ρ/\r H O ρ Q:=λd s σ H Q I q=>h d s σ H Q I (let⟨a,b,O,ρ,E,q⟩:=q;i σ H Q a b O ρ E q)
def paI{r:Hp->(bc->Prop)->Ev->(List V->Hp->Prop)->Prop}(h:PA X es t)(i:∀σ H Q a b O ρ,EnvOk X.K a b H O σ ρ->r H O ρ Q->t σ H Q):PA X es λσ H Q=>∃a b O ρ,EnvOk X.K a b H O σ ρ/\r H O ρ Q:=λe d s σ H Q I q=>h e d s σ H Q I (let⟨a,b,O,ρ,E,q⟩:=q;i σ H Q a b O ρ E q)
def tY{β:Type}{r:Hp->(bc->Prop)->Ev->β->Prop}{G:List (bc×Obj)->ba->St->Hp->β->Prop}(h:∀a s σ H Q,Inv X a σ H s->∀b d O ρ,EnvOk X.K b d H O σ ρ->r H O ρ Q->G a s σ H Q)(a s σ H Q)(I:Inv X a σ H s)(q:∃b d O ρ,EnvOk X.K b d H O σ ρ/\r H O ρ Q):G a s σ H Q:=let⟨b,d,O,ρ,E,q⟩:=q;h a s σ H Q I b d O ρ E q
def PD.pb(h:PD X e f):PB X e f:=ME h λσ H Q a b O ρ E q=>⟨a,b,O,ρ,E,by
 unfold RC MT at*
 cases e:f ρ with
 |ok d=>rw[e]at q;exactλv g s r=>q v g s (.inl r)
 |ex x=>rw[e]at q;exact q
 |bad=>rw[e]at q;exact q⟩
def RC.seq{O:bc->Prop}(h:RC X H O (r.bind g) Q):
  RC X H O r λv b=>∃d,r=.ok d/\Same H b/\Rep X.K b O v d/\RC X b O (g d) Q:=by
 cases r with
 |ok d=>
  intro v b f k;refine⟨d,rfl,f,k,?_⟩;have a:RC X H O (g d) Q:=h;cases e:g d with
  |ok m=>rw[e]at a;exactλw i j l=>a w i (f.trans j) l
  |ex x=>rw[e]at a;exactλi j=>a i (f.trans j)
  |bad=>rw[e]at a;exact a
 |ex x=>exact h
 |bad=>exact h
def MT.seq{O:bc->Prop}(h:RC X H O (r.bind g) Q):
  MT X H O r λv b=>∃d,r=.ok d/\Same H b/\B5 X.K b O v d/\RC X b O (g d) Q:=by
 cases r with
 |ok d=>
  intro v b f k;refine⟨d,rfl,f,k,?_⟩;have a:RC X H O (g d) Q:=h;cases e:g d with
  |ok m=>rw[e]at a;exactλw i j l=>a w i (f.trans j) l
  |ex x=>rw[e]at a;exactλi j=>a i (f.trans j)
  |bad=>rw[e]at a;exact a
 |ex x=>exact h
 |bad=>exact h
def RC.grow{O:bc->Prop}(h:RC X H O r Q)(e:Same H f):RC X f O r Q:=by
 cases r with
 |ok d=>exactλw a b g=>h w a (e.trans b) g
 |ex x=>exactλa b=>h a (e.trans b)
 |bad=>exact h
end
section
variable [Tabs]
section
variable{X:Cx}
def B5.same(e:Same H H')(r:B5 X.K H O v d):B5 X.K H' O v d:=by
 rcases r with r|⟨a,L,b,f,g,h,i⟩
 .exact .inl (r.same e)
 exact .inr ⟨a,L,b,f,g,e.seq h,i.same e⟩
def B5.aa5{K:iu}{ds:List D}(r:B5 K H O v (.lst ds)):∃a L,v=.ref a/\P7 K H a L/\Reps K H O L ds:=by
 rcases r with r|⟨a,L,g,d,b,e,f⟩
 .cases r with|lst h n r=>exact⟨_,_,rfl,h,r⟩
 injection b with b;subst b;exact⟨a,L,d,e,f⟩
def B5.af9{K:iu}(r:B5 K H O v .dct):∃a o,v=.ref a/\H a=some (.ext λh=>h.get? a=some o)/\o.ExactDict:=by
 rcases r with r|⟨a,L,d,e,b,f,g⟩
 .cases r with|dct h x n=>exact⟨_,_,rfl,h,x⟩
 cases b
def B5.tupI{K:iu}{ds:List D}(r:B5 K H O v (.tup ds)):∃a L,v=.ref a/\Y0 K H a L/\Reps K H O L ds:=by
 rcases r with r|⟨a,L,d,e,b,f,g⟩
 .cases r with|tup h r=>exact⟨_,_,rfl,h,r⟩
 cases b
def B5.aa6{K:iu}{i:Int}(r:B5 K H O v (.int i)):v=.int i:=by
 rcases r with r|⟨a,L,d,e,b,f,g⟩
 .cases r;rfl
 cases b
def B5.blI{K:iu}{i:Bool}(r:B5 K H O v (.bl i)):v=.bl i:=by
 rcases r with r|⟨a,L,d,e,b,f,g⟩
 .cases r;rfl
 cases b
def B5.ac1{K:iu}(r:B5 K H O v .non):v=.non:=by
 rcases r with r|⟨a,L,d,e,b,f,g⟩
 .cases r;rfl
 cases b
def B5.ac3{K:iu}{i:Str}(r:B5 K H O v (.str i)):v=.str i:=by
 rcases r with r|⟨a,L,d,e,b,f,g⟩
 .cases r;rfl
 cases b
end
def eG(i:Nat)(ρ:Ev):R D:=match ρ[i]? with
 |some (.v d)=>.ok d
 |_=>.bad
def AZ(i:Nat)(ρ:Ev):R D:=match ρ[i]? with
 |some (.v d)=>.ok d
 |some (.o Y)=>.ok (.lst Y)
 |_=>.bad
section
def d5(i:Nat)(a:X.N[i]?=some x:=by rfl)(b:zI X.env.scope x:=by first|exact aCD rfl|exact aBP (aCD rfl)|exact aBP (aBP rfl))(f:(x==ix)=false:=by decide)(g:(x==ka)=false:=by decide):PD X (.Name x h) (eG i):=ME (O6 a b f g) λσ H Q n p O ρ E q=>by
 unfold eG at q;cases e:ρ[i]? with
 |none=>rw[e]at q;exact q.elim
 |some j=>
  rw[e]at q;cases j with
  |no=>exact q.elim
  |x C=>exact q.elim
  |c m φ=>exact q.elim
  |d N=>exact q.elim
  |o Y=>exact q.elim
  |v d=>obtain⟨v,k,l⟩:=E.val i d e;exact⟨v,k,q v H (Same.refl H) l⟩
def b8(i:Nat)(g:X.N[i]?=some x:=by rfl)(h:zI X.env.scope x:=by first|exact aCD rfl|exact aBP (aCD rfl)|exact aBP (aBP rfl))(j:(x==ix)=false:=by decide)(k:(x==ka)=false:=by decide):PB X (.Name x l) (AZ i):=ME (O6 g h j k) λσ H Q s t O ρ E q=>by
 unfold AZ at q;cases e:ρ[i]? with
 |none=>rw[e]at q;exact q.elim
 |some n=>
  rw[e]at q;cases n with
  |no=>exact q.elim
  |x C=>exact q.elim
  |c m φ=>exact q.elim
  |d N=>exact q.elim
  |o Y=>obtain⟨a,L,b,f,u,p,r⟩:=E.own i Y e;exact⟨_,b,q _ H (Same.refl H) (.inr ⟨a,L,Y,rfl,rfl,P7.of p,r⟩)⟩
  |v d=>obtain⟨v,b,f⟩:=E.val i d e;exact⟨v,b,q v H (Same.refl H) (.inl f)⟩
def ZQ(d:D)(_:Ev):R D:=.ok d
def vY(h:PE X e (tC v))(r:∀H O,Rep X.K H O v d):PD X e (ZQ d):=ME h λσ H Q a b O ρ E q=>q v H (Same.refl H) (r H O)
def c9{j a}:PD X (.Constant (.int i) j a) (ZQ (.int i)):=vY DG λ_ _=>.int
def qT{j a}:PD X (.Constant (.bool i) j a) (ZQ (.bl i)):=vY a2w λ_ _=>.bl
def DS{j a}:PD X (.Constant .none j a) (ZQ .non):=vY qz λ_ _=>.non
def mI(X:Cx)(f:au->au->Sem au)(g:D->D->R D):Prop:=
 ∀(H:Hp) (O:bc->Prop) (x y:V) (a b:D) (Q:VK),(∀p,H p=none->¬O p)->B5 X.K H O x a->B5 X.K H O y b->RC X H O (g a b) Q->∃r,iV X f r/\r x y H Q
def a5m(X:Cx)(O:bc->Prop)(g:D->D->R D)(Q:VK):V->V->Hp->Prop:=λx y H=>∃a b,(∀p,H p=none->¬O p)/\B5 X.K H O x a/\B5 X.K H O y b/\RC X H O (g a b) Q
def oJ{f O:bc->Prop}(E:EnvOk X.K k f H O σ ρ)(q:RC X H O ((l ρ).bind λx=>(m ρ).bind λy=>g x y) Q):
  tDB X l σ H λx h=>tDB X m σ h λy i=>a5m X O g Q x y i:=by
 refine⟨k,f,O,ρ,E,?_⟩;have a:=MT.seq q;revert a;cases C:l ρ with
 |ok s=>
  intro a x h n t;obtain⟨d,e,_,r,u⟩:=a x h n t;cases e;have o:=E.grow n;refine⟨k,f,O,ρ,o,?_⟩;have b:=MT.seq u;revert b;cases I:m ρ with
  |ok v=>intro b y i j w;obtain⟨J,e,_,z,A⟩:=b y i j w;cases e;exact⟨s,v,λp B=>(o.grow j).fresh B,r.same j,z,A⟩
  |ex x=>intro b;exact b
  |bad=>intro b;exact b
 |ex x=>intro a;exact a
 |bad=>intro a;exact a
def b9(f:mI X (ee op) g)(i:PB X a j)(k:PB X b l):PD X (.BinOp a op b m) (λρ=>(j ρ).bind λx=>(l ρ).bind λy=>g x y):=by refine tY λd s σ H Q I N T O ρ E q=>?_;refine wpAny_BinOp (MA i k I (oJ E q) λv u n x y e o p t h=>?_);obtain⟨w,z,A,B,C,q⟩:=h;obtain⟨r,J,L⟩:=f e O x y w z Q A B C q;exact J d n σ e x y v u Q o p t L
def iy(f:mI X (dq op) g)(i:PB X a j)(k:PB X b l)(m:gy op b=false:=by first|exact SQ _|with_unfolding_all rfl):
  PD X (.Compare a [op] [b] n) (λρ=>(j ρ).bind λx=>(l ρ).bind λy=>g x y):=by
 refine tY λd s σ H Q I T U O ρ E q=>?_;refine wpAny_Compare1 (MA i k I (oJ E q) λv u o x y e p t w h=>?_) m;obtain⟨z,A,B,C,J,q⟩:=h;obtain⟨r,L,N⟩:=f e O x y z A Q B C J q;exact L d o σ e x y v u Q p t w N
def BS:D->R Bool
 |.bl b=>.ok b
 |_=>.bad
def oM{O:bc->Prop}{Q:Bool->Hp->Prop}(h:sW X H (r.bind BS) Q):RC X H O r λv a=>∃c,v=.bl c/\Q c a:=by
 cases r with
 |ok d=>
  cases d with
  |bl b=>intro v a e f;cases f;exact⟨b,rfl,h a e⟩
  |_=>exact(show False from h).elim
 |ex x=>exact h
 |bad=>exact h
def k9(i:mI X (dq op) g)(j:PB X a l)(m:PB X b n)(o:gy op b=false:=by first|exact SQ _|with_unfolding_all rfl):
  yR X (.Compare a [op] [b] p) (λρ=>((l ρ).bind λx=>(n ρ).bind λy=>g x y).bind BS):=by
 refine tY λd s σ H Q I H9 O0 O ρ E q=>?_;have t:=oM (O:=O) q;refine wpAny_isTrue_Compare1 (MA j m I (oJ E t) λv u w x y f A B C h=>?_) o;obtain⟨J,L,N,T,U,q⟩:=h;obtain⟨r,Y,hq⟩:=i f O x y J L _ N T U q;refine F5 (Y d w σ f x y v u _ A B C hq) λc s3 z9=>?_;obtain⟨z,H3,I3,r3,k,e,q3⟩:=z9;subst e;cases r3;exact aBu ⟨H3,I3,q3⟩
def wE(h:PD X e f)(a:∀whole,isTrue e X.env whole=(do let v<-whole;standAt e.pos;ff [v] (truthy v)):=by intro _;rfl):yR X e (λρ=>(f ρ).bind BS):=by refine ptI (my h a) λσ H Q b d O ρ E q=>⟨b,d,O,ρ,E,oM q⟩
def sW.seq{Q:Bool->Hp->Prop}(h:sW X H (r.bind g) Q):sW X H r λb f=>r=.ok b/\Same H f/\sW X f (g b) Q:=by
 cases r with
 |ok d=>
  intro f i;refine⟨rfl,i,?_⟩;have a:sW X H (g d) Q:=h;cases e:g d with
  |ok l=>rw[e]at a;exactλj k=>a j (i.trans k)
  |ex x=>rw[e]at a;exactλj k=>a j (i.trans k)
  |bad=>rw[e]at a;exact a
 |ex x=>exact h
 |bad=>exact h
def sW.af7{O:bc->Prop}(h:RC X H O (r.bind g) Q):sW X H r λb a=>r=.ok b/\Same H a/\RC X a O (g b) Q:=by
 cases r with
 |ok d=>intro a e;refine⟨rfl,e,?_⟩;have f:RC X H O (g d) Q:=h;exact f.grow e
 |ex x=>exact h
 |bad=>exact h
def sW.mono{Q e:Bool->Hp->Prop}(h:sW X H r Q)(i:∀b a,Q b a->e b a):sW X H r e:=by
 cases r with
 |ok d=>exactλa f=>i _ _ (h a f)
 |ex x=>exact h
 |bad=>exact h
def RC.mono{O:bc->Prop}(h:RC X H O r Q)(i:∀b a,Q b a->e b a):RC X H O r e:=by
 cases r with
 |ok d=>exactλv a f g=>i _ _ (h v a f g)
 |ex x=>exact h
 |bad=>exact h
def CN(X:Cx)(e:cu)(f:Ev->R Bool):Prop:=PW X e (tDT X f)
def DM(f g:Ev->R Bool):Ev->R Bool:=λρ=>(f ρ).bind λb=>if b=true then g ρ else .ok false
def orB(f g:Ev->R Bool):Ev->R Bool:=λρ=>(f ρ).bind λb=>if b=true then .ok true else g ρ
def XY(f:Ev->R Bool):Ev->R Bool:=λρ=>(f ρ).bind λb=>.ok (!b)
variable{rest:List cu}
def qL(b:yR X a f):CN X (.BoolOp .And [a] d) f:=XQ b
def oI(b:yR X a f):CN X (.BoolOp .Or [a] d) f:=xy b
def OZ(h:PW X e t)(i:∀σ H Q,t' σ H Q->t σ H Q):PW X e t':=λb a s σ H Q I q=>h b a s σ H Q I (i σ H Q q)
def wJ(j:yR X a f)(k:CN X (.BoolOp .And (b::rest) d) g):CN X (.BoolOp .And (a::b::rest) d) (DM f g):=
 OZ (jw j k) λσ H Q ⟨e,h,O,ρ,E,q⟩=>⟨e,h,O,ρ,E,sW.mono (sW.seq q)<|by
  rintro b l ⟨_,m,i⟩;cases b with
  |true=>rw[hV rfl];exact⟨e,h,O,ρ,E.grow m,i⟩
  |false=>rw[h9 aAU];exact i l (Same.refl _)⟩
def lE(j:yR X a f)(k:CN X (.BoolOp .Or (b::rest) d) g):CN X (.BoolOp .Or (a::b::rest) d) (orB f g):=
 OZ (a1y j k) λσ H Q ⟨e,h,O,ρ,E,q⟩=>⟨e,h,O,ρ,E,sW.mono (sW.seq q)<|by
  rintro b l ⟨_,m,i⟩;cases b with
  |false=>rw[h9 aAU];exact⟨e,h,O,ρ,E.grow m,i⟩
  |true=>rw[hV rfl];exact i l (Same.refl _)⟩
def CN.pt(h:CN X e f):yR X e f:=PW.pt h
def IG(d:yR X a f):yR X (.UnaryOp .Not a e) (XY f):=
 ptI (iw d) λσ H Q g h O ρ E q=>⟨g,h,O,ρ,E,sW.mono (sW.seq q)<|by rintro b i ⟨_,k,j⟩;exact j i (Same.refl _)⟩
def a0s(f:Ev->R D)(g:Ev->R D):Ev->R D:=λρ=>((f ρ).bind BS).bind λb=>if b=true then g ρ else .ok (.bl false)
def a5k(f:Ev->R D):Ev->R D:=λρ=>((f ρ).bind BS).bind λb=>.ok (.bl (!b))
def OY{op}{f:Ev->R D}(h:PD X a f):PD X (.BoolOp op [a] b) f:=qx h
def TK{f g:Ev->R D}(k:PD X a f)(l:PD X (.BoolOp .And (b::rest) d) g):PD X (.BoolOp .And (a::b::rest) d) (a0s f g):=
 ME (qj k l) λσ H Q h i O ρ E q=>⟨h,i,O,ρ,E,RC.mono (oM<|sW.af7 q) λv m ⟨c,e,_,n,j⟩=>⟨c,e,by
  cases c with
  |true=>rw[hV rfl];exact⟨h,i,O,ρ,E.grow n,j⟩
  |false=>rw[h9 aAU];exact j _ m (Same.refl _) .bl⟩⟩
def xz{f:Ev->R D}(b:PD X a f):PD X (.UnaryOp .Not a d) (a5k f):=
 ME (cx b) λσ H Q g h O ρ E q=>⟨g,h,O,ρ,E,RC.mono (oM<|sW.af7 q)<|by rintro v i ⟨c,e,_,k,j⟩;exact⟨c,e,j _ i (Same.refl _) .bl⟩⟩
def a1t:D->R D
 |.int i=>.ok (.int (-i))
 |_=>.bad
def pH{f:Ev->R D}(e:PD X a f):PD X (.UnaryOp .USub a g) (λρ=>(f ρ).bind a1t):=
 ME (a1z yw e) λσ H Q h j O ρ E q=>⟨h,j,O,ρ,E,by
  refine RC.mono (RC.seq q) λv k l=>?_;obtain⟨d,_,n,m,b⟩:=l;cases d with
  |int i=>cases m;exact⟨i,rfl,b _ k (Same.refl _) .int⟩
  |_=>exact(show False from b).elim⟩
def JR.seq{H:Hp}{O:bc->Prop}{r:R (List D)}{g:List D->R D}{Q:VK}(h:RC X H O (r.bind g) Q):
  JR X H O r λv a=>∃d,r=.ok d/\Same H a/\Reps X.K a O v d/\RC X a O (g d) Q:=by
 cases r with
 |ok d=>exactλv a b e=>⟨d,rfl,b,e,(show RC X H O (g d) Q from h).grow b⟩
 |ex x=>exact h
 |bad=>exact h
def JR.mono{O:bc->Prop}{Q e:List V->Hp->Prop}(h:JR X H O r Q)(i:∀b a,Q b a->e b a):JR X H O r e:=by
 cases r with
 |ok d=>exactλv a f g=>i _ _ (h v a f g)
 |ex x=>exact h
 |bad=>exact h
def QN.seq{H:Hp}{O:bc->Prop}{r:R (List D)}{g:List D->R D}{Q:VK}(h:RC X H O (r.bind g) Q):
  QN X H O r λv a=>∃d,r=.ok d/\Same H a/\Paired (B5 X.K a O) v d/\RC X a O (g d) Q:=by
 cases r with
 |ok d=>exactλv a b e=>⟨d,rfl,b,e,(show RC X H O (g d) Q from h).grow b⟩
 |ex x=>exact h
 |bad=>exact h
def MT.mono{O:bc->Prop}(h:MT X H O r Q)(i:∀b a,Q b a->e b a):MT X H O r e:=by
 cases r with
 |ok d=>exactλv a f g=>i _ _ (h v a f g)
 |ex x=>exact h
 |bad=>exact h
def l9(f:Ev->R D)(g:Ev->R (List D)):Ev->R (List D):=λρ=>(f ρ).bind λd=>(g ρ).bind λa=>.ok (d::a)
def S7:Ev->R (List D):=λ_=>.ok []
def m6:MF X [] S7:=paI dG λσ H Q a b O ρ E q=>q [] H (Same.refl _) .nil
def f9{f:Ev->R D}{g:Ev->R (List D)}(m:PD X e f)(n:MF X es g)(o:bb (e::es) X.env=(false,dm e X.env)::bb es X.env:=by rfl):MF X (e::es) (l9 f g):=
 paI (O9 m n o) λσ H Q k l O ρ E q=>⟨k,l,O,ρ,E,by
  unfold l9 at q;cases b:f ρ with
  |ok d=>
   rw[b]at q;intro v s h p;refine⟨k,l,O,ρ,E.grow h,?_⟩;cases i:g ρ with
   |ok t=>rw[i]at q;exactλL j a r=>q (v::L) j (h.trans a) (.cons (p.same a) r)
   |ex x=>rw[i]at q;exactλj a=>q j (h.trans a)
   |bad=>rw[i]at q;exact q
  |ex x=>rw[b]at q;exact q
  |bad=>rw[b]at q;exact q⟩
def E6:xw X [] S7:=paI dG λσ H Q a b O ρ E q=>q [] H (Same.refl _) .nil
def u6{f:Ev->R D}{g:Ev->R (List D)}(m:PB X e f)(n:xw X es g)(o:bb (e::es) X.env=(false,dm e X.env)::bb es X.env:=by rfl):xw X (e::es) (l9 f g):=
 paI (O9 m n o) λσ H Q k l O ρ E q=>⟨k,l,O,ρ,E,by
  unfold l9 at q;cases b:f ρ with
  |ok d=>
   rw[b]at q;intro v s h p;refine⟨k,l,O,ρ,E.grow h,?_⟩;cases i:g ρ with
   |ok t=>rw[i]at q;exactλL j a r=>q (v::L) j (h.trans a) (.cons (p.same a) r)
   |ex x=>rw[i]at q;exactλj a=>q j (h.trans a)
   |bad=>rw[i]at q;exact q
  |ex x=>rw[b]at q;exact q
  |bad=>rw[b]at q;exact q⟩
def nK(ds:List D):R D:=if ds.length<=sizeLine then .ok (.tup ds)else .bad
def KD(ds:List D):R D:=if ds.length<=sizeLine then .ok (.lst ds)else .bad
def pI{f:Ev->R (List D)}{e}(h:MF X es f):PD X (.Tuple es e g) (λρ=>(f ρ).bind nK):=
 ME (rq h) λσ H Q i j O ρ E q=>⟨i,j,O,ρ,E,JR.mono (JR.seq q)<|by
  rintro L l ⟨m,_,n,b,a⟩;unfold nK at a;split at a
  .rename_i k;exact⟨by rw[b.length];exact k,λp d=>a (.ref p) _ (j9 d _) (.tup (Y0.of j2) (b.same<|j9 d _))⟩
  exact a.elim⟩
def vT{f:Ev->R (List D)}(h:MF X es f):PD X (.List es e) (λρ=>(f ρ).bind KD):=
 ME (OD h) λσ H Q g i O ρ E q=>⟨g,i,O,ρ,E,JR.mono (JR.seq q)<|by
  rintro L l ⟨m,_,j,d,a⟩;unfold KD at a;split at a
  .rename_i k;exact⟨by rw[d.length];exact k,λp b=>a (.ref p) _ (j9 b _) (.lst (P7.of j2) ((E.grow j).fresh b) (d.same<|j9 b _))⟩
  exact a.elim⟩
def dW(X:Cx)(f:au)(g:List D->R D):Prop:=
 ∀(H:Hp) (O:bc->Prop) (L:List V) (a:List D) (Q:VK),(∀p,H p=none->¬O p)->Paired (B5 X.K H O) L a->RC X H O (g a) Q->∃r,tN X f r/\r L H Q
def dH{x:Str}{id:String}{p:Pos}{f:Ev->R (List D)}{g:List D->R D}(j:dW X (.builtin id) g)(k:xw X (e::es) f)(l:Gl X x:=by rfl)(m:X.mg x=none:=by assumption)(n:de x=some (.builtin id):=by decide+kernel)(o:x≠ "__name__":=by decide)
  (t:(x==ix)=false:=by decide) (u:bb (e::es) X.env=(false,dm e X.env)::bb es X.env:=by rfl) (v:(cy b (bb es X.env)).any (·.1)=false:=by rfl):
  PD X (.Call (.Name x p) (e::es) [] b) (λρ=>(f ρ).bind g):=by
 refine tY λa s σ H Q I w y O ρ E q=>?_;refine aBg (T9 I l m n ?_ o t);refine aCt (F5 (k b a s σ H _ I ⟨w,y,O,ρ,E,QN.seq q⟩) λz A ⟨L,i,B,C,d,_,J,r,h⟩=>?_) u v;obtain⟨Y,N,T⟩:=j i O L d Q (λp U=>(E.grow J).fresh U) r h;exact N a A σ i L z Q B C T
def lB{x:Str}{T:String}{p:Pos}{f:Ev->R (List D)}{g:List D->R D}(j:dW X (.type T) g)(k:xw X (e::es) f)(l:Gl X x:=by rfl)(m:X.mg x=none:=by assumption)(n:de x=some (.type T):=by decide+kernel)(o:x≠ "__name__":=by decide)
  (t:(x==ix)=false:=by decide) (u:bb (e::es) X.env=(false,dm e X.env)::bb es X.env:=by rfl) (v:(cy b (bb es X.env)).any (·.1)=false:=by rfl):
  PD X (.Call (.Name x p) (e::es) [] b) (λρ=>(f ρ).bind g):=by
 refine tY λa s σ H Q I w y O ρ E q=>?_;refine aBg (T9 I l m n ?_ o t);refine aBv (F5 (k b a s σ H _ I ⟨w,y,O,ρ,E,QN.seq q⟩) λz A ⟨L,i,B,C,d,_,J,r,h⟩=>?_) u v;obtain⟨r',N,U⟩:=j i O L d Q (λp Y=>(E.grow J).fresh Y) r h;exact N a A σ i L z Q B C U
end
mutual
def v5:D->D->Bool
 |.non,.non=>true
 |.bl a,.bl b=>a==b
 |.bl a,.int b=>(if a then 1 else 0)==b
 |.int a,.bl b=>a==(if b then 1 else 0)
 |.int a,.int b=>a==b
 |.str a,.str b=>a==b
 |.tup Y,.tup d=>Z4 Y d
 |.lst Y,.lst d=>Z4 Y d
 |.dct,.dct=>true
 |_,_=>false
def Z4:List D->List D->Bool
 |[],[]=>true
 |x::Y,y::a=>v5 x y&&Z4 Y a
 |_,_=>false
end
mutual
def G2:D->Nat
 |.tup Y=>B1 Y+1
 |.lst Y=>B1 Y+1
 |.dct=>cz
 |_=>0
def B1:List D->Nat
 |[]=>0
 |x::Y=>max (G2 x) (B1 Y)
end
mutual
theorem S4:∀d:D,v5 d d=true
 |.non=>by simp[v5]
 |.bl b=>by simp[v5]
 |.int i=>by simp[v5]
 |.str x=>by simp[v5]
 |.tup Y=>by rw[v5];exact lX Y
 |.lst Y=>by rw[v5];exact lX Y
 |.dct=>by simp[v5]
theorem lX:∀ds:List D,Z4 ds ds=true
 |[]=>by simp[Z4]
 |x::Y=>by rw[Z4,S4 x,lX Y];rfl
end
def mL(Y d:List D)(j:Nat):Bool:=match Y[j]?,d[j]? with
 |some a,some b=>v5 a b
 |_,_=>false
theorem gF:∀(Y a:List D),Z4 Y a=((aBc (min Y.length a.length)).all (mL Y a)&&(Y.length==a.length))
 |[],[]=>by simp[Z4]
 |[],_::_=>by simp[Z4]
 |_::_,[]=>by simp[Z4]
 |x::Y,y::a=>by
  rw[Z4,gF Y a,aAq,aAq,Nat.succ_min_succ,aFG,aGr,List.all_map];have b:mL (x::Y) (y::a) 0=v5 x y:=rfl;have d:(mL (x::Y) (y::a)∘Nat.succ)=mL Y a:=by
   funext j
   simp[mL]
  have e:(Y.length+1==a.length+1)=(Y.length==a.length):=by rw[aEb];simp
  rw[b,d,e,Bool.and_assoc]
theorem nU:∀{Y:List D}{d:D}{j:Nat},Y[j]?=some d->G2 d<=B1 Y
 |[],_,_,h=>by simp at h
 |x::Y,d,0,h=>by simp at h;subst h;rw[B1];exact Nat.le_max_left _ _
 |x::Y,d,j+1,h=>by rw[B1];exact aAp (nU (j:=j) (by simpa using h)) (Nat.le_max_right _ _)
section
def EK{K:iu}{H:Hp}{O:bc->Prop}{a:bc}{d:D}(h:Rep K H O (.ref a) d):(∃L ds,d=.tup ds/\Y0 K H a L/\Reps K H O L ds)\/(∃L ds,d=.lst ds/\P7 K H a L/\Reps K H O L ds)\/(d=.dct/\∃o:Obj,H a=some (.ext λh=>h.get? a=some o)/\o.ExactDict):=by
 cases h with
 |tup h r=>exact .inl ⟨_,_,rfl,h,r⟩
 |lst h n r=>exact .inr (.inl ⟨_,_,rfl,h,r⟩)
 |dct h x n=>exact .inr (.inr ⟨rfl,_,h,x⟩)
def ZF(I:Inv X b σ H s)(h:Y0 X.K H a L)(h':P7 X.K H a ws):False:=by obtain⟨e,_,p,_⟩:=I.tuple h;obtain⟨d,_,f,_⟩:=I.list h';exact absurd rfl (SeqAt.ne_of_list_tuple (s:=s) f.isList p)
def ak{o:Obj}(I:Inv X b σ H s)(h':Y0 X.K H a L)(h:H a=some (.ext λh=>h.get? a=some o))(x:o.ExactDict):False:=by obtain⟨d,_,⟨f,g,c,_⟩,_⟩:=I.tuple h';have e:s.heap.get? _=some _:=(I.hok _ _ h).1;rw[g]at e;cases e;exact absurd (c.symm.trans x.1) (by decide)
def aq{o:Obj}(I:Inv X b σ H s)(h':P7 X.K H a L)(h:H a=some (.ext λh=>h.get? a=some o))(x:o.ExactDict):False:=by obtain⟨d,_,p,_⟩:=I.list h';obtain⟨f,g,c,_⟩:=p.isList;have e:s.heap.get? _=some _:=(I.hok _ _ h).1;rw[g]at e;cases e;exact absurd (c.symm.trans x.1) (by decide)
mutual
theorem Rep.inj(I:Inv X g σ H s):∀{v:V}{d:D},Rep X.K H O v d->∀{d':D},Rep X.K H i v d'->d=d'
 |_,_,.non=>λh=>by cases h;rfl
 |_,_,.bl=>λh=>by cases h;rfl
 |_,_,.int=>λh=>by cases h;rfl
 |_,_,.str=>λh=>by cases h;rfl
 |_,_,.tup h r=>λb=>by
  rcases EK b with⟨_,_,rfl,a,f⟩|⟨_,_,rfl,a,_⟩|⟨rfl,_,a,x⟩
  .have e:=I.ab5 h a;subst e;rw[Reps.inj I r f]
  .exact(ZF I h a).elim
  exact(ak I h a x).elim
 |_,_,.lst h _ r=>λb=>by
  rcases EK b with⟨_,_,rfl,a,_⟩|⟨_,_,rfl,a,f⟩|⟨rfl,_,a,x⟩
  .exact(ZF I a h).elim
  .have e:=I.ab9 h a;subst e;rw[Reps.inj I r f]
  exact(aq I h a x).elim
 |_,_,.dct h x _=>λb=>by
  rcases EK b with⟨_,_,rfl,a,_⟩|⟨_,_,rfl,a,_⟩|⟨rfl,_⟩
  .exact(ak I a h x).elim
  .exact(aq I a h x).elim
  rfl
theorem Reps.inj(I:Inv X a σ H s):∀{v:List V}{d:List D},Reps X.K H O v d->∀{d':List D},Reps X.K H g v d'->d=d'
 |_,_,.nil=>λh=>by cases h;rfl
 |_,_,.cons h t=>λb=>by
  cases b with
  |cons e f=>rw[Rep.inj I h e,Reps.inj I t f]
end
def nZ(A:cf)(s:ba)(a ws:List au)(Y b:List D):Prop:=∀(j:Nat) (u w:au),a[j]?=some u->ws[j]?=some w->SeqAt.EqAt A.in1 s u w (mL Y b j)
def yP(g:s.heap.IsList l a.toArray)(h:s.heap.IsList b ws.toArray)(e1:a.length=Y.length)(e2:ws.length=d.length)(i:A.units<cz)(p:nZ A s a ws Y d):SeqAt.RcAt A s (.ref l) (.ref b) (Z4 Y d)/\SeqAt.RcNeAt A s (.ref l) (.ref b) (!Z4 Y d):=by
 rw[gF];by_cases e:Y.length=d.length
 .have f:a.toArray.size=ws.toArray.size:=by simp[e1,e2,e]
  have q:min Y.length d.length=a.toArray.size:=by simp[e1,e]
  have k:(Y.length==d.length)=true:=by simp[e]
  have m:∀j (n:j<a.toArray.size) (o:j<ws.toArray.size),SeqAt.EqAt A.in1 s a.toArray[j] ws.toArray[j] (mL Y d j):=λj n o=>p j _ _ (by simp[aAi (show j<a.length by simpa using n)]) (by simp[aAi (show j<ws.length by simpa using o)]);rw[k,Bool.and_true,q];exact⟨SeqAt.RcAt.lists g h f i m,SeqAt.RcNeAt.lists g h f i m⟩
 have f:(a.toArray.size !=ws.toArray.size)=true:=by simp[e1,e2,e]
 have k:(Y.length==d.length)=false:=by simp[e]
 rw[k,aGi];exact⟨SeqAt.RcAt.lists_lengths g h f i,SeqAt.RcNeAt.lists_lengths g h f i⟩
def lH(e:IsTup s.heap l a.toArray)(f:IsTup s.heap b ws.toArray)(e1:a.length=Y.length)(e2:ws.length=d.length)(g:A.units<cz)(m:nZ A s a ws Y d):SeqAt.RcAt A s (.ref l) (.ref b) (Z4 Y d)/\SeqAt.RcNeAt A s (.ref l) (.ref b) (!Z4 Y d):=by
 rw[gF];have n:min Y.length d.length=min a.toArray.size ws.toArray.size:=by simp[e1,e2]
 have o:(Y.length==d.length)=(a.toArray.size==ws.toArray.size):=by simp[e1,e2]
 have h:∀j (i:j<a.toArray.size) (k:j<ws.toArray.size),SeqAt.EqAt A.in1 s a.toArray[j] ws.toArray[j] (mL Y d j):=λj i k=>m j _ _ (by simp[aAi (show j<a.length by simpa using i)]) (by simp[aAi (show j<ws.length by simpa using k)]);rw[o,n];exact⟨SeqAt.RcAt.tuples e f g h,SeqAt.RcNeAt.tuples e f g h⟩
def o5(A:cf):A.in1.units=A.units+1:=rfl
mutual
theorem UI(I:Inv X N σ H s):∀{x y:V}{w z:D}{v u:au}{A:cf},Rep X.K H O x w->Rep X.K H O' y z->RelV x v->RelV y u->A.units+G2 w<cz->A.units+G2 z<cz->SeqAt.EqAt A s v u (v5 w z)
 |_,_,_,_,v,u,A,.non,g,i,b,j,f=>by
  have d:A.units<cz:=by lia
  cases i;cases g with
  |dct=>exact absurd f (by rw[G2];lia)
  |non=>cases b;exact aEc _
  |bl=>cases b;simp only[v5];exact SeqAt.EqAt.none_bool _
  |int=>obtain⟨t,rfl⟩:=b;simp only[v5];exact SeqAt.EqAt.none_int _ _
  |str=>obtain⟨t,rfl⟩:=b;simp only[v5];exact SeqAt.EqAt.none_str _ _
  |tup h r=>cases b;obtain⟨_,_,p,_⟩:=I.tuple h;simp only[v5];exact SeqAt.EqAt.none_tuple p d
  |lst h _ r=>cases b;obtain⟨_,_,p,_⟩:=I.list h;simp only[v5];exact SeqAt.EqAt.none_list p.isList d
 |_,_,_,_,v,u,A,.bl,g,i,b,j,f=>by
  have d:A.units<cz:=by lia
  cases i;cases g with
  |dct=>exact absurd f (by rw[G2];lia)
  |non=>cases b;simp only[v5];exact SeqAt.EqAt.bool_none _
  |bl=>cases b;simp only[v5];exact SeqAt.EqAt.bool_bool _ _
  |int=>obtain⟨t,rfl⟩:=b;simp only[v5];exact SeqAt.EqAt.bool_int _ _ _
  |str=>obtain⟨t,rfl⟩:=b;simp only[v5];exact SeqAt.EqAt.bool_str _ _ _
  |tup h r=>cases b;obtain⟨_,_,p,_⟩:=I.tuple h;simp only[v5];exact SeqAt.EqAt.bool_tuple _ p d
  |lst h _ r=>cases b;obtain⟨_,_,p,_⟩:=I.list h;simp only[v5];exact SeqAt.EqAt.bool_list _ p.isList d
 |_,_,_,_,v,u,A,.int,g,i,b,j,f=>by
  have d:A.units<cz:=by lia
  obtain⟨Q,rfl⟩:=i;cases g with
  |dct=>exact absurd f (by rw[G2];lia)
  |non=>cases b;simp only[v5];exact SeqAt.EqAt.int_none _ _
  |bl=>cases b;simp only[v5];exact SeqAt.EqAt.int_bool _ _ _
  |int=>obtain⟨t,rfl⟩:=b;simp only[v5];exact aEZ _ _ _ _
  |str=>obtain⟨t,rfl⟩:=b;simp only[v5];exact aGp _ _ _ _
  |tup h r=>cases b;obtain⟨_,_,p,_⟩:=I.tuple h;simp only[v5];exact aGc _ _ p d
  |lst h _ r=>cases b;obtain⟨_,_,p,_⟩:=I.list h;simp only[v5];exact SeqAt.EqAt.int_list _ _ p.isList d
 |_,_,_,_,v,u,A,.str,g,i,b,j,f=>by
  have d:A.units<cz:=by lia
  obtain⟨Q,rfl⟩:=i;cases g with
  |dct=>exact absurd f (by rw[G2];lia)
  |non=>cases b;simp only[v5];exact SeqAt.EqAt.str_none _ _
  |bl=>cases b;simp only[v5];exact SeqAt.EqAt.str_bool _ _ _
  |int=>obtain⟨t,rfl⟩:=b;simp only[v5];exact aGq _ _ _ _
  |str=>obtain⟨t,rfl⟩:=b;simp only[v5];exact SeqAt.EqAt.str_str _ _ _ _
  |tup h r=>cases b;obtain⟨_,_,p,_⟩:=I.tuple h;simp only[v5];exact SeqAt.EqAt.str_tuple _ _ p d
  |lst h _ r=>cases b;obtain⟨_,_,p,_⟩:=I.list h;simp only[v5];exact SeqAt.EqAt.str_list _ _ p.isList d
 |_,_,_,_,v,u,A,.tup (a:=a) (L:=L) (ds:=ds) h r,g,i,b,j,f=>by
  have d:A.units<cz:=by lia
  cases i;obtain⟨B,n,p,_⟩:=I.tuple h;cases g with
  |dct=>exact absurd f (by rw[G2];lia)
  |non=>cases b;simp only[v5];exact SeqAt.EqAt.tuple_none p d
  |bl=>cases b;simp only[v5];exact SeqAt.EqAt.tuple_bool _ p d
  |int=>obtain⟨t,rfl⟩:=b;simp only[v5];exact aGd _ _ p d
  |str=>obtain⟨t,rfl⟩:=b;simp only[v5];exact SeqAt.EqAt.tuple_str _ _ p d
  |@tup C T U k l=>
   cases b;obtain⟨o,q,m,_⟩:=I.tuple k;by_cases e:a=C
   .subst e;have E:=I.ab5 h k;subst E;have J:=Reps.inj I r l;subst J;rw[S4];exact aEc _
   simp only[v5];refine aFa e (lH p m (by rw[<-n.length,r.length]) (by rw[<-q.length,l.length]) d<|jP I r l n q ?_ ?_).1
   .rw[G2]at j;rw[o5];lia
   rw[G2]at f;rw[o5];lia
  |lst k _ l=>cases b;obtain⟨_,_,m,_⟩:=I.list k;simp only[v5];exact SeqAt.EqAt.tuple_list p m.isList d
 |_,_,_,_,v,u,A,.lst (a:=a) (L:=L) (ds:=ds) h nO r,g,i,b,j,f=>by
  have d:A.units<cz:=by lia
  cases i;obtain⟨B,n,p,_⟩:=I.list h;cases g with
  |dct=>exact absurd f (by rw[G2];lia)
  |non=>cases b;simp only[v5];exact SeqAt.EqAt.list_none p.isList d
  |bl=>cases b;simp only[v5];exact SeqAt.EqAt.list_bool _ p.isList d
  |int=>obtain⟨t,rfl⟩:=b;simp only[v5];exact SeqAt.EqAt.list_int _ _ p.isList d
  |str=>obtain⟨t,rfl⟩:=b;simp only[v5];exact SeqAt.EqAt.list_str _ _ p.isList d
  |tup k l=>cases b;obtain⟨_,_,m,_⟩:=I.tuple k;simp only[v5];exact SeqAt.EqAt.list_tuple p.isList m d
  |@lst C T U k Y l=>
   cases b;obtain⟨o,q,m,_⟩:=I.list k;by_cases e:a=C
   .subst e;have E:=I.ab9 h k;subst E;have J:=Reps.inj I r l;subst J;rw[S4];exact aEc _
   simp only[v5];refine aFa e (yP p.isList m.isList (by rw[<-n.length,r.length]) (by rw[<-q.length,l.length]) d<|jP I r l n q ?_ ?_).1
   .rw[G2]at j;rw[o5];lia
   rw[G2]at f;rw[o5];lia
 |_,_,_,_,v,u,A,.dct ..,g,i,b,j,f=>absurd j (by rw[G2];lia)
theorem jP(I:Inv X p σ H s):∀{L ws:List V}{Y k:List D}{e f:List au}{A:cf},Reps X.K H O L Y->Reps X.K H z ws k->l7 L e->l7 ws f->A.in1.units+B1 Y<cz->A.in1.units+B1 k<cz->nZ A s e f Y k
 |_,_,_,_,e,f,A,.nil,B,g,i,l,m=>λj u w a b=>by cases g;simp at a
 |_,_,_,_,e,f,A,.cons h t,.nil,g,i,l,m=>λj u w a b=>by cases i;simp at b
 |_,_,_,_,e,f,A,.cons (d:=d) (ds:=ds) h t,.cons (d:=C) (ds:=E) r v,g,i,l,m=>λj u w a b=>by
  cases g with
  |cons x y=>
   cases i with
   |cons n o=>
    rw[B1]at l m;cases j with
    |zero=>simp only[aCE,aGz]at a b;subst a b;exact UI I h r x n (by lia) (by lia)
    |succ j=>simp only[aDi]at a b;have q:=jP I (A:=A) t v y o (by lia) (by lia) j u w a b;exact q
end
def a1o(I:Inv X N σ H s)(m:B5 X.K H O x z)(d:B5 X.K H T y g)(n:RelV x v)(e:RelV y u)(B:A.units+G2 z<cz)(j:A.units+G2 g<cz):
  SeqAt.RcAt A s v u (v5 z g)/\SeqAt.RcNeAt A s v u (!v5 z g):=by
 have b:A.units<cz:=by lia
 cases z with
 |dct=>exact absurd B (by rw[G2];lia)
 |non=>
  cases m.ac1;cases n;cases g with
  |dct=>exact absurd j (by rw[G2];lia)
  |non=>cases d.ac1;cases e;simp only[v5];exact⟨SeqAt.RcAt.none_none,SeqAt.RcNeAt.none_none⟩
  |bl=>cases d.blI;cases e;simp only[v5];exact⟨SeqAt.RcAt.none_bool _,SeqAt.RcNeAt.none_bool _⟩
  |int=>cases d.aa6;obtain⟨t,rfl⟩:=e;simp only[v5];exact⟨SeqAt.RcAt.none_int _ _,SeqAt.RcNeAt.none_int _ _⟩
  |str=>cases d.ac3;obtain⟨t,rfl⟩:=e;simp only[v5];exact⟨SeqAt.RcAt.none_str _ _,SeqAt.RcNeAt.none_str _ _⟩
  |tup f=>obtain⟨a,L,rfl,h,r⟩:=d.tupI;cases e;obtain⟨_,_,p,_⟩:=I.tuple h;simp only[v5];exact⟨SeqAt.RcAt.none_tuple p b,SeqAt.RcNeAt.none_tuple p b⟩
  |lst f=>obtain⟨a,L,rfl,h,r⟩:=d.aa5;cases e;obtain⟨_,_,p,_⟩:=I.list h;simp only[v5];exact⟨SeqAt.RcAt.none_list p.isList b,SeqAt.RcNeAt.none_list p.isList b⟩
 |bl=>
  cases m.blI;cases n;cases g with
  |dct=>exact absurd j (by rw[G2];lia)
  |non=>cases d.ac1;cases e;simp only[v5];exact⟨SeqAt.RcAt.bool_none _,SeqAt.RcNeAt.bool_none _⟩
  |bl=>cases d.blI;cases e;simp only[v5];exact⟨SeqAt.RcAt.bool_bool _ _,SeqAt.RcNeAt.bool_bool _ _⟩
  |int=>cases d.aa6;obtain⟨t,rfl⟩:=e;simp only[v5];exact⟨SeqAt.RcAt.bool_int _ _ _,SeqAt.RcNeAt.bool_int _ _ _⟩
  |str=>cases d.ac3;obtain⟨t,rfl⟩:=e;simp only[v5];exact⟨SeqAt.RcAt.bool_str _ _ _,SeqAt.RcNeAt.bool_str _ _ _⟩
  |tup f=>obtain⟨a,L,rfl,h,r⟩:=d.tupI;cases e;obtain⟨_,_,p,_⟩:=I.tuple h;simp only[v5];exact⟨SeqAt.RcAt.bool_tuple _ p b,SeqAt.RcNeAt.bool_tuple _ p b⟩
  |lst f=>obtain⟨a,L,rfl,h,r⟩:=d.aa5;cases e;obtain⟨_,_,p,_⟩:=I.list h;simp only[v5];exact⟨SeqAt.RcAt.bool_list _ p.isList b,SeqAt.RcNeAt.bool_list _ p.isList b⟩
 |int=>
  cases m.aa6;obtain⟨Q,rfl⟩:=n;cases g with
  |dct=>exact absurd j (by rw[G2];lia)
  |non=>cases d.ac1;cases e;simp only[v5];exact⟨SeqAt.RcAt.int_none _ _,SeqAt.RcNeAt.int_none _ _⟩
  |bl=>cases d.blI;cases e;simp only[v5];exact⟨SeqAt.RcAt.int_bool _ _ _,SeqAt.RcNeAt.int_bool _ _ _⟩
  |int=>cases d.aa6;obtain⟨t,rfl⟩:=e;simp only[v5];exact⟨SeqAt.RcAt.int_int _ _ _ _,SeqAt.RcNeAt.int_int _ _ _ _⟩
  |str=>cases d.ac3;obtain⟨t,rfl⟩:=e;simp only[v5];exact⟨SeqAt.RcAt.int_str _ _ _ _,SeqAt.RcNeAt.int_str _ _ _ _⟩
  |tup f=>obtain⟨a,L,rfl,h,r⟩:=d.tupI;cases e;obtain⟨_,_,p,_⟩:=I.tuple h;simp only[v5];exact⟨SeqAt.RcAt.int_tuple _ _ p b,SeqAt.RcNeAt.int_tuple _ _ p b⟩
  |lst f=>obtain⟨a,L,rfl,h,r⟩:=d.aa5;cases e;obtain⟨_,_,p,_⟩:=I.list h;simp only[v5];exact⟨SeqAt.RcAt.int_list _ _ p.isList b,SeqAt.RcNeAt.int_list _ _ p.isList b⟩
 |str=>
  cases m.ac3;obtain⟨Q,rfl⟩:=n;cases g with
  |dct=>exact absurd j (by rw[G2];lia)
  |non=>cases d.ac1;cases e;simp only[v5];exact⟨SeqAt.RcAt.str_none _ _,SeqAt.RcNeAt.str_none _ _⟩
  |bl=>cases d.blI;cases e;simp only[v5];exact⟨SeqAt.RcAt.str_bool _ _ _,SeqAt.RcNeAt.str_bool _ _ _⟩
  |int=>cases d.aa6;obtain⟨t,rfl⟩:=e;simp only[v5];exact⟨SeqAt.RcAt.str_int _ _ _ _,SeqAt.RcNeAt.str_int _ _ _ _⟩
  |str=>cases d.ac3;obtain⟨t,rfl⟩:=e;simp only[v5];exact⟨SeqAt.RcAt.str_str _ _ _ _,SeqAt.RcNeAt.str_str _ _ _ _⟩
  |tup f=>obtain⟨a,L,rfl,h,r⟩:=d.tupI;cases e;obtain⟨_,_,p,_⟩:=I.tuple h;simp only[v5];exact⟨SeqAt.RcAt.str_tuple _ _ p b,SeqAt.RcNeAt.str_tuple _ _ p b⟩
  |lst f=>obtain⟨a,L,rfl,h,r⟩:=d.aa5;cases e;obtain⟨_,_,p,_⟩:=I.list h;simp only[v5];exact⟨SeqAt.RcAt.str_list _ _ p.isList b,SeqAt.RcNeAt.str_list _ _ p.isList b⟩
 |tup Y=>
  obtain⟨a,L,rfl,h,r⟩:=m.tupI;cases n;obtain⟨C,o,p,_⟩:=I.tuple h;cases g with
  |dct=>exact absurd j (by rw[G2];lia)
  |non=>cases d.ac1;cases e;simp only[v5];exact⟨SeqAt.RcAt.tuple_none p b,SeqAt.RcNeAt.tuple_none p b⟩
  |bl=>cases d.blI;cases e;simp only[v5];exact⟨SeqAt.RcAt.tuple_bool _ p b,SeqAt.RcNeAt.tuple_bool _ p b⟩
  |int=>cases d.aa6;obtain⟨t,rfl⟩:=e;simp only[v5];exact⟨SeqAt.RcAt.tuple_int _ _ p b,SeqAt.RcNeAt.tuple_int _ _ p b⟩
  |str=>cases d.ac3;obtain⟨t,rfl⟩:=e;simp only[v5];exact⟨SeqAt.RcAt.tuple_str _ _ p b,SeqAt.RcNeAt.tuple_str _ _ p b⟩
  |tup f=>
   obtain⟨E,J,rfl,k,l⟩:=d.tupI;cases e;obtain⟨q,w,i,_⟩:=I.tuple k;simp only[v5];refine lH p i (by rw[<-o.length,r.length]) (by rw[<-w.length,l.length]) b (jP I r l o w ?_ ?_)
   .rw[G2]at B;rw[o5];lia
   rw[G2]at j;rw[o5];lia
  |lst f=>obtain⟨E,J,rfl,k,l⟩:=d.aa5;cases e;obtain⟨_,_,i,_⟩:=I.list k;simp only[v5];exact⟨SeqAt.RcAt.tuple_list p i.isList b,SeqAt.RcNeAt.tuple_list p i.isList b⟩
 |lst Y=>
  obtain⟨a,L,rfl,h,r⟩:=m.aa5;cases n;obtain⟨C,o,p,_⟩:=I.list h;cases g with
  |dct=>exact absurd j (by rw[G2];lia)
  |non=>cases d.ac1;cases e;simp only[v5];exact⟨SeqAt.RcAt.list_none p.isList b,SeqAt.RcNeAt.list_none p.isList b⟩
  |bl=>cases d.blI;cases e;simp only[v5];exact⟨SeqAt.RcAt.list_bool _ p.isList b,SeqAt.RcNeAt.list_bool _ p.isList b⟩
  |int=>cases d.aa6;obtain⟨t,rfl⟩:=e;simp only[v5];exact⟨SeqAt.RcAt.list_int _ _ p.isList b,SeqAt.RcNeAt.list_int _ _ p.isList b⟩
  |str=>cases d.ac3;obtain⟨t,rfl⟩:=e;simp only[v5];exact⟨SeqAt.RcAt.list_str _ _ p.isList b,SeqAt.RcNeAt.list_str _ _ p.isList b⟩
  |tup f=>obtain⟨E,J,rfl,k,l⟩:=d.tupI;cases e;obtain⟨_,_,i,_⟩:=I.tuple k;simp only[v5];exact⟨SeqAt.RcAt.list_tuple p.isList i b,SeqAt.RcNeAt.list_tuple p.isList i b⟩
  |lst f=>
   obtain⟨E,J,rfl,k,l⟩:=d.aa5;cases e;obtain⟨q,w,i,_⟩:=I.list k;simp only[v5];refine yP p.isList i.isList (by rw[<-o.length,r.length]) (by rw[<-w.length,l.length]) b (jP I r l o w ?_ ?_)
   .rw[G2]at B;rw[o5];lia
   rw[G2]at j;rw[o5];lia
end
def UR(x y:D):R D:=if G2 x<=40/\G2 y<=40 then .ok (.bl (v5 x y))else .bad
def MC(x y:D):R D:=if G2 x<=40/\G2 y<=40 then .ok (.bl (!v5 x y))else .bad
section
def U3(r:X.A.units+64<cz):mI X (dq .Eq) UR:=by
 intro H O x y g h Q t i j q;unfold UR at q;split at q
 .rename_i w;refine⟨λa b d e=>a=x/\b=y/\d=H/\e (.bl (v5 g h)) H,?_,rfl,rfl,rfl,q _ H (Same.refl _) .bl⟩;intro f s σ d a b v u e I k l ⟨m,n,o,p⟩;subst m n o;exact(a1o I (A:=X.A) i j k l (by lia) (by lia)).1 _ _ _ _ ⟨.bl _,_,I,rfl,p⟩
 exact q.elim
def rK(r:X.A.units+64<cz):mI X (dq .NotEq) MC:=by
 intro H O x y g h Q t i j q;unfold MC at q;split at q
 .rename_i w;refine⟨λa b d e=>a=x/\b=y/\d=H/\e (.bl (!v5 g h)) H,?_,rfl,rfl,rfl,q _ H (Same.refl _) .bl⟩;intro f s σ d a b v u e I k l ⟨m,n,o,p⟩;subst m n o;exact(a1o I (A:=X.A) i j k l (by lia) (by lia)).2 _ _ _ _ ⟨.bl _,_,I,rfl,p⟩
 exact q.elim
end
def lR:D->D->R D
 |.int a,.int b=>.ok (.int (a+b))
 |.lst a,.lst b=>if a.length+b.length<=sizeLine then .ok (.lst (a++b))else .bad
 |.tup [],.tup b=>.ok (.tup b)
 |.tup (x::a),.tup []=>if(x::a).length<=sizeLine then .ok (.tup (x::a))else .bad
 |.tup (x::a),.tup (y::b)=>if(x::a).length+(y::b).length<=sizeLine then .ok (.tup ((x::a)++(y::b)))else .bad
 |_,_=>.bad
def OB:D->D->R D
 |.int a,.int b=>.ok (.int (a-b))
 |_,_=>.bad
def D8(a b:Int):Prop:=aBe a<=60000000/\aBe b<=60000000
instance(a b:Int):Decidable (D8 a b):=inferInstanceAs (Decidable<|_/\_)
def MB:D->D->R D
 |.int a,.int b=>if D8 a b then .ok (.int (a*b))else .bad
 |_,_=>.bad
def BE(b:Int):Prop:=b≠0/\aBe b<=9000
instance(b:Int):Decidable (BE b):=inferInstanceAs (Decidable<|_/\_)
def S6:D->D->R D
 |.int a,.int b=>if BE b then .ok (.int (a.fdiv b))else .bad
 |_,_=>.bad
def oV:D->D->R D
 |.int a,.int b=>if b≠0 then .ok (.int (a.fmod b))else .bad
 |_,_=>.bad
def wR:D->D->R D
 |.int a,.int b=>if 0<=b/\b<=1000000/\a.natAbs<2^64 then .ok (.int (a^b.toNat))else .bad
 |_,_=>.bad
def ltR:D->D->R D
 |.int a,.int b=>.ok (.bl (decide (a<b)))
 |_,_=>.bad
def leR:D->D->R D
 |.int a,.int b=>.ok (.bl (decide (a<=b)))
 |_,_=>.bad
def aj:D->D->R D
 |.int a,.int b=>.ok (.bl (decide (b<a)))
 |_,_=>.bad
def IU(h0:b≠0)(h:aBe b<=n):b.natAbs.log2<n:=by
 unfold aBe at h;split at h
 .rename_i z;exact absurd (by simpa using z) h0
 omega
def MJ(h:D8 a b):IntMulOk a b:=mulOk_of_bits (m:=60000000) (n:=60000000) h.1 h.2 (by decide)
section
def mI.aa9{f:au->au->Sem au}{g:D->D->R D}{C:Int->Int->Prop}{w:Int->Int->V}{dw:Int->Int->D}(h:iV X f (rI C w))(k:∀a b d,g a b=.ok d->∃i j,a=.int i/\b=.int j/\C i j/\d=dw i j)
  (l:∀a b e,g a b≠.ex e) (m:∀K H O i j,Rep K H O (w i j) (dw i j)):mI X f g:=by
 intro H O x y a b Q r n o q;cases e:g a b with
 |ok d=>rw[e]at q;obtain⟨i,j,rfl,rfl,p,rfl⟩:=k a b d e;cases n.aa6;cases o.aa6;exact⟨_,h,i,j,rfl,rfl,p,q _ H (Same.refl _) (m _ _ _ _ _)⟩
 |ex x=>exact absurd e (l _ _ _)
 |bad=>rw[e]at q;exact q.elim
def iV.c0(h:iV X f (az w)):iV X f (rI (λ_ _=>True) w):=by rintro a s σ H x y v u Q I b d ⟨i,j,e,g,_,q⟩;exact h a s σ H x y v u Q I b d ⟨i,j,e,g,q⟩
def t4:mI X (ee .Sub) OB:=mI.aa9 (dw:=λi j=>.int (i-j)) (iV.c0 vk) (λa b d h=>by cases a<;>cases b<;>simp only[OB,R.ok.injEq,reduceCtorEq]at h;exact⟨_,_,rfl,rfl,trivial,h.symm⟩) (λa b e h=>by cases a<;>cases b<;>simp only[OB,reduceCtorEq]at h) λ_ _ _ _ _=>.int
def uQ:mI X (dq .Lt) ltR:=mI.aa9 (dw:=λi j=>.bl (decide (i<j))) (iV.c0 a2i) (λa b d h=>by cases a<;>cases b<;>simp only[ltR,R.ok.injEq,reduceCtorEq]at h;exact⟨_,_,rfl,rfl,trivial,h.symm⟩) (λa b e h=>by cases a<;>cases b<;>simp only[ltR,reduceCtorEq]at h) λ_ _ _ _ _=>.bl
def a2c:mI X (dq .LtE) leR:=mI.aa9 (dw:=λi j=>.bl (decide (i<=j))) (iV.c0 QE) (λa b d h=>by cases a<;>cases b<;>simp only[leR,R.ok.injEq,reduceCtorEq]at h;exact⟨_,_,rfl,rfl,trivial,h.symm⟩) (λa b e h=>by cases a<;>cases b<;>simp only[leR,reduceCtorEq]at h) λ_ _ _ _ _=>.bl
def HD:mI X (dq .Gt) aj:=mI.aa9 (dw:=λi j=>.bl (decide (j<i))) (iV.c0 a2q) (λa b d h=>by cases a<;>cases b<;>simp only[aj,R.ok.injEq,reduceCtorEq]at h;exact⟨_,_,rfl,rfl,trivial,h.symm⟩) (λa b e h=>by cases a<;>cases b<;>simp only[aj,reduceCtorEq]at h) λ_ _ _ _ _=>.bl
def QS:iV X (ee .FloorDiv) (rI (λ_ j=>BE j) λi j=>.int (i.fdiv j)):=opI λ_ _ _ _ _ _ _ a q=>floordiv_int a.1 q (.inl (PyProof.noPylong_of_log2<|IU a.1 a.2))
def u3:mI X (ee .FloorDiv) S6:=mI.aa9 (dw:=λi j=>.int (i.fdiv j)) QS (λa b d h=>by
 cases a<;>cases b<;>simp only[S6,reduceCtorEq]at h;split at h
 .rename_i f;cases h;exact⟨_,_,rfl,rfl,f,rfl⟩
 cases h) (λa b e h=>by
 cases a<;>cases b<;>simp only[S6,reduceCtorEq]at h;split at h<;>cases h) λ_ _ _ _ _=>.int
def t6:mI X (ee .Mod) oV:=mI.aa9 (dw:=λi j=>.int (i.fmod j)) WY (λa b d h=>by
 cases a<;>cases b<;>simp only[oV,reduceCtorEq]at h;split at h
 .rename_i f;cases h;exact⟨_,_,rfl,rfl,f,rfl⟩
 cases h) (λa b e h=>by
 cases a<;>cases b<;>simp only[oV,reduceCtorEq]at h;split at h<;>cases h) λ_ _ _ _ _=>.int
def G5:mI X (ee .Pow) wR:=mI.aa9 (dw:=λi j=>.int (i^j.toNat)) pj (λa b d h=>by
 cases a<;>cases b<;>simp only[wR,reduceCtorEq]at h;split at h
 .rename_i f;cases h;exact⟨_,_,rfl,rfl,f,rfl⟩
 cases h) (λa b e h=>by
 cases a<;>cases b<;>simp only[wR,reduceCtorEq]at h;split at h<;>cases h) λ_ _ _ _ _=>.int
def VP:iV X (ee .Mult) (rI D8 λi j=>.int (i*j)):=opI λ_ _ _ _ _ _ _ a q=>mul_int q (MJ a)
def l5:mI X (ee .Mult) MB:=mI.aa9 (dw:=λi j=>.int (i*j)) VP (λa b d h=>by
 cases a<;>cases b<;>simp only[MB,reduceCtorEq]at h;split at h
 .rename_i f;cases h;exact⟨_,_,rfl,rfl,f,rfl⟩
 cases h) (λa b e h=>by
 cases a<;>cases b<;>simp only[MB,reduceCtorEq]at h;split at h<;>cases h) λ_ _ _ _ _=>.int
def IM:iV X (ee .Add) (λx y H Q=>∃l b Y e,x=.ref l/\y=.ref b/\P7 X.K H l Y/\P7 X.K H b e/\Y.length+e.length<=sizeLine/\∀p,H p=none->Q (.ref p) (upd H p (.lst (Y++e)))):=by
 intro g s σ H x y v u Q I A B h;obtain⟨l,b,Y,e,rfl,rfl,C,E,J,q⟩:=h;cases A;cases B;obtain⟨a,r,p,_⟩:=I.list C;obtain⟨f,i,L,_⟩:=I.list E;obtain⟨⟨N,O,j,T⟩,k,m,n,o⟩:=p.isList;obtain⟨⟨t,U,data2,vc⟩,w,z,n2,d⟩:=L.isList;simp only at m o z d;subst m o z d;have gu:a.toArray.size+f.toArray.size<=sizeLine:=by rw[aAn,aAn,<-r.length,<-i.length];exact J
 have ea:a.toArray++f.toArray=(a++f).toArray:=by simp
 refine aFV ⟨_,k,rfl⟩ ⟨_,w,rfl⟩ noFill_list_add seq_list_add PySem.F.slot_list_add PySem.F.entry_list_add (PySem.F.args_list_add_2 _ _) (list_addW l b a.toArray f.toArray n n2 O U T vc gu) ⟨k,w,?_⟩;rw[ea];exact⟨.ref _,_,I.ag1 (t':=s.toks) (r.append i) (by rw[aAz];omega),rfl,q _ I.fresh⟩
def MN:iV X (ee .Add) (λx y H Q=>∃a b e,x=.ref a/\y=.ref b/\Y0 X.K H a []/\Y0 X.K H b e/\Q (.ref b) H):=by intro f s σ H x y v u Q I p r h;obtain⟨t,b,e,rfl,rfl,w,z,q⟩:=h;cases p;cases r;obtain⟨A,B,C,_⟩:=I.tuple w;obtain⟨Y,r2,E,_⟩:=I.tuple z;cases B;obtain⟨⟨J,L,g,N⟩,i,j,n,k⟩:=C;obtain⟨⟨l,O,data2,T⟩,m,o,U,d⟩:=E;simp only at j k o d;subst j k o d;exact aFV ⟨_,i,rfl⟩ ⟨_,m,rfl⟩ aFA seq_tuple_add PySem.F.slot_tuple_add PySem.F.entry_tuple_add (PySem.F.args_tuple_add_2 _ _) (tuple_addW0 t b _ _ n U L O N T (by simp)) ⟨i,m,.ref b,H,I,rfl,q⟩
def m5:mI X (ee .Add) lR:=by
 intro H O x y u s Q v n o q;cases u with
 |int i=>
  cases s with
  |int j=>cases n.aa6;cases o.aa6;exact⟨_,vq,i,j,rfl,rfl,q _ H (Same.refl _) .int⟩
  |_=>exact aAf q
 |lst a=>
  cases s with
  |lst b=>
   simp only[lR]at q;split at q
   .rename_i r;obtain⟨l,L,rfl,f,d⟩:=n.aa5;obtain⟨h,k,rfl,g,e⟩:=o.aa5;exact⟨_,IM,l,h,L,k,rfl,rfl,f,g,by rw[d.length,e.length];exact r,λp m=>q _ _ (j9 m _) (.lst (P7.of j2) (v p m) ((d.append e).same (j9 m _)))⟩
   exact q.elim
  |_=>exact aAf q
 |tup a=>
  cases s with
  |tup b=>
   cases a with
   |nil=>obtain⟨l,L,rfl,f,d⟩:=n.tupI;obtain⟨h,k,rfl,g,e⟩:=o.tupI;cases d;exact⟨_,MN,l,h,k,rfl,rfl,f,g,q _ H (Same.refl _) (.tup g e)⟩
   |cons x a=>
    cases b with
    |nil=>
     obtain⟨l,L,rfl,f,d⟩:=n.tupI;obtain⟨h,k,rfl,g,e⟩:=o.tupI;cases e;have t:L≠[]:=λz=>by subst z;have:=d.length;simp at this
     simp only[lR]at q;split at q
     .rename_i r;exact⟨_,GE,l,h,L,[],rfl,rfl,f,g,t,by rw[d.length];exact r,λ_=>q _ H (Same.refl _) (.tup f d),λz=>absurd rfl z⟩
     exact q.elim
    |cons y b=>
     simp only[lR]at q;split at q
     .rename_i r;obtain⟨l,L,rfl,f,d⟩:=n.tupI;obtain⟨h,k,rfl,g,e⟩:=o.tupI;have t:L≠[]:=λz=>by subst z;have:=d.length;simp at this
      have w:k≠[]:=λz=>by subst z;have:=e.length;simp at this
      exact⟨_,GE,l,h,L,k,rfl,rfl,f,g,t,by rw[d.length,e.length];exact r,λz=>absurd z w,λ_ p m=>q _ _ (j9 m _) (.tup (Y0.of j2) ((d.append e).same (j9 m _)))⟩
     exact q.elim
  |_=>cases a<;>exact aAf q
 |_=>exact aAf q
def bJ(x y:D):R D:=match x,y with
 |.lst Y,.int i=>match rP Y i with|some d=>.ok d|none=>.bad
 |.tup Y,.int i=>match rP Y i with|some d=>.ok d|none=>.bad
 |_,_=>.bad
def zP{K:iu}{H:Hp}{O:bc->Prop}{L:List V}{ds:List D}{i:Int}{d:D}(r:Reps K H O L ds)(h:rP ds i=some d):∃v,rP L i=some v/\Rep K H O v d:=by
 unfold rP at h⊢;rw[r.length];cases e:MD ds.length i with
 |none=>rw[e]at h;cases h
 |some j=>rw[e]at h;exact r.get h
def i8(N:PB X a f)(T:PD X b g)(r:XN b:=by exactλ_ _=>rfl):PD X (.Subscript a b U) (λρ=>(f ρ).bind λx=>(g ρ).bind λy=>bJ x y):=by
 refine tY λj s σ H Q I H9 O0 O ρ E q=>?_;refine Subscript_ (MA N T.pb I (oJ E q) λv u t x y k z A B h=>?_);obtain⟨C,dy,fr,J,r2,q⟩:=h;cases dy with
 |int i=>
  cases r2.aa6;cases C with
  |lst Y=>
   simp only[bJ]at q;cases e:rP Y i with
   |none=>rw[e]at q;exact q.elim
   |some d=>rw[e]at q;obtain⟨p,L,rfl,l,m⟩:=J.aa5;obtain⟨w,n,o⟩:=zP m e;exact XR a b j t σ k _ _ v u Q z A B ⟨p,L,i,w,rfl,rfl,l,n,q w k (Same.refl _) o⟩ (r _ _)
  |tup Y=>
   simp only[bJ]at q;cases e:rP Y i with
   |none=>rw[e]at q;exact q.elim
   |some d=>rw[e]at q;obtain⟨p,L,rfl,l,m⟩:=J.tupI;obtain⟨w,n,o⟩:=zP m e;exact jk a b j t σ k _ _ v u Q z A B ⟨p,L,i,w,rfl,rfl,l,n,q w k (Same.refl _) o⟩ (r _ _)
  |_=>exact aAf q
 |_=>cases C<;>exact aAf q
def cutD(Y:List D)(lo a:Option Int):List D:=(Y.drop<|HT.sIx Y.length 0 lo).take (HT.sIx Y.length Y.length a-HT.sIx Y.length 0 lo)
def uV{K:iu}{H:Hp}{O:bc->Prop}{L:List V}{ds:List D}{lo a:Option Int}(r:Reps K H O L ds):Reps K H O (yT L lo a) (cutD ds lo a):=by unfold yT cutD;rw[r.length];exact(r.drop _).take _
def PTO(X:Cx)(e:Option cu)(f:Ev->R (Option Int)):Prop:=PO X e λσ H Q=>∃b d O ρ,EnvOk X.K b d H O σ ρ/\match f ρ with
 |.ok o=>∀a,Same H a->Q o a
 |.ex e=>∀a,Same H a->XW X e a
 |.bad=>False
def toI:D->R (Option Int)
 |.int i=>.ok (some i)
 |_=>.bad
def S8:PTO X none (λ_=>.ok none):=by rintro a s σ H Q I ⟨b,d,O,ρ,E,q⟩;exact WP a s σ H Q I (q H<|Same.refl _)
def F6(h:PD X e f):PTO X (some e) (λρ=>(f ρ).bind toI):=by rintro a s σ H Q I ⟨b,g,O,ρ,E,q⟩;exact WJ h a s σ H Q I ⟨b,g,O,ρ,E,by
 dsimp only at q;cases e:f ρ with
 |ok d=>
  rw[e]at q;cases d with
  |int i=>exactλv j k l=>by cases l;exact⟨i,rfl,q j k⟩
  |_=>exact aAf q
 |ex x=>rw[e]at q;exact q
 |bad=>rw[e]at q;exact q⟩
def wX(x:D)(lo a:Option Int):R D:=match x with
 |.lst Y=>.ok (.lst (cutD Y lo a))
 |.tup Y=>if HT.sIx Y.length 0 lo=0/\HT.sIx Y.length Y.length a=Y.length then .bad else .ok (.tup (cutD Y lo a))
 |_=>.bad
def fW{lo A:Option cu}{B:Pos}{m n:Ev->R (Option Int)}(C:PB X a f)(J:PTO X lo m)(N:PTO X A n):
  PD X (.Subscript a (.Slice lo A none B) T) (λρ=>(f ρ).bind λx=>(m ρ).bind λl=>(n ρ).bind λh=>wX x l h):=by
 refine tY λi s σ H Q I o t O ρ E q=>?_;have u:∀x d l h g,B5 X.K g O x d->(∀p,g p=none->¬O p)->RC X g O (wX d l h) Q->a2m X.K x l h g Q\/a0z X.K x l h g Q:=λx d l h g r U q=>by
  cases d with
  |lst Y=>obtain⟨p,L,rfl,v,k⟩:=r.aa5;exact .inl ⟨p,L,rfl,v,λp b=>q _ _ (j9 b _) (.lst (P7.of j2) (U p b) ((uV k).same (j9 b _)))⟩
  |tup Y=>
   obtain⟨p,L,rfl,v,k⟩:=r.tupI;simp only[wX]at q;split at q
   .exact q.elim
   rename_i hn;exact .inr ⟨p,L,rfl,v,by rw[k.length];exact hn,λp b=>q _ _ (j9 b _) (.tup (Y0.of j2) ((uV k).same (j9 b _)))⟩
  |_=>exact aAf q
 refine NN (UU.or dj) C J N i s σ H Q I ⟨o,t,O,ρ,E,?_⟩;dsimp only at q;cases w:f ρ with
 |ok d=>
  rw[w]at q;intro x H1 s1 r1;refine⟨o,t,O,ρ,E.grow s1,?_⟩;rw[R.aa0]at q;cases y:m ρ with
  |ok l=>
   rw[y]at q;intro H2 s2;refine⟨o,t,O,ρ,(E.grow s1).grow s2,?_⟩;cases z:n ρ with
   |ok h=>rw[z]at q;intro j e;have q':RC X H O (wX d l h) Q:=q;exact u x d l h j ((r1.same s2).same e) (λp b=>(((E.grow s1).grow s2).grow e).fresh b) (q'.grow<|s1.trans<|s2.trans e)
   |ex x=>rw[z]at q;exactλj e=>q j (s1.trans<|s2.trans e)
   |bad=>rw[z]at q;exact q
  |ex x=>rw[y]at q;exactλj e=>q j (s1.trans e)
  |bad=>rw[y]at q;exact q
 |ex x=>rw[w]at q;exact q
 |bad=>rw[w]at q;exact q
def PP{K:iu}{H:Hp}{O:bc->Prop}{L:List V}{d:D}(r:Paired (B5 K H O) L [d]):∃v,L=[v]/\B5 K H O v d:=by
 cases r with
 |cons a b=>cases b;exact⟨_,rfl,a⟩
def pr2{K:iu}{H:Hp}{O:bc->Prop}{L:List V}{d d':D}(r:Paired (B5 K H O) L [d,d']):∃v a,L=[v,a]/\B5 K H O v d/\B5 K H O a d':=by
 cases r with
 |cons b f=>obtain⟨a,e,g⟩:=PP f;subst e;exact⟨_,_,rfl,b,g⟩
def IT:List D->R D
 |[.lst Y]=>.ok (.int Y.length)
 |[.tup Y]=>.ok (.int Y.length)
 |_=>.bad
def lP:dW X (.builtin "len") IT:=by
 intro H O L e Q f r q;match e,q with
 |[.lst Y],q=>obtain⟨v,rfl,z⟩:=PP r;obtain⟨p,a,rfl,b,d⟩:=z.aa5;exact⟨_,jK,p,a,rfl,.inl b,q _ H (Same.refl _) (by rw[d.length];exact .int)⟩
 |[.tup Y],q=>obtain⟨v,rfl,z⟩:=PP r;obtain⟨p,a,rfl,b,d⟩:=z.tupI;exact⟨_,jK,p,a,rfl,.inr b,q _ H (Same.refl _) (by rw[d.length];exact .int)⟩
def a0o:List D->R D
 |[.int i]=>.ok (.int (if i<0 then-i else i))
 |_=>.bad
def uz:dW X (.builtin "abs") a0o:=by
 intro H O L a Q b r q;match a,q with
 |[.int i],q=>obtain⟨v,rfl,z⟩:=PP r;cases z.aa6;exact⟨_,RH,i,rfl,q _ H (Same.refl _) .int⟩
def QR:List D->R D
 |[.int i,.int j]=>.ok (.int (if j>i then j else i))
 |_=>.bad
def FR(a:X.calm=true):dW X (.builtin "max") QR:=by
 intro H O L b Q e r q;match b,q with
 |[.int i,.int j],q=>obtain⟨v,f,rfl,z,d⟩:=pr2 r;cases z.aa6;cases d.aa6;exact⟨_,JS a,i,j,rfl,q _ H (Same.refl _) .int⟩
def a2h:List D->R D
 |[.lst Y]=>.ok (.lst Y)
 |[.tup Y]=>.ok (.lst Y)
 |_=>.bad
def wF:dW X (.type "list") a2h:=by
 intro H O L g Q f r q;match g,q with
 |[.lst Y],q=>obtain⟨v,rfl,z⟩:=PP r;obtain⟨p,b,rfl,d,e⟩:=z.aa5;exact⟨_,jI,p,b,rfl,.inl d,λl a=>q _ _ (j9 a _) (.lst (P7.of j2) (f l a) (e.same<|j9 a _))⟩
 |[.tup Y],q=>obtain⟨v,rfl,z⟩:=PP r;obtain⟨p,b,rfl,d,e⟩:=z.tupI;exact⟨_,jI,p,b,rfl,.inr d,λl a=>q _ _ (j9 a _) (.lst (P7.of j2) (f l a) (e.same<|j9 a _))⟩
def tyD:D->String
 |.non=> "NoneType"|.bl _=> "bool"|.int _=> "int"|.str _=> "str"|.tup _=> "tuple"|.lst _=> "list"|.dct=> "dict"
def SW(T:String)(d:D):Bool:=tyD d==T||(T== "int"&&tyD d== "bool")
def FS(T:String):Prop:=∀(K:iu) (d:D),PySem.W.kitOne K (.type (tyD d)) (.type T)=some (SW T d)
def WI:FS "int":=λK d=>by cases d<;>with_unfolding_all rfl
def RI:FS "bool":=λK d=>by cases d<;>with_unfolding_all rfl
def VE{O:bc->Prop}(I:Inv X f σ H s)(m:FS T)(r:B5 X.K H O v d)(g:RelV v u)(q:Q (.bl (SW T d)) H):
  a9 (be X.prog X.w) X.A (call (.builtin "isinstance") [u,.type T]) (EP X f σ Q) X.xe s:=by
 have e:=m X.K d;have b:∀l,EP X f σ Q (.bool (SW T d)) {s with toks:=l}:=λl=>⟨.bl _,H,I.tok _,rfl,q⟩;cases d with
 |non=>cases r.ac1;cases g;exact PySem.W.kia_one PySem.W.kitx_none I.kIn aGA e (λz=>nomatch z) b
 |bl=>cases r.blI;cases g;exact PySem.W.kia_one PySem.W.kitx_bool I.kIn aGA e (λz=>nomatch z) b
 |int=>cases r.aa6;obtain⟨t,rfl⟩:=g;exact PySem.W.kia_one PySem.W.kitx_int I.kIn aGA e (λz=>nomatch z) b
 |str=>cases r.ac3;obtain⟨t,rfl⟩:=g;exact PySem.W.kia_one PySem.W.kitx_str I.kIn aGA e (λz=>nomatch z) b
 |tup Y=>obtain⟨a,L,rfl,h,_⟩:=r.tupI;cases g;obtain⟨i,_,p,_⟩:=I.tuple h;obtain⟨o,j,k,_⟩:=p;exact PySem.W.kia_one PySem.W.kitx_tuple I.kIn ⟨o,j,k⟩ e (λz=>nomatch z) b
 |lst Y=>obtain⟨a,L,rfl,h,_⟩:=r.aa5;cases g;obtain⟨i,_,p,_⟩:=I.list h;obtain⟨o,n,j,k,_⟩:=p;exact PySem.W.kia_one PySem.W.kitx_list I.kIn ⟨o,j,k⟩ e (λz=>nomatch z) b
 |dct=>obtain⟨a,o,rfl,h,x⟩:=r.af9;cases g;exact PySem.W.kia_one PySem.W.kitx_dict I.kIn ⟨o,(I.hok _ _ h).1,x.1⟩ e (λz=>nomatch z) b
def MP(t:FS T)(y:PB X a f)(z:de x=some (.type T):=by decide+kernel)(A:X.mg "isinstance"=none:=by assumption)(j:X.mg x=none:=by assumption)(B:Gl X "isinstance":=by rfl)(k:Gl X x:=by rfl)(C:(x==ix)=false:=by decide)(J:x≠ "__name__":=by decide)(o:bb [a,.Name x pt] X.env=(false,dm a X.env)::bb [.Name x pt] X.env:=by rfl)(N:bb [Expr.Name x pt] X.env=[(false,dm (.Name x pt) X.env)]:=by rfl)(U:(cy b (bb [Expr.Name x pt] X.env)).any (·.1)=false:=by rfl):
  PD X (.Call (.Name "isinstance" p) [a,.Name x pt] [] b) (λρ=>(f ρ).bind λd=>.ok (.bl (SW T d))):=by
 refine tY λg s σ H Q I Y O0 O ρ E q=>?_;refine aBg (T9 (u:=.builtin "isinstance") I B A (by decide+kernel) ?_);have hb:PE X (.Name x pt) (tC<|.ty T):=YI k j z rfl J C;have h:=O9 y (O9 hb dG (by rw[N];rfl)) o b g s σ H (λL i=>∃v d,L=[v,.ty T]/\B5 X.K i O v d/\Q (.bl (SW T d)) i) I ⟨Y,O0,O,ρ,E,by refine MT.mono (MT.seq q) λv i l=>?_;obtain⟨d,_,s1,m,h1⟩:=l;exact⟨v,d,rfl,m,h1 _ i (Same.refl _) .bl⟩⟩
 refine aCt (F5 h λus s1 l=>?_) o U;obtain⟨L,i,I1,m,v,d,e,r,h⟩:=l;subst e;obtain⟨u,w,rfl,ru,n⟩:=vals2 m;cases n;exact VE I1 t r ru h
end
section
variable{K:iu}
def Kp.lst(k:Kp H O H' d){a:bc}{Y:List V}(n:¬O a)(h:P7 K H a Y)(f:∀o,K.lookup a=some o->¬d a):¬d a/\P7 K H' a Y:=by
 rcases h with(h|⟨o,h⟩)|h
 .exact⟨(k _ _ h n).2,.inl (.inl (k _ _ h n).1)⟩
 .exact⟨(k _ _ h n).2,.inl (.inr ⟨o,(k _ _ h n).1⟩)⟩
 obtain⟨o,b,m,e,g⟩:=h;exact⟨f o e,.inr ⟨o,b,m,e,g⟩⟩
def Kp.tup(k:Kp H O H' d)(b:∀a,O a->∃o,H a=some o/\Mt o){a:bc}{Y:List V}(h:Y0 K H a Y):Y0 K H' a Y:=by
 rcases h with(h|⟨o,h⟩)|h
 .exact .inl (.inl (k _ _ h λz=>by obtain⟨o,q,m⟩:=b a z;rw[h]at q;cases q;exact m).1)
 .exact .inl (.inr ⟨o,(k _ _ h λz=>by obtain⟨o,q,m⟩:=b a z;rw[h]at q;cases q;exact m).1⟩)
 exact .inr h
end
def X7(K:iu)(O:bc->Prop):Prop:=∀a o,K.lookup a=some o->¬O a
def Kp.rep{K:iu}{H H':Hp}{O b:bc->Prop}(k:Kp H O H' b)(e:∀a,O a->∃o,H a=some o/\Mt o)(f:X7 K b){v:V}{d:D}(r:Rep K H O v d):Rep K H' b v d:=
 r.mono (λ_ _ h=>k.tup e h) (λa _ n h=>k.lst n h λo q=>f a o q) λa _ n h=>⟨(k a _ h n).2,(k a _ h n).1⟩
def Kp.ad1{K:iu}{H H':Hp}{O b:bc->Prop}(k:Kp H O H' b)(e:∀a,O a->∃o,H a=some o/\Mt o)(f:X7 K b){v:List V}{d:List D}(r:Reps K H O v d):Reps K H' b v d:=
 r.mono (λ_ _ h=>k.tup e h) (λa _ n h=>k.lst n h λo q=>f a o q) λa _ n h=>⟨(k a _ h n).2,(k a _ h n).1⟩
inductive Out where
 |nx (ρ:Ev)|rt (d:D)|bk (ρ:Ev)|ct (ρ:Ev)
def RS(X:Cx)(g:Hp)(h:bc->Prop)(H:Hp)(O:bc->Prop)(r:R Out)(D:Ends):Prop:=match r with
 |.ok (.nx ρ)=>∀f a b,EnvOk X.K g h a b f ρ->X7 X.K b->Kp H O a b->D.nx f a
 |.ok (.bk ρ)=>∀f a b,EnvOk X.K g h a b f ρ->X7 X.K b->Kp H O a b->D.bk f a
 |.ok (.ct ρ)=>∀f a b,EnvOk X.K g h a b f ρ->X7 X.K b->Kp H O a b->D.ct f a
 |.ok (.rt d)=>∀v a,Same g a->Rep X.K a h v d->D.rt v a
 |.ex e=>∀a,Same g a->XW X e a
 |.bad=>False
def tS(X:Cx)(a:Hp)(b:bc->Prop)(F:Ev->R Out):TS:=λD σ H=>∃O ρ,EnvOk X.K a b H O σ ρ/\X7 X.K O/\RS X a b H O (F ρ) D
def nN(X:Cx)(st:cv)(F:Ev->R Out):Prop:=∀a b,PS X st (tS X a b F)
def bU(X:Cx)(st:List cv)(F:Ev->R Out):Prop:=∀a b,uU X st (tS X a b F)
def uw{X:Cx}{st:cv}{t t':TS}(h:PS X st t)(i:∀D σ H,t' D σ H->t D σ H):PS X st t':=λa s σ H D I q=>h a s σ H D I (i D σ H q)
def fM{X:Cx}{st:List cv}{t t':TS}(h:uU X st t)(i:∀D σ H,t' D σ H->t D σ H):uU X st t':=λa s σ H D I q=>h a s σ H D I (i D σ H q)
def BQ{X:Cx}{st:cv}{t:TS}{F:Ev->R Out}{a:Hp}{b:bc->Prop}(h:PS X st t)(i:∀D σ H O ρ,EnvOk X.K a b H O σ ρ->X7 X.K O->RS X a b H O (F ρ) D->t D σ H):PS X st (tS X a b F):=uw h λD σ H ⟨O,ρ,E,f,q⟩=>i D σ H O ρ E f q
def a1g{X:Cx}{st:List cv}{t:TS}{F:Ev->R Out}{a:Hp}{b:bc->Prop}(h:uU X st t)(i:∀D σ H O ρ,EnvOk X.K a b H O σ ρ->X7 X.K O->RS X a b H O (F ρ) D->t D σ H):uU X st (tS X a b F):=fM h λD σ H ⟨O,ρ,E,f,q⟩=>i D σ H O ρ E f q
def RS.grow{X:Cx}{i:Hp}{j:bc->Prop}{H l:Hp}{O m:bc->Prop}{r:R Out}{D:Ends}(h:RS X i j H O r D)(k:Kp H O l m):RS X i j l m r D:=by
 cases r with
 |ok o=>
  cases o with
  |nx ρ=>exactλa b g E f q=>h a b g E f (k.trans q)
  |bk ρ=>exactλa b g E f q=>h a b g E f (k.trans q)
  |ct ρ=>exactλa b g E f q=>h a b g E f (k.trans q)
  |rt d=>exact h
 |ex e=>exact h
 |bad=>exact h
def D1(r:R Out)(F:Ev->R Out):R Out:=match r with
 |.ok (.nx ρ)=>F ρ
 |r=>r
section
variable{st:cv}{rest:List cv}
def RS.seq{a:Hp}{b:bc->Prop}{H:Hp}{O:bc->Prop}{r:R Out}{D:Ends}(h:RS X a b H O (D1 r G) D):RS X a b H O r {D with nx:=tS X a b G D}:=by
 cases r with
 |ok o=>
  cases o with
  |nx ρ=>exactλi j g E f k=>⟨g,ρ,E,f,(show RS X a b H O (G ρ) D from h).grow k⟩
  |bk ρ=>exact h
  |ct ρ=>exact h
  |rt d=>exact h
 |ex e=>exact h
 |bad=>exact h
def t5:bU X [] (λρ=>.ok (.nx ρ)):=λa b=>a1g HX λD σ H O ρ E f q=>q σ H O E f (Kp.refl _ _)
def c7(d:nN X st F)(e:bU X rest G):bU X (st::rest) (λρ=>D1 (F ρ) G):=λa b=>a1g (oZ (d a b)<|e a b) λD σ H O ρ E f q=>⟨O,ρ,E,f,RS.seq q⟩
def e9(a:nN X st F):bU X [st] F:=λb d=>nR (a b d)
def j3{e:cu}{f:Ev->R D}(g:PD X e f):nN X (.Return (some e) h) (λρ=>(f ρ).bind λd=>.ok (.rt d)):=λi j=>BQ (xR g) λD σ H O ρ E k q=>⟨i,j,O,ρ,E,by
 cases a:f ρ with
 |ok d=>rw[a]at q;exactλv b s r=>q v b (E.same.trans s) (r.sub E.sub)
 |ex x=>rw[a]at q;exactλb s=>q b (E.same.trans s)
 |bad=>rw[a]at q;exact q⟩
def i7(i:Nat){x:Str}{e:cu}{f:Ev->R D}{a:Pos}(j:PD X e f)(k:X.N.Nodup)(l:X.N[i]?=some x:=by rfl)(m:Loc X.env.scope x:=by first|exact aCD rfl|exact aBP rfl)
  (n:eN e (some (.Name x a)) b.line X.env=pure false:=by rfl) (o:X.fn x=true\/X.env.scope.names.lookup x=some .local:=by first|exact .inl rfl|exact .inr rfl|assumption):
  nN X (.Assign [.Name x a] e b) (λρ=>(f ρ).bind λd=>.ok (.nx (ρ.set i (.v d)))):=λp t=>BQ (MY k l m j n o) λD σ H O ρ E u q=>⟨p,t,O,ρ,E,by
 cases g:f ρ with
 |ok d=>rw[g]at q;exactλv h s r=>q _ h O ((E.grow s).set i r) u (Kp.of s)
 |ex x=>rw[g]at q;exactλh s=>q h (E.same.trans s)
 |bad=>rw[g]at q;exact q⟩
def B6{c:cu}{a b:List cv}{d:Ev->R Bool}(j:yR X c d)(k:bU X a F)(l:bU X b G):nN X (.If c a b m) (λρ=>(d ρ).bind λt=>if t=true then F ρ else G ρ):=λe f=>BQ (ZM j (k e f)<|l e f) λD σ H O ρ E h q=>⟨e,f,O,ρ,E,by
 cases g:d ρ with
 |ok t=>
  rw[g]at q;intro i s;cases t with
  |true=>rw[hV rfl];exact⟨O,ρ,E.grow s,h,RS.grow q (Kp.of s)⟩
  |false=>rw[h9 aAU];exact⟨O,ρ,E.grow s,h,RS.grow q (Kp.of s)⟩
 |ex x=>rw[g]at q;exactλi s=>q i (E.same.trans s)
 |bad=>rw[g]at q;exact q⟩
def ZH(K:iu)(J:It)(H:Hp)(O:bc->Prop)(ds:List D):Prop:=∀b e,Kp H O b e->X7 K e->(∀a,O a->∃o,H a=some o/\Mt o)->(∀a,e a->∃o,b a=some o/\Mt o)->∀i:Nat,
 (∀d,ds[i]?=some d->J.go i b/\∀x f,J.yld i b x f->Same b f/\Rep K f e x d)/\(ds[i]?=none->J.stop i b)
def tI(X:Cx)(f:Ev->R (List D)):TI:=λσ H R=>∃b d O ρ,EnvOk X.K b d H O σ ρ/\X7 X.K O/\match f ρ with
 |.ok g=>∀J a,Same H a->ZH X.K J a O g->R J a
 |.ex e=>∀a,Same H a->XW X e a
 |.bad=>False
def WV(X:Cx)(a y8:cu)(f:Ev->R (List D)):Prop:=PI X a y8 (tI X f)
def FE(h:PI X b y8 t)(i:∀σ H R,t' σ H R->t σ H R):PI X b y8 t':=λa s σ H R I q=>h a s σ H R I (i σ H R q)
def iQ:D->R (List D)
 |.lst Y=>.ok Y
 |_=>.bad
def GP:D->R (List D)
 |.tup Y=>.ok Y
 |_=>.bad
def q9(h:PD X y8 f):WV X B y8 (λρ=>(f ρ).bind iQ):=FE (VJ h) λσ H R ⟨l,m,O,ρ,E,C,q⟩=>⟨l,m,O,ρ,E,by
 dsimp only at q;cases e:f ρ with
 |ok d=>
  rw[e]at q;cases d with
  |lst Y=>
   intro v p s r;cases r with
   |lst h n r=>
    rename_i a L;refine⟨a,rfl,⟨L,h⟩,q (Itl X.K a) p s ?_⟩;intro I J k g t u i;obtain⟨N,b⟩:=k.lst n h λo q=>g a o q;have w:=k.ad1 t g r;refine⟨λd e=>?_,λe=>⟨L,b,by rw[r.length];exact aCq.mp e⟩⟩;obtain⟨v,j,y⟩:=w.get e;exact⟨⟨L,v,b,j⟩,by rintro x Q ⟨z,A⟩;subst z;have:=A L b;rw[j]at this;cases this;exact⟨Same.refl _,y⟩⟩
  |_=>exact aAf q
 |ex x=>rw[e]at q;exact q
 |bad=>rw[e]at q;exact q⟩
def VS(h:PD X y8 f):WV X z y8 (λρ=>(f ρ).bind GP):=FE (yk h) λσ H R ⟨l,m,O,ρ,E,A,q⟩=>⟨l,m,O,ρ,E,by
 dsimp only at q;cases e:f ρ with
 |ok d=>
  rw[e]at q;cases d with
  |tup Y=>
   intro v n s r;cases r with
   |tup h r=>
    rename_i a L;refine⟨a,rfl,⟨L,h⟩,q (Itt X.K a) n s ?_⟩;intro B C k o g p i;have b:=k.tup g h;have t:=k.ad1 g o r;refine⟨λd e=>?_,λe=>⟨L,b,by rw[r.length];exact aCq.mp e⟩⟩;obtain⟨v,j,u⟩:=t.get e;exact⟨⟨L,v,b,j⟩,by rintro x I ⟨w,y⟩;subst w;have:=y L b;rw[j]at this;cases this;exact⟨Same.refl _,u⟩⟩
  |_=>exact aAf q
 |ex x=>rw[e]at q;exact q
 |bad=>rw[e]at q;exact q⟩
def sk(lo c:Int)(n:Nat):It:=⟨λi _=>i<n,λi H x a=>a=H/\x=.int (lo+i*c),λi _=>n<=i⟩
def zO{P:bM}{w:cp}{K:iu}{J:cu}(it:bc)(lo c:Int)(n:Nat):Turn P w K J (sk lo c n) [it] it (λi h=>IsRangeIter h it (lo+(i:Nat)*c) ((n:Int)-(i:Nat)) c)where
 mem:=by simp
 obj:=λi h st b d=>by
  have e:b=it:=by simpa using d
  subst e;exact⟨_,st,λv z=>by have L:Data.fields _=Data.cell v:=z;cases L⟩
 keep:=λi h g st k=>k it (by simp) _ st
 item:=by intro X l m p q i a s σ H E I j st r;subst l m p;obtain⟨u,x,N,y,A,B⟩:=j it (by simp);have W:=Walks.range (prog:=X.prog) (w:=X.w) (I.ok.hd q) it lo c n;refine W.item i s _ _ r st λv g C O f kk=>?_;obtain⟨t,rfl⟩:=O;have Q:Inv X a σ H {s with heap:=g,toks:=C}:=I.turned (λb o d e=>kk b o (by simpa using d) e) u x y A B;exact⟨_,rfl,UE (s:={s with heap:=g,toks:=C}) (n:= "range_iterator") f rfl rfl (by decide) ⟨.int (lo+i*c),H,Q,⟨t,rfl⟩,⟨rfl,rfl⟩,f,λb d=>(j b d).1⟩⟩
 done:=by intro X l m p q i a s σ H E I j st r;subst l m p;obtain⟨u,x,N,y,A,B⟩:=j it (by simp);exact wpAny_pyNext_range_end (I.ok.hd q) st (by have:n<=i:=r;lia) λg T=>⟨rfl,I.turned (t':=s.toks) (λb o d e=>T b o d e) u x y A B⟩
 self:=λ_ _ _ _ _ st h=>wpAny_pyIter_rangeiter st h
def wD(lo c:Int)(n:Nat):List D:=(aBc n).map λ(k:Nat)=>D.int (lo+(k:Int)*c)
def kR(K:iu)(H:Hp)(O:bc->Prop)(lo c:Int)(n:Nat):ZH K (sk lo c n) H O (wD lo c n):=by
 intro h j k l m b i;unfold wD;rw[aAG];by_cases a:i<n
 .rw[List.getElem?_range a];refine⟨λd e=>?_,λe=>(by cases e)⟩;cases e;exact⟨a,by rintro x o ⟨f,g⟩;subst f g;exact⟨Same.refl _,.int⟩⟩
 rw[aCq.mpr (by simpa using a)];exact⟨λd e=>(by cases e),λ_=>aEq a⟩
def iJ(a b c:Int):Nat:=if a<b then((b-a-1)/c+1).toNat else 0
def IZ(d:0<c):aCG a b c=(iJ a b c:Int):=by
 unfold aCG iJ;rw[hV (by lia)];split
 .have:0<=(b-a-1)/c:=Int.ediv_nonneg (by lia) (by lia)
  lia
 rfl
def LA(j:0<c)(k:c<2^30)(l:-(2^60)<=a)(i:a<2^60)(m:-(2^60)<=b)(n:b<2^60):aGm a b c=true:=by
 unfold aGm;have e:aCG a b c=if a<b then(b-a-1)/c+1 else 0:=by unfold aCG;rw[hV (by lia)]
 rw[e];have d:a<b->(b-a-1)/c<=b-a-1:=λh=>Int.ediv_le_self _ (by lia);have f:a<b->0<=(b-a-1)/c:=λh=>Int.ediv_nonneg (by lia) (by lia);have g:a<b->(b-a-1)/c*c<=b-a-1:=λh=>Int.ediv_mul_le _ (by lia);simp only[Builtin.Range.rangeFitsLong,aAQ,Bool.or_eq_true,decide_eq_true_eq,beq_iff_eq,show c>0 by lia,if_true];split
 .rename_i h;have d:=d h;have f:=f h;have g:=g h;generalize(b-a-1)/c=q at*
  lia
 lia
def pB(a b c:Int):Prop:=0<c/\c<2^30/\-(2^60)<=a/\a<2^60/\-(2^60)<=b/\b<2^60
instance(a b c:Int):Decidable (pB a b c):=inferInstanceAs (Decidable<|_/\_)
def gU:List D->R (List D)
 |[.int b]=>if pB 0 b 1 then .ok (wD 0 1 (iJ 0 b 1))else .bad
 |[.int a,.int b]=>if pB a b 1 then .ok (wD a 1 (iJ a b 1))else .bad
 |[.int a,.int b,.int c]=>if pB a b c then .ok (wD a c (iJ a b c))else .bad
 |_=>.bad
def kF{R:It->Hp->Prop}{E:F8}(I:Inv X d σ H s)(h:pB a b c)(q:R (sk a c (iJ a b c)) H):a9 (be X.prog X.w) X.A (pyIter (.ref s.heap.objs.size)) (PIE X d σ y R) E {s with heap:=s.heap.push {cls:=.type "range",data:=.fields #[.int a t,.int b u,.int c v]},toks:=tk}:=by
 obtain⟨g,i,j,k,l,m⟩:=h;refine wpAny_pyIter_range (IsRange.new ..) (LA g i j k l m) ?_;have f:Inv X d σ H {s with heap:=s.heap.push {cls:=.type "range",data:=.fields #[.int a t,.int b u,.int c v]},toks:=tk}:=I.kept λb o e=>aAc _ e;refine⟨(s.heap.push {cls:=.type "range",data:=.fields #[.int a t,.int b u,.int c v]}).objs.size,[(s.heap.push {cls:=.type "range",data:=.fields #[.int a t,.int b u,.int c v]}).objs.size],_,_,H,rfl,
  f.kept (t':=tk) λb o e=>aAc _ e,zO _ a c (iJ a b c),?_,λn p=>?_,q⟩
 .have r:a+((0:Nat):Int)*c=a:=by simp
  have x:((iJ a b c:Nat):Int)-((0:Nat):Int)=aCG a b c:=by rw[IZ g];simp
  show IsRangeIter _ _ (a+((0:Nat):Int)*c) (((iJ a b c:Nat):Int)-((0:Nat):Int)) c;rw[r,x];exact aAr _ rfl
 have e:n=(s.heap.push {cls:=.type "range",data:=.fields #[.int a t,.int b u,.int c v]}).objs.size:=by simpa using p
 subst e;exact f.af4 (aAl _) (f.hok.fresh<|aAl _)
def RN{R:It->Hp->Prop}{O:bc->Prop}(I:Inv X e σ H s)(r:Paired (B5 X.K H O) L ds)(f:l7 L i)(h:gU ds=.ok j)(q:∀J,ZH X.K J H O j->R J H):a9 (be X.prog X.w) X.A (call (.type "range") i) (λv k=>a9 (be X.prog X.w) X.A (pyIter v) (PIE X e σ y R) X.xe k) X.xe s:=by
 match ds,h with
 |[.int b],h=>
  obtain⟨v,rfl,z⟩:=PP r;cases z.aa6;obtain⟨u,rfl,t,rfl⟩:=vals1 f;simp only[gU]at h;split at h
  .rename_i d;cases h;exact call_range_1 (kF I d<|q _<|kR _ _ _ _ _ _)
  cases h
 |[.int a,.int b],h=>
  obtain⟨v,l,rfl,z,g⟩:=pr2 r;cases z.aa6;cases g.aa6;obtain⟨u,m,rfl,⟨t,rfl⟩,⟨n,rfl⟩⟩:=vals2 f;simp only[gU]at h;split at h
  .rename_i d;cases h;exact call_range_2 (kF I d<|q _<|kR _ _ _ _ _ _)
  cases h
 |[.int a,.int b,.int c],h=>
  cases r with
  |cons o r=>
   obtain⟨v,l,rfl,z,g⟩:=pr2 r;cases o.aa6;cases z.aa6;cases g.aa6;cases f with
   |cons p f=>
    obtain⟨u,m,rfl,⟨t,rfl⟩,⟨n,rfl⟩⟩:=vals2 f;obtain⟨B,rfl⟩:=p;simp only[gU]at h;split at h
    .rename_i d;cases h;have x:=d;obtain⟨C,E,_⟩:=x;exact call_range_3 (by lia) (kF (tk:=s.toks) I d<|q _<|kR _ _ _ _ _ _) (.inl (PyProof.noPylong_small (by lia)))
    cases h
def V7{o e:cu}{es:List cu}{p:Pos}{f:Ev->R (List D)}(t:xw X (e::es) f)(u:Gl X "range":=by rfl)(v:X.mg "range"=none:=by assumption)
  (w:bb (e::es) X.env=(false,dm e X.env)::bb es X.env:=by rfl) (y:(cy i (bb es X.env)).any (·.1)=false:=by rfl):
  WV X o (.Call (.Name "range" p) (e::es) [] i) (λρ=>(f ρ).bind gU):=by
 rintro j s σ H Q I ⟨z,A,O,ρ,E,Y,q⟩;dsimp only at q;refine Call_ (T9 I u v boot_range<|aBv (F5 (t i j s σ H (λL g=>∃h k,Same H g/\Paired (B5 X.K g O) L h/\gU h=.ok k/\∀J,ZH X.K J g O k->Q J g) I ⟨z,A,O,ρ,E,?_⟩) λus l B=>?_) w y)
 .cases m:f ρ with
  |ok h=>
   rw[m]at q;intro L g l n;rw[R.aa0]at q;cases d:gU h with
   |ok k=>rw[d]at q;exact⟨h,k,l,n,d,λJ C=>q J g l C⟩
   |ex x=>
    rw[d]at q;match h,d with
    |[.int b],d=>simp only[gU]at d;split at d<;>cases d
    |[.int a,.int b],d=>simp only[gU]at d;split at d<;>cases d
    |[.int a,.int b,.int c],d=>simp only[gU]at d;split at d<;>cases d
   |bad=>rw[d]at q;exact q.elim
  |ex x=>rw[m]at q;exact q
  |bad=>rw[m]at q;exact q
 obtain⟨L,g,N,n,h,k,sm,r,T,U⟩:=B;exact RN N r n T U
def tG(X:Cx)(G:D->Ev->R Ev):TG:=λv σ H Q=>∃e f O ρ d a,EnvOk X.K e f H O σ ρ/\Rep X.K H O v d/\G d ρ=.ok a/\∀g b,Same H b->EnvOk X.K e f b O g a->Q g b
def LJ(X:Cx)(a:cu)(G:D->Ev->R Ev):Prop:=PG X a (tG X G)
def ij(h:PG X b t)(i:∀v σ H Q,t' v σ H Q->t v σ H Q):PG X b t':=λa s σ H v u Q I r q=>h a s σ H v u Q I r (i v σ H Q q)
def n8(i:Nat)(a:X.N.Nodup)(b:X.N[i]?=some x:=by rfl)(f:Loc X.env.scope x:=by first|exact aCD rfl|exact aBP rfl)(g:X.fn x=true\/X.env.scope.names.lookup x=some .local:=by first|exact .inl rfl|exact .inr rfl|assumption):
  LJ X (.Name x h) (λd ρ=>.ok (ρ.set i (.v d))):=ij (WB a b f g)<|by
 rintro v σ H Q ⟨k,l,O,ρ,d,j,E,r,e,q⟩;cases e;exact q _ H (Same.refl _) (E.set i r)
def tGs(X:Cx)(G:List D->Ev->R Ev):fq:=λL σ H Q=>∃d e O ρ f a,EnvOk X.K d e H O σ ρ/\Reps X.K H O L f/\G f ρ=.ok a/\∀g b,Same H b->EnvOk X.K d e b O g a->Q g b
def VR(X:Cx)(a:List cu)(G:List D->Ev->R Ev):Prop:=PGs X a (tGs X G)
def HW{b:List cu}{t t':fq}(h:PGs X b t)(i:∀v σ H Q,t' v σ H Q->t v σ H Q):PGs X b t':=λa s σ H v u Q I r q=>h a s σ H v u Q I r (i v σ H Q q)
def mY:List D->Ev->R Ev
 |[],ρ=>.ok ρ
 |_,_=>.bad
def P9(G:D->Ev->R Ev)(b:List D->Ev->R Ev):List D->Ev->R Ev
 |d::e,ρ=>(G d ρ).bind λa=>b e a
 |_,_=>.bad
def eI:VR X [] mY:=HW XT<|by
 rintro L σ H Q ⟨b,d,O,ρ,f,a,E,r,e,q⟩;cases r with
 |nil=>cases e;exact⟨rfl,q σ H (Same.refl _) E⟩
 |cons _ _=>cases e
def B8{e:cu}{es:List cu}{G:D->Ev->R Ev}{g:List D->Ev->R Ev}(l:LJ X e G)(m:VR X es g)
  (n:(dC (e::es) X.env).map (·.2)=gn e X.env::(dC es X.env).map (·.2):=by rfl):VR X (e::es) (P9 G g):=HW (MK l m n)<|by
 rintro L σ H Q ⟨h,i,O,ρ,j,f,E,r,e,q⟩;cases r with
 |nil=>cases e
 |@cons v d L j r o=>
  simp only[P9]at e;cases b:G d ρ with
  |ok a=>rw[b]at e;exact⟨v,L,rfl,h,i,O,ρ,d,a,E,r,b,λp z k s=>⟨h,i,O,a,j,f,s,o.same k,e,λt u w y=>q t u (k.trans w) y⟩⟩
  |ex x=>rw[b]at e;cases e
  |bad=>rw[b]at e;cases e
def fV(n:Nat)(b:List D->Ev->R Ev):D->Ev->R Ev
 |.tup a,ρ=>if a.length=n then b a ρ else .bad
 |.lst a,ρ=>if a.length=n then b a ρ else .bad
 |_,_=>.bad
end
section
theorem uX(f:t≠it):∀(n i:Nat) (s:ba) (Q:List au->ba->Prop),s.heap.IsListIter it t i->s.heap.IsList t items->i+n<=items.size->
  (∀h',h'.IsListIter it t (i+n)->Heap.SameBut it s.heap h'->Q ((items.toList.drop i).take n) {s with heap:=h'})->a9 (be prog w) A (draw (.ref it) n) Q E s
 |0,i,s,Q,a,_,_,e=>by show a9 _ _ (pure []) Q E s;exact aAb (by simpa using e s.heap a (aGB ..))
 |n+1,i,s,Q,a,g,l,e=>by
  have h:i<items.size:=by omega
  show a9 _ _ (fg (.ref it)>>=_) Q E s;refine aAa (wpAny_pyNext_list_item a g (x:=items[i]) (by simp[h]) λj b k=>?_);refine aAa (aAW (uX f n (i+1) _ _ b (g.extBut k.extBut f) (by omega) λm d o=>aAb ?_));have p:items.toList.drop i=items[i]::items.toList.drop (i+1):=by simp[aDL,h]
  have:=e m (by rw[show i+(n+1)=i+1+n by omega];exact d) (k.trans o);rw[p,List.take_succ_cons]at this;exact this
def kD{Q:List au->ba->Prop}(n:A.handled=none)(g:s.heap.IsList t items)(p:∀h',Heap.ExtBut s.heap.objs.size s.heap h'->Q items.toList {s with heap:=h'}):a9 (be prog w) A (unpackItems (.ref t) items.size none) Q E s:=by
 have k:t≠s.heap.objs.size:=by obtain⟨o,h,_⟩:=g;exact aAm (aAg h)
 unfold unpackItems;refine aAa ?_
 unfold notIterableAtAll;refine aAa (aBE g.typeIs slot_list_iter.lookup ?_);refine aAb ?_;simp only[aAv,if_false];refine aAa (aAW<|aDD g ?_);have a:(s.heap.push {cls:=.type "list_iterator",data:=.fields #[.ref t,.int 0 0]}).IsList t items:=by obtain⟨o,h,r⟩:=g;exact⟨o,aAc _ h,r⟩
 refine aAa (aAW (uX k items.size 0 _ _ ⟨_,aAr _ rfl,rfl,rfl⟩ a (by omega) λd f l=>?_));have q:List.take items.size (List.drop 0 items.toList)=items.toList:=by rw[aGj];exact aDm (by simp)
 rw[q];rw[h9 (by simp)];have i:d.IsList t items:=a.extBut l.extBut k;refine aAa (aAW (wpAny_pyNext_list_end n f i (by simp) λu j=>?_));simp only[Option.isSome_none,aAv,if_false];refine aAb (p u λb o m e=>j b o m (l.extBut b o m<|aAc _ e))
def iY{d}{Q:Unit->ba->Prop}(e:A.handled=none)(f:s.heap.IsList t items)(g:(dC a env).length=items.size)(b:(dC a env).findIdx? (·.1)=none)(h:∀h',Heap.ExtBut s.heap.objs.size s.heap h'->a9 (be prog w) A (assignInOrder ((dC a env).map (·.2)) items.toList) Q E {s with heap:=h'}):
  a9 (be prog w) A (gn (.Tuple a d i) env (.ref t)) Q E s:=by
 rw[assign_Tuple];refine aAa (aEy ?_);unfold unpack;rw[g,b];exact aAa (aAW<|kD e f h)
end
section
def iW(A:X.calm=true)(h:VR X es T)(B:(dC es X.env).length=n:=by rfl)(C:(dC es X.env).findIdx? (·.1)=none:=by rfl):LJ X (.Tuple es k U) (fV n T):=by
 rintro f s σ H v u Q I r ⟨J,N,O,ρ,d,g,E,Y,e,q⟩;cases Y with
 |@tup a L l m i=>
  cases r;simp only[fV]at e;split at e
  .rename_i p;obtain⟨t,j,w,hz⟩:=I.tuple m;refine assign_Tuple_tuple (I.ok.hd A) w (by simp[B,<-p,<-i.length,j.length]) C λx y=>?_;have z:Inv X f σ H {s with heap:=x}:=I.kept (t':=s.toks) λb o e=>y b o (aAm<|aAg e) e;exact h f _ σ H L _ Q z (by simpa using j) ⟨J,N,O,ρ,l,g,E,i,e,q⟩
  cases e
 |@lst a L l m _ i=>
  cases r;simp only[fV]at e;split at e
  .rename_i p;obtain⟨t,j,w,hz⟩:=I.list m;refine iY (I.ok.hd A) w.isList (by simp[B,<-p,<-i.length,j.length]) C λx y=>?_;have z:Inv X f σ H {s with heap:=x}:=I.kept (t':=s.toks) λb o e=>y b o (aAm<|aAg e) e;exact h f _ σ H L _ Q z (by simpa using j) ⟨J,N,O,ρ,l,g,E,i,e,q⟩
  cases e
 |_=>cases e
def TN(f:Ev->R D)(G:D->Ev->R Ev):Ev->R Out:=λρ=>(f ρ).bind λd=>match G d ρ with
 |.ok a=>.ok (.nx a)
 |_=>.bad
def HR(m:PD X e f)(n:LJ X a G)(o:fm [a] e g.line X.env=pure false:=by rfl)(p:fo [a] e X.env=pure none:=by rfl)(t:(dC [a] X.env).map (·.2)=[gn a X.env]:=by rfl):nN X (.Assign [a] e g) (TN f G):=λj k=>BQ (DT m n o p t) λD σ H O ρ E u q=>⟨j,k,O,ρ,E,by
 unfold TN at q;cases h:f ρ with
 |ok d=>
  rw[h,R.aa0]at q;intro v l s r;cases b:G d ρ with
  |ok i=>rw[b]at q;exact⟨j,k,O,ρ,d,i,E.grow s,r,b,λw y z A=>q w y O A u (Kp.of<|s.trans z)⟩
  |ex x=>rw[b]at q;exact aAf q
  |bad=>rw[b]at q;exact aAf q
 |ex x=>rw[h]at q;exactλl s=>q l (E.same.trans s)
 |bad=>rw[h]at q;exact q⟩
def OJ(i j:Nat){e g xS}(o:X.calm=true)(p:X.N.Nodup)(t:MF X [a,b] f)(u:X.N[i]?=some x:=by rfl)(w:X.N[j]?=some y:=by rfl)(z:i≠j:=by decide)(A:X.env.scope.names.lookup x=some .local:=by rfl)(B:X.env.scope.names.lookup y=some .local:=by rfl)(C:fo [.Tuple [.Name x m,.Name y n] e pt] (.Tuple [a,b] g xS) X.env=pure (some [x,y]):=by rfl)(I:fm [.Tuple [.Name x m,.Name y n] e pt] (.Tuple [a,b] g xS) h.line X.env=pure false:=by rfl):
  nN X (.Assign [.Tuple [.Name x m,.Name y n] e pt] (.Tuple [a,b] g xS) h) (λρ=>(f ρ).bind λds=>match ds with
   |[d,d']=>.ok (.nx ((ρ.set i (.v d)).set j (.v d')))
   |_=>.bad):=λJ Q=>BQ (nj o p u w z A B t C I) λD σ H O ρ E T q=>⟨J,Q,O,ρ,E,by
 cases k:f ρ with
 |ok ds=>
  rw[k,R.aa0]at q;intro L l s r;cases r with
  |nil=>exact aAf q
  |cons U r=>
   cases r with
   |nil=>exact aAf q
   |cons Y r=>
    cases r with
    |nil=>exact⟨_,_,rfl,q _ l O (((E.grow s).set i U).set j Y) T (Kp.of s)⟩
    |cons _ _=>exact aAf q
 |ex x=>rw[k]at q;exactλl s=>q l (E.same.trans s)
 |bad=>rw[k]at q;exact q⟩
def V4(G:D->Ev->R Ev)(F:Ev->R Out):List D->Ev->R Out
 |[],ρ=>.ok (.nx ρ)
 |d::e,ρ=>match G d ρ with
  |.ok b=>match F b with
   |.ok (.nx a)=>V4 G F e a
   |.ok (.ct a)=>V4 G F e a
   |.ok (.bk a)=>.ok (.nx a)
   |r=>r
  |_=>.bad
def N5(hp:PassesOwn (be X.prog X.w) X.A X.env X.xe)(hc:X.calm=true)(hi:WV X tg y8 f)(hg:LJ X tg G)(hb:bU X body F)(hs:∀x,d7 y8 X.env x=pure x:=by intro _;rfl):nN X (.For tg y8 body [] pos) (λρ=>(f ρ).bind λds=>V4 G F ds ρ):=λk l=>BQ (nq hp hc hi hg (hb k l) hs) λD σ H O ρ E fk q=>⟨k,l,O,ρ,E,fk,by
 cases Q:f ρ with
 |ex x=>rw[Q]at q;exactλj s=>q j (E.same.trans s)
 |bad=>rw[Q]at q;exact q
 |ok ds=>
  rw[Q,R.aa0]at q;intro J H1 T hJ;refine⟨λi m U j=>m=ds.length-i/\i<=ds.length/\∃g h,EnvOk X.K k l j g U h/\X7 X.K g/\Kp H1 O j g/\RS X k l j g (V4 G F (ds.drop i) h) D,⟨ds.length,by simp,aAY _,O,ρ,E.grow T,fk,Kp.refl _ _,?_⟩,?_⟩
  .rw[aGj];exact q.grow (Kp.of T)
  rintro i m U j ⟨rfl,hi,g,h,Y,n,k',a⟩;have z:=hJ j g k' n (E.grow T).trk Y.trk i;by_cases ah:i<ds.length
  .obtain⟨go,yl⟩:=z.1 ds[i] (aAi ah);refine .inr ⟨go,λwc v=>∃L b,EnvOk X.K k l v L wc b/\X7 X.K L/\Kp H1 O v L/\RS X k l v L (V4 G F (ds.drop<|i+1) b) D,λwc v p=>⟨ds.length-(i+1),by omega,rfl,ah,p⟩,λx v y=>?_⟩;obtain⟨s2,r2⟩:=yl x v y;rw[aDL ah,V4]at a;cases N:G ds[i] h with
   |ex x=>rw[N]at a;exact(show False from a).elim
   |bad=>rw[N]at a;exact(show False from a).elim
   |ok r=>
    rw[N]at a;dsimp only at a;refine⟨k,l,g,h,ds[i],r,Y.grow s2,r2,N,λql H3 s3 E3=>⟨g,r,E3,n,?_⟩⟩;have kk:Kp j g H3 g:=Kp.of (s2.trans s3);cases e3:F r with
    |ex x=>rw[e3]at a;exact a
    |bad=>rw[e3]at a;exact a
    |ok o=>
     rw[e3]at a;cases o with
     |nx b=>exactλt H4 B C I u=>⟨B,b,C,I,k'.trans (kk.trans u),RS.grow a (kk.trans u)⟩
     |ct b=>exactλt H4 B C I u=>⟨B,b,C,I,k'.trans (kk.trans u),RS.grow a (kk.trans u)⟩
     |bk b=>exactλt H4 B C I u=>a t H4 B C I (kk.trans u)
     |rt d=>exact a
  have e:i=ds.length:=by omega
  subst e;rw[List.drop_length,V4]at a;exact .inl ⟨z.2 (by simp),a U j g Y n (Kp.refl _ _)⟩⟩
def T5(c:Ev->R Bool)(F:Ev->R Out):Nat->Ev->R Out
 |0,_=>.bad
 |n+1,ρ=>(c ρ).bind λb=>if b=true then(match F ρ with
  |.ok (.nx a)=>T5 c F n a
  |.ok (.ct a)=>T5 c F n a
  |.ok (.bk a)=>.ok (.nx a)
  |r=>r)else .ok (.nx ρ)
def lC(n:Ev->Nat)(Y:PassesOwn (be X.prog X.w) X.A X.env X.xe)(hc:yR X c y)(hb:bU X body F):nN X (.While c body [] pos) (λρ=>T5 y F (n ρ) ρ):=λi j=>BQ (NM Y hc<|hb i j) λD σ H O ρ E fk q=>by
 refine⟨λm I z=>∃f e,EnvOk X.K i j z f I e/\X7 X.K f/\RS X i j z f (T5 y F m e) D,⟨n ρ,O,ρ,E,fk,q⟩,?_⟩;rintro m I z ⟨f,e,B,l,a⟩;cases m with
 |zero=>exact(show False from a).elim
 |succ m=>
  rw[T5]at a;refine⟨i,j,f,e,B,?_⟩;cases J:y e with
  |ex x=>rw[J]at a;exactλC k=>a C (B.same.trans k)
  |bad=>rw[J]at a;exact a
  |ok b=>
   rw[J,R.aa0]at a;intro C k;cases b with
   |false=>rw[h9 aAU]at a⊢;exact a I C f (B.grow k) l (Kp.of k)
   |true=>
    rw[hV rfl]at a⊢;refine⟨λU L=>∃N r,EnvOk X.K i j L N U r/\X7 X.K N/\RS X i j L N (T5 y F m r) D,λU L p=>⟨m,aDQ m,p⟩,f,e,B.grow k,l,?_⟩;have kk:Kp z f C f:=Kp.of k;cases Q:F e with
    |ex x=>rw[Q]at a;exact a
    |bad=>rw[Q]at a;exact a
    |ok o=>
     rw[Q]at a;cases o with
     |nx g=>exactλh T s t u v=>⟨s,g,t,u,RS.grow a (kk.trans v)⟩
     |ct g=>exactλh T s t u v=>⟨s,g,t,u,RS.grow a (kk.trans v)⟩
     |bk g=>exactλh T s t u v=>a h T s t u (kk.trans v)
     |rt d=>exact a
end
def spD(K:iu)(n:Nat)(m:List D->R D):Sp:=λL H Q _=>∃O b d,Reps K H O L b/\b.length=n/\(∀a,O a->∃o,H a=some o/\Mt o)/\Tb H/\X7 K O/\m b=.ok d/\∀v e,Same H e->Rep K e O v d->Q v e
def l4(N:List Str)(ds:List D):Ev:=ds.map Sl.v++aCZ (N.length-ds.length) Sl.no
def N9:R Out->R D
 |.ok (.rt d)=>.ok d
 |.ok (.nx _)=>.ok .non
 |.ex e=>.ex e
 |_=>.bad
def lK{K:iu}{H:Hp}{O:bc->Prop}{N:List Str}{L:List V}{ds:List D}(r:Reps K H O L ds)(t:∀a,O a->∃o,H a=some o/\Mt o)(tb:Tb H):EnvOk K H O H O (start N L) (l4 N ds)where
 len:=by simp[L2.start,l4,r.length]
 same:=Same.refl H
 sub:=λ_ h=>h
 trk:=t
 trk0:=λa h=>let⟨o,q,_⟩:=t a h;⟨o,q⟩
 tab:=tb
 slot:=λi g h=>by
  unfold l4 at h;unfold L2.start;by_cases b:i<ds.length
  .rw[aBb (by simpa using b),aAG]at h;cases e:ds[i]? with
   |none=>rw[e]at h;cases h
   |some d=>rw[e]at h;have f:Sl.v d=g:=Option.some.inj h;subst f;obtain⟨v,k,l⟩:=r.get e;exact⟨v,by rw[aBb (by rw[aAh,r.length];exact b),aAG,k];rfl,l⟩
  rw[aAA (by simpa using b),aBA]at h;split at h
  .cases h;trivial
  cases h
 inj:=λi j x y a h _ o=>by
  unfold l4 at h;by_cases b:i<ds.length
  .rw[aBb (by simpa using b),aAG]at h;cases e:ds[i]? with
   |none=>rw[e]at h;cases h
   |some d=>rw[e]at h;have f:Sl.v d=x:=Option.some.inj h;subst f;exact o.elim
  rw[aAA (by simpa using b),aBA]at h;split at h
  .cases h;exact o.elim
  cases h
section
variable{K:iu}
abbrev UQ(P:bM)(w:cp)(K:iu)(mg:cM)(base:cq)(N:List Str)(qual:Str)(sc:gW)(f:bc)(C:au)(A:cf)(a:List Env)(s:ba)(H:Hp)(E:XK):Cx:=(ED uI P w K mg base N qual sc f C A a s H E).nox
def fnD{x qual:Str}{st:cv}{f:bc}{fd:dA}{N ps:List Str}{k:Nat}{m:List D->R D}{F:Ev->R Out}(j:Fun K x qual st f fd)(S:FnScope N ps (c6 st))
  (l:∀(C:au) (A:cf) (a:List Env) (s:ba) (H:Hp) (E:XK),Room k (A.deeper (envOfC qual (c6 st) s.heap.objs.size f C))->bU (UQ P w K mg base N qual (c6 st) f C A a s H E) (p9 st) F)
  (n:∀ds d,ds.length=ps.length->m ds=.ok d->N9 (F (l4 N ds))=.ok d):FnOk P w K mg base uI (k+1) f fd ps (spD K ps.length m):=by
 refine j.ok S (by rintro L H Q E ⟨O,ds,d,r,g,_⟩;rw[r.length];exact g) (λC A a s H L Q E p t=>?_);obtain⟨O,ds,d,r,g,u,v,y,e,q⟩:=t;refine⟨_,l C A a s H E p H O,O,_,lK r u v,y,?_⟩;have h:=n ds d g e;cases i:F (l4 N ds)with
 |ok o=>
  rw[i]at h;cases o with
  |rt z=>have b:R.ok z=R.ok d:=h;injection b with b;subst b;exact q
  |nx ρ=>have b:R.ok D.non=R.ok d:=h;injection b with b;subst b;exactλJ B T I _ _=>q .non B I.same .non
  |bk ρ=>cases h
  |ct ρ=>cases h
 |ex x=>rw[i]at h;cases h
 |bad=>rw[i]at h;cases h
end
section
def nM(I:Inv X b σ H s)(O:bc->Prop)(t:∀a,O a->∃o,H a=some o/\Mt o):X7 X.K O:=λa o d z=>by obtain⟨u,h,_⟩:=t a z;have:=(I.bs a o<|I.ok.mod.kin a o d).2;rw[h]at this;cases this
def WW(F:FnOk X.prog X.w X.K X.mg X.base uI k g o ps (spD X.K n m))(r:Room k X.A)(t:X.mg x=some (.ref g))(u:PySem.W.keepIn X.K (.ref g)=true)(y:Binds X.K o ps [])(B:MF X (e::es) f)(C:∀ρ ds,f ρ=.ok ds->ds.length=n)(J:Gl X x:=by rfl)(N:(x==ix)=false:=by decide)(T:bb (e::es) X.env=(false,dm e X.env)::bb es X.env:=by rfl)(U:(cy i (bb es X.env)).any (·.1)=false:=by rfl):
  PD X (.Call (.Name x p) (e::es) [] i) (λρ=>(f ρ).bind m):=by
 refine tY λa s σ H Q I Y O0 O ρ E q=>?_;refine HF F r J t u y .nil ZE B N T U a s σ H Q I ⟨Y,O0,O,ρ,E,?_⟩;dsimp only at q;cases b:f ρ with
 |ex z=>rw[b]at q;exact q
 |bad=>rw[b]at q;exact q
 |ok ds=>
  rw[b,R.aa0]at q;intro L H1 j r1;rw[aCb];have l:=E.grow j;cases h:m ds with
  |ex z=>rw[h]at q;exact(q H<|Same.refl _).elim
  |bad=>rw[h]at q;exact q.elim
  |ok d=>rw[h]at q;refine⟨O,ds,d,r1,C ρ ds b,l.trk,l.tab,?_,h,λv H' s2 r2=>q v H' (j.trans s2) r2⟩;exact nM I O E.trk
end
def MH(env:Env):List (Str×ek)->List (Str×bc)->List (Str×bc)
 |[],B=>B
 |(n,k)::r,B=>MH env r (if k=.free then(n,(env.cells.lookup n).getD 0)::B else B)
def Y8(h:∀y∈d.names,y.2=.free->∃c,env.cells.lookup y.1=some c):closureFor d env=pure (MH env d.names []):=by
 have p:∀(b:List (Str×ek)) (B:List (Str×bc)),(∀y∈b,y.2=.free->∃c,env.cells.lookup y.1=some c)->
   (forIn b B λ(x:Str×ek) (r:List (Str×bc))=>(match x with
    |(f,g)=>if(g==NameKind.free)=true then(do let a<-cellOf env f;pure (aCr ((f,a)::r)))else pure (aCr r):Sem (ForInStep<|List<|Str×bc)))=pure (MH env b B):=by
  intro b;induction b with
  |nil=>intro B _;rfl
  |cons y r m=>
   intro B i;obtain⟨n,k⟩:=y;rw[aDg];by_cases j:k=.free
   .subst j;obtain⟨c,o⟩:=i (n,.free) aBn rfl;have e:cellOf env n=pure c:=by unfold cellOf;rw[o]
    simp only[beq_self_eq_true,if_true,e,pure_bind];rw[m _ λz l=>i z (aAe _ l)];simp[MH,o]
   have q:(k==NameKind.free)=false:=by simpa using j
   simp only[q,aAv,if_false,pure_bind];rw[m _ λz l=>i z (aAe _ l)];simp[MH,j]
 have e:=p d.names [] h;show((forIn d.names ([]:List (Str×bc)) λ(x:Str×ek) (r:List (Str×bc))=>(match x with
    |(f,g)=>if(g==NameKind.free)=true then(do let a<-cellOf env f;pure (aCr ((f,a)::r)))else pure (aCr r):Sem (ForInStep<|List<|Str×bc)))>>=λs=>pure s)=_
 rw[e];rfl
theorem yW:∀(names:List (Str×ek)) (B:List (Str×bc)) {x:Str}{c:bc},(∀y∈names,y.2=.free->∃c,env.cells.lookup y.1=some c)->(∀x c,B.lookup x=some c->env.cells.lookup x=some c)->
  (MH env names B).lookup x=some c->env.cells.lookup x=some c
 |[],B,x,c,_,b,h=>b x c h
 |(n,k)::r,B,x,c,f,b,h=>by
  refine yW r _ (λy l=>f y (aAe _ l)) (λd g a=>?_) h;by_cases e:k=.free
  .rw[hV e]at a;obtain⟨c0,i⟩:=f (n,k) aBn e;by_cases j:d=n
   .subst j;rw[aBN]at a;rw[i]at a;rw[i];exact a
   rw[aBh,beq_eq_false_iff_ne.mpr j]at a;exact b d g a
  rw[h9 e]at a;exact b d g a
theorem wP:∀(names:List (Str×ek)) (B:List (Str×bc)) {x:Str},((x,NameKind.free)∈names\/∃c,B.lookup x=some c)->∃c,(MH env names B).lookup x=some c
 |[],B,x,h=>by
  rcases h with h|h
  .cases h
  exact h
 |(n,k)::r,B,x,h=>by
  refine wP r _ ?_;rcases h with h|⟨c,h⟩
  .rcases aAd.mp h with e|h
   .cases e;right;rw[hV rfl,aBN];exact⟨_,rfl⟩
   exact .inl h
  right;by_cases a:k=.free
  .rw[hV a,aBh];cases(x==n)with
   |true=>exact⟨_,rfl⟩
   |false=>exact⟨c,h⟩
  rw[h9 a];exact⟨c,h⟩
theorem jG{env:Env}:∀{names:List (Str×ek)}{x:Str},
  ((names.map λ(n,k)=>if(k==NameKind.free&&env.scope.kind==.function&&env.kindOf n==some .cell)then(n,aCc)else(n,k)).lookup x=some .cell\/
   (names.map λ(n,k)=>if(k==NameKind.free&&env.scope.kind==.function&&env.kindOf n==some .cell)then(n,aCc)else(n,k)).lookup x=some .free)->(x,NameKind.free)∈names\/names.lookup x=some .cell
 |[],_,h=>by rcases h with h|h<;>cases h
 |(n,k)::r,x,h=>by
  have d:=@jG env r x;rw[aAk]at h;dsimp only at h;by_cases b:x=n
  .subst b;by_cases a:(k==NameKind.free&&env.scope.kind==.function&&env.kindOf x==some .cell)=true
   .have e:k=.free:=by rw[aAQ,aAQ]at a;simpa using a.1.1
    subst e;exact .inl aBn
   rw[h9 a,aBN]at h;rcases h with h|h
   .right;rw[aBN];exact h
   have:k=.free:=Option.some.inj h;subst this;exact .inl aBn
  have f:(r.map λ(n,k)=>if(k==NameKind.free&&env.scope.kind==.function&&env.kindOf n==some .cell)then(n,aCc)else(n,k)).lookup x=some .cell\/
    (r.map λ(n,k)=>if(k==NameKind.free&&env.scope.kind==.function&&env.kindOf n==some .cell)then(n,aCc)else(n,k)).lookup x=some .free:=by
   by_cases a:(k==NameKind.free&&env.scope.kind==.function&&env.kindOf n==some .cell)=true
   .rw[hV a,aBh,beq_eq_false_iff_ne.mpr b]at h;exact h
   rw[h9 a,aBh,beq_eq_false_iff_ne.mpr b]at h;exact h
  rcases d f with h|h
  .exact .inl (aAe _ h)
  right;rw[aBh,beq_eq_false_iff_ne.mpr b];exact h
theorem rO:∀(names:List (Str×ek)) (h:cq) (B:List (Str×bc)) {x:Str}{c:bc},(d3 h.objs.size names B).lookup x=some c->B.lookup x=some c\/((pushCells h names).IsCell c none/\h.objs.size<=c)
 |[],h,B,x,c,e=>.inl e
 |(n,k)::r,h,B,x,c,e=>by
  unfold d3 at e;unfold pushCells;split at e
  .rename_i b;rw[hV b];rcases rO r (h.push {cls:=.type "cell",data:=.cell none}) ((n,h.objs.size)::B) (x:=x) (c:=c) (by rw[aBL];exact e)with a|⟨a,d⟩
   .rw[aBh]at a;cases f:(x==n)with
    |true=>rw[f]at a;have g:h.objs.size=c:=Option.some.inj a;subst g;exact .inr ⟨⟨_,aEF _ _ _ _ (aAr _ rfl),rfl⟩,aAl _⟩
    |false=>rw[f]at a;exact .inl a
   exact .inr ⟨a,by rw[aBL]at d;exact aCM d⟩
  rename_i b;rw[h9 b];exact rO r h B e
theorem mE:∀(names:List (Str×ek)) (n:Nat) (B:List (Str×bc)) {x:Str}{c:bc},(d3 n names B).lookup x=some c->B.lookup x=some c\/n<=c
 |[],n,B,x,c,e=>.inl e
 |(m,k)::r,n,B,x,c,e=>by
  unfold d3 at e;split at e
  .rcases mE r (n+1) _ e with a|a
   .rw[aBh]at a;cases b:(x==m)with
    |true=>rw[b]at a;exact .inr (aEn (Option.some.inj a))
    |false=>rw[b]at a;exact .inl a
   exact .inr (aCM a)
  exact mE r n B e
theorem pU:∀(names:List (Str×ek)) (n:Nat) (B:List (Str×bc)) {x:Str}{c:bc},(x,aCc)∈names->(d3 n names B).lookup x=some c->n<=c
 |[],n,B,x,c,a,e=>nomatch a
 |(m,k)::r,n,B,x,c,a,e=>by
  unfold d3 at e;rcases aAd.mp a with a|a
  .cases a;rw[hV (show(aCc==aCc)=true from rfl)]at e;rcases mE r (n+1) _ e with b|b
   .rw[aBN]at b;exact aEn (Option.some.inj b)
   exact aCM b
  split at e
  .exact aCM (pU r (n+1) _ a e)
  exact pU r n B a e
theorem qV:∀(names:List (Str×ek)) (n:Nat) (B:List (Str×bc)) {x:Str},(x,aCc)∉names->(d3 n names B).lookup x=B.lookup x
 |[],n,B,x,_=>rfl
 |(m,k)::r,n,B,x,a=>by
  unfold d3;split
  .rename_i b;rw[qV r (n+1) _ λz=>a (aAe _ z),aBh];cases d:(x==m)with
   |true=>
    have e:x=m:=by simpa using d
    have f:k=.cell:=by simpa using b
    exact absurd (by rw[e,f];exact aBn) a
   |false=>rfl
  exact qV r n B λz=>a (aAe _ z)
theorem kZ:∀(names:List (Str×ek)) (n:Nat) (B:List (Str×bc)),(∀x c,B.lookup x=some c->c<n)->(∀x y c,B.lookup x=some c->B.lookup y=some c->x=y)->
  ∀x y c,(d3 n names B).lookup x=some c->(d3 n names B).lookup y=some c->x=y
 |[],n,B,_,h=>h
 |(m,k)::r,n,B,g,h=>by
  unfold d3;split
  .refine kZ r (n+1) _ (λx c e=>?_) λx y c b a=>?_
   .rw[aBh]at e;cases d:(x==m)with
    |true=>rw[d]at e;rw[<-Option.some.inj e];exact aDQ _
    |false=>rw[d]at e;exact aBw (g x c e)
   rw[aBh]at b a;cases d:(x==m)with
   |true=>
    rw[d]at b;cases f:(y==m)with
    |true=>rw[show x=m by simpa using d,show y=m by simpa using f]
    |false=>rw[f]at a;rw[<-Option.some.inj b]at a;exact absurd (g y _ a) (aBr _)
   |false=>
    rw[d]at b;cases f:(y==m)with
    |true=>rw[f]at a;rw[<-Option.some.inj a]at b;exact absurd (g x _ b) (aBr _)
    |false=>rw[f]at a;exact h x y c b a
  exact kZ r n B g h
abbrev bZ(X:Cx)(a:gW)(C:bc):List (Str×bc):=d3 (C+1) a.names (MH X.env a.names [])
def KJ{E:F8}{Q:Env->ba->Prop}(h:Q (newEnv a s.heap.objs.size g (d3 (s.heap.objs.size+1) a.names i) q none .none (some env) builtinsNs) {s with heap:=pushCells (s.heap.push {cls:=.type "dict",data:=.dict #[]}) a.names}):
  a9 M A (newFunctionEnv a g i [] q none .none (some env)) Q E s:=by
 simp only[newFunctionEnv,Option.isSome_some,if_true];refine aAa (wpAny_alloc ?_);refine aAa (wpAny_layCells _ (λf b d=>by cases e:b==aCc<;>simp[e]) _ _ _ _ ?_);rw[show({s with heap:=s.heap.push {cls:=.type "dict",data:=.dict #[]}}:ba).heap.objs.size=s.heap.objs.size+1 from aBL ..];exact aAa (aAb<|aAb h)
def LP{R:Result->ba->Prop}(I:Nat->ba->Prop)(turn:∀n s,I n s->a9 (be prog w) A (fg it) (λr j=>match r with
   |none=>R (.ok .next) j
   |some v=>a9 (be prog w) A (letOwnedTupleGo a it v) (λ_ f=>a9 (be prog w) A (gn a env v) (λ_ p=>
    a9 (be prog w) A (forIn g true λc r=>if r=true then do let ok<-isTrue c env (dm c env);pure (aCr ok)else pure (aCr r)) (λok k=>
     if ok=true then a9 (be prog w) A (dm i env) (λx q=>a9 (be prog w) A (call (.builtin "list.append") [B,x]) (λ_ t=>∃m,m<n/\I m t) (λ_ _=>False) q) (λ_ _=>False) k
     else∃m,m<n/\I m k) (λ_ _=>False) p) (λ_ _=>False) f) (λ_ _=>False) j) (λ_ _=>False) s) (n:Nat) (h:I n s):gm (be prog w) A (.compLoop (.ListComp i [⟨a,y8,g,0⟩] e l) 0 it B env) R s:=by
 refine codeAny_loop rfl I (λn s y=>?_) n h;show a9 _ A ((compTurn (.ListComp i [⟨a,y8,g,0⟩] e l) 0 it B env).onRaise (λx=>do noteFrame x env;theTreesLotGoes x)) _ _ s;refine wpAny_noted ?_;rw[compTurn_list];refine aAa (aEy<|aAa<|aCL (turn n s y) (λr j d=>?_) λ_ _ b=>b.elim);cases r with
 |none=>exact aAb d
 |some v=>
  refine aAa (aCL d (λ_ f o=>?_) λ_ _ b=>b.elim);refine aAa (aCL o (λ_ p z=>aAa (aCL z (λok k u=>?_) λ_ _ b=>b.elim)) λ_ _ b=>b.elim);cases ok with
  |false=>exact aAb ⟨rfl,u⟩
  |true=>exact aAa (aAa<|aCL u (λx q C=>aAa (aCL C (λ_ t E=>aAb (aAb ⟨rfl,E⟩)) λ_ _ b=>b.elim)) λ_ _ b=>b.elim)
def DD(X:Cx)(pins:P4)(s9:ba)(H9:Hp)(b:List Str)(a:gW)(d:List (Str×bc))(C:bc)(e:List bc):Cx where
 prog:=X.prog
 w:=X.w
 K:=X.K
 mg:=X.mg
 base:=X.base
 A:=X.A
 N:=b
 s9:=s9
 H9:=H9
 env:=compEnvC a d C X.env
 outer:=X.stack
 stack:=X.stack
 ex:=e
 fn:=λx=>a.names.lookup x==some .cell
 calm:=X.calm
 pn:=X.pn++pins
 xe:=λ_ _=>False
structure CompSc(X:Cx)(scope:Scope)(own fr:List Str)(js:List Nat):Prop where
 kind:scope.kind=.function
 apart:∀y∈scope.names,y.2=.free->(y.1,aCc)∉scope.names
 names:∀y∈scope.names,y.2=.local->scope.names.lookup y.1=some .local
 free:∀y∈scope.names,y.2=.free->X.env.kindOf y.1=some .cell\/X.env.kindOf y.1=some .free
 len:js.length=fr.length
 at_:∀(i j:Nat) (x:Str),js[i]?=some j->fr[i]?=some x->X.N[j]?=some x/\(x,NameKind.free)∈scope.names
 nd:js.Nodup
 dis:∀y∈scope.names,y.2=.free->scope.names.lookup y.1=some .free
def seen:Sl->Sl
 |.v d=>.v d
 |.d k=>.d k
 |_=>.no
def i5(own:List Str)(a:List Nat)(ρ:Ev):Ev:=aCZ own.length Sl.no++a.map λj=>seen (ρ.getD j Sl.no)
def U7(own:List Str)(a:List Nat)(σ:St):St:=aCZ own.length none++a.map λj=>σ.getD j none
def Inv.ab1(I:L2.Inv X b σ H s)(S:CompSc X a own f g):∀y∈a.names,y.2=.free->∃c,X.env.cells.lookup y.1=some c:=
 λy d e=>I.ok.has y.1 (S.free y d e)
def X3(h:(i5 own l ρ)[i]?=some sl):sl=.no\/∃j,((∃d,sl=.v d)\/∃k,sl=.d k)/\own.length<=i/\l[i-own.length]?=some j/\ρ[j]?=some sl:=by
 unfold i5 at h;by_cases f:i<own.length
 .rw[aBb (by simpa using f),aBA,hV f]at h;cases h;exact .inl rfl
 have g:own.length<=i:=aEq f;rw[aAA (by simpa using g),aCs,aAG]at h;cases e:l[i-own.length]? with
 |none=>rw[e]at h;cases h
 |some j=>
  rw[e]at h;have a:seen (ρ.getD j Sl.no)=sl:=Option.some.inj h;rw[aAo]at a;cases b:ρ[j]? with
  |none=>rw[b]at a;subst a;exact .inl rfl
  |some z=>
   rw[b]at a;cases z with
   |v d=>subst a;exact .inr ⟨j,.inl ⟨d,rfl⟩,g,rfl,b⟩
   |d k=>subst a;exact .inr ⟨j,.inr ⟨k,rfl⟩,g,rfl,b⟩
   |_=>subst a;exact .inl rfl
def pV{σ:St}(a:own.length<=i)(e:b[i-own.length]?=some j)(h:j<σ.length):(U7 own b σ)[i]?=σ[j]?:=by unfold U7;rw[aAA (by simpa using a),aCs,aAG,e];show some (σ.getD j none)=_;rw[aAo,aAi h];rfl
def JU{K:iu}{l H:Hp}{m O:bc->Prop}{σ:St}{ρ:Ev}{own:List Str}{f:List Nat}(s:f.Nodup)(E:EnvOk K l m H O σ ρ):EnvOk K l m H O (U7 own f σ) (i5 own f ρ):=by
 have lt:∀{j g},ρ[j]?=some g->j<σ.length:=λh=>by rw[E.len];exact(aAC.mp h).1
 refine⟨by simp[U7,i5],E.same,E.sub,E.trk,E.trk0,E.tab,λi g h=>?_,λi v x y a b d o n q p=>?_⟩
 .rcases X3 h with rfl|⟨j,_,k,e,b⟩
  .trivial
  rw[pV k e (lt b)];exact E.slot j g b
 rcases X3 b with rfl|⟨j,_,t,e,b⟩
 .exact o.elim
 rcases X3 d with rfl|⟨u,_,k,r,d⟩
 .exact n.elim
 rw[pV t e (lt b)]at q;rw[pV k r (lt d)]at p;have:=E.inj j u x y a b d o n q p;subst this;have:=(List.getElem?_inj (aAC.mp e).1 s).mp (e.trans r.symm)
 lia
def KU(I:L2.Inv X pins σ H s)(S:CompSc X a own fr js)(xa:∀b∈fp,sF X pins H b)(ah:∀b∈fp,b<s.heap.objs.size)(e8:h₁=pushCells (s.heap.push {cls:=.type "dict",data:=.dict #[]}) a.names):
  L2.Inv (DD X pins s H (own++fr) a (bZ X a s.heap.objs.size) s.heap.objs.size fp) [] (U7 own js σ) H {s with heap:=h₁,toks:=tk}:=by
 have w:=Inv.ab1 I S;have g:∀b o,s.heap.get? b=some o->h₁.get? b=some o:=λb o e=>by rw[e8];exact aEF _ _ _ _ (aAc _ e)
 have zb:h₁.Ns s.heap.objs.size (λ_=>none):=by rw[e8];exact(Heap.Ns.new s.heap<|.type "dict").keeps (aEF _ _)
 have cc:∀x c,(bZ X a s.heap.objs.size).lookup x=some c->(MH X.env a.names []).lookup x=some c\/(h₁.IsCell c none/\s.heap.objs.size+1<=c):=λx c h=>by have:=rO a.names (s.heap.push {cls:=.type "dict",data:=.dict #[]}) (MH X.env a.names []) (x:=x) (c:=c) (by rw[aBL];exact h);rw[aBL,<-e8]at this;exact this
 have J:∀x c,(MH X.env a.names []).lookup x=some c->X.env.cells.lookup x=some c:=λx c h=>yW a.names [] w (λ_ _ z=>(by cases z)) h;have l:∀b o,X.base.get? b=some o->b∉fp:=λb o e B=>by
  rcases(xa b B).2.2.2.1 with z|z
  .exact I.ok.noex b o e z
  exact absurd (aAw (aAg e)<|aAp I.ok.bsz z) (aBr _)
 have nfs:∀b∈fp,b∉yV X.stack:=λb B z=>by
  rcases aAd.mp (I.ab6 b z)with e|z
  .exact(xa b B).2.1 e
  exact(xa b B).2.2.1 z
 have A:∀x c,X.env.cells.lookup x=some c->c<s.heap.objs.size+1:=λx c h=>by obtain⟨v,o,Q,_⟩:=I.cell x c h;exact aBw (aAg Q)
 have has:∀x,((relabel a X.env).names.lookup x=some .cell\/(relabel a X.env).names.lookup x=some .free)->∃c,(bZ X a s.heap.objs.size).lookup x=some c:=λx N=>by
  have:((bZ X a s.heap.objs.size).lookup x).isSome=true:=PySem.W.cellsFrom_some _ _ _ (by
   rcases jG N with h|h
   .obtain⟨c,hc⟩:=wP (env:=X.env) a.names [] (x:=x) (.inl h);exact .inr (by rw[hc];rfl)
   exact .inl h)
  exact aFp.mp this
 refine⟨⟨I.ok.mod,S.kind,I.ok.glob,I.ok.blt,aAl _,kZ a.names _ _ (λx c h=>A x c (J x c h)) (λx y c h1 C=>I.ok.inj x y c (J x c h1) (J y c C)),has,λx c hf h=>aCM (pU a.names _ _ (PySem.mem_of_lookup<|eq_of_beq hf) h),I.ok.hd,I.ok.frames,.inl rfl,
  λb B=>⟨aAm (ah b B),λx c h=>(cc x c h).elim (λh=>(xa b B).2.2.2.2.1 x c (J x c h)) λ⟨_,C⟩ z=>absurd (aAw (ah b B)<|aCM C) (by rw[z];exact aBr _)⟩,I.bs,aAp I.ok.bsz I.sz,λb o e=>l b o e,nfs,I.stack,I.ad6⟩,rfl,I.bare,Un.kept g,⟨_,zb,λi x v e1 E L=>?_⟩,λx c h=>?_,I.hok.fresh (aAl _),λx c h=>(cc x c h).elim (λh=>I.freeC x c (J x c h)) λ⟨_,C⟩=>I.hok.fresh (aCM C),λp hp=>?_,I.hok.kept g,?_⟩
 .
  have hlen:(own++fr).length=(U7 own js σ).length:=by simp[U7,S.len]
  unfold U7 at E;by_cases hi:i<own.length
  .rw[aBb (by simpa using hi),aBA,hV hi]at E;cases E
  have cg:own.length<=i:=aEq hi;rw[aAA (by simpa using cg),aCs,aAG]at E;have T:(own++fr)[i]?=some x:=e1;rw[aAA cg]at T;cases e:js[i-own.length]? with
  |none=>rw[e]at E;cases E
  |some j=>
   rw[e]at E;have q:σ.getD j none=some v:=Option.some.inj E;obtain⟨hN,ju⟩:=S.at_ (i-own.length) j x e T;have hσ:σ[j]?=some (some v):=by
    rw[aAo]at q;cases e4:σ[j]? with
    |none=>rw[e4]at q;cases q
    |some z=>rw[e4]at q;exact ip some q
   have O:=S.free (x,.free) ju rfl;have U:zI X.env.scope x:=.inr O;obtain⟨m,hn,hl⟩:=I.loc;obtain⟨u,r,lk⟩:=hl j x v hN hσ U;refine⟨u,r,?_⟩;rcases lk with⟨jt,_⟩|⟨_,c,hc,il⟩
   .rcases O with O|O<;>(rw[jt]at O;cases O)
   right;obtain⟨c',Y⟩:=wP (env:=X.env) a.names [] (x:=x) (.inl ju);have:=J x c' Y;rw[hc]at this;cases this;refine⟨?_,c,(qV a.names _ _<|S.apart (x,.free) ju rfl).trans Y,?_⟩
   .rcases L with L|L|L
    .
     have hq:(relabel a X.env).names.lookup x=some .local:=L;exfalso;have:∀f:List (Str×ek),(f.map λ(n,k)=>if(k==NameKind.free&&X.env.scope.kind==.function&&X.env.kindOf n==some .cell)then(n,aCc)else(n,k)).lookup x=some .local->f.lookup x=some .local:=by
      intro f;induction f with
      |nil=>intro h;cases h
      |cons y r ih=>
       obtain⟨n,k⟩:=y;intro h;rw[aAk]at h;dsimp only at h;by_cases N:x=n
       .subst N;by_cases t:(k==NameKind.free&&X.env.scope.kind==.function&&X.env.kindOf x==some .cell)=true
        .rw[hV t,aBN]at h;cases h
        rw[h9 t,aBN]at h;rw[aBN];exact h
       rw[aBh,beq_eq_false_iff_ne.mpr N];by_cases t:(k==NameKind.free&&X.env.scope.kind==.function&&X.env.kindOf n==some .cell)=true
       .rw[hV t,aBh,beq_eq_false_iff_ne.mpr N]at h;exact ih h
       rw[h9 t,aBh,beq_eq_false_iff_ne.mpr N]at h;exact ih h
     have C:=this a.names hq;rw[S.dis (x,.free) ju rfl]at C;cases C
    .exact .inl L
    exact .inr L
   obtain⟨o,Q,hd⟩:=il;exact⟨o,g c o Q,hd⟩
 .rcases cc x c h with h|⟨h,_⟩
  .obtain⟨v,o,Q,hd⟩:=I.cell x c (J x c h);exact⟨v,o,g c o Q,hd⟩
  exact⟨_,h⟩
 .have hp':p∈X.pn++pins:=by simpa[DD]using hp
  obtain⟨e,n,ne,nf,d⟩:=I.pin p hp';refine⟨g _ _ e,n,aAm (aAg e),λz=>?_,d⟩;rcases aAd.mp (I.ab6 p.1 z)with e'|z'
  .exact ne e'
  exact nf z'
 simp[U7,DD,S.len]
def o7(G:D->Ev->R Ev)(ft:Ev->R Bool)(fe:Ev->R D)(ρ:Ev):List D->R (List D)
 |[]=>.ok []
 |d::e=>match G d ρ with
  |.ok a=>(ft a).bind λb=>if b=true then(fe a).bind λr=>(o7 G ft fe ρ e).bind λf=>.ok (r::f)else o7 G ft fe ρ e
  |_=>.bad
def nG(ρ1 ρ:Ev):Prop:=ρ1.length=ρ.length/\∀(i:Nat) (a:Sl),ρ[i]?=some a->a≠.no->ρ1[i]?=some a
def EnvOk.weak{K:iu}{b H:Hp}{d O:bc->Prop}{σ:St}{ρ1 ρ:Ev}(E:EnvOk K b d H O σ ρ1)(h:nG ρ1 ρ):EnvOk K b d H O σ ρ where
 len:=E.len.trans h.1
 same:=E.same
 sub:=E.sub
 trk:=E.trk
 trk0:=E.trk0
 tab:=E.tab
 slot:=λi f e=>by
  by_cases n:f=.no
  .subst n;trivial
  exact E.slot i f (h.2 i _ e n)
 inj:=λi j x y a l m g k=>E.inj i j x y a (h.2 i _ l (by rintro rfl;exact g)) (h.2 j _ m (by rintro rfl;exact k)) g k
def U4(H:Hp)(a:bc):Hp:=λb=>if b=a then none else H b
def DO(H:Hp)(a:bc):U4 H a a=none:=hV rfl
def S9(h:b≠a):U4 H a b=H b:=h9 h
def JM(h:H a=some o):upd (U4 H a) a o=H:=by
 funext b
 unfold upd U4;by_cases d:b=a
 .subst d;rw[hV rfl,h]
 rw[h9 d,h9 d]
def EnvOk.ae3{K:iu}{d H:Hp}{e O:bc->Prop}{σ:St}{ρ:Ev}{a:bc}{L:List V}(E:EnvOk K d e H O σ ρ)(h:H a=none)(f:K.lookup a=none):EnvOk K d e (upd H a (.lst L)) (λb=>O b\/b=a) σ ρ:=E.ab7 h f trivial
def Rep.hidden{K:iu}{H:Hp}{O:bc->Prop}{a:bc}{L:List V}{v:V}{d:D}(h:H a=some (.lst L))(r:Rep K H (λb=>O b\/b=a) v d):Rep K (U4 H a) O v d:=by
 refine r.mono (λb Y q=>?_) (λb Y n q=>⟨λz=>n (.inl z),?_⟩) λb φ n q=>⟨λz=>n (.inl z),by rw[S9 λz=>n (.inr z)];exact q⟩
 .rcases q with(q|⟨o,q⟩)|q
  .exact .inl (.inl (by rw[S9 (by rintro rfl;rw[h]at q;cases q)];exact q))
  .exact .inl (.inr ⟨o,by rw[S9 (by rintro rfl;rw[h]at q;cases q)];exact q⟩)
  exact .inr q
 have e:b≠a:=λz=>n (.inr z);rcases q with(q|⟨o,q⟩)|q
 .exact .inl (.inl (by rw[S9 e];exact q))
 .exact .inl (.inr ⟨o,by rw[S9 e];exact q⟩)
 exact .inr q
def W7(h:H a=none)(s:Same (upd H a (.lst L)) H'):Same H (U4 H' a):=λb o q=>by
 have d:b≠a:=by rintro rfl;rw[h]at q;cases q
 rw[S9 d];exact s b o (by rw[l6 d];exact q)
def ItC(K:iu)(J:It)(H:Hp)(O:bc->Prop)(ds:List D):Prop:=∀b e,Same H b->Kp H O b e->X7 K e->(∀a,O a->∃o,H a=some o/\Mt o)->(∀a,e a->∃o,b a=some o/\Mt o)->∀i:Nat,
 (∀d,ds[i]?=some d->J.go i b/\∀x f,J.yld i b x f->Same b f/\Rep K f e x d)/\(ds[i]?=none->J.stop i b)
def ZH.c{K:iu}(h:ZH K J H O ds):ItC K J H O ds:=λa b _=>h a b
def tIc(X:Cx)(f:Ev->R (List D)):TI:=λσ H R=>∃b d O ρ,EnvOk X.K b d H O σ ρ/\X7 X.K O/\match f ρ with
 |.ok g=>∀J a,Same H a->ItC X.K J a O g->R J a
 |.ex e=>∀a,Same H a->XW X e a
 |.bad=>False
def PIC(X:Cx)(a y8:cu)(f:Ev->R (List D)):Prop:=PI X a y8 (tIc X f)
def pic(h:WV X a y8 f):PIC X a y8 f:=FE h λσ H R ⟨b,d,O,ρ,E,k,q⟩=>⟨b,d,O,ρ,E,k,by
 cases e:f ρ with
 |ok i=>rw[e]at q;exactλJ g s h=>q J g s h.c
 |ex x=>rw[e]at q;exact q
 |bad=>rw[e]at q;exact q⟩
section
def UM(X:Cx)(b:List cu)(ft:Ev->R Bool):Prop:=
 ∀(a:P4) (s:ba) (σ:St) (H:Hp) (Q:Bool->Hp->Prop),Inv X a σ H s->tDT X ft σ H Q->
  a9 (be X.prog X.w) X.A (forIn b true λc r=>if r=true then do let ok<-isTrue c X.env (dm c X.env);pure (aCr ok)else pure (aCr r)) (TP X a σ Q) X.xe s
def IR:UM X [] (λ_=>.ok true):=by rintro a s σ H Q I ⟨b,d,O,ρ,E,q⟩;exact wpAny_tests_nil ⟨H,I,q H (Same.refl _)⟩
def VF(h:yR X c ft):UM X [c] ft:=λa s σ H Q I q=>wpAny_tests_one (h a s σ H Q I q)
def qY{tg elt y8:cu}{ifs:List cu}{scope:gW}{own fr:List Str}{js:List Nat}{G:D->Ev->R Ev}{ft:Ev->R Bool}{fe:Ev->R D}{pins:P4}{σ:St}{H:Hp}{s:ba}{H9:Hp}{O0 O:bc->Prop}{ρ:Ev}
  {it:bc}{U:List bc}{tn:Nat->cq->Prop}{J:It}{ds rs:List D}{RR:au->bc->Result->ba->Prop}{EE:F8} (hc:X.calm=true) (S:CompSc X scope own fr js)
  (hX:∀t:Cx,(∃s9 Ha C,t=DD X pins s9 Ha (own++fr) scope (bZ X scope C) C U)->LJ t tg G/\UM t ifs ft/\PD t elt fe)
  (hG:∀d ρ1,G d (i5 own js ρ)=.ok ρ1->nG ρ1 (i5 own js ρ))
  (I:Inv X pins σ H s) (T:Turn X.prog X.w X.K tg J U it tn) (st:tn 0 s.heap) (xa:∀b∈U,sF X pins H b) (E:EnvOk X.K H9 O0 H O σ ρ) (hJ:ItC X.K J H O ds) (hrs:o7 G ft fe (i5 own js ρ) ds=.ok rs) (hlen:ds.length<=sizeLine)
  (fin:∀B C s' H' m,s'.heap.Ns C m->C≠B->s.heap.objs.size<=C->s.heap.objs.size<=B->Same H H'->Rep X.K H' O (.ref B) (.lst rs)->(∃H1 L,Same H H1/\H1 B=none/\H'=upd H1 B (.lst L)/\Reps X.K H1 O L rs)->H' C=none->(∀h',Heap.SameBut C s'.heap h'->Inv X pins σ H' {s' with heap:=h'})->RR (.ref B) C (.ok .next) s'):
  a9 (be X.prog X.w) X.A (newList []) (λB sa=>a9 (be X.prog X.w) X.A (newFunctionEnv scope X.env.globals (MH X.env scope.names []) [] X.env.qual none .none (some X.env)) (λcenv se=>gm (be X.prog X.w) X.A (.compStart (.ListComp elt [⟨tg,y8,ifs,0⟩] scope pos) 0 (.ref it) B {cenv with scope:=relabel scope X.env}) (RR B cenv.locals) se) EE sa) EE s:=by
 have hO:=nM I O E.trk;refine aBJ ?_;have hfr:H s.heap.objs.size=none:=I.hok.fresh (aAl _);have hkl:X.K.lookup s.heap.objs.size=none:=by
  cases e:X.K.lookup s.heap.objs.size with
  |none=>rfl
  |some o=>exact absurd (aAg<|I.kIn _ o e) (aBr _)
 have I1:Inv X pins σ (upd H s.heap.objs.size<|.lst []) {s with heap:=s.heap.push {cls:=.type "list",dict:=none,data:=.seq ([]:List au).toArray}}:=
  I.laid (t':=s.toks) (λb u e=>aAc _ e) (aAl _) ⟨aAY _,[],0,.nil,aAr _ rfl⟩
 generalize df:s.heap.objs.size=B at*
 generalize zc:({s with heap:=s.heap.push {cls:=.type "list",dict:=none,data:=.seq ([]:List au).toArray}}:ba)=s1 at I1⊢;have sz1:s1.heap.objs.size=B+1:=by rw[<-zc,<-df];exact aBL _ _
 have keep1:∀b o,s.heap.get? b=some o->s1.heap.get? b=some o:=λb o e=>by rw[<-zc];exact aAc _ e
 have xb:∀b∈U,b<B:=λb g=>by obtain⟨o,e,_⟩:=T.obj 0 _ st b g;rw[<-df];exact aAg e
 have hfp1:∀b∈U,sF X pins (upd H B<|.lst []) b:=λb g=>by obtain⟨f0,f⟩:=xa b g;exact⟨by rw[l6 (aAm<|xb b g)];exact f0,f⟩
 refine KJ ?_;obtain⟨N,e8⟩:∃N,pushCells (s1.heap.push {cls:=.type "dict",data:=.dict #[]}) scope.names=N:=⟨_,rfl⟩;rw[e8];have keep2:∀b o,s1.heap.get? b=some o->N.get? b=some o:=λb o e=>by rw[<-e8];exact aEF _ _ _ _ (aAc _ e)
 have IB:=KU (tk:=s1.toks) I1 S hfp1 (λb g=>by rw[sz1];exact aBw (xb b g)) e8.symm;generalize hC:s1.heap.objs.size=C at*
 obtain⟨hG',hT',hE'⟩:=hX _ ⟨s1,upd H B (.lst []),C,rfl⟩;generalize oo:DD X pins s1 (upd H B<|.lst []) (own++fr) scope (bZ X scope C) C U=t at IB hG' hT' hE';have eP:t.prog=X.prog:=by rw[<-oo];rfl
 have eW:t.w=X.w:=by rw[<-oo];rfl
 have eK:t.K=X.K:=by rw[<-oo];rfl
 have eA:t.A=X.A:=by rw[<-oo];rfl
 have eC:t.calm=true:=by rw[<-oo];exact hc
 have eX:t.xe=λ_ _=>False:=by rw[<-oo];rfl
 have eE:t.env=compEnvC scope (bZ X scope C) C X.env:=by rw[<-oo];rfl
 have eX0:t.ex=U:=by rw[<-oo];rfl
 have ePn:t.pn=X.pn++pins:=by rw[<-oo];rfl
 have eFs:t.fs=yV X.stack:=by rw[<-oo];rfl
 have eS0:t.s9=s1:=by rw[<-oo];rfl
 have eH0:t.H9=upd H B (.lst []):=by rw[<-oo];rfl
 have eL:t.env.locals=C:=by rw[eE];rfl
 have eCe:t.env.cells=bZ X scope C:=by rw[eE];rfl
 have I2of:=IB;have cell_ne:∀b∈U,∀x c,t.env.cells.lookup x=some c->c≠b:=λb g x c h=>(I2of.ok.exf b (by rw[eX0];exact g)).2 x c h;have accC:B≠C:=by rw[sz1];exact aAm (aDQ _)
 have fpC:∀b∈U,b≠C:=λb g=>by have h1:=xb b g;rw[sz1];exact aAm (aBw h1)
 have fpB:∀{H':Hp},(∀b∈U,H' b=none)->∀b∈U,sF t [] H' b:=λ{H'} hn b g=>by
  obtain⟨f0,f1,f2,f3,f4,f5⟩:=xa b g;refine⟨hn b g,by rw[eL];exact fpC b g,?_,.inl (by rw[eX0];exact g),λx c h=>cell_ne b g x c h,λp hp=>f5 p (by rw[ePn,aCb]at hp;exact hp)⟩;rw[eFs];intro z;rcases aAd.mp (I.ab6 b z)with e|z
  .exact f1 e
  exact f2 z
 have ZS:tn 0 N:=T.keep 0 s.heap N st λb g o e=>keep2 b o (keep1 b o e)
 let Iv:Nat->ba->Prop:=λn s'=>∃i af Q L rd,n=ds.length-i/\i<=ds.length/\Inv t [] af (upd Q B<|.lst L) s'/\Q B=none/\tn i s'.heap/\(∀b∈U,Q b=none)/\EnvOk X.K H9 O0 Q O af (i5 own js ρ)/\Same H Q/\
  Reps X.K Q O L rd/\(∃rest,o7 G ft fe (i5 own js ρ) (ds.drop i)=.ok rest/\rs=rd++rest)/\L.length<=i
 have loop:gm (be X.prog X.w) X.A (.compLoop (.ListComp elt [⟨tg,y8,ifs,0⟩] scope pos) 0 (.ref it) (.ref B) (compEnvC scope (bZ X scope C) C X.env)) (RR (.ref B) C) {s1 with heap:=N}:=by
  refine LP Iv ?_ ds.length ⟨0,_,H,[],[],by simp,aAY _,IB,hfr,ZS,λb g=>(xa b g).1,JU S.nd E,Same.refl H,.nil,⟨rs,by rw[aGj];exact hrs,rfl⟩,aAY _⟩;rintro n s2 ⟨i,wc,Q,L,rd,rfl,hi,I2,yf,kr,fx2,E2,yg,r2,⟨rest,l,xc⟩,hvl⟩;have fr2:∀b∈U,(upd Q B<|.lst L) b=none:=λb g=>by rw[l6 (aAm<|xb b g)];exact fx2 b g
  have sU:=j9 yf (.lst L);have hit:=hJ (upd Q B<|.lst L) (λb=>O b\/b=B) (yg.trans sU) (λb o q n=>⟨sU b o (yg b o q),λz=>z.elim n λz=>by subst z;rw[hfr]at q;cases q⟩) (λa o q z=>z.elim (hO a o q) λz=>by subst z;rw[hkl]at q;cases q) E.trk
   (λa z=>(E2.ae3 (L:=L) yf hkl).trk a z) i
  by_cases ah:i<ds.length
  .obtain⟨go,yl⟩:=hit.1 ds[i] (aAi ah);rw[aDL ah,o7]at l;have pf:=T.item t eP eW eK eC i [] s2 wc _ (λ_ _=>False) I2 (fpB fr2) kr go;rw[eA]at pf;refine F5 pf λr s3 z9=>?_;obtain⟨u,hr,h3⟩:=z9;subst hr;refine F5 h3 λ_ s4 z9=>?_;obtain⟨x,H4,I4,ru,y4,st4,fr4⟩:=z9;obtain⟨sm4,rep4⟩:=yl x H4 y4;cases e1:G ds[i] (i5 own js ρ)with
   |ex z=>rw[e1]at l;cases l
   |bad=>rw[e1]at l;cases l
   |ok ρ1=>
    rw[e1]at l;dsimp only at l;have EB:EnvOk X.K H9 O0 H4 (λb=>O b\/b=B) wc (i5 own js ρ):=(E2.ae3 yf hkl).grow sm4;have I4':=I4.pinned (fpB fr4) (T.obj _ _ st4);have again:∀{s7:ba}{qd:St}{y:Hp}{vs7:List V}{rd7:List D}{rest7:List D},Inv t ([]++qP U s4.heap) qd y s7->y B=some (.lst vs7)->EnvOk X.K H9 O0 (U4 y B) O qd (i5 own js ρ)->Same H (U4 y B)->Reps X.K (U4 y B) O vs7 rd7->
      o7 G ft fe (i5 own js ρ) (ds.drop<|i+1)=.ok rest7->rs=rd7++rest7->vs7.length<=i+1->∃m,m<ds.length-i/\Iv m s7:=λ{s7 qd y vs7 rd7 rest7} I7 h7 E7 sm7 r7 hr7 hrs7 hv7=>by
     refine⟨ds.length-(i+1),by omega,i+1,qd,U4 y B,vs7,rd7,rfl,ah,?_,DO _ _,T.keep _ _ _ st4 λb g o e=>(I7.pin (b,o)<|aAN _<|aAN _<|bB g e).1,λb g=>?_,E7,sm7,r7,⟨rest7,hr7,hrs7⟩,hv7⟩
     .rw[JM h7];exact I7.ab4
     rw[S9 (aAm<|xb b g)];obtain⟨o,e,d⟩:=T.obj _ _ st4 b g;exact(I7.pin (b,o)<|aAN _<|aAN _<|bB g e).2.1
    have hasg:=hG' _ s4 wc H4 x u (λY H5=>Same H4 H5/\EnvOk X.K H9 O0 H5 (λb=>O b\/b=B) Y ρ1) I4' ru ⟨H9,O0,_,_,ds[i],ρ1,by rw[eK];exact EB,by rw[eK];exact rep4,e1,λY H5 s5 E5=>⟨s5,by rw[eK]at E5;exact E5⟩⟩;rw[eP,eW,eA,eE,eX]at hasg;refine F5 hasg λ_ s5 z9=>?_;obtain⟨Y,H5,I5,sm5,E5⟩:=z9;have hacc5:H5 B=some (.lst L):=sm5 B _ (sm4 B _ j2);cases e2:ft ρ1 with
    |ex z=>rw[e2]at l;cases l
    |bad=>rw[e2]at l;cases l
    |ok b=>
     rw[e2,R.aa0]at l;have htst:=hT' _ s5 Y H5 (λc H6=>c=b/\Same H5 H6) I5 ⟨H9,O0,_,ρ1,by rw[eK];exact E5,by rw[e2];exactλH6 s6=>⟨rfl,s6⟩⟩;rw[eP,eW,eA,eE,eX]at htst;refine F5 htst λok s6 z9=>?_;obtain⟨H6,I6,g,sm6⟩:=z9;subst g;have sm46:Same (upd Q B<|.lst L) H6:=sm4.trans (sm5.trans sm6);have hacc6:H6 B=some (.lst L):=sm6 B _ hacc5;have smx6:Same Q (U4 H6 B):=W7 yf sm46;have W1:nG ρ1 (i5 own js ρ):=hG _ _ e1;have Eb:∀{y:Hp},Same H5 y->EnvOk X.K H9 O0 (U4 y B) O Y (i5 own js ρ):=λ{y} s7=>by
      have E7:=(E5.grow s7).weak W1;have h7:y B=some (.lst L):=s7 B _ hacc5;refine⟨E7.len,E2.same.trans (W7 yf<|sm4.trans<|sm5.trans s7),E2.sub,λa z=>?_,E2.trk0,E2.tab.same (W7 yf<|sm4.trans<|sm5.trans s7),λj sl e=>?_,E7.inj⟩
      .obtain⟨o,q,mt⟩:=E2.trk a z;exact⟨o,W7 yf (sm4.trans<|sm5.trans s7) a o q,mt⟩
      rcases X3 e with rfl|⟨_,⟨d,rfl⟩|⟨k,rfl⟩,_⟩
      .trivial
      .obtain⟨v,h1,h2⟩:=E7.val j d e;exact⟨v,h1,Rep.hidden h7 h2⟩
      obtain⟨b,o,es,h1,g,h3,h4,h5,h6,h8⟩:=E7.slot j _ e;have nb:b≠B:=by rintro rfl;rw[h7]at h4;cases h4
      exact⟨b,o,es,h1,g.resolve_right nb,h3,by rw[S9 nb];exact h4,h5,h6.mono (Rep.hidden h7),h8⟩
     cases ok with
     |false=>rw[h9 aAU]at l⊢;exact again I6 hacc6 (Eb sm6) (yg.trans smx6) (r2.same smx6) l xc (Nat.le_succ_of_le hvl)
     |true=>
      rw[hV rfl]at l⊢;cases e3:fe ρ1 with
      |ex z=>rw[e3]at l;cases l
      |bad=>rw[e3]at l;cases l
      |ok dv=>
       rw[e3,R.aa0]at l;cases e4:o7 G ft fe (i5 own js ρ) (ds.drop<|i+1)with
       |ex z=>rw[e4]at l;cases l
       |bad=>rw[e4]at l;cases l
       |ok rest'=>
        rw[e4,R.aa0]at l;have qm:dv::rest'=rest:=R.ok.inj l;have helt:=hE' _ s6 Y H6 (λv y=>Same H6 y/\Rep X.K y (λb=>O b\/b=B) v dv) I6 ⟨H9,O0,_,ρ1,by rw[eK];exact E5.grow sm6,by rw[e3,RC];exactλv y s7 r7=>⟨s7,by rw[eK]at r7;exact r7⟩⟩;rw[eP,eW,eA,eE,eX]at helt;refine F5 helt λuv s7 z9=>?_;obtain⟨v,y,I7,ruv,sm7,r7⟩:=z9;have hacc7:y B=some (.lst L):=sm7 B _ hacc6;have happ:=tW (X:=t) _ s7 Y y (.ref B) [v] (.ref B) [uv] (λ_ H8=>H8=upd y B (.lst (L++[v]))) I7 rfl (.cons ruv .nil) ⟨B,L,v,rfl,rfl,hacc7,by omega,rfl⟩;rw[eP,eW,eA,eX]at happ;refine F5 happ λ_ s8 z9=>?_;obtain⟨_,H8,I8,_,h8⟩:=z9;subst h8;have hh:U4 (upd y B<|.lst (L++[v])) B=U4 y B:=by
         funext b
         unfold U4 upd;by_cases g:b=B
         .rw[hV g,hV g]
         rw[h9 g,h9 g,h9 g]
        have smx7:Same Q (U4 y B):=W7 yf (sm46.trans sm7);refine again (vs7:=L++[v]) (rd7:=rd++[dv]) (rest7:=rest') I8 j2 (by rw[hh];exact Eb (sm6.trans sm7)) (by rw[hh];exact yg.trans smx7) ?_ e4 (by rw[xc,<-qm,aFq];rfl) (by rw[aAz];exact Nat.succ_le_succ hvl);rw[hh];exact(r2.same smx7).snoc (Rep.hidden hacc7 r7)
  have cg:i=ds.length:=by omega
  subst cg;have hstop:=hit.2 (by simp);have pf:=T.done t eP eW eK eC ds.length [] s2 wc _ (λ_ _=>False) I2 (fpB fr2) kr hstop;rw[eA]at pf;refine F5 pf λr s3 z9=>?_;obtain⟨hr,I3⟩:=z9;subst hr;rw[List.drop_length,o7]at l;have qm:([]:List D)=rest:=R.ok.inj l;rw[<-qm,aCb]at xc;obtain⟨m,hm,_⟩:=id I3.loc;rw[eL]at hm;have hfin:Same H (upd Q B<|.lst L):=yg.trans sU;refine fin B C s3 (upd Q B<|.lst L) m hm (aBY accC) (by omega) (aAl _) hfin ?_ ⟨Q,L,yg,yf,rfl,by rw[xc];exact r2⟩ (by rw[<-eL];exact I3.free) (λh' jo=>?_)
  .rw[xc];exact .lst (P7.of j2) (E2.fresh yf) (r2.same sU)
  have hU:Un (yV X.stack) U (upd H B<|.lst []) (upd Q B<|.lst L) s1.heap s3.heap:=by have:=I3.base;rw[eFs,eX0,eH0,eS0]at this;exact this
  have hCn:∀b o,s1.heap.get? b=some o->b≠C:=λb o e=>by have:=aAg e;rw[hC]at this;exact aAm this
  have hU':Un (yV X.stack) U (upd H B<|.lst []) (upd Q B<|.lst L) s1.heap h':=⟨λb o e n g hx=>(jo.2 b (hCn b o e)).trans (hU.keep b o e n g hx),λb o e n g hx=>by
    obtain⟨sl,q⟩:=hU.slot b o e n g hx;exact⟨sl,(jo.2 b (hCn b o e)).trans q⟩,hU.free,λb o e hx=>by
    obtain⟨o',q⟩:=hU.there b o e hx;exact⟨o',(jo.2 b (hCn b o e)).trans q⟩,hU.tups,hU.frzs,hU.tbls⟩
  have hCf:upd Q B (.lst L) C=none:=by rw[<-eL];exact I3.free
  have zd:fT X.prog X.w (upd Q B<|.lst L) h':=λb u e=>by
   have g:b≠C:=by rintro rfl;rw[hCf]at e;cases e
   have:=I3.hok b u e;rw[eP,eW]at this;refine this.ac2 (λc v hc q=>(jo.2 c ?_).trans q) (λ_ q=>q) λ_ _ _ q=>q;rcases hc with z|z
   .rw[z];exact g
   rintro rfl;rw[hCf]at z;cases z
  have hos:s3.os=s1.os:=by have:=I3.os;rw[eS0]at this;exact this
  exact I1.af8 (s':={s3 with heap:=h'}) (ch:=U) hos hU' zd I3.bare λb g=>by obtain⟨f0,f1,f2,f3,f4,f5⟩:=xa b g;exact⟨f3,f1,f4,f5⟩
 exact codeAny_compStart_list loop (T.self _ 0 _ _ _ ZS loop)
def TV(own L:List Str)(g:List Nat)(hc:X.calm=true)(S:CompSc X b own L g)(hi:PIC X N y8 U)(hX:∀(a:P4) (k:List bc) (i:Cx),(∃s9 Ha C,i=DD X a s9 Ha (own++L) b (bZ X b C) C k)->LJ i N G/\UM i l ft/\PD i n fe)(hG:∀ρ d ρ1,G d (i5 own g ρ)=.ok ρ1->nG ρ1 (i5 own g ρ))(hs:∀x,d7 y8 X.env x=pure x:=by intro _;rfl):
  PD X (.ListComp n [⟨N,y8,l,0⟩] b pos) (λρ=>(U ρ).bind λds=>if ds.length<=sizeLine then(o7 G ft fe (i5 own g ρ) ds).bind λf=>.ok (.lst f)else .bad):=by
 refine tY λa s σ H Q I H9 O0 O ρ E q=>?_;dsimp only at q;rw[eval_ListComp];refine aDW (use:=none) rfl hs (Y8<|Inv.ab1 I S) S.kind S.names ?_;refine F5 (hi a s σ H (λJ o=>∃ds f,Same H o/\ItC X.K J o O ds/\ds.length<=sizeLine/\o7 G ft fe (i5 own g ρ) ds=.ok f/\∀v h,Same H h->Rep X.K h O v (.lst f)->Q v h) I ⟨H9,O0,O,ρ,E,nM I O E.trk,?_⟩) λv Y h1=>F5 h1 λitv s2 h2=>?_
 .cases p:U ρ with
  |ex x=>rw[p]at q;exact q
  |bad=>rw[p]at q;exact q
  |ok ds=>
   rw[p,R.aa0]at q;intro J o Y t;split at q
   .rename_i u;cases j:o7 G ft fe (i5 own g ρ) ds with
    |ex x=>rw[j]at q;exact(q H<|Same.refl _).elim
    |bad=>rw[j]at q;exact q.elim
    |ok f=>rw[j]at q;exact⟨ds,f,Y,t,u,j,q⟩
   exact q.elim
 obtain⟨it,k,tn,J,H2,e,I2,T,kr,f2,ds,f,sm,t,u,y,q⟩:=h2;subst e;refine qY (RR:=λB C=>compPost (be X.prog X.w) X.A X.xe none (EP X a σ Q) B C) hc S (hX a k) (hG ρ) I2 T kr f2 (E.grow sm) t y u ?_;intro B C s' h m hn _ _ _ z r _ _ hI;exact⟨m,hn,λh' jo=>⟨.ref B,h,hI h' jo,rfl,q _ h (sm.trans z) r⟩⟩
def R4(own g:List Str)(b:List Nat)(k:X.calm=true)(S:CompSc X a own g b)(l:WV X j y8 m)(n:∀(e:P4) (o:List bc) (f:Cx),(∃p q C,f=DD X e p q (own++g) a (bZ X a C) C o)->LJ f j G/\UM f h ft/\PD f i fe)(r:∀ρ d ρ1,G d (i5 own b ρ)=.ok ρ1->nG ρ1 (i5 own b ρ))(s:∀x,d7 y8 X.env x=pure x:=by intro _;rfl):
 PD X (.ListComp i [⟨j,y8,h,0⟩] a t) (λρ=>(m ρ).bind λds=>if ds.length<=sizeLine then(o7 G ft fe (i5 own b ρ) ds).bind λu=>.ok (.lst u)else .bad):=TV own g b k S (pic l) n r s
end
def _root_.L2.ObjOk.live(x:ObjOk P w H h a o):h.get? a≠none:=by
 intro z;have b:∀{u:Obj},h.get? a=some u->False:=λq=>by rw[z]at q;cases q
 cases o with
 |lst Y=>obtain⟨_,_,_,_,e⟩:=x;exact b e
 |tup Y=>obtain⟨_,_,_,o,e,_⟩:=x;exact b e
 |dK N=>obtain⟨_,_,_,_,o,_,_,e,_⟩:=x;exact b e
 |dT N=>obtain⟨_,_,_,_,o,_,_,e,_⟩:=x;exact b e
 |set S n=>obtain⟨o,_,_,_,e,_⟩:=x;exact b e
 |ins C d fs=>obtain⟨_,_,_,e,_⟩:=x;exact b e
 |own y=>obtain⟨_,e⟩:=x;exact b e
 |xd fs=>obtain⟨_,⟨_,_,_,e,_⟩,_⟩:=x;exact b e
 |rng lo g=>obtain⟨_,_,_,e⟩:=x;exact b e
 |frz i u=>obtain⟨e,_⟩:=x;exact b e
 |tbl j=>obtain⟨_,e,_⟩:=x;exact b e
 |met f y=>exact b (show h.get? a=some _ from x)
 |ext φ=>obtain⟨_,⟨_,e⟩,_⟩:=x;exact b e
section
end
section
variable{P:bM}{w:cp}{K:iu}{mg:cM}{base:cq}
end
section
variable{X:Cx}{E:XK}{st:cv}{rest:List cv}{F:Ev->R Out}{G Ga Gb:Ev->Option au}{pos:Pos}
end
section
variable{K:iu}{h:cq}{C:bc}{bmB:List au}{newId:String}
end
section
variable{X:Cx}{E:XK}{pos ao np:Pos}{x:Str}{C:bc}{bmB:List au}{B newId initId:String}
end
end
end DL
namespace TS
open PySem PyProof.Rows HT
def tT(f:Bool)(x y:au):keyLt' (tupK f) x y=(do
 let Y<-aCR x;let a<-aCR y
 for ((p,q),i)in(Y.toList.zip a.toList).zipIdx do
  if !(<-eqBool p q)then return<-oneLt' (f&&i==0) p q
 return decide (Y.size<a.size)):=rfl
def RK:au->Sem (Option au):=sortPriv%PySem.Builtin.firstOfTuple?
def RF:Array au->Sem (Option au):=sortPriv%PySem.Builtin.oneTypeOnly
def LL(v:au):RK v=(do
 if(<-typeOf v) !=.type "tuple"then return none
 return (<-aCR v)[0]?):=rfl
def NZ(L:Array au):RF L=(do
 let a<-L.mapM typeOf
 match a[0]? with
 |some t=>return if a.all (· ==t)then some t else none
 |none=>return none):=rfl
def FJ(a:Array au):keyKind' a=(do
 let firsts<-a.mapM RK
 if firsts.all (·.isSome)then
  rule "list.sort.keys-are-tuples"
  return tupK ((<-RF (firsts.filterMap id)).any (· !=.type "tuple"))
 if(firsts[0]?.bind id).isSome then return general'
 return if(<-RF a).isSome then oneType' else general'):=rfl
section
def QB{Q:yJ}(f:Bool)(h:Q (decide (a<b)) s):a9 (be prog w) A (oneLt' f (.int a t) (.int b u)) Q E s:=by
 cases f with
 |true=>exact oneLt_int h
 |false=>rw[oneLt'_eq];simp only[aAv,if_false];exact aAa (zU A s a t b u prog w _ _<|aBu h)
def lt_ints(f:Bool){Q:yJ}(hl:IsTup s.heap l items)(hb:IsTup s.heap b r)(Y:IntsAre items.toList ns)(hj:IntsAre r.toList N)(h:Q (HT.lexLt ns N) s):a9 (be prog w) A (keyLt' (tupK f) (.ref l) (.ref b)) Q E s:=by
 obtain⟨o,ho,hc,n,hd⟩:=hl;obtain⟨o2,ku,jv,n2,O⟩:=hb;have z1:items.size=ns.length:=by rw[<-Y.length];simp
 have z2:r.size=N.length:=by rw[<-hj.length];simp
 rw[tT];refine aAa (aEm ho hd<|aAa<|aEm ku O ?_);refine aAa (aCA _ (λrest b m=>b.1=none/\m=s/\∃(k:Nat) (L I:List au) (v B:List Int),rest=(L.zip I).zipIdx k/\IntsAre L v/\IntsAre I B/\v.length+r.size=B.length+items.size/\Q (HT.lexLt v B) s)
  (λb m=>m=s/\(∀c,b.1=some c->Q c s)/\(b.1=none->Q (decide (items.size<r.size)) s)) ?turn ?fin _ _ ⟨rfl,rfl,0,items.toList,r.toList,ns,N,rfl,Y,hj,by lia,h⟩|>λz=>aCL z ?post λ_ _ e=>e)
 case post=>
  rintro⟨b1,b2⟩ m ⟨rfl,q1,q2⟩;cases b1 with
  |none=>exact aAb (q2 rfl)
  |some c=>exact aAb (q1 c rfl)
 case fin=>
  rintro⟨b1,b2⟩ m ⟨ji,rfl,k,L,I,v,B,j,T,J,d,g⟩;refine⟨rfl,λc e=>(by rw[ji]at e;cases e),λ_=>?_⟩;cases T with
  |nil=>
   cases J with
   |nil=>rw[aF]at g;simp only[aBf]at d;rw[decide_eq_false (by lia)];exact g
   |cons c u hw=>rw[O7]at g;simp only[aBf,aAq]at d;rw[decide_eq_true (by lia)];exact g
  |cons a t hv=>
   cases J with
   |nil=>rw[D6]at g;simp only[aBf,aAq]at d;rw[decide_eq_false (by lia)];exact g
   |cons c u hw=>rw[aBZ,aEr]at j;cases j
 case turn=>
  rintro⟨⟨y,x⟩,i⟩ rest b m ⟨ji,rfl,k,L,I,v,B,j,T,J,d,g⟩;cases T with
  |nil=>rw[List.zip_nil_left,aEG]at j;cases j
  |cons a t C=>
   cases J with
   |nil=>rw[List.zip_nil_right,aEG]at j;cases j
   |cons c u H=>
    rw[aBZ,aEr]at j;injection j with p ae;injection p with p U;injection p with hy hx;subst hy hx U;rw[J4]at g;simp only[aAq]at d;obtain⟨e,he,wm⟩:=BF A m a t c u;refine aAa (he prog w _ _ ?_);cases e with
    |true=>rw[hV (wm.mp rfl)]at g;exact aAb ⟨rfl,rfl,_,_,_,_,_,ae,C,H,by lia,g⟩
    |false=>rw[h9 (λq=>absurd (wm.mpr q) aAU)]at g;exact aAa (QB _ (aAb ⟨rfl,λc e=>(by cases e;exact g),λe=>(by cases e)⟩))
end
section
theorem HJ{α β:Type}{M:Model}{f:α->Sem β}(g:α->β):∀(Y:List α) {Q:List β->ba->Prop},(∀x∈Y,∀{Q:β->ba->Prop},Q (g x) s->a9 M A (f x) Q E s)->Q (Y.map g) s->a9 M A (Y.mapM f) Q E s
 |[],Q,_,q=>by rw[List.mapM_nil];exact aAb q
 |x::Y,Q,h,q=>by rw[List.mapM_cons];exact aAa (h x (.head _) (aAa (HJ g Y (λy a=>h y (.tail _ a)) (aAb q))))
def HK{α β:Type}{M:Model}{f:α->Sem β}(g:α->β)(Y:List α){Q:Array β->ba->Prop}(h:∀x∈Y,∀{Q:β->ba->Prop},Q (g x) s->a9 M A (f x) Q E s)(q:Q (Y.map g).toArray s):a9 M A (Y.toArray.mapM f) Q E s:=by rw[List.mapM_toArray];show a9 M A (List.toArray<$>Y.mapM f) Q E s;rw[map_eq_pure_bind];exact aAa (HJ g Y h<|aAb q)
def kind_tuples{L:List au}{f:Bool}{T:String}{Q:SortKind->ba->Prop}(b:au->au)(h:∀x∈L,∃a items,x=.ref a/\IsTup s.heap a items/\items[0]?=some (b x)/\s.TypeIs (b x) T)(i:L≠[])(j:f=(aCw T !=aCw "tuple"))
  (q:Q (tupK f) s):a9 (be prog w) A (keyKind' L.toArray) Q E s:=by
 rw[FJ];refine aAa (HK (λx=>some (b x)) L (λx d {Q} e=>?_) ?_)
 .obtain⟨a,items,rfl,⟨o,g,k,n,l⟩,m,_⟩:=h x d;rw[LL];refine aAa (aDV (T:= "tuple") ⟨o,g,k⟩ ?_);rw[h9 (by simp)];refine aAa (aEm g l ?_);rw[m];exact aAb e
 have p:((L.map λx=>some (b x)).toArray.all λx=>x.isSome)=true:=by simp
 have r:(L.map λx=>some (b x)).toArray.filterMap id=(L.map b).toArray:=by
  rw[List.filterMap_toArray,aDp];congr 1;induction L with
  |nil=>rfl
  |cons v L B=>simp
 simp only[p,if_true,r];refine aAa (aDA ?_);refine aAa ?_;rw[NZ];refine aAa (HK (λ_=>aCw T) (L.map b) (λx d {Q} e=>?_) ?_)
 .obtain⟨y,t,rfl⟩:=aAj.mp d;obtain⟨_,_,_,_,_,u⟩:=h y t;exact aDV u e
 cases L with
 |nil=>exact absurd rfl i
 |cons v L=>
  simp only[aAk,aBd];have z:((aCw T::aDr ((λ_=>aCw T)∘b) L).toArray.all λx=>x==aCw T)=true:=by simp
  simp only[aCV,aCE,z,if_true];refine aAb (aAb ?_);rw[j]at q;exact q
end
theorem lex_irrefl:∀a:List Int,HT.lexLt a a=false
 |[]=>rfl
 |x::Y=>by rw[J4,hV rfl];exact lex_irrefl Y
theorem lex_total:∀a b:List Int,HT.lexLt a b=false->HT.lexLt b a=false->a=b
 |[],[],_,_=>rfl
 |[],_::_,h,_=>by rw[O7]at h;cases h
 |_::_,[],_,h=>by rw[O7]at h;cases h
 |x::Y,y::g,d,f=>by
  rw[J4]at d f;by_cases e:x=y
  .subst e;rw[hV rfl]at d f;rw[lex_total Y g d f]
  rw[h9 e]at d;rw[h9 (aBY e)]at f;have:=of_decide_eq_false d;have:=of_decide_eq_false f;omega
theorem lex_trans:∀a b c:List Int,HT.lexLt a b=true->HT.lexLt b c=true->HT.lexLt a c=true
 |[],[],_,h,_=>by rw[aF]at h;cases h
 |[],_::_,[],_,h=>by rw[D6]at h;cases h
 |[],_::_,_::_,_,_=>rfl
 |_::_,[],_,h,_=>by rw[D6]at h;cases h
 |_::_,_::_,[],_,h=>by rw[D6]at h;cases h
 |x::Y,y::i,z::j,f,d=>by
  rw[J4]at f d⊢;by_cases e:x=y
  .subst e;rw[hV rfl]at f;by_cases g:x=z
   .subst g;rw[hV rfl]at d⊢;exact lex_trans Y i j f d
   rw[h9 g]at d⊢;exact d
  rw[h9 e]at f;have k:=of_decide_eq_true f;by_cases g:y=z
  .subst g;rw[h9 e];exact f
  rw[h9 g]at d;have l:=of_decide_eq_true d;rw[h9 (by omega)];exact decide_eq_true (by omega)
theorem GS:∀a b c:List Int,HT.lexLt a c=true->HT.lexLt a b=true\/HT.lexLt b c=true
 |[],[],_,h=>.inr h
 |[],_::_,_,_=>.inl rfl
 |_::_,_,[],h=>by rw[D6]at h;cases h
 |_::_,[],_::_,_=>.inr rfl
 |x::Y,y::f,z::g,h=>by
  rw[J4]at h;rw[J4,J4];by_cases e:x=y
  .subst e;rw[hV rfl];by_cases d:x=z
   .subst d;rw[hV rfl]at h⊢;exact GS Y f g h
   rw[h9 d]at h⊢;exact .inr h
  rw[h9 e];by_cases l:x<y
  .exact .inl (decide_eq_true l)
  refine .inr ?_;by_cases d:x=z
  .subst d;rw[h9 (aBY e)];exact decide_eq_true (by omega)
  rw[h9 d]at h;have:=of_decide_eq_true h;rw[h9 (by omega)];exact decide_eq_true (by omega)
open Classical in
def kV(L:List au) (key:au->List Int):KeyKind where
 α:=List Int
 blt:=HT.lexLt
 irrefl:=lex_irrefl
 trans:=lex_trans
 negTrans:=GS
 total:=lex_total
 keyOf:=λv=>if v∈L then some (key v)else none
 dflt:=[]
open Classical in
def ZC(h:v∈L):(kV L key).keyOf v=some (key v):=hV h
open Classical in
def ZV(e:(kV L key).keyOf v=some l):v∈L/\key v=l:=by
 have a:(if v∈L then some (key v)else none)=some l:=e;split at a
 .rename_i h;cases a;exact⟨h,rfl⟩
 cases a
def qH(L:List au):(pairsOf L).toList=L.map λv=>(v,v):=by
 unfold pairsOf;rw[List.zip_toArray];show L.zip L=_;induction L with
 |nil=>rfl
 |cons v L a=>rw[aBZ,aAk,a]
section
def IV{a:bc}{L:List au}{n:Nat}{f:Bool}{key:au->List Int}{P:Fin->ba->Prop}(I:s.heap.get? a=some (seqObj "list" L.toArray n))
  (J:∀d,Bar a s d->∀x∈L,∀y∈L,∀(prog:bM) (w:cp) (E:F8) {Q:yJ},Q (HT.lexLt (key x) (key y)) d->a9 (be prog w) A (keyLt' (tupK f) x y) Q E d)
  (N:2<=L.length->∀d,Bar a s d->∀{Q:SortKind->ba->Prop},Q (tupK f) d->a9 (be prog w) A (keyKind' L.toArray) Q E d) (m:L.length<64)
  (h:∀o:List au,o.Perm L->o.Pairwise (λx y=>HT.lexLt (key y) (key x)=false)->P (.done (.ret .none)) {s with heap:=sortedHeap s.heap a L o.toArray}):
  a9 (be prog w) A (Builtin.«list.sort» ⟨[.ref a],[]⟩) P E s:=by
 refine AH (κ:=kV L key) (f:=f) I (λp g=>?_) (λd r prog w E x y k l Q O T q=>?_) (λU d r {Q} q=>N U d r q) m λb e Y=>?_
 .rw[qH]at g;obtain⟨v,t,rfl⟩:=aAj.mp g;exact⟨key v,ZC t⟩
 .obtain⟨m1,u⟩:=ZV O;obtain⟨m2,z⟩:=ZV T;subst u z;exact J d r x m1 y m2 prog w E q
 have B:(arrOf b).toList.Perm (L.map λv=>(v,v)):=by rw[<-qH];exact aEQ.mp e
 have same:∀p∈(arrOf b).toList,p.1=p.2/\p.2∈L:=λp g=>by obtain⟨v,t,rfl⟩:=aAj.mp (B.mem_iff.mp g);exact⟨rfl,t⟩
 have ea:(arrOf b).map (·.2)=((arrOf b).toList.map (·.2)).toArray:=by apply Array.ext';simp
 rw[ea];refine h _ ?_ ?_
 .have:=B.map (·.2);rw[aBd,show((λx:au×au=>x.2)∘λv=>(v,v))=id from rfl,List.map_id]at this;exact this
 rw[aCo];intro i j hi hj jr;have cg:i<(arrOf b).size:=by simpa using hi
 have C:j<(arrOf b).size:=by simpa using hj
 have gu:(arrOf b).size=(pairsOf L).size:=e.size_eq;have q:=Y i j (aDw jr) (by rw[<-gu];exact C);have kk:∀k (H:k<(arrOf b).size),KK (kV L key) (arrOf b) k=key (arrOf b)[k].2:=λk H=>by unfold KK;rw[getElem?_pos _ k H];obtain⟨u,z⟩:=same (arrOf b)[k] (by simp);show((kV L key).keyOf (arrOf b)[k].1).getD _=_;rw[u,ZC z];rfl
 rw[kk i cg,kk j C]at q;rw[aCT,aCT,aGe,aGe];exact q
def sorted_keys{x:au}{L:List au}{f:Bool}{key:au->List Int}{Q:F8}{C:ba->Prop}(u:∀{p:List au->ba->Prop},(∀s',C s'->p L s')->a9 (be prog w) A.in1 (collect x) p E s)
  (v:∀s',C s'->∀a,(∀b o,s'.heap.get? b=some o->a.heap.get? b=some o)->∀x∈L,∀y∈L,∀(prog:bM) (w:cp) (r:cf) (E:F8) (O:r.units<=A.units+5) {Q:yJ},Q (HT.lexLt (key x) (key y)) a->a9 (be prog w) r (keyLt' (tupK f) x y) Q E a)
  (z:2<=L.length->∀s',C s'->∀a,(∀b o,s'.heap.get? b=some o->a.heap.get? b=some o)->∀(A:cf) {Q:SortKind->ba->Prop},Q (tupK f) a->a9 (be prog w) A (keyKind' L.toArray) Q E a) (j:L.length<64)
  (h:∀(s':ba) (g:List au) (h':cq) (l:bc),C s'->g.Perm L->g.Pairwise (λx y=>HT.lexLt (key y) (key x)=false)->(∀b o,s'.heap.get? b=some o->h'.get? b=some o)->s'.heap.objs.size<=l->(∃n,h'.get? l=some (seqObj "list" g.toArray n))->Q (.ref l) {s' with heap:=h'}):
  a9 (be prog w) A (call (.builtin "sorted") [x]) Q E s:=by
 refine Calls.call_function_entry kind_sorted plain_sorted entry_sorted (args_sorted1 _) ?_;unfold Builtin.«sorted»;refine aAa (m:=checkCount "sorted" 1 1 _) (aAb ?_);refine aAa (u λs' k=>?_);refine aAa (wpAny_newList ?_);have d:(s'.heap.push<|seqObj "list" L.toArray 0).get? s'.heap.objs.size=some (seqObj "list" L.toArray 0):=aAr _ rfl;have t:∀a,Bar s'.heap.objs.size {s' with heap:=s'.heap.push (seqObj "list" L.toArray 0)} a->∀b o,s'.heap.get? b=some o->a.heap.get? b=some o:=λa i b o e=>i b o (aAm<|aAg e) (aAc _ e);refine aAa (aAW (aBD slot_list_sort ⟨_,d,rfl⟩ entry_list_sort (IV (key:=key) (f:=f) d (λa i x B y H prog w E {Q} q=>v s' k a (t a i) x B y H prog w _ E (by simp) q) (λI a i {Q} q=>z I s' k a (t a i) _ q) j λg J N=>⟨_,rfl,?_⟩)<|args_list_sort _));refine aAb ⟨_,rfl,h s' g _ _ k J N (λb o e=>?_) (aAl _) (sortedHeap_at d)⟩;rw[sortedHeap_old (aAm<|aAg e) (by rw[aBL];exact aBw (aAg e))];exact aAc _ e
end
end TS
namespace DL
open PySem PySem.Spec L2
open PyProof.Rows hiding St
variable [Tabs]
omit [Tabs]in
def yA{ns:List Int}(h:PySem.W.WData.layableAll [PySem.W.WData.list (ns.map PySem.W.WData.int)]=true):∀x∈ns,aBe x<=1048576:=λx a=>by
 have b:=(PySem.W.layW_cons h).1;have d:=PySem.W.layableW_item b (.int x) (aAj.mpr ⟨x,a,rfl⟩);have e:=PySem.W.lay0_int d;have f:PyData.layable0 (.int x)=true:=by simpa[PyData.layableAll0]using e
 exact PyData.bits_of_layable f
def A2(P:bM)(w:cp)(K:iu)(mg:cM)(base:cq)(k:Nat)(x:Str)(n:Nat)(m:List D->R D):Prop:=
 ∃g a b,FnOk P w K mg base uI k g a b (spD K n m)/\Binds K a b []/\PySem.W.keepIn K (.ref g)=true/\mg x=some (.ref g)
def DR(f:Ev->R (List D))(n:Nat):Prop:=∀ρ a,f ρ=.ok a->a.length=n
def N3:DR S7 0:=λρ a h=>by cases h;rfl
def v7(h:DR g n):DR (l9 f g) (n+1):=λρ j e=>by
 unfold l9 at e;cases b:f ρ with
 |ok d=>
  rw[b,R.aa0]at e;cases a:g ρ with
  |ok i=>rw[a]at e;cases e;rw[aAq,h ρ i a]
  |ex x=>rw[a]at e;cases e
  |bad=>rw[a]at e;cases e
 |ex x=>rw[b]at e;cases e
 |bad=>rw[b]at e;cases e
section
def xG(c:A2 X.prog X.w X.K X.mg X.base k x n m)(d:Room k X.A)(h:MF X (e::es) f)(i:DR f n)(j:Gl X x:=by rfl)(l:(x==ix)=false:=by decide)(o:bb (e::es) X.env=(false,dm e X.env)::bb es X.env:=by rfl)(q:(cy a (bb es X.env)).any (·.1)=false:=by rfl):
  PD X (.Call (.Name x p) (e::es) [] a) (λρ=>(f ρ).bind m):=by
 obtain⟨g,s,t,F,b,r,em⟩:=c;exact WW F d em r b h i j l o q
end
def zj{P:bM}{w:cp}{K:iu}{mg:cM}{base:cq}{x qual:Str}{st:cv}{f:bc}{fd:dA}{N ps:List Str}{k:Nat}{m:List D->R D}{F:Ev->R Out}(b:Fun K x qual st f fd)(S:FnScope N ps (c6 st))(e:Binds K fd ps [])(g:mg x=some (.ref f))
  (h:∀(C:au) (A:cf) (a:List Env) (s:ba) (H:Hp) (E:XK),Room k (A.deeper (envOfC qual (c6 st) s.heap.objs.size f C))->bU (UQ P w K mg base N qual (c6 st) f C A a s H E) (p9 st) F)
  (i:∀ds d,ds.length=ps.length->m ds=.ok d->N9 (F (l4 N ds))=.ok d):A2 P w K mg base (k+1) x ps.length m:=
 ⟨f,fd,ps,fnD b S h i,e,b.kp,g⟩
def o9:∀d ρ1,(R.ok ((i5 [x] a ρ).set 0 (Sl.v d)):R Ev)=.ok ρ1->nG ρ1 (i5 [x] a ρ):=λd ρ1 h=>by
 cases h;refine⟨by simp,λi e h b=>?_⟩;cases i with
 |zero=>exact absurd (by simpa[i5]using h.symm) b
 |succ i=>rw[aCC (by lia)];exact h
def SA(sc:gW)(N:List Str)(a:gW)(d:List Str)(b:List Nat):Bool:=
 decide (a.kind=.function)&&a.names.all (λy=>decide (y.2=.free->(y.1,aCc)∉a.names))&&a.names.all (λy=>decide (y.2=.local->a.names.lookup y.1=some .local))&&
 a.names.all (λy=>decide (y.2=.free->sc.names.lookup y.1=some .cell\/sc.names.lookup y.1=some .free))&&decide (b.length=d.length)&&(b.zip d).all (λp=>decide (N[p.1]?=some p.2/\(p.2,NameKind.free)∈a.names))&&decide b.Nodup&&
 a.names.all (λy=>decide (y.2=.free->a.names.lookup y.1=some .free))
def J0(b:X.env.scope=sc:=by rfl)(d:X.N=N:=by rfl)(h:SA sc N a e f=true:=by decide+kernel):CompSc X a own e f:=by simp only[SA,aAQ,aCj,decide_eq_true_eq]at h;obtain⟨⟨⟨⟨⟨⟨⟨g,k⟩,l⟩,m⟩,n⟩,o⟩,p⟩,q⟩:=h;subst b d;refine⟨g,k,l,m,n,λi j x r s=>?_,p,q⟩;refine o (j,x) (aAx (i:=i) ?_);rw[aBH];exact⟨r,s⟩
def EM(σ:List (Nat×D))(h:∀p∈σ,p.1<Y.length):nG (σ.foldl (λr p=>r.set p.1 (Sl.v p.2)) (i5 Y a ρ)) (i5 Y a ρ):=by
 have f:∀(σ:List (Nat×D)) (r:Ev),(∀p∈σ,p.1<Y.length)->r.length=(i5 Y a ρ).length->(∀i,Y.length<=i->r[i]?=(i5 Y a ρ)[i]?)->
   (σ.foldl (λr p=>r.set p.1 (Sl.v p.2)) r).length=(i5 Y a ρ).length/\∀i,Y.length<=i->(σ.foldl (λr p=>r.set p.1 (Sl.v p.2)) r)[i]?=(i5 Y a ρ)[i]?:=by
  intro σ;induction σ with
  |nil=>intro r _ b d;exact⟨b,d⟩
  |cons p σ l=>intro r g b d;refine l _ (λq m=>g q (aAe _ m)) (by rw[aFW];exact b) λi k=>?_;have:=g p aBn;rw[aCC (by lia)];exact d i k
 obtain⟨b,d⟩:=f σ _ h rfl λ_ _=>rfl;refine⟨b,λi n e o=>?_⟩;by_cases k:i<Y.length
 .have:n=.no:=by
   rcases X3 e with z|⟨j,_,s,_⟩
   .exact z
   lia
  exact absurd this o
 rw[d i (by lia)];exact e
def MR:∀d ρ1,fV 2 (P9 (λd ρ=>.ok (ρ.set 0 (.v d))) (P9 (λd ρ=>.ok (ρ.set 1 (.v d))) mY)) d (i5 [x,y] e ρ)=.ok ρ1->nG ρ1 (i5 [x,y] e ρ):=λd ρ1 h=>by
 have f:∀g:List D,g.length=2->P9 (λd ρ=>.ok (ρ.set 0<|.v d)) (P9 (λd ρ=>.ok (ρ.set 1<|.v d)) mY) g (i5 [x,y] e ρ)=.ok ρ1->nG ρ1 (i5 [x,y] e ρ)
  |[a,b],_,h=>by cases h;exact EM (Y:=[x,y]) [(0,a),(1,b)] (by simp)
 unfold fV at h;split at h
 .split at h
  .exact f _ ‹_› h
  cases h
 .split at h
  .exact f _ ‹_› h
  cases h
 cases h
end DL
namespace DL.Att2
open PySem PySem.W PySem.Calls PyProof.Rows
def attach_bits{l:OpenLaw}{n:Nat}{q:bM}{b:List Str}{u:(Str->Option au)->cq->Prop}{v:cp->cq->Prop}{d:DefRec}
  (B:l.most=some n) (m:d.params.defaults=[])
  (call:∀(w:cp) (p e:ba) (mg s:cM) (fa:bc) (o:Obj) (t cd h:au) (a:bc) (L:List au) (ns:List Int),
   Ground q b [] u w p mg s e.heap->v w e.heap->
   e.heap.get? fa=some o->o.data=.func (docDef d.name d.params d.body d.scope t cd h)->e.heap.CodeRec cd d.name->mg d.name=some (.ref fa)->
   e.heap.get? a=some {cls:=.type "list",data:=.seq L.toArray}->IntsAre L ns->ns.length<=n->(∀x∈ns,aBe x<=1048576)->e.gens=#[]->
   gm (be l.prog w) callerA (.call (.ref fa) ⟨[.ref a],[]⟩) (λr s'=>r=.ok (.ret (.bool true))/\OldK e.heap s'.heap/\s'.os=e.os/\AllBare s'.gens) e):
  WalkO q b u v l.row.toRowW d [] (λf L=>PySem.call f L):=by
 intro w p e mg s G Y fa o t cd h C kV E H I y J N z A as O g Q T U;obtain rfl:C=.none:=Dflts.none y m;obtain rfl:kV=.none:=Dflts.noKw y;obtain⟨a,L,ns,rfl,rfl,j,i,k⟩:=Att.script_of B O T;have hb:=DL.yA (ns:=ns) (by first|exact g|exact g.1|(simpa using g));refine enter_call (aDU (call w p e mg s fa o t cd h a L ns G Y E (fd_plain H) I J j i k hb N) λr s' hq=>?_);obtain⟨rfl,h2,h3,h4⟩:=hq;exact⟨.inl ⟨.bool true,.bool true,[],rfl,λ_=>rfl,.bool true,Att.post_true l _,λ_=>⟨aGw,λ_ hm=>(nomatch hm)⟩⟩,h2,h3,h4⟩
end DL.Att2
namespace DL
open PySem PySem.Spec L2
open PyProof.Rows hiding St
variable [Tabs]
end DL
namespace DL
open PySem L2
abbrev bits(a:Int):Nat:=aBe a
def t9(h:D8 a b):MB (.int a) (.int b)=.ok (.int (a*b)):=hV h
def uB(h:BE b):S6 (.int a) (.int b)=.ok (.int (a.fdiv b)):=hV h
def AB(h:b≠0):oV (.int a) (.int b)=.ok (.int (a.fmod b)):=hV h
def D8.of(d:bits a<=m)(e:bits b<=n)(f:m<=60000000:=by decide)(g:n<=60000000:=by decide):D8 a b:=⟨aAp d f,aAp e g⟩
def bits_add(d:bits a<=n)(e:bits b<=n):bits (a+b)<=n+1:=by have:=PyProof.Rows.bits_add d e;rw[Nat.max_self]at this;exact this
def bits_sub(d:bits a<=n)(e:bits b<=n):bits (a-b)<=n+1:=by have:=PyProof.Rows.bits_sub d e;rw[Nat.max_self]at this;exact this
def bits_mul(d:bits a<=m)(e:bits b<=n):bits (a*b)<=m+n:=PyProof.Rows.bits_mul d e
def bits_neg(b:bits a<=m):bits (-a)<=m:=PyProof.Rows.bits_neg b
def HB(h:a.natAbs<2^n):bits a<=n:=PyProof.Rows.intBits_le h
def GJ(h:bits a<=n):a.natAbs<2^n:=PyProof.Rows.lt_pow_of_bits h (aAl n)
@[simp]def W5(d:D)(ρ:Ev):eG 0 (Sl.v d::ρ)=.ok d:=rfl
@[simp]def aU(i:Nat)(x:Sl)(ρ:Ev):eG (i+1) (x::ρ)=eG i ρ:=rfl
@[simp]def eU(d:D)(ρ:Ev):AZ 0 (Sl.v d::ρ)=.ok d:=rfl
@[simp]def CG(d:List D)(ρ:Ev):AZ 0 (Sl.o d::ρ)=.ok (.lst d):=rfl
@[simp]def cF(i:Nat)(x:Sl)(ρ:Ev):AZ (i+1) (x::ρ)=AZ i ρ:=rfl
@[simp]def W8(d:D)(ρ:Ev):ZQ d ρ=.ok d:=rfl
@[simp]def D4(ρ:Ev)(F:Ev->R Out):D1 (.ok (.nx ρ)) F=F ρ:=rfl
@[simp]def a0p(d:D)(F:Ev->R Out):D1 (.ok (.rt d)) F=.ok (.rt d):=rfl
@[simp]def a3c(d:D):N9 (.ok (.rt d))=.ok d:=rfl
@[simp]def a3h(ρ:Ev):N9 (.ok (.nx ρ))=.ok .non:=rfl
@[simp]def J2(f:Ev->R D)(g:Ev->R (List D))(ρ:Ev):l9 f g ρ=(f ρ).bind λd=>(g ρ).bind λds=>.ok (d::ds):=rfl
@[simp]def P3(ρ:Ev):S7 ρ=.ok []:=rfl
@[simp]def a6i(a:D):nK [a]=.ok (.tup [a]):=rfl
@[simp]def a6l(a b:D):nK [a,b]=.ok (.tup [a,b]):=rfl
@[simp]def a0h(a b c:D):nK [a,b,c]=.ok (.tup [a,b,c]):=rfl
@[simp]def a6j(a b c d:D):nK [a,b,c,d]=.ok (.tup [a,b,c,d]):=rfl
@[simp]def a1s(a:D):KD [a]=.ok (.lst [a]):=rfl
@[simp]def a6k(a b:D):KD [a,b]=.ok (.lst [a,b]):=rfl
@[simp]def a5v(x y z:D):bJ (.tup [x,y,z]) (.int 0)=.ok x:=rfl
@[simp]def a6m(x y z:D):bJ (.tup [x,y,z]) (.int 1)=.ok y:=rfl
@[simp]def a5w(x y z:D):bJ (.tup [x,y,z]) (.int 2)=.ok z:=rfl
@[simp]def a5t(x y:D):bJ (.tup [x,y]) (.int 0)=.ok x:=rfl
@[simp]def a6b(x y:D):bJ (.tup [x,y]) (.int 1)=.ok y:=rfl
def cH(h:rP Y i=some d):bJ (.lst Y) (.int i)=.ok d:=by simp only[bJ,h]
def SR{Y:List D}{i:Int}{d:D}(h:rP Y i=some d):bJ (.tup Y) (.int i)=.ok d:=by simp only[bJ,h]
@[simp]def oA(a b:Int):lR (.int a) (.int b)=.ok (.int (a+b)):=rfl
@[simp]def IL(a b:Int):OB (.int a) (.int b)=.ok (.int (a-b)):=rfl
@[simp]def TM(a b:Int):ltR (.int a) (.int b)=.ok (.bl (decide (a<b))):=rfl
@[simp]def EF(a b:Int):leR (.int a) (.int b)=.ok (.bl (decide (a<=b))):=rfl
@[simp]def lF(a b:Int):aj (.int a) (.int b)=.ok (.bl (decide (b<a))):=rfl
@[simp]def a5i(a:Int):a1t (.int a)=.ok (.int (-a)):=rfl
@[simp]def tH(b:Bool):BS (.bl b)=.ok b:=rfl
@[simp]def a0k(b:Int):toI (.int b)=.ok (some b):=rfl
@[simp]def EC(Y:List D):IT [.lst Y]=.ok (.int Y.length):=rfl
@[simp]def wj(a:Int):a0o [.int a]=.ok (.int (if a<0 then-a else a)):=rfl
@[simp]def VB(a b:Int):QR [.int a,.int b]=.ok (.int (if b>a then b else a)):=rfl
@[simp]def wI(f g:Ev->R Bool)(ρ:Ev):DM f g ρ=(f ρ).bind λb=>if b=true then g ρ else .ok false:=rfl
@[simp]def a4e(f g:Ev->R Bool)(ρ:Ev):orB f g ρ=(f ρ).bind λb=>if b=true then .ok true else g ρ:=rfl
@[simp]def a3j(f:Ev->R Bool)(ρ:Ev):XY f ρ=(f ρ).bind λb=>.ok (!b):=rfl
@[simp]def a3g(f g:Ev->R D)(ρ:Ev):a0s f g ρ=((f ρ).bind BS).bind λb=>if b=true then g ρ else .ok (.bl false):=rfl
@[simp]def xH(a b:Int):UR (.int a) (.int b)=.ok (.bl (a==b)):=by simp only[UR,G2,v5];rfl
@[simp]def lw(a b:Int):MC (.int a) (.int b)=.ok (.bl (!(a==b))):=by simp only[MC,G2,v5];rfl
@[simp]def jx(a b c d e f:Int):UR (.tup [.int a,.int b,.int c]) (.tup [.int d,.int e,.int f])=.ok (.bl (a==d&&(b==e&&c==f))):=by simp[UR,G2,B1,v5,Z4]
@[simp]def CA(a b c d e f:Int):MC (.tup [.int a,.int b,.int c]) (.tup [.int d,.int e,.int f])=.ok (.bl (!(a==d&&(b==e&&c==f)))):=by simp[MC,G2,B1,v5,Z4]
def Z2{α:Type}{Y:List α}{k:Int}(h0:0<=k):rP Y k=Y[k.toNat]?:=by
 unfold rP MD;rw[hV h0];by_cases h:k<Y.length
 .rw[hV h];rfl
 rw[h9 h,aCq.mpr (by omega)];rfl
def gD(n:Nat)(Y:List D):Prop:=∀x∈Y,∃i,x=.int i/\bits i<=n
def VH{n:Nat}{ns:List Int}(h:∀x∈ns,bits x<=n):gD n (ns.map D.int):=λx a=>by obtain⟨i,b,rfl⟩:=aAj.mp a;exact⟨i,rfl,h i b⟩
def xT(g:Int->Int)(Y:List D)(k:Int):D:=match Y[k.toNat]? with
 |some d=>d
 |none=>.int (g k)
def SO:D->Bool
 |.int _=>true
 |_=>false
def j8(b:-((2:Int)^n)<a)(d:a<(2:Int)^n):bits a<=n:=HB (by
 have e:((2^n:Nat):Int)=(2:Int)^n:=by simp
 omega)
def bits_fmod{a b:Int}{n:Nat}(h0:b≠0)(d:bits b<=n):bits (a.fmod b)<=n:=PyProof.Rows.bits_fmod_by h0 d
def bits_fdiv(d:bits a<=n):bits (a.fdiv b)<=n:=PyProof.Rows.bits_fdiv d
def f6(h:bits a<=m)(b:m<=n:=by decide):bits a<=n:=aAp h b
@[simp]def fP(Y:List D):iQ (.lst Y)=.ok Y:=rfl
@[simp]def JH(Y:List D):GP (.tup Y)=.ok Y:=rfl
@[simp]def ik(G:D->Ev->R Ev)(ft:Ev->R Bool)(fe:Ev->R D)(ρ:Ev):o7 G ft fe ρ []=.ok []:=rfl
@[simp]def uj(i:Nat)(ft:Ev->R Bool)(fe:Ev->R D)(ρ:Ev)(d:D)(ds:List D):o7 (λd ρ=>.ok (ρ.set i (Sl.v d))) ft fe ρ (d::ds)=(ft (ρ.set i (Sl.v d))).bind λb=>if b=true then(fe (ρ.set i (Sl.v d))).bind λr=>(o7 (λd ρ=>.ok (ρ.set i (Sl.v d))) ft fe ρ ds).bind λa=>.ok (r::a)else o7 (λd ρ=>.ok (ρ.set i (Sl.v d))) ft fe ρ ds:=rfl
@[simp]def a3q(d:D):seen (.v d)=.v d:=rfl
def a1u(x:D)(r:List D):bJ (.tup (x::r)) (.int 0)=.ok x:=SR (by rw[Z2 (by decide)];rfl)
def a2s(x y:D)(r:List D):bJ (.tup (x::y::r)) (.int 1)=.ok y:=SR (by rw[Z2 (by decide)];rfl)
def a2k(x y z:D)(r:List D):bJ (.tup (x::y::z::r)) (.int 2)=.ok z:=SR (by rw[Z2 (by decide)];rfl)
theorem gE(Iv:Nat->Ev->Prop)(b:∀n ρ,Iv (n+1) ρ->c ρ=.ok false\/(c ρ=.ok true/\∃ρ2,F ρ=.ok (.nx ρ2)/\Iv n ρ2))(a:∀ρ,¬Iv 0 ρ):∀n ρ,Iv n ρ->∃m ρ',T5 c F n ρ=.ok (.nx ρ')/\Iv m ρ'/\c ρ'=.ok false
 |0,ρ,h=>absurd h (a ρ)
 |n+1,ρ,h=>by
  rcases b n ρ h with e|⟨e,ρ2,d,f⟩
  .exact⟨n+1,ρ,by rw[T5,e];rfl,h,e⟩
  obtain⟨m,ρ',g,i,j⟩:=gE Iv b a n ρ2 f;exact⟨m,ρ',by rw[T5,e];simp only[R.aa0,if_true,d];exact g,i,j⟩
def LK{Iv:Nat->Ev->Prop}(b:∀n ρ,Iv (n+1) ρ->c ρ=.ok false\/(c ρ=.ok true/\∃ρ2,F ρ=.ok (.nx ρ2)/\Iv n ρ2))(h0:Iv n ρ)(f:∀n ρ',Iv n ρ'->c ρ'=.ok false->N9 (g ρ')=.ok d)(a:∀ρ,¬Iv 0 ρ:=by(intro ρ;rintro⟨x,y,_,z,_⟩;omega)):
  N9 (D1 (T5 c F n ρ) g)=.ok d:=by
 obtain⟨m,ρ',e,h,i⟩:=gE Iv b a n ρ h0;rw[e];exact f m ρ' h i
end DL
namespace DL
open PySem PySem.Spec L2
open PyProof.Rows hiding St
section
variable [Tabs]
section
variable{K:iu}
def EnvOk.ad3(E:EnvOk K e f H O σ ρ)(i:Nat)(h:H a=none)(d:K.lookup a=none)(r:Reps K H O L Y):
  EnvOk K e f (upd H a (.lst L)) (λb=>O b\/b=a) (σ.set i (some (.ref a))) (ρ.set i (.o Y)):=
 E.ad9 i h d trivial λg=>⟨a,L,rfl,.inr rfl,g,j2,r.ab7 h d⟩
def EnvOk.disown(E:EnvOk K f g H O σ ρ)(e:ρ[i]?=some (.o Y)):∃d,EnvOk K f g H d σ (ρ.set i (.v (.lst Y)))/\(∀b,d b->O b):=by obtain⟨a,L,h,l,m,j,k⟩:=E.own i Y e;exact⟨λb=>O b/\b≠a,E.ae7 e trivial h (λz=>z) ⟨.ref a,rfl,.lst (P7.of j) (λz=>z.2 rfl) (k.sub λ_ z=>z.1)⟩,λb z=>z.1⟩
def EnvOk.write(E:EnvOk K j k H O σ ρ)(e:ρ[i]?=some (.o Y))(b:σ[i]?=some (some (V.ref a)))(r:Reps K H O d l):
  EnvOk K j k (upd H a (.lst d)) O σ (ρ.set i (.o l))/\Kp H O (upd H a (.lst d)) O:=by
 obtain⟨f,L,m,g,n,h,q⟩:=E.own i Y e;have p:f=a:=by rw[m]at b;cases b;rfl
 subst p;exact E.ae5 e trivial b h trivial trivial λ_ _ _=>⟨f,d,rfl,g,n,j2,r.upd h trivial g⟩
end
section
def tF(X:Cx)(f:Ev->R (List D)):TE:=λσ H Q=>∃g h O ρ,EnvOk X.K g h H O σ ρ/\match f ρ with
 |.ok i=>∀L b a,Same H b->b a=none->Reps X.K b O L i->Q (.ref a) (upd b a<|.lst L)
 |.ex e=>∀d,Same H d->XW X e d
 |.bad=>False
def PF(X:Cx)(e:cu)(f:Ev->R (List D)):Prop:=PE X e (tF X f)
def GM(I:Inv X b σ H s)(h:H a=some o):X.K.lookup a=none:=by
 cases e:X.K.lookup a with
 |none=>rfl
 |some d=>have:=(I.bs a d<|I.ok.mod.kin a d e).2;rw[h]at this;cases this
def PF.pd(h:PF X e f):PD X e (λρ=>(f ρ).bind λds=>.ok (.lst ds)):=ME h λσ H Q i j O ρ E q=>⟨i,j,O,ρ,E,by
 dsimp only at q;cases b:f ρ with
 |ok ds=>rw[b]at q;intro L k a g d r;exact q _ _ (g.trans<|j9 d _) (.lst (P7.of j2) ((E.grow g).fresh d) (r.same<|j9 d _))
 |ex x=>rw[b]at q;exact q
 |bad=>rw[b]at q;exact q⟩
def dJ(h:MF X es f):PF X (.List es e) (λρ=>(f ρ).bind λds=>if ds.length<=sizeLine then .ok ds else .bad):=
 ME (OD h) λσ H Q g i O ρ E q=>⟨g,i,O,ρ,E,by
  dsimp only at q;cases a:f ρ with
  |ok ds=>
   rw[a,R.aa0]at q;intro L j k d;by_cases b:ds.length<=sizeLine
   .rw[hV b]at q;exact⟨by rw[d.length];exact b,λp l=>q L j p k l d⟩
   rw[h9 b]at q;exact aAf q
  |ex x=>rw[a]at q;exact q
  |bad=>rw[a]at q;exact q⟩
def Y3(i:Nat)(J:PF X e f)(Q:X.N.Nodup)(T:X.N[i]?=some x:=by rfl)(U:Loc X.env.scope x:=by first|exact aCD rfl|exact aBP rfl)(Y:eN e (some (.Name x g)) m.line X.env=pure false:=by rfl)(hf:X.fn x=true\/X.env.scope.names.lookup x=some .local:=by first|exact .inl rfl|exact .inr rfl|assumption):
  nN X (.Assign [.Name x g] e m) (λρ=>(f ρ).bind λds=>.ok (.nx (ρ.set i (.o ds)))):=by
 rintro u w h s σ H D I ⟨O,ρ,E,fk,q⟩;dsimp only at q;refine aEf (F5 (J h s σ H (λv A=>∃L d a ds,v=.ref a/\A=upd d a (.lst L)/\Same H d/\d a=none/\Reps X.K d O L ds/\RS X u w H O (.ok (.nx (ρ.set i<|.o ds))) D) I ⟨u,w,O,ρ,E,?_⟩) λv B z9=>?_) Y
 .cases j:f ρ with
  |ok ds=>rw[j,R.aa0]at q;exactλL d a B k r=>⟨L,d,a,ds,rfl,rfl,B,k,r,q⟩
  |ex x=>rw[j]at q;exactλH' s=>q H' (E.same.trans s)
  |bad=>rw[j]at q;exact q
 obtain⟨y,A,p,r2,L,d,a,ds,j,e2,l,k,r,q'⟩:=z9;subst j e2;refine M6 p Q T U r2 (λs3 I3=>⟨_,_,I3,?_⟩) hf;have hk:=GM p (j2 (H:=d) (a:=a) (o:=.lst L));have C:=(E.grow l).ad3 i k hk r;refine q' _ _ _ C (nM p _ C.trk) ?_;exactλb o t n=>⟨by rw[l6 (n4 (l b o t) k)];exact l b o t,λz=>z.elim n (n4 (l b o t) k)⟩
def gG(i:Nat)(ρ:Ev):Ev:=match ρ[i]? with
 |some (.o Y)=>ρ.set i (.v (.lst Y))
 |_=>ρ
def GN(i:Nat){st:cv}(h:nN X st F):nN X st (λρ=>F (gG i ρ)):=by
 intro g j f s σ H D I ⟨O,ρ,E,k,q⟩;dsimp only at q;unfold gG at q;cases e:ρ[i]? with
 |none=>rw[e]at q;exact h g j f s σ H D I ⟨O,ρ,E,k,q⟩
 |some l=>
  rw[e]at q;cases l with
  |x C=>exact h g j f s σ H D I ⟨O,ρ,E,k,q⟩
  |c m φ=>exact h g j f s σ H D I ⟨O,ρ,E,k,q⟩
  |d N=>exact h g j f s σ H D I ⟨O,ρ,E,k,q⟩
  |no=>exact h g j f s σ H D I ⟨O,ρ,E,k,q⟩
  |v d=>exact h g j f s σ H D I ⟨O,ρ,E,k,q⟩
  |o Y=>obtain⟨p,r,sub⟩:=E.disown e;exact h g j f s σ H D I ⟨p,_,r,λa o t z=>k a o t (sub a z),RS.grow q λb o u n=>⟨u,λz=>n (sub b z)⟩⟩
def BH(i:Nat)(ρ:Ev)(d:D):R Out:=match ρ[i]? with
 |some (.o Y)=>if Y.length<sizeLine then .ok (.nx (ρ.set i<|.o (Y++[d])))else .bad
 |_=>.bad
def Q6(i:Nat)(y:PD X e f)(z:X.N[i]?=some x:=by rfl)(A:zI X.env.scope x:=by first|exact aCD rfl|exact aBP (aCD rfl)|exact aBP (aBP rfl))(B:(x==ix)=false:=by decide)(I:(x==ka)=false:=by decide)(J:gk (.Name x p) "append" X.env (dm (.Name x p) X.env)=dm (.Name x p) X.env:=by rfl)(Q:((cy g (bb [e] X.env)).all (λx=>!x.1)&&(backToKw g (keywordEach [] X.env)).all (λx=>x.1.isSome)
   &&decide ([e].length+([]:List Keyword).length+(if([]:List Keyword).isEmpty then 0 else 1)<30))=true:=by rfl) (T:(b.endLine==g.line)=true:=by rfl) (r:bb [e] X.env=(false,dm e X.env)::bb [] X.env:=by rfl) (U:(cy g (bb [] X.env)).any (·.1)=false:=by rfl) (xf:eN (.Call (.Attribute (.Name x p) "append" b) [e] [] g) none l.line X.env=pure false:=by rfl):
  nN X (.Expr (.Call (.Attribute (.Name x p) "append" b) [e] [] g) l) (λρ=>(f ρ).bind (BH i ρ)):=λH9 O0=>
 BQ (nP (ZO PySem.F.plainAttrs_list PySem.F.slot_list_append PySem.F.type_list_append tW (O6 z A B I) (f9 y m6 r) J Q T r U) xf) λD σ H O ρ E fk q=>by
 cases j:f ρ with
 |ok d=>
  rw[j,R.aa0]at q;unfold BH at q;cases h:ρ[i]? with
  |none=>rw[h]at q;exact aAf q
  |some s=>
   rw[h]at q;cases s with
   |x C=>exact aAf q
   |c m φ=>exact aAf q
   |d N=>exact aAf q
   |no=>exact aAf q
   |v d=>exact aAf q
   |o Y=>
    dsimp only at q;split at q
    .rename_i hz;obtain⟨a,L,t,h2,h3,u,w⟩:=E.own i Y h;refine⟨_,t,.inl ⟨rfl,L,P7.of u⟩,H9,O0,O,ρ,E,?_⟩;show JR X H O ((f ρ).bind λd=>(R.ok []).bind λds=>.ok (d::ds)) _;rw[j];intro us H1 k n;cases n with
     |cons n rn=>cases rn;have E1:=E.grow k;refine⟨a,L,_,rfl,rfl,k _ _ u,by rw[w.length];exact hz,?_⟩;obtain⟨E2,k2⟩:=E1.write h t ((w.same k).snoc n);exact q σ _ O E2 fk ((Kp.of k).trans k2)
    exact aAf q
 |ex x=>
  rw[j]at q;cases h:ρ[i]? with
  |none=>exact(q H E.same).elim
  |some s=>exact(q H E.same).elim
 |bad=>rw[j]at q;exact aAf q
def gj(i:Nat)(ρ:Ev)(d:D):R Out:=match ρ[i]?,d with
 |some (.o Y),.lst a=>if Y.length+a.length<=sizeLine then .ok (.nx (ρ.set i<|.o (Y++a)))else .bad
 |_,_=>.bad
def CJ(i:Nat)(ρ:Ev):R (D×Ev):=match ρ[i]? with
 |some (.o Y)=>match Y[Y.length-1]? with
  |some d=>.ok (d,ρ.set i (.o Y.dropLast))
  |none=>.bad
 |_=>.bad
def UY(i:Nat)(n:X.N[i]?=some x:=by rfl)(r:zI X.env.scope x:=by first|exact aCD rfl|exact aBP (aCD rfl)|exact aBP (aBP rfl))(s:(x==ix)=false:=by decide)(t:(x==ka)=false:=by decide)(u:gk (.Name x p) "pop" X.env (dm (.Name x p) X.env)=dm (.Name x p) X.env:=by rfl)(w:(b.endLine==j.line)=true:=by rfl)(y:eN (.Call (.Attribute (.Name x p) "pop" b) [] [] j) none f.line X.env=pure false:=by rfl):
  nN X (.Expr (.Call (.Attribute (.Name x p) "pop" b) [] [] j) f) (λρ=>(CJ i ρ).bind λz=>.ok (.nx z.2)):=λT U=>
 BQ (nP (UA PySem.F.plainAttrs_list PySem.F.slot_list_pop PySem.F.type_list_pop ON (O6 n r s t) u w) y) λD σ H O ρ E A q=>by
 unfold CJ at q;cases e:ρ[i]? with
 |none=>rw[e]at q;exact aAf q
 |some B=>
  rw[e]at q;cases B with
  |x C=>exact aAf q
  |c m φ=>exact aAf q
  |d N=>exact aAf q
  |no=>exact aAf q
  |v d=>exact aAf q
  |o Y=>
   dsimp only at q;cases g:Y[Y.length-1]? with
   |none=>rw[g]at q;exact aAf q
   |some d=>rw[g]at q;obtain⟨a,L,k,h2,h3,l,h⟩:=E.own i Y e;obtain⟨v,I,g2⟩:=h.get g;refine⟨_,k,.inl ⟨rfl,L,P7.of l⟩,a,L,v,rfl,rfl,l,by rw[h.length];exact I,?_⟩;obtain⟨J,Q⟩:=E.write e k h.dropLast;exact q σ _ O J A Q
def CV(j i:Nat)(f:X.N.Nodup)(jr:i≠j:=by decide)(w:X.N[i]?=some x:=by rfl)(A:X.N[j]?=some y:=by rfl)(B:zI X.env.scope x:=by first|exact aCD rfl|exact aBP (aCD rfl)|exact aBP (aBP rfl))(I:(x==ix)=false:=by decide)(J:(x==ka)=false:=by decide)(Q:gk (.Name x p) "pop" X.env (dm (.Name x p) X.env)=dm (.Name x p) X.env:=by rfl)(T:(b.endLine==n.line)=true:=by rfl)(g:Loc X.env.scope y:=by first|exact aCD rfl|exact aBP rfl)(U:eN (.Call (.Attribute (.Name x p) "pop" b) [] [] n) (some (.Name y py)) h.line X.env=pure false:=by rfl)(hf:X.fn y=true\/X.env.scope.names.lookup y=some .local:=by first|exact .inl rfl|exact .inr rfl|assumption):
  nN X (.Assign [.Name y py] (.Call (.Attribute (.Name x p) "pop" b) [] [] n) h) (λρ=>(CJ i ρ).bind λz=>.ok (.nx (z.2.set j (.v z.1)))):=λH9 O0=>
 BQ (MY f A g (UA PySem.F.plainAttrs_list PySem.F.slot_list_pop PySem.F.type_list_pop ON (O6 w B I J) Q T) U hf) λD σ H O ρ E r q=>by
 unfold CJ at q;cases e:ρ[i]? with
 |none=>rw[e]at q;exact aAf q
 |some sl=>
  rw[e]at q;cases sl with
  |x C=>exact aAf q
  |c m φ=>exact aAf q
  |d N=>exact aAf q
  |no=>exact aAf q
  |v d=>exact aAf q
  |o Y=>
   dsimp only at q;cases k:Y[Y.length-1]? with
   |none=>rw[k]at q;exact aAf q
   |some d=>rw[k]at q;obtain⟨a,L,s,h2,h3,t,l⟩:=E.own i Y e;obtain⟨v,g1,g2⟩:=l.get k;refine⟨_,s,.inl ⟨rfl,L,P7.of t⟩,a,L,v,rfl,rfl,t,by rw[l.length];exact g1,?_⟩;obtain⟨E2,u⟩:=E.write e s l.dropLast;exact q _ _ O (E2.set j<|u.rep E.trk r g2) r u
def UW(i:Nat)(ρ:Ev)(k d:D):R Out:=match ρ[i]?,k with
 |some (.o Y),.int k=>match MD Y.length k with
  |some j=>.ok (.nx (ρ.set i<|.o (Y.set j d)))
  |none=>.bad
 |_,_=>.bad
def KN(i:Nat)(T:PD X e f)(U:PD X k g)(hN:X.N[i]?=some x:=by rfl)(hv:zI X.env.scope x:=by first|exact aCD rfl|exact aBP (aCD rfl)|exact aBP (aBP rfl))(hd:(x==ix)=false:=by decide)(dc:(x==ka)=false:=by decide)(ha:∀v,gn (.Subscript (.Name x p) k ps) X.env v=(do
   let h<-ff [v] (dm (.Name x p) X.env)
   let t<-ff [v,h] (dm k X.env)
   standAt ps
   ff [v,h,t] (setItem h t v)
   release [v,h,t] []):=by intro _;rfl) (hs:fm [.Subscript (.Name x p) k ps] e u.line X.env=pure false:=by rfl) (hw:fo [.Subscript (.Name x p) k ps] e X.env=pure none:=by rfl) (l:(dC [.Subscript (.Name x p) k ps] X.env).map (·.2)=[gn (.Subscript (.Name x p) k ps) X.env]:=by rfl):
  nN X (.Assign [.Subscript (.Name x p) k ps] e u) (λρ=>(f ρ).bind λd=>(g ρ).bind λw=>UW i ρ w d):=λB I=>
 BQ (DT T (OL (O6 hN hv hd dc) U SF ha) hs hw l) λD σ H O ρ E fk q=>⟨B,I,O,ρ,E,by
  cases y:f ρ with
  |ok d=>
   rw[y,R.aa0]at q;intro v H1 J r1;have z:=E.grow J;cases n:g ρ with
   |ok w=>
    rw[n,R.aa0]at q;unfold UW at q;cases r:ρ[i]? with
    |none=>rw[r]at q;exact aAf q
    |some sl=>
     rw[r]at q;cases sl with
     |x C=>exact aAf q
     |c m φ=>exact aAf q
     |d N=>exact aAf q
     |no=>exact aAf q
     |v d=>exact aAf q
     |o Y=>
      obtain⟨a,L,l,h2,h3,h4,Q⟩:=z.own i Y r;refine⟨_,l,B,I,O,ρ,z,?_⟩;rw[n];intro kv H2 b r2;have E2:=z.grow b;cases w with
      |int kk=>
       dsimp only at q;cases A:MD Y.length kk with
       |none=>rw[A]at q;exact aAf q
       |some j=>rw[A]at q;cases r2;refine⟨a,L,kk,j,rfl,rfl,b _ _ h4,by rw[Q.length];exact A,?_⟩;obtain⟨E3,k3⟩:=E2.write r l ((Q.same b).set (r1.same b) j);exact q σ _ O E3 fk (((Kp.of J).trans (Kp.of b)).trans k3)
      |_=>exact aAf q
   |ex x=>rw[n]at q;exact(q H E.same).elim
   |bad=>rw[n]at q;exact aAf q
  |ex x=>rw[y]at q;exactλH' s=>q H' (E.same.trans s)
  |bad=>rw[y]at q;exact q⟩
def JF(i:Nat)(own fr:List Str)(U:List Nat)(hN:X.N.Nodup)(hc:X.calm=true)(S:CompSc X f own fr U)(hi:WV X tg y8 fi)(hX:∀(g:P4) (fp:List bc) (X':Cx),(∃s9 Ha C,X'=DD X g s9 Ha (own++fr) f (bZ X f C) C fp)->LJ X' tg G/\UM X' k ft/\PD X' l fe)(hG:∀ρ d ρ1,G d (i5 own U ρ)=.ok ρ1->nG ρ1 (i5 own U ρ))(hy:X.N[i]?=some y:=by rfl)(Y:X.env.scope.names.lookup y=some .local:=by rfl)(xf:eN (.ListComp l [⟨tg,y8,k,0⟩] f pos) (some (.Name y py)) spos.line X.env=pure true:=by rfl)(hs:∀x,d7 y8 X.env x=pure x:=by intro _;rfl):
  nN X (.Assign [.Name y py] (.ListComp l [⟨tg,y8,k,0⟩] f pos) spos) (λρ=>((fi ρ).bind λds=>if ds.length<=sizeLine then(o7 G ft fe (i5 own U ρ) ds).bind λh=>R.ok h else .bad).bind λh=>.ok (.nx (ρ.set i (.o h)))):=by
 rintro H9 O0 g s σ H D I ⟨O,ρ,E,fk,q⟩;dsimp only at q;rw[exec_Assign_Name_used _ _ _ _ xf];refine aAa (aEy<|aAa ?_);show a9 _ X.A (do let _<-comprehension (.ListComp l [⟨tg,y8,k,0⟩] f pos) f X.env _ (newList []) false (dm y8 X.env) (some<|gn (.Name y py) X.env)) _ _ s;refine aAa (aCL (aDW (use:=some (gn (.Name y py) X.env)) (Q:=λ_ t=>SP X g D .next t) rfl hs (Y8<|Inv.ab1 I S) S.kind S.names ?_) (λ_ t hq=>aAb (aAb hq)) λ_ _ e=>e);refine F5 (hi g s σ H (λJ H1=>∃ds h,Same H H1/\ZH X.K J H1 O ds/\ds.length<=sizeLine/\o7 G ft fe (i5 own U ρ) ds=.ok h/\RS X H9 O0 H O (.ok (.nx (ρ.set i<|.o h))) D) I ⟨H9,O0,O,ρ,E,nM I O E.trk,?_⟩) λv s1 h1=>F5 h1 λitv s2 h2=>?_
 .cases e1:fi ρ with
  |ex x=>rw[e1]at q;exactλH' s=>q H' (E.same.trans s)
  |bad=>rw[e1]at q;exact q
  |ok ds=>
   rw[e1,R.aa0]at q;intro J H1 s1 hJ;split at q
   .rename_i hl;cases e2:o7 G ft fe (i5 own U ρ) ds with
    |ex x=>rw[e2]at q;exact(q H E.same).elim
    |bad=>rw[e2]at q;exact q.elim
    |ok h=>rw[e2]at q;exact⟨ds,h,s1,hJ,hl,e2,q⟩
   exact q.elim
 obtain⟨it,fp,tn,J,H2,e,I2,T,kr,f2,ds,h,sm,hJ,hl,hrs,q⟩:=h2;subst e;refine qY (RR:=λB C=>compPost (be X.prog X.w) X.A X.xe (some<|gn (.Name y py) X.env) (λ_ t=>SP X g D .next t) B C) hc S (hX g fp) (hG ρ) I2 T kr f2 (E.grow sm) hJ.c hrs hl ?_;intro B C t H' m hn hCa j has sm' r nw hC hI;have I3:=hI t.heap (aGB ..);show a9 _ X.A (gn (.Name y py) X.env<|.ref B) _ _ t;refine wpAny_assign_Name (uT (i:=i) (v:=.ref B) I3 hN hy (.inl Y) rfl (λs4 I4 z9=>?_)<|.inr Y);obtain⟨a,hsb,ha⟩:=z9;have il:∀x c,X.env.cells.lookup x=some c->c≠C:=λx c hc=>by obtain⟨v,hv⟩:=I2.cell x c hc;exact aAm (aAw hv.lt j)
 have hCL:C≠X.env.locals:=aDx (aAw I2.lt j);have hCa2:C≠a:=by
  rcases ha with ha|ha
  .rw[ha];exact hCL
  exact aBY (il y a ha)
 refine⟨m,hn.sameBut hsb hCa2,λh' jo=>?_⟩;obtain⟨H1,L,qf,u,eH,rr⟩:=nw;subst eH;have E2:=((E.grow sm).grow qf).ad3 i u (GM I3<|j2 (H:=H1) (a:=B) (o:=.lst L)) rr;refine⟨_,_,?_,q _ _ _ E2 (nM I3 _ E2.trk) λb o hb n=>⟨by rw[l6 (n4 ((sm.trans qf) b o hb) u)];exact(sm.trans qf) b o hb,λz=>z.elim n (n4 ((sm.trans qf) b o hb) u)⟩⟩;exact I4.turned (t':=s4.toks) (it:=C) (λb o hb e=>(jo.2 b hb).trans e) hC hCL (.inr (aAp I2.sz j)) il λp hp=>aAm (aAw (aAg (I2.pin p hp).1) j)
def jO(i:Nat)(own s:List Str)(g:List Nat)(hN:X.N.Nodup)(hc:X.calm=true)(S:CompSc X f own s g)(t:WV X u y8 Q)(hX:∀(h:P4) (fp:List bc) (p:Cx),(∃s9 Ha C,p=DD X h s9 Ha (own++s) f (bZ X f C) C fp)->LJ p u G/\UM p j ft/\PD p l fe)(hG:∀ρ d ρ1,G d (i5 own g ρ)=.ok ρ1->nG ρ1 (i5 own g ρ))(hy:X.N[i]?=some y:=by rfl)(w:X.env.scope.names.lookup y=some .local:=by rfl)(xf:eN (.ListComp l [⟨u,y8,j,0⟩] f A) (some (.Name y py)) m.line X.env=pure true:=by rfl)(hs:∀x,d7 y8 X.env x=pure x:=by intro _;rfl):
  nN X (.Assign [.Name y py] (.ListComp l [⟨u,y8,j,0⟩] f A) m) (λρ=>((Q ρ).bind λds=>if ds.length<=sizeLine then(o7 G ft fe (i5 own g ρ) ds).bind λr=>.ok (D.lst r)else .bad).bind λd=>.ok (.nx (ρ.set i (.v d)))):=λT U=>BQ (JF i own s g hN hc S t hX hG hy w xf hs T U) λD σ H O ρ E fk q=>⟨O,ρ,E,fk,by
 dsimp only at q⊢;cases B:Q ρ with
 |ex x=>rw[B]at q;exact q
 |bad=>rw[B]at q;exact q
 |ok ds=>
  rw[B,R.aa0]at q;rw[R.aa0];by_cases hl:ds.length<=sizeLine
  .rw[hV hl]at q⊢;cases I:o7 G ft fe (i5 own g ρ) ds with
   |ex x=>rw[I]at q;exact q
   |bad=>rw[I]at q;exact q
   |ok r=>
    rw[I]at q;intro af H' O' J f' L;by_cases t:i<ρ.length
    .obtain⟨O2,E2,sub⟩:=J.disown (i:=i) (Y:=r) (by rw[aBM t]);rw[List.set_set]at E2;exact q af H' O2 E2 (λa o k z=>f' a o k (sub a z)) λb o hb n=>⟨(L b o hb n).1,λz=>(L b o hb n).2 (sub b z)⟩
    have e:∀x,ρ.set i x=ρ:=λx=>List.set_eq_of_length_le (by lia);have q:RS X T U H O (.ok (.nx (ρ.set i<|.v (.lst r)))) D:=q;rw[e]at J q;exact q af H' O' J f' L
  rw[h9 hl]at q;exact aAf q⟩
def fJ{st:cv}:nN X st (λ_=>.bad):=λa b=>BQ SX λD σ H O ρ E d q=>q
end
end
section
theorem bC{α β:Type}[BEq α][LawfulBEq α]:∀{l:List (α×β)}{a:α}{b:β},(l.map (·.1)).Nodup->(a,b)∈l->l.lookup a=some b
 |(x,y)::l,a,b,h,f=>by
  rw[aAk,aAH]at h;rw[aBh];rcases aAd.mp f with e|d
  .cases e;simp
  have:(a==x)=false:=by rw[beq_eq_false_iff_ne];rintro rfl;exact h.1 (aAj.mpr ⟨(a,b),d,rfl⟩)
  rw[this];exact bC h.2 d
theorem mem_lookup{α β:Type}[BEq α][LawfulBEq α]:∀{l:List (α×β)}{a:α}{b:β},l.lookup a=some b->(a,b)∈l
 |(x,y)::l,a,b,h=>by
  rw[aBh]at h;split at h
  .rename_i q;cases h;rw[eq_of_beq q];exact .head _
  exact .tail _ (mem_lookup h)
def wA(o:Obj):Prop:=∃v,o.data=.cell v
def dU(H:Hp)(cs:P4):Hp:=λb=>match cs.lookup b with
 |some o=>some (.frz o (.own b))
 |none=>H b
def T0(H:Hp)(cs:P4):Hp:=λb=>match cs.lookup b with
 |some _=>none
 |none=>H b
section
variable{K:iu}
def fH(e:cs.lookup b=some o):dU H cs b=some (.frz o (.own b)):=by unfold dU;rw[e]
def S1(e:cs.lookup b=none):dU H cs b=H b:=by unfold dU;rw[e]
def bS(e:cs.lookup b=some o):T0 H cs b=none:=by unfold T0;rw[e]
def O8(e:cs.lookup b=none):T0 H cs b=H b:=by unfold T0;rw[e]
def G0(a:∀b o,cs.lookup b=some o->H b=none)(e:H b=some u):dU H cs b=some u:=by
 cases q:cs.lookup b with
 |none=>rw[S1 q];exact e
 |some o=>rw[a b o q]at e;cases e
def fF(a:∀b o,cs.lookup b=some o->H b=none):Same H (dU H cs):=λb u e=>G0 a e
def y9(a:∀b o,cs.lookup b=some o->H b=some (.frz o (.own b)))(e:H b=some u)(ne:∀o,cs.lookup b=some o->u≠.frz o (.own b)):T0 H cs b=some u:=by
 cases q:cs.lookup b with
 |none=>rw[O8 q];exact e
 |some o=>rw[a b o q]at e;cases e;exact absurd rfl (ne o q)
def PM(x:fT P w H h)(a:∀b o,cs.lookup b=some o->h.get? b=some o/\H b=none):fT P w (dU H cs) h:=λb u e=>by
 have d:∀b o,cs.lookup b=some o->H b=none:=λb o q=>(a b o q).2;cases q:cs.lookup b with
 |some o=>rw[fH q]at e;cases e;exact⟨(a b o q).1,⟨o,(a b o q).1⟩⟩
 |none=>rw[S1 q]at e;exact(x b u e).ac2 (λ_ _ _ z=>z) (λc z=>G0 d z) λc u _ z=>G0 d z
def MU(x:fT P w H h)(d:∀b o,cs.lookup b=some o->H b=some (.frz o (.own b))/\wA o):fT P w (T0 H cs) h:=λb u e=>by
 have g:∀b o,cs.lookup b=some o->H b=some (.frz o (.own b)):=λb o q=>(d b o q).1;cases q:cs.lookup b with
 |some o=>rw[bS q]at e;cases e
 |none=>rw[O8 q]at e;refine(x b u e).ac2 (λ_ _ _ z=>z) (λc z=>y9 g z λo _ a=>by cases a) λc u f z=>y9 g z λo q a=>?_;subst a;obtain⟨L,j⟩:=f;obtain⟨v,i⟩:=(d c o q).2;rw[j]at i;cases i
def mj(U:Un fs [] (dU H cs) g h h')(k:fT P w g h')(i:∀b o,cs.lookup b=some o->h.get? b=some o/\H b=none/\wA o):Un fs [] H (T0 g cs) h h'/\fT P w (T0 g cs) h'/\∀b o,cs.lookup b=some o->g b=some (.frz o (.own b)):=by
 have j:∀b o,cs.lookup b=some o->H b=none:=λb o q=>(i b o q).2.1;have a:∀b o,cs.lookup b=some o->g b=some (.frz o (.own b)):=λb o q=>U.frzs b o _ (fH q);refine⟨⟨λb o e n l d=>?_,λb o e n l d=>?_,λb o e n d=>?_,λb o e d=>U.there b o e d,λb Y e=>?_,λb o u e=>?_,λb m e=>?_⟩,MU k λb o q=>⟨a b o q,(i b o q).2.2⟩,a⟩
 .cases q:cs.lookup b with
  |none=>exact U.keep b o e (by rw[S1 q];exact n) l d
  |some f=>have:=(i b f q).1;rw[e]at this;cases this;exact(k b _<|a b o q).1
 .cases q:cs.lookup b with
  |none=>exact U.slot b o e (by rw[S1 q];exact n) l d
  |some f=>have:=(i b f q).1;rw[e]at this;cases this;exact⟨o.slots,(k b _<|a b o q).1⟩
 .cases q:cs.lookup b with
  |none=>rw[O8 q];exact U.free b o e (by rw[S1 q];exact n) d
  |some f=>exact bS q
 .exact y9 a (U.tups b Y<|G0 j e) λo _ z=>by cases z
 .refine y9 a (U.frzs b o u<|G0 j e) λf q z=>?_;rw[j b f q]at e;cases e
 exact y9 a (U.tbls b m<|G0 j e) λo _ z=>by cases z
def bz(U:Un fs [] (T0 H cs) f h h')(k:fT P w f h')(i:∀b o,cs.lookup b=some o->h.get? b=some o/\H b=some (.frz o (.own b))/\b∉fs):Un fs [] H (dU f cs) h h'/\fT P w (dU f cs) h'/\Same f (dU f cs):=by
 have j:∀b o,cs.lookup b=some o->H b=some (.frz o (.own b)):=λb o q=>(i b o q).2.1;have g:∀b o,cs.lookup b=some o->f b=none:=λb o q=>U.free b o (i b o q).1 (bS q) (by simp);have m:∀b o,cs.lookup b=some o->h'.get? b=some o:=λb o q=>U.keep b o (i b o q).1 (bS q) (i b o q).2.2 (by simp);have a:∀b,H b=none->cs.lookup b=none:=λb n=>by
  cases q:cs.lookup b with
  |none=>rfl
  |some o=>rw[j b o q]at n;cases n
 refine⟨⟨λb o e n l d=>U.keep b o e (by rw[O8 (a b n)];exact n) l d,λb o e n l d=>U.slot b o e (by rw[O8 (a b n)];exact n) l d,λb o e n d=>?_,λb o e d=>U.there b o e d,λb Y e=>?_,λb o u e=>?_,λb p e=>?_⟩,
  PM k λb o q=>⟨m b o q,g b o q⟩,fF g⟩
 .rw[S1 (a b n)];exact U.free b o e (by rw[O8 (a b n)];exact n) d
 .exact G0 g (U.tups b Y (y9 j e λo _ z=>by cases z))
 .cases q:cs.lookup b with
  |none=>exact G0 g (U.frzs b o u (by rw[O8 q];exact e))
  |some r=>rw[j b r q]at e;cases e;exact fH q
 exact G0 g (U.tbls b p (y9 j e λo _ z=>by cases z))
def IH(d:∀b o,cs.lookup b=some o->H b=some (.frz o (.own b)))(q:Y0 K H a Y):Y0 K (T0 H cs) a Y:=by
 rcases q with(q|⟨o,q⟩)|q
 .exact .inl (.inl (y9 d q λo _ z=>by cases z))
 .exact .inl (.inr ⟨o,y9 d q λo _ z=>by cases z⟩)
 exact .inr q
def IQ(d:∀b o,cs.lookup b=some o->H b=some (.frz o (.own b)))(q:P7 K H a Y):P7 K (T0 H cs) a Y:=by
 rcases q with(q|⟨o,q⟩)|q
 .exact .inl (.inl (y9 d q λo _ z=>by cases z))
 .exact .inl (.inr ⟨o,y9 d q λo _ z=>by cases z⟩)
 exact .inr q
def FZ{cs:P4}{φ:cq->Prop}(a:∀b o,cs.lookup b=some o->H b=some (.frz o (.own b)))(q:H b=some (.ext φ)):T0 H cs b=some (.ext φ):=by
 unfold T0;cases e:cs.lookup b with
 |none=>simpa[e]using q
 |some o=>have:=a b o e;rw[q]at this;cases this
def Rep.hid(a:∀b o,cs.lookup b=some o->H b=some (.frz o (.own b)))(r:Rep K H O v d):Rep K (T0 H cs) O v d:=r.mono (λ_ _ q=>IH a q) (λ_ _ n q=>⟨n,IQ a q⟩) λb φ n q=>⟨n,FZ a q⟩
def Reps.hid(a:∀b o,cs.lookup b=some o->H b=some (.frz o (.own b)))(r:Reps K H O v d):Reps K (T0 H cs) O v d:=r.mono (λ_ _ q=>IH a q) (λ_ _ n q=>⟨n,IQ a q⟩) λb φ n q=>⟨n,FZ a q⟩
end
variable [Tabs]
section
variable(P:bM) (w:cp) (K:iu) (mg:cM) (base:cq) (k:Nat)
def MG(n:Nat)(m:List D->R D)(H:Hp)(O:bc->Prop)(a:bc):Prop:=
 (∃h i j l,H a=some (.frz ⟨h,i,.func j,l⟩ (.own a)))/\
 ∀(A:cf) (b:List Env) (s:ba) (g:List au) (L:List V) (e:List D) (d:D) (Q:VK) (E:XK),Room k A->Env0 P w K mg base A b s H->l7 L g->Reps K H O L e->e.length=n->(∀a,O a->∃o,H a=some o/\Mt o)->Tb H->X7 K O->m e=.ok d->
  (∀v f,Same H f->Rep K f O v d->Q v f)->gm (be P w) A (.call (.ref a) ⟨g,[]⟩) (CR uI b P w H s Q E) s
end
open Classical in
def callC(Φ:(List D->R D)->Hp->(bc->Prop)->bc->Prop) (i:Nat) (f:Ev->R (List D)):Ev->R D:=λρ=>match ρ[i]? with
 |some (.c m φ)=>if φ=Φ m then(f ρ).bind m else .bad
 |_=>.bad
section
def RP(i:Nat)(ha:MF X (e::es) f)(hl:DR f n)(hr:Room k X.A)(hN:X.N[i]?=some x:=by rfl)(hv:zI X.env.scope x:=by first|exact aCD rfl|exact aBP (aCD rfl)|exact aBP (aBP rfl))(hd:(x==ix)=false:=by decide)(dc:(x==ka)=false:=by decide)(he:bb (e::es) X.env=(false,dm e X.env)::bb es X.env:=by rfl)(bf:(cy h (bb es X.env)).any (·.1)=false:=by rfl):
  PD X (.Call (.Name x p) (e::es) [] h) (callC (MG X.prog X.w X.K X.mg X.base k n) i f):=by
 refine tY λb s σ H Q I H9 O0 O ρ E q=>?_;unfold callC at q;cases y:ρ[i]? with
 |none=>rw[y]at q;exact q.elim
 |some l=>
  rw[y]at q;cases l with
  |c m φ=>
   dsimp only at q;split at q
   .rename_i B;subst B;obtain⟨a,h1,U⟩:=E.slot i _ y;obtain⟨⟨Y,od,fd,l,hf⟩,_⟩:=U H O (Kp.refl _ _);refine aBg (F5 (O6 hN hv hd dc b s σ H (λv H'=>v=.ref a/\H'=H) I ⟨_,h1,rfl,rfl⟩) λu s1 z9=>?_);obtain⟨v,H1,I1,r1,ev,eH⟩:=z9;subst ev eH;obtain rfl:u=aDJ a:=r1;refine PySem.W.callWith_F ⟨Y,od,fd,l,(I1.hok a _ hf).1⟩ (F5 (ha h b s1 σ H1 _ I1 ⟨H9,O0,O,ρ,E,JR.seq q⟩) λus s2 ⟨L,H2,o,rv,C,e2,J,rr,g⟩=>⟨⟨Y,od,fd,l,(o.hok a _<|J _ _ hf).1⟩,?_⟩) he bf;cases t:m C with
    |ex z=>rw[t]at g;exact(g H2<|Same.refl _).elim
    |bad=>rw[t]at g;exact g.elim
    |ok d=>
     rw[t]at g;have T:=E.grow J;refine wpAny_call (aDU ((U H2 O<|Kp.of J).2 X.A X.stack s2 us L C d Q (λ_ _ _=>False) hr o.af0 rv rr (hl ρ C e2) T.trk T.tab (nM o O T.trk) t g) λr s' j=>?_);cases r with
     |error e=>exact j.elim
     |ok fl=>
      cases fl with
      |ret u=>exact o.after j
      |next=>exact aAf j
      |brk=>exact aAf j
      |cont=>exact aAf j
   exact q.elim
  |_=>exact q.elim
end
def spF(K:iu)(Φ:(List D->R D)->Hp->(bc->Prop)->bc->Prop)(M:D->(List D->R D)->(List D->R D)->R D):Sp:=λL H Q _=>∃O v1 g h i j k d,L=[v1,.ref h,.ref j]/\Rep K H O v1 g/\(∀b e,Kp H O b e->Φ i b e h)/\(∀b e,Kp H O b e->Φ k b e j)/\
 (∀a,O a->∃o,H a=some o/\Mt o)/\Tb H/\X7 K O/\M g i k=.ok d/\∀v f,Same H f->Rep K f O v d->Q v f
def kL(N:List Str)(Φ:(List D->R D)->Hp->(bc->Prop)->bc->Prop)(d:D)(a b:List D->R D):Ev:=.v d::.c a (Φ a)::.c b (Φ b)::aCZ (N.length-3) Sl.no
def CZ{K:iu}{H:Hp}{O:bc->Prop}{N:List Str}{v1:V}{f:D}{a1 a2:bc}{g k:List D->R D}{Φ:(List D->R D)->Hp->(bc->Prop)->bc->Prop}(r:Rep K H O v1 f)(l:∀d e,Kp H O d e->Φ g d e a1)(m:∀d e,Kp H O d e->Φ k d e a2)
  (t:∀a,O a->∃o,H a=some o/\Mt o) (tb:Tb H):EnvOk K H O H O (start N [v1,.ref a1,.ref a2]) (kL N Φ f g k)where
 len:=by simp[L2.start,kL]
 same:=Same.refl H
 sub:=λ_ h=>h
 trk:=t
 trk0:=λa h=>let⟨o,q,_⟩:=t a h;⟨o,q⟩
 tab:=tb
 slot:=λi n h=>by
  match i with
  |0=>cases h;exact⟨v1,rfl,r⟩
  |1=>cases h;exact⟨a1,rfl,l⟩
  |2=>cases h;exact⟨a2,rfl,m⟩
  |i+3=>
   have b:(aCZ (N.length-3) Sl.no)[i]?=some n:=h;rw[aBA]at b;split at b
   .cases b;trivial
   cases b
 inj:=λi j x y a h _ o=>by
  match i with
  |0=>cases h;exact o.elim
  |1=>cases h;exact o.elim
  |2=>cases h;exact o.elim
  |i+3=>
   have b:(aCZ (N.length-3) Sl.no)[i]?=some x:=h;rw[aBA]at b;split at b
   .cases b;exact o.elim
   cases b
section
variable{K:iu}
def fnF{x qual:Str}{st:cv}{f:bc}{fd:dA}{N ps:List Str}{k:Nat}{M:D->(List D->R D)->(List D->R D)->R D}{Φ:(List D->R D)->Hp->(bc->Prop)->bc->Prop}{F:Ev->R Out}(m:Fun K x qual st f fd)(S:FnScope N ps (c6 st))(n:ps.length=3)
  (p:∀(C:au) (A:cf) (a:List Env) (s:ba) (H:Hp) (E:XK),Room k (A.deeper (envOfC qual (c6 st) s.heap.objs.size f C))->bU (UQ P w K mg base N qual (c6 st) f C A a s H E) (p9 st) F)
  (t:∀g i j d,M g i j=.ok d->N9 (F (kL N Φ g i j))=.ok d):FnOk P w K mg base uI (k+1) f fd ps (spF K Φ M):=by
 refine m.ok S (λL H Q E z=>by obtain⟨O,v1,g,u,i,v,j,d,e,_⟩:=z;rw[e,n];rfl) (λC A a s H L Q E y z=>?_);obtain⟨O,v1,g,u,i,v,j,d,B,r,I,J,T,U,Y,e,q⟩:=z;subst B;refine⟨_,p C A a s H E y H O,O,_,CZ r I J T U,Y,?_⟩;have h:=t g i j d e;cases l:F (kL N Φ g i j)with
 |ok o=>
  rw[l]at h;cases o with
  |rt d'=>have b:R.ok d'=R.ok d:=h;injection b with b;subst b;exact q
  |nx ρ=>have b:R.ok D.non=R.ok d:=h;injection b with b;subst b;exactλaf H' O' E' _ _=>q .non H' E'.same .non
  |bk ρ=>cases h
  |ct ρ=>cases h
 |ex x=>rw[l]at h;cases h
 |bad=>rw[l]at h;cases h
end
structure NScope(ps ls fn:List Str)(sc:Scope):Prop where
 kind:sc.kind=.function
 co:sc.isCoroutine=false
 gen:sc.isGenerator=false
 nd:(ps++(ls++fn)).Nodup
 par:∀x∈ps,sc.names.lookup x=some .local
 fre:∀x∈fn,sc.names.lookup x=some .free
 all:∀x,sc.names.lookup x=some .free->x∈fn
 nocell:∀y∈sc.names,y.2≠.cell
abbrev cxM(P:bM)(w:cp)(K:iu)(mg:cM)(base:cq)(N:List Str)(env:Env)(A:cf)(outer:List Env)(s:ba)(H:Hp):Cx where
 prog:=P
 w:=w
 K:=K
 mg:=mg
 base:=base
 A:=A.deeper env
 N:=N
 s9:=s
 H9:=H
 env:=env
 outer:=outer
 stack:=env::outer
 ex:=[]
 calm:=true
 fn:=λ_=>false
 pn:=[]
 xe:=λ_ _=>False
def O5{α:Type}(L:List α)(n:Nat)(no:α)(ws:List α):List α:=L++(aCZ n no++ws)
def gI{α:Type}{L ws:List α}{n i:Nat}{no a:α}(h:(O5 L n no ws)[i]?=some a):L[i]?=some a\/a=no\/(L.length+n<=i/\ws[i-(L.length+n)]?=some a):=by
 unfold O5 at h;by_cases d:i<L.length
 .rw[aBb d]at h;exact .inl h
 rw[aAA (by lia)]at h;by_cases b:i-L.length<n
 .rw[aBb (by simpa using b),aBA,hV b]at h;exact .inr (.inl (Option.some.inj h).symm)
 rw[aAA (by simpa using b),aCs]at h;exact .inr (.inr ⟨by lia,by rw[show i-(L.length+n)=i-L.length-n by lia];exact h⟩)
def PL{α:Type}{L ws:List α}{n i:Nat}{no a:α}(h:L[i]?=some a):(O5 L n no ws)[i]?=some a:=by unfold O5;rw[aBb (aAC.mp h).1];exact h
def TJ{α:Type}{L ws:List α}{n i:Nat}{no a:α}(h:ws[i]?=some a):(O5 L n no ws)[L.length+n+i]?=some a:=by unfold O5;rw[aAA (by lia),aAA (by simp;lia),aCs,show L.length+n+i-L.length-n=i by lia];exact h
section
variable{K:iu}
def EO{A:cf}{g:List Env}{s:ba}{H:Hp}{N:List au}{L wv:List V}{h₁:cq}{tk:Nat}(S:NScope ps k fn d)(T:A.handled=none)(j:Env0 P w K mg base A g s H)(B:L.length=ps.length)(r:l7 L N)(O:wv.length=fn.length)
  (Q:∀(i:Nat) (x:Str) (v:V),fn[i]?=some x->wv[i]?=some v->∃c u,clos.lookup x=some c/\RelV v u/\s.heap.IsCell c (some u)) (t:∀x c,clos.lookup x=some c->(∃v,s.heap.IsCell c v)/\H c=none)
  (U:∀x y c,clos.lookup x=some c->clos.lookup y=some c->x=y) (Y:h₁.Ns s.heap.objs.size (λx=>(ps.zip N).reverse.lookup x)) (C:∀b o,s.heap.get? b=some o->h₁.get? b=some o):
  Inv (cxM P w K mg base (ps++(k++fn)) (PySem.W.envX qual d s.heap.objs.size fa cd clos) A g s H) [] (O5 (L.map some) k.length none (wv.map some)) H {s with heap:=h₁,toks:=tk}:=by
 have l:∀b:bc,b∉(cxM P w K mg base (ps++(k++fn)) (PySem.W.envX qual d s.heap.objs.size fa cd clos) A g s H).ex:=λb z=>absurd (show b∈([]:List bc)from z) (by simp);have I:ps.Nodup:=(aCK.mp S.nd).1;refine⟨⟨j.mod,S.kind,rfl,rfl,aAl _,U,λy m=>?_,λy c hf _=>(by cases hf),λ_=>T,aGb j.frames,.inr ⟨rfl,rfl⟩,λb z=>absurd z (l b),j.bs,j.bsz,λb _ _=>l b,λb z=>absurd z (l b),j.funs,j.frf⟩,
  rfl,j.bare,Un.kept C,⟨_,Y,λi y v h1 f h3=>?_⟩,λy c h=>?_,j.hok.fresh (aAl _),λy c h=>(t y c h).2,λp hp=>absurd (show p∈([]:P4)from hp) (by simp),j.hok.kept C,?_⟩
 .have m:d.names.lookup y=some .cell\/d.names.lookup y=some .free:=m;rcases m with m|m
  .exact absurd rfl (S.nocell _<|PySem.mem_of_lookup m)
  have hm:=S.all y m;obtain⟨i,E,e⟩:=aBp hm;have hw:i<wv.length:=by rw[O];exact E
  obtain⟨c,u,q,_⟩:=Q i y wv[i] (by rw[aAi E,e]) (aAi hw);exact⟨c,q⟩
 .have n:(ps++(k++fn))[i]?=some y:=h1;rcases gI f with f|f|⟨h4,f⟩
  .rw[aAG]at f;cases e:L[i]? with
   |none=>rw[e]at f;cases f
   |some a=>
    rw[e]at f;have J:a=v:=Option.some.inj (Option.some.inj f);subst J;obtain⟨u,hu,rv⟩:=r.get e;have E:i<ps.length:=by rw[<-B];exact(aAC.mp e).1
    rw[aBb E]at n;refine⟨u,rv,.inl ⟨S.par y (aAx n),?_⟩⟩;refine bC ?_ ?_
    .rw[aFB];refine(List.reverse_perm _).nodup_iff.mpr ?_;rw[aFz (by rw[<-B,r.length];exact aAl _)];exact I
    rw[aBO];exact aAx (i:=i) (by rw[aBH];exact⟨n,hu⟩)
  .cases f
  rw[aAh]at h4 f;rw[aAG]at f;cases e:wv[i-(L.length+k.length)]? with
  |none=>rw[e]at f;cases f
  |some a=>rw[e]at f;have J:a=v:=Option.some.inj (Option.some.inj f);subst J;rw[aAA (by lia),aAA (by lia),<-B,show i-L.length-k.length=i-(L.length+k.length)by lia]at n;obtain⟨c,u,q1,q2,q3⟩:=Q _ y a n e;exact⟨u,q2,.inr ⟨.inr (S.fre y<|aAx n),c,q1,q3.keeps C⟩⟩
 .obtain⟨⟨v,z⟩,_⟩:=t y c h;exact⟨v,z.keeps C⟩
 unfold O5;simp[B,O]
def DF{H:Hp}{O:bc->Prop}{L wv:List V}{ds wd:List D}{n:Nat}(r:Reps K H O L ds)(k:Reps K H O wv wd)(t:∀a,O a->∃o,H a=some o/\Mt o)(tb:Tb H):
  EnvOk K H O H O (O5 (L.map some) n none (wv.map some)) (O5 (ds.map Sl.v) n .no (wd.map Sl.v))where
 len:=by unfold O5;simp[r.length,k.length]
 same:=Same.refl H
 sub:=λ_ h=>h
 trk:=t
 trk0:=λa h=>let⟨o,q,_⟩:=t a h;⟨o,q⟩
 tab:=tb
 slot:=λi l h=>by
  rcases gI h with h|h|⟨m,h⟩
  .rw[aAG]at h;cases e:ds[i]? with
   |none=>rw[e]at h;cases h
   |some d=>rw[e]at h;have b:Sl.v d=l:=Option.some.inj h;subst b;obtain⟨v,f,g⟩:=r.get e;exact⟨v,PL (by rw[aAG,f];rfl),g⟩
  .subst h;trivial
  rw[aAG,aAh]at h;rw[aAh]at m;cases e:wd[i-(ds.length+n)]? with
  |none=>rw[e]at h;cases h
  |some d=>rw[e]at h;have b:Sl.v d=l:=Option.some.inj h;subst b;obtain⟨v,f,g⟩:=k.get e;refine⟨v,?_,g⟩;have:=TJ (L:=L.map some) (n:=n) (no:=(none:Option V)) (ws:=wv.map some) (i:=i-(ds.length+n)) (a:=some v) (by rw[aAG,f];rfl);rw[aAh,r.length,show ds.length+n+(i-(ds.length+n))=i by lia]at this;exact this
 inj:=λi j x y a h _ o=>by
  rcases gI h with h|h|⟨_,h⟩
  .obtain⟨d,_,rfl⟩:=aAj.mp (aAx h);exact o.elim
  .subst h;exact o.elim
  obtain⟨d,_,rfl⟩:=aAj.mp (aAx h);exact o.elim
def lz{name:Str}{j:Arguments}{body:List cv}{doc pm ctv:au}{N:bc}{oc:Obj}{k:Nat}{m:List D->R D}{F:Ev->R Out}{H:Hp}{O:bc->Prop}{cs:P4}{wv:List V}{wd:List D}(S:NScope ps ls fn g)
  (hb:∀(A:cf) (f:List Env) (s:ba) (H:Hp),Room k (A.deeper (PySem.W.envX qual g s.heap.objs.size fa (.ref N) clos))->bU (cxM P w K mg base (ps++(ls++fn)) (PySem.W.envX qual g s.heap.objs.size fa (.ref N) clos) A f s H) body F)
  (hm:∀ds d,ds.length=ps.length->m ds=.ok d->N9 (F (O5 (ds.map Sl.v) ls.length .no (wd.map Sl.v)))=.ok d)
  (xg:∀(s:ba) (U:List au),U.length=ps.length->BindsTo s (PySem.W.fnX name qual j body g clos .none .none doc pm none (.ref N) ctv) ⟨U,[]⟩ (ps.zip U))
  (hfa:H fa=some (.frz (PySem.W.fnMade name qual j body g clos doc pm N ctv) (.own fa))) (hc:H N=some (.frz oc (.own N))) (bp:∃L t,oc.data=.fields L/\L[1]?=some (.str qual t))
  (wo:∀b o,cs.lookup b=some o->H b=some (.frz o (.own b))/\wA o) (yh:∀(i:Nat) (x:Str) (v:V),fn[i]?=some x->wv[i]?=some v->∃c u o,clos.lookup x=some c/\cs.lookup c=some o/\o.data=.cell (some u)/\RelV v u)
  (hcc:∀x c,clos.lookup x=some c->∃o,cs.lookup c=some o) (om:∀x y c,clos.lookup x=some c->clos.lookup y=some c->x=y) (ug:wv.length=fn.length) (hr:Reps K H O wv wd) (hO:∀a,O a->∃o,H a=some o/\Mt o):
  ∀l Y,Kp H O l Y->MG P w K mg base (k+1) ps.length m l Y fa:=by
 intro l Y kp;have fz:∀b o u,H b=some (.frz o u)->l b=some (.frz o u):=λb o u e=>(kp b _ e λz=>by obtain⟨o',q,mt⟩:=hO b z;rw[e]at q;cases q;exact mt).1;have T:∀b o,cs.lookup b=some o->l b=some (.frz o (.own b)):=λb o q=>fz _ _ _ (wo b o q).1;refine⟨⟨_,_,_,_,fz _ _ _ hfa⟩,λA f s U L ds d Q E pg B rv rr hl ht tb fk em q=>?_⟩;have KX:K.In s.heap:=B.mod.kin.keeps λb o e=>(B.bs b o e).1;have lim:s.heap.NoLimit:=B.mod.nolimit.keeps λb o e=>(B.bs b o e).1;have gfa:=(B.hok fa _<|fz _ _ _ hfa).1;have goc:=(B.hok N _<|fz _ _ _ hc).1;obtain⟨ovs,ot,od1,od2⟩:=bp;have hidn:∀b,l b=none->T0 l cs b=none:=λb n=>by
  cases z:cs.lookup b with
  |none=>rw[O8 z];exact n
  |some o=>exact bS z
 have e1:Env0 P w K mg base A f s (T0 l cs):=⟨B.frames,B.mod,λb o e=>⟨(B.bs b o e).1,hidn b (B.bs b o e).2⟩,B.bsz,B.funs,λb hb=>hidn b (B.frf b hb),MU B.hok λb o z=>⟨T b o z,(wo b o z).2⟩,B.bare⟩;have zg:∀b o,cs.lookup b=some o->s.heap.get? b=some o:=λb o z=>(B.hok b _<|T b o z).1;have cfs:∀b o,cs.lookup b=some o->b∉yV f:=λb o z hb=>by have:=B.frf b hb;rw[T b o z]at this;cases this
 have hul:U.length=ps.length:=by rw[<-rv.length,rr.length];exact hl
 have hvl:L.length=ps.length:=by rw[rr.length];exact hl
 have rwv:Reps K (T0 l cs) Y wv wd:=(kp.ad1 hO fk hr).hid T;have tb1:Tb (T0 l cs):=λp hp=>y9 T (tb p hp) λo _ z=>by cases z
 have ht1:∀a,Y a->∃o,T0 l cs a=some o/\Mt o:=λa z=>by obtain⟨o,q1,q2⟩:=ht a z;exact⟨o,y9 T q1 λo' _ z'=>by subst z';exact q2,q2⟩
 let Q':VK:=λv H3=>(∀b o,cs.lookup b=some o->H3 b=none)->Q v (dU H3 cs)
 have qq:∀v C,Same (T0 l cs) C->Rep K C Y v d->Q' v C:=λv C sm r hn=>by
  refine q v _ (λb u e=>?_) (r.same<|fF hn);cases z:cs.lookup b with
  |none=>exact G0 hn (sm b u (by rw[O8 z];exact e))
  |some o=>rw[T b o z]at e;cases e;exact fH z
 have fin:∀{u:au}{s':ba},CE f P w (T0 l cs) s Q' u s'->CE f P w l s Q u s':=λ{u s'} ⟨v,H3,os,bare,un,hok,r,qv⟩=>by obtain⟨U2,k2,yg⟩:=bz un hok λb o z=>⟨zg b o z,T b o z,cfs b o z⟩;exact⟨v,_,os,bare,U2,k2,r,qv λb o z=>un.free b o (zg b o z) (bS z) (by simp)⟩
 refine codeAny_call_def (fd:=PySem.W.fnX name qual j body g clos .none .none doc pm none (.ref N) ctv) (body:=body) (binds:=ps.zip U) pg.depth gfa rfl lim ⟨N,oc,ovs,ot,rfl,goc,od1,od2⟩ rfl (xg s U hul) S.nocell (λy hy=>S.par y.1 (aDZ hy).1) (λh₁ zb hk=>?_) S.co S.gen S.kind;show a9 (be P w) (A.deeper<|PySem.W.envX qual g s.heap.objs.size fa (.ref N) clos) (execs body<|PySem.W.envX qual g s.heap.objs.size fa (.ref N) clos) _ _ _;have I:=EO (qual:=qual) (fa:=fa) (cd:=.ref N) (clos:=clos) (tk:=s.toks+(ps.zip U).length) S pg.hd e1 hvl rv ug (λi x v h1 h2=>by
   obtain⟨c,u,o,q1,q2,q3,q4⟩:=yh i x v h1 h2;exact⟨c,u,q1,q4,o,zg c o q2,q3⟩) (λx c h=>by
   obtain⟨o,z⟩:=hcc x c h;obtain⟨v,z2⟩:=(wo c o z).2;exact⟨⟨v,o,zg c o z,z2⟩,bS z⟩) om zb hk
 have hx:=hb A f s (T0 l cs) (pg.deeper _) (T0 l cs) Y [] _ _ _ {nx:=λ_ C=>Q' .non C,rt:=Q'} I ⟨Y,_,DF (rr.hid T) rwv ht1 tb1,fk,?_⟩
 .refine aCL hx (λfl s' hs=>?_) λe s' hs=>hs.elim;have fin2:∀{af:St}{C:Hp}{v:V}{u:au},Inv (cxM P w K mg base (ps++(ls++fn)) (PySem.W.envX qual g s.heap.objs.size fa (.ref N) clos) A f s<|T0 l cs) [] af C s'->RelV v u->Q' v C->CE f P w l s Q u s':=
   λ{af C v u} J rv q=>fin ⟨v,C,J.os,J.bare,J.base,J.hok,rv,q⟩
  cases fl with
  |ret u=>obtain⟨v,af,C,J,rv,q⟩:=hs;exact fin2 J rv q
  |next=>obtain⟨af,C,J,q⟩:=hs;exact fin2 (v:=V.non) (u:=Value.none) J rfl q
  |brk=>obtain⟨_,_,_,q⟩:=hs;exact aAf q
  |cont=>obtain⟨_,_,_,q⟩:=hs;exact aAf q
 have h:=hm ds d hl em;cases e1:F (O5 (ds.map Sl.v) ls.length .no (wd.map Sl.v))with
 |ok o=>
  rw[e1]at h;cases o with
  |rt d'=>have h':R.ok d'=R.ok d:=h;injection h' with h';subst h';exact qq
  |nx ρ=>have h':R.ok D.non=R.ok d:=h;injection h' with h';subst h';exactλaf C O' E' _ _=>qq .non C E'.same .non
  |bk ρ=>cases h
  |ct ρ=>cases h
 |ex x=>rw[e1]at h;cases h
 |bad=>rw[e1]at h;cases h
end
end
section
variable [Tabs]
def jV(mg:cM)(base:cq):Prop:=∃b a,mg "__builtins__"=some (.ref b)/\b≠builtinsNs/\base.get? b=some a/\a.cls=.type "module"/\a.dict=some builtinsNs/\a.data=.plain
def uC:∀(l:List au),TriplesOk l->eR d l=some x->eR d (l++[ez a,ez b,c])=some x:=λl h e=>by
 fun_induction TriplesOk l with
 |case1=>simp[eR]at e
 |case2 i t j u y rest g=>
  simp only[aAJ,eR]at e⊢;split at e
  .rename_i f;rw[hV f];exact e
  rename_i f;rw[h9 f];exact g h e
 |case3 l k m=>exact h.elim
def NW(ne:¬(a=d.line/\b=d.col)):∀(l:List au),TriplesOk l->eR d l=none->eR d (l++[ez a,ez b,c])=none:=λl h e=>by
 fun_induction TriplesOk l with
 |case1=>simp only[aBF,ez,eR];rw[h9];simp only[aAQ,beq_iff_eq];exact ne
 |case2 i t j u y rest f=>
  simp only[aAJ,eR]at e⊢;split at e
  .cases e
  rename_i g;rw[h9 g];exact f h e
 |case3 l k m=>exact h.elim
def gP(H:Hp)(fa:bc)(name qual:Str)(a:Arguments)(body:List cv)(b:gW)(clos:List (Str×bc)):Prop:=
 ∃d g e h f,H fa=some (.frz (PySem.W.fnMade name qual a body b clos e h d f) (.own fa))/\H d=some (.frz g (.own d))/\∃L t,g.data=.fields L/\L[1]?=some (.str qual t)
def gP.same(h:gP H fa name qual a body b clos)(s:Same H H'):gP H' fa name qual a body b clos:=
 let⟨f,g,d,i,e,j,k,l⟩:=h;⟨f,g,d,i,e,s _ _ j,s _ _ k,l⟩
section
def BM{Q:Flow->ba->Prop}(I:Inv X pins σ H s)(hB:jV X.mg X.base)(kg:X.env.code=.ref c)(hK:PySem.W.codeHdIn X.K c x=true)(hT:H x=some (.tbl tb))(hq:qualnameIn X.env name name=qual)(hm:(g,qual)∈tb)(hu:∀p∈tb,p.1.line=g.line->p.1.col=g.col->p.2=qual)(yh:closureFor f X.env=pure clos)(hd0:d.defaults=[])(hk0:d.kw_defaults=[])(ha:annTrees d none X.env=[])(hN:X.N.Nodup)(hi:X.N[i]?=some name)(hx:Loc X.env.scope name)(hf:X.fn name=true\/X.env.scope.names.lookup name=some .local)(h:∀fa H' s',Inv X pins (σ.set i (some (.ref fa))) H' s'->Same H H'->gP H' fa name qual d body f clos->Q .next s'):a9 (be X.prog X.w) X.A (exec (.FunctionDef name d body [] none [] f none name g) X.env) Q X.xe s:=by
 refine PySem.W.nestDef_K hd0 hk0 ha ?_;rw[hq];have hg:s.heap.Ns bt X.mg:=I.mod.glob.keeps I.bk;have C:PySem.W.CodeHd s.heap c x:=PySem.W.codeHd_of_K I.kIn hK;obtain⟨ps,hP,m,O⟩:=I.hok x _ hT;have hgP:bt≠x:=λq=>by obtain⟨o,es,ep,e,hd,_⟩:=hg;rw[q,hP]at e;cases e;cases hd
 have T:s.heap.BuiltinsAt X.mg x:=by
  obtain⟨bm,ob,b1,b2,b3,b4,b5,b6⟩:=hB;have y:=I.bk _ _ b3;refine⟨bm,ob,b1,b2,λq=>?_,λq=>?_,y,b4,b5,b6⟩
  .obtain⟨o,es,ep,e,hd,_⟩:=hg;rw[<-q,y]at e;cases e;rw[hd]at b6;cases b6
  rw[q,hP]at y;cases y;cases b4
 have U:∀b,H b=none->b≠x:=λb n z=>by rw[z,hT]at n;cases n
 have neL:X.env.locals≠x:=U _ I.free;rcases O _ hm with hnf|⟨j,oc,L,t,hf',hc',dc⟩
 .refine PySem.W.makeFunction_K (mg:=X.mg) yh I.ok.glob hg kg C hP m hnf hgP T λj k l h' tk hx' B ah hrec htb=>?_;obtain⟨c2,oc,L,t,e2,bp,hd,hv⟩:=hrec;cases e2;have old:∀b u,H b=some u->b<s.heap.objs.size:=λb u e=>I.hok.lt e;have hcN:H j=none:=I.hok.fresh B;have E:H h'.objs.size=none:=I.hok.fresh (aAp B<|aDw ah);have ncf:j≠h'.objs.size:=aAm ah;have J:Same H (upd (upd H j<|.frz oc (.own j)) h'.objs.size<|.frz (PySem.W.fnMade name qual d body f clos l ((X.mg "__name__").getD .none) j k) (.own h'.objs.size)):=λb u e=>by rw[l6 (n4 e E),l6 (n4 e hcN)];exact e
  have ph:∀b o,b≠x->s.heap.get? b=some o->(h'.push<|PySem.W.fnMade name qual d body f clos l ((X.mg "__name__").getD .none) j k).get? b=some o:=λb o T e=>aAc _ (hx' b o T e);have lts:∀b o,s.heap.get? b=some o->b≠j/\b≠h'.objs.size:=λb o e=>⟨aAm (aAw (aAg e) B),aAm (aAw (aAg e)<|aAp B<|aDw ah)⟩;have I1:=I.step (H':=upd (upd H j<|.frz oc (.own j)) h'.objs.size (.frz (PySem.W.fnMade name qual d body f clos l ((X.mg "__name__").getD .none) j k) (.own h'.objs.size)))
   (h':=h'.push (PySem.W.fnMade name qual d body f clos l ((X.mg "__name__").getD .none) j k)) (g':=s.gens) (t':=tk) (d':=s.drawn) (ch:=[]) (λ_ z=>nomatch z) (λb o _ _ _ e n=>ph b o (U b n) e) (λb o _ _ _ e n=>⟨o.slots,ph b o (U b n) e⟩)
   (λb o _ e n=>by rw[l6 (lts b o e).2,l6 (lts b o e).1];exact n) (λb o _ e=>by
    by_cases T:b=x
    .subst T;exact⟨_,aAc _ htb⟩
    .exact⟨o,ph b o T e⟩) (λb Y e=>J _ _ e) (λb o u e=>J _ _ e) (λb tb e=>J _ _ e) (λm' hm'=>by
    obtain⟨o,es,ep,e,r⟩:=hm';exact⟨o,es,ep,ph _ o neL e,r⟩) (λb u e=>by
    by_cases hbf:b=h'.objs.size
    .subst hbf;rw[j2]at e;cases e;exact⟨aAr _ rfl,_,aAr _ rfl⟩
    rw[l6 hbf]at e;by_cases hbc:b=j
    .subst hbc;rw[j2]at e;cases e;exact⟨aAc _ bp,_,aAc _ bp⟩
    rw[l6 hbc]at e;by_cases hbP:b=x
    .subst hbP;rw[hT]at e;cases e;refine⟨_,aAc _ htb,?_,λp hp=>?_⟩
     .rw[aGn];exact TriplesOk_snoc _ _ _ _ m
     rw[aGn];show eR p.1 (ps.toList++[ez g.line,ez g.col,.ref j])=none\/_;by_cases hpp:(g.line:Int)=p.1.line/\(g.col:Int)=p.1.col
     .rcases O p hp with h0|⟨c3,oc3,vs3,t3,h0,h1,h2⟩
      .have e1:g.line=p.1.line:=by exact_mod_cast hpp.1
       have e2:g.col=p.1.col:=by exact_mod_cast hpp.2
       refine .inr ⟨j,oc,L,t,?_,by rw[l6 ncf,j2],hd,?_⟩
       .rw[e1,e2];exact codeAmong_snoc _ m h0
       rw[hu p hp e1.symm e2.symm];exact hv
      exact .inr ⟨c3,oc3,vs3,t3,uC _ m h0,J _ _ h1,h2⟩
     rcases O p hp with h0|⟨c3,oc3,vs3,t3,h0,h1,h2⟩
     .exact .inl (NW hpp _ m h0)
     exact .inr ⟨c3,oc3,vs3,t3,uC _ m h0,J _ _ h1,h2⟩
    refine(I.hok b u e).ac2 (λb2 v hc q=>ph b2 v (λz=>?_) q) (λb2 z=>J _ _ z) λb2 u _ z=>J _ _ z;rcases hc with hc|hc
    .exact hbP (hc▸z)
    rw[z,hT]at hc;cases hc) I.bare
  refine M6 I1 hN hi hx (show RelV (.ref h'.objs.size) _ from rfl) (λs' I'=>h _ _ s' I' J ⟨j,oc,l,_,k,j2,by rw[l6 ncf,j2],L,t,hd,hv⟩) hf
 refine PySem.W.makeFunction_hit (mg:=X.mg) yh I.ok.glob hg kg C hP m hf' T λk l h' tk hk gu=>?_;have E:H h'.objs.size=none:=I.hok.fresh gu;have I1:=I.laid (a:=h'.objs.size) (o:=.frz (PySem.W.fnMade name qual d body f clos l ((X.mg "__name__").getD .none) j k) (.own h'.objs.size)) (h':=h'.push (PySem.W.fnMade name qual d body f clos l ((X.mg "__name__").getD .none) j k)) (t':=tk)
  (λb u e=>aAc _ (hk b u e)) gu ⟨aAr _ rfl,_,aAr _ rfl⟩
 refine M6 I1 hN hi hx (show RelV (.ref h'.objs.size) _ from rfl) (λs' I'=>h _ _ s' I' (j9 E _) ⟨j,oc,l,_,k,j2,j9 E _ _ _ hc',L,t,dc⟩) hf
end
structure Nst where
 name:Str
 qual:Str
 params:Arguments
 body:List Stmt
 scope:Scope
 pos:Pos
 ps:List Str
 ls:List Str
 fn:List Str
 js:List Nat
 F:Ev->R Out
 mm:List D->List D->R D
 i:Nat
abbrev Nst.stmt(n:Nst):cv:=.FunctionDef n.name n.params n.body [] none [] n.scope none n.name n.pos
structure NstOk(X:Cx)(k:Nat)(n:Nst):Prop where
 sc:NScope n.ps n.ls n.fn n.scope
 one:n.ps.length=1
 body:∀(fa:Addr) (cd:Value) (clos:List (Str×Addr)) (A:Around) (outer:List Env) (s:Shared) (H:Hp),Room k (A.deeper (PySem.W.envX n.qual n.scope s.heap.objs.size fa cd clos))->bU (cxM X.prog X.w X.K X.mg X.base (n.ps++(n.ls++n.fn)) (PySem.W.envX n.qual n.scope s.heap.objs.size fa cd clos) A outer s H) n.body n.F
 mm:∀wd ds d,wd.length=n.fn.length->ds.length=n.ps.length->n.mm wd ds=.ok d->N9 (n.F (O5 (ds.map Sl.v) n.ls.length .no (wd.map Sl.v)))=.ok d
 bind:∀(clos:List (Str×Addr)) (doc pm cd ctv:Value) (us:List Value),us.length=n.ps.length->bindArgs (PySem.W.fnX n.name n.qual n.params n.body n.scope clos .none .none doc pm none cd ctv) ⟨us,[]⟩=pure (n.ps.zip us)
 len:n.js.length=n.fn.length
 at_:∀(i j:Nat) (x:Str),n.js[i]?=some j->n.fn[i]?=some x->X.N[j]?=some x/\X.env.scope.names.lookup x=some .cell
 d0:n.params.defaults=[]
 k0:n.params.kw_defaults=[]
 nm:X.N[n.i]?=some n.name
 lc:Loc X.env.scope n.name
 st:X.fn n.name=true\/X.env.scope.names.lookup n.name=some .local
 dbg:(n.name==ix)=false
 cdt:(n.name==ka)=false
structure ClosOk(X:Cx)(n:Nst)(clos:List (Str×Addr)):Prop where
 eq:closureFor n.scope X.env=pure clos
 ann:annTrees n.params none X.env=[]
 qn:qualnameIn X.env n.name n.name=n.qual
 sub:∀x c,clos.lookup x=some c->X.env.cells.lookup x=some c
 has:∀x∈n.fn,∃c,clos.lookup x=some c
def dD:List Nat->Ev->R (List D)
 |[],_=>.ok []
 |j::a,ρ=>(eG j ρ).bind λd=>(dD a ρ).bind λb=>.ok (d::b)
theorem TL{K:iu}{l H:Hp}{m O:bc->Prop}{σ:St}{ρ:Ev}(E:EnvOk K l m H O σ ρ):∀{b:List Nat}{wd:List D},dD b ρ=.ok wd->∃wv,Reps K H O wv wd/\wv.length=b.length/\∀(i j:Nat) (v:V),b[i]?=some j->wv[i]?=some v->σ[j]?=some (some v)
 |[],wd,h=>by cases h;exact⟨[],.nil,rfl,λi j v e=>by simp at e⟩
 |j::b,wd,h=>by
  unfold dD at h;cases a:eG j ρ with
  |ok d=>
   rw[a,R.aa0]at h;cases f:dD b ρ with
   |ok u=>
    rw[f,R.aa0]at h;cases h;obtain⟨wv,r,n,at_⟩:=TL E f;have:ρ[j]?=some (.v d):=by
     unfold eG at a;split at a
     .rename_i q;cases a;exact q
     cases a
    obtain⟨v,o,p⟩:=E.val j d this;refine⟨v::wv,.cons p r,by simp[n],λi s t g k=>?_⟩;cases i with
    |zero=>simp at g k;subst g k;exact o
    |succ i=>exact at_ i s t (by simpa using g) (by simpa using k)
   |ex z=>rw[f]at h;cases h
   |bad=>rw[f]at h;cases h
  |ex z=>rw[a]at h;cases h
  |bad=>rw[a]at h;cases h
section
def V1(h:cq)(a:List (Str×bc)):List (bc×Obj):=a.filterMap λp=>(h.get? p.2).map λo=>(p.2,o)
def M2(e:(V1 h a).lookup b=some o):h.get? b=some o/\∃x,(x,b)∈a:=by
 obtain⟨p,d,q⟩:=aCa.mp (mem_lookup e);cases z:h.get? p.2 with
 |none=>rw[z]at q;cases q
 |some f=>rw[z]at q;have g:(p.2,f)=(b,o):=Option.some.inj q;injection g with i j;subst i j;exact⟨z,p.1,d⟩
def mU(f:(x,b)∈a)(e:h.get? b=some o):∃d,(V1 h a).lookup b=some d:=by
 have:(b,o)∈V1 h a:=aCa.mpr ⟨(x,b),f,by show(h.get? b).map _=_;rw[e];rfl⟩;cases q:(V1 h a).lookup b with
 |some d=>exact⟨d,rfl⟩
 |none=>have:=List.lookup_eq_none_iff.mp q (b,o) this;simp at this
def a0t(X:Cx)(n1 n2:Nst)(clos1 clos2:List (Str×bc))(f:Ev->R D)(M:D->(List D->R D)->(List D->R D)->R D):TE:=λσ H Q=>∃d e O ρ b a,EnvOk X.K d e H O σ ρ/\σ[n1.i]?=some (some<|V.ref b)/\σ[n2.i]?=some (some<|V.ref a)/\
 gP H b n1.name n1.qual n1.params n1.body n1.scope clos1/\gP H a n2.name n2.qual n2.params n2.body n2.scope clos2/\RC X H O ((f ρ).bind λg=>(dD n1.js ρ).bind λh=>(dD n2.js ρ).bind λj=>M g (n1.mm h) (n2.mm j)) Q
def BD{n:Nst}{clos a:List (Str×bc)}{k:Nat}{h:P4}{σ:St}{H:Hp}{s:ba}{H9:Hp}{O0 O:bc->Prop}{ρ:Ev}{fa:bc}{wd:List D}(ok:NstOk X k n)(j:ClosOk X n clos)(I:Inv X h σ H s)(E:EnvOk X.K H9 O0 H O σ ρ)
  (hA:∀p∈clos,p∈a) (l:∀x b,(x,b)∈a->X.env.cells.lookup x=some b) (r:gP H fa n.name n.qual n.params n.body n.scope clos) (hw:dD n.js ρ=.ok wd):
  ∀t z,Kp (dU H (V1 s.heap a)) O t z->MG X.prog X.w X.K X.mg X.base (k+1) 1 (n.mm wd) t z fa:=by
 obtain⟨c',oc,T,pm,U,h1,h2,h3⟩:=r;obtain⟨wv,td,hl,at_⟩:=TL E hw;have hn:∀b o,(V1 s.heap a).lookup b=some o->H b=none:=λb o q=>by obtain⟨_,x,Y⟩:=M2 q;exact I.freeC x b (l x b Y)
 have N:=fF hn
 suffices B:∀t z,Kp (dU H<|V1 s.heap a) O t z->MG X.prog X.w X.K X.mg X.base (k+1) n.ps.length (n.mm wd) t z fa by rw[ok.one]at B;exact B
 refine lz (cs:=V1 s.heap a) (wv:=wv) (wd:=wd) (F:=n.F) ok.sc (λA g s H hr=>ok.body fa (.ref c') clos A g s H hr) (λds d oi e=>ok.mm wd ds d (by rw[<-td.length,hl,ok.len]) oi e) (λs us oi=>.of_eq (ok.bind clos T pm (.ref c') U us oi)) (N _ _ h1) (N _ _ h2) h3
  (λb o q=>⟨fH q,?_⟩) (λi x v C q2=>?_) (λx c q=>?_) (λx y c C q2=>I.ok.inj x y c (j.sub x c C) (j.sub y c q2)) (by rw[hl,ok.len]) (td.same N) (E.grow N).trk
 .obtain⟨e1,x,Y⟩:=M2 q;obtain⟨v,o',e2,e3⟩:=I.cell x b (l x b Y);rw[e1]at e2;cases e2;exact⟨v,e3⟩
 .have hi:i<n.js.length:=by rw[ok.len];exact(aAC.mp C).1
  have ej:n.js[i]?=some n.js[i]:=aAi hi;obtain⟨hN,hk⟩:=ok.at_ i _ x ej C;have hσ:=at_ i _ v ej q2;obtain⟨m,zb,J⟩:=I.loc;obtain⟨u,ru,L⟩:=J _ x v hN hσ (.inr (.inl hk));rcases L with⟨jt,_⟩|⟨_,c,il,o,Q,hd⟩
  .have f:X.env.scope.names.lookup x=some .local:=jt;rw[hk]at f;cases f
  obtain⟨c2,q3⟩:=j.has x (aAx C);have q4:=j.sub x c2 q3;rw[il]at q4;cases q4;obtain⟨o',q5⟩:=mU (hA _<|PySem.mem_of_lookup q3) Q;have:=(M2 q5).1;rw[Q]at this;cases this;exact⟨c,u,o,q3,q5,hd,ru⟩
 obtain⟨v,o,Q,_⟩:=I.cell x c (j.sub x c q);exact mU (hA _<|PySem.mem_of_lookup q) Q
def YJ(qo:NstOk X k n1)(qp:NstOk X k n2)(ym:ClosOk X n1 clos1)(jv:ClosOk X n2 clos2)(J:∀x b,(x,b)∈clos1++clos2->X.env.cells.lookup x=some b)(FF:FnOk X.prog X.w X.K X.mg X.base uI kf g gd N (spF X.K (MG X.prog X.w X.K X.mg X.base (k+1) 1) M))(hr:Room kf X.A)(Y:X.mg x=some (.ref g))(hk:PySem.W.keepIn X.K (.ref g)=true)(n:Binds X.K gd N [])(h3:N.length=3)(he:PD X e f)(yd:∀y,X.fn y=true)(hg:Gl X x:=by rfl)(ia:(x==ix)=false:=by decide)(zc:bb [e,.Name n1.name p1,.Name n2.name t] X.env=(false,dm e X.env)::bb [.Name n1.name p1,.Name n2.name t] X.env:=by rfl)(zh:bb [.Name n1.name p1,.Name n2.name t] X.env=(false,dm (.Name n1.name p1) X.env)::bb [.Name n2.name t] X.env:=by rfl)(hs3:bb [.Name n2.name t] X.env=(false,dm (.Name n2.name t) X.env)::bb [] X.env:=by rfl)(bf:(cy pos (bb [.Name n1.name p1,.Name n2.name t] X.env)).any (·.1)=false:=by rfl):
  PE X (.Call (.Name x p) [e,.Name n1.name p1,.Name n2.name t] [] pos) (a0t X n1 n2 clos1 clos2 f M):=by
 rintro pins s σ H Q I ⟨H9,O0,O,ρ,yi,fa2,E,h1,h2,md1,md2,q⟩;have vis:∀{y:Str},Loc X.env.scope y->zI X.env.scope y:=λh=>h.elim .inl λz=>.inr (.inl z);have rh:PA X [e,.Name n1.name p1,.Name n2.name t] _:=O9 he (O9 (O6 qo.nm (vis qo.lc) qo.dbg qo.cdt) (O9 (O6 qp.nm (vis qp.lc) qp.dbg qp.cdt) dG hs3) zh) zc;refine aBg (xA I hg Y ?_ ia);refine PySem.W.callWith_K (h₀:=X.base) I.ok.mod.kin hk (F5 (rh pos pins s σ H (λL i=>∃v1 T w1 w2 d,L=[v1,.ref yi,.ref fa2]/\Same H i/\Rep X.K i O v1 T/\dD n1.js ρ=.ok w1/\dD n2.js ρ=.ok w2/\M T (n1.mm w1) (n2.mm w2)=.ok d/\∀v l,Same i l->Rep X.K l O v d->Q v l) I ⟨H9,O0,O,ρ,E,?_⟩) λus B z9=>?_) zc bf
 .cases e1:f ρ with
  |ex z=>rw[e1]at q;exact q
  |bad=>rw[e1]at q;exact q
  |ok T=>
   rw[e1,R.aa0]at q;cases C:dD n1.js ρ with
   |ex z=>rw[C]at q;exact(q H<|Same.refl _).elim
   |bad=>rw[C]at q;exact q.elim
   |ok w1=>
    rw[C,R.aa0]at q;cases e3:dD n2.js ρ with
    |ex z=>rw[e3]at q;exact(q H<|Same.refl _).elim
    |bad=>rw[e3]at q;exact q.elim
    |ok w2=>
     rw[e3,R.aa0]at q;cases e4:M T (n1.mm w1) (n2.mm w2)with
     |ex z=>rw[e4]at q;exact(q H<|Same.refl _).elim
     |bad=>rw[e4]at q;exact q.elim
     |ok d=>rw[e4]at q;exactλv1 i B r1=>⟨_,h1,_,h2,v1,T,w1,w2,d,rfl,B,r1,rfl,rfl,e4,λv l s2 r2=>q v l (B.trans s2) r2⟩
 obtain⟨L,i,a,r,v1,T,w1,w2,d,ev,sm,r1,c1,c2,em,qq⟩:=z9;refine⟨a.kIn,?_⟩;subst ev;have E1:=E.grow sm;generalize wo:V1 B.heap (clos1++clos2)=j;have hn:∀b o,j.lookup b=some o->B.heap.get? b=some o/\i b=none/\wA o:=λb o z=>by rw[<-wo]at z;obtain⟨e1,y,Y⟩:=M2 z;obtain⟨v,o',C,e3⟩:=a.cell y b (J y b Y);rw[e1]at C;cases C;exact⟨e1,a.freeC y b (J y b Y),v,e3⟩
 have hn0:∀b o,j.lookup b=some o->i b=none:=λb o z=>(hn b o z).2.1;have U:Same i (dU i j):=fF hn0;have E2:=E1.grow U;have m:=a.af0;have nofr:∀b o,j.lookup b=some o->b∉yV X.stack:=λb o z n=>by
  rw[<-wo]at z;obtain⟨_,y,hmy⟩:=M2 z;rcases aAd.mp (a.ab6 b n)with e|n
  .exact a.cne y b (J y b hmy) e
  obtain⟨_,o',ho,_⟩:=a.ok.funs.mem n;exact absurd (aAw (aAg ho)<|a.ok.cab y b (yd y)<|J y b hmy) (aBr _)
 have nob:∀b o,X.base.get? b=some o->j.lookup b=none:=λb o e=>by
  cases z:j.lookup b with
  |none=>rfl
  |some o'=>rw[<-wo]at z;obtain⟨_,y,Y⟩:=M2 z;exact absurd (aAw (aAg e)<|aAp a.ok.bsz<|a.ok.cab y b (yd y)<|J y b Y) (aBr _)
 have C:Env0 X.prog X.w X.K X.mg X.base X.A X.stack B (dU i j):=⟨m.frames,m.mod,λb o e=>⟨(m.bs b o e).1,by rw[S1 (nob b o e)];exact(m.bs b o e).2⟩,m.bsz,m.funs,λb n=>by
  cases z:j.lookup b with
  |none=>rw[S1 z];exact m.frf b n
  |some o=>exact absurd n (nofr b o z),PM m.hok λb o z=>⟨(hn b o z).1,(hn b o z).2.1⟩,m.bare⟩
 have cl1:=BD qo ym a E1 (λp hp=>aBl _ hp) J (md1.same sm) c1;have cl2:=BD qp jv a E1 (λp hp=>aAN _ hp) J (md2.same sm) c2;rw[wo]at cl1 cl2;have hl:us.length=N.length:=by rw[<-r.length,h3];rfl
 have hbs:=n B us a.kIn (by rw[aCb];exact hl);rw[aCb]at hbs;refine wpAny_call (aDU (FF.run X.A X.stack B (dU i j) ⟨us,[]⟩ us _ (λv l=>Q v (T0 l j)) (λ_ _ _=>False) hr C hbs r ⟨O,v1,T,yi,_,fa2,_,d,rfl,r1.same U,cl1,cl2,E2.trk,E2.tab,nM a O E1.trk,em,λv l s2 r2=>?_⟩) λrr s' hq=>?_)
 .have hz:∀b o,j.lookup b=some o->l b=some (.frz o (.own b)):=λb o z=>s2 _ _ (fH z);refine qq v _ (λb u e=>y9 hz (s2 b u<|U b u e) λo z _=>?_) (r2.hid hz);rw[hn0 b o z]at e;cases e
 cases rr with
 |error e=>exact hq.elim
 |ok fl=>
  cases fl with
  |next=>exact aAf hq
  |brk=>exact aAf hq
  |cont=>exact aAf hq
  |ret u=>obtain⟨v,l,os,bare,un,hok,rv,qv⟩:=hq;obtain⟨U2,k2,_⟩:=mj un hok hn;exact a.after ⟨v,_,os,bare,U2,k2,rv,qv⟩
def LY(a:NstOk X k n1)(h:NstOk X k n2)(u:ClosOk X n1 clos1)(B:ClosOk X n2 clos2)(hA:∀x b,(x,b)∈clos1++clos2->X.env.cells.lookup x=some b)(hB:jV X.mg X.base)(kg:X.env.code=.ref c)(hK:PySem.W.codeHdIn X.K c Pt=true)(l:(Pt,tb)∈Tabs.tbs)(L:(n1.pos,n1.qual)∈tb)(jm:(n2.pos,n2.qual)∈tb)(dh:∀p∈tb,p.1.line=n1.pos.line->p.1.col=n1.pos.col->p.2=n1.qual)(Q:∀p∈tb,p.1.line=n2.pos.line->p.1.col=n2.pos.col->p.2=n2.qual)(ag:n1.i≠n2.i)(hN:X.N.Nodup)(FF:FnOk X.prog X.w X.K X.mg X.base uI kf g gd m (spF X.K (MG X.prog X.w X.K X.mg X.base (k+1) 1) M))(hr:Room kf X.A)(hm:X.mg x=some (.ref g))(hk:PySem.W.keepIn X.K (.ref g)=true)(hb:Binds X.K gd m [])(h3:m.length=3)(he:PD X e f)(yd:∀y,X.fn y=true)(hg:Gl X x:=by rfl)(ia:(x==ix)=false:=by decide)(zc:bb [e,.Name n1.name n,.Name n2.name j] X.env=(false,dm e X.env)::bb [.Name n1.name n,.Name n2.name j] X.env:=by rfl)(zh:bb [.Name n1.name n,.Name n2.name j] X.env=(false,dm (.Name n1.name n) X.env)::bb [.Name n2.name j] X.env:=by rfl)(T:bb [.Name n2.name j] X.env=(false,dm (.Name n2.name j) X.env)::bb [] X.env:=by rfl)(bf:(cy U (bb [.Name n1.name n,.Name n2.name j] X.env)).any (·.1)=false:=by rfl):
  bU X [n1.stmt,n2.stmt,.Return (some (.Call (.Name x p) [e,.Name n1.name n,.Name n2.name j] [] U)) rpos] (λρ=>((f ((ρ.set n1.i .no).set n2.i .no)).bind λY=>(dD n1.js ((ρ.set n1.i .no).set n2.i .no)).bind λw1=>(dD n2.js ((ρ.set n1.i .no).set n2.i .no)).bind λw2=>M Y (n1.mm w1) (n2.mm w2)).bind λd=>.ok (.rt d)):=by
 rintro H9 O0 o s σ H D I ⟨O,ρ,E,fk,q⟩;refine aEp (BM (σ:=σ) I hB kg hK (E.tab _ l) u.qn L dh u.eq a.d0 a.k0 u.ann hN a.nm a.lc a.st λC H1 s1 I1 sm1 md1=>?_);have E1:EnvOk X.K H9 O0 H1 O (σ.set n1.i<|some<|.ref C) (ρ.set n1.i .no):=(E.grow sm1).put n1.i (λz=>z) trivial;refine aEp (BM (σ:=σ.set n1.i (some<|.ref C)) I1 hB kg hK (E1.tab _ l) B.qn jm Q B.eq h.d0 h.k0 B.ann hN h.nm h.lc h.st λt H2 s2 I2 yg md2=>?_);have J:EnvOk X.K H9 O0 H2 O ((σ.set n1.i<|some<|.ref C).set n2.i (some<|.ref t)) ((ρ.set n1.i .no).set n2.i .no):=(E1.grow yg).put n2.i (λz=>z) trivial;have l1:n1.i<σ.length:=by rw[I.len];exact(aAC.mp a.nm).1
 have l2:n2.i<σ.length:=by rw[I.len];exact(aAC.mp h.nm).1
 refine nR (xR<|YJ a h u B hA FF hr hm hk hb h3 he yd hg ia zc zh T bf) o s2 _ H2 D I2 ⟨H9,O0,O,_,C,t,J,?_,?_,md1.same yg,md2,?_⟩
 .rw[aCC (aBY ag),aBM l1]
 .rw[aBM (by rw[aFW];exact l2)]
 revert q;dsimp only;generalize((f<|(ρ.set n1.i .no).set n2.i .no).bind λY=>(dD n1.js<|(ρ.set n1.i .no).set n2.i .no).bind λw1=>(dD n2.js<|(ρ.set n1.i .no).set n2.i .no).bind λw2=>M Y (n1.mm w1) (n2.mm w2))=rr;intro q;cases rr with
 |ok d=>exactλv H' s r=>q v H' (J.same.trans s) (r.sub J.sub)
 |ex z=>exactλH' s=>q H' (J.same.trans s)
 |bad=>exact q
end
def wM(K:iu):Sp:=λL H Q _=>∃(a:bc) (b:List Int),L=[.ref a]/\P7 K H a (b.map V.int)/\b.length<=63/\(∀x∈b,aBe x<=1048576)/\Tb H/\∀d,Q (.bl true) d
def WG{P:bM}{w:cp}{K:iu}{mg:cM}{base:cq}{k:Nat}{f:bc}{fd:dA}{m:List D->R D}(F:FnOk P w K mg base uI k f fd ["script"] (spD K 1 m))
  (h:∀ns:List Int,ns.length<=63->(∀x∈ns,aBe x<=1048576)->m [.lst (ns.map D.int)]=.ok (.bl true)):FnOk P w K mg base uI k f fd ["script"] (wM K):=
 F.imp<|by rintro L H Q E ⟨a,ns,e,b,d,g,i,q⟩;exact⟨λ_=>False,_,_,by rw[e];exact .cons (.lst b (λz=>z) (Reps.ints ns)) .nil,rfl,λ_ z=>z.elim,i,λ_ _ _ z=>z,h ns d g,λv j _ r=>by cases r;exact q j⟩
def JW{P:bM}{w:cp}{K:iu}{mg mb:cM}{k:Nat}{fa a:bc}{fd:dA}{f:ba}{L:List au}{ns:List Int}
  (KX:K.In f.heap) (zb:f.heap.Ns bt mg) (j:f.heap.Ns builtinsNs mb) (hbb:∀x:Str,x≠ "__name__"->mb x=de x) (J:f.heap.NoLimit) (hB:jV mg f.heap) (hg:f.gens=#[])
  (N:f.heap.get? a=some {cls:=.type "list",data:=.seq L.toArray}) (hi:IntsAre L ns) (hl:ns.length<=63) (xh:∀x∈ns,aBe x<=1048576) (hr:Room k callerA)
  (hT:∀p∈Tabs.tbs,f.heap.get? p.1=some (PySem.W.tabObj #[])/\isCodeTable f.heap p.1) (hTd:(Tabs.tbs.map (·.1)).Nodup) (hKn:PySem.W.noTabs K=true)
  (F:∀base:cq,K.In base->base.Ns bt mg->jV mg base->FnOk P w K mg base uI k fa fd ["script"] (wM K)) (xg:∀(s:ba) (u:au),BindsTo s fd ⟨[u],[]⟩ [("script",u)]):
  gm (be P w) callerA (.call (.ref fa) ⟨[.ref a],[]⟩) (λr s'=>r=.ok (.ret (.bool true))/\OldK f.heap s'.heap/\s'.os=f.os/\AllBare s'.gens) f:=by
 have rv:=L2.V9 hi;have O:=hi.length;have jc:ns.length<=sizeLine:=aAp hl (by decide);have C:∀b i,Tabs.tbs.lookup b=some i->f.heap.get? b=some (PySem.W.tabObj #[])/\isCodeTable f.heap b:=λb i e=>hT (b,i) (mem_lookup e);have nta:Tabs.tbs.lookup a=none:=by
  cases e:Tabs.tbs.lookup a with
  |none=>rfl
  |some i=>have:=(C a i e).1;rw[N]at this;cases this
 have noK:∀b o,K.lookup b=some o->Tabs.tbs.lookup b=none:=λb o e=>by
  cases z:Tabs.tbs.lookup b with
  |none=>rfl
  |some i=>have Q:=KX b o e;rw[(C b i z).1]at Q;cases Q;have l:=aCj.mp hKn (b,_) (PySem.W.mem_of_lookupK e);exact absurd (show false=true from l) aAU
 let put:Hp->Hp:=λH b=>match Tabs.tbs.lookup b with
  |some i=>some (.tbl i)
  |none=>H b
 have qD:∀(H:Hp) b i,Tabs.tbs.lookup b=some i->put H b=some (.tbl i):=λH b i e=>by show(match Tabs.tbs.lookup b with|some i=>some (HO.tbl i)|none=>H b)=_;rw[e]
 have E:∀(H:Hp) b,Tabs.tbs.lookup b=none->put H b=H b:=λH b e=>by show(match Tabs.tbs.lookup b with|some i=>some (HO.tbl i)|none=>H b)=_;rw[e]
 have y:∀g:Hp,(∀b,g b=none\/∃Y,g b=some (.frz {cls:=.type "list",data:=.seq L.toArray} (.lst Y)))->P7 K (put g) a (ns.map V.int)->(∀b u,g b=some u->ObjOk P w (put g) f.heap b u)->(∀b,g b≠none->b=a)->(g a≠none->K.lookup a=none)->
   gm (be P w) callerA (.call (.ref fa) ⟨[.ref a],[]⟩) (λr s'=>r=.ok (.ret (.bool true))/\OldK f.heap s'.heap/\s'.os=f.os/\AllBare s'.gens) f:=by
  intro g hO hS T hA hK;have U:fT P w (put g) f.heap:=λb u e=>by
   cases z:Tabs.tbs.lookup b with
   |none=>rw[E _ b z]at e;exact T b u e
   |some i=>rw[qD _ b i z]at e;cases e;exact⟨#[],(C b i z).1,trivial,λp _=>.inl rfl⟩
  have oa:∀{b:bc}{o:Obj},f.heap.get? b=some o->put g b=none->(sG f.heap<|put g).get? b=some o:=λe n=>PR e n;have none_of:∀{b:bc}{o:Obj},f.heap.get? b=some o->o≠PySem.W.tabObj #[]->o≠{cls:=.type "list",data:=.seq L.toArray}->put g b=none:=λ{b o} e n1 n2=>by
   cases z:Tabs.tbs.lookup b with
   |some i=>have:=(C b i z).1;rw[e]at this;exact absurd (Option.some.inj this) n1
   |none=>
    rw[E _ b z];cases q:g b with
    |none=>rfl
    |some u=>have e':b=a:=hA b (by rw[q];simp);subst e';rw[N]at e;exact absurd (Option.some.inj e).symm n2
  have t:∀{b:bc}{m:cM},f.heap.Ns b m->(sG f.heap<|put g).Ns b m:=λ{b m} ⟨o,es,ep,e,d,r⟩=>⟨o,es,ep,oa e (none_of e (λz=>by rw[z]at d;cases d) λz=>by rw[z]at d;cases d),d,r⟩;have hKb:K.In (sG f.heap<|put g):=λb o e=>oa (KX b o e) (by
   rw[E _ b (noK b o e)];cases q:g b with
   |none=>rfl
   |some u=>have e':b=a:=hA b (by rw[q];simp);subst e';rw[hK (by rw[q];simp)]at e;cases e)
  have hBb:jV mg (sG f.heap<|put g):=by obtain⟨bm,ob,b1,b2,b3,b4,b5,b6⟩:=hB;exact⟨bm,ob,b1,b2,oa b3 (none_of b3 (λz=>by rw[z]at b6;cases b6) λz=>by rw[z]at b6;cases b6),b4,b5,b6⟩
  have hM:Mod K mg (sG f.heap<|put g):=⟨hKb,t zb,⟨mb,t j,hbb⟩,let⟨mc,A,l⟩:=J;⟨mc,t A,l⟩⟩;have e0:Env0 P w K mg (sG f.heap<|put g) callerA [] f (put g):=⟨rfl,hM,λb o e=>WS e,aEn (LS _ _),trivial,λb j=>absurd (show b∈([]:List bc)from j) (by simp),U,.of_eq hg⟩;have tb0:Tb (put g):=λp hp=>qD _ p.1 p.2 (bC hTd hp);refine aDU ((F _ hKb (t zb) hBb).run callerA [] f (put g) ⟨[.ref a],[]⟩ [.ref a] [.ref a] (λv _=>v=.bl true) (λ_ _ _=>False) hr e0 (xg f<|.ref a) (.cons rfl .nil) ⟨a,ns,rfl,hS,hl,xh,tb0,λ_=>rfl⟩) λr s' h=>?_;cases r with
  |error e=>exact(show False from h).elim
  |ok fl=>
   cases fl with
   |next=>exact aAf h
   |brk=>exact aAf h
   |cont=>exact aAf h
   |ret u=>
    obtain⟨v,H',os,bare,un,zd,r',q⟩:=h;have q':v=.bl true:=q;subst q';obtain rfl:u=aDC true:=r';have B:∀b o,f.heap.get? b=some o->s'.heap.get? b=some o\/(isCodeTable f.heap b/\o=PySem.W.tabObj #[]/\∃I,s'.heap.get? b=some (PySem.W.tabObj I)):=λb o e=>by
     cases z:Tabs.tbs.lookup b with
     |some i=>have:=(C b i z).1;rw[e]at this;obtain⟨I,hps,_⟩:=zd b _ (un.tbls b i<|qD _ b i z);exact .inr ⟨(C b i z).2,Option.some.inj this,I,hps⟩
     |none=>
      refine .inl ?_;rcases hO b with n|⟨Y,n⟩
      .exact un.keep b o e (by rw[E _ b z];exact n) (by intro z;exact absurd (show b∈([]:List bc)from z) (by simp)) (by simp)
      have z1:put g b=some (.frz {cls:=.type "list",data:=.seq L.toArray} (.lst Y)):=by rw[E _ b z];exact n
      have z2:=un.frzs b _ _ z1;obtain⟨Q,_⟩:=U b _ z1;obtain⟨e2,_⟩:=zd b _ z2;rw[e]at Q;cases Q;exact e2
    refine⟨rfl,⟨λb o e=>?_,λb o e=>?_⟩,os,bare⟩
    .rcases B b o e with h|⟨A,l,I,h3⟩
     .exact .inl h
     subst l;exact .inr (.inl ⟨A,rfl,#[],I,rfl,by rw[Array.empty_append];exact h3⟩)
    rcases B b o e with h|⟨A,l,I,h3⟩
    .exact⟨o,h⟩
    exact⟨_,h3⟩
 cases hk:K.lookup a with
 |some o=>have e:=KX a o hk;rw[N]at e;cases e;refine y (λ_=>none) (λ_=>.inl rfl) (.inr ⟨_,L.toArray,_,hk,rfl,rfl,rfl,by rw[aAn,O];exact jc,by simpa using rv⟩) (λb u z=>by have z':(none:Option HO)=some u:=z;cases z') (λb z=>absurd rfl z) λz=>absurd rfl z
 |none=>
  obtain⟨g,A,l⟩:∃g:Hp,g a=some (.frz {cls:=.type "list",data:=.seq L.toArray} (.lst (ns.map V.int)))/\∀b,b≠a->g b=none:=⟨λb=>if b=a then _ else none,hV rfl,λb j=>h9 j⟩;refine y g (λb=>?_) (.inl (.inr ⟨{cls:=.type "list",data:=.seq L.toArray},(E g a nta).trans A⟩)) (λb u z=>?_) (λb z=>?_) λ_=>hk
  .by_cases j:b=a
   .subst j;exact .inr ⟨_,A⟩
   exact .inl (l b j)
  .by_cases j:b=a
   .subst j;rw[A]at z;cases z;exact⟨N,by rw[aAh];exact jc,L,_,rv,N⟩
   rw[l b j]at z;cases z
  by_cases j:b=a
  .exact j
  exact absurd (l b j) z
def YU{l:PySem.W.OpenLaw}{k:Nat}{q:bM}{e:List Str}{B:(Str->Option au)->cq->Prop}{y:cp->cq->Prop}{d:DefRec}{K:Params->iu}{z:List bc}
  (C:l.most=some 63) (n:d.params.defaults=[]) (E:Room k callerA)
  (H:∀(w:cp) (h:cq),y w h->(K w.params).In h/\∀P∈z,h.get? P=some (PySem.W.tabObj #[]))
  (r:∀p∈Tabs.tbs,p.1∈z/\∃c,∀w:cp,PySem.W.codeHdIn (K w.params) c p.1=true) (t:(Tabs.tbs.map (·.1)).Nodup) (v:∀w:cp,PySem.W.noTabs (K w.params)=true)
  (F:∀(w:cp) (mg:cM) (fa:bc) (h:cq),(K w.params).In h->h.Ns bt mg->mg d.name=some (.ref fa)->
   ∃fd:dA,(∀(s:ba) (u:au),BindsTo s fd ⟨[u],[]⟩ [("script",u)])/\
    ∀base:cq,(K w.params).In base->base.Ns bt mg->jV mg base->FnOk l.prog w (K w.params) mg base uI k fa fd ["script"] (wM (K w.params))):
  PySem.W.WalkO q e B y l.row.toRowW d [] (λf L=>PySem.call f L):=by
 refine Att2.attach_bits C n λw s9 aa mg mb fa o pm cd I a L ns G Y ho hd dc J j i m N O=>?_;obtain⟨x,Q⟩:=H w _ Y;obtain⟨fd,U,hF⟩:=F w mg fa _ x G.T.g J;refine JW x G.T.g G.T.b G.T.builtins G.T.nolimit G.T.bmain O j i m N E (λp hp=>?_) t (v w) hF U;obtain⟨h1,c,h2⟩:=r p hp;have A:=Q p.1 h1;exact⟨A,((PySem.W.codeHd_of_K x<|h2 w).tab A).isCodeTable⟩
section
def vN(own N:List Str)(h:List Nat)(hc:X.calm=true)(S:CompSc X f own N h)(hi:WV X U y8 Y)(hX:∀(b:P4) (n:List bc) (k:Cx),(∃s9 Ha C,k=DD X b s9 Ha (own++N) f (bZ X f C) C n)->LJ k U G/\UM k o ft/\PD k p fe)(hG:∀ρ d ρ1,G d (i5 own h ρ)=.ok ρ1->nG ρ1 (i5 own h ρ))(hs:∀x,d7 y8 X.env x=pure x:=by intro _;rfl):
  PF X (.ListComp p [⟨U,y8,o,0⟩] f pos) (λρ=>(Y ρ).bind λds=>if ds.length<=sizeLine then o7 G ft fe (i5 own h ρ) ds else .bad):=by
 refine tY λb s σ H Q I H9 O0 O ρ E q=>?_;dsimp only at q;rw[eval_ListComp];refine aDW (use:=none) rfl hs (Y8<|Inv.ab1 I S) S.kind S.names ?_;refine F5 (hi b s σ H (λJ g=>∃ds i,Same H g/\ZH X.K J g O ds/\ds.length<=sizeLine/\o7 G ft fe (i5 own h ρ) ds=.ok i/\∀L g a,Same H g->g a=none->Reps X.K g O L i->Q (.ref a) (upd g a<|.lst L)) I ⟨H9,O0,O,ρ,E,nM I O E.trk,?_⟩) λv s1 h1=>F5 h1 λitv s2 h2=>?_
 .cases t:Y ρ with
  |ex x=>rw[t]at q;exact q
  |bad=>rw[t]at q;exact q
  |ok ds=>
   rw[t,R.aa0]at q;intro J g s1 u;by_cases j:ds.length<=sizeLine
   .rw[hV j]at q;cases l:o7 G ft fe (i5 own h ρ) ds with
    |ex x=>rw[l]at q;exact(q H<|Same.refl _).elim
    |bad=>rw[l]at q;exact q.elim
    |ok i=>rw[l]at q;exact⟨ds,i,s1,u,j,l,q⟩
   rw[h9 j]at q;exact q.elim
 obtain⟨it,n,tn,J,H2,e,I2,T,kr,f2,ds,i,sm,u,j,y,q⟩:=h2;subst e;refine qY (RR:=λB C=>compPost (be X.prog X.w) X.A X.xe none (EP X b σ Q) B C) hc S (hX b n) (hG ρ) I2 T kr f2 (E.grow sm) u.c y j ?_;intro B C s' H' m hn _ _ _ sm' r nw _ hI;obtain⟨g,L,qf,z,eH,rr⟩:=nw;subst eH;exact⟨m,hn,λh' jo=>⟨.ref B,_,hI h' jo,rfl,q L g B (sm.trans qf) z rr⟩⟩
def a2d{Y es:List cu}{p:Pos}{env:Env}:bb (.List Y p::es) env=(false,dm (.List Y p) env)::bb es env:=rfl
def a0a{Y:List cu}{p:Pos}{t:Option cu}{l:Nat}{env:Env}:eN (Expr.List Y p) t l env=pure false:=rfl
end
end
end DL
namespace DL
open PySem L2
def cW(G:D->Ev->R Ev)(F:Ev->R Out)(d:D)(ρ:Ev):R Out:=match G d ρ with
 |.ok a=>F a
 |_=>.bad
@[simp]def gM(i:Nat)(F:Ev->R Out)(d:D)(ρ:Ev):cW (λd ρ=>.ok (ρ.set i (Sl.v d))) F d ρ=F (ρ.set i (.v d)):=rfl
@[simp]def a1j(G:D->Ev->R Ev)(F:Ev->R Out)(ρ:Ev):V4 G F [] ρ=.ok (.nx ρ):=rfl
def QD{α:Type}{a b:α}:(R.ok a=R.ok b)=(a=b):=by simp
class Bd (a:Int)(n:outParam Nat):Prop where
 h:bits a<=n
def L7(h:bits a<=m)(b:m<=n):bits a<=n:=aAp h b
section
instance Bd.add [p:Bd a m][q:Bd b n]:Bd (a+b) (m+n+1):=⟨bits_add (L7 p.h<|aCh m n) (L7 q.h<|aFK n m)⟩
instance Bd.mul [p:Bd a m][q:Bd b n]:Bd (a*b) (m+n):=⟨bits_mul p.h q.h⟩
def M8[p:Bd a m][q:Bd b n](d:m<=60000000)(e:n<=60000000):MB (.int a) (.int b)=.ok (.int (a*b)):=t9 ⟨aAp p.h d,aAp q.h e⟩
end
instance Bd.l2:Bd 2 2:=⟨by decide⟩
abbrev vd(v:G.V):D:=.tup [.int v.x,.int v.y,.int v.z]
def Sz(n:Nat)(v:G.V):Prop:=bits v.x<=n/\bits v.y<=n/\bits v.z<=n
def Sz.mono(h:Sz m v)(a:m<=n:=by decide):Sz n v:=⟨L7 h.1 a,L7 h.2.1 a,L7 h.2.2 a⟩
def Sz.sub(h:Sz n u)(h':Sz n v):Sz (n+1) (u-v):=⟨bits_sub h.1 h'.1,bits_sub h.2.1 h'.2.1,bits_sub h.2.2 h'.2.2⟩
def Sz.add(h:Sz n u)(h':Sz n v):Sz (n+1) (u+v):=⟨bits_add h.1 h'.1,bits_add h.2.1 h'.2.1,bits_add h.2.2 h'.2.2⟩
def Sz.cr(h:Sz m u)(h':Sz n v):Sz (m+n+1) (G.cr u v):=⟨bits_sub (bits_mul h.2.1 h'.2.2) (bits_mul h.2.2 h'.2.1),bits_sub (bits_mul h.2.2 h'.1) (bits_mul h.1 h'.2.2),bits_sub (bits_mul h.1 h'.2.1) (bits_mul h.2.1 h'.1)⟩
end DL
namespace M
open PySem L2 DL
abbrev pt(a b c:Int):D:=.tup [.int a,.int b,.int c]
abbrev ZG(n:Nat)(a b c:Int):Prop:=bits a<=n/\bits b<=n/\bits c<=n
def BR(k:List D->List D->R D):List D->R D
 |.lst Y::a=>k Y a
 |_=>.bad
def UF(k:List D->List D->R D):List D->R D
 |.tup Y::a=>k Y a
 |_=>.bad
def oG(k:Int->List D->R D):List D->R D
 |.int a::b=>k a b
 |_=>.bad
def G6{k:Int->List D->R D}{ds:List D}{r:D}(h:oG k ds=.ok r):∃a e,ds=.int a::e/\k a e=.ok r:=by
 unfold oG at h;split at h
 .exact⟨_,_,rfl,h⟩
 cases h
def gC(q:R D):List D->R D
 |[]=>q
 |_=>.bad
def Z3(h:BR k ds=.ok r):∃Y e,ds=.lst Y::e/\k Y e=.ok r:=by
 unfold BR at h;split at h
 .exact⟨_,_,rfl,h⟩
 cases h
def qZ(h:UF k ds=.ok r):∃Y e,ds=.tup Y::e/\k Y e=.ok r:=by
 unfold UF at h;split at h
 .exact⟨_,_,rfl,h⟩
 cases h
def w9(h:gC q ds=.ok r):ds=[]/\q=.ok r:=by
 unfold gC at h;split at h
 .exact⟨rfl,h⟩
 cases h
def v1(k:Int->Int->Int->List D->R D):List D->R D:=UF λY e=>oG (λa=>oG λb=>oG λc=>gC (k a b c e)) Y
def v4(k:Int->Int->Int->Int->List D->R D):List D->R D:=UF λY e=>oG (λa=>oG λb=>oG λc=>oG λd=>gC (k a b c d e)) Y
def v3(k:Int->Int->Int->List D->R D):List D->R D:=UF λY e=>oG (λa=>oG λb=>oG λc _=>k a b c e) Y
def a1a(h:v3 k ds=.ok r):∃a b c t e,ds=.tup (.int a::.int b::.int c::t)::e/\k a b c e=.ok r:=by obtain⟨Y,e,rfl,h⟩:=qZ h;obtain⟨a,x,rfl,h⟩:=G6 h;obtain⟨b,y,rfl,h⟩:=G6 h;obtain⟨c,z,rfl,h⟩:=G6 h;exact⟨a,b,c,z,e,rfl,h⟩
def M1(h:v1 k ds=.ok r):∃a b c e,ds=.tup [.int a,.int b,.int c]::e/\k a b c e=.ok r:=by obtain⟨Y,e,rfl,h⟩:=qZ h;obtain⟨a,x,rfl,h⟩:=G6 h;obtain⟨b,y,rfl,h⟩:=G6 h;obtain⟨c,z,rfl,h⟩:=G6 h;obtain⟨rfl,h⟩:=w9 h;exact⟨a,b,c,e,rfl,h⟩
def ZJ(h:v4 k ds=.ok r):∃a b c d e,ds=.tup [.int a,.int b,.int c,.int d]::e/\k a b c d e=.ok r:=by obtain⟨Y,e,rfl,h⟩:=qZ h;obtain⟨a,x,rfl,h⟩:=G6 h;obtain⟨b,y,rfl,h⟩:=G6 h;obtain⟨c,z,rfl,h⟩:=G6 h;obtain⟨d,w,rfl,h⟩:=G6 h;obtain⟨rfl,h⟩:=w9 h;exact⟨a,b,c,d,e,rfl,h⟩
def w5:List D->R D:=v1 λa b c=>v1 λd e f=>gC (.ok (pt (d-a) (e-b)<|f-c))
def F3:List D->R D:=v1 λa b c=>v1 λd e f=>gC (if ZG 20000000 a b c/\ZG 20000000 d e f then .ok (pt (b*f-c*e) (c*d-a*f)<|a*e-b*d)else .bad)
def w6:List D->R D:=v3 λa b c=>v1 λd e f=>gC (if ZG 50000000 a b c/\ZG 50000000 d e f then .ok (.int (a*d+b*e+c*f))else .bad)
@[simp]def rj(P Q:G.V):w5 [vd P,vd Q]=.ok (vd (Q-P)):=rfl
def jW(a:Sz 20000000 u)(b:Sz 20000000 v):F3 [vd u,vd v]=.ok (vd (G.cr u v)):=hV ⟨a,b⟩
def nQ(a:Sz 50000000 u)(b:Sz 50000000 v):w6 [vd u,vd v]=.ok (.int (G.dot u v)):=hV ⟨a,b⟩
def rule(k:Int):Int:=7*k*k+10*k+3
def Y4:List D->R D
 |[d]=>.ok (.bl (SO d))
 |_=>.bad
def P64:Int:=10^64
def P34:Int:=10^34
def a5z:Int:=P64*P34
def sgn(x:Int):Int:=if 0<x then 1 else if x<0 then-1 else 0
def aL:List D->R D:=v4 λa b c d=>v1 λx y z=>gC (if ZG 50000000 a b c/\ZG 50000000 x y z then .ok (.int (sgn<|a*x+b*y+c*z-d))else .bad)
def UZ(e:ZG 50000000 a b c)(f:ZG 50000000 x y z):aL [.tup [.int a,.int b,.int c,.int d],pt x y z]=.ok (.int (sgn (a*x+b*y+c*z-d))):=hV ⟨e,f⟩
def a3b(i:Nat)(ρ:Ev):Nat:=match ρ[i]? with
 |some (.v (.int b))=>b.natAbs+2
 |_=>0
def xY(d:bits a<=n)(f:bits b<=n):bits (aGC a b)<=n:=by
 refine HB ?_;have g:=GJ d;have h:=GJ f;have e:((aGC a b:Nat):Int).natAbs=aGC a b:=by simp
 rw[e];unfold aGC;rcases Nat.eq_zero_or_pos a.natAbs with z|z
 .rw[z,Nat.gcd_zero_left];exact h
 exact aCv (Nat.gcd_le_left _ z) g
end M
namespace DL
open PySem PySem.Spec L2
open PyProof.Rows hiding St
theorem V9:∀{ns:List Int}{a:List au},l7 (ns.map V.int) a->IntsAre a ns
 |[],_,.nil=>.nil
 |n::ns,_,.cons r t=>by obtain⟨b,rfl⟩:=r;exact .cons n b (V9 t)
section
def KR(j:X.calm=true):tN X (.builtin "sum") (λY H Q=>∃(p:bc) (ns:List Int),Y=[.ref p]/\P7 X.K H p (ns.map V.int)/\Q (.int ns.sum) H):=by
 intro f s σ H Y x Q I r h;obtain⟨p,ns,rfl,k,q⟩:=h;obtain⟨u,rfl,l⟩:=vals1 r;cases l;obtain⟨a,m,n,y⟩:=I.list k;have g:=V9 m;obtain⟨b,e⟩:=g.allInts.items;have i:=n.isList;rw[e]at i;refine sum_intListG (I.ok.hd j) i λz A o t=>?_;have v:preSum (numAt b) b.size=ns.sum:=by have d:=nums_intItems b;rw[<-e]at d;have w:=g.numsOf;rw[show a.toArray.toList=a from rfl,w]at d;rw[preSum_eq,aDm (by simp),d]
 rw[v];exact⟨.int ns.sum,H,I.kept t,⟨o,rfl⟩,q⟩
def cZ:List D->Option (List Int)
 |[]=>some []
 |.int i::r=>(cZ r).map (i::·)
 |_=>none
theorem aK:∀{ds:List D}{ns:List Int},cZ ds=some ns->ds=ns.map D.int
 |[],ns,h=>by cases h;rfl
 |.int i::r,ns,h=>by simp only[cZ,aDl]at h;obtain⟨m,a,rfl⟩:=h;rw[aK a];rfl
 |.non::_,_,h=>by cases h
 |.bl _::_,_,h=>by cases h
 |.str _::_,_,h=>by cases h
 |.tup _::_,_,h=>by cases h
 |.lst _::_,_,h=>by cases h
 |.dct::_,_,h=>by cases h
theorem rH:∀ns:List Int,cZ (ns.map D.int)=some ns
 |[]=>rfl
 |n::ns=>by simp[cZ,rH ns]
theorem lT{K:iu}{H:Hp}{O:bc->Prop}:∀{L:List V}{ns:List Int},Reps K H O L (ns.map D.int)->L=ns.map V.int
 |[],[],_=>rfl
 |v::L,n::ns,.cons h t=>by cases h;rw[lT t];rfl
def OR:List D->R D
 |[.lst Y]=>match cZ Y with
  |some a=>.ok (.int a.sum)
  |none=>.bad
 |_=>.bad
variable [Tabs]in
def DI(d:X.calm=true):dW X (.builtin "sum") OR:=by
 intro H O L f Q h r q;match f,q with
 |[.lst Y],q=>
  obtain⟨v,rfl,z⟩:=PP r;obtain⟨p,i,rfl,a,b⟩:=z.aa5;simp only[OR]at q;cases e:cZ Y with
  |none=>rw[e]at q;exact q.elim
  |some g=>rw[e]at q;rw[aK e]at b;rw[lT b]at a;exact⟨_,KR d,p,g,rfl,a,q _ H (Same.refl _) .int⟩
end
theorem kJ(Iv:List D->Ev->Prop)(b:∀d ds ρ,Iv (d::ds) ρ->∃ρ2,cW G F d ρ=.ok (.nx ρ2)/\Iv ds ρ2):∀{ds:List D}{ρ:Ev},Iv ds ρ->∃ρ',V4 G F ds ρ=.ok (.nx ρ')/\Iv [] ρ'
 |[],ρ,h=>⟨ρ,rfl,h⟩
 |d::ds,ρ,h=>by
  obtain⟨ρ2,e,f⟩:=b d ds ρ h;obtain⟨ρ',g,i⟩:=kJ Iv b f;unfold cW at e;cases a:G d ρ with
  |ok j=>rw[a]at e;exact⟨ρ',by rw[V4,a];dsimp only at e⊢;rw[e];exact g,i⟩
  |ex x=>rw[a]at e;cases e
  |bad=>rw[a]at e;cases e
def dQ(Iv:List D->Ev->Prop)(a:∀d ds ρ,Iv (d::ds) ρ->∃ρ2,cW G F d ρ=.ok (.nx ρ2)/\Iv ds ρ2)(h0:Iv ds ρ)(b:∀ρ',Iv [] ρ'->N9 (f ρ')=.ok d):
  N9 (D1 (V4 G F ds ρ) f)=.ok d:=by
 obtain⟨ρ',e,h⟩:=kJ Iv a h0;rw[e];exact b ρ' h
def BN{Post:Ev->Prop}(Iv:Nat->Ev->Prop)(b:∀n ρ,Iv (n+1) ρ->c ρ=.ok false\/(c ρ=.ok true/\∃ρ2,F ρ=.ok (.nx ρ2)/\Iv n ρ2))(a:∀ρ,¬Iv 0 ρ)(h0:Iv n ρ)(d:∀m ρ',Iv m ρ'->c ρ'=.ok false->Post ρ'):∃ρ2,T5 c F n ρ=.ok (.nx ρ2)/\Post ρ2:=by obtain⟨m,ρ',e,h,f⟩:=gE Iv b a n ρ h0;exact⟨ρ',e,d m ρ' h f⟩
end DL
namespace M
open PySem L2 DL
abbrev vH(n:G.V)(d:Int):D:=.tup [.int n.x,.int n.y,.int n.z,.int d]
def K1:List D->R D:=v1 λa b c=>gC (.ok (.int (G.z8 ⟨a,b,c⟩)))
def CW(v:G.V):K1 [vd v]=.ok (.int (G.z8 v)):=rfl
def Sz3(P Q R:G.V):Prop:=Sz 1000 P/\Sz 1000 Q/\Sz 1000 R
open Classical in
def T4:List D->R D:=v1 λa b c=>v1 λd e f=>v1 λg h i=>gC (
 if Sz3 ⟨a,b,c⟩ ⟨d,e,f⟩ ⟨g,h,i⟩/\G.cr ((⟨d,e,f⟩:G.V)-⟨a,b,c⟩) ((⟨g,h,i⟩:G.V)-⟨a,b,c⟩)≠0 then .ok (vH (G.j1 ⟨a,b,c⟩ ⟨d,e,f⟩ ⟨g,h,i⟩).1 (G.j1 ⟨a,b,c⟩ ⟨d,e,f⟩ ⟨g,h,i⟩).2)else .bad)
def RW{P Q R:G.V}(h:Sz3 P Q R)(a:G.cr (Q-P) (R-P)≠0):T4 [vd P,vd Q,vd R]=.ok (vH (G.j1 P Q R).1 (G.j1 P Q R).2):=hV ⟨h,a⟩
def JA(h:Sz n v):bits (G.z8 v:Nat)<=n:=by
 have e:((G.z8 v:Nat):Int)=aGC (aGC v.x v.y:Nat) v.z:=by simp[G.z8,aGC]
 rw[e];exact xY (xY h.1 h.2.1) h.2.2
def pC{a g:Int}(h:0<g):a.fdiv g=a/g:=Int.fdiv_eq_ediv_of_nonneg a (aAL h)
end M
namespace DL
open PySem PySem.Spec L2
open PyProof.Rows hiding St
section
variable [Tabs]
mutual
inductive HV(h:Heap):Value->D->Prop
 |int (i:Int) (t:Tok):HV h (.int i t) (.int i)
 |tup {a:Addr}{items:Array Value}{ds:List D} (p:IsTup h a items) (r:HVs h items.toList ds):HV h (.ref a) (.tup ds)
inductive HVs(h:Heap):List Value->List D->Prop
 |nil:HVs h [] []
 |cons {v:Value}{d:D}{L:List Value}{ds:List D} (r:HV h v d) (t:HVs h L ds):HVs h (v::L) (d::ds)
end
mutual
def rG:D->Bool
 |.int _=>true
 |.tup Y=>aG Y
 |_=>false
def aG:List D->Bool
 |[]=>true
 |x::Y=>rG x&&aG Y
end
theorem iI:∀Y:List D,xJ Y=Y.map m8
 |[]=>rfl
 |x::Y=>by rw[xJ,iI Y];rfl
section
mutual
theorem HV.keeps(k:∀b o,h.get? b=some o->o.cls=.type "tuple"->h'.get? b=some o):∀{v:au}{d:D},HV h v d->HV h' v d
 |_,_,.int i t=>.int i t
 |_,_,.tup p r=>.tup (by obtain⟨o,e,c,n,d⟩:=p;exact⟨o,k _ _ e c,c,n,d⟩) (HVs.keeps k r)
theorem HVs.keeps(k:∀b o,h.get? b=some o->o.cls=.type "tuple"->h'.get? b=some o):∀{v:List au}{d:List D},HVs h v d->HVs h' v d
 |_,_,.nil=>.nil
 |_,_,.cons r t=>.cons (HV.keeps k r) (HVs.keeps k t)
end
mutual
theorem HV.inj:∀{v:au}{d d':D},HV h v d->HV h v d'->d=d'
 |_,_,_,.int i t,.int _ _=>rfl
 |_,_,_,.tup p r,.tup f g=>by obtain⟨o,e,c,n,j⟩:=p;obtain⟨k,a,l,m,b⟩:=f;rw[e]at a;cases a;rw[j]at b;injection b with q _;subst q;rw[HVs.inj r g]
theorem HVs.inj:∀{v:List au}{d d':List D},HVs h v d->HVs h v d'->d=d'
 |_,_,_,.nil,.nil=>rfl
 |_,_,_,.cons r t,.cons a b=>by rw[HV.inj r a,HVs.inj t b]
end
theorem HVs.length:∀{v:List au}{d:List D},HVs h v d->v.length=d.length
 |_,_,.nil=>rfl
 |_,_,.cons _ t=>by simp[HVs.length t]
end
section
variable{prog:bM}{w:cp}
def PH(prog:bM)(w:cp)(h:cq)(v:au)(d:D):Prop:=∀(A:cf) (E:F8) (s:ba) (Q:Int->ba->Prop),s.heap=h->A.units+8*G2 d<cz->(∀a,s.toks<=a->Q (m8 d) {s with toks:=a})->a9 (be prog w) A (pyHash v) Q E s
mutual
theorem ZX:∀{v:au}{d:D},HV h v d->PH prog w h v d
 |_,_,.int i t=>λA E s Q J L q=>by exact(intKind prog w).pyHash (k:=i) (intKind_is _ _ _ _) (q _<|Nat.le_succ _)
 |_,_,.tup (a:=a) (items:=items) (ds:=ds) p r=>λA E s Q J L q=>by
  have fs:=QW r;subst J;obtain⟨o,N,T,n,U⟩:=p;have u:s.TypeIs (.ref a) "tuple":=⟨o,N,T⟩;have C:A.units<cz:=by lia
  rw[G2]at L;unfold pyHash;first|unfold pyHashByItsType|skip
  first|refine aAa (wpAny_cRoomFor_or (.inr C) ?_)|skip
  refine aAa (aBE u PySem.F.slot_tuple_hash.lookup ?_);show a9 _ _ (if(some (aGs "tuple.__hash__")==some Value.none)=true then _ else _) Q E s;rw[h9 (by rw[aFC];exact aAU)];refine aAa (aBE u PySem.F.slot_tuple_hash.lookup ?_);show a9 _ _ (callSpecialIfBoundUnlessNone? (.ref a) "__hash__" _>>=_) Q E s;refine aAa (aDs u PySem.F.slot_tuple_hash<|aBD PySem.F.slot_tuple_hash u PySem.F.entry_tuple_hash ?_ (PySem.F.args_tuple_hash_1 _));show a9 _ _ (aDF (.ref a)>>=_) _ _ s;refine aAa (wpAny_tupleItemsOf N U ?_);refine aAa ?_;rw[<-aCx];refine aCA _
   (λrest (b:Array Int) H=>∃done left g,ds=done++left/\Paired (PH prog w s.heap) rest left/\b.toList=done.map m8/\s.toks<=g/\H={s with toks:=g})
   _ ?_ ?_ _ _ ⟨[],ds,s.toks,rfl,fs,rfl,aAl _,rfl⟩
  .rintro x rest b H ⟨done,left,g,l,I,y,Y,rfl⟩;cases I with
   |@cons _ d _ e h1 O=>
    refine aAa (h1 _ _ _ _ rfl ?_ λz f=>?_)
    .have:G2 d<=B1 ds:=by rw[l];exact nU (j:=done.length) (by simp)
     rw[o5];lia
    first
     |exact aAb ⟨done++[d],e,z,by simp[l],O,by simp[y],by(have:g<=z:=f);lia,rfl⟩
     |exact aAa (aAb (aAb ⟨done++[d],e,z,by simp[l],O,by simp[y],by(have:g<=z:=f;lia),rfl⟩))
  rintro b H ⟨done,left,g,l,I,y,Y,rfl⟩;cases I;rw[aCb]at l;subst l;show a9 _ _ (retInt<|aAT b.toList) _ _ _;rw[y];refine wpAny_ret_mkInt ?_;show a9 _ _ (if(decide (-(2:Int)^63<=aAT (ds.map m8))&&decide (aAT (ds.map m8)<2^63))=true then _ else _) Q E _;have m:=q (g+1) (by lia);rw[m8,iI]at m;unfold reduceHash at m;by_cases B:(decide (-(2:Int)^63<=aAT (ds.map m8))&&decide (aAT (ds.map m8)<2^63))=true
  .rw[hV B];rw[hV B]at m;exact aAb m
  rw[h9 B];rw[h9 B]at m;exact aAa (aDA<|aAb m)
theorem QW:∀{v:List au}{d:List D},HVs h v d->Paired (PH prog w h) v d
 |_,_,.nil=>.nil
 |_,_,.cons r t=>.cons (ZX r) (QW t)
end
mutual
theorem FU:∀{v u:au}{d e:D}{A:cf},HV s.heap v d->HV s.heap u e->A.units+G2 d<cz->SeqAt.EqAt A s v u (v5 d e)
 |_,_,_,_,A,.int i t,.int j h,_=>by simp only[v5];exact aEZ _ _ _ _
 |_,_,_,_,A,.int i t,.tup p r,b=>by simp only[v5];exact aGc _ _ p (by lia)
 |_,_,_,_,A,.tup p r,.int j h,b=>by simp only[v5];exact aGd _ _ p (by lia)
 |_,_,_,_,A,.tup (a:=a) (ds:=ds) p r,.tup (a:=k) (ds:=l) g f,b=>by
  by_cases e:a=k
  .subst e;have:=HV.inj (.tup p r) (.tup g f);rw[this,S4];exact aEc _
  simp only[v5];rw[G2]at b;exact aFa e (lH (by simpa using p) (by simpa using g) r.length f.length (by lia) (RU r f (by rw[o5];lia))).1
theorem RU:∀{L e:List au}{ds es:List D}{A:cf},HVs s.heap L ds->HVs s.heap e es->A.in1.units+B1 ds<cz->nZ A s L e ds es
 |_,_,_,_,A,.nil,_,_=>λj u w a b=>by simp at a
 |_,_,_,_,A,.cons r t,.nil,_=>λj u w a b=>by simp at b
 |_,_,_,_,A,.cons (d:=d) (ds:=ds) r t,.cons (d:=i) (ds:=k) f g,h=>λj u w a b=>by
  rw[B1]at h;match j,a,b with
  |0,a,b=>simp only[aCE,aGz]at a b;subst a b;exact FU r f (by lia)
  |j+1,a,b=>simp only[aDi]at a b;exact RU t g (by lia) j u w a b
end
mutual
theorem jT:∀{d e:D},rG d=true->rG e=true->v5 d e=true->d=e
 |.int i,.int j,_,_,h=>by simp[v5]at h;rw[h]
 |.tup Y,.tup f,a,b,h=>by rw[rG]at a b;rw[v5]at h;rw[zK a b h]
 |.int _,.tup _,_,_,h=>by simp[v5]at h
 |.tup _,.int _,_,_,h=>by simp[v5]at h
 |.non,_,h,_,_=>by simp[rG]at h
 |.bl _,_,h,_,_=>by simp[rG]at h
 |.str _,_,h,_,_=>by simp[rG]at h
 |.lst _,_,h,_,_=>by simp[rG]at h
 |_,.non,_,h,_=>by simp[rG]at h
 |_,.bl _,_,h,_=>by simp[rG]at h
 |_,.str _,_,h,_=>by simp[rG]at h
 |_,.lst _,_,h,_=>by simp[rG]at h
theorem zK:∀{d e:List D},aG d=true->aG e=true->Z4 d e=true->d=e
 |[],[],_,_,_=>rfl
 |[],_::_,_,_,h=>by simp[Z4]at h
 |_::_,[],_,_,h=>by simp[Z4]at h
 |x::Y,y::f,a,b,h=>by rw[aG,aAQ]at a b;rw[Z4,aAQ]at h;rw[jT a.1 b.1 h.1,zK a.2 b.2 h.2]
end
mutual
theorem HV.ok:∀{v:au}{d:D},HV h v d->rG d=true
 |_,_,.int i t=>rfl
 |_,_,.tup p r=>by rw[rG];exact HVs.ok r
theorem HVs.ok:∀{v:List au}{d:List D},HVs h v d->aG d=true
 |_,_,.nil=>rfl
 |_,_,.cons r t=>by rw[aG,HV.ok r,HVs.ok t];rfl
end
mutual
theorem iN:∀{v:au}{d:D} (k:Nat),HV h v d->G2 d<k->∀(M:Model) (A:cf) (E:F8) (s:ba) (Q:yJ),s.heap=h->Q true s->a9 M A (eqIsQuiet k v) Q E s
 |_,_,k,.int i t,_=>λM A E s Q m q=>by unfold eqIsQuiet;exact aAb q
 |_,_,k,.tup (a:=a) (items:=items) (ds:=ds) p r,e=>λM A E s Q m q=>by
  subst m;obtain⟨o,u,y,n,z⟩:=p;have x:s.TypeIs (.ref a) "tuple":=⟨o,u,y⟩;match k,e with
  |k+1,e=>
   rw[G2]at e;unfold eqIsQuiet;refine aAa (aBE x PySem.F.slot_tuple_eq.lookup ?_);show a9 _ _ (isInstance (.ref a) (.type "tuple")>>=_) _ _ s;refine aAa (aDR x isSubtype_tuple_tuple ?_);simp only[aDB,aAv,if_false];refine aAa (aBR u z ?_);refine aAa ?_;show a9 _ _ (forIn items _ _) _ _ s;rw[<-aCx];refine aCA _ (λrest r b=>r.1=none/\b=s/\∃f,HVs s.heap rest f/\B1 f<k) _ ?_ ?_ _ _ ⟨rfl,rfl,ds,r,by lia⟩
   .rintro v rest r b ⟨g,rfl,f,j,l⟩;cases j with
    |@cons _ d _ B j C=>rw[B1]at l;refine aAa (iN k j (by lia) M A E b _ rfl ?_);simp only[aDB,aAv,if_false];exact aAb ⟨rfl,rfl,B,C,by lia⟩
   rintro⟨H,I⟩ b ⟨g,rfl,_⟩;simp only at g;subst g;exact aAb q
end
mutual
theorem iE:∀{v:au}{d:D} (k:Nat),HV h v d->G2 d<k->∀(M:Model) (A:cf) (E:F8) (s:ba) (Q:yJ),s.heap=h->Q false s->a9 M A (ofAClassStatement k v) Q E s
 |_,_,k,.int i t,_=>λM A E s Q m q=>by unfold ofAClassStatement;exact aAb q
 |_,_,k,.tup (a:=a) (items:=items) (ds:=ds) p r,e=>λM A E s Q m q=>by
  subst m;obtain⟨o,u,x,n,y⟩:=p;have z:s.TypeIs (.ref a) "tuple":=⟨o,u,x⟩;match k,e with
  |k+1,e=>
   rw[G2]at e;unfold ofAClassStatement;refine aAa (aDV z ?_);dsimp only;rw[hV (by decide)];refine aAa (aAb ?_);simp only[aDB,aAv,if_false];refine aAa (aBR u y ?_);dsimp only;refine aAa ?_;show a9 _ _ (forIn items _ _) _ _ s;rw[<-aCx];refine aCA _ (λrest r b=>r.1=none/\b=s/\∃f,HVs s.heap rest f/\B1 f<k) _ ?_ ?_ _ _ ⟨rfl,rfl,ds,r,by lia⟩
   .rintro v rest r b ⟨g,rfl,f,j,l⟩;cases j with
    |@cons _ d _ B j C=>rw[B1]at l;refine aAa (iE k j (by lia) M A E b _ rfl ?_);simp only[aAv,if_false];exact aAb ⟨rfl,rfl,B,C,by lia⟩
   rintro⟨H,I⟩ b ⟨g,rfl,_⟩;simp only at g;subst g;exact aAb q
end
mutual
theorem rD:∀{v:au}{d:D} (k:Nat),HV h v d->G2 d<k->∀(M:Model) (A:cf) (E:F8) (s:ba) (Q:yJ),s.heap=h->Q true s->a9 M A (hashByValue k v) Q E s
 |_,_,k,.int i t,_=>λM A E s Q m q=>by unfold hashByValue;exact aAb q
 |_,_,k,.tup (a:=a) (items:=items) (ds:=ds) p r,e=>λM A E s Q m q=>by
  subst m;obtain⟨o,u,x,n,y⟩:=p;have z:s.TypeIs (.ref a) "tuple":=⟨o,u,x⟩;match k,e with
  |k+1,e=>
   rw[G2]at e;unfold hashByValue;refine aAa (aBE z PySem.F.slot_tuple_hash.lookup ?_);dsimp only;refine aAa (aBR u y ?_);refine aAa ?_;show a9 _ _ (forIn items _ _) _ _ s;rw[<-aCx];refine aCA _ (λrest r b=>r.1=none/\b=s/\∃f,HVs s.heap rest f/\B1 f<k) _ ?_ ?_ _ _ ⟨rfl,rfl,ds,r,by lia⟩
   .rintro v rest r b ⟨g,rfl,f,j,l⟩;cases j with
    |@cons _ d _ B j C=>rw[B1]at l;refine aAa (rD k j (by lia) M A E b _ rfl ?_);simp only[aDB,aAv,if_false];exact aAb ⟨rfl,rfl,B,C,by lia⟩
   rintro⟨H,I⟩ b ⟨g,rfl,_⟩;simp only at g;subst g;exact aAb q
end
def kX{α:Type}{M:Model}{A:cf}{E:F8}{s:ba}{Q:α->ba->Prop}{c:Prop}[Decidable c]{a b:Sem α}(d:c->a9 M A a Q E s)(e:¬c->a9 M A b Q E s):a9 M A (if c then a else b) Q E s:=by
 by_cases h:c
 .rw[hV h];exact d h
 rw[h9 h];exact e h
def mz{M:Model}{A:cf}{E:F8}{s:ba}{Q:yJ}{x:au}{d:D}(k:HV s.heap x d)(l:G2 d<8)(f:List au)(n:∀y∈f,∃e,HV s.heap y e/\G2 e<8)(q:Q false s):a9 M A (searchCouldBeSeen x f) Q E s:=by
 unfold searchCouldBeSeen;refine aAa ?_;refine aCA _ (λrest r a=>r.1=none/\a=s/\∀y∈rest,y∈f) _ ?_ ?_ _ _ ⟨rfl,rfl,λy h=>h⟩
 .rintro y rest r a ⟨g,rfl,i⟩;obtain⟨e,m,b⟩:=n y (i y (by simp));dsimp only;refine kX (λ_=>?_) (λ_=>?_)
  .exact aAb ⟨rfl,rfl,λz j=>i z (aAe _ j)⟩
  refine aAa (iN 8 k l M A E a _ rfl ?_);simp only[aDB,aAv,if_false];refine aAa (iN 8 m b M A E a _ rfl ?_);simp only[aDB,aAv,if_false];refine aAa (iE 8 k l M A E a _ rfl ?_);simp only[aAv,if_false];refine aAa (iE 8 m b M A E a _ rfl ?_);simp only[aAv,if_false];exact aAb ⟨rfl,rfl,λz j=>i z (aAe _ j)⟩
 rintro⟨o,p⟩ a ⟨g,rfl,_⟩;simp only at g;subst g;exact aAb q
end
def EV(h:cq)(e:Int×au)(d:D):Prop:=HV h e.2 d/\e.1=m8 d
theorem J3{α β:Type}{F:α->β->Prop}:∀{l:List α}{m:List β}{i:Nat}{a:α},Paired F l m->l[i]?=some a->∃b,m[i]?=some b/\F a b
 |_,_,_,_,.nil,h=>by simp at h
 |_,_,0,_,.cons r _,h=>by simp at h;subst h;exact⟨_,rfl,r⟩
 |_,_,i+1,a,.cons _ t,h=>by obtain⟨b,d,e⟩:=J3 (i:=i) t (by simpa using h);exact⟨b,by simpa using d,e⟩
theorem dP{α β:Type}{F:α->β->Prop}:∀{l:List α}{m:List β}{i:Nat}{b:β},Paired F l m->m[i]?=some b->∃a,l[i]?=some a/\F a b
 |_,_,_,_,.nil,h=>by simp at h
 |_,_,0,_,.cons r _,h=>by simp at h;subst h;exact⟨_,rfl,r⟩
 |_,_,i+1,a,.cons _ t,h=>by obtain⟨b,d,e⟩:=dP (i:=i) t (by simpa using h);exact⟨b,by simpa using d,e⟩
theorem iK{α β:Type}{F:α->β->Prop}:∀{l:List α}{m:List β},Paired F l m->l.length=m.length
 |_,_,.nil=>rfl
 |_,_,.cons _ t=>by simp[iK t]
section
variable{es:Array (Int×au)}
def jR(K:ST.SOk t es.toList):t.fits es.size=true:=by
 have a:=K.len;have d:=K.room;have b:=K.tab.nod;unfold aGt SetTable.fill;rw[b];simp at a⊢
 lia
theorem mX(ho:s.heap.get? S=some o)(hd:o.data=.set es ep t)(K:ST.SOk t es.toList)(B:t.mask%2=1)(P:Paired (EV s.heap) es.toList ds)(O:HV s.heap (.ref x) (.tup Y))(C:G2 (.tup Y)<8)(ye:∀e∈ds,G2 e<8)(hT:∀e∈ds,∃H,e=.tup H)
  (hu:A.units+16<cz) (hf:ST.V6 t (m8 (.tup Y)) n0) {Q:SetFound->ba->Prop} (g:D.tup Y∈ds->Q (.there none) s) (b:D.tup Y∉ds->Q (.free (ST.l8 t.mask (m8 (.tup Y)) n0).j false) s):
  ∀(a n:Nat) (T:Option SetTable.Probe),T.getD (t.probeStart (m8 (.tup Y)))=ST.l8 t.mask (m8 (.tup Y)) n->n<=n0->n0-n<a->
   (∀m<n,∀(i:Nat),t.place[i]?=some (ST.l8 t.mask (m8 (.tup Y)) m).j->ds[i]?≠some (.tup Y))->a9 (be prog w) A (setSearchFrom S (.ref x) (m8 (.tup Y)) true a T) Q E s
 |0,n,T,_,_,h,_=>by lia
 |a+1,n,T,jl,hn,hfu,I=>by
  unfold setSearchFrom;refine aAa (aCn ho hd (jR K) ?_);dsimp only;refine kX (λz=>?_) (λ_=>?_)
  .unfold SetTable.gaveWay at z;simp at z;lia
  rw[jl];obtain⟨U,a1,a2,a3,a4⟩:=ST.NS K.tab (λi=>(es[i]?.map (·.1)).getD 0) (m8<|.tup Y) hf n hn;generalize hg:t.probe _ (m8<|.tup Y) (ST.l8 t.mask (m8<|.tup Y) n)=pm;rcases a4 with⟨en,e⟩|⟨ah,i,u,hh,e⟩
  .have ep:pm=_:=hg.symm.trans e;rw[ep];dsimp only;refine aAb (b λJ=>?_);obtain⟨i,u⟩:=aDv.mp J;obtain⟨⟨L,v⟩,he,h1,h2⟩:=dP P u;obtain⟨j,hj,qr⟩:=ST.XU K.len he;dsimp only at h2;have hr:=K.reach _ qr;dsimp only at hr;rw[h2]at hr;obtain⟨m,J,em⟩:=ST.Reach.before hf (by rw[<-aAE]at hj;exact aAx hj) hr;by_cases z:m<n
   .exact I m z i (by rw[em];exact hj) u
   obtain⟨f,cg,ag⟩:=a3 m (by lia) (by lia);have:f=i:=by have g:=ST.M0 K.tab cg;have b:=ST.M0 K.tab hj;rw[em]at g;rw[g]at b;injection b
   subst this;refine ag ?_;show(es[f]?.map (·.1)).getD 0=_;rw[<-aAE,he];exact h2
  have ep:pm=_:=hg.symm.trans e;rw[ep];dsimp only;have N:i<es.size:=by
   have:=(aCl.mp u).1;have h1:=K.len;simp at h1
   lia
  have l:es[i]?=some es[i]:=aAO N;obtain⟨di,d,L,q⟩:=J3 P (show es.toList[i]?=some es[i]by rw[aAE];exact l);obtain⟨H,rfl⟩:=hT di (aAx d);have go:a9 (be prog w) A (do
    let some (_,y):=es[i]?|unsupported "internal:set-entry"
    let equal<-ff [y] (eqBool y<|.ref x)
    let(es',_,t')<-setState S
    if true&&equal then return .there none
    let some same:=t'.sameMemory t.moves t.mask|unsupported "set.changed-during-lookup:is-the-new-block-at-the-old-address"
    let ay<-match(if same then t'.slot (ST.l8 t.mask (m8<|.tup Y) U).j else .empty)with
     |.live f=>match es'[f]? with
      |some (_,y')=>do pure (if<-isSame y' y then some f else none)
      |none=>pure none
     |_=>pure none
    match ay with
    |none=>rule "set.search.anew";setSearchFrom S (.ref x) (m8<|.tup Y) true a none
    |some f=>if equal then return .there (some f)else setSearchFrom S (.ref x) (m8<|.tup Y) true a (some<|ST.l8 t.mask (m8<|.tup Y)<|U+1)) Q E s:=by
   rw[l];generalize he:es[i]=en at*
   obtain⟨hn,y⟩:=en;dsimp only at L q⊢;refine aAa (aAW (FU L O (by have:=ye _ (aAx d);lia) prog w E _ ?_));refine aAa (aCn ho hd (jR K) ?_);dsimp only;cases hq:v5 (.tup H) (.tup Y)with
   |true=>rw[hV (show(true&&true)=true from rfl)];have:D.tup H=.tup Y:=jT L.ok O.ok hq;rw[this]at d;exact aAb (g<|aAx d)
   |false=>
    rw[h9 (by simp)];have hsm:t.sameMemory t.moves t.mask=some true:=by unfold SetTable.sameMemory;rw[hV (by simp)]
    rw[hsm];dsimp only;rw[hV rfl,ST.M0 K.tab u];dsimp only;rw[l];dsimp only;cases L with
    |tup p r=>
     refine aAa (wpAny_isSame_ref_self ?_);refine aAa (aAb ?_);rw[hV rfl];dsimp only;rw[h9 (by simp)];refine mX ho hd K B P O C ye hT hu hf g b a (U+1) _ rfl (by lia) (by lia) λm J i2 zo hz=>?_;by_cases z:m<n
     .exact I m z i2 zo hz
     by_cases z2:m=U
     .subst z2;have:i2=i:=by have g:=ST.M0 K.tab zo;have b:=ST.M0 K.tab u;rw[g]at b;injection b
      subst this;rw[d]at hz;have:D.tup H=.tup Y:=Option.some.inj hz;rw[this,S4]at hq;cases hq
     obtain⟨f,cg,ag⟩:=a3 m (by lia) (by lia);have:f=i2:=by have g:=ST.M0 K.tab cg;have b:=ST.M0 K.tab zo;rw[g]at b;injection b
     subst this;obtain⟨⟨h0,v0⟩,he0,hv0,hh0⟩:=dP P hz;refine ag ?_;show(es[f]?.map (·.1)).getD 0=_;rw[<-aAE,he0];exact hh0
  refine kX (λ_=>?_) (λ_=>go);refine aAa (mz O C _ (λy hy=>?_) ?_)
  .obtain⟨e',xv,rfl⟩:=aAj.mp hy;rw[Array.toList_filter]at xv;have J:=(aAX.mp xv).1;obtain⟨k,hk⟩:=aDv.mp J;obtain⟨dk,hdk,hvk,_⟩:=J3 P hk;exact⟨dk,hvk,ye _ (aAx hdk)⟩
  rw[h9 (by simp)];exact go
def vK(m n:Nat):Prop:=(m=7/\n<=4)\/(m=31/\n<=18)\/(m=127/\n<=76)
def vK.odd(h:vK m n):m%2=1:=by rcases h with⟨rfl,_⟩|⟨rfl,_⟩|⟨rfl,_⟩<;>rfl
def Keeps(h0 h:cq):Prop:=∀b o,h0.get? b=some o->h.get? b=some o
structure SetAt(L:Bool)(h0 h:Heap)(S:Addr)(ds:List D):Prop where
 ex:∃(o:Obj) (es:Array (Int×Value)) (ep:Nat) (t:SetTable),h.get? S=some o/\o.cls=.type "set"/\o.dict=none/\o.slots=#[]/\o.data=.set es ep t/\ST.SOk t es.toList/\vK t.mask es.size/\Paired (EV h0) es.toList ds/\t.led=L/\t.plain=true
 nd:ds.Nodup
def dM{α β:Type}{F:α->β->Prop}:∀{l b:List α}{m:List β},b.Perm l->Paired F l m->∃a,a.Perm m/\Paired F b a:=λ{l b m} p=>by
 induction p generalizing m with
 |nil=>intro h;exact⟨m,.refl _,h⟩
 |cons x _ f=>
  intro h;cases h with
  |cons r t=>obtain⟨a,g,i⟩:=f t;exact⟨_::a,g.cons _,.cons r i⟩
 |swap x y l=>
  intro h;cases h with
  |cons r t=>
   cases t with
   |cons j k=>exact⟨_,.swap _ _ _,.cons j (.cons r k)⟩
 |trans _ _ d e=>intro h;obtain⟨v,n,o⟩:=e h;obtain⟨q,s,u⟩:=d o;exact⟨q,s.trans n,u⟩
theorem cV{α β:Type}{F G:α->β->Prop}(i:∀a b,F a b->G a b):∀{l:List α}{m:List β},Paired F l m->Paired G l m
 |_,_,.nil=>.nil
 |_,_,.cons r t=>.cons (i _ _ r) (cV i t)
theorem pA{α β:Type}{F:α->β->Prop}{a:α}{b:β}(r:F a b):∀{l:List α}{m:List β} (p:Nat),Paired F l m->Paired F (l.take p++a::l.drop p) (m.take p++b::m.drop p)
 |_,_,0,h=>.cons r h
 |_,_,p+1,.nil=>.cons r .nil
 |_,_,p+1,.cons d t=>.cons d (pA r p t)
def QG{α:Type}(a:α)(l:List α)(p:Nat):(l.take p++a::l.drop p).Perm (a::l):=by have h:=List.perm_middle (a:=a) (l₁:=l.take p) (l₂:=l.drop p);rw[aFQ]at h;exact h
def xU{α β:Type}{M:Model}{Q:α->ba->Prop}{c:Prop}[Decidable c]{a:Sem β}{k:β->Sem α}(b:β)(e:∀d:β->ba->Prop,d b s->a9 M A a d E s)(h:a9 M A (k b) Q E s):a9 M A (if c then a>>=k else pure b>>=k) Q E s:=
 kX (λ_=>aAa (e _ h)) (λ_=>aAa (aAb h))
def mZ(h:cq)(S:bc)(f:Obj->Obj):Heap.SameBut S h (h.update S f):=⟨by simp[Heap.size_update],λb a=>aAF _ _ (aBY a)⟩
def uD{h:cq}{S:bc}{o:Obj}{es es':Array (Int×au)}{ep:Nat}{t t':eQ}(b:h.get? S=some o)(a:o.data=.set es ep t):(h.update S (aEA es' t')).get? S=some {o with data:=.set es' (ep+1) t'}:=by
 have e:aEA es' t' o={o with data:=.set es' (ep+1) t'}:=by obtain⟨c,d,f,g⟩:=o;cases f<;>simp at a;obtain⟨rfl,rfl,rfl⟩:=a;rfl
 rw[aBo _ b (by rw[e];rfl),e]
def tx{L:Bool}{h0:cq}{Q:yJ}(hS:SetAt L h0 s.heap S ds)(kp:Keeps h0 s.heap)(B:HV h0 (.ref x) (.tup Y))(C:G2 (.tup Y)<8)(ye:∀e∈ds,G2 e<8)(hT:∀e∈ds,∃ys,e=.tup ys)(hu:A.units+128<cz)(hn:ds.length<76)
  (q1:D.tup Y∈ds->∀tk,s.toks<=tk->Q false {s with toks:=tk})
  (q2:D.tup Y∉ds->∀h' tk av,s.toks<=tk->Heap.SameBut S s.heap h'->SetAt L h0 h' S av->av.Perm (.tup Y::ds)->Q true {s with heap:=h',toks:=tk}):a9 (be prog w) A (setAdd S (.ref x)) Q E s:=by
 obtain⟨⟨o,es,ep,t,H,hc,zr,I,J,K,mk,P0,lp0⟩,nd⟩:=hS;have hx:HV s.heap (.ref x) (.tup Y):=B.keeps λb o e _=>kp b o e;have P:Paired (EV s.heap) es.toList ds:=cV (λe d r=>⟨r.1.keeps λb o e _=>kp b o e,r.2⟩) P0;have gu:es.size=ds.length:=by have:=iK P;simpa using this
 unfold setAdd;refine aAW (aAa (ZX hx A E s _ rfl (by lia) λtk xi=>?_));unfold setAddHashed setAddHashedIn;refine aAW (aAa<|aCn (s:={s with toks:=tk}) H J (jR K) ?_);dsimp only;rw[show byScan (.ref x) es=false from rfl];simp only[aAv,if_false];obtain⟨n0,hf⟩:=ST.EA K.full K.room (m8<|.tup Y);refine aAa (mX (s:={s with toks:=tk}) (n0:=n0) H J K mk.odd P hx C ye hT (by lia) hf (λn=>?_) (λn=>?_) 100000 0 none rfl (aAY _) ?_ (λm n=>by lia))
 .dsimp only;exact aAb (q1 n tk xi)
 .dsimp only;refine aAa (aCn (s:={s with toks:=tk}) H J (jR K) ?_);dsimp only;refine xU true (λU q=>rD 8 hx C _ _ _ _ _ rfl q) ?_;rw[hV rfl];have pg:t.place.size+1<=t.mask:=by have:=K.len;simp at this;rcases mk with⟨a,k⟩|⟨a,k⟩|⟨a,k⟩<;>lia
  have p:=ST.uq K (x:=.ref x) hf pg;have el:=ST.fY es (t.put (ST.l8 t.mask (m8<|.tup Y) n0).j).2 (m8 (.tup Y),aDJ x);have lp:(t.put (ST.l8 t.mask (m8<|.tup Y) n0).j).1.led=L/\(t.put (ST.l8 t.mask (m8<|.tup Y) n0).j).1.plain=true:=lp0;have em:(t.put (ST.l8 t.mask (m8<|.tup Y) n0).j).1.mask=t.mask:=rfl;rw[<-el]at p;have N:Paired (EV h0) (aGD es (t.put (ST.l8 t.mask (m8<|.tup Y) n0).j).2 (m8 (.tup Y),aDJ x)).toList (ds.take (t.put (ST.l8 t.mask (m8<|.tup Y) n0).j).2++.tup Y::ds.drop (t.put (ST.l8 t.mask (m8<|.tup Y) n0).j).2):=by rw[el];exact pA ⟨B,rfl⟩ _ P0
  have O:=QG (D.tup Y) ds (t.put (ST.l8 t.mask (m8<|.tup Y) n0).j).2;generalize hds2:ds.take (t.put (ST.l8 t.mask (m8<|.tup Y) n0).j).2++.tup Y::ds.drop (t.put (ST.l8 t.mask (m8<|.tup Y) n0).j).2=ua at N O;generalize hes2:aGD es (t.put (ST.l8 t.mask (m8<|.tup Y) n0).j).2 (m8 (.tup Y),aDJ x)=h at p N⊢;generalize ht2:(t.put (ST.l8 t.mask (m8<|.tup Y) n0).j).1=g at p em lp⊢;have uf:ua.Nodup:=O.nodup_iff.mpr (aAH.mpr ⟨n,nd⟩);have i:h.size=es.size+1:=by
   have h1:=iK N;have h2:=O.length_eq;simp at h1 h2
   lia
  have bu:h.size<=sizeLine:=by rw[i,aFu];lia
  refine aAa (wpAny_storeSet_of (s:={s with toks:=tk}) H J ?_ bu);have ku:=uD (es':=h) (t':=g) H J;have T:=mZ s.heap S (aEA h g);have l:g.fill=h.size:=by have h1:=p.len;have h2:=p.tab.nod;unfold SetTable.fill;rw[h2];simp at h1⊢;lia
  refine kX (λxl=>?_) (λxl=>?_)
  .
   have qt:g.fill*5>=g.mask*3:=by
    have:g.tooFull=true:=by simpa using xl
    simpa[aGJ]using this
   rw[l,em,i]at qt;obtain⟨M,hM,hM1,u⟩:∃M,SetTable.sizeAbove (SetTable.grown<|es.size+1)=M+1/\ST.nB (M+1)/\vK M (es.size+1):=by
    rcases mk with⟨a,k⟩|⟨a,k⟩|⟨a,k⟩
    .have:es.size=4:=by lia
     rw[this];exact⟨31,by decide,ST.xj,.inr (.inl ⟨rfl,by lia⟩)⟩
    .have:es.size=18:=by lia
     rw[this];exact⟨127,by decide,ST.XE,.inr (.inr ⟨rfl,by lia⟩)⟩
    lia
   unfold setRelay;refine aAa (aAa<|aCn (s:={s with heap:=s.heap.update S (aEA h g),toks:=tk}) ku rfl (jR p) ?_);dsimp only;rw[hM];refine kX (λz=>?_) (λ_=>?_)
   .exfalso;rcases u with⟨a,_⟩|⟨a,_⟩|⟨a,_⟩<;>(subst a;exact absurd z (by rw[aFu];decide))
   obtain⟨y,f,r1,r2,r3,r4,r5,r6,r7,r8,r9⟩:=ST.OV (finger:=g.finger) (moves:=g.movedTo M) (led:=g.led) (plain:=g.plain) hM1 h (by rw[i];rcases u with⟨a,k⟩|⟨a,k⟩|⟨a,k⟩<;>lia);have er:g.relaid (h.map (·.1)) (SetTable.grown<|es.size+1)=some (y,f):=by unfold SetTable.relaid;rw[hM];exact r1
   rw[er];have hre:∀{U:Array (Int×au)×eQ->ba->Prop}{s':ba},U (f.filterMap (h[·]?),y) s'->a9 (be prog w) A (do
     let es':=f.filterMap (h[·]?)
     if es'.size !=h.size then unsupported "internal:set-table-lost-an-element"
     pure (es',y)) U E s':=λ{U s'} qq=>by
    dsimp only;rw[h9 (by simp[r2])];exact aAb qq
   refine aAa (hre ?_);dsimp only;generalize hes3:f.filterMap (h[·]?)=v at r2 r3 r4⊢;refine wpAny_storeSet_of (s:={s with heap:=s.heap.update S (aEA h g),toks:=tk}) ku rfl ?_ (by rw[r2];exact bu);refine aAb ?_;have ho3:=uD (es':=v) (t':=y) ku rfl;have sb3:=mZ (s.heap.update S<|aEA h g) S (aEA v y);obtain⟨ds3,p3,P5⟩:=dM r3 N;exact q2 n _ tk ds3 xi (T.trans sb3) ⟨⟨_,v,_,y,ho3,hc,zr,I,rfl,r4,by rw[r5,r2,i];exact u,P5,by rw[r7];exact lp.1,by rw[r8];exact lp.2⟩,p3.nodup_iff.mpr uf⟩ (p3.trans O)
  refine aAb ?_;refine q2 n _ tk ua xi T ⟨⟨_,h,_,g,ku,hc,zr,I,rfl,p,?_,N,lp⟩,uf⟩ O;have qt:¬g.fill*5>=g.mask*3:=λz=>xl (by simp[aGJ,z]);rw[l,em,i]at qt;rw[em,i];rcases mk with⟨a,k⟩|⟨a,k⟩|⟨a,k⟩
  .exact .inl ⟨a,by lia⟩
  .exact .inr (.inl ⟨a,by lia⟩)
  exact .inr (.inr ⟨a,by lia⟩)
 have:=hf.1;have n:t.mask<=127:=by rcases mk with⟨a,_⟩|⟨a,_⟩|⟨a,_⟩<;>lia
 lia
end
section
variable{prog:bM}{w:cp}{A:cf}{R:Result->ba->Prop}{I:bc}{fp wr:List bc}{G:Array GenState->Array GenState->Prop}{n:Nat}{P:Nat->au->Prop}{St:Nat->ba->Prop}{h0:cq}
def YC(h0:cq)(v:au)(d:D):Prop:=∃a Y,v=.ref a/\d=.tup Y/\G2 d<8/\HV h0 v d
def OI{L:Bool}(W:WalksS prog w A.in1 I fp wr G n P St)(S:bc)(qg:S∉fp)(hS0:h0.get? S=none)(hw0:∀b∈wr,h0.get? b=none)
  (val:Nat->D) (y:∀i v,P i v->YC h0 v (val i)) (hvd:∀i<n,G2 (val i)<8/\∃ys,val i=.tup ys) {U:List D} (hU:∀i<n,val i∈U) (f:U.length<=75) (hu:A.units+200<cz):
  ∀(k i:Nat) (s:ba),n-i=k->i<=n->St i s->Keeps h0 s.heap->(∃ds,SetAt L h0 s.heap S ds/\∀d,d∈ds↔∃j<i,val j=d)->
   (∀s',Moved (S::wr) G s s'->(∃ds,SetAt L h0 s'.heap S ds/\∀d,d∈ds↔∃j<n,val j=d)->R (.ok (.ret .none)) s')->
   gm (be prog w) A (.builtin "set.update.loop" ⟨[.ref S,.ref I],[]⟩) R s:=by
 have B:S∉wr:=λh=>qg (W.sub _ h);have kh:∀b∈wr,b∈S::wr:=λb f=>aAe _ f;intro k;induction k with
 |zero=>
  intro i s hk hi jl C hS O;have Q:i=n:=by omega
  subst Q;refine aBS F.entry_set_update_loop ?_;rw[aBs F.plain_set_update_loop _];show a9 _ A.in1 (fg (.ref I)>>=_) _ _ s;refine aAa (W.done s _ _ jl λs' l=>?_);show a9 _ A.in1 (ret Value.none) _ _ s';refine aAb (O s' (l.mono kh) ?_);obtain⟨ds,⟨⟨o,es,ep,t,ho,r⟩,T⟩,p⟩:=hS;exact⟨ds,⟨⟨o,es,ep,t,l.heap S _ B ho,r⟩,T⟩,p⟩
 |succ k ih=>
  intro i s hk hi jl C hS O;have ah:i<n:=by omega
  refine aBS F.entry_set_update_loop ?_;rw[aBs F.plain_set_update_loop _];show a9 _ A.in1 (fg (.ref I)>>=_) _ _ s;refine aAa (W.item i s _ _ ah jl λv s' hP lh l=>?_);obtain⟨ds,⟨⟨o,es,ep,t,ho,r⟩,T⟩,p⟩:=hS;have jd:SetAt L h0 s'.heap S ds:=⟨⟨o,es,ep,t,l.heap S _ B ho,r⟩,T⟩;have q:Keeps h0 s'.heap:=λb ob e=>l.heap b ob (λz=>by rw[hw0 b z]at e;cases e) (C b ob e);obtain⟨a,Y,rfl,vg,E,hv⟩:=y i v hP;rw[vg]at E hv;show a9 _ A.in1 (ff [aDJ a] (setAdd S<|.ref a)>>=_) _ _ s';have g:∀e∈ds,G2 e<8/\∃ys,e=.tup ys:=λe H=>by obtain⟨j,J,ej⟩:=(p e).mp H;rw[<-ej];exact hvd j (by omega)
  refine aAa (aAW (tx jd q hv E (λe H=>(g e H).1) (λe H=>(g e H).2) (by rw[o5];omega) (by letI:DecidableEq D:=λa b=>aEd _;have:=ST.Q9 (m:=U) T (λd hd=>by obtain⟨j,J,e⟩:=(p d).mp hd;rw[<-e];exact hU j (by omega));omega) (λQ tk N=>?_)<|λhni h' tk av N hsb hS2 pm=>?_))
  .
   refine aAb ⟨aCd F.plain_set_update_loop _,ih (i+1) _ (by omega) ah (W.frame _ s' _ _ lh N λb f o e=>e) q ⟨ds,jd,λd=>?_⟩ λu og xm=>?_⟩
   .rw[p];constructor
    .rintro⟨j,J,e⟩;exact⟨j,by omega,e⟩
    rintro⟨j,J,e⟩;by_cases z:j=i
    .subst z;rw[vg]at e;rw[e]at Q;exact(p d).mp Q
    exact⟨j,by omega,e⟩
   exact O u (aFw W.gtrans ((l.mono kh).then_heap N λb o f e=>e) og) xm
  have x:∀b,b≠S->h'.get? b=s'.heap.get? b:=λb f=>hsb.2 b f;refine aAb ⟨aCd F.plain_set_update_loop _,ih (i+1) _ (by omega) ah (W.frame _ s' _ _ lh N λb f o e=>?_) (λb o e=>?_) ⟨av,hS2,λd=>?_⟩ λu og xm=>?_⟩
  .rw[x b (λz:b=S=>qg (by rw[<-z];exact f))];exact e
  .show h'.get? b=some o;rw[x b (λz=>by subst z;rw[hS0]at e;cases e)];exact q b o e
  .rw[pm.mem_iff,aAd,p];constructor
   .rintro(rfl|⟨j,J,e⟩)
    .exact⟨i,by omega,vg⟩
    exact⟨j,by omega,e⟩
   rintro⟨j,J,e⟩;by_cases z:j=i
   .subst z;rw[vg]at e;exact .inl e.symm
   exact .inr ⟨j,by omega,e⟩
  refine O u (aFw W.gtrans ((l.mono kh).then_heap N λb o f e=>?_) og) xm;rw[x b (λz:b=S=>f (by rw[z];exact aBn))];exact e
end
section
variable{prog:bM}{w:cp}{A:cf}{E:F8}{s:ba}
abbrev nH(led:Bool):Obj:={cls:=.type "set",dict:=none,data:=.set #[] 0 (.fresh 0 0 led)}
def KL(h0 h:cq)(S:bc)(led:Bool)(e:h.get? S=some (nH led)):SetAt led h0 h S []:=by
 refine⟨⟨_,#[],0,.fresh 0 0 led,e,rfl,rfl,rfl,rfl,⟨⟨λi k a=>?_,λj b=>?_,rfl⟩,ST.a1c,rfl,?_,λe d=>?_⟩,.inl ⟨rfl,aAY _⟩,.nil,rfl,rfl⟩,aCX⟩
 .exact absurd a (by show¬i<0;omega)
 .exact absurd b (by show¬j∈[];simp)
 .show 0<=7;omega
 exact absurd d (by show¬e∈[];simp)
def AM(a:au){Q₁:F8}(h:Q₁ (.ref s.heap.objs.size) {s with heap:=s.heap.push (nH (!w.params.followText "set-order"))}):
  gm (be prog w) A (.call (.builtin "set.__new__") ⟨[.type "set",a],[]⟩) (wants Q₁ E) s:=by
 refine codeAny_of_tree ?_;show a9 _ A.in1 (do checkBuiltinCall "set.__new__" ⟨[.type "set",a],[]⟩;again (.builtin "set.__new__" ⟨[.type "set",a],[]⟩)) _ _ s;refine aAa (wpAny_of_eq (F.newCall_set_1 a)<|aAb ⟨aCd F.plain_set_new _,aBS F.entry_set_new ?_⟩);rw[aBs F.plain_set_new _];unfold Builtin.«set.__new__» Builtin.Frozenset.newClass;have b:=sub_set_self;obtain⟨e,g,d,f,os⟩:=s;dsimp only
 wp_walk
 refine aFD (aAb ?_);dsimp only;simp only[newObj];exact aAa (wpAny_alloc<|aAb<|aAb h)
def AE{h0:cq}(n:Keeps h0 s.heap){l:bc}{a:Array au}{val:Nat->D}{Q:F8}(hh:A.handled=none)(hl:s.heap.IsList l a)
  (p:∀(i:Nat) (v:au),a[i]?=some v->YC h0 v (val i)) (H:∀i<a.size,G2 (val i)<8/\∃ys,val i=.tup ys) {U:List D} (hU:∀i<a.size,val i∈U) (k:U.length<=75) (hu:A.units+300<cz)
  (h:∀(h':cq) (tk:Nat) (ds:List D),SetAt (!w.params.followText "set-order") h0 h' s.heap.objs.size ds->(∀d,d∈ds↔∃j<a.size,val j=d)->Keeps s.heap h'->Q (.ref s.heap.objs.size) {s with heap:=h',toks:=tk}):
  a9 (be prog w) A (call (.type "set") [.ref l]) Q E s:=by
 obtain⟨c,tl,hmro⟩:=PySem.F.called_set.mro;have I:=PySem.F.called_set.made;have kh:=PySem.F.called_set.sub;refine wpAny_call (codeAny_of_tree ?_);show a9 _ _ (callAny (.type "set") _) _ _ _;refine aAb ⟨Code.quiet_builtin _ (by decide+kernel),aBS PySem.F.entry_type_call ?_⟩;rw[Around.under_plain (weight_type_call_type "set" [.ref l] []) rfl];have h1:=PySem.F.called_set.notType;have h2:=PySem.F.called_set.canCreate;have hct:=PySem.F.typeCall_set_1 (.ref l);repeat(any_goals(first|assumption|wp_step))
 refine aDU (AM (.ref l) (E:=E) (Q₁:=λob aa=>∃led:Bool,led=!w.params.followText "set-order"/\ob=.ref s.heap.objs.size/\aa={s with heap:=s.heap.push (nH led)}) ⟨_,rfl,rfl,rfl⟩) λr aa q=>?_;cases r with
 |error e=>exact q
 |ok fl=>
  cases fl with
  |next=>exact q.elim
  |brk=>exact q.elim
  |cont=>exact q.elim
  |ret ob=>
   obtain⟨led,eL,rfl,rfl⟩:=q;have hS:(s.heap.push<|nH led).get? s.heap.objs.size=some (nH led):=aAr _ rfl;have hT:Shared.TypeIs {s with heap:=s.heap.push (nH led)} (.ref s.heap.objs.size) "set":=⟨_,hS,rfl⟩;have hli:=PySem.F.called_set.init.lookup;have hbi:=PySem.F.called_set.init.bind (.ref s.heap.objs.size);repeat(any_goals(first|assumption|wp_step))
   refine aDU (codeAny_call_builtin (R:=wants (λr fb=>r=.none/\∃h' tk ds,fb={s with heap:=h',toks:=tk}/\SetAt (!w.params.followText "set-order") h0 h' s.heap.objs.size ds/\(∀d,d∈ds↔∃j<a.size,val j=d)/\Keeps s.heap h') E) PySem.F.called_set.init.plain PySem.F.entry_set_init<|check_set_init_1 hT ?_) λrf fb f=>?_
   .obtain⟨ol,t,yh,nl,u⟩:=hl;obtain⟨ocls,m,J,g⟩:=ol;simp only at yh u;subst yh;subst u;have x:(s.heap.push<|nH led).get? l=some {cls:=.type "list",dict:=m,data:=.seq a nl,slots:=g}:=aAc _ t;have hsls:=PySem.F.sub_list_set;have hslf:=PySem.F.sub_list_frozenset;have ag:(aCw "list"==aCw "dict")=false:=by decide
    have qu:(s.heap.push<|nH led).IsList l a:=⟨_,x,rfl,nl,rfl⟩;unfold Builtin.«set.__init__» noKeywords Builtin.Frozenset.updateFrom;generalize L:pyIter=PI
    wp_walk
    subst L;refine aDD qu (aAa<|wpAny_runValue ?_);have y:l<s.heap.objs.size:=aAg t;have N:A.in1.in1.in1.handled=none:=by simp[hh]
    have B:l≠(s.heap.push<|nH led).objs.size:=by rw[aBL];exact aAm (aBw y)
    have qg:s.heap.objs.size∉[(s.heap.push<|nH led).objs.size,l]:=by rw[aBL];simp only[aAd,aAR,or_false,not_or];exact⟨aAm (aDQ _),aDx y⟩
    have qa:∀b,s.heap.objs.size<=b->h0.get? b=none:=λb k=>by
     cases e:h0.get? b with
     |none=>rfl
     |some o=>have:=n b o e;rw[aEu k]at this;cases this
    refine OI (h0:=h0) ((Walks.list N _ l B a).toS) s.heap.objs.size qg (qa _<|aAl _) (λb k=>?hw) val p H hU k (by show A.units+1+1+200<cz;omega) (a.size-0) 0 _ (by omega) (aAY _) ⟨⟨_,aAr _ rfl,rfl,rfl⟩,(qu.push _)⟩ (λb o e=>aAc _ (aAc _<|n b o e)) ⟨[],KL _ _ _ led (aAc _ hS),λd=>?he⟩ ?hR
    case he=>exact⟨λz=>(by cases z),by rintro⟨j,hj,_⟩;exact(by omega)⟩
    case hw=>
     have ji:b=(s.heap.push<|nH led).objs.size:=by simpa using k
     subst ji;rw[aBL];exact qa _ (Nat.le_succ _)
    case hR=>
     rintro⟨h',g',d',yn,O⟩ C ⟨ds,T,Y⟩;have eg:g'=s.gens:=C.gens;have ed:d'=s.drawn:=C.drawn;have eo:O=s.os:=C.os;subst eg;subst ed;subst eo;refine aAb ?_;show a9 _ _ (ret Value.none) _ _ _;refine aAb ⟨rfl,h',yn,ds,rfl,(eL▸T),Y,λb o e=>?_⟩;have k:=aAg e;have ya:b≠(s.heap.push<|nH led).objs.size:=by rw[aBL];exact aAm (aBw k)
     exact C.heap b o (by simp only[aAd,aAR,or_false,not_or];exact⟨aAm k,ya⟩) (aAc _<|aAc _ e)
   cases rf with
   |error e=>exact f
   |ok fl0=>
    cases fl0 with
    |next=>exact f.elim
    |brk=>exact f.elim
    |cont=>exact f.elim
    |ret r=>
     obtain⟨rfl,h',tk,ds,rfl,T,Y,jt⟩:=f;repeat(any_goals(first|assumption|wp_step))
     exact h _ _ _ T Y jt
end
end
section
variable [Tabs]
end
end DL
namespace SI
open PySem
theorem GQ{α:Type}(next:Nat->Nat):∀(a k:Nat) (left:List α) (b:Array α),left.length=a->(aGI next a k left b).toList.Perm (b.toList++left)
 |0,k,left,b,h=>by have:left=[]:=aEs h;subst this;simp[aGI]
 |a+1,k,left,b,h=>by
  unfold aGI;have e:0<left.length:=by lia
  have d:next k%left.length<left.length:=aFl _ e
  rw[aAi d];dsimp only;refine(GQ next a (k+1) _ _ (by rw[List.length_eraseIdx_of_lt d];lia)).trans ?_;rw[Array.toList_push,aFq];refine List.Perm.append_left _ ?_;have:∀(l:List α) (i:Nat) (h:i<l.length),(l[i]::l.eraseIdx i).Perm l:=by
   intro l;induction l with
   |nil=>intro i h;simp at h
   |cons x l f=>
    intro i h;cases i with
    |zero=>simp
    |succ i=>
     have g:i<l.length:=by simpa using h
     rw[aFv,aFI];exact(List.Perm.swap _ _ _).trans ((f i g).cons _)
  exact this left _ d
def uH{α:Type}(next:Nat->Nat)(Y:Array α):(hE next Y).toList.Perm Y.toList:=by unfold hE;simpa using GQ next Y.size 0 Y.toList #[] (by simp)
def walkL(w:cp)(S:bc)(es:Array (Int×au))(ep:Nat):List (Int×au):=if w.params.followText "set-order"=true then(hE (w.params.setOrder S ep) es).toList else es.toList
def walkL_perm(w:cp)(S:bc)(es:Array (Int×au))(ep:Nat):(walkL w S es ep).Perm es.toList:=by
 unfold walkL;split
 .exact uH _ _
 exact aGg _
def slotAt(w:cp)(t:eQ):Nat->Nat
 |0=>0
 |i+1=>if w.params.followText "set-order"=true then 0 else t.place.getD i 0+1
def Q7(h:cq)(w:cp)(it S:bc)(t:eQ)(i n ep:Nat):Prop:=
 h.get? it=some {cls:=.type "set_iterator",dict:=none,data:=.fields #[ez (slotAt w t i),ez i,.ref S,ez n,ez ep],slots:=#[]}
def IsSet(h:cq)(S:bc)(es:Array (Int×au))(ep:Nat)(t:eQ):Prop:=∃o,h.get? S=some o/\o.cls=.type "set"/\o.data=.set es ep t
namespace F
def entry_set_iter:entryFor table "set.__iter__"=some Builtin.«frozenset.__iter__»:=entryFor_alias (id':= "frozenset.__iter__") (by kernel_rfl) rfl (by decide+kernel) (by kernel_rfl)
def slot_seti_next:Slot "set_iterator" "__next__" "set_iterator.__next__":=
 .of (owner:= "set_iterator") (n:= "__next__") (by rw[aDz,aCu];kernel_rfl) (by decide+kernel) (by decide+kernel) (by decide+kernel)
  (by first|exact .inl (by decide+kernel)|exact .inr (by decide+kernel)) (by rw[aFe];kernel_rfl)
def entry_seti_next:entryFor table "set_iterator.__next__"=some Builtin.«set_iterator.__next__»:=entryFor_of_tree (by kernel_rfl)
def args_seti_next(a:au):argsOk "set_iterator.__next__" ⟨[a],[]⟩:=by unfold argsOk;kernel_rfl
def slot_seti_iter:Slot "set_iterator" "__iter__" "set_iterator.__iter__":=
 .of (owner:= "set_iterator") (n:= "__iter__") (by rw[aDz,aCu];kernel_rfl) (by decide+kernel) (by decide+kernel) (by decide+kernel)
  (by first|exact .inl (by decide+kernel)|exact .inr (by decide+kernel)) (by rw[aFe];kernel_rfl)
def entry_seti_iter:entryFor table "set_iterator.__iter__"=some Builtin.«dict_keyiterator.__iter__»:=entryFor_alias (id':= "dict_keyiterator.__iter__") (by kernel_rfl) rfl (by decide+kernel) (by kernel_rfl)
def args_seti_iter(a:au):argsOk "set_iterator.__iter__" ⟨[a],[]⟩:=by unfold argsOk;kernel_rfl
end F
section
variable{s:ba}{t:eQ}
def LU{α:Type}{M:Model}{Q:α->ba->Prop}{c:Prop}[Decidable c]{a b:Sem α}(h:c)(k:a9 M A a Q E s):a9 M A (if c then a else b) Q E s:=by rw[hV h];exact k
def yY(es:Array (Int×au))(a:t.plain=true):(!t.plain&&decide (es.size>1))=false:=by rw[a];rfl
def DA{Q:yJ}(h:Q (w.params.followText "set-order") s):a9 (be prog w) A setsByText Q E s:=by unfold setsByText;exact aAa (aFD<|aAb h)
def OK{Q:F8}(f:IsSet s.heap S es ep t)(b:t.fits es.size=true)(g:t.plain=true)
  (h:Q (.ref s.heap.objs.size) {s with heap:=s.heap.push {cls:=.type "set_iterator",dict:=none,data:=.fields #[ez (slotAt w t 0),ez (0:Nat),.ref S,ez es.size,ez ep],slots:=#[]}}):
  a9 (be prog w) A (pyIter (.ref S)) Q E s:=by
 obtain⟨o,a,i,d⟩:=f;have e:s.TypeIs (.ref S) "set":=⟨o,a,i⟩;refine aFr e PySem.F.slot_set_iter (aBD PySem.F.slot_set_iter e F.entry_set_iter ?_ (PySem.F.args_set_iter_1 _));unfold Builtin.«frozenset.__iter__»;show a9 _ _ (aFx "__iter__" ⟨[.ref S],[]⟩>>=_) _ _ s;have j:aFx "__iter__" ⟨[.ref S],[]⟩=pure S:=rfl;rw[j];refine aAa (aAb ?_);unfold Builtin.Frozenset.sizeOf;refine aAa (aAa<|aEH a d b<|aAb ?_);refine aAa ?_;unfold setDrawn;refine aAa (aCn a d b<|aAa<|DA<|aAb ?_);show a9 _ _ (if(!w.params.followText "set-order"&&(!t.plain&&decide (es.size>1)))=true then _ else _) _ _ s;rw[yY es g,aGi];simp only[aAv,if_false];refine aAa (aAb<|aAa<|wpAny_setEpoch_of a d b ?_);refine aAa (aBJ<|aAb ⟨_,rfl, "set_iterator",_,⟨_,aAr _ rfl,rfl⟩,F.slot_seti_next.lookup,?_⟩);simpa[slotAt]using h
def CD(a:ST.JJ Y):SetTable.below Y 0=0:=by
 obtain⟨d,b,e⟩:=ST.bT a 0;by_cases h:SetTable.below Y 0=0
 .exact h
 exact absurd (b 0 (by lia) (by lia)) (by lia)
def FM(b:ST.JJ Y)(a:i<Y.size):SetTable.below Y (Y.getD i 0+1)=i+1:=by
 have e:Y.getD i 0=Y[i]:=by simp[aFk,a]
 rw[e];obtain⟨h,f,g⟩:=ST.bT b (Y[i]+1);rcases Nat.lt_trichotomy (SetTable.below Y<|Y[i]+1) (i+1)with q|q|q
 .have:=g i a (by lia);lia
 .exact q
 have d:i+1<Y.size:=by lia
 have:=f (i+1) d q;have:=b i (i+1) a d (by lia)
 lia
def BX(t:eQ)(a:ST.JJ t.place)(b:¬w.params.followText "set-order"=true)(d:i<=t.place.size):SetTable.below t.place (slotAt w t i)=i:=by
 cases i with
 |zero=>exact CD a
 |succ i=>show SetTable.below t.place (if w.params.followText "set-order"=true then 0 else t.place.getD i 0+1)=i+1;rw[h9 b];exact FM a (by lia)
def AX{Q:Option (au×Nat)->ba->Prop}(p:IsSet s.heap S es ep t)(d:t.fits es.size=true)(q:t.plain=true)(r:¬w.params.followText "set-order"=true->t.led=true)(u:ST.JJ t.place)(C:i<=es.size)(f:∀e,(walkL w S es ep)[i]?=some e->Q (some (e.2,slotAt w t (i+1))) s)(k:i=es.size->Q none s):a9 (be prog w) A (setNext S (slotAt w t i) i ep) Q E s:=by
 obtain⟨o,l,H,m⟩:=p;have I:t.place.size=es.size:=by simp only[aGt,aAQ,beq_iff_eq,decide_eq_true_eq]at d;exact d.1
 unfold setNext;refine aAa (aCn l m d ?_);refine aAa (DA ?_);by_cases a:w.params.followText "set-order"=true
 .rw[hV a,h9 (by simp)];unfold setWalk;refine aAa (aAa<|aCn l m d<|aAa<|DA ?_);rw[hV a];refine aAa (aFD<|aAb ?_);refine aAb ?_;have h:(walkL w S es ep)=(hE (w.params.setOrder S ep) es).toList:=by unfold walkL;rw[hV a]
  have j:slotAt w t i=slotAt w t (i+1):=by
   cases i with
   |zero=>show 0=if w.params.followText "set-order"=true then 0 else _;rw[hV a]
   |succ i=>show(if w.params.followText "set-order"=true then 0 else _)=if w.params.followText "set-order"=true then 0 else _;rw[hV a,hV a]
  rw[h,aAE]at f;show Q (((hE (w.params.setOrder S ep) es)[i]?).map λe=>(e.2,slotAt w t i)) s;cases e:(hE (w.params.setOrder S ep) es)[i]? with
  |some x=>rw[j];exact f x e
  |none=>
   have n:(hE (w.params.setOrder S ep) es).size=es.size:=by have:=(uH (w.params.setOrder S ep) es).length_eq;simpa using this
   have:=Array.getElem?_eq_none_iff.mp e;exact k (by lia)
 rw[h9 a];have v:¬(!t.plain&&decide (es.size>1))=true:=by rw[q];simp
 show a9 _ _ (if(!t.plain&&decide (es.size>1))=true then _ else _) _ _ s;rw[h9 v];show a9 _ _ ((if(!t.led&&!es.isEmpty)=true then _ else _)>>=_) _ _ s;rw[h9 (by rw[r a];simp)];refine aAa (aAb<|aAb ?_);rw[BX t u a (by lia)];have h:(walkL w S es ep)=es.toList:=by unfold walkL;rw[h9 a]
 rw[h,aAE]at f;by_cases y:i<es.size
 .have g:es[i]?=some es[i]:=aAO y;have b:i<t.place.size:=by lia
  have z:t.place[i]?=some t.place[i]:=aAO b;have:=f _ g;rw[g,z];have B:slotAt w t (i+1)=t.place[i]+1:=by show(if w.params.followText "set-order"=true then 0 else t.place.getD i 0+1)=_;rw[h9 a];simp[aFk,b]
  rw[B]at this;exact this
 have g:es[i]?=none:=aCS (by lia);rw[g];exact k (by lia)
def S5(h:Q7 s.heap w it S t i n ep):s.TypeIs (.ref it) "set_iterator":=⟨_,h,rfl⟩
def SE{Q:Option au->ba->Prop}(a:Q7 s.heap w it S t i es.size ep)(b:IsSet s.heap S es ep t)(d:t.fits es.size=true)(j:t.plain=true)(k:¬w.params.followText "set-order"=true->t.led=true)(l:ST.JJ t.place)(m:i<es.size)(h:∀e h',(walkL w S es ep)[i]?=some e->Q7 h' w it S t (i+1) es.size ep->Heap.SameBut it s.heap h'->Q (some e.2) {s with heap:=h'}):a9 (be prog w) A (fg (.ref it)) Q E s:=by
 have f:=S5 a;obtain⟨o,n,z,p⟩:=id b;unfold fg;refine aAa (aEx (aCF (name:=aDy "__next__") f F.slot_seti_next
  (aBD F.slot_seti_next f F.entry_seti_next ?_ (F.args_seti_next _))))
 refine aAa (aAb ?_);refine aAa (wpAny_fieldsOf a rfl ?_);show a9 _ _ (setEntries S>>=_) _ _ s;refine aAa (aEH n p d ?_);rw[h9 (by simp)];show a9 _ _ (setNext S (aEI (slotAt w t i:Int)) (aEI (i:Int)) (aEI (ep:Int))>>=_) _ _ s;rw[aBK,aBK,aBK];refine aAa (AX b d j k l (aDw m) (λe q=>?_) λe=>by lia);show a9 _ _ (setField (.ref it) 0 (ez<|slotAt w t<|i+1)>>=_) _ _ s;refine aAa (aCe a (by simp) λr u v=>?_);show a9 _ _ (setField (.ref it) 1 (ez<|(i:Int)+1)>>=_) _ _ _;refine aAa (aCe (s:={s with heap:=r}) u (by simp) λg x y=>?_);refine aAb ⟨_,rfl,aAb (h e g q ?_ (v.trans y))⟩;have:g.get? it=some _:=x;unfold Q7;rw[this];simp
def VX{Q:Option au->ba->Prop}(k:A.handled=none)(d:Q7 s.heap w it S t es.size es.size ep)(f:IsSet s.heap S es ep t)(g:t.fits es.size=true)(l:t.plain=true)(n:¬w.params.followText "set-order"=true->t.led=true)(p:ST.JJ t.place)(h:∀h',Heap.ExtBut it s.heap h'->Q none {s with heap:=h'}):a9 (be prog w) A (fg (.ref it)) Q E s:=by
 have i:=S5 d;obtain⟨o,q,x,r⟩:=id f;unfold fg;refine aAa (aEx (aCF (name:=aDy "__next__") i F.slot_seti_next
  (aBD F.slot_seti_next i F.entry_seti_next ?_ (F.args_seti_next _))))
 refine aAa (aAb ?_);refine aAa (wpAny_fieldsOf d rfl ?_);show a9 _ _ (setEntries S>>=_) _ _ s;refine aAa (aEH q r g ?_);rw[h9 (by simp)];show a9 _ _ (setNext S (aEI (slotAt w t es.size:Int)) (aEI (es.size:Int)) (aEI (ep:Int))>>=_) _ _ s;rw[aBK,aBK,aBK];refine aAa (AX f g l n p (aAl _) (λe u=>?_) λ_=>?_)
 .have v:=(walkL_perm w S es ep).length_eq;have j:=(aAC.mp u).1;rw[v]at j;simp at j
 show a9 _ _ (setField (.ref it) 2 .none>>=_) _ _ s;refine aAa (wpAny_setField d rfl (by simp) ?_);show a9 _ _ (newExc (.type "StopIteration") []>>=_) _ _ _;refine aAa ?_;simp only[newExc,newTuple];refine aAa (aBJ ?_ (by size_fits));refine aAa (m:=firstArgMember _ _) (wpAny_of_eq (a:=Value.none) (by first|rfl|(simp only[firstArgMember];rfl)) ?_);refine aBJ ?_ (by size_fits);simp only[raiseNew];refine aAa (wpAny_handled ?_);rw[show A.in1.handled=none from k];refine aAa (aAb<|wpAny_throw ?_);refine aAa (aDR (T:= "StopIteration") (b:=true) ⟨_,aAr _ rfl,rfl⟩ isSubtype_stop ?_);exact aAb (h _<|((Heap.SameBut.update ..).extBut.push _).push _)
def dR(x:IsSet h S es ep t)(e:∀o,h.get? S=some o->h'.get? S=some o):IsSet h' S es ep t:=let⟨o,a,r⟩:=x;⟨o,e o a,r⟩
end
section
def KI(p:A.handled=none)(I S:bc)(r:S≠I)(g:t.fits es.size=true)(j:t.plain=true)(k:¬w.params.followText "set-order"=true->t.led=true)(l:ST.JJ t.place):
  Walks prog w A I [I,S] [I] es.size (λi v=>∃e,(walkL w S es ep)[i]?=some e/\v=e.2) (λi h=>Q7 h w I S t i es.size ep/\IsSet h S es ep t)where
 sub:=λb a=>by simp at a;simp[a]
 frame:=λ_ _ _ st m=>⟨m I (by simp) _ st.1,dR st.2 λo e=>m S (by simp) o e⟩
 item:=λi s Q E u st d=>SE st.1 st.2 g j k l u λe f x y n=>d e.2 f s.toks ⟨e,x,rfl⟩ ⟨y,dR st.2 λo q=>(n.2 S r).trans q⟩ λb o a q=>(n.2 b (λz=>a (by simp[z]))).trans q
 done:=λs Q E st d=>VX p st.1 st.2 g j k l λf B=>d f s.toks λb o a q=>B b o (λz=>a (by simp[z])) q
 self:=λi s Q E st d=>by refine aFr (S5 st.1) F.slot_seti_iter (aBD F.slot_seti_iter (S5 st.1) F.entry_seti_iter ?_ (F.args_seti_iter _));refine aAa (aAb<|aAb ⟨_,rfl, "set_iterator",_,S5 st.1,F.slot_seti_next.lookup,d⟩)
def collect_set{Q:List au->ba->Prop}(hh:A.handled=none)(hS:IsSet s.heap S es ep t)(hf:t.fits es.size=true)(hp:t.plain=true)(hl:¬w.params.followText "set-order"=true->t.led=true)(ha:ST.JJ t.place)(hn:es.size<=sizeLine)
  (hQ:∀h' tk,(∀b o,s.heap.get? b=some o->h'.get? b=some o)->Q ((walkL w S es ep).map (·.2)) {s with heap:=h',toks:=tk}):a9 (be prog w) A (collect (.ref S)) Q E s:=by
 obtain⟨I,f,j,hdS⟩:=id hS;have hT:s.TypeIs (.ref S) "set":=⟨I,f,j⟩;have C:S<s.heap.objs.size:=aAg f;unfold collect;refine aAa (wpAny_runValue<|aBS PySem.F.entry_proto_collect ?_);rw[aBs PySem.F.plain_proto_collect _];show a9 _ A.in1 (newList []>>=λl=>again (.builtin "list.__iadd__" ⟨[l,.ref S],[]⟩)) _ _ s;refine aAa (aBJ ?_);refine aAb ⟨aCd PySem.F.plain_list_iadd _,aBS PySem.F.entry_list_iadd ?_⟩;rw[aBs PySem.F.plain_list_iadd _];generalize k:s.heap.push {cls:=.type "list",data:=.seq ([]:List au).toArray}=a;have g:∀b o,s.heap.get? b=some o->a.get? b=some o:=λb o e=>by rw[<-k];exact aAc _ e
 have d:a.objs.size=s.heap.objs.size+1:=by rw[<-k,aBL]
 have J:a.get? s.heap.objs.size=some {cls:=.type "list",data:=.seq ([]:List au).toArray}:=by rw[<-k];exact aAr _ rfl
 have p:IsSet a S es ep t:=dR hS λo e=>g S o e;have L:Shared.TypeIs {s with heap:=a} (.ref S) "set":=⟨I,g _ _ f,j⟩;have q:aDh (.ref s.heap.objs.size) (.ref S)=false:=by simp[aDh,aDx C]
 show a9 _ A.in1 (aCf (.ref s.heap.objs.size) (.ref S)<|.ref s.heap.objs.size) _ _ _;unfold aCf;refine aAa (aDV L ?_);rw[h9 (by rw[q];decide)];refine aAa (OK (s:={s with heap:=a}) p hf hp ?_);refine aAa (aAW ?_);generalize r:a.push {cls:=.type "set_iterator",dict:=none,data:=.fields #[ez (slotAt w t 0),ez (0:Nat),.ref S,ez es.size,ez ep],slots:=#[]}=n;have h:∀b o,a.get? b=some o->n.get? b=some o:=λb o e=>by rw[<-r];exact aAc _ e
 have N:Q7 n w a.objs.size S t 0 es.size ep:=by rw[<-r];exact aAr _ rfl
 have O:IsSet n S es ep t:=dR p λo e=>h S o e;have m:Shared.TypeIs {s with heap:=n} (.ref S) "set":=⟨I,h _ _ (g _ _ f),j⟩;have u:=h _ _ J;unfold aCP;refine aAa (aBE m PySem.F.slot_set_len.lookup ?_)
 (generalize hid:("set.__len__":String)=v;(fail_if_success (clear hid v));wp_delta;rw[show splitId v=some ("set", "__len__")from by subst hid;decide+kernel];subst hid)
 refine aAa (aDR (b:=true) m (by rw[aFe];kernel_rfl) ?_);rw[h9 (by decide)];refine LU (by decide+kernel) ?_
 refine aAa (aDV m<|aAb ?_);rw[hV (by decide)];show a9 _ A.in1 (rule "list.extend.makes-room">>=λ_=>aFJ (.ref s.heap.objs.size)>>=λ_=>again (.builtin "list.extend.loop" ⟨[.ref s.heap.objs.size,.ref a.objs.size,.ref s.heap.objs.size],[]⟩)) _ _ _
 refine aAa (aDA ?_);refine aAa ?_;show a9 _ A.in1 (gv s.heap.objs.size (·.push .none)>>=λ_=>gv s.heap.objs.size (·.pop)) _ _ _;refine aAa (aCg u rfl ?_);have x:=aBo (aBI (·.push Value.none)) u rfl;refine aCg x rfl ?_;have T:=aBo (aBI (·.pop)) x rfl;have U:∀b o,b≠s.heap.objs.size->n.get? b=some o->((n.update s.heap.objs.size (aBI (·.push Value.none))).update s.heap.objs.size (aBI (·.pop))).get? b=some o:=
  λb o y e=>(aAF _ _<|aBY y).trans ((aAF _ _<|aBY y).trans e)
 have z:a.objs.size≠s.heap.objs.size:=by rw[d];lia
 have W:=(KI (prog:=prog) (w:=w) (A:=A.in1) (by simp[hh]) a.objs.size S (by rw[d];exact aAm (aBw C)) (es:=es) (ep:=ep) (t:=t) hf hp hl ha).toS;refine aAb ⟨aCd PySem.F.plain_extend_loop _,codeAny_extend_loopS W hn _ (by simp only[aAd,aAR,or_false,not_or];exact⟨aBY z,aDx C⟩) _ es.size 0 _ _ _ rfl (aAY _) ⟨U _ _ z N,dR O λo e=>U S o (aAm C) e⟩ T (ItemsOf.nil _) λB jn c' H jd Y=>?_⟩;show a9 _ A (load s.heap.objs.size>>=_) _ _ B;refine aAa (wpAny_load jd ?_);refine aAb ?_;have g0:B.gens=s.gens:=H.gens;have d0:B.drawn=s.drawn:=H.drawn;have o0:B.os=s.os:=H.os;have ea:jn.toList=(walkL w S es ep).map (·.2):=by
  have oi:=(walkL_perm w S es ep).length_eq;apply aFm;intro i;rw[aAG,aAE];by_cases hi:i<es.size
  .have zo:i<jn.size:=by rw[Y.1];exact hi
   obtain⟨e,he,hv⟩:=Y.2 i _ (aAO zo);rw[he,aAO zo,hv];rfl
  rw[aCS (by rw[Y.1];lia),List.getElem?_eq_none (by rw[oi];simp;lia)];rfl
 obtain⟨h',g',d',yn,os'⟩:=B;subst g0 d0 o0;rw[ea];refine hQ h' yn λb o e=>?_;have y:b≠s.heap.objs.size:=aAm (aAg e);have ya:b≠a.objs.size:=by rw[d];exact aAm (aBw<|aAg e)
 exact H.heap b o (by simp only[aAd,aAR,or_false,not_or];exact⟨y,ya⟩) (U b o y<|h _ _<|g _ _ e)
end
end SI
namespace DL
open PySem PySem.Spec L2
open PyProof.Rows hiding St
def OE:D->Bool
 |.int _=>true
 |_=>false
def cK:D->Bool
 |.tup Y=>!Y.isEmpty&&Y.all OE
 |_=>false
def intD:D->Int
 |.int i=>i
 |_=>0
def flat:D->List Int
 |.tup Y=>Y.map intD
 |_=>[]
theorem OP:∀{Y:List D},Y.all OE=true->Y=(Y.map intD).map D.int
 |[],_=>rfl
 |x::Y,h=>by
  simp only[aGr,aAQ]at h;cases x with
  |int i=>show D.int i::Y=D.int i::(Y.map intD).map D.int;rw[<-OP h.2]
  |_=>cases h.1
def iC(h:cK d=true):flat d≠[]/\d=.tup ((flat d).map .int):=by
 cases d with
 |tup Y=>simp only[cK,aAQ,Bool.not_eq_true',List.isEmpty_eq_false_iff]at h;refine⟨by simpa[flat]using h.1,?_⟩;show D.tup Y=D.tup ((Y.map intD).map D.int);rw[<-OP h.2]
 |_=>cases h
def yS(h:cK d=true)(h':cK e=true)(q:flat d=flat e):d=e:=by rw[(iC h).2,(iC h').2,q]
theorem vD:∀l:List Int,aG (l.map D.int)=true
 |[]=>rfl
 |i::l=>by show(true&&aG (l.map D.int))=true;rw[vD l];rfl
def V0(h:cK d=true):rG d=true:=by rw[(iC h).2];exact vD _
def IE(h:cK d=true):G2 d<8:=by
 rw[(iC h).2];have:∀l:List Int,B1 (l.map D.int)=0:=λl=>by
  induction l with
  |nil=>rfl
  |cons i l a=>show max 0 (B1<|l.map D.int)=0;rw[a];rfl
 show B1 _+1<8;rw[this];lia
def sN(d:D):List D->List D
 |[]=>[d]
 |x::Y=>if flat d=flat x then x::Y else if HT.lexLt (flat d) (flat x)=true then d::x::Y else x::sN d Y
def cJ(ds:List D):List D:=ds.foldr sN []
def UT(ds:List D):Prop:=ds.Pairwise λx y=>HT.lexLt (flat x) (flat y)=true
theorem iZ:∀{Y:List D},e∈sN d Y->e=d\/e∈Y
 |[],h=>by rcases aAd.mp h with h|h;exact .inl h;cases h
 |x::Y,h=>by
  unfold sN at h;split at h
  .exact .inr h
  split at h
  .rcases aAd.mp h with h|h
   .exact .inl h
   exact .inr h
  rcases aAd.mp h with h|h
  .exact .inr (by rw[h];exact .head _)
  rcases iZ h with h|h
  .exact .inl h
  exact .inr (.tail _ h)
theorem zC:∀{Y:List D},e∈Y->e∈sN d Y
 |x::Y,h=>by
  unfold sN;split
  .exact h
  split
  .exact .tail _ h
  rcases aAd.mp h with h|h
  .rw[h];exact .head _
  exact .tail _ (zC h)
theorem AT(a:cK d=true):∀{Y:List D},(∀x∈Y,cK x=true)->d∈sN d Y
 |[],_=>.head _
 |x::Y,h=>by
  unfold sN;split
  .rename_i q;rw[yS a (h x (.head _)) q];exact .head _
  split
  .exact .head _
  exact .tail _ (AT a λy b=>h y (.tail _ b))
theorem BB:∀{Y:List D},UT Y->UT (sN d Y)
 |[],_=>aDY _ _
 |x::Y,h=>by
  have b:=aAy.mp h;unfold sN;split
  .exact h
  rename_i ne;split
  .rename_i lt;refine aAy.mpr ⟨λy a=>?_,h⟩;rcases aAd.mp a with rfl|a
   .exact lt
   exact TS.lex_trans _ _ _ lt (b.1 y a)
  rename_i e;refine aAy.mpr ⟨λy a=>?_,BB b.2⟩;rcases iZ a with rfl|a
  .cases q:HT.lexLt (flat x) (flat y)with
   |true=>rfl
   |false=>exact absurd (TS.lex_total _ _ (by simpa using e) q) ne
  exact b.1 y a
theorem fA:∀ds:List D,UT (cJ ds)
 |[]=>.nil
 |_::ds=>BB (fA ds)
theorem AF:∀{ds:List D},(∀d∈ds,cK d=true)->∀d∈cJ ds,cK d=true
 |[],_,d,h=>by cases h
 |e::ds,h,d,hd=>by
  rcases iZ hd with rfl|hd
  .exact h _ (.head _)
  exact AF (λd hd=>h d (.tail _ hd)) d hd
theorem Q8:∀{ds:List D},(∀d∈ds,cK d=true)->∀d,d∈cJ ds↔d∈ds
 |[],_,d=>Iff.rfl
 |e::ds,h,d=>by
  have a:∀d∈ds,cK d=true:=λd b=>h d (.tail _ b);constructor
  .intro q;rcases iZ q with rfl|q
   .exact .head _
   exact .tail _ ((Q8 a d).mp q)
  intro q;rcases aAd.mp q with rfl|q
  .exact AT (h _<|.head _) (AF a)
  exact zC ((Q8 a d).mpr q)
theorem rA:∀{Y b:List D},UT Y->UT b->(∀d,d∈Y↔d∈b)->Y=b
 |[],[],_,_,_=>rfl
 |[],y::b,_,_,h=>by have:=(h y).mpr (.head _);cases this
 |x::Y,[],_,_,h=>by have:=(h x).mp (.head _);cases this
 |x::Y,y::b,j,k,h=>by
  have e:=aAy.mp j;have f:=aAy.mp k;have a:∀d:D,HT.lexLt (flat d) (flat d)≠true:=λd q=>by rw[TS.lex_irrefl]at q;cases q
  have g:x=y:=by
   rcases aAd.mp ((h x).mp (.head _))with q|q
   .exact q
   rcases aAd.mp ((h y).mpr (.head _))with i|i
   .exact i.symm
   exact absurd (TS.lex_trans _ _ _ (f.1 x q)<|e.1 y i) (a y)
  subst g;congr 1;refine rA e.2 f.2 λd=>?_;constructor
  .intro q;rcases aAd.mp ((h d).mp (.tail _ q))with z|z
   .subst z;exact absurd (e.1 d q) (a d)
   exact z
  intro q;rcases aAd.mp ((h d).mpr (.tail _ q))with z|z
  .subst z;exact absurd (f.1 d q) (a d)
  exact z
def JP(h:UT Y):Y.Nodup:=h.imp λ{x y} q z=>by subst z;rw[TS.lex_irrefl]at q;cases q
def ssR:D->R (List D)
 |.lst a=>if a.all cK=true/\(cJ a).length<=63 then .ok (cJ a)else .bad
 |_=>.bad
section
mutual
theorem cR(I:Inv X a σ H s):∀{v:V}{d:D}{u:au},Rep X.K H O v d->rG d=true->RelV v u->HV s.heap u d
 |_,_,_,.non,e,_=>by cases e
 |_,_,_,.bl,e,_=>by cases e
 |_,_,_,.str,e,_=>by cases e
 |_,_,_,.lst _ _ _,e,_=>by cases e
 |_,_,_,.dct _ _ _,e,_=>by cases e
 |_,_,_,.int,_,r=>by obtain⟨t,rfl⟩:=r;exact .int _ t
 |_,_,_,.tup h r,e,b=>by cases b;obtain⟨f,g,p,_⟩:=I.tuple h;exact .tup p (HQ I r e g)
theorem HQ(I:Inv X b σ H s):∀{v:List V}{d:List D}{u:List au},Reps X.K H O v d->aG d=true->l7 v u->HVs s.heap u d
 |_,_,_,.nil,_,.nil=>.nil
 |_,_,_,.cons r t,e,.cons f g=>by have a:(rG _&&aG _)=true:=e;rw[aAQ]at a;exact .cons (cR I r a.1 f) (HQ I t a.2 g)
end
end
variable [Tabs]
def a0q(w:cp)(o:Obj)(es:List au):Prop:=o.ExactSet/\∃a b t,o.data=.set a b t/\t.fits a.size=true/\t.plain=true/\t.led=!w.params.followText "set-order"/\ST.JJ t.place/\a.toList.map (·.2)=es
abbrev A4(K:iu)(H:Hp)(O:bc->Prop):List au->List D->Prop:=Paired λu d=>∃v,RelV v u/\Rep K H O v d
theorem A4.of{K:iu}{H:Hp}{O:bc->Prop}:∀{L:List V}{a:List au}{ds:List D},l7 L a->Reps K H O L ds->A4 K H O a ds
 |_,_,_,.nil,.nil=>.nil
 |_,_,_,.cons r t,.cons q u=>.cons ⟨_,r,q⟩ (A4.of t u)
theorem A4.ad1{K:iu}{H:Hp}{O:bc->Prop}:∀{a:List au}{ds:List D},A4 K H O a ds->∃L,l7 L a/\Reps K H O L ds
 |_,_,.nil=>⟨[],.nil,.nil⟩
 |_,_,.cons ⟨v,r,q⟩ t=>let⟨L,b,d⟩:=A4.ad1 t;⟨v::L,.cons r b,.cons q d⟩
def A4.same{K:iu}{H H':Hp}{O:bc->Prop}(s:Same H H'){a:List au}{ds:List D}(h:A4 K H O a ds):A4 K H' O a ds:=cV (by rintro _ _ ⟨v,r,q⟩;exact⟨v,r,q.same s⟩) h
theorem A4.get{K:iu}{H:Hp}{O:bc->Prop}:∀{a:List au}{ds:List D}{u:au},A4 K H O a ds->u∈a->∃d∈ds,∃v,RelV v u/\Rep K H O v d
 |_,_,_,.cons r t,h=>by
  rcases aAd.mp h with rfl|h
  .exact⟨_,.head _,r⟩
  obtain⟨d,b,q⟩:=A4.get t h;exact⟨d,.tail _ b,q⟩
open Classical in
def R1(K:iu) (H:Hp) (h:cq):cq:=PySem.W.hideAll h ((aBc h.objs.size).filter λa=>decide (¬∃Y,Y0 K H a Y))
def Z0(K:iu)(H:Hp)(h:cq):Keeps (R1 K H h) h:=λb o e=>PySem.W.of_hideAll _ e
open Classical in
def zE{K:iu}{H:Hp}{h:cq}{b:bc}{o:Obj}{Y:List V}(e:h.get? b=some o)(q:Y0 K H b Y):(R1 K H h).get? b=some o:=PySem.W.hideAll_get _ e λa=>by have:=(aAX.mp a).2;exact(of_decide_eq_true this) ⟨Y,q⟩
open Classical in
def CH{K:iu}{H:Hp}{h:cq}{b:bc}{o:Obj}(e:(R1 K H h).get? b=some o):∃Y,Y0 K H b Y:=by refine aCY λn=>?_;have a:=Z0 K H h b o e;have:(R1 K H h).get? b=none:=PySem.W.hideAll_none _ (aAX.mpr ⟨aBa.mpr (aAg a),decide_eq_true n⟩);rw[this]at e;cases e
section
mutual
theorem RV(I:Inv X a σ H s):∀{v:V}{d:D}{u:au},Rep X.K H O v d->rG d=true->RelV v u->HV (R1 X.K H s.heap) u d
 |_,_,_,.non,e,_=>by cases e
 |_,_,_,.bl,e,_=>by cases e
 |_,_,_,.str,e,_=>by cases e
 |_,_,_,.lst _ _ _,e,_=>by cases e
 |_,_,_,.dct _ _ _,e,_=>by cases e
 |_,_,_,.int,_,r=>by obtain⟨t,rfl⟩:=r;exact .int _ t
 |_,_,_,.tup h r,e,b=>by cases b;obtain⟨f,i,⟨o,g,c,n,d⟩,_⟩:=I.tuple h;exact .tup ⟨o,zE g h,c,n,d⟩ (II I r e i)
theorem II(I:Inv X b σ H s):∀{v:List V}{d:List D}{u:List au},Reps X.K H O v d->aG d=true->l7 v u->HVs (R1 X.K H s.heap) u d
 |_,_,_,.nil,_,.nil=>.nil
 |_,_,_,.cons r t,e,.cons f g=>by have a:(rG _&&aG _)=true:=e;rw[aAQ]at a;exact .cons (RV I r a.1 f) (II I t a.2 g)
end
mutual
theorem ND(I:Inv X b σ H s):∀{u:au}{d:D},HV (R1 X.K H s.heap) u d->∃v,RelV v u/\Rep X.K H O v d
 |_,_,.int i t=>⟨.int i,⟨t,rfl⟩,.int⟩
 |_,_,.tup (a:=a) ⟨o,g,c,n,h⟩ r=>by obtain⟨Y,q⟩:=CH g;obtain⟨L,j,k⟩:=A4.ad1 (HY I r);obtain⟨l,m,⟨w,e,_,x,f⟩,_⟩:=I.tuple q;rw[Z0 _ _ _ _ _ g]at e;cases e;rw[h]at f;injection f with p _;subst p;have:L=Y:=j.inj (by simpa using m);subst this;exact⟨.ref a,rfl,.tup q k⟩
theorem HY(I:Inv X a σ H s):∀{u:List au}{d:List D},HVs (R1 X.K H s.heap) u d->A4 X.K H O u d
 |_,_,.nil=>.nil
 |_,_,.cons r t=>.cons (ND I r) (HY I t)
end
end
section
def a1l(X:Cx)(B:D->Bool)(U:List D->List D)(f:Ev->R D):TE:=λσ H Q=>∃i j O ρ,EnvOk X.K i j H O σ ρ/\match f ρ with
 |.ok (.lst b)=>(b.all B=true/\(U b).length<=63)/\∀S o g e a,Same H a->a S=none->a0q X.w o g->A4 X.K a O g e->e.Nodup->(∀d,d∈e↔d∈b)->Q (.ref S) (upd a S<|.frz o (.own S))
 |.ex x=>∀h,Same H h->XW X x h
 |_=>False
def YF{B:D->Bool}{U:List D->List D}(hB:∀{d},B d=true->rG d=true/\G2 d<8/\∃Y,d=.tup Y)(hU:∀{ds:List D},(∀d∈ds,B d=true)->∀d,d∈U ds↔d∈ds)(ha:PB X e f)(hh:X.calm=true)(hu:X.A.units+300<cz)(hg:Gl X "set":=by rfl)(hm:X.mg "set"=none:=by assumption)(hv:de "set"=some (.type "set"):=by decide+kernel)(he:bb [e] X.env=(false,dm e X.env)::bb [] X.env:=by rfl)(bf:(cy C (bb [] X.env)).any (·.1)=false:=by rfl):
  PE X (.Call (.Name "set" p) [e] [] C) (a1l X B U f):=by
 refine tY λJ s σ H Q I H9 O0 O ρ E q=>?_;refine aBg (T9 I hg hm hv ?_ (by decide) (by decide));have rh:PA X [e] _:=O9 ha dG he;refine aBv (F5 (rh C J s σ H (λL g=>∃v ds,L=[v]/\f ρ=.ok (.lst ds)/\Same H g/\B5 X.K g O v (.lst ds)) I ⟨H9,O0,O,ρ,E,?_⟩) λus h z9=>?_) he bf
 .cases b:f ρ with
  |ex z=>rw[b]at q;exact q
  |bad=>rw[b]at q;exact q.elim
  |ok d=>
   rw[b]at q;cases d with
   |lst ds=>exactλv g h r1=>⟨v,ds,rfl,rfl,h,r1⟩
   |_=>exact q.elim
 obtain⟨L,g,m,r1,v,ds,ev,ef,sm,rb⟩:=z9;subst ev;rw[ef]at q;obtain⟨⟨hp,zu⟩,q⟩:=q;obtain⟨a,ws,rfl,hS,rr⟩:=rb.aa5;obtain⟨u,rfl,ru⟩:=vals1 r1;cases ru;obtain⟨k,rv,⟨oL,nL,gL,cL,dL,sL⟩,zL⟩:=m.list hS;have pt:∀d∈ds,B d=true:=aCj.mp hp;have hlen:k.toArray.size=ds.length:=by rw[aAn,<-rv.length,rr.length]
 have st:A4 X.K g O k ds:=A4.of rv rr;have N:∀(i:Nat) (v:au),k.toArray[i]?=some v->YC (R1 X.K g h.heap) v (ds.getD i .non):=λi v n=>by
  rw[aCV]at n;obtain⟨d,x,w,td,rp⟩:=J3 st n;have qi:ds.getD i .non=d:=by rw[aAo,x];rfl
  rw[qi];have hpt:=pt d (aAx x);obtain⟨ho,hd8,Y,rfl⟩:=hB hpt;have hv:=RV m rp ho td;cases hv with
  |tup p r=>exact⟨_,_,rfl,rfl,hd8,.tup p r⟩
 have vd:∀i<k.toArray.size,G2 (ds.getD i .non)<8/\∃Y,ds.getD i .non=.tup Y:=λi n=>by
  have T:i<ds.length:=by rw[<-hlen];exact n
  have b:ds.getD i .non=ds[i]:=by rw[aAo,aAi T];rfl
  rw[b];exact(hB<|pt _<|aCB T).2
 refine AE (Z0 X.K g h.heap) (val:=λi=>ds.getD i .non) (U:=U ds) (m.ok.hd hh) ⟨oL,gL,cL,nL,sL⟩ N vd (λi n=>?_) (by lia) hu λh' tk av jd qr kp=>?_
 .have T:i<ds.length:=by rw[<-hlen];exact n
  rw[hU pt];have b:ds.getD i .non=ds[i]:=by rw[aAo,aAi T];rfl
  show ds.getD i .non∈ds;rw[b];exact aCB T
 obtain⟨⟨o,y,ep,t,ho,hc,zr,hsl,x,l,msk,pr,led,pl⟩,nd⟩:=jd;have mem:∀d,d∈av↔d∈ds:=λd=>by
  rw[qr];constructor
  .rintro⟨j,hj,b⟩;have uo:j<ds.length:=by rw[<-hlen];exact hj
   have e2:ds.getD j .non=ds[j]:=by rw[aAo,aAi uo];rfl
   rw[<-b,e2];exact aCB uo
  intro x;obtain⟨j,hj,b⟩:=aBp x;refine⟨j,by rw[hlen];exact hj,?_⟩;show ds.getD j .non=d;rw[aAo,aAi hj,<-b];rfl
 have I2:=m.laid (a:=h.heap.objs.size) (o:=.frz o (.own h.heap.objs.size)) (h':=h') (t':=tk) kp (aAl _) ⟨ho,o,ho⟩;refine⟨.ref h.heap.objs.size,_,I2,rfl,q h.heap.objs.size o (y.toList.map (·.2)) av g sm (m.hok.fresh<|aAl _) ⟨⟨hc,zr,hsl⟩,y,ep,t,x,?_,pl,led,l.tab.asc,rfl⟩ ?_ nd mem⟩
 .have h1:=l.len;have h2:=l.room;simp only[aGt,aAQ,beq_iff_eq,decide_eq_true_eq];exact⟨by simpa using h1,by show t.place.size+t.dummies.size<=t.mask;rw[l.tab.nod];simpa using h2⟩
 have:∀{y:List (Int×au)}{ds:List D},Paired (EV<|R1 X.K g h.heap) y ds->A4 X.K g O (y.map (·.2)) ds:=λ{y ds} p=>by
  induction p with
  |nil=>exact .nil
  |cons r _ ih=>exact .cons (ND m r.1) ih
 exact this pr
def VD(h:cq) (v:au):List Int:=open Classical in if p:∃d,cK d=true/\HV h v d then flat p.choose else[]
def xO(b:cK d=true)(a:HV h v d):VD h v=flat d:=by unfold VD;have q:∃d,cK d=true/\HV h v d:=⟨d,b,a⟩;rw[dif_pos q,HV.inj q.choose_spec.2 a]
def bQ(e:cK d=true)(a:HV h v d):∃b items,v=.ref b/\IsTup h b items/\IntsAre items.toList (flat d):=by
 rw[(iC e).2]at a;cases a with
 |tup p r=>
  refine⟨_,_,rfl,p,?_⟩;have:∀{L:List au}{l:List Int},HVs h L (l.map D.int)->IntsAre L l:=λ{L l} r=>by
   induction l generalizing L with
   |nil=>cases r;exact .nil
   |cons i l f=>
    cases r with
    |cons r t=>cases r;exact .cons _ _ (f t)
  exact this r
def iq{prog:bM}{w:cp}{A:cf}{E:F8}{s:ba}{x y:au}{d e:D}{f:Bool}{Q:yJ}(g:cK d=true)(h:cK e=true)(i:HV s.heap x d)(j:HV s.heap y e)(q:Q (HT.lexLt (flat d) (flat e)) s):a9 (be prog w) A (keyLt' (TS.tupK f) x y) Q E s:=by obtain⟨b,k,rfl,l,m⟩:=bQ g i;obtain⟨p,a,rfl,n,o⟩:=bQ h j;exact TS.lt_ints f l n m o q
def OH{prog:bM}{w:cp}{A:cf}{E:F8}{s:ba}{L:List au}{Q:SortKind->ba->Prop}(h:∀x∈L,∃d,cK d=true/\HV s.heap x d)(v:2<=L.length)(q:Q (TS.tupK true) s):a9 (be prog w) A (keyKind' L.toArray) Q E s:=by
 obtain⟨g,j⟩:∃g:au->au,∀x∈L,∃b a k t,x=.ref b/\IsTup s.heap b a/\a[0]?=some (g x)/\g x=.int k t:=by
  refine⟨λx=>open Classical in if z:∃p,∃b a k t,x=.ref b/\IsTup s.heap b a/\a[0]?=some p/\p=aGL k t then z.choose else .none,λx m=>?_⟩;obtain⟨d,y,C⟩:=h x m;obtain⟨b,a,rfl,H,f⟩:=bQ y C;have B:=(iC y).1;have z:∃p,∃i a k t,aDJ b=.ref i/\IsTup s.heap i a/\a[0]?=some p/\p=aGL k t:=by
   cases e:a.toList with
   |nil=>rw[e]at f;generalize flat d=l at f B;cases f;exact absurd rfl B
   |cons p J=>
    rw[e]at f;generalize flat d=l at f;cases f with
    |cons k t N=>exact⟨_,b,a,k,t,rfl,H,by rw[<-aAE,e];rfl,rfl⟩
  dsimp only;rw[dif_pos z];obtain⟨i,I,k,t,n,o,r,u⟩:=z.choose_spec;exact⟨i,I,k,t,n,o,r,u⟩
 refine TS.kind_tuples (T:= "int") g (λx m=>?_) (λz=>by rw[z]at v;simp at v) (by decide) q;obtain⟨b,a,k,t,n,o,r,u⟩:=j x m;exact⟨b,a,n,o,r,by rw[u];exact typeIs_int s k t⟩
def vO{K:iu}{H:Hp}{O:bc->Prop}{n b:List au}{ds:List D}{key:au->List Int}(st:A4 K H O n ds)(C:b.Perm n)(E:b.Pairwise λx y=>HT.lexLt (key y) (key x)=false)(I:∀u d,(∃v,RelV v u/\Rep K H O v d)->d∈ds->key u=flat d)(pt:∀d∈ds,cK d=true)(J:ds.Nodup):
  ∃a,A4 K H O b a/\a.Perm ds/\UT a:=by
 obtain⟨a,j,k⟩:=dM C st;refine⟨a,k,j,?_⟩;have m:a.Nodup:=j.nodup_iff.mpr J;have o:∀d∈a,cK d=true:=λd f=>pt d (j.mem_iff.mp f);have p:∀u d,(∃v,RelV v u/\Rep K H O v d)->d∈a->key u=flat d:=λu d h f=>I u d h (j.mem_iff.mp f);clear C j st J pt I;induction k with
 |nil=>exact .nil
 |@cons u d n ds r t s=>
  have w:=aAy.mp E;have A:=aAH.mp m;refine aAy.mpr ⟨λe g=>?_,s w.2 A.2 (λd f=>o d (.tail _ f)) λu d h f=>p u d h (.tail _ f)⟩;have:∃i∈n,∃v,RelV v i/\Rep K H O v e:=by
   clear s E w A m o p r;induction t with
   |nil=>cases g
   |cons r t s=>
    rcases aAd.mp g with rfl|g
    .exact⟨_,.head _,r⟩
    obtain⟨i,B,q⟩:=s g;exact⟨i,.tail _ B,q⟩
  obtain⟨i,B,q⟩:=this;have l:=w.1 i B;rw[p i e q (.tail _ g),p u d r (.head _)]at l;cases z:HT.lexLt (flat d) (flat e)with
  |true=>rfl
  |false=>have:=yS (o _<|.head _) (o _<|.tail _ g) (TS.lex_total _ _ z l);subst this;exact absurd g A.1
def aX{p p2 eu:Pos}{f:Ev->R D}(ha:PB X e f)(hh:X.calm=true)(hu:X.A.units+300<cz)(hg:Gl X "set":=by rfl)(hm:X.mg "set"=none:=by assumption)(hg2:Gl X "sorted":=by rfl)(jm:X.mg "sorted"=none:=by assumption)
  (hv:de "set"=some (.type "set"):=by decide+kernel) (hv2:de "sorted"=some (.builtin "sorted"):=by decide+kernel)
  (he:bb [e] X.env=(false,dm e X.env)::bb [] X.env:=by rfl) (bf:(cy eu (bb [] X.env)).any (·.1)=false:=by rfl)
  (lu:bb [.Call (.Name "set" p2) [e] [] eu] X.env=(false,dm (.Call (.Name "set" p2) [e] [] eu) X.env)::bb [] X.env:=by rfl) (xo:(cy pos (bb [] X.env)).any (·.1)=false:=by rfl):
  PF X (.Call (.Name "sorted" p) [.Call (.Name "set" p2) [e] [] eu] [] pos) (λρ=>(f ρ).bind ssR):=by
 refine tY λpins s σ H Q I H9 O0 O ρ E q=>?_;dsimp only at q;refine aBg (T9 I hg2 jm hv2 ?_ (by decide) (by decide));have rh:PA X [.Call (.Name "set" p2) [e] [] eu] _:=O9 (YF (p:=p2) (B:=cK) (U:=cJ) (λh=>⟨V0 h,IE h,_,(iC h).2⟩) Q8 ha hh hu hg hm hv he bf) dG lu;refine aCt (F5 (rh pos pins s σ H (λL H2=>∃S o es i g N,L=[.ref S]/\H2=upd N S (.frz o (.own S))/\f ρ=.ok (.lst g)/\(g.all cK=true/\(cJ g).length<=63)/\Same H N/\N S=none/\a0q X.w o es/\A4 X.K N O es i/\i.Nodup/\(∀d,d∈i↔d∈g)) I ⟨H9,O0,O,ρ,E,?_⟩)
  λus s1 z=>?_) lu xo
 .cases e1:f ρ with
  |ex z=>rw[e1]at q;exact q
  |bad=>rw[e1]at q;exact q.elim
  |ok d=>
   rw[e1,R.aa0]at q;cases d with
   |lst g=>
    simp only[ssR]at q;by_cases hc:g.all cK=true/\(cJ g).length<=63
    .exact⟨hc,λS o es i N sm hS so st nd j=>⟨S,o,es,i,g,N,rfl,rfl,rfl,hc,sm,hS,so,st,nd,j⟩⟩
    rw[h9 hc]at q;exact q.elim
   |_=>exact q.elim
 obtain⟨L,H2,I2,r1,S,o,es,i,g,N,ev,eH,ef,⟨hp,zu⟩,sm,hS1,so,st,nd,j⟩:=z;subst ev eH;obtain⟨u,rfl,ru⟩:=vals1 r1;cases ru;rw[ef,R.aa0]at q;simp only[ssR]at q;rw[hV ⟨hp,zu⟩]at q;have pt:∀d∈g,cK d=true:=aCj.mp hp;have yo:∀d∈i,cK d=true:=λd J=>pt d ((j d).mp J);have s12:Same N (upd N S<|.frz o (.own S)):=j9 hS1 _;have kr:=st.same s12;obtain⟨hc,ea,ep,t,J,hf,hpln,led,asc,ees⟩:=so;have goS:=(I2.hok S _ j2).1;have hS2:SI.IsSet s1.heap S ea ep t:=⟨o,goS,hc.1,J⟩;have hsl:(cJ g).Perm i:=by
  letI:DecidableEq D:=λa b=>aEd _
  exact(aBQ (JP<|fA g) nd).mpr λd=>by rw[Q8 pt,j]
 have gu:ea.size=i.length:=by have:=st.length;rw[<-ees]at this;simpa using this
 have h63':i.length<=63:=by rw[<-hsl.length_eq];exact zu
 have wp:=SI.walkL_perm X.w S ea ep;have wpv:((SI.walkL X.w S ea ep).map (·.2)).Perm es:=by rw[<-ees];exact wp.map _
 have m:∀u∈(SI.walkL X.w S ea ep).map (·.2),∃d,d∈i/\cK d=true/\HV s1.heap u d:=λu hu=>by obtain⟨d,J,v,rv,rp⟩:=kr.get (wpv.mem_iff.mp hu);exact⟨d,J,yo d J,cR I2 rp (V0<|yo d J) rv⟩
 refine TS.sorted_keys (L:=(SI.walkL X.w S ea ep).map (·.2)) (f:=true) (key:=VD s1.heap) (C:=λs'=>∃h' Y,s'={s1 with heap:=h',toks:=Y}/\∀b o,s1.heap.get? b=some o->h'.get? b=some o)
  (λ{Q'} hq=>SI.collect_set (by simp[I2.ok.hd hh]) hS2 hf hpln (λnb=>by rw[led];simpa using nb) asc (by rw[gu];exact aAp h63' (by decide)) λh' Y k=>hq _ ⟨h',Y,rfl,k⟩)
  (λs' ⟨h',Y,r,k⟩ s6 k6 x hx y hy prog w A E hA {Q} qq=>?_) (λh2 s' ⟨h',Y,r,k⟩ s6 k6 A {Q} qq=>?_) (by rw[aAh,wp.length_eq,aBj,gu];lia) λs' fu h' l ⟨h1,Y,r,k⟩ pm srt k2 hl ⟨n,gl⟩=>?_
 .subst r;obtain⟨d,_,pd,T⟩:=m x hx;obtain⟨d',_,pd',hvd'⟩:=m y hy;rw[xO pd T,xO pd' hvd']at qq;exact iq pd pd' (T.keeps λb o e _=>k6 b o (k b o e)) (hvd'.keeps λb o e _=>k6 b o (k b o e)) qq
 .subst r;refine OH (λx hx=>?_) h2 qq;obtain⟨d,_,pd,T⟩:=m x hx;exact⟨d,pd,T.keeps λb o e _=>k6 b o (k b o e)⟩
 subst r;obtain⟨ua,st3,p2,srt2⟩:=vO (key:=VD s1.heap) kr (pm.trans wpv) srt (by rintro u d ⟨v,rv,rp⟩ J;exact xO (yo d J) (cR I2 rp (V0<|yo d J) rv)) yo nd;have e2:ua=cJ g:=rA srt2 (fA g) λd=>by rw[p2.mem_iff,j,Q8 pt]
 subst e2;obtain⟨wv,td,rr⟩:=st3.ad1;have I2':=I2.kept (h':=h1) (t':=Y) k;have I3:=I2'.laid (a:=l) (o:=.lst wv) (h':=h') (t':=Y) k2 hl ⟨by rw[rr.length];exact aAp zu (by decide),fu,n,td,gl⟩;exact⟨.ref l,_,I3,rfl,q wv _ l (sm.trans s12) (I2'.hok.fresh hl) rr⟩
end
end DL
namespace SZ
open PySem
abbrev Zs(h:cq)(z TI TO:bc)(a b:au):Prop:=h.get? z=some {cls:=.type "zip",dict:=none,data:=.fields #[a,b,.bool false,.ref TI,.ref TO],slots:=#[]}
def zJ(b:au):Prop:=b=.none\/∃a:Nat,b=ez a
section
def alive{Q:Option Obj->ba->Prop}(h:Q (s.heap.get? c) s):a9 (be prog w) A (loadIfAlive c) Q E s:=λΓ p _=>by unfold loadIfAlive;rw[Sem.wp_loadIfAlive];simpa using h
def oD{Q:yJ}(hz:Zs s.heap z TI TO b d)(j:zJ b)(f:Q true s)(g:∀h' e,Zs h' z TI TO b e->Heap.SameBut z s.heap h'->Q false {s with heap:=h'}):a9 (be prog w) A (aBV (.ref z)) Q E s:=by
 unfold aBV;refine aAa (aDb hz rfl (x:=b) rfl ?_);rcases j with rfl|⟨a,rfl⟩
 .exact aAb f
 show a9 _ _ (loadIfAlive (aEI (a:Int))>>=_) _ _ _;refine aAa (alive ?_);by_cases h:(s.heap.get?<|aEI (a:Int)).isNone=true
 .rw[hV h];exact aAb f
 rw[h9 h];refine aAa (aDb hz rfl (x:=d) rfl ?_);by_cases i:(d !=aDC true)=true
 .rw[hV i];refine aAa (aCe hz (by simp) λh' k l=>aAb (g h' (.bool true) k l))
 rw[h9 i];exact aAb (g s.heap d hz ⟨rfl,λ_ _=>rfl⟩)
def OF{Q:F8}(D:ZipApart z TI TO p q O l2)(hz:Zs s.heap z TI TO f0 f1)(ho:zJ f0)(vm:fh s.heap TI (.ref p) (.ref q))(um:fh s.heap TO a b)(h1:s.heap.IsListIter p O k)(h2:s.heap.IsListIter q l2 k)(qu:s.heap.IsList O Y)(oi:s.heap.IsList l2 ys)(hx:Y[k]?=some x)(hy:ys[k]?=some y)(hQ:∀h' T U C a' b',Zs h' z TI TO U C->zJ U->fh h' TO a' b'->h'.IsListIter p O (k+1)->h'.IsListIter q l2 (k+1)->s.heap.objs.size<=T->fh h' T x y->
   (∀c o,c≠z->c≠TO->c≠p->c≠q->s.heap.get? c=some o->h'.get? c=some o)->Q (.ref T) {s with heap:=h'}):
  a9 (be prog w) A (Builtin.«zip.__next__» ⟨[.ref z],[]⟩) (λfin s'=>∃v,fin=.done (.ret v)/\Q v s') E s:=by
 show a9 _ _ (field (.ref z) 2>>=_) _ _ _;refine aAa (aDb hz rfl (x:=.bool false) rfl ?_);show a9 _ _ (field (.ref z) 3>>=_) _ _ _;refine aAa (aDb hz rfl (x:=.ref TI) rfl ?_);refine aAa (aBR vm rfl ?_);show a9 _ _ (aBV (.ref z)>>=_) _ _ _;refine aAa (oD hz ho ?_ λt C yp d=>?_)
 .simp only[if_true];refine aAa (aDA ?_);refine aAa (aDb hz rfl (x:=.ref TO) rfl ?_);refine aAa (aCe hz (by simp) λt yp d=>?_);replace yp:Zs t z TI TO .ellipsis f1:=yp;refine aAa ?_;simp only[aEr,aEG,aDg,aEi];refine aAa (aAa<|wpAny_onRaise ?_);show a9 _ _ (aBT (.ref p)>>=_) _ _ _;refine aAa (aDn (h1.extBut d.extBut D.i1z) (qu.extBut d.extBut D.l1z) hx λir H i=>aAb ?_);have u:fh ir TO a b:=i.extBut _ _ D.TOi1 (d.extBut _ _ D.TOz um);refine aAa (aBR u rfl ?_);refine aAa (wpAny_updateSeq_pair u λaA l j=>?_);replace l:fh aA TO x b:=l;refine aAa (aEg<|aAb ?_);refine aAa (aAa<|wpAny_onRaise ?_);show a9 _ _ (aBT (.ref q)>>=_) _ _ _;refine aAa (aDn (((h2.extBut d.extBut D.i2z).extBut i.extBut D.i12.symm).extBut j.extBut D.TOi2.symm)
   (((oi.extBut d.extBut D.l2z).extBut i.extBut D.l2i1).extBut j.extBut D.l2TO) hy λI J m=>aAb ?_)
  have f:fh I TO x b:=m.extBut _ _ D.TOi2 l;refine aAa (aBR f rfl ?_);refine aAa (wpAny_updateSeq_pair f λg h n=>?_);replace h:fh g TO x y:=h;refine aAa (aEg<|aAb<|aAb ?_);refine aAa (aBR h rfl ?_);refine aAa (aGh ?_);have gu:g.objs.size=s.heap.objs.size:=by rw[n.1,m.1,j.1,i.1,d.1]
  have hz3:Zs g z TI TO .ellipsis f1:=n.extBut _ _ D.TOz.symm (m.extBut _ _ D.i2z.symm<|j.extBut _ _ D.TOz.symm<|i.extBut _ _ D.i1z.symm yp);have hk3:∀c o,c≠z->c≠TO->c≠p->c≠q->s.heap.get? c=some o->g.get? c=some o:=λc o r c2 c3 c4 e=>n.extBut _ _ c2 (m.extBut _ _ c4<|j.extBut _ _ c2<|i.extBut _ _ c3<|d.extBut _ _ r e)
  have h11:g.IsListIter p O (k+1):=((H.extBut j.extBut D.TOi1.symm).extBut m.extBut D.i12).extBut n.extBut D.TOi1.symm;have h21:g.IsListIter q l2 (k+1):=J.extBut n.extBut D.TOi2.symm;have B:z<g.objs.size:=aAg hz3;show a9 _ _ (aDM (.ref z) (.ref g.objs.size)>>=_) _ _ _;refine aAa ?_;unfold aDM;have hz5:Zs (g.push {cls:=.type "tuple",data:=.seq #[x,y]}) z TI TO .ellipsis f1:=aAc _ hz3;refine aAa (aCe hz5 (by simp) λaC L hs8=>?_);replace L:Zs aC z TI TO (ez g.objs.size) f1:=L;refine aCe L (by simp) λaB N hs9=>?_;replace N:Zs aB z TI TO (ez g.objs.size) (.bool false):=N;have up:∀c o,c≠z->g.get? c=some o->aB.get? c=some o:=λc o r e=>hs9.extBut _ _ r (hs8.extBut _ _ r<|aAc _ e);have hT0:fh aB g.objs.size x y:=hs9.extBut _ _ (aDx B) (hs8.extBut _ _ (aDx B)<|aAr _ rfl);refine aAb ⟨_,rfl,?_⟩;exact hQ aB g.objs.size _ _ x y N (.inr ⟨_,rfl⟩) (up _ _ D.TOz h) (h11.at λo e=>up _ o D.i1z e) (h21.at λo e=>up _ o D.i2z e) (aEn gu.symm) hT0 λc o r c2 c3 c4 e=>up c o r (hk3 c o r c2 c3 c4 e)
 simp only[aAv,if_false];refine aAa ?_;show a9 _ _ (forIn (#[.ref p,.ref q]:Array au) _ _) _ _ _;rw[<-aCx];simp only[aDg,aEi];refine aAa (aAa<|aAW ?_);show a9 _ _ (aBT (.ref p)>>=_) _ _ _;refine aAa (aDn (h1.extBut d.extBut D.i1z) (qu.extBut d.extBut D.l1z) hx λir H i=>aAb ?_);refine aAb ?_;refine aAa (aAa<|aAW ?_);show a9 _ _ (aBT (.ref q)>>=_) _ _ _;refine aAa (aDn ((h2.extBut d.extBut D.i2z).extBut i.extBut D.i12.symm) ((oi.extBut d.extBut D.l2z).extBut i.extBut D.l2i1) hy λI J m=>aAb ?_);refine aAb (aAb ?_);have gu:I.objs.size=s.heap.objs.size:=by rw[m.1,i.1,d.1]
 have hz6:Zs I z TI TO f0 C:=m.extBut _ _ D.i2z.symm (i.extBut _ _ D.i1z.symm yp);have f:fh I TO a b:=m.extBut _ _ D.TOi2 (i.extBut _ _ D.TOi1<|d.extBut _ _ D.TOz um);have h12:I.IsListIter p O (k+1):=H.extBut m.extBut D.i12;show a9 _ _ (newTuple [x,y]>>=_) _ _ _;refine aAa (aGh ?_);refine aAb ⟨_,rfl,?_⟩;exact hQ _ I.objs.size _ _ a b (aAc _ hz6) ho (aAc _ f) (h12.at λo e=>aAc _ e) (J.at λo e=>aAc _ e) (aEn gu.symm) (aAr _ rfl)
  λc o r c2 c3 c4 e=>aAc _ (m.extBut _ _ c4<|i.extBut _ _ c3<|d.extBut _ _ r e)
def XC{Q:Fin->ba->Prop}(y:A.handled=none)(D:ZipApart z TI TO h m B l2)(hz:Zs s.heap z TI TO N C)(O:zJ N)(T:fh s.heap TI (.ref h) (.ref m))(um:fh s.heap TO a b)
  (H:s.heap.IsListIter h B k) (h2:s.heap.IsListIter m l2 k) (I:s.heap.IsList B Y) (oi:s.heap.IsList l2 ys) (J:Y[k]?=none)
  (L:∀h' e,(∀c o,c≠z->c≠TO->c≠h->c≠m->s.heap.get? c=some o->h'.get? c=some o)->(∃o,h'.get? e=some o/\o.cls=.type "StopIteration")->E (.ref e) {s with heap:=h'}):
  a9 (be prog w) A (Builtin.«zip.__next__» ⟨[.ref z],[]⟩) Q E s:=by
 show a9 _ _ (field (.ref z) 2>>=_) _ _ _;refine aAa (aDb hz rfl (x:=.bool false) rfl ?_);show a9 _ _ (field (.ref z) 3>>=_) _ _ _;refine aAa (aDb hz rfl (x:=.ref TI) rfl ?_);refine aAa (aBR T rfl ?_);show a9 _ _ (aBV (.ref z)>>=_) _ _ _;refine aAa (oD hz O ?_ λd U n f=>?_)
 .simp only[if_true];refine aAa (aDA ?_);refine aAa (aDb hz rfl (x:=.ref TO) rfl ?_);refine aAa (aCe hz (by simp) λd n f=>?_);replace n:Zs d z TI TO .ellipsis C:=n;refine aAa ?_;simp only[aEr,aEG,aDg,aEi];refine aAa (aAa<|wpAny_onRaise ?_);show a9 _ _ (aBT (.ref h)>>=_) _ _ _;refine aAa (wpAny_nextOf_list_end y (H.extBut f.extBut D.i1z) (I.extBut f.extBut D.l1z) J λr e p t=>?_);obtain⟨oe,g,i⟩:=t;have j:Zs r z TI TO .ellipsis C:=p _ _ D.i1z.symm n;have u:e≠z:=λx=>by subst x;rw[j]at g;cases g;simp at i
  exact aCe j (by simp) λaA _ l=>L aA e (λc o q _ v _ x=>l.extBut _ _ q (p _ _ v<|f.extBut _ _ q x)) ⟨oe,l.extBut _ _ u g,i⟩
 simp only[aAv,if_false];refine aAa ?_;show a9 _ _ (forIn (#[.ref h,.ref m]:Array au) _ _) _ _ _;rw[<-aCx];simp only[aDg,aEi];refine aAa (aAa<|aAW ?_);show a9 _ _ (aBT (.ref h)>>=_) _ _ _;exact aAa (wpAny_nextOf_list_end y (H.extBut f.extBut D.i1z) (I.extBut f.extBut D.l1z) J λr e p t=>L r e (λc o q _ v _ x=>p _ _ v (f.extBut _ _ q x)) t)
end
def PN(z TI TO d e f l2:bc)(Y j:Array au)(i:Nat)(h:cq):Prop:=
 (∃g k,Zs h z TI TO g k/\zJ g)/\fh h TI (.ref d) (.ref e)/\(∃a b,fh h TO a b)/\h.IsListIter d f i/\h.IsListIter e l2 i/\h.IsList f Y/\h.IsList l2 j
section
variable{s:ba}
def PN.type(h:PN z TI TO b d e l2 Y f i s.heap):s.TypeIs (.ref z) "zip":=by obtain⟨⟨g,j,a,_⟩,_⟩:=h;exact⟨_,a,rfl⟩
def PN.keeps(x:PN z TI TO d f g l2 Y j i h)(k:∀b o,b∈[z,TI,TO,d,f,g,l2]->h.get? b=some o->h'.get? b=some o):PN z TI TO d f g l2 Y j i h':=by obtain⟨⟨l,m,n,p⟩,q,⟨a,b,r⟩,t,u,v,w⟩:=x;exact⟨⟨l,m,k z _ (by simp) n,p⟩,k TI _ (by simp) q,⟨a,b,k TO _ (by simp) r⟩,t.at λo e=>k d o (by simp) e,u.at λo e=>k f o (by simp) e,v.at λo e=>k g o (by simp) e,w.at λo e=>k l2 o (by simp) e⟩
def MZ{Q:Option au->ba->Prop}(D:ZipApart z TI TO h j m l2)(hl:Y.size=d.size)(st:PN z TI TO h j m l2 Y d i s.heap)(v:i<Y.size)(B:∀h' T x y,Y[i]?=some x->d[i]?=some y->PN z TI TO h j m l2 Y d (i+1) h'->s.heap.objs.size<=T->fh h' T x y->(∀c o,c∉[z,TO,h,j]->s.heap.get? c=some o->h'.get? c=some o)->Q (some (.ref T)) {s with heap:=h'}):
  a9 (be prog w) A (fg (.ref z)) Q E s:=by
 have n:=st.type;obtain⟨⟨f0,f1,C,H⟩,p,⟨a,b,I⟩,J,L,q,r⟩:=st;have t:Y[i]?=some Y[i]:=aAO v;have u:d[i]?=some (d[i]'(by lia)):=aAO (by lia);unfold fg;refine aAa (aEx (aCF (name:=aDy "__next__") n aEe
  (aBD aEe n F.entry_zip_next (OF D C H p I J L q r t u λh' T k l N O U e2 e3 e4 e5 e6 e7 g=>aAb ?_)<|F.args_zip_next_1 _)))
 refine B h' T _ _ t u ⟨⟨k,l,U,e2⟩,g _ _ D.TIz D.TITO D.TIi1 D.TIi2 p,⟨N,O,e3⟩,e4,e5,q.at λo e=>g _ o D.l1z D.l1TO D.l1i1 D.l1i2 e,r.at λo e=>g _ o D.l2z D.l2TO D.l2i1 D.l2i2 e⟩ e6 e7 λc o f e=>?_;simp only[aAd,aAR,or_false,not_or]at f;exact g c o f.1 f.2.1 f.2.2.1 f.2.2.2 e
def QA{Q:Option au->ba->Prop}(i:A.handled=none)(D:ZipApart z TI TO f g j l2)(st:PN z TI TO f g j l2 Y B Y.size s.heap)
  (k:∀h',(∀c o,c∉[z,TO,f,g]->s.heap.get? c=some o->h'.get? c=some o)->Q none {s with heap:=h'}):a9 (be prog w) A (fg (.ref z)) Q E s:=by
 have h:=st.type;obtain⟨⟨C,H,l,m⟩,n,⟨a,b,p⟩,q,r,t,u⟩:=st;unfold fg;refine aAa (aEx (aCF (name:=aDy "__next__") h aEe
  (aBD aEe h F.entry_zip_next (XC (by simpa using i) D l m n p q r t u (aCS<|aAl _) λh' e v x=>?_)<|F.args_zip_next_1 _)))
 obtain⟨o,y,d⟩:=x;refine aAa (aDR (T:= "StopIteration") (b:=true) ⟨o,y,d⟩ isSubtype_stop ?_);refine aAb (k _ λc o d e=>?_);simp only[aAd,aAR,or_false,not_or]at d;exact v c o d.1 d.2.1 d.2.2.1 d.2.2.2 e
def Pairs(h0:cq)(Y a B:Array au)(i:Nat)(h:cq)(off:List bc):Prop:=B.size=i/\∀(j:Nat) (v:au),B[j]?=some v->∃T x y,v=.ref T/\Y[j]?=some x/\a[j]?=some y/\fh h T x y/\T∉off/\h0.get? T=none
def PQ(hh:A.handled=none)(D:ZipApart z TI TO g l O l2)(hl:Y.size=Q.size)(hn:Y.size<=sizeLine)(S:bc)(qg:S∉[z,TI,TO,g,l,O,l2])(res:au)(h0:cq):
  ∀(k i:Nat) (s:ba) (B:Array au) (c:Nat),Y.size-i=k->i<=Y.size->(∀b o,b∉[z,TO,g,l,S]->h0.get? b=some o->s.heap.get? b=some o)->PN z TI TO g l O l2 Y Q i s.heap->s.heap.get? S=some {cls:=.type "list",dict:=none,data:=.seq B c,slots:=#[]}->Pairs h0 Y Q B i s.heap [z,TO,g,l,S]->
  (∀h' L U,(∀b o,b∉[z,TO,g,l,S]->s.heap.get? b=some o->h'.get? b=some o)->h'.get? S=some {cls:=.type "list",dict:=none,data:=.seq L U,slots:=#[]}->Pairs h0 Y Q L Y.size h' [z,TO,g,l,S]->R (.ok (.ret res)) {s with heap:=h'})->
  gm (be prog w) A (.builtin "list.extend.loop" ⟨[.ref S,.ref z,res],[]⟩) R s:=by
 have C:S∉[z,TO,g,l]:=λh=>qg (by simp only[aAd,aAR,or_false]at h⊢;rcases h with h|h|h|h<;>simp[h]);have m:∀b,b∉[z,TO,g,l,S]->b∉[z,TO,g,l]:=λb h q=>h (by simp only[aAd,aAR,or_false]at q⊢;rcases q with q|q|q|q<;>simp[q]);intro k;induction k with
 |zero=>
  intro i s B c hk hi p N E n hR;have om:i=Y.size:=by lia
  subst om;refine aBS F.entry_extend_loop ?_;rw[aBs aDj _];show a9 _ A.in1 (fg (.ref z)>>=_) _ _ s;refine aAa (QA (by simpa using hh) D N λh' kp=>?_);refine aAb (hR h' B c (λb o d e=>kp b o (m b d) e) (kp S _ C E) ⟨n.1,λj v t=>?_⟩);obtain⟨T,x,y,e1,e2,e3,e4,u,e6⟩:=n.2 j v t;exact⟨T,x,y,e1,e2,e3,kp T _ (m T u) e4,u,e6⟩
 |succ k ih=>
  intro i s B c hk hi p N E n hR;have ah:i<Y.size:=by lia
  refine aBS F.entry_extend_loop ?_;rw[aBs aDj _];show a9 _ A.in1 (fg (.ref z)>>=_) _ _ s;refine aAa (MZ D hl N ah λh' T x y hx hy lh hT hP kp=>?_);have jd:=kp S _ C E;have f:∀b o,s.heap.get? b=some o->T≠b:=λb o e q=>absurd (aAw (aAg e) hT) (by rw[q];exact aBr _);obtain⟨⟨f0,f1,hz,_⟩,_,⟨a,b,um⟩,⟨o1,g1,_⟩,⟨o2,g2,_⟩,_⟩:=id N;have H:T∉[z,TO,g,l,S]:=by simp only[aAd,aAR,or_false,not_or];exact⟨f _ _ hz,f _ _ um,f _ _ g1,f _ _ g2,f _ _ E⟩
  show a9 _ A.in1 (gv S (·.push (.ref T))>>=_) _ _ _;refine aAa ?_;have I:∀b o,b≠S->h'.get? b=some o->(h'.update S (aBI (·.push (.ref T)))).get? b=some o:=λb o d e=>(aAF _ _<|aBY d).trans e;have neS:∀b,b∈[z,TI,TO,g,l,O,l2]->b≠S:=λb d q=>qg (q▸d);refine aCg jd rfl (aAb ⟨aCd aDj _,ih (i+1) _ (B.push<|.ref T) _ (by lia) ah (λb o d e=>I b o (λq=>d (by simp[q])) (kp b o (m b d)<|p b o d e)) (lh.keeps λb o d e=>I b o (neS b d) e) (aBo _ jd rfl) ⟨by rw[Array.size_push,n.1],λj v t=>?_⟩ λh'' L U kp' xm r=>?_⟩)
   (by rw[n.1];lia) (by show(B.push<|.ref T).size<=sizeLine+1;rw[Array.size_push,n.1];lia)
  .rw[Array.getElem?_push]at t;split at t
   .rename_i q;cases t;rw[n.1]at q;subst q;refine⟨T,x,y,rfl,hx,hy,I T _ (f _ _ E) hP,H,?_⟩;cases q0:h0.get? T with
    |none=>rfl
    |some o=>exact absurd rfl (f T o<|p T o H q0)
   obtain⟨J,x',y',e1,e2,e3,e4,u,e6⟩:=n.2 j v t;have n5:J≠S:=λq=>u (by simp[q]);exact⟨J,x',y',e1,e2,e3,I J _ n5 (kp J _ (m J u) e4),u,e6⟩
  refine hR h'' L U (λb o d e=>kp' b o d (I b o (λq=>d (by simp[q]))<|kp b o (m b d) e)) xm r
end
section
def dZ{Q:F8}(St:cq->Prop)(N:∀d:ba,St d.heap->d.TypeIs (.ref I) T)(B:∀h h',St h->(∀b o,b≠s.heap.objs.size->h.get? b=some o->h'.get? b=some o)->St h')(r:I≠s.heap.objs.size)
  (n1:(aCw T==aCw "list")=false) (n2:(aCw T==aCw "tuple")=false) (O:∀{M:Model}{A:cf}{E:F8}{s:ba}{Q:Fin->ba->Prop}{a b:Sem Fin},(room=true->a9 M A a Q E s)->(room=false->a9 M A b Q E s)->a9 M A (if(room||["set", "frozenset", "dict", "dict_keys", "dict_values", "dict_items"].any (aCw T==aCw ·))=true then a else b) Q E s)
  (self:∀(d:ba) (Q:F8) (E:F8),St d.heap->Q (.ref I) d->a9 (be prog w) A.in1.in1 (pyIter (.ref I)) Q E d)
  (hint:∀(d:ba) (Q:yJ) (E:F8),St d.heap->Q room d->a9 (be prog w) A.in1.in1 (aCP (.ref I)) Q E d) (U:St s.heap)
  (f:∀(n:cq) (c:Nat) (R:Result->ba->Prop),(∀b o,s.heap.get? b=some o->n.get? b=some o)->St n->n.get? s.heap.objs.size=some {cls:=.type "list",dict:=none,data:=.seq #[] c,slots:=#[]}->(∀s',Q (.ref s.heap.objs.size) s'->R (.ok (.ret .none)) s')->
   gm (be prog w) A.in1 (.builtin "list.extend.loop" ⟨[.ref s.heap.objs.size,.ref I,.none],[]⟩) R {s with heap:=n}):
  a9 (be prog w) A (call (.type "list") [.ref I]) Q E s:=by
 refine callType_codes (Q₁:=λj C=>j=.ref s.heap.objs.size/\C={s with heap:=s.heap.push {cls:=.type "list",data:=.seq #[]}}) F.called_list (F.typeCall_list_1 _) F.entry_list_init
  (code_list_new _ ⟨rfl,rfl⟩) λj C k=>?_
 obtain⟨rfl,rfl⟩:=k;have p:(s.heap.push {cls:=.type "list",data:=.seq #[]}).get? s.heap.objs.size=some {cls:=.type "list",data:=.seq #[]}:=aAr _ rfl;have H:∀b o,s.heap.get? b=some o->b≠s.heap.objs.size:=λb o e=>aAm (aAg e);refine⟨⟨_,p,rfl⟩,F.args_list_init_2 _ _,?_⟩;show a9 _ A.in1.in1 (do let t<-aCR (.ref s.heap.objs.size);Builtin.List.listUpdate (.ref s.heap.objs.size) (λ_=>#[]);letGo t.toList.reverse;aCf (.ref s.heap.objs.size) (.ref I) .none) _ _ _;refine aAa ?_;unfold aCR;refine aAa (aBR p rfl<|aAb ?_);show a9 _ A.in1.in1 (gv s.heap.objs.size (λ_=>#[])>>=λ_=>letGo (#[]:Array au).toList.reverse>>=λ_=>aCf (.ref s.heap.objs.size) (.ref I) .none) _ _ _;refine aAa (aCg p rfl ?_);have i:=aBo (aBI<|λ_=>(#[]:Array au)) p rfl;refine aAa (aEg ?_);generalize u:(s.heap.push {cls:=.type "list",data:=.seq #[]}).update s.heap.objs.size (aBI<|λ_=>(#[]:Array au))=g at*
 have v:∀b o,s.heap.get? b=some o->g.get? b=some o:=λb o e=>by rw[<-u];exact(aAF _ _<|aBY<|H b o e).trans (aAc _ e)
 have l:St g:=B s.heap g U λb o _ e=>v b o e;have x:aDh (.ref s.heap.objs.size) (.ref I)=false:=by simp[aDh,aBY r]
 have y:Shared.TypeIs {s with heap:=g} (.ref I) T:=N {s with heap:=g} l;unfold aCf;refine aAa (aDV y ?_);simp only[x,n1,n2,Bool.or_false,aAv,if_false];refine aAa (self _ _ _ l ?_);refine aAa (aAW<|hint _ _ _ l ?_);refine O (λ_=>?_) (λ_=>?_)
 .show a9 _ A.in1.in1 (rule "list.extend.makes-room">>=λ_=>aFJ (.ref s.heap.objs.size)>>=λ_=>again (.builtin "list.extend.loop" ⟨[.ref s.heap.objs.size,.ref I,.none],[]⟩)) _ _ _;refine aAa (aDA ?_);refine aAa ?_;show a9 _ A.in1.in1 (gv s.heap.objs.size (·.push .none)>>=λ_=>gv s.heap.objs.size (·.pop)) _ _ _;refine aAa (aCg i rfl ?_);have m:=aBo (aBI (·.push Value.none)) i rfl;refine aCg (hz:=by seq_fits) m rfl ?_;have z:=aBo (aBI (·.pop)) m rfl;have J:∀b o,b≠s.heap.objs.size->g.get? b=some o->((g.update s.heap.objs.size (aBI (·.push Value.none))).update s.heap.objs.size (aBI (·.pop))).get? b=some o:=
   λb o L e=>(aAF _ _<|aBY L).trans ((aAF _ _<|aBY L).trans e)
  exact aAb ⟨aCd aDj _,f _ _ _ (λb o e=>J b o (H b o e) (v b o e)) (B g _ l J) z λs' q=>⟨rfl,q⟩⟩
 exact aAb ⟨aCd aDj _,f _ _ _ v l i λs' q=>⟨rfl,q⟩⟩
def KA:typeLookup (.type "zip") "__len__"=pure none:=by rw[aDz,aCu];kernel_rfl
def EZ:typeLookup (.type "zip") "__length_hint__"=pure none:=by rw[aDz,aCu];kernel_rfl
def SC{Q:F8}(t:A.handled=none)(D:ZipApart z TI TO f g i l2)(u:Y.size=l.size)(y:Y.size<=sizeLine)(st:PN z TI TO f g i l2 Y l 0 s.heap)(C:∀h' B c,(∀b o,b∉[z,TO,f,g]->s.heap.get? b=some o->h'.get? b=some o)->h'.get? s.heap.objs.size=some {cls:=.type "list",dict:=none,data:=.seq B c,slots:=#[]}->Pairs s.heap Y l B Y.size h' [z,TO,f,g,s.heap.objs.size]->Q (.ref s.heap.objs.size) {s with heap:=h'}):
  a9 (be prog w) A (call (.type "list") [.ref z]) Q E s:=by
 have lt:∀b∈[z,TI,TO,f,g,i,l2],b≠s.heap.objs.size:=λb d=>by
  obtain⟨⟨H,I,n,_⟩,J,⟨a,b',L⟩,⟨o1,N,_⟩,⟨o2,O,_⟩,⟨o3,U,_⟩,⟨o4,g4,_⟩⟩:=st;simp only[aAd,aAR,or_false]at d;rcases d with rfl|rfl|rfl|rfl|rfl|rfl|rfl
  .exact aAm (aAg n)
  .exact aAm (aAg J)
  .exact aAm (aAg L)
  .exact aAm (aAg N)
  .exact aAm (aAg O)
  .exact aAm (aAg U)
  exact aAm (aAg g4)
 refine dZ (T:= "zip") (room:=true) (PN z TI TO f g i l2 Y l 0) (λm h=>h.type) (λh h' x k=>x.keeps λb o d e=>k b o (lt b d) e) (lt z (by simp)) (by decide) (by decide) (λp h2=>by rw[hV (by decide)];exact p rfl)
  (λm Q E x q=>?_) (λm Q E x q=>?_) st λp c R r ZS hS hR=>?_
 .obtain⟨⟨H,I,n,_⟩,_⟩:=id x;refine aFr x.type F.slot_zip_iter (aBD F.slot_zip_iter x.type F.entry_zip_iter ?_ (F.args_zip_iter_1 _));show a9 _ _ (ret<|.ref z) _ _ m;exact aAb ⟨_,rfl, "zip",_,x.type,aEe.lookup,q⟩
 .unfold aCP;refine aAa (aBE x.type KA ?_);show a9 _ _ (specialOf (aDJ z) (aDy "__length_hint__")>>=_) _ _ _;exact aAa (aBE x.type EZ<|aAb q)
 refine PQ (by simpa using t) D u y s.heap.objs.size (λh=>lt _ h rfl) .none s.heap Y.size 0 _ #[] c (by lia) (aAY _) (λb o _ e=>r b o e) ZS hS ⟨rfl,λj v h=>by simp at h⟩ λh' jn c' kp jd hP=>hR _ (C h' jn c' (λb o d e=>kp b o ?_ (r b o e)) jd hP);have:=aAm (aAg e);simp only[aAd,aAR,or_false,not_or]at d⊢;exact⟨d.1,d.2.1,d.2.2.1,d.2.2.2,this⟩
def LZ:typeLookup (.type "list_reverseiterator") "__len__"=pure none:=by rw[aDz,aCu];kernel_rfl
def SV:typeLookup (.type "list_reverseiterator") "__length_hint__"=pure (some (.builtin "list_reverseiterator.__length_hint__")):=by rw[aDz,aCu];kernel_rfl
def MW{Q:F8}(C:A.handled=none)(H:l≠r)(I:Y.size<=sizeLine)(p:s.heap.IsRevIter r l ((Y.size:Int)-1))(t:s.heap.IsList l Y)(J:∀h' tk c,(∀b o,b≠r->s.heap.get? b=some o->h'.get? b=some o)->h'.get? s.heap.objs.size=some {cls:=.type "list",dict:=none,data:=.seq Y.reverse c,slots:=#[]}->Q (.ref s.heap.objs.size) {s with heap:=h',toks:=tk}):
  a9 (be prog w) A (call (.type "list") [.ref r]) Q E s:=by
 have j:r≠s.heap.objs.size:=by obtain⟨o,g,_⟩:=p;exact aAm (aAg g)
 have u:l≠s.heap.objs.size:=by obtain⟨o,g,_⟩:=t;exact aAm (aAg g)
 refine dZ (T:= "list_reverseiterator") (room:=false) (λh=>h.IsRevIter r l ((Y.size:Int)-1)/\h.IsList l Y) (λv h=>h.1.typeIs) (λh h' x k=>⟨x.1.at λo e=>k r o j e,x.2.at λo e=>k l o u e⟩) j (by decide) (by decide)
  (λL N=>by rw[h9 (by decide)];exact N rfl) (λv Q E x q=>wpAny_pyIter_revIter x.1 q) (λv Q E x q=>?_) ⟨p,t⟩ λL c R O ZS U hR=>?_
 .have m:=x.1.typeIs;unfold aCP;refine aAa (aBE m LZ ?_);show a9 _ _ (specialOf (aDJ r) (aDy "__length_hint__")>>=_) _ _ _;refine aAa (aBE m SV ?_)
  (generalize hid:("list_reverseiterator.__length_hint__":String)=a;(fail_if_success (clear hid a));wp_delta;rw[show splitId a=some ("list_reverseiterator", "__length_hint__")from by subst hid;decide+kernel];subst hid)
  refine aAa (aDR (b:=true) m (by rw[aFe];kernel_rfl) ?_);exact aAb q
 have W:=(Walks.listRev (prog:=prog) (w:=w) (A:=A.in1.in1) (by simp[C]) r l H Y).toS;refine codeAny_extend_loopS W I s.heap.objs.size (by simp only[aAd,aAR,or_false,not_or];exact⟨aBY j,aBY u⟩) .none Y.size 0 _ #[] c (by lia) (aAY _) ⟨aAY _,by simpa using ZS.1,ZS.2⟩ U (ItemsOf.nil _) λd y c' f jd n=>hR _ ?_;have ea:y=Y.reverse:=by
  apply Array.ext';apply aFm;intro i;rw[aAE,aAE];by_cases z:i<Y.size
  .have B:i<y.size:=by rw[n.1];exact z
   have:=n.2 i _ (aAO B);rw[aAO B,Array.getElem?_reverse z,this]
  rw[aCS (by rw[n.1];lia),aCS (by simp;lia)]
 subst ea;have g0:d.gens=s.gens:=f.gens;have d0:d.drawn=s.drawn:=f.drawn;have o0:d.os=s.os:=f.os;obtain⟨h',g',d',yn,os'⟩:=d;subst g0 d0 o0;refine J h' yn c' (λb o hb e=>?_) jd;exact f.heap b o (by simp only[aAd,aAR,or_false,not_or];exact⟨aAm (aAg e),hb⟩) (O b o e)
end
end SZ
namespace DL
open PySem PySem.Spec L2
open PyProof.Rows hiding St
section
variable [Tabs]
section
def a1k:D->R (List D)
 |.lst Y=>.ok Y.reverse
 |_=>.bad
def CC(ha:PB X e f)(hh:X.calm=true)(hg:Gl X "reversed":=by rfl)(hm:X.mg "reversed"=none:=by assumption)(A:Gl X "list":=by rfl)(jm:X.mg "list"=none:=by assumption)(hv:de "reversed"=some (.type "reversed"):=by decide+kernel)(B:de "list"=some (.type "list"):=by decide+kernel)(Y:bb [e] X.env=(false,dm e X.env)::bb [] X.env:=by rfl)(bf:(cy j (bb [] X.env)).any (·.1)=false:=by rfl)(lu:bb [.Call (.Name "reversed" C) [e] [] j] X.env=(false,dm (.Call (.Name "reversed" C) [e] [] j) X.env)::bb [] X.env:=by rfl)(xo:(cy i (bb [] X.env)).any (·.1)=false:=by rfl)(J:cy i (bb [] X.env)=[]:=by rfl):
  PF X (.Call (.Name "list" p) [.Call (.Name "reversed" C) [e] [] j] [] i) (λρ=>(f ρ).bind a1k):=by
 refine tY λk s σ H Q I H9 O0 O ρ E q=>?_;dsimp only at q;refine aBg (T9 I A jm B ?_ (by decide) (by decide));refine aBv ?_ lu xo;rw[lu];show a9 _ _ (spliced ((false,dm (.Call (.Name "reversed" C) [e] [] j) X.env)::cy i (bb [] X.env))) _ _ s;refine aEY (aBg (T9 I hg hm hv ?_ (by decide) (by decide)));have rh:PA X [e] _:=O9 ha dG Y;refine aBv (F5 (rh j k s σ H (λL l=>∃v m,L=[v]/\f ρ=.ok (.lst m)/\Same H l/\B5 X.K l O v (.lst m)) I ⟨H9,O0,O,ρ,E,?_⟩) λy h z9=>?_) Y bf
 .cases N:f ρ with
  |ex z=>rw[N]at q;exact q
  |bad=>rw[N]at q;exact q.elim
  |ok d=>
   rw[N,R.aa0]at q;cases d with
   |lst m=>exactλv l h T=>⟨v,m,rfl,rfl,h,T⟩
   |_=>exact aAf q
 obtain⟨L,l,n,T,v,m,ev,ef,sm,rb⟩:=z9;subst ev;rw[ef,R.aa0]at q;obtain⟨a,U,rfl,hS,rr⟩:=rb.aa5;obtain⟨u,rfl,ru⟩:=vals1 T;cases ru;obtain⟨g,rv,⟨oL,nL,gL,cL,dL,sL⟩,zL⟩:=n.list hS;have hl:h.heap.IsList a g.toArray:=⟨oL,gL,cL,nL,sL⟩;refine call_reversed_list hl ?_;rw[J];refine aFo ?_;have ge:a≠h.heap.objs.size:=aAm (aAg gL);have I2:=n.kept (h':=h.heap.push (revObj a<|(g.toArray.size:Int)-1)) (t':=h.toks) λb u e=>aAc _ e;refine SZ.MW (s:={h with heap:=h.heap.push (revObj a<|(g.toArray.size:Int)-1)}) (n.ok.hd hh) ge (by rw[aAn,<-rv.length];exact zL) ⟨_,aAr _ rfl,rfl,rfl⟩ (hl.push _) λh' tk c kp gl=>?_;have kk:∀b u,h.heap.get? b=some u->h'.get? b=some u:=λb u e=>kp b u (aAm<|aAg e) (aAc _ e);have w:h.heap.objs.size<=(h.heap.push<|revObj a<|(g.toArray.size:Int)-1).objs.size:=by rw[aBL];lia
 have x:l7 U.reverse g.reverse:=by
  have:∀{L:List V}{y:List au},l7 L y->l7 L.reverse y.reverse:=λ{L y} r=>by
   induction r with
   |nil=>exact .nil
   |cons r t ih=>rw[aAP,aAP];exact ih.append (.cons r .nil)
  exact this rv
 have I3:=n.laid (a:=(h.heap.push<|revObj a<|(g.toArray.size:Int)-1).objs.size) (o:=.lst U.reverse) (h':=h') (t':=tk) kk w ⟨by rw[aBW];exact zL,g.reverse,c,x,by rw[gl];simp⟩;exact⟨.ref _,_,I3,rfl,q U.reverse l _ sm (n.hok.fresh w) rr.reverse⟩
def _root_.L2.Inv.ae4(I:Inv X d σ H s)(k:∀b u,s.heap.get? b=some u->h'.get? b=some u)(a:Same H Hn)(f:∀b u,H b=none->Hn b=some u->s.heap.get? b=none/\ObjOk X.prog X.w Hn h' b u):
  Inv X d σ Hn {s with heap:=h',toks:=t'}:=by
 refine I.un ⟨λb o e _ _ _=>k b o e,λb o e _ _ _=>⟨o.slots,k b o e⟩,λb o e n _=>?_,λb o e _=>⟨o,k b o e⟩,λb Y e=>a _ _ e,λb o u e=>a _ _ e,λb h e=>a _ _ e⟩ λb u e=>?_
 .cases q:Hn b with
  |none=>rfl
  |some u=>rw[(f b u n q).1]at e;cases e
 cases q:H b with
 |none=>exact(f b u q e).2
 |some g=>have:=a b g q;rw[e]at this;cases this;exact(I.hok b u q).ac2 (λc v _ z=>k c v z) (λc z=>a _ _ z) λc u _ z=>a _ _ z
def L6(Y d:List D):List D:=aCW (λa b=>D.tup [a,b]) Y d
def YD:List D->R (List D)
 |[.lst Y,.lst a]=>if Y.length=a.length then .ok (L6 Y a)else .bad
 |_=>.bad
def LM{K:iu}{k:Hp}{O:bc->Prop}{h0 h':cq}{l:bc}(hf:∀b,h0.get? b=none->k b=none):∀{Y i:List D}{p r B:List au},A4 K k O p Y->A4 K k O r i->Y.length=i.length->
  (∀(j:Nat) (v:au),B[j]?=some v->∃T x y,v=.ref T/\p[j]?=some x/\r[j]?=some y/\fh h' T x y/\T≠l/\h0.get? T=none)->B.length=Y.length->
  ∃(L:List V) (Hn:Hp),l7 L B/\Same k Hn/\(∀b u,k b=none->Hn b=some u->h0.get? b=none/\b≠l/\∃ws e,u=.tup ws/\ws.length<=2/\l7 ws e/\IsTup h' b e.toArray)/\Reps K Hn O L (L6 Y i):=by
 intro Y i p r B;induction B generalizing Y i p r with
 |nil=>
  intro t z A _ C;cases Y with
  |nil=>cases i with
   |nil=>exact⟨[],k,.nil,Same.refl _,λb u n q=>(by rw[n]at q;cases q),.nil⟩
   |cons _ _=>cases A
  |cons _ _=>cases C
 |cons v B ih=>
  intro t z A hP C;cases t with
  |nil=>cases C
  |@cons u d p Y rx t=>
   cases z with
   |nil=>cases A
   |@cons N d' r i ry z=>
    obtain⟨T,x,y,rfl,ex,ey,hp,nl,s⟩:=hP 0 v rfl;cases ex;cases ey;obtain⟨L,Hn,r1,m,Q,rr⟩:=ih t z (by simpa using A) (λj v hj=>by obtain⟨T,x,y,e1,U,e3,e4⟩:=hP (j+1) v (by simpa using hj);exact⟨T,x,y,e1,by simpa using U,by simpa using e3,e4⟩) (by simpa using C)
    obtain⟨E,rvx,f⟩:=rx;obtain⟨H,rvy,h⟩:=ry;have v2:l7 [E,H] [u,N]:=.cons rvx (.cons rvy .nil);cases q:Hn T with
    |none=>
     have I:Same Hn (upd Hn T<|.tup [E,H]):=j9 q _;refine⟨.ref T::L,upd Hn T (.tup [E,H]),.cons rfl r1,m.trans I,λb w n J=>?_,.cons (.tup (Y0.of j2) (.cons ((f.same m).same I) (.cons ((h.same m).same I) .nil))) (rr.same I)⟩;by_cases hb:b=T
     .subst hb;rw[j2]at J;cases J;exact⟨s,nl,_,_,rfl,by simp,v2,⟨_,hp,rfl,0,rfl⟩⟩
     rw[l6 hb]at J;exact Q b w n J
    |some w=>
     obtain⟨_,_,ws,e,rfl,_,vw,⟨o,g,_,n,dd⟩⟩:=Q T w (hf T s) q;have hp':h'.get? T=some {cls:=.type "tuple",data:=.seq #[u,N]}:=hp;rw[hp']at g;cases g;have U:e=[u,N]:=by have:=ip (λd=>match d with|Data.seq a _=>a.toList|_=>[]) dd;simpa using this.symm
     subst U;have:ws=[E,H]:=vw.inj v2;subst this;exact⟨.ref T::L,Hn,.cons rfl r1,m,Q,.cons (.tup (Y0.of q) (.cons (f.same m) (.cons (h.same m) .nil))) rr⟩
def FB{e1 e2:cu}{p p2 C:Pos}{J N:Ev->R D}(ha1:PB X e1 J)(ha2:PB X e2 N)(hh:X.calm=true)(hg:Gl X "zip":=by rfl)(hm:X.mg "zip"=none:=by assumption)(hg2:Gl X "list":=by rfl)(jm:X.mg "list"=none:=by assumption)
  (hv:de "zip"=some (.type "zip"):=by decide+kernel) (hv2:de "list"=some (.type "list"):=by decide+kernel)
  (he1:bb [e2] X.env=(false,dm e2 X.env)::bb [] X.env:=by rfl) (he:bb [e1,e2] X.env=(false,dm e1 X.env)::bb [e2] X.env:=by rfl) (bf:(cy C (bb [e2] X.env)).any (·.1)=false:=by rfl)
  (lu:bb [.Call (.Name "zip" p2) [e1,e2] [] C] X.env=(false,dm (.Call (.Name "zip" p2) [e1,e2] [] C) X.env)::bb [] X.env:=by rfl) (xo:(cy m (bb [] X.env)).any (·.1)=false:=by rfl) (hnl:cy m (bb [] X.env)=[]:=by rfl):
  PF X (.Call (.Name "list" p) [.Call (.Name "zip" p2) [e1,e2] [] C] [] m) (λρ=>(l9 J (l9 N S7) ρ).bind YD):=by
 refine tY λU s σ H Q I H9 O0 O ρ E q=>?_;dsimp only at q;refine aBg (T9 I hg2 jm hv2 ?_ (by decide) (by decide));refine aBv ?_ lu xo;rw[lu];show a9 _ _ (spliced ((false,dm (.Call (.Name "zip" p2) [e1,e2] [] C) X.env)::cy m (bb [] X.env))) _ _ s;refine aEY (aBg (T9 I hg hm hv ?_ (by decide) (by decide)));have rh:xw X [e1,e2] (l9 J<|l9 N S7):=u6 ha1 (u6 ha2 E6 he1) he;refine aBv (F5 (rh C U s σ H (λL k=>∃v1 v2 Y f,L=[v1,v2]/\l9 J (l9 N S7) ρ=.ok [.lst Y,.lst f]/\Y.length=f.length/\Same H k/\B5 X.K k O v1 (.lst Y)/\B5 X.K k O v2 (.lst f)) I ⟨H9,O0,O,ρ,E,?_⟩) λus d z9=>?_) he bf
 .cases e1:l9 J (l9 N S7) ρ with
  |ex z=>rw[e1]at q;exact q
  |bad=>rw[e1]at q;exact q.elim
  |ok ds=>
   rw[e1,R.aa0]at q;match ds,q with
   |[.lst Y,.lst f],q=>
    simp only[YD]at q;by_cases hc:Y.length=f.length
    .intro L k d r;cases r with
     |cons ra r=>cases r with
      |cons rb r=>cases r with
       |nil=>exact⟨_,_,Y,f,rfl,rfl,hc,d,ra,rb⟩
    rw[h9 hc]at q;exact aAf q
 obtain⟨L,k,I1,r,v1,v2,Y,f,ev,ef,t,sm,rb1,rb2⟩:=z9;subst ev;rw[ef,R.aa0]at q;simp only[YD]at q;rw[hV t]at q;obtain⟨a,wx,rfl,hSx,rx⟩:=rb1.aa5;obtain⟨b,wy,rfl,hSy,ry⟩:=rb2.aa5;obtain⟨u1,u2,rfl,ru1,ru2⟩:=vals2 r;cases ru1;cases ru2;obtain⟨w,g,⟨oX,nX,gX,cX,dX,sX⟩,zX⟩:=I1.list hSx;obtain⟨A,rvy,⟨oY,nY,gY,cY,dY,sY⟩,zY⟩:=I1.list hSy;have hlx:d.heap.IsList a w.toArray:=⟨oX,gX,cX,nX,sX⟩;have hly:d.heap.IsList b A.toArray:=⟨oY,gY,cY,nY,sY⟩;refine call_zip_2 hlx hly λh z1 z2 z3 z4 z5 zsz k1=>?_;rw[hnl];refine aFo ?_;have lx:w.length=Y.length:=by rw[<-g.length,rx.length]
 have ly:A.length=f.length:=by rw[<-rvy.length,ry.length]
 have I2:=I1.kept (h':=h) (t':=d.toks) k1;have D:=zipApart_new (n:=d.heap.objs.size) (aAg gX) (aAg gY);refine SZ.SC (s:={d with heap:=h}) (I1.ok.hd hh) D (by rw[aAn,aAn,lx,ly,t]) (by rw[aAn,<-g.length];exact zX) ⟨⟨_,_,z1,.inl rfl⟩,z2,⟨_,_,z3⟩,z4,z5,hlx.at λo e=>k1 _ o e,hly.at λo e=>k1 _ o e⟩ λh' B c kp gl hP=>?_;have k12:∀b u,d.heap.get? b=some u->h'.get? b=some u:=λb u e=>kp b u (by have i:=aAg e;simp only[aAd,aAR,or_false,not_or];exact⟨aAm (aAw i<|aCh _ _),aAm (aAw i<|aCh _ _),aAm i,aAm (aAw i<|aCh _ _)⟩) (k1 b u e)
 have sx:A4 X.K k O w Y:=A4.of g rx;have sy:A4 X.K k O A f:=A4.of rvy ry;obtain⟨L,Hn,rva,smn,oh,rr⟩:=LM (h0:=h) (h':=h') (l:=h.objs.size) (λb i=>by
  cases q:k b with
  |none=>rfl
  |some u=>exact absurd i ((I2.hok b u q).live)) (B:=B.toList) sx sy t (λj v hj=>by
  obtain⟨T,x,y,e1,e2,e3,e4,e5,e6⟩:=hP.2 j v (by rw[<-aAE];exact hj);exact⟨T,x,y,e1,by simpa using e2,by simpa using e3,e4,λz=>e5 (by simp[z]),e6⟩) (by rw[aBj,hP.1,aAn,lx])
 have hls:Hn h.objs.size=none:=by
  cases q:Hn h.objs.size with
  |none=>rfl
  |some u=>have:=(oh _ u (I2.hok.fresh<|aAl _) q).2.1;exact absurd rfl this
 have hlen:L.length<=sizeLine:=by rw[rva.length,aBj,hP.1,aAn,<-g.length];exact zX
 have s3:Same Hn (upd Hn h.objs.size<|.lst L):=j9 hls _;have I3:=I1.ae4 (Hn:=upd Hn h.objs.size (.lst L)) (h':=h') (t':=d.toks) k12 (smn.trans s3) (λb u n qb=>by
  by_cases i:b=h.objs.size
  .subst i;rw[j2]at qb;cases qb;refine⟨aEu (by rw[zsz];lia),hlen,B.toList,c,rva,by rw[gl]⟩
  rw[l6 i]at qb;obtain⟨h0b,_,ws,its,rfl,l2,vw,tt⟩:=oh b u n qb;refine⟨?_,aAp l2 (by decide),its,vw,tt⟩;cases z:d.heap.get? b with
  |none=>rfl
  |some o=>rw[k1 b o z]at h0b;cases h0b)
 exact⟨.ref _,_,I3,rfl,q L Hn _ (sm.trans smn) hls rr⟩
end
mutual
def kC:D->Nat
 |.tup Y=>L5 Y+1
 |_=>1
def L5:List D->Nat
 |[]=>0
 |x::Y=>kC x+L5 Y
end
theorem cS:∀Y a:List D,L5 (Y++a)=L5 Y+L5 a
 |[],a=>by simp[L5]
 |x::Y,a=>by rw[aAJ,L5,L5,cS Y a];lia
section
variable{prog:bM}{w:cp}
def PHe(prog:bM)(w:cp)(h:cq)(v:au)(d:D):Prop:=∀(A:cf) (E:F8) (s:ba) (Q:Int->ba->Prop),s.heap=h->A.units+8*G2 d<cz->Q (m8 d) {s with toks:=s.toks+kC d}->a9 (be prog w) A (pyHash v) Q E s
mutual
theorem PZ:∀{v:au}{d:D},HV h v d->PHe prog w h v d
 |_,_,.int i t=>λA E s Q C H q=>(intKind prog w).pyHash (k:=i) (intKind_is _ _ _ _) q
 |_,_,.tup (a:=a) (items:=items) (ds:=ds) p r=>λA E s Q C H q=>by
  have fs:=HE r;subst C;obtain⟨o,I,N,n,O⟩:=p;have l:s.TypeIs (.ref a) "tuple":=⟨o,I,N⟩;have y:A.units<cz:=by lia
  rw[G2]at H;unfold pyHash;first|unfold pyHashByItsType|skip
  first|refine aAa (wpAny_cRoomFor_or (.inr y) ?_)|skip
  refine aAa (aBE l PySem.F.slot_tuple_hash.lookup ?_);show a9 _ _ (if(some (aGs "tuple.__hash__")==some Value.none)=true then _ else _) Q E s;rw[h9 (by rw[aFC];exact aAU)];refine aAa (aBE l PySem.F.slot_tuple_hash.lookup ?_);show a9 _ _ (callSpecialIfBoundUnlessNone? (.ref a) "__hash__" _>>=_) Q E s;refine aAa (aDs l PySem.F.slot_tuple_hash<|aBD PySem.F.slot_tuple_hash l PySem.F.entry_tuple_hash ?_ (PySem.F.args_tuple_hash_1 _));show a9 _ _ (aDF (.ref a)>>=_) _ _ s;refine aAa (wpAny_tupleItemsOf I O ?_);refine aAa ?_;rw[<-aCx];refine aCA _
   (λrest (b:Array Int) z=>∃done left,ds=done++left/\Paired (PHe prog w s.heap) rest left/\b.toList=done.map m8/\z={s with toks:=s.toks+L5 done})
   _ ?_ ?_ _ _ ⟨[],ds,rfl,fs,rfl,rfl⟩
  .rintro x rest b z ⟨done,left,f,B,m,rfl⟩;cases B with
   |@cons _ d _ e T J=>
    refine aAa (T _ _ _ _ rfl ?_ ?_)
    .have:G2 d<=B1 ds:=by rw[f];exact nU (j:=done.length) (by simp)
     rw[o5];lia
    have L:s.toks+L5 done+kC d=s.toks+L5 (done++[d]):=by rw[cS];simp[L5];lia
    first
     |exact aAb ⟨done++[d],e,by simp[f],J,by simp[m],by rw[<-L]⟩
     |exact aAa (aAb (aAb ⟨done++[d],e,by simp[f],J,by simp[m],by rw[<-L]⟩))
  rintro b z ⟨done,left,f,B,m,rfl⟩;cases B;rw[aCb]at f;subst f;show a9 _ _ (retInt<|aAT b.toList) _ _ _;rw[m];refine wpAny_ret_mkInt ?_;show a9 _ _ (if(decide (-(2:Int)^63<=aAT (ds.map m8))&&decide (aAT (ds.map m8)<2^63))=true then _ else _) Q E _;have g:=q;rw[m8,iI,kC]at g;unfold reduceHash at g;by_cases u:(decide (-(2:Int)^63<=aAT (ds.map m8))&&decide (aAT (ds.map m8)<2^63))=true
  .rw[hV u];rw[hV u]at g;exact aAb g
  rw[h9 u];rw[h9 u]at g;exact aAa (aDA<|aAb g)
theorem HE:∀{v:List au}{d:List D},HVs h v d->Paired (PHe prog w h) v d
 |_,_,.nil=>.nil
 |_,_,.cons r t=>.cons (PZ r) (HE t)
end
end
theorem oB:∀{n:Nat}{d:D},U0 n d=true->rG d=true/\G2 d<=n
 |n,.int i,_=>⟨rfl,by simp[G2]⟩
 |0,.tup Y,h=>by simp[U0]at h
 |n+1,.tup Y,h=>by
  have g:Y.all (U0 n)=true:=by simpa[U0]using h
  have e:∀a:List D,a.all (U0 n)=true->aG a=true/\B1 a<=n:=λa=>by
   induction a with
   |nil=>intro _;exact⟨rfl,aAY _⟩
   |cons y a j=>intro f;simp only[aGr,aAQ]at f;obtain⟨k,o⟩:=oB f.1;obtain⟨l,p⟩:=j f.2;exact⟨by show(rG y&&aG a)=true;rw[k,l];rfl,by show max (G2 y) (B1 a)<=n;lia⟩
  obtain⟨m,q⟩:=e Y g;exact⟨m,by show B1 Y+1<=n+1;lia⟩
 |n,.non,h=>by cases n<;>simp[U0]at h
 |n,.dct,h=>by cases n<;>simp[U0]at h
 |n,.bl b,h=>by cases n<;>simp[U0]at h
 |n,.str x,h=>by cases n<;>simp[U0]at h
 |n,.lst Y,h=>by cases n<;>simp[U0]at h
mutual
theorem HV.ab8(k:∀b o,h.get? b=some o->(∃a n,o.data=.seq a n)->h'.get? b=some o):∀{v:au}{d:D},HV h v d->HV h' v d
 |_,_,.int i t=>.int i t
 |_,_,.tup p r=>.tup (by obtain⟨o,e,c,n,d⟩:=p;exact⟨o,k _ _ e ⟨_,n,d⟩,c,n,d⟩) (HVs.ab8 k r)
theorem HVs.ab8(k:∀b o,h.get? b=some o->(∃a n,o.data=.seq a n)->h'.get? b=some o):∀{v:List au}{d:List D},HVs h v d->HVs h' v d
 |_,_,.nil=>.nil
 |_,_,.cons r t=>.cons (HV.ab8 k r) (HVs.ab8 k t)
end
instance decD:DecidableEq D:=λa b=>aEd _
def tL(prog:bM) (w:cp):HeapKind prog w D where
 is:=λh d a=>HV h (.ref a) d/\G2 d<8
 hash:=m8
 draws:=kC
 room:=λA=>A.units+128<cz
 inj:=λx y=>HV.inj x.1 y.1
 keeps:=λ{h u k a d o v B} x j l m=>⟨x.1.ab8<|by rintro b C e ⟨p,n,q⟩;exact(m.2 b (λz=>by subst z;rw[j]at e;cases e;rw[l]at q;cases q)).trans e,x.2⟩
 pyHash:=λ{A E s k a Q} r f q=>PZ f.1 A E s Q rfl (by have:=f.2;lia) q
 eqBool:=λ{A E s x y a b Q} r g i q=>by
  have t:=FU (A:=A) g.1 i.1 (by have:=g.2;lia);refine t prog w E Q ?_;have e:v5 x y=decide (x=y):=by
   by_cases h:x=y
   .subst h;rw[S4,decide_eq_true rfl]
   rw[decide_eq_false h];cases z:v5 x y with
   |false=>rfl
   |true=>exact absurd (jT g.1.ok i.1.ok z) h
  rw[e];exact q
 quiet:=λ{A E s k a Q} f q=>iN 8 f.1 f.2 _ A E s Q rfl q
open Classical in
def fR(N:List (D×D)) (k v:D):List (D×D):=if k∈N.map (·.1)then N.map (λp=>if p.1=k then(p.1,v)else p)else N++[(k,v)]
def JV(N:List (D×D))(k v:D)(h:(N.map (·.1)).Nodup):((fR N k v).map (·.1)).Nodup:=by
 unfold fR;split
 .rw[aBd];have:((λx=>x.1)∘λp:D×D=>if p.1=k then(p.1,v)else p)=λp=>p.1:=by funext p;simp only[aGo];split<;>rfl
  rw[this];exact h
 rename_i n;rw[aBi,aCK];refine⟨h,by simp,λa f b d=>?_⟩;simp at d;subst d;exactλe=>n (e▸f)
section
theorem HL(I:Inv X d σ H s):∀{es:List DictEntry}{N:List (D×D)},qG X.K H O es N->∃Y:List (D×bc×au),es=Y.map (entryOfKey (tL X.prog X.w))/\Y.map (·.1)=N.map (·.1)/\(∀x∈Y,(tL X.prog X.w).is s.heap x.1 x.2.1)/\
  Paired (λ(x:D×bc×au) (p:D×D)=>x.1=p.1/\Rep X.K H O (.ref x.2.1) p.1/\(∃v,RelV v x.2.2/\Rep X.K H O v p.2)/\U0 7 p.1=true) Y N
 |_,_,.nil=>⟨[],rfl,rfl,λx h=>(by cases h),.nil⟩
 |e::_,p::_,.cons ⟨⟨a,f,g⟩,j,i,k⟩ t=>by
  obtain⟨Y,l,m,n,o⟩:=HL I t;obtain⟨ok,r⟩:=oB k;refine⟨(p.1,a,e.val)::Y,?_,by rw[aAk,aAk,m],λx b=>?_,.cons ⟨rfl,g,j,k⟩ o⟩
  .rw[aAk,<-l];congr 1;obtain⟨q,u,y⟩:=e;simp only at f i;subst f i;rfl
  rcases aAd.mp b with rfl|b
  .exact⟨cR I g ok rfl,by show G2 p.1<8;lia⟩
  exact n x b
theorem GG{P:bM}{w:cp}{K:iu}{H:Hp}{O:bc->Prop}:∀{Y:List (D×bc×au)}{N:List (D×D)},Paired (λ(x:D×bc×au) (p:D×D)=>x.1=p.1/\Rep K H O (.ref x.2.1) p.1/\(∃v,RelV v x.2.2/\Rep K H O v p.2)/\U0 7 p.1=true) Y N->qG K H O (Y.map (entryOfKey (tL P w))) N
 |_,_,.nil=>.nil
 |_,_,.cons ⟨e,a,b,k⟩ t=>.cons ⟨⟨_,rfl,a⟩,b,by rw[<-e];rfl,k⟩ (GG t)
def bO{Y:List (D×bc×au)}{k:D}:(atKey Y k).isSome=true↔k∈Y.map (·.1):=by unfold atKey;rw[Option.isSome_map,List.find?_isSome];simp only[decide_eq_true_eq,aAj]
def GB(I:Inv X b σ H s)(h:H a=some (.ext λh=>h.get? a=some o))(d:NK a o es)(r:qG X.K H O es N)(f:(N.map (·.1)).Nodup):
  ∃Y,s.heap.DictOfH (tL X.prog X.w) a Y/\Y.map (·.1)=N.map (·.1)/\Paired (λ(x:D×bc×au) (p:D×D)=>x.1=p.1/\Rep X.K H O (.ref x.2.1) p.1/\(∃v,RelV v x.2.2/\Rep X.K H O v p.2)/\U0 7 p.1=true) Y N:=by
 obtain⟨Y,i,e,j,k⟩:=HL I r;obtain⟨_,l,m,n,q,t⟩:=d;have g:s.heap.get? a=some o:=(I.hok a _ h).1;exact⟨Y,⟨o,m,n,g,l,q,by rw[t,i],j,by rw[e];exact f⟩,e,k⟩
def LQ{K:iu}{Y:List (D×bc×au)}{N:List (D×D)}{k d:D}{b:bc}{u:au}{v:V}(g:Paired (λ(x:D×bc×au) (p:D×D)=>x.1=p.1/\Rep K H O (.ref x.2.1) p.1/\(∃v,RelV v x.2.2/\Rep K H O v p.2)/\U0 7 p.1=true) Y N)(a:Y.map (·.1)=N.map (·.1))
  (l:Rep K H O (.ref b) k) (kk:U0 7 k=true) (i:RelV v u) (j:Rep K H O v d):
  Paired (λ(x:D×bc×au) (p:D×D)=>x.1=p.1/\Rep K H O (.ref x.2.1) p.1/\(∃v,RelV v x.2.2/\Rep K H O v p.2)/\U0 7 p.1=true) (storedH Y k b u) (fR N k d):=by
 unfold storedH fR;by_cases h:k∈N.map (·.1)
 .rw[hV h,hV (bO.mpr (by rw[a];exact h))];clear a h;induction g with
  |nil=>exact .nil
  |@cons x p Y N r t f=>
   rw[aAk,aAk];refine .cons ?_ f;unfold putAt;by_cases e:p.1=k
   .rw[hV (r.1.trans e),hV e];exact⟨r.1,r.2.1,⟨v,i,j⟩,r.2.2.2⟩
   rw[h9 (λz=>e (r.1.symm.trans z)),h9 e];exact r
 rw[h9 h,h9 (λz=>h (by rw[<-a];exact bO.mp z))];clear a h;induction g with
 |nil=>exact .cons ⟨rfl,l,⟨v,i,j⟩,kk⟩ .nil
 |cons r t f=>exact .cons r f
end
section
variable{K:Type} [DecidableEq K] {knd:HeapKind prog w K}
def sI{Q:yJ}(g:knd.room A.in1)(b:knd.is s.heap k a)(i:(d==sysModules)=false)(e:s.heap.DictOfH knd d Y)
  (h:Q (atKey Y k).isSome {s with toks:=s.toks+knd.draws k}):a9 (be prog w) A (contains (.ref d) (.ref a)) Q E s:=by
 unfold contains;try with_reducible refine aAW ?_
 refine aAa (aBE e.typeIs aFb.lookup ?_);show a9 _ _ (if(some (aGs "dict.__contains__")==some Value.none)=true then _ else _) _ E s;rw[h9 (by rw[aFC];exact aAU)];refine aAa (wpAny_callSpecialUnlessNone?_slot (name:=aDy "__contains__") e.typeIs aFb
  (aBD aFb e.typeIs entry_dict_contains ?_ (args_dict_contains _ _)))
 show a9 _ _ (dictGet d (.ref a)>>=_) _ _ s;refine aAa (wpAny_dictGet_heap g b e ?_);cases f:atKey Y k with
 |some p=>rw[f]at h;show a9 _ _ (ret<|.bool true) _ _ _;exact aAb ⟨_,rfl,aBu h⟩
 |none=>rw[f]at h;show a9 _ _ (Builtin.Dict.pendingKey? d (.ref a)>>=_) _ _ _;exact aAa (wpAny_pendingKey_other i<|aAb ⟨_,rfl,aBu h⟩)
end
def LR:D->Bool
 |.tup _=>true
 |_=>false
open Classical in
def rC(i:Nat) (ρ:Ev) (k:D):R Bool:=match ρ[i]? with
 |some (.d N)=>if U0 7 k=true/\LR k=true then .ok (!decide (k∈N.map (·.1)))else .bad
 |_=>.bad
section
def pJ{K:iu}{H:Hp}{O:bc->Prop}{v:V}{k:D}(r:Rep K H O v k)(h:LR k=true):∃a,v=.ref a:=by
 cases r with
 |tup h r=>exact⟨_,rfl⟩
 |_=>cases h
def KP(i:Nat){x:Str}{p:Pos}{f:Ev->R D}(ha:PD X e f)(hu:X.A.units+130<cz)(hN:X.N[i]?=some x:=by rfl)(hv:zI X.env.scope x:=by first|exact aCD rfl|exact aBP (aCD rfl)|exact aBP (aBP rfl))
  (hd:(x==ix)=false:=by decide) (dc:(x==ka)=false:=by decide) (hm:gy .NotIn (.Name x p)=false:=by first|rfl|with_unfolding_all rfl):
  yR X (.Compare e [.NotIn] [.Name x p] pos) (λρ=>(f ρ).bind (rC i ρ)):=by
 refine tY λU s σ H Q I H9 O0 O ρ E q=>?_;dsimp only at q;refine wpAny_isTrue_Compare1 (MA (ta:=tD X f) (tb:=a1x i) ha (O6 hN hv hd dc) (R:=λy x g=>∃a b o l N k,x=.ref a/\y=.ref b/\g a=some (.ext λh=>h.get? a=some o)/\NK a o l/\qG X.K g O l N/\(N.map (·.1)).Nodup/\Rep X.K g O (.ref b) k/\U0 7 k=true/\Q (!(open Classical in decide (k∈N.map (·.1)))) g) I ⟨H9,O0,O,ρ,E,?_⟩ λu w s2 y x g t ry rx h=>?_) hm
 .cases B:f ρ with
  |ex z=>rw[B]at q;exact q
  |bad=>rw[B]at q;exact q.elim
  |ok k=>
   rw[B,R.aa0]at q;intro v H1 sm r;unfold rC at q;cases C:ρ[i]? with
   |none=>rw[C]at q;exact aAf q
   |some sl=>
    rw[C]at q;cases sl with
    |d N=>
     dsimp only at q;by_cases j:U0 7 k=true/\LR k=true
     .rw[hV j]at q;obtain⟨a,o,l,h1,_,_,J,m,L,T⟩:=(E.grow sm).slot i _ C;obtain⟨b,rfl⟩:=pJ r j.2;exact⟨_,h1,a,b,o,l,N,k,rfl,rfl,J,m,L,T,r,j.1,q H1 sm⟩
     rw[h9 j]at q;exact aAf q
    |_=>exact aAf q
 obtain⟨a,b,o,l,N,k,rfl,rfl,J,m,L,T,rk,j,qq⟩:=h;cases ry;cases rx;obtain⟨Y,hD,ud,hp⟩:=GB t J m L T;obtain⟨ok,dp⟩:=oB j;show a9 _ _ (contains (.ref a) (.ref b)>>=λc=>pure (aDC (!c))) _ _ s2;refine aAa (sI (knd:=tL X.prog X.w) (by show X.A.in1.units+128<cz;rw[o5];lia) ⟨cR t rk ok rfl,by lia⟩ m.1 hD (aAb ?_));refine aBu ⟨g,t.tok _,?_⟩;have e3:(atKey Y k).isSome=(open Classical in decide (k∈N.map (·.1))):=by
  by_cases n:k∈N.map (·.1)
  .rw[decide_eq_true n];exact bO.mpr (by rw[ud];exact n)
  rw[decide_eq_false n];cases z:(atKey Y k).isSome with
  |false=>rfl
  |true=>exact absurd (by rw[<-ud];exact bO.mp z) n
 rw[e3];exact qq
def SS(i:Nat)(y:X.N.Nodup)(A:X.N[i]?=some x:=by rfl)(B:Loc X.env.scope x:=by first|exact aCD rfl|exact aBP rfl)(C:eN (.Dict [] [] f) (some (.Name x g)) j.line X.env=pure false:=by rfl)(J:X.fn x=true\/X.env.scope.names.lookup x=some .local:=by first|exact .inl rfl|exact .inr rfl|assumption):nN X (.Assign [.Name x g] (.Dict [] [] f) j) (λρ=>.ok (.nx (ρ.set i (.d [])))):=by
 rintro U Y t s σ H D I ⟨O,ρ,E,fk,q⟩;refine aEf (wpAny_Dict_empty ?_) C;have v:(s.heap.push {cls:=.type "dict",data:=.dict #[]}).get? s.heap.objs.size=some {cls:=.type "dict",data:=.dict #[]}:=aAr _ rfl;have l:=I.hok.fresh (aAl s.heap.objs.size);have m:=I.laid (a:=s.heap.objs.size) (o:=.ext λh=>h.get? s.heap.objs.size=some {cls:=.type "dict",data:=.dict #[]}) (h':=s.heap.push {cls:=.type "dict",data:=.dict #[]}) (t':=s.toks) (λ_ _ q=>aAc _ q) (aAl _)
  ⟨v,⟨_,v⟩,λh1 h2 e k=>k _ e⟩
 have L:=GM m (j2 (H:=H) (a:=s.heap.objs.size));have p:sysModules<s.heap.objs.size:=aGG (by decide) (I.mod.glob.keeps I.bk).lt;refine M6 m y A B (show RelV (.ref s.heap.objs.size) _ from rfl) (λs3 Q=>⟨_,_,Q,?_⟩) J;have w:=E.ad9 (u:=.ext λh=>h.get? s.heap.objs.size=some {cls:=.type "dict",data:=.dict #[]}) (sl:=.d []) i l L trivial λT=>⟨s.heap.objs.size,_,[],rfl,.inr rfl,T,j2,⟨by simp[aDx p],⟨rfl,rfl,rfl⟩,#[],0,rfl,rfl⟩,.nil,aCX⟩;exact q _ _ _ w (nM m _ w.trk) λb o r n=>⟨by rw[l6 (n4 r l)];exact r,λz=>z.elim n (n4 r l)⟩
def a4m(X:Cx):XD:=λx y v H Q=>∃O a b o f N k d,x=.ref a/\y=.ref b/\H a=some (.ext λh=>h.get? a=some o)/\NK a o f/\qG X.K H O f N/\(N.map (·.1)).Nodup/\f.length<=sizeLine/\Rep X.K H O (.ref b) k/\U0 7 k=true/\Rep X.K H O v d/\
 ∀g e,NK a g e->qG X.K H O e (fR N k d)->Q (upd H a<|.ext λh=>h.get? a=some g)
def YB(hu:X.A.units+130<cz):zq X (a4m X):=by
 intro C s σ H x y v ov iv u Q I rx ry ru z;obtain⟨O,a,b,o,es,N,k,d,E,ey,l,m,h6,h7,hz,J,L,rv,q⟩:=z;subst E ey;cases rx;cases ry;obtain⟨Y,T,ud,hp⟩:=GB I l m h6 h7;obtain⟨ok,dp⟩:=oB L;have f:Y.length<=sizeLine:=by
  obtain⟨_,E,ea,ep,hd,he⟩:=m;obtain⟨o2,md,ep2,U,_,i,lu,_⟩:=T;have g:s.heap.get? a=some o:=(I.hok a _ l).1;rw[g]at U;cases U;rw[hd]at i;cases i;have:=ip List.length (he.symm.trans lu);rw[aAh]at this
  lia
 refine wpAny_setItem_heap (knd:=tL X.prog X.w) (by show X.A.in1.units+128<cz;rw[o5];lia) ⟨cR I J ok rfl,by lia⟩ T (λh' n hs=>?_) f;obtain⟨j,p,r,t,B,qi,xv,is',nd'⟩:=n;have I1:=I.write (x:=a) (e:=a) (o:=.ext λh=>h.get? a=some j) (h':=h') (t':=s.toks+kC k) (by rw[l];trivial) (.inl rfl) (λb u hb e=>(hs.2 b hb).trans e) ⟨j,t⟩ ⟨t,⟨j,t⟩,λh1 h2 e k=>k _ e⟩;exact⟨_,I1,q j _ ⟨m.1,B,p,r,qi,rfl⟩ (by rw[xv];exact GG (LQ hp ud J L ru rv))⟩
def AJ(i:Nat) (ρ:Ev) (k d:D):R Out:=match ρ[i]? with
 |some (.d N)=>if U0 7 k=true/\LR k=true/\N.length<=sizeLine then .ok (.nx (ρ.set i<|.d (fR N k d)))else .bad
 |_=>.bad
def DH(i:Nat){x:Str}{k:cu}{f g:Ev->R D}{p ps:Pos}(he:PD X e f)(j:PD X k g)(hu:X.A.units+130<cz)(hN:X.N[i]?=some x:=by rfl)(hv:zI X.env.scope x:=by first|exact aCD rfl|exact aBP (aCD rfl)|exact aBP (aBP rfl))(hd:(x==ix)=false:=by decide)
  (dc:(x==ka)=false:=by decide) (ha:∀v,gn (.Subscript (.Name x p) k ps) X.env v=(do
   let t<-ff [v] (dm (.Name x p) X.env)
   let B<-ff [v,t] (dm k X.env)
   standAt ps
   ff [v,t,B] (setItem t B v)
   release [v,t,B] []):=by intro _;rfl)
  (hs:fm [.Subscript (.Name x p) k ps] e C.line X.env=pure false:=by rfl) (hw:fo [.Subscript (.Name x p) k ps] e X.env=pure none:=by rfl) (u:(dC [.Subscript (.Name x p) k ps] X.env).map (·.2)=[gn (.Subscript (.Name x p) k ps) X.env]:=by rfl):
  nN X (.Assign [.Subscript (.Name x p) k ps] e C) (λρ=>(f ρ).bind λd=>(g ρ).bind λl=>AJ i ρ l d):=λU Y=>
 BQ (DT he (OL (O6 hN hv hd dc) j (YB hu) ha) hs hw u) λD σ H O ρ E fk q=>⟨U,Y,O,ρ,E,by
  cases I:f ρ with
  |ex z=>rw[I]at q;exactλH' s=>q H' (E.same.trans s)
  |bad=>rw[I]at q;exact q
  |ok d=>
   rw[I,R.aa0]at q;intro v H1 s1 r1;have J:=E.grow s1;cases w:g ρ with
   |ex z=>rw[w]at q;exact(q H<|E.same.trans<|Same.refl _).elim
   |bad=>rw[w]at q;exact aAf q
   |ok l=>
    rw[w,R.aa0]at q;unfold AJ at q;cases y:ρ[i]? with
    |none=>rw[y]at q;exact aAf q
    |some sl=>
     rw[y]at q;cases sl with
     |d N=>
      dsimp only at q;by_cases j:U0 7 l=true/\LR l=true/\N.length<=sizeLine
      .rw[hV j]at q;obtain⟨a,o,es,u,h2,h3,L,h5,h6,h7⟩:=J.slot i _ y;refine⟨_,u,U,Y,O,ρ,J,?_⟩;rw[w];intro kv H2 n r2;have E2:=J.grow n;obtain⟨b,rfl⟩:=pJ r2 j.2.1;have Q:qG X.K H2 O es N:=h6.mono λr=>r.same n;refine⟨O,a,b,o,es,N,l,d,rfl,rfl,n _ _ L,h5,Q,h7,by rw[h6.length];exact j.2.2,r2,j.1,r1.same n,λo' T d' r'=>?_⟩;obtain⟨E3,k3⟩:=E2.ae5 (sl':=.d (fR N l d)) (u':=.ext λh=>h.get? a=some o') y trivial u (n _ _ L) trivial trivial λhO h0 m=>⟨a,o',T,rfl,h2,h3,j2,d',r'.mono λr=>r.upd (n _ _ L) trivial h2,JV N l d h7⟩;exact q _ _ _ E3 fk (((Kp.of s1).trans (Kp.of n)).trans k3)
      rw[h9 j]at q;exact aAf q
     |_=>exact aAf q⟩
end
end
section
variable [Tabs]
end
section
variable [Tabs]
section
variable{K:Type} [DecidableEq K] {knd:HeapKind prog w K}
end
section
variable{o e:cu}{es:List cu}{to:TE}{t:TA}{name:Str}{apos ao:Pos}{T id:String}{r:V->List V->Hp->VK->Prop}
end
open Classical in
def atK(N:List (D×D)) (k:D):Option D:=(N.find? λp=>decide (p.1=k)).map (·.2)
section
variable{A:cf}{s:ba}{prog:bM}{w:cp}{E:F8}
end
end
end DL
namespace MM
open PySem
def UC(prog:bM)(w:cp)(A:cf)(op:CmpOp)(d:cq->Prop)(P:Nat->au->Prop)(e:Nat->Nat->Bool):Prop:=
 ∀i j a b (s:ba) (Q:F8) (E:F8),d s.heap->P i a->P j b->Q (.bool (e i j)) s->a9 (be prog w) A (richCompare op a b) Q E s
section
def LO(W:WalksS prog w A.in1 I fp r G n P St){N:cq->Prop}(hH:∀i s,St i s->N s.heap)(p:Nat->Nat->Bool)(xr:UC prog w A.in1 .Lt N P p)(S:bc)(O:S∉fp):
  ∀(k j:Nat) (s:ba) (d:au) (c:Nat),n-(j+1)=k->j+1<=n->St (j+1) s->P (eY p j) d->
  s.heap.get? S=some {cls:=.type "list",dict:=none,data:=.seq #[d,d] c,slots:=#[]}->
  (∀v s',P (eY p (n-1)) v->Moved (S::r) G s s'->R (.ok (.ret v)) s')->gm (be prog w) A (.builtin "min.loop" ⟨[.ref I,.none,.ref S],[]⟩) R s:=by
 have t:S∉r:=λh=>O (W.sub _ h);have z:∀b∈r,b∈S::r:=λb a=>aAe _ a;have Q:(toString "min"++toString ".loop":String)= "min.loop":=by decide
 have g:∀{b:bc},b∉S::r->S≠b:=λa h=>a (by rw[h];exact aBn);intro k;induction k with
 |zero=>
  intro j s d c hk hj B f u y;have T:j+1=n:=by omega
  refine aBS aFE ?_;rw[aBs aCU _];show a9 _ A.in1 (seqItems? (.ref S)>>=_) _ _ s;refine aAa (aBR u rfl ?_);show a9 _ A.in1 (tryCatch (fg<|.ref I) _>>=_) _ _ s;refine aAa (aFf<|W.done s _ _ (T▸B) λs' q=>?_);have x:=q.heap S _ t u;show a9 _ A.in1 (gv S (λ_=>#[])>>=_) _ _ _;refine aAa ?_;refine aCg x rfl (aAa<|aEg<|aAb ?_);exact y d _ (by rw[<-T];exact f) ((q.mono z).then_heap (tk:=s'.toks) (aAl _) λb o a e=>(aAF _ _<|g a).trans e)
 |succ k U=>
  intro j s d c hk hj B f u y;have C:j+1<n:=by omega
  refine aBS aFE ?_;rw[aBs aCU _];show a9 _ A.in1 (seqItems? (.ref S)>>=_) _ _ s;refine aAa (aBR u rfl ?_);show a9 _ A.in1 (tryCatch (fg<|.ref I) _>>=_) _ _ s;refine aAa (aFf<|W.item (j+1) s _ _ C B λv s' Y E q=>?_);have x:=q.heap S _ t u;show a9 _ A.in1 (tryCatch (ff [v,v]<|richCompare .Lt v d>>=_) _>>=_) _ _ _;refine aAa (aFf<|aAW<|aAa<|xr (j+1) (eY p j) v d _ _ _ (hH _ _ E) Y f ?_);refine aAa (aAW<|aBu ?_);refine aAa (aEg<|aAb ?_);cases a:p (j+1) (eY p j)with
  |true=>
   simp only[if_true];refine aAa ?_;refine aCg x rfl (aAa<|aEg ?_);rw[Q];refine aAb ⟨aCd aCU _,U (j+1) _ v _ (by omega) C (W.frame _ s' _ s'.toks E (aAl _) λb H o e=>?_) (by simp only[eY,a,if_true];exact Y) (aBo _ x rfl)
    λJ l m L=>?_⟩
   .exact(aAF _ _ (λh:S=b=>O (by rw[h];exact H))).trans e
   exact y J l m (aFw W.gtrans ((q.mono z).then_heap (aAl _) λb o a e=>(aAF _ _<|g a).trans e) L)
  |false=>simp only[aAv,if_false];refine aAa (aEg ?_);rw[Q];refine aAb ⟨aCd aCU _,U (j+1) _ d c (by omega) C E (by simp only[eY,a,aAv,if_false];exact f) x λJ l m L=>?_⟩;exact y J l m (aFw W.gtrans (q.mono z) L)
def BZ(W:WalksS prog w A.in1 I y a G n P St){q:cq->Prop}(z:∀i s,St i s->q s.heap)(g:Nat->Nat->Bool)(B:UC prog w A.in1 .Lt q P g)(S:bc)(j:S∉y)(r:0<n)(C:St 0 s)(t:s.heap.get? S=some {cls:=.type "list",dict:=none,data:=.seq #[] c,slots:=#[]})(E:∀v s',P (eY g (n-1)) v->Moved (S::a) G s s'->R (.ok (.ret v)) s'):gm (be prog w) A (.builtin "min.loop" ⟨[.ref I,.none,.ref S],[]⟩) R s:=by
 have k:S∉a:=λh=>j (W.sub _ h);have H:∀b∈a,b∈S::a:=λb d=>aAe _ d;have J:(toString "min"++toString ".loop":String)= "min.loop":=by decide
 have f:∀{b:bc},b∉S::a->S≠b:=λd h=>d (by rw[h];exact aBn);refine aBS aFE ?_;rw[aBs aCU _];show a9 _ A.in1 (seqItems? (.ref S)>>=_) _ _ s;refine aAa (aBR t rfl ?_);show a9 _ A.in1 (tryCatch (fg<|.ref I) _>>=_) _ _ s;refine aAa (aFf<|W.item 0 s _ _ r C λv s' L N u=>?_);have x:=u.heap S _ k t;show a9 _ A.in1 (gv S (λ_=>#[v,v])>>=_) _ _ _;refine aAa ?_;refine aCg x rfl ?_;rw[J];refine aAb ⟨aCd aCU _,LO W z g B S j _ 0 _ v _ rfl r (W.frame _ s' _ s'.toks N (aAl _) λb l o e=>?_) L (aBo _ x rfl) λO m p Q=>?_⟩
 .exact(aAF _ _ (λh:S=b=>j (by rw[h];exact l))).trans e
 exact E O m p (aFw W.gtrans ((u.mono H).then_heap (aAl _) λb o d e=>(aAF _ _<|f d).trans e) Q)
def call_minH{E:F8}{Q:F8}(h:a9 (be prog w) A.in1 (pyIter x) (λit a=>∃I d g G n P St j f,it=.ref I/\WalksS prog w A.in1 I d g G n P St/\St 0 a/\(∀b∈d,b<a.heap.objs.size)/\0<n/\(∀i s,St i s->j s.heap)/\UC prog w A.in1 .Lt j P f/\
   ∀v s',P (eY f (n-1)) v->Moved g G a s'->Q v s') E s):
  a9 (be prog w) A (call (.builtin "min") [x]) Q E s:=by
 have l:(toString "min"++toString ".loop":String)= "min.loop":=by decide
 refine call_function_tree F.kind_min F.plain_min F.entry_min (F.args_min1 _) ?_;show a9 _ A.in1 (aEJ "min" ["key", "default"] 0 ⟨[],[]⟩>>=_) _ _ s;refine aAa (wpAny_of_eq (show aEJ "min" ["key", "default"] 0 ⟨[],[]⟩=pure [none,none]from rfl) ?_);refine aAa (aAb ?_);refine aAa (aCL h (λit a m=>?_) λ_ _ e=>e);obtain⟨I,d,g,G,n,P,St,j,f,rfl,W,p,q,r,t,u,y⟩:=m;refine aAa (aBJ ?_);have z:a.heap.objs.size∉d:=λk=>aBr _ (q _ k);rw[l];refine aAb ⟨aCd aCU _,BZ W t f u a.heap.objs.size z r (W.frame 0 a _ a.toks p (aAl _) λb _ o e=>aAc _ e) (aAr _ rfl) λv s' B k=>?_⟩;exact y v s' B (Moved.drop_new (tk:=a.toks) k<|aAl _)
end
def walks_more{P:Nat->au->Prop}{St:Nat->cq->Prop}(W:Walks prog w A I m j n P St)(more:P4)(q:∀p∈more,p.1∉j):
  Walks prog w A I (m++more.map (·.1)) j n P (λi h=>St i h/\∀p∈more,h.get? p.1=some p.2)where
 sub:=λb f=>aBl _ (W.sub b f)
 frame:=λi h g st k=>⟨W.frame i h g st.1 λb f o e=>k b (aBl _ f) o e,λp a=>k p.1 (aAN _<|aAI a) _ (st.2 p a)⟩
 item:=λi s Q E r st d=>W.item i s Q E r st.1 λv g t u x l=>d v g t u ⟨x,λp a=>l p.1 p.2 (q p a) (st.2 p a)⟩ l
 done:=λs Q E st d=>W.done s Q E st.1 d
 self:=λi s Q E st d=>W.self i s Q E st.1 d
end MM
namespace DL
open PySem PySem.Spec L2
open PyProof.Rows hiding St
section
variable [Tabs]
section
def KG{x:Str}{a:bc}{d:Option bc}{b:Array au}{n:Nat}{sl:Array (Option au)}{ns:List Int}(e:X.mg x=some (.ref a))(f:X.K.lookup a=some ⟨.type "tuple",d,.seq b n,sl⟩)(g:l7 (ns.map V.int) b.toList)(hz:b.size<=sizeLine)(h:Gl X x:=by rfl)(i:(x==ix)=false:=by decide):
 PD X (.Name x j) (ZQ (.tup (ns.map D.int))):=vY (YR h e (show RelV (.ref a) _ from rfl) i) λH O=>.tup (.inr ⟨_,b,n,f,rfl,rfl,hz,g⟩) (Reps.ints ns)
def ML:D->D->R D
 |.non,.non=>.ok (.bl true)
 |_,.non=>.ok (.bl false)
 |_,_=>.bad
def NA:mI X (dq .Is) ML:=by
 intro H O x y e f Q j d g q;refine⟨_,wz,?_⟩;cases f with
 |non=>
  refine⟨g.ac1,?_⟩;cases e with
  |non=>rw[d.ac1];exact q _ H (Same.refl _) .bl
  |bl b=>rw[d.blI];exact q _ H (Same.refl _) .bl
  |int i=>rw[d.aa6];exact q _ H (Same.refl _) .bl
  |str z=>rw[d.ac3];exact q _ H (Same.refl _) .bl
  |tup h=>obtain⟨a,_,rfl,_⟩:=d.tupI;exact q _ H (Same.refl _) .bl
  |lst h=>obtain⟨a,_,rfl,_⟩:=d.aa5;exact q _ H (Same.refl _) .bl
  |dct=>obtain⟨a,_,rfl,_⟩:=d.af9;exact q _ H (Same.refl _) .bl
 |_=>cases e<;>exact aAf q
def OC(h:PD X e f)(i:eN e none a.line X.env=pure false:=by rfl):nN X (.Expr e a) (λρ=>(f ρ).bind λ_=>.ok (.nx ρ)):=λj k=>
 BQ (nP h i) λD σ H O ρ E l q=>⟨j,k,O,ρ,E,by
  cases b:f ρ with
  |ok d=>rw[b]at q;exactλv g s r=>q _ g O (E.grow s) l (Kp.of s)
  |ex x=>rw[b]at q;exactλg s=>q g (E.same.trans s)
  |bad=>rw[b]at q;exact q⟩
def cT:List D->Option (List Bool)
 |[]=>some []
 |.bl b::a=>(cT a).map (b::·)
 |_::_=>none
theorem qS:∀{ds:List D}{bs:List Bool},cT ds=some bs->ds=bs.map D.bl
 |[],bs,h=>by cases h;rfl
 |.bl b::ds,bs,h=>by
  unfold cT at h;cases e:cT ds with
  |none=>rw[e]at h;cases h
  |some l=>rw[e]at h;have a:b::l=bs:=Option.some.inj h;subst a;rw[qS e];rfl
 |.non::_,_,h|.int _::_,_,h|.str _::_,_,h|.tup _::_,_,h|.lst _::_,_,h|.dct::_,_,h=>by cases h
def anyR:List D->R D
 |[.lst a]=>match cT a with
  |some bs=>.ok (.bl (bs.any id))
  |none=>.bad
 |_=>.bad
def DQ{K:iu}{H:Hp}{O:bc->Prop}{ws:List V}{bs:List Bool}{a:List au}(r:Reps K H O ws (bs.map D.bl))(v:l7 ws a):a=bs.map aDC:=by
 induction bs generalizing ws a with
 |nil=>cases r;cases v;rfl
 |cons b bs d=>
  cases r with
  |cons r t=>
   cases v with
   |cons e f=>cases r;have:_=aDC b:=e;rw[this,d t f];rfl
def KF(bs:List Bool):(aBc bs.length).any (λi=>bs.getD i false)=bs.any id:=by
 rw[aEb,aDN,aDN];constructor
 .rintro⟨i,a,e⟩;have d:i<bs.length:=by simpa using a
  refine⟨bs[i],aCB d,?_⟩;simpa[aAo,aAi d]using e
 rintro⟨b,f,e⟩;obtain⟨i,a,rfl⟩:=aBp f;exact⟨i,by simpa using a,by simpa[aAo,aAi a]using e⟩
def mw(x:X.calm=true):dW X (.builtin "any") anyR:=by
 intro H O L y Q fr r q;match y,q with
 |[.lst Y],q=>
  obtain⟨v,rfl,z⟩:=PP r;obtain⟨p,ws,rfl,A,j⟩:=z.aa5;simp only[anyR]at q;cases e:cT Y with
  |none=>rw[e]at q;exact q.elim
  |some bs=>
   rw[e]at q;rw[qS e]at j;refine⟨λL k l=>L=[.ref p]/\k=H/\l=Q,λm s σ k Y us l I B ⟨C,J,N⟩=>?_,rfl,rfl,rfl⟩;subst C J N;obtain⟨u,rfl,T⟩:=vals1 B;cases T;obtain⟨a,g,⟨U,nL,n,cL,dL,sL⟩,zL⟩:=I.list A;have t:=DQ j g;have w:s.heap.IsList p a.toArray:=⟨U,n,cL,nL,sL⟩;refine call_any_walk (aDD w ⟨s.heap.objs.size,_,_,a.toArray.size,_,_,λi=>bs.getD i false,rfl,Walks.list (by simp[I.ok.hd x]) s.heap.objs.size p (aAm<|aAg n) a.toArray,⟨⟨_,aAr _ rfl,rfl,rfl⟩,w.push _⟩,λi v s' Q E d f=>?_,λh' tk kp=>?_⟩)
   .have d:a.toArray[i]?=some v:=d;have f:Q (bs.getD i false) s':=f;rw[aCV,t,aAG]at d;cases h:bs[i]? with
    |none=>rw[h]at d;cases d
    |some b=>rw[h]at d;have:aDC b=v:=Option.some.inj d;subst this;rw[aAo,h]at f;exact aBu f
   have I2:=I.kept (h':=h') (t':=tk) λb o e=>kp b o (by simp only[aAK];exact aAm (aAg e)) (aAc _ e);refine⟨.bl (bs.any id),_,I2,?_,q _ _ (Same.refl _) .bl⟩;show aDC _=aDC _;rw[aAn,t,aAh,KF]
end
def yx(ds:List D)(i j:Nat):Bool:=HT.lexLt (flat<|ds.getD i .non) (flat<|ds.getD j .non)
def TW:List D->R D
 |[.lst a]=>if a≠[]/\a.all cK=true then .ok (a.getD (eY (yx a) (a.length-1)) .non)else .bad
 |_=>.bad
def xK(h:cq)(a:List au):List (bc×Obj):=a.filterMap λv=>match v with
 |.ref b=>(h.get? b).map λo=>(b,o)
 |_=>none
def BW(d:aDJ b∈a)(e:h.get? b=some o):(b,o)∈xK h a:=
 aCa.mpr ⟨_,d,by show(h.get? b).map _=_;rw[e];rfl⟩
def gT(a:p∈xK h d):h.get? p.1=some p.2:=by
 obtain⟨v,_,e⟩:=aCa.mp a;cases v with
 |ref b=>
  have e:(h.get? b).map (λo=>(b,o))=some p:=e;cases q:h.get? b with
  |none=>rw[q]at e;cases e
  |some o=>rw[q]at e;cases e;exact q
 |_=>cases e
section
def XS(hc:X.calm=true)(hu:X.A.units+300<cz):dW X (.builtin "min") TW:=by
 intro H O L ds Q fr r q;match ds,q with
 |[.lst Y],q=>
  obtain⟨v,rfl,z⟩:=PP r;obtain⟨p,ws,rfl,h1,h2⟩:=z.aa5;simp only[TW]at q;by_cases x:Y≠[]/\Y.all cK=true
  .rw[hV x]at q;obtain⟨ag,x⟩:=x;have pt:∀d∈Y,cK d=true:=aCj.mp x;refine⟨λL T Q'=>L=[.ref p]/\T=H/\Q'=Q,λpins s σ T sv us Q' I rv z9=>?_,rfl,rfl,rfl⟩;obtain⟨e1,e2,e3⟩:=z9;subst e1 e2 e3;obtain⟨u,rfl,ru⟩:=vals1 rv;cases ru;obtain⟨f,y,⟨oL,nL,U,cL,dL,sL⟩,zL⟩:=I.list h1;have hl:s.heap.IsList p f.toArray:=⟨oL,U,cL,nL,sL⟩;have st:A4 X.K T O f Y:=A4.of y h2;have l:f.toArray.size=Y.length:=by rw[aAn,<-y.length,h2.length]
   have vo:0<Y.length:=aEK.mpr ag;have W:=MM.walks_more (Walks.list (prog:=X.prog) (w:=X.w) (A:=X.A.in1) (by simp[I.ok.hd hc]) s.heap.objs.size p (aAm<|aAg U) f.toArray) (xK s.heap f)
    (λq t=>by simp only[aAK];exact aAm (aAg<|gT t))
   refine MM.call_minH (aDD hl ⟨s.heap.objs.size,_,_,_,f.toArray.size,_,_,λh=>∀q∈xK s.heap f,h.get? q.1=some q.2,yx Y,rfl,W.toS,⟨⟨⟨_,aAr _ rfl,rfl,rfl⟩,hl.push _⟩,λq t=>aAc _ (gT t)⟩,λb k=>?_,by rw[l];exact vo,λi s h=>h.2,λi j vi vj m Q2 E2 hh B hj t=>?_,λv m E J=>?_⟩)
   .rw[aBL];rcases aAD.mp k with k|k
    .rcases aAd.mp k with rfl|k
     .exact aDQ _
     rcases aAd.mp k with rfl|k
     .exact aBw (aAg U)
     cases k
    obtain⟨q,t,rfl⟩:=aAj.mp k;exact aBw (aAg<|gT t)
   .have one:∀i v,f.toArray[i]?=some v->∃b a,v=.ref b/\IsTup m.heap b a/\IntsAre a.toList (flat<|Y.getD i .non):=λi v B=>by
     rw[aCV]at B;obtain⟨d,N,w,td,rp⟩:=J3 st B;have qi:Y.getD i .non=d:=by rw[aAo,N];rfl
     rw[qi];have C:=pt d (aAx N);obtain⟨b,a,rfl,⟨o,g,c,n,dd⟩,hia⟩:=bQ C (cR I rp (V0 C) td);exact⟨b,a,rfl,⟨o,hh _ (BW (aAx B) g),c,n,dd⟩,hia⟩
    obtain⟨b,a,rfl,t1,i1⟩:=one i vi B;obtain⟨b',xn,rfl,t2,i2⟩:=one j vj hj;exact HT.lt_tupInts t1 t2 i1 i2 (by rw[o5];lia) t
   have E:f.toArray[eY (yx Y) (f.toArray.size-1)]?=some v:=E;rw[aCV,l]at E;obtain⟨d,N,w,td,rp⟩:=J3 st E;have qi:Y.getD (eY (yx Y)<|Y.length-1) .non=d:=by rw[aAo,N];rfl
   rw[qi]at q;have I2:=I.kept (h':=m.heap) (t':=m.toks) λb o e=>J.heap b o (by simp only[aAK];exact aAm (aAg e)) (aAc _ e);have es:m={s with heap:=m.heap,toks:=m.toks}:=by have g1:=J.gens;have g2:=J.drawn;have g3:=J.os;cases m;simp only at g1 g2 g3;subst g1 g2 g3;rfl
   rw[es];exact⟨w,_,I2,td,q _ _ (Same.refl _) rp⟩
  rw[h9 x]at q;exact q.elim
def YO(h:UT ds)(n:Nat)(a:n<ds.length):eY (yx ds) n=0:=by
 induction n with
 |zero=>rfl
 |succ k b=>
  have e:=b (by lia);unfold eY;rw[e];have:yx ds (k+1) 0=false:=by
   unfold yx;rw[aAo,aAo,aAi a,aAi (by lia:0<ds.length)];have:=aCo.mp h 0 (k+1) (by lia) a (by lia);cases q:HT.lexLt (flat<|(some ds[k+1]).getD .non) (flat ((some (ds[0]'(by lia))).getD .non))with
   |false=>rfl
   |true=>have z:HT.lexLt (flat (ds[0]'(by lia))) (flat (ds[0]'(by lia)))=true:=TS.lex_trans _ _ _ this q;rw[TS.lex_irrefl]at z;cases z
  rw[this];rfl
end
end
section
variable [Tabs]
end
end DL
namespace DL
open PySem PySem.Spec L2
open PyProof.Rows hiding St sub_tuple_tuple sub_list_list sub_tuple_list sub_list_tuple
section
open PySem.MeetsSeq PySem.MeetsSeq2 PySem.MeetsSeq3 PySem.AutoSeq1
def PC(l:bc)(Y:Array au)(n:Nat)(b:bc)(a:Array au)(n2:Nat)(sl:Array (Option au))(h:¬(!Y.isEmpty&&aDf (Y.size+a.size))=true)(i:Y.size<=sizeLine)(j:Y.size+a.size<=sizeLine+1):
  Meets (Builtin.«list.extend» ⟨[.ref l,.ref b],[]⟩) (λ_ R s=>s.heap.get? l=some ⟨.type "list",none,.seq Y n,#[]⟩/\s.heap.get? b=some ⟨.type "list",none,.seq a n2,sl⟩/\R (.ok (.ret Value.none)) {s with heap:=s.heap.update l (aBI λx=>x++a),toks:=s.toks}):=
 .of_wp λe w A R s q=>by
  obtain⟨o,g,d,p,os⟩:=s;obtain⟨f,k,m⟩:=q;have r:=idx_int;have t:=sub_tuple_tuple;have u:=sub_list_list;have v:=sub_tuple_list;have y:=sub_list_tuple;have z:(Y++a).size<=sizeLine+1:=by rw[Array.size_append];exact j
  wp_walk using(aCg f rfl (hz:=i) (_hz':=z)),aEE f,aEE k
  exact⟨_,rfl,m⟩
end
section
def a2r(K:iu):V->List V->Hp->VK->Prop:=λx L H Q=>∃l b Y a,x=.ref l/\L=[.ref b]/\H l=some (.lst Y)/\P7 K H b a/\Y.length+a.length<=sizeLine/\Q .non (upd H l<|.lst (Y++a))
def iz:MtM X "list.extend" (a2r X.K):=by
 intro g s σ H x L v O Q I p t h;obtain⟨l,b,Y,T,rfl,rfl,i,w,U,q⟩:=h;cases p;obtain⟨u,rfl,y⟩:=t.one;cases y;obtain⟨z,a,n,r,hl,e⟩:=I.ae9 i;obtain⟨f,j,⟨⟨A,wg,B,C⟩,E,J,k,m,o⟩,z2⟩:=I.list w;simp only at k m o;subst k m o;have oi:=j.length;have N:a.toArray.size+f.toArray.size<=sizeLine:=by rw[aAn,aAn];lia
 have d:¬(!a.toArray.isEmpty&&aDf (a.toArray.size+f.toArray.size))=true:=by rw[TF N,aGi];exact aAU
 refine call_meets F.slot_list_extend ⟨_,e,rfl⟩ F.entry_list_extend (F.args_list_extend_2 _ _) (PC l a.toArray n b f.toArray E C d (by rw[aAn];lia) (by lia)) ⟨e,J,?_⟩;refine⟨.non,_,I.af5 (its':=a++f) i e (by simp) (r.append j) ?_,rfl,q⟩;rw[aAz]
 lia
end
variable [Tabs]
section
def DY(i:Nat)(z:PD X e f)(A:X.N[i]?=some x:=by rfl)(B:zI X.env.scope x:=by first|exact aCD rfl|exact aBP (aCD rfl)|exact aBP (aBP rfl))(I:(x==ix)=false:=by decide)(J:(x==ka)=false:=by decide)(Q:gk (.Name x p) "extend" X.env (dm (.Name x p) X.env)=dm (.Name x p) X.env:=by rfl)(T:((cy g (bb [e] X.env)).all (λx=>!x.1)&&(backToKw g (keywordEach [] X.env)).all (λx=>x.1.isSome)
   &&decide ([e].length+([]:List Keyword).length+(if([]:List Keyword).isEmpty then 0 else 1)<30))=true:=by rfl) (U:(b.endLine==g.line)=true:=by rfl) (r:bb [e] X.env=(false,dm e X.env)::bb [] X.env:=by rfl) (ke:(cy g (bb [] X.env)).any (·.1)=false:=by rfl) (xf:eN (.Call (.Attribute (.Name x p) "extend" b) [e] [] g) none l.line X.env=pure false:=by rfl):
  nN X (.Expr (.Call (.Attribute (.Name x p) "extend" b) [e] [] g) l) (λρ=>(f ρ).bind (gj i ρ)):=λH9 O0=>
 BQ (nP (ZO PySem.F.plainAttrs_list PySem.F.slot_list_extend PySem.F.type_list_extend iz (O6 A B I J) (f9 z m6 r) Q T U r ke) xf) λD σ H O ρ E fk q=>by
 cases j:f ρ with
 |ok d=>
  rw[j,R.aa0]at q;unfold gj at q;cases h:ρ[i]? with
  |none=>rw[h]at q;exact aAf q
  |some s=>
   rw[h]at q;cases s with
   |x C=>exact aAf q
   |c m φ=>exact aAf q
   |d N=>exact aAf q
   |no=>exact aAf q
   |v d=>exact aAf q
   |o Y=>
    cases d with
    |lst ys=>
     dsimp only at q;split at q
     .rename_i hz;obtain⟨a,L,t,h2,h3,u,w⟩:=E.own i Y h;refine⟨_,t,.inl ⟨rfl,L,P7.of u⟩,H9,O0,O,ρ,E,?_⟩;show JR X H O ((f ρ).bind λd=>(R.ok []).bind λds=>.ok (d::ds)) _;rw[j];intro us H1 k n;cases n with
      |cons n rn=>
       cases rn;have E1:=E.grow k;cases n with
       |lst hb nb y=>refine⟨a,_,L,_,rfl,rfl,k _ _ u,hb,by rw[w.length,y.length];exact hz,?_⟩;obtain⟨E2,k2⟩:=E1.write h t ((w.same k).append y);exact q σ _ O E2 fk ((Kp.of k).trans k2)
     exact aAf q
    |_=>exact aAf q
 |ex x=>
  rw[j]at q;cases h:ρ[i]? with
  |none=>exact(q H E.same).elim
  |some s=>exact(q H E.same).elim
 |bad=>rw[j]at q;exact aAf q
end
end DL
namespace TS
open PySem PyProof.Rows HT
section
def HG(A:cf)(s:ba)(x y:au)(b:Bool):Prop:=∀(a:bM) (w:cp) (E:F8) (Q:yJ),Q b s->a9 (be a w) A (oneLt' false x y) Q E s
def lt_two{Q:yJ}(g:IsTup s.heap l #[p,r])(h:IsTup s.heap b #[a,d])(i:f=false)(j:SeqAt.EqAt A s p a e1)(k:e1=false->HG A s p a b1)(m:e1=true->SeqAt.EqAt A s r d e2)(t:e1=true->e2=false->HG A s r d b2)(q:Q (bif e1 then(bif e2 then false else b2)else b1) s):a9 (be prog w) A (keyLt' (tupK f) (.ref l) (.ref b)) Q E s:=by
 obtain⟨o,u,y,n,v⟩:=g;obtain⟨z,x,B,C,e⟩:=h;subst i;rw[tT];refine aAa (aEm u v<|aAa<|aEm x e ?_);show a9 _ _ (forIn [((p,a),0),((r,d),1)] _ _>>=_) _ _ _;rw[aDg];refine aAa (aAa ?_);refine aAa (j _ _ _ _ ?_);cases e1 with
 |false=>refine aAa (k rfl _ _ _ _ ?_);exact aAb (aAb<|aAb q)
 |true=>
  refine aAb ?_;dsimp only;rw[aDg];refine aAa ?_;refine aAa (m rfl _ _ _ _ ?_);cases e2 with
  |false=>refine aAa (t rfl rfl _ _ _ _ ?_);exact aAb (aAb<|aAb q)
  |true=>refine aAb ?_;dsimp only;rw[aEi];exact aAb (aAb q)
def MO(h:∀(prog:bM) (w:cp) (E:F8) (Q:F8),Q (.bool b) s->a9 (be prog w) A (richCompare .Lt x y) Q E s):HG A s x y b:=λprog w E Q q=>by rw[oneLt'_eq];simp only[aAv,if_false];exact aAa (h prog w _ _<|aBu q)
def oneLt_tup(d:IsTup s.heap l items)(e:IsTup s.heap b f)(g:IntsAre items.toList ns)(h:IntsAre f.toList i)(j:A.units<cz):HG A s (.ref l) (.ref b) (HT.lexLt ns i):=
 MO λa w E Q q=>HT.lt_tupInts d e g h j q
end
end TS
namespace DL
open PySem PySem.Spec L2
open PyProof.Rows hiding St
section
def vV(k:D->List Int)(d:D):List D->List D
 |[]=>[d]
 |x::Y=>if HT.lexLt (k d) (k x)=true then d::x::Y else x::vV k d Y
def rQ(k:D->List Int)(ds:List D):List D:=ds.foldr (vV k) []
def wU(k:D->List Int)(ds:List D):Prop:=ds.Pairwise λx y=>HT.lexLt (k x) (k y)=true
theorem lN(k:D->List Int)(d:D):∀Y:List D,(vV k d Y).Perm (d::Y)
 |[]=>.refl _
 |x::Y=>by
  unfold vV;split
  .exact .refl _
  exact((lN k d Y).cons x).trans (.swap d x Y)
theorem X0(k:D->List Int):∀ds:List D,(rQ k ds).Perm ds
 |[]=>.refl _
 |d::ds=>(lN k d (rQ k ds)).trans ((X0 k ds).cons d)
theorem yG:∀{Y:List D},wU k Y->(∀x∈Y,k x≠k d)->wU k (vV k d Y)
 |[],_,_=>aDY _ _
 |x::Y,h,n=>by
  have b:=aAy.mp h;unfold vV;split
  .rename_i lt;refine aAy.mpr ⟨λy a=>?_,h⟩;rcases aAd.mp a with rfl|a
   .exact lt
   exact TS.lex_trans _ _ _ lt (b.1 y a)
  rename_i e;refine aAy.mpr ⟨λy a=>?_,yG b.2 λz f=>n z (.tail _ f)⟩;rcases aAd.mp ((lN k d Y).mem_iff.mp a)with rfl|a
  .cases q:HT.lexLt (k x) (k y)with
   |true=>rfl
   |false=>exact absurd (TS.lex_total _ _ q (by simpa using e)) (n x<|.head _)
  exact b.1 y a
theorem lG:∀{ds:List D},(ds.map k).Nodup->wU k (rQ k ds)
 |[],_=>.nil
 |d::ds,h=>by rw[aAk,aAH]at h;refine yG (lG h.2) λx a e=>h.1 ?_;rw[<-e];exact aAI ((X0 k ds).mem_iff.mp a)
theorem lJ:∀{Y a:List D},wU k Y->wU k a->Y.Perm a->Y=a
 |[],a,_,_,p=>(List.nil_perm.mp p).symm
 |x::Y,[],_,_,p=>by have:=p.length_eq;simp at this
 |x::Y,y::a,g,h,p=>by
  have e:=aAy.mp g;have f:=aAy.mp h;have b:x=y:=by
   rcases aAd.mp (p.mem_iff.mp<|.head _)with q|q
   .exact q
   rcases aAd.mp (p.mem_iff.mpr<|.head _)with d|d
   .exact d.symm
   have:=TS.lex_trans _ _ _ (f.1 x q) (e.1 y d);rw[TS.lex_irrefl]at this;cases this
  subst b;rw[lJ e.2 f.2 ((List.perm_cons x).mp p)]
def VI[Tabs]{R:au->D->Prop}{key:au->List Int}{k:D->List Int}{a:List au}{ds:List D}(st:Paired R a ds)(f:a.Pairwise λx y=>HT.lexLt (key y) (key x)=false)(p:(ds.map k).Nodup)(g:∀u d,R u d->d∈ds->key u=k d):wU k ds:=by
 induction st with
 |nil=>exact .nil
 |@cons u d a ds r t q=>
  have i:=aAH.mp p;have m:=aAy.mp f;refine aAy.mpr ⟨λe s=>?_,q m.2 i.2 λu d h v=>g u d h (.tail _ v)⟩;obtain⟨j,b,rfl⟩:=aBp s;have n:j<a.length:=by rw[t.length];exact b
  obtain⟨A,o,w⟩:=J3 t (aAi n);rw[aAi b]at o;cases o;have l:=m.1 a[j] (aCB n);rw[g _ _ w (.tail _ (aCB b)),g u d r (.head _)]at l;cases z:HT.lexLt (k d) (k ds[j])with
  |true=>rfl
  |false=>exact absurd (aAj.mpr ⟨ds[j],aCB b,(TS.lex_total _ _ z l).symm⟩) i.1
def fcB:D->Bool
 |.tup [p,.lst _]=>cK p
 |_=>false
def T8:D->List Int
 |.tup (p::_)=>flat p
 |_=>[]
def lq(h:fcB d=true):∃p r,d=.tup [p,.lst r]/\cK p=true/\T8 d=flat p:=by
 unfold fcB at h;split at h
 .exact⟨_,_,rfl,h,rfl⟩
 cases h
def sfR:D->R (List D)
 |.lst a=>if a.all fcB=true/\(a.map T8).Nodup/\a.length<=63 then .ok (rQ T8 a)else .bad
 |_=>.bad
variable [Tabs]
def FV(h:cq)(u:au)(l:List Int):Prop:=∃b p r d,u=.ref b/\IsTup h b #[p,r]/\cK d=true/\HV h p d/\flat d=l
def FV.inj(x:FV h u l)(y:FV h u k):l=k:=by obtain⟨b,p,r,d,rfl,⟨o,g,_,n,m⟩,_,q,rfl⟩:=x;obtain⟨t,v,w,z,e,⟨A,f,_,B,i⟩,_,a,rfl⟩:=y;cases e;rw[g]at f;cases f;rw[m]at i;injection i with s _;have j:=ip aFU s;simp only[aFX]at j;obtain⟨rfl,_⟩:=j;rw[HV.inj q a]
def KH(h:cq) (u:au):List Int:=open Classical in if p:∃l,FV h u l then p.choose else[]
def iO(x:FV h u l):KH h u=l:=by unfold KH;rw[dif_pos ⟨l,x⟩];exact FV.inj (Exists.choose_spec (⟨l,x⟩:∃l,FV h u l)) x
section
def NB(I:Inv X e σ H s)(r:Rep X.K H O v d)(h:fcB d=true)(g:RelV v u):FV s.heap u (T8 d):=by
 obtain⟨p,ring,rfl,f,i⟩:=lq h;cases r with
 |tup q a=>
  cases g;obtain⟨j,b,k,_⟩:=I.tuple q;cases a with
  |cons l a=>
   cases a with
   |cons m a=>
    cases a;cases b with
    |cons v1 b=>
     cases b with
     |cons v2 b=>cases b;exact⟨_,_,_,p,rfl,k,f,cR I l (V0 f) v1,i.symm⟩
end
section
def FA(ha:PB X e f)(hh:X.calm=true)(hu:X.A.units+300<cz)(hg:Gl X "sorted":=by rfl)(hm:X.mg "sorted"=none:=by assumption)(hv:de "sorted"=some (.builtin "sorted"):=by decide+kernel)(he:bb [e] X.env=(false,dm e X.env)::bb [] X.env:=by rfl)(bf:(cy pos (bb [] X.env)).any (·.1)=false:=by rfl):
  PF X (.Call (.Name "sorted" p) [e] [] pos) (λρ=>(f ρ).bind sfR):=by
 refine tY λpins s σ H Q I H9 O0 O ρ E q=>?_;dsimp only at q;refine aBg (T9 I hg hm hv ?_ (by decide) (by decide));have rh:PA X [e] _:=O9 ha dG he;refine aCt (F5 (rh pos pins s σ H (λL H1=>∃v t,L=[v]/\f ρ=.ok (.lst t)/\Same H H1/\B5 X.K H1 O v (.lst t)) I ⟨H9,O0,O,ρ,E,?_⟩) λus J z9=>?_) he bf
 .cases e1:f ρ with
  |ex z=>rw[e1]at q;exact q
  |bad=>rw[e1]at q;exact q.elim
  |ok d=>
   rw[e1,R.aa0]at q;cases d with
   |lst t=>exactλv H1 J r1=>⟨v,t,rfl,rfl,J,r1⟩
   |_=>exact aAf q
 obtain⟨L,H1,I1,r1,v,t,ev,ef,sm,rb⟩:=z9;subst ev;rw[ef,R.aa0]at q;obtain⟨a,ws,rfl,hS,rr⟩:=rb.aa5;obtain⟨u,rfl,ru⟩:=vals1 r1;cases ru;obtain⟨m,rv,⟨oL,nL,gL,cL,dL,sL⟩,zL⟩:=I1.list hS;have hl:J.heap.IsList a m.toArray:=⟨oL,gL,cL,nL,sL⟩;simp only[sfR]at q;by_cases hc:t.all fcB=true/\(t.map T8).Nodup/\t.length<=63
 .rw[hV hc]at q;obtain⟨nu,nd,zu⟩:=hc;have fc:∀d∈t,fcB d=true:=aCj.mp nu;have st:A4 X.K H1 O m t:=A4.of rv rr;have hlen:m.length=t.length:=st.length;have B:∀u∈m,∃i d,m[i]?=some u/\t[i]?=some d/\FV J.heap u (T8 d):=λu hu=>by obtain⟨i,hi,rfl⟩:=aBp hu;obtain⟨d,hd,w,td,rp⟩:=J3 st (aAi hi);exact⟨i,d,aAi hi,hd,NB I1 rp (fc d<|aAx hd) td⟩
  have keq:∀u∈m,∀u'∈m,KH J.heap u=KH J.heap u'->u=u':=λu hu u' ai e=>by
   obtain⟨i,d,hi,hd,fv⟩:=B u hu;obtain⟨j,d',hj,qi,fv'⟩:=B u' ai;rw[iO fv,iO fv']at e;have eij:i=j:=by obtain⟨li,ei⟩:=aAC.mp hd;obtain⟨lj,ej⟩:=aAC.mp qi;refine(List.getElem_inj (xs:=t.map T8) (i:=i) (j:=j) (h₀:=by simpa using li) (h₁:=by simpa using lj) nd).mp ?_;rw[aCT,aCT,ei,ej];exact e
   subst eij;rw[hi]at hj;cases hj;rfl
  refine TS.sorted_keys (L:=m) (f:=false) (key:=KH J.heap) (C:=λs'=>∃h',s'={J with heap:=h'}/\∀b o,J.heap.get? b=some o->h'.get? b=some o)
   (λ{Q'} hq=>collect_list hl (hq _ ⟨_,rfl,λb o e=>?_⟩) (by rw[hlen];exact aAp zu (by decide)))
   (λs' ⟨h',Y,k⟩ s6 k6 x hx y hy prog w A E hA {Q} qq=>?_) (λh2 s' ⟨h',Y,k⟩ s6 k6 A {Q} qq=>?_) (by rw[hlen];lia) λs' fu h' l ⟨h1,Y,k⟩ pm srt k2 hl ⟨n,gl⟩=>?_
  .exact(aAF _ _<|aBY<|aAm<|aAg e).trans (aAc _ e)
  .subst Y;have kk:∀b o,J.heap.get? b=some o->s6.heap.get? b=some o:=λb o e=>k6 b o (k b o e);obtain⟨i,d,hi,hd,fv⟩:=B x hx;obtain⟨j,d',hj,qi,fv'⟩:=B y hy;have kx:=iO fv;have ky:=iO fv';have eqk:=keq x hx y hy;rw[kx,ky]at qq;rw[kx,ky]at eqk;obtain⟨b,p1,r1,d1,rfl,⟨o,g,c,n,dd⟩,U,hv1,e1⟩:=fv;obtain⟨b',p2,r2,d2,rfl,⟨o',g',c',n',zi⟩,hp2,hv2,e2⟩:=fv';have N:HV s6.heap p1 d1:=hv1.keeps λb o e _=>kk b o e;have hv2':HV s6.heap p2 d2:=hv2.keeps λb o e _=>kk b o e;have hA':A.units+8<cz:=by lia
   obtain⟨c1,i1,rfl,t1,ia1⟩:=bQ U N;obtain⟨c2,i2,rfl,t2,ia2⟩:=bQ hp2 hv2';rw[<-e1,<-e2]at qq eqk;refine TS.lt_two (e1:=v5 d1 d2) (e2:=true) (b1:=HT.lexLt (flat d1) (flat d2)) (b2:=false) ⟨o,kk _ _ g,c,n,dd⟩ ⟨o',kk _ _ g',c',n',zi⟩ rfl (FU N hv2' (by have:=IE U;lia)) (λ_=>TS.oneLt_tup t1 t2 ia1 ia2 (by lia)) (λeq=>?_) (λ_ z=>by cases z) ?_
   .have ed:=jT (V0 U) (V0 hp2) eq;have er:=eqk (by rw[ed]);cases er;rw[g]at g';cases g';rw[dd]at zi;injection zi with e3 _;have e4:=ip aFU e3;simp only[aFX]at e4;rw[e4.2.1];exact aEc _
   cases z:v5 d1 d2 with
   |false=>exact qq
   |true=>have ed:=jT (V0 U) (V0 hp2) z;rw[ed,TS.lex_irrefl]at qq;exact qq
  .subst Y;have kk:∀b o,J.heap.get? b=some o->s6.heap.get? b=some o:=λb o e=>k6 b o (k b o e);have sg:∀x∈m,∃p,∃b r,x=.ref b/\IsTup s6.heap b r/\r[0]?=some p/\s6.TypeIs p "tuple":=λx hx=>by obtain⟨i,d,hi,hd,fv⟩:=B x hx;obtain⟨b,p1,r1,d1,rfl,⟨o,g,c,n,dd⟩,U,hv1,e1⟩:=fv;have N:HV s6.heap p1 d1:=hv1.keeps λb o e _=>kk b o e;obtain⟨c1,i1,rfl,⟨o1,g1,cc1,_⟩,ia1⟩:=bQ U N;exact⟨_,b,_,rfl,⟨o,kk _ _ g,c,n,dd⟩,rfl,⟨o1,g1,cc1⟩⟩
   obtain⟨gf,hgf⟩:∃gf:au->au,∀x∈m,∃b r,x=.ref b/\IsTup s6.heap b r/\r[0]?=some (gf x)/\s6.TypeIs (gf x) "tuple":=by refine⟨λx=>open Classical in if z:x∈m then(sg x z).choose else .none,λx hx=>?_⟩;dsimp only;rw[dif_pos hx];exact(sg x hx).choose_spec
   exact TS.kind_tuples (T:= "tuple") gf hgf (λz=>by rw[z]at h2;simp at h2) (by decide) qq
  subst Y;obtain⟨ua,p2,kr⟩:=dM pm st;have hk:∀u d,(∃v,RelV v u/\Rep X.K H1 O v d)->d∈t->KH J.heap u=T8 d:=by rintro u d ⟨v,rv,rp⟩ hd;exact iO (NB I1 rp (fc d hd) rv)
  have uf:(ua.map T8).Nodup:=(p2.map T8).nodup_iff.mpr nd;have srt2:wU T8 ua:=VI (R:=λu d=>∃v,RelV v u/\Rep X.K H1 O v d) kr srt uf λu d h hd=>hk u d h (p2.mem_iff.mp hd);have e2:ua=rQ T8 t:=lJ srt2 (lG nd) (p2.trans (X0 T8 t).symm);subst e2;obtain⟨wv,td,qe⟩:=A4.ad1 kr;have I2':=I1.kept (h':=h1) (t':=J.toks) k;have I3:=I2'.laid (a:=l) (o:=.lst wv) (h':=h') (t':=J.toks) k2 hl ⟨by rw[qe.length,(X0 T8 t).length_eq];exact aAp zu (by decide),fu,n,td,gl⟩;exact⟨.ref l,_,I3,rfl,q wv _ l sm (I2'.hok.fresh hl) qe⟩
 rw[h9 hc]at q;exact q.elim
end
end
section
def KB:List Int->Int
 |[]=>0
 |a::l=>l.foldl min a
theorem U9:∀(l:List Int) (a:Int),(l.foldl min a=a\/l.foldl min a∈l)/\l.foldl min a<=a/\∀b∈l,l.foldl min a<=b
 |[],a=>⟨.inl rfl,aBy _,λb h=>by cases h⟩
 |c::l,a=>by
  obtain⟨d,g,f⟩:=U9 l (min a c);rw[aEC];refine⟨?_,by lia,λb e=>?_⟩
  .rcases d with d|d
   .rw[d];rcases Int.le_total a c with q|q
    .exact .inl (Int.min_eq_left q)
    exact .inr (by rw[Int.min_eq_right q];exact .head _)
   exact .inr (.tail _ d)
  rcases aAd.mp e with rfl|e
  .lia
  exact f b e
def zQ(h:ns≠[]):KB ns∈ns:=by
 cases ns with
 |nil=>exact absurd rfl h
 |cons a l=>
  rcases(U9 l a).1 with q|q
  .show l.foldl min a∈_;rw[q];exact .head _
  exact .tail _ q
def VC(h:a∈ns):KB ns<=a:=by
 cases ns with
 |nil=>cases h
 |cons b l=>
  rcases aAd.mp h with rfl|h
  .exact(U9 l a).2.1
  exact(U9 l b).2.2 a h
def FW:List D->R D
 |[.lst Y]=>match cZ Y with
  |some a=>if a≠[]then .ok (.int (KB a))else .bad
  |none=>.bad
 |_=>.bad
variable [Tabs]
section
def QP(f:IntsAre a ns)(e:a.toArray=intItems d):∀i,numAt d i=ns.getD i 0:=λi=>by have b:=nums_intItems d;rw[<-e]at b;have g:=f.numsOf;rw[show a.toArray.toList=a from rfl,g]at b;rw[b];unfold numAt;rw[aAo,aAG,<-aAE]
def WA(B:X.calm=true):dW X (.builtin "min") FW:=by
 intro H O L C Q fr r q;match C,q with
 |[.lst Y],q=>
  obtain⟨v,rfl,z⟩:=PP r;obtain⟨p,ws,rfl,k,l⟩:=z.aa5;simp only[FW]at q;cases e:cZ Y with
  |none=>rw[e]at q;exact q.elim
  |some d=>
   rw[e]at q;dsimp only at q;by_cases f:d≠[]
   .rw[hV f]at q;rw[aK e]at l;rw[lT l]at k;refine⟨λL m n=>L=[.ref p]/\m=H/\n=Q,λo s σ m sv us n I E ⟨J,N,T⟩=>?_,rfl,rfl,rfl⟩;subst J N T;obtain⟨u,rfl,U⟩:=vals1 E;cases U;obtain⟨its,r',pl,hz⟩:=I.list k;have g:=DL.V9 r';obtain⟨a,h⟩:=g.allInts.items;have w:=pl.isList;rw[h]at w;have x:a.size=d.length:=by have:=ip Array.size h;rw[aAn,g.length]at this;simpa[intItems]using this.symm
    have vo:0<d.length:=aEK.mpr f;refine min_intList (I.ok.hd B) w (by lia) λv h' tk hv hk=>?_;obtain⟨t,rfl⟩:=intItems_at hv;obtain⟨g1,y⟩:=argBest_lt (numAt a) (a.size-1);have em:numAt a (eY (λi j=>decide (numAt a i<numAt a j))<|a.size-1)=KB d:=by
     generalize eY (λi j=>decide (numAt a i<numAt a j)) (a.size-1)=b at g1 y;have m1:numAt a b∈d:=by rw[QP g h,aAo,aAi (by lia)];exact aCB _
     have m2:=VC m1;obtain⟨j,hj,ej⟩:=aBp (zQ f);have A:=y j (by lia);rw[QP g h j,aAo,aAi hj]at A;have m4:numAt a b<=d[j]:=A
     lia
    rw[em];exact⟨.int (KB d),_,I.kept hk,⟨t,rfl⟩,q _ _ (Same.refl _) .int⟩
   rw[h9 f]at q;exact q.elim
def FH(K:iu)(mg:cM)(x:Str)(ns:List Int):Prop:=∃a d b n e,mg x=some (.ref a)/\K.lookup a=some ⟨.type "tuple",d,.seq b n,e⟩/\l7 (ns.map V.int) b.toList/\b.size<=sizeLine
omit [Tabs]in
def RQ{K:iu}{mg:cM}{x:Str}{a:bc}{b:Option bc}{n:Nat}{sl:Array (Option au)}{i j k:Int}{t u v:Tok}(d:mg x=some (.ref a))(e:K.lookup a=some ⟨.type "tuple",b,.seq #[.int i t,.int j u,.int k v] n,sl⟩):FH K mg x [i,j,k]:=
 ⟨a,b,_,n,sl,d,e,.cons ⟨t,rfl⟩ (.cons ⟨u,rfl⟩ (.cons ⟨v,rfl⟩ .nil)),show 3<=sizeLine by decide⟩
def oN(c:FH X.K X.mg x ns)(b:Gl X x:=by rfl)(d:(x==ix)=false:=by decide):PD X (.Name x e) (ZQ (.tup (ns.map D.int))):=by obtain⟨a,k,f,n,l,g,h,i,j⟩:=c;exact KG g h i j b d
end
end
section
variable [Tabs]
section
variable{K:iu}
structure FunC(K:PySem.W.Frag)(x qual:Str)(st:Stmt)(f:Addr)(fd:FuncData)(cd:Addr):Prop where
 ex:∃(oc:Value) (od:Option Addr) (kV doc pm:Value) (an:Option Addr) (ct:Value) (osl:Array (Option Value)),
  fd=PySem.W.fnOf x qual (F1 st) (p9 st) (c6 st) .none kV doc pm an (.ref cd) ct/\K.lookup f=some ⟨oc,od,.func fd,osl⟩/\PySem.W.codeIn K (.ref cd) qual=true
 kp:PySem.W.keepIn K (.ref f)=true
omit [Tabs]in
def FunC.fn{x qual:Str}{st:cv}{f:bc}{fd:dA}{cd:bc}(F:FunC K x qual st f fd cd):Fun K x qual st f fd:=
 let⟨d,e,kV,a,g,h,i,b,j,k,l⟩:=F.ex
 ⟨⟨d,e,kV,a,g,h,.ref cd,i,b,j,k,l⟩,F.kp⟩
omit [Tabs]in
def WE{x qual:Str}{st:cv}{f cd:bc}{h:au}{i d:Option bc}{b:Array (Option au)}{kV a g C ct:au}(l:K.lookup f=some ⟨h,i,.func (PySem.W.fnOf x qual (F1 st) (p9 st) (c6 st) .none kV a g d C ct),b⟩)
  (e:C=.ref cd) (c:PySem.W.codeIn K C qual=true) (k:PySem.W.keepIn K (.ref f)=true):FunC K x qual st f (PySem.W.fnOf x qual (F1 st) (p9 st) (c6 st) .none kV a g d C ct) cd:=by
 subst e;exact⟨⟨h,i,kV,a,g,d,ct,b,rfl,l,c⟩,k⟩
def a4i{x qual:Str}{st:cv}{f cd:bc}{fd:dA}{N ps:List Str}{k:Nat}{m:List D->R D}{F:Ev->R Out}(j:FunC K x qual st f fd cd)(S:FnScope N ps (c6 st))
  (l:∀(A:cf) (a:List Env) (s:ba) (H:Hp) (E:XK),Room k (A.deeper (envOfC qual (c6 st) s.heap.objs.size f (.ref cd)))->bU (UQ P w K mg base N qual (c6 st) f (.ref cd) A a s H E) (p9 st) F)
  (n:∀ds d,ds.length=ps.length->m ds=.ok d->N9 (F (l4 N ds))=.ok d):FnOk P w K mg base uI (k+1) f fd ps (spD K ps.length m):=by
 obtain⟨U,Y,kV,p,pm,an,ct,t,rfl,lk,u⟩:=j.ex;refine ZW lk u S (by rintro L H Q E ⟨O,ds,d,r,g,_⟩;rw[r.length];exact g) λA a s H L Q E v y=>?_;obtain⟨O,ds,d,r,g,z,B,C,e,q⟩:=y;refine⟨_,uU.nox (l A a s H E v H O),O,_,lK r z B,C,?_⟩;have h:=n ds d g e;cases i:F (l4 N ds)with
 |ok o=>
  rw[i]at h;cases o with
  |rt I=>have b:R.ok I=R.ok d:=h;injection b with b;subst b;exact q
  |nx ρ=>have b:R.ok D.non=R.ok d:=h;injection b with b;subst b;exactλaf J O' T _ _=>q .non J T.same .non
  |bk ρ=>cases h
  |ct ρ=>cases h
 |ex x=>rw[i]at h;cases h
 |bad=>rw[i]at h;cases h
def WX{x qual:Str}{st:cv}{f cd:bc}{fd:dA}{N ps:List Str}{k:Nat}{m:List D->R D}{F:Ev->R Out}(b:FunC K x qual st f fd cd)(S:FnScope N ps (c6 st))(e:Binds K fd ps [])(g:mg x=some (.ref f))
  (h:∀(A:cf) (a:List Env) (s:ba) (H:Hp) (E:XK),Room k (A.deeper (envOfC qual (c6 st) s.heap.objs.size f (.ref cd)))->bU (UQ P w K mg base N qual (c6 st) f (.ref cd) A a s H E) (p9 st) F)
  (i:∀ds d,ds.length=ps.length->m ds=.ok d->N9 (F (l4 N ds))=.ok d):A2 P w K mg base (k+1) x ps.length m:=
 ⟨f,fd,ps,a4i b S h i,e,b.kp,g⟩
def XJ(P:bM)(w:cp)(K:iu)(mg:cM)(base:cq)(k d:Nat)(x:Str)(M:D->(List D->R D)->(List D->R D)->R D):Prop:=
 ∃g b a,FnOk P w K mg base uI k g b a (spF K (MG P w K mg base d 1) M)/\Binds K b a []/\PySem.W.keepIn K (.ref g)=true/\mg x=some (.ref g)/\a.length=3
def YG{x qual:Str}{st:cv}{f:bc}{fd:dA}{N ps:List Str}{k b:Nat}{M:D->(List D->R D)->(List D->R D)->R D}{F:Ev->R Out}(e:Fun K x qual st f fd)(S:FnScope N ps (c6 st))(g:ps.length=3)(l:Binds K fd ps [])(m:mg x=some (.ref f))
  (n:∀(C:au) (A:cf) (a:List Env) (s:ba) (H:Hp) (E:XK),Room k (A.deeper (envOfC qual (c6 st) s.heap.objs.size f C))->bU (UQ P w K mg base N qual (c6 st) f C A a s H E) (p9 st) F)
  (o:∀h i j d,M h i j=.ok d->N9 (F (kL N (MG P w K mg base b 1) h i j))=.ok d):XJ P w K mg base (k+1) b x M:=
 ⟨f,fd,ps,fnF e S g n o,l,e.kp,m,g⟩
end
section
def yL(i:Nat){Φ:(List D->R D)->Hp->(bc->Prop)->bc->Prop}(a:MG X.prog X.w X.K X.mg X.base k n=Φ)(d:MF X (e::es) f)(g:DR f n)(h:Room k X.A)(j:X.N[i]?=some x:=by rfl)(l:zI X.env.scope x:=by first|exact aCD rfl|exact aBP (aCD rfl)|exact aBP (aBP rfl))(m:(x==ix)=false:=by decide)(o:(x==ka)=false:=by decide)(q:bb (e::es) X.env=(false,dm e X.env)::bb es X.env:=by rfl)(r:(cy b (bb es X.env)).any (·.1)=false:=by rfl):
  PD X (.Call (.Name x p) (e::es) [] b) (callC Φ i f):=by
 subst a;exact RP i d g h j l m o q r
def BY(r:NstOk X k n1)(s:NstOk X k n2)(t:ClosOk X n1 clos1)(u:ClosOk X n2 clos2)(v:∀x b,(x,b)∈clos1++clos2->X.env.cells.lookup x=some b)(z:jV X.mg X.base)(B:X.env.code=.ref c)(C:PySem.W.codeHdIn X.K c E=true)(j:(E,tb)∈Tabs.tbs)(l:(n1.pos,n1.qual)∈tb)(H:(n2.pos,n2.qual)∈tb)(I:∀p∈tb,p.1.line=n1.pos.line->p.1.col=n1.pos.col->p.2=n1.qual)(m:∀p∈tb,p.1.line=n2.pos.line->p.1.col=n2.pos.col->p.2=n2.qual)(J:n1.i≠n2.i)(L:X.N.Nodup)(O:XJ X.prog X.w X.K X.mg X.base Q (k+1) x M)(T:Room Q X.A)(U:PD X e f)(Y:∀y,X.fn y=true)(hg:Gl X x:=by rfl)(ia:(x==ix)=false:=by decide)(zc:bb [e,.Name n1.name h,.Name n2.name a] X.env=(false,dm e X.env)::bb [.Name n1.name h,.Name n2.name a] X.env:=by rfl)(zh:bb [.Name n1.name h,.Name n2.name a] X.env=(false,dm (.Name n1.name h) X.env)::bb [.Name n2.name a] X.env:=by rfl)(n:bb [.Name n2.name a] X.env=(false,dm (.Name n2.name a) X.env)::bb [] X.env:=by rfl)(bf:(cy o (bb [.Name n1.name h,.Name n2.name a] X.env)).any (·.1)=false:=by rfl):
  bU X [n1.stmt,n2.stmt,.Return (some (.Call (.Name x p) [e,.Name n1.name h,.Name n2.name a] [] o)) q] (λρ=>((f ((ρ.set n1.i .no).set n2.i .no)).bind λd1=>(dD n1.js ((ρ.set n1.i .no).set n2.i .no)).bind λw1=>(dD n2.js ((ρ.set n1.i .no).set n2.i .no)).bind λw2=>M d1 (n1.mm w1) (n2.mm w2)).bind λd=>.ok (.rt d)):=by
 obtain⟨g,gd,ps,FF,hb,hk,hm,h3⟩:=O;exact LY r s t u v z B C j l H I m J L FF T hm hk hb h3 U Y hg ia zc zh n bf
end
end
end DL
namespace DL
open PySem L2
def _root_.L2.Room.ae2(r:Room k A):A.units+130<cz:=by have:=r.un;lia
def _root_.L2.Room.ae1(r:Room k A)(h:7<=k):A.units+300<cz:=by have:=r.un;lia
def JX{y:Str}{d:bc}{a:List (Str×bc)}(h:a.lookup y=some d:=by rfl):∀(x:Str) (b:bc),(x,b)∈[(y,d)]++[(y,d)]->a.lookup x=some b:=λx b e=>by
 have:(x,b)=(y,d):=by simpa using e
 injection this with f g;subst f g;exact h
def GO{sc:gW}{fn:List Str}{x:Str}(h:sc.names.lookup x=some .free)(a:(sc.names.all λp=>p.2 !=.free||fn.contains p.1)=true:=by decide+kernel):x∈fn:=by have b:=aCj.mp a _ (PySem.mem_of_lookup h);simpa using b
def HS:cv->Pos
 |.FunctionDef _ _ _ _ _ _ _ _ _ p=>p
 |_=>⟨0,0,0,0⟩
end DL
namespace M
open PySem L2 DL
def yH:D->Option G.V
 |.tup [.int a,.int b,.int c]=>some ⟨a,b,c⟩
 |_=>none
@[simp]def FP(v:G.V):yH (vd v)=some v:=rfl
def LI(h:yH d=some v):d=vd v:=by
 unfold yH at h;split at h
 .cases h;rfl
 cases h
def I0:List D->Option (List G.V)
 |[]=>some []
 |d::a=>match yH d,I0 a with
  |some v,some L=>some (v::L)
  |_,_=>none
@[simp]theorem v8:∀L:List G.V,I0 (L.map vd)=some L
 |[]=>rfl
 |v::L=>by rw[aAk,I0,FP,v8 L]
theorem t7:∀{ds:List D}{L:List G.V},I0 ds=some L->ds=L.map vd
 |[],L,h=>by cases h;rfl
 |d::ds,L,h=>by
  unfold I0 at h;split at h
  .rename_i v e a b;cases h;rw[LI a,t7 b];rfl
  cases h
def EQ(h:vd u=vd v):u=v:=by
 have:yH (vd u)=yH (vd v):=by rw[h]
 simpa using this
def YN{u v:List G.V}(h:u.map vd=v.map vd):u=v:=by
 have:I0 (u.map vd)=I0 (v.map vd):=by rw[h]
 simpa using this
def aV(n:Nat)(J:List G.V):Prop:=(∀P∈J,Sz n P)/\J.length<=1000
def DV:Option G.V->D
 |some v=>vd v
 |none=>.non
def A8:List D->R D
 |[.lst Y]=>match I0 Y with
  |some a=>.ok (DV (G.B7 a))
  |none=>.bad
 |_=>.bad
open Classical in
def D2:List D->R D
 |[.lst Y]=>match I0 Y with
  |some J=>if J≠[]/\aV 1000 J then .ok (.int (G.U8 J))else .bad
  |none=>.bad
 |_=>.bad
open Classical in
def G1:List D->R D
 |[.lst Y]=>match I0 Y with
  |some J=>if aV 1000 J/\G.U8 J=3 then .ok .non else .bad
  |none=>.bad
 |_=>.bad
open Classical in
def A3:List D->R D:=v4 λa b c d=>BR λY=>gC (match I0 Y with
 |some J=>if Sz 10000 ⟨a,b,c⟩/\aV 1000 J then .ok (.lst ((G.o6 ⟨a,b,c⟩ d J).map vd))else .bad
 |none=>.bad)
open Classical in
def G4:List D->R D:=UF λg=>BR λY=>gC ((v1 λa b c=>v1 λd e f=>gC (match I0 Y with
 |some J=>if Sz 1000 ⟨a,b,c⟩/\Sz 1000 ⟨d,e,f⟩/\aV 1000 J/\G.aZ (G.b7 ⟨a,b,c⟩ ⟨d,e,f⟩ J).1 then .ok (vH (G.b7 ⟨a,b,c⟩ ⟨d,e,f⟩ J).1 (G.b7 ⟨a,b,c⟩ ⟨d,e,f⟩ J).2)else .bad
 |none=>.bad)) g)
abbrev K4(p:G.V×G.V):D:=.tup [vd p.1,vd p.2]
structure Land(J:List G.V)(m:G.V):Prop where
 good:G.Good J m
 sz:aV 900 J
 few:J.length<=63
 head:J.head?=some m
open Classical in
def J9:List D->R D
 |[.lst Y]=>match I0 Y with
  |some (m::J)=>if Land (m::J) m then .ok (K4 (G.f7 m (m::J)))else .bad
  |_=>.bad
 |_=>.bad
open Classical in
def eZ:List D->R D:=v1 λa b c=>v1 λd e f=>v1 λg h i=>v1 λj k l=>gC (
 if Sz 10000 ⟨a,b,c⟩/\Sz 1000 ⟨d,e,f⟩/\Sz 1000 ⟨g,h,i⟩/\Sz 1000 ⟨j,k,l⟩then .ok (.int (G.turn ⟨a,b,c⟩ ⟨d,e,f⟩ ⟨g,h,i⟩ ⟨j,k,l⟩))else .bad)
open Classical in
def V3:List D->R D:=v1 λa b c=>BR λY=>gC (match I0 Y with
 |some J=>if Sz 10000 ⟨a,b,c⟩/\aV 1000 J then .ok (.lst ((G.w8 ⟨a,b,c⟩ J).reverse.map vd))else .bad
 |none=>.bad)
open Classical in
def K5:List D->R D:=v1 λa b c=>BR λY=>gC (match I0 Y with
 |some J=>if Sz 10000 ⟨a,b,c⟩/\aV 1000 J then .ok (.lst ((G.j0 ⟨a,b,c⟩ J).map vd))else .bad
 |none=>.bad)
def C5:List D->R D
 |[.lst Y]=>match I0 Y with
  |some J=>if J.length<=3000 then .ok (.lst ((G.u8 J).map K4))else .bad
  |none=>.bad
 |_=>.bad
abbrev j6(J:List G.V)(f:G.V×Int):D:=.tup [vH f.1 f.2,.lst ((G.c8 J f).map vd)]
def eF(J:List G.V)(fs:List (G.V×Int)):Prop:=(∀f,f∈fs↔G.IsFace J f.1 f.2)/\wU T8 (fs.map<|j6 J)
open Classical in
def j4(J:List G.V):List (G.V×Int):=if h:∃fs,eF J fs then h.choose else[]
def K8:List D->List D->R D
 |[w],[_]=>.ok w
 |_,_=>.bad
def E8:List D->List D->R D
 |[w],[p]=>A3 [p,w]
 |_,_=>.bad
open Classical in
def J8(d:D) (a b:List D->R D):R D:=match a [.non]with
 |.ok (.lst Y)=>match I0 Y with
  |some (m::J)=>if Land (m::J) m/\(m::J).length<=23/\d=K4 (G.f7 m (m::J))/\a=K8 [.lst Y]/\b=E8 [.lst Y]then .ok (.lst ((j4 (m::J)).map (j6 (m::J))))else .bad
  |_=>.bad
 |_=>.bad
def i4(J:List G.V):List G.V:=(cJ<|J.map vd).filterMap yH
open Classical in
def Q3:List D->R D
 |[.lst Y]=>match I0 Y with
  |some J=>if aV 900 J/\G.i9 J/\(i4 J).length<=23 then .ok (.lst ((j4 (i4 J)).map (j6 (i4 J))))else .bad
  |none=>.bad
 |_=>.bad
def yz:D->Option (List G.V)
 |.tup [_,.lst Y]=>I0 Y
 |_=>none
def tK:List D->Option (List (List G.V))
 |[]=>some []
 |d::a=>match yz d,tK a with
  |some v,some L=>some (v::L)
  |_,_=>none
open Classical in
def K3:List D->R D
 |[.lst Y]=>match tK Y with
  |some a=>if a.flatten.length<=3000/\(i4 a.flatten).length<=63 then .ok (.lst ((i4 a.flatten).map vd))else .bad
  |none=>.bad
 |_=>.bad
def B0(J:List G.V):List G.V:=i4 ((j4<|i4 J).flatMap (G.c8<|i4 J))
open Classical in
def V8:List D->R D
 |[.lst Y]=>match I0 Y with
  |some J=>if aV 900 J/\G.i9 J/\(i4 J).length<=23 then .ok (.lst ((B0 J).map vd))else .bad
  |none=>.bad
 |_=>.bad
def ne0(v:G.V):MC (vd v) (.tup [.int 0,.int 0,.int 0])=.ok (.bl (!decide (v=0))):=by rw[CA];congr 3;rw[aEb];simp only[aAQ,beq_iff_eq,decide_eq_true_eq,G.pN];exact⟨λh=>h,λh=>h⟩
def eq0(v:G.V):UR (vd v) (.tup [.int 0,.int 0,.int 0])=.ok (.bl (decide (v=0))):=by rw[jx];congr 2;rw[aEb];simp only[aAQ,beq_iff_eq,decide_eq_true_eq,G.pN];exact⟨λh=>h,λh=>h⟩
def U6(a:G d ρ=.ok ρ1)(b:F ρ1=.ok (.nx ρ2)):V4 G F (d::ds) ρ=V4 G F ds ρ2:=by rw[V4,a];dsimp only;rw[b]
def wK(a:G d ρ=.ok ρ1)(b:F ρ1=.ok (.rt x)):V4 G F (d::ds) ρ=.ok (.rt x):=by rw[V4,a];dsimp only;rw[b]
theorem kK{α:Type}(rep:α->D)(p:α->Bool)(g:α->D):∀(l:List α),(∀a∈l,∃ρ1,G (rep a) ρ=.ok ρ1/\ft ρ1=.ok (p a)/\(p a=true->fe ρ1=.ok (g a)))->o7 G ft fe ρ (l.map rep)=.ok ((l.filter p).map g)
 |[],_=>rfl
 |a::l,h=>by
  obtain⟨ρ1,e,f,i⟩:=h a (.head _);have j:=kK rep p g l λb k=>h b (.tail _ k);rw[aAk,o7,e];dsimp only;rw[f,R.aa0,j];cases d:p a with
  |false=>rw[h9 (by decide),aFt (by simp[d])]
  |true=>rw[hV rfl,i d,R.aa0,R.aa0,aFs d];rfl
def J6{α:Type}(rep:α->D)(g:α->D)(l:List α)(h:∀a∈l,∃ρ1,G (rep a) ρ=.ok ρ1/\fe ρ1=.ok (g a)):o7 G (λ_=>.ok true) fe ρ (l.map rep)=.ok (l.map g):=by
 have:=kK rep (G:=G) (ft:=λ_=>.ok true) (fe:=fe) (ρ:=ρ) (λ_=>true) g l λa b=>let⟨ρ1,d,e⟩:=h a b;⟨ρ1,d,rfl,λ_=>e⟩
 rw[this,List.filter_eq_self.mpr λ_ _=>rfl]
def small(h:n<=1000):n<=sizeLine:=aAp h (by decide)
def QZ(h:n<=3000):n<=sizeLine:=aAp h (by decide)
def aV.sub(h:aV n J)(b:∀P∈a,P∈J)(d:a.length<=J.length):aV n a:=⟨λP e=>h.1 P (b P e),aAp d h.2⟩
def aV.mono(h:aV m J)(a:m<=n:=by decide):aV n J:=⟨λP b=>(h.1 P b).mono a,h.2⟩
def a4p(t:Int):(sgn t==0)=decide (t=0):=by
 unfold sgn;by_cases h:0<t
 .rw[hV h];simp;lia
 rw[h9 h];by_cases a:t<0
 .rw[hV a];simp;lia
 rw[h9 a];simp;lia
def jZ(a:Sz 10000 n)(b:aV 1000 J):A3 [vH n d,.lst (J.map vd)]=.ok (.lst ((G.o6 n d J).map vd)):=by simp only[A3,v4,UF,oG,BR,gC,v8];exact hV ⟨a,b⟩
def PK(a:J≠[])(b:aV 1000 J):D2 [.lst (J.map vd)]=.ok (.int (G.U8 J)):=by simp only[D2,v8];exact hV ⟨a,b⟩
def DN(ws:List G.V):A8 [.lst (ws.map vd)]=.ok (DV (G.B7 ws)):=by simp only[A8,v8]
def EH(bs:List Bool):cT (bs.map D.bl)=some bs:=by
 induction bs with
 |nil=>rfl
 |cons b bs a=>rw[aAk,cT,a];rfl
def qw(bs:List Bool):anyR [.lst (bs.map D.bl)]=.ok (.bl (bs.any id)):=by simp only[anyR,EH]
def YL(Y:List D):wX (.lst Y) none (some (-1))=.ok (.lst Y.dropLast):=by
 show R.ok (D.lst<|cutD Y none<|some (-1))=_;unfold cutD HT.sIx;rw[aEo];simp;congr 1
 lia
def YT(Y:List D):wX (.lst Y) (some 1) none=.ok (.lst Y.tail):=by
 show R.ok (D.lst<|cutD Y (some 1) none)=_;unfold cutD HT.sIx;cases Y with
 |nil=>rfl
 |cons a l=>simp
def sj(Y:List D):wX (.lst Y) none (some 1)=.ok (.lst (Y.take 1)):=by
 show R.ok (D.lst<|cutD Y none<|some 1)=_;unfold cutD HT.sIx;cases Y with
 |nil=>rfl
 |cons a l=>simp
def ZD(Y:List D)(a b:D):rP (Y++[a,b]) (-1)=some b:=by
 have d:(Y++[a,b]).length=Y.length+2:=by simp
 unfold rP MD;rw[d,h9 (by decide),hV (by lia)];show(Y++[a,b])[((-1:Int)+((Y.length+2:Nat):Int)).toNat]?=_;have:((-1:Int)+((Y.length+2:Nat):Int)).toNat=Y.length+1:=by lia
 rw[this,aAA (by lia),show Y.length+1-Y.length=1 by lia];rfl
def ZN(Y:List D)(a b:D):rP (Y++[a,b]) (-2)=some a:=by
 have d:(Y++[a,b]).length=Y.length+2:=by simp
 unfold rP MD;rw[d,h9 (by decide),hV (by lia)];show(Y++[a,b])[((-2:Int)+((Y.length+2:Nat):Int)).toNat]?=_;have:((-2:Int)+((Y.length+2:Nat):Int)).toNat=Y.length:=by lia
 rw[this,aAA (by lia),Nat.sub_self];rfl
def a0v(a:D)(Y:List D):rP (a::Y) 0=some a:=by rw[Z2 (by decide)];rfl
def a1r(a b:D)(Y:List D):rP (a::b::Y) 1=some b:=by rw[Z2 (by decide)];rfl
def VL{P Q R:G.V}(h:G.aZ (G.j1 P Q R).1):G.cr (Q-P) (R-P)≠0:=λe=>by
 have:(G.j1 P Q R).1=0:=by show G.mF (G.cr (Q-P)<|R-P) _=0;rw[e];rfl
 rw[this]at h;unfold G.aZ at h;exact absurd h (by decide)
theorem yE:∀{c:List G.V}{X:G.V},X∈G.Q1 n P c->X∈c
 |[],X,h=>by simpa[G.Q1]using h
 |[a],X,h=>by simpa[G.Q1]using h
 |b::a::r,X,h=>by
  unfold G.Q1 at h;split at h
  .exact .tail _ (yE h)
  exact h
theorem yI:∀{c:List G.V},(G.Q1 n P c).length<=c.length
 |[]=>aAl _
 |[a]=>aAl _
 |b::a::r=>by
  unfold G.Q1;split
  .exact aAp (yI (c:=a::r)) (by simp)
  exact aAl _
theorem lY(ps:List G.V):∀(b c:List G.V),(∀X∈c,X∈ps)->(∀X∈b,X∈ps)->∀X∈b.foldl (λc P=>P::G.Q1 n P c) c,X∈ps
 |[],c,d,_=>d
 |P::b,c,d,e=>lY ps b _ (λX a=>by
  rcases aAd.mp a with rfl|a
  .exact e _ (.head _)
  exact d X (yE a)) λX a=>e X (.tail _ a)
theorem rN:∀(a c:List G.V),(a.foldl (λc P=>P::G.Q1 n P c) c).length<=a.length+c.length
 |[],c=>by simp
 |P::a,c=>by refine aAp (rN a _) ?_;have:=yI (n:=n) (P:=P) (c:=c);simp;lia
def fC(n:G.V)(ps:List G.V):(G.w8 n ps).length<=ps.length:=by simpa[G.w8]using rN (n:=n) ps []
theorem uM{α β:Type}(f:α->D):∀(Y a:List α),L6 (Y.map f) (a.map f)=(Y.zip a).map λp=>D.tup [f p.1,f p.2]
 |[],_=>by simp[L6]
 |_::_,[]=>by simp[L6]
 |x::Y,y::a=>by have:=uM (β:=β) f Y a;simp only[L6]at this⊢;simp[this]
def ZR(a:Sz 10000 n)(b:aV 1000 J):V3 [vd n,.lst (J.map vd)]=.ok (.lst ((G.w8 n J).reverse.map vd)):=by simp only[V3,v1,UF,oG,BR,gC,v8];exact hV ⟨a,b⟩
def GW{n P Q R:G.V}(h:Sz 10000 n)(a:Sz 1000 P)(b:Sz 1000 Q)(d:Sz 1000 R):eZ [vd n,vd P,vd Q,vd R]=.ok (.int (G.turn n P Q R)):=hV ⟨h,a,b,d⟩
def N8(a:Sz 1000 A)(b:Sz 1000 B)(d:aV 1000 J)(e:G.aZ (G.b7 A B J).1):G4 [.tup [vd A,vd B],.lst (J.map vd)]=.ok (vH (G.b7 A B J).1 (G.b7 A B J).2):=by simp only[G4,v1,UF,oG,BR,gC,v8];exact hV ⟨a,b,d,e⟩
def HN(a:Sz 10000 n)(b:aV 1000 J):K5 [vd n,.lst (J.map vd)]=.ok (.lst ((G.j0 n J).map vd)):=by simp only[K5,v1,UF,oG,BR,gC,v8];exact hV ⟨a,b⟩
def NL(h:J.length<=3000):C5 [.lst (J.map vd)]=.ok (.lst ((G.u8 J).map K4)):=by simp only[C5,v8];exact hV h
def HM(h:a.length+b.length<=sizeLine):lR (.lst a) (.lst b)=.ok (.lst (a++b)):=hV h
def NE(a b:G.V):HT.lexLt (flat (vd a)) (flat (vd b))=true↔G.d9 (b-a):=by
 show HT.lexLt [a.x,a.y,a.z] [b.x,b.y,b.z]=true↔_;unfold G.d9;simp only[HT.lexLt,G.NG,G.QV,G.RZ];by_cases d:a.x=b.x
 .by_cases e:a.y=b.y
  .by_cases f:a.z=b.z
   .simp[d,e,f]
   simp[d,e,f];try lia
  simp[d,e];try lia
 simp[d];try lia
def DC{J:List G.V}(h:J.Pairwise λa b=>G.d9 (b-a)):UT (J.map vd):=aBt.mpr (h.imp λ{a b} q=>(NE a b).mpr q)
def cj{J:List G.V}(h:UT (J.map vd)):J.Pairwise λa b=>G.d9 (b-a):=(aBt.mp h).imp λ{a b} q=>(NE a b).mp q
def PX(J:List G.V):(J.map vd).all cK=true:=aCj.mpr λd a=>by obtain⟨v,_,rfl⟩:=aAj.mp a;rfl
def jz[Tabs]{m:G.V}{J:List G.V}(h:(m::J).Pairwise λa b=>G.d9 (b-a)):TW [.lst ((m::J).map vd)]=.ok (vd m):=by show(if(m::J).map vd≠[]/\((m::J).map vd).all cK=true then _ else _)=_;rw[hV ⟨by simp,PX _⟩,YO (DC h) _ (by simp)];rfl
def KS{k:Nat}{P Q R:G.V}(p:Sz k P)(q:Sz k Q)(r:Sz k R):Sz (k+1+(k+1)+1) (G.j1 P Q R).1:=by
 have a:=(q.sub p).cr (r.sub p);by_cases d:G.cr (Q-P) (R-P)=0
 .have:(G.j1 P Q R).1=0:=by show G.mF (G.cr (Q-P)<|R-P) _=0;rw[d];rfl
  rw[this];exact⟨aAY _,aAY _,aAY _⟩
 obtain⟨h,i,j⟩:=G.lV d;have e:=bits_fdiv (b:=(G.z8 (G.cr (Q-P)<|R-P):Int)) a.1;have f:=bits_fdiv (b:=(G.z8 (G.cr (Q-P)<|R-P):Int)) a.2.1;have g:=bits_fdiv (b:=(G.z8 (G.cr (Q-P)<|R-P):Int)) a.2.2;rw[pC h]at e f g;exact⟨e,f,g⟩
def yN{P Q R:G.V}(p:Sz 1000 P)(q:Sz 1000 Q)(r:Sz 1000 R):Sz 2003 (G.j1 P Q R).1:=KS p q r
def BL{A B:G.V}{J:List G.V}(p:Sz 1000 A)(q:Sz 1000 B)(r:aV 1000 J):Sz 2003 (G.b7 A B J).1:=by
 unfold G.b7;rcases G.kW (a:=B-A) (A:=A) J 0 A with h|h
 .exact yN p q (r.1 _ h)
 rw[h];exact yN p q p
def a0l(m:G.V):vd (m+G.kk)=.tup [.int m.x,.int m.y,.int (m.z+1)]:=by simp[G.kk]
def TX(h:Sz 900 m):Sz 1000 (m+G.kk):=(h.add (v:=G.kk) ⟨by decide,by decide,by decide⟩).mono
def RD(h:aV k J):aV k (G.o6 n d J):=h.sub (λP a=>(G.c5.mp a).1) (aFO _ _)
def NP{α:Type}{l:List α}{a b:α}(d:a∈l)(e:b∈l)(h:a≠b):∃x y r,l=x::y::r:=by
 match l,d,e with
 |[x],d,e=>exact absurd ((aAK.mp d).trans (aAK.mp e).symm) h
 |x::y::r,_,_=>exact⟨x,y,r,rfl⟩
open Classical in
def PY{N:List (D×D)}{k v a:D}:a∈(fR N k v).map (·.1)↔a∈N.map (·.1)\/a=k:=by
 unfold fR;split
 .rename_i h;rw[aBd];have:((λx=>x.1)∘λp:D×D=>if p.1=k then(p.1,v)else p)=λp=>p.1:=by funext p;simp only[aGo];split<;>rfl
  rw[this];exact⟨.inl,λq=>q.elim id λe=>by rw[e];exact h⟩
 rw[aBi,aAD];simp
def QM{N:List (D×D)}{k v:D}:(fR N k v).length<=N.length+1:=by
 unfold fR;split
 .simp
 simp
def VN{p q:G.V×G.V}(h:K4 p=K4 q):p=q:=by injection h with h;injection h with b a;injection a with a _;exact aEw (EQ b) (EQ a)
def EI(p:G.V×G.V):U0 7 (K4 p)=true/\LR (K4 p)=true:=⟨rfl,rfl⟩
def ffC:Ev->R Bool:=λρ=>((((AZ 5 ρ).bind λd=>R.ok [d]).bind IT).bind λx=>aj x (D.int 0)).bind BS
def ffS:Ev->R Out:=λρ=>
 D1 ((eG 9 ρ).bind λa=>AJ 4 ρ a (D.bl true)) λρ=>((((AZ 9 ρ).bind λx=>bJ x (D.int 1)).bind λd=>(((AZ 9 ρ).bind λx=>bJ x (D.int 0)).bind λd=>R.ok [d]).bind λb=>R.ok (d::b)).bind nK).bind (BH 5 ρ)
theorem HZ{a0 a1 a2 a3 a6 a7 a8:Sl}:∀(a:List (G.V×G.V)) (N:List (D×D)) (W:List (G.V×G.V)) (g:Sl),N.length+a.length<=10000->W.length+a.length<=10000->
  ∃f b,V4 (λd ρ=>R.ok (aDE ρ 9 (Sl.v d))) ffS (a.map K4) [a0,a1,a2,a3,.d N,.o (W.map K4),a6,a7,a8,g]=.ok (.nx [a0,a1,a2,a3,.d f,.o ((W++a.map λq=>(q.2,q.1)).map K4),a6,a7,a8,b])/\
   (∀e:G.V×G.V,K4 e∈f.map (·.1)↔K4 e∈N.map (·.1)\/e∈a)/\f.length<=N.length+a.length
 |[],N,W,g,_,_=>⟨N,g,by simp,λe=>by simp,by simp⟩
 |q::a,N,W,g,i,j=>by
  simp only[aAq]at i j;have u:=QM (N:=N) (k:=K4 q) (v:=.bl true);obtain⟨f,b,e,m,l⟩:=HZ a (fR N (K4 q)<|.bl true) (W++[(q.2,q.1)]) (.v (K4 q)) (by lia) (by simp;lia);refine⟨f,b,?_,λx=>?_,by simp;lia⟩
  .rw[aAk];refine(U6 (ρ2:=[a0,a1,a2,a3,.d (fR N (K4 q)<|.bl true),.o ((W++[(q.2,q.1)]).map K4),a6,a7,a8,.v (K4 q)]) rfl ?_).trans ?_
   .have n:N.length<=sizeLine:=aAp (show N.length<=10000 by lia) (by decide);have p:(W.map K4).length<sizeLine:=by rw[aAh];exact aCv (show W.length<=10000 by lia) (by decide)
    have r:AJ 4 [a0,a1,a2,a3,.d N,.o (W.map K4),a6,a7,a8,.v (K4 q)] (K4 q) (.bl true)=.ok (.nx [a0,a1,a2,a3,.d (fR N (K4 q)<|.bl true),.o (W.map K4),a6,a7,a8,.v (K4 q)]):=by show(if _ then _ else _)=_;rw[hV ⟨(EI q).1,(EI q).2,n⟩];rfl
    have s:BH 5 [a0,a1,a2,a3,.d (fR N (K4 q)<|.bl true),.o (W.map K4),a6,a7,a8,.v (K4 q)] (K4 (q.2,q.1))=.ok (.nx [a0,a1,a2,a3,.d (fR N (K4 q)<|.bl true),.o ((W++[(q.2,q.1)]).map K4),a6,a7,a8,.v (K4 q)]):=by show(if _ then _ else _)=_;rw[hV p,aBi];rfl
    show D1 ((R.ok<|K4 q).bind λt=>AJ 4 [a0,a1,a2,a3,.d N,.o (W.map K4),a6,a7,a8,.v (K4 q)] t (D.bl true)) _=_;rw[R.aa0,r];exact s
   rw[e];simp
  rw[m x,PY,aAd];constructor
  .rintro((h|h)|h)
   .exact .inl h
   .exact .inr (.inl (VN h))
   exact .inr (.inr h)
  rintro(h|h|h)
  .exact .inl (.inl h)
  .exact .inl (.inr (by rw[h]))
  exact .inr h
section
variable(Φ:(List D->R D)->Hp->(bc->Prop)->bc->Prop)
def ffB:Ev->R Out:=λρ=>
 D1 ((CJ 5 ρ).bind λz=>R.ok (Out.nx<|aDE z.snd 6<|Sl.v z.fst)) λρ=>
  ((eG 6 ρ).bind (rC 4 ρ)).bind λt=>
   if t=true then
    D1
     ((((eG 6 ρ).bind λd=>((callC Φ 1 (l9 (λρ=>(AZ 6 ρ).bind λx=>bJ x (D.int 0)) S7) ρ).bind λd=>R.ok [d]).bind λa=>R.ok (d::a)).bind G4).bind λd=>R.ok (Out.nx<|aDE ρ 7<|Sl.v d))
     λρ=>
     D1
      (((((AZ 7 ρ).bind λx=>wX x none (some 3)).bind λd=>((callC Φ 2 (l9 (eG 7) S7) ρ).bind λd=>R.ok [d]).bind λa=>R.ok (d::a)).bind K5).bind λd=>R.ok (Out.nx<|aDE ρ 8<|Sl.v d))
      λρ=>
      D1 ((((eG 7 ρ).bind λd=>((eG 8 ρ).bind λd=>R.ok [d]).bind λa=>R.ok (d::a)).bind nK).bind (BH 3 ρ))
       λρ=>((((eG 8 ρ).bind λd=>R.ok [d]).bind C5).bind iQ).bind λa=>V4 (λd ρ=>R.ok (aDE ρ 9<|Sl.v d)) ffS a ρ
   else R.ok (Out.nx ρ)
def AW(L:D) (e:G.V×G.V) (fs:List D) (N:List (D×D)) (W:List (G.V×G.V)) (a b c d:Sl):Ev:=
 [Sl.v (K4 e),Sl.c (K8 [L]) (Φ<|K8 [L]),Sl.c (E8 [L]) (Φ<|E8 [L]),.o fs,.d N,.o (W.map K4),a,b,c,d]
end
def zH{Φ:(List D->R D)->Hp->(bc->Prop)->bc->Prop}{i:Nat}{f:Ev->R (List D)}{ρ:Ev}{m:List D->R D}{ds:List D}(h:ρ[i]?=some (.c m (Φ m)))(a:f ρ=.ok ds):callC Φ i f ρ=m ds:=by unfold callC;rw[h];dsimp only;rw[hV rfl,a];rfl
def iH(J:List G.V)(fs:List (G.V×Int)):Nat:=(fs.map λf=>(G.c8 J f).length).sum
def fK(J:List G.V)(fs:List (G.V×Int))(f:G.V×Int):iH J (fs++[f])=iH J fs+(G.c8 J f).length:=by simp[iH]
def TQ{J:List G.V}{m:G.V}(h:Land J m):Sz 1000 (G.f7 m J).1/\Sz 1000 (G.f7 m J).2:=by
 have a:Sz 900 m:=h.sz.1 m h.good.mem;obtain⟨j,e,f,g,i⟩:=G.yF h.good.solid h.good.mem h.good.least;unfold G.f7;dsimp only;split
 .exact⟨a.mono,TX a⟩
 obtain⟨x,y,r,b⟩:=NP e g i;rw[b];have q:∀z∈x::y::r,Sz 1000 z:=λz d=>by rw[<-b]at d;exact(h.sz.1 z (G.c5.mp d).1).mono
 exact⟨q x (.head _),q y (.tail _ (.head _))⟩
def XX{J:List G.V}{m:G.V}(h:Land J m){fs:List (G.V×Int)}{b:G.V×G.V->Prop}{W:List (G.V×G.V)}(L:G.LInv J (G.f7 m J) fs b W){p:G.V×G.V}(d:p∈W):Sz 1000 p.1/\Sz 1000 p.2:=by
 rcases L.wt p d with⟨f,g,i⟩|⟨_,e⟩
 .have S:=(L.face f g).aa2 h.good.ord;have a:=S.aa1.mp i;exact⟨(h.sz.1 _ (G.c5.mp a.q).1).mono,(h.sz.1 _ (G.c5.mp a.p).1).mono⟩
 rw[e];exact TQ h
def RY{J:List G.V}{m:G.V}(h:Land J m){f:G.V×Int}(a:G.IsFace J f.1 f.2):(G.c8 J f).length<=J.length:=by have S:=a.aa2 h.good.ord;exact G.B9 S.aa3 λx b=>(G.c5.mp<|S.aa4 b).1
def AO{J:List G.V}{f g:G.V×Int}(h:T8 (j6 J f)=T8 (j6 J g)):f=g:=by have h:[f.1.x,f.1.y,f.1.z,f.2]=[g.1.x,g.1.y,g.1.z,g.2]:=h;simp only[aFX,and_true]at h;exact aEw (G.ext h.1 h.2.1 h.2.2.1) h.2.2.2
def rV{α β:Type}{f:α->β}(d:∀a b,f a=f b->a=b){l:List α}(h:l.Nodup):(l.map f).Nodup:=aBt.mpr (h.imp λ{a b} n e=>n (d a b e))
def XM{Φ:(List D->R D)->Hp->(bc->Prop)->bc->Prop}{J:List G.V}{m:G.V}(hz:Land J m){fs:List (G.V×Int)}{N:List (D×D)}{W:List (G.V×G.V)}{a b c d:Sl}(L:G.LInv J (G.f7 m J) fs (λe=>K4 e∈N.map (·.1)) W)
  (hk:N.length<=iH J fs) (hW:W.length<=1+iH J fs) {n:Nat} (hn:W.length+(J.length*J.length-iH J fs)<n+1) (Y:W≠[]):
  ∃k l W' a' b' c' d',ffB Φ (AW Φ (.lst (J.map vd)) (G.f7 m J) (fs.map (j6 J)) N W a b c d)=.ok (.nx (AW Φ (.lst (J.map vd)) (G.f7 m J) (k.map (j6 J)) l W' a' b' c' d'))/\
   G.LInv J (G.f7 m J) k (λe=>K4 e∈l.map (·.1)) W'/\l.length<=iH J k/\W'.length<=1+iH J k/\W'.length+(J.length*J.length-iH J k)<n:=by
 obtain⟨rest,p,rfl⟩:∃rest p,W=rest++[p]:=⟨W.dropLast,W.getLast Y,(aEz Y).symm⟩;have r:=G.uP hz.good.solid hz.good.ord L.nd L.face;have few:=hz.few;have nn:J.length*J.length<=63*63:=aFg few few;have hsum:iH J fs+J.length<=J.length*J.length:=r;have C:(rest++[p]).length=rest.length+1:=by simp
 rw[C]at hW hn;have E:CJ 5 (AW Φ (.lst (J.map vd)) (G.f7 m J) (fs.map<|j6 J) N (rest++[p]) a b c d)=.ok (K4 p,AW Φ (.lst (J.map vd)) (G.f7 m J) (fs.map<|j6 J) N rest a b c d):=by show(match((rest++[p]).map K4)[((rest++[p]).map K4).length-1]? with|some d=>_|none=>_:R (D×Ev))=_;rw[aBi];simp;rfl
 have H:rC 4 (AW Φ (.lst (J.map vd)) (G.f7 m J) (fs.map<|j6 J) N rest (.v (K4 p)) b c d) (K4 p)=.ok (!(open Classical in decide (K4 p∈N.map (·.1)))):=by unfold rC;rw[show(AW Φ (.lst (J.map vd)) (G.f7 m J) (fs.map<|j6 J) N rest (.v (K4 p)) b c d)[4]?=some (.d N)from rfl];dsimp only;rw[hV (EI p)]
 have A:aV 1000 J:=hz.sz.mono;unfold ffB;rw[E];show∃k l W' a' b' c' d',D1 (R.ok<|Out.nx<|AW Φ (.lst (J.map vd)) (G.f7 m J) (fs.map<|j6 J) N rest (.v (K4 p)) b c d) _=_/\_;rw[D4];rw[show eG 6 (AW Φ (.lst (J.map vd)) (G.f7 m J) (fs.map<|j6 J) N rest (.v (K4 p)) b c d)=.ok (K4 p)from rfl,R.aa0,H,R.aa0];by_cases s:K4 p∈N.map (·.1)
 .refine⟨fs,N,rest,.v (K4 p),b,c,d,?_,G.SK hz.good L rfl s,hk,by lia,by lia⟩;rw[decide_eq_true s];rfl
 have t:p∈rest++[p]:=by simp
 obtain⟨B,n2,n3⟩:=G.AI hz.good L t s;obtain⟨u,w⟩:=XX hz L t;have ab:=N8 u w A B.prim;have i:=BL u w A;obtain⟨f,ef⟩:∃f,G.b7 p.1 p.2 J=f:=⟨_,rfl⟩;rw[ef]at B n2 n3 ab i;have po:=jZ (d:=f.2) i.mono A;have I:=HN (n:=f.1) (J:=G.o6 f.1 f.2 J) i.mono (RD A);have rl:=RY hz B;have I:K5 [vd f.1,.lst ((G.o6 f.1 f.2 J).map vd)]=.ok (.lst ((G.c8 J f).map vd)):=I;have pr:=NL (J:=G.c8 J f) (by lia);have O:=λ{wk'}{W'} h1 h2=>G.NY hz.good L (rest:=rest) (p:=p) rfl s (walked':=wk') (waiting':=W') h1 h2;rw[ef]at O;have Q:(fs++[f]).Nodup:=by
  have:=(O (wk':=λe=>K4 e∈N.map (·.1)\/e∈G.u8 (G.c8 J f)) (W':=rest++(G.u8<|G.c8 J f).map λq=>(q.2,q.1)) (λe=>Iff.rfl) (λq=>by
   rw[aAD,aAj];constructor
   .rintro(h|⟨x,T,rfl⟩)
    .exact .inl h
    exact .inr T
   rintro(h|h)
   .exact .inl h
   exact .inr ⟨_,h,rfl⟩))
  exact this.nd
 have j:iH J (fs++[f])+J.length<=J.length*J.length:=G.uP hz.good.solid hz.good.ord Q λg hg=>by
  rcases aAD.mp hg with z|z
  .exact L.face g z
  rw[aAK.mp z];exact B
 rw[fK]at j;have clen:(G.u8<|G.c8 J f).length=(G.c8 J f).length:=by unfold G.u8;simp;lia
 obtain⟨l,U,run,y,len'⟩:=HZ (a0:=Sl.v (K4<|G.f7 m J)) (a1:=Sl.c (K8 [.lst (J.map vd)]) (Φ<|K8 [.lst (J.map vd)])) (a2:=Sl.c (E8 [.lst (J.map vd)]) (Φ<|E8 [.lst (J.map vd)])) (a3:=.o ((fs++[f]).map (j6 J))) (a6:=.v (K4 p)) (a7:=.v (vH f.1 f.2)) (a8:=.v (.lst ((G.c8 J f).map vd))) (G.u8<|G.c8 J f) N rest d (by lia) (by lia);refine⟨fs++[f],l,rest++(G.u8<|G.c8 J f).map (λq=>(q.2,q.1)),.v (K4 p),.v (vH f.1 f.2),.v (.lst ((G.c8 J f).map vd)),U,?_,O y (λq=>?_),?_,?_,?_⟩
 .have ap:BH 3 (AW Φ (.lst (J.map vd)) (G.f7 m J) (fs.map<|j6 J) N rest (.v (K4 p)) (.v (vH f.1 f.2)) (.v (.lst ((G.c8 J f).map vd))) d) (j6 J f)=.ok (.nx (AW Φ (.lst (J.map vd)) (G.f7 m J) ((fs++[f]).map (j6 J)) N rest (.v (K4 p)) (.v (vH f.1 f.2)) (.v (.lst ((G.c8 J f).map vd))) d)):=by show(if(fs.map<|j6 J).length<sizeLine then _ else _)=_;have h3:=G.mS hz.good.solid hz.good.ord L.face;have h3:3*fs.length<=iH J fs:=h3;rw[hV (by rw[aAh];exact aCv (show fs.length<=4000 by lia) (by decide)),aBi];rfl
  have ca:callC Φ 1 (l9 (λρ=>(AZ 6 ρ).bind λx=>bJ x (D.int 0)) S7) (AW Φ (.lst (J.map vd)) (G.f7 m J) (fs.map<|j6 J) N rest (.v (K4 p)) b c d)=.ok (.lst (J.map vd)):=by exact(zH (m:=K8 [.lst (J.map vd)]) (ds:=[vd p.1]) rfl rfl).trans rfl
  have ct:callC Φ 2 (l9 (eG 7) S7) (AW Φ (.lst (J.map vd)) (G.f7 m J) (fs.map<|j6 J) N rest (.v (K4 p)) (.v (vH f.1 f.2)) c d)=.ok (.lst ((G.o6 f.1 f.2 J).map vd)):=by exact(zH (m:=E8 [.lst (J.map vd)]) (ds:=[vH f.1 f.2]) rfl rfl).trans po
  have sl:wX (vH f.1 f.2) none (some 3)=.ok (vd f.1):=rfl;rw[decide_eq_false s];simp only[Bool.not_false,if_true];rw[ca,R.aa0,R.aa0,R.aa0,R.aa0,ab,R.aa0];show D1 (R.ok<|Out.nx<|AW Φ (.lst (J.map vd)) (G.f7 m J) (fs.map<|j6 J) N rest (.v (K4 p)) (.v (vH f.1 f.2)) c d) _=_;rw[D4];rw[ct];show D1 ((((R.ok<|vH f.1 f.2).bind λx=>wX x none (some 3)).bind λd=>(R.ok [D.lst ((G.o6 f.1 f.2 J).map vd)]).bind λds=>R.ok (d::ds)).bind K5|>.bind λd=>R.ok (Out.nx<|aDE _ 8<|Sl.v d)) _=_;rw[R.aa0,sl,R.aa0,R.aa0,R.aa0,I,R.aa0];show D1 (R.ok<|Out.nx<|AW Φ (.lst (J.map vd)) (G.f7 m J) (fs.map<|j6 J) N rest (.v (K4 p)) (.v (vH f.1 f.2)) (.v (.lst ((G.c8 J f).map vd))) d) _=_;rw[D4];show D1 (BH 3 (AW Φ (.lst (J.map vd)) (G.f7 m J) (fs.map<|j6 J) N rest (.v (K4 p)) (.v (vH f.1 f.2)) (.v (.lst ((G.c8 J f).map vd))) d)<|j6 J f) _=_;rw[ap,D4];show((C5 [.lst ((G.c8 J f).map vd)]).bind iQ).bind _=_;rw[pr,R.aa0];exact run
 .rw[aAD,aAj];constructor
  .rintro(h|⟨x,T,rfl⟩)
   .exact .inl h
   exact .inr T
  rintro(h|h)
  .exact .inl h
  exact .inr ⟨_,h,rfl⟩
 .rw[fK];lia
 .rw[fK,aAz,aAh];lia
 rw[fK,aAz,aAh];lia
def VG(J:List G.V)(f:G.V×Int):List (G.V×Int)->List (G.V×Int)
 |[]=>[f]
 |x::Y=>if HT.lexLt (T8 (j6 J f)) (T8 (j6 J x))=true then f::x::Y else x::VG J f Y
def IP(J:List G.V)(fs:List (G.V×Int)):List (G.V×Int):=fs.foldr (VG J) []
theorem zR(J:List G.V)(f:G.V×Int):∀Y:List (G.V×Int),vV T8 (j6 J f) (Y.map (j6 J))=(VG J f Y).map (j6 J)
 |[]=>rfl
 |x::Y=>by
  unfold VG;rw[aAk,vV];split
  .rfl
  rw[aAk,zR J f Y]
theorem fD(J:List G.V):∀fs:List (G.V×Int),rQ T8 (fs.map (j6 J))=(IP J fs).map (j6 J)
 |[]=>rfl
 |f::fs=>by show vV T8 (j6 J f) (rQ T8 (fs.map (j6 J)))=_;rw[fD J fs,zR];rfl
def kU(h:j6 J f=j6 J g):f=g:=AO (by rw[h])
theorem gA:∀{a b:List (G.V×Int)},a.map (j6 J)=b.map (j6 J)->a=b
 |[],[],_=>rfl
 |[],_::_,h=>by cases h
 |_::_,[],h=>by cases h
 |x::a,y::b,h=>by rw[aAk,aAk]at h;injection h with d e;rw[kU d,gA e]
def KW:f∈IP J fs↔f∈fs:=by
 have h:=(X0 T8<|fs.map<|j6 J).mem_iff (a:=j6 J f);rw[fD]at h;constructor
 .intro q;obtain⟨g,b,e⟩:=aAj.mp (h.mp<|aAI q);rw[<-kU e];exact b
 intro q;obtain⟨g,b,e⟩:=aAj.mp (h.mpr<|aAI q);rw[<-kU e];exact b
def tE[Tabs]{J:List G.V}{fs:List (G.V×Int)}(h:fs.Nodup):((fs.map (j6 J)).map T8).Nodup:=by rw[aBd];exact rV (λa b e=>AO (J:=J) e) h
def W9(h:wU k l):l.Nodup:=h.imp λ{a b} q e=>by subst e;rw[TS.lex_irrefl]at q;cases q
def P1{J:List G.V}{fs:List (G.V×Int)}(h:(fs.map (j6 J)).Nodup):fs.Nodup:=(aBt.mp h).imp λ{a b} n e=>n (by rw[e])
def AL{J:List G.V}{fs a:List (G.V×Int)}(b:eF J fs)(d:eF J a):fs=a:=by
 have e:=P1 (W9 b.2);have g:=P1 (W9 d.2);have p:fs.Perm a:=(aBQ e g).mpr λf=>by rw[b.1,d.1]
 exact gA (lJ b.2 d.2 (p.map _))
def rF(h:eF J fs):j4 J=fs:=by unfold j4;have q:∃fs,eF J fs:=⟨fs,h⟩;rw[dif_pos q];exact AL q.choose_spec h
def sZ[Tabs]{J:List G.V}{fs:List (G.V×Int)}(a:fs.Nodup)(h:∀n d,(n,d)∈fs↔G.IsFace J n d):eF J (IP J fs):=by refine⟨λf=>by rw[KW];exact h f.1 f.2,?_⟩;rw[<-fD];exact lG (tE a)
def a2e[Tabs]{Φ:(List D->R D)->Hp->(bc->Prop)->bc->Prop}{J:List G.V}{m:G.V}(hz:Land J m)(r:J.length<=23):
  N9 (D1 (T5 ffC (ffB Φ) 5000 (AW Φ (.lst (J.map vd)) (G.f7 m J) [] [] [G.f7 m J] .no .no .no .no)) λρ=>(((AZ 3 ρ).bind sfR).bind λds=>R.ok (D.lst ds)).bind λd=>R.ok (Out.rt d))=.ok (.lst ((j4 J).map (j6 J))):=by
 refine LK (Iv:=λn ρ=>∃fs N W a b c d,ρ=AW Φ (.lst (J.map vd)) (G.f7 m J) (fs.map<|j6 J) N W a b c d/\G.LInv J (G.f7 m J) fs (λe=>K4 e∈N.map (·.1)) W/\N.length<=iH J fs/\W.length<=1+iH J fs/\W.length+(J.length*J.length-iH J fs)<n) ?_ ?_ ?_ (by rintro ρ ⟨_,_,_,_,_,_,_,_,_,_,_,h⟩;lia)
 .rintro n ρ ⟨fs,N,W,a,b,c,d,rfl,L,s,t,u⟩;by_cases i:W=[]
  .subst i;exact .inl rfl
  refine .inr ⟨?_,?_⟩
  .have v:(0:Int)<((W.map K4).length:Int):=by have:=aEK.mpr i;rw[aAh];lia
   show(R.ok<|D.bl<|decide ((0:Int)<((W.map K4).length:Int))).bind BS=_;rw[decide_eq_true v];rfl
  obtain⟨w,x,y,A,B,C,E,e,H,I,k,l⟩:=XM (Φ:=Φ) (a:=a) (b:=b) (c:=c) (d:=d) hz L s t u i;exact⟨_,e,w,x,y,A,B,C,E,rfl,H,I,k,l⟩
 .refine⟨[],[],[G.f7 m J],.no,.no,.no,.no,rfl,?_,aAl _,aAl _,?_⟩
  .have:=G.BV hz.good;refine⟨this.face,this.nd,λe=>?_,this.cl,this.wt,this.ne⟩;rw[<-this.wk e];simp
  have nn:J.length*J.length<=23*23:=aFg r r;show 1+(J.length*J.length-0)<5000
  lia
 rintro n ρ ⟨fs,N,W,a,b,c,d,rfl,L,s,t,u⟩ j;have o:W=[]:=by
  cases W with
  |nil=>rfl
  |cons p W=>have j:(R.ok<|D.bl<|decide ((0:Int)<(((p::W).map K4).length:Int))).bind BS=.ok false:=j;rw[decide_eq_true (by simp;try lia)]at j;cases j
 subst o;obtain⟨i,q⟩:=G.TZ hz.good L;have O:=sZ L.nd q;rw[rF O];have g:fs≠[]:=λz=>by have Q:=G.W6 hz.good.solid hz.good.ord hz.good.mem hz.good.least;have:=(q _ _).mpr Q;rw[z]at this;cases this
 have few:=(G.gS hz.good.solid hz.good.ord (λf=>q f.1 f.2) L.nd g).1;have T:(fs.map<|j6 J).length<=63:=by rw[aAh];lia
 have U:sfR (.lst (fs.map<|j6 J))=.ok ((IP J fs).map (j6 J)):=by show(if _ then _ else _)=_;rw[hV ⟨aCj.mpr λd Y=>by obtain⟨f,_,rfl⟩:=aAj.mp Y;rfl,tE L.nd,T⟩,fD]
 show N9 ((((R.ok<|D.lst<|fs.map<|j6 J).bind sfR).bind λds=>R.ok (D.lst ds)).bind λd=>R.ok (Out.rt d))=_;rw[R.aa0,U];rfl
theorem HA:∀{ds:List D},(∀d∈ds,∃v,d=vd v)->(ds.filterMap yH).map vd=ds
 |[],_=>rfl
 |d::ds,h=>by obtain⟨v,rfl⟩:=h d (.head _);rw[List.filterMap_cons_some (FP v),aAk,HA λd a=>h d (.tail _ a)]
section
variable [Tabs]
def OQ(J:List G.V):∀d∈J.map vd,cK d=true:=λd a=>by obtain⟨v,_,rfl⟩:=aAj.mp a;rfl
def bX(J:List G.V):cJ (J.map vd)=(i4 J).map vd:=by unfold i4;refine(HA λd a=>?_).symm;obtain⟨v,_,rfl⟩:=aAj.mp ((Q8 (OQ J) d).mp a);exact⟨v,rfl⟩
def A9(J:List G.V):(i4 J).Pairwise λa b=>G.d9 (b-a):=cj (by rw[<-bX];exact fA _)
def RL{v:G.V}{J:List G.V}:vd v∈J.map vd↔v∈J:=by rw[aAj];exact⟨by rintro⟨u,a,e⟩;rw[<-EQ e];exact a,λh=>⟨v,h,rfl⟩⟩
def l3{J:List G.V}{v:G.V}:v∈i4 J↔v∈J:=by rw[<-RL,<-bX,Q8 (OQ J),RL]
def jJ(J:List G.V):(i4 J).Nodup:=(A9 J).imp λ{a b} h e=>by subst e;exact G.E9 h
def mQ{a b:List G.V}(g:a.Pairwise λa b=>G.d9 (b-a))(i:b.Pairwise λa b=>G.d9 (b-a))(h:∀v,v∈a↔v∈b):a=b:=by refine YN (rA (DC g) (DC i) λd=>?_);rw[aAj,aAj];exact⟨λ⟨v,f,e⟩=>⟨v,(h v).mp f,e⟩,λ⟨v,f,e⟩=>⟨v,(h v).mpr f,e⟩⟩
def MX(h:(i4 J).length<=63):ssR (.lst (J.map vd))=.ok ((i4 J).map vd):=by show(if _ then _ else _)=_;rw[hV ⟨PX J,by rw[bX,aAh];exact h⟩,bX]
def fL(h:G.i9 a)(d:∀v,v∈a->v∈b):G.i9 b:=by obtain⟨A,f,B,g,C,i,D,j,e⟩:=h;exact⟨A,d A f,B,d B g,C,d C i,D,d D j,e⟩
def gz(h:G.i9 J):G.U8 J=3:=by
 by_cases e:G.U8 J=3
 .exact e
 exact absurd h (G.QI e)
def qX(J:List G.V):(i4 J).length<=J.length:=G.B9 (jJ J) λv a=>l3.mp a
def cA(f:aV 900 J)(g:G.i9 J)(d:(i4 J).length<=63):∃m r,i4 J=m::r/\Land (m::r) m:=by
 have a:G.i9 (i4 J):=fL g λv i=>l3.mpr i;cases e:i4 J with
 |nil=>rw[e]at a;obtain⟨A,j,_⟩:=a;cases j
 |cons m r=>
  refine⟨m,r,rfl,?_⟩;have b:=A9 J;rw[e]at a d b;refine⟨⟨a,b,.head _,λX k=>?_⟩,⟨λP l=>f.1 P (l3.mp (by rw[e];exact l)),by lia⟩,d,rfl⟩;rcases aAd.mp k with h|h
  .exact .inl h
  exact .inr ((aAy.mp b).1 X h)
def UV(a:aV 1000 J)(b:G.i9 J):G1 [.lst (J.map vd)]=.ok .non:=by simp only[G1,v8];exact hV ⟨a,gz b⟩
def a0y(h:Land (m::J) m):J9 [.lst ((m::J).map vd)]=.ok (K4 (G.f7 m (m::J))):=by simp only[J9,v8];exact hV h
def gw(h:Land (m::J) m)(a:(m::J).length<=23):J8 (K4 (G.f7 m (m::J))) (K8 [.lst ((m::J).map vd)]) (E8 [.lst ((m::J).map vd)])=.ok (.lst ((j4 (m::J)).map (j6 (m::J)))):=by simp only[J8,show K8 [.lst ((m::J).map vd)] [.non]=.ok (.lst ((m::J).map vd))from rfl,v8];exact hV ⟨h,a,rfl,rfl,rfl⟩
def zV(a:aV 900 J)(b:G.i9 J)(d:(i4 J).length<=23):Q3 [.lst (J.map vd)]=.ok (.lst ((j4 (i4 J)).map (j6 (i4 J)))):=by simp only[Q3,v8];exact hV ⟨a,b,d⟩
def WU(a:aV 900 J)(b:G.i9 J)(d:(i4 J).length<=23):V8 [.lst (J.map vd)]=.ok (.lst ((B0 J).map vd)):=by simp only[V8,v8];exact hV ⟨a,b,d⟩
omit [Tabs]in
theorem a2l{α:Type}:∀l:List α,∃b:List α,b.Nodup/\∀x,x∈b↔x∈l
 |[]=>⟨[],aCX,λ_=>Iff.rfl⟩
 |a::l=>by
  obtain⟨b,d,h⟩:=a2l l;by_cases f:a∈l
  .exact⟨b,d,λx=>by rw[h,aAd];exact⟨.inr,λq=>q.elim (λe=>by rw[e];exact f) id⟩⟩
  exact⟨a::b,aAH.mpr ⟨λz=>f ((h a).mp z),d⟩,λx=>by rw[aAd,aAd,h]⟩
def M4(h:Land J m)(o:J.length<=23):eF J (j4 J):=by
 classical
 obtain⟨fs,g,a⟩:=a2l ((G.cands J).filter λf=>decide (G.IsFace J f.1 f.2));have i:∀n d,(n,d)∈fs↔G.IsFace J n d:=λn d=>by
  rw[a,aAX];constructor
  .intro q;exact of_decide_eq_true q.2
  intro q;refine⟨?_,decide_eq_true q⟩;obtain⟨A,j,B,k,C,l,_,e⟩:=G.uY q;unfold G.cands;rw[<-e];exact aAV.mpr ⟨A,j,aAV.mpr ⟨B,k,aAj.mpr ⟨C,l,rfl⟩⟩⟩
 have b:=sZ g i;rw[rF b];exact b
theorem mW:∀(Y:List D) (b:List (List G.V)) (B:List G.V) (x y:Sl),tK Y=some b->B.length+b.flatten.length<=3000->
  ∃g i,V4 (fV 2 (P9 (λd ρ=>R.ok (aDE ρ 2 (Sl.v d))) (P9 (λd ρ=>R.ok (aDE ρ 3 (Sl.v d))) mY))) (λρ=>(eG 3 ρ).bind (gj 1 ρ)) Y [a,.o (B.map vd),x,y]=.ok (.nx [a,.o ((B++b.flatten).map vd),g,i])
 |[],b,B,x,y,h,_=>by cases h;exact⟨x,y,by simp⟩
 |d::Y,b,B,x,y,h,k=>by
  unfold tK at h;split at h
  .rename_i v L f l;cases h;obtain⟨p,j,rfl,m⟩:∃p j,d=.tup [p,.lst j]/\I0 j=some v:=by
    unfold yz at f;split at f
    .exact⟨_,_,rfl,f⟩
    cases f
   have n:=t7 m;subst n;rw[List.flatten_cons,aAz]at k;obtain⟨g,i,e⟩:=mW Y L (B++v) (.v p) (.v (.lst (v.map vd))) l (by rw[aAz];lia);refine⟨g,i,?_⟩;have q:(B.map vd).length+(v.map vd).length<=sizeLine:=by rw[aAh,aAh];exact QZ (by lia)
   refine(U6 (ρ1:=[a,.o (B.map vd),.v p,.v (.lst (v.map vd))]) (ρ2:=[a,.o ((B++v).map vd),.v p,.v (.lst (v.map vd))]) rfl ?_).trans ?_
   .show(if(B.map vd).length+(v.map vd).length<=sizeLine then _ else _)=_;rw[hV q,aBi];rfl
   rw[e,List.flatten_cons,aFq]
  cases h
theorem mG(J:List G.V):∀fs:List (G.V×Int),tK (fs.map (j6 J))=some (fs.map (G.c8 J))
 |[]=>rfl
 |f::fs=>by rw[aAk,tK,mG J fs];rw[show yz (j6 J f)=some (G.c8 J f)from v8 _];rfl
def DZ{J:List G.V}{fs:List (G.V×Int)}(a:(fs.flatMap (G.c8 J)).length<=3000)(b:(i4 (fs.flatMap (G.c8 J))).length<=63):K3 [.lst (fs.map (j6 J))]=.ok (.lst ((i4 (fs.flatMap (G.c8 J))).map vd)):=by have e:(fs.map<|G.c8 J).flatten=fs.flatMap (G.c8 J):=rfl;simp only[K3,mG,e];exact hV ⟨a,b⟩
def qC(d:J.Pairwise λa b=>G.d9 (b-a))(e:G.IsFace J f.1 f.2)(h:X∈G.c8 J f):X∈J:=(G.c5.mp<|(e.aa2 d).aa4 h).1
def AK(g:aV 900 J)(i:G.i9 J)(a:(i4 J).length<=23)(h:X∈B0 J):X∈J:=by obtain⟨m,r,e,L⟩:=cA g i (by lia);unfold B0 at h;rw[l3,aAV]at h;obtain⟨f,b,d⟩:=h;rw[e]at b d a;have j:=M4 L a;have:=qC L.good.ord ((j.1 f).mp b) d;rw[<-e,l3]at this;exact this
def tQ(L:Land J m)(b:J.length<=23):((j4 J).flatMap (G.c8 J)).length<=200/\(i4 ((j4 J).flatMap (G.c8 J))).length<=23:=by
 have a:=M4 L b;have e:=P1 (W9 a.2);have g:j4 J≠[]:=λz=>by have h:=G.W6 L.good.solid L.good.ord L.good.mem L.good.least;have:=(a.1 _).mpr h;rw[z]at this;cases this
 have few:=(G.gS L.good.solid L.good.ord a.1 e g).2;constructor
 .rw[List.length_flatMap]
  lia
 refine aAp (G.B9 (jJ _) λv d=>?_) b;rw[l3,aAV]at d;obtain⟨f,i,j⟩:=d;exact qC L.good.ord ((a.1 f).mp i) j
end
instance Bd.k6:Bd 1000000 20:=⟨by decide⟩
instance Bd.k7:Bd 10000000 24:=⟨by decide⟩
instance Bd.k8:Bd 100000000 27:=⟨by decide⟩
instance Bd.k63:Bd 1000003 20:=⟨by decide⟩
instance Bd.k79:Bd 7919 13:=⟨by decide⟩
instance Bd.k48:Bd 48611 16:=⟨by decide⟩
instance Bd.k12:Bd 1000000000000 40:=⟨by decide⟩
instance Bd.k20:Bd 100000000000000000000 67:=⟨by decide⟩
def aS(h:0<b):oV (.int a) (.int b)=.ok (.int (a.fmod b)):=AB (by omega)
def A5(h:0<b)(d:b<1000000000000000):S6 (.int a) (.int b)=.ok (.int (a.fdiv b)):=uB ⟨by omega,f6 (j8 (n:=60) (by omega) (by omega))⟩
def C4{a b:Int}(h:0<b):0<=a.fmod b/\a.fmod b<b:=by have f:=PyProof.Rows.fdiv_fmod_facts a b;have g:=f.2.2.1 h;omega
def z6{a b:Int}{n:Nat}(h:0<b)(d:bits b<=n):bits (a.fmod b)<=n:=bits_fmod (by omega) d
def n6(a:r=.ok (.nx ρ))(b:N9 (F ρ)=x):N9 (D1 r F)=x:=by rw[a];exact b
def zB(a:r=.ok (.rt d)):N9 (D1 r F)=.ok d:=by rw[a];rfl
def RA(b:L.length<=sizeLine)(h:o7 G ft fe ρ L=.ok a):(if L.length<=sizeLine then(o7 G ft fe ρ L).bind λa=>R.ok (D.lst a)else R.bad)=.ok (.lst a):=by rw[hV b,h];rfl
def VW{n:Nat}(h:n<=1000000):gU [.int (n:Int)]=.ok ((aBc n).map λ(k:Nat)=>D.int (k:Int)):=by
 show(if pB 0 (n:Int) 1 then R.ok (wD 0 1<|iJ 0 n 1)else R.bad)=_;rw[hV ⟨by decide,by decide,by decide,by decide,by omega,by omega⟩];have e:iJ 0 (n:Int) 1=n:=by
  unfold iJ;split
  .simp
  omega
 rw[e];unfold wD;congr 1;refine aDS λk _=>?_;simp
def cI(Y:List D)(k:Nat):Int:=match Y[k]? with
 |some (.int i)=>i
 |_=>0
def G3:List D->R D
 |[.lst Y,.int k]=>if 0<=k/\k<=1000 then .ok (xT (λ_=>0) Y k)else .bad
 |_=>.bad
def QF(a:gD 1048576 Y)(k:Nat)(h:k<=1000):G3 [.lst Y,.int (k:Int)]=.ok (.int (cI Y k))/\bits (cI Y k)<=1048576:=by
 have e:G3 [.lst Y,.int (k:Int)]=.ok (xT (λ_=>0) Y k):=hV ⟨by omega,by omega⟩;rw[e];unfold xT cI;rw[aBK];cases q:Y[k]? with
 |none=>exact⟨rfl,by decide⟩
 |some d=>obtain⟨i,rfl,b⟩:=a d (aAx q);exact⟨rfl,b⟩
def YE:Int:=1000000000000
def M12:Int:=2000000000001
def qN(c:Int):G.V:=⟨(c*1000003+YE).fmod M12-YE,(c*c*7919+YE).fmod M12-YE,(c*c*c+YE).fmod M12-YE⟩
def NT(c:Int):Sz 50 (qN c):=by have k:∀z:Int,bits (z.fmod M12-YE)<=50:=λz=>f6 (bits_sub (bits_fmod (by decide) (show bits M12<=45 by decide)) (show bits YE<=45 by decide));exact⟨k _,k _,k _⟩
def U1(c:Int):Int×Int×Int:=
 if(c.fdiv 7).fmod 2=1 then((1+(c.fdiv 14).fmod 3)*1000000+1,(1+(c.fdiv 42).fmod 3)*10000000+3,(1+(c.fdiv 126).fmod 3)*100000000+9)
 else(1+(c.fdiv 14).fmod 3,1+(c.fdiv 42).fmod 3,1+(c.fdiv 126).fmod 3)
def nT(c:Int):(0<(U1 c).1/\(U1 c).1<1000000000)/\(0<(U1 c).2.1/\(U1 c).2.1<1000000000)/\(0<(U1 c).2.2/\(U1 c).2.2<1000000000):=by have d:=C4 (a:=c.fdiv 14) (b:=3) (by decide);have e:=C4 (a:=c.fdiv 42) (b:=3) (by decide);have f:=C4 (a:=c.fdiv 126) (b:=3) (by decide);unfold U1;split<;>(dsimp only;omega)
def LW(a b c:Int):List G.V:=(aBc 8).map λ(k:Nat)=>⟨(k:Int).fmod 2*a,((k:Int).fdiv 2).fmod 2*b,(k:Int).fdiv 4*c⟩
def wT(a b c:Int):List G.V:=[⟨a,0,0⟩,⟨0-b,0,0⟩,⟨0,b,0⟩,⟨0,0-c,0⟩,⟨0,0,c⟩,⟨0,0,0-a⟩]
def wS(a b c:Int):List G.V:=[⟨0,0,0⟩,⟨a,0,0⟩,⟨0,b,0⟩]++[⟨0+c,0,a+b⟩,⟨a+c,0,a+b⟩,⟨0+c,b,a+b⟩]
def xD(n:Nat)(a b c:Int):List G.V:=(aBc n).map (λ(k:Nat)=>⟨(k:Int),(k:Int)*(k:Int),0⟩)++[⟨a,b,c⟩]
def AC(c e:Int):G.V:=if c.fmod 7=5\/(c.fmod 7=6/\e.fmod 2=1)then qN (e.fdiv 2)else⟨e.fmod 7-3,(e.fdiv 7).fmod 7-3,(e.fdiv 49).fmod 7-3⟩
def jE(a b c:Int):List G.V:=[⟨0,0,0⟩,⟨a,0,0⟩,⟨0,b,0⟩,⟨0,0,c⟩]
def pR(c:Int)(t:List Int):List G.V:=
 if c.fmod 7=0 then LW (U1 c).1 (U1 c).2.1 (U1 c).2.2
 else if c.fmod 7=1 then wT (U1 c).1 (U1 c).2.1 (U1 c).2.2
 else if c.fmod 7=2 then wS (U1 c).1 (U1 c).2.1 (U1 c).2.2
 else if c.fmod 7=3 then xD (3+(c.fdiv 378).fmod 8).toNat (U1 c).1 (U1 c).2.1 (U1 c).2.2
 else jE (U1 c).1 (U1 c).2.1 (U1 c).2.2++t.map (AC c)
def dN(Y:List D):List Int:=((Y.drop 4).take 5).map intD
def GU:Int:=100000000000000000000
def UN:Int:=200000000000000000001
def FY(c:Int):Int:=if c.fmod 2=0 then 3 else 1000000
def fS(c f:Int)(P:G.V):G.V:=
 let x:=P.x+(c.fdiv 4).fmod (FY c)*P.y
 let y:=P.y-((c*c).fdiv 16).fmod (FY c)*P.z
 let z:=P.z+((c*48611).fdiv 4).fmod (FY c)*x
 let a:=if(c.fdiv 2).fmod 2=1 then z else x
 let b:=if(c.fdiv 2).fmod 2=1 then x else z
 ⟨a+(f*48611+GU).fmod UN-GU,y+(f*f*7919+GU).fmod UN-GU,b+(f*f*f+GU).fmod UN-GU⟩
def VT(x y z:D):lR (.tup [x,y]) (.tup [z])=.ok (.tup [x,y,z]):=rfl
def RE(Y:List D)(i j:Nat)(h:i<=j):wX (.lst Y) (some (i:Int)) (some (j:Int))=.ok (.lst ((Y.drop i).take (j-i))):=by
 show R.ok (D.lst<|cutD Y (some (i:Int))<|some (j:Int))=_;unfold cutD;rw[HT.sIx_nat,HT.sIx_nat];congr 2;by_cases a:i<=Y.length
 .rw[aFT a];by_cases b:j<=Y.length
  .rw[aFT b]
  rw[aFF (by omega),aDm (by simp),aDm (by simp;omega)]
 rw[aFF (by omega),aFF (by omega),List.drop_eq_nil_of_le (by omega:Y.length<=i)];simp
def tO(b:gD 1048576 Y):(Y.drop 4).take 5=(dN Y).map D.int/\(dN Y).length<=5/\∀e∈dN Y,bits e<=1048576:=by
 have sub:∀d∈(Y.drop 4).take 5,d∈Y:=λd a=>aDH (aDG a);refine⟨?_,by unfold dN;rw[aAh];exact List.length_take_le _ _,λe f=>?_⟩
 .unfold dN;have:∀l:List D,(∀d∈l,∃i,d=.int i)->l=(l.map intD).map D.int:=λl h=>by
   induction l with
   |nil=>rfl
   |cons d l g=>obtain⟨i,rfl⟩:=h d (.head _);rw[aAk,aAk,<-g λd a=>h d (.tail _ a)];rfl
  exact this _ λd a=>let⟨i,e,_⟩:=b d (sub d a);⟨i,e⟩
 obtain⟨d,a,rfl⟩:=aAj.mp f;obtain⟨i,rfl,j⟩:=b d (sub d a);exact j
def aw(c:Int):∃n:Nat,3+(c.fdiv 378).fmod 8=(n:Int)/\n<=10/\(3+(c.fdiv 378).fmod 8).toNat=n:=by
 have d:=C4 (a:=c.fdiv 378) (b:=8) (by decide);generalize(c.fdiv 378).fmod 8=z at*
 exact⟨(3+z).toNat,by omega,by omega,rfl⟩
def FX(n:Nat)(h:n<=1000):((aBc n).map λ(k:Nat)=>D.int (k:Int)).length<=sizeLine:=by rw[aAh,aCN];exact small h
def XB(n:Nat)(a b e:Int):(xD n a b e).map vd=((aBc n).map λ(k:Nat)=>vd ⟨(k:Int),(k:Int)*(k:Int),0⟩)++[vd ⟨a,b,e⟩]:=by unfold xD;rw[aBi,aBd];rfl
def UD(c:Int):bJ (.lst [.int 3,.int 1000000]) (.int (c.fmod 2))=.ok (.int (FY c))/\0<FY c/\bits (FY c)<=20:=by
 have h:=C4 (a:=c) (b:=2) (by decide);unfold FY;by_cases d:c.fmod 2=0
 .rw[hV d,d];exact⟨rfl,by decide,by decide⟩
 rw[h9 d,show c.fmod 2=1 by omega];exact⟨rfl,by decide,by decide⟩
def iB{J:List G.V}{A B C D:G.V}(a:A∈J)(b:B∈J)(d:C∈J)(e:D∈J)(h:G.i3 (B-A) (C-A) (D-A)≠0):G.i9 J:=⟨A,a,B,b,C,d,D,e,h⟩
def JY{a b c:Int}(d:0<a)(f:0<b)(g:0<c):G.i9 (LW a b c):=by
 have m:∀k<8,(⟨((k:Nat):Int).fmod 2*a,((k:Int).fdiv 2).fmod 2*b,(k:Int).fdiv 4*c⟩:G.V)∈LW a b c:=λk h=>aAj.mpr ⟨k,aBa.mpr h,rfl⟩;refine iB (m 0 (by decide)) (m 1 (by decide)) (m 2 (by decide)) (m 4 (by decide)) ?_;have:∀x:Int,x=a*(b*c)->x≠0:=λx e=>by rw[e];exact Int.ne_of_gt (aAM d<|aAM f g)
 apply this;have i:((0:Nat):Int).fmod 2=0:=rfl;have j:((1:Nat):Int).fmod 2=1:=rfl;have l:((2:Nat):Int).fmod 2=0:=rfl;have n:((4:Nat):Int).fmod 2=0:=rfl;have o:(((0:Nat):Int).fdiv 2).fmod 2=0:=rfl;have p:(((1:Nat):Int).fdiv 2).fmod 2=0:=rfl;have q:(((2:Nat):Int).fdiv 2).fmod 2=1:=rfl;have r:(((4:Nat):Int).fdiv 2).fmod 2=0:=rfl;have s:((0:Nat):Int).fdiv 4=0:=rfl;have t:((1:Nat):Int).fdiv 4=0:=rfl;have u:((2:Nat):Int).fdiv 4=0:=rfl;have v:((4:Nat):Int).fdiv 4=1:=rfl;rw[i,j,l,n,o,p,q,r,s,t,u,v];simp[G.i3,G.dot]
def KZ{a b c:Int}(g:0<a)(d:0<b)(f:0<c):G.i9 (wT a b c):=by
 refine iB (A:=⟨a,0,0⟩) (B:=⟨0-b,0,0⟩) (C:=⟨0,b,0⟩) (D:=⟨0,0,c⟩) (by simp[wT]) (by simp[wT]) (by simp[wT]) (by simp[wT]) ?_;have:∀x:Int,x=-((a+b)*(b*c))->x≠0:=λx e=>by
  have:=aAM (show 0<a+b by lia) (aAM d f)
  lia
 apply this;simp[G.i3,G.dot];grind
def IX{a b c:Int}(d:0<a)(f:0<b)(g:0<c):G.i9 (wS a b c):=by
 refine iB (A:=⟨0,0,0⟩) (B:=⟨a,0,0⟩) (C:=⟨0,b,0⟩) (D:=⟨0+c,0,a+b⟩) (by simp[wS]) (by simp[wS]) (by simp[wS]) (by simp[wS]) ?_;have:∀x:Int,x=a*(b*(a+b))->x≠0:=λx e=>by
  have:=aAM d (aAM f (show 0<a+b by lia))
  lia
 apply this;simp[G.i3,G.dot]
def uL{n:Nat}(f:3<=n){a b c:Int}(g:0<c):G.i9 (xD n a b c):=by
 have m:∀k<n,(⟨((k:Nat):Int),(k:Int)*(k:Int),0⟩:G.V)∈xD n a b c:=λk d=>aBl _ (aAj.mpr ⟨k,aBa.mpr d,rfl⟩);refine iB (m 0 (by lia)) (m 1 (by lia)) (m 2 (by lia)) (D:=⟨a,b,c⟩) (by simp[xD]) ?_;have:∀x:Int,x=2*c->x≠0:=λx e=>by lia
 apply this;simp[G.i3,G.dot]
 lia
def JD{a b c:Int}(d:0<a)(f:0<b)(g:0<c){l:List G.V}:G.i9 (jE a b c++l):=by
 refine iB (A:=⟨0,0,0⟩) (B:=⟨a,0,0⟩) (C:=⟨0,b,0⟩) (D:=⟨0,0,c⟩) (by simp[jE]) (by simp[jE]) (by simp[jE]) (by simp[jE]) ?_;have:∀x:Int,x=a*(b*c)->x≠0:=λx e=>by
  have:=aAM d (aAM f g)
  lia
 apply this;simp[G.i3,G.dot]
def CL(c:Int)(t:List Int):G.i9 (pR c t):=by
 obtain⟨⟨d,g⟩,⟨e,h⟩,⟨c0,i⟩⟩:=nT c;unfold pR;split
 .exact JY d e c0
 split
 .exact KZ d e c0
 split
 .exact IX d e c0
 split
 .obtain⟨n,j,k,f⟩:=aw c;rw[f];have:=C4 (a:=c.fdiv 378) (b:=8) (by decide);exact uL (by lia) c0
 exact JD d e c0
def WR(c:Int)(A:t.length<=5):(∀P∈pR c t,Sz 100 P)/\(pR c t).length<=11:=by
 obtain⟨⟨B,C⟩,⟨E,H⟩,⟨c0,I⟩⟩:=nT c;have g:bits (U1 c).1<=40:=j8 (by lia) (by lia);have j:bits (U1 c).2.1<=40:=j8 (by lia) (by lia);have l:bits (U1 c).2.2<=40:=j8 (by lia) (by lia);generalize u:(U1 c).1=a at*
 generalize v:(U1 c).2.1=b at*
 generalize w:(U1 c).2.2=e at*
 have d:bits 0<=100:=by decide
 have p:∀{x:Int},bits x<=40->bits (0-x)<=100:=λh=>f6 (bits_sub (n:=40) (by decide) h);unfold pR;rw[u,v,w];split
 .refine⟨λP f=>?_,by unfold LW;rw[aAh,aCN];decide⟩;obtain⟨k,q,rfl⟩:=aAj.mp f;have r:=aBa.mp q;exact⟨f6 (bits_mul (z6 (n:=3) (by decide) (by decide)) g),f6 (bits_mul (z6 (n:=3) (by decide) (by decide)) j),f6 (bits_mul (bits_fdiv (n:=10) (j8 (by lia) (by lia))) l)⟩
 split
 .refine⟨λP f=>?_,by show 6<=11;decide⟩;simp only[wT,aAd,aAR,or_false]at f;rcases f with rfl|rfl|rfl|rfl|rfl|rfl
  .exact⟨f6 g,d,d⟩
  .exact⟨p j,d,d⟩
  .exact⟨d,f6 j,d⟩
  .exact⟨d,p l,d⟩
  .exact⟨d,d,f6 l⟩
  exact⟨d,d,p g⟩
 split
 .refine⟨λP f=>?_,by show 6<=11;decide⟩;simp only[wS,aAJ,aBF,aAd,aAR,or_false]at f;have m:bits (a+b)<=100:=f6 (bits_add g j);have s:bits (a+e)<=100:=f6 (bits_add g l);have o:bits (0+e)<=100:=by rw[Int.zero_add];exact f6 l
  rcases f with rfl|rfl|rfl|rfl|rfl|rfl
  .exact⟨d,d,d⟩
  .exact⟨f6 g,d,d⟩
  .exact⟨d,f6 j,d⟩
  .exact⟨o,d,m⟩
  .exact⟨s,d,m⟩
  exact⟨o,f6 j,m⟩
 split
 .obtain⟨n,J,L,y⟩:=aw c;rw[y];refine⟨λP f=>?_,by unfold xD;rw[aAz,aAh,aCN];simp;lia⟩;rcases aAD.mp f with f|f
  .obtain⟨k,q,rfl⟩:=aAj.mp f;have r:=aBa.mp q;have bk:bits (k:Int)<=10:=j8 (by lia) (by lia);exact⟨f6 bk,f6 (bits_mul bk bk),d⟩
  rw[aAK.mp f];exact⟨f6 g,f6 j,f6 l⟩
 refine⟨λP f=>?_,by rw[aAz,aAh];simp[jE];lia⟩;rcases aAD.mp f with f|f
 .simp only[jE,aAd,aAR,or_false]at f;rcases f with rfl|rfl|rfl|rfl
  .exact⟨d,d,d⟩
  .exact⟨f6 g,d,d⟩
  .exact⟨d,f6 j,d⟩
  exact⟨d,d,f6 l⟩
 obtain⟨i,N,rfl⟩:=aAj.mp f;unfold AC;split
 .exact(NT _).mono
 have k7:∀z:Int,bits (z.fmod 7-3)<=100:=λz=>f6 (bits_sub (n:=10) (z6 (by decide) (by decide)) (by decide));exact⟨k7 _,k7 _,k7 _⟩
def nD(s t u:Int)(a:Bool)(P:G.V):G.V:=
 let x:=P.x+s*P.y
 let y:=P.y-t*P.z
 let z:=P.z+u*x
 if a then⟨z,y,x⟩else⟨x,y,z⟩
def IF(k f:Int):∃(s t u:Int) (g:Bool) (o:G.V),(∀P,fS k f P=nD s t u g P+o)/\bits s<=20/\bits t<=20/\bits u<=20/\Sz 80 o:=by
 obtain⟨_,a,b⟩:=UD k;have d:∀z:Int,bits (z.fmod UN-GU)<=80:=λz=>f6 (bits_sub (n:=70) (z6 (by decide) (by decide)) (by decide));refine⟨(k.fdiv 4).fmod (FY k),((k*k).fdiv 16).fmod (FY k),((k*48611).fdiv 4).fmod (FY k),decide ((k.fdiv 2).fmod 2=1),⟨(f*48611+GU).fmod UN-GU,(f*f*7919+GU).fmod UN-GU,(f*f*f+GU).fmod UN-GU⟩,λP=>?_,z6 a b,z6 a b,z6 a b,⟨d _,d _,d _⟩⟩;unfold fS nD;by_cases e:(k.fdiv 2).fmod 2=1
 .simp only[e,if_true,decide_true];exact (by apply G.ext<;>simp<;>lia)
 simp only[e,if_false,decide_false];exact (by apply G.ext<;>simp<;>lia)
def xE(s t u:Int)(a:Bool)(P Q:G.V):nD s t u a P-nD s t u a Q=nD s t u a (P-Q):=by
 unfold nD;cases a
 .exact G.ext (by simp;grind) (by simp;grind) (by simp;grind)
 exact G.ext (by simp;grind) (by simp;grind) (by simp;grind)
def WK(s t u:Int)(a:Bool)(A B C:G.V):G.i3 (nD s t u a A) (nD s t u a B) (nD s t u a C)=(if a then-1 else 1)*G.i3 A B C:=by
 unfold nD;cases a
 .simp[G.i3,G.dot];grind
 simp[G.i3,G.dot];grind
def kO(P Q o:G.V):P+o-(Q+o)=P-Q:=(by apply G.ext<;>simp<;>lia)
def LV(k f:Int){J:List G.V}(h:G.i9 J):G.i9 (J.map (fS k f)):=by
 obtain⟨s,t,u,b,o,e,_⟩:=IF k f;obtain⟨A,d,B,g,C,i,D,j,a⟩:=h;have m:∀X∈J,fS k f X∈J.map (fS k f):=λX l=>aAI l;refine iB (m A d) (m B g) (m C i) (m D j) ?_;rw[e,e,e,e,kO,kO,kO,xE,xE,xE,WK];cases b
 .simpa using a
 simpa using a
def kq(k f:Int)(h:Sz 100 P):Sz 900 (fS k f P):=by
 obtain⟨s,t,u,b,o,e,i,j,l,m⟩:=IF k f;rw[e];have p:Sz 400 (nD s t u b P):=by
  unfold nD;have a:bits (P.x+s*P.y)<=200:=f6 (bits_add (n:=120) (f6 h.1)<|f6<|bits_mul i h.2.1);have d:bits (P.y-t*P.z)<=200:=f6 (bits_sub (n:=120) (f6 h.2.1)<|f6<|bits_mul j h.2.2);have g:bits (P.z+u*(P.x+s*P.y))<=300:=f6 (bits_add (n:=220) (f6 h.2.2)<|f6<|bits_mul l a);dsimp only;cases b
  .exact⟨f6 a,f6 d,f6 g⟩
  exact⟨f6 g,f6 d,f6 a⟩
 exact(p.add m.mono).mono
section
variable [Tabs]
def jY{J:List G.V}(h:aV 900 J)(i:G.i9 J)(d:(i4 J).length<=23):∀X,X∈B0 J↔∃f:G.V×Int,G.IsFace (i4 J) f.1 f.2/\X∈G.c8 (i4 J) f:=λX=>by obtain⟨m,r,e,L⟩:=cA h i (by lia);unfold B0;rw[l3,aAV];rw[e]at d⊢;have g:=M4 L d;exact⟨by rintro⟨f,a,b⟩;exact⟨f,(g.1 f).mp a,b⟩,by rintro⟨f,a,b⟩;exact⟨f,(g.1 f).mpr a,b⟩⟩
def mO{l:List G.V}(h:l.Pairwise λa b=>G.d9 (b-a)):i4 l=l:=mQ (A9 _) h λv=>l3
def JO{J:List G.V}(k:aV 900 J)(l:G.i9 J)(o:(i4 J).length<=23):G.i9 (B0 J)/\aV 900 (B0 J)/\i4 (B0 J)=B0 J/\(B0 J).length<=23/\B0 (B0 J)=B0 J/\∀n d,G.IsFace (B0 J) n d↔G.IsFace (i4 J) n d:=by
 have q:=jY k l o;have h:(B0 J).Pairwise λa b=>G.d9 (b-a):=A9 _;have p:G.i9 (i4 J):=fL l λv i=>l3.mpr i;have s:=A9 J;obtain⟨m,r,e,L⟩:=cA k l (by lia);have t:eF (i4 J) (j4<|i4 J):=by have g:=o;rw[e]at g⊢;exact M4 L g
 have y:(B0 J).length<=23:=by have g:=o;unfold B0;rw[e]at g⊢;exact(tQ L g).2
 have B:j4 (i4 J)≠[]:=λz=>by
  obtain⟨A,N,_⟩:=p;have:∃f:G.V×Int,G.IsFace (i4 J) f.1 f.2:=by have j:=L;rw[<-e]at j;have:=G.W6 j.good.solid j.good.ord j.good.mem j.good.least;exact⟨_,this⟩
  obtain⟨f,u⟩:=this;have:=(t.1 f).mpr u;rw[z]at this;cases this
 obtain⟨E,w⟩:=aFd _ B;have C:=G.GT p s h q ((t.1 E).mp w);have sz:aV 900 (B0 J):=⟨λP H=>k.1 P (AK k l o H),by lia⟩;have x:=mO h;refine⟨C,sz,x,y,?_,λn d=>G.YK p s h q _ B t.1⟩;refine mQ (A9 _) h λv=>?_;have I:=jY sz C (by rw[x];exact y) v;show v∈B0 (B0 J)↔_;rw[I,x];constructor
 .rintro⟨f,u,i⟩;exact qC h u i
 exactλi=>G.PU p s h q i
end
end M
namespace DL
open PySem PySem.Spec L2
def WF{K:Params->iu}{P c:bc}{tb:List (Pos×Str)}{a:List bc}(b:P∈a)(d:∀w:cp,PySem.W.codeHdIn (K w.params) c P=true):∀p∈[(P,tb)],p.1∈a/\∃c,∀w:cp,PySem.W.codeHdIn (K w.params) c p.1=true:=λp e=>by rw[aAK.mp e];exact⟨b,c,d⟩
def Got(K:iu)(x:Str)(st:cv):Prop:=∃f a,PySem.W.nsIn K bt x=some (some<|.ref f)/\Fun K x x st f a
def YW(K:iu)(x:Str)(st:cv)(b:bc):Prop:=∃f d a,PySem.W.nsIn K bt x=some (some<|.ref f)/\PySem.W.codeHdIn K a b=true/\FunC K x x st f d a
def fN(K:iu)(mg:cM)(x:Str)(st:cv):Prop:=∃f a,mg x=some (.ref f)/\Fun K x x st f a
def a1p(K:iu)(mg:cM)(x:Str)(st:cv)(b:bc):Prop:=∃f d a,mg x=some (.ref f)/\PySem.W.codeHdIn K a b=true/\FunC K x x st f d a
section
variable{kV doc pm C ct:au}
def fy(a:PySem.W.nsIn K bt x=some (some (.ref f)))(l:K.lookup f=some ⟨d,e,.func (PySem.W.fnOf x x (F1 st) (p9 st) (c6 st) .none kV doc pm g C ct),b⟩)
 (c:PySem.W.codeIn K C x=true) (k:PySem.W.keepIn K (.ref f)=true):Got K x st:=⟨f,_,a,UH l c k⟩
def WQ(a:PySem.W.nsIn K bt x=some (some (.ref f)))(l:K.lookup f=some ⟨g,h,.func (PySem.W.fnOf x x (F1 st) (p9 st) (c6 st) .none kV doc pm i C ct),b⟩)
 (c:PySem.W.codeIn K C x=true) (k:PySem.W.keepIn K (.ref f)=true) (e:C=.ref cd) (n:PySem.W.codeHdIn K cd d=true):YW K x st d:=⟨f,_,cd,a,n,WE l e c k⟩
def Got.def(g:Got K x st)(X:K.In h)(G:h.Ns bt mg):fN K mg x st:=let⟨f,d,a,b⟩:=g;⟨f,d,PySem.W.mg_of X G a,b⟩
def YW.def(g:YW K x st d)(X:K.In h)(G:h.Ns bt mg):a1p K mg x st d:=let⟨f,e,i,a,b⟩:=g;⟨f,e,i,PySem.W.mg_of X G a,b⟩
def K6(a:sc.kind=.function:=by rfl)(b:sc.isCoroutine=false:=by rfl)(d:sc.isGenerator=false:=by rfl)(e:N.Nodup:=by decide+kernel)(f:N.take ps.length=ps:=by rfl)(g:∀x∈ps,sc.names.lookup x=some .local\/sc.names.lookup x=some .cell:=by decide+kernel)(h:∀y∈sc.names,y.2≠.free:=by decide+kernel):FnScope N ps sc:=⟨a,b,d,e,f,g,h⟩
variable [Tabs]
def p5(g:fN K mg x st)(S:FnScope N ps (c6 st))(i:∀{f:bc}{C:au}{A:cf}{a:List Env}{s:ba}{H:Hp}{E:XK},Room k (A.deeper (aCQ x (c6 st) s.heap.objs.size f C))->(A.deeper (aCQ x (c6 st) s.heap.objs.size f C)).units+64<cz->(A.deeper (aCQ x (c6 st) s.heap.objs.size f C)).units+130<cz->N.Nodup->
  bU (UQ P w K mg base N x (c6 st) f C A a s H E) (p9 st) F) (j:∀ds d,ds.length=ps.length->m ds=.ok d->N9 (F (l4 N ds))=.ok d) (l:∀(kV doc pm:au) (n:Option bc) (C ct:au) (b:List au),b.length=ps.length->bindArgs (PySem.W.fnOf x x (F1 st) (p9 st) (c6 st) .none kV doc pm n C ct) ⟨b,[]⟩=pure (ps.zip b):=by
  intro _ _ _ _ _ _ b o;rcases b with _|⟨_,_|⟨_,_|⟨_,_|⟨_,_|⟨_,_|⟨_,_|⟨_,_⟩⟩⟩⟩⟩⟩⟩<;>first|rfl|exact absurd o (by simp)):A2 P w K mg base (k+1) x ps.length m:=by
 obtain⟨f,q,p,h⟩:=g;exact zj h S (h.binds l) p (λC A a s H E e=>i e e.units e.ae2 S.nd) j
end
def ZT(x:D)(a:List D):Bool:=a.any λy=>v5 y x
def inR(n:Bool):D->D->R D
 |.tup Y,.lst a=>if B1 a<=40/\B1 Y<=30 then .ok (.bl (ZT (.tup Y) a !=n))else .bad
 |.lst Y,.lst a=>if B1 a<=40/\B1 Y<=30 then .ok (.bl (ZT (.lst Y) a !=n))else .bad
 |_,_=>.bad
section
variable [Tabs]
open Classical in
def UO(K:iu) (H:Hp) (O:bc->Prop) (a:D) (u:au):Bool:=decide (∃y d,RelV y u/\Rep K H O y d/\v5 d a=true)
open Classical in
def OG(I:Inv X b σ H s)(r:Rep X.K H O y d)(f:RelV y u):UO X.K H O g u=v5 d g:=by
 unfold UO;by_cases h:v5 d g=true
 .rw[h];exact decide_eq_true ⟨y,d,f,r,h⟩
 rw[Bool.eq_false_iff.mpr h];refine decide_eq_false λ⟨k,l,a,i,j⟩=>h ?_;have e:=RelV.inj f a;subst e;rw[Rep.inj I r i];exact j
theorem FI(I:Inv X i σ H s)(k:Rep X.K H q x e)(l:RelV x v):∀{L:List V}{a:List D}{f:List au},Reps X.K H O L a->l7 L f->A.units+B1 a<cz->A.units+G2 e<cz->
  (∀u∈f,SeqAt.EqAt A s u v (UO X.K H O e u))/\f.any (UO X.K H O e)=ZT e a
 |_,_,_,.nil,.nil,_,_=>⟨λu m=>(by cases m),rfl⟩
 |_,d::a,_,.cons h t,.cons r n,m,b=>by
  have w:G2 d<=B1 (d::a):=nU (j:=0) rfl;have y:B1 a<=B1 (d::a):=by rw[B1];exact Nat.le_max_right _ _
  obtain⟨o,p⟩:=FI (A:=A) I k l t n (by lia) b;refine⟨λu g=>?_,?_⟩
  .rcases aAd.mp g with rfl|g
   .rw[OG I h r];exact UI I h k r l (by lia) b
   exact o u g
  rw[List.any_cons,p,OG I h r];rfl
end
section
variable [Tabs]
def TR(hu:X.A.units+64<cz):mI X (dq .NotIn) (inR true):=by
 intro H O x y dx dy Q fr U r2 q;unfold inR at q;split at q
 .rename_i Y j;split at q
  .rename_i hd;obtain⟨k,fu,rfl,l,n⟩:=U.tupI;obtain⟨a,L,rfl,h,r⟩:=r2.aa5;refine⟨λe f b g=>e=.ref k/\f=.ref a/\b=H/\g (.bl (!ZT (.tup Y) j)) H,?_,rfl,rfl,rfl,?_⟩
   .intro i s σ b e f v u g I o t ⟨B,C,E,J⟩;subst B C E;cases t;obtain⟨d,N,p,hz⟩:=I.list h;have m:=FI I (A:=X.A.in1) (O:=O) (Rep.tup l n) o r N (by rw[o5];lia) (by rw[o5,G2];lia);refine SeqAt.notIn_listAt (UO X.K b O<|.tup Y) p.isList (λw T=>m.1 w (by simpa using T)) ⟨.bl _,b,I,rfl,?_⟩;rw[show d.toArray.any (UO X.K b O<|.tup Y)=d.any (UO X.K b O<|.tup Y)by simp,m.2];exact J
   have:=q (.bl _) H (Same.refl _) .bl;simpa using this
  exact q.elim
 .rename_i Y j;split at q
  .rename_i hd;obtain⟨k,fu,rfl,l,n⟩:=U.aa5;obtain⟨a,L,rfl,h,r⟩:=r2.aa5;refine⟨λe f b g=>e=.ref k/\f=.ref a/\b=H/\g (.bl (!ZT (.lst Y) j)) H,?_,rfl,rfl,rfl,?_⟩
   .intro i s σ b e f v u g I o t ⟨B,C,E,J⟩;subst B C E;cases t;obtain⟨d,N,p,hz⟩:=I.list h;have m:=FI I (A:=X.A.in1) (O:=O) (Rep.lst (O:=λ_=>False) l (λz=>z)<|n.sub λ_ z=>z.elim) o r N (by rw[o5];lia) (by rw[o5,G2];lia);refine SeqAt.notIn_listAt (UO X.K b O<|.lst Y) p.isList (λw T=>m.1 w (by simpa using T)) ⟨.bl _,b,I,rfl,?_⟩;rw[show d.toArray.any (UO X.K b O<|.lst Y)=d.any (UO X.K b O<|.lst Y)by simp,m.2];exact J
   have:=q (.bl _) H (Same.refl _) .bl;simpa using this
  exact q.elim
 exact q.elim
end
end DL
namespace DL
open PySem PySem.Spec L2
open PyProof.Rows hiding St st
variable [Tabs]
section
def RSF(X:Cx)(d:Hp)(e:bc->Prop)(r:R (List D))(D:Ends):Prop:=match r with
 |.ok f=>∀L b a,Same d b->b a=none->Reps X.K b e L f->D.rt (.ref a) (upd b a<|.lst L)
 |_=>False
def tSF(X:Cx)(a:Hp)(b:bc->Prop)(F:Ev->R (List D)):TS:=λD σ H=>∃O ρ,EnvOk X.K a b H O σ ρ/\X7 X.K O/\RSF X a b (F ρ) D
def sE(X:Cx)(st:List cv)(F:Ev->R (List D)):Prop:=∀a b,uU X st (tSF X a b F)
def HC(r:R Out)(F:Ev->R (List D)):R (List D):=match r with
 |.ok (.nx ρ)=>F ρ
 |_=>.bad
@[simp]def a1m(ρ:Ev)(F:Ev->R (List D)):HC (.ok (.nx ρ)) F=F ρ:=rfl
def R7(d:PF X e f):sE X [.Return (some e) g] f:=λh i=>fM (nR<|xR d)<|by rintro D σ H ⟨O,ρ,E,m,q⟩;exact⟨h,i,O,ρ,E,by
 cases b:f ρ with
 |ok n=>rw[b]at q;exactλL j a k l r=>q L j a (E.same.trans k) l (r.sub E.sub)
 |ex x=>rw[b]at q;exact q.elim
 |bad=>rw[b]at q;exact q⟩
def A6{st:cv}{rest:List cv}(f:nN X st F)(g:sE X rest G):sE X (st::rest) (λρ=>HC (F ρ) G):=λd e=>fM (oZ (f d e)<|g d e)<|by rintro D σ H ⟨O,ρ,E,h,q⟩;exact⟨O,ρ,E,h,by
 dsimp only at q;cases a:F ρ with
 |ok o=>
  rw[a]at q;cases o with
  |nx b=>exactλm n i j l k=>⟨i,b,j,l,q⟩
  |_=>exact aAf q
 |ex x=>rw[a]at q;exact aAf q
 |bad=>rw[a]at q;exact aAf q⟩
def spW(K:iu)(n:Nat)(m:List D->R D):Sp:=λL H Q _=>∃O d e,Reps K H O L d/\d.length=n/\(∀a,O a->∃o,H a=some o/\Mt o)/\Tb H/\X7 K O/\m d=.ok (.lst e)/\∀f b a,Same H b->b a=none->Reps K b O f e->Q (.ref a) (upd b a<|.lst f)
def qA(r:R (List D)):R D:=r.bind λa=>.ok (.lst a)
@[simp]def a3k(ds:List D):qA (.ok ds)=.ok (.lst ds):=rfl
def GF(h:qA r=.ok d):∃a,r=.ok a/\d=.lst a:=by
 cases r with
 |ok a=>cases h;exact⟨a,rfl,rfl⟩
 |ex x=>cases h
 |bad=>cases h
def unl(r:R D):R (List D):=match r with
 |.ok (.lst a)=>.ok a
 |.ex x=>.ex x
 |_=>.bad
@[simp]def a5n(ds:List D):unl (.ok (.lst ds))=.ok ds:=rfl
def gK(P:bM)(w:cp)(K:iu)(mg:cM)(base:cq)(k:Nat)(x:Str)(n:Nat)(m:List D->R D):Prop:=
 (∃g a b,FnOk P w K mg base uI k g a b (spW K n m)/\Binds K a b []/\PySem.W.keepIn K (.ref g)=true/\mg x=some (.ref g))/\∀e d,e.length=n->m e=.ok d->∃f,d=.lst f
def gK.cal{K:iu}(c:gK P w K mg base k x n m):A2 P w K mg base k x n m:=by obtain⟨⟨g,p,s,F,b,t,e⟩,u⟩:=c;refine⟨g,p,s,F.imp λL H Q E z=>?_,b,t,e⟩;obtain⟨O,h,d,r,i,j,v,y,e,q⟩:=z;obtain⟨A,rfl⟩:=u h d i e;refine⟨O,h,A,r,i,j,v,y,e,λI J a l f B=>q _ _ (l.trans<|j9 f _) (.lst (P7.of j2) (λz=>?_) (B.same<|j9 f _))⟩;obtain⟨o,C,_⟩:=j a z;rw[l _ _ C]at f;cases f
def iR{K:iu}{st:cv}(g:fN K mg x st)(S:FnScope N ps (c6 st))(t:∀{f:bc}{C:au}{A:cf}{a:List Env}{s:ba}{H:Hp}{E:XK},Room k (A.deeper (aCQ x (c6 st) s.heap.objs.size f C))->(A.deeper (aCQ x (c6 st) s.heap.objs.size f C)).units+64<cz->(A.deeper (aCQ x (c6 st) s.heap.objs.size f C)).units+130<cz->N.Nodup->
   sE (UQ P w K mg base N x (c6 st) f C A a s H E) (p9 st) F) (o:∀ds d,ds.length=ps.length->m ds=.ok d->qA (F (l4 N ds))=.ok d) (u:∀(kV j v:au) (y:Option bc) (C ct:au) (h:List au),h.length=ps.length->bindArgs (PySem.W.fnOf x x (F1 st) (p9 st) (c6 st) .none kV j v y C ct) ⟨h,[]⟩=pure (ps.zip h):=by
   intro _ _ _ _ _ _ h b;rcases h with _|⟨_,_|⟨_,_|⟨_,_|⟨_,_|⟨_,_|⟨_,_|⟨_,_⟩⟩⟩⟩⟩⟩⟩<;>first|rfl|exact absurd b (by simp)):gK P w K mg base (k+1) x ps.length m:=by
 obtain⟨f,B,I,l⟩:=g;refine⟨⟨f,B,ps,l.ok S (λL H Q E z=>?_) (λC A a s H L Q E n z=>?_),l.binds u,l.kp,I⟩,λds d b e=>?_⟩
 .obtain⟨O,ds,d,r,b,_⟩:=z;rw[r.length];exact b
 .obtain⟨O,ds,d,r,b,J,T,U,e,q⟩:=z;refine⟨_,t (C:=C) n n.units n.ae2 S.nd H O,O,_,lK r J T,U,?_⟩;obtain⟨p,Y,i⟩:=GF (o ds _ b e);injection i with i;subst i;rw[Y];exact q
 obtain⟨p,_,i⟩:=GF (o ds d b e);exact⟨p,i⟩
def EG(c:gK X.prog X.w X.K X.mg X.base k x n m)(v:Room k X.A)(l:MF X (e::es) f)(r:DR f n)(y:Gl X x:=by rfl)(B:(x==ix)=false:=by decide)(C:bb (e::es) X.env=(false,dm e X.env)::bb es X.env:=by rfl)(J:(cy o (bb es X.env)).any (·.1)=false:=by rfl):
  PF X (.Call (.Name x p) (e::es) [] o) (λρ=>(f ρ).bind λds=>unl (m ds)):=by
 obtain⟨⟨g,gd,ps,F,b,N,em⟩,T⟩:=c;refine tY λh s σ H Q I U Y O ρ E q=>?_;refine HF F v y em N b .nil ZE l B C J h s σ H Q I ⟨U,Y,O,ρ,E,?_⟩;dsimp only at q;cases i:f ρ with
 |ex z=>rw[i]at q;exact q
 |bad=>rw[i]at q;exact q
 |ok ds=>
  rw[i,R.aa0]at q;intro L H1 t r1;rw[aCb];have u:=E.grow t;cases j:m ds with
  |ex z=>rw[j]at q;exact(q H<|Same.refl _).elim
  |bad=>rw[j]at q;exact aAf q
  |ok d=>rw[j]at q;obtain⟨rs,rfl⟩:=T ds d (r ρ ds i) j;exact⟨O,ds,rs,r1,r ρ ds i,u.trk,u.tab,nM I O E.trk,j,λws H2 a s2 l r2=>q ws H2 a (t.trans s2) l r2⟩
def WZ(i:Nat)(h:yR X e f):yR X e (λρ=>f (gG i ρ)):=ptI h λσ H Q a b O ρ E q=>by
 dsimp only at q;unfold gG at q;cases e:ρ[i]? with
 |none=>rw[e]at q;exact⟨a,b,O,ρ,E,q⟩
 |some d=>
  rw[e]at q;cases d with
  |o Y=>obtain⟨g,j,_⟩:=E.disown e;exact⟨a,b,g,_,j,q⟩
  |_=>exact⟨a,b,O,ρ,E,q⟩
end
section
def jS{c:cu}{a rest:List cv}{b:Ev->R Bool}{F G:Ev->R (List D)}(h:yR X c b)(i:sE X a F)(j:sE X rest G):sE X (.If c a [] k::rest) (λρ=>(b ρ).bind λt=>if t=true then F ρ else G ρ):=λd e=>fM (oZ (ZM h (i d e) HX)<|j d e)<|by rintro D σ H ⟨O,ρ,E,g,q⟩;exact⟨d,e,O,ρ,E,by
 dsimp only at q;cases f:b ρ with
 |ex x=>rw[f]at q;exact aAf q
 |bad=>rw[f]at q;exact aAf q
 |ok t=>
  rw[f,R.aa0]at q;intro l s;cases t with
  |true=>rw[hV rfl]at q⊢;exact⟨O,ρ,E.grow s,g,q⟩
  |false=>rw[h9 aAU]at q⊢;exact⟨O,ρ,E.grow s,g,q⟩⟩
def SB(i:Nat){st:List cv}{F:Ev->R (List D)}(h:sE X st F):sE X st (λρ=>F (gG i ρ)):=λd f=>fM (h d f)<|by
 rintro D σ H ⟨O,ρ,E,b,q⟩;dsimp only at q;unfold gG at q;cases e:ρ[i]? with
 |none=>rw[e]at q;exact⟨O,ρ,E,b,q⟩
 |some g=>
  rw[e]at q;cases g with
  |o Y=>obtain⟨j,l,sub⟩:=E.disown e;exact⟨j,_,l,λa o k z=>b a o k (sub a z),q⟩
  |_=>exact⟨O,ρ,E,b,q⟩
def a0m(i:Nat)(ρ:Ev):R (List D):=match ρ[i]? with
 |some (.o Y)=>.ok Y
 |_=>.bad
def PJ(i:Nat){x:Str}{p d:Pos}(m:X.N[i]?=some x:=by rfl)(s:zI X.env.scope x:=by first|exact aCD rfl|exact aBP (aCD rfl)|exact aBP (aBP rfl))(t:(x==ix)=false:=by decide)(v:(x==ka)=false:=by decide):sE X [.Return (some (.Name x p)) d] (a0m i):=λJ Q=>fM (nR<|xR<|O6 m s t v)<|by
 rintro D σ H ⟨O,ρ,E,T,q⟩;unfold a0m at q;cases f:ρ[i]? with
 |none=>rw[f]at q;exact aAf q
 |some w=>
  rw[f]at q;cases w with
  |o Y=>
   obtain⟨a,L,y,j,A,k,B⟩:=E.own i Y f;refine⟨_,y,?_⟩;have C:upd (λb=>if b=a then none else H b) a (.lst L)=H:=by
    funext b
    unfold upd;by_cases z:b=a
    .subst z;simp[k]
    simp[z]
   have:=q L (λb=>if b=a then none else H b) a (λb o g=>by
    have ne:b≠a:=λz=>by rw[z,A]at g;cases g
    show(if b=a then none else H b)=some o;rw[h9 ne];exact E.same b o g) (hV rfl) ?_
   .rw[C]at this;exact this
   have off:∀{b:bc}{o:HO},b≠a->H b=some o->(if b=a then none else H b)=some o:=λne e=>by rw[h9 ne];exact e
   have l:∀{b:bc}{u:HO},b≠a->Rd H b u->Rd (λb=>if b=a then none else H b) b u:=λne r=>r.elim (λe=>.inl (off ne e))<|by rintro⟨o,e⟩;exact .inr ⟨o,off ne e⟩
   have I:∀{b:bc}{Y:List V},Rd H b (.tup Y)->b≠a:=λr z=>by subst z;rcases r with e|⟨o,e⟩<;>rw[k]at e<;>cases e
   refine B.mono (λb Y h=>h.imp (λr=>l (I r) r) id) (λb Y n h=>⟨λz=>n (E.sub b z),h.imp (l λz=>n (by rw[z];exact j)) id⟩) λb φ n h=>⟨λz=>n (E.sub b z),off (λz=>n (by rw[z];exact j)) h⟩
  |_=>exact aAf q
def YQ:D->D->R (List D)
 |.lst a,.lst b=>if a.length+b.length<=sizeLine then .ok (a++b)else .bad
 |_,_=>.bad
def SN{a b:cu}{j k:Ev->R D}(N:PB X a j)(T:PB X b k):PF X (.BinOp a .Add b U) (λρ=>(j ρ).bind λx=>(k ρ).bind λy=>YQ x y):=by
 refine tY λg s σ H Q I A B O ρ E q=>?_;dsimp only at q;refine wpAny_BinOp (MA (R:=λx y d=>∃e f,j ρ=.ok e/\k ρ=.ok f/\Same H d/\B5 X.K d O x e/\B5 X.K d O y f) N T I ⟨A,B,O,ρ,E,?_⟩ λv u m x y d Y rx ry h=>?_)
 .cases i:j ρ with
  |ex z=>rw[i]at q;exact q
  |bad=>rw[i]at q;exact aAf q
  |ok e=>
   rw[i,R.aa0]at q;intro x H1 o r;refine⟨A,B,O,ρ,E.grow o,?_⟩;cases n:k ρ with
   |ex z=>rw[n]at q;exactλH' s'=>q H' (o.trans s')
   |bad=>rw[n]at q;exact aAf q
   |ok f=>exactλy d m t=>⟨e,f,rfl,rfl,o.trans m,r.same m,t⟩
 obtain⟨e,f,i,n,sm,r,t⟩:=h;rw[i,R.aa0,n,R.aa0]at q;cases e with
 |lst a=>
  cases f with
  |lst b=>
   simp only[YQ]at q;by_cases w:a.length+b.length<=sizeLine
   .rw[hV w]at q;obtain⟨l,L,rfl,h1,C⟩:=r.aa5;obtain⟨l',fu,rfl,ur,J⟩:=t.aa5;exact IM g m σ d _ _ v u Q Y rx ry ⟨l,l',L,fu,rfl,rfl,h1,ur,by rw[C.length,J.length];exact w,λp hp=>q _ d p sm hp (C.append J)⟩
   rw[h9 w]at q;exact q.elim
  |_=>exact aAf q
 |_=>exact aAf q
mutual
theorem QU{K:iu}{H:Hp}{O a:bc->Prop}:∀{v:V}{d:D},rG d=true->Rep K H O v d->Rep K H a v d
 |_,_,_,.int=>.int
 |_,_,h,.tup t r=>.tup t (lU h r)
 |_,_,h,.non=>(by cases h)
 |_,_,h,.bl=>(by cases h)
 |_,_,h,.str=>(by cases h)
 |_,_,h,.lst _ _ _=>(by cases h)
 |_,_,h,.dct _ _ _=>(by cases h)
theorem lU{K:iu}{H:Hp}{O a:bc->Prop}:∀{L:List V}{ds:List D},aG ds=true->Reps K H O L ds->Reps K H a L ds
 |_,_,_,.nil=>.nil
 |_,_,h,.cons r t=>.cons (QU (aGf.mp h).1 r) (lU (aGf.mp h).2 t)
end
def NC(i l:Nat)(U:PF X e f)(hN:X.N.Nodup)(hi:X.N[i]?=some x:=by rfl)(hx:Loc X.env.scope x:=by first|exact aCD rfl|exact aBP rfl)(hs:eN e (some (.Name x g)) u.line X.env=pure false:=by rfl)(hf:X.fn x=true\/X.env.scope.names.lookup x=some .local:=by first|exact .inl rfl|exact .inr rfl|assumption):
  nN X (.Assign [.Name x g] e u) (λρ=>(f (gG l ρ)).bind λds=>if aG ds=true then .ok (.nx (ρ.set i (.o ds)))else .bad):=by
 rintro w A h s σ H D I ⟨O,ρ,E,fk,q⟩;dsimp only at q;obtain⟨p,E1⟩:∃p,EnvOk X.K w A H p σ (gG l ρ):=by
  unfold gG;cases e:ρ[l]? with
  |none=>exact⟨O,E⟩
  |some sl=>
   cases sl with
   |o Y=>obtain⟨O',E',_⟩:=E.disown e;exact⟨O',E'⟩
   |_=>exact⟨O,E⟩
 refine aEf (F5 (U h s σ H (λv J=>∃L d a ds,v=.ref a/\J=upd d a (.lst L)/\Same H d/\d a=none/\Reps X.K d p L ds/\aG ds=true/\RS X w A H O (.ok (.nx (ρ.set i<|.o ds))) D) I ⟨w,A,p,gG l ρ,E1,?_⟩) λv Q z9=>?_) hs
 .cases j:f (gG l ρ)with
  |ok ds=>
   rw[j,R.aa0]at q;by_cases k:aG ds=true
   .rw[hV k]at q;exactλL d a Q m r=>⟨L,d,a,ds,rfl,rfl,Q,m,r,k,q⟩
   rw[h9 k]at q;exact q.elim
  |ex x=>rw[j]at q;exactλH' s=>q H' (E.same.trans s)
  |bad=>rw[j]at q;exact q
 obtain⟨y,J,B,r2,L,d,a,ds,j,e2,t,m,r,k,q'⟩:=z9;subst j e2;refine M6 B hN hi hx r2 (λs3 I3=>⟨_,_,I3,?_⟩) hf;have hk:=GM B (j2 (H:=d) (a:=a) (o:=.lst L));have T:=(E.grow t).ad3 i m hk (lU k r);refine q' _ _ _ T (nM B _ T.trk) ?_;exactλb o C n=>⟨by rw[l6 (n4 (t b o C) m)];exact t b o C,λz=>z.elim n (n4 (t b o C) m)⟩
end
end DL
namespace DL
open PySem PySem.Spec PySem.Calls PySem.W Builtin Builtin.ObjectAttr Builtin.Getset_descriptor
open PyProof.Rows hiding St
section
variable{prog:bM}{w:cp}{A:cf}{E:F8}{K:Frag}{h:cq}{g:Array GenState}{d:Drawn}{t:Nat}{os:OsState}{a C:bc}{o:Obj}
end
end DL
namespace DL
open PySem PySem.Spec L2
open PyProof.Rows hiding St
variable [Tabs]
section
variable{X:Cx}{pos:Pos}
end
section
variable{X:Cx}{pins:P4}{σ:St}{H H':Hp}{s s':ba}
end
section
variable{K:iu}{H9 H:Hp}{O0 O:bc->Prop}{σ:St}{ρ:Ev}
end
section
variable{X:Cx}{pos vo np:Pos}
end
section
variable{X:Cx}{pos:Pos}
end
section
variable{X:Cx}{pos:Pos}
end
section
def chR(lo a:Int)(i:Nat)(ρ:Ev):R D:=match ρ[i]? with
 |some (.v (.int k))=>.ok (.bl (decide (lo<=k)&&decide (k<=a)))
 |_=>.bad
def RB(i:Nat){lo a:Int}{x:Str}{j g p h b l}(m:X.N[i]?=some x:=by rfl)(n:zI X.env.scope x:=by first|exact aCD rfl|exact aBP (aCD rfl)|exact aBP (aBP rfl))(o:(x==ix)=false:=by decide)(r:(x==ka)=false:=by decide)(s:lastMarks [.LtE,.LtE] [.Name x l,.Constant (.int a) g h]=false:=by with_unfolding_all rfl):
  PD X (.Compare (.Constant (.int lo) j p) [.LtE,.LtE] [.Name x l,.Constant (.int a) g h] b) (chR lo a i):=
 ME (MI (iV.c0 QE) (iV.c0 QE) DG (O6 m n o r) DG s) λσ H Q y z O ρ E q=>by
  unfold chR at q;cases e:ρ[i]? with
  |none=>rw[e]at q;exact q.elim
  |some t=>
   rw[e]at q;cases t with
   |v d=>
    cases d with
    |int k=>
     obtain⟨v,u,w⟩:=E.val i _ e;cases w;have q:∀v f,Same H f->Rep X.K f O v (.bl (decide (lo<=k)&&decide (k<=a)))->Q v f:=q;refine⟨_,u,?_⟩;refine⟨lo,k,rfl,rfl,trivial,_,rfl,?_⟩;by_cases c:lo<=k
     .rw[decide_eq_true c,hV rfl];exact⟨k,a,rfl,rfl,trivial,q _ H (Same.refl _) (by rw[decide_eq_true c];exact .bl)⟩
     rw[decide_eq_false c,h9 aAU];exact q _ H (Same.refl _) (by rw[decide_eq_false c];exact .bl)
    |_=>exact aAf q
   |_=>exact aAf q
end
section
end
section
abbrev BU(X:Cx)(e:cu)(es:List cu):Prop:=bb (e::es) X.env=(false,dm e X.env)::bb es X.env
def m9{i:Int}{j}:PB X (.Constant (.int i) j a) (ZQ (.int i)):=c9.pb
def BP{e1:cu}{b:Ev->R D}(c:A2 X.prog X.w X.K X.mg X.base k x 1 m)(e:Room f X.A)(a1:PD X e1 b)(g:k<=f:=by decide)(d:BU X e1 []:=by rfl)(h:Gl X x:=by rfl)(i:(x==ix)=false:=by decide)(j:(cy a (bb [] X.env)).any (·.1)=false:=by rfl):
 PD X (.Call (.Name x p) [e1] [] a) (λρ=>((l9 b S7) ρ).bind m):=xG c (e.mono g) (f9 a1 m6 d) (v7 N3) h i d j
def fO{e1 e2:cu}{b d:Ev->R D}(c:A2 X.prog X.w X.K X.mg X.base k x 2 m)(f:Room g X.A)(a1:PD X e1 b)(a2:PD X e2 d)(h:k<=g:=by decide)(e:BU X e1 [e2]:=by rfl)(i:BU X e2 []:=by rfl)(j:Gl X x:=by rfl)(l:(x==ix)=false:=by decide)(n:(cy a (bb [e2] X.env)).any (·.1)=false:=by rfl):
 PD X (.Call (.Name x p) [e1,e2] [] a) (λρ=>((l9 b (l9 d S7)) ρ).bind m):=xG c (f.mono h) (f9 a1 (f9 a2 m6 i) e) (v7<|v7 N3) j l e n
def pc3{e1 e2 a:cu}{d e f:Ev->R D}(c:A2 X.prog X.w X.K X.mg X.base k x 3 m)(h:Room i X.A)(a1:PD X e1 d)(a2:PD X e2 e)(a3:PD X a f)(j:k<=i:=by decide)(g:BU X e1 [e2,a]:=by rfl)(l:BU X e2 [a]:=by rfl)(n:BU X a []:=by rfl)(o:Gl X x:=by rfl)(q:(x==ix)=false:=by decide)(r:(cy b (bb [e2,a] X.env)).any (·.1)=false:=by rfl):
 PD X (.Call (.Name x p) [e1,e2,a] [] b) (λρ=>((l9 d (l9 e (l9 f S7))) ρ).bind m):=xG c (h.mono j) (f9 a1 (f9 a2 (f9 a3 m6 n) l) g) (v7<|v7<|v7 N3) o q g r
def pc4{e1 e2 b a:cu}{e f g h:Ev->R D}(c:A2 X.prog X.w X.K X.mg X.base k x 4 m)(j:Room l X.A)(a1:PD X e1 e)(a2:PD X e2 f)(a3:PD X b g)(n:PD X a h)(o:k<=l:=by decide)(i:BU X e1 [e2,b,a]:=by rfl)(q:BU X e2 [b,a]:=by rfl)(r:BU X b [a]:=by rfl)(s:BU X a []:=by rfl)(t:Gl X x:=by rfl)(u:(x==ix)=false:=by decide)(v:(cy d (bb [e2,b,a] X.env)).any (·.1)=false:=by rfl):
 PD X (.Call (.Name x p) [e1,e2,b,a] [] d) (λρ=>((l9 e (l9 f (l9 g (l9 h S7)))) ρ).bind m):=xG c (j.mono o) (f9 a1 (f9 a2 (f9 a3 (f9 n m6 s) r) q) i) (v7<|v7<|v7<|v7 N3) t u i v
def xS{e1 e2:cu}{a b:Ev->R D}{j}(a1:PD X e1 a)(a2:PD X e2 b)(d:BU X e1 [e2]:=by rfl)(e:BU X e2 []:=by rfl):PD X (.Tuple [e1,e2] j f) (λρ=>((l9 a (l9 b S7)) ρ).bind nK):=pI (f9 a1 (f9 a2 m6 e) d)
def oH{e1 e2 a:cu}{b d e:Ev->R D}{j}(a1:PD X e1 b)(a2:PD X e2 d)(a3:PD X a e)(f:BU X e1 [e2,a]:=by rfl)(g:BU X e2 [a]:=by rfl)(h:BU X a []:=by rfl):PD X (.Tuple [e1,e2,a] j i) (λρ=>((l9 b (l9 d (l9 e S7))) ρ).bind nK):=pI (f9 a1 (f9 a2 (f9 a3 m6 h) g) f)
def SG{id:String}{g:List D->R D}{e:cu}{f:Ev->R D}(h:dW X (.builtin id) g)(a:PB X e f)(i:Gl X x:=by rfl)(j:X.mg x=none:=by assumption)(k:de x=some (.builtin id):=by decide+kernel)(l:x≠ "__name__":=by decide)(m:(x==ix)=false:=by decide)(d:BU X e []:=by rfl)(n:(cy b (bb [] X.env)).any (·.1)=false:=by rfl):
 PD X (.Call (.Name x p) [e] [] b) (λρ=>(l9 f S7 ρ).bind g):=dH h (u6 a E6 d) i j k l m d n
def CU{i:List Str}{a:gW}{l:Pos}{e:cu}{fe:Ev->R D}(h:∀b f j k C,PD (DD X b j k ([x]++i) a (bZ X a C) C f) e fe)(m:([x]++i).Nodup:=by decide+kernel)(n:Loc (relabel a X.env) x:=by first|exact aCD rfl|exact aBP rfl)(o:(a.names.lookup x==some .cell)=true\/(relabel a X.env).names.lookup x=some .local:=by first|exact .inl rfl|exact .inr rfl):
  ∀(b:P4) (f:List bc) (g:Cx),(∃p q C,g=DD X b p q ([x]++i) a (bZ X a C) C f)->LJ g (.Name x l) (λd ρ=>.ok (ρ.set 0 (.v d)))/\UM g [] (λ_=>.ok true)/\PD g e fe:=by
 rintro b f r ⟨j,k,C,rfl⟩;exact⟨n8 0 m rfl n o,IR,h b f j k C⟩
def hxt{j:List Str}{a:gW}{l:Pos}{f c:cu}{fe:Ev->R D}{ft:Ev->R Bool}(h:∀b e g i C,yR (DD X b g i ([x]++j) a (bZ X a C) C e) c ft/\PD (DD X b g i ([x]++j) a (bZ X a C) C e) f fe)(m:([x]++j).Nodup:=by decide+kernel)(n:Loc (relabel a X.env) x:=by first|exact aCD rfl|exact aBP rfl)(o:(a.names.lookup x==some .cell)=true\/(relabel a X.env).names.lookup x=some .local:=by first|exact .inl rfl|exact .inr rfl):
  ∀(b:P4) (e:List bc) (k:Cx),(∃p q C,k=DD X b p q ([x]++j) a (bZ X a C) C e)->LJ k (.Name x l) (λd ρ=>.ok (ρ.set 0 (.v d)))/\UM k [c] ft/\PD k f fe:=by
 rintro b e r ⟨g,i,C,rfl⟩;exact⟨n8 0 m rfl n o,VF (h b e g i C).1,(h b e g i C).2⟩
end
end DL
namespace DL
open PySem L2
variable [Tabs]
def A2.imp{K:iu}(c:A2 P w K mg base k x n m)(h:∀ds d,a ds=.ok d->m ds=.ok d):A2 P w K mg base k x n a:=by obtain⟨g,f,i,F,b,j,e⟩:=c;exact⟨g,f,i,F.imp<|by rintro L H Q E ⟨O,ds,d,r,l,o,p,s,e,q⟩;exact⟨O,ds,d,r,l,o,p,s,h _ _ e,q⟩,b,j,e⟩
end DL
namespace M
open PySem L2 DL
variable [Tabs]
def C6(a:Int)(P:G.V):G.V:=if a=0 then⟨P.y,P.z,0⟩else if a=1 then⟨P.x,P.z,0⟩else⟨P.x,P.y,0⟩
def w4(a:Int)(J:List G.V):List G.V:=G.j0 ⟨0,0,1⟩ (i4<|J.map<|C6 a)
def G8(v:G.V):D:=.tup [.int v.x,.int v.y]
def Fw(J:List G.V):Prop:=(∀P∈J,Sz 900 P)/\J.length<=60
def ZL(h:Sz n P):bits (C6 a P).x<=n/\bits (C6 a P).y<=n/\(C6 a P).z=0:=by
 unfold C6;split
 .exact⟨h.2.1,h.2.2,rfl⟩
 split
 .exact⟨h.1,h.2.2,rfl⟩
 exact⟨h.1,h.2.1,rfl⟩
def EN(b:Fw J):aV 1000 (i4 (J.map (C6 a)))/\(i4 (J.map (C6 a))).length<=60:=by have e:(i4<|J.map<|C6 a).length<=60:=aAp (qX _) (by rw[aAh];exact b.2);refine⟨⟨λP d=>?_,by lia⟩,e⟩;rw[l3]at d;obtain⟨Q,f,rfl⟩:=aAj.mp d;obtain⟨g,h,i⟩:=ZL (a:=a) (b.1 Q f);exact⟨L7 g (by decide),L7 h (by decide),by rw[i];decide⟩
def pQ(e:Fw J):(∀v∈w4 a J,Sz 1000 v)/\(w4 a J).length<=120:=by
 obtain⟨⟨d,_⟩,g⟩:=EN (a:=a) e;unfold w4;generalize i4 (J.map<|C6 a)=q at*
 have i:=fC ⟨0,0,1⟩ q;have f:=fC ⟨0,0,1⟩ q.reverse;rw[aBW]at f;refine⟨λv b=>?_,?_⟩
 .unfold G.j0 at b;rcases aAD.mp b with b|b
  .have:=aBO.mp ((aFY _).subset b);exact d v (lY q q [] (λ_ h=>nomatch h) (λ_ h=>h) v this)
  have:=aBO.mp ((aFY _).subset b);exact d v (lY q q.reverse [] (λ_ h=>nomatch h) (λ_ h=>aBO.mp h) v this)
 unfold G.j0;simp only[aAz,aEv,aBW]
 lia
def aO:List D->R D
 |[.lst Y]=>if Y.length<=3000 then .ok (.lst (L6 Y (Y.tail++Y.take 1)))else .bad
 |_=>.bad
def RX(ds:List D)(d:D)(h:C5 ds=.ok d):aO ds=.ok d:=by
 unfold C5 at h;split at h
 .split at h
  .rename_i J a;split at h
   .rename_i b;rw[t7 a,<-h];show(if _ then _ else _)=_;rw[hV (by rw[aAh];exact b),<-aGu,<-aGv,<-aBi,uM (β:=Unit)];rfl
   cases h
  cases h
 cases h
def rT(P Q:G.V):Int:=P.x*Q.y-P.y*Q.x
def C8(r:List G.V):Int:=(aCW rT r<|r.tail++r.take 1).sum
theorem uR{a:D->Ev->R Ev}{fe:Ev->R D}{ρ:Ev}:∀(r q:List G.V),(∀P∈r,∀Q∈q,∃ρ1,a (.tup [G8 P,G8 Q]) ρ=.ok ρ1/\fe ρ1=.ok (.int (rT P Q)))->o7 a (λ_=>.ok true) fe ρ (L6 (r.map G8) (q.map G8))=.ok ((aCW rT r q).map D.int)
 |[],q,_=>by simp[L6,o7]
 |P::r,[],_=>by simp[L6,o7]
 |P::r,Q::q,h=>by obtain⟨ρ1,b,d⟩:=h P (.head _) Q (.head _);have e:=uR r q λP f Q g=>h P (.tail _ f) Q (.tail _ g);show o7 a (λ_=>.ok true) fe ρ (.tup [G8 P,G8 Q]::L6 (r.map G8) (q.map G8))=_;simp[o7,b,d,e]
def aK(ns:List Int):cZ (ns.map D.int)=some ns:=by
 induction ns with
 |nil=>rfl
 |cons n ns a=>rw[aAk,cZ,a];rfl
def VQ(h:G2 d<=40):MC d d=.ok (.bl false):=by unfold MC;rw[hV ⟨h,h⟩,S4];rfl
def dS{J:Ev->Prop}(a:r=.ok (.nx ρ))(b:∃ρ2,F ρ=.ok (.nx ρ2)/\J ρ2):∃ρ2,D1 r F=.ok (.nx ρ2)/\J ρ2:=by rw[a];exact b
def dw(c w:Int):G.V:=⟨c.fmod w-w.fdiv 2,(c.fdiv w).fmod w-w.fdiv 2,(c.fdiv<|w*w).fmod w-w.fdiv 2⟩
def tmA(c:Int)(at_ j:Nat):Int:=(c.fdiv<|5+7*(at_:Int)+(j:Int)).fmod 5-2
def tj(P:G.V)(t:Int)(w:G.V):G.V:=⟨P.x+t*w.x,P.y+t*w.y,P.z+t*w.z⟩
def ptA(c:Int)(b:G.V)(ws:List G.V)(at_:Nat):G.V:=match ws with
 |[]=>b
 |[u]=>tj b (tmA c at_ 0) u
 |u::v::_=>tj (tj b (tmA c at_ 0) u) (tmA c at_ 1) v
def a2n(c:Int)(b:G.V)(ws:List G.V)(n:Nat):List G.V:=(aBc n).map (ptA c b ws)
structure Drawn(J:List G.V):Prop where
 ne:J≠[]
 len:J.length<=40
 sz:∀P∈J,Sz 100 P
 flat:¬G.i9 J
open Classical in
def GY(p:Prop) (d:D):R D:=if p then .ok d else .bad
def W4{p:Prop}{d r:D}(h:GY p d=.ok r):p/\d=r:=by
 unfold GY at h;split at h
 .rename_i z;cases h;exact⟨z,rfl⟩
 cases h
def R6{p:Prop}{d:D}(h:p):GY p d=.ok d:=hV h
def lvD(k:List G.V->List D->R D):List D->R D:=BR λY e=>match I0 Y with
 |some l=>k l e
 |none=>.bad
def DB{k:List G.V->List D->R D}{ds:List D}{r:D}(h:lvD k ds=.ok r):∃l e,ds=.lst (l.map vd)::e/\k l e=.ok r:=by
 replace h:=Z3 h;obtain⟨Y,e,rfl,h⟩:=h;cases q:I0 Y with
 |none=>rw[q]at h;cases h
 |some l=>rw[q]at h;exact⟨l,e,by rw[t7 q],h⟩
def xB(k:List G.V->List D->R D)(l:List G.V)(e:List D):lvD k (.lst (l.map vd)::e)=k l e:=by show(match I0 (l.map vd)with|some l=>k l e|none=>.bad)=_;rw[v8]
def ZS(s k:Int):Int:=(s*s+5003*k+11).fmod 2147483647
def iG(l:List Int):Prop:=l.length=7/\∀i∈l,bits i<=100
def s7(c k:Int):Int:=(c.fdiv k).fmod 7-3
def KO{J:List G.V}(g:aV 900 J)(h:G.i9 J)(d:(i4 J).length<=23):(∀f,f∈j4 (i4 J)↔G.IsFace (i4 J) f.1 f.2)/\j4 (i4 J)≠[]/\(j4 (i4 J)).length<=12167:=by obtain⟨m,r,e,L⟩:=cA g h (by lia);have a:=d;rw[e]at a;have b:=M4 L a;rw[<-e]at b L;have i:=P1 (W9 b.2);have few:=G.KT i λf j=>(b.1 f).mp j;have k:(i4 J).length*((i4 J).length*(i4 J).length)<=23*(23*23):=aFg d (aFg d d);refine⟨b.1,λz=>?_,aAp few k⟩;have q:=G.W6 L.good.solid L.good.ord L.good.mem L.good.least;have:=(b.1 (_,_)).mpr q;rw[z]at this;cases this
def intD:D->Int
 |.int i=>i
 |_=>0
def TD{α β:Type}{G:D->Ev->R Ev}{fe:Ev->R D}{ρ:Ev}(rep:α->D)(b:β->D)(g:α->β)(l:List α)(h:∀a∈l,∃ρ1,G (rep a) ρ=.ok ρ1/\fe ρ1=.ok (b (g a))):o7 G (λ_=>.ok true) fe ρ (l.map rep)=.ok ((l.map g).map b):=by rw[aBd];exact J6 rep _ l h
def N6{r:R Out}{ρ:Ev}{F:Ev->R (List D)}{x:R D}(a:r=.ok (.nx ρ))(b:qA (F ρ)=x):qA (HC r F)=x:=by rw[a];exact b
def jL{r:R Bool}{x:R D}{F G:R (List D)}(a:r=.ok true)(b:qA F=x):qA (r.bind λt=>if t=true then F else G)=x:=by rw[a];exact b
def kI{r:R Bool}{x:R D}{F G:R (List D)}(a:r=.ok false)(b:qA G=x):qA (r.bind λt=>if t=true then F else G)=x:=by rw[a];exact b
def AN{G:D->Ev->R Ev}{ft:Ev->R Bool}{fe:Ev->R D}{ρ:Ev}{L a:List D}(b:L.length<=sizeLine)(h:o7 G ft fe ρ L=.ok a):(if L.length<=sizeLine then o7 G ft fe ρ L else R.bad)=.ok a:=by rw[hV b,h]
def GA{a b:List D}(h:a.length+b.length<=sizeLine):YQ (.lst a) (.lst b)=.ok (a++b):=hV h
def RT{G:D->Ev->R Ev}{F:Ev->R Out}{a:Ev->R (List D)}{ds:List D}{ρ:Ev}{d:D}(Iv:List D->Ev->Prop)(b:∀d ds ρ,Iv (d::ds) ρ->∃ρ2,cW G F d ρ=.ok (.nx ρ2)/\Iv ds ρ2)(h0:Iv ds ρ)(f:∀ρ',Iv [] ρ'->qA (a ρ')=.ok d):qA (HC (V4 G F ds ρ) a)=.ok d:=by obtain⟨ρ',e,h⟩:=kJ Iv b h0;rw[e];exact f ρ' h
def B2(a b:Int):Prop:=bits a<=1000/\bits b<=1000
def uF(A B C:G.V):Int:=(B.x-A.x)*(C.y-A.y)-(B.y-A.y)*(C.x-A.x)
def dwn(A B C:G.V):Int:=(B.x-A.x)*(C.x-A.x)+(B.y-A.y)*(C.y-A.y)
def whl(A B:G.V):Int:=(B.x-A.x)*(B.x-A.x)+(B.y-A.y)*(B.y-A.y)
def B2.sub{a b c d:Int}(e:B2 a b)(f:B2 c d):bits (c-a)<=1001/\bits (d-b)<=1001:=⟨bits_sub f.1 e.1,bits_sub f.2 e.2⟩
def YC(S:List G.V)(A B:G.V):Prop:=A≠B/\∀C∈S,0<=uF A B C/\(uF A B C=0->0<=dwn A B C/\dwn A B C<=whl A B)
def XZ(a:Int)(P:G.V):(C6 a P).z=0:=by
 unfold C6
 repeat' split
 all_goals rfl
def bP{J:List G.V}{a:Int}(h:G.i9 J):G.Sheet ⟨0,0,1⟩ (i4 (J.map (C6 a)))where
 nz:=λz=>by have:=ip G.V.z z;simp at this
 pl:=λX p Y q=>by obtain⟨P,_,rfl⟩:=aAj.mp (l3.mp p);obtain⟨Q,_,rfl⟩:=aAj.mp (l3.mp q);have w:=XZ a P;have H:=XZ a Q;simp[G.dot];lia
 ord:=A9 _
 two:=by
  obtain⟨A,m,B,r,C,s,E,I,e⟩:=h;have b:∀{P:G.V},P∈J->C6 a P∈i4 (J.map<|C6 a):=λt=>l3.mpr (aAI t);by_cases n:C6 a A=C6 a B
  .by_cases o:C6 a A=C6 a C
   .refine absurd ?_ e;have g:∀{P Q:G.V},C6 a P=C6 a Q->(a=0/\P.y=Q.y/\P.z=Q.z)\/(a≠0/\a=1/\P.x=Q.x/\P.z=Q.z)\/(a≠0/\a≠1/\P.x=Q.x/\P.y=Q.y):=λ{P Q} z=>by
     unfold C6 at z;have d:=ip G.V.x z;have f:=ip G.V.y z;by_cases i:a=0
     .simp[i]at d f;exact .inl ⟨i,d,f⟩
     by_cases j:a=1
     .simp[j]at d f;exact .inr (.inl ⟨i,j,d,f⟩)
     simp[i,j]at d f;exact .inr (.inr ⟨i,j,d,f⟩)
    have u:=g n;have v:=g o;rcases u with⟨_,k,l⟩|⟨_,_,k,l⟩|⟨_,_,k,l⟩<;>rcases v with⟨_,v1,v2⟩|⟨_,_,v1,v2⟩|⟨_,_,v1,v2⟩<;>first|contradiction|(simp[G.i3,G.dot,G.cr,k,l,v1,v2];try grind)
   exact⟨_,b m,_,b s,o⟩
  exact⟨_,b m,_,b r,n⟩
end M
namespace SD
open PySem
section
variable{prog:bM}{w:cp}{A:cf}{E:F8}{s:ba}{d it:bc}{es:Array DictEntry}{ep i:Nat}
end
section
variable{prog:bM}{w:cp}{A:cf}{E:F8}{s:ba}{d:bc}{es:Array DictEntry}{ep:Nat}
end
end SD
namespace DL
open PySem L2
section
variable [Tabs]
end
end DL
namespace M
open PySem L2 DL
variable [Tabs]
def fd4(f:G.V×Int):D:=vH f.1 f.2
def fU(a n:Nat):List D:=(aEh a n).map λ(k:Nat)=>D.int (k:Int)
def a4h{a b:Nat}(d:a<=1000000)(h:b<=1000000):gU [.int (a:Int),.int (b:Int)]=.ok (fU a (b-a)):=by
 show(if pB (a:Int) (b:Int) 1 then R.ok (wD a 1<|iJ a b 1)else R.bad)=_;rw[hV ⟨by decide,by decide,by lia,by lia,by lia,by lia⟩];have e:iJ (a:Int) (b:Int) 1=b-a:=by
  unfold iJ;split
  .simp
  lia
 rw[e];unfold wD fU;rw[List.range'_eq_map_range,aBd];congr 1;refine aDS λk _=>?_;simp
def a1b{n:Nat}(h:n<=1000000):gU [.int (n:Int)]=.ok (fU 0 n):=by rw[VW h];unfold fU;rw[List.range_eq_range']
theorem qQ{G:D->Ev->R Ev}{F:Ev->R Out}(Iv:Nat->Ev->Prop):∀{n a:Nat}{ρ:Ev},(∀i,a<=i->i<a+n->∀ρ,Iv i ρ->∃ρ2,cW G F (.int (i:Int)) ρ=.ok (.nx ρ2)/\Iv (i+1) ρ2)->Iv a ρ->∃ρ',V4 G F (fU a n) ρ=.ok (.nx ρ')/\Iv (a+n) ρ'
 |0,a,ρ,_,h=>⟨ρ,rfl,h⟩
 |n+1,a,ρ,d,h=>by
  obtain⟨ρ2,e,f⟩:=d a (aAl _) (by lia) ρ h;obtain⟨ρ',g,j⟩:=qQ Iv (n:=n) (λi l f=>d i (by lia) (by lia)) f;refine⟨ρ',?_,by rw[show a+(n+1)=a+1+n by lia];exact j⟩;show V4 G F (.int (a:Int)::fU (a+1) n) ρ=_;unfold cW at e;cases b:G (.int (a:Int)) ρ with
  |ok k=>rw[b]at e;exact(U6 b e).trans g
  |ex z=>rw[b]at e;cases e
  |bad=>rw[b]at e;cases e
def ZY(N:List (D×D)):List D:=N.map (·.1)
def Cov(S:List G.V)(N:List (D×D))(i j k:Nat):Prop:=∀A B C,S[i]?=some A->S[j]?=some B->S[k]?=some C->(G.Up S A B C->fd4 (G.j1 A B C)∈ZY N)/\(G.Dn S A B C->fd4 (G.j1 A C B)∈ZY N)
def VM(S:List G.V)(N:List (D×D))(i j k:Nat):Prop:=∀b a d,b<a->a<d->(b<i\/(b=i/\(a<j\/(a=j/\d<k))))->Cov S N b a d
def gx{G:D->Ev->R Ev}{F:Ev->R Out}{Post:Ev->Prop}{n a:Nat}{ρ:Ev}(Iv:Nat->Ev->Prop)(d:∀i,a<=i->i<a+n->∀ρ,Iv i ρ->∃ρ2,cW G F (.int (i:Int)) ρ=.ok (.nx ρ2)/\Iv (i+1) ρ2)(h0:Iv a ρ)(b:∀ρ',Iv (a+n) ρ'->Post ρ'):∃ρ2,V4 G F (fU a n) ρ=.ok (.nx ρ2)/\Post ρ2:=by obtain⟨ρ',e,h⟩:=qQ Iv d h0;exact⟨ρ',e,b ρ' h⟩
def VA{G:D->Ev->R Ev}{F b:Ev->R Out}{d:D}{n a:Nat}{ρ:Ev}(Iv:Nat->Ev->Prop)(f:∀i,a<=i->i<a+n->∀ρ,Iv i ρ->∃ρ2,cW G F (.int (i:Int)) ρ=.ok (.nx ρ2)/\Iv (i+1) ρ2)(h0:Iv a ρ)(g:∀ρ',Iv (a+n) ρ'->N9 (b ρ')=.ok d):N9 (D1 (V4 G F (fU a n) ρ) b)=.ok d:=by obtain⟨ρ',e,h⟩:=qQ Iv f h0;rw[e];exact g ρ' h
end M
namespace DL
open PySem PySem.Spec L2
open PyProof.Rows hiding St
variable [Tabs]
end DL
namespace M
open PySem L2 DL
variable [Tabs]
def jQ{α β γ:Type}{d:D->Ev->R Ev}{fe:Ev->R D}{ρ:Ev}{K:List D->R γ}(rep:α->D)(b:β->D)(g:α->β)(l:List α)(e:l.length<=30000)(h:∀a∈l,∃ρ1,d (rep a) ρ=.ok ρ1/\fe ρ1=.ok (b (g a))):(if(l.map rep).length<=sizeLine then(o7 d (λ_=>.ok true) fe ρ (l.map rep)).bind K else .bad)=K ((l.map g).map b):=by rw[hV (aAp (by rw[aAh];exact e) (by decide)),TD rep b g l h];rfl
def u9{α β:Type}{r:R α}{x:α}{F:α->R β}{y:R β}(a:r=.ok x)(b:F x=y):r.bind F=y:=by rw[a];exact b
def tV{α:Type}{r:R Bool}{A B:R α}(h:r=.ok false):(r.bind λt=>if t=true then A else B)=B:=by rw[h];rfl
def QC{α:Type}{r:R Bool}{A B:R α}(h:r=.ok true):(r.bind λt=>if t=true then A else B)=A:=by rw[h];rfl
def HU{f g:Ev->R Bool}{ρ:Ev}(a:f ρ=.ok false)(b:g ρ=.ok false):orB f g ρ=.ok false:=by unfold orB;rw[a];exact b
def jy{f:Ev->R Bool}{ρ:Ev}(h:f ρ=.ok true):XY f ρ=.ok false:=by unfold XY;rw[h];rfl
def SL(l:List Int):OR [.lst (l.map D.int)]=.ok (.int l.sum):=by simp only[OR,rH]
def a5e{α:Type}{r:R α}{x:α}{F:α->R Out}{J:Ev->Prop}(a:r=.ok x)(b:∃ρ2,F x=.ok (.nx ρ2)/\J ρ2):∃ρ2,r.bind F=.ok (.nx ρ2)/\J ρ2:=by rw[a];exact b
def qy{i:Nat}{F:Ev->R Out}{d:D}{ρ ρ':Ev}{J:Ev->Prop}(e:ρ.set i (.v d)=ρ')(h:∃ρ2,F ρ'=.ok (.nx ρ2)/\J ρ2):∃ρ2,cW (λd ρ=>.ok (ρ.set i (Sl.v d))) F d ρ=.ok (.nx ρ2)/\J ρ2:=by subst e;exact h
def tz{f g:Ev->R Bool}{ρ:Ev}(h:f ρ=.ok false):DM f g ρ=.ok false:=by unfold DM;rw[h];rfl
def IC{f g:Ev->R Bool}{ρ:Ev}{b:R Bool}(h:f ρ=.ok true)(a:g ρ=b):DM f g ρ=b:=by unfold DM;rw[h];exact a
def fw{ns:List Int}(h:ns≠[]):FW [.lst (ns.map D.int)]=.ok (.int (KB ns)):=by simp only[FW,rH];exact hV (by simpa using h)
def rR{α:Type}{r:R α}{x:α}{F:α->R Out}{a:Ev->R Out}{d:D}(b:r=.ok x)(e:N9 (D1 (F x) a)=.ok d):N9 (D1 (r.bind F) a)=.ok d:=by rw[b];exact e
def cE{f:Ev->R D}{ρ:Ev}{a:D}(b:f ρ=.ok a):l9 f S7 ρ=.ok [a]:=by unfold l9;rw[b];rfl
def eJ{f g:Ev->R D}{ρ:Ev}{a b:D}(d:f ρ=.ok a)(e:g ρ=.ok b):l9 f (l9 g S7) ρ=.ok [a,b]:=by unfold l9;rw[d,e];rfl
def getD_at{l:List G.V}{j:Nat}(h:j<l.length):l[j]?=some (l.getD j 0):=by rw[aAo,aAi h];rfl
def iM{l:List G.V}{j:Nat}(h:j<l.length):l.getD j 0∈l:=aAx (getD_at h)
def oj(l:List G.V):Prop:=aV 900 l/\G.i9 l/\(i4 l).length<=23
section
variable{l:List G.V} (h:oj l)
include h
theorem oj.solid:G.i9 (i4 l):=fL h.2.1 λv a=>l3.mpr a
theorem oj.ac7:(∀f,f∈j4 (i4 l)↔G.IsFace (i4 l) f.1 f.2)/\j4 (i4 l)≠[]/\(j4 (i4 l)).Nodup:=by obtain⟨a,b,d⟩:=h;obtain⟨i,j,_⟩:=KO a b d;obtain⟨m,r,e,L⟩:=cA a b (by lia);have g:=M4 L (by rw[<-e];exact d);rw[<-e]at g;exact⟨i,j,P1 (W9 g.2)⟩
end
def lp{α:Type}:Nat->(Nat->α->α)->α->α
 |0,_,a=>a
 |n+1,f,a=>f n (lp n f a)
structure Bd4(L:List G.V):Prop where
 sz:aV 900 L
 sol:G.i9 L
 ord:L.Pairwise λa b=>G.d9 (b-a)
 len:L.length<=23
 cor:∀X∈L,∃f:G.V×Int,G.IsFace L f.1 f.2/\X∈G.c8 L f
section
variable{L:List G.V} (h:Bd4 L)
include h
theorem Bd4.self:i4 L=L:=mO h.ord
theorem Bd4.lok:oj L:=⟨h.sz,h.sol,by rw[h.self];exact h.len⟩
theorem Bd4.ac7:(∀f,f∈j4 L↔G.IsFace L f.1 f.2)/\j4 L≠[]/\(j4 L).Nodup:=by have:=h.lok.ac7;rw[h.self]at this;exact this
theorem Bd4.few:(j4 L).length<=42:=by
 obtain⟨a,b,c⟩:=h.ac7;have:=(G.gS h.sol h.ord a c b).1;have:=h.len
 lia
end
section
variable{L:List G.V} (h:Bd4 L)
include h
end
def GR{J:List G.V}(f:aV 900 J)(g:G.i9 J)(h:(i4 J).length<=23):Bd4 (B0 J):=by
 obtain⟨a,b,d,e,i,l⟩:=JO f g h;refine⟨b,a,A9 _,e,λX j=>?_⟩;have k:X∈B0 (B0 J):=by rw[i];exact j
 have:=(jY b a (by rw[d];exact e) X).mp k;rw[d]at this;exact this
structure Mp(φ β:G.V->G.V)(k:Int):Prop where
 sub:∀X Y,φ X-φ Y=β (X-Y)
 vol:∀u v w,G.dot (G.cr (β u) (β v)) (β w)=k*G.dot (G.cr u v) w
 k0:k≠0
 inj:∀X Y,φ X=φ Y->X=Y
structure MpF(φ β:G.V->G.V)(L L':List G.V)(f f':G.V×Int)(c:Int):Prop where
 face:G.IsFace L f.1 f.2
 face':G.IsFace L' f'.1 f'.2
 c0:0<c
 dot:∀u,G.dot f'.1 (β u)=c*G.dot f.1 u
 on:∀X,G.dot f'.1 (φ X)=f'.2↔G.dot f.1 X=f.2
section
variable{φ β:G.V->G.V}{k:Int}{L L':List G.V}{f f':G.V×Int}{c:Int} (m:Mp φ β k) (h:Bd4 L) (h':Bd4 L') (hq:∀Y,Y∈L'↔∃X∈L,Y=φ X) (F:MpF φ β L L' f f' c)
include m h h' hq F
end
section
variable{φ β:G.V->G.V}{k:Int}{L L':List G.V} (m:Mp φ β k) (h:Bd4 L) (h':Bd4 L') (hq:∀Y,Y∈L'↔∃X∈L,Y=φ X)
include m h h' hq
end
section
variable{L:List G.V}{V:G.V} (B:Bd4 L) (h:oj (L++[V]))
include B h
end
def FC{a b:Int}(h:a=b):UR (.int a) (.int b)=.ok (.bl true):=by rw[xH,h,beq_self_eq_true]
def ZI{a b:Int}(h:a≠b):UR (.int a) (.int b)=.ok (.bl false):=by rw[xH,beq_false_of_ne h]
def TC{α:Type}(f:α->D)(l:List α):IT [.lst (l.map f)]=.ok (.int (l.length:Int)):=by simp only[IT,aAh]
def QK(a:Int):MC (.int a) (.int a)=.ok (.bl false):=VQ (aAY 40)
def WM(n:Nat):List G.V:=(aBc n).map λ(k:Nat)=>⟨(k:Int).fmod 4,(k:Int).fdiv 4,(k:Int).fmod 4*(k:Int).fmod 4+(k:Int).fdiv 4*(k:Int).fdiv 4⟩
def rJ(c:Int):List G.V:=if(c.fdiv 6048).fmod 2=1 then WM (8+4*(c.fdiv 378).fmod 3).toNat else xD (3+(c.fdiv 378).fmod 16).toNat (U1 c).1 (U1 c).2.1 (U1 c).2.2
def cG(c:Int)(t:List Int):List G.V:=
 if c.fmod 7=0 then LW (U1 c).1 (U1 c).2.1 (U1 c).2.2
 else if c.fmod 7=1 then wT (U1 c).1 (U1 c).2.1 (U1 c).2.2
 else if c.fmod 7=2 then wS (U1 c).1 (U1 c).2.1 (U1 c).2.2
 else if c.fmod 7=3 then rJ c
 else jE (U1 c).1 (U1 c).2.1 (U1 c).2.2++t.map (AC c)
def VU{c:Int}(t:List Int):(c.fmod 7=3->cG c t=rJ c)/\(c.fmod 7≠3->cG c t=pR c t):=by
 constructor
 .intro h;unfold cG;rw[h];rfl
 intro h;unfold cG pR;rw[h9 h,h9 h]
def OW{c k a b:Int}(e:0<k)(g:0<=a)(d:0<=b):∃n:Nat,a+b*c.fmod k=(n:Int)/\(n:Int)<=a+b*(k-1)/\a<=(n:Int)/\(a+b*c.fmod k).toNat=n:=by have f:=C4 (a:=c) e;have h:=aBk d f.1;have i:=aAB (show c.fmod k<=k-1 by lia) d;exact⟨(a+b*c.fmod k).toNat,by lia,by lia,by lia,rfl⟩
def ZP(c:Int):∃n:Nat,8+4*(c.fdiv 378).fmod 3=(n:Int)/\n<=16/\8<=n/\(8+4*(c.fdiv 378).fmod 3).toNat=n:=by obtain⟨n,a,b,d,e⟩:=OW (c:=c.fdiv 378) (k:=3) (a:=8) (b:=4) (by decide) (by decide) (by decide);exact⟨n,a,by lia,by lia,e⟩
def IK(c:Int):∃n:Nat,3+(c.fdiv 378).fmod 16=(n:Int)/\n<=18/\3<=n/\(3+(c.fdiv 378).fmod 16).toNat=n:=by obtain⟨n,a,b,d,e⟩:=OW (c:=c.fdiv 378) (k:=16) (a:=3) (b:=1) (by decide) (by decide) (by decide);rw[Int.one_mul]at a e;exact⟨n,a,by lia,by lia,e⟩
def OS(c:Int):(∀P∈rJ c,Sz 100 P)/\(rJ c).length<=19/\G.i9 (rJ c):=by
 obtain⟨⟨l,o⟩,⟨p,d⟩,⟨c0,q⟩⟩:=nT c;unfold rJ;split
 .obtain⟨n,h,i,r,e⟩:=ZP c;rw[e];refine⟨λP a=>?_,by unfold WM;rw[aAh,aCN];lia,?_⟩
  .obtain⟨k,b,rfl⟩:=aAj.mp a;have f:=aBa.mp b;have d:bits ((k:Int).fmod 4)<=3:=z6 (by decide) (by decide);have g:bits ((k:Int).fdiv 4)<=10:=bits_fdiv (j8 (by lia) (by lia));exact⟨f6 d,f6 g,f6 (bits_add (n:=20) (f6<|bits_mul d d)<|bits_mul g g)⟩
  have m:∀k<n,(⟨((k:Nat):Int).fmod 4,(k:Int).fdiv 4,(k:Int).fmod 4*(k:Int).fmod 4+(k:Int).fdiv 4*(k:Int).fdiv 4⟩:G.V)∈WM n:=λk b=>aAj.mpr ⟨k,aBa.mpr b,rfl⟩;exact iB (m 0 (by lia)) (m 1 (by lia)) (m 2 (by lia)) (m 4 (by lia)) (by decide)
 obtain⟨n,h,i,j,e⟩:=IK c;rw[e];refine⟨λP a=>?_,by unfold xD;rw[aAz,aAh,aCN];simp;lia,uL j c0⟩;rcases aAD.mp a with a|a
 .obtain⟨k,b,rfl⟩:=aAj.mp a;have f:=aBa.mp b;have bk:bits (k:Int)<=10:=j8 (by lia) (by lia);exact⟨f6 bk,f6 (bits_mul bk bk),show bits 0<=100 by decide⟩
 rw[aAK.mp a];exact⟨j8 (by lia) (by lia),j8 (by lia) (by lia),j8 (by lia) (by lia)⟩
def SM(c:Int){t:List Int}(d:t.length<=5):(∀P∈cG c t,Sz 100 P)/\(cG c t).length<=19/\G.i9 (cG c t):=by
 obtain⟨e,f⟩:=VU (c:=c) t;by_cases h:c.fmod 7=3
 .rw[e h];exact OS c
 rw[f h];obtain⟨a,b⟩:=WR c d;exact⟨a,by lia,CL c t⟩
def oC:List D->R D:=BR λY=>gC (GY (gD 1048576 Y)<|.lst ((cG (cI Y 0)<|dN Y).map vd))
def QQ{Y l:List D}(f:gD 1048576 Y)(sub:∀d∈l,d∈Y):∃ns:List Int,l=ns.map D.int/\∀n∈ns,bits n<=1048576:=by
 induction l with
 |nil=>exact⟨[],rfl,λ_ h=>nomatch h⟩
 |cons d l g=>
  obtain⟨ns,e,b⟩:=g λd j=>sub d (.tail _ j);obtain⟨i,rfl,k⟩:=f d (sub d<|.head _);refine⟨i::ns,by rw[e];rfl,λn a=>?_⟩;rcases aAd.mp a with rfl|a
  .exact k
  exact b n a
def uA(a:Int):G.V:=if a=0 then⟨1,0,0⟩else if a=1 then⟨0,-1,0⟩else⟨0,0,1⟩
def P6(a m:Int)(v:G.V):G.V:=if a=0 then⟨m,v.x,v.y⟩else if a=1 then⟨v.x,-m,v.y⟩else⟨v.x,v.y,m⟩
def iP{a:Int}{p:Prop}(h0:a=0->p)(d:a=1->p)(f:a≠0->a≠1->p):p:=by
 by_cases e:a=0
 .exact h0 e
 by_cases b:a=1
 .exact d b
 exact f e b
def lQ(a m:Int)(P:G.V):P+(m-G.dot (uA a) P)*uA a=P6 a m (C6 a P):=by
 unfold uA P6 C6;refine iP (a:=a) (λe=>?_) (λe=>?_) λe b=>?_
 .subst e;apply G.ext<;>simp[G.dot];lia
 .subst e;apply G.ext<;>simp[G.dot];lia
 simp only[h9 e,h9 b];apply G.ext<;>simp[G.dot];lia
def nV(a m:Int)(p q r:G.V):G.i3 (uA a) (P6 a m q-P6 a m p) (P6 a m r-P6 a m p)=G.i3 ⟨0,0,1⟩ (q-p) (r-p):=by
 unfold uA P6;refine iP (a:=a) (λe=>?_) (λe=>?_) λe b=>?_
 .subst e;simp[G.i3,G.dot]
 .subst e;simp[G.i3,G.dot];grind
 simp only[h9 e,h9 b];simp[G.i3,G.dot]
def aR(a m:Int)(v:G.V):G.dot (uA a) (P6 a m v)=m:=by
 unfold uA P6;refine iP (a:=a) (λe=>?_) (λe=>?_) λe b=>?_
 .subst e;simp[G.dot]
 .subst e;simp[G.dot]
 simp only[h9 e,h9 b];simp[G.dot]
def jj(a m:Int)(p q:G.V):G.dot (G.cr (P6 a m p-0) (P6 a m q-0)) (uA a)=rT p q:=by
 unfold uA P6 rT;refine iP (a:=a) (λe=>?_) (λe=>?_) λe b=>?_
 .subst e;simp[G.dot]
 .subst e;simp[G.dot];grind
 simp only[h9 e,h9 b];simp[G.dot]
def XO{a m:Int}{v w:G.V}(b:v.z=0)(d:w.z=0):G.d9 (P6 a m w-P6 a m v)↔G.d9 (w-v):=by
 unfold P6 G.d9;refine iP (a:=a) (λe=>?_) (λe=>?_) λe f=>?_
 .subst e;simp[b,d]
 .subst e;simp[b,d]
 simp only[h9 e,h9 f];simp[b,d]
def oK{a m:Int}{v w:G.V}(f:v.z=0)(g:w.z=0)(h:P6 a m v=P6 a m w):v=w:=by
 have b:=ip G.V.x h;have d:=ip G.V.y h;have i:=ip G.V.z h;unfold P6 at b d i;refine iP (a:=a) (λe=>?_) (λe=>?_) λe j=>?_
 .subst e;exact G.ext d i (by rw[f,g])
 .subst e;exact G.ext b i (by rw[f,g])
 simp only[h9 e,h9 j]at b d;exact G.ext b d (by rw[f,g])
def GC(a:Int):G.aZ (uA a)/\G.dot (uA a) (uA a)=1:=by
 unfold uA;refine iP (a:=a) (λe=>?_) (λe=>?_) λe b=>?_
 .subst e;exact⟨rfl,rfl⟩
 .subst e;exact⟨rfl,rfl⟩
 simp only[h9 e,h9 b];exact⟨rfl,rfl⟩
def fB{l:List G.V}(h:l.Nodup):(G.u8 l).Nodup:=by have:=G.xM l;rw[<-this]at h;exact(aBt.mp h).imp λn e=>n (by rw[e])
def RG(r:List G.V):C8 r=((G.u8 r).map λe=>rT e.1 e.2).sum:=by unfold C8 G.u8;rw[List.zip,List.map_zipWith]
section
variable{a m:Int}{S Q:List G.V} (sh:G.Sheet ⟨0,0,1⟩ S) (hz:∀v∈S,v.z=0)
include sh hz
theorem BA(B:G.IsFace Q (uA a) m)(C:Q.Pairwise (λa b=>G.d9 (b-a)))(d:∀X,X∈G.o6 (uA a) m Q↔∃v∈S,X=P6 a m v):G.dot (G.ar 0 (G.u8 (G.c8 Q (uA a,m)))) (uA a)=C8 (G.j0 ⟨0,0,1⟩ S):=by
 have r:=B.aa2 C;have t:∀{p q:G.V},p∈S->q∈S->(G.EdgeOf (uA a) (λX=>X∈G.o6 (uA a) m Q) (P6 a m p) (P6 a m q)↔G.EdgeOf ⟨0,0,1⟩ (λX=>X∈S) p q):=λ{p q} g j=>by
  have u:∀v∈S,G.zy (P6 a m p) (P6 a m q) (P6 a m v)↔G.zy p q v:=λv f=>by have i:∀{x y:G.V},x∈S->y∈S->(P6 a m x=P6 a m y↔x=y):=λk o=>⟨oK (hz _ k) (hz _ o),λe=>by rw[e]⟩;have l:∀{x y:G.V},x∈S->y∈S->(G.d9 (P6 a m x-P6 a m y)↔G.d9 (x-y)):=λk o=>XO (hz _ o) (hz _ k);unfold G.zy;rw[l j g,l g j,l f g,l j f,l g f,l f j,i f g,i f j]
  constructor
  .intro E;refine⟨g,j,λe=>E.ne (by rw[e]),λv f=>?_,λv f z=>?_⟩
   .rw[<-nV a m];exact E.left _ ((d _).mpr ⟨v,f,rfl⟩)
   exact(u v f).mp (E.btw _ ((d _).mpr ⟨v,f,rfl⟩) (by rw[nV];exact z))
  intro E;refine⟨(d _).mpr ⟨p,g,rfl⟩,(d _).mpr ⟨q,j,rfl⟩,λe=>E.ne (oK (hz p g) (hz q j) e),λX s=>?_,λX s z=>?_⟩
  .obtain⟨v,f,rfl⟩:=(d X).mp s;rw[nV];exact E.left v f
  obtain⟨v,f,rfl⟩:=(d X).mp s;rw[nV]at z;exact(u v f).mpr (E.btw v f z)
 have H:(G.u8<|G.c8 Q (uA a,m)).Perm ((G.u8<|G.j0 ⟨0,0,1⟩ S).map λe=>(P6 a m e.1,P6 a m e.2)):=by
  refine(aBQ (fB r.aa3) ?_).mpr λe=>?_
  .refine aBt.mpr ((fB sh.aa3).imp_of_mem λ{x y} k o n q=>n ?_);have k:=sh.aa1.mp k;have o:=sh.aa1.mp o;injection q with I J;exact aEw (oK (hz _ k.p) (hz _ o.p) I) (oK (hz _ k.q) (hz _ o.q) J)
  rw[aAj];constructor
  .intro h;have E:=r.aa1.mp h;obtain⟨p,g,w⟩:=(d _).mp E.p;obtain⟨q,j,A⟩:=(d _).mp E.q;rw[w,A]at E;exact⟨(p,q),sh.aa1.mpr ((t g j).mp E),aEw w.symm A.symm⟩
  rintro⟨x,h,rfl⟩;have E:=sh.aa1.mp h;exact r.aa1.mpr ((t E.p E.q).mpr E)
 rw[G.HI H,RG];unfold G.ar;rw[G.nW,aBd,aBd];congr 1;exact aDS λe _=>jj a m e.1 e.2
end
theorem qB(f:G.V->Int):∀l:List G.V,∃M:Int,∀X∈l,f X<M
 |[]=>⟨0,λ_ h=>nomatch h⟩
 |A::l=>by
  obtain⟨M,h⟩:=qB f l;refine⟨max M (f A+1),λX a=>?_⟩;rcases aAd.mp a with rfl|a
  .lia
  have:=h X a;lia
def FD{l:List G.V}(h:G.i9 l){u:G.V}(i:G.dot u u=1):∃A∈l,∃B∈l,∃C∈l,G.dot u (G.cr (B-A) (C-A))≠0:=by
 obtain⟨A,j,B,a,C,f,E,g,e⟩:=h;refine aCY λk=>e ?_;have q:∀{X Y:G.V},X∈l->Y∈l->G.dot u (G.cr (X-A)<|Y-A)=0:=λ{X Y} m o=>aCY λn=>k ⟨A,j,X,m,Y,o,n⟩;have p:=q a f;have r:=q f g;have s:=q g a;generalize B-A=b at*
 generalize C-A=c at*
 generalize E-A=d at*
 have id:G.i3 b c d*G.dot u u=G.dot u b*G.dot u (G.cr c d)+G.dot u c*G.dot u (G.cr d b)+G.dot u d*G.dot u (G.cr b c):=by simp[G.i3,G.dot];grind
 rw[p,r,s,i]at id
 lia
def kP{l:List G.V}(h:G.i9 l)(a m:Int):∃A∈l,∃B∈l,∃C∈l,G.dot (uA a) (G.cr (P6 a m (C6 a B)-P6 a m (C6 a A)) (P6 a m (C6 a C)-P6 a m (C6 a A)))≠0:=by obtain⟨A,b,B,d,C,f,e⟩:=FD h (GC a).2;refine⟨A,b,B,d,C,f,λz=>e ?_⟩;rw[<-lQ,<-lQ,<-lQ]at z;rw[<-z];simp[G.dot];grind
def GX{u v:G.V}(h:G.dot u v≠0):v≠0:=λz=>h (by rw[z,G.C3])
def NX{l:List G.V}{a m:Int}{X:G.V}:(∃v∈i4 (l.map (C6 a)),X=P6 a m v)↔X∈l.map (λP=>P6 a m (C6 a P)):=by
 rw[aAj];constructor
 .rintro⟨v,d,rfl⟩;obtain⟨P,b,rfl⟩:=aAj.mp (l3.mp d);exact⟨P,b,rfl⟩
 rintro⟨P,b,rfl⟩;exact⟨_,l3.mpr (aAI b),rfl⟩
def RJ{l:List G.V}{a:Int}:∀v∈i4 (l.map (C6 a)),v.z=0:=λv b=>by obtain⟨P,_,rfl⟩:=aAj.mp (l3.mp b);exact XZ a P
def AU(a m:Int)(n P:G.V):G.dot n (P6 a m (C6 a P))=G.dot (n-G.dot n (uA a)*uA a) P+m*G.dot n (uA a):=by rw[<-lQ];simp[G.dot];grind
section
variable{T L:List G.V}{a M:Int} (sT:G.i9 T) (oT:T.Pairwise (λa b=>G.d9 (b-a))) (sL:G.i9 L)
 (below:∀X∈T,G.dot (uA a) X<M) (foot:∀P∈L,∃X∈T,C6 a X=C6 a P) (cov:∀n,∀X∈T,∃P∈L,G.dot n (P6 a M (C6 a X))<=G.dot n (P6 a M (C6 a P)))
include sT oT sL below foot cov
theorem AQ{fs:List (G.V×Int)}(b:∀f,f∈fs↔G.IsFace T f.1 f.2)(l:fs.Nodup):(fs.map λf=>max 0 (G.dot (G.ar 0 (G.u8 (G.c8 T f))) (uA a))).sum=C8 (w4 a L)/\(fs.map λf=>max 0 (-G.dot (G.ar 0 (G.u8 (G.c8 T f))) (uA a))).sum=C8 (w4 a L)/\0<C8 (w4 a L):=by
 have C:G.Cap T (L.map λP=>P6 a M (C6 a P)) (i4<|T++L.map λP=>P6 a M (C6 a P)) (uA a) M:=by
  refine⟨(GC a).1,(GC a).2,below,λY m=>?_,λn X d=>?_,?_,λX=>by rw[l3,aAD],oT,A9 _,sT⟩
  .obtain⟨P,g,rfl⟩:=aAj.mp m;obtain⟨X,d,e⟩:=foot P g;exact⟨X,d,by rw[lQ,e]⟩
  .obtain⟨P,g,h⟩:=cov n X d;exact⟨_,aAI g,by rw[lQ];exact h⟩
  obtain⟨A,o,B,q,E,r,e⟩:=kP sL a M;exact⟨_,aAI o,_,aAI q,_,aAI r,GX e⟩
 have e:=BA (bP (a:=a) sL) RJ C.top C.oQ λX=>by
  rw[NX,G.c5,C.mem];constructor
  .rintro⟨i|i,s⟩
   .have:=below X i;lia
   exact i
  exactλh=>⟨.inr h,C.on h⟩
 have p:=(G.IJ C.sQ C.oQ (f:=(uA a,M)) C.top).1;rw[G.aN]at p;obtain⟨j,k⟩:=C.sum b l;rw[e]at j k p;exact⟨j,k,p⟩
end
def jF{L:List G.V}(e:G.i9 L)(g:L.Pairwise (λa b=>G.d9 (b-a)))(a:Int){fs:List (G.V×Int)}(d:∀f,f∈fs↔G.IsFace L f.1 f.2)(h:fs.Nodup):(fs.map λf=>max 0 (G.dot (G.ar 0 (G.u8 (G.c8 L f))) (uA a))).sum=C8 (w4 a L)/\(fs.map λf=>max 0 (-G.dot (G.ar 0 (G.u8 (G.c8 L f))) (uA a))).sum=C8 (w4 a L)/\0<C8 (w4 a L):=by obtain⟨M,i⟩:=qB (G.dot<|uA a) L;exact AQ e g e i (λP j=>⟨P,j,rfl⟩) (λn X k=>⟨X,k,aBy _⟩) d h
theorem MQ{α:Type}{g:α->Int}{x:α}:∀{l:List α},(∀y∈l,0<=g y)->x∈l->g x<=(l.map g).sum
 |[],_,h=>nomatch h
 |y::l,h,b=>by
  have n:∀m:List α,(∀y∈m,0<=g y)->0<=(m.map g).sum:=λm=>by
   induction m with
   |nil=>intro _;exact aBy 0
   |cons z m d=>intro q;rw[aAk,aAZ];have:=q z (.head _);have:=d λw a=>q w (.tail _ a);lia
  rw[aAk,aAZ];rcases aAd.mp b with rfl|b
  .have:=n l λw a=>h w (.tail _ a);lia
  have:=MQ (λw a=>h w (.tail _ a)) b;have:=h y (.head _);lia
def AV{L K:List G.V}(y:G.i9 L)(E:G.i9 K)(r:∀n,∀X∈L,∃Y∈K,G.dot n X<=G.dot n Y)(a:Int):C8 (w4 a L)<=C8 (w4 a K):=by
 have i:∀(m:Int) (P:G.V),C6 a (P6 a m<|C6 a P)=C6 a P:=λm P=>by
  unfold P6 C6;refine iP (a:=a) (λe=>?_) (λe=>?_) λe O=>?_
  .subst e;rfl
  .subst e;rfl
  simp only[h9 e,h9 O]
 have b:∀X,X∈i4 ((L.map λP=>P6 a 1 (C6 a P))++K.map λP=>P6 a 0 (C6 a P))↔(∃P∈L,X=P6 a 1 (C6 a P))\/∃P∈K,X=P6 a 0 (C6 a P):=λX=>by
  rw[l3,aAD,aAj,aAj];constructor
  .rintro(⟨P,h,e⟩|⟨P,h,e⟩)
   .exact .inl ⟨P,h,e.symm⟩
   exact .inr ⟨P,h,e.symm⟩
  rintro(⟨P,h,e⟩|⟨P,h,e⟩)
  .exact .inl ⟨P,h,e.symm⟩
  exact .inr ⟨P,h,e.symm⟩
 have H:=A9 ((L.map λP=>P6 a 1 (C6 a P))++K.map λP=>P6 a 0 (C6 a P));generalize i4 ((L.map λP=>P6 a 1 (C6 a P))++K.map λP=>P6 a 0 (C6 a P))=T at*
 obtain⟨A,Q,B,U,C,hC,e⟩:=kP E a 0;obtain⟨s,j,B',t,C',w,e'⟩:=kP y a 1;have I:G.i9 T:=by
  refine⟨_,(b _).mpr (.inr ⟨A,Q,rfl⟩),_,(b _).mpr (.inr ⟨B,U,rfl⟩),_,(b _).mpr (.inr ⟨C,hC,rfl⟩),_,(b _).mpr (.inl ⟨s,j,rfl⟩),λz=>e ?_⟩;have q:=G.BG (n:=uA a) (u:=P6 a 0 (C6 a B)-P6 a 0 (C6 a A)) (v:=P6 a 0 (C6 a C)-P6 a 0 (C6 a A)) (by rw[G.d8,aR,aR];rfl) (by rw[G.d8,aR,aR];rfl) (P6 a 1 (C6 a s)-P6 a 0 (C6 a A));rw[G.R0,z,G.d8,aR,aR]at q
  lia
 have J:G.IsFace T (uA a) 1:=by refine⟨(GC a).1,λX k=>?_,_,(b _).mpr (.inl ⟨s,j,rfl⟩),_,(b _).mpr (.inl ⟨B',t,rfl⟩),_,(b _).mpr (.inl ⟨C',w,rfl⟩),aR ..,aR ..,aR ..,GX e'⟩;rcases(b X).mp k with⟨P,_,rfl⟩|⟨P,_,rfl⟩<;>rw[aR]<;>decide
 obtain⟨fs,o,nd⟩:=G.oR I;have p:=(AQ (M:=2) I H E (λX k=>by rcases(b X).mp k with⟨P,_,rfl⟩|⟨P,_,rfl⟩<;>rw[aR]<;>decide) (λP d=>⟨_,(b _).mpr (.inr ⟨P,d,rfl⟩),i 0 P⟩) (λn X k=>by
  rcases(b X).mp k with⟨P,d,rfl⟩|⟨P,d,rfl⟩
  .obtain⟨Y,hY,le⟩:=r (n-G.dot n (uA a)*uA a) P d;refine⟨Y,hY,?_⟩;rw[i,AU,AU];lia
  exact⟨P,d,by rw[i];exact aBy _⟩) o nd).1
 have q:=BA (bP (a:=a) y) RJ J H λX=>by
  rw[NX,G.c5,aAj,b];constructor
  .rintro⟨⟨P,d,rfl⟩|⟨P,d,rfl⟩,N⟩
   .exact⟨P,d,rfl⟩
   rw[aR]at N;cases N
  rintro⟨P,d,rfl⟩;exact⟨.inl ⟨P,d,rfl⟩,aR ..⟩
 have g:=MQ (g:=λf=>max 0 (G.dot (G.ar 0<|G.u8<|G.c8 T f)<|uA a)) (x:=(uA a,1)) (l:=fs) (λf _=>by lia) ((o _).mpr J);rw[p,q]at g;show C8 (G.j0 ⟨0,0,1⟩ _)<=_
 lia
def jD(l:List G.V)(k:Nat):G.V×G.V:=(l.getD (if k=0 then l.length-1 else k-1) 0,l.getD k 0)
def JI(l:List G.V):List (G.V×G.V):=(aBc l.length).map (jD l)
def KM(l:List G.V):(JI l).Perm (G.u8 l):=by
 match l with
 |[]=>exact aGg _
 |a::r=>
  have b:(G.u8 (a::r)).length=r.length+1:=by unfold G.u8;simp
  have ne:G.u8 (a::r)≠[]:=λz=>by rw[z]at b;simp at b
  have e:JI (a::r)=(G.u8 (a::r)).getLast ne::(G.u8 (a::r)).dropLast:=by
   refine List.ext_getElem (by simp[JI,b]) λk f g=>?_;have h:k<r.length+1:=by simpa[JI]using f
   cases k with
   |zero=>simp only[JI,aCT,List.getElem_range,List.getElem_cons_zero,List.getLast_eq_getElem,b,jD,if_true];simp[G.u8,List.getElem_append,aAo]
   |succ k=>
    simp only[JI,aCT,List.getElem_range,aFI,List.getElem_dropLast,jD];have d:k<r.length:=by lia
    simp[G.u8,List.getElem_append,aAo,d,aBw d]
  rw[e];refine(aEP _ _).symm.trans ?_;rw[aEz]
def XH{l:List G.V}{k:Nat}(h:k<l.length):jD l k∈G.u8 l:=(KM l).mem_iff.mp (aAI<|aBa.mpr h)
def EY{J:List G.V}(h:oj J)(n:G.V){X:G.V}(f:X∈J):∃Y∈B0 J,G.dot n X<=G.dot n Y:=by
 have m:=h.solid;have o:=A9 J;have j:=jY h.1 h.2.1 h.2.2;have f:=l3.mpr f;generalize i4 J=P at*
 obtain⟨w,i⟩:=G.vG (P.flatMap λA=>P.map λB=>B-A);have i:∀A∈P,∀B∈P,G.d9 (B-A)->0<G.dot w (B-A):=λA d B p=>i _ (aAV.mpr ⟨A,d,aAI p⟩);obtain⟨Z,r,top⟩:=G.gO (G.dot n) P λz=>by rw[z]at f;cases f
 have k:∀{Y:G.V},Y∈P.filter (λY=>decide (G.dot n Y=G.dot n Z))↔Y∈P/\G.dot n Y=G.dot n Z:=λ{Y}=>by rw[aAX,decide_eq_true_eq]
 obtain⟨Y,s,g⟩:=G.gO (G.dot w) (P.filter λY=>decide (G.dot n Y=G.dot n Z)) λz=>by have:=k.mpr ⟨r,rfl⟩;rw[z]at this;cases this
 obtain⟨a,u⟩:=k.mp s;obtain⟨N,l⟩:=qB (λA=>G.dot w A-G.dot w Y) P;have v:0<N:=by have:=l Y a;lia
 have x:∀A∈P,A≠Y->G.dot (N*n+w) A<G.dot (N*n+w) Y:=λA d ne=>by
  have e:∀B:G.V,G.dot (N*n+w) B=N*G.dot n B+G.dot w B:=λB=>by simp[G.dot];grind
  rw[e,e];have t:=top A d;by_cases q:G.dot n A=G.dot n Z
  .have b:=g A (k.mpr ⟨d,q⟩);have:G.dot w A<G.dot w Y:=by
    rcases G.K0 A Y with z|z|z
    .exact absurd z ne
    .have:=i Y a A d z;rw[G.d8]at this;lia
    have:=i A d Y a z;rw[G.d8]at this;lia
   rw[q,u];lia
  have:=l A d;have:=aAB (show G.dot n A+1<=G.dot n Y by lia) (aAL v);rw[Int.mul_add]at this
  lia
 exact⟨Y,(j Y).mpr (G.NV m o a x),by have:=top X f;lia⟩
def SpL(Y:List D)(l:List G.V):Prop:=Y=l.map G8/\∀v∈l,v.z=0
open Classical in
def lvS(k:List G.V->List D->R D):List D->R D:=BR λY e=>if h:∃l,SpL Y l then k (choose h) e else .bad
open Classical in
def xx{k:List G.V->List D->R D}{ds:List D}{r:D}(h:lvS k ds=.ok r):∃l e,ds=.lst (l.map G8)::e/\k l e=.ok r:=by
 replace h:=Z3 h;obtain⟨Y,e,rfl,h⟩:=h;by_cases q:∃l,SpL Y l
 .rw[dif_pos q]at h;exact⟨_,e,by rw[<-(aDu q).1],h⟩
 rw[dif_neg q]at h;cases h
theorem OU:∀{l m:List G.V},(∀v∈l,v.z=0)->(∀v∈m,v.z=0)->l.map G8=m.map G8->l=m
 |[],[],_,_,_=>rfl
 |[],_::_,_,_,h=>by cases h
 |_::_,[],_,_,h=>by cases h
 |v::l,w::m,d,e,h=>by
  injection h with a f;have g:v.x=w.x:=by injection a with a;injection a with a;injection a
  have i:v.y=w.y:=by injection a with a;injection a with _ a;injection a with a;injection a
  rw[G.ext g i (by rw[d v (.head _),e w (.head _)]),OU (λx b=>d x (.tail _ b)) (λx b=>e x (.tail _ b)) f]
open Classical in
def XA(k:List G.V->List D->R D){l:List G.V}(h:∀v∈l,v.z=0)(e:List D):lvS k (.lst (l.map G8)::e)=k l e:=by have q:∃m,SpL (l.map G8) m:=⟨l,rfl,h⟩;show(if h:∃m,SpL (l.map G8) m then k (aDO h) e else .bad)=_;rw[dif_pos q];obtain⟨a,b⟩:=aDu q;rw[<-OU h b a]
def v2(k:Int->Int->List D->R D):List D->R D:=UF λY e=>oG (λa=>oG λb=>gC (k a b e)) Y
def SY{k:Int->Int->List D->R D}{ds:List D}{r:D}(h:v2 k ds=.ok r):∃a b e,ds=.tup [.int a,.int b]::e/\k a b e=.ok r:=by obtain⟨Y,e,rfl,h⟩:=qZ h;obtain⟨a,x,rfl,h⟩:=G6 h;obtain⟨b,y,rfl,h⟩:=G6 h;obtain⟨rfl,h⟩:=w9 h;exact⟨a,b,e,rfl,h⟩
def jX:List D->R D:=v2 λa b=>v2 λc d=>v2 λe f=>gC (GY (B2 a b/\B2 c d/\B2 e f)<|.int (uF ⟨a,b,0⟩ ⟨c,d,0⟩ ⟨e,f,0⟩))
def yO{A B C:G.V}(a:B2 A.x A.y)(b:B2 B.x B.y)(e:B2 C.x C.y):jX [G8 A,G8 B,G8 C]=.ok (.int (uF A B C)):=R6 (d:=.int (uF A B C)) ⟨a,b,e⟩
def iS:List D->R D:=v1 λx y z=>oG λa=>gC (GY (0<=a/\a<=2)<|G8<|C6 a ⟨x,y,z⟩)
def RO{P:G.V}{a:Int}(h:0<=a/\a<=2):iS [vd P,.int a]=.ok (G8 (C6 a P)):=R6 h
def pK:List D->R D:=v1 λx y z=>BR λY=>gC (GY (gD 1048576 Y/\Sz 100 ⟨x,y,z⟩)<|vd<|fS (cI Y 1) (cI Y 2) ⟨x,y,z⟩)
def OM:List D->R D:=oG λa=>gC (GY (0<=a/\a<=2)<|.bl true)
def jB:List D->R D:=oG λc=>gC (GY (bits c<=2000000)<|vd<|qN c)
def zW:List D->R D:=lvD λl=>oG λa=>gC (GY ((0<=a/\a<=2)/\Fw l)<|.lst ((w4 a l).map G8))
def UL{l:List G.V}{a:Int}(b:0<=a/\a<=2)(h:Fw l):zW [.lst (l.map vd),.int a]=.ok (.lst ((w4 a l).map G8)):=(xB _ l _).trans (R6 ⟨b,h⟩)
def nS:List D->R D:=lvD λl=>oG λa=>gC (GY ((0<=a/\a<=2)/\Fw l)<|.int (C8<|w4 a l))
def xX{l:List G.V}{a:Int}(b:0<=a/\a<=2)(h:Fw l):nS [.lst (l.map vd),.int a]=.ok (.int (C8 (w4 a l))):=(xB _ l _).trans (R6 ⟨b,h⟩)
def YM{a b:Int}(h:b<a):aj (.int a) (.int b)=.ok (.bl true):=by rw[lF,decide_eq_true h]
def fx{a b:Int}(h:¬b<a):aj (.int a) (.int b)=.ok (.bl false):=by rw[lF,decide_eq_false h]
def WO{a b:Int}(h:a<b):ltR (.int a) (.int b)=.ok (.bl true):=by rw[TM,decide_eq_true h]
def ArS(r:List G.V):Prop:=r≠[]/\r.length<=1000/\∀v∈r,B2 v.x v.y
def jM:List D->R D:=lvS λr=>gC (GY (ArS r)<|.int (C8 r))
def vF{r:List G.V}(z:∀v∈r,v.z=0)(h:ArS r):jM [.lst (r.map G8)]=.ok (.int (C8 r)):=(XA _ z []).trans (R6 h)
theorem zA(m:G.V):∀(t:List G.V) (a:G.V),(aCW rT (a::t) (t++[m])).sum+rT m a=(aCW (uF m) (a::t) t).sum
 |[],a=>by simp[rT];grind
 |b::t,a=>by
  have d:=zA m t b;simp only[aAJ,List.zipWith_cons_cons,aAZ]at d⊢;have:uF m a b=rT a b+rT m a-rT m b:=by simp only[uF,rT];grind
  lia
theorem JQ(m:G.V):∀t:List G.V,C8 (m::t)=(aCW (uF m) t t.tail).sum
 |[]=>by simp[C8,rT];grind
 |a::t=>by have:=zA m t a;show(rT m a::aCW rT (a::t) (t++[m])).sum=(aCW (uF m) (a::t) t).sum;rw[aAZ];lia
def NH(r:List G.V):C8 r=((aEh 1 (r.length-1-1)).map λk=>uF (r.getD 0 0) (r.getD k 0) (r.getD (k+1) 0)).sum:=by
 match r with
 |[]=>rfl
 |m::t=>
  rw[JQ];congr 1;refine List.ext_getElem (by simp) λi b a=>?_;have d:i<t.length-1:=by simpa using a
  rw[aCT,List.getElem_range',List.getElem_zipWith,List.getElem_tail];simp only[aAo];rw[show 1+1*i=i+1 by lia,aCE,aDi,aDi,aAi (by lia),aAi (by lia)];rfl
def YZ(a:Int)(r:List G.V):C8 (r.map (C6 a))=G.dot (G.ar 0 (G.u8 r)) (uA a):=by
 have e:∀p q:G.V,rT (C6 a p) (C6 a q)=G.dot (G.cr (p-0)<|q-0) (uA a):=λp q=>by
  unfold uA C6 rT;refine iP (a:=a) (λe=>?_) (λe=>?_) λe b=>?_
  .subst e;simp[G.dot]
  .subst e;simp[G.dot];grind
  simp only[h9 e,h9 b];simp[G.dot]
 unfold C8 G.ar G.u8;rw[G.nW,<-aGu,<-aGv,<-aBi,List.zipWith_map,aBd,List.zip,List.map_zipWith];congr 2
 funext p q
 exact e p q
def NU(a b:Int):QR [.int a,.int b]=.ok (.int (max a b)):=by rw[VB];congr 2;split<;>lia
def qK:List D->R D:=lvD λl=>BR λfs=>oG λa=>gC (GY ((Bd4 l/\fs=(j4 l).map (j6 l))/\0<=a/\a<=2)<|.bl true)
def LB{l:List G.V}{a:Int}(h:Bd4 l)(b:0<=a/\a<=2):qK [.lst (l.map vd),.lst ((j4 l).map (j6 l)),.int a]=.ok (.bl true):=(xB _ l _).trans (R6 ⟨⟨h,rfl⟩,b⟩)
def pk{J:Ev->Prop}{r:R Out}{F:Ev->R Out}(I:Ev->Prop)(a:∃ρ,r=.ok (.nx ρ)/\I ρ)(b:∀ρ,I ρ->∃ρ2,F ρ=.ok (.nx ρ2)/\J ρ2):∃ρ2,D1 r F=.ok (.nx ρ2)/\J ρ2:=by obtain⟨ρ,e,i⟩:=a;rw[e];exact b ρ i
def a1w{i j:Nat}{F:Ev->R Out}{a b:D}{ρ ρ':Ev}{J:Ev->Prop}(e:(ρ.set i (.v a)).set j (.v b)=ρ')(h:∃ρ2,F ρ'=.ok (.nx ρ2)/\J ρ2):∃ρ2,cW (fV 2 (P9 (λd ρ=>.ok (ρ.set i (.v d))) (P9 (λd ρ=>.ok (ρ.set j (.v d))) mY))) F (.tup [a,b]) ρ=.ok (.nx ρ2)/\J ρ2:=by subst e;exact h
def QH{f g k:Ev->R D}{ρ:Ev}{a b c:D}(d:f ρ=.ok a)(e:g ρ=.ok b)(h:k ρ=.ok c):l9 f (l9 g (l9 k S7)) ρ=.ok [a,b,c]:=by unfold l9;rw[d];show(R.bind (l9 g (l9 k S7) ρ) _)=_;rw[eJ e h];rfl
def ax{r:R D}{d:D}(h:r=.ok d):N9 (r.bind λd=>R.ok (Out.rt d))=.ok d:=by rw[h];rfl
def GK{a b:Int}(h:b<=a):ltR (.int a) (.int b)=.ok (.bl false):=by rw[TM,decide_eq_false (by lia)]
def a2o{S:List G.V}{v:G.V}(h:v∈S):inR true (G8 v) (.lst (S.map G8))=.ok (.bl false):=by
 have b:B1 (S.map G8)<=1:=by
  induction S with
  |nil=>simp[B1]
  |cons A S a=>
   clear h;rw[aAk,B1];have:∀S:List G.V,B1 (S.map G8)<=1:=λS=>by
    induction S with
    |nil=>simp[B1]
    |cons A S a=>rw[aAk,B1];exact Nat.max_le.mpr ⟨by simp[G8,G2,B1],a⟩
   exact Nat.max_le.mpr ⟨by simp[G8,G2,B1],this S⟩
 have e:ZT (G8 v) (S.map G8)=true:=by unfold ZT;exact aDN.mpr ⟨_,aAI h,S4 _⟩
 show(if B1 (S.map G8)<=40/\B1 [D.int v.x,.int v.y]<=30 then R.ok (D.bl<|ZT (G8 v) (S.map G8) !=true)else .bad)=_;rw[hV ⟨by lia,by simp[G2,B1]⟩,e];rfl
def pV4(i:Int):G.V:=⟨i.fmod 11-5,(i.fdiv 11).fmod 11-5,(i.fdiv 121).fmod 11-5⟩
def N4(l:List G.V)(n:Nat):Prop:=(∀P∈l,Sz 100 P)/\G.i9 l/\l.length+n<=21
def xk{l:List G.V}{n:Nat}(i:Int)(h:N4 l (n+1)):N4 (l++[pV4 i]) n:=by
 obtain⟨b,d,f⟩:=h;have k:∀z:Int,bits (z.fmod 11-5)<=100:=λz=>f6 (bits_sub (n:=10) (z6 (by decide) (by decide)) (by decide));refine⟨λP a=>?_,fL d λv e=>aBl _ e,by rw[aAz];simp;lia⟩;rcases aAD.mp a with a|a
 .exact b P a
 rw[aAK.mp a];exact⟨k _,k _,k _⟩
section
variable{l:List G.V}{n:Nat} (k f:Int) (h:N4 l n)
include h
theorem xI:oj (l.map (fS k f)):=⟨⟨λP a=>by obtain⟨Q,b,rfl⟩:=aAj.mp a;exact kq k f (h.1 Q b),by have:=h.2.2;rw[aAh];lia⟩,LV k f h.2.1,aAp (qX _) (by have:=h.2.2;rw[aAh];lia)⟩
def sA(l:List G.V) (k f:Int) (a:Nat):Int:=C8 (w4 (a:Int)<|B0<|l.map<|fS k f)
omit h
theorem zx(h:N4 l n)(a:Nat):0<=sA l k f a:=by have K:=xI k f h;have B:=GR K.1 K.2.1 K.2.2;obtain⟨b,_,d⟩:=B.ac7;exact aAL (jF B.sol B.ord (a:Int) b d).2.2
theorem YH{m:Nat}{V:G.V}(h:N4 l n)(h':N4 (l++[V]) m)(a:Nat):sA l k f a<=sA (l++[V]) k f a:=by have K:=xI k f h;have b:=xI k f h';have B:=GR K.1 K.2.1 K.2.2;have e:=GR b.1 b.2.1 b.2.2;refine AV B.sol e.sol (λn X d=>EY b n ?_) _;have d:=AK K.1 K.2.1 K.2.2 d;rw[aBi];exact aBl _ d
end
def w3(w:Nat->Int):List D:=[.int (w 0),.int (w 1),.int (w 2)]
def a2a{w:Nat->Int}{i:Nat}(h:i<3):bJ (.lst (w3 w)) (.int (i:Int))=.ok (.int (w i)):=by rcases(show i=0\/i=1\/i=2 by lia)with rfl|rfl|rfl<;>rfl
def bq{w:Nat->Int}{i k:Nat}{ρ:Ev}{A:Int}(h:i<3)(e:ρ[k]?=some (.o (w3 w))):UW k ρ (.int (i:Int)) (.int A)=.ok (.nx (ρ.set k (.o (w3 λj=>if j=i then A else w j)))):=by unfold UW;rw[e];rcases(show i=0\/i=1\/i=2 by lia)with rfl|rfl|rfl<;>rfl
theorem xW:∀l:List G.V,aG (l.map vd)=true
 |[]=>rfl
 |_::l=>xW l
def oF:List D->R D:=BR λY=>gC (GY (Y.length<=63/\gD 1048576 Y)<|.bl true)
end M
namespace K44
open PySem L2 DL M
def top(i:Nat):cv:=PySem.Challenge.pw_stakebodies_k44_whole_shadows_and_faces.main.body.getD i (.Pass ⟨0,0,0,0⟩)
abbrev gR:cv:=top 6
abbrev ET:List Str:=["thing"]
def AD:FnScope ET ["thing"] (c6 gR):=K6
abbrev Z9:cv:=top 7
abbrev sD:List Str:=["P", "Q"]
def rM:FnScope sD ["P", "Q"] (c6 Z9):=K6
abbrev iF:cv:=top 8
abbrev ER:List Str:=["u", "v"]
def BC:FnScope ER ["u", "v"] (c6 iF):=K6
abbrev bY:cv:=top 9
abbrev xC:List Str:=["u", "v"]
def sM:FnScope xC ["u", "v"] (c6 bY):=K6
abbrev P8:cv:=top 10
abbrev mD:List Str:=["numbers", "divisor", "number", "rest", "further"]
def jN:FnScope mD ["numbers"] (c6 P8):=K6
abbrev T7:cv:=top 11
abbrev nE:List Str:=["P", "Q", "R", "cross", "divisor", "upright"]
def lO:FnScope nE ["P", "Q", "R"] (c6 T7):=K6
abbrev lI:cv:=top 12
abbrev KQ:List Str:=["plane", "P", "height"]
def CM:FnScope KQ ["plane", "P"] (c6 lI):=K6
abbrev Q5:cv:=top 15
abbrev lD:List Str:=["ways", "way"]
def jU:FnScope lD ["ways"] (c6 Q5):=K6
abbrev D5:cv:=top 16
abbrev N1:List Str:=["points", "ways", "along", "upright"]
def nJ:FnScope N1 ["points"] (c6 D5):=K6
abbrev Z6:cv:=top 17
abbrev sV:List Str:=["points"]
def pW:FnScope sV ["points"] (c6 Z6):=K6
abbrev Y7:cv:=top 18
abbrev mV:List Str:=["plane", "points"]
def wV:FnScope mV ["plane", "points"] (c6 Y7):=K6
abbrev Z1:cv:=top 19
abbrev sH:List Str:=["pair", "points", "along", "upright", "outermost", "P", "way"]
def pE:FnScope sH ["pair", "points"] (c6 Z1):=K6
abbrev bA:cv:=top 20
abbrev vJ:List Str:=["points", "least", "upward", "touched"]
def rY:FnScope vJ ["points"] (c6 bA):=K6
abbrev kN:cv:=top 21
abbrev JC:List Str:=["upright", "P", "Q", "R"]
def CY:FnScope JC ["upright", "P", "Q", "R"] (c6 kN):=K6
abbrev aY:cv:=top 22
abbrev wB:List Str:=["upright", "points", "chain", "P"]
def sS:FnScope wB ["upright", "points"] (c6 aY):=K6
abbrev kE:cv:=top 23
abbrev KE:List Str:=["upright", "points", "there", "back"]
def FK:FnScope KE ["upright", "points"] (c6 kE):=K6
abbrev aD:cv:=top 24
abbrev rZ:List Str:=["ring"]
def pS:FnScope rZ ["ring"] (c6 aD):=K6
abbrev bG:cv:=top 25
abbrev xP:List Str:=["first", "about", "touched_by", "faces", "walked", "waiting", "pair", "plane", "ring", "step"]
def gB:FnScope xP ["first", "about", "touched_by"] (c6 bG):=K6
abbrev L8:cv:=top 26
abbrev gJ:List Str:=["points", "spread", "about", "touched_by"]
def mR:FnScope gJ ["points"] (c6 L8):=K6
abbrev bF:cv:=top 27
abbrev xQ:List Str:=["faces", "corners", "plane", "ring"]
def rW:FnScope xQ ["faces"] (c6 bF):=K6
abbrev lS:cv:=top 28
abbrev JT:List Str:=["points"]
def EU:FnScope JT ["points"] (c6 lS):=K6
abbrev lW:cv:=top 31
abbrev JK:List Str:=["thing"]
def CQ:FnScope JK ["thing"] (c6 lW):=K6
abbrev T2:cv:=top 32
abbrev dI:List Str:=["land", "axis", "flat"]
def wZ:FnScope dI ["land", "axis"] (c6 T2):=K6
abbrev R5:cv:=top 33
abbrev fZ:List Str:=["land", "axis"]
def qJ:FnScope fZ ["land", "axis"] (c6 R5):=K6
abbrev X1:cv:=top 35
abbrev rB:List Str:=["script", "k"]
def nF:FnScope rB ["script", "k"] (c6 X1):=K6
abbrev cB:cv:=top 36
abbrev vW:List Str:=["cell", "most", "x", "y"]
def sK:FnScope vW ["cell"] (c6 cB):=K6
abbrev D7:cv:=top 37
abbrev L9:List Str:=["script", "cell", "a", "b", "c", "kind", "some"]
def vZ:FnScope L9 ["script"] (c6 D7):=K6
abbrev bI:cv:=top 38
abbrev vS:List Str:=["spot", "script", "x", "y", "z", "cell", "most", "far"]
def sJ:FnScope vS ["spot", "script"] (c6 bI):=K6
abbrev eS:cv:=top 39
abbrev zG:List Str:=["P", "axis"]
def wO:FnScope zG ["P", "axis"] (c6 eS):=K6
abbrev cO:cv:=top 40
abbrev BI:List Str:=["one", "two", "three", "found"]
def wW:FnScope BI ["one", "two", "three"] (c6 cO):=K6
abbrev X8:cv:=top 41
abbrev mH:List Str:=["ring"]
def vX:FnScope mH ["ring"] (c6 X8):=K6
abbrev M3:cv:=top 42
abbrev Y5:List Str:=["land", "faces", "axis", "spots", "shadow", "area", "ups", "downs", "plane", "ring", "part", "k", "turns"]
def wC:FnScope Y5 ["land", "faces", "axis"] (c6 M3):=K6
abbrev fX:cv:=top 43
abbrev ZK:List Str:=["script", "near", "last", "cell", "land", "faces", "axis", "area"]
def UG:FnScope ZK ["script"] (c6 fX):=K6
def eV:cv:=(p9 L8).getD 2 (.Pass ⟨0,0,0,0⟩)
abbrev FN:Str:= "faces_of.<locals>.about"
def L0:cv:=(p9 L8).getD 3 (.Pass ⟨0,0,0,0⟩)
abbrev iU:Str:= "faces_of.<locals>.touched_by"
def tbK:List (Pos×Str):=[(HS eV,FN),(HS L0,iU)]
section
variable [Tabs]
variable{P:bM}{w:cp}{K:iu}{mg:cM}{base:cq}
variable{je xt ki qc:bc}
def iL(f:mg "isinstance"=none)(i:mg "bool"=none)(a:mg "int"=none)(g:fN K mg "is_whole" gR):A2 P w K mg base 1 "is_whole" 1 Y4:=by
 refine' p5 (k:=0) (F:=_) g AD (λj l m n=>?b) λe d o h=>?_
 case b=>refine' (e9<|j3<|TK (MP WI<|b8 0)<|OY<|xz<|MP RI<|b8 0)
 match e,h with
 |[x],h=>rw[<-h];cases x<;>rfl
def n9(g:fN K mg "way_between" Z9):A2 P w K mg base 1 "way_between" 2 w5:=by
 refine' p5 (k:=0) (F:=_) g rM (λf i j l=>?b) λe d m h=>?_
 case b=>refine' (e9<|j3<|oH (b9 t4 (PD.pb<|i8 (b8 1) c9)<|PD.pb<|i8 (b8 0) c9) (b9 t4 (PD.pb<|i8 (b8 1) c9)<|PD.pb<|i8 (b8 0) c9)<|b9 t4 (PD.pb<|i8 (b8 1) c9)<|PD.pb<|i8 (b8 0) c9)
 replace h:=M1 h;obtain⟨a,b,c,e,rfl,h⟩:=h;replace h:=M1 h;obtain⟨n,o,p,e,rfl,h⟩:=h;replace h:=w9 h;obtain⟨rfl,h⟩:=h;exact h
def F4(g:fN K mg "cross_of" iF):A2 P w K mg base 1 "cross_of" 2 F3:=by
 refine' p5 (k:=0) (F:=_) g BC (λp q r s=>?b) λe d t h=>?_
 case b=>refine' (e9<|j3<|oH (b9 t4 (PD.pb<|b9 l5 (PD.pb<|i8 (b8 0) c9)<|PD.pb<|i8 (b8 1) c9)<|PD.pb<|b9 l5 (PD.pb<|i8 (b8 0) c9)<|PD.pb<|i8 (b8 1) c9) (b9 t4 (PD.pb<|b9 l5 (PD.pb<|i8 (b8 0) c9)<|PD.pb<|i8 (b8 1) c9)<|PD.pb<|b9 l5 (PD.pb<|i8 (b8 0) c9)<|PD.pb<|i8 (b8 1) c9)<|b9 t4 (PD.pb<|b9 l5 (PD.pb<|i8 (b8 0) c9)<|PD.pb<|i8 (b8 1) c9)<|PD.pb<|b9 l5 (PD.pb<|i8 (b8 0) c9)<|PD.pb<|i8 (b8 1) c9)
 replace h:=M1 h;obtain⟨a,b,c,e,rfl,h⟩:=h;replace h:=M1 h;obtain⟨u,v,x,e,rfl,h⟩:=h;replace h:=w9 h;obtain⟨rfl,h⟩:=h;split at h
 .rename_i o;obtain⟨⟨f,i,j⟩,l,m,n⟩:=o;rw[<-h];simp[l4,t9 (D8.of i n),t9 (D8.of j m),t9 (D8.of j l),t9 (D8.of f n),t9 (D8.of f m),t9 (D8.of i l)]
 cases h
def A0(g:fN K mg "product_of" bY):A2 P w K mg base 1 "product_of" 2 w6:=by
 refine' p5 (k:=0) (F:=_) g sM (λp q r s=>?b) λe d u h=>?_
 case b=>refine' (e9<|j3<|b9 m5 (PD.pb<|b9 m5 (PD.pb<|b9 l5 (PD.pb<|i8 (b8 0) c9)<|PD.pb<|i8 (b8 1) c9)<|PD.pb<|b9 l5 (PD.pb<|i8 (b8 0) c9)<|PD.pb<|i8 (b8 1) c9)<|PD.pb<|b9 l5 (PD.pb<|i8 (b8 0) c9)<|PD.pb<|i8 (b8 1) c9)
 replace h:=a1a h;obtain⟨a,b,c,t,e,rfl,h⟩:=h;replace h:=M1 h;obtain⟨v,x,y,e,rfl,h⟩:=h;replace h:=w9 h;obtain⟨rfl,h⟩:=h;split at h
 .rename_i f;obtain⟨⟨i,j,l⟩,m,n,o⟩:=f;rw[<-h];simp[l4,a1u,a2s,a2k,t9 (D8.of i m),t9 (D8.of j n),t9 (D8.of l o)]
 cases h
def Q0(s:mg "abs"=none)(g:fN K mg "common_divisor" P8):A2 P w K mg base 1 "common_divisor" 1 K1:=by
 refine' p5 (k:=0) (F:=_) g jN (λJ y L i=>?b) λu d N h=>?_
 case b=>
  refine' (c7 (i7 1 c9 i)
   (c7 (N5 aBx rfl (VS<|d5 0) (n8 2 i) (c7 (i7 3 (SG uz<|b8 2) i)
   (e9 (lC (a3b 3) aBx (k9 (rK y) (b8 3) m9) (c7 (i7 4 (b9 t6 (b8 1)<|b8 3) i)
   (c7 (i7 1 (d5 3) i)
   (e9<|i7 3 (d5 4) i)))))))
   (e9<|j3<|d5 1)))
 replace h:=M1 h;obtain⟨a,b,c,u,rfl,h⟩:=h;replace h:=w9 h;obtain⟨rfl,h⟩:=h;rw[<-h];simp only[l4,aAk,aCi,aAJ,aBF];simp only[W5,W8,R.aa0,JH,D4,aAq,aBf,aCH,aCI,aBB,aBC,aCy,aCz];refine dQ (λrest ρ=>∃(g:Nat) (n r f:Sl),ρ=[.v (.tup [.int a,.int b,.int c]),.v (.int g),n,r,f]/\∃e:List Int,rest=e.map D.int/\e.foldl (λg n=>Nat.gcd g n.natAbs) g=G.z8 ⟨a,b,c⟩) ?_ ⟨0,_,_,_,rfl,[a,b,c],rfl,by simp[G.z8]⟩ ?_
 .rintro d u ρ ⟨g,n,r,f,rfl,e,l,j⟩;match e,l,j with
  |x::e,l,j=>
   injection l with A B;subst A B;simp only[gM,aCy,aCz,J2,P3,cF,eU,R.aa0,wj,D4];have C:(if x<0 then-x else x)=(x.natAbs:Int):=by split<;>lia
   rw[C];refine BN (λm ρ=>∃(p q:Nat) (f:Sl),ρ=[.v (.tup [.int a,.int b,.int c]),.v (.int p),.v (.int x),.v (.int q),f]/\q<m/\Nat.gcd p q=Nat.gcd g x.natAbs) ?_ (by rintro ρ ⟨p,q,f,_,h,_⟩;lia) ⟨g,x.natAbs,f,rfl,by show x.natAbs<((x.natAbs:Int).natAbs)+2;lia,rfl⟩ ?_
   .rintro m ρ ⟨p,q,f,rfl,E,t⟩;by_cases o:(q:Int)=0
    .exact .inl (by simp[o])
    have H:q≠0:=by lia
    refine .inr ⟨by simp[H],_,?_,q,p%q,Sl.v (.int ((p%q:Nat):Int)),rfl,?_,?_⟩
    .have em:oV (.int (p:Int)) (.int (q:Int))=.ok (.int ((p%q:Nat):Int)):=by rw[AB o,Int.fmod_eq_emod_of_nonneg _ (by lia)];rfl
     simp[em]
    .have:=aFl p (show 0<q by lia)
     lia
    rw[Nat.gcd_comm,<-Nat.gcd_rec,Nat.gcd_comm];exact t
   rintro m ρ ⟨p,q,f,rfl,E,t⟩ I;have o:q=0:=by
    by_cases z:q=0
    .exact z
    simp[z]at I
   subst o;refine⟨p,_,_,_,rfl,e,rfl,?_⟩;rw[<-j,aEC,<-t,Nat.gcd_zero_right]
 rintro ρ ⟨g,n,r,f,rfl,e,l,j⟩;have:e=[]:=by simpa using l.symm
 subst this;simp at j;simp[j]
def T6(F4:A2 P w K mg base 1 "cross_of" 2 F3)(n9:A2 P w K mg base 1 "way_between" 2 w5)(Q0:A2 P w K mg base 1 "common_divisor" 1 K1)(A0:A2 P w K mg base 1 "product_of" 2 w6)(g:fN K mg "plane_through" T7):A2 P w K mg base 2 "plane_through" 3 T4:=by
 refine' p5 (k:=1) (F:=_) g lO (λl Y dh s=>?b) λA d hl h=>?_
 case b=>
  refine' (c7 (i7 3 (fO F4 l (fO n9 l (d5 0)<|d5 1)<|fO n9 l (d5 0)<|d5 2) s)
   (c7 (i7 4 (BP Q0 l<|d5 3) s)
   (c7 (B6 (k9 (U3 Y) (b8 4) m9) (e9 fJ) t5)
   (c7 (i7 5 (oH (b9 u3 (PD.pb<|i8 (b8 3) c9)<|b8 4) (b9 u3 (PD.pb<|i8 (b8 3) c9)<|b8 4)<|b9 u3 (PD.pb<|i8 (b8 3) c9)<|b8 4) s)
   (e9<|j3<|pI<|f9 (i8 (b8 5) c9)<|f9 (i8 (b8 5) c9)<|f9 (i8 (b8 5) c9)<|f9 (fO A0 l (d5 5)<|d5 0) m6)))))
 replace h:=M1 h;obtain⟨a,b,c,A,rfl,h⟩:=h;replace h:=M1 h;obtain⟨d,e,f,A,rfl,h⟩:=h;replace h:=M1 h;obtain⟨g,J,i,A,rfl,h⟩:=h;replace h:=w9 h;obtain⟨rfl,h⟩:=h
 skip
 split at h
 .rename_i hz;obtain⟨⟨p,q,r⟩,n⟩:=hz;rw[<-h];obtain⟨P,B⟩:∃P:G.V,P=⟨a,b,c⟩:=⟨_,rfl⟩;obtain⟨Q,E⟩:∃P:G.V,P=⟨d,e,f⟩:=⟨_,rfl⟩;obtain⟨j,H⟩:∃P:G.V,P=⟨g,J,i⟩:=⟨_,rfl⟩;rw[<-B]at p n;rw[<-E]at q n;rw[<-H]at r n;have vP:(.tup [.int a,.int b,.int c]:D)=vd P:=by rw[B]
  have vQ:(.tup [.int d,.int e,.int f]:D)=vd Q:=by rw[E]
  have vR:(.tup [.int g,.int J,.int i]:D)=vd j:=by rw[H]
  rw[vP,vQ,vR,<-B,<-E,<-H];have o:=(q.sub p).cr (r.sub p);have c1:=jW (u:=Q-P) (v:=j-P) (q.sub p).mono (r.sub p).mono;obtain⟨L,g1,g2⟩:=G.lV n;have m:((G.z8 (G.cr (Q-P)<|j-P):Nat):Int)≠0:=by lia
  have gb:BE ((G.z8 (G.cr (Q-P)<|j-P):Nat):Int):=⟨m,f6 (JA o)⟩;have dv:=CW (G.cr (Q-P)<|j-P);have pl:G.j1 P Q j=(G.mF (G.cr (Q-P)<|j-P) (G.z8<|G.cr (Q-P)<|j-P),G.dot (G.mF (G.cr (Q-P)<|j-P)<|G.z8<|G.cr (Q-P)<|j-P) P):=rfl;rw[pl];generalize hC:G.cr (Q-P) (j-P)=C at*
  have sn:Sz 2003 (G.mF C<|G.z8 C):=by have N:=bits_fdiv (b:=(G.z8 C:Int)) o.1;have O:=bits_fdiv (b:=(G.z8 C:Int)) o.2.1;have T:=bits_fdiv (b:=(G.z8 C:Int)) o.2.2;rw[pC L]at N O T;exact⟨N,O,T⟩
  have d1:∀t:Int,S6 (.int t) (.int (G.z8 C:Nat))=.ok (.int (t/(G.z8 C:Nat))):=λt=>by rw[uB gb,pC L]
  have U:=nQ (u:=G.mF C (G.z8 C)) (v:=P) sn.mono p.mono;have e0:(((G.z8 C:Nat):Int)==0)=false:=by simpa using m
  simp only[G.mF]at U;have I:w6 [.tup [.int (C.x/(G.z8 C:Nat)),.int (C.y/(G.z8 C:Nat)),.int (C.z/(G.z8 C:Nat))],vd P]=_:=U;simp[l4,c1,dv,e0,d1,I,G.mF]
 cases h
def kQ(g:fN K mg "side_of" lI):A2 P w K mg base 1 "side_of" 2 aL:=by
 refine' p5 (k:=0) (F:=_) g CM (λA B C f=>?b) λe d E h=>?_
 case b=>
  refine' (c7 (i7 2 (b9 t4 (PD.pb<|b9 m5 (PD.pb<|b9 m5 (PD.pb<|b9 l5 (PD.pb<|i8 (b8 0) c9)<|PD.pb<|i8 (b8 1) c9)<|PD.pb<|b9 l5 (PD.pb<|i8 (b8 0) c9)<|PD.pb<|i8 (b8 1) c9)<|PD.pb<|b9 l5 (PD.pb<|i8 (b8 0) c9)<|PD.pb<|i8 (b8 1) c9)<|PD.pb<|i8 (b8 0) c9) f)
   (c7 (B6 (k9 HD (b8 2) m9) (e9<|j3 c9) t5)
   (c7 (B6 (k9 uQ (b8 2) m9) (e9<|j3<|pH c9) t5)
   (e9<|j3 c9))))
 replace h:=ZJ h;obtain⟨a,b,c,d,e,rfl,h⟩:=h;replace h:=M1 h;obtain⟨x,y,z,e,rfl,h⟩:=h;replace h:=w9 h;obtain⟨rfl,h⟩:=h
 skip
 split at h
 .rename_i i;obtain⟨⟨j,l,m⟩,o,q,r⟩:=i;rw[<-h];have s:=t9 (D8.of j o);have u:=t9 (D8.of l q);have v:=t9 (D8.of m r);simp only[l4,aAk,aCi,aAJ,aBF,aAq,aBf,aCH,aCI,aBB,aBC];refine n6 (u9 (u9 (u9 (u9 (u9 rfl<|u9 rfl s)<|u9 (u9 rfl<|u9 rfl u) rfl)<|u9 (u9 rfl<|u9 rfl v) rfl)<|u9 rfl rfl) rfl) ?_;unfold sgn;generalize a*x+b*y+c*z-d=t;by_cases p:0<t
  .rw[hV p];exact zB (QC<|u9 (u9 rfl<|u9 rfl<|YM p) rfl)
  rw[h9 p];refine n6 (tV<|u9 (u9 rfl<|u9 rfl<|fx p) rfl) ?_;by_cases n:t<0
  .rw[hV n];exact zB (QC<|u9 (u9 rfl<|u9 rfl<|WO n) rfl)
  rw[h9 n];exact n6 (tV (u9 (u9 rfl (u9 rfl (GK (by lia)))) rfl)) rfl
 cases h
def J7(j:FH K mg "NO_WAY" [0,0,0])(g:fN K mg "first_real_way" Q5):A2 P w K mg base 1 "first_real_way" 1 A8:=by
 refine' p5 (k:=0) (F:=_) g jU (λp l q m=>?b) λn d r h=>?_
 case b=>
  refine' (c7 (N5 aBx rfl (q9<|d5 0) (n8 1 m)<|e9<|B6 (k9 (rK l) (b8 1)<|PD.pb<|oN j) (e9<|j3<|d5 1) t5)
   (e9<|j3 DS))
 match n,h with
 |[.lst Y],h=>
  simp only[A8]at h;split at h
  .rename_i f i;rw[t7 i];rw[<-h];simp[l4];generalize Sl.v (D.lst<|aDr vd f)=a;generalize Sl.no=b;clear h i;induction f generalizing b with
   |nil=>rfl
   |cons v f o=>
    rw[aAk,G.B7];by_cases e:v=0
    .rw[U6 (ρ2:=[a,.v (vd v)]) rfl (by simp[-CA,ne0,e]),o];simp[e]
    rw[wK (x:=vd v) rfl (by simp[-CA,ne0,e])];simp[e,DV]
  cases h
def I9(n9:A2 P w K mg base 1 "way_between" 2 w5)(J7:A2 P w K mg base 1 "first_real_way" 1 A8)(F4:A2 P w K mg base 1 "cross_of" 2 F3)(A0:A2 P w K mg base 1 "product_of" 2 w6)(eh:mg "len"=none)(I:mg "any"=none)(g:fN K mg "dimension_of" D5):A2 P w K mg base 2 "dimension_of" 1 D2:=by
 refine' p5 (k:=1) (F:=_) g nJ (λt hu dh L=>?b) λm d hl h=>?_
 case b=>
  refine' (c7 (B6 (k9 (U3 hu) (PD.pb<|SG lP<|b8 0) m9) (e9 fJ) t5)
   (c7 (jO 1 ["P"] ["points"] [0] L rfl (J0 (sc:=c6 D5) (N:=N1)) (q9<|d5 0) (CU λ_ _ _ _ _=>(fO n9 t (i8 (b8 1) c9)<|d5 0))<|λ_=>o9)
   (c7 (i7 2 (BP J7 t<|d5 1) L)
   (c7 (B6 (k9 NA (b8 2)<|PD.pb DS) (e9<|j3 c9) t5)
   (c7 (i7 3 (BP J7 t<|R4 ["way"] ["along"] [2] rfl (J0 (sc:=c6 D5) (N:=N1)) (q9<|d5 1) (CU λ_ _ _ _ _=>(fO F4 t (d5 1)<|d5 0))<|λ_=>o9) L)
   (c7 (B6 (k9 NA (b8 3)<|PD.pb DS) (e9<|j3 c9) t5)
   (c7 (B6 (wE<|SG (mw rfl)<|PD.pb<|R4 ["way"] ["upright"] [3] rfl (J0 (sc:=c6 D5) (N:=N1)) (q9<|d5 1) (CU λ_ _ _ _ _=>(iy (rK hu) (PD.pb<|fO A0 t (d5 1)<|d5 0) m9))<|λ_=>o9) (e9<|j3 c9) t5)
   (e9<|j3 c9))))))))
 match m,h with
 |[.lst Y],h=>
  simp only[D2]at h;split at h
  .rename_i J i;rw[t7 i];split at h
   .rename_i hz;rw[<-h];obtain⟨ag,B⟩:=hz;match J,ag with
    |p::n,_=>
    obtain⟨e,a⟩:∃e,(p::n).map vd=e:=⟨_,rfl⟩;have i0:bJ (.lst e) (.int 0)=.ok (vd p):=cH (by rw[Z2 (by decide),<-a];rfl);have C:o7 (λd ρ=>R.ok (aDE ρ 0<|Sl.v d)) (λx=>R.ok true) (λρ=>(((AZ 1 ρ).bind λx=>bJ x (D.int 0)).bind λd=>((eG 0 ρ).bind λd=>R.ok [d]).bind λm=>R.ok (d::m)).bind w5) [.no,.v (.lst e)] e=.ok (((p::n).map (· -p)).map vd):=by rw[aBd];rw[show o7 _ _ _ _ e=o7 _ _ _ _ ((p::n).map vd)by rw[a]];refine J6 vd _ _ λq j=>⟨[.v (vd q),Sl.v (.lst e)],rfl,?_⟩;show((bJ (.lst e)<|.int 0).bind _).bind _=_;rw[i0];rfl
    have i:∀w∈(p::n).map (· -p),Sz 1001 w:=λw i=>by obtain⟨q,j,rfl⟩:=aAj.mp i;exact(B.1 q j).sub (B.1 p (.head _))
    have E:(((p::n).map (· -p)).map vd).length<=sizeLine:=by rw[aAh,aAh];exact small B.2
    have H:e.length<=sizeLine:=by rw[<-a,aAh];exact small B.2
    have f:((e.length:Int)==0)=false:=by rw[<-a];simp;lia
    have r:=DN ((p::n).map (· -p));unfold G.U8;dsimp only;rw[a];generalize(p::n).map (· -p)=W at*
    have l:=λu=>DN (W.map<|G.cr u);cases O:G.B7 W with
    |none=>rw[O]at r;simp[l4,i5,H,f,C,r,DV,ML]
    |some o=>
     rw[O]at r;obtain⟨hm,_⟩:=G.u7 O;have y:=i o hm;have z:o7 (λd ρ=>R.ok (aDE ρ 0<|Sl.v d)) (λx=>R.ok true) (λρ=>((eG 1 ρ).bind λd=>((eG 0 ρ).bind λd=>R.ok [d]).bind λm=>R.ok (d::m)).bind F3) [.no,.v (vd o)] (W.map vd)=.ok ((W.map<|G.cr o).map vd):=by rw[aBd];refine J6 vd _ _ λq j=>⟨[.v (vd q),Sl.v (vd o)],rfl,?_⟩;show F3 [vd o,vd q]=_;exact jW y.mono (i q j).mono
     have l:=DN (W.map<|G.cr o);have eW:(W.map vd).length=W.length:=aAh ..;rw[eW]at E;cases A:G.B7 (W.map<|G.cr o)with
     |none=>rw[A]at l;simp only[aBd]at z l;simp only[A];simp[l4,i5,H,f,C,r,DV,ML,E,z,l]
     |some up=>
      rw[A]at l;obtain⟨jm,_⟩:=G.u7 A;have Q:Sz 2003 up:=by obtain⟨q,j,rfl⟩:=aAj.mp jm;exact(y.cr<|i q j).mono
      have T:o7 (λd ρ=>R.ok (aDE ρ 0<|Sl.v d)) (λx=>R.ok true) (λρ=>(((eG 1 ρ).bind λd=>((eG 0 ρ).bind λd=>R.ok [d]).bind λm=>R.ok (d::m)).bind w6).bind λx=>MC x (D.int 0)) [.no,.v (vd up)] (W.map vd)=.ok ((W.map λw=>decide (G.dot up w≠0)).map D.bl):=by rw[aBd];refine J6 vd _ _ λq j=>⟨[.v (vd q),Sl.v (vd up)],rfl,?_⟩;show(w6 [vd up,vd q]).bind _=_;rw[nQ Q.mono (i q j).mono,R.aa0,lw];congr 2;rw[aEb];simp
      have s:=qw (W.map λw=>decide (G.dot up w≠0));have U:(W.map λw=>decide (G.dot up w≠0)).any id=W.any λw=>decide (G.dot up w≠0):=by rw[List.any_map];rfl
      rw[U]at s;simp only[aBd]at z l T s;simp only[A];generalize(λw=>decide (G.dot up w≠0))=Bf at*
      cases hc:W.any Bf with
      |false=>rw[hc]at s;simp[l4,i5,H,f,C,r,DV,ML,E,z,l,T,s]
      |true=>rw[hc]at s;simp[l4,i5,H,f,C,r,DV,ML,E,z,l,T,s]
   cases h
  cases h
def Z7(I9:A2 P w K mg base 2 "dimension_of" 1 D2)(g:fN K mg "refuse_flat" Z6):A2 P w K mg base 3 "refuse_flat" 1 G1:=by
 refine' p5 (k:=2) (F:=_) g pW (λf o p q=>?b) λi d r h=>?_
 case b=>refine' (e9<|B6 (k9 uQ (PD.pb<|BP I9 f<|d5 0) m9) (e9 fJ) t5)
 match i,h with
 |[.lst Y],h=>
  simp only[G1]at h;split at h
  .rename_i J j;rw[t7 j];split at h
   .rename_i l;rw[<-h];obtain⟨m,a⟩:=l;have n:J≠[]:=λe=>by subst e;cases a
    have e:=PK n m;rw[a]at e;simp[l4,e]
   cases h
  cases h
def J1(kQ:A2 P w K mg base 1 "side_of" 2 aL)(g:fN K mg "points_on" Y7):A2 P w K mg base 2 "points_on" 2 A3:=by
 refine' p5 (k:=1) (F:=_) g wV (λj l o p=>?b) λf d q h=>?_
 case b=>refine' (e9<|j3<|R4 ["P"] ["plane"] [0] rfl (J0 (sc:=c6 Y7) (N:=mV)) (q9<|d5 1) (hxt λ_ _ _ _ _=>⟨(k9 (U3 l) (PD.pb<|fO kQ j (d5 1)<|d5 0) m9),(d5 0)⟩)<|λ_=>o9)
 replace h:=ZJ h;obtain⟨a,b,c,d,f,rfl,h⟩:=h;replace h:=Z3 h;obtain⟨Y,f,rfl,h⟩:=h;replace h:=w9 h;obtain⟨rfl,h⟩:=h
 skip
 split at h
 .rename_i J m;rw[t7 m];split at h
  .rename_i i;rw[<-h];have e:=kK vd (G:=λd ρ=>R.ok (aDE ρ 0<|Sl.v d)) (ft:=λρ=>((((eG 1 ρ).bind λd=>((eG 0 ρ).bind λd=>R.ok [d]).bind λf=>R.ok (d::f)).bind aL).bind λx=>UR x (D.int 0)).bind BS) (fe:=eG 0) (ρ:=[.no,.v (.tup [D.int a,D.int b,D.int c,D.int d])])
    (λX=>decide (G.dot ⟨a,b,c⟩ X=d)) vd J λP n=>⟨[.v (vd P),Sl.v (D.tup [D.int a,D.int b,D.int c,D.int d])],rfl,by simp[UZ i.1.mono (i.2.1 P n).mono,a4p,G.dot];exact decide_eq_decide.mpr (by lia),λ_=>rfl⟩
   simp[l4,i5,small i.2.2,e];rfl
  cases h
 cases h
def L3(n9:A2 P w K mg base 1 "way_between" 2 w5)(A0:A2 P w K mg base 1 "product_of" 2 w6)(F4:A2 P w K mg base 1 "cross_of" 2 F3)(T6:A2 P w K mg base 2 "plane_through" 3 T4)(O:FH K mg "NO_WAY" [0,0,0])(g:fN K mg "plane_about" Z1):A2 P w K mg base 3 "plane_about" 2 G4:=by
 refine' p5 (k:=2) (F:=_) g pE (λp hu dh o=>?b) λE d hl h=>?_
 case b=>
  refine' (c7 (i7 2 (fO n9 p (i8 (b8 0) c9)<|i8 (b8 0) c9) o)
   (c7 (i7 3 (oN O) o)
   (c7 (i7 4 (i8 (b8 0) c9) o)
   (c7 (N5 aBx rfl (q9<|d5 1) (n8 5 o) (c7 (i7 6 (fO n9 p (i8 (b8 0) c9)<|d5 5) o)
   (e9 (B6 (CN.pt<|lE (k9 (U3 hu) (b8 3)<|PD.pb<|oN O)<|oI<|k9 HD (PD.pb<|fO A0 p (d5 3)<|d5 6) m9) (c7 (i7 3 (fO F4 p (d5 2)<|d5 6) o)
   (e9<|i7 4 (d5 5) o)) t5))))
   (e9<|j3<|pc3 T6 p (i8 (b8 0) c9) (i8 (b8 0) c9)<|d5 4)))))
 replace h:=qZ h;obtain⟨Q,E,rfl,h⟩:=h;replace h:=Z3 h;obtain⟨Y,E,rfl,h⟩:=h;replace h:=w9 h;obtain⟨rfl,h⟩:=h;replace h:=M1 h;obtain⟨a,b,c,Q,rfl,h⟩:=h;replace h:=M1 h;obtain⟨d,e,f,Q,rfl,h⟩:=h;replace h:=w9 h;obtain⟨rfl,h⟩:=h
 skip
 split at h
 .rename_i J hw;rw[t7 hw];split at h
  .rename_i hz;rw[<-h];obtain⟨sA,t,hs,H⟩:=hz;have vA:(.tup [.int a,.int b,.int c]:D)=vd ⟨a,b,c⟩:=rfl;have vB:(.tup [.int d,.int e,.int f]:D)=vd ⟨d,e,f⟩:=rfl;rw[vA,vB];generalize(⟨a,b,c⟩:G.V)=A at*
   generalize(⟨d,e,f⟩:G.V)=B at*
   simp[l4];have z0:(.tup [.int 0,.int 0,.int 0]:D)=vd 0:=rfl;rw[z0];refine dQ (λrest ρ=>∃(up i:G.V) (j:List G.V) (x y:Sl),ρ=[.v (.tup [vd A,vd B]),.v (.lst (aDr vd J)),.v (vd<|B-A),.v (vd up),.v (vd i),x,y]/\rest=j.map vd/\Sz 2003 up/\Sz 1000 i/\(∀X∈j,Sz 1000 X)/\G.G9 (B-A) A j up i=G.G9 (B-A) A J 0 A) ?_ ⟨0,A,J,_,_,rfl,rfl,⟨by decide,by decide,by decide⟩,sA,hs.1,rfl⟩ ?_
   .rintro d E ρ ⟨up,i,j,x,y,rfl,q,I,L,r,l⟩;match j,q with
    |P::j,q=>
     injection q with e3 e4;subst e3 e4;have N:=r P (.head _);have C:=N.sub sA;have T:=eq0 up;rw[show(.tup [.int 0,.int 0,.int 0]:D)=vd 0 from rfl]at T;have U:=jW (u:=B-A) (v:=P-A) (t.sub sA).mono C.mono;have p1:=nQ (u:=up) (v:=P-A) I.mono C.mono;have w1:=rj A P;have i0:bJ (.tup [vd A,vd B]) (.int 0)=.ok (vd A):=rfl
     conv at l=>lhs;unfold G.G9
     simp only[gM,aCy,aCz,cF,eU,aU,W5,R.aa0,i0,w1,D4,T,tH,p1,lF];by_cases m:up=0
     .rw[hV (.inl m)]at l;refine⟨_,?_,G.cr (B-A) (P-A),P,j,.v (vd P),.v (vd<|P-A),rfl,rfl,(((t.sub sA).cr C).mono),N,λX s=>r X (.tail _ s),l⟩;rw[decide_eq_true m];simp only[if_true,R.aa0,U,D4,aCy,aCz,aU,W5]
     rw[decide_eq_false m];by_cases n:0<G.dot up (P-A)
     .rw[hV (.inr n)]at l;refine⟨_,?_,G.cr (B-A) (P-A),P,j,.v (vd P),.v (vd<|P-A),rfl,rfl,(((t.sub sA).cr C).mono),N,λX s=>r X (.tail _ s),l⟩;rw[decide_eq_true n];simp only[if_true,aAv,if_false,R.aa0,U,D4,aCy,aCz,aU,W5]
     rw[h9 (λz=>z.elim m n)]at l;refine⟨_,?_,up,i,j,.v (vd P),.v (vd<|P-A),rfl,rfl,I,L,λX s=>r X (.tail _ s),l⟩;rw[decide_eq_false n];simp only[aAv,if_false,R.aa0]
   rintro ρ ⟨up,i,j,x,y,rfl,q,I,L,r,l⟩;have:j=[]:=by simpa using q.symm
   subst this;have l:(up,i)=G.G9 (B-A) A J 0 A:=l;have eo:(G.G9 (B-A) A J 0 A).2=i:=by rw[<-l]
   unfold G.b7 at H⊢;rw[eo]at H⊢;have pl:=RW ⟨sA,t,L⟩ (VL H);simp[pl]
  cases h
 cases h
def bR(J1:A2 P w K mg base 2 "points_on" 2 A3)(L3:A2 P w K mg base 3 "plane_about" 2 G4)(I9:A2 P w K mg base 2 "dimension_of" 1 D2)(ue:mg "min"=none)(g:fN K mg "first_pair" bA):A2 P w K mg base 8 "first_pair" 1 J9:=by
 refine' p5 (k:=7) (F:=_) g rY (λf z dh l=>?b) λA d hl h=>?_
 case b=>
  have o:=f.ae1 (by decide);refine' (c7 (i7 1 (dH (XS rfl o)<|u6 (b8 0) E6) l)
   (c7 (i7 2 (xS (d5 1)<|oH (i8 (b8 1) c9) (i8 (b8 1) c9)<|b9 m5 (PD.pb<|i8 (b8 1) c9) m9) l)
   (c7 (i7 3 (fO J1 f (fO L3 f (d5 2)<|d5 0)<|d5 0) l)
   (c7 (B6 (k9 (U3 z) (PD.pb<|BP I9 f<|d5 3) m9) (e9<|j3<|d5 2) t5)
   (e9<|j3<|xS (i8 (b8 3) c9)<|i8 (b8 3) c9)))))
 match A,h with
 |[.lst Y],h=>
  simp only[J9]at h;split at h
  .rename_i m J B;rw[t7 B];split at h
   .rename_i a;rw[<-h];have u:=jz a.good.ord;have i:aV 1000 (m::J):=a.sz.mono;have j:Sz 900 m:=a.sz.1 m (.head _);obtain⟨C,E,H,I,N⟩:=G.yF a.good.solid a.good.mem a.good.least;have p:=N8 j.mono (TX j) i C;have q:=BL j.mono (TX j) i;rw[a0l]at p;have v:=jZ (d:=(G.b7 m (m+G.kk) (m::J)).2) q.mono i;obtain⟨x,y,r,e⟩:=NP E I N;have O:=RD (n:=(G.b7 m (m+G.kk) (m::J)).1) (d:=(G.b7 m (m+G.kk) (m::J)).2) i;have s:=PK (J:=G.o6 (G.b7 m (m+G.kk) (m::J)).1 (G.b7 m (m+G.kk) (m::J)).2 (m::J)) (by rw[e];simp) O;have Q:bJ (.lst ((G.o6 (G.b7 m (m+G.kk) (m::J)).1 (G.b7 m (m+G.kk) (m::J)).2 (m::J)).map vd)) (.int 0)=.ok (vd x):=cH (by rw[e];exact a0v _ _);have T:bJ (.lst ((G.o6 (G.b7 m (m+G.kk) (m::J)).1 (G.b7 m (m+G.kk) (m::J)).2 (m::J)).map vd)) (.int 1)=.ok (vd y):=cH (by rw[e];exact a1r _ _ _);unfold G.f7;dsimp only;by_cases t:G.U8 (G.o6 (G.b7 m (m+G.kk) (m::J)).1 (G.b7 m (m+G.kk) (m::J)).2 (m::J))=2
    .rw[hV t];rw[t]at s;generalize(m::J).map vd=L at*
     generalize(G.o6 (G.b7 m (m+G.kk) (m::J)).1 (G.b7 m (m+G.kk) (m::J)).2 (m::J)).map vd=L2 at*
     generalize(G.b7 m (m+G.kk) (m::J)).1=U at*
     generalize(G.b7 m (m+G.kk) (m::J)).2=pm at*
     simp[l4,u,p,v,s,G.kk]
    rw[h9 t];have e0:(G.o6 (G.b7 m (m+G.kk) (m::J)).1 (G.b7 m (m+G.kk) (m::J)).2 (m::J)).getD 0 0=x:=by rw[e];rfl
    have e1:(G.o6 (G.b7 m (m+G.kk) (m::J)).1 (G.b7 m (m+G.kk) (m::J)).2 (m::J)).getD 1 0=y:=by rw[e];rfl
    rw[e0,e1];have hb:((G.U8 (G.o6 (G.b7 m (m+G.kk) (m::J)).1 (G.b7 m (m+G.kk) (m::J)).2 (m::J)):Int)==2)=false:=by rw[beq_eq_false_iff_ne];lia
    generalize(m::J).map vd=L at*
    generalize(G.o6 (G.b7 m (m+G.kk) (m::J)).1 (G.b7 m (m+G.kk) (m::J)).2 (m::J)).map vd=L2 at*
    generalize(G.U8 (G.o6 (G.b7 m (m+G.kk) (m::J)).1 (G.b7 m (m+G.kk) (m::J)).2 (m::J)):Int)=dd at*
    generalize(G.b7 m (m+G.kk) (m::J)).1=U at*
    generalize(G.b7 m (m+G.kk) (m::J)).2=pm at*
    simp[l4,u,p,v,s,hb,Q,T]
   cases h
  cases h
def kG(A0:A2 P w K mg base 1 "product_of" 2 w6)(F4:A2 P w K mg base 1 "cross_of" 2 F3)(n9:A2 P w K mg base 1 "way_between" 2 w5)(g:fN K mg "turn_of" kN):A2 P w K mg base 2 "turn_of" 4 eZ:=by
 refine' p5 (k:=1) (F:=_) g CY (λm A B C=>?b) λn d E h=>?_
 case b=>refine' (e9<|j3<|fO A0 m (d5 0)<|fO F4 m (fO n9 m (d5 1)<|d5 2)<|fO n9 m (d5 2)<|d5 3)
 replace h:=M1 h;obtain⟨a,b,c,n,rfl,h⟩:=h;replace h:=M1 h;obtain⟨d,e,f,n,rfl,h⟩:=h;replace h:=M1 h;obtain⟨g,o,i,n,rfl,h⟩:=h;replace h:=M1 h;obtain⟨j,k,l,n,rfl,h⟩:=h;replace h:=w9 h;obtain⟨rfl,h⟩:=h
 skip
 split at h
 .rename_i y;obtain⟨p,q,r,s⟩:=y;rw[<-h];have t:=jW (u:=⟨g,o,i⟩-⟨d,e,f⟩) (v:=⟨j,k,l⟩-⟨g,o,i⟩) (r.sub q).mono (s.sub r).mono;have x:=nQ (u:=⟨a,b,c⟩) (v:=G.cr (⟨g,o,i⟩-⟨d,e,f⟩) (⟨j,k,l⟩-⟨g,o,i⟩)) p.mono ((r.sub q).cr (s.sub r)).mono;simp only[vd,G.NG,G.QV,G.RZ,G.ZA,G.VO,G.WN]at t x;have z:∀a b c d e f:Int,w5 [.tup [.int a,.int b,.int c],.tup [.int d,.int e,.int f]]=.ok (.tup [.int (d-a),.int (e-b),.int (f-c)]):=λ_ _ _ _ _ _=>rfl;simp[l4,z,t,x,G.turn,G.i3]
 cases h
def V2(kG:A2 P w K mg base 2 "turn_of" 4 eZ)(eh:mg "len"=none)(g:fN K mg "left_chain" aY):A2 P w K mg base 3 "left_chain" 2 V3:=by
 refine' p5 (k:=2) (F:=_) g sS (λhr hu dh T=>?b) λj d I h=>?_
 case b=>
  refine' (c7 (Y3 2 (dJ m6) T)
   (c7 (N5 aBx rfl (q9<|d5 1) (n8 3 T) (c7 (lC (λ_=>1001) aBx (CN.pt<|wJ (k9 HD (PD.pb<|SG lP<|b8 2) m9)<|qL<|k9 a2c (PD.pb<|pc4 kG hr (d5 0) (i8 (b8 2)<|pH c9) (i8 (b8 2)<|pH c9)<|d5 3) m9)<|e9<|UY 2)
   (e9<|Q6 2<|d5 3)))
   (e9<|GN 2<|j3<|d5 2)))
 replace h:=M1 h;obtain⟨a,b,c,j,rfl,h⟩:=h;replace h:=Z3 h;obtain⟨Y,j,rfl,h⟩:=h;replace h:=w9 h;obtain⟨rfl,h⟩:=h
 skip
 split at h
 .rename_i J hw;rw[t7 hw];split at h
  .rename_i L;rw[<-h];obtain⟨U,hs⟩:=L;have vn:(.tup [.int a,.int b,.int c]:D)=vd ⟨a,b,c⟩:=rfl;rw[vn];generalize(⟨a,b,c⟩:G.V)=n at*
   simp[l4];refine dQ (λrest ρ=>∃(c i:List G.V) (x:Sl),ρ=[.v (vd n),.v (.lst (aDr vd J)),.o (c.reverse.map vd),x]/\rest=i.map vd/\(∀X∈c,Sz 1000 X)/\(∀X∈i,Sz 1000 X)/\c.length+i.length<=1000/\i.foldl (λc P=>P::G.Q1 n P c) c=G.w8 n J) ?_ ⟨[],J,_,rfl,rfl,λX l=>by(cases l),hs.1,by simpa using hs.2,rfl⟩ ?_
   .rintro d j ρ ⟨c,i,x,rfl,t,sc,N,I,u⟩;match i,t with
    |P::i,t=>
     injection t with e3 e4;subst e3 e4;have O:=N P (.head _);simp only[aAq]at I;simp only[gM,aCy,aCz];refine Exists.elim (BN (n:=1001) (ρ:=[.v (vd n),.v (.lst (aDr vd J)),.o (c.reverse.map vd),.v (vd P)]) (Post:=λρ=>∃e,ρ=[.v (vd n),.v (.lst (aDr vd J)),.o (e.reverse.map vd),.v (vd P)]/\(∀X∈e,Sz 1000 X)/\e.length<=c.length/\e=G.Q1 n P c)
      (c:=DM (λρ=>((((AZ 2 ρ).bind λd=>R.ok [d]).bind IT).bind λx=>aj x (D.int 1)).bind BS) λρ=>((((eG 0 ρ).bind λd=>(((AZ 2 ρ).bind λx=>bJ x (D.int (-2))).bind λd=>(((AZ 2 ρ).bind λx=>bJ x (D.int (-1))).bind λd=>((eG 3 ρ).bind λd=>R.ok [d]).bind λj=>R.ok (d::j)).bind λj=>R.ok (d::j)).bind λj=>R.ok (d::j)).bind eZ).bind λx=>leR x (D.int 0)).bind BS) (F:=λρ=>(CJ 2 ρ).bind λz=>R.ok (Out.nx z.snd))
      (λm ρ=>∃e,ρ=[.v (vd n),.v (.lst (aDr vd J)),.o (e.reverse.map vd),.v (vd P)]/\(∀X∈e,Sz 1000 X)/\e.length<=c.length/\e.length<m/\G.Q1 n P e=G.Q1 n P c) ?_ (by rintro ρ ⟨e,_,_,_,h,_⟩;lia) ⟨c,rfl,sc,aAl _,by lia,rfl⟩ ?_) ?_
     .rintro m ρ ⟨e,rfl,sub,p,q,f⟩;match e,sub,p,q,f with
      |[],_,_,_,_=>exact .inl (by simp)
      |[a],_,_,_,_=>exact .inl (by simp)
      |b::a::r,sub,p,q,f=>
       have s:(b::a::r).reverse.map vd=r.reverse.map vd++[vd a,vd b]:=by simp
       have A:bJ (.lst ((b::a::r).reverse.map vd)) (.int (-1))=.ok (vd b):=cH (by rw[s];exact ZD _ _ _);have B:bJ (.lst ((b::a::r).reverse.map vd)) (.int (-2))=.ok (vd a):=cH (by rw[s];exact ZN _ _ _);have C:=GW U (sub a<|.tail _ (.head _)) (sub b<|.head _) O;have E:(1:Int)<(aDr vd (b::a::r).reverse).length:=by rw[aAh,aBW];simp;lia
       by_cases Q:G.turn n a b P<=0
       .refine .inr ⟨?_,[.v (vd n),.v (.lst (aDr vd J)),.o ((a::r).reverse.map vd),.v (vd P)],?_,a::r,rfl,λX l=>sub X (.tail _ l),?_,?_,?_⟩
        .simp only[wI,cF,CG,R.aa0,EC,lF,decide_eq_true E,tH,if_true,W5,aU,A,B,C,EF,decide_eq_true Q]
        .show(match(aDr vd (b::a::r).reverse)[(aDr vd (b::a::r).reverse).length-1]? with|some d=>_|none=>_:R (D×Ev)).bind _=_;rw[s];simp
        .simp only[aAq]at p⊢;lia
        .simp only[aAq]at q⊢;lia
        rw[<-f]
        conv=>rhs;unfold G.Q1
        rw[hV Q]
       refine .inl ?_;simp only[wI,cF,CG,R.aa0,EC,lF,decide_eq_true E,tH,if_true,W5,aU,A,B,C,EF,decide_eq_false Q]
     .rintro m ρ ⟨e,rfl,sub,p,q,f⟩ H;refine⟨e,rfl,sub,p,?_⟩;match e,sub,p,q,f,H with
      |[],_,_,_,f,_=>exact f
      |[a],_,_,_,f,_=>exact f
      |b::a::r,sub,p,q,f,H=>
       have s:(b::a::r).reverse.map vd=r.reverse.map vd++[vd a,vd b]:=by simp
       have A:bJ (.lst ((b::a::r).reverse.map vd)) (.int (-1))=.ok (vd b):=cH (by rw[s];exact ZD _ _ _);have B:bJ (.lst ((b::a::r).reverse.map vd)) (.int (-2))=.ok (vd a):=cH (by rw[s];exact ZN _ _ _);have C:=GW U (sub a<|.tail _ (.head _)) (sub b<|.head _) O;have E:(1:Int)<(aDr vd (b::a::r).reverse).length:=by rw[aAh,aBW];simp;lia
       simp only[wI,cF,CG,R.aa0,EC,lF,decide_eq_true E,tH,if_true,W5,aU,A,B,C,EF,QD,decide_eq_false_iff_not]at H;rw[<-f]
       conv=>rhs;unfold G.Q1
       rw[h9 H]
     rintro ρ2 ⟨ew,e,rfl,sub,p,y⟩;refine⟨[.v (vd n),.v (.lst (aDr vd J)),.o ((P::e).reverse.map vd),.v (vd P)],?_,P::e,i,_,rfl,rfl,?_,λX l=>N X (.tail _ l),?_,?_⟩
     .rw[ew];have L:(aDr vd e.reverse).length<sizeLine:=by rw[aAh,aBW];exact aCv (show e.length<=1000 by lia) (by decide)
      simp only[D4,aU,W5,R.aa0];show(if(aDr vd e.reverse).length<sizeLine then _ else _)=_;rw[hV L];simp
     .intro X l;rcases aAd.mp l with rfl|l
      .exact O
      exact sub X l
     .simp;lia
     rw[<-u,aEC,y]
   rintro ρ ⟨c,i,x,rfl,t,sc,N,I,u⟩;have:i=[]:=by simpa using t.symm
   subst this;have u:c=G.w8 n J:=u;subst u;simp[gG]
  cases h
 cases h
def aJ(V2:A2 P w K mg base 3 "left_chain" 2 V3)(x:mg "list"=none)(y:mg "reversed"=none)(g:fN K mg "ring_of" kE):A2 P w K mg base 4 "ring_of" 2 K5:=by
 refine' p5 (k:=3) (F:=_) g FK (λf z A i=>?b) λj d B h=>?_
 case b=>
  refine' (c7 (i7 2 (fO V2 f (d5 0)<|d5 1) i)
   (c7 (i7 3 (fO V2 f (d5 0)<|PF.pd<|CC (b8 1) rfl) i)
   (e9<|j3<|b9 m5 (PD.pb<|fW (b8 2) S8<|F6<|pH c9)<|PD.pb<|fW (b8 3) S8<|F6<|pH c9)))
 replace h:=M1 h;obtain⟨a,b,c,j,rfl,h⟩:=h;replace h:=Z3 h;obtain⟨Y,j,rfl,h⟩:=h;replace h:=w9 h;obtain⟨rfl,h⟩:=h
 skip
 split at h
 .rename_i J o;rw[t7 o];split at h
  .rename_i p;rw[<-h];obtain⟨m,e⟩:=p;have q:(.tup [.int a,.int b,.int c]:D)=vd ⟨a,b,c⟩:=rfl;rw[q];generalize(⟨a,b,c⟩:G.V)=n at*
   have r:=ZR m e;have s:aV 1000 J.reverse:=e.sub (λP t=>by simpa using t) (by simp);have l2:=ZR m s;rw[aFB (l:=J)]at l2;have C:=fC n J;have u:=fC n J.reverse;rw[aBW]at u;have v:lR (.lst ((G.w8 n J).reverse.map vd).dropLast) (.lst ((G.w8 n J.reverse).reverse.map vd).dropLast)=.ok (.lst ((G.j0 n J).map vd)):=by rw[HM (by simp only[aEv,aAh,aBW];exact aAp (show _<=2000 by have:=e.2;lia) (by decide))];unfold G.j0;rw[aBi,List.map_dropLast,List.map_dropLast]
   simp[-aFB,l4,r,l2,YL,v,a1k]
  cases h
 cases h
def K9(j:mg "list"=none)(a:mg "zip"=none)(g:fN K mg "pairs_round" aD):A2 P w K mg base 1 "pairs_round" 1 aO:=by
 refine' p5 (k:=0) (F:=_) g pS (λl m n o=>?b) λf d p h=>?_
 case b=>refine' (e9<|j3<|PF.pd<|FB (b8 0) (PD.pb<|b9 m5 (PD.pb<|fW (b8 0) (F6 c9) S8)<|PD.pb<|fW (b8 0) S8<|F6 c9) rfl)
 match f,h with
 |[.lst Y],h=>
  simp only[aO]at h;split at h
  .rename_i q;rw[<-h];have i:lR (.lst Y.tail) (.lst (Y.take 1))=.ok (.lst (Y.tail++Y.take 1)):=HM (by simp only[List.length_tail,aBU];exact QZ (by lia));have e:YD [.lst Y,.lst (Y.tail++Y.take 1)]=.ok (L6 Y<|Y.tail++Y.take 1):=hV (by
    simp only[aAz,List.length_tail,aBU]
    lia)
   simp[l4,YT,sj,i,e]
  cases h
def cC(L3:A2 P w K mg base 3 "plane_about" 2 G4)(aJ:A2 P w K mg base 4 "ring_of" 2 K5)(K9:A2 P w K mg base 1 "pairs_round" 1 C5)(B:mg "len"=none)(I:mg "sorted"=none)(g:fN K mg "faces_from" bG):XJ P w K mg base 8 3 "faces_from" J8:=by
 obtain⟨f,L,q,l⟩:=g;refine' YG (k:=7) (F:=_) l gB rfl (l.binds λ_ _ _ _ _ _ r t=>match r,t with|[_,_,_],_=>rfl) q (λC A e s H E a=>?hb) ?hm
 case hb=>
  have N:=a.units;have n:=a.ae2;have i:=a.ae1 (by decide);have b:=gB.nd;refine' (c7 (Y3 3 (dJ m6) b)
   (c7 (SS 4 b)
   (c7 (Y3 5 (dJ<|f9 (d5 0) m6) b)
   (c7 (lC (λ_=>5000) aBx (k9 HD (PD.pb<|SG lP<|b8 5) m9) (c7 (CV 6 5 b)
   (e9 (B6 (KP 4 (d5 6) n) (c7 (i7 7 (fO L3 a (d5 6) (yL 1 (k:=3) (Φ:=MG P w K mg base 3 1) rfl (f9 (i8 (b8 6) c9) m6) (v7 N3) (a.mono (by decide)))) b)
   (c7 (i7 8 (fO aJ a (fW (b8 7) S8<|F6 c9) (yL 2 (k:=3) (Φ:=MG P w K mg base 3 1) rfl (f9 (d5 7) m6) (v7 N3) (a.mono (by decide)))) b)
   (c7 (Q6 3<|xS (d5 7)<|d5 8)
   (e9 (N5 aBx rfl (q9<|BP K9 a<|d5 8) (n8 9 b) (c7 (DH 4 qT (d5 9) n)
   (e9<|Q6 5<|xS (i8 (b8 9) c9)<|i8 (b8 9) c9))))))) t5))))
   (e9<|j3<|PF.pd<|FA (b8 3) rfl i)))))
 case hm=>
  intro d O Q T h;simp only[J8]at h;split at h
  .rename_i Y u;split at h
   .rename_i m J v;split at h
    .rename_i j;rw[<-h];obtain⟨j,x,y,o,p⟩:=j;rw[t7 v]at o p;subst y o p;have z:(1:Nat)<=sizeLine:=by decide
     simp only[kL,W5,J2,P3,R.aa0,aAq,aBf,aFP,z,if_true,D4];exact a2e (Φ:=MG P w K mg base 3 1) j x
    cases h
   cases h
  cases h
def tJ:Nst:=⟨"about",FN,F1 eV,p9 eV,c6 eV,HS eV,["corner"],[],["spread"],[1],(λρ=>(eG 1 ρ).bind λd=>.ok (.rt d)),K8,2⟩
def cN:Nst:=⟨"touched_by",iU,F1 L0,p9 L0,c6 L0,HS L0,["plane"],[],["spread"],[1],(λρ=>((l9 (eG 0) (l9 (eG 1) S7) ρ).bind A3).bind λd=>.ok (.rt d)),E8,3⟩
def LD{f:bc}{C:au}{A:cf}{a:List Env}{s:ba}{H:Hp}{E:XK}:NstOk (UQ P w K mg base gJ "faces_of" (c6 L8) f C A a s H E) 2 tJ where
 sc:=⟨rfl,rfl,rfl,by decide+kernel,by decide+kernel,by decide+kernel,λx h=>GO h,by decide+kernel⟩
 one:=rfl
 body:=λt k e A a s H l=>by have u:=l.units;exact(e9<|j3<|d5 1)
 mm:=by
  intro m n d b g h;match m,n,b,g,h with
  |[_],[_],_,_,h=>cases h;rfl
 bind:=λe o v k p q r=>match q,r with|[_],_=>rfl
 len:=rfl
 at_:=λi j x b g=>match i,b,g with
  |0,b,g=>by obtain rfl:1=j:=Option.some.inj b;obtain rfl:("spread":Str)=x:=Option.some.inj g;exact⟨rfl,rfl⟩
  |i+1,b,_=>nomatch(show(none:Option Nat)=some j from b)
 d0:=rfl
 k0:=rfl
 nm:=rfl
 lc:=.inl rfl
 st:=.inl rfl
 dbg:=by decide
 cdt:=by decide
def oO(J1:A2 P w K mg base 2 "points_on" 2 A3){f:bc}{C:au}{A:cf}{a:List Env}{s:ba}{H:Hp}{E:XK}:NstOk (UQ P w K mg base gJ "faces_of" (c6 L8) f C A a s H E) 2 cN where
 sc:=⟨rfl,rfl,rfl,by decide+kernel,by decide+kernel,by decide+kernel,λx h=>GO h,by decide+kernel⟩
 one:=rfl
 body:=λy m g A a s H l=>by have z:=l.units;exact(e9<|j3<|fO J1 l (d5 0)<|d5 1)
 mm:=by
  intro n o d b k h;match n,o,b,k,h with
  |[w],[p],_,_,h=>have h:A3 [p,w]=.ok d:=h;show N9 (((l9 (eG 0) (l9 (eG 1) S7) [.v p,.v w]).bind A3).bind λd=>.ok (.rt d))=.ok d;have e:l9 (eG 0) (l9 (eG 1) S7) [.v p,.v w]=.ok [p,w]:=rfl;rw[e,R.aa0,h];rfl
 bind:=λg q B m r t u=>match t,u with|[_],_=>rfl
 len:=rfl
 at_:=λi j x b k=>match i,b,k with
  |0,b,k=>by obtain rfl:1=j:=Option.some.inj b;obtain rfl:("spread":Str)=x:=Option.some.inj k;exact⟨rfl,rfl⟩
  |i+1,b,_=>nomatch(show(none:Option Nat)=some j from b)
 d0:=rfl
 k0:=rfl
 nm:=rfl
 lc:=.inl rfl
 st:=.inl rfl
 dbg:=by decide
 cdt:=by decide
def X5{t:bc}(J1:A2 P w K mg base 2 "points_on" 2 A3)(Z7:A2 P w K mg base 3 "refuse_flat" 1 G1)(bR:A2 P w K mg base 8 "first_pair" 1 J9)(cC:XJ P w K mg base 8 3 "faces_from" J8)(bh:mg "sorted"=none)(mh:mg "set"=none)(Q:jV mg base)(i:(t,tbK)∈Tabs.tbs)(g:a1p K mg "faces_of" L8 t):A2 P w K mg base 9 "faces_of" 1 Q3:=by
 obtain⟨f,fd,cd,T,U,u⟩:=g;refine' WX (k:=8) (F:=_) u mR (u.fn.binds λ_ _ _ _ _ _ us y=>match us,y with|[_],_=>rfl) T (λA j s H E a=>?hb) ?hm
 case hb=>
  have hu:=a.units;have dh:=a.ae2;have l:=a.ae1 (by decide);have z:=mR.nd;refine' (c7 (OC<|BP Z7 a<|d5 0)
   (c7 (i7 1 (PF.pd<|aX (b8 0) rfl l) z)
   (BY (n1:=tJ) (n2:=cN) (clos1:=[("spread",s.heap.objs.size+1)]) (clos2:=[("spread",s.heap.objs.size+1)]) (tb:=tbK) LD (oO J1) ?co1 ?co2 ?hA Q rfl U i (by decide+kernel) (by decide+kernel) (by decide+kernel) (by decide+kernel) (by decide) z cC (a.mono (by decide)) (BP bR a<|d5 1) (λ_=>rfl))))
  case co1=>exact⟨rfl,rfl,rfl,λx c h=>h,λx o=>⟨_,by obtain rfl:x= "spread":=aAK.mp o;rfl⟩⟩
  case co2=>exact⟨rfl,rfl,rfl,λx c h=>h,λx o=>⟨_,by obtain rfl:x= "spread":=aAK.mp o;rfl⟩⟩
  case hA=>exact JX
 case hm=>
  intro p d y h;match p,h with
  |[.lst Y],h=>
   simp only[Q3]at h;split at h
   .rename_i J hw;rw[t7 hw];split at h
    .rename_i hz;rw[<-h];obtain⟨B,C,I⟩:=hz;obtain⟨m,r,e,L⟩:=cA B C (by lia);have q:=MX (J:=J) (by lia);have fl:=UV (B.mono (n:=1000)) C;rw[e]at I q⊢;have N:=a0y L;have O:=gw L I;obtain⟨b,eL⟩:∃b,(m::r).map vd=b:=⟨_,rfl⟩;rw[eL]at q N O;show N9 (D1 ((G1 [D.lst (J.map vd)]).bind λ_=>R.ok (Out.nx [.v (.lst (J.map vd)),.no,.no,.no])) _)=_;rw[fl,R.aa0,D4];show N9 (D1 (((ssR<|.lst (J.map vd)).bind λp=>R.ok (D.lst p)).bind λd=>R.ok (Out.nx [.v (.lst (J.map vd)),.v d,.no,.no])) _)=_;rw[q,R.aa0,R.aa0,D4];show N9 (((J9 [D.lst b]).bind λd1=>(R.ok [D.lst b]).bind λw1=>(R.ok [D.lst b]).bind λw2=>J8 d1 (K8 w1) (E8 w2)).bind λd=>R.ok (Out.rt d))=_;rw[N,R.aa0,R.aa0,R.aa0,O];rfl
    cases h
   cases h
def Z5(r:mg "sorted"=none)(s:mg "set"=none)(g:fN K mg "corners_in" bF):gK P w K mg base 8 "corners_in" 1 K3:=by
 refine' iR (k:=7) (F:=_) g rW (λl t u f=>?b) λm d x h=>?_
 case b=>
  have i:=l.ae1 (by decide);refine' (A6 (Y3 1 (dJ m6) f)
   (A6 (N5 aBx rfl (q9<|d5 0) (iW (n:=2) rfl<|B8 (n8 2 f)<|B8 (n8 3 f) eI)<|e9<|DY 1<|d5 3)
   (R7<|aX (b8 1) rfl i)))
 match m,h with
 |[.lst Y],h=>
  simp only[K3]at h;split at h
  .rename_i o p;split at h
   .rename_i j;rw[<-h];obtain⟨y,z,e⟩:=mW (a:=Sl.v (D.lst Y)) Y o [] Sl.no Sl.no p (by simpa using j.1);rw[aCi,aBF]at e;have q:=MX j.2;simp[l4,-List.map_flatten,e,q]
   cases h
  cases h
def gQ(X5:A2 P w K mg base 9 "faces_of" 1 Q3)(Z5:gK P w K mg base 8 "corners_in" 1 K3)(g:fN K mg "body_of" lS):gK P w K mg base 10 "body_of" 1 V8:=by
 refine' iR (k:=9) (F:=_) g EU (λf s t u=>?b) λl d v h=>?_
 case b=>refine' (R7 (EG Z5 (f.mono (by decide)) (f9 (BP X5 f<|d5 0) m6)<|v7 N3))
 match l,h with
 |[.lst Y],h=>
  simp only[V8]at h;split at h
  .rename_i J n;rw[t7 n];split at h
   .rename_i o;rw[<-h];obtain⟨i,j,a⟩:=o;obtain⟨m,r,e,L⟩:=cA i j (by lia);have p:=zV i j a;have x:((j4<|i4 J).flatMap (G.c8<|i4 J)).length<=200/\(i4<|(j4<|i4 J).flatMap (G.c8<|i4 J)).length<=23:=by rw[e]at a⊢;exact tQ L a
    have q:=DZ (J:=i4 J) (fs:=j4 (i4 J)) (by lia) (by lia);simp[l4,p,q,B0]
   cases h
  cases h
end
section
variable [Tabs]
variable{P:bM}{w:cp}{K:iu}{mg:cM}{base:cq}
variable{je xt ki qc:bc}
def kS(iL:A2 P w K mg base 1 "is_whole" 1 Y4)(g:fN K mg "is_axis" lW):A2 P w K mg base 2 "is_axis" 1 OM:=by
 refine' p5 (k:=1) (F:=_) g CQ (λe l m n=>?b) λf d o h=>?_
 case b=>refine' (e9<|j3<|TK (BP iL e<|d5 0)<|OY<|RB 0)
 replace h:=G6 h;obtain⟨a,f,rfl,h⟩:=h;replace h:=w9 h;obtain⟨rfl,h⟩:=h;replace h:=W4 h;obtain⟨⟨i,j⟩,rfl⟩:=h;simp[l4,Y4,SO,chR,i,j]
def vL(kS:A2 P w K mg base 2 "is_axis" 1 OM)(aJ:A2 P w K mg base 4 "ring_of" 2 K5)(I:mg "sorted"=none)(L:mg "set"=none)(q:FH K mg "UPWARD" [0,0,1])(g:fN K mg "shadow_of" T2):gK P w K mg base 8 "shadow_of" 2 zW:=by
 refine' iR (k:=7) (F:=_) g wZ (λl O Q r=>?b) λp d T h=>?_
 case b=>
  have m:=l.ae1 (by decide);refine' (A6 (B6 (IG<|wE<|BP kS l<|d5 1) (e9 fJ) t5)
   (A6 (jO 2 ["P"] ["axis"] [1] r rfl (J0 (sc:=c6 T2) (N:=dI)) (q9<|d5 0) (CU λ_ _ _ _ _=>(b9 m5 (PD.pb<|b9 m5 (PD.pb<|fW (b8 0) S8<|F6<|d5 1)<|PD.pb<|fW (b8 0) (F6<|b9 m5 (b8 1) m9) S8)<|PD.pb<|pI<|f9 c9 m6))<|λ_=>o9)
   (R7<|vN ["P"] [] [] rfl (J0 (sc:=c6 T2) (N:=dI)) (q9<|fO aJ l (oN q)<|PF.pd<|aX (b8 2) rfl m) (CU λ_ _ _ _ _=>(fW (b8 0) S8<|F6 c9))<|λ_=>o9)))
 replace h:=DB h;obtain⟨J,p,rfl,h⟩:=h;replace h:=G6 h;obtain⟨a,p,rfl,h⟩:=h;replace h:=w9 h;obtain⟨rfl,h⟩:=h;replace h:=W4 h;obtain⟨⟨⟨s,t⟩,j⟩,rfl⟩:=h;have e:∀f:Ev->R D,(∀P:G.V,f [.v (vd P),.v (.int a)]=.ok (vd<|C6 a P))->o7 (λd ρ=>R.ok (aDE ρ 0<|Sl.v d)) (λ_=>R.ok true) f [.no,.v (.int a)] (J.map vd)=.ok ((J.map<|C6 a).map vd):=λf i=>by rw[J6 vd (λP=>vd (C6 a P)) J λP _=>⟨_,rfl,i P⟩,aBd];rfl
 have u:=MX (J:=J.map (C6 a)) (aAp (EN (a:=a) j).2 (by decide));have o:=HN (n:=⟨0,0,1⟩) ⟨by decide,by decide,by decide⟩ (EN (a:=a) j).1;have o:K5 [.tup [.int 0,.int 0,.int 1],.lst ((i4<|J.map<|C6 a).map vd)]=.ok (.lst ((w4 a J).map vd)):=o;have l2:=(pQ (a:=a) j).2;have A:∀f:Ev->R D,(∀v:G.V,f [.v (vd v)]=.ok (G8 v))->o7 (λd ρ=>R.ok (aDE ρ 0<|Sl.v d)) (λ_=>R.ok true) f [.no] ((w4 a J).map vd)=.ok ((w4 a J).map G8):=λf i=>J6 vd G8 _ λv _=>⟨_,rfl,i v⟩;have B:(J.map vd).length<=sizeLine:=by rw[aAh];exact small (by have:=j.2;lia)
 have C:((w4 a J).map vd).length<=sizeLine:=by rw[aAh];exact small (by lia)
 simp only[l4,aAk,aCi,aAJ,aBF,aAq,aBf,aCH,aCI,aBB,aBC];refine N6 (ρ:=[.v (.lst (J.map vd)),.v (.int a),.no]) (by simp[show OM [.int a]=.ok (.bl true)from R6 ⟨s,t⟩]) ?_;refine N6 (ρ:=[.v (.lst (J.map vd)),.v (.int a),.v (.lst ((J.map<|C6 a).map vd))]) ?_ ?_
 .have c0:∀x y z:D,wX (.tup [x,y,z]) none (some 0)=.ok (.tup [])/\wX (.tup [x,y,z]) (some 1) none=.ok (.tup [y,z])/\wX (.tup [x,y,z]) none (some 1)=.ok (.tup [x])/\wX (.tup [x,y,z]) (some 2) none=.ok (.tup [z])/\wX (.tup [x,y,z]) none (some 2)=.ok (.tup [x,y])/\wX (.tup [x,y,z]) (some 3) none=.ok (.tup []):=λ_ _ _=>⟨rfl,rfl,rfl,rfl,rfl,rfl⟩;have E:∀x y:D,lR (.tup []) (.tup [x,y])=.ok (.tup [x,y])/\lR (.tup [x]) (.tup [y])=.ok (.tup [x,y])/\lR (.tup [x,y]) (.tup [])=.ok (.tup [x,y]):=λ_ _=>⟨rfl,rfl,rfl⟩;have H:∀x y z:D,lR (.tup [x,y]) (.tup [z])=.ok (.tup [x,y,z]):=λ_ _ _=>rfl;simp only[aU,W5,R.aa0,fP,hV B];rw[show i5 ["P"] [1] [.v (.lst (J.map vd)),.v (.int a),.no]=[.no,.v (.int a)]from rfl];rw[e _ λP=>?_]
  .rfl
  rcases(show a=0\/a=1\/a=2 by lia)with rfl|rfl|rfl<;>simp[c0,E,H,C6,nK,sizeLine]
 simp only[aU,W5,cF,eU,R.aa0,u,J2,P3,W8,o,fP,hV C];rw[show i5 ["P"] [] [.v (.lst (J.map vd)),.v (.int a),.v (.lst ((J.map<|C6 a).map vd))]=[.no]from rfl];rw[A _ λv=>rfl];rfl
def K7(K9:A2 P w K mg base 1 "pairs_round" 1 aO)(q:A2 P w K mg base 8 "shadow_of" 2 zW)(Y:mg "sum"=none)(g:fN K mg "shadow_area" R5):A2 P w K mg base 9 "shadow_area" 2 nS:=by
 refine' p5 (k:=8) (F:=_) g qJ (λj hu dh nd=>?b) λl d hl h=>?_
 case b=>refine' (e9 (j3 (SG (DI rfl) (PD.pb (R4 ["P", "Q"] [] [] rfl (J0 (sc:=c6 R5) (N:=fZ)) (q9<|BP K9 j<|fO q j (d5 0)<|d5 1) (by rintro m fp X2 ⟨s0,H1,C,rfl⟩;exact⟨(iW (n:=2) rfl (B8 (n8 0 (show(["P", "Q"]:List Str).Nodup by decide+kernel)) (B8 (n8 1 (show(["P", "Q"]:List Str).Nodup by decide+kernel)) eI))),IR,(b9 t4 (PD.pb<|b9 l5 (PD.pb<|i8 (b8 0) c9)<|PD.pb<|i8 (b8 1) c9)<|PD.pb<|b9 l5 (PD.pb<|i8 (b8 0) c9)<|PD.pb<|i8 (b8 1) c9)⟩)<|λ_=>MR)))))
 replace h:=DB h;obtain⟨J,l,rfl,h⟩:=h;replace h:=G6 h;obtain⟨a,l,rfl,h⟩:=h;replace h:=w9 h;obtain⟨rfl,h⟩:=h;replace h:=W4 h;obtain⟨⟨s,o⟩,rfl⟩:=h;have t:=UL s o;obtain⟨f,rl⟩:=pQ (a:=a) o;generalize w4 a J=r at*
 have u:aO [.lst (r.map G8)]=.ok (.lst (L6 (r.map G8)<|(r.tail++r.take 1).map G8)):=by rw[aBi,aGu,aGv];exact hV (by rw[aAh];lia)
 have z:=λ(A:D->Ev->R Ev) (B:Ev->R D) (ρ:Ev) (h:∀P∈r,∀Q∈r.tail++r.take 1,∃e,A (.tup [G8 P,G8 Q]) ρ=.ok e/\B e=.ok (.int (rT P Q)))=>uR r (r.tail++r.take 1) h;have E:(L6 (r.map G8)<|(r.tail++r.take 1).map G8).length<=sizeLine:=by unfold L6;rw[List.length_zipWith,aAh];exact small (aAp (Nat.min_le_left _ _) (by lia))
 simp only[l4,aAk,aCi,aAJ,aBF,aAq,aBf,aCH,aCI,aBB,aBC,J2,P3,aU,W5,R.aa0,t,u,fP,hV E];rw[show i5 ["P", "Q"] [] _=[.no,.no]from rfl];rw[z _ _ _ λP H Q I=>⟨[.v (G8 P),.v (G8 Q)],rfl,?_⟩]
 .have O:=aK (aCW rT r<|r.tail++r.take 1);generalize(aCW rT r<|r.tail++r.take 1).map D.int=L at*
  simp[OR,O,C8]
 have sQ:Sz 1000 Q:=by
  rcases aAD.mp I with h|h
  .exact f Q (List.mem_of_mem_tail h)
  exact f Q (aDG h)
 have p:=f P H;have T:=t9 (D8.of p.1 sQ.2.1);have U:=t9 (D8.of p.2.1 sQ.1);have i:∀v:G.V,bJ (G8 v) (.int 0)=.ok (.int v.x)/\bJ (G8 v) (.int 1)=.ok (.int v.y):=λv=>⟨rfl,rfl⟩;simp[i,T,U,rT]
end
section
variable [Tabs]
variable{P:bM}{w:cp}{K:iu}{mg:cM}{base:cq}
variable{je xt ki qc:bc}
def D3(m:mg "len"=none)(g:fN K mg "_law_cell_at" X1):A2 P w K mg base 1 "_law_cell_at" 2 G3:=by
 refine' p5 (k:=0) (F:=_) g nF (λn o p q=>?b) λf d r h=>?_
 case b=>
  refine' (c7 (B6 (k9 uQ (b8 1)<|PD.pb<|SG lP<|b8 0) (e9<|j3<|i8 (b8 0)<|d5 1) t5)
   (e9<|j3 c9))
 match f,h with
 |[.lst Y,.int k],h=>
  simp only[G3]at h;split at h
  .rename_i i;obtain⟨j,s⟩:=i;rw[<-h];by_cases a:k<Y.length
   .have e:Y[k.toNat]?=some Y[k.toNat]:=aAi (by lia);have l:rP Y k=some Y[k.toNat]:=by rw[Z2 j,e]
    simp[l4,a,cH l,xT,e]
   have e:Y[k.toNat]?=none:=aCq.mpr (by lia);simp[l4,a,xT,e]
  cases h
def bK(g:fN K mg "_law_great" cB):A2 P w K mg base 1 "_law_great" 1 jB:=by
 refine' p5 (k:=0) (F:=_) g sK (λj l m a=>?b) λe d n h=>?_
 case b=>
  refine' (c7 (i7 1 (b9 m5 (PD.pb<|b9 l5 m9<|PD.pb<|b9 G5 m9 m9) m9) a)
   (c7 (i7 2 (b9 t4 (PD.pb<|b9 t6 (PD.pb<|b9 m5 (PD.pb<|b9 l5 (b8 0) m9)<|PD.pb<|b9 G5 m9 m9)<|b8 1)<|PD.pb<|b9 G5 m9 m9) a)
   (c7 (i7 3 (b9 t4 (PD.pb<|b9 t6 (PD.pb<|b9 m5 (PD.pb<|b9 l5 (PD.pb<|b9 l5 (b8 0)<|b8 0) m9)<|PD.pb<|b9 G5 m9 m9)<|b8 1)<|PD.pb<|b9 G5 m9 m9) a)
   (e9<|j3<|oH (d5 2) (d5 3)<|b9 t4 (PD.pb<|b9 t6 (PD.pb<|b9 m5 (PD.pb<|b9 l5 (PD.pb<|b9 l5 (b8 0)<|b8 0)<|b8 0)<|PD.pb<|b9 G5 m9 m9)<|b8 1)<|PD.pb<|b9 G5 m9 m9))))
 replace h:=G6 h;obtain⟨c,e,rfl,h⟩:=h;replace h:=w9 h;obtain⟨rfl,h⟩:=h;replace h:=W4 h;obtain⟨f,rfl⟩:=h
 haveI:Bd c 2000000:=⟨f⟩
 have i:wR (.int 10) (.int 12)=.ok (.int 1000000000000):=rfl;have o:(2000000000000:Int)+1=2000000000001:=rfl;simp[l4,i,M8,aS,qN,YE,M12]
def bV(D3:A2 P w K mg base 1 "_law_cell_at" 2 G3)(bK:A2 P w K mg base 1 "_law_great" 1 jB)(cb:mg "range"=none)(g:fN K mg "_law_near" D7):gK P w K mg base 2 "_law_near" 1 oC:=by
 refine' iR (k:=1) (F:=_) g vZ (λq l dh f=>?b) λds d m h=>?_
 case b=>
  refine' (A6 (i7 1 (fO D3 q (d5 0) c9) f)
   (A6 (i7 2 (b9 m5 m9<|PD.pb<|b9 t6 (PD.pb<|b9 u3 (b8 1) m9) m9) f)
   (A6 (i7 3 (b9 m5 m9<|PD.pb<|b9 t6 (PD.pb<|b9 u3 (b8 1) m9) m9) f)
   (A6 (i7 4 (b9 m5 m9<|PD.pb<|b9 t6 (PD.pb<|b9 u3 (b8 1) m9) m9) f)
   (A6 (B6 (k9 (U3 l) (PD.pb<|b9 t6 (PD.pb<|b9 u3 (b8 1) m9) m9) m9) (e9<|HR (oH (b9 m5 (PD.pb<|b9 l5 (b8 2)<|PD.pb<|b9 G5 m9 m9) m9) (b9 m5 (PD.pb<|b9 l5 (b8 3)<|PD.pb<|b9 G5 m9 m9) m9)<|b9 m5 (PD.pb<|b9 l5 (b8 4)<|PD.pb<|b9 G5 m9 m9) m9)<|iW (n:=3) rfl<|B8 (n8 2 f)<|B8 (n8 3 f)<|B8 (n8 4 f) eI) t5)
   (A6 (i7 5 (b9 t6 (b8 1) m9) f)
   (jS (k9 (U3 l) (b8 5) m9) (R7<|vN ["k"] ["a", "b", "c"] [2,3,4] rfl (J0 (sc:=c6 D7) (N:=L9)) (V7<|u6 m9 E6) (CU λ_ _ _ _ _=>(oH (b9 l5 (PD.pb<|b9 t6 (b8 0) m9)<|b8 1) (b9 l5 (PD.pb<|b9 t6 (PD.pb<|b9 u3 (b8 0) m9) m9)<|b8 2)<|b9 l5 (PD.pb<|b9 u3 (b8 0) m9)<|b8 3))<|λ_=>o9)
   (jS (k9 (U3 l) (b8 5) m9) (R7<|dJ<|f9 (oH (d5 2) c9 c9)<|f9 (oH (b9 t4 m9<|b8 3) c9 c9)<|f9 (oH c9 (d5 3) c9)<|f9 (oH c9 (b9 t4 m9<|b8 4) c9)<|f9 (oH c9 c9<|d5 4)<|f9 (oH c9 c9<|b9 t4 m9<|b8 2) m6)
   (jS (k9 (U3 l) (b8 5) m9) (A6 (Y3 6 (dJ<|f9 (xS c9 c9)<|f9 (xS (d5 2) c9)<|f9 (xS c9<|d5 3) m6) f)
   (SB 6<|R7<|SN (PD.pb<|R4 ["spot"] [] [] rfl (J0 (sc:=c6 D7) (N:=L9)) (q9<|d5 6) (CU λ_ _ _ _ _=>(b9 m5 (b8 0)<|PD.pb<|pI<|f9 c9 m6))<|λ_=>o9)<|PD.pb<|R4 ["spot"] ["c", "a", "b"] [4,2,3] rfl (J0 (sc:=c6 D7) (N:=L9)) (q9<|d5 6) (CU λ_ _ _ _ _=>(oH (b9 m5 (PD.pb<|i8 (b8 0) c9)<|b8 1) (i8 (b8 0) c9)<|b9 m5 (b8 2)<|b8 3))<|λ_=>o9))
   (jS (CN.pt<|wJ (k9 (U3 l) (b8 5) m9)<|qL<|k9 (U3 l) (PD.pb<|b9 t6 (PD.pb<|b9 u3 (b8 1) m9) m9) m9) (R7<|vN ["k"] [] [] rfl (J0 (sc:=c6 D7) (N:=L9)) (V7<|u6 (PD.pb<|b9 m5 m9<|PD.pb<|b9 l5 m9<|PD.pb<|b9 t6 (PD.pb<|b9 u3 (b8 1) m9) m9) E6) (CU λ_ _ _ _ _=>(oH (b9 t6 (b8 0) m9) (b9 u3 (b8 0) m9)<|b9 m5 (PD.pb<|b9 l5 (PD.pb<|b9 t6 (b8 0) m9)<|PD.pb<|b9 t6 (b8 0) m9)<|PD.pb<|b9 l5 (PD.pb<|b9 u3 (b8 0) m9)<|PD.pb<|b9 u3 (b8 0) m9))<|λ_=>o9)
   (jS (k9 (U3 l) (b8 5) m9) (R7<|SN (PD.pb<|R4 ["k"] [] [] rfl (J0 (sc:=c6 D7) (N:=L9)) (V7<|u6 (PD.pb<|b9 m5 m9<|PD.pb<|b9 t6 (PD.pb<|b9 u3 (b8 1) m9) m9) E6) (CU λ_ _ _ _ _=>(oH (d5 0) (b9 l5 (b8 0)<|b8 0) c9))<|λ_=>o9)<|PD.pb<|vT<|f9 (oH (d5 2) (d5 3)<|d5 4) m6)
   (A6 (Y3 6 (dJ<|f9 (oH c9 c9 c9)<|f9 (oH (d5 2) c9 c9)<|f9 (oH c9 (d5 3) c9)<|f9 (oH c9 c9<|d5 4) m6) f)
   (A6 (N5 aBx rfl (q9<|fW (b8 0) (F6 c9)<|F6 c9) (n8 1 f)<|e9<|B6 (CN.pt<|lE (k9 (U3 l) (b8 5) m9)<|oI<|CN.pt<|wJ (k9 (U3 l) (b8 5) m9)<|qL<|k9 (U3 l) (PD.pb<|b9 t6 (b8 1) m9) m9) (e9<|Q6 6<|BP bK q<|b9 u3 (b8 1) m9)<|e9<|Q6 6<|oH (b9 t4 (PD.pb<|b9 t6 (b8 1) m9) m9) (b9 t4 (PD.pb<|b9 t6 (PD.pb<|b9 u3 (b8 1) m9) m9) m9)<|b9 t4 (PD.pb<|b9 t6 (PD.pb<|b9 u3 (b8 1) m9) m9) m9)
   (PJ 6))))))))))))))
 replace h:=Z3 h;obtain⟨Y,ds,rfl,h⟩:=h;replace h:=w9 h;obtain⟨rfl,h⟩:=h;replace h:=W4 h;obtain⟨hi,rfl⟩:=h;obtain⟨e0,hb⟩:=QF hi 0 (by decide);have e0:G3 [.lst Y,.int 0]=.ok (.int (cI Y 0)):=e0;generalize cI Y 0=c at*
 have hp:=nT c;have p6:wR (.int 10) (.int 6)=.ok (.int 1000000):=rfl;have p7:wR (.int 10) (.int 7)=.ok (.int 10000000):=rfl;have p8:wR (.int 10) (.int 8)=.ok (.int 100000000):=rfl;have E:S6 (.int c) (.int 7)=.ok (.int (c.fdiv 7)):=A5 (by decide) (by decide);have d14:S6 (.int c) (.int 14)=.ok (.int (c.fdiv 14)):=A5 (by decide) (by decide);have d42:S6 (.int c) (.int 42)=.ok (.int (c.fdiv 42)):=A5 (by decide) (by decide);have H:S6 (.int c) (.int 126)=.ok (.int (c.fdiv 126)):=A5 (by decide) (by decide);have r:S6 (.int c) (.int 378)=.ok (.int (c.fdiv 378)):=A5 (by decide) (by decide);have A:∀(x:Int) {k:Int},0<k->oV (.int x) (.int k)=.ok (.int (x.fmod k)):=λx k t=>aS t;have m3:=λx=>A x (show(0:Int)<3 by decide);have u:=λx=>A x (show(0:Int)<2 by decide);have m7:=λx=>A x (show(0:Int)<7 by decide);have m16:=λx=>A x (show(0:Int)<16 by decide);have m4:=λx=>A x (show(0:Int)<4 by decide);have d6:S6 (.int c) (.int 6048)=.ok (.int (c.fdiv 6048)):=A5 (by decide) (by decide);clear A;unfold cG rJ;simp only[l4,aAk,aCi,aAJ,aBF,aAq,aBf,aCH,aCI,aBB,aBC];refine N6 (ρ:=[.v (.lst Y),.v (.int c),.no,.no,.no,.no,.no]) (by simp[e0]) ?_;refine N6 (ρ:=[.v (.lst Y),.v (.int c),.v (.int (1+(c.fdiv 14).fmod 3)),.no,.no,.no,.no]) (by simp[d14,m3]) ?_;refine N6 (ρ:=[.v (.lst Y),.v (.int c),.v (.int (1+(c.fdiv 14).fmod 3)),.v (.int (1+(c.fdiv 42).fmod 3)),.no,.no,.no]) (by simp[d42,m3]) ?_;refine N6 (ρ:=[.v (.lst Y),.v (.int c),.v (.int (1+(c.fdiv 14).fmod 3)),.v (.int (1+(c.fdiv 42).fmod 3)),.v (.int (1+(c.fdiv 126).fmod 3)),.no,.no]) (by simp[H,m3]) ?_;refine N6 (ρ:=[.v (.lst Y),.v (.int c),.v (.int (U1 c).1),.v (.int (U1 c).2.1),.v (.int (U1 c).2.2),.no,.no]) ?_ ?_
 .have f1:=C4 (a:=c.fdiv 14) (b:=3) (by decide);have f2:=C4 (a:=c.fdiv 42) (b:=3) (by decide);have f3:=C4 (a:=c.fdiv 126) (b:=3) (by decide);unfold U1
  haveI:Bd (1+(c.fdiv 14).fmod 3) 10:=⟨j8 (by lia) (by lia)⟩
  haveI:Bd (1+(c.fdiv 42).fmod 3) 10:=⟨j8 (by lia) (by lia)⟩
  haveI:Bd (1+(c.fdiv 126).fmod 3) 10:=⟨j8 (by lia) (by lia)⟩
  by_cases hq:(c.fdiv 7).fmod 2=1
  .generalize 1+(c.fdiv 14).fmod 3=a at*
   generalize 1+(c.fdiv 42).fmod 3=b at*
   generalize 1+(c.fdiv 126).fmod 3=e at*
   simp[E,u,hq,p6,p7,p8,M8,TN,fV,P9,mY]
  simp[E,u,hq]
 generalize(U1 c).1=a at*
 generalize(U1 c).2.1=b at*
 generalize(U1 c).2.2=e at*
 obtain⟨⟨a0,a1⟩,⟨b0,b1⟩,⟨c0,c1⟩⟩:=hp
 haveI Ba:Bd a 40:=⟨j8 (by lia) (by lia)⟩
 haveI Bb:Bd b 40:=⟨j8 (by lia) (by lia)⟩
 haveI Be:Bd e 40:=⟨j8 (by lia) (by lia)⟩
 refine N6 (ρ:=[.v (.lst Y),.v (.int c),.v (.int a),.v (.int b),.v (.int e),.v (.int (c.fmod 7)),.no]) (by simp[m7]) ?_;by_cases I:c.fmod 7=0
 .rw[hV I];refine jL (by simp[I]) ?_;have q:gU [.int 8]=.ok ((aBc 8).map λ(k:Nat)=>D.int (k:Int)):=VW (n:=8) (by decide);have m:((aBc 8).map λ(k:Nat)=>D.int (k:Int)).length<=sizeLine:=by rw[aAh,aCN];decide
  have eb:(LW a b e).map vd=(aBc 8).map λ(k:Nat)=>vd ⟨(k:Int).fmod 2*a,((k:Int).fdiv 2).fmod 2*b,(k:Int).fdiv 4*e⟩:=aBd ..;rw[eb];simp only[I,cF,eU,R.aa0,W8,xH,tH,beq_self_eq_true,if_true,J2,P3,q];rw[AN m (J6 (λ(k:Nat)=>D.int (k:Int)) (λ(k:Nat)=>vd ⟨(k:Int).fmod 2*a,((k:Int).fdiv 2).fmod 2*b,(k:Int).fdiv 4*e⟩) (aBc 8) λk t=>⟨[.v (.int (k:Int)),.v (.int a),.v (.int b),.v (.int e)],rfl,?_⟩)]
  .rfl
  have J:=aBa.mp t;have d2:S6 (.int (k:Int)) (.int 2)=.ok (.int ((k:Int).fdiv 2)):=A5 (by decide) (by decide);have d4:S6 (.int (k:Int)) (.int 4)=.ok (.int ((k:Int).fdiv 4)):=A5 (by decide) (by decide)
  haveI:Bd (((k:Int)).fmod 2) 3:=⟨z6 (by decide) (by decide)⟩
  haveI:Bd (((k:Int).fdiv 2).fmod 2) 3:=⟨z6 (by decide) (by decide)⟩
  haveI:Bd (((k:Int).fdiv 4)) 10:=⟨bits_fdiv (j8 (by lia) (by lia))⟩
  simp[u,d2,d4,M8]
 rw[h9 I];refine kI (by simp[I]) ?_;by_cases L:c.fmod 7=1
 .rw[hV L];refine jL (by simp[L]) ?_;simp[L,wT,KD,sizeLine]
 rw[h9 L];refine kI (by simp[L]) ?_;by_cases O:c.fmod 7=2
 .rw[hV O];refine jL (by simp[O]) ?_;have ad:∀x y:List D,x.length+y.length<=1000->YQ (.lst x) (.lst y)=.ok (x++y):=λx y h=>GA (small h);simp[O,wS,KD,sizeLine,gG,i5,VT,ad]
 rw[h9 O];refine kI (by simp[O]) ?_;by_cases s:c.fmod 7=3
 .rw[hV s];by_cases q3:(c.fdiv 6048).fmod 2=1
  .rw[hV q3];obtain⟨n,en,C,_,et⟩:=ZP c;have q:=VW (n:=n) (aAp C (by decide));have m:=FX n (aAp C (by decide));have f4:MB (.int 4) (.int ((c.fdiv 378).fmod 3))=.ok (.int (4*(c.fdiv 378).fmod 3)):=t9 (D8.of (show bits 4<=10 by decide) (z6 (n:=10) (by decide) (by decide)));have eb:(WM n).map vd=(aBc n).map λ(k:Nat)=>vd ⟨(k:Int).fmod 4,(k:Int).fdiv 4,(k:Int).fmod 4*(k:Int).fmod 4+(k:Int).fdiv 4*(k:Int).fdiv 4⟩:=aBd ..;rw[et,eb];refine jL (IC (u9 (FC s) rfl) (by simp-implicitDefEqProofs only[cF,eU,W8,R.aa0,d6,u,FC q3,BS])) ?_;simp only[cF,eU,R.aa0,W8,J2,P3,r,m3,f4,oA];rw[en,q,R.aa0];rw[AN m (J6 (λ(k:Nat)=>D.int (k:Int)) (λ(k:Nat)=>vd ⟨(k:Int).fmod 4,(k:Int).fdiv 4,(k:Int).fmod 4*(k:Int).fmod 4+(k:Int).fdiv 4*(k:Int).fdiv 4⟩) (aBc n) λk t=>⟨[.v (.int (k:Int))],rfl,?_⟩)]
   .rfl
   have J:=aBa.mp t;have d4:S6 (.int (k:Int)) (.int 4)=.ok (.int ((k:Int).fdiv 4)):=A5 (by decide) (by decide);have b1:bits ((k:Int).fmod 4)<=3:=z6 (by decide) (by decide);have b2:bits ((k:Int).fdiv 4)<=10:=bits_fdiv (j8 (by lia) (by lia));have p1:=t9 (D8.of b1 b1);have p2:=t9 (D8.of b2 b2);simp-implicitDefEqProofs only[J2,P3,eU,W8,R.aa0,m4,d4,p1,p2,oA];rfl
  rw[h9 q3];refine kI (IC (u9 (FC s) rfl) (by simp-implicitDefEqProofs only[cF,eU,W8,R.aa0,d6,u,ZI q3,BS])) ?_;refine jL (by simp[s]) ?_;obtain⟨n,en,C,_,et⟩:=IK c;have q:=VW (n:=n) (aAp C (by decide));have m:=FX n (aAp C (by decide));rw[et,XB];simp only[s,cF,eU,R.aa0,W8,xH,tH,beq_self_eq_true,if_true,J2,P3,r,m16,oA];rw[en,q,R.aa0];rw[RA m (J6 (λ(k:Nat)=>D.int (k:Int)) (λ(k:Nat)=>vd ⟨(k:Int),(k:Int)*(k:Int),0⟩) (aBc n) λk t=>⟨[.v (.int (k:Int))],rfl,?_⟩)]
  .rw[R.aa0];simp only[aU,W5,R.aa0,a0h,a1s];rw[GA (small (by rw[aAh,aCN];exact aAp (Nat.add_le_add_right C 1) (by decide)))];rfl
  have J:=aBa.mp t
  haveI:Bd (k:Int) 10:=⟨j8 (by lia) (by lia)⟩
  simp[M8]
 rw[h9 s];refine kI (tz<|u9 (ZI s) rfl) ?_;refine kI (by simp[s]) ?_;refine N6 (ρ:=[.v (.lst Y),.v (.int c),.v (.int a),.v (.int b),.v (.int e),.v (.int (c.fmod 7)),.o ((jE a b e).map vd)]) ?_ ?_
 .simp[jE,show 4<=sizeLine by decide]
 obtain⟨t1,t2,t3⟩:=tO hi;have sl:wX (.lst Y) (some 4) (some 9)=.ok (.lst ((Y.drop 4).take 5)):=RE Y 4 9 (by decide);rw[t1]at sl;simp only[eU,W8,R.aa0,a0k,sl,iQ];refine RT (λrest ρ=>∃(B:List G.V) (p:List Int) (x:Sl),ρ=[.v (.lst Y),x,.v (.int a),.v (.int b),.v (.int e),.v (.int (c.fmod 7)),.o (B.map vd)]/\rest=p.map D.int/\(∀i∈p,bits i<=1048576)/\B.length+p.length<=9/\B++p.map (AC c)=jE a b e++(dN Y).map (AC c)) ?_ ⟨jE a b e,dN Y,_,rfl,rfl,t3,by simp[jE];lia,rfl⟩ ?_
 .rintro d ds ρ ⟨B,p,x,rfl,Q,ya,m,e2⟩;match p,Q with
  |i::p,Q=>
   injection Q with e3 e4;subst e3 e4;have hbi:=ya i (.head _);have hz:(B.map vd).length<sizeLine:=by rw[aAh];simp only[aAq]at m;exact aCv (show B.length<=1000 by lia) (by decide)
   have dd:∀k:Int,0<k->k<100->S6 (.int i) (.int k)=.ok (.int (i.fdiv k)):=λk h1 h2=>A5 h1 (by lia);have d2:=dd 2 (by decide) (by decide);have E:=dd 7 (by decide) (by decide);have T:=dd 49 (by decide) (by decide);clear dd;have ap:∀v:G.V,BH 6 [.v (.lst Y),.v (.int i),.v (.int a),.v (.int b),.v (.int e),.v (.int (c.fmod 7)),.o (B.map vd)] (vd v)=.ok (.nx [.v (.lst Y),.v (.int i),.v (.int a),.v (.int b),.v (.int e),.v (.int (c.fmod 7)),.o ((B++[v]).map vd)]):=λv=>by show(if(B.map vd).length<sizeLine then _ else _)=_;rw[hV hz,aBi];rfl
   have gr:jB [.int (i.fdiv 2)]=.ok (vd<|qN<|i.fdiv 2):=R6 (f6<|bits_fdiv hbi);refine⟨[.v (.lst Y),.v (.int i),.v (.int a),.v (.int b),.v (.int e),.v (.int (c.fmod 7)),.o ((B++[AC c i]).map vd)],?_,B++[AC c i],p,_,rfl,rfl,λj hj=>ya j (.tail _ hj),by simp at m⊢;lia,by rw[<-e2];simp⟩;rw[<-ap];unfold AC;by_cases U:c.fmod 7=5
   .rw[hV (.inl U)];simp[U,d2,gr]
   by_cases k6:c.fmod 7=6
   .by_cases o2:i.fmod 2=1
    .rw[hV (.inr ⟨k6,o2⟩)];simp[k6,u,o2,d2,gr]
    rw[h9 (λz=>z.elim U λz=>o2 z.2)];simp[k6,u,o2,E,T,m7]
   rw[h9 (λz=>z.elim U λz=>k6 z.1)];simp[U,k6,E,T,m7]
 rintro ρ ⟨B,p,x,rfl,Q,ya,m,e2⟩;have:p=[]:=by simpa using Q.symm
 subst this;rw[aCi,aCb]at e2;rw[<-e2];rfl
def bD(D3:A2 P w K mg base 1 "_law_cell_at" 2 G3)(g:fN K mg "_law_moved" bI):A2 P w K mg base 2 "_law_moved" 2 pK:=by
 refine' p5 (k:=1) (F:=_) g sJ (λhr hu dh e=>?b) λds d hl h=>?_
 case b=>
  refine' (c7 (HR (d5 0)<|iW (n:=3) rfl<|B8 (n8 2 e)<|B8 (n8 3 e)<|B8 (n8 4 e) eI)
   (c7 (i7 5 (fO D3 hr (d5 1) c9) e)
   (c7 (i7 6 (i8 (PD.pb<|vT<|f9 c9<|f9 (b9 G5 m9 m9) m6)<|b9 t6 (b8 5) m9) e)
   (c7 (i7 2 (b9 m5 (b8 2)<|PD.pb<|b9 l5 (PD.pb<|b9 t6 (PD.pb<|b9 u3 (b8 5) m9)<|b8 6)<|b8 3) e)
   (c7 (i7 3 (b9 t4 (b8 3)<|PD.pb<|b9 l5 (PD.pb<|b9 t6 (PD.pb<|b9 u3 (PD.pb<|b9 l5 (b8 5)<|b8 5) m9)<|b8 6)<|b8 4) e)
   (c7 (i7 4 (b9 m5 (b8 4)<|PD.pb<|b9 l5 (PD.pb<|b9 t6 (PD.pb<|b9 u3 (PD.pb<|b9 l5 (b8 5) m9) m9)<|b8 6)<|b8 2) e)
   (c7 (B6 (k9 (U3 hu) (PD.pb<|b9 t6 (PD.pb<|b9 u3 (b8 5) m9) m9) m9) (e9<|OJ 2 4 rfl e<|f9 (d5 4)<|f9 (d5 2) m6) t5)
   (c7 (i7 7 (fO D3 hr (d5 1) c9) e)
   (c7 (i7 6 (b9 m5 (PD.pb<|b9 l5 m9<|PD.pb<|b9 G5 m9 m9) m9) e)
   (c7 (i7 2 (b9 t4 (PD.pb<|b9 m5 (b8 2)<|PD.pb<|b9 t6 (PD.pb<|b9 m5 (PD.pb<|b9 l5 (b8 7) m9)<|PD.pb<|b9 G5 m9 m9)<|b8 6)<|PD.pb<|b9 G5 m9 m9) e)
   (c7 (i7 3 (b9 t4 (PD.pb<|b9 m5 (b8 3)<|PD.pb<|b9 t6 (PD.pb<|b9 m5 (PD.pb<|b9 l5 (PD.pb<|b9 l5 (b8 7)<|b8 7) m9)<|PD.pb<|b9 G5 m9 m9)<|b8 6)<|PD.pb<|b9 G5 m9 m9) e)
   (e9<|j3<|oH (d5 2) (d5 3)<|b9 t4 (PD.pb<|b9 m5 (b8 4)<|PD.pb<|b9 t6 (PD.pb<|b9 m5 (PD.pb<|b9 l5 (PD.pb<|b9 l5 (b8 7)<|b8 7)<|b8 7)<|PD.pb<|b9 G5 m9 m9)<|b8 6)<|PD.pb<|b9 G5 m9 m9))))))))))))
 replace h:=M1 h;obtain⟨a,b,c,ds,rfl,h⟩:=h;replace h:=Z3 h;obtain⟨Y,ds,rfl,h⟩:=h;replace h:=w9 h;obtain⟨rfl,h⟩:=h;replace h:=W4 h;obtain⟨⟨hi,B⟩,rfl⟩:=h;obtain⟨C,E⟩:=QF hi 1 (by decide);obtain⟨H,h2⟩:=QF hi 2 (by decide);have C:G3 [.lst Y,.int 1]=.ok (.int (cI Y 1)):=C;have H:G3 [.lst Y,.int 2]=.ok (.int (cI Y 2)):=H;generalize cI Y 1=k at*
 generalize cI Y 2=f at*
 obtain⟨I,jm,J⟩:=UD k
 haveI:Bd k 1048576:=⟨E⟩
 haveI:Bd f 1048576:=⟨h2⟩
 haveI:Bd a 100:=⟨B.1⟩
 haveI:Bd b 100:=⟨B.2.1⟩
 haveI:Bd c 100:=⟨B.2.2⟩
 have p6:wR (.int 10) (.int 6)=.ok (.int 1000000):=rfl;have i:wR (.int 10) (.int 20)=.ok (.int 100000000000000000000):=rfl;have L:∀x:Int,oV (.int x) (.int 2)=.ok (.int (x.fmod 2)):=λx=>aS (by decide);have N:∀x:Int,oV (.int x) (.int (FY k))=.ok (.int (x.fmod<|FY k)):=λx=>aS jm;have q:∀x:Int,Bd (x.fmod<|FY k) 20:=λx=>⟨z6 jm J⟩;have y:∀(x:Int) {j:Int},0<j->j<100->S6 (.int x) (.int j)=.ok (.int (x.fdiv j)):=λx j E h2=>A5 E (by lia);have d4:=λx=>y x (show(0:Int)<4 by decide) (by decide);have d2:=λx=>y x (show(0:Int)<2 by decide) (by decide);have O:=λx=>y x (show(0:Int)<16 by decide) (by decide);clear y;unfold fS;dsimp only
 haveI:=q (k.fdiv 4)
 haveI:=q ((k*k).fdiv 16)
 haveI:=q ((k*48611).fdiv 4)
 generalize FY k=Mk at*
 simp only[l4,aAk,aCi,aAJ,aBF,aAq,aBf,aCH,aCI,aBB,aBC];refine n6 (by simp[TN,fV,P9,mY];rfl) ?_;refine n6 (by simp[C];rfl) ?_;refine n6 (by simp[p6,L,I];rfl) ?_;obtain⟨s,m⟩:∃s,(k.fdiv 4).fmod Mk=s:=⟨_,rfl⟩;obtain⟨z,Q⟩:∃z,((k*k).fdiv 16).fmod Mk=z:=⟨_,rfl⟩;obtain⟨A,o⟩:∃A,((k*48611).fdiv 4).fmod Mk=A:=⟨_,rfl⟩;rw[m,Q,o]
 haveI:Bd s 20:=m▸q _
 haveI:Bd z 20:=Q▸q _
 haveI:Bd A 20:=o▸q _
 obtain⟨l,p⟩:∃l,a+s*b=l:=⟨_,rfl⟩
 haveI:Bd l 300:=⟨by rw[<-p];exact f6 (Bd.h (a:=a+s*b))⟩
 obtain⟨T,t⟩:∃T,b-z*c=T:=⟨_,rfl⟩;obtain⟨r,u⟩:∃r,c+A*l=r:=⟨_,rfl⟩;rw[p,t,u];refine n6 (by simp[d4,N,M8,m,p];rfl) ?_;refine n6 (by simp[O,N,M8,Q,t];rfl) ?_;refine n6 (by simp[d4,N,M8,o,u];rfl) ?_;refine n6 (ρ:=[.v (.tup [.int a,.int b,.int c]),.v (.lst Y),.v (.int (if(k.fdiv 2).fmod 2=1 then r else l)),.v (.int T),.v (.int (if(k.fdiv 2).fmod 2=1 then l else r)),.v (.int k),.v (.int Mk),.no]) ?_ ?_
 .by_cases hq:(k.fdiv 2).fmod 2=1
  .simp[d2,L,hq,TN,fV,P9,mY]
  simp[d2,L,hq]
 generalize(if(k.fdiv 2).fmod 2=1 then r else l)=x2;generalize(if(k.fdiv 2).fmod 2=1 then l else r)=z2;have eM:(2:Int)*100000000000000000000+1=UN:=rfl;have U:∀x:Int,oV (.int x) (.int UN)=.ok (.int (x.fmod UN)):=λx=>aS (by decide);have eT:(100000000000000000000:Int)=GU:=rfl;refine n6 (by simp[H];rfl) ?_;refine n6 (by simp only[W8,R.aa0,i,M8 (show(2:Nat)<=60000000 by decide) (show(67:Nat)<=60000000 by decide),oA,eM,aCy,aCz];rfl) ?_;refine n6 (by rw[<-eT]at*;simp[i,U,M8];rfl) ?_;refine n6 (by rw[<-eT]at*;simp[i,U,M8];rfl) ?_;rw[<-eT];simp[i,U,M8]
section
seal PySem.eval
def Y6(g:fN K mg "_law_flat" eS):A2 P w K mg base 1 "_law_flat" 2 iS:=by
 refine' p5 (k:=0) (F:=_) g wO (λf i j l=>?b) λe d m h=>?_
 case b=>refine' (e9<|j3<|i8 (PD.pb<|vT<|f9 (xS (i8 (b8 0) c9)<|i8 (b8 0) c9)<|f9 (xS (i8 (b8 0) c9)<|i8 (b8 0) c9)<|f9 (xS (i8 (b8 0) c9)<|i8 (b8 0) c9) m6)<|d5 1)
 replace h:=M1 h;obtain⟨x,y,z,e,rfl,h⟩:=h;replace h:=G6 h;obtain⟨a,e,rfl,h⟩:=h;replace h:=w9 h;obtain⟨rfl,h⟩:=h;replace h:=W4 h;obtain⟨n,rfl⟩:=h;rcases(show a=0\/a=1\/a=2 by lia)with rfl|rfl|rfl<;>rfl
end
def R9(g:fN K mg "_law_turn" cO):A2 P w K mg base 1 "_law_turn" 3 jX:=by
 refine' p5 (k:=0) (F:=_) g wW (λs t u n=>?b) λi d v h=>?_
 case b=>
  refine' (c7 (i7 3 (b9 l5 (PD.pb<|b9 t4 (PD.pb<|i8 (b8 1) c9)<|PD.pb<|i8 (b8 0) c9)<|PD.pb<|b9 t4 (PD.pb<|i8 (b8 2) c9)<|PD.pb<|i8 (b8 0) c9) n)
   (e9<|j3<|b9 t4 (b8 3)<|PD.pb<|b9 l5 (PD.pb<|b9 t4 (PD.pb<|i8 (b8 1) c9)<|PD.pb<|i8 (b8 0) c9)<|PD.pb<|b9 t4 (PD.pb<|i8 (b8 2) c9)<|PD.pb<|i8 (b8 0) c9))
 replace h:=SY h;obtain⟨a,b,i,rfl,h⟩:=h;replace h:=SY h;obtain⟨c,d,i,rfl,h⟩:=h;replace h:=SY h;obtain⟨e,f,i,rfl,h⟩:=h;replace h:=w9 h;obtain⟨rfl,h⟩:=h;replace h:=W4 h;obtain⟨⟨j,o,p⟩,rfl⟩:=h;have l:=j.sub o;have m:=j.sub p;have q:=t9 (D8.of l.1 m.2);have r:=t9 (D8.of l.2 m.1);simp only[l4,aAk,aCi,aAJ,aBF,aAq,aBf,aCH,aCI,aBB,aBC];refine n6 (u9 (u9 rfl<|u9 rfl q) rfl) ?_;exact ax (u9 rfl<|u9 (u9 rfl<|u9 rfl r) rfl)
def X9(R9:A2 P w K mg base 1 "_law_turn" 3 jX)(y:mg "sum"=none)(A:mg "range"=none)(B:mg "len"=none)(g:fN K mg "_law_area" X8):A2 P w K mg base 2 "_law_area" 1 jM:=by
 refine' p5 (k:=1) (F:=_) g vX (λm C E H=>?b) λn d o h=>?_
 case b=>refine' (e9<|j3<|SG (DI rfl)<|PD.pb<|R4 ["k"] ["ring"] [0] rfl (J0 (sc:=c6 X8) (N:=mH)) (V7<|u6 m9<|u6 (PD.pb<|b9 t4 (PD.pb<|SG lP<|b8 0) m9) E6) (CU λ_ _ _ _ _=>(pc3 R9 m (i8 (b8 1) c9) (i8 (b8 1)<|d5 0)<|i8 (b8 1)<|b9 m5 (b8 0) m9))<|λ_=>o9)
 replace h:=xx h;obtain⟨r,n,rfl,h⟩:=h;replace h:=w9 h;obtain⟨rfl,h⟩:=h;replace h:=W4 h;obtain⟨⟨p,o,e⟩,rfl⟩:=h;have j:0<r.length:=Nat.pos_of_ne_zero λz=>p (aEs z);have q:gU [.int 1,.int ((r.length:Int)-1)]=.ok ((aEh 1<|r.length-1-1).map λ(k:Nat)=>D.int (k:Int)):=by have:=a4h (a:=1) (b:=r.length-1) (by lia) (by lia);rw[show((r.length-1:Nat):Int)=(r.length:Int)-1 by lia]at this;exact this
 have f:∀i:Nat,i<r.length->bJ (.lst (r.map G8)) (.int (i:Int))=.ok (G8<|r.getD i 0):=λi s=>cH (by rw[Z2 (by lia),aBK,aAG,getD_at s];rfl);have t:bJ (.lst (r.map G8)) (.int 0)=.ok (G8<|r.getD 0 0):=f 0 j;have len:=TC G8 r;have u:=SL ((aEh 1<|r.length-1-1).map λk=>uF (r.getD 0 0) (r.getD k 0) (r.getD (k+1) 0));rw[NH];simp only[l4,aAk,aCi,aAJ,aBF,aAq,aBf,aCH,aCI,aBB,aBC];refine ax (u9 (x:=[.lst (((aEh 1<|r.length-1-1).map λk=>uF (r.getD 0 0) (r.getD k 0) (r.getD (k+1) 0)).map D.int)]) (cE<|u9 (x:=(aEh 1<|r.length-1-1).map λ(k:Nat)=>D.int (k:Int)) (u9 (eJ rfl<|u9 (u9 (cE rfl) len) rfl) q) ?_) u);rw[jQ (λ(k:Nat)=>D.int (k:Int)) D.int (λk=>uF (r.getD 0 0) (r.getD k 0) (r.getD (k+1) 0)) (aEh 1<|r.length-1-1) (by rw[List.length_range'];lia) λk l=>⟨[.v (.int (k:Int)),.v (.lst (r.map G8))],rfl,?_⟩];have l:=List.mem_range'_1.mp l;exact u9 (QH t (f k (by lia)) (f (k+1) (by lia))) (yO (e _<|iM j) (e _ (iM (by lia))) (e _ (iM (by lia))))
def dE(Y6:A2 P w K mg base 1 "_law_flat" 2 iS)(gg:A2 P w K mg base 8 "shadow_of" 2 zW)(K7:A2 P w K mg base 9 "shadow_area" 2 nS)(X9:A2 P w K mg base 2 "_law_area" 1 jM)(R9:A2 P w K mg base 1 "_law_turn" 3 jX)(gc:mg "list"=none)(b_max:mg "max"=none)(cb:mg "range"=none)(eh:mg "len"=none)(ue:mg "min"=none)(g:fN K mg "_law_good" M3):A2 P w K mg base 10 "_law_good" 3 qK:=by
 refine' p5 (k:=9) (F:=_) g wC (λJ hu dh o=>?b) λds d hl h=>?_
 case b=>
  refine' (c7 (jO 3 ["P"] ["axis"] [2] o rfl (J0 (sc:=c6 M3) (N:=Y5)) (q9<|d5 0) (CU λ_ _ _ _ _=>(fO Y6 J (d5 0)<|d5 1))<|λ_=>o9)
   (c7 (i7 4 (fO gg J (lB wF<|u6 (b8 0) E6)<|d5 2) o)
   (c7 (i7 5 (fO K7 J (lB wF<|u6 (b8 0) E6)<|d5 2) o)
   (c7 (i7 6 c9 o)
   (c7 (i7 7 c9 o)
   (c7 (N5 aBx rfl (q9<|d5 1) (iW (n:=2) rfl<|B8 (n8 8 o)<|B8 (n8 9 o) eI) (c7 (i7 10 (BP X9 J<|R4 ["P"] ["axis"] [2] rfl (J0 (sc:=c6 M3) (N:=Y5)) (q9<|d5 9) (CU λ_ _ _ _ _=>(fO Y6 J (d5 0)<|d5 1))<|λ_=>o9) o)
   (c7 (i7 6 (b9 m5 (b8 6)<|PD.pb<|dH (FR rfl)<|u6 m9<|u6 (b8 10) E6) o)
   (e9<|i7 7 (b9 m5 (b8 7)<|PD.pb<|dH (FR rfl)<|u6 m9<|u6 (PD.pb<|b9 t4 m9<|b8 10) E6) o))))
   (c7 (B6 (CN.pt<|lE (k9 uQ (b8 5) m9)<|lE (k9 (rK hu) (b8 6)<|b8 5)<|lE (k9 (rK hu) (b8 7)<|b8 5)<|oI<|k9 (rK hu) (PD.pb<|BP X9 J<|d5 4)<|b8 5) (e9<|j3 qT) t5)
   (c7 (N5 aBx rfl (V7<|u6 (PD.pb<|SG lP<|b8 4) E6) (n8 11 o) (c7 (jO 12 ["spot"] ["shadow", "k"] [4,11] o rfl (J0 (sc:=c6 M3) (N:=Y5)) (q9<|d5 3) (CU λ_ _ _ _ _=>(pc3 R9 J (i8 (b8 1)<|b9 t4 (b8 2) m9) (i8 (b8 1)<|d5 2)<|d5 0))<|λ_=>o9)
   (e9<|B6 (CN.pt<|lE (k9 (TR hu) (PD.pb<|i8 (b8 4)<|d5 11)<|b8 3)<|oI<|k9 uQ (PD.pb<|dH (WA rfl)<|u6 (b8 12) E6) m9) (e9<|j3 qT) t5)))
   (e9<|j3 qT)))))))))
 replace h:=DB h;obtain⟨l,ds,rfl,h⟩:=h;replace h:=Z3 h;obtain⟨fs,ds,rfl,h⟩:=h;replace h:=G6 h;obtain⟨a,ds,rfl,h⟩:=h;replace h:=w9 h;obtain⟨rfl,h⟩:=h;replace h:=W4 h;obtain⟨⟨⟨B,rfl⟩,ha⟩,rfl⟩:=h;have hp:Fw l:=⟨B.sz.1,aAp B.len (by decide)⟩;have SH:=UL ha hp;have AR:=xX ha hp;obtain⟨f1,f2,f3⟩:=B.ac7;obtain⟨pu,pd,pp⟩:=jF B.sol B.ord a f1 f3;have sh:=bP (a:=a) B.sol;obtain⟨rs,rl⟩:=pQ (a:=a) hp;have few:=B.few;have ln:l.length<=23:=B.len;have LF:∀P:G.V,iS [vd P,.int a]=.ok (G8<|C6 a P):=λP=>RO ha;have b2:∀P∈l,B2 (C6 a P).x (C6 a P).y:=λP L=>by have z:=ZL (a:=a) (B.sz.1 P L);exact⟨f6 z.1,f6 z.2.1⟩
 have PA:∀f∈j4 l,jM [.lst (((G.c8 l f).map (C6 a)).map G8)]=.ok (.int (G.dot (G.ar 0<|G.u8<|G.c8 l f)<|uA a))/\(G.c8 l f).length<=1000:=λf hf=>by
  have F:=(f1 f).mp hf;have S:=F.aa2 B.ord;have sub:∀X∈G.c8 l f,X∈l:=λX hX=>(G.c5.mp<|S.aa4 hX).1;have rl:(G.c8 l f).length<=l.length:=G.B9 S.aa3 sub;obtain⟨x,y,z,r,e⟩:=G.J5 B.ord F;refine⟨?_,by lia⟩;rw[<-YZ];refine vF (λv i=>?_) ⟨λq=>?_,by rw[aAh];lia,λv i=>?_⟩
  .obtain⟨P,_,rfl⟩:=aAj.mp i;exact XZ a P
  .have:G.c8 l f=[]:=aEL.mp q;have e:G.c8 l f=x::y::z::r:=e;rw[e]at this;cases this
  obtain⟨P,L,rfl⟩:=aAj.mp i;exact b2 P (sub P L)
 have zS:∀v∈i4 (l.map<|C6 a),v.z=0:=RJ;have O:∀v∈l.map (C6 a),v∈i4 (l.map<|C6 a):=λv i=>l3.mpr i;have j:∀v∈w4 a l,v∈l.map (C6 a):=λv i=>l3.mp (sh.aa4 i);have left:∀k,k<(w4 a l).length->∀v∈l.map (C6 a),0<=uF (jD (w4 a l) k).1 (jD (w4 a l) k).2 v:=λk hk v i=>by
  have E:=sh.aa1.mp (show((jD (w4 a l) k).1,(jD (w4 a l) k).2)∈G.u8 (w4 a l)from XH hk);have:=E.left v (O v i);have dt:∀A B X:G.V,G.i3 ⟨0,0,1⟩ (B-A) (X-A)=uF A B X:=λA B X=>by simp[G.i3,G.dot,G.cr,uF];try grind
  rwa [dt]at this
 obtain⟨m,r0,Q,_,_⟩:=sh.aa7;have Rne:w4 a l≠[]:=λq=>by have Q:w4 a l=m::r0:=Q;rw[Q]at q;cases q
 have AS:=vF (r:=w4 a l) (λv i=>zS v (O v<|j v i)) ⟨Rne,by lia,λv i=>⟨(rs v i).1,(rs v i).2.1⟩⟩;have T:∀v∈l.map (C6 a),B2 v.x v.y:=λv i=>by obtain⟨P,L,rfl⟩:=aAj.mp i;exact b2 P L
 have Sne:l.map (C6 a)≠[]:=λq=>by have Q:w4 a l=m::r0:=Q;have:=j m (by rw[Q];exact .head _);rw[q]at this;cases this
 have Sn:(l.map<|C6 a).length<=30000:=by rw[aAh];lia
 clear Q sh rs O zS;generalize w4 a l=R at*
 generalize C8 R=A at*
 have len:=TC G8 R;simp only[l4,aAk,aCi,aAJ,aBF,aAq,aBf,aCH,aCI,aBB,aBC];refine n6 (u9 (x:=.lst ((l.map<|C6 a).map G8)) (u9 (x:=l.map vd) rfl ?_) rfl) ?_
 .rw[jQ vd G8 (C6 a) l (by lia) λP L=>⟨[.v (vd P),.v (.int a)],rfl,u9 (eJ rfl rfl) (LF P)⟩]
 generalize l.map (C6 a)=S at*
 refine n6 (u9 (u9 (eJ (u9 (cE rfl) rfl) rfl) SH) rfl) ?_;refine n6 (u9 (u9 (eJ (u9 (cE rfl) rfl) rfl) AR) rfl) ?_;refine n6 rfl ?_;refine n6 rfl ?_;refine rR (x:=(j4 l).map (j6 l)) rfl ?_;refine dQ (λrest ρ=>∃(s:List (G.V×Int)) (u d:Int) (x8 x9 t:Sl),rest=s.map (j6 l)/\(∀f∈s,f∈j4 l)/\ρ=[.v (.lst (l.map vd)),.v (.lst ((j4 l).map (j6 l))),.v (.int a),.v (.lst (S.map G8)),.v (.lst (R.map G8)),.v (.int A),.v (.int u),.v (.int d),x8,x9,t,.no,.no]/\u+(s.map λf=>max 0 (G.dot (G.ar 0<|G.u8<|G.c8 l f)<|uA a)).sum=A/\d+(s.map λf=>max 0 (-G.dot (G.ar 0<|G.u8<|G.c8 l f) (uA a))).sum=A) ?_ ⟨j4 l,0,0,_,_,_,rfl,λ_ h=>h,rfl,by rw[pu];lia,by rw[pd];lia⟩ ?_
 .rintro d ds ρ ⟨s,u,C,x8,x9,t,e1,e2,rfl,H,I⟩;match s,e1,e2,H,I with
  |f::s,e1,e2,H,I=>
   injection e1 with e5 e6;subst e5;obtain⟨q1,q2⟩:=PA f (e2 f<|.head _);rw[aAk,aAZ]at H I;generalize G.dot (G.ar 0<|G.u8<|G.c8 l f) (uA a)=p at*
   refine a1w (a:=vH f.1 f.2) (b:=.lst ((G.c8 l f).map vd)) rfl ?_;refine dS (u9 (u9 (x:=[.lst (((G.c8 l f).map (C6 a)).map G8)]) (cE<|u9 (x:=(G.c8 l f).map vd) rfl ?_) q1) rfl) ?_
   .rw[jQ vd G8 (C6 a) (G.c8 l f) (by lia) λP L=>⟨[.v (vd P),.v (.int a)],rfl,u9 (eJ rfl rfl) (LF P)⟩]
   refine dS (u9 (u9 rfl<|u9 (u9 (eJ rfl rfl)<|NU 0 p) rfl) rfl) ?_;have e0:OB (.int 0) (.int p)=.ok (.int (-p)):=by rw[IL,Int.zero_sub]
   exact⟨_,u9 (u9 rfl<|u9 (u9 (eJ rfl<|u9 rfl<|u9 rfl e0)<|NU 0 (-p)) rfl) rfl,s,_,_,_,_,_,e6,λg hg=>e2 g (.tail _ hg),rfl,by lia,by lia⟩
 rintro ρ ⟨s,u,C,x8,x9,t,e1,e2,rfl,H,I⟩;have:s=[]:=by simpa using e1.symm
 subst this;have H:u+0=A:=H;have I:C+0=A:=I;rw[aFL]at H I;subst H;subst I;refine n6 (tV (HU (u9 (u9 rfl (u9 rfl (GK (by lia)))) rfl)<|HU (u9 (u9 rfl<|u9 rfl<|QK C) rfl)<|HU (u9 (u9 rfl<|u9 rfl<|QK C) rfl)<|u9 (u9 (u9 (cE rfl) AS)<|u9 rfl<|QK C) rfl)) ?_;refine rR (x:=fU 0 R.length) (u9 (cE<|u9 (cE rfl) len) (a1b (by lia))) ?_;refine VA (λ_ ρ=>∃U Y:Sl,ρ=[.v (.lst (l.map vd)),.v (.lst ((j4 l).map (j6 l))),.v (.int a),.v (.lst (S.map G8)),.v (.lst (R.map G8)),.v (.int C),.v (.int C),.v (.int C),x8,x9,t,U,Y]) ?_ ⟨_,_,rfl⟩ ?_
 .rintro k k1 k2 ρ ⟨U,Y,rfl⟩;have hk:k<R.length:=by lia
  have lf:=left k hk;have m2:R.getD k 0∈R:=iM hk;have m1:R.getD (if k=0 then R.length-1 else k-1) 0∈R:=iM (by split<;>lia);have i2:bJ (.lst (R.map G8)) (.int (k:Int))=.ok (G8<|R.getD k 0):=cH (by rw[Z2 (by lia),aBK,aAG,getD_at hk];rfl);have i1:bJ (.lst (R.map G8)) (.int ((k:Int)-1))=.ok (G8<|R.getD (if k=0 then R.length-1 else k-1) 0):=by
   by_cases q:k=0
   .subst q;obtain⟨_,_,e⟩:∃n,n=R.length-1/\(-1+(R.length:Int)).toNat=R.length-1:=⟨_,rfl,by lia⟩;refine cH ?_;unfold rP MD;rw[aAh,h9 (by decide),hV (by lia),show((0:Nat):Int)-1=-1 from rfl,e,hV rfl];show(R.map G8)[R.length-1]?=_;rw[aAG,M.getD_at (by lia)];rfl
   rw[h9 q,show(k:Int)-1=((k-1:Nat):Int)by lia];exact cH (by rw[Z2 (by lia),aBK,aAG,M.getD_at (by lia)];rfl)
  unfold jD at lf;dsimp only at lf;generalize R.getD (if k=0 then R.length-1 else k-1) 0=p at*
  generalize R.getD k 0=q at*
  refine qy rfl ?_;refine dS (u9 (x:=.lst ((S.map<|uF p q).map D.int)) (u9 (x:=S.map G8) rfl ?_) rfl) ?_
  .rw[jQ G8 D.int (uF p q) S Sn λv i=>⟨[.v (G8 v),.v (.lst (R.map G8)),.v (.int (k:Int))],rfl,?_⟩];exact u9 (QH (u9 rfl<|u9 rfl i1) i2 rfl) (yO (T p<|j p m1) (T q<|j q m2)<|T v i)
  refine⟨_,tV (HU (u9 (u9 (u9 rfl<|u9 rfl i2)<|u9 rfl<|a2o<|j q m2) rfl)<|u9 (u9 (u9 (cE rfl)<|fw λz=>Sne (aEL.mp z))<|u9 rfl<|GK ?_) rfl),_,_,rfl⟩;obtain⟨v,i,e⟩:=aAj.mp (zQ (ns:=S.map (uF p q)) λz=>Sne (aEL.mp z));rw[<-e];exact lf v i
 rintro ρ ⟨U,Y,rfl⟩;rfl
section
seal PySem.eval
def o_law{f:bc}{fd:dA}(bD:A2 P w K mg base 2 "_law_moved" 2 pK)(X5:A2 P w K mg base 9 "faces_of" 1 Q3)(dE:A2 P w K mg base 10 "_law_good" 3 qK)(K7:A2 P w K mg base 9 "shadow_area" 2 nS)(bV:gK P w K mg base 2 "_law_near" 1 oC)(gQ:gK P w K mg base 10 "body_of" 1 V8)(mi:mg "sum"=none)(gc:mg "list"=none)(cb:mg "range"=none)(F0:Fun K "law" "law" fX f fd):FnOk P w K mg base uI 11 f fd ["script"] (spD K 1 oF):=by
 refine' fnD (k:=10) (F:=_) F0 UG (λC A outer s H E z=>?b) λI d hl h=>?_
 case b=>
  have hu:=z.units;have dh:=z.ae2;have O:=UG.nd;refine' (c7 (Y3 1 (EG bV (z.mono (by decide)) (f9 (d5 0) m6)<|v7 N3) O)
   (c7 (Y3 2 (dJ<|f9 c9<|f9 c9<|f9 c9 m6) O)
   (c7 (N5 aBx rfl (q9<|vT<|f9 c9<|f9 (SG (DI rfl)<|PD.pb<|fW (b8 0) (F6 c9)<|F6 c9) m6) (n8 3 O) (c7 (B6 (k9 (rK hu) (b8 3) m9) (e9<|Q6 1<|oH (b9 t4 (PD.pb<|b9 t6 (b8 3) m9) m9) (b9 t4 (PD.pb<|b9 t6 (PD.pb<|b9 u3 (b8 3) m9) m9) m9)<|b9 t4 (PD.pb<|b9 t6 (PD.pb<|b9 u3 (b8 3) m9) m9) m9) t5)
   (c7 (NC 4 1 (EG gQ (z.mono (by decide)) (f9 (R4 ["spot"] ["script"] [0] rfl (J0 (sc:=c6 fX) (N:=ZK)) (q9<|d5 1) (CU λ_ _ _ _ _=>(fO bD z (d5 0)<|d5 1))<|λ_=>o9) m6)<|v7 N3) O)
   (c7 (i7 5 (BP X5 z<|lB wF<|u6 (b8 4) E6) O)
   (e9 (N5 aBx rfl (V7<|u6 m9 E6) (n8 6 O) (c7 (B6 (WZ 4<|IG<|wE<|pc3 dE z (d5 4) (d5 5)<|d5 6) (e9<|j3 qT) t5)
   (c7 (GN 4<|i7 7 (fO K7 z (d5 4)<|d5 6) O)
   (c7 (B6 (k9 uQ (b8 7)<|PD.pb<|i8 (b8 2)<|d5 6) (e9<|j3 qT) t5)
   (e9<|KN 2 (d5 7)<|d5 6))))))))))
   (e9<|j3 qT))))
 replace h:=Z3 h;obtain⟨Y,I,rfl,h⟩:=h;replace h:=w9 h;obtain⟨rfl,h⟩:=h;replace h:=W4 h;obtain⟨⟨hl,T⟩,rfl⟩:=h;have NR:oC [.lst Y]=.ok (.lst ((cG (cI Y 0)<|dN Y).map vd)):=R6 T;obtain⟨z1,z2,z3⟩:=SM (cI Y 0) (tO T).2.1;have MV:∀P,Sz 100 P->pK [vd P,.lst Y]=.ok (vd<|fS (cI Y 1) (cI Y 2) P):=λP hP=>R6 ⟨T,hP⟩;obtain⟨ns,en,bn⟩:=QQ T (l:=(Y.drop 9).take (63-9)) λd Q=>aDH (aDG Q);have sl:wX (.lst Y) (some 9) (some 63)=.ok (.lst ((Y.drop 9).take (63-9))):=RE Y 9 63 (by decide);rw[en]at sl;have sc:=SL ns;have N0:N4 (cG (cI Y 0)<|dN Y) 2:=⟨z1,z3,by lia⟩;generalize cG (cI Y 0) (dN Y)=J at*
 generalize cI Y 1=n at*
 generalize cI Y 2=p at*
 generalize ns.sum=c at*
 simp only[l4,aAk,aCi,aAJ,aBF,aAq,aBf,aCH,aCI,aBB,aBC];refine n6 (by simp-implicitDefEqProofs only[J2,P3,aU,W5,R.aa0,NR];rfl) ?_;refine n6 rfl ?_;refine rR (x:=[.int 0,.int c]) (u9 (u9 (eJ rfl<|u9 (cE<|u9 rfl<|u9 rfl<|u9 rfl sl) sc) rfl) rfl) ?_;refine dQ (λI ρ=>∃(l:List G.V) (w:Nat->Int) (U y t m g:Sl),ρ=[.v (.lst Y),.o (l.map vd),.o (w3 w),U,y,t,m,g]/\N4 l I.length/\(∀j,w j<=sA l n p j)/\∀d∈I,∃i,d=.int i) ?_ ⟨J,_,_,_,_,_,_,rfl,N0,zx n p N0,λd Q=>?_⟩ (λ_ _=>rfl)
 .rintro d I ρ ⟨l,w,U,y,t,m,g,rfl,r,u,n2⟩;obtain⟨i,rfl⟩:=n2 d (.head _);have n2:=λd Q=>n2 d (.tail _ Q);refine qy (ρ':=[.v (.lst Y),.o (l.map vd),.o (w3 w),.v (.int i),y,t,m,g]) rfl ?_;refine pk (λρ=>∃l,ρ=[.v (.lst Y),.o (l.map vd),.o (w3 w),.v (.int i),y,t,m,g]/\N4 l I.length/\∀j,w j<=sA l n p j) ?_ ?_
  .by_cases e:i=0
   .subst e;exact⟨_,rfl,l,rfl,⟨r.1,r.2.1,by have:=r.2.2;rw[aAq]at this;lia⟩,u⟩
   have n0:MC (.int i) (.int 0)=.ok (.bl (!decide (i=0))):=rfl;rw[decide_eq_false e]at n0;have m11:∀x:Int,oV (.int x) (.int 11)=.ok (.int (x.fmod 11)):=λx=>aS (by decide);have f1:=A5 (a:=i) (b:=11) (by decide) (by decide);have f2:=A5 (a:=i) (b:=121) (by decide) (by decide);have tp:nK [.int (i.fmod 11-5),.int ((i.fdiv 11).fmod 11-5),.int ((i.fdiv 121).fmod 11-5)]=.ok (vd<|pV4 i):=rfl;have n3:=xk i r;refine⟨[.v (.lst Y),.o (l.map vd++[vd (pV4 i)]),.o (w3 w),.v (.int i),y,t,m,g],?_,l++[pV4 i],by rw[aBi];rfl,n3,λj=>Int.le_trans (u j) (YH n p r n3 j)⟩;simp-implicitDefEqProofs only[J2,P3,cF,eU,W8,R.aa0,n0,BS,Bool.not_false,if_true,m11,f1,f2,IL,tp];exact hV (by rw[aAh];exact aCv (show l.length<=21 by have:=r.2.2;lia) (by decide))
  rintro ρ ⟨l,rfl,r,u⟩;have K:=xI n p r;have BO:=WU K.1 K.2.1 K.2.2;have B:=GR K.1 K.2.1 K.2.2;have FO:=zV B.sz B.sol B.lok.2.2;rw[B.self]at FO;unfold sA at u;have hp:Fw (B0<|l.map<|fS n p):=⟨B.sz.1,aAp B.len (by decide)⟩;have fin:∀{w:Nat->Int}{U y t m g:Sl},(∀j,w j<=C8 (w4 (j:Int)<|B0<|l.map<|fS n p))->∃(l':List G.V) (w':Nat->Int) (y3 y4 y5 y6 y7:Sl),[.v (.lst Y),.o (l.map vd),.o (w3 w),U,y,t,m,g]=[.v (.lst Y),.o (l'.map vd),.o (w3 w'),y3,y4,y5,y6,y7]/\N4 l' I.length/\(∀j,w' j<=sA l' n p j)/\∀d∈I,∃i,d=.int i:=λh=>⟨l,_,_,_,_,_,_,rfl,r,h,n2⟩;refine dS (ρ:=[.v (.lst Y),.o (l.map vd),.o (w3 w),.v (.int i),.o ((B0<|l.map<|fS n p).map vd),t,m,g]) ?_ ?_
  .have e0:gG 1 [.v (.lst Y),.o (l.map vd),.o (w3 w),.v (.int i),y,t,m,g]=[.v (.lst Y),.v (.lst (l.map vd)),.o (w3 w),.v (.int i),y,t,m,g]:=rfl;rw[e0];simp-implicitDefEqProofs only[J2,P3,aU,W5,R.aa0,fP];rw[jQ vd vd (fS n p) l (by have:=r.2.2;lia) λP hP=>⟨[.v (vd P),.v (.lst Y)],rfl,u9 (eJ rfl rfl) (MV P<|r.1 P hP)⟩];simp-implicitDefEqProofs only[R.aa0,BO,unl,xW,if_true];rfl
  generalize B0 (l.map<|fS n p)=L at*
  refine dS (u9 (u9 (cE<|u9 (cE rfl) rfl) FO) rfl) ?_;refine a5e (x:=fU 0 3) rfl ?_;refine gx (λ_ ρ=>∃(w:Nat->Int) (W m g:Sl),ρ=[.v (.lst Y),.o (l.map vd),.o (w3 w),.v (.int i),W,.v (.lst ((j4 L).map (j6 L))),m,g]/\(W=.o (L.map vd)\/W=.v (.lst (L.map vd)))/\∀j,w j<=C8 (w4 (j:Int) L)) ?_ ⟨w,_,_,_,rfl,.inl rfl,u⟩ ?_
  .rintro a a1 a2 ρ ⟨w,W,m,g,rfl,hW,u⟩;have ha:0<=(a:Int)/\(a:Int)<=2:=by lia
   have LG:=LB B ha;have AR:=xX ha hp;refine qy (ρ':=[.v (.lst Y),.o (l.map vd),.o (w3 w),.v (.int i),W,.v (.lst ((j4 L).map (j6 L))),.v (.int (a:Int)),g]) rfl ?_;have eD:gG 4 [.v (.lst Y),.o (l.map vd),.o (w3 w),.v (.int i),W,.v (.lst ((j4 L).map (j6 L))),.v (.int (a:Int)),g]=[.v (.lst Y),.o (l.map vd),.o (w3 w),.v (.int i),.v (.lst (L.map vd)),.v (.lst ((j4 L).map (j6 L))),.v (.int (a:Int)),g]:=by rcases hW with rfl|rfl<;>rfl
   refine dS (tV<|jy<|eD▸u9 (u9 (QH rfl rfl rfl) LG) rfl) ?_;refine dS (ρ:=[.v (.lst Y),.o (l.map vd),.o (w3 w),.v (.int i),.v (.lst (L.map vd)),.v (.lst ((j4 L).map (j6 L))),.v (.int (a:Int)),.v (.int (C8<|w4 (a:Int) L))]) ?_ ?_
   .rw[eD];exact u9 (u9 (eJ rfl rfl) AR) rfl
   refine dS (tV (u9 (u9 rfl (u9 (u9 rfl (u9 rfl (a2a (by lia))))<|GK<|u a)) rfl)) ?_;refine⟨_,u9 rfl (u9 rfl (bq (w:=w) (by lia) rfl)),_,_,_,_,rfl,.inr rfl,λj=>?_⟩;by_cases q:j=a
   .rw[hV q,q];exact aBy _
   rw[h9 q];exact u j
  rintro ρ ⟨w,W,m,g,rfl,_,u⟩;exact fin u
 simp only[aAd,aAR,or_false]at Q;rcases Q with rfl|rfl
 .exact⟨_,rfl⟩
 exact⟨_,rfl⟩
end
end
end K44
section
namespace K44
open PySem L2 DL M
def truth(ns:List Int)(a:ns.length<=63)(b:∀x∈ns,aBe x<=1048576):oF [.lst (ns.map D.int)]=.ok (.bl true):=by unfold oF;exact hV ⟨by simpa using a,VH b⟩
section
variable [Tabs]
def all_mk{l:PySem.W.OpenLaw}{w:cp}{K:iu}{h:cq}{mg:cM}{fa f32 Pt:bc}(X:K.In h)(G:h.Ns bt mg)(hfa:mg "law"=some (.ref fa))
  (g0:Got K "is_whole" gR)
  (g1:Got K "way_between" Z9)
  (g2:Got K "cross_of" iF)
  (g3:Got K "product_of" bY)
  (g4:Got K "common_divisor" P8)
  (g5:Got K "plane_through" T7)
  (g6:Got K "side_of" lI)
  (g7:Got K "first_real_way" Q5)
  (g8:Got K "dimension_of" D5)
  (g9:Got K "refuse_flat" Z6)
  (g10:Got K "points_on" Y7)
  (g11:Got K "plane_about" Z1)
  (g12:Got K "first_pair" bA)
  (g13:Got K "turn_of" kN)
  (g14:Got K "left_chain" aY)
  (g15:Got K "ring_of" kE)
  (g16:Got K "pairs_round" aD)
  (g17:Got K "faces_from" bG)
  (g18:YW K "faces_of" L8 Pt)
  (g19:Got K "corners_in" bF)
  (g20:Got K "body_of" lS)
  (g21:Got K "is_axis" lW)
  (g22:Got K "shadow_of" T2)
  (g23:Got K "shadow_area" R5)
  (g24:Got K "_law_cell_at" X1)
  (g25:Got K "_law_great" cB)
  (g26:Got K "_law_near" D7)
  (g27:Got K "_law_moved" bI)
  (g28:Got K "_law_flat" eS)
  (g29:Got K "_law_turn" cO)
  (g30:Got K "_law_area" X8)
  (g31:Got K "_law_good" M3)
  {od32 an32:Option bc}{sl32:Array (Option au)}{oc32 kV32 dc32 pm32 cd32 ct32:au}
  (a32:PySem.W.nsIn K bt "law"=some (some (.ref f32))) (l32:K.lookup f32=some ⟨oc32,od32,.func (PySem.W.fnOf "law" "law" (F1 fX) (p9 fX) (c6 fX) .none kV32 dc32 pm32 an32 cd32 ct32),sl32⟩) (e32:PySem.W.codeIn K cd32 "law"=true) (k32:PySem.W.keepIn K (.ref f32)=true)
  (g:PySem.W.nsIn K bt "isinstance"=some none)
  (z_bool:PySem.W.nsIn K bt "bool"=some none)
  (z_int:PySem.W.nsIn K bt "int"=some none)
  (z_abs:PySem.W.nsIn K bt "abs"=some none)
  (z_len:PySem.W.nsIn K bt "len"=some none)
  (z_any:PySem.W.nsIn K bt "any"=some none)
  (z_min:PySem.W.nsIn K bt "min"=some none)
  (z_list:PySem.W.nsIn K bt "list"=some none)
  (t:PySem.W.nsIn K bt "reversed"=some none)
  (z_zip:PySem.W.nsIn K bt "zip"=some none)
  (z_sorted:PySem.W.nsIn K bt "sorted"=some none)
  (z_set:PySem.W.nsIn K bt "set"=some none)
  (z_sum:PySem.W.nsIn K bt "sum"=some none)
  (z_range:PySem.W.nsIn K bt "range"=some none)
  (z_max:PySem.W.nsIn K bt "max"=some none)
  {ml:bc}{H:Option bc}{u y z:Tok}{I:Nat}{J:Array (Option au)}
  (L:PySem.W.nsIn K bt "NO_WAY"=some (some (.ref ml))) (N:K.lookup ml=some ⟨.type "tuple",H,.seq #[.int 0 u,.int 0 y,.int 0 z] I,J⟩)
  {mo:bc}{O:Option bc}{A B C:Tok}{Q:Nat}{T:Array (Option au)}
  (U:PySem.W.nsIn K bt "UPWARD"=some (some (.ref mo))) (Y:K.lookup mo=some ⟨.type "tuple",O,.seq #[.int 0 A,.int 0 B,.int 1 C] Q,T⟩)
  (nt:(Pt,tbK)∈Tabs.tbs)
  (truth:∀ns:List Int,ns.length<=63->(∀x∈ns,aBe x<=1048576)->oF [.lst (ns.map D.int)]=.ok (.bl true)):
  ∃fd:dA,(∀(s:ba) (v:au),BindsTo s fd ⟨[v],[]⟩ [("script",v)])/\∀base:cq,K.In base->base.Ns bt mg->jV mg base->FnOk l.prog w K mg base uI 11 fa fd ["script"] (wM K):=by
 have e:=hfa.symm.trans (PySem.W.mg_of X G a32);cases e;have ja:=PySem.W.mg_none_of X G g;have xu:=PySem.W.mg_none_of X G z_bool;have b_int:=PySem.W.mg_none_of X G z_int;have b_abs:=PySem.W.mg_none_of X G z_abs;have eh:=PySem.W.mg_none_of X G z_len;have b_any:=PySem.W.mg_none_of X G z_any;have ue:=PySem.W.mg_none_of X G z_min;have gc:=PySem.W.mg_none_of X G z_list;have kl:=PySem.W.mg_none_of X G t;have b_zip:=PySem.W.mg_none_of X G z_zip;have bh:=PySem.W.mg_none_of X G z_sorted;have mh:=PySem.W.mg_none_of X G z_set;have mi:=PySem.W.mg_none_of X G z_sum;have cb:=PySem.W.mg_none_of X G z_range;have b_max:=PySem.W.mg_none_of X G z_max;have br:FH K mg "NO_WAY" [0,0,0]:=RQ (PySem.W.mg_of X G L) N;have km:FH K mg "UPWARD" [0,0,1]:=RQ (PySem.W.mg_of X G U) Y;refine⟨PySem.W.fnOf "law" "law" (F1 fX) (p9 fX) (c6 fX) .none kV32 dc32 pm32 an32 cd32 ct32,λs v=>.of_eq rfl,λbase _ _ hB=>?_⟩;have E:A2 l.prog w K mg base 1 "is_whole" 1 Y4:=iL ja xu b_int (g0.def X G);have bg:A2 l.prog w K mg base 1 "way_between" 2 w5:=n9 (g1.def X G);have dg:A2 l.prog w K mg base 1 "cross_of" 2 F3:=F4 (g2.def X G);have bo:A2 l.prog w K mg base 1 "product_of" 2 w6:=A0 (g3.def X G);have a:A2 l.prog w K mg base 1 "common_divisor" 1 K1:=Q0 b_abs (g4.def X G);have d:=T6 dg bg a bo (g5.def X G);have r_side_of:A2 l.prog w K mg base 1 "side_of" 2 aL:=kQ (g6.def X G);have b:A2 l.prog w K mg base 1 "first_real_way" 1 A8:=J7 br (g7.def X G);have gh:=I9 bg b dg bo eh b_any (g8.def X G);have f:=Z7 gh (g9.def X G);have jf:=J1 r_side_of (g10.def X G);have ib:=L3 bg bo dg d br (g11.def X G);have i:=bR jf ib gh ue (g12.def X G);have r_turn_of:=kG bo dg bg (g13.def X G);have j:=V2 r_turn_of eh (g14.def X G);have mr:=aJ j gc kl (g15.def X G);have ic:A2 l.prog w K mg base 1 "pairs_round" 1 aO:=K9 gc b_zip (g16.def X G);have k:=cC ib mr (ic.imp RX) eh bh (g17.def X G);have kn:=X5 jf f i k bh mh hB nt (g18.def X G);have ie:gK l.prog w K mg base 8 "corners_in" 1 K3:=Z5 bh mh (g19.def X G);have r_corners_in:=ie.cal;have ko:gK l.prog w K mg base 10 "body_of" 1 V8:=gQ kn ie (g20.def X G);have r_body_of:=ko.cal;have r_is_axis:=kS E (g21.def X G);have m:gK l.prog w K mg base 8 "shadow_of" 2 zW:=vL r_is_axis mr bh mh km (g22.def X G);have jg:=m.cal;have ig:=K7 ic jg mi (g23.def X G);have gi:A2 l.prog w K mg base 1 "_law_cell_at" 2 G3:=D3 eh (g24.def X G);have n:A2 l.prog w K mg base 1 "_law_great" 1 jB:=bK (g25.def X G);have jb:gK l.prog w K mg base 2 "_law_near" 1 oC:=bV gi n cb (g26.def X G);have r__law_near:=jb.cal;have o:=bD gi (g27.def X G);have p:A2 l.prog w K mg base 1 "_law_flat" 2 iS:=Y6 (g28.def X G);have jh:A2 l.prog w K mg base 1 "_law_turn" 3 jX:=R9 (g29.def X G);have q:=X9 jh mi cb eh (g30.def X G);have r:=dE p jg ig q jh gc b_max cb eh ue (g31.def X G);exact WG (o_law o kn r ig jb ko mi gc cb<|UH (st:=fX) l32 e32 k32) truth
end
end K44
namespace PySem.W.Fast
def tw10504283203162502058:=0
def tw3632062256117406660:=0
def tw12720845305684578270:=0
def tw3492194758951693929:=0
def tw16180130425424221622:=0
def tw4153624439867441832:=0
def tw16181162260971836779:=0
def tw2095670671469435362:=0
def tw3703061398685554526:=0
def tw5773496120114214875:=0
def tw8766550998906759998:=0
def tw8019257520122557171:=0
def tw15678955792960606273:=0
def tw6150196740001897408:=0
def tw16165981989475517535:=0
def tw2949770913277700421:=0
def tw17047819502754238749:=0
def tw5274415338047452184:=0
def tw5935382464009522299:=0
def tw7759896267362865395:=0
def tw4994221396537697394:=0
def tw17912808053662332863:=0
def tw572961969984260179:=0
def tw4119638966665151005:=0
def tw5466236592649133122:=0
def tw16657920564271341990:=0
def tw11032762880008830142:=0
def tw12819305344651969754:=0
def tw17429720110679873070:=0
def tw2451946307922226824:=0
def tw16619792529588707599:=0
def tw90788562547842683:=0
def tw16163143688646033116:=0
def tw15312040347149292025:=0
def tw11770561041640557211:=0
def tw14902437855065608870:=0
def tw15087899895874774597:=0
def tw5057924011115490945:=0
def tw4908703583322248091:=0
def tw18072257460915078109:=0
def tw4536626084666627886:=0
def tw7161006193692237985:=0
def tw11712998039637926640:=0
def tw18286472308534366599:=0
def tw1949377611718995240:=0
def tw9548951996994716047:=0
def tw11232086026211393594:=0
def tw4685707148656901151:=0
def tw4580975574050947619:=0
def tw8753923753860640943:=0
def tw9040747340107419070:=0
def tw3685743835428908247:=0
def tw2369912692214175391:=0
def tw9720943106661724550:=0
def tw3981870675342225235:=0
def tw17850417031471907430:=0
def tw1927915121894126403:=0
def tw3120608514947195040:=0
def tw11633763512673412147:=0
def tw11580468555779269253:=0
def tw3157736866041972863:=0
def tw14560696375389488698:=0
def tw15506545692347895361:=0
def tw1798004374261143920:=0
def tw10532220633771128951:=0
def tw9283674871673193694:=0
def tw15196751212496583723:=0
def tw12067629348917016057:=0
def tw57444147581139284:=0
def tw9968565152374501625:=0
def tw9254711326200297425:=0
def tw7300178301501430618:=0
def tw8649952325614339952:=0
def tw5469003145730766801:=0
def tw2331493090780529509:=0
def tw1178059392472067060:=0
def tw10683076734631317165:=0
def tw14246704824211811653:=0
def tw18027727639326081876:=0
def tw345584327103258949:=0
def tw16636710298692397968:=0
def tw12988919295319844119:=0
def tw5437476572397681612:=0
def tw7831727728580359015:=0
def tw982133515435709183:=0
def tw781130166177143512:=0
def tw4820227787968944112:=0
def tw11291163160438785278:=0
def tw3381813252595292584:=0
def tw16370968009244572681:=0
def tw1220096118286358260:=0
def tw18446417500310719157:=0
def tw5172221023522836696:=0
def tw3380595395790619265:=0
def tw14476289944805301514:=0
def tw5177972198663583276:=0
def tw6731277145087343842:=0
def tw5632983957475600404:=0
def tw15589627758601572402:=0
def tw3965538797259054792:=0
def tw3529723105324612498:=0
def tw896616774033131969:=0
def tw5846951571935869085:=0
def tw3851352039671989852:=0
def tw7634493318625750127:=0
def tw2285764797029895455:=0
def tw3692809329687608621:=0
def tw7298541707659283748:=0
def tw14973021360137552280:=0
def tw16913367994488707935:=0
def tw16141980768971632182:=0
def tw210027348849051141:=0
def tw4096268617396425252:=0
def tw1632505528029153979:=0
def tw6563463740470156046:=0
def tw3075650970062172852:=0
def tw6231876668841143632:=0
def tw9523209605313283278:=0
def tw17345390644207731960:=0
def tw3570316952914294880:=0
def tw12793680281285904569:=0
def tw1647318899649818823:=0
def tw16510643690439296177:=0
def tw4959623628013250551:=0
def tw5443654131260735686:=0
def tw715105111311369992:=0
def tw8169842558058332442:=0
def tw14535803927481952075:=0
def tw3902823749721755323:=0
def tw16362770815318731159:=0
def tw14586777225511697268:=0
def tw17217049948369749137:=0
def tw6889389836118402777:=0
def tw11781023164651941326:=0
def tw13167535972631898729:=0
def tw14771250773290192182:=0
def tw17461754639899253849:=0
def tw7587665985517390599:=0
def tw9593033885041860894:=0
def tw12741997447337450331:=0
def tw17646837498517796963:=0
def tw5856096919811679151:=0
def tw8388493538758617452:=0
def tw11728870436033579904:=0
def tw12378197016146777344:=0
def tw14812870320136670360:=0
def tw15660495732353068637:=0
def tw16751720326383041835:=0
def tw18243090413596073884:=0
def tw3000543399291554360:=0
def tw3159871617876029571:=0
def tw4739896500896497157:=0
def tw584961459878638748:=0
def tw6044031768580048149:=0
def tw6741697781591812820:=0
end PySem.W.Fast
open PySem PySem.W PyProof.Rows
set_option maxRecDepth 100000 in
theorem PySem.Challenge.cw_stakebodies_k44_whole_shadows_and_faces_holds : PySem.Challenge.rw_stakebodies_k44_whole_shadows_and_faces.Holds := by
 w_on;o_law;k_head;(case hw=>w_witness2)
 k_fill
 letI tabs9:DL.Tabs:=⟨[(188,K44.tbK)]⟩
 refine DL.YU (l:=PySem.Challenge.rw_stakebodies_k44_whole_shadows_and_faces) (k:=11) rfl rfl ⟨rfl,by decide,by decide⟩ (λw h Y=>⟨PySem.W.km_in_of Y,PySem.W.km_tabs_of Y⟩) (DL.WF (c:=192) (by k_mem) (λw=>by kernel_rfl)) (aAH.mpr ⟨aAR,aCX⟩) (λw=>by kernel_rfl) ?F
 case F=>
  intro w mg fa h KX G hmg;refine' K44.all_mk KX G hmg ?_ ?_ ?_ ?_ ?_ ?_ ?_ ?_ ?_ ?_ ?_ ?_ ?_ ?_ ?_ ?_ ?_ ?_ ?_ ?_ ?_ ?_ ?_ ?_ ?_ ?_ ?_ ?_ ?_ ?_ ?_ ?_ ?a32 ?l32 ?e32 ?k32 ?z_isinstance ?z_bool ?z_int ?z_abs ?z_len ?z_any ?z_min ?z_list ?z_reversed ?z_zip ?z_sorted ?z_set ?z_sum ?z_range ?z_max ?ca_NO_WAY ?cl_NO_WAY ?ca_UPWARD ?cl_UPWARD (aAK.mpr rfl) K44.truth
  all_goals first|(refine' DL.fy ?a ?l ?c ?k;(case a=>k_is);(case l=>k_is);(case c=>k_is);(case k=>k_is))|(refine' DL.WQ ?a ?l ?c ?k rfl ?n;(case a=>k_is);(case l=>k_is);(case c=>k_is);(case k=>k_is);(case n=>kernel_rfl))|k_is|skip
end
