import PyProof.Rows.All
import Wide.All
import OpenK.AllK
import Wide.FinOn
import Lean
import PyProof.EqAt
import PyProof.EqKinds
import PyProof.TupleCall
import PyProof.NeKinds
import KE.RegKIsAll
import PyProof.ExcClass3
import PySem.SetTable
import PySem.Value
import PyProof.Rows.SortShellK
import OpenK.KOwn
import KE.KNestM
import PyProof.Rows.StrWeight2
import KE.KRevSl
import PyProof.CollectIter
import PyProof.SetKind
import PyProof.Walks
import PyProof.ForAny
import PyProof.FactsAll.set_1
import PyProof.FactsAll.set_2
import PyProof.ZipIter
import KE.KRevIter
import PyProof.ListNew
import PyProof.ConsumeS
import KE.KIsAll
import PyProof.DictWalks
import KE.KDictList
import PySem.Challenge.RW_stakebodies_k44_whole_shadows_and_faces
set_option Elab.async false
set_option linter.all false
set_option backward.eqns.nonrecursive false
set_option maxRecDepth 100000
set_option maxHeartbeats 4000000
theorem h9{c:Prop}{h:Decidable c}(k:c){α:Sort _}{t e:α}:ite c t e=t:=if_pos k
theorem ia{c:Prop}{h:Decidable c}(k:¬c){α:Sort _}{t e:α}:ite c t e=e:=if_neg k
theorem ir{α:Sort _}{β:Sort _}{a b:α}(f:α->β)(h:a=b):f a=f b:=congrArg f h
abbrev ix:=PySem.W.Frag
abbrev ja:PySem.Str:="__debug__"
abbrev ka:PySem.Str:="__classdict__"
open PySem renaming Value->au,wpAny->a9,Shared->ba,starEach->bb,Addr->bc,model->be,mainGlobals->bt,Program->bM,Around->cf,World->cp,Heap->cq,Expr->cu,Stmt->cv,backTo->cy,cLine->cz,bootBuiltins->de,eval->dm,compareOp->dq,FuncData->dA,assignEach->dC,cellsFrom->d3,foldedSetIterable->d7,binaryOp->ee,NameKind->ek,rawInt->ez,swapsWith->eQ,SetTable->eR,codeAmong->eY,argBest->ff,holding->fg,pyNext->fh,IsPair->fm,swapsWithSole->fo,swappedStores->gk,attributeBase->gm,codeAny->gn,assign->gs,sliceBounds->gv,updateSeq->gy,behindInMarks->gW,Scope->hE,pickOrder->hV,wpAny_bind->aAa,wpAny_pure->aAb,wpAny_holding->aAW,wpAny_Call_Name_kw->aBf,wpAny_truthy_bool->aBu,wpAny_call_entry->aBB,wpAny_specialOf->aBC,wpAny_newObj_type->aBG,wpAny_seqItems->aBP,codeAny_builtin->aBQ,plainId_quiet->aCd,wpAny_setField_rec->aCe,wpAny_updateSeq->aCg,wpAny_setState_of->aCl,builtinLookup_eq_fast->aCs,wpAny_forIn_list->aCy,wpAny_callSpecial?_slot->aCD,wpAny_mono->aCI,wpAny_field->aCY,wpAny_passesOwn->aDa,wpAny_nextOf_list_item->aDm,wpAny_callSpecialIfBoundUnlessNone?_slot->aDr,typeLookup_type->aDx,wpAny_rule->aDy,wpAny_pyIter_list->aDB,wpAny_isInstance->aDO,codeAny_mono->aDR,wpAny_typeOf->aDS,wpAny_comprehension_free->aDT,wpAny_Assign_Name->aEc,wpAny_letGo->aEd,wpAny_execs_cons->aEn,wpAny_attempt->aEw,wpAny_standAt->aEx,wpAny_execs_nil->aEC,wpAny_loadPart'->aED,pushCells_keeps->aEE,wpAny_setEntries_of->aEG,slot_dict_contains->aFa,isSubtype_type->aFd,wpAny_tryCatch->aFe,wpAny_pyIter_slot->aFq,sizeLine_eq->aFt,noFill_tuple_add->aFz,beq_builtin_none->aFB,wpAny_askSetting->aFC,concat_meets->aFU,wpAny_newTuple->aGg
open List renaming mem_cons->aAc,mem_cons_of_mem->aAe,length_map->aAh,getElem?_eq_getElem->aAi,mem_map->aAj,map_cons->aAk,size_toArray->aAn,getD_eq_getElem?_getD->aAo,length_cons->aAp,mem_of_getElem?->aAx,pairwise_cons->aAy,length_append->aAz,getElem?_append_right->aAA,getElem?_eq_some_iff->aAC,mem_append->aAD,getElem?_map->aAG,nodup_cons->aAH,mem_map_of_mem->aAI,mem_singleton->aAJ,mem_append_right->aAM,cons_append->aAO,reverse_cons->aAP,not_mem_nil->aAR,mem_flatMap->aAV,mem_filter->aAX,sum_cons->aAZ,mem_range->aBa,getElem?_append_left->aBb,range->aBc,map_map->aBd,lookup_cons->aBg,map_append->aBh,mem_append_left->aBk,getLast?_cons_cons->aBl,mem_cons_self->aBm,length_nil->aBn,getElem_of_mem->aBp,dropLast_concat->aBq,pairwise_map->aBt,getElem?_replicate->aBA,getElem?_zip_eq_some->aBE,getElem?_set_self->aBJ,lookup_cons_self->aBK,mem_reverse->aBL,perm_ext_iff_of_nodup->aBN,nil_append->aBO,length_take->aBS,length_reverse->aBU,replicate_succ->aBV,replicate_zero->aBW,zip_cons_cons->aBZ,mem_filterMap->aCa,append_nil->aCb,all_eq_true->aCh,nodup_iff_pairwise_ne->aCi,filter_sublist->aCk,pairwise_iff_getElem->aCm,getElem?_eq_none_iff->aCo,length_replicate->aCq,set_cons_succ->aCw,set_cons_zero->aCx,getElem_mem->aCz,getElem?_set_ne->aCA,getElem?_cons_zero->aCC,map_nil->aCG,nodup_append->aCH,length_range->aCK,filterMap_cons->aCL,getElem_map->aCQ,getElem?_toArray->aCS,zipWith->aCT,nodup_nil->aCU,replicate->aCW,mem_of_getLast?->aCZ,forIn_cons->aDd,getElem?_cons_succ->aDf,length_pos_of_mem->aDj,take_of_length_le->aDl,filterMap_map->aDo,map->aDq,mem_iff_getElem?->aDt,set->aDC,mem_of_mem_take->aDE,mem_of_mem_drop->aDF,drop_eq_getElem_cons->aDJ,any_eq_true->aDL,length_drop->aDM,map_congr_left->aDP,pairwise_singleton->aDV,of_mem_zip->aDW,range'->aEe,forIn_nil->aEf,pairwise_reverse->aEg,dropLast_eq_take->aEk,zipIdx_cons->aEp,eq_nil_of_length_eq_zero->aEr,length_dropLast->aEu,dropLast_concat_getLast->aEy,foldl_cons->aEB,zipIdx_nil->aEF,length_pos_iff->aEJ,map_eq_nil_iff->aEK,exists_cons_of_ne_nil->aEL,perm_append_singleton->aEO,head?_reverse->aER,getLast?_cons->aES,exists_mem_of_ne_nil->aFc,flatMap_cons->aFh,length_erase_of_mem->aFi,ext_getElem?->aFl,append_assoc->aFp,filter_cons_of_pos->aFr,filter_cons_of_neg->aFs,eraseIdx_cons_succ->aFu,map_fst_zip->aFy,map_reverse->aFA,range_succ_eq_map->aFF,getElem_cons_succ->aFH,length_singleton->aFK,length_filter_le->aFM,take_append_drop->aFP,length_set->aFV,dropLast_sublist->aFX,mem_erase_of_ne->aFZ,drop_zero->aGi,all_cons->aGq,map_tail->aGt,map_take->aGu
open PySem.Heap renaming get?_push_of_some->aAd,lt_size->aAg,get?_push_size->aAq,get?_update_other->aAF,get?_update_self->aBo,size_push->aBI,get?_none_of_le->aEt
open False renaming elim->aAf
open Nat renaming le_refl->aAl,ne_of_lt->aAm,le_trans->aAr,lt_of_lt_of_le->aAw,zero_le->aAY,lt_irrefl->aBr,lt_succ_of_lt->aBw,lt_of_le_of_lt->aCt,le_of_succ_le->aCJ,reduceAdd->aDh,reduceSub->aDi,lt_or_eq_of_le->aDp,le_of_lt->aDu,ne_of_gt->aDv,lt_succ_self->aDN,le_of_eq->aEj,le_of_not_lt->aEo,le_add_right->aEq,mul_le_mul->aFf,mod_lt->aFk,le_of_lt_succ->aFm,gcd_dvd_left->aFx,min_eq_right->aFE,le_antisymm->aFL,zero_add->aFO,not_lt_zero->aFR,min_eq_left->aFS,lt_trans->aGF,succ_pos->aGG
open Int renaming mul_nonpos_of_nonneg_of_nonpos->aAs,mul_neg_of_pos_of_neg->aAt,mul_eq_zero->aAu,mul_le_mul_of_nonneg_left->aAB,le_of_lt->aAK,mul_pos->aAL,mul_le_mul_of_nonneg_right->aAS,mul_nonneg->aBj,le_refl->aBy,mul_pos_of_neg_of_neg->aBD,toNat_natCast->aBH,mul_zero->aBX,lt_or_gt_of_ne->aDn,neg_mul_neg->aDs,eq_of_mul_eq_mul_left->aDG,lt_or_le->aDQ,mul_nonneg_of_nonpos_of_nonpos->aDU,mul_ediv_cancel'->aEs,toNat->aEH,mul_lt_mul_of_pos_left->aEM,le_of_mul_le_mul_right->aEN,natAbs_eq_zero->aET,ofNat_dvd_left->aEU,le_of_mul_le_mul_left->aFb,neg_nonneg_of_nonpos->aFg,add_zero->aFJ,gcd->aGB,mul_comm->aGD,zero_mul->aGE
open Bool renaming false_eq_true->aAv,and_eq_true->aAQ,false_ne_true->aAU,not_true->aDz,eq_iff_iff->aDY,and_eq_true_iff->aGe,and_false->aGh
open Array renaming getElem?_toList->aAE,getElem?_eq_getElem->aAN,length_toList->aBi,getElem?_eq_some_iff->aCj,forIn_toList->aCv,getElem?_eq_none->aCP,replicate->aEA,perm_iff_toList_perm->aEP,getD->aFj,toList->aFT,getElem_toList->aGd,toList_append->aGm
open PySem.Builtin.Tuple renaming tupleHashOf->aAT,tupleExact->aDb,tupleItemsOf->aDD
open PySem.Builtin.Int renaming intBits->aBe
open PySem.Around renaming under_plainId->aBs,frames_deeper->aGa
open PyProof.Rows renaming callWith_type1->aBv,wpS_bind->aBz,wpS_pure->aCn,callWith_builtin1->aCr,slot_tuple_getitem->aCF,envOfC->aCN,wpS_forRange->aEh,listItems_at->aEi,pairsOf_size->aEV,assignInOrder_cons->aEW,KK_mirror_equal->aFQ,mirror_perm->aGj,wpS_reverse->aGk
open PySem.PassesOwn renaming never->aBx
open PySem.Obj renaming mapSeq->aBF,putSet->aEz
open Or renaming inr->aBM,inl->aCB
open PySem.Builtin.SmallTypes renaming nextOf->aBR,ownedTupleIsFree->aBT,ownedTupleHandOut->aDK
open Ne renaming symm->aBY
open PySem.NameKind renaming cell->aCc
open PySem.Builtin.List renaming listExtendWith->aCf,listLengthHint->aCM,listItems->aCO,listTooLong->aDc,listSameRef->aDe,listTouch->aFI
open ForInStep renaming yield->aCp
open PySem.Value renaming type->aCu,bool->aDA,ref->aDH,builtin->aGr,int->aGK
open PySem.Builtin.Range renaming rangeSize->aCE,small->aGl
open PySem.F renaming plain_min_loop->aCR,plain_extend_loop->aDg,slot_zip_next->aEb,entry_min_loop->aFD
open Classical renaming byContradiction->aCV,propDecidable->aEa,choose->aEm,choose_spec->aFN
open PySem.Builtin.Slice renaming slicePlaces->aCX,sliceAdjust->aDI,sliceApplied->aEQ
open Option renaming map_eq_some_iff->aDk,isSome_iff_exists->aFo
open PySem.Str renaming ofString->aDw
open PySem.SetTable renaming bits->aDX,fits->aGs,insertAt->aGC,tooFull->aGI
open PySem.SeqAt.EqAt renaming same->aDZ,int_int->aEY,of_refs->aEZ,int_tuple->aGb,tuple_int->aGc,int_str->aGo,str_int->aGp
open Prod renaming ext->aEv
open PySem.Builtin.Builtins renaming bindParams->aEI
open PySem.Calls renaming spliced_cons->aEX,spliced_nil->aFn,callWith_builtin->aFG
open PySem.Moved renaming trans->aFv
open PySem.Builtin.Frozenset renaming slot0->aFw
open List.cons renaming injEq->aFW
open List.Pairwise renaming filter->aFY,nil->aGv
open List.Perm renaming refl->aGf
open Function renaming comp->aGn
open Sum renaming inl->aGw,inr->aGx
open Option.some renaming injEq->aGy
open True renaming intro->aGz
open PySem.Heap.SameBut renaming refl->aGA
open PySem.pickOrder renaming go->aGH
open Array.Perm renaming refl->aGJ
abbrev F7:=PySem.Value->PySem.Shared->Prop
abbrev O9:=List (PySem.Addr×PySem.Obj)
abbrev cM:=PySem.Str->Option PySem.Value
abbrev yB:=Bool->PySem.Shared->Prop
noncomputable section
namespace G
structure V where
 x:Int
 y:Int
 z:Int
deriving DecidableEq
instance:Add V:=⟨λu v=>⟨u.x+v.x,u.y+v.y,u.z+v.z⟩⟩
instance:Sub V:=⟨λu v=>⟨u.x-v.x,u.y-v.y,u.z-v.z⟩⟩
instance:Neg V:=⟨λu=>⟨-u.x,-u.y,-u.z⟩⟩
instance:HMul Int V V:=⟨λk u=>⟨k*u.x,k*u.y,k*u.z⟩⟩
instance:OfNat V 0:=⟨⟨0,0,0⟩⟩
@[simp]def OL(u v:V):(u+v).x=u.x+v.x:=rfl
@[simp]def MW(u v:V):(u+v).y=u.y+v.y:=rfl
@[simp]def PX(u v:V):(u+v).z=u.z+v.z:=rfl
@[simp]def TV(u v:V):(u-v).x=u.x-v.x:=rfl
@[simp]def RW(u v:V):(u-v).y=u.y-v.y:=rfl
@[simp]def SB(u v:V):(u-v).z=u.z-v.z:=rfl
@[simp]def a0s(u:V):(-u).x=-u.x:=rfl
@[simp]def a2l(u:V):(-u).y=-u.y:=rfl
@[simp]def a0z(u:V):(-u).z=-u.z:=rfl
@[simp]def pL(k:Int)(u:V):(k*u).x=k*u.x:=rfl
@[simp]def pB(k:Int)(u:V):(k*u).y=k*u.y:=rfl
@[simp]def pT(k:Int)(u:V):(k*u).z=k*u.z:=rfl
@[simp]def eG:(0:V).x=0:=rfl
@[simp]def eS:(0:V).y=0:=rfl
@[simp]def dI:(0:V).z=0:=rfl
def ext{u v:V}(a:u.x=v.x)(b:u.y=v.y)(d:u.z=v.z):u=v:=by cases u;cases v;simp_all
def pE{u v:V}:u=v↔u.x=v.x/\u.y=v.y/\u.z=v.z:=⟨λh=>by subst h;exact⟨rfl,rfl,rfl⟩,λ⟨a,b,c⟩=>ext a b c⟩
def dot(u v:V):Int:=u.x*v.x+u.y*v.y+u.z*v.z
def cr(u v:V):V:=⟨u.y*v.z-u.z*v.y,u.z*v.x-u.x*v.z,u.x*v.y-u.y*v.x⟩
def i3(a u v:V):Int:=dot a (cr u v)
@[simp]def VW(u v:V):(cr u v).x=u.y*v.z-u.z*v.y:=rfl
@[simp]def XZ(u v:V):(cr u v).y=u.z*v.x-u.x*v.z:=rfl
@[simp]def VS(u v:V):(cr u v).z=u.x*v.y-u.y*v.x:=rfl
def EU(a u v w:V):i3 a u v*w+i3 a v w*u+i3 a w u*v=i3 u v w*a:=by apply ext<;>simp[i3,dot]<;>grind
def QF(f a u v w:V):i3 a u v*dot f w+i3 a v w*dot f u+i3 a w u*dot f v=i3 u v w*dot f a:=by simp[i3,dot];grind
def j5(a u v:V):i3 a v u=-i3 a u v:=by simp[i3,dot];grind
def C7(a u:V):i3 a u u=0:=by simp[i3,dot];grind
def aT(a u v w:V):i3 a (u+v) w=i3 a u w+i3 a v w:=by simp[i3,dot];grind
def aQ(a u v w:V):i3 a u (v+w)=i3 a u v+i3 a u w:=by simp[i3,dot];grind
def NG(a u v w:V):i3 a u (v-w)=i3 a u v-i3 a u w:=by simp[i3,dot];grind
def AB(a:V)(k:Int)(u v:V):i3 a u (k*v)=k*i3 a u v:=by simp[i3,dot];grind
def aH(u v:V):dot u v=dot v u:=by simp[dot];grind
def u6(f u v:V):dot f (u+v)=dot f u+dot f v:=by simp[dot];grind
def d8(f u v:V):dot f (u-v)=dot f u-dot f v:=by simp[dot];grind
def i6(f:V)(k:Int)(v:V):dot f (k*v)=k*dot f v:=by simp[dot];grind
def N8(f:V)(k:Int)(v:V):dot (k*f) v=k*dot f v:=by simp[dot];grind
def C1(f:V):dot f 0=0:=by simp[dot]
def R3(a u v:V):dot (cr a u) v=i3 a u v:=by simp[i3,dot];grind
def u4{u:V}(h:u≠0):0<dot u u:=by
 have f:u.x≠0\/u.y≠0\/u.z≠0:=by
  by_cases a:u.x=0
  .by_cases b:u.y=0
   .by_cases c:u.z=0
    .exact absurd (ext a b c) h
    exact .inr (.inr c)
   exact .inr (.inl b)
  exact .inl a
 have e:∀t:Int,0<=t*t:=λt=>by
  rcases Int.le_total 0 t with q|q
  .exact aBj q q
  have:=aBj (aFg q) (aFg q);rwa [aDs]at this
 have d:∀t:Int,t≠0->0<t*t:=λt g=>by
  have:=e t;have:t*t≠0:=λz=>by rcases aAu.mp z with q|q<;>exact g q
  omega
 have a:=e u.x;have b:=e u.y;have c:=e u.z;unfold dot;rcases f with q|q|q
 .have:=d _ q;omega
 .have:=d _ q;omega
 have:=d _ q;omega
def y9(h:n≠0)(a:dot n u=0)(b:dot n v=0)(d:dot n w=0):i3 u v w=0:=by
 have e:i3 u v w*dot n n=0:=by have:=QF n n u v w;rw[a,b,d]at this;simp at this;omega
 rcases aAu.mp e with q|q
 .exact q
 have:=u4 h;omega
def v7(v:V):(0:Int)*v=0:=ext (by simp) (by simp) (by simp)
def rC(v:V):v+0=v:=ext (by simp) (by simp) (by simp)
def iC(v:V):0+v=v:=ext (by simp) (by simp) (by simp)
structure Cone(Pos:V->Prop):Prop where
 add:∀{u v},Pos u->Pos v->Pos (u+v)
 mul:∀{k:Int}{u},0<k->Pos u->Pos (k*u)
 irr:¬Pos 0
section
variable{Pos:V->Prop} (C:Cone Pos)
include C
theorem Cone.comb{p q:Int}{u w:V}(a:0<p)(e:0<=q)(b:Pos w)(d:Pos u):Pos (p*w+q*u):=by
 by_cases h:q=0
 .subst h;rw[v7,rC];exact C.mul a b
 exact C.add (C.mul a b) (C.mul (by lia) d)
theorem Cone.sgn{k:Int}{v:V}(b:Pos v)(h:Pos (k*v)):0<k:=by
 by_cases d:0<k
 .exact d
 exfalso;by_cases f:k=0
 .subst f;rw[v7]at h;exact C.irr h
 have a:=C.add h (C.mul (k:=-k) (by lia) b);have e:k*v+-k*v=0:=ext (by simp;grind) (by simp;grind) (by simp;grind);rw[e]at a;exact C.irr a
theorem Cone.tr{a u v w:V}(b:Pos u)(d:Pos v)(f:Pos w)(g:i3 u v w=0)(i:0<i3 a u v)(j:0<=i3 a v w):0<i3 a u w:=by
 refine C.sgn d (k:=i3 a u w) ?_;have e:i3 a u w*v=i3 a u v*w+i3 a v w*u:=by have h:=EU a u v w;rw[g,v7,j5 a u w]at h;have l:=ir V.x h;have m:=ir V.y h;have n:=ir V.z h;simp at l m n;exact ext (by simp;grind) (by simp;grind) (by simp;grind)
 rw[e];exact C.comb i j f b
theorem Cone.tr'{a u v w:V}(b:Pos u)(d:Pos v)(f:Pos w)(g:i3 u v w=0)(i:0<=i3 a u v)(j:0<i3 a v w):0<i3 a u w:=by
 refine C.sgn d (k:=i3 a u w) ?_;have e:i3 a u w*v=i3 a v w*u+i3 a u v*w:=by have h:=EU a u v w;rw[g,v7,j5 a u w]at h;have l:=ir V.x h;have m:=ir V.y h;have n:=ir V.z h;simp at l m n;exact ext (by simp;grind) (by simp;grind) (by simp;grind)
 rw[e];exact C.comb j i b f
end
structure ConeM(a:V)(Pos:V->Prop):Prop extends Cone Pos where
 inv:∀{u} (k:Int),Pos u->Pos (u+k*a)
def ConeM.tr{a:V}{Pos:V->Prop}(C:ConeM a Pos){u v w:V}(b:Pos u)(d:Pos v)(f:Pos w)(g:0<i3 a u v)(i:0<=i3 a v w):0<i3 a u w:=by
 refine C.sgn d (k:=i3 a u w) ?_;have e:i3 a u w*v=(i3 a u v*w+i3 a v w*u)+(-i3 u v w)*a:=by have h:=EU a u v w;rw[j5 a u w]at h;have j:=ir V.x h;have l:=ir V.y h;have m:=ir V.z h;simp at j l m;exact ext (by simp;grind) (by simp;grind) (by simp;grind)
 rw[e];exact C.inv _ (C.comb g i f b)
def d9(w:V):Prop:=0<w.x\/(w.x=0/\(0<w.y\/(w.y=0/\0<w.z)))
instance(w:V):Decidable (d9 w):=inferInstanceAs (Decidable<|_\/_)
def A0:Cone d9 where
 add:=λ{u v} e f=>by unfold d9 at*;simp;lia
 mul:=λ{k u} a h=>by
  unfold d9 at*
  simp;rcases h with h|⟨h,b|⟨b,d⟩⟩
  .exact .inl (aAL a h)
  .exact .inr ⟨by rw[h];simp,.inl (aAL a b)⟩
  exact .inr ⟨by rw[h];simp,.inr ⟨by rw[b];simp,aAL a d⟩⟩
 irr:=by unfold d9;simp
def M6(w:V):Prop:=d9 (-w)
def DM:-(0:V)=0:=rfl
def aI:Cone M6 where
 add:=λ{u v} a b=>by have e:-(u+v)=-u+-v:=(by apply ext<;>simp<;>lia);unfold M6 at*;rw[e];exact A0.add a b
 mul:=λ{k u} d h=>by have e:-(k*u)=k*(-u):=ext (by simp;grind) (by simp;grind) (by simp;grind);unfold M6 at*;rw[e];exact A0.mul d h
 irr:=by unfold M6;rw[DM];exact A0.irr
def XJ(w:V):d9 w\/w=0\/M6 w:=by
 unfold M6 d9;rw[pE];simp
 lia
def t8(v:V):v-v=0:=ext (by simp) (by simp) (by simp)
def fQ(a u:V):i3 a u 0=0:=by simp[i3,dot]
def K7(a u v:V):i3 a u (-v)=-i3 a u v:=by simp[i3,dot];grind
def aG(a u v:V):i3 a (-u) v=-i3 a u v:=by simp[i3,dot];grind
structure Row(n:V)(Pos:V->Prop)(T:V->Prop):Prop where
 cone:Cone Pos
 nz:n≠0
 pl:∀X Y,T X->T Y->dot n (X-Y)=0
 tot:∀X Y,T X->T Y->X=Y\/Pos (X-Y)\/Pos (Y-X)
def Lft(n:V)(Pos:V->Prop)(a b X:V):Prop:=0<=i3 n (b-a) (X-a)/\(i3 n (b-a) (X-a)=0->(X=a\/Pos (X-a))/\(X=b\/Pos (b-X)))
def turn(n P Q R:V):Int:=i3 n (Q-P) (R-Q)
def Q3(n P:V):List V->List V
 |b::a::r=>if turn n a b P<=0 then Q3 n P (a::r)else b::a::r
 |r=>r
def w6(n:V)(ps:List V):List V:=ps.foldl (λc P=>P::Q3 n P c) []
def F8:List V->List (V×V)
 |b::a::r=>(a,b)::F8 (a::r)
 |_=>[]
def uE(n:V):List V->Prop
 |b::a::d::r=>0<i3 n (a-d) (b-a)/\uE n (a::d::r)
 |_=>True
def uE.tail(h:uE n (b::r)):uE n r:=by
 match r,h with
 |[],_=>trivial
 |[_],_=>trivial
 |_::_::_,h=>exact h.2
def P8(h:e∈F8 r):e∈F8 (b::r):=by
 match r,h with
 |a::r,h=>exact aAe _ h
section
variable{n:V}{Pos:V->Prop}{T:V->Prop} (F:Row n Pos T)
include F
structure ChOk(n:V)(Pos:V->Prop)(done:V->Prop)(c:List V):Prop where
 mem:∀X∈c,done X
 ed:∀e∈F8 c,Pos (e.2-e.1)/\∀X,done X->Lft n Pos e.1 e.2 X
 bend:uE n c
 last:∀X,done X->∀z,c.getLast?=some z->X=z\/Pos (X-z)
theorem Row.ac8{done:V->Prop}(f:∀X,done X->T X)(m:Pos x)(o:dot n x=0):∀(c:List V),(∀X∈c,done X)->(∀e∈F8 c,Pos (e.2-e.1))->uE n c->(∀b a r,c=b::a::r->0<i3 n (b-a) x)->∀e∈F8 c,0<i3 n (e.2-e.1) x
 |[],_,_,_,_,e,d=>by cases d
 |[_],_,_,_,_,e,d=>by cases d
 |[b,a],_,_,_,h,e,d=>by simp[F8]at d;subst d;exact h b a [] rfl
 |b::a::p::r,g,j,s,h,e,d=>by
  have i:=h b a _ rfl;rcases aAc.mp d with q|q
  .subst q;exact i
  refine Row.ac8 f m o (a::p::r) (λX t=>g X (aAe _ t)) (λe d=>j e (P8 d)) s.tail ?_ e q;intro w y z k;injection k with k l;injection l with l A;subst k l;have u:=j (p,a) (P8 (by simp[F8]));have v:=j (a,b) (by simp[F8]);exact F.cone.tr u v m (y9 F.nz (F.pl _ _ (f _ (g _ (by simp))) (f _ (g _ (by simp)))) (F.pl _ _ (f _ (g _ (by simp))) (f _ (g _ (by simp)))) o) s.1 (aAK i)
theorem Row.weak(d:Pos u)(a:Pos v)(f:Pos w)(k:dot n u=0)(l:dot n v=0)(m:dot n w=0)(o:0<=i3 n u v)(p:0<=i3 n v w):0<=i3 n u w:=by
 have b:=y9 F.nz k l m;by_cases q:0<i3 n u v
 .exact aAK (F.cone.tr d a f b q p)
 by_cases r:0<i3 n v w
 .exact aAK (F.cone.tr' d a f b o r)
 have s:i3 n u v=0:=by lia
 have t:i3 n v w=0:=by lia
 have h:=EU n u v w;rw[s,t,b,v7,v7,v7,iC,iC]at h;by_cases z:i3 n w u=0
 .rw[j5];lia
 exfalso;have e:v=0:=by have g:=ir V.x h;have i:=ir V.y h;have j:=ir V.z h;simp at g i j;exact ext ((aAu.mp g).resolve_left z) ((aAu.mp i).resolve_left z) ((aAu.mp j).resolve_left z)
 rw[e]at a;exact F.cone.irr a
theorem Row.ad5{done:V->Prop}(hd:∀X,done X->T X)(v:T P)(m:∀X,done X->Pos (P-X)):∀(c:List V),ChOk n Pos done c->c≠[]->
  (∀X q,c.head?=some q->done X->(X=q\/Pos (X-q))->0<=i3 n (P-q) (X-q))->
  ∃q r,Q3 n P c=q::r/\ChOk n Pos done (q::r)/\(∀X,done X->(X=q\/Pos (X-q))->0<=i3 n (P-q) (X-q))/\∀a w,r=a::w->0<turn n a q P
 |[],_,h,_=>absurd rfl h
 |[b],ok,_,o=>⟨b,[],rfl,ok,λX d h=>o X b rfl d h,λa w e=>by cases e⟩
 |b::a::r,ok,_,o=>by
  by_cases A:turn n a b P<=0
  .have e:Q3 n P (b::a::r)=Q3 n P (a::r):=by rw[Q3,h9 A]
   rw[e];have i:=ok.mem b (by simp);have s:=ok.mem a (by simp);have O:=ok.ed (a,b) (by simp[F8]);refine Row.ad5 hd v m (a::r) ⟨λX d=>ok.mem X (aAe _ d),λe he=>ok.ed e (P8 he),ok.bend.tail,λX d z t=>ok.last X d z (by rw[aBl];exact t)⟩ (by simp) ?_;intro X q hq d B;have C:a=q:=Option.some.inj hq;subst C;have hu:Pos (b-a):=O.1;have hp:Pos (P-b):=m b i;have Q:Pos (P-a):=m a s;have U:dot n (b-a)=0:=F.pl _ _ (hd _ i) (hd _ s);have pp:dot n (P-b)=0:=F.pl _ _ v (hd _ i);have E:dot n (P-a)=0:=F.pl _ _ v (hd _ s);unfold turn at A;have H:0<=i3 n (P-b) (b-a):=by rw[j5];lia
   rcases F.tot X b (hd X d) (hd b i)with z|z|z
   .
    subst z;have f:P-a=(P-X)+(X-a):=(by apply ext<;>simp<;>lia);rw[f,aT,C7];lia
   .
    have I:=o X b rfl d (.inr z);have px:dot n (X-b)=0:=F.pl _ _ (hd _ d) (hd _ i);have j:Pos (P-X):=m X d;have J:i3 n (P-a) (X-a)*(P-b)=i3 n (P-b) (X-b)*(P-a)+i3 n (P-b) (b-a)*(P-X):=by
     have k:=EU n (b-a) (X-b) (P-b);rw[y9 F.nz U px pp,v7]at k;have f:P-a=(b-a)+(P-b):=(by apply ext<;>simp<;>lia);have e2:X-a=(b-a)+(X-b):=(by apply ext<;>simp<;>lia);have e3:P-X=(P-b)-(X-b):=(by apply ext<;>simp<;>lia);rw[f,e2,e3];generalize b-a=u at*
     generalize X-b=x at*
     generalize P-b=p at*
     rw[aT,aQ,aQ,C7];have I:=ir V.x k;have Y:=ir V.y k;have t:=ir V.z k;rw[j5 n p x]at k I Y t;simp at I Y t;have s1:=j5 n p x;have s2:=j5 n p u;have s3:=j5 n u x;apply ext<;>simp<;>grind
    by_cases zz:0<=i3 n (P-a) (X-a)
    .exact zz
    exfalso;have L:Pos ((-i3 n (P-a) (X-a))*(P-b)):=F.cone.mul (by lia) hp;have N:Pos (-i3 n (P-a) (X-a)*(P-b)+(i3 n (P-b) (X-b)*(P-a)+i3 n (P-b) (b-a)*(P-X))):=by
     by_cases y1:i3 n (P-b) (X-b)=0
     .rw[y1,v7,iC];by_cases y2:i3 n (P-b) (b-a)=0
      .rw[y2,v7,rC];exact L
      exact F.cone.add L (F.cone.mul (by lia) j)
     exact F.cone.add L (F.cone.comb (by lia) H Q j)
    rw[<-J]at N;have e0:-i3 n (P-a) (X-a)*(P-b)+i3 n (P-a) (X-a)*(P-b)=0:=by apply ext<;>simp<;>grind
    rw[e0]at N;exact F.cone.irr N
   .
    rcases B with g|g
    .subst g;rw[t8,fQ];exact aBy _
    have hl:=(O.2 X d).1;have l:0<=i3 n (P-a) (b-a):=by have f:P-a=(P-b)+(b-a):=(by apply ext<;>simp<;>lia);rw[f,aT,C7];lia
    exact F.weak Q hu g E U (F.pl _ _ (hd _ d)<|hd _ s) l hl
  have e:Q3 n P (b::a::r)=b::a::r:=by rw[Q3,ia A]
  refine⟨b,a::r,e,ok,λX d h=>o X b rfl d h,λa' w e'=>?_⟩;injection e' with f _;subst f
  lia
theorem Row.push{done:V->Prop}(hd:∀X,done X->T X)(C:T P)(s:∀X,done X->Pos (P-X))(ok:ChOk n Pos done c)(I:c≠[])(J:∀X q,c.head?=some q->done X->X=q\/Pos (q-X)):
  ChOk n Pos (λX=>done X\/X=P) (P::Q3 n P c):=by
 obtain⟨q,r,e,f,u,j⟩:=F.ad5 hd C s c ok I (λX q u d h=>by
  rcases h with h|h
  .subst h;rw[t8,fQ];exact aBy _
  exfalso;rcases J X q u d with z|z
  .subst z;rw[t8]at h;exact F.cone.irr h
  have:=F.cone.add h z;have v:X-q+(q-X)=0:=(by apply ext<;>simp<;>lia);rw[v]at this;exact F.cone.irr this)
 rw[e];have l:=f.mem q (by simp);have i:Pos (P-q):=s q l;have m:dot n (P-q)=0:=F.pl _ _ C (hd _ l);refine⟨λX d=>?_,λg w=>?_,?_,λX d z t=>?_⟩
 .rcases aAc.mp d with h|h
  .exact .inr h
  exact .inl (f.mem X h)
 .rcases aAc.mp w with h|h
  .subst h;refine⟨i,λX d=>?_⟩;rcases d with d|d
   .rcases F.tot X q (hd _ d) (hd _ l)with z|z|z
    .subst z;exact⟨by rw[t8,fQ];exact aBy _,λ_=>⟨.inl rfl,.inr i⟩⟩
    .exact⟨u X d (.inr z),λ_=>⟨.inr z,.inr (s X d)⟩⟩
    .
     have:0<i3 n (P-q) (X-q):=by
      match r,j,f with
      |[],_,f=>
       rcases f.last X d q rfl with y|y
       .subst y;rw[t8]at z;exact absurd z F.cone.irr
       exfalso;have:=F.cone.add y z;have v:X-q+(q-X)=0:=(by apply ext<;>simp<;>lia);rw[v]at this;exact F.cone.irr this
      |a::o,j,f=>
       have x:=j a o rfl;unfold turn at x;have L:=f.mem a (by simp);have E:=f.ed (a,q) (by simp[F8]);have H:=(E.2 X d).1;have p:X-a=(q-a)-(q-X):=(by apply ext<;>simp<;>lia);dsimp only at H;rw[p,NG,C7]at H;have N:0<=i3 n (q-X) (q-a):=by rw[j5];lia
       have:=F.cone.tr' (a:=n) z E.1 i (y9 F.nz (F.pl _ _ (hd _ l)<|hd _ d) (F.pl _ _ (hd _ l)<|hd _ L) m) N x;have A:X-q=-(q-X):=(by apply ext<;>simp<;>lia);rw[A,K7,j5];lia
     exact⟨aAK this,λz=>by dsimp only at z;lia⟩
   subst d;exact⟨by rw[C7];exact aBy _,λ_=>⟨.inr i,.inl rfl⟩⟩
  .
   have k:=f.ed g h;refine⟨k.1,λX d=>?_⟩;rcases d with d|d
   .exact k.2 X d
   subst d;have x:=F.ac8 hd i m (q::r) f.mem (λe w=>(f.ed e w).1) f.bend (λb a o O=>by injection O with p A;subst p;exact j a o A) g h
   have Q:=(k.2 q l).1;have:0<i3 n (g.2-g.1) (X-g.1):=by have p:X-g.1=(q-g.1)+(X-q):=(by apply ext<;>simp<;>lia);rw[p,aQ];lia
   exact⟨aAK this,λz=>by lia⟩
 .match r,j,f with
  |[],_,_=>trivial
  |a::o,j,f=>exact⟨j a o rfl,f.bend⟩
 rcases d with d|d
 .exact f.last X d z (by rw[aBl]at t;exact t)
 subst d;have B:(q::r).getLast?=some z:=by rw[aBl]at t;exact t
 exact .inr (s z<|f.mem z<|aCZ B)
end
section
variable{n:V}{Pos:V->Prop}{T:V->Prop} (F:Row n Pos T)
include F
theorem ChOk.congr{done a:V->Prop}(ok:ChOk n Pos done c)(h:∀X,done X↔a X):ChOk n Pos a c:=
 ⟨λX b=>(h X).mp (ok.mem X b),λe d=>⟨(ok.ed e d).1,λX b=>(ok.ed e d).2 X ((h X).mpr b)⟩,ok.bend,λX b=>ok.last X ((h X).mpr b)⟩
theorem Row.fold:∀(rest:List V) (done:V->Prop) (c:List V),ChOk n Pos done c->c≠[]->(∀X q,c.head?=some q->done X->X=q\/Pos (q-X))->(∀X,done X->T X)->(∀X∈rest,T X)->
  (∀X Y,done X->Y∈rest->Pos (Y-X))->rest.Pairwise (λa b=>Pos (b-a))->
  ChOk n Pos (λX=>done X\/X∈rest) (rest.foldl (λc P=>P::Q3 n P c) c)/\rest.foldl (λc P=>P::Q3 n P c) c≠[]/\(∀X q,(rest.foldl (λc P=>P::Q3 n P c) c).head?=some q->(done X\/X∈rest)->X=q\/Pos (q-X))
 |[],done,c,ok,h,i,j,k,g,m=>⟨ChOk.congr F ok λX=>by simp,h,λX q f d=>by
   rcases d with d|d
   .exact i X q f d
   cases d⟩
 |P::rest,done,c,ok,h,i,j,k,g,m=>by
  have o:=k P (by simp);have s:=F.push j o (λX d=>g X P d (by simp)) ok h i;have p:=aAy.mp m;obtain⟨t,u,v⟩:=Row.fold rest (λX=>done X\/X=P) (P::Q3 n P c) s (by simp) (λX q f d=>by
    have l:P=q:=Option.some.inj f;subst l;rcases d with d|d
    .exact .inr (g X P d (by simp))
    .exact .inl d) (λX d=>by
    rcases d with d|d
    .exact j X d
    .subst d;exact o) (λX d=>k X (aAe _ d)) (λX Y d r=>by
    rcases d with d|d
    .exact g X Y d (aAe _ r)
    subst d;exact p.1 Y r) p.2
  have e:∀X,((done X\/X=P)\/X∈rest)↔(done X\/X∈P::rest):=λX=>by simp[or_assoc]
  exact⟨ChOk.congr F t e,u,λX q f d=>v X q f ((e X).mpr d)⟩
theorem Row.ac9(k:ps≠[])(h:∀X∈ps,T X)(l:ps.Pairwise (λa b=>Pos (b-a))):
  ChOk n Pos (λX=>X∈ps) (w6 n ps)/\w6 n ps≠[]/\(∀X q,(w6 n ps).head?=some q->X∈ps->X=q\/Pos (q-X)):=by
 match ps,k with
 |p::rest,_=>
  have i:=aAy.mp l;have ok:ChOk n Pos (λX=>X=p) [p]:=⟨λX d=>by simpa using d,λe m=>by simp[F8]at m,trivial,λX d z j=>by simp at j;subst j;exact .inl d⟩
  obtain⟨o,r,s⟩:=F.fold rest (λX=>X=p) [p] ok (by simp) (λX q f d=>by have g:p=q:=Option.some.inj f;subst g;exact .inl d) (λX d=>by subst d;exact h _ (by simp)) (λX d=>h X (aAe _ d)) (λX Y d t=>by subst d;exact i.1 Y t) i.2
  have e:∀X,(X=p\/X∈rest)↔X∈p::rest:=λX=>by simp
  refine⟨ChOk.congr F o e,r,λX q f d=>s X q f ((e X).mpr d)⟩
end
def j0(n:V)(a:List V):List V:=(w6 n a).reverse.dropLast++(w6 n a.reverse).reverse.dropLast
def j7:List V->List (V×V)
 |a::b::r=>(a,b)::j7 (b::r)
 |_=>[]
theorem mK:∀(l:List V) (a b:V),j7 (l++[a]++[b])=j7 (l++[a])++[(a,b)]
 |[],a,b=>rfl
 |[x],a,b=>rfl
 |x::y::l,a,b=>by have:=mK (y::l) a b;simp only[aAO,j7]at this⊢;rw[this]
theorem iL:∀c:List V,j7 c.reverse=(F8 c).reverse
 |[]=>rfl
 |[_]=>rfl
 |b::a::r=>by
  have d:=iL (a::r);rw[aAP,aAP]at*
  rw[mK,d,F8,aAP]
theorem mR:∀(l:List V) (a:V) (m:List V),j7 (l++a::m)=j7 (l++[a])++j7 (a::m)
 |[],a,m=>by cases m<;>rfl
 |[x],a,m=>rfl
 |x::y::l,a,m=>by have:=mR (y::l) a m;simp only[aAO,j7]at this⊢;rw[this]
def u9(l:List V):List (V×V):=l.zip (l.tail++l.take 1)
theorem bD:∀(l:List V) (z:V),l.zip (l.tail++[z])=j7 (l++[z])
 |[],z=>rfl
 |[a],z=>rfl
 |a::b::r,z=>by have:=bD (b::r) z;simp only[List.tail_cons,aAO,j7,aBZ]at this⊢;rw[this]
def W7:u9 (a::l)=j7 (a::l++[a]):=bD (a::l) a
def QZ(i:w6 n a=M::c)(j:w6 n a.reverse=m::d)(g:(M::c).getLast?=some m)(k:(m::d).getLast?=some M)(l:c≠[]):
  u9 (j0 n a)=(F8 (w6 n a)).reverse++(F8 (w6 n a.reverse)).reverse:=by
 rw[<-iL,<-iL];unfold j0;rw[i,j,aAP,aAP,aBq,aBq];have b:∃e,c.reverse=m::e:=by
  have:c.getLast?=some m:=by
   match c,l with
   |x::c,_=>rw[aBl]at g;exact g
  rw[<-aER]at this;match o:c.reverse,this with
  |x::r,this=>exact⟨r,by rw[show x=m from Option.some.inj this]⟩
 obtain⟨e,b⟩:=b;have f:∃h,d.reverse++[m]=M::h:=by
  have:(m::d).reverse.head?=some M:=by rw[aER];exact k
  rw[aAP]at this;match o:d.reverse++[m],this with
  |x::r,this=>exact⟨r,by rw[show x=M from Option.some.inj this]⟩
 obtain⟨h,f⟩:=f;have p:c.reverse++d.reverse=m::(e++d.reverse):=by rw[b];rfl
 rw[p,W7];have q:m::(e++d.reverse)++[m]=c.reverse++(d.reverse++[m]):=by rw[b];simp
 rw[q,f,mR]
def q9(a b:V):-(a-b)=b-a:=(by apply ext<;>simp<;>lia)
def p5:M6 (a-b)↔d9 (b-a):=by unfold M6;rw[q9]
def F1(h:d9 (a-a)):False:=by rw[t8]at h;exact A0.irr h
def u0(h:d9 (a-b))(h':d9 (b-a)):False:=by have:=A0.add h h';have d:a-b+(b-a)=0:=(by apply ext<;>simp<;>lia);rw[d]at this;exact A0.irr this
def K4(a b:V):a=b\/d9 (a-b)\/d9 (b-a):=by
 rcases XJ (a-b)with h|h|h
 .exact .inr (.inl h)
 .refine .inl (ext ?_ ?_ ?_)
  .have:=ir V.x h;simp at this;lia
  .have:=ir V.y h;simp at this;lia
  have:=ir V.z h;simp at this;lia
 exact .inr (.inr (p5.mp h))
def iq(P Q X:V):Prop:=(d9 (Q-P)->(X=P\/d9 (X-P))/\(X=Q\/d9 (Q-X)))/\(d9 (P-Q)->(X=P\/d9 (P-X))/\(X=Q\/d9 (X-Q)))
structure EdgeOf(n:V)(T:V->Prop)(P Q:V):Prop where
 p:T P
 q:T Q
 ne:P≠Q
 left:∀X,T X->0<=i3 n (Q-P) (X-P)
 btw:∀X,T X->i3 n (Q-P) (X-P)=0->iq P Q X
section
variable{n:V}{T:V->Prop}
def EdgeOf.next(h:EdgeOf n T P Q)(h':EdgeOf n T P R):Q=R:=by
 have l:=h.left R h'.q;have i:=h'.left Q h.q;rw[j5]at i;have j:i3 n (Q-P) (R-P)=0:=by lia
 have k:i3 n (R-P) (Q-P)=0:=by rw[j5];lia
 have f:=h.btw R h'.q j;have g:=h'.btw Q h.q k;rcases K4 Q P with e|e|e
 .exact absurd e.symm h.ne
 .have b:=f.1 e;have d:d9 (R-P):=b.1.resolve_left (aBY h'.ne);rcases b.2 with q|q
  .exact q.symm
  rcases(g.1 d).2 with a|a
  .exact a
  exact(u0 q a).elim
 have b:=f.2 e;have d:d9 (P-R):=b.1.resolve_left (aBY h'.ne);rcases b.2 with q|q
 .exact q.symm
 rcases(g.2 d).2 with a|a
 .exact a
 exact(u0 q a).elim
def qK(n P Q X:V):i3 n (Q-P) (X-P)=i3 n (Q-P) (X-Q):=by have e:X-P=(X-Q)+(Q-P):=(by apply ext<;>simp<;>lia);rw[e,aQ,C7];lia
def EdgeOf.prev(h:EdgeOf n T P R)(h':EdgeOf n T Q R):P=Q:=by
 have k:=h.left Q h'.p;have l:=h'.left P h.p;have m:i3 n (R-Q) (P-Q)=-i3 n (R-P) (Q-P):=by simp[i3,dot];grind
 have i:i3 n (R-P) (Q-P)=0:=by lia
 have j:i3 n (R-Q) (P-Q)=0:=by lia
 have f:=h.btw Q h'.p i;have g:=h'.btw P h.p j;rcases K4 R P with e|e|e
 .exact absurd e.symm h.ne
 .have b:=f.1 e;have d:d9 (R-Q):=b.2.resolve_left h'.ne;rcases b.1 with q|q
  .exact q.symm
  rcases(g.1 d).1 with a|a
  .exact a
  exact(u0 q a).elim
 have b:=f.2 e;have d:d9 (Q-R):=b.2.resolve_left h'.ne;rcases b.1 with q|q
 .exact q.symm
 rcases(g.2 d).1 with a|a
 .exact a
 exact(u0 q a).elim
end
theorem pS{Pos:V->Prop}(X:V):∀(c:List V),(∀Y∈c,X=Y\/Pos (X-Y)\/Pos (Y-X))->(∀q,c.head?=some q->X=q\/Pos (q-X))->(∀z,c.getLast?=some z->X=z\/Pos (X-z))->c≠[]->
  (∀u,Pos u->Pos (-u)->False)->X∈c\/∃a b,(a,b)∈F8 c/\Pos (X-a)/\Pos (b-X)
 |[],_,_,_,h,_=>absurd rfl h
 |[q],_,d,f,_,g=>by
  rcases d q rfl with e|e
  .exact .inl (by simp[e])
  rcases f q rfl with i|i
  .exact .inl (by simp[i])
  exact(g _ e (by rw[q9];exact i)).elim
 |b::a::r,j,d,f,_,g=>by
  rcases d b rfl with e|e
  .exact .inl (by simp[e])
  rcases j a (by simp)with y|y|y
  .exact .inl (by simp[y])
  .exact .inr ⟨a,b,by simp[F8],y,e⟩
  rcases pS X (a::r) (λY k=>j Y (aAe _ k)) (λq l=>by have:a=q:=Option.some.inj l;subst this;exact .inr y) (λz m=>f z (by rw[aBl];exact m)) (by simp) g with h|⟨n,o,h,p⟩
  .exact .inl (aAe _ h)
  exact .inr ⟨n,o,P8 h,p⟩
def Row.ad6{Pos:V->Prop}{T:V->Prop}(F:Row n Pos T)(g:T a)(h:T b)(d:T P)(i:T Q)(j:Pos (P-a))(k:Pos (b-P))(l:Pos (Q-P))(m:0<=i3 n (b-a) (P-a))(f:0<i3 n (Q-P) (a-P))(o:0<=i3 n (Q-P) (b-P)):False:=by
 have p:i3 n (Q-P) (a-P)=i3 n (P-a) (Q-P):=by have e:a-P=-(P-a):=(q9 _ _).symm;rw[e,K7,j5];lia
 rw[p]at f;have:=F.cone.tr j l k (y9 F.nz (F.pl _ _ d g) (F.pl _ _ i d)<|F.pl _ _ h d) f o;have q:b-a=(b-P)+(P-a):=(by apply ext<;>simp<;>lia);rw[q,aT,C7,j5]at m
 lia
structure Sheet(n:V)(ts:List V):Prop where
 nz:n≠0
 pl:∀X∈ts,∀Y∈ts,dot n (X-Y)=0
 ord:ts.Pairwise (λa b=>d9 (b-a))
 two:∃X∈ts,∃Y∈ts,X≠Y
section
variable{n:V}{ts:List V} (S:Sheet n ts)
include S
theorem Sheet.row:Row n d9 (λX=>X∈ts):=⟨A0,S.nz,λX Y a b=>S.pl X a Y b,λX Y _ _=>K4 X Y⟩
theorem Sheet.ae6:Row n M6 (λX=>X∈ts):=⟨aI,S.nz,λX Y a b=>S.pl X a Y b,λX Y _ _=>by
 rcases K4 X Y with h|h|h
 .exact .inl h
 .exact .inr (.inr (p5.mpr h))
 exact .inr (.inl (p5.mpr h))⟩
theorem Sheet.ne:ts≠[]:=by obtain⟨X,a,_⟩:=S.two;intro e;rw[e]at a;cases a
theorem Sheet.ab2:ChOk n d9 (λX=>X∈ts) (w6 n ts)/\w6 n ts≠[]/\(∀X q,(w6 n ts).head?=some q->X∈ts->X=q\/d9 (q-X)):=
 S.row.ac9 S.ne (λ_ h=>h) S.ord
theorem Sheet.ab3:ChOk n M6 (λX=>X∈ts) (w6 n ts.reverse)/\w6 n ts.reverse≠[]/\(∀X q,(w6 n ts.reverse).head?=some q->X∈ts->X=q\/M6 (q-X)):=by
 have h:=S.ae6.ac9 (ps:=ts.reverse) (by simpa using S.ne) (λX h=>by simpa using h) (by rw[aEg];exact S.ord.imp λh=>p5.mpr h)
 obtain⟨a,b,d⟩:=h;exact⟨ChOk.congr S.ae6 a λX=>by simp,b,λX q e f=>d X q e (by simpa using f)⟩
theorem Sheet.ad8(h:(a,b)∈F8 (w6 n ts))(i:a∈ts)(j:b∈ts):EdgeOf n (λX=>X∈ts) a b/\d9 (b-a):=by obtain⟨d,f⟩:=S.ab2.1.ed _ h;dsimp only at d f;refine⟨⟨i,j,λe=>by subst e;exact F1 d,λX g=>(f X g).1,λX g z=>⟨λ_=>(f X g).2 z,λy=>(u0 d y).elim⟩⟩,d⟩
theorem Sheet.ae5(h:(a,b)∈F8 (w6 n ts.reverse))(j:a∈ts)(k:b∈ts):EdgeOf n (λX=>X∈ts) a b/\d9 (a-b):=by obtain⟨i,f⟩:=S.ab3.1.ed _ h;dsimp only at i f;have d:=p5.mp i;refine⟨⟨j,k,λe=>by subst e;exact F1 d,λX g=>(f X g).1,λX g z=>⟨λy=>(u0 d y).elim,λ_=>?_⟩⟩,d⟩;obtain⟨l,m⟩:=(f X g).2 z;exact⟨l.imp id p5.mp,m.imp id p5.mp⟩
theorem M1(h:(a,b)∈F8 c):a∈c/\b∈c:=by
 induction c with
 |nil=>cases h
 |cons x c d=>
  match c,h,d with
  |[],h,_=>cases h
  |y::r,h,d=>
   rcases aAc.mp h with e|e
   .cases e;simp
   have:=d e;exact⟨aAe _ this.1,aAe _ this.2⟩
theorem Sheet.ends:∃m M c d,m∈ts/\M∈ts/\d9 (M-m)/\(∀X∈ts,X=m\/d9 (X-m))/\(∀X∈ts,X=M\/d9 (M-X))/\w6 n ts=M::c/\w6 n ts.reverse=m::d/\(M::c).getLast?=some m/\(m::d).getLast?=some M/\c≠[]/\d≠[]:=by
 obtain⟨l,u,v⟩:=S.ab2;obtain⟨o,w,x⟩:=S.ab3;obtain⟨M,c,b⟩:=aEL u;obtain⟨m,d,f⟩:=aEL w;have p:M∈ts:=l.mem M (by rw[b];simp);have s:m∈ts:=o.mem m (by rw[f];simp);have q:∀X∈ts,X=M\/d9 (M-X):=λX g=>v X M (by rw[b];rfl) g;have h:∀X∈ts,X=m\/d9 (X-m):=λX g=>(x X m (by rw[f];rfl) g).imp id p5.mp;obtain⟨z,i⟩:∃z,(M::c).getLast?=some z:=by simp[aES]
 obtain⟨y,j⟩:∃z,(m::d).getLast?=some z:=by simp[aES]
 have A:z=m:=by
  have B:z∈ts:=l.mem z (by rw[b];exact aCZ i);rcases l.last m s z (by rw[b];exact i)with e|e
  .exact e.symm
  rcases h z B with a|a
  .exact a
  exact(u0 e a).elim
 have C:y=M:=by
  have E:y∈ts:=o.mem y (by rw[f];exact aCZ j);rcases o.last M p y (by rw[f];exact j)with e|e
  .exact e.symm
  rcases q y E with a|a
  .exact a
  exact(u0 (p5.mp e) a).elim
 subst A C;have r:d9 (y-z):=by
  obtain⟨X,g,Y,H,ne⟩:=S.two;rcases h y p with e|e
  .exfalso;subst e;have k:∀W∈ts,W=y:=λW t=>by
    rcases h W t with e|e
    .exact e
    rcases q W t with a|a
    .exact a
    exact(u0 e a).elim
   exact ne ((k X g).trans (k Y H).symm)
  exact e
 refine⟨z,y,c,d,s,p,r,h,q,b,f,i,j,λe=>?_,λe=>?_⟩
 .subst e;have:y=z:=by simpa using i
  subst this;exact F1 r
 subst e;have:z=y:=by simpa using j
 subst this;exact F1 r
theorem Sheet.pair(h:(P,Q)∈u9 (j0 n ts)):EdgeOf n (λX=>X∈ts) P Q:=by
 obtain⟨m,M,c,d,i,j,k,l,o,a,b,e,f,g,p⟩:=S.ends;rw[QZ a b e f g,aAD,aBL,aBL]at h;rcases h with h|h
 .have:=M1 S h;exact(S.ad8 h (S.ab2.1.mem _ this.1)<|S.ab2.1.mem _ this.2).1
 have:=M1 S h;exact(S.ae5 h (S.ab3.1.mem _ this.1)<|S.ab3.1.mem _ this.2).1
theorem V2(h:P∈l):∃Q,(P,Q)∈u9 l:=by
 obtain⟨i,b,e⟩:=aBp h;have d:l.length=(l.tail++l.take 1).length:=by
  match l,b with
  |a::l,_=>simp
 refine⟨(l.tail++l.take 1)[i]'(by lia),?_⟩;unfold u9;refine List.mem_of_getElem (i:=i) (h:=by rw[List.length_zip];lia) ?_;rw[List.getElem_zip,e]
theorem Sheet.ab1(h:EdgeOf n (λX=>X∈ts) P Q):P∈j0 n ts:=by
 obtain⟨m,M,c,d,T,U,mM,C,E,A,B,h3,h4,hc,hd⟩:=S.ends;obtain⟨o,H,I⟩:=S.ab2;obtain⟨i,J,L⟩:=S.ab3;unfold j0;rw[aAD,A,B,aAP,aAP,aBq,aBq,aBL,aBL];rcases K4 Q P with e|e|e
 .exact absurd e.symm h.ne
 .
  left;rcases pS (Pos:=d9) P (w6 n ts) (λY _=>K4 P Y) (λq s=>I P q s h.p) (λz t=>o.last P h.p z t) H (λu a b=>by have:=A0.add a b;have v:u+-u=0:=(by apply ext<;>simp<;>lia);rw[v]at this;exact A0.irr this)with r|⟨a,b,r,g,w⟩
  .rw[A]at r;rcases aAc.mp r with q|q
   .subst q;rcases E Q h.q with y|y
    .exact absurd y.symm h.ne
    exact(u0 e y).elim
   exact q
  exfalso;have j:=M1 S r;have f:=o.mem _ j.1;have k:=o.mem _ j.2;have N:=h.left a f;have x:i3 n (Q-P) (a-P)≠0:=λz=>by
   rcases((h.btw a f z).1 e).1 with y|y
   .subst y;exact F1 g
   exact u0 g y
  exact S.row.ad6 f k h.p h.q g w e ((o.ed _ r).2 P h.p).1 (by lia) (h.left b k)
 right;rcases pS (Pos:=M6) P (w6 n ts.reverse) (λY _=>S.ae6.tot P Y h.p (by rename_i O;exact i.mem Y O)) (λq s=>L P q s h.p) (λz t=>i.last P h.p z t) J (λu a b=>by have:=aI.add a b;have v:u+-u=0:=(by apply ext<;>simp<;>lia);rw[v]at this;exact aI.irr this)with r|⟨a,b,r,g,w⟩
 .rw[B]at r;rcases aAc.mp r with q|q
  .subst q;rcases C Q h.q with y|y
   .exact absurd y.symm h.ne
   exact(u0 e y).elim
  exact q
 exfalso;have j:=M1 S r;have f:=i.mem _ j.1;have k:=i.mem _ j.2;have N:=h.left a f;have l:=p5.mp g;have x:i3 n (Q-P) (a-P)≠0:=λz=>by
  rcases((h.btw a f z).2 e).1 with y|y
  .subst y;exact F1 l
  exact u0 l y
 exact S.ae6.ad6 f k h.p h.q g w (p5.mpr e) ((i.ed _ r).2 P h.p).1 (by lia) (h.left b k)
theorem Sheet.aa1:(P,Q)∈u9 (j0 n ts)↔EdgeOf n (λX=>X∈ts) P Q:=by
 refine⟨S.pair,λh=>?_⟩;obtain⟨R,a⟩:=V2 S (S.ab1 h);have:=(S.pair a).next h
 subst this;exact a
end
theorem N2{Pos:V->Prop}(C:Cone Pos):∀(c:List V),(∀e∈F8 c,Pos (e.2-e.1))->c.Pairwise (λb a=>Pos (b-a))
 |[],_=>aGv
 |[x],_=>aDV _ _
 |b::a::r,h=>by
  have d:=N2 C (a::r) (λe g=>h e (P8 g));have f:=h (a,b) (by simp[F8]);refine aAy.mpr ⟨λy i=>?_,d⟩;rcases aAc.mp i with e|e
  .subst e;exact f
  have:=(aAy.mp d).1 y e;have s:=C.add f this;have j:b-a+(a-y)=b-y:=(by apply ext<;>simp<;>lia);dsimp only at s
  rwa [j]at s
theorem kB:∀{h:V}{c:List V}{X:V},X∈c->∃b,(X,b)∈F8 (h::c)
 |h,[],X,d=>by cases d
 |h,a::r,X,d=>by
  rcases aAc.mp d with e|e
  .subst e;exact⟨h,by simp[F8]⟩
  obtain⟨b,f⟩:=kB (h:=a) e;exact⟨b,P8 f⟩
section
variable{n:V}{ts:List V} (S:Sheet n ts)
include S
theorem Sheet.aa4(h:X∈j0 n ts):X∈ts:=by obtain⟨Q,a⟩:=V2 S h;exact(S.pair a).p
theorem Sheet.aa3:(j0 n ts).Nodup:=by
 obtain⟨m,M,c,d,C,E,H,I,J,f,g,L,N,O,Q⟩:=S.ends;obtain⟨i,T,U⟩:=S.ab2;obtain⟨j,Y,t2⟩:=S.ab3;unfold j0;rw[f,g,aAP,aAP,aBq,aBq];have p:=N2 A0 (w6 n ts) λe k=>(i.ed e k).1;have q:=N2 aI (w6 n ts.reverse) λe k=>(j.ed e k).1;rw[f]at p;rw[g]at q;have v:=(aAy.mp p).2;have w:=(aAy.mp q).2;rw[aCH];refine⟨?_,?_,?_⟩
 .rw[aCi,aEg];exact v.imp λ{a b} h e=>by subst e;exact F1 h
 .rw[aCi,aEg];exact w.imp λ{a b} h e=>by subst e;exact F1 (p5.mp h)
 intro x r y s e;subst e;rw[aBL]at r s;obtain⟨b,l⟩:=kB (h:=M) r;obtain⟨b',o⟩:=kB (h:=m) s;rw[<-f]at l;rw[<-g]at o;have t:=M1 S l;have u:=M1 S o;obtain⟨z,A⟩:=S.ad8 l (i.mem _ t.1) (i.mem _ t.2);obtain⟨B,l2⟩:=S.ae5 o (j.mem _ u.1) (j.mem _ u.2);have:=z.next B;subst this;exact u0 A l2
theorem Sheet.aa7:∃m r,j0 n ts=m::r/\m∈ts/\∀X∈ts,X=m\/d9 (X-m):=by
 obtain⟨m,M,c,d,f,k,l,g,o,h,i,e,p,j,q⟩:=S.ends;have a:∃b,c.reverse=m::b:=by
  have:c.getLast?=some m:=by
   match c,j with
   |x::c,_=>rw[aBl]at e;exact e
  rw[<-aER]at this;match s:c.reverse,this with
  |x::r,this=>exact⟨r,by rw[show x=m from Option.some.inj this]⟩
 obtain⟨b,a⟩:=a;refine⟨m,b++d.reverse,?_,f,g⟩;unfold j0;rw[h,i,aAP,aAP,aBq,aBq,a];rfl
theorem qW(h:Q∈l):∃P,(P,Q)∈u9 l:=by
 match l,h with
 |a::r,h=>
  have b:Q∈r++[a]:=by simpa[or_comm]using h
  obtain⟨i,d,e⟩:=aBp b;have f:i<(a::r).length:=by simpa using d
  refine⟨(a::r)[i],?_⟩;show _∈(a::r).zip (r++[a]);refine List.mem_of_getElem (i:=i) (h:=by rw[List.length_zip];simp;omega) ?_;rw[List.getElem_zip,e]
theorem fB(h:(P,Q)∈u9 l):P∈l/\Q∈l:=by
 have b:=aDW h;refine⟨b.1,?_⟩;match l,b.2 with
 |a::r,z=>simpa[or_comm]using z
theorem Sheet.strict(h:EdgeOf n (λX=>X∈ts) P Q)(x:X∈j0 n ts)(s:X≠P)(t:X≠Q):0<i3 n (Q-P) (X-P):=by
 have d:=S.aa4 x;have E:=h.left X d;by_cases z:i3 n (Q-P) (X-P)=0
 .exfalso;have b:=h.btw X d z;obtain⟨Y,B⟩:=V2 S x;have g:=S.pair B;have u:=g.left P h.p;have l2:=g.left Q h.q;rcases K4 Q P with e|e|e
  .exact h.ne e.symm
  .have m:=b.1 e;have f:=m.1.resolve_left s;have i:=m.2.resolve_left t;have C:i3 n (X-P) (Q-X)=0:=by have a:Q-P=(Q-X)+(X-P):=(by apply ext<;>simp<;>lia);rw[a,aT,C7,j5]at z;lia
   have o:0<=i3 n (X-P) (Y-X):=by have a:P-X=-(X-P):=(q9 _ _).symm;rw[a,K7]at u;rw[j5];lia
   rcases K4 Y X with y|y|y
   .exact g.ne y.symm
   .have H:=S.row.weak f y i (S.pl _ d _ h.p) (S.pl _ g.q _ d) (S.pl _ h.q _ d) o l2;by_cases j:0<i3 n (X-P) (Y-X)
    .have:=A0.tr f y i (y9 S.nz (S.pl _ d _ h.p) (S.pl _ g.q _ d)<|S.pl _ h.q _ d) j l2
     lia
    have l:i3 n (Y-X) (P-X)=0:=by have a:P-X=-(X-P):=(q9 _ _).symm;rw[a,K7,j5];lia
    rcases((g.btw P h.p l).1 y).1 with k|k
    .exact s k.symm
    exact u0 k f
   have r:d9 (X-Y):=y;have A:0<=i3 n (X-Y) (X-P):=by have a:Y-X=-(X-Y):=(q9 _ _).symm;rw[a,K7,j5]at o;lia
   have v:0<=i3 n (Q-X) (X-Y):=by have a:Y-X=-(X-Y):=(q9 _ _).symm;rw[a,aG,j5]at l2;lia
   by_cases j:0<i3 n (Q-X) (X-Y)
   .have:=A0.tr i r f (y9 S.nz (S.pl _ h.q _ d) (S.pl _ d _ g.q)<|S.pl _ d _ h.p) j A;rw[j5]at this;lia
   have l:i3 n (Y-X) (Q-X)=0:=by have a:Y-X=-(X-Y):=(q9 _ _).symm;rw[a,aG,j5];lia
   rcases((g.btw Q h.q l).2 r).1 with k|k
   .exact t k.symm
   exact u0 k i
  have m:=b.2 e;have f:=m.1.resolve_left s;have i:=m.2.resolve_left t;have C:i3 n (P-X) (X-Q)=0:=by have a:Q-P=-((P-X)+(X-Q)):=(by apply ext<;>simp<;>lia);have w:X-P=-(P-X):=(q9 _ _).symm;rw[a,w,aG,K7,aT,C7,j5]at z;lia
  rcases K4 Y X with y|y|y
  .exact g.ne y.symm
  .
   have v:0<=i3 n (X-Q) (Y-X):=by have a:Q-X=-(X-Q):=(q9 _ _).symm;rw[a,K7,j5]at l2;lia
   by_cases j:0<i3 n (X-Q) (Y-X)
   .have:=A0.tr i y f (y9 S.nz (S.pl _ d _ h.q) (S.pl _ g.q _ d)<|S.pl _ h.p _ d) j u;rw[j5]at this;lia
   have l:i3 n (Y-X) (Q-X)=0:=by have a:Q-X=-(X-Q):=(q9 _ _).symm;rw[a,K7,j5];lia
   rcases((g.btw Q h.q l).1 y).1 with k|k
   .exact t k.symm
   exact u0 k i
  have r:d9 (X-Y):=y;have A:0<=i3 n (P-X) (X-Y):=by have a:Y-X=-(X-Y):=(q9 _ _).symm;rw[a,aG,j5]at u;lia
  have v:0<=i3 n (X-Y) (X-Q):=by have a:Y-X=-(X-Y):=(q9 _ _).symm;have w:Q-X=-(X-Q):=(q9 _ _).symm;rw[a,w,aG,K7]at l2;lia
  by_cases j:0<i3 n (P-X) (X-Y)
  .have:=A0.tr f r i (y9 S.nz (S.pl _ h.p _ d) (S.pl _ d _ g.q)<|S.pl _ d _ h.q) j v
   lia
  have l:i3 n (Y-X) (P-X)=0:=by have a:Y-X=-(X-Y):=(q9 _ _).symm;rw[a,aG,j5];lia
  rcases((g.btw P h.p l).2 r).1 with k|k
  .exact s k.symm
  exact u0 k f
 lia
end
def bO{a:V}(h:a≠0):a.x≠0\/a.y≠0\/a.z≠0:=by
 by_cases p:a.x=0
 .by_cases q:a.y=0
  .by_cases r:a.z=0
   .exact absurd (ext p q r) h
   exact .inr (.inr r)
  exact .inr (.inl q)
 exact .inl p
def A6{a w:V}(d:a≠0)(h:cr a w=0):∃k m:Int,0<k/\k*w=m*a:=by
 have f:=ir V.x h;have g:=ir V.y h;have i:=ir V.z h;simp at f g i;have b:∀k m:Int,k≠0->k*w=m*a->∃k m:Int,0<k/\k*w=m*a:=λk m o e=>by
  by_cases p:0<k
  .exact⟨k,m,p,e⟩
  refine⟨-k,-m,by lia,?_⟩;have j:=ir V.x e;have l:=ir V.y e;have n:=ir V.z e;simp at j l n;apply ext<;>simp<;>grind
 rcases bO d with p|p|p
 .exact b a.x w.x p (by apply ext<;>simp<;>grind)
 .exact b a.y w.y p (by apply ext<;>simp<;>grind)
 exact b a.z w.z p (by apply ext<;>simp<;>grind)
def ConeM.ad1{Pos:V->Prop}(C:ConeM a Pos)(d:a≠0)(f:Pos w):cr a w≠0:=λh=>by
 obtain⟨k,m,g,e⟩:=A6 d h;have b:=C.inv (-m) (C.mul g f);rw[e]at b;have i:m*a+-m*a=0:=by apply ext<;>simp<;>grind
 rw[i]at b;exact C.irr b
def G8(a A:V):List V->V->V->V×V
 |[],up,b=>(up,b)
 |P::d,up,b=>if up=0\/0<dot up (P-A)then G8 a A d (cr a (P-A)) P else G8 a A d up b
def WO(a A:V)(Pos:V->Prop)(seen:V->Prop)(up b:V):Prop:=
 (up=0/\∀P,seen P->cr a (P-A)=0)\/(seen b/\Pos (b-A)/\up=cr a (b-A)/\∀P,seen P->i3 a (b-A) (P-A)<=0)
def jB(h:cr a w=0)(u:V):i3 a u w=0:=by
 have e:i3 a u w=-dot (cr a w) u:=by simp[i3,dot];grind
 rw[e,h];simp[dot]
theorem uI{Pos:V->Prop}(C:ConeM a Pos)(o:a≠0):∀(J:List V) (seen:V->Prop) (up d:V),WO a A Pos seen up d->(∀P,seen P->Pos (P-A)\/cr a (P-A)=0)->(∀P∈J,Pos (P-A)\/cr a (P-A)=0)->
  WO a A Pos (λP=>seen P\/P∈J) (G8 a A J up d).1 (G8 a A J up d).2
 |[],seen,up,d,h,_,_=>by
  show WO a A Pos _ up d;rcases h with⟨g,f⟩|⟨g,f,i,j⟩
  .exact .inl ⟨g,λP b=>f P (by simpa using b)⟩
  exact .inr ⟨.inl g,f,i,λP b=>j P (by simpa using b)⟩
 |Q::J,seen,up,d,h,p,s=>by
  have k:=s Q (by simp);have l:WO a A Pos (λP=>seen P\/P=Q) (if up=0\/0<dot up (Q-A)then(cr a<|Q-A)else up) (if up=0\/0<dot up (Q-A)then Q else d):=by
   rcases h with⟨g,f⟩|⟨g,f,i,j⟩
   .rw[h9 (.inl g),h9 (.inl g)];by_cases z:cr a (Q-A)=0
    .exact .inl ⟨z,λP b=>by
      rcases b with b|b
      .exact f P b
      subst b;exact z⟩
    refine .inr ⟨.inr rfl,k.resolve_right z,rfl,λP b=>?_⟩;rcases b with b|b
    .rw[jB (f P b)];exact aBy _
    subst b;rw[C7];exact aBy _
   have t:up≠0:=by rw[i];exact C.ad1 o f
   have m:dot up (Q-A)=i3 a (d-A) (Q-A):=by rw[i,R3]
   by_cases z:0<dot up (Q-A)
   .rw[h9 (.inr z),h9 (.inr z)];have u:Pos (Q-A):=by
     rcases k with q|q
     .exact q
     rw[m,jB q]at z;lia
    refine .inr ⟨.inr rfl,u,rfl,λP b=>?_⟩;rcases b with b|b
    .by_cases v:i3 a (Q-A) (P-A)<=0
     .exact v
     exfalso;have n:Pos (P-A):=by
      rcases p P b with q|q
      .exact q
      rw[jB q]at v;lia
     have:=C.tr f u n (by rw[<-m];exact z) (by lia);have:=j P b
     lia
    subst b;rw[C7];exact aBy _
   rw[ia (by rintro(q|q);exact t q;exact z q),ia (by rintro(q|q);exact t q;exact z q)];refine .inr ⟨.inl g,f,i,λP b=>?_⟩;rcases b with b|b
   .exact j P b
   subst b;rw[<-m];lia
  have r:=uI C o J (λP=>seen P\/P=Q) _ _ l (λP b=>by
   rcases b with b|b
   .exact p P b
   subst b;exact k) (λP b=>s P (aAe _ b))
  have e:G8 a A (Q::J) up d=G8 a A J (if up=0\/0<dot up (Q-A)then(cr a<|Q-A)else up) (if up=0\/0<dot up (Q-A)then Q else d):=by rw[G8];split<;>rfl
  rw[e];have w:(λP=>(seen P\/P=Q)\/P∈J)=(λP=>seen P\/P∈Q::J):=by funext P;simp[or_assoc]
  rw[<-w];exact r
def MN{Pos:V->Prop}(C:ConeM a Pos)(e:a≠0)(g:∀P∈J,Pos (P-A)\/cr a (P-A)=0)(i:∃P∈J,Pos (P-A)):
  (G8 a A J 0 A).2∈J/\Pos ((G8 a A J 0 A).2-A)/\∀P∈J,i3 a ((G8 a A J 0 A).2-A) (P-A)<=0:=by
 have h:=uI C e J (λ_=>False) 0 A (.inl ⟨rfl,λ_ h=>h.elim⟩) (λ_ h=>h.elim) g;rcases h with⟨f,b⟩|⟨f,b,l,j⟩
 .obtain⟨P,d,k⟩:=i;exact absurd (b P<|.inr d) (C.ad1 e k)
 exact⟨by simpa using f,b,λP d=>j P (.inr d)⟩
def z6(v:V):Nat:=Nat.gcd (Nat.gcd v.x.natAbs v.y.natAbs) v.z.natAbs
def kF(v:V)(g:Int):V:=⟨v.x/g,v.y/g,v.z/g⟩
def aX(n:V):Prop:=z6 n=1
def qZ(k:Int)(v:V):z6 (k*v)=k.natAbs*z6 v:=by unfold z6;simp[Int.natAbs_mul,Nat.gcd_mul_left]
def KF(h:z6 v=0):v=0:=by unfold z6 at h;have a:=Nat.gcd_eq_zero_iff.mp h;have b:=Nat.gcd_eq_zero_iff.mp a.1;exact ext (aET.mp b.1) (aET.mp b.2) (aET.mp a.2)
def QT(v:V):(z6 v:Int)∣v.x/\(z6 v:Int)∣v.y/\(z6 v:Int)∣v.z:=by
 unfold z6;refine⟨?_,?_,?_⟩
 .exact aEU.mpr (Nat.dvd_trans (aFx _ _)<|aFx _ _)
 .exact aEU.mpr (Nat.dvd_trans (aFx _ _)<|Nat.gcd_dvd_right _ _)
 exact aEU.mpr (Nat.gcd_dvd_right _ _)
def lV(h:c≠0):0<(z6 c:Int)/\c=(z6 c:Int)*kF c (z6 c)/\aX (kF c (z6 c)):=by
 have i:z6 c≠0:=λz=>h (KF z);have a:0<(z6 c:Int):=by lia
 obtain⟨b,d,f⟩:=QT c;have e:c=(z6 c:Int)*kF c (z6 c):=by
  apply ext
  .show _=_*(c.x/_);rw[aEs b]
  .show _=_*(c.y/_);rw[aEs d]
  show _=_*(c.z/_);rw[aEs f]
 refine⟨a,e,?_⟩;have:=ir z6 e;rw[qZ]at this;simp only[Int.natAbs_natCast]at this;unfold aX;have g:z6 c*1=z6 c*z6 (kF c<|z6 c):=by lia
 exact(Nat.eq_of_mul_eq_mul_left (by lia) g).symm
def aX.ne(h:aX n):n≠0:=λe=>by subst e;unfold aX at h;exact absurd h (by decide)
def xL{n m:V}{k l:Int}(g:aX n)(h:aX m)(i:0<k)(j:0<l)(e:k*n=l*m):n=m:=by
 have:=ir z6 e;rw[qZ,qZ,g,h]at this;have a:k=l:=by lia
 subst a;have b:=ir V.x e;have d:=ir V.y e;have f:=ir V.z e;simp at b d f;exact ext (aDG (by lia) b) (aDG (by lia) d) (aDG (by lia) f)
def j1(P Q R:V):V×Int:=let n:=kF (cr (Q-P)<|R-P) (z6<|cr (Q-P)<|R-P);(n,dot n P)
structure IsFace(J:List V)(n:V)(d:Int):Prop where
 prim:aX n
 sup:∀X∈J,dot n X<=d
 three:∃A∈J,∃B∈J,∃C∈J,dot n A=d/\dot n B=d/\dot n C=d/\cr (B-A) (C-A)≠0
def B1(a:dot n u=0)(b:dot n v=0):cr n (cr u v)=0:=by simp[dot]at a b;apply ext<;>simp<;>grind
def dJ(f:c≠0)(b:cr n c=0)(d:cr m c=0):cr n m=0:=by
 have h:cr c n=0:=by have:=ir V.x b;have:=ir V.y b;have:=ir V.z b;simp at*;apply ext<;>simp<;>grind
 have i:cr c m=0:=by have:=ir V.x d;have:=ir V.y d;have:=ir V.z d;simp at*;apply ext<;>simp<;>grind
 obtain⟨k,p,r,j⟩:=A6 f h;obtain⟨l,q,s,o⟩:=A6 f i;have e:(k*l)*cr n m=0:=by
  have:(k*l)*cr n m=cr (k*n) (l*m):=by apply ext<;>simp<;>grind
  rw[this,j,o];apply ext<;>simp<;>grind
 have a:k*l≠0:=λz=>by rcases aAu.mp z with q|q<;>lia
 have b:=ir V.x e;have d:=ir V.y e;have g:=ir V.z e;simp only[pL,pB,pT,eG,eS,dI]at b d g;exact ext ((aAu.mp b).resolve_left a) ((aAu.mp d).resolve_left a) ((aAu.mp g).resolve_left a)
def iY{J:List V}{n m:V}{d e:Int}(g:aX n)(a:aX m)(E:∀X∈J,dot n X<=d)(h:∀X∈J,dot m X<=e){A B C Z:V}(H:dot n A=d)(I:dot n B=d)(L:dot n C=d)(i:dot m A=e)(j:dot m B=e)(o:dot m C=e)
  (r:cr (B-A) (C-A)≠0) (s:Z∈J) (hz:dot n Z<d):n=m/\d=e:=by
 have t:cr n (cr (B-A)<|C-A)=0:=B1 (by rw[d8];lia) (by rw[d8];lia);have u:cr m (cr (B-A)<|C-A)=0:=B1 (by rw[d8];lia) (by rw[d8];lia);have p:=dJ r u t;obtain⟨k,l,b,f⟩:=A6 a.ne p;have w:0<l:=by
  have q:=ir (λv=>dot v (Z-A)) f;rw[N8,N8]at q;have x:dot n (Z-A)<0:=by rw[d8];lia
  have N:dot m (Z-A)<=0:=by rw[d8];have:=h Z s;lia
  have O:k*dot n (Z-A)<0:=aAt b x;by_cases z:0<l
  .exact z
  exfalso;have:0<=l*dot m (Z-A):=by
   have:=aBj (show 0<=-l by lia) (show 0<=-dot m (Z-A)by lia)
   rwa [aDs]at this
  lia
 have y:=xL g a b w f;subst y;exact⟨rfl,by lia⟩
def b7(A B:V)(J:List V):V×Int:=j1 A B (G8 (B-A) A J 0 A).2
def o7(n:V)(d:Int)(J:List V):List V:=J.filter λX=>decide (dot n X=d)
def c5:X∈o7 n d J↔X∈J/\dot n X=d:=by simp[o7]
def pU(h:cr (Q-P) (R-P)≠0):∃g:Int,0<g/\cr (Q-P) (R-P)=g*(j1 P Q R).1/\aX (j1 P Q R).1/\(j1 P Q R).2=dot (j1 P Q R).1 P:=by obtain⟨a,b,d⟩:=lV h;exact⟨_,a,b,d,rfl⟩
def N5{Pos:V->Prop}(C:ConeM (B-A) Pos)(d:B-A≠0)(n:∀P∈J,Pos (P-A)\/cr (B-A) (P-A)=0)(o:∃P∈J,Pos (P-A)):
  ∃(a:V) (g:Int),a∈J/\Pos (a-A)/\0<g/\cr (B-A) (a-A)=g*(b7 A B J).1/\aX (b7 A B J).1/\(b7 A B J).2=dot (b7 A B J).1 A/\
   (∀P∈J,dot (b7 A B J).1 P<=(b7 A B J).2)/\dot (b7 A B J).1 B=(b7 A B J).2/\dot (b7 A B J).1 a=(b7 A B J).2/\
   (∀P∈J,dot (b7 A B J).1 P=(b7 A B J).2->i3 (B-A) (a-A) (P-A)=0):=by
 obtain⟨p,f,q⟩:=MN C d n o;have r:=C.ad1 d f;obtain⟨g,i,j,s,k⟩:=pU r;have b:∀w:V,g*dot (b7 A B J).1 w=i3 (B-A) ((G8 (B-A) A J 0 A).2-A) w:=λw=>by have:dot (cr (B-A)<|(G8 (B-A) A J 0 A).2-A) w=i3 (B-A) ((G8 (B-A) A J 0 A).2-A) w:=R3 _ _ _;rw[<-this,j,N8];rfl
 have u:(b7 A B J).2=dot (b7 A B J).1 A:=k;have l:∀w:V,i3 (B-A) ((G8 (B-A) A J 0 A).2-A) w=0->dot (b7 A B J).1 w=0:=λw t=>by have:=b w;rw[t]at this;exact(aAu.mp this).resolve_left (by lia)
 refine⟨_,g,p,f,i,j,s,k,λP m=>?_,?_,?_,λP m e=>?_⟩
 .have h:=q P m;rw[<-b]at h;have:dot (b7 A B J).1 (P-A)<=0:=by
   by_cases z:dot (b7 A B J).1 (P-A)<=0
   .exact z
   have:=aAL i (show 0<dot (b7 A B J).1 (P-A)by lia)
   lia
  rw[d8]at this
  lia
 .have:=l (B-A) (by simp[i3,dot];grind);rw[d8]at this;lia
 .have:=l ((G8 (B-A) A J 0 A).2-A) (C7 _ _);rw[d8]at this;lia
 rw[<-b,d8];have:dot (b7 A B J).1 P-dot (b7 A B J).1 A=0:=by lia
 rw[this];simp
def yX{Pos:V->Prop}(C:ConeM a Pos)(d:a≠0)(e:Pos o)(f:Pos w)(h:i3 a o w=0):0<dot (cr a o) (cr a w):=by
 by_cases z:0<dot (cr a o) (cr a w)
 .exact z
 exfalso;have g:=C.ad1 d e;have i:=u4 g;have j:Pos (dot (cr a o) (cr a o)*w+(-dot (cr a o) (cr a w))*o):=C.comb i (by lia) f e;refine C.ad1 d j ?_;have b:cr (cr a o) (cr a w)=i3 a o w*a:=by simp[i3,dot];apply ext<;>simp<;>grind
 rw[h,v7]at b;have k:cr a (dot (cr a o) (cr a o)*w+(-dot (cr a o) (cr a w))*o)=dot (cr a o) (cr a o)*cr a w+(-dot (cr a o) (cr a w))*cr a o:=by apply ext<;>simp<;>grind
 rw[k];have l:∀p q:V,dot p p*q+(-dot p q)*p=cr p (cr q p):=λp q=>by simp[dot];apply ext<;>simp<;>grind
 rw[l];have m:cr (cr a w) (cr a o)=0:=by have n:=ir V.x b;have r:=ir V.y b;have s:=ir V.z b;simp only[VW,XZ,VS,eG,eS,dI]at n r s;apply ext<;>simp only[VW,XZ,VS,eG,eS,dI]<;>grind
 rw[m];apply ext<;>simp
def iq.symm(h:iq P Q X):iq Q P X:=⟨λa=>⟨(h.2 a).2,(h.2 a).1⟩,λa=>⟨(h.1 a).2,(h.1 a).1⟩⟩
def uN(i:n≠0)(d:dot n (a-b)=0):ConeM (a-b) (λw=>dot n w<0\/(dot n w=0/\0<i3 n (b-a) w))where
 add:=λ{u v} j l=>by
  rw[u6,aQ]
  lia
 mul:=λ{k u} f h=>by
  rw[i6,AB];rcases h with h|⟨h,g⟩
  .exact .inl (aAt f h)
  exact .inr ⟨by rw[h];simp,aAL f g⟩
 irr:=by rw[C1,fQ];lia
 inv:=λ{u} k h=>by
  have e:i3 n (b-a) (a-b)=0:=by have:a-b=-(b-a):=(q9 _ _).symm;rw[this,K7,C7];rfl
  rw[u6,aQ,i6,AB,d,e];simpa using h
def W0(a:n≠0)(g:dot n u=0)(i:dot n w=0)(h:i3 n u w=0):cr u w=0:=by
 have j:cr n (cr u w)=0:=B1 g i;obtain⟨k,m,p,e⟩:=A6 a j;have q:=ir (dot n) e;rw[i6,i6]at q;have:dot n (cr u w)=0:=h;rw[this]at q;have l:m=0:=by
  have:=u4 a;have o:m*dot n n=0:=by lia
  rcases aAu.mp o with z|z
  .exact z
  lia
 rw[l,v7]at e;have b:=ir V.x e;have d:=ir V.y e;have f:=ir V.z e;simp only[pL,pB,pT,eG,eS,dI]at b d f;exact ext ((aAu.mp b).resolve_left (by lia)) ((aAu.mp d).resolve_left (by lia)) ((aAu.mp f).resolve_left (by lia))
def xX(h:cr u w=0):cr (-u) w=0:=by have a:=ir V.x h;have b:=ir V.y h;have d:=ir V.z h;simp only[VW,XZ,VS,eG,eS,dI]at a b d;apply ext<;>simp<;>grind
def uJ(B:n≠0)(T:∀X∈J,dot n X<=d)(hz:∃Z∈J,dot n Z<d)(h:EdgeOf n (λX=>X∈o7 n d J) a b):
  IsFace J (b7 b a J).1 (b7 b a J).2/\EdgeOf (b7 b a J).1 (λX=>X∈o7 (b7 b a J).1 (b7 b a J).2 J) b a:=by
 obtain⟨E,da⟩:=c5.mp h.p;obtain⟨pb,db⟩:=c5.mp h.q;have j:dot n (a-b)=0:=by rw[d8];lia
 have s:dot n (b-a)=0:=by rw[d8];lia
 have C:=uN (n:=n) B j;have o:a-b≠0:=λe=>h.ne (by have U:=ir V.x e;have Y:=ir V.y e;have q3:=ir V.z e;simp at U Y q3;exact ext (by lia) (by lia) (by lia))
 have t:∀P∈J,(dot n (P-b)<0\/(dot n (P-b)=0/\0<i3 n (b-a) (P-b)))\/cr (a-b) (P-b)=0:=λP H=>by
  have h1:=T P H;by_cases z:dot n P<d
  .exact .inl (.inl (by rw[d8];lia))
  have e:dot n P=d:=by lia
  have tP:P∈o7 n d J:=c5.mpr ⟨H,e⟩;have l:=h.left P tP;rw[qK]at l;have I:dot n (P-b)=0:=by rw[d8];lia
  by_cases y:0<i3 n (b-a) (P-b)
  .exact .inl (.inr ⟨I,y⟩)
  have y0:i3 n (b-a) (P-b)=0:=by lia
  have:=xX (W0 B s I y0);rw[q9]at this;exact .inr this
 obtain⟨Z,hZ,hz⟩:=hz;obtain⟨f,g,o1,u,g0,L,gp,N,v,O,sO,Q⟩:=N5 C o t ⟨Z,hZ,.inl (by rw[d8];lia)⟩;refine⟨⟨gp,v,b,pb,a,E,f,o1,N.symm,O,sO,C.ad1 o u⟩,⟨c5.mpr ⟨pb,N.symm⟩,c5.mpr ⟨E,O⟩,λe=>h.ne e.symm,λX w=>?_,λX w e=>?_⟩⟩
 .obtain⟨i,A⟩:=c5.mp w;have z:=Q X i A;have r:g*i3 (b7 b a J).1 (a-b) (X-b)=dot (cr (a-b)<|f-b) (cr (a-b)<|X-b):=by rw[L];unfold i3;rw[N8]
  have:0<=dot (cr (a-b)<|f-b) (cr (a-b)<|X-b):=by
   rcases t X i with q|q
   .exact aAK (yX C o u q z)
   rw[q,C1];exact aBy _
  rw[<-r]at this;by_cases zz:0<=i3 (b7 b a J).1 (a-b) (X-b)
  .exact zz
  have:=aAt g0 (show i3 (b7 b a J).1 (a-b) (X-b)<0 by lia)
  lia
 obtain⟨i,A⟩:=c5.mp w;have z:=Q X i A;have r:g*i3 (b7 b a J).1 (a-b) (X-b)=dot (cr (a-b)<|f-b) (cr (a-b)<|X-b):=by rw[L];unfold i3;rw[N8]
 rw[e]at r;rcases t X i with q|q
 .have:=yX C o u q z;rw[<-r]at this;simp at this
 .
  have dX:dot n X=d:=by obtain⟨k,m,hk,e⟩:=A6 o q;have q:=ir (dot n) e;rw[i6,i6,j]at q;have:dot n (X-b)=0:=(aAu.mp (show k*dot n (X-b)=0 by lia)).resolve_left (by lia);rw[d8]at this;lia
  refine(h.btw X (c5.mpr ⟨i,dX⟩) ?_).symm;rw[qK];have:cr (b-a) (X-b)=0:=by
   have:=xX q
   rwa [q9]at this
  unfold i3;rw[this,C1]
def B7:List V->Option V
 |[]=>none
 |w::a=>if w≠0 then some w else B7 a
def u7(h:B7 ws=some w):w∈ws/\w≠0:=by
 induction ws with
 |nil=>cases h
 |cons v ws a=>
  unfold B7 at h;split at h
  .rename_i b;cases h;exact⟨by simp,b⟩
  have:=a h;exact⟨aAe _ this.1,this.2⟩
def N7(h:B7 ws=none):∀w∈ws,w=0:=by
 induction ws with
 |nil=>intro w a;cases a
 |cons v ws b=>
  unfold B7 at h;split at h
  .cases h
  rename_i d;intro w a;rcases aAc.mp a with e|e
  .subst e;exact Decidable.not_not.mp d
  exact b h w e
def U4:List V->Nat
 |[]=>0
 |p::d=>
  let a:=(p::d).map (· -p)
  match B7 a with
  |none=>0
  |some b=>match B7 (a.map<|cr b)with
   |none=>1
   |some up=>if a.any (λw=>decide (dot up w≠0))then 3 else 2
def i9(J:List V):Prop:=∃A∈J,∃B∈J,∃C∈J,∃D∈J,i3 (B-A) (C-A) (D-A)≠0
def KH(h:U4 J=3):i9 J:=by
 match J,h with
 |p::t,h=>
  unfold U4 at h;dsimp only at h;split at h
  .cases h
  rename_i b f;split at h
  .cases h
  rename_i up g;split at h
  .rename_i e;obtain⟨i,u⟩:=u7 f;obtain⟨d,v⟩:=u7 g;obtain⟨w,d,j⟩:=aAj.mp d;rw[aDL]at e;obtain⟨w3,k,l⟩:=e;obtain⟨B,m,n⟩:=aAj.mp i;obtain⟨C,o,q⟩:=aAj.mp d;obtain⟨D,r,s⟩:=aAj.mp k;refine⟨p,by simp,B,m,C,o,D,r,?_⟩;rw[n,q,s];have a:dot up w3≠0:=by simpa using l
   rw[<-j,R3]at a;exact a
  cases h
def QV(h:U4 J≠3):¬i9 J:=by
 rintro⟨A,j,B,k,C,l,D,m,s⟩;match J,h,j,k,l,m with
 |p::f,h,j,k,l,m=>
  unfold U4 at h;dsimp only at h;have o:∀X∈p::f,X-p∈(p::f).map (· -p):=λX b=>aAj.mpr ⟨X,b,rfl⟩;have d:∀n:V,n≠0->(∀X∈p::f,dot n (X-p)=0)->False:=λn t r=>by
   have q:∀X∈p::f,dot n (X-A)=0:=λX b=>by have g:=r X b;have i:=r A j;rw[d8]at*;lia
   exact s (y9 t (q B k) (q C l)<|q D m)
  split at h
  .rename_i g;have z:=N7 g;refine d ⟨1,0,0⟩ (λe=>by have:=ir V.x e;simp at this) λX b=>?_;rw[z _ (o X b)];exact C1 _
  rename_i a g;obtain⟨I,v⟩:=u7 g;split at h
  .rename_i i;have z:=N7 i;have w:∀X∈p::f,cr a (X-p)=0:=λX b=>z _ (aAj.mpr ⟨_,o X b,rfl⟩);obtain⟨u,y,L⟩:∃u:V,cr a u≠0/\True:=by
    rcases bO v with q|q|q
    .exact⟨⟨0,1,0⟩,λe=>q (by have:=ir V.z e;simpa using this),trivial⟩
    .exact⟨⟨1,0,0⟩,λe=>q (by have:=ir V.z e;simpa using this),trivial⟩
    exact⟨⟨0,1,0⟩,λe=>q (by have:=ir V.x e;simpa using this),trivial⟩
   refine d (cr a u) y λX b=>?_;rw[R3,jB (w X b)]
  rename_i up i;obtain⟨N,E⟩:=u7 i;split at h
  .exact h rfl
  rename_i H;refine d up E λX b=>?_;by_cases z:dot up (X-p)=0
  .exact z
  exact absurd (aDL.mpr ⟨X-p,o X b,by simpa using z⟩) H
def OF(h:U4 J<2):∀X∈J,∀Y∈J,∀Z∈J,cr (Y-X) (Z-X)=0:=by
 match J,h with
 |[],_=>intro X b;cases b
 |p::d,h=>
  unfold U4 at h;dsimp only at h;have l:∀X∈p::d,X-p∈(p::d).map (· -p):=λX b=>aAj.mpr ⟨X,b,rfl⟩;intro X b Y m Z o;split at h
  .rename_i i;have z:=N7 i;have e:∀W∈p::d,W=p:=λW j=>by have:=z _ (l W j);have f:=ir V.x this;have g:=ir V.y this;have q:=ir V.z this;simp at f g q;exact ext (by lia) (by lia) (by lia)
   rw[e X b,e Y m,t8];apply ext<;>simp
  rename_i a i;obtain⟨E,r⟩:=u7 i;split at h
  .rename_i s;have z:=N7 s;have n:∀X∈p::d,cr a (X-p)=0:=λX b=>z _ (aAj.mpr ⟨_,l X b,rfl⟩);have k:∀U∈p::d,∀W∈p::d,cr (U-W) a=0:=λU t W j=>by have f:=n U t;have g:=n W j;have u:=ir V.x f;have v:=ir V.y f;have w:=ir V.z f;have A:=ir V.x g;have B:=ir V.y g;have C:=ir V.z g;simp at u v w A B C;apply ext<;>simp<;>grind
   exact dJ r (k Y m X b) (k Z o X b)
  split at h<;>lia
def KO(h:2<=U4 J):∃X∈J,∃Y∈J,∃Z∈J,cr (Y-X) (Z-X)≠0:=by
 match J,h with
 |[],h=>exact absurd h (by simp[U4])
 |p::n,h=>
  unfold U4 at h;dsimp only at h;split at h
  .lia
  rename_i a d;obtain⟨e,o⟩:=u7 d;split at h
  .lia
  rename_i up f;obtain⟨b,g⟩:=u7 f;obtain⟨q,b,i⟩:=aAj.mp b;obtain⟨B,j,k⟩:=aAj.mp e;obtain⟨C,l,m⟩:=aAj.mp b;exact⟨p,by simp,B,j,C,l,by rw[k,m,i];exact g⟩
def i9.off(h:i9 J)(f:n≠0):∃Z∈J,dot n Z≠d:=by
 obtain⟨A,g,B,i,C,j,D,k,l⟩:=h;by_cases a:dot n A=d
 .by_cases b:dot n B=d
  .by_cases c:dot n C=d
   .by_cases e:dot n D=d
    .exact absurd (y9 f (by rw[d8];lia) (by rw[d8];lia) (by rw[d8];lia)) l
    exact⟨D,k,e⟩
   exact⟨C,j,c⟩
  exact⟨B,i,b⟩
 exact⟨A,g,a⟩
def i9.below(h:i9 J)(b:n≠0)(f:∀X∈J,dot n X<=d):∃Z∈J,dot n Z<d:=by obtain⟨Z,a,e⟩:=h.off (d:=d) b;exact⟨Z,a,by have:=f Z a;lia⟩
def kk:V:=⟨0,0,1⟩
def f7(m:V)(J:List V):V×V:=
 let u:=b7 m (m+kk) J
 let a:=o7 u.1 u.2 J
 if U4 a=2 then(m,m+kk)else(a.getD 0 0,a.getD 1 0)
def IS:ConeM kk (λw=>0<w.x\/(w.x=0/\0<w.y))where
 add:=λ{u v} d e=>by simp;lia
 mul:=λ{k u} a h=>by
  simp;rcases h with h|⟨h,b⟩
  .exact .inl (aAL a h)
  exact .inr ⟨by rw[h];simp,aAL a b⟩
 irr:=by simp
 inv:=λ{u} k h=>by simpa[kk]using h
def gQ(h:dot n a=0):ConeM a (λw=>dot n w<0)where
 add:=λ{u v} e f=>by rw[u6];lia
 mul:=λ{k u} b h=>by rw[i6];exact aAt b h
 irr:=by rw[C1];lia
 inv:=λ{u} k d=>by rw[u6,i6,h];simpa using d
def G3(m k:V):m+k-m=k:=(by apply ext<;>simp<;>lia)
def W2(T:i9 J)(ho:J.Pairwise (λa b=>d9 (b-a)))(hm:m∈J)(hl:∀X∈J,X=m\/d9 (X-m)):
  IsFace J (b7 (f7 m J).1 (f7 m J).2 J).1 (b7 (f7 m J).1 (f7 m J).2 J).2:=by
 have C:ConeM (m+kk-m) (λw=>0<w.x\/(w.x=0/\0<w.y)):=by rw[G3];exact IS
 have ag:m+kk-m≠0:=by rw[G3];intro e;have:=ir V.z e;simp[kk]at this
 have U:∀P∈J,(0<(P-m).x\/((P-m).x=0/\0<(P-m).y))\/cr (m+kk-m) (P-m)=0:=λP E=>by
  rw[G3];rcases hl P E with e|e
  .right;subst e;rw[t8];apply ext<;>simp
  unfold d9 at e;rcases e with e|⟨e1,e|⟨e2,e3⟩⟩
  .exact .inl (.inl e)
  .exact .inl (.inr ⟨e1,e⟩)
  right;apply ext
  .simp[kk];simp at e2;lia
  .simp[kk];simp at e1;lia
  simp[kk]
 have hx:∃P∈J,0<(P-m).x\/((P-m).x=0/\0<(P-m).y):=by
  by_cases z:∃P∈J,0<(P-m).x\/((P-m).x=0/\0<(P-m).y)
  .exact z
  exfalso;obtain⟨Z,f,e⟩:=T.off (n:=⟨1,0,0⟩) (d:=m.x) (λe=>by have:=ir V.x e;simp at this);have w:=(U Z f).resolve_left λq=>z ⟨Z,f,q⟩;rw[G3]at w;have:=ir V.y w;simp[kk]at this;simp[dot]at e
  lia
 obtain⟨k,g,o1,o2,g0,ge,L,gd,h,sB,sO,sP⟩:=N5 C ag U hx;have i:m∈o7 (b7 m (m+kk) J).1 (b7 m (m+kk) J).2 J:=c5.mpr ⟨hm,gd.symm⟩;have l:k∈o7 (b7 m (m+kk) J).1 (b7 m (m+kk) J).2 J:=c5.mpr ⟨o1,sO⟩;have N:m≠k:=λe=>by subst e;rw[t8]at o2;simp at o2
 by_cases h2:U4 (o7 (b7 m (m+kk) J).1 (b7 m (m+kk) J).2 J)=2
 .have e:f7 m J=(m,m+kk):=by unfold f7;simp only[h2,if_true]
  rw[e];obtain⟨X,H,Y,I,Z,f,hc⟩:=KO (J:=o7 (b7 m (m+kk) J).1 (b7 m (m+kk) J).2 J) (by lia);have H:=c5.mp H;have I:=c5.mp I;have f:=c5.mp f;exact⟨L,h,X,H.1,Y,I.1,Z,f.1,H.2,I.2,f.2,hc⟩
 .
  have h1:U4 (o7 (b7 m (m+kk) J).1 (b7 m (m+kk) J).2 J)≠3:=λz=>by obtain⟨A,hA,B,hB,C,hC,D,hD,hd⟩:=KH z;have hA:=c5.mp hA;have hB:=c5.mp hB;have hC:=c5.mp hC;have hD:=c5.mp hD;exact hd (y9 L.ne (by rw[d8];lia) (by rw[d8];lia) (by rw[d8];lia))
  have ah:U4 (o7 (b7 m (m+kk) J).1 (b7 m (m+kk) J).2 J)<2:=by
   have:U4 (o7 (b7 m (m+kk) J).1 (b7 m (m+kk) J).2 J)<=3:=by
    generalize o7 (b7 m (m+kk) J).1 (b7 m (m+kk) J).2 J=t;unfold U4;split
    .lia
    dsimp only;split
    .lia
    split
    .lia
    split<;>lia
   lia
  have o:=OF ah;have e:f7 m J=((o7 (b7 m (m+kk) J).1 (b7 m (m+kk) J).2 J).getD 0 0,(o7 (b7 m (m+kk) J).1 (b7 m (m+kk) J).2 J).getD 1 0):=by unfold f7;simp only[h2,if_false]
  rw[e];have ord:(o7 (b7 m (m+kk) J).1 (b7 m (m+kk) J).2 J).Pairwise (λa b=>d9 (b-a)):=aFY _ ho;have j:∀X,X∈o7 (b7 m (m+kk) J).1 (b7 m (m+kk) J).2 J↔X∈J/\dot (b7 m (m+kk) J).1 X=(b7 m (m+kk) J).2:=λX=>c5;generalize o7 (b7 m (m+kk) J).1 (b7 m (m+kk) J).2 J=t at*
  match t,i,l with
  |[],i,_=>cases i
  |[x],i,l=>simp at i l;exact absurd (i.trans l.symm) N
  |x::y::r,i,l=>
   dsimp only[List.getD_cons_zero,List.getD_cons_succ];have p:d9 (y-x):=(aAy.mp ord).1 y (by simp);have ox:=(j x).mp (by simp);have oy:=(j y).mp (by simp);have s:y-x≠0:=λz=>by rw[z]at p;exact A0.irr p
   have na:dot (b7 m (m+kk) J).1 (y-x)=0:=by rw[d8];lia
   have C2:=gQ na;obtain⟨Z,f,hz⟩:=T.below L.ne h;obtain⟨u,g2,p1,p2,p0,pe,pp,pd,v,O,Q,sP2⟩:=N5 C2 s (J:=J) (λP E=>by
    have:=h P E;by_cases q:dot (b7 m (m+kk) J).1 P<(b7 m (m+kk) J).2
    .exact .inl (by rw[d8];lia)
    exact .inr (o x (by simp) y (by simp) P ((j P).mpr ⟨E,by lia⟩))) ⟨Z,f,by rw[d8];lia⟩
   exact⟨pp,v,x,ox.1,y,oy.1,u,p1,pd.symm,O,Q,C2.ad1 s p2⟩
def bJ{a b:V}(h:a-b=0):a=b:=by have d:=ir V.x h;have e:=ir V.y h;have f:=ir V.z h;simp at d e f;exact ext (by lia) (by lia) (by lia)
def IsFace.aa2(f:J.Pairwise (λa b=>d9 (b-a)))(h:IsFace J n d):Sheet n (o7 n d J)where
 nz:=h.prim.ne
 pl:=λX g Y i=>by have:=(c5.mp g).2;have:=(c5.mp i).2;rw[d8];lia
 ord:=aFY _ f
 two:=by obtain⟨A,j,B,k,C,l,a,b,c,e⟩:=h.three;refine⟨A,c5.mpr ⟨j,a⟩,B,c5.mpr ⟨k,b⟩,λz=>e ?_⟩;subst z;rw[t8];apply ext<;>simp
def IsFace.ac7{J:List V}{n:V}{d:Int}(h:IsFace J n d){a b:V}(f:EdgeOf n (λX=>X∈o7 n d J) a b):∃X∈o7 n d J,0<i3 n (b-a) (X-a):=by
 by_cases z:∃X∈o7 n d J,0<i3 n (b-a) (X-a)
 .exact z
 exfalso;have v:=h.prim.ne;obtain⟨pa,da⟩:=c5.mp f.p;obtain⟨pb,db⟩:=c5.mp f.q;have g:dot n (b-a)=0:=by rw[d8];lia
 have w:b-a≠0:=λe=>f.ne (bJ e).symm;have k:∀X∈J,dot n X=d->cr (b-a) (X-a)=0:=λX i j=>by have r:=c5.mpr ⟨i,j⟩;have l:=f.left X r;have l':¬0<i3 n (b-a) (X-a):=λq=>z ⟨X,r,q⟩;exact W0 v g (by rw[d8];lia) (by lia)
 obtain⟨A,s,B,E,C,H,t,I,L,e⟩:=h.three;have u:∀X∈J,dot n X=d->∀Y∈J,dot n Y=d->cr (X-Y) (b-a)=0:=λX i j Y N O=>by have m:=k X i j;have o:=k Y N O;have Q:=ir V.x m;have T:=ir V.y m;have U:=ir V.z m;have b1:=ir V.x o;have b2:=ir V.y o;have b3:=ir V.z o;simp at Q T U b1 b2 b3;apply ext<;>simp<;>grind
 exact e (dJ w (u B E I A s t)<|u C H L A s t)
def NU(l:i9 J)(f:IsFace J n d)(g:IsFace J m e)(i:EdgeOf n (λX=>X∈o7 n d J) a b)(h:EdgeOf m (λX=>X∈o7 m e J) b a)(j:X∈o7 n d J)(k:0<i3 n (b-a) (X-a)):dot m X<e:=by
 obtain⟨o,r⟩:=c5.mp j;have A:=g.sup X o;by_cases z:dot m X=e
 .exfalso;obtain⟨B,s⟩:=c5.mp i.p;obtain⟨pb,t⟩:=c5.mp i.q;obtain⟨_,u⟩:=c5.mp h.q;obtain⟨_,v⟩:=c5.mp h.p;obtain⟨Z,w,x⟩:=l.below f.prim.ne f.sup;have y:cr (b-a) (X-a)≠0:=λq=>by unfold i3 at k;rw[q,C1]at k;lia
  obtain⟨rfl,rfl⟩:=iY f.prim g.prim f.sup g.sup s t r u v z y w x;have:=h.left X j;have C:i3 n (a-b) (X-b)=-i3 n (b-a) (X-a):=by simp[i3,dot];grind
  lia
 lia
def yK:List V->V
 |[]=>0
 |X::l=>X+yK l
theorem pI(n:V):∀l:List V,dot n (yK l)=(l.map (dot n)).sum
 |[]=>C1 n
 |X::l=>by simp only[yK,aAk,aAZ];rw[u6,pI n l]
theorem ES{α:Type}(f g:α->Int):∀l:List α,(∀x∈l,f x<=g x)->(l.map f).sum<=(l.map g).sum
 |[],_=>aBy _
 |x::l,h=>by
  simp only[aAk,aAZ];have:=h x (by simp);have:=ES f g l (λy a=>h y (aAe _ a))
  lia
theorem FD{α:Type}(f g:α->Int):∀l:List α,(∀x∈l,f x<=g x)->(∃x∈l,f x<g x)->(l.map f).sum<(l.map g).sum
 |[],_,⟨x,b,_⟩=>by cases b
 |x::l,h,⟨y,a,d⟩=>by
  simp only[aAk,aAZ];have i:=h x (by simp);have j:=ES f g l (λy a=>h y (aAe _ a));rcases aAc.mp a with e|e
  .subst e;lia
  have:=FD f g l (λy a=>h y (aAe _ a)) ⟨y,e,d⟩
  lia
theorem aK{α:Type}(c:Int):∀l:List α,(l.map λ_=>c).sum=(l.length:Int)*c
 |[]=>by simp
 |x::l=>by simp only[aAk,aAZ,aAp];rw[aK c l];push_cast;grind
def C6(J:List V)(X:V):V:=(J.length:Int)*X-yK J
def T9(J:List V)(n:V)(d:Int):Int:=(J.length:Int)*d-dot n (yK J)
def wO(J:List V)(n X:V):dot n (C6 J X)=(J.length:Int)*dot n X-dot n (yK J):=by unfold C6;rw[d8,i6]
def fA(a:i9 J)(b:n≠0)(h:∀X∈J,dot n X<=d):0<T9 J n d:=by
 unfold T9;rw[pI,<-aK];have:=FD (dot n) (λ_=>d) J h (a.below b h)
 lia
def len_pos(a:i9 J):0<(J.length:Int):=by
 obtain⟨A,b,_⟩:=a;have:0<J.length:=aDj b
 lia
def aE(h:dot n X=d):dot n (C6 J X)=T9 J n d:=by rw[wO,h];rfl
def pA(h:dot n X<=d):dot n (C6 J X)<=T9 J n d:=by
 rw[wO];unfold T9;have:=aAB h (show(0:Int)<=J.length by lia)
 lia
def MT(a:0<(J.length:Int))(h:dot n X<d):dot n (C6 J X)<T9 J n d:=by
 rw[wO];unfold T9;have:=aEM h a
 lia
def YT(J:List V)(a b X:V):i3 (C6 J a) (C6 J b) (C6 J X)=(J.length:Int)*(J.length:Int)*dot (C6 J a) (cr (b-a) (X-a)):=by unfold C6;generalize(J.length:Int)=N;generalize yK J=s;simp[i3,dot];grind
def yT(h:cr w c=0)(x y:V):dot w y*dot c x=dot w x*dot c y:=by
 have e:dot w y*dot c x-dot w x*dot c y=dot (cr w c) (cr y x):=by simp[dot];grind
 rw[h]at e;have:dot 0 (cr y x)=0:=by simp[dot]
 lia
def GU(e:i9 J)(f:IsFace J n d)(j:dot n a=d)(o:dot n b=d)(r:dot n X=d)(h:0<i3 n (b-a) (X-a)):0<i3 (C6 J a) (C6 J b) (C6 J X):=by
 rw[YT];have g:=len_pos e;refine aAL (aAL g g) ?_;have i:=f.prim.ne;have p:cr n (cr (b-a)<|X-a)=0:=B1 (by rw[d8];lia) (by rw[d8];lia);have q:=yT p n (C6 J a);have k:0<dot n (C6 J a):=by rw[aE j];exact fA e i f.sup
 have l:0<dot (cr (b-a)<|X-a) n:=by rw[aH];exact h
 have s:=aAL k l;have m:=u4 i;rw[aH (C6 J a)];by_cases z:0<dot (cr (b-a)<|X-a) (C6 J a)
 .exact z
 exfalso;have:dot n n*dot (cr (b-a)<|X-a) (C6 J a)<=0:=by have:=aAB (show dot (cr (b-a)<|X-a) (C6 J a)<=0 by lia) (aAK m);simpa using this
 lia
def YK(f:i9 J)(g:IsFace J n d)(j:IsFace J m e)(h:EdgeOf n (λX=>X∈o7 n d J) a b)(k:EdgeOf m (λX=>X∈o7 m e J) b a)(Q:dot m B*T9 J n d<=dot n B*T9 J m e):0<=i3 (C6 J a) (C6 J b) B:=by
 obtain⟨X,l,o⟩:=g.ac7 h;have w:=NU f g j h k l o;obtain⟨T,t⟩:=c5.mp l;obtain⟨U,u⟩:=c5.mp h.p;obtain⟨pb,v⟩:=c5.mp h.q;obtain⟨_,x⟩:=c5.mp k.q;obtain⟨_,A⟩:=c5.mp k.p;have c0:=fA f g.prim.ne g.sup;have Y:=fA f j.prim.ne j.sup;have C:=GU f g u v t o;by_cases z:0<=i3 (C6 J a) (C6 J b) B
 .exact z
 exfalso;have i:∀y,dot (T9 J n d*m-T9 J m e*n) y=T9 J n d*dot m y-T9 J m e*dot n y:=λy=>by rw[aH,d8,i6,i6,aH y m,aH y n]
 have E:dot (T9 J n d*m-T9 J m e*n) (C6 J a)=0:=by rw[i,aE u,aE x];grind
 have H:dot (T9 J n d*m-T9 J m e*n) (C6 J b)=0:=by rw[i,aE v,aE A];grind
 have I:dot (T9 J n d*m-T9 J m e*n) (C6 J X)<0:=by
  rw[i,aE t];have L:=MT (len_pos f) w;have:=aEM L c0;have e1:T9 J m e*T9 J n d=T9 J n d*T9 J m e:=aGD _ _
  lia
 have p:=yT (B1 E H) (C6 J X) B;have N:dot (cr (C6 J a)<|C6 J b) (C6 J X)=i3 (C6 J a) (C6 J b) (C6 J X):=R3 _ _ _;have O:dot (cr (C6 J a)<|C6 J b) B=i3 (C6 J a) (C6 J b) B:=R3 _ _ _;rw[N,O]at p;have r:0<dot (T9 J n d*m-T9 J m e*n) (C6 J X)*i3 (C6 J a) (C6 J b) B:=aBD I (by lia);rw[<-p]at r;have s:0<dot (T9 J n d*m-T9 J m e*n) B:=by
  by_cases q:0<dot (T9 J n d*m-T9 J m e*n) B
  .exact q
  have:=aAS (show dot (T9 J n d*m-T9 J m e*n) B<=0 by lia) (aAK C);simp at this;lia
 rw[i]at s;have e4:dot m B*T9 J n d=T9 J n d*dot m B:=aGD _ _;have e5:dot n B*T9 J m e=T9 J m e*dot n B:=aGD _ _
 lia
def CJ{a b c d e f:Int}(g:0<b)(h:0<d)(i:0<f)(j:a*d<=c*b)(k:c*f<=e*d):a*f<=e*b:=by
 have m:=aAS j (aAK i);have n:=aAS k (aAK g);have l:(a*f)*d<=(e*b)*d:=by grind
 exact aEN l h
theorem GO{α:Type}(p q:α->Int):∀(l:List α),l≠[]->(∀x∈l,0<q x)->∃x∈l,∀y∈l,p y*q x<=p x*q y
 |[],h,_=>absurd rfl h
 |[x],_,_=>⟨x,by simp,λy d=>by simp at d;subst d;exact aBy _⟩
 |x::y::l,_,b=>by
  obtain⟨z,f,h⟩:=GO p q (y::l) (by simp) (λw a=>b w (aAe _ a));by_cases c:p x*q z<=p z*q x
  .refine⟨z,aAe _ f,λw a=>?_⟩;rcases aAc.mp a with e|e
   .subst e;exact c
   exact h w e
  refine⟨x,by simp,λw a=>?_⟩;rcases aAc.mp a with e|e
  .subst e;exact aBy _
  exact CJ (b w a) (b z<|aAe _ f) (b x (by simp)) (h w e) (by lia)
theorem a0x(h:V->Int):∀(x:V) (l:List V),0<=h x->(∀z,(x::l).getLast?=some z->h z<=0)->l≠[]->∃u v,(u,v)∈j7 (x::l)/\0<=h u/\h v<=0
 |x,[],_,_,b=>absurd rfl b
 |x,y::r,d,a,_=>by
  by_cases c:h y<=0
  .exact⟨x,y,by simp[j7],d,c⟩
  match r,a with
  |[],a=>exact absurd (a y rfl) c
  |z::r,a=>obtain⟨u,v,m,p⟩:=a0x h y (z::r) (by lia) (λw e=>a w (by rw[aBl];exact e)) (by simp);exact⟨u,v,by simp only[j7]at m⊢;exact aAe _ m,p⟩
theorem mI:∀(l:List V) (x z w:V),(x::l).getLast?=some z->(z,w)∈j7 (x::l++[w])
 |[],x,z,w,h=>by simp at h;subst h;simp[j7]
 |y::l,x,z,w,h=>by rw[aBl]at h;have:=mI l y z w h;simp only[aAO,j7]at this⊢;exact aAe _ this
theorem bZ:∀(l:List V) (x w:V),∀e∈j7 (x::l),e∈j7 (x::l++[w])
 |[],x,w,e,h=>by simp[j7]at h
 |y::l,x,w,e,h=>by
  simp only[aAO,j7]at h⊢;rcases aAc.mp h with q|q
  .subst q;simp
  exact aAe _ (bZ l y w e q)
def I9(g:J.Pairwise (λa b=>d9 (b-a)))(f:IsFace J n d):∃r s t l,j0 n (o7 n d J)=r::s::t::l:=by
 have S:=f.aa2 g;obtain⟨r,l,e,_⟩:=S.aa7;match l,e with
 |[],e=>
  have h:(r,r)∈u9 (j0 n<|o7 n d J):=by rw[e];simp[u9]
  exact absurd rfl (S.pair h).ne
 |[s],e=>
  have i:(r,s)∈u9 (j0 n<|o7 n d J):=by rw[e];simp[u9]
  have j:(s,r)∈u9 (j0 n<|o7 n d J):=by rw[e];simp[u9]
  have k:=S.pair i;have m:=S.pair j;obtain⟨X,o,p⟩:=f.ac7 k;have:=m.left X o;have q:i3 n (r-s) (X-s)=-i3 n (s-r) (X-r):=by simp[i3,dot];grind
  lia
 |s::t::l,e=>exact⟨r,s,t,l,e⟩
def tE(N:i9 J)(ho:J.Pairwise (λa b=>d9 (b-a)))(fs:List (V×Int))(ag:fs≠[])(hf:∀f∈fs,IsFace J f.1 f.2)(hc:∀f∈fs,∀a b,EdgeOf f.1 (λX=>X∈o7 f.1 f.2 J) a b->∃g∈fs,EdgeOf g.1 (λX=>X∈o7 g.1 g.2 J) b a)(w:IsFace J n d):(n,d)∈fs:=by
 obtain⟨B,hBd⟩:∃B,B=yK ((o7 n d J).map (C6 J)):=⟨_,rfl⟩;have dB:∀m,dot m B=((o7 n d J).map λX=>dot m (C6 J X)).sum:=λm=>by rw[hBd,pI,aBd];rfl
 have cn:=fA N w.prim.ne w.sup;have ub:∀m e,(∀X∈J,dot m X<=e)->dot m B<=((o7 n d J).length:Int)*T9 J m e:=λm e hm=>by rw[dB,<-aK];exact ES _ _ _ λX i=>pA (hm X (c5.mp i).1)
 have eB:dot n B=((o7 n d J).length:Int)*T9 J n d:=by rw[dB,<-aK];congr 1;exact aDP λX i=>aE (c5.mp i).2
 obtain⟨⟨m,e⟩,hm,htop⟩:=GO (λf:V×Int=>dot f.1 B) (λf=>T9 J f.1 f.2) fs ag λf h=>fA N (hf f h).prim.ne (hf f h).sup;have j:=hf _ hm;have O:∀a b,EdgeOf m (λX=>X∈o7 m e J) a b->0<=i3 (C6 J a) (C6 J b) B:=λa b hab=>by obtain⟨g,hg,hg2⟩:=hc _ hm a b hab;exact YK N j (hf g hg) hab hg2 (htop g hg)
 have S:=j.aa2 ho;obtain⟨r,s,t,l,er⟩:=I9 ho j;have nd:=S.aa3;have pr:=λ{P Q}=>S.aa1 (P:=P) (Q:=Q);rw[er]at pr nd;have rm:r∈j0 m (o7 m e J):=by rw[er];simp
 have on:∀X∈r::s::t::l,dot m X=e:=λX i=>by rw[<-er]at i;exact(c5.mp<|S.aa4 i).2
 obtain⟨z,hz⟩:∃z,(s::t::l).getLast?=some z:=by simp[aES]
 have c1:(r,s)∈u9 (r::s::t::l):=by rw[W7];simp[j7]
 have c2:(z,r)∈u9 (r::s::t::l):=by rw[W7];exact mI _ _ _ _ (by rw[aBl];exact hz)
 have w1:=O _ _ (pr.mp c1);have w2:=O _ _ (pr.mp c2);obtain⟨u,v,T,hu,hv⟩:=a0x (λX=>i3 (C6 J r) (C6 J X) B) s (t::l) w1 (λy hy=>by
  have:y=z:=Option.some.inj (hy.symm.trans hz);subst this;have e1:i3 (C6 J r) (C6 J y) B=-i3 (C6 J y) (C6 J r) B:=by simp[i3,dot];grind
  lia) (by simp)
 have c3:(u,v)∈u9 (r::s::t::l):=by rw[W7];have:=bZ (t::l) s r _ T;simp only[aAO,j7]at this⊢;exact aAe _ this
 have g3:=pr.mp c3;have U:u∈s::t::l/\v∈s::t::l:=by
  have:=T;have hh:∀(l:List V) (p q:V),(p,q)∈j7 l->p∈l/\q∈l:=λl=>by
   induction l with
   |nil=>intro p q h;simp[j7]at h
   |cons x l ih=>
    intro p q h;match l,h,ih with
    |[],h,_=>simp[j7]at h
    |y::l,h,ih=>
     simp only[j7]at h;rcases aAc.mp h with c|c
     .cases c;simp
     have:=ih p q c;exact⟨aAe _ this.1,aAe _ this.2⟩
  exact hh _ _ _ T
 have nr:=(aAH.mp nd).1;have ru:r≠u:=λq=>by subst q;exact nr U.1
 have rv:r≠v:=λq=>by subst q;exact nr U.2
 have st:=S.strict g3 rm ru rv;have du:=on u (aAe _ U.1);have dv:=on v (aAe _ U.2);have dr:=on r (by simp);have D0:=GU N j du dv dr st;have w3:=O _ _ g3;have k:=EU B (C6 J r) (C6 J u) (C6 J v);have a1:i3 B (C6 J u) (C6 J v)=i3 (C6 J u) (C6 J v) B:=by simp[i3,dot];grind
 have a2:i3 B (C6 J v) (C6 J r)=-i3 (C6 J r) (C6 J v) B:=by simp[i3,dot];grind
 have a3:i3 B (C6 J r) (C6 J u)=i3 (C6 J r) (C6 J u) B:=by simp[i3,dot];grind
 have a4:i3 (C6 J r) (C6 J u) (C6 J v)=i3 (C6 J u) (C6 J v) (C6 J r):=by simp[i3,dot];grind
 rw[a1,a2,a3,a4]at k;obtain⟨E,hal⟩:∃E,E=i3 (C6 J u) (C6 J v) B:=⟨_,rfl⟩;obtain⟨H,yv⟩:∃H,H=-i3 (C6 J r) (C6 J v) B:=⟨_,rfl⟩;obtain⟨I,hga⟩:∃I,I=i3 (C6 J r) (C6 J u) B:=⟨_,rfl⟩;obtain⟨o,hDe⟩:∃o,o=i3 (C6 J u) (C6 J v) (C6 J r):=⟨_,rfl⟩;rw[<-hal,<-yv,<-hga,<-hDe]at k;have al0:0<=E:=by lia
 have be0:0<=H:=by lia
 have ga0:0<=I:=by lia
 have De0:0<o:=by lia
 have cd:∀f:V,o*dot f B=I*dot f (C6 J v)+E*dot f (C6 J r)+H*dot f (C6 J u):=λf=>by
  have:=ir (dot f) k;rw[u6,u6,i6,i6,i6,i6]at this
  lia
 have q1:=cd m;rw[aE dr,aE du,aE dv]at q1;have q2:=cd n;have cm:=fA N j.prim.ne j.sup;have pt:∀X∈r::s::t::l,X∈J:=λX i=>by rw[<-er]at i;exact(c5.mp<|S.aa4 i).1
 have r1:=pA (J:=J) (w.sup r (pt r (by simp)));have r2:=pA (J:=J) (w.sup u<|pt u<|aAe _ U.1);have r3:=pA (J:=J) (w.sup v<|pt v<|aAe _ U.2);have s1:=aAB r1 al0;have s2:=aAB r2 be0;have s3:=aAB r3 ga0;obtain⟨L,hL⟩:∃L:Int,L=((o7 n d J).length:Int):=⟨_,rfl⟩;have ub1:=ub m e j.sup;rw[<-hL]at eB ub1;have k1:o*L<=E+H+I:=by
  have:(o*L)*T9 J n d<=(E+H+I)*T9 J n d:=by
   rw[eB]at q2;have e1:o*L*T9 J n d=o*(L*T9 J n d):=Int.mul_assoc _ _ _;have e2:(E+H+I)*T9 J n d=E*T9 J n d+H*T9 J n d+I*T9 J n d:=by grind
   lia
  exact aEN this cn
 have k2:o*dot m B=(E+H+I)*T9 J m e:=by rw[q1];grind
 have k3:(o*L)*T9 J m e<=o*dot m B:=by rw[k2];exact aAS k1 (aAK cm)
 have k4:L*T9 J m e<=dot m B:=by rw[Int.mul_assoc]at k3;exact aFb k3 De0
 have all:∀X∈o7 n d J,dot m X=e:=λX i=>by
  have le:dot m X<=e:=j.sup X (c5.mp i).1;by_cases z:dot m X=e
  .exact z
  exfalso;have:=FD (λX=>dot m (C6 J X)) (λ_=>T9 J m e) (o7 n d J) (λY hY=>pA (j.sup Y (c5.mp hY).1)) ⟨X,i,MT (len_pos N) (by lia)⟩;rw[<-dB,aK,<-hL]at this
  lia
 obtain⟨A,hA,B',hB',C,hC,ea,eb,ec,hcr⟩:=w.three;obtain⟨Z,hZ,hz⟩:=N.below w.prim.ne w.sup;obtain⟨rfl,rfl⟩:=iY w.prim j.prim w.sup j.sup ea eb ec (all A<|c5.mpr ⟨hA,ea⟩) (all B'<|c5.mpr ⟨hB',eb⟩) (all C<|c5.mpr ⟨hC,ec⟩) hcr hZ hz;exact hm
def c8(J:List V)(f:V×Int):List V:=j0 f.1 (o7 f.1 f.2 J)
structure LInv(J:List V)(p0:V×V)(fs:List (V×Int))(walked:V×V->Prop)(waiting:List (V×V)):Prop where
 face:∀f∈fs,IsFace J f.1 f.2
 nd:fs.Nodup
 wk:∀e,walked e↔∃f∈fs,e∈u9 (c8 J f)
 cl:∀f∈fs,∀a b,(a,b)∈u9 (c8 J f)->(∃g∈fs,(b,a)∈u9 (c8 J g))\/(b,a)∈waiting
 wt:∀p∈waiting,(∃f∈fs,(p.2,p.1)∈u9 (c8 J f))\/(fs=[]/\p=p0)
 ne:fs=[]->waiting=[p0]
structure Good(J:List V)(m:V):Prop where
 solid:i9 J
 ord:J.Pairwise (λa b=>d9 (b-a))
 mem:m∈J
 least:∀X∈J,X=m\/d9 (X-m)
section
variable{J:List V}{m:V} (G:Good J m) {fs:List (V×Int)}{walked:V×V->Prop}{waiting rest:List (V×V)}{p:V×V}
include G
theorem BY:LInv J (f7 m J) [] (λ_=>False) [f7 m J]where
 face:=λf h=>by cases h
 nd:=aCU
 wk:=λe=>⟨λh=>h.elim,λ⟨f,h,_⟩=>by cases h⟩
 cl:=λf h=>by cases h
 wt:=λq h=>.inr ⟨rfl,by simpa using h⟩
 ne:=λ_=>rfl
theorem SN(h:LInv J (f7 m J) fs walked waiting)(j:waiting=rest++[p])(k:walked p):LInv J (f7 m J) fs walked rest:=by
 have i:∀q,q∈waiting↔q=p\/q∈rest:=λq=>by rw[j];simp[or_comm]
 obtain⟨l,d,n⟩:=(h.wk p).mp k;have o:fs≠[]:=λe=>by subst e;cases d
 refine⟨h.face,h.nd,h.wk,λf r a b g=>?_,λq s=>h.wt q ((i q).mpr (.inr s)),λe=>absurd e o⟩;rcases h.cl f r a b g with q|q
 .exact .inl q
 rcases(i (b,a)).mp q with z|z
 .subst z;exact .inl ⟨l,d,n⟩
 exact .inr z
theorem BN(h:LInv J (f7 m J) fs walked waiting)(e:p∈waiting)(g:¬walked p):IsFace J (b7 p.1 p.2 J).1 (b7 p.1 p.2 J).2/\b7 p.1 p.2 J∉fs/\(fs≠[]->p∈u9 (c8 J (b7 p.1 p.2 J))):=by
 rcases h.wt p e with⟨f,i,j⟩|⟨k,l⟩
 .have a:=h.face f i;have S:=a.aa2 G.ord;have n:=S.aa1.mp j;obtain⟨b,o⟩:=uJ a.prim.ne a.sup (G.solid.below a.prim.ne a.sup) n;have q:=b.aa2 G.ord;have d:p∈u9 (c8 J<|b7 p.1 p.2 J):=q.aa1.mpr o;exact⟨b,λz=>g ((h.wk p).mpr ⟨_,z,d⟩),λ_=>d⟩
 subst k l;exact⟨W2 G.solid G.ord G.mem G.least,by simp,λz=>absurd rfl z⟩
theorem OA(h:LInv J (f7 m J) fs walked waiting)(n:waiting=rest++[p])(r:¬walked p){walked':V×V->Prop}(s:∀e,walked' e↔walked e\/e∈u9 (c8 J (b7 p.1 p.2 J)))(k:∀q,q∈waiting'↔q∈rest\/(q.2,q.1)∈u9 (c8 J (b7 p.1 p.2 J))):
  LInv J (f7 m J) (fs++[b7 p.1 p.2 J]) walked' waiting':=by
 have l:∀q,q∈waiting↔q=p\/q∈rest:=λq=>by rw[n];simp[or_comm]
 obtain⟨t,u,v⟩:=BN G h ((l p).mpr (.inl rfl)) r;refine⟨λf d=>?_,?_,λe=>?_,λf d a b j=>?_,λq w=>?_,λe=>by simp at e⟩
 .rcases aAD.mp d with z|z
  .exact h.face f z
  have:f=b7 p.1 p.2 J:=by simpa using z
  subst this;exact t
 .rw[aCH];exact⟨h.nd,by simp,λa x b A=>λe=>by
   have:b=b7 p.1 p.2 J:=by simpa using A
   subst e this;exact u x⟩
 .rw[s,h.wk];constructor
  .rintro(⟨f,d,i⟩|i)
   .exact⟨f,aBk _ d,i⟩
   exact⟨_,aAM _ (by simp),i⟩
  rintro⟨f,d,i⟩;rcases aAD.mp d with z|z
  .exact .inl ⟨f,z,i⟩
  have:f=b7 p.1 p.2 J:=by simpa using z
  subst this;exact .inr i
 .rcases aAD.mp d with z|z
  .rcases h.cl f z a b j with⟨g,B,e⟩|q
   .exact .inl ⟨g,aBk _ B,e⟩
   rcases(l (b,a)).mp q with y|y
   .have C:fs≠[]:=λe=>by subst e;cases z
    exact .inl ⟨b7 p.1 p.2 J,aAM _ (by simp),by rw[y];exact v C⟩
   exact .inr ((k _).mpr (.inl y))
  have:f=b7 p.1 p.2 J:=by simpa using z
  subst this;exact .inr ((k _).mpr (.inr j))
 rcases(k q).mp w with z|z
 .rcases h.wt q ((l q).mpr (.inr z))with⟨f,d,e⟩|⟨E,H⟩
  .exact .inl ⟨f,aBk _ d,e⟩
  have:=h.ne E;exfalso;rw[n]at this;have o:=ir List.length this;simp at o;subst o;cases z
 exact .inl ⟨_,aAM _ (by simp),z⟩
theorem SS(h:LInv J (f7 m J) fs walked []):fs≠[]/\∀n d,(n,d)∈fs↔IsFace J n d:=by
 have k:fs≠[]:=λe=>by have:=h.ne e;cases this
 refine⟨k,λn d=>⟨λi=>h.face _ i,λi=>?_⟩⟩;refine tE G.solid G.ord fs k h.face (λf i a b j=>?_) i;have S:=(h.face f i).aa2 G.ord;rcases h.cl f i a b (S.aa1.mpr j)with⟨g,l,e⟩|q
 .exact⟨g,l,((h.face g l).aa2 G.ord).aa1.mp e⟩
 cases q
end
def tK(h:IsFace J n d):∃A∈J,∃B∈J,∃C∈J,cr (B-A) (C-A)≠0/\j1 A B C=(n,d):=by
 obtain⟨A,r,B,f,C,i,a,b,c,e⟩:=h.three;have j:∀B∈J,∀C∈J,dot n B=d->dot n C=d->cr (B-A) (C-A)≠0->0<dot n (cr (B-A)<|C-A)->j1 A B C=(n,d):=λB f C i b c e m=>by
  obtain⟨g,w,E,H,I⟩:=pU e;have p:cr n (cr (B-A)<|C-A)=0:=B1 (by rw[d8];lia) (by rw[d8];lia);obtain⟨k,l,s,o⟩:=A6 h.prim.ne p;have L:0<l:=by
   have q:=ir (dot n) o;rw[i6,i6]at q;have:=aAL s m;have N:=u4 h.prim.ne;by_cases z:0<l
   .exact z
   have:=aAS (show l<=0 by lia) (aAK N);simp at this;lia
  rw[E]at o;have O:(k*g)*(j1 A B C).1=l*n:=by rw[<-o];apply ext<;>simp<;>grind
  have t:=xL H h.prim (aAL s w) L O;refine aEv t ?_;rw[I,t];exact a
 by_cases z:0<dot n (cr (B-A)<|C-A)
 .exact⟨A,r,B,f,C,i,e,j B f C i b c e z⟩
 have u:cr (C-A) (B-A)=-cr (B-A) (C-A):=by apply ext<;>simp<;>grind
 have v:cr (C-A) (B-A)≠0:=λq=>e (by rw[u]at q;have Q:=ir V.x q;have T:=ir V.y q;have U:=ir V.z q;simp only[a0s,a2l,a0z,eG,eS,dI]at Q T U;exact ext (by simp only[eG];lia) (by simp only[eS];lia) (by simp only[dI];lia))
 have Y:dot n (cr (B-A)<|C-A)≠0:=λq=>e (W0 h.prim.ne (by rw[d8];lia) (by rw[d8];lia) q);refine⟨A,r,C,i,B,f,v,j C i B f c b v ?_⟩;have:dot n (cr (C-A)<|B-A)=-dot n (cr (B-A)<|C-A):=by rw[u];simp[dot];grind
 lia
def cands(J:List V):List (V×Int):=J.flatMap λA=>J.flatMap λB=>J.map λC=>j1 A B C
def LY(J:List V):(cands J).length=J.length*(J.length*J.length):=by
 unfold cands;have h:∀(l:List V) (f:V->List (V×Int)) (k:Nat),(∀x,(f x).length=k)->(l.flatMap f).length=l.length*k:=λl f k a=>by
  induction l with
  |nil=>simp
  |cons x l b=>rw[aFh,aAz,b,a,aAp,Nat.succ_mul,Nat.add_comm]
 rw[h J _ (J.length*J.length) λA=>h J _ J.length λB=>by simp]
theorem B6{α:Type}[DecidableEq α]:∀{l m:List α},l.Nodup->(∀x∈l,x∈m)->l.length<=m.length
 |[],_,_,_=>aAY _
 |x::l,m,h,a=>by
  have b:=a x (by simp);have d:=aAH.mp h;have:=B6 (l:=l) (m:=m.erase x) d.2 (λy f=>by
   have ne:y≠x:=λe=>by subst e;exact d.1 f
   exact(aFZ ne).mpr (a y<|aAe _ f))
  rw[aFi b]at this;have:0<m.length:=aDj b;simp only[aAp]
  lia
def JX{J:List V}{fs:List (V×Int)}(a:fs.Nodup)(b:∀f∈fs,IsFace J f.1 f.2):fs.length<=J.length*(J.length*J.length):=by rw[<-LY];refine B6 a λf h=>?_;obtain⟨A,d,B,g,C,i,_,e⟩:=tK (b f h);unfold cands;rw[aAV];refine⟨A,d,?_⟩;rw[aAV];exact⟨B,g,aAj.mpr ⟨C,i,e⟩⟩
section
variable{J:List V} (hs:i9 J) (ho:J.Pairwise (λa b=>d9 (b-a)))
include hs ho
theorem Y9(e:IsFace J n d)(h:EdgeOf n (λX=>X∈o7 n d J) a b):
 IsFace J (b7 b a J).1 (b7 b a J).2/\EdgeOf (b7 b a J).1 (λX=>X∈o7 (b7 b a J).1 (b7 b a J).2 J) b a:=uJ e.prim.ne e.sup (hs.below e.prim.ne e.sup) h
theorem bG(e:IsFace J n d)(f:EdgeOf n (λX=>X∈o7 n d J) a b)(g:EdgeOf n (λX=>X∈o7 n d J) b a):False:=by
 obtain⟨X,h,i⟩:=e.ac7 f;have:=g.left X h;have j:i3 n (a-b) (X-b)=-i3 n (b-a) (X-a):=by simp[i3,dot];grind
 lia
theorem bR(a:IsFace J n d)(m:X∈c8 J (n,d)):∃g h:V×Int,IsFace J g.1 g.2/\IsFace J h.1 h.2/\(n,d)≠g/\(n,d)≠h/\g≠h/\dot n X=d/\dot g.1 X=g.2/\dot h.1 X=h.2:=by
 have S:=a.aa2 ho;obtain⟨Y,s⟩:=V2 S m;obtain⟨W,o⟩:=qW S m;have b:=S.aa1.mp s;have i:=S.aa1.mp o;obtain⟨k,f⟩:=Y9 hs ho a b;obtain⟨t,j⟩:=Y9 hs ho a i;have l:W≠Y:=λe=>by subst e;exact bG hs ho a b i
 refine⟨_,_,k,t,λe=>?_,λe=>?_,λe=>?_,(c5.mp b.p).2,(c5.mp f.q).2,(c5.mp j.p).2⟩
 .rw[<-e]at f;exact bG hs ho a b f
 .rw[<-e]at j;exact bG hs ho a i j
 .
  have st:=S.strict b (fB S o).1 (i.ne) l;have u:=(c5.mp i.p).2;have v:=(c5.mp b.p).2;have w:=(c5.mp b.q).2;have x:=(c5.mp f.p).2;have y:=(c5.mp f.q).2;have r:=(c5.mp j.q).2;rw[<-e]at r;have z:cr (Y-X) (W-X)≠0:=λq=>by unfold i3 at st;rw[q,C1]at st;lia
  obtain⟨Z,A,B⟩:=hs.below a.prim.ne a.sup;obtain⟨C,E⟩:=iY a.prim k.prim a.sup k.sup v w u y x r z A B;have:(n,d)=b7 Y X J:=aEv C E;rw[<-this]at f;exact bG hs ho a b f
theorem LL(r:IsFace J n d)(g:IsFace J m e)(h:EdgeOf n (λX=>X∈o7 n d J) a b)(ga:dot m a=e)(gb:dot m b=e):(m,e)=(n,d)\/(m,e)=b7 b a J:=by
 obtain⟨pa,da⟩:=c5.mp h.p;obtain⟨pb,db⟩:=c5.mp h.q;obtain⟨H,I⟩:=Y9 hs ho r h;have hab:dot n (a-b)=0:=by rw[d8];lia
 have C:=uN (n:=n) r.prim.ne hab;have ag:a-b≠0:=λq=>h.ne (bJ q);obtain⟨P,pP,eP,hP⟩:∃P∈J,dot m P=e/\cr (a-b) (P-b)≠0:=by
  by_cases z:∃P∈J,dot m P=e/\cr (a-b) (P-b)≠0
  .exact z
  exfalso;obtain⟨A,hA,B,hB,D,hD,eA,eB,eD,hc⟩:=g.three;have k:∀X∈J,dot m X=e->cr (a-b) (X-b)=0:=λX hX dX=>by
   by_cases q:cr (a-b) (X-b)=0
   .exact q
   exact absurd ⟨X,hX,dX,q⟩ z
  have k2:∀X∈J,dot m X=e->∀Y∈J,dot m Y=e->cr (X-Y) (a-b)=0:=λX hX dX Y hY dY=>by have s:=k X hX dX;have f:=k Y hY dY;have a1:=ir V.x s;have a2:=ir V.y s;have a3:=ir V.z s;have I:=ir V.x f;have b2:=ir V.y f;have b3:=ir V.z f;simp at a1 a2 a3 I b2 b3;apply ext<;>simp<;>grind
  exact hc (dJ ag (k2 B hB eB A hA eA)<|k2 D hD eD A hA eA)
 have mab:dot m (a-b)=0:=by rw[d8];lia
 have mP:dot m (P-b)=0:=by rw[d8];lia
 have par:cr m (cr (a-b)<|P-b)=0:=B1 mab mP;obtain⟨k,l,hk,L⟩:=A6 g.prim.ne par;have dl:∀w,k*i3 (a-b) (P-b) w=l*dot m w:=λw=>by have:=ir (λv=>dot v w) L;simp only[N8,R3]at this;exact this
 have l0:l≠0:=λq=>hP (by rw[q,v7]at L;have s:=ir V.x L;have f:=ir V.y L;have q3:=ir V.z L;simp only[pL,pB,pT,eG,eS,dI]at s f q3;exact ext ((aAu.mp s).resolve_left (by lia)) ((aAu.mp f).resolve_left (by lia)) ((aAu.mp q3).resolve_left (by lia)))
 have N:∀Q∈J,dot m (Q-b)<=0:=λQ hQ=>by rw[d8];have:=g.sup Q hQ;lia
 obtain⟨Z,hZ,hz⟩:=hs.below r.prim.ne r.sup;by_cases hl:0<l
 .
  right;obtain⟨O,hO,eO⟩:∃O∈o7 (b7 b a J).1 (b7 b a J).2 J,0<i3 (b7 b a J).1 (a-b) (O-b):=H.ac7 I;obtain⟨pO,dO⟩:=c5.mp hO;obtain⟨_,e1b⟩:=c5.mp I.p;obtain⟨_,e1a⟩:=c5.mp I.q;have t1:i3 (a-b) (P-b) (O-b)<=0:=by
   have q:=dl (O-b);have:=aAB (N O pO) (aAK hl);rw[aBX]at this;by_cases z:i3 (a-b) (P-b) (O-b)<=0
   .exact z
   have:=aAL hk (show 0<i3 (a-b) (P-b) (O-b)by lia);lia
  have i:cr (b7 b a J).1 (cr (a-b)<|O-b)=0:=B1 (by rw[d8];lia) (by rw[d8];lia);obtain⟨k',t,T,j⟩:=A6 H.prim.ne i;have o:∀w,k'*i3 (a-b) (O-b) w=t*dot (b7 b a J).1 w:=λw=>by have:=ir (λv=>dot v w) j;simp only[N8,R3]at this;exact this
  have jd:0<t:=by
   have q:=ir (dot (b7 b a J).1) j;rw[i6,i6]at q;have f:0<dot (b7 b a J).1 (cr (a-b)<|O-b):=eO;have:=aAL T f;have hn:=u4 H.prim.ne;by_cases z:0<t
   .exact z
   have:=aAS (show t<=0 by lia) (aAK hn);simp at this;lia
  have t2:i3 (a-b) (O-b) (P-b)<=0:=by
   have q:=o (P-b);have h0:dot (b7 b a J).1 (P-b)<=0:=by rw[d8];have:=H.sup P pP;lia
   have:=aAB h0 (aAK jd);rw[aBX]at this;by_cases z:i3 (a-b) (O-b) (P-b)<=0
   .exact z
   have:=aAL T (show 0<i3 (a-b) (O-b) (P-b)by lia);lia
  have t3:i3 (a-b) (O-b) (P-b)=0:=by rw[j5]at t1;lia
  have U:=o (P-b);rw[t3,aBX]at U;have onP':dot (b7 b a J).1 P=(b7 b a J).2:=by have:=(aAu.mp U.symm).resolve_left (by lia);rw[d8]at this;lia
  obtain⟨Z',u,E⟩:=hs.below g.prim.ne g.sup;obtain⟨s,f⟩:=iY g.prim H.prim g.sup H.sup gb ga eP e1b e1a onP' hP u E;exact aEv s f
 .
  left;have om:l<0:=by lia
  obtain⟨O,hO,eO⟩:=r.ac7 h;obtain⟨pO,dO⟩:=c5.mp hO;rw[qK]at eO;have t1:0<=i3 (a-b) (P-b) (O-b):=by
   have q:=dl (O-b);have h2:0<=l*dot m (O-b):=by
    have:=aBj (show 0<=-l by lia) (show 0<=-dot m (O-b)by have:=N O pO;lia)
    rwa [aDs]at this
   by_cases z:0<=i3 (a-b) (P-b) (O-b)
   .exact z
   have:=aAt hk (show i3 (a-b) (P-b) (O-b)<0 by lia);lia
  have i:cr n (cr (b-a)<|O-b)=0:=B1 (by rw[d8];lia) (by rw[d8];lia);obtain⟨k',t,T,j⟩:=A6 r.prim.ne i;have o:∀w,k'*i3 (b-a) (O-b) w=t*dot n w:=λw=>by have:=ir (λv=>dot v w) j;simp only[N8,R3]at this;exact this
  have jd:0<t:=by
   have q:=ir (dot n) j;rw[i6,i6]at q;have f:0<dot n (cr (b-a)<|O-b):=eO;have:=aAL T f;have hn:=u4 r.prim.ne;by_cases z:0<t
   .exact z
   have:=aAS (show t<=0 by lia) (aAK hn);simp at this;lia
  have t2:i3 (b-a) (O-b) (P-b)<=0:=by
   have q:=o (P-b);have h0:dot n (P-b)<=0:=by rw[d8];have:=r.sup P pP;lia
   have:=aAB h0 (aAK jd);rw[aBX]at this;by_cases z:i3 (b-a) (O-b) (P-b)<=0
   .exact z
   have:=aAL T (show 0<i3 (b-a) (O-b) (P-b)by lia);lia
  have e3:i3 (b-a) (O-b) (P-b)=i3 (a-b) (P-b) (O-b):=by simp[i3,dot];grind
  have t3:i3 (b-a) (O-b) (P-b)=0:=by lia
  have U:=o (P-b);rw[t3,aBX]at U;have onn:dot n P=d:=by have:=(aAu.mp U.symm).resolve_left (by lia);rw[d8]at this;lia
  obtain⟨Z',u,E⟩:=hs.below g.prim.ne g.sup;obtain⟨s,f⟩:=iY g.prim r.prim g.sup r.sup gb ga eP db da onn hP u E;exact aEv s f
end
def yJ(j:i9 J)(k:m∈J)(l:∀X∈J,X=m\/d9 (X-m)):
  aX (b7 m (m+kk) J).1/\m∈o7 (b7 m (m+kk) J).1 (b7 m (m+kk) J).2 J/\∃a∈o7 (b7 m (m+kk) J).1 (b7 m (m+kk) J).2 J,m≠a:=by
 have C:ConeM (m+kk-m) (λw=>0<w.x\/(w.x=0/\0<w.y)):=by rw[G3];exact IS
 have o:m+kk-m≠0:=by rw[G3];intro e;have:=ir V.z e;simp[kk]at this
 have b:∀P∈J,(0<(P-m).x\/((P-m).x=0/\0<(P-m).y))\/cr (m+kk-m) (P-m)=0:=λP p=>by
  rw[G3];rcases l P p with e|e
  .right;subst e;rw[t8];apply ext<;>simp
  unfold d9 at e;rcases e with e|⟨f,e|⟨r,E⟩⟩
  .exact .inl (.inl e)
  .exact .inl (.inr ⟨f,e⟩)
  right;apply ext
  .simp[kk];simp at r;lia
  .simp[kk];simp at f;lia
  simp[kk]
 have s:∃P∈J,0<(P-m).x\/((P-m).x=0/\0<(P-m).y):=by
  by_cases z:∃P∈J,0<(P-m).x\/((P-m).x=0/\0<(P-m).y)
  .exact z
  exfalso;obtain⟨Z,h,e⟩:=j.off (n:=⟨1,0,0⟩) (d:=m.x) (λe=>by have:=ir V.x e;simp at this);have w:=(b Z h).resolve_left λq=>z ⟨Z,h,q⟩;rw[G3]at w;have:=ir V.y w;simp[kk]at this;simp[dot]at e
  lia
 obtain⟨a,g,t,i,H,I,u,v,A,L,B,N⟩:=N5 C o b s;refine⟨u,c5.mpr ⟨k,v.symm⟩,a,c5.mpr ⟨t,B⟩,λe=>?_⟩;subst e;rw[t8]at i;simp at i
section
variable{J:List V} (hs:i9 J) (ho:J.Pairwise (λa b=>d9 (b-a)))
include hs ho
theorem AQ(d:IsFace J f.1 f.2)(e:IsFace J g.1 g.2)(k:(a,b)∈u9 (c8 J f))(l:(a,b)∈u9 (c8 J g)):f=g:=by
 have i:=(d.aa2 ho).aa1.mp k;have h:=(e.aa2 ho).aa1.mp l;obtain⟨m,j⟩:=Y9 hs ho d i;rcases LL hs ho d e i (c5.mp h.p).2 (c5.mp h.q).2 with q|q
 .exact q.symm
 exfalso;have:g=b7 b a J:=q;rw[<-this]at j;exact bG hs ho e h j
theorem fD(h:l.Nodup):(u9 l).Nodup:=by
 have:((u9 l).map (·.1)).Nodup:=by
  unfold u9;rw[aFy]
  .exact h
  simp;lia
 exact(aBt.mp this).imp λ{a b} h e=>h (by rw[e])
def iI(J:List V)(fs:List (V×Int)):List (V×V):=fs.flatMap λf=>u9 (c8 J f)
omit hs ho in
theorem SL(fs:List (V×Int)):(iI J fs).length=(fs.map λf=>(c8 J f).length).sum:=by
 induction fs with
 |nil=>rfl
 |cons f fs a=>show(u9 (c8 J f)++iI J fs).length=_;rw[aAz,a,aAk,aAZ];congr 1;unfold u9;simp;lia
theorem iE:∀{fs:List (V×Int)},fs.Nodup->(∀f∈fs,IsFace J f.1 f.2)->(iI J fs).Nodup
 |[],_,_=>aCU
 |f::fs,k,h=>by have i:=aAH.mp k;have j:=h f (.head _);show(u9 (c8 J f)++iI J fs).Nodup;rw[aCH];refine⟨fD hs ho ((j.aa2 ho).aa3),iE i.2 λg d=>h g (.tail _ d),λe l o m q=>?_⟩;subst q;obtain⟨g,d,n⟩:=aAV.mp m;exact i.1 (AQ hs ho j (h g<|.tail _ d) (a:=e.1) (b:=e.2) l n▸d)
theorem vE{fs:List (V×Int)}(s:fs.Nodup)(k:∀f∈fs,IsFace J f.1 f.2):(fs.map λf=>(c8 J f).length).sum+J.length<=J.length*J.length:=by
 have i:J.Nodup:=ho.imp λ{a b} h e=>by subst e;exact F1 h
 have t:=iE hs ho s k;have u:(iI J fs++J.map λa=>(a,a)).Nodup:=by rw[aCH];refine⟨t,aBt.mpr (i.imp λ{a b} h e=>h (Prod.mk.inj e).1),λe d z v q=>?_⟩;subst q;obtain⟨g,m,j⟩:=aAV.mp d;obtain⟨a,_,rfl⟩:=aAj.mp v;exact(((k g m).aa2 ho).aa1.mp j).ne rfl
 have w:∀e∈iI J fs++J.map (λa=>(a,a)),e∈J.flatMap λa=>J.map λb=>(a,b):=λe d=>by
  rcases aAD.mp d with d|d
  .obtain⟨g,m,j⟩:=aAV.mp d;have j:(e.1,e.2)∈u9 (c8 J g):=j;have n:=((k g m).aa2 ho).aa1.mp j;exact aAV.mpr ⟨e.1,(c5.mp n.p).1,aAj.mpr ⟨e.2,(c5.mp n.q).1,rfl⟩⟩
  obtain⟨a,o,rfl⟩:=aAj.mp d;exact aAV.mpr ⟨a,o,aAj.mpr ⟨a,o,rfl⟩⟩
 have r:=B6 u w;have x:(J.flatMap λa=>J.map λb=>(a,b)).length=J.length*J.length:=by
  have:∀l:List V,(l.flatMap λa=>J.map λb=>(a,b)).length=l.length*J.length:=λl=>by
   induction l with
   |nil=>simp
   |cons a l y=>rw[aFh,aAz,y,aAh,aAp,Nat.succ_mul];lia
  exact this J
 rw[aAz,SL,aAh,x]at r;exact r
theorem mZ{fs:List (V×Int)}(a:∀f∈fs,IsFace J f.1 f.2):3*fs.length<=(fs.map λf=>(c8 J f).length).sum:=by
 induction fs with
 |nil=>simp
 |cons f fs b=>
  have:=b λg d=>a g (.tail _ d);obtain⟨r,s,t,l,e⟩:=I9 ho (a f<|.head _);have h:(c8 J f).length=l.length+3:=by show(j0 f.1 (o7 f.1 f.2 J)).length=_;rw[e];simp
  rw[aAk,aAZ,aAp,h]
  lia
end
theorem lE:∀(J:List V) (up b:V),(G8 a A J up b).2∈J\/(G8 a A J up b).2=b
 |[],up,b=>.inr rfl
 |P::d,up,b=>by
  unfold G8;split
  .rcases lE d (cr a (P-A)) P with h|h
   .exact .inl (.tail _ h)
   exact .inl (by rw[h];exact .head _)
  rcases lE d up b with h|h
  .exact .inl (.tail _ h)
  exact .inr h
section
variable{J c:List V} (hs:i9 J) (ho:J.Pairwise (λa b=>d9 (b-a))) (bp:c.Pairwise (λa b=>d9 (b-a))) (hc:∀X,X∈c↔∃f:V×Int,IsFace J f.1 f.2/\X∈c8 J f)
include hs ho bp hc
theorem YV(h:X∈c):X∈J:=by obtain⟨f,a,b⟩:=(hc X).mp h;exact(c5.mp<|(a.aa2 ho).aa4 b).1
theorem lT(a:IsFace J n d)(h:X∈c8 J (n,d)):X∈o7 n d c:=by have b:=(c5.mp<|(a.aa2 ho).aa4 h).2;exact c5.mpr ⟨(hc X).mpr ⟨(n,d),a,h⟩,b⟩
theorem dj(h:X∈o7 n d c):X∈o7 n d J:=c5.mpr ⟨YV hs ho bp hc (c5.mp h).1,(c5.mp h).2⟩
theorem kC(a:IsFace J n d):IsFace c n d:=by
 have S:=a.aa2 ho;obtain⟨r,s,t,l,e⟩:=I9 ho a;have i:r∈j0 n (o7 n d J):=by rw[e];simp
 have j:s∈j0 n (o7 n d J):=by rw[e];simp
 have f:t∈j0 n (o7 n d J):=by rw[e];simp
 have b:=S.aa3;rw[e]at b;simp only[aAH,aAc,not_or]at b;have g:EdgeOf n (λX=>X∈o7 n d J) r s:=S.aa1.mp (by rw[e];simp[u9]);have st:=S.strict g f (λq=>b.1.2.1 q.symm) (λq=>b.2.1.1 q.symm);have k:=λ{X} (h:X∈j0 n (o7 n d J))=>lT hs ho bp hc a (X:=X) h;refine⟨a.prim,λX m=>a.sup X (YV hs ho bp hc m),r,(c5.mp<|k i).1,s,(c5.mp<|k j).1,t,(c5.mp<|k f).1,(c5.mp<|k i).2,(c5.mp<|k j).2,(c5.mp<|k f).2,λq=>?_⟩;unfold i3 at st;rw[q,C1]at st
 lia
theorem wQ(e:IsFace J n d)(h:EdgeOf n (λX=>X∈o7 n d J) a b):EdgeOf n (λX=>X∈o7 n d c) a b:=by have S:=e.aa2 ho;have m:=fB S (S.aa1.mpr h);exact⟨lT hs ho bp hc e m.1,lT hs ho bp hc e m.2,h.ne,λX f=>h.left X (dj hs ho bp hc f),λX f=>h.btw X (dj hs ho bp hc f)⟩
omit hs ho bp hc in
theorem qS{R:V->Prop}{E:List (V×V)}(g:∀a b,R a->(a,b)∈E->R b):∀(x:V) (l:List V),R x->(∀e∈j7 (x::l),e∈E)->∀X∈x::l,R X
 |x,[],f,_,X,d=>by rw[aAJ.mp d];exact f
 |x,y::l,f,h,X,d=>by
  have i:=g x y f (h (x,y) (by simp[j7]));rcases aAc.mp d with rfl|d
  .exact f
  exact qS g y l i (λe j=>h e (by simp only[j7,aAc];exact .inr j)) X d
theorem EW(i:IsFace J n d)(h:X∈j0 n (o7 n d c)):X∈j0 n (o7 n d J):=by
 have S:=i.aa2 ho;have o:=(kC hs ho bp hc i).aa2 bp;obtain⟨m,r,e,t,u⟩:=o.aa7;obtain⟨g,H,p,v,w⟩:=S.aa7;have x:m=g:=by
  have y:g∈o7 n d c:=lT hs ho bp hc i (show g∈j0 n (o7 n d J)by rw[p];simp);rcases u g y with q|q
  .exact q.symm
  rcases w m (dj hs ho bp hc t)with j|j
  .exact j
  exact absurd (A0.add q j) (by
   have:(g-m)+(m-g)=0:=by apply ext<;>simp<;>lia
   rw[this];exactλz=>by simp[d9]at z)
 have step:∀a b,a∈j0 n (o7 n d J)->(a,b)∈u9 (j0 n<|o7 n d c)->b∈j0 n (o7 n d J):=λa b A k=>by obtain⟨I,s⟩:=V2 S A;have B:=o.aa1.mp k;have C:=wQ hs ho bp hc i (S.aa1.mp s);rw[B.next C];exact(fB S s).2
 rw[e]at h;refine qS (E:=u9 (j0 n<|o7 n d c)) (R:=λX=>X∈j0 n (o7 n d J)) step m r (by rw[x,p];simp) (λf l=>?_) X h;rw[e,W7];exact bZ r m m f l
theorem zF(f:IsFace J n d)(h:EdgeOf n (λX=>X∈o7 n d c) a b):EdgeOf n (λX=>X∈o7 n d J) a b:=by have S:=f.aa2 ho;have g:=(kC hs ho bp hc f).aa2 bp;have i:=EW hs ho bp hc f (g.ab1 h);obtain⟨k,j⟩:=V2 S i;have e:=S.aa1.mp j;rw[h.next (wQ hs ho bp hc f e)];exact e
theorem HW(j:IsFace J n d):i9 c:=by
 have S:=j.aa2 ho;obtain⟨r,s,t,l,e⟩:=I9 ho j;have I:r∈j0 n (o7 n d J):=by rw[e];simp
 have y:t∈j0 n (o7 n d J):=by rw[e];simp
 have o:=S.aa3;rw[e]at o;simp only[aAH,aAc,not_or]at o;have i:EdgeOf n (λX=>X∈o7 n d J) r s:=S.aa1.mp (by rw[e];simp[u9]);have st:=S.strict i y (λq=>o.1.2.1 q.symm) (λq=>o.2.1.1 q.symm);obtain⟨p,L⟩:=Y9 hs ho j i;generalize(b7 s r J).1=m at*
 generalize(b7 s r J).2=f at*
 have T:=p.aa2 ho;obtain⟨a,b,N,l2,x⟩:=I9 ho p;have g:=T.aa3;rw[x]at g;simp only[aAH,aAc,not_or]at g;obtain⟨Y,A,Q,U⟩:∃Y∈j0 m (o7 m f J),Y≠s/\Y≠r:=by
  have q1:a∈j0 m (o7 m f J):=by rw[x];simp
  have q2:b∈j0 m (o7 m f J):=by rw[x];simp
  have q3:N∈j0 m (o7 m f J):=by rw[x];simp
  by_cases B:a≠s/\a≠r
  .exact⟨a,q1,B⟩
  by_cases C:b≠s/\b≠r
  .exact⟨b,q2,C⟩
  refine⟨N,q3,λz=>?_,λz=>?_⟩
  .subst z;have E:a=r:=by
    by_cases h:a=r
    .exact h
    exact absurd ⟨g.1.2.1,h⟩ B
   have H:b=r:=by
    by_cases h:b=r
    .exact h
    exact absurd ⟨g.2.1.1,h⟩ C
   exact g.1.1 (E.trans H.symm)
  subst z;have E:a=s:=by
   by_cases h:a=s
   .exact h
   exact absurd ⟨h,g.1.2.1⟩ B
  have H:b=s:=by
   by_cases h:b=s
   .exact h
   exact absurd ⟨h,g.2.1.1⟩ C
  exact g.1.1 (E.trans H.symm)
 have sY:=T.strict L A Q U;have lt:=NU hs p j L i (T.aa4 A) sY;have k:=λ{X} (h:X∈j0 n (o7 n d J))=>lT hs ho bp hc j (X:=X) h;have kY:=lT hs ho bp hc p A;have O:s∈j0 n (o7 n d J):=by rw[e];simp
 have dr:=(c5.mp<|k I).2;have dss:=(c5.mp<|k O).2;have dt:=(c5.mp<|k y).2;refine⟨r,(c5.mp<|k I).1,s,(c5.mp<|k O).1,t,(c5.mp<|k y).1,Y,(c5.mp kY).1,λz=>?_⟩;have p1:dot n (s-r)=0:=by rw[d8];lia
 have p2:dot n (t-r)=0:=by rw[d8];lia
 have pY:dot n (Y-r)<0:=by rw[d8];lia
 have id:i3 (s-r) (t-r) (Y-r)*dot n n=i3 n (s-r) (t-r)*dot n (Y-r)+dot n (s-r)*(dot n (t-r)*0)+(dot n (s-r)*i3 n (t-r) (Y-r)+dot n (t-r)*i3 n (Y-r) (s-r)):=by generalize s-r=u;generalize t-r=v;generalize Y-r=w;have:=QF n n u v w;simp[i3,dot]at this⊢;grind
 rw[z,p1,p2]at id;have:i3 n (s-r) (t-r)*dot n (Y-r)<0:=aAt st pY
 lia
theorem WC(fs:List (V×Int))(k:fs≠[])(e:∀f,f∈fs↔IsFace J f.1 f.2):IsFace c n d↔IsFace J n d:=by
 refine⟨λh=>?_,kC hs ho bp hc⟩;obtain⟨o,g⟩:=aFc fs k;have p:=HW hs ho bp hc ((e o).mp g);have:=tE p bp fs k (λf i=>kC hs ho bp hc ((e f).mp i)) (λf i a b j=>?_) h
 .exact(e _).mp this
 have l:=(e f).mp i;obtain⟨m,q⟩:=Y9 hs ho l (zF hs ho bp hc l j);exact⟨b7 b a J,(e _).mpr m,wQ hs ho bp hc m q⟩
theorem MQ(b:X∈c):∃f:V×Int,IsFace c f.1 f.2/\X∈c8 c f:=by obtain⟨⟨n,d⟩,a,h⟩:=(hc X).mp b;have S:=a.aa2 ho;obtain⟨Q,e⟩:=V2 S h;exact⟨(n,d),kC hs ho bp hc a,((kC hs ho bp hc a).aa2 bp).ab1 (wQ hs ho bp hc a<|S.aa1.mp e)⟩
end
def bj{Pos:V->Prop}(C:Cone Pos){n m p v q u:V}(g:n≠0)(r:dot n p=0)(d:dot n v=0)(f:dot n q=0)(s:dot n u=0)(B:Pos p)(i:Pos v)(j:Pos q)(E:Pos u)(H:0<dot m p)(mv:dot m v<0)(k:0<dot m q)(mu:dot m u<0)(t:0<=i3 n v p)(w:0<=i3 n q u):False:=by
 have id:∀{a b c:V},dot n a=0->dot n b=0->dot n c=0->i3 n a b*dot m c+i3 n b c*dot m a+i3 n c a*dot m b=0:=λ{a b c} I J L=>by have:=QF m n a b c;rw[y9 g I J L,aGE]at this;exact this
 have N:=id d r f;have O:=id f s d;rcases aDQ 0 (i3 n q v)with h|h
 .
  have l:=C.tr j i B (y9 g f d r) h t;have o:i3 n p q=-i3 n q p:=j5 n q p;rw[o]at N;have Q:0<=i3 n v p*dot m q:=aBj t (aAK k);have T:0< -i3 n q p*dot m v:=by have:=aAL l (show 0< -dot m v by lia);grind
  have U:0<i3 n q v*dot m p:=aAL h H
  lia
 rcases aDQ (i3 n q v) 0 with h'|h'
 .have e0:i3 n v q=-i3 n q v:=j5 n q v;have A:0<i3 n v q:=by lia
  have l:=C.tr i j E (y9 g d f s) A w;have o:i3 n u v=-i3 n v u:=j5 n v u;rw[o]at O;have Q:i3 n q u*dot m v<=0:=by have:=aBj w (show 0<=-dot m v by lia);grind
  have T:-i3 n v u*dot m q<0:=by have:=aAL l k;grind
  have U:i3 n v q*dot m u<0:=by have:=aAL A (show 0< -dot m u by lia);grind
  lia
 have z:i3 n q v=0:=by lia
 have c0:=W0 g f d z;have e:dot m q*v+(-dot m v)*q=0:=by have Y:=ir V.x c0;have hy:=ir V.y c0;have hz:=ir V.z c0;simp at Y hy hz;apply ext<;>simp[dot]<;>grind
 have:=C.add (C.mul k i) (C.mul (show 0< -dot m v by lia) j);rw[e]at this;exact C.irr this
section
variable{n:V}{ts:List V} (S:Sheet n ts)
include S
theorem Sheet.ad0(h:X∈w6 n ts\/X∈w6 n ts.reverse):X∈j0 n ts:=by
 obtain⟨m,M,c,d,j,k,f,l,o,b,e,g,i,p,q⟩:=S.ends;unfold j0;rw[aAD,b,e,aAP,aAP,aBq,aBq,aBL,aBL];rw[b,e]at h;have a:m≠M:=λz=>by subst z;exact F1 f
 rcases h with h|h
 .rcases aAc.mp h with rfl|h
  .right;have:=aCZ i;rcases aAc.mp this with z|z
   .exact absurd z.symm a
   exact z
  exact .inl h
 rcases aAc.mp h with rfl|h
 .left;have:=aCZ g;rcases aAc.mp this with z|z
  .exact absurd z a
  exact z
 exact .inr h
theorem Sheet.top(d:X∈ts)(h:∀Y∈ts,Y≠X->dot m Y<dot m X):X∈j0 n ts:=by
 obtain⟨s,n1,t1⟩:=S.ab2;obtain⟨t,n2,t2⟩:=S.ab3;have w:∀u,d9 u->d9 (-u)->False:=λu x y=>by have:=A0.add x y;have A:u+-u=0:=(by apply ext<;>simp<;>lia);rw[A]at this;exact A0.irr this
 have B:∀u,M6 u->M6 (-u)->False:=λu x y=>by have:=aI.add x y;have A:u+-u=0:=(by apply ext<;>simp<;>lia);rw[A]at this;exact aI.irr this
 rcases pS X (w6 n ts) (λY _=>K4 X Y) (λq C=>t1 X q C d) (λz E=>s.last X d z E) n1 w with H|⟨a,b,j,O,Q⟩
 .exact S.ad0 (.inl H)
 rcases pS X (w6 n ts.reverse) (λY _=>by
   rcases K4 X Y with z|z|z
   .exact .inl z
   .exact .inr (.inr (p5.mpr z))
   exact .inr (.inl (p5.mpr z))) (λq C=>t2 X q C d) (λz E=>t.last X d z E) n2 B with H|⟨k,r,f,I,jl⟩
 .exact S.ad0 (.inr H)
 exfalso;have T:=M1 S j;have U:=M1 S f;have J:=s.mem _ T.1;have L:=s.mem _ T.2;have g:=t.mem _ U.1;have i:=t.mem _ U.2;have E1:=(S.ad8 j J L).1.left X d;have E2:=(S.ae5 f g i).1.left X d;have l:=p5.mp I;have yb:=p5.mp jl;have ne:∀{Y},d9 (X-Y)->Y≠X:=λN z=>by subst z;exact F1 N
 have o:∀{Y},d9 (Y-X)->Y≠X:=λN z=>by subst z;exact F1 N
 have va:=h a J (ne O);have vb:=h b L (o Q);have va':=h k g (o l);have vb':=h r i (ne yb);refine bj A0 (n:=n) (m:=m) (p:=X-a) (v:=b-X) (q:=X-r) (u:=k-X) S.nz (S.pl _ d _ J) (S.pl _ L _ d) (S.pl _ d _ i) (S.pl _ g _ d) O Q yb l (by rw[d8];lia) (by rw[d8];lia) (by rw[d8];lia) (by rw[d8];lia) ?_ ?_
 .have e:i3 n (b-a) (X-a)=i3 n (b-X) (X-a):=by simp[i3,dot];grind
  rw[<-e];exact E1
 have e:i3 n (r-k) (X-k)=i3 n (X-r) (k-X):=by simp[i3,dot];grind
 rw[<-e];exact E2
end
section
variable{J:List V} (hs:i9 J)
include hs
theorem V4(a:IsFace J n d)(b:IsFace J m e)(i:dot n X=d)(j:dot m X=e)(h:cr m n=0):(n,d)=(m,e):=by
 obtain⟨k,l,f,g⟩:=A6 b.prim.ne h;obtain⟨Z,o,t⟩:=hs.below a.prim.ne a.sup;have p:0<l:=by
  have q:=ir (λv=>dot v (Z-X)) g;rw[N8,N8]at q;have r:dot n (Z-X)<0:=by rw[d8];lia
  have u:dot m (Z-X)<=0:=by rw[d8];have:=b.sup Z o;lia
  have w:k*dot n (Z-X)<0:=aAt f r;by_cases z:0<l
  .exact z
  exfalso;have:0<=l*dot m (Z-X):=by
   have:=aBj (show 0<=-l by lia) (show 0<=-dot m (Z-X)by lia)
   rwa [aDs]at this
  lia
 have s:=xL a.prim b.prim f p g;subst s;rw[<-i,<-j]
theorem CA{a b c:Int}(j:IsFace J n d)(l:IsFace J m e)(o:IsFace J k f)(hX:dot n X=d)(ou:dot m X=e)(p:dot k X=f)(hc:0<c)(r:0<a)(s:0<b)(h:c*k=a*n+b*m)(t:cr n m≠0):False:=by
 obtain⟨A,u,B,w,C,x,y,E,H,g⟩:=o.three;have on:∀Y∈J,dot k Y=f->dot n Y=d/\dot m Y=e:=λY i hy=>by
  have h1:=j.sup Y i;have h2:=l.sup Y i;have q:=ir (λv=>dot v (Y-X)) h;have q:c*dot k (Y-X)=a*dot n (Y-X)+b*dot m (Y-X):=by
   have I:dot (c*k) (Y-X)=c*dot k (Y-X):=N8 ..;have L:dot (a*n+b*m) (Y-X)=a*dot n (Y-X)+b*dot m (Y-X):=by simp[dot];grind
   rw[<-I,<-L];exact q
  have N:dot k (Y-X)=0:=by rw[d8];lia
  rw[N,aBX]at q;have O:dot n (Y-X)<=0:=by rw[d8];lia
  have Q:dot m (Y-X)<=0:=by rw[d8];lia
  have a0:a*dot n (Y-X)<=0:=aAs (aAK r) O;have b0:b*dot m (Y-X)<=0:=aAs (aAK s) Q;have T:a*dot n (Y-X)=0:=by lia
  have U:b*dot m (Y-X)=0:=by lia
  have y1:dot n (Y-X)=0:=by rcases aAu.mp T with z|z;lia;exact z
  have y2:dot m (Y-X)=0:=by rcases aAu.mp U with z|z;lia;exact z
  rw[d8]at y1 y2;exact⟨by lia,by lia⟩
 obtain⟨a1,a2⟩:=on A u y;obtain⟨b1,b2⟩:=on B w E;obtain⟨c1,c2⟩:=on C x H;have p1:cr n (cr (B-A)<|C-A)=0:=B1 (by rw[d8];lia) (by rw[d8];lia);have p2:cr m (cr (B-A)<|C-A)=0:=B1 (by rw[d8];lia) (by rw[d8];lia);exact t (dJ g p1 p2)
theorem lG(o:IsFace J n d)(p:IsFace J m e)(i:IsFace J k f)(B:dot n X=d)(C:dot m X=e)(E:dot k X=f)(n12:(n,d)≠(m,e))(n13:(n,d)≠(k,f))(n23:(m,e)≠(k,f)):i3 n m k≠0:=λz=>by
 have H:cr n m≠0:=λq=>n12 (V4 hs p o C B q).symm;have I:cr n k≠0:=λq=>n13 (V4 hs i o E B q).symm;have L:cr m k≠0:=λq=>n23 (V4 hs i p E C q).symm;have j:∀{u v:V},cr u v≠0->cr v u≠0:=λ{u v} h q=>h (by have N:=ir V.x q;have g:=ir V.y q;have A:=ir V.z q;simp at N g A;apply ext<;>simp<;>grind)
 obtain⟨w,ew⟩:∃w,w=cr n m:=⟨_,rfl⟩;have r:=EU w n m k;rw[z]at r;have O:0<i3 w n m:=by
  have:i3 w n m=dot w w:=by rw[ew];rfl
  rw[this,ew];exact u4 H
 obtain⟨c,ec⟩:∃c,c=i3 w n m:=⟨_,rfl⟩;obtain⟨a,ea⟩:∃a,a=-i3 w m k:=⟨_,rfl⟩;obtain⟨b,eb⟩:∃b,b=-i3 w k n:=⟨_,rfl⟩;have T:c*k=a*n+b*m:=by rw[ec,ea,eb];have N:=ir V.x r;have g:=ir V.y r;have A:=ir V.z r;simp at N g A;apply ext<;>simp<;>lia
 rw[<-ec]at O;have U:=ir V.x T;have Y:=ir V.y T;have vz:=ir V.z T;simp at U Y vz;have l:∀{u v:V}{s t:Int},s≠0->s*u=t*v->cr u v=0:=λ{u v s t} jr h=>by
  have N:=ir V.x h;have g:=ir V.y h;have A:=ir V.z h;simp at N g A;have go:∀y:Int,s*y=0->y=0:=λy g=>by rcases aAu.mp g with q|q;exact absurd q jr;exact q
  apply ext<;>simp<;>apply go<;>grind
 rcases aDQ 0 a with ha|ha
 .rcases aDQ 0 b with Q|Q
  .exact CA hs o p i B C E O ha Q T H
  rcases aDQ b 0 with jl|jl
  .
   refine CA hs i p o E C B ha O (show 0< -b by lia) (c:=a) (a:=c) (b:=-b) ?_ (j L);apply ext<;>simp<;>lia
  have b0:b=0:=by lia
  refine I (l (u:=n) (v:=k) (s:=a) (t:=c) (by lia) ?_);rw[b0]at U Y vz;apply ext<;>simp<;>lia
 rcases aDQ a 0 with ha'|ha'
 .rcases aDQ 0 b with Q|Q
  .refine CA hs i o p E B C Q O (show 0< -a by lia) (c:=b) (a:=c) (b:=-a) ?_ (j I);apply ext<;>simp<;>lia
  .
   obtain⟨Z,hZ,A⟩:=hs.below i.prim.ne i.sup;have q:c*dot k (Z-X)=a*dot n (Z-X)+b*dot m (Z-X):=by simp[dot];grind
   have k0:dot k (Z-X)<0:=by rw[d8];lia
   have n0:dot n (Z-X)<=0:=by rw[d8];have:=o.sup Z hZ;lia
   have m0:dot m (Z-X)<=0:=by rw[d8];have:=p.sup Z hZ;lia
   have t1:c*dot k (Z-X)<0:=aAt O k0;have t2:0<=a*dot n (Z-X):=by
    have:=aBj (show 0<=-a by lia) (show 0<=-dot n (Z-X)by lia)
    rwa [aDs]at this
   have t3:0<=b*dot m (Z-X):=by
    have:=aBj (show 0<=-b by lia) (show 0<=-dot m (Z-X)by lia)
    rwa [aDs]at this
   lia
 have a0:a=0:=by lia
 by_cases b0:b=0
 .rw[a0,b0]at U Y vz;have k0:k=0:=by
   have go:∀y:Int,c*y=0->y=0:=λy g=>by rcases aAu.mp g with q|q;lia;exact q
   apply ext<;>simp<;>apply go<;>lia
  exact i.prim.ne k0
 refine L (l (u:=m) (v:=k) (s:=b) (t:=c) b0 ?_);rw[a0]at U Y vz;apply ext<;>simp<;>lia
end
def Up(J:List V)(A B C:V):Prop:=(∀X∈J,dot (cr (B-A)<|C-A) (X-A)<=0)/\∃X∈J,dot (cr (B-A)<|C-A) (X-A)<0
def Dn(J:List V)(A B C:V):Prop:=(∀X∈J,0<=dot (cr (B-A)<|C-A) (X-A))/\∃X∈J,0<dot (cr (B-A)<|C-A) (X-A)
abbrev T3:=V×V×V
def tr(r:T3):T3:=(⟨r.1.x,r.2.1.x,r.2.2.x⟩,⟨r.1.y,r.2.1.y,r.2.2.y⟩,⟨r.1.z,r.2.1.z,r.2.2.z⟩)
def a3m:T3:=(⟨1,0,0⟩,⟨0,1,0⟩,⟨0,0,1⟩)
def a6c(r:T3):tr (tr r)=r:=rfl
abbrev Mv:=T3×V
def ZD:Mv:=(a3m,0)
section
variable{J qts:List V}{m:Mv}{n:V}{d:Int}
end
section
end
section
variable{J qts:List V}{n:V}{d:Int}
end
structure Sl where
 a:Int
 b:Int
 c:Int
 w:V
 t:Bool
def Sl.put(s:Sl)(P:V):V:=
 let x:=P.x+s.a*P.y
 let y:=P.y+s.b*P.z
 let z:=P.z+s.c*x
 if s.t then⟨y+s.w.x,x+s.w.y,z+s.w.z⟩else⟨x+s.w.x,y+s.w.y,z+s.w.z⟩
def Sl.mv(s:Sl):Mv:=
 let d:V:=⟨1,s.a,0⟩
 let e:V:=⟨0,1,s.b⟩
 let f:V:=⟨s.c,s.c*s.a,1⟩
 (if s.t then(e,d,f)else(d,e,f),s.w)
def Z5{n m k y:V}(a:i3 n m k≠0)(d:dot n y=0)(g:dot m y=0)(h:dot k y=0):y=0:=by
 have i:∀t:Int,i3 n m k*t=0->t=0:=λt j=>by
  rcases aAu.mp j with q|q
  .exact absurd q a
  exact q
 have e:∀f:V->Int,(f=(·.x)\/f=(·.y)\/f=(·.z))->i3 n m k*f y=dot n y*f (cr m k)+dot m y*f (cr k n)+dot k y*f (cr n m):=λf b=>by rcases b with rfl|rfl|rfl<;>simp[i3,dot,cr]<;>grind
 have z:∀f:V->Int,(f=(·.x)\/f=(·.y)\/f=(·.z))->f y=0:=λf b=>i _ (by rw[e f b,d,g,h];simp);exact ext (z _<|.inl rfl) (z _<|.inr (.inl rfl)) (z _<|.inr (.inr rfl))
def VU{a b p q d:Int}(f:0<a)(g:0<b)(i:p<=d)(j:q<=d)(e:(a+b)*d=a*p+b*q):p=d:=by
 have k:=aBj (aAK f) (show 0<=d-p by lia);have l:=aBj (aAK g) (show 0<=d-q by lia);have m:a*(d-p)+b*(d-q)=0:=by
  have:a*(d-p)+b*(d-q)=(a+b)*d-(a*p+b*q):=by grind
  lia
 have h:a*(d-p)=0:=by
  clear e;generalize a*(d-p)=u at*
  generalize b*(d-q)=v at*
  lia
 rcases aAu.mp h with q|q<;>lia
section
variable{J:List V} (hs:i9 J) (ho:J.Pairwise (λa b=>d9 (b-a)))
include hs ho
theorem pQ(f:IsFace J n d)(p:X∈c8 J (n,d))(r:P∈J)(s:Q∈J){a b:Int}(t:0<a)(u:0<b)(e:(a+b)*X=a*P+b*Q):P=X:=by
 obtain⟨y,z,g,i,v,w,x,j,k,l⟩:=bR hs ho f p;have on:∀{m:V}{c:Int},IsFace J m c->dot m X=c->dot m (P-X)=0:=λ{m c} h o=>by have q:=ir (dot m) e;rw[i6,show dot m (a*P+b*Q)=a*dot m P+b*dot m Q by simp[dot];grind,o]at q;rw[d8,o,VU t u (h.sup P r) (h.sup Q s) q];lia
 exact bJ (Z5 (lG hs f g i j k l v w x) (on f j) (on g k)<|on i l)
end
section
variable{J:List V} (hs:i9 J) (ho:J.Pairwise (λa b=>d9 (b-a)))
include hs ho
theorem qL{a b n:V}{d:Int}(g:IsFace J n d)(h:EdgeOf n (λX=>X∈o7 n d J) a b):∃m e,IsFace J m e/\(n,d)≠(m,e)/\dot m a=e/\dot m b=e:=by obtain⟨i,f⟩:=Y9 hs ho g h;refine⟨_,_,i,λe=>?_,(c5.mp f.q).2,(c5.mp f.p).2⟩;have:(n,d)=b7 b a J:=e;rw[<-this]at f;exact bG hs ho g h f
theorem WL{n m k X Y:V}{d e f:Int}(g:IsFace J n d)(h:IsFace J m e)(i:IsFace J k f)(r:dot n X=d)(t:dot m X=e)(u:dot k X=f)(j:(n,d)≠(m,e))(l:(n,d)≠(k,f))(o:(m,e)≠(k,f))(p:Y∈J)(ne:Y≠X):dot n Y<d\/dot m Y<e\/dot k Y<f:=by
 have q:=lG hs g h i r t u j l o;have a:=g.sup Y p;have b:=h.sup Y p;have c:=i.sup Y p;by_cases z:dot n Y<d\/dot m Y<e\/dot k Y<f
 .exact z
 have s:∀{n:V}{d:Int},dot n X=d->dot n Y=d->dot n (Y-X)=0:=λ{n d} g h=>by
  have:dot n (Y-X)=dot n Y-dot n X:=by simp[dot];grind
  lia
 have:=Z5 q (s r (by lia)) (s t (by lia)) (s u (by lia));exact absurd (by have g:=ir V.x this;have h:=ir V.y this;have i:=ir V.z this;simp at g h i;exact ext (by lia) (by lia) (by lia)) ne
end
section
variable{J qts:List V}{n:V}{d:Int}{m:Mv}
end
def UR{w:V}(h:w≠0):∃a:V,a≠0/\dot w a=0:=by
 rcases bO h with x|x|x
 .exact⟨⟨-w.y,w.x,0⟩,λe=>x (ir V.y e),by simp[dot];grind⟩
 .exact⟨⟨-w.y,w.x,0⟩,λe=>x (by have:=ir V.x e;simp at this;exact this),by simp[dot];grind⟩
 exact⟨⟨-w.z,0,w.x⟩,λe=>x (by have:=ir V.x e;simp at this;exact this),by simp[dot];grind⟩
def OV{J:List V}{X w:V}(l:i9 J)(s:X∈J)(m:∀Y∈J,Y≠X->dot w Y<dot w X):∃n d,IsFace J n d/\dot n X=d:=by
 have t:w≠0:=λz=>by obtain⟨Z,h,e⟩:=l.off (n:=⟨1,0,0⟩) (d:=X.x) (λe=>by have:=ir V.x e;simp at this);have:=m Z h λq=>e (by rw[q];simp[dot]);rw[z]at this;simp[dot]at this
 obtain⟨a,I,L⟩:=UR t;have C:ConeM (X+a-X) (λv=>dot w v<0):=by rw[G3];exact gQ L
 have N:X+a-X≠0:=by rw[G3];exact I
 have O:∀P∈J,dot w (P-X)<0\/cr (X+a-X) (P-X)=0:=λP k=>by
  by_cases e:P=X
  .right;subst e;rw[t8];apply ext<;>simp
  have:=m P k e;exact .inl (by rw[d8];lia)
 obtain⟨Z,h,Q⟩:=l.off (n:=w) (d:=dot w X) t;have T:∃P∈J,dot w (P-X)<0:=⟨Z,h,by have:=m Z h λq=>Q (by rw[q]);rw[d8];lia⟩
 obtain⟨b,g,y,A,g0,ge,B,E,f,sB,U,sP⟩:=N5 C N O T;generalize b7 X (X+a) J=u at*
 obtain⟨n,d⟩:=u;dsimp only at*
 by_cases z:∃Y∈J,dot n Y=d/\cr (b-X) (Y-X)≠0
 .obtain⟨Y,hY,y1,y2⟩:=z;exact⟨n,d,⟨B,f,X,s,b,y,Y,hY,E.symm,U,y1,y2⟩,E.symm⟩
 have na:dot n (b-X)=0:=by rw[d8];lia
 have H:=gQ na;have on:b-X≠0:=λq=>by rw[q]at A;simp[dot]at A
 obtain⟨Z,h,hz⟩:=l.below B.ne f;obtain⟨i,g2,p1,p2,p0,pe,pp,pd,j,o,p,sP2⟩:=N5 H on (J:=J) (λP k=>by
  have:=f P k;by_cases q:dot n P<d
  .exact .inl (by rw[d8];lia)
  exact .inr (aCV λr=>z ⟨P,k,by lia,r⟩)) ⟨Z,h,by rw[d8];lia⟩
 exact⟨_,_,⟨pp,j,X,s,b,y,i,p1,pd.symm,o,p,H.ad1 on p2⟩,pd.symm⟩
def NZ{J:List V}{X w:V}(j:i9 J)(k:J.Pairwise (λa b=>d9 (b-a)))(g:X∈J)(h:∀Y∈J,Y≠X->dot w Y<dot w X):∃f:V×Int,IsFace J f.1 f.2/\X∈c8 J f:=by obtain⟨n,d,i,e⟩:=OV j g h;exact⟨(n,d),i,(i.aa2 k).top (m:=w) (c5.mpr ⟨g,e⟩) λY l ne=>h Y (c5.mp l).1 ne⟩
section
variable{p o:List V} (hs:i9 o) (ho:o.Pairwise (λa b=>d9 (b-a))) (sub:∀X∈p,X∈o) (ex:∀Y∈o,Y∈p\/∃a∈p,∃b∈p,(2:Int)*Y=a+b)
include hs ho sub ex
end
section
variable{J c:List V} (hs:i9 J) (ho:J.Pairwise (λa b=>d9 (b-a))) (bp:c.Pairwise (λa b=>d9 (b-a))) (hc:∀X,X∈c↔∃f:V×Int,IsFace J f.1 f.2/\X∈c8 J f)
include hs ho bp hc
end
def QJ{n a b x:V}(d:n≠0)(e:dot n a=0)(f:dot n b=0)(nx:dot n x=0):i3 n a b*x=i3 n x b*a+i3 n a x*b:=by
 have z:=y9 d e f nx;have g:=ir (λt=>t*n.x) z;have h:=ir (λt=>t*n.y) z;have i:=ir (λt=>t*n.z) z;simp only[i3,dot,cr]at g h i;apply ext
 .simp[i3,dot];grind
 .simp[i3,dot];grind
 simp[i3,dot];grind
def tT:∀ds:List V,∃w:V,∀v∈ds,d9 v->0<dot w v:=by
 intro ds;obtain⟨N,g⟩:∃N:Int,0<N/\∀v∈ds,-N<v.x/\v.x<N/\-N<v.y/\v.y<N/\-N<v.z/\v.z<N:=by
  induction ds with
  |nil=>exact⟨1,by decide,λv d=>nomatch d⟩
  |cons u ds i=>
   obtain⟨N,f,h⟩:=i;refine⟨N+u.x.natAbs+u.y.natAbs+u.z.natAbs+1,by lia,λv d=>?_⟩;rcases aAc.mp d with rfl|d
   .lia
   have:=h v d;lia
 obtain⟨f,h⟩:=g;refine⟨⟨2*N*(2*N),2*N,1⟩,λv d p=>?_⟩;obtain⟨j,k,l,m,n,o⟩:=h v d;simp only[dot,Int.one_mul];unfold d9 at p;rcases p with p|⟨p,q|⟨q,r⟩⟩
 .have a:2*N*(2*N)*1<=2*N*(2*N)*v.x:=aAB (by lia) (aBj (by lia) (by lia));have b:2*N*(-N+1)<=2*N*v.y:=aAB (by lia) (by lia);have e:2*N*(-N+1)+2*N*(2*N)*1=2*(N*N)+2*N:=by grind
  have s:0<N*N:=aAL f f
  lia
 .rw[p,aBX];have b:2*N*1<=2*N*v.y:=aAB (by lia) (by lia)
  lia
 rw[p,q,aBX,aBX];lia
section
variable{J:List V} (hs:i9 J) (ho:J.Pairwise (λa b=>d9 (b-a)))
include hs ho
theorem eZ{n:V}{d:Int}{P v Q:V}(b:IsFace J n d)(a:EdgeOf n (λX=>X∈o7 n d J) P v)(f:EdgeOf n (λX=>X∈o7 n d J) v Q):0<i3 n (Q-v) (P-v)/\∀x:V,dot n x=0->i3 n (Q-v) (P-v)*x=i3 n x (P-v)*(Q-v)+i3 n (Q-v) x*(P-v):=by
 have S:=b.aa2 ho;have g:P≠Q:=λe=>bG hs ho b a (e▸f);have on:∀{X:V},X∈o7 n d J->dot n (X-v)=0:=λh=>by rw[d8,(c5.mp h).2,(c5.mp a.q).2];lia
 refine⟨S.strict f (S.ab1 a) a.ne g,λx i=>QJ b.prim.ne (on f.q) (on a.p) i⟩
theorem zK{n w:V}{d:Int}{P v Q:V}(i:IsFace J n d)(f:EdgeOf n (λX=>X∈o7 n d J) P v)(h:EdgeOf n (λX=>X∈o7 n d J) v Q)(p:0<=dot w (P-v))(q:0<=dot w (Q-v)){X:V}(g:X∈o7 n d J):0<=dot w (X-v):=by
 obtain⟨j,c⟩:=eZ hs ho i f h;have e:=ir (dot w) (c (X-v) (by rw[d8,(c5.mp g).2,(c5.mp f.q).2];lia));rw[i6,u6,i6,i6]at e;have b:=h.left X g;have a:=f.left X g;have k:i3 n (X-v) (P-v)=i3 n (v-P) (X-P):=by simp[i3,dot];grind
 have u:=aBj (show 0<=i3 n (X-v) (P-v)by lia) q;have l:=aBj b p;by_cases z:0<=dot w (X-v)
 .exact z
 have:=aAt j (show dot w (X-v)<0 by lia)
 lia
theorem DC{n w y:V}{d:Int}{P v Q:V}(u:IsFace J n d)(C:EdgeOf n (λX=>X∈o7 n d J) P v)(E:EdgeOf n (λX=>X∈o7 n d J) v Q)(H:dot n y=0)(I:y≠0)(L:dot w y=0)(i:0<=i3 n y (P-v))(j:0<=i3 n (Q-v) y)(N:dot w (P-v)≠0)(l:dot w (Q-v)≠0):(0<dot w (P-v)/\dot w (Q-v)<0)\/(dot w (P-v)<0/\0<dot w (Q-v)):=by
 obtain⟨D0,c⟩:=eZ hs ho u C E;have a:=c y H;have e:=ir (dot w) a;rw[i6,u6,i6,i6,L,aBX]at e;have m:¬(i3 n y (P-v)=0/\i3 n (Q-v) y=0):=λ⟨O,T⟩=>I (by rw[O,T]at a;have o:=ir V.x a;have r:=ir V.y a;have s:=ir V.z a;simp only[pL,pB,pT,OL,MW,PX,aGE,aFJ]at o r s;have k:∀t:Int,i3 n (Q-v) (P-v)*t=0->t=0:=λt U=>(aAu.mp U).resolve_left (by lia);exact ext (k _ o) (k _ r) (k _ s))
 generalize i3 n y (P-v)=A at*
 generalize i3 n (Q-v) y=B at*
 generalize dot w (P-v)=p at*
 generalize dot w (Q-v)=q at*
 rcases aDn N with f|f
 .rcases aDn l with b|b
  .exfalso;have Y:A*q<=0:=aAs i (by lia);have u2:B*p<=0:=aAs j (by lia);have g:A=0:=by
    rcases aAu.mp (show A*q=0 by lia)with z|z
    .exact z
    lia
   have h:B=0:=by
    rcases aAu.mp (show B*p=0 by lia)with z|z
    .exact z
    lia
   exact m ⟨g,h⟩
  exact .inr ⟨f,b⟩
 rcases aDn l with b|b
 .exact .inl ⟨f,b⟩
 exfalso;have Y:0<=A*q:=aBj i (by lia);have u2:0<=B*p:=aBj j (by lia);have g:A=0:=by
  rcases aAu.mp (show A*q=0 by lia)with z|z
  .exact z
  lia
 have h:B=0:=by
  rcases aAu.mp (show B*p=0 by lia)with z|z
  .exact z
  lia
 exact m ⟨g,h⟩
end
def QI{w a b d n1 n2 n:V}(t:w≠0)(a1:dot w a=0)(a2:dot w b=0)(a3:dot w d=0)(b1:dot n1 a=0)(b2:dot n2 b=0)(y:dot n d=0)(o:dot n1 b<0)(f:dot n1 d<0)(g:dot n2 a<0)(i:dot n2 d<0)(j:dot n a<0)(l:dot n b<0):False:=by
 have e:=QJ t a1 a2 a3;have u:=ir (dot n1) e;have v:=ir (dot n2) e;have x:=ir (dot n) e;rw[i6,u6,i6,i6]at u v x;rw[b1]at u;rw[b2]at v;rw[y]at x;have p:a≠0:=λz=>by rw[z]at g;simp[dot]at g
 by_cases z:i3 w a b=0
 .have E:=W0 t a1 a2 z;obtain⟨k,m,H,q⟩:=A6 p E;have I:=ir (dot n1) q;rw[i6,i6,b1]at I;have:=aAt H o
  lia
 generalize i3 w a b=A at*
 generalize i3 w d b=B at*
 generalize i3 w a d=C at*
 rcases aDn z with h|h
 .have J:=aBD h f;have L:=aBD h i;have r:C<0:=by
   by_cases q:C<0
   .exact q
   have:=aAs (show 0<=C by lia) (show dot n1 b<=0 by lia);lia
  have s:B<0:=by
   by_cases q:B<0
   .exact q
   have:=aAs (show 0<=B by lia) (show dot n2 a<=0 by lia);lia
  have:=aBD s j;have:=aBD r l
  lia
 have J:=aAt h f;have L:=aAt h i;have r:0<C:=by
  by_cases q:0<C
  .exact q
  have:=aDU (show C<=0 by lia) (show dot n1 b<=0 by lia);lia
 have s:0<B:=by
  by_cases q:0<B
  .exact q
  have:=aDU (show B<=0 by lia) (show dot n2 a<=0 by lia);lia
 have:=aAt s j;have:=aAt r l
 lia
section
variable{J:List V} (hs:i9 J)
include hs
theorem FU{n w v A B:V}{d:Int}(j:IsFace J n d)(f:A∈o7 n d J)(g:B∈o7 n d J)(i:dot n v=d)(c:cr (A-v) (B-v)≠0)(a:0<dot w (A-v))(b:dot w (B-v)<0):∃y,dot w y=0/\dot n y=0/\∀m e,IsFace J m e->dot m v=e->(m,e)≠(n,d)->dot m y<0:=by
 have on:∀{X:V},X∈o7 n d J->dot n (X-v)=0:=λk=>by rw[d8,(c5.mp k).2,i];lia
 refine⟨(-dot w (B-v))*(A-v)+dot w (A-v)*(B-v),by rw[u6,i6,i6];grind,by rw[u6,i6,i6,on f,on g];simp,λm e h mv ne=>?_⟩;rw[u6,i6,i6];have l:dot m (A-v)<=0:=by have:=h.sup A (c5.mp f).1;rw[d8];lia
 have o:dot m (B-v)<=0:=by have:=h.sup B (c5.mp g).1;rw[d8];lia
 have u:=aAs (show 0<=-dot w (B-v)by lia) l;have x:=aAs (show 0<=dot w (A-v)by lia) o;by_cases z:dot m (A-v)=0/\dot m (B-v)=0
 .exfalso;have p:=B1 z.1 z.2;have r:=B1 (on f) (on g);exact ne (V4 hs h j mv i<|dJ c r p)
 by_cases s:dot m (A-v)=0
 .have t:dot m (B-v)<0:=by
   have:dot m (B-v)≠0:=λq=>z ⟨s,q⟩
   lia
  have:=aAt a t
  lia
 have:=aAt (show 0< -dot w (B-v)by lia) (show dot m (A-v)<0 by lia)
 lia
end
def kA(w:V)(J:List V)(v:V)(f:V×Int):Prop:=∃P Q,EdgeOf f.1 (λX=>X∈o7 f.1 f.2 J) P v/\EdgeOf f.1 (λX=>X∈o7 f.1 f.2 J) v Q/\((0<dot w (P-v)/\dot w (Q-v)<0)\/(dot w (P-v)<0/\0<dot w (Q-v)))
section
variable{J:List V} (hs:i9 J) (ho:J.Pairwise (λa b=>d9 (b-a)))
include hs ho
theorem kA.way{w v:V}{f:V×Int}(g:IsFace J f.1 f.2)(h:kA w J v f):dot f.1 v=f.2/\∃y,dot w y=0/\dot f.1 y=0/\∀m e,IsFace J m e->dot m v=e->(m,e)≠f->dot m y<0:=by
 obtain⟨P,Q,d,i,c⟩:=h;have j:=(c5.mp d.q).2;have k:=(eZ hs ho g d i).1;have l:cr (Q-v) (P-v)≠0:=λz=>by unfold i3 at k;rw[z,C1]at k;lia
 have n:cr (P-v) (Q-v)≠0:=λz=>l (by have o:=ir V.x z;have r:=ir V.y z;have s:=ir V.z z;simp at o r s;apply ext<;>simp<;>grind)
 refine⟨j,?_⟩;rcases c with⟨a,b⟩|⟨a,b⟩
 .exact FU hs g d.p i.q j n a b
 exact FU hs g i.q d.p j l b a
theorem XN{w v:V}{f g k:V×Int}(o:w≠0)(a:IsFace J f.1 f.2)(b:IsFace J g.1 g.2)(d:IsFace J k.1 k.2)(p:kA w J v f)(mg:kA w J v g)(mk:kA w J v k)(e:f≠g)(h:f≠k)(i:g≠k):False:=by obtain⟨v1,y,q,r,j⟩:=p.way hs ho a;obtain⟨l,z,s,t,m⟩:=mg.way hs ho b;obtain⟨v3,A,u,x,n⟩:=mk.way hs ho d;exact QI o q s u r t x (m _ _ a v1 e) (n _ _ a v1 h) (j _ _ b l e.symm) (n _ _ b l i) (j _ _ d v3 h.symm) (m _ _ d v3 i.symm)
end
theorem tH{α:Type}(a b:α->Int):∀l:List α,l≠[]->(∀x∈l,0<b x)->∃x∈l,∀y∈l,a x*b y<=a y*b x
 |[x],_,_=>⟨x,.head _,λy d=>by rw[aAJ.mp d];exact aBy _⟩
 |x::z::l,_,h=>by
  obtain⟨u,e,m⟩:=tH a b (z::l) (by simp) λy d=>h y (.tail _ d);by_cases q:a x*b u<=a u*b x
  .refine⟨x,.head _,λy d=>?_⟩;rcases aAc.mp d with rfl|d
   .exact aBy _
   have g:=aAS q (aAK<|h y<|.tail _ d);have i:=aAS (m y d) (aAK<|h x<|.head _);have f:b u*(a x*b y)<=b u*(a y*b x):=by
    have j:b u*(a x*b y)=a x*b u*b y:=by grind
    have k:b u*(a y*b x)=a y*b u*b x:=by grind
    have n:a u*b x*b y=a u*b y*b x:=by grind
    lia
   exact aFb f (h u<|.tail _ e)
  refine⟨u,.tail _ e,λy d=>?_⟩;rcases aAc.mp d with rfl|d
  .lia
  exact m y d
section
variable{J:List V} (hs:i9 J) (ho:J.Pairwise (λa b=>d9 (b-a)))
include hs ho
theorem zV{v:V}(q:∃f:V×Int,IsFace J f.1 f.2/\v∈c8 J f){n:V}{d:Int}(r:IsFace J n d)(e:dot n v=d):v∈c8 J (n,d):=by
 obtain⟨f,h,l⟩:=q;obtain⟨i,j,o,p,s,t,u,w,x,y⟩:=bR hs ho h l;have z:=(c5.mp<|(h.aa2 ho).aa4 l).1;refine(r.aa2 ho).top (m:=f.1+i.1+j.1) (c5.mpr ⟨z,e⟩) λY g ne=>?_;have g:=(c5.mp g).1;have a:=h.sup Y g;have b:=o.sup Y g;have c:=p.sup Y g;have k:=WL hs ho h o p w x y s t u g ne;have ad:∀Z:V,dot (f.1+i.1+j.1) Z=dot f.1 Z+dot i.1 Z+dot j.1 Z:=λZ=>by simp[dot];grind
 rw[ad,ad]
 lia
theorem mj{w v y:V}{g:V×Int}(hc:∃f:V×Int,IsFace J f.1 f.2/\v∈c8 J f)(i:∀X∈J,X≠v->dot w (X-v)≠0)(h:IsFace J g.1 g.2)(n:dot g.1 v=g.2)(t:dot g.1 y=0)(wy:dot w y=0)(y0:y≠0)(u:∀m e,IsFace J m e->dot m v=e->dot m y<=0):kA w J v g:=by
 have S:=h.aa2 ho;have C:=zV hs ho hc h n;obtain⟨Q,hQ⟩:=V2 S C;obtain⟨P,hP⟩:=qW S (l:=j0 g.1 (o7 g.1 g.2 J)) C;have b:=S.aa1.mp hQ;have d:=S.aa1.mp hP;obtain⟨j,c⟩:=eZ hs ho h d b;have E:=c y t;have a:∀{A B:V}{m:V}{e:Int},IsFace J m e->dot m A=e->dot m v=e->(m,e)≠g->A∈o7 g.1 g.2 J->B∈o7 g.1 g.2 J->cr (A-v) (B-v)≠0->dot m (A-v)=0/\dot m (B-v)<0:=λ{A B m e} H mA mv ne hA I cn=>by
  have k:dot m (A-v)=0:=by rw[d8];lia
  refine⟨k,?_⟩;have mB:dot m (B-v)<=0:=by have:=H.sup B (c5.mp I).1;rw[d8];lia
  by_cases o:dot m (B-v)=0
  .exfalso;have on:∀{X:V},X∈o7 g.1 g.2 J->dot g.1 (X-v)=0:=λhX=>by rw[d8,(c5.mp hX).2,n];lia
   exact ne (V4 hs H h mv n<|dJ cn (B1 (on hA)<|on I)<|B1 k o)
  lia
 have L:cr (Q-v) (P-v)≠0:=λz=>by unfold i3 at j;rw[z,C1]at j;lia
 have c2:cr (P-v) (Q-v)≠0:=λz=>L (by have x1:=ir V.x z;have x2:=ir V.y z;have x3:=ir V.z z;simp at x1 x2 x3;apply ext<;>simp<;>grind)
 obtain⟨N,e1,O,r,p1,v1⟩:=qL hs ho h d;obtain⟨T,e2,U,s,Y,q2⟩:=qL hs ho h b;obtain⟨k,l1⟩:=a O p1 v1 (λq=>r q.symm) d.p b.q c2;obtain⟨o,l2⟩:=a U q2 Y (λq=>s q.symm) b.q d.p L;have k1:=ir (dot N) E;have k2:=ir (dot T) E;rw[i6,u6,i6,i6]at k1 k2;rw[k,aBX,aFJ]at k1;rw[o,aBX,Int.zero_add]at k2;have y1:=u N e1 O v1;have y2:=u T e2 U Y;have A:0<=i3 g.1 y (P-v):=by
  by_cases q:0<=i3 g.1 y (P-v)
  .exact q
  have u1:=aBD (show i3 g.1 y (P-v)<0 by lia) l1;have u2:=aAs (aAK j) y1
  lia
 have B:0<=i3 g.1 (Q-v) y:=by
  by_cases q:0<=i3 g.1 (Q-v) y
  .exact q
  have u1:=aBD (show i3 g.1 (Q-v) y<0 by lia) l2;have u2:=aAs (aAK j) y2
  lia
 exact⟨P,Q,d,b,DC hs ho h d b t y0 wy A B (i P (c5.mp d.p).1 d.ne) (i Q (c5.mp b.q).1 (aBY b.ne))⟩
theorem XG{w v o p:V}(w0:w≠0){fs:List (V×Int)}(n:∀f,f∈fs↔IsFace J f.1 f.2)(hc:∃f:V×Int,IsFace J f.1 f.2/\v∈c8 J f)(Q:∀X∈J,X≠v->dot w (X-v)≠0)(h1:o∈J)(h2:p∈J)(a:0<dot w (o-v))(b:dot w (p-v)<0):∃g∈fs,kA w J v g:=by
 obtain⟨f,L,hr⟩:=id hc;obtain⟨g1,g2,f1,f2,n1,n2,n3,x1,x2,x3⟩:=bR hs ho L hr;have T:=lG hs L f1 f2 x1 x2 x3 n1 n2 n3;obtain⟨d,A⟩:∃y,y=(-dot w (p-v))*(o-v)+dot w (o-v)*(p-v):=⟨_,rfl⟩;have wy:dot w d=0:=by rw[A,u6,i6,i6];grind
 have up:∀{m:V}{e:Int},IsFace J m e->dot m v=e->dot m d<=0:=λ{m e} C mv=>by
  rw[A,u6,i6,i6];have mA:dot m (o-v)<=0:=by have:=C.sup o h1;rw[d8];lia
  have mB:dot m (p-v)<=0:=by have:=C.sup p h2;rw[d8];lia
  have u1:=aAs (show 0<=-dot w (p-v)by lia) mA;have u2:=aAs (show 0<=dot w (o-v)by lia) mB
  lia
 have E:d≠0:=λz=>by
  have e:=pQ hs ho L hr h1 h2 (a:=-dot w (p-v)) (b:=dot w (o-v)) (by lia) a (by
   rw[z]at A;have r:=ir V.x A;have N:=ir V.y A;have O:=ir V.z A;simp only[OL,MW,PX,pL,pB,pT,TV,RW,SB]at r N O;have z1:(0:V).x=0:=rfl;have z2:(0:V).y=0:=rfl;have z3:(0:V).z=0:=rfl;apply ext
   .simp only[OL,pL];grind
   .simp only[MW,pB];grind
   simp only[PX,pT];grind)
  rw[e,t8,C1]at a;lia
 obtain⟨i,U⟩:∃t,t=cr w d:=⟨_,rfl⟩;have Y:dot w i=0:=by rw[U];simp[dot];grind
 have yt:dot d i=0:=by rw[U];simp[dot];grind
 have tne:i≠0:=λz=>by
  rw[U]at z;obtain⟨k,m,hk,q⟩:=A6 w0 z;have r:=ir (dot w) q;rw[i6,i6,wy,aBX]at r;have ww:=u4 w0;rcases aAu.mp r.symm with s|s
  .rw[s]at q;have p1:=ir V.x q;have p2:=ir V.y q;have p3:=ir V.z q;simp only[pL,pB,pT,aGE]at p1 p2 p3;have kk:∀t:Int,k*t=0->t=0:=λt ht=>(aAu.mp ht).resolve_left (by lia);exact E (ext (kk _ p1) (kk _ p2) (kk _ p3))
  lia
 have some:∃t,dot w t=0/\dot d t=0/\∃h:V×Int,IsFace J h.1 h.2/\dot h.1 v=h.2/\0<dot h.1 t:=by
  have j:∀{h:V×Int},IsFace J h.1 h.2->dot h.1 v=h.2->dot h.1 i≠0->∃t,dot w t=0/\dot d t=0/\∃h:V×Int,IsFace J h.1 h.2/\dot h.1 v=h.2/\0<dot h.1 t:=λ{h} B hv q=>by
   have ng:∀u:V,dot u (-i)=-dot u i:=λu=>by simp[dot];grind
   rcases aDn q with l|l
   .exact⟨-i,by rw[ng];lia,by rw[ng];lia,h,B,hv,by rw[ng];lia⟩
   exact⟨i,Y,yt,h,B,hv,l⟩
  by_cases r:dot f.1 i=0
  .by_cases N:dot g1.1 i=0
   .by_cases O:dot g2.1 i=0
    .exact absurd (Z5 T r N O) tne
    exact j f2 x3 O
   exact j f1 x2 N
  exact j L x1 r
 obtain⟨t,Y,yt,h0,hh0,hv0,ht0⟩:=some;obtain⟨h,C,mn⟩:=tH (λh:V×Int=>-dot h.1 d) (λh=>dot h.1 t) (fs.filter λh=>decide (dot h.1 v=h.2)&&decide (0<dot h.1 t)) (λz=>by
  have:h0∈fs.filter λh=>decide (dot h.1 v=h.2)&&decide (0<dot h.1 t):=aAX.mpr ⟨(n h0).mpr hh0,by simp[hv0,ht0]⟩;rw[z]at this;cases this) λx hx=>by have:=(aAX.mp hx).2;simp at this;exact this.2
 have B:=(n h).mp (aAX.mp C).1;have H:=(aAX.mp C).2;simp only[aAQ,decide_eq_true_eq]at H;refine⟨h,(n h).mpr B,mj hs ho hc Q B H.1 (y:=dot h.1 t*d+(-dot h.1 d)*t) (by rw[u6,i6,i6];grind) (by rw[u6,i6,i6,wy,Y];simp) (λz=>?_) λm e I mv=>?_⟩
 .have q:=ir (dot d) z;rw[u6,i6,i6,yt,C1,aBX,aFJ]at q;have yy:=u4 E;have:=aAL H.2 yy
  lia
 rw[u6,i6,i6];have u:=up I mv;have un:=up B H.1;by_cases l:0<dot m t
 .have k:=mn (m,e) (aAX.mpr ⟨(n (m,e)).mpr I,by simp[mv,l]⟩);dsimp only at k;have e1:-dot m d*dot h.1 t=-(dot h.1 t*dot m d):=by grind
  lia
 have k1:=aAs (aAK H.2) u;have k2:=aAs (show 0<=-dot h.1 d by lia) (show dot m t<=0 by lia)
 lia
end
section
open Classical
def cnt{α:Type} (p:α->Prop) (l:List α):Nat:=(l.filter λy=>decide (p y)).length
def V6{α:Type}{p q:α->Prop}{l:List α}(h:∀x∈l,p x↔q x):cnt p l=cnt q l:=by unfold cnt;rw[List.filter_congr λx a=>decide_eq_decide.mpr (h x a)]
def XX{α:Type}{p:α->Prop}{l:List α}(h:∀x∈l,p x):cnt p l=l.length:=by unfold cnt;rw[List.filter_eq_self.mpr λx a=>decide_eq_true (h x a)]
def bq{α:Type}{p:α->Prop}{l:List α}(h:∀x∈l,¬p x):cnt p l=0:=by unfold cnt;rw[List.filter_eq_nil_iff.mpr λx a=>by rw[decide_eq_true_eq];exact h x a];rfl
def oD{α:Type}{l:List α}{p:α->Prop}{x:α}(e:l.Nodup)(f:x∈l)(g:p x)(u:∀y∈l,p y->y=x):cnt p l=1:=by
 have sub:∀y,y∈l.filter (λy=>decide (p y))↔y∈[x]:=λy=>by rw[aAX,aAJ,decide_eq_true_eq];exact⟨λh=>u y h.1 h.2,λh=>by rw[h];exact⟨f,g⟩⟩
 have a:=B6 (e.sublist aCk) (m:=[x]) λy d=>(sub y).mp d;have b:=B6 (l:=[x]) (by simp) (m:=l.filter λy=>decide (p y)) λy d=>(sub y).mpr d;rw[aFK]at a b;unfold cnt
 lia
def cnt_cons{α:Type}{p:α->Prop}(x:α)(l:List α):cnt p (x::l)=(if p x then 1 else 0)+cnt p l:=by
 unfold cnt;by_cases h:p x
 .rw[aFr (by rw[decide_eq_true_eq];exact h),h9 h,aAp];lia
 rw[aFs (by rw[decide_eq_true_eq];exact h),ia h];lia
theorem bH{α:Type}{p q:α->Prop}:∀l:List α,cnt p l=cnt (λy=>p y/\q y) l+cnt (λy=>p y/\¬q y) l
 |[]=>rfl
 |x::l=>by
  have d:=bH (p:=p) (q:=q) l;rw[cnt_cons,cnt_cons,cnt_cons,d];by_cases a:p x
  .by_cases b:q x
   .simp[a,b];lia
   simp[a,b];lia
  simp[a]
theorem iF(h:V->Int):∀l:List V,l≠[]->∃x∈l,∀y∈l,h y<=h x
 |[x],_=>⟨x,.head _,λy a=>by rw[aAJ.mp a];exact aBy _⟩
 |x::z::l,_=>by
  obtain⟨u,b,m⟩:=iF h (z::l) (by simp);by_cases q:h u<=h x
  .refine⟨x,.head _,λy a=>?_⟩;rcases aAc.mp a with rfl|a
   .exact aBy _
   have:=m y a;lia
  refine⟨u,.tail _ b,λy a=>?_⟩;rcases aAc.mp a with rfl|a
  .lia
  exact m y a
def IZ{α β:Type}(R:α->β->Prop)(e:List α):∀bs:List β,(e.map λa=>cnt (R a) bs).sum=(bs.map λb=>cnt (λa=>R a b) e).sum:=by
 intro bs;induction e with
 |nil=>
  induction bs with
  |nil=>rfl
  |cons b bs d=>rw[aAk,aAZ,<-d];rfl
 |cons a e d=>
  rw[aAk,aAZ,d];clear d;induction bs with
  |nil=>rfl
  |cons b bs d=>
   simp only[aAk,aAZ,cnt_cons]at d⊢
   lia
def Nu(w:V)(J:List V)(v:V)(f:V×Int):Prop:=∃Q,EdgeOf f.1 (λX=>X∈o7 f.1 f.2 J) v Q/\0<dot w (Q-v)
def Pu(w:V)(J:List V)(v:V)(f:V×Int):Prop:=∃P,EdgeOf f.1 (λX=>X∈o7 f.1 f.2 J) P v/\0<dot w (P-v)
structure Hgt(w:V)(J:List V):Prop where
 ne:w≠0
 inj:∀X∈J,∀Y∈J,X≠Y->dot w (X-Y)≠0
section
variable{J:List V}{w:V} (hs:i9 J) (ho:J.Pairwise (λa b=>d9 (b-a))) (hw:Hgt w J)
include hs ho hw
theorem aL{f:V×Int}(h:IsFace J f.1 f.2){v:V}(d:v∈c8 J f):∃P Q,EdgeOf f.1 (λX=>X∈o7 f.1 f.2 J) P v/\EdgeOf f.1 (λX=>X∈o7 f.1 f.2 J) v Q/\(Nu w J v f↔0<dot w (Q-v))/\(Pu w J v f↔0<dot w (P-v))/\dot w (P-v)≠0/\dot w (Q-v)≠0:=by have S:=h.aa2 ho;obtain⟨Q,i⟩:=V2 S d;obtain⟨P,j⟩:=qW S (l:=j0 f.1 (o7 f.1 f.2 J)) d;have b:=S.aa1.mp i;have a:=S.aa1.mp j;have g:=(c5.mp a.q).1;refine⟨P,Q,a,b,⟨λ⟨m,e,l⟩=>by rw[<-e.next b];exact l,λl=>⟨Q,b,l⟩⟩,⟨λ⟨k,e,l⟩=>?_,λl=>⟨P,a,l⟩⟩,hw.inj P (c5.mp a.p).1 v g a.ne,hw.inj Q (c5.mp b.q).1 v g (aBY b.ne)⟩;have:k=P:=e.prev a;rw[<-this];exact l
theorem iR{f:V×Int}(d:IsFace J f.1 f.2){v:V}(e:v∈c8 J f):kA w J v f↔(Nu w J v f↔¬Pu w J v f):=by
 obtain⟨P,Q,a,b,n,p,i,j⟩:=aL hs ho hw d e;rw[n,p];constructor
 .rintro⟨k,l,g,h,c⟩;rw[g.prev a,h.next b]at c
  lia
 intro c;exact⟨P,Q,a,b,by lia⟩
theorem EM{f:V×Int}(d:IsFace J f.1 f.2):(c8 J f).length=2+cnt (λv=>kA w J v f) (c8 J f):=by
 have S:=d.aa2 ho;have E:(c8 J f).Nodup:=S.aa3;obtain⟨I,L,N,_,_⟩:=S.aa7;have ne:c8 J f≠[]:=λz=>by rw[show c8 J f=I::L from N]at z;cases z
 have sub:∀v∈c8 J f,v∈o7 f.1 f.2 J:=λv m=>S.aa4 m;have l:∀X Y:V,dot w (X-Y)=dot w X-dot w Y:=λX Y=>d8 ..;have s:∀X Y:V,dot (-w) (X-Y)=-dot w (X-Y):=λX Y=>by simp[dot];grind
 obtain⟨a,o,t⟩:=iF (λv=>-dot w v) _ ne;obtain⟨b,r,u⟩:=iF (λv=>dot w v) _ ne;have O:cnt (λv=>Nu w J v f/\Pu w J v f) (c8 J f)=1:=by
  refine oD E o ?_ λy g z=>?_
  .obtain⟨P,Q,i,j,n,p,A,B⟩:=aL hs ho hw d o;have T:=t P (S.ab1 i);have C:=t Q (fB S<|S.aa1.mpr j).2;rw[n,p];have:=l P a;have:=l Q a
   lia
  obtain⟨P,Q,i,j,n,p,A,B⟩:=aL hs ho hw d g;have k:=zK hs ho d i j (w:=w) (by have:=p.mp z.2;lia) (by have:=n.mp z.1;lia) (sub a o);have C:=t y g;by_cases e:y=a
  .exact e
  have:=hw.inj a (c5.mp<|sub a o).1 y (c5.mp<|sub y g).1 (aBY e);have:=l a y
  lia
 have H:cnt (λv=>¬Nu w J v f/\¬Pu w J v f) (c8 J f)=1:=by
  refine oD E r ?_ λy g z=>?_
  .obtain⟨P,Q,i,j,n,p,A,B⟩:=aL hs ho hw d r;have T:=u P (S.ab1 i);have C:=u Q (fB S<|S.aa1.mpr j).2;rw[n,p];have:=l P b;have:=l Q b
   lia
  obtain⟨P,Q,i,j,n,p,A,B⟩:=aL hs ho hw d g;rw[n,p]at z;have k:=zK hs ho d i j (w:=-w) (by rw[s];lia) (by rw[s];lia) (sub b r);rw[s]at k;have C:=u y g;by_cases e:y=b
  .exact e
  have:=hw.inj b (c5.mp<|sub b r).1 y (c5.mp<|sub y g).1 (aBY e);have:=l b y
  lia
 have U:=bH (p:=λv=>True) (q:=λv=>kA w J v f) (c8 J f);have c2:=bH (p:=λv=>True/\¬kA w J v f) (q:=λv=>Nu w J v f) (c8 J f);have e0:cnt (λ_=>True) (c8 J f)=(c8 J f).length:=XX λ_ _=>trivial;have e1:cnt (λy=>True/\kA w J y f) (c8 J f)=cnt (λv=>kA w J v f) (c8 J f):=V6 λv _=>⟨λh=>h.2,λh=>⟨trivial,h⟩⟩;have e2:cnt (λy=>(True/\¬kA w J y f)/\Nu w J y f) (c8 J f)=cnt (λv=>Nu w J v f/\Pu w J v f) (c8 J f):=V6 λv m=>by rw[iR hs ho hw d m];by_cases x:Nu w J v f<;>by_cases y:Pu w J v f<;>simp[x,y]
 have e3:cnt (λy=>(True/\¬kA w J y f)/\¬Nu w J y f) (c8 J f)=cnt (λv=>¬Nu w J v f/\¬Pu w J v f) (c8 J f):=V6 λv m=>by rw[iR hs ho hw d m];by_cases x:Nu w J v f<;>by_cases y:Pu w J v f<;>simp[x,y]
 lia
omit hs ho hw in
theorem HH{α β:Type}(T:α->β->Prop){l:List α}{m:List β}(f:l.Nodup)(h:∀a∈l,∃b∈m,T a b)(inj:∀a∈l,∀o∈l,∀b,T a b->T o b->a=o):l.length<=m.length:=by
 match l,f,h,inj with
 |[],_,_,_=>exact aAY _
 |x::l,f,h,inj=>
  obtain⟨p,_,_⟩:=h x (.head _)
  let φ:α->β:=λa=>if q:∃b∈m,T a b then q.choose else p
  have g:∀a∈x::l,φ a∈m/\T a (φ a):=λa i=>by have q:=h a i;have e:φ a=q.choose:=dif_pos q;rw[e];exact q.choose_spec
  have j:((x::l).map φ).Nodup:=by
   have n:∀k:List α,(∀a∈k,a∈x::l)->k.Nodup->(k.map φ).Nodup:=λk=>by
    induction k with
    |nil=>intro _ _;exact .nil
    |cons a k r=>intro sub s;obtain⟨t,u⟩:=aAH.mp s;refine aAH.mpr ⟨λz=>?_,r (λb d=>sub b (.tail _ d)) u⟩;obtain⟨b,d,e⟩:=aAj.mp z;have:=inj a (sub a<|.head _) b (sub b<|.tail _ d) (φ a) (g a<|sub a<|.head _).2 (by rw[<-e];exact(g b<|sub b<|.tail _ d).2);exact t (this▸d)
   exact n _ (λ_ h=>h) f
  have:=B6 j (m:=m) λb d=>by obtain⟨a,i,rfl⟩:=aAj.mp d;exact(g a i).1
  rw[aAh]at this;exact this
theorem BA{f:V×Int}(a:IsFace J f.1 f.2){P Q:V}(h:EdgeOf f.1 (λX=>X∈o7 f.1 f.2 J) P Q):P∈c8 J f/\Q∈c8 J f:=by have S:=a.aa2 ho;exact fB S (S.aa1.mpr h)
theorem uV{f g:V×Int}(a:IsFace J f.1 f.2)(b:IsFace J g.1 g.2){P Q:V}(d:EdgeOf f.1 (λX=>X∈o7 f.1 f.2 J) P Q)(e:EdgeOf g.1 (λX=>X∈o7 g.1 g.2 J) P Q):f=g:=AQ hs ho a b ((a.aa2 ho).aa1.mpr d) ((b.aa2 ho).aa1.mpr e)
theorem a0n{fs:List (V×Int)}(t:fs.Nodup)(d:∀f,f∈fs↔IsFace J f.1 f.2)(v:V):cnt (λf=>v∈c8 J f/\Nu w J v f) fs=cnt (λf=>v∈c8 J f/\Pu w J v f) fs:=by
 have h:∀{p:V×Int->Prop}{f:V×Int},f∈fs.filter (λy=>decide (p y))↔f∈fs/\p f:=λ{p f}=>by rw[aAX,decide_eq_true_eq]
 unfold cnt;refine aFL ?_ ?_
 .refine HH (λf g=>∃Q,EdgeOf f.1 (λX=>X∈o7 f.1 f.2 J) v Q/\EdgeOf g.1 (λX=>X∈o7 g.1 g.2 J) Q v/\IsFace J g.1 g.2) (t.sublist aCk) (λf i=>?_) λf i n j g ⟨Q,a,b,_⟩ ⟨o,q,r,_⟩=>?_
  .obtain⟨s,u,Q,e,l⟩:=h.mp i;obtain⟨k,m⟩:=Y9 hs ho ((d f).mp s) e;exact⟨_,h.mpr ⟨(d _).mpr k,(BA hs ho hw k m).2,Q,m,l⟩,Q,e,m,k⟩
  have:Q=o:=b.prev r;subst this;exact uV hs ho hw ((d f).mp (h.mp i).1) ((d n).mp (h.mp j).1) a q
 refine HH (λf g=>∃P,EdgeOf f.1 (λX=>X∈o7 f.1 f.2 J) P v/\EdgeOf g.1 (λX=>X∈o7 g.1 g.2 J) v P/\IsFace J g.1 g.2) (t.sublist aCk) (λf i=>?_) λf i n j g ⟨Q,a,b,_⟩ ⟨o,q,r,_⟩=>?_
 .obtain⟨s,u,P,e,l⟩:=h.mp i;obtain⟨k,m⟩:=Y9 hs ho ((d f).mp s) e;exact⟨_,h.mpr ⟨(d _).mpr k,(BA hs ho hw k m).1,P,m,l⟩,P,e,m,k⟩
 have:Q=o:=b.next r;subst this;exact uV hs ho hw ((d f).mp (h.mp i).1) ((d n).mp (h.mp j).1) a q
omit hs ho hw in
theorem VX{α:Type}{p:α->Prop}{l:List α}(i:l.Nodup)(h:∀a∈l,∀b∈l,∀c∈l,p a->p b->p c->a≠b->a≠c->b≠c->False):cnt p l<=2:=by
 have f:∀k:List α,k.Nodup->(∀a∈k,a∈l/\p a)->k.length<=2:=λk d e=>by
  match k,d,e with
  |[],_,_=>simp
  |[_],_,_=>simp
  |[_,_],_,_=>simp
  |a::b::c::k,d,e=>
   exfalso;obtain⟨j,m⟩:=e a (by simp);obtain⟨n,o⟩:=e b (by simp);obtain⟨q,r⟩:=e c (by simp);refine h a j b n c q m o r ?_ ?_ ?_
   .rintro rfl;simp at d
   .rintro rfl;simp at d
   rintro rfl;simp at d
 exact f _ (i.sublist aCk) λa g=>by rw[aAX,decide_eq_true_eq]at g;exact g
omit hs ho hw in
theorem WU{α:Type}{p:α->Prop}{l:List α}{x:α}(b:x∈l)(d:p x):1<=cnt p l:=aDj (a:=x) (aAX.mpr ⟨b,decide_eq_true d⟩)
theorem BZ{fs:List (V×Int)}(l:fs.Nodup)(d:∀f,f∈fs↔IsFace J f.1 f.2){v n o:V}(r:∃f:V×Int,IsFace J f.1 f.2/\v∈c8 J f)(s:n∈J)(t:o∈J)(a:0<dot w (n-v))(b:dot w (o-v)<0):cnt (λf=>v∈c8 J f/\kA w J v f) fs=2:=by
 have u:v∈J:=by obtain⟨f,i,z⟩:=r;exact(c5.mp<|(i.aa2 ho).aa4 z).1
 have e:=a0n hs ho hw l d v;have O:=bH (p:=λf=>v∈c8 J f/\Nu w J v f) (q:=λf=>Pu w J v f) fs;have T:=bH (p:=λf=>v∈c8 J f/\Pu w J v f) (q:=λf=>Nu w J v f) fs;have U:=bH (p:=λf=>v∈c8 J f/\kA w J v f) (q:=λf=>Nu w J v f) fs;have Y:cnt (λf=>(v∈c8 J f/\Nu w J v f)/\Pu w J v f) fs=cnt (λf=>(v∈c8 J f/\Pu w J v f)/\Nu w J v f) fs:=V6 λf _=>⟨λh=>⟨⟨h.1.1,h.2⟩,h.1.2⟩,λh=>⟨⟨h.1.1,h.2⟩,h.1.2⟩⟩;have e2:cnt (λf=>(v∈c8 J f/\kA w J v f)/\Nu w J v f) fs=cnt (λf=>(v∈c8 J f/\Nu w J v f)/\¬Pu w J v f) fs:=V6 λf i=>by
  by_cases q:v∈c8 J f
  .rw[iR hs ho hw ((d f).mp i) q];by_cases x:Nu w J v f<;>by_cases y:Pu w J v f<;>simp[x,y,q]
  simp[q]
 have e3:cnt (λf=>(v∈c8 J f/\kA w J v f)/\¬Nu w J v f) fs=cnt (λf=>(v∈c8 J f/\Pu w J v f)/\¬Nu w J v f) fs:=V6 λf i=>by
  by_cases q:v∈c8 J f
  .rw[iR hs ho hw ((d f).mp i) q];by_cases x:Nu w J v f<;>by_cases y:Pu w J v f<;>simp[x,y,q]
  simp[q]
 have le:cnt (λf=>v∈c8 J f/\kA w J v f) fs<=2:=VX l λf i g j k A B C E H I L=>XN hs ho hw.ne ((d f).mp i) ((d g).mp j) ((d k).mp A) B.2 C.2 E.2 H I L;have ge:1<=cnt (λf=>v∈c8 J f/\kA w J v f) fs:=by obtain⟨g,j,m⟩:=XG hs ho hw.ne d r (λX N ne=>hw.inj X N v u ne) s t a b;obtain⟨P,Q,p,q,_⟩:=id m;exact WU j ⟨(BA hs ho hw ((d g).mp j) p).2,m⟩
 lia
end
end
section
open Classical
def VA{α:Type}{p:α->Prop}{l m:List α}(f:l.Nodup)(g:m.Nodup)(sub:∀x∈l,x∈m):cnt p l=cnt (λx=>x∈l/\p x) m:=by
 have a:∀{q:α->Prop}{k:List α}{x:α},x∈k.filter (λy=>decide (q y))↔x∈k/\q x:=λ{q k x}=>by rw[aAX,decide_eq_true_eq]
 unfold cnt;refine aFL (B6 (f.sublist aCk) λx d=>?_) (B6 (g.sublist aCk) λx d=>?_)
 .obtain⟨b,e⟩:=a.mp d;exact a.mpr ⟨sub x b,b,e⟩
 obtain⟨_,b,e⟩:=a.mp d;exact a.mpr ⟨b,e⟩
theorem HQ{α:Type}(g:α->Nat)(p:α->Prop):∀l:List α,(∀x∈l,p x->g x=0)->(∀x∈l,¬p x->g x=2)->(l.map g).sum+2*cnt p l=2*l.length
 |[],_,_=>rfl
 |x::l,b,d=>by
  have e:=HQ g p l (λy a=>b y (.tail _ a)) λy a=>d y (.tail _ a);rw[aAk,aAZ,cnt_cons,aAp];by_cases q:p x
  .rw[b x (.head _) q,h9 q];lia
  rw[d x (.head _) q,ia q];lia
def kq(J:List V)(d:i9 J):∃w,Hgt w J:=by
 obtain⟨w,h⟩:=tT (J.flatMap λX=>J.map λY=>X-Y);have k:∀X∈J,∀Y∈J,d9 (X-Y)->0<dot w (X-Y):=λX a Y b p=>h _ (aAV.mpr ⟨X,a,aAI b⟩) p;have inj:∀X∈J,∀Y∈J,X≠Y->dot w (X-Y)≠0:=λX a Y b ne=>by
  have j:dot w (X-Y)=-dot w (Y-X):=by simp[dot];grind
  rcases K4 X Y with e|e|e
  .exact absurd e ne
  .have:=k X a Y b e;lia
  have:=k Y b X a e;lia
 refine⟨w,λz=>?_,inj⟩;obtain⟨A,f,B,g,C,l,E,m,e⟩:=d;have i:B≠A:=λq=>e (by rw[q,t8];simp[i3,dot]);exact inj B g A f i (by rw[z];simp[dot])
variable{J:List V} (hs:i9 J) (ho:J.Pairwise (λa b=>d9 (b-a)))
include hs ho
theorem KP{fs:List (V×Int)}(U:fs.Nodup)(d:∀f,f∈fs↔IsFace J f.1 f.2)(ne:fs≠[]){c:List V}(nc:c.Nodup)(I:∀X,X∈c↔∃f:V×Int,IsFace J f.1 f.2/\X∈c8 J f):(fs.map λf=>(c8 J f).length).sum+4=2*fs.length+2*c.length:=by
 obtain⟨w,A⟩:=kq J hs;have C:∀X∈c,X∈J:=λX hX=>by obtain⟨f,u,hr⟩:=(I X).mp hX;exact(c5.mp<|(u.aa2 ho).aa4 hr).1
 have H:∀X Y:V,dot w (X-Y)=dot w X-dot w Y:=λX Y=>d8 ..;obtain⟨j,hf0⟩:∃j,j∈fs:=by
  match fs,ne with
  |f::_,_=>exact⟨f,.head _⟩
 have B:=(d j).mp hf0;obtain⟨r,s,t,l,er⟩:=I9 ho B;have L:r∈c:=(I r).mpr ⟨j,B,by show r∈j0 j.1 (o7 j.1 j.2 J);rw[er];simp⟩;have sc:s∈c:=(I s).mpr ⟨j,B,by show s∈j0 j.1 (o7 j.1 j.2 J);rw[er];simp⟩;have rs:r≠s:=λq=>by have:=(B.aa2 ho).aa3;rw[er,q]at this;simp at this
 have cne:c≠[]:=λz=>by rw[z]at L;cases L
 obtain⟨a,ha,N⟩:=iF (λv=>-dot w v) c cne;obtain⟨b,hb,O⟩:=iF (λv=>dot w v) c cne;have ab:a≠b:=λq=>by
  have e:∀x∈c,dot w x=dot w a:=λx o=>by
   have:=N x o;have:=O x o;rw[<-q]at this
   lia
  exact A.inj r (C r L) s (C s sc) rs (by rw[H,e r L,e s sc];lia)
 have vv:∀f∈fs,∀x∈c8 J f,x∈c:=λf u x o=>(I x).mpr ⟨f,(d f).mp u,o⟩;have s1:(fs.map λf=>(c8 J f).length).sum=2*fs.length+(fs.map λf=>cnt (λv=>v∈c8 J f/\kA w J v f) c).sum:=by
  have key:∀E:List (V×Int),(∀f∈E,f∈fs)->(E.map λf=>(c8 J f).length).sum=2*E.length+(E.map λf=>cnt (λv=>v∈c8 J f/\kA w J v f) c).sum:=λE=>by
   induction E with
   |nil=>intro _;rfl
   |cons f E ih=>
    intro h;have i:=ih λg hg=>h g (.tail _ hg);have u:=(d f).mp (h f<|.head _);have k:=EM hs ho A u;have U:(c8 J f).Nodup:=(u.aa2 ho).aa3;rw[VA (l:=c8 J f) (p:=λv=>kA w J v f) U nc (vv f<|h f<|.head _)]at k;rw[aAk,aAZ,aAk,aAZ,aAp,i,k]
    lia
  exact key fs λ_ h=>h
 have s2:=IZ (λ(f:V×Int) v=>v∈c8 J f/\kA w J v f) fs c;have no:∀x∈c,(x=a\/x=b)->cnt (λf=>x∈c8 J f/\kA w J x f) fs=0:=λx o q=>bq λf u ⟨h1,h2⟩=>by
  have T:=(d f).mp u;obtain⟨P,Q,e1,e2,n,p,p0,q0⟩:=aL hs ho A T h1;have hP:=vv f u P (BA hs ho A T e1).1;have hQ:=vv f u Q (BA hs ho A T e2).2;have m:=(iR hs ho A T h1).mp h2;rw[n,p]at m;have d1:=H P x;have d2:=H Q x;rcases q with rfl|rfl
  .have:=N P hP;have:=N Q hQ;lia
  have:=O P hP;have:=O Q hQ;lia
 have yes:∀x∈c,¬(x=a\/x=b)->cnt (λf=>x∈c8 J f/\kA w J x f) fs=2:=λx o q=>by have n1:=A.inj b (C b hb) x (C x o) (λz=>q (.inr z.symm));have n2:=A.inj a (C a ha) x (C x o) (λz=>q (.inl z.symm));have:=O x o;have:=N x o;rw[H]at n1 n2;exact BZ hs ho A U d ((I x).mp o) (C b hb) (C a ha) (by rw[H];lia) (by rw[H];lia)
 have s3:=HQ (λv=>cnt (λf=>v∈c8 J f/\kA w J v f) fs) (λx=>x=a\/x=b) c no yes;have two:cnt (λx=>x=a\/x=b) c=2:=by
  have k:=bH (p:=λx=>x=a\/x=b) (q:=λx=>x=a) c;have k1:cnt (λy=>(y=a\/y=b)/\y=a) c=1:=oD nc ha ⟨.inl rfl,rfl⟩ λy _ h=>h.2;have k2:cnt (λy=>(y=a\/y=b)/\¬y=a) c=1:=oD nc hb ⟨.inr rfl,λq=>ab q.symm⟩ λy _ h=>h.1.resolve_left h.2
  lia
 lia
end
section
open Classical
variable{J:List V} (hs:i9 J) (ho:J.Pairwise (λa b=>d9 (b-a))) {fs:List (V×Int)} (hfs:∀f,f∈fs↔IsFace J f.1 f.2)
include hs ho hfs
theorem zQ{P Q:V}:(P,Q)∈iI J fs↔∃f:V×Int,IsFace J f.1 f.2/\EdgeOf f.1 (λX=>X∈o7 f.1 f.2 J) P Q:=by
 unfold iI;rw[aAV];constructor
 .rintro⟨f,a,h⟩;exact⟨f,(hfs f).mp a,(((hfs f).mp a).aa2 ho).aa1.mp h⟩
 rintro⟨f,a,h⟩;exact⟨f,(hfs f).mpr a,(a.aa2 ho).aa1.mpr h⟩
theorem uT{P Q:V}(h:(P,Q)∈iI J fs):(Q,P)∈iI J fs:=by obtain⟨f,a,e⟩:=(zQ hs ho hfs).mp h;obtain⟨b,d⟩:=Y9 hs ho a e;exact(zQ hs ho hfs).mpr ⟨_,b,d⟩
theorem JF(a:fs.Nodup)(ne:fs≠[]){c:List V}(b:c.Nodup)(d:∀X,X∈c↔∃f:V×Int,IsFace J f.1 f.2/\X∈c8 J f):fs.length+4<=2*c.length/\(fs.map λf=>(c8 J f).length).sum+12<=6*c.length:=by have g:=KP hs ho a hfs ne b d;have h:=mZ hs ho (fs:=fs) λf e=>(hfs f).mp e;constructor<;>lia
end
section
open Classical
variable{J:List V} (hs:i9 J) (ho:J.Pairwise λa b=>d9 (b-a)) {fs:List (V×Int)} (hfs:∀f,f∈fs↔IsFace J f.1 f.2)
include hs ho hfs
theorem gE(d:fs.Nodup)(ne:fs≠[]):fs.length+4<=2*J.length/\(fs.map λf=>(c8 J f).length).sum+12<=6*J.length:=by
 have e:J.Nodup:=ho.imp λ{a b} h q=>by rw[q]at h;exact u0 h h
 have g:∀X,X∈J.filter (λX=>decide (∃f:V×Int,IsFace J f.1 f.2/\X∈c8 J f))↔∃f:V×Int,IsFace J f.1 f.2/\X∈c8 J f:=λX=>by rw[aAX,decide_eq_true_eq];exact⟨λh=>h.2,λh=>⟨by obtain⟨f,i,j⟩:=h;exact(c5.mp<|(i.aa2 ho).aa4 j).1,h⟩⟩
 have k:=JF hs ho hfs d ne (e.sublist aCk) g;have:=aFM (λX=>decide (∃f:V×Int,IsFace J f.1 f.2/\X∈c8 J f)) J;constructor<;>lia
end
def jZ:List V->V
 |[]=>0
 |a::l=>a+jZ l
def IJ(l m:List V):jZ (l++m)=jZ l+jZ m:=by
 induction l with
 |nil=>apply ext<;>simp[jZ]
 |cons a l b=>rw[aAO,jZ,jZ,b];apply ext<;>simp<;>lia
def qC{l m:List V}(h:l.Perm m):jZ l=jZ m:=by
 induction h with
 |nil=>rfl
 |cons a _ d=>rw[jZ,jZ,d]
 |swap a b l=>simp only[jZ];apply ext<;>simp<;>lia
 |trans _ _ e f=>exact e.trans f
def ar(o:V)(l:List (V×V)):V:=jZ (l.map λe=>cr (e.1-o) (e.2-o))
def R4(o:V)(e:V×V)(l:List (V×V)):ar o (e::l)=cr (e.1-o) (e.2-o)+ar o l:=rfl
def mz(o:V)(l m:List (V×V)):ar o (l++m)=ar o l+ar o m:=by unfold ar;rw[aBh,IJ]
def IE{o:V}{l m:List (V×V)}(h:l.Perm m):ar o l=ar o m:=qC (h.map _)
def ck(o:V)(l:List (V×V)):ar o l=ar 0 l+(jZ (l.map λe=>cr o e.1)-jZ (l.map λe=>cr o e.2)):=by
 induction l with
 |nil=>apply ext<;>simp[ar,jZ]
 |cons e l a=>rw[R4,R4,a];simp only[aAk,jZ];apply ext<;>simp<;>grind
def wT(l:List V):(u9 l).map (·.1)=l:=by
 unfold u9;rw[aFy];match l with
 |[]=>simp
 |a::r=>simp
def IK(l:List V):((u9 l).map (·.2)).Perm l:=by
 unfold u9;match l with
 |[]=>exact aGf _
 |a::r=>rw[List.map_snd_zip (by simp)];simp only[List.tail_cons,List.take_succ_cons,List.take_zero];exact aEO a r
def pj(o:V)(l:List V):ar o (u9 l)=ar 0 (u9 l):=by
 have a:(u9 l).map (λe=>cr o e.1)=((u9 l).map (·.1)).map (cr o):=by rw[aBd];rfl
 have b:(u9 l).map (λe=>cr o e.2)=((u9 l).map (·.2)).map (cr o):=by rw[aBd];rfl
 rw[ck,a,b,wT,qC ((IK l).map (cr o))];apply ext<;>simp
def tx(a:V)(r:List V):ar a (u9 (a::r))=ar a (j7 r):=by
 match r with
 |[]=>simp[u9,j7,ar,jZ];apply ext<;>simp
 |b::r=>
  have e:u9 (a::b::r)=j7 (a::b::r++[a]):=by rw[<-bD];rfl
  have d:j7 (a::b::r++[a])=(a,b)::j7 (b::r++[a]):=rfl;have g:∀(x:V) (l:List V),ar a (j7 (x::l++[a]))=ar a (j7 (x::l)):=λx l=>by
   induction l generalizing x with
   |nil=>simp[j7,ar,jZ];apply ext<;>simp
   |cons y l f=>show ar a ((x,y)::j7 (y::l++[a]))=ar a ((x,y)::j7 (y::l));rw[R4,R4,f]
  rw[e,d,R4,g];apply ext<;>simp
def XB{α:Type}(o:V)(f:α->List (V×V))(l:List α):ar o (l.flatMap f)=jZ (l.map λx=>ar o (f x)):=by
 induction l with
 |nil=>rfl
 |cons a l b=>rw[aFh,mz,b];rfl
def oA(w:V)(l:List V):dot (jZ l) w=(l.map λv=>dot v w).sum:=by
 induction l with
 |nil=>simp[jZ,dot]
 |cons a l b=>rw[aAk,aAZ,<-b,jZ];simp[dot];grind
def BI{n u v:V}(a:dot n u=0)(b:dot n v=0)(w:V):dot n n*dot (cr u v) w=dot n (cr u v)*dot n w:=by
 have z:=B1 a b;have e:dot n n*dot (cr u v) w-dot n (cr u v)*dot n w=dot (cr n<|cr u v) (cr n w):=by simp[dot];grind
 rw[z]at e;have:dot (0:V) (cr n w)=0:=by simp[dot]
 lia
section
variable{n:V}{d:Int}{l:List (V×V)}{a:V}
def NW(m:dot n a=d)(b:∀e∈l,dot n e.1=d/\dot n e.2=d)(w:V):dot n n*dot (ar a l) w=dot n (ar a l)*dot n w:=by
 induction l with
 |nil=>simp[ar,jZ,dot]
 |cons e l f=>
  have h:=b e (.head _);have i:=f λe g=>b e (.tail _ g);have c:=BI (n:=n) (u:=e.1-a) (v:=e.2-a) (by rw[d8];lia) (by rw[d8];lia) w;rw[R4];have j:∀x y:V,dot (x+y) w=dot x w+dot y w:=λx y=>by simp[dot];grind
  have k:∀x y:V,dot n (x+y)=dot n x+dot n y:=λx y=>by simp[dot];grind
  rw[j,k];grind
end
section
open Classical
variable{J:List V} (hs:i9 J) (ho:J.Pairwise (λa b=>d9 (b-a)))
include hs ho
theorem HL{f:V×Int}(o:IsFace J f.1 f.2):0<dot f.1 (ar 0 (u9 (c8 J f)))/\∀w,dot f.1 f.1*dot (ar 0 (u9 (c8 J f))) w=dot f.1 (ar 0 (u9 (c8 J f)))*dot f.1 w:=by
 have S:=o.aa2 ho;obtain⟨a,b,c,r,e⟩:=I9 ho o;have e:c8 J f=a::b::c::r:=e;have on:∀X∈c8 J f,dot f.1 X=f.2:=λX k=>(c5.mp<|S.aa4 k).2;have s:(c8 J f).Nodup:=S.aa3;have u:∀p∈u9 (c8 J f),EdgeOf f.1 (λX=>X∈o7 f.1 f.2 J) p.1 p.2:=λp d=>S.pair d;have g:∀p∈u9 (c8 J f),p.1∈c8 J f/\p.2∈c8 J f:=λp d=>by
  constructor
  .rw[<-wT (c8 J f)];exact aAI d
  exact(IK<|c8 J f).mem_iff.mp (aAI d)
 rw[<-pj a];refine⟨?_,NW (on a (by rw[e];exact .head _)) λp d=>⟨on _ (g p d).1,on _ (g p d).2⟩⟩;rw[e,tx];rw[e]at s;have t:∀X∈b::c::r,a≠X:=λX k z=>(aAH.mp s).1 (z▸k);have sub:∀p∈j7 (b::c::r),p∈u9 (c8 J f):=λp d=>by
  have v:u9 (a::b::c::r)=j7 (a::b::c::r++[a]):=by rw[<-bD];rfl
  rw[e,v];exact bZ _ _ _ _ (aAe _ d)
 have A:∀(x:V) (l:List V) (p:V×V),p∈j7 (x::l)->p.1∈x::l/\p.2∈x::l:=λx l=>by
  induction l generalizing x with
  |nil=>intro p d;cases d
  |cons y l j=>
   intro p d;rcases aAc.mp d with rfl|d
   .exact⟨.head _,.tail _ (.head _)⟩
   exact⟨.tail _ (j y p d).1,.tail _ (j y p d).2⟩
 have i:∀p∈j7 (b::c::r),0<dot f.1 (cr (p.1-a)<|p.2-a):=λp d=>by
  have m:=A b (c::r) p d;have:=S.strict (u p<|sub p d) (X:=a) (by show a∈c8 J f;rw[e];exact .head _) (t _ m.1) (t _ m.2);have q:i3 f.1 (p.2-p.1) (a-p.1)=dot f.1 (cr (p.1-a)<|p.2-a):=by simp[i3,dot];grind
  lia
 have all:∀l:List (V×V),(∀p∈l,0<dot f.1 (cr (p.1-a)<|p.2-a))->0<=dot f.1 (ar a l):=λl=>by
  induction l with
  |nil=>intro _;simp[ar,jZ,dot]
  |cons p l j=>
   intro h;have n:=h p (.head _);have B:=j λq C=>h q (.tail _ C);rw[R4,show∀x y:V,dot f.1 (x+y)=dot f.1 x+dot f.1 y fromλx y=>by simp[dot];grind]
   lia
 have n:=i (b,c) (.head _);have B:=all (j7 (c::r)) λp d=>i p (.tail _ d);show 0<dot f.1 (ar a ((b,c)::j7 (c::r)));rw[R4,show∀x y:V,dot f.1 (x+y)=dot f.1 x+dot f.1 y fromλx y=>by simp[dot];grind];show 0<dot f.1 (cr (b-a)<|c-a)+_;have n:0<dot f.1 (cr (b-a)<|c-a):=n
 lia
variable{fs:List (V×Int)} (hfs:∀f,f∈fs↔IsFace J f.1 f.2)
include hfs
theorem qI(i:fs.Nodup):jZ (fs.map λf=>ar 0 (u9 (c8 J f)))=0:=by
 rw[<-XB 0 (λf:V×Int=>u9 (c8 J f))];have e:fs.flatMap (λf=>u9 (c8 J f))=iI J fs:=rfl;rw[e];have g:(iI J fs).Nodup:=iE hs ho i λf j=>(hfs f).mp j;have k:((iI J fs).map λp=>(p.2,p.1)).Nodup:=aBt.mpr (g.imp λ{a b} n q=>n (by injection q with m r;exact aEv r m));have s:(iI J fs).Perm ((iI J fs).map λp=>(p.2,p.1)):=(aBN g k).mpr λp=>by
  rw[aAj];constructor
  .intro h;exact⟨(p.2,p.1),uT hs ho hfs (P:=p.1) (Q:=p.2) h,rfl⟩
  rintro⟨q,h,rfl⟩;exact uT hs ho hfs (P:=q.1) (Q:=q.2) h
 have d:∀l:List (V×V),ar 0 (l.map λp=>(p.2,p.1))=-ar 0 l:=λl=>by
  induction l with
  |nil=>apply ext<;>simp[ar,jZ]
  |cons p l t=>rw[aAk,R4,R4,t];apply ext<;>simp<;>grind
 have:=IE (o:=0) s;rw[d]at this;have x:=ir V.x this;have y:=ir V.y this;have z:=ir V.z this;simp at x y z;exact (by apply ext<;>simp<;>lia)
end
section
open Classical
theorem ZP{α:Type}:∀l:List α,∃m:List α,m.Nodup/\∀x,x∈m↔x∈l
 |[]=>⟨[],aCU,λ_=>Iff.rfl⟩
 |a::l=>by
  obtain⟨m,d,b⟩:=ZP l;by_cases h:a∈m
  .refine⟨m,d,λx=>?_⟩;rw[b,aAc];refine⟨.inr,λz=>?_⟩;rcases z with rfl|z
   .exact(b _).mp h
   exact z
  exact⟨a::m,aAH.mpr ⟨h,d⟩,λx=>by rw[aAc,aAc,b]⟩
variable{J:List V} (hs:i9 J)
include hs
theorem GT{n m A B C:V}{d e:Int}(h:IsFace J n d)(i:IsFace J m e)(a:dot n A=d)(b:dot n B=d)(c:dot n C=d)(g:dot m A=e)(j:dot m B=e)(l:dot m C=e)(ne:cr (B-A) (C-A)≠0):(n,d)=(m,e):=by
 have q:∀{k X:V}{f:Int},dot k A=f->dot k X=f->dot k (X-A)=0:=λo p=>by rw[d8];lia
 refine V4 hs h i a g (dJ ne (B1 (q g j)<|q g l)<|B1 (q a b)<|q a c)
theorem rN:∃fs:List (V×Int),(∀f,f∈fs↔IsFace J f.1 f.2)/\fs.Nodup:=by
 let Ok:=λ(t:V×V×V) (f:V×Int)=>IsFace J f.1 f.2/\dot f.1 t.1=f.2/\dot f.1 t.2.1=f.2/\dot f.1 t.2.2=f.2/\cr (t.2.1-t.1) (t.2.2-t.1)≠0
 let F:=λt=>if h:∃f,Ok t f then[aEm h]else[]
 obtain⟨fs,e,g⟩:=ZP ((J.flatMap λA=>J.flatMap λB=>J.map λC=>(A,B,C)).flatMap F);refine⟨fs,λf=>?_,e⟩;rw[g,aAV];constructor
 .rintro⟨t,_,h⟩;by_cases q:∃f,Ok t f
  .have h:f∈(if h:∃f,Ok t f then[aEm h]else[]):=h;rw[dif_pos q,aAJ]at h;rw[h];exact(aFN q).1
  have h:f∈(if h:∃f,Ok t f then[aEm h]else[]):=h;rw[dif_neg q]at h;cases h
 intro d;obtain⟨A,i,B,j,C,k,a,b,c,ne⟩:=d.three;have q:∃f,Ok (A,B,C) f:=⟨f,d,a,b,c,ne⟩;refine⟨(A,B,C),aAV.mpr ⟨A,i,aAV.mpr ⟨B,j,aAI k⟩⟩,?_⟩;show f∈(if h:∃f,Ok (A,B,C) f then[aEm h]else[]);rw[dif_pos q,aAJ];obtain⟨l,m,n,o,p⟩:=aFN q;exact GT hs d l a b c m n o ne
end
def QO{l m:List V}(i:l.Pairwise (λa b=>d9 (b-a)))(j:m.Pairwise (λa b=>d9 (b-a)))(h:∀X,X∈l↔X∈m):l=m:=by
 induction l generalizing m with
 |nil=>
  cases m with
  |nil=>rfl
  |cons b m=>cases(h b).mpr (.head _)
 |cons a l k=>
  cases m with
  |nil=>cases(h a).mp (.head _)
  |cons b m=>
   obtain⟨f,n⟩:=aAy.mp i;obtain⟨g,o⟩:=aAy.mp j;have e:a=b:=by
    rcases aAc.mp ((h a).mp (.head _))with z|z
    .exact z
    rcases aAc.mp ((h b).mpr (.head _))with w|w
    .exact w.symm
    exact(u0 (f b w)<|g a z).elim
   subst e;rw[k n o λX=>?_];have d:=h X;rw[aAc,aAc]at d;constructor
   .intro z;rcases d.mp (.inr z)with w|w
    .subst w;exact(F1<|f X z).elim
    exact w
   intro z;rcases d.mpr (.inr z)with w|w
   .subst w;exact(F1<|g X z).elim
   exact w
structure Cap(T S Q:List V)(u:V)(M:Int):Prop where
 pr:aX u
 uu:dot u u=1
 below:∀X∈T,dot u X<M
 foot:∀Y∈S,∃X∈T,Y=X+(M-dot u X)*u
 cov:∀n,∀X∈T,∃Y∈S,dot n (X+(M-dot u X)*u)<=dot n Y
 three:∃A∈S,∃B∈S,∃C∈S,cr (B-A) (C-A)≠0
 mem:∀X,X∈Q↔X∈T\/X∈S
 oT:T.Pairwise (λa b=>d9 (b-a))
 oQ:Q.Pairwise (λa b=>d9 (b-a))
 sT:i9 T
section
variable{T S Q:List V}{u:V}{M:Int} (C:Cap T S Q u M)
include C
theorem Cap.sQ:i9 Q:=by obtain⟨A,a,B,b,D,d,E,f,e⟩:=C.sT;exact⟨A,(C.mem A).mpr (.inl a),B,(C.mem B).mpr (.inl b),D,(C.mem D).mpr (.inl d),E,(C.mem E).mpr (.inl f),e⟩
theorem Cap.on{Y:V}(h:Y∈S):dot u Y=M:=by obtain⟨X,_,rfl⟩:=C.foot Y h;rw[u6,i6,C.uu];lia
theorem Cap.top:IsFace Q u M:=by
 obtain⟨A,a,B,b,D,d,e⟩:=C.three;refine⟨C.pr,λX f=>?_,A,(C.mem A).mpr (.inr a),B,(C.mem B).mpr (.inr b),D,(C.mem D).mpr (.inr d),C.on a,C.on b,C.on d,e⟩;rcases(C.mem X).mp f with h|h
 .exact aAK (C.below X h)
 exact Int.le_of_eq (C.on h)
theorem Cap.up{n:V}{d:Int}(g:IsFace Q n d)(h:0<dot n u):(n,d)=(u,M):=by
 have f:∀X∈Q,dot n X=d->dot u X=M:=λX j e=>by
  rcases(C.mem X).mp j with i|k
  .obtain⟨Y,l,m⟩:=C.cov n X i;have r:=g.sup Y ((C.mem Y).mpr (.inr l));have b:=C.below X i;have:=aAL (show 0<M-dot u X by lia) h;rw[u6,i6]at m
   lia
  exact C.on k
 obtain⟨A,o,B,p,D,q,a,b,c,ne⟩:=g.three;exact GT C.sQ g C.top a b c (f A o a) (f B p b) (f D q c) ne
theorem Cap.down{n:V}{d:Int}(h:dot n u<0):(IsFace Q n d↔IsFace T n d)/\(IsFace T n d->o7 n d Q=o7 n d T):=by
 have j:∀Y∈S,∃X∈T,dot n Y<dot n X:=λY k=>by obtain⟨X,i,rfl⟩:=C.foot Y k;refine⟨X,i,?_⟩;have b:=C.below X i;have:=aAt (show 0<M-dot u X by lia) h;rw[u6,i6];lia
 have bk:IsFace T n d->IsFace Q n d:=λf=>by
  obtain⟨A,o,B,p,D,q,a,b,c,ne⟩:=f.three;refine⟨f.prim,λX i=>?_,A,(C.mem A).mpr (.inl o),B,(C.mem B).mpr (.inl p),D,(C.mem D).mpr (.inl q),a,b,c,ne⟩;rcases(C.mem X).mp i with z|z
  .exact f.sup X z
  obtain⟨Y,k,l⟩:=j X z;have:=f.sup Y k
  lia
 have g:IsFace Q n d->∀X∈Q,dot n X=d->X∈T:=λf X i e=>by
  rcases(C.mem X).mp i with z|z
  .exact z
  obtain⟨Y,k,l⟩:=j X z;have:=f.sup Y ((C.mem Y).mpr (.inl k))
  lia
 refine⟨⟨λf=>?_,bk⟩,λf=>?_⟩
 .obtain⟨A,o,B,p,D,q,a,b,c,ne⟩:=f.three;exact⟨f.prim,λX i=>f.sup X ((C.mem X).mpr (.inl i)),A,g f A o a,B,g f B p b,D,g f D q c,a,b,c,ne⟩
 refine QO (C.oQ.filter _) (C.oT.filter _) λX=>?_;rw[c5,c5];exact⟨λ⟨r,m⟩=>⟨g (bk f) X r m,m⟩,λ⟨r,m⟩=>⟨(C.mem X).mpr (.inl r),m⟩⟩
theorem Cap.sum{fs:List (V×Int)}(n:∀f,f∈fs↔IsFace T f.1 f.2)(L:fs.Nodup):(fs.map λf=>max 0 (dot (ar 0 (u9 (c8 T f))) u)).sum=dot (ar 0 (u9 (c8 Q (u,M)))) u/\(fs.map λf=>max 0 (-dot (ar 0 (u9 (c8 T f))) u)).sum=dot (ar 0 (u9 (c8 Q (u,M)))) u:=by
 obtain⟨H,o,I⟩:=rN C.sQ;have z:=qI C.sQ C.oQ o I;have N:∀{J:List V},i9 J->J.Pairwise (λa b=>d9 (b-a))->∀f,IsFace J f.1 f.2->(0<dot f.1 u->0<=dot (ar 0<|u9<|c8 J f) u)/\(dot f.1 u=0->dot (ar 0<|u9<|c8 J f) u=0)/\(dot f.1 u<0->dot (ar 0<|u9<|c8 J f) u<=0):=λY ho f j=>by
  obtain⟨t,E⟩:=HL Y ho j;have E:=E u;have O:=u4 j.prim.ne;generalize dot (ar 0<|u9<|c8 _ f) u=x at*
  generalize dot f.1 (ar 0<|u9<|c8 _ f)=k at*
  generalize dot f.1 f.1=m at*
  generalize dot f.1 u=y at*
  refine⟨λh=>?_,λh=>?_,λh=>?_⟩
  .by_cases q:0<=x
   .exact q
   have:=aAt O (show x<0 by lia);have:=aAL t h
   lia
  .subst h;rcases aAu.mp (show m*x=0 by rw[E];lia)with z|z
   .lia
   exact z
  by_cases q:x<=0
  .exact q
  have:=aAL O (show 0<x by lia);have:=aAt t h
  lia
 have r:∀{l:List (V×Int)}{p:V×Int->Prop} [DecidablePred p] {f:V×Int},f∈l.filter (λf=>decide (p f))↔f∈l/\p f:=by intro l p _ f;rw[aAX,decide_eq_true_eq]
 have pm:H.Perm ((u,M)::(fs.filter (λf=>decide (dot f.1 u<0))++H.filter (λf=>decide (dot f.1 u=0)))):=by
  refine(aBN I ?_).mpr λf=>?_
  .refine aAH.mpr ⟨λq=>?_,aCH.mpr ⟨L.filter _,I.filter _,λa ha b hb e=>?_⟩⟩
   .have:=C.uu;rcases aAD.mp q with q|q
    .have:=(r.mp q).2;lia
    have:=(r.mp q).2;lia
   subst e;have t:=(r.mp ha).2;have E:=(r.mp hb).2
   lia
  rw[aAc,aAD,r,r,o,n];constructor
  .intro h;rcases(show 0<dot f.1 u\/dot f.1 u=0\/dot f.1 u<0 by lia)with q|q|q
   .exact .inl (C.up h q)
   .exact .inr (.inr ⟨h,q⟩)
   exact .inr (.inl ⟨(C.down q).1.mp h,q⟩)
  rintro(rfl|⟨h,q⟩|⟨h,_⟩)
  .exact C.top
  .exact(C.down q).1.mpr h
  exact h
 rw[qC (pm.map _),aAk,jZ,aBh,IJ]at z;have z:=ir (λv=>dot v u) z;have ad:∀x y:V,dot (x+y) u=dot x u+dot y u:=λx y=>by simp[dot];grind
 simp only[ad,oA,aBd]at z;have v0:((H.filter λf=>decide (dot f.1 u=0)).map ((λv=>dot v u)∘λf=>ar 0 (u9<|c8 Q f))).sum=0:=by
  have:∀l:List (V×Int),(∀f∈l,IsFace Q f.1 f.2/\dot f.1 u=0)->(l.map<|(λv=>dot v u)∘λf=>ar 0 (u9<|c8 Q f)).sum=0:=λl=>by
   induction l with
   |nil=>intro _;rfl
   |cons f l A=>
    intro h;rw[aAk,aAZ,A λg o=>h g (.tail _ o)];have t:=h f (.head _);have:=(N C.sQ C.oQ f t.1).2.1 t.2;show dot (ar 0<|u9<|c8 Q f) u+0=0
    lia
  exact this _ λf j=>by have h:=r.mp j;exact⟨(o f).mp h.1,h.2⟩
 rw[v0,show dot (0:V) u=0 by simp[dot]]at z;have dn:∀l:List (V×Int),(∀f∈l,IsFace T f.1 f.2)->((l.filter λf=>decide (dot f.1 u<0)).map ((λv=>dot v u)∘λf=>ar 0 (u9<|c8 Q f))).sum+(l.map λf=>max 0 (-dot (ar 0<|u9<|c8 T f) u)).sum=0:=λl=>by
  induction l with
  |nil=>intro _;rfl
  |cons f l A=>
   intro h;have i:=A λg o=>h g (.tail _ o);have j:=h f (.head _);have s:=N C.sT C.oT f j;rw[aAk,aAZ];by_cases q:dot f.1 u<0
   .rw[List.filter_cons,h9 (decide_eq_true q),aAk,aAZ];have e:c8 Q f=c8 T f:=by unfold c8;rw[(C.down q).2 j]
    show dot (ar 0<|u9<|c8 Q f) u+_+(max 0 (-dot (ar 0<|u9<|c8 T f) u)+_)=0;rw[e];have:=s.2.2 q
    lia
   rw[List.filter_cons,ia (by simpa using q)];have:0<=dot (ar 0<|u9<|c8 T f) u:=by
    by_cases w:dot f.1 u=0
    .exact Int.le_of_eq (s.2.1 w).symm
    exact s.1 (by lia)
   lia
 have d:=dn fs λf j=>(n f).mp j;have U:=ir (λv=>dot v u) (qI C.sT C.oT n L);simp only[oA,aBd]at U;rw[show dot (0:V) u=0 by simp[dot]]at U;have B:∀l:List (V×Int),(l.map λf=>max 0 (dot (ar 0<|u9<|c8 T f) u)).sum=(l.map<|(λv=>dot v u)∘λf=>ar 0 (u9<|c8 T f)).sum+(l.map λf=>max 0 (-dot (ar 0<|u9<|c8 T f) u)).sum:=λl=>by
  induction l with
  |nil=>rfl
  |cons f l A=>
   simp only[aAk,aAZ,A,aGn]
   lia
 have b:=B fs
 lia
end
end G
namespace ST
open PySem PySem.SetTable
def JO(Y:Array Nat):Prop:=∀(i k:Nat) (a:i<Y.size) (b:k<Y.size),i<k->Y[i]<Y[k]
theorem wX(Y:Array Nat)(j:Nat)(d:JO Y):∀(a lo b:Nat),lo<=b->b<=Y.size->b-lo<=a->(∀i (h:i<Y.size),i<lo->Y[i]<j)->(∀i (h:i<Y.size),b<=i->j<=Y[i])->
  below.go Y j a lo b<=Y.size/\(∀i (h:i<Y.size),i<below.go Y j a lo b->Y[i]<j)/\(∀i (h:i<Y.size),below.go Y j a lo b<=i->j<=Y[i])
 |0,lo,b,o,f,p,g,k=>by
  have:lo=b:=by lia
  subst this;unfold below.go;exact⟨f,g,k⟩
 |a+1,lo,b,o,f,p,g,k=>by
  unfold below.go;by_cases n:lo<b
  .rw[h9 n];have m:(lo+b)/2<Y.size:=by lia
   have e:Y.getD ((lo+b)/2) j=Y[(lo+b)/2]:=by simp[aFj,m]
   dsimp only;rw[e];by_cases l:Y[(lo+b)/2]<j
   .rw[h9 l];refine wX Y j d a _ _ (by lia) f (by lia) (λi h r=>?_) k;by_cases q:i=(lo+b)/2
    .subst q;exact l
    exact aGF (d i _ h m (by lia)) l
   rw[ia l];refine wX Y j d a _ _ (by lia) (by lia) (by lia) g (λi h r=>?_);by_cases q:i=(lo+b)/2
   .subst q;lia
   have:=d _ i m h (by lia);lia
  rw[ia n];have:lo=b:=by lia
  subst this;exact⟨f,g,k⟩
def bW(a:JO Y)(j:Nat):below Y j<=Y.size/\(∀i (h:i<Y.size),i<below Y j->Y[i]<j)/\(∀i (h:i<Y.size),below Y j<=i->j<=Y[i]):=
 wX Y j a Y.size 0 Y.size (aAY _) (aAl _) (by lia) (λi h b=>by lia) (λi h b=>by lia)
def RH(a:JO Y)(h:Y[i]?=some j):below Y j=i:=by
 obtain⟨b,e⟩:=aCj.mp h;obtain⟨k,f,g⟩:=bW a j;rcases Nat.lt_trichotomy (below Y j) i with q|q|q
 .have d:below Y j<Y.size:=by lia
  have l:=g _ d (aAl _);have m:=a _ _ d b q
  lia
 .exact q
 have:=f i b q;lia
structure Tab(t:SetTable):Prop where
 asc:JO t.place
 le:∀j∈t.place.toList,j<=t.mask
 nod:t.dummies=#[]
def M2(T:Tab t)(h:t.place[i]?=some j):t.slot j=.live i:=by unfold slot;rw[RH T.asc h];dsimp only;rw[h];simp
def FH(T:Tab t)(h:j∉t.place.toList):t.slot j=.empty:=by
 unfold slot;have a:¬(t.place[below t.place j]?==some j)=true:=λz=>h (by have:=beq_iff_eq.mp z;obtain⟨b,e⟩:=aCj.mp this;rw[<-e];simp)
 dsimp only;rw[ia a,T.nod];rw[ia (by unfold has;simp)]
def CU(T:Tab t)(j:Nat):(t.slot j=.empty/\j∉t.place.toList)\/∃i,t.slot j=.live i/\t.place[i]?=some j:=by
 by_cases h:j∈t.place.toList
 .obtain⟨i,a,e⟩:=aBp h;have:t.place[i]?=some j:=by rw[<-aAE,aAi a,e]
  exact .inr ⟨i,M2 T this,this⟩
 exact .inl ⟨FH T h,h⟩
def UF(mask:Nat)(p:Probe):Probe:=if p.more>0 then{p with j:=p.j+1,more:=p.more-1}else{p with j:=(leap mask p.i p.perturb).1,more:=runEnd mask (leap mask p.i p.perturb).1-(leap mask p.i p.perturb).1,i:=(leap mask p.i p.perturb).1,perturb:=(leap mask p.i p.perturb).2}
def pM(t:eR)(p:Probe):t.advance p=UF t.mask p:=rfl
def start(mask:Nat)(h:Int):Probe:={j:=bits h%(mask+1),more:=runEnd mask (bits h%(mask+1))-bits h%(mask+1),i:=bits h%(mask+1),perturb:=bits h,dummy:=none}
def l9(mask:Nat)(h:Int):Nat->Probe
 |0=>start mask h
 |n+1=>UF mask (l9 mask h n)
theorem pN(mask:Nat)(h:Int):∀n,(l9 mask h n).dummy=none
 |0=>rfl
 |n+1=>by have:=pN mask h n;show(UF mask _).dummy=none;unfold UF;split<;>exact this
def F3(mask:Nat)(h:Int):Nat->Nat×Nat
 |0=>(bits h%(mask+1),bits h)
 |k+1=>leap mask (F3 mask h k).1 (F3 mask h k).2
def len(mask i:Nat):Nat:=runEnd mask i-i
def vq(mask i:Nat):len mask i<=9:=by unfold len runEnd;split<;>lia
def off(mask:Nat)(h:Int):Nat->Nat
 |0=>0
 |k+1=>off mask h k+len mask (F3 mask h k).1+1
theorem RL(mask:Nat)(h:Int):∀k,off mask h k<=10*k
 |0=>aAl _
 |k+1=>by have:=RL mask h k;have:=vq mask (F3 mask h k).1;show off mask h k+_+1<=_;lia
theorem X4(mask:Nat)(h:Int):∀k r,r<=len mask (F3 mask h k).1->
  l9 mask h (off mask h k+r)={j:=(F3 mask h k).1+r,more:=len mask (F3 mask h k).1-r,i:=(F3 mask h k).1,perturb:=(F3 mask h k).2,dummy:=none}
 |0,0,_=>rfl
 |0,r+1,b=>by
  have a:=X4 mask h 0 r (by lia);have e:off mask h 0+(r+1)=(off mask h 0+r)+1:=by lia
  rw[e,l9,a];unfold UF;rw[h9 (show len mask (F3 mask h 0).1-r>0 by lia)];simp
  lia
 |k+1,0,_=>by have a:=X4 mask h k (len mask (F3 mask h k).1) (aAl _);have e:off mask h (k+1)+0=(off mask h k+len mask (F3 mask h k).1)+1:=rfl;rw[e,l9,a];unfold UF;rw[ia (by simp)];simp[F3,len]
 |k+1,r+1,b=>by
  have a:=X4 mask h (k+1) r (by lia);have e:off mask h (k+1)+(r+1)=(off mask h (k+1)+r)+1:=by lia
  rw[e,l9,a];unfold UF;rw[h9 (show len mask (F3 mask h<|k+1).1-r>0 by lia)];simp
  lia
def QQ(mask:Nat)(h:Int)(k:Nat):(l9 mask h (off mask h k)).j=(F3 mask h k).1:=by have:=X4 mask h k 0 (aAY _);rw[Nat.add_zero]at this;rw[this];rfl
theorem jI(mask:Nat)(h:Int):∀k,(F3 mask h k).2<2^64/32^k+1
 |0=>by
  show bits h<_;unfold bits;have:=Int.emod_lt_of_pos h (show(0:Int)<2^64 by decide)
  lia
 |k+1=>by
  have a:=jI mask h k;show(F3 mask h k).2/32<_;have e:∀N,N/32^(k+1)=N/32^k/32:=λN=>by rw[Nat.div_div_eq_div_mul];rfl
  rw[e]
  lia
theorem vD(mask:Nat)(h:Int):∀k,(F3 mask h (13+k)).2=0
 |0=>by have:=jI mask h 13;simp at this;exact this
 |k+1=>by have:=vD mask h k;show(F3 mask h<|13+k).2/32=0;rw[this]
def lcg(m:Nat)(i:Nat):Nat:=(i*5+1)%m
def w8(m:Nat):Nat->Nat->Nat
 |0,i=>i
 |n+1,i=>lcg m (w8 m n i)
theorem rK(mask:Nat)(h:Int):∀k,(F3 mask h (13+k)).1=w8 (mask+1) k (F3 mask h 13).1
 |0=>rfl
 |k+1=>by have a:=rK mask h k;show((F3 mask h<|13+k).1*5+1+(F3 mask h<|13+k).2/32)%(mask+1)=_;rw[vD,a];rfl
theorem jQ(m:Nat):∀a b i,w8 m (a+b) i=w8 m a (w8 m b i)
 |0,b,i=>by rw[aFO];rfl
 |a+1,b,i=>by rw[show a+1+b=(a+b)+1 by lia];show lcg m _=lcg m _;rw[jQ m a b i]
def nF(m:Nat):Prop:=w8 m m 0=0/\∀j<m,∃n<m,w8 m n 0=j
def vF(F:nF m)(f:i<m)(g:j<m):∃n<m,w8 m n i=j:=by
 obtain⟨a,k,d⟩:=F.2 i f;obtain⟨b,l,e⟩:=F.2 j g;by_cases h:a<=b
 .exact⟨b-a,by lia,by rw[<-d,<-jQ,show b-a+a=b by lia,e]⟩
 refine⟨b+(m-a),by lia,?_⟩;rw[<-d,<-jQ,show b+(m-a)+a=b+m by lia,jQ,F.1,e]
instance(m:Nat):Decidable (nF m):=inferInstanceAs (Decidable<|_/\_)
def a0v:nF 8:=by decide+kernel
def dz:nF 32:=by decide+kernel
def WZ:nF 128:=by decide+kernel
theorem GF(mask:Nat)(h:Int):∀k,(F3 mask h k).1<mask+1
 |0=>aFk _ (by lia)
 |k+1=>aFk _ (by lia)
def DY{mask:Nat}(F:nF (mask+1))(h:Int){j:Nat}(a:j<=mask):∃n,n<=10*(mask+14)/\(l9 mask h n).j=j:=by
 obtain⟨k,b,e⟩:=vF F (GF mask h 13) (show j<mask+1 by lia);refine⟨off mask h (13+k),?_,?_⟩
 .have:=RL mask h (13+k);lia
 rw[QQ,rK,e]
def vM{α β:Type}{l:List α}{m:List β}{p:Nat}{a:α×β}(h:a∈(l.take p).zip (m.take p)):a∈l.zip m:=by
 obtain⟨i,b⟩:=aDt.mp h;rw[aBE]at b;refine aAx (i:=i) ?_;rw[aBE];have q:∀{γ:Type}{l:List γ}{c:γ},(l.take p)[i]?=some c->l[i]?=some c:=λ{γ l c} h=>by
  rw[List.getElem?_take]at h;split at h
  .exact h
  cases h
 exact⟨q b.1,q b.2⟩
def xV{α β:Type}{l:List α}{m:List β}{p:Nat}{a:α×β}(h:a∈(l.drop p).zip (m.drop p)):a∈l.zip m:=by obtain⟨i,b⟩:=aDt.mp h;rw[aBE,List.getElem?_drop,List.getElem?_drop]at b;refine aAx (i:=p+i) ?_;rw[aBE];exact b
theorem GE(mask:Nat)(h:Int):∀n,(l9 mask h n).j+(l9 mask h n).more<=mask
 |0=>by have:=aFk (bits h) (show 0<mask+1 by lia);show bits h%(mask+1)+(runEnd mask (bits h%(mask+1))-bits h%(mask+1))<=mask;unfold runEnd;split<;>lia
 |n+1=>by
  have a:=GE mask h n;show(UF mask<|l9 mask h n).j+(UF mask<|l9 mask h n).more<=mask;unfold UF;split
  .dsimp only;lia
  dsimp only;have:(leap mask (l9 mask h n).i (l9 mask h n).perturb).1<mask+1:=aFk _ (by lia);unfold runEnd;split<;>lia
def wI(mask:Nat)(h:Int)(n:Nat):(l9 mask h n).j<=mask:=by have:=GE mask h n;lia
theorem R0{α:Type}[DecidableEq α]:∀{l m:List α},l.Nodup->(∀x∈l,x∈m)->l.length<=m.length
 |[],_,_,_=>aAY _
 |x::l,m,h,a=>by
  have b:=a x (by simp);have d:=aAH.mp h;have:=R0 (l:=l) (m:=m.erase x) d.2 (λy f=>by
   have ne:y≠x:=λe=>by subst e;exact d.1 f
   exact(aFZ ne).mpr (a y<|aAe _ f))
  rw[aFi b]at this;have:0<m.length:=aDj b;simp only[aAp]
  lia
def KY{t:eR}(h:t.place.size<=t.mask):∃j≤t.mask,j∉t.place.toList:=by
 by_cases z:∃j≤t.mask,j∉t.place.toList
 .exact z
 exfalso;have:=R0 (l:=aBc (t.mask+1)) (m:=t.place.toList) List.nodup_range (λj a=>by
  by_cases q:j∈t.place.toList
  .exact q
  exact absurd ⟨j,by have:=aBa.mp a;lia,q⟩ z)
 simp at this
 lia
theorem least{P:Nat->Prop}[DecidablePred P]:∀n,P n->∃m≤n,P m/\∀k<m,¬P k
 |0,h=>⟨0,aAl _,h,λk b=>by lia⟩
 |n+1,h=>by
  by_cases z:∃k≤n,P k
  .obtain⟨k,b,a⟩:=z;obtain⟨m,f,d,e⟩:=least k a;exact⟨m,by lia,d,e⟩
  exact⟨n+1,aAl _,h,λk b a=>z ⟨k,by lia,a⟩⟩
termination_by n=>n
def V7(t:eR)(h:Int)(n0:Nat):Prop:=n0<=10*(t.mask+14)/\(l9 t.mask h n0).j∉t.place.toList/\∀m<n0,(l9 t.mask h m).j∈t.place.toList
def EO{t:eR}(F:nF (t.mask+1))(a:t.place.size<=t.mask)(h:Int):∃n0,V7 t h n0:=by obtain⟨j,b,d⟩:=KY a;obtain⟨n,l,e⟩:=DY F h b;obtain⟨m,o,f,g⟩:=least (P:=λn=>(l9 t.mask h n).j∉t.place.toList) n (by rw[e];exact d);exact⟨m,by lia,f,λk i=>by have:=g k i;simpa using this⟩
theorem yY(T:Tab t)(hashAt:Nat->Int)(h:Int)(l:V7 t h n0):∀(d n:Nat),n<=n0->n0-n<d->
  ∃f,n<=f/\f<=n0/\(∀m,n<=m->m<f->∃i,t.place[i]?=some (l9 t.mask h m).j/\hashAt i≠h)/\
   ((f=n0/\probe.go t hashAt h d (l9 t.mask h n)=some (.empty (l9 t.mask h n0).j none))\/
    (f<n0/\∃i,t.place[i]?=some (l9 t.mask h f).j/\hashAt i=h/\probe.go t hashAt h d (l9 t.mask h n)=some (.candidate (l9 t.mask h f).j i (l9 t.mask h (f+1)))))
 |0,n,_,o=>by lia
 |d+1,n,w,o=>by
  unfold probe.go;rcases CU T (l9 t.mask h n).j with⟨e,p⟩|⟨i,e,g⟩
  .have:n=n0:=by
     by_cases q:n<n0
     .exact absurd (l.2.2 n q) p
     lia
   subst this;refine⟨n,aAl _,aAl _,λm a b=>by lia,.inl ⟨rfl,?_⟩⟩;rw[e];dsimp only;rw[pN]
  have x:n≠n0:=λq=>by subst q;refine l.2.1 ?_;rw[<-aAE]at g;exact aAx g
  rw[e];dsimp only;by_cases k:hashAt i=h
  . refine⟨n,aAl _,by lia,λm a b=>by lia,.inr ⟨by lia,i,g,k,?_⟩⟩
    rw[h9 (by simpa using k),pM];rfl
  rw[ia (by simpa using k),pM]
  obtain⟨f,y,r,s,u⟩:=yY T hashAt h l d (n+1) (by lia) (by lia);refine⟨f,by lia,r,λm z v=>?_,u⟩;by_cases q:m=n
  .subst q;exact⟨i,g,k⟩
  exact s m (by lia) v
def MY(T:Tab t)(hashAt:Nat->Int)(h:Int)(b:V7 t h n0)(n:Nat)(d:n<=n0):
  ∃a,n<=a/\a<=n0/\(∀m,n<=m->m<a->∃i,t.place[i]?=some (l9 t.mask h m).j/\hashAt i≠h)/\
   ((a=n0/\t.probe hashAt h (l9 t.mask h n)=some (.empty (l9 t.mask h n0).j none))\/
    (a<n0/\∃i,t.place[i]?=some (l9 t.mask h a).j/\hashAt i=h/\t.probe hashAt h (l9 t.mask h n)=some (.candidate (l9 t.mask h a).j i (l9 t.mask h (a+1))))):=
 yY T hashAt h b _ n d (by have:=b.1;unfold turns;lia)
def Reach(mask:Nat)(a:Nat->Prop)(h:Int)(j:Nat):Prop:=∃n,(l9 mask h n).j=j/\∀m<n,a (l9 mask h m).j
def Reach.mono{mask:Nat}{o a:Nat->Prop}{h:Int}{j:Nat}(r:Reach mask o h j)(i:∀k,o k->a k):Reach mask a h j:=by obtain⟨n,e,q⟩:=r;exact⟨n,e,λm b=>i _ (q m b)⟩
def Reach.before(a:V7 t h n0)(b:j∈t.place.toList)(r:Reach t.mask (λk=>k∈t.place.toList) h j):∃n<n0,(l9 t.mask h n).j=j:=by
 obtain⟨n,e,q⟩:=r;refine⟨n,?_,e⟩;by_cases z:n<n0
 .exact z
 exfalso;by_cases y:n=n0
 .subst y;exact a.2.1 (by rw[e];exact b)
 exact a.2.1 (q n0 (by lia))
def fX{α:Type}(Y:Array α)(p:Nat)(x:α):(insertAt Y p x).toList=Y.toList.take p++x::Y.toList.drop p:=by
 unfold insertAt;simp[Array.toList_extract,List.extract_eq_drop_take];have:Y.size-p=(Y.toList.drop p).length:=by simp
 rw[this,List.take_length]
def AK(t:eR)(es:List (Int×au)):List (Nat×Int×au):=t.place.toList.zip es
structure SOk(t:SetTable)(es:List (Int×Value)):Prop where
 tab:Tab t
 full:nF (t.mask+1)
 len:t.place.size=es.length
 room:t.place.size<=t.mask
 reach:∀e∈AK t es,Reach t.mask (λk=>k∈t.place.toList) e.2.1 e.1
def VM{t:eR}{es:List (Int×au)}(b:t.place.size=es.length){i:Nat}{e:Int×au}(h:es[i]?=some e):∃j,t.place[i]?=some j/\(j,e)∈AK t es:=by
 have d:i<es.length:=(aAC.mp h).1;have a:i<t.place.toList.length:=by simpa[b]using d
 refine⟨t.place.toList[i],by rw[<-aAE,aAi a],?_⟩;unfold AK;refine aAx (i:=i) ?_;rw[aBE];exact⟨aAi a,h⟩
def vk{t:eR}{es:List (Int×au)}(S:SOk t es){h:Int}{x:au}{n0:Nat}(z:V7 t h n0)(E:t.place.size+1<=t.mask):
  SOk (t.put (l9 t.mask h n0).j).1 (es.take (t.put (l9 t.mask h n0).j).2++(h,x)::es.drop (t.put (l9 t.mask h n0).j).2):=by
 have u:=wI t.mask h n0;obtain⟨Y,H,I⟩:=bW S.tab.asc (l9 t.mask h n0).j;generalize A:(l9 t.mask h n0).j=J at*
 have v:J∉t.place.toList:=by rw[<-A];exact z.2.1
 have B:(t.put J).2=below t.place J:=rfl;have em:(t.put J).1.mask=t.mask:=rfl;have d:(t.put J).1.place=insertAt t.place (below t.place J) J:=rfl;have f:=fX t.place (below t.place J) J;have l:∀k,k∈(t.put J).1.place.toList↔k∈t.place.toList\/k=J:=λk=>by
  rw[d,f,aAD,aAc];constructor
  .rintro(q|q|q)
   .exact .inl (aDE q)
   .exact .inr q
   exact .inl (aDF q)
  rintro(q|q)
  .rw[<-aFP (below t.place J) t.place.toList,aAD]at q;rcases q with q|q
   .exact .inl q
   exact .inr (.inr q)
  exact .inr (.inl q)
 have C:(t.put J).1.place.size=t.place.size+1:=by
  rw[<-aBi,d,f,aAz,aBS,aAp,aDM,aBi]
  lia
 refine⟨⟨?_,λj L=>?_,?_⟩,S.full,?_,by rw[C];exact E,λe s=>?_⟩
 .
  have o:t.place.toList.Pairwise (· <·):=by rw[aCm];intro i j g u N;simpa using S.tab.asc i j (by simpa using g) (by simpa using u) N
  have p:∀a∈t.place.toList.take (below t.place J),a<J:=λa n=>by
   obtain⟨i,g,e⟩:=aBp n;rw[aBS]at g;rw[List.getElem_take]at e;have:=H i (by simp at g;lia) (by lia);simp at e
   lia
  have r:∀a∈t.place.toList.drop (below t.place J),J<a:=λa n=>by
   obtain⟨i,g,e⟩:=aBp n;rw[aDM]at g;rw[List.getElem_drop]at e;have h1:=I (below t.place J+i) (by simp at g;lia) (by lia);simp at e;have h2:J≠a:=λq=>v (by rw[q];exact aDF n)
   lia
  have O:(t.put J).1.place.toList.Pairwise (· <·):=by
   rw[d,f,List.pairwise_append];refine⟨o.sublist (List.take_sublist _ _),aAy.mpr ⟨r,o.sublist (List.drop_sublist _ _)⟩,λa n b Q=>?_⟩;rcases aAc.mp Q with q|q
   .subst q;exact p a n
   exact aGF (p a n) (r b q)
  intro i k g w y;have:=aCm.mp O i k (by simpa using g) (by simpa using w) y;simpa using this
 .rcases(l j).mp L with q|q
  .exact S.tab.le j q
  subst q;exact u
 .show(if has t.dummies J then _ else t.dummies)=#[];rw[S.tab.nod,ia (by unfold has;simp)]
 .rw[C,B,aAz,aBS,aAp,aDM];have:=S.len
  lia
 have T:e∈AK t es\/e=(J,h,x):=by
  unfold AK at s;rw[d,f,B]at s;rw[List.zip_append (by rw[aBS,aBS,aBi,S.len])]at s;rcases aAD.mp s with q|q
  .left;unfold AK;exact vM q
  rw[aBZ]at q;rcases aAc.mp q with q|q
  .exact .inr q
  left;unfold AK;exact xV q
 rcases T with q|q
 .exact(S.reach e q).mono λk w=>(l k).mpr (.inl w)
 subst q;exact⟨n0,A,λm U=>(l _).mpr (.inl (z.2.2 m U))⟩
def S7(owner:Array (Option Nat))(j:Nat):Prop:=(owner.getD j<|some 0).isNone=false
theorem uB{mask:Nat}(h:Int)(owner:Array (Option Nat)):∀(fuel k:Nat),(∃kk,k<=kk/\kk<k+fuel/\¬S7 owner (F3 mask h kk).1)->
  ∃n,off mask h k<=n/\layClean.free mask owner fuel (F3 mask h k).1 (F3 mask h k).2=some (l9 mask h n).j/\¬S7 owner (l9 mask h n).j/\∀m,off mask h k<=m->m<n->S7 owner (l9 mask h m).j
 |0,k,⟨kk,i,l,_⟩=>by lia
 |fuel+1,k,⟨kk,i,l,d⟩=>by
  have o:runEnd mask (F3 mask h k).1+1-(F3 mask h k).1=len mask (F3 mask h k).1+1:=by unfold len runEnd;split<;>lia
  unfold layClean.free;rw[o];cases e:(aBc<|len mask (F3 mask h k).1+1).find? λr=>(owner.getD ((F3 mask h k).1+r)<|some 0).isNone with
  |some r=>
   have q:=List.find?_some e;have f:r<len mask (F3 mask h k).1+1:=aBa.mp (List.mem_of_find?_eq_some e);have g:(l9 mask h<|off mask h k+r).j=(F3 mask h k).1+r:=by rw[X4 mask h k r (by lia)]
   refine⟨off mask h k+r,by lia,by rw[g],by rw[g];unfold S7;rw[q];simp,λm a b=>?_⟩;have em:(l9 mask h m).j=(F3 mask h k).1+(m-off mask h k):=by have:=X4 mask h k (m-off mask h k) (by lia);rw[show off mask h k+(m-off mask h k)=m by lia]at this;rw[this]
   rw[em];unfold S7;rw[List.find?_range_eq_some]at e;have:=e.2.2 (m-off mask h k) (by lia);simpa using this
  |none=>
   have all:∀r<len mask (F3 mask h k).1+1,S7 owner ((F3 mask h k).1+r):=λr f=>by have:=List.find?_eq_none.mp e r (aBa.mpr f);unfold S7;exact Bool.not_eq_true _▸this
   have v:kk≠k:=λq=>by subst q;have:=all 0 (by lia);rw[Nat.add_zero]at this;exact d this
   obtain⟨n,w,p,s,t⟩:=uB h owner fuel (k+1) ⟨kk,by lia,by lia,d⟩;have x:off mask h (k+1)=off mask h k+len mask (F3 mask h k).1+1:=rfl;refine⟨n,by lia,p,s,λm y u=>?_⟩;by_cases q:off mask h (k+1)<=m
   .exact t m q u
   have em:(l9 mask h m).j=(F3 mask h k).1+(m-off mask h k):=by have:=X4 mask h k (m-off mask h k) (by lia);rw[show off mask h k+(m-off mask h k)=m by lia]at this;rw[this]
   rw[em];exact all _ (by lia)
def oB{mask:Nat}(F:nF (mask+1))(h:Int)(owner:Array (Option Nat)){j:Nat}(i:j<=mask)(a:¬S7 owner j):
  ∃n,layClean.free mask owner (turns mask) (aDX h%(mask+1)) (aDX h)=some (l9 mask h n).j/\¬S7 owner (l9 mask h n).j/\∀m<n,S7 owner (l9 mask h m).j:=by
 obtain⟨k,l,e⟩:=vF F (GF mask h 13) (show j<mask+1 by lia);obtain⟨n,o,b,d,f⟩:=uB h owner (turns mask) 0 ⟨13+k,aAY _,by unfold turns;lia,by rw[rK,e];exact a⟩;exact⟨n,b,d,λm g=>f m (aAY _) g⟩
structure Laid(mask:Nat)(hs:List Int)(owner:Array (Option Nat))(k:Nat):Prop where
 size:owner.size=mask+1
 lt:∀(j i:Nat),owner[j]?=some (some i)->i<k
 inj:∀(j j' i:Nat),owner[j]?=some (some i)->owner[j']?=some (some i)->j=j'
 sur:∀i<k,∃j:Nat,owner[j]?=some (some i)
 reach:∀(j i:Nat) (h:Int),owner[j]?=some (some i)->hs[i]?=some h->Reach mask (λl=>∃i,owner[l]?=some (some i)) h j
def kZ{owner:Array (Option Nat)}{mask j:Nat}(b:owner.size=mask+1)(d:j<=mask):S7 owner j↔∃i,owner[j]?=some (some i):=by
 unfold S7;have a:j<owner.size:=by lia
 have e:owner.getD j (some 0)=owner[j]:=by simp[aFj,a]
 rw[e,aAN a];cases owner[j]with
 |none=>simp
 |some i=>simp
def Laid.room{mask k:Nat}{r:List Int}{owner:Array (Option Nat)}(L:Laid mask r owner k)(t:k<=mask):∃j≤mask,¬S7 owner j:=by
 by_cases z:∃j≤mask,¬S7 owner j
 .exact z
 exfalso;have all:∀j≤mask,∃i,owner[j]?=some (some i):=λj b=>by
  by_cases q:S7 owner j
  .exact(kZ L.size b).mp q
  exact absurd ⟨j,b,q⟩ z
 have d:∀n,n<=mask+1->∃l:List Nat,l.length=n/\l.Nodup/\(∀i∈l,i<k)/\∀i∈l,∃j<n,owner[j]?=some (some i):=λn=>by
  induction n with
  |zero=>exactλ_=>⟨[],rfl,aCU,by simp,by simp⟩
  |succ n s=>
   intro u;obtain⟨l,o,f,g,p⟩:=s (by lia);obtain⟨i,h⟩:=all n (by lia);refine⟨i::l,by simp[o],aAH.mpr ⟨λq=>?_,f⟩,λx a=>?_,λx a=>?_⟩
   .obtain⟨j,b,e⟩:=p i q;have:=L.inj j n i e h
    lia
   .rcases aAc.mp a with q|q
    .subst q;exact L.lt _ _ h
    exact g x q
   rcases aAc.mp a with q|q
   .subst q;exact⟨n,by lia,h⟩
   obtain⟨j,b,e⟩:=p x q;exact⟨j,by lia,e⟩
 obtain⟨l,o,f,g,_⟩:=d (mask+1) (aAl _);have:=R0 (m:=aBc k) f (λx a=>aBa.mpr (g x a));simp at this
 lia
def CS(mask:Nat)(b:List Int):Laid mask b (aEA (mask+1) none) 0:=by
 have a:∀(j i:Nat),(aEA (mask+1) (none:Option Nat))[j]?=some (some i)->False:=λj i h=>by rw[Array.getElem?_replicate]at h;split at h<;>cases h
 exact⟨by simp,λj i h=>(a j i h).elim,λj d i h=>(a j i h).elim,λi e=>by lia,λj i _ h=>(a j i h).elim⟩
def Laid.step{mask k:Nat}{g:List Int}{owner:Array (Option Nat)}(L:Laid mask g owner k){h:Int}(t:g[k]?=some h){n:Nat}(u:¬S7 owner (l9 mask h n).j)(v:∀m<n,S7 owner (l9 mask h m).j):
  Laid mask g (owner.setIfInBounds (l9 mask h n).j (some k)) (k+1):=by
 have w:=wI mask h n;have o:(l9 mask h n).j<owner.size:=by rw[L.size];lia
 have get:∀(j i:Nat),(owner.setIfInBounds (l9 mask h n).j (some k))[j]?=some (some i)↔(j=(l9 mask h n).j/\i=k)\/(j≠(l9 mask h n).j/\owner[j]?=some (some i)):=λj i=>by
  rw[Array.getElem?_setIfInBounds];by_cases q:(l9 mask h n).j=j
  .rw[h9 q,h9 o];simp[q,eq_comm]
  rw[ia q];constructor
  .intro z;exact .inr ⟨λy=>q y.symm,z⟩
  rintro(⟨z,_⟩|⟨_,z⟩)
  .exact absurd z.symm q
  exact z
 have x:∀i,owner[(l9 mask h n).j]?≠some (some i):=λi z=>u ((kZ L.size w).mpr ⟨i,z⟩);have grow:∀l:Nat,(∃i:Nat,owner[l]?=some (some i))->∃i:Nat,(owner.setIfInBounds (l9 mask h n).j (some k))[l]?=some (some i):=λl A=>by
  obtain⟨i,z⟩:=A;by_cases q:l=(l9 mask h n).j
  .exact⟨k,(get l k).mpr (.inl ⟨q,rfl⟩)⟩
  exact⟨i,(get l i).mpr (.inr ⟨q,z⟩)⟩
 refine⟨by simp[L.size],λj i z=>?_,λj p i z s=>?_,λi C=>?_,λj i r z e=>?_⟩
 .rcases(get j i).mp z with⟨_,q⟩|⟨_,q⟩
  .lia
  have:=L.lt j i q;lia
 .rcases(get j i).mp z with⟨d,a⟩|⟨d,a⟩
  .rcases(get p i).mp s with⟨f,b⟩|⟨f,b⟩
   .rw[d,f]
   subst a;have:=L.lt _ _ b;lia
  rcases(get p i).mp s with⟨f,b⟩|⟨f,b⟩
  .subst b;have:=L.lt _ _ a;lia
  exact L.inj j p i a b
 .by_cases q:i=k
  .subst q;exact⟨_,(get _ _).mpr (.inl ⟨rfl,rfl⟩)⟩
  obtain⟨j,z⟩:=L.sur i (by lia);exact⟨j,(get j i).mpr (.inr ⟨λy=>by subst y;exact x i z,z⟩)⟩
 rcases(get j i).mp z with⟨d,a⟩|⟨d,a⟩
 .subst d a;have:r=h:=Option.some.inj (e.symm.trans t);subst this;exact⟨n,rfl,λm B=>grow _ ((kZ L.size<|wI mask r m).mp (v m B))⟩
 exact(L.reach j i r a e).mono grow
def yO{mask:Nat}(F:nF (mask+1))(b:Array Int)(z:b.size<=mask):∃owner,layClean mask b=some owner/\Laid mask b.toList owner b.size:=by
 have g:∀(post a:List Int) (owner:Array (Option Nat)),b.toList=a++post->Laid mask b.toList owner a.length->
   ∃d,post.foldl (λB h=>do
    let(owner,k)<-B
    let j<-layClean.free mask owner (turns mask) (aDX h%(mask+1)) (aDX h)
    pure (owner.setIfInBounds j (some k),k+1)) (some (owner,a.length))=some (d,b.size)/\Laid mask b.toList d b.size:=λpost=>by
  induction post with
  |nil=>
   intro a owner e L;have:a.length=b.size:=by rw[<-aBi,e];simp
   exact⟨owner,by rw[List.foldl_nil,this],by rw[<-this];exact L⟩
  |cons h post i=>
   intro a owner e L;have f:a.length<b.size:=by rw[<-aBi,e];simp
   obtain⟨j,l,m⟩:=L.room (by lia);obtain⟨n,o,p,q⟩:=oB F h owner l m;have r:b.toList[a.length]?=some h:=by rw[e];simp
   have s:=L.step r p q;rw[aEB];have t:b.toList=(a++[h])++post:=by rw[e];simp
   obtain⟨d,u,v⟩:=i (a++[h]) _ t (by rw[aAz];exact s);refine⟨d,?_,v⟩;rw[<-u];congr 1;simp[o]
 obtain⟨owner,w,x⟩:=g b.toList [] (aEA (mask+1) none) rfl (CS mask b.toList);refine⟨owner,?_,x⟩;unfold layClean;rw[<-Array.foldl_toList];have y:List.foldl (λB h=>do
    let(owner,k)<-B
    let j<-layClean.free mask owner (turns mask) (aDX h%(mask+1)) (aDX h)
    pure (owner.setIfInBounds j (some k),k+1)) (some (aEA (mask+1) none,0)) b.toList=some (owner,b.size):=w
 rw[y];rfl
def G5(mask:Nat)(owner:Array (Option Nat)):List (Nat×Nat):=(aBc<|mask+1).filterMap λj=>(owner.getD j none).map (j,·)
def S6{mask:Nat}{owner:Array (Option Nat)}(g:owner.size=mask+1){j i:Nat}:(j,i)∈G5 mask owner↔owner[j]?=some (some i):=by
 unfold G5;rw[aCa];constructor
 .rintro⟨l,a,e⟩;have f:l<owner.size:=by rw[g];exact aBa.mp a
  have b:owner.getD l none=owner[l]:=by simp[aFj,f]
  rw[b,aDk]at e;obtain⟨k,d,h⟩:=e;cases h;rw[aAN f,d]
 intro e;obtain⟨a,d⟩:=aCj.mp e;have b:owner.getD j none=owner[j]:=by simp[aFj,a]
 exact⟨j,aBa.mpr (by lia),by rw[b,d];rfl⟩
def BE(mask:Nat)(owner:Array (Option Nat)):((G5 mask owner).map (·.1)).Pairwise (· <·):=by unfold G5;rw[aBt];have:(aBc<|mask+1).Pairwise (· <·):=List.pairwise_lt_range;refine List.Pairwise.filterMap _ (R:=(· <·)) ?_ this;intro a g f b d h e;rw[aDk]at d e;obtain⟨_,_,rfl⟩:=d;obtain⟨_,_,rfl⟩:=e;exact f
def OR{mask finger moves:Nat}{led plain:Bool}(F:nF (mask+1))(es:Array (Int×au))(A:es.size<=mask):
  ∃t' f,laid mask finger moves led plain (es.map (·.1))=some (t',f)/\(f.filterMap (es[·]?)).size=es.size/\(f.filterMap (es[·]?)).toList.Perm es.toList/\SOk t' (f.filterMap (es[·]?)).toList/\
   t'.mask=mask/\t'.dummies=#[]/\t'.led=led/\t'.plain=plain/\t'.moves=moves:=by
 obtain⟨d,J,L⟩:=yO F (es.map (·.1)) (by simpa using A);have m:(es.map (·.1)).size=es.size:=by simp
 rw[m]at L;refine⟨{mask,place:=((G5 mask d).map (·.1)).toArray,dummies:=#[],finger,led,moves,plain},((G5 mask d).map (·.2)).toArray,?_,?_⟩
 .unfold laid;rw[J];rfl
 have n:(G5 mask d).Nodup:=by have:=BE mask d;rw[aBt]at this;exact aCi.mpr (this.imp λ{a b} h e=>by subst e;exact aBr _ h)
 have o:((G5 mask d).map (·.2)).Nodup:=by rw[aCi,aBt];refine List.Pairwise.imp_of_mem (R:=(· ≠·)) ?_ (aCi.mp n);rintro⟨j,i⟩ ⟨p,r⟩ N O Q e;dsimp only at e;subst e;have:=L.inj j p i ((S6 L.size).mp N) ((S6 L.size).mp O);subst this;exact Q rfl
 have B:((G5 mask d).map (·.2)).Perm (aBc es.size):=by
  rw[aBN o List.nodup_range];intro i;rw[aBa,aAj];constructor
  .rintro⟨⟨j,r⟩,h,rfl⟩;exact L.lt _ _ ((S6 L.size).mp h)
  intro s;obtain⟨j,t⟩:=L.sur i s;exact⟨(j,i),(S6 L.size).mpr t,rfl⟩
 have C:(((G5 mask d).map (·.2)).toArray.filterMap (es[·]?)).toList=(G5 mask d).filterMap (λx=>es[x.2]?):=by rw[Array.toList_filterMap,aDo];rfl
 have T:((G5 mask d).filterMap (λx=>es[x.2]?)).Perm es.toList:=by
  have U:(G5 mask d).filterMap (λx=>es[x.2]?)=((G5 mask d).map (·.2)).filterMap (λi=>es[i]?):=by rw[aDo];rfl
  rw[U];refine(B.filterMap _).trans (List.Perm.of_eq ?_);apply aFl;intro i;have:(aBc es.size).filterMap (λi=>es[i]?)=es.toList:=by
   have q:∀l:List (Int×au),(aBc l.length).filterMap (λi=>l[i]?)=l:=λl=>by
    induction l with
    |nil=>rfl
    |cons a l u=>
     rw[aAp,aFF,aCL];simp only[aCC];rw[aDo];have:((λi=>(a::l)[i]?)∘Nat.succ)=λi=>l[i]?:=by funext i;simp
     rw[this,u]
   have:=q es.toList;simpa using this
  rw[this]
 have Y:∀l:List (Nat×Nat),(∀x∈l,x.2<es.size)->(l.map (·.1)).zip (l.filterMap<|λx=>es[x.2]?)=l.filterMap (λx=>es[x.2]?.map (x.1,·))/\(l.filterMap<|λx=>es[x.2]?).length=l.length:=λl=>by
  induction l with
  |nil=>intro _;exact⟨rfl,rfl⟩
  |cons x l u=>intro h;obtain⟨i1,i2⟩:=u (λy hy=>h y (aAe _ hy));have w:=h x (by simp);have e:es[x.2]?=some es[x.2]:=aAN w;rw[aAk,aCL,e];dsimp only;rw[aCL,e];dsimp only[Option.map_some];rw[aBZ,i1];exact⟨rfl,by simp[i2]⟩
 obtain⟨z1,E⟩:=Y (G5 mask d) (λx w=>L.lt x.1 x.2 ((S6 L.size).mp w));have H:(G5 mask d).length=es.size:=by have:=B.length_eq;simpa using this
 rw[C];refine⟨by rw[<-aBi,C,E,H],T,⟨⟨?_,λj t=>?_,rfl⟩,F,?_,?_,λe g=>?_⟩,rfl,rfl,rfl,rfl,rfl⟩
 .intro i k s m z;have:=aCm.mp (BE mask d) i k (by simpa using s) (by simpa using m) z;simpa using this
 .have ur:j∈(G5 mask d).map (·.1):=by simpa using t
  obtain⟨⟨p,i⟩,h,rfl⟩:=aAj.mp ur;have:=(aCj.mp<|(S6 L.size).mp h).1;rw[L.size]at this;show p<=mask
  lia
 .rw[E];simp
 .simp only[aAn,aAh,H];exact A
 unfold AK at g;dsimp only at g;rw[z1,aCa]at g;obtain⟨⟨j,i⟩,h,I⟩:=g;rw[aDk]at I;obtain⟨⟨hh,v⟩,e2,rfl⟩:=I;have ho:=(S6 L.size).mp h;have:=L.reach j i hh ho (by rw[aAE,Array.getElem?_map,e2];rfl);refine this.mono λl z9=>?_;obtain⟨r,cg⟩:=z9;show l∈(G5 mask d).map (·.1);exact aAj.mpr ⟨(l,r),(S6 L.size).mpr cg,rfl⟩
end ST
namespace TS
open PySem PyProof.Rows
abbrev tupK:Bool->SortKind:=sortPriv%PySem.Builtin.KeyKind.tuples
structure TB(f:Bool)(a5:Array Keyed)(st:SortSt):Prop where
 perm:(arrOf st).Perm a5
 kind:kindOf st=tupK f
 failed:failedOf st=none
 pend:pendingOf st=#[]
def TB.size{f:Bool}{a5:Array Keyed}{st:SortSt}(h:TB f a5 st):(arrOf st).size=a5.size:=h.perm.size_eq
def TB.setArr{f:Bool}{a5:Array Keyed}{st:SortSt}(h:TB f a5 st){Y:Array Keyed}(a:Y.Perm (arrOf st)):TB f a5 (PyProof.Rows.setArr st Y):=
 ⟨a.trans h.perm,h.kind,h.failed,h.pend⟩
def VY(f:Bool)(A:cf)(s:ba)(κ:KeyKind):Prop:=
 ∀(d:bM) (w:cp) (E:F7) (x y:au) (a b:κ.α) {Q:yB},
  κ.keyOf x=some a->κ.keyOf y=some b->Q (κ.blt a b) s->a9 (be d w) A (keyLt' (tupK f) x y) Q E s
def TB.atK{f:Bool}{κ:KeyKind}{a5:Array Keyed}{st:SortSt}(h:TB f a5 st)(h0:KeysOf κ a5){i:Nat}(d:i<a5.size):∃x p a,(arrOf st)[i]?=some (x,p)/\κ.keyOf x=some a/\KK κ (arrOf st) i=a:=by
 have g:i<(arrOf st).size:=by rw[h.size];exact d
 obtain⟨a,b⟩:=h0 _ ((aEP.mp h.perm).mem_iff.mp (show(arrOf st)[i]∈(arrOf st).toList by simp));have e:(arrOf st)[i]?=some (arrOf st)[i]:=getElem?_pos _ i g;exact⟨(arrOf st)[i].1,(arrOf st)[i].2,a,by rw[e],b,by unfold KK;rw[e];simp[b]⟩
section
def ltT(f:Bool){prog:bM}{w:cp}{A:cf}{E:F7}{s:ba}{a5:Array Keyed}{κ:KeyKind}{st:SortSt}{i j:Nat}{Q:Option Bool->SortSt->Prop}(e:VY f A s κ)(d:TB f a5 st)(h0:KeysOf κ a5)(g:i<a5.size)(k:j<a5.size)
  (h:Q (some (κ.blt (KK κ (arrOf st) i) (KK κ (arrOf st) j))) st):wpS (be prog w) A E s (ltAt' i j) Q st:=by
 obtain⟨x,p,a,l,m,n⟩:=d.atK h0 g;obtain⟨y,q,b,o,r,t⟩:=d.atK h0 k;rw[n,t]at h;rw[ltAt'_eq];refine aBz (wpS_get ?_);show wpS _ _ _ _ (do let x<-elem' (arrOf st) i;let y<-elem' (arrOf st) j;lt' x y) Q st;rw[elem'_eq,elem'_eq,l,o];refine aBz (aCn<|aBz<|aCn ?_);rw[lt'_eq];refine aBz (wpS_get ?_);rw[d.kind];refine aBz (wpS_lift<|aEw<|e prog w _ x y a b m r ⟨rfl,?_⟩);exact aCn h
def up1(S:SortedToK κ Y x)(h:1<=x->κ.kle (KK κ Y (x-1)) (KK κ Y x)):SortedToK κ Y (x+1):=λi j a b=>by
 rcases aDp (aFm b)with d|rfl
 .exact S i j a d
 rcases aDp a with e|rfl
 .exact KeyOrd.kle_trans (S i (j-1) (by lia) (by lia)) (h (by lia))
 exact KeyOrd.kle_refl _
def dn1(S:NonIncK κ Y x)(h:1<=x->κ.kle (KK κ Y x) (KK κ Y (x-1))):NonIncK κ Y (x+1):=λi j a b=>by
 rcases aDp (aFm b)with d|rfl
 .exact S i j a d
 rcases aDp a with e|rfl
 .exact KeyOrd.kle_trans (h (by lia)) (S i (j-1) (by lia) (by lia))
 exact KeyOrd.kle_refl _
def OU(S:NonIncK κ Y x)(e:∀k,KK κ a k=KK κ Y k):NonIncK κ a x:=λi j b d=>by rw[e,e];exact S i j b d
def FP(κ:KeyKind)(Y:Array Keyed)(x c:Nat):Prop:=c+1<=x/\∀k,x-(c+1)<=k->k<x->KK κ Y k=KK κ Y (x-1)
def FP.one(h:1<=x):FP κ Y x 0:=⟨h,λk a b=>by rw[show k=x-1 by lia]⟩
variable{st:SortSt}
def OB(i:VY f A s κ)(h0:KeysOf κ a5)(l:m<=a5.size)(B:TB f a5 st)(o:1<=a)(b:a<=m)(S:SortedToK κ (arrOf st) a){Q:AscSt->SortSt->Prop}(q:∀n,a<=n->n<=m->SortedToK κ (arrOf st) n->(n<m->κ.klt (KK κ (arrOf st) n) (KK κ (arrOf st) (n-1)))->Q (none,n) st):wpS (be prog w) A E s (ascLoop a m) Q st:=by
 refine aEh (I:=λn r t=>t=st/\r=(none,n)/\SortedToK κ (arrOf st) n) (λn r t j l2 k=>?_) (λr t ⟨g,h,d⟩=>?_) ⟨rfl,rfl,S⟩
 .obtain⟨g,h,d⟩:=k;subst g h;refine aBz (ltT f i B h0 (by lia) (by lia) ?_);cases z:κ.blt (KK κ (arrOf t) n) (KK κ (arrOf t)<|n-1)with
  |true=>exact aCn (q n j (by lia) d λ_=>z)
  |false=>exact aCn ⟨rfl,rfl,up1 d λ_=>z⟩
 subst g h;have e:max a m=m:=Nat.max_eq_right b;rw[e]at d⊢;exact q m b (aAl _) d λz=>absurd z (aBr _)
abbrev Told(f:Bool)(κ:KeyKind)(a5:Array Keyed)(m:Nat)(Q:Option Nat->SortSt->Prop):Prop:=∀n t,TB f a5 t->1<=n->n<=m->SortedToK κ (arrOf t) n->Q (some n) t
def AM(g:VY f A s κ)(h0:KeysOf κ a5)(a:m<=a5.size)(B:TB f a5 st)(b:1<=n)(d:n<=m)(S:NonIncK κ (arrOf st) n){Q:Option Nat->SortSt->Prop}(q:Told f κ a5 m Q):
  wpS (be prog w) A E s (tail3 n m) Q st:=by
 have B2:=B.setArr (aGj (arrOf st) 0 n<|(n-0)/2);have h:n<=(arrOf st).size:=by rw[B.size];exact aAr d a
 refine aBz (aGk<|aBz<|OB g h0 a B2 b d (λi j u l=>?_) λk o p r _=>aCn (q k _ B2 (aAr b o) p r));have e:∀k,k<n->KK κ (arrOf<|setArr st<|mirror (arrOf st) 0 n<|(n-0)/2) k=KK κ (arrOf st) (0+n-1-k):=λk t=>(KK_mirror h k).trans (h9 ⟨aAY _,t⟩);rw[e i (by lia),e j l];exact S _ _ (by lia) (by lia)
def OS(g:VY f A s κ)(h0:KeysOf κ a5)(C:m<=a5.size)(B:TB f a5 st)(h:1<=n)(j:n<=m)(S:NonIncK κ (arrOf st) n){Q:DescSt->SortSt->Prop}(q:∀k c t,TB f a5 t->1<=k->k<=m->NonIncK κ (arrOf t) k->FP κ (arrOf t) k c->Q (none,k,c) t):wpS (be prog w) A E s (descLoop n m) Q st:=by
 refine aEh (I:=λk r t=>∃c,r=(none,k,c)/\TB f a5 t/\NonIncK κ (arrOf t) k/\FP κ (arrOf t) k c) (λk r t H l2 p=>?_) (λr t ⟨c,e,a,d,b⟩=>?_) ⟨0,rfl,B,S,FP.one h⟩
 .obtain⟨c,e,a,d,b⟩:=p;subst e;have u:k<=(arrOf t).size:=by rw[a.size];lia
  dsimp only;refine aBz (ltT f g a h0 (by lia) (by lia) ?_);cases z:κ.blt (KK κ (arrOf t) k) (KK κ (arrOf t)<|k-1)with
  |true=>
   have l:NonIncK κ (arrOf t) (k+1):=dn1 d λ_=>KeyOrd.kle_of_klt z;show wpS _ _ _ _ (if c>0 then _ else _) _ t;by_cases o:c>0
   .rw[h9 o];exact aBz (aGk (aCn ⟨0,rfl,a.setArr (aGj _ _ _ _),OU l (aFQ u b.2),FP.one (by lia)⟩))
   rw[ia o];exact aCn ⟨0,rfl,a,l,FP.one (by lia)⟩
  |false=>
   dsimp only;simp only[aAv,if_false];refine aBz (ltT f g a h0 (by lia) (by lia) ?_);cases v:κ.blt (KK κ (arrOf t)<|k-1) (KK κ (arrOf t) k)with
   |true=>exact aCn (q k c t a (by lia) (by lia) d b)
   |false=>
    have e:KK κ (arrOf t) k=KK κ (arrOf t) (k-1):=KeyOrd.kle_antisymm v z;refine aCn ⟨c+1,rfl,a,dn1 d λ_=>by rw[e];exact KeyOrd.kle_refl _,by have:=b.1;lia,λi J x=>?_⟩;show KK κ (arrOf t) i=KK κ (arrOf t) k;rcases aDp (aFm x)with y|rfl
    .rw[e];exact b.2 i (by lia) y
    rfl
 subst e;have e:max n m=m:=Nat.max_eq_right j;rw[e]at d b⊢;exact q m c t a (aAr h j) (aAl _) d b
def BM(a:VY f A s κ)(h0:KeysOf κ a5)(b:m<=a5.size)(B:TB f a5 st)(j:n+1<=m)(S:NonIncK κ (arrOf st) (n+1)){Q:Option Nat->SortSt->Prop}(q:Told f κ a5 m Q):
  wpS (be prog w) A E s (descPart n m) Q st:=by
 refine aBz (wpS_lift<|aDy ⟨rfl,aBz (OS a h0 b B (aGG n) j S λk c t d e g h l=>?_)⟩);have o:k<=(arrOf t).size:=by rw[d.size];lia
 show wpS _ _ _ _ (if c>0 then _ else _) _ t;by_cases i:c>0
 .rw[h9 i];exact aBz (aGk<|AM a h0 b (d.setArr<|aGj _ _ _ _) e g (OU h<|aFQ o l.2) q)
 rw[ia i];exact AM a h0 b d e g h q
def LZ(a:VY f A s κ)(h0:KeysOf κ a5)(b:m<=a5.size)(l:1<=m)(B:TB f a5 st){Q:Option Nat->SortSt->Prop}(q:Told f κ a5 m Q):wpS (be prog w) A E s (countRun' 0 m) Q st:=by
 rw[countRun0_eq];refine aBz (OB a h0 b B (aAl 1) l (up1 (λ_ _ _ z=>absurd z (aFR _)) λz=>absurd z (by decide)) λn d e S o=>?_);show wpS _ _ _ _ (if(n==m)=true then _ else _) _ st;by_cases g:n=m
 .rw[h9 (beq_iff_eq.mpr g)];exact aCn (q n st B d e S)
 rw[ia λz=>g (beq_iff_eq.mp z)];have lt:=o (by lia);by_cases h:n>1
 .rw[h9 h];refine aBz (ltT f a B h0 (by lia) (by lia) ?_);cases z:κ.blt (KK κ (arrOf st) 0) (KK κ (arrOf st)<|n-1)with
  |true=>exact aCn (q n st B d e S)
  |false=>
   have p:n<=(arrOf st).size:=by rw[B.size];lia
   have same:∀k,0<=k->k<n->KK κ (arrOf st) k=KK κ (arrOf st) (n-1):=λk _ r=>KeyOrd.kle_antisymm (S k (n-1) (by lia) (by lia)) (KeyOrd.kle_trans z<|S 0 k (aAY _) r);have t:NonIncK κ (arrOf st) n:=λi j v u=>by rw[same i (aAY _) (by lia),same j (aAY _) u];exact KeyOrd.kle_refl _
   exact aBz (aGk (BM a h0 b (B.setArr<|aGj _ _ _ _) (by lia) (OU (dn1 t λ_=>KeyOrd.kle_of_klt lt)<|aFQ p same) q))
 rw[ia h];obtain rfl:n=1:=by lia
 exact BM a h0 b B (by lia) (dn1 (dn1 (λ_ _ _ z=>absurd z (aFR _)) λz=>absurd z (by decide)) λ_=>KeyOrd.kle_of_klt lt) q
def qJ(hO:VY f A s κ)(h0:KeysOf κ a5)(hn:n<=a5.size)(hk:k<=n)(B:TB f a5 st)(S:SortedToK κ (arrOf st) k){Q:Bool->SortSt->Prop}(q:∀t,TB f a5 t->SortedToK κ (arrOf t) n->Q true t):
  wpS (be prog w) A E s (binarySort' 0 n k) Q st:=by
 rw[binarySort'_eq];simp only[aFO];have S0:SortedToK κ (arrOf st) (min (max k 1) n):=λi j H N=>by
  rcases Nat.eq_or_lt_of_le H with rfl|ah
  .exact KeyOrd.kle_refl _
  exact S i j H (by lia)
 refine aBz (wpS_mono (Q:=λr t=>r=(none,())/\TB f a5 t/\SortedToK κ (arrOf t) n) (aEh (I:=λx r t=>r=(none,())/\TB f a5 t/\SortedToK κ (arrOf t) (min x n)) (λx r t l1 l2 ⟨e,h,g⟩=>?step) (λr t ⟨e,h,g⟩=>⟨e,h,?fin⟩) ⟨rfl,B,S0⟩) λr t ⟨e,h,g⟩=>?post)
 case step=>
  subst e;rw[aFS (aDu l2)]at g;have O:x<a5.size:=by lia
  let p (l:Nat):Prop:=∀i,i<l->κ.kle (KK κ (arrOf t) i) (KK κ (arrOf t) x)
  let Top (r:Nat):Prop:=∀i,r<=i->i<x->κ.klt (KK κ (arrOf t) x) (KK κ (arrOf t) i)
  refine aBz (wpS_mono (Q:=λd u=>u=t/\∃l r,d=(none,l,r)/\l<=x/\p l/\Top l) (aEh (I:=λy d u=>u=t/\∃l r,d=(none,l,r)/\l<=r/\r<=x/\r-l<=x-y/\p l/\Top r) (λy d u _ y2 ⟨e,l,r,v,T,J,L,lo,o⟩=>?istep) (λd u ⟨e,l,r,v,T,J,L,lo,o⟩=>?ifin)
   ⟨rfl,0,x,rfl,aAY _,aAl _,aAl _,λ_ z=>absurd z (aFR _),λi a b=>absurd (aCt a b) (aBr _)⟩) λd u ⟨e,l,r,v,lx,lo,o⟩=>?ipost)
  case istep=>
   subst e v;show wpS _ _ _ _ (if l>=r then _ else _) _ u;by_cases m:l>=r
   .rw[h9 m];obtain rfl:l=r:=aFL T m;exact aCn ⟨rfl,l,l,rfl,J,lo,o⟩
   rw[ia m];dsimp only;refine aBz (ltT f hO h h0 O (by lia) ?_);cases z:κ.blt (KK κ (arrOf u) x) (KK κ (arrOf u)<|(l+r)/2)with
   |true=>exact aCn ⟨rfl,l,(l+r)/2,rfl,by lia,by lia,by lia,lo,λi a b=>KeyOrd.klt_of_klt_of_kle z (g _ i a b)⟩
   |false=>exact aCn ⟨rfl,(l+r)/2+1,r,rfl,by lia,by lia,by lia,λi a=>KeyOrd.kle_trans (g i ((l+r)/2) (by lia) (by lia)) z,o⟩
  case ifin=>
   subst e v;obtain rfl:l=r:=by lia
   exact⟨rfl,l,l,rfl,J,lo,o⟩
  case ipost=>
   subst e v;have hz:x<(arrOf u).size:=by rw[h.size];exact O
   show wpS _ _ _ _ (do moveDown' x l;pure (aCp (none,()))) _ u;rw[moveDown'_eq];refine aBz (wpS_modify<|aCn ⟨rfl,h.setArr (bubble_perm _ _ _),λi j H N=>?_⟩);have e:∀k,KK κ (arrOf<|setArr u<|bubble (arrOf u) x<|x-l) k=if k=l then KK κ (arrOf u) x else if l<k/\k<=x then KK κ (arrOf u) (k-1)else KK κ (arrOf u) k:=λk=>by have:=KK_bubble (κ:=κ) hz (Nat.sub_le x l) k;rw[show x-(x-l)=l by lia]at this;exact this
   have N:j<x+1:=by lia
   rw[e,e];by_cases U:i=l
   .rw[h9 U];by_cases C:j=l
    .rw[h9 C];exact KeyOrd.kle_refl _
    rw[ia C,h9 ⟨by lia,by lia⟩];exact KeyOrd.kle_of_klt (o _ (by lia) (by lia))
   rw[ia U];by_cases C:j=l
   .rw[h9 C,ia λz=>by lia];exact lo i (by lia)
   rw[ia C];by_cases Y:l<i/\i<=x
   .rw[h9 Y,h9 ⟨by lia,by lia⟩];exact g _ _ (by lia) (by lia)
   rw[ia Y];by_cases c4:l<j/\j<=x
   .rw[h9 c4];exact g _ _ (by lia) (by lia)
   rw[ia c4];exact g _ _ H (by lia)
 case fin=>rw[show min (max (max k 1) n) n=n by lia]at g;exact g
 case post=>subst e;exact aCn (q t h g)
def nJ(f:Bool)(g:VY f A s κ)(h0:KeysOf κ a5)(B:TB f a5 st)(p:2<=a5.size)(b:a5.size<64){Q:Unit->SortSt->Prop}(q:∀t,(arrOf t).Perm a5->failedOf t=none->SortedToK κ (arrOf t) a5.size->Q () t):wpS (be prog w) A E s sortRuns' Q st:=by
 have k:minRun' a5.size a5.size 0=a5.size:=by
  generalize y:a5.size=N at*
  cases N with
  |zero=>lia
  |succ N=>rw[minRun'_succ,h9 b]
 let WS (t:SortSt):Prop:=(arrOf t).Perm a5/\failedOf t=none/\pendingOf t=#[(0,a5.size,0)]/\SortedToK κ (arrOf t) a5.size
 have done:∀t,TB f a5 t->SortedToK κ (arrOf t) a5.size->WS (setPending t<|(pendingOf t).push (0,a5.size,0)):=λt a l=>⟨a.perm,a.failed,(ir (·.push (0,a5.size,0)) a.pend),l⟩;rw[sortRuns'_eq];refine aBz (wpS_get ?_);dsimp only;simp only[B.size,k];refine aBz (wpS_mono (Q:=λr t=>r=(none,a5.size)/\WS t) (aEh (I:=λx r t=>(x=0/\r=(none,0)/\TB f a5 t)\/(0<x/\r=(none,a5.size)/\WS t)) (λx r t _ l2 I=>?step) (λr t I=>?fin)<|.inl ⟨rfl,rfl,B⟩) λr t ⟨e,D⟩=>?post)
 case step=>
  rcases I with⟨rfl,rfl,a⟩|⟨C,rfl,D⟩
  .show wpS _ _ _ _ (if 0>=a5.size then _ else _) _ t;rw[ia (by lia)];simp only[Nat.sub_zero,Nat.min_self,aFO];have fin:∀u,TB f a5 u->(pendingOf u).back?=none:=λu B2=>by rw[B2.pend];rfl
   refine aBz (LZ g h0 (aAl _) (by lia) a λn u B2 H m h=>?_);show wpS _ _ _ _ (if n<a5.size then _ else _) _ u;by_cases i:n<a5.size
   .rw[h9 i];refine aBz (wpS_lift<|aDy ⟨rfl,aBz (qJ g h0 (aAl _) m B2 h λv j o=>?_)⟩);simp only[aDz,aAv,if_false];refine aBz (wpS_get ?_);rw[fin v j];exact aBz (wpS_modify<|aCn<|.inr ⟨aGG _,rfl,done v j o⟩)
   rw[ia i];obtain rfl:n=a5.size:=by lia
   refine aBz (wpS_get ?_);rw[fin u B2];exact aBz (wpS_modify<|aCn<|.inr ⟨aGG _,rfl,done u B2 h⟩)
  show wpS _ _ _ _ (if a5.size>=a5.size then _ else _) _ t;rw[h9 (aAl _)];exact aCn ⟨rfl,D⟩
 case fin=>
  rcases I with⟨z,_⟩|⟨_,e,D⟩
  .lia
  exact⟨e,D⟩
 case post=>
  subst e;refine aBz (wpS_mono (Q:=λr u=>u=t/\r=(none,())) (aEh (I:=λ_ r u=>u=t/\r=(none,())) (λ_ r u _ _ ⟨e,d⟩=>?istep) (λ_ _ z=>z) ⟨rfl,rfl⟩) λr u ⟨e,d⟩=>?ipost)
  case istep=>subst e d;refine aBz (wpS_get ?_);rw[h9 (by rw[D.2.2.1];exact aAl 1)];exact aCn ⟨rfl,rfl⟩
  case ipost=>subst e d;exact aCn (q _ D.1 D.2.1 D.2.2.2)
end
section
def zj(a:bc)(s d:ba):Prop:=∀b o,b≠a->s.heap.get? b=some o->d.heap.get? b=some o
def yS{P:Fin->ba->Prop}(q:s.heap.get? a=some (seqObj "list" L.toArray n))(h0:KeysOf κ (pairsOf L))(y:∀k,zj a s k->VY f A k κ)(t:2<=L.length->∀k,zj a s k->∀{Q:SortKind->ba->Prop},Q (tupK f) k->a9 (be prog w) A (keyKind' L.toArray) Q E k)(u:L.length<64)(h:∀d:SortSt,(arrOf d).Perm (pairsOf L)->SortedToK κ (arrOf d) (pairsOf L).size->P (.done (.ret .none)) {s with heap:=sortedHeap s.heap a L ((arrOf d).map (·.2))}):
  a9 (be prog w) A (Builtin.«list.sort» ⟨[.ref a],[]⟩) P E s:=by
 rw[list_sort_plain];have z:a<s.heap.objs.size:=aAg q;refine aAa (aEi q rfl ?_);refine aAa (listUpdate_at q rfl ?_);obtain⟨v,l⟩:∃v,(s.heap.update a<|aBF λ_=>#[]).get? a=some (seqObj "list" #[] v):=⟨_,get?_update_seq q _⟩;refine aAa (seqEpoch_at l rfl<|aAa<|aGg<|aAa<|wpAny_newList<|aAW ?_);have B:a≠(s.heap.update a<|aBF λ_=>#[]).objs.size:=by rw[Heap.size_update];exact aAm z
 have m:zj a s {s with heap:=((s.heap.update a<|aBF λ_=>#[]).push (seqObj "tuple" L.toArray 0)).push (seqObj "list" #[] 0)}:=λb o C e=>aAd _ (aAd _<|(aAF _ _<|aBY C).trans e)
 have g:(((s.heap.update a<|aBF λ_=>#[]).push (seqObj "tuple" L.toArray 0)).push (seqObj "list" #[] 0)).get? a=some (seqObj "list" #[] v):=aAd _ (aAd _ l);show a9 (be prog w) A _ P E {s with heap:=((s.heap.update a<|aBF λ_=>#[]).push (seqObj "tuple" L.toArray 0)).push (seqObj "list" #[] 0)};dsimp only;have U:L.toArray.size=L.length:=by simp
 have p:=h;by_cases r:L.toArray.size<2
 .rw[h9 r,h9 r];refine aAa (aAb ?_);rw[StateT.run_pure];refine aAa (aAb ?_);dsimp only;refine aAa (seqEpoch_at g rfl (aAa (listUpdate_at g rfl ?_ (hsz2:=by rw[Array.size_map];show(pairsOf L).size<=_;rw[aEV,aFt];lia))));simp only[bne_self_eq_false,aAv,if_false];refine aAb (p (SortSt.mk' general' (L.toArray.zip L.toArray) #[] 7 none) (aGJ _) λi j Y H=>?_);have:i=j:=by rw[aEV]at H;lia
  subst this;exact KeyOrd.kle_refl _
 rw[ia r,ia r];refine aAa (t (by lia) _ m ?_);refine aAa (aCI (nJ f (κ:=κ) (y _ m) (a5:=pairsOf L) (st:=SortSt.mk' (tupK f) (L.toArray.zip L.toArray) #[] 7 none) (Q:=λ_ d=>(arrOf d).Perm (pairsOf L)/\failedOf d=none/\SortedToK κ (arrOf d) (pairsOf L).size)
  h0 ⟨aGJ _,rfl,rfl,rfl⟩ (by rw[aEV];lia) (by rw[aEV];exact u) λd I J N=>⟨I,J,N⟩) ?_ λ_ _ e=>e)
 rintro⟨⟨⟩,d⟩ s' ⟨rfl,x,O,T⟩;dsimp only;refine aAa (seqEpoch_at g rfl (aAa (listUpdate_at g rfl ?_ (hsz2:=by refine aAr (aEj<|(Array.size_map ..).trans (x.size_eq.trans<|aEV _)) ?_;rw[aFt];lia))));rw[O];simp only[bne_self_eq_false,aAv,if_false];exact aAb (p d x T)
end
end TS
namespace L2
open PySem PySem.Spec PyProof.Rows
abbrev zO:=Sum Int Str
def RK:zO->au->Bool
 |.inl k,v=>Value.isInt k v
 |.inr x,v=>Value.isStrOf x v
def a4d(w:cp):zO->Int
 |.inl k=>hashInt k
 |.inr x=>hashStr w x
theorem B9:∀{k:zO}{v:au},RK k v=true->(∃i t,k=aGw i/\v=aGK i t)\/(∃x t,k=aGx x/\v=Value.str x t)
 |.inl i,v,h=>by obtain⟨t,e⟩:=Value.isInt_shape (k:=i) (v:=v) h;exact .inl ⟨i,t,rfl,e⟩
 |.inr x,v,h=>by obtain⟨t,e⟩:=Value.isStrOf_shape (x:=x) (v:=v) h;exact .inr ⟨x,t,rfl,e⟩
def sj(a b:Int):decide ((aGw a:zO)=aGw b)=(a==b):=by
 by_cases e:a=b
 .subst e;simp
 have h:¬(aGw a:zO)=aGw b:=λq=>e (Sum.inl.inj q);rw[decide_eq_false h];exact(beq_eq_false_iff_ne.mpr e).symm
def xx(a b:Str):decide ((aGx a:zO)=aGx b)=decide (a=b):=by
 by_cases e:a=b
 .subst e;simp
 have h:¬(aGx a:zO)=aGx b:=λq=>e (Sum.inr.inj q);rw[decide_eq_false h,decide_eq_false e]
def nq(a:Int)(b:Str):decide ((aGw a:zO)=aGx b)=false:=decide_eq_false (λq=>nomatch q)
def jy(a:Str)(b:Int):decide ((aGx a:zO)=aGw b)=false:=decide_eq_false (λq=>nomatch q)
def wN(prog:bM)(w:cp):PySem.KeyKind prog w zO where
 is:=RK
 hash:=a4d w
 inj:=λv a b l g=>by
  rcases B9 l with⟨i,t,rfl,rfl⟩|⟨x,t,rfl,rfl⟩
  .rcases B9 g with⟨j,u,rfl,e⟩|⟨y,u,rfl,e⟩
   .injection e with d _;rw[d]
   exact nomatch e
  rcases B9 g with⟨j,u,rfl,e⟩|⟨y,u,rfl,e⟩
  .exact nomatch e
  injection e with d _;rw[d]
 byValue:=λk v h=>by rcases B9 h with⟨i,t,rfl,rfl⟩|⟨x,t,rfl,rfl⟩<;>rfl
 pyHash:=λf h=>by
  rcases B9 f with⟨i,t,rfl,rfl⟩|⟨x,t,rfl,rfl⟩
  .exact wpAny_pyHash_int h
  exact wpAny_pyHash_str h
 eqBool:=λm f h=>by
  rcases B9 m with⟨i,t,rfl,rfl⟩|⟨x,t,rfl,rfl⟩
  .rcases B9 f with⟨j,u,rfl,rfl⟩|⟨y,u,rfl,rfl⟩
   .rw[sj]at h;exact wpAny_eqBool_int h
   rw[nq]at h;exact aGo i t y u _ _ _ _ h
  rcases B9 f with⟨j,u,rfl,rfl⟩|⟨y,u,rfl,rfl⟩
  .rw[jy]at h;exact aGp x t j u _ _ _ _ h
  rw[xx]at h;exact wpAny_eqBool_str h
 «strs»:=λk x t v h=>by
  rcases B9 h with⟨i,u,rfl,e⟩|⟨y,u,rfl,e⟩
  .exact nomatch e
  injection e with d _;subst d;cases v<;>rfl
def lz(prog:bM)(w:cp)(k:zO)(v:au):(wN prog w).is k v=RK k v:=rfl
inductive V where
 |non|bl (b:Bool)|int (i:Int)|str (x:Str)|byt (b:Array UInt8)|flt (b:UInt64)|ref (a:Addr)|ty (n:String)
 deriving DecidableEq
def RelV:V->au->Prop
 |.non,u=>u=Value.none
 |.bl b,u=>u=aDA b
 |.int i,u=>∃t,u=aGK i t
 |.str x,u=>∃t,u=Value.str x t
 |.byt b,u=>∃t,u=Value.bytes b t
 |.flt b,u=>∃t,u=Value.float b t
 |.ref a,u=>u=aDH a
 |.ty n,u=>u=aCu n
abbrev l7:List V->List au->Prop:=Paired RelV
def l7.length{Y:List V}{a:List au}(r:l7 Y a):Y.length=a.length:=Paired.length r
theorem l7.get:∀{Y:List V}{a:List au}{i:Nat}{x:V},l7 Y a->Y[i]?=some x->∃u,a[i]?=some u/\RelV x u
 |_,_,_,_,.nil,e=>by simp at e
 |_,_,0,_,.cons r _,e=>by simp at e;subst e;exact⟨_,rfl,r⟩
 |_,_,i+1,x,.cons _ t,e=>by obtain⟨u,b,d⟩:=l7.get (i:=i) (x:=x) t (by simpa using e);exact⟨u,by simpa using b,d⟩
theorem l7.set(r:RelV x u):∀{Y:List V}{a:List au} (i:Nat),l7 Y a->l7 (Y.set i x) (a.set i u)
 |_,_,_,.nil=>.nil
 |_,_,0,.cons _ t=>.cons r t
 |_,_,i+1,.cons q t=>.cons q (l7.set r i t)
theorem l7.append:∀{Y a:List V}{b ws:List au},l7 Y b->l7 a ws->l7 (Y++a) (b++ws)
 |_,_,_,_,.nil,s=>s
 |_,_,_,_,.cons r t,s=>.cons r (l7.append t s)
theorem l7.take:∀{Y:List V}{a:List au} (n:Nat),l7 Y a->l7 (Y.take n) (a.take n)
 |_,_,0,_=>.nil
 |_,_,_+1,.nil=>.nil
 |_,_,n+1,.cons r t=>.cons r (l7.take n t)
theorem l7.drop:∀{Y:List V}{a:List au} (n:Nat),l7 Y a->l7 (Y.drop n) (a.drop n)
 |_,_,0,r=>r
 |_,_,_+1,.nil=>.nil
 |_,_,n+1,.cons _ t=>l7.drop n t
def a0u:Option V->Option au->Prop
 |some v,some u=>RelV v u
 |none,none=>True
 |_,_=>False
def KV{κ:Type}:List (κ×V)->List (κ×au)->Prop:=Paired λ(p:κ×V) (q:κ×au)=>p.1=q.1/\RelV p.2 q.2
def kV:zO->V
 |.inl i=>.int i
 |.inr x=>.str x
inductive HO where
 |lst (Y:List V)
 |tup (Y:List V)
 |dK (N:List (zO×V))|dT (N:List (List zO×V))
 |set (S:Int->Bool) (n:Nat)
 |ins (C dx:Addr) (fs:List (Str×V))
 |own (x:Addr)
 |xd (fs:List (Str×V))
 |met (f x:Addr)
 |rng (lo hi:Int)
 |frz (o:Obj) (u:HO)
 |tbl (tb:List (Pos×Str))
 |ext (φ:Heap->Prop)
abbrev Hp:=bc->Option HO
def upd(H:Hp)(a:bc)(o:HO):Hp:=λb=>if b=a then some o else H b
def j2:upd H a o a=some o:=by unfold upd;rw[h9 rfl]
def l5(h:b≠a):upd H a o b=H b:=by unfold upd;rw[ia h]
def n8{H:Hp}{a b:bc}{o:HO}(h:H a=some o)(h':H b=none):a≠b:=by intro e;subst e;rw[h]at h';cases h'
section
variable(P:bM) (w:cp)
def ObjOk(H:Hp)(h:cq)(a:bc):HO->Prop
 |.lst Y=>Y.length<=sizeLine/\∃(b:List au) (n:Nat),l7 Y b/\h.get? a=some {cls:=.type "list",data:=.seq b.toArray n}
 |.tup Y=>Y.length<=sizeLine/\∃b:List au,l7 Y b/\IsTup h a b.toArray
 |.dK N=>N.length<=sizeLine/\(a==sysModules)=false/\∃L,KV N L/\h.DictOf (wN P w) a L
 |.dT N=>N.length<=sizeLine/\(a==sysModules)=false/\∃Y:List (List zO×bc×au),
  Paired (λ(p:List zO×V) (q:List zO×bc×au)=>p.1=q.1/\H q.2.1=some (.tup (p.1.map kV))/\RelV p.2 q.2.2) N Y/\
  ∃o i m,h.get? a=some o/\o.ExactDict/\o.data=.dict i m/\i.toList=Y.map (entryOfKey<|tupleKind<|wN P w)/\(Y.map (·.1)).Nodup
 |.set S n=>h.SetOf (intKind P w) a S n
 |.ins C e fs=>H e=some (.own a)/\fs.length<=1000/\e≠a/\h.get? a=some (PySem.W.instObj C e)/\
  ∃d,h.Ns1 e d/\(∀f,a0u (fs.lookup f) (d f))/\PySem.Within d (fs.map (·.1))
 |.own _=>∃o,h.get? a=some o
 |.xd fs=>∃d,h.Ns1 a d/\∀f,a0u (fs.lookup f) (d f)
 |.rng lo r=>∃t u v,h.get? a=some {cls:=.type "range",data:=.fields #[.int lo t,.int r u,.int 1 v]}
 |.frz o u=>h.get? a=some o/\ObjOk H h a u
 |.tbl s=>∃g:Array au,h.get? a=some {cls:=.none,data:=.fields g}/\TriplesOk g.toList/\∀p∈s,eY p.1 g.toList=none\/∃c j L t,eY p.1 g.toList=some (.ref c)/\H c=some (.frz j (.own c))/\j.data=.fields L/\L[1]?=some (.str p.2 t)
 |.met f x=>h.get? a=some (PySem.W.methodObj (.ref f)<|.ref x)
 |.ext φ=>φ h/\(∃o,h.get? a=some o)/\∀k l:cq,φ k->(∀o,k.get? a=some o->l.get? a=some o)->φ l
def ZO:HO->Prop
 |.tup _=>True
 |.frz o _=>∃L,o.data=.fields L
 |_=>False
def gB(H:Hp)(h:cq):Prop:=∀a o,H a=some o->ObjOk P w H h a o
end
section
variable{P:bM}{w:cp}{H H':Hp}{h h':cq}{a:bc}{o:HO}
def ObjOk.lt(x:ObjOk P w H h a o):a<h.objs.size:=by
 cases o with
 |lst Y=>obtain⟨_,_,_,_,e⟩:=x;exact aAg e
 |tup Y=>obtain⟨_,_,_,p⟩:=x;exact p.lt
 |dK N=>obtain⟨_,_,_,_,o,_,_,e,_⟩:=x;exact aAg e
 |dT N=>obtain⟨_,_,_,_,o,_,_,e,_⟩:=x;exact aAg e
 |set S n=>obtain⟨o,_,_,_,e,_⟩:=x;exact aAg e
 |ins C b fs=>obtain⟨_,_,_,e,_⟩:=x;exact aAg e
 |own y=>obtain⟨_,e⟩:=x;exact aAg e
 |xd fs=>obtain⟨_,⟨_,_,_,e,_⟩,_⟩:=x;exact aAg e
 |rng lo d=>obtain⟨_,_,_,e⟩:=x;exact aAg e
 |frz g u=>obtain⟨e,_⟩:=x;exact aAg e
 |tbl i=>obtain⟨_,e,_⟩:=x;exact aAg e
 |met f y=>exact aAg (show h.get? a=some _ from x)
 |ext φ=>obtain⟨_,⟨_,e⟩,_⟩:=x;exact aAg e
theorem Paired.af5{α β:Type}{F G:α->β->Prop}:∀{l₁:List α}{l₂:List β},Paired F l₁ l₂->(∀a b,F a b->G a b)->Paired G l₁ l₂
 |_,_,.nil,_=>.nil
 |_,_,.cons r t,f=>.cons (f _ _ r) (Paired.af5 t f)
def ObjOk.ac2(x:ObjOk P w H h a o)(k:∀b u,(b=a\/H b=some (.own a))->h.get? b=some u->h'.get? b=some u)
  (I:∀b,H b=some (.own a)->H' b=some (.own a)) (B:∀b u,ZO u->H b=some u->H' b=some u):ObjOk P w H' h' a o:=by
 induction o with
 |lst Y=>obtain⟨z,l,n,r,e⟩:=x;exact⟨z,l,n,r,k _ _ (.inl rfl) e⟩
 |tup Y=>obtain⟨z,l,r,g,e,c⟩:=x;exact⟨z,l,r,g,k _ _ (.inl rfl) e,c⟩
 |dK N=>obtain⟨z,y,L,r,g,i,j,e,c⟩:=x;exact⟨z,y,L,r,g,i,j,k _ _ (.inl rfl) e,c⟩
 |dT N=>obtain⟨z,y,Y,r,g,i,j,e,c⟩:=x;exact⟨z,y,Y,Paired.af5 r λp q z=>⟨z.1,B _ _ trivial z.2.1,z.2.2⟩,g,i,j,k _ _ (.inl rfl) e,c⟩
 |set S n=>obtain⟨g,i,j,t,e,c⟩:=x;exact⟨g,i,j,t,k _ _ (.inl rfl) e,c⟩
 |ins C dx fs=>obtain⟨d,z,ne,e,m,⟨s,i,j,A,c⟩,r⟩:=x;exact⟨I _ d,z,ne,k _ _ (.inl rfl) e,m,⟨s,i,j,k _ _ (.inr d) A,c⟩,r⟩
 |own y=>obtain⟨g,e⟩:=x;exact⟨g,k _ _ (.inl rfl) e⟩
 |xd fs=>obtain⟨m,⟨s,i,j,e,c⟩,r⟩:=x;exact⟨m,⟨s,i,j,k _ _ (.inl rfl) e,c⟩,r⟩
 |rng lo hi=>obtain⟨t,u,v,e⟩:=x;exact⟨t,u,v,k _ _ (.inl rfl) e⟩
 |frz g u J=>obtain⟨e,q⟩:=x;exact⟨k _ _ (.inl rfl) e,J q⟩
 |tbl tb=>obtain⟨O,e,t,f⟩:=x;exact⟨O,k a _ (.inl rfl) e,t,λp Q=>(f p Q).imp id λ⟨c,T,L,t,U,A,E⟩=>⟨c,T,L,t,U,B _ _ ⟨L,E.1⟩ A,E⟩⟩
 |met f y=>have e:h.get? a=some (PySem.W.methodObj (.ref f)<|.ref y):=x;show h'.get? a=some (PySem.W.methodObj (.ref f)<|.ref y);exact k a _ (.inl rfl) e
 |ext φ=>obtain⟨p,⟨o,e⟩,st⟩:=x;exact⟨st _ _ p λo q=>k _ _ (.inl rfl) q,⟨o,k _ _ (.inl rfl) e⟩,st⟩
def gB.lt(x:gB P w H h)(e:H a=some o):a<h.objs.size:=(x a o e).lt
def gB.fresh(x:gB P w H h)(e:h.objs.size<=a):H a=none:=by
 cases q:H a with
 |none=>rfl
 |some u=>exact absurd (aAw (x.lt q) e) (aBr _)
def gB.kept(x:gB P w H h)(k:∀b u,h.get? b=some u->h'.get? b=some u):gB P w H h':=λa o e=>(x a o e).ac2 (λb u _ q=>k b u q) (λ_ q=>q) λ_ _ _ q=>q
def gB.laid(x:gB P w H h)(k:∀b u,h.get? b=some u->h'.get? b=some u)(i:h.objs.size<=a)(d:ObjOk P w (upd H a o) h' a o):gB P w (upd H a o) h':=λb u e=>by
 have f:=x.fresh i;by_cases g:b=a
 .subst g;rw[j2]at e;cases e;exact d
 rw[l5 g]at e;exact(x b u e).ac2 (λc v _ q=>k c v q) (λc q=>by rw[l5 (n8 q f)];exact q) λc Y _ q=>by rw[l5 (n8 q f)];exact q
end
def Rd(H:Hp)(a:bc)(u:HO):Prop:=H a=some u\/∃o,H a=some (.frz o u)
def Rd.ok(r:Rd H a u)(x:gB P w H h):ObjOk P w H h a u:=by
 rcases r with r|⟨o,r⟩
 .exact x a u r
 obtain⟨_,q⟩:=x a _ r;exact q
def Mut:Option HO->Prop
 |some (.lst _)=>True
 |some (.dK _)=>True
 |some (.dT _)=>True
 |some (.set _ _)=>True
 |some (.ins _ _ _)=>True
 |some (.ext _)=>True
 |_=>False
section
variable{P:bM}{w:cp}{H:Hp}{h h':cq}{x e:bc}{o':HO}
def gB.write(ok:gB P w H h)(g:Mut (H x))(o:e=x\/H e=some (.own x))(k:∀b u,b≠e->h.get? b=some u->h'.get? b=some u)(m:∃u,h'.get? e=some u)
  (n:ObjOk P w (upd H x o') h' x o'):gB P w (upd H x o') h':=λb u q=>by
 have a:∀c y,H c=some (.own y)->c≠x:=λc y r z=>by subst z;rw[r]at g;exact g
 have d:∀c u,ZO u->H c=some u->c≠x:=λc u f r z=>by subst z;rw[r]at g;cases u<;>first|exact g|exact f
 by_cases i:b=x
 .subst i;rw[j2]at q;cases q;exact n
 rw[l5 i]at q;by_cases j:b=e
 .have p:H b=some (.own x):=by
   rcases o with z|z
   .exact absurd (j.trans z) i
   rw[j];exact z
  rw[q]at p;cases p;obtain⟨v,s⟩:=m;exact⟨v,by rw[j];exact s⟩
 refine(ok b u q).ac2 (λc v l r=>k c v ?_ r) (λc r=>by rw[l5 (a c b r)];exact r) λc Y f r=>by rw[l5 (d c Y f r)];exact r
 rcases l with rfl|l
 .exact j
 rintro rfl;rcases o with z|z
 .exact a c b l z
 rw[l]at z;cases z;exact i rfl
end
structure Un(fs ex:List Addr)(H H':Hp)(h h':Heap):Prop where
 keep:∀b o,h.get? b=some o->H b=none->b∉fs->b∉ex->h'.get? b=some o
 slot:∀b o,h.get? b=some o->H b=none->b∈fs->b∉ex->∃sl,h'.get? b=some {o with slots:=sl}
 free:∀b o,h.get? b=some o->H b=none->b∉ex->H' b=none
 there:∀b o,h.get? b=some o->b∉ex->∃o',h'.get? b=some o'
 tups:∀b Y,H b=some (.tup Y)->H' b=some (.tup Y)
 frzs:∀b o u,H b=some (.frz o u)->H' b=some (.frz o u)
 tbls:∀b tb,H b=some (.tbl tb)->H' b=some (.tbl tb)
section
variable{fs yc ex ex':List bc}{H H1 H2:Hp}{h h1 h2 h':cq}{a x e:bc}{o:HO}
def Un.any(u:Un fs ex H H1 h h1)(q:h.get? b=some d)(n:H b=none)(f:b∉ex):∃sl,h1.get? b=some {d with slots:=sl}:=by
 by_cases g:b∈fs
 .exact u.slot b d q n g f
 exact⟨d.slots,u.keep b d q n g f⟩
def Un.kept(k:∀b u,h.get? b=some u->h'.get? b=some u):Un fs ex H H h h':=
 ⟨λb d q _ _ _=>k b d q,λb d q _ _ _=>⟨d.slots,k b d q⟩,λ_ _ _ n _=>n,λb d q _=>⟨d,k b d q⟩,λ_ _ q=>q,λ_ _ _ q=>q,λ_ _ q=>q⟩
def Un.refl:Un fs ex H H h h:=Un.kept λ_ _ q=>q
def Un.laid(k:∀b u,h.get? b=some u->h'.get? b=some u)(f:h.objs.size<=a)(d:H a=none):Un fs ex H (upd H a o) h h' where
 keep:=λb u q _ _ _=>k b u q
 slot:=λb u q _ _ _=>⟨u.slots,k b u q⟩
 free:=λb u q n _=>by rw[l5 (aAm<|aAw (aAg q) f)];exact n
 there:=λb u q _=>⟨u,k b u q⟩
 tups:=λb Y q=>by rw[l5 (n8 q d)];exact q
 frzs:=λb u Y q=>by rw[l5 (n8 q d)];exact q
 tbls:=λb g q=>by rw[l5 (n8 q d)];exact q
def Un.write(d:Mut (H x))(m:e=x\/H e=some (.own x))(k:∀b u,b≠e->h.get? b=some u->h'.get? b=some u)(f:∃u,h'.get? e=some u):Un fs ex H (upd H x o) h h':=by
 have i:∀b,H b=none->b≠x:=λb n z=>by subst z;rw[n]at d;exact d
 have j:∀b,H b=none->b≠e:=λb n z=>by
  subst z;rcases m with r|r
  .exact i b n r
  rw[n]at r;cases r
 have g:∀b u,H b=some u->¬Mut (some u)->b≠x:=λb u q p z=>by subst z;rw[q]at d;exact p d
 refine⟨λb u q n _ _=>k b u (j b n) q,λb u q n _ _=>⟨u.slots,k b u (j b n) q⟩,λb u q n _=>by rw[l5 (i b n)];exact n,λb u q _=>?_,
  λb Y q=>by rw[l5 (g b _ q λz=>z)];exact q,λb u Y q=>by rw[l5 (g b _ q λz=>z)];exact q,λb s q=>by rw[l5 (g b _ q λz=>z)];exact q⟩
 by_cases l:b=e
 .subst l;exact f
 exact⟨u,k b u l q⟩
end
def trk(h:cq)(H:Hp):List bc:=(aBc h.objs.size).filter λa=>(H a).isSome
def rR(h:cq)(H:Hp):cq:=PySem.W.hideAll h (trk h H)
def IU(h:cq)(H:Hp):(rR h H).objs.size=h.objs.size:=PySem.W.hideAll_size _ _
def MO(e:h.get? b=some o)(n:H b=none):(rR h H).get? b=some o:=
 PySem.W.hideAll_get _ e λa=>by have q:(H b).isSome=true:=(aAX.mp a).2;rw[n]at q;simp at q
def YH(e:(rR h H).get? b=some o):h.get? b=some o/\H b=none:=by
 have a:h.get? b=some o:=PySem.W.of_hideAll (trk h H) e;refine⟨a,?_⟩;cases q:H b with
 |none=>rfl
 |some x=>have d:b∈trk h H:=aAX.mpr ⟨aBa.mpr (aAg a),by simp[q]⟩;have z:(rR h H).get? b=none:=PySem.W.hideAll_none (trk h H) d;rw[z]at e;cases e
def WP(g h:cq)(L:bc):List (bc×Obj):=(aBc h.objs.size).filterMap λa=>if a=L\/(g.get? a).isSome=true then none else(h.get? a).map λo=>(a,o)
def rest(g h:cq)(L d:bc):List (bc×Obj):=(WP g h L).filter λp=>decide (p.1≠d)
structure Mod(K:PySem.W.Frag)(mg:cM)(base:Heap):Prop where
 kin:K.In base
 glob:base.Ns mainGlobals mg
 blt:∃mb,base.Ns builtinsNs mb/\∀x:Str,x≠ "__name__"->mb x=bootBuiltins x
 nolimit:base.NoLimit
structure Cx where
 prog:Program
 w:World
 K:PySem.W.Frag
 mg:Str->Option Value
 base:Heap
 A:Around
 N:List Str
 s9:Shared
 H9:Hp
 env:Env
 outer:List Env
 stack:List Env
 ex:List Addr
 fn:Str->Bool
 calm:Bool
 pn:List (Addr×Obj)
 xe:Value->Shared->Prop
def yE(l:List Env):List bc:=l.filterMap (·.frame)
abbrev Cx.fs(X:Cx):List bc:=yE X.outer
def AH(sc:hE)(x:Str):Prop:=sc.names.lookup x=some .local\/sc.names.lookup x=some .cell\/sc.names.lookup x=some .free
def Loc(sc:hE)(x:Str):Prop:=sc.names.lookup x=some .local\/sc.names.lookup x=some .cell
def Look(env:Env)(h:cq)(m:cM)(x:Str)(u:au):Prop:=
 (env.kindOf x=some .local/\m x=some u)\/((env.kindOf x=some .cell\/env.kindOf x=some .free)/\∃c,env.cells.lookup x=some c/\h.IsCell c (some u))
structure Cx.Ok(X:Cx):Prop where
 mod:Mod X.K X.mg X.base
 kind:X.env.scope.kind=.function
 glob:X.env.globals=mainGlobals
 blt:X.env.builtins=builtinsNs
 above:X.s9.heap.objs.size<=X.env.locals
 inj:∀x y c,X.env.cells.lookup x=some c->X.env.cells.lookup y=some c->x=y
 has:∀x,(X.env.kindOf x=some .cell\/X.env.kindOf x=some .free)->∃c,X.env.cells.lookup x=some c
 cab:∀x c,X.fn x=true->X.env.cells.lookup x=some c->X.s9.heap.objs.size<=c
 hd:X.calm=true->X.A.handled=none
 frames:X.A.frames=some X.stack
 stk:X.stack=X.outer\/(X.stack=X.env::X.outer/\X.env.frame=some X.env.locals)
 exf:∀b∈X.ex,b≠X.env.locals/\∀x c,X.env.cells.lookup x=some c->c≠b
 bs:∀b o,X.base.get? b=some o->X.s9.heap.get? b=some o/\X.H9 b=none
 bsz:X.base.objs.size<=X.s9.heap.objs.size
 noex:∀b o,X.base.get? b=some o->b∉X.ex
 exfs:∀b∈X.ex,b∉X.fs
 funs:X.s9.heap.FunFrames X.base X.outer
 frf:∀b∈X.fs,X.H9 b=none
structure Inv(X:Cx)(pins:O9)(σ:List (Option V))(H:Hp)(s:Shared):Prop where
 ok:X.Ok
 os:s.os=X.s9.os
 bare:AllBare s.gens
 base:Un X.fs X.ex X.H9 H X.s9.heap s.heap
 loc:∃m,s.heap.Ns X.env.locals m/\∀(i:Nat) (x:Str) (v:V),X.N[i]?=some x->σ[i]?=some (some v)->AH X.env.scope x->∃u,RelV v u/\Look X.env s.heap m x u
 cell:∀x c,X.env.cells.lookup x=some c->∃v,s.heap.IsCell c v
 free:H X.env.locals=none
 freeC:∀x c,X.env.cells.lookup x=some c->H c=none
 pin:∀p∈X.pn++pins,s.heap.get? p.1=some p.2/\H p.1=none/\p.1≠X.env.locals/\p.1∉X.fs/\∀v,p.2.data≠.cell v
 hok:gB X.prog X.w H s.heap
 len:σ.length=X.N.length
section
variable{X:Cx}{pins:O9}{σ:List (Option V)}{H H':Hp}{s:ba}{h':cq}
def Cx.Ok.nofr(ok:X.Ok)(e:X.base.get? b=some o):b∉X.fs:=λa=>by have:=(ok.funs.mem a).1;rw[e]at this;cases this
def Inv.bs(I:Inv X pins σ H s):∀b o,X.base.get? b=some o->s.heap.get? b=some o/\H b=none:=λb o e=>⟨I.base.keep b o (I.ok.bs b o e).1 (I.ok.bs b o e).2 (I.ok.nofr e) (I.ok.noex b o e),I.base.free b o (I.ok.bs b o e).1 (I.ok.bs b o e).2 (I.ok.noex b o e)⟩
def Inv.bk(I:Inv X pins σ H s):∀b o,X.base.get? b=some o->s.heap.get? b=some o:=λb o e=>(I.bs b o e).1
def Inv.mod(I:Inv X pins σ H s):Mod X.K X.mg X.base:=I.ok.mod
def Inv.kIn(I:Inv X pins σ H s):X.K.In s.heap:=I.ok.mod.kin.keeps I.bk
def Inv.lt(I:Inv X pins σ H s):X.env.locals<s.heap.objs.size:=let⟨_,a,_⟩:=I.loc;a.lt
def Inv.sz(I:Inv X pins σ H s):X.s9.heap.objs.size<=s.heap.objs.size:=aAr I.ok.above (aDu I.lt)
def Inv.ag2(I:Inv X pins σ H s)(h:s.heap.objs.size<=a):a∉X.fs:=λb=>by obtain⟨_,o,d,_⟩:=I.ok.funs.mem b;exact absurd (aAw (aAg d)<|aAr I.sz h) (aBr _)
def Inv.cne(I:Inv X pins σ H s):∀x c,X.env.cells.lookup x=some c->c≠X.env.locals:=λx c e z=>by obtain⟨v,o,a,b⟩:=I.cell x c e;obtain⟨m,⟨g,h,i,d,f,_⟩,_⟩:=I.loc;rw[z,d]at a;cases a;rw[f]at b;cases b
def Inv.funs(I:Inv X pins σ H s):s.heap.FunFrames X.base X.outer:=by
 have all:∀(l:List Env),(∀b∈yE l,b∈X.fs)->X.s9.heap.FunFrames X.base l->s.heap.FunFrames X.base l:=by
  intro l;induction l with
  |nil=>intro _ _;trivial
  |cons h r i=>intro g j;obtain⟨k,⟨L,o,a,m,n,p⟩,q⟩:=j;have d:L∈X.fs:=g L (by unfold yE;rw[aCL,a];exact aBm);obtain⟨t,e⟩:=I.base.slot L o n (I.ok.frf L d) d λz=>I.ok.exfs L z d;exact⟨k,⟨L,_,a,m,e,p⟩,i (λb f=>g b (by unfold yE;rw[aCL,a];exact aAe _ f)) q⟩
 exact all X.outer (λ_ f=>f) I.ok.funs
def Inv.stack(I:Inv X pins σ H s):s.heap.FunFrames X.base X.stack:=by
 rcases I.ok.stk with e|⟨e,a⟩
 .rw[e];exact I.funs
 rw[e];obtain⟨m,b,_⟩:=I.loc;refine .cons (by rw[I.ok.kind];decide) a b ?_ I.funs;exact aEt (aAr I.ok.bsz I.ok.above)
def Inv.ab5(I:Inv X pins σ H s):∀b∈yE X.stack,b∈X.env.locals::X.fs:=λb a=>by
 rcases I.ok.stk with e|⟨e,d⟩
 .rw[e]at a;exact aAe _ a
 rw[e]at a;unfold yE at a;rw[aCL,d]at a;exact a
def Inv.ad4(I:Inv X pins σ H s):∀b∈yE X.stack,H b=none:=λb a=>by
 rcases aAc.mp (I.ab5 b a)with e|a
 .rw[e];exact I.free
 obtain⟨_,o,d,_⟩:=I.ok.funs.mem a;exact I.base.free b o d (I.ok.frf b a) λz=>I.ok.exfs b z a
def Inv.step{g':Array GenState}{t':Nat}{d':Drawn}{ch:List bc}(I:Inv X pins σ H s)
  (E:∀b∈ch,(b∈X.ex\/X.s9.heap.objs.size<=b)/\b≠X.env.locals/\(∀x c,X.env.cells.lookup x=some c->c≠b)/\∀p∈X.pn++pins,p.1≠b)
  (g:∀b o,b≠X.env.locals->b∉X.fs->b∉ch->s.heap.get? b=some o->H b=none->h'.get? b=some o)
  (slot:∀b o,b≠X.env.locals->b∈X.fs->b∉ch->s.heap.get? b=some o->H b=none->∃sl,h'.get? b=some {o with slots:=sl}) (f:∀b o,b∉ch->s.heap.get? b=some o->H b=none->H' b=none)
  (y:∀b o,b∉ch->s.heap.get? b=some o->∃J,h'.get? b=some J)
  (L:∀b Y,H b=some (.tup Y)->H' b=some (.tup Y)) (N:∀b o u,H b=some (.frz o u)->H' b=some (.frz o u)) (O:∀b tb,H b=some (.tbl tb)->H' b=some (.tbl tb))
  (ns:∀m,s.heap.Ns X.env.locals m->h'.Ns X.env.locals m) (T:gB X.prog X.w H' h') (hg:AllBare g'):
  Inv X pins σ H' {s with heap:=h',gens:=g',drawn:=d',toks:=t'}:=by
 have Q:∀b o,X.s9.heap.get? b=some o->b≠X.env.locals:=λb o e=>aAm (aAw (aAg e) I.ok.above);have t:∀b o,X.s9.heap.get? b=some o->b∉X.ex->b∉ch:=λb o e a A=>by
  rcases(E b A).1 with z|z
  .exact a z
  exact absurd (aAw (aAg e) z) (aBr _)
 have h:∀x c,X.env.cells.lookup x=some c->∀v,s.heap.IsCell c v->h'.IsCell c v:=λx c e v ⟨o,C,U⟩=>by
  have j:c∉ch:=λz=>(E c z).2.2.1 x c e rfl;by_cases hc:c∈X.fs
  .obtain⟨sl,q⟩:=slot c o (I.cne x c e) hc j C (I.freeC x c e);exact⟨_,q,U⟩
  exact⟨o,g c o (I.cne x c e) hc j C (I.freeC x c e),U⟩
 refine⟨I.ok,I.os,hg,⟨λb o e n A a=>?_,λb o e n A a=>?_,λb o e n a=>?_,λb o e a=>?_,λb Y e=>L b Y (I.base.tups b Y e),λb o Y e=>N b o Y (I.base.frzs b o Y e),λb ps e=>?_⟩,?_,λx c e=>?_,?_,λx c e=>?_,λp hp=>?_,T,I.len⟩
 .exact g b o (Q b o e) A (t b o e a) (I.base.keep b o e n A a) (I.base.free b o e n a)
 .obtain⟨sl,B⟩:=I.base.slot b o e n A a;obtain⟨sl',e2⟩:=slot b _ (Q b o e) A (t b o e a) B (I.base.free b o e n a);exact⟨sl',e2⟩
 .obtain⟨J,B⟩:=I.base.there b o e a;exact f b J (t b o e a) B (I.base.free b o e n a)
 .obtain⟨J,B⟩:=I.base.there b o e a;exact y b J (t b o e a) B
 .exact O b ps (I.base.tbls b ps e)
 .obtain⟨m,hn,hl⟩:=I.loc;refine⟨m,ns m hn,λi x v B e2 e3=>?_⟩;obtain⟨u,r,l⟩:=hl i x v B e2 e3;refine⟨u,r,?_⟩;rcases l with l|⟨k,c,e,z⟩
  .exact .inl l
  exact .inr ⟨k,c,e,h x c e _ z⟩
 .obtain⟨v,z⟩:=I.cell x c e;exact⟨v,h x c e v z⟩
 .obtain⟨m,⟨o,_,_,C,_⟩,_⟩:=I.loc;exact f _ o (λz=>(E _ z).2.1 rfl) C I.free
 .obtain⟨v,o,C,U⟩:=I.cell x c e;exact f c o (λz=>(E c z).2.2.1 x c e rfl) C (I.freeC x c e)
 obtain⟨e,n,ne,nf,d⟩:=I.pin p hp;have j:p.1∉ch:=λz=>(E p.1 z).2.2.2 p hp rfl;exact⟨g p.1 p.2 ne nf j e n,f p.1 p.2 j e n,ne,nf,d⟩
def Inv.un{t':Nat}(I:Inv X pins σ H s)(u:Un X.fs [] H H' s.heap h')(a:gB X.prog X.w H' h'):Inv X pins σ H' {s with heap:=h',toks:=t'}:=by
 obtain⟨m,⟨o,p,q,h,r⟩,_⟩:=id I.loc;obtain⟨t,j⟩:=u.any h I.free (by simp);exact I.step (g':=s.gens) (d':=s.drawn) (ch:=[]) (λ_ z=>nomatch z) (λb o _ d _ e n=>u.keep b o e n d (by simp)) (λb o _ d _ e n=>u.slot b o e n d (by simp)) (λb o _ e n=>u.free b o e n (by simp)) (λb o _ e=>u.there b o e (by simp)) u.tups u.frzs u.tbls (λv k=>by obtain⟨x,f,g,i,l⟩:=k;rw[h]at i;cases i;exact⟨_,f,g,j,l⟩) a I.bare
def Inv.call{g':Array GenState}{t':Nat}{d':Drawn}{ch:List bc}(I:Inv X pins σ H s)(u:Un (yE X.stack) ch H H' s.heap h')(d:gB X.prog X.w H' h')(l:AllBare g')
  (i:∀b∈ch,(b∈X.ex\/X.s9.heap.objs.size<=b)/\b≠X.env.locals/\(∀x c,X.env.cells.lookup x=some c->c≠b)/\∀p∈X.pn++pins,p.1≠b):
  Inv X pins σ H' {s with heap:=h',gens:=g',drawn:=d',toks:=t'}:=by
 obtain⟨m,⟨o,y,A,j,r⟩,_⟩:=id I.loc;obtain⟨B,f⟩:=u.any j I.free λz=>(i _ z).2.1 rfl;exact I.step (ch:=ch) i (λb o f q a e n=>u.keep b o e n (λz=>(aAc.mp<|I.ab5 b z).elim f q) a) (λb o _ _ a e n=>u.any e n a) (λb o a e n=>u.free b o e n a) (λb o a e=>u.there b o e a) u.tups u.frzs u.tbls (λC t=>by obtain⟨E,g,h,k,v⟩:=t;rw[j]at k;cases k;exact⟨_,g,h,f,v⟩) d l
def Inv.turned{t':Nat}{it:bc}(I:Inv X pins σ H s)(k:∀b o,b≠it->s.heap.get? b=some o->h'.get? b=some o)(g:H it=none)(f:it≠X.env.locals)
  (h:it∈X.ex\/X.s9.heap.objs.size<=it) (i:∀x c,X.env.cells.lookup x=some c->c≠it) (j:∀p∈X.pn++pins,p.1≠it):Inv X pins σ H {s with heap:=h',toks:=t'}:=by
 have d:∀b u,H b=some u->b≠it:=λb u e z=>by rw[z,g]at e;cases e
 refine I.step (g':=s.gens) (d':=s.drawn) (ch:=[it]) (λb l=>?_) (λb o _ _ a e _=>k b o (λz=>a (by simp[z])) e) (λb o _ _ a e _=>⟨o.slots,k b o (λz=>a (by simp[z])) e⟩) (λ_ _ _ _ n=>n)
  (λb o a e=>⟨o,k b o (λz=>a (by simp[z])) e⟩) (λ_ _ e=>e) (λ_ _ _ e=>e) (λ_ _ e=>e) (λm t=>?_) (λb u e=>?_) I.bare
 .have e:b=it:=by simpa using l
  subst e;exact⟨h,f,i,j⟩
 .obtain⟨o,w,y,A,r⟩:=t;exact⟨o,w,y,k _ o (aBY f) A,r⟩
 refine(I.hok b u e).ac2 (λc v a q=>k c v ?_ q) (λ_ q=>q) λ_ _ _ q=>q;rcases a with z|z
 .rw[z];exact d b u e
 exact d c _ z
def Inv.tok(I:Inv X pins σ H s)(t:Nat):Inv X pins σ H {s with toks:=t}:=I.un (h':=s.heap) (t':=t) Un.refl I.hok
def Inv.kept(I:Inv X pins σ H s)(k:∀b u,s.heap.get? b=some u->h'.get? b=some u):Inv X pins σ H {s with heap:=h',toks:=t'}:=I.un (Un.kept k) (I.hok.kept k)
def Inv.laid(I:Inv X pins σ H s)(k:∀b u,s.heap.get? b=some u->h'.get? b=some u)(d:s.heap.objs.size<=a)(e:ObjOk X.prog X.w (upd H a o) h' a o):
 Inv X pins σ (upd H a o) {s with heap:=h',toks:=t'}:=I.un (Un.laid k d<|I.hok.fresh d) (I.hok.laid k d e)
def Inv.write(I:Inv X pins σ H s)(f:Mut (H x))(g:e=x\/H e=some (.own x))(k:∀b u,b≠e->s.heap.get? b=some u->h'.get? b=some u)(a:∃u,h'.get? e=some u)(d:ObjOk X.prog X.w (upd H x o) h' x o):Inv X pins σ (upd H x o) {s with heap:=h',toks:=t'}:=I.un (Un.write f g k a) (I.hok.write f g k a d)
def Inv.ad7(I:Inv X pins σ H s)(h:∀p∈a,s.heap.get? p.1=some p.2/\H p.1=none/\p.1≠X.env.locals/\p.1∉X.fs/\∀v,p.2.data≠.cell v):Inv X a σ H s:=
 ⟨I.ok,I.os,I.bare,I.base,I.loc,I.cell,I.free,I.freeC,λp b=>(aAD.mp b).elim (λz=>I.pin p (aBk _ z)) (h p),I.hok,I.len⟩
def BP{N:List Str}(d:N.Nodup){i j:Nat}{x:Str}(a:N[i]?=some x)(b:N[j]?=some x):i=j:=by obtain⟨g,e⟩:=aAC.mp a;obtain⟨h,f⟩:=aAC.mp b;exact(List.getElem_inj d).mp (e.trans f.symm)
def uD{M:Model}{A:cf}{E:F7}{i:Nat}{x:Str}{v:V}{u:au}{Q:Unit->ba->Prop}(I:Inv X pins σ H s)(hN:X.N.Nodup)(U:X.N[i]?=some x)(B:Loc X.env.scope x)(r:RelV v u)
  (h:∀s',Inv X pins (σ.set i (some v)) H s'->(∃a,Heap.SameBut a s.heap s'.heap/\(a=X.env.locals\/X.env.cells.lookup x=some a))->Q () s') (hf:X.fn x=true\/X.env.scope.names.lookup x=some .local:=by first|exact .inl rfl|exact .inr rfl|assumption):a9 M A (storeName X.env x u) Q E s:=by
 obtain⟨m,hn,hl⟩:=id I.loc;have Y:(X.env.scope.kind==.class||(X.env.scope.kind==.module&&X.env.locals !=X.env.globals))=false:=by rw[I.ok.kind];rfl
 have J:i<σ.length:=by rw[I.len];exact(aAC.mp U).1
 have cne:=I.cne;have g:∀{a:bc}{h':cq},(∃o,s.heap.get? a=some o/\H a=none)->Heap.SameBut a s.heap h'->gB X.prog X.w H h':=λ{a h'} ha f b ob e=>by
  obtain⟨_,_,jv⟩:=ha;refine(I.hok b ob e).ac2 (λc w' t q=>(f.2 c ?_).trans q) (λ_ q=>q) λ_ _ _ q=>q;rintro rfl;rcases t with rfl|t
  .rw[jv]at e;cases e
  rw[jv]at t;cases t
 rcases B with L|L
 .refine wpAny_storeName_local L hn (λh' hn' f=>?_) Y;obtain⟨oL,_,_,hoL,_⟩:=id hn;refine h _ ⟨I.ok,I.os,I.bare,⟨λb o e n O B=>?_,λb o e n O B=>?_,I.base.free,λb o e B=>?_,I.base.tups,I.base.frzs,I.base.tbls⟩,⟨_,hn',λj y v' l C e3=>?_⟩,λy c e=>?_,I.free,I.freeC,λp hp=>?_,g ⟨oL,hoL,I.free⟩ f,by simpa using I.len⟩ ⟨_,f,.inl rfl⟩
  .exact(f.2 b (aAm<|aAw (aAg e) I.ok.above)).trans (I.base.keep b o e n O B)
  .obtain⟨sl,l⟩:=I.base.slot b o e n O B;exact⟨sl,(f.2 b (aAm<|aAw (aAg e) I.ok.above)).trans l⟩
  .obtain⟨o',l⟩:=I.base.there b o e B;exact⟨o',(f.2 b (aAm<|aAw (aAg e) I.ok.above)).trans l⟩
  .by_cases T:j=i
   .subst T;rw[U]at l;cases l;rw[aBJ J]at C;cases C;exact⟨u,r,.inl ⟨L,by simp⟩⟩
   rw[aCA (aBY T)]at C;obtain⟨u',r',q⟩:=hl j y v' l C e3;refine⟨u',r',?_⟩;rcases q with⟨k,e⟩|⟨k,c,e,z⟩
   .refine .inl ⟨k,?_⟩;have:y≠x:=λe=>T (BP hN l<|e▸U);simp[this,e]
   exact .inr ⟨k,c,e,z.sameBut f (cne y c e)⟩
  .obtain⟨w',z⟩:=I.cell y c e;exact⟨w',z.sameBut f (cne y c e)⟩
  obtain⟨e,n,ne,nf,d⟩:=I.pin p hp;exact⟨(f.2 p.1 ne).trans e,n,ne,nf,d⟩
 have ye:X.fn x=true:=by
  rcases hf with z|z
  .exact z
  rw[z]at L;cases L
 obtain⟨c,t⟩:=I.ok.has x (.inl L);obtain⟨w',z⟩:=I.cell x c t;refine wpAny_storeName_cell I.ok.kind L t z (λh' hc' f=>?_);obtain⟨oc,bp,hocd⟩:=id z;refine h {s with heap:=h'} ⟨I.ok,I.os,I.bare,⟨λb o e n O B=>?_,λb o e n O B=>?_,I.base.free,λb o e B=>?_,I.base.tups,I.base.frzs,I.base.tbls⟩,⟨m,hn.sameBut f (aBY<|cne x c t),λj y v' l C e3=>?_⟩,λy c' e=>?_,I.free,I.freeC,λp hp=>?_,g ⟨oc,bp,I.freeC x c t⟩ f,by simpa using I.len⟩ ⟨c,f,.inr t⟩
 .exact(f.2 b (aAm<|aAw (aAg e)<|I.ok.cab x c ye t)).trans (I.base.keep b o e n O B)
 .obtain⟨sl,l⟩:=I.base.slot b o e n O B;exact⟨sl,(f.2 b (aAm<|aAw (aAg e)<|I.ok.cab x c ye t)).trans l⟩
 .obtain⟨o',l⟩:=I.base.there b o e B;exact⟨o',(f.2 b (aAm<|aAw (aAg e)<|I.ok.cab x c ye t)).trans l⟩
 .by_cases T:j=i
  .subst T;rw[U]at l;cases l;rw[aBJ J]at C;cases C;exact⟨u,r,.inr ⟨.inl L,c,t,hc'⟩⟩
  rw[aCA (aBY T)]at C;obtain⟨u',r',q⟩:=hl j y v' l C e3;refine⟨u',r',?_⟩;rcases q with q|⟨k,c',e,z'⟩
  .exact .inl q
  refine .inr ⟨k,c',e,z'.sameBut f ?_⟩;rintro rfl;exact T (BP hN l<|I.ok.inj _ _ _ e t▸U)
 .by_cases hcc:c'=c
  .subst hcc;exact⟨_,hc'⟩
  obtain⟨w2,z2⟩:=I.cell y c' e;exact⟨w2,z2.sameBut f hcc⟩
 obtain⟨e,n,ne,nf,d⟩:=I.pin p hp;refine⟨(f.2 p.1 ?_).trans e,n,ne,nf,d⟩;intro q;rw[q,bp]at e;have q':oc=p.2:=Option.some.inj e;exact d w' (by rw[<-q'];exact hocd)
def N6{E:F7}{Q:Unit->ba->Prop}(I:Inv X pins σ H s)(a:X.N.Nodup)(b:X.N[i]?=some x)(d:Loc X.env.scope x)(r:RelV v u)(h:∀s',Inv X pins (σ.set i (some v)) H s'->Q () s')(e:X.fn x=true\/X.env.scope.names.lookup x=some .local:=by first|exact .inl rfl|exact .inr rfl|assumption):a9 M A (storeName X.env x u) Q E s:=
 uD I a b d r (λs' f _=>h s' f) e
def Inv.af9(I:Inv X pins σ H s)(d:s'.os=s.os)(u:Un (yE X.stack) ch H H' s.heap s'.heap)(a:gB X.prog X.w H' s'.heap)(f:AllBare s'.gens)(g:∀b∈ch,(b∈X.ex\/X.s9.heap.objs.size<=b)/\b≠X.env.locals/\(∀x c,X.env.cells.lookup x=some c->c≠b)/\∀p∈X.pn++pins,p.1≠b):Inv X pins σ H' s':=by obtain⟨h',g',d',t',h⟩:=s';have e:h=s.os:=d;subst e;exact I.call (g':=g') (t':=t') (d':=d') u a f g
end
abbrev XK:=au->Option bc->Hp->Prop
abbrev St:=List (Option V)
abbrev VK:=V->Hp->Prop
abbrev TE:=St->Hp->VK->Prop
abbrev TT:=St->Hp->(Bool->Hp->Prop)->Prop
abbrev TA:=St->Hp->(List V->Hp->Prop)->Prop
structure Ends where
 nx:St->Hp->Prop
 rt:VK
 bk:St->Hp->Prop:=λ_ _=>False
 ct:St->Hp->Prop:=λ_ _=>False
abbrev TS:=Ends->St->Hp->Prop
def EP(X:Cx)(a:O9)(σ:St)(Q:VK)(u:au)(s':ba):Prop:=∃v b,Inv X a σ b s'/\RelV v u/\Q v b
def TP(X:Cx)(a:O9)(σ:St)(Q:Bool->Hp->Prop)(b:Bool)(s':ba):Prop:=∃d,Inv X a σ d s'/\Q b d
def AP(X:Cx)(a:O9)(σ:St)(Q:List V->Hp->Prop)(d:List au)(s':ba):Prop:=∃L b,Inv X a σ b s'/\l7 L d/\Q L b
def SP(X:Cx)(a:O9)(D:Ends)(f:Flow)(s':ba):Prop:=
 match f with
 |.next=>∃d b,Inv X a d b s'/\D.nx d b
 |.brk=>∃d b,Inv X a d b s'/\D.bk d b
 |.cont=>∃d b,Inv X a d b s'/\D.ct d b
 |.ret u=>∃v d b,Inv X a d b s'/\RelV v u/\D.rt v b
def PE(X:Cx)(e:cu)(t:TE):Prop:=
 ∀(a:O9) (s:ba) (σ:St) (H:Hp) (Q:VK),Inv X a σ H s->t σ H Q->a9 (be X.prog X.w) X.A (dm e X.env) (EP X a σ Q) X.xe s
def PT(X:Cx)(e:cu)(t:TT):Prop:=
 ∀(a:O9) (s:ba) (σ:St) (H:Hp) (Q:Bool->Hp->Prop),Inv X a σ H s->t σ H Q->a9 (be X.prog X.w) X.A (isTrue e X.env<|dm e X.env) (TP X a σ Q) X.xe s
def PW(X:Cx)(e:cu)(t:TT):Prop:=
 ∀(b:Sem au) (a:O9) (s:ba) (σ:St) (H:Hp) (Q:Bool->Hp->Prop),Inv X a σ H s->t σ H Q->a9 (be X.prog X.w) X.A (isTrue e X.env b) (TP X a σ Q) X.xe s
def PW.pt(h:PW X e t):PT X e t:=h _
def PA(X:Cx)(es:List cu)(t:TA):Prop:=
 ∀(b:Pos) (a:O9) (s:ba) (σ:St) (H:Hp) (Q:List V->Hp->Prop),Inv X a σ H s->t σ H Q->a9 (be X.prog X.w) X.A (spliced<|cy b<|bb es X.env) (AP X a σ Q) X.xe s
def PS(X:Cx)(st:cv)(t:TS):Prop:=
 ∀(a:O9) (s:ba) (σ:St) (H:Hp) (D:Ends),Inv X a σ H s->t D σ H->a9 (be X.prog X.w) X.A (exec st X.env) (SP X a D) X.xe s
def sS(X:Cx)(st:List cv)(t:TS):Prop:=
 ∀(a:O9) (s:ba) (σ:St) (H:Hp) (D:Ends),Inv X a σ H s->t D σ H->a9 (be X.prog X.w) X.A (execs st X.env) (SP X a D) X.xe s
def F5{α:Type}{t:Sem α}{Q b:α->ba->Prop}{M:Model}{A:cf}{E:F7}{s:ba}(h:a9 M A t Q E s)(d:∀a s,Q a s->b a s):a9 M A t b E s:=aCI h d λ_ _ x=>x
section
variable{X:Cx}
def a1h(i:Nat):TE:=λσ H Q=>∃v,σ[i]?=some (some v)/\Q v H
def tC(v:V):TE:=λ_ H Q=>Q v H
def O8(k:X.N[i]?=some x)(n:AH X.env.scope x)(f:(x==ja)=false:=by decide)(o:(x==ka)=false:=by decide):PE X (.Name x p) (a1h i):=by
 intro d s σ H Q I h;obtain⟨v,e,h⟩:=h;obtain⟨m,q,t⟩:=I.loc;obtain⟨u,r,l⟩:=t i x v k e n;have a:EP X d σ Q u s:=⟨v,H,I,r,h⟩;rcases l with⟨b,w⟩|⟨b,c,g,j⟩
 .exact wpAny_Name (wpAny_loadName_local I.ok.kind b q w a) f
 rcases b with b|b
 .exact wpAny_Name (wpAny_loadName_cell I.ok.kind b g j a) f
 exact wpAny_Name (wpAny_loadName_free I.ok.kind b g j a o) f
def CP{i j a}:PE X (.Constant (.int i) j a) (tC (.int i)):=λ_ _ _ H _ I h=>wpAny_Constant_int ⟨.int i,H,I.tok _,⟨_,rfl⟩,h⟩
def a0t{b j a}:PE X (.Constant (.bool b) j a) (tC (.bl b)):=λ_ _ _ H _ I h=>Constant_bool ⟨.bl b,H,I,rfl,h⟩
def iz{j a}:PE X (.Constant .none j a) (tC .non):=λ_ _ _ H _ I h=>Constant_none ⟨.non,H,I,rfl,h⟩
def Gl(X:Cx)(x:Str):Prop:=X.env.kindOf x=some .globalImplicit
def wD{E:F7}{Q:F7}(I:Inv X a σ H s)(b:Gl X x)(d:X.mg x=some u)(h:Q u s)(e:(x==ja)=false:=by decide):a9 (be X.prog X.w) X.A (dm (.Name x f) X.env) Q E s:=
 Calls.Name_function_global I.ok.kind b (Calls.loadGlobal_global (by rw[I.ok.glob];exact I.mod.glob.keeps I.bk) d h) e
def T7{E:F7}{Q:F7}(I:Inv X a σ H s)(b:Gl X x)(d:X.mg x=none)(e:de x=some u)(h:Q u s)(f:x≠ "__name__":=by decide)(g:(x==ja)=false:=by decide):a9 (be X.prog X.w) X.A (dm (.Name x i) X.env) Q E s:=by obtain⟨l,j,k⟩:=I.mod.blt;exact Calls.Name_function_global I.ok.kind b (Calls.loadGlobal_builtin (by rw[I.ok.glob];exact I.mod.glob.keeps I.bk) d (by rw[I.ok.blt];exact j.keeps I.bk) ((k x f).trans e) h) g
def VI(a:Gl X x)(b:X.mg x=some u)(r:RelV v u)(d:(x==ja)=false:=by decide):PE X (.Name x e) (tC v):=
 λ_ _ _ H _ I h=>wD I a b ⟨v,H,I,r,h⟩ d
def VJ(a:Gl X x)(b:X.mg x=none)(d:de x=some u)(r:RelV v u)(e:x≠ "__name__":=by decide)(f:(x==ja)=false:=by decide):PE X (.Name x g) (tC v):=
 λ_ _ _ H _ I h=>T7 I a b d ⟨v,H,I,r,h⟩ e f
variable{a b:cu}{ta tb:TE}{pos:Pos}
def tB(t:TE):TT:=λσ H Q=>t σ H λx d=>∃c,x=.bl c/\Q c d
def oq{e:cu}{t:TE}(h:PE X e t)(g:∀whole,isTrue e X.env whole=(do let v<-whole;standAt e.pos;fg [v] (truthy v)):=by intro _;rfl):PT X e (tB t):=by intro f s σ H Q I i;refine isTrue_plain (F5 (h f s σ H _ I i) λv n ⟨x,j,k,l,m⟩=>?_) (g _);obtain⟨d,rfl,q⟩:=m;cases l;exact aBu ⟨j,k,q⟩
variable{tA tB':TT}{rest:List cu}
def a4q(t u:TT):TT:=λσ H Q=>t σ H λc d=>if c=true then u σ d Q else Q false d
def tOr(t u:TT):TT:=λσ H Q=>t σ H λc d=>if c=true then Q true d else u σ d Q
def a4r(t:TT):TT:=λσ H Q=>t σ H λc d=>Q (!c) d
def YB(f:PT X a tA):PW X (.BoolOp .And [a] pos) tA:=by
 intro g d s σ H Q I h;refine isTrue_and (F5 (f d s σ H Q I h) λc i e=>?_);cases c with
 |true=>exact isTrue_and_nil e
 |false=>exact e
def jq(f:PT X a tA):PW X (.BoolOp .Or [a] pos) tA:=by
 intro g d s σ H Q I h;refine isTrue_or (F5 (f d s σ H Q I h) λc i e=>?_);cases c with
 |false=>exact isTrue_or_nil e
 |true=>exact e
def uq(i:PT X a tA)(j:PW X (.BoolOp .And (b::rest) pos) tB'):PW X (.BoolOp .And (a::b::rest) pos) (a4q tA tB'):=by
 intro k d s σ H Q I h;refine isTrue_and (F5 (i d s σ H _ I h) λc l ⟨e,f,g⟩=>?_);cases c with
 |true=>exact j k d l σ e Q f g
 |false=>exact⟨e,f,g⟩
def a1c(i:PT X a tA)(j:PW X (.BoolOp .Or (b::rest) pos) tB'):PW X (.BoolOp .Or (a::b::rest) pos) (tOr tA tB'):=by
 intro k d s σ H Q I h;refine isTrue_or (F5 (i d s σ H _ I h) λc l ⟨e,f,g⟩=>?_);cases c with
 |true=>exact⟨e,f,g⟩
 |false=>exact j k d l σ e Q f g
def ik(e:PT X a tA):PT X (.UnaryOp .Not a pos) (a4r tA):=by intro d s σ H Q I h;exact isTrue_not (e d s σ H (λc f=>Q (!c) f) I h)
def a1q(ta tb:TE):TE:=λσ H Q=>ta σ H λx d=>∃c,x=.bl c/\if c=true then tb σ d Q else Q (.bl false) d
def a0w(ta:TE):TE:=λσ H Q=>ta σ H λx d=>∃c,x=.bl c/\Q (.bl (!c)) d
def gj{op}(h:PE X a t):PE X (.BoolOp op [a] pos) t:=λd s σ H Q I e=>BoolOp_one (h d s σ H Q I e)
def aw(i:PE X a ta)(j:PE X (.BoolOp .And (b::rest) pos) tb):PE X (.BoolOp .And (a::b::rest) pos) (a1q ta tb):=by
 intro d s σ H Q I h;refine BoolOp_and (F5 (i d s σ H _ I h) λv k ⟨x,f,g,l,e⟩=>?_);obtain⟨c,rfl,e⟩:=e;cases l;refine aBu ?_;cases c with
 |true=>exact j d k σ f Q g e
 |false=>exact⟨.bl false,f,g,rfl,e⟩
def xk(f:PE X a ta):PE X (.UnaryOp .Not a pos) (a0w ta):=by intro d s σ H Q I h;refine UnaryOp_ (F5 (f d s σ H _ I h) λv k ⟨x,g,i,j,e⟩=>?_);obtain⟨c,rfl,e⟩:=e;cases j;exact not_of (aBu ⟨.bl (!c),g,i,rfl,e⟩)
end
def P4(K:ix)(H:Hp)(a:bc)(Y:List V):Prop:=
 Rd H a (.lst Y)\/
  ∃(o:Obj) (b:Array au) (n:Nat),K.lookup a=some o/\o.cls=.type "list"/\o.dict=none/\o.data=.seq b n/\b.size<=sizeLine/\l7 Y b.toList
def Y0(K:ix)(H:Hp)(a:bc)(Y:List V):Prop:=
 Rd H a (.tup Y)\/
  ∃(o:Obj) (b:Array au) (n:Nat),K.lookup a=some o/\o.cls=.type "tuple"/\o.data=.seq b n/\b.size<=sizeLine/\l7 Y b.toList
def a3r:au->Option V
 |.none=>some .non
 |.bool b=>some (.bl b)
 |.int i _=>some (.int i)
 |.str x _=>some (.str x)
 |.bytes b _=>some (.byt b)
 |.float b _=>some (.flt b)
 |.ref a=>some (.ref a)
 |.type n=>some (.ty n)
 |_=>none
def RelV.abs(r:RelV x u):a3r u=some x:=by
 cases x with
 |non=>cases r;rfl
 |bl _=>cases r;rfl
 |int _=>obtain⟨t,rfl⟩:=r;rfl
 |str _=>obtain⟨t,rfl⟩:=r;rfl
 |byt _=>obtain⟨t,rfl⟩:=r;rfl
 |flt _=>obtain⟨t,rfl⟩:=r;rfl
 |ref _=>cases r;rfl
 |ty _=>cases r;rfl
def RelV.inj{x y:V}{u:au}(r:RelV x u)(q:RelV y u):x=y:=Option.some.inj (r.abs.symm.trans q.abs)
theorem l7.inj:∀{Y a:List V}{b:List au},l7 Y b->l7 a b->Y=a
 |_,_,_,.nil,.nil=>rfl
 |_,_,_,.cons r t,.cons d e=>by rw[r.inj d,l7.inj t e]
section
variable{X:Cx}{pins:O9}{σ:St}{H:Hp}{s:ba}{a:bc}{Y ys:List V}
def P4.of{K:ix}(h:H a=some (.lst Y)):P4 K H a Y:=.inl (.inl h)
def Y0.of{K:ix}(h:H a=some (.tup Y)):Y0 K H a Y:=.inl (.inl h)
def Inv.list(I:Inv X pins σ H s)(h:P4 X.K H a Y):∃b:List au,l7 Y b/\PlainL s.heap a b.toArray/\Y.length<=sizeLine:=by
 rcases h with h|⟨o,b,n,d,f,g,i,j,r⟩
 .obtain⟨z,b,n,r,e⟩:=h.ok I.hok;exact⟨b,r,⟨_,n,e,rfl,rfl,rfl⟩,z⟩
 refine⟨b.toList,r,⟨o,n,I.kIn a o d,f,g,by simpa using i⟩,?_⟩;have e:=r.length;simp only[aBi]at e
 lia
def Inv.tuple(I:Inv X pins σ H s)(h:Y0 X.K H a Y):∃b:List au,l7 Y b/\IsTup s.heap a b.toArray/\Y.length<=sizeLine:=by
 rcases h with h|⟨o,b,n,d,f,g,i,r⟩
 .obtain⟨z,b,r,p⟩:=h.ok I.hok;exact⟨b,r,p,z⟩
 refine⟨b.toList,r,⟨o,I.kIn a o d,f,n,by simpa using g⟩,?_⟩;have e:=r.length;simp only[aBi]at e
 lia
def Inv.ab8(I:Inv X pins σ H s)(h:P4 X.K H a Y)(h':P4 X.K H a ys):Y=ys:=by
 obtain⟨f,r,⟨o,n,e,_,_,d⟩,_⟩:=I.list h;obtain⟨b,j,⟨l,m,g,_,_,i⟩,_⟩:=I.list h';rw[e]at g;cases g;rw[d]at i;injection i with k _;have:f=b:=by simpa using ir aFT k
 subst this;exact r.inj j
def Inv.ab6(I:Inv X pins σ H s)(h:Y0 X.K H a Y)(h':Y0 X.K H a ys):Y=ys:=by
 obtain⟨f,r,⟨o,e,_,n,d⟩,_⟩:=I.tuple h;obtain⟨b,j,⟨l,g,_,m,i⟩,_⟩:=I.tuple h';rw[e]at g;cases g;rw[d]at i;injection i with k _;have:f=b:=by simpa using ir aFT k
 subst this;exact r.inj j
end
abbrev Cx.ac1(X:Cx)(E:F7):Cx:={X with xe:=E}
abbrev Cx.nox(X:Cx):Cx:=X.ac1 λ_ _=>False
def Cx.Ok.ac1{X:Cx}(ok:X.Ok)(E:F7):(X.ac1 E).Ok:=
 ⟨ok.mod,ok.kind,ok.glob,ok.blt,ok.above,ok.inj,ok.has,ok.cab,ok.hd,ok.frames,ok.stk,ok.exf,ok.bs,ok.bsz,ok.noex,ok.exfs,ok.funs,ok.frf⟩
def Cx.Ok.aa9{X:Cx}{E:F7}(ok:(X.ac1 E).Ok):X.Ok:=
 ⟨ok.mod,ok.kind,ok.glob,ok.blt,ok.above,ok.inj,ok.has,ok.cab,ok.hd,ok.frames,ok.stk,ok.exf,ok.bs,ok.bsz,ok.noex,ok.exfs,ok.funs,ok.frf⟩
section
variable{X:Cx}{pins:O9}{σ:St}{H:Hp}{s:ba}{E:F7}
def Inv.ac1(I:Inv X pins σ H s)(E:F7):Inv (X.ac1 E) pins σ H s:=⟨I.ok.ac1 E,I.os,I.bare,I.base,I.loc,I.cell,I.free,I.freeC,I.pin,I.hok,I.len⟩
def Inv.aa9(I:Inv (X.ac1 E) pins σ H s):Inv X pins σ H s:=⟨I.ok.aa9,I.os,I.bare,I.base,I.loc,I.cell,I.free,I.freeC,I.pin,I.hok,I.len⟩
def SP.aa9(h:SP (X.ac1 E) pins D f s'):SP X pins D f s':=by
 cases f with
 |next=>obtain⟨a,b,I,q⟩:=h;exact⟨a,b,I.aa9,q⟩
 |brk=>obtain⟨a,b,I,q⟩:=h;exact⟨a,b,I.aa9,q⟩
 |cont=>obtain⟨a,b,I,q⟩:=h;exact⟨a,b,I.aa9,q⟩
 |ret u=>obtain⟨v,a,b,I,r,q⟩:=h;exact⟨v,a,b,I.aa9,r,q⟩
def sS.nox{st:List cv}{t:TS}(h:sS X.nox st t):sS X st t:=λpins s σ H D I a=>aCI (h pins s σ H D (I.ac1 _) a) (λ_ _ q=>q.aa9) λ_ _ z=>aAf z
end
section
variable{X:Cx}{st:cv}{rest:List cv}{t u:TS}{e:cu}{te:TE}{pos:Pos}
def a0o:TS:=λD σ H=>D.nx σ H
def a5a(t u:TS):TS:=λD σ H=>t {D with nx:=u D} σ H
def GS:sS X [] a0o:=λ_ _ σ H _ I h=>aEC ⟨σ,H,I,h⟩
def qA(b:PS X st t)(d:sS X rest u):sS X (st::rest) (a5a t u):=by
 intro a s σ H D I h;refine aEn (F5 (b a s σ H {D with nx:=u D} I h) λf g q=>?_);cases f with
 |next=>obtain⟨i,j,k,q⟩:=q;exact d a g i j D k q
 |ret v=>exact q
 |brk=>exact q
 |cont=>exact q
def oI(b:PS X st t):sS X [st] t:=by
 intro a s σ H D I h;refine aEn (F5 (b a s σ H D I h) λf d q=>?_);cases f with
 |next=>exact aEC q
 |ret v=>exact q
 |brk=>exact q
 |cont=>exact q
def Inv.quiet(I:Inv X a σ H s):interactive X.env=false:=by simp[interactive,I.ok.kind]
def a2a(te:TE):TS:=λD σ H=>te σ H λ_ a=>D.nx σ a
def nN(b:PE X e te)(d:eQ e none pos.line X.env=pure false:=by rfl):PS X (.Expr e pos) (a2a te):=by intro a s σ H D I h;exact wpAny_Expr_any (F5 (b a s σ H _ I h) λv j ⟨x,f,g,k,i⟩=>⟨σ,f,g,i⟩) I.quiet d
def a4j(te:TE):TS:=λD σ H=>te σ H D.rt
def wG(b:PE X e te):PS X (.Return (some e) pos) (a4j te):=by intro a s σ H D I h;exact wpAny_Return_some (F5 (b a s σ H _ I h) λv j ⟨x,d,f,g,i⟩=>⟨x,σ,d,f,g,i⟩)
def a3y(c:TT)(t u:TS):TS:=λD σ H=>c σ H λb a=>if b=true then t D σ a else u D σ a
def YY{c:cu}{a b:List cv}{g:TT}(m:PT X c g)(n:sS X a t)(o:sS X b u):PS X (.If c a b pos) (a3y g t u):=by
 intro f s σ H D I h;refine wpAny_If (F5 (m f s σ H _ I h) λd i ⟨j,k,l⟩=>?_);cases d with
 |true=>exact n f i σ j D k l
 |false=>exact o f i σ j D k l
def lq:TS:=λ_ _ _=>False
def PY:PS X st lq:=λ_ _ _ _ _ _ h=>h.elim
end
abbrev TG:=V->St->Hp->(St->Hp->Prop)->Prop
abbrev uw:=List V->St->Hp->(St->Hp->Prop)->Prop
def PG(X:Cx)(a:cu)(t:TG):Prop:=
 ∀(b:O9) (s:ba) (σ:St) (H:Hp) (v:V) (u:au) (Q:St->Hp->Prop),Inv X b σ H s->RelV v u->t v σ H Q->
  a9 (be X.prog X.w) X.A (gs a X.env u) (λ_ f=>∃d e,Inv X b d e f/\Q d e) X.xe s
def zk(X:Cx)(f:List cu)(t:uw):Prop:=
 ∀(a:O9) (s:ba) (σ:St) (H:Hp) (L:List V) (b:List au) (Q:St->Hp->Prop),Inv X a σ H s->l7 L b->t L σ H Q->
  a9 (be X.prog X.w) X.A (assignInOrder ((dC f X.env).map (·.2)) b) (λ_ g=>∃d e,Inv X a d e g/\Q d e) X.xe s
abbrev WM:=V->V->V->Hp->(Hp->Prop)->Prop
def qy(X:Cx)(t:WM):Prop:=
 ∀(a:O9) (s:ba) (σ:St) (H:Hp) (o i v:V) (b d u:au) (Q:Hp->Prop),Inv X a σ H s->RelV o b->RelV i d->RelV v u->t o i v H Q->
  a9 (be X.prog X.w) X.A (setItem b d u) (λ_ f=>∃e,Inv X a σ e f/\Q e) X.xe s
section
variable{X:Cx}{pos:Pos}
def ZS(i:Nat):TG:=λv σ H Q=>Q (σ.set i<|some v) H
def XQ(b:X.N.Nodup)(d:X.N[i]?=some x)(e:Loc X.env.scope x)(f:X.fn x=true\/X.env.scope.names.lookup x=some .local:=by first|exact .inl rfl|exact .inr rfl|assumption):PG X (.Name x pos) (ZS i):=by intro a s σ H v u Q I r h;exact wpAny_assign_Name (N6 I b d e r (λj g=>⟨_,H,g,h⟩) f)
def a4y:uw:=λL σ H Q=>L=[]/\Q σ H
def a0h(t:TG)(u:uw):uw:=λL σ H Q=>∃v r,L=v::r/\t v σ H λa b=>u r a b Q
def WA:zk X [] a4y:=by intro a s σ H L b Q I r h;obtain⟨e,h⟩:=h;subst e;cases r;exact assignInOrder_nil ⟨σ,H,I,h⟩
def OM{e:cu}{es:List cu}{t:TG}{u:uw}(d:PG X e t)(f:zk X es u)
  (g:(dC (e::es) X.env).map (·.2)=gs e X.env::(dC es X.env).map (·.2):=by rfl):zk X (e::es) (a0h t u):=by
 intro a s σ H L o Q I r h;obtain⟨v,p,i,h⟩:=h;subst i;cases r with
 |cons r j=>rw[g];refine aEW (F5 (d a s σ H _ _ _ I r h) λ_ k ⟨b,l,m,n⟩=>?_);exact f a k b l _ _ Q m j n
def a4s(a b:TE)(t:WM):TG:=λv σ H Q=>a σ H λo d=>b σ d λi e=>t o i v e λf=>Q σ f
def TH{o i:cu}{e f:TE}{t:WM}(g:PE X o e)(j:PE X i f)(k:qy X t)
  (l:∀v,gs (.Subscript o i pos) X.env v=(do
   let b<-fg [v] (dm o X.env)
   let d<-fg [v,b] (dm i X.env)
   standAt pos
   fg [v,b,d] (setItem b d v)
   release [v,b,d] []):=by intro _;rfl):PG X (.Subscript o i pos) (a4s e f t):=by
 intro a s σ H v u Q I r h;rw[l];refine aAa (aAW<|F5 (g a s σ H _ I h) λb m ⟨x,n,p,q,w⟩=>?_);refine aAa (aAW<|F5 (j a m σ n _ p w) λd z ⟨y,A,B,C,E⟩=>?_);refine aAa (aEx<|aAa<|aAW<|F5 (k a z σ A x y v b d u _ B q C r E) λ_ O ⟨J,L,N⟩=>?_);exact wpAny_release ⟨σ,J,L,N⟩
def a2g(a:TE)(g:TG):TS:=λD σ H=>a σ H λx b=>g x σ b D.nx
def DG{b e:cu}{d:TE}{g:TG}(f:PE X e d)(i:PG X b g)(j:fo [b] e pos.line X.env=pure false:=by rfl)(k:gk [b] e X.env=pure none:=by rfl)
  (l:(dC [b] X.env).map (·.2)=[gs b X.env]:=by rfl):PS X (.Assign [b] e pos) (a2g d g):=by
 intro a s σ H D I h;refine wpAny_Assign_stores (F5 (f a s σ H _ I h) λv m ⟨x,n,o,p,r⟩=>?_) j k;rw[l];exact F5 (i a m σ n x v _ o p r) λ_ t q=>q
def NM{i:Nat}{x:Str}{e:cu}{d:TE}{a:Pos}(f:X.N.Nodup)(g:X.N[i]?=some x)(j:Loc X.env.scope x)(k:PE X e d)(l:eQ e (some (.Name x a)) pos.line X.env=pure false:=by rfl)(m:X.fn x=true\/X.env.scope.names.lookup x=some .local:=by first|exact .inl rfl|exact .inr rfl|assumption):
  PS X (.Assign [.Name x a] e pos) (a2g d (ZS i)):=by
 intro b s σ H D I h;refine aEc (F5 (k b s σ H _ I h) λv t ⟨y,n,o,p,q⟩=>?_) l;exact N6 o f g j p (λu r=>⟨_,n,r,q⟩) m
def a3v(i j:Nat)(ta:TA):TS:=λD σ H=>ta σ H λL a=>∃v w,L=[v,w]/\D.nx ((σ.set i<|some v).set j (some w)) a
def qw{i j:Nat}{x y:Str}{a b:cu}{ta:TA}{l m pt:Pos}{n r xW}(Q:X.calm=true)(B:X.N.Nodup)(T:X.N[i]?=some x)(U:X.N[j]?=some y)(Y:i≠j)
  (C:X.env.scope.names.lookup x=some .local) (E:X.env.scope.names.lookup y=some .local) (ha:PA X [a,b] ta)
  (hw:gk [.Tuple [.Name x l,.Name y m] n pt] (.Tuple [a,b] r xW) X.env=pure (some [x,y]))
  (hs:fo [.Tuple [.Name x l,.Name y m] n pt] (.Tuple [a,b] r xW) pos.line X.env=pure false:=by rfl):
  PS X (.Assign [.Tuple [.Name x l,.Name y m] n pt] (.Tuple [a,b] r xW) pos) (a3v i j ta):=by
 intro d s σ H D I h;rw[exec_Assign_arm];refine aAa (aEx ?_);rw[hs];refine aAa (aAb ?_);rw[ia (by decide)];refine aAa (Tuple_<|F5 (ha _ d s σ H _ I h) λus f ⟨L,J,I1,r1,t⟩=>?_);obtain⟨v,w,e1,t⟩:=t;subst e1;obtain⟨g,k,rfl,rv,u⟩:∃g k,us=[g,k]/\RelV v g/\RelV w k:=by
  cases r1 with
  |cons p q=>
   cases q with
   |cons p' q'=>cases q';exact⟨_,_,rfl,p,p'⟩
 refine aBG ?_ (by show 2<=sizeLine;decide);have I2:Inv X d σ J {f with heap:=f.heap.push {cls:=.type "tuple",data:=.seq [g,k].toArray}}:=I1.kept (t':=f.toks) λb o e=>aAd _ e;rw[hw];refine aAa (aAb ?_);show a9 (be X.prog X.w) X.A (do rule "assign.swapped-stores";let items<-unpackItems (.ref f.heap.objs.size) 2 none;assignInOrder [λv=>bindName X.env y v,λv=>bindName X.env x v] items.reverse;pure Flow.next) _ _ _;refine aAa (aDy<|aAa<|unpackItems_tuple (items:=#[g,k]) (I.ok.hd Q) (IsTup.new f.heap _) λh' z=>?_);have I3:=I2.kept (h':=h') (t':=f.toks) λb o e=>z b o (aAm<|aAg e) e;show a9 _ _ (assignInOrder [λv=>bindName X.env y v,λv=>bindName X.env x v] [k,g]>>=λ_=>pure Flow.next) _ _ _;refine aAa (aEW<|wpAny_bindName<|N6 I3 B U (.inl E) u (λs2 I4=>?_)<|.inr E);refine aEW (wpAny_bindName<|N6 I4 B T (.inl C) rv (λs3 O=>assignInOrder_nil (aAb ?_))<|.inr C);rw[List.set_comm _ _ (aBY Y)]at O;exact⟨_,J,O,t⟩
end
section
variable{X:Cx}{pos:Pos}
def lw(c:TT)(tb:TS):TS:=λD σ H=>∃W:Nat->St->Hp->Prop,(∃m,W m σ H)/\∀m σ H,W m σ H->
 c σ H λb a=>if b=true then∃N:St->Hp->Prop,(∀d e,N d e->∃f,f<m/\W f d e)/\tb {D with nx:=N,ct:=N,bk:=D.nx} σ a else D.nx σ a
def TC{c:cu}{body:List cv}{p:TT}{tb:TS}(q:PassesOwn (be X.prog X.w) X.A X.env X.xe)(B:PT X c p)(C:sS X body tb):PS X (.While c body [] pos) (lw p tb):=by
 intro a s σ H D I h;obtain⟨W,⟨E,J⟩,turn⟩:=h;refine wpAny_While (codeAny_whileLoop (λn L=>∃r t,Inv X a r t L/\W n r t) ?_ E ⟨σ,H,I,J⟩);rintro n O ⟨d,u,Q,T⟩;refine aDa q (F5 (B a O d u _ Q<|turn n d u T) λb U ⟨x,y,i⟩=>?_);cases b with
 |true=>
  obtain⟨N,z,i⟩:=i;rw[h9 rfl];refine aDa q (F5 (C a U d x _ y i) λf Y j=>?_);cases f with
  |next=>obtain⟨e,g,k,l⟩:=j;obtain⟨m,o,w3⟩:=z e g l;exact⟨m,o,e,g,k,w3⟩
  |cont=>obtain⟨e,g,k,l⟩:=j;obtain⟨m,o,w3⟩:=z e g l;exact⟨m,o,e,g,k,w3⟩
  |brk=>exact j
  |ret v=>exact j
 |false=>rw[ia aAU];exact aEC ⟨d,x,y,i⟩
end
structure It where
 go:Nat->Hp->Prop
 yld:Nat->Hp->V->Hp->Prop
 stop:Nat->Hp->Prop
def sJ(X:Cx)(pins:O9)(H:Hp)(b:bc):Prop:=
 H b=none/\b≠X.env.locals/\b∉X.fs/\(b∈X.ex\/X.s9.heap.objs.size<=b)/\(∀x c,X.env.cells.lookup x=some c->c≠b)/\∀p∈X.pn++pins,p.1≠b
def Inv.ae9(I:Inv X a σ H s)(d:s.heap.objs.size<=b)(f:H' b=none):sJ X a H' b:=by
 refine⟨f,aDv (aAw I.lt d),I.ag2 d,.inr (aAr I.sz d),λx c e z=>?_,λp g z=>?_⟩
 .obtain⟨v,q⟩:=I.cell x c e;exact absurd (aAw q.lt (by rw[z];exact d)) (aBr _)
 exact absurd (aAw (aAg (I.pin p g).1) (by rw[z];exact d)) (aBr _)
structure Turn(P:Program)(w:World)(K:PySem.W.Frag)(tg:Expr)(J:It)(fp:List Addr)(it:Addr)(tn:Nat->Heap->Prop):Prop where
 mem:it∈fp
 obj:∀i h,tn i h->∀b∈fp,∃o,h.get? b=some o/\∀v,o.data≠.cell v
 keep:∀i h h',tn i h->(∀b∈fp,∀o,h.get? b=some o->h'.get? b=some o)->tn i h'
 item:∀(X:Cx),X.prog=P->X.w=w->X.K=K->X.calm=true->∀(i:Nat) (pins:O9) (s:Shared) (σ:St) (H:Hp) (E:F7),Inv X pins σ H s->(∀b∈fp,sJ X pins H b)->tn i s.heap->J.go i H->
  wpAny (model P w) X.A (pyNext (.ref it)) (λr s1=>∃u,r=some u/\
   wpAny (model P w) X.A (letOwnedTupleGo tg (.ref it) u) (λ_ s2=>∃x H',Inv X pins σ H' s2/\RelV x u/\J.yld i H x H'/\tn (i+1) s2.heap/\∀b∈fp,H' b=none) E s1) E s
 done:∀(X:Cx),X.prog=P->X.w=w->X.K=K->X.calm=true->∀(i:Nat) (pins:O9) (s:Shared) (σ:St) (H:Hp) (E:F7),Inv X pins σ H s->(∀b∈fp,sJ X pins H b)->tn i s.heap->J.stop i H->
  wpAny (model P w) X.A (pyNext (.ref it)) (λr s1=>r=none/\Inv X pins σ H s1) E s
 self:∀(A:Around) (i:Nat) (s:Shared) (Q:F7) (E:F7),tn i s.heap->Q (.ref it) s->wpAny (model P w) A (pyIter (.ref it)) Q E s
abbrev TI:=St->Hp->(It->Hp->Prop)->Prop
def PIE(X:Cx)(a:O9)(σ:St)(j:cu)(R:It->Hp->Prop)(d:au)(f:ba):Prop:=
 ∃(g:bc) (h:List bc) (i:Nat->cq->Prop) (J:It) (e:Hp),d=.ref g/\Inv X a σ e f/\Turn X.prog X.w X.K j J h g i/\i 0 f.heap/\(∀b∈h,sJ X a e b)/\R J e
def PI(X:Cx)(b w8:cu)(d:TI):Prop:=
 ∀(a:O9) (s:ba) (σ:St) (H:Hp) (R:It->Hp->Prop),Inv X a σ H s->d σ H R->
  a9 (be X.prog X.w) X.A (dm w8 X.env) (λv e=>a9 (be X.prog X.w) X.A (pyIter v) (PIE X a σ b R) X.xe e) X.xe s
def TQ{E : au → ba → Prop}{Q : Unit → ba → Prop} (b : s.heap.get? it = some o) (d : o.cls = .type n) (e : o.data = .fields L) (f : ["enumerate", "zip", "dict_itemiterator", "dict_reverseitemiterator", "odict_iterator", "itertools.zip_longest", "itertools.pairwise"].contains n = false) (a : Q () s) : a9 M A (letOwnedTupleGo g (.ref it) u) Q E s := by
  unfold letOwnedTupleGo;cases g <;> first
    | exact aAb a
    | (cases u <;> first
        | exact aAb a
        | (refine aAa (wpAny_load b ?_)
           rw [d, e];show a9 M A (if (["enumerate", "zip", "dict_itemiterator", "dict_reverseitemiterator", "odict_iterator", "itertools.zip_longest", "itertools.pairwise"].contains n && L[0]? == some (ez _)) = true then _ else _) Q E s;rw [ia (by intro h; rw [f, Bool.false_and] at h; cases h)];exact aAb a))
def Itl(K:ix)(a:bc):It:=
 ⟨λi H=>∃Y x,P4 K H a Y/\Y[i]?=some x,λi H x b=>b=H/\∀Y,P4 K H a Y->Y[i]?=some x,λi H=>∃Y,P4 K H a Y/\Y.length<=i⟩
def Itt(K:ix)(a:bc):It:=
 ⟨λi H=>∃Y x,Y0 K H a Y/\Y[i]?=some x,λi H x b=>b=H/\∀Y,Y0 K H a Y->Y[i]?=some x,λi H=>∃Y,Y0 K H a Y/\Y.length<=i⟩
def KR{P:bM}{w:cp}{K:ix}{U:cu}(a it:bc):Turn P w K U (Itl K a) [it] it (λi h=>h.IsListIter it a i)where
 mem:=by simp
 obj:=λi h st b g=>by
  have e:b=it:=by simpa using g
  subst e;obtain⟨o,e,c,d⟩:=st;exact⟨o,e,λv z=>by rw[d]at z;cases z⟩
 keep:=λi h l st k=>st.at λo e=>k it (by simp) o e
 item:=by intro X q r t T i f s σ H E I m st y;subst q r t;obtain⟨Y,x,n,A⟩:=y;obtain⟨B,C,p,hz⟩:=I.list n;obtain⟨u,hu,ru⟩:=C.get A;obtain⟨J,L,f2,N,O,Q⟩:=m it (by simp);refine wpAny_pyNext_list_item st p.isList (x:=u) (by simpa using hu) λl j sb=>?_;have I1:Inv X f σ H {s with heap:=l}:=I.turned (t':=s.toks) (λb o g e=>(sb.2 b g).trans e) J L N O Q;obtain⟨o,e,c,d⟩:=id j;exact⟨u,rfl,TQ (s:={s with heap:=l}) e c d (by decide) ⟨x,H,I1,ru,⟨rfl,λys hy=>by rw[I.ab8 hy n];exact A⟩,j,λb g=>(m b g).1⟩⟩
 done:=by intro X q r t T i f s σ H E I m st y;subst q r t;obtain⟨Y,n,A⟩:=y;obtain⟨B,C,p,hz⟩:=I.list n;obtain⟨J,L,f2,N,O,Q⟩:=m it (by simp);have hl:=C.length;exact wpAny_pyNext_list_end (I.ok.hd T) st p.isList (by simp;lia) λl eb=>⟨rfl,I.turned (t':=s.toks) (λb o g e=>eb b o g e) J L N O Q⟩
 self:=λ_ _ _ _ _ st h=>wpAny_pyIter_listiter st h
def CG{P:bM}{w:cp}{K:ix}{U:cu}(a it:bc):Turn P w K U (Itt K a) [it] it (λi h=>h.IsTupleIter it a i)where
 mem:=by simp
 obj:=λi h st b g=>by
  have e:b=it:=by simpa using g
  subst e;obtain⟨o,e,c,d⟩:=st;exact⟨o,e,λv z=>by rw[d]at z;cases z⟩
 keep:=λi h m st k=>st.at λo e=>k it (by simp) o e
 item:=by intro X r t y T i f s σ H E I n st A;subst r t y;obtain⟨Y,x,q,B⟩:=A;obtain⟨j,C,p,hz⟩:=I.tuple q;obtain⟨u,hu,ru⟩:=C.get B;obtain⟨J,L,f2,N,O,Q⟩:=n it (by simp);refine wpAny_pyNext_tuple_item st (show s.heap.IsTuple a j.toArray from p) (x:=u) (by simpa using hu) λm l sb=>?_;have I1:Inv X f σ H {s with heap:=m}:=I.turned (t':=s.toks) (λb o g e=>(sb.2 b g).trans e) J L N O Q;obtain⟨o,e,c,d⟩:=id l;exact⟨u,rfl,TQ (s:={s with heap:=m}) e c d (by decide) ⟨x,H,I1,ru,⟨rfl,λys hy=>by rw[I.ab6 hy q];exact B⟩,l,λb g=>(n b g).1⟩⟩
 done:=by intro X r t y T i f s σ H E I n st A;subst r t y;obtain⟨Y,q,B⟩:=A;obtain⟨j,C,p,hz⟩:=I.tuple q;obtain⟨J,L,f2,N,O,Q⟩:=n it (by simp);have hl:=C.length;exact wpAny_pyNext_tuple_end (I.ok.hd T) st (show s.heap.IsTuple a j.toArray from p) (by simp;lia) λm eb=>⟨rfl,I.turned (t':=s.toks) (λb o g e=>eb b o g e) J L N O Q⟩
 self:=λ_ _ _ _ _ st h=>wpAny_pyIter_tupleiter st h
section
variable{X:Cx}{tg:cu}
def a2h(K:ix)(d:TE):TI:=λσ H R=>d σ H λx b=>∃a,x=.ref a/\(∃Y,P4 K b a Y)/\R (Itl K a) b
def a3x(K:ix)(d:TE):TI:=λσ H R=>d σ H λx b=>∃a,x=.ref a/\(∃Y,Y0 K b a Y)/\R (Itt K a) b
def XS(i:PE X l j):PI X tg l (a2h X.K j):=by
 intro d s σ H R I h;refine F5 (i d s σ H _ I h) λv f ⟨x,k,g,m,n⟩=>?_;obtain⟨a,e,⟨Y,r⟩,q⟩:=n;subst e;cases m;obtain⟨t,w,p,y⟩:=g.list r;refine aDB p.isList ?_;refine⟨f.heap.objs.size,[f.heap.objs.size],_,_,k,rfl,g.kept (t':=f.toks) λb o e=>aAd _ e,KR a _,⟨_,aAq _ rfl,rfl,rfl⟩,λb u=>?_,q⟩;have e:b=f.heap.objs.size:=by simpa using u
 subst e;exact g.ae9 (aAl _) (g.hok.fresh<|aAl _)
def bz{l:cu}{j:TE}(k:PE X l j):PI X tg l (a3x X.K j):=by
 intro d s σ H R I h;refine F5 (k d s σ H _ I h) λv f ⟨x,m,g,n,r⟩=>?_;obtain⟨a,e,⟨Y,t⟩,q⟩:=r;subst e;cases n;obtain⟨i,w,p,y⟩:=g.tuple t;refine wpAny_pyIter_tuple (show f.heap.IsTuple a i.toArray from p) ?_;refine⟨f.heap.objs.size,[f.heap.objs.size],_,_,m,rfl,g.kept (t':=f.toks) λb o e=>aAd _ e,CG a _,⟨_,aAq _ rfl,rfl,rfl⟩,λb u=>?_,q⟩;have e:b=f.heap.objs.size:=by simpa using u
 subst e;exact g.ae9 (aAl _) (g.hok.fresh<|aAl _)
def a4k(e:TI)(g:TG)(tb:TS):TS:=λD σ H=>e σ H λJ f=>∃W:Nat->Nat->St->Hp->Prop,(∃m,W 0 m σ f)/\∀i m σ H,W i m σ H->
 (J.stop i H/\D.nx σ H)\/(J.go i H/\∃N:St->Hp->Prop,(∀b a,N b a->∃d,d<m/\W (i+1) d b a)/\∀x a,J.yld i H x a->g x σ a λh j=>tb {D with nx:=N,ct:=N,bk:=D.nx} h j)
def qX(a:List bc)(h:cq):List (bc×Obj):=a.filterMap λb=>(h.get? b).map λo=>(b,o)
def cA(a:b∈d)(e:h.get? b=some o):(b,o)∈qX d h:=aCa.mpr ⟨b,a,by rw[e];rfl⟩
def JW(a:p∈qX d h):p.1∈d/\h.get? p.1=some p.2:=by
 obtain⟨b,f,e⟩:=aCa.mp a;cases q:h.get? b with
 |none=>rw[q]at e;cases e
 |some o=>rw[q]at e;have g:(b,o)=p:=Option.some.inj e;subst g;exact⟨f,q⟩
def Inv.pinned(I:Inv X a σ H s)(i:∀b∈f,sJ X a H b)(j:∀b∈f,∃o,s.heap.get? b=some o/\∀v,o.data≠.cell v):Inv X (a++qX f s.heap) σ H s:=
 I.ad7 λp k=>(aAD.mp k).elim (λz=>I.pin p (aAM _ z)) λz=>by obtain⟨g,e⟩:=JW z;obtain⟨l,m,n,_⟩:=i p.1 g;obtain⟨o,h,d⟩:=j p.1 g;rw[e]at h;cases h;exact⟨e,l,m,n,d⟩
def Inv.ab4(I:Inv X (a++d) σ H s):Inv X a σ H s:=I.ad7 λp b=>I.pin p (aAM _<|aBk _ b)
def aj(B:PassesOwn (be X.prog X.w) X.A X.env X.xe)(hc:X.calm=true)(hi:PI X tg w8 wi)(hg:PG X tg g)(j:sS X body tb)(hs:∀x,d7 w8 X.env x=pure x:=by intro _;rfl):PS X (.For tg w8 body [] pos) (a4k wi g tb):=by
 intro a s σ H D I h;refine wpAny_For (F5 (hi a s σ H _ I h) λv s1 h1=>F5 h1 λitv s2 h2=>?_) hs;obtain⟨it,C,tn,J,H2,e,I2,T,ku,f2,W,⟨m0,w0⟩,turn⟩:=h2;subst e;have k:∀{t:Hp},(∀b∈C,t b=none)->∀b∈C,sJ X a t b:=λhn b j=>⟨hn b j,(f2 b j).2⟩;refine codeAny_forLoop_any (λn s'=>∃i E t,Inv X a E t s'/\tn i s'.heap/\(∀b∈C,t b=none)/\W i n E t) ?_ m0 ⟨0,σ,H2,I2,ku,λb j=>(f2 b j).1,w0⟩;rintro n s3 ⟨i,L,Y,I3,O,Q,w3⟩;rcases turn i n L Y w3 with⟨stop,qn⟩|⟨go,N,hN,step⟩
 .refine aDa B (F5 (T.done X rfl rfl rfl hc i a s3 L Y X.xe I3 (k Q) O stop) λr s4 ⟨hr,I4⟩=>?_);subst hr;exact aEC ⟨L,Y,I4,qn⟩
 refine aDa B (F5 (T.item X rfl rfl rfl hc i a s3 L Y X.xe I3 (k Q) O go) λr s4 ⟨u,hr,h4⟩=>?_);subst hr;refine aDa B (F5 h4 λ_ s5 ⟨x,H5,I5,r5,y5,z,fr5⟩=>?_);have I5':=I5.pinned (k fr5) (T.obj _ _ z);refine aDa B (F5 (hg _ s5 L H5 x u _ I5' r5<|step x H5 y5) λ_ s6 ⟨σ6,H6,I6,q6⟩=>?_);refine aDa B (F5 (j _ s6 σ6 H6 _ I6 q6) λf s7 y=>?_);have again:∀{l:St}{p:Hp},Inv X (a++qX C s5.heap) l p s7->N l p->∃m,m<n/\∃i E t,Inv X a E t s7/\tn i s7.heap/\(∀b∈C,t b=none)/\W i m E t:=λ{l p} q U=>by obtain⟨m',hm,w7⟩:=hN l p U;refine⟨m',hm,i+1,l,p,q.ab4,T.keep _ _ _ z λb j o e=>(q.pin (b,o)<|aAM _<|aAM _<|cA j e).1,λb j=>?_,w7⟩;obtain⟨o,e,d⟩:=T.obj _ _ z b j;exact(q.pin (b,o)<|aAM _<|aAM _<|cA j e).2.1
 cases f with
 |next=>obtain⟨l,p,q,U⟩:=y;exact again q U
 |cont=>obtain⟨l,p,q,U⟩:=y;exact again q U
 |brk=>obtain⟨l,p,q,y⟩:=y;exact⟨l,p,q.ab4,y⟩
 |ret v=>obtain⟨x7,l,p,q,r7,y⟩:=y;exact⟨x7,l,p,q.ab4,r7,y⟩
end
abbrev R2:=V->V->Hp->VK->Prop
def jH(X:Cx)(f:au->au->Sem au)(r:R2):Prop:=
 ∀(a:O9) (s:ba) (σ:St) (H:Hp) (x y:V) (v u:au) (Q:VK),Inv X a σ H s->RelV x v->RelV y u->r x y H Q->
  a9 (be X.prog X.w) X.A (f v u) (EP X a σ Q) X.xe s
def UnR(X:Cx)(f:au->Sem au)(r:V->Hp->VK->Prop):Prop:=
 ∀(a:O9) (s:ba) (σ:St) (H:Hp) (x:V) (v:au) (Q:VK),Inv X a σ H s->RelV x v->r x H Q->
  a9 (be X.prog X.w) X.A (f v) (EP X a σ Q) X.xe s
def uM(X:Cx)(f:au)(r:List V->Hp->VK->Prop):Prop:=
 ∀(a:O9) (s:ba) (σ:St) (H:Hp) (Y:List V) (b:List au) (Q:VK),Inv X a σ H s->l7 Y b->r Y H Q->
  a9 (be X.prog X.w) X.A (call f b) (EP X a σ Q) X.xe s
def tUn(r:V->Hp->VK->Prop)(ta:TE):TE:=λσ H Q=>ta σ H λx a=>r x a Q
def rI(C:Int->Int->Prop)(g:Int->Int->V):R2:=λx y H Q=>∃i j,x=.int i/\y=.int j/\C i j/\Q (g i j) H
def YX(g:Int->Int->V):R2:=λx y H Q=>∃i j,x=.int i/\y=.int j/\Q (g i j) H
def rU(g:Int->V):V->Hp->VK->Prop:=λx H Q=>∃i,x=.int i/\Q (g i) H
section
variable{X:Cx}{a b c:cu}{ta tb tc:TE}{pos:Pos}
def LS(j:PE X a ta)(k:PE X b tb){d:O9}{s:ba}{σ:St}{H:Hp}{R:V->V->Hp->Prop}(I:Inv X d σ H s)
  (h:ta σ H λx i=>tb σ i λy e=>R x y e) {Q:F7}{f:au->au->Sem au}
  (l:∀v u g x y e,Inv X d σ e g->RelV x v->RelV y u->R x y e->a9 (be X.prog X.w) X.A (f v u) Q X.xe g):
  a9 (be X.prog X.w) X.A (dm a X.env) (λv m=>a9 (be X.prog X.w) X.A (dm b X.env) (λu n=>a9 (be X.prog X.w) X.A (f v u) Q X.xe n) X.xe m) X.xe s:=by
 refine F5 (j d s σ H _ I h) λv o ⟨x,i,p,q,r⟩=>?_;refine F5 (k d o σ i _ p r) λu g ⟨y,e,t,z,B⟩=>?_;exact l v u g x y e t q z B
def a0p{r:V->Hp->VK->Prop}(e:UnR X (unaryOp op) r)(f:PE X a ta):PE X (.UnaryOp op a pos) (tUn r ta):=by intro d s σ H Q I h;exact UnaryOp_ (F5 (f d s σ H _ I h) λv g ⟨x,i,j,k,l⟩=>e d g σ i x v Q j k l)
def opI{f:au->au->Sem au}{C:Int->Int->Prop}{g:Int->Int->Int}
  (rule:∀(i j:Int) (t u:Tok) (s:ba) (Q:F7) (E:F7),C i j->Q (.int (g i j) s.toks) {s with toks:=s.toks+1}->a9 (be X.prog X.w) X.A (f (.int i t) (.int j u)) Q E s):
  jH X f (rI C λi j=>.int (g i j)):=by
 intro d s σ H x y v u Q I e k h;obtain⟨i,j,rfl,rfl,l,q⟩:=h;obtain⟨t,rfl⟩:=e;obtain⟨m,rfl⟩:=k;exact rule i j t m s _ _ l ⟨.int (g i j),H,I.tok _,⟨_,rfl⟩,q⟩
def a2r{f:au->au->Sem au}{g:Int->Int->Int}
  (rule:∀(i j:Int) (t u:Tok) (s:ba) (Q:F7) (E:F7),Q (.int (g i j) s.toks) {s with toks:=s.toks+1}->a9 (be X.prog X.w) X.A (f (.int i t) (.int j u)) Q E s):
  jH X f (YX λi j=>.int (g i j)):=by
 intro d s σ H x y v u Q I e k h;obtain⟨i,j,rfl,rfl,q⟩:=h;obtain⟨t,rfl⟩:=e;obtain⟨l,rfl⟩:=k;exact rule i j t l s _ _ ⟨.int (g i j),H,I.tok _,⟨_,rfl⟩,q⟩
def ZZ{f:au->au->Sem au}{g:Int->Int->Bool}
  (rule:∀(i j:Int) (t u:Tok) (s:ba) (Q:F7) (E:F7),Q (.bool (g i j)) s->a9 (be X.prog X.w) X.A (f (.int i t) (.int j u)) Q E s):
  jH X f (YX λi j=>.bl (g i j)):=by
 intro d s σ H x y v u Q I e k h;obtain⟨i,j,rfl,rfl,q⟩:=h;obtain⟨t,rfl⟩:=e;obtain⟨l,rfl⟩:=k;exact rule i j t l s _ _ ⟨.bl (g i j),H,I,rfl,q⟩
def a3n(i j:Int):Prop:=0<=j/\j<=1000000/\i.natAbs<2^64
def bx:jH X (ee .Add) (YX λi j=>.int (i+j)):=a2r λ_ _ _ _ _ _ _ q=>add_int q
def rj:jH X (ee .Sub) (YX λi j=>.int (i-j)):=a2r λ_ _ _ _ _ _ _ q=>sub_int q
def WW:jH X (ee .Mod) (rI (λ_ j=>j≠0) λi j=>.int (i.fmod j)):=opI λ_ _ _ _ _ _ _ d q=>mod_int' d q
def yk:jH X (ee .Pow) (rI a3n λi j=>.int (i^j.toNat)):=opI λ_ _ _ _ _ _ _ d q=>pow_int_small d.1 d.2.1 d.2.2 q
def unI{f:au->Sem au}{g:Int->Int}
  (rule:∀(i:Int) (t:Tok) (s:ba) (Q:F7) (E:F7),Q (.int (g i) s.toks) {s with toks:=s.toks+1}->a9 (be X.prog X.w) X.A (f (.int i t)) Q E s):
  UnR X f (rU λi=>.int (g i)):=by
 intro d s σ H x v Q I e h;obtain⟨i,rfl,q⟩:=h;obtain⟨t,rfl⟩:=e;exact rule i t s _ _ ⟨.int (g i),H,I.tok _,⟨_,rfl⟩,q⟩
def yw:UnR X (unaryOp .USub) (rU λi=>.int (-i)):=unI λ_ _ _ _ _ q=>neg_int q
end
section
variable{X:Cx}{a b c:cu}{ta tb tc:TE}{pos:Pos}
def yq(I:Inv X d σ H s)(q:Q (.bl k) H)(e:k=f):EP X d σ Q (.bool f) s:=by subst e;exact⟨.bl k,H,I,rfl,q⟩
def a1z:jH X (dq .Lt) (YX λi j=>.bl (decide (i<j))):=ZZ λ_ _ _ _ _ _ _ q=>lt_int q
def RG:jH X (dq .LtE) (YX λi j=>.bl (decide (i<=j))):=ZZ λ_ _ _ _ _ _ _ q=>le_int q
def a1i:jH X (dq .Gt) (YX λi j=>.bl (decide (j<i))):=ZZ λ_ _ _ _ _ _ _ q=>gt_int q
def mx:jH X (dq .Is) (λx y H Q=>y=.non/\Q (.bl (decide (x=.non))) H):=by
 intro d s σ H x y v u Q I e f h;obtain⟨rfl,q⟩:=h;cases f;refine is_none_gen (yq I q ?_);cases x<;>first
  |(cases e;rfl)
  |(obtain⟨t,rfl⟩:=e;rfl)
def RE(b:cu)(h:op≠.In:=by decide)(d:op≠.NotIn:=by decide):gW op b=false:=by
 have e:(op==CmpOp.In)=false:=by cases op<;>first|rfl|exact absurd rfl h
 have f:(op==CmpOp.NotIn)=false:=by cases op<;>first|rfl|exact absurd rfl d
 cases b<;>simp[gW,e,f]
def az(r e:R2)(ta tb tc:TE):TE:=λσ H Q=>ta σ H λx f=>tb σ f λy g=>r x y g λz d=>∃k,z=.bl k/\
 (if k=true then tc σ d λh i=>e y h i Q else Q (.bl false) d)
def SG(n:jH X (dq op) r)(o:jH X (dq g) p)(q:PE X a ta)(t:PE X b tb)(w:PE X c tc)(A:lastMarks [op,g] [b,c]=false:=by with_unfolding_all rfl):PE X (.Compare a [op,g] [b,c] pos) (az r p ta tb tc):=by
 intro f s σ H Q I h;refine Compare_chain (F5 (q f s σ H _ I h) λv B ⟨x,C,E,J,L⟩=>chain_link (F5 (t f B σ C _ E L) λu N ⟨y,O,T,i,U⟩=>F5 (n f N σ O x y v u _ T J i U) λd Y ⟨z,j,l,r3,k,e,m⟩=>?_)) A
 subst e;cases r3;refine aBu ?_;cases k with
 |false=>exact ite_ff ⟨.bl false,j,l,rfl,m⟩
 |true=>exact ite_tt (chain_last<|F5 (w f Y σ j _ l m) λw' s4 ⟨z',H4,I4,r4,q4⟩=>o f s4 σ H4 y z' u w' Q I4 i r4 q4)
def vL:(sizeLine:Nat)<2^63:=by rw[aFt];decide
def vals1(r:l7 [x] d):∃u,d=[u]/\RelV x u:=by
 cases r with
 |cons e f=>cases f;exact⟨_,rfl,e⟩
def vals2(r:l7 [x,y] e):∃u d,e=[u,d]/\RelV x u/\RelV y d:=by
 cases r with
 |cons f g=>
  cases g with
  |cons h i=>cases i;exact⟨_,_,rfl,f,h⟩
def OE:uM X (.builtin "abs") (λY H Q=>∃i,Y=[.int i]/\Q (.int (if i<0 then-i else i)) H):=by intro d s σ H Y e Q I r h;obtain⟨i,rfl,q⟩:=h;obtain⟨u,rfl,t,rfl⟩:=vals1 r;exact call_abs_int λu f=>⟨.int (if i<0 then-i else i),H,I.tok _,⟨_,rfl⟩,q⟩
def JY(f:X.calm=true):uM X (.builtin "max") (λY H Q=>∃i j,Y=[.int i,.int j]/\Q (.int (if j>i then j else i)) H):=by
 intro e s σ H Y g Q I r h;obtain⟨i,j,rfl,q⟩:=h;obtain⟨u,l,rfl,⟨t,rfl⟩,⟨m,rfl⟩⟩:=vals2 r;refine max_two_ints (I.ok.hd f) λn o k=>⟨_,H,I.kept k,?_,q⟩;by_cases d:j>i
 .rw[h9 d,h9 d];exact⟨_,rfl⟩
 rw[ia d,ia d];exact⟨_,rfl⟩
end
section
variable{prog:bM}{w:cp}{A:cf}{E:F7}{s:ba}{K:ix}{x dx C f:bc}{mA:cM}{name:Str}{v:au}
end
section
variable{P:bM}{w:cp}{H H':Hp}{h h':cq}{a C dx:bc}{fs yc:List (Str×V)}
end
section
variable{X:Cx}{pins:O9}{σ:St}{H:Hp}{s:ba}{a C dx:bc}{fs:List (Str×V)}{f:Str}{v:V}{A:cf}{E:F7}
end
section
variable{X:Cx}{o e value:cu}{f:Str}{pos pos' tpos:Pos}{ta tv:TE}
end
section
variable{X:Cx}{pins:O9}{σ:St}{H:Hp}{s:ba}{A:cf}{E:F7}{Q:F7}{c:au}{b:Bool}
end
structure Room(k:Nat)(A:Around):Prop where
 hd:A.handled=none
 dp:A.depth+3*k+5<recursionLimit
 un:A.units+16*k+200<cLine
def Room.mono(r:Room k A)(h:j<=k):Room j A:=⟨r.hd,by have:=r.dp;lia,by have:=r.un;lia⟩
def Room.deeper(r:Room (k+1) A)(env:Env):Room k (A.deeper env):=
 ⟨r.hd,by have:=r.dp;show A.depth+1+3*k+5<_;lia,by have:=r.un;show A.units+3+16*k+200<_;lia⟩
def Room.depth(r:Room k A):A.depth<recursionLimit:=by have:=r.dp;lia
def Room.units(r:Room k A):A.units+64<cz:=by have:=r.un;lia
def a4m:TA:=λ_ H Q=>Q [] H
def a1a(ta:TE)(tr:TA):TA:=λσ H Q=>ta σ H λx a=>tr σ a λY b=>Q (x::Y) b
section
variable{X:Cx}{e:cu}{es:List cu}{te:TE}{t:TA}{pos:Pos}
def cR:PA X [] a4m:=λ_ _ _ _ H Q I h=>aFn ⟨[],H,I,.nil,h⟩
def M8(b:PE X e te)(d:PA X es t)(f:bb (e::es) X.env=(false,dm e X.env)::bb es X.env:=by rfl):PA X (e::es) (a1a te t):=by intro pos a s σ H Q I h;rw[f];show a9 _ _ (spliced ((false,dm e X.env)::cy pos (bb es X.env))) _ _ s;refine aEX (F5 (b a s σ H _ I h) λu g ⟨x,i,j,k,l⟩=>?_);exact F5 (d pos a g σ i _ j l) λq r ⟨Y,m,n,o,p⟩=>⟨x::Y,m,n,.cons k o,p⟩
def a5d(t:TA):TE:=λσ H Q=>t σ H λY a=>Y.length<=sizeLine/\∀p,a p=none->Q (.ref p) (upd a p<|.tup Y)
def a3s(t:TA):TE:=λσ H Q=>t σ H λY a=>Y.length<=sizeLine/\∀p,a p=none->Q (.ref p) (upd a p<|.lst Y)
def cj{i}(h:PA X es t):PE X (.Tuple es i pos) (a5d t):=by intro a s σ H Q I j;refine wpAny_Tuple_spliced (F5 (h pos a s σ H _ I j) λk d ⟨Y,f,g,r,z,q⟩=>⟨by rw[<-r.length];exact z,?_⟩);have l:f d.heap.objs.size=none:=g.hok.fresh (aAl _);refine⟨.ref d.heap.objs.size,upd f d.heap.objs.size (.tup Y),g.laid (t':=d.toks) (λb u e=>aAd _ e) (aAl _) ?_,rfl,q _ l⟩;exact⟨z,k,r,⟨_,aAq _ rfl,rfl,_,rfl⟩⟩
def OT(h:PA X es t):PE X (.List es pos) (a3s t):=by intro a s σ H Q I i;refine wpAny_List_spliced (F5 (h pos a s σ H _ I i) λj d ⟨Y,f,g,r,z,q⟩=>⟨by rw[<-r.length];exact z,?_⟩);have k:f d.heap.objs.size=none:=g.hok.fresh (aAl _);refine⟨.ref d.heap.objs.size,upd f d.heap.objs.size (.lst Y),g.laid (t':=d.toks) (λb u e=>aAd _ e) (aAl _) ?_,rfl,q _ k⟩;exact⟨z,j,0,r,aAq _ rfl⟩
end
abbrev Sp:=List V->Hp->VK->XK->Prop
abbrev UK:=List Env->Hp->ba->XK->au->ba->Prop
structure Env0(P:Program)(w:World)(K:PySem.W.Frag)(mg:cM)(base:Heap)(A:Around)(outer:List Env)(s:Shared)(H:Hp):Prop where
 frames:A.frames=some outer
 mod:Mod K mg base
 bs:∀b o,base.get? b=some o->s.heap.get? b=some o/\H b=none
 bsz:base.objs.size<=s.heap.objs.size
 funs:s.heap.FunFrames base outer
 frf:∀b∈yE outer,H b=none
 hok:gB P w H s.heap
 bare:AllBare s.gens
def CE(a:List Env)(P:bM)(w:cp)(H:Hp)(s:ba)(Q:VK)(u:au)(s':ba):Prop:=
 ∃v b,s'.os=s.os/\AllBare s'.gens/\Un (yE a) [] H b s.heap s'.heap/\gB P w b s'.heap/\RelV v u/\Q v b
def CR(b:UK)(a:List Env)(P:bM)(w:cp)(H:Hp)(s:ba)(Q:VK)(E:XK)(r:Result)(s':ba):Prop:=
 match r with
 |.ok (.ret u)=>CE a P w H s Q u s'
 |.ok _=>False
 |.error e=>b a H s E e s'
structure FnOk(P:Program)(w:World)(K:PySem.W.Frag)(mg:cM)(base:Heap)(CX:UK)(k:Nat)(f:Addr)(fd:FuncData)(ps:List Str)(sp:Sp):Prop where
 len:∀L H Q E,sp L H Q E->L.length=ps.length
 run:∀(A:Around) (outer:List Env) (s:Shared) (H:Hp) (args:Args) (us:List Value) (L:List V) (Q:VK) (E:XK),Room k A->Env0 P w K mg base A outer s H->BindsTo s fd args (ps.zip us)->l7 L us->sp L H Q E->
  codeAny (model P w) A (.call (.ref f) args) (CR CX outer P w H s Q E) s
def FnOk.imp{P:bM}{w:cp}{K:ix}{mg:cM}{base:cq}{e:UK}{k:Nat}{f:bc}{fd:dA}{ps:List Str}{g b:Sp}(F:FnOk P w K mg base e k f fd ps g)
  (h:∀L H Q E,b L H Q E->g L H Q E):FnOk P w K mg base e k f fd ps b:=
 ⟨λL H Q E q=>F.len L H Q E (h _ _ _ _ q),λA a s H d i L Q E j l m n o=>F.run A a s H d i L Q E j l m n (h _ _ _ _ o)⟩
section
variable{X:Cx}{pins:O9}{σ:St}{H:Hp}{s s':ba}
def Inv.af2(I:Inv X pins σ H s):Env0 X.prog X.w X.K X.mg X.base X.A X.stack s H:=
 ⟨I.ok.frames,I.ok.mod,I.bs,aAr I.ok.bsz I.sz,I.stack,I.ad4,I.hok,I.bare⟩
def Inv.after(I:Inv X pins σ H s)(h:CE X.stack X.prog X.w H s Q u s'):EP X pins σ Q u s':=by obtain⟨v,i,os,a,un,e,r,q⟩:=h;obtain⟨j,g,d,t,f⟩:=s';obtain rfl:f=s.os:=os;exact⟨v,i,I.call (h':=j) (g':=g) (d':=d) (t':=t) (ch:=[]) un e a (λb z=>absurd z (by simp)),r,q⟩
end
def a1m(b:Sp)(a:List V)(E:XK)(t:TA):TE:=λσ H Q=>t σ H λL d=>b (L++a) d Q E
def Binds(K:ix)(fd:dA)(ps:List Str)(ds:List au):Prop:=
 ∀(s:ba) (us:List au),K.In s.heap->(us++ds).length=ps.length->BindsTo s fd ⟨us,[]⟩ (ps.zip<|us++ds)
def Binds.all{K:ix}{fd:dA}{ps:List Str}(h:∀a:List au,a.length=ps.length->bindArgs fd ⟨a,[]⟩=pure (ps.zip a)):Binds K fd ps []:=λs a _ b=>by rw[aCb]at b⊢;exact .of_eq (h a b)
def DF(d:UK)(X:Cx)(E:XK):Prop:=∀(a:O9) (σ:St) (H:Hp) (s:ba) (e:au) (b:ba),Inv X a σ H s->d X.stack H s E e b->X.xe e b
section
variable{X:Cx}{CX:UK}{k:Nat}{f C:bc}{fd:dA}{ps:List Str}{sp:Sp}{dvs:List V}{ds:List au}{E:XK}{x m:Str}{p pos apos:Pos}{e o:cu}{es:List cu}{ta:TE}{t:TA}
def wj(F:FnOk X.prog X.w X.K X.mg X.base CX k f fd ps sp)(i:Room k X.A)(j:Binds X.K fd ps ds)(l:l7 dvs ds)(n:DF CX X E)(I:Inv X a σ H s)(r:l7 L b)(h:sp (L++dvs) H Q E):a9 (be X.prog X.w) X.A (call (.ref f) b) (EP X a σ Q) X.xe s:=by
 have g:l7 (L++dvs) (b++ds):=r.append l;have q:(b++ds).length=ps.length:=by rw[<-g.length];exact F.len _ _ _ _ h
 refine wpAny_call (aDR (F.run X.A X.stack s H ⟨b,[]⟩ (b++ds) (L++dvs) Q E i I.af2 (j s b I.kIn q) g h) λr v d=>?_);cases r with
 |error e=>exact n a σ H s e v I d
 |ok y=>
  cases y with
  |ret u=>exact I.after d
  |next=>exact aAf d
  |brk=>exact aAf d
  |cont=>exact aAf d
def IQ(F:FnOk X.prog X.w X.K X.mg X.base CX k f fd ps sp)(d:Room k X.A)(g:Gl X x)(i:X.mg x=some (.ref f))(j:PySem.W.keepIn X.K (.ref f)=true)(l:Binds X.K fd ps ds)(n:l7 dvs ds)(u:DF CX X E)
  (v:PA X (e::es) t) (y:(x==ja)=false:=by decide) (z:bb (e::es) X.env=(false,dm e X.env)::bb es X.env:=by rfl) (B:(cy pos (bb es X.env)).any (·.1)=false:=by rfl):
  PE X (.Call (.Name x p) (e::es) [] pos) (a1m sp dvs E t):=by
 intro a s σ H Q I h;refine aBf (wD I g i ?_ y);refine PySem.W.callWith_K (h₀:=X.base) I.ok.mod.kin j (F5 (v pos a s σ H _ I h) λJ N ⟨L,O,b,r,q⟩=>⟨b.kIn,?_⟩) z B;exact wj F d l n u b r q
structure Mk(K:PySem.W.Frag)(C f:Addr):Prop where
 makes:PySem.W.makesIn K C=true
 init:PySem.W.findIn K (.ref C) "__init__"=some (some (.ref f))
 fn:PySem.W.isFn K (.ref f)=true
 kp:PySem.W.keepIn K (.ref C)=true
end
section
variable{X:Cx}{CX:UK}{k:Nat}{f C:bc}{fd:dA}{ps ks:List Str}{sp:Sp}{E:XK}{x m:Str}{p pos apos kpos:Pos}{e o:cu}{es:List cu}{kws:List Keyword}{te ta:TE}{t tk:TA}{nm:Option Str}
variable{g:List au->List au->List au}{gV:List V->List V->List V}
end
structure FnScope(N P:List Str)(sc:Scope):Prop where
 kind:sc.kind=.function
 co:sc.isCoroutine=false
 gen:sc.isGenerator=false
 nd:N.Nodup
 pre:N.take P.length=P
 par:∀x∈P,sc.names.lookup x=some .local\/sc.names.lookup x=some .cell
 nofree:∀y∈sc.names,y.2≠.free
theorem sW{kindOf:Str->Option ek}{x:Str}:∀{binds:List (Str×au)}{m:cM},(∀v,(x,v)∉binds)->bindL kindOf binds m x=m x
 |[],_,_=>rfl
 |(n,v)::r,m,h=>by
  unfold bindL;rw[sW λw a=>h w (aAe _ a)];split
  .have:x≠n:=by rintro rfl;exact h v aBm
   simp[this]
  rfl
theorem sR{kindOf:Str->Option ek}{x:Str}:∀{binds:List (Str×au)}{m:cM},(∀v,(x,v)∉binds)->bindC kindOf binds m x=m x
 |[],_,_=>rfl
 |(n,v)::r,m,h=>by
  unfold bindC;rw[sR λw a=>h w (aAe _ a)];split
  .rfl
  have:x≠n:=by rintro rfl;exact h v aBm
  simp[this]
theorem vC{kindOf:Str->Option ek}{x:Str}{v:au}:∀{P:List Str}{L:List au}{i:Nat}{m:cM},P.Nodup->P[i]?=some x->L[i]?=some v->kindOf x=some .local->
  bindL kindOf (P.zip L) m x=some v
 |[],_,_,_,_,h,_,_=>by simp at h
 |_::_,[],_,_,_,_,h,_=>by simp at h
 |p::P,w::L,0,m,d,a,b,e=>by simp at a b;subst a;subst b;show bindL kindOf ((p,w)::P.zip L) m p=_;unfold bindL;rw[sW λv f=>(aAH.mp d).1 (aDW f).1,h9 e];simp
 |p::P,w::L,i+1,m,d,a,b,e=>by show bindL kindOf ((p,w)::P.zip L) m x=_;unfold bindL;exact vC (i:=i) (aAH.mp d).2 (by simpa using a) (by simpa using b) e
theorem tJ{kindOf:Str->Option ek}{x:Str}{v:au}:∀{P:List Str}{L:List au}{i:Nat}{m:cM},P.Nodup->P[i]?=some x->L[i]?=some v->kindOf x≠some .local->
  bindC kindOf (P.zip L) m x=some v
 |[],_,_,_,_,h,_,_=>by simp at h
 |_::_,[],_,_,_,_,h,_=>by simp at h
 |p::P,w::L,0,m,d,a,b,e=>by simp at a b;subst a;subst b;show bindC kindOf ((p,w)::P.zip L) m p=_;unfold bindC;rw[sR λv f=>(aAH.mp d).1 (aDW f).1,ia e];simp
 |p::P,w::L,i+1,m,d,a,b,e=>by show bindC kindOf ((p,w)::P.zip L) m x=_;unfold bindC;exact tJ (i:=i) (aAH.mp d).2 (by simpa using a) (by simpa using b) e
def start(N:List Str)(L:List V):St:=L.map some++aCW (N.length-L.length) none
def DH(d:UK)(P:bM)(w:cp)(K:ix)(mg:cM)(base:cq)(N:List Str)(qual:Str)(a:hE)(f:bc)(cd:au)(A:cf)(outer:List Env)(s:ba)(H:Hp)(E:XK):Cx where
 prog:=P
 w:=w
 K:=K
 mg:=mg
 base:=base
 A:=A.deeper (envOfC qual a s.heap.objs.size f cd)
 N:=N
 s9:=s
 H9:=H
 env:=envOfC qual a s.heap.objs.size f cd
 outer:=outer
 stack:=envOfC qual a s.heap.objs.size f cd::outer
 ex:=[]
 calm:=true
 fn:=λ_=>true
 pn:=[]
 xe:=λe g=>a9 (be P w) (A.deeper<|envOfC qual a s.heap.objs.size f cd) (leaving (envOfC qual a s.heap.objs.size f cd) e) (λ_ b=>d outer H s E e b) (λh b=>d outer H s E h b) g
def AO{sc:hE}{n:Nat}{x:Str}(h:sc.names.lookup x=some .cell):∃c,(d3 n sc.names []).lookup x=some c:=by have q:=PySem.W.cellsFrom_some sc.names n [] (.inl h);exact aFo.mp q
def KA{O:UK}{P:bM}{w:cp}{K:ix}{mg:cM}{base:cq}{N ps:List Str}{qual:Str}{d:hE}{f:bc}{cd:au}{A:cf}{g:List Env}{s Q:ba}{H:Hp}{E:XK}{J:List au}{L:List V}
  (S:FnScope N ps d) (Y:A.handled=none) (l:Env0 P w K mg base A g s H) (hl:L.length=ps.length) (r:l7 L J)
  (x:InCallC s s.heap.objs.size (bindL (envOfC qual d s.heap.objs.size f cd).kindOf (ps.zip J) λ_=>none) (d3 (s.heap.objs.size+1) d.names []) (bindC (envOfC qual d s.heap.objs.size f cd).kindOf (ps.zip J) λ_=>none) Q):
  Inv (DH O P w K mg base N qual d f cd A g s H E) [] (start N L) H Q:=by
 have bf:ps.length<=N.length:=by have:=ir List.length S.pre;rw[aBS]at this;lia
 obtain⟨C,tk,rfl,T⟩:=x.done;have m:∀b:bc,b∉(DH O P w K mg base N qual d f cd A g s H E).ex:=λb z=>absurd (show b∈([]:List bc)from z) (by simp);refine⟨⟨l.mod,S.kind,rfl,rfl,aAl _,λy z c C j=>?_,λy o=>?_,λy c _ h=>?_,λ_=>Y,aGa l.frames,.inr ⟨rfl,rfl⟩,λb z=>absurd z (m b),l.bs,l.bsz,λb _ _=>m b,λb z=>absurd z (m b),l.funs,l.frf⟩,
  rfl,l.bare,Un.kept T,⟨_,x.toInCall.ns,λi y v C j h3=>?_⟩,λy c h=>⟨_,x.cell y c h⟩,l.hok.fresh (aAl _),λy c h=>?_,λp t=>absurd (show p∈([]:O9)from t) (by simp),l.hok.kept T,?_⟩
 .exact name_of_addr x.apart (PySem.mem_of_lookup C) (PySem.mem_of_lookup j)
 .have o:d.names.lookup y=some .cell\/d.names.lookup y=some .free:=o;rcases o with o|o
  .exact AO o
  exact absurd rfl (S.nofree _<|PySem.mem_of_lookup o)
 .exact aDu (x.above y c<|PySem.mem_of_lookup h)
 .have I:i<L.length:=by
   unfold start at j;by_cases I:i<L.length
   .exact I
   rw[aAA (by simpa using I)]at j;rw[aBA]at j;split at j<;>cases j
  have ha:L[i]?=some v:=by
   unfold start at j;rw[aBb (by simpa using I),aAG]at j;cases e:L[i]? with
   |none=>rw[e]at j;cases j
   |some a=>rw[e]at j;cases j;rfl
  obtain⟨u,U,rv⟩:=r.get ha;have t:ps[i]?=some y:=by rw[<-S.pre,List.getElem?_take_of_lt (by lia)];exact C
  have B:ps.Nodup:=by rw[<-S.pre];exact S.nd.sublist (List.take_sublist _ _)
  refine⟨u,rv,?_⟩;rcases S.par y (aAx t)with k|k
  .exact .inl ⟨k,vC B t U k⟩
  obtain⟨c,e⟩:=AO (n:=s.heap.objs.size+1) k;refine .inr ⟨.inl k,c,e,?_⟩;have q:=x.cell y c e;rw[tJ B t U (by show d.names.lookup y≠_;rw[k];decide)]at q;exact q
 .exact l.hok.fresh (aDu<|x.above y c<|PySem.mem_of_lookup h)
 unfold start;show _=N.length;rw[aAz,aAh,aCq]
 lia
def ZM{p:UK}{P:bM}{w:cp}{K:ix}{mg:cM}{base:cq}{k:Nat}{f:bc}{name qual:Str}{g:Arguments}{body:List cv}{a:hE}{dV kV i pm C ct oc:au}{an od:Option bc}
  {B:Array (Option au)}{N ps:List Str}{O:Sp} (lk:K.lookup f=some ⟨oc,od,.func (PySem.W.fnOf name qual g body a dV kV i pm an C ct),B⟩) (dc:PySem.W.codeIn K C qual=true) (S:FnScope N ps a)
  (len:∀L H Q E,O L H Q E->L.length=ps.length)
  (wg:∀(A:cf) (d:List Env) (s:ba) (H:Hp) (L:List V) (Q:VK) (E:XK),Room k (A.deeper (envOfC qual a s.heap.objs.size f C))->O L H Q E->
   ∃t,sS (DH p P w K mg base N qual a f C A d s H E) body t/\t {nx:=λ_ H'=>Q .non H',rt:=Q} (start N L) H):
  FnOk P w K mg base p (k+1) f (PySem.W.fnOf name qual g body a dV kV i pm an C ct) ps O:=by
 refine⟨len,λA d s H args us L Q E T j hb r l=>?_⟩;have hl:=len _ _ _ _ l;have KX:K.In s.heap:=j.mod.kin.keeps λb o e=>(j.bs b o e).1;have U:s.heap.NoLimit:=j.mod.nolimit.keeps λb o e=>(j.bs b o e).1;have pf:∀y∈ps.zip us,a.names.lookup y.1=some .local\/(a.names.lookup y.1=some .cell/\((d3 (s.heap.objs.size+1) a.names []).lookup y.1).isSome=true):=λ⟨n,v⟩ hy=>by
  rcases S.par n (aDW hy).1 with q|q
  .exact .inl q
  exact .inr ⟨q,PySem.W.cellsFrom_some _ _ _ (.inl q)⟩
 refine codeAny_call_function T.depth (KX _ _ lk) rfl S.co S.gen rfl (PySem.W.codeRec_of KX dc) (hb _ _ _ _ ?_);refine wpAny_newFunctionEnv_cells S.kind pf λenv he s1 x=>?_;subst he;refine⟨U.keeps x.toInCall.keep,codeAny_func ?_⟩;obtain⟨t,ht,hq⟩:=wg A d s H L Q E (T.deeper _) l;have I:Inv (DH p P w K mg base N qual a f C A d s H E) [] (start N L) H s1:=KA S T.hd j hl r x;refine aCI (ht [] s1 (start N L) H _ I hq) (λfl Y h=>?_) λe Y h=>h;have m:∀{z:St}{H':Hp}{v:V}{u:au},Inv (DH p P w K mg base N qual a f C A d s H E) [] z H' Y->RelV v u->Q v H'->CE d P w H s Q u Y:=
  λ{z H' v u} J rv q=>⟨v,H',J.os,J.bare,J.base,J.hok,rv,q⟩
 cases fl with
 |ret u=>obtain⟨v,z,H',J,rv,q⟩:=h;exact m J rv q
 |next=>obtain⟨z,H',J,q⟩:=h;exact m (v:=V.non) (u:=Value.none) J rfl q
 |brk=>obtain⟨_,_,_,q⟩:=h;exact aAf q
 |cont=>obtain⟨_,_,_,q⟩:=h;exact aAf q
section
variable{X:Cx}{x:Str}{p pos:Pos}{e:cu}{es:List cu}{t:TA}{id T:String}{r:List V->Hp->VK->Prop}
end
end L2
namespace HT
open PySem PyProof.Rows
def lexLt:List Int->List Int->Bool
 |[],[]=>false
 |[],_::_=>true
 |_::_,[]=>false
 |x::Y,y::a=>if x=y then lexLt Y a else decide (x<y)
def J1(x y:Int)(Y a:List Int):lexLt (x::Y) (y::a)=if x=y then lexLt Y a else decide (x<y):=rfl
def Z4:lexLt [] []=false:=rfl
def O7(y:Int)(a:List Int):lexLt [] (y::a)=true:=rfl
def D3(x:Int)(Y:List Int):lexLt (x::Y) []=false:=rfl
def AT(A:cf)(s:ba)(a:Int)(t:Tok)(c:Int)(u:Tok):∃e,SeqAt.EqAt A s (.int a t) (.int c u) e/\(e=true↔a=c):=
 ⟨(a==c),aEY a t c u,by simp⟩
def BK(A:cf)(s:ba)(a:Int)(t:Tok)(c:Int)(u:Tok)(prog:bM)(w:cp)(E:F7)(Q:F7)(h:Q (.bool (decide (a<c))) s):
  a9 (be prog w) A (richCompare .Lt (.int a t) (.int c u)) Q E s:=
 (PyProof.Rows.lt_int h:a9 (be prog w) A (dq .Lt (.int a t) (.int c u)) Q E s)
section
open PySem.SeqAt
open PySem.AutoSeq1 (wpAny_loadPart')
open PySem.MeetsSeq PySem.MeetsSeq2 PySem.MeetsSeq3
def sG(l b:bc)(items m:Array au)(n n2:Nat)(dd wm:Option bc)(sl ve:Array (Option au))(ns z:List Int)(T:IntsAre items.toList ns)(U:IntsAre m.toList z):
  Meets (Builtin.«tuple.__lt__» ⟨[.ref l,.ref b],[]⟩)
   (λ_ R s=>s.heap.get? l=some {cls:=.type "tuple",dict:=dd,data:=.seq items n,slots:=sl}/\s.heap.get? b=some {cls:=.type "tuple",dict:=wm,data:=.seq m n2,slots:=ve}/\
    R (.ok (.ret (.bool (lexLt ns z)))) s):=
 .of_wp λj w A R s h=>by
  obtain⟨B,g,d,C,os⟩:=s;obtain⟨hl,hb,h⟩:=h;have f2:=AutoSeq1.sub_tuple_tuple;have z1:items.size=ns.length:=by rw[<-T.length];simp
  have z2:m.size=z.length:=by rw[<-U.length];simp
  wp_walk using aED hl,aED hb,aCy _ (λrest b I=>b.1=none/\I=⟨B,g,d,C,os⟩/\∃(L E:List au) (o p:List Int),rest=L.zip E/\
   IntsAre L o/\IntsAre E p/\o.length+m.size=p.length+items.size/\R (.ok (.ret (.bool (lexLt o p)))) ⟨B,g,d,C,os⟩) _
  case turn=>
   rintro⟨y,x⟩ rest b I ⟨J,rfl,L,E,o,p,i,N,H,f,k⟩;cases N with
   |nil=>rw[List.zip_nil_left]at i;cases i
   |cons a t r=>
    cases H with
    |nil=>rw[List.zip_nil_right]at i;cases i
    |cons c u v=>
     rw[aBZ]at i;injection i with O ae;injection O with hy hx;subst hy hx;rw[J1]at k;simp only[aAp]at f;obtain⟨e,he,Y⟩:=AT A.in1 ⟨B,g,d,C,os⟩ a t c u;refine aAa (he j w _ _ ?_);cases e with
     |true=>
      rw[h9 (Y.mp rfl)]at k
      wp_walk
      exact⟨rfl,rfl,_,_,_,_,ae,r,v,by lia,k⟩
     |false=>
      rw[ia (λq=>absurd (Y.mpr q) aAU)]at k;have Q:=BK A.in1 ⟨B,g,d,C,os⟩ a t c u j w
      wp_walk using Q
      exact⟨_,rfl,by simpa using k⟩
  case fin=>
   rintro⟨b1,b2⟩ I ⟨J,rfl,L,E,o,p,i,N,H,f,k⟩;simp only at J;subst J;have hv:lexLt o p=decide (items.size<m.size):=by
    cases N with
    |nil=>
     cases H with
     |nil=>simp only[aBn]at f;rw[Z4];exact(decide_eq_false (by lia)).symm
     |cons c u hw=>simp only[aBn,aAp]at f;rw[O7];exact(decide_eq_true (by lia)).symm
    |cons a t hv=>
     cases H with
     |nil=>simp only[aBn,aAp]at f;rw[D3];exact(decide_eq_false (by lia)).symm
     |cons c u hw=>rw[aBZ]at i;cases i
   rw[hv]at k
   wp_walk
   exact⟨_,rfl,by simpa[Builtin.Tuple.tupleCompareSizes]using k⟩
  case h=>exact⟨rfl,rfl,items.toList,m.toList,ns,z,rfl,T,U,by lia,h⟩
end
section
variable{prog:bM}{w:cp}{A:cf}{E:F7}{s:ba}
def lt_tupInts{Q:F7}(p:IsTup s.heap l items)(q:IsTup s.heap b e)(r:IntsAre items.toList ns)(t:IntsAre e.toList d)(u:A.units<cz)(h:Q (.bool (lexLt ns d)) s):a9 (be prog w) A (dq .Lt (.ref l) (.ref b)) Q E s:=by
 obtain⟨⟨v,y,f,z⟩,g,i,n,j⟩:=id p;obtain⟨⟨k,B,data2,C⟩,m,o,H,a⟩:=id q;simp only at i j o a;subst i j o a;exact richCompare_meets_room (op:=.Lt) ⟨_,g,rfl⟩ ⟨_,m,rfl⟩ PySem.F.slot_tuple_lt PySem.F.entry_tuple_lt (PySem.F.args_tuple_lt_2 _ _) (sG l b items e n H y B z C ns d r t)
  ⟨g,m,show aDA (lexLt ns d)≠Value.notImplemented/\Q (.bool (lexLt ns d)) s from⟨(λx=>nomatch x),h⟩⟩ u
def cat_tup{Q:F7}(u:IsTup s.heap t L.toArray)(v:IsTup s.heap b ws.toArray)(h:L≠[])(x:ws=[]->Q (.ref t) s)(y:ws≠[]->Q (.ref s.heap.objs.size) {s with heap:=s.heap.push {cls:=.type "tuple",data:=.seq (L++ws).toArray}})(z:L.length+ws.length<=sizeLine):a9 (be prog w) A (ee .Add (.ref t) (.ref b)) Q E s:=by
 obtain⟨⟨cls,i,data,j⟩,d,k,n,l⟩:=id u;obtain⟨⟨m,o,data2,p⟩,f,q,r,a⟩:=id v;simp only at k l q a;subst k l q a;have e:L.toArray++ws.toArray=(L++ws).toArray:=by simp
 by_cases g:ws=[]
 .exact aFU ⟨_,d,rfl⟩ ⟨_,f,rfl⟩ aFz seq_tuple_add PySem.F.slot_tuple_add PySem.F.entry_tuple_add (PySem.F.args_tuple_add_2 _ _)
   (tuple_addW1 t b L.toArray ws.toArray n r i o j p (by simpa using h) (by simp[g])) ⟨d,f,x g⟩
 refine aFU ⟨_,d,rfl⟩ ⟨_,f,rfl⟩ aFz seq_tuple_add PySem.F.slot_tuple_add PySem.F.entry_tuple_add (PySem.F.args_tuple_add_2 _ _)
  (tuple_addW2 t b L.toArray ws.toArray n r i o j p (by simpa using h) (by simpa using g) (by rw[aAn,aAn];exact z)) ⟨d,f,?_⟩
 rw[e];exact y g
def sIx(n d:Nat):Option Int->Nat
 |none=>d
 |some v=>if v<0 then(v+(n:Int)).toNat else min v.toNat n
def a2t(n d:Nat):sIx n d none=d:=rfl
def sIx_nat(n d k:Nat):sIx n d (some (k:Int))=min k n:=by show(if(k:Int)<0 then((k:Int)+(n:Int)).toNat else min (k:Int).toNat n)=min k n;rw[ia (by lia),aBH]
def rq(n d:Nat)(b:d<=n)(o:Option Int):sIx n d o<=n:=by
 cases o with
 |none=>exact b
 |some v=>
  show(if v<0 then(v+(n:Int)).toNat else min v.toNat n)<=n;by_cases a:v<0
  .rw[h9 a];lia
  rw[ia a];exact Nat.min_le_right _ _
def GV(v:Int)(n d:Nat):(if v<0 then max (v+(n:Int)) 0 else min v (n:Int))=((sIx n d (some v):Nat):Int):=by
 show(if v<0 then max (v+(n:Int)) 0 else min v (n:Int))=(((if v<0 then(v+(n:Int)).toNat else min v.toNat n):Nat):Int);by_cases a:v<0
 .simp only[h9 a];lia
 simp only[ia a];lia
def DU(lo a:Option Int)(n:Nat):aDI lo a 1 (n:Int)=(((sIx n 0 lo:Nat):Int),((sIx n n a:Nat):Int)):=by
 have b:¬((1:Int)<0):=by lia
 unfold aDI;simp only[b,if_false];refine aEv ?_ ?_
 .cases lo with
  |none=>rfl
  |some v=>exact GV v n 0
 cases a with
 |none=>rfl
 |some v=>exact GV v n n
def EN(i j:Nat):aCX (i:Int) (j:Int) 1=j-i:=by
 unfold aCX;have a:(1:Int)>0:=by lia
 simp only[a,if_true,Int.ediv_one];split<;>lia
def qD{Q:Option Int->ba->Prop}(p:IsPart v o)(h:Q o s):a9 (be prog w) A (Builtin.Slice.slicePartIndex v) Q E s:=by
 cases p with
 |none=>exact slicePart_none h
 |int i t=>exact slicePart_int h
def kR{sl:bc}{d e:au}{lo a:Option Int}{n:Nat}{Q:Int×Int×Nat->ba->Prop}(g:s.heap.IsSliceOf sl d e .none)(i:IsPart d lo)(j:IsPart e a)
  (h:Q (((sIx n 0 lo:Nat):Int),1,sIx n n a-sIx n 0 lo) s):a9 (be prog w) A (aEQ (.ref sl) (pure (n:Int))) Q E s:=by
 obtain⟨os,b,k,f⟩:=id g;unfold aEQ Builtin.Slice.sliceFields;refine aAa (aAa<|aCY b f (x:=d) rfl<|aAa<|aCY b f (x:=e) rfl<|aAa<|aCY b f (x:=.none) rfl<|aAb ?_);refine aAa (slicePart_none ?_);show a9 _ _ (if((1:Int)==0)=true then _ else _) _ _ s;rw[ia (by decide)];refine aAa (qD i<|aAa<|qD j<|aAa<|aAb ?_);show a9 _ _ (match aDI lo a 1 (n:Int)with|(lo,a)=>pure (lo,(1:Int),aCX lo a 1)) _ _ s;rw[DU lo a n];show a9 _ _ (pure (((sIx n 0 lo:Nat):Int),(1:Int),aCX ((sIx n 0 lo:Nat):Int) ((sIx n n a:Nat):Int) 1)) _ _ s;rw[EN];exact aAb h
def NN(Y:Array au)(i k:Nat):((aBc k).filterMap λ(m:Nat)=>Y[((i:Int)+(m:Int)*1).toNat]?).toArray=((Y.toList.drop i).take k).toArray:=by
 have e:(λ(m:Nat)=>Y[((i:Int)+(m:Int)*1).toNat]?)=λm=>Y[i+m]?:=by
  funext m
  have:((i:Int)+(m:Int)*1).toNat=i+m:=by lia
  rw[this]
 rw[e];have:=pick_run Y i k;rw[aDo]at this;have a:((λx=>Y[x]?)∘λx=>i+x)=λm=>Y[i+m]?:=rfl;rw[a]at this;rw[this]
def getItem_tuple_cut{t sl:bc}{items:Array au}{i j:au}{lo a:Option Int}{Q:F7}(b:IsTup s.heap t items)(k:s.heap.IsSliceOf sl i j .none)(l:IsPart i lo)(n:IsPart j a)
  (o:¬(sIx items.size 0 lo=0/\sIx items.size items.size a=items.size))
  (h:Q (.ref s.heap.objs.size) {s with heap:=s.heap.push {cls:=.type "tuple",data:=.seq ((items.toList.drop (sIx items.size 0 lo)).take (sIx items.size items.size a-sIx items.size 0 lo)).toArray}})
  (r:items.size<=sizeLine):a9 (be prog w) A (getItem (.ref t) (.ref sl)) Q E s:=by
 have d:sizeOk (.seq ((items.toList.drop<|sIx items.size 0 lo).take (sIx items.size items.size a-sIx items.size 0 lo)).toArray):=by
  show((items.toList.drop<|sIx items.size 0 lo).take (sIx items.size items.size a-sIx items.size 0 lo)).toArray.size<=sizeLine;rw[aAn,aBS,aDM,aBi]
  lia
 have u:sIx items.size items.size a<=items.size:=rq _ _ (aAl _) a;obtain⟨os,e,p,v⟩:=id k;have f:s.TypeIs (.ref sl) "slice":=⟨os,e,p⟩;unfold getItem;try with_reducible refine aAW ?_
 first|refine aAa (aAb ?_)|skip
 refine aAa (wpAny_sequenceKey b.typeIs (by decide) ?_);refine aAa (aCD (name:=aDw "__getitem__") b.typeIs aCF
  (aBB aCF b.typeIs entry_tuple_getitem ?_ (args_tuple_getitem _ _)))
 show a9 _ _ (aDD (.ref t)>>=_) _ _ s;refine aAa (tupleItemsOf_ b ?_);refine aAa (aDS f ?_);rw[h9 (by decide)];refine aAa (kR k l n ?_);have g:¬((((sIx items.size 0 lo:Nat):Int)==0&&(1:Int)==1&&(sIx items.size items.size a-sIx items.size 0 lo)==items.size)=true):=by intro q;rw[aAQ,aAQ]at q;have x:((sIx items.size 0 lo:Nat):Int)=0:=eq_of_beq q.1.1;have y:sIx items.size items.size a-sIx items.size 0 lo=items.size:=eq_of_beq q.2;exact o ⟨by lia,by lia⟩
 show a9 _ _ (if(((sIx items.size 0 lo:Nat):Int)==0&&(1:Int)==1&&(sIx items.size items.size a-sIx items.size 0 lo)==items.size)=true then _ else _) _ _ s;rw[ia g,NN];first
  |exact aAa (m:=aDb _) (aBG (aAb ⟨_,rfl,aAb h⟩) d)
  |exact aAa (m:=aDb _) (aBG (aAa<|aAb<|aAb ⟨_,rfl,aAb h⟩) d)
  |exact aAa (aAa (m:=aDb _)<|aBG (aAb<|aAb ⟨_,rfl,aAb h⟩) d)
  |exact aAa (aAa (m:=aDb _)<|aBG (aAb ⟨_,rfl,aAb h⟩) d)
end
end HT
namespace L2
open PySem PySem.Spec PyProof.Rows
abbrev TO:=St->Hp->(Option Int->Hp->Prop)->Prop
def PO(X:Cx)(e:Option cu)(t:TO):Prop:=
 ∀(a:O9) (s:ba) (σ:St) (H:Hp) (Q:Option Int->Hp->Prop),Inv X a σ H s->t σ H Q->
  a9 (be X.prog X.w) X.A (evalPart e X.env) (λu d=>∃o b,Inv X a σ b d/\IsPart u o/\Q o b) X.xe s
def UO:TO:=λ_ H Q=>Q none H
def a1e(t:TE):TO:=λσ H Q=>t σ H λx a=>∃i,x=.int i/\Q (some i) a
section
variable{X:Cx}{e:cu}{te:TE}{lo hi:Option cu}{tl th:TO}{pos p2:Pos}
def XT:PO X none UO:=by intro a s σ H Q I h;rw[evalPart_none];exact aAb ⟨none,H,I,.none,h⟩
def XR(h:PE X e te):PO X (some e) (a1e te):=by intro a s σ H Q I b;rw[evalPart_some];refine F5 (h a s σ H _ I b) λu k ⟨x,d,f,g,j⟩=>?_;obtain⟨i,rfl,q⟩:=j;obtain⟨t,rfl⟩:=g;exact⟨some i,d,f,.int i t,q⟩
def gz(X:Cx)(r:V->Option Int->Option Int->Hp->VK->Prop):Prop:=
 ∀(a:O9) (s:ba) (σ:St) (H:Hp) (x:V) (v b d:au) (lo hi:Option Int) (f:bc) (Q:VK),Inv X a σ H s->RelV x v->s.heap.IsSliceOf f b d .none->IsPart b lo->IsPart d hi->r x lo hi H Q->
  ∃T id,typeLookup (.type T) "__getitem__"=pure (some<|.builtin id)/\s.TypeIs v T/\a9 (be X.prog X.w) X.A (getItem v<|.ref f) (EP X a σ Q) X.xe s
def gz.or{r b:V->Option Int->Option Int->Hp->VK->Prop}(h:gz X r)(h':gz X b):gz X (λx lo hi H Q=>r x lo hi H Q\/b x lo hi H Q):=by
 intro a s σ H x v d f lo hi g Q I i j k l q;rcases q with q|q
 .exact h a s σ H x v d f lo hi g Q I i j k l q
 exact h' a s σ H x v d f lo hi g Q I i j k l q
def tSl(r:V->Option Int->Option Int->Hp->VK->Prop)(te:TE)(tl th:TO):TE:=λσ H Q=>te σ H λx a=>tl σ a λl b=>th σ b λu d=>r x l u d Q
def QM{r:V->Option Int->Option Int->Hp->VK->Prop}(j:gz X r)(k:PE X e te)(m:PO X lo tl)(n:PO X hi th):PE X (.Subscript e (.Slice lo hi none p2) pos) (tSl r te tl th):=by intro a s σ H Q I h;refine Subscript_ (F5 (k a s σ H _ I h) λv o ⟨x,p,t,y,z⟩=>?_);refine wpAny_Slice (F5 (m a o σ p _ t z) λf B ⟨l,C,E,J,L⟩=>F5 (n a B σ C _ E L) λg d ⟨u,i,N,O,U⟩=>?_);rw[evalPart_none];refine aAb ?_;have Y:Inv X a σ i {d with heap:=d.heap.push {cls:=.type "slice",data:=.fields #[f,g,.none]}}:=N.kept (t':=d.toks) λb ob q=>aAd _ q;obtain⟨T,id,hT,ht,hg⟩:=j a {d with heap:=d.heap.push {cls:=.type "slice",data:=.fields #[f,g,.none]}} σ i x v f g l u d.heap.objs.size Q Y y (Heap.IsSliceOf.new ..) J O U;show a9 (be X.prog X.w) X.A (subscriptTail e (.Slice lo hi none p2) v<|.ref d.heap.objs.size) (EP X a σ Q) X.xe {d with heap:=d.heap.push {cls:=.type "slice",data:=.fields #[f,g,.none]}};exact tail_any (ops:=[.ref d.heap.objs.size,v]) ht hT hg (by with_unfolding_all rfl)
def yN(Y:List V)(lo hi:Option Int):List V:=(Y.drop<|HT.sIx Y.length 0 lo).take (HT.sIx Y.length Y.length hi-HT.sIx Y.length 0 lo)
def mS(Y:List V)(lo hi:Option Int):(yN Y lo hi).length<=Y.length:=by
 unfold yN;rw[aBS,aDM]
 lia
def a1g(K:ix):V->Option Int->Option Int->Hp->VK->Prop:=λx lo hi H Q=>∃a Y,x=.ref a/\Y0 K H a Y/\
 ¬(HT.sIx Y.length 0 lo=0/\HT.sIx Y.length Y.length hi=Y.length)/\∀p,H p=none->Q (.ref p) (upd H p<|.tup (yN Y lo hi))
def wz:gz X (a1g X.K):=by
 intro g s σ H x v u w lo hi y Q I k l m n h;obtain⟨a,Y,rfl,p,t,q⟩:=h;cases k;obtain⟨f,r,i,j⟩:=I.tuple p;have d:f.toArray.size=Y.length:=by rw[aAn];exact r.length.symm
 refine⟨"tuple",_,aCF.lookup,i.typeIs,?_⟩;refine HT.getItem_tuple_cut i l m n (by rw[d];exact t) ?_ (by rw[d];exact j);rw[d];refine⟨.ref s.heap.objs.size,_,I.laid (t':=s.toks) (o:=.tup (yN Y lo hi)) (λb z q=>aAd _ q) (aAl _) ?_,rfl,q _ (I.hok.fresh<|aAl _)⟩;exact⟨aAr (mS Y lo hi) j,_,(r.drop<|HT.sIx Y.length 0 lo).take (HT.sIx Y.length Y.length hi-HT.sIx Y.length 0 lo),IsTup.new _ _⟩
def a0j(K:ix):R2:=λx y H Q=>∃a b Y d,x=.ref a/\y=.ref b/\Y0 K H a Y/\Y0 K H b d/\Y≠[]/\Y.length+d.length<=sizeLine/\
 (d=[]->Q (.ref a) H)/\(d≠[]->∀p,H p=none->Q (.ref p) (upd H p<|.tup (Y++d)))
def l7.ac3(r:l7 Y a):a=[]↔Y=[]:=by
 cases r with
 |nil=>simp
 |cons _ _=>simp
def GR:jH X (ee .Add) (a0j X.K):=by intro g s σ H x y v u Q I j k h;obtain⟨a,b,Y,l,rfl,rfl,m,n,p,i,r,t⟩:=h;cases j;cases k;obtain⟨A,f,B,_⟩:=I.tuple m;obtain⟨C,d,p2,_⟩:=I.tuple n;refine HT.cat_tup B p2 (λz=>p (f.ac3.mp z)) (λz=>⟨.ref a,H,I,rfl,r (d.ac3.mp z)⟩) (λz=>?_) (by rw[<-f.length,<-d.length];exact i);refine⟨.ref s.heap.objs.size,_,I.laid (t':=s.toks) (o:=.tup (Y++l)) (λb E q=>aAd _ q) (aAl _) ?_,rfl,t (λw=>z (d.ac3.mpr w)) _ (I.hok.fresh<|aAl _)⟩;exact⟨by rw[aAz];exact i,_,f.append d,IsTup.new _ _⟩
end
def MA(n:Nat)(i:Int):Option Nat:=if 0<=i then(if i<n then some i.toNat else none)else if-(n:Int)<=i then some (i+n).toNat else none
def oG{α:Type}(Y:List α)(i:Int):Option α:=(MA Y.length i).bind λj=>Y[j]?
def FW(h:MA n i=some j):seqIndex? i n=some j/\j<n/\-(n:Int)<=i/\i<n:=by
 unfold MA at h;by_cases b:0<=i
 .rw[h9 b]at h;by_cases a:i<n
  .rw[h9 a]at h;have e:i.toNat=j:=Option.some.inj h;exact⟨by rw[seqIndex_of b a,e],by lia,by lia,a⟩
  rw[ia a]at h;cases h
 rw[ia b]at h;by_cases a:-(n:Int)<=i
 .rw[h9 a]at h;have e:(i+n).toNat=j:=Option.some.inj h;exact⟨by rw[seqIndex_neg (by lia) a,e],by lia,a,by lia⟩
 rw[ia a]at h;cases h
def GI{α:Type}{Y:List α}{i:Int}{v:α}(h:oG Y i=some v):∃j,seqIndex? i Y.length=some j/\Y[j]?=some v/\j<Y.length/\-(Y.length:Int)<=i/\i<Y.length:=by
 unfold oG at h;cases e:MA Y.length i with
 |none=>rw[e]at h;cases h
 |some j=>rw[e]at h;obtain⟨a,b,d,f⟩:=FW e;exact⟨j,a,h,b,d,f⟩
def VZ(b:cu):Prop:=∀o i,subscripted b false o i=operate [o,i] (getItem o i)
def IxR(X:Cx)(r:R2):Prop:=
 ∀(d a:cu) (b:O9) (s:ba) (σ:St) (H:Hp) (x y:V) (v u:au) (Q:VK),Inv X b σ H s->RelV x v->RelV y u->r x y H Q->
  subscripted a false v u=operate [v,u] (getItem v u)->a9 (be X.prog X.w) X.A (subscriptTail d a v u) (EP X b σ Q) X.xe s
def MtR(X:Cx)(id:String)(r:V->List V->Hp->VK->Prop):Prop:=
 ∀(a:O9) (s:ba) (σ:St) (H:Hp) (x:V) (Y:List V) (v:au) (b:List au) (Q:VK),Inv X a σ H s->RelV x v->l7 Y b->r x Y H Q->
  a9 (be X.prog X.w) X.A (call (.builtin id) (v::b)) (EP X a σ Q) X.xe s
section
variable{X:Cx}{a b:cu}{ta tb:TE}{pos:Pos}
def a5k(K:ix):R2:=λx y H Q=>∃p Y i v,x=.ref p/\y=.int i/\P4 K H p Y/\oG Y i=some v/\Q v H
def a4v(K:ix):R2:=λx y H Q=>∃p Y i v,x=.ref p/\y=.int i/\Y0 K H p Y/\oG Y i=some v/\Q v H
def WJ:IxR X (a5k X.K):=by
 intro g k d s σ H x y v u Q I E J h A;obtain⟨p,Y,i,z,rfl,rfl,L,N,q⟩:=h;cases E;obtain⟨t,rfl⟩:=J;obtain⟨l,r,m,hz⟩:=I.list L;obtain⟨j,f,O,h3,T,U⟩:=GI N;obtain⟨w,B,n⟩:=r.get O;have hl:=r.length;have hn:=vL;have e:EP X d σ Q w s:=⟨z,H,I,n,q⟩;by_cases C:0<=i
 .have o:i.toNat=j:=by rw[seqIndex_of C U]at f;exact Option.some.inj f
  exact item_listR m.isList C (by lia) (by rw[o];simpa using B) e A
 have o:(i+(l.toArray.size:Int)).toNat=j:=by rw[seqIndex_neg (by lia) T]at f;rw[aAn,<-hl];exact Option.some.inj f
 exact subscriptTail_builtinR (x:=w) m.isList.typeIs slot_list_getitem.lookup
  (wpAny_getItem_list_neg (Q:=λr s'=>r=w/\EP X d σ Q r s') m.isList (by lia) (by rw[aAn]<;>lia) (by lia) (by rw[o];simpa using B) ⟨rfl,e⟩) A
def cx:IxR X (a4v X.K):=by
 intro e f d s σ H x y v u Q I m n h o;obtain⟨p,Y,i,z,rfl,rfl,A,B,q⟩:=h;cases m;obtain⟨t,rfl⟩:=n;obtain⟨C,r,l,T⟩:=I.tuple A;obtain⟨j,E,J,U,h4,h5⟩:=GI B;obtain⟨w,L,g⟩:=r.get J;have N:=r.length;have hn:=vL;have k:EP X d σ Q w s:=⟨z,H,I,g,q⟩;exact subscriptTail_builtinR (x:=w) l.typeIs aCF.lookup
  (getItem_tuple (j:=j) (Q:=λr O=>r=w/\EP X d σ Q r O) l (by lia) (by lia) (by rw[aAn,<-N];exact E) (by simpa using L) ⟨rfl,k⟩) o
def DX(d:List au)(n j:Nat)(u:au):aBF (·.setIfInBounds j u) {cls:=.type "list",data:=.seq d.toArray n}={cls:=.type "list",data:=.seq (d.set j u).toArray n}:=by simp[aBF]
def Inv.lst{f:O9}{σ:St}{H:Hp}{s:ba}{p:bc}{Y:List V}(I:Inv X f σ H s)(h:H p=some (.lst Y)):
  ∃(d:List au) (n:Nat),l7 Y d/\s.heap.get? p=some {cls:=.type "list",data:=.seq d.toArray n}/\Y.length<=sizeLine:=by
 obtain⟨z,d,n,r,e⟩:=I.hok p _ h;exact⟨d,n,r,e,z⟩
def Inv.af1{d:O9}{σ:St}{H:Hp}{s:ba}{p:bc}{Y i:List V}{g its':List au}{n j:Nat}{f:Obj->Obj}(I:Inv X d σ H s)(h:H p=some (.lst Y))
  (l:s.heap.get? p=some {cls:=.type "list",data:=.seq g.toArray n}) (k:f {cls:=.type "list",data:=.seq g.toArray n}={cls:=.type "list",data:=.seq its'.toArray j}) (r:l7 i its') (hz:i.length<=sizeLine) (t:Nat):
  Inv X d σ (upd H p (.lst i)) {s with heap:=s.heap.update p f,toks:=t}:=by
 have e:(s.heap.update p f).get? p=some {cls:=.type "list",data:=.seq its'.toArray j}:=by rw[aBo f l (by rw[k]<;>rfl),k]
 refine I.write (x:=p) (e:=p) (by rw[h];trivial) (.inl rfl) (λb u m q=>(aAF _ _<|aBY m).trans q) ⟨_,e⟩ ?_;exact⟨hz,its',j,r,e⟩
def a2q:V->V->V->Hp->(Hp->Prop)->Prop:=λo i v H Q=>∃p Y k j,o=.ref p/\i=.int k/\H p=some (.lst Y)/\MA Y.length k=some j/\Q (upd H p<|.lst (Y.set j v))
def RZ:qy X a2q:=by
 intro d s σ H o i v N O u Q I B C E h;obtain⟨p,Y,k,j,rfl,rfl,w,J,q⟩:=h;cases B;obtain⟨t,rfl⟩:=C;obtain⟨e,n,r,g,L⟩:=I.lst w;obtain⟨f,T,x,y⟩:=FW J;have l:=r.length;have U:=vL;have z:Inv X d σ (upd H p<|.lst (Y.set j v)) {s with heap:=s.heap.update p (aBF (·.setIfInBounds j u))}:=
  I.af1 w g (DX e n j u) (r.set E j) (by rw[aFV];exact L) s.toks
 by_cases A:0<=k
 .have m:k.toNat=j:=by rw[seqIndex_of A y]at f;exact Option.some.inj f
  exact PySem.W.ki_setAt g A (by lia) (by rw[aAn,<-l];exact y) (by rw[m];exact⟨_,z,q⟩)
 have m:(k+(e.toArray.size:Int)).toNat=j:=by rw[seqIndex_neg (by lia) x]at f;rw[aAn,<-l];exact Option.some.inj f
 exact PySem.W.ki_setBack g (by lia) (by rw[aAn,<-l];exact x) (by lia) (by rw[m];exact⟨_,z,q⟩)
def xN(lo d:Option Int)(n:Nat):(gv lo d none n).1=((HT.sIx n 0 lo:Nat):Int)/\(gv lo d none n).2.1=((HT.sIx n n d:Nat):Int)/\(gv lo d none n).2.2=1:=by
 refine⟨?_,?_,rfl⟩
 .cases lo with
  |none=>simp[gv,HT.sIx]
  |some i=>
   simp only[gv,HT.sIx,Option.getD_none,show(1:Int)>0 by decide,if_true];by_cases h:i<0
   .simp only[h,if_true]<;>lia
   simp only[h,if_false]<;>lia
 cases d with
 |none=>simp[gv,HT.sIx]
 |some i=>
  simp only[gv,HT.sIx,Option.getD_none,show(1:Int)>0 by decide,if_true];by_cases h:i<0
  .simp only[h,if_true]<;>lia
  simp only[h,if_false]<;>lia
def rT(d:List au)(lo e:Option Int):slicePick d.toArray lo e none=((d.drop (HT.sIx d.length 0 lo)).take (HT.sIx d.length d.length e-HT.sIx d.length 0 lo)).toArray:=by obtain⟨f,g,h⟩:=xN lo e d.toArray.size;unfold slicePick;rw[f,g,h];simp only[sliceRange_one,pick_run,aAn]<;>rfl
def a1v(K:ix):V->Option Int->Option Int->Hp->VK->Prop:=λx lo d H Q=>∃a Y,x=.ref a/\P4 K H a Y/\∀p,H p=none->Q (.ref p) (upd H p<|.lst (yN Y lo d))
def WI:gz X (a1v X.K):=by intro e s σ H x v p t lo d u Q I g i j k h;obtain⟨a,Y,rfl,l,q⟩:=h;cases g;obtain⟨m,r,f,n⟩:=I.list l;have hlen:=r.length;refine⟨"list",_,slot_list_getitem.lookup,f.isList.typeIs,?_⟩;refine wpAny_getItem_list_slice f.isList i j k .none (by simp) ?_ (by rw[aAn]<;>lia);rw[rT,<-hlen];refine⟨.ref s.heap.objs.size,_,I.laid (t':=s.toks) (o:=.lst (yN Y lo d)) (λb w q=>aAd _ q) (aAl _) ?_,rfl,q _ (I.hok.fresh<|aAl _)⟩;exact⟨aAr (mS Y lo d) n,_,0,(r.drop<|HT.sIx Y.length 0 lo).take (HT.sIx Y.length Y.length d-HT.sIx Y.length 0 lo),aAq _ rfl⟩
def a0a:V->Bool
 |.non=>true
 |.bl _=>true
 |.int _=>true
 |.str _=>true
 |_=>false
def jJ:uM X (.builtin "len") (λY H Q=>∃p e,Y=[.ref p]/\(P4 X.K H p e\/Y0 X.K H p e)/\Q (.int e.length) H):=by
 intro k s σ H Y n Q I r h;obtain⟨p,e,rfl,f,q⟩:=h;obtain⟨u,rfl,l⟩:=vals1 r;cases l;have o:=vL;rcases f with f|f
 .obtain⟨g,i,j,m⟩:=I.list f;have d:=i.length;exact Calls.call_len_list j.isList (by simp only[aAn]<;>lia) ⟨.int e.length,H,I.tok _,⟨s.toks+1,by rw[aAn,d]⟩,q⟩
 obtain⟨g,i,j,m⟩:=I.tuple f;have d:=i.length;exact len_tuple j (by simp only[aAn]<;>lia) ⟨.int e.length,H,I.tok _,⟨s.toks+1,by rw[aAn,d]⟩,q⟩
def iO:uM X (.type "list") (λY H Q=>∃p g,Y=[.ref p]/\(P4 X.K H p g\/Y0 X.K H p g)/\∀l,H l=none->Q (.ref l) (upd H l (.lst g))):=by
 intro k s σ H Y L Q I r h;obtain⟨p,g,rfl,m,q⟩:=h;obtain⟨u,rfl,J⟩:=vals1 r;cases J;have t:∀(d:List au),l7 g d->g.length<=sizeLine->∀(f:cq) (i:Nat),(∀b E,s.heap.get? b=some E->f.get? b=some E)->
   f.get? s.heap.objs.size=some {cls:=.type "list",dict:=none,data:=.seq d.toArray i,slots:=#[]}->EP X k σ Q (.ref s.heap.objs.size) {s with heap:=f}:=λd j v f i x e=>
  ⟨.ref s.heap.objs.size,_,I.laid (t':=s.toks) x (aAl _) (show ObjOk X.prog X.w _ f _ (.lst g)from⟨v,d,i,j,e⟩),rfl,q _ (I.hok.fresh<|aAl _)⟩
 rcases m with m|m
 .obtain⟨d,j,z,v⟩:=I.list m;have y:=j.length;obtain⟨o,A,B,n,C⟩:=z.isList;exact call_list_seq p (.inl rfl) A B C (λf i x e=>t d j v f i x e) (by simp only[aAn]<;>lia)
 obtain⟨d,j,z,v⟩:=I.tuple m;have y:=j.length;obtain⟨o,A,B,n,C⟩:=z;exact call_list_seq p (.inr rfl) A B C (λf i x e=>t d j v f i x e) (by simp only[aAn]<;>lia)
def tyV(K : ix) (T : String) (x : V) (H : Hp) : Prop := match x with
  | .str _ => T = "str"
  | .int _ => T = "int"
  | .ref p => (T = "list" ∧ ∃ Y, P4 K H p Y) ∨ (T = "tuple" ∧ ∃ o, K.lookup p = some o ∧ o.cls = .type "tuple" ∧ o.dict = none) ∨
      (T = "dict" ∧ ((∃ N, H p = some (.dK N)) ∨ ∃ N, H p = some (.dT N))) ∨ (T = "set" ∧ ∃ S n, H p = some (.set S n))
  | _ => False
def QU(I:Inv X k σ H s)(r:RelV x v)(g:tyV X.K T x H):
  s.TypeIs v T/\∀a,v=.ref a->∃l,s.heap.get? a=some l/\l.dict=none:=by
 cases x with
 |str z=>obtain⟨t,rfl⟩:=r;cases(show T= "str"from g);exact⟨typeIs_str s z t,λ_ e=>nomatch e⟩
 |int i=>obtain⟨t,rfl⟩:=r;cases(show T= "int"from g);exact⟨typeIs_int s i t,λ_ e=>nomatch e⟩
 |ref p=>
  cases r;rcases g with⟨rfl,Y,q⟩|⟨rfl,o,d,u,h⟩|⟨rfl,d⟩|⟨rfl,S,n,d⟩
  .obtain⟨w,_,m,_⟩:=I.list q;refine⟨m.isList.typeIs,λa e=>?_⟩;cases e;obtain⟨o,n,e,c,h,_⟩:=m;exact⟨o,e,h⟩
  .refine⟨⟨o,I.kIn p o d,u⟩,λa e=>?_⟩;cases e;exact⟨o,I.kIn _ o d,h⟩
  .have z:∃o,s.heap.get? p=some o/\o.ExactDict:=by
    rcases d with⟨N,d⟩|⟨N,d⟩
    .obtain⟨_,_,_,_,o,_,_,e,f,_⟩:=I.hok p _ d;exact⟨o,e,f⟩
    obtain⟨_,_,_,_,o,_,_,e,f,_⟩:=I.hok p _ d;exact⟨o,e,f⟩
   obtain⟨o,e,f⟩:=z;refine⟨⟨o,e,f.1⟩,λa j=>?_⟩;cases j;exact⟨o,e,f.2.1⟩
  obtain⟨o,_,_,_,e,f,_⟩:=I.hok p _ d;refine⟨⟨o,e,f.1⟩,λa j=>?_⟩;cases j;exact⟨o,e,f.2.1⟩
 |_=>exact aAf g
def a3l(K:ix)(T:String)(r:V->List V->Hp->VK->Prop)(e:TE):TE:=λσ H Q=>e σ H λx d=>tyV K T x d/\r x [] d Q
def tBM(K:ix)(T:String)(r:V->List V->Hp->VK->Prop)(e:TE)(t:TA):TE:=λσ H Q=>e σ H λx d=>tyV K T x d/\t σ d λY f=>r x Y f Q
variable{o e:cu}{es:List cu}{to:TE}{t:TA}{name:Str}{apos ao:Pos}{T id:String}{r:V->List V->Hp->VK->Prop}
def QW(j:PlainAttrs T)(slot:Slot T name id)(f:typeOf (.builtin id)=pure (.type "method_descriptor"))(k:MtR X id r)(l:PE X o to)
  (m:gm o name X.env (dm o X.env)=dm o X.env:=by rfl) (n:(apos.endLine==ao.line)=true:=by rfl):PE X (.Call (.Attribute o name apos) [] [] ao) (a3l X.K T r to):=by
 intro d s σ H Q I h;refine wpAny_Call_method0_late m n (F5 (l d s σ H _ I h) λv p ⟨x,q,g,i,u,w⟩=>?_);obtain⟨y,z⟩:=QU g i u;exact⟨T,id,j,slot,f,y,z,aFG rfl (PySem.evalArgs_none<|k d p σ q x [] v [] Q g i .nil w)⟩
def ZU(k:PlainAttrs T)(slot:Slot T name id)(f:typeOf (.builtin id)=pure (.type "method_descriptor"))(l:MtR X id r)(m:PE X o to)(n:PA X (e::es) t)
  (p:gm o name X.env (dm o X.env)=dm o X.env:=by rfl)
  (q:((cy ao (bb (e::es) X.env)).all (λx=>!x.1)&&(backToKw ao (keywordEach [] X.env)).all (λx=>x.1.isSome)
   &&decide ((e::es).length+([]:List Keyword).length+(if([]:List Keyword).isEmpty then 0 else 1)<30))=true:=by rfl)
  (u:(apos.endLine==ao.line)=true:=by rfl) (w:bb (e::es) X.env=(false,dm e X.env)::bb es X.env:=by rfl) (y:(cy ao (bb es X.env)).any (·.1)=false:=by rfl):
  PE X (.Call (.Attribute o name apos) (e::es) [] ao) (tBM X.K T r to t):=by
 intro d s σ H Q I h;refine wpAny_Call_method_late p q u rfl (F5 (m d s σ H _ I h) λv z ⟨x,A,g,i,B,C⟩=>?_);obtain⟨E,J⟩:=QU g i B;refine⟨T,id,k,slot,f,E,J,?_⟩;have j:=n ao d z σ A _ g C;rw[w]at j⊢;refine aFG (by show(false||(cy ao<|bb es X.env).any (·.1))=false;rw[y]<;>rfl) (Calls.evalArgs_plain ?_);exact F5 j λN O ⟨L,U,Y,r2,q2⟩=>l d O σ U x L v N Q Y i r2 q2
end
def MtM(X:Cx)(id:String)(r:V->List V->Hp->VK->Prop):Prop:=
 ∀(a:O9) (s:ba) (σ:St) (H:Hp) (x:V) (Y:List V) (v:au) (b:List au) (Q:VK),Inv X a σ H s->RelV x v->l7 Y b->r x Y H Q->
  a9 (be X.prog X.w) X.A (call (.builtin id) (v::b)) (EP X a σ Q) X.xe s
theorem l7.one:∀{x:V}{a:List au},l7 [x] a->∃u,a=[u]/\RelV x u
 |_,_,.cons r .nil=>⟨_,rfl,r⟩
theorem l7.zero:∀{a:List au},l7 [] a->a=[]
 |_,.nil=>rfl
def l7.dropLast(h:l7 Y a):l7 Y.dropLast a.dropLast:=by
 induction h with
 |nil=>exact .nil
 |cons r t b=>
  cases t with
  |nil=>exact .nil
  |cons q d=>exact .cons r b
def FC{α:Type}(l:List α):l.eraseIdx (l.length-1)=l.dropLast:=by
 induction l with
 |nil=>rfl
 |cons a r d=>
  cases r with
  |nil=>rfl
  |cons b r=>
   have e:(a::b::r).length-1=((b::r).length-1)+1:=by
    have f:(a::b::r).length=r.length+2:=rfl;have g:(b::r).length=r.length+1:=rfl
    lia
   rw[e,aFu,d]
   all_goals rfl
section
variable{X:Cx}{pins:O9}{σ:St}{H:Hp}{s:ba}{l b:bc}{Y ys zs:List V}
def Inv.af4{a its':List au}{n:Nat}{f:Array au->Array au}{t':Nat}(I:Inv X pins σ H s)(d:H l=some (.lst Y))
  (e:s.heap.get? l=some {cls:=.type "list",data:=.seq a.toArray n}) (g:f a.toArray=its'.toArray) (h:l7 ys its') (hz:ys.length<=sizeLine):
  Inv X pins σ (upd H l (.lst ys)) {s with heap:=s.heap.update l (aBF f),toks:=t'}:=by
 have q:=PySem.IsL.update e f;rw[g]at q;refine I.write (x:=l) (e:=l) (by rw[d];exact trivial) (.inl rfl) (λk u i j=>(aAF s.heap (aBF f)<|aBY i).trans j) ⟨_,q⟩ ?_;exact⟨hz,its',_,h,q⟩
def Inv.ag1(I:Inv X pins σ H s)(d:l7 ys a)(hz:ys.length<=sizeLine):
  Inv X pins σ (upd H s.heap.objs.size (.lst ys)) {s with heap:=s.heap.push {cls:=.type "list",data:=.seq a.toArray},toks:=t'}:=
 I.laid (λ_ _ q=>aAd _ q) (aAl _) ⟨hz,a,0,d,aAq _ rfl⟩
def Inv.fresh(I:Inv X pins σ H s):H s.heap.objs.size=none:=I.hok.fresh (aAl _)
def Inv.af3(I:Inv X pins σ H s)(d:H l=some (.lst Y)):Y.length<=sizeLine/\∃(a:List au) (n:Nat),l7 Y a/\Y.length=a.length/\s.heap.get? l=some {cls:=.type "list",data:=.seq a.toArray n}:=by obtain⟨z,a,n,r,e⟩:=I.hok l _ d;exact⟨z,a,n,r,r.length,e⟩
def SX(h:n<=sizeLine):aDc n=false:=by unfold aDc;exact decide_eq_false (by lia)
end
section
variable{X:Cx}
def XO:V->List V->Hp->VK->Prop:=λx L H Q=>∃l Y y,x=.ref l/\L=[y]/\H l=some (.lst Y)/\Y.length<sizeLine/\Q .non (upd H l<|.lst (Y++[y]))
def uG:MtM X "list.append" XO:=by
 intro b s σ H x L v j Q I f g h;obtain⟨l,Y,y,rfl,rfl,d,k,q⟩:=h;cases f;obtain⟨u,rfl,i⟩:=g.one;obtain⟨z,a,n,r,m,e⟩:=I.af3 d;refine call_meets F.slot_list_append ⟨_,e,rfl⟩ F.entry_list_append (F.args_list_append_2 _ _) (PySem.list_append l a.toArray n u (by rw[aAn];lia)) ⟨e,?_⟩;refine⟨.non,_,I.af4 (its':=a++[u]) d e (by simp) (r.append<|.cons i .nil) ?_,rfl,q⟩;rw[aAz,aFK]
 lia
def a3q:V->List V->Hp->VK->Prop:=λx L H Q=>∃l Y y,x=.ref l/\L=[]/\H l=some (.lst Y)/\Y[Y.length-1]?=some y/\Q y (upd H l<|.lst Y.dropLast)
def TR:MtM X "list.pop" a3q:=by
 intro f s σ H x L v t Q I i j h;obtain⟨l,Y,y,rfl,rfl,g,k,q⟩:=h;cases i;have b:=j.zero;subst b;obtain⟨z,a,n,r,m,e⟩:=I.af3 g;obtain⟨u,o,p⟩:=r.get k;have d:a.toArray[a.toArray.size-1]?=some u:=by show a.toArray[a.length-1]?=some u;rw[<-aAE,<-m];exact o
 refine call_meets F.slot_list_pop ⟨_,e,rfl⟩ F.entry_list_pop (F.args_list_pop_1 _) (MeetsSeq.list_pop_last l a.toArray n u d (by rw[aAn];lia)) ⟨e,?_⟩;refine⟨y,_,I.af4 (its':=a.dropLast) g e ?_ r.dropLast ?_,p,q⟩
 .show a.toArray.eraseIdxIfInBounds (a.toArray.size-1)=a.dropLast.toArray;rw[aAn,List.eraseIdxIfInBounds_toArray,FC]
 rw[aEu]
 lia
end
section
variable{prog:bM}{w:cp}{A:cf}{E:F7}{s:ba}
end
section
variable{X:Cx}
end
end L2
namespace Att
open PySem PySem.W PySem.Calls PyProof.Rows
def nG:∀(ns:List Int) (L:List au),WellAll P h L (ns.map WData.int)->IntsAre L ns:=by
 intro ns;induction ns with
 |nil=>intro L w;rw[aCG]at w;cases w;exact .nil
 |cons n ns d=>
  intro L w;rw[aAk]at w;cases w with
  |cons a b=>cases a;exact .cons _ _ (d _ b)
def script_of{l:OpenLaw}{n:Nat}(m:l.most=some n){P:Params}{h:cq}{args:List WData}{b:List au}
  (j:l.row.toRowW.claim.pre args=true) (o:WellAll P h b args):
  ∃a L ns,b=[aDH a]/\args=[WData.list (ns.map WData.int)]/\h.get? a=some {cls:=.type "list",data:=.seq L.toArray}/\IntsAre L ns/\ns.length<=n:=by
 have i:WShape.hasAll [] args [.list .int]=true:=(pre_splitW j).1;have k:l.pre.holds [] {args:=args}=true:=(pre_splitW j).2;obtain⟨d,r,rfl,p,s⟩:=hasAllW_cons i;obtain rfl:=hasAllW_nil s;obtain⟨Y,rfl,t⟩:=hasW_list p;obtain⟨ns,rfl⟩:=items_int t;have e:ns.length<=n:=by
  unfold OpenLaw.pre at k;have f:(WTm.not<|.lt (.lit (.int (n:Int))) (.len (.arg 0))).holds [] {args:=[.list (ns.map .int)]}=true:=by have f:=(holds_andW k).1;rw[m]at f;exact f
  have g:=condW_of f (w_not<|w_lt w_lit<|w_len_list<|w_arg rfl);rw[aAh]at g;refine aEo λq=>?_;have u:(n:Int)<((ns.length:Nat):Int):=by lia
  first
   |(rw[decide_eq_true u]at g;exact absurd g (by decide))
   |(simp at g;lia)
 cases o with
 |cons v w=>
  cases w;cases v with
  |list x y=>exact⟨_,_,ns,rfl,rfl,x,nG ns _ y,e⟩
def post_true(l:OpenLaw)(args:List WData):l.row.toRowW.claim.post args (.bool true) args=true:=
 postW_of (r:=l.row.toRowW) (X:=(true==true))
  (show WShape.has [] (.bool true) .bool=true by first|rfl|decide|simp[WShape.has,WShape.arms,WShape.armsAll])
  (show(WTm.eq .res (.lit (.bool true))).value [] {args:=args,res:=some (.bool true),after:=args}=some (.bool (true==true))from w_eq_bool (w_res rfl) w_lit) rfl
section
variable{prog:bM}{w:cp}{A:cf}{E:F7}{s:ba}{K:Frag}
def a5c(h:cq)(L d:bc):List (bc×Obj):=(aBc h.objs.size).filterMap λa=>if a=L\/a=d then none else(h.get? a).map λo=>(a,o)
end
end Att
namespace L2
open PySem PySem.Spec PyProof.Rows
theorem V8:∀{L:List au}{ns:List Int},IntsAre L ns->l7 (ns.map V.int) L
 |_,_,.nil=>.nil
 |_,_,.cons n t h=>.cons ⟨t,rfl⟩ (V8 h)
def E6(s:cv):Arguments:=match s with
 |.FunctionDef _ a _ _ _ _ _ _ _ _=>a
 |_=>{posonlyargs:=[],args:=[],vararg:=none,kwonlyargs:=[],kw_defaults:=[],kwarg:=none,defaults:=[]}
def q8(s:cv):List cv:=match s with
 |.FunctionDef _ _ b _ _ _ _ _ _ _=>b
 |_=>[]
def c6(s:cv):hE:=match s with
 |.FunctionDef _ _ _ _ _ _ a _ _ _=>a
 |_=>{kind:=.function,names:=[],isGenerator:=false,isCoroutine:=false}
abbrev uO:UK:=λ_ _ _ _ _ _=>False
abbrev E0:XK:=λ_ _ _=>False
def ZB:DF uO X E0:=λ_ _ _ _ _ _ _ h=>h.elim
structure Fun(K:PySem.W.Frag)(x qual:Str)(st:Stmt)(f:Addr)(fd:FuncData):Prop where
 ex:∃(oc:Value) (od:Option Addr) (kV doc pm:Value) (an:Option Addr) (C ct:Value) (osl:Array (Option Value)),
  fd=PySem.W.fnOf x qual (E6 st) (q8 st) (c6 st) .none kV doc pm an C ct/\K.lookup f=some ⟨oc,od,.func fd,osl⟩/\PySem.W.codeIn K C qual=true
 kp:PySem.W.keepIn K (.ref f)=true
section
variable{P:bM}{w:cp}{K:ix}{mg:cM}{base:cq}
def Fun.ok{x qual:Str}{st:cv}{f:bc}{fd:dA}{N ps:List Str}{k:Nat}{b:Sp}(F:Fun K x qual st f fd)(S:FnScope N ps (c6 st))(len:∀L H Q E,b L H Q E->L.length=ps.length)
  (e:∀(C:au) (A:cf) (a:List Env) (s:ba) (H:Hp) (L:List V) (Q:VK) (E:XK),Room k (A.deeper (envOfC qual (c6 st) s.heap.objs.size f C))->b L H Q E->
   ∃t,sS (DH uO P w K mg base N qual (c6 st) f C A a s H E).nox (q8 st) t/\t {nx:=λ_ H'=>Q .non H',rt:=Q} (start N L) H):FnOk P w K mg base uO (k+1) f fd ps b:=by
 obtain⟨m,n,kV,g,o,p,C,r,i,rfl,lk,j⟩:=F.ex;refine ZM lk j S len λA a s H L Q E l d=>?_;obtain⟨t,h,q⟩:=e C A a s H L Q E l d;exact⟨t,h.nox,q⟩
def Fun.binds{x qual:Str}{st:cv}{f:bc}{fd:dA}{ps:List Str}(F:Fun K x qual st f fd)
  (h:∀(kV a b:au) (d:Option bc) (C ct:au) (e:List au),e.length=ps.length->bindArgs (PySem.W.fnOf x qual (E6 st) (q8 st) (c6 st) .none kV a b d C ct) ⟨e,[]⟩=pure (ps.zip e)):Binds K fd ps []:=by
 obtain⟨i,j,kV,a,b,d,C,ct,g,rfl,lk,k⟩:=F.ex;exact .all (h kV a b d C ct)
def NY{x qual:Str}{st:cv}{f:bc}{g:au}{h d:Option bc}{b:Array (Option au)}{kV a e C ct:au}(l:K.lookup f=some ⟨g,h,.func (PySem.W.fnOf x qual (E6 st) (q8 st) (c6 st) .none kV a e d C ct),b⟩)
 (c:PySem.W.codeIn K C qual=true) (k:PySem.W.keepIn K (.ref f)=true):Fun K x qual st f (PySem.W.fnOf x qual (E6 st) (q8 st) (c6 st) .none kV a e d C ct):=⟨⟨g,h,kV,a,e,d,C,ct,b,rfl,l,c⟩,k⟩
end
section
variable{X:Cx}
end
def Same(H H':Hp):Prop:=∀b o,H b=some o->H' b=some o
def Same.refl(H:Hp):Same H H:=λ_ _ h=>h
def Same.trans(a:Same H d)(b:Same d e):Same H e:=λc o h=>b c o (a c o h)
def Same.seq{K:ix}{H H':Hp}{a:bc}{Y:List V}(e:Same H H')(h:P4 K H a Y):P4 K H' a Y:=by
 rcases h with(h|⟨o,h⟩)|h
 .exact .inl (.inl (e _ _ h))
 .exact .inl (.inr ⟨o,e _ _ h⟩)
 exact .inr h
end L2
namespace DL
open PySem PySem.Spec L2
open PyProof.Rows hiding St
section
inductive D where
 |non|bl (b:Bool)|int (i:Int)|str (x:Str)|tup (Y:List D)|lst (Y:List D)|dct
mutual
def m9:D->Int
 |.int i=>hashInt i
 |.tup Y=>reduceHash (aAT (vH Y))
 |_=>0
def vH:List D->List Int
 |[]=>[]
 |x::Y=>m9 x::vH Y
end
def T1:Nat->D->Bool
 |_,.int _=>true
 |n+1,.tup Y=>Y.all (T1 n)
 |_,_=>false
inductive R(α:Type)where
 |ok (a:α)|ex (e:Str)|bad
def R.bind{α β:Type}:R α->(α->R β)->R β
 |.ok a,f=>f a
 |.ex e,_=>.ex e
 |.bad,_=>.bad
@[simp]def R.aa0{α β:Type}(a:α)(f:α->R β):(R.ok a).bind f=f a:=rfl
section
variable(K:ix) (H:Hp) (O:bc->Prop)
mutual
inductive Rep:V->D->Prop
 |non:Rep .non .non
 |bl {b:Bool}:Rep (.bl b) (.bl b)
 |int {i:Int}:Rep (.int i) (.int i)
 |str {x:Str}:Rep (.str x) (.str x)
 |tup {a:Addr}{L:List V}{ds:List D} (h:Y0 K H a L) (r:Reps L ds):Rep (.ref a) (.tup ds)
 |lst {a:Addr}{L:List V}{ds:List D} (h:P4 K H a L) (n:¬O a) (r:Reps L ds):Rep (.ref a) (.lst ds)
 |dct {a:Addr}{o:Obj} (h:H a=some (.ext λh=>h.get? a=some o)) (x:o.ExactDict) (n:¬O a):Rep (.ref a) .dct
inductive Reps:List V->List D->Prop
 |nil:Reps [] []
 |cons {v:V}{d:D}{L:List V}{ds:List D} (h:Rep v d) (t:Reps L ds):Reps (v::L) (d::ds)
end
end
section
variable{K:ix}
def _root_.L2.Same.tup{a:bc}{Y:List V}(e:Same H H')(h:Y0 K H a Y):Y0 K H' a Y:=by
 rcases h with(h|⟨o,h⟩)|h
 .exact .inl (.inl (e _ _ h))
 .exact .inl (.inr ⟨o,e _ _ h⟩)
 exact .inr h
mutual
theorem Rep.mono(f:∀a Y,Y0 K H a Y->Y0 K H' a Y)(b:∀a Y,¬O a->P4 K H a Y->¬g a/\P4 K H' a Y)(e:∀a φ,¬O a->H a=some (.ext φ)->¬g a/\H' a=some (.ext φ)):∀{v:V}{d:D},Rep K H O v d->Rep K H' g v d
 |_,_,.non=>.non
 |_,_,.bl=>.bl
 |_,_,.int=>.int
 |_,_,.str=>.str
 |_,_,.tup h r=>.tup (f _ _ h) (Reps.mono f b e r)
 |_,_,.lst h n r=>.lst (b _ _ n h).2 (b _ _ n h).1 (Reps.mono f b e r)
 |_,_,.dct h x n=>.dct (e _ _ n h).2 x (e _ _ n h).1
theorem Reps.mono(b:∀a Y,Y0 K H a Y->Y0 K H' a Y)(d:∀a Y,¬O a->P4 K H a Y->¬e a/\P4 K H' a Y)(f:∀a φ,¬O a->H a=some (.ext φ)->¬e a/\H' a=some (.ext φ)):∀{L:List V}{ds:List D},Reps K H O L ds->Reps K H' e L ds
 |_,_,.nil=>.nil
 |_,_,.cons h t=>.cons (Rep.mono b d f h) (Reps.mono b d f t)
end
def Rep.same(e:Same H H')(r:Rep K H O v d):Rep K H' O v d:=r.mono (λ_ _ h=>e.tup h) (λ_ _ n h=>⟨n,e.seq h⟩) λ_ _ n h=>⟨n,e _ _ h⟩
def Reps.same(e:Same H H')(r:Reps K H O v d):Reps K H' O v d:=r.mono (λ_ _ h=>e.tup h) (λ_ _ n h=>⟨n,e.seq h⟩) λ_ _ n h=>⟨n,e _ _ h⟩
def Rep.sub(e:∀a,b a->O a)(r:Rep K H O v d):Rep K H b v d:=r.mono (λ_ _ h=>h) (λ_ _ n h=>⟨λz=>n (e _ z),h⟩) λ_ _ n h=>⟨λz=>n (e _ z),h⟩
def Reps.sub(e:∀a,b a->O a)(r:Reps K H O v d):Reps K H b v d:=r.mono (λ_ _ h=>h) (λ_ _ n h=>⟨λz=>n (e _ z),h⟩) λ_ _ n h=>⟨λz=>n (e _ z),h⟩
theorem Reps.length:∀{L:List V}{ds:List D},Reps K H O L ds->L.length=ds.length
 |_,_,.nil=>rfl
 |_,_,.cons _ t=>by simp[Reps.length t]
theorem Reps.get:∀{L:List V}{ds:List D}{i:Nat}{d:D},Reps K H O L ds->ds[i]?=some d->∃v,L[i]?=some v/\Rep K H O v d
 |_,_,_,_,.nil,e=>by simp at e
 |_,_,0,_,.cons r _,e=>by simp at e;subst e;exact⟨_,rfl,r⟩
 |_,_,i+1,d,.cons _ t,e=>by obtain⟨u,a,b⟩:=Reps.get (i:=i) (d:=d) t (by simpa using e);exact⟨u,by simpa using a,b⟩
theorem Reps.append:∀{L ws:List V}{ds es:List D},Reps K H O L ds->Reps K H O ws es->Reps K H O (L++ws) (ds++es)
 |_,_,_,_,.nil,s=>s
 |_,_,_,_,.cons r t,s=>.cons r (Reps.append t s)
theorem Reps.take:∀{L:List V}{ds:List D} (n:Nat),Reps K H O L ds->Reps K H O (L.take n) (ds.take n)
 |_,_,0,_=>.nil
 |_,_,_+1,.nil=>.nil
 |_,_,n+1,.cons r t=>.cons r (Reps.take n t)
theorem Reps.drop:∀{L:List V}{ds:List D} (n:Nat),Reps K H O L ds->Reps K H O (L.drop n) (ds.drop n)
 |_,_,0,r=>r
 |_,_,_+1,.nil=>.nil
 |_,_,n+1,.cons _ t=>Reps.drop n t
theorem Reps.set(r:Rep K H O v d):∀{L:List V}{ds:List D} (i:Nat),Reps K H O L ds->Reps K H O (L.set i v) (ds.set i d)
 |_,_,_,.nil=>.nil
 |_,_,0,.cons _ t=>.cons r t
 |_,_,i+1,.cons q t=>.cons q (Reps.set r i t)
def Reps.dropLast(r:Reps K H O L ds):Reps K H O L.dropLast ds.dropLast:=by rw[aEk,aEk,r.length];exact r.take _
def Reps.snoc(r:Reps K H O L ds)(h:Rep K H O v d):Reps K H O (L++[v]) (ds++[d]):=r.append (.cons h .nil)
theorem Reps.ints:∀(ns:List Int),Reps K H O (ns.map V.int) (ns.map D.int)
 |[]=>.nil
 |_::ns=>.cons .int (Reps.ints ns)
theorem Reps.reverse:∀{L:List V}{ds:List D},Reps K H O L ds->Reps K H O L.reverse ds.reverse
 |_,_,.nil=>.nil
 |_,_,.cons r t=>by rw[aAP,aAP];exact(Reps.reverse t).snoc r
end
def Kp(H:Hp)(O:bc->Prop)(H':Hp)(a:bc->Prop):Prop:=∀b o,H b=some o->¬O b->H' b=some o/\¬a b
section
def Kp.refl(H:Hp)(O:bc->Prop):Kp H O H O:=λ_ _ h n=>⟨h,n⟩
def Kp.of(s:Same H H'):Kp H O H' O:=λb o h n=>⟨s b o h,n⟩
def Kp.trans(a:Kp H O H' f)(b:Kp H' f d e):Kp H O d e:=λc o h n=>let⟨g,i⟩:=a c o h n;b c o g i
end
class Tabs where
 tbs:List (Addr×List (Pos×Str))
inductive Sl where
 |no|v (d:D)|o (Y:List D)|x (C:Value)|c (m:List D->R D) (φ:Hp->(Addr->Prop)->Addr->Prop)|d (N:List (D×D))
abbrev Ev:=List Sl
def Mt:HO->Prop
 |.lst _=>True
 |.dK _=>True
 |.dT _=>True
 |.ext _=>True
 |_=>False
def oZ(K:ix)(H:Hp)(O:bc->Prop)(es:List DictEntry)(N:List (D×D)):Prop:=
 Paired (λ(e:DictEntry) (p:D×D)=>(∃a,e.key=.ref a/\Rep K H O (.ref a) p.1)/\(∃v,RelV v e.val/\Rep K H O v p.2)/\e.hash=m9 p.1/\T1 7 p.1=true) es N
def NS(a:bc)(o:Obj)(es:List DictEntry):Prop:=(a==sysModules)=false/\o.ExactDict/\∃b d,o.data=.dict b d/\b.toList=es
def KQ:Sl->Prop
 |.o _=>True
 |.d _=>True
 |_=>False
section
variable(K:ix) (H9 H:Hp) (O:bc->Prop)
def gR(x:Option (Option V)):Sl->Prop
 |.no=>True
 |.v d=>∃v,x=some (some v)/\Rep K H O v d
 |.o Y=>∃a L,x=some (some (V.ref a))/\O a/\H9 a=none/\H a=some (.lst L)/\Reps K H O L Y
 |.x C=>∃a o,x=some (some (V.ref a))/\H a=some (.frz o (.own a))/\o.cls=C
 |.c m φ=>∃a,x=some (some (V.ref a))/\∀b e,Kp H O b e->φ b e a
 |.d N=>∃a o f,x=some (some (V.ref a))/\O a/\H9 a=none/\H a=some (.ext λh=>h.get? a=some o)/\NS a o f/\oZ K H O f N/\(N.map (·.1)).Nodup
end
variable [Tabs]
def Tb(H:Hp):Prop:=∀p∈Tabs.tbs,H p.1=some (.tbl p.2)
structure EnvOk(K:PySem.W.Frag)(H9:Hp)(O0:Addr->Prop)(H:Hp)(O:Addr->Prop)(σ:St)(ρ:Ev):Prop where
 len:σ.length=ρ.length
 same:Same H9 H
 sub:∀a,O0 a->O a
 trk:∀a,O a->∃o,H a=some o/\Mt o
 trk0:∀a,O0 a->∃o,H9 a=some o
 tab:Tb H
 slot:∀(i:Nat) (sl:Sl),ρ[i]?=some sl->gR K H9 H O σ[i]? sl
 inj:∀(i j:Nat) (x y:Sl) (a:Addr),ρ[i]?=some x->ρ[j]?=some y->KQ x->KQ y->σ[i]?=some (some (V.ref a))->σ[j]?=some (some (V.ref a))->i=j
section
variable{K:ix}{O0 O O':bc->Prop}
def Tb.same(h:Tb H)(s:Same H H'):Tb H':=λp a=>s _ _ (h p a)
def EnvOk.val(E:EnvOk K a O0 H O σ ρ)(i:Nat)(d:D)(h:ρ[i]?=some (Sl.v d)):∃v,σ[i]?=some (some v)/\Rep K H O v d:=E.slot i _ h
def EnvOk.own(E:EnvOk K b O0 H O σ ρ)(i:Nat)(Y:List D)(h:ρ[i]?=some (Sl.o Y)):∃a L,σ[i]?=some (some (V.ref a))/\O a/\b a=none/\H a=some (.lst L)/\Reps K H O L Y:=E.slot i _ h
def oZ.mono(f:∀{v:V}{d:D},Rep K H O v d->Rep K H' O' v d):∀{N:List (D×D)},oZ K H O es N->oZ K H' O' es N:=λ{_} r=>Paired.af5 r λ_ _ ⟨⟨v,a,b⟩,⟨w,e,g⟩,h⟩=>⟨⟨v,a,f b⟩,⟨w,e,f g⟩,h⟩
def gR.move(h:gR K y H O x sl)(i:∀a Y,Y0 K H a Y->Y0 K H' a Y)(j:∀a Y,¬O a->P4 K H a Y->¬O' a/\P4 K H' a Y)(z:∀a o u,H a=some (.frz o u)->H' a=some (.frz o u))(l:Kp H O H' O')(w:KQ sl->∀a o,x=some (some (V.ref a))->O a->H a=some o->O' a/\H' a=some o):gR K y H' O' x sl:=by
 have p:∀a φ,¬O a->H a=some (.ext φ)->¬O' a/\H' a=some (.ext φ):=λa φ n h=>⟨(l a _ h n).2,(l a _ h n).1⟩;cases sl with
 |no=>trivial
 |v d=>obtain⟨v,b,e⟩:=h;exact⟨v,b,e.mono i j p⟩
 |o Y=>obtain⟨a,L,b,e,f,q,s⟩:=h;obtain⟨g,t⟩:=w trivial a _ b e q;exact⟨a,L,b,g,f,t,s.mono i j p⟩
 |x C=>obtain⟨a,o,b,e,f⟩:=h;exact⟨a,o,b,z _ _ _ e,f⟩
 |c m φ=>obtain⟨a,b,e⟩:=h;exact⟨a,b,λA B k=>e A B (l.trans k)⟩
 |d N=>obtain⟨a,o,E,b,e,f,q,s,g⟩:=h;obtain⟨t,I⟩:=w trivial a _ b e q;exact⟨a,o,E,b,t,f,I,s,g.1.mono λr=>r.mono i j p,g.2⟩
def gR.grow(h:gR K a H O x sl)(e:Same H H'):gR K a H' O x sl:=
 h.move (λ_ _ q=>e.tup q) (λ_ _ n q=>⟨n,e.seq q⟩) (λ_ _ _ q=>e _ _ q) (Kp.of e) λ_ _ _ _ b d=>⟨b,e _ _ d⟩
def EnvOk.grow(E:EnvOk K b O0 H O σ ρ)(e:Same H H'):EnvOk K b O0 H' O σ ρ where
 len:=E.len
 same:=E.same.trans e
 sub:=E.sub
 trk:=λa h=>let⟨o,q,m⟩:=E.trk a h;⟨o,e a o q,m⟩
 trk0:=E.trk0
 tab:=E.tab.same e
 slot:=λi d h=>(E.slot i d h).grow e
 inj:=E.inj
def EnvOk.fresh(E:EnvOk K a O0 H O σ ρ)(h:H p=none):¬O p:=λz=>by obtain⟨o,q,_⟩:=E.trk p z;rw[h]at q;cases q
def v6{α:Type}{l:List α}{i j:Nat}{x:α}(h:i≠j):(l.set i x)[j]?=l[j]?:=aCA h
def C0{α:Type}{l:List α}{i:Nat}{x y:α}(h:(l.set i x)[i]?=some y):y=x/\i<l.length:=by
 have a:i<l.length:=by have:=(aAC.mp h).1;simpa using this
 rw[aBJ a]at h;exact⟨(Option.some.inj h).symm,a⟩
def EnvOk.put(E:EnvOk K f O0 H O σ ρ){v:Option V}{sl:Sl}(i:Nat)(no:¬KQ sl)(r:gR K f H O (some v) sl):EnvOk K f O0 H O (σ.set i v) (ρ.set i sl)where
 len:=by simpa using E.len
 same:=E.same
 sub:=E.sub
 trk:=E.trk
 trk0:=E.trk0
 tab:=E.tab
 slot:=λj s h=>by
  by_cases g:i=j
  .subst g;obtain⟨e,u⟩:=C0 h;subst e;rw[aBJ (by rw[E.len];exact u)];exact r
  rw[v6 g]at h⊢;exact E.slot j s h
 inj:=λj k x y a b d m n p t=>by
  have ne:∀(l:Nat) (z:Sl),(ρ.set i sl)[l]?=some z->KQ z->i≠l:=λl z q o e=>by subst e;obtain⟨e,_⟩:=C0 q;subst e;exact no o
  have w:=ne j x b m;have A:=ne k y d n;rw[v6 w]at b p;rw[v6 A]at d t;exact E.inj j k x y a b d m n p t
def EnvOk.set(E:EnvOk K a O0 H O σ ρ)(i:Nat)(r:Rep K H O v d):EnvOk K a O0 H O (σ.set i (some v)) (ρ.set i (.v d)):=E.put i (λz=>z) ⟨v,rfl,r⟩
def gR.at_(h:gR K i H O x sl)(o:KQ sl):∃a u,x=some (some (V.ref a))/\O a/\i a=none/\H a=some u/\Mt u:=by
 cases sl with
 |o Y=>obtain⟨a,L,b,e,f,g,_⟩:=h;exact⟨a,_,b,e,f,g,trivial⟩
 |d N=>obtain⟨a,u,j,b,e,f,g,_⟩:=h;exact⟨a,_,b,e,f,g,trivial⟩
 |_=>exact o.elim
def EnvOk.af0(E:EnvOk K t O0 H O σ ρ){a:bc}{sl:Sl}(i:Nat)(u:∀(j:Nat) (y:Sl),i≠j->ρ[j]?=some y->KQ y->σ[j]?≠some (some (V.ref a)))(r:gR K t H O (some (some (V.ref a))) sl):
  EnvOk K t O0 H O (σ.set i (some (V.ref a))) (ρ.set i sl)where
 len:=by simpa using E.len
 same:=E.same
 sub:=E.sub
 trk:=E.trk
 trk0:=E.trk0
 tab:=E.tab
 slot:=λj s h=>by
  by_cases d:i=j
  .subst d;obtain⟨e,z⟩:=C0 h;subst e;rw[aBJ (by rw[E.len];exact z)];exact r
  rw[v6 d]at h⊢;exact E.slot j s h
 inj:=λj k x y b n o v w g m=>by
  have at_:∀(l:Nat),i=l->(σ.set i<|some<|V.ref a)[l]?=some (some<|V.ref b)->b=a:=λl e q=>by subst e;obtain⟨e,_⟩:=C0 q;injection e with e;injection e
  by_cases d:i=j
  .by_cases f:i=k
   .exact d.symm.trans f
   exfalso;have p:=at_ j d g;subst p;rw[v6 f]at o m;exact u k y f o w m
  by_cases f:i=k
  .exfalso;have p:=at_ k f m;subst p;rw[v6 d]at n g;exact u j x d n v g
  rw[v6 d]at n g;rw[v6 f]at o m;exact E.inj j k x y b n o v w g m
def k9(h:H p=none)(o:HO):Same H (upd H p o):=λb u q=>by rw[l5 (n8 q h)];exact q
def EnvOk.ab7(E:EnvOk K f O0 H O σ ρ)(h:H a=none)(g:K.lookup a=none)(m:Mt u):EnvOk K f O0 (upd H a u) (λb=>O b\/b=a) σ ρ:=by
 have s:=k9 h u;have ne:∀b Y,P4 K H b Y->b≠a:=λb Y q z=>by
  subst z;rcases q with(q|⟨o,q⟩)|⟨o,_,_,q,_⟩
  .rw[h]at q;cases q
  .rw[h]at q;cases q
  rw[g]at q;cases q
 refine⟨E.len,E.same.trans s,λb z=>.inl (E.sub b z),λb z=>?_,E.trk0,E.tab.same s,λi j e=>?_,E.inj⟩
 .rcases z with z|z
  .obtain⟨o,q,m⟩:=E.trk b z;exact⟨o,s b o q,m⟩
  subst z;exact⟨_,j2,m⟩
 exact(E.slot i j e).move (λ_ _ q=>s.tup q) (λb Y n q=>⟨λz=>z.elim n (ne b Y q),s.seq q⟩) (λ_ _ _ q=>s _ _ q) (λb o d n=>⟨s b o d,λz=>z.elim n λe=>by subst e;rw[h]at d;cases d⟩) λ_ b o _ k l=>⟨.inl k,s _ _ l⟩
def mw(h:H a=none)(d:K.lookup a=none)(q:P4 K H b Y):b≠a:=λz=>by
 subst z;rcases q with(q|⟨o,q⟩)|⟨o,_,_,q,_⟩
 .rw[h]at q;cases q
 .rw[h]at q;cases q
 rw[d]at q;cases q
def Reps.ab7(h:H a=none)(e:K.lookup a=none)(r:Reps K H O v d):Reps K (upd H a u) (λb=>O b\/b=a) v d:=
 r.mono (λ_ _ q=>(k9 h u).tup q) (λb Y n q=>⟨λz=>z.elim n (mw h e q),(k9 h u).seq q⟩) λb φ n q=>⟨λz=>z.elim n (n8 q h),k9 h u _ _ q⟩
def EnvOk.ae0(E:EnvOk K f O0 H O σ ρ)(i:Nat)(h:H a=none)(k:K.lookup a=none)(m:Mt u)(r:f a=none->gR K f (upd H a u) (λb=>O b\/b=a) (some (some (V.ref a))) sl):
  EnvOk K f O0 (upd H a u) (λb=>O b\/b=a) (σ.set i (some (.ref a))) (ρ.set i sl):=by
 have l:f a=none:=by
  cases e:f a with
  |none=>rfl
  |some o=>have:=E.same a o e;rw[h]at this;cases this
 refine(E.ab7 h k m).af0 i (λj y _ e o q=>?_) (r l);obtain⟨b,w,d,_,_,g,_⟩:=(E.slot j y e).at_ o;rw[q]at d;injection d with d;injection d with d;injection d with d;subst d;rw[h]at g;cases g
def xS(h:H a=some u)(m:Mt u)(q:Y0 K H b Y):Y0 K (upd H a u') b Y:=by
 have ne:∀w,H b=some w->¬Mt w->b≠a:=λw e n z=>by subst z;rw[h]at e;cases e;exact n m
 rcases q with(q|⟨o,q⟩)|q
 .exact .inl (.inl (by rw[l5 (ne _ q λz=>z)];exact q))
 .exact .inl (.inr ⟨o,by rw[l5 (ne _ q λz=>z)];exact q⟩)
 exact .inr q
def xG(d:O a)(n:¬O b)(q:P4 K H b Y):P4 K (upd H a u') b Y:=by
 have ne:b≠a:=λz=>by subst z;exact n d
 rcases q with(q|⟨o,q⟩)|q
 .exact .inl (.inl (by rw[l5 ne];exact q))
 .exact .inl (.inr ⟨o,by rw[l5 ne];exact q⟩)
 exact .inr q
def Rep.upd(h:H a=some u)(m:Mt u)(e:O a)(r:Rep K H O v d):Rep K (upd H a u') O v d:=r.mono (λ_ _ q=>xS h m q) (λ_ _ n q=>⟨n,xG e n q⟩) λb _ n q=>⟨n,by rw[l5 (λz=>n (by rw[z];exact e))];exact q⟩
def Reps.upd(h:H a=some u)(m:Mt u)(e:O a)(r:Reps K H O v d):Reps K (upd H a u') O v d:=r.mono (λ_ _ q=>xS h m q) (λ_ _ n q=>⟨n,xG e n q⟩) λb _ n q=>⟨n,by rw[l5 (λz=>n (by rw[z];exact e))];exact q⟩
def EnvOk.ae4{i:Nat}{sl sl':Sl}{a:bc}{u u':HO}(E:EnvOk K t O0 H O σ ρ)(e:ρ[i]?=some sl)(v:KQ sl)(A:σ[i]?=some (some (V.ref a)))(B:H a=some u)(m':Mt u')(ow':KQ sl')
  (r:O a->t a=none->Mt u->gR K t (upd H a u') O (some (some (V.ref a))) sl'):EnvOk K t O0 (upd H a u') O σ (ρ.set i sl')/\Kp H O (upd H a u') O:=by
 obtain⟨b,w,d,C,U,Y,m⟩:=(E.slot i sl e).at_ v;rw[A]at d;injection d with d;injection d with d;injection d with d;subst d;rw[B]at Y;cases Y;have kp:Kp H O (upd H a u') O:=λb o g n=>⟨by rw[l5 (λz=>by subst z;exact n C)];exact g,n⟩;have nf:∀b w,H b=some w->¬Mt w->upd H a u' b=some w:=λb w q n=>by rw[l5 (λz=>by subst z;rw[B]at q;cases q;exact n m)];exact q
 refine⟨⟨by simpa using E.len,λb o q=>?_,E.sub,λb z=>?_,E.trk0,λp hp=>nf _ _ (E.tab p hp) λz=>z,λj s h=>?_,λj k x y b I J o1 o2 L q4=>?_⟩,kp⟩
 .rw[l5 (λz=>by subst z;rw[U]at q;cases q)];exact E.same b o q
 .by_cases g:b=a
  .subst g;exact⟨_,j2,m'⟩
  obtain⟨o,q,m⟩:=E.trk b z;exact⟨o,by rw[l5 g];exact q,m⟩
 .by_cases N:i=j
  .subst N;obtain⟨e',_⟩:=C0 h;subst e';rw[A];exact r C U m
  rw[v6 N]at h;refine(E.slot j s h).move (λ_ _ q=>xS B m q) (λ_ _ n q=>⟨n,xG C n q⟩) (λb o w q=>nf _ _ q λz=>z) kp λo b w I J L=>⟨J,?_⟩;rw[l5 (λz=>by subst z;exact N (E.inj i j sl s b e h v o A I))];exact L
 have f:∀l z,(ρ.set i sl')[l]?=some z->KQ z->∃z',ρ[l]?=some z'/\KQ z':=λl z q o=>by
  by_cases hl:i=l
  .subst hl;exact⟨sl,e,v⟩
  rw[v6 hl]at q;exact⟨z,q,o⟩
 obtain⟨x',u1,Q⟩:=f j x I o1;obtain⟨y',u2,T⟩:=f k y J o2;exact E.inj j k x' y' b u1 u2 Q T L q4
def EnvOk.ae8{i:Nat}{sl sl':Sl}{a:bc}(E:EnvOk K v O0 H O σ ρ)(e:ρ[i]?=some sl)(A:KQ sl)(p:σ[i]?=some (some (V.ref a)))(no:¬KQ sl')(r:gR K v H (λb=>O b/\b≠a) (some (some (V.ref a))) sl'):
  EnvOk K v O0 H (λb=>O b/\b≠a) σ (ρ.set i sl'):=by
 obtain⟨b,w,d,T,I,U,m⟩:=(E.slot i sl e).at_ A;rw[p]at d;injection d with d;injection d with d;injection d with d;subst d;have sub:∀b,(O b/\b≠a)->O b:=λb z=>z.1;refine⟨by simpa using E.len,E.same,λb z=>⟨E.sub b z,λq=>?_⟩,λb z=>E.trk b z.1,E.trk0,E.tab,λj s h=>?_,λj k x y b f g B C t J=>?_⟩
 .subst q;obtain⟨o,q⟩:=E.trk0 b z;rw[I]at q;cases q
 .by_cases u:i=j
  .subst u;obtain⟨l,_⟩:=C0 h;subst l;rw[p];exact r
  rw[v6 u]at h;refine(E.slot j s h).move (λ_ _ q=>q) (λ_ _ n q=>⟨λz=>n z.1,q⟩) (λ_ _ _ q=>q) (λb o L n=>⟨L,λz=>n z.1⟩) λo b w f g t=>⟨⟨g,λz=>?_⟩,t⟩;subst z;exact u (E.inj i j sl s b e h A o p f)
 have N:i≠j:=λz=>by subst z;obtain⟨l,_⟩:=C0 f;subst l;exact no B
 have Q:i≠k:=λz=>by subst z;obtain⟨l,_⟩:=C0 g;subst l;exact no C
 rw[v6 N]at f;rw[v6 Q]at g;exact E.inj j k x y b f g B C t J
end
def XW(X:Cx)(e:Str)(H:Hp):Prop:=False
def RC(X:Cx)(H:Hp)(O:bc->Prop)(r:R D)(Q:VK):Prop:=match r with
 |.ok d=>∀v a,Same H a->Rep X.K a O v d->Q v a
 |.ex e=>∀a,Same H a->XW X e a
 |.bad=>False
def B4(K:ix)(H:Hp)(O:bc->Prop)(v:V)(d:D):Prop:=Rep K H O v d\/∃a L b,v=.ref a/\d=.lst b/\P4 K H a L/\Reps K H O L b
def RN(X:Cx)(H:Hp)(O:bc->Prop)(r:R D)(Q:VK):Prop:=match r with
 |.ok d=>∀v a,Same H a->B4 X.K a O v d->Q v a
 |.ex e=>∀a,Same H a->XW X e a
 |.bad=>False
def uW(X:Cx)(H:Hp)(r:R Bool)(Q:Bool->Hp->Prop):Prop:=match r with
 |.ok b=>∀a,Same H a->Q b a
 |.ex e=>∀a,Same H a->XW X e a
 |.bad=>False
def LV(X:Cx)(H:Hp)(O:bc->Prop)(r:R (List D))(Q:List V->Hp->Prop):Prop:=match r with
 |.ok b=>∀L a,Same H a->Reps X.K a O L b->Q L a
 |.ex e=>∀a,Same H a->XW X e a
 |.bad=>False
def PV(X:Cx)(H:Hp)(O:bc->Prop)(r:R (List D))(Q:List V->Hp->Prop):Prop:=match r with
 |.ok b=>∀L a,Same H a->Paired (B4 X.K a O) L b->Q L a
 |.ex e=>∀a,Same H a->XW X e a
 |.bad=>False
def tD(X:Cx)(f:Ev->R D):TE:=λσ H Q=>∃a b O ρ,EnvOk X.K a b H O σ ρ/\RC X H O (f ρ) Q
def tDB(X:Cx)(f:Ev->R D):TE:=λσ H Q=>∃a b O ρ,EnvOk X.K a b H O σ ρ/\RN X H O (f ρ) Q
def tDT(X:Cx)(f:Ev->R Bool):TT:=λσ H Q=>∃a b O ρ,EnvOk X.K a b H O σ ρ/\uW X H (f ρ) Q
def tDs(X:Cx)(f:Ev->R (List D)):TA:=λσ H Q=>∃a b O ρ,EnvOk X.K a b H O σ ρ/\LV X H O (f ρ) Q
def a4l(X:Cx)(f:Ev->R (List D)):TA:=λσ H Q=>∃a b O ρ,EnvOk X.K a b H O σ ρ/\PV X H O (f ρ) Q
def PD(X:Cx)(e:cu)(f:Ev->R D):Prop:=PE X e (tD X f)
def PB(X:Cx)(e:cu)(f:Ev->R D):Prop:=PE X e (tDB X f)
def zE(X:Cx)(e:cu)(f:Ev->R Bool):Prop:=PT X e (tDT X f)
def MF(X:Cx)(es:List cu)(f:Ev->R (List D)):Prop:=PA X es (tDs X f)
def tq(X:Cx)(es:List cu)(f:Ev->R (List D)):Prop:=PA X es (a4l X f)
def ME{r:Hp->(bc->Prop)->Ev->VK->Prop}(h:PE X e t)(i:∀σ H Q a b O ρ,EnvOk X.K a b H O σ ρ->r H O ρ Q->t σ H Q):PE X e λσ H Q=>∃a b O ρ,EnvOk X.K a b H O σ ρ/\r H O ρ Q:=λd s σ H Q I q=>h d s σ H Q I (let⟨a,b,O,ρ,E,q⟩:=q;i σ H Q a b O ρ E q)
def ptI{r:Hp->(bc->Prop)->Ev->(Bool->Hp->Prop)->Prop}(h:PT X e t)(i:∀σ H Q a b O ρ,EnvOk X.K a b H O σ ρ->r H O ρ Q->t σ H Q):PT X e λσ H Q=>∃a b O ρ,EnvOk X.K a b H O σ ρ/\r H O ρ Q:=λd s σ H Q I q=>h d s σ H Q I (let⟨a,b,O,ρ,E,q⟩:=q;i σ H Q a b O ρ E q)
def paI{r:Hp->(bc->Prop)->Ev->(List V->Hp->Prop)->Prop}(h:PA X es t)(i:∀σ H Q a b O ρ,EnvOk X.K a b H O σ ρ->r H O ρ Q->t σ H Q):PA X es λσ H Q=>∃a b O ρ,EnvOk X.K a b H O σ ρ/\r H O ρ Q:=λe d s σ H Q I q=>h e d s σ H Q I (let⟨a,b,O,ρ,E,q⟩:=q;i σ H Q a b O ρ E q)
def uR{β:Type}{r:Hp->(bc->Prop)->Ev->β->Prop}{G:List (bc×Obj)->ba->St->Hp->β->Prop}(h:∀a s σ H Q,Inv X a σ H s->∀b d O ρ,EnvOk X.K b d H O σ ρ->r H O ρ Q->G a s σ H Q)(a s σ H Q)(I:Inv X a σ H s)(q:∃b d O ρ,EnvOk X.K b d H O σ ρ/\r H O ρ Q):G a s σ H Q:=let⟨b,d,O,ρ,E,q⟩:=q;h a s σ H Q I b d O ρ E q
def PD.pb(h:PD X e f):PB X e f:=ME h λσ H Q a b O ρ E q=>⟨a,b,O,ρ,E,by
 unfold RC RN at*
 cases e:f ρ with
 |ok d=>rw[e]at q;exactλv g s r=>q v g s (.inl r)
 |ex x=>rw[e]at q;exact q
 |bad=>rw[e]at q;exact q⟩
def RC.seq{O:bc->Prop}(h:RC X H O (r.bind g) Q):
  RC X H O r λv b=>∃d,r=.ok d/\Same H b/\Rep X.K b O v d/\RC X b O (g d) Q:=by
 cases r with
 |ok d=>
  intro v b f k;refine⟨d,rfl,f,k,?_⟩;have a:RC X H O (g d) Q:=h;cases e:g d with
  |ok m=>rw[e]at a;exactλw i j l=>a w i (f.trans j) l
  |ex x=>rw[e]at a;exactλi j=>a i (f.trans j)
  |bad=>rw[e]at a;exact a
 |ex x=>exact h
 |bad=>exact h
def RN.seq{O:bc->Prop}(h:RC X H O (r.bind g) Q):
  RN X H O r λv b=>∃d,r=.ok d/\Same H b/\B4 X.K b O v d/\RC X b O (g d) Q:=by
 cases r with
 |ok d=>
  intro v b f k;refine⟨d,rfl,f,k,?_⟩;have a:RC X H O (g d) Q:=h;cases e:g d with
  |ok m=>rw[e]at a;exactλw i j l=>a w i (f.trans j) l
  |ex x=>rw[e]at a;exactλi j=>a i (f.trans j)
  |bad=>rw[e]at a;exact a
 |ex x=>exact h
 |bad=>exact h
def RC.grow{O:bc->Prop}(h:RC X H O r Q)(e:Same H f):RC X f O r Q:=by
 cases r with
 |ok d=>exactλw a b g=>h w a (e.trans b) g
 |ex x=>exactλa b=>h a (e.trans b)
 |bad=>exact h
end
section
variable [Tabs]
section
variable{X:Cx}
def B4.same(e:Same H H')(r:B4 X.K H O v d):B4 X.K H' O v d:=by
 rcases r with r|⟨a,L,b,f,g,h,i⟩
 .exact .inl (r.same e)
 exact .inr ⟨a,L,b,f,g,e.seq h,i.same e⟩
def B4.aa5{K:ix}{ds:List D}(r:B4 K H O v (.lst ds)):∃a L,v=.ref a/\P4 K H a L/\Reps K H O L ds:=by
 rcases r with r|⟨a,L,g,d,b,e,f⟩
 .cases r with|lst h n r=>exact⟨_,_,rfl,h,r⟩
 injection b with b;subst b;exact⟨a,L,d,e,f⟩
def B4.af8{K:ix}(r:B4 K H O v .dct):∃a o,v=.ref a/\H a=some (.ext λh=>h.get? a=some o)/\o.ExactDict:=by
 rcases r with r|⟨a,L,d,e,b,f,g⟩
 .cases r with|dct h x n=>exact⟨_,_,rfl,h,x⟩
 cases b
def B4.tupI{K:ix}{ds:List D}(r:B4 K H O v (.tup ds)):∃a L,v=.ref a/\Y0 K H a L/\Reps K H O L ds:=by
 rcases r with r|⟨a,L,d,e,b,f,g⟩
 .cases r with|tup h r=>exact⟨_,_,rfl,h,r⟩
 cases b
def B4.aa6{K:ix}{i:Int}(r:B4 K H O v (.int i)):v=.int i:=by
 rcases r with r|⟨a,L,d,e,b,f,g⟩
 .cases r;rfl
 cases b
def B4.blI{K:ix}{i:Bool}(r:B4 K H O v (.bl i)):v=.bl i:=by
 rcases r with r|⟨a,L,d,e,b,f,g⟩
 .cases r;rfl
 cases b
def B4.ac0{K:ix}(r:B4 K H O v .non):v=.non:=by
 rcases r with r|⟨a,L,d,e,b,f,g⟩
 .cases r;rfl
 cases b
def B4.ac4{K:ix}{i:Str}(r:B4 K H O v (.str i)):v=.str i:=by
 rcases r with r|⟨a,L,d,e,b,f,g⟩
 .cases r;rfl
 cases b
end
def eN(i:Nat)(ρ:Ev):R D:=match ρ[i]? with
 |some (.v d)=>.ok d
 |_=>.bad
def AA(i:Nat)(ρ:Ev):R D:=match ρ[i]? with
 |some (.v d)=>.ok d
 |some (.o Y)=>.ok (.lst Y)
 |_=>.bad
section
def d5(i:Nat)(a:X.N[i]?=some x:=by rfl)(b:AH X.env.scope x:=by first|exact aCB rfl|exact aBM (aCB rfl)|exact aBM (aBM rfl))(f:(x==ja)=false:=by decide)(g:(x==ka)=false:=by decide):PD X (.Name x h) (eN i):=ME (O8 a b f g) λσ H Q n p O ρ E q=>by
 unfold eN at q;cases e:ρ[i]? with
 |none=>rw[e]at q;exact q.elim
 |some j=>
  rw[e]at q;cases j with
  |no=>exact q.elim
  |x C=>exact q.elim
  |c m φ=>exact q.elim
  |d N=>exact q.elim
  |o Y=>exact q.elim
  |v d=>obtain⟨v,k,l⟩:=E.val i d e;exact⟨v,k,q v H (Same.refl H) l⟩
def b8(i:Nat)(g:X.N[i]?=some x:=by rfl)(h:AH X.env.scope x:=by first|exact aCB rfl|exact aBM (aCB rfl)|exact aBM (aBM rfl))(j:(x==ja)=false:=by decide)(k:(x==ka)=false:=by decide):PB X (.Name x l) (AA i):=ME (O8 g h j k) λσ H Q s t O ρ E q=>by
 unfold AA at q;cases e:ρ[i]? with
 |none=>rw[e]at q;exact q.elim
 |some n=>
  rw[e]at q;cases n with
  |no=>exact q.elim
  |x C=>exact q.elim
  |c m φ=>exact q.elim
  |d N=>exact q.elim
  |o Y=>obtain⟨a,L,b,f,u,p,r⟩:=E.own i Y e;exact⟨_,b,q _ H (Same.refl H) (.inr ⟨a,L,Y,rfl,rfl,P4.of p,r⟩)⟩
  |v d=>obtain⟨v,b,f⟩:=E.val i d e;exact⟨v,b,q v H (Same.refl H) (.inl f)⟩
def ZA(d:D)(_:Ev):R D:=.ok d
def wK(h:PE X e (tC v))(r:∀H O,Rep X.K H O v d):PD X e (ZA d):=ME h λσ H Q a b O ρ E q=>q v H (Same.refl H) (r H O)
def c9{j a}:PD X (.Constant (.int i) j a) (ZA (.int i)):=wK CP λ_ _=>.int
def qQ{j a}:PD X (.Constant (.bool i) j a) (ZA (.bl i)):=wK a0t λ_ _=>.bl
def DW{j a}:PD X (.Constant .none j a) (ZA .non):=wK iz λ_ _=>.non
def mV(X:Cx)(f:au->au->Sem au)(g:D->D->R D):Prop:=
 ∀(H:Hp) (O:bc->Prop) (x y:V) (a b:D) (Q:VK),(∀p,H p=none->¬O p)->B4 X.K H O x a->B4 X.K H O y b->RC X H O (g a b) Q->∃r,jH X f r/\r x y H Q
def a4w(X:Cx)(O:bc->Prop)(g:D->D->R D)(Q:VK):V->V->Hp->Prop:=λx y H=>∃a b,(∀p,H p=none->¬O p)/\B4 X.K H O x a/\B4 X.K H O y b/\RC X H O (g a b) Q
def nZ{f O:bc->Prop}(E:EnvOk X.K k f H O σ ρ)(q:RC X H O ((l ρ).bind λx=>(m ρ).bind λy=>g x y) Q):
  tDB X l σ H λx h=>tDB X m σ h λy i=>a4w X O g Q x y i:=by
 refine⟨k,f,O,ρ,E,?_⟩;have a:=RN.seq q;revert a;cases C:l ρ with
 |ok s=>
  intro a x h n t;obtain⟨d,e,_,r,u⟩:=a x h n t;cases e;have o:=E.grow n;refine⟨k,f,O,ρ,o,?_⟩;have b:=RN.seq u;revert b;cases I:m ρ with
  |ok v=>intro b y i j w;obtain⟨J,e,_,z,A⟩:=b y i j w;cases e;exact⟨s,v,λp B=>(o.grow j).fresh B,r.same j,z,A⟩
  |ex x=>intro b;exact b
  |bad=>intro b;exact b
 |ex x=>intro a;exact a
 |bad=>intro a;exact a
def b9(f:mV X (ee op) g)(i:PB X a j)(k:PB X b l):PD X (.BinOp a op b m) (λρ=>(j ρ).bind λx=>(l ρ).bind λy=>g x y):=by refine uR λd s σ H Q I N T O ρ E q=>?_;refine wpAny_BinOp (LS i k I (nZ E q) λv u n x y e o p t h=>?_);obtain⟨w,z,A,B,C,q⟩:=h;obtain⟨r,J,L⟩:=f e O x y w z Q A B C q;exact J d n σ e x y v u Q o p t L
def oj(f:mV X (dq op) g)(i:PB X a j)(k:PB X b l)(m:gW op b=false:=by first|exact RE _|with_unfolding_all rfl):
  PD X (.Compare a [op] [b] n) (λρ=>(j ρ).bind λx=>(l ρ).bind λy=>g x y):=by
 refine uR λd s σ H Q I T U O ρ E q=>?_;refine wpAny_Compare1 (LS i k I (nZ E q) λv u o x y e p t w h=>?_) m;obtain⟨z,A,B,C,J,q⟩:=h;obtain⟨r,L,N⟩:=f e O x y z A Q B C J q;exact L d o σ e x y v u Q p t w N
def BV:D->R Bool
 |.bl b=>.ok b
 |_=>.bad
def oE{O:bc->Prop}{Q:Bool->Hp->Prop}(h:uW X H (r.bind BV) Q):RC X H O r λv a=>∃c,v=.bl c/\Q c a:=by
 cases r with
 |ok d=>
  cases d with
  |bl b=>intro v a e f;cases f;exact⟨b,rfl,h a e⟩
  |_=>exact(show False from h).elim
 |ex x=>exact h
 |bad=>exact h
def l3(i:mV X (dq op) g)(j:PB X a l)(m:PB X b n)(o:gW op b=false:=by first|exact RE _|with_unfolding_all rfl):
  zE X (.Compare a [op] [b] p) (λρ=>((l ρ).bind λx=>(n ρ).bind λy=>g x y).bind BV):=by
 refine uR λd s σ H Q I H9 O0 O ρ E q=>?_;have t:=oE (O:=O) q;refine wpAny_isTrue_Compare1 (LS j m I (nZ E t) λv u w x y f A B C h=>?_) o;obtain⟨J,L,N,T,U,q⟩:=h;obtain⟨r,Y,hq⟩:=i f O x y J L _ N T U q;refine F5 (Y d w σ f x y v u _ A B C hq) λc s3 z9=>?_;obtain⟨z,H3,I3,r3,k,e,q3⟩:=z9;subst e;cases r3;exact aBu ⟨H3,I3,q3⟩
def vT(h:PD X e f)(a:∀whole,isTrue e X.env whole=(do let v<-whole;standAt e.pos;fg [v] (truthy v)):=by intro _;rfl):zE X e (λρ=>(f ρ).bind BV):=by refine ptI (oq h a) λσ H Q b d O ρ E q=>⟨b,d,O,ρ,E,oE q⟩
def uW.seq{Q:Bool->Hp->Prop}(h:uW X H (r.bind g) Q):uW X H r λb f=>r=.ok b/\Same H f/\uW X f (g b) Q:=by
 cases r with
 |ok d=>
  intro f i;refine⟨rfl,i,?_⟩;have a:uW X H (g d) Q:=h;cases e:g d with
  |ok l=>rw[e]at a;exactλj k=>a j (i.trans k)
  |ex x=>rw[e]at a;exactλj k=>a j (i.trans k)
  |bad=>rw[e]at a;exact a
 |ex x=>exact h
 |bad=>exact h
def uW.af7{O:bc->Prop}(h:RC X H O (r.bind g) Q):uW X H r λb a=>r=.ok b/\Same H a/\RC X a O (g b) Q:=by
 cases r with
 |ok d=>intro a e;refine⟨rfl,e,?_⟩;have f:RC X H O (g d) Q:=h;exact f.grow e
 |ex x=>exact h
 |bad=>exact h
def uW.mono{Q e:Bool->Hp->Prop}(h:uW X H r Q)(i:∀b a,Q b a->e b a):uW X H r e:=by
 cases r with
 |ok d=>exactλa f=>i _ _ (h a f)
 |ex x=>exact h
 |bad=>exact h
def RC.mono{O:bc->Prop}(h:RC X H O r Q)(i:∀b a,Q b a->e b a):RC X H O r e:=by
 cases r with
 |ok d=>exactλv a f g=>i _ _ (h v a f g)
 |ex x=>exact h
 |bad=>exact h
def ER(X:Cx)(e:cu)(f:Ev->R Bool):Prop:=PW X e (tDT X f)
def DS(f g:Ev->R Bool):Ev->R Bool:=λρ=>(f ρ).bind λb=>if b=true then g ρ else .ok false
def orB(f g:Ev->R Bool):Ev->R Bool:=λρ=>(f ρ).bind λb=>if b=true then .ok true else g ρ
def YR(f:Ev->R Bool):Ev->R Bool:=λρ=>(f ρ).bind λb=>.ok (!b)
variable{rest:List cu}
def pR(b:zE X a f):ER X (.BoolOp .And [a] d) f:=YB b
def oN(b:zE X a f):ER X (.BoolOp .Or [a] d) f:=jq b
def RU(h:PW X e t)(i:∀σ H Q,t' σ H Q->t σ H Q):PW X e t':=λb a s σ H Q I q=>h b a s σ H Q I (i σ H Q q)
def xO(j:zE X a f)(k:ER X (.BoolOp .And (b::rest) d) g):ER X (.BoolOp .And (a::b::rest) d) (DS f g):=
 RU (uq j k) λσ H Q ⟨e,h,O,ρ,E,q⟩=>⟨e,h,O,ρ,E,uW.mono (uW.seq q)<|by
  rintro b l ⟨_,m,i⟩;cases b with
  |true=>rw[h9 rfl];exact⟨e,h,O,ρ,E.grow m,i⟩
  |false=>rw[ia aAU];exact i l (Same.refl _)⟩
def mC(j:zE X a f)(k:ER X (.BoolOp .Or (b::rest) d) g):ER X (.BoolOp .Or (a::b::rest) d) (orB f g):=
 RU (a1c j k) λσ H Q ⟨e,h,O,ρ,E,q⟩=>⟨e,h,O,ρ,E,uW.mono (uW.seq q)<|by
  rintro b l ⟨_,m,i⟩;cases b with
  |false=>rw[ia aAU];exact⟨e,h,O,ρ,E.grow m,i⟩
  |true=>rw[h9 rfl];exact i l (Same.refl _)⟩
def ER.pt(h:ER X e f):zE X e f:=PW.pt h
def FT(d:zE X a f):zE X (.UnaryOp .Not a e) (YR f):=
 ptI (ik d) λσ H Q g h O ρ E q=>⟨g,h,O,ρ,E,uW.mono (uW.seq q)<|by rintro b i ⟨_,k,j⟩;exact j i (Same.refl _)⟩
def a2m(f:Ev->R D)(g:Ev->R D):Ev->R D:=λρ=>((f ρ).bind BV).bind λb=>if b=true then g ρ else .ok (.bl false)
def a4z(f:Ev->R D):Ev->R D:=λρ=>((f ρ).bind BV).bind λb=>.ok (.bl (!b))
def TY{op}{f:Ev->R D}(h:PD X a f):PD X (.BoolOp op [a] b) f:=gj h
def SR{f g:Ev->R D}(k:PD X a f)(l:PD X (.BoolOp .And (b::rest) d) g):PD X (.BoolOp .And (a::b::rest) d) (a2m f g):=
 ME (aw k l) λσ H Q h i O ρ E q=>⟨h,i,O,ρ,E,RC.mono (oE<|uW.af7 q) λv m ⟨c,e,_,n,j⟩=>⟨c,e,by
  cases c with
  |true=>rw[h9 rfl];exact⟨h,i,O,ρ,E.grow n,j⟩
  |false=>rw[ia aAU];exact j _ m (Same.refl _) .bl⟩⟩
def jw{f:Ev->R D}(b:PD X a f):PD X (.UnaryOp .Not a d) (a4z f):=
 ME (xk b) λσ H Q g h O ρ E q=>⟨g,h,O,ρ,E,RC.mono (oE<|uW.af7 q)<|by rintro v i ⟨c,e,_,k,j⟩;exact⟨c,e,j _ i (Same.refl _) .bl⟩⟩
def a0b:D->R D
 |.int i=>.ok (.int (-i))
 |_=>.bad
def qB{f:Ev->R D}(e:PD X a f):PD X (.UnaryOp .USub a g) (λρ=>(f ρ).bind a0b):=
 ME (a0p yw e) λσ H Q h j O ρ E q=>⟨h,j,O,ρ,E,by
  refine RC.mono (RC.seq q) λv k l=>?_;obtain⟨d,_,n,m,b⟩:=l;cases d with
  |int i=>cases m;exact⟨i,rfl,b _ k (Same.refl _) .int⟩
  |_=>exact(show False from b).elim⟩
def LV.seq{H:Hp}{O:bc->Prop}{r:R (List D)}{g:List D->R D}{Q:VK}(h:RC X H O (r.bind g) Q):
  LV X H O r λv a=>∃d,r=.ok d/\Same H a/\Reps X.K a O v d/\RC X a O (g d) Q:=by
 cases r with
 |ok d=>exactλv a b e=>⟨d,rfl,b,e,(show RC X H O (g d) Q from h).grow b⟩
 |ex x=>exact h
 |bad=>exact h
def LV.mono{O:bc->Prop}{Q e:List V->Hp->Prop}(h:LV X H O r Q)(i:∀b a,Q b a->e b a):LV X H O r e:=by
 cases r with
 |ok d=>exactλv a f g=>i _ _ (h v a f g)
 |ex x=>exact h
 |bad=>exact h
def PV.seq{H:Hp}{O:bc->Prop}{r:R (List D)}{g:List D->R D}{Q:VK}(h:RC X H O (r.bind g) Q):
  PV X H O r λv a=>∃d,r=.ok d/\Same H a/\Paired (B4 X.K a O) v d/\RC X a O (g d) Q:=by
 cases r with
 |ok d=>exactλv a b e=>⟨d,rfl,b,e,(show RC X H O (g d) Q from h).grow b⟩
 |ex x=>exact h
 |bad=>exact h
def RN.mono{O:bc->Prop}(h:RN X H O r Q)(i:∀b a,Q b a->e b a):RN X H O r e:=by
 cases r with
 |ok d=>exactλv a f g=>i _ _ (h v a f g)
 |ex x=>exact h
 |bad=>exact h
def m5(f:Ev->R D)(g:Ev->R (List D)):Ev->R (List D):=λρ=>(f ρ).bind λd=>(g ρ).bind λa=>.ok (d::a)
def R6:Ev->R (List D):=λ_=>.ok []
def m8:MF X [] R6:=paI cR λσ H Q a b O ρ E q=>q [] H (Same.refl _) .nil
def f9{f:Ev->R D}{g:Ev->R (List D)}(m:PD X e f)(n:MF X es g)(o:bb (e::es) X.env=(false,dm e X.env)::bb es X.env:=by rfl):MF X (e::es) (m5 f g):=
 paI (M8 m n o) λσ H Q k l O ρ E q=>⟨k,l,O,ρ,E,by
  unfold m5 at q;cases b:f ρ with
  |ok d=>
   rw[b]at q;intro v s h p;refine⟨k,l,O,ρ,E.grow h,?_⟩;cases i:g ρ with
   |ok t=>rw[i]at q;exactλL j a r=>q (v::L) j (h.trans a) (.cons (p.same a) r)
   |ex x=>rw[i]at q;exactλj a=>q j (h.trans a)
   |bad=>rw[i]at q;exact q
  |ex x=>rw[b]at q;exact q
  |bad=>rw[b]at q;exact q⟩
def E8:tq X [] R6:=paI cR λσ H Q a b O ρ E q=>q [] H (Same.refl _) .nil
def u5{f:Ev->R D}{g:Ev->R (List D)}(m:PB X e f)(n:tq X es g)(o:bb (e::es) X.env=(false,dm e X.env)::bb es X.env:=by rfl):tq X (e::es) (m5 f g):=
 paI (M8 m n o) λσ H Q k l O ρ E q=>⟨k,l,O,ρ,E,by
  unfold m5 at q;cases b:f ρ with
  |ok d=>
   rw[b]at q;intro v s h p;refine⟨k,l,O,ρ,E.grow h,?_⟩;cases i:g ρ with
   |ok t=>rw[i]at q;exactλL j a r=>q (v::L) j (h.trans a) (.cons (p.same a) r)
   |ex x=>rw[i]at q;exactλj a=>q j (h.trans a)
   |bad=>rw[i]at q;exact q
  |ex x=>rw[b]at q;exact q
  |bad=>rw[b]at q;exact q⟩
def mF(ds:List D):R D:=if ds.length<=sizeLine then .ok (.tup ds)else .bad
def DA(ds:List D):R D:=if ds.length<=sizeLine then .ok (.lst ds)else .bad
def rH{f:Ev->R (List D)}{e}(h:MF X es f):PD X (.Tuple es e g) (λρ=>(f ρ).bind mF):=
 ME (cj h) λσ H Q i j O ρ E q=>⟨i,j,O,ρ,E,LV.mono (LV.seq q)<|by
  rintro L l ⟨m,_,n,b,a⟩;unfold mF at a;split at a
  .rename_i k;exact⟨by rw[b.length];exact k,λp d=>a (.ref p) _ (k9 d _) (.tup (Y0.of j2) (b.same<|k9 d _))⟩
  exact a.elim⟩
def xM{f:Ev->R (List D)}(h:MF X es f):PD X (.List es e) (λρ=>(f ρ).bind DA):=
 ME (OT h) λσ H Q g i O ρ E q=>⟨g,i,O,ρ,E,LV.mono (LV.seq q)<|by
  rintro L l ⟨m,_,j,d,a⟩;unfold DA at a;split at a
  .rename_i k;exact⟨by rw[d.length];exact k,λp b=>a (.ref p) _ (k9 b _) (.lst (P4.of j2) ((E.grow j).fresh b) (d.same<|k9 b _))⟩
  exact a.elim⟩
def dP(X:Cx)(f:au)(g:List D->R D):Prop:=
 ∀(H:Hp) (O:bc->Prop) (L:List V) (a:List D) (Q:VK),(∀p,H p=none->¬O p)->Paired (B4 X.K H O) L a->RC X H O (g a) Q->∃r,uM X f r/\r L H Q
def dH{x:Str}{id:String}{p:Pos}{f:Ev->R (List D)}{g:List D->R D}(j:dP X (.builtin id) g)(k:tq X (e::es) f)(l:Gl X x:=by rfl)(m:X.mg x=none:=by assumption)(n:de x=some (.builtin id):=by decide+kernel)(o:x≠ "__name__":=by decide)
  (t:(x==ja)=false:=by decide) (u:bb (e::es) X.env=(false,dm e X.env)::bb es X.env:=by rfl) (v:(cy b (bb es X.env)).any (·.1)=false:=by rfl):
  PD X (.Call (.Name x p) (e::es) [] b) (λρ=>(f ρ).bind g):=by
 refine uR λa s σ H Q I w y O ρ E q=>?_;refine aBf (T7 I l m n ?_ o t);refine aCr (F5 (k b a s σ H _ I ⟨w,y,O,ρ,E,PV.seq q⟩) λz A ⟨L,i,B,C,d,_,J,r,h⟩=>?_) u v;obtain⟨Y,N,T⟩:=j i O L d Q (λp U=>(E.grow J).fresh U) r h;exact N a A σ i L z Q B C T
def kN{x:Str}{T:String}{p:Pos}{f:Ev->R (List D)}{g:List D->R D}(j:dP X (.type T) g)(k:tq X (e::es) f)(l:Gl X x:=by rfl)(m:X.mg x=none:=by assumption)(n:de x=some (.type T):=by decide+kernel)(o:x≠ "__name__":=by decide)
  (t:(x==ja)=false:=by decide) (u:bb (e::es) X.env=(false,dm e X.env)::bb es X.env:=by rfl) (v:(cy b (bb es X.env)).any (·.1)=false:=by rfl):
  PD X (.Call (.Name x p) (e::es) [] b) (λρ=>(f ρ).bind g):=by
 refine uR λa s σ H Q I w y O ρ E q=>?_;refine aBf (T7 I l m n ?_ o t);refine aBv (F5 (k b a s σ H _ I ⟨w,y,O,ρ,E,PV.seq q⟩) λz A ⟨L,i,B,C,d,_,J,r,h⟩=>?_) u v;obtain⟨r',N,U⟩:=j i O L d Q (λp Y=>(E.grow J).fresh Y) r h;exact N a A σ i L z Q B C U
end
mutual
def v5:D->D->Bool
 |.non,.non=>true
 |.bl a,.bl b=>a==b
 |.bl a,.int b=>(if a then 1 else 0)==b
 |.int a,.bl b=>a==(if b then 1 else 0)
 |.int a,.int b=>a==b
 |.str a,.str b=>a==b
 |.tup Y,.tup d=>Z8 Y d
 |.lst Y,.lst d=>Z8 Y d
 |.dct,.dct=>true
 |_,_=>false
def Z8:List D->List D->Bool
 |[],[]=>true
 |x::Y,y::a=>v5 x y&&Z8 Y a
 |_,_=>false
end
mutual
def G4:D->Nat
 |.tup Y=>A8 Y+1
 |.lst Y=>A8 Y+1
 |.dct=>cz
 |_=>0
def A8:List D->Nat
 |[]=>0
 |x::Y=>max (G4 x) (A8 Y)
end
mutual
theorem R7:∀d:D,v5 d d=true
 |.non=>by simp[v5]
 |.bl b=>by simp[v5]
 |.int i=>by simp[v5]
 |.str x=>by simp[v5]
 |.tup Y=>by rw[v5];exact kS Y
 |.lst Y=>by rw[v5];exact kS Y
 |.dct=>by simp[v5]
theorem kS:∀ds:List D,Z8 ds ds=true
 |[]=>by simp[Z8]
 |x::Y=>by rw[Z8,R7 x,kS Y];rfl
end
def mO(Y d:List D)(j:Nat):Bool:=match Y[j]?,d[j]? with
 |some a,some b=>v5 a b
 |_,_=>false
theorem iD:∀(Y a:List D),Z8 Y a=((aBc (min Y.length a.length)).all (mO Y a)&&(Y.length==a.length))
 |[],[]=>by simp[Z8]
 |[],_::_=>by simp[Z8]
 |_::_,[]=>by simp[Z8]
 |x::Y,y::a=>by
  rw[Z8,iD Y a,aAp,aAp,Nat.succ_min_succ,aFF,aGq,List.all_map];have b:mO (x::Y) (y::a) 0=v5 x y:=rfl;have d:(mO (x::Y) (y::a)∘Nat.succ)=mO Y a:=by
   funext j
   simp[mO]
  have e:(Y.length+1==a.length+1)=(Y.length==a.length):=by rw[aDY];simp
  rw[b,d,e,Bool.and_assoc]
theorem oF:∀{Y:List D}{d:D}{j:Nat},Y[j]?=some d->G4 d<=A8 Y
 |[],_,_,h=>by simp at h
 |x::Y,d,0,h=>by simp at h;subst h;rw[A8];exact Nat.le_max_left _ _
 |x::Y,d,j+1,h=>by rw[A8];exact aAr (oF (j:=j) (by simpa using h)) (Nat.le_max_right _ _)
section
def DB{K:ix}{H:Hp}{O:bc->Prop}{a:bc}{d:D}(h:Rep K H O (.ref a) d):(∃L ds,d=.tup ds/\Y0 K H a L/\Reps K H O L ds)\/(∃L ds,d=.lst ds/\P4 K H a L/\Reps K H O L ds)\/(d=.dct/\∃o:Obj,H a=some (.ext λh=>h.get? a=some o)/\o.ExactDict):=by
 cases h with
 |tup h r=>exact .inl ⟨_,_,rfl,h,r⟩
 |lst h n r=>exact .inr (.inl ⟨_,_,rfl,h,r⟩)
 |dct h x n=>exact .inr (.inr ⟨rfl,_,h,x⟩)
def ZQ(I:Inv X b σ H s)(h:Y0 X.K H a L)(h':P4 X.K H a ws):False:=by obtain⟨e,_,p,_⟩:=I.tuple h;obtain⟨d,_,f,_⟩:=I.list h';exact absurd rfl (SeqAt.ne_of_list_tuple (s:=s) f.isList p)
def ZR{o:Obj}(I:Inv X b σ H s)(h':Y0 X.K H a L)(h:H a=some (.ext λh=>h.get? a=some o))(x:o.ExactDict):False:=by obtain⟨d,_,⟨f,g,c,_⟩,_⟩:=I.tuple h';have e:s.heap.get? _=some _:=(I.hok _ _ h).1;rw[g]at e;cases e;exact absurd (c.symm.trans x.1) (by decide)
def ZG{o:Obj}(I:Inv X b σ H s)(h':P4 X.K H a L)(h:H a=some (.ext λh=>h.get? a=some o))(x:o.ExactDict):False:=by obtain⟨d,_,p,_⟩:=I.list h';obtain⟨f,g,c,_⟩:=p.isList;have e:s.heap.get? _=some _:=(I.hok _ _ h).1;rw[g]at e;cases e;exact absurd (c.symm.trans x.1) (by decide)
mutual
theorem Rep.inj(I:Inv X g σ H s):∀{v:V}{d:D},Rep X.K H O v d->∀{d':D},Rep X.K H i v d'->d=d'
 |_,_,.non=>λh=>by cases h;rfl
 |_,_,.bl=>λh=>by cases h;rfl
 |_,_,.int=>λh=>by cases h;rfl
 |_,_,.str=>λh=>by cases h;rfl
 |_,_,.tup h r=>λb=>by
  rcases DB b with⟨_,_,rfl,a,f⟩|⟨_,_,rfl,a,_⟩|⟨rfl,_,a,x⟩
  .have e:=I.ab6 h a;subst e;rw[Reps.inj I r f]
  .exact(ZQ I h a).elim
  exact(ZR I h a x).elim
 |_,_,.lst h _ r=>λb=>by
  rcases DB b with⟨_,_,rfl,a,_⟩|⟨_,_,rfl,a,f⟩|⟨rfl,_,a,x⟩
  .exact(ZQ I a h).elim
  .have e:=I.ab8 h a;subst e;rw[Reps.inj I r f]
  exact(ZG I h a x).elim
 |_,_,.dct h x _=>λb=>by
  rcases DB b with⟨_,_,rfl,a,_⟩|⟨_,_,rfl,a,_⟩|⟨rfl,_⟩
  .exact(ZR I a h x).elim
  .exact(ZG I a h x).elim
  rfl
theorem Reps.inj(I:Inv X a σ H s):∀{v:List V}{d:List D},Reps X.K H O v d->∀{d':List D},Reps X.K H g v d'->d=d'
 |_,_,.nil=>λh=>by cases h;rfl
 |_,_,.cons h t=>λb=>by
  cases b with
  |cons e f=>rw[Rep.inj I h e,Reps.inj I t f]
end
def nW(A:cf)(s:ba)(a ws:List au)(Y b:List D):Prop:=∀(j:Nat) (u w:au),a[j]?=some u->ws[j]?=some w->SeqAt.EqAt A.in1 s u w (mO Y b j)
def AF(g:s.heap.IsList l a.toArray)(h:s.heap.IsList b ws.toArray)(e1:a.length=Y.length)(e2:ws.length=d.length)(i:A.units<cz)(p:nW A s a ws Y d):SeqAt.RcAt A s (.ref l) (.ref b) (Z8 Y d)/\SeqAt.RcNeAt A s (.ref l) (.ref b) (!Z8 Y d):=by
 rw[iD];by_cases e:Y.length=d.length
 .have f:a.toArray.size=ws.toArray.size:=by simp[e1,e2,e]
  have q:min Y.length d.length=a.toArray.size:=by simp[e1,e]
  have k:(Y.length==d.length)=true:=by simp[e]
  have m:∀j (n:j<a.toArray.size) (o:j<ws.toArray.size),SeqAt.EqAt A.in1 s a.toArray[j] ws.toArray[j] (mO Y d j):=λj n o=>p j _ _ (by simp[aAi (show j<a.length by simpa using n)]) (by simp[aAi (show j<ws.length by simpa using o)]);rw[k,Bool.and_true,q];exact⟨SeqAt.RcAt.lists g h f i m,SeqAt.RcNeAt.lists g h f i m⟩
 have f:(a.toArray.size !=ws.toArray.size)=true:=by simp[e1,e2,e]
 have k:(Y.length==d.length)=false:=by simp[e]
 rw[k,aGh];exact⟨SeqAt.RcAt.lists_lengths g h f i,SeqAt.RcNeAt.lists_lengths g h f i⟩
def lY(e:IsTup s.heap l a.toArray)(f:IsTup s.heap b ws.toArray)(e1:a.length=Y.length)(e2:ws.length=d.length)(g:A.units<cz)(m:nW A s a ws Y d):SeqAt.RcAt A s (.ref l) (.ref b) (Z8 Y d)/\SeqAt.RcNeAt A s (.ref l) (.ref b) (!Z8 Y d):=by
 rw[iD];have n:min Y.length d.length=min a.toArray.size ws.toArray.size:=by simp[e1,e2]
 have o:(Y.length==d.length)=(a.toArray.size==ws.toArray.size):=by simp[e1,e2]
 have h:∀j (i:j<a.toArray.size) (k:j<ws.toArray.size),SeqAt.EqAt A.in1 s a.toArray[j] ws.toArray[j] (mO Y d j):=λj i k=>m j _ _ (by simp[aAi (show j<a.length by simpa using i)]) (by simp[aAi (show j<ws.length by simpa using k)]);rw[o,n];exact⟨SeqAt.RcAt.tuples e f g h,SeqAt.RcNeAt.tuples e f g h⟩
def o6(A:cf):A.in1.units=A.units+1:=rfl
mutual
theorem QY(I:Inv X N σ H s):∀{x y:V}{w z:D}{v u:au}{A:cf},Rep X.K H O x w->Rep X.K H O' y z->RelV x v->RelV y u->A.units+G4 w<cz->A.units+G4 z<cz->SeqAt.EqAt A s v u (v5 w z)
 |_,_,_,_,v,u,A,.non,g,i,b,j,f=>by
  have d:A.units<cz:=by lia
  cases i;cases g with
  |dct=>exact absurd f (by rw[G4];lia)
  |non=>cases b;exact aDZ _
  |bl=>cases b;simp only[v5];exact SeqAt.EqAt.none_bool _
  |int=>obtain⟨t,rfl⟩:=b;simp only[v5];exact SeqAt.EqAt.none_int _ _
  |str=>obtain⟨t,rfl⟩:=b;simp only[v5];exact SeqAt.EqAt.none_str _ _
  |tup h r=>cases b;obtain⟨_,_,p,_⟩:=I.tuple h;simp only[v5];exact SeqAt.EqAt.none_tuple p d
  |lst h _ r=>cases b;obtain⟨_,_,p,_⟩:=I.list h;simp only[v5];exact SeqAt.EqAt.none_list p.isList d
 |_,_,_,_,v,u,A,.bl,g,i,b,j,f=>by
  have d:A.units<cz:=by lia
  cases i;cases g with
  |dct=>exact absurd f (by rw[G4];lia)
  |non=>cases b;simp only[v5];exact SeqAt.EqAt.bool_none _
  |bl=>cases b;simp only[v5];exact SeqAt.EqAt.bool_bool _ _
  |int=>obtain⟨t,rfl⟩:=b;simp only[v5];exact SeqAt.EqAt.bool_int _ _ _
  |str=>obtain⟨t,rfl⟩:=b;simp only[v5];exact SeqAt.EqAt.bool_str _ _ _
  |tup h r=>cases b;obtain⟨_,_,p,_⟩:=I.tuple h;simp only[v5];exact SeqAt.EqAt.bool_tuple _ p d
  |lst h _ r=>cases b;obtain⟨_,_,p,_⟩:=I.list h;simp only[v5];exact SeqAt.EqAt.bool_list _ p.isList d
 |_,_,_,_,v,u,A,.int,g,i,b,j,f=>by
  have d:A.units<cz:=by lia
  obtain⟨Q,rfl⟩:=i;cases g with
  |dct=>exact absurd f (by rw[G4];lia)
  |non=>cases b;simp only[v5];exact SeqAt.EqAt.int_none _ _
  |bl=>cases b;simp only[v5];exact SeqAt.EqAt.int_bool _ _ _
  |int=>obtain⟨t,rfl⟩:=b;simp only[v5];exact aEY _ _ _ _
  |str=>obtain⟨t,rfl⟩:=b;simp only[v5];exact aGo _ _ _ _
  |tup h r=>cases b;obtain⟨_,_,p,_⟩:=I.tuple h;simp only[v5];exact aGb _ _ p d
  |lst h _ r=>cases b;obtain⟨_,_,p,_⟩:=I.list h;simp only[v5];exact SeqAt.EqAt.int_list _ _ p.isList d
 |_,_,_,_,v,u,A,.str,g,i,b,j,f=>by
  have d:A.units<cz:=by lia
  obtain⟨Q,rfl⟩:=i;cases g with
  |dct=>exact absurd f (by rw[G4];lia)
  |non=>cases b;simp only[v5];exact SeqAt.EqAt.str_none _ _
  |bl=>cases b;simp only[v5];exact SeqAt.EqAt.str_bool _ _ _
  |int=>obtain⟨t,rfl⟩:=b;simp only[v5];exact aGp _ _ _ _
  |str=>obtain⟨t,rfl⟩:=b;simp only[v5];exact SeqAt.EqAt.str_str _ _ _ _
  |tup h r=>cases b;obtain⟨_,_,p,_⟩:=I.tuple h;simp only[v5];exact SeqAt.EqAt.str_tuple _ _ p d
  |lst h _ r=>cases b;obtain⟨_,_,p,_⟩:=I.list h;simp only[v5];exact SeqAt.EqAt.str_list _ _ p.isList d
 |_,_,_,_,v,u,A,.tup (a:=a) (L:=L) (ds:=ds) h r,g,i,b,j,f=>by
  have d:A.units<cz:=by lia
  cases i;obtain⟨B,n,p,_⟩:=I.tuple h;cases g with
  |dct=>exact absurd f (by rw[G4];lia)
  |non=>cases b;simp only[v5];exact SeqAt.EqAt.tuple_none p d
  |bl=>cases b;simp only[v5];exact SeqAt.EqAt.tuple_bool _ p d
  |int=>obtain⟨t,rfl⟩:=b;simp only[v5];exact aGc _ _ p d
  |str=>obtain⟨t,rfl⟩:=b;simp only[v5];exact SeqAt.EqAt.tuple_str _ _ p d
  |@tup C T U k l=>
   cases b;obtain⟨o,q,m,_⟩:=I.tuple k;by_cases e:a=C
   .subst e;have E:=I.ab6 h k;subst E;have J:=Reps.inj I r l;subst J;rw[R7];exact aDZ _
   simp only[v5];refine aEZ e (lY p m (by rw[<-n.length,r.length]) (by rw[<-q.length,l.length]) d<|jL I r l n q ?_ ?_).1
   .rw[G4]at j;rw[o6];lia
   rw[G4]at f;rw[o6];lia
  |lst k _ l=>cases b;obtain⟨_,_,m,_⟩:=I.list k;simp only[v5];exact SeqAt.EqAt.tuple_list p m.isList d
 |_,_,_,_,v,u,A,.lst (a:=a) (L:=L) (ds:=ds) h nO r,g,i,b,j,f=>by
  have d:A.units<cz:=by lia
  cases i;obtain⟨B,n,p,_⟩:=I.list h;cases g with
  |dct=>exact absurd f (by rw[G4];lia)
  |non=>cases b;simp only[v5];exact SeqAt.EqAt.list_none p.isList d
  |bl=>cases b;simp only[v5];exact SeqAt.EqAt.list_bool _ p.isList d
  |int=>obtain⟨t,rfl⟩:=b;simp only[v5];exact SeqAt.EqAt.list_int _ _ p.isList d
  |str=>obtain⟨t,rfl⟩:=b;simp only[v5];exact SeqAt.EqAt.list_str _ _ p.isList d
  |tup k l=>cases b;obtain⟨_,_,m,_⟩:=I.tuple k;simp only[v5];exact SeqAt.EqAt.list_tuple p.isList m d
  |@lst C T U k Y l=>
   cases b;obtain⟨o,q,m,_⟩:=I.list k;by_cases e:a=C
   .subst e;have E:=I.ab8 h k;subst E;have J:=Reps.inj I r l;subst J;rw[R7];exact aDZ _
   simp only[v5];refine aEZ e (AF p.isList m.isList (by rw[<-n.length,r.length]) (by rw[<-q.length,l.length]) d<|jL I r l n q ?_ ?_).1
   .rw[G4]at j;rw[o6];lia
   rw[G4]at f;rw[o6];lia
 |_,_,_,_,v,u,A,.dct ..,g,i,b,j,f=>absurd j (by rw[G4];lia)
theorem jL(I:Inv X p σ H s):∀{L ws:List V}{Y k:List D}{e f:List au}{A:cf},Reps X.K H O L Y->Reps X.K H z ws k->l7 L e->l7 ws f->A.in1.units+A8 Y<cz->A.in1.units+A8 k<cz->nW A s e f Y k
 |_,_,_,_,e,f,A,.nil,B,g,i,l,m=>λj u w a b=>by cases g;simp at a
 |_,_,_,_,e,f,A,.cons h t,.nil,g,i,l,m=>λj u w a b=>by cases i;simp at b
 |_,_,_,_,e,f,A,.cons (d:=d) (ds:=ds) h t,.cons (d:=C) (ds:=E) r v,g,i,l,m=>λj u w a b=>by
  cases g with
  |cons x y=>
   cases i with
   |cons n o=>
    rw[A8]at l m;cases j with
    |zero=>simp only[aCC,aGy]at a b;subst a b;exact QY I h r x n (by lia) (by lia)
    |succ j=>simp only[aDf]at a b;have q:=jL I (A:=A) t v y o (by lia) (by lia) j u w a b;exact q
end
def a2d(I:Inv X N σ H s)(m:B4 X.K H O x z)(d:B4 X.K H T y g)(n:RelV x v)(e:RelV y u)(B:A.units+G4 z<cz)(j:A.units+G4 g<cz):
  SeqAt.RcAt A s v u (v5 z g)/\SeqAt.RcNeAt A s v u (!v5 z g):=by
 have b:A.units<cz:=by lia
 cases z with
 |dct=>exact absurd B (by rw[G4];lia)
 |non=>
  cases m.ac0;cases n;cases g with
  |dct=>exact absurd j (by rw[G4];lia)
  |non=>cases d.ac0;cases e;simp only[v5];exact⟨SeqAt.RcAt.none_none,SeqAt.RcNeAt.none_none⟩
  |bl=>cases d.blI;cases e;simp only[v5];exact⟨SeqAt.RcAt.none_bool _,SeqAt.RcNeAt.none_bool _⟩
  |int=>cases d.aa6;obtain⟨t,rfl⟩:=e;simp only[v5];exact⟨SeqAt.RcAt.none_int _ _,SeqAt.RcNeAt.none_int _ _⟩
  |str=>cases d.ac4;obtain⟨t,rfl⟩:=e;simp only[v5];exact⟨SeqAt.RcAt.none_str _ _,SeqAt.RcNeAt.none_str _ _⟩
  |tup f=>obtain⟨a,L,rfl,h,r⟩:=d.tupI;cases e;obtain⟨_,_,p,_⟩:=I.tuple h;simp only[v5];exact⟨SeqAt.RcAt.none_tuple p b,SeqAt.RcNeAt.none_tuple p b⟩
  |lst f=>obtain⟨a,L,rfl,h,r⟩:=d.aa5;cases e;obtain⟨_,_,p,_⟩:=I.list h;simp only[v5];exact⟨SeqAt.RcAt.none_list p.isList b,SeqAt.RcNeAt.none_list p.isList b⟩
 |bl=>
  cases m.blI;cases n;cases g with
  |dct=>exact absurd j (by rw[G4];lia)
  |non=>cases d.ac0;cases e;simp only[v5];exact⟨SeqAt.RcAt.bool_none _,SeqAt.RcNeAt.bool_none _⟩
  |bl=>cases d.blI;cases e;simp only[v5];exact⟨SeqAt.RcAt.bool_bool _ _,SeqAt.RcNeAt.bool_bool _ _⟩
  |int=>cases d.aa6;obtain⟨t,rfl⟩:=e;simp only[v5];exact⟨SeqAt.RcAt.bool_int _ _ _,SeqAt.RcNeAt.bool_int _ _ _⟩
  |str=>cases d.ac4;obtain⟨t,rfl⟩:=e;simp only[v5];exact⟨SeqAt.RcAt.bool_str _ _ _,SeqAt.RcNeAt.bool_str _ _ _⟩
  |tup f=>obtain⟨a,L,rfl,h,r⟩:=d.tupI;cases e;obtain⟨_,_,p,_⟩:=I.tuple h;simp only[v5];exact⟨SeqAt.RcAt.bool_tuple _ p b,SeqAt.RcNeAt.bool_tuple _ p b⟩
  |lst f=>obtain⟨a,L,rfl,h,r⟩:=d.aa5;cases e;obtain⟨_,_,p,_⟩:=I.list h;simp only[v5];exact⟨SeqAt.RcAt.bool_list _ p.isList b,SeqAt.RcNeAt.bool_list _ p.isList b⟩
 |int=>
  cases m.aa6;obtain⟨Q,rfl⟩:=n;cases g with
  |dct=>exact absurd j (by rw[G4];lia)
  |non=>cases d.ac0;cases e;simp only[v5];exact⟨SeqAt.RcAt.int_none _ _,SeqAt.RcNeAt.int_none _ _⟩
  |bl=>cases d.blI;cases e;simp only[v5];exact⟨SeqAt.RcAt.int_bool _ _ _,SeqAt.RcNeAt.int_bool _ _ _⟩
  |int=>cases d.aa6;obtain⟨t,rfl⟩:=e;simp only[v5];exact⟨SeqAt.RcAt.int_int _ _ _ _,SeqAt.RcNeAt.int_int _ _ _ _⟩
  |str=>cases d.ac4;obtain⟨t,rfl⟩:=e;simp only[v5];exact⟨SeqAt.RcAt.int_str _ _ _ _,SeqAt.RcNeAt.int_str _ _ _ _⟩
  |tup f=>obtain⟨a,L,rfl,h,r⟩:=d.tupI;cases e;obtain⟨_,_,p,_⟩:=I.tuple h;simp only[v5];exact⟨SeqAt.RcAt.int_tuple _ _ p b,SeqAt.RcNeAt.int_tuple _ _ p b⟩
  |lst f=>obtain⟨a,L,rfl,h,r⟩:=d.aa5;cases e;obtain⟨_,_,p,_⟩:=I.list h;simp only[v5];exact⟨SeqAt.RcAt.int_list _ _ p.isList b,SeqAt.RcNeAt.int_list _ _ p.isList b⟩
 |str=>
  cases m.ac4;obtain⟨Q,rfl⟩:=n;cases g with
  |dct=>exact absurd j (by rw[G4];lia)
  |non=>cases d.ac0;cases e;simp only[v5];exact⟨SeqAt.RcAt.str_none _ _,SeqAt.RcNeAt.str_none _ _⟩
  |bl=>cases d.blI;cases e;simp only[v5];exact⟨SeqAt.RcAt.str_bool _ _ _,SeqAt.RcNeAt.str_bool _ _ _⟩
  |int=>cases d.aa6;obtain⟨t,rfl⟩:=e;simp only[v5];exact⟨SeqAt.RcAt.str_int _ _ _ _,SeqAt.RcNeAt.str_int _ _ _ _⟩
  |str=>cases d.ac4;obtain⟨t,rfl⟩:=e;simp only[v5];exact⟨SeqAt.RcAt.str_str _ _ _ _,SeqAt.RcNeAt.str_str _ _ _ _⟩
  |tup f=>obtain⟨a,L,rfl,h,r⟩:=d.tupI;cases e;obtain⟨_,_,p,_⟩:=I.tuple h;simp only[v5];exact⟨SeqAt.RcAt.str_tuple _ _ p b,SeqAt.RcNeAt.str_tuple _ _ p b⟩
  |lst f=>obtain⟨a,L,rfl,h,r⟩:=d.aa5;cases e;obtain⟨_,_,p,_⟩:=I.list h;simp only[v5];exact⟨SeqAt.RcAt.str_list _ _ p.isList b,SeqAt.RcNeAt.str_list _ _ p.isList b⟩
 |tup Y=>
  obtain⟨a,L,rfl,h,r⟩:=m.tupI;cases n;obtain⟨C,o,p,_⟩:=I.tuple h;cases g with
  |dct=>exact absurd j (by rw[G4];lia)
  |non=>cases d.ac0;cases e;simp only[v5];exact⟨SeqAt.RcAt.tuple_none p b,SeqAt.RcNeAt.tuple_none p b⟩
  |bl=>cases d.blI;cases e;simp only[v5];exact⟨SeqAt.RcAt.tuple_bool _ p b,SeqAt.RcNeAt.tuple_bool _ p b⟩
  |int=>cases d.aa6;obtain⟨t,rfl⟩:=e;simp only[v5];exact⟨SeqAt.RcAt.tuple_int _ _ p b,SeqAt.RcNeAt.tuple_int _ _ p b⟩
  |str=>cases d.ac4;obtain⟨t,rfl⟩:=e;simp only[v5];exact⟨SeqAt.RcAt.tuple_str _ _ p b,SeqAt.RcNeAt.tuple_str _ _ p b⟩
  |tup f=>
   obtain⟨E,J,rfl,k,l⟩:=d.tupI;cases e;obtain⟨q,w,i,_⟩:=I.tuple k;simp only[v5];refine lY p i (by rw[<-o.length,r.length]) (by rw[<-w.length,l.length]) b (jL I r l o w ?_ ?_)
   .rw[G4]at B;rw[o6];lia
   rw[G4]at j;rw[o6];lia
  |lst f=>obtain⟨E,J,rfl,k,l⟩:=d.aa5;cases e;obtain⟨_,_,i,_⟩:=I.list k;simp only[v5];exact⟨SeqAt.RcAt.tuple_list p i.isList b,SeqAt.RcNeAt.tuple_list p i.isList b⟩
 |lst Y=>
  obtain⟨a,L,rfl,h,r⟩:=m.aa5;cases n;obtain⟨C,o,p,_⟩:=I.list h;cases g with
  |dct=>exact absurd j (by rw[G4];lia)
  |non=>cases d.ac0;cases e;simp only[v5];exact⟨SeqAt.RcAt.list_none p.isList b,SeqAt.RcNeAt.list_none p.isList b⟩
  |bl=>cases d.blI;cases e;simp only[v5];exact⟨SeqAt.RcAt.list_bool _ p.isList b,SeqAt.RcNeAt.list_bool _ p.isList b⟩
  |int=>cases d.aa6;obtain⟨t,rfl⟩:=e;simp only[v5];exact⟨SeqAt.RcAt.list_int _ _ p.isList b,SeqAt.RcNeAt.list_int _ _ p.isList b⟩
  |str=>cases d.ac4;obtain⟨t,rfl⟩:=e;simp only[v5];exact⟨SeqAt.RcAt.list_str _ _ p.isList b,SeqAt.RcNeAt.list_str _ _ p.isList b⟩
  |tup f=>obtain⟨E,J,rfl,k,l⟩:=d.tupI;cases e;obtain⟨_,_,i,_⟩:=I.tuple k;simp only[v5];exact⟨SeqAt.RcAt.list_tuple p.isList i b,SeqAt.RcNeAt.list_tuple p.isList i b⟩
  |lst f=>
   obtain⟨E,J,rfl,k,l⟩:=d.aa5;cases e;obtain⟨q,w,i,_⟩:=I.list k;simp only[v5];refine AF p.isList i.isList (by rw[<-o.length,r.length]) (by rw[<-w.length,l.length]) b (jL I r l o w ?_ ?_)
   .rw[G4]at B;rw[o6];lia
   rw[G4]at j;rw[o6];lia
end
def UJ(x y:D):R D:=if G4 x<=40/\G4 y<=40 then .ok (.bl (v5 x y))else .bad
def MH(x y:D):R D:=if G4 x<=40/\G4 y<=40 then .ok (.bl (!v5 x y))else .bad
section
def U1(r:X.A.units+64<cz):mV X (dq .Eq) UJ:=by
 intro H O x y g h Q t i j q;unfold UJ at q;split at q
 .rename_i w;refine⟨λa b d e=>a=x/\b=y/\d=H/\e (.bl (v5 g h)) H,?_,rfl,rfl,rfl,q _ H (Same.refl _) .bl⟩;intro f s σ d a b v u e I k l ⟨m,n,o,p⟩;subst m n o;exact(a2d I (A:=X.A) i j k l (by lia) (by lia)).1 _ _ _ _ ⟨.bl _,_,I,rfl,p⟩
 exact q.elim
def rL(r:X.A.units+64<cz):mV X (dq .NotEq) MH:=by
 intro H O x y g h Q t i j q;unfold MH at q;split at q
 .rename_i w;refine⟨λa b d e=>a=x/\b=y/\d=H/\e (.bl (!v5 g h)) H,?_,rfl,rfl,rfl,q _ H (Same.refl _) .bl⟩;intro f s σ d a b v u e I k l ⟨m,n,o,p⟩;subst m n o;exact(a2d I (A:=X.A) i j k l (by lia) (by lia)).2 _ _ _ _ ⟨.bl _,_,I,rfl,p⟩
 exact q.elim
end
def lW:D->D->R D
 |.int a,.int b=>.ok (.int (a+b))
 |.lst a,.lst b=>if a.length+b.length<=sizeLine then .ok (.lst (a++b))else .bad
 |.tup [],.tup b=>.ok (.tup b)
 |.tup (x::a),.tup []=>if(x::a).length<=sizeLine then .ok (.tup (x::a))else .bad
 |.tup (x::a),.tup (y::b)=>if(x::a).length+(y::b).length<=sizeLine then .ok (.tup ((x::a)++(y::b)))else .bad
 |_,_=>.bad
def LX:D->D->R D
 |.int a,.int b=>.ok (.int (a-b))
 |_,_=>.bad
def A3(a b:Int):Prop:=aBe a<=60000000/\aBe b<=60000000
instance(a b:Int):Decidable (A3 a b):=inferInstanceAs (Decidable<|_/\_)
def LK:D->D->R D
 |.int a,.int b=>if A3 a b then .ok (.int (a*b))else .bad
 |_,_=>.bad
def AW(b:Int):Prop:=b≠0/\aBe b<=9000
instance(b:Int):Decidable (AW b):=inferInstanceAs (Decidable<|_/\_)
def S9:D->D->R D
 |.int a,.int b=>if AW b then .ok (.int (a.fdiv b))else .bad
 |_,_=>.bad
def oR:D->D->R D
 |.int a,.int b=>if b≠0 then .ok (.int (a.fmod b))else .bad
 |_,_=>.bad
def xJ:D->D->R D
 |.int a,.int b=>if 0<=b/\b<=1000000/\a.natAbs<2^64 then .ok (.int (a^b.toNat))else .bad
 |_,_=>.bad
def ltR:D->D->R D
 |.int a,.int b=>.ok (.bl (decide (a<b)))
 |_,_=>.bad
def leR:D->D->R D
 |.int a,.int b=>.ok (.bl (decide (a<=b)))
 |_,_=>.bad
def zy:D->D->R D
 |.int a,.int b=>.ok (.bl (decide (b<a)))
 |_,_=>.bad
def JS(h0:b≠0)(h:aBe b<=n):b.natAbs.log2<n:=by
 unfold aBe at h;split at h
 .rename_i z;exact absurd (by simpa using z) h0
 omega
def QB(h:A3 a b):IntMulOk a b:=mulOk_of_bits (m:=60000000) (n:=60000000) h.1 h.2 (by decide)
section
def mV.aa8{f:au->au->Sem au}{g:D->D->R D}{C:Int->Int->Prop}{w:Int->Int->V}{dw:Int->Int->D}(h:jH X f (rI C w))(k:∀a b d,g a b=.ok d->∃i j,a=.int i/\b=.int j/\C i j/\d=dw i j)
  (l:∀a b e,g a b≠.ex e) (m:∀K H O i j,Rep K H O (w i j) (dw i j)):mV X f g:=by
 intro H O x y a b Q r n o q;cases e:g a b with
 |ok d=>rw[e]at q;obtain⟨i,j,rfl,rfl,p,rfl⟩:=k a b d e;cases n.aa6;cases o.aa6;exact⟨_,h,i,j,rfl,rfl,p,q _ H (Same.refl _) (m _ _ _ _ _)⟩
 |ex x=>exact absurd e (l _ _ _)
 |bad=>rw[e]at q;exact q.elim
def jH.c0(h:jH X f (YX w)):jH X f (rI (λ_ _=>True) w):=by rintro a s σ H x y v u Q I b d ⟨i,j,e,g,_,q⟩;exact h a s σ H x y v u Q I b d ⟨i,j,e,g,q⟩
def t6:mV X (ee .Sub) LX:=mV.aa8 (dw:=λi j=>.int (i-j)) (jH.c0 rj) (λa b d h=>by cases a<;>cases b<;>simp only[LX,R.ok.injEq,reduceCtorEq]at h;exact⟨_,_,rfl,rfl,trivial,h.symm⟩) (λa b e h=>by cases a<;>cases b<;>simp only[LX,reduceCtorEq]at h) λ_ _ _ _ _=>.int
def tN:mV X (dq .Lt) ltR:=mV.aa8 (dw:=λi j=>.bl (decide (i<j))) (jH.c0 a1z) (λa b d h=>by cases a<;>cases b<;>simp only[ltR,R.ok.injEq,reduceCtorEq]at h;exact⟨_,_,rfl,rfl,trivial,h.symm⟩) (λa b e h=>by cases a<;>cases b<;>simp only[ltR,reduceCtorEq]at h) λ_ _ _ _ _=>.bl
def a1k:mV X (dq .LtE) leR:=mV.aa8 (dw:=λi j=>.bl (decide (i<=j))) (jH.c0 RG) (λa b d h=>by cases a<;>cases b<;>simp only[leR,R.ok.injEq,reduceCtorEq]at h;exact⟨_,_,rfl,rfl,trivial,h.symm⟩) (λa b e h=>by cases a<;>cases b<;>simp only[leR,reduceCtorEq]at h) λ_ _ _ _ _=>.bl
def IA:mV X (dq .Gt) zy:=mV.aa8 (dw:=λi j=>.bl (decide (j<i))) (jH.c0 a1i) (λa b d h=>by cases a<;>cases b<;>simp only[zy,R.ok.injEq,reduceCtorEq]at h;exact⟨_,_,rfl,rfl,trivial,h.symm⟩) (λa b e h=>by cases a<;>cases b<;>simp only[zy,reduceCtorEq]at h) λ_ _ _ _ _=>.bl
def OO:jH X (ee .FloorDiv) (rI (λ_ j=>AW j) λi j=>.int (i.fdiv j)):=opI λ_ _ _ _ _ _ _ a q=>floordiv_int a.1 q (.inl (PyProof.noPylong_of_log2<|JS a.1 a.2))
def u3:mV X (ee .FloorDiv) S9:=mV.aa8 (dw:=λi j=>.int (i.fdiv j)) OO (λa b d h=>by
 cases a<;>cases b<;>simp only[S9,reduceCtorEq]at h;split at h
 .rename_i f;cases h;exact⟨_,_,rfl,rfl,f,rfl⟩
 cases h) (λa b e h=>by
 cases a<;>cases b<;>simp only[S9,reduceCtorEq]at h;split at h<;>cases h) λ_ _ _ _ _=>.int
def t4:mV X (ee .Mod) oR:=mV.aa8 (dw:=λi j=>.int (i.fmod j)) WW (λa b d h=>by
 cases a<;>cases b<;>simp only[oR,reduceCtorEq]at h;split at h
 .rename_i f;cases h;exact⟨_,_,rfl,rfl,f,rfl⟩
 cases h) (λa b e h=>by
 cases a<;>cases b<;>simp only[oR,reduceCtorEq]at h;split at h<;>cases h) λ_ _ _ _ _=>.int
def G6:mV X (ee .Pow) xJ:=mV.aa8 (dw:=λi j=>.int (i^j.toNat)) yk (λa b d h=>by
 cases a<;>cases b<;>simp only[xJ,reduceCtorEq]at h;split at h
 .rename_i f;cases h;exact⟨_,_,rfl,rfl,f,rfl⟩
 cases h) (λa b e h=>by
 cases a<;>cases b<;>simp only[xJ,reduceCtorEq]at h;split at h<;>cases h) λ_ _ _ _ _=>.int
def VT:jH X (ee .Mult) (rI A3 λi j=>.int (i*j)):=opI λ_ _ _ _ _ _ _ a q=>mul_int q (QB a)
def l6:mV X (ee .Mult) LK:=mV.aa8 (dw:=λi j=>.int (i*j)) VT (λa b d h=>by
 cases a<;>cases b<;>simp only[LK,reduceCtorEq]at h;split at h
 .rename_i f;cases h;exact⟨_,_,rfl,rfl,f,rfl⟩
 cases h) (λa b e h=>by
 cases a<;>cases b<;>simp only[LK,reduceCtorEq]at h;split at h<;>cases h) λ_ _ _ _ _=>.int
def FX:jH X (ee .Add) (λx y H Q=>∃l b Y e,x=.ref l/\y=.ref b/\P4 X.K H l Y/\P4 X.K H b e/\Y.length+e.length<=sizeLine/\∀p,H p=none->Q (.ref p) (upd H p (.lst (Y++e)))):=by
 intro g s σ H x y v u Q I A B h;obtain⟨l,b,Y,e,rfl,rfl,C,E,J,q⟩:=h;cases A;cases B;obtain⟨a,r,p,_⟩:=I.list C;obtain⟨f,i,L,_⟩:=I.list E;obtain⟨⟨N,O,j,T⟩,k,m,n,o⟩:=p.isList;obtain⟨⟨t,U,data2,ve⟩,w,z,n2,d⟩:=L.isList;simp only at m o z d;subst m o z d;have gu:a.toArray.size+f.toArray.size<=sizeLine:=by rw[aAn,aAn,<-r.length,<-i.length];exact J
 have ea:a.toArray++f.toArray=(a++f).toArray:=by simp
 refine aFU ⟨_,k,rfl⟩ ⟨_,w,rfl⟩ noFill_list_add seq_list_add PySem.F.slot_list_add PySem.F.entry_list_add (PySem.F.args_list_add_2 _ _) (list_addW l b a.toArray f.toArray n n2 O U T ve gu) ⟨k,w,?_⟩;rw[ea];exact⟨.ref _,_,I.ag1 (t':=s.toks) (r.append i) (by rw[aAz];omega),rfl,q _ I.fresh⟩
def OD:jH X (ee .Add) (λx y H Q=>∃a b e,x=.ref a/\y=.ref b/\Y0 X.K H a []/\Y0 X.K H b e/\Q (.ref b) H):=by intro f s σ H x y v u Q I p r h;obtain⟨t,b,e,rfl,rfl,w,z,q⟩:=h;cases p;cases r;obtain⟨A,B,C,_⟩:=I.tuple w;obtain⟨Y,r2,E,_⟩:=I.tuple z;cases B;obtain⟨⟨J,L,g,N⟩,i,j,n,k⟩:=C;obtain⟨⟨l,O,data2,T⟩,m,o,U,d⟩:=E;simp only at j k o d;subst j k o d;exact aFU ⟨_,i,rfl⟩ ⟨_,m,rfl⟩ aFz seq_tuple_add PySem.F.slot_tuple_add PySem.F.entry_tuple_add (PySem.F.args_tuple_add_2 _ _) (tuple_addW0 t b _ _ n U L O N T (by simp)) ⟨i,m,.ref b,H,I,rfl,q⟩
def m6:mV X (ee .Add) lW:=by
 intro H O x y u s Q v n o q;cases u with
 |int i=>
  cases s with
  |int j=>cases n.aa6;cases o.aa6;exact⟨_,bx,i,j,rfl,rfl,q _ H (Same.refl _) .int⟩
  |_=>exact aAf q
 |lst a=>
  cases s with
  |lst b=>
   simp only[lW]at q;split at q
   .rename_i r;obtain⟨l,L,rfl,f,d⟩:=n.aa5;obtain⟨h,k,rfl,g,e⟩:=o.aa5;exact⟨_,FX,l,h,L,k,rfl,rfl,f,g,by rw[d.length,e.length];exact r,λp m=>q _ _ (k9 m _) (.lst (P4.of j2) (v p m) ((d.append e).same (k9 m _)))⟩
   exact q.elim
  |_=>exact aAf q
 |tup a=>
  cases s with
  |tup b=>
   cases a with
   |nil=>obtain⟨l,L,rfl,f,d⟩:=n.tupI;obtain⟨h,k,rfl,g,e⟩:=o.tupI;cases d;exact⟨_,OD,l,h,k,rfl,rfl,f,g,q _ H (Same.refl _) (.tup g e)⟩
   |cons x a=>
    cases b with
    |nil=>
     obtain⟨l,L,rfl,f,d⟩:=n.tupI;obtain⟨h,k,rfl,g,e⟩:=o.tupI;cases e;have t:L≠[]:=λz=>by subst z;have:=d.length;simp at this
     simp only[lW]at q;split at q
     .rename_i r;exact⟨_,GR,l,h,L,[],rfl,rfl,f,g,t,by rw[d.length];exact r,λ_=>q _ H (Same.refl _) (.tup f d),λz=>absurd rfl z⟩
     exact q.elim
    |cons y b=>
     simp only[lW]at q;split at q
     .rename_i r;obtain⟨l,L,rfl,f,d⟩:=n.tupI;obtain⟨h,k,rfl,g,e⟩:=o.tupI;have t:L≠[]:=λz=>by subst z;have:=d.length;simp at this
      have w:k≠[]:=λz=>by subst z;have:=e.length;simp at this
      exact⟨_,GR,l,h,L,k,rfl,rfl,f,g,t,by rw[d.length,e.length];exact r,λz=>absurd z w,λ_ p m=>q _ _ (k9 m _) (.tup (Y0.of j2) ((d.append e).same (k9 m _)))⟩
     exact q.elim
  |_=>cases a<;>exact aAf q
 |_=>exact aAf q
def X6(x y:D):R D:=match x,y with
 |.lst Y,.int i=>match oG Y i with|some d=>.ok d|none=>.bad
 |.tup Y,.int i=>match oG Y i with|some d=>.ok d|none=>.bad
 |_,_=>.bad
def zN{K:ix}{H:Hp}{O:bc->Prop}{L:List V}{ds:List D}{i:Int}{d:D}(r:Reps K H O L ds)(h:oG ds i=some d):∃v,oG L i=some v/\Rep K H O v d:=by
 unfold oG at h⊢;rw[r.length];cases e:MA ds.length i with
 |none=>rw[e]at h;cases h
 |some j=>rw[e]at h;exact r.get h
def i8(N:PB X a f)(T:PD X b g)(r:VZ b:=by exactλ_ _=>rfl):PD X (.Subscript a b U) (λρ=>(f ρ).bind λx=>(g ρ).bind λy=>X6 x y):=by
 refine uR λj s σ H Q I H9 O0 O ρ E q=>?_;refine Subscript_ (LS N T.pb I (nZ E q) λv u t x y k z A B h=>?_);obtain⟨C,dy,fr,J,r2,q⟩:=h;cases dy with
 |int i=>
  cases r2.aa6;cases C with
  |lst Y=>
   simp only[X6]at q;cases e:oG Y i with
   |none=>rw[e]at q;exact q.elim
   |some d=>rw[e]at q;obtain⟨p,L,rfl,l,m⟩:=J.aa5;obtain⟨w,n,o⟩:=zN m e;exact WJ a b j t σ k _ _ v u Q z A B ⟨p,L,i,w,rfl,rfl,l,n,q w k (Same.refl _) o⟩ (r _ _)
  |tup Y=>
   simp only[X6]at q;cases e:oG Y i with
   |none=>rw[e]at q;exact q.elim
   |some d=>rw[e]at q;obtain⟨p,L,rfl,l,m⟩:=J.tupI;obtain⟨w,n,o⟩:=zN m e;exact cx a b j t σ k _ _ v u Q z A B ⟨p,L,i,w,rfl,rfl,l,n,q w k (Same.refl _) o⟩ (r _ _)
  |_=>exact aAf q
 |_=>cases C<;>exact aAf q
def cutD(Y:List D)(lo a:Option Int):List D:=(Y.drop<|HT.sIx Y.length 0 lo).take (HT.sIx Y.length Y.length a-HT.sIx Y.length 0 lo)
def uP{K:ix}{H:Hp}{O:bc->Prop}{L:List V}{ds:List D}{lo a:Option Int}(r:Reps K H O L ds):Reps K H O (yN L lo a) (cutD ds lo a):=by unfold yN cutD;rw[r.length];exact(r.drop _).take _
def PTO(X:Cx)(e:Option cu)(f:Ev->R (Option Int)):Prop:=PO X e λσ H Q=>∃b d O ρ,EnvOk X.K b d H O σ ρ/\match f ρ with
 |.ok o=>∀a,Same H a->Q o a
 |.ex e=>∀a,Same H a->XW X e a
 |.bad=>False
def toI:D->R (Option Int)
 |.int i=>.ok (some i)
 |_=>.bad
def R8:PTO X none (λ_=>.ok none):=by rintro a s σ H Q I ⟨b,d,O,ρ,E,q⟩;exact XT a s σ H Q I (q H<|Same.refl _)
def F6(h:PD X e f):PTO X (some e) (λρ=>(f ρ).bind toI):=by rintro a s σ H Q I ⟨b,g,O,ρ,E,q⟩;exact XR h a s σ H Q I ⟨b,g,O,ρ,E,by
 dsimp only at q;cases e:f ρ with
 |ok d=>
  rw[e]at q;cases d with
  |int i=>exactλv j k l=>by cases l;exact⟨i,rfl,q j k⟩
  |_=>exact aAf q
 |ex x=>rw[e]at q;exact q
 |bad=>rw[e]at q;exact q⟩
def wJ(x:D)(lo a:Option Int):R D:=match x with
 |.lst Y=>.ok (.lst (cutD Y lo a))
 |.tup Y=>if HT.sIx Y.length 0 lo=0/\HT.sIx Y.length Y.length a=Y.length then .bad else .ok (.tup (cutD Y lo a))
 |_=>.bad
def fY{lo A:Option cu}{B:Pos}{m n:Ev->R (Option Int)}(C:PB X a f)(J:PTO X lo m)(N:PTO X A n):
  PD X (.Subscript a (.Slice lo A none B) T) (λρ=>(f ρ).bind λx=>(m ρ).bind λl=>(n ρ).bind λh=>wJ x l h):=by
 refine uR λi s σ H Q I o t O ρ E q=>?_;have u:∀x d l h g,B4 X.K g O x d->(∀p,g p=none->¬O p)->RC X g O (wJ d l h) Q->a1v X.K x l h g Q\/a1g X.K x l h g Q:=λx d l h g r U q=>by
  cases d with
  |lst Y=>obtain⟨p,L,rfl,v,k⟩:=r.aa5;exact .inl ⟨p,L,rfl,v,λp b=>q _ _ (k9 b _) (.lst (P4.of j2) (U p b) ((uP k).same (k9 b _)))⟩
  |tup Y=>
   obtain⟨p,L,rfl,v,k⟩:=r.tupI;simp only[wJ]at q;split at q
   .exact q.elim
   rename_i hn;exact .inr ⟨p,L,rfl,v,by rw[k.length];exact hn,λp b=>q _ _ (k9 b _) (.tup (Y0.of j2) ((uP k).same (k9 b _)))⟩
  |_=>exact aAf q
 refine QM (WI.or wz) C J N i s σ H Q I ⟨o,t,O,ρ,E,?_⟩;dsimp only at q;cases w:f ρ with
 |ok d=>
  rw[w]at q;intro x H1 s1 r1;refine⟨o,t,O,ρ,E.grow s1,?_⟩;rw[R.aa0]at q;cases y:m ρ with
  |ok l=>
   rw[y]at q;intro H2 s2;refine⟨o,t,O,ρ,(E.grow s1).grow s2,?_⟩;cases z:n ρ with
   |ok h=>rw[z]at q;intro j e;have q':RC X H O (wJ d l h) Q:=q;exact u x d l h j ((r1.same s2).same e) (λp b=>(((E.grow s1).grow s2).grow e).fresh b) (q'.grow<|s1.trans<|s2.trans e)
   |ex x=>rw[z]at q;exactλj e=>q j (s1.trans<|s2.trans e)
   |bad=>rw[z]at q;exact q
  |ex x=>rw[y]at q;exactλj e=>q j (s1.trans e)
  |bad=>rw[y]at q;exact q
 |ex x=>rw[w]at q;exact q
 |bad=>rw[w]at q;exact q
def PL{K:ix}{H:Hp}{O:bc->Prop}{L:List V}{d:D}(r:Paired (B4 K H O) L [d]):∃v,L=[v]/\B4 K H O v d:=by
 cases r with
 |cons a b=>cases b;exact⟨_,rfl,a⟩
def pr2{K:ix}{H:Hp}{O:bc->Prop}{L:List V}{d d':D}(r:Paired (B4 K H O) L [d,d']):∃v a,L=[v,a]/\B4 K H O v d/\B4 K H O a d':=by
 cases r with
 |cons b f=>obtain⟨a,e,g⟩:=PL f;subst e;exact⟨_,_,rfl,b,g⟩
def JR:List D->R D
 |[.lst Y]=>.ok (.int Y.length)
 |[.tup Y]=>.ok (.int Y.length)
 |_=>.bad
def mE:dP X (.builtin "len") JR:=by
 intro H O L e Q f r q;match e,q with
 |[.lst Y],q=>obtain⟨v,rfl,z⟩:=PL r;obtain⟨p,a,rfl,b,d⟩:=z.aa5;exact⟨_,jJ,p,a,rfl,.inl b,q _ H (Same.refl _) (by rw[d.length];exact .int)⟩
 |[.tup Y],q=>obtain⟨v,rfl,z⟩:=PL r;obtain⟨p,a,rfl,b,d⟩:=z.tupI;exact⟨_,jJ,p,a,rfl,.inr b,q _ H (Same.refl _) (by rw[d.length];exact .int)⟩
def a2c:List D->R D
 |[.int i]=>.ok (.int (if i<0 then-i else i))
 |_=>.bad
def jz:dP X (.builtin "abs") a2c:=by
 intro H O L a Q b r q;match a,q with
 |[.int i],q=>obtain⟨v,rfl,z⟩:=PL r;cases z.aa6;exact⟨_,OE,i,rfl,q _ H (Same.refl _) .int⟩
def PQ:List D->R D
 |[.int i,.int j]=>.ok (.int (if j>i then j else i))
 |_=>.bad
def HE(a:X.calm=true):dP X (.builtin "max") PQ:=by
 intro H O L b Q e r q;match b,q with
 |[.int i,.int j],q=>obtain⟨v,f,rfl,z,d⟩:=pr2 r;cases z.aa6;cases d.aa6;exact⟨_,JY a,i,j,rfl,q _ H (Same.refl _) .int⟩
def a2v:List D->R D
 |[.lst Y]=>.ok (.lst Y)
 |[.tup Y]=>.ok (.lst Y)
 |_=>.bad
def vK:dP X (.type "list") a2v:=by
 intro H O L g Q f r q;match g,q with
 |[.lst Y],q=>obtain⟨v,rfl,z⟩:=PL r;obtain⟨p,b,rfl,d,e⟩:=z.aa5;exact⟨_,iO,p,b,rfl,.inl d,λl a=>q _ _ (k9 a _) (.lst (P4.of j2) (f l a) (e.same<|k9 a _))⟩
 |[.tup Y],q=>obtain⟨v,rfl,z⟩:=PL r;obtain⟨p,b,rfl,d,e⟩:=z.tupI;exact⟨_,iO,p,b,rfl,.inr d,λl a=>q _ _ (k9 a _) (.lst (P4.of j2) (f l a) (e.same<|k9 a _))⟩
def tyD:D->String
 |.non=> "NoneType"|.bl _=> "bool"|.int _=> "int"|.str _=> "str"|.tup _=> "tuple"|.lst _=> "list"|.dct=> "dict"
def RF(T:String)(d:D):Bool:=tyD d==T||(T== "int"&&tyD d== "bool")
def HU(T:String):Prop:=∀(K:ix) (d:D),PySem.W.kitOne K (.type (tyD d)) (.type T)=some (RF T d)
def UW:HU "int":=λK d=>by cases d<;>with_unfolding_all rfl
def QL:HU "bool":=λK d=>by cases d<;>with_unfolding_all rfl
def XD{O:bc->Prop}(I:Inv X f σ H s)(m:HU T)(r:B4 X.K H O v d)(g:RelV v u)(q:Q (.bl (RF T d)) H):
  a9 (be X.prog X.w) X.A (call (.builtin "isinstance") [u,.type T]) (EP X f σ Q) X.xe s:=by
 have e:=m X.K d;have b:∀l,EP X f σ Q (.bool (RF T d)) {s with toks:=l}:=λl=>⟨.bl _,H,I.tok _,rfl,q⟩;cases d with
 |non=>cases r.ac0;cases g;exact PySem.W.kia_one PySem.W.kitx_none I.kIn aGz e (λz=>nomatch z) b
 |bl=>cases r.blI;cases g;exact PySem.W.kia_one PySem.W.kitx_bool I.kIn aGz e (λz=>nomatch z) b
 |int=>cases r.aa6;obtain⟨t,rfl⟩:=g;exact PySem.W.kia_one PySem.W.kitx_int I.kIn aGz e (λz=>nomatch z) b
 |str=>cases r.ac4;obtain⟨t,rfl⟩:=g;exact PySem.W.kia_one PySem.W.kitx_str I.kIn aGz e (λz=>nomatch z) b
 |tup Y=>obtain⟨a,L,rfl,h,_⟩:=r.tupI;cases g;obtain⟨i,_,p,_⟩:=I.tuple h;obtain⟨o,j,k,_⟩:=p;exact PySem.W.kia_one PySem.W.kitx_tuple I.kIn ⟨o,j,k⟩ e (λz=>nomatch z) b
 |lst Y=>obtain⟨a,L,rfl,h,_⟩:=r.aa5;cases g;obtain⟨i,_,p,_⟩:=I.list h;obtain⟨o,n,j,k,_⟩:=p;exact PySem.W.kia_one PySem.W.kitx_list I.kIn ⟨o,j,k⟩ e (λz=>nomatch z) b
 |dct=>obtain⟨a,o,rfl,h,x⟩:=r.af8;cases g;exact PySem.W.kia_one PySem.W.kitx_dict I.kIn ⟨o,(I.hok _ _ h).1,x.1⟩ e (λz=>nomatch z) b
def QX(t:HU T)(y:PB X a f)(z:de x=some (.type T):=by decide+kernel)(A:X.mg "isinstance"=none:=by assumption)(j:X.mg x=none:=by assumption)(B:Gl X "isinstance":=by rfl)(k:Gl X x:=by rfl)(C:(x==ja)=false:=by decide)(J:x≠ "__name__":=by decide)(o:bb [a,.Name x pt] X.env=(false,dm a X.env)::bb [.Name x pt] X.env:=by rfl)(N:bb [Expr.Name x pt] X.env=[(false,dm (.Name x pt) X.env)]:=by rfl)(U:(cy b (bb [Expr.Name x pt] X.env)).any (·.1)=false:=by rfl):
  PD X (.Call (.Name "isinstance" p) [a,.Name x pt] [] b) (λρ=>(f ρ).bind λd=>.ok (.bl (RF T d))):=by
 refine uR λg s σ H Q I Y O0 O ρ E q=>?_;refine aBf (T7 (u:=.builtin "isinstance") I B A (by decide+kernel) ?_);have hb:PE X (.Name x pt) (tC<|.ty T):=VJ k j z rfl J C;have h:=M8 y (M8 hb cR (by rw[N];rfl)) o b g s σ H (λL i=>∃v d,L=[v,.ty T]/\B4 X.K i O v d/\Q (.bl (RF T d)) i) I ⟨Y,O0,O,ρ,E,by refine RN.mono (RN.seq q) λv i l=>?_;obtain⟨d,_,s1,m,h1⟩:=l;exact⟨v,d,rfl,m,h1 _ i (Same.refl _) .bl⟩⟩
 refine aCr (F5 h λus s1 l=>?_) o U;obtain⟨L,i,I1,m,v,d,e,r,h⟩:=l;subst e;obtain⟨u,w,rfl,ru,n⟩:=vals2 m;cases n;exact XD I1 t r ru h
end
section
variable{K:ix}
def Kp.lst(k:Kp H O H' d){a:bc}{Y:List V}(n:¬O a)(h:P4 K H a Y)(f:∀o,K.lookup a=some o->¬d a):¬d a/\P4 K H' a Y:=by
 rcases h with(h|⟨o,h⟩)|h
 .exact⟨(k _ _ h n).2,.inl (.inl (k _ _ h n).1)⟩
 .exact⟨(k _ _ h n).2,.inl (.inr ⟨o,(k _ _ h n).1⟩)⟩
 obtain⟨o,b,m,e,g⟩:=h;exact⟨f o e,.inr ⟨o,b,m,e,g⟩⟩
def Kp.tup(k:Kp H O H' d)(b:∀a,O a->∃o,H a=some o/\Mt o){a:bc}{Y:List V}(h:Y0 K H a Y):Y0 K H' a Y:=by
 rcases h with(h|⟨o,h⟩)|h
 .exact .inl (.inl (k _ _ h λz=>by obtain⟨o,q,m⟩:=b a z;rw[h]at q;cases q;exact m).1)
 .exact .inl (.inr ⟨o,(k _ _ h λz=>by obtain⟨o,q,m⟩:=b a z;rw[h]at q;cases q;exact m).1⟩)
 exact .inr h
end
def X7(K:ix)(O:bc->Prop):Prop:=∀a o,K.lookup a=some o->¬O a
def Kp.rep{K:ix}{H H':Hp}{O b:bc->Prop}(k:Kp H O H' b)(e:∀a,O a->∃o,H a=some o/\Mt o)(f:X7 K b){v:V}{d:D}(r:Rep K H O v d):Rep K H' b v d:=
 r.mono (λ_ _ h=>k.tup e h) (λa _ n h=>k.lst n h λo q=>f a o q) λa _ n h=>⟨(k a _ h n).2,(k a _ h n).1⟩
def Kp.ad2{K:ix}{H H':Hp}{O b:bc->Prop}(k:Kp H O H' b)(e:∀a,O a->∃o,H a=some o/\Mt o)(f:X7 K b){v:List V}{d:List D}(r:Reps K H O v d):Reps K H' b v d:=
 r.mono (λ_ _ h=>k.tup e h) (λa _ n h=>k.lst n h λo q=>f a o q) λa _ n h=>⟨(k a _ h n).2,(k a _ h n).1⟩
inductive Out where
 |nx (ρ:Ev)|rt (d:D)|bk (ρ:Ev)|ct (ρ:Ev)
def RS(X:Cx)(g:Hp)(h:bc->Prop)(H:Hp)(O:bc->Prop)(r:R Out)(D:Ends):Prop:=match r with
 |.ok (.nx ρ)=>∀f a b,EnvOk X.K g h a b f ρ->X7 X.K b->Kp H O a b->D.nx f a
 |.ok (.bk ρ)=>∀f a b,EnvOk X.K g h a b f ρ->X7 X.K b->Kp H O a b->D.bk f a
 |.ok (.ct ρ)=>∀f a b,EnvOk X.K g h a b f ρ->X7 X.K b->Kp H O a b->D.ct f a
 |.ok (.rt d)=>∀v a,Same g a->Rep X.K a h v d->D.rt v a
 |.ex e=>∀a,Same g a->XW X e a
 |.bad=>False
def tS(X:Cx)(a:Hp)(b:bc->Prop)(F:Ev->R Out):TS:=λD σ H=>∃O ρ,EnvOk X.K a b H O σ ρ/\X7 X.K O/\RS X a b H O (F ρ) D
def nH(X:Cx)(st:cv)(F:Ev->R Out):Prop:=∀a b,PS X st (tS X a b F)
def bN(X:Cx)(st:List cv)(F:Ev->R Out):Prop:=∀a b,sS X st (tS X a b F)
def oz{X:Cx}{st:cv}{t t':TS}(h:PS X st t)(i:∀D σ H,t' D σ H->t D σ H):PS X st t':=λa s σ H D I q=>h a s σ H D I (i D σ H q)
def fH{X:Cx}{st:List cv}{t t':TS}(h:sS X st t)(i:∀D σ H,t' D σ H->t D σ H):sS X st t':=λa s σ H D I q=>h a s σ H D I (i D σ H q)
def BW{X:Cx}{st:cv}{t:TS}{F:Ev->R Out}{a:Hp}{b:bc->Prop}(h:PS X st t)(i:∀D σ H O ρ,EnvOk X.K a b H O σ ρ->X7 X.K O->RS X a b H O (F ρ) D->t D σ H):PS X st (tS X a b F):=oz h λD σ H ⟨O,ρ,E,f,q⟩=>i D σ H O ρ E f q
def a2p{X:Cx}{st:List cv}{t:TS}{F:Ev->R Out}{a:Hp}{b:bc->Prop}(h:sS X st t)(i:∀D σ H O ρ,EnvOk X.K a b H O σ ρ->X7 X.K O->RS X a b H O (F ρ) D->t D σ H):sS X st (tS X a b F):=fH h λD σ H ⟨O,ρ,E,f,q⟩=>i D σ H O ρ E f q
def RS.grow{X:Cx}{i:Hp}{j:bc->Prop}{H l:Hp}{O m:bc->Prop}{r:R Out}{D:Ends}(h:RS X i j H O r D)(k:Kp H O l m):RS X i j l m r D:=by
 cases r with
 |ok o=>
  cases o with
  |nx ρ=>exactλa b g E f q=>h a b g E f (k.trans q)
  |bk ρ=>exactλa b g E f q=>h a b g E f (k.trans q)
  |ct ρ=>exactλa b g E f q=>h a b g E f (k.trans q)
  |rt d=>exact h
 |ex e=>exact h
 |bad=>exact h
def D6(r:R Out)(F:Ev->R Out):R Out:=match r with
 |.ok (.nx ρ)=>F ρ
 |r=>r
section
variable{st:cv}{rest:List cv}
def RS.seq{a:Hp}{b:bc->Prop}{H:Hp}{O:bc->Prop}{r:R Out}{D:Ends}(h:RS X a b H O (D6 r G) D):RS X a b H O r {D with nx:=tS X a b G D}:=by
 cases r with
 |ok o=>
  cases o with
  |nx ρ=>exactλi j g E f k=>⟨g,ρ,E,f,(show RS X a b H O (G ρ) D from h).grow k⟩
  |bk ρ=>exact h
  |ct ρ=>exact h
  |rt d=>exact h
 |ex e=>exact h
 |bad=>exact h
def t5:bN X [] (λρ=>.ok (.nx ρ)):=λa b=>a2p GS λD σ H O ρ E f q=>q σ H O E f (Kp.refl _ _)
def c7(d:nH X st F)(e:bN X rest G):bN X (st::rest) (λρ=>D6 (F ρ) G):=λa b=>a2p (qA (d a b)<|e a b) λD σ H O ρ E f q=>⟨O,ρ,E,f,RS.seq q⟩
def e9(a:nH X st F):bN X [st] F:=λb d=>oI (a b d)
def j3{e:cu}{f:Ev->R D}(g:PD X e f):nH X (.Return (some e) h) (λρ=>(f ρ).bind λd=>.ok (.rt d)):=λi j=>BW (wG g) λD σ H O ρ E k q=>⟨i,j,O,ρ,E,by
 cases a:f ρ with
 |ok d=>rw[a]at q;exactλv b s r=>q v b (E.same.trans s) (r.sub E.sub)
 |ex x=>rw[a]at q;exactλb s=>q b (E.same.trans s)
 |bad=>rw[a]at q;exact q⟩
def i7(i:Nat){x:Str}{e:cu}{f:Ev->R D}{a:Pos}(j:PD X e f)(k:X.N.Nodup)(l:X.N[i]?=some x:=by rfl)(m:Loc X.env.scope x:=by first|exact aCB rfl|exact aBM rfl)
  (n:eQ e (some (.Name x a)) b.line X.env=pure false:=by rfl) (o:X.fn x=true\/X.env.scope.names.lookup x=some .local:=by first|exact .inl rfl|exact .inr rfl|assumption):
  nH X (.Assign [.Name x a] e b) (λρ=>(f ρ).bind λd=>.ok (.nx (ρ.set i (.v d)))):=λp t=>BW (NM k l m j n o) λD σ H O ρ E u q=>⟨p,t,O,ρ,E,by
 cases g:f ρ with
 |ok d=>rw[g]at q;exactλv h s r=>q _ h O ((E.grow s).set i r) u (Kp.of s)
 |ex x=>rw[g]at q;exactλh s=>q h (E.same.trans s)
 |bad=>rw[g]at q;exact q⟩
def B5{c:cu}{a b:List cv}{d:Ev->R Bool}(j:zE X c d)(k:bN X a F)(l:bN X b G):nH X (.If c a b m) (λρ=>(d ρ).bind λt=>if t=true then F ρ else G ρ):=λe f=>BW (YY j (k e f)<|l e f) λD σ H O ρ E h q=>⟨e,f,O,ρ,E,by
 cases g:d ρ with
 |ok t=>
  rw[g]at q;intro i s;cases t with
  |true=>rw[h9 rfl];exact⟨O,ρ,E.grow s,h,RS.grow q (Kp.of s)⟩
  |false=>rw[ia aAU];exact⟨O,ρ,E.grow s,h,RS.grow q (Kp.of s)⟩
 |ex x=>rw[g]at q;exactλi s=>q i (E.same.trans s)
 |bad=>rw[g]at q;exact q⟩
def ZC(K:ix)(J:It)(H:Hp)(O:bc->Prop)(ds:List D):Prop:=∀b e,Kp H O b e->X7 K e->(∀a,O a->∃o,H a=some o/\Mt o)->(∀a,e a->∃o,b a=some o/\Mt o)->∀i:Nat,
 (∀d,ds[i]?=some d->J.go i b/\∀x f,J.yld i b x f->Same b f/\Rep K f e x d)/\(ds[i]?=none->J.stop i b)
def tI(X:Cx)(f:Ev->R (List D)):TI:=λσ H R=>∃b d O ρ,EnvOk X.K b d H O σ ρ/\X7 X.K O/\match f ρ with
 |.ok g=>∀J a,Same H a->ZC X.K J a O g->R J a
 |.ex e=>∀a,Same H a->XW X e a
 |.bad=>False
def VD(X:Cx)(a w8:cu)(f:Ev->R (List D)):Prop:=PI X a w8 (tI X f)
def FA(h:PI X b w8 t)(i:∀σ H R,t' σ H R->t σ H R):PI X b w8 t':=λa s σ H R I q=>h a s σ H R I (i σ H R q)
def iZ:D->R (List D)
 |.lst Y=>.ok Y
 |_=>.bad
def HK:D->R (List D)
 |.tup Y=>.ok Y
 |_=>.bad
def t7(h:PD X w8 f):VD X B w8 (λρ=>(f ρ).bind iZ):=FA (XS h) λσ H R ⟨l,m,O,ρ,E,C,q⟩=>⟨l,m,O,ρ,E,by
 dsimp only at q;cases e:f ρ with
 |ok d=>
  rw[e]at q;cases d with
  |lst Y=>
   intro v p s r;cases r with
   |lst h n r=>
    rename_i a L;refine⟨a,rfl,⟨L,h⟩,q (Itl X.K a) p s ?_⟩;intro I J k g t u i;obtain⟨N,b⟩:=k.lst n h λo q=>g a o q;have w:=k.ad2 t g r;refine⟨λd e=>?_,λe=>⟨L,b,by rw[r.length];exact aCo.mp e⟩⟩;obtain⟨v,j,y⟩:=w.get e;exact⟨⟨L,v,b,j⟩,by rintro x Q ⟨z,A⟩;subst z;have:=A L b;rw[j]at this;cases this;exact⟨Same.refl _,y⟩⟩
  |_=>exact aAf q
 |ex x=>rw[e]at q;exact q
 |bad=>rw[e]at q;exact q⟩
def UU(h:PD X w8 f):VD X z w8 (λρ=>(f ρ).bind HK):=FA (bz h) λσ H R ⟨l,m,O,ρ,E,A,q⟩=>⟨l,m,O,ρ,E,by
 dsimp only at q;cases e:f ρ with
 |ok d=>
  rw[e]at q;cases d with
  |tup Y=>
   intro v n s r;cases r with
   |tup h r=>
    rename_i a L;refine⟨a,rfl,⟨L,h⟩,q (Itt X.K a) n s ?_⟩;intro B C k o g p i;have b:=k.tup g h;have t:=k.ad2 g o r;refine⟨λd e=>?_,λe=>⟨L,b,by rw[r.length];exact aCo.mp e⟩⟩;obtain⟨v,j,u⟩:=t.get e;exact⟨⟨L,v,b,j⟩,by rintro x I ⟨w,y⟩;subst w;have:=y L b;rw[j]at this;cases this;exact⟨Same.refl _,u⟩⟩
  |_=>exact aAf q
 |ex x=>rw[e]at q;exact q
 |bad=>rw[e]at q;exact q⟩
def sk(lo c:Int)(n:Nat):It:=⟨λi _=>i<n,λi H x a=>a=H/\x=.int (lo+i*c),λi _=>n<=i⟩
def zW{P:bM}{w:cp}{K:ix}{J:cu}(it:bc)(lo c:Int)(n:Nat):Turn P w K J (sk lo c n) [it] it (λi h=>IsRangeIter h it (lo+(i:Nat)*c) ((n:Int)-(i:Nat)) c)where
 mem:=by simp
 obj:=λi h st b d=>by
  have e:b=it:=by simpa using d
  subst e;exact⟨_,st,λv z=>by have L:Data.fields _=Data.cell v:=z;cases L⟩
 keep:=λi h g st k=>k it (by simp) _ st
 item:=by intro X l m p q i a s σ H E I j st r;subst l m p;obtain⟨u,x,N,y,A,B⟩:=j it (by simp);have W:=Walks.range (prog:=X.prog) (w:=X.w) (I.ok.hd q) it lo c n;refine W.item i s _ _ r st λv g C O f kk=>?_;obtain⟨t,rfl⟩:=O;have Q:Inv X a σ H {s with heap:=g,toks:=C}:=I.turned (λb o d e=>kk b o (by simpa using d) e) u x y A B;exact⟨_,rfl,TQ (s:={s with heap:=g,toks:=C}) (n:= "range_iterator") f rfl rfl (by decide) ⟨.int (lo+i*c),H,Q,⟨t,rfl⟩,⟨rfl,rfl⟩,f,λb d=>(j b d).1⟩⟩
 done:=by intro X l m p q i a s σ H E I j st r;subst l m p;obtain⟨u,x,N,y,A,B⟩:=j it (by simp);exact wpAny_pyNext_range_end (I.ok.hd q) st (by have:n<=i:=r;lia) λg T=>⟨rfl,I.turned (t':=s.toks) (λb o d e=>T b o d e) u x y A B⟩
 self:=λ_ _ _ _ _ st h=>wpAny_pyIter_rangeiter st h
def wS(lo c:Int)(n:Nat):List D:=(aBc n).map λ(k:Nat)=>D.int (lo+(k:Int)*c)
def lQ(K:ix)(H:Hp)(O:bc->Prop)(lo c:Int)(n:Nat):ZC K (sk lo c n) H O (wS lo c n):=by
 intro h j k l m b i;unfold wS;rw[aAG];by_cases a:i<n
 .rw[List.getElem?_range a];refine⟨λd e=>?_,λe=>(by cases e)⟩;cases e;exact⟨a,by rintro x o ⟨f,g⟩;subst f g;exact⟨Same.refl _,.int⟩⟩
 rw[aCo.mpr (by simpa using a)];exact⟨λd e=>(by cases e),λ_=>aEo a⟩
def iH(a b c:Int):Nat:=if a<b then((b-a-1)/c+1).toNat else 0
def IY(d:0<c):aCE a b c=(iH a b c:Int):=by
 unfold aCE iH;rw[h9 (by lia)];split
 .have:0<=(b-a-1)/c:=Int.ediv_nonneg (by lia) (by lia)
  lia
 rfl
def MC(j:0<c)(k:c<2^30)(l:-(2^60)<=a)(i:a<2^60)(m:-(2^60)<=b)(n:b<2^60):aGl a b c=true:=by
 unfold aGl;have e:aCE a b c=if a<b then(b-a-1)/c+1 else 0:=by unfold aCE;rw[h9 (by lia)]
 rw[e];have d:a<b->(b-a-1)/c<=b-a-1:=λh=>Int.ediv_le_self _ (by lia);have f:a<b->0<=(b-a-1)/c:=λh=>Int.ediv_nonneg (by lia) (by lia);have g:a<b->(b-a-1)/c*c<=b-a-1:=λh=>Int.ediv_mul_le _ (by lia);simp only[Builtin.Range.rangeFitsLong,aAQ,Bool.or_eq_true,decide_eq_true_eq,beq_iff_eq,show c>0 by lia,if_true];split
 .rename_i h;have d:=d h;have f:=f h;have g:=g h;generalize(b-a-1)/c=q at*
  lia
 lia
def rP(a b c:Int):Prop:=0<c/\c<2^30/\-(2^60)<=a/\a<2^60/\-(2^60)<=b/\b<2^60
instance(a b c:Int):Decidable (rP a b c):=inferInstanceAs (Decidable<|_/\_)
def gG:List D->R (List D)
 |[.int b]=>if rP 0 b 1 then .ok (wS 0 1 (iH 0 b 1))else .bad
 |[.int a,.int b]=>if rP a b 1 then .ok (wS a 1 (iH a b 1))else .bad
 |[.int a,.int b,.int c]=>if rP a b c then .ok (wS a c (iH a b c))else .bad
 |_=>.bad
def lZ{R:It->Hp->Prop}{E:F7}(I:Inv X d σ H s)(h:rP a b c)(q:R (sk a c (iH a b c)) H):a9 (be X.prog X.w) X.A (pyIter (.ref s.heap.objs.size)) (PIE X d σ y R) E {s with heap:=s.heap.push {cls:=.type "range",data:=.fields #[.int a t,.int b u,.int c v]},toks:=tk}:=by
 obtain⟨g,i,j,k,l,m⟩:=h;refine wpAny_pyIter_range (IsRange.new ..) (MC g i j k l m) ?_;have f:Inv X d σ H {s with heap:=s.heap.push {cls:=.type "range",data:=.fields #[.int a t,.int b u,.int c v]},toks:=tk}:=I.kept λb o e=>aAd _ e;refine⟨(s.heap.push {cls:=.type "range",data:=.fields #[.int a t,.int b u,.int c v]}).objs.size,[(s.heap.push {cls:=.type "range",data:=.fields #[.int a t,.int b u,.int c v]}).objs.size],_,_,H,rfl,
  f.kept (t':=tk) λb o e=>aAd _ e,zW _ a c (iH a b c),?_,λn p=>?_,q⟩
 .have r:a+((0:Nat):Int)*c=a:=by simp
  have x:((iH a b c:Nat):Int)-((0:Nat):Int)=aCE a b c:=by rw[IY g];simp
  show IsRangeIter _ _ (a+((0:Nat):Int)*c) (((iH a b c:Nat):Int)-((0:Nat):Int)) c;rw[r,x];exact aAq _ rfl
 have e:n=(s.heap.push {cls:=.type "range",data:=.fields #[.int a t,.int b u,.int c v]}).objs.size:=by simpa using p
 subst e;exact f.ae9 (aAl _) (f.hok.fresh<|aAl _)
def NH{R:It->Hp->Prop}{O:bc->Prop}(I:Inv X e σ H s)(r:Paired (B4 X.K H O) L ds)(f:l7 L i)(h:gG ds=.ok j)(q:∀J,ZC X.K J H O j->R J H):a9 (be X.prog X.w) X.A (call (.type "range") i) (λv k=>a9 (be X.prog X.w) X.A (pyIter v) (PIE X e σ y R) X.xe k) X.xe s:=by
 match ds,h with
 |[.int b],h=>
  obtain⟨v,rfl,z⟩:=PL r;cases z.aa6;obtain⟨u,rfl,t,rfl⟩:=vals1 f;simp only[gG]at h;split at h
  .rename_i d;cases h;exact call_range_1 (lZ I d<|q _<|lQ _ _ _ _ _ _)
  cases h
 |[.int a,.int b],h=>
  obtain⟨v,l,rfl,z,g⟩:=pr2 r;cases z.aa6;cases g.aa6;obtain⟨u,m,rfl,⟨t,rfl⟩,⟨n,rfl⟩⟩:=vals2 f;simp only[gG]at h;split at h
  .rename_i d;cases h;exact call_range_2 (lZ I d<|q _<|lQ _ _ _ _ _ _)
  cases h
 |[.int a,.int b,.int c],h=>
  cases r with
  |cons o r=>
   obtain⟨v,l,rfl,z,g⟩:=pr2 r;cases o.aa6;cases z.aa6;cases g.aa6;cases f with
   |cons p f=>
    obtain⟨u,m,rfl,⟨t,rfl⟩,⟨n,rfl⟩⟩:=vals2 f;obtain⟨B,rfl⟩:=p;simp only[gG]at h;split at h
    .rename_i d;cases h;have x:=d;obtain⟨C,E,_⟩:=x;exact call_range_3 (by lia) (lZ (tk:=s.toks) I d<|q _<|lQ _ _ _ _ _ _) (.inl (PyProof.noPylong_small (by lia)))
    cases h
def V5{o e:cu}{es:List cu}{p:Pos}{f:Ev->R (List D)}(t:tq X (e::es) f)(u:Gl X "range":=by rfl)(v:X.mg "range"=none:=by assumption)
  (w:bb (e::es) X.env=(false,dm e X.env)::bb es X.env:=by rfl) (y:(cy i (bb es X.env)).any (·.1)=false:=by rfl):
  VD X o (.Call (.Name "range" p) (e::es) [] i) (λρ=>(f ρ).bind gG):=by
 rintro j s σ H Q I ⟨z,A,O,ρ,E,Y,q⟩;dsimp only at q;refine Call_ (T7 I u v boot_range<|aBv (F5 (t i j s σ H (λL g=>∃h k,Same H g/\Paired (B4 X.K g O) L h/\gG h=.ok k/\∀J,ZC X.K J g O k->Q J g) I ⟨z,A,O,ρ,E,?_⟩) λus l B=>?_) w y)
 .cases m:f ρ with
  |ok h=>
   rw[m]at q;intro L g l n;rw[R.aa0]at q;cases d:gG h with
   |ok k=>rw[d]at q;exact⟨h,k,l,n,d,λJ C=>q J g l C⟩
   |ex x=>
    rw[d]at q;match h,d with
    |[.int b],d=>simp only[gG]at d;split at d<;>cases d
    |[.int a,.int b],d=>simp only[gG]at d;split at d<;>cases d
    |[.int a,.int b,.int c],d=>simp only[gG]at d;split at d<;>cases d
   |bad=>rw[d]at q;exact q.elim
  |ex x=>rw[m]at q;exact q
  |bad=>rw[m]at q;exact q
 obtain⟨L,g,N,n,h,k,sm,r,T,U⟩:=B;exact NH N r n T U
def tG(X:Cx)(G:D->Ev->R Ev):TG:=λv σ H Q=>∃e f O ρ d a,EnvOk X.K e f H O σ ρ/\Rep X.K H O v d/\G d ρ=.ok a/\∀g b,Same H b->EnvOk X.K e f b O g a->Q g b
def LO(X:Cx)(a:cu)(G:D->Ev->R Ev):Prop:=PG X a (tG X G)
def kj(h:PG X b t)(i:∀v σ H Q,t' v σ H Q->t v σ H Q):PG X b t':=λa s σ H v u Q I r q=>h a s σ H v u Q I r (i v σ H Q q)
def n6(i:Nat)(a:X.N.Nodup)(b:X.N[i]?=some x:=by rfl)(f:Loc X.env.scope x:=by first|exact aCB rfl|exact aBM rfl)(g:X.fn x=true\/X.env.scope.names.lookup x=some .local:=by first|exact .inl rfl|exact .inr rfl|assumption):
  LO X (.Name x h) (λd ρ=>.ok (ρ.set i (.v d))):=kj (XQ a b f g)<|by
 rintro v σ H Q ⟨k,l,O,ρ,d,j,E,r,e,q⟩;cases e;exact q _ H (Same.refl _) (E.set i r)
def tGs(X:Cx)(G:List D->Ev->R Ev):uw:=λL σ H Q=>∃d e O ρ f a,EnvOk X.K d e H O σ ρ/\Reps X.K H O L f/\G f ρ=.ok a/\∀g b,Same H b->EnvOk X.K d e b O g a->Q g b
def WK(X:Cx)(a:List cu)(G:List D->Ev->R Ev):Prop:=zk X a (tGs X G)
def HG{b:List cu}{t t':uw}(h:zk X b t)(i:∀v σ H Q,t' v σ H Q->t v σ H Q):zk X b t':=λa s σ H v u Q I r q=>h a s σ H v u Q I r (i v σ H Q q)
def mL:List D->Ev->R Ev
 |[],ρ=>.ok ρ
 |_,_=>.bad
def Q5(G:D->Ev->R Ev)(b:List D->Ev->R Ev):List D->Ev->R Ev
 |d::e,ρ=>(G d ρ).bind λa=>b e a
 |_,_=>.bad
def cU:WK X [] mL:=HG WA<|by
 rintro L σ H Q ⟨b,d,O,ρ,f,a,E,r,e,q⟩;cases r with
 |nil=>cases e;exact⟨rfl,q σ H (Same.refl _) E⟩
 |cons _ _=>cases e
def B8{e:cu}{es:List cu}{G:D->Ev->R Ev}{g:List D->Ev->R Ev}(l:LO X e G)(m:WK X es g)
  (n:(dC (e::es) X.env).map (·.2)=gs e X.env::(dC es X.env).map (·.2):=by rfl):WK X (e::es) (Q5 G g):=HG (OM l m n)<|by
 rintro L σ H Q ⟨h,i,O,ρ,j,f,E,r,e,q⟩;cases r with
 |nil=>cases e
 |@cons v d L j r o=>
  simp only[Q5]at e;cases b:G d ρ with
  |ok a=>rw[b]at e;exact⟨v,L,rfl,h,i,O,ρ,d,a,E,r,b,λp z k s=>⟨h,i,O,a,j,f,s,o.same k,e,λt u w y=>q t u (k.trans w) y⟩⟩
  |ex x=>rw[b]at e;cases e
  |bad=>rw[b]at e;cases e
def fV(n:Nat)(b:List D->Ev->R Ev):D->Ev->R Ev
 |.tup a,ρ=>if a.length=n then b a ρ else .bad
 |.lst a,ρ=>if a.length=n then b a ρ else .bad
 |_,_=>.bad
end
section
theorem tO(f:t≠it):∀(n i:Nat) (s:ba) (Q:List au->ba->Prop),s.heap.IsListIter it t i->s.heap.IsList t items->i+n<=items.size->
  (∀h',h'.IsListIter it t (i+n)->Heap.SameBut it s.heap h'->Q ((items.toList.drop i).take n) {s with heap:=h'})->a9 (be prog w) A (draw (.ref it) n) Q E s
 |0,i,s,Q,a,_,_,e=>by show a9 _ _ (pure []) Q E s;exact aAb (by simpa using e s.heap a (aGA ..))
 |n+1,i,s,Q,a,g,l,e=>by
  have h:i<items.size:=by omega
  show a9 _ _ (fh (.ref it)>>=_) Q E s;refine aAa (wpAny_pyNext_list_item a g (x:=items[i]) (by simp[h]) λj b k=>?_);refine aAa (aAW (tO f n (i+1) _ _ b (g.extBut k.extBut f) (by omega) λm d o=>aAb ?_));have p:items.toList.drop i=items[i]::items.toList.drop (i+1):=by simp[aDJ,h]
  have:=e m (by rw[show i+(n+1)=i+1+n by omega];exact d) (k.trans o);rw[p,List.take_succ_cons]at this;exact this
def kD{Q:List au->ba->Prop}(n:A.handled=none)(g:s.heap.IsList t items)(p:∀h',Heap.ExtBut s.heap.objs.size s.heap h'->Q items.toList {s with heap:=h'}):a9 (be prog w) A (unpackItems (.ref t) items.size none) Q E s:=by
 have k:t≠s.heap.objs.size:=by obtain⟨o,h,_⟩:=g;exact aAm (aAg h)
 unfold unpackItems;refine aAa ?_
 unfold notIterableAtAll;refine aAa (aBC g.typeIs slot_list_iter.lookup ?_);refine aAb ?_;simp only[aAv,if_false];refine aAa (aAW<|aDB g ?_);have a:(s.heap.push {cls:=.type "list_iterator",data:=.fields #[.ref t,.int 0 0]}).IsList t items:=by obtain⟨o,h,r⟩:=g;exact⟨o,aAd _ h,r⟩
 refine aAa (aAW (tO k items.size 0 _ _ ⟨_,aAq _ rfl,rfl,rfl⟩ a (by omega) λd f l=>?_));have q:List.take items.size (List.drop 0 items.toList)=items.toList:=by rw[aGi];exact aDl (by simp)
 rw[q];rw[ia (by simp)];have i:d.IsList t items:=a.extBut l.extBut k;refine aAa (aAW (wpAny_pyNext_list_end n f i (by simp) λu j=>?_));simp only[Option.isSome_none,aAv,if_false];refine aAb (p u λb o m e=>j b o m (l.extBut b o m<|aAd _ e))
def jY{d}{Q:Unit->ba->Prop}(e:A.handled=none)(f:s.heap.IsList t items)(g:(dC a env).length=items.size)(b:(dC a env).findIdx? (·.1)=none)(h:∀h',Heap.ExtBut s.heap.objs.size s.heap h'->a9 (be prog w) A (assignInOrder ((dC a env).map (·.2)) items.toList) Q E {s with heap:=h'}):
  a9 (be prog w) A (gs (.Tuple a d i) env (.ref t)) Q E s:=by
 rw[assign_Tuple];refine aAa (aEx ?_);unfold unpack;rw[g,b];exact aAa (aAW<|kD e f h)
end
section
def jD(A:X.calm=true)(h:WK X es T)(B:(dC es X.env).length=n:=by rfl)(C:(dC es X.env).findIdx? (·.1)=none:=by rfl):LO X (.Tuple es k U) (fV n T):=by
 rintro f s σ H v u Q I r ⟨J,N,O,ρ,d,g,E,Y,e,q⟩;cases Y with
 |@tup a L l m i=>
  cases r;simp only[fV]at e;split at e
  .rename_i p;obtain⟨t,j,w,hz⟩:=I.tuple m;refine assign_Tuple_tuple (I.ok.hd A) w (by simp[B,<-p,<-i.length,j.length]) C λx y=>?_;have z:Inv X f σ H {s with heap:=x}:=I.kept (t':=s.toks) λb o e=>y b o (aAm<|aAg e) e;exact h f _ σ H L _ Q z (by simpa using j) ⟨J,N,O,ρ,l,g,E,i,e,q⟩
  cases e
 |@lst a L l m _ i=>
  cases r;simp only[fV]at e;split at e
  .rename_i p;obtain⟨t,j,w,hz⟩:=I.list m;refine jY (I.ok.hd A) w.isList (by simp[B,<-p,<-i.length,j.length]) C λx y=>?_;have z:Inv X f σ H {s with heap:=x}:=I.kept (t':=s.toks) λb o e=>y b o (aAm<|aAg e) e;exact h f _ σ H L _ Q z (by simpa using j) ⟨J,N,O,ρ,l,g,E,i,e,q⟩
  cases e
 |_=>cases e
def QK(f:Ev->R D)(G:D->Ev->R Ev):Ev->R Out:=λρ=>(f ρ).bind λd=>match G d ρ with
 |.ok a=>.ok (.nx a)
 |_=>.bad
def HP(m:PD X e f)(n:LO X a G)(o:fo [a] e g.line X.env=pure false:=by rfl)(p:gk [a] e X.env=pure none:=by rfl)(t:(dC [a] X.env).map (·.2)=[gs a X.env]:=by rfl):nH X (.Assign [a] e g) (QK f G):=λj k=>BW (DG m n o p t) λD σ H O ρ E u q=>⟨j,k,O,ρ,E,by
 unfold QK at q;cases h:f ρ with
 |ok d=>
  rw[h,R.aa0]at q;intro v l s r;cases b:G d ρ with
  |ok i=>rw[b]at q;exact⟨j,k,O,ρ,d,i,E.grow s,r,b,λw y z A=>q w y O A u (Kp.of<|s.trans z)⟩
  |ex x=>rw[b]at q;exact aAf q
  |bad=>rw[b]at q;exact aAf q
 |ex x=>rw[h]at q;exactλl s=>q l (E.same.trans s)
 |bad=>rw[h]at q;exact q⟩
def OC(i j:Nat){e g xW}(o:X.calm=true)(p:X.N.Nodup)(t:MF X [a,b] f)(u:X.N[i]?=some x:=by rfl)(w:X.N[j]?=some y:=by rfl)(z:i≠j:=by decide)(A:X.env.scope.names.lookup x=some .local:=by rfl)(B:X.env.scope.names.lookup y=some .local:=by rfl)(C:gk [.Tuple [.Name x m,.Name y n] e pt] (.Tuple [a,b] g xW) X.env=pure (some [x,y]):=by rfl)(I:fo [.Tuple [.Name x m,.Name y n] e pt] (.Tuple [a,b] g xW) h.line X.env=pure false:=by rfl):
  nH X (.Assign [.Tuple [.Name x m,.Name y n] e pt] (.Tuple [a,b] g xW) h) (λρ=>(f ρ).bind λds=>match ds with
   |[d,d']=>.ok (.nx ((ρ.set i (.v d)).set j (.v d')))
   |_=>.bad):=λJ Q=>BW (qw o p u w z A B t C I) λD σ H O ρ E T q=>⟨J,Q,O,ρ,E,by
 cases k:f ρ with
 |ok ds=>
  rw[k,R.aa0]at q;intro L l s r;cases r with
  |nil=>exact aAf q
  |cons U r=>
   cases r with
   |nil=>exact aAf q
   |cons Y r=>
    cases r with
    |nil=>exact⟨_,_,rfl,q _ l O (((E.grow s).set i U).set j Y) T (Kp.of s)⟩
    |cons _ _=>exact aAf q
 |ex x=>rw[k]at q;exactλl s=>q l (E.same.trans s)
 |bad=>rw[k]at q;exact q⟩
def V3(G:D->Ev->R Ev)(F:Ev->R Out):List D->Ev->R Out
 |[],ρ=>.ok (.nx ρ)
 |d::e,ρ=>match G d ρ with
  |.ok b=>match F b with
   |.ok (.nx a)=>V3 G F e a
   |.ok (.ct a)=>V3 G F e a
   |.ok (.bk a)=>.ok (.nx a)
   |r=>r
  |_=>.bad
def M5(hp:PassesOwn (be X.prog X.w) X.A X.env X.xe)(hc:X.calm=true)(hi:VD X tg w8 f)(hg:LO X tg G)(hb:bN X body F)(hs:∀x,d7 w8 X.env x=pure x:=by intro _;rfl):nH X (.For tg w8 body [] pos) (λρ=>(f ρ).bind λds=>V3 G F ds ρ):=λk l=>BW (aj hp hc hi hg (hb k l) hs) λD σ H O ρ E fk q=>⟨k,l,O,ρ,E,fk,by
 cases Q:f ρ with
 |ex x=>rw[Q]at q;exactλj s=>q j (E.same.trans s)
 |bad=>rw[Q]at q;exact q
 |ok ds=>
  rw[Q,R.aa0]at q;intro J H1 T hJ;refine⟨λi m U j=>m=ds.length-i/\i<=ds.length/\∃g h,EnvOk X.K k l j g U h/\X7 X.K g/\Kp H1 O j g/\RS X k l j g (V3 G F (ds.drop i) h) D,⟨ds.length,by simp,aAY _,O,ρ,E.grow T,fk,Kp.refl _ _,?_⟩,?_⟩
  .rw[aGi];exact q.grow (Kp.of T)
  rintro i m U j ⟨rfl,hi,g,h,Y,n,k',a⟩;have z:=hJ j g k' n (E.grow T).trk Y.trk i;by_cases ah:i<ds.length
  .obtain⟨go,yl⟩:=z.1 ds[i] (aAi ah);refine .inr ⟨go,λwe v=>∃L b,EnvOk X.K k l v L we b/\X7 X.K L/\Kp H1 O v L/\RS X k l v L (V3 G F (ds.drop<|i+1) b) D,λwe v p=>⟨ds.length-(i+1),by omega,rfl,ah,p⟩,λx v y=>?_⟩;obtain⟨s2,r2⟩:=yl x v y;rw[aDJ ah,V3]at a;cases N:G ds[i] h with
   |ex x=>rw[N]at a;exact(show False from a).elim
   |bad=>rw[N]at a;exact(show False from a).elim
   |ok r=>
    rw[N]at a;dsimp only at a;refine⟨k,l,g,h,ds[i],r,Y.grow s2,r2,N,λqm H3 s3 E3=>⟨g,r,E3,n,?_⟩⟩;have kk:Kp j g H3 g:=Kp.of (s2.trans s3);cases e3:F r with
    |ex x=>rw[e3]at a;exact a
    |bad=>rw[e3]at a;exact a
    |ok o=>
     rw[e3]at a;cases o with
     |nx b=>exactλt H4 B C I u=>⟨B,b,C,I,k'.trans (kk.trans u),RS.grow a (kk.trans u)⟩
     |ct b=>exactλt H4 B C I u=>⟨B,b,C,I,k'.trans (kk.trans u),RS.grow a (kk.trans u)⟩
     |bk b=>exactλt H4 B C I u=>a t H4 B C I (kk.trans u)
     |rt d=>exact a
  have e:i=ds.length:=by omega
  subst e;rw[List.drop_length,V3]at a;exact .inl ⟨z.2 (by simp),a U j g Y n (Kp.refl _ _)⟩⟩
def T5(c:Ev->R Bool)(F:Ev->R Out):Nat->Ev->R Out
 |0,_=>.bad
 |n+1,ρ=>(c ρ).bind λb=>if b=true then(match F ρ with
  |.ok (.nx a)=>T5 c F n a
  |.ok (.ct a)=>T5 c F n a
  |.ok (.bk a)=>.ok (.nx a)
  |r=>r)else .ok (.nx ρ)
def lK(n:Ev->Nat)(Y:PassesOwn (be X.prog X.w) X.A X.env X.xe)(hc:zE X c y)(hb:bN X body F):nH X (.While c body [] pos) (λρ=>T5 y F (n ρ) ρ):=λi j=>BW (TC Y hc<|hb i j) λD σ H O ρ E fk q=>by
 refine⟨λm I z=>∃f e,EnvOk X.K i j z f I e/\X7 X.K f/\RS X i j z f (T5 y F m e) D,⟨n ρ,O,ρ,E,fk,q⟩,?_⟩;rintro m I z ⟨f,e,B,l,a⟩;cases m with
 |zero=>exact(show False from a).elim
 |succ m=>
  rw[T5]at a;refine⟨i,j,f,e,B,?_⟩;cases J:y e with
  |ex x=>rw[J]at a;exactλC k=>a C (B.same.trans k)
  |bad=>rw[J]at a;exact a
  |ok b=>
   rw[J,R.aa0]at a;intro C k;cases b with
   |false=>rw[ia aAU]at a⊢;exact a I C f (B.grow k) l (Kp.of k)
   |true=>
    rw[h9 rfl]at a⊢;refine⟨λU L=>∃N r,EnvOk X.K i j L N U r/\X7 X.K N/\RS X i j L N (T5 y F m r) D,λU L p=>⟨m,aDN m,p⟩,f,e,B.grow k,l,?_⟩;have kk:Kp z f C f:=Kp.of k;cases Q:F e with
    |ex x=>rw[Q]at a;exact a
    |bad=>rw[Q]at a;exact a
    |ok o=>
     rw[Q]at a;cases o with
     |nx g=>exactλh T s t u v=>⟨s,g,t,u,RS.grow a (kk.trans v)⟩
     |ct g=>exactλh T s t u v=>⟨s,g,t,u,RS.grow a (kk.trans v)⟩
     |bk g=>exactλh T s t u v=>a h T s t u (kk.trans v)
     |rt d=>exact a
end
def zq(K:ix)(n:Nat)(m:List D->R D):Sp:=λL H Q _=>∃O b d,Reps K H O L b/\b.length=n/\(∀a,O a->∃o,H a=some o/\Mt o)/\Tb H/\X7 K O/\m b=.ok d/\∀v e,Same H e->Rep K e O v d->Q v e
def j6(N:List Str)(ds:List D):Ev:=ds.map Sl.v++aCW (N.length-ds.length) Sl.no
def P3:R Out->R D
 |.ok (.rt d)=>.ok d
 |.ok (.nx _)=>.ok .non
 |.ex e=>.ex e
 |_=>.bad
def lS{K:ix}{H:Hp}{O:bc->Prop}{N:List Str}{L:List V}{ds:List D}(r:Reps K H O L ds)(t:∀a,O a->∃o,H a=some o/\Mt o)(tb:Tb H):EnvOk K H O H O (start N L) (j6 N ds)where
 len:=by simp[L2.start,j6,r.length]
 same:=Same.refl H
 sub:=λ_ h=>h
 trk:=t
 trk0:=λa h=>let⟨o,q,_⟩:=t a h;⟨o,q⟩
 tab:=tb
 slot:=λi g h=>by
  unfold j6 at h;unfold L2.start;by_cases b:i<ds.length
  .rw[aBb (by simpa using b),aAG]at h;cases e:ds[i]? with
   |none=>rw[e]at h;cases h
   |some d=>rw[e]at h;have f:Sl.v d=g:=Option.some.inj h;subst f;obtain⟨v,k,l⟩:=r.get e;exact⟨v,by rw[aBb (by rw[aAh,r.length];exact b),aAG,k];rfl,l⟩
  rw[aAA (by simpa using b),aBA]at h;split at h
  .cases h;trivial
  cases h
 inj:=λi j x y a h _ o=>by
  unfold j6 at h;by_cases b:i<ds.length
  .rw[aBb (by simpa using b),aAG]at h;cases e:ds[i]? with
   |none=>rw[e]at h;cases h
   |some d=>rw[e]at h;have f:Sl.v d=x:=Option.some.inj h;subst f;exact o.elim
  rw[aAA (by simpa using b),aBA]at h;split at h
  .cases h;exact o.elim
  cases h
section
variable{K:ix}
abbrev UH(P:bM)(w:cp)(K:ix)(mg:cM)(base:cq)(N:List Str)(qual:Str)(sc:hE)(f:bc)(C:au)(A:cf)(a:List Env)(s:ba)(H:Hp)(E:XK):Cx:=(DH uO P w K mg base N qual sc f C A a s H E).nox
def fnD{x qual:Str}{st:cv}{f:bc}{fd:dA}{N ps:List Str}{k:Nat}{m:List D->R D}{F:Ev->R Out}(j:Fun K x qual st f fd)(S:FnScope N ps (c6 st))
  (l:∀(C:au) (A:cf) (a:List Env) (s:ba) (H:Hp) (E:XK),Room k (A.deeper (envOfC qual (c6 st) s.heap.objs.size f C))->bN (UH P w K mg base N qual (c6 st) f C A a s H E) (q8 st) F)
  (n:∀ds d,ds.length=ps.length->m ds=.ok d->P3 (F (j6 N ds))=.ok d):FnOk P w K mg base uO (k+1) f fd ps (zq K ps.length m):=by
 refine j.ok S (by rintro L H Q E ⟨O,ds,d,r,g,_⟩;rw[r.length];exact g) (λC A a s H L Q E p t=>?_);obtain⟨O,ds,d,r,g,u,v,y,e,q⟩:=t;refine⟨_,l C A a s H E p H O,O,_,lS r u v,y,?_⟩;have h:=n ds d g e;cases i:F (j6 N ds)with
 |ok o=>
  rw[i]at h;cases o with
  |rt z=>have b:R.ok z=R.ok d:=h;injection b with b;subst b;exact q
  |nx ρ=>have b:R.ok D.non=R.ok d:=h;injection b with b;subst b;exactλJ B T I _ _=>q .non B I.same .non
  |bk ρ=>cases h
  |ct ρ=>cases h
 |ex x=>rw[i]at h;cases h
 |bad=>rw[i]at h;cases h
end
section
def nE(I:Inv X b σ H s)(O:bc->Prop)(t:∀a,O a->∃o,H a=some o/\Mt o):X7 X.K O:=λa o d z=>by obtain⟨u,h,_⟩:=t a z;have:=(I.bs a o<|I.ok.mod.kin a o d).2;rw[h]at this;cases this
def XI(F:FnOk X.prog X.w X.K X.mg X.base uO k g o ps (zq X.K n m))(r:Room k X.A)(t:X.mg x=some (.ref g))(u:PySem.W.keepIn X.K (.ref g)=true)(y:Binds X.K o ps [])(B:MF X (e::es) f)(C:∀ρ ds,f ρ=.ok ds->ds.length=n)(J:Gl X x:=by rfl)(N:(x==ja)=false:=by decide)(T:bb (e::es) X.env=(false,dm e X.env)::bb es X.env:=by rfl)(U:(cy i (bb es X.env)).any (·.1)=false:=by rfl):
  PD X (.Call (.Name x p) (e::es) [] i) (λρ=>(f ρ).bind m):=by
 refine uR λa s σ H Q I Y O0 O ρ E q=>?_;refine IQ F r J t u y .nil ZB B N T U a s σ H Q I ⟨Y,O0,O,ρ,E,?_⟩;dsimp only at q;cases b:f ρ with
 |ex z=>rw[b]at q;exact q
 |bad=>rw[b]at q;exact q
 |ok ds=>
  rw[b,R.aa0]at q;intro L H1 j r1;rw[aCb];have l:=E.grow j;cases h:m ds with
  |ex z=>rw[h]at q;exact(q H<|Same.refl _).elim
  |bad=>rw[h]at q;exact q.elim
  |ok d=>rw[h]at q;refine⟨O,ds,d,r1,C ρ ds b,l.trk,l.tab,?_,h,λv H' s2 r2=>q v H' (j.trans s2) r2⟩;exact nE I O E.trk
end
def MD(env:Env):List (Str×ek)->List (Str×bc)->List (Str×bc)
 |[],B=>B
 |(n,k)::r,B=>MD env r (if k=.free then(n,(env.cells.lookup n).getD 0)::B else B)
def Z7(h:∀y∈d.names,y.2=.free->∃c,env.cells.lookup y.1=some c):closureFor d env=pure (MD env d.names []):=by
 have p:∀(b:List (Str×ek)) (B:List (Str×bc)),(∀y∈b,y.2=.free->∃c,env.cells.lookup y.1=some c)->
   (forIn b B λ(x:Str×ek) (r:List (Str×bc))=>(match x with
    |(f,g)=>if(g==NameKind.free)=true then(do let a<-cellOf env f;pure (aCp ((f,a)::r)))else pure (aCp r):Sem (ForInStep<|List<|Str×bc)))=pure (MD env b B):=by
  intro b;induction b with
  |nil=>intro B _;rfl
  |cons y r m=>
   intro B i;obtain⟨n,k⟩:=y;rw[aDd];by_cases j:k=.free
   .subst j;obtain⟨c,o⟩:=i (n,.free) aBm rfl;have e:cellOf env n=pure c:=by unfold cellOf;rw[o]
    simp only[beq_self_eq_true,if_true,e,pure_bind];rw[m _ λz l=>i z (aAe _ l)];simp[MD,o]
   have q:(k==NameKind.free)=false:=by simpa using j
   simp only[q,aAv,if_false,pure_bind];rw[m _ λz l=>i z (aAe _ l)];simp[MD,j]
 have e:=p d.names [] h;show((forIn d.names ([]:List (Str×bc)) λ(x:Str×ek) (r:List (Str×bc))=>(match x with
    |(f,g)=>if(g==NameKind.free)=true then(do let a<-cellOf env f;pure (aCp ((f,a)::r)))else pure (aCp r):Sem (ForInStep<|List<|Str×bc)))>>=λs=>pure s)=_
 rw[e];rfl
theorem yA:∀(names:List (Str×ek)) (B:List (Str×bc)) {x:Str}{c:bc},(∀y∈names,y.2=.free->∃c,env.cells.lookup y.1=some c)->(∀x c,B.lookup x=some c->env.cells.lookup x=some c)->
  (MD env names B).lookup x=some c->env.cells.lookup x=some c
 |[],B,x,c,_,b,h=>b x c h
 |(n,k)::r,B,x,c,f,b,h=>by
  refine yA r _ (λy l=>f y (aAe _ l)) (λd g a=>?_) h;by_cases e:k=.free
  .rw[h9 e]at a;obtain⟨c0,i⟩:=f (n,k) aBm e;by_cases j:d=n
   .subst j;rw[aBK]at a;rw[i]at a;rw[i];exact a
   rw[aBg,beq_eq_false_iff_ne.mpr j]at a;exact b d g a
  rw[ia e]at a;exact b d g a
theorem vZ:∀(names:List (Str×ek)) (B:List (Str×bc)) {x:Str},((x,NameKind.free)∈names\/∃c,B.lookup x=some c)->∃c,(MD env names B).lookup x=some c
 |[],B,x,h=>by
  rcases h with h|h
  .cases h
  exact h
 |(n,k)::r,B,x,h=>by
  refine vZ r _ ?_;rcases h with h|⟨c,h⟩
  .rcases aAc.mp h with e|h
   .cases e;right;rw[h9 rfl,aBK];exact⟨_,rfl⟩
   exact .inl h
  right;by_cases a:k=.free
  .rw[h9 a,aBg];cases(x==n)with
   |true=>exact⟨_,rfl⟩
   |false=>exact⟨c,h⟩
  rw[ia a];exact⟨c,h⟩
theorem jP{env:Env}:∀{names:List (Str×ek)}{x:Str},
  ((names.map λ(n,k)=>if(k==NameKind.free&&env.scope.kind==.function&&env.kindOf n==some .cell)then(n,aCc)else(n,k)).lookup x=some .cell\/
   (names.map λ(n,k)=>if(k==NameKind.free&&env.scope.kind==.function&&env.kindOf n==some .cell)then(n,aCc)else(n,k)).lookup x=some .free)->(x,NameKind.free)∈names\/names.lookup x=some .cell
 |[],_,h=>by rcases h with h|h<;>cases h
 |(n,k)::r,x,h=>by
  have d:=@jP env r x;rw[aAk]at h;dsimp only at h;by_cases b:x=n
  .subst b;by_cases a:(k==NameKind.free&&env.scope.kind==.function&&env.kindOf x==some .cell)=true
   .have e:k=.free:=by rw[aAQ,aAQ]at a;simpa using a.1.1
    subst e;exact .inl aBm
   rw[ia a,aBK]at h;rcases h with h|h
   .right;rw[aBK];exact h
   have:k=.free:=Option.some.inj h;subst this;exact .inl aBm
  have f:(r.map λ(n,k)=>if(k==NameKind.free&&env.scope.kind==.function&&env.kindOf n==some .cell)then(n,aCc)else(n,k)).lookup x=some .cell\/
    (r.map λ(n,k)=>if(k==NameKind.free&&env.scope.kind==.function&&env.kindOf n==some .cell)then(n,aCc)else(n,k)).lookup x=some .free:=by
   by_cases a:(k==NameKind.free&&env.scope.kind==.function&&env.kindOf n==some .cell)=true
   .rw[h9 a,aBg,beq_eq_false_iff_ne.mpr b]at h;exact h
   rw[ia a,aBg,beq_eq_false_iff_ne.mpr b]at h;exact h
  rcases d f with h|h
  .exact .inl (aAe _ h)
  right;rw[aBg,beq_eq_false_iff_ne.mpr b];exact h
theorem qG:∀(names:List (Str×ek)) (h:cq) (B:List (Str×bc)) {x:Str}{c:bc},(d3 h.objs.size names B).lookup x=some c->B.lookup x=some c\/((pushCells h names).IsCell c none/\h.objs.size<=c)
 |[],h,B,x,c,e=>.inl e
 |(n,k)::r,h,B,x,c,e=>by
  unfold d3 at e;unfold pushCells;split at e
  .rename_i b;rw[h9 b];rcases qG r (h.push {cls:=.type "cell",data:=.cell none}) ((n,h.objs.size)::B) (x:=x) (c:=c) (by rw[aBI];exact e)with a|⟨a,d⟩
   .rw[aBg]at a;cases f:(x==n)with
    |true=>rw[f]at a;have g:h.objs.size=c:=Option.some.inj a;subst g;exact .inr ⟨⟨_,aEE _ _ _ _ (aAq _ rfl),rfl⟩,aAl _⟩
    |false=>rw[f]at a;exact .inl a
   exact .inr ⟨a,by rw[aBI]at d;exact aCJ d⟩
  rename_i b;rw[ia b];exact qG r h B e
theorem kI:∀(names:List (Str×ek)) (n:Nat) (B:List (Str×bc)) {x:Str}{c:bc},(d3 n names B).lookup x=some c->B.lookup x=some c\/n<=c
 |[],n,B,x,c,e=>.inl e
 |(m,k)::r,n,B,x,c,e=>by
  unfold d3 at e;split at e
  .rcases kI r (n+1) _ e with a|a
   .rw[aBg]at a;cases b:(x==m)with
    |true=>rw[b]at a;exact .inr (aEj (Option.some.inj a))
    |false=>rw[b]at a;exact .inl a
   exact .inr (aCJ a)
  exact kI r n B e
theorem rD:∀(names:List (Str×ek)) (n:Nat) (B:List (Str×bc)) {x:Str}{c:bc},(x,aCc)∈names->(d3 n names B).lookup x=some c->n<=c
 |[],n,B,x,c,a,e=>nomatch a
 |(m,k)::r,n,B,x,c,a,e=>by
  unfold d3 at e;rcases aAc.mp a with a|a
  .cases a;rw[h9 (show(aCc==aCc)=true from rfl)]at e;rcases kI r (n+1) _ e with b|b
   .rw[aBK]at b;exact aEj (Option.some.inj b)
   exact aCJ b
  split at e
  .exact aCJ (rD r (n+1) _ a e)
  exact rD r n B a e
theorem qM:∀(names:List (Str×ek)) (n:Nat) (B:List (Str×bc)) {x:Str},(x,aCc)∉names->(d3 n names B).lookup x=B.lookup x
 |[],n,B,x,_=>rfl
 |(m,k)::r,n,B,x,a=>by
  unfold d3;split
  .rename_i b;rw[qM r (n+1) _ λz=>a (aAe _ z),aBg];cases d:(x==m)with
   |true=>
    have e:x=m:=by simpa using d
    have f:k=.cell:=by simpa using b
    exact absurd (by rw[e,f];exact aBm) a
   |false=>rfl
  exact qM r n B λz=>a (aAe _ z)
theorem lX:∀(names:List (Str×ek)) (n:Nat) (B:List (Str×bc)),(∀x c,B.lookup x=some c->c<n)->(∀x y c,B.lookup x=some c->B.lookup y=some c->x=y)->
  ∀x y c,(d3 n names B).lookup x=some c->(d3 n names B).lookup y=some c->x=y
 |[],n,B,_,h=>h
 |(m,k)::r,n,B,g,h=>by
  unfold d3;split
  .refine lX r (n+1) _ (λx c e=>?_) λx y c b a=>?_
   .rw[aBg]at e;cases d:(x==m)with
    |true=>rw[d]at e;rw[<-Option.some.inj e];exact aDN _
    |false=>rw[d]at e;exact aBw (g x c e)
   rw[aBg]at b a;cases d:(x==m)with
   |true=>
    rw[d]at b;cases f:(y==m)with
    |true=>rw[show x=m by simpa using d,show y=m by simpa using f]
    |false=>rw[f]at a;rw[<-Option.some.inj b]at a;exact absurd (g y _ a) (aBr _)
   |false=>
    rw[d]at b;cases f:(y==m)with
    |true=>rw[f]at a;rw[<-Option.some.inj a]at b;exact absurd (g x _ b) (aBr _)
    |false=>rw[f]at a;exact h x y c b a
  exact lX r n B g h
abbrev bV(X:Cx)(a:hE)(C:bc):List (Str×bc):=d3 (C+1) a.names (MD X.env a.names [])
def KU{E:F7}{Q:Env->ba->Prop}(h:Q (newEnv a s.heap.objs.size g (d3 (s.heap.objs.size+1) a.names i) q none .none (some env) builtinsNs) {s with heap:=pushCells (s.heap.push {cls:=.type "dict",data:=.dict #[]}) a.names}):
  a9 M A (newFunctionEnv a g i [] q none .none (some env)) Q E s:=by
 simp only[newFunctionEnv,Option.isSome_some,if_true];refine aAa (wpAny_alloc ?_);refine aAa (wpAny_layCells _ (λf b d=>by cases e:b==aCc<;>simp[e]) _ _ _ _ ?_);rw[show({s with heap:=s.heap.push {cls:=.type "dict",data:=.dict #[]}}:ba).heap.objs.size=s.heap.objs.size+1 from aBI ..];exact aAa (aAb<|aAb h)
def JD{R:Result->ba->Prop}(I:Nat->ba->Prop)(turn:∀n s,I n s->a9 (be prog w) A (fh it) (λr j=>match r with
   |none=>R (.ok .next) j
   |some v=>a9 (be prog w) A (letOwnedTupleGo a it v) (λ_ f=>a9 (be prog w) A (gs a env v) (λ_ p=>
    a9 (be prog w) A (forIn g true λc r=>if r=true then do let ok<-isTrue c env (dm c env);pure (aCp ok)else pure (aCp r)) (λok k=>
     if ok=true then a9 (be prog w) A (dm i env) (λx q=>a9 (be prog w) A (call (.builtin "list.append") [B,x]) (λ_ t=>∃m,m<n/\I m t) (λ_ _=>False) q) (λ_ _=>False) k
     else∃m,m<n/\I m k) (λ_ _=>False) p) (λ_ _=>False) f) (λ_ _=>False) j) (λ_ _=>False) s) (n:Nat) (h:I n s):gn (be prog w) A (.compLoop (.ListComp i [⟨a,w8,g,0⟩] e l) 0 it B env) R s:=by
 refine codeAny_loop rfl I (λn s y=>?_) n h;show a9 _ A ((compTurn (.ListComp i [⟨a,w8,g,0⟩] e l) 0 it B env).onRaise (λx=>do noteFrame x env;theTreesLotGoes x)) _ _ s;refine wpAny_noted ?_;rw[compTurn_list];refine aAa (aEx<|aAa<|aCI (turn n s y) (λr j d=>?_) λ_ _ b=>b.elim);cases r with
 |none=>exact aAb d
 |some v=>
  refine aAa (aCI d (λ_ f o=>?_) λ_ _ b=>b.elim);refine aAa (aCI o (λ_ p z=>aAa (aCI z (λok k u=>?_) λ_ _ b=>b.elim)) λ_ _ b=>b.elim);cases ok with
  |false=>exact aAb ⟨rfl,u⟩
  |true=>exact aAa (aAa<|aCI u (λx q C=>aAa (aCI C (λ_ t E=>aAb (aAb ⟨rfl,E⟩)) λ_ _ b=>b.elim)) λ_ _ b=>b.elim)
def FN(X:Cx)(pins:O9)(s9:ba)(H9:Hp)(b:List Str)(a:hE)(d:List (Str×bc))(C:bc)(e:List bc):Cx where
 prog:=X.prog
 w:=X.w
 K:=X.K
 mg:=X.mg
 base:=X.base
 A:=X.A
 N:=b
 s9:=s9
 H9:=H9
 env:=compEnvC a d C X.env
 outer:=X.stack
 stack:=X.stack
 ex:=e
 fn:=λx=>a.names.lookup x==some .cell
 calm:=X.calm
 pn:=X.pn++pins
 xe:=λ_ _=>False
structure CompSc(X:Cx)(scope:Scope)(own fr:List Str)(js:List Nat):Prop where
 kind:scope.kind=.function
 apart:∀y∈scope.names,y.2=.free->(y.1,aCc)∉scope.names
 names:∀y∈scope.names,y.2=.local->scope.names.lookup y.1=some .local
 free:∀y∈scope.names,y.2=.free->X.env.kindOf y.1=some .cell\/X.env.kindOf y.1=some .free
 len:js.length=fr.length
 at_:∀(i j:Nat) (x:Str),js[i]?=some j->fr[i]?=some x->X.N[j]?=some x/\(x,NameKind.free)∈scope.names
 nd:js.Nodup
 dis:∀y∈scope.names,y.2=.free->scope.names.lookup y.1=some .free
def seen:Sl->Sl
 |.v d=>.v d
 |.d k=>.d k
 |_=>.no
def i5(own:List Str)(a:List Nat)(ρ:Ev):Ev:=aCW own.length Sl.no++a.map λj=>seen (ρ.getD j Sl.no)
def U6(own:List Str)(a:List Nat)(σ:St):St:=aCW own.length none++a.map λj=>σ.getD j none
def Inv.ab0(I:L2.Inv X b σ H s)(S:CompSc X a own f g):∀y∈a.names,y.2=.free->∃c,X.env.cells.lookup y.1=some c:=
 λy d e=>I.ok.has y.1 (S.free y d e)
def X5(h:(i5 own l ρ)[i]?=some sl):sl=.no\/∃j,((∃d,sl=.v d)\/∃k,sl=.d k)/\own.length<=i/\l[i-own.length]?=some j/\ρ[j]?=some sl:=by
 unfold i5 at h;by_cases f:i<own.length
 .rw[aBb (by simpa using f),aBA,h9 f]at h;cases h;exact .inl rfl
 have g:own.length<=i:=aEo f;rw[aAA (by simpa using g),aCq,aAG]at h;cases e:l[i-own.length]? with
 |none=>rw[e]at h;cases h
 |some j=>
  rw[e]at h;have a:seen (ρ.getD j Sl.no)=sl:=Option.some.inj h;rw[aAo]at a;cases b:ρ[j]? with
  |none=>rw[b]at a;subst a;exact .inl rfl
  |some z=>
   rw[b]at a;cases z with
   |v d=>subst a;exact .inr ⟨j,.inl ⟨d,rfl⟩,g,rfl,b⟩
   |d k=>subst a;exact .inr ⟨j,.inr ⟨k,rfl⟩,g,rfl,b⟩
   |_=>subst a;exact .inl rfl
def oP{σ:St}(a:own.length<=i)(e:b[i-own.length]?=some j)(h:j<σ.length):(U6 own b σ)[i]?=σ[j]?:=by unfold U6;rw[aAA (by simpa using a),aCq,aAG,e];show some (σ.getD j none)=_;rw[aAo,aAi h];rfl
def LR{K:ix}{l H:Hp}{m O:bc->Prop}{σ:St}{ρ:Ev}{own:List Str}{f:List Nat}(s:f.Nodup)(E:EnvOk K l m H O σ ρ):EnvOk K l m H O (U6 own f σ) (i5 own f ρ):=by
 have lt:∀{j g},ρ[j]?=some g->j<σ.length:=λh=>by rw[E.len];exact(aAC.mp h).1
 refine⟨by simp[U6,i5],E.same,E.sub,E.trk,E.trk0,E.tab,λi g h=>?_,λi v x y a b d o n q p=>?_⟩
 .rcases X5 h with rfl|⟨j,_,k,e,b⟩
  .trivial
  rw[oP k e (lt b)];exact E.slot j g b
 rcases X5 b with rfl|⟨j,_,t,e,b⟩
 .exact o.elim
 rcases X5 d with rfl|⟨u,_,k,r,d⟩
 .exact n.elim
 rw[oP t e (lt b)]at q;rw[oP k r (lt d)]at p;have:=E.inj j u x y a b d o n q p;subst this;have:=(List.getElem?_inj (aAC.mp e).1 s).mp (e.trans r.symm)
 lia
def JB(I:L2.Inv X pins σ H s)(S:CompSc X a own fr js)(xb:∀b∈fp,sJ X pins H b)(ah:∀b∈fp,b<s.heap.objs.size)(e8:h₁=pushCells (s.heap.push {cls:=.type "dict",data:=.dict #[]}) a.names):
  L2.Inv (FN X pins s H (own++fr) a (bV X a s.heap.objs.size) s.heap.objs.size fp) [] (U6 own js σ) H {s with heap:=h₁,toks:=tk}:=by
 have w:=Inv.ab0 I S;have g:∀b o,s.heap.get? b=some o->h₁.get? b=some o:=λb o e=>by rw[e8];exact aEE _ _ _ _ (aAd _ e)
 have zc:h₁.Ns s.heap.objs.size (λ_=>none):=by rw[e8];exact(Heap.Ns.new s.heap<|.type "dict").keeps (aEE _ _)
 have cc:∀x c,(bV X a s.heap.objs.size).lookup x=some c->(MD X.env a.names []).lookup x=some c\/(h₁.IsCell c none/\s.heap.objs.size+1<=c):=λx c h=>by have:=qG a.names (s.heap.push {cls:=.type "dict",data:=.dict #[]}) (MD X.env a.names []) (x:=x) (c:=c) (by rw[aBI];exact h);rw[aBI,<-e8]at this;exact this
 have J:∀x c,(MD X.env a.names []).lookup x=some c->X.env.cells.lookup x=some c:=λx c h=>yA a.names [] w (λ_ _ z=>(by cases z)) h;have l:∀b o,X.base.get? b=some o->b∉fp:=λb o e B=>by
  rcases(xb b B).2.2.2.1 with z|z
  .exact I.ok.noex b o e z
  exact absurd (aAw (aAg e)<|aAr I.ok.bsz z) (aBr _)
 have nfs:∀b∈fp,b∉yE X.stack:=λb B z=>by
  rcases aAc.mp (I.ab5 b z)with e|z
  .exact(xb b B).2.1 e
  exact(xb b B).2.2.1 z
 have A:∀x c,X.env.cells.lookup x=some c->c<s.heap.objs.size+1:=λx c h=>by obtain⟨v,o,Q,_⟩:=I.cell x c h;exact aBw (aAg Q)
 have has:∀x,((relabel a X.env).names.lookup x=some .cell\/(relabel a X.env).names.lookup x=some .free)->∃c,(bV X a s.heap.objs.size).lookup x=some c:=λx N=>by
  have:((bV X a s.heap.objs.size).lookup x).isSome=true:=PySem.W.cellsFrom_some _ _ _ (by
   rcases jP N with h|h
   .obtain⟨c,hc⟩:=vZ (env:=X.env) a.names [] (x:=x) (.inl h);exact .inr (by rw[hc];rfl)
   exact .inl h)
  exact aFo.mp this
 refine⟨⟨I.ok.mod,S.kind,I.ok.glob,I.ok.blt,aAl _,lX a.names _ _ (λx c h=>A x c (J x c h)) (λx y c h1 C=>I.ok.inj x y c (J x c h1) (J y c C)),has,λx c hf h=>aCJ (rD a.names _ _ (PySem.mem_of_lookup<|eq_of_beq hf) h),I.ok.hd,I.ok.frames,.inl rfl,
  λb B=>⟨aAm (ah b B),λx c h=>(cc x c h).elim (λh=>(xb b B).2.2.2.2.1 x c (J x c h)) λ⟨_,C⟩ z=>absurd (aAw (ah b B)<|aCJ C) (by rw[z];exact aBr _)⟩,I.bs,aAr I.ok.bsz I.sz,λb o e=>l b o e,nfs,I.stack,I.ad4⟩,rfl,I.bare,Un.kept g,⟨_,zc,λi x v e1 E L=>?_⟩,λx c h=>?_,I.hok.fresh (aAl _),λx c h=>(cc x c h).elim (λh=>I.freeC x c (J x c h)) λ⟨_,C⟩=>I.hok.fresh (aCJ C),λp hp=>?_,I.hok.kept g,?_⟩
 .
  have hlen:(own++fr).length=(U6 own js σ).length:=by simp[U6,S.len]
  unfold U6 at E;by_cases hi:i<own.length
  .rw[aBb (by simpa using hi),aBA,h9 hi]at E;cases E
  have cg:own.length<=i:=aEo hi;rw[aAA (by simpa using cg),aCq,aAG]at E;have T:(own++fr)[i]?=some x:=e1;rw[aAA cg]at T;cases e:js[i-own.length]? with
  |none=>rw[e]at E;cases E
  |some j=>
   rw[e]at E;have q:σ.getD j none=some v:=Option.some.inj E;obtain⟨hN,jv⟩:=S.at_ (i-own.length) j x e T;have hσ:σ[j]?=some (some v):=by
    rw[aAo]at q;cases e4:σ[j]? with
    |none=>rw[e4]at q;cases q
    |some z=>rw[e4]at q;exact ir some q
   have O:=S.free (x,.free) jv rfl;have U:AH X.env.scope x:=.inr O;obtain⟨m,hn,hl⟩:=I.loc;obtain⟨u,r,lk⟩:=hl j x v hN hσ U;refine⟨u,r,?_⟩;rcases lk with⟨ju,_⟩|⟨_,c,hc,ip⟩
   .rcases O with O|O<;>(rw[ju]at O;cases O)
   right;obtain⟨c',Y⟩:=vZ (env:=X.env) a.names [] (x:=x) (.inl jv);have:=J x c' Y;rw[hc]at this;cases this;refine⟨?_,c,(qM a.names _ _<|S.apart (x,.free) jv rfl).trans Y,?_⟩
   .rcases L with L|L|L
    .
     have hq:(relabel a X.env).names.lookup x=some .local:=L;exfalso;have:∀f:List (Str×ek),(f.map λ(n,k)=>if(k==NameKind.free&&X.env.scope.kind==.function&&X.env.kindOf n==some .cell)then(n,aCc)else(n,k)).lookup x=some .local->f.lookup x=some .local:=by
      intro f;induction f with
      |nil=>intro h;cases h
      |cons y r ih=>
       obtain⟨n,k⟩:=y;intro h;rw[aAk]at h;dsimp only at h;by_cases N:x=n
       .subst N;by_cases t:(k==NameKind.free&&X.env.scope.kind==.function&&X.env.kindOf x==some .cell)=true
        .rw[h9 t,aBK]at h;cases h
        rw[ia t,aBK]at h;rw[aBK];exact h
       rw[aBg,beq_eq_false_iff_ne.mpr N];by_cases t:(k==NameKind.free&&X.env.scope.kind==.function&&X.env.kindOf n==some .cell)=true
       .rw[h9 t,aBg,beq_eq_false_iff_ne.mpr N]at h;exact ih h
       rw[ia t,aBg,beq_eq_false_iff_ne.mpr N]at h;exact ih h
     have C:=this a.names hq;rw[S.dis (x,.free) jv rfl]at C;cases C
    .exact .inl L
    exact .inr L
   obtain⟨o,Q,hd⟩:=ip;exact⟨o,g c o Q,hd⟩
 .rcases cc x c h with h|⟨h,_⟩
  .obtain⟨v,o,Q,hd⟩:=I.cell x c (J x c h);exact⟨v,o,g c o Q,hd⟩
  exact⟨_,h⟩
 .have hp':p∈X.pn++pins:=by simpa[FN]using hp
  obtain⟨e,n,ne,nf,d⟩:=I.pin p hp';refine⟨g _ _ e,n,aAm (aAg e),λz=>?_,d⟩;rcases aAc.mp (I.ab5 p.1 z)with e'|z'
  .exact ne e'
  exact nf z'
 simp[U6,FN,S.len]
def o8(G:D->Ev->R Ev)(ft:Ev->R Bool)(fe:Ev->R D)(ρ:Ev):List D->R (List D)
 |[]=>.ok []
 |d::e=>match G d ρ with
  |.ok a=>(ft a).bind λb=>if b=true then(fe a).bind λr=>(o8 G ft fe ρ e).bind λf=>.ok (r::f)else o8 G ft fe ρ e
  |_=>.bad
def nK(ρ1 ρ:Ev):Prop:=ρ1.length=ρ.length/\∀(i:Nat) (a:Sl),ρ[i]?=some a->a≠.no->ρ1[i]?=some a
def EnvOk.weak{K:ix}{b H:Hp}{d O:bc->Prop}{σ:St}{ρ1 ρ:Ev}(E:EnvOk K b d H O σ ρ1)(h:nK ρ1 ρ):EnvOk K b d H O σ ρ where
 len:=E.len.trans h.1
 same:=E.same
 sub:=E.sub
 trk:=E.trk
 trk0:=E.trk0
 tab:=E.tab
 slot:=λi f e=>by
  by_cases n:f=.no
  .subst n;trivial
  exact E.slot i f (h.2 i _ e n)
 inj:=λi j x y a l m g k=>E.inj i j x y a (h.2 i _ l (by rintro rfl;exact g)) (h.2 j _ m (by rintro rfl;exact k)) g k
def U3(H:Hp)(a:bc):Hp:=λb=>if b=a then none else H b
def CB(H:Hp)(a:bc):U3 H a a=none:=h9 rfl
def S4(h:b≠a):U3 H a b=H b:=ia h
def KG(h:H a=some o):upd (U3 H a) a o=H:=by
 funext b
 unfold upd U3;by_cases d:b=a
 .subst d;rw[h9 rfl,h]
 rw[ia d,ia d]
def EnvOk.ae1{K:ix}{d H:Hp}{e O:bc->Prop}{σ:St}{ρ:Ev}{a:bc}{L:List V}(E:EnvOk K d e H O σ ρ)(h:H a=none)(f:K.lookup a=none):EnvOk K d e (upd H a (.lst L)) (λb=>O b\/b=a) σ ρ:=E.ab7 h f trivial
def Rep.hidden{K:ix}{H:Hp}{O:bc->Prop}{a:bc}{L:List V}{v:V}{d:D}(h:H a=some (.lst L))(r:Rep K H (λb=>O b\/b=a) v d):Rep K (U3 H a) O v d:=by
 refine r.mono (λb Y q=>?_) (λb Y n q=>⟨λz=>n (.inl z),?_⟩) λb φ n q=>⟨λz=>n (.inl z),by rw[S4 λz=>n (.inr z)];exact q⟩
 .rcases q with(q|⟨o,q⟩)|q
  .exact .inl (.inl (by rw[S4 (by rintro rfl;rw[h]at q;cases q)];exact q))
  .exact .inl (.inr ⟨o,by rw[S4 (by rintro rfl;rw[h]at q;cases q)];exact q⟩)
  exact .inr q
 have e:b≠a:=λz=>n (.inr z);rcases q with(q|⟨o,q⟩)|q
 .exact .inl (.inl (by rw[S4 e];exact q))
 .exact .inl (.inr ⟨o,by rw[S4 e];exact q⟩)
 exact .inr q
def X0(h:H a=none)(s:Same (upd H a (.lst L)) H'):Same H (U3 H' a):=λb o q=>by
 have d:b≠a:=by rintro rfl;rw[h]at q;cases q
 rw[S4 d];exact s b o (by rw[l5 d];exact q)
def ItC(K:ix)(J:It)(H:Hp)(O:bc->Prop)(ds:List D):Prop:=∀b e,Same H b->Kp H O b e->X7 K e->(∀a,O a->∃o,H a=some o/\Mt o)->(∀a,e a->∃o,b a=some o/\Mt o)->∀i:Nat,
 (∀d,ds[i]?=some d->J.go i b/\∀x f,J.yld i b x f->Same b f/\Rep K f e x d)/\(ds[i]?=none->J.stop i b)
def ZC.c{K:ix}(h:ZC K J H O ds):ItC K J H O ds:=λa b _=>h a b
def tIc(X:Cx)(f:Ev->R (List D)):TI:=λσ H R=>∃b d O ρ,EnvOk X.K b d H O σ ρ/\X7 X.K O/\match f ρ with
 |.ok g=>∀J a,Same H a->ItC X.K J a O g->R J a
 |.ex e=>∀a,Same H a->XW X e a
 |.bad=>False
def PIC(X:Cx)(a w8:cu)(f:Ev->R (List D)):Prop:=PI X a w8 (tIc X f)
def pic(h:VD X a w8 f):PIC X a w8 f:=FA h λσ H R ⟨b,d,O,ρ,E,k,q⟩=>⟨b,d,O,ρ,E,k,by
 cases e:f ρ with
 |ok i=>rw[e]at q;exactλJ g s h=>q J g s h.c
 |ex x=>rw[e]at q;exact q
 |bad=>rw[e]at q;exact q⟩
section
def UL(X:Cx)(b:List cu)(ft:Ev->R Bool):Prop:=
 ∀(a:O9) (s:ba) (σ:St) (H:Hp) (Q:Bool->Hp->Prop),Inv X a σ H s->tDT X ft σ H Q->
  a9 (be X.prog X.w) X.A (forIn b true λc r=>if r=true then do let ok<-isTrue c X.env (dm c X.env);pure (aCp ok)else pure (aCp r)) (TP X a σ Q) X.xe s
def GA:UL X [] (λ_=>.ok true):=by rintro a s σ H Q I ⟨b,d,O,ρ,E,q⟩;exact wpAny_tests_nil ⟨H,I,q H (Same.refl _)⟩
def VL(h:zE X c ft):UL X [c] ft:=λa s σ H Q I q=>wpAny_tests_one (h a s σ H Q I q)
def qH{tg elt w8:cu}{ifs:List cu}{scope:hE}{own fr:List Str}{js:List Nat}{G:D->Ev->R Ev}{ft:Ev->R Bool}{fe:Ev->R D}{pins:O9}{σ:St}{H:Hp}{s:ba}{H9:Hp}{O0 O:bc->Prop}{ρ:Ev}
  {it:bc}{U:List bc}{tn:Nat->cq->Prop}{J:It}{ds rs:List D}{RR:au->bc->Result->ba->Prop}{EE:F7} (hc:X.calm=true) (S:CompSc X scope own fr js)
  (hX:∀t:Cx,(∃s9 Ha C,t=FN X pins s9 Ha (own++fr) scope (bV X scope C) C U)->LO t tg G/\UL t ifs ft/\PD t elt fe)
  (hG:∀d ρ1,G d (i5 own js ρ)=.ok ρ1->nK ρ1 (i5 own js ρ))
  (I:Inv X pins σ H s) (T:Turn X.prog X.w X.K tg J U it tn) (st:tn 0 s.heap) (xb:∀b∈U,sJ X pins H b) (E:EnvOk X.K H9 O0 H O σ ρ) (hJ:ItC X.K J H O ds) (hrs:o8 G ft fe (i5 own js ρ) ds=.ok rs) (hlen:ds.length<=sizeLine)
  (fin:∀B C s' H' m,s'.heap.Ns C m->C≠B->s.heap.objs.size<=C->s.heap.objs.size<=B->Same H H'->Rep X.K H' O (.ref B) (.lst rs)->(∃H1 L,Same H H1/\H1 B=none/\H'=upd H1 B (.lst L)/\Reps X.K H1 O L rs)->H' C=none->(∀h',Heap.SameBut C s'.heap h'->Inv X pins σ H' {s' with heap:=h'})->RR (.ref B) C (.ok .next) s'):
  a9 (be X.prog X.w) X.A (newList []) (λB sa=>a9 (be X.prog X.w) X.A (newFunctionEnv scope X.env.globals (MD X.env scope.names []) [] X.env.qual none .none (some X.env)) (λcenv se=>gn (be X.prog X.w) X.A (.compStart (.ListComp elt [⟨tg,w8,ifs,0⟩] scope pos) 0 (.ref it) B {cenv with scope:=relabel scope X.env}) (RR B cenv.locals) se) EE sa) EE s:=by
 have hO:=nE I O E.trk;refine aBG ?_;have hfr:H s.heap.objs.size=none:=I.hok.fresh (aAl _);have hkl:X.K.lookup s.heap.objs.size=none:=by
  cases e:X.K.lookup s.heap.objs.size with
  |none=>rfl
  |some o=>exact absurd (aAg<|I.kIn _ o e) (aBr _)
 have I1:Inv X pins σ (upd H s.heap.objs.size<|.lst []) {s with heap:=s.heap.push {cls:=.type "list",dict:=none,data:=.seq ([]:List au).toArray}}:=
  I.laid (t':=s.toks) (λb u e=>aAd _ e) (aAl _) ⟨aAY _,[],0,.nil,aAq _ rfl⟩
 generalize df:s.heap.objs.size=B at*
 generalize zd:({s with heap:=s.heap.push {cls:=.type "list",dict:=none,data:=.seq ([]:List au).toArray}}:ba)=s1 at I1⊢;have sz1:s1.heap.objs.size=B+1:=by rw[<-zd,<-df];exact aBI _ _
 have keep1:∀b o,s.heap.get? b=some o->s1.heap.get? b=some o:=λb o e=>by rw[<-zd];exact aAd _ e
 have xc:∀b∈U,b<B:=λb g=>by obtain⟨o,e,_⟩:=T.obj 0 _ st b g;rw[<-df];exact aAg e
 have hfp1:∀b∈U,sJ X pins (upd H B<|.lst []) b:=λb g=>by obtain⟨f0,f⟩:=xb b g;exact⟨by rw[l5 (aAm<|xc b g)];exact f0,f⟩
 refine KU ?_;obtain⟨N,e8⟩:∃N,pushCells (s1.heap.push {cls:=.type "dict",data:=.dict #[]}) scope.names=N:=⟨_,rfl⟩;rw[e8];have keep2:∀b o,s1.heap.get? b=some o->N.get? b=some o:=λb o e=>by rw[<-e8];exact aEE _ _ _ _ (aAd _ e)
 have IB:=JB (tk:=s1.toks) I1 S hfp1 (λb g=>by rw[sz1];exact aBw (xc b g)) e8.symm;generalize hC:s1.heap.objs.size=C at*
 obtain⟨hG',hT',hE'⟩:=hX _ ⟨s1,upd H B (.lst []),C,rfl⟩;generalize ou:FN X pins s1 (upd H B<|.lst []) (own++fr) scope (bV X scope C) C U=t at IB hG' hT' hE';have eP:t.prog=X.prog:=by rw[<-ou];rfl
 have eW:t.w=X.w:=by rw[<-ou];rfl
 have eK:t.K=X.K:=by rw[<-ou];rfl
 have eA:t.A=X.A:=by rw[<-ou];rfl
 have eC:t.calm=true:=by rw[<-ou];exact hc
 have eX:t.xe=λ_ _=>False:=by rw[<-ou];rfl
 have eE:t.env=compEnvC scope (bV X scope C) C X.env:=by rw[<-ou];rfl
 have eX0:t.ex=U:=by rw[<-ou];rfl
 have ePn:t.pn=X.pn++pins:=by rw[<-ou];rfl
 have eFs:t.fs=yE X.stack:=by rw[<-ou];rfl
 have eS0:t.s9=s1:=by rw[<-ou];rfl
 have eH0:t.H9=upd H B (.lst []):=by rw[<-ou];rfl
 have eL:t.env.locals=C:=by rw[eE];rfl
 have eCe:t.env.cells=bV X scope C:=by rw[eE];rfl
 have I2of:=IB;have cell_ne:∀b∈U,∀x c,t.env.cells.lookup x=some c->c≠b:=λb g x c h=>(I2of.ok.exf b (by rw[eX0];exact g)).2 x c h;have accC:B≠C:=by rw[sz1];exact aAm (aDN _)
 have fpC:∀b∈U,b≠C:=λb g=>by have h1:=xc b g;rw[sz1];exact aAm (aBw h1)
 have fpB:∀{H':Hp},(∀b∈U,H' b=none)->∀b∈U,sJ t [] H' b:=λ{H'} hn b g=>by
  obtain⟨f0,f1,f2,f3,f4,f5⟩:=xb b g;refine⟨hn b g,by rw[eL];exact fpC b g,?_,.inl (by rw[eX0];exact g),λx c h=>cell_ne b g x c h,λp hp=>f5 p (by rw[ePn,aCb]at hp;exact hp)⟩;rw[eFs];intro z;rcases aAc.mp (I.ab5 b z)with e|z
  .exact f1 e
  exact f2 z
 have ZF:tn 0 N:=T.keep 0 s.heap N st λb g o e=>keep2 b o (keep1 b o e)
 let Iv:Nat->ba->Prop:=λn s'=>∃i af Q L rd,n=ds.length-i/\i<=ds.length/\Inv t [] af (upd Q B<|.lst L) s'/\Q B=none/\tn i s'.heap/\(∀b∈U,Q b=none)/\EnvOk X.K H9 O0 Q O af (i5 own js ρ)/\Same H Q/\
  Reps X.K Q O L rd/\(∃rest,o8 G ft fe (i5 own js ρ) (ds.drop i)=.ok rest/\rs=rd++rest)/\L.length<=i
 have loop:gn (be X.prog X.w) X.A (.compLoop (.ListComp elt [⟨tg,w8,ifs,0⟩] scope pos) 0 (.ref it) (.ref B) (compEnvC scope (bV X scope C) C X.env)) (RR (.ref B) C) {s1 with heap:=N}:=by
  refine JD Iv ?_ ds.length ⟨0,_,H,[],[],by simp,aAY _,IB,hfr,ZF,λb g=>(xb b g).1,LR S.nd E,Same.refl H,.nil,⟨rs,by rw[aGi];exact hrs,rfl⟩,aAY _⟩;rintro n s2 ⟨i,we,Q,L,rd,rfl,hi,I2,yg,ku,fx2,E2,yh,r2,⟨rest,l,xf⟩,hvl⟩;have fr2:∀b∈U,(upd Q B<|.lst L) b=none:=λb g=>by rw[l5 (aAm<|xc b g)];exact fx2 b g
  have sU:=k9 yg (.lst L);have hit:=hJ (upd Q B<|.lst L) (λb=>O b\/b=B) (yh.trans sU) (λb o q n=>⟨sU b o (yh b o q),λz=>z.elim n λz=>by subst z;rw[hfr]at q;cases q⟩) (λa o q z=>z.elim (hO a o q) λz=>by subst z;rw[hkl]at q;cases q) E.trk
   (λa z=>(E2.ae1 (L:=L) yg hkl).trk a z) i
  by_cases ah:i<ds.length
  .obtain⟨go,yl⟩:=hit.1 ds[i] (aAi ah);rw[aDJ ah,o8]at l;have pg:=T.item t eP eW eK eC i [] s2 we _ (λ_ _=>False) I2 (fpB fr2) ku go;rw[eA]at pg;refine F5 pg λr s3 z9=>?_;obtain⟨u,hr,h3⟩:=z9;subst hr;refine F5 h3 λ_ s4 z9=>?_;obtain⟨x,H4,I4,ru,y4,st4,fr4⟩:=z9;obtain⟨sm4,rep4⟩:=yl x H4 y4;cases e1:G ds[i] (i5 own js ρ)with
   |ex z=>rw[e1]at l;cases l
   |bad=>rw[e1]at l;cases l
   |ok ρ1=>
    rw[e1]at l;dsimp only at l;have EB:EnvOk X.K H9 O0 H4 (λb=>O b\/b=B) we (i5 own js ρ):=(E2.ae1 yg hkl).grow sm4;have I4':=I4.pinned (fpB fr4) (T.obj _ _ st4);have again:∀{s7:ba}{qe:St}{y:Hp}{vs7:List V}{rd7:List D}{rest7:List D},Inv t ([]++qX U s4.heap) qe y s7->y B=some (.lst vs7)->EnvOk X.K H9 O0 (U3 y B) O qe (i5 own js ρ)->Same H (U3 y B)->Reps X.K (U3 y B) O vs7 rd7->
      o8 G ft fe (i5 own js ρ) (ds.drop<|i+1)=.ok rest7->rs=rd7++rest7->vs7.length<=i+1->∃m,m<ds.length-i/\Iv m s7:=λ{s7 qe y vs7 rd7 rest7} I7 h7 E7 sm7 r7 hr7 hrs7 hv7=>by
     refine⟨ds.length-(i+1),by omega,i+1,qe,U3 y B,vs7,rd7,rfl,ah,?_,CB _ _,T.keep _ _ _ st4 λb g o e=>(I7.pin (b,o)<|aAM _<|aAM _<|cA g e).1,λb g=>?_,E7,sm7,r7,⟨rest7,hr7,hrs7⟩,hv7⟩
     .rw[KG h7];exact I7.ab4
     rw[S4 (aAm<|xc b g)];obtain⟨o,e,d⟩:=T.obj _ _ st4 b g;exact(I7.pin (b,o)<|aAM _<|aAM _<|cA g e).2.1
    have hasg:=hG' _ s4 we H4 x u (λY H5=>Same H4 H5/\EnvOk X.K H9 O0 H5 (λb=>O b\/b=B) Y ρ1) I4' ru ⟨H9,O0,_,_,ds[i],ρ1,by rw[eK];exact EB,by rw[eK];exact rep4,e1,λY H5 s5 E5=>⟨s5,by rw[eK]at E5;exact E5⟩⟩;rw[eP,eW,eA,eE,eX]at hasg;refine F5 hasg λ_ s5 z9=>?_;obtain⟨Y,H5,I5,sm5,E5⟩:=z9;have hacc5:H5 B=some (.lst L):=sm5 B _ (sm4 B _ j2);cases e2:ft ρ1 with
    |ex z=>rw[e2]at l;cases l
    |bad=>rw[e2]at l;cases l
    |ok b=>
     rw[e2,R.aa0]at l;have htst:=hT' _ s5 Y H5 (λc H6=>c=b/\Same H5 H6) I5 ⟨H9,O0,_,ρ1,by rw[eK];exact E5,by rw[e2];exactλH6 s6=>⟨rfl,s6⟩⟩;rw[eP,eW,eA,eE,eX]at htst;refine F5 htst λok s6 z9=>?_;obtain⟨H6,I6,g,sm6⟩:=z9;subst g;have sm46:Same (upd Q B<|.lst L) H6:=sm4.trans (sm5.trans sm6);have hacc6:H6 B=some (.lst L):=sm6 B _ hacc5;have smx6:Same Q (U3 H6 B):=X0 yg sm46;have W1:nK ρ1 (i5 own js ρ):=hG _ _ e1;have Eb:∀{y:Hp},Same H5 y->EnvOk X.K H9 O0 (U3 y B) O Y (i5 own js ρ):=λ{y} s7=>by
      have E7:=(E5.grow s7).weak W1;have h7:y B=some (.lst L):=s7 B _ hacc5;refine⟨E7.len,E2.same.trans (X0 yg<|sm4.trans<|sm5.trans s7),E2.sub,λa z=>?_,E2.trk0,E2.tab.same (X0 yg<|sm4.trans<|sm5.trans s7),λj sl e=>?_,E7.inj⟩
      .obtain⟨o,q,mt⟩:=E2.trk a z;exact⟨o,X0 yg (sm4.trans<|sm5.trans s7) a o q,mt⟩
      rcases X5 e with rfl|⟨_,⟨d,rfl⟩|⟨k,rfl⟩,_⟩
      .trivial
      .obtain⟨v,h1,h2⟩:=E7.val j d e;exact⟨v,h1,Rep.hidden h7 h2⟩
      obtain⟨b,o,es,h1,g,h3,h4,h5,h6,h8⟩:=E7.slot j _ e;have nb:b≠B:=by rintro rfl;rw[h7]at h4;cases h4
      exact⟨b,o,es,h1,g.resolve_right nb,h3,by rw[S4 nb];exact h4,h5,h6.mono (Rep.hidden h7),h8⟩
     cases ok with
     |false=>rw[ia aAU]at l⊢;exact again I6 hacc6 (Eb sm6) (yh.trans smx6) (r2.same smx6) l xf (Nat.le_succ_of_le hvl)
     |true=>
      rw[h9 rfl]at l⊢;cases e3:fe ρ1 with
      |ex z=>rw[e3]at l;cases l
      |bad=>rw[e3]at l;cases l
      |ok dv=>
       rw[e3,R.aa0]at l;cases e4:o8 G ft fe (i5 own js ρ) (ds.drop<|i+1)with
       |ex z=>rw[e4]at l;cases l
       |bad=>rw[e4]at l;cases l
       |ok rest'=>
        rw[e4,R.aa0]at l;have qo:dv::rest'=rest:=R.ok.inj l;have helt:=hE' _ s6 Y H6 (λv y=>Same H6 y/\Rep X.K y (λb=>O b\/b=B) v dv) I6 ⟨H9,O0,_,ρ1,by rw[eK];exact E5.grow sm6,by rw[e3,RC];exactλv y s7 r7=>⟨s7,by rw[eK]at r7;exact r7⟩⟩;rw[eP,eW,eA,eE,eX]at helt;refine F5 helt λuv s7 z9=>?_;obtain⟨v,y,I7,ruv,sm7,r7⟩:=z9;have hacc7:y B=some (.lst L):=sm7 B _ hacc6;have happ:=uG (X:=t) _ s7 Y y (.ref B) [v] (.ref B) [uv] (λ_ H8=>H8=upd y B (.lst (L++[v]))) I7 rfl (.cons ruv .nil) ⟨B,L,v,rfl,rfl,hacc7,by omega,rfl⟩;rw[eP,eW,eA,eX]at happ;refine F5 happ λ_ s8 z9=>?_;obtain⟨_,H8,I8,_,h8⟩:=z9;subst h8;have hh:U3 (upd y B<|.lst (L++[v])) B=U3 y B:=by
         funext b
         unfold U3 upd;by_cases g:b=B
         .rw[h9 g,h9 g]
         rw[ia g,ia g,ia g]
        have smx7:Same Q (U3 y B):=X0 yg (sm46.trans sm7);refine again (vs7:=L++[v]) (rd7:=rd++[dv]) (rest7:=rest') I8 j2 (by rw[hh];exact Eb (sm6.trans sm7)) (by rw[hh];exact yh.trans smx7) ?_ e4 (by rw[xf,<-qo,aFp];rfl) (by rw[aAz];exact Nat.succ_le_succ hvl);rw[hh];exact(r2.same smx7).snoc (Rep.hidden hacc7 r7)
  have cg:i=ds.length:=by omega
  subst cg;have hstop:=hit.2 (by simp);have pg:=T.done t eP eW eK eC ds.length [] s2 we _ (λ_ _=>False) I2 (fpB fr2) ku hstop;rw[eA]at pg;refine F5 pg λr s3 z9=>?_;obtain⟨hr,I3⟩:=z9;subst hr;rw[List.drop_length,o8]at l;have qo:([]:List D)=rest:=R.ok.inj l;rw[<-qo,aCb]at xf;obtain⟨m,hm,_⟩:=id I3.loc;rw[eL]at hm;have hfin:Same H (upd Q B<|.lst L):=yh.trans sU;refine fin B C s3 (upd Q B<|.lst L) m hm (aBY accC) (by omega) (aAl _) hfin ?_ ⟨Q,L,yh,yg,rfl,by rw[xf];exact r2⟩ (by rw[<-eL];exact I3.free) (λh' jr=>?_)
  .rw[xf];exact .lst (P4.of j2) (E2.fresh yg) (r2.same sU)
  have hU:Un (yE X.stack) U (upd H B<|.lst []) (upd Q B<|.lst L) s1.heap s3.heap:=by have:=I3.base;rw[eFs,eX0,eH0,eS0]at this;exact this
  have hCn:∀b o,s1.heap.get? b=some o->b≠C:=λb o e=>by have:=aAg e;rw[hC]at this;exact aAm this
  have hU':Un (yE X.stack) U (upd H B<|.lst []) (upd Q B<|.lst L) s1.heap h':=⟨λb o e n g hx=>(jr.2 b (hCn b o e)).trans (hU.keep b o e n g hx),λb o e n g hx=>by
    obtain⟨sl,q⟩:=hU.slot b o e n g hx;exact⟨sl,(jr.2 b (hCn b o e)).trans q⟩,hU.free,λb o e hx=>by
    obtain⟨o',q⟩:=hU.there b o e hx;exact⟨o',(jr.2 b (hCn b o e)).trans q⟩,hU.tups,hU.frzs,hU.tbls⟩
  have hCf:upd Q B (.lst L) C=none:=by rw[<-eL];exact I3.free
  have ze:gB X.prog X.w (upd Q B<|.lst L) h':=λb u e=>by
   have g:b≠C:=by rintro rfl;rw[hCf]at e;cases e
   have:=I3.hok b u e;rw[eP,eW]at this;refine this.ac2 (λc v hc q=>(jr.2 c ?_).trans q) (λ_ q=>q) λ_ _ _ q=>q;rcases hc with z|z
   .rw[z];exact g
   rintro rfl;rw[hCf]at z;cases z
  have hos:s3.os=s1.os:=by have:=I3.os;rw[eS0]at this;exact this
  exact I1.af9 (s':={s3 with heap:=h'}) (ch:=U) hos hU' ze I3.bare λb g=>by obtain⟨f0,f1,f2,f3,f4,f5⟩:=xb b g;exact⟨f3,f1,f4,f5⟩
 exact codeAny_compStart_list loop (T.self _ 0 _ _ _ ZF loop)
def SM(own L:List Str)(g:List Nat)(hc:X.calm=true)(S:CompSc X b own L g)(hi:PIC X N w8 U)(hX:∀(a:O9) (k:List bc) (i:Cx),(∃s9 Ha C,i=FN X a s9 Ha (own++L) b (bV X b C) C k)->LO i N G/\UL i l ft/\PD i n fe)(hG:∀ρ d ρ1,G d (i5 own g ρ)=.ok ρ1->nK ρ1 (i5 own g ρ))(hs:∀x,d7 w8 X.env x=pure x:=by intro _;rfl):
  PD X (.ListComp n [⟨N,w8,l,0⟩] b pos) (λρ=>(U ρ).bind λds=>if ds.length<=sizeLine then(o8 G ft fe (i5 own g ρ) ds).bind λf=>.ok (.lst f)else .bad):=by
 refine uR λa s σ H Q I H9 O0 O ρ E q=>?_;dsimp only at q;rw[eval_ListComp];refine aDT (use:=none) rfl hs (Z7<|Inv.ab0 I S) S.kind S.names ?_;refine F5 (hi a s σ H (λJ o=>∃ds f,Same H o/\ItC X.K J o O ds/\ds.length<=sizeLine/\o8 G ft fe (i5 own g ρ) ds=.ok f/\∀v h,Same H h->Rep X.K h O v (.lst f)->Q v h) I ⟨H9,O0,O,ρ,E,nE I O E.trk,?_⟩) λv Y h1=>F5 h1 λitv s2 h2=>?_
 .cases p:U ρ with
  |ex x=>rw[p]at q;exact q
  |bad=>rw[p]at q;exact q
  |ok ds=>
   rw[p,R.aa0]at q;intro J o Y t;split at q
   .rename_i u;cases j:o8 G ft fe (i5 own g ρ) ds with
    |ex x=>rw[j]at q;exact(q H<|Same.refl _).elim
    |bad=>rw[j]at q;exact q.elim
    |ok f=>rw[j]at q;exact⟨ds,f,Y,t,u,j,q⟩
   exact q.elim
 obtain⟨it,k,tn,J,H2,e,I2,T,ku,f2,ds,f,sm,t,u,y,q⟩:=h2;subst e;refine qH (RR:=λB C=>compPost (be X.prog X.w) X.A X.xe none (EP X a σ Q) B C) hc S (hX a k) (hG ρ) I2 T ku f2 (E.grow sm) t y u ?_;intro B C s' h m hn _ _ _ z r _ _ hI;exact⟨m,hn,λh' jr=>⟨.ref B,h,hI h' jr,rfl,q _ h (sm.trans z) r⟩⟩
def Q9(own g:List Str)(b:List Nat)(k:X.calm=true)(S:CompSc X a own g b)(l:VD X j w8 m)(n:∀(e:O9) (o:List bc) (f:Cx),(∃p q C,f=FN X e p q (own++g) a (bV X a C) C o)->LO f j G/\UL f h ft/\PD f i fe)(r:∀ρ d ρ1,G d (i5 own b ρ)=.ok ρ1->nK ρ1 (i5 own b ρ))(s:∀x,d7 w8 X.env x=pure x:=by intro _;rfl):
 PD X (.ListComp i [⟨j,w8,h,0⟩] a t) (λρ=>(m ρ).bind λds=>if ds.length<=sizeLine then(o8 G ft fe (i5 own b ρ) ds).bind λu=>.ok (.lst u)else .bad):=SM own g b k S (pic l) n r s
end
def _root_.L2.ObjOk.live(x:ObjOk P w H h a o):h.get? a≠none:=by
 intro z;have b:∀{u:Obj},h.get? a=some u->False:=λq=>by rw[z]at q;cases q
 cases o with
 |lst Y=>obtain⟨_,_,_,_,e⟩:=x;exact b e
 |tup Y=>obtain⟨_,_,_,o,e,_⟩:=x;exact b e
 |dK N=>obtain⟨_,_,_,_,o,_,_,e,_⟩:=x;exact b e
 |dT N=>obtain⟨_,_,_,_,o,_,_,e,_⟩:=x;exact b e
 |set S n=>obtain⟨o,_,_,_,e,_⟩:=x;exact b e
 |ins C d fs=>obtain⟨_,_,_,e,_⟩:=x;exact b e
 |own y=>obtain⟨_,e⟩:=x;exact b e
 |xd fs=>obtain⟨_,⟨_,_,_,e,_⟩,_⟩:=x;exact b e
 |rng lo g=>obtain⟨_,_,_,e⟩:=x;exact b e
 |frz i u=>obtain⟨e,_⟩:=x;exact b e
 |tbl j=>obtain⟨_,e,_⟩:=x;exact b e
 |met f y=>exact b (show h.get? a=some _ from x)
 |ext φ=>obtain⟨_,⟨_,e⟩,_⟩:=x;exact b e
section
end
section
variable{P:bM}{w:cp}{K:ix}{mg:cM}{base:cq}
end
section
variable{X:Cx}{E:XK}{st:cv}{rest:List cv}{F:Ev->R Out}{G Ga Gb:Ev->Option au}{pos:Pos}
end
section
variable{K:ix}{h:cq}{C:bc}{bmB:List au}{newId:String}
end
section
variable{X:Cx}{E:XK}{pos ao np:Pos}{x:Str}{C:bc}{bmB:List au}{B newId initId:String}
end
end
end DL
namespace TS
open PySem PyProof.Rows HT
def sV(f:Bool)(x y:au):keyLt' (tupK f) x y=(do
 let Y<-aCO x;let a<-aCO y
 for ((p,q),i)in(Y.toList.zip a.toList).zipIdx do
  if !(<-eqBool p q)then return<-oneLt' (f&&i==0) p q
 return decide (Y.size<a.size)):=rfl
def MX:au->Sem (Option au):=sortPriv%PySem.Builtin.firstOfTuple?
def SO:Array au->Sem (Option au):=sortPriv%PySem.Builtin.oneTypeOnly
def LM(v:au):MX v=(do
 if(<-typeOf v) !=.type "tuple"then return none
 return (<-aCO v)[0]?):=rfl
def OP(L:Array au):SO L=(do
 let a<-L.mapM typeOf
 match a[0]? with
 |some t=>return if a.all (· ==t)then some t else none
 |none=>return none):=rfl
def CT(a:Array au):keyKind' a=(do
 let firsts<-a.mapM MX
 if firsts.all (·.isSome)then
  rule "list.sort.keys-are-tuples"
  return tupK ((<-SO (firsts.filterMap id)).any (· !=.type "tuple"))
 if(firsts[0]?.bind id).isSome then return general'
 return if(<-SO a).isSome then oneType' else general'):=rfl
section
def NK{Q:yB}(f:Bool)(h:Q (decide (a<b)) s):a9 (be prog w) A (oneLt' f (.int a t) (.int b u)) Q E s:=by
 cases f with
 |true=>exact oneLt_int h
 |false=>rw[oneLt'_eq];simp only[aAv,if_false];exact aAa (BK A s a t b u prog w _ _<|aBu h)
def lt_ints(f:Bool){Q:yB}(hl:IsTup s.heap l items)(hb:IsTup s.heap b r)(Y:IntsAre items.toList ns)(hj:IntsAre r.toList N)(h:Q (HT.lexLt ns N) s):a9 (be prog w) A (keyLt' (tupK f) (.ref l) (.ref b)) Q E s:=by
 obtain⟨o,ho,hc,n,hd⟩:=hl;obtain⟨o2,lg,ke,n2,O⟩:=hb;have z1:items.size=ns.length:=by rw[<-Y.length];simp
 have z2:r.size=N.length:=by rw[<-hj.length];simp
 rw[sV];refine aAa (aEi ho hd<|aAa<|aEi lg O ?_);refine aAa (aCy _ (λrest b m=>b.1=none/\m=s/\∃(k:Nat) (L I:List au) (v B:List Int),rest=(L.zip I).zipIdx k/\IntsAre L v/\IntsAre I B/\v.length+r.size=B.length+items.size/\Q (HT.lexLt v B) s)
  (λb m=>m=s/\(∀c,b.1=some c->Q c s)/\(b.1=none->Q (decide (items.size<r.size)) s)) ?turn ?fin _ _ ⟨rfl,rfl,0,items.toList,r.toList,ns,N,rfl,Y,hj,by lia,h⟩|>λz=>aCI z ?post λ_ _ e=>e)
 case post=>
  rintro⟨b1,b2⟩ m ⟨rfl,q1,q2⟩;cases b1 with
  |none=>exact aAb (q2 rfl)
  |some c=>exact aAb (q1 c rfl)
 case fin=>
  rintro⟨b1,b2⟩ m ⟨jl,rfl,k,L,I,v,B,j,T,J,d,g⟩;refine⟨rfl,λc e=>(by rw[jl]at e;cases e),λ_=>?_⟩;cases T with
  |nil=>
   cases J with
   |nil=>rw[Z4]at g;simp only[aBn]at d;rw[decide_eq_false (by lia)];exact g
   |cons c u hw=>rw[O7]at g;simp only[aBn,aAp]at d;rw[decide_eq_true (by lia)];exact g
  |cons a t hv=>
   cases J with
   |nil=>rw[D3]at g;simp only[aBn,aAp]at d;rw[decide_eq_false (by lia)];exact g
   |cons c u hw=>rw[aBZ,aEp]at j;cases j
 case turn=>
  rintro⟨⟨y,x⟩,i⟩ rest b m ⟨jl,rfl,k,L,I,v,B,j,T,J,d,g⟩;cases T with
  |nil=>rw[List.zip_nil_left,aEF]at j;cases j
  |cons a t C=>
   cases J with
   |nil=>rw[List.zip_nil_right,aEF]at j;cases j
   |cons c u H=>
    rw[aBZ,aEp]at j;injection j with p ae;injection p with p U;injection p with hy hx;subst hy hx U;rw[J1]at g;simp only[aAp]at d;obtain⟨e,he,wo⟩:=AT A m a t c u;refine aAa (he prog w _ _ ?_);cases e with
    |true=>rw[h9 (wo.mp rfl)]at g;exact aAb ⟨rfl,rfl,_,_,_,_,_,ae,C,H,by lia,g⟩
    |false=>rw[ia (λq=>absurd (wo.mpr q) aAU)]at g;exact aAa (NK _ (aAb ⟨rfl,λc e=>(by cases e;exact g),λe=>(by cases e)⟩))
end
section
theorem ID{α β:Type}{M:Model}{f:α->Sem β}(g:α->β):∀(Y:List α) {Q:List β->ba->Prop},(∀x∈Y,∀{Q:β->ba->Prop},Q (g x) s->a9 M A (f x) Q E s)->Q (Y.map g) s->a9 M A (Y.mapM f) Q E s
 |[],Q,_,q=>by rw[List.mapM_nil];exact aAb q
 |x::Y,Q,h,q=>by rw[List.mapM_cons];exact aAa (h x (.head _) (aAa (ID g Y (λy a=>h y (.tail _ a)) (aAb q))))
def HD{α β:Type}{M:Model}{f:α->Sem β}(g:α->β)(Y:List α){Q:Array β->ba->Prop}(h:∀x∈Y,∀{Q:β->ba->Prop},Q (g x) s->a9 M A (f x) Q E s)(q:Q (Y.map g).toArray s):a9 M A (Y.toArray.mapM f) Q E s:=by rw[List.mapM_toArray];show a9 M A (List.toArray<$>Y.mapM f) Q E s;rw[map_eq_pure_bind];exact aAa (ID g Y h<|aAb q)
def kind_tuples{L:List au}{f:Bool}{T:String}{Q:SortKind->ba->Prop}(b:au->au)(h:∀x∈L,∃a items,x=.ref a/\IsTup s.heap a items/\items[0]?=some (b x)/\s.TypeIs (b x) T)(i:L≠[])(j:f=(aCu T !=aCu "tuple"))
  (q:Q (tupK f) s):a9 (be prog w) A (keyKind' L.toArray) Q E s:=by
 rw[CT];refine aAa (HD (λx=>some (b x)) L (λx d {Q} e=>?_) ?_)
 .obtain⟨a,items,rfl,⟨o,g,k,n,l⟩,m,_⟩:=h x d;rw[LM];refine aAa (aDS (T:= "tuple") ⟨o,g,k⟩ ?_);rw[ia (by simp)];refine aAa (aEi g l ?_);rw[m];exact aAb e
 have p:((L.map λx=>some (b x)).toArray.all λx=>x.isSome)=true:=by simp
 have r:(L.map λx=>some (b x)).toArray.filterMap id=(L.map b).toArray:=by
  rw[List.filterMap_toArray,aDo];congr 1;induction L with
  |nil=>rfl
  |cons v L B=>simp
 simp only[p,if_true,r];refine aAa (aDy ?_);refine aAa ?_;rw[OP];refine aAa (HD (λ_=>aCu T) (L.map b) (λx d {Q} e=>?_) ?_)
 .obtain⟨y,t,rfl⟩:=aAj.mp d;obtain⟨_,_,_,_,_,u⟩:=h y t;exact aDS u e
 cases L with
 |nil=>exact absurd rfl i
 |cons v L=>
  simp only[aAk,aBd];have z:((aCu T::aDq ((λ_=>aCu T)∘b) L).toArray.all λx=>x==aCu T)=true:=by simp
  simp only[aCS,aCC,z,if_true];refine aAb (aAb ?_);rw[j]at q;exact q
end
theorem lex_irrefl:∀a:List Int,HT.lexLt a a=false
 |[]=>rfl
 |x::Y=>by rw[J1,h9 rfl];exact lex_irrefl Y
theorem lex_total:∀a b:List Int,HT.lexLt a b=false->HT.lexLt b a=false->a=b
 |[],[],_,_=>rfl
 |[],_::_,h,_=>by rw[O7]at h;cases h
 |_::_,[],_,h=>by rw[O7]at h;cases h
 |x::Y,y::g,d,f=>by
  rw[J1]at d f;by_cases e:x=y
  .subst e;rw[h9 rfl]at d f;rw[lex_total Y g d f]
  rw[ia e]at d;rw[ia (aBY e)]at f;have:=of_decide_eq_false d;have:=of_decide_eq_false f;omega
theorem lex_trans:∀a b c:List Int,HT.lexLt a b=true->HT.lexLt b c=true->HT.lexLt a c=true
 |[],[],_,h,_=>by rw[Z4]at h;cases h
 |[],_::_,[],_,h=>by rw[D3]at h;cases h
 |[],_::_,_::_,_,_=>rfl
 |_::_,[],_,h,_=>by rw[D3]at h;cases h
 |_::_,_::_,[],_,h=>by rw[D3]at h;cases h
 |x::Y,y::i,z::j,f,d=>by
  rw[J1]at f d⊢;by_cases e:x=y
  .subst e;rw[h9 rfl]at f;by_cases g:x=z
   .subst g;rw[h9 rfl]at d⊢;exact lex_trans Y i j f d
   rw[ia g]at d⊢;exact d
  rw[ia e]at f;have k:=of_decide_eq_true f;by_cases g:y=z
  .subst g;rw[ia e];exact f
  rw[ia g]at d;have l:=of_decide_eq_true d;rw[ia (by omega)];exact decide_eq_true (by omega)
theorem HI:∀a b c:List Int,HT.lexLt a c=true->HT.lexLt a b=true\/HT.lexLt b c=true
 |[],[],_,h=>.inr h
 |[],_::_,_,_=>.inl rfl
 |_::_,_,[],h=>by rw[D3]at h;cases h
 |_::_,[],_::_,_=>.inr rfl
 |x::Y,y::f,z::g,h=>by
  rw[J1]at h;rw[J1,J1];by_cases e:x=y
  .subst e;rw[h9 rfl];by_cases d:x=z
   .subst d;rw[h9 rfl]at h⊢;exact HI Y f g h
   rw[ia d]at h⊢;exact .inr h
  rw[ia e];by_cases l:x<y
  .exact .inl (decide_eq_true l)
  refine .inr ?_;by_cases d:x=z
  .subst d;rw[ia (aBY e)];exact decide_eq_true (by omega)
  rw[ia d]at h;have:=of_decide_eq_true h;rw[ia (by omega)];exact decide_eq_true (by omega)
open Classical in
def kV(L:List au) (key:au->List Int):KeyKind where
 α:=List Int
 blt:=HT.lexLt
 irrefl:=lex_irrefl
 trans:=lex_trans
 negTrans:=HI
 total:=lex_total
 keyOf:=λv=>if v∈L then some (key v)else none
 dflt:=[]
open Classical in
def ZE(h:v∈L):(kV L key).keyOf v=some (key v):=h9 h
open Classical in
def ZW(e:(kV L key).keyOf v=some l):v∈L/\key v=l:=by
 have a:(if v∈L then some (key v)else none)=some l:=e;split at a
 .rename_i h;cases a;exact⟨h,rfl⟩
 cases a
def pC(L:List au):(pairsOf L).toList=L.map λv=>(v,v):=by
 unfold pairsOf;rw[List.zip_toArray];show L.zip L=_;induction L with
 |nil=>rfl
 |cons v L a=>rw[aBZ,aAk,a]
section
def LA{a:bc}{L:List au}{n:Nat}{f:Bool}{key:au->List Int}{P:Fin->ba->Prop}(I:s.heap.get? a=some (seqObj "list" L.toArray n))
  (J:∀d,zj a s d->∀x∈L,∀y∈L,∀(prog:bM) (w:cp) (E:F7) {Q:yB},Q (HT.lexLt (key x) (key y)) d->a9 (be prog w) A (keyLt' (tupK f) x y) Q E d)
  (N:2<=L.length->∀d,zj a s d->∀{Q:SortKind->ba->Prop},Q (tupK f) d->a9 (be prog w) A (keyKind' L.toArray) Q E d) (m:L.length<64)
  (h:∀o:List au,o.Perm L->o.Pairwise (λx y=>HT.lexLt (key y) (key x)=false)->P (.done (.ret .none)) {s with heap:=sortedHeap s.heap a L o.toArray}):
  a9 (be prog w) A (Builtin.«list.sort» ⟨[.ref a],[]⟩) P E s:=by
 refine yS (κ:=kV L key) (f:=f) I (λp g=>?_) (λd r prog w E x y k l Q O T q=>?_) (λU d r {Q} q=>N U d r q) m λb e Y=>?_
 .rw[pC]at g;obtain⟨v,t,rfl⟩:=aAj.mp g;exact⟨key v,ZE t⟩
 .obtain⟨m1,u⟩:=ZW O;obtain⟨m2,z⟩:=ZW T;subst u z;exact J d r x m1 y m2 prog w E q
 have B:(arrOf b).toList.Perm (L.map λv=>(v,v)):=by rw[<-pC];exact aEP.mp e
 have same:∀p∈(arrOf b).toList,p.1=p.2/\p.2∈L:=λp g=>by obtain⟨v,t,rfl⟩:=aAj.mp (B.mem_iff.mp g);exact⟨rfl,t⟩
 have ea:(arrOf b).map (·.2)=((arrOf b).toList.map (·.2)).toArray:=by apply Array.ext';simp
 rw[ea];refine h _ ?_ ?_
 .have:=B.map (·.2);rw[aBd,show((λx:au×au=>x.2)∘λv=>(v,v))=id from rfl,List.map_id]at this;exact this
 rw[aCm];intro i j hi hj jt;have cg:i<(arrOf b).size:=by simpa using hi
 have C:j<(arrOf b).size:=by simpa using hj
 have gu:(arrOf b).size=(pairsOf L).size:=e.size_eq;have q:=Y i j (aDu jt) (by rw[<-gu];exact C);have kk:∀k (H:k<(arrOf b).size),KK (kV L key) (arrOf b) k=key (arrOf b)[k].2:=λk H=>by unfold KK;rw[getElem?_pos _ k H];obtain⟨u,z⟩:=same (arrOf b)[k] (by simp);show((kV L key).keyOf (arrOf b)[k].1).getD _=_;rw[u,ZE z];rfl
 rw[kk i cg,kk j C]at q;rw[aCQ,aCQ,aGd,aGd];exact q
def sorted_keys{x:au}{L:List au}{f:Bool}{key:au->List Int}{Q:F7}{C:ba->Prop}(u:∀{p:List au->ba->Prop},(∀s',C s'->p L s')->a9 (be prog w) A.in1 (collect x) p E s)
  (v:∀s',C s'->∀a,(∀b o,s'.heap.get? b=some o->a.heap.get? b=some o)->∀x∈L,∀y∈L,∀(prog:bM) (w:cp) (r:cf) (E:F7) (O:r.units<=A.units+5) {Q:yB},Q (HT.lexLt (key x) (key y)) a->a9 (be prog w) r (keyLt' (tupK f) x y) Q E a)
  (z:2<=L.length->∀s',C s'->∀a,(∀b o,s'.heap.get? b=some o->a.heap.get? b=some o)->∀(A:cf) {Q:SortKind->ba->Prop},Q (tupK f) a->a9 (be prog w) A (keyKind' L.toArray) Q E a) (j:L.length<64)
  (h:∀(s':ba) (g:List au) (h':cq) (l:bc),C s'->g.Perm L->g.Pairwise (λx y=>HT.lexLt (key y) (key x)=false)->(∀b o,s'.heap.get? b=some o->h'.get? b=some o)->s'.heap.objs.size<=l->(∃n,h'.get? l=some (seqObj "list" g.toArray n))->Q (.ref l) {s' with heap:=h'}):
  a9 (be prog w) A (call (.builtin "sorted") [x]) Q E s:=by
 refine Calls.call_function_entry kind_sorted plain_sorted entry_sorted (args_sorted1 _) ?_;unfold Builtin.«sorted»;refine aAa (m:=checkCount "sorted" 1 1 _) (aAb ?_);refine aAa (u λs' k=>?_);refine aAa (wpAny_newList ?_);have d:(s'.heap.push<|seqObj "list" L.toArray 0).get? s'.heap.objs.size=some (seqObj "list" L.toArray 0):=aAq _ rfl;have t:∀a,zj s'.heap.objs.size {s' with heap:=s'.heap.push (seqObj "list" L.toArray 0)} a->∀b o,s'.heap.get? b=some o->a.heap.get? b=some o:=λa i b o e=>i b o (aAm<|aAg e) (aAd _ e);refine aAa (aAW (aBB slot_list_sort ⟨_,d,rfl⟩ entry_list_sort (LA (key:=key) (f:=f) d (λa i x B y H prog w E {Q} q=>v s' k a (t a i) x B y H prog w _ E (by simp) q) (λI a i {Q} q=>z I s' k a (t a i) _ q) j λg J N=>⟨_,rfl,?_⟩)<|args_list_sort _));refine aAb ⟨_,rfl,h s' g _ _ k J N (λb o e=>?_) (aAl _) (sortedHeap_at d)⟩;rw[sortedHeap_old (aAm<|aAg e) (by rw[aBI];exact aBw (aAg e))];exact aAd _ e
end
end TS
namespace DL
open PySem PySem.Spec L2
open PyProof.Rows hiding St
variable [Tabs]
omit [Tabs]in
def yL{ns:List Int}(h:PySem.W.WData.layableAll [PySem.W.WData.list (ns.map PySem.W.WData.int)]=true):∀x∈ns,aBe x<=1048576:=λx a=>by
 have b:=(PySem.W.layW_cons h).1;have d:=PySem.W.layableW_item b (.int x) (aAj.mpr ⟨x,a,rfl⟩);have e:=PySem.W.lay0_int d;have f:PyData.layable0 (.int x)=true:=by simpa[PyData.layableAll0]using e
 exact PyData.bits_of_layable f
def z8(P:bM)(w:cp)(K:ix)(mg:cM)(base:cq)(k:Nat)(x:Str)(n:Nat)(m:List D->R D):Prop:=
 ∃g a b,FnOk P w K mg base uO k g a b (zq K n m)/\Binds K a b []/\PySem.W.keepIn K (.ref g)=true/\mg x=some (.ref g)
def EZ(f:Ev->R (List D))(n:Nat):Prop:=∀ρ a,f ρ=.ok a->a.length=n
def O6:EZ R6 0:=λρ a h=>by cases h;rfl
def v8(h:EZ g n):EZ (m5 f g) (n+1):=λρ j e=>by
 unfold m5 at e;cases b:f ρ with
 |ok d=>
  rw[b,R.aa0]at e;cases a:g ρ with
  |ok i=>rw[a]at e;cases e;rw[aAp,h ρ i a]
  |ex x=>rw[a]at e;cases e
  |bad=>rw[a]at e;cases e
 |ex x=>rw[b]at e;cases e
 |bad=>rw[b]at e;cases e
section
def xC(c:z8 X.prog X.w X.K X.mg X.base k x n m)(d:Room k X.A)(h:MF X (e::es) f)(i:EZ f n)(j:Gl X x:=by rfl)(l:(x==ja)=false:=by decide)(o:bb (e::es) X.env=(false,dm e X.env)::bb es X.env:=by rfl)(q:(cy a (bb es X.env)).any (·.1)=false:=by rfl):
  PD X (.Call (.Name x p) (e::es) [] a) (λρ=>(f ρ).bind m):=by
 obtain⟨g,s,t,F,b,r,em⟩:=c;exact XI F d em r b h i j l o q
end
def yj{P:bM}{w:cp}{K:ix}{mg:cM}{base:cq}{x qual:Str}{st:cv}{f:bc}{fd:dA}{N ps:List Str}{k:Nat}{m:List D->R D}{F:Ev->R Out}(b:Fun K x qual st f fd)(S:FnScope N ps (c6 st))(e:Binds K fd ps [])(g:mg x=some (.ref f))
  (h:∀(C:au) (A:cf) (a:List Env) (s:ba) (H:Hp) (E:XK),Room k (A.deeper (envOfC qual (c6 st) s.heap.objs.size f C))->bN (UH P w K mg base N qual (c6 st) f C A a s H E) (q8 st) F)
  (i:∀ds d,ds.length=ps.length->m ds=.ok d->P3 (F (j6 N ds))=.ok d):z8 P w K mg base (k+1) x ps.length m:=
 ⟨f,fd,ps,fnD b S h i,e,b.kp,g⟩
def o9:∀d ρ1,(R.ok ((i5 [x] a ρ).set 0 (Sl.v d)):R Ev)=.ok ρ1->nK ρ1 (i5 [x] a ρ):=λd ρ1 h=>by
 cases h;refine⟨by simp,λi e h b=>?_⟩;cases i with
 |zero=>exact absurd (by simpa[i5]using h.symm) b
 |succ i=>rw[aCA (by lia)];exact h
def SF(sc:hE)(N:List Str)(a:hE)(d:List Str)(b:List Nat):Bool:=
 decide (a.kind=.function)&&a.names.all (λy=>decide (y.2=.free->(y.1,aCc)∉a.names))&&a.names.all (λy=>decide (y.2=.local->a.names.lookup y.1=some .local))&&
 a.names.all (λy=>decide (y.2=.free->sc.names.lookup y.1=some .cell\/sc.names.lookup y.1=some .free))&&decide (b.length=d.length)&&(b.zip d).all (λp=>decide (N[p.1]?=some p.2/\(p.2,NameKind.free)∈a.names))&&decide b.Nodup&&
 a.names.all (λy=>decide (y.2=.free->a.names.lookup y.1=some .free))
def J0(b:X.env.scope=sc:=by rfl)(d:X.N=N:=by rfl)(h:SF sc N a e f=true:=by decide+kernel):CompSc X a own e f:=by simp only[SF,aAQ,aCh,decide_eq_true_eq]at h;obtain⟨⟨⟨⟨⟨⟨⟨g,k⟩,l⟩,m⟩,n⟩,o⟩,p⟩,q⟩:=h;subst b d;refine⟨g,k,l,m,n,λi j x r s=>?_,p,q⟩;refine o (j,x) (aAx (i:=i) ?_);rw[aBE];exact⟨r,s⟩
def DJ(σ:List (Nat×D))(h:∀p∈σ,p.1<Y.length):nK (σ.foldl (λr p=>r.set p.1 (Sl.v p.2)) (i5 Y a ρ)) (i5 Y a ρ):=by
 have f:∀(σ:List (Nat×D)) (r:Ev),(∀p∈σ,p.1<Y.length)->r.length=(i5 Y a ρ).length->(∀i,Y.length<=i->r[i]?=(i5 Y a ρ)[i]?)->
   (σ.foldl (λr p=>r.set p.1 (Sl.v p.2)) r).length=(i5 Y a ρ).length/\∀i,Y.length<=i->(σ.foldl (λr p=>r.set p.1 (Sl.v p.2)) r)[i]?=(i5 Y a ρ)[i]?:=by
  intro σ;induction σ with
  |nil=>intro r _ b d;exact⟨b,d⟩
  |cons p σ l=>intro r g b d;refine l _ (λq m=>g q (aAe _ m)) (by rw[aFV];exact b) λi k=>?_;have:=g p aBm;rw[aCA (by lia)];exact d i k
 obtain⟨b,d⟩:=f σ _ h rfl λ_ _=>rfl;refine⟨b,λi n e o=>?_⟩;by_cases k:i<Y.length
 .have:n=.no:=by
   rcases X5 e with z|⟨j,_,s,_⟩
   .exact z
   lia
  exact absurd this o
 rw[d i (by lia)];exact e
def TN:∀d ρ1,fV 2 (Q5 (λd ρ=>.ok (ρ.set 0 (.v d))) (Q5 (λd ρ=>.ok (ρ.set 1 (.v d))) mL)) d (i5 [x,y] e ρ)=.ok ρ1->nK ρ1 (i5 [x,y] e ρ):=λd ρ1 h=>by
 have f:∀g:List D,g.length=2->Q5 (λd ρ=>.ok (ρ.set 0<|.v d)) (Q5 (λd ρ=>.ok (ρ.set 1<|.v d)) mL) g (i5 [x,y] e ρ)=.ok ρ1->nK ρ1 (i5 [x,y] e ρ)
  |[a,b],_,h=>by cases h;exact DJ (Y:=[x,y]) [(0,a),(1,b)] (by simp)
 unfold fV at h;split at h
 .split at h
  .exact f _ ‹_› h
  cases h
 .split at h
  .exact f _ ‹_› h
  cases h
 cases h
end DL
namespace DL.Att2
open PySem PySem.W PySem.Calls PyProof.Rows
def attach_bits{l:OpenLaw}{n:Nat}{q:bM}{b:List Str}{u:(Str->Option au)->cq->Prop}{v:cp->cq->Prop}{d:DefRec}
  (B:l.most=some n) (m:d.params.defaults=[])
  (call:∀(w:cp) (p e:ba) (mg s:cM) (fa:bc) (o:Obj) (t cd h:au) (a:bc) (L:List au) (ns:List Int),
   Ground q b [] u w p mg s e.heap->v w e.heap->
   e.heap.get? fa=some o->o.data=.func (docDef d.name d.params d.body d.scope t cd h)->e.heap.CodeRec cd d.name->mg d.name=some (.ref fa)->
   e.heap.get? a=some {cls:=.type "list",data:=.seq L.toArray}->IntsAre L ns->ns.length<=n->(∀x∈ns,aBe x<=1048576)->e.gens=#[]->
   gn (be l.prog w) callerA (.call (.ref fa) ⟨[.ref a],[]⟩) (λr s'=>r=.ok (.ret (.bool true))/\OldK e.heap s'.heap/\s'.os=e.os/\AllBare s'.gens) e):
  WalkO q b u v l.row.toRowW d [] (λf L=>PySem.call f L):=by
 intro w p e mg s G Y fa o t cd h C kV E H I y J N z A as O g Q T U;obtain rfl:C=.none:=Dflts.none y m;obtain rfl:kV=.none:=Dflts.noKw y;obtain⟨a,L,ns,rfl,rfl,j,i,k⟩:=Att.script_of B O T;have hb:=DL.yL (ns:=ns) (by first|exact g|exact g.1|(simpa using g));refine enter_call (aDR (call w p e mg s fa o t cd h a L ns G Y E (fd_plain H) I J j i k hb N) λr s' hq=>?_);obtain⟨rfl,h2,h3,h4⟩:=hq;exact⟨.inl ⟨.bool true,.bool true,[],rfl,λ_=>rfl,.bool true,Att.post_true l _,λ_=>⟨aGv,λ_ hm=>(nomatch hm)⟩⟩,h2,h3,h4⟩
end DL.Att2
namespace DL
open PySem PySem.Spec L2
open PyProof.Rows hiding St
variable [Tabs]
end DL
namespace DL
open PySem L2
abbrev bits(a:Int):Nat:=aBe a
def l8(h:A3 a b):LK (.int a) (.int b)=.ok (.int (a*b)):=h9 h
def uS(h:AW b):S9 (.int a) (.int b)=.ok (.int (a.fdiv b)):=h9 h
def AZ(h:b≠0):oR (.int a) (.int b)=.ok (.int (a.fmod b)):=h9 h
def A3.of(d:bits a<=m)(e:bits b<=n)(f:m<=60000000:=by decide)(g:n<=60000000:=by decide):A3 a b:=⟨aAr d f,aAr e g⟩
def bits_add(d:bits a<=n)(e:bits b<=n):bits (a+b)<=n+1:=by have:=PyProof.Rows.bits_add d e;rw[Nat.max_self]at this;exact this
def bits_sub(d:bits a<=n)(e:bits b<=n):bits (a-b)<=n+1:=by have:=PyProof.Rows.bits_sub d e;rw[Nat.max_self]at this;exact this
def bits_mul(d:bits a<=m)(e:bits b<=n):bits (a*b)<=m+n:=PyProof.Rows.bits_mul d e
def bits_neg(b:bits a<=m):bits (-a)<=m:=PyProof.Rows.bits_neg b
def IF(h:a.natAbs<2^n):bits a<=n:=PyProof.Rows.intBits_le h
def GQ(h:bits a<=n):a.natAbs<2^n:=PyProof.Rows.lt_pow_of_bits h (aAl n)
@[simp]def W6(d:D)(ρ:Ev):eN 0 (Sl.v d::ρ)=.ok d:=rfl
@[simp]def aN(i:Nat)(x:Sl)(ρ:Ev):eN (i+1) (x::ρ)=eN i ρ:=rfl
@[simp]def cV(d:D)(ρ:Ev):AA 0 (Sl.v d::ρ)=.ok d:=rfl
@[simp]def FG(d:List D)(ρ:Ev):AA 0 (Sl.o d::ρ)=.ok (.lst d):=rfl
@[simp]def cF(i:Nat)(x:Sl)(ρ:Ev):AA (i+1) (x::ρ)=AA i ρ:=rfl
@[simp]def W9(d:D)(ρ:Ev):ZA d ρ=.ok d:=rfl
@[simp]def C8(ρ:Ev)(F:Ev->R Out):D6 (.ok (.nx ρ)) F=F ρ:=rfl
@[simp]def a1d(d:D)(F:Ev->R Out):D6 (.ok (.rt d)) F=.ok (.rt d):=rfl
@[simp]def a3f(d:D):P3 (.ok (.rt d))=.ok d:=rfl
@[simp]def a3a(ρ:Ev):P3 (.ok (.nx ρ))=.ok .non:=rfl
@[simp]def J4(f:Ev->R D)(g:Ev->R (List D))(ρ:Ev):m5 f g ρ=(f ρ).bind λd=>(g ρ).bind λds=>.ok (d::ds):=rfl
@[simp]def O5(ρ:Ev):R6 ρ=.ok []:=rfl
@[simp]def a6i(a:D):mF [a]=.ok (.tup [a]):=rfl
@[simp]def a6d(a b:D):mF [a,b]=.ok (.tup [a,b]):=rfl
@[simp]def a2i(a b c:D):mF [a,b,c]=.ok (.tup [a,b,c]):=rfl
@[simp]def a5w(a b c d:D):mF [a,b,c,d]=.ok (.tup [a,b,c,d]):=rfl
@[simp]def a0q(a:D):DA [a]=.ok (.lst [a]):=rfl
@[simp]def a5p(a b:D):DA [a,b]=.ok (.lst [a,b]):=rfl
@[simp]def a5o(x y z:D):X6 (.tup [x,y,z]) (.int 0)=.ok x:=rfl
@[simp]def a5q(x y z:D):X6 (.tup [x,y,z]) (.int 1)=.ok y:=rfl
@[simp]def a5y(x y z:D):X6 (.tup [x,y,z]) (.int 2)=.ok z:=rfl
@[simp]def a6g(x y z t:D):X6 (.tup [x,y,z,t]) (.int 0)=.ok x:=rfl
@[simp]def a6e(x y z t:D):X6 (.tup [x,y,z,t]) (.int 1)=.ok y:=rfl
@[simp]def a5t(x y z t:D):X6 (.tup [x,y,z,t]) (.int 2)=.ok z:=rfl
@[simp]def a5z(x y z t:D):X6 (.tup [x,y,z,t]) (.int 3)=.ok t:=rfl
@[simp]def a6f(x y:D):X6 (.tup [x,y]) (.int 0)=.ok x:=rfl
@[simp]def a6h(x y:D):X6 (.tup [x,y]) (.int 1)=.ok y:=rfl
def cH(h:oG Y i=some d):X6 (.lst Y) (.int i)=.ok d:=by simp only[X6,h]
def TK{Y:List D}{i:Int}{d:D}(h:oG Y i=some d):X6 (.tup Y) (.int i)=.ok d:=by simp only[X6,h]
@[simp]def nU(a b:Int):lW (.int a) (.int b)=.ok (.int (a+b)):=rfl
@[simp]def jO(a b:Int):LX (.int a) (.int b)=.ok (.int (a-b)):=rfl
@[simp]def ij(a b:Int):ltR (.int a) (.int b)=.ok (.bl (decide (a<b))):=rfl
@[simp]def CW(a b:Int):leR (.int a) (.int b)=.ok (.bl (decide (a<=b))):=rfl
@[simp]def vO(a b:Int):zy (.int a) (.int b)=.ok (.bl (decide (b<a))):=rfl
@[simp]def a3w(a:Int):a0b (.int a)=.ok (.int (-a)):=rfl
@[simp]def tZ(b:Bool):BV (.bl b)=.ok b:=rfl
@[simp]def a1x(b:Int):toI (.int b)=.ok (some b):=rfl
@[simp]def CF(Y:List D):JR [.lst Y]=.ok (.int Y.length):=rfl
@[simp]def cw(a:Int):a2c [.int a]=.ok (.int (if a<0 then-a else a)):=rfl
@[simp]def YQ(a b:Int):PQ [.int a,.int b]=.ok (.int (if b>a then b else a)):=rfl
@[simp]def vJ(f g:Ev->R Bool)(ρ:Ev):DS f g ρ=(f ρ).bind λb=>if b=true then g ρ else .ok false:=rfl
@[simp]def a4p(f g:Ev->R Bool)(ρ:Ev):orB f g ρ=(f ρ).bind λb=>if b=true then .ok true else g ρ:=rfl
@[simp]def a3e(f:Ev->R Bool)(ρ:Ev):YR f ρ=(f ρ).bind λb=>.ok (!b):=rfl
@[simp]def a3h(f g:Ev->R D)(ρ:Ev):a2m f g ρ=((f ρ).bind BV).bind λb=>if b=true then g ρ else .ok (.bl false):=rfl
@[simp]def vG(a b:Int):UJ (.int a) (.int b)=.ok (.bl (a==b)):=by simp only[UJ,G4,v5];rfl
@[simp]def jx(a b:Int):MH (.int a) (.int b)=.ok (.bl (!(a==b))):=by simp only[MH,G4,v5];rfl
@[simp]def fw(a b c d e f:Int):UJ (.tup [.int a,.int b,.int c]) (.tup [.int d,.int e,.int f])=.ok (.bl (a==d&&(b==e&&c==f))):=by simp[UJ,G4,A8,v5,Z8]
@[simp]def CK(a b c d e f:Int):MH (.tup [.int a,.int b,.int c]) (.tup [.int d,.int e,.int f])=.ok (.bl (!(a==d&&(b==e&&c==f)))):=by simp[MH,G4,A8,v5,Z8]
def Y8{α:Type}{Y:List α}{k:Int}(h0:0<=k):oG Y k=Y[k.toNat]?:=by
 unfold oG MA;rw[h9 h0];by_cases h:k<Y.length
 .rw[h9 h];rfl
 rw[ia h,aCo.mpr (by omega)];rfl
def gF(n:Nat)(Y:List D):Prop:=∀x∈Y,∃i,x=.int i/\bits i<=n
def VB{n:Nat}{ns:List Int}(h:∀x∈ns,bits x<=n):gF n (ns.map D.int):=λx a=>by obtain⟨i,b,rfl⟩:=aAj.mp a;exact⟨i,rfl,h i b⟩
def yG(g:Int->Int)(Y:List D)(k:Int):D:=match Y[k.toNat]? with
 |some d=>d
 |none=>.int (g k)
def QP:D->Bool
 |.int _=>true
 |_=>false
def j9(b:-((2:Int)^n)<a)(d:a<(2:Int)^n):bits a<=n:=IF (by
 have e:((2^n:Nat):Int)=(2:Int)^n:=by simp
 omega)
def bits_fmod{a b:Int}{n:Nat}(h0:b≠0)(d:bits b<=n):bits (a.fmod b)<=n:=PyProof.Rows.bits_fmod_by h0 d
def bits_fdiv(d:bits a<=n):bits (a.fdiv b)<=n:=PyProof.Rows.bits_fdiv d
def f6(h:bits a<=m)(b:m<=n:=by decide):bits a<=n:=aAr h b
@[simp]def fO(Y:List D):iZ (.lst Y)=.ok Y:=rfl
@[simp]def JQ(Y:List D):HK (.tup Y)=.ok Y:=rfl
@[simp]def ak(G:D->Ev->R Ev)(ft:Ev->R Bool)(fe:Ev->R D)(ρ:Ev):o8 G ft fe ρ []=.ok []:=rfl
@[simp]def qx(i:Nat)(ft:Ev->R Bool)(fe:Ev->R D)(ρ:Ev)(d:D)(ds:List D):o8 (λd ρ=>.ok (ρ.set i (Sl.v d))) ft fe ρ (d::ds)=(ft (ρ.set i (Sl.v d))).bind λb=>if b=true then(fe (ρ.set i (Sl.v d))).bind λr=>(o8 (λd ρ=>.ok (ρ.set i (Sl.v d))) ft fe ρ ds).bind λa=>.ok (r::a)else o8 (λd ρ=>.ok (ρ.set i (Sl.v d))) ft fe ρ ds:=rfl
@[simp]def a2y(d:D):seen (.v d)=.v d:=rfl
def a0e(x:D)(r:List D):X6 (.tup (x::r)) (.int 0)=.ok x:=TK (by rw[Y8 (by decide)];rfl)
def a1j(x y:D)(r:List D):X6 (.tup (x::y::r)) (.int 1)=.ok y:=TK (by rw[Y8 (by decide)];rfl)
def a0m(x y z:D)(r:List D):X6 (.tup (x::y::z::r)) (.int 2)=.ok z:=TK (by rw[Y8 (by decide)];rfl)
theorem gT(Iv:Nat->Ev->Prop)(b:∀n ρ,Iv (n+1) ρ->c ρ=.ok false\/(c ρ=.ok true/\∃ρ2,F ρ=.ok (.nx ρ2)/\Iv n ρ2))(a:∀ρ,¬Iv 0 ρ):∀n ρ,Iv n ρ->∃m ρ',T5 c F n ρ=.ok (.nx ρ')/\Iv m ρ'/\c ρ'=.ok false
 |0,ρ,h=>absurd h (a ρ)
 |n+1,ρ,h=>by
  rcases b n ρ h with e|⟨e,ρ2,d,f⟩
  .exact⟨n+1,ρ,by rw[T5,e];rfl,h,e⟩
  obtain⟨m,ρ',g,i,j⟩:=gT Iv b a n ρ2 f;exact⟨m,ρ',by rw[T5,e];simp only[R.aa0,if_true,d];exact g,i,j⟩
def IX{Iv:Nat->Ev->Prop}(b:∀n ρ,Iv (n+1) ρ->c ρ=.ok false\/(c ρ=.ok true/\∃ρ2,F ρ=.ok (.nx ρ2)/\Iv n ρ2))(h0:Iv n ρ)(f:∀n ρ',Iv n ρ'->c ρ'=.ok false->P3 (g ρ')=.ok d)(a:∀ρ,¬Iv 0 ρ:=by(intro ρ;rintro⟨x,y,_,z,_⟩;omega)):
  P3 (D6 (T5 c F n ρ) g)=.ok d:=by
 obtain⟨m,ρ',e,h,i⟩:=gT Iv b a n ρ h0;rw[e];exact f m ρ' h i
end DL
namespace DL
open PySem PySem.Spec L2
open PyProof.Rows hiding St
section
variable [Tabs]
section
variable{K:ix}
def EnvOk.ad3(E:EnvOk K e f H O σ ρ)(i:Nat)(h:H a=none)(d:K.lookup a=none)(r:Reps K H O L Y):
  EnvOk K e f (upd H a (.lst L)) (λb=>O b\/b=a) (σ.set i (some (.ref a))) (ρ.set i (.o Y)):=
 E.ae0 i h d trivial λg=>⟨a,L,rfl,.inr rfl,g,j2,r.ab7 h d⟩
def EnvOk.disown(E:EnvOk K f g H O σ ρ)(e:ρ[i]?=some (.o Y)):∃d,EnvOk K f g H d σ (ρ.set i (.v (.lst Y)))/\(∀b,d b->O b):=by obtain⟨a,L,h,l,m,j,k⟩:=E.own i Y e;exact⟨λb=>O b/\b≠a,E.ae8 e trivial h (λz=>z) ⟨.ref a,rfl,.lst (P4.of j) (λz=>z.2 rfl) (k.sub λ_ z=>z.1)⟩,λb z=>z.1⟩
def EnvOk.write(E:EnvOk K j k H O σ ρ)(e:ρ[i]?=some (.o Y))(b:σ[i]?=some (some (V.ref a)))(r:Reps K H O d l):
  EnvOk K j k (upd H a (.lst d)) O σ (ρ.set i (.o l))/\Kp H O (upd H a (.lst d)) O:=by
 obtain⟨f,L,m,g,n,h,q⟩:=E.own i Y e;have p:f=a:=by rw[m]at b;cases b;rfl
 subst p;exact E.ae4 e trivial b h trivial trivial λ_ _ _=>⟨f,d,rfl,g,n,j2,r.upd h trivial g⟩
end
section
def tF(X:Cx)(f:Ev->R (List D)):TE:=λσ H Q=>∃g h O ρ,EnvOk X.K g h H O σ ρ/\match f ρ with
 |.ok i=>∀L b a,Same H b->b a=none->Reps X.K b O L i->Q (.ref a) (upd b a<|.lst L)
 |.ex e=>∀d,Same H d->XW X e d
 |.bad=>False
def PF(X:Cx)(e:cu)(f:Ev->R (List D)):Prop:=PE X e (tF X f)
def FS(I:Inv X b σ H s)(h:H a=some o):X.K.lookup a=none:=by
 cases e:X.K.lookup a with
 |none=>rfl
 |some d=>have:=(I.bs a d<|I.ok.mod.kin a d e).2;rw[h]at this;cases this
def PF.pd(h:PF X e f):PD X e (λρ=>(f ρ).bind λds=>.ok (.lst ds)):=ME h λσ H Q i j O ρ E q=>⟨i,j,O,ρ,E,by
 dsimp only at q;cases b:f ρ with
 |ok ds=>rw[b]at q;intro L k a g d r;exact q _ _ (g.trans<|k9 d _) (.lst (P4.of j2) ((E.grow g).fresh d) (r.same<|k9 d _))
 |ex x=>rw[b]at q;exact q
 |bad=>rw[b]at q;exact q⟩
def dZ(h:MF X es f):PF X (.List es e) (λρ=>(f ρ).bind λds=>if ds.length<=sizeLine then .ok ds else .bad):=
 ME (OT h) λσ H Q g i O ρ E q=>⟨g,i,O,ρ,E,by
  dsimp only at q;cases a:f ρ with
  |ok ds=>
   rw[a,R.aa0]at q;intro L j k d;by_cases b:ds.length<=sizeLine
   .rw[h9 b]at q;exact⟨by rw[d.length];exact b,λp l=>q L j p k l d⟩
   rw[ia b]at q;exact aAf q
  |ex x=>rw[a]at q;exact q
  |bad=>rw[a]at q;exact q⟩
def Y3(i:Nat)(J:PF X e f)(Q:X.N.Nodup)(T:X.N[i]?=some x:=by rfl)(U:Loc X.env.scope x:=by first|exact aCB rfl|exact aBM rfl)(Y:eQ e (some (.Name x g)) m.line X.env=pure false:=by rfl)(hf:X.fn x=true\/X.env.scope.names.lookup x=some .local:=by first|exact .inl rfl|exact .inr rfl|assumption):
  nH X (.Assign [.Name x g] e m) (λρ=>(f ρ).bind λds=>.ok (.nx (ρ.set i (.o ds)))):=by
 rintro u w h s σ H D I ⟨O,ρ,E,fk,q⟩;dsimp only at q;refine aEc (F5 (J h s σ H (λv A=>∃L d a ds,v=.ref a/\A=upd d a (.lst L)/\Same H d/\d a=none/\Reps X.K d O L ds/\RS X u w H O (.ok (.nx (ρ.set i<|.o ds))) D) I ⟨u,w,O,ρ,E,?_⟩) λv B z9=>?_) Y
 .cases j:f ρ with
  |ok ds=>rw[j,R.aa0]at q;exactλL d a B k r=>⟨L,d,a,ds,rfl,rfl,B,k,r,q⟩
  |ex x=>rw[j]at q;exactλH' s=>q H' (E.same.trans s)
  |bad=>rw[j]at q;exact q
 obtain⟨y,A,p,r2,L,d,a,ds,j,e2,l,k,r,q'⟩:=z9;subst j e2;refine N6 p Q T U r2 (λs3 I3=>⟨_,_,I3,?_⟩) hf;have hk:=FS p (j2 (H:=d) (a:=a) (o:=.lst L));have C:=(E.grow l).ad3 i k hk r;refine q' _ _ _ C (nE p _ C.trk) ?_;exactλb o t n=>⟨by rw[l5 (n8 (l b o t) k)];exact l b o t,λz=>z.elim n (n8 (l b o t) k)⟩
def gH(i:Nat)(ρ:Ev):Ev:=match ρ[i]? with
 |some (.o Y)=>ρ.set i (.v (.lst Y))
 |_=>ρ
def GW(i:Nat){st:cv}(h:nH X st F):nH X st (λρ=>F (gH i ρ)):=by
 intro g j f s σ H D I ⟨O,ρ,E,k,q⟩;dsimp only at q;unfold gH at q;cases e:ρ[i]? with
 |none=>rw[e]at q;exact h g j f s σ H D I ⟨O,ρ,E,k,q⟩
 |some l=>
  rw[e]at q;cases l with
  |x C=>exact h g j f s σ H D I ⟨O,ρ,E,k,q⟩
  |c m φ=>exact h g j f s σ H D I ⟨O,ρ,E,k,q⟩
  |d N=>exact h g j f s σ H D I ⟨O,ρ,E,k,q⟩
  |no=>exact h g j f s σ H D I ⟨O,ρ,E,k,q⟩
  |v d=>exact h g j f s σ H D I ⟨O,ρ,E,k,q⟩
  |o Y=>obtain⟨p,r,sub⟩:=E.disown e;exact h g j f s σ H D I ⟨p,_,r,λa o t z=>k a o t (sub a z),RS.grow q λb o u n=>⟨u,λz=>n (sub b z)⟩⟩
def zR(i:Nat)(ρ:Ev)(d:D):R Out:=match ρ[i]? with
 |some (.o Y)=>if Y.length<sizeLine then .ok (.nx (ρ.set i<|.o (Y++[d])))else .bad
 |_=>.bad
def P7(i:Nat)(y:PD X e f)(z:X.N[i]?=some x:=by rfl)(A:AH X.env.scope x:=by first|exact aCB rfl|exact aBM (aCB rfl)|exact aBM (aBM rfl))(B:(x==ja)=false:=by decide)(I:(x==ka)=false:=by decide)(J:gm (.Name x p) "append" X.env (dm (.Name x p) X.env)=dm (.Name x p) X.env:=by rfl)(Q:((cy g (bb [e] X.env)).all (λx=>!x.1)&&(backToKw g (keywordEach [] X.env)).all (λx=>x.1.isSome)
   &&decide ([e].length+([]:List Keyword).length+(if([]:List Keyword).isEmpty then 0 else 1)<30))=true:=by rfl) (T:(b.endLine==g.line)=true:=by rfl) (r:bb [e] X.env=(false,dm e X.env)::bb [] X.env:=by rfl) (U:(cy g (bb [] X.env)).any (·.1)=false:=by rfl) (xg:eQ (.Call (.Attribute (.Name x p) "append" b) [e] [] g) none l.line X.env=pure false:=by rfl):
  nH X (.Expr (.Call (.Attribute (.Name x p) "append" b) [e] [] g) l) (λρ=>(f ρ).bind (zR i ρ)):=λH9 O0=>
 BW (nN (ZU PySem.F.plainAttrs_list PySem.F.slot_list_append PySem.F.type_list_append uG (O8 z A B I) (f9 y m8 r) J Q T r U) xg) λD σ H O ρ E fk q=>by
 cases j:f ρ with
 |ok d=>
  rw[j,R.aa0]at q;unfold zR at q;cases h:ρ[i]? with
  |none=>rw[h]at q;exact aAf q
  |some s=>
   rw[h]at q;cases s with
   |x C=>exact aAf q
   |c m φ=>exact aAf q
   |d N=>exact aAf q
   |no=>exact aAf q
   |v d=>exact aAf q
   |o Y=>
    dsimp only at q;split at q
    .rename_i hz;obtain⟨a,L,t,h2,h3,u,w⟩:=E.own i Y h;refine⟨_,t,.inl ⟨rfl,L,P4.of u⟩,H9,O0,O,ρ,E,?_⟩;show LV X H O ((f ρ).bind λd=>(R.ok []).bind λds=>.ok (d::ds)) _;rw[j];intro us H1 k n;cases n with
     |cons n rn=>cases rn;have E1:=E.grow k;refine⟨a,L,_,rfl,rfl,k _ _ u,by rw[w.length];exact hz,?_⟩;obtain⟨E2,k2⟩:=E1.write h t ((w.same k).snoc n);exact q σ _ O E2 fk ((Kp.of k).trans k2)
    exact aAf q
 |ex x=>
  rw[j]at q;cases h:ρ[i]? with
  |none=>exact(q H E.same).elim
  |some s=>exact(q H E.same).elim
 |bad=>rw[j]at q;exact aAf q
def xw(i:Nat)(ρ:Ev)(d:D):R Out:=match ρ[i]?,d with
 |some (.o Y),.lst a=>if Y.length+a.length<=sizeLine then .ok (.nx (ρ.set i<|.o (Y++a)))else .bad
 |_,_=>.bad
def CV(i:Nat)(ρ:Ev):R (D×Ev):=match ρ[i]? with
 |some (.o Y)=>match Y[Y.length-1]? with
  |some d=>.ok (d,ρ.set i (.o Y.dropLast))
  |none=>.bad
 |_=>.bad
def WV(i:Nat)(n:X.N[i]?=some x:=by rfl)(r:AH X.env.scope x:=by first|exact aCB rfl|exact aBM (aCB rfl)|exact aBM (aBM rfl))(s:(x==ja)=false:=by decide)(t:(x==ka)=false:=by decide)(u:gm (.Name x p) "pop" X.env (dm (.Name x p) X.env)=dm (.Name x p) X.env:=by rfl)(w:(b.endLine==j.line)=true:=by rfl)(y:eQ (.Call (.Attribute (.Name x p) "pop" b) [] [] j) none f.line X.env=pure false:=by rfl):
  nH X (.Expr (.Call (.Attribute (.Name x p) "pop" b) [] [] j) f) (λρ=>(CV i ρ).bind λz=>.ok (.nx z.2)):=λT U=>
 BW (nN (QW PySem.F.plainAttrs_list PySem.F.slot_list_pop PySem.F.type_list_pop TR (O8 n r s t) u w) y) λD σ H O ρ E A q=>by
 unfold CV at q;cases e:ρ[i]? with
 |none=>rw[e]at q;exact aAf q
 |some B=>
  rw[e]at q;cases B with
  |x C=>exact aAf q
  |c m φ=>exact aAf q
  |d N=>exact aAf q
  |no=>exact aAf q
  |v d=>exact aAf q
  |o Y=>
   dsimp only at q;cases g:Y[Y.length-1]? with
   |none=>rw[g]at q;exact aAf q
   |some d=>rw[g]at q;obtain⟨a,L,k,h2,h3,l,h⟩:=E.own i Y e;obtain⟨v,I,g2⟩:=h.get g;refine⟨_,k,.inl ⟨rfl,L,P4.of l⟩,a,L,v,rfl,rfl,l,by rw[h.length];exact I,?_⟩;obtain⟨J,Q⟩:=E.write e k h.dropLast;exact q σ _ O J A Q
def EY(j i:Nat)(f:X.N.Nodup)(jt:i≠j:=by decide)(w:X.N[i]?=some x:=by rfl)(A:X.N[j]?=some y:=by rfl)(B:AH X.env.scope x:=by first|exact aCB rfl|exact aBM (aCB rfl)|exact aBM (aBM rfl))(I:(x==ja)=false:=by decide)(J:(x==ka)=false:=by decide)(Q:gm (.Name x p) "pop" X.env (dm (.Name x p) X.env)=dm (.Name x p) X.env:=by rfl)(T:(b.endLine==n.line)=true:=by rfl)(g:Loc X.env.scope y:=by first|exact aCB rfl|exact aBM rfl)(U:eQ (.Call (.Attribute (.Name x p) "pop" b) [] [] n) (some (.Name y py)) h.line X.env=pure false:=by rfl)(hf:X.fn y=true\/X.env.scope.names.lookup y=some .local:=by first|exact .inl rfl|exact .inr rfl|assumption):
  nH X (.Assign [.Name y py] (.Call (.Attribute (.Name x p) "pop" b) [] [] n) h) (λρ=>(CV i ρ).bind λz=>.ok (.nx (z.2.set j (.v z.1)))):=λH9 O0=>
 BW (NM f A g (QW PySem.F.plainAttrs_list PySem.F.slot_list_pop PySem.F.type_list_pop TR (O8 w B I J) Q T) U hf) λD σ H O ρ E r q=>by
 unfold CV at q;cases e:ρ[i]? with
 |none=>rw[e]at q;exact aAf q
 |some sl=>
  rw[e]at q;cases sl with
  |x C=>exact aAf q
  |c m φ=>exact aAf q
  |d N=>exact aAf q
  |no=>exact aAf q
  |v d=>exact aAf q
  |o Y=>
   dsimp only at q;cases k:Y[Y.length-1]? with
   |none=>rw[k]at q;exact aAf q
   |some d=>rw[k]at q;obtain⟨a,L,s,h2,h3,t,l⟩:=E.own i Y e;obtain⟨v,g1,g2⟩:=l.get k;refine⟨_,s,.inl ⟨rfl,L,P4.of t⟩,a,L,v,rfl,rfl,t,by rw[l.length];exact g1,?_⟩;obtain⟨E2,u⟩:=E.write e s l.dropLast;exact q _ _ O (E2.set j<|u.rep E.trk r g2) r u
def YD(i:Nat)(ρ:Ev)(k d:D):R Out:=match ρ[i]?,k with
 |some (.o Y),.int k=>match MA Y.length k with
  |some j=>.ok (.nx (ρ.set i<|.o (Y.set j d)))
  |none=>.bad
 |_,_=>.bad
def LJ(i:Nat)(T:PD X e f)(U:PD X k g)(hN:X.N[i]?=some x:=by rfl)(hv:AH X.env.scope x:=by first|exact aCB rfl|exact aBM (aCB rfl)|exact aBM (aBM rfl))(hd:(x==ja)=false:=by decide)(dc:(x==ka)=false:=by decide)(ha:∀v,gs (.Subscript (.Name x p) k ps) X.env v=(do
   let h<-fg [v] (dm (.Name x p) X.env)
   let t<-fg [v,h] (dm k X.env)
   standAt ps
   fg [v,h,t] (setItem h t v)
   release [v,h,t] []):=by intro _;rfl) (hs:fo [.Subscript (.Name x p) k ps] e u.line X.env=pure false:=by rfl) (hw:gk [.Subscript (.Name x p) k ps] e X.env=pure none:=by rfl) (l:(dC [.Subscript (.Name x p) k ps] X.env).map (·.2)=[gs (.Subscript (.Name x p) k ps) X.env]:=by rfl):
  nH X (.Assign [.Subscript (.Name x p) k ps] e u) (λρ=>(f ρ).bind λd=>(g ρ).bind λw=>YD i ρ w d):=λB I=>
 BW (DG T (TH (O8 hN hv hd dc) U RZ ha) hs hw l) λD σ H O ρ E fk q=>⟨B,I,O,ρ,E,by
  cases y:f ρ with
  |ok d=>
   rw[y,R.aa0]at q;intro v H1 J r1;have z:=E.grow J;cases n:g ρ with
   |ok w=>
    rw[n,R.aa0]at q;unfold YD at q;cases r:ρ[i]? with
    |none=>rw[r]at q;exact aAf q
    |some sl=>
     rw[r]at q;cases sl with
     |x C=>exact aAf q
     |c m φ=>exact aAf q
     |d N=>exact aAf q
     |no=>exact aAf q
     |v d=>exact aAf q
     |o Y=>
      obtain⟨a,L,l,h2,h3,h4,Q⟩:=z.own i Y r;refine⟨_,l,B,I,O,ρ,z,?_⟩;rw[n];intro kv H2 b r2;have E2:=z.grow b;cases w with
      |int kk=>
       dsimp only at q;cases A:MA Y.length kk with
       |none=>rw[A]at q;exact aAf q
       |some j=>rw[A]at q;cases r2;refine⟨a,L,kk,j,rfl,rfl,b _ _ h4,by rw[Q.length];exact A,?_⟩;obtain⟨E3,k3⟩:=E2.write r l ((Q.same b).set (r1.same b) j);exact q σ _ O E3 fk (((Kp.of J).trans (Kp.of b)).trans k3)
      |_=>exact aAf q
   |ex x=>rw[n]at q;exact(q H E.same).elim
   |bad=>rw[n]at q;exact aAf q
  |ex x=>rw[y]at q;exactλH' s=>q H' (E.same.trans s)
  |bad=>rw[y]at q;exact q⟩
def KB(i:Nat)(own fr:List Str)(U:List Nat)(hN:X.N.Nodup)(hc:X.calm=true)(S:CompSc X f own fr U)(hi:VD X tg w8 fi)(hX:∀(g:O9) (fp:List bc) (X':Cx),(∃s9 Ha C,X'=FN X g s9 Ha (own++fr) f (bV X f C) C fp)->LO X' tg G/\UL X' k ft/\PD X' l fe)(hG:∀ρ d ρ1,G d (i5 own U ρ)=.ok ρ1->nK ρ1 (i5 own U ρ))(hy:X.N[i]?=some y:=by rfl)(Y:X.env.scope.names.lookup y=some .local:=by rfl)(xg:eQ (.ListComp l [⟨tg,w8,k,0⟩] f pos) (some (.Name y py)) spos.line X.env=pure true:=by rfl)(hs:∀x,d7 w8 X.env x=pure x:=by intro _;rfl):
  nH X (.Assign [.Name y py] (.ListComp l [⟨tg,w8,k,0⟩] f pos) spos) (λρ=>((fi ρ).bind λds=>if ds.length<=sizeLine then(o8 G ft fe (i5 own U ρ) ds).bind λh=>R.ok h else .bad).bind λh=>.ok (.nx (ρ.set i (.o h)))):=by
 rintro H9 O0 g s σ H D I ⟨O,ρ,E,fk,q⟩;dsimp only at q;rw[exec_Assign_Name_used _ _ _ _ xg];refine aAa (aEx<|aAa ?_);show a9 _ X.A (do let _<-comprehension (.ListComp l [⟨tg,w8,k,0⟩] f pos) f X.env _ (newList []) false (dm w8 X.env) (some<|gs (.Name y py) X.env)) _ _ s;refine aAa (aCI (aDT (use:=some (gs (.Name y py) X.env)) (Q:=λ_ t=>SP X g D .next t) rfl hs (Z7<|Inv.ab0 I S) S.kind S.names ?_) (λ_ t hq=>aAb (aAb hq)) λ_ _ e=>e);refine F5 (hi g s σ H (λJ H1=>∃ds h,Same H H1/\ZC X.K J H1 O ds/\ds.length<=sizeLine/\o8 G ft fe (i5 own U ρ) ds=.ok h/\RS X H9 O0 H O (.ok (.nx (ρ.set i<|.o h))) D) I ⟨H9,O0,O,ρ,E,nE I O E.trk,?_⟩) λv s1 h1=>F5 h1 λitv s2 h2=>?_
 .cases e1:fi ρ with
  |ex x=>rw[e1]at q;exactλH' s=>q H' (E.same.trans s)
  |bad=>rw[e1]at q;exact q
  |ok ds=>
   rw[e1,R.aa0]at q;intro J H1 s1 hJ;split at q
   .rename_i hl;cases e2:o8 G ft fe (i5 own U ρ) ds with
    |ex x=>rw[e2]at q;exact(q H E.same).elim
    |bad=>rw[e2]at q;exact q.elim
    |ok h=>rw[e2]at q;exact⟨ds,h,s1,hJ,hl,e2,q⟩
   exact q.elim
 obtain⟨it,fp,tn,J,H2,e,I2,T,ku,f2,ds,h,sm,hJ,hl,hrs,q⟩:=h2;subst e;refine qH (RR:=λB C=>compPost (be X.prog X.w) X.A X.xe (some<|gs (.Name y py) X.env) (λ_ t=>SP X g D .next t) B C) hc S (hX g fp) (hG ρ) I2 T ku f2 (E.grow sm) hJ.c hrs hl ?_;intro B C t H' m hn hCa j has sm' r nw hC hI;have I3:=hI t.heap (aGA ..);show a9 _ X.A (gs (.Name y py) X.env<|.ref B) _ _ t;refine wpAny_assign_Name (uD (i:=i) (v:=.ref B) I3 hN hy (.inl Y) rfl (λs4 I4 z9=>?_)<|.inr Y);obtain⟨a,hsb,ha⟩:=z9;have ip:∀x c,X.env.cells.lookup x=some c->c≠C:=λx c hc=>by obtain⟨v,hv⟩:=I2.cell x c hc;exact aAm (aAw hv.lt j)
 have hCL:C≠X.env.locals:=aDv (aAw I2.lt j);have hCa2:C≠a:=by
  rcases ha with ha|ha
  .rw[ha];exact hCL
  exact aBY (ip y a ha)
 refine⟨m,hn.sameBut hsb hCa2,λh' jr=>?_⟩;obtain⟨H1,L,qg,u,eH,rr⟩:=nw;subst eH;have E2:=((E.grow sm).grow qg).ad3 i u (FS I3<|j2 (H:=H1) (a:=B) (o:=.lst L)) rr;refine⟨_,_,?_,q _ _ _ E2 (nE I3 _ E2.trk) λb o hb n=>⟨by rw[l5 (n8 ((sm.trans qg) b o hb) u)];exact(sm.trans qg) b o hb,λz=>z.elim n (n8 ((sm.trans qg) b o hb) u)⟩⟩;exact I4.turned (t':=s4.toks) (it:=C) (λb o hb e=>(jr.2 b hb).trans e) hC hCL (.inr (aAr I2.sz j)) ip λp hp=>aAm (aAw (aAg (I2.pin p hp).1) j)
def jN(i:Nat)(own s:List Str)(g:List Nat)(hN:X.N.Nodup)(hc:X.calm=true)(S:CompSc X f own s g)(t:VD X u w8 Q)(hX:∀(h:O9) (fp:List bc) (p:Cx),(∃s9 Ha C,p=FN X h s9 Ha (own++s) f (bV X f C) C fp)->LO p u G/\UL p j ft/\PD p l fe)(hG:∀ρ d ρ1,G d (i5 own g ρ)=.ok ρ1->nK ρ1 (i5 own g ρ))(hy:X.N[i]?=some y:=by rfl)(w:X.env.scope.names.lookup y=some .local:=by rfl)(xg:eQ (.ListComp l [⟨u,w8,j,0⟩] f A) (some (.Name y py)) m.line X.env=pure true:=by rfl)(hs:∀x,d7 w8 X.env x=pure x:=by intro _;rfl):
  nH X (.Assign [.Name y py] (.ListComp l [⟨u,w8,j,0⟩] f A) m) (λρ=>((Q ρ).bind λds=>if ds.length<=sizeLine then(o8 G ft fe (i5 own g ρ) ds).bind λr=>.ok (D.lst r)else .bad).bind λd=>.ok (.nx (ρ.set i (.v d)))):=λT U=>BW (KB i own s g hN hc S t hX hG hy w xg hs T U) λD σ H O ρ E fk q=>⟨O,ρ,E,fk,by
 dsimp only at q⊢;cases B:Q ρ with
 |ex x=>rw[B]at q;exact q
 |bad=>rw[B]at q;exact q
 |ok ds=>
  rw[B,R.aa0]at q;rw[R.aa0];by_cases hl:ds.length<=sizeLine
  .rw[h9 hl]at q⊢;cases I:o8 G ft fe (i5 own g ρ) ds with
   |ex x=>rw[I]at q;exact q
   |bad=>rw[I]at q;exact q
   |ok r=>
    rw[I]at q;intro af H' O' J f' L;by_cases t:i<ρ.length
    .obtain⟨O2,E2,sub⟩:=J.disown (i:=i) (Y:=r) (by rw[aBJ t]);rw[List.set_set]at E2;exact q af H' O2 E2 (λa o k z=>f' a o k (sub a z)) λb o hb n=>⟨(L b o hb n).1,λz=>(L b o hb n).2 (sub b z)⟩
    have e:∀x,ρ.set i x=ρ:=λx=>List.set_eq_of_length_le (by lia);have q:RS X T U H O (.ok (.nx (ρ.set i<|.v (.lst r)))) D:=q;rw[e]at J q;exact q af H' O' J f' L
  rw[ia hl]at q;exact aAf q⟩
def fK{st:cv}:nH X st (λ_=>.bad):=λa b=>BW PY λD σ H O ρ E d q=>q
end
end
section
theorem aW{α β:Type}[BEq α][LawfulBEq α]:∀{l:List (α×β)}{a:α}{b:β},(l.map (·.1)).Nodup->(a,b)∈l->l.lookup a=some b
 |(x,y)::l,a,b,h,f=>by
  rw[aAk,aAH]at h;rw[aBg];rcases aAc.mp f with e|d
  .cases e;simp
  have:(a==x)=false:=by rw[beq_eq_false_iff_ne];rintro rfl;exact h.1 (aAj.mpr ⟨(a,b),d,rfl⟩)
  rw[this];exact aW h.2 d
theorem mem_lookup{α β:Type}[BEq α][LawfulBEq α]:∀{l:List (α×β)}{a:α}{b:β},l.lookup a=some b->(a,b)∈l
 |(x,y)::l,a,b,h=>by
  rw[aBg]at h;split at h
  .rename_i q;cases h;rw[eq_of_beq q];exact .head _
  exact .tail _ (mem_lookup h)
def xA(o:Obj):Prop:=∃v,o.data=.cell v
def cS(H:Hp)(cs:O9):Hp:=λb=>match cs.lookup b with
 |some o=>some (.frz o (.own b))
 |none=>H b
def T0(H:Hp)(cs:O9):Hp:=λb=>match cs.lookup b with
 |some _=>none
 |none=>H b
section
variable{K:ix}
def fN(e:cs.lookup b=some o):cS H cs b=some (.frz o (.own b)):=by unfold cS;rw[e]
def S1(e:cs.lookup b=none):cS H cs b=H b:=by unfold cS;rw[e]
def cB(e:cs.lookup b=some o):T0 H cs b=none:=by unfold T0;rw[e]
def N3(e:cs.lookup b=none):T0 H cs b=H b:=by unfold T0;rw[e]
def G0(a:∀b o,cs.lookup b=some o->H b=none)(e:H b=some u):cS H cs b=some u:=by
 cases q:cs.lookup b with
 |none=>rw[S1 q];exact e
 |some o=>rw[a b o q]at e;cases e
def fF(a:∀b o,cs.lookup b=some o->H b=none):Same H (cS H cs):=λb u e=>G0 a e
def w9(a:∀b o,cs.lookup b=some o->H b=some (.frz o (.own b)))(e:H b=some u)(ne:∀o,cs.lookup b=some o->u≠.frz o (.own b)):T0 H cs b=some u:=by
 cases q:cs.lookup b with
 |none=>rw[N3 q];exact e
 |some o=>rw[a b o q]at e;cases e;exact absurd rfl (ne o q)
def RJ(x:gB P w H h)(a:∀b o,cs.lookup b=some o->h.get? b=some o/\H b=none):gB P w (cS H cs) h:=λb u e=>by
 have d:∀b o,cs.lookup b=some o->H b=none:=λb o q=>(a b o q).2;cases q:cs.lookup b with
 |some o=>rw[fN q]at e;cases e;exact⟨(a b o q).1,⟨o,(a b o q).1⟩⟩
 |none=>rw[S1 q]at e;exact(x b u e).ac2 (λ_ _ _ z=>z) (λc z=>G0 d z) λc u _ z=>G0 d z
def OZ(x:gB P w H h)(d:∀b o,cs.lookup b=some o->H b=some (.frz o (.own b))/\xA o):gB P w (T0 H cs) h:=λb u e=>by
 have g:∀b o,cs.lookup b=some o->H b=some (.frz o (.own b)):=λb o q=>(d b o q).1;cases q:cs.lookup b with
 |some o=>rw[cB q]at e;cases e
 |none=>rw[N3 q]at e;refine(x b u e).ac2 (λ_ _ _ z=>z) (λc z=>w9 g z λo _ a=>by cases a) λc u f z=>w9 g z λo q a=>?_;subst a;obtain⟨L,j⟩:=f;obtain⟨v,i⟩:=(d c o q).2;rw[j]at i;cases i
def nj(U:Un fs [] (cS H cs) g h h')(k:gB P w g h')(i:∀b o,cs.lookup b=some o->h.get? b=some o/\H b=none/\xA o):Un fs [] H (T0 g cs) h h'/\gB P w (T0 g cs) h'/\∀b o,cs.lookup b=some o->g b=some (.frz o (.own b)):=by
 have j:∀b o,cs.lookup b=some o->H b=none:=λb o q=>(i b o q).2.1;have a:∀b o,cs.lookup b=some o->g b=some (.frz o (.own b)):=λb o q=>U.frzs b o _ (fN q);refine⟨⟨λb o e n l d=>?_,λb o e n l d=>?_,λb o e n d=>?_,λb o e d=>U.there b o e d,λb Y e=>?_,λb o u e=>?_,λb m e=>?_⟩,OZ k λb o q=>⟨a b o q,(i b o q).2.2⟩,a⟩
 .cases q:cs.lookup b with
  |none=>exact U.keep b o e (by rw[S1 q];exact n) l d
  |some f=>have:=(i b f q).1;rw[e]at this;cases this;exact(k b _<|a b o q).1
 .cases q:cs.lookup b with
  |none=>exact U.slot b o e (by rw[S1 q];exact n) l d
  |some f=>have:=(i b f q).1;rw[e]at this;cases this;exact⟨o.slots,(k b _<|a b o q).1⟩
 .cases q:cs.lookup b with
  |none=>rw[N3 q];exact U.free b o e (by rw[S1 q];exact n) d
  |some f=>exact cB q
 .exact w9 a (U.tups b Y<|G0 j e) λo _ z=>by cases z
 .refine w9 a (U.frzs b o u<|G0 j e) λf q z=>?_;rw[j b f q]at e;cases e
 exact w9 a (U.tbls b m<|G0 j e) λo _ z=>by cases z
def xz(U:Un fs [] (T0 H cs) f h h')(k:gB P w f h')(i:∀b o,cs.lookup b=some o->h.get? b=some o/\H b=some (.frz o (.own b))/\b∉fs):Un fs [] H (cS f cs) h h'/\gB P w (cS f cs) h'/\Same f (cS f cs):=by
 have j:∀b o,cs.lookup b=some o->H b=some (.frz o (.own b)):=λb o q=>(i b o q).2.1;have g:∀b o,cs.lookup b=some o->f b=none:=λb o q=>U.free b o (i b o q).1 (cB q) (by simp);have m:∀b o,cs.lookup b=some o->h'.get? b=some o:=λb o q=>U.keep b o (i b o q).1 (cB q) (i b o q).2.2 (by simp);have a:∀b,H b=none->cs.lookup b=none:=λb n=>by
  cases q:cs.lookup b with
  |none=>rfl
  |some o=>rw[j b o q]at n;cases n
 refine⟨⟨λb o e n l d=>U.keep b o e (by rw[N3 (a b n)];exact n) l d,λb o e n l d=>U.slot b o e (by rw[N3 (a b n)];exact n) l d,λb o e n d=>?_,λb o e d=>U.there b o e d,λb Y e=>?_,λb o u e=>?_,λb p e=>?_⟩,
  RJ k λb o q=>⟨m b o q,g b o q⟩,fF g⟩
 .rw[S1 (a b n)];exact U.free b o e (by rw[N3 (a b n)];exact n) d
 .exact G0 g (U.tups b Y (w9 j e λo _ z=>by cases z))
 .cases q:cs.lookup b with
  |none=>exact G0 g (U.frzs b o u (by rw[N3 q];exact e))
  |some r=>rw[j b r q]at e;cases e;exact fN q
 exact G0 g (U.tbls b p (w9 j e λo _ z=>by cases z))
def GB(d:∀b o,cs.lookup b=some o->H b=some (.frz o (.own b)))(q:Y0 K H a Y):Y0 K (T0 H cs) a Y:=by
 rcases q with(q|⟨o,q⟩)|q
 .exact .inl (.inl (w9 d q λo _ z=>by cases z))
 .exact .inl (.inr ⟨o,w9 d q λo _ z=>by cases z⟩)
 exact .inr q
def HS(d:∀b o,cs.lookup b=some o->H b=some (.frz o (.own b)))(q:P4 K H a Y):P4 K (T0 H cs) a Y:=by
 rcases q with(q|⟨o,q⟩)|q
 .exact .inl (.inl (w9 d q λo _ z=>by cases z))
 .exact .inl (.inr ⟨o,w9 d q λo _ z=>by cases z⟩)
 exact .inr q
def HX{cs:O9}{φ:cq->Prop}(a:∀b o,cs.lookup b=some o->H b=some (.frz o (.own b)))(q:H b=some (.ext φ)):T0 H cs b=some (.ext φ):=by
 unfold T0;cases e:cs.lookup b with
 |none=>simpa[e]using q
 |some o=>have:=a b o e;rw[q]at this;cases this
def Rep.hid(a:∀b o,cs.lookup b=some o->H b=some (.frz o (.own b)))(r:Rep K H O v d):Rep K (T0 H cs) O v d:=r.mono (λ_ _ q=>GB a q) (λ_ _ n q=>⟨n,HS a q⟩) λb φ n q=>⟨n,HX a q⟩
def Reps.hid(a:∀b o,cs.lookup b=some o->H b=some (.frz o (.own b)))(r:Reps K H O v d):Reps K (T0 H cs) O v d:=r.mono (λ_ _ q=>GB a q) (λ_ _ n q=>⟨n,HS a q⟩) λb φ n q=>⟨n,HX a q⟩
end
variable [Tabs]
section
variable(P:bM) (w:cp) (K:ix) (mg:cM) (base:cq) (k:Nat)
def MG(n:Nat)(m:List D->R D)(H:Hp)(O:bc->Prop)(a:bc):Prop:=
 (∃h i j l,H a=some (.frz ⟨h,i,.func j,l⟩ (.own a)))/\
 ∀(A:cf) (b:List Env) (s:ba) (g:List au) (L:List V) (e:List D) (d:D) (Q:VK) (E:XK),Room k A->Env0 P w K mg base A b s H->l7 L g->Reps K H O L e->e.length=n->(∀a,O a->∃o,H a=some o/\Mt o)->Tb H->X7 K O->m e=.ok d->
  (∀v f,Same H f->Rep K f O v d->Q v f)->gn (be P w) A (.call (.ref a) ⟨g,[]⟩) (CR uO b P w H s Q E) s
end
open Classical in
def callC(Φ:(List D->R D)->Hp->(bc->Prop)->bc->Prop) (i:Nat) (f:Ev->R (List D)):Ev->R D:=λρ=>match ρ[i]? with
 |some (.c m φ)=>if φ=Φ m then(f ρ).bind m else .bad
 |_=>.bad
section
def QH(i:Nat)(ha:MF X (e::es) f)(hl:EZ f n)(hr:Room k X.A)(hN:X.N[i]?=some x:=by rfl)(hv:AH X.env.scope x:=by first|exact aCB rfl|exact aBM (aCB rfl)|exact aBM (aBM rfl))(hd:(x==ja)=false:=by decide)(dc:(x==ka)=false:=by decide)(he:bb (e::es) X.env=(false,dm e X.env)::bb es X.env:=by rfl)(bf:(cy h (bb es X.env)).any (·.1)=false:=by rfl):
  PD X (.Call (.Name x p) (e::es) [] h) (callC (MG X.prog X.w X.K X.mg X.base k n) i f):=by
 refine uR λb s σ H Q I H9 O0 O ρ E q=>?_;unfold callC at q;cases y:ρ[i]? with
 |none=>rw[y]at q;exact q.elim
 |some l=>
  rw[y]at q;cases l with
  |c m φ=>
   dsimp only at q;split at q
   .rename_i B;subst B;obtain⟨a,h1,U⟩:=E.slot i _ y;obtain⟨⟨Y,od,fd,l,hf⟩,_⟩:=U H O (Kp.refl _ _);refine aBf (F5 (O8 hN hv hd dc b s σ H (λv H'=>v=.ref a/\H'=H) I ⟨_,h1,rfl,rfl⟩) λu s1 z9=>?_);obtain⟨v,H1,I1,r1,ev,eH⟩:=z9;subst ev eH;obtain rfl:u=aDH a:=r1;refine PySem.W.callWith_F ⟨Y,od,fd,l,(I1.hok a _ hf).1⟩ (F5 (ha h b s1 σ H1 _ I1 ⟨H9,O0,O,ρ,E,LV.seq q⟩) λus s2 ⟨L,H2,o,rv,C,e2,J,rr,g⟩=>⟨⟨Y,od,fd,l,(o.hok a _<|J _ _ hf).1⟩,?_⟩) he bf;cases t:m C with
    |ex z=>rw[t]at g;exact(g H2<|Same.refl _).elim
    |bad=>rw[t]at g;exact g.elim
    |ok d=>
     rw[t]at g;have T:=E.grow J;refine wpAny_call (aDR ((U H2 O<|Kp.of J).2 X.A X.stack s2 us L C d Q (λ_ _ _=>False) hr o.af2 rv rr (hl ρ C e2) T.trk T.tab (nE o O T.trk) t g) λr s' j=>?_);cases r with
     |error e=>exact j.elim
     |ok fl=>
      cases fl with
      |ret u=>exact o.after j
      |next=>exact aAf j
      |brk=>exact aAf j
      |cont=>exact aAf j
   exact q.elim
  |_=>exact q.elim
end
def spF(K:ix)(Φ:(List D->R D)->Hp->(bc->Prop)->bc->Prop)(M:D->(List D->R D)->(List D->R D)->R D):Sp:=λL H Q _=>∃O v1 g h i j k d,L=[v1,.ref h,.ref j]/\Rep K H O v1 g/\(∀b e,Kp H O b e->Φ i b e h)/\(∀b e,Kp H O b e->Φ k b e j)/\
 (∀a,O a->∃o,H a=some o/\Mt o)/\Tb H/\X7 K O/\M g i k=.ok d/\∀v f,Same H f->Rep K f O v d->Q v f
def lO(N:List Str)(Φ:(List D->R D)->Hp->(bc->Prop)->bc->Prop)(d:D)(a b:List D->R D):Ev:=.v d::.c a (Φ a)::.c b (Φ b)::aCW (N.length-3) Sl.no
def EL{K:ix}{H:Hp}{O:bc->Prop}{N:List Str}{v1:V}{f:D}{a1 a2:bc}{g k:List D->R D}{Φ:(List D->R D)->Hp->(bc->Prop)->bc->Prop}(r:Rep K H O v1 f)(l:∀d e,Kp H O d e->Φ g d e a1)(m:∀d e,Kp H O d e->Φ k d e a2)
  (t:∀a,O a->∃o,H a=some o/\Mt o) (tb:Tb H):EnvOk K H O H O (start N [v1,.ref a1,.ref a2]) (lO N Φ f g k)where
 len:=by simp[L2.start,lO]
 same:=Same.refl H
 sub:=λ_ h=>h
 trk:=t
 trk0:=λa h=>let⟨o,q,_⟩:=t a h;⟨o,q⟩
 tab:=tb
 slot:=λi n h=>by
  match i with
  |0=>cases h;exact⟨v1,rfl,r⟩
  |1=>cases h;exact⟨a1,rfl,l⟩
  |2=>cases h;exact⟨a2,rfl,m⟩
  |i+3=>
   have b:(aCW (N.length-3) Sl.no)[i]?=some n:=h;rw[aBA]at b;split at b
   .cases b;trivial
   cases b
 inj:=λi j x y a h _ o=>by
  match i with
  |0=>cases h;exact o.elim
  |1=>cases h;exact o.elim
  |2=>cases h;exact o.elim
  |i+3=>
   have b:(aCW (N.length-3) Sl.no)[i]?=some x:=h;rw[aBA]at b;split at b
   .cases b;exact o.elim
   cases b
section
variable{K:ix}
def fnF{x qual:Str}{st:cv}{f:bc}{fd:dA}{N ps:List Str}{k:Nat}{M:D->(List D->R D)->(List D->R D)->R D}{Φ:(List D->R D)->Hp->(bc->Prop)->bc->Prop}{F:Ev->R Out}(m:Fun K x qual st f fd)(S:FnScope N ps (c6 st))(n:ps.length=3)
  (p:∀(C:au) (A:cf) (a:List Env) (s:ba) (H:Hp) (E:XK),Room k (A.deeper (envOfC qual (c6 st) s.heap.objs.size f C))->bN (UH P w K mg base N qual (c6 st) f C A a s H E) (q8 st) F)
  (t:∀g i j d,M g i j=.ok d->P3 (F (lO N Φ g i j))=.ok d):FnOk P w K mg base uO (k+1) f fd ps (spF K Φ M):=by
 refine m.ok S (λL H Q E z=>by obtain⟨O,v1,g,u,i,v,j,d,e,_⟩:=z;rw[e,n];rfl) (λC A a s H L Q E y z=>?_);obtain⟨O,v1,g,u,i,v,j,d,B,r,I,J,T,U,Y,e,q⟩:=z;subst B;refine⟨_,p C A a s H E y H O,O,_,EL r I J T U,Y,?_⟩;have h:=t g i j d e;cases l:F (lO N Φ g i j)with
 |ok o=>
  rw[l]at h;cases o with
  |rt d'=>have b:R.ok d'=R.ok d:=h;injection b with b;subst b;exact q
  |nx ρ=>have b:R.ok D.non=R.ok d:=h;injection b with b;subst b;exactλaf H' O' E' _ _=>q .non H' E'.same .non
  |bk ρ=>cases h
  |ct ρ=>cases h
 |ex x=>rw[l]at h;cases h
 |bad=>rw[l]at h;cases h
end
structure NScope(ps ls fn:List Str)(sc:Scope):Prop where
 kind:sc.kind=.function
 co:sc.isCoroutine=false
 gen:sc.isGenerator=false
 nd:(ps++(ls++fn)).Nodup
 par:∀x∈ps,sc.names.lookup x=some .local
 fre:∀x∈fn,sc.names.lookup x=some .free
 all:∀x,sc.names.lookup x=some .free->x∈fn
 nocell:∀y∈sc.names,y.2≠.cell
abbrev cxM(P:bM)(w:cp)(K:ix)(mg:cM)(base:cq)(N:List Str)(env:Env)(A:cf)(outer:List Env)(s:ba)(H:Hp):Cx where
 prog:=P
 w:=w
 K:=K
 mg:=mg
 base:=base
 A:=A.deeper env
 N:=N
 s9:=s
 H9:=H
 env:=env
 outer:=outer
 stack:=env::outer
 ex:=[]
 calm:=true
 fn:=λ_=>false
 pn:=[]
 xe:=λ_ _=>False
def M9{α:Type}(L:List α)(n:Nat)(no:α)(ws:List α):List α:=L++(aCW n no++ws)
def gO{α:Type}{L ws:List α}{n i:Nat}{no a:α}(h:(M9 L n no ws)[i]?=some a):L[i]?=some a\/a=no\/(L.length+n<=i/\ws[i-(L.length+n)]?=some a):=by
 unfold M9 at h;by_cases d:i<L.length
 .rw[aBb d]at h;exact .inl h
 rw[aAA (by lia)]at h;by_cases b:i-L.length<n
 .rw[aBb (by simpa using b),aBA,h9 b]at h;exact .inr (.inl (Option.some.inj h).symm)
 rw[aAA (by simpa using b),aCq]at h;exact .inr (.inr ⟨by lia,by rw[show i-(L.length+n)=i-L.length-n by lia];exact h⟩)
def QD{α:Type}{L ws:List α}{n i:Nat}{no a:α}(h:L[i]?=some a):(M9 L n no ws)[i]?=some a:=by unfold M9;rw[aBb (aAC.mp h).1];exact h
def PR{α:Type}{L ws:List α}{n i:Nat}{no a:α}(h:ws[i]?=some a):(M9 L n no ws)[L.length+n+i]?=some a:=by unfold M9;rw[aAA (by lia),aAA (by simp;lia),aCq,show L.length+n+i-L.length-n=i by lia];exact h
section
variable{K:ix}
def CY{A:cf}{g:List Env}{s:ba}{H:Hp}{N:List au}{L wv:List V}{h₁:cq}{tk:Nat}(S:NScope ps k fn d)(T:A.handled=none)(j:Env0 P w K mg base A g s H)(B:L.length=ps.length)(r:l7 L N)(O:wv.length=fn.length)
  (Q:∀(i:Nat) (x:Str) (v:V),fn[i]?=some x->wv[i]?=some v->∃c u,clos.lookup x=some c/\RelV v u/\s.heap.IsCell c (some u)) (t:∀x c,clos.lookup x=some c->(∃v,s.heap.IsCell c v)/\H c=none)
  (U:∀x y c,clos.lookup x=some c->clos.lookup y=some c->x=y) (Y:h₁.Ns s.heap.objs.size (λx=>(ps.zip N).reverse.lookup x)) (C:∀b o,s.heap.get? b=some o->h₁.get? b=some o):
  Inv (cxM P w K mg base (ps++(k++fn)) (PySem.W.envX qual d s.heap.objs.size fa cd clos) A g s H) [] (M9 (L.map some) k.length none (wv.map some)) H {s with heap:=h₁,toks:=tk}:=by
 have l:∀b:bc,b∉(cxM P w K mg base (ps++(k++fn)) (PySem.W.envX qual d s.heap.objs.size fa cd clos) A g s H).ex:=λb z=>absurd (show b∈([]:List bc)from z) (by simp);have I:ps.Nodup:=(aCH.mp S.nd).1;refine⟨⟨j.mod,S.kind,rfl,rfl,aAl _,U,λy m=>?_,λy c hf _=>(by cases hf),λ_=>T,aGa j.frames,.inr ⟨rfl,rfl⟩,λb z=>absurd z (l b),j.bs,j.bsz,λb _ _=>l b,λb z=>absurd z (l b),j.funs,j.frf⟩,
  rfl,j.bare,Un.kept C,⟨_,Y,λi y v h1 f h3=>?_⟩,λy c h=>?_,j.hok.fresh (aAl _),λy c h=>(t y c h).2,λp hp=>absurd (show p∈([]:O9)from hp) (by simp),j.hok.kept C,?_⟩
 .have m:d.names.lookup y=some .cell\/d.names.lookup y=some .free:=m;rcases m with m|m
  .exact absurd rfl (S.nocell _<|PySem.mem_of_lookup m)
  have hm:=S.all y m;obtain⟨i,E,e⟩:=aBp hm;have hw:i<wv.length:=by rw[O];exact E
  obtain⟨c,u,q,_⟩:=Q i y wv[i] (by rw[aAi E,e]) (aAi hw);exact⟨c,q⟩
 .have n:(ps++(k++fn))[i]?=some y:=h1;rcases gO f with f|f|⟨h4,f⟩
  .rw[aAG]at f;cases e:L[i]? with
   |none=>rw[e]at f;cases f
   |some a=>
    rw[e]at f;have J:a=v:=Option.some.inj (Option.some.inj f);subst J;obtain⟨u,hu,rv⟩:=r.get e;have E:i<ps.length:=by rw[<-B];exact(aAC.mp e).1
    rw[aBb E]at n;refine⟨u,rv,.inl ⟨S.par y (aAx n),?_⟩⟩;refine aW ?_ ?_
    .rw[aFA];refine(List.reverse_perm _).nodup_iff.mpr ?_;rw[aFy (by rw[<-B,r.length];exact aAl _)];exact I
    rw[aBL];exact aAx (i:=i) (by rw[aBE];exact⟨n,hu⟩)
  .cases f
  rw[aAh]at h4 f;rw[aAG]at f;cases e:wv[i-(L.length+k.length)]? with
  |none=>rw[e]at f;cases f
  |some a=>rw[e]at f;have J:a=v:=Option.some.inj (Option.some.inj f);subst J;rw[aAA (by lia),aAA (by lia),<-B,show i-L.length-k.length=i-(L.length+k.length)by lia]at n;obtain⟨c,u,q1,q2,q3⟩:=Q _ y a n e;exact⟨u,q2,.inr ⟨.inr (S.fre y<|aAx n),c,q1,q3.keeps C⟩⟩
 .obtain⟨⟨v,z⟩,_⟩:=t y c h;exact⟨v,z.keeps C⟩
 unfold M9;simp[B,O]
def DZ{H:Hp}{O:bc->Prop}{L wv:List V}{ds wd:List D}{n:Nat}(r:Reps K H O L ds)(k:Reps K H O wv wd)(t:∀a,O a->∃o,H a=some o/\Mt o)(tb:Tb H):
  EnvOk K H O H O (M9 (L.map some) n none (wv.map some)) (M9 (ds.map Sl.v) n .no (wd.map Sl.v))where
 len:=by unfold M9;simp[r.length,k.length]
 same:=Same.refl H
 sub:=λ_ h=>h
 trk:=t
 trk0:=λa h=>let⟨o,q,_⟩:=t a h;⟨o,q⟩
 tab:=tb
 slot:=λi l h=>by
  rcases gO h with h|h|⟨m,h⟩
  .rw[aAG]at h;cases e:ds[i]? with
   |none=>rw[e]at h;cases h
   |some d=>rw[e]at h;have b:Sl.v d=l:=Option.some.inj h;subst b;obtain⟨v,f,g⟩:=r.get e;exact⟨v,QD (by rw[aAG,f];rfl),g⟩
  .subst h;trivial
  rw[aAG,aAh]at h;rw[aAh]at m;cases e:wd[i-(ds.length+n)]? with
  |none=>rw[e]at h;cases h
  |some d=>rw[e]at h;have b:Sl.v d=l:=Option.some.inj h;subst b;obtain⟨v,f,g⟩:=k.get e;refine⟨v,?_,g⟩;have:=PR (L:=L.map some) (n:=n) (no:=(none:Option V)) (ws:=wv.map some) (i:=i-(ds.length+n)) (a:=some v) (by rw[aAG,f];rfl);rw[aAh,r.length,show ds.length+n+(i-(ds.length+n))=i by lia]at this;exact this
 inj:=λi j x y a h _ o=>by
  rcases gO h with h|h|⟨_,h⟩
  .obtain⟨d,_,rfl⟩:=aAj.mp (aAx h);exact o.elim
  .subst h;exact o.elim
  obtain⟨d,_,rfl⟩:=aAj.mp (aAx h);exact o.elim
def fj{name:Str}{j:Arguments}{body:List cv}{doc pm ctv:au}{N:bc}{oc:Obj}{k:Nat}{m:List D->R D}{F:Ev->R Out}{H:Hp}{O:bc->Prop}{cs:O9}{wv:List V}{wd:List D}(S:NScope ps ls fn g)
  (hb:∀(A:cf) (f:List Env) (s:ba) (H:Hp),Room k (A.deeper (PySem.W.envX qual g s.heap.objs.size fa (.ref N) clos))->bN (cxM P w K mg base (ps++(ls++fn)) (PySem.W.envX qual g s.heap.objs.size fa (.ref N) clos) A f s H) body F)
  (hm:∀ds d,ds.length=ps.length->m ds=.ok d->P3 (F (M9 (ds.map Sl.v) ls.length .no (wd.map Sl.v)))=.ok d)
  (xh:∀(s:ba) (U:List au),U.length=ps.length->BindsTo s (PySem.W.fnX name qual j body g clos .none .none doc pm none (.ref N) ctv) ⟨U,[]⟩ (ps.zip U))
  (hfa:H fa=some (.frz (PySem.W.fnMade name qual j body g clos doc pm N ctv) (.own fa))) (hc:H N=some (.frz oc (.own N))) (bp:∃L t,oc.data=.fields L/\L[1]?=some (.str qual t))
  (wu:∀b o,cs.lookup b=some o->H b=some (.frz o (.own b))/\xA o) (yi:∀(i:Nat) (x:Str) (v:V),fn[i]?=some x->wv[i]?=some v->∃c u o,clos.lookup x=some c/\cs.lookup c=some o/\o.data=.cell (some u)/\RelV v u)
  (hcc:∀x c,clos.lookup x=some c->∃o,cs.lookup c=some o) (oo:∀x y c,clos.lookup x=some c->clos.lookup y=some c->x=y) (uh:wv.length=fn.length) (hr:Reps K H O wv wd) (hO:∀a,O a->∃o,H a=some o/\Mt o):
  ∀l Y,Kp H O l Y->MG P w K mg base (k+1) ps.length m l Y fa:=by
 intro l Y kp;have fz:∀b o u,H b=some (.frz o u)->l b=some (.frz o u):=λb o u e=>(kp b _ e λz=>by obtain⟨o',q,mt⟩:=hO b z;rw[e]at q;cases q;exact mt).1;have T:∀b o,cs.lookup b=some o->l b=some (.frz o (.own b)):=λb o q=>fz _ _ _ (wu b o q).1;refine⟨⟨_,_,_,_,fz _ _ _ hfa⟩,λA f s U L ds d Q E ph B rv rr hl ht tb fk em q=>?_⟩;have KX:K.In s.heap:=B.mod.kin.keeps λb o e=>(B.bs b o e).1;have lim:s.heap.NoLimit:=B.mod.nolimit.keeps λb o e=>(B.bs b o e).1;have gfa:=(B.hok fa _<|fz _ _ _ hfa).1;have goc:=(B.hok N _<|fz _ _ _ hc).1;obtain⟨ovs,ot,od1,od2⟩:=bp;have hidn:∀b,l b=none->T0 l cs b=none:=λb n=>by
  cases z:cs.lookup b with
  |none=>rw[N3 z];exact n
  |some o=>exact cB z
 have e1:Env0 P w K mg base A f s (T0 l cs):=⟨B.frames,B.mod,λb o e=>⟨(B.bs b o e).1,hidn b (B.bs b o e).2⟩,B.bsz,B.funs,λb hb=>hidn b (B.frf b hb),OZ B.hok λb o z=>⟨T b o z,(wu b o z).2⟩,B.bare⟩;have zh:∀b o,cs.lookup b=some o->s.heap.get? b=some o:=λb o z=>(B.hok b _<|T b o z).1;have cfs:∀b o,cs.lookup b=some o->b∉yE f:=λb o z hb=>by have:=B.frf b hb;rw[T b o z]at this;cases this
 have hul:U.length=ps.length:=by rw[<-rv.length,rr.length];exact hl
 have hvl:L.length=ps.length:=by rw[rr.length];exact hl
 have rwv:Reps K (T0 l cs) Y wv wd:=(kp.ad2 hO fk hr).hid T;have tb1:Tb (T0 l cs):=λp hp=>w9 T (tb p hp) λo _ z=>by cases z
 have ht1:∀a,Y a->∃o,T0 l cs a=some o/\Mt o:=λa z=>by obtain⟨o,q1,q2⟩:=ht a z;exact⟨o,w9 T q1 λo' _ z'=>by subst z';exact q2,q2⟩
 let Q':VK:=λv H3=>(∀b o,cs.lookup b=some o->H3 b=none)->Q v (cS H3 cs)
 have qq:∀v C,Same (T0 l cs) C->Rep K C Y v d->Q' v C:=λv C sm r hn=>by
  refine q v _ (λb u e=>?_) (r.same<|fF hn);cases z:cs.lookup b with
  |none=>exact G0 hn (sm b u (by rw[N3 z];exact e))
  |some o=>rw[T b o z]at e;cases e;exact fN z
 have fin:∀{u:au}{s':ba},CE f P w (T0 l cs) s Q' u s'->CE f P w l s Q u s':=λ{u s'} ⟨v,H3,os,bare,un,hok,r,qv⟩=>by obtain⟨U2,k2,yh⟩:=xz un hok λb o z=>⟨zh b o z,T b o z,cfs b o z⟩;exact⟨v,_,os,bare,U2,k2,r,qv λb o z=>un.free b o (zh b o z) (cB z) (by simp)⟩
 refine codeAny_call_def (fd:=PySem.W.fnX name qual j body g clos .none .none doc pm none (.ref N) ctv) (body:=body) (binds:=ps.zip U) ph.depth gfa rfl lim ⟨N,oc,ovs,ot,rfl,goc,od1,od2⟩ rfl (xh s U hul) S.nocell (λy hy=>S.par y.1 (aDW hy).1) (λh₁ zc hk=>?_) S.co S.gen S.kind;show a9 (be P w) (A.deeper<|PySem.W.envX qual g s.heap.objs.size fa (.ref N) clos) (execs body<|PySem.W.envX qual g s.heap.objs.size fa (.ref N) clos) _ _ _;have I:=CY (qual:=qual) (fa:=fa) (cd:=.ref N) (clos:=clos) (tk:=s.toks+(ps.zip U).length) S ph.hd e1 hvl rv uh (λi x v h1 h2=>by
   obtain⟨c,u,o,q1,q2,q3,q4⟩:=yi i x v h1 h2;exact⟨c,u,q1,q4,o,zh c o q2,q3⟩) (λx c h=>by
   obtain⟨o,z⟩:=hcc x c h;obtain⟨v,z2⟩:=(wu c o z).2;exact⟨⟨v,o,zh c o z,z2⟩,cB z⟩) oo zc hk
 have hx:=hb A f s (T0 l cs) (ph.deeper _) (T0 l cs) Y [] _ _ _ {nx:=λ_ C=>Q' .non C,rt:=Q'} I ⟨Y,_,DZ (rr.hid T) rwv ht1 tb1,fk,?_⟩
 .refine aCI hx (λfl s' hs=>?_) λe s' hs=>hs.elim;have fin2:∀{af:St}{C:Hp}{v:V}{u:au},Inv (cxM P w K mg base (ps++(ls++fn)) (PySem.W.envX qual g s.heap.objs.size fa (.ref N) clos) A f s<|T0 l cs) [] af C s'->RelV v u->Q' v C->CE f P w l s Q u s':=
   λ{af C v u} J rv q=>fin ⟨v,C,J.os,J.bare,J.base,J.hok,rv,q⟩
  cases fl with
  |ret u=>obtain⟨v,af,C,J,rv,q⟩:=hs;exact fin2 J rv q
  |next=>obtain⟨af,C,J,q⟩:=hs;exact fin2 (v:=V.non) (u:=Value.none) J rfl q
  |brk=>obtain⟨_,_,_,q⟩:=hs;exact aAf q
  |cont=>obtain⟨_,_,_,q⟩:=hs;exact aAf q
 have h:=hm ds d hl em;cases e1:F (M9 (ds.map Sl.v) ls.length .no (wd.map Sl.v))with
 |ok o=>
  rw[e1]at h;cases o with
  |rt d'=>have h':R.ok d'=R.ok d:=h;injection h' with h';subst h';exact qq
  |nx ρ=>have h':R.ok D.non=R.ok d:=h;injection h' with h';subst h';exactλaf C O' E' _ _=>qq .non C E'.same .non
  |bk ρ=>cases h
  |ct ρ=>cases h
 |ex x=>rw[e1]at h;cases h
 |bad=>rw[e1]at h;cases h
end
end
section
variable [Tabs]
def iS(mg:cM)(base:cq):Prop:=∃b a,mg "__builtins__"=some (.ref b)/\b≠builtinsNs/\base.get? b=some a/\a.cls=.type "module"/\a.dict=some builtinsNs/\a.data=.plain
def uL:∀(l:List au),TriplesOk l->eY d l=some x->eY d (l++[ez a,ez b,c])=some x:=λl h e=>by
 fun_induction TriplesOk l with
 |case1=>simp[eY]at e
 |case2 i t j u y rest g=>
  simp only[aAO,eY]at e⊢;split at e
  .rename_i f;rw[h9 f];exact e
  rename_i f;rw[ia f];exact g h e
 |case3 l k m=>exact h.elim
def UC(ne:¬(a=d.line/\b=d.col)):∀(l:List au),TriplesOk l->eY d l=none->eY d (l++[ez a,ez b,c])=none:=λl h e=>by
 fun_induction TriplesOk l with
 |case1=>simp only[aBO,ez,eY];rw[ia];simp only[aAQ,beq_iff_eq];exact ne
 |case2 i t j u y rest f=>
  simp only[aAO,eY]at e⊢;split at e
  .cases e
  rename_i g;rw[ia g];exact f h e
 |case3 l k m=>exact h.elim
def iB(H:Hp)(fa:bc)(name qual:Str)(a:Arguments)(body:List cv)(b:hE)(clos:List (Str×bc)):Prop:=
 ∃d g e h f,H fa=some (.frz (PySem.W.fnMade name qual a body b clos e h d f) (.own fa))/\H d=some (.frz g (.own d))/\∃L t,g.data=.fields L/\L[1]?=some (.str qual t)
def iB.same(h:iB H fa name qual a body b clos)(s:Same H H'):iB H' fa name qual a body b clos:=
 let⟨f,g,d,i,e,j,k,l⟩:=h;⟨f,g,d,i,e,s _ _ j,s _ _ k,l⟩
section
def zC{Q:Flow->ba->Prop}(I:Inv X pins σ H s)(hB:iS X.mg X.base)(kh:X.env.code=.ref c)(hK:PySem.W.codeHdIn X.K c x=true)(hT:H x=some (.tbl tb))(hq:qualnameIn X.env name name=qual)(hm:(g,qual)∈tb)(hu:∀p∈tb,p.1.line=g.line->p.1.col=g.col->p.2=qual)(yi:closureFor f X.env=pure clos)(hd0:d.defaults=[])(hk0:d.kw_defaults=[])(ha:annTrees d none X.env=[])(hN:X.N.Nodup)(hi:X.N[i]?=some name)(hx:Loc X.env.scope name)(hf:X.fn name=true\/X.env.scope.names.lookup name=some .local)(h:∀fa H' s',Inv X pins (σ.set i (some (.ref fa))) H' s'->Same H H'->iB H' fa name qual d body f clos->Q .next s'):a9 (be X.prog X.w) X.A (exec (.FunctionDef name d body [] none [] f none name g) X.env) Q X.xe s:=by
 refine PySem.W.nestDef_K hd0 hk0 ha ?_;rw[hq];have hg:s.heap.Ns bt X.mg:=I.mod.glob.keeps I.bk;have C:PySem.W.CodeHd s.heap c x:=PySem.W.codeHd_of_K I.kIn hK;obtain⟨ps,hP,m,O⟩:=I.hok x _ hT;have hgP:bt≠x:=λq=>by obtain⟨o,es,ep,e,hd,_⟩:=hg;rw[q,hP]at e;cases e;cases hd
 have T:s.heap.BuiltinsAt X.mg x:=by
  obtain⟨bm,ob,b1,b2,b3,b4,b5,b6⟩:=hB;have y:=I.bk _ _ b3;refine⟨bm,ob,b1,b2,λq=>?_,λq=>?_,y,b4,b5,b6⟩
  .obtain⟨o,es,ep,e,hd,_⟩:=hg;rw[<-q,y]at e;cases e;rw[hd]at b6;cases b6
  rw[q,hP]at y;cases y;cases b4
 have U:∀b,H b=none->b≠x:=λb n z=>by rw[z,hT]at n;cases n
 have neL:X.env.locals≠x:=U _ I.free;rcases O _ hm with hnf|⟨j,oc,L,t,hf',hc',dc⟩
 .refine PySem.W.makeFunction_K (mg:=X.mg) yi I.ok.glob hg kh C hP m hnf hgP T λj k l h' tk hx' B ah hrec htb=>?_;obtain⟨c2,oc,L,t,e2,bp,hd,hv⟩:=hrec;cases e2;have old:∀b u,H b=some u->b<s.heap.objs.size:=λb u e=>I.hok.lt e;have hcN:H j=none:=I.hok.fresh B;have E:H h'.objs.size=none:=I.hok.fresh (aAr B<|aDu ah);have ncf:j≠h'.objs.size:=aAm ah;have J:Same H (upd (upd H j<|.frz oc (.own j)) h'.objs.size<|.frz (PySem.W.fnMade name qual d body f clos l ((X.mg "__name__").getD .none) j k) (.own h'.objs.size)):=λb u e=>by rw[l5 (n8 e E),l5 (n8 e hcN)];exact e
  have qa:∀b o,b≠x->s.heap.get? b=some o->(h'.push<|PySem.W.fnMade name qual d body f clos l ((X.mg "__name__").getD .none) j k).get? b=some o:=λb o T e=>aAd _ (hx' b o T e);have lts:∀b o,s.heap.get? b=some o->b≠j/\b≠h'.objs.size:=λb o e=>⟨aAm (aAw (aAg e) B),aAm (aAw (aAg e)<|aAr B<|aDu ah)⟩;have I1:=I.step (H':=upd (upd H j<|.frz oc (.own j)) h'.objs.size (.frz (PySem.W.fnMade name qual d body f clos l ((X.mg "__name__").getD .none) j k) (.own h'.objs.size)))
   (h':=h'.push (PySem.W.fnMade name qual d body f clos l ((X.mg "__name__").getD .none) j k)) (g':=s.gens) (t':=tk) (d':=s.drawn) (ch:=[]) (λ_ z=>nomatch z) (λb o _ _ _ e n=>qa b o (U b n) e) (λb o _ _ _ e n=>⟨o.slots,qa b o (U b n) e⟩)
   (λb o _ e n=>by rw[l5 (lts b o e).2,l5 (lts b o e).1];exact n) (λb o _ e=>by
    by_cases T:b=x
    .subst T;exact⟨_,aAd _ htb⟩
    .exact⟨o,qa b o T e⟩) (λb Y e=>J _ _ e) (λb o u e=>J _ _ e) (λb tb e=>J _ _ e) (λm' hm'=>by
    obtain⟨o,es,ep,e,r⟩:=hm';exact⟨o,es,ep,qa _ o neL e,r⟩) (λb u e=>by
    by_cases hbf:b=h'.objs.size
    .subst hbf;rw[j2]at e;cases e;exact⟨aAq _ rfl,_,aAq _ rfl⟩
    rw[l5 hbf]at e;by_cases hbc:b=j
    .subst hbc;rw[j2]at e;cases e;exact⟨aAd _ bp,_,aAd _ bp⟩
    rw[l5 hbc]at e;by_cases hbP:b=x
    .subst hbP;rw[hT]at e;cases e;refine⟨_,aAd _ htb,?_,λp hp=>?_⟩
     .rw[aGm];exact TriplesOk_snoc _ _ _ _ m
     rw[aGm];show eY p.1 (ps.toList++[ez g.line,ez g.col,.ref j])=none\/_;by_cases hpp:(g.line:Int)=p.1.line/\(g.col:Int)=p.1.col
     .rcases O p hp with h0|⟨c3,oc3,vs3,t3,h0,h1,h2⟩
      .have e1:g.line=p.1.line:=by exact_mod_cast hpp.1
       have e2:g.col=p.1.col:=by exact_mod_cast hpp.2
       refine .inr ⟨j,oc,L,t,?_,by rw[l5 ncf,j2],hd,?_⟩
       .rw[e1,e2];exact codeAmong_snoc _ m h0
       rw[hu p hp e1.symm e2.symm];exact hv
      exact .inr ⟨c3,oc3,vs3,t3,uL _ m h0,J _ _ h1,h2⟩
     rcases O p hp with h0|⟨c3,oc3,vs3,t3,h0,h1,h2⟩
     .exact .inl (UC hpp _ m h0)
     exact .inr ⟨c3,oc3,vs3,t3,uL _ m h0,J _ _ h1,h2⟩
    refine(I.hok b u e).ac2 (λb2 v hc q=>qa b2 v (λz=>?_) q) (λb2 z=>J _ _ z) λb2 u _ z=>J _ _ z;rcases hc with hc|hc
    .exact hbP (hc▸z)
    rw[z,hT]at hc;cases hc) I.bare
  refine N6 I1 hN hi hx (show RelV (.ref h'.objs.size) _ from rfl) (λs' I'=>h _ _ s' I' J ⟨j,oc,l,_,k,j2,by rw[l5 ncf,j2],L,t,hd,hv⟩) hf
 refine PySem.W.makeFunction_hit (mg:=X.mg) yi I.ok.glob hg kh C hP m hf' T λk l h' tk hk gu=>?_;have E:H h'.objs.size=none:=I.hok.fresh gu;have I1:=I.laid (a:=h'.objs.size) (o:=.frz (PySem.W.fnMade name qual d body f clos l ((X.mg "__name__").getD .none) j k) (.own h'.objs.size)) (h':=h'.push (PySem.W.fnMade name qual d body f clos l ((X.mg "__name__").getD .none) j k)) (t':=tk)
  (λb u e=>aAd _ (hk b u e)) gu ⟨aAq _ rfl,_,aAq _ rfl⟩
 refine N6 I1 hN hi hx (show RelV (.ref h'.objs.size) _ from rfl) (λs' I'=>h _ _ s' I' (k9 E _) ⟨j,oc,l,_,k,j2,k9 E _ _ _ hc',L,t,dc⟩) hf
end
structure Nst where
 name:Str
 qual:Str
 params:Arguments
 body:List Stmt
 scope:Scope
 pos:Pos
 ps:List Str
 ls:List Str
 fn:List Str
 js:List Nat
 F:Ev->R Out
 mm:List D->List D->R D
 i:Nat
abbrev Nst.stmt(n:Nst):cv:=.FunctionDef n.name n.params n.body [] none [] n.scope none n.name n.pos
structure NstOk(X:Cx)(k:Nat)(n:Nst):Prop where
 sc:NScope n.ps n.ls n.fn n.scope
 one:n.ps.length=1
 body:∀(fa:Addr) (cd:Value) (clos:List (Str×Addr)) (A:Around) (outer:List Env) (s:Shared) (H:Hp),Room k (A.deeper (PySem.W.envX n.qual n.scope s.heap.objs.size fa cd clos))->bN (cxM X.prog X.w X.K X.mg X.base (n.ps++(n.ls++n.fn)) (PySem.W.envX n.qual n.scope s.heap.objs.size fa cd clos) A outer s H) n.body n.F
 mm:∀wd ds d,wd.length=n.fn.length->ds.length=n.ps.length->n.mm wd ds=.ok d->P3 (n.F (M9 (ds.map Sl.v) n.ls.length .no (wd.map Sl.v)))=.ok d
 bind:∀(clos:List (Str×Addr)) (doc pm cd ctv:Value) (us:List Value),us.length=n.ps.length->bindArgs (PySem.W.fnX n.name n.qual n.params n.body n.scope clos .none .none doc pm none cd ctv) ⟨us,[]⟩=pure (n.ps.zip us)
 len:n.js.length=n.fn.length
 at_:∀(i j:Nat) (x:Str),n.js[i]?=some j->n.fn[i]?=some x->X.N[j]?=some x/\X.env.scope.names.lookup x=some .cell
 d0:n.params.defaults=[]
 k0:n.params.kw_defaults=[]
 nm:X.N[n.i]?=some n.name
 lc:Loc X.env.scope n.name
 st:X.fn n.name=true\/X.env.scope.names.lookup n.name=some .local
 dbg:(n.name==ja)=false
 cdt:(n.name==ka)=false
structure ClosOk(X:Cx)(n:Nst)(clos:List (Str×Addr)):Prop where
 eq:closureFor n.scope X.env=pure clos
 ann:annTrees n.params none X.env=[]
 qn:qualnameIn X.env n.name n.name=n.qual
 sub:∀x c,clos.lookup x=some c->X.env.cells.lookup x=some c
 has:∀x∈n.fn,∃c,clos.lookup x=some c
def dG:List Nat->Ev->R (List D)
 |[],_=>.ok []
 |j::a,ρ=>(eN j ρ).bind λd=>(dG a ρ).bind λb=>.ok (d::b)
theorem NP{K:ix}{l H:Hp}{m O:bc->Prop}{σ:St}{ρ:Ev}(E:EnvOk K l m H O σ ρ):∀{b:List Nat}{wd:List D},dG b ρ=.ok wd->∃wv,Reps K H O wv wd/\wv.length=b.length/\∀(i j:Nat) (v:V),b[i]?=some j->wv[i]?=some v->σ[j]?=some (some v)
 |[],wd,h=>by cases h;exact⟨[],.nil,rfl,λi j v e=>by simp at e⟩
 |j::b,wd,h=>by
  unfold dG at h;cases a:eN j ρ with
  |ok d=>
   rw[a,R.aa0]at h;cases f:dG b ρ with
   |ok u=>
    rw[f,R.aa0]at h;cases h;obtain⟨wv,r,n,at_⟩:=NP E f;have:ρ[j]?=some (.v d):=by
     unfold eN at a;split at a
     .rename_i q;cases a;exact q
     cases a
    obtain⟨v,o,p⟩:=E.val j d this;refine⟨v::wv,.cons p r,by simp[n],λi s t g k=>?_⟩;cases i with
    |zero=>simp at g k;subst g k;exact o
    |succ i=>exact at_ i s t (by simpa using g) (by simpa using k)
   |ex z=>rw[f]at h;cases h
   |bad=>rw[f]at h;cases h
  |ex z=>rw[a]at h;cases h
  |bad=>rw[a]at h;cases h
section
def U5(h:cq)(a:List (Str×bc)):List (bc×Obj):=a.filterMap λp=>(h.get? p.2).map λo=>(p.2,o)
def L9(e:(U5 h a).lookup b=some o):h.get? b=some o/\∃x,(x,b)∈a:=by
 obtain⟨p,d,q⟩:=aCa.mp (mem_lookup e);cases z:h.get? p.2 with
 |none=>rw[z]at q;cases q
 |some f=>rw[z]at q;have g:(p.2,f)=(b,o):=Option.some.inj q;injection g with i j;subst i j;exact⟨z,p.1,d⟩
def mU(f:(x,b)∈a)(e:h.get? b=some o):∃d,(U5 h a).lookup b=some d:=by
 have:(b,o)∈U5 h a:=aCa.mpr ⟨(x,b),f,by show(h.get? b).map _=_;rw[e];rfl⟩;cases q:(U5 h a).lookup b with
 |some d=>exact⟨d,rfl⟩
 |none=>have:=List.lookup_eq_none_iff.mp q (b,o) this;simp at this
def a1b(X:Cx)(n1 n2:Nst)(clos1 clos2:List (Str×bc))(f:Ev->R D)(M:D->(List D->R D)->(List D->R D)->R D):TE:=λσ H Q=>∃d e O ρ b a,EnvOk X.K d e H O σ ρ/\σ[n1.i]?=some (some<|V.ref b)/\σ[n2.i]?=some (some<|V.ref a)/\
 iB H b n1.name n1.qual n1.params n1.body n1.scope clos1/\iB H a n2.name n2.qual n2.params n2.body n2.scope clos2/\RC X H O ((f ρ).bind λg=>(dG n1.js ρ).bind λh=>(dG n2.js ρ).bind λj=>M g (n1.mm h) (n2.mm j)) Q
def AN{n:Nst}{clos a:List (Str×bc)}{k:Nat}{h:O9}{σ:St}{H:Hp}{s:ba}{H9:Hp}{O0 O:bc->Prop}{ρ:Ev}{fa:bc}{wd:List D}(ok:NstOk X k n)(j:ClosOk X n clos)(I:Inv X h σ H s)(E:EnvOk X.K H9 O0 H O σ ρ)
  (hA:∀p∈clos,p∈a) (l:∀x b,(x,b)∈a->X.env.cells.lookup x=some b) (r:iB H fa n.name n.qual n.params n.body n.scope clos) (hw:dG n.js ρ=.ok wd):
  ∀t z,Kp (cS H (U5 s.heap a)) O t z->MG X.prog X.w X.K X.mg X.base (k+1) 1 (n.mm wd) t z fa:=by
 obtain⟨c',oc,T,pm,U,h1,h2,h3⟩:=r;obtain⟨wv,ua,hl,at_⟩:=NP E hw;have hn:∀b o,(U5 s.heap a).lookup b=some o->H b=none:=λb o q=>by obtain⟨_,x,Y⟩:=L9 q;exact I.freeC x b (l x b Y)
 have N:=fF hn
 suffices B:∀t z,Kp (cS H<|U5 s.heap a) O t z->MG X.prog X.w X.K X.mg X.base (k+1) n.ps.length (n.mm wd) t z fa by rw[ok.one]at B;exact B
 refine fj (cs:=U5 s.heap a) (wv:=wv) (wd:=wd) (F:=n.F) ok.sc (λA g s H hr=>ok.body fa (.ref c') clos A g s H hr) (λds d om e=>ok.mm wd ds d (by rw[<-ua.length,hl,ok.len]) om e) (λs us om=>.of_eq (ok.bind clos T pm (.ref c') U us om)) (N _ _ h1) (N _ _ h2) h3
  (λb o q=>⟨fN q,?_⟩) (λi x v C q2=>?_) (λx c q=>?_) (λx y c C q2=>I.ok.inj x y c (j.sub x c C) (j.sub y c q2)) (by rw[hl,ok.len]) (ua.same N) (E.grow N).trk
 .obtain⟨e1,x,Y⟩:=L9 q;obtain⟨v,o',e2,e3⟩:=I.cell x b (l x b Y);rw[e1]at e2;cases e2;exact⟨v,e3⟩
 .have hi:i<n.js.length:=by rw[ok.len];exact(aAC.mp C).1
  have ej:n.js[i]?=some n.js[i]:=aAi hi;obtain⟨hN,hk⟩:=ok.at_ i _ x ej C;have hσ:=at_ i _ v ej q2;obtain⟨m,zc,J⟩:=I.loc;obtain⟨u,ru,L⟩:=J _ x v hN hσ (.inr (.inl hk));rcases L with⟨ju,_⟩|⟨_,c,ip,o,Q,hd⟩
  .have f:X.env.scope.names.lookup x=some .local:=ju;rw[hk]at f;cases f
  obtain⟨c2,q3⟩:=j.has x (aAx C);have q4:=j.sub x c2 q3;rw[ip]at q4;cases q4;obtain⟨o',q5⟩:=mU (hA _<|PySem.mem_of_lookup q3) Q;have:=(L9 q5).1;rw[Q]at this;cases this;exact⟨c,u,o,q3,q5,hd,ru⟩
 obtain⟨v,o,Q,_⟩:=I.cell x c (j.sub x c q);exact mU (hA _<|PySem.mem_of_lookup q) Q
def UT(qp:NstOk X k n1)(qr:NstOk X k n2)(yn:ClosOk X n1 clos1)(ke:ClosOk X n2 clos2)(J:∀x b,(x,b)∈clos1++clos2->X.env.cells.lookup x=some b)(FF:FnOk X.prog X.w X.K X.mg X.base uO kf g gd N (spF X.K (MG X.prog X.w X.K X.mg X.base (k+1) 1) M))(hr:Room kf X.A)(Y:X.mg x=some (.ref g))(hk:PySem.W.keepIn X.K (.ref g)=true)(n:Binds X.K gd N [])(h3:N.length=3)(he:PD X e f)(ye:∀y,X.fn y=true)(hg:Gl X x:=by rfl)(ib:(x==ja)=false:=by decide)(zd:bb [e,.Name n1.name p1,.Name n2.name t] X.env=(false,dm e X.env)::bb [.Name n1.name p1,.Name n2.name t] X.env:=by rfl)(zi:bb [.Name n1.name p1,.Name n2.name t] X.env=(false,dm (.Name n1.name p1) X.env)::bb [.Name n2.name t] X.env:=by rfl)(hs3:bb [.Name n2.name t] X.env=(false,dm (.Name n2.name t) X.env)::bb [] X.env:=by rfl)(bf:(cy pos (bb [.Name n1.name p1,.Name n2.name t] X.env)).any (·.1)=false:=by rfl):
  PE X (.Call (.Name x p) [e,.Name n1.name p1,.Name n2.name t] [] pos) (a1b X n1 n2 clos1 clos2 f M):=by
 rintro pins s σ H Q I ⟨H9,O0,O,ρ,ym,fa2,E,h1,h2,md1,md2,q⟩;have vis:∀{y:Str},Loc X.env.scope y->AH X.env.scope y:=λh=>h.elim .inl λz=>.inr (.inl z);have sr:PA X [e,.Name n1.name p1,.Name n2.name t] _:=M8 he (M8 (O8 qp.nm (vis qp.lc) qp.dbg qp.cdt) (M8 (O8 qr.nm (vis qr.lc) qr.dbg qr.cdt) cR hs3) zi) zd;refine aBf (wD I hg Y ?_ ib);refine PySem.W.callWith_K (h₀:=X.base) I.ok.mod.kin hk (F5 (sr pos pins s σ H (λL i=>∃v1 T w1 w2 d,L=[v1,.ref ym,.ref fa2]/\Same H i/\Rep X.K i O v1 T/\dG n1.js ρ=.ok w1/\dG n2.js ρ=.ok w2/\M T (n1.mm w1) (n2.mm w2)=.ok d/\∀v l,Same i l->Rep X.K l O v d->Q v l) I ⟨H9,O0,O,ρ,E,?_⟩) λus B z9=>?_) zd bf
 .cases e1:f ρ with
  |ex z=>rw[e1]at q;exact q
  |bad=>rw[e1]at q;exact q
  |ok T=>
   rw[e1,R.aa0]at q;cases C:dG n1.js ρ with
   |ex z=>rw[C]at q;exact(q H<|Same.refl _).elim
   |bad=>rw[C]at q;exact q.elim
   |ok w1=>
    rw[C,R.aa0]at q;cases e3:dG n2.js ρ with
    |ex z=>rw[e3]at q;exact(q H<|Same.refl _).elim
    |bad=>rw[e3]at q;exact q.elim
    |ok w2=>
     rw[e3,R.aa0]at q;cases e4:M T (n1.mm w1) (n2.mm w2)with
     |ex z=>rw[e4]at q;exact(q H<|Same.refl _).elim
     |bad=>rw[e4]at q;exact q.elim
     |ok d=>rw[e4]at q;exactλv1 i B r1=>⟨_,h1,_,h2,v1,T,w1,w2,d,rfl,B,r1,rfl,rfl,e4,λv l s2 r2=>q v l (B.trans s2) r2⟩
 obtain⟨L,i,a,r,v1,T,w1,w2,d,ev,sm,r1,c1,c2,em,qq⟩:=z9;refine⟨a.kIn,?_⟩;subst ev;have E1:=E.grow sm;generalize wu:U5 B.heap (clos1++clos2)=j;have hn:∀b o,j.lookup b=some o->B.heap.get? b=some o/\i b=none/\xA o:=λb o z=>by rw[<-wu]at z;obtain⟨e1,y,Y⟩:=L9 z;obtain⟨v,o',C,e3⟩:=a.cell y b (J y b Y);rw[e1]at C;cases C;exact⟨e1,a.freeC y b (J y b Y),v,e3⟩
 have hn0:∀b o,j.lookup b=some o->i b=none:=λb o z=>(hn b o z).2.1;have U:Same i (cS i j):=fF hn0;have E2:=E1.grow U;have m:=a.af2;have nofr:∀b o,j.lookup b=some o->b∉yE X.stack:=λb o z n=>by
  rw[<-wu]at z;obtain⟨_,y,hmy⟩:=L9 z;rcases aAc.mp (a.ab5 b n)with e|n
  .exact a.cne y b (J y b hmy) e
  obtain⟨_,o',ho,_⟩:=a.ok.funs.mem n;exact absurd (aAw (aAg ho)<|a.ok.cab y b (ye y)<|J y b hmy) (aBr _)
 have nob:∀b o,X.base.get? b=some o->j.lookup b=none:=λb o e=>by
  cases z:j.lookup b with
  |none=>rfl
  |some o'=>rw[<-wu]at z;obtain⟨_,y,Y⟩:=L9 z;exact absurd (aAw (aAg e)<|aAr a.ok.bsz<|a.ok.cab y b (ye y)<|J y b Y) (aBr _)
 have C:Env0 X.prog X.w X.K X.mg X.base X.A X.stack B (cS i j):=⟨m.frames,m.mod,λb o e=>⟨(m.bs b o e).1,by rw[S1 (nob b o e)];exact(m.bs b o e).2⟩,m.bsz,m.funs,λb n=>by
  cases z:j.lookup b with
  |none=>rw[S1 z];exact m.frf b n
  |some o=>exact absurd n (nofr b o z),RJ m.hok λb o z=>⟨(hn b o z).1,(hn b o z).2.1⟩,m.bare⟩
 have cl1:=AN qp yn a E1 (λp hp=>aBk _ hp) J (md1.same sm) c1;have cl2:=AN qr ke a E1 (λp hp=>aAM _ hp) J (md2.same sm) c2;rw[wu]at cl1 cl2;have hl:us.length=N.length:=by rw[<-r.length,h3];rfl
 have hbs:=n B us a.kIn (by rw[aCb];exact hl);rw[aCb]at hbs;refine wpAny_call (aDR (FF.run X.A X.stack B (cS i j) ⟨us,[]⟩ us _ (λv l=>Q v (T0 l j)) (λ_ _ _=>False) hr C hbs r ⟨O,v1,T,ym,_,fa2,_,d,rfl,r1.same U,cl1,cl2,E2.trk,E2.tab,nE a O E1.trk,em,λv l s2 r2=>?_⟩) λrr s' hq=>?_)
 .have hz:∀b o,j.lookup b=some o->l b=some (.frz o (.own b)):=λb o z=>s2 _ _ (fN z);refine qq v _ (λb u e=>w9 hz (s2 b u<|U b u e) λo z _=>?_) (r2.hid hz);rw[hn0 b o z]at e;cases e
 cases rr with
 |error e=>exact hq.elim
 |ok fl=>
  cases fl with
  |next=>exact aAf hq
  |brk=>exact aAf hq
  |cont=>exact aAf hq
  |ret u=>obtain⟨v,l,os,bare,un,hok,rv,qv⟩:=hq;obtain⟨U2,k2,_⟩:=nj un hok hn;exact a.after ⟨v,_,os,bare,U2,k2,rv,qv⟩
def KI(a:NstOk X k n1)(h:NstOk X k n2)(u:ClosOk X n1 clos1)(B:ClosOk X n2 clos2)(hA:∀x b,(x,b)∈clos1++clos2->X.env.cells.lookup x=some b)(hB:iS X.mg X.base)(kh:X.env.code=.ref c)(hK:PySem.W.codeHdIn X.K c Pt=true)(l:(Pt,tb)∈Tabs.tbs)(L:(n1.pos,n1.qual)∈tb)(jn:(n2.pos,n2.qual)∈tb)(dh:∀p∈tb,p.1.line=n1.pos.line->p.1.col=n1.pos.col->p.2=n1.qual)(Q:∀p∈tb,p.1.line=n2.pos.line->p.1.col=n2.pos.col->p.2=n2.qual)(ag:n1.i≠n2.i)(hN:X.N.Nodup)(FF:FnOk X.prog X.w X.K X.mg X.base uO kf g gd m (spF X.K (MG X.prog X.w X.K X.mg X.base (k+1) 1) M))(hr:Room kf X.A)(hm:X.mg x=some (.ref g))(hk:PySem.W.keepIn X.K (.ref g)=true)(hb:Binds X.K gd m [])(h3:m.length=3)(he:PD X e f)(ye:∀y,X.fn y=true)(hg:Gl X x:=by rfl)(ib:(x==ja)=false:=by decide)(zd:bb [e,.Name n1.name n,.Name n2.name j] X.env=(false,dm e X.env)::bb [.Name n1.name n,.Name n2.name j] X.env:=by rfl)(zi:bb [.Name n1.name n,.Name n2.name j] X.env=(false,dm (.Name n1.name n) X.env)::bb [.Name n2.name j] X.env:=by rfl)(T:bb [.Name n2.name j] X.env=(false,dm (.Name n2.name j) X.env)::bb [] X.env:=by rfl)(bf:(cy U (bb [.Name n1.name n,.Name n2.name j] X.env)).any (·.1)=false:=by rfl):
  bN X [n1.stmt,n2.stmt,.Return (some (.Call (.Name x p) [e,.Name n1.name n,.Name n2.name j] [] U)) rpos] (λρ=>((f ((ρ.set n1.i .no).set n2.i .no)).bind λY=>(dG n1.js ((ρ.set n1.i .no).set n2.i .no)).bind λw1=>(dG n2.js ((ρ.set n1.i .no).set n2.i .no)).bind λw2=>M Y (n1.mm w1) (n2.mm w2)).bind λd=>.ok (.rt d)):=by
 rintro H9 O0 o s σ H D I ⟨O,ρ,E,fk,q⟩;refine aEn (zC (σ:=σ) I hB kh hK (E.tab _ l) u.qn L dh u.eq a.d0 a.k0 u.ann hN a.nm a.lc a.st λC H1 s1 I1 sm1 md1=>?_);have E1:EnvOk X.K H9 O0 H1 O (σ.set n1.i<|some<|.ref C) (ρ.set n1.i .no):=(E.grow sm1).put n1.i (λz=>z) trivial;refine aEn (zC (σ:=σ.set n1.i (some<|.ref C)) I1 hB kh hK (E1.tab _ l) B.qn jn Q B.eq h.d0 h.k0 B.ann hN h.nm h.lc h.st λt H2 s2 I2 yh md2=>?_);have J:EnvOk X.K H9 O0 H2 O ((σ.set n1.i<|some<|.ref C).set n2.i (some<|.ref t)) ((ρ.set n1.i .no).set n2.i .no):=(E1.grow yh).put n2.i (λz=>z) trivial;have l1:n1.i<σ.length:=by rw[I.len];exact(aAC.mp a.nm).1
 have l2:n2.i<σ.length:=by rw[I.len];exact(aAC.mp h.nm).1
 refine oI (wG<|UT a h u B hA FF hr hm hk hb h3 he ye hg ib zd zi T bf) o s2 _ H2 D I2 ⟨H9,O0,O,_,C,t,J,?_,?_,md1.same yh,md2,?_⟩
 .rw[aCA (aBY ag),aBJ l1]
 .rw[aBJ (by rw[aFV];exact l2)]
 revert q;dsimp only;generalize((f<|(ρ.set n1.i .no).set n2.i .no).bind λY=>(dG n1.js<|(ρ.set n1.i .no).set n2.i .no).bind λw1=>(dG n2.js<|(ρ.set n1.i .no).set n2.i .no).bind λw2=>M Y (n1.mm w1) (n2.mm w2))=rr;intro q;cases rr with
 |ok d=>exactλv H' s r=>q v H' (J.same.trans s) (r.sub J.sub)
 |ex z=>exactλH' s=>q H' (J.same.trans s)
 |bad=>exact q
end
def vU(K:ix):Sp:=λL H Q _=>∃(a:bc) (b:List Int),L=[.ref a]/\P4 K H a (b.map V.int)/\b.length<=63/\(∀x∈b,aBe x<=1048576)/\Tb H/\∀d,Q (.bl true) d
def YA{P:bM}{w:cp}{K:ix}{mg:cM}{base:cq}{k:Nat}{f:bc}{fd:dA}{m:List D->R D}(F:FnOk P w K mg base uO k f fd ["script"] (zq K 1 m))
  (h:∀ns:List Int,ns.length<=63->(∀x∈ns,aBe x<=1048576)->m [.lst (ns.map D.int)]=.ok (.bl true)):FnOk P w K mg base uO k f fd ["script"] (vU K):=
 F.imp<|by rintro L H Q E ⟨a,ns,e,b,d,g,i,q⟩;exact⟨λ_=>False,_,_,by rw[e];exact .cons (.lst b (λz=>z) (Reps.ints ns)) .nil,rfl,λ_ z=>z.elim,i,λ_ _ _ z=>z,h ns d g,λv j _ r=>by cases r;exact q j⟩
def JZ{P:bM}{w:cp}{K:ix}{mg mb:cM}{k:Nat}{fa a:bc}{fd:dA}{f:ba}{L:List au}{ns:List Int}
  (KX:K.In f.heap) (zc:f.heap.Ns bt mg) (j:f.heap.Ns builtinsNs mb) (hbb:∀x:Str,x≠ "__name__"->mb x=de x) (J:f.heap.NoLimit) (hB:iS mg f.heap) (hg:f.gens=#[])
  (N:f.heap.get? a=some {cls:=.type "list",data:=.seq L.toArray}) (hi:IntsAre L ns) (hl:ns.length<=63) (xi:∀x∈ns,aBe x<=1048576) (hr:Room k callerA)
  (hT:∀p∈Tabs.tbs,f.heap.get? p.1=some (PySem.W.tabObj #[])/\isCodeTable f.heap p.1) (hTd:(Tabs.tbs.map (·.1)).Nodup) (hKn:PySem.W.noTabs K=true)
  (F:∀base:cq,K.In base->base.Ns bt mg->iS mg base->FnOk P w K mg base uO k fa fd ["script"] (vU K)) (xh:∀(s:ba) (u:au),BindsTo s fd ⟨[u],[]⟩ [("script",u)]):
  gn (be P w) callerA (.call (.ref fa) ⟨[.ref a],[]⟩) (λr s'=>r=.ok (.ret (.bool true))/\OldK f.heap s'.heap/\s'.os=f.os/\AllBare s'.gens) f:=by
 have rv:=L2.V8 hi;have O:=hi.length;have jd:ns.length<=sizeLine:=aAr hl (by decide);have C:∀b i,Tabs.tbs.lookup b=some i->f.heap.get? b=some (PySem.W.tabObj #[])/\isCodeTable f.heap b:=λb i e=>hT (b,i) (mem_lookup e);have nta:Tabs.tbs.lookup a=none:=by
  cases e:Tabs.tbs.lookup a with
  |none=>rfl
  |some i=>have:=(C a i e).1;rw[N]at this;cases this
 have noK:∀b o,K.lookup b=some o->Tabs.tbs.lookup b=none:=λb o e=>by
  cases z:Tabs.tbs.lookup b with
  |none=>rfl
  |some i=>have Q:=KX b o e;rw[(C b i z).1]at Q;cases Q;have l:=aCh.mp hKn (b,_) (PySem.W.mem_of_lookupK e);exact absurd (show false=true from l) aAU
 let put:Hp->Hp:=λH b=>match Tabs.tbs.lookup b with
  |some i=>some (.tbl i)
  |none=>H b
 have qJ:∀(H:Hp) b i,Tabs.tbs.lookup b=some i->put H b=some (.tbl i):=λH b i e=>by show(match Tabs.tbs.lookup b with|some i=>some (HO.tbl i)|none=>H b)=_;rw[e]
 have E:∀(H:Hp) b,Tabs.tbs.lookup b=none->put H b=H b:=λH b e=>by show(match Tabs.tbs.lookup b with|some i=>some (HO.tbl i)|none=>H b)=_;rw[e]
 have y:∀g:Hp,(∀b,g b=none\/∃Y,g b=some (.frz {cls:=.type "list",data:=.seq L.toArray} (.lst Y)))->P4 K (put g) a (ns.map V.int)->(∀b u,g b=some u->ObjOk P w (put g) f.heap b u)->(∀b,g b≠none->b=a)->(g a≠none->K.lookup a=none)->
   gn (be P w) callerA (.call (.ref fa) ⟨[.ref a],[]⟩) (λr s'=>r=.ok (.ret (.bool true))/\OldK f.heap s'.heap/\s'.os=f.os/\AllBare s'.gens) f:=by
  intro g hO hS T hA hK;have U:gB P w (put g) f.heap:=λb u e=>by
   cases z:Tabs.tbs.lookup b with
   |none=>rw[E _ b z]at e;exact T b u e
   |some i=>rw[qJ _ b i z]at e;cases e;exact⟨#[],(C b i z).1,trivial,λp _=>.inl rfl⟩
  have og:∀{b:bc}{o:Obj},f.heap.get? b=some o->put g b=none->(rR f.heap<|put g).get? b=some o:=λe n=>MO e n;have none_of:∀{b:bc}{o:Obj},f.heap.get? b=some o->o≠PySem.W.tabObj #[]->o≠{cls:=.type "list",data:=.seq L.toArray}->put g b=none:=λ{b o} e n1 n2=>by
   cases z:Tabs.tbs.lookup b with
   |some i=>have:=(C b i z).1;rw[e]at this;exact absurd (Option.some.inj this) n1
   |none=>
    rw[E _ b z];cases q:g b with
    |none=>rfl
    |some u=>have e':b=a:=hA b (by rw[q];simp);subst e';rw[N]at e;exact absurd (Option.some.inj e).symm n2
  have t:∀{b:bc}{m:cM},f.heap.Ns b m->(rR f.heap<|put g).Ns b m:=λ{b m} ⟨o,es,ep,e,d,r⟩=>⟨o,es,ep,og e (none_of e (λz=>by rw[z]at d;cases d) λz=>by rw[z]at d;cases d),d,r⟩;have hKb:K.In (rR f.heap<|put g):=λb o e=>og (KX b o e) (by
   rw[E _ b (noK b o e)];cases q:g b with
   |none=>rfl
   |some u=>have e':b=a:=hA b (by rw[q];simp);subst e';rw[hK (by rw[q];simp)]at e;cases e)
  have hBb:iS mg (rR f.heap<|put g):=by obtain⟨bm,ob,b1,b2,b3,b4,b5,b6⟩:=hB;exact⟨bm,ob,b1,b2,og b3 (none_of b3 (λz=>by rw[z]at b6;cases b6) λz=>by rw[z]at b6;cases b6),b4,b5,b6⟩
  have hM:Mod K mg (rR f.heap<|put g):=⟨hKb,t zc,⟨mb,t j,hbb⟩,let⟨mc,A,l⟩:=J;⟨mc,t A,l⟩⟩;have e0:Env0 P w K mg (rR f.heap<|put g) callerA [] f (put g):=⟨rfl,hM,λb o e=>YH e,aEj (IU _ _),trivial,λb j=>absurd (show b∈([]:List bc)from j) (by simp),U,.of_eq hg⟩;have tb0:Tb (put g):=λp hp=>qJ _ p.1 p.2 (aW hTd hp);refine aDR ((F _ hKb (t zc) hBb).run callerA [] f (put g) ⟨[.ref a],[]⟩ [.ref a] [.ref a] (λv _=>v=.bl true) (λ_ _ _=>False) hr e0 (xh f<|.ref a) (.cons rfl .nil) ⟨a,ns,rfl,hS,hl,xi,tb0,λ_=>rfl⟩) λr s' h=>?_;cases r with
  |error e=>exact(show False from h).elim
  |ok fl=>
   cases fl with
   |next=>exact aAf h
   |brk=>exact aAf h
   |cont=>exact aAf h
   |ret u=>
    obtain⟨v,H',os,bare,un,ze,r',q⟩:=h;have q':v=.bl true:=q;subst q';obtain rfl:u=aDA true:=r';have B:∀b o,f.heap.get? b=some o->s'.heap.get? b=some o\/(isCodeTable f.heap b/\o=PySem.W.tabObj #[]/\∃I,s'.heap.get? b=some (PySem.W.tabObj I)):=λb o e=>by
     cases z:Tabs.tbs.lookup b with
     |some i=>have:=(C b i z).1;rw[e]at this;obtain⟨I,hps,_⟩:=ze b _ (un.tbls b i<|qJ _ b i z);exact .inr ⟨(C b i z).2,Option.some.inj this,I,hps⟩
     |none=>
      refine .inl ?_;rcases hO b with n|⟨Y,n⟩
      .exact un.keep b o e (by rw[E _ b z];exact n) (by intro z;exact absurd (show b∈([]:List bc)from z) (by simp)) (by simp)
      have z1:put g b=some (.frz {cls:=.type "list",data:=.seq L.toArray} (.lst Y)):=by rw[E _ b z];exact n
      have z2:=un.frzs b _ _ z1;obtain⟨Q,_⟩:=U b _ z1;obtain⟨e2,_⟩:=ze b _ z2;rw[e]at Q;cases Q;exact e2
    refine⟨rfl,⟨λb o e=>?_,λb o e=>?_⟩,os,bare⟩
    .rcases B b o e with h|⟨A,l,I,h3⟩
     .exact .inl h
     subst l;exact .inr (.inl ⟨A,rfl,#[],I,rfl,by rw[Array.empty_append];exact h3⟩)
    rcases B b o e with h|⟨A,l,I,h3⟩
    .exact⟨o,h⟩
    exact⟨_,h3⟩
 cases hk:K.lookup a with
 |some o=>have e:=KX a o hk;rw[N]at e;cases e;refine y (λ_=>none) (λ_=>.inl rfl) (.inr ⟨_,L.toArray,_,hk,rfl,rfl,rfl,by rw[aAn,O];exact jd,by simpa using rv⟩) (λb u z=>by have z':(none:Option HO)=some u:=z;cases z') (λb z=>absurd rfl z) λz=>absurd rfl z
 |none=>
  obtain⟨g,A,l⟩:∃g:Hp,g a=some (.frz {cls:=.type "list",data:=.seq L.toArray} (.lst (ns.map V.int)))/\∀b,b≠a->g b=none:=⟨λb=>if b=a then _ else none,h9 rfl,λb j=>ia j⟩;refine y g (λb=>?_) (.inl (.inr ⟨{cls:=.type "list",data:=.seq L.toArray},(E g a nta).trans A⟩)) (λb u z=>?_) (λb z=>?_) λ_=>hk
  .by_cases j:b=a
   .subst j;exact .inr ⟨_,A⟩
   exact .inl (l b j)
  .by_cases j:b=a
   .subst j;rw[A]at z;cases z;exact⟨N,by rw[aAh];exact jd,L,_,rv,N⟩
   rw[l b j]at z;cases z
  by_cases j:b=a
  .exact j
  exact absurd (l b j) z
def VP{l:PySem.W.OpenLaw}{k:Nat}{q:bM}{e:List Str}{B:(Str->Option au)->cq->Prop}{y:cp->cq->Prop}{d:DefRec}{K:Params->ix}{z:List bc}
  (C:l.most=some 63) (n:d.params.defaults=[]) (E:Room k callerA)
  (H:∀(w:cp) (h:cq),y w h->(K w.params).In h/\∀P∈z,h.get? P=some (PySem.W.tabObj #[]))
  (r:∀p∈Tabs.tbs,p.1∈z/\∃c,∀w:cp,PySem.W.codeHdIn (K w.params) c p.1=true) (t:(Tabs.tbs.map (·.1)).Nodup) (v:∀w:cp,PySem.W.noTabs (K w.params)=true)
  (F:∀(w:cp) (mg:cM) (fa:bc) (h:cq),(K w.params).In h->h.Ns bt mg->mg d.name=some (.ref fa)->
   ∃fd:dA,(∀(s:ba) (u:au),BindsTo s fd ⟨[u],[]⟩ [("script",u)])/\
    ∀base:cq,(K w.params).In base->base.Ns bt mg->iS mg base->FnOk l.prog w (K w.params) mg base uO k fa fd ["script"] (vU (K w.params))):
  PySem.W.WalkO q e B y l.row.toRowW d [] (λf L=>PySem.call f L):=by
 refine Att2.attach_bits C n λw s9 aa mg mb fa o pm cd I a L ns G Y ho hd dc J j i m N O=>?_;obtain⟨x,Q⟩:=H w _ Y;obtain⟨fd,U,hF⟩:=F w mg fa _ x G.T.g J;refine JZ x G.T.g G.T.b G.T.builtins G.T.nolimit G.T.bmain O j i m N E (λp hp=>?_) t (v w) hF U;obtain⟨h1,c,h2⟩:=r p hp;have A:=Q p.1 h1;exact⟨A,((PySem.W.codeHd_of_K x<|h2 w).tab A).isCodeTable⟩
section
def xR(own N:List Str)(h:List Nat)(hc:X.calm=true)(S:CompSc X f own N h)(hi:VD X U w8 Y)(hX:∀(b:O9) (n:List bc) (k:Cx),(∃s9 Ha C,k=FN X b s9 Ha (own++N) f (bV X f C) C n)->LO k U G/\UL k o ft/\PD k p fe)(hG:∀ρ d ρ1,G d (i5 own h ρ)=.ok ρ1->nK ρ1 (i5 own h ρ))(hs:∀x,d7 w8 X.env x=pure x:=by intro _;rfl):
  PF X (.ListComp p [⟨U,w8,o,0⟩] f pos) (λρ=>(Y ρ).bind λds=>if ds.length<=sizeLine then o8 G ft fe (i5 own h ρ) ds else .bad):=by
 refine uR λb s σ H Q I H9 O0 O ρ E q=>?_;dsimp only at q;rw[eval_ListComp];refine aDT (use:=none) rfl hs (Z7<|Inv.ab0 I S) S.kind S.names ?_;refine F5 (hi b s σ H (λJ g=>∃ds i,Same H g/\ZC X.K J g O ds/\ds.length<=sizeLine/\o8 G ft fe (i5 own h ρ) ds=.ok i/\∀L g a,Same H g->g a=none->Reps X.K g O L i->Q (.ref a) (upd g a<|.lst L)) I ⟨H9,O0,O,ρ,E,nE I O E.trk,?_⟩) λv s1 h1=>F5 h1 λitv s2 h2=>?_
 .cases t:Y ρ with
  |ex x=>rw[t]at q;exact q
  |bad=>rw[t]at q;exact q
  |ok ds=>
   rw[t,R.aa0]at q;intro J g s1 u;by_cases j:ds.length<=sizeLine
   .rw[h9 j]at q;cases l:o8 G ft fe (i5 own h ρ) ds with
    |ex x=>rw[l]at q;exact(q H<|Same.refl _).elim
    |bad=>rw[l]at q;exact q.elim
    |ok i=>rw[l]at q;exact⟨ds,i,s1,u,j,l,q⟩
   rw[ia j]at q;exact q.elim
 obtain⟨it,n,tn,J,H2,e,I2,T,ku,f2,ds,i,sm,u,j,y,q⟩:=h2;subst e;refine qH (RR:=λB C=>compPost (be X.prog X.w) X.A X.xe none (EP X b σ Q) B C) hc S (hX b n) (hG ρ) I2 T ku f2 (E.grow sm) u.c y j ?_;intro B C s' H' m hn _ _ _ sm' r nw _ hI;obtain⟨g,L,qg,z,eH,rr⟩:=nw;subst eH;exact⟨m,hn,λh' jr=>⟨.ref B,_,hI h' jr,rfl,q L g B (sm.trans qg) z rr⟩⟩
def a2n{Y es:List cu}{p:Pos}{env:Env}:bb (.List Y p::es) env=(false,dm (.List Y p) env)::bb es env:=rfl
def yz{Y:List cu}{p:Pos}{t:Option cu}{l:Nat}{env:Env}:eQ (Expr.List Y p) t l env=pure false:=rfl
end
end
end DL
namespace DL
open PySem L2
def dN(G:D->Ev->R Ev)(F:Ev->R Out)(d:D)(ρ:Ev):R Out:=match G d ρ with
 |.ok a=>F a
 |_=>.bad
@[simp]def gI(i:Nat)(F:Ev->R Out)(d:D)(ρ:Ev):dN (λd ρ=>.ok (ρ.set i (Sl.v d))) F d ρ=F (ρ.set i (.v d)):=rfl
@[simp]def a0y(G:D->Ev->R Ev)(F:Ev->R Out)(ρ:Ev):V3 G F [] ρ=.ok (.nx ρ):=rfl
def QA{α:Type}{a b:α}:(R.ok a=R.ok b)=(a=b):=by simp
class Bd (a:Int)(n:outParam Nat):Prop where
 h:bits a<=n
def L7(h:bits a<=m)(b:m<=n):bits a<=n:=aAr h b
section
instance Bd.add [p:Bd a m][q:Bd b n]:Bd (a+b) (m+n+1):=⟨bits_add (L7 p.h<|aEq m n) (L7 q.h<|Nat.le_add_left n m)⟩
instance Bd.mul [p:Bd a m][q:Bd b n]:Bd (a*b) (m+n):=⟨bits_mul p.h q.h⟩
def N9[p:Bd a m][q:Bd b n](d:m<=60000000)(e:n<=60000000):LK (.int a) (.int b)=.ok (.int (a*b)):=l8 ⟨aAr p.h d,aAr q.h e⟩
end
instance Bd.l2:Bd 2 2:=⟨by decide⟩
abbrev vd(v:G.V):D:=.tup [.int v.x,.int v.y,.int v.z]
def Sz(n:Nat)(v:G.V):Prop:=bits v.x<=n/\bits v.y<=n/\bits v.z<=n
def Sz.mono(h:Sz m v)(a:m<=n:=by decide):Sz n v:=⟨L7 h.1 a,L7 h.2.1 a,L7 h.2.2 a⟩
def Sz.sub(h:Sz n u)(h':Sz n v):Sz (n+1) (u-v):=⟨bits_sub h.1 h'.1,bits_sub h.2.1 h'.2.1,bits_sub h.2.2 h'.2.2⟩
def Sz.add(h:Sz n u)(h':Sz n v):Sz (n+1) (u+v):=⟨bits_add h.1 h'.1,bits_add h.2.1 h'.2.1,bits_add h.2.2 h'.2.2⟩
def Sz.cr(h:Sz m u)(h':Sz n v):Sz (m+n+1) (G.cr u v):=⟨bits_sub (bits_mul h.2.1 h'.2.2) (bits_mul h.2.2 h'.2.1),bits_sub (bits_mul h.2.2 h'.1) (bits_mul h.1 h'.2.2),bits_sub (bits_mul h.1 h'.2.1) (bits_mul h.2.1 h'.1)⟩
end DL
namespace M
open PySem L2 DL
abbrev pt(a b c:Int):D:=.tup [.int a,.int b,.int c]
abbrev ZT(n:Nat)(a b c:Int):Prop:=bits a<=n/\bits b<=n/\bits c<=n
def DO(k:List D->List D->R D):List D->R D
 |.lst Y::a=>k Y a
 |_=>.bad
def UN(k:List D->List D->R D):List D->R D
 |.tup Y::a=>k Y a
 |_=>.bad
def yZ(k:Int->List D->R D):List D->R D
 |.int a::b=>k a b
 |_=>.bad
def W4{k:Int->List D->R D}{ds:List D}{r:D}(h:yZ k ds=.ok r):∃a e,ds=.int a::e/\k a e=.ok r:=by
 unfold yZ at h;split at h
 .exact⟨_,_,rfl,h⟩
 cases h
def nQ(q:R D):List D->R D
 |[]=>q
 |_=>.bad
def bU(h:DO k ds=.ok r):∃Y e,ds=.lst Y::e/\k Y e=.ok r:=by
 unfold DO at h;split at h
 .exact⟨_,_,rfl,h⟩
 cases h
def vI(h:UN k ds=.ok r):∃Y e,ds=.tup Y::e/\k Y e=.ok r:=by
 unfold UN at h;split at h
 .exact⟨_,_,rfl,h⟩
 cases h
def G7(h:nQ q ds=.ok r):ds=[]/\q=.ok r:=by
 unfold nQ at h;split at h
 .exact⟨rfl,h⟩
 cases h
def v1(k:Int->Int->Int->List D->R D):List D->R D:=UN λY e=>yZ (λa=>yZ λb=>yZ λc=>nQ (k a b c e)) Y
def v4(k:Int->Int->Int->Int->List D->R D):List D->R D:=UN λY e=>yZ (λa=>yZ λb=>yZ λc=>yZ λd=>nQ (k a b c d e)) Y
def v3(k:Int->Int->Int->List D->R D):List D->R D:=UN λY e=>yZ (λa=>yZ λb=>yZ λc _=>k a b c e) Y
def a1f(h:v3 k ds=.ok r):∃a b c t e,ds=.tup (.int a::.int b::.int c::t)::e/\k a b c e=.ok r:=by obtain⟨Y,e,rfl,h⟩:=vI h;obtain⟨a,x,rfl,h⟩:=W4 h;obtain⟨b,y,rfl,h⟩:=W4 h;obtain⟨c,z,rfl,h⟩:=W4 h;exact⟨a,b,c,z,e,rfl,h⟩
def P6(h:v1 k ds=.ok r):∃a b c e,ds=.tup [.int a,.int b,.int c]::e/\k a b c e=.ok r:=by obtain⟨Y,e,rfl,h⟩:=vI h;obtain⟨a,x,rfl,h⟩:=W4 h;obtain⟨b,y,rfl,h⟩:=W4 h;obtain⟨c,z,rfl,h⟩:=W4 h;obtain⟨rfl,h⟩:=G7 h;exact⟨a,b,c,e,rfl,h⟩
def YU(h:v4 k ds=.ok r):∃a b c d e,ds=.tup [.int a,.int b,.int c,.int d]::e/\k a b c d e=.ok r:=by obtain⟨Y,e,rfl,h⟩:=vI h;obtain⟨a,x,rfl,h⟩:=W4 h;obtain⟨b,y,rfl,h⟩:=W4 h;obtain⟨c,z,rfl,h⟩:=W4 h;obtain⟨d,w,rfl,h⟩:=W4 h;obtain⟨rfl,h⟩:=G7 h;exact⟨a,b,c,d,e,rfl,h⟩
def w5:List D->R D:=v1 λa b c=>v1 λd e f=>nQ (.ok (pt (d-a) (e-b)<|f-c))
def D9:List D->R D:=v1 λa b c=>v1 λd e f=>nQ (if ZT 20000000 a b c/\ZT 20000000 d e f then .ok (pt (b*f-c*e) (c*d-a*f)<|a*e-b*d)else .bad)
def w4:List D->R D:=v3 λa b c=>v1 λd e f=>nQ (if ZT 50000000 a b c/\ZT 50000000 d e f then .ok (.int (a*d+b*e+c*f))else .bad)
@[simp]def xq(P Q:G.V):w5 [vd P,vd Q]=.ok (vd (Q-P)):=rfl
def iU(a:Sz 20000000 u)(b:Sz 20000000 v):D9 [vd u,vd v]=.ok (vd (G.cr u v)):=h9 ⟨a,b⟩
def nS(a:Sz 50000000 u)(b:Sz 50000000 v):w4 [vd u,vd v]=.ok (.int (G.dot u v)):=h9 ⟨a,b⟩
def rule(k:Int):Int:=7*k*k+10*k+3
def X8:List D->R D
 |[d]=>.ok (.bl (QP d))
 |_=>.bad
def P64:Int:=10^64
def P34:Int:=10^34
def a5m:Int:=P64*P34
def sgn(x:Int):Int:=if 0<x then 1 else if x<0 then-1 else 0
def aS:List D->R D:=v4 λa b c d=>v1 λx y z=>nQ (if ZT 50000000 a b c/\ZT 50000000 x y z then .ok (.int (sgn<|a*x+b*y+c*z-d))else .bad)
def YC(e:ZT 50000000 a b c)(f:ZT 50000000 x y z):aS [.tup [.int a,.int b,.int c,.int d],pt x y z]=.ok (.int (sgn (a*x+b*y+c*z-d))):=h9 ⟨e,f⟩
def a0r(i:Nat)(ρ:Ev):Nat:=match ρ[i]? with
 |some (.v (.int b))=>b.natAbs+2
 |_=>0
def BL(d:bits a<=n)(f:bits b<=n):bits (aGB a b)<=n:=by
 refine IF ?_;have g:=GQ d;have h:=GQ f;have e:((aGB a b:Nat):Int).natAbs=aGB a b:=by simp
 rw[e];unfold aGB;rcases Nat.eq_zero_or_pos a.natAbs with z|z
 .rw[z,Nat.gcd_zero_left];exact h
 exact aCt (Nat.gcd_le_left _ z) g
end M
namespace DL
open PySem PySem.Spec L2
open PyProof.Rows hiding St
theorem V8:∀{ns:List Int}{a:List au},l7 (ns.map V.int) a->IntsAre a ns
 |[],_,.nil=>.nil
 |n::ns,_,.cons r t=>by obtain⟨b,rfl⟩:=r;exact .cons n b (V8 t)
section
def JC(j:X.calm=true):uM X (.builtin "sum") (λY H Q=>∃(p:bc) (ns:List Int),Y=[.ref p]/\P4 X.K H p (ns.map V.int)/\Q (.int ns.sum) H):=by
 intro f s σ H Y x Q I r h;obtain⟨p,ns,rfl,k,q⟩:=h;obtain⟨u,rfl,l⟩:=vals1 r;cases l;obtain⟨a,m,n,y⟩:=I.list k;have g:=V8 m;obtain⟨b,e⟩:=g.allInts.items;have i:=n.isList;rw[e]at i;refine sum_intListG (I.ok.hd j) i λz A o t=>?_;have v:preSum (numAt b) b.size=ns.sum:=by have d:=nums_intItems b;rw[<-e]at d;have w:=g.numsOf;rw[show a.toArray.toList=a from rfl,w]at d;rw[preSum_eq,aDl (by simp),d]
 rw[v];exact⟨.int ns.sum,H,I.kept t,⟨o,rfl⟩,q⟩
def cP:List D->Option (List Int)
 |[]=>some []
 |.int i::r=>(cP r).map (i::·)
 |_=>none
theorem aR:∀{ds:List D}{ns:List Int},cP ds=some ns->ds=ns.map D.int
 |[],ns,h=>by cases h;rfl
 |.int i::r,ns,h=>by simp only[cP,aDk]at h;obtain⟨m,a,rfl⟩:=h;rw[aR a];rfl
 |.non::_,_,h=>by cases h
 |.bl _::_,_,h=>by cases h
 |.str _::_,_,h=>by cases h
 |.tup _::_,_,h=>by cases h
 |.lst _::_,_,h=>by cases h
 |.dct::_,_,h=>by cases h
theorem qV:∀ns:List Int,cP (ns.map D.int)=some ns
 |[]=>rfl
 |n::ns=>by simp[cP,qV ns]
theorem mD{K:ix}{H:Hp}{O:bc->Prop}:∀{L:List V}{ns:List Int},Reps K H O L (ns.map D.int)->L=ns.map V.int
 |[],[],_=>rfl
 |v::L,n::ns,.cons h t=>by cases h;rw[mD t];rfl
def OQ:List D->R D
 |[.lst Y]=>match cP Y with
  |some a=>.ok (.int a.sum)
  |none=>.bad
 |_=>.bad
variable [Tabs]in
def EX(d:X.calm=true):dP X (.builtin "sum") OQ:=by
 intro H O L f Q h r q;match f,q with
 |[.lst Y],q=>
  obtain⟨v,rfl,z⟩:=PL r;obtain⟨p,i,rfl,a,b⟩:=z.aa5;simp only[OQ]at q;cases e:cP Y with
  |none=>rw[e]at q;exact q.elim
  |some g=>rw[e]at q;rw[aR e]at b;rw[mD b]at a;exact⟨_,JC d,p,g,rfl,a,q _ H (Same.refl _) .int⟩
end
theorem lD(Iv:List D->Ev->Prop)(b:∀d ds ρ,Iv (d::ds) ρ->∃ρ2,dN G F d ρ=.ok (.nx ρ2)/\Iv ds ρ2):∀{ds:List D}{ρ:Ev},Iv ds ρ->∃ρ',V3 G F ds ρ=.ok (.nx ρ')/\Iv [] ρ'
 |[],ρ,h=>⟨ρ,rfl,h⟩
 |d::ds,ρ,h=>by
  obtain⟨ρ2,e,f⟩:=b d ds ρ h;obtain⟨ρ',g,i⟩:=lD Iv b f;unfold dN at e;cases a:G d ρ with
  |ok j=>rw[a]at e;exact⟨ρ',by rw[V3,a];dsimp only at e⊢;rw[e];exact g,i⟩
  |ex x=>rw[a]at e;cases e
  |bad=>rw[a]at e;cases e
def cW(Iv:List D->Ev->Prop)(a:∀d ds ρ,Iv (d::ds) ρ->∃ρ2,dN G F d ρ=.ok (.nx ρ2)/\Iv ds ρ2)(h0:Iv ds ρ)(b:∀ρ',Iv [] ρ'->P3 (f ρ')=.ok d):
  P3 (D6 (V3 G F ds ρ) f)=.ok d:=by
 obtain⟨ρ',e,h⟩:=lD Iv a h0;rw[e];exact b ρ' h
def zM{Post:Ev->Prop}(Iv:Nat->Ev->Prop)(b:∀n ρ,Iv (n+1) ρ->c ρ=.ok false\/(c ρ=.ok true/\∃ρ2,F ρ=.ok (.nx ρ2)/\Iv n ρ2))(a:∀ρ,¬Iv 0 ρ)(h0:Iv n ρ)(d:∀m ρ',Iv m ρ'->c ρ'=.ok false->Post ρ'):∃ρ2,T5 c F n ρ=.ok (.nx ρ2)/\Post ρ2:=by obtain⟨m,ρ',e,h,f⟩:=gT Iv b a n ρ h0;exact⟨ρ',e,d m ρ' h f⟩
end DL
namespace M
open PySem L2 DL
abbrev wH(n:G.V)(d:Int):D:=.tup [.int n.x,.int n.y,.int n.z,.int d]
def K0:List D->R D:=v1 λa b c=>nQ (.ok (.int (G.z6 ⟨a,b,c⟩)))
def ET(v:G.V):K0 [vd v]=.ok (.int (G.z6 v)):=rfl
def Sz3(P Q R:G.V):Prop:=Sz 1000 P/\Sz 1000 Q/\Sz 1000 R
open Classical in
def T2:List D->R D:=v1 λa b c=>v1 λd e f=>v1 λg h i=>nQ (
 if Sz3 ⟨a,b,c⟩ ⟨d,e,f⟩ ⟨g,h,i⟩/\G.cr ((⟨d,e,f⟩:G.V)-⟨a,b,c⟩) ((⟨g,h,i⟩:G.V)-⟨a,b,c⟩)≠0 then .ok (wH (G.j1 ⟨a,b,c⟩ ⟨d,e,f⟩ ⟨g,h,i⟩).1 (G.j1 ⟨a,b,c⟩ ⟨d,e,f⟩ ⟨g,h,i⟩).2)else .bad)
def RA{P Q R:G.V}(h:Sz3 P Q R)(a:G.cr (Q-P) (R-P)≠0):T2 [vd P,vd Q,vd R]=.ok (wH (G.j1 P Q R).1 (G.j1 P Q R).2):=h9 ⟨h,a⟩
def JU(h:Sz n v):bits (G.z6 v:Nat)<=n:=by
 have e:((G.z6 v:Nat):Int)=aGB (aGB v.x v.y:Nat) v.z:=by simp[G.z6,aGB]
 rw[e];exact BL (BL h.1 h.2.1) h.2.2
def qY{a g:Int}(h:0<g):a.fdiv g=a/g:=Int.fdiv_eq_ediv_of_nonneg a (aAK h)
end M
namespace DL
open PySem PySem.Spec L2
open PyProof.Rows hiding St
section
variable [Tabs]
mutual
inductive HV(h:Heap):Value->D->Prop
 |int (i:Int) (t:Tok):HV h (.int i t) (.int i)
 |tup {a:Addr}{items:Array Value}{ds:List D} (p:IsTup h a items) (r:HVs h items.toList ds):HV h (.ref a) (.tup ds)
inductive HVs(h:Heap):List Value->List D->Prop
 |nil:HVs h [] []
 |cons {v:Value}{d:D}{L:List Value}{ds:List D} (r:HV h v d) (t:HVs h L ds):HVs h (v::L) (d::ds)
end
mutual
def rM:D->Bool
 |.int _=>true
 |.tup Y=>aO Y
 |_=>false
def aO:List D->Bool
 |[]=>true
 |x::Y=>rM x&&aO Y
end
theorem iG:∀Y:List D,vH Y=Y.map m9
 |[]=>rfl
 |x::Y=>by rw[vH,iG Y];rfl
section
mutual
theorem HV.keeps(k:∀b o,h.get? b=some o->o.cls=.type "tuple"->h'.get? b=some o):∀{v:au}{d:D},HV h v d->HV h' v d
 |_,_,.int i t=>.int i t
 |_,_,.tup p r=>.tup (by obtain⟨o,e,c,n,d⟩:=p;exact⟨o,k _ _ e c,c,n,d⟩) (HVs.keeps k r)
theorem HVs.keeps(k:∀b o,h.get? b=some o->o.cls=.type "tuple"->h'.get? b=some o):∀{v:List au}{d:List D},HVs h v d->HVs h' v d
 |_,_,.nil=>.nil
 |_,_,.cons r t=>.cons (HV.keeps k r) (HVs.keeps k t)
end
mutual
theorem HV.inj:∀{v:au}{d d':D},HV h v d->HV h v d'->d=d'
 |_,_,_,.int i t,.int _ _=>rfl
 |_,_,_,.tup p r,.tup f g=>by obtain⟨o,e,c,n,j⟩:=p;obtain⟨k,a,l,m,b⟩:=f;rw[e]at a;cases a;rw[j]at b;injection b with q _;subst q;rw[HVs.inj r g]
theorem HVs.inj:∀{v:List au}{d d':List D},HVs h v d->HVs h v d'->d=d'
 |_,_,_,.nil,.nil=>rfl
 |_,_,_,.cons r t,.cons a b=>by rw[HV.inj r a,HVs.inj t b]
end
theorem HVs.length:∀{v:List au}{d:List D},HVs h v d->v.length=d.length
 |_,_,.nil=>rfl
 |_,_,.cons _ t=>by simp[HVs.length t]
end
section
variable{prog:bM}{w:cp}
def PH(prog:bM)(w:cp)(h:cq)(v:au)(d:D):Prop:=∀(A:cf) (E:F7) (s:ba) (Q:Int->ba->Prop),s.heap=h->A.units+8*G4 d<cz->(∀a,s.toks<=a->Q (m9 d) {s with toks:=a})->a9 (be prog w) A (pyHash v) Q E s
mutual
theorem YZ:∀{v:au}{d:D},HV h v d->PH prog w h v d
 |_,_,.int i t=>λA E s Q J L q=>by exact(intKind prog w).pyHash (k:=i) (intKind_is _ _ _ _) (q _<|Nat.le_succ _)
 |_,_,.tup (a:=a) (items:=items) (ds:=ds) p r=>λA E s Q J L q=>by
  have fs:=OK r;subst J;obtain⟨o,N,T,n,U⟩:=p;have u:s.TypeIs (.ref a) "tuple":=⟨o,N,T⟩;have C:A.units<cz:=by lia
  rw[G4]at L;unfold pyHash;first|unfold pyHashByItsType|skip
  first|refine aAa (wpAny_cRoomFor_or (.inr C) ?_)|skip
  refine aAa (aBC u PySem.F.slot_tuple_hash.lookup ?_);show a9 _ _ (if(some (aGr "tuple.__hash__")==some Value.none)=true then _ else _) Q E s;rw[ia (by rw[aFB];exact aAU)];refine aAa (aBC u PySem.F.slot_tuple_hash.lookup ?_);show a9 _ _ (callSpecialIfBoundUnlessNone? (.ref a) "__hash__" _>>=_) Q E s;refine aAa (aDr u PySem.F.slot_tuple_hash<|aBB PySem.F.slot_tuple_hash u PySem.F.entry_tuple_hash ?_ (PySem.F.args_tuple_hash_1 _));show a9 _ _ (aDD (.ref a)>>=_) _ _ s;refine aAa (wpAny_tupleItemsOf N U ?_);refine aAa ?_;rw[<-aCv];refine aCy _
   (λrest (b:Array Int) H=>∃done left g,ds=done++left/\Paired (PH prog w s.heap) rest left/\b.toList=done.map m9/\s.toks<=g/\H={s with toks:=g})
   _ ?_ ?_ _ _ ⟨[],ds,s.toks,rfl,fs,rfl,aAl _,rfl⟩
  .rintro x rest b H ⟨done,left,g,l,I,y,Y,rfl⟩;cases I with
   |@cons _ d _ e h1 O=>
    refine aAa (h1 _ _ _ _ rfl ?_ λz f=>?_)
    .have:G4 d<=A8 ds:=by rw[l];exact oF (j:=done.length) (by simp)
     rw[o6];lia
    first
     |exact aAb ⟨done++[d],e,z,by simp[l],O,by simp[y],by(have:g<=z:=f);lia,rfl⟩
     |exact aAa (aAb (aAb ⟨done++[d],e,z,by simp[l],O,by simp[y],by(have:g<=z:=f;lia),rfl⟩))
  rintro b H ⟨done,left,g,l,I,y,Y,rfl⟩;cases I;rw[aCb]at l;subst l;show a9 _ _ (retInt<|aAT b.toList) _ _ _;rw[y];refine wpAny_ret_mkInt ?_;show a9 _ _ (if(decide (-(2:Int)^63<=aAT (ds.map m9))&&decide (aAT (ds.map m9)<2^63))=true then _ else _) Q E _;have m:=q (g+1) (by lia);rw[m9,iG]at m;unfold reduceHash at m;by_cases B:(decide (-(2:Int)^63<=aAT (ds.map m9))&&decide (aAT (ds.map m9)<2^63))=true
  .rw[h9 B];rw[h9 B]at m;exact aAb m
  rw[ia B];rw[ia B]at m;exact aAa (aDy<|aAb m)
theorem OK:∀{v:List au}{d:List D},HVs h v d->Paired (PH prog w h) v d
 |_,_,.nil=>.nil
 |_,_,.cons r t=>.cons (YZ r) (OK t)
end
mutual
theorem HM:∀{v u:au}{d e:D}{A:cf},HV s.heap v d->HV s.heap u e->A.units+G4 d<cz->SeqAt.EqAt A s v u (v5 d e)
 |_,_,_,_,A,.int i t,.int j h,_=>by simp only[v5];exact aEY _ _ _ _
 |_,_,_,_,A,.int i t,.tup p r,b=>by simp only[v5];exact aGb _ _ p (by lia)
 |_,_,_,_,A,.tup p r,.int j h,b=>by simp only[v5];exact aGc _ _ p (by lia)
 |_,_,_,_,A,.tup (a:=a) (ds:=ds) p r,.tup (a:=k) (ds:=l) g f,b=>by
  by_cases e:a=k
  .subst e;have:=HV.inj (.tup p r) (.tup g f);rw[this,R7];exact aDZ _
  simp only[v5];rw[G4]at b;exact aEZ e (lY (by simpa using p) (by simpa using g) r.length f.length (by lia) (UE r f (by rw[o6];lia))).1
theorem UE:∀{L e:List au}{ds es:List D}{A:cf},HVs s.heap L ds->HVs s.heap e es->A.in1.units+A8 ds<cz->nW A s L e ds es
 |_,_,_,_,A,.nil,_,_=>λj u w a b=>by simp at a
 |_,_,_,_,A,.cons r t,.nil,_=>λj u w a b=>by simp at b
 |_,_,_,_,A,.cons (d:=d) (ds:=ds) r t,.cons (d:=i) (ds:=k) f g,h=>λj u w a b=>by
  rw[A8]at h;match j,a,b with
  |0,a,b=>simp only[aCC,aGy]at a b;subst a b;exact HM r f (by lia)
  |j+1,a,b=>simp only[aDf]at a b;exact UE t g (by lia) j u w a b
end
mutual
theorem jK:∀{d e:D},rM d=true->rM e=true->v5 d e=true->d=e
 |.int i,.int j,_,_,h=>by simp[v5]at h;rw[h]
 |.tup Y,.tup f,a,b,h=>by rw[rM]at a b;rw[v5]at h;rw[AD a b h]
 |.int _,.tup _,_,_,h=>by simp[v5]at h
 |.tup _,.int _,_,_,h=>by simp[v5]at h
 |.non,_,h,_,_=>by simp[rM]at h
 |.bl _,_,h,_,_=>by simp[rM]at h
 |.str _,_,h,_,_=>by simp[rM]at h
 |.lst _,_,h,_,_=>by simp[rM]at h
 |_,.non,_,h,_=>by simp[rM]at h
 |_,.bl _,_,h,_=>by simp[rM]at h
 |_,.str _,_,h,_=>by simp[rM]at h
 |_,.lst _,_,h,_=>by simp[rM]at h
theorem AD:∀{d e:List D},aO d=true->aO e=true->Z8 d e=true->d=e
 |[],[],_,_,_=>rfl
 |[],_::_,_,_,h=>by simp[Z8]at h
 |_::_,[],_,_,h=>by simp[Z8]at h
 |x::Y,y::f,a,b,h=>by rw[aO,aAQ]at a b;rw[Z8,aAQ]at h;rw[jK a.1 b.1 h.1,AD a.2 b.2 h.2]
end
mutual
theorem HV.ok:∀{v:au}{d:D},HV h v d->rM d=true
 |_,_,.int i t=>rfl
 |_,_,.tup p r=>by rw[rM];exact HVs.ok r
theorem HVs.ok:∀{v:List au}{d:List D},HVs h v d->aO d=true
 |_,_,.nil=>rfl
 |_,_,.cons r t=>by rw[aO,HV.ok r,HVs.ok t];rfl
end
mutual
theorem jE:∀{v:au}{d:D} (k:Nat),HV h v d->G4 d<k->∀(M:Model) (A:cf) (E:F7) (s:ba) (Q:yB),s.heap=h->Q true s->a9 M A (eqIsQuiet k v) Q E s
 |_,_,k,.int i t,_=>λM A E s Q m q=>by unfold eqIsQuiet;exact aAb q
 |_,_,k,.tup (a:=a) (items:=items) (ds:=ds) p r,e=>λM A E s Q m q=>by
  subst m;obtain⟨o,u,y,n,z⟩:=p;have x:s.TypeIs (.ref a) "tuple":=⟨o,u,y⟩;match k,e with
  |k+1,e=>
   rw[G4]at e;unfold eqIsQuiet;refine aAa (aBC x PySem.F.slot_tuple_eq.lookup ?_);show a9 _ _ (isInstance (.ref a) (.type "tuple")>>=_) _ _ s;refine aAa (aDO x isSubtype_tuple_tuple ?_);simp only[aDz,aAv,if_false];refine aAa (aBP u z ?_);refine aAa ?_;show a9 _ _ (forIn items _ _) _ _ s;rw[<-aCv];refine aCy _ (λrest r b=>r.1=none/\b=s/\∃f,HVs s.heap rest f/\A8 f<k) _ ?_ ?_ _ _ ⟨rfl,rfl,ds,r,by lia⟩
   .rintro v rest r b ⟨g,rfl,f,j,l⟩;cases j with
    |@cons _ d _ B j C=>rw[A8]at l;refine aAa (jE k j (by lia) M A E b _ rfl ?_);simp only[aDz,aAv,if_false];exact aAb ⟨rfl,rfl,B,C,by lia⟩
   rintro⟨H,I⟩ b ⟨g,rfl,_⟩;simp only at g;subst g;exact aAb q
end
mutual
theorem gJ:∀{v:au}{d:D} (k:Nat),HV h v d->G4 d<k->∀(M:Model) (A:cf) (E:F7) (s:ba) (Q:yB),s.heap=h->Q false s->a9 M A (ofAClassStatement k v) Q E s
 |_,_,k,.int i t,_=>λM A E s Q m q=>by unfold ofAClassStatement;exact aAb q
 |_,_,k,.tup (a:=a) (items:=items) (ds:=ds) p r,e=>λM A E s Q m q=>by
  subst m;obtain⟨o,u,x,n,y⟩:=p;have z:s.TypeIs (.ref a) "tuple":=⟨o,u,x⟩;match k,e with
  |k+1,e=>
   rw[G4]at e;unfold ofAClassStatement;refine aAa (aDS z ?_);dsimp only;rw[h9 (by decide)];refine aAa (aAb ?_);simp only[aDz,aAv,if_false];refine aAa (aBP u y ?_);dsimp only;refine aAa ?_;show a9 _ _ (forIn items _ _) _ _ s;rw[<-aCv];refine aCy _ (λrest r b=>r.1=none/\b=s/\∃f,HVs s.heap rest f/\A8 f<k) _ ?_ ?_ _ _ ⟨rfl,rfl,ds,r,by lia⟩
   .rintro v rest r b ⟨g,rfl,f,j,l⟩;cases j with
    |@cons _ d _ B j C=>rw[A8]at l;refine aAa (gJ k j (by lia) M A E b _ rfl ?_);simp only[aAv,if_false];exact aAb ⟨rfl,rfl,B,C,by lia⟩
   rintro⟨H,I⟩ b ⟨g,rfl,_⟩;simp only at g;subst g;exact aAb q
end
mutual
theorem rJ:∀{v:au}{d:D} (k:Nat),HV h v d->G4 d<k->∀(M:Model) (A:cf) (E:F7) (s:ba) (Q:yB),s.heap=h->Q true s->a9 M A (hashByValue k v) Q E s
 |_,_,k,.int i t,_=>λM A E s Q m q=>by unfold hashByValue;exact aAb q
 |_,_,k,.tup (a:=a) (items:=items) (ds:=ds) p r,e=>λM A E s Q m q=>by
  subst m;obtain⟨o,u,x,n,y⟩:=p;have z:s.TypeIs (.ref a) "tuple":=⟨o,u,x⟩;match k,e with
  |k+1,e=>
   rw[G4]at e;unfold hashByValue;refine aAa (aBC z PySem.F.slot_tuple_hash.lookup ?_);dsimp only;refine aAa (aBP u y ?_);refine aAa ?_;show a9 _ _ (forIn items _ _) _ _ s;rw[<-aCv];refine aCy _ (λrest r b=>r.1=none/\b=s/\∃f,HVs s.heap rest f/\A8 f<k) _ ?_ ?_ _ _ ⟨rfl,rfl,ds,r,by lia⟩
   .rintro v rest r b ⟨g,rfl,f,j,l⟩;cases j with
    |@cons _ d _ B j C=>rw[A8]at l;refine aAa (rJ k j (by lia) M A E b _ rfl ?_);simp only[aDz,aAv,if_false];exact aAb ⟨rfl,rfl,B,C,by lia⟩
   rintro⟨H,I⟩ b ⟨g,rfl,_⟩;simp only at g;subst g;exact aAb q
end
def kE{α:Type}{M:Model}{A:cf}{E:F7}{s:ba}{Q:α->ba->Prop}{c:Prop}[Decidable c]{a b:Sem α}(d:c->a9 M A a Q E s)(e:¬c->a9 M A b Q E s):a9 M A (if c then a else b) Q E s:=by
 by_cases h:c
 .rw[h9 h];exact d h
 rw[ia h];exact e h
def gq{M:Model}{A:cf}{E:F7}{s:ba}{Q:yB}{x:au}{d:D}(k:HV s.heap x d)(l:G4 d<8)(f:List au)(n:∀y∈f,∃e,HV s.heap y e/\G4 e<8)(q:Q false s):a9 M A (searchCouldBeSeen x f) Q E s:=by
 unfold searchCouldBeSeen;refine aAa ?_;refine aCy _ (λrest r a=>r.1=none/\a=s/\∀y∈rest,y∈f) _ ?_ ?_ _ _ ⟨rfl,rfl,λy h=>h⟩
 .rintro y rest r a ⟨g,rfl,i⟩;obtain⟨e,m,b⟩:=n y (i y (by simp));dsimp only;refine kE (λ_=>?_) (λ_=>?_)
  .exact aAb ⟨rfl,rfl,λz j=>i z (aAe _ j)⟩
  refine aAa (jE 8 k l M A E a _ rfl ?_);simp only[aDz,aAv,if_false];refine aAa (jE 8 m b M A E a _ rfl ?_);simp only[aDz,aAv,if_false];refine aAa (gJ 8 k l M A E a _ rfl ?_);simp only[aAv,if_false];refine aAa (gJ 8 m b M A E a _ rfl ?_);simp only[aAv,if_false];exact aAb ⟨rfl,rfl,λz j=>i z (aAe _ j)⟩
 rintro⟨o,p⟩ a ⟨g,rfl,_⟩;simp only at g;subst g;exact aAb q
end
def EV(h:cq)(e:Int×au)(d:D):Prop:=HV h e.2 d/\e.1=m9 d
theorem I0{α β:Type}{F:α->β->Prop}:∀{l:List α}{m:List β}{i:Nat}{a:α},Paired F l m->l[i]?=some a->∃b,m[i]?=some b/\F a b
 |_,_,_,_,.nil,h=>by simp at h
 |_,_,0,_,.cons r _,h=>by simp at h;subst h;exact⟨_,rfl,r⟩
 |_,_,i+1,a,.cons _ t,h=>by obtain⟨b,d,e⟩:=I0 (i:=i) t (by simpa using h);exact⟨b,by simpa using d,e⟩
theorem dW{α β:Type}{F:α->β->Prop}:∀{l:List α}{m:List β}{i:Nat}{b:β},Paired F l m->m[i]?=some b->∃a,l[i]?=some a/\F a b
 |_,_,_,_,.nil,h=>by simp at h
 |_,_,0,_,.cons r _,h=>by simp at h;subst h;exact⟨_,rfl,r⟩
 |_,_,i+1,a,.cons _ t,h=>by obtain⟨b,d,e⟩:=dW (i:=i) t (by simpa using h);exact⟨b,by simpa using d,e⟩
theorem iJ{α β:Type}{F:α->β->Prop}:∀{l:List α}{m:List β},Paired F l m->l.length=m.length
 |_,_,.nil=>rfl
 |_,_,.cons _ t=>by simp[iJ t]
section
variable{es:Array (Int×au)}
def iX(K:ST.SOk t es.toList):t.fits es.size=true:=by
 have a:=K.len;have d:=K.room;have b:=K.tab.nod;unfold aGs SetTable.fill;rw[b];simp at a⊢
 lia
theorem mQ(ho:s.heap.get? S=some o)(hd:o.data=.set es ep t)(K:ST.SOk t es.toList)(B:t.mask%2=1)(P:Paired (EV s.heap) es.toList ds)(O:HV s.heap (.ref x) (.tup Y))(C:G4 (.tup Y)<8)(yf:∀e∈ds,G4 e<8)(hT:∀e∈ds,∃H,e=.tup H)
  (hu:A.units+16<cz) (hf:ST.V7 t (m9 (.tup Y)) n0) {Q:SetFound->ba->Prop} (g:D.tup Y∈ds->Q (.there none) s) (b:D.tup Y∉ds->Q (.free (ST.l9 t.mask (m9 (.tup Y)) n0).j false) s):
  ∀(a n:Nat) (T:Option SetTable.Probe),T.getD (t.probeStart (m9 (.tup Y)))=ST.l9 t.mask (m9 (.tup Y)) n->n<=n0->n0-n<a->
   (∀m<n,∀(i:Nat),t.place[i]?=some (ST.l9 t.mask (m9 (.tup Y)) m).j->ds[i]?≠some (.tup Y))->a9 (be prog w) A (setSearchFrom S (.ref x) (m9 (.tup Y)) true a T) Q E s
 |0,n,T,_,_,h,_=>by lia
 |a+1,n,T,jm,hn,hfu,I=>by
  unfold setSearchFrom;refine aAa (aCl ho hd (iX K) ?_);dsimp only;refine kE (λz=>?_) (λ_=>?_)
  .unfold SetTable.gaveWay at z;simp at z;lia
  rw[jm];obtain⟨U,a1,a2,a3,a4⟩:=ST.MY K.tab (λi=>(es[i]?.map (·.1)).getD 0) (m9<|.tup Y) hf n hn;generalize hg:t.probe _ (m9<|.tup Y) (ST.l9 t.mask (m9<|.tup Y) n)=pm;rcases a4 with⟨en,e⟩|⟨ah,i,u,hh,e⟩
  .have ep:pm=_:=hg.symm.trans e;rw[ep];dsimp only;refine aAb (b λJ=>?_);obtain⟨i,u⟩:=aDt.mp J;obtain⟨⟨L,v⟩,he,h1,h2⟩:=dW P u;obtain⟨j,hj,qt⟩:=ST.VM K.len he;dsimp only at h2;have hr:=K.reach _ qt;dsimp only at hr;rw[h2]at hr;obtain⟨m,J,em⟩:=ST.Reach.before hf (by rw[<-aAE]at hj;exact aAx hj) hr;by_cases z:m<n
   .exact I m z i (by rw[em];exact hj) u
   obtain⟨f,cg,ag⟩:=a3 m (by lia) (by lia);have:f=i:=by have g:=ST.M2 K.tab cg;have b:=ST.M2 K.tab hj;rw[em]at g;rw[g]at b;injection b
   subst this;refine ag ?_;show(es[f]?.map (·.1)).getD 0=_;rw[<-aAE,he];exact h2
  have ep:pm=_:=hg.symm.trans e;rw[ep];dsimp only;have N:i<es.size:=by
   have:=(aCj.mp u).1;have h1:=K.len;simp at h1
   lia
  have l:es[i]?=some es[i]:=aAN N;obtain⟨di,d,L,q⟩:=I0 P (show es.toList[i]?=some es[i]by rw[aAE];exact l);obtain⟨H,rfl⟩:=hT di (aAx d);have go:a9 (be prog w) A (do
    let some (_,y):=es[i]?|unsupported "internal:set-entry"
    let equal<-fg [y] (eqBool y<|.ref x)
    let(es',_,t')<-setState S
    if true&&equal then return .there none
    let some same:=t'.sameMemory t.moves t.mask|unsupported "set.changed-during-lookup:is-the-new-block-at-the-old-address"
    let ZD<-match(if same then t'.slot (ST.l9 t.mask (m9<|.tup Y) U).j else .empty)with
     |.live f=>match es'[f]? with
      |some (_,y')=>do pure (if<-isSame y' y then some f else none)
      |none=>pure none
     |_=>pure none
    match ZD with
    |none=>rule "set.search.anew";setSearchFrom S (.ref x) (m9<|.tup Y) true a none
    |some f=>if equal then return .there (some f)else setSearchFrom S (.ref x) (m9<|.tup Y) true a (some<|ST.l9 t.mask (m9<|.tup Y)<|U+1)) Q E s:=by
   rw[l];generalize he:es[i]=en at*
   obtain⟨hn,y⟩:=en;dsimp only at L q⊢;refine aAa (aAW (HM L O (by have:=yf _ (aAx d);lia) prog w E _ ?_));refine aAa (aCl ho hd (iX K) ?_);dsimp only;cases hq:v5 (.tup H) (.tup Y)with
   |true=>rw[h9 (show(true&&true)=true from rfl)];have:D.tup H=.tup Y:=jK L.ok O.ok hq;rw[this]at d;exact aAb (g<|aAx d)
   |false=>
    rw[ia (by simp)];have hsm:t.sameMemory t.moves t.mask=some true:=by unfold SetTable.sameMemory;rw[h9 (by simp)]
    rw[hsm];dsimp only;rw[h9 rfl,ST.M2 K.tab u];dsimp only;rw[l];dsimp only;cases L with
    |tup p r=>
     refine aAa (wpAny_isSame_ref_self ?_);refine aAa (aAb ?_);rw[h9 rfl];dsimp only;rw[ia (by simp)];refine mQ ho hd K B P O C yf hT hu hf g b a (U+1) _ rfl (by lia) (by lia) λm J i2 zr hz=>?_;by_cases z:m<n
     .exact I m z i2 zr hz
     by_cases z2:m=U
     .subst z2;have:i2=i:=by have g:=ST.M2 K.tab zr;have b:=ST.M2 K.tab u;rw[g]at b;injection b
      subst this;rw[d]at hz;have:D.tup H=.tup Y:=Option.some.inj hz;rw[this,R7]at hq;cases hq
     obtain⟨f,cg,ag⟩:=a3 m (by lia) (by lia);have:f=i2:=by have g:=ST.M2 K.tab cg;have b:=ST.M2 K.tab zr;rw[g]at b;injection b
     subst this;obtain⟨⟨h0,v0⟩,he0,hv0,hh0⟩:=dW P hz;refine ag ?_;show(es[f]?.map (·.1)).getD 0=_;rw[<-aAE,he0];exact hh0
  refine kE (λ_=>?_) (λ_=>go);refine aAa (gq O C _ (λy hy=>?_) ?_)
  .obtain⟨e',ya,rfl⟩:=aAj.mp hy;rw[Array.toList_filter]at ya;have J:=(aAX.mp ya).1;obtain⟨k,hk⟩:=aDt.mp J;obtain⟨dk,hdk,hvk,_⟩:=I0 P hk;exact⟨dk,hvk,yf _ (aAx hdk)⟩
  rw[ia (by simp)];exact go
def wF(m n:Nat):Prop:=(m=7/\n<=4)\/(m=31/\n<=18)\/(m=127/\n<=76)
def wF.odd(h:wF m n):m%2=1:=by rcases h with⟨rfl,_⟩|⟨rfl,_⟩|⟨rfl,_⟩<;>rfl
def Keeps(h0 h:cq):Prop:=∀b o,h0.get? b=some o->h.get? b=some o
structure SetAt(L:Bool)(h0 h:Heap)(S:Addr)(ds:List D):Prop where
 ex:∃(o:Obj) (es:Array (Int×Value)) (ep:Nat) (t:SetTable),h.get? S=some o/\o.cls=.type "set"/\o.dict=none/\o.slots=#[]/\o.data=.set es ep t/\ST.SOk t es.toList/\wF t.mask es.size/\Paired (EV h0) es.toList ds/\t.led=L/\t.plain=true
 nd:ds.Nodup
def eF{α β:Type}{F:α->β->Prop}:∀{l b:List α}{m:List β},b.Perm l->Paired F l m->∃a,a.Perm m/\Paired F b a:=λ{l b m} p=>by
 induction p generalizing m with
 |nil=>intro h;exact⟨m,.refl _,h⟩
 |cons x _ f=>
  intro h;cases h with
  |cons r t=>obtain⟨a,g,i⟩:=f t;exact⟨_::a,g.cons _,.cons r i⟩
 |swap x y l=>
  intro h;cases h with
  |cons r t=>
   cases t with
   |cons j k=>exact⟨_,.swap _ _ _,.cons j (.cons r k)⟩
 |trans _ _ d e=>intro h;obtain⟨v,n,o⟩:=e h;obtain⟨q,s,u⟩:=d o;exact⟨q,s.trans n,u⟩
theorem dD{α β:Type}{F G:α->β->Prop}(i:∀a b,F a b->G a b):∀{l:List α}{m:List β},Paired F l m->Paired G l m
 |_,_,.nil=>.nil
 |_,_,.cons r t=>.cons (i _ _ r) (dD i t)
theorem rE{α β:Type}{F:α->β->Prop}{a:α}{b:β}(r:F a b):∀{l:List α}{m:List β} (p:Nat),Paired F l m->Paired F (l.take p++a::l.drop p) (m.take p++b::m.drop p)
 |_,_,0,h=>.cons r h
 |_,_,p+1,.nil=>.cons r .nil
 |_,_,p+1,.cons d t=>.cons d (rE r p t)
def OY{α:Type}(a:α)(l:List α)(p:Nat):(l.take p++a::l.drop p).Perm (a::l):=by have h:=List.perm_middle (a:=a) (l₁:=l.take p) (l₂:=l.drop p);rw[aFP]at h;exact h
def yD{α β:Type}{M:Model}{Q:α->ba->Prop}{c:Prop}[Decidable c]{a:Sem β}{k:β->Sem α}(b:β)(e:∀d:β->ba->Prop,d b s->a9 M A a d E s)(h:a9 M A (k b) Q E s):a9 M A (if c then a>>=k else pure b>>=k) Q E s:=
 kE (λ_=>aAa (e _ h)) (λ_=>aAa (aAb h))
def nA(h:cq)(S:bc)(f:Obj->Obj):Heap.SameBut S h (h.update S f):=⟨by simp[Heap.size_update],λb a=>aAF _ _ (aBY a)⟩
def uZ{h:cq}{S:bc}{o:Obj}{es es':Array (Int×au)}{ep:Nat}{t t':eR}(b:h.get? S=some o)(a:o.data=.set es ep t):(h.update S (aEz es' t')).get? S=some {o with data:=.set es' (ep+1) t'}:=by
 have e:aEz es' t' o={o with data:=.set es' (ep+1) t'}:=by obtain⟨c,d,f,g⟩:=o;cases f<;>simp at a;obtain⟨rfl,rfl,rfl⟩:=a;rfl
 rw[aBo _ b (by rw[e];rfl),e]
def gx{L:Bool}{h0:cq}{Q:yB}(hS:SetAt L h0 s.heap S ds)(kp:Keeps h0 s.heap)(B:HV h0 (.ref x) (.tup Y))(C:G4 (.tup Y)<8)(yf:∀e∈ds,G4 e<8)(hT:∀e∈ds,∃ys,e=.tup ys)(hu:A.units+128<cz)(hn:ds.length<76)
  (q1:D.tup Y∈ds->∀tk,s.toks<=tk->Q false {s with toks:=tk})
  (q2:D.tup Y∉ds->∀h' tk av,s.toks<=tk->Heap.SameBut S s.heap h'->SetAt L h0 h' S av->av.Perm (.tup Y::ds)->Q true {s with heap:=h',toks:=tk}):a9 (be prog w) A (setAdd S (.ref x)) Q E s:=by
 obtain⟨⟨o,es,ep,t,H,hc,zu,I,J,K,mk,P0,lp0⟩,nd⟩:=hS;have hx:HV s.heap (.ref x) (.tup Y):=B.keeps λb o e _=>kp b o e;have P:Paired (EV s.heap) es.toList ds:=dD (λe d r=>⟨r.1.keeps λb o e _=>kp b o e,r.2⟩) P0;have gu:es.size=ds.length:=by have:=iJ P;simpa using this
 unfold setAdd;refine aAW (aAa (YZ hx A E s _ rfl (by lia) λtk xl=>?_));unfold setAddHashed setAddHashedIn;refine aAW (aAa<|aCl (s:={s with toks:=tk}) H J (iX K) ?_);dsimp only;rw[show byScan (.ref x) es=false from rfl];simp only[aAv,if_false];obtain⟨n0,hf⟩:=ST.EO K.full K.room (m9<|.tup Y);refine aAa (mQ (s:={s with toks:=tk}) (n0:=n0) H J K mk.odd P hx C yf hT (by lia) hf (λn=>?_) (λn=>?_) 100000 0 none rfl (aAY _) ?_ (λm n=>by lia))
 .dsimp only;exact aAb (q1 n tk xl)
 .dsimp only;refine aAa (aCl (s:={s with toks:=tk}) H J (iX K) ?_);dsimp only;refine yD true (λU q=>rJ 8 hx C _ _ _ _ _ rfl q) ?_;rw[h9 rfl];have ph:t.place.size+1<=t.mask:=by have:=K.len;simp at this;rcases mk with⟨a,k⟩|⟨a,k⟩|⟨a,k⟩<;>lia
  have p:=ST.vk K (x:=.ref x) hf ph;have el:=ST.fX es (t.put (ST.l9 t.mask (m9<|.tup Y) n0).j).2 (m9 (.tup Y),aDH x);have lp:(t.put (ST.l9 t.mask (m9<|.tup Y) n0).j).1.led=L/\(t.put (ST.l9 t.mask (m9<|.tup Y) n0).j).1.plain=true:=lp0;have em:(t.put (ST.l9 t.mask (m9<|.tup Y) n0).j).1.mask=t.mask:=rfl;rw[<-el]at p;have N:Paired (EV h0) (aGC es (t.put (ST.l9 t.mask (m9<|.tup Y) n0).j).2 (m9 (.tup Y),aDH x)).toList (ds.take (t.put (ST.l9 t.mask (m9<|.tup Y) n0).j).2++.tup Y::ds.drop (t.put (ST.l9 t.mask (m9<|.tup Y) n0).j).2):=by rw[el];exact rE ⟨B,rfl⟩ _ P0
  have O:=OY (D.tup Y) ds (t.put (ST.l9 t.mask (m9<|.tup Y) n0).j).2;generalize hds2:ds.take (t.put (ST.l9 t.mask (m9<|.tup Y) n0).j).2++.tup Y::ds.drop (t.put (ST.l9 t.mask (m9<|.tup Y) n0).j).2=uc at N O;generalize hes2:aGC es (t.put (ST.l9 t.mask (m9<|.tup Y) n0).j).2 (m9 (.tup Y),aDH x)=h at p N⊢;generalize ht2:(t.put (ST.l9 t.mask (m9<|.tup Y) n0).j).1=g at p em lp⊢;have ug:uc.Nodup:=O.nodup_iff.mpr (aAH.mpr ⟨n,nd⟩);have i:h.size=es.size+1:=by
   have h1:=iJ N;have h2:=O.length_eq;simp at h1 h2
   lia
  have bu:h.size<=sizeLine:=by rw[i,aFt];lia
  refine aAa (wpAny_storeSet_of (s:={s with toks:=tk}) H J ?_ bu);have lg:=uZ (es':=h) (t':=g) H J;have T:=nA s.heap S (aEz h g);have l:g.fill=h.size:=by have h1:=p.len;have h2:=p.tab.nod;unfold SetTable.fill;rw[h2];simp at h1⊢;lia
  refine kE (λxm=>?_) (λxm=>?_)
  .
   have qu:g.fill*5>=g.mask*3:=by
    have:g.tooFull=true:=by simpa using xm
    simpa[aGI]using this
   rw[l,em,i]at qu;obtain⟨M,hM,hM1,u⟩:∃M,SetTable.sizeAbove (SetTable.grown<|es.size+1)=M+1/\ST.nF (M+1)/\wF M (es.size+1):=by
    rcases mk with⟨a,k⟩|⟨a,k⟩|⟨a,k⟩
    .have:es.size=4:=by lia
     rw[this];exact⟨31,by decide,ST.dz,.inr (.inl ⟨rfl,by lia⟩)⟩
    .have:es.size=18:=by lia
     rw[this];exact⟨127,by decide,ST.WZ,.inr (.inr ⟨rfl,by lia⟩)⟩
    lia
   unfold setRelay;refine aAa (aAa<|aCl (s:={s with heap:=s.heap.update S (aEz h g),toks:=tk}) lg rfl (iX p) ?_);dsimp only;rw[hM];refine kE (λz=>?_) (λ_=>?_)
   .exfalso;rcases u with⟨a,_⟩|⟨a,_⟩|⟨a,_⟩<;>(subst a;exact absurd z (by rw[aFt];decide))
   obtain⟨y,f,r1,r2,r3,r4,r5,r6,r7,r8,r9⟩:=ST.OR (finger:=g.finger) (moves:=g.movedTo M) (led:=g.led) (plain:=g.plain) hM1 h (by rw[i];rcases u with⟨a,k⟩|⟨a,k⟩|⟨a,k⟩<;>lia);have er:g.relaid (h.map (·.1)) (SetTable.grown<|es.size+1)=some (y,f):=by unfold SetTable.relaid;rw[hM];exact r1
   rw[er];have hre:∀{U:Array (Int×au)×eR->ba->Prop}{s':ba},U (f.filterMap (h[·]?),y) s'->a9 (be prog w) A (do
     let es':=f.filterMap (h[·]?)
     if es'.size !=h.size then unsupported "internal:set-table-lost-an-element"
     pure (es',y)) U E s':=λ{U s'} qq=>by
    dsimp only;rw[ia (by simp[r2])];exact aAb qq
   refine aAa (hre ?_);dsimp only;generalize hes3:f.filterMap (h[·]?)=v at r2 r3 r4⊢;refine wpAny_storeSet_of (s:={s with heap:=s.heap.update S (aEz h g),toks:=tk}) lg rfl ?_ (by rw[r2];exact bu);refine aAb ?_;have ho3:=uZ (es':=v) (t':=y) lg rfl;have sb3:=nA (s.heap.update S<|aEz h g) S (aEz v y);obtain⟨ds3,p3,P5⟩:=eF r3 N;exact q2 n _ tk ds3 xl (T.trans sb3) ⟨⟨_,v,_,y,ho3,hc,zu,I,rfl,r4,by rw[r5,r2,i];exact u,P5,by rw[r7];exact lp.1,by rw[r8];exact lp.2⟩,p3.nodup_iff.mpr ug⟩ (p3.trans O)
  refine aAb ?_;refine q2 n _ tk uc xl T ⟨⟨_,h,_,g,lg,hc,zu,I,rfl,p,?_,N,lp⟩,ug⟩ O;have qu:¬g.fill*5>=g.mask*3:=λz=>xm (by simp[aGI,z]);rw[l,em,i]at qu;rw[em,i];rcases mk with⟨a,k⟩|⟨a,k⟩|⟨a,k⟩
  .exact .inl ⟨a,by lia⟩
  .exact .inr (.inl ⟨a,by lia⟩)
  exact .inr (.inr ⟨a,by lia⟩)
 have:=hf.1;have n:t.mask<=127:=by rcases mk with⟨a,_⟩|⟨a,_⟩|⟨a,_⟩<;>lia
 lia
end
section
variable{prog:bM}{w:cp}{A:cf}{R:Result->ba->Prop}{I:bc}{fp wr:List bc}{G:Array GenState->Array GenState->Prop}{n:Nat}{P:Nat->au->Prop}{St:Nat->ba->Prop}{h0:cq}
def YM(h0:cq)(v:au)(d:D):Prop:=∃a Y,v=.ref a/\d=.tup Y/\G4 d<8/\HV h0 v d
def MZ{L:Bool}(W:WalksS prog w A.in1 I fp wr G n P St)(S:bc)(qh:S∉fp)(hS0:h0.get? S=none)(hw0:∀b∈wr,h0.get? b=none)
  (val:Nat->D) (y:∀i v,P i v->YM h0 v (val i)) (hvd:∀i<n,G4 (val i)<8/\∃ys,val i=.tup ys) {U:List D} (hU:∀i<n,val i∈U) (f:U.length<=75) (hu:A.units+200<cz):
  ∀(k i:Nat) (s:ba),n-i=k->i<=n->St i s->Keeps h0 s.heap->(∃ds,SetAt L h0 s.heap S ds/\∀d,d∈ds↔∃j<i,val j=d)->
   (∀s',Moved (S::wr) G s s'->(∃ds,SetAt L h0 s'.heap S ds/\∀d,d∈ds↔∃j<n,val j=d)->R (.ok (.ret .none)) s')->
   gn (be prog w) A (.builtin "set.update.loop" ⟨[.ref S,.ref I],[]⟩) R s:=by
 have B:S∉wr:=λh=>qh (W.sub _ h);have ki:∀b∈wr,b∈S::wr:=λb f=>aAe _ f;intro k;induction k with
 |zero=>
  intro i s hk hi jm C hS O;have Q:i=n:=by omega
  subst Q;refine aBQ F.entry_set_update_loop ?_;rw[aBs F.plain_set_update_loop _];show a9 _ A.in1 (fh (.ref I)>>=_) _ _ s;refine aAa (W.done s _ _ jm λs' l=>?_);show a9 _ A.in1 (ret Value.none) _ _ s';refine aAb (O s' (l.mono ki) ?_);obtain⟨ds,⟨⟨o,es,ep,t,ho,r⟩,T⟩,p⟩:=hS;exact⟨ds,⟨⟨o,es,ep,t,l.heap S _ B ho,r⟩,T⟩,p⟩
 |succ k ih=>
  intro i s hk hi jm C hS O;have ah:i<n:=by omega
  refine aBQ F.entry_set_update_loop ?_;rw[aBs F.plain_set_update_loop _];show a9 _ A.in1 (fh (.ref I)>>=_) _ _ s;refine aAa (W.item i s _ _ ah jm λv s' hP lu l=>?_);obtain⟨ds,⟨⟨o,es,ep,t,ho,r⟩,T⟩,p⟩:=hS;have je:SetAt L h0 s'.heap S ds:=⟨⟨o,es,ep,t,l.heap S _ B ho,r⟩,T⟩;have q:Keeps h0 s'.heap:=λb ob e=>l.heap b ob (λz=>by rw[hw0 b z]at e;cases e) (C b ob e);obtain⟨a,Y,rfl,vh,E,hv⟩:=y i v hP;rw[vh]at E hv;show a9 _ A.in1 (fg [aDH a] (setAdd S<|.ref a)>>=_) _ _ s';have g:∀e∈ds,G4 e<8/\∃ys,e=.tup ys:=λe H=>by obtain⟨j,J,ej⟩:=(p e).mp H;rw[<-ej];exact hvd j (by omega)
  refine aAa (aAW (gx je q hv E (λe H=>(g e H).1) (λe H=>(g e H).2) (by rw[o6];omega) (by letI:DecidableEq D:=λa b=>aEa _;have:=ST.R0 (m:=U) T (λd hd=>by obtain⟨j,J,e⟩:=(p d).mp hd;rw[<-e];exact hU j (by omega));omega) (λQ tk N=>?_)<|λhni h' tk av N hsb hS2 pm=>?_))
  .
   refine aAb ⟨aCd F.plain_set_update_loop _,ih (i+1) _ (by omega) ah (W.frame _ s' _ _ lu N λb f o e=>e) q ⟨ds,je,λd=>?_⟩ λu oh xn=>?_⟩
   .rw[p];constructor
    .rintro⟨j,J,e⟩;exact⟨j,by omega,e⟩
    rintro⟨j,J,e⟩;by_cases z:j=i
    .subst z;rw[vh]at e;rw[e]at Q;exact(p d).mp Q
    exact⟨j,by omega,e⟩
   exact O u (aFv W.gtrans ((l.mono ki).then_heap N λb o f e=>e) oh) xn
  have x:∀b,b≠S->h'.get? b=s'.heap.get? b:=λb f=>hsb.2 b f;refine aAb ⟨aCd F.plain_set_update_loop _,ih (i+1) _ (by omega) ah (W.frame _ s' _ _ lu N λb f o e=>?_) (λb o e=>?_) ⟨av,hS2,λd=>?_⟩ λu oh xn=>?_⟩
  .rw[x b (λz:b=S=>qh (by rw[<-z];exact f))];exact e
  .show h'.get? b=some o;rw[x b (λz=>by subst z;rw[hS0]at e;cases e)];exact q b o e
  .rw[pm.mem_iff,aAc,p];constructor
   .rintro(rfl|⟨j,J,e⟩)
    .exact⟨i,by omega,vh⟩
    exact⟨j,by omega,e⟩
   rintro⟨j,J,e⟩;by_cases z:j=i
   .subst z;rw[vh]at e;exact .inl e.symm
   exact .inr ⟨j,by omega,e⟩
  refine O u (aFv W.gtrans ((l.mono ki).then_heap N λb o f e=>?_) oh) xn;rw[x b (λz:b=S=>f (by rw[z];exact aBm))];exact e
end
section
variable{prog:bM}{w:cp}{A:cf}{E:F7}{s:ba}
abbrev nM(led:Bool):Obj:={cls:=.type "set",dict:=none,data:=.set #[] 0 (.fresh 0 0 led)}
def JG(h0 h:cq)(S:bc)(led:Bool)(e:h.get? S=some (nM led)):SetAt led h0 h S []:=by
 refine⟨⟨_,#[],0,.fresh 0 0 led,e,rfl,rfl,rfl,rfl,⟨⟨λi k a=>?_,λj b=>?_,rfl⟩,ST.a0v,rfl,?_,λe d=>?_⟩,.inl ⟨rfl,aAY _⟩,.nil,rfl,rfl⟩,aCU⟩
 .exact absurd a (by show¬i<0;omega)
 .exact absurd b (by show¬j∈[];simp)
 .show 0<=7;omega
 exact absurd d (by show¬e∈[];simp)
def AC(a:au){Q₁:F7}(h:Q₁ (.ref s.heap.objs.size) {s with heap:=s.heap.push (nM (!w.params.followText "set-order"))}):
  gn (be prog w) A (.call (.builtin "set.__new__") ⟨[.type "set",a],[]⟩) (wants Q₁ E) s:=by
 refine codeAny_of_tree ?_;show a9 _ A.in1 (do checkBuiltinCall "set.__new__" ⟨[.type "set",a],[]⟩;again (.builtin "set.__new__" ⟨[.type "set",a],[]⟩)) _ _ s;refine aAa (wpAny_of_eq (F.newCall_set_1 a)<|aAb ⟨aCd F.plain_set_new _,aBQ F.entry_set_new ?_⟩);rw[aBs F.plain_set_new _];unfold Builtin.«set.__new__» Builtin.Frozenset.newClass;have b:=sub_set_self;obtain⟨e,g,d,f,os⟩:=s;dsimp only
 wp_walk
 refine aFC (aAb ?_);dsimp only;simp only[newObj];exact aAa (wpAny_alloc<|aAb<|aAb h)
def BR{h0:cq}(n:Keeps h0 s.heap){l:bc}{a:Array au}{val:Nat->D}{Q:F7}(hh:A.handled=none)(hl:s.heap.IsList l a)
  (p:∀(i:Nat) (v:au),a[i]?=some v->YM h0 v (val i)) (H:∀i<a.size,G4 (val i)<8/\∃ys,val i=.tup ys) {U:List D} (hU:∀i<a.size,val i∈U) (k:U.length<=75) (hu:A.units+300<cz)
  (h:∀(h':cq) (tk:Nat) (ds:List D),SetAt (!w.params.followText "set-order") h0 h' s.heap.objs.size ds->(∀d,d∈ds↔∃j<a.size,val j=d)->Keeps s.heap h'->Q (.ref s.heap.objs.size) {s with heap:=h',toks:=tk}):
  a9 (be prog w) A (call (.type "set") [.ref l]) Q E s:=by
 obtain⟨c,tl,hmro⟩:=PySem.F.called_set.mro;have I:=PySem.F.called_set.made;have ki:=PySem.F.called_set.sub;refine wpAny_call (codeAny_of_tree ?_);show a9 _ _ (callAny (.type "set") _) _ _ _;refine aAb ⟨Code.quiet_builtin _ (by decide+kernel),aBQ PySem.F.entry_type_call ?_⟩;rw[Around.under_plain (weight_type_call_type "set" [.ref l] []) rfl];have h1:=PySem.F.called_set.notType;have h2:=PySem.F.called_set.canCreate;have hct:=PySem.F.typeCall_set_1 (.ref l);repeat(any_goals(first|assumption|wp_step))
 refine aDR (AC (.ref l) (E:=E) (Q₁:=λob aa=>∃led:Bool,led=!w.params.followText "set-order"/\ob=.ref s.heap.objs.size/\aa={s with heap:=s.heap.push (nM led)}) ⟨_,rfl,rfl,rfl⟩) λr aa q=>?_;cases r with
 |error e=>exact q
 |ok fl=>
  cases fl with
  |next=>exact q.elim
  |brk=>exact q.elim
  |cont=>exact q.elim
  |ret ob=>
   obtain⟨led,eL,rfl,rfl⟩:=q;have hS:(s.heap.push<|nM led).get? s.heap.objs.size=some (nM led):=aAq _ rfl;have hT:Shared.TypeIs {s with heap:=s.heap.push (nM led)} (.ref s.heap.objs.size) "set":=⟨_,hS,rfl⟩;have hli:=PySem.F.called_set.init.lookup;have hbi:=PySem.F.called_set.init.bind (.ref s.heap.objs.size);repeat(any_goals(first|assumption|wp_step))
   refine aDR (codeAny_call_builtin (R:=wants (λr fb=>r=.none/\∃h' tk ds,fb={s with heap:=h',toks:=tk}/\SetAt (!w.params.followText "set-order") h0 h' s.heap.objs.size ds/\(∀d,d∈ds↔∃j<a.size,val j=d)/\Keeps s.heap h') E) PySem.F.called_set.init.plain PySem.F.entry_set_init<|check_set_init_1 hT ?_) λrf fb f=>?_
   .obtain⟨ol,t,yi,nl,u⟩:=hl;obtain⟨ocls,m,J,g⟩:=ol;simp only at yi u;subst yi;subst u;have x:(s.heap.push<|nM led).get? l=some {cls:=.type "list",dict:=m,data:=.seq a nl,slots:=g}:=aAd _ t;have hsls:=PySem.F.sub_list_set;have hslf:=PySem.F.sub_list_frozenset;have ag:(aCu "list"==aCu "dict")=false:=by decide
    have rh:(s.heap.push<|nM led).IsList l a:=⟨_,x,rfl,nl,rfl⟩;unfold Builtin.«set.__init__» noKeywords Builtin.Frozenset.updateFrom;generalize L:pyIter=PI
    wp_walk
    subst L;refine aDB rh (aAa<|wpAny_runValue ?_);have y:l<s.heap.objs.size:=aAg t;have N:A.in1.in1.in1.handled=none:=by simp[hh]
    have B:l≠(s.heap.push<|nM led).objs.size:=by rw[aBI];exact aAm (aBw y)
    have qh:s.heap.objs.size∉[(s.heap.push<|nM led).objs.size,l]:=by rw[aBI];simp only[aAc,aAR,or_false,not_or];exact⟨aAm (aDN _),aDv y⟩
    have qc:∀b,s.heap.objs.size<=b->h0.get? b=none:=λb k=>by
     cases e:h0.get? b with
     |none=>rfl
     |some o=>have:=n b o e;rw[aEt k]at this;cases this
    refine MZ (h0:=h0) ((Walks.list N _ l B a).toS) s.heap.objs.size qh (qc _<|aAl _) (λb k=>?hw) val p H hU k (by show A.units+1+1+200<cz;omega) (a.size-0) 0 _ (by omega) (aAY _) ⟨⟨_,aAq _ rfl,rfl,rfl⟩,(rh.push _)⟩ (λb o e=>aAd _ (aAd _<|n b o e)) ⟨[],JG _ _ _ led (aAd _ hS),λd=>?he⟩ ?hR
    case he=>exact⟨λz=>(by cases z),by rintro⟨j,hj,_⟩;exact(by omega)⟩
    case hw=>
     have jl:b=(s.heap.push<|nM led).objs.size:=by simpa using k
     subst jl;rw[aBI];exact qc _ (Nat.le_succ _)
    case hR=>
     rintro⟨h',g',d',yo,O⟩ C ⟨ds,T,Y⟩;have eg:g'=s.gens:=C.gens;have ed:d'=s.drawn:=C.drawn;have eo:O=s.os:=C.os;subst eg;subst ed;subst eo;refine aAb ?_;show a9 _ _ (ret Value.none) _ _ _;refine aAb ⟨rfl,h',yo,ds,rfl,(eL▸T),Y,λb o e=>?_⟩;have k:=aAg e;have yb:b≠(s.heap.push<|nM led).objs.size:=by rw[aBI];exact aAm (aBw k)
     exact C.heap b o (by simp only[aAc,aAR,or_false,not_or];exact⟨aAm k,yb⟩) (aAd _<|aAd _ e)
   cases rf with
   |error e=>exact f
   |ok fl0=>
    cases fl0 with
    |next=>exact f.elim
    |brk=>exact f.elim
    |cont=>exact f.elim
    |ret r=>
     obtain⟨rfl,h',tk,ds,rfl,T,Y,ju⟩:=f;repeat(any_goals(first|assumption|wp_step))
     exact h _ _ _ T Y ju
end
end
section
variable [Tabs]
end
end DL
namespace SI
open PySem
theorem HR{α:Type}(next:Nat->Nat):∀(a k:Nat) (left:List α) (b:Array α),left.length=a->(aGH next a k left b).toList.Perm (b.toList++left)
 |0,k,left,b,h=>by have:left=[]:=aEr h;subst this;simp[aGH]
 |a+1,k,left,b,h=>by
  unfold aGH;have e:0<left.length:=by lia
  have d:next k%left.length<left.length:=aFk _ e
  rw[aAi d];dsimp only;refine(HR next a (k+1) _ _ (by rw[List.length_eraseIdx_of_lt d];lia)).trans ?_;rw[Array.toList_push,aFp];refine List.Perm.append_left _ ?_;have:∀(l:List α) (i:Nat) (h:i<l.length),(l[i]::l.eraseIdx i).Perm l:=by
   intro l;induction l with
   |nil=>intro i h;simp at h
   |cons x l f=>
    intro i h;cases i with
    |zero=>simp
    |succ i=>
     have g:i<l.length:=by simpa using h
     rw[aFu,aFH];exact(List.Perm.swap _ _ _).trans ((f i g).cons _)
  exact this left _ d
def tU{α:Type}(next:Nat->Nat)(Y:Array α):(hV next Y).toList.Perm Y.toList:=by unfold hV;simpa using HR next Y.size 0 Y.toList #[] (by simp)
def walkL(w:cp)(S:bc)(es:Array (Int×au))(ep:Nat):List (Int×au):=if w.params.followText "set-order"=true then(hV (w.params.setOrder S ep) es).toList else es.toList
def walkL_perm(w:cp)(S:bc)(es:Array (Int×au))(ep:Nat):(walkL w S es ep).Perm es.toList:=by
 unfold walkL;split
 .exact tU _ _
 exact aGf _
def slotAt(w:cp)(t:eR):Nat->Nat
 |0=>0
 |i+1=>if w.params.followText "set-order"=true then 0 else t.place.getD i 0+1
def Q1(h:cq)(w:cp)(it S:bc)(t:eR)(i n ep:Nat):Prop:=
 h.get? it=some {cls:=.type "set_iterator",dict:=none,data:=.fields #[ez (slotAt w t i),ez i,.ref S,ez n,ez ep],slots:=#[]}
def IsSet(h:cq)(S:bc)(es:Array (Int×au))(ep:Nat)(t:eR):Prop:=∃o,h.get? S=some o/\o.cls=.type "set"/\o.data=.set es ep t
namespace F
def entry_set_iter:entryFor table "set.__iter__"=some Builtin.«frozenset.__iter__»:=entryFor_alias (id':= "frozenset.__iter__") (by kernel_rfl) rfl (by decide+kernel) (by kernel_rfl)
def slot_seti_next:Slot "set_iterator" "__next__" "set_iterator.__next__":=
 .of (owner:= "set_iterator") (n:= "__next__") (by rw[aDx,aCs];kernel_rfl) (by decide+kernel) (by decide+kernel) (by decide+kernel)
  (by first|exact .inl (by decide+kernel)|exact .inr (by decide+kernel)) (by rw[aFd];kernel_rfl)
def entry_seti_next:entryFor table "set_iterator.__next__"=some Builtin.«set_iterator.__next__»:=entryFor_of_tree (by kernel_rfl)
def args_seti_next(a:au):argsOk "set_iterator.__next__" ⟨[a],[]⟩:=by unfold argsOk;kernel_rfl
def slot_seti_iter:Slot "set_iterator" "__iter__" "set_iterator.__iter__":=
 .of (owner:= "set_iterator") (n:= "__iter__") (by rw[aDx,aCs];kernel_rfl) (by decide+kernel) (by decide+kernel) (by decide+kernel)
  (by first|exact .inl (by decide+kernel)|exact .inr (by decide+kernel)) (by rw[aFd];kernel_rfl)
def entry_seti_iter:entryFor table "set_iterator.__iter__"=some Builtin.«dict_keyiterator.__iter__»:=entryFor_alias (id':= "dict_keyiterator.__iter__") (by kernel_rfl) rfl (by decide+kernel) (by kernel_rfl)
def args_seti_iter(a:au):argsOk "set_iterator.__iter__" ⟨[a],[]⟩:=by unfold argsOk;kernel_rfl
end F
section
variable{s:ba}{t:eR}
def JM{α:Type}{M:Model}{Q:α->ba->Prop}{c:Prop}[Decidable c]{a b:Sem α}(h:c)(k:a9 M A a Q E s):a9 M A (if c then a else b) Q E s:=by rw[h9 h];exact k
def yU(es:Array (Int×au))(a:t.plain=true):(!t.plain&&decide (es.size>1))=false:=by rw[a];rfl
def EJ{Q:yB}(h:Q (w.params.followText "set-order") s):a9 (be prog w) A setsByText Q E s:=by unfold setsByText;exact aAa (aFC<|aAb h)
def RO{Q:F7}(f:IsSet s.heap S es ep t)(b:t.fits es.size=true)(g:t.plain=true)
  (h:Q (.ref s.heap.objs.size) {s with heap:=s.heap.push {cls:=.type "set_iterator",dict:=none,data:=.fields #[ez (slotAt w t 0),ez (0:Nat),.ref S,ez es.size,ez ep],slots:=#[]}}):
  a9 (be prog w) A (pyIter (.ref S)) Q E s:=by
 obtain⟨o,a,i,d⟩:=f;have e:s.TypeIs (.ref S) "set":=⟨o,a,i⟩;refine aFq e PySem.F.slot_set_iter (aBB PySem.F.slot_set_iter e F.entry_set_iter ?_ (PySem.F.args_set_iter_1 _));unfold Builtin.«frozenset.__iter__»;show a9 _ _ (aFw "__iter__" ⟨[.ref S],[]⟩>>=_) _ _ s;have j:aFw "__iter__" ⟨[.ref S],[]⟩=pure S:=rfl;rw[j];refine aAa (aAb ?_);unfold Builtin.Frozenset.sizeOf;refine aAa (aAa<|aEG a d b<|aAb ?_);refine aAa ?_;unfold setDrawn;refine aAa (aCl a d b<|aAa<|EJ<|aAb ?_);show a9 _ _ (if(!w.params.followText "set-order"&&(!t.plain&&decide (es.size>1)))=true then _ else _) _ _ s;rw[yU es g,aGh];simp only[aAv,if_false];refine aAa (aAb<|aAa<|wpAny_setEpoch_of a d b ?_);refine aAa (aBG<|aAb ⟨_,rfl, "set_iterator",_,⟨_,aAq _ rfl,rfl⟩,F.slot_seti_next.lookup,?_⟩);simpa[slotAt]using h
def FJ(a:ST.JO Y):SetTable.below Y 0=0:=by
 obtain⟨d,b,e⟩:=ST.bW a 0;by_cases h:SetTable.below Y 0=0
 .exact h
 exact absurd (b 0 (by lia) (by lia)) (by lia)
def FE(b:ST.JO Y)(a:i<Y.size):SetTable.below Y (Y.getD i 0+1)=i+1:=by
 have e:Y.getD i 0=Y[i]:=by simp[aFj,a]
 rw[e];obtain⟨h,f,g⟩:=ST.bW b (Y[i]+1);rcases Nat.lt_trichotomy (SetTable.below Y<|Y[i]+1) (i+1)with q|q|q
 .have:=g i a (by lia);lia
 .exact q
 have d:i+1<Y.size:=by lia
 have:=f (i+1) d q;have:=b i (i+1) a d (by lia)
 lia
def CN(t:eR)(a:ST.JO t.place)(b:¬w.params.followText "set-order"=true)(d:i<=t.place.size):SetTable.below t.place (slotAt w t i)=i:=by
 cases i with
 |zero=>exact FJ a
 |succ i=>show SetTable.below t.place (if w.params.followText "set-order"=true then 0 else t.place.getD i 0+1)=i+1;rw[ia b];exact FE a (by lia)
def yC{Q:Option (au×Nat)->ba->Prop}(p:IsSet s.heap S es ep t)(d:t.fits es.size=true)(q:t.plain=true)(r:¬w.params.followText "set-order"=true->t.led=true)(u:ST.JO t.place)(C:i<=es.size)(f:∀e,(walkL w S es ep)[i]?=some e->Q (some (e.2,slotAt w t (i+1))) s)(k:i=es.size->Q none s):a9 (be prog w) A (setNext S (slotAt w t i) i ep) Q E s:=by
 obtain⟨o,l,H,m⟩:=p;have I:t.place.size=es.size:=by simp only[aGs,aAQ,beq_iff_eq,decide_eq_true_eq]at d;exact d.1
 unfold setNext;refine aAa (aCl l m d ?_);refine aAa (EJ ?_);by_cases a:w.params.followText "set-order"=true
 .rw[h9 a,ia (by simp)];unfold setWalk;refine aAa (aAa<|aCl l m d<|aAa<|EJ ?_);rw[h9 a];refine aAa (aFC<|aAb ?_);refine aAb ?_;have h:(walkL w S es ep)=(hV (w.params.setOrder S ep) es).toList:=by unfold walkL;rw[h9 a]
  have j:slotAt w t i=slotAt w t (i+1):=by
   cases i with
   |zero=>show 0=if w.params.followText "set-order"=true then 0 else _;rw[h9 a]
   |succ i=>show(if w.params.followText "set-order"=true then 0 else _)=if w.params.followText "set-order"=true then 0 else _;rw[h9 a,h9 a]
  rw[h,aAE]at f;show Q (((hV (w.params.setOrder S ep) es)[i]?).map λe=>(e.2,slotAt w t i)) s;cases e:(hV (w.params.setOrder S ep) es)[i]? with
  |some x=>rw[j];exact f x e
  |none=>
   have n:(hV (w.params.setOrder S ep) es).size=es.size:=by have:=(tU (w.params.setOrder S ep) es).length_eq;simpa using this
   have:=Array.getElem?_eq_none_iff.mp e;exact k (by lia)
 rw[ia a];have v:¬(!t.plain&&decide (es.size>1))=true:=by rw[q];simp
 show a9 _ _ (if(!t.plain&&decide (es.size>1))=true then _ else _) _ _ s;rw[ia v];show a9 _ _ ((if(!t.led&&!es.isEmpty)=true then _ else _)>>=_) _ _ s;rw[ia (by rw[r a];simp)];refine aAa (aAb<|aAb ?_);rw[CN t u a (by lia)];have h:(walkL w S es ep)=es.toList:=by unfold walkL;rw[ia a]
 rw[h,aAE]at f;by_cases y:i<es.size
 .have g:es[i]?=some es[i]:=aAN y;have b:i<t.place.size:=by lia
  have z:t.place[i]?=some t.place[i]:=aAN b;have:=f _ g;rw[g,z];have B:slotAt w t (i+1)=t.place[i]+1:=by show(if w.params.followText "set-order"=true then 0 else t.place.getD i 0+1)=_;rw[ia a];simp[aFj,b]
  rw[B]at this;exact this
 have g:es[i]?=none:=aCP (by lia);rw[g];exact k (by lia)
def S5(h:Q1 s.heap w it S t i n ep):s.TypeIs (.ref it) "set_iterator":=⟨_,h,rfl⟩
def TF{Q:Option au->ba->Prop}(a:Q1 s.heap w it S t i es.size ep)(b:IsSet s.heap S es ep t)(d:t.fits es.size=true)(j:t.plain=true)(k:¬w.params.followText "set-order"=true->t.led=true)(l:ST.JO t.place)(m:i<es.size)(h:∀e h',(walkL w S es ep)[i]?=some e->Q1 h' w it S t (i+1) es.size ep->Heap.SameBut it s.heap h'->Q (some e.2) {s with heap:=h'}):a9 (be prog w) A (fh (.ref it)) Q E s:=by
 have f:=S5 a;obtain⟨o,n,z,p⟩:=id b;unfold fh;refine aAa (aEw (aCD (name:=aDw "__next__") f F.slot_seti_next
  (aBB F.slot_seti_next f F.entry_seti_next ?_ (F.args_seti_next _))))
 refine aAa (aAb ?_);refine aAa (wpAny_fieldsOf a rfl ?_);show a9 _ _ (setEntries S>>=_) _ _ s;refine aAa (aEG n p d ?_);rw[ia (by simp)];show a9 _ _ (setNext S (aEH (slotAt w t i:Int)) (aEH (i:Int)) (aEH (ep:Int))>>=_) _ _ s;rw[aBH,aBH,aBH];refine aAa (yC b d j k l (aDu m) (λe q=>?_) λe=>by lia);show a9 _ _ (setField (.ref it) 0 (ez<|slotAt w t<|i+1)>>=_) _ _ s;refine aAa (aCe a (by simp) λr u v=>?_);show a9 _ _ (setField (.ref it) 1 (ez<|(i:Int)+1)>>=_) _ _ _;refine aAa (aCe (s:={s with heap:=r}) u (by simp) λg x y=>?_);refine aAb ⟨_,rfl,aAb (h e g q ?_ (v.trans y))⟩;have:g.get? it=some _:=x;unfold Q1;rw[this];simp
def XA{Q:Option au->ba->Prop}(k:A.handled=none)(d:Q1 s.heap w it S t es.size es.size ep)(f:IsSet s.heap S es ep t)(g:t.fits es.size=true)(l:t.plain=true)(n:¬w.params.followText "set-order"=true->t.led=true)(p:ST.JO t.place)(h:∀h',Heap.ExtBut it s.heap h'->Q none {s with heap:=h'}):a9 (be prog w) A (fh (.ref it)) Q E s:=by
 have i:=S5 d;obtain⟨o,q,x,r⟩:=id f;unfold fh;refine aAa (aEw (aCD (name:=aDw "__next__") i F.slot_seti_next
  (aBB F.slot_seti_next i F.entry_seti_next ?_ (F.args_seti_next _))))
 refine aAa (aAb ?_);refine aAa (wpAny_fieldsOf d rfl ?_);show a9 _ _ (setEntries S>>=_) _ _ s;refine aAa (aEG q r g ?_);rw[ia (by simp)];show a9 _ _ (setNext S (aEH (slotAt w t es.size:Int)) (aEH (es.size:Int)) (aEH (ep:Int))>>=_) _ _ s;rw[aBH,aBH,aBH];refine aAa (yC f g l n p (aAl _) (λe u=>?_) λ_=>?_)
 .have v:=(walkL_perm w S es ep).length_eq;have j:=(aAC.mp u).1;rw[v]at j;simp at j
 show a9 _ _ (setField (.ref it) 2 .none>>=_) _ _ s;refine aAa (wpAny_setField d rfl (by simp) ?_);show a9 _ _ (newExc (.type "StopIteration") []>>=_) _ _ _;refine aAa ?_;simp only[newExc,newTuple];refine aAa (aBG ?_ (by size_fits));refine aAa (m:=firstArgMember _ _) (wpAny_of_eq (a:=Value.none) (by first|rfl|(simp only[firstArgMember];rfl)) ?_);refine aBG ?_ (by size_fits);simp only[raiseNew];refine aAa (wpAny_handled ?_);rw[show A.in1.handled=none from k];refine aAa (aAb<|wpAny_throw ?_);refine aAa (aDO (T:= "StopIteration") (b:=true) ⟨_,aAq _ rfl,rfl⟩ isSubtype_stop ?_);exact aAb (h _<|((Heap.SameBut.update ..).extBut.push _).push _)
def cZ(x:IsSet h S es ep t)(e:∀o,h.get? S=some o->h'.get? S=some o):IsSet h' S es ep t:=let⟨o,a,r⟩:=x;⟨o,e o a,r⟩
end
section
def JE(p:A.handled=none)(I S:bc)(r:S≠I)(g:t.fits es.size=true)(j:t.plain=true)(k:¬w.params.followText "set-order"=true->t.led=true)(l:ST.JO t.place):
  Walks prog w A I [I,S] [I] es.size (λi v=>∃e,(walkL w S es ep)[i]?=some e/\v=e.2) (λi h=>Q1 h w I S t i es.size ep/\IsSet h S es ep t)where
 sub:=λb a=>by simp at a;simp[a]
 frame:=λ_ _ _ st m=>⟨m I (by simp) _ st.1,cZ st.2 λo e=>m S (by simp) o e⟩
 item:=λi s Q E u st d=>TF st.1 st.2 g j k l u λe f x y n=>d e.2 f s.toks ⟨e,x,rfl⟩ ⟨y,cZ st.2 λo q=>(n.2 S r).trans q⟩ λb o a q=>(n.2 b (λz=>a (by simp[z]))).trans q
 done:=λs Q E st d=>XA p st.1 st.2 g j k l λf B=>d f s.toks λb o a q=>B b o (λz=>a (by simp[z])) q
 self:=λi s Q E st d=>by refine aFq (S5 st.1) F.slot_seti_iter (aBB F.slot_seti_iter (S5 st.1) F.entry_seti_iter ?_ (F.args_seti_iter _));refine aAa (aAb<|aAb ⟨_,rfl, "set_iterator",_,S5 st.1,F.slot_seti_next.lookup,d⟩)
def collect_set{Q:List au->ba->Prop}(hh:A.handled=none)(hS:IsSet s.heap S es ep t)(hf:t.fits es.size=true)(hp:t.plain=true)(hl:¬w.params.followText "set-order"=true->t.led=true)(ha:ST.JO t.place)(hn:es.size<=sizeLine)
  (hQ:∀h' tk,(∀b o,s.heap.get? b=some o->h'.get? b=some o)->Q ((walkL w S es ep).map (·.2)) {s with heap:=h',toks:=tk}):a9 (be prog w) A (collect (.ref S)) Q E s:=by
 obtain⟨I,f,j,hdS⟩:=id hS;have hT:s.TypeIs (.ref S) "set":=⟨I,f,j⟩;have C:S<s.heap.objs.size:=aAg f;unfold collect;refine aAa (wpAny_runValue<|aBQ PySem.F.entry_proto_collect ?_);rw[aBs PySem.F.plain_proto_collect _];show a9 _ A.in1 (newList []>>=λl=>again (.builtin "list.__iadd__" ⟨[l,.ref S],[]⟩)) _ _ s;refine aAa (aBG ?_);refine aAb ⟨aCd PySem.F.plain_list_iadd _,aBQ PySem.F.entry_list_iadd ?_⟩;rw[aBs PySem.F.plain_list_iadd _];generalize k:s.heap.push {cls:=.type "list",data:=.seq ([]:List au).toArray}=a;have g:∀b o,s.heap.get? b=some o->a.get? b=some o:=λb o e=>by rw[<-k];exact aAd _ e
 have d:a.objs.size=s.heap.objs.size+1:=by rw[<-k,aBI]
 have J:a.get? s.heap.objs.size=some {cls:=.type "list",data:=.seq ([]:List au).toArray}:=by rw[<-k];exact aAq _ rfl
 have p:IsSet a S es ep t:=cZ hS λo e=>g S o e;have L:Shared.TypeIs {s with heap:=a} (.ref S) "set":=⟨I,g _ _ f,j⟩;have q:aDe (.ref s.heap.objs.size) (.ref S)=false:=by simp[aDe,aDv C]
 show a9 _ A.in1 (aCf (.ref s.heap.objs.size) (.ref S)<|.ref s.heap.objs.size) _ _ _;unfold aCf;refine aAa (aDS L ?_);rw[ia (by rw[q];decide)];refine aAa (RO (s:={s with heap:=a}) p hf hp ?_);refine aAa (aAW ?_);generalize r:a.push {cls:=.type "set_iterator",dict:=none,data:=.fields #[ez (slotAt w t 0),ez (0:Nat),.ref S,ez es.size,ez ep],slots:=#[]}=n;have h:∀b o,a.get? b=some o->n.get? b=some o:=λb o e=>by rw[<-r];exact aAd _ e
 have N:Q1 n w a.objs.size S t 0 es.size ep:=by rw[<-r];exact aAq _ rfl
 have O:IsSet n S es ep t:=cZ p λo e=>h S o e;have m:Shared.TypeIs {s with heap:=n} (.ref S) "set":=⟨I,h _ _ (g _ _ f),j⟩;have u:=h _ _ J;unfold aCM;refine aAa (aBC m PySem.F.slot_set_len.lookup ?_)
 (generalize hid:("set.__len__":String)=v;(fail_if_success (clear hid v));wp_delta;rw[show splitId v=some ("set", "__len__")from by subst hid;decide+kernel];subst hid)
 refine aAa (aDO (b:=true) m (by rw[aFd];kernel_rfl) ?_);rw[ia (by decide)];refine JM (by decide+kernel) ?_
 refine aAa (aDS m<|aAb ?_);rw[h9 (by decide)];show a9 _ A.in1 (rule "list.extend.makes-room">>=λ_=>aFI (.ref s.heap.objs.size)>>=λ_=>again (.builtin "list.extend.loop" ⟨[.ref s.heap.objs.size,.ref a.objs.size,.ref s.heap.objs.size],[]⟩)) _ _ _
 refine aAa (aDy ?_);refine aAa ?_;show a9 _ A.in1 (gy s.heap.objs.size (·.push .none)>>=λ_=>gy s.heap.objs.size (·.pop)) _ _ _;refine aAa (aCg u rfl ?_);have x:=aBo (aBF (·.push Value.none)) u rfl;refine aCg x rfl ?_;have T:=aBo (aBF (·.pop)) x rfl;have U:∀b o,b≠s.heap.objs.size->n.get? b=some o->((n.update s.heap.objs.size (aBF (·.push Value.none))).update s.heap.objs.size (aBF (·.pop))).get? b=some o:=
  λb o y e=>(aAF _ _<|aBY y).trans ((aAF _ _<|aBY y).trans e)
 have z:a.objs.size≠s.heap.objs.size:=by rw[d];lia
 have W:=(JE (prog:=prog) (w:=w) (A:=A.in1) (by simp[hh]) a.objs.size S (by rw[d];exact aAm (aBw C)) (es:=es) (ep:=ep) (t:=t) hf hp hl ha).toS;refine aAb ⟨aCd PySem.F.plain_extend_loop _,codeAny_extend_loopS W hn _ (by simp only[aAc,aAR,or_false,not_or];exact⟨aBY z,aDv C⟩) _ es.size 0 _ _ _ rfl (aAY _) ⟨U _ _ z N,cZ O λo e=>U S o (aAm C) e⟩ T (ItemsOf.nil _) λB jo c' H je Y=>?_⟩;show a9 _ A (load s.heap.objs.size>>=_) _ _ B;refine aAa (wpAny_load je ?_);refine aAb ?_;have g0:B.gens=s.gens:=H.gens;have d0:B.drawn=s.drawn:=H.drawn;have o0:B.os=s.os:=H.os;have ea:jo.toList=(walkL w S es ep).map (·.2):=by
  have om:=(walkL_perm w S es ep).length_eq;apply aFl;intro i;rw[aAG,aAE];by_cases hi:i<es.size
  .have zr:i<jo.size:=by rw[Y.1];exact hi
   obtain⟨e,he,hv⟩:=Y.2 i _ (aAN zr);rw[he,aAN zr,hv];rfl
  rw[aCP (by rw[Y.1];lia),List.getElem?_eq_none (by rw[om];simp;lia)];rfl
 obtain⟨h',g',d',yo,os'⟩:=B;subst g0 d0 o0;rw[ea];refine hQ h' yo λb o e=>?_;have y:b≠s.heap.objs.size:=aAm (aAg e);have yb:b≠a.objs.size:=by rw[d];exact aAm (aBw<|aAg e)
 exact H.heap b o (by simp only[aAc,aAR,or_false,not_or];exact⟨y,yb⟩) (U b o y<|h _ _<|g _ _ e)
end
end SI
namespace DL
open PySem PySem.Spec L2
open PyProof.Rows hiding St
def OX:D->Bool
 |.int _=>true
 |_=>false
def cK:D->Bool
 |.tup Y=>!Y.isEmpty&&Y.all OX
 |_=>false
def intD:D->Int
 |.int i=>i
 |_=>0
def flat:D->List Int
 |.tup Y=>Y.map intD
 |_=>[]
theorem SJ:∀{Y:List D},Y.all OX=true->Y=(Y.map intD).map D.int
 |[],_=>rfl
 |x::Y,h=>by
  simp only[aGq,aAQ]at h;cases x with
  |int i=>show D.int i::Y=D.int i::(Y.map intD).map D.int;rw[<-SJ h.2]
  |_=>cases h.1
def gD(h:cK d=true):flat d≠[]/\d=.tup ((flat d).map .int):=by
 cases d with
 |tup Y=>simp only[cK,aAQ,Bool.not_eq_true',List.isEmpty_eq_false_iff]at h;refine⟨by simpa[flat]using h.1,?_⟩;show D.tup Y=D.tup ((Y.map intD).map D.int);rw[<-SJ h.2]
 |_=>cases h
def BB(h:cK d=true)(h':cK e=true)(q:flat d=flat e):d=e:=by rw[(gD h).2,(gD h').2,q]
theorem tQ:∀l:List Int,aO (l.map D.int)=true
 |[]=>rfl
 |i::l=>by show(true&&aO (l.map D.int))=true;rw[tQ l];rfl
def U9(h:cK d=true):rM d=true:=by rw[(gD h).2];exact tQ _
def IL(h:cK d=true):G4 d<8:=by
 rw[(gD h).2];have:∀l:List Int,A8 (l.map D.int)=0:=λl=>by
  induction l with
  |nil=>rfl
  |cons i l a=>show max 0 (A8<|l.map D.int)=0;rw[a];rfl
 show A8 _+1<8;rw[this];lia
def sH(d:D):List D->List D
 |[]=>[d]
 |x::Y=>if flat d=flat x then x::Y else if HT.lexLt (flat d) (flat x)=true then d::x::Y else x::sH d Y
def cJ(ds:List D):List D:=ds.foldr sH []
def UG(ds:List D):Prop:=ds.Pairwise λx y=>HT.lexLt (flat x) (flat y)=true
theorem jW:∀{Y:List D},e∈sH d Y->e=d\/e∈Y
 |[],h=>by rcases aAc.mp h with h|h;exact .inl h;cases h
 |x::Y,h=>by
  unfold sH at h;split at h
  .exact .inr h
  split at h
  .rcases aAc.mp h with h|h
   .exact .inl h
   exact .inr h
  rcases aAc.mp h with h|h
  .exact .inr (by rw[h];exact .head _)
  rcases jW h with h|h
  .exact .inl h
  exact .inr (.tail _ h)
theorem AJ:∀{Y:List D},e∈Y->e∈sH d Y
 |x::Y,h=>by
  unfold sH;split
  .exact h
  split
  .exact .tail _ h
  rcases aAc.mp h with h|h
  .rw[h];exact .head _
  exact .tail _ (AJ h)
theorem BD(a:cK d=true):∀{Y:List D},(∀x∈Y,cK x=true)->d∈sH d Y
 |[],_=>.head _
 |x::Y,h=>by
  unfold sH;split
  .rename_i q;rw[BB a (h x (.head _)) q];exact .head _
  split
  .exact .head _
  exact .tail _ (BD a λy b=>h y (.tail _ b))
theorem zI:∀{Y:List D},UG Y->UG (sH d Y)
 |[],_=>aDV _ _
 |x::Y,h=>by
  have b:=aAy.mp h;unfold sH;split
  .exact h
  rename_i ne;split
  .rename_i lt;refine aAy.mpr ⟨λy a=>?_,h⟩;rcases aAc.mp a with rfl|a
   .exact lt
   exact TS.lex_trans _ _ _ lt (b.1 y a)
  rename_i e;refine aAy.mpr ⟨λy a=>?_,zI b.2⟩;rcases jW a with rfl|a
  .cases q:HT.lexLt (flat x) (flat y)with
   |true=>rfl
   |false=>exact absurd (TS.lex_total _ _ (by simpa using e) q) ne
  exact b.1 y a
theorem fR:∀ds:List D,UG (cJ ds)
 |[]=>.nil
 |_::ds=>zI (fR ds)
theorem zZ:∀{ds:List D},(∀d∈ds,cK d=true)->∀d∈cJ ds,cK d=true
 |[],_,d,h=>by cases h
 |e::ds,h,d,hd=>by
  rcases jW hd with rfl|hd
  .exact h _ (.head _)
  exact zZ (λd hd=>h d (.tail _ hd)) d hd
theorem Q6:∀{ds:List D},(∀d∈ds,cK d=true)->∀d,d∈cJ ds↔d∈ds
 |[],_,d=>Iff.rfl
 |e::ds,h,d=>by
  have a:∀d∈ds,cK d=true:=λd b=>h d (.tail _ b);constructor
  .intro q;rcases jW q with rfl|q
   .exact .head _
   exact .tail _ ((Q6 a d).mp q)
  intro q;rcases aAc.mp q with rfl|q
  .exact BD (h _<|.head _) (zZ a)
  exact AJ ((Q6 a d).mpr q)
theorem pK:∀{Y b:List D},UG Y->UG b->(∀d,d∈Y↔d∈b)->Y=b
 |[],[],_,_,_=>rfl
 |[],y::b,_,_,h=>by have:=(h y).mpr (.head _);cases this
 |x::Y,[],_,_,h=>by have:=(h x).mp (.head _);cases this
 |x::Y,y::b,j,k,h=>by
  have e:=aAy.mp j;have f:=aAy.mp k;have a:∀d:D,HT.lexLt (flat d) (flat d)≠true:=λd q=>by rw[TS.lex_irrefl]at q;cases q
  have g:x=y:=by
   rcases aAc.mp ((h x).mp (.head _))with q|q
   .exact q
   rcases aAc.mp ((h y).mpr (.head _))with i|i
   .exact i.symm
   exact absurd (TS.lex_trans _ _ _ (f.1 x q)<|e.1 y i) (a y)
  subst g;congr 1;refine pK e.2 f.2 λd=>?_;constructor
  .intro q;rcases aAc.mp ((h d).mp (.tail _ q))with z|z
   .subst z;exact absurd (e.1 d q) (a d)
   exact z
  intro q;rcases aAc.mp ((h d).mpr (.tail _ q))with z|z
  .subst z;exact absurd (f.1 d q) (a d)
  exact z
def JJ(h:UG Y):Y.Nodup:=h.imp λ{x y} q z=>by subst z;rw[TS.lex_irrefl]at q;cases q
def ssR:D->R (List D)
 |.lst a=>if a.all cK=true/\(cJ a).length<=63 then .ok (cJ a)else .bad
 |_=>.bad
section
mutual
theorem dE(I:Inv X a σ H s):∀{v:V}{d:D}{u:au},Rep X.K H O v d->rM d=true->RelV v u->HV s.heap u d
 |_,_,_,.non,e,_=>by cases e
 |_,_,_,.bl,e,_=>by cases e
 |_,_,_,.str,e,_=>by cases e
 |_,_,_,.lst _ _ _,e,_=>by cases e
 |_,_,_,.dct _ _ _,e,_=>by cases e
 |_,_,_,.int,_,r=>by obtain⟨t,rfl⟩:=r;exact .int _ t
 |_,_,_,.tup h r,e,b=>by cases b;obtain⟨f,g,p,_⟩:=I.tuple h;exact .tup p (IN I r e g)
theorem IN(I:Inv X b σ H s):∀{v:List V}{d:List D}{u:List au},Reps X.K H O v d->aO d=true->l7 v u->HVs s.heap u d
 |_,_,_,.nil,_,.nil=>.nil
 |_,_,_,.cons r t,e,.cons f g=>by have a:(rM _&&aO _)=true:=e;rw[aAQ]at a;exact .cons (dE I r a.1 f) (IN I t a.2 g)
end
end
variable [Tabs]
def a0f(w:cp)(o:Obj)(es:List au):Prop:=o.ExactSet/\∃a b t,o.data=.set a b t/\t.fits a.size=true/\t.plain=true/\t.led=!w.params.followText "set-order"/\ST.JO t.place/\a.toList.map (·.2)=es
abbrev A2(K:ix)(H:Hp)(O:bc->Prop):List au->List D->Prop:=Paired λu d=>∃v,RelV v u/\Rep K H O v d
theorem A2.of{K:ix}{H:Hp}{O:bc->Prop}:∀{L:List V}{a:List au}{ds:List D},l7 L a->Reps K H O L ds->A2 K H O a ds
 |_,_,_,.nil,.nil=>.nil
 |_,_,_,.cons r t,.cons q u=>.cons ⟨_,r,q⟩ (A2.of t u)
theorem A2.ad2{K:ix}{H:Hp}{O:bc->Prop}:∀{a:List au}{ds:List D},A2 K H O a ds->∃L,l7 L a/\Reps K H O L ds
 |_,_,.nil=>⟨[],.nil,.nil⟩
 |_,_,.cons ⟨v,r,q⟩ t=>let⟨L,b,d⟩:=A2.ad2 t;⟨v::L,.cons r b,.cons q d⟩
def A2.same{K:ix}{H H':Hp}{O:bc->Prop}(s:Same H H'){a:List au}{ds:List D}(h:A2 K H O a ds):A2 K H' O a ds:=dD (by rintro _ _ ⟨v,r,q⟩;exact⟨v,r,q.same s⟩) h
theorem A2.get{K:ix}{H:Hp}{O:bc->Prop}:∀{a:List au}{ds:List D}{u:au},A2 K H O a ds->u∈a->∃d∈ds,∃v,RelV v u/\Rep K H O v d
 |_,_,_,.cons r t,h=>by
  rcases aAc.mp h with rfl|h
  .exact⟨_,.head _,r⟩
  obtain⟨d,b,q⟩:=A2.get t h;exact⟨d,.tail _ b,q⟩
open Classical in
def Q8(K:ix) (H:Hp) (h:cq):cq:=PySem.W.hideAll h ((aBc h.objs.size).filter λa=>decide (¬∃Y,Y0 K H a Y))
def Z2(K:ix)(H:Hp)(h:cq):Keeps (Q8 K H h) h:=λb o e=>PySem.W.of_hideAll _ e
open Classical in
def BF{K:ix}{H:Hp}{h:cq}{b:bc}{o:Obj}{Y:List V}(e:h.get? b=some o)(q:Y0 K H b Y):(Q8 K H h).get? b=some o:=PySem.W.hideAll_get _ e λa=>by have:=(aAX.mp a).2;exact(of_decide_eq_true this) ⟨Y,q⟩
open Classical in
def CM{K:ix}{H:Hp}{h:cq}{b:bc}{o:Obj}(e:(Q8 K H h).get? b=some o):∃Y,Y0 K H b Y:=by refine aCV λn=>?_;have a:=Z2 K H h b o e;have:(Q8 K H h).get? b=none:=PySem.W.hideAll_none _ (aAX.mpr ⟨aBa.mpr (aAg a),decide_eq_true n⟩);rw[this]at e;cases e
section
mutual
theorem NA(I:Inv X a σ H s):∀{v:V}{d:D}{u:au},Rep X.K H O v d->rM d=true->RelV v u->HV (Q8 X.K H s.heap) u d
 |_,_,_,.non,e,_=>by cases e
 |_,_,_,.bl,e,_=>by cases e
 |_,_,_,.str,e,_=>by cases e
 |_,_,_,.lst _ _ _,e,_=>by cases e
 |_,_,_,.dct _ _ _,e,_=>by cases e
 |_,_,_,.int,_,r=>by obtain⟨t,rfl⟩:=r;exact .int _ t
 |_,_,_,.tup h r,e,b=>by cases b;obtain⟨f,i,⟨o,g,c,n,d⟩,_⟩:=I.tuple h;exact .tup ⟨o,BF g h,c,n,d⟩ (IP I r e i)
theorem IP(I:Inv X b σ H s):∀{v:List V}{d:List D}{u:List au},Reps X.K H O v d->aO d=true->l7 v u->HVs (Q8 X.K H s.heap) u d
 |_,_,_,.nil,_,.nil=>.nil
 |_,_,_,.cons r t,e,.cons f g=>by have a:(rM _&&aO _)=true:=e;rw[aAQ]at a;exact .cons (NA I r a.1 f) (IP I t a.2 g)
end
mutual
theorem TW(I:Inv X b σ H s):∀{u:au}{d:D},HV (Q8 X.K H s.heap) u d->∃v,RelV v u/\Rep X.K H O v d
 |_,_,.int i t=>⟨.int i,⟨t,rfl⟩,.int⟩
 |_,_,.tup (a:=a) ⟨o,g,c,n,h⟩ r=>by obtain⟨Y,q⟩:=CM g;obtain⟨L,j,k⟩:=A2.ad2 (HB I r);obtain⟨l,m,⟨w,e,_,x,f⟩,_⟩:=I.tuple q;rw[Z2 _ _ _ _ _ g]at e;cases e;rw[h]at f;injection f with p _;subst p;have:L=Y:=j.inj (by simpa using m);subst this;exact⟨.ref a,rfl,.tup q k⟩
theorem HB(I:Inv X a σ H s):∀{u:List au}{d:List D},HVs (Q8 X.K H s.heap) u d->A2 X.K H O u d
 |_,_,.nil=>.nil
 |_,_,.cons r t=>.cons (TW I r) (HB I t)
end
end
section
def a1r(X:Cx)(B:D->Bool)(U:List D->List D)(f:Ev->R D):TE:=λσ H Q=>∃i j O ρ,EnvOk X.K i j H O σ ρ/\match f ρ with
 |.ok (.lst b)=>(b.all B=true/\(U b).length<=63)/\∀S o g e a,Same H a->a S=none->a0f X.w o g->A2 X.K a O g e->e.Nodup->(∀d,d∈e↔d∈b)->Q (.ref S) (upd a S<|.frz o (.own S))
 |.ex x=>∀h,Same H h->XW X x h
 |_=>False
def UX{B:D->Bool}{U:List D->List D}(hB:∀{d},B d=true->rM d=true/\G4 d<8/\∃Y,d=.tup Y)(hU:∀{ds:List D},(∀d∈ds,B d=true)->∀d,d∈U ds↔d∈ds)(ha:PB X e f)(hh:X.calm=true)(hu:X.A.units+300<cz)(hg:Gl X "set":=by rfl)(hm:X.mg "set"=none:=by assumption)(hv:de "set"=some (.type "set"):=by decide+kernel)(he:bb [e] X.env=(false,dm e X.env)::bb [] X.env:=by rfl)(bf:(cy C (bb [] X.env)).any (·.1)=false:=by rfl):
  PE X (.Call (.Name "set" p) [e] [] C) (a1r X B U f):=by
 refine uR λJ s σ H Q I H9 O0 O ρ E q=>?_;refine aBf (T7 I hg hm hv ?_ (by decide) (by decide));have sr:PA X [e] _:=M8 ha cR he;refine aBv (F5 (sr C J s σ H (λL g=>∃v ds,L=[v]/\f ρ=.ok (.lst ds)/\Same H g/\B4 X.K g O v (.lst ds)) I ⟨H9,O0,O,ρ,E,?_⟩) λus h z9=>?_) he bf
 .cases b:f ρ with
  |ex z=>rw[b]at q;exact q
  |bad=>rw[b]at q;exact q.elim
  |ok d=>
   rw[b]at q;cases d with
   |lst ds=>exactλv g h r1=>⟨v,ds,rfl,rfl,h,r1⟩
   |_=>exact q.elim
 obtain⟨L,g,m,r1,v,ds,ev,ef,sm,rb⟩:=z9;subst ev;rw[ef]at q;obtain⟨⟨hp,h63⟩,q⟩:=q;obtain⟨a,ws,rfl,hS,rr⟩:=rb.aa5;obtain⟨u,rfl,ru⟩:=vals1 r1;cases ru;obtain⟨k,rv,⟨oL,nL,gL,cL,dL,sL⟩,zL⟩:=m.list hS;have pt:∀d∈ds,B d=true:=aCh.mp hp;have hlen:k.toArray.size=ds.length:=by rw[aAn,<-rv.length,rr.length]
 have st:A2 X.K g O k ds:=A2.of rv rr;have N:∀(i:Nat) (v:au),k.toArray[i]?=some v->YM (Q8 X.K g h.heap) v (ds.getD i .non):=λi v n=>by
  rw[aCS]at n;obtain⟨d,x,w,ua,rp⟩:=I0 st n;have ql:ds.getD i .non=d:=by rw[aAo,x];rfl
  rw[ql];have hpt:=pt d (aAx x);obtain⟨ho,hd8,Y,rfl⟩:=hB hpt;have hv:=NA m rp ho ua;cases hv with
  |tup p r=>exact⟨_,_,rfl,rfl,hd8,.tup p r⟩
 have vd:∀i<k.toArray.size,G4 (ds.getD i .non)<8/\∃Y,ds.getD i .non=.tup Y:=λi n=>by
  have T:i<ds.length:=by rw[<-hlen];exact n
  have b:ds.getD i .non=ds[i]:=by rw[aAo,aAi T];rfl
  rw[b];exact(hB<|pt _<|aCz T).2
 refine BR (Z2 X.K g h.heap) (val:=λi=>ds.getD i .non) (U:=U ds) (m.ok.hd hh) ⟨oL,gL,cL,nL,sL⟩ N vd (λi n=>?_) (by lia) hu λh' tk av je qt kp=>?_
 .have T:i<ds.length:=by rw[<-hlen];exact n
  rw[hU pt];have b:ds.getD i .non=ds[i]:=by rw[aAo,aAi T];rfl
  show ds.getD i .non∈ds;rw[b];exact aCz T
 obtain⟨⟨o,y,ep,t,ho,hc,zu,hsl,x,l,msk,pr,led,pl⟩,nd⟩:=je;have mem:∀d,d∈av↔d∈ds:=λd=>by
  rw[qt];constructor
  .rintro⟨j,hj,b⟩;have ur:j<ds.length:=by rw[<-hlen];exact hj
   have e2:ds.getD j .non=ds[j]:=by rw[aAo,aAi ur];rfl
   rw[<-b,e2];exact aCz ur
  intro x;obtain⟨j,hj,b⟩:=aBp x;refine⟨j,by rw[hlen];exact hj,?_⟩;show ds.getD j .non=d;rw[aAo,aAi hj,<-b];rfl
 have I2:=m.laid (a:=h.heap.objs.size) (o:=.frz o (.own h.heap.objs.size)) (h':=h') (t':=tk) kp (aAl _) ⟨ho,o,ho⟩;refine⟨.ref h.heap.objs.size,_,I2,rfl,q h.heap.objs.size o (y.toList.map (·.2)) av g sm (m.hok.fresh<|aAl _) ⟨⟨hc,zu,hsl⟩,y,ep,t,x,?_,pl,led,l.tab.asc,rfl⟩ ?_ nd mem⟩
 .have h1:=l.len;have h2:=l.room;simp only[aGs,aAQ,beq_iff_eq,decide_eq_true_eq];exact⟨by simpa using h1,by show t.place.size+t.dummies.size<=t.mask;rw[l.tab.nod];simpa using h2⟩
 have:∀{y:List (Int×au)}{ds:List D},Paired (EV<|Q8 X.K g h.heap) y ds->A2 X.K g O (y.map (·.2)) ds:=λ{y ds} p=>by
  induction p with
  |nil=>exact .nil
  |cons r _ ih=>exact .cons (TW m r.1) ih
 exact this pr
def WQ(h:cq) (v:au):List Int:=open Classical in if p:∃d,cK d=true/\HV h v d then flat p.choose else[]
def xI(b:cK d=true)(a:HV h v d):WQ h v=flat d:=by unfold WQ;have q:∃d,cK d=true/\HV h v d:=⟨d,b,a⟩;rw[dif_pos q,HV.inj q.choose_spec.2 a]
def bF(e:cK d=true)(a:HV h v d):∃b items,v=.ref b/\IsTup h b items/\IntsAre items.toList (flat d):=by
 rw[(gD e).2]at a;cases a with
 |tup p r=>
  refine⟨_,_,rfl,p,?_⟩;have:∀{L:List au}{l:List Int},HVs h L (l.map D.int)->IntsAre L l:=λ{L l} r=>by
   induction l generalizing L with
   |nil=>cases r;exact .nil
   |cons i l f=>
    cases r with
    |cons r t=>cases r;exact .cons _ _ (f t)
  exact this r
def my{prog:bM}{w:cp}{A:cf}{E:F7}{s:ba}{x y:au}{d e:D}{f:Bool}{Q:yB}(g:cK d=true)(h:cK e=true)(i:HV s.heap x d)(j:HV s.heap y e)(q:Q (HT.lexLt (flat d) (flat e)) s):a9 (be prog w) A (keyLt' (TS.tupK f) x y) Q E s:=by obtain⟨b,k,rfl,l,m⟩:=bF g i;obtain⟨p,a,rfl,n,o⟩:=bF h j;exact TS.lt_ints f l n m o q
def RP{prog:bM}{w:cp}{A:cf}{E:F7}{s:ba}{L:List au}{Q:SortKind->ba->Prop}(h:∀x∈L,∃d,cK d=true/\HV s.heap x d)(v:2<=L.length)(q:Q (TS.tupK true) s):a9 (be prog w) A (keyKind' L.toArray) Q E s:=by
 obtain⟨g,j⟩:∃g:au->au,∀x∈L,∃b a k t,x=.ref b/\IsTup s.heap b a/\a[0]?=some (g x)/\g x=.int k t:=by
  refine⟨λx=>open Classical in if z:∃p,∃b a k t,x=.ref b/\IsTup s.heap b a/\a[0]?=some p/\p=aGK k t then z.choose else .none,λx m=>?_⟩;obtain⟨d,y,C⟩:=h x m;obtain⟨b,a,rfl,H,f⟩:=bF y C;have B:=(gD y).1;have z:∃p,∃i a k t,aDH b=.ref i/\IsTup s.heap i a/\a[0]?=some p/\p=aGK k t:=by
   cases e:a.toList with
   |nil=>rw[e]at f;generalize flat d=l at f B;cases f;exact absurd rfl B
   |cons p J=>
    rw[e]at f;generalize flat d=l at f;cases f with
    |cons k t N=>exact⟨_,b,a,k,t,rfl,H,by rw[<-aAE,e];rfl,rfl⟩
  dsimp only;rw[dif_pos z];obtain⟨i,I,k,t,n,o,r,u⟩:=z.choose_spec;exact⟨i,I,k,t,n,o,r,u⟩
 refine TS.kind_tuples (T:= "int") g (λx m=>?_) (λz=>by rw[z]at v;simp at v) (by decide) q;obtain⟨b,a,k,t,n,o,r,u⟩:=j x m;exact⟨b,a,n,o,r,by rw[u];exact typeIs_int s k t⟩
def xH{K:ix}{H:Hp}{O:bc->Prop}{n b:List au}{ds:List D}{key:au->List Int}(st:A2 K H O n ds)(C:b.Perm n)(E:b.Pairwise λx y=>HT.lexLt (key y) (key x)=false)(I:∀u d,(∃v,RelV v u/\Rep K H O v d)->d∈ds->key u=flat d)(pt:∀d∈ds,cK d=true)(J:ds.Nodup):
  ∃a,A2 K H O b a/\a.Perm ds/\UG a:=by
 obtain⟨a,j,k⟩:=eF C st;refine⟨a,k,j,?_⟩;have m:a.Nodup:=j.nodup_iff.mpr J;have o:∀d∈a,cK d=true:=λd f=>pt d (j.mem_iff.mp f);have p:∀u d,(∃v,RelV v u/\Rep K H O v d)->d∈a->key u=flat d:=λu d h f=>I u d h (j.mem_iff.mp f);clear C j st J pt I;induction k with
 |nil=>exact .nil
 |@cons u d n ds r t s=>
  have w:=aAy.mp E;have A:=aAH.mp m;refine aAy.mpr ⟨λe g=>?_,s w.2 A.2 (λd f=>o d (.tail _ f)) λu d h f=>p u d h (.tail _ f)⟩;have:∃i∈n,∃v,RelV v i/\Rep K H O v e:=by
   clear s E w A m o p r;induction t with
   |nil=>cases g
   |cons r t s=>
    rcases aAc.mp g with rfl|g
    .exact⟨_,.head _,r⟩
    obtain⟨i,B,q⟩:=s g;exact⟨i,.tail _ B,q⟩
  obtain⟨i,B,q⟩:=this;have l:=w.1 i B;rw[p i e q (.tail _ g),p u d r (.head _)]at l;cases z:HT.lexLt (flat d) (flat e)with
  |true=>rfl
  |false=>have:=BB (o _<|.head _) (o _<|.tail _ g) (TS.lex_total _ _ z l);subst this;exact absurd g A.1
def bP{p p2 eu:Pos}{f:Ev->R D}(ha:PB X e f)(hh:X.calm=true)(hu:X.A.units+300<cz)(hg:Gl X "set":=by rfl)(hm:X.mg "set"=none:=by assumption)(hg2:Gl X "sorted":=by rfl)(jn:X.mg "sorted"=none:=by assumption)
  (hv:de "set"=some (.type "set"):=by decide+kernel) (hv2:de "sorted"=some (.builtin "sorted"):=by decide+kernel)
  (he:bb [e] X.env=(false,dm e X.env)::bb [] X.env:=by rfl) (bf:(cy eu (bb [] X.env)).any (·.1)=false:=by rfl)
  (ma:bb [.Call (.Name "set" p2) [e] [] eu] X.env=(false,dm (.Call (.Name "set" p2) [e] [] eu) X.env)::bb [] X.env:=by rfl) (xp:(cy pos (bb [] X.env)).any (·.1)=false:=by rfl):
  PF X (.Call (.Name "sorted" p) [.Call (.Name "set" p2) [e] [] eu] [] pos) (λρ=>(f ρ).bind ssR):=by
 refine uR λpins s σ H Q I H9 O0 O ρ E q=>?_;dsimp only at q;refine aBf (T7 I hg2 jn hv2 ?_ (by decide) (by decide));have sr:PA X [.Call (.Name "set" p2) [e] [] eu] _:=M8 (UX (p:=p2) (B:=cK) (U:=cJ) (λh=>⟨U9 h,IL h,_,(gD h).2⟩) Q6 ha hh hu hg hm hv he bf) cR ma;refine aCr (F5 (sr pos pins s σ H (λL H2=>∃S o es i g N,L=[.ref S]/\H2=upd N S (.frz o (.own S))/\f ρ=.ok (.lst g)/\(g.all cK=true/\(cJ g).length<=63)/\Same H N/\N S=none/\a0f X.w o es/\A2 X.K N O es i/\i.Nodup/\(∀d,d∈i↔d∈g)) I ⟨H9,O0,O,ρ,E,?_⟩)
  λus s1 z=>?_) ma xp
 .cases e1:f ρ with
  |ex z=>rw[e1]at q;exact q
  |bad=>rw[e1]at q;exact q.elim
  |ok d=>
   rw[e1,R.aa0]at q;cases d with
   |lst g=>
    simp only[ssR]at q;by_cases hc:g.all cK=true/\(cJ g).length<=63
    .exact⟨hc,λS o es i N sm hS so st nd j=>⟨S,o,es,i,g,N,rfl,rfl,rfl,hc,sm,hS,so,st,nd,j⟩⟩
    rw[ia hc]at q;exact q.elim
   |_=>exact q.elim
 obtain⟨L,H2,I2,r1,S,o,es,i,g,N,ev,eH,ef,⟨hp,h63⟩,sm,hS1,so,st,nd,j⟩:=z;subst ev eH;obtain⟨u,rfl,ru⟩:=vals1 r1;cases ru;rw[ef,R.aa0]at q;simp only[ssR]at q;rw[h9 ⟨hp,h63⟩]at q;have pt:∀d∈g,cK d=true:=aCh.mp hp;have yp:∀d∈i,cK d=true:=λd J=>pt d ((j d).mp J);have s12:Same N (upd N S<|.frz o (.own S)):=k9 hS1 _;have ku:=st.same s12;obtain⟨hc,ea,ep,t,J,hf,hpln,led,asc,ees⟩:=so;have goS:=(I2.hok S _ j2).1;have hS2:SI.IsSet s1.heap S ea ep t:=⟨o,goS,hc.1,J⟩;have hsl:(cJ g).Perm i:=by
  letI:DecidableEq D:=λa b=>aEa _
  exact(aBN (JJ<|fR g) nd).mpr λd=>by rw[Q6 pt,j]
 have gu:ea.size=i.length:=by have:=st.length;rw[<-ees]at this;simpa using this
 have h63':i.length<=63:=by rw[<-hsl.length_eq];exact h63
 have wp:=SI.walkL_perm X.w S ea ep;have wpv:((SI.walkL X.w S ea ep).map (·.2)).Perm es:=by rw[<-ees];exact wp.map _
 have m:∀u∈(SI.walkL X.w S ea ep).map (·.2),∃d,d∈i/\cK d=true/\HV s1.heap u d:=λu hu=>by obtain⟨d,J,v,rv,rp⟩:=ku.get (wpv.mem_iff.mp hu);exact⟨d,J,yp d J,dE I2 rp (U9<|yp d J) rv⟩
 refine TS.sorted_keys (L:=(SI.walkL X.w S ea ep).map (·.2)) (f:=true) (key:=WQ s1.heap) (C:=λs'=>∃h' Y,s'={s1 with heap:=h',toks:=Y}/\∀b o,s1.heap.get? b=some o->h'.get? b=some o)
  (λ{Q'} hq=>SI.collect_set (by simp[I2.ok.hd hh]) hS2 hf hpln (λnb=>by rw[led];simpa using nb) asc (by rw[gu];exact aAr h63' (by decide)) λh' Y k=>hq _ ⟨h',Y,rfl,k⟩)
  (λs' ⟨h',Y,r,k⟩ s6 k6 x hx y hy prog w A E hA {Q} qq=>?_) (λh2 s' ⟨h',Y,r,k⟩ s6 k6 A {Q} qq=>?_) (by rw[aAh,wp.length_eq,aBi,gu];lia) λs' fu h' l ⟨h1,Y,r,k⟩ pm srt k2 hl ⟨n,gl⟩=>?_
 .subst r;obtain⟨d,_,pd,T⟩:=m x hx;obtain⟨d',_,pd',hvd'⟩:=m y hy;rw[xI pd T,xI pd' hvd']at qq;exact my pd pd' (T.keeps λb o e _=>k6 b o (k b o e)) (hvd'.keeps λb o e _=>k6 b o (k b o e)) qq
 .subst r;refine RP (λx hx=>?_) h2 qq;obtain⟨d,_,pd,T⟩:=m x hx;exact⟨d,pd,T.keeps λb o e _=>k6 b o (k b o e)⟩
 subst r;obtain⟨uc,st3,p2,srt2⟩:=xH (key:=WQ s1.heap) ku (pm.trans wpv) srt (by rintro u d ⟨v,rv,rp⟩ J;exact xI (yp d J) (dE I2 rp (U9<|yp d J) rv)) yp nd;have e2:uc=cJ g:=pK srt2 (fR g) λd=>by rw[p2.mem_iff,j,Q6 pt]
 subst e2;obtain⟨wv,ua,rr⟩:=st3.ad2;have I2':=I2.kept (h':=h1) (t':=Y) k;have I3:=I2'.laid (a:=l) (o:=.lst wv) (h':=h') (t':=Y) k2 hl ⟨by rw[rr.length];exact aAr h63 (by decide),fu,n,ua,gl⟩;exact⟨.ref l,_,I3,rfl,q wv _ l (sm.trans s12) (I2'.hok.fresh hl) rr⟩
end
end DL
namespace SZ
open PySem
abbrev Zs(h:cq)(z TI TO:bc)(a b:au):Prop:=h.get? z=some {cls:=.type "zip",dict:=none,data:=.fields #[a,b,.bool false,.ref TI,.ref TO],slots:=#[]}
def yP(b:au):Prop:=b=.none\/∃a:Nat,b=ez a
section
def alive{Q:Option Obj->ba->Prop}(h:Q (s.heap.get? c) s):a9 (be prog w) A (loadIfAlive c) Q E s:=λΓ p _=>by unfold loadIfAlive;rw[Sem.wp_loadIfAlive];simpa using h
def oB{Q:yB}(hz:Zs s.heap z TI TO b d)(j:yP b)(f:Q true s)(g:∀h' e,Zs h' z TI TO b e->Heap.SameBut z s.heap h'->Q false {s with heap:=h'}):a9 (be prog w) A (aBT (.ref z)) Q E s:=by
 unfold aBT;refine aAa (aCY hz rfl (x:=b) rfl ?_);rcases j with rfl|⟨a,rfl⟩
 .exact aAb f
 show a9 _ _ (loadIfAlive (aEH (a:Int))>>=_) _ _ _;refine aAa (alive ?_);by_cases h:(s.heap.get?<|aEH (a:Int)).isNone=true
 .rw[h9 h];exact aAb f
 rw[ia h];refine aAa (aCY hz rfl (x:=d) rfl ?_);by_cases i:(d !=aDA true)=true
 .rw[h9 i];refine aAa (aCe hz (by simp) λh' k l=>aAb (g h' (.bool true) k l))
 rw[ia i];exact aAb (g s.heap d hz ⟨rfl,λ_ _=>rfl⟩)
def NF{Q:F7}(D:ZipApart z TI TO p q O l2)(hz:Zs s.heap z TI TO f0 f1)(ho:yP f0)(vo:fm s.heap TI (.ref p) (.ref q))(uo:fm s.heap TO a b)(h1:s.heap.IsListIter p O k)(h2:s.heap.IsListIter q l2 k)(rh:s.heap.IsList O Y)(om:s.heap.IsList l2 ys)(hx:Y[k]?=some x)(hy:ys[k]?=some y)(hQ:∀h' T U C a' b',Zs h' z TI TO U C->yP U->fm h' TO a' b'->h'.IsListIter p O (k+1)->h'.IsListIter q l2 (k+1)->s.heap.objs.size<=T->fm h' T x y->
   (∀c o,c≠z->c≠TO->c≠p->c≠q->s.heap.get? c=some o->h'.get? c=some o)->Q (.ref T) {s with heap:=h'}):
  a9 (be prog w) A (Builtin.«zip.__next__» ⟨[.ref z],[]⟩) (λfin s'=>∃v,fin=.done (.ret v)/\Q v s') E s:=by
 show a9 _ _ (field (.ref z) 2>>=_) _ _ _;refine aAa (aCY hz rfl (x:=.bool false) rfl ?_);show a9 _ _ (field (.ref z) 3>>=_) _ _ _;refine aAa (aCY hz rfl (x:=.ref TI) rfl ?_);refine aAa (aBP vo rfl ?_);show a9 _ _ (aBT (.ref z)>>=_) _ _ _;refine aAa (oB hz ho ?_ λt C yr d=>?_)
 .simp only[if_true];refine aAa (aDy ?_);refine aAa (aCY hz rfl (x:=.ref TO) rfl ?_);refine aAa (aCe hz (by simp) λt yr d=>?_);replace yr:Zs t z TI TO .ellipsis f1:=yr;refine aAa ?_;simp only[aEp,aEF,aDd,aEf];refine aAa (aAa<|wpAny_onRaise ?_);show a9 _ _ (aBR (.ref p)>>=_) _ _ _;refine aAa (aDm (h1.extBut d.extBut D.i1z) (rh.extBut d.extBut D.l1z) hx λiu H i=>aAb ?_);have u:fm iu TO a b:=i.extBut _ _ D.TOi1 (d.extBut _ _ D.TOz uo);refine aAa (aBP u rfl ?_);refine aAa (wpAny_updateSeq_pair u λaA l j=>?_);replace l:fm aA TO x b:=l;refine aAa (aEd<|aAb ?_);refine aAa (aAa<|wpAny_onRaise ?_);show a9 _ _ (aBR (.ref q)>>=_) _ _ _;refine aAa (aDm (((h2.extBut d.extBut D.i2z).extBut i.extBut D.i12.symm).extBut j.extBut D.TOi2.symm)
   (((om.extBut d.extBut D.l2z).extBut i.extBut D.l2i1).extBut j.extBut D.l2TO) hy λI J m=>aAb ?_)
  have f:fm I TO x b:=m.extBut _ _ D.TOi2 l;refine aAa (aBP f rfl ?_);refine aAa (wpAny_updateSeq_pair f λg h n=>?_);replace h:fm g TO x y:=h;refine aAa (aEd<|aAb<|aAb ?_);refine aAa (aBP h rfl ?_);refine aAa (aGg ?_);have gu:g.objs.size=s.heap.objs.size:=by rw[n.1,m.1,j.1,i.1,d.1]
  have hz3:Zs g z TI TO .ellipsis f1:=n.extBut _ _ D.TOz.symm (m.extBut _ _ D.i2z.symm<|j.extBut _ _ D.TOz.symm<|i.extBut _ _ D.i1z.symm yr);have hk3:∀c o,c≠z->c≠TO->c≠p->c≠q->s.heap.get? c=some o->g.get? c=some o:=λc o r c2 c3 c4 e=>n.extBut _ _ c2 (m.extBut _ _ c4<|j.extBut _ _ c2<|i.extBut _ _ c3<|d.extBut _ _ r e)
  have h11:g.IsListIter p O (k+1):=((H.extBut j.extBut D.TOi1.symm).extBut m.extBut D.i12).extBut n.extBut D.TOi1.symm;have h21:g.IsListIter q l2 (k+1):=J.extBut n.extBut D.TOi2.symm;have B:z<g.objs.size:=aAg hz3;show a9 _ _ (aDK (.ref z) (.ref g.objs.size)>>=_) _ _ _;refine aAa ?_;unfold aDK;have hz5:Zs (g.push {cls:=.type "tuple",data:=.seq #[x,y]}) z TI TO .ellipsis f1:=aAd _ hz3;refine aAa (aCe hz5 (by simp) λaC L hs8=>?_);replace L:Zs aC z TI TO (ez g.objs.size) f1:=L;refine aCe L (by simp) λaB N hs9=>?_;replace N:Zs aB z TI TO (ez g.objs.size) (.bool false):=N;have up:∀c o,c≠z->g.get? c=some o->aB.get? c=some o:=λc o r e=>hs9.extBut _ _ r (hs8.extBut _ _ r<|aAd _ e);have hT0:fm aB g.objs.size x y:=hs9.extBut _ _ (aDv B) (hs8.extBut _ _ (aDv B)<|aAq _ rfl);refine aAb ⟨_,rfl,?_⟩;exact hQ aB g.objs.size _ _ x y N (.inr ⟨_,rfl⟩) (up _ _ D.TOz h) (h11.at λo e=>up _ o D.i1z e) (h21.at λo e=>up _ o D.i2z e) (aEj gu.symm) hT0 λc o r c2 c3 c4 e=>up c o r (hk3 c o r c2 c3 c4 e)
 simp only[aAv,if_false];refine aAa ?_;show a9 _ _ (forIn (#[.ref p,.ref q]:Array au) _ _) _ _ _;rw[<-aCv];simp only[aDd,aEf];refine aAa (aAa<|aAW ?_);show a9 _ _ (aBR (.ref p)>>=_) _ _ _;refine aAa (aDm (h1.extBut d.extBut D.i1z) (rh.extBut d.extBut D.l1z) hx λiu H i=>aAb ?_);refine aAb ?_;refine aAa (aAa<|aAW ?_);show a9 _ _ (aBR (.ref q)>>=_) _ _ _;refine aAa (aDm ((h2.extBut d.extBut D.i2z).extBut i.extBut D.i12.symm) ((om.extBut d.extBut D.l2z).extBut i.extBut D.l2i1) hy λI J m=>aAb ?_);refine aAb (aAb ?_);have gu:I.objs.size=s.heap.objs.size:=by rw[m.1,i.1,d.1]
 have hz6:Zs I z TI TO f0 C:=m.extBut _ _ D.i2z.symm (i.extBut _ _ D.i1z.symm yr);have f:fm I TO a b:=m.extBut _ _ D.TOi2 (i.extBut _ _ D.TOi1<|d.extBut _ _ D.TOz uo);have h12:I.IsListIter p O (k+1):=H.extBut m.extBut D.i12;show a9 _ _ (newTuple [x,y]>>=_) _ _ _;refine aAa (aGg ?_);refine aAb ⟨_,rfl,?_⟩;exact hQ _ I.objs.size _ _ a b (aAd _ hz6) ho (aAd _ f) (h12.at λo e=>aAd _ e) (J.at λo e=>aAd _ e) (aEj gu.symm) (aAq _ rfl)
  λc o r c2 c3 c4 e=>aAd _ (m.extBut _ _ c4<|i.extBut _ _ c3<|d.extBut _ _ r e)
def XM{Q:Fin->ba->Prop}(y:A.handled=none)(D:ZipApart z TI TO h m B l2)(hz:Zs s.heap z TI TO N C)(O:yP N)(T:fm s.heap TI (.ref h) (.ref m))(uo:fm s.heap TO a b)
  (H:s.heap.IsListIter h B k) (h2:s.heap.IsListIter m l2 k) (I:s.heap.IsList B Y) (om:s.heap.IsList l2 ys) (J:Y[k]?=none)
  (L:∀h' e,(∀c o,c≠z->c≠TO->c≠h->c≠m->s.heap.get? c=some o->h'.get? c=some o)->(∃o,h'.get? e=some o/\o.cls=.type "StopIteration")->E (.ref e) {s with heap:=h'}):
  a9 (be prog w) A (Builtin.«zip.__next__» ⟨[.ref z],[]⟩) Q E s:=by
 show a9 _ _ (field (.ref z) 2>>=_) _ _ _;refine aAa (aCY hz rfl (x:=.bool false) rfl ?_);show a9 _ _ (field (.ref z) 3>>=_) _ _ _;refine aAa (aCY hz rfl (x:=.ref TI) rfl ?_);refine aAa (aBP T rfl ?_);show a9 _ _ (aBT (.ref z)>>=_) _ _ _;refine aAa (oB hz O ?_ λd U n f=>?_)
 .simp only[if_true];refine aAa (aDy ?_);refine aAa (aCY hz rfl (x:=.ref TO) rfl ?_);refine aAa (aCe hz (by simp) λd n f=>?_);replace n:Zs d z TI TO .ellipsis C:=n;refine aAa ?_;simp only[aEp,aEF,aDd,aEf];refine aAa (aAa<|wpAny_onRaise ?_);show a9 _ _ (aBR (.ref h)>>=_) _ _ _;refine aAa (wpAny_nextOf_list_end y (H.extBut f.extBut D.i1z) (I.extBut f.extBut D.l1z) J λr e p t=>?_);obtain⟨oe,g,i⟩:=t;have j:Zs r z TI TO .ellipsis C:=p _ _ D.i1z.symm n;have u:e≠z:=λx=>by subst x;rw[j]at g;cases g;simp at i
  exact aCe j (by simp) λaA _ l=>L aA e (λc o q _ v _ x=>l.extBut _ _ q (p _ _ v<|f.extBut _ _ q x)) ⟨oe,l.extBut _ _ u g,i⟩
 simp only[aAv,if_false];refine aAa ?_;show a9 _ _ (forIn (#[.ref h,.ref m]:Array au) _ _) _ _ _;rw[<-aCv];simp only[aDd,aEf];refine aAa (aAa<|aAW ?_);show a9 _ _ (aBR (.ref h)>>=_) _ _ _;exact aAa (wpAny_nextOf_list_end y (H.extBut f.extBut D.i1z) (I.extBut f.extBut D.l1z) J λr e p t=>L r e (λc o q _ v _ x=>p _ _ v (f.extBut _ _ q x)) t)
end
def SU(z TI TO d e f l2:bc)(Y j:Array au)(i:Nat)(h:cq):Prop:=
 (∃g k,Zs h z TI TO g k/\yP g)/\fm h TI (.ref d) (.ref e)/\(∃a b,fm h TO a b)/\h.IsListIter d f i/\h.IsListIter e l2 i/\h.IsList f Y/\h.IsList l2 j
section
variable{s:ba}
def SU.type(h:SU z TI TO b d e l2 Y f i s.heap):s.TypeIs (.ref z) "zip":=by obtain⟨⟨g,j,a,_⟩,_⟩:=h;exact⟨_,a,rfl⟩
def SU.keeps(x:SU z TI TO d f g l2 Y j i h)(k:∀b o,b∈[z,TI,TO,d,f,g,l2]->h.get? b=some o->h'.get? b=some o):SU z TI TO d f g l2 Y j i h':=by obtain⟨⟨l,m,n,p⟩,q,⟨a,b,r⟩,t,u,v,w⟩:=x;exact⟨⟨l,m,k z _ (by simp) n,p⟩,k TI _ (by simp) q,⟨a,b,k TO _ (by simp) r⟩,t.at λo e=>k d o (by simp) e,u.at λo e=>k f o (by simp) e,v.at λo e=>k g o (by simp) e,w.at λo e=>k l2 o (by simp) e⟩
def UB{Q:Option au->ba->Prop}(D:ZipApart z TI TO h j m l2)(hl:Y.size=d.size)(st:SU z TI TO h j m l2 Y d i s.heap)(v:i<Y.size)(B:∀h' T x y,Y[i]?=some x->d[i]?=some y->SU z TI TO h j m l2 Y d (i+1) h'->s.heap.objs.size<=T->fm h' T x y->(∀c o,c∉[z,TO,h,j]->s.heap.get? c=some o->h'.get? c=some o)->Q (some (.ref T)) {s with heap:=h'}):
  a9 (be prog w) A (fh (.ref z)) Q E s:=by
 have n:=st.type;obtain⟨⟨f0,f1,C,H⟩,p,⟨a,b,I⟩,J,L,q,r⟩:=st;have t:Y[i]?=some Y[i]:=aAN v;have u:d[i]?=some (d[i]'(by lia)):=aAN (by lia);unfold fh;refine aAa (aEw (aCD (name:=aDw "__next__") n aEb
  (aBB aEb n F.entry_zip_next (NF D C H p I J L q r t u λh' T k l N O U e2 e3 e4 e5 e6 e7 g=>aAb ?_)<|F.args_zip_next_1 _)))
 refine B h' T _ _ t u ⟨⟨k,l,U,e2⟩,g _ _ D.TIz D.TITO D.TIi1 D.TIi2 p,⟨N,O,e3⟩,e4,e5,q.at λo e=>g _ o D.l1z D.l1TO D.l1i1 D.l1i2 e,r.at λo e=>g _ o D.l2z D.l2TO D.l2i1 D.l2i2 e⟩ e6 e7 λc o f e=>?_;simp only[aAc,aAR,or_false,not_or]at f;exact g c o f.1 f.2.1 f.2.2.1 f.2.2.2 e
def ON{Q:Option au->ba->Prop}(i:A.handled=none)(D:ZipApart z TI TO f g j l2)(st:SU z TI TO f g j l2 Y B Y.size s.heap)
  (k:∀h',(∀c o,c∉[z,TO,f,g]->s.heap.get? c=some o->h'.get? c=some o)->Q none {s with heap:=h'}):a9 (be prog w) A (fh (.ref z)) Q E s:=by
 have h:=st.type;obtain⟨⟨C,H,l,m⟩,n,⟨a,b,p⟩,q,r,t,u⟩:=st;unfold fh;refine aAa (aEw (aCD (name:=aDw "__next__") h aEb
  (aBB aEb h F.entry_zip_next (XM (by simpa using i) D l m n p q r t u (aCP<|aAl _) λh' e v x=>?_)<|F.args_zip_next_1 _)))
 obtain⟨o,y,d⟩:=x;refine aAa (aDO (T:= "StopIteration") (b:=true) ⟨o,y,d⟩ isSubtype_stop ?_);refine aAb (k _ λc o d e=>?_);simp only[aAc,aAR,or_false,not_or]at d;exact v c o d.1 d.2.1 d.2.2.1 d.2.2.2 e
def Pairs(h0:cq)(Y a B:Array au)(i:Nat)(h:cq)(off:List bc):Prop:=B.size=i/\∀(j:Nat) (v:au),B[j]?=some v->∃T x y,v=.ref T/\Y[j]?=some x/\a[j]?=some y/\fm h T x y/\T∉off/\h0.get? T=none
def SQ(hh:A.handled=none)(D:ZipApart z TI TO g l O l2)(hl:Y.size=Q.size)(hn:Y.size<=sizeLine)(S:bc)(qh:S∉[z,TI,TO,g,l,O,l2])(res:au)(h0:cq):
  ∀(k i:Nat) (s:ba) (B:Array au) (c:Nat),Y.size-i=k->i<=Y.size->(∀b o,b∉[z,TO,g,l,S]->h0.get? b=some o->s.heap.get? b=some o)->SU z TI TO g l O l2 Y Q i s.heap->s.heap.get? S=some {cls:=.type "list",dict:=none,data:=.seq B c,slots:=#[]}->Pairs h0 Y Q B i s.heap [z,TO,g,l,S]->
  (∀h' L U,(∀b o,b∉[z,TO,g,l,S]->s.heap.get? b=some o->h'.get? b=some o)->h'.get? S=some {cls:=.type "list",dict:=none,data:=.seq L U,slots:=#[]}->Pairs h0 Y Q L Y.size h' [z,TO,g,l,S]->R (.ok (.ret res)) {s with heap:=h'})->
  gn (be prog w) A (.builtin "list.extend.loop" ⟨[.ref S,.ref z,res],[]⟩) R s:=by
 have C:S∉[z,TO,g,l]:=λh=>qh (by simp only[aAc,aAR,or_false]at h⊢;rcases h with h|h|h|h<;>simp[h]);have m:∀b,b∉[z,TO,g,l,S]->b∉[z,TO,g,l]:=λb h q=>h (by simp only[aAc,aAR,or_false]at q⊢;rcases q with q|q|q|q<;>simp[q]);intro k;induction k with
 |zero=>
  intro i s B c hk hi p N E n hR;have oo:i=Y.size:=by lia
  subst oo;refine aBQ F.entry_extend_loop ?_;rw[aBs aDg _];show a9 _ A.in1 (fh (.ref z)>>=_) _ _ s;refine aAa (ON (by simpa using hh) D N λh' kp=>?_);refine aAb (hR h' B c (λb o d e=>kp b o (m b d) e) (kp S _ C E) ⟨n.1,λj v t=>?_⟩);obtain⟨T,x,y,e1,e2,e3,e4,u,e6⟩:=n.2 j v t;exact⟨T,x,y,e1,e2,e3,kp T _ (m T u) e4,u,e6⟩
 |succ k ih=>
  intro i s B c hk hi p N E n hR;have ah:i<Y.size:=by lia
  refine aBQ F.entry_extend_loop ?_;rw[aBs aDg _];show a9 _ A.in1 (fh (.ref z)>>=_) _ _ s;refine aAa (UB D hl N ah λh' T x y hx hy lu hT hP kp=>?_);have je:=kp S _ C E;have f:∀b o,s.heap.get? b=some o->T≠b:=λb o e q=>absurd (aAw (aAg e) hT) (by rw[q];exact aBr _);obtain⟨⟨f0,f1,hz,_⟩,_,⟨a,b,uo⟩,⟨o1,g1,_⟩,⟨o2,g2,_⟩,_⟩:=id N;have H:T∉[z,TO,g,l,S]:=by simp only[aAc,aAR,or_false,not_or];exact⟨f _ _ hz,f _ _ uo,f _ _ g1,f _ _ g2,f _ _ E⟩
  show a9 _ A.in1 (gy S (·.push (.ref T))>>=_) _ _ _;refine aAa ?_;have I:∀b o,b≠S->h'.get? b=some o->(h'.update S (aBF (·.push (.ref T)))).get? b=some o:=λb o d e=>(aAF _ _<|aBY d).trans e;have neS:∀b,b∈[z,TI,TO,g,l,O,l2]->b≠S:=λb d q=>qh (q▸d);refine aCg je rfl (aAb ⟨aCd aDg _,ih (i+1) _ (B.push<|.ref T) _ (by lia) ah (λb o d e=>I b o (λq=>d (by simp[q])) (kp b o (m b d)<|p b o d e)) (lu.keeps λb o d e=>I b o (neS b d) e) (aBo _ je rfl) ⟨by rw[Array.size_push,n.1],λj v t=>?_⟩ λh'' L U kp' xn r=>?_⟩)
   (by rw[n.1];lia) (by show(B.push<|.ref T).size<=sizeLine+1;rw[Array.size_push,n.1];lia)
  .rw[Array.getElem?_push]at t;split at t
   .rename_i q;cases t;rw[n.1]at q;subst q;refine⟨T,x,y,rfl,hx,hy,I T _ (f _ _ E) hP,H,?_⟩;cases q0:h0.get? T with
    |none=>rfl
    |some o=>exact absurd rfl (f T o<|p T o H q0)
   obtain⟨J,x',y',e1,e2,e3,e4,u,e6⟩:=n.2 j v t;have n5:J≠S:=λq=>u (by simp[q]);exact⟨J,x',y',e1,e2,e3,I J _ n5 (kp J _ (m J u) e4),u,e6⟩
  refine hR h'' L U (λb o d e=>kp' b o d (I b o (λq=>d (by simp[q]))<|kp b o (m b d) e)) xn r
end
section
def eJ{Q:F7}(St:cq->Prop)(N:∀d:ba,St d.heap->d.TypeIs (.ref I) T)(B:∀h h',St h->(∀b o,b≠s.heap.objs.size->h.get? b=some o->h'.get? b=some o)->St h')(r:I≠s.heap.objs.size)
  (n1:(aCu T==aCu "list")=false) (n2:(aCu T==aCu "tuple")=false) (O:∀{M:Model}{A:cf}{E:F7}{s:ba}{Q:Fin->ba->Prop}{a b:Sem Fin},(room=true->a9 M A a Q E s)->(room=false->a9 M A b Q E s)->a9 M A (if(room||["set", "frozenset", "dict", "dict_keys", "dict_values", "dict_items"].any (aCu T==aCu ·))=true then a else b) Q E s)
  (self:∀(d:ba) (Q:F7) (E:F7),St d.heap->Q (.ref I) d->a9 (be prog w) A.in1.in1 (pyIter (.ref I)) Q E d)
  (hint:∀(d:ba) (Q:yB) (E:F7),St d.heap->Q room d->a9 (be prog w) A.in1.in1 (aCM (.ref I)) Q E d) (U:St s.heap)
  (f:∀(n:cq) (c:Nat) (R:Result->ba->Prop),(∀b o,s.heap.get? b=some o->n.get? b=some o)->St n->n.get? s.heap.objs.size=some {cls:=.type "list",dict:=none,data:=.seq #[] c,slots:=#[]}->(∀s',Q (.ref s.heap.objs.size) s'->R (.ok (.ret .none)) s')->
   gn (be prog w) A.in1 (.builtin "list.extend.loop" ⟨[.ref s.heap.objs.size,.ref I,.none],[]⟩) R {s with heap:=n}):
  a9 (be prog w) A (call (.type "list") [.ref I]) Q E s:=by
 refine callType_codes (Q₁:=λj C=>j=.ref s.heap.objs.size/\C={s with heap:=s.heap.push {cls:=.type "list",data:=.seq #[]}}) F.called_list (F.typeCall_list_1 _) F.entry_list_init
  (code_list_new _ ⟨rfl,rfl⟩) λj C k=>?_
 obtain⟨rfl,rfl⟩:=k;have p:(s.heap.push {cls:=.type "list",data:=.seq #[]}).get? s.heap.objs.size=some {cls:=.type "list",data:=.seq #[]}:=aAq _ rfl;have H:∀b o,s.heap.get? b=some o->b≠s.heap.objs.size:=λb o e=>aAm (aAg e);refine⟨⟨_,p,rfl⟩,F.args_list_init_2 _ _,?_⟩;show a9 _ A.in1.in1 (do let t<-aCO (.ref s.heap.objs.size);Builtin.List.listUpdate (.ref s.heap.objs.size) (λ_=>#[]);letGo t.toList.reverse;aCf (.ref s.heap.objs.size) (.ref I) .none) _ _ _;refine aAa ?_;unfold aCO;refine aAa (aBP p rfl<|aAb ?_);show a9 _ A.in1.in1 (gy s.heap.objs.size (λ_=>#[])>>=λ_=>letGo (#[]:Array au).toList.reverse>>=λ_=>aCf (.ref s.heap.objs.size) (.ref I) .none) _ _ _;refine aAa (aCg p rfl ?_);have i:=aBo (aBF<|λ_=>(#[]:Array au)) p rfl;refine aAa (aEd ?_);generalize u:(s.heap.push {cls:=.type "list",data:=.seq #[]}).update s.heap.objs.size (aBF<|λ_=>(#[]:Array au))=g at*
 have v:∀b o,s.heap.get? b=some o->g.get? b=some o:=λb o e=>by rw[<-u];exact(aAF _ _<|aBY<|H b o e).trans (aAd _ e)
 have l:St g:=B s.heap g U λb o _ e=>v b o e;have x:aDe (.ref s.heap.objs.size) (.ref I)=false:=by simp[aDe,aBY r]
 have y:Shared.TypeIs {s with heap:=g} (.ref I) T:=N {s with heap:=g} l;unfold aCf;refine aAa (aDS y ?_);simp only[x,n1,n2,Bool.or_false,aAv,if_false];refine aAa (self _ _ _ l ?_);refine aAa (aAW<|hint _ _ _ l ?_);refine O (λ_=>?_) (λ_=>?_)
 .show a9 _ A.in1.in1 (rule "list.extend.makes-room">>=λ_=>aFI (.ref s.heap.objs.size)>>=λ_=>again (.builtin "list.extend.loop" ⟨[.ref s.heap.objs.size,.ref I,.none],[]⟩)) _ _ _;refine aAa (aDy ?_);refine aAa ?_;show a9 _ A.in1.in1 (gy s.heap.objs.size (·.push .none)>>=λ_=>gy s.heap.objs.size (·.pop)) _ _ _;refine aAa (aCg i rfl ?_);have m:=aBo (aBF (·.push Value.none)) i rfl;refine aCg (hz:=by seq_fits) m rfl ?_;have z:=aBo (aBF (·.pop)) m rfl;have J:∀b o,b≠s.heap.objs.size->g.get? b=some o->((g.update s.heap.objs.size (aBF (·.push Value.none))).update s.heap.objs.size (aBF (·.pop))).get? b=some o:=
   λb o L e=>(aAF _ _<|aBY L).trans ((aAF _ _<|aBY L).trans e)
  exact aAb ⟨aCd aDg _,f _ _ _ (λb o e=>J b o (H b o e) (v b o e)) (B g _ l J) z λs' q=>⟨rfl,q⟩⟩
 exact aAb ⟨aCd aDg _,f _ _ _ v l i λs' q=>⟨rfl,q⟩⟩
def KS:typeLookup (.type "zip") "__len__"=pure none:=by rw[aDx,aCs];kernel_rfl
def CQ:typeLookup (.type "zip") "__length_hint__"=pure none:=by rw[aDx,aCs];kernel_rfl
def PU{Q:F7}(t:A.handled=none)(D:ZipApart z TI TO f g i l2)(u:Y.size=l.size)(y:Y.size<=sizeLine)(st:SU z TI TO f g i l2 Y l 0 s.heap)(C:∀h' B c,(∀b o,b∉[z,TO,f,g]->s.heap.get? b=some o->h'.get? b=some o)->h'.get? s.heap.objs.size=some {cls:=.type "list",dict:=none,data:=.seq B c,slots:=#[]}->Pairs s.heap Y l B Y.size h' [z,TO,f,g,s.heap.objs.size]->Q (.ref s.heap.objs.size) {s with heap:=h'}):
  a9 (be prog w) A (call (.type "list") [.ref z]) Q E s:=by
 have lt:∀b∈[z,TI,TO,f,g,i,l2],b≠s.heap.objs.size:=λb d=>by
  obtain⟨⟨H,I,n,_⟩,J,⟨a,b',L⟩,⟨o1,N,_⟩,⟨o2,O,_⟩,⟨o3,U,_⟩,⟨o4,g4,_⟩⟩:=st;simp only[aAc,aAR,or_false]at d;rcases d with rfl|rfl|rfl|rfl|rfl|rfl|rfl
  .exact aAm (aAg n)
  .exact aAm (aAg J)
  .exact aAm (aAg L)
  .exact aAm (aAg N)
  .exact aAm (aAg O)
  .exact aAm (aAg U)
  exact aAm (aAg g4)
 refine eJ (T:= "zip") (room:=true) (SU z TI TO f g i l2 Y l 0) (λm h=>h.type) (λh h' x k=>x.keeps λb o d e=>k b o (lt b d) e) (lt z (by simp)) (by decide) (by decide) (λp h2=>by rw[h9 (by decide)];exact p rfl)
  (λm Q E x q=>?_) (λm Q E x q=>?_) st λp c R r ZF hS hR=>?_
 .obtain⟨⟨H,I,n,_⟩,_⟩:=id x;refine aFq x.type F.slot_zip_iter (aBB F.slot_zip_iter x.type F.entry_zip_iter ?_ (F.args_zip_iter_1 _));show a9 _ _ (ret<|.ref z) _ _ m;exact aAb ⟨_,rfl, "zip",_,x.type,aEb.lookup,q⟩
 .unfold aCM;refine aAa (aBC x.type KS ?_);show a9 _ _ (specialOf (aDH z) (aDw "__length_hint__")>>=_) _ _ _;exact aAa (aBC x.type CQ<|aAb q)
 refine SQ (by simpa using t) D u y s.heap.objs.size (λh=>lt _ h rfl) .none s.heap Y.size 0 _ #[] c (by lia) (aAY _) (λb o _ e=>r b o e) ZF hS ⟨rfl,λj v h=>by simp at h⟩ λh' jo c' kp je hP=>hR _ (C h' jo c' (λb o d e=>kp b o ?_ (r b o e)) je hP);have:=aAm (aAg e);simp only[aAc,aAR,or_false,not_or]at d⊢;exact⟨d.1,d.2.1,d.2.2.1,d.2.2.2,this⟩
def LW:typeLookup (.type "list_reverseiterator") "__len__"=pure none:=by rw[aDx,aCs];kernel_rfl
def TZ:typeLookup (.type "list_reverseiterator") "__length_hint__"=pure (some (.builtin "list_reverseiterator.__length_hint__")):=by rw[aDx,aCs];kernel_rfl
def RM{Q:F7}(C:A.handled=none)(H:l≠r)(I:Y.size<=sizeLine)(p:s.heap.IsRevIter r l ((Y.size:Int)-1))(t:s.heap.IsList l Y)(J:∀h' tk c,(∀b o,b≠r->s.heap.get? b=some o->h'.get? b=some o)->h'.get? s.heap.objs.size=some {cls:=.type "list",dict:=none,data:=.seq Y.reverse c,slots:=#[]}->Q (.ref s.heap.objs.size) {s with heap:=h',toks:=tk}):
  a9 (be prog w) A (call (.type "list") [.ref r]) Q E s:=by
 have j:r≠s.heap.objs.size:=by obtain⟨o,g,_⟩:=p;exact aAm (aAg g)
 have u:l≠s.heap.objs.size:=by obtain⟨o,g,_⟩:=t;exact aAm (aAg g)
 refine eJ (T:= "list_reverseiterator") (room:=false) (λh=>h.IsRevIter r l ((Y.size:Int)-1)/\h.IsList l Y) (λv h=>h.1.typeIs) (λh h' x k=>⟨x.1.at λo e=>k r o j e,x.2.at λo e=>k l o u e⟩) j (by decide) (by decide)
  (λL N=>by rw[ia (by decide)];exact N rfl) (λv Q E x q=>wpAny_pyIter_revIter x.1 q) (λv Q E x q=>?_) ⟨p,t⟩ λL c R O ZF U hR=>?_
 .have m:=x.1.typeIs;unfold aCM;refine aAa (aBC m LW ?_);show a9 _ _ (specialOf (aDH r) (aDw "__length_hint__")>>=_) _ _ _;refine aAa (aBC m TZ ?_)
  (generalize hid:("list_reverseiterator.__length_hint__":String)=a;(fail_if_success (clear hid a));wp_delta;rw[show splitId a=some ("list_reverseiterator", "__length_hint__")from by subst hid;decide+kernel];subst hid)
  refine aAa (aDO (b:=true) m (by rw[aFd];kernel_rfl) ?_);exact aAb q
 have W:=(Walks.listRev (prog:=prog) (w:=w) (A:=A.in1.in1) (by simp[C]) r l H Y).toS;refine codeAny_extend_loopS W I s.heap.objs.size (by simp only[aAc,aAR,or_false,not_or];exact⟨aBY j,aBY u⟩) .none Y.size 0 _ #[] c (by lia) (aAY _) ⟨aAY _,by simpa using ZF.1,ZF.2⟩ U (ItemsOf.nil _) λd y c' f je n=>hR _ ?_;have ea:y=Y.reverse:=by
  apply Array.ext';apply aFl;intro i;rw[aAE,aAE];by_cases z:i<Y.size
  .have B:i<y.size:=by rw[n.1];exact z
   have:=n.2 i _ (aAN B);rw[aAN B,Array.getElem?_reverse z,this]
  rw[aCP (by rw[n.1];lia),aCP (by simp;lia)]
 subst ea;have g0:d.gens=s.gens:=f.gens;have d0:d.drawn=s.drawn:=f.drawn;have o0:d.os=s.os:=f.os;obtain⟨h',g',d',yo,os'⟩:=d;subst g0 d0 o0;refine J h' yo c' (λb o hb e=>?_) je;exact f.heap b o (by simp only[aAc,aAR,or_false,not_or];exact⟨aAm (aAg e),hb⟩) (O b o e)
end
end SZ
namespace DL
open PySem PySem.Spec L2
open PyProof.Rows hiding St
section
variable [Tabs]
section
def a2e:D->R (List D)
 |.lst Y=>.ok Y.reverse
 |_=>.bad
def EK(ha:PB X e f)(hh:X.calm=true)(hg:Gl X "reversed":=by rfl)(hm:X.mg "reversed"=none:=by assumption)(A:Gl X "list":=by rfl)(jn:X.mg "list"=none:=by assumption)(hv:de "reversed"=some (.type "reversed"):=by decide+kernel)(B:de "list"=some (.type "list"):=by decide+kernel)(Y:bb [e] X.env=(false,dm e X.env)::bb [] X.env:=by rfl)(bf:(cy j (bb [] X.env)).any (·.1)=false:=by rfl)(ma:bb [.Call (.Name "reversed" C) [e] [] j] X.env=(false,dm (.Call (.Name "reversed" C) [e] [] j) X.env)::bb [] X.env:=by rfl)(xp:(cy i (bb [] X.env)).any (·.1)=false:=by rfl)(J:cy i (bb [] X.env)=[]:=by rfl):
  PF X (.Call (.Name "list" p) [.Call (.Name "reversed" C) [e] [] j] [] i) (λρ=>(f ρ).bind a2e):=by
 refine uR λk s σ H Q I H9 O0 O ρ E q=>?_;dsimp only at q;refine aBf (T7 I A jn B ?_ (by decide) (by decide));refine aBv ?_ ma xp;rw[ma];show a9 _ _ (spliced ((false,dm (.Call (.Name "reversed" C) [e] [] j) X.env)::cy i (bb [] X.env))) _ _ s;refine aEX (aBf (T7 I hg hm hv ?_ (by decide) (by decide)));have sr:PA X [e] _:=M8 ha cR Y;refine aBv (F5 (sr j k s σ H (λL l=>∃v m,L=[v]/\f ρ=.ok (.lst m)/\Same H l/\B4 X.K l O v (.lst m)) I ⟨H9,O0,O,ρ,E,?_⟩) λy h z9=>?_) Y bf
 .cases N:f ρ with
  |ex z=>rw[N]at q;exact q
  |bad=>rw[N]at q;exact q.elim
  |ok d=>
   rw[N,R.aa0]at q;cases d with
   |lst m=>exactλv l h T=>⟨v,m,rfl,rfl,h,T⟩
   |_=>exact aAf q
 obtain⟨L,l,n,T,v,m,ev,ef,sm,rb⟩:=z9;subst ev;rw[ef,R.aa0]at q;obtain⟨a,U,rfl,hS,rr⟩:=rb.aa5;obtain⟨u,rfl,ru⟩:=vals1 T;cases ru;obtain⟨g,rv,⟨oL,nL,gL,cL,dL,sL⟩,zL⟩:=n.list hS;have hl:h.heap.IsList a g.toArray:=⟨oL,gL,cL,nL,sL⟩;refine call_reversed_list hl ?_;rw[J];refine aFn ?_;have ge:a≠h.heap.objs.size:=aAm (aAg gL);have I2:=n.kept (h':=h.heap.push (revObj a<|(g.toArray.size:Int)-1)) (t':=h.toks) λb u e=>aAd _ e;refine SZ.RM (s:={h with heap:=h.heap.push (revObj a<|(g.toArray.size:Int)-1)}) (n.ok.hd hh) ge (by rw[aAn,<-rv.length];exact zL) ⟨_,aAq _ rfl,rfl,rfl⟩ (hl.push _) λh' tk c kp gl=>?_;have kk:∀b u,h.heap.get? b=some u->h'.get? b=some u:=λb u e=>kp b u (aAm<|aAg e) (aAd _ e);have w:h.heap.objs.size<=(h.heap.push<|revObj a<|(g.toArray.size:Int)-1).objs.size:=by rw[aBI];lia
 have x:l7 U.reverse g.reverse:=by
  have:∀{L:List V}{y:List au},l7 L y->l7 L.reverse y.reverse:=λ{L y} r=>by
   induction r with
   |nil=>exact .nil
   |cons r t ih=>rw[aAP,aAP];exact ih.append (.cons r .nil)
  exact this rv
 have I3:=n.laid (a:=(h.heap.push<|revObj a<|(g.toArray.size:Int)-1).objs.size) (o:=.lst U.reverse) (h':=h') (t':=tk) kk w ⟨by rw[aBU];exact zL,g.reverse,c,x,by rw[gl];simp⟩;exact⟨.ref _,_,I3,rfl,q U.reverse l _ sm (n.hok.fresh w) rr.reverse⟩
def _root_.L2.Inv.ae3(I:Inv X d σ H s)(k:∀b u,s.heap.get? b=some u->h'.get? b=some u)(a:Same H Hn)(f:∀b u,H b=none->Hn b=some u->s.heap.get? b=none/\ObjOk X.prog X.w Hn h' b u):
  Inv X d σ Hn {s with heap:=h',toks:=t'}:=by
 refine I.un ⟨λb o e _ _ _=>k b o e,λb o e _ _ _=>⟨o.slots,k b o e⟩,λb o e n _=>?_,λb o e _=>⟨o,k b o e⟩,λb Y e=>a _ _ e,λb o u e=>a _ _ e,λb h e=>a _ _ e⟩ λb u e=>?_
 .cases q:Hn b with
  |none=>rfl
  |some u=>rw[(f b u n q).1]at e;cases e
 cases q:H b with
 |none=>exact(f b u q e).2
 |some g=>have:=a b g q;rw[e]at this;cases this;exact(I.hok b u q).ac2 (λc v _ z=>k c v z) (λc z=>a _ _ z) λc u _ z=>a _ _ z
def L5(Y d:List D):List D:=aCT (λa b=>D.tup [a,b]) Y d
def YO:List D->R (List D)
 |[.lst Y,.lst a]=>if Y.length=a.length then .ok (L5 Y a)else .bad
 |_=>.bad
def JH{K:ix}{k:Hp}{O:bc->Prop}{h0 h':cq}{l:bc}(hf:∀b,h0.get? b=none->k b=none):∀{Y i:List D}{p r B:List au},A2 K k O p Y->A2 K k O r i->Y.length=i.length->
  (∀(j:Nat) (v:au),B[j]?=some v->∃T x y,v=.ref T/\p[j]?=some x/\r[j]?=some y/\fm h' T x y/\T≠l/\h0.get? T=none)->B.length=Y.length->
  ∃(L:List V) (Hn:Hp),l7 L B/\Same k Hn/\(∀b u,k b=none->Hn b=some u->h0.get? b=none/\b≠l/\∃ws e,u=.tup ws/\ws.length<=2/\l7 ws e/\IsTup h' b e.toArray)/\Reps K Hn O L (L5 Y i):=by
 intro Y i p r B;induction B generalizing Y i p r with
 |nil=>
  intro t z A _ C;cases Y with
  |nil=>cases i with
   |nil=>exact⟨[],k,.nil,Same.refl _,λb u n q=>(by rw[n]at q;cases q),.nil⟩
   |cons _ _=>cases A
  |cons _ _=>cases C
 |cons v B ih=>
  intro t z A hP C;cases t with
  |nil=>cases C
  |@cons u d p Y rx t=>
   cases z with
   |nil=>cases A
   |@cons N d' r i ry z=>
    obtain⟨T,x,y,rfl,ex,ey,hp,nl,s⟩:=hP 0 v rfl;cases ex;cases ey;obtain⟨L,Hn,r1,m,Q,rr⟩:=ih t z (by simpa using A) (λj v hj=>by obtain⟨T,x,y,e1,U,e3,e4⟩:=hP (j+1) v (by simpa using hj);exact⟨T,x,y,e1,by simpa using U,by simpa using e3,e4⟩) (by simpa using C)
    obtain⟨E,rvx,f⟩:=rx;obtain⟨H,rvy,h⟩:=ry;have v2:l7 [E,H] [u,N]:=.cons rvx (.cons rvy .nil);cases q:Hn T with
    |none=>
     have I:Same Hn (upd Hn T<|.tup [E,H]):=k9 q _;refine⟨.ref T::L,upd Hn T (.tup [E,H]),.cons rfl r1,m.trans I,λb w n J=>?_,.cons (.tup (Y0.of j2) (.cons ((f.same m).same I) (.cons ((h.same m).same I) .nil))) (rr.same I)⟩;by_cases hb:b=T
     .subst hb;rw[j2]at J;cases J;exact⟨s,nl,_,_,rfl,by simp,v2,⟨_,hp,rfl,0,rfl⟩⟩
     rw[l5 hb]at J;exact Q b w n J
    |some w=>
     obtain⟨_,_,ws,e,rfl,_,vw,⟨o,g,_,n,dd⟩⟩:=Q T w (hf T s) q;have hp':h'.get? T=some {cls:=.type "tuple",data:=.seq #[u,N]}:=hp;rw[hp']at g;cases g;have U:e=[u,N]:=by have:=ir (λd=>match d with|Data.seq a _=>a.toList|_=>[]) dd;simpa using this.symm
     subst U;have:ws=[E,H]:=vw.inj v2;subst this;exact⟨.ref T::L,Hn,.cons rfl r1,m,Q,.cons (.tup (Y0.of q) (.cons (f.same m) (.cons (h.same m) .nil))) rr⟩
def EI{e1 e2:cu}{p p2 C:Pos}{J N:Ev->R D}(ha1:PB X e1 J)(ha2:PB X e2 N)(hh:X.calm=true)(hg:Gl X "zip":=by rfl)(hm:X.mg "zip"=none:=by assumption)(hg2:Gl X "list":=by rfl)(jn:X.mg "list"=none:=by assumption)
  (hv:de "zip"=some (.type "zip"):=by decide+kernel) (hv2:de "list"=some (.type "list"):=by decide+kernel)
  (he1:bb [e2] X.env=(false,dm e2 X.env)::bb [] X.env:=by rfl) (he:bb [e1,e2] X.env=(false,dm e1 X.env)::bb [e2] X.env:=by rfl) (bf:(cy C (bb [e2] X.env)).any (·.1)=false:=by rfl)
  (ma:bb [.Call (.Name "zip" p2) [e1,e2] [] C] X.env=(false,dm (.Call (.Name "zip" p2) [e1,e2] [] C) X.env)::bb [] X.env:=by rfl) (xp:(cy m (bb [] X.env)).any (·.1)=false:=by rfl) (hnl:cy m (bb [] X.env)=[]:=by rfl):
  PF X (.Call (.Name "list" p) [.Call (.Name "zip" p2) [e1,e2] [] C] [] m) (λρ=>(m5 J (m5 N R6) ρ).bind YO):=by
 refine uR λU s σ H Q I H9 O0 O ρ E q=>?_;dsimp only at q;refine aBf (T7 I hg2 jn hv2 ?_ (by decide) (by decide));refine aBv ?_ ma xp;rw[ma];show a9 _ _ (spliced ((false,dm (.Call (.Name "zip" p2) [e1,e2] [] C) X.env)::cy m (bb [] X.env))) _ _ s;refine aEX (aBf (T7 I hg hm hv ?_ (by decide) (by decide)));have sr:tq X [e1,e2] (m5 J<|m5 N R6):=u5 ha1 (u5 ha2 E8 he1) he;refine aBv (F5 (sr C U s σ H (λL k=>∃v1 v2 Y f,L=[v1,v2]/\m5 J (m5 N R6) ρ=.ok [.lst Y,.lst f]/\Y.length=f.length/\Same H k/\B4 X.K k O v1 (.lst Y)/\B4 X.K k O v2 (.lst f)) I ⟨H9,O0,O,ρ,E,?_⟩) λus d z9=>?_) he bf
 .cases e1:m5 J (m5 N R6) ρ with
  |ex z=>rw[e1]at q;exact q
  |bad=>rw[e1]at q;exact q.elim
  |ok ds=>
   rw[e1,R.aa0]at q;match ds,q with
   |[.lst Y,.lst f],q=>
    simp only[YO]at q;by_cases hc:Y.length=f.length
    .intro L k d r;cases r with
     |cons ra r=>cases r with
      |cons rb r=>cases r with
       |nil=>exact⟨_,_,Y,f,rfl,rfl,hc,d,ra,rb⟩
    rw[ia hc]at q;exact aAf q
 obtain⟨L,k,I1,r,v1,v2,Y,f,ev,ef,t,sm,rb1,rb2⟩:=z9;subst ev;rw[ef,R.aa0]at q;simp only[YO]at q;rw[h9 t]at q;obtain⟨a,wx,rfl,hSx,rx⟩:=rb1.aa5;obtain⟨b,wy,rfl,hSy,ry⟩:=rb2.aa5;obtain⟨u1,u2,rfl,ru1,ru2⟩:=vals2 r;cases ru1;cases ru2;obtain⟨w,g,⟨oX,nX,gX,cX,dX,sX⟩,zX⟩:=I1.list hSx;obtain⟨A,rvy,⟨oY,nY,gY,cY,dY,sY⟩,zY⟩:=I1.list hSy;have hlx:d.heap.IsList a w.toArray:=⟨oX,gX,cX,nX,sX⟩;have hly:d.heap.IsList b A.toArray:=⟨oY,gY,cY,nY,sY⟩;refine call_zip_2 hlx hly λh z1 z2 z3 z4 z5 zsz k1=>?_;rw[hnl];refine aFn ?_;have lx:w.length=Y.length:=by rw[<-g.length,rx.length]
 have ly:A.length=f.length:=by rw[<-rvy.length,ry.length]
 have I2:=I1.kept (h':=h) (t':=d.toks) k1;have D:=zipApart_new (n:=d.heap.objs.size) (aAg gX) (aAg gY);refine SZ.PU (s:={d with heap:=h}) (I1.ok.hd hh) D (by rw[aAn,aAn,lx,ly,t]) (by rw[aAn,<-g.length];exact zX) ⟨⟨_,_,z1,.inl rfl⟩,z2,⟨_,_,z3⟩,z4,z5,hlx.at λo e=>k1 _ o e,hly.at λo e=>k1 _ o e⟩ λh' B c kp gl hP=>?_;have k12:∀b u,d.heap.get? b=some u->h'.get? b=some u:=λb u e=>kp b u (by have i:=aAg e;simp only[aAc,aAR,or_false,not_or];exact⟨aAm (aAw i<|aEq _ _),aAm (aAw i<|aEq _ _),aAm i,aAm (aAw i<|aEq _ _)⟩) (k1 b u e)
 have sx:A2 X.K k O w Y:=A2.of g rx;have sy:A2 X.K k O A f:=A2.of rvy ry;obtain⟨L,Hn,rva,smn,oi,rr⟩:=JH (h0:=h) (h':=h') (l:=h.objs.size) (λb i=>by
  cases q:k b with
  |none=>rfl
  |some u=>exact absurd i ((I2.hok b u q).live)) (B:=B.toList) sx sy t (λj v hj=>by
  obtain⟨T,x,y,e1,e2,e3,e4,e5,e6⟩:=hP.2 j v (by rw[<-aAE];exact hj);exact⟨T,x,y,e1,by simpa using e2,by simpa using e3,e4,λz=>e5 (by simp[z]),e6⟩) (by rw[aBi,hP.1,aAn,lx])
 have hls:Hn h.objs.size=none:=by
  cases q:Hn h.objs.size with
  |none=>rfl
  |some u=>have:=(oi _ u (I2.hok.fresh<|aAl _) q).2.1;exact absurd rfl this
 have hlen:L.length<=sizeLine:=by rw[rva.length,aBi,hP.1,aAn,<-g.length];exact zX
 have s3:Same Hn (upd Hn h.objs.size<|.lst L):=k9 hls _;have I3:=I1.ae3 (Hn:=upd Hn h.objs.size (.lst L)) (h':=h') (t':=d.toks) k12 (smn.trans s3) (λb u n qb=>by
  by_cases i:b=h.objs.size
  .subst i;rw[j2]at qb;cases qb;refine⟨aEt (by rw[zsz];lia),hlen,B.toList,c,rva,by rw[gl]⟩
  rw[l5 i]at qb;obtain⟨h0b,_,ws,its,rfl,l2,vw,tt⟩:=oi b u n qb;refine⟨?_,aAr l2 (by decide),its,vw,tt⟩;cases z:d.heap.get? b with
  |none=>rfl
  |some o=>rw[k1 b o z]at h0b;cases h0b)
 exact⟨.ref _,_,I3,rfl,q L Hn _ (sm.trans smn) hls rr⟩
end
mutual
def kO:D->Nat
 |.tup Y=>L4 Y+1
 |_=>1
def L4:List D->Nat
 |[]=>0
 |x::Y=>kO x+L4 Y
end
theorem eI:∀Y a:List D,L4 (Y++a)=L4 Y+L4 a
 |[],a=>by simp[L4]
 |x::Y,a=>by rw[aAO,L4,L4,eI Y a];lia
section
variable{prog:bM}{w:cp}
def PHe(prog:bM)(w:cp)(h:cq)(v:au)(d:D):Prop:=∀(A:cf) (E:F7) (s:ba) (Q:Int->ba->Prop),s.heap=h->A.units+8*G4 d<cz->Q (m9 d) {s with toks:=s.toks+kO d}->a9 (be prog w) A (pyHash v) Q E s
mutual
theorem QE:∀{v:au}{d:D},HV h v d->PHe prog w h v d
 |_,_,.int i t=>λA E s Q C H q=>(intKind prog w).pyHash (k:=i) (intKind_is _ _ _ _) q
 |_,_,.tup (a:=a) (items:=items) (ds:=ds) p r=>λA E s Q C H q=>by
  have fs:=IH r;subst C;obtain⟨o,I,N,n,O⟩:=p;have l:s.TypeIs (.ref a) "tuple":=⟨o,I,N⟩;have y:A.units<cz:=by lia
  rw[G4]at H;unfold pyHash;first|unfold pyHashByItsType|skip
  first|refine aAa (wpAny_cRoomFor_or (.inr y) ?_)|skip
  refine aAa (aBC l PySem.F.slot_tuple_hash.lookup ?_);show a9 _ _ (if(some (aGr "tuple.__hash__")==some Value.none)=true then _ else _) Q E s;rw[ia (by rw[aFB];exact aAU)];refine aAa (aBC l PySem.F.slot_tuple_hash.lookup ?_);show a9 _ _ (callSpecialIfBoundUnlessNone? (.ref a) "__hash__" _>>=_) Q E s;refine aAa (aDr l PySem.F.slot_tuple_hash<|aBB PySem.F.slot_tuple_hash l PySem.F.entry_tuple_hash ?_ (PySem.F.args_tuple_hash_1 _));show a9 _ _ (aDD (.ref a)>>=_) _ _ s;refine aAa (wpAny_tupleItemsOf I O ?_);refine aAa ?_;rw[<-aCv];refine aCy _
   (λrest (b:Array Int) z=>∃done left,ds=done++left/\Paired (PHe prog w s.heap) rest left/\b.toList=done.map m9/\z={s with toks:=s.toks+L4 done})
   _ ?_ ?_ _ _ ⟨[],ds,rfl,fs,rfl,rfl⟩
  .rintro x rest b z ⟨done,left,f,B,m,rfl⟩;cases B with
   |@cons _ d _ e T J=>
    refine aAa (T _ _ _ _ rfl ?_ ?_)
    .have:G4 d<=A8 ds:=by rw[f];exact oF (j:=done.length) (by simp)
     rw[o6];lia
    have L:s.toks+L4 done+kO d=s.toks+L4 (done++[d]):=by rw[eI];simp[L4];lia
    first
     |exact aAb ⟨done++[d],e,by simp[f],J,by simp[m],by rw[<-L]⟩
     |exact aAa (aAb (aAb ⟨done++[d],e,by simp[f],J,by simp[m],by rw[<-L]⟩))
  rintro b z ⟨done,left,f,B,m,rfl⟩;cases B;rw[aCb]at f;subst f;show a9 _ _ (retInt<|aAT b.toList) _ _ _;rw[m];refine wpAny_ret_mkInt ?_;show a9 _ _ (if(decide (-(2:Int)^63<=aAT (ds.map m9))&&decide (aAT (ds.map m9)<2^63))=true then _ else _) Q E _;have g:=q;rw[m9,iG,kO]at g;unfold reduceHash at g;by_cases u:(decide (-(2:Int)^63<=aAT (ds.map m9))&&decide (aAT (ds.map m9)<2^63))=true
  .rw[h9 u];rw[h9 u]at g;exact aAb g
  rw[ia u];rw[ia u]at g;exact aAa (aDy<|aAb g)
theorem IH:∀{v:List au}{d:List D},HVs h v d->Paired (PHe prog w h) v d
 |_,_,.nil=>.nil
 |_,_,.cons r t=>.cons (QE r) (IH t)
end
end
theorem nV:∀{n:Nat}{d:D},T1 n d=true->rM d=true/\G4 d<=n
 |n,.int i,_=>⟨rfl,by simp[G4]⟩
 |0,.tup Y,h=>by simp[T1]at h
 |n+1,.tup Y,h=>by
  have g:Y.all (T1 n)=true:=by simpa[T1]using h
  have e:∀a:List D,a.all (T1 n)=true->aO a=true/\A8 a<=n:=λa=>by
   induction a with
   |nil=>intro _;exact⟨rfl,aAY _⟩
   |cons y a j=>intro f;simp only[aGq,aAQ]at f;obtain⟨k,o⟩:=nV f.1;obtain⟨l,p⟩:=j f.2;exact⟨by show(rM y&&aO a)=true;rw[k,l];rfl,by show max (G4 y) (A8 a)<=n;lia⟩
  obtain⟨m,q⟩:=e Y g;exact⟨m,by show A8 Y+1<=n+1;lia⟩
 |n,.non,h=>by cases n<;>simp[T1]at h
 |n,.dct,h=>by cases n<;>simp[T1]at h
 |n,.bl b,h=>by cases n<;>simp[T1]at h
 |n,.str x,h=>by cases n<;>simp[T1]at h
 |n,.lst Y,h=>by cases n<;>simp[T1]at h
mutual
theorem HV.ab9(k:∀b o,h.get? b=some o->(∃a n,o.data=.seq a n)->h'.get? b=some o):∀{v:au}{d:D},HV h v d->HV h' v d
 |_,_,.int i t=>.int i t
 |_,_,.tup p r=>.tup (by obtain⟨o,e,c,n,d⟩:=p;exact⟨o,k _ _ e ⟨_,n,d⟩,c,n,d⟩) (HVs.ab9 k r)
theorem HVs.ab9(k:∀b o,h.get? b=some o->(∃a n,o.data=.seq a n)->h'.get? b=some o):∀{v:List au}{d:List D},HVs h v d->HVs h' v d
 |_,_,.nil=>.nil
 |_,_,.cons r t=>.cons (HV.ab9 k r) (HVs.ab9 k t)
end
instance decD:DecidableEq D:=λa b=>aEa _
def uC(prog:bM) (w:cp):HeapKind prog w D where
 is:=λh d a=>HV h (.ref a) d/\G4 d<8
 hash:=m9
 draws:=kO
 room:=λA=>A.units+128<cz
 inj:=λx y=>HV.inj x.1 y.1
 keeps:=λ{h u k a d o v B} x j l m=>⟨x.1.ab9<|by rintro b C e ⟨p,n,q⟩;exact(m.2 b (λz=>by subst z;rw[j]at e;cases e;rw[l]at q;cases q)).trans e,x.2⟩
 pyHash:=λ{A E s k a Q} r f q=>QE f.1 A E s Q rfl (by have:=f.2;lia) q
 eqBool:=λ{A E s x y a b Q} r g i q=>by
  have t:=HM (A:=A) g.1 i.1 (by have:=g.2;lia);refine t prog w E Q ?_;have e:v5 x y=decide (x=y):=by
   by_cases h:x=y
   .subst h;rw[R7,decide_eq_true rfl]
   rw[decide_eq_false h];cases z:v5 x y with
   |false=>rfl
   |true=>exact absurd (jK g.1.ok i.1.ok z) h
  rw[e];exact q
 quiet:=λ{A E s k a Q} f q=>jE 8 f.1 f.2 _ A E s Q rfl q
open Classical in
def fS(N:List (D×D)) (k v:D):List (D×D):=if k∈N.map (·.1)then N.map (λp=>if p.1=k then(p.1,v)else p)else N++[(k,v)]
def JP(N:List (D×D))(k v:D)(h:(N.map (·.1)).Nodup):((fS N k v).map (·.1)).Nodup:=by
 unfold fS;split
 .rw[aBd];have:((λx=>x.1)∘λp:D×D=>if p.1=k then(p.1,v)else p)=λp=>p.1:=by funext p;simp only[aGn];split<;>rfl
  rw[this];exact h
 rename_i n;rw[aBh,aCH];refine⟨h,by simp,λa f b d=>?_⟩;simp at d;subst d;exactλe=>n (e▸f)
section
theorem HZ(I:Inv X d σ H s):∀{es:List DictEntry}{N:List (D×D)},oZ X.K H O es N->∃Y:List (D×bc×au),es=Y.map (entryOfKey (uC X.prog X.w))/\Y.map (·.1)=N.map (·.1)/\(∀x∈Y,(uC X.prog X.w).is s.heap x.1 x.2.1)/\
  Paired (λ(x:D×bc×au) (p:D×D)=>x.1=p.1/\Rep X.K H O (.ref x.2.1) p.1/\(∃v,RelV v x.2.2/\Rep X.K H O v p.2)/\T1 7 p.1=true) Y N
 |_,_,.nil=>⟨[],rfl,rfl,λx h=>(by cases h),.nil⟩
 |e::_,p::_,.cons ⟨⟨a,f,g⟩,j,i,k⟩ t=>by
  obtain⟨Y,l,m,n,o⟩:=HZ I t;obtain⟨ok,r⟩:=nV k;refine⟨(p.1,a,e.val)::Y,?_,by rw[aAk,aAk,m],λx b=>?_,.cons ⟨rfl,g,j,k⟩ o⟩
  .rw[aAk,<-l];congr 1;obtain⟨q,u,y⟩:=e;simp only at f i;subst f i;rfl
  rcases aAc.mp b with rfl|b
  .exact⟨dE I g ok rfl,by show G4 p.1<8;lia⟩
  exact n x b
theorem HF{P:bM}{w:cp}{K:ix}{H:Hp}{O:bc->Prop}:∀{Y:List (D×bc×au)}{N:List (D×D)},Paired (λ(x:D×bc×au) (p:D×D)=>x.1=p.1/\Rep K H O (.ref x.2.1) p.1/\(∃v,RelV v x.2.2/\Rep K H O v p.2)/\T1 7 p.1=true) Y N->oZ K H O (Y.map (entryOfKey (uC P w))) N
 |_,_,.nil=>.nil
 |_,_,.cons ⟨e,a,b,k⟩ t=>.cons ⟨⟨_,rfl,a⟩,b,by rw[<-e];rfl,k⟩ (HF t)
def bI{Y:List (D×bc×au)}{k:D}:(atKey Y k).isSome=true↔k∈Y.map (·.1):=by unfold atKey;rw[Option.isSome_map,List.find?_isSome];simp only[decide_eq_true_eq,aAj]
def GJ(I:Inv X b σ H s)(h:H a=some (.ext λh=>h.get? a=some o))(d:NS a o es)(r:oZ X.K H O es N)(f:(N.map (·.1)).Nodup):
  ∃Y,s.heap.DictOfH (uC X.prog X.w) a Y/\Y.map (·.1)=N.map (·.1)/\Paired (λ(x:D×bc×au) (p:D×D)=>x.1=p.1/\Rep X.K H O (.ref x.2.1) p.1/\(∃v,RelV v x.2.2/\Rep X.K H O v p.2)/\T1 7 p.1=true) Y N:=by
 obtain⟨Y,i,e,j,k⟩:=HZ I r;obtain⟨_,l,m,n,q,t⟩:=d;have g:s.heap.get? a=some o:=(I.hok a _ h).1;exact⟨Y,⟨o,m,n,g,l,q,by rw[t,i],j,by rw[e];exact f⟩,e,k⟩
def JK{K:ix}{Y:List (D×bc×au)}{N:List (D×D)}{k d:D}{b:bc}{u:au}{v:V}(g:Paired (λ(x:D×bc×au) (p:D×D)=>x.1=p.1/\Rep K H O (.ref x.2.1) p.1/\(∃v,RelV v x.2.2/\Rep K H O v p.2)/\T1 7 p.1=true) Y N)(a:Y.map (·.1)=N.map (·.1))
  (l:Rep K H O (.ref b) k) (kk:T1 7 k=true) (i:RelV v u) (j:Rep K H O v d):
  Paired (λ(x:D×bc×au) (p:D×D)=>x.1=p.1/\Rep K H O (.ref x.2.1) p.1/\(∃v,RelV v x.2.2/\Rep K H O v p.2)/\T1 7 p.1=true) (storedH Y k b u) (fS N k d):=by
 unfold storedH fS;by_cases h:k∈N.map (·.1)
 .rw[h9 h,h9 (bI.mpr (by rw[a];exact h))];clear a h;induction g with
  |nil=>exact .nil
  |@cons x p Y N r t f=>
   rw[aAk,aAk];refine .cons ?_ f;unfold putAt;by_cases e:p.1=k
   .rw[h9 (r.1.trans e),h9 e];exact⟨r.1,r.2.1,⟨v,i,j⟩,r.2.2.2⟩
   rw[ia (λz=>e (r.1.symm.trans z)),ia e];exact r
 rw[ia h,ia (λz=>h (by rw[<-a];exact bI.mp z))];clear a h;induction g with
 |nil=>exact .cons ⟨rfl,l,⟨v,i,j⟩,kk⟩ .nil
 |cons r t f=>exact .cons r f
end
section
variable{K:Type} [DecidableEq K] {knd:HeapKind prog w K}
def rZ{Q:yB}(g:knd.room A.in1)(b:knd.is s.heap k a)(i:(d==sysModules)=false)(e:s.heap.DictOfH knd d Y)
  (h:Q (atKey Y k).isSome {s with toks:=s.toks+knd.draws k}):a9 (be prog w) A (contains (.ref d) (.ref a)) Q E s:=by
 unfold contains;try with_reducible refine aAW ?_
 refine aAa (aBC e.typeIs aFa.lookup ?_);show a9 _ _ (if(some (aGr "dict.__contains__")==some Value.none)=true then _ else _) _ E s;rw[ia (by rw[aFB];exact aAU)];refine aAa (wpAny_callSpecialUnlessNone?_slot (name:=aDw "__contains__") e.typeIs aFa
  (aBB aFa e.typeIs entry_dict_contains ?_ (args_dict_contains _ _)))
 show a9 _ _ (dictGet d (.ref a)>>=_) _ _ s;refine aAa (wpAny_dictGet_heap g b e ?_);cases f:atKey Y k with
 |some p=>rw[f]at h;show a9 _ _ (ret<|.bool true) _ _ _;exact aAb ⟨_,rfl,aBu h⟩
 |none=>rw[f]at h;show a9 _ _ (Builtin.Dict.pendingKey? d (.ref a)>>=_) _ _ _;exact aAa (wpAny_pendingKey_other i<|aAb ⟨_,rfl,aBu h⟩)
end
def LD:D->Bool
 |.tup _=>true
 |_=>false
open Classical in
def qF(i:Nat) (ρ:Ev) (k:D):R Bool:=match ρ[i]? with
 |some (.d N)=>if T1 7 k=true/\LD k=true then .ok (!decide (k∈N.map (·.1)))else .bad
 |_=>.bad
section
def pH{K:ix}{H:Hp}{O:bc->Prop}{v:V}{k:D}(r:Rep K H O v k)(h:LD k=true):∃a,v=.ref a:=by
 cases r with
 |tup h r=>exact⟨_,rfl⟩
 |_=>cases h
def JV(i:Nat){x:Str}{p:Pos}{f:Ev->R D}(ha:PD X e f)(hu:X.A.units+130<cz)(hN:X.N[i]?=some x:=by rfl)(hv:AH X.env.scope x:=by first|exact aCB rfl|exact aBM (aCB rfl)|exact aBM (aBM rfl))
  (hd:(x==ja)=false:=by decide) (dc:(x==ka)=false:=by decide) (hm:gW .NotIn (.Name x p)=false:=by first|rfl|with_unfolding_all rfl):
  zE X (.Compare e [.NotIn] [.Name x p] pos) (λρ=>(f ρ).bind (qF i ρ)):=by
 refine uR λU s σ H Q I H9 O0 O ρ E q=>?_;dsimp only at q;refine wpAny_isTrue_Compare1 (LS (ta:=tD X f) (tb:=a1h i) ha (O8 hN hv hd dc) (R:=λy x g=>∃a b o l N k,x=.ref a/\y=.ref b/\g a=some (.ext λh=>h.get? a=some o)/\NS a o l/\oZ X.K g O l N/\(N.map (·.1)).Nodup/\Rep X.K g O (.ref b) k/\T1 7 k=true/\Q (!(open Classical in decide (k∈N.map (·.1)))) g) I ⟨H9,O0,O,ρ,E,?_⟩ λu w s2 y x g t ry rx h=>?_) hm
 .cases B:f ρ with
  |ex z=>rw[B]at q;exact q
  |bad=>rw[B]at q;exact q.elim
  |ok k=>
   rw[B,R.aa0]at q;intro v H1 sm r;unfold qF at q;cases C:ρ[i]? with
   |none=>rw[C]at q;exact aAf q
   |some sl=>
    rw[C]at q;cases sl with
    |d N=>
     dsimp only at q;by_cases j:T1 7 k=true/\LD k=true
     .rw[h9 j]at q;obtain⟨a,o,l,h1,_,_,J,m,L,T⟩:=(E.grow sm).slot i _ C;obtain⟨b,rfl⟩:=pH r j.2;exact⟨_,h1,a,b,o,l,N,k,rfl,rfl,J,m,L,T,r,j.1,q H1 sm⟩
     rw[ia j]at q;exact aAf q
    |_=>exact aAf q
 obtain⟨a,b,o,l,N,k,rfl,rfl,J,m,L,T,rk,j,qq⟩:=h;cases ry;cases rx;obtain⟨Y,hD,ue,hp⟩:=GJ t J m L T;obtain⟨ok,dp⟩:=nV j;show a9 _ _ (contains (.ref a) (.ref b)>>=λc=>pure (aDA (!c))) _ _ s2;refine aAa (rZ (knd:=uC X.prog X.w) (by show X.A.in1.units+128<cz;rw[o6];lia) ⟨dE t rk ok rfl,by lia⟩ m.1 hD (aAb ?_));refine aBu ⟨g,t.tok _,?_⟩;have e3:(atKey Y k).isSome=(open Classical in decide (k∈N.map (·.1))):=by
  by_cases n:k∈N.map (·.1)
  .rw[decide_eq_true n];exact bI.mpr (by rw[ue];exact n)
  rw[decide_eq_false n];cases z:(atKey Y k).isSome with
  |false=>rfl
  |true=>exact absurd (by rw[<-ue];exact bI.mp z) n
 rw[e3];exact qq
def QG(i:Nat)(y:X.N.Nodup)(A:X.N[i]?=some x:=by rfl)(B:Loc X.env.scope x:=by first|exact aCB rfl|exact aBM rfl)(C:eQ (.Dict [] [] f) (some (.Name x g)) j.line X.env=pure false:=by rfl)(J:X.fn x=true\/X.env.scope.names.lookup x=some .local:=by first|exact .inl rfl|exact .inr rfl|assumption):nH X (.Assign [.Name x g] (.Dict [] [] f) j) (λρ=>.ok (.nx (ρ.set i (.d [])))):=by
 rintro U Y t s σ H D I ⟨O,ρ,E,fk,q⟩;refine aEc (wpAny_Dict_empty ?_) C;have v:(s.heap.push {cls:=.type "dict",data:=.dict #[]}).get? s.heap.objs.size=some {cls:=.type "dict",data:=.dict #[]}:=aAq _ rfl;have l:=I.hok.fresh (aAl s.heap.objs.size);have m:=I.laid (a:=s.heap.objs.size) (o:=.ext λh=>h.get? s.heap.objs.size=some {cls:=.type "dict",data:=.dict #[]}) (h':=s.heap.push {cls:=.type "dict",data:=.dict #[]}) (t':=s.toks) (λ_ _ q=>aAd _ q) (aAl _)
  ⟨v,⟨_,v⟩,λh1 h2 e k=>k _ e⟩
 have L:=FS m (j2 (H:=H) (a:=s.heap.objs.size));have p:sysModules<s.heap.objs.size:=aGF (by decide) (I.mod.glob.keeps I.bk).lt;refine N6 m y A B (show RelV (.ref s.heap.objs.size) _ from rfl) (λs3 Q=>⟨_,_,Q,?_⟩) J;have w:=E.ae0 (u:=.ext λh=>h.get? s.heap.objs.size=some {cls:=.type "dict",data:=.dict #[]}) (sl:=.d []) i l L trivial λT=>⟨s.heap.objs.size,_,[],rfl,.inr rfl,T,j2,⟨by simp[aDv p],⟨rfl,rfl,rfl⟩,#[],0,rfl,rfl⟩,.nil,aCU⟩;exact q _ _ _ w (nE m _ w.trk) λb o r n=>⟨by rw[l5 (n8 r l)];exact r,λz=>z.elim n (n8 r l)⟩
def a4i(X:Cx):WM:=λx y v H Q=>∃O a b o f N k d,x=.ref a/\y=.ref b/\H a=some (.ext λh=>h.get? a=some o)/\NS a o f/\oZ X.K H O f N/\(N.map (·.1)).Nodup/\f.length<=sizeLine/\Rep X.K H O (.ref b) k/\T1 7 k=true/\Rep X.K H O v d/\
 ∀g e,NS a g e->oZ X.K H O e (fS N k d)->Q (upd H a<|.ext λh=>h.get? a=some g)
def YF(hu:X.A.units+130<cz):qy X (a4i X):=by
 intro C s σ H x y v ov iv u Q I rx ry ru z;obtain⟨O,a,b,o,es,N,k,d,E,ey,l,m,h6,h7,hz,J,L,rv,q⟩:=z;subst E ey;cases rx;cases ry;obtain⟨Y,T,ue,hp⟩:=GJ I l m h6 h7;obtain⟨ok,dp⟩:=nV L;have f:Y.length<=sizeLine:=by
  obtain⟨_,E,ea,ep,hd,he⟩:=m;obtain⟨o2,me,ep2,U,_,i,ma,_⟩:=T;have g:s.heap.get? a=some o:=(I.hok a _ l).1;rw[g]at U;cases U;rw[hd]at i;cases i;have:=ir List.length (he.symm.trans ma);rw[aAh]at this
  lia
 refine wpAny_setItem_heap (knd:=uC X.prog X.w) (by show X.A.in1.units+128<cz;rw[o6];lia) ⟨dE I J ok rfl,by lia⟩ T (λh' n hs=>?_) f;obtain⟨j,p,r,t,B,ql,ya,is',nd'⟩:=n;have I1:=I.write (x:=a) (e:=a) (o:=.ext λh=>h.get? a=some j) (h':=h') (t':=s.toks+kO k) (by rw[l];trivial) (.inl rfl) (λb u hb e=>(hs.2 b hb).trans e) ⟨j,t⟩ ⟨t,⟨j,t⟩,λh1 h2 e k=>k _ e⟩;exact⟨_,I1,q j _ ⟨m.1,B,p,r,ql,rfl⟩ (by rw[ya];exact HF (JK hp ue J L ru rv))⟩
def yH(i:Nat) (ρ:Ev) (k d:D):R Out:=match ρ[i]? with
 |some (.d N)=>if T1 7 k=true/\LD k=true/\N.length<=sizeLine then .ok (.nx (ρ.set i<|.d (fS N k d)))else .bad
 |_=>.bad
def FQ(i:Nat){x:Str}{k:cu}{f g:Ev->R D}{p ps:Pos}(he:PD X e f)(j:PD X k g)(hu:X.A.units+130<cz)(hN:X.N[i]?=some x:=by rfl)(hv:AH X.env.scope x:=by first|exact aCB rfl|exact aBM (aCB rfl)|exact aBM (aBM rfl))(hd:(x==ja)=false:=by decide)
  (dc:(x==ka)=false:=by decide) (ha:∀v,gs (.Subscript (.Name x p) k ps) X.env v=(do
   let t<-fg [v] (dm (.Name x p) X.env)
   let B<-fg [v,t] (dm k X.env)
   standAt ps
   fg [v,t,B] (setItem t B v)
   release [v,t,B] []):=by intro _;rfl)
  (hs:fo [.Subscript (.Name x p) k ps] e C.line X.env=pure false:=by rfl) (hw:gk [.Subscript (.Name x p) k ps] e X.env=pure none:=by rfl) (u:(dC [.Subscript (.Name x p) k ps] X.env).map (·.2)=[gs (.Subscript (.Name x p) k ps) X.env]:=by rfl):
  nH X (.Assign [.Subscript (.Name x p) k ps] e C) (λρ=>(f ρ).bind λd=>(g ρ).bind λl=>yH i ρ l d):=λU Y=>
 BW (DG he (TH (O8 hN hv hd dc) j (YF hu) ha) hs hw u) λD σ H O ρ E fk q=>⟨U,Y,O,ρ,E,by
  cases I:f ρ with
  |ex z=>rw[I]at q;exactλH' s=>q H' (E.same.trans s)
  |bad=>rw[I]at q;exact q
  |ok d=>
   rw[I,R.aa0]at q;intro v H1 s1 r1;have J:=E.grow s1;cases w:g ρ with
   |ex z=>rw[w]at q;exact(q H<|E.same.trans<|Same.refl _).elim
   |bad=>rw[w]at q;exact aAf q
   |ok l=>
    rw[w,R.aa0]at q;unfold yH at q;cases y:ρ[i]? with
    |none=>rw[y]at q;exact aAf q
    |some sl=>
     rw[y]at q;cases sl with
     |d N=>
      dsimp only at q;by_cases j:T1 7 l=true/\LD l=true/\N.length<=sizeLine
      .rw[h9 j]at q;obtain⟨a,o,es,u,h2,h3,L,h5,h6,h7⟩:=J.slot i _ y;refine⟨_,u,U,Y,O,ρ,J,?_⟩;rw[w];intro kv H2 n r2;have E2:=J.grow n;obtain⟨b,rfl⟩:=pH r2 j.2.1;have Q:oZ X.K H2 O es N:=h6.mono λr=>r.same n;refine⟨O,a,b,o,es,N,l,d,rfl,rfl,n _ _ L,h5,Q,h7,by rw[h6.length];exact j.2.2,r2,j.1,r1.same n,λo' T d' r'=>?_⟩;obtain⟨E3,k3⟩:=E2.ae4 (sl':=.d (fS N l d)) (u':=.ext λh=>h.get? a=some o') y trivial u (n _ _ L) trivial trivial λhO h0 m=>⟨a,o',T,rfl,h2,h3,j2,d',r'.mono λr=>r.upd (n _ _ L) trivial h2,JP N l d h7⟩;exact q _ _ _ E3 fk (((Kp.of s1).trans (Kp.of n)).trans k3)
      rw[ia j]at q;exact aAf q
     |_=>exact aAf q⟩
end
end
section
variable [Tabs]
end
section
variable [Tabs]
section
variable{K:Type} [DecidableEq K] {knd:HeapKind prog w K}
end
section
variable{o e:cu}{es:List cu}{to:TE}{t:TA}{name:Str}{apos ao:Pos}{T id:String}{r:V->List V->Hp->VK->Prop}
end
open Classical in
def atK(N:List (D×D)) (k:D):Option D:=(N.find? λp=>decide (p.1=k)).map (·.2)
section
variable{A:cf}{s:ba}{prog:bM}{w:cp}{E:F7}
end
end
end DL
namespace MM
open PySem
def UA(prog:bM)(w:cp)(A:cf)(op:CmpOp)(d:cq->Prop)(P:Nat->au->Prop)(e:Nat->Nat->Bool):Prop:=
 ∀i j a b (s:ba) (Q:F7) (E:F7),d s.heap->P i a->P j b->Q (.bool (e i j)) s->a9 (be prog w) A (richCompare op a b) Q E s
section
def LI(W:WalksS prog w A.in1 I fp r G n P St){N:cq->Prop}(hH:∀i s,St i s->N s.heap)(p:Nat->Nat->Bool)(xt:UA prog w A.in1 .Lt N P p)(S:bc)(O:S∉fp):
  ∀(k j:Nat) (s:ba) (d:au) (c:Nat),n-(j+1)=k->j+1<=n->St (j+1) s->P (ff p j) d->
  s.heap.get? S=some {cls:=.type "list",dict:=none,data:=.seq #[d,d] c,slots:=#[]}->
  (∀v s',P (ff p (n-1)) v->Moved (S::r) G s s'->R (.ok (.ret v)) s')->gn (be prog w) A (.builtin "min.loop" ⟨[.ref I,.none,.ref S],[]⟩) R s:=by
 have t:S∉r:=λh=>O (W.sub _ h);have z:∀b∈r,b∈S::r:=λb a=>aAe _ a;have Q:(toString "min"++toString ".loop":String)= "min.loop":=by decide
 have g:∀{b:bc},b∉S::r->S≠b:=λa h=>a (by rw[h];exact aBm);intro k;induction k with
 |zero=>
  intro j s d c hk hj B f u y;have T:j+1=n:=by omega
  refine aBQ aFD ?_;rw[aBs aCR _];show a9 _ A.in1 (seqItems? (.ref S)>>=_) _ _ s;refine aAa (aBP u rfl ?_);show a9 _ A.in1 (tryCatch (fh<|.ref I) _>>=_) _ _ s;refine aAa (aFe<|W.done s _ _ (T▸B) λs' q=>?_);have x:=q.heap S _ t u;show a9 _ A.in1 (gy S (λ_=>#[])>>=_) _ _ _;refine aAa ?_;refine aCg x rfl (aAa<|aEd<|aAb ?_);exact y d _ (by rw[<-T];exact f) ((q.mono z).then_heap (tk:=s'.toks) (aAl _) λb o a e=>(aAF _ _<|g a).trans e)
 |succ k U=>
  intro j s d c hk hj B f u y;have C:j+1<n:=by omega
  refine aBQ aFD ?_;rw[aBs aCR _];show a9 _ A.in1 (seqItems? (.ref S)>>=_) _ _ s;refine aAa (aBP u rfl ?_);show a9 _ A.in1 (tryCatch (fh<|.ref I) _>>=_) _ _ s;refine aAa (aFe<|W.item (j+1) s _ _ C B λv s' Y E q=>?_);have x:=q.heap S _ t u;show a9 _ A.in1 (tryCatch (fg [v,v]<|richCompare .Lt v d>>=_) _>>=_) _ _ _;refine aAa (aFe<|aAW<|aAa<|xt (j+1) (ff p j) v d _ _ _ (hH _ _ E) Y f ?_);refine aAa (aAW<|aBu ?_);refine aAa (aEd<|aAb ?_);cases a:p (j+1) (ff p j)with
  |true=>
   simp only[if_true];refine aAa ?_;refine aCg x rfl (aAa<|aEd ?_);rw[Q];refine aAb ⟨aCd aCR _,U (j+1) _ v _ (by omega) C (W.frame _ s' _ s'.toks E (aAl _) λb H o e=>?_) (by simp only[ff,a,if_true];exact Y) (aBo _ x rfl)
    λJ l m L=>?_⟩
   .exact(aAF _ _ (λh:S=b=>O (by rw[h];exact H))).trans e
   exact y J l m (aFv W.gtrans ((q.mono z).then_heap (aAl _) λb o a e=>(aAF _ _<|g a).trans e) L)
  |false=>simp only[aAv,if_false];refine aAa (aEd ?_);rw[Q];refine aAb ⟨aCd aCR _,U (j+1) _ d c (by omega) C E (by simp only[ff,a,aAv,if_false];exact f) x λJ l m L=>?_⟩;exact y J l m (aFv W.gtrans (q.mono z) L)
def DK(W:WalksS prog w A.in1 I y a G n P St){q:cq->Prop}(z:∀i s,St i s->q s.heap)(g:Nat->Nat->Bool)(B:UA prog w A.in1 .Lt q P g)(S:bc)(j:S∉y)(r:0<n)(C:St 0 s)(t:s.heap.get? S=some {cls:=.type "list",dict:=none,data:=.seq #[] c,slots:=#[]})(E:∀v s',P (ff g (n-1)) v->Moved (S::a) G s s'->R (.ok (.ret v)) s'):gn (be prog w) A (.builtin "min.loop" ⟨[.ref I,.none,.ref S],[]⟩) R s:=by
 have k:S∉a:=λh=>j (W.sub _ h);have H:∀b∈a,b∈S::a:=λb d=>aAe _ d;have J:(toString "min"++toString ".loop":String)= "min.loop":=by decide
 have f:∀{b:bc},b∉S::a->S≠b:=λd h=>d (by rw[h];exact aBm);refine aBQ aFD ?_;rw[aBs aCR _];show a9 _ A.in1 (seqItems? (.ref S)>>=_) _ _ s;refine aAa (aBP t rfl ?_);show a9 _ A.in1 (tryCatch (fh<|.ref I) _>>=_) _ _ s;refine aAa (aFe<|W.item 0 s _ _ r C λv s' L N u=>?_);have x:=u.heap S _ k t;show a9 _ A.in1 (gy S (λ_=>#[v,v])>>=_) _ _ _;refine aAa ?_;refine aCg x rfl ?_;rw[J];refine aAb ⟨aCd aCR _,LI W z g B S j _ 0 _ v _ rfl r (W.frame _ s' _ s'.toks N (aAl _) λb l o e=>?_) L (aBo _ x rfl) λO m p Q=>?_⟩
 .exact(aAF _ _ (λh:S=b=>j (by rw[h];exact l))).trans e
 exact E O m p (aFv W.gtrans ((u.mono H).then_heap (aAl _) λb o d e=>(aAF _ _<|f d).trans e) Q)
def call_minH{E:F7}{Q:F7}(h:a9 (be prog w) A.in1 (pyIter x) (λit a=>∃I d g G n P St j f,it=.ref I/\WalksS prog w A.in1 I d g G n P St/\St 0 a/\(∀b∈d,b<a.heap.objs.size)/\0<n/\(∀i s,St i s->j s.heap)/\UA prog w A.in1 .Lt j P f/\
   ∀v s',P (ff f (n-1)) v->Moved g G a s'->Q v s') E s):
  a9 (be prog w) A (call (.builtin "min") [x]) Q E s:=by
 have l:(toString "min"++toString ".loop":String)= "min.loop":=by decide
 refine call_function_tree F.kind_min F.plain_min F.entry_min (F.args_min1 _) ?_;show a9 _ A.in1 (aEI "min" ["key", "default"] 0 ⟨[],[]⟩>>=_) _ _ s;refine aAa (wpAny_of_eq (show aEI "min" ["key", "default"] 0 ⟨[],[]⟩=pure [none,none]from rfl) ?_);refine aAa (aAb ?_);refine aAa (aCI h (λit a m=>?_) λ_ _ e=>e);obtain⟨I,d,g,G,n,P,St,j,f,rfl,W,p,q,r,t,u,y⟩:=m;refine aAa (aBG ?_);have z:a.heap.objs.size∉d:=λk=>aBr _ (q _ k);rw[l];refine aAb ⟨aCd aCR _,DK W t f u a.heap.objs.size z r (W.frame 0 a _ a.toks p (aAl _) λb _ o e=>aAd _ e) (aAq _ rfl) λv s' B k=>?_⟩;exact y v s' B (Moved.drop_new (tk:=a.toks) k<|aAl _)
end
def walks_more{P:Nat->au->Prop}{St:Nat->cq->Prop}(W:Walks prog w A I m j n P St)(more:O9)(q:∀p∈more,p.1∉j):
  Walks prog w A I (m++more.map (·.1)) j n P (λi h=>St i h/\∀p∈more,h.get? p.1=some p.2)where
 sub:=λb f=>aBk _ (W.sub b f)
 frame:=λi h g st k=>⟨W.frame i h g st.1 λb f o e=>k b (aBk _ f) o e,λp a=>k p.1 (aAM _<|aAI a) _ (st.2 p a)⟩
 item:=λi s Q E r st d=>W.item i s Q E r st.1 λv g t u x l=>d v g t u ⟨x,λp a=>l p.1 p.2 (q p a) (st.2 p a)⟩ l
 done:=λs Q E st d=>W.done s Q E st.1 d
 self:=λi s Q E st d=>W.self i s Q E st.1 d
end MM
namespace DL
open PySem PySem.Spec L2
open PyProof.Rows hiding St
section
variable [Tabs]
section
def LN{x:Str}{a:bc}{d:Option bc}{b:Array au}{n:Nat}{sl:Array (Option au)}{ns:List Int}(e:X.mg x=some (.ref a))(f:X.K.lookup a=some ⟨.type "tuple",d,.seq b n,sl⟩)(g:l7 (ns.map V.int) b.toList)(hz:b.size<=sizeLine)(h:Gl X x:=by rfl)(i:(x==ja)=false:=by decide):
 PD X (.Name x j) (ZA (.tup (ns.map D.int))):=wK (VI h e (show RelV (.ref a) _ from rfl) i) λH O=>.tup (.inr ⟨_,b,n,f,rfl,rfl,hz,g⟩) (Reps.ints ns)
def QR:D->D->R D
 |.non,.non=>.ok (.bl true)
 |_,.non=>.ok (.bl false)
 |_,_=>.bad
def SE:mV X (dq .Is) QR:=by
 intro H O x y e f Q j d g q;refine⟨_,mx,?_⟩;cases f with
 |non=>
  refine⟨g.ac0,?_⟩;cases e with
  |non=>rw[d.ac0];exact q _ H (Same.refl _) .bl
  |bl b=>rw[d.blI];exact q _ H (Same.refl _) .bl
  |int i=>rw[d.aa6];exact q _ H (Same.refl _) .bl
  |str z=>rw[d.ac4];exact q _ H (Same.refl _) .bl
  |tup h=>obtain⟨a,_,rfl,_⟩:=d.tupI;exact q _ H (Same.refl _) .bl
  |lst h=>obtain⟨a,_,rfl,_⟩:=d.aa5;exact q _ H (Same.refl _) .bl
  |dct=>obtain⟨a,_,rfl,_⟩:=d.af8;exact q _ H (Same.refl _) .bl
 |_=>cases e<;>exact aAf q
def ML(h:PD X e f)(i:eQ e none a.line X.env=pure false:=by rfl):nH X (.Expr e a) (λρ=>(f ρ).bind λ_=>.ok (.nx ρ)):=λj k=>
 BW (nN h i) λD σ H O ρ E l q=>⟨j,k,O,ρ,E,by
  cases b:f ρ with
  |ok d=>rw[b]at q;exactλv g s r=>q _ g O (E.grow s) l (Kp.of s)
  |ex x=>rw[b]at q;exactλg s=>q g (E.same.trans s)
  |bad=>rw[b]at q;exact q⟩
def cT:List D->Option (List Bool)
 |[]=>some []
 |.bl b::a=>(cT a).map (b::·)
 |_::_=>none
theorem rG:∀{ds:List D}{bs:List Bool},cT ds=some bs->ds=bs.map D.bl
 |[],bs,h=>by cases h;rfl
 |.bl b::ds,bs,h=>by
  unfold cT at h;cases e:cT ds with
  |none=>rw[e]at h;cases h
  |some l=>rw[e]at h;have a:b::l=bs:=Option.some.inj h;subst a;rw[rG e];rfl
 |.non::_,_,h|.int _::_,_,h|.str _::_,_,h|.tup _::_,_,h|.lst _::_,_,h|.dct::_,_,h=>by cases h
def anyR:List D->R D
 |[.lst a]=>match cT a with
  |some bs=>.ok (.bl (bs.any id))
  |none=>.bad
 |_=>.bad
def DR{K:ix}{H:Hp}{O:bc->Prop}{ws:List V}{bs:List Bool}{a:List au}(r:Reps K H O ws (bs.map D.bl))(v:l7 ws a):a=bs.map aDA:=by
 induction bs generalizing ws a with
 |nil=>cases r;cases v;rfl
 |cons b bs d=>
  cases r with
  |cons r t=>
   cases v with
   |cons e f=>cases r;have:_=aDA b:=e;rw[this,d t f];rfl
def JT(bs:List Bool):(aBc bs.length).any (λi=>bs.getD i false)=bs.any id:=by
 rw[aDY,aDL,aDL];constructor
 .rintro⟨i,a,e⟩;have d:i<bs.length:=by simpa using a
  refine⟨bs[i],aCz d,?_⟩;simpa[aAo,aAi d]using e
 rintro⟨b,f,e⟩;obtain⟨i,a,rfl⟩:=aBp f;exact⟨i,by simpa using a,by simpa[aAo,aAi a]using e⟩
def tz(x:X.calm=true):dP X (.builtin "any") anyR:=by
 intro H O L y Q fr r q;match y,q with
 |[.lst Y],q=>
  obtain⟨v,rfl,z⟩:=PL r;obtain⟨p,ws,rfl,A,j⟩:=z.aa5;simp only[anyR]at q;cases e:cT Y with
  |none=>rw[e]at q;exact q.elim
  |some bs=>
   rw[e]at q;rw[rG e]at j;refine⟨λL k l=>L=[.ref p]/\k=H/\l=Q,λm s σ k Y us l I B ⟨C,J,N⟩=>?_,rfl,rfl,rfl⟩;subst C J N;obtain⟨u,rfl,T⟩:=vals1 B;cases T;obtain⟨a,g,⟨U,nL,n,cL,dL,sL⟩,zL⟩:=I.list A;have t:=DR j g;have w:s.heap.IsList p a.toArray:=⟨U,n,cL,nL,sL⟩;refine call_any_walk (aDB w ⟨s.heap.objs.size,_,_,a.toArray.size,_,_,λi=>bs.getD i false,rfl,Walks.list (by simp[I.ok.hd x]) s.heap.objs.size p (aAm<|aAg n) a.toArray,⟨⟨_,aAq _ rfl,rfl,rfl⟩,w.push _⟩,λi v s' Q E d f=>?_,λh' tk kp=>?_⟩)
   .have d:a.toArray[i]?=some v:=d;have f:Q (bs.getD i false) s':=f;rw[aCS,t,aAG]at d;cases h:bs[i]? with
    |none=>rw[h]at d;cases d
    |some b=>rw[h]at d;have:aDA b=v:=Option.some.inj d;subst this;rw[aAo,h]at f;exact aBu f
   have I2:=I.kept (h':=h') (t':=tk) λb o e=>kp b o (by simp only[aAJ];exact aAm (aAg e)) (aAd _ e);refine⟨.bl (bs.any id),_,I2,?_,q _ _ (Same.refl _) .bl⟩;show aDA _=aDA _;rw[aAn,t,aAh,JT]
end
def ay(ds:List D)(i j:Nat):Bool:=HT.lexLt (flat<|ds.getD i .non) (flat<|ds.getD j .non)
def PN:List D->R D
 |[.lst a]=>if a≠[]/\a.all cK=true then .ok (a.getD (ff (ay a) (a.length-1)) .non)else .bad
 |_=>.bad
def xQ(h:cq)(a:List au):List (bc×Obj):=a.filterMap λv=>match v with
 |.ref b=>(h.get? b).map λo=>(b,o)
 |_=>none
def ED(d:aDH b∈a)(e:h.get? b=some o):(b,o)∈xQ h a:=
 aCa.mpr ⟨_,d,by show(h.get? b).map _=_;rw[e];rfl⟩
def iK(a:p∈xQ h d):h.get? p.1=some p.2:=by
 obtain⟨v,_,e⟩:=aCa.mp a;cases v with
 |ref b=>
  have e:(h.get? b).map (λo=>(b,o))=some p:=e;cases q:h.get? b with
  |none=>rw[q]at e;cases e
  |some o=>rw[q]at e;cases e;exact q
 |_=>cases e
section
def YE(hc:X.calm=true)(hu:X.A.units+300<cz):dP X (.builtin "min") PN:=by
 intro H O L ds Q fr r q;match ds,q with
 |[.lst Y],q=>
  obtain⟨v,rfl,z⟩:=PL r;obtain⟨p,ws,rfl,h1,h2⟩:=z.aa5;simp only[PN]at q;by_cases x:Y≠[]/\Y.all cK=true
  .rw[h9 x]at q;obtain⟨ag,x⟩:=x;have pt:∀d∈Y,cK d=true:=aCh.mp x;refine⟨λL T Q'=>L=[.ref p]/\T=H/\Q'=Q,λpins s σ T td us Q' I rv z9=>?_,rfl,rfl,rfl⟩;obtain⟨e1,e2,e3⟩:=z9;subst e1 e2 e3;obtain⟨u,rfl,ru⟩:=vals1 rv;cases ru;obtain⟨f,y,⟨oL,nL,U,cL,dL,sL⟩,zL⟩:=I.list h1;have hl:s.heap.IsList p f.toArray:=⟨oL,U,cL,nL,sL⟩;have st:A2 X.K T O f Y:=A2.of y h2;have l:f.toArray.size=Y.length:=by rw[aAn,<-y.length,h2.length]
   have vp:0<Y.length:=aEJ.mpr ag;have W:=MM.walks_more (Walks.list (prog:=X.prog) (w:=X.w) (A:=X.A.in1) (by simp[I.ok.hd hc]) s.heap.objs.size p (aAm<|aAg U) f.toArray) (xQ s.heap f)
    (λq t=>by simp only[aAJ];exact aAm (aAg<|iK t))
   refine MM.call_minH (aDB hl ⟨s.heap.objs.size,_,_,_,f.toArray.size,_,_,λh=>∀q∈xQ s.heap f,h.get? q.1=some q.2,ay Y,rfl,W.toS,⟨⟨⟨_,aAq _ rfl,rfl,rfl⟩,hl.push _⟩,λq t=>aAd _ (iK t)⟩,λb k=>?_,by rw[l];exact vp,λi s h=>h.2,λi j vi vj m Q2 E2 hh B hj t=>?_,λv m E J=>?_⟩)
   .rw[aBI];rcases aAD.mp k with k|k
    .rcases aAc.mp k with rfl|k
     .exact aDN _
     rcases aAc.mp k with rfl|k
     .exact aBw (aAg U)
     cases k
    obtain⟨q,t,rfl⟩:=aAj.mp k;exact aBw (aAg<|iK t)
   .have one:∀i v,f.toArray[i]?=some v->∃b a,v=.ref b/\IsTup m.heap b a/\IntsAre a.toList (flat<|Y.getD i .non):=λi v B=>by
     rw[aCS]at B;obtain⟨d,N,w,ua,rp⟩:=I0 st B;have ql:Y.getD i .non=d:=by rw[aAo,N];rfl
     rw[ql];have C:=pt d (aAx N);obtain⟨b,a,rfl,⟨o,g,c,n,dd⟩,hia⟩:=bF C (dE I rp (U9 C) ua);exact⟨b,a,rfl,⟨o,hh _ (ED (aAx B) g),c,n,dd⟩,hia⟩
    obtain⟨b,a,rfl,t1,i1⟩:=one i vi B;obtain⟨b',xo,rfl,t2,i2⟩:=one j vj hj;exact HT.lt_tupInts t1 t2 i1 i2 (by rw[o6];lia) t
   have E:f.toArray[ff (ay Y) (f.toArray.size-1)]?=some v:=E;rw[aCS,l]at E;obtain⟨d,N,w,ua,rp⟩:=I0 st E;have ql:Y.getD (ff (ay Y)<|Y.length-1) .non=d:=by rw[aAo,N];rfl
   rw[ql]at q;have I2:=I.kept (h':=m.heap) (t':=m.toks) λb o e=>J.heap b o (by simp only[aAJ];exact aAm (aAg e)) (aAd _ e);have es:m={s with heap:=m.heap,toks:=m.toks}:=by have g1:=J.gens;have g2:=J.drawn;have g3:=J.os;cases m;simp only at g1 g2 g3;subst g1 g2 g3;rfl
   rw[es];exact⟨w,_,I2,ua,q _ _ (Same.refl _) rp⟩
  rw[ia x]at q;exact q.elim
def XE(h:UG ds)(n:Nat)(a:n<ds.length):ff (ay ds) n=0:=by
 induction n with
 |zero=>rfl
 |succ k b=>
  have e:=b (by lia);unfold ff;rw[e];have:ay ds (k+1) 0=false:=by
   unfold ay;rw[aAo,aAo,aAi a,aAi (by lia:0<ds.length)];have:=aCm.mp h 0 (k+1) (by lia) a (by lia);cases q:HT.lexLt (flat<|(some ds[k+1]).getD .non) (flat ((some (ds[0]'(by lia))).getD .non))with
   |false=>rfl
   |true=>have z:HT.lexLt (flat (ds[0]'(by lia))) (flat (ds[0]'(by lia)))=true:=TS.lex_trans _ _ _ this q;rw[TS.lex_irrefl]at z;cases z
  rw[this];rfl
end
end
section
variable [Tabs]
end
end DL
namespace DL
open PySem PySem.Spec L2
open PyProof.Rows hiding St sub_tuple_tuple sub_list_list sub_tuple_list sub_list_tuple
section
open PySem.MeetsSeq PySem.MeetsSeq2 PySem.MeetsSeq3 PySem.AutoSeq1
def MR(l:bc)(Y:Array au)(n:Nat)(b:bc)(a:Array au)(n2:Nat)(sl:Array (Option au))(h:¬(!Y.isEmpty&&aDc (Y.size+a.size))=true)(i:Y.size<=sizeLine)(j:Y.size+a.size<=sizeLine+1):
  Meets (Builtin.«list.extend» ⟨[.ref l,.ref b],[]⟩) (λ_ R s=>s.heap.get? l=some ⟨.type "list",none,.seq Y n,#[]⟩/\s.heap.get? b=some ⟨.type "list",none,.seq a n2,sl⟩/\R (.ok (.ret Value.none)) {s with heap:=s.heap.update l (aBF λx=>x++a),toks:=s.toks}):=
 .of_wp λe w A R s q=>by
  obtain⟨o,g,d,p,os⟩:=s;obtain⟨f,k,m⟩:=q;have r:=idx_int;have t:=sub_tuple_tuple;have u:=sub_list_list;have v:=sub_tuple_list;have y:=sub_list_tuple;have z:(Y++a).size<=sizeLine+1:=by rw[Array.size_append];exact j
  wp_walk using(aCg f rfl (hz:=i) (_hz':=z)),aED f,aED k
  exact⟨_,rfl,m⟩
end
section
def a2k(K:ix):V->List V->Hp->VK->Prop:=λx L H Q=>∃l b Y a,x=.ref l/\L=[.ref b]/\H l=some (.lst Y)/\P4 K H b a/\Y.length+a.length<=sizeLine/\Q .non (upd H l<|.lst (Y++a))
def qj:MtM X "list.extend" (a2k X.K):=by
 intro g s σ H x L v O Q I p t h;obtain⟨l,b,Y,T,rfl,rfl,i,w,U,q⟩:=h;cases p;obtain⟨u,rfl,y⟩:=t.one;cases y;obtain⟨z,a,n,r,hl,e⟩:=I.af3 i;obtain⟨f,j,⟨⟨A,wm,B,C⟩,E,J,k,m,o⟩,z2⟩:=I.list w;simp only at k m o;subst k m o;have om:=j.length;have N:a.toArray.size+f.toArray.size<=sizeLine:=by rw[aAn,aAn];lia
 have d:¬(!a.toArray.isEmpty&&aDc (a.toArray.size+f.toArray.size))=true:=by rw[SX N,aGh];exact aAU
 refine call_meets F.slot_list_extend ⟨_,e,rfl⟩ F.entry_list_extend (F.args_list_extend_2 _ _) (MR l a.toArray n b f.toArray E C d (by rw[aAn];lia) (by lia)) ⟨e,J,?_⟩;refine⟨.non,_,I.af4 (its':=a++f) i e (by simp) (r.append j) ?_,rfl,q⟩;rw[aAz]
 lia
end
variable [Tabs]
section
def DE(i:Nat)(z:PD X e f)(A:X.N[i]?=some x:=by rfl)(B:AH X.env.scope x:=by first|exact aCB rfl|exact aBM (aCB rfl)|exact aBM (aBM rfl))(I:(x==ja)=false:=by decide)(J:(x==ka)=false:=by decide)(Q:gm (.Name x p) "extend" X.env (dm (.Name x p) X.env)=dm (.Name x p) X.env:=by rfl)(T:((cy g (bb [e] X.env)).all (λx=>!x.1)&&(backToKw g (keywordEach [] X.env)).all (λx=>x.1.isSome)
   &&decide ([e].length+([]:List Keyword).length+(if([]:List Keyword).isEmpty then 0 else 1)<30))=true:=by rfl) (U:(b.endLine==g.line)=true:=by rfl) (r:bb [e] X.env=(false,dm e X.env)::bb [] X.env:=by rfl) (kg:(cy g (bb [] X.env)).any (·.1)=false:=by rfl) (xg:eQ (.Call (.Attribute (.Name x p) "extend" b) [e] [] g) none l.line X.env=pure false:=by rfl):
  nH X (.Expr (.Call (.Attribute (.Name x p) "extend" b) [e] [] g) l) (λρ=>(f ρ).bind (xw i ρ)):=λH9 O0=>
 BW (nN (ZU PySem.F.plainAttrs_list PySem.F.slot_list_extend PySem.F.type_list_extend qj (O8 A B I J) (f9 z m8 r) Q T U r kg) xg) λD σ H O ρ E fk q=>by
 cases j:f ρ with
 |ok d=>
  rw[j,R.aa0]at q;unfold xw at q;cases h:ρ[i]? with
  |none=>rw[h]at q;exact aAf q
  |some s=>
   rw[h]at q;cases s with
   |x C=>exact aAf q
   |c m φ=>exact aAf q
   |d N=>exact aAf q
   |no=>exact aAf q
   |v d=>exact aAf q
   |o Y=>
    cases d with
    |lst ys=>
     dsimp only at q;split at q
     .rename_i hz;obtain⟨a,L,t,h2,h3,u,w⟩:=E.own i Y h;refine⟨_,t,.inl ⟨rfl,L,P4.of u⟩,H9,O0,O,ρ,E,?_⟩;show LV X H O ((f ρ).bind λd=>(R.ok []).bind λds=>.ok (d::ds)) _;rw[j];intro us H1 k n;cases n with
      |cons n rn=>
       cases rn;have E1:=E.grow k;cases n with
       |lst hb nb y=>refine⟨a,_,L,_,rfl,rfl,k _ _ u,hb,by rw[w.length,y.length];exact hz,?_⟩;obtain⟨E2,k2⟩:=E1.write h t ((w.same k).append y);exact q σ _ O E2 fk ((Kp.of k).trans k2)
     exact aAf q
    |_=>exact aAf q
 |ex x=>
  rw[j]at q;cases h:ρ[i]? with
  |none=>exact(q H E.same).elim
  |some s=>exact(q H E.same).elim
 |bad=>rw[j]at q;exact aAf q
end
end DL
namespace TS
open PySem PyProof.Rows HT
section
def II(A:cf)(s:ba)(x y:au)(b:Bool):Prop:=∀(a:bM) (w:cp) (E:F7) (Q:yB),Q b s->a9 (be a w) A (oneLt' false x y) Q E s
def lt_two{Q:yB}(g:IsTup s.heap l #[p,r])(h:IsTup s.heap b #[a,d])(i:f=false)(j:SeqAt.EqAt A s p a e1)(k:e1=false->II A s p a b1)(m:e1=true->SeqAt.EqAt A s r d e2)(t:e1=true->e2=false->II A s r d b2)(q:Q (bif e1 then(bif e2 then false else b2)else b1) s):a9 (be prog w) A (keyLt' (tupK f) (.ref l) (.ref b)) Q E s:=by
 obtain⟨o,u,y,n,v⟩:=g;obtain⟨z,x,B,C,e⟩:=h;subst i;rw[sV];refine aAa (aEi u v<|aAa<|aEi x e ?_);show a9 _ _ (forIn [((p,a),0),((r,d),1)] _ _>>=_) _ _ _;rw[aDd];refine aAa (aAa ?_);refine aAa (j _ _ _ _ ?_);cases e1 with
 |false=>refine aAa (k rfl _ _ _ _ ?_);exact aAb (aAb<|aAb q)
 |true=>
  refine aAb ?_;dsimp only;rw[aDd];refine aAa ?_;refine aAa (m rfl _ _ _ _ ?_);cases e2 with
  |false=>refine aAa (t rfl rfl _ _ _ _ ?_);exact aAb (aAb<|aAb q)
  |true=>refine aAb ?_;dsimp only;rw[aEf];exact aAb (aAb q)
def OW(h:∀(prog:bM) (w:cp) (E:F7) (Q:F7),Q (.bool b) s->a9 (be prog w) A (richCompare .Lt x y) Q E s):II A s x y b:=λprog w E Q q=>by rw[oneLt'_eq];simp only[aAv,if_false];exact aAa (h prog w _ _<|aBu q)
def oneLt_tup(d:IsTup s.heap l items)(e:IsTup s.heap b f)(g:IntsAre items.toList ns)(h:IntsAre f.toList i)(j:A.units<cz):II A s (.ref l) (.ref b) (HT.lexLt ns i):=
 OW λa w E Q q=>HT.lt_tupInts d e g h j q
end
end TS
namespace DL
open PySem PySem.Spec L2
open PyProof.Rows hiding St
section
def vX(k:D->List Int)(d:D):List D->List D
 |[]=>[d]
 |x::Y=>if HT.lexLt (k d) (k x)=true then d::x::Y else x::vX k d Y
def pG(k:D->List Int)(ds:List D):List D:=ds.foldr (vX k) []
def vV(k:D->List Int)(ds:List D):Prop:=ds.Pairwise λx y=>HT.lexLt (k x) (k y)=true
theorem lF(k:D->List Int)(d:D):∀Y:List D,(vX k d Y).Perm (d::Y)
 |[]=>.refl _
 |x::Y=>by
  unfold vX;split
  .exact .refl _
  exact((lF k d Y).cons x).trans (.swap d x Y)
theorem W5(k:D->List Int):∀ds:List D,(pG k ds).Perm ds
 |[]=>.refl _
 |d::ds=>(lF k d (pG k ds)).trans ((W5 k ds).cons d)
theorem AE:∀{Y:List D},vV k Y->(∀x∈Y,k x≠k d)->vV k (vX k d Y)
 |[],_,_=>aDV _ _
 |x::Y,h,n=>by
  have b:=aAy.mp h;unfold vX;split
  .rename_i lt;refine aAy.mpr ⟨λy a=>?_,h⟩;rcases aAc.mp a with rfl|a
   .exact lt
   exact TS.lex_trans _ _ _ lt (b.1 y a)
  rename_i e;refine aAy.mpr ⟨λy a=>?_,AE b.2 λz f=>n z (.tail _ f)⟩;rcases aAc.mp ((lF k d Y).mem_iff.mp a)with rfl|a
  .cases q:HT.lexLt (k x) (k y)with
   |true=>rfl
   |false=>exact absurd (TS.lex_total _ _ q (by simpa using e)) (n x<|.head _)
  exact b.1 y a
theorem kX:∀{ds:List D},(ds.map k).Nodup->vV k (pG k ds)
 |[],_=>.nil
 |d::ds,h=>by rw[aAk,aAH]at h;refine AE (kX h.2) λx a e=>h.1 ?_;rw[<-e];exact aAI ((W5 k ds).mem_iff.mp a)
theorem kP:∀{Y a:List D},vV k Y->vV k a->Y.Perm a->Y=a
 |[],a,_,_,p=>(List.nil_perm.mp p).symm
 |x::Y,[],_,_,p=>by have:=p.length_eq;simp at this
 |x::Y,y::a,g,h,p=>by
  have e:=aAy.mp g;have f:=aAy.mp h;have b:x=y:=by
   rcases aAc.mp (p.mem_iff.mp<|.head _)with q|q
   .exact q
   rcases aAc.mp (p.mem_iff.mpr<|.head _)with d|d
   .exact d.symm
   have:=TS.lex_trans _ _ _ (f.1 x q) (e.1 y d);rw[TS.lex_irrefl]at this;cases this
  subst b;rw[kP e.2 f.2 ((List.perm_cons x).mp p)]
def XF[Tabs]{R:au->D->Prop}{key:au->List Int}{k:D->List Int}{a:List au}{ds:List D}(st:Paired R a ds)(f:a.Pairwise λx y=>HT.lexLt (key y) (key x)=false)(p:(ds.map k).Nodup)(g:∀u d,R u d->d∈ds->key u=k d):vV k ds:=by
 induction st with
 |nil=>exact .nil
 |@cons u d a ds r t q=>
  have i:=aAH.mp p;have m:=aAy.mp f;refine aAy.mpr ⟨λe s=>?_,q m.2 i.2 λu d h v=>g u d h (.tail _ v)⟩;obtain⟨j,b,rfl⟩:=aBp s;have n:j<a.length:=by rw[t.length];exact b
  obtain⟨A,o,w⟩:=I0 t (aAi n);rw[aAi b]at o;cases o;have l:=m.1 a[j] (aCz n);rw[g _ _ w (.tail _ (aCz b)),g u d r (.head _)]at l;cases z:HT.lexLt (k d) (k ds[j])with
  |true=>rfl
  |false=>exact absurd (aAj.mpr ⟨ds[j],aCz b,(TS.lex_total _ _ z l).symm⟩) i.1
def zx:D->Bool
 |.tup [p,.lst _]=>cK p
 |_=>false
def T6:D->List Int
 |.tup (p::_)=>flat p
 |_=>[]
def fq(h:zx d=true):∃p r,d=.tup [p,.lst r]/\cK p=true/\T6 d=flat p:=by
 unfold zx at h;split at h
 .exact⟨_,_,rfl,h,rfl⟩
 cases h
def sfR:D->R (List D)
 |.lst a=>if a.all zx=true/\(a.map T6).Nodup/\a.length<=63 then .ok (pG T6 a)else .bad
 |_=>.bad
variable [Tabs]
def FV(h:cq)(u:au)(l:List Int):Prop:=∃b p r d,u=.ref b/\IsTup h b #[p,r]/\cK d=true/\HV h p d/\flat d=l
def FV.inj(x:FV h u l)(y:FV h u k):l=k:=by obtain⟨b,p,r,d,rfl,⟨o,g,_,n,m⟩,_,q,rfl⟩:=x;obtain⟨t,v,w,z,e,⟨A,f,_,B,i⟩,_,a,rfl⟩:=y;cases e;rw[g]at f;cases f;rw[m]at i;injection i with s _;have j:=ir aFT s;simp only[aFW]at j;obtain⟨rfl,_⟩:=j;rw[HV.inj q a]
def KZ(h:cq) (u:au):List Int:=open Classical in if p:∃l,FV h u l then p.choose else[]
def iT(x:FV h u l):KZ h u=l:=by unfold KZ;rw[dif_pos ⟨l,x⟩];exact FV.inj (Exists.choose_spec (⟨l,x⟩:∃l,FV h u l)) x
section
def PC(I:Inv X e σ H s)(r:Rep X.K H O v d)(h:zx d=true)(g:RelV v u):FV s.heap u (T6 d):=by
 obtain⟨p,ring,rfl,f,i⟩:=fq h;cases r with
 |tup q a=>
  cases g;obtain⟨j,b,k,_⟩:=I.tuple q;cases a with
  |cons l a=>
   cases a with
   |cons m a=>
    cases a;cases b with
    |cons v1 b=>
     cases b with
     |cons n b=>cases b;exact⟨_,_,_,p,rfl,k,f,dE I l (U9 f) v1,i.symm⟩
end
section
def EF(ha:PB X e f)(hh:X.calm=true)(hu:X.A.units+300<cz)(hg:Gl X "sorted":=by rfl)(hm:X.mg "sorted"=none:=by assumption)(hv:de "sorted"=some (.builtin "sorted"):=by decide+kernel)(he:bb [e] X.env=(false,dm e X.env)::bb [] X.env:=by rfl)(bf:(cy pos (bb [] X.env)).any (·.1)=false:=by rfl):
  PF X (.Call (.Name "sorted" p) [e] [] pos) (λρ=>(f ρ).bind sfR):=by
 refine uR λpins s σ H Q I H9 O0 O ρ E q=>?_;dsimp only at q;refine aBf (T7 I hg hm hv ?_ (by decide) (by decide));have sr:PA X [e] _:=M8 ha cR he;refine aCr (F5 (sr pos pins s σ H (λL H1=>∃v t,L=[v]/\f ρ=.ok (.lst t)/\Same H H1/\B4 X.K H1 O v (.lst t)) I ⟨H9,O0,O,ρ,E,?_⟩) λus J z9=>?_) he bf
 .cases e1:f ρ with
  |ex z=>rw[e1]at q;exact q
  |bad=>rw[e1]at q;exact q.elim
  |ok d=>
   rw[e1,R.aa0]at q;cases d with
   |lst t=>exactλv H1 J r1=>⟨v,t,rfl,rfl,J,r1⟩
   |_=>exact aAf q
 obtain⟨L,H1,I1,r1,v,t,ev,ef,sm,rb⟩:=z9;subst ev;rw[ef,R.aa0]at q;obtain⟨a,ws,rfl,hS,rr⟩:=rb.aa5;obtain⟨u,rfl,ru⟩:=vals1 r1;cases ru;obtain⟨m,rv,⟨oL,nL,gL,cL,dL,sL⟩,zL⟩:=I1.list hS;have hl:J.heap.IsList a m.toArray:=⟨oL,gL,cL,nL,sL⟩;simp only[sfR]at q;by_cases hc:t.all zx=true/\(t.map T6).Nodup/\t.length<=63
 .rw[h9 hc]at q;obtain⟨nv,nd,h63⟩:=hc;have fc:∀d∈t,zx d=true:=aCh.mp nv;have st:A2 X.K H1 O m t:=A2.of rv rr;have hlen:m.length=t.length:=st.length;have B:∀u∈m,∃i d,m[i]?=some u/\t[i]?=some d/\FV J.heap u (T6 d):=λu hu=>by obtain⟨i,hi,rfl⟩:=aBp hu;obtain⟨d,hd,w,ua,rp⟩:=I0 st (aAi hi);exact⟨i,d,aAi hi,hd,PC I1 rp (fc d<|aAx hd) ua⟩
  have keq:∀u∈m,∀u'∈m,KZ J.heap u=KZ J.heap u'->u=u':=λu hu u' ai e=>by
   obtain⟨i,d,hi,hd,fv⟩:=B u hu;obtain⟨j,d',hj,ql,fv'⟩:=B u' ai;rw[iT fv,iT fv']at e;have eij:i=j:=by obtain⟨li,ei⟩:=aAC.mp hd;obtain⟨lj,ej⟩:=aAC.mp ql;refine(List.getElem_inj (xs:=t.map T6) (i:=i) (j:=j) (h₀:=by simpa using li) (h₁:=by simpa using lj) nd).mp ?_;rw[aCQ,aCQ,ei,ej];exact e
   subst eij;rw[hi]at hj;cases hj;rfl
  refine TS.sorted_keys (L:=m) (f:=false) (key:=KZ J.heap) (C:=λs'=>∃h',s'={J with heap:=h'}/\∀b o,J.heap.get? b=some o->h'.get? b=some o)
   (λ{Q'} hq=>collect_list hl (hq _ ⟨_,rfl,λb o e=>?_⟩) (by rw[hlen];exact aAr h63 (by decide)))
   (λs' ⟨h',Y,k⟩ s6 k6 x hx y hy prog w A E hA {Q} qq=>?_) (λh2 s' ⟨h',Y,k⟩ s6 k6 A {Q} qq=>?_) (by rw[hlen];lia) λs' fu h' l ⟨h1,Y,k⟩ pm srt k2 hl ⟨n,gl⟩=>?_
  .exact(aAF _ _<|aBY<|aAm<|aAg e).trans (aAd _ e)
  .subst Y;have kk:∀b o,J.heap.get? b=some o->s6.heap.get? b=some o:=λb o e=>k6 b o (k b o e);obtain⟨i,d,hi,hd,fv⟩:=B x hx;obtain⟨j,d',hj,ql,fv'⟩:=B y hy;have kx:=iT fv;have ky:=iT fv';have eqk:=keq x hx y hy;rw[kx,ky]at qq;rw[kx,ky]at eqk;obtain⟨b,p1,r1,d1,rfl,⟨o,g,c,n,dd⟩,U,hv1,e1⟩:=fv;obtain⟨b',p2,r2,d2,rfl,⟨o',g',c',n',zo⟩,hp2,hv2,e2⟩:=fv';have N:HV s6.heap p1 d1:=hv1.keeps λb o e _=>kk b o e;have hv2':HV s6.heap p2 d2:=hv2.keeps λb o e _=>kk b o e;have hA':A.units+8<cz:=by lia
   obtain⟨c1,i1,rfl,t1,ia1⟩:=bF U N;obtain⟨c2,i2,rfl,t2,ia2⟩:=bF hp2 hv2';rw[<-e1,<-e2]at qq eqk;refine TS.lt_two (e1:=v5 d1 d2) (e2:=true) (b1:=HT.lexLt (flat d1) (flat d2)) (b2:=false) ⟨o,kk _ _ g,c,n,dd⟩ ⟨o',kk _ _ g',c',n',zo⟩ rfl (HM N hv2' (by have:=IL U;lia)) (λ_=>TS.oneLt_tup t1 t2 ia1 ia2 (by lia)) (λeq=>?_) (λ_ z=>by cases z) ?_
   .have ed:=jK (U9 U) (U9 hp2) eq;have er:=eqk (by rw[ed]);cases er;rw[g]at g';cases g';rw[dd]at zo;injection zo with e3 _;have e4:=ir aFT e3;simp only[aFW]at e4;rw[e4.2.1];exact aDZ _
   cases z:v5 d1 d2 with
   |false=>exact qq
   |true=>have ed:=jK (U9 U) (U9 hp2) z;rw[ed,TS.lex_irrefl]at qq;exact qq
  .subst Y;have kk:∀b o,J.heap.get? b=some o->s6.heap.get? b=some o:=λb o e=>k6 b o (k b o e);have sg:∀x∈m,∃p,∃b r,x=.ref b/\IsTup s6.heap b r/\r[0]?=some p/\s6.TypeIs p "tuple":=λx hx=>by obtain⟨i,d,hi,hd,fv⟩:=B x hx;obtain⟨b,p1,r1,d1,rfl,⟨o,g,c,n,dd⟩,U,hv1,e1⟩:=fv;have N:HV s6.heap p1 d1:=hv1.keeps λb o e _=>kk b o e;obtain⟨c1,i1,rfl,⟨o1,g1,cc1,_⟩,ia1⟩:=bF U N;exact⟨_,b,_,rfl,⟨o,kk _ _ g,c,n,dd⟩,rfl,⟨o1,g1,cc1⟩⟩
   obtain⟨gf,hgf⟩:∃gf:au->au,∀x∈m,∃b r,x=.ref b/\IsTup s6.heap b r/\r[0]?=some (gf x)/\s6.TypeIs (gf x) "tuple":=by refine⟨λx=>open Classical in if z:x∈m then(sg x z).choose else .none,λx hx=>?_⟩;dsimp only;rw[dif_pos hx];exact(sg x hx).choose_spec
   exact TS.kind_tuples (T:= "tuple") gf hgf (λz=>by rw[z]at h2;simp at h2) (by decide) qq
  subst Y;obtain⟨uc,p2,ku⟩:=eF pm st;have hk:∀u d,(∃v,RelV v u/\Rep X.K H1 O v d)->d∈t->KZ J.heap u=T6 d:=by rintro u d ⟨v,rv,rp⟩ hd;exact iT (PC I1 rp (fc d hd) rv)
  have ug:(uc.map T6).Nodup:=(p2.map T6).nodup_iff.mpr nd;have srt2:vV T6 uc:=XF (R:=λu d=>∃v,RelV v u/\Rep X.K H1 O v d) ku srt ug λu d h hd=>hk u d h (p2.mem_iff.mp hd);have e2:uc=pG T6 t:=kP srt2 (kX nd) (p2.trans (W5 T6 t).symm);subst e2;obtain⟨wv,ua,qf⟩:=A2.ad2 ku;have I2':=I1.kept (h':=h1) (t':=J.toks) k;have I3:=I2'.laid (a:=l) (o:=.lst wv) (h':=h') (t':=J.toks) k2 hl ⟨by rw[qf.length,(W5 T6 t).length_eq];exact aAr h63 (by decide),fu,n,ua,gl⟩;exact⟨.ref l,_,I3,rfl,q wv _ l sm (I2'.hok.fresh hl) qf⟩
 rw[ia hc]at q;exact q.elim
end
end
section
def KD:List Int->Int
 |[]=>0
 |a::l=>l.foldl min a
theorem U7:∀(l:List Int) (a:Int),(l.foldl min a=a\/l.foldl min a∈l)/\l.foldl min a<=a/\∀b∈l,l.foldl min a<=b
 |[],a=>⟨.inl rfl,aBy _,λb h=>by cases h⟩
 |c::l,a=>by
  obtain⟨d,g,f⟩:=U7 l (min a c);rw[aEB];refine⟨?_,by lia,λb e=>?_⟩
  .rcases d with d|d
   .rw[d];rcases Int.le_total a c with q|q
    .exact .inl (Int.min_eq_left q)
    exact .inr (by rw[Int.min_eq_right q];exact .head _)
   exact .inr (.tail _ d)
  rcases aAc.mp e with rfl|e
  .lia
  exact f b e
def yI(h:ns≠[]):KD ns∈ns:=by
 cases ns with
 |nil=>exact absurd rfl h
 |cons a l=>
  rcases(U7 l a).1 with q|q
  .show l.foldl min a∈_;rw[q];exact .head _
  exact .tail _ q
def YS(h:a∈ns):KD ns<=a:=by
 cases ns with
 |nil=>cases h
 |cons b l=>
  rcases aAc.mp h with rfl|h
  .exact(U7 l a).2.1
  exact(U7 l b).2.2 a h
def IC:List D->R D
 |[.lst Y]=>match cP Y with
  |some a=>if a≠[]then .ok (.int (KD a))else .bad
  |none=>.bad
 |_=>.bad
variable [Tabs]
section
def RB(f:IntsAre a ns)(e:a.toArray=intItems d):∀i,numAt d i=ns.getD i 0:=λi=>by have b:=nums_intItems d;rw[<-e]at b;have g:=f.numsOf;rw[show a.toArray.toList=a from rfl,g]at b;rw[b];unfold numAt;rw[aAo,aAG,<-aAE]
def WE(B:X.calm=true):dP X (.builtin "min") IC:=by
 intro H O L C Q fr r q;match C,q with
 |[.lst Y],q=>
  obtain⟨v,rfl,z⟩:=PL r;obtain⟨p,ws,rfl,k,l⟩:=z.aa5;simp only[IC]at q;cases e:cP Y with
  |none=>rw[e]at q;exact q.elim
  |some d=>
   rw[e]at q;dsimp only at q;by_cases f:d≠[]
   .rw[h9 f]at q;rw[aR e]at l;rw[mD l]at k;refine⟨λL m n=>L=[.ref p]/\m=H/\n=Q,λo s σ m td us n I E ⟨J,N,T⟩=>?_,rfl,rfl,rfl⟩;subst J N T;obtain⟨u,rfl,U⟩:=vals1 E;cases U;obtain⟨its,r',pl,hz⟩:=I.list k;have g:=DL.V8 r';obtain⟨a,h⟩:=g.allInts.items;have w:=pl.isList;rw[h]at w;have x:a.size=d.length:=by have:=ir Array.size h;rw[aAn,g.length]at this;simpa[intItems]using this.symm
    have vp:0<d.length:=aEJ.mpr f;refine min_intList (I.ok.hd B) w (by lia) λv h' tk hv hk=>?_;obtain⟨t,rfl⟩:=intItems_at hv;obtain⟨g1,y⟩:=argBest_lt (numAt a) (a.size-1);have em:numAt a (ff (λi j=>decide (numAt a i<numAt a j))<|a.size-1)=KD d:=by
     generalize ff (λi j=>decide (numAt a i<numAt a j)) (a.size-1)=b at g1 y;have m1:numAt a b∈d:=by rw[RB g h,aAo,aAi (by lia)];exact aCz _
     have m2:=YS m1;obtain⟨j,hj,ej⟩:=aBp (yI f);have A:=y j (by lia);rw[RB g h j,aAo,aAi hj]at A;have m4:numAt a b<=d[j]:=A
     lia
    rw[em];exact⟨.int (KD d),_,I.kept hk,⟨t,rfl⟩,q _ _ (Same.refl _) .int⟩
   rw[ia f]at q;exact q.elim
def DV(K:ix)(mg:cM)(x:Str)(ns:List Int):Prop:=∃a d b n e,mg x=some (.ref a)/\K.lookup a=some ⟨.type "tuple",d,.seq b n,e⟩/\l7 (ns.map V.int) b.toList/\b.size<=sizeLine
omit [Tabs]in
def ND{K:ix}{mg:cM}{x:Str}{a:bc}{b:Option bc}{n:Nat}{sl:Array (Option au)}{i j k:Int}{t u v:Tok}(d:mg x=some (.ref a))(e:K.lookup a=some ⟨.type "tuple",b,.seq #[.int i t,.int j u,.int k v] n,sl⟩):DV K mg x [i,j,k]:=
 ⟨a,b,_,n,sl,d,e,.cons ⟨t,rfl⟩ (.cons ⟨u,rfl⟩ (.cons ⟨v,rfl⟩ .nil)),show 3<=sizeLine by decide⟩
def nR(c:DV X.K X.mg x ns)(b:Gl X x:=by rfl)(d:(x==ja)=false:=by decide):PD X (.Name x e) (ZA (.tup (ns.map D.int))):=by obtain⟨a,k,f,n,l,g,h,i,j⟩:=c;exact LN g h i j b d
end
end
section
variable [Tabs]
section
variable{K:ix}
structure FunC(K:PySem.W.Frag)(x qual:Str)(st:Stmt)(f:Addr)(fd:FuncData)(cd:Addr):Prop where
 ex:∃(oc:Value) (od:Option Addr) (kV doc pm:Value) (an:Option Addr) (ct:Value) (osl:Array (Option Value)),
  fd=PySem.W.fnOf x qual (E6 st) (q8 st) (c6 st) .none kV doc pm an (.ref cd) ct/\K.lookup f=some ⟨oc,od,.func fd,osl⟩/\PySem.W.codeIn K (.ref cd) qual=true
 kp:PySem.W.keepIn K (.ref f)=true
omit [Tabs]in
def FunC.fn{x qual:Str}{st:cv}{f:bc}{fd:dA}{cd:bc}(F:FunC K x qual st f fd cd):Fun K x qual st f fd:=
 let⟨d,e,kV,a,g,h,i,b,j,k,l⟩:=F.ex
 ⟨⟨d,e,kV,a,g,h,.ref cd,i,b,j,k,l⟩,F.kp⟩
omit [Tabs]in
def UV{x qual:Str}{st:cv}{f cd:bc}{h:au}{i d:Option bc}{b:Array (Option au)}{kV a g C ct:au}(l:K.lookup f=some ⟨h,i,.func (PySem.W.fnOf x qual (E6 st) (q8 st) (c6 st) .none kV a g d C ct),b⟩)
  (e:C=.ref cd) (c:PySem.W.codeIn K C qual=true) (k:PySem.W.keepIn K (.ref f)=true):FunC K x qual st f (PySem.W.fnOf x qual (E6 st) (q8 st) (c6 st) .none kV a g d C ct) cd:=by
 subst e;exact⟨⟨h,i,kV,a,g,d,ct,b,rfl,l,c⟩,k⟩
def a3z{x qual:Str}{st:cv}{f cd:bc}{fd:dA}{N ps:List Str}{k:Nat}{m:List D->R D}{F:Ev->R Out}(j:FunC K x qual st f fd cd)(S:FnScope N ps (c6 st))
  (l:∀(A:cf) (a:List Env) (s:ba) (H:Hp) (E:XK),Room k (A.deeper (envOfC qual (c6 st) s.heap.objs.size f (.ref cd)))->bN (UH P w K mg base N qual (c6 st) f (.ref cd) A a s H E) (q8 st) F)
  (n:∀ds d,ds.length=ps.length->m ds=.ok d->P3 (F (j6 N ds))=.ok d):FnOk P w K mg base uO (k+1) f fd ps (zq K ps.length m):=by
 obtain⟨U,Y,kV,p,pm,an,ct,t,rfl,lk,u⟩:=j.ex;refine ZM lk u S (by rintro L H Q E ⟨O,ds,d,r,g,_⟩;rw[r.length];exact g) λA a s H L Q E v y=>?_;obtain⟨O,ds,d,r,g,z,B,C,e,q⟩:=y;refine⟨_,sS.nox (l A a s H E v H O),O,_,lS r z B,C,?_⟩;have h:=n ds d g e;cases i:F (j6 N ds)with
 |ok o=>
  rw[i]at h;cases o with
  |rt I=>have b:R.ok I=R.ok d:=h;injection b with b;subst b;exact q
  |nx ρ=>have b:R.ok D.non=R.ok d:=h;injection b with b;subst b;exactλaf J O' T _ _=>q .non J T.same .non
  |bk ρ=>cases h
  |ct ρ=>cases h
 |ex x=>rw[i]at h;cases h
 |bad=>rw[i]at h;cases h
def WN{x qual:Str}{st:cv}{f cd:bc}{fd:dA}{N ps:List Str}{k:Nat}{m:List D->R D}{F:Ev->R Out}(b:FunC K x qual st f fd cd)(S:FnScope N ps (c6 st))(e:Binds K fd ps [])(g:mg x=some (.ref f))
  (h:∀(A:cf) (a:List Env) (s:ba) (H:Hp) (E:XK),Room k (A.deeper (envOfC qual (c6 st) s.heap.objs.size f (.ref cd)))->bN (UH P w K mg base N qual (c6 st) f (.ref cd) A a s H E) (q8 st) F)
  (i:∀ds d,ds.length=ps.length->m ds=.ok d->P3 (F (j6 N ds))=.ok d):z8 P w K mg base (k+1) x ps.length m:=
 ⟨f,fd,ps,a3z b S h i,e,b.kp,g⟩
def VN(P:bM)(w:cp)(K:ix)(mg:cM)(base:cq)(k d:Nat)(x:Str)(M:D->(List D->R D)->(List D->R D)->R D):Prop:=
 ∃g b a,FnOk P w K mg base uO k g b a (spF K (MG P w K mg base d 1) M)/\Binds K b a []/\PySem.W.keepIn K (.ref g)=true/\mg x=some (.ref g)/\a.length=3
def WY{x qual:Str}{st:cv}{f:bc}{fd:dA}{N ps:List Str}{k b:Nat}{M:D->(List D->R D)->(List D->R D)->R D}{F:Ev->R Out}(e:Fun K x qual st f fd)(S:FnScope N ps (c6 st))(g:ps.length=3)(l:Binds K fd ps [])(m:mg x=some (.ref f))
  (n:∀(C:au) (A:cf) (a:List Env) (s:ba) (H:Hp) (E:XK),Room k (A.deeper (envOfC qual (c6 st) s.heap.objs.size f C))->bN (UH P w K mg base N qual (c6 st) f C A a s H E) (q8 st) F)
  (o:∀h i j d,M h i j=.ok d->P3 (F (lO N (MG P w K mg base b 1) h i j))=.ok d):VN P w K mg base (k+1) b x M:=
 ⟨f,fd,ps,fnF e S g n o,l,e.kp,m,g⟩
end
section
def zU(i:Nat){Φ:(List D->R D)->Hp->(bc->Prop)->bc->Prop}(a:MG X.prog X.w X.K X.mg X.base k n=Φ)(d:MF X (e::es) f)(g:EZ f n)(h:Room k X.A)(j:X.N[i]?=some x:=by rfl)(l:AH X.env.scope x:=by first|exact aCB rfl|exact aBM (aCB rfl)|exact aBM (aBM rfl))(m:(x==ja)=false:=by decide)(o:(x==ka)=false:=by decide)(q:bb (e::es) X.env=(false,dm e X.env)::bb es X.env:=by rfl)(r:(cy b (bb es X.env)).any (·.1)=false:=by rfl):
  PD X (.Call (.Name x p) (e::es) [] b) (callC Φ i f):=by
 subst a;exact QH i d g h j l m o q r
def CZ(r:NstOk X k n1)(s:NstOk X k n2)(t:ClosOk X n1 clos1)(u:ClosOk X n2 clos2)(v:∀x b,(x,b)∈clos1++clos2->X.env.cells.lookup x=some b)(z:iS X.mg X.base)(B:X.env.code=.ref c)(C:PySem.W.codeHdIn X.K c E=true)(j:(E,tb)∈Tabs.tbs)(l:(n1.pos,n1.qual)∈tb)(H:(n2.pos,n2.qual)∈tb)(I:∀p∈tb,p.1.line=n1.pos.line->p.1.col=n1.pos.col->p.2=n1.qual)(m:∀p∈tb,p.1.line=n2.pos.line->p.1.col=n2.pos.col->p.2=n2.qual)(J:n1.i≠n2.i)(L:X.N.Nodup)(O:VN X.prog X.w X.K X.mg X.base Q (k+1) x M)(T:Room Q X.A)(U:PD X e f)(Y:∀y,X.fn y=true)(hg:Gl X x:=by rfl)(ib:(x==ja)=false:=by decide)(zd:bb [e,.Name n1.name h,.Name n2.name a] X.env=(false,dm e X.env)::bb [.Name n1.name h,.Name n2.name a] X.env:=by rfl)(zi:bb [.Name n1.name h,.Name n2.name a] X.env=(false,dm (.Name n1.name h) X.env)::bb [.Name n2.name a] X.env:=by rfl)(n:bb [.Name n2.name a] X.env=(false,dm (.Name n2.name a) X.env)::bb [] X.env:=by rfl)(bf:(cy o (bb [.Name n1.name h,.Name n2.name a] X.env)).any (·.1)=false:=by rfl):
  bN X [n1.stmt,n2.stmt,.Return (some (.Call (.Name x p) [e,.Name n1.name h,.Name n2.name a] [] o)) q] (λρ=>((f ((ρ.set n1.i .no).set n2.i .no)).bind λd1=>(dG n1.js ((ρ.set n1.i .no).set n2.i .no)).bind λw1=>(dG n2.js ((ρ.set n1.i .no).set n2.i .no)).bind λw2=>M d1 (n1.mm w1) (n2.mm w2)).bind λd=>.ok (.rt d)):=by
 obtain⟨g,gd,ps,FF,hb,hk,hm,h3⟩:=O;exact KI r s t u v z B C j l H I m J L FF T hm hk hb h3 U Y hg ib zd zi n bf
end
end
end DL
namespace DL
open PySem L2
def _root_.L2.Room.ad9(r:Room k A):A.units+130<cz:=by have:=r.un;lia
def _root_.L2.Room.ae2(r:Room k A)(h:7<=k):A.units+300<cz:=by have:=r.un;lia
def JL{y:Str}{d:bc}{a:List (Str×bc)}(h:a.lookup y=some d:=by rfl):∀(x:Str) (b:bc),(x,b)∈[(y,d)]++[(y,d)]->a.lookup x=some b:=λx b e=>by
 have:(x,b)=(y,d):=by simpa using e
 injection this with f g;subst f g;exact h
def GP{sc:hE}{fn:List Str}{x:Str}(h:sc.names.lookup x=some .free)(a:(sc.names.all λp=>p.2 !=.free||fn.contains p.1)=true:=by decide+kernel):x∈fn:=by have b:=aCh.mp a _ (PySem.mem_of_lookup h);simpa using b
def IM:cv->Pos
 |.FunctionDef _ _ _ _ _ _ _ _ _ p=>p
 |_=>⟨0,0,0,0⟩
end DL
namespace M
open PySem L2 DL
def wB:D->Option G.V
 |.tup [.int a,.int b,.int c]=>some ⟨a,b,c⟩
 |_=>none
@[simp]def xD(v:G.V):wB (vd v)=some v:=rfl
def sZ(h:wB d=some v):d=vd v:=by
 unfold wB at h;split at h
 .cases h;rfl
 cases h
def D8:List D->Option (List G.V)
 |[]=>some []
 |d::a=>match wB d,D8 a with
  |some v,some L=>some (v::L)
  |_,_=>none
@[simp]theorem t9:∀L:List G.V,D8 (L.map vd)=some L
 |[]=>rfl
 |v::L=>by rw[aAk,D8,xD,t9 L]
theorem n9:∀{ds:List D}{L:List G.V},D8 ds=some L->ds=L.map vd
 |[],L,h=>by cases h;rfl
 |d::ds,L,h=>by
  unfold D8 at h;split at h
  .rename_i v e a b;cases h;rw[sZ a,n9 b];rfl
  cases h
def DQ(h:vd u=vd v):u=v:=by
 have:wB (vd u)=wB (vd v):=by rw[h]
 simpa using this
def XV{u v:List G.V}(h:u.map vd=v.map vd):u=v:=by
 have:D8 (u.map vd)=D8 (v.map vd):=by rw[h]
 simpa using this
def aU(n:Nat)(J:List G.V):Prop:=(∀P∈J,Sz n P)/\J.length<=1000
def EA:Option G.V->D
 |some v=>vd v
 |none=>.non
def A7:List D->R D
 |[.lst Y]=>match D8 Y with
  |some a=>.ok (EA (G.B7 a))
  |none=>.bad
 |_=>.bad
open Classical in
def D1:List D->R D
 |[.lst Y]=>match D8 Y with
  |some J=>if J≠[]/\aU 1000 J then .ok (.int (G.U4 J))else .bad
  |none=>.bad
 |_=>.bad
open Classical in
def F9:List D->R D
 |[.lst Y]=>match D8 Y with
  |some J=>if aU 1000 J/\G.U4 J=3 then .ok .non else .bad
  |none=>.bad
 |_=>.bad
open Classical in
def A1:List D->R D:=v4 λa b c d=>DO λY=>nQ (match D8 Y with
 |some J=>if Sz 10000 ⟨a,b,c⟩/\aU 1000 J then .ok (.lst ((G.o7 ⟨a,b,c⟩ d J).map vd))else .bad
 |none=>.bad)
open Classical in
def G1:List D->R D:=UN λg=>DO λY=>nQ ((v1 λa b c=>v1 λd e f=>nQ (match D8 Y with
 |some J=>if Sz 1000 ⟨a,b,c⟩/\Sz 1000 ⟨d,e,f⟩/\aU 1000 J/\G.aX (G.b7 ⟨a,b,c⟩ ⟨d,e,f⟩ J).1 then .ok (wH (G.b7 ⟨a,b,c⟩ ⟨d,e,f⟩ J).1 (G.b7 ⟨a,b,c⟩ ⟨d,e,f⟩ J).2)else .bad
 |none=>.bad)) g)
abbrev K1(p:G.V×G.V):D:=.tup [vd p.1,vd p.2]
structure Land(J:List G.V)(m:G.V):Prop where
 good:G.Good J m
 sz:aU 900 J
 few:J.length<=63
 head:J.head?=some m
open Classical in
def J6:List D->R D
 |[.lst Y]=>match D8 Y with
  |some (m::J)=>if Land (m::J) m then .ok (K1 (G.f7 m (m::J)))else .bad
  |_=>.bad
 |_=>.bad
open Classical in
def fG:List D->R D:=v1 λa b c=>v1 λd e f=>v1 λg h i=>v1 λj k l=>nQ (
 if Sz 10000 ⟨a,b,c⟩/\Sz 1000 ⟨d,e,f⟩/\Sz 1000 ⟨g,h,i⟩/\Sz 1000 ⟨j,k,l⟩then .ok (.int (G.turn ⟨a,b,c⟩ ⟨d,e,f⟩ ⟨g,h,i⟩ ⟨j,k,l⟩))else .bad)
open Classical in
def V0:List D->R D:=v1 λa b c=>DO λY=>nQ (match D8 Y with
 |some J=>if Sz 10000 ⟨a,b,c⟩/\aU 1000 J then .ok (.lst ((G.w6 ⟨a,b,c⟩ J).reverse.map vd))else .bad
 |none=>.bad)
open Classical in
def J7:List D->R D:=v1 λa b c=>DO λY=>nQ (match D8 Y with
 |some J=>if Sz 10000 ⟨a,b,c⟩/\aU 1000 J then .ok (.lst ((G.j0 ⟨a,b,c⟩ J).map vd))else .bad
 |none=>.bad)
def C5:List D->R D
 |[.lst Y]=>match D8 Y with
  |some J=>if J.length<=3000 then .ok (.lst ((G.u9 J).map K1))else .bad
  |none=>.bad
 |_=>.bad
abbrev j8(J:List G.V)(f:G.V×Int):D:=.tup [wH f.1 f.2,.lst ((G.c8 J f).map vd)]
def dR(J:List G.V)(fs:List (G.V×Int)):Prop:=(∀f,f∈fs↔G.IsFace J f.1 f.2)/\vV T6 (fs.map<|j8 J)
open Classical in
def j4(J:List G.V):List (G.V×Int):=if h:∃fs,dR J fs then h.choose else[]
def K8:List D->List D->R D
 |[w],[_]=>.ok w
 |_,_=>.bad
def E9:List D->List D->R D
 |[w],[p]=>A1 [p,w]
 |_,_=>.bad
open Classical in
def J5(d:D) (a b:List D->R D):R D:=match a [.non]with
 |.ok (.lst Y)=>match D8 Y with
  |some (m::J)=>if Land (m::J) m/\(m::J).length<=23/\d=K1 (G.f7 m (m::J))/\a=K8 [.lst Y]/\b=E9 [.lst Y]then .ok (.lst ((j4 (m::J)).map (j8 (m::J))))else .bad
  |_=>.bad
 |_=>.bad
def i4(J:List G.V):List G.V:=(cJ<|J.map vd).filterMap wB
open Classical in
def Q4:List D->R D
 |[.lst Y]=>match D8 Y with
  |some J=>if aU 900 J/\G.i9 J/\(i4 J).length<=23 then .ok (.lst ((j4 (i4 J)).map (j8 (i4 J))))else .bad
  |none=>.bad
 |_=>.bad
def xy:D->Option (List G.V)
 |.tup [_,.lst Y]=>D8 Y
 |_=>none
def tY:List D->Option (List (List G.V))
 |[]=>some []
 |d::a=>match xy d,tY a with
  |some v,some L=>some (v::L)
  |_,_=>none
open Classical in
def J9:List D->R D
 |[.lst Y]=>match tY Y with
  |some a=>if a.flatten.length<=3000/\(i4 a.flatten).length<=63 then .ok (.lst ((i4 a.flatten).map vd))else .bad
  |none=>.bad
 |_=>.bad
def B0(J:List G.V):List G.V:=i4 ((j4<|i4 J).flatMap (G.c8<|i4 J))
open Classical in
def V9:List D->R D
 |[.lst Y]=>match D8 Y with
  |some J=>if aU 900 J/\G.i9 J/\(i4 J).length<=23 then .ok (.lst ((B0 J).map vd))else .bad
  |none=>.bad
 |_=>.bad
def ne0(v:G.V):MH (vd v) (.tup [.int 0,.int 0,.int 0])=.ok (.bl (!decide (v=0))):=by rw[CK];congr 3;rw[aDY];simp only[aAQ,beq_iff_eq,decide_eq_true_eq,G.pE];exact⟨λh=>h,λh=>h⟩
def eq0(v:G.V):UJ (vd v) (.tup [.int 0,.int 0,.int 0])=.ok (.bl (decide (v=0))):=by rw[fw];congr 2;rw[aDY];simp only[aAQ,beq_iff_eq,decide_eq_true_eq,G.pE];exact⟨λh=>h,λh=>h⟩
def V1(a:G d ρ=.ok ρ1)(b:F ρ1=.ok (.nx ρ2)):V3 G F (d::ds) ρ=V3 G F ds ρ2:=by rw[V3,a];dsimp only;rw[b]
def vY(a:G d ρ=.ok ρ1)(b:F ρ1=.ok (.rt x)):V3 G F (d::ds) ρ=.ok (.rt x):=by rw[V3,a];dsimp only;rw[b]
theorem lB{α:Type}(rep:α->D)(p:α->Bool)(g:α->D):∀(l:List α),(∀a∈l,∃ρ1,G (rep a) ρ=.ok ρ1/\ft ρ1=.ok (p a)/\(p a=true->fe ρ1=.ok (g a)))->o8 G ft fe ρ (l.map rep)=.ok ((l.filter p).map g)
 |[],_=>rfl
 |a::l,h=>by
  obtain⟨ρ1,e,f,i⟩:=h a (.head _);have j:=lB rep p g l λb k=>h b (.tail _ k);rw[aAk,o8,e];dsimp only;rw[f,R.aa0,j];cases d:p a with
  |false=>rw[ia (by decide),aFs (by simp[d])]
  |true=>rw[h9 rfl,i d,R.aa0,R.aa0,aFr d];rfl
def J8{α:Type}(rep:α->D)(g:α->D)(l:List α)(h:∀a∈l,∃ρ1,G (rep a) ρ=.ok ρ1/\fe ρ1=.ok (g a)):o8 G (λ_=>.ok true) fe ρ (l.map rep)=.ok (l.map g):=by
 have:=lB rep (G:=G) (ft:=λ_=>.ok true) (fe:=fe) (ρ:=ρ) (λ_=>true) g l λa b=>let⟨ρ1,d,e⟩:=h a b;⟨ρ1,d,rfl,λ_=>e⟩
 rw[this,List.filter_eq_self.mpr λ_ _=>rfl]
def small(h:n<=1000):n<=sizeLine:=aAr h (by decide)
def RY(h:n<=3000):n<=sizeLine:=aAr h (by decide)
def aU.sub(h:aU n J)(b:∀P∈a,P∈J)(d:a.length<=J.length):aU n a:=⟨λP e=>h.1 P (b P e),aAr d h.2⟩
def aU.mono(h:aU m J)(a:m<=n:=by decide):aU n J:=⟨λP b=>(h.1 P b).mono a,h.2⟩
def a4o(t:Int):(sgn t==0)=decide (t=0):=by
 unfold sgn;by_cases h:0<t
 .rw[h9 h];simp;lia
 rw[ia h];by_cases a:t<0
 .rw[h9 a];simp;lia
 rw[ia a];simp;lia
def jR(a:Sz 10000 n)(b:aU 1000 J):A1 [wH n d,.lst (J.map vd)]=.ok (.lst ((G.o7 n d J).map vd)):=by simp only[A1,v4,UN,yZ,DO,nQ,t9];exact h9 ⟨a,b⟩
def OH(a:J≠[])(b:aU 1000 J):D1 [.lst (J.map vd)]=.ok (.int (G.U4 J)):=by simp only[D1,t9];exact h9 ⟨a,b⟩
def EH(ws:List G.V):A7 [.lst (ws.map vd)]=.ok (EA (G.B7 ws)):=by simp only[A7,t9]
def EC(bs:List Bool):cT (bs.map D.bl)=some bs:=by
 induction bs with
 |nil=>rfl
 |cons b bs a=>rw[aAk,cT,a];rfl
def iy(bs:List Bool):anyR [.lst (bs.map D.bl)]=.ok (.bl (bs.any id)):=by simp only[anyR,EC]
def YG(Y:List D):wJ (.lst Y) none (some (-1))=.ok (.lst Y.dropLast):=by
 show R.ok (D.lst<|cutD Y none<|some (-1))=_;unfold cutD HT.sIx;rw[aEk];simp;congr 1
 lia
def XY(Y:List D):wJ (.lst Y) (some 1) none=.ok (.lst Y.tail):=by
 show R.ok (D.lst<|cutD Y (some 1) none)=_;unfold cutD HT.sIx;cases Y with
 |nil=>rfl
 |cons a l=>simp
def uz(Y:List D):wJ (.lst Y) none (some 1)=.ok (.lst (Y.take 1)):=by
 show R.ok (D.lst<|cutD Y none<|some 1)=_;unfold cutD HT.sIx;cases Y with
 |nil=>rfl
 |cons a l=>simp
def ZJ(Y:List D)(a b:D):oG (Y++[a,b]) (-1)=some b:=by
 have d:(Y++[a,b]).length=Y.length+2:=by simp
 unfold oG MA;rw[d,ia (by decide),h9 (by lia)];show(Y++[a,b])[((-1:Int)+((Y.length+2:Nat):Int)).toNat]?=_;have:((-1:Int)+((Y.length+2:Nat):Int)).toNat=Y.length+1:=by lia
 rw[this,aAA (by lia),show Y.length+1-Y.length=1 by lia];rfl
def ZN(Y:List D)(a b:D):oG (Y++[a,b]) (-2)=some a:=by
 have d:(Y++[a,b]).length=Y.length+2:=by simp
 unfold oG MA;rw[d,ia (by decide),h9 (by lia)];show(Y++[a,b])[((-2:Int)+((Y.length+2:Nat):Int)).toNat]?=_;have:((-2:Int)+((Y.length+2:Nat):Int)).toNat=Y.length:=by lia
 rw[this,aAA (by lia),Nat.sub_self];rfl
def a0k(a:D)(Y:List D):oG (a::Y) 0=some a:=by rw[Y8 (by decide)];rfl
def a0c(a b:D)(Y:List D):oG (a::b::Y) 1=some b:=by rw[Y8 (by decide)];rfl
def UQ{P Q R:G.V}(h:G.aX (G.j1 P Q R).1):G.cr (Q-P) (R-P)≠0:=λe=>by
 have:(G.j1 P Q R).1=0:=by show G.kF (G.cr (Q-P)<|R-P) _=0;rw[e];rfl
 rw[this]at h;unfold G.aX at h;exact absurd h (by decide)
theorem yR:∀{c:List G.V}{X:G.V},X∈G.Q3 n P c->X∈c
 |[],X,h=>by simpa[G.Q3]using h
 |[a],X,h=>by simpa[G.Q3]using h
 |b::a::r,X,h=>by
  unfold G.Q3 at h;split at h
  .exact .tail _ (yR h)
  exact h
theorem yQ:∀{c:List G.V},(G.Q3 n P c).length<=c.length
 |[]=>aAl _
 |[a]=>aAl _
 |b::a::r=>by
  unfold G.Q3;split
  .exact aAr (yQ (c:=a::r)) (by simp)
  exact aAl _
theorem kG(ps:List G.V):∀(b c:List G.V),(∀X∈c,X∈ps)->(∀X∈b,X∈ps)->∀X∈b.foldl (λc P=>P::G.Q3 n P c) c,X∈ps
 |[],c,d,_=>d
 |P::b,c,d,e=>kG ps b _ (λX a=>by
  rcases aAc.mp a with rfl|a
  .exact e _ (.head _)
  exact d X (yR a)) λX a=>e X (.tail _ a)
theorem qU:∀(a c:List G.V),(a.foldl (λc P=>P::G.Q3 n P c) c).length<=a.length+c.length
 |[],c=>by simp
 |P::a,c=>by refine aAr (qU a _) ?_;have:=yQ (n:=n) (P:=P) (c:=c);simp;lia
def fC(n:G.V)(ps:List G.V):(G.w6 n ps).length<=ps.length:=by simpa[G.w6]using qU (n:=n) ps []
theorem uY{α β:Type}(f:α->D):∀(Y a:List α),L5 (Y.map f) (a.map f)=(Y.zip a).map λp=>D.tup [f p.1,f p.2]
 |[],_=>by simp[L5]
 |_::_,[]=>by simp[L5]
 |x::Y,y::a=>by have:=uY (β:=β) f Y a;simp only[L5]at this⊢;simp[this]
def YW(a:Sz 10000 n)(b:aU 1000 J):V0 [vd n,.lst (J.map vd)]=.ok (.lst ((G.w6 n J).reverse.map vd)):=by simp only[V0,v1,UN,yZ,DO,nQ,t9];exact h9 ⟨a,b⟩
def HC{n P Q R:G.V}(h:Sz 10000 n)(a:Sz 1000 P)(b:Sz 1000 Q)(d:Sz 1000 R):fG [vd n,vd P,vd Q,vd R]=.ok (.int (G.turn n P Q R)):=h9 ⟨h,a,b,d⟩
def N5(a:Sz 1000 A)(b:Sz 1000 B)(d:aU 1000 J)(e:G.aX (G.b7 A B J).1):G1 [.tup [vd A,vd B],.lst (J.map vd)]=.ok (wH (G.b7 A B J).1 (G.b7 A B J).2):=by simp only[G1,v1,UN,yZ,DO,nQ,t9];exact h9 ⟨a,b,d,e⟩
def HN(a:Sz 10000 n)(b:aU 1000 J):J7 [vd n,.lst (J.map vd)]=.ok (.lst ((G.j0 n J).map vd)):=by simp only[J7,v1,UN,yZ,DO,nQ,t9];exact h9 ⟨a,b⟩
def MK(h:J.length<=3000):C5 [.lst (J.map vd)]=.ok (.lst ((G.u9 J).map K1)):=by simp only[C5,t9];exact h9 h
def IR(h:a.length+b.length<=sizeLine):lW (.lst a) (.lst b)=.ok (.lst (a++b)):=h9 h
def RT(a b:G.V):HT.lexLt (flat (vd a)) (flat (vd b))=true↔G.d9 (b-a):=by
 show HT.lexLt [a.x,a.y,a.z] [b.x,b.y,b.z]=true↔_;unfold G.d9;simp only[HT.lexLt,G.TV,G.RW,G.SB];by_cases d:a.x=b.x
 .by_cases e:a.y=b.y
  .by_cases f:a.z=b.z
   .simp[d,e,f]
   simp[d,e,f];try lia
  simp[d,e];try lia
 simp[d];try lia
def CO{J:List G.V}(h:J.Pairwise λa b=>G.d9 (b-a)):UG (J.map vd):=aBt.mpr (h.imp λ{a b} q=>(RT a b).mpr q)
def qz{J:List G.V}(h:UG (J.map vd)):J.Pairwise λa b=>G.d9 (b-a):=(aBt.mp h).imp λ{a b} q=>(RT a b).mp q
def RQ(J:List G.V):(J.map vd).all cK=true:=aCh.mpr λd a=>by obtain⟨v,_,rfl⟩:=aAj.mp a;rfl
def iw[Tabs]{m:G.V}{J:List G.V}(h:(m::J).Pairwise λa b=>G.d9 (b-a)):PN [.lst ((m::J).map vd)]=.ok (vd m):=by show(if(m::J).map vd≠[]/\((m::J).map vd).all cK=true then _ else _)=_;rw[h9 ⟨by simp,RQ _⟩,XE (CO h) _ (by simp)];rfl
def JA{k:Nat}{P Q R:G.V}(p:Sz k P)(q:Sz k Q)(r:Sz k R):Sz (k+1+(k+1)+1) (G.j1 P Q R).1:=by
 have a:=(q.sub p).cr (r.sub p);by_cases d:G.cr (Q-P) (R-P)=0
 .have:(G.j1 P Q R).1=0:=by show G.kF (G.cr (Q-P)<|R-P) _=0;rw[d];rfl
  rw[this];exact⟨aAY _,aAY _,aAY _⟩
 obtain⟨h,i,j⟩:=G.lV d;have e:=bits_fdiv (b:=(G.z6 (G.cr (Q-P)<|R-P):Int)) a.1;have f:=bits_fdiv (b:=(G.z6 (G.cr (Q-P)<|R-P):Int)) a.2.1;have g:=bits_fdiv (b:=(G.z6 (G.cr (Q-P)<|R-P):Int)) a.2.2;rw[qY h]at e f g;exact⟨e,f,g⟩
def xY{P Q R:G.V}(p:Sz 1000 P)(q:Sz 1000 Q)(r:Sz 1000 R):Sz 2003 (G.j1 P Q R).1:=JA p q r
def BH{A B:G.V}{J:List G.V}(p:Sz 1000 A)(q:Sz 1000 B)(r:aU 1000 J):Sz 2003 (G.b7 A B J).1:=by
 unfold G.b7;rcases G.lE (a:=B-A) (A:=A) J 0 A with h|h
 .exact xY p q (r.1 _ h)
 rw[h];exact xY p q p
def a1y(m:G.V):vd (m+G.kk)=.tup [.int m.x,.int m.y,.int (m.z+1)]:=by simp[G.kk]
def NX(h:Sz 900 m):Sz 1000 (m+G.kk):=(h.add (v:=G.kk) ⟨by decide,by decide,by decide⟩).mono
def TX(h:aU k J):aU k (G.o7 n d J):=h.sub (λP a=>(G.c5.mp a).1) (aFM _ _)
def SV{α:Type}{l:List α}{a b:α}(d:a∈l)(e:b∈l)(h:a≠b):∃x y r,l=x::y::r:=by
 match l,d,e with
 |[x],d,e=>exact absurd ((aAJ.mp d).trans (aAJ.mp e).symm) h
 |x::y::r,_,_=>exact⟨x,y,r,rfl⟩
open Classical in
def NO{N:List (D×D)}{k v a:D}:a∈(fS N k v).map (·.1)↔a∈N.map (·.1)\/a=k:=by
 unfold fS;split
 .rename_i h;rw[aBd];have:((λx=>x.1)∘λp:D×D=>if p.1=k then(p.1,v)else p)=λp=>p.1:=by funext p;simp only[aGn];split<;>rfl
  rw[this];exact⟨.inl,λq=>q.elim id λe=>by rw[e];exact h⟩
 rw[aBh,aAD];simp
def RV{N:List (D×D)}{k v:D}:(fS N k v).length<=N.length+1:=by
 unfold fS;split
 .simp
 simp
def XC{p q:G.V×G.V}(h:K1 p=K1 q):p=q:=by injection h with h;injection h with b a;injection a with a _;exact aEv (DQ b) (DQ a)
def CD(p:G.V×G.V):T1 7 (K1 p)=true/\LD (K1 p)=true:=⟨rfl,rfl⟩
def ffC:Ev->R Bool:=λρ=>((((AA 5 ρ).bind λd=>R.ok [d]).bind JR).bind λx=>zy x (D.int 0)).bind BV
def ffS:Ev->R Out:=λρ=>
 D6 ((eN 9 ρ).bind λa=>yH 4 ρ a (D.bl true)) λρ=>((((AA 9 ρ).bind λx=>X6 x (D.int 1)).bind λd=>(((AA 9 ρ).bind λx=>X6 x (D.int 0)).bind λd=>R.ok [d]).bind λb=>R.ok (d::b)).bind mF).bind (zR 5 ρ)
theorem GK{a0 a1 a2 a3 a6 a7 a8:Sl}:∀(a:List (G.V×G.V)) (N:List (D×D)) (W:List (G.V×G.V)) (g:Sl),N.length+a.length<=10000->W.length+a.length<=10000->
  ∃f b,V3 (λd ρ=>R.ok (aDC ρ 9 (Sl.v d))) ffS (a.map K1) [a0,a1,a2,a3,.d N,.o (W.map K1),a6,a7,a8,g]=.ok (.nx [a0,a1,a2,a3,.d f,.o ((W++a.map λq=>(q.2,q.1)).map K1),a6,a7,a8,b])/\
   (∀e:G.V×G.V,K1 e∈f.map (·.1)↔K1 e∈N.map (·.1)\/e∈a)/\f.length<=N.length+a.length
 |[],N,W,g,_,_=>⟨N,g,by simp,λe=>by simp,by simp⟩
 |q::a,N,W,g,i,j=>by
  simp only[aAp]at i j;have u:=RV (N:=N) (k:=K1 q) (v:=.bl true);obtain⟨f,b,e,m,l⟩:=GK a (fS N (K1 q)<|.bl true) (W++[(q.2,q.1)]) (.v (K1 q)) (by lia) (by simp;lia);refine⟨f,b,?_,λx=>?_,by simp;lia⟩
  .rw[aAk];refine(V1 (ρ2:=[a0,a1,a2,a3,.d (fS N (K1 q)<|.bl true),.o ((W++[(q.2,q.1)]).map K1),a6,a7,a8,.v (K1 q)]) rfl ?_).trans ?_
   .have n:N.length<=sizeLine:=aAr (show N.length<=10000 by lia) (by decide);have p:(W.map K1).length<sizeLine:=by rw[aAh];exact aCt (show W.length<=10000 by lia) (by decide)
    have r:yH 4 [a0,a1,a2,a3,.d N,.o (W.map K1),a6,a7,a8,.v (K1 q)] (K1 q) (.bl true)=.ok (.nx [a0,a1,a2,a3,.d (fS N (K1 q)<|.bl true),.o (W.map K1),a6,a7,a8,.v (K1 q)]):=by show(if _ then _ else _)=_;rw[h9 ⟨(CD q).1,(CD q).2,n⟩];rfl
    have s:zR 5 [a0,a1,a2,a3,.d (fS N (K1 q)<|.bl true),.o (W.map K1),a6,a7,a8,.v (K1 q)] (K1 (q.2,q.1))=.ok (.nx [a0,a1,a2,a3,.d (fS N (K1 q)<|.bl true),.o ((W++[(q.2,q.1)]).map K1),a6,a7,a8,.v (K1 q)]):=by show(if _ then _ else _)=_;rw[h9 p,aBh];rfl
    show D6 ((R.ok<|K1 q).bind λt=>yH 4 [a0,a1,a2,a3,.d N,.o (W.map K1),a6,a7,a8,.v (K1 q)] t (D.bl true)) _=_;rw[R.aa0,r];exact s
   rw[e];simp
  rw[m x,NO,aAc];constructor
  .rintro((h|h)|h)
   .exact .inl h
   .exact .inr (.inl (XC h))
   exact .inr (.inr h)
  rintro(h|h|h)
  .exact .inl (.inl h)
  .exact .inl (.inr (by rw[h]))
  exact .inr h
section
variable(Φ:(List D->R D)->Hp->(bc->Prop)->bc->Prop)
def ffB:Ev->R Out:=λρ=>
 D6 ((CV 5 ρ).bind λz=>R.ok (Out.nx<|aDC z.snd 6<|Sl.v z.fst)) λρ=>
  ((eN 6 ρ).bind (qF 4 ρ)).bind λt=>
   if t=true then
    D6
     ((((eN 6 ρ).bind λd=>((callC Φ 1 (m5 (λρ=>(AA 6 ρ).bind λx=>X6 x (D.int 0)) R6) ρ).bind λd=>R.ok [d]).bind λa=>R.ok (d::a)).bind G1).bind λd=>R.ok (Out.nx<|aDC ρ 7<|Sl.v d))
     λρ=>
     D6
      (((((AA 7 ρ).bind λx=>wJ x none (some 3)).bind λd=>((callC Φ 2 (m5 (eN 7) R6) ρ).bind λd=>R.ok [d]).bind λa=>R.ok (d::a)).bind J7).bind λd=>R.ok (Out.nx<|aDC ρ 8<|Sl.v d))
      λρ=>
      D6 ((((eN 7 ρ).bind λd=>((eN 8 ρ).bind λd=>R.ok [d]).bind λa=>R.ok (d::a)).bind mF).bind (zR 3 ρ))
       λρ=>((((eN 8 ρ).bind λd=>R.ok [d]).bind C5).bind iZ).bind λa=>V3 (λd ρ=>R.ok (aDC ρ 9<|Sl.v d)) ffS a ρ
   else R.ok (Out.nx ρ)
def yV(L:D) (e:G.V×G.V) (fs:List D) (N:List (D×D)) (W:List (G.V×G.V)) (a b c d:Sl):Ev:=
 [Sl.v (K1 e),Sl.c (K8 [L]) (Φ<|K8 [L]),Sl.c (E9 [L]) (Φ<|E9 [L]),.o fs,.d N,.o (W.map K1),a,b,c,d]
end
def BQ{Φ:(List D->R D)->Hp->(bc->Prop)->bc->Prop}{i:Nat}{f:Ev->R (List D)}{ρ:Ev}{m:List D->R D}{ds:List D}(h:ρ[i]?=some (.c m (Φ m)))(a:f ρ=.ok ds):callC Φ i f ρ=m ds:=by unfold callC;rw[h];dsimp only;rw[h9 rfl,a];rfl
def gK(J:List G.V)(fs:List (G.V×Int)):Nat:=(fs.map λf=>(G.c8 J f).length).sum
def fE(J:List G.V)(fs:List (G.V×Int))(f:G.V×Int):gK J (fs++[f])=gK J fs+(G.c8 J f).length:=by simp[gK]
def PZ{J:List G.V}{m:G.V}(h:Land J m):Sz 1000 (G.f7 m J).1/\Sz 1000 (G.f7 m J).2:=by
 have a:Sz 900 m:=h.sz.1 m h.good.mem;obtain⟨j,e,f,g,i⟩:=G.yJ h.good.solid h.good.mem h.good.least;unfold G.f7;dsimp only;split
 .exact⟨a.mono,NX a⟩
 obtain⟨x,y,r,b⟩:=SV e g i;rw[b];have q:∀z∈x::y::r,Sz 1000 z:=λz d=>by rw[<-b]at d;exact(h.sz.1 z (G.c5.mp d).1).mono
 exact⟨q x (.head _),q y (.tail _ (.head _))⟩
def US{J:List G.V}{m:G.V}(h:Land J m){fs:List (G.V×Int)}{b:G.V×G.V->Prop}{W:List (G.V×G.V)}(L:G.LInv J (G.f7 m J) fs b W){p:G.V×G.V}(d:p∈W):Sz 1000 p.1/\Sz 1000 p.2:=by
 rcases L.wt p d with⟨f,g,i⟩|⟨_,e⟩
 .have S:=(L.face f g).aa2 h.good.ord;have a:=S.aa1.mp i;exact⟨(h.sz.1 _ (G.c5.mp a.q).1).mono,(h.sz.1 _ (G.c5.mp a.p).1).mono⟩
 rw[e];exact PZ h
def RX{J:List G.V}{m:G.V}(h:Land J m){f:G.V×Int}(a:G.IsFace J f.1 f.2):(G.c8 J f).length<=J.length:=by have S:=a.aa2 h.good.ord;exact G.B6 S.aa3 λx b=>(G.c5.mp<|S.aa4 b).1
def AG{J:List G.V}{f g:G.V×Int}(h:T6 (j8 J f)=T6 (j8 J g)):f=g:=by have h:[f.1.x,f.1.y,f.1.z,f.2]=[g.1.x,g.1.y,g.1.z,g.2]:=h;simp only[aFW,and_true]at h;exact aEv (G.ext h.1 h.2.1 h.2.2.1) h.2.2.2
def rY{α β:Type}{f:α->β}(d:∀a b,f a=f b->a=b){l:List α}(h:l.Nodup):(l.map f).Nodup:=aBt.mpr (h.imp λ{a b} n e=>n (d a b e))
def WR{Φ:(List D->R D)->Hp->(bc->Prop)->bc->Prop}{J:List G.V}{m:G.V}(hz:Land J m){fs:List (G.V×Int)}{N:List (D×D)}{W:List (G.V×G.V)}{a b c d:Sl}(L:G.LInv J (G.f7 m J) fs (λe=>K1 e∈N.map (·.1)) W)
  (hk:N.length<=gK J fs) (hW:W.length<=1+gK J fs) {n:Nat} (hn:W.length+(J.length*J.length-gK J fs)<n+1) (Y:W≠[]):
  ∃k l W' a' b' c' d',ffB Φ (yV Φ (.lst (J.map vd)) (G.f7 m J) (fs.map (j8 J)) N W a b c d)=.ok (.nx (yV Φ (.lst (J.map vd)) (G.f7 m J) (k.map (j8 J)) l W' a' b' c' d'))/\
   G.LInv J (G.f7 m J) k (λe=>K1 e∈l.map (·.1)) W'/\l.length<=gK J k/\W'.length<=1+gK J k/\W'.length+(J.length*J.length-gK J k)<n:=by
 obtain⟨rest,p,rfl⟩:∃rest p,W=rest++[p]:=⟨W.dropLast,W.getLast Y,(aEy Y).symm⟩;have r:=G.vE hz.good.solid hz.good.ord L.nd L.face;have few:=hz.few;have nn:J.length*J.length<=63*63:=aFf few few;have hsum:gK J fs+J.length<=J.length*J.length:=r;have C:(rest++[p]).length=rest.length+1:=by simp
 rw[C]at hW hn;have E:CV 5 (yV Φ (.lst (J.map vd)) (G.f7 m J) (fs.map<|j8 J) N (rest++[p]) a b c d)=.ok (K1 p,yV Φ (.lst (J.map vd)) (G.f7 m J) (fs.map<|j8 J) N rest a b c d):=by show(match((rest++[p]).map K1)[((rest++[p]).map K1).length-1]? with|some d=>_|none=>_:R (D×Ev))=_;rw[aBh];simp;rfl
 have H:qF 4 (yV Φ (.lst (J.map vd)) (G.f7 m J) (fs.map<|j8 J) N rest (.v (K1 p)) b c d) (K1 p)=.ok (!(open Classical in decide (K1 p∈N.map (·.1)))):=by unfold qF;rw[show(yV Φ (.lst (J.map vd)) (G.f7 m J) (fs.map<|j8 J) N rest (.v (K1 p)) b c d)[4]?=some (.d N)from rfl];dsimp only;rw[h9 (CD p)]
 have A:aU 1000 J:=hz.sz.mono;unfold ffB;rw[E];show∃k l W' a' b' c' d',D6 (R.ok<|Out.nx<|yV Φ (.lst (J.map vd)) (G.f7 m J) (fs.map<|j8 J) N rest (.v (K1 p)) b c d) _=_/\_;rw[C8];rw[show eN 6 (yV Φ (.lst (J.map vd)) (G.f7 m J) (fs.map<|j8 J) N rest (.v (K1 p)) b c d)=.ok (K1 p)from rfl,R.aa0,H,R.aa0];by_cases s:K1 p∈N.map (·.1)
 .refine⟨fs,N,rest,.v (K1 p),b,c,d,?_,G.SN hz.good L rfl s,hk,by lia,by lia⟩;rw[decide_eq_true s];rfl
 have t:p∈rest++[p]:=by simp
 obtain⟨B,n2,n3⟩:=G.BN hz.good L t s;obtain⟨u,w⟩:=US hz L t;have ab:=N5 u w A B.prim;have i:=BH u w A;obtain⟨f,ef⟩:∃f,G.b7 p.1 p.2 J=f:=⟨_,rfl⟩;rw[ef]at B n2 n3 ab i;have po:=jR (d:=f.2) i.mono A;have I:=HN (n:=f.1) (J:=G.o7 f.1 f.2 J) i.mono (TX A);have rl:=RX hz B;have I:J7 [vd f.1,.lst ((G.o7 f.1 f.2 J).map vd)]=.ok (.lst ((G.c8 J f).map vd)):=I;have pr:=MK (J:=G.c8 J f) (by lia);have O:=λ{wk'}{W'} h1 h2=>G.OA hz.good L (rest:=rest) (p:=p) rfl s (walked':=wk') (waiting':=W') h1 h2;rw[ef]at O;have Q:(fs++[f]).Nodup:=by
  have:=(O (wk':=λe=>K1 e∈N.map (·.1)\/e∈G.u9 (G.c8 J f)) (W':=rest++(G.u9<|G.c8 J f).map λq=>(q.2,q.1)) (λe=>Iff.rfl) (λq=>by
   rw[aAD,aAj];constructor
   .rintro(h|⟨x,T,rfl⟩)
    .exact .inl h
    exact .inr T
   rintro(h|h)
   .exact .inl h
   exact .inr ⟨_,h,rfl⟩))
  exact this.nd
 have j:gK J (fs++[f])+J.length<=J.length*J.length:=G.vE hz.good.solid hz.good.ord Q λg hg=>by
  rcases aAD.mp hg with z|z
  .exact L.face g z
  rw[aAJ.mp z];exact B
 rw[fE]at j;have clen:(G.u9<|G.c8 J f).length=(G.c8 J f).length:=by unfold G.u9;simp;lia
 obtain⟨l,U,run,y,len'⟩:=GK (a0:=Sl.v (K1<|G.f7 m J)) (a1:=Sl.c (K8 [.lst (J.map vd)]) (Φ<|K8 [.lst (J.map vd)])) (a2:=Sl.c (E9 [.lst (J.map vd)]) (Φ<|E9 [.lst (J.map vd)])) (a3:=.o ((fs++[f]).map (j8 J))) (a6:=.v (K1 p)) (a7:=.v (wH f.1 f.2)) (a8:=.v (.lst ((G.c8 J f).map vd))) (G.u9<|G.c8 J f) N rest d (by lia) (by lia);refine⟨fs++[f],l,rest++(G.u9<|G.c8 J f).map (λq=>(q.2,q.1)),.v (K1 p),.v (wH f.1 f.2),.v (.lst ((G.c8 J f).map vd)),U,?_,O y (λq=>?_),?_,?_,?_⟩
 .have ap:zR 3 (yV Φ (.lst (J.map vd)) (G.f7 m J) (fs.map<|j8 J) N rest (.v (K1 p)) (.v (wH f.1 f.2)) (.v (.lst ((G.c8 J f).map vd))) d) (j8 J f)=.ok (.nx (yV Φ (.lst (J.map vd)) (G.f7 m J) ((fs++[f]).map (j8 J)) N rest (.v (K1 p)) (.v (wH f.1 f.2)) (.v (.lst ((G.c8 J f).map vd))) d)):=by show(if(fs.map<|j8 J).length<sizeLine then _ else _)=_;have h3:=G.mZ hz.good.solid hz.good.ord L.face;have h3:3*fs.length<=gK J fs:=h3;rw[h9 (by rw[aAh];exact aCt (show fs.length<=4000 by lia) (by decide)),aBh];rfl
  have ca:callC Φ 1 (m5 (λρ=>(AA 6 ρ).bind λx=>X6 x (D.int 0)) R6) (yV Φ (.lst (J.map vd)) (G.f7 m J) (fs.map<|j8 J) N rest (.v (K1 p)) b c d)=.ok (.lst (J.map vd)):=by exact(BQ (m:=K8 [.lst (J.map vd)]) (ds:=[vd p.1]) rfl rfl).trans rfl
  have ct:callC Φ 2 (m5 (eN 7) R6) (yV Φ (.lst (J.map vd)) (G.f7 m J) (fs.map<|j8 J) N rest (.v (K1 p)) (.v (wH f.1 f.2)) c d)=.ok (.lst ((G.o7 f.1 f.2 J).map vd)):=by exact(BQ (m:=E9 [.lst (J.map vd)]) (ds:=[wH f.1 f.2]) rfl rfl).trans po
  have sl:wJ (wH f.1 f.2) none (some 3)=.ok (vd f.1):=rfl;rw[decide_eq_false s];simp only[Bool.not_false,if_true];rw[ca,R.aa0,R.aa0,R.aa0,R.aa0,ab,R.aa0];show D6 (R.ok<|Out.nx<|yV Φ (.lst (J.map vd)) (G.f7 m J) (fs.map<|j8 J) N rest (.v (K1 p)) (.v (wH f.1 f.2)) c d) _=_;rw[C8];rw[ct];show D6 ((((R.ok<|wH f.1 f.2).bind λx=>wJ x none (some 3)).bind λd=>(R.ok [D.lst ((G.o7 f.1 f.2 J).map vd)]).bind λds=>R.ok (d::ds)).bind J7|>.bind λd=>R.ok (Out.nx<|aDC _ 8<|Sl.v d)) _=_;rw[R.aa0,sl,R.aa0,R.aa0,R.aa0,I,R.aa0];show D6 (R.ok<|Out.nx<|yV Φ (.lst (J.map vd)) (G.f7 m J) (fs.map<|j8 J) N rest (.v (K1 p)) (.v (wH f.1 f.2)) (.v (.lst ((G.c8 J f).map vd))) d) _=_;rw[C8];show D6 (zR 3 (yV Φ (.lst (J.map vd)) (G.f7 m J) (fs.map<|j8 J) N rest (.v (K1 p)) (.v (wH f.1 f.2)) (.v (.lst ((G.c8 J f).map vd))) d)<|j8 J f) _=_;rw[ap,C8];show((C5 [.lst ((G.c8 J f).map vd)]).bind iZ).bind _=_;rw[pr,R.aa0];exact run
 .rw[aAD,aAj];constructor
  .rintro(h|⟨x,T,rfl⟩)
   .exact .inl h
   exact .inr T
  rintro(h|h)
  .exact .inl h
  exact .inr ⟨_,h,rfl⟩
 .rw[fE];lia
 .rw[fE,aAz,aAh];lia
 rw[fE,aAz,aAh];lia
def YJ(J:List G.V)(f:G.V×Int):List (G.V×Int)->List (G.V×Int)
 |[]=>[f]
 |x::Y=>if HT.lexLt (T6 (j8 J f)) (T6 (j8 J x))=true then f::x::Y else x::YJ J f Y
def GZ(J:List G.V)(fs:List (G.V×Int)):List (G.V×Int):=fs.foldr (YJ J) []
theorem zH(J:List G.V)(f:G.V×Int):∀Y:List (G.V×Int),vX T6 (j8 J f) (Y.map (j8 J))=(YJ J f Y).map (j8 J)
 |[]=>rfl
 |x::Y=>by
  unfold YJ;rw[aAk,vX];split
  .rfl
  rw[aAk,zH J f Y]
theorem fP(J:List G.V):∀fs:List (G.V×Int),pG T6 (fs.map (j8 J))=(GZ J fs).map (j8 J)
 |[]=>rfl
 |f::fs=>by show vX T6 (j8 J f) (pG T6 (fs.map (j8 J)))=_;rw[fP J fs,zH];rfl
def lN(h:j8 J f=j8 J g):f=g:=AG (by rw[h])
theorem fZ:∀{a b:List (G.V×Int)},a.map (j8 J)=b.map (j8 J)->a=b
 |[],[],_=>rfl
 |[],_::_,h=>by cases h
 |_::_,[],h=>by cases h
 |x::a,y::b,h=>by rw[aAk,aAk]at h;injection h with d e;rw[lN d,fZ e]
def LH:f∈GZ J fs↔f∈fs:=by
 have h:=(W5 T6<|fs.map<|j8 J).mem_iff (a:=j8 J f);rw[fP]at h;constructor
 .intro q;obtain⟨g,b,e⟩:=aAj.mp (h.mp<|aAI q);rw[<-lN e];exact b
 intro q;obtain⟨g,b,e⟩:=aAj.mp (h.mpr<|aAI q);rw[<-lN e];exact b
def tL[Tabs]{J:List G.V}{fs:List (G.V×Int)}(h:fs.Nodup):((fs.map (j8 J)).map T6).Nodup:=by rw[aBd];exact rY (λa b e=>AG (J:=J) e) h
def W3(h:vV k l):l.Nodup:=h.imp λ{a b} q e=>by subst e;rw[TS.lex_irrefl]at q;cases q
def N1{J:List G.V}{fs:List (G.V×Int)}(h:(fs.map (j8 J)).Nodup):fs.Nodup:=(aBt.mp h).imp λ{a b} n e=>n (by rw[e])
def AI{J:List G.V}{fs a:List (G.V×Int)}(b:dR J fs)(d:dR J a):fs=a:=by
 have e:=N1 (W3 b.2);have g:=N1 (W3 d.2);have p:fs.Perm a:=(aBN e g).mpr λf=>by rw[b.1,d.1]
 exact fZ (kP b.2 d.2 (p.map _))
def pZ(h:dR J fs):j4 J=fs:=by unfold j4;have q:∃fs,dR J fs:=⟨fs,h⟩;rw[dif_pos q];exact AI q.choose_spec h
def tW[Tabs]{J:List G.V}{fs:List (G.V×Int)}(a:fs.Nodup)(h:∀n d,(n,d)∈fs↔G.IsFace J n d):dR J (GZ J fs):=by refine⟨λf=>by rw[LH];exact h f.1 f.2,?_⟩;rw[<-fP];exact kX (tL a)
def a1t[Tabs]{Φ:(List D->R D)->Hp->(bc->Prop)->bc->Prop}{J:List G.V}{m:G.V}(hz:Land J m)(s:J.length<=23):
  P3 (D6 (T5 ffC (ffB Φ) 5000 (yV Φ (.lst (J.map vd)) (G.f7 m J) [] [] [G.f7 m J] .no .no .no .no)) λρ=>(((AA 3 ρ).bind sfR).bind λds=>R.ok (D.lst ds)).bind λd=>R.ok (Out.rt d))=.ok (.lst ((j4 J).map (j8 J))):=by
 refine IX (Iv:=λn ρ=>∃fs N W a b c d,ρ=yV Φ (.lst (J.map vd)) (G.f7 m J) (fs.map<|j8 J) N W a b c d/\G.LInv J (G.f7 m J) fs (λe=>K1 e∈N.map (·.1)) W/\N.length<=gK J fs/\W.length<=1+gK J fs/\W.length+(J.length*J.length-gK J fs)<n) ?_ ?_ ?_ (by rintro ρ ⟨_,_,_,_,_,_,_,_,_,_,_,h⟩;lia)
 .rintro n ρ ⟨fs,N,W,a,b,c,d,rfl,L,t,u,v⟩;by_cases i:W=[]
  .subst i;exact .inl rfl
  refine .inr ⟨?_,?_⟩
  .have w:(0:Int)<((W.map K1).length:Int):=by have:=aEJ.mpr i;rw[aAh];lia
   show(R.ok<|D.bl<|decide ((0:Int)<((W.map K1).length:Int))).bind BV=_;rw[decide_eq_true w];rfl
  obtain⟨x,y,A,B,C,E,H,e,I,O,k,l⟩:=WR (Φ:=Φ) (a:=a) (b:=b) (c:=c) (d:=d) hz L t u v i;exact⟨_,e,x,y,A,B,C,E,H,rfl,I,O,k,l⟩
 .refine⟨[],[],[G.f7 m J],.no,.no,.no,.no,rfl,?_,aAl _,aAl _,?_⟩
  .have:=G.BY hz.good;refine⟨this.face,this.nd,λe=>?_,this.cl,this.wt,this.ne⟩;rw[<-this.wk e];simp
  have nn:J.length*J.length<=23*23:=aFf s s;show 1+(J.length*J.length-0)<5000
  lia
 rintro n ρ ⟨fs,N,W,a,b,c,d,rfl,L,t,u,v⟩ j;have o:W=[]:=by
  cases W with
  |nil=>rfl
  |cons p W=>have j:(R.ok<|D.bl<|decide ((0:Int)<(((p::W).map K1).length:Int))).bind BV=.ok false:=j;rw[decide_eq_true (by simp;try lia)]at j;cases j
 subst o;obtain⟨i,q⟩:=G.SS hz.good L;have Q:=tW L.nd q;rw[pZ Q];have g:fs≠[]:=λz=>by have T:=G.W2 hz.good.solid hz.good.ord hz.good.mem hz.good.least;have:=(q _ _).mpr T;rw[z]at this;cases this
 have few:=(G.gE hz.good.solid hz.good.ord (λf=>q f.1 f.2) L.nd g).1;have r:(fs.map<|j8 J).length<=63:=by rw[aAh];lia
 have U:sfR (.lst (fs.map<|j8 J))=.ok ((GZ J fs).map (j8 J)):=by show(if _ then _ else _)=_;rw[h9 ⟨aCh.mpr λd Y=>by obtain⟨f,_,rfl⟩:=aAj.mp Y;rfl,tL L.nd,r⟩,fP]
 show P3 ((((R.ok<|D.lst<|fs.map<|j8 J).bind sfR).bind λds=>R.ok (D.lst ds)).bind λd=>R.ok (Out.rt d))=_;rw[R.aa0,U];rfl
theorem GL:∀{ds:List D},(∀d∈ds,∃v,d=vd v)->(ds.filterMap wB).map vd=ds
 |[],_=>rfl
 |d::ds,h=>by obtain⟨v,rfl⟩:=h d (.head _);rw[List.filterMap_cons_some (xD v),aAk,GL λd a=>h d (.tail _ a)]
section
variable [Tabs]
def SK(J:List G.V):∀d∈J.map vd,cK d=true:=λd a=>by obtain⟨v,_,rfl⟩:=aAj.mp a;rfl
def aZ(J:List G.V):cJ (J.map vd)=(i4 J).map vd:=by unfold i4;refine(GL λd a=>?_).symm;obtain⟨v,_,rfl⟩:=aAj.mp ((Q6 (SK J) d).mp a);exact⟨v,rfl⟩
def A9(J:List G.V):(i4 J).Pairwise λa b=>G.d9 (b-a):=qz (by rw[<-aZ];exact fR _)
def TM{v:G.V}{J:List G.V}:vd v∈J.map vd↔v∈J:=by rw[aAj];exact⟨by rintro⟨u,a,e⟩;rw[<-DQ e];exact a,λh=>⟨v,h,rfl⟩⟩
def l4{J:List G.V}{v:G.V}:v∈i4 J↔v∈J:=by rw[<-TM,<-aZ,Q6 (SK J),TM]
def iN(J:List G.V):(i4 J).Nodup:=(A9 J).imp λ{a b} h e=>by subst e;exact G.F1 h
def mH{a b:List G.V}(g:a.Pairwise λa b=>G.d9 (b-a))(i:b.Pairwise λa b=>G.d9 (b-a))(h:∀v,v∈a↔v∈b):a=b:=by refine XV (pK (CO g) (CO i) λd=>?_);rw[aAj,aAj];exact⟨λ⟨v,f,e⟩=>⟨v,(h v).mp f,e⟩,λ⟨v,f,e⟩=>⟨v,(h v).mpr f,e⟩⟩
def PP(h:(i4 J).length<=63):ssR (.lst (J.map vd))=.ok ((i4 J).map vd):=by show(if _ then _ else _)=_;rw[h9 ⟨RQ J,by rw[aZ,aAh];exact h⟩,aZ]
def fJ(h:G.i9 a)(d:∀v,v∈a->v∈b):G.i9 b:=by obtain⟨A,f,B,g,C,i,D,j,e⟩:=h;exact⟨A,d A f,B,d B g,C,d C i,D,d D j,e⟩
def tj(h:G.i9 J):G.U4 J=3:=by
 by_cases e:G.U4 J=3
 .exact e
 exact absurd h (G.QV e)
def pF(J:List G.V):(i4 J).length<=J.length:=G.B6 (iN J) λv a=>l4.mp a
def bS(f:aU 900 J)(g:G.i9 J)(d:(i4 J).length<=63):∃m r,i4 J=m::r/\Land (m::r) m:=by
 have a:G.i9 (i4 J):=fJ g λv i=>l4.mpr i;cases e:i4 J with
 |nil=>rw[e]at a;obtain⟨A,j,_⟩:=a;cases j
 |cons m r=>
  refine⟨m,r,rfl,?_⟩;have b:=A9 J;rw[e]at a d b;refine⟨⟨a,b,.head _,λX k=>?_⟩,⟨λP l=>f.1 P (l4.mp (by rw[e];exact l)),by lia⟩,d,rfl⟩;rcases aAc.mp k with h|h
  .exact .inl h
  exact .inr ((aAy.mp b).1 X h)
def WD(a:aU 1000 J)(b:G.i9 J):F9 [.lst (J.map vd)]=.ok .non:=by simp only[F9,t9];exact h9 ⟨a,tj b⟩
def a1u(h:Land (m::J) m):J6 [.lst ((m::J).map vd)]=.ok (K1 (G.f7 m (m::J))):=by simp only[J6,t9];exact h9 h
def fx(h:Land (m::J) m)(a:(m::J).length<=23):J5 (K1 (G.f7 m (m::J))) (K8 [.lst ((m::J).map vd)]) (E9 [.lst ((m::J).map vd)])=.ok (.lst ((j4 (m::J)).map (j8 (m::J)))):=by simp only[J5,show K8 [.lst ((m::J).map vd)] [.non]=.ok (.lst ((m::J).map vd))from rfl,t9];exact h9 ⟨h,a,rfl,rfl,rfl⟩
def AU(a:aU 900 J)(b:G.i9 J)(d:(i4 J).length<=23):Q4 [.lst (J.map vd)]=.ok (.lst ((j4 (i4 J)).map (j8 (i4 J)))):=by simp only[Q4,t9];exact h9 ⟨a,b,d⟩
def WF(a:aU 900 J)(b:G.i9 J)(d:(i4 J).length<=23):V9 [.lst (J.map vd)]=.ok (.lst ((B0 J).map vd)):=by simp only[V9,t9];exact h9 ⟨a,b,d⟩
omit [Tabs]in
theorem a2j{α:Type}:∀l:List α,∃b:List α,b.Nodup/\∀x,x∈b↔x∈l
 |[]=>⟨[],aCU,λ_=>Iff.rfl⟩
 |a::l=>by
  obtain⟨b,d,h⟩:=a2j l;by_cases f:a∈l
  .exact⟨b,d,λx=>by rw[h,aAc];exact⟨.inr,λq=>q.elim (λe=>by rw[e];exact f) id⟩⟩
  exact⟨a::b,aAH.mpr ⟨λz=>f ((h a).mp z),d⟩,λx=>by rw[aAc,aAc,h]⟩
def M3(h:Land J m)(o:J.length<=23):dR J (j4 J):=by
 classical
 obtain⟨fs,g,a⟩:=a2j ((G.cands J).filter λf=>decide (G.IsFace J f.1 f.2));have i:∀n d,(n,d)∈fs↔G.IsFace J n d:=λn d=>by
  rw[a,aAX];constructor
  .intro q;exact of_decide_eq_true q.2
  intro q;refine⟨?_,decide_eq_true q⟩;obtain⟨A,j,B,k,C,l,_,e⟩:=G.tK q;unfold G.cands;rw[<-e];exact aAV.mpr ⟨A,j,aAV.mpr ⟨B,k,aAj.mpr ⟨C,l,rfl⟩⟩⟩
 have b:=tW g i;rw[pZ b];exact b
theorem mG:∀(Y:List D) (b:List (List G.V)) (B:List G.V) (x y:Sl),tY Y=some b->B.length+b.flatten.length<=3000->
  ∃g i,V3 (fV 2 (Q5 (λd ρ=>R.ok (aDC ρ 2 (Sl.v d))) (Q5 (λd ρ=>R.ok (aDC ρ 3 (Sl.v d))) mL))) (λρ=>(eN 3 ρ).bind (xw 1 ρ)) Y [a,.o (B.map vd),x,y]=.ok (.nx [a,.o ((B++b.flatten).map vd),g,i])
 |[],b,B,x,y,h,_=>by cases h;exact⟨x,y,by simp⟩
 |d::Y,b,B,x,y,h,k=>by
  unfold tY at h;split at h
  .rename_i v L f l;cases h;obtain⟨p,j,rfl,m⟩:∃p j,d=.tup [p,.lst j]/\D8 j=some v:=by
    unfold xy at f;split at f
    .exact⟨_,_,rfl,f⟩
    cases f
   have n:=n9 m;subst n;rw[List.flatten_cons,aAz]at k;obtain⟨g,i,e⟩:=mG Y L (B++v) (.v p) (.v (.lst (v.map vd))) l (by rw[aAz];lia);refine⟨g,i,?_⟩;have q:(B.map vd).length+(v.map vd).length<=sizeLine:=by rw[aAh,aAh];exact RY (by lia)
   refine(V1 (ρ1:=[a,.o (B.map vd),.v p,.v (.lst (v.map vd))]) (ρ2:=[a,.o ((B++v).map vd),.v p,.v (.lst (v.map vd))]) rfl ?_).trans ?_
   .show(if(B.map vd).length+(v.map vd).length<=sizeLine then _ else _)=_;rw[h9 q,aBh];rfl
   rw[e,List.flatten_cons,aFp]
  cases h
theorem mX(J:List G.V):∀fs:List (G.V×Int),tY (fs.map (j8 J))=some (fs.map (G.c8 J))
 |[]=>rfl
 |f::fs=>by rw[aAk,tY,mX J fs];rw[show xy (j8 J f)=some (G.c8 J f)from t9 _];rfl
def DN{J:List G.V}{fs:List (G.V×Int)}(a:(fs.flatMap (G.c8 J)).length<=3000)(b:(i4 (fs.flatMap (G.c8 J))).length<=63):J9 [.lst (fs.map (j8 J))]=.ok (.lst ((i4 (fs.flatMap (G.c8 J))).map vd)):=by have e:(fs.map<|G.c8 J).flatten=fs.flatMap (G.c8 J):=rfl;simp only[J9,mX,e];exact h9 ⟨a,b⟩
def qT(d:J.Pairwise λa b=>G.d9 (b-a))(e:G.IsFace J f.1 f.2)(h:X∈G.c8 J f):X∈J:=(G.c5.mp<|(e.aa2 d).aa4 h).1
def BJ(g:aU 900 J)(i:G.i9 J)(a:(i4 J).length<=23)(h:X∈B0 J):X∈J:=by obtain⟨m,r,e,L⟩:=bS g i (by lia);unfold B0 at h;rw[l4,aAV]at h;obtain⟨f,b,d⟩:=h;rw[e]at b d a;have j:=M3 L a;have:=qT L.good.ord ((j.1 f).mp b) d;rw[<-e,l4]at this;exact this
def uK(L:Land J m)(b:J.length<=23):((j4 J).flatMap (G.c8 J)).length<=200/\(i4 ((j4 J).flatMap (G.c8 J))).length<=23:=by
 have a:=M3 L b;have e:=N1 (W3 a.2);have g:j4 J≠[]:=λz=>by have h:=G.W2 L.good.solid L.good.ord L.good.mem L.good.least;have:=(a.1 _).mpr h;rw[z]at this;cases this
 have few:=(G.gE L.good.solid L.good.ord a.1 e g).2;constructor
 .rw[List.length_flatMap]
  lia
 refine aAr (G.B6 (iN _) λv d=>?_) b;rw[l4,aAV]at d;obtain⟨f,i,j⟩:=d;exact qT L.good.ord ((a.1 f).mp i) j
end
instance Bd.k6:Bd 1000000 20:=⟨by decide⟩
instance Bd.k7:Bd 10000000 24:=⟨by decide⟩
instance Bd.k8:Bd 100000000 27:=⟨by decide⟩
instance Bd.k63:Bd 1000003 20:=⟨by decide⟩
instance Bd.k79:Bd 7919 13:=⟨by decide⟩
instance Bd.k48:Bd 48611 16:=⟨by decide⟩
instance Bd.k12:Bd 1000000000000 40:=⟨by decide⟩
instance Bd.k20:Bd 100000000000000000000 67:=⟨by decide⟩
def aP(h:0<b):oR (.int a) (.int b)=.ok (.int (a.fmod b)):=AZ (by omega)
def A5(h:0<b)(d:b<1000000000000000):S9 (.int a) (.int b)=.ok (.int (a.fdiv b)):=uS ⟨by omega,f6 (j9 (n:=60) (by omega) (by omega))⟩
def C4{a b:Int}(h:0<b):0<=a.fmod b/\a.fmod b<b:=by have f:=PyProof.Rows.fdiv_fmod_facts a b;have g:=f.2.2.1 h;omega
def y8{a b:Int}{n:Nat}(h:0<b)(d:bits b<=n):bits (a.fmod b)<=n:=bits_fmod (by omega) d
def u8(a:r=.ok (.nx ρ))(b:P3 (F ρ)=x):P3 (D6 r F)=x:=by rw[a];exact b
def SW(b:L.length<=sizeLine)(h:o8 G ft fe ρ L=.ok a):(if L.length<=sizeLine then(o8 G ft fe ρ L).bind λa=>R.ok (D.lst a)else R.bad)=.ok (.lst a):=by rw[h9 b,h];rfl
def UZ{n:Nat}(h:n<=1000000):gG [.int (n:Int)]=.ok ((aBc n).map λ(k:Nat)=>D.int (k:Int)):=by
 show(if rP 0 (n:Int) 1 then R.ok (wS 0 1<|iH 0 n 1)else R.bad)=_;rw[h9 ⟨by decide,by decide,by decide,by decide,by omega,by omega⟩];have e:iH 0 (n:Int) 1=n:=by
  unfold iH;split
  .simp
  omega
 rw[e];unfold wS;congr 1;refine aDP λk _=>?_;simp
def cI(Y:List D)(k:Nat):Int:=match Y[k]? with
 |some (.int i)=>i
 |_=>0
def G2:List D->R D
 |[.lst Y,.int k]=>if 0<=k/\k<=1000 then .ok (yG (λ_=>0) Y k)else .bad
 |_=>.bad
def SY(a:gF 1048576 Y)(k:Nat)(h:k<=1000):G2 [.lst Y,.int (k:Int)]=.ok (.int (cI Y k))/\bits (cI Y k)<=1048576:=by
 have e:G2 [.lst Y,.int (k:Int)]=.ok (yG (λ_=>0) Y k):=h9 ⟨by omega,by omega⟩;rw[e];unfold yG cI;rw[aBH];cases q:Y[k]? with
 |none=>exact⟨rfl,by decide⟩
 |some d=>obtain⟨i,rfl,b⟩:=a d (aAx q);exact⟨rfl,b⟩
def VE:Int:=1000000000000
def yx:Int:=2000000000001
def qR(c:Int):G.V:=⟨(c*1000003+VE).fmod yx-VE,(c*c*7919+VE).fmod yx-VE,(c*c*c+VE).fmod yx-VE⟩
def NC(c:Int):Sz 50 (qR c):=by have k:∀z:Int,bits (z.fmod yx-VE)<=50:=λz=>f6 (bits_sub (bits_fmod (by decide) (show bits yx<=45 by decide)) (show bits VE<=45 by decide));exact⟨k _,k _,k _⟩
def iP:List D->R D
 |[.int c]=>if bits c<=2000000 then .ok (vd (qR c))else .bad
 |_=>.bad
def U0(c:Int):Int×Int×Int:=
 if(c.fdiv 7).fmod 2=1 then((1+(c.fdiv 14).fmod 3)*1000000+1,(1+(c.fdiv 42).fmod 3)*10000000+3,(1+(c.fdiv 126).fmod 3)*100000000+9)
 else(1+(c.fdiv 14).fmod 3,1+(c.fdiv 42).fmod 3,1+(c.fdiv 126).fmod 3)
def oJ(c:Int):(0<(U0 c).1/\(U0 c).1<1000000000)/\(0<(U0 c).2.1/\(U0 c).2.1<1000000000)/\(0<(U0 c).2.2/\(U0 c).2.2<1000000000):=by have d:=C4 (a:=c.fdiv 14) (b:=3) (by decide);have e:=C4 (a:=c.fdiv 42) (b:=3) (by decide);have f:=C4 (a:=c.fdiv 126) (b:=3) (by decide);unfold U0;split<;>(dsimp only;omega)
def KE(a b c:Int):List G.V:=(aBc 8).map λ(k:Nat)=>⟨(k:Int).fmod 2*a,((k:Int).fdiv 2).fmod 2*b,(k:Int).fdiv 4*c⟩
def wE(a b c:Int):List G.V:=[⟨a,0,0⟩,⟨0-b,0,0⟩,⟨0,b,0⟩,⟨0,0-c,0⟩,⟨0,0,c⟩,⟨0,0,0-a⟩]
def xK(a b c:Int):List G.V:=[⟨0,0,0⟩,⟨a,0,0⟩,⟨0,b,0⟩]++[⟨0+c,0,a+b⟩,⟨a+c,0,a+b⟩,⟨0+c,b,a+b⟩]
def wP(n:Nat)(a b c:Int):List G.V:=(aBc n).map (λ(k:Nat)=>⟨(k:Int),(k:Int)*(k:Int),0⟩)++[⟨a,b,c⟩]
def xZ(c e:Int):G.V:=if c.fmod 7=5\/(c.fmod 7=6/\e.fmod 2=1)then qR (e.fdiv 2)else⟨e.fmod 7-3,(e.fdiv 7).fmod 7-3,(e.fdiv 49).fmod 7-3⟩
def jF(a b c:Int):List G.V:=[⟨0,0,0⟩,⟨a,0,0⟩,⟨0,b,0⟩,⟨0,0,c⟩]
def pW(c:Int)(t:List Int):List G.V:=
 if c.fmod 7=0 then KE (U0 c).1 (U0 c).2.1 (U0 c).2.2
 else if c.fmod 7=1 then wE (U0 c).1 (U0 c).2.1 (U0 c).2.2
 else if c.fmod 7=2 then xK (U0 c).1 (U0 c).2.1 (U0 c).2.2
 else if c.fmod 7=3 then wP (3+(c.fdiv 378).fmod 8).toNat (U0 c).1 (U0 c).2.1 (U0 c).2.2
 else jF (U0 c).1 (U0 c).2.1 (U0 c).2.2++t.map (xZ c)
def dU(Y:List D):List Int:=((Y.drop 4).take 5).map intD
def GM:Int:=100000000000000000000
def UI:Int:=200000000000000000001
def FY(c:Int):Int:=if c.fmod 2=0 then 3 else 1000000
def fT(c f:Int)(P:G.V):G.V:=
 let x:=P.x+(c.fdiv 4).fmod (FY c)*P.y
 let y:=P.y-((c*c).fdiv 16).fmod (FY c)*P.z
 let z:=P.z+((c*48611).fdiv 4).fmod (FY c)*x
 let a:=if(c.fdiv 2).fmod 2=1 then z else x
 let b:=if(c.fdiv 2).fmod 2=1 then x else z
 ⟨a+(f*48611+GM).fmod UI-GM,y+(f*f*7919+GM).fmod UI-GM,b+(f*f*f+GM).fmod UI-GM⟩
open Classical in
def nP:List D->R D
 |[.tup [.int a,.int b,.int c],.lst Y]=>if gF 1048576 Y/\Sz 100 ⟨a,b,c⟩then .ok (vd (fT (cI Y 1) (cI Y 2) ⟨a,b,c⟩))else .bad
 |_=>.bad
def YI(x y z:D):lW (.tup [x,y]) (.tup [z])=.ok (.tup [x,y,z]):=rfl
def TU(Y:List D)(i j:Nat)(h:i<=j):wJ (.lst Y) (some (i:Int)) (some (j:Int))=.ok (.lst ((Y.drop i).take (j-i))):=by
 show R.ok (D.lst<|cutD Y (some (i:Int))<|some (j:Int))=_;unfold cutD;rw[HT.sIx_nat,HT.sIx_nat];congr 2;by_cases a:i<=Y.length
 .rw[aFS a];by_cases b:j<=Y.length
  .rw[aFS b]
  rw[aFE (by omega),aDl (by simp),aDl (by simp;omega)]
 rw[aFE (by omega),aFE (by omega),List.drop_eq_nil_of_le (by omega:Y.length<=i)];simp
def uF(b:gF 1048576 Y):(Y.drop 4).take 5=(dU Y).map D.int/\(dU Y).length<=5/\∀e∈dU Y,bits e<=1048576:=by
 have sub:∀d∈(Y.drop 4).take 5,d∈Y:=λd a=>aDF (aDE a);refine⟨?_,by unfold dU;rw[aAh];exact List.length_take_le _ _,λe f=>?_⟩
 .unfold dU;have:∀l:List D,(∀d∈l,∃i,d=.int i)->l=(l.map intD).map D.int:=λl h=>by
   induction l with
   |nil=>rfl
   |cons d l g=>obtain⟨i,rfl⟩:=h d (.head _);rw[aAk,aAk,<-g λd a=>h d (.tail _ a)];rfl
  exact this _ λd a=>let⟨i,e,_⟩:=b d (sub d a);⟨i,e⟩
 obtain⟨d,a,rfl⟩:=aAj.mp f;obtain⟨i,rfl,j⟩:=b d (sub d a);exact j
def ZV(c:Int):∃n:Nat,3+(c.fdiv 378).fmod 8=(n:Int)/\n<=10/\(3+(c.fdiv 378).fmod 8).toNat=n:=by
 have d:=C4 (a:=c.fdiv 378) (b:=8) (by decide);generalize(c.fdiv 378).fmod 8=z at*
 exact⟨(3+z).toNat,by omega,by omega,rfl⟩
def HA(n:Nat)(h:n<=1000):((aBc n).map λ(k:Nat)=>D.int (k:Int)).length<=sizeLine:=by rw[aAh,aCK];exact small h
def UP(n:Nat)(a b e:Int):(wP n a b e).map vd=((aBc n).map λ(k:Nat)=>vd ⟨(k:Int),(k:Int)*(k:Int),0⟩)++[vd ⟨a,b,e⟩]:=by unfold wP;rw[aBh,aBd];rfl
def NB(c:Int):X6 (.lst [.int 3,.int 1000000]) (.int (c.fmod 2))=.ok (.int (FY c))/\0<FY c/\bits (FY c)<=20:=by
 have h:=C4 (a:=c) (b:=2) (by decide);unfold FY;by_cases d:c.fmod 2=0
 .rw[h9 d,d];exact⟨rfl,by decide,by decide⟩
 rw[ia d,show c.fmod 2=1 by omega];exact⟨rfl,by decide,by decide⟩
def gU{J:List G.V}{A B C D:G.V}(a:A∈J)(b:B∈J)(d:C∈J)(e:D∈J)(h:G.i3 (B-A) (C-A) (D-A)≠0):G.i9 J:=⟨A,a,B,b,C,d,D,e,h⟩
def LP{a b c:Int}(d:0<a)(f:0<b)(g:0<c):G.i9 (KE a b c):=by
 have m:∀k<8,(⟨((k:Nat):Int).fmod 2*a,((k:Int).fdiv 2).fmod 2*b,(k:Int).fdiv 4*c⟩:G.V)∈KE a b c:=λk h=>aAj.mpr ⟨k,aBa.mpr h,rfl⟩;refine gU (m 0 (by decide)) (m 1 (by decide)) (m 2 (by decide)) (m 4 (by decide)) ?_;have:∀x:Int,x=a*(b*c)->x≠0:=λx e=>by rw[e];exact Int.ne_of_gt (aAL d<|aAL f g)
 apply this;have i:((0:Nat):Int).fmod 2=0:=rfl;have j:((1:Nat):Int).fmod 2=1:=rfl;have l:((2:Nat):Int).fmod 2=0:=rfl;have n:((4:Nat):Int).fmod 2=0:=rfl;have o:(((0:Nat):Int).fdiv 2).fmod 2=0:=rfl;have p:(((1:Nat):Int).fdiv 2).fmod 2=0:=rfl;have q:(((2:Nat):Int).fdiv 2).fmod 2=1:=rfl;have r:(((4:Nat):Int).fdiv 2).fmod 2=0:=rfl;have s:((0:Nat):Int).fdiv 4=0:=rfl;have t:((1:Nat):Int).fdiv 4=0:=rfl;have u:((2:Nat):Int).fdiv 4=0:=rfl;have v:((4:Nat):Int).fdiv 4=1:=rfl;rw[i,j,l,n,o,p,q,r,s,t,u,v];simp[G.i3,G.dot]
def LC{a b c:Int}(g:0<a)(d:0<b)(f:0<c):G.i9 (wE a b c):=by
 refine gU (A:=⟨a,0,0⟩) (B:=⟨0-b,0,0⟩) (C:=⟨0,b,0⟩) (D:=⟨0,0,c⟩) (by simp[wE]) (by simp[wE]) (by simp[wE]) (by simp[wE]) ?_;have:∀x:Int,x=-((a+b)*(b*c))->x≠0:=λx e=>by
  have:=aAL (show 0<a+b by lia) (aAL d f)
  lia
 apply this;simp[G.i3,G.dot];grind
def KJ{a b c:Int}(d:0<a)(f:0<b)(g:0<c):G.i9 (xK a b c):=by
 refine gU (A:=⟨0,0,0⟩) (B:=⟨a,0,0⟩) (C:=⟨0,b,0⟩) (D:=⟨0+c,0,a+b⟩) (by simp[xK]) (by simp[xK]) (by simp[xK]) (by simp[xK]) ?_;have:∀x:Int,x=a*(b*(a+b))->x≠0:=λx e=>by
  have:=aAL d (aAL f (show 0<a+b by lia))
  lia
 apply this;simp[G.i3,G.dot]
def uX{n:Nat}(f:3<=n){a b c:Int}(g:0<c):G.i9 (wP n a b c):=by
 have m:∀k<n,(⟨((k:Nat):Int),(k:Int)*(k:Int),0⟩:G.V)∈wP n a b c:=λk d=>aBk _ (aAj.mpr ⟨k,aBa.mpr d,rfl⟩);refine gU (m 0 (by lia)) (m 1 (by lia)) (m 2 (by lia)) (D:=⟨a,b,c⟩) (by simp[wP]) ?_;have:∀x:Int,x=2*c->x≠0:=λx e=>by lia
 apply this;simp[G.i3,G.dot]
 lia
def KN{a b c:Int}(d:0<a)(f:0<b)(g:0<c){l:List G.V}:G.i9 (jF a b c++l):=by
 refine gU (A:=⟨0,0,0⟩) (B:=⟨a,0,0⟩) (C:=⟨0,b,0⟩) (D:=⟨0,0,c⟩) (by simp[jF]) (by simp[jF]) (by simp[jF]) (by simp[jF]) ?_;have:∀x:Int,x=a*(b*c)->x≠0:=λx e=>by
  have:=aAL d (aAL f g)
  lia
 apply this;simp[G.i3,G.dot]
def DP(c:Int)(t:List Int):G.i9 (pW c t):=by
 obtain⟨⟨d,g⟩,⟨e,h⟩,⟨c0,i⟩⟩:=oJ c;unfold pW;split
 .exact LP d e c0
 split
 .exact LC d e c0
 split
 .exact KJ d e c0
 split
 .obtain⟨n,j,k,f⟩:=ZV c;rw[f];have:=C4 (a:=c.fdiv 378) (b:=8) (by decide);exact uX (by lia) c0
 exact KN d e c0
def VH(c:Int)(A:t.length<=5):(∀P∈pW c t,Sz 100 P)/\(pW c t).length<=11:=by
 obtain⟨⟨B,C⟩,⟨E,H⟩,⟨c0,I⟩⟩:=oJ c;have g:bits (U0 c).1<=40:=j9 (by lia) (by lia);have j:bits (U0 c).2.1<=40:=j9 (by lia) (by lia);have l:bits (U0 c).2.2<=40:=j9 (by lia) (by lia);generalize u:(U0 c).1=a at*
 generalize v:(U0 c).2.1=b at*
 generalize w:(U0 c).2.2=e at*
 have d:bits 0<=100:=by decide
 have p:∀{x:Int},bits x<=40->bits (0-x)<=100:=λh=>f6 (bits_sub (n:=40) (by decide) h);unfold pW;rw[u,v,w];split
 .refine⟨λP f=>?_,by unfold KE;rw[aAh,aCK];decide⟩;obtain⟨k,q,rfl⟩:=aAj.mp f;have r:=aBa.mp q;exact⟨f6 (bits_mul (y8 (n:=3) (by decide) (by decide)) g),f6 (bits_mul (y8 (n:=3) (by decide) (by decide)) j),f6 (bits_mul (bits_fdiv (n:=10) (j9 (by lia) (by lia))) l)⟩
 split
 .refine⟨λP f=>?_,by show 6<=11;decide⟩;simp only[wE,aAc,aAR,or_false]at f;rcases f with rfl|rfl|rfl|rfl|rfl|rfl
  .exact⟨f6 g,d,d⟩
  .exact⟨p j,d,d⟩
  .exact⟨d,f6 j,d⟩
  .exact⟨d,p l,d⟩
  .exact⟨d,d,f6 l⟩
  exact⟨d,d,p g⟩
 split
 .refine⟨λP f=>?_,by show 6<=11;decide⟩;simp only[xK,aAO,aBO,aAc,aAR,or_false]at f;have m:bits (a+b)<=100:=f6 (bits_add g j);have s:bits (a+e)<=100:=f6 (bits_add g l);have o:bits (0+e)<=100:=by rw[Int.zero_add];exact f6 l
  rcases f with rfl|rfl|rfl|rfl|rfl|rfl
  .exact⟨d,d,d⟩
  .exact⟨f6 g,d,d⟩
  .exact⟨d,f6 j,d⟩
  .exact⟨o,d,m⟩
  .exact⟨s,d,m⟩
  exact⟨o,f6 j,m⟩
 split
 .obtain⟨n,J,L,y⟩:=ZV c;rw[y];refine⟨λP f=>?_,by unfold wP;rw[aAz,aAh,aCK];simp;lia⟩;rcases aAD.mp f with f|f
  .obtain⟨k,q,rfl⟩:=aAj.mp f;have r:=aBa.mp q;have bk:bits (k:Int)<=10:=j9 (by lia) (by lia);exact⟨f6 bk,f6 (bits_mul bk bk),d⟩
  rw[aAJ.mp f];exact⟨f6 g,f6 j,f6 l⟩
 refine⟨λP f=>?_,by rw[aAz,aAh];simp[jF];lia⟩;rcases aAD.mp f with f|f
 .simp only[jF,aAc,aAR,or_false]at f;rcases f with rfl|rfl|rfl|rfl
  .exact⟨d,d,d⟩
  .exact⟨f6 g,d,d⟩
  .exact⟨d,f6 j,d⟩
  exact⟨d,d,f6 l⟩
 obtain⟨i,N,rfl⟩:=aAj.mp f;unfold xZ;split
 .exact(NC _).mono
 have k7:∀z:Int,bits (z.fmod 7-3)<=100:=λz=>f6 (bits_sub (n:=10) (y8 (by decide) (by decide)) (by decide));exact⟨k7 _,k7 _,k7 _⟩
def nI(s t u:Int)(a:Bool)(P:G.V):G.V:=
 let x:=P.x+s*P.y
 let y:=P.y-t*P.z
 let z:=P.z+u*x
 if a then⟨z,y,x⟩else⟨x,y,z⟩
def FZ(k f:Int):∃(s t u:Int) (g:Bool) (o:G.V),(∀P,fT k f P=nI s t u g P+o)/\bits s<=20/\bits t<=20/\bits u<=20/\Sz 80 o:=by
 obtain⟨_,a,b⟩:=NB k;have d:∀z:Int,bits (z.fmod UI-GM)<=80:=λz=>f6 (bits_sub (n:=70) (y8 (by decide) (by decide)) (by decide));refine⟨(k.fdiv 4).fmod (FY k),((k*k).fdiv 16).fmod (FY k),((k*48611).fdiv 4).fmod (FY k),decide ((k.fdiv 2).fmod 2=1),⟨(f*48611+GM).fmod UI-GM,(f*f*7919+GM).fmod UI-GM,(f*f*f+GM).fmod UI-GM⟩,λP=>?_,y8 a b,y8 a b,y8 a b,⟨d _,d _,d _⟩⟩;unfold fT nI;by_cases e:(k.fdiv 2).fmod 2=1
 .simp only[e,if_true,decide_true];exact (by apply G.ext<;>simp<;>lia)
 simp only[e,if_false,decide_false];exact (by apply G.ext<;>simp<;>lia)
def wV(s t u:Int)(a:Bool)(P Q:G.V):nI s t u a P-nI s t u a Q=nI s t u a (P-Q):=by
 unfold nI;cases a
 .exact G.ext (by simp;grind) (by simp;grind) (by simp;grind)
 exact G.ext (by simp;grind) (by simp;grind) (by simp;grind)
def UY(s t u:Int)(a:Bool)(A B C:G.V):G.i3 (nI s t u a A) (nI s t u a B) (nI s t u a C)=(if a then-1 else 1)*G.i3 A B C:=by
 unfold nI;cases a
 .simp[G.i3,G.dot];grind
 simp[G.i3,G.dot];grind
def kT(P Q o:G.V):P+o-(Q+o)=P-Q:=(by apply G.ext<;>simp<;>lia)
def KL(k f:Int){J:List G.V}(h:G.i9 J):G.i9 (J.map (fT k f)):=by
 obtain⟨s,t,u,b,o,e,_⟩:=FZ k f;obtain⟨A,d,B,g,C,i,D,j,a⟩:=h;have m:∀X∈J,fT k f X∈J.map (fT k f):=λX l=>aAI l;refine gU (m A d) (m B g) (m C i) (m D j) ?_;rw[e,e,e,e,kT,kT,kT,wV,wV,wV,UY];cases b
 .simpa using a
 simpa using a
def kw(k f:Int)(h:Sz 100 P):Sz 900 (fT k f P):=by
 obtain⟨s,t,u,b,o,e,i,j,l,m⟩:=FZ k f;rw[e];have p:Sz 400 (nI s t u b P):=by
  unfold nI;have a:bits (P.x+s*P.y)<=200:=f6 (bits_add (n:=120) (f6 h.1)<|f6<|bits_mul i h.2.1);have d:bits (P.y-t*P.z)<=200:=f6 (bits_sub (n:=120) (f6 h.2.1)<|f6<|bits_mul j h.2.2);have g:bits (P.z+u*(P.x+s*P.y))<=300:=f6 (bits_add (n:=220) (f6 h.2.2)<|f6<|bits_mul l a);dsimp only;cases b
  .exact⟨f6 a,f6 d,f6 g⟩
  exact⟨f6 g,f6 d,f6 a⟩
 exact(p.add m.mono).mono
section
variable [Tabs]
def jV{J:List G.V}(h:aU 900 J)(i:G.i9 J)(d:(i4 J).length<=23):∀X,X∈B0 J↔∃f:G.V×Int,G.IsFace (i4 J) f.1 f.2/\X∈G.c8 (i4 J) f:=λX=>by obtain⟨m,r,e,L⟩:=bS h i (by lia);unfold B0;rw[l4,aAV];rw[e]at d⊢;have g:=M3 L d;exact⟨by rintro⟨f,a,b⟩;exact⟨f,(g.1 f).mp a,b⟩,by rintro⟨f,a,b⟩;exact⟨f,(g.1 f).mpr a,b⟩⟩
def mJ{l:List G.V}(h:l.Pairwise λa b=>G.d9 (b-a)):i4 l=l:=mH (A9 _) h λv=>l4
def JI{J:List G.V}(k:aU 900 J)(l:G.i9 J)(o:(i4 J).length<=23):G.i9 (B0 J)/\aU 900 (B0 J)/\i4 (B0 J)=B0 J/\(B0 J).length<=23/\B0 (B0 J)=B0 J/\∀n d,G.IsFace (B0 J) n d↔G.IsFace (i4 J) n d:=by
 have q:=jV k l o;have h:(B0 J).Pairwise λa b=>G.d9 (b-a):=A9 _;have p:G.i9 (i4 J):=fJ l λv i=>l4.mpr i;have s:=A9 J;obtain⟨m,r,e,L⟩:=bS k l (by lia);have t:dR (i4 J) (j4<|i4 J):=by have g:=o;rw[e]at g⊢;exact M3 L g
 have y:(B0 J).length<=23:=by have g:=o;unfold B0;rw[e]at g⊢;exact(uK L g).2
 have B:j4 (i4 J)≠[]:=λz=>by
  obtain⟨A,N,_⟩:=p;have:∃f:G.V×Int,G.IsFace (i4 J) f.1 f.2:=by have j:=L;rw[<-e]at j;have:=G.W2 j.good.solid j.good.ord j.good.mem j.good.least;exact⟨_,this⟩
  obtain⟨f,u⟩:=this;have:=(t.1 f).mpr u;rw[z]at this;cases this
 obtain⟨E,w⟩:=aFc _ B;have C:=G.HW p s h q ((t.1 E).mp w);have sz:aU 900 (B0 J):=⟨λP H=>k.1 P (BJ k l o H),by lia⟩;have x:=mJ h;refine⟨C,sz,x,y,?_,λn d=>G.WC p s h q _ B t.1⟩;refine mH (A9 _) h λv=>?_;have I:=jV sz C (by rw[x];exact y) v;show v∈B0 (B0 J)↔_;rw[I,x];constructor
 .rintro⟨f,u,i⟩;exact qT h u i
 exactλi=>G.MQ p s h q i
end
end M
namespace DL
open PySem PySem.Spec L2
def VG{K:Params->ix}{P c:bc}{tb:List (Pos×Str)}{a:List bc}(b:P∈a)(d:∀w:cp,PySem.W.codeHdIn (K w.params) c P=true):∀p∈[(P,tb)],p.1∈a/\∃c,∀w:cp,PySem.W.codeHdIn (K w.params) c p.1=true:=λp e=>by rw[aAJ.mp e];exact⟨b,c,d⟩
def Got(K:ix)(x:Str)(st:cv):Prop:=∃f a,PySem.W.nsIn K bt x=some (some<|.ref f)/\Fun K x x st f a
def YL(K:ix)(x:Str)(st:cv)(b:bc):Prop:=∃f d a,PySem.W.nsIn K bt x=some (some<|.ref f)/\PySem.W.codeHdIn K a b=true/\FunC K x x st f d a
def fM(K:ix)(mg:cM)(x:Str)(st:cv):Prop:=∃f a,mg x=some (.ref f)/\Fun K x x st f a
def a2s(K:ix)(mg:cM)(x:Str)(st:cv)(b:bc):Prop:=∃f d a,mg x=some (.ref f)/\PySem.W.codeHdIn K a b=true/\FunC K x x st f d a
section
variable{kV doc pm C ct:au}
def aq(a:PySem.W.nsIn K bt x=some (some (.ref f)))(l:K.lookup f=some ⟨d,e,.func (PySem.W.fnOf x x (E6 st) (q8 st) (c6 st) .none kV doc pm g C ct),b⟩)
 (c:PySem.W.codeIn K C x=true) (k:PySem.W.keepIn K (.ref f)=true):Got K x st:=⟨f,_,a,NY l c k⟩
def WT(a:PySem.W.nsIn K bt x=some (some (.ref f)))(l:K.lookup f=some ⟨g,h,.func (PySem.W.fnOf x x (E6 st) (q8 st) (c6 st) .none kV doc pm i C ct),b⟩)
 (c:PySem.W.codeIn K C x=true) (k:PySem.W.keepIn K (.ref f)=true) (e:C=.ref cd) (n:PySem.W.codeHdIn K cd d=true):YL K x st d:=⟨f,_,cd,a,n,UV l e c k⟩
def Got.def(g:Got K x st)(X:K.In h)(G:h.Ns bt mg):fM K mg x st:=let⟨f,d,a,b⟩:=g;⟨f,d,PySem.W.mg_of X G a,b⟩
def YL.def(g:YL K x st d)(X:K.In h)(G:h.Ns bt mg):a2s K mg x st d:=let⟨f,e,i,a,b⟩:=g;⟨f,e,i,PySem.W.mg_of X G a,b⟩
def K5(a:sc.kind=.function:=by rfl)(b:sc.isCoroutine=false:=by rfl)(d:sc.isGenerator=false:=by rfl)(e:N.Nodup:=by decide+kernel)(f:N.take ps.length=ps:=by rfl)(g:∀x∈ps,sc.names.lookup x=some .local\/sc.names.lookup x=some .cell:=by decide+kernel)(h:∀y∈sc.names,y.2≠.free:=by decide+kernel):FnScope N ps sc:=⟨a,b,d,e,f,g,h⟩
variable [Tabs]
def p9(g:fM K mg x st)(S:FnScope N ps (c6 st))(i:∀{f:bc}{C:au}{A:cf}{a:List Env}{s:ba}{H:Hp}{E:XK},Room k (A.deeper (aCN x (c6 st) s.heap.objs.size f C))->(A.deeper (aCN x (c6 st) s.heap.objs.size f C)).units+64<cz->(A.deeper (aCN x (c6 st) s.heap.objs.size f C)).units+130<cz->N.Nodup->
  bN (UH P w K mg base N x (c6 st) f C A a s H E) (q8 st) F) (j:∀ds d,ds.length=ps.length->m ds=.ok d->P3 (F (j6 N ds))=.ok d) (l:∀(kV doc pm:au) (n:Option bc) (C ct:au) (b:List au),b.length=ps.length->bindArgs (PySem.W.fnOf x x (E6 st) (q8 st) (c6 st) .none kV doc pm n C ct) ⟨b,[]⟩=pure (ps.zip b):=by
  intro _ _ _ _ _ _ b o;rcases b with _|⟨_,_|⟨_,_|⟨_,_|⟨_,_|⟨_,_|⟨_,_|⟨_,_⟩⟩⟩⟩⟩⟩⟩<;>first|rfl|exact absurd o (by simp)):z8 P w K mg base (k+1) x ps.length m:=by
 obtain⟨f,q,p,h⟩:=g;exact yj h S (h.binds l) p (λC A a s H E e=>i e e.units e.ad9 S.nd) j
end
def ZK(x:D)(a:List D):Bool:=a.any λy=>v5 y x
def inR(n:Bool):D->D->R D
 |.tup Y,.lst a=>if A8 a<=40/\A8 Y<=30 then .ok (.bl (ZK (.tup Y) a !=n))else .bad
 |.lst Y,.lst a=>if A8 a<=40/\A8 Y<=30 then .ok (.bl (ZK (.lst Y) a !=n))else .bad
 |_,_=>.bad
section
variable [Tabs]
open Classical in
def UM(K:ix) (H:Hp) (O:bc->Prop) (a:D) (u:au):Bool:=decide (∃y d,RelV y u/\Rep K H O y d/\v5 d a=true)
open Classical in
def MJ(I:Inv X b σ H s)(r:Rep X.K H O y d)(f:RelV y u):UM X.K H O g u=v5 d g:=by
 unfold UM;by_cases h:v5 d g=true
 .rw[h];exact decide_eq_true ⟨y,d,f,r,h⟩
 rw[Bool.eq_false_iff.mpr h];refine decide_eq_false λ⟨k,l,a,i,j⟩=>h ?_;have e:=RelV.inj f a;subst e;rw[Rep.inj I r i];exact j
theorem FK(I:Inv X i σ H s)(k:Rep X.K H q x e)(l:RelV x v):∀{L:List V}{a:List D}{f:List au},Reps X.K H O L a->l7 L f->A.units+A8 a<cz->A.units+G4 e<cz->
  (∀u∈f,SeqAt.EqAt A s u v (UM X.K H O e u))/\f.any (UM X.K H O e)=ZK e a
 |_,_,_,.nil,.nil,_,_=>⟨λu m=>(by cases m),rfl⟩
 |_,d::a,_,.cons h t,.cons r n,m,b=>by
  have w:G4 d<=A8 (d::a):=oF (j:=0) rfl;have y:A8 a<=A8 (d::a):=by rw[A8];exact Nat.le_max_right _ _
  obtain⟨o,p⟩:=FK (A:=A) I k l t n (by lia) b;refine⟨λu g=>?_,?_⟩
  .rcases aAc.mp g with rfl|g
   .rw[MJ I h r];exact QY I h k r l (by lia) b
   exact o u g
  rw[List.any_cons,p,MJ I h r];rfl
end
section
variable [Tabs]
def NE(hu:X.A.units+64<cz):mV X (dq .NotIn) (inR true):=by
 intro H O x y dx dy Q fr U r2 q;unfold inR at q;split at q
 .rename_i Y j;split at q
  .rename_i hd;obtain⟨k,fu,rfl,l,n⟩:=U.tupI;obtain⟨a,L,rfl,h,r⟩:=r2.aa5;refine⟨λe f b g=>e=.ref k/\f=.ref a/\b=H/\g (.bl (!ZK (.tup Y) j)) H,?_,rfl,rfl,rfl,?_⟩
   .intro i s σ b e f v u g I o t ⟨B,C,E,J⟩;subst B C E;cases t;obtain⟨d,N,p,hz⟩:=I.list h;have m:=FK I (A:=X.A.in1) (O:=O) (Rep.tup l n) o r N (by rw[o6];lia) (by rw[o6,G4];lia);refine SeqAt.notIn_listAt (UM X.K b O<|.tup Y) p.isList (λw T=>m.1 w (by simpa using T)) ⟨.bl _,b,I,rfl,?_⟩;rw[show d.toArray.any (UM X.K b O<|.tup Y)=d.any (UM X.K b O<|.tup Y)by simp,m.2];exact J
   have:=q (.bl _) H (Same.refl _) .bl;simpa using this
  exact q.elim
 .rename_i Y j;split at q
  .rename_i hd;obtain⟨k,fu,rfl,l,n⟩:=U.aa5;obtain⟨a,L,rfl,h,r⟩:=r2.aa5;refine⟨λe f b g=>e=.ref k/\f=.ref a/\b=H/\g (.bl (!ZK (.lst Y) j)) H,?_,rfl,rfl,rfl,?_⟩
   .intro i s σ b e f v u g I o t ⟨B,C,E,J⟩;subst B C E;cases t;obtain⟨d,N,p,hz⟩:=I.list h;have m:=FK I (A:=X.A.in1) (O:=O) (Rep.lst (O:=λ_=>False) l (λz=>z)<|n.sub λ_ z=>z.elim) o r N (by rw[o6];lia) (by rw[o6,G4];lia);refine SeqAt.notIn_listAt (UM X.K b O<|.lst Y) p.isList (λw T=>m.1 w (by simpa using T)) ⟨.bl _,b,I,rfl,?_⟩;rw[show d.toArray.any (UM X.K b O<|.lst Y)=d.any (UM X.K b O<|.lst Y)by simp,m.2];exact J
   have:=q (.bl _) H (Same.refl _) .bl;simpa using this
  exact q.elim
 exact q.elim
end
end DL
namespace DL
open PySem PySem.Spec L2
open PyProof.Rows hiding St st
variable [Tabs]
section
def RSF(X:Cx)(d:Hp)(e:bc->Prop)(r:R (List D))(D:Ends):Prop:=match r with
 |.ok f=>∀L b a,Same d b->b a=none->Reps X.K b e L f->D.rt (.ref a) (upd b a<|.lst L)
 |_=>False
def tSF(X:Cx)(a:Hp)(b:bc->Prop)(F:Ev->R (List D)):TS:=λD σ H=>∃O ρ,EnvOk X.K a b H O σ ρ/\X7 X.K O/\RSF X a b (F ρ) D
def rW(X:Cx)(st:List cv)(F:Ev->R (List D)):Prop:=∀a b,sS X st (tSF X a b F)
def GD(r:R Out)(F:Ev->R (List D)):R (List D):=match r with
 |.ok (.nx ρ)=>F ρ
 |_=>.bad
@[simp]def a2o(ρ:Ev)(F:Ev->R (List D)):GD (.ok (.nx ρ)) F=F ρ:=rfl
def S8(d:PF X e f):rW X [.Return (some e) g] f:=λh i=>fH (oI<|wG d)<|by rintro D σ H ⟨O,ρ,E,m,q⟩;exact⟨h,i,O,ρ,E,by
 cases b:f ρ with
 |ok n=>rw[b]at q;exactλL j a k l r=>q L j a (E.same.trans k) l (r.sub E.sub)
 |ex x=>rw[b]at q;exact q.elim
 |bad=>rw[b]at q;exact q⟩
def A4{st:cv}{rest:List cv}(f:nH X st F)(g:rW X rest G):rW X (st::rest) (λρ=>GD (F ρ) G):=λd e=>fH (qA (f d e)<|g d e)<|by rintro D σ H ⟨O,ρ,E,h,q⟩;exact⟨O,ρ,E,h,by
 dsimp only at q;cases a:F ρ with
 |ok o=>
  rw[a]at q;cases o with
  |nx b=>exactλm n i j l k=>⟨i,b,j,l,q⟩
  |_=>exact aAf q
 |ex x=>rw[a]at q;exact aAf q
 |bad=>rw[a]at q;exact aAf q⟩
def spW(K:ix)(n:Nat)(m:List D->R D):Sp:=λL H Q _=>∃O d e,Reps K H O L d/\d.length=n/\(∀a,O a->∃o,H a=some o/\Mt o)/\Tb H/\X7 K O/\m d=.ok (.lst e)/\∀f b a,Same H b->b a=none->Reps K b O f e->Q (.ref a) (upd b a<|.lst f)
def pJ(r:R (List D)):R D:=r.bind λa=>.ok (.lst a)
@[simp]def a3j(ds:List D):pJ (.ok ds)=.ok (.lst ds):=rfl
def HY(h:pJ r=.ok d):∃a,r=.ok a/\d=.lst a:=by
 cases r with
 |ok a=>cases h;exact⟨a,rfl,rfl⟩
 |ex x=>cases h
 |bad=>cases h
def unl(r:R D):R (List D):=match r with
 |.ok (.lst a)=>.ok a
 |.ex x=>.ex x
 |_=>.bad
@[simp]def a5j(ds:List D):unl (.ok (.lst ds))=.ok ds:=rfl
def iA(P:bM)(w:cp)(K:ix)(mg:cM)(base:cq)(k:Nat)(x:Str)(n:Nat)(m:List D->R D):Prop:=
 (∃g a b,FnOk P w K mg base uO k g a b (spW K n m)/\Binds K a b []/\PySem.W.keepIn K (.ref g)=true/\mg x=some (.ref g))/\∀e d,e.length=n->m e=.ok d->∃f,d=.lst f
def iA.cal{K:ix}(c:iA P w K mg base k x n m):z8 P w K mg base k x n m:=by obtain⟨⟨g,p,s,F,b,t,e⟩,u⟩:=c;refine⟨g,p,s,F.imp λL H Q E z=>?_,b,t,e⟩;obtain⟨O,h,d,r,i,j,v,y,e,q⟩:=z;obtain⟨A,rfl⟩:=u h d i e;refine⟨O,h,A,r,i,j,v,y,e,λI J a l f B=>q _ _ (l.trans<|k9 f _) (.lst (P4.of j2) (λz=>?_) (B.same<|k9 f _))⟩;obtain⟨o,C,_⟩:=j a z;rw[l _ _ C]at f;cases f
def iW{K:ix}{st:cv}(g:fM K mg x st)(S:FnScope N ps (c6 st))(t:∀{f:bc}{C:au}{A:cf}{a:List Env}{s:ba}{H:Hp}{E:XK},Room k (A.deeper (aCN x (c6 st) s.heap.objs.size f C))->(A.deeper (aCN x (c6 st) s.heap.objs.size f C)).units+64<cz->(A.deeper (aCN x (c6 st) s.heap.objs.size f C)).units+130<cz->N.Nodup->
   rW (UH P w K mg base N x (c6 st) f C A a s H E) (q8 st) F) (o:∀ds d,ds.length=ps.length->m ds=.ok d->pJ (F (j6 N ds))=.ok d) (u:∀(kV j v:au) (y:Option bc) (C ct:au) (h:List au),h.length=ps.length->bindArgs (PySem.W.fnOf x x (E6 st) (q8 st) (c6 st) .none kV j v y C ct) ⟨h,[]⟩=pure (ps.zip h):=by
   intro _ _ _ _ _ _ h b;rcases h with _|⟨_,_|⟨_,_|⟨_,_|⟨_,_|⟨_,_|⟨_,_|⟨_,_⟩⟩⟩⟩⟩⟩⟩<;>first|rfl|exact absurd b (by simp)):iA P w K mg base (k+1) x ps.length m:=by
 obtain⟨f,B,I,l⟩:=g;refine⟨⟨f,B,ps,l.ok S (λL H Q E z=>?_) (λC A a s H L Q E n z=>?_),l.binds u,l.kp,I⟩,λds d b e=>?_⟩
 .obtain⟨O,ds,d,r,b,_⟩:=z;rw[r.length];exact b
 .obtain⟨O,ds,d,r,b,J,T,U,e,q⟩:=z;refine⟨_,t (C:=C) n n.units n.ad9 S.nd H O,O,_,lS r J T,U,?_⟩;obtain⟨p,Y,i⟩:=HY (o ds _ b e);injection i with i;subst i;rw[Y];exact q
 obtain⟨p,_,i⟩:=HY (o ds d b e);exact⟨p,i⟩
def FI(c:iA X.prog X.w X.K X.mg X.base k x n m)(v:Room k X.A)(l:MF X (e::es) f)(r:EZ f n)(y:Gl X x:=by rfl)(B:(x==ja)=false:=by decide)(C:bb (e::es) X.env=(false,dm e X.env)::bb es X.env:=by rfl)(J:(cy o (bb es X.env)).any (·.1)=false:=by rfl):
  PF X (.Call (.Name x p) (e::es) [] o) (λρ=>(f ρ).bind λds=>unl (m ds)):=by
 obtain⟨⟨g,gd,ps,F,b,N,em⟩,T⟩:=c;refine uR λh s σ H Q I U Y O ρ E q=>?_;refine IQ F v y em N b .nil ZB l B C J h s σ H Q I ⟨U,Y,O,ρ,E,?_⟩;dsimp only at q;cases i:f ρ with
 |ex z=>rw[i]at q;exact q
 |bad=>rw[i]at q;exact q
 |ok ds=>
  rw[i,R.aa0]at q;intro L H1 t r1;rw[aCb];have u:=E.grow t;cases j:m ds with
  |ex z=>rw[j]at q;exact(q H<|Same.refl _).elim
  |bad=>rw[j]at q;exact aAf q
  |ok d=>rw[j]at q;obtain⟨rs,rfl⟩:=T ds d (r ρ ds i) j;exact⟨O,ds,rs,r1,r ρ ds i,u.trk,u.tab,nE I O E.trk,j,λws H2 a s2 l r2=>q ws H2 a (t.trans s2) l r2⟩
def WX(i:Nat)(h:zE X e f):zE X e (λρ=>f (gH i ρ)):=ptI h λσ H Q a b O ρ E q=>by
 dsimp only at q;unfold gH at q;cases e:ρ[i]? with
 |none=>rw[e]at q;exact⟨a,b,O,ρ,E,q⟩
 |some d=>
  rw[e]at q;cases d with
  |o Y=>obtain⟨g,j,_⟩:=E.disown e;exact⟨a,b,g,_,j,q⟩
  |_=>exact⟨a,b,O,ρ,E,q⟩
end
section
def jM{c:cu}{a rest:List cv}{b:Ev->R Bool}{F G:Ev->R (List D)}(h:zE X c b)(i:rW X a F)(j:rW X rest G):rW X (.If c a [] k::rest) (λρ=>(b ρ).bind λt=>if t=true then F ρ else G ρ):=λd e=>fH (qA (YY h (i d e) GS)<|j d e)<|by rintro D σ H ⟨O,ρ,E,g,q⟩;exact⟨d,e,O,ρ,E,by
 dsimp only at q;cases f:b ρ with
 |ex x=>rw[f]at q;exact aAf q
 |bad=>rw[f]at q;exact aAf q
 |ok t=>
  rw[f,R.aa0]at q;intro l s;cases t with
  |true=>rw[h9 rfl]at q⊢;exact⟨O,ρ,E.grow s,g,q⟩
  |false=>rw[ia aAU]at q⊢;exact⟨O,ρ,E.grow s,g,q⟩⟩
def PM(i:Nat){st:List cv}{F:Ev->R (List D)}(h:rW X st F):rW X st (λρ=>F (gH i ρ)):=λd f=>fH (h d f)<|by
 rintro D σ H ⟨O,ρ,E,b,q⟩;dsimp only at q;unfold gH at q;cases e:ρ[i]? with
 |none=>rw[e]at q;exact⟨O,ρ,E,b,q⟩
 |some g=>
  rw[e]at q;cases g with
  |o Y=>obtain⟨j,l,sub⟩:=E.disown e;exact⟨j,_,l,λa o k z=>b a o k (sub a z),q⟩
  |_=>exact⟨O,ρ,E,b,q⟩
def a2f(i:Nat)(ρ:Ev):R (List D):=match ρ[i]? with
 |some (.o Y)=>.ok Y
 |_=>.bad
def TJ(i:Nat){x:Str}{p d:Pos}(m:X.N[i]?=some x:=by rfl)(s:AH X.env.scope x:=by first|exact aCB rfl|exact aBM (aCB rfl)|exact aBM (aBM rfl))(t:(x==ja)=false:=by decide)(v:(x==ka)=false:=by decide):rW X [.Return (some (.Name x p)) d] (a2f i):=λJ Q=>fH (oI<|wG<|O8 m s t v)<|by
 rintro D σ H ⟨O,ρ,E,T,q⟩;unfold a2f at q;cases f:ρ[i]? with
 |none=>rw[f]at q;exact aAf q
 |some w=>
  rw[f]at q;cases w with
  |o Y=>
   obtain⟨a,L,y,j,A,k,B⟩:=E.own i Y f;refine⟨_,y,?_⟩;have C:upd (λb=>if b=a then none else H b) a (.lst L)=H:=by
    funext b
    unfold upd;by_cases z:b=a
    .subst z;simp[k]
    simp[z]
   have:=q L (λb=>if b=a then none else H b) a (λb o g=>by
    have ne:b≠a:=λz=>by rw[z,A]at g;cases g
    show(if b=a then none else H b)=some o;rw[ia ne];exact E.same b o g) (h9 rfl) ?_
   .rw[C]at this;exact this
   have off:∀{b:bc}{o:HO},b≠a->H b=some o->(if b=a then none else H b)=some o:=λne e=>by rw[ia ne];exact e
   have l:∀{b:bc}{u:HO},b≠a->Rd H b u->Rd (λb=>if b=a then none else H b) b u:=λne r=>r.elim (λe=>.inl (off ne e))<|by rintro⟨o,e⟩;exact .inr ⟨o,off ne e⟩
   have I:∀{b:bc}{Y:List V},Rd H b (.tup Y)->b≠a:=λr z=>by subst z;rcases r with e|⟨o,e⟩<;>rw[k]at e<;>cases e
   refine B.mono (λb Y h=>h.imp (λr=>l (I r) r) id) (λb Y n h=>⟨λz=>n (E.sub b z),h.imp (l λz=>n (by rw[z];exact j)) id⟩) λb φ n h=>⟨λz=>n (E.sub b z),off (λz=>n (by rw[z];exact j)) h⟩
  |_=>exact aAf q
def XU:D->D->R (List D)
 |.lst a,.lst b=>if a.length+b.length<=sizeLine then .ok (a++b)else .bad
 |_,_=>.bad
def UD{a b:cu}{j k:Ev->R D}(N:PB X a j)(T:PB X b k):PF X (.BinOp a .Add b U) (λρ=>(j ρ).bind λx=>(k ρ).bind λy=>XU x y):=by
 refine uR λg s σ H Q I A B O ρ E q=>?_;dsimp only at q;refine wpAny_BinOp (LS (R:=λx y d=>∃e f,j ρ=.ok e/\k ρ=.ok f/\Same H d/\B4 X.K d O x e/\B4 X.K d O y f) N T I ⟨A,B,O,ρ,E,?_⟩ λv u m x y d Y rx ry h=>?_)
 .cases i:j ρ with
  |ex z=>rw[i]at q;exact q
  |bad=>rw[i]at q;exact aAf q
  |ok e=>
   rw[i,R.aa0]at q;intro x H1 o r;refine⟨A,B,O,ρ,E.grow o,?_⟩;cases n:k ρ with
   |ex z=>rw[n]at q;exactλH' s'=>q H' (o.trans s')
   |bad=>rw[n]at q;exact aAf q
   |ok f=>exactλy d m t=>⟨e,f,rfl,rfl,o.trans m,r.same m,t⟩
 obtain⟨e,f,i,n,sm,r,t⟩:=h;rw[i,R.aa0,n,R.aa0]at q;cases e with
 |lst a=>
  cases f with
  |lst b=>
   simp only[XU]at q;by_cases w:a.length+b.length<=sizeLine
   .rw[h9 w]at q;obtain⟨l,L,rfl,h1,C⟩:=r.aa5;obtain⟨l',fu,rfl,vc,J⟩:=t.aa5;exact FX g m σ d _ _ v u Q Y rx ry ⟨l,l',L,fu,rfl,rfl,h1,vc,by rw[C.length,J.length];exact w,λp hp=>q _ d p sm hp (C.append J)⟩
   rw[ia w]at q;exact q.elim
  |_=>exact aAf q
 |_=>exact aAf q
mutual
theorem MS{K:ix}{H:Hp}{O a:bc->Prop}:∀{v:V}{d:D},rM d=true->Rep K H O v d->Rep K H a v d
 |_,_,_,.int=>.int
 |_,_,h,.tup t r=>.tup t (lI h r)
 |_,_,h,.non=>(by cases h)
 |_,_,h,.bl=>(by cases h)
 |_,_,h,.str=>(by cases h)
 |_,_,h,.lst _ _ _=>(by cases h)
 |_,_,h,.dct _ _ _=>(by cases h)
theorem lI{K:ix}{H:Hp}{O a:bc->Prop}:∀{L:List V}{ds:List D},aO ds=true->Reps K H O L ds->Reps K H a L ds
 |_,_,_,.nil=>.nil
 |_,_,h,.cons r t=>.cons (MS (aGe.mp h).1 r) (lI (aGe.mp h).2 t)
end
def QS(i l:Nat)(U:PF X e f)(hN:X.N.Nodup)(hi:X.N[i]?=some x:=by rfl)(hx:Loc X.env.scope x:=by first|exact aCB rfl|exact aBM rfl)(hs:eQ e (some (.Name x g)) u.line X.env=pure false:=by rfl)(hf:X.fn x=true\/X.env.scope.names.lookup x=some .local:=by first|exact .inl rfl|exact .inr rfl|assumption):
  nH X (.Assign [.Name x g] e u) (λρ=>(f (gH l ρ)).bind λds=>if aO ds=true then .ok (.nx (ρ.set i (.o ds)))else .bad):=by
 rintro w A h s σ H D I ⟨O,ρ,E,fk,q⟩;dsimp only at q;obtain⟨p,E1⟩:∃p,EnvOk X.K w A H p σ (gH l ρ):=by
  unfold gH;cases e:ρ[l]? with
  |none=>exact⟨O,E⟩
  |some sl=>
   cases sl with
   |o Y=>obtain⟨O',E',_⟩:=E.disown e;exact⟨O',E'⟩
   |_=>exact⟨O,E⟩
 refine aEc (F5 (U h s σ H (λv J=>∃L d a ds,v=.ref a/\J=upd d a (.lst L)/\Same H d/\d a=none/\Reps X.K d p L ds/\aO ds=true/\RS X w A H O (.ok (.nx (ρ.set i<|.o ds))) D) I ⟨w,A,p,gH l ρ,E1,?_⟩) λv Q z9=>?_) hs
 .cases j:f (gH l ρ)with
  |ok ds=>
   rw[j,R.aa0]at q;by_cases k:aO ds=true
   .rw[h9 k]at q;exactλL d a Q m r=>⟨L,d,a,ds,rfl,rfl,Q,m,r,k,q⟩
   rw[ia k]at q;exact q.elim
  |ex x=>rw[j]at q;exactλH' s=>q H' (E.same.trans s)
  |bad=>rw[j]at q;exact q
 obtain⟨y,J,B,r2,L,d,a,ds,j,e2,t,m,r,k,q'⟩:=z9;subst j e2;refine N6 B hN hi hx r2 (λs3 I3=>⟨_,_,I3,?_⟩) hf;have hk:=FS B (j2 (H:=d) (a:=a) (o:=.lst L));have T:=(E.grow t).ad3 i m hk (lI k r);refine q' _ _ _ T (nE B _ T.trk) ?_;exactλb o C n=>⟨by rw[l5 (n8 (t b o C) m)];exact t b o C,λz=>z.elim n (n8 (t b o C) m)⟩
end
end DL
namespace DL
open PySem PySem.Spec PySem.Calls PySem.W Builtin Builtin.ObjectAttr Builtin.Getset_descriptor
open PyProof.Rows hiding St
section
variable{prog:bM}{w:cp}{A:cf}{E:F7}{K:Frag}{h:cq}{g:Array GenState}{d:Drawn}{t:Nat}{os:OsState}{a C:bc}{o:Obj}
end
end DL
namespace DL
open PySem PySem.Spec L2
open PyProof.Rows hiding St
variable [Tabs]
section
variable{X:Cx}{pos:Pos}
end
section
variable{X:Cx}{pins:O9}{σ:St}{H H':Hp}{s s':ba}
end
section
variable{K:ix}{H9 H:Hp}{O0 O:bc->Prop}{σ:St}{ρ:Ev}
end
section
variable{X:Cx}{pos vp np:Pos}
end
section
variable{X:Cx}{pos:Pos}
end
section
variable{X:Cx}{pos:Pos}
end
section
def chR(lo a:Int)(i:Nat)(ρ:Ev):R D:=match ρ[i]? with
 |some (.v (.int k))=>.ok (.bl (decide (lo<=k)&&decide (k<=a)))
 |_=>.bad
def MP(i:Nat){lo a:Int}{x:Str}{j g p h b l}(m:X.N[i]?=some x:=by rfl)(n:AH X.env.scope x:=by first|exact aCB rfl|exact aBM (aCB rfl)|exact aBM (aBM rfl))(o:(x==ja)=false:=by decide)(r:(x==ka)=false:=by decide)(s:lastMarks [.LtE,.LtE] [.Name x l,.Constant (.int a) g h]=false:=by with_unfolding_all rfl):
  PD X (.Compare (.Constant (.int lo) j p) [.LtE,.LtE] [.Name x l,.Constant (.int a) g h] b) (chR lo a i):=
 ME (SG (jH.c0 RG) (jH.c0 RG) CP (O8 m n o r) CP s) λσ H Q y z O ρ E q=>by
  unfold chR at q;cases e:ρ[i]? with
  |none=>rw[e]at q;exact q.elim
  |some t=>
   rw[e]at q;cases t with
   |v d=>
    cases d with
    |int k=>
     obtain⟨v,u,w⟩:=E.val i _ e;cases w;have q:∀v f,Same H f->Rep X.K f O v (.bl (decide (lo<=k)&&decide (k<=a)))->Q v f:=q;refine⟨_,u,?_⟩;refine⟨lo,k,rfl,rfl,trivial,_,rfl,?_⟩;by_cases c:lo<=k
     .rw[decide_eq_true c,h9 rfl];exact⟨k,a,rfl,rfl,trivial,q _ H (Same.refl _) (by rw[decide_eq_true c];exact .bl)⟩
     rw[decide_eq_false c,ia aAU];exact q _ H (Same.refl _) (by rw[decide_eq_false c];exact .bl)
    |_=>exact aAf q
   |_=>exact aAf q
end
section
end
section
abbrev BS(X:Cx)(e:cu)(es:List cu):Prop:=bb (e::es) X.env=(false,dm e X.env)::bb es X.env
def n4{i:Int}{j}:PB X (.Constant (.int i) j a) (ZA (.int i)):=c9.pb
def BU{e1:cu}{b:Ev->R D}(c:z8 X.prog X.w X.K X.mg X.base k x 1 m)(e:Room f X.A)(a1:PD X e1 b)(g:k<=f:=by decide)(d:BS X e1 []:=by rfl)(h:Gl X x:=by rfl)(i:(x==ja)=false:=by decide)(j:(cy a (bb [] X.env)).any (·.1)=false:=by rfl):
 PD X (.Call (.Name x p) [e1] [] a) (λρ=>((m5 b R6) ρ).bind m):=xC c (e.mono g) (f9 a1 m8 d) (v8 O6) h i d j
def fI{e1 e2:cu}{b d:Ev->R D}(c:z8 X.prog X.w X.K X.mg X.base k x 2 m)(f:Room g X.A)(a1:PD X e1 b)(a2:PD X e2 d)(h:k<=g:=by decide)(e:BS X e1 [e2]:=by rfl)(i:BS X e2 []:=by rfl)(j:Gl X x:=by rfl)(l:(x==ja)=false:=by decide)(n:(cy a (bb [e2] X.env)).any (·.1)=false:=by rfl):
 PD X (.Call (.Name x p) [e1,e2] [] a) (λρ=>((m5 b (m5 d R6)) ρ).bind m):=xC c (f.mono h) (f9 a1 (f9 a2 m8 i) e) (v8<|v8 O6) j l e n
def pc3{e1 e2 a:cu}{d e f:Ev->R D}(c:z8 X.prog X.w X.K X.mg X.base k x 3 m)(h:Room i X.A)(a1:PD X e1 d)(a2:PD X e2 e)(a3:PD X a f)(j:k<=i:=by decide)(g:BS X e1 [e2,a]:=by rfl)(l:BS X e2 [a]:=by rfl)(n:BS X a []:=by rfl)(o:Gl X x:=by rfl)(q:(x==ja)=false:=by decide)(r:(cy b (bb [e2,a] X.env)).any (·.1)=false:=by rfl):
 PD X (.Call (.Name x p) [e1,e2,a] [] b) (λρ=>((m5 d (m5 e (m5 f R6))) ρ).bind m):=xC c (h.mono j) (f9 a1 (f9 a2 (f9 a3 m8 n) l) g) (v8<|v8<|v8 O6) o q g r
def pc4{e1 e2 b a:cu}{e f g h:Ev->R D}(c:z8 X.prog X.w X.K X.mg X.base k x 4 m)(j:Room l X.A)(a1:PD X e1 e)(a2:PD X e2 f)(a3:PD X b g)(n:PD X a h)(o:k<=l:=by decide)(i:BS X e1 [e2,b,a]:=by rfl)(q:BS X e2 [b,a]:=by rfl)(r:BS X b [a]:=by rfl)(s:BS X a []:=by rfl)(t:Gl X x:=by rfl)(u:(x==ja)=false:=by decide)(v:(cy d (bb [e2,b,a] X.env)).any (·.1)=false:=by rfl):
 PD X (.Call (.Name x p) [e1,e2,b,a] [] d) (λρ=>((m5 e (m5 f (m5 g (m5 h R6)))) ρ).bind m):=xC c (j.mono o) (f9 a1 (f9 a2 (f9 a3 (f9 n m8 s) r) q) i) (v8<|v8<|v8<|v8 O6) t u i v
def xW{e1 e2:cu}{a b:Ev->R D}{j}(a1:PD X e1 a)(a2:PD X e2 b)(d:BS X e1 [e2]:=by rfl)(e:BS X e2 []:=by rfl):PD X (.Tuple [e1,e2] j f) (λρ=>((m5 a (m5 b R6)) ρ).bind mF):=rH (f9 a1 (f9 a2 m8 e) d)
def oM{e1 e2 a:cu}{b d e:Ev->R D}{j}(a1:PD X e1 b)(a2:PD X e2 d)(a3:PD X a e)(f:BS X e1 [e2,a]:=by rfl)(g:BS X e2 [a]:=by rfl)(h:BS X a []:=by rfl):PD X (.Tuple [e1,e2,a] j i) (λρ=>((m5 b (m5 d (m5 e R6))) ρ).bind mF):=rH (f9 a1 (f9 a2 (f9 a3 m8 h) g) f)
def NQ{id:String}{g:List D->R D}{e:cu}{f:Ev->R D}(h:dP X (.builtin id) g)(a:PB X e f)(i:Gl X x:=by rfl)(j:X.mg x=none:=by assumption)(k:de x=some (.builtin id):=by decide+kernel)(l:x≠ "__name__":=by decide)(m:(x==ja)=false:=by decide)(d:BS X e []:=by rfl)(n:(cy b (bb [] X.env)).any (·.1)=false:=by rfl):
 PD X (.Call (.Name x p) [e] [] b) (λρ=>(m5 f R6 ρ).bind g):=dH h (u5 a E8 d) i j k l m d n
def CI{i:List Str}{a:hE}{l:Pos}{e:cu}{fe:Ev->R D}(h:∀b f j k C,PD (FN X b j k ([x]++i) a (bV X a C) C f) e fe)(m:([x]++i).Nodup:=by decide+kernel)(n:Loc (relabel a X.env) x:=by first|exact aCB rfl|exact aBM rfl)(o:(a.names.lookup x==some .cell)=true\/(relabel a X.env).names.lookup x=some .local:=by first|exact .inl rfl|exact .inr rfl):
  ∀(b:O9) (f:List bc) (g:Cx),(∃p q C,g=FN X b p q ([x]++i) a (bV X a C) C f)->LO g (.Name x l) (λd ρ=>.ok (ρ.set 0 (.v d)))/\UL g [] (λ_=>.ok true)/\PD g e fe:=by
 rintro b f r ⟨j,k,C,rfl⟩;exact⟨n6 0 m rfl n o,GA,h b f j k C⟩
def hxt{j:List Str}{a:hE}{l:Pos}{f c:cu}{fe:Ev->R D}{ft:Ev->R Bool}(h:∀b e g i C,zE (FN X b g i ([x]++j) a (bV X a C) C e) c ft/\PD (FN X b g i ([x]++j) a (bV X a C) C e) f fe)(m:([x]++j).Nodup:=by decide+kernel)(n:Loc (relabel a X.env) x:=by first|exact aCB rfl|exact aBM rfl)(o:(a.names.lookup x==some .cell)=true\/(relabel a X.env).names.lookup x=some .local:=by first|exact .inl rfl|exact .inr rfl):
  ∀(b:O9) (e:List bc) (k:Cx),(∃p q C,k=FN X b p q ([x]++j) a (bV X a C) C e)->LO k (.Name x l) (λd ρ=>.ok (ρ.set 0 (.v d)))/\UL k [c] ft/\PD k f fe:=by
 rintro b e r ⟨g,i,C,rfl⟩;exact⟨n6 0 m rfl n o,VL (h b e g i C).1,(h b e g i C).2⟩
end
end DL
namespace DL
open PySem L2
variable [Tabs]
def z8.imp{K:ix}(c:z8 P w K mg base k x n m)(h:∀ds d,a ds=.ok d->m ds=.ok d):z8 P w K mg base k x n a:=by obtain⟨g,f,i,F,b,j,e⟩:=c;exact⟨g,f,i,F.imp<|by rintro L H Q E ⟨O,ds,d,r,l,o,p,s,e,q⟩;exact⟨O,ds,d,r,l,o,p,s,h _ _ e,q⟩,b,j,e⟩
end DL
namespace M
open PySem L2 DL
variable [Tabs]
def axB:D->Bool
 |.int i=>decide (0<=i)&&decide (i<=2)
 |_=>false
def eV:List D->R D
 |[d]=>.ok (.bl (axB d))
 |_=>.bad
def C3(a:Int)(P:G.V):G.V:=if a=0 then⟨P.y,P.z,0⟩else if a=1 then⟨P.x,P.z,0⟩else⟨P.x,P.y,0⟩
def v9(a:Int)(J:List G.V):List G.V:=G.j0 ⟨0,0,1⟩ (i4<|J.map<|C3 a)
def G9(v:G.V):D:=.tup [.int v.x,.int v.y]
def Fw(J:List G.V):Prop:=(∀P∈J,Sz 900 P)/\J.length<=60
open Classical in
def W8:List D->R D
 |[.lst Y,.int a]=>match D8 Y with
  |some J=>if(0<=a/\a<=2)/\Fw J then .ok (.lst ((v9 a J).map G9))else .bad
  |none=>.bad
 |_=>.bad
def tM(b:0<=a/\a<=2)(d:Fw J):W8 [.lst (J.map vd),.int a]=.ok (.lst ((v9 a J).map G9)):=by simp only[W8,t9];exact h9 ⟨b,d⟩
def ZH(h:Sz n P):bits (C3 a P).x<=n/\bits (C3 a P).y<=n/\(C3 a P).z=0:=by
 unfold C3;split
 .exact⟨h.2.1,h.2.2,rfl⟩
 split
 .exact⟨h.1,h.2.2,rfl⟩
 exact⟨h.1,h.2.1,rfl⟩
def BX(b:Fw J):aU 1000 (i4 (J.map (C3 a)))/\(i4 (J.map (C3 a))).length<=60:=by have e:(i4<|J.map<|C3 a).length<=60:=aAr (pF _) (by rw[aAh];exact b.2);refine⟨⟨λP d=>?_,by lia⟩,e⟩;rw[l4]at d;obtain⟨Q,f,rfl⟩:=aAj.mp d;obtain⟨g,h,i⟩:=ZH (a:=a) (b.1 Q f);exact⟨L7 g (by decide),L7 h (by decide),by rw[i];decide⟩
def rA(e:Fw J):(∀v∈v9 a J,Sz 1000 v)/\(v9 a J).length<=120:=by
 obtain⟨⟨d,_⟩,g⟩:=BX (a:=a) e;unfold v9;generalize i4 (J.map<|C3 a)=q at*
 have i:=fC ⟨0,0,1⟩ q;have f:=fC ⟨0,0,1⟩ q.reverse;rw[aBU]at f;refine⟨λv b=>?_,?_⟩
 .unfold G.j0 at b;rcases aAD.mp b with b|b
  .have:=aBL.mp ((aFX _).subset b);exact d v (kG q q [] (λ_ h=>nomatch h) (λ_ h=>h) v this)
  have:=aBL.mp ((aFX _).subset b);exact d v (kG q q.reverse [] (λ_ h=>nomatch h) (λ_ h=>aBL.mp h) v this)
 unfold G.j0;simp only[aAz,aEu,aBU]
 lia
def aF:List D->R D
 |[.lst Y]=>if Y.length<=3000 then .ok (.lst (L5 Y (Y.tail++Y.take 1)))else .bad
 |_=>.bad
def MI(ds:List D)(d:D)(h:C5 ds=.ok d):aF ds=.ok d:=by
 unfold C5 at h;split at h
 .split at h
  .rename_i J a;split at h
   .rename_i b;rw[n9 a,<-h];show(if _ then _ else _)=_;rw[h9 (by rw[aAh];exact b),<-aGt,<-aGu,<-aBh,uY (β:=Unit)];rfl
   cases h
  cases h
 cases h
def rQ(P Q:G.V):Int:=P.x*Q.y-P.y*Q.x
def D2(r:List G.V):Int:=(aCT rQ r<|r.tail++r.take 1).sum
open Classical in
def lL:List D->R D
 |[.lst Y,.int a]=>match D8 Y with
  |some J=>if(0<=a/\a<=2)/\Fw J then .ok (.int (D2 (v9 a J)))else .bad
  |none=>.bad
 |_=>.bad
def GX(b:0<=a/\a<=2)(d:Fw J):lL [.lst (J.map vd),.int a]=.ok (.int (D2 (v9 a J))):=by simp only[lL,t9];exact h9 ⟨b,d⟩
theorem tV{a:D->Ev->R Ev}{fe:Ev->R D}{ρ:Ev}:∀(r q:List G.V),(∀P∈r,∀Q∈q,∃ρ1,a (.tup [G9 P,G9 Q]) ρ=.ok ρ1/\fe ρ1=.ok (.int (rQ P Q)))->o8 a (λ_=>.ok true) fe ρ (L5 (r.map G9) (q.map G9))=.ok ((aCT rQ r q).map D.int)
 |[],q,_=>by simp[L5,o8]
 |P::r,[],_=>by simp[L5,o8]
 |P::r,Q::q,h=>by obtain⟨ρ1,b,d⟩:=h P (.head _) Q (.head _);have e:=tV r q λP f Q g=>h P (.tail _ f) Q (.tail _ g);show o8 a (λ_=>.ok true) fe ρ (.tup [G9 P,G9 Q]::L5 (r.map G9) (q.map G9))=_;simp[o8,b,d,e]
def aR(ns:List Int):cP (ns.map D.int)=some ns:=by
 induction ns with
 |nil=>rfl
 |cons n ns a=>rw[aAk,cP,a];rfl
def VO(h:G4 d<=40):MH d d=.ok (.bl false):=by unfold MH;rw[h9 ⟨h,h⟩,R7];rfl
def cQ{J:Ev->Prop}(a:r=.ok (.nx ρ))(b:∃ρ2,F ρ=.ok (.nx ρ2)/\J ρ2):∃ρ2,D6 r F=.ok (.nx ρ2)/\J ρ2:=by rw[a];exact b
def dw(c w:Int):G.V:=⟨c.fmod w-w.fdiv 2,(c.fdiv w).fmod w-w.fdiv 2,(c.fdiv<|w*w).fmod w-w.fdiv 2⟩
def tmA(c:Int)(at_ j:Nat):Int:=(c.fdiv<|5+7*(at_:Int)+(j:Int)).fmod 5-2
def kz(P:G.V)(t:Int)(w:G.V):G.V:=⟨P.x+t*w.x,P.y+t*w.y,P.z+t*w.z⟩
def ptA(c:Int)(b:G.V)(ws:List G.V)(at_:Nat):G.V:=match ws with
 |[]=>b
 |[u]=>kz b (tmA c at_ 0) u
 |u::v::_=>kz (kz b (tmA c at_ 0) u) (tmA c at_ 1) v
def a0a(c:Int)(b:G.V)(ws:List G.V)(n:Nat):List G.V:=(aBc n).map (ptA c b ws)
structure Drawn(J:List G.V):Prop where
 ne:J≠[]
 len:J.length<=40
 sz:∀P∈J,Sz 100 P
 flat:¬G.i9 J
open Classical in
def pk(p:Prop) (d:D):R D:=if p then .ok d else .bad
def wZ{p:Prop}{d r:D}(h:pk p d=.ok r):p/\d=r:=by
 unfold pk at h;split at h
 .rename_i z;cases h;exact⟨z,rfl⟩
 cases h
def wL{p:Prop}{d:D}(h:p):pk p d=.ok d:=h9 h
def lvD(k:List G.V->List D->R D):List D->R D:=DO λY e=>match D8 Y with
 |some l=>k l e
 |none=>.bad
def jj{k:List G.V->List D->R D}{ds:List D}{r:D}(h:lvD k ds=.ok r):∃l e,ds=.lst (l.map vd)::e/\k l e=.ok r:=by
 replace h:=bU h;obtain⟨Y,e,rfl,h⟩:=h;cases q:D8 Y with
 |none=>rw[q]at h;cases h
 |some l=>rw[q]at h;exact⟨l,e,by rw[n9 q],h⟩
def WH(k:List G.V->List D->R D)(l:List G.V)(e:List D):lvD k (.lst (l.map vd)::e)=k l e:=by show(match D8 (l.map vd)with|some l=>k l e|none=>.bad)=_;rw[t9]
def ZF(s k:Int):Int:=(s*s+5003*k+11).fmod 2147483647
def gR(l:List Int):Prop:=l.length=7/\∀i∈l,bits i<=100
def s7(c k:Int):Int:=(c.fdiv k).fmod 7-3
def JN{J:List G.V}(g:aU 900 J)(h:G.i9 J)(d:(i4 J).length<=23):(∀f,f∈j4 (i4 J)↔G.IsFace (i4 J) f.1 f.2)/\j4 (i4 J)≠[]/\(j4 (i4 J)).length<=12167:=by obtain⟨m,r,e,L⟩:=bS g h (by lia);have a:=d;rw[e]at a;have b:=M3 L a;rw[<-e]at b L;have i:=N1 (W3 b.2);have few:=G.JX i λf j=>(b.1 f).mp j;have k:(i4 J).length*((i4 J).length*(i4 J).length)<=23*(23*23):=aFf d (aFf d d);refine⟨b.1,λz=>?_,aAr few k⟩;have q:=G.W2 L.good.solid L.good.ord L.good.mem L.good.least;have:=(b.1 (_,_)).mpr q;rw[z]at this;cases this
def intD:D->Int
 |.int i=>i
 |_=>0
def QC{α β:Type}{G:D->Ev->R Ev}{fe:Ev->R D}{ρ:Ev}(rep:α->D)(b:β->D)(g:α->β)(l:List α)(h:∀a∈l,∃ρ1,G (rep a) ρ=.ok ρ1/\fe ρ1=.ok (b (g a))):o8 G (λ_=>.ok true) fe ρ (l.map rep)=.ok ((l.map g).map b):=by rw[aBd];exact J8 rep _ l h
def M7{r:R Out}{ρ:Ev}{F:Ev->R (List D)}{x:R D}(a:r=.ok (.nx ρ))(b:pJ (F ρ)=x):pJ (GD r F)=x:=by rw[a];exact b
def jA{r:R Bool}{x:R D}{F G:R (List D)}(a:r=.ok true)(b:pJ F=x):pJ (r.bind λt=>if t=true then F else G)=x:=by rw[a];exact b
def lP{r:R Bool}{x:R D}{F G:R (List D)}(a:r=.ok false)(b:pJ G=x):pJ (r.bind λt=>if t=true then F else G)=x:=by rw[a];exact b
def AY{G:D->Ev->R Ev}{ft:Ev->R Bool}{fe:Ev->R D}{ρ:Ev}{L a:List D}(b:L.length<=sizeLine)(h:o8 G ft fe ρ L=.ok a):(if L.length<=sizeLine then o8 G ft fe ρ L else R.bad)=.ok a:=by rw[h9 b,h]
def HJ{a b:List D}(h:a.length+b.length<=sizeLine):XU (.lst a) (.lst b)=.ok (a++b):=h9 h
def NJ{G:D->Ev->R Ev}{F:Ev->R Out}{a:Ev->R (List D)}{ds:List D}{ρ:Ev}{d:D}(Iv:List D->Ev->Prop)(b:∀d ds ρ,Iv (d::ds) ρ->∃ρ2,dN G F d ρ=.ok (.nx ρ2)/\Iv ds ρ2)(h0:Iv ds ρ)(f:∀ρ',Iv [] ρ'->pJ (a ρ')=.ok d):pJ (GD (V3 G F ds ρ) a)=.ok d:=by obtain⟨ρ',e,h⟩:=lD Iv b h0;rw[e];exact f ρ' h
def B2(a b:Int):Prop:=bits a<=1000/\bits b<=1000
def uH(A B C:G.V):Int:=(B.x-A.x)*(C.y-A.y)-(B.y-A.y)*(C.x-A.x)
def dwn(A B C:G.V):Int:=(B.x-A.x)*(C.x-A.x)+(B.y-A.y)*(C.y-A.y)
def whl(A B:G.V):Int:=(B.x-A.x)*(B.x-A.x)+(B.y-A.y)*(B.y-A.y)
open Classical in
def bT:List D->R D
 |[p,.int a]=>match wB p with
  |some P=>if 0<=a/\a<=2 then .ok (G9 (C3 a P))else .bad
  |none=>.bad
 |_=>.bad
def OI{P:G.V}{a:Int}(h:0<=a/\a<=2):bT [vd P,.int a]=.ok (G9 (C3 a P)):=by simp only[bT,xD];exact h9 h
open Classical in
def fL:List D->R D
 |[.tup [.int a,.int b],.tup [.int c,.int d],.tup [.int e,.int f]]=>if B2 a b/\B2 c d/\B2 e f then .ok (.int (uH ⟨a,b,0⟩ ⟨c,d,0⟩ ⟨e,f,0⟩))else .bad
 |_=>.bad
def AV{A B C:G.V}(a:B2 A.x A.y)(b:B2 B.x B.y)(d:B2 C.x C.y):fL [G9 A,G9 B,G9 C]=.ok (.int (uH A B C)):=h9 ⟨a,b,d⟩
def B2.sub{a b c d:Int}(e:B2 a b)(f:B2 c d):bits (c-a)<=1001/\bits (d-b)<=1001:=⟨bits_sub f.1 e.1,bits_sub f.2 e.2⟩
def zD:List D->Option (List G.V)
 |[]=>some []
 |.tup [.int a,.int b]::r=>match zD r with
  |some l=>some (⟨a,b,0⟩::l)
  |none=>none
 |_=>none
theorem zB:∀{l:List G.V},(∀v∈l,v.z=0)->zD (l.map G9)=some l
 |[],_=>rfl
 |v::l,h=>by have d:=zB (l:=l) λw e=>h w (.tail _ e);have z:=h v (.head _);obtain⟨a,b,c⟩:=v;cases z;rw[aAk];simp only[G9,zD,d];rfl
theorem uU:∀{ds:List D}{l:List G.V},zD ds=some l->ds=l.map G9/\∀v∈l,v.z=0
 |[],l,h=>by cases h;exact⟨rfl,λv d=>nomatch d⟩
 |.tup [.int a,.int b]::r,l,h=>by
  simp only[zD]at h;split at h
  .rename_i i e;cases h;obtain⟨f,g⟩:=uU e;refine⟨by rw[f];rfl,λv d=>?_⟩;rcases aAc.mp d with rfl|d
   .rfl
   exact g v d
  cases h
def YM(S:List G.V)(A B:G.V):Prop:=A≠B/\∀C∈S,0<=uH A B C/\(uH A B C=0->0<=dwn A B C/\dwn A B C<=whl A B)
def VC(a:Int)(P:G.V):(C3 a P).z=0:=by
 unfold C3
 repeat' split
 all_goals rfl
def bL{J:List G.V}{a:Int}(h:G.i9 J):G.Sheet ⟨0,0,1⟩ (i4 (J.map (C3 a)))where
 nz:=λz=>by have:=ir G.V.z z;simp at this
 pl:=λX q Y r=>by obtain⟨P,_,rfl⟩:=aAj.mp (l4.mp q);obtain⟨Q,_,rfl⟩:=aAj.mp (l4.mp r);have H:=VC a P;have I:=VC a Q;simp[G.dot];lia
 ord:=A9 _
 two:=by
  obtain⟨A,n,B,s,C,t,E,L,e⟩:=h;have b:∀{P:G.V},P∈J->C3 a P∈i4 (J.map<|C3 a):=λu=>l4.mpr (aAI u);by_cases o:C3 a A=C3 a B
  .by_cases p:C3 a A=C3 a C
   .refine absurd ?_ e;have g:∀{P Q:G.V},C3 a P=C3 a Q->(a=0/\P.y=Q.y/\P.z=Q.z)\/(a≠0/\a=1/\P.x=Q.x/\P.z=Q.z)\/(a≠0/\a≠1/\P.x=Q.x/\P.y=Q.y):=λ{P Q} z=>by
     unfold C3 at z;have d:=ir G.V.x z;have f:=ir G.V.y z;by_cases i:a=0
     .simp[i]at d f;exact .inl ⟨i,d,f⟩
     by_cases j:a=1
     .simp[j]at d f;exact .inr (.inl ⟨i,j,d,f⟩)
     simp[i,j]at d f;exact .inr (.inr ⟨i,j,d,f⟩)
    have v:=g o;have w:=g p;rcases v with⟨_,k,l⟩|⟨_,_,k,l⟩|⟨_,_,k,l⟩<;>rcases w with⟨_,v1,m⟩|⟨_,_,v1,m⟩|⟨_,_,v1,m⟩<;>first|contradiction|(simp[G.i3,G.dot,G.cr,k,l,v1,m];try grind)
   exact⟨_,b n,_,b t,p⟩
  exact⟨_,b n,_,b s,o⟩
end M
namespace SD
open PySem
section
variable{prog:bM}{w:cp}{A:cf}{E:F7}{s:ba}{d it:bc}{es:Array DictEntry}{ep i:Nat}
end
section
variable{prog:bM}{w:cp}{A:cf}{E:F7}{s:ba}{d:bc}{es:Array DictEntry}{ep:Nat}
end
end SD
namespace DL
open PySem L2
section
variable [Tabs]
end
end DL
namespace M
open PySem L2 DL
variable [Tabs]
def fd4(f:G.V×Int):D:=wH f.1 f.2
def fU(a n:Nat):List D:=(aEe a n).map λ(k:Nat)=>D.int (k:Int)
def a4h{a b:Nat}(d:a<=1000000)(h:b<=1000000):gG [.int (a:Int),.int (b:Int)]=.ok (fU a (b-a)):=by
 show(if rP (a:Int) (b:Int) 1 then R.ok (wS a 1<|iH a b 1)else R.bad)=_;rw[h9 ⟨by decide,by decide,by lia,by lia,by lia,by lia⟩];have e:iH (a:Int) (b:Int) 1=b-a:=by
  unfold iH;split
  .simp
  lia
 rw[e];unfold wS fU;rw[List.range'_eq_map_range,aBd];congr 1;refine aDP λk _=>?_;simp
def a1n{n:Nat}(h:n<=1000000):gG [.int (n:Int)]=.ok (fU 0 n):=by rw[UZ h];unfold fU;rw[List.range_eq_range']
theorem qP{G:D->Ev->R Ev}{F:Ev->R Out}(Iv:Nat->Ev->Prop):∀{n a:Nat}{ρ:Ev},(∀i,a<=i->i<a+n->∀ρ,Iv i ρ->∃ρ2,dN G F (.int (i:Int)) ρ=.ok (.nx ρ2)/\Iv (i+1) ρ2)->Iv a ρ->∃ρ',V3 G F (fU a n) ρ=.ok (.nx ρ')/\Iv (a+n) ρ'
 |0,a,ρ,_,h=>⟨ρ,rfl,h⟩
 |n+1,a,ρ,d,h=>by
  obtain⟨ρ2,e,f⟩:=d a (aAl _) (by lia) ρ h;obtain⟨ρ',g,j⟩:=qP Iv (n:=n) (λi l f=>d i (by lia) (by lia)) f;refine⟨ρ',?_,by rw[show a+(n+1)=a+1+n by lia];exact j⟩;show V3 G F (.int (a:Int)::fU (a+1) n) ρ=_;unfold dN at e;cases b:G (.int (a:Int)) ρ with
  |ok k=>rw[b]at e;exact(V1 b e).trans g
  |ex z=>rw[b]at e;cases e
  |bad=>rw[b]at e;cases e
def ZX(N:List (D×D)):List D:=N.map (·.1)
def Cov(S:List G.V)(N:List (D×D))(i j k:Nat):Prop:=∀A B C,S[i]?=some A->S[j]?=some B->S[k]?=some C->(G.Up S A B C->fd4 (G.j1 A B C)∈ZX N)/\(G.Dn S A B C->fd4 (G.j1 A C B)∈ZX N)
def WS(S:List G.V)(N:List (D×D))(i j k:Nat):Prop:=∀b a d,b<a->a<d->(b<i\/(b=i/\(a<j\/(a=j/\d<k))))->Cov S N b a d
def rz{G:D->Ev->R Ev}{F:Ev->R Out}{Post:Ev->Prop}{n a:Nat}{ρ:Ev}(Iv:Nat->Ev->Prop)(d:∀i,a<=i->i<a+n->∀ρ,Iv i ρ->∃ρ2,dN G F (.int (i:Int)) ρ=.ok (.nx ρ2)/\Iv (i+1) ρ2)(h0:Iv a ρ)(b:∀ρ',Iv (a+n) ρ'->Post ρ'):∃ρ2,V3 G F (fU a n) ρ=.ok (.nx ρ2)/\Post ρ2:=by obtain⟨ρ',e,h⟩:=qP Iv d h0;exact⟨ρ',e,b ρ' h⟩
def VV{G:D->Ev->R Ev}{F b:Ev->R Out}{d:D}{n a:Nat}{ρ:Ev}(Iv:Nat->Ev->Prop)(f:∀i,a<=i->i<a+n->∀ρ,Iv i ρ->∃ρ2,dN G F (.int (i:Int)) ρ=.ok (.nx ρ2)/\Iv (i+1) ρ2)(h0:Iv a ρ)(g:∀ρ',Iv (a+n) ρ'->P3 (b ρ')=.ok d):P3 (D6 (V3 G F (fU a n) ρ) b)=.ok d:=by obtain⟨ρ',e,h⟩:=qP Iv f h0;rw[e];exact g ρ' h
end M
namespace DL
open PySem PySem.Spec L2
open PyProof.Rows hiding St
variable [Tabs]
end DL
namespace M
open PySem L2 DL
variable [Tabs]
def jX{α β γ:Type}{d:D->Ev->R Ev}{fe:Ev->R D}{ρ:Ev}{K:List D->R γ}(rep:α->D)(b:β->D)(g:α->β)(l:List α)(e:l.length<=30000)(h:∀a∈l,∃ρ1,d (rep a) ρ=.ok ρ1/\fe ρ1=.ok (b (g a))):(if(l.map rep).length<=sizeLine then(o8 d (λ_=>.ok true) fe ρ (l.map rep)).bind K else .bad)=K ((l.map g).map b):=by rw[h9 (aAr (by rw[aAh];exact e) (by decide)),QC rep b g l h];rfl
def D5{α β:Type}{r:R α}{x:α}{F:α->R β}{y:R β}(a:r=.ok x)(b:F x=y):r.bind F=y:=by rw[a];exact b
def GC{α:Type}{r:R Bool}{A B:R α}(h:r=.ok false):(r.bind λt=>if t=true then A else B)=B:=by rw[h];rfl
def GH{f g:Ev->R Bool}{ρ:Ev}(a:f ρ=.ok false)(b:g ρ=.ok false):orB f g ρ=.ok false:=by unfold orB;rw[a];exact b
def uk{f:Ev->R Bool}{ρ:Ev}(h:f ρ=.ok true):YR f ρ=.ok false:=by unfold YR;rw[h];rfl
def OJ(l:List Int):OQ [.lst (l.map D.int)]=.ok (.int l.sum):=by simp only[OQ,qV]
def a3u{α:Type}{r:R α}{x:α}{F:α->R Out}{J:Ev->Prop}(a:r=.ok x)(b:∃ρ2,F x=.ok (.nx ρ2)/\J ρ2):∃ρ2,r.bind F=.ok (.nx ρ2)/\J ρ2:=by rw[a];exact b
def uj{i:Nat}{F:Ev->R Out}{d:D}{ρ ρ':Ev}{J:Ev->Prop}(e:ρ.set i (.v d)=ρ')(h:∃ρ2,F ρ'=.ok (.nx ρ2)/\J ρ2):∃ρ2,dN (λd ρ=>.ok (ρ.set i (Sl.v d))) F d ρ=.ok (.nx ρ2)/\J ρ2:=by subst e;exact h
def tw{f g:Ev->R Bool}{ρ:Ev}(h:f ρ=.ok false):DS f g ρ=.ok false:=by unfold DS;rw[h];rfl
def GY{f g:Ev->R Bool}{ρ:Ev}{b:R Bool}(h:f ρ=.ok true)(a:g ρ=b):DS f g ρ=b:=by unfold DS;rw[h];exact a
def xj{ns:List Int}(h:ns≠[]):IC [.lst (ns.map D.int)]=.ok (.int (KD ns)):=by simp only[IC,qV];exact h9 (by simpa using h)
def rB{α:Type}{r:R α}{x:α}{F:α->R Out}{a:Ev->R Out}{d:D}(b:r=.ok x)(e:P3 (D6 (F x) a)=.ok d):P3 (D6 (r.bind F) a)=.ok d:=by rw[b];exact e
def cE{f:Ev->R D}{ρ:Ev}{a:D}(b:f ρ=.ok a):m5 f R6 ρ=.ok [a]:=by unfold m5;rw[b];rfl
def eU{f g:Ev->R D}{ρ:Ev}{a b:D}(d:f ρ=.ok a)(e:g ρ=.ok b):m5 f (m5 g R6) ρ=.ok [a,b]:=by unfold m5;rw[d,e];rfl
def getD_at{l:List G.V}{j:Nat}(h:j<l.length):l[j]?=some (l.getD j 0):=by rw[aAo,aAi h];rfl
def iV{l:List G.V}{j:Nat}(h:j<l.length):l.getD j 0∈l:=aAx (getD_at h)
def jk(l:List G.V):Prop:=aU 900 l/\G.i9 l/\(i4 l).length<=23
section
variable{l:List G.V} (h:jk l)
include h
theorem jk.solid:G.i9 (i4 l):=fJ h.2.1 λv a=>l4.mpr a
theorem jk.ac6:(∀f,f∈j4 (i4 l)↔G.IsFace (i4 l) f.1 f.2)/\j4 (i4 l)≠[]/\(j4 (i4 l)).Nodup:=by obtain⟨a,b,d⟩:=h;obtain⟨i,j,_⟩:=JN a b d;obtain⟨m,r,e,L⟩:=bS a b (by lia);have g:=M3 L (by rw[<-e];exact d);rw[<-e]at g;exact⟨i,j,N1 (W3 g.2)⟩
end
def lp{α:Type}:Nat->(Nat->α->α)->α->α
 |0,_,a=>a
 |n+1,f,a=>f n (lp n f a)
structure Bd4(L:List G.V):Prop where
 sz:aU 900 L
 sol:G.i9 L
 ord:L.Pairwise λa b=>G.d9 (b-a)
 len:L.length<=23
 cor:∀X∈L,∃f:G.V×Int,G.IsFace L f.1 f.2/\X∈G.c8 L f
section
variable{L:List G.V} (h:Bd4 L)
include h
theorem Bd4.self:i4 L=L:=mJ h.ord
theorem Bd4.lok:jk L:=⟨h.sz,h.sol,by rw[h.self];exact h.len⟩
theorem Bd4.ac6:(∀f,f∈j4 L↔G.IsFace L f.1 f.2)/\j4 L≠[]/\(j4 L).Nodup:=by have:=h.lok.ac6;rw[h.self]at this;exact this
theorem Bd4.few:(j4 L).length<=42:=by
 obtain⟨a,b,c⟩:=h.ac6;have:=(G.gE h.sol h.ord a c b).1;have:=h.len
 lia
end
section
variable{L:List G.V} (h:Bd4 L)
include h
end
def IG{J:List G.V}(f:aU 900 J)(g:G.i9 J)(h:(i4 J).length<=23):Bd4 (B0 J):=by
 obtain⟨a,b,d,e,i,l⟩:=JI f g h;refine⟨b,a,A9 _,e,λX j=>?_⟩;have k:X∈B0 (B0 J):=by rw[i];exact j
 have:=(jV b a (by rw[d];exact e) X).mp k;rw[d]at this;exact this
structure Mp(φ β:G.V->G.V)(k:Int):Prop where
 sub:∀X Y,φ X-φ Y=β (X-Y)
 vol:∀u v w,G.dot (G.cr (β u) (β v)) (β w)=k*G.dot (G.cr u v) w
 k0:k≠0
 inj:∀X Y,φ X=φ Y->X=Y
structure MpF(φ β:G.V->G.V)(L L':List G.V)(f f':G.V×Int)(c:Int):Prop where
 face:G.IsFace L f.1 f.2
 face':G.IsFace L' f'.1 f'.2
 c0:0<c
 dot:∀u,G.dot f'.1 (β u)=c*G.dot f.1 u
 on:∀X,G.dot f'.1 (φ X)=f'.2↔G.dot f.1 X=f.2
section
variable{φ β:G.V->G.V}{k:Int}{L L':List G.V}{f f':G.V×Int}{c:Int} (m:Mp φ β k) (h:Bd4 L) (h':Bd4 L') (hq:∀Y,Y∈L'↔∃X∈L,Y=φ X) (F:MpF φ β L L' f f' c)
include m h h' hq F
end
section
variable{φ β:G.V->G.V}{k:Int}{L L':List G.V} (m:Mp φ β k) (h:Bd4 L) (h':Bd4 L') (hq:∀Y,Y∈L'↔∃X∈L,Y=φ X)
include m h h' hq
end
section
variable{L:List G.V}{V:G.V} (B:Bd4 L) (h:jk (L++[V]))
include B h
end
def FM{a b:Int}(h:a=b):UJ (.int a) (.int b)=.ok (.bl true):=by rw[vG,h,beq_self_eq_true]
def ZI{a b:Int}(h:a≠b):UJ (.int a) (.int b)=.ok (.bl false):=by rw[vG,beq_false_of_ne h]
def MU{α:Type}(f:α->D)(l:List α):JR [.lst (l.map f)]=.ok (.int (l.length:Int)):=by simp only[JR,aAh]
def RD(a:Int):MH (.int a) (.int a)=.ok (.bl false):=VO (aAY 40)
def VR(n:Nat):List G.V:=(aBc n).map λ(k:Nat)=>⟨(k:Int).fmod 4,(k:Int).fdiv 4,(k:Int).fmod 4*(k:Int).fmod 4+(k:Int).fdiv 4*(k:Int).fdiv 4⟩
def rF(c:Int):List G.V:=if(c.fdiv 6048).fmod 2=1 then VR (8+4*(c.fdiv 378).fmod 3).toNat else wP (3+(c.fdiv 378).fmod 16).toNat (U0 c).1 (U0 c).2.1 (U0 c).2.2
def cG(c:Int)(t:List Int):List G.V:=
 if c.fmod 7=0 then KE (U0 c).1 (U0 c).2.1 (U0 c).2.2
 else if c.fmod 7=1 then wE (U0 c).1 (U0 c).2.1 (U0 c).2.2
 else if c.fmod 7=2 then xK (U0 c).1 (U0 c).2.1 (U0 c).2.2
 else if c.fmod 7=3 then rF c
 else jF (U0 c).1 (U0 c).2.1 (U0 c).2.2++t.map (xZ c)
def YN{c:Int}(t:List Int):(c.fmod 7=3->cG c t=rF c)/\(c.fmod 7≠3->cG c t=pW c t):=by
 constructor
 .intro h;unfold cG;rw[h];rfl
 intro h;unfold cG pW;rw[ia h,ia h]
def OG{c k a b:Int}(e:0<k)(g:0<=a)(d:0<=b):∃n:Nat,a+b*c.fmod k=(n:Int)/\(n:Int)<=a+b*(k-1)/\a<=(n:Int)/\(a+b*c.fmod k).toNat=n:=by have f:=C4 (a:=c) e;have h:=aBj d f.1;have i:=aAB (show c.fmod k<=k-1 by lia) d;exact⟨(a+b*c.fmod k).toNat,by lia,by lia,by lia,rfl⟩
def ZY(c:Int):∃n:Nat,8+4*(c.fdiv 378).fmod 3=(n:Int)/\n<=16/\8<=n/\(8+4*(c.fdiv 378).fmod 3).toNat=n:=by obtain⟨n,a,b,d,e⟩:=OG (c:=c.fdiv 378) (k:=3) (a:=8) (b:=4) (by decide) (by decide) (by decide);exact⟨n,a,by lia,by lia,e⟩
def GN(c:Int):∃n:Nat,3+(c.fdiv 378).fmod 16=(n:Int)/\n<=18/\3<=n/\(3+(c.fdiv 378).fmod 16).toNat=n:=by obtain⟨n,a,b,d,e⟩:=OG (c:=c.fdiv 378) (k:=16) (a:=3) (b:=1) (by decide) (by decide) (by decide);rw[Int.one_mul]at a e;exact⟨n,a,by lia,by lia,e⟩
def PK(c:Int):(∀P∈rF c,Sz 100 P)/\(rF c).length<=19/\G.i9 (rF c):=by
 obtain⟨⟨l,o⟩,⟨p,d⟩,⟨c0,q⟩⟩:=oJ c;unfold rF;split
 .obtain⟨n,h,i,r,e⟩:=ZY c;rw[e];refine⟨λP a=>?_,by unfold VR;rw[aAh,aCK];lia,?_⟩
  .obtain⟨k,b,rfl⟩:=aAj.mp a;have f:=aBa.mp b;have d:bits ((k:Int).fmod 4)<=3:=y8 (by decide) (by decide);have g:bits ((k:Int).fdiv 4)<=10:=bits_fdiv (j9 (by lia) (by lia));exact⟨f6 d,f6 g,f6 (bits_add (n:=20) (f6<|bits_mul d d)<|bits_mul g g)⟩
  have m:∀k<n,(⟨((k:Nat):Int).fmod 4,(k:Int).fdiv 4,(k:Int).fmod 4*(k:Int).fmod 4+(k:Int).fdiv 4*(k:Int).fdiv 4⟩:G.V)∈VR n:=λk b=>aAj.mpr ⟨k,aBa.mpr b,rfl⟩;exact gU (m 0 (by lia)) (m 1 (by lia)) (m 2 (by lia)) (m 4 (by lia)) (by decide)
 obtain⟨n,h,i,j,e⟩:=GN c;rw[e];refine⟨λP a=>?_,by unfold wP;rw[aAz,aAh,aCK];simp;lia,uX j c0⟩;rcases aAD.mp a with a|a
 .obtain⟨k,b,rfl⟩:=aAj.mp a;have f:=aBa.mp b;have bk:bits (k:Int)<=10:=j9 (by lia) (by lia);exact⟨f6 bk,f6 (bits_mul bk bk),show bits 0<=100 by decide⟩
 rw[aAJ.mp a];exact⟨j9 (by lia) (by lia),j9 (by lia) (by lia),j9 (by lia) (by lia)⟩
def PJ(c:Int){t:List Int}(d:t.length<=5):(∀P∈cG c t,Sz 100 P)/\(cG c t).length<=19/\G.i9 (cG c t):=by
 obtain⟨e,f⟩:=YN (c:=c) t;by_cases h:c.fmod 7=3
 .rw[e h];exact PK c
 rw[f h];obtain⟨a,b⟩:=VH c d;exact⟨a,by lia,DP c t⟩
def nT:List D->R D:=DO λY=>nQ (pk (gF 1048576 Y)<|.lst ((cG (cI Y 0)<|dU Y).map vd))
def TL{Y l:List D}(f:gF 1048576 Y)(sub:∀d∈l,d∈Y):∃ns:List Int,l=ns.map D.int/\∀n∈ns,bits n<=1048576:=by
 induction l with
 |nil=>exact⟨[],rfl,λ_ h=>nomatch h⟩
 |cons d l g=>
  obtain⟨ns,e,b⟩:=g λd j=>sub d (.tail _ j);obtain⟨i,rfl,k⟩:=f d (sub d<|.head _);refine⟨i::ns,by rw[e];rfl,λn a=>?_⟩;rcases aAc.mp a with rfl|a
  .exact k
  exact b n a
def uA(a:Int):G.V:=if a=0 then⟨1,0,0⟩else if a=1 then⟨0,-1,0⟩else⟨0,0,1⟩
def P1(a m:Int)(v:G.V):G.V:=if a=0 then⟨m,v.x,v.y⟩else if a=1 then⟨v.x,-m,v.y⟩else⟨v.x,v.y,m⟩
def jG{a:Int}{p:Prop}(h0:a=0->p)(d:a=1->p)(f:a≠0->a≠1->p):p:=by
 by_cases e:a=0
 .exact h0 e
 by_cases b:a=1
 .exact d b
 exact f e b
def kU(a m:Int)(P:G.V):P+(m-G.dot (uA a) P)*uA a=P1 a m (C3 a P):=by
 unfold uA P1 C3;refine jG (a:=a) (λe=>?_) (λe=>?_) λe b=>?_
 .subst e;apply G.ext<;>simp[G.dot];lia
 .subst e;apply G.ext<;>simp[G.dot];lia
 simp only[ia e,ia b];apply G.ext<;>simp[G.dot];lia
def oK(a m:Int)(p q r:G.V):G.i3 (uA a) (P1 a m q-P1 a m p) (P1 a m r-P1 a m p)=G.i3 ⟨0,0,1⟩ (q-p) (r-p):=by
 unfold uA P1;refine jG (a:=a) (λe=>?_) (λe=>?_) λe b=>?_
 .subst e;simp[G.i3,G.dot]
 .subst e;simp[G.i3,G.dot];grind
 simp only[ia e,ia b];simp[G.i3,G.dot]
def aJ(a m:Int)(v:G.V):G.dot (uA a) (P1 a m v)=m:=by
 unfold uA P1;refine jG (a:=a) (λe=>?_) (λe=>?_) λe b=>?_
 .subst e;simp[G.dot]
 .subst e;simp[G.dot]
 simp only[ia e,ia b];simp[G.dot]
def pz(a m:Int)(p q:G.V):G.dot (G.cr (P1 a m p-0) (P1 a m q-0)) (uA a)=rQ p q:=by
 unfold uA P1 rQ;refine jG (a:=a) (λe=>?_) (λe=>?_) λe b=>?_
 .subst e;simp[G.dot]
 .subst e;simp[G.dot];grind
 simp only[ia e,ia b];simp[G.dot]
def VQ{a m:Int}{v w:G.V}(b:v.z=0)(d:w.z=0):G.d9 (P1 a m w-P1 a m v)↔G.d9 (w-v):=by
 unfold P1 G.d9;refine jG (a:=a) (λe=>?_) (λe=>?_) λe f=>?_
 .subst e;simp[b,d]
 .subst e;simp[b,d]
 simp only[ia e,ia f];simp[b,d]
def oH{a m:Int}{v w:G.V}(f:v.z=0)(g:w.z=0)(h:P1 a m v=P1 a m w):v=w:=by
 have b:=ir G.V.x h;have d:=ir G.V.y h;have i:=ir G.V.z h;unfold P1 at b d i;refine jG (a:=a) (λe=>?_) (λe=>?_) λe j=>?_
 .subst e;exact G.ext d i (by rw[f,g])
 .subst e;exact G.ext b i (by rw[f,g])
 simp only[ia e,ia j]at b d;exact G.ext b d (by rw[f,g])
def IT(a:Int):G.aX (uA a)/\G.dot (uA a) (uA a)=1:=by
 unfold uA;refine jG (a:=a) (λe=>?_) (λe=>?_) λe b=>?_
 .subst e;exact⟨rfl,rfl⟩
 .subst e;exact⟨rfl,rfl⟩
 simp only[ia e,ia b];exact⟨rfl,rfl⟩
def fD{l:List G.V}(h:l.Nodup):(G.u9 l).Nodup:=by have:=G.wT l;rw[<-this]at h;exact(aBt.mp h).imp λn e=>n (by rw[e])
def SA(r:List G.V):D2 r=((G.u9 r).map λe=>rQ e.1 e.2).sum:=by unfold D2 G.u9;rw[List.zip,List.map_zipWith]
section
variable{a m:Int}{S Q:List G.V} (sh:G.Sheet ⟨0,0,1⟩ S) (hz:∀v∈S,v.z=0)
include sh hz
theorem zP(B:G.IsFace Q (uA a) m)(C:Q.Pairwise (λa b=>G.d9 (b-a)))(d:∀X,X∈G.o7 (uA a) m Q↔∃v∈S,X=P1 a m v):G.dot (G.ar 0 (G.u9 (G.c8 Q (uA a,m)))) (uA a)=D2 (G.j0 ⟨0,0,1⟩ S):=by
 have r:=B.aa2 C;have t:∀{p q:G.V},p∈S->q∈S->(G.EdgeOf (uA a) (λX=>X∈G.o7 (uA a) m Q) (P1 a m p) (P1 a m q)↔G.EdgeOf ⟨0,0,1⟩ (λX=>X∈S) p q):=λ{p q} g j=>by
  have u:∀v∈S,G.iq (P1 a m p) (P1 a m q) (P1 a m v)↔G.iq p q v:=λv f=>by have i:∀{x y:G.V},x∈S->y∈S->(P1 a m x=P1 a m y↔x=y):=λk o=>⟨oH (hz _ k) (hz _ o),λe=>by rw[e]⟩;have l:∀{x y:G.V},x∈S->y∈S->(G.d9 (P1 a m x-P1 a m y)↔G.d9 (x-y)):=λk o=>VQ (hz _ o) (hz _ k);unfold G.iq;rw[l j g,l g j,l f g,l j f,l g f,l f j,i f g,i f j]
  constructor
  .intro E;refine⟨g,j,λe=>E.ne (by rw[e]),λv f=>?_,λv f z=>?_⟩
   .rw[<-oK a m];exact E.left _ ((d _).mpr ⟨v,f,rfl⟩)
   exact(u v f).mp (E.btw _ ((d _).mpr ⟨v,f,rfl⟩) (by rw[oK];exact z))
  intro E;refine⟨(d _).mpr ⟨p,g,rfl⟩,(d _).mpr ⟨q,j,rfl⟩,λe=>E.ne (oH (hz p g) (hz q j) e),λX s=>?_,λX s z=>?_⟩
  .obtain⟨v,f,rfl⟩:=(d X).mp s;rw[oK];exact E.left v f
  obtain⟨v,f,rfl⟩:=(d X).mp s;rw[oK]at z;exact(u v f).mpr (E.btw v f z)
 have H:(G.u9<|G.c8 Q (uA a,m)).Perm ((G.u9<|G.j0 ⟨0,0,1⟩ S).map λe=>(P1 a m e.1,P1 a m e.2)):=by
  refine(aBN (fD r.aa3) ?_).mpr λe=>?_
  .refine aBt.mpr ((fD sh.aa3).imp_of_mem λ{x y} k o n q=>n ?_);have k:=sh.aa1.mp k;have o:=sh.aa1.mp o;injection q with I J;exact aEv (oH (hz _ k.p) (hz _ o.p) I) (oH (hz _ k.q) (hz _ o.q) J)
  rw[aAj];constructor
  .intro h;have E:=r.aa1.mp h;obtain⟨p,g,w⟩:=(d _).mp E.p;obtain⟨q,j,A⟩:=(d _).mp E.q;rw[w,A]at E;exact⟨(p,q),sh.aa1.mpr ((t g j).mp E),aEv w.symm A.symm⟩
  rintro⟨x,h,rfl⟩;have E:=sh.aa1.mp h;exact r.aa1.mpr ((t E.p E.q).mpr E)
 rw[G.IE H,SA];unfold G.ar;rw[G.oA,aBd,aBd];congr 1;exact aDP λe _=>pz a m e.1 e.2
end
theorem qE(f:G.V->Int):∀l:List G.V,∃M:Int,∀X∈l,f X<M
 |[]=>⟨0,λ_ h=>nomatch h⟩
 |A::l=>by
  obtain⟨M,h⟩:=qE f l;refine⟨max M (f A+1),λX a=>?_⟩;rcases aAc.mp a with rfl|a
  .lia
  have:=h X a;lia
def CH{l:List G.V}(h:G.i9 l){u:G.V}(i:G.dot u u=1):∃A∈l,∃B∈l,∃C∈l,G.dot u (G.cr (B-A) (C-A))≠0:=by
 obtain⟨A,j,B,a,C,f,E,g,e⟩:=h;refine aCV λk=>e ?_;have q:∀{X Y:G.V},X∈l->Y∈l->G.dot u (G.cr (X-A)<|Y-A)=0:=λ{X Y} m o=>aCV λn=>k ⟨A,j,X,m,Y,o,n⟩;have p:=q a f;have r:=q f g;have s:=q g a;generalize B-A=b at*
 generalize C-A=c at*
 generalize E-A=d at*
 have id:G.i3 b c d*G.dot u u=G.dot u b*G.dot u (G.cr c d)+G.dot u c*G.dot u (G.cr d b)+G.dot u d*G.dot u (G.cr b c):=by simp[G.i3,G.dot];grind
 rw[p,r,s,i]at id
 lia
def lC{l:List G.V}(h:G.i9 l)(a m:Int):∃A∈l,∃B∈l,∃C∈l,G.dot (uA a) (G.cr (P1 a m (C3 a B)-P1 a m (C3 a A)) (P1 a m (C3 a C)-P1 a m (C3 a A)))≠0:=by obtain⟨A,b,B,d,C,f,e⟩:=CH h (IT a).2;refine⟨A,b,B,d,C,f,λz=>e ?_⟩;rw[<-kU,<-kU,<-kU]at z;rw[<-z];simp[G.dot];grind
def GG{u v:G.V}(h:G.dot u v≠0):v≠0:=λz=>h (by rw[z,G.C1])
def SC{l:List G.V}{a m:Int}{X:G.V}:(∃v∈i4 (l.map (C3 a)),X=P1 a m v)↔X∈l.map (λP=>P1 a m (C3 a P)):=by
 rw[aAj];constructor
 .rintro⟨v,d,rfl⟩;obtain⟨P,b,rfl⟩:=aAj.mp (l4.mp d);exact⟨P,b,rfl⟩
 rintro⟨P,b,rfl⟩;exact⟨_,l4.mpr (aAI b),rfl⟩
def QN{l:List G.V}{a:Int}:∀v∈i4 (l.map (C3 a)),v.z=0:=λv b=>by obtain⟨P,_,rfl⟩:=aAj.mp (l4.mp b);exact VC a P
def zG(a m:Int)(n P:G.V):G.dot n (P1 a m (C3 a P))=G.dot (n-G.dot n (uA a)*uA a) P+m*G.dot n (uA a):=by rw[<-kU];simp[G.dot];grind
section
variable{T L:List G.V}{a M:Int} (sT:G.i9 T) (oT:T.Pairwise (λa b=>G.d9 (b-a))) (sL:G.i9 L)
 (below:∀X∈T,G.dot (uA a) X<M) (foot:∀P∈L,∃X∈T,C3 a X=C3 a P) (cov:∀n,∀X∈T,∃P∈L,G.dot n (P1 a M (C3 a X))<=G.dot n (P1 a M (C3 a P)))
include sT oT sL below foot cov
theorem zA{fs:List (G.V×Int)}(b:∀f,f∈fs↔G.IsFace T f.1 f.2)(l:fs.Nodup):(fs.map λf=>max 0 (G.dot (G.ar 0 (G.u9 (G.c8 T f))) (uA a))).sum=D2 (v9 a L)/\(fs.map λf=>max 0 (-G.dot (G.ar 0 (G.u9 (G.c8 T f))) (uA a))).sum=D2 (v9 a L)/\0<D2 (v9 a L):=by
 have C:G.Cap T (L.map λP=>P1 a M (C3 a P)) (i4<|T++L.map λP=>P1 a M (C3 a P)) (uA a) M:=by
  refine⟨(IT a).1,(IT a).2,below,λY m=>?_,λn X d=>?_,?_,λX=>by rw[l4,aAD],oT,A9 _,sT⟩
  .obtain⟨P,g,rfl⟩:=aAj.mp m;obtain⟨X,d,e⟩:=foot P g;exact⟨X,d,by rw[kU,e]⟩
  .obtain⟨P,g,h⟩:=cov n X d;exact⟨_,aAI g,by rw[kU];exact h⟩
  obtain⟨A,o,B,q,E,r,e⟩:=lC sL a M;exact⟨_,aAI o,_,aAI q,_,aAI r,GG e⟩
 have e:=zP (bL (a:=a) sL) QN C.top C.oQ λX=>by
  rw[SC,G.c5,C.mem];constructor
  .rintro⟨i|i,s⟩
   .have:=below X i;lia
   exact i
  exactλh=>⟨.inr h,C.on h⟩
 have p:=(G.HL C.sQ C.oQ (f:=(uA a,M)) C.top).1;rw[G.aH]at p;obtain⟨j,k⟩:=C.sum b l;rw[e]at j k p;exact⟨j,k,p⟩
end
def jT{L:List G.V}(e:G.i9 L)(g:L.Pairwise (λa b=>G.d9 (b-a)))(a:Int){fs:List (G.V×Int)}(d:∀f,f∈fs↔G.IsFace L f.1 f.2)(h:fs.Nodup):(fs.map λf=>max 0 (G.dot (G.ar 0 (G.u9 (G.c8 L f))) (uA a))).sum=D2 (v9 a L)/\(fs.map λf=>max 0 (-G.dot (G.ar 0 (G.u9 (G.c8 L f))) (uA a))).sum=D2 (v9 a L)/\0<D2 (v9 a L):=by obtain⟨M,i⟩:=qE (G.dot<|uA a) L;exact zA e g e i (λP j=>⟨P,j,rfl⟩) (λn X k=>⟨X,k,aBy _⟩) d h
theorem RI{α:Type}{g:α->Int}{x:α}:∀{l:List α},(∀y∈l,0<=g y)->x∈l->g x<=(l.map g).sum
 |[],_,h=>nomatch h
 |y::l,h,b=>by
  have n:∀m:List α,(∀y∈m,0<=g y)->0<=(m.map g).sum:=λm=>by
   induction m with
   |nil=>intro _;exact aBy 0
   |cons z m d=>intro q;rw[aAk,aAZ];have:=q z (.head _);have:=d λw a=>q w (.tail _ a);lia
  rw[aAk,aAZ];rcases aAc.mp b with rfl|b
  .have:=n l λw a=>h w (.tail _ a);lia
  have:=RI (λw a=>h w (.tail _ a)) b;have:=h y (.head _);lia
def zJ{L K:List G.V}(y:G.i9 L)(E:G.i9 K)(r:∀n,∀X∈L,∃Y∈K,G.dot n X<=G.dot n Y)(a:Int):D2 (v9 a L)<=D2 (v9 a K):=by
 have i:∀(m:Int) (P:G.V),C3 a (P1 a m<|C3 a P)=C3 a P:=λm P=>by
  unfold P1 C3;refine jG (a:=a) (λe=>?_) (λe=>?_) λe O=>?_
  .subst e;rfl
  .subst e;rfl
  simp only[ia e,ia O]
 have b:∀X,X∈i4 ((L.map λP=>P1 a 1 (C3 a P))++K.map λP=>P1 a 0 (C3 a P))↔(∃P∈L,X=P1 a 1 (C3 a P))\/∃P∈K,X=P1 a 0 (C3 a P):=λX=>by
  rw[l4,aAD,aAj,aAj];constructor
  .rintro(⟨P,h,e⟩|⟨P,h,e⟩)
   .exact .inl ⟨P,h,e.symm⟩
   exact .inr ⟨P,h,e.symm⟩
  rintro(⟨P,h,e⟩|⟨P,h,e⟩)
  .exact .inl ⟨P,h,e.symm⟩
  exact .inr ⟨P,h,e.symm⟩
 have H:=A9 ((L.map λP=>P1 a 1 (C3 a P))++K.map λP=>P1 a 0 (C3 a P));generalize i4 ((L.map λP=>P1 a 1 (C3 a P))++K.map λP=>P1 a 0 (C3 a P))=T at*
 obtain⟨A,Q,B,U,C,hC,e⟩:=lC E a 0;obtain⟨s,j,B',t,C',w,e'⟩:=lC y a 1;have I:G.i9 T:=by
  refine⟨_,(b _).mpr (.inr ⟨A,Q,rfl⟩),_,(b _).mpr (.inr ⟨B,U,rfl⟩),_,(b _).mpr (.inr ⟨C,hC,rfl⟩),_,(b _).mpr (.inl ⟨s,j,rfl⟩),λz=>e ?_⟩;have q:=G.BI (n:=uA a) (u:=P1 a 0 (C3 a B)-P1 a 0 (C3 a A)) (v:=P1 a 0 (C3 a C)-P1 a 0 (C3 a A)) (by rw[G.d8,aJ,aJ];rfl) (by rw[G.d8,aJ,aJ];rfl) (P1 a 1 (C3 a s)-P1 a 0 (C3 a A));rw[G.R3,z,G.d8,aJ,aJ]at q
  lia
 have J:G.IsFace T (uA a) 1:=by refine⟨(IT a).1,λX k=>?_,_,(b _).mpr (.inl ⟨s,j,rfl⟩),_,(b _).mpr (.inl ⟨B',t,rfl⟩),_,(b _).mpr (.inl ⟨C',w,rfl⟩),aJ ..,aJ ..,aJ ..,GG e'⟩;rcases(b X).mp k with⟨P,_,rfl⟩|⟨P,_,rfl⟩<;>rw[aJ]<;>decide
 obtain⟨fs,o,nd⟩:=G.rN I;have p:=(zA (M:=2) I H E (λX k=>by rcases(b X).mp k with⟨P,_,rfl⟩|⟨P,_,rfl⟩<;>rw[aJ]<;>decide) (λP d=>⟨_,(b _).mpr (.inr ⟨P,d,rfl⟩),i 0 P⟩) (λn X k=>by
  rcases(b X).mp k with⟨P,d,rfl⟩|⟨P,d,rfl⟩
  .obtain⟨Y,hY,le⟩:=r (n-G.dot n (uA a)*uA a) P d;refine⟨Y,hY,?_⟩;rw[i,zG,zG];lia
  exact⟨P,d,by rw[i];exact aBy _⟩) o nd).1
 have q:=zP (bL (a:=a) y) QN J H λX=>by
  rw[SC,G.c5,aAj,b];constructor
  .rintro⟨⟨P,d,rfl⟩|⟨P,d,rfl⟩,N⟩
   .exact⟨P,d,rfl⟩
   rw[aJ]at N;cases N
  rintro⟨P,d,rfl⟩;exact⟨.inl ⟨P,d,rfl⟩,aJ ..⟩
 have g:=RI (g:=λf=>max 0 (G.dot (G.ar 0<|G.u9<|G.c8 T f)<|uA a)) (x:=(uA a,1)) (l:=fs) (λf _=>by lia) ((o _).mpr J);rw[p,q]at g;show D2 (G.j0 ⟨0,0,1⟩ _)<=_
 lia
def jS(l:List G.V)(k:Nat):G.V×G.V:=(l.getD (if k=0 then l.length-1 else k-1) 0,l.getD k 0)
def IW(l:List G.V):List (G.V×G.V):=(aBc l.length).map (jS l)
def LQ(l:List G.V):(IW l).Perm (G.u9 l):=by
 match l with
 |[]=>exact aGf _
 |a::r=>
  have b:(G.u9 (a::r)).length=r.length+1:=by unfold G.u9;simp
  have ne:G.u9 (a::r)≠[]:=λz=>by rw[z]at b;simp at b
  have e:IW (a::r)=(G.u9 (a::r)).getLast ne::(G.u9 (a::r)).dropLast:=by
   refine List.ext_getElem (by simp[IW,b]) λk f g=>?_;have h:k<r.length+1:=by simpa[IW]using f
   cases k with
   |zero=>simp only[IW,aCQ,List.getElem_range,List.getElem_cons_zero,List.getLast_eq_getElem,b,jS,if_true];simp[G.u9,List.getElem_append,aAo]
   |succ k=>
    simp only[IW,aCQ,List.getElem_range,aFH,List.getElem_dropLast,jS];have d:k<r.length:=by lia
    simp[G.u9,List.getElem_append,aAo,d,aBw d]
  rw[e];refine(aEO _ _).symm.trans ?_;rw[aEy]
def XH{l:List G.V}{k:Nat}(h:k<l.length):jS l k∈G.u9 l:=(LQ l).mem_iff.mp (aAI<|aBa.mpr h)
def DI{J:List G.V}(h:jk J)(n:G.V){X:G.V}(f:X∈J):∃Y∈B0 J,G.dot n X<=G.dot n Y:=by
 have m:=h.solid;have o:=A9 J;have j:=jV h.1 h.2.1 h.2.2;have f:=l4.mpr f;generalize i4 J=P at*
 obtain⟨w,i⟩:=G.tT (P.flatMap λA=>P.map λB=>B-A);have i:∀A∈P,∀B∈P,G.d9 (B-A)->0<G.dot w (B-A):=λA d B p=>i _ (aAV.mpr ⟨A,d,aAI p⟩);obtain⟨Z,r,top⟩:=G.iF (G.dot n) P λz=>by rw[z]at f;cases f
 have k:∀{Y:G.V},Y∈P.filter (λY=>decide (G.dot n Y=G.dot n Z))↔Y∈P/\G.dot n Y=G.dot n Z:=λ{Y}=>by rw[aAX,decide_eq_true_eq]
 obtain⟨Y,s,g⟩:=G.iF (G.dot w) (P.filter λY=>decide (G.dot n Y=G.dot n Z)) λz=>by have:=k.mpr ⟨r,rfl⟩;rw[z]at this;cases this
 obtain⟨a,u⟩:=k.mp s;obtain⟨N,l⟩:=qE (λA=>G.dot w A-G.dot w Y) P;have v:0<N:=by have:=l Y a;lia
 have x:∀A∈P,A≠Y->G.dot (N*n+w) A<G.dot (N*n+w) Y:=λA d ne=>by
  have e:∀B:G.V,G.dot (N*n+w) B=N*G.dot n B+G.dot w B:=λB=>by simp[G.dot];grind
  rw[e,e];have t:=top A d;by_cases q:G.dot n A=G.dot n Z
  .have b:=g A (k.mpr ⟨d,q⟩);have:G.dot w A<G.dot w Y:=by
    rcases G.K4 A Y with z|z|z
    .exact absurd z ne
    .have:=i Y a A d z;rw[G.d8]at this;lia
    have:=i A d Y a z;rw[G.d8]at this;lia
   rw[q,u];lia
  have:=l A d;have:=aAB (show G.dot n A+1<=G.dot n Y by lia) (aAK v);rw[Int.mul_add]at this
  lia
 exact⟨Y,(j Y).mpr (G.NZ m o a x),by have:=top X f;lia⟩
def lvS(k:List G.V->List D->R D):List D->R D:=DO λY e=>match zD Y with
 |some l=>k l e
 |none=>.bad
def bw{k:List G.V->List D->R D}{ds:List D}{r:D}(h:lvS k ds=.ok r):∃l e,ds=.lst (l.map G9)::e/\k l e=.ok r:=by
 replace h:=bU h;obtain⟨Y,e,rfl,h⟩:=h;cases q:zD Y with
 |none=>rw[q]at h;cases h
 |some l=>rw[q]at h;exact⟨l,e,by rw[(uU q).1],h⟩
def WB(k:List G.V->List D->R D){l:List G.V}(h:∀v∈l,v.z=0)(e:List D):lvS k (.lst (l.map G9)::e)=k l e:=by show(match zD (l.map G9)with|some l=>k l e|none=>.bad)=_;rw[zB h]
def ArS(r:List G.V):Prop:=r≠[]/\r.length<=1000/\∀v∈r,B2 v.x v.y
def jC:List D->R D:=lvS λr=>nQ (pk (ArS r)<|.int (D2 r))
def tR{r:List G.V}(z:∀v∈r,v.z=0)(h:ArS r):jC [.lst (r.map G9)]=.ok (.int (D2 r)):=(WB _ z []).trans (wL h)
theorem yW(m:G.V):∀(t:List G.V) (a:G.V),(aCT rQ (a::t) (t++[m])).sum+rQ m a=(aCT (uH m) (a::t) t).sum
 |[],a=>by simp[rQ];grind
 |b::t,a=>by
  have d:=yW m t b;simp only[aAO,List.zipWith_cons_cons,aAZ]at d⊢;have:uH m a b=rQ a b+rQ m a-rQ m b:=by simp only[uH,rQ];grind
  lia
theorem LB(m:G.V):∀t:List G.V,D2 (m::t)=(aCT (uH m) t t.tail).sum
 |[]=>by simp[D2,rQ];grind
 |a::t=>by have:=yW m t a;show(rQ m a::aCT rQ (a::t) (t++[m])).sum=(aCT (uH m) (a::t) t).sum;rw[aAZ];lia
def NT(r:List G.V):D2 r=((aEe 1 (r.length-1-1)).map λk=>uH (r.getD 0 0) (r.getD k 0) (r.getD (k+1) 0)).sum:=by
 match r with
 |[]=>rfl
 |m::t=>
  rw[LB];congr 1;refine List.ext_getElem (by simp) λi b a=>?_;have d:i<t.length-1:=by simpa using a
  rw[aCQ,List.getElem_range',List.getElem_zipWith,List.getElem_tail];simp only[aAo];rw[show 1+1*i=i+1 by lia,aCC,aDf,aDf,aAi (by lia),aAi (by lia)];rfl
def WG(a:Int)(r:List G.V):D2 (r.map (C3 a))=G.dot (G.ar 0 (G.u9 r)) (uA a):=by
 have e:∀p q:G.V,rQ (C3 a p) (C3 a q)=G.dot (G.cr (p-0)<|q-0) (uA a):=λp q=>by
  unfold uA C3 rQ;refine jG (a:=a) (λe=>?_) (λe=>?_) λe b=>?_
  .subst e;simp[G.dot]
  .subst e;simp[G.dot];grind
  simp only[ia e,ia b];simp[G.dot]
 unfold D2 G.ar G.u9;rw[G.oA,<-aGt,<-aGu,<-aBh,List.zipWith_map,aBd,List.zip,List.map_zipWith];congr 2
 funext p q
 exact e p q
def NI(a b:Int):PQ [.int a,.int b]=.ok (.int (max a b)):=by rw[YQ];congr 2;split<;>lia
def oO:List D->R D:=lvD λl=>DO λfs=>yZ λa=>nQ (pk ((Bd4 l/\fs=(j4 l).map (j8 l))/\0<=a/\a<=2)<|.bl true)
def KM{l:List G.V}{a:Int}(h:Bd4 l)(b:0<=a/\a<=2):oO [.lst (l.map vd),.lst ((j4 l).map (j8 l)),.int a]=.ok (.bl true):=(WH _ l _).trans (wL ⟨⟨h,rfl⟩,b⟩)
def fy{J:Ev->Prop}{r:R Out}{F:Ev->R Out}(I:Ev->Prop)(a:∃ρ,r=.ok (.nx ρ)/\I ρ)(b:∀ρ,I ρ->∃ρ2,F ρ=.ok (.nx ρ2)/\J ρ2):∃ρ2,D6 r F=.ok (.nx ρ2)/\J ρ2:=by obtain⟨ρ,e,i⟩:=a;rw[e];exact b ρ i
def a1l{i j:Nat}{F:Ev->R Out}{a b:D}{ρ ρ':Ev}{J:Ev->Prop}(e:(ρ.set i (.v a)).set j (.v b)=ρ')(h:∃ρ2,F ρ'=.ok (.nx ρ2)/\J ρ2):∃ρ2,dN (fV 2 (Q5 (λd ρ=>.ok (ρ.set i (.v d))) (Q5 (λd ρ=>.ok (ρ.set j (.v d))) mL))) F (.tup [a,b]) ρ=.ok (.nx ρ2)/\J ρ2:=by subst e;exact h
def NV{f g k:Ev->R D}{ρ:Ev}{a b c:D}(d:f ρ=.ok a)(e:g ρ=.ok b)(h:k ρ=.ok c):m5 f (m5 g (m5 k R6)) ρ=.ok [a,b,c]:=by unfold m5;rw[d];show(R.bind (m5 g (m5 k R6) ρ) _)=_;rw[eU e h];rfl
def a0g{r:R D}{d:D}(h:r=.ok d):P3 (r.bind λd=>R.ok (Out.rt d))=.ok d:=by rw[h];rfl
def NL{a b:Int}(h:b<=a):ltR (.int a) (.int b)=.ok (.bl false):=by rw[ij,decide_eq_false (by lia)]
def a1p{S:List G.V}{v:G.V}(h:v∈S):inR true (G9 v) (.lst (S.map G9))=.ok (.bl false):=by
 have b:A8 (S.map G9)<=1:=by
  induction S with
  |nil=>simp[A8]
  |cons A S a=>
   clear h;rw[aAk,A8];have:∀S:List G.V,A8 (S.map G9)<=1:=λS=>by
    induction S with
    |nil=>simp[A8]
    |cons A S a=>rw[aAk,A8];exact Nat.max_le.mpr ⟨by simp[G9,G4,A8],a⟩
   exact Nat.max_le.mpr ⟨by simp[G9,G4,A8],this S⟩
 have e:ZK (G9 v) (S.map G9)=true:=by unfold ZK;exact aDL.mpr ⟨_,aAI h,R7 _⟩
 show(if A8 (S.map G9)<=40/\A8 [D.int v.x,.int v.y]<=30 then R.ok (D.bl<|ZK (G9 v) (S.map G9) !=true)else .bad)=_;rw[h9 ⟨by lia,by simp[G4,A8]⟩,e];rfl
def pV4(i:Int):G.V:=⟨i.fmod 11-5,(i.fdiv 11).fmod 11-5,(i.fdiv 121).fmod 11-5⟩
def N4(l:List G.V)(n:Nat):Prop:=(∀P∈l,Sz 100 P)/\G.i9 l/\l.length+n<=21
def ax{l:List G.V}{n:Nat}(i:Int)(h:N4 l (n+1)):N4 (l++[pV4 i]) n:=by
 obtain⟨b,d,f⟩:=h;have k:∀z:Int,bits (z.fmod 11-5)<=100:=λz=>f6 (bits_sub (n:=10) (y8 (by decide) (by decide)) (by decide));refine⟨λP a=>?_,fJ d λv e=>aBk _ e,by rw[aAz];simp;lia⟩;rcases aAD.mp a with a|a
 .exact b P a
 rw[aAJ.mp a];exact⟨k _,k _,k _⟩
section
variable{l:List G.V}{n:Nat} (k f:Int) (h:N4 l n)
include h
theorem xP:jk (l.map (fT k f)):=⟨⟨λP a=>by obtain⟨Q,b,rfl⟩:=aAj.mp a;exact kw k f (h.1 Q b),by have:=h.2.2;rw[aAh];lia⟩,KL k f h.2.1,aAr (pF _) (by have:=h.2.2;rw[aAh];lia)⟩
def sA(l:List G.V) (k f:Int) (a:Nat):Int:=D2 (v9 (a:Int)<|B0<|l.map<|fT k f)
omit h
theorem gw(h:N4 l n)(a:Nat):0<=sA l k f a:=by have K:=xP k f h;have B:=IG K.1 K.2.1 K.2.2;obtain⟨b,_,d⟩:=B.ac6;exact aAK (jT B.sol B.ord (a:Int) b d).2.2
theorem VF{m:Nat}{V:G.V}(h:N4 l n)(h':N4 (l++[V]) m)(a:Nat):sA l k f a<=sA (l++[V]) k f a:=by have K:=xP k f h;have b:=xP k f h';have B:=IG K.1 K.2.1 K.2.2;have e:=IG b.1 b.2.1 b.2.2;refine zJ B.sol e.sol (λn X d=>DI b n ?_) _;have d:=BJ K.1 K.2.1 K.2.2 d;rw[aBh];exact aBk _ d
end
def w3(w:Nat->Int):List D:=[.int (w 0),.int (w 1),.int (w 2)]
def a1o{w:Nat->Int}{i:Nat}(h:i<3):X6 (.lst (w3 w)) (.int (i:Int))=.ok (.int (w i)):=by rcases(show i=0\/i=1\/i=2 by lia)with rfl|rfl|rfl<;>rfl
def qk{w:Nat->Int}{i k:Nat}{ρ:Ev}{A:Int}(h:i<3)(e:ρ[k]?=some (.o (w3 w))):YD k ρ (.int (i:Int)) (.int A)=.ok (.nx (ρ.set k (.o (w3 λj=>if j=i then A else w j)))):=by unfold YD;rw[e];rcases(show i=0\/i=1\/i=2 by lia)with rfl|rfl|rfl<;>rfl
theorem BC:∀l:List G.V,aO (l.map vd)=true
 |[]=>rfl
 |_::l=>BC l
def oC:List D->R D:=DO λY=>nQ (pk (Y.length<=63/\gF 1048576 Y)<|.bl true)
end M
namespace K44
open PySem L2 DL M
def top(i:Nat):cv:=PySem.Challenge.pw_stakebodies_k44_whole_shadows_and_faces.main.body.getD i (.Pass ⟨0,0,0,0⟩)
abbrev gZ:cv:=top 6
abbrev DT:List Str:=["thing"]
def AX:FnScope DT ["thing"] (c6 gZ):=K5
abbrev Z0:cv:=top 7
abbrev rV:List Str:=["P", "Q"]
def oV:FnScope rV ["P", "Q"] (c6 Z0):=K5
abbrev gN:cv:=top 8
abbrev DD:List Str:=["u", "v"]
def yF:FnScope DD ["u", "v"] (c6 gN):=K5
abbrev bC:cv:=top 9
abbrev vN:List Str:=["u", "v"]
def sI:FnScope vN ["u", "v"] (c6 bC):=K5
abbrev P9:cv:=top 10
abbrev kQ:List Str:=["numbers", "divisor", "number", "rest", "further"]
def jU:FnScope kQ ["numbers"] (c6 P9):=K5
abbrev T4:cv:=top 11
abbrev nD:List Str:=["P", "Q", "R", "cross", "divisor", "upright"]
def kH:FnScope nD ["P", "Q", "R"] (c6 T4):=K5
abbrev kW:cv:=top 12
abbrev KT:List Str:=["plane", "P", "height"]
def FB:FnScope KT ["plane", "P"] (c6 kW):=K5
abbrev Q0:cv:=top 15
abbrev lR:List Str:=["ways", "way"]
def iQ:FnScope lR ["ways"] (c6 Q0):=K5
abbrev D4:cv:=top 16
abbrev M4:List Str:=["points", "ways", "along", "upright"]
def nB:FnScope M4 ["points"] (c6 D4):=K5
abbrev Z9:cv:=top 17
abbrev sF:List Str:=["points"]
def qO:FnScope sF ["points"] (c6 Z9):=K5
abbrev Y5:cv:=top 18
abbrev mW:List Str:=["plane", "points"]
def xT:FnScope mW ["plane", "points"] (c6 Y5):=K5
abbrev Z1:cv:=top 19
abbrev sD:List Str:=["pair", "points", "along", "upright", "outermost", "P", "way"]
def pV:FnScope sD ["pair", "points"] (c6 Z1):=K5
abbrev bE:cv:=top 20
abbrev wA:List Str:=["points", "least", "upward", "touched"]
def rX:FnScope wA ["points"] (c6 bE):=K5
abbrev lJ:cv:=top 21
abbrev IV:List Str:=["upright", "P", "Q", "R"]
def EQ:FnScope IV ["upright", "P", "Q", "R"] (c6 lJ):=K5
abbrev bQ:cv:=top 22
abbrev xU:List Str:=["upright", "points", "chain", "P"]
def rS:FnScope xU ["upright", "points"] (c6 bQ):=K5
abbrev lA:cv:=top 23
abbrev KC:List Str:=["upright", "points", "there", "back"]
def CL:FnScope KC ["upright", "points"] (c6 lA):=K5
abbrev Z3:cv:=top 24
abbrev sN:List Str:=["ring"]
def qN:FnScope sN ["ring"] (c6 Z3):=K5
abbrev cC:cv:=top 25
abbrev vS:List Str:=["first", "about", "touched_by", "faces", "walked", "waiting", "pair", "plane", "ring", "step"]
def gC:FnScope vS ["first", "about", "touched_by"] (c6 cC):=K5
abbrev L6:cv:=top 26
abbrev gS:List Str:=["points", "spread", "about", "touched_by"]
def mY:FnScope gS ["points"] (c6 L6):=K5
abbrev cD:cv:=top 27
abbrev wW:List Str:=["faces", "corners", "plane", "ring"]
def sK:FnScope wW ["faces"] (c6 cD):=K5
abbrev lU:cv:=top 28
abbrev KW:List Str:=["points"]
def EG:FnScope KW ["points"] (c6 lU):=K5
abbrev kK:cv:=top 31
abbrev LU:List Str:=["thing"]
def CC:FnScope LU ["thing"] (c6 kK):=K5
abbrev R5:cv:=top 32
abbrev cO:List Str:=["land", "axis", "flat"]
def wM:FnScope cO ["land", "axis"] (c6 R5):=K5
abbrev R1:cv:=top 33
abbrev fW:List Str:=["land", "axis"]
def oU:FnScope fW ["land", "axis"] (c6 R1):=K5
abbrev X1:cv:=top 35
abbrev pD:List Str:=["script", "k"]
def nC:FnScope pD ["script", "k"] (c6 X1):=K5
abbrev bY:cv:=top 36
abbrev xF:List Str:=["cell", "most", "x", "y"]
def sM:FnScope xF ["cell"] (c6 bY):=K5
abbrev D7:cv:=top 37
abbrev M0:List Str:=["script", "cell", "a", "b", "c", "kind", "some"]
def vW:FnScope M0 ["script"] (c6 D7):=K5
abbrev aY:cv:=top 38
abbrev xB:List Str:=["spot", "script", "x", "y", "z", "cell", "most", "far"]
def sE:FnScope xB ["spot", "script"] (c6 aY):=K5
abbrev dM:cv:=top 39
abbrev BG:List Str:=["P", "axis"]
def wU:FnScope BG ["P", "axis"] (c6 dM):=K5
abbrev dF:cv:=top 40
abbrev AL:List Str:=["one", "two", "three", "found"]
def xE:FnScope AL ["one", "two", "three"] (c6 dF):=K5
abbrev Y6:cv:=top 41
abbrev mN:List Str:=["ring"]
def wC:FnScope mN ["ring"] (c6 Y6):=K5
abbrev L8:cv:=top 42
abbrev X9:List Str:=["land", "faces", "axis", "spots", "shadow", "area", "ups", "downs", "plane", "ring", "part", "k", "turns"]
def wR:FnScope X9 ["land", "faces", "axis"] (c6 L8):=K5
abbrev gA:cv:=top 43
abbrev ZL:List Str:=["script", "near", "last", "cell", "land", "faces", "axis", "area"]
def TD:FnScope ZL ["script"] (c6 gA):=K5
def dQ:cv:=(q8 L6).getD 2 (.Pass ⟨0,0,0,0⟩)
abbrev FR:Str:= "faces_of.<locals>.about"
def L0:cv:=(q8 L6).getD 3 (.Pass ⟨0,0,0,0⟩)
abbrev iM:Str:= "faces_of.<locals>.touched_by"
def tbK:List (Pos×Str):=[(IM dQ,FR),(IM L0,iM)]
section
variable [Tabs]
variable{P:bM}{w:cp}{K:ix}{mg:cM}{base:cq}
variable{jf xu kl qd:bc}
def gP(f:mg "isinstance"=none)(i:mg "bool"=none)(a:mg "int"=none)(g:fM K mg "is_whole" gZ):z8 P w K mg base 1 "is_whole" 1 X8:=by
 refine' p9 (k:=0) (F:=_) g AX (λj l m n=>?b) λe d o h=>?_
 case b=>refine' (e9<|j3<|SR (QX UW<|b8 0)<|TY<|jw<|QX QL<|b8 0)
 match e,h with
 |[x],h=>rw[<-h];cases x<;>rfl
def o5(g:fM K mg "way_between" Z0):z8 P w K mg base 1 "way_between" 2 w5:=by
 refine' p9 (k:=0) (F:=_) g oV (λf i j l=>?b) λe d m h=>?_
 case b=>refine' (e9<|j3<|oM (b9 t6 (PD.pb<|i8 (b8 1) c9)<|PD.pb<|i8 (b8 0) c9) (b9 t6 (PD.pb<|i8 (b8 1) c9)<|PD.pb<|i8 (b8 0) c9)<|b9 t6 (PD.pb<|i8 (b8 1) c9)<|PD.pb<|i8 (b8 0) c9)
 replace h:=P6 h;obtain⟨a,b,c,e,rfl,h⟩:=h;replace h:=P6 h;obtain⟨n,o,p,e,rfl,h⟩:=h;replace h:=G7 h;obtain⟨rfl,h⟩:=h;exact h
def F4(g:fM K mg "cross_of" gN):z8 P w K mg base 1 "cross_of" 2 D9:=by
 refine' p9 (k:=0) (F:=_) g yF (λp q r s=>?b) λe d t h=>?_
 case b=>refine' (e9<|j3<|oM (b9 t6 (PD.pb<|b9 l6 (PD.pb<|i8 (b8 0) c9)<|PD.pb<|i8 (b8 1) c9)<|PD.pb<|b9 l6 (PD.pb<|i8 (b8 0) c9)<|PD.pb<|i8 (b8 1) c9) (b9 t6 (PD.pb<|b9 l6 (PD.pb<|i8 (b8 0) c9)<|PD.pb<|i8 (b8 1) c9)<|PD.pb<|b9 l6 (PD.pb<|i8 (b8 0) c9)<|PD.pb<|i8 (b8 1) c9)<|b9 t6 (PD.pb<|b9 l6 (PD.pb<|i8 (b8 0) c9)<|PD.pb<|i8 (b8 1) c9)<|PD.pb<|b9 l6 (PD.pb<|i8 (b8 0) c9)<|PD.pb<|i8 (b8 1) c9)
 replace h:=P6 h;obtain⟨a,b,c,e,rfl,h⟩:=h;replace h:=P6 h;obtain⟨u,v,x,e,rfl,h⟩:=h;replace h:=G7 h;obtain⟨rfl,h⟩:=h;split at h
 .rename_i o;obtain⟨⟨f,i,j⟩,l,m,n⟩:=o;rw[<-h];simp[j6,l8 (A3.of i n),l8 (A3.of j m),l8 (A3.of j l),l8 (A3.of f n),l8 (A3.of f m),l8 (A3.of i l)]
 cases h
def z7(g:fM K mg "product_of" bC):z8 P w K mg base 1 "product_of" 2 w4:=by
 refine' p9 (k:=0) (F:=_) g sI (λp q r s=>?b) λe d u h=>?_
 case b=>refine' (e9<|j3<|b9 m6 (PD.pb<|b9 m6 (PD.pb<|b9 l6 (PD.pb<|i8 (b8 0) c9)<|PD.pb<|i8 (b8 1) c9)<|PD.pb<|b9 l6 (PD.pb<|i8 (b8 0) c9)<|PD.pb<|i8 (b8 1) c9)<|PD.pb<|b9 l6 (PD.pb<|i8 (b8 0) c9)<|PD.pb<|i8 (b8 1) c9)
 replace h:=a1f h;obtain⟨a,b,c,t,e,rfl,h⟩:=h;replace h:=P6 h;obtain⟨v,x,y,e,rfl,h⟩:=h;replace h:=G7 h;obtain⟨rfl,h⟩:=h;split at h
 .rename_i f;obtain⟨⟨i,j,l⟩,m,n,o⟩:=f;rw[<-h];simp[j6,a0e,a1j,a0m,l8 (A3.of i m),l8 (A3.of j n),l8 (A3.of l o)]
 cases h
def Q7(s:mg "abs"=none)(g:fM K mg "common_divisor" P9):z8 P w K mg base 1 "common_divisor" 1 K0:=by
 refine' p9 (k:=0) (F:=_) g jU (λJ y L i=>?b) λu d N h=>?_
 case b=>
  refine' (c7 (i7 1 c9 i)
   (c7 (M5 aBx rfl (UU<|d5 0) (n6 2 i) (c7 (i7 3 (NQ jz<|b8 2) i)
   (e9 (lK (a0r 3) aBx (l3 (rL y) (b8 3) n4) (c7 (i7 4 (b9 t4 (b8 1)<|b8 3) i)
   (c7 (i7 1 (d5 3) i)
   (e9<|i7 3 (d5 4) i)))))))
   (e9<|j3<|d5 1)))
 replace h:=P6 h;obtain⟨a,b,c,u,rfl,h⟩:=h;replace h:=G7 h;obtain⟨rfl,h⟩:=h;rw[<-h];simp only[j6,aAk,aCG,aAO,aBO];simp only[W6,W9,R.aa0,JQ,C8,aAp,aBn,aDh,aDi,aBV,aBW,aCw,aCx];refine cW (λrest ρ=>∃(g:Nat) (n r f:Sl),ρ=[.v (.tup [.int a,.int b,.int c]),.v (.int g),n,r,f]/\∃e:List Int,rest=e.map D.int/\e.foldl (λg n=>Nat.gcd g n.natAbs) g=G.z6 ⟨a,b,c⟩) ?_ ⟨0,_,_,_,rfl,[a,b,c],rfl,by simp[G.z6]⟩ ?_
 .rintro d u ρ ⟨g,n,r,f,rfl,e,l,j⟩;match e,l,j with
  |x::e,l,j=>
   injection l with A B;subst A B;simp only[gI,aCw,aCx,J4,O5,cF,cV,R.aa0,cw,C8];have C:(if x<0 then-x else x)=(x.natAbs:Int):=by split<;>lia
   rw[C];refine zM (λm ρ=>∃(p q:Nat) (f:Sl),ρ=[.v (.tup [.int a,.int b,.int c]),.v (.int p),.v (.int x),.v (.int q),f]/\q<m/\Nat.gcd p q=Nat.gcd g x.natAbs) ?_ (by rintro ρ ⟨p,q,f,_,h,_⟩;lia) ⟨g,x.natAbs,f,rfl,by show x.natAbs<((x.natAbs:Int).natAbs)+2;lia,rfl⟩ ?_
   .rintro m ρ ⟨p,q,f,rfl,E,t⟩;by_cases o:(q:Int)=0
    .exact .inl (by simp[o])
    have H:q≠0:=by lia
    refine .inr ⟨by simp[H],_,?_,q,p%q,Sl.v (.int ((p%q:Nat):Int)),rfl,?_,?_⟩
    .have em:oR (.int (p:Int)) (.int (q:Int))=.ok (.int ((p%q:Nat):Int)):=by rw[AZ o,Int.fmod_eq_emod_of_nonneg _ (by lia)];rfl
     simp[em]
    .have:=aFk p (show 0<q by lia)
     lia
    rw[Nat.gcd_comm,<-Nat.gcd_rec,Nat.gcd_comm];exact t
   rintro m ρ ⟨p,q,f,rfl,E,t⟩ I;have o:q=0:=by
    by_cases z:q=0
    .exact z
    simp[z]at I
   subst o;refine⟨p,_,_,_,rfl,e,rfl,?_⟩;rw[<-j,aEB,<-t,Nat.gcd_zero_right]
 rintro ρ ⟨g,n,r,f,rfl,e,l,j⟩;have:e=[]:=by simpa using l.symm
 subst this;simp at j;simp[j]
def T8(F4:z8 P w K mg base 1 "cross_of" 2 D9)(o5:z8 P w K mg base 1 "way_between" 2 w5)(Q7:z8 P w K mg base 1 "common_divisor" 1 K0)(z7:z8 P w K mg base 1 "product_of" 2 w4)(g:fM K mg "plane_through" T4):z8 P w K mg base 2 "plane_through" 3 T2:=by
 refine' p9 (k:=1) (F:=_) g kH (λl Y dh s=>?b) λA d hl h=>?_
 case b=>
  refine' (c7 (i7 3 (fI F4 l (fI o5 l (d5 0)<|d5 1)<|fI o5 l (d5 0)<|d5 2) s)
   (c7 (i7 4 (BU Q7 l<|d5 3) s)
   (c7 (B5 (l3 (U1 Y) (b8 4) n4) (e9 fK) t5)
   (c7 (i7 5 (oM (b9 u3 (PD.pb<|i8 (b8 3) c9)<|b8 4) (b9 u3 (PD.pb<|i8 (b8 3) c9)<|b8 4)<|b9 u3 (PD.pb<|i8 (b8 3) c9)<|b8 4) s)
   (e9<|j3<|rH<|f9 (i8 (b8 5) c9)<|f9 (i8 (b8 5) c9)<|f9 (i8 (b8 5) c9)<|f9 (fI z7 l (d5 5)<|d5 0) m8)))))
 replace h:=P6 h;obtain⟨a,b,c,A,rfl,h⟩:=h;replace h:=P6 h;obtain⟨d,e,f,A,rfl,h⟩:=h;replace h:=P6 h;obtain⟨g,J,i,A,rfl,h⟩:=h;replace h:=G7 h;obtain⟨rfl,h⟩:=h
 skip
 split at h
 .rename_i hz;obtain⟨⟨p,q,r⟩,n⟩:=hz;rw[<-h];obtain⟨P,B⟩:∃P:G.V,P=⟨a,b,c⟩:=⟨_,rfl⟩;obtain⟨Q,E⟩:∃P:G.V,P=⟨d,e,f⟩:=⟨_,rfl⟩;obtain⟨j,H⟩:∃P:G.V,P=⟨g,J,i⟩:=⟨_,rfl⟩;rw[<-B]at p n;rw[<-E]at q n;rw[<-H]at r n;have vP:(.tup [.int a,.int b,.int c]:D)=vd P:=by rw[B]
  have vQ:(.tup [.int d,.int e,.int f]:D)=vd Q:=by rw[E]
  have vR:(.tup [.int g,.int J,.int i]:D)=vd j:=by rw[H]
  rw[vP,vQ,vR,<-B,<-E,<-H];have o:=(q.sub p).cr (r.sub p);have c1:=iU (u:=Q-P) (v:=j-P) (q.sub p).mono (r.sub p).mono;obtain⟨L,g1,g2⟩:=G.lV n;have m:((G.z6 (G.cr (Q-P)<|j-P):Nat):Int)≠0:=by lia
  have gb:AW ((G.z6 (G.cr (Q-P)<|j-P):Nat):Int):=⟨m,f6 (JU o)⟩;have dv:=ET (G.cr (Q-P)<|j-P);have pl:G.j1 P Q j=(G.kF (G.cr (Q-P)<|j-P) (G.z6<|G.cr (Q-P)<|j-P),G.dot (G.kF (G.cr (Q-P)<|j-P)<|G.z6<|G.cr (Q-P)<|j-P) P):=rfl;rw[pl];generalize hC:G.cr (Q-P) (j-P)=C at*
  have sn:Sz 2003 (G.kF C<|G.z6 C):=by have N:=bits_fdiv (b:=(G.z6 C:Int)) o.1;have O:=bits_fdiv (b:=(G.z6 C:Int)) o.2.1;have T:=bits_fdiv (b:=(G.z6 C:Int)) o.2.2;rw[qY L]at N O T;exact⟨N,O,T⟩
  have d1:∀t:Int,S9 (.int t) (.int (G.z6 C:Nat))=.ok (.int (t/(G.z6 C:Nat))):=λt=>by rw[uS gb,qY L]
  have U:=nS (u:=G.kF C (G.z6 C)) (v:=P) sn.mono p.mono;have e0:(((G.z6 C:Nat):Int)==0)=false:=by simpa using m
  simp only[G.kF]at U;have I:w4 [.tup [.int (C.x/(G.z6 C:Nat)),.int (C.y/(G.z6 C:Nat)),.int (C.z/(G.z6 C:Nat))],vd P]=_:=U;simp[j6,c1,dv,e0,d1,I,G.kF]
 cases h
def lH(g:fM K mg "side_of" kW):z8 P w K mg base 1 "side_of" 2 aS:=by
 refine' p9 (k:=0) (F:=_) g FB (λv A B s=>?b) λq d C h=>?_
 case b=>
  refine' (c7 (i7 2 (b9 t6 (PD.pb<|b9 m6 (PD.pb<|b9 m6 (PD.pb<|b9 l6 (PD.pb<|i8 (b8 0) c9)<|PD.pb<|i8 (b8 1) c9)<|PD.pb<|b9 l6 (PD.pb<|i8 (b8 0) c9)<|PD.pb<|i8 (b8 1) c9)<|PD.pb<|b9 l6 (PD.pb<|i8 (b8 0) c9)<|PD.pb<|i8 (b8 1) c9)<|PD.pb<|i8 (b8 0) c9) s)
   (c7 (B5 (l3 IA (b8 2) n4) (e9<|j3 c9) t5)
   (c7 (B5 (l3 tN (b8 2) n4) (e9<|j3<|qB c9) t5)
   (e9<|j3 c9))))
 replace h:=YU h;obtain⟨a,b,c,d,q,rfl,h⟩:=h;replace h:=P6 h;obtain⟨x,y,z,q,rfl,h⟩:=h;replace h:=G7 h;obtain⟨rfl,h⟩:=h
 skip
 split at h
 .rename_i u;obtain⟨⟨e,f,i⟩,j,l,m⟩:=u;rw[<-h];obtain⟨t,r⟩:∃t,a*x+b*y+c*z-d=t:=⟨_,rfl⟩;have o:LX (.int (a*x+b*y+c*z)) (.int d)=.ok (.int t):=by rw[<-r];rfl
  rw[r];unfold sgn;by_cases p:0<t
  .simp[-jO,j6,l8 (A3.of e j),l8 (A3.of f l),l8 (A3.of i m),p,o]
  by_cases n:t<0
  .simp[-jO,j6,l8 (A3.of e j),l8 (A3.of f l),l8 (A3.of i m),p,n,o]
  simp[-jO,j6,l8 (A3.of e j),l8 (A3.of f l),l8 (A3.of i m),p,n,o]
 cases h
def K3(j:DV K mg "NO_WAY" [0,0,0])(g:fM K mg "first_real_way" Q0):z8 P w K mg base 1 "first_real_way" 1 A7:=by
 refine' p9 (k:=0) (F:=_) g iQ (λp l q m=>?b) λn d r h=>?_
 case b=>
  refine' (c7 (M5 aBx rfl (t7<|d5 0) (n6 1 m)<|e9<|B5 (l3 (rL l) (b8 1)<|PD.pb<|nR j) (e9<|j3<|d5 1) t5)
   (e9<|j3 DW))
 match n,h with
 |[.lst Y],h=>
  simp only[A7]at h;split at h
  .rename_i f i;rw[n9 i];rw[<-h];simp[j6];generalize Sl.v (D.lst<|aDq vd f)=a;generalize Sl.no=b;clear h i;induction f generalizing b with
   |nil=>rfl
   |cons v f o=>
    rw[aAk,G.B7];by_cases e:v=0
    .rw[V1 (ρ2:=[a,.v (vd v)]) rfl (by simp[-CK,ne0,e]),o];simp[e]
    rw[vY (x:=vd v) rfl (by simp[-CK,ne0,e])];simp[e,EA]
  cases h
def J3(o5:z8 P w K mg base 1 "way_between" 2 w5)(K3:z8 P w K mg base 1 "first_real_way" 1 A7)(F4:z8 P w K mg base 1 "cross_of" 2 D9)(z7:z8 P w K mg base 1 "product_of" 2 w4)(eh:mg "len"=none)(I:mg "any"=none)(g:fM K mg "dimension_of" D4):z8 P w K mg base 2 "dimension_of" 1 D1:=by
 refine' p9 (k:=1) (F:=_) g nB (λt hu dh L=>?b) λm d hl h=>?_
 case b=>
  refine' (c7 (B5 (l3 (U1 hu) (PD.pb<|NQ mE<|b8 0) n4) (e9 fK) t5)
   (c7 (jN 1 ["P"] ["points"] [0] L rfl (J0 (sc:=c6 D4) (N:=M4)) (t7<|d5 0) (CI λ_ _ _ _ _=>(fI o5 t (i8 (b8 1) c9)<|d5 0))<|λ_=>o9)
   (c7 (i7 2 (BU K3 t<|d5 1) L)
   (c7 (B5 (l3 SE (b8 2)<|PD.pb DW) (e9<|j3 c9) t5)
   (c7 (i7 3 (BU K3 t<|Q9 ["way"] ["along"] [2] rfl (J0 (sc:=c6 D4) (N:=M4)) (t7<|d5 1) (CI λ_ _ _ _ _=>(fI F4 t (d5 1)<|d5 0))<|λ_=>o9) L)
   (c7 (B5 (l3 SE (b8 3)<|PD.pb DW) (e9<|j3 c9) t5)
   (c7 (B5 (vT<|NQ (tz rfl)<|PD.pb<|Q9 ["way"] ["upright"] [3] rfl (J0 (sc:=c6 D4) (N:=M4)) (t7<|d5 1) (CI λ_ _ _ _ _=>(oj (rL hu) (PD.pb<|fI z7 t (d5 1)<|d5 0) n4))<|λ_=>o9) (e9<|j3 c9) t5)
   (e9<|j3 c9))))))))
 match m,h with
 |[.lst Y],h=>
  simp only[D1]at h;split at h
  .rename_i J i;rw[n9 i];split at h
   .rename_i hz;rw[<-h];obtain⟨ag,B⟩:=hz;match J,ag with
    |p::n,_=>
    obtain⟨e,a⟩:∃e,(p::n).map vd=e:=⟨_,rfl⟩;have i0:X6 (.lst e) (.int 0)=.ok (vd p):=cH (by rw[Y8 (by decide),<-a];rfl);have C:o8 (λd ρ=>R.ok (aDC ρ 0<|Sl.v d)) (λx=>R.ok true) (λρ=>(((AA 1 ρ).bind λx=>X6 x (D.int 0)).bind λd=>((eN 0 ρ).bind λd=>R.ok [d]).bind λm=>R.ok (d::m)).bind w5) [.no,.v (.lst e)] e=.ok (((p::n).map (· -p)).map vd):=by rw[aBd];rw[show o8 _ _ _ _ e=o8 _ _ _ _ ((p::n).map vd)by rw[a]];refine J8 vd _ _ λq j=>⟨[.v (vd q),Sl.v (.lst e)],rfl,?_⟩;show((X6 (.lst e)<|.int 0).bind _).bind _=_;rw[i0];rfl
    have i:∀w∈(p::n).map (· -p),Sz 1001 w:=λw i=>by obtain⟨q,j,rfl⟩:=aAj.mp i;exact(B.1 q j).sub (B.1 p (.head _))
    have E:(((p::n).map (· -p)).map vd).length<=sizeLine:=by rw[aAh,aAh];exact small B.2
    have H:e.length<=sizeLine:=by rw[<-a,aAh];exact small B.2
    have f:((e.length:Int)==0)=false:=by rw[<-a];simp;lia
    have r:=EH ((p::n).map (· -p));unfold G.U4;dsimp only;rw[a];generalize(p::n).map (· -p)=W at*
    have l:=λu=>EH (W.map<|G.cr u);cases O:G.B7 W with
    |none=>rw[O]at r;simp[j6,i5,H,f,C,r,EA,QR]
    |some o=>
     rw[O]at r;obtain⟨hm,_⟩:=G.u7 O;have y:=i o hm;have z:o8 (λd ρ=>R.ok (aDC ρ 0<|Sl.v d)) (λx=>R.ok true) (λρ=>((eN 1 ρ).bind λd=>((eN 0 ρ).bind λd=>R.ok [d]).bind λm=>R.ok (d::m)).bind D9) [.no,.v (vd o)] (W.map vd)=.ok ((W.map<|G.cr o).map vd):=by rw[aBd];refine J8 vd _ _ λq j=>⟨[.v (vd q),Sl.v (vd o)],rfl,?_⟩;show D9 [vd o,vd q]=_;exact iU y.mono (i q j).mono
     have l:=EH (W.map<|G.cr o);have eW:(W.map vd).length=W.length:=aAh ..;rw[eW]at E;cases A:G.B7 (W.map<|G.cr o)with
     |none=>rw[A]at l;simp only[aBd]at z l;simp only[A];simp[j6,i5,H,f,C,r,EA,QR,E,z,l]
     |some up=>
      rw[A]at l;obtain⟨jn,_⟩:=G.u7 A;have Q:Sz 2003 up:=by obtain⟨q,j,rfl⟩:=aAj.mp jn;exact(y.cr<|i q j).mono
      have T:o8 (λd ρ=>R.ok (aDC ρ 0<|Sl.v d)) (λx=>R.ok true) (λρ=>(((eN 1 ρ).bind λd=>((eN 0 ρ).bind λd=>R.ok [d]).bind λm=>R.ok (d::m)).bind w4).bind λx=>MH x (D.int 0)) [.no,.v (vd up)] (W.map vd)=.ok ((W.map λw=>decide (G.dot up w≠0)).map D.bl):=by rw[aBd];refine J8 vd _ _ λq j=>⟨[.v (vd q),Sl.v (vd up)],rfl,?_⟩;show(w4 [vd up,vd q]).bind _=_;rw[nS Q.mono (i q j).mono,R.aa0,jx];congr 2;rw[aDY];simp
      have s:=iy (W.map λw=>decide (G.dot up w≠0));have U:(W.map λw=>decide (G.dot up w≠0)).any id=W.any λw=>decide (G.dot up w≠0):=by rw[List.any_map];rfl
      rw[U]at s;simp only[aBd]at z l T s;simp only[A];generalize(λw=>decide (G.dot up w≠0))=Bf at*
      cases hc:W.any Bf with
      |false=>rw[hc]at s;simp[j6,i5,H,f,C,r,EA,QR,E,z,l,T,s]
      |true=>rw[hc]at s;simp[j6,i5,H,f,C,r,EA,QR,E,z,l,T,s]
   cases h
  cases h
def Z6(J3:z8 P w K mg base 2 "dimension_of" 1 D1)(g:fM K mg "refuse_flat" Z9):z8 P w K mg base 3 "refuse_flat" 1 F9:=by
 refine' p9 (k:=2) (F:=_) g qO (λf o p q=>?b) λi d r h=>?_
 case b=>refine' (e9<|B5 (l3 tN (PD.pb<|BU J3 f<|d5 0) n4) (e9 fK) t5)
 match i,h with
 |[.lst Y],h=>
  simp only[F9]at h;split at h
  .rename_i J j;rw[n9 j];split at h
   .rename_i l;rw[<-h];obtain⟨m,a⟩:=l;have n:J≠[]:=λe=>by subst e;cases a
    have e:=OH n m;rw[a]at e;simp[j6,e]
   cases h
  cases h
def J2(lH:z8 P w K mg base 1 "side_of" 2 aS)(g:fM K mg "points_on" Y5):z8 P w K mg base 2 "points_on" 2 A1:=by
 refine' p9 (k:=1) (F:=_) g xT (λj l o p=>?b) λf d q h=>?_
 case b=>refine' (e9<|j3<|Q9 ["P"] ["plane"] [0] rfl (J0 (sc:=c6 Y5) (N:=mW)) (t7<|d5 1) (hxt λ_ _ _ _ _=>⟨(l3 (U1 l) (PD.pb<|fI lH j (d5 1)<|d5 0) n4),(d5 0)⟩)<|λ_=>o9)
 replace h:=YU h;obtain⟨a,b,c,d,f,rfl,h⟩:=h;replace h:=bU h;obtain⟨Y,f,rfl,h⟩:=h;replace h:=G7 h;obtain⟨rfl,h⟩:=h
 skip
 split at h
 .rename_i J m;rw[n9 m];split at h
  .rename_i i;rw[<-h];have e:=lB vd (G:=λd ρ=>R.ok (aDC ρ 0<|Sl.v d)) (ft:=λρ=>((((eN 1 ρ).bind λd=>((eN 0 ρ).bind λd=>R.ok [d]).bind λf=>R.ok (d::f)).bind aS).bind λx=>UJ x (D.int 0)).bind BV) (fe:=eN 0) (ρ:=[.no,.v (.tup [D.int a,D.int b,D.int c,D.int d])])
    (λX=>decide (G.dot ⟨a,b,c⟩ X=d)) vd J λP n=>⟨[.v (vd P),Sl.v (D.tup [D.int a,D.int b,D.int c,D.int d])],rfl,by simp[YC i.1.mono (i.2.1 P n).mono,a4o,G.dot];exact decide_eq_decide.mpr (by lia),λ_=>rfl⟩
   simp[j6,i5,small i.2.2,e];rfl
  cases h
 cases h
def K9(o5:z8 P w K mg base 1 "way_between" 2 w5)(z7:z8 P w K mg base 1 "product_of" 2 w4)(F4:z8 P w K mg base 1 "cross_of" 2 D9)(T8:z8 P w K mg base 2 "plane_through" 3 T2)(O:DV K mg "NO_WAY" [0,0,0])(g:fM K mg "plane_about" Z1):z8 P w K mg base 3 "plane_about" 2 G1:=by
 refine' p9 (k:=2) (F:=_) g pV (λp hu dh o=>?b) λE d hl h=>?_
 case b=>
  refine' (c7 (i7 2 (fI o5 p (i8 (b8 0) c9)<|i8 (b8 0) c9) o)
   (c7 (i7 3 (nR O) o)
   (c7 (i7 4 (i8 (b8 0) c9) o)
   (c7 (M5 aBx rfl (t7<|d5 1) (n6 5 o) (c7 (i7 6 (fI o5 p (i8 (b8 0) c9)<|d5 5) o)
   (e9 (B5 (ER.pt<|mC (l3 (U1 hu) (b8 3)<|PD.pb<|nR O)<|oN<|l3 IA (PD.pb<|fI z7 p (d5 3)<|d5 6) n4) (c7 (i7 3 (fI F4 p (d5 2)<|d5 6) o)
   (e9<|i7 4 (d5 5) o)) t5))))
   (e9<|j3<|pc3 T8 p (i8 (b8 0) c9) (i8 (b8 0) c9)<|d5 4)))))
 replace h:=vI h;obtain⟨Q,E,rfl,h⟩:=h;replace h:=bU h;obtain⟨Y,E,rfl,h⟩:=h;replace h:=G7 h;obtain⟨rfl,h⟩:=h;replace h:=P6 h;obtain⟨a,b,c,Q,rfl,h⟩:=h;replace h:=P6 h;obtain⟨d,e,f,Q,rfl,h⟩:=h;replace h:=G7 h;obtain⟨rfl,h⟩:=h
 skip
 split at h
 .rename_i J hw;rw[n9 hw];split at h
  .rename_i hz;rw[<-h];obtain⟨sA,t,hs,H⟩:=hz;have vA:(.tup [.int a,.int b,.int c]:D)=vd ⟨a,b,c⟩:=rfl;have vB:(.tup [.int d,.int e,.int f]:D)=vd ⟨d,e,f⟩:=rfl;rw[vA,vB];generalize(⟨a,b,c⟩:G.V)=A at*
   generalize(⟨d,e,f⟩:G.V)=B at*
   simp[j6];have z0:(.tup [.int 0,.int 0,.int 0]:D)=vd 0:=rfl;rw[z0];refine cW (λrest ρ=>∃(up i:G.V) (j:List G.V) (x y:Sl),ρ=[.v (.tup [vd A,vd B]),.v (.lst (aDq vd J)),.v (vd<|B-A),.v (vd up),.v (vd i),x,y]/\rest=j.map vd/\Sz 2003 up/\Sz 1000 i/\(∀X∈j,Sz 1000 X)/\G.G8 (B-A) A j up i=G.G8 (B-A) A J 0 A) ?_ ⟨0,A,J,_,_,rfl,rfl,⟨by decide,by decide,by decide⟩,sA,hs.1,rfl⟩ ?_
   .rintro d E ρ ⟨up,i,j,x,y,rfl,q,I,L,r,l⟩;match j,q with
    |P::j,q=>
     injection q with e3 e4;subst e3 e4;have N:=r P (.head _);have C:=N.sub sA;have T:=eq0 up;rw[show(.tup [.int 0,.int 0,.int 0]:D)=vd 0 from rfl]at T;have U:=iU (u:=B-A) (v:=P-A) (t.sub sA).mono C.mono;have p1:=nS (u:=up) (v:=P-A) I.mono C.mono;have w1:=xq A P;have i0:X6 (.tup [vd A,vd B]) (.int 0)=.ok (vd A):=rfl
     conv at l=>lhs;unfold G.G8
     simp only[gI,aCw,aCx,cF,cV,aN,W6,R.aa0,i0,w1,C8,T,tZ,p1,vO];by_cases m:up=0
     .rw[h9 (.inl m)]at l;refine⟨_,?_,G.cr (B-A) (P-A),P,j,.v (vd P),.v (vd<|P-A),rfl,rfl,(((t.sub sA).cr C).mono),N,λX s=>r X (.tail _ s),l⟩;rw[decide_eq_true m];simp only[if_true,R.aa0,U,C8,aCw,aCx,aN,W6]
     rw[decide_eq_false m];by_cases n:0<G.dot up (P-A)
     .rw[h9 (.inr n)]at l;refine⟨_,?_,G.cr (B-A) (P-A),P,j,.v (vd P),.v (vd<|P-A),rfl,rfl,(((t.sub sA).cr C).mono),N,λX s=>r X (.tail _ s),l⟩;rw[decide_eq_true n];simp only[if_true,aAv,if_false,R.aa0,U,C8,aCw,aCx,aN,W6]
     rw[ia (λz=>z.elim m n)]at l;refine⟨_,?_,up,i,j,.v (vd P),.v (vd<|P-A),rfl,rfl,I,L,λX s=>r X (.tail _ s),l⟩;rw[decide_eq_false n];simp only[aAv,if_false,R.aa0]
   rintro ρ ⟨up,i,j,x,y,rfl,q,I,L,r,l⟩;have:j=[]:=by simpa using q.symm
   subst this;have l:(up,i)=G.G8 (B-A) A J 0 A:=l;have eo:(G.G8 (B-A) A J 0 A).2=i:=by rw[<-l]
   unfold G.b7 at H⊢;rw[eo]at H⊢;have pl:=RA ⟨sA,t,L⟩ (UQ H);simp[pl]
  cases h
 cases h
def bA(J2:z8 P w K mg base 2 "points_on" 2 A1)(K9:z8 P w K mg base 3 "plane_about" 2 G1)(J3:z8 P w K mg base 2 "dimension_of" 1 D1)(uf:mg "min"=none)(g:fM K mg "first_pair" bE):z8 P w K mg base 8 "first_pair" 1 J6:=by
 refine' p9 (k:=7) (F:=_) g rX (λf z dh l=>?b) λA d hl h=>?_
 case b=>
  have o:=f.ae2 (by decide);refine' (c7 (i7 1 (dH (YE rfl o)<|u5 (b8 0) E8) l)
   (c7 (i7 2 (xW (d5 1)<|oM (i8 (b8 1) c9) (i8 (b8 1) c9)<|b9 m6 (PD.pb<|i8 (b8 1) c9) n4) l)
   (c7 (i7 3 (fI J2 f (fI K9 f (d5 2)<|d5 0)<|d5 0) l)
   (c7 (B5 (l3 (U1 z) (PD.pb<|BU J3 f<|d5 3) n4) (e9<|j3<|d5 2) t5)
   (e9<|j3<|xW (i8 (b8 3) c9)<|i8 (b8 3) c9)))))
 match A,h with
 |[.lst Y],h=>
  simp only[J6]at h;split at h
  .rename_i m J B;rw[n9 B];split at h
   .rename_i a;rw[<-h];have u:=iw a.good.ord;have i:aU 1000 (m::J):=a.sz.mono;have j:Sz 900 m:=a.sz.1 m (.head _);obtain⟨C,E,H,I,N⟩:=G.yJ a.good.solid a.good.mem a.good.least;have p:=N5 j.mono (NX j) i C;have q:=BH j.mono (NX j) i;rw[a1y]at p;have v:=jR (d:=(G.b7 m (m+G.kk) (m::J)).2) q.mono i;obtain⟨x,y,r,e⟩:=SV E I N;have O:=TX (n:=(G.b7 m (m+G.kk) (m::J)).1) (d:=(G.b7 m (m+G.kk) (m::J)).2) i;have s:=OH (J:=G.o7 (G.b7 m (m+G.kk) (m::J)).1 (G.b7 m (m+G.kk) (m::J)).2 (m::J)) (by rw[e];simp) O;have Q:X6 (.lst ((G.o7 (G.b7 m (m+G.kk) (m::J)).1 (G.b7 m (m+G.kk) (m::J)).2 (m::J)).map vd)) (.int 0)=.ok (vd x):=cH (by rw[e];exact a0k _ _);have T:X6 (.lst ((G.o7 (G.b7 m (m+G.kk) (m::J)).1 (G.b7 m (m+G.kk) (m::J)).2 (m::J)).map vd)) (.int 1)=.ok (vd y):=cH (by rw[e];exact a0c _ _ _);unfold G.f7;dsimp only;by_cases t:G.U4 (G.o7 (G.b7 m (m+G.kk) (m::J)).1 (G.b7 m (m+G.kk) (m::J)).2 (m::J))=2
    .rw[h9 t];rw[t]at s;generalize(m::J).map vd=L at*
     generalize(G.o7 (G.b7 m (m+G.kk) (m::J)).1 (G.b7 m (m+G.kk) (m::J)).2 (m::J)).map vd=L2 at*
     generalize(G.b7 m (m+G.kk) (m::J)).1=U at*
     generalize(G.b7 m (m+G.kk) (m::J)).2=pm at*
     simp[j6,u,p,v,s,G.kk]
    rw[ia t];have e0:(G.o7 (G.b7 m (m+G.kk) (m::J)).1 (G.b7 m (m+G.kk) (m::J)).2 (m::J)).getD 0 0=x:=by rw[e];rfl
    have e1:(G.o7 (G.b7 m (m+G.kk) (m::J)).1 (G.b7 m (m+G.kk) (m::J)).2 (m::J)).getD 1 0=y:=by rw[e];rfl
    rw[e0,e1];have hb:((G.U4 (G.o7 (G.b7 m (m+G.kk) (m::J)).1 (G.b7 m (m+G.kk) (m::J)).2 (m::J)):Int)==2)=false:=by rw[beq_eq_false_iff_ne];lia
    generalize(m::J).map vd=L at*
    generalize(G.o7 (G.b7 m (m+G.kk) (m::J)).1 (G.b7 m (m+G.kk) (m::J)).2 (m::J)).map vd=L2 at*
    generalize(G.U4 (G.o7 (G.b7 m (m+G.kk) (m::J)).1 (G.b7 m (m+G.kk) (m::J)).2 (m::J)):Int)=dd at*
    generalize(G.b7 m (m+G.kk) (m::J)).1=U at*
    generalize(G.b7 m (m+G.kk) (m::J)).2=pm at*
    simp[j6,u,p,v,s,hb,Q,T]
   cases h
  cases h
def kL(z7:z8 P w K mg base 1 "product_of" 2 w4)(F4:z8 P w K mg base 1 "cross_of" 2 D9)(o5:z8 P w K mg base 1 "way_between" 2 w5)(g:fM K mg "turn_of" lJ):z8 P w K mg base 2 "turn_of" 4 fG:=by
 refine' p9 (k:=1) (F:=_) g EQ (λm A B C=>?b) λn d E h=>?_
 case b=>refine' (e9<|j3<|fI z7 m (d5 0)<|fI F4 m (fI o5 m (d5 1)<|d5 2)<|fI o5 m (d5 2)<|d5 3)
 replace h:=P6 h;obtain⟨a,b,c,n,rfl,h⟩:=h;replace h:=P6 h;obtain⟨d,e,f,n,rfl,h⟩:=h;replace h:=P6 h;obtain⟨g,o,i,n,rfl,h⟩:=h;replace h:=P6 h;obtain⟨j,k,l,n,rfl,h⟩:=h;replace h:=G7 h;obtain⟨rfl,h⟩:=h
 skip
 split at h
 .rename_i y;obtain⟨p,q,r,s⟩:=y;rw[<-h];have t:=iU (u:=⟨g,o,i⟩-⟨d,e,f⟩) (v:=⟨j,k,l⟩-⟨g,o,i⟩) (r.sub q).mono (s.sub r).mono;have x:=nS (u:=⟨a,b,c⟩) (v:=G.cr (⟨g,o,i⟩-⟨d,e,f⟩) (⟨j,k,l⟩-⟨g,o,i⟩)) p.mono ((r.sub q).cr (s.sub r)).mono;simp only[vd,G.TV,G.RW,G.SB,G.VW,G.XZ,G.VS]at t x;have z:∀a b c d e f:Int,w5 [.tup [.int a,.int b,.int c],.tup [.int d,.int e,.int f]]=.ok (.tup [.int (d-a),.int (e-b),.int (f-c)]):=λ_ _ _ _ _ _=>rfl;simp[j6,z,t,x,G.turn,G.i3]
 cases h
def U8(kL:z8 P w K mg base 2 "turn_of" 4 fG)(eh:mg "len"=none)(g:fM K mg "left_chain" bQ):z8 P w K mg base 3 "left_chain" 2 V0:=by
 refine' p9 (k:=2) (F:=_) g rS (λhr hu dh T=>?b) λj d I h=>?_
 case b=>
  refine' (c7 (Y3 2 (dZ m8) T)
   (c7 (M5 aBx rfl (t7<|d5 1) (n6 3 T) (c7 (lK (λ_=>1001) aBx (ER.pt<|xO (l3 IA (PD.pb<|NQ mE<|b8 2) n4)<|pR<|l3 a1k (PD.pb<|pc4 kL hr (d5 0) (i8 (b8 2)<|qB c9) (i8 (b8 2)<|qB c9)<|d5 3) n4)<|e9<|WV 2)
   (e9<|P7 2<|d5 3)))
   (e9<|GW 2<|j3<|d5 2)))
 replace h:=P6 h;obtain⟨a,b,c,j,rfl,h⟩:=h;replace h:=bU h;obtain⟨Y,j,rfl,h⟩:=h;replace h:=G7 h;obtain⟨rfl,h⟩:=h
 skip
 split at h
 .rename_i J hw;rw[n9 hw];split at h
  .rename_i L;rw[<-h];obtain⟨U,hs⟩:=L;have vn:(.tup [.int a,.int b,.int c]:D)=vd ⟨a,b,c⟩:=rfl;rw[vn];generalize(⟨a,b,c⟩:G.V)=n at*
   simp[j6];refine cW (λrest ρ=>∃(c i:List G.V) (x:Sl),ρ=[.v (vd n),.v (.lst (aDq vd J)),.o (c.reverse.map vd),x]/\rest=i.map vd/\(∀X∈c,Sz 1000 X)/\(∀X∈i,Sz 1000 X)/\c.length+i.length<=1000/\i.foldl (λc P=>P::G.Q3 n P c) c=G.w6 n J) ?_ ⟨[],J,_,rfl,rfl,λX l=>by(cases l),hs.1,by simpa using hs.2,rfl⟩ ?_
   .rintro d j ρ ⟨c,i,x,rfl,t,sc,N,I,u⟩;match i,t with
    |P::i,t=>
     injection t with e3 e4;subst e3 e4;have O:=N P (.head _);simp only[aAp]at I;simp only[gI,aCw,aCx];refine Exists.elim (zM (n:=1001) (ρ:=[.v (vd n),.v (.lst (aDq vd J)),.o (c.reverse.map vd),.v (vd P)]) (Post:=λρ=>∃e,ρ=[.v (vd n),.v (.lst (aDq vd J)),.o (e.reverse.map vd),.v (vd P)]/\(∀X∈e,Sz 1000 X)/\e.length<=c.length/\e=G.Q3 n P c)
      (c:=DS (λρ=>((((AA 2 ρ).bind λd=>R.ok [d]).bind JR).bind λx=>zy x (D.int 1)).bind BV) λρ=>((((eN 0 ρ).bind λd=>(((AA 2 ρ).bind λx=>X6 x (D.int (-2))).bind λd=>(((AA 2 ρ).bind λx=>X6 x (D.int (-1))).bind λd=>((eN 3 ρ).bind λd=>R.ok [d]).bind λj=>R.ok (d::j)).bind λj=>R.ok (d::j)).bind λj=>R.ok (d::j)).bind fG).bind λx=>leR x (D.int 0)).bind BV) (F:=λρ=>(CV 2 ρ).bind λz=>R.ok (Out.nx z.snd))
      (λm ρ=>∃e,ρ=[.v (vd n),.v (.lst (aDq vd J)),.o (e.reverse.map vd),.v (vd P)]/\(∀X∈e,Sz 1000 X)/\e.length<=c.length/\e.length<m/\G.Q3 n P e=G.Q3 n P c) ?_ (by rintro ρ ⟨e,_,_,_,h,_⟩;lia) ⟨c,rfl,sc,aAl _,by lia,rfl⟩ ?_) ?_
     .rintro m ρ ⟨e,rfl,sub,p,q,f⟩;match e,sub,p,q,f with
      |[],_,_,_,_=>exact .inl (by simp)
      |[a],_,_,_,_=>exact .inl (by simp)
      |b::a::r,sub,p,q,f=>
       have s:(b::a::r).reverse.map vd=r.reverse.map vd++[vd a,vd b]:=by simp
       have A:X6 (.lst ((b::a::r).reverse.map vd)) (.int (-1))=.ok (vd b):=cH (by rw[s];exact ZJ _ _ _);have B:X6 (.lst ((b::a::r).reverse.map vd)) (.int (-2))=.ok (vd a):=cH (by rw[s];exact ZN _ _ _);have C:=HC U (sub a<|.tail _ (.head _)) (sub b<|.head _) O;have E:(1:Int)<(aDq vd (b::a::r).reverse).length:=by rw[aAh,aBU];simp;lia
       by_cases Q:G.turn n a b P<=0
       .refine .inr ⟨?_,[.v (vd n),.v (.lst (aDq vd J)),.o ((a::r).reverse.map vd),.v (vd P)],?_,a::r,rfl,λX l=>sub X (.tail _ l),?_,?_,?_⟩
        .simp only[vJ,cF,FG,R.aa0,CF,vO,decide_eq_true E,tZ,if_true,W6,aN,A,B,C,CW,decide_eq_true Q]
        .show(match(aDq vd (b::a::r).reverse)[(aDq vd (b::a::r).reverse).length-1]? with|some d=>_|none=>_:R (D×Ev)).bind _=_;rw[s];simp
        .simp only[aAp]at p⊢;lia
        .simp only[aAp]at q⊢;lia
        rw[<-f]
        conv=>rhs;unfold G.Q3
        rw[h9 Q]
       refine .inl ?_;simp only[vJ,cF,FG,R.aa0,CF,vO,decide_eq_true E,tZ,if_true,W6,aN,A,B,C,CW,decide_eq_false Q]
     .rintro m ρ ⟨e,rfl,sub,p,q,f⟩ H;refine⟨e,rfl,sub,p,?_⟩;match e,sub,p,q,f,H with
      |[],_,_,_,f,_=>exact f
      |[a],_,_,_,f,_=>exact f
      |b::a::r,sub,p,q,f,H=>
       have s:(b::a::r).reverse.map vd=r.reverse.map vd++[vd a,vd b]:=by simp
       have A:X6 (.lst ((b::a::r).reverse.map vd)) (.int (-1))=.ok (vd b):=cH (by rw[s];exact ZJ _ _ _);have B:X6 (.lst ((b::a::r).reverse.map vd)) (.int (-2))=.ok (vd a):=cH (by rw[s];exact ZN _ _ _);have C:=HC U (sub a<|.tail _ (.head _)) (sub b<|.head _) O;have E:(1:Int)<(aDq vd (b::a::r).reverse).length:=by rw[aAh,aBU];simp;lia
       simp only[vJ,cF,FG,R.aa0,CF,vO,decide_eq_true E,tZ,if_true,W6,aN,A,B,C,CW,QA,decide_eq_false_iff_not]at H;rw[<-f]
       conv=>rhs;unfold G.Q3
       rw[ia H]
     rintro ρ2 ⟨ew,e,rfl,sub,p,y⟩;refine⟨[.v (vd n),.v (.lst (aDq vd J)),.o ((P::e).reverse.map vd),.v (vd P)],?_,P::e,i,_,rfl,rfl,?_,λX l=>N X (.tail _ l),?_,?_⟩
     .rw[ew];have L:(aDq vd e.reverse).length<sizeLine:=by rw[aAh,aBU];exact aCt (show e.length<=1000 by lia) (by decide)
      simp only[C8,aN,W6,R.aa0];show(if(aDq vd e.reverse).length<sizeLine then _ else _)=_;rw[h9 L];simp
     .intro X l;rcases aAc.mp l with rfl|l
      .exact O
      exact sub X l
     .simp;lia
     rw[<-u,aEB,y]
   rintro ρ ⟨c,i,x,rfl,t,sc,N,I,u⟩;have:i=[]:=by simpa using t.symm
   subst this;have u:c=G.w6 n J:=u;subst u;simp[gH]
  cases h
 cases h
def aM(U8:z8 P w K mg base 3 "left_chain" 2 V0)(x:mg "list"=none)(y:mg "reversed"=none)(g:fM K mg "ring_of" lA):z8 P w K mg base 4 "ring_of" 2 J7:=by
 refine' p9 (k:=3) (F:=_) g CL (λf z A i=>?b) λj d B h=>?_
 case b=>
  refine' (c7 (i7 2 (fI U8 f (d5 0)<|d5 1) i)
   (c7 (i7 3 (fI U8 f (d5 0)<|PF.pd<|EK (b8 1) rfl) i)
   (e9<|j3<|b9 m6 (PD.pb<|fY (b8 2) R8<|F6<|qB c9)<|PD.pb<|fY (b8 3) R8<|F6<|qB c9)))
 replace h:=P6 h;obtain⟨a,b,c,j,rfl,h⟩:=h;replace h:=bU h;obtain⟨Y,j,rfl,h⟩:=h;replace h:=G7 h;obtain⟨rfl,h⟩:=h
 skip
 split at h
 .rename_i J o;rw[n9 o];split at h
  .rename_i p;rw[<-h];obtain⟨m,e⟩:=p;have q:(.tup [.int a,.int b,.int c]:D)=vd ⟨a,b,c⟩:=rfl;rw[q];generalize(⟨a,b,c⟩:G.V)=n at*
   have r:=YW m e;have s:aU 1000 J.reverse:=e.sub (λP t=>by simpa using t) (by simp);have l2:=YW m s;rw[aFA (l:=J)]at l2;have C:=fC n J;have u:=fC n J.reverse;rw[aBU]at u;have v:lW (.lst ((G.w6 n J).reverse.map vd).dropLast) (.lst ((G.w6 n J.reverse).reverse.map vd).dropLast)=.ok (.lst ((G.j0 n J).map vd)):=by rw[IR (by simp only[aEu,aAh,aBU];exact aAr (show _<=2000 by have:=e.2;lia) (by decide))];unfold G.j0;rw[aBh,List.map_dropLast,List.map_dropLast]
   simp[-aFA,j6,r,l2,YG,v,a2e]
  cases h
 cases h
def K6(j:mg "list"=none)(a:mg "zip"=none)(g:fM K mg "pairs_round" Z3):z8 P w K mg base 1 "pairs_round" 1 aF:=by
 refine' p9 (k:=0) (F:=_) g qN (λl m n o=>?b) λf d p h=>?_
 case b=>refine' (e9<|j3<|PF.pd<|EI (b8 0) (PD.pb<|b9 m6 (PD.pb<|fY (b8 0) (F6 c9) R8)<|PD.pb<|fY (b8 0) R8<|F6 c9) rfl)
 match f,h with
 |[.lst Y],h=>
  simp only[aF]at h;split at h
  .rename_i q;rw[<-h];have i:lW (.lst Y.tail) (.lst (Y.take 1))=.ok (.lst (Y.tail++Y.take 1)):=IR (by simp only[List.length_tail,aBS];exact RY (by lia));have e:YO [.lst Y,.lst (Y.tail++Y.take 1)]=.ok (L5 Y<|Y.tail++Y.take 1):=h9 (by
    simp only[aAz,List.length_tail,aBS]
    lia)
   simp[j6,XY,uz,i,e]
  cases h
def bK(K9:z8 P w K mg base 3 "plane_about" 2 G1)(aM:z8 P w K mg base 4 "ring_of" 2 J7)(K6:z8 P w K mg base 1 "pairs_round" 1 C5)(B:mg "len"=none)(I:mg "sorted"=none)(g:fM K mg "faces_from" cC):VN P w K mg base 8 3 "faces_from" J5:=by
 obtain⟨f,L,q,l⟩:=g;refine' WY (k:=7) (F:=_) l gC rfl (l.binds λ_ _ _ _ _ _ r t=>match r,t with|[_,_,_],_=>rfl) q (λC A e s H E a=>?hb) ?hm
 case hb=>
  have N:=a.units;have n:=a.ad9;have i:=a.ae2 (by decide);have b:=gC.nd;refine' (c7 (Y3 3 (dZ m8) b)
   (c7 (QG 4 b)
   (c7 (Y3 5 (dZ<|f9 (d5 0) m8) b)
   (c7 (lK (λ_=>5000) aBx (l3 IA (PD.pb<|NQ mE<|b8 5) n4) (c7 (EY 6 5 b)
   (e9 (B5 (JV 4 (d5 6) n) (c7 (i7 7 (fI K9 a (d5 6) (zU 1 (k:=3) (Φ:=MG P w K mg base 3 1) rfl (f9 (i8 (b8 6) c9) m8) (v8 O6) (a.mono (by decide)))) b)
   (c7 (i7 8 (fI aM a (fY (b8 7) R8<|F6 c9) (zU 2 (k:=3) (Φ:=MG P w K mg base 3 1) rfl (f9 (d5 7) m8) (v8 O6) (a.mono (by decide)))) b)
   (c7 (P7 3<|xW (d5 7)<|d5 8)
   (e9 (M5 aBx rfl (t7<|BU K6 a<|d5 8) (n6 9 b) (c7 (FQ 4 qQ (d5 9) n)
   (e9<|P7 5<|xW (i8 (b8 9) c9)<|i8 (b8 9) c9))))))) t5))))
   (e9<|j3<|PF.pd<|EF (b8 3) rfl i)))))
 case hm=>
  intro d O Q T h;simp only[J5]at h;split at h
  .rename_i Y u;split at h
   .rename_i m J v;split at h
    .rename_i j;rw[<-h];obtain⟨j,x,y,o,p⟩:=j;rw[n9 v]at o p;subst y o p;have z:(1:Nat)<=sizeLine:=by decide
     simp only[lO,W6,J4,O5,R.aa0,aAp,aBn,aFO,z,if_true,C8];exact a1t (Φ:=MG P w K mg base 3 1) j x
    cases h
   cases h
  cases h
def uQ:Nst:=⟨"about",FR,E6 dQ,q8 dQ,c6 dQ,IM dQ,["corner"],[],["spread"],[1],(λρ=>(eN 1 ρ).bind λd=>.ok (.rt d)),K8,2⟩
def cN:Nst:=⟨"touched_by",iM,E6 L0,q8 L0,c6 L0,IM L0,["plane"],[],["spread"],[1],(λρ=>((m5 (eN 0) (m5 (eN 1) R6) ρ).bind A1).bind λd=>.ok (.rt d)),E9,3⟩
def MB{f:bc}{C:au}{A:cf}{a:List Env}{s:ba}{H:Hp}{E:XK}:NstOk (UH P w K mg base gS "faces_of" (c6 L6) f C A a s H E) 2 uQ where
 sc:=⟨rfl,rfl,rfl,by decide+kernel,by decide+kernel,by decide+kernel,λx h=>GP h,by decide+kernel⟩
 one:=rfl
 body:=λt k e A a s H l=>by have u:=l.units;exact(e9<|j3<|d5 1)
 mm:=by
  intro m n d b g h;match m,n,b,g,h with
  |[_],[_],_,_,h=>cases h;rfl
 bind:=λe o v k p q r=>match q,r with|[_],_=>rfl
 len:=rfl
 at_:=λi j x b g=>match i,b,g with
  |0,b,g=>by obtain rfl:1=j:=Option.some.inj b;obtain rfl:("spread":Str)=x:=Option.some.inj g;exact⟨rfl,rfl⟩
  |i+1,b,_=>nomatch(show(none:Option Nat)=some j from b)
 d0:=rfl
 k0:=rfl
 nm:=rfl
 lc:=.inl rfl
 st:=.inl rfl
 dbg:=by decide
 cdt:=by decide
def rO(J2:z8 P w K mg base 2 "points_on" 2 A1){f:bc}{C:au}{A:cf}{a:List Env}{s:ba}{H:Hp}{E:XK}:NstOk (UH P w K mg base gS "faces_of" (c6 L6) f C A a s H E) 2 cN where
 sc:=⟨rfl,rfl,rfl,by decide+kernel,by decide+kernel,by decide+kernel,λx h=>GP h,by decide+kernel⟩
 one:=rfl
 body:=λy m g A a s H l=>by have z:=l.units;exact(e9<|j3<|fI J2 l (d5 0)<|d5 1)
 mm:=by
  intro n o d b k h;match n,o,b,k,h with
  |[w],[p],_,_,h=>have h:A1 [p,w]=.ok d:=h;show P3 (((m5 (eN 0) (m5 (eN 1) R6) [.v p,.v w]).bind A1).bind λd=>.ok (.rt d))=.ok d;have e:m5 (eN 0) (m5 (eN 1) R6) [.v p,.v w]=.ok [p,w]:=rfl;rw[e,R.aa0,h];rfl
 bind:=λg q B m r t u=>match t,u with|[_],_=>rfl
 len:=rfl
 at_:=λi j x b k=>match i,b,k with
  |0,b,k=>by obtain rfl:1=j:=Option.some.inj b;obtain rfl:("spread":Str)=x:=Option.some.inj k;exact⟨rfl,rfl⟩
  |i+1,b,_=>nomatch(show(none:Option Nat)=some j from b)
 d0:=rfl
 k0:=rfl
 nm:=rfl
 lc:=.inl rfl
 st:=.inl rfl
 dbg:=by decide
 cdt:=by decide
def X3{t:bc}(J2:z8 P w K mg base 2 "points_on" 2 A1)(Z6:z8 P w K mg base 3 "refuse_flat" 1 F9)(bA:z8 P w K mg base 8 "first_pair" 1 J6)(bK:VN P w K mg base 8 3 "faces_from" J5)(bh:mg "sorted"=none)(mi:mg "set"=none)(Q:iS mg base)(i:(t,tbK)∈Tabs.tbs)(g:a2s K mg "faces_of" L6 t):z8 P w K mg base 9 "faces_of" 1 Q4:=by
 obtain⟨f,fd,cd,T,U,u⟩:=g;refine' WN (k:=8) (F:=_) u mY (u.fn.binds λ_ _ _ _ _ _ us y=>match us,y with|[_],_=>rfl) T (λA j s H E a=>?hb) ?hm
 case hb=>
  have hu:=a.units;have dh:=a.ad9;have l:=a.ae2 (by decide);have z:=mY.nd;refine' (c7 (ML<|BU Z6 a<|d5 0)
   (c7 (i7 1 (PF.pd<|bP (b8 0) rfl l) z)
   (CZ (n1:=uQ) (n2:=cN) (clos1:=[("spread",s.heap.objs.size+1)]) (clos2:=[("spread",s.heap.objs.size+1)]) (tb:=tbK) MB (rO J2) ?co1 ?co2 ?hA Q rfl U i (by decide+kernel) (by decide+kernel) (by decide+kernel) (by decide+kernel) (by decide) z bK (a.mono (by decide)) (BU bA a<|d5 1) (λ_=>rfl))))
  case co1=>exact⟨rfl,rfl,rfl,λx c h=>h,λx o=>⟨_,by obtain rfl:x= "spread":=aAJ.mp o;rfl⟩⟩
  case co2=>exact⟨rfl,rfl,rfl,λx c h=>h,λx o=>⟨_,by obtain rfl:x= "spread":=aAJ.mp o;rfl⟩⟩
  case hA=>exact JL
 case hm=>
  intro p d y h;match p,h with
  |[.lst Y],h=>
   simp only[Q4]at h;split at h
   .rename_i J hw;rw[n9 hw];split at h
    .rename_i hz;rw[<-h];obtain⟨B,C,I⟩:=hz;obtain⟨m,r,e,L⟩:=bS B C (by lia);have q:=PP (J:=J) (by lia);have fl:=WD (B.mono (n:=1000)) C;rw[e]at I q⊢;have N:=a1u L;have O:=fx L I;obtain⟨b,eL⟩:∃b,(m::r).map vd=b:=⟨_,rfl⟩;rw[eL]at q N O;show P3 (D6 ((F9 [D.lst (J.map vd)]).bind λ_=>R.ok (Out.nx [.v (.lst (J.map vd)),.no,.no,.no])) _)=_;rw[fl,R.aa0,C8];show P3 (D6 (((ssR<|.lst (J.map vd)).bind λp=>R.ok (D.lst p)).bind λd=>R.ok (Out.nx [.v (.lst (J.map vd)),.v d,.no,.no])) _)=_;rw[q,R.aa0,R.aa0,C8];show P3 (((J6 [D.lst b]).bind λd1=>(R.ok [D.lst b]).bind λw1=>(R.ok [D.lst b]).bind λw2=>J5 d1 (K8 w1) (E9 w2)).bind λd=>R.ok (Out.rt d))=_;rw[N,R.aa0,R.aa0,R.aa0,O];rfl
    cases h
   cases h
def aD(r:mg "sorted"=none)(s:mg "set"=none)(g:fM K mg "corners_in" cD):iA P w K mg base 8 "corners_in" 1 J9:=by
 refine' iW (k:=7) (F:=_) g sK (λl t u f=>?b) λm d x h=>?_
 case b=>
  have i:=l.ae2 (by decide);refine' (A4 (Y3 1 (dZ m8) f)
   (A4 (M5 aBx rfl (t7<|d5 0) (jD (n:=2) rfl<|B8 (n6 2 f)<|B8 (n6 3 f) cU)<|e9<|DE 1<|d5 3)
   (S8<|bP (b8 1) rfl i)))
 match m,h with
 |[.lst Y],h=>
  simp only[J9]at h;split at h
  .rename_i o p;split at h
   .rename_i j;rw[<-h];obtain⟨y,z,e⟩:=mG (a:=Sl.v (D.lst Y)) Y o [] Sl.no Sl.no p (by simpa using j.1);rw[aCG,aBO]at e;have q:=PP j.2;simp[j6,-List.map_flatten,e,q]
   cases h
  cases h
def gM(X3:z8 P w K mg base 9 "faces_of" 1 Q4)(aD:iA P w K mg base 8 "corners_in" 1 J9)(g:fM K mg "body_of" lU):iA P w K mg base 10 "body_of" 1 V9:=by
 refine' iW (k:=9) (F:=_) g EG (λf s t u=>?b) λl d v h=>?_
 case b=>refine' (S8 (FI aD (f.mono (by decide)) (f9 (BU X3 f<|d5 0) m8)<|v8 O6))
 match l,h with
 |[.lst Y],h=>
  simp only[V9]at h;split at h
  .rename_i J n;rw[n9 n];split at h
   .rename_i o;rw[<-h];obtain⟨i,j,a⟩:=o;obtain⟨m,r,e,L⟩:=bS i j (by lia);have p:=AU i j a;have x:((j4<|i4 J).flatMap (G.c8<|i4 J)).length<=200/\(i4<|(j4<|i4 J).flatMap (G.c8<|i4 J)).length<=23:=by rw[e]at a⊢;exact uK L a
    have q:=DN (J:=i4 J) (fs:=j4 (i4 J)) (by lia) (by lia);simp[j6,p,q,B0]
   cases h
  cases h
end
section
variable [Tabs]
variable{P:bM}{w:cp}{K:ix}{mg:cM}{base:cq}
variable{jf xu kl qd:bc}
def kJ(gP:z8 P w K mg base 1 "is_whole" 1 X8)(g:fM K mg "is_axis" kK):z8 P w K mg base 2 "is_axis" 1 eV:=by
 refine' p9 (k:=1) (F:=_) g CC (λa f i j=>?b) λe d l h=>?_
 case b=>refine' (e9<|j3<|SR (BU gP a<|d5 0)<|TY<|MP 0)
 match e,h with
 |[x],h=>rw[<-h];cases x<;>simp[j6,X8,QP,eV,axB,chR]
def wY(kJ:z8 P w K mg base 2 "is_axis" 1 eV)(aM:z8 P w K mg base 4 "ring_of" 2 J7)(Q:mg "sorted"=none)(T:mg "set"=none)(p:DV K mg "UPWARD" [0,0,1])(g:fM K mg "shadow_of" R5):iA P w K mg base 8 "shadow_of" 2 W8:=by
 refine' iW (k:=7) (F:=_) g wM (λl U dh q=>?b) λr d hl h=>?_
 case b=>
  have m:=l.ae2 (by decide);refine' (A4 (B5 (FT<|vT<|BU kJ l<|d5 1) (e9 fK) t5)
   (A4 (jN 2 ["P"] ["axis"] [1] q rfl (J0 (sc:=c6 R5) (N:=cO)) (t7<|d5 0) (CI λ_ _ _ _ _=>(b9 m6 (PD.pb<|b9 m6 (PD.pb<|fY (b8 0) R8<|F6<|d5 1)<|PD.pb<|fY (b8 0) (F6<|b9 m6 (b8 1) n4) R8)<|PD.pb<|rH<|f9 c9 m8))<|λ_=>o9)
   (S8<|xR ["P"] [] [] rfl (J0 (sc:=c6 R5) (N:=cO)) (t7<|fI aM l (nR p)<|PF.pd<|bP (b8 2) rfl m) (CI λ_ _ _ _ _=>(fY (b8 0) R8<|F6 c9))<|λ_=>o9)))
 match r,h with
 |[.lst Y,.int a],h=>
  simp only[W8]at h;split at h
  .rename_i J s;rw[n9 s];split at h
   .rename_i t;rw[<-h];obtain⟨⟨u,A⟩,j⟩:=t;have B:eV [.int a]=.ok (.bl true):=by show R.ok (D.bl<|decide (0<=a)&&decide (a<=2))=_;rw[decide_eq_true u,decide_eq_true A];rfl
    have e:∀f:Ev->R D,(∀P:G.V,f [.v (vd P),.v (.int a)]=.ok (vd<|C3 a P))->o8 (λd ρ=>R.ok (aDC ρ 0<|Sl.v d)) (λ_=>R.ok true) f [.no,.v (.int a)] (J.map vd)=.ok ((J.map<|C3 a).map vd):=λf i=>by rw[J8 vd (λP=>vd (C3 a P)) J λP _=>⟨_,rfl,i P⟩,aBd];rfl
    have C:=PP (J:=J.map (C3 a)) (aAr (BX (a:=a) j).2 (by decide));have o:=HN (n:=⟨0,0,1⟩) ⟨by decide,by decide,by decide⟩ (BX (a:=a) j).1;have o:J7 [.tup [.int 0,.int 0,.int 1],.lst ((i4<|J.map<|C3 a).map vd)]=.ok (.lst ((v9 a J).map vd)):=o;have l2:=(rA (a:=a) j).2;have E:∀f:Ev->R D,(∀v:G.V,f [.v (vd v)]=.ok (G9 v))->o8 (λd ρ=>R.ok (aDC ρ 0<|Sl.v d)) (λ_=>R.ok true) f [.no] ((v9 a J).map vd)=.ok ((v9 a J).map G9):=λf i=>J8 vd G9 _ λv _=>⟨_,rfl,i v⟩;have H:(J.map vd).length<=sizeLine:=by rw[aAh];exact small (by have:=j.2;lia)
    have I:((v9 a J).map vd).length<=sizeLine:=by rw[aAh];exact small (by lia)
    simp only[j6,aAk,aCG,aAO,aBO,aAp,aBn,aDh,aDi,aBV,aBW];refine M7 (ρ:=[.v (.lst (J.map vd)),.v (.int a),.no]) (by simp[B]) ?_;refine M7 (ρ:=[.v (.lst (J.map vd)),.v (.int a),.v (.lst ((J.map<|C3 a).map vd))]) ?_ ?_
    .have c0:∀x y z:D,wJ (.tup [x,y,z]) none (some 0)=.ok (.tup [])/\wJ (.tup [x,y,z]) (some 1) none=.ok (.tup [y,z])/\wJ (.tup [x,y,z]) none (some 1)=.ok (.tup [x])/\wJ (.tup [x,y,z]) (some 2) none=.ok (.tup [z])/\wJ (.tup [x,y,z]) none (some 2)=.ok (.tup [x,y])/\wJ (.tup [x,y,z]) (some 3) none=.ok (.tup []):=λ_ _ _=>⟨rfl,rfl,rfl,rfl,rfl,rfl⟩;have L:∀x y:D,lW (.tup []) (.tup [x,y])=.ok (.tup [x,y])/\lW (.tup [x]) (.tup [y])=.ok (.tup [x,y])/\lW (.tup [x,y]) (.tup [])=.ok (.tup [x,y]):=λ_ _=>⟨rfl,rfl,rfl⟩;have O:∀x y z:D,lW (.tup [x,y]) (.tup [z])=.ok (.tup [x,y,z]):=λ_ _ _=>rfl;simp only[aN,W6,R.aa0,fO,h9 H];rw[show i5 ["P"] [1] [.v (.lst (J.map vd)),.v (.int a),.no]=[.no,.v (.int a)]from rfl];rw[e _ λP=>?_]
     .rfl
     rcases(show a=0\/a=1\/a=2 by lia)with rfl|rfl|rfl<;>simp[c0,L,O,C3,mF,sizeLine]
    simp only[aN,W6,cF,cV,R.aa0,C,J4,O5,W9,o,fO,h9 I];rw[show i5 ["P"] [] [.v (.lst (J.map vd)),.v (.int a),.v (.lst ((J.map<|C3 a).map vd))]=[.no]from rfl];rw[E _ λv=>rfl];rfl
   cases h
  cases h
def L3(K6:z8 P w K mg base 1 "pairs_round" 1 aF)(p:z8 P w K mg base 8 "shadow_of" 2 W8)(ml:mg "sum"=none)(g:fM K mg "shadow_area" R1):z8 P w K mg base 9 "shadow_area" 2 lL:=by
 refine' p9 (k:=8) (F:=_) g oU (λj hu dh nd=>?b) λq d hl h=>?_
 case b=>refine' (e9 (j3 (NQ (EX rfl) (PD.pb (Q9 ["P", "Q"] [] [] rfl (J0 (sc:=c6 R1) (N:=fW)) (t7<|BU K6 j<|fI p j (d5 0)<|d5 1) (by rintro l fp X2 ⟨s0,H1,C,rfl⟩;exact⟨(jD (n:=2) rfl (B8 (n6 0 (show(["P", "Q"]:List Str).Nodup by decide+kernel)) (B8 (n6 1 (show(["P", "Q"]:List Str).Nodup by decide+kernel)) cU))),GA,(b9 t6 (PD.pb<|b9 l6 (PD.pb<|i8 (b8 0) c9)<|PD.pb<|i8 (b8 1) c9)<|PD.pb<|b9 l6 (PD.pb<|i8 (b8 0) c9)<|PD.pb<|i8 (b8 1) c9)⟩)<|λ_=>TN)))))
 match q,h with
 |[.lst Y,.int a],h=>
  simp only[lL]at h;split at h
  .rename_i J s;rw[n9 s];split at h
   .rename_i t;rw[<-h];obtain⟨u,m⟩:=t;have z:=tM u m;obtain⟨f,rl⟩:=rA (a:=a) m;generalize v9 a J=r at*
    have A:aF [.lst (r.map G9)]=.ok (.lst (L5 (r.map G9)<|(r.tail++r.take 1).map G9)):=by rw[aBh,aGt,aGu];exact h9 (by rw[aAh];lia)
    have B:=λ(E:D->Ev->R Ev) (H:Ev->R D) (ρ:Ev) (h:∀P∈r,∀Q∈r.tail++r.take 1,∃e,E (.tup [G9 P,G9 Q]) ρ=.ok e/\H e=.ok (.int (rQ P Q)))=>tV r (r.tail++r.take 1) h;have I:(L5 (r.map G9)<|(r.tail++r.take 1).map G9).length<=sizeLine:=by unfold L5;rw[List.length_zipWith,aAh];exact small (aAr (Nat.min_le_left _ _) (by lia))
    simp only[j6,aAk,aCG,aAO,aBO,aAp,aBn,aDh,aDi,aBV,aBW,J4,O5,aN,W6,R.aa0,z,A,fO,h9 I];rw[show i5 ["P", "Q"] [] _=[.no,.no]from rfl];rw[B _ _ _ λP O Q T=>⟨[.v (G9 P),.v (G9 Q)],rfl,?_⟩]
    .have U:=aR (aCT rQ r<|r.tail++r.take 1);generalize(aCT rQ r<|r.tail++r.take 1).map D.int=L at*
     simp[OQ,U,D2]
    have sQ:Sz 1000 Q:=by
     rcases aAD.mp T with h|h
     .exact f Q (List.mem_of_mem_tail h)
     exact f Q (aDE h)
    have o:=f P O;have q1:=l8 (A3.of o.1 sQ.2.1);have q2:=l8 (A3.of o.2.1 sQ.1);have i:∀v:G.V,X6 (G9 v) (.int 0)=.ok (.int v.x)/\X6 (G9 v) (.int 1)=.ok (.int v.y):=λv=>⟨rfl,rfl⟩;simp[i,q1,q2,rQ]
   cases h
  cases h
end
section
variable [Tabs]
variable{P:bM}{w:cp}{K:ix}{mg:cM}{base:cq}
variable{jf xu kl qd:bc}
def C9(m:mg "len"=none)(g:fM K mg "_law_cell_at" X1):z8 P w K mg base 1 "_law_cell_at" 2 G2:=by
 refine' p9 (k:=0) (F:=_) g nC (λn o p q=>?b) λf d r h=>?_
 case b=>
  refine' (c7 (B5 (l3 tN (b8 1)<|PD.pb<|NQ mE<|b8 0) (e9<|j3<|i8 (b8 0)<|d5 1) t5)
   (e9<|j3 c9))
 match f,h with
 |[.lst Y,.int k],h=>
  simp only[G2]at h;split at h
  .rename_i i;obtain⟨j,s⟩:=i;rw[<-h];by_cases a:k<Y.length
   .have e:Y[k.toNat]?=some Y[k.toNat]:=aAi (by lia);have l:oG Y k=some Y[k.toNat]:=by rw[Y8 j,e]
    simp[j6,a,cH l,yG,e]
   have e:Y[k.toNat]?=none:=aCo.mpr (by lia);simp[j6,a,yG,e]
  cases h
def bB(g:fM K mg "_law_great" bY):z8 P w K mg base 1 "_law_great" 1 iP:=by
 refine' p9 (k:=0) (F:=_) g sM (λj l m a=>?b) λe d n h=>?_
 case b=>
  refine' (c7 (i7 1 (b9 m6 (PD.pb<|b9 l6 n4<|PD.pb<|b9 G6 n4 n4) n4) a)
   (c7 (i7 2 (b9 t6 (PD.pb<|b9 t4 (PD.pb<|b9 m6 (PD.pb<|b9 l6 (b8 0) n4)<|PD.pb<|b9 G6 n4 n4)<|b8 1)<|PD.pb<|b9 G6 n4 n4) a)
   (c7 (i7 3 (b9 t6 (PD.pb<|b9 t4 (PD.pb<|b9 m6 (PD.pb<|b9 l6 (PD.pb<|b9 l6 (b8 0)<|b8 0) n4)<|PD.pb<|b9 G6 n4 n4)<|b8 1)<|PD.pb<|b9 G6 n4 n4) a)
   (e9<|j3<|oM (d5 2) (d5 3)<|b9 t6 (PD.pb<|b9 t4 (PD.pb<|b9 m6 (PD.pb<|b9 l6 (PD.pb<|b9 l6 (b8 0)<|b8 0)<|b8 0)<|PD.pb<|b9 G6 n4 n4)<|b8 1)<|PD.pb<|b9 G6 n4 n4))))
 match e,h with
 |[.int c],h=>
  simp only[iP]at h;split at h
  .rename_i f;rw[<-h]
   haveI:Bd c 2000000:=⟨f⟩
   have i:xJ (.int 10) (.int 12)=.ok (.int 1000000000000):=rfl;have o:(2000000000000:Int)+1=2000000000001:=rfl;simp[j6,i,N9,aP,qR,VE,yx]
  cases h
def aV(C9:z8 P w K mg base 1 "_law_cell_at" 2 G2)(bB:z8 P w K mg base 1 "_law_great" 1 iP)(cb:mg "range"=none)(g:fM K mg "_law_near" D7):iA P w K mg base 2 "_law_near" 1 nT:=by
 refine' iW (k:=1) (F:=_) g vW (λq l dh f=>?b) λds d m h=>?_
 case b=>
  refine' (A4 (i7 1 (fI C9 q (d5 0) c9) f)
   (A4 (i7 2 (b9 m6 n4<|PD.pb<|b9 t4 (PD.pb<|b9 u3 (b8 1) n4) n4) f)
   (A4 (i7 3 (b9 m6 n4<|PD.pb<|b9 t4 (PD.pb<|b9 u3 (b8 1) n4) n4) f)
   (A4 (i7 4 (b9 m6 n4<|PD.pb<|b9 t4 (PD.pb<|b9 u3 (b8 1) n4) n4) f)
   (A4 (B5 (l3 (U1 l) (PD.pb<|b9 t4 (PD.pb<|b9 u3 (b8 1) n4) n4) n4) (e9<|HP (oM (b9 m6 (PD.pb<|b9 l6 (b8 2)<|PD.pb<|b9 G6 n4 n4) n4) (b9 m6 (PD.pb<|b9 l6 (b8 3)<|PD.pb<|b9 G6 n4 n4) n4)<|b9 m6 (PD.pb<|b9 l6 (b8 4)<|PD.pb<|b9 G6 n4 n4) n4)<|jD (n:=3) rfl<|B8 (n6 2 f)<|B8 (n6 3 f)<|B8 (n6 4 f) cU) t5)
   (A4 (i7 5 (b9 t4 (b8 1) n4) f)
   (jM (l3 (U1 l) (b8 5) n4) (S8<|xR ["k"] ["a", "b", "c"] [2,3,4] rfl (J0 (sc:=c6 D7) (N:=M0)) (V5<|u5 n4 E8) (CI λ_ _ _ _ _=>(oM (b9 l6 (PD.pb<|b9 t4 (b8 0) n4)<|b8 1) (b9 l6 (PD.pb<|b9 t4 (PD.pb<|b9 u3 (b8 0) n4) n4)<|b8 2)<|b9 l6 (PD.pb<|b9 u3 (b8 0) n4)<|b8 3))<|λ_=>o9)
   (jM (l3 (U1 l) (b8 5) n4) (S8<|dZ<|f9 (oM (d5 2) c9 c9)<|f9 (oM (b9 t6 n4<|b8 3) c9 c9)<|f9 (oM c9 (d5 3) c9)<|f9 (oM c9 (b9 t6 n4<|b8 4) c9)<|f9 (oM c9 c9<|d5 4)<|f9 (oM c9 c9<|b9 t6 n4<|b8 2) m8)
   (jM (l3 (U1 l) (b8 5) n4) (A4 (Y3 6 (dZ<|f9 (xW c9 c9)<|f9 (xW (d5 2) c9)<|f9 (xW c9<|d5 3) m8) f)
   (PM 6<|S8<|UD (PD.pb<|Q9 ["spot"] [] [] rfl (J0 (sc:=c6 D7) (N:=M0)) (t7<|d5 6) (CI λ_ _ _ _ _=>(b9 m6 (b8 0)<|PD.pb<|rH<|f9 c9 m8))<|λ_=>o9)<|PD.pb<|Q9 ["spot"] ["c", "a", "b"] [4,2,3] rfl (J0 (sc:=c6 D7) (N:=M0)) (t7<|d5 6) (CI λ_ _ _ _ _=>(oM (b9 m6 (PD.pb<|i8 (b8 0) c9)<|b8 1) (i8 (b8 0) c9)<|b9 m6 (b8 2)<|b8 3))<|λ_=>o9))
   (jM (ER.pt<|xO (l3 (U1 l) (b8 5) n4)<|pR<|l3 (U1 l) (PD.pb<|b9 t4 (PD.pb<|b9 u3 (b8 1) n4) n4) n4) (S8<|xR ["k"] [] [] rfl (J0 (sc:=c6 D7) (N:=M0)) (V5<|u5 (PD.pb<|b9 m6 n4<|PD.pb<|b9 l6 n4<|PD.pb<|b9 t4 (PD.pb<|b9 u3 (b8 1) n4) n4) E8) (CI λ_ _ _ _ _=>(oM (b9 t4 (b8 0) n4) (b9 u3 (b8 0) n4)<|b9 m6 (PD.pb<|b9 l6 (PD.pb<|b9 t4 (b8 0) n4)<|PD.pb<|b9 t4 (b8 0) n4)<|PD.pb<|b9 l6 (PD.pb<|b9 u3 (b8 0) n4)<|PD.pb<|b9 u3 (b8 0) n4))<|λ_=>o9)
   (jM (l3 (U1 l) (b8 5) n4) (S8<|UD (PD.pb<|Q9 ["k"] [] [] rfl (J0 (sc:=c6 D7) (N:=M0)) (V5<|u5 (PD.pb<|b9 m6 n4<|PD.pb<|b9 t4 (PD.pb<|b9 u3 (b8 1) n4) n4) E8) (CI λ_ _ _ _ _=>(oM (d5 0) (b9 l6 (b8 0)<|b8 0) c9))<|λ_=>o9)<|PD.pb<|xM<|f9 (oM (d5 2) (d5 3)<|d5 4) m8)
   (A4 (Y3 6 (dZ<|f9 (oM c9 c9 c9)<|f9 (oM (d5 2) c9 c9)<|f9 (oM c9 (d5 3) c9)<|f9 (oM c9 c9<|d5 4) m8) f)
   (A4 (M5 aBx rfl (t7<|fY (b8 0) (F6 c9)<|F6 c9) (n6 1 f)<|e9<|B5 (ER.pt<|mC (l3 (U1 l) (b8 5) n4)<|oN<|ER.pt<|xO (l3 (U1 l) (b8 5) n4)<|pR<|l3 (U1 l) (PD.pb<|b9 t4 (b8 1) n4) n4) (e9<|P7 6<|BU bB q<|b9 u3 (b8 1) n4)<|e9<|P7 6<|oM (b9 t6 (PD.pb<|b9 t4 (b8 1) n4) n4) (b9 t6 (PD.pb<|b9 t4 (PD.pb<|b9 u3 (b8 1) n4) n4) n4)<|b9 t6 (PD.pb<|b9 t4 (PD.pb<|b9 u3 (b8 1) n4) n4) n4)
   (TJ 6))))))))))))))
 replace h:=bU h;obtain⟨Y,ds,rfl,h⟩:=h;replace h:=G7 h;obtain⟨rfl,h⟩:=h;replace h:=wZ h;obtain⟨hi,rfl⟩:=h;obtain⟨e0,hb⟩:=SY hi 0 (by decide);have e0:G2 [.lst Y,.int 0]=.ok (.int (cI Y 0)):=e0;generalize cI Y 0=c at*
 have hp:=oJ c;have p6:xJ (.int 10) (.int 6)=.ok (.int 1000000):=rfl;have p7:xJ (.int 10) (.int 7)=.ok (.int 10000000):=rfl;have p8:xJ (.int 10) (.int 8)=.ok (.int 100000000):=rfl;have E:S9 (.int c) (.int 7)=.ok (.int (c.fdiv 7)):=A5 (by decide) (by decide);have d14:S9 (.int c) (.int 14)=.ok (.int (c.fdiv 14)):=A5 (by decide) (by decide);have d42:S9 (.int c) (.int 42)=.ok (.int (c.fdiv 42)):=A5 (by decide) (by decide);have H:S9 (.int c) (.int 126)=.ok (.int (c.fdiv 126)):=A5 (by decide) (by decide);have r:S9 (.int c) (.int 378)=.ok (.int (c.fdiv 378)):=A5 (by decide) (by decide);have A:∀(x:Int) {k:Int},0<k->oR (.int x) (.int k)=.ok (.int (x.fmod k)):=λx k t=>aP t;have m3:=λx=>A x (show(0:Int)<3 by decide);have u:=λx=>A x (show(0:Int)<2 by decide);have m7:=λx=>A x (show(0:Int)<7 by decide);have m16:=λx=>A x (show(0:Int)<16 by decide);have m4:=λx=>A x (show(0:Int)<4 by decide);have d6:S9 (.int c) (.int 6048)=.ok (.int (c.fdiv 6048)):=A5 (by decide) (by decide);clear A;unfold cG rF;simp only[j6,aAk,aCG,aAO,aBO,aAp,aBn,aDh,aDi,aBV,aBW];refine M7 (ρ:=[.v (.lst Y),.v (.int c),.no,.no,.no,.no,.no]) (by simp[e0]) ?_;refine M7 (ρ:=[.v (.lst Y),.v (.int c),.v (.int (1+(c.fdiv 14).fmod 3)),.no,.no,.no,.no]) (by simp[d14,m3]) ?_;refine M7 (ρ:=[.v (.lst Y),.v (.int c),.v (.int (1+(c.fdiv 14).fmod 3)),.v (.int (1+(c.fdiv 42).fmod 3)),.no,.no,.no]) (by simp[d42,m3]) ?_;refine M7 (ρ:=[.v (.lst Y),.v (.int c),.v (.int (1+(c.fdiv 14).fmod 3)),.v (.int (1+(c.fdiv 42).fmod 3)),.v (.int (1+(c.fdiv 126).fmod 3)),.no,.no]) (by simp[H,m3]) ?_;refine M7 (ρ:=[.v (.lst Y),.v (.int c),.v (.int (U0 c).1),.v (.int (U0 c).2.1),.v (.int (U0 c).2.2),.no,.no]) ?_ ?_
 .have f1:=C4 (a:=c.fdiv 14) (b:=3) (by decide);have f2:=C4 (a:=c.fdiv 42) (b:=3) (by decide);have f3:=C4 (a:=c.fdiv 126) (b:=3) (by decide);unfold U0
  haveI:Bd (1+(c.fdiv 14).fmod 3) 10:=⟨j9 (by lia) (by lia)⟩
  haveI:Bd (1+(c.fdiv 42).fmod 3) 10:=⟨j9 (by lia) (by lia)⟩
  haveI:Bd (1+(c.fdiv 126).fmod 3) 10:=⟨j9 (by lia) (by lia)⟩
  by_cases hq:(c.fdiv 7).fmod 2=1
  .generalize 1+(c.fdiv 14).fmod 3=a at*
   generalize 1+(c.fdiv 42).fmod 3=b at*
   generalize 1+(c.fdiv 126).fmod 3=e at*
   simp[E,u,hq,p6,p7,p8,N9,QK,fV,Q5,mL]
  simp[E,u,hq]
 generalize(U0 c).1=a at*
 generalize(U0 c).2.1=b at*
 generalize(U0 c).2.2=e at*
 obtain⟨⟨a0,a1⟩,⟨b0,b1⟩,⟨c0,c1⟩⟩:=hp
 haveI Ba:Bd a 40:=⟨j9 (by lia) (by lia)⟩
 haveI Bb:Bd b 40:=⟨j9 (by lia) (by lia)⟩
 haveI Be:Bd e 40:=⟨j9 (by lia) (by lia)⟩
 refine M7 (ρ:=[.v (.lst Y),.v (.int c),.v (.int a),.v (.int b),.v (.int e),.v (.int (c.fmod 7)),.no]) (by simp[m7]) ?_;by_cases I:c.fmod 7=0
 .rw[h9 I];refine jA (by simp[I]) ?_;have q:gG [.int 8]=.ok ((aBc 8).map λ(k:Nat)=>D.int (k:Int)):=UZ (n:=8) (by decide);have m:((aBc 8).map λ(k:Nat)=>D.int (k:Int)).length<=sizeLine:=by rw[aAh,aCK];decide
  have eb:(KE a b e).map vd=(aBc 8).map λ(k:Nat)=>vd ⟨(k:Int).fmod 2*a,((k:Int).fdiv 2).fmod 2*b,(k:Int).fdiv 4*e⟩:=aBd ..;rw[eb];simp only[I,cF,cV,R.aa0,W9,vG,tZ,beq_self_eq_true,if_true,J4,O5,q];rw[AY m (J8 (λ(k:Nat)=>D.int (k:Int)) (λ(k:Nat)=>vd ⟨(k:Int).fmod 2*a,((k:Int).fdiv 2).fmod 2*b,(k:Int).fdiv 4*e⟩) (aBc 8) λk t=>⟨[.v (.int (k:Int)),.v (.int a),.v (.int b),.v (.int e)],rfl,?_⟩)]
  .rfl
  have J:=aBa.mp t;have d2:S9 (.int (k:Int)) (.int 2)=.ok (.int ((k:Int).fdiv 2)):=A5 (by decide) (by decide);have d4:S9 (.int (k:Int)) (.int 4)=.ok (.int ((k:Int).fdiv 4)):=A5 (by decide) (by decide)
  haveI:Bd (((k:Int)).fmod 2) 3:=⟨y8 (by decide) (by decide)⟩
  haveI:Bd (((k:Int).fdiv 2).fmod 2) 3:=⟨y8 (by decide) (by decide)⟩
  haveI:Bd (((k:Int).fdiv 4)) 10:=⟨bits_fdiv (j9 (by lia) (by lia))⟩
  simp[u,d2,d4,N9]
 rw[ia I];refine lP (by simp[I]) ?_;by_cases L:c.fmod 7=1
 .rw[h9 L];refine jA (by simp[L]) ?_;simp[L,wE,DA,sizeLine]
 rw[ia L];refine lP (by simp[L]) ?_;by_cases O:c.fmod 7=2
 .rw[h9 O];refine jA (by simp[O]) ?_;have ad:∀x y:List D,x.length+y.length<=1000->XU (.lst x) (.lst y)=.ok (x++y):=λx y h=>HJ (small h);simp[O,xK,DA,sizeLine,gH,i5,YI,ad]
 rw[ia O];refine lP (by simp[O]) ?_;by_cases s:c.fmod 7=3
 .rw[h9 s];by_cases q3:(c.fdiv 6048).fmod 2=1
  .rw[h9 q3];obtain⟨n,en,C,_,et⟩:=ZY c;have q:=UZ (n:=n) (aAr C (by decide));have m:=HA n (aAr C (by decide));have f4:LK (.int 4) (.int ((c.fdiv 378).fmod 3))=.ok (.int (4*(c.fdiv 378).fmod 3)):=l8 (A3.of (show bits 4<=10 by decide) (y8 (n:=10) (by decide) (by decide)));have eb:(VR n).map vd=(aBc n).map λ(k:Nat)=>vd ⟨(k:Int).fmod 4,(k:Int).fdiv 4,(k:Int).fmod 4*(k:Int).fmod 4+(k:Int).fdiv 4*(k:Int).fdiv 4⟩:=aBd ..;rw[et,eb];refine jA (GY (D5 (FM s) rfl) (by simp-implicitDefEqProofs only[cF,cV,W9,R.aa0,d6,u,FM q3,BV])) ?_;simp only[cF,cV,R.aa0,W9,J4,O5,r,m3,f4,nU];rw[en,q,R.aa0];rw[AY m (J8 (λ(k:Nat)=>D.int (k:Int)) (λ(k:Nat)=>vd ⟨(k:Int).fmod 4,(k:Int).fdiv 4,(k:Int).fmod 4*(k:Int).fmod 4+(k:Int).fdiv 4*(k:Int).fdiv 4⟩) (aBc n) λk t=>⟨[.v (.int (k:Int))],rfl,?_⟩)]
   .rfl
   have J:=aBa.mp t;have d4:S9 (.int (k:Int)) (.int 4)=.ok (.int ((k:Int).fdiv 4)):=A5 (by decide) (by decide);have b1:bits ((k:Int).fmod 4)<=3:=y8 (by decide) (by decide);have b2:bits ((k:Int).fdiv 4)<=10:=bits_fdiv (j9 (by lia) (by lia));have p1:=l8 (A3.of b1 b1);have p2:=l8 (A3.of b2 b2);simp-implicitDefEqProofs only[J4,O5,cV,W9,R.aa0,m4,d4,p1,p2,nU];rfl
  rw[ia q3];refine lP (GY (D5 (FM s) rfl) (by simp-implicitDefEqProofs only[cF,cV,W9,R.aa0,d6,u,ZI q3,BV])) ?_;refine jA (by simp[s]) ?_;obtain⟨n,en,C,_,et⟩:=GN c;have q:=UZ (n:=n) (aAr C (by decide));have m:=HA n (aAr C (by decide));rw[et,UP];simp only[s,cF,cV,R.aa0,W9,vG,tZ,beq_self_eq_true,if_true,J4,O5,r,m16,nU];rw[en,q,R.aa0];rw[SW m (J8 (λ(k:Nat)=>D.int (k:Int)) (λ(k:Nat)=>vd ⟨(k:Int),(k:Int)*(k:Int),0⟩) (aBc n) λk t=>⟨[.v (.int (k:Int))],rfl,?_⟩)]
  .rw[R.aa0];simp only[aN,W6,R.aa0,a2i,a0q];rw[HJ (small (by rw[aAh,aCK];exact aAr (Nat.add_le_add_right C 1) (by decide)))];rfl
  have J:=aBa.mp t
  haveI:Bd (k:Int) 10:=⟨j9 (by lia) (by lia)⟩
  simp[N9]
 rw[ia s];refine lP (tw<|D5 (ZI s) rfl) ?_;refine lP (by simp[s]) ?_;refine M7 (ρ:=[.v (.lst Y),.v (.int c),.v (.int a),.v (.int b),.v (.int e),.v (.int (c.fmod 7)),.o ((jF a b e).map vd)]) ?_ ?_
 .simp[jF,show 4<=sizeLine by decide]
 obtain⟨t1,t2,t3⟩:=uF hi;have sl:wJ (.lst Y) (some 4) (some 9)=.ok (.lst ((Y.drop 4).take 5)):=TU Y 4 9 (by decide);rw[t1]at sl;simp only[cV,W9,R.aa0,a1x,sl,iZ];refine NJ (λrest ρ=>∃(B:List G.V) (p:List Int) (x:Sl),ρ=[.v (.lst Y),x,.v (.int a),.v (.int b),.v (.int e),.v (.int (c.fmod 7)),.o (B.map vd)]/\rest=p.map D.int/\(∀i∈p,bits i<=1048576)/\B.length+p.length<=9/\B++p.map (xZ c)=jF a b e++(dU Y).map (xZ c)) ?_ ⟨jF a b e,dU Y,_,rfl,rfl,t3,by simp[jF];lia,rfl⟩ ?_
 .rintro d ds ρ ⟨B,p,x,rfl,Q,yb,m,e2⟩;match p,Q with
  |i::p,Q=>
   injection Q with e3 e4;subst e3 e4;have hbi:=yb i (.head _);have hz:(B.map vd).length<sizeLine:=by rw[aAh];simp only[aAp]at m;exact aCt (show B.length<=1000 by lia) (by decide)
   have dd:∀k:Int,0<k->k<100->S9 (.int i) (.int k)=.ok (.int (i.fdiv k)):=λk h1 h2=>A5 h1 (by lia);have d2:=dd 2 (by decide) (by decide);have E:=dd 7 (by decide) (by decide);have T:=dd 49 (by decide) (by decide);clear dd;have ap:∀v:G.V,zR 6 [.v (.lst Y),.v (.int i),.v (.int a),.v (.int b),.v (.int e),.v (.int (c.fmod 7)),.o (B.map vd)] (vd v)=.ok (.nx [.v (.lst Y),.v (.int i),.v (.int a),.v (.int b),.v (.int e),.v (.int (c.fmod 7)),.o ((B++[v]).map vd)]):=λv=>by show(if(B.map vd).length<sizeLine then _ else _)=_;rw[h9 hz,aBh];rfl
   have gr:iP [.int (i.fdiv 2)]=.ok (vd<|qR<|i.fdiv 2):=h9 (f6<|bits_fdiv hbi);refine⟨[.v (.lst Y),.v (.int i),.v (.int a),.v (.int b),.v (.int e),.v (.int (c.fmod 7)),.o ((B++[xZ c i]).map vd)],?_,B++[xZ c i],p,_,rfl,rfl,λj hj=>yb j (.tail _ hj),by simp at m⊢;lia,by rw[<-e2];simp⟩;rw[<-ap];unfold xZ;by_cases U:c.fmod 7=5
   .rw[h9 (.inl U)];simp[U,d2,gr]
   by_cases k6:c.fmod 7=6
   .by_cases o2:i.fmod 2=1
    .rw[h9 (.inr ⟨k6,o2⟩)];simp[k6,u,o2,d2,gr]
    rw[ia (λz=>z.elim U λz=>o2 z.2)];simp[k6,u,o2,E,T,m7]
   rw[ia (λz=>z.elim U λz=>k6 z.1)];simp[U,k6,E,T,m7]
 rintro ρ ⟨B,p,x,rfl,Q,yb,m,e2⟩;have:p=[]:=by simpa using Q.symm
 subst this;rw[aCG,aCb]at e2;rw[<-e2];rfl
def bX(C9:z8 P w K mg base 1 "_law_cell_at" 2 G2)(g:fM K mg "_law_moved" aY):z8 P w K mg base 2 "_law_moved" 2 nP:=by
 refine' p9 (k:=1) (F:=_) g sE (λhr hu dh e=>?b) λds d hl h=>?_
 case b=>
  refine' (c7 (HP (d5 0)<|jD (n:=3) rfl<|B8 (n6 2 e)<|B8 (n6 3 e)<|B8 (n6 4 e) cU)
   (c7 (i7 5 (fI C9 hr (d5 1) c9) e)
   (c7 (i7 6 (i8 (PD.pb<|xM<|f9 c9<|f9 (b9 G6 n4 n4) m8)<|b9 t4 (b8 5) n4) e)
   (c7 (i7 2 (b9 m6 (b8 2)<|PD.pb<|b9 l6 (PD.pb<|b9 t4 (PD.pb<|b9 u3 (b8 5) n4)<|b8 6)<|b8 3) e)
   (c7 (i7 3 (b9 t6 (b8 3)<|PD.pb<|b9 l6 (PD.pb<|b9 t4 (PD.pb<|b9 u3 (PD.pb<|b9 l6 (b8 5)<|b8 5) n4)<|b8 6)<|b8 4) e)
   (c7 (i7 4 (b9 m6 (b8 4)<|PD.pb<|b9 l6 (PD.pb<|b9 t4 (PD.pb<|b9 u3 (PD.pb<|b9 l6 (b8 5) n4) n4)<|b8 6)<|b8 2) e)
   (c7 (B5 (l3 (U1 hu) (PD.pb<|b9 t4 (PD.pb<|b9 u3 (b8 5) n4) n4) n4) (e9<|OC 2 4 rfl e<|f9 (d5 4)<|f9 (d5 2) m8) t5)
   (c7 (i7 7 (fI C9 hr (d5 1) c9) e)
   (c7 (i7 6 (b9 m6 (PD.pb<|b9 l6 n4<|PD.pb<|b9 G6 n4 n4) n4) e)
   (c7 (i7 2 (b9 t6 (PD.pb<|b9 m6 (b8 2)<|PD.pb<|b9 t4 (PD.pb<|b9 m6 (PD.pb<|b9 l6 (b8 7) n4)<|PD.pb<|b9 G6 n4 n4)<|b8 6)<|PD.pb<|b9 G6 n4 n4) e)
   (c7 (i7 3 (b9 t6 (PD.pb<|b9 m6 (b8 3)<|PD.pb<|b9 t4 (PD.pb<|b9 m6 (PD.pb<|b9 l6 (PD.pb<|b9 l6 (b8 7)<|b8 7) n4)<|PD.pb<|b9 G6 n4 n4)<|b8 6)<|PD.pb<|b9 G6 n4 n4) e)
   (e9<|j3<|oM (d5 2) (d5 3)<|b9 t6 (PD.pb<|b9 m6 (b8 4)<|PD.pb<|b9 t4 (PD.pb<|b9 m6 (PD.pb<|b9 l6 (PD.pb<|b9 l6 (b8 7)<|b8 7)<|b8 7)<|PD.pb<|b9 G6 n4 n4)<|b8 6)<|PD.pb<|b9 G6 n4 n4))))))))))))
 match ds,h with
 |[.tup [.int a,.int b,.int c],.lst Y],h=>
  simp only[nP]at h;split at h
  .rename_i hz;obtain⟨hi,B⟩:=hz;rw[<-h];obtain⟨C,E⟩:=SY hi 1 (by decide);obtain⟨H,h2⟩:=SY hi 2 (by decide);have C:G2 [.lst Y,.int 1]=.ok (.int (cI Y 1)):=C;have H:G2 [.lst Y,.int 2]=.ok (.int (cI Y 2)):=H;generalize cI Y 1=k at*
   generalize cI Y 2=f at*
   obtain⟨I,jn,J⟩:=NB k
   haveI:Bd k 1048576:=⟨E⟩
   haveI:Bd f 1048576:=⟨h2⟩
   haveI:Bd a 100:=⟨B.1⟩
   haveI:Bd b 100:=⟨B.2.1⟩
   haveI:Bd c 100:=⟨B.2.2⟩
   have p6:xJ (.int 10) (.int 6)=.ok (.int 1000000):=rfl;have i:xJ (.int 10) (.int 20)=.ok (.int 100000000000000000000):=rfl;have L:∀x:Int,oR (.int x) (.int 2)=.ok (.int (x.fmod 2)):=λx=>aP (by decide);have N:∀x:Int,oR (.int x) (.int (FY k))=.ok (.int (x.fmod<|FY k)):=λx=>aP jn;have q:∀x:Int,Bd (x.fmod<|FY k) 20:=λx=>⟨y8 jn J⟩;have y:∀(x:Int) {j:Int},0<j->j<100->S9 (.int x) (.int j)=.ok (.int (x.fdiv j)):=λx j E h2=>A5 E (by lia);have d4:=λx=>y x (show(0:Int)<4 by decide) (by decide);have d2:=λx=>y x (show(0:Int)<2 by decide) (by decide);have O:=λx=>y x (show(0:Int)<16 by decide) (by decide);clear y;unfold fT;dsimp only
   haveI:=q (k.fdiv 4)
   haveI:=q ((k*k).fdiv 16)
   haveI:=q ((k*48611).fdiv 4)
   generalize FY k=Mk at*
   simp only[j6,aAk,aCG,aAO,aBO,aAp,aBn,aDh,aDi,aBV,aBW];refine u8 (by simp[QK,fV,Q5,mL];rfl) ?_;refine u8 (by simp[C];rfl) ?_;refine u8 (by simp[p6,L,I];rfl) ?_;obtain⟨s,m⟩:∃s,(k.fdiv 4).fmod Mk=s:=⟨_,rfl⟩;obtain⟨z,Q⟩:∃z,((k*k).fdiv 16).fmod Mk=z:=⟨_,rfl⟩;obtain⟨A,o⟩:∃A,((k*48611).fdiv 4).fmod Mk=A:=⟨_,rfl⟩;rw[m,Q,o]
   haveI:Bd s 20:=m▸q _
   haveI:Bd z 20:=Q▸q _
   haveI:Bd A 20:=o▸q _
   obtain⟨l,p⟩:∃l,a+s*b=l:=⟨_,rfl⟩
   haveI:Bd l 300:=⟨by rw[<-p];exact f6 (Bd.h (a:=a+s*b))⟩
   obtain⟨T,t⟩:∃T,b-z*c=T:=⟨_,rfl⟩;obtain⟨r,u⟩:∃r,c+A*l=r:=⟨_,rfl⟩;rw[p,t,u];refine u8 (by simp[d4,N,N9,m,p];rfl) ?_;refine u8 (by simp[O,N,N9,Q,t];rfl) ?_;refine u8 (by simp[d4,N,N9,o,u];rfl) ?_;refine u8 (ρ:=[.v (.tup [.int a,.int b,.int c]),.v (.lst Y),.v (.int (if(k.fdiv 2).fmod 2=1 then r else l)),.v (.int T),.v (.int (if(k.fdiv 2).fmod 2=1 then l else r)),.v (.int k),.v (.int Mk),.no]) ?_ ?_
   .by_cases hq:(k.fdiv 2).fmod 2=1
    .simp[d2,L,hq,QK,fV,Q5,mL]
    simp[d2,L,hq]
   generalize(if(k.fdiv 2).fmod 2=1 then r else l)=x2;generalize(if(k.fdiv 2).fmod 2=1 then l else r)=z2;have eM:(2:Int)*100000000000000000000+1=UI:=rfl;have U:∀x:Int,oR (.int x) (.int UI)=.ok (.int (x.fmod UI)):=λx=>aP (by decide);have eT:(100000000000000000000:Int)=GM:=rfl;refine u8 (by simp[H];rfl) ?_;refine u8 (by simp only[W9,R.aa0,i,N9 (show(2:Nat)<=60000000 by decide) (show(67:Nat)<=60000000 by decide),nU,eM,aCw,aCx];rfl) ?_;refine u8 (by rw[<-eT]at*;simp[i,U,N9];rfl) ?_;refine u8 (by rw[<-eT]at*;simp[i,U,N9];rfl) ?_;rw[<-eT];simp[i,U,N9]
  cases h
section
seal PySem.eval
def Y7(g:fM K mg "_law_flat" dM):z8 P w K mg base 1 "_law_flat" 2 bT:=by
 refine' p9 (k:=0) (F:=_) g wU (λi j l m=>?b) λe d n h=>?_
 case b=>refine' (e9<|j3<|i8 (PD.pb<|xM<|f9 (xW (i8 (b8 0) c9)<|i8 (b8 0) c9)<|f9 (xW (i8 (b8 0) c9)<|i8 (b8 0) c9)<|f9 (xW (i8 (b8 0) c9)<|i8 (b8 0) c9) m8)<|d5 1)
 match e,h with
 |[p,.int a],h=>
  simp only[bT]at h;split at h
  .rename_i o f;rw[sZ f];split at h
   .rename_i q;rw[<-h];rcases(show a=0\/a=1\/a=2 by lia)with rfl|rfl|rfl<;>simp[j6,vd,C3,G9,mF,DA,sizeLine,X6,oG,MA]
   exact absurd h (by simp)
  exact absurd h (by simp)
end
def R9(g:fM K mg "_law_turn" dF):z8 P w K mg base 1 "_law_turn" 3 fL:=by
 refine' p9 (k:=0) (F:=_) g xE (λt u v n=>?b) λz d A h=>?_
 case b=>
  refine' (c7 (i7 3 (b9 l6 (PD.pb<|b9 t6 (PD.pb<|i8 (b8 1) c9)<|PD.pb<|i8 (b8 0) c9)<|PD.pb<|b9 t6 (PD.pb<|i8 (b8 2) c9)<|PD.pb<|i8 (b8 0) c9) n)
   (e9<|j3<|b9 t6 (b8 3)<|PD.pb<|b9 l6 (PD.pb<|b9 t6 (PD.pb<|i8 (b8 1) c9)<|PD.pb<|i8 (b8 0) c9)<|PD.pb<|b9 t6 (PD.pb<|i8 (b8 2) c9)<|PD.pb<|i8 (b8 0) c9))
 unfold fL at h;split at h
 .rename_i a b c d e f;split at h
  .rename_i o;rw[<-h];obtain⟨j,p,q⟩:=o;have l:=j.sub p;have m:=j.sub q;have i:∀x y:Int,X6 (.tup [.int x,.int y]) (.int 0)=.ok (.int x)/\X6 (.tup [.int x,.int y]) (.int 1)=.ok (.int y):=λ_ _=>⟨rfl,rfl⟩;have r:=l8 (A3.of l.1 m.2);have s:=l8 (A3.of l.2 m.1);simp[j6,i,r,s,uH]
  exact absurd h (by simp)
 exact absurd h (by simp)
def Y4(R9:z8 P w K mg base 1 "_law_turn" 3 fL)(y:mg "sum"=none)(A:mg "range"=none)(B:mg "len"=none)(g:fM K mg "_law_area" Y6):z8 P w K mg base 2 "_law_area" 1 jC:=by
 refine' p9 (k:=1) (F:=_) g wC (λm C E H=>?b) λn d o h=>?_
 case b=>refine' (e9<|j3<|NQ (EX rfl)<|PD.pb<|Q9 ["k"] ["ring"] [0] rfl (J0 (sc:=c6 Y6) (N:=mN)) (V5<|u5 n4<|u5 (PD.pb<|b9 t6 (PD.pb<|NQ mE<|b8 0) n4) E8) (CI λ_ _ _ _ _=>(pc3 R9 m (i8 (b8 1) c9) (i8 (b8 1)<|d5 0)<|i8 (b8 1)<|b9 m6 (b8 0) n4))<|λ_=>o9)
 replace h:=bw h;obtain⟨r,n,rfl,h⟩:=h;replace h:=G7 h;obtain⟨rfl,h⟩:=h;replace h:=wZ h;obtain⟨⟨p,o,e⟩,rfl⟩:=h;have j:0<r.length:=Nat.pos_of_ne_zero λz=>p (aEr z);have q:gG [.int 1,.int ((r.length:Int)-1)]=.ok ((aEe 1<|r.length-1-1).map λ(k:Nat)=>D.int (k:Int)):=by have:=a4h (a:=1) (b:=r.length-1) (by lia) (by lia);rw[show((r.length-1:Nat):Int)=(r.length:Int)-1 by lia]at this;exact this
 have f:∀i:Nat,i<r.length->X6 (.lst (r.map G9)) (.int (i:Int))=.ok (G9<|r.getD i 0):=λi s=>cH (by rw[Y8 (by lia),aBH,aAG,getD_at s];rfl);have t:X6 (.lst (r.map G9)) (.int 0)=.ok (G9<|r.getD 0 0):=f 0 j;have len:=MU G9 r;have u:=OJ ((aEe 1<|r.length-1-1).map λk=>uH (r.getD 0 0) (r.getD k 0) (r.getD (k+1) 0));rw[NT];simp only[j6,aAk,aCG,aAO,aBO,aAp,aBn,aDh,aDi,aBV,aBW];refine a0g (D5 (x:=[.lst (((aEe 1<|r.length-1-1).map λk=>uH (r.getD 0 0) (r.getD k 0) (r.getD (k+1) 0)).map D.int)]) (cE<|D5 (x:=(aEe 1<|r.length-1-1).map λ(k:Nat)=>D.int (k:Int)) (D5 (eU rfl<|D5 (D5 (cE rfl) len) rfl) q) ?_) u);rw[jX (λ(k:Nat)=>D.int (k:Int)) D.int (λk=>uH (r.getD 0 0) (r.getD k 0) (r.getD (k+1) 0)) (aEe 1<|r.length-1-1) (by rw[List.length_range'];lia) λk l=>⟨[.v (.int (k:Int)),.v (.lst (r.map G9))],rfl,?_⟩];have l:=List.mem_range'_1.mp l;exact D5 (NV t (f k (by lia)) (f (k+1) (by lia))) (AV (e _<|iV j) (e _ (iV (by lia))) (e _ (iV (by lia))))
def dS(Y7:z8 P w K mg base 1 "_law_flat" 2 bT)(gg:z8 P w K mg base 8 "shadow_of" 2 W8)(L3:z8 P w K mg base 9 "shadow_area" 2 lL)(Y4:z8 P w K mg base 2 "_law_area" 1 jC)(R9:z8 P w K mg base 1 "_law_turn" 3 fL)(gc:mg "list"=none)(b_max:mg "max"=none)(cb:mg "range"=none)(eh:mg "len"=none)(uf:mg "min"=none)(g:fM K mg "_law_good" L8):z8 P w K mg base 10 "_law_good" 3 oO:=by
 refine' p9 (k:=9) (F:=_) g wR (λJ hu dh o=>?b) λds d hl h=>?_
 case b=>
  refine' (c7 (jN 3 ["P"] ["axis"] [2] o rfl (J0 (sc:=c6 L8) (N:=X9)) (t7<|d5 0) (CI λ_ _ _ _ _=>(fI Y7 J (d5 0)<|d5 1))<|λ_=>o9)
   (c7 (i7 4 (fI gg J (kN vK<|u5 (b8 0) E8)<|d5 2) o)
   (c7 (i7 5 (fI L3 J (kN vK<|u5 (b8 0) E8)<|d5 2) o)
   (c7 (i7 6 c9 o)
   (c7 (i7 7 c9 o)
   (c7 (M5 aBx rfl (t7<|d5 1) (jD (n:=2) rfl<|B8 (n6 8 o)<|B8 (n6 9 o) cU) (c7 (i7 10 (BU Y4 J<|Q9 ["P"] ["axis"] [2] rfl (J0 (sc:=c6 L8) (N:=X9)) (t7<|d5 9) (CI λ_ _ _ _ _=>(fI Y7 J (d5 0)<|d5 1))<|λ_=>o9) o)
   (c7 (i7 6 (b9 m6 (b8 6)<|PD.pb<|dH (HE rfl)<|u5 n4<|u5 (b8 10) E8) o)
   (e9<|i7 7 (b9 m6 (b8 7)<|PD.pb<|dH (HE rfl)<|u5 n4<|u5 (PD.pb<|b9 t6 n4<|b8 10) E8) o))))
   (c7 (B5 (ER.pt<|mC (l3 tN (b8 5) n4)<|mC (l3 (rL hu) (b8 6)<|b8 5)<|mC (l3 (rL hu) (b8 7)<|b8 5)<|oN<|l3 (rL hu) (PD.pb<|BU Y4 J<|d5 4)<|b8 5) (e9<|j3 qQ) t5)
   (c7 (M5 aBx rfl (V5<|u5 (PD.pb<|NQ mE<|b8 4) E8) (n6 11 o) (c7 (jN 12 ["spot"] ["shadow", "k"] [4,11] o rfl (J0 (sc:=c6 L8) (N:=X9)) (t7<|d5 3) (CI λ_ _ _ _ _=>(pc3 R9 J (i8 (b8 1)<|b9 t6 (b8 2) n4) (i8 (b8 1)<|d5 2)<|d5 0))<|λ_=>o9)
   (e9<|B5 (ER.pt<|mC (l3 (NE hu) (PD.pb<|i8 (b8 4)<|d5 11)<|b8 3)<|oN<|l3 tN (PD.pb<|dH (WE rfl)<|u5 (b8 12) E8) n4) (e9<|j3 qQ) t5)))
   (e9<|j3 qQ)))))))))
 replace h:=jj h;obtain⟨l,ds,rfl,h⟩:=h;replace h:=bU h;obtain⟨fs,ds,rfl,h⟩:=h;replace h:=W4 h;obtain⟨a,ds,rfl,h⟩:=h;replace h:=G7 h;obtain⟨rfl,h⟩:=h;replace h:=wZ h;obtain⟨⟨⟨B,rfl⟩,ha⟩,rfl⟩:=h;have hp:Fw l:=⟨B.sz.1,aAr B.len (by decide)⟩;have SH:=tM ha hp;have AR:=GX ha hp;obtain⟨f1,f2,f3⟩:=B.ac6;obtain⟨pu,pd,pp⟩:=jT B.sol B.ord a f1 f3;have sh:=bL (a:=a) B.sol;obtain⟨rs,rl⟩:=rA (a:=a) hp;have few:=B.few;have ln:l.length<=23:=B.len;have LF:∀P:G.V,bT [vd P,.int a]=.ok (G9<|C3 a P):=λP=>OI ha;have b2:∀P∈l,B2 (C3 a P).x (C3 a P).y:=λP L=>by have z:=ZH (a:=a) (B.sz.1 P L);exact⟨f6 z.1,f6 z.2.1⟩
 have PA:∀f∈j4 l,jC [.lst (((G.c8 l f).map (C3 a)).map G9)]=.ok (.int (G.dot (G.ar 0<|G.u9<|G.c8 l f)<|uA a))/\(G.c8 l f).length<=1000:=λf hf=>by
  have F:=(f1 f).mp hf;have S:=F.aa2 B.ord;have sub:∀X∈G.c8 l f,X∈l:=λX hX=>(G.c5.mp<|S.aa4 hX).1;have rl:(G.c8 l f).length<=l.length:=G.B6 S.aa3 sub;obtain⟨x,y,z,r,e⟩:=G.I9 B.ord F;refine⟨?_,by lia⟩;rw[<-WG];refine tR (λv i=>?_) ⟨λq=>?_,by rw[aAh];lia,λv i=>?_⟩
  .obtain⟨P,_,rfl⟩:=aAj.mp i;exact VC a P
  .have:G.c8 l f=[]:=aEK.mp q;have e:G.c8 l f=x::y::z::r:=e;rw[e]at this;cases this
  obtain⟨P,L,rfl⟩:=aAj.mp i;exact b2 P (sub P L)
 have zS:∀v∈i4 (l.map<|C3 a),v.z=0:=QN;have O:∀v∈l.map (C3 a),v∈i4 (l.map<|C3 a):=λv i=>l4.mpr i;have j:∀v∈v9 a l,v∈l.map (C3 a):=λv i=>l4.mp (sh.aa4 i);have left:∀k,k<(v9 a l).length->∀v∈l.map (C3 a),0<=uH (jS (v9 a l) k).1 (jS (v9 a l) k).2 v:=λk hk v i=>by
  have E:=sh.aa1.mp (show((jS (v9 a l) k).1,(jS (v9 a l) k).2)∈G.u9 (v9 a l)from XH hk);have:=E.left v (O v i);have dt:∀A B X:G.V,G.i3 ⟨0,0,1⟩ (B-A) (X-A)=uH A B X:=λA B X=>by simp[G.i3,G.dot,G.cr,uH];try grind
  rwa [dt]at this
 obtain⟨m,r0,Q,_,_⟩:=sh.aa7;have Rne:v9 a l≠[]:=λq=>by have Q:v9 a l=m::r0:=Q;rw[Q]at q;cases q
 have AS:=tR (r:=v9 a l) (λv i=>zS v (O v<|j v i)) ⟨Rne,by lia,λv i=>⟨(rs v i).1,(rs v i).2.1⟩⟩;have T:∀v∈l.map (C3 a),B2 v.x v.y:=λv i=>by obtain⟨P,L,rfl⟩:=aAj.mp i;exact b2 P L
 have Sne:l.map (C3 a)≠[]:=λq=>by have Q:v9 a l=m::r0:=Q;have:=j m (by rw[Q];exact .head _);rw[q]at this;cases this
 have Sn:(l.map<|C3 a).length<=30000:=by rw[aAh];lia
 clear Q sh rs O zS;generalize v9 a l=R at*
 generalize D2 R=A at*
 have len:=MU G9 R;simp only[j6,aAk,aCG,aAO,aBO,aAp,aBn,aDh,aDi,aBV,aBW];refine u8 (D5 (x:=.lst ((l.map<|C3 a).map G9)) (D5 (x:=l.map vd) rfl ?_) rfl) ?_
 .rw[jX vd G9 (C3 a) l (by lia) λP L=>⟨[.v (vd P),.v (.int a)],rfl,D5 (eU rfl rfl) (LF P)⟩]
 generalize l.map (C3 a)=S at*
 refine u8 (D5 (D5 (eU (D5 (cE rfl) rfl) rfl) SH) rfl) ?_;refine u8 (D5 (D5 (eU (D5 (cE rfl) rfl) rfl) AR) rfl) ?_;refine u8 rfl ?_;refine u8 rfl ?_;refine rB (x:=(j4 l).map (j8 l)) rfl ?_;refine cW (λrest ρ=>∃(s:List (G.V×Int)) (u d:Int) (x8 x9 t:Sl),rest=s.map (j8 l)/\(∀f∈s,f∈j4 l)/\ρ=[.v (.lst (l.map vd)),.v (.lst ((j4 l).map (j8 l))),.v (.int a),.v (.lst (S.map G9)),.v (.lst (R.map G9)),.v (.int A),.v (.int u),.v (.int d),x8,x9,t,.no,.no]/\u+(s.map λf=>max 0 (G.dot (G.ar 0<|G.u9<|G.c8 l f)<|uA a)).sum=A/\d+(s.map λf=>max 0 (-G.dot (G.ar 0<|G.u9<|G.c8 l f) (uA a))).sum=A) ?_ ⟨j4 l,0,0,_,_,_,rfl,λ_ h=>h,rfl,by rw[pu];lia,by rw[pd];lia⟩ ?_
 .rintro d ds ρ ⟨s,u,C,x8,x9,t,e1,e2,rfl,H,I⟩;match s,e1,e2,H,I with
  |f::s,e1,e2,H,I=>
   injection e1 with e5 e6;subst e5;obtain⟨q1,q2⟩:=PA f (e2 f<|.head _);rw[aAk,aAZ]at H I;generalize G.dot (G.ar 0<|G.u9<|G.c8 l f) (uA a)=p at*
   refine a1l (a:=wH f.1 f.2) (b:=.lst ((G.c8 l f).map vd)) rfl ?_;refine cQ (D5 (D5 (x:=[.lst (((G.c8 l f).map (C3 a)).map G9)]) (cE<|D5 (x:=(G.c8 l f).map vd) rfl ?_) q1) rfl) ?_
   .rw[jX vd G9 (C3 a) (G.c8 l f) (by lia) λP L=>⟨[.v (vd P),.v (.int a)],rfl,D5 (eU rfl rfl) (LF P)⟩]
   refine cQ (D5 (D5 rfl<|D5 (D5 (eU rfl rfl)<|NI 0 p) rfl) rfl) ?_;have e0:LX (.int 0) (.int p)=.ok (.int (-p)):=by rw[jO,Int.zero_sub]
   exact⟨_,D5 (D5 rfl<|D5 (D5 (eU rfl<|D5 rfl<|D5 rfl e0)<|NI 0 (-p)) rfl) rfl,s,_,_,_,_,_,e6,λg hg=>e2 g (.tail _ hg),rfl,by lia,by lia⟩
 rintro ρ ⟨s,u,C,x8,x9,t,e1,e2,rfl,H,I⟩;have:s=[]:=by simpa using e1.symm
 subst this;have H:u+0=A:=H;have I:C+0=A:=I;rw[aFJ]at H I;subst H;subst I;refine u8 (GC (GH (D5 (D5 rfl (D5 rfl (NL (by lia)))) rfl)<|GH (D5 (D5 rfl<|D5 rfl<|RD C) rfl)<|GH (D5 (D5 rfl<|D5 rfl<|RD C) rfl)<|D5 (D5 (D5 (cE rfl) AS)<|D5 rfl<|RD C) rfl)) ?_;refine rB (x:=fU 0 R.length) (D5 (cE<|D5 (cE rfl) len) (a1n (by lia))) ?_;refine VV (λ_ ρ=>∃U Y:Sl,ρ=[.v (.lst (l.map vd)),.v (.lst ((j4 l).map (j8 l))),.v (.int a),.v (.lst (S.map G9)),.v (.lst (R.map G9)),.v (.int C),.v (.int C),.v (.int C),x8,x9,t,U,Y]) ?_ ⟨_,_,rfl⟩ ?_
 .rintro k k1 k2 ρ ⟨U,Y,rfl⟩;have hk:k<R.length:=by lia
  have lf:=left k hk;have m2:R.getD k 0∈R:=iV hk;have m1:R.getD (if k=0 then R.length-1 else k-1) 0∈R:=iV (by split<;>lia);have i2:X6 (.lst (R.map G9)) (.int (k:Int))=.ok (G9<|R.getD k 0):=cH (by rw[Y8 (by lia),aBH,aAG,getD_at hk];rfl);have i1:X6 (.lst (R.map G9)) (.int ((k:Int)-1))=.ok (G9<|R.getD (if k=0 then R.length-1 else k-1) 0):=by
   by_cases q:k=0
   .subst q;obtain⟨_,_,e⟩:∃n,n=R.length-1/\(-1+(R.length:Int)).toNat=R.length-1:=⟨_,rfl,by lia⟩;refine cH ?_;unfold oG MA;rw[aAh,ia (by decide),h9 (by lia),show((0:Nat):Int)-1=-1 from rfl,e,h9 rfl];show(R.map G9)[R.length-1]?=_;rw[aAG,M.getD_at (by lia)];rfl
   rw[ia q,show(k:Int)-1=((k-1:Nat):Int)by lia];exact cH (by rw[Y8 (by lia),aBH,aAG,M.getD_at (by lia)];rfl)
  unfold jS at lf;dsimp only at lf;generalize R.getD (if k=0 then R.length-1 else k-1) 0=p at*
  generalize R.getD k 0=q at*
  refine uj rfl ?_;refine cQ (D5 (x:=.lst ((S.map<|uH p q).map D.int)) (D5 (x:=S.map G9) rfl ?_) rfl) ?_
  .rw[jX G9 D.int (uH p q) S Sn λv i=>⟨[.v (G9 v),.v (.lst (R.map G9)),.v (.int (k:Int))],rfl,?_⟩];exact D5 (NV (D5 rfl<|D5 rfl i1) i2 rfl) (AV (T p<|j p m1) (T q<|j q m2)<|T v i)
  refine⟨_,GC (GH (D5 (D5 (D5 rfl<|D5 rfl i2)<|D5 rfl<|a1p<|j q m2) rfl)<|D5 (D5 (D5 (cE rfl)<|xj λz=>Sne (aEK.mp z))<|D5 rfl<|NL ?_) rfl),_,_,rfl⟩;obtain⟨v,i,e⟩:=aAj.mp (yI (ns:=S.map (uH p q)) λz=>Sne (aEK.mp z));rw[<-e];exact lf v i
 rintro ρ ⟨U,Y,rfl⟩;rfl
section
seal PySem.eval
def o_law{f:bc}{fd:dA}(bX:z8 P w K mg base 2 "_law_moved" 2 nP)(X3:z8 P w K mg base 9 "faces_of" 1 Q4)(dS:z8 P w K mg base 10 "_law_good" 3 oO)(L3:z8 P w K mg base 9 "shadow_area" 2 lL)(aV:iA P w K mg base 2 "_law_near" 1 nT)(gM:iA P w K mg base 10 "body_of" 1 V9)(ml:mg "sum"=none)(gc:mg "list"=none)(cb:mg "range"=none)(F0:Fun K "law" "law" gA f fd):FnOk P w K mg base uO 11 f fd ["script"] (zq K 1 oC):=by
 refine' fnD (k:=10) (F:=_) F0 TD (λC A outer s H E z=>?b) λI d hl h=>?_
 case b=>
  have hu:=z.units;have dh:=z.ad9;have O:=TD.nd;refine' (c7 (Y3 1 (FI aV (z.mono (by decide)) (f9 (d5 0) m8)<|v8 O6) O)
   (c7 (Y3 2 (dZ<|f9 c9<|f9 c9<|f9 c9 m8) O)
   (c7 (M5 aBx rfl (t7<|xM<|f9 c9<|f9 (NQ (EX rfl)<|PD.pb<|fY (b8 0) (F6 c9)<|F6 c9) m8) (n6 3 O) (c7 (B5 (l3 (rL hu) (b8 3) n4) (e9<|P7 1<|oM (b9 t6 (PD.pb<|b9 t4 (b8 3) n4) n4) (b9 t6 (PD.pb<|b9 t4 (PD.pb<|b9 u3 (b8 3) n4) n4) n4)<|b9 t6 (PD.pb<|b9 t4 (PD.pb<|b9 u3 (b8 3) n4) n4) n4) t5)
   (c7 (QS 4 1 (FI gM (z.mono (by decide)) (f9 (Q9 ["spot"] ["script"] [0] rfl (J0 (sc:=c6 gA) (N:=ZL)) (t7<|d5 1) (CI λ_ _ _ _ _=>(fI bX z (d5 0)<|d5 1))<|λ_=>o9) m8)<|v8 O6) O)
   (c7 (i7 5 (BU X3 z<|kN vK<|u5 (b8 4) E8) O)
   (e9 (M5 aBx rfl (V5<|u5 n4 E8) (n6 6 O) (c7 (B5 (WX 4<|FT<|vT<|pc3 dS z (d5 4) (d5 5)<|d5 6) (e9<|j3 qQ) t5)
   (c7 (GW 4<|i7 7 (fI L3 z (d5 4)<|d5 6) O)
   (c7 (B5 (l3 tN (b8 7)<|PD.pb<|i8 (b8 2)<|d5 6) (e9<|j3 qQ) t5)
   (e9<|LJ 2 (d5 7)<|d5 6))))))))))
   (e9<|j3 qQ))))
 replace h:=bU h;obtain⟨Y,I,rfl,h⟩:=h;replace h:=G7 h;obtain⟨rfl,h⟩:=h;replace h:=wZ h;obtain⟨⟨hl,T⟩,rfl⟩:=h;have NR:nT [.lst Y]=.ok (.lst ((cG (cI Y 0)<|dU Y).map vd)):=wL T;obtain⟨z1,z2,z3⟩:=PJ (cI Y 0) (uF T).2.1;have MV:∀P,Sz 100 P->nP [vd P,.lst Y]=.ok (vd<|fT (cI Y 1) (cI Y 2) P):=λP hP=>h9 ⟨T,hP⟩;obtain⟨ns,en,bn⟩:=TL T (l:=(Y.drop 9).take (63-9)) λd Q=>aDF (aDE Q);have sl:wJ (.lst Y) (some 9) (some 63)=.ok (.lst ((Y.drop 9).take (63-9))):=TU Y 9 63 (by decide);rw[en]at sl;have sc:=OJ ns;have N0:N4 (cG (cI Y 0)<|dU Y) 2:=⟨z1,z3,by lia⟩;generalize cG (cI Y 0) (dU Y)=J at*
 generalize cI Y 1=n at*
 generalize cI Y 2=p at*
 generalize ns.sum=c at*
 simp only[j6,aAk,aCG,aAO,aBO,aAp,aBn,aDh,aDi,aBV,aBW];refine u8 (by simp-implicitDefEqProofs only[J4,O5,aN,W6,R.aa0,NR];rfl) ?_;refine u8 rfl ?_;refine rB (x:=[.int 0,.int c]) (D5 (D5 (eU rfl<|D5 (cE<|D5 rfl<|D5 rfl<|D5 rfl sl) sc) rfl) rfl) ?_;refine cW (λI ρ=>∃(l:List G.V) (w:Nat->Int) (U y t m g:Sl),ρ=[.v (.lst Y),.o (l.map vd),.o (w3 w),U,y,t,m,g]/\N4 l I.length/\(∀j,w j<=sA l n p j)/\∀d∈I,∃i,d=.int i) ?_ ⟨J,_,_,_,_,_,_,rfl,N0,gw n p N0,λd Q=>?_⟩ (λ_ _=>rfl)
 .rintro d I ρ ⟨l,w,U,y,t,m,g,rfl,r,u,n2⟩;obtain⟨i,rfl⟩:=n2 d (.head _);have n2:=λd Q=>n2 d (.tail _ Q);refine uj (ρ':=[.v (.lst Y),.o (l.map vd),.o (w3 w),.v (.int i),y,t,m,g]) rfl ?_;refine fy (λρ=>∃l,ρ=[.v (.lst Y),.o (l.map vd),.o (w3 w),.v (.int i),y,t,m,g]/\N4 l I.length/\∀j,w j<=sA l n p j) ?_ ?_
  .by_cases e:i=0
   .subst e;exact⟨_,rfl,l,rfl,⟨r.1,r.2.1,by have:=r.2.2;rw[aAp]at this;lia⟩,u⟩
   have n0:MH (.int i) (.int 0)=.ok (.bl (!decide (i=0))):=rfl;rw[decide_eq_false e]at n0;have m11:∀x:Int,oR (.int x) (.int 11)=.ok (.int (x.fmod 11)):=λx=>aP (by decide);have f1:=A5 (a:=i) (b:=11) (by decide) (by decide);have f2:=A5 (a:=i) (b:=121) (by decide) (by decide);have tp:mF [.int (i.fmod 11-5),.int ((i.fdiv 11).fmod 11-5),.int ((i.fdiv 121).fmod 11-5)]=.ok (vd<|pV4 i):=rfl;have n3:=ax i r;refine⟨[.v (.lst Y),.o (l.map vd++[vd (pV4 i)]),.o (w3 w),.v (.int i),y,t,m,g],?_,l++[pV4 i],by rw[aBh];rfl,n3,λj=>Int.le_trans (u j) (VF n p r n3 j)⟩;simp-implicitDefEqProofs only[J4,O5,cF,cV,W9,R.aa0,n0,BV,Bool.not_false,if_true,m11,f1,f2,jO,tp];exact h9 (by rw[aAh];exact aCt (show l.length<=21 by have:=r.2.2;lia) (by decide))
  rintro ρ ⟨l,rfl,r,u⟩;have K:=xP n p r;have BO:=WF K.1 K.2.1 K.2.2;have B:=IG K.1 K.2.1 K.2.2;have FO:=AU B.sz B.sol B.lok.2.2;rw[B.self]at FO;unfold sA at u;have hp:Fw (B0<|l.map<|fT n p):=⟨B.sz.1,aAr B.len (by decide)⟩;have fin:∀{w:Nat->Int}{U y t m g:Sl},(∀j,w j<=D2 (v9 (j:Int)<|B0<|l.map<|fT n p))->∃(l':List G.V) (w':Nat->Int) (y3 y4 y5 y6 y7:Sl),[.v (.lst Y),.o (l.map vd),.o (w3 w),U,y,t,m,g]=[.v (.lst Y),.o (l'.map vd),.o (w3 w'),y3,y4,y5,y6,y7]/\N4 l' I.length/\(∀j,w' j<=sA l' n p j)/\∀d∈I,∃i,d=.int i:=λh=>⟨l,_,_,_,_,_,_,rfl,r,h,n2⟩;refine cQ (ρ:=[.v (.lst Y),.o (l.map vd),.o (w3 w),.v (.int i),.o ((B0<|l.map<|fT n p).map vd),t,m,g]) ?_ ?_
  .have e0:gH 1 [.v (.lst Y),.o (l.map vd),.o (w3 w),.v (.int i),y,t,m,g]=[.v (.lst Y),.v (.lst (l.map vd)),.o (w3 w),.v (.int i),y,t,m,g]:=rfl;rw[e0];simp-implicitDefEqProofs only[J4,O5,aN,W6,R.aa0,fO];rw[jX vd vd (fT n p) l (by have:=r.2.2;lia) λP hP=>⟨[.v (vd P),.v (.lst Y)],rfl,D5 (eU rfl rfl) (MV P<|r.1 P hP)⟩];simp-implicitDefEqProofs only[R.aa0,BO,unl,BC,if_true];rfl
  generalize B0 (l.map<|fT n p)=L at*
  refine cQ (D5 (D5 (cE<|D5 (cE rfl) rfl) FO) rfl) ?_;refine a3u (x:=fU 0 3) rfl ?_;refine rz (λ_ ρ=>∃(w:Nat->Int) (W m g:Sl),ρ=[.v (.lst Y),.o (l.map vd),.o (w3 w),.v (.int i),W,.v (.lst ((j4 L).map (j8 L))),m,g]/\(W=.o (L.map vd)\/W=.v (.lst (L.map vd)))/\∀j,w j<=D2 (v9 (j:Int) L)) ?_ ⟨w,_,_,_,rfl,.inl rfl,u⟩ ?_
  .rintro a a1 a2 ρ ⟨w,W,m,g,rfl,hW,u⟩;have ha:0<=(a:Int)/\(a:Int)<=2:=by lia
   have LG:=KM B ha;have AR:=GX ha hp;refine uj (ρ':=[.v (.lst Y),.o (l.map vd),.o (w3 w),.v (.int i),W,.v (.lst ((j4 L).map (j8 L))),.v (.int (a:Int)),g]) rfl ?_;have eD:gH 4 [.v (.lst Y),.o (l.map vd),.o (w3 w),.v (.int i),W,.v (.lst ((j4 L).map (j8 L))),.v (.int (a:Int)),g]=[.v (.lst Y),.o (l.map vd),.o (w3 w),.v (.int i),.v (.lst (L.map vd)),.v (.lst ((j4 L).map (j8 L))),.v (.int (a:Int)),g]:=by rcases hW with rfl|rfl<;>rfl
   refine cQ (GC<|uk<|eD▸D5 (D5 (NV rfl rfl rfl) LG) rfl) ?_;refine cQ (ρ:=[.v (.lst Y),.o (l.map vd),.o (w3 w),.v (.int i),.v (.lst (L.map vd)),.v (.lst ((j4 L).map (j8 L))),.v (.int (a:Int)),.v (.int (D2<|v9 (a:Int) L))]) ?_ ?_
   .rw[eD];exact D5 (D5 (eU rfl rfl) AR) rfl
   refine cQ (GC (D5 (D5 rfl (D5 (D5 rfl (D5 rfl (a1o (by lia))))<|NL<|u a)) rfl)) ?_;refine⟨_,D5 rfl (D5 rfl (qk (w:=w) (by lia) rfl)),_,_,_,_,rfl,.inr rfl,λj=>?_⟩;by_cases q:j=a
   .rw[h9 q,q];exact aBy _
   rw[ia q];exact u j
  rintro ρ ⟨w,W,m,g,rfl,_,u⟩;exact fin u
 simp only[aAc,aAR,or_false]at Q;rcases Q with rfl|rfl
 .exact⟨_,rfl⟩
 exact⟨_,rfl⟩
end
end
end K44
section
namespace K44
open PySem L2 DL M
def truth(ns:List Int)(a:ns.length<=63)(b:∀x∈ns,aBe x<=1048576):oC [.lst (ns.map D.int)]=.ok (.bl true):=by unfold oC;exact h9 ⟨by simpa using a,VB b⟩
section
variable [Tabs]
def all_mk{l:PySem.W.OpenLaw}{w:cp}{K:ix}{h:cq}{mg:cM}{fa f32 Pt:bc}(X:K.In h)(G:h.Ns bt mg)(hfa:mg "law"=some (.ref fa))
  (g0:Got K "is_whole" gZ)
  (g1:Got K "way_between" Z0)
  (g2:Got K "cross_of" gN)
  (g3:Got K "product_of" bC)
  (g4:Got K "common_divisor" P9)
  (g5:Got K "plane_through" T4)
  (g6:Got K "side_of" kW)
  (g7:Got K "first_real_way" Q0)
  (g8:Got K "dimension_of" D4)
  (g9:Got K "refuse_flat" Z9)
  (g10:Got K "points_on" Y5)
  (g11:Got K "plane_about" Z1)
  (g12:Got K "first_pair" bE)
  (g13:Got K "turn_of" lJ)
  (g14:Got K "left_chain" bQ)
  (g15:Got K "ring_of" lA)
  (g16:Got K "pairs_round" Z3)
  (g17:Got K "faces_from" cC)
  (g18:YL K "faces_of" L6 Pt)
  (g19:Got K "corners_in" cD)
  (g20:Got K "body_of" lU)
  (g21:Got K "is_axis" kK)
  (g22:Got K "shadow_of" R5)
  (g23:Got K "shadow_area" R1)
  (g24:Got K "_law_cell_at" X1)
  (g25:Got K "_law_great" bY)
  (g26:Got K "_law_near" D7)
  (g27:Got K "_law_moved" aY)
  (g28:Got K "_law_flat" dM)
  (g29:Got K "_law_turn" dF)
  (g30:Got K "_law_area" Y6)
  (g31:Got K "_law_good" L8)
  {od32 an32:Option bc}{sl32:Array (Option au)}{oc32 kV32 dc32 pm32 cd32 ct32:au}
  (a32:PySem.W.nsIn K bt "law"=some (some (.ref f32))) (l32:K.lookup f32=some ⟨oc32,od32,.func (PySem.W.fnOf "law" "law" (E6 gA) (q8 gA) (c6 gA) .none kV32 dc32 pm32 an32 cd32 ct32),sl32⟩) (e32:PySem.W.codeIn K cd32 "law"=true) (k32:PySem.W.keepIn K (.ref f32)=true)
  (g:PySem.W.nsIn K bt "isinstance"=some none)
  (z_bool:PySem.W.nsIn K bt "bool"=some none)
  (z_int:PySem.W.nsIn K bt "int"=some none)
  (z_abs:PySem.W.nsIn K bt "abs"=some none)
  (z_len:PySem.W.nsIn K bt "len"=some none)
  (z_any:PySem.W.nsIn K bt "any"=some none)
  (z_min:PySem.W.nsIn K bt "min"=some none)
  (z_list:PySem.W.nsIn K bt "list"=some none)
  (t:PySem.W.nsIn K bt "reversed"=some none)
  (z_zip:PySem.W.nsIn K bt "zip"=some none)
  (z_sorted:PySem.W.nsIn K bt "sorted"=some none)
  (z_set:PySem.W.nsIn K bt "set"=some none)
  (z_sum:PySem.W.nsIn K bt "sum"=some none)
  (z_range:PySem.W.nsIn K bt "range"=some none)
  (z_max:PySem.W.nsIn K bt "max"=some none)
  {mo:bc}{H:Option bc}{u y z:Tok}{I:Nat}{J:Array (Option au)}
  (L:PySem.W.nsIn K bt "NO_WAY"=some (some (.ref mo))) (N:K.lookup mo=some ⟨.type "tuple",H,.seq #[.int 0 u,.int 0 y,.int 0 z] I,J⟩)
  {mr:bc}{O:Option bc}{A B C:Tok}{Q:Nat}{T:Array (Option au)}
  (U:PySem.W.nsIn K bt "UPWARD"=some (some (.ref mr))) (Y:K.lookup mr=some ⟨.type "tuple",O,.seq #[.int 0 A,.int 0 B,.int 1 C] Q,T⟩)
  (nt:(Pt,tbK)∈Tabs.tbs)
  (truth:∀ns:List Int,ns.length<=63->(∀x∈ns,aBe x<=1048576)->oC [.lst (ns.map D.int)]=.ok (.bl true)):
  ∃fd:dA,(∀(s:ba) (v:au),BindsTo s fd ⟨[v],[]⟩ [("script",v)])/\∀base:cq,K.In base->base.Ns bt mg->iS mg base->FnOk l.prog w K mg base uO 11 fa fd ["script"] (vU K):=by
 have e:=hfa.symm.trans (PySem.W.mg_of X G a32);cases e;have jb:=PySem.W.mg_none_of X G g;have xv:=PySem.W.mg_none_of X G z_bool;have b_int:=PySem.W.mg_none_of X G z_int;have b_abs:=PySem.W.mg_none_of X G z_abs;have eh:=PySem.W.mg_none_of X G z_len;have b_any:=PySem.W.mg_none_of X G z_any;have uf:=PySem.W.mg_none_of X G z_min;have gc:=PySem.W.mg_none_of X G z_list;have km:=PySem.W.mg_none_of X G t;have b_zip:=PySem.W.mg_none_of X G z_zip;have bh:=PySem.W.mg_none_of X G z_sorted;have mi:=PySem.W.mg_none_of X G z_set;have ml:=PySem.W.mg_none_of X G z_sum;have cb:=PySem.W.mg_none_of X G z_range;have b_max:=PySem.W.mg_none_of X G z_max;have br:DV K mg "NO_WAY" [0,0,0]:=ND (PySem.W.mg_of X G L) N;have kn:DV K mg "UPWARD" [0,0,1]:=ND (PySem.W.mg_of X G U) Y;refine⟨PySem.W.fnOf "law" "law" (E6 gA) (q8 gA) (c6 gA) .none kV32 dc32 pm32 an32 cd32 ct32,λs v=>.of_eq rfl,λbase _ _ hB=>?_⟩;have E:z8 l.prog w K mg base 1 "is_whole" 1 X8:=gP jb xv b_int (g0.def X G);have bg:z8 l.prog w K mg base 1 "way_between" 2 w5:=o5 (g1.def X G);have dg:z8 l.prog w K mg base 1 "cross_of" 2 D9:=F4 (g2.def X G);have bo:z8 l.prog w K mg base 1 "product_of" 2 w4:=z7 (g3.def X G);have a:z8 l.prog w K mg base 1 "common_divisor" 1 K0:=Q7 b_abs (g4.def X G);have d:=T8 dg bg a bo (g5.def X G);have r_side_of:z8 l.prog w K mg base 1 "side_of" 2 aS:=lH (g6.def X G);have b:z8 l.prog w K mg base 1 "first_real_way" 1 A7:=K3 br (g7.def X G);have gh:=J3 bg b dg bo eh b_any (g8.def X G);have f:=Z6 gh (g9.def X G);have jg:=J2 r_side_of (g10.def X G);have ic:=K9 bg bo dg d br (g11.def X G);have i:=bA jg ic gh uf (g12.def X G);have r_turn_of:=kL bo dg bg (g13.def X G);have j:=U8 r_turn_of eh (g14.def X G);have nh:=aM j gc km (g15.def X G);have ie:z8 l.prog w K mg base 1 "pairs_round" 1 aF:=K6 gc b_zip (g16.def X G);have k:=bK ic nh (ie.imp MI) eh bh (g17.def X G);have ko:=X3 jg f i k bh mi hB nt (g18.def X G);have ig:iA l.prog w K mg base 8 "corners_in" 1 J9:=aD bh mi (g19.def X G);have r_corners_in:=ig.cal;have kr:iA l.prog w K mg base 10 "body_of" 1 V9:=gM ko ig (g20.def X G);have r_body_of:=kr.cal;have r_is_axis:=kJ E (g21.def X G);have m:iA l.prog w K mg base 8 "shadow_of" 2 W8:=wY r_is_axis nh bh mi kn (g22.def X G);have jh:=m.cal;have il:=L3 ie jh ml (g23.def X G);have gi:z8 l.prog w K mg base 1 "_law_cell_at" 2 G2:=C9 eh (g24.def X G);have n:z8 l.prog w K mg base 1 "_law_great" 1 iP:=bB (g25.def X G);have jc:iA l.prog w K mg base 2 "_law_near" 1 nT:=aV gi n cb (g26.def X G);have r__law_near:=jc.cal;have o:=bX gi (g27.def X G);have p:z8 l.prog w K mg base 1 "_law_flat" 2 bT:=Y7 (g28.def X G);have ji:z8 l.prog w K mg base 1 "_law_turn" 3 fL:=R9 (g29.def X G);have q:=Y4 ji ml cb eh (g30.def X G);have r:=dS p jh il q ji gc b_max cb eh uf (g31.def X G);exact YA (o_law o ko r il jc kr ml gc cb<|NY (st:=gA) l32 e32 k32) truth
end
end K44
namespace PySem.W.Fast
def tw10504283203162502058:=0
def tw3632062256117406660:=0
def tw12720845305684578270:=0
def tw3492194758951693929:=0
def tw16180130425424221622:=0
def tw4153624439867441832:=0
def tw16181162260971836779:=0
def tw2095670671469435362:=0
def tw3703061398685554526:=0
def tw5773496120114214875:=0
def tw8766550998906759998:=0
def tw8019257520122557171:=0
def tw15678955792960606273:=0
def tw6150196740001897408:=0
def tw16165981989475517535:=0
def tw2949770913277700421:=0
def tw17047819502754238749:=0
def tw5274415338047452184:=0
def tw5935382464009522299:=0
def tw7759896267362865395:=0
def tw4994221396537697394:=0
def tw17912808053662332863:=0
def tw572961969984260179:=0
def tw4119638966665151005:=0
def tw5466236592649133122:=0
def tw16657920564271341990:=0
def tw11032762880008830142:=0
def tw12819305344651969754:=0
def tw17429720110679873070:=0
def tw2451946307922226824:=0
def tw16619792529588707599:=0
def tw90788562547842683:=0
def tw16163143688646033116:=0
def tw15312040347149292025:=0
def tw11770561041640557211:=0
def tw14902437855065608870:=0
def tw15087899895874774597:=0
def tw5057924011115490945:=0
def tw4908703583322248091:=0
def tw18072257460915078109:=0
def tw4536626084666627886:=0
def tw7161006193692237985:=0
def tw11712998039637926640:=0
def tw18286472308534366599:=0
def tw1949377611718995240:=0
def tw9548951996994716047:=0
def tw11232086026211393594:=0
def tw4685707148656901151:=0
def tw4580975574050947619:=0
def tw8753923753860640943:=0
def tw9040747340107419070:=0
def tw3685743835428908247:=0
def tw2369912692214175391:=0
def tw9720943106661724550:=0
def tw3981870675342225235:=0
def tw17850417031471907430:=0
def tw1927915121894126403:=0
def tw3120608514947195040:=0
def tw11633763512673412147:=0
def tw11580468555779269253:=0
def tw3157736866041972863:=0
def tw14560696375389488698:=0
def tw15506545692347895361:=0
def tw1798004374261143920:=0
def tw10532220633771128951:=0
def tw9283674871673193694:=0
def tw15196751212496583723:=0
def tw12067629348917016057:=0
def tw57444147581139284:=0
def tw9968565152374501625:=0
def tw9254711326200297425:=0
def tw7300178301501430618:=0
def tw8649952325614339952:=0
def tw5469003145730766801:=0
def tw2331493090780529509:=0
def tw1178059392472067060:=0
def tw10683076734631317165:=0
def tw14246704824211811653:=0
def tw18027727639326081876:=0
def tw345584327103258949:=0
def tw16636710298692397968:=0
def tw12988919295319844119:=0
def tw5437476572397681612:=0
def tw7831727728580359015:=0
def tw982133515435709183:=0
def tw781130166177143512:=0
def tw4820227787968944112:=0
def tw11291163160438785278:=0
def tw3381813252595292584:=0
def tw16370968009244572681:=0
def tw1220096118286358260:=0
def tw18446417500310719157:=0
def tw5172221023522836696:=0
def tw3380595395790619265:=0
def tw14476289944805301514:=0
def tw5177972198663583276:=0
def tw6731277145087343842:=0
def tw5632983957475600404:=0
def tw15589627758601572402:=0
def tw3965538797259054792:=0
def tw3529723105324612498:=0
def tw896616774033131969:=0
def tw5846951571935869085:=0
def tw3851352039671989852:=0
def tw7634493318625750127:=0
def tw2285764797029895455:=0
def tw3692809329687608621:=0
def tw7298541707659283748:=0
def tw14973021360137552280:=0
def tw16913367994488707935:=0
def tw16141980768971632182:=0
def tw210027348849051141:=0
def tw4096268617396425252:=0
def tw1632505528029153979:=0
def tw6563463740470156046:=0
def tw3075650970062172852:=0
def tw6231876668841143632:=0
def tw9523209605313283278:=0
def tw17345390644207731960:=0
def tw3570316952914294880:=0
def tw12793680281285904569:=0
def tw1647318899649818823:=0
def tw16510643690439296177:=0
def tw4959623628013250551:=0
def tw5443654131260735686:=0
def tw715105111311369992:=0
def tw8169842558058332442:=0
def tw14535803927481952075:=0
def tw3902823749721755323:=0
def tw16362770815318731159:=0
def tw14586777225511697268:=0
def tw17217049948369749137:=0
def tw6889389836118402777:=0
def tw11781023164651941326:=0
def tw13167535972631898729:=0
def tw14771250773290192182:=0
def tw17461754639899253849:=0
def tw7587665985517390599:=0
def tw9593033885041860894:=0
def tw12741997447337450331:=0
def tw17646837498517796963:=0
def tw5856096919811679151:=0
def tw8388493538758617452:=0
def tw11728870436033579904:=0
def tw12378197016146777344:=0
def tw14812870320136670360:=0
def tw15660495732353068637:=0
def tw16751720326383041835:=0
def tw18243090413596073884:=0
def tw3000543399291554360:=0
def tw3159871617876029571:=0
def tw4739896500896497157:=0
def tw584961459878638748:=0
def tw6044031768580048149:=0
def tw6741697781591812820:=0
end PySem.W.Fast
open PySem PySem.W PyProof.Rows
set_option maxRecDepth 100000 in
theorem PySem.Challenge.cw_stakebodies_k44_whole_shadows_and_faces_holds : PySem.Challenge.rw_stakebodies_k44_whole_shadows_and_faces.Holds := by
 w_on;o_law;k_head;(case hw=>w_witness2)
 k_fill
 letI tabs9:DL.Tabs:=⟨[(188,K44.tbK)]⟩
 refine DL.VP (l:=PySem.Challenge.rw_stakebodies_k44_whole_shadows_and_faces) (k:=11) rfl rfl ⟨rfl,by decide,by decide⟩ (λw h Y=>⟨PySem.W.km_in_of Y,PySem.W.km_tabs_of Y⟩) (DL.VG (c:=192) (by k_mem) (λw=>by kernel_rfl)) (aAH.mpr ⟨aAR,aCU⟩) (λw=>by kernel_rfl) ?F
 case F=>
  intro w mg fa h KX G hmg;refine' K44.all_mk KX G hmg ?_ ?_ ?_ ?_ ?_ ?_ ?_ ?_ ?_ ?_ ?_ ?_ ?_ ?_ ?_ ?_ ?_ ?_ ?_ ?_ ?_ ?_ ?_ ?_ ?_ ?_ ?_ ?_ ?_ ?_ ?_ ?_ ?a32 ?l32 ?e32 ?k32 ?z_isinstance ?z_bool ?z_int ?z_abs ?z_len ?z_any ?z_min ?z_list ?z_reversed ?z_zip ?z_sorted ?z_set ?z_sum ?z_range ?z_max ?ca_NO_WAY ?cl_NO_WAY ?ca_UPWARD ?cl_UPWARD (aAJ.mpr rfl) K44.truth
  all_goals first|(refine' DL.aq ?a ?l ?c ?k;(case a=>k_is);(case l=>k_is);(case c=>k_is);(case k=>k_is))|(refine' DL.WT ?a ?l ?c ?k rfl ?n;(case a=>k_is);(case l=>k_is);(case c=>k_is);(case k=>k_is);(case n=>kernel_rfl))|k_is|skip
end
